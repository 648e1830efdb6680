import PyProof.Rows.All
import Wide.All
import OpenK.AllK
import Wide.FinOn
import Lean
import PyProof.EqAt
import PyProof.EqKinds
import PyProof.TupleCall
import PyProof.Rows.SortStr
import KE.KDictSum
import PyProof.NeKinds
import KE.KRevIter
import KE.KIntText
import PyProof.StrLawsIn
import PyProof.StrLawsJoin
import PyProof.StrCalls2
import PySem.Challenge.RW_hangmobile_k04_texts_refused

set_option Elab.async false
set_option linter.all false
namespace HD
open PySem PySem.W PyProof.Rows PySem.Calls

abbrev ST := SharedT → Thread → Option (SharedT × Thread)
noncomputable def one (thr ok : Thread → Bool) (st : ST) : ST := fun s t =>
  Bool.rec (motive := fun _ => Option (SharedT × Thread)) (Bool.rec (motive := fun _ => Option (SharedT × Thread)) none (st s t) (ok t)) (some (s, t)) (thr t)
noncomputable def pw (f : ST) (k : Nat) : ST :=
  Nat.rec (motive := fun _ => ST) f (fun _ g s t => Option.rec (motive := fun _ => Option (SharedT × Thread)) none (fun x => Prod.rec (motive := fun _ => Option (SharedT × Thread)) (fun s' t' => g s' t') x) (g s t)) k
theorem pw_succ (f : ST) (k : Nat) (s : SharedT) (t : Thread) : pw f (k + 1) s t = (pw f k s t).bind fun x => pw f k x.1 x.2 := by
  show Option.rec (motive := fun _ => Option (SharedT × Thread)) none (fun x => Prod.rec (motive := fun _ => Option (SharedT × Thread)) (fun s' t' => pw f k s' t') x) (pw f k s t) = _
  cases pw f k s t <;> rfl
section
variable {tb : String → Option Builtin} {p : Program} {w : World} {n₀ : Nat} {ann : Option Value}
theorem one_of {s s' : SharedT} {t t' : Thread} (h : one through (stepOk n₀ ann) (stepT (denote tb) p w) s t = some (s', t')) (N : Nat) (r : Shared) (k : topRun tb p w n₀ ann N s'.abs t' = some r) : topRun tb p w n₀ ann (N + 1) s.abs t = some r := by
  unfold one at h
  cases ht : through t with
  | true =>
    rw [ht] at h
    obtain ⟨rfl, rfl⟩ := Prod.mk.inj (Option.some.inj h)
    exact topRun_mono 1 _ _ _ _ k
  | false =>
    rw [ht] at h
    unfold topRun
    rw [ht]
    cases hk : stepOk n₀ ann t with
    | false => rw [hk] at h; exact nomatch (show (none : Option (SharedT × Thread)) = some _ from h)
    | true => rw [hk] at h; dsimp only; rw [stepT_spec h]; exact k
theorem pw_of : ∀ {k : Nat} {s s' : SharedT} {t t' : Thread}, pw (one through (stepOk n₀ ann) (stepT (denote tb) p w)) k s t = some (s', t') → ∀ (N : Nat) (r : Shared), topRun tb p w n₀ ann N s'.abs t' = some r → topRun tb p w n₀ ann (N + 2 ^ k) s.abs t = some r
  | 0, _, _, _, _, h => one_of h
  | k + 1, s, s', t, t', h => fun N r q => by
    rw [pw_succ] at h
    obtain ⟨⟨s₁, t₁⟩, a, b⟩ := Option.bind_eq_some_iff.mp h
    have := pw_of a _ _ (pw_of b N r q)
    rwa [Nat.add_assoc, ← Nat.two_mul, Nat.mul_comm, ← Nat.pow_succ] at this
end

/-- the top's run by trees, as one look at its end, gives what the head wants -/
theorem left_of_T {p q : Program} {ls : List Str} {Xt : Shared → Bool} {α : Type} {Yf : Shared → α} {Ya : World → α} {g : Bool} {B : Params → Heap} {T : Params → BT} {n m c M : Nat} {lf : Life} {dr : Drawn} {an : Option Value}
    (hopen : ∀ w : World, (fencedOpening treeTable p w (1 + 2 ^ M)).map (fun x => (x.heap, x.gens, x.drawn, x.toks)) = some (B w.params, Array.mk [], dr, c))
    (habs : ∀ P, absHeap (T P) n lf = B P)
    (hsz : ∀ w : World, ((B w.params).isNs mainGlobals, (B w.params).objs.size, (B w.params).nsMap mainGlobals "__annotations__") = (true, m, an))
    {thr ok : Thread → Bool} {st : World → ST} (ht : through = thr) (hk : stepOk m an = ok) (hs : ∀ w, stepT (denote treeTable) p w = st w)
    (hrun : ∀ w : World, (fun o => (pw (one thr ok (st w)) M ⟨T w.params, n, lf, Array.mk [], dr, c, o⟩ (topStub p)).map (fun x => (thr x.2,
        (staticsOk (importedModules p.main.body) (B w.params) x.1.abs.heap && namesBound p x.1.abs.heap && gensDone x.1.abs && laidKept (B w.params) x.1.abs.heap), openSeen q ls (importedModules p.main.body) Xt g x.1.abs, Yf x.1.abs))) =
      fun _ => some (true, true, openGood q ls, Ya w)) : LeftO p q ls Xt Yf Ya (1 + 2 ^ M) g := by
  intro w
  cases e : fencedOpening treeTable p w (1 + 2 ^ M) with
  | none => have := hopen w; rw [e] at this; exact nomatch this
  | some b =>
    have hb := hopen w
    rw [e] at hb
    have hb := Option.some.inj hb
    obtain ⟨bh, bg, bd, bt, bo⟩ := b
    have b1 : bh = B w.params := congrArg Prod.fst hb
    have b2 : bg = Array.mk [] := congrArg (fun x => x.2.1) hb
    have b3 : bd = dr := congrArg (fun x => x.2.2.1) hb
    have b4 : bt = c := congrArg (fun x => x.2.2.2) hb
    subst b1 b2 b3 b4
    have z1 := congrArg (fun x => x.1) (hsz w)
    have z2 := congrArg (fun x => x.2.1) (hsz w)
    have z3 := congrArg (fun x => x.2.2) (hsz w)
    dsimp only at z1 z2 z3
    obtain ⟨⟨y, u⟩, hy, hv⟩ := Option.map_eq_some_iff.mp (congrFun (hrun w) bo)
    subst ht hk
    rw [← hs] at hy
    have v0 : through u = true := congrArg (fun x => x.1) hv
    have v1 := congrArg (fun x => x.2.1) hv
    have v2 := congrArg (fun x => x.2.2) hv
    dsimp only at v1 v2
    have R := pw_of hy 1 y.abs (by unfold topRun; rw [v0])
    have R : topRun treeTable p w m an (1 + 2 ^ M) ⟨B w.params, Array.mk [], bd, bt, bo⟩ (topStub p) = some y.abs := habs w.params ▸ R
    unfold openEnds
    rw [e, Option.bind_some]
    unfold topFrom
    dsimp only
    rw [z1, z2, z3, R]
    dsimp only [Option.bind_some]
    rw [v1, ← v2]
    rfl

noncomputable def ofL (l : List Obj) : BT := (List.foldl (fun (x : BT × Nat) o => (x.1.ins x.2 o, Nat.succ x.2)) (BT.nil, 0) l).1
noncomputable def bootT (P : Params) : BT := ofL (boot_heap P).objs.toList
noncomputable def vw : Program := view PySem.Challenge.pw_hangmobile_k04_texts_refused [33]
noncomputable def ls : List Str := ["_wall", "MobileError", "NoNumber", "NoPlace", "NoText", "common_divisor", "fraction", "under", "NOUGHT", "check_above_nought", "Hung", "Weight", "Rod", "FIGURES", "Reader", "read", "_law_cell_at", "_law_whole", "_law_lowest", "_law_mixed", "_law_number_by", "_law_base", "_law_sign", "_law_spoiled", "_law_odd", "_law_shown_number", "_law_shown", "_law_right"].map Str.ofString
theorem said : OpenLaw.wellSaid PySem.Challenge.rw_hangmobile_k04_texts_refused = true := (congrFun Fast.te9446332074065402090 _).trans (by kernel_rfl)
end HD
set_option hygiene false
local macro_rules | `(tactic| o_law) => `(tactic| refine PySem.W.holds_law HD.said fun said => ?_)
local macro_rules | `(tactic| o_head $H) => `(tactic| (refine PySem.W.holds_open (q := HD.vw) (loose := HD.ls) (Xt := fun s => PySem.W.xlAt HD.vw [] s && PySem.W.recOk (PySem.W.RowW.records (PySem.W.OpenRow.toRowW (PySem.W.OpenLaw.row PySem.Challenge.rw_hangmobile_k04_texts_refused))) s) (XP := PySem.W.XL HD.vw []) (Yf := PySem.W.Hook.obs $H) (Ya := PySem.W.Hook.val $H) (YP := PySem.W.Hook.says $H) (N := 1 + 2 ^ 12) ?hl (PySem.W.Hook.of $H) (PySem.W.Hook.keeps $H) (fun s e => PySem.W.xl_of s (Bool.and_eq_true_iff.mp e).1) PySem.W.XL.keeps (by rfl) (by rfl) (by rfl) (fun s e => PySem.W.recFacts_of (Bool.and_eq_true_iff.mp e).2) (by rfl) (by first | assumption | decide +kernel) (by decide +kernel) ⟨rfl, rfl, rfl, rfl, rfl, by decide +kernel⟩ ?hw ?hc; (case hl => refine HD.left_of_T (T := HD.bootT) (n := 11) (m := 11) (an := some (PySem.Value.ref 6)) (PySem.W.boot_open (by kernel_rfl) (by kernel_rfl) (fun s => by kernel_rfl)) (lf := ⟨[], [], [], 0, [], [], false, #[], [], 0, false, false, false, 0, [2000, 10, 10], false, 0, true, [], [], 0, false⟩) (fun P => by kernel_rfl) (fun w => by kernel_rfl) (thr := PySem.W.through) (ok := PySem.W.Fast.tw6613529449190102663 11 (some (PySem.Value.ref 6))) (st := fun w => PySem.W.Fast.tw10156331382660048174 (PySem.W.Fast.tw11892475500146522536 PySem.W.Fast.tw14364793385576792824) PySem.Challenge.pw_hangmobile_k04_texts_refused w) rfl (congrFun (congrFun PySem.W.Fast.te6613529449190102663 _) _) (fun w => by rw [PySem.W.Fast.te10156331382660048174, PySem.W.Fast.te11892475500146522536, PySem.W.Fast.te14364793385576792824]; rfl) (fun w => by kernel_rfl))))
set_option maxRecDepth 100000 in
set_option maxHeartbeats 0 in
open_top HD.hd for PySem.Challenge.rw_hangmobile_k04_texts_refused
set_option hygiene true
set_option Elab.async false
set_option linter.all false
set_option maxRecDepth 100000
/-! THE HAND LAYER, for ints, bools, texts, own classes, LISTS and tuples (index, slices, in, append, pop ..), calls, loops. Paste it whole ahead of your own text; what your proof does not reach may be deleted. -/
namespace L2
open PySem PySem.Spec PyProof.Rows

/-- a key: an int or a str -/
abbrev Key := Sum Int Str
def keyIs : Key → Value → Bool
  | .inl k, v => Value.isInt k v
  | .inr x, v => Value.isStrOf x v
def keyH (w : World) : Key → Int
  | .inl k => hashInt k
  | .inr x => hashStr w x
theorem keyIs_shape : ∀ {k : Key} {v : Value}, keyIs k v = true → (∃ i t, k = Sum.inl i ∧ v = Value.int i t) ∨ (∃ x t, k = Sum.inr x ∧ v = Value.str x t)
  | .inl i, v, h => by
    obtain ⟨t, e⟩ := Value.isInt_shape (k := i) (v := v) h
    exact .inl ⟨i, t, rfl, e⟩
  | .inr x, v, h => by
    obtain ⟨t, e⟩ := Value.isStrOf_shape (x := x) (v := v) h
    exact .inr ⟨x, t, rfl, e⟩
theorem key_ll (a b : Int) : decide ((Sum.inl a : Key) = Sum.inl b) = (a == b) := by
  by_cases e : a = b
  · subst e; simp
  · have h : ¬ (Sum.inl a : Key) = Sum.inl b := fun q => e (Sum.inl.inj q)
    rw [decide_eq_false h]
    exact (beq_eq_false_iff_ne.mpr e).symm
theorem key_rr (a b : Str) : decide ((Sum.inr a : Key) = Sum.inr b) = decide (a = b) := by
  by_cases e : a = b
  · subst e; simp
  · have h : ¬ (Sum.inr a : Key) = Sum.inr b := fun q => e (Sum.inr.inj q)
    rw [decide_eq_false h, decide_eq_false e]
theorem key_lr (a : Int) (b : Str) : decide ((Sum.inl a : Key) = Sum.inr b) = false := decide_eq_false (fun q => nomatch q)
theorem key_rl (a : Str) (b : Int) : decide ((Sum.inr a : Key) = Sum.inl b) = false := decide_eq_false (fun q => nomatch q)

def mixKind (prog : Program) (w : World) : PySem.KeyKind prog w Key where
  is := keyIs
  hash := keyH w
  inj := fun v a b ha hb => by
    rcases keyIs_shape ha with ⟨i, t, rfl, rfl⟩ | ⟨x, t, rfl, rfl⟩
    · rcases keyIs_shape hb with ⟨j, u, rfl, e⟩ | ⟨y, u, rfl, e⟩
      · injection e with e1 _; rw [e1]
      · exact nomatch e
    · rcases keyIs_shape hb with ⟨j, u, rfl, e⟩ | ⟨y, u, rfl, e⟩
      · exact nomatch e
      · injection e with e1 _; rw [e1]
  byValue := fun k v h => by
    rcases keyIs_shape h with ⟨i, t, rfl, rfl⟩ | ⟨x, t, rfl, rfl⟩ <;> rfl
  pyHash := fun hv h => by
    rcases keyIs_shape hv with ⟨i, t, rfl, rfl⟩ | ⟨x, t, rfl, rfl⟩
    · exact wpAny_pyHash_int h
    · exact wpAny_pyHash_str h
  eqBool := fun hu hv h => by
    rcases keyIs_shape hu with ⟨i, t, rfl, rfl⟩ | ⟨x, t, rfl, rfl⟩
    · rcases keyIs_shape hv with ⟨j, u, rfl, rfl⟩ | ⟨y, u, rfl, rfl⟩
      · rw [key_ll] at h; exact wpAny_eqBool_int h
      · rw [key_lr] at h; exact SeqAt.EqAt.int_str i t y u _ _ _ _ h
    · rcases keyIs_shape hv with ⟨j, u, rfl, rfl⟩ | ⟨y, u, rfl, rfl⟩
      · rw [key_rl] at h; exact SeqAt.EqAt.str_int x t j u _ _ _ _ h
      · rw [key_rr] at h; exact wpAny_eqBool_str h
  «strs» := fun k x t v h => by
    rcases keyIs_shape h with ⟨i, u, rfl, e⟩ | ⟨y, u, rfl, e⟩
    · exact nomatch e
    · injection e with e1 _
      subst e1
      cases v <;> rfl

end L2

namespace L2
open PySem PySem.Spec PyProof.Rows

set_option genSizeOf false in
/-- a value, without the heap -/
inductive V where
  | non | bl (b : Bool) | int (i : Int) | str (x : Str) | byt (b : Array UInt8) | flt (b : UInt64) | ref (a : Addr) | ty (n : String)
  deriving DecidableEq

def RelV : V → Value → Prop
  | .non, u => u = Value.none
  | .bl b, u => u = Value.bool b
  | .int i, u => ∃ t, u = Value.int i t
  | .str x, u => ∃ t, u = Value.str x t
  | .byt b, u => ∃ t, u = Value.bytes b t
  | .flt b, u => ∃ t, u = Value.float b t
  | .ref a, u => u = Value.ref a
  | .ty n, u => u = Value.type n

abbrev Vals : List V → List Value → Prop := Paired RelV
theorem Vals.length {xs : List V} {us : List Value} (r : Vals xs us) : xs.length = us.length := Paired.length r
theorem Vals.get : ∀ {xs : List V} {us : List Value} {i : Nat} {x : V}, Vals xs us → xs[i]? = some x → ∃ u, us[i]? = some u ∧ RelV x u
  | _, _, _, _, .nil, e => by simp at e
  | _, _, 0, _, .cons r _, e => by simp at e; subst e; exact ⟨_, rfl, r⟩
  | _, _, i + 1, x, .cons _ t, e => by
    obtain ⟨u, h1, h2⟩ := Vals.get (i := i) (x := x) t (by simpa using e)
    exact ⟨u, by simpa using h1, h2⟩
theorem Vals.append : ∀ {xs ys : List V} {us ws : List Value}, Vals xs us → Vals ys ws → Vals (xs ++ ys) (us ++ ws)
  | _, _, _, _, .nil, s => s
  | _, _, _, _, .cons r t, s => .cons r (Vals.append t s)
theorem Vals.take : ∀ {xs : List V} {us : List Value} (n : Nat), Vals xs us → Vals (xs.take n) (us.take n)
  | _, _, 0, _ => .nil
  | _, _, _ + 1, .nil => .nil
  | _, _, n + 1, .cons r t => .cons r (Vals.take n t)
theorem Vals.drop : ∀ {xs : List V} {us : List Value} (n : Nat), Vals xs us → Vals (xs.drop n) (us.drop n)
  | _, _, 0, r => r
  | _, _, _ + 1, .nil => .nil
  | _, _, n + 1, .cons _ t => Vals.drop n t
def RelO : Option V → Option Value → Prop
  | some v, some u => RelV v u
  | none, none => True
  | _, _ => False
def KV {κ : Type} : List (κ × V) → List (κ × Value) → Prop := Paired fun (p : κ × V) (q : κ × Value) => p.1 = q.1 ∧ RelV p.2 q.2

/-- a key of a dict (00_mix): an int or a text -/
def kV : Key → V
  | .inl i => .int i
  | .inr x => .str x

set_option genSizeOf false in
/-- what stands at a tracked address -/
inductive HO where
  /-- a list -/
  | lst (xs : List V)
  /-- a tuple (never changes) -/
  | tup (xs : List V)
  /-- a dict whose keys are ints and texts; one whose keys are tuples of ints and texts (the empty one is both) -/
  | dK (kvs : List (Key × V)) | dT (kvs : List (List Key × V))
  /-- a set of ints: its members, its size -/
  | set (S : Int → Bool) (n : Nat)
  /-- an instance of the class at C, its dict at dx, its attributes -/
  | ins (C dx : Addr) (fs : List (Str × V))
  /-- the dict of the instance at x -/
  | own (x : Addr)
  /-- the dict of an exception -/
  | xd (fs : List (Str × V))
  /-- a bound method, f of x -/
  | met (f x : Addr)
  /-- a range object lo, lo + 1, .. below hi -/
  | rng (lo hi : Int)
  /-- a thing that is known to the object (the script; a dict while a loop walks it): read, never written while it is so -/
  | frz (o : Obj) (u : HO)
  /-- a code object's table -/
  | tbl (ps : Array Value)
  /-- any other thing, by what is true of its one object (a def of one's own: SetO a S n := HO.ext fun h => ..) -/
  | ext (φ : Heap → Prop)

abbrev Hp := Addr → Option HO
def upd (H : Hp) (a : Addr) (o : HO) : Hp := fun b => if b = a then some o else H b
theorem upd_same {H : Hp} {a : Addr} {o : HO} : upd H a o a = some o := by unfold upd; rw [if_pos rfl]
theorem upd_ne {H : Hp} {a b : Addr} {o : HO} (h : b ≠ a) : upd H a o b = H b := by unfold upd; rw [if_neg h]
theorem upd_upd {H : Hp} {a : Addr} {o u : HO} : upd (upd H a o) a u = upd H a u := by
  funext b; unfold upd; split <;> rfl
/-- two objects of different content stand apart -/
theorem ne_of {H : Hp} {a b : Addr} {o u : HO} (h : H a = some o) (h' : H b = some u) (d : o ≠ u) : a ≠ b := by
  intro e; subst e; rw [h] at h'; exact d (Option.some.inj h')
theorem ne_of_none {H : Hp} {a b : Addr} {o : HO} (h : H a = some o) (h' : H b = none) : a ≠ b := by
  intro e; subst e; rw [h] at h'; cases h'

section
variable (P : Program) (w : World)
def ObjOk (H : Hp) (h : Heap) (a : Addr) : HO → Prop
  | .lst xs => xs.length ≤ sizeLine ∧ ∃ (its : List Value) (n : Nat), Vals xs its ∧ h.get? a = some { cls := .type "list", data := .seq its.toArray n }
  | .tup xs => xs.length ≤ sizeLine ∧ ∃ its : List Value, Vals xs its ∧ IsTup h a its.toArray
  | .dK kvs => kvs.length ≤ sizeLine ∧ (a == sysModules) = false ∧ ∃ vs, KV kvs vs ∧ h.DictOf (mixKind P w) a vs
  | .dT kvs => kvs.length ≤ sizeLine ∧ (a == sysModules) = false ∧ ∃ xs : List (List Key × Addr × Value),
      Paired (fun (p : List Key × V) (q : List Key × Addr × Value) => p.1 = q.1 ∧ H q.2.1 = some (.tup (p.1.map kV)) ∧ RelV p.2 q.2.2) kvs xs ∧
      ∃ o es ep, h.get? a = some o ∧ o.ExactDict ∧ o.data = .dict es ep ∧ es.toList = xs.map (entryOfKey (tupleKind (mixKind P w))) ∧ (xs.map (·.1)).Nodup
  | .set S n => h.SetOf (intKind P w) a S n
  | .ins C dx fs => H dx = some (.own a) ∧ fs.length ≤ 1000 ∧ dx ≠ a ∧ h.get? a = some (PySem.W.instObj C dx) ∧
      ∃ mA, h.Ns1 dx mA ∧ (∀ f, RelO (fs.lookup f) (mA f)) ∧ PySem.Within mA (fs.map (·.1))
  | .own _ => ∃ o, h.get? a = some o
  | .xd fs => ∃ mA, h.Ns1 a mA ∧ ∀ f, RelO (fs.lookup f) (mA f)
  | .rng lo hi => ∃ t u v, h.get? a = some { cls := .type "range", data := .fields #[.int lo t, .int hi u, .int 1 v] }
  | .frz o u => h.get? a = some o ∧ ObjOk H h a u
  | .tbl ps => h.get? a = some { cls := .none, data := .fields ps }
  | .met f x => h.get? a = some (PySem.W.methodObj (.ref f) (.ref x))
  | .ext φ => φ h ∧ (∃ o, h.get? a = some o) ∧ ∀ h1 h2 : Heap, φ h1 → (∀ o, h1.get? a = some o → h2.get? a = some o) → φ h2
/-- the abstract heap is held -/
def HOk (H : Hp) (h : Heap) : Prop := ∀ a o, H a = some o → ObjOk P w H h a o
end

section
variable {P : Program} {w : World} {H H' : Hp} {h h' : Heap} {a : Addr} {o : HO}
theorem ObjOk.lt (x : ObjOk P w H h a o) : a < h.objs.size := by
  cases o with
  | lst xs => obtain ⟨_, _, _, _, e⟩ := x; exact Heap.lt_size e
  | tup xs => obtain ⟨_, _, _, p⟩ := x; exact p.lt
  | dK kvs => obtain ⟨_, _, _, _, o, _, _, e, _⟩ := x; exact Heap.lt_size e
  | dT kvs => obtain ⟨_, _, _, _, o, _, _, e, _⟩ := x; exact Heap.lt_size e
  | set S n => obtain ⟨o, _, _, _, e, _⟩ := x; exact Heap.lt_size e
  | ins C dx fs => obtain ⟨_, _, _, e, _⟩ := x; exact Heap.lt_size e
  | own y => obtain ⟨_, e⟩ := x; exact Heap.lt_size e
  | xd fs => obtain ⟨_, ⟨_, _, _, e, _⟩, _⟩ := x; exact Heap.lt_size e
  | rng lo hi => obtain ⟨_, _, _, e⟩ := x; exact Heap.lt_size e
  | frz ob u => obtain ⟨e, _⟩ := x; exact Heap.lt_size e
  | tbl ps => exact Heap.lt_size (show h.get? a = some _ from x)
  | met f y => exact Heap.lt_size (show h.get? a = some _ from x)
  | ext φ => obtain ⟨_, ⟨_, e⟩, _⟩ := x; exact Heap.lt_size e
theorem Paired.mapP {α β : Type} {F G : α → β → Prop} : ∀ {l₁ : List α} {l₂ : List β}, Paired F l₁ l₂ → (∀ a b, F a b → G a b) → Paired G l₁ l₂
  | _, _, .nil, _ => .nil
  | _, _, .cons r t, f => .cons (f _ _ r) (Paired.mapP t f)
/-- what an object's description leans on: its own object, its own dict, the tuples -/
theorem ObjOk.stay (x : ObjOk P w H h a o) (k : ∀ b u, (b = a ∨ H b = some (.own a)) → h.get? b = some u → h'.get? b = some u)
    (ho : ∀ b, H b = some (.own a) → H' b = some (.own a)) (ht : ∀ b xs, H b = some (.tup xs) → H' b = some (.tup xs)) : ObjOk P w H' h' a o := by
  induction o with
  | lst xs => obtain ⟨z, its, n, r, e⟩ := x; exact ⟨z, its, n, r, k _ _ (.inl rfl) e⟩
  | tup xs => obtain ⟨z, its, r, ob, e, c⟩ := x; exact ⟨z, its, r, ob, k _ _ (.inl rfl) e, c⟩
  | dK kvs => obtain ⟨z, y, vs, r, ob, es, ep, e, c⟩ := x; exact ⟨z, y, vs, r, ob, es, ep, k _ _ (.inl rfl) e, c⟩
  | dT kvs =>
    obtain ⟨z, y, xs, r, ob, es, ep, e, c⟩ := x
    exact ⟨z, y, xs, Paired.mapP r fun p q z => ⟨z.1, ht _ _ z.2.1, z.2.2⟩, ob, es, ep, k _ _ (.inl rfl) e, c⟩
  | set S n => obtain ⟨ob, es, ep, t, e, c⟩ := x; exact ⟨ob, es, ep, t, k _ _ (.inl rfl) e, c⟩
  | ins C dx fs =>
    obtain ⟨d, z, ne, e, mA, ⟨od, es, ep, e2, c⟩, r⟩ := x
    exact ⟨ho _ d, z, ne, k _ _ (.inl rfl) e, mA, ⟨od, es, ep, k _ _ (.inr d) e2, c⟩, r⟩
  | own y => obtain ⟨ob, e⟩ := x; exact ⟨ob, k _ _ (.inl rfl) e⟩
  | xd fs => obtain ⟨mA, ⟨od, es, ep, e, c⟩, r⟩ := x; exact ⟨mA, ⟨od, es, ep, k _ _ (.inl rfl) e, c⟩, r⟩
  | rng lo hi => obtain ⟨t, u, v, e⟩ := x; exact ⟨t, u, v, k _ _ (.inl rfl) e⟩
  | frz ob u ih => obtain ⟨e, q⟩ := x; exact ⟨k _ _ (.inl rfl) e, ih q⟩
  | tbl ps =>
    have e : h.get? a = some { cls := .none, data := .fields ps } := x
    show h'.get? a = some { cls := .none, data := .fields ps }
    exact k a _ (.inl rfl) e
  | met f y =>
    have e : h.get? a = some (PySem.W.methodObj (.ref f) (.ref y)) := x
    show h'.get? a = some (PySem.W.methodObj (.ref f) (.ref y))
    exact k a _ (.inl rfl) e
  | ext φ => obtain ⟨p, ⟨o, e⟩, st⟩ := x; exact ⟨st _ _ p fun o q => k _ _ (.inl rfl) q, ⟨o, k _ _ (.inl rfl) e⟩, st⟩
theorem HOk.lt (x : HOk P w H h) (e : H a = some o) : a < h.objs.size := (x a o e).lt
theorem HOk.fresh (x : HOk P w H h) (e : h.objs.size ≤ a) : H a = none := by
  cases q : H a with
  | none => rfl
  | some u => exact absurd (Nat.lt_of_lt_of_le (x.lt q) e) (Nat.lt_irrefl _)
/-- every object of the heap is kept -/
theorem HOk.kept (x : HOk P w H h) (k : ∀ b u, h.get? b = some u → h'.get? b = some u) : HOk P w H h' := fun a o e =>
  (x a o e).stay (fun b u _ q => k b u q) (fun _ q => q) fun _ _ q => q
/-- a new object is laid and tracked -/
theorem HOk.laid (x : HOk P w H h) (k : ∀ b u, h.get? b = some u → h'.get? b = some u) (hp : h.objs.size ≤ a) (new : ObjOk P w (upd H a o) h' a o) : HOk P w (upd H a o) h' := fun b u e => by
  have hn := x.fresh hp
  by_cases hb : b = a
  · subst hb; rw [upd_same] at e; cases e; exact new
  · rw [upd_ne hb] at e
    exact (x b u e).stay (fun c v _ q => k c v q) (fun c q => by rw [upd_ne (ne_of_none q hn)]; exact q) fun c xs q => by rw [upd_ne (ne_of_none q hn)]; exact q
end

/-- what may be read as u: it is u, or a known u -/
def Rd (H : Hp) (a : Addr) (u : HO) : Prop := H a = some u ∨ ∃ o, H a = some (.frz o u)
theorem Rd.ok {P : Program} {w : World} {H : Hp} {h : Heap} {a : Addr} {u : HO} (r : Rd H a u) (x : HOk P w H h) : ObjOk P w H h a u := by
  rcases r with r | ⟨o, r⟩
  · exact x a u r
  · obtain ⟨_, q⟩ := x a _ r
    exact q
/-- what may be written -/
def Mut : Option HO → Prop
  | some (.lst _) => True
  | some (.dK _) => True
  | some (.dT _) => True
  | some (.set _ _) => True
  | some (.ins _ _ _) => True
  | some (.ext _) => True
  | _ => False
section
variable {P : Program} {w : World} {H : Hp} {h h' : Heap} {x e : Addr} {o' : HO}
/-- the object at e is changed: x itself, or the dict of the instance x -/
theorem HOk.write (ok : HOk P w H h) (mu : Mut (H x)) (he : e = x ∨ H e = some (.own x)) (k : ∀ b u, b ≠ e → h.get? b = some u → h'.get? b = some u) (heo : ∃ u, h'.get? e = some u)
    (new : ObjOk P w (upd H x o') h' x o') : HOk P w (upd H x o') h' := fun b u q => by
  have nown : ∀ c y, H c = some (.own y) → c ≠ x := fun c y r z => by subst z; rw [r] at mu; exact mu
  have ntup : ∀ c xs, H c = some (.tup xs) → c ≠ x := fun c xs r z => by subst z; rw [r] at mu; exact mu
  by_cases hb : b = x
  · subst hb; rw [upd_same] at q; cases q; exact new
  · rw [upd_ne hb] at q
    by_cases hbe : b = e
    · have q' : H b = some (.own x) := by
        rcases he with z | z
        · exact absurd (hbe.trans z) hb
        · rw [hbe]; exact z
      rw [q] at q'; cases q'
      obtain ⟨v, hv⟩ := heo
      exact ⟨v, by rw [hbe]; exact hv⟩
    · refine (ok b u q).stay (fun c v hc r => k c v ?_ r) (fun c r => by rw [upd_ne (nown c b r)]; exact r) fun c xs r => by rw [upd_ne (ntup c xs r)]; exact r
      rcases hc with rfl | hc
      · exact hbe
      · rintro rfl
        rcases he with z | z
        · exact nown c b hc z
        · rw [hc] at z; cases z; exact hb rfl
end

/-! ### kept unless tracked; of the frames at fs (the callers') the slots may change (an exception that passes writes there); of the records at ex (iterators) nothing is said -/
structure Un (fs ex : List Addr) (H H' : Hp) (h h' : Heap) : Prop where
  keep : ∀ b o, h.get? b = some o → H b = none → b ∉ fs → b ∉ ex → h'.get? b = some o
  slot : ∀ b o, h.get? b = some o → H b = none → b ∈ fs → b ∉ ex → ∃ sl, h'.get? b = some { o with slots := sl }
  free : ∀ b o, h.get? b = some o → H b = none → b ∉ ex → H' b = none
  there : ∀ b o, h.get? b = some o → b ∉ ex → ∃ o', h'.get? b = some o'
  tups : ∀ b xs, H b = some (.tup xs) → H' b = some (.tup xs)
  frzs : ∀ b o u, H b = some (.frz o u) → H' b = some (.frz o u)
  tbls : ∀ b ps, H b = some (.tbl ps) → ∃ more, H' b = some (.tbl (ps ++ more))
section
variable {fs fs' ex ex' : List Addr} {H H1 H2 : Hp} {h h1 h2 h' : Heap} {a x e : Addr} {o : HO}
theorem Un.any (u : Un fs ex H H1 h h1) {b : Addr} {ob : Obj} (q : h.get? b = some ob) (n : H b = none) (hx : b ∉ ex) : ∃ sl, h1.get? b = some { ob with slots := sl } := by
  by_cases hb : b ∈ fs
  · exact u.slot b ob q n hb hx
  · exact ⟨ob.slots, u.keep b ob q n hb hx⟩
theorem Un.kept (k : ∀ b u, h.get? b = some u → h'.get? b = some u) : Un fs ex H H h h' :=
  ⟨fun b ob q _ _ _ => k b ob q, fun b ob q _ _ _ => ⟨ob.slots, k b ob q⟩, fun _ _ _ n _ => n, fun b ob q _ => ⟨ob, k b ob q⟩, fun _ _ q => q, fun _ _ _ q => q, fun _ ps q => ⟨#[], by rw [q]; simp⟩⟩
theorem Un.refl : Un fs ex H H h h := Un.kept fun _ _ q => q
theorem Un.laid (k : ∀ b u, h.get? b = some u → h'.get? b = some u) (hp : h.objs.size ≤ a) (hn : H a = none) : Un fs ex H (upd H a o) h h' where
  keep := fun b u q _ _ _ => k b u q
  slot := fun b u q _ _ _ => ⟨u.slots, k b u q⟩
  free := fun b u q n _ => by rw [upd_ne (Nat.ne_of_lt (Nat.lt_of_lt_of_le (Heap.lt_size q) hp))]; exact n
  there := fun b u q _ => ⟨u, k b u q⟩
  tups := fun b xs q => by rw [upd_ne (ne_of_none q hn)]; exact q
  frzs := fun b u xs q => by rw [upd_ne (ne_of_none q hn)]; exact q
  tbls := fun b ps q => ⟨#[], by rw [upd_ne (ne_of_none q hn), q]; simp⟩
theorem Un.write (mu : Mut (H x)) (he : e = x ∨ H e = some (.own x)) (k : ∀ b u, b ≠ e → h.get? b = some u → h'.get? b = some u) (heo : ∃ u, h'.get? e = some u) : Un fs ex H (upd H x o) h h' := by
  have hx : ∀ b, H b = none → b ≠ x := fun b n z => by subst z; rw [n] at mu; exact mu
  have hb : ∀ b, H b = none → b ≠ e := fun b n z => by
    subst z
    rcases he with r | r
    · exact hx b n r
    · rw [n] at r; cases r
  have hm : ∀ b u, H b = some u → ¬ Mut (some u) → b ≠ x := fun b u q nm z => by subst z; rw [q] at mu; exact nm mu
  refine ⟨fun b u q n _ _ => k b u (hb b n) q, fun b u q n _ _ => ⟨u.slots, k b u (hb b n) q⟩, fun b u q n _ => by rw [upd_ne (hx b n)]; exact n, fun b u q _ => ?_,
    fun b xs q => by rw [upd_ne (hm b _ q fun z => z)]; exact q, fun b u xs q => by rw [upd_ne (hm b _ q fun z => z)]; exact q, fun b ps q => ⟨#[], by rw [upd_ne (hm b _ q fun z => z), q]; simp⟩⟩
  by_cases hbe : b = e
  · subst hbe; exact heo
  · exact ⟨u, k b u hbe q⟩
end

/-! ### the heap without what is tracked -/
def trk (h : Heap) (H : Hp) : List Addr := (List.range h.objs.size).filter fun a => (H a).isSome
def hidT (h : Heap) (H : Hp) : Heap := PySem.W.hideAll h (trk h H)
theorem hidT_size (h : Heap) (H : Hp) : (hidT h H).objs.size = h.objs.size := PySem.W.hideAll_size _ _
theorem hidT_get {h : Heap} {H : Hp} {b : Addr} {o : Obj} (e : h.get? b = some o) (n : H b = none) : (hidT h H).get? b = some o :=
  PySem.W.hideAll_get _ e fun hm => by
    have q : (H b).isSome = true := (List.mem_filter.mp hm).2
    rw [n] at q; simp at q
theorem of_hidT {h : Heap} {H : Hp} {b : Addr} {o : Obj} (e : (hidT h H).get? b = some o) : h.get? b = some o ∧ H b = none := by
  have e' : h.get? b = some o := PySem.W.of_hideAll (trk h H) e
  refine ⟨e', ?_⟩
  cases q : H b with
  | none => rfl
  | some x =>
    have hm : b ∈ trk h H := List.mem_filter.mpr ⟨List.mem_range.mpr (Heap.lt_size e'), by simp [q]⟩
    have z : (hidT h H).get? b = none := PySem.W.hideAll_none (trk h H) hm
    rw [z] at e; cases e

/-! ### OpenK's ledger, filled with every new object but one -/
def allNews (g h : Heap) (L : Addr) : List (Addr × Obj) := (List.range h.objs.size).filterMap fun a => if a = L ∨ (g.get? a).isSome = true then none else (h.get? a).map fun o => (a, o)
def rest (g h : Heap) (L d : Addr) : List (Addr × Obj) := (allNews g h L).filter fun p => decide (p.1 ≠ d)
end L2

namespace L2
open PySem PySem.Spec PyProof.Rows

/-- the module's facts, over the base: the heap at the law's entry without what is tracked there -/
structure Mod (K : PySem.W.Frag) (mg : Str → Option Value) (base : Heap) : Prop where
  kin : K.In base
  glob : base.Ns mainGlobals mg
  blt : ∃ mb, base.Ns builtinsNs mb ∧ ∀ x : Str, x ≠ "__name__" → mb x = bootBuiltins x
  nolimit : base.NoLimit

set_option genSizeOf false in
set_option genInjectivity false in
/-- the context: a def's body (or a comprehension's block) running. base: fixed through the whole law; s₀, H₀: the entry; outer: the frames whose slots others may change (a def's callers); stack: all frames that run;
   ex: iterators that were made ahead of the entry and are walked here (a comprehension's); fn: the names whose cells were made at the entry (a def: all; a comprehension's block: its own); calm: not within an except suite; pn: pins that every state bears; xe: what is wanted of an exception that leaves the code -/
structure Cx where
  prog : Program
  w : World
  K : PySem.W.Frag
  mg : Str → Option Value
  base : Heap
  A : Around
  N : List Str
  s₀ : Shared
  H₀ : Hp
  env : Env
  outer : List Env
  stack : List Env
  ex : List Addr
  fn : Str → Bool
  calm : Bool
  pn : List (Addr × Obj)
  xe : Value → Shared → Prop
/-- the callers' frames -/
def frs (l : List Env) : List Addr := l.filterMap (·.frame)
abbrev Cx.fs (X : Cx) : List Addr := frs X.outer

def Vis (sc : Scope) (x : Str) : Prop := sc.names.lookup x = some .local ∨ sc.names.lookup x = some .cell ∨ sc.names.lookup x = some .free
def Loc (sc : Scope) (x : Str) : Prop := sc.names.lookup x = some .local ∨ sc.names.lookup x = some .cell
def Look (env : Env) (h : Heap) (m : Str → Option Value) (x : Str) (u : Value) : Prop :=
  (env.kindOf x = some .local ∧ m x = some u) ∨ ((env.kindOf x = some .cell ∨ env.kindOf x = some .free) ∧ ∃ c, env.cells.lookup x = some c ∧ h.IsCell c (some u))

structure Cx.Ok (X : Cx) : Prop where
  mod : Mod X.K X.mg X.base
  kind : X.env.scope.kind = .function
  glob : X.env.globals = mainGlobals
  blt : X.env.builtins = builtinsNs
  above : X.s₀.heap.objs.size ≤ X.env.locals
  inj : ∀ x y c, X.env.cells.lookup x = some c → X.env.cells.lookup y = some c → x = y
  has : ∀ x, (X.env.kindOf x = some .cell ∨ X.env.kindOf x = some .free) → ∃ c, X.env.cells.lookup x = some c
  cab : ∀ x c, X.fn x = true → X.env.cells.lookup x = some c → X.s₀.heap.objs.size ≤ c
  hd : X.calm = true → X.A.handled = none
  frames : X.A.frames = some X.stack
  stk : X.stack = X.outer ∨ (X.stack = X.env :: X.outer ∧ X.env.frame = some X.env.locals)
  exf : ∀ b ∈ X.ex, b ≠ X.env.locals ∧ ∀ x c, X.env.cells.lookup x = some c → c ≠ b
  bs : ∀ b o, X.base.get? b = some o → X.s₀.heap.get? b = some o ∧ X.H₀ b = none
  bsz : X.base.objs.size ≤ X.s₀.heap.objs.size
  noex : ∀ b o, X.base.get? b = some o → b ∉ X.ex
  exfs : ∀ b ∈ X.ex, b ∉ X.fs
  funs : X.s₀.heap.FunFrames X.base X.outer
  frf : ∀ b ∈ X.fs, X.H₀ b = none

structure Inv (X : Cx) (pins : List (Addr × Obj)) (σ : List (Option V)) (H : Hp) (s : Shared) : Prop where
  ok : X.Ok
  os : s.os = X.s₀.os
  bare : AllBare s.gens
  base : Un X.fs X.ex X.H₀ H X.s₀.heap s.heap
  loc : ∃ m, s.heap.Ns X.env.locals m ∧ ∀ (i : Nat) (x : Str) (v : V), X.N[i]? = some x → σ[i]? = some (some v) → Vis X.env.scope x → ∃ u, RelV v u ∧ Look X.env s.heap m x u
  cell : ∀ x c, X.env.cells.lookup x = some c → ∃ v, s.heap.IsCell c v
  free : H X.env.locals = none
  freeC : ∀ x c, X.env.cells.lookup x = some c → H c = none
  pin : ∀ p ∈ X.pn ++ pins, s.heap.get? p.1 = some p.2 ∧ H p.1 = none ∧ p.1 ≠ X.env.locals ∧ p.1 ∉ X.fs ∧ ∀ v, p.2.data ≠ .cell v
  hok : HOk X.prog X.w H s.heap
  len : σ.length = X.N.length

section
variable {X : Cx} {pins : List (Addr × Obj)} {σ : List (Option V)} {H H' : Hp} {s : Shared} {h' : Heap}

theorem Cx.Ok.nofr (ok : X.Ok) {b : Addr} {o : Obj} (e : X.base.get? b = some o) : b ∉ X.fs := fun hb => by
  have := (ok.funs.mem hb).1
  rw [e] at this; cases this
theorem Inv.bs (I : Inv X pins σ H s) : ∀ b o, X.base.get? b = some o → s.heap.get? b = some o ∧ H b = none := fun b o e =>
  ⟨I.base.keep b o (I.ok.bs b o e).1 (I.ok.bs b o e).2 (I.ok.nofr e) (I.ok.noex b o e), I.base.free b o (I.ok.bs b o e).1 (I.ok.bs b o e).2 (I.ok.noex b o e)⟩
theorem Inv.bk (I : Inv X pins σ H s) : ∀ b o, X.base.get? b = some o → s.heap.get? b = some o := fun b o e => (I.bs b o e).1
theorem Inv.mod (I : Inv X pins σ H s) : Mod X.K X.mg X.base := I.ok.mod
theorem Inv.kIn (I : Inv X pins σ H s) : X.K.In s.heap := I.ok.mod.kin.keeps I.bk
theorem Inv.lt (I : Inv X pins σ H s) : X.env.locals < s.heap.objs.size := let ⟨_, hn, _⟩ := I.loc; hn.lt
theorem Inv.sz (I : Inv X pins σ H s) : X.s₀.heap.objs.size ≤ s.heap.objs.size := Nat.le_trans I.ok.above (Nat.le_of_lt I.lt)
theorem Inv.nofs (I : Inv X pins σ H s) {a : Addr} (h : s.heap.objs.size ≤ a) : a ∉ X.fs := fun hb => by
  obtain ⟨_, o, ho, _⟩ := I.ok.funs.mem hb
  exact absurd (Nat.lt_of_lt_of_le (Heap.lt_size ho) (Nat.le_trans I.sz h)) (Nat.lt_irrefl _)
theorem Inv.cne (I : Inv X pins σ H s) : ∀ x c, X.env.cells.lookup x = some c → c ≠ X.env.locals := fun x c e z => by
  obtain ⟨v, o, ho, hd⟩ := I.cell x c e
  obtain ⟨m, ⟨o', es, ep, ho', hd', _⟩, _⟩ := I.loc
  rw [z, ho'] at ho; cases ho; rw [hd'] at hd; cases hd
theorem Inv.funs (I : Inv X pins σ H s) : s.heap.FunFrames X.base X.outer := by
  have all : ∀ (l : List Env), (∀ b ∈ frs l, b ∈ X.fs) → X.s₀.heap.FunFrames X.base l → s.heap.FunFrames X.base l := by
    intro l
    induction l with
    | nil => intro _ _; trivial
    | cons env r ih =>
      intro hs hl
      obtain ⟨hk, ⟨L, o, hf, hn, ho, hd⟩, hr⟩ := hl
      have hL : L ∈ X.fs := hs L (by unfold frs; rw [List.filterMap_cons, hf]; exact List.mem_cons_self)
      obtain ⟨sl, e⟩ := I.base.slot L o ho (I.ok.frf L hL) hL fun z => I.ok.exfs L z hL
      exact ⟨hk, ⟨L, _, hf, hn, e, hd⟩, ih (fun b hb => hs b (by unfold frs; rw [List.filterMap_cons, hf]; exact List.mem_cons_of_mem _ hb)) hr⟩
  exact all X.outer (fun _ hb => hb) I.ok.funs

/-- the frames that run, for a call -/
theorem Inv.stack (I : Inv X pins σ H s) : s.heap.FunFrames X.base X.stack := by
  rcases I.ok.stk with e | ⟨e, hf⟩
  · rw [e]; exact I.funs
  · rw [e]
    obtain ⟨m, hn, _⟩ := I.loc
    refine .cons (by rw [I.ok.kind]; decide) hf hn ?_ I.funs
    exact Heap.get?_none_of_le (Nat.le_trans I.ok.bsz I.ok.above)
theorem Inv.stkSub (I : Inv X pins σ H s) : ∀ b ∈ frs X.stack, b ∈ X.env.locals :: X.fs := fun b hb => by
  rcases I.ok.stk with e | ⟨e, hf⟩
  · rw [e] at hb; exact List.mem_cons_of_mem _ hb
  · rw [e] at hb
    unfold frs at hb
    rw [List.filterMap_cons, hf] at hb
    exact hb
theorem Inv.stkFree (I : Inv X pins σ H s) : ∀ b ∈ frs X.stack, H b = none := fun b hb => by
  rcases List.mem_cons.mp (I.stkSub b hb) with e | hb
  · rw [e]; exact I.free
  · obtain ⟨_, o, ho, _⟩ := I.ok.funs.mem hb
    exact I.base.free b o ho (I.ok.frf b hb) fun z => I.ok.exfs b z hb

/-- THE STEP: the untracked objects but the frame and the records at ch are kept (the callers' frames up to slots), the frame's map is kept, the new abstract heap is held -/
theorem Inv.step {g' : Array GenState} {t' : Nat} {d' : Drawn} {ch : List Addr} (I : Inv X pins σ H s)
    (hch : ∀ b ∈ ch, (b ∈ X.ex ∨ X.s₀.heap.objs.size ≤ b) ∧ b ≠ X.env.locals ∧ (∀ x c, X.env.cells.lookup x = some c → c ≠ b) ∧ ∀ p ∈ X.pn ++ pins, p.1 ≠ b)
    (keep : ∀ b o, b ≠ X.env.locals → b ∉ X.fs → b ∉ ch → s.heap.get? b = some o → H b = none → h'.get? b = some o)
    (slot : ∀ b o, b ≠ X.env.locals → b ∈ X.fs → b ∉ ch → s.heap.get? b = some o → H b = none → ∃ sl, h'.get? b = some { o with slots := sl }) (free : ∀ b o, b ∉ ch → s.heap.get? b = some o → H b = none → H' b = none)
    (there : ∀ b o, b ∉ ch → s.heap.get? b = some o → ∃ o', h'.get? b = some o')
    (tups : ∀ b xs, H b = some (.tup xs) → H' b = some (.tup xs)) (frzs : ∀ b o u, H b = some (.frz o u) → H' b = some (.frz o u)) (tbls : ∀ b ps, H b = some (.tbl ps) → ∃ more, H' b = some (.tbl (ps ++ more)))
    (ns : ∀ m, s.heap.Ns X.env.locals m → h'.Ns X.env.locals m) (hok : HOk X.prog X.w H' h') (hg : AllBare g') :
    Inv X pins σ H' { s with heap := h', gens := g', drawn := d', toks := t' } := by
  have neL : ∀ b o, X.s₀.heap.get? b = some o → b ≠ X.env.locals := fun b o e => Nat.ne_of_lt (Nat.lt_of_lt_of_le (Heap.lt_size e) I.ok.above)
  have neC : ∀ b o, X.s₀.heap.get? b = some o → b ∉ X.ex → b ∉ ch := fun b o e hx hb => by
    rcases (hch b hb).1 with z | z
    · exact hx z
    · exact absurd (Nat.lt_of_lt_of_le (Heap.lt_size e) z) (Nat.lt_irrefl _)
  have cellK : ∀ x c, X.env.cells.lookup x = some c → ∀ v, s.heap.IsCell c v → h'.IsCell c v := fun x c e v ⟨o, ho, hd⟩ => by
    have nch : c ∉ ch := fun z => (hch c z).2.2.1 x c e rfl
    by_cases hc : c ∈ X.fs
    · obtain ⟨sl, q⟩ := slot c o (I.cne x c e) hc nch ho (I.freeC x c e)
      exact ⟨_, q, hd⟩
    · exact ⟨o, keep c o (I.cne x c e) hc nch ho (I.freeC x c e), hd⟩
  refine ⟨I.ok, I.os, hg, ⟨fun b o e n hb hx => ?_, fun b o e n hb hx => ?_, fun b o e n hx => ?_, fun b o e hx => ?_, fun b xs e => tups b xs (I.base.tups b xs e), fun b o xs e => frzs b o xs (I.base.frzs b o xs e), fun b ps e => ?_⟩, ?_, fun x c e => ?_, ?_, fun x c e => ?_, fun p hp => ?_, hok, I.len⟩
  · exact keep b o (neL b o e) hb (neC b o e hx) (I.base.keep b o e n hb hx) (I.base.free b o e n hx)
  · obtain ⟨sl, e1⟩ := I.base.slot b o e n hb hx
    obtain ⟨sl', e2⟩ := slot b _ (neL b o e) hb (neC b o e hx) e1 (I.base.free b o e n hx)
    exact ⟨sl', e2⟩
  · obtain ⟨o', e1⟩ := I.base.there b o e hx
    exact free b o' (neC b o e hx) e1 (I.base.free b o e n hx)
  · obtain ⟨o', e1⟩ := I.base.there b o e hx
    exact there b o' (neC b o e hx) e1
  · obtain ⟨m1, e1⟩ := I.base.tbls b ps e
    obtain ⟨m2, e2⟩ := tbls b _ e1
    exact ⟨m1 ++ m2, by rw [e2, Array.append_assoc]⟩
  · obtain ⟨m, hn, hl⟩ := I.loc
    refine ⟨m, ns m hn, fun i x v e1 e2 e3 => ?_⟩
    obtain ⟨u, r, l⟩ := hl i x v e1 e2 e3
    refine ⟨u, r, ?_⟩
    rcases l with l | ⟨k, c, e, z⟩
    · exact .inl l
    · exact .inr ⟨k, c, e, cellK x c e _ z⟩
  · obtain ⟨v, z⟩ := I.cell x c e
    exact ⟨v, cellK x c e v z⟩
  · obtain ⟨m, ⟨o, _, _, ho, _⟩, _⟩ := I.loc
    exact free _ o (fun z => (hch _ z).2.1 rfl) ho I.free
  · obtain ⟨v, o, ho, hd⟩ := I.cell x c e
    exact free c o (fun z => (hch c z).2.2.1 x c e rfl) ho (I.freeC x c e)
  · obtain ⟨e, n, ne, nf, d⟩ := I.pin p hp
    have nch : p.1 ∉ ch := fun z => (hch p.1 z).2.2.2 p hp rfl
    exact ⟨keep p.1 p.2 ne nf nch e n, free p.1 p.2 nch e n, ne, nf, d⟩
/-- .. where the frame's own object is kept too -/
theorem Inv.un {t' : Nat} (I : Inv X pins σ H s) (u : Un X.fs [] H H' s.heap h') (hok : HOk X.prog X.w H' h') : Inv X pins σ H' { s with heap := h', toks := t' } := by
  obtain ⟨m, ⟨o, es, ep, ho, r⟩, _⟩ := id I.loc
  obtain ⟨sl, hL⟩ := u.any ho I.free (by simp)
  exact I.step (g' := s.gens) (d' := s.drawn) (ch := []) (fun _ z => nomatch z) (fun b o _ hb _ e n => u.keep b o e n hb (by simp)) (fun b o _ hb _ e n => u.slot b o e n hb (by simp)) (fun b o _ e n => u.free b o e n (by simp)) (fun b o _ e => u.there b o e (by simp)) u.tups u.frzs u.tbls (fun m' hm => by
    obtain ⟨o', es', ep', ho', r'⟩ := hm
    rw [ho] at ho'; cases ho'
    exact ⟨_, es', ep', hL, r'⟩) hok I.bare
/-- behind a call (or a comprehension's block): the slots of this frame may have changed too, the records at ch may have turned -/
theorem Inv.call {g' : Array GenState} {t' : Nat} {d' : Drawn} {ch : List Addr} (I : Inv X pins σ H s) (u : Un (frs X.stack) ch H H' s.heap h') (hok : HOk X.prog X.w H' h') (hg : AllBare g')
    (hch : ∀ b ∈ ch, (b ∈ X.ex ∨ X.s₀.heap.objs.size ≤ b) ∧ b ≠ X.env.locals ∧ (∀ x c, X.env.cells.lookup x = some c → c ≠ b) ∧ ∀ p ∈ X.pn ++ pins, p.1 ≠ b) :
    Inv X pins σ H' { s with heap := h', gens := g', drawn := d', toks := t' } := by
  obtain ⟨m, ⟨o, es, ep, ho, r⟩, _⟩ := id I.loc
  obtain ⟨sl, hL⟩ := u.any ho I.free fun z => (hch _ z).2.1 rfl
  exact I.step (ch := ch) hch (fun b o hL hb hc e n => u.keep b o e n (fun z => (List.mem_cons.mp (I.stkSub b z)).elim hL hb) hc) (fun b o _ _ hc e n => u.any e n hc) (fun b o hc e n => u.free b o e n hc) (fun b o hc e => u.there b o e hc) u.tups u.frzs u.tbls (fun m' hm => by
    obtain ⟨o', es', ep', ho', r'⟩ := hm
    rw [ho] at ho'; cases ho'
    exact ⟨_, es', ep', hL, r'⟩) hok hg
/-- an untracked record of ours (an iterator) has turned -/
theorem Inv.turned {t' : Nat} {it : Addr} (I : Inv X pins σ H s) (k : ∀ b o, b ≠ it → s.heap.get? b = some o → h'.get? b = some o) (hn : H it = none) (hL : it ≠ X.env.locals)
    (h1 : it ∈ X.ex ∨ X.s₀.heap.objs.size ≤ it) (h2 : ∀ x c, X.env.cells.lookup x = some c → c ≠ it) (h3 : ∀ p ∈ X.pn ++ pins, p.1 ≠ it) : Inv X pins σ H { s with heap := h', toks := t' } := by
  have nit : ∀ b u, H b = some u → b ≠ it := fun b u e z => by rw [z, hn] at e; cases e
  refine I.step (g' := s.gens) (d' := s.drawn) (ch := [it]) (fun b hb => ?_) (fun b o _ _ hc e _ => k b o (fun z => hc (by simp [z])) e) (fun b o _ _ hc e _ => ⟨o.slots, k b o (fun z => hc (by simp [z])) e⟩) (fun _ _ _ _ n => n)
    (fun b o hc e => ⟨o, k b o (fun z => hc (by simp [z])) e⟩) (fun _ _ e => e) (fun _ _ _ e => e) (fun b ps e => ⟨#[], by rw [e]; simp⟩) (fun m hm => ?_) (fun b u e => ?_) I.bare
  · have e : b = it := by simpa using hb
    subst e
    exact ⟨h1, hL, h2, h3⟩
  · obtain ⟨o, es, ep, ho, r⟩ := hm
    exact ⟨o, es, ep, k _ o (Ne.symm hL) ho, r⟩
  · refine (I.hok b u e).stay (fun c v hc q => k c v ?_ q) (fun _ q => q) fun _ _ q => q
    rcases hc with z | z
    · rw [z]; exact nit b u e
    · exact nit c _ z
theorem Inv.tok (I : Inv X pins σ H s) (t : Nat) : Inv X pins σ H { s with toks := t } := I.un (h' := s.heap) (t' := t) Un.refl I.hok
/-- all objects kept -/
theorem Inv.kept {t' : Nat} (I : Inv X pins σ H s) (k : ∀ b u, s.heap.get? b = some u → h'.get? b = some u) : Inv X pins σ H { s with heap := h', toks := t' } := I.un (Un.kept k) (I.hok.kept k)
/-- a new object laid and tracked -/
theorem Inv.laid {a : Addr} {o : HO} {t' : Nat} (I : Inv X pins σ H s) (k : ∀ b u, s.heap.get? b = some u → h'.get? b = some u) (hp : s.heap.objs.size ≤ a) (new : ObjOk X.prog X.w (upd H a o) h' a o) :
    Inv X pins σ (upd H a o) { s with heap := h', toks := t' } := I.un (Un.laid k hp (I.hok.fresh hp)) (I.hok.laid k hp new)
/-- an object written -/
theorem Inv.write {x e : Addr} {o : HO} {t' : Nat} (I : Inv X pins σ H s) (mu : Mut (H x)) (he : e = x ∨ H e = some (.own x)) (k : ∀ b u, b ≠ e → s.heap.get? b = some u → h'.get? b = some u) (heo : ∃ u, h'.get? e = some u)
    (new : ObjOk X.prog X.w (upd H x o) h' x o) : Inv X pins σ (upd H x o) { s with heap := h', toks := t' } := I.un (Un.write mu he k heo) (I.hok.write mu he k heo new)
theorem Inv.pins_of {pins' : List (Addr × Obj)} (I : Inv X pins σ H s) (h : ∀ p ∈ pins', s.heap.get? p.1 = some p.2 ∧ H p.1 = none ∧ p.1 ≠ X.env.locals ∧ p.1 ∉ X.fs ∧ ∀ v, p.2.data ≠ .cell v) : Inv X pins' σ H s :=
  ⟨I.ok, I.os, I.bare, I.base, I.loc, I.cell, I.free, I.freeC, fun p hp => (List.mem_append.mp hp).elim (fun z => I.pin p (List.mem_append_left _ z)) (h p), I.hok, I.len⟩

theorem nodup_ix {N : List Str} (hN : N.Nodup) {i j : Nat} {x : Str} (a : N[i]? = some x) (b : N[j]? = some x) : i = j := by
  obtain ⟨h1, e1⟩ := List.getElem?_eq_some_iff.mp a
  obtain ⟨h2, e2⟩ := List.getElem?_eq_some_iff.mp b
  exact (List.getElem_inj hN).mp (e1.trans e2.symm)

/-- a name is stored; what changed -/
theorem store_ok2 {M : Model} {A : Around} {E : Value → Shared → Prop} {i : Nat} {x : Str} {v : V} {u : Value} {Q : Unit → Shared → Prop} (I : Inv X pins σ H s) (hN : X.N.Nodup) (hi : X.N[i]? = some x) (hx : Loc X.env.scope x) (r : RelV v u)
    (h : ∀ s', Inv X pins (σ.set i (some v)) H s' → (∃ a, Heap.SameBut a s.heap s'.heap ∧ (a = X.env.locals ∨ X.env.cells.lookup x = some a)) → Q () s') (hf : X.fn x = true ∨ X.env.scope.names.lookup x = some .local := by first | exact .inl rfl | exact .inr rfl | assumption) : wpAny M A (storeName X.env x u) Q E s := by
  obtain ⟨m, hn, hl⟩ := id I.loc
  have hcls : (X.env.scope.kind == .class || (X.env.scope.kind == .module && X.env.locals != X.env.globals)) = false := by rw [I.ok.kind]; rfl
  have hiσ : i < σ.length := by rw [I.len]; exact (List.getElem?_eq_some_iff.mp hi).1
  have cne := I.cne
  have tracked : ∀ {a : Addr} {h' : Heap}, (∃ o, s.heap.get? a = some o ∧ H a = none) → Heap.SameBut a s.heap h' → HOk X.prog X.w H h' := fun {a h'} ha hs b ob e => by
    obtain ⟨_, _, hfree⟩ := ha
    refine (I.hok b ob e).stay (fun c w' hc q => (hs.2 c ?_).trans q) (fun _ q => q) fun _ _ q => q
    rintro rfl
    rcases hc with rfl | hc
    · rw [hfree] at e; cases e
    · rw [hfree] at hc; cases hc
  rcases hx with hk | hk
  · refine wpAny_storeName_local hk hn (fun h' hn' hs => ?_) hcls
    obtain ⟨oL, _, _, hoL, _⟩ := id hn
    refine h _ ⟨I.ok, I.os, I.bare, ⟨fun b o e n hb hx => ?_, fun b o e n hb hx => ?_, I.base.free, fun b o e hx => ?_, I.base.tups, I.base.frzs, I.base.tbls⟩, ⟨_, hn', fun j y v' e1 e2 e3 => ?_⟩, fun y c e => ?_, I.free, I.freeC, fun p hp => ?_, tracked ⟨oL, hoL, I.free⟩ hs, by simpa using I.len⟩ ⟨_, hs, .inl rfl⟩
    · exact (hs.2 b (Nat.ne_of_lt (Nat.lt_of_lt_of_le (Heap.lt_size e) I.ok.above))).trans (I.base.keep b o e n hb hx)
    · obtain ⟨sl, e1⟩ := I.base.slot b o e n hb hx
      exact ⟨sl, (hs.2 b (Nat.ne_of_lt (Nat.lt_of_lt_of_le (Heap.lt_size e) I.ok.above))).trans e1⟩
    · obtain ⟨o', e1⟩ := I.base.there b o e hx
      exact ⟨o', (hs.2 b (Nat.ne_of_lt (Nat.lt_of_lt_of_le (Heap.lt_size e) I.ok.above))).trans e1⟩
    · by_cases hj : j = i
      · subst hj
        rw [hi] at e1; cases e1
        rw [List.getElem?_set_self hiσ] at e2
        cases e2
        exact ⟨u, r, .inl ⟨hk, by simp⟩⟩
      · rw [List.getElem?_set_ne (Ne.symm hj)] at e2
        obtain ⟨u', r', q⟩ := hl j y v' e1 e2 e3
        refine ⟨u', r', ?_⟩
        rcases q with ⟨k, e⟩ | ⟨k, c, e, z⟩
        · refine .inl ⟨k, ?_⟩
          have : y ≠ x := fun e => hj (nodup_ix hN e1 (e ▸ hi))
          simp [this, e]
        · exact .inr ⟨k, c, e, z.sameBut hs (cne y c e)⟩
    · obtain ⟨w', z⟩ := I.cell y c e
      exact ⟨w', z.sameBut hs (cne y c e)⟩
    · obtain ⟨e, n, ne, nf, d⟩ := I.pin p hp
      exact ⟨(hs.2 p.1 ne).trans e, n, ne, nf, d⟩
  · have hfn : X.fn x = true := by
      rcases hf with z | z
      · exact z
      · rw [z] at hk; cases hk
    obtain ⟨c, hc⟩ := I.ok.has x (.inl hk)
    obtain ⟨w', z⟩ := I.cell x c hc
    refine wpAny_storeName_cell I.ok.kind hk hc z (fun h' hc' hs => ?_)
    obtain ⟨oc, hoc, hocd⟩ := id z
    refine h { s with heap := h' } ⟨I.ok, I.os, I.bare, ⟨fun b o e n hb hx => ?_, fun b o e n hb hx => ?_, I.base.free, fun b o e hx => ?_, I.base.tups, I.base.frzs, I.base.tbls⟩, ⟨m, hn.sameBut hs (Ne.symm (cne x c hc)), fun j y v' e1 e2 e3 => ?_⟩, fun y c' e => ?_, I.free, I.freeC, fun p hp => ?_, tracked ⟨oc, hoc, I.freeC x c hc⟩ hs, by simpa using I.len⟩ ⟨c, hs, .inr hc⟩
    · exact (hs.2 b (Nat.ne_of_lt (Nat.lt_of_lt_of_le (Heap.lt_size e) (I.ok.cab x c hfn hc)))).trans (I.base.keep b o e n hb hx)
    · obtain ⟨sl, e1⟩ := I.base.slot b o e n hb hx
      exact ⟨sl, (hs.2 b (Nat.ne_of_lt (Nat.lt_of_lt_of_le (Heap.lt_size e) (I.ok.cab x c hfn hc)))).trans e1⟩
    · obtain ⟨o', e1⟩ := I.base.there b o e hx
      exact ⟨o', (hs.2 b (Nat.ne_of_lt (Nat.lt_of_lt_of_le (Heap.lt_size e) (I.ok.cab x c hfn hc)))).trans e1⟩
    · by_cases hj : j = i
      · subst hj
        rw [hi] at e1; cases e1
        rw [List.getElem?_set_self hiσ] at e2
        cases e2
        exact ⟨u, r, .inr ⟨.inl hk, c, hc, hc'⟩⟩
      · rw [List.getElem?_set_ne (Ne.symm hj)] at e2
        obtain ⟨u', r', q⟩ := hl j y v' e1 e2 e3
        refine ⟨u', r', ?_⟩
        rcases q with q | ⟨k, c', e, z'⟩
        · exact .inl q
        · refine .inr ⟨k, c', e, z'.sameBut hs ?_⟩
          rintro rfl
          exact hj (nodup_ix hN e1 (I.ok.inj _ _ _ e hc ▸ hi))
    · by_cases hcc : c' = c
      · subst hcc; exact ⟨_, hc'⟩
      · obtain ⟨w2, z2⟩ := I.cell y c' e
        exact ⟨w2, z2.sameBut hs hcc⟩
    · obtain ⟨e, n, ne, nf, d⟩ := I.pin p hp
      refine ⟨(hs.2 p.1 ?_).trans e, n, ne, nf, d⟩
      intro q
      rw [q, hoc] at e
      have q' : oc = p.2 := Option.some.inj e
      exact d w' (by rw [← q']; exact hocd)
theorem store_ok {M : Model} {A : Around} {E : Value → Shared → Prop} {i : Nat} {x : Str} {v : V} {u : Value} {Q : Unit → Shared → Prop} (I : Inv X pins σ H s) (hN : X.N.Nodup) (hi : X.N[i]? = some x) (hx : Loc X.env.scope x) (r : RelV v u)
    (h : ∀ s', Inv X pins (σ.set i (some v)) H s' → Q () s') (hf : X.fn x = true ∨ X.env.scope.names.lookup x = some .local := by first | exact .inl rfl | exact .inr rfl | assumption) : wpAny M A (storeName X.env x u) Q E s :=
  store_ok2 I hN hi hx r (fun s' I' _ => h s' I') hf
/-- behind a call or a block, the state as it is -/
theorem Inv.call' {s' : Shared} {ch : List Addr} (I : Inv X pins σ H s) (ho : s'.os = s.os) (u : Un (frs X.stack) ch H H' s.heap s'.heap) (hok : HOk X.prog X.w H' s'.heap) (hg : AllBare s'.gens)
    (hch : ∀ b ∈ ch, (b ∈ X.ex ∨ X.s₀.heap.objs.size ≤ b) ∧ b ≠ X.env.locals ∧ (∀ x c, X.env.cells.lookup x = some c → c ≠ b) ∧ ∀ p ∈ X.pn ++ pins, p.1 ≠ b) : Inv X pins σ H' s' := by
  obtain ⟨h', g', d', t', o'⟩ := s'
  have e : o' = s.os := ho
  subst e
  exact I.call (g' := g') (t' := t') (d' := d') u hok hg hch
end

/-! ### the judgements -/
/-- an exception: its class, its own dict's address (where it has one), the abstract heap behind it -/
abbrev XK := Value → Option Addr → Hp → Prop
abbrev St := List (Option V)
abbrev VK := V → Hp → Prop
/-- an expression's reading; a test's; an argument list's -/
abbrev TE := St → Hp → VK → Prop
abbrev TT := St → Hp → (Bool → Hp → Prop) → Prop
abbrev TA := St → Hp → (List V → Hp → Prop) → Prop
set_option genSizeOf false in
set_option genInjectivity false in
/-- what is wanted behind a statement -/
structure Ends where
  nx : St → Hp → Prop
  rt : VK
  bk : St → Hp → Prop := fun _ _ => False
  ct : St → Hp → Prop := fun _ _ => False
abbrev TS := Ends → St → Hp → Prop

def EP (X : Cx) (pins : List (Addr × Obj)) (σ : St) (Q : VK) (u : Value) (s' : Shared) : Prop := ∃ v H', Inv X pins σ H' s' ∧ RelV v u ∧ Q v H'
def TP (X : Cx) (pins : List (Addr × Obj)) (σ : St) (Q : Bool → Hp → Prop) (b : Bool) (s' : Shared) : Prop := ∃ H', Inv X pins σ H' s' ∧ Q b H'
def AP (X : Cx) (pins : List (Addr × Obj)) (σ : St) (Q : List V → Hp → Prop) (us : List Value) (s' : Shared) : Prop := ∃ vs H', Inv X pins σ H' s' ∧ Vals vs us ∧ Q vs H'
def SP (X : Cx) (pins : List (Addr × Obj)) (D : Ends) (f : Flow) (s' : Shared) : Prop :=
  match f with
  | .next => ∃ σ' H', Inv X pins σ' H' s' ∧ D.nx σ' H'
  | .brk => ∃ σ' H', Inv X pins σ' H' s' ∧ D.bk σ' H'
  | .cont => ∃ σ' H', Inv X pins σ' H' s' ∧ D.ct σ' H'
  | .ret u => ∃ v σ' H', Inv X pins σ' H' s' ∧ RelV v u ∧ D.rt v H'

def PE (X : Cx) (e : Expr) (t : TE) : Prop :=
  ∀ (pins : List (Addr × Obj)) (s : Shared) (σ : St) (H : Hp) (Q : VK), Inv X pins σ H s → t σ H Q → wpAny (model X.prog X.w) X.A (eval e X.env) (EP X pins σ Q) X.xe s
def PT (X : Cx) (e : Expr) (t : TT) : Prop :=
  ∀ (pins : List (Addr × Obj)) (s : Shared) (σ : St) (H : Hp) (Q : Bool → Hp → Prop), Inv X pins σ H s → t σ H Q → wpAny (model X.prog X.w) X.A (isTrue e X.env (eval e X.env)) (TP X pins σ Q) X.xe s
/-- a test whatever its 'whole' is (and, or) -/
def PW (X : Cx) (e : Expr) (t : TT) : Prop :=
  ∀ (whole : Sem Value) (pins : List (Addr × Obj)) (s : Shared) (σ : St) (H : Hp) (Q : Bool → Hp → Prop), Inv X pins σ H s → t σ H Q → wpAny (model X.prog X.w) X.A (isTrue e X.env whole) (TP X pins σ Q) X.xe s
theorem PW.pt {X : Cx} {e : Expr} {t : TT} (h : PW X e t) : PT X e t := h _
/-- an argument list (no star), from the left -/
def PA (X : Cx) (es : List Expr) (t : TA) : Prop :=
  ∀ (pos : Pos) (pins : List (Addr × Obj)) (s : Shared) (σ : St) (H : Hp) (Q : List V → Hp → Prop), Inv X pins σ H s → t σ H Q → wpAny (model X.prog X.w) X.A (spliced (backTo pos (starEach es X.env))) (AP X pins σ Q) X.xe s
def PS (X : Cx) (st : Stmt) (t : TS) : Prop :=
  ∀ (pins : List (Addr × Obj)) (s : Shared) (σ : St) (H : Hp) (D : Ends), Inv X pins σ H s → t D σ H → wpAny (model X.prog X.w) X.A (exec st X.env) (SP X pins D) X.xe s
def PSs (X : Cx) (st : List Stmt) (t : TS) : Prop :=
  ∀ (pins : List (Addr × Obj)) (s : Shared) (σ : St) (H : Hp) (D : Ends), Inv X pins σ H s → t D σ H → wpAny (model X.prog X.w) X.A (execs st X.env) (SP X pins D) X.xe s
/-- weaken the end -/
theorem thn {α : Type} {t : Sem α} {Q Q' : α → Shared → Prop} {M : Model} {A : Around} {E : Value → Shared → Prop} {s : Shared} (h : wpAny M A t Q E s) (hQ : ∀ a s, Q a s → Q' a s) : wpAny M A t Q' E s := wpAny_mono h hQ fun _ _ x => x
end L2

namespace L2
open PySem PySem.Spec PyProof.Rows
section
variable {X : Cx}

/-! ### names and constants -/
def tVar (i : Nat) : TE := fun σ H Q => ∃ v, σ[i]? = some (some v) ∧ Q v H
def tC (v : V) : TE := fun _ H Q => Q v H
theorem pe_var {i : Nat} {x : Str} {pos : Pos} (hN : X.N[i]? = some x) (hv : Vis X.env.scope x) (hd : (x == ("__debug__" : Str)) = false := by decide) (hcd : (x == ("__classdict__" : Str)) = false := by decide) : PE X (.Name x pos) (tVar i) := by
  intro pins s σ H Q I h
  obtain ⟨v, e, h⟩ := h
  obtain ⟨m, hn, hl⟩ := I.loc
  obtain ⟨u, r, l⟩ := hl i x v hN e hv
  have fin : EP X pins σ Q u s := ⟨v, H, I, r, h⟩
  rcases l with ⟨hk, hm⟩ | ⟨hk, c, hc, hcell⟩
  · exact wpAny_Name (wpAny_loadName_local I.ok.kind hk hn hm fin) hd
  · rcases hk with hk | hk
    · exact wpAny_Name (wpAny_loadName_cell I.ok.kind hk hc hcell fin) hd
    · exact wpAny_Name (wpAny_loadName_free I.ok.kind hk hc hcell fin hcd) hd
theorem pe_int {i j pos} : PE X (.Constant (.int i) j pos) (tC (.int i)) := fun _ _ _ H _ I h => wpAny_Constant_int ⟨.int i, H, I.tok _, ⟨_, rfl⟩, h⟩
theorem pe_bl {b j pos} : PE X (.Constant (.bool b) j pos) (tC (.bl b)) := fun _ _ _ H _ I h => Constant_bool ⟨.bl b, H, I, rfl, h⟩
theorem pe_non {j pos} : PE X (.Constant .none j pos) (tC .non) := fun _ _ _ H _ I h => Constant_none ⟨.non, H, I, rfl, h⟩
theorem pe_str {x j pos} : PE X (.Constant (.str x) j pos) (tC (.str x)) := fun _ _ _ H _ I h => Calls.Constant_str ⟨.str x, H, I.tok _, ⟨_, rfl⟩, h⟩

/-- a global name of the def -/
def Gl (X : Cx) (x : Str) : Prop := X.env.kindOf x = some .globalImplicit
theorem ld_glob {E : Value → Shared → Prop} {pins : List (Addr × Obj)} {s : Shared} {σ : St} {H : Hp} {x : Str} {u : Value} {pos : Pos} {Q : Value → Shared → Prop} (I : Inv X pins σ H s) (hg : Gl X x) (hm : X.mg x = some u) (h : Q u s)
    (hd : (x == ("__debug__" : Str)) = false := by decide) : wpAny (model X.prog X.w) X.A (eval (.Name x pos) X.env) Q E s :=
  Calls.Name_function_global I.ok.kind hg (Calls.loadGlobal_global (by rw [I.ok.glob]; exact I.mod.glob.keeps I.bk) hm h) hd
theorem ld_blt {E : Value → Shared → Prop} {pins : List (Addr × Obj)} {s : Shared} {σ : St} {H : Hp} {x : Str} {u : Value} {pos : Pos} {Q : Value → Shared → Prop} (I : Inv X pins σ H s) (hg : Gl X x) (hm : X.mg x = none) (hv : bootBuiltins x = some u) (h : Q u s)
    (hn : x ≠ "__name__" := by decide) (hd : (x == ("__debug__" : Str)) = false := by decide) : wpAny (model X.prog X.w) X.A (eval (.Name x pos) X.env) Q E s := by
  obtain ⟨mb, h1, h2⟩ := I.mod.blt
  exact Calls.Name_function_global I.ok.kind hg (Calls.loadGlobal_builtin (by rw [I.ok.glob]; exact I.mod.glob.keeps I.bk) hm (by rw [I.ok.blt]; exact h1.keeps I.bk) ((h2 x hn).trans hv) h) hd
/-- a module's constant, a class, a function, as a value -/
theorem pe_glob {x : Str} {v : V} {u : Value} {pos : Pos} (hg : Gl X x) (hm : X.mg x = some u) (r : RelV v u) (hd : (x == ("__debug__" : Str)) = false := by decide) : PE X (.Name x pos) (tC v) :=
  fun _ _ _ H _ I h => ld_glob I hg hm ⟨v, H, I, r, h⟩ hd
theorem pe_bltn {x : Str} {v : V} {u : Value} {pos : Pos} (hg : Gl X x) (hm : X.mg x = none) (hv : bootBuiltins x = some u) (r : RelV v u) (hn : x ≠ "__name__" := by decide) (hd : (x == ("__debug__" : Str)) = false := by decide) : PE X (.Name x pos) (tC v) :=
  fun _ _ _ H _ I h => ld_blt I hg hm hv ⟨v, H, I, r, h⟩ hn hd

/-! ### arithmetic -/
variable {a b : Expr} {ta tb : TE} {pos : Pos}
/-! ### comparisons -/
def PC (X : Cx) (op : CmpOp) (a b : Expr) (t : TE) : Prop :=
  ∀ (pins : List (Addr × Obj)) (s : Shared) (σ : St) (H : Hp) (Q : VK), Inv X pins σ H s → t σ H Q →
    wpAny (model X.prog X.w) X.A (eval a X.env) (fun v s₁ => wpAny (model X.prog X.w) X.A (eval b X.env) (fun u s₂ => wpAny (model X.prog X.w) X.A (compareOp op v u) (EP X pins σ Q) X.xe s₂) X.xe s₁) X.xe s
theorem nobehind (b : Expr) {op : CmpOp} (h : op ≠ .In) (h2 : op ≠ .NotIn) : behindInMarks op b = false := by
  have e1 : (op == CmpOp.In) = false := by cases op <;> first | rfl | exact absurd rfl h
  have e2 : (op == CmpOp.NotIn) = false := by cases op <;> first | rfl | exact absurd rfl h2
  cases b <;> simp [behindInMarks, e1, e2]
def tNotN (ta : TE) : TE := fun σ H Q => ta σ H fun x H1 => Q (.bl (!decide (x = .non))) H1
theorem RelV.none_iff {x : V} {v : Value} (r : RelV x v) : (v == Value.none) = decide (x = .non) := by
  cases x with
  | non => cases r; rfl
  | bl _ => cases r; rfl
  | int _ => obtain ⟨t, rfl⟩ := r; rfl
  | str _ => obtain ⟨t, rfl⟩ := r; rfl
  | byt _ => obtain ⟨t, rfl⟩ := r; rfl
  | flt _ => obtain ⟨t, rfl⟩ := r; rfl
  | ref _ => cases r; rfl
  | ty _ => cases r; rfl
theorem pc_notN {j pos'} (ha : PE X a ta) : PC X .IsNot a (.Constant .none j pos') (tNotN ta) := by
  intro pins s σ H Q I h
  refine thn (ha pins s σ H _ I h) fun v s1 ⟨x, H1, I1, r1, q1⟩ => ?_
  exact Constant_none (isnot_none_gen ⟨.bl _, H1, I1, by rw [r1.none_iff]; rfl, q1⟩)
/-- a comparison as a value, as a test -/
def tB (t : TE) : TT := fun σ H Q => t σ H fun x H1 => ∃ c, x = .bl c ∧ Q c H1
theorem pe_cmp {op : CmpOp} {t : TE} (h : PC X op a b t) (h1 : behindInMarks op b = false := by first | exact nobehind _ (by decide) (by decide) | rfl) : PE X (.Compare a [op] [b] pos) t := fun pins s σ H Q I hw => wpAny_Compare1 (h pins s σ H Q I hw) h1
/-- an expression whose value is a bool, as a test -/
theorem pt_val {e : Expr} {t : TE} (h : PE X e t) (he : ∀ whole, isTrue e X.env whole = (do let v ← whole; standAt e.pos; holding [v] (truthy v)) := by intro _; rfl) : PT X e (tB t) := by
  intro pins s σ H Q I hw
  refine isTrue_plain (thn (h pins s σ H _ I hw) fun v s1 ⟨x, H1, I1, r1, q1⟩ => ?_) (he _)
  obtain ⟨d, rfl, q⟩ := q1
  cases r1
  exact wpAny_truthy_bool ⟨H1, I1, q⟩

/-! ### and, or, not -/
variable {tA tB' : TT} {rest : List Expr}
def tAnd (t u : TT) : TT := fun σ H Q => t σ H fun c H1 => if c = true then u σ H1 Q else Q false H1
def tOr (t u : TT) : TT := fun σ H Q => t σ H fun c H1 => if c = true then Q true H1 else u σ H1 Q
def tNot (t : TT) : TT := fun σ H Q => t σ H fun c H1 => Q (!c) H1
theorem pw_or1 (ha : PT X a tA) : PW X (.BoolOp .Or [a] pos) tA := by
  intro wh pins s σ H Q I h
  refine isTrue_or (thn (ha pins s σ H Q I h) fun c s1 e => ?_)
  cases c with
  | false => exact isTrue_or_nil e
  | true => exact e
theorem pw_or (ha : PT X a tA) (hb : PW X (.BoolOp .Or (b :: rest) pos) tB') : PW X (.BoolOp .Or (a :: b :: rest) pos) (tOr tA tB') := by
  intro wh pins s σ H Q I h
  refine isTrue_or (thn (ha pins s σ H _ I h) fun c s1 ⟨H1, I1, q1⟩ => ?_)
  cases c with
  | true => exact ⟨H1, I1, q1⟩
  | false => exact hb wh pins s1 σ H1 Q I1 q1
theorem pt_not (ha : PT X a tA) : PT X (.UnaryOp .Not a pos) (tNot tA) := by
  intro pins s σ H Q I h
  exact isTrue_not (ha pins s σ H (fun c H1 => Q (!c) H1) I h)
/-- .. as values (bools) -/
def tAndV (ta tb : TE) : TE := fun σ H Q => ta σ H fun x H1 => ∃ c, x = .bl c ∧ if c = true then tb σ H1 Q else Q (.bl false) H1
def tOrV (ta tb : TE) : TE := fun σ H Q => ta σ H fun x H1 => ∃ c, x = .bl c ∧ if c = true then Q (.bl true) H1 else tb σ H1 Q
def tNotV (ta : TE) : TE := fun σ H Q => ta σ H fun x H1 => ∃ c, x = .bl c ∧ Q (.bl (!c)) H1
theorem pe_one {op} {t : TE} (h : PE X a t) : PE X (.BoolOp op [a] pos) t := fun pins s σ H Q I hw => BoolOp_one (h pins s σ H Q I hw)
theorem pe_and (ha : PE X a ta) (hb : PE X (.BoolOp .And (b :: rest) pos) tb) : PE X (.BoolOp .And (a :: b :: rest) pos) (tAndV ta tb) := by
  intro pins s σ H Q I h
  refine BoolOp_and (thn (ha pins s σ H _ I h) fun v s1 ⟨x, H1, I1, r1, q1⟩ => ?_)
  obtain ⟨c, rfl, q1⟩ := q1
  cases r1
  refine wpAny_truthy_bool ?_
  cases c with
  | true => exact hb pins s1 σ H1 Q I1 q1
  | false => exact ⟨.bl false, H1, I1, rfl, q1⟩
theorem pe_or (ha : PE X a ta) (hb : PE X (.BoolOp .Or (b :: rest) pos) tb) : PE X (.BoolOp .Or (a :: b :: rest) pos) (tOrV ta tb) := by
  intro pins s σ H Q I h
  refine BoolOp_or (thn (ha pins s σ H _ I h) fun v s1 ⟨x, H1, I1, r1, q1⟩ => ?_)
  obtain ⟨c, rfl, q1⟩ := q1
  cases r1
  refine wpAny_truthy_bool ?_
  cases c with
  | false => exact hb pins s1 σ H1 Q I1 q1
  | true => exact ⟨.bl true, H1, I1, rfl, q1⟩
theorem pe_not (ha : PE X a ta) : PE X (.UnaryOp .Not a pos) (tNotV ta) := by
  intro pins s σ H Q I h
  refine UnaryOp_ (thn (ha pins s σ H _ I h) fun v s1 ⟨x, H1, I1, r1, q1⟩ => ?_)
  obtain ⟨c, rfl, q1⟩ := q1
  cases r1
  exact not_of (wpAny_truthy_bool ⟨.bl (!c), H1, I1, rfl, q1⟩)
end
end L2

namespace L2
open PySem PySem.Spec PyProof.Rows

/-! ### a list, a tuple that is read: tracked, frozen, or an object of the module -/
def SqL (K : PySem.W.Frag) (H : Hp) (a : Addr) (xs : List V) : Prop :=
  Rd H a (.lst xs) ∨
    ∃ (o : Obj) (its : Array Value) (n : Nat), K.lookup a = some o ∧ o.cls = .type "list" ∧ o.dict = none ∧ o.data = .seq its n ∧ its.size ≤ sizeLine ∧ Vals xs its.toList
def SqT (K : PySem.W.Frag) (H : Hp) (a : Addr) (xs : List V) : Prop :=
  Rd H a (.tup xs) ∨
    ∃ (o : Obj) (its : Array Value) (n : Nat), K.lookup a = some o ∧ o.cls = .type "tuple" ∧ o.data = .seq its n ∧ its.size ≤ sizeLine ∧ Vals xs its.toList
def absV : Value → Option V
  | .none => some .non
  | .bool b => some (.bl b)
  | .int i _ => some (.int i)
  | .str x _ => some (.str x)
  | .bytes b _ => some (.byt b)
  | .float b _ => some (.flt b)
  | .ref a => some (.ref a)
  | .type n => some (.ty n)
  | _ => none
theorem RelV.abs {x : V} {u : Value} (r : RelV x u) : absV u = some x := by
  cases x with
  | non => cases r; rfl
  | bl _ => cases r; rfl
  | int _ => obtain ⟨t, rfl⟩ := r; rfl
  | str _ => obtain ⟨t, rfl⟩ := r; rfl
  | byt _ => obtain ⟨t, rfl⟩ := r; rfl
  | flt _ => obtain ⟨t, rfl⟩ := r; rfl
  | ref _ => cases r; rfl
  | ty _ => cases r; rfl
theorem RelV.inj {x y : V} {u : Value} (r : RelV x u) (q : RelV y u) : x = y := Option.some.inj (r.abs.symm.trans q.abs)
theorem Vals.inj : ∀ {xs ys : List V} {us : List Value}, Vals xs us → Vals ys us → xs = ys
  | _, _, _, .nil, .nil => rfl
  | _, _, _, .cons r t, .cons r' t' => by rw [r.inj r', Vals.inj t t']
section
variable {X : Cx} {pins : List (Addr × Obj)} {σ : St} {H : Hp} {s : Shared} {a : Addr} {xs ys : List V}
theorem SqL.of {K : PySem.W.Frag} (h : H a = some (.lst xs)) : SqL K H a xs := .inl (.inl h)
theorem SqT.of {K : PySem.W.Frag} (h : H a = some (.tup xs)) : SqT K H a xs := .inl (.inl h)
theorem Inv.list (I : Inv X pins σ H s) (h : SqL X.K H a xs) : ∃ its : List Value, Vals xs its ∧ PlainL s.heap a its.toArray ∧ xs.length ≤ sizeLine := by
  rcases h with h | ⟨o, its, n, hk, hc, hd, hs, hz, r⟩
  · obtain ⟨z, its, n, r, e⟩ := h.ok I.hok
    exact ⟨its, r, ⟨_, n, e, rfl, rfl, rfl⟩, z⟩
  · refine ⟨its.toList, r, ⟨o, n, I.kIn a o hk, hc, hd, by simpa using hs⟩, ?_⟩
    have e := r.length
    simp only [Array.length_toList] at e
    omega
theorem Inv.tuple (I : Inv X pins σ H s) (h : SqT X.K H a xs) : ∃ its : List Value, Vals xs its ∧ IsTup s.heap a its.toArray ∧ xs.length ≤ sizeLine := by
  rcases h with h | ⟨o, its, n, hk, hc, hs, hz, r⟩
  · obtain ⟨z, its, r, p⟩ := h.ok I.hok
    exact ⟨its, r, p, z⟩
  · refine ⟨its.toList, r, ⟨o, I.kIn a o hk, hc, n, by simpa using hs⟩, ?_⟩
    have e := r.length
    simp only [Array.length_toList] at e
    omega
theorem Inv.list_inj (I : Inv X pins σ H s) (h : SqL X.K H a xs) (h' : SqL X.K H a ys) : xs = ys := by
  obtain ⟨its, r, ⟨o, n, e, _, _, d⟩, _⟩ := I.list h
  obtain ⟨its', r', ⟨o', n', e', _, _, d'⟩, _⟩ := I.list h'
  rw [e] at e'; cases e'
  rw [d] at d'
  injection d' with d1 _
  have : its = its' := by simpa using congrArg Array.toList d1
  subst this
  exact r.inj r'
end

/-! ### another wish about exceptions -/
abbrev Cx.wish (X : Cx) (E : Value → Shared → Prop) : Cx := { X with xe := E }
/-- no exception leaves -/
abbrev Cx.nox (X : Cx) : Cx := X.wish fun _ _ => False
theorem Cx.Ok.wish {X : Cx} (ok : X.Ok) (E : Value → Shared → Prop) : (X.wish E).Ok :=
  ⟨ok.mod, ok.kind, ok.glob, ok.blt, ok.above, ok.inj, ok.has, ok.cab, ok.hd, ok.frames, ok.stk, ok.exf, ok.bs, ok.bsz, ok.noex, ok.exfs, ok.funs, ok.frf⟩
theorem Cx.Ok.unwish {X : Cx} {E : Value → Shared → Prop} (ok : (X.wish E).Ok) : X.Ok :=
  ⟨ok.mod, ok.kind, ok.glob, ok.blt, ok.above, ok.inj, ok.has, ok.cab, ok.hd, ok.frames, ok.stk, ok.exf, ok.bs, ok.bsz, ok.noex, ok.exfs, ok.funs, ok.frf⟩
section
variable {X : Cx} {pins : List (Addr × Obj)} {σ : St} {H : Hp} {s : Shared} {E : Value → Shared → Prop}
theorem Inv.wish (I : Inv X pins σ H s) (E : Value → Shared → Prop) : Inv (X.wish E) pins σ H s := ⟨I.ok.wish E, I.os, I.bare, I.base, I.loc, I.cell, I.free, I.freeC, I.pin, I.hok, I.len⟩
theorem Inv.unwish (I : Inv (X.wish E) pins σ H s) : Inv X pins σ H s := ⟨I.ok.unwish, I.os, I.bare, I.base, I.loc, I.cell, I.free, I.freeC, I.pin, I.hok, I.len⟩
theorem SP.unwish {D : Ends} {f : Flow} {s' : Shared} (h : SP (X.wish E) pins D f s') : SP X pins D f s' := by
  cases f with
  | next => obtain ⟨σ', H', I, q⟩ := h; exact ⟨σ', H', I.unwish, q⟩
  | brk => obtain ⟨σ', H', I, q⟩ := h; exact ⟨σ', H', I.unwish, q⟩
  | cont => obtain ⟨σ', H', I, q⟩ := h; exact ⟨σ', H', I.unwish, q⟩
  | ret u => obtain ⟨v, σ', H', I, r, q⟩ := h; exact ⟨v, σ', H', I.unwish, r, q⟩
theorem PSs.nox {st : List Stmt} {t : TS} (h : PSs X.nox st t) : PSs X st t := fun pins s σ H D I hw =>
  wpAny_mono (h pins s σ H D (I.wish _) hw) (fun _ _ q => q.unwish) fun _ _ z => False.elim z
end

/-! ### blocks and small statements -/
section
variable {X : Cx} {st : Stmt} {rest : List Stmt} {t u : TS} {e : Expr} {te : TE} {pos : Pos}
def tNext : TS := fun D σ H => D.nx σ H
def tSeq (t u : TS) : TS := fun D σ H => t { D with nx := u D } σ H
theorem pss_nil : PSs X [] tNext := fun _ _ σ H _ I h => wpAny_execs_nil ⟨σ, H, I, h⟩
theorem pss_cons (h1 : PS X st t) (h2 : PSs X rest u) : PSs X (st :: rest) (tSeq t u) := by
  intro pins s σ H D I h
  refine wpAny_execs_cons (thn (h1 pins s σ H { D with nx := u D } I h) fun f s1 q => ?_)
  cases f with
  | next =>
    obtain ⟨σ', H', I', q⟩ := q
    exact h2 pins s1 σ' H' D I' q
  | ret v => exact q
  | brk => exact q
  | cont => exact q
theorem pss_one (h1 : PS X st t) : PSs X [st] t := by
  intro pins s σ H D I h
  refine wpAny_execs_cons (thn (h1 pins s σ H D I h) fun f s1 q => ?_)
  cases f with
  | next => exact wpAny_execs_nil q
  | ret v => exact q
  | brk => exact q
  | cont => exact q
/-- in a def's body nothing is shown -/
theorem Inv.quiet {pins : List (Addr × Obj)} {σ : St} {H : Hp} {s : Shared} (I : Inv X pins σ H s) : interactive X.env = false := by simp [interactive, I.ok.kind]
/-- an expression whose value is dropped -/
def tDrop (te : TE) : TS := fun D σ H => te σ H fun _ H1 => D.nx σ H1
theorem ps_expr (he : PE X e te) (hs : swapsWith e none pos.line X.env = pure false := by rfl) : PS X (.Expr e pos) (tDrop te) := by
  intro pins s σ H D I h
  exact wpAny_Expr_any (thn (he pins s σ H _ I h) fun v s1 ⟨x, H1, I1, r1, q1⟩ => ⟨σ, H1, I1, q1⟩) I.quiet hs
def tRet (te : TE) : TS := fun D σ H => te σ H D.rt
theorem ps_ret (he : PE X e te) : PS X (.Return (some e) pos) (tRet te) := by
  intro pins s σ H D I h
  exact wpAny_Return_some (thn (he pins s σ H _ I h) fun v s1 ⟨x, H1, I1, r1, q1⟩ => ⟨x, σ, H1, I1, r1, q1⟩)
def tIfS (c : TT) (t u : TS) : TS := fun D σ H => c σ H fun b H1 => if b = true then t D σ H1 else u D σ H1
theorem ps_if {c : Expr} {a b : List Stmt} {tc : TT} (hc : PT X c tc) (ha : PSs X a t) (hb : PSs X b u) : PS X (.If c a b pos) (tIfS tc t u) := by
  intro pins s σ H D I h
  refine wpAny_If (thn (hc pins s σ H _ I h) fun d s1 ⟨H1, I1, q1⟩ => ?_)
  cases d with
  | true => exact ha pins s1 σ H1 D I1 q1
  | false => exact hb pins s1 σ H1 D I1 q1
end

/-! ### targets -/
abbrev TG := V → St → Hp → (St → Hp → Prop) → Prop
abbrev TGs := List V → St → Hp → (St → Hp → Prop) → Prop
def PG (X : Cx) (target : Expr) (t : TG) : Prop :=
  ∀ (pins : List (Addr × Obj)) (s : Shared) (σ : St) (H : Hp) (v : V) (u : Value) (Q : St → Hp → Prop), Inv X pins σ H s → RelV v u → t v σ H Q →
    wpAny (model X.prog X.w) X.A (assign target X.env u) (fun _ s' => ∃ σ' H', Inv X pins σ' H' s' ∧ Q σ' H') X.xe s
/-- several targets, one after another -/
def PGs (X : Cx) (ts : List Expr) (t : TGs) : Prop :=
  ∀ (pins : List (Addr × Obj)) (s : Shared) (σ : St) (H : Hp) (vs : List V) (us : List Value) (Q : St → Hp → Prop), Inv X pins σ H s → Vals vs us → t vs σ H Q →
    wpAny (model X.prog X.w) X.A (assignInOrder ((assignEach ts X.env).map (·.2)) us) (fun _ s' => ∃ σ' H', Inv X pins σ' H' s' ∧ Q σ' H') X.xe s
/-- o[i] = v, by values -/
abbrev TSet := V → V → V → Hp → (Hp → Prop) → Prop
section
variable {X : Cx} {pos : Pos}
def gName (i : Nat) : TG := fun v σ H Q => Q (σ.set i (some v)) H
theorem pg_name {i : Nat} {x : Str} (hN : X.N.Nodup) (hi : X.N[i]? = some x) (hx : Loc X.env.scope x) (hf : X.fn x = true ∨ X.env.scope.names.lookup x = some .local := by first | exact .inl rfl | exact .inr rfl | assumption) : PG X (.Name x pos) (gName i) := by
  intro pins s σ H v u Q I r h
  exact wpAny_assign_Name (store_ok I hN hi hx r (fun s' I' => ⟨_, H, I', h⟩) hf)
def gNil : TGs := fun vs σ H Q => vs = [] ∧ Q σ H
def gCons (t : TG) (u : TGs) : TGs := fun vs σ H Q => ∃ v r, vs = v :: r ∧ t v σ H fun σ' H' => u r σ' H' Q
theorem pgs_nil : PGs X [] gNil := by
  intro pins s σ H vs us Q I r h
  obtain ⟨e, h⟩ := h
  subst e
  cases r
  exact assignInOrder_nil ⟨σ, H, I, h⟩
theorem pgs_cons {e : Expr} {es : List Expr} {t : TG} {u : TGs} (h1 : PG X e t) (h2 : PGs X es u)
    (hs : (assignEach (e :: es) X.env).map (·.2) = assign e X.env :: (assignEach es X.env).map (·.2) := by rfl) : PGs X (e :: es) (gCons t u) := by
  intro pins s σ H vs us Q I r h
  obtain ⟨v, vr, e1, h⟩ := h
  subst e1
  cases r with
  | cons r rr =>
    rw [hs]
    refine assignInOrder_cons (thn (h1 pins s σ H _ _ _ I r h) fun _ s1 ⟨σ1, H1, I1, q1⟩ => ?_)
    exact h2 pins s1 σ1 H1 _ _ Q I1 rr q1
/-- (a, b, ..) = a tuple of that length -/
def gTup (K : PySem.W.Frag) (n : Nat) (t : TGs) : TG := fun v σ H Q => ∃ a xs, v = .ref a ∧ SqT K H a xs ∧ xs.length = n ∧ t xs σ H Q
theorem pg_tup {es : List Expr} {k : Nat} {t : TGs} {n : Nat} (hc : X.calm = true) (h : PGs X es t)
    (hn : (assignEach es X.env).length = n := by rfl) (hst : (assignEach es X.env).findIdx? (·.1) = none := by rfl) : PG X (.Tuple es k pos) (gTup X.K n t) := by
  intro pins s σ H v u Q I r hw
  obtain ⟨a, xs, e1, hq, hl, hw⟩ := hw
  subst e1
  cases r
  obtain ⟨its, rv, ht, hz⟩ := I.tuple hq
  refine assign_Tuple_tuple (I.ok.hd hc) ht (by simp [hn, ← hl, rv.length]) hst fun h' hx => ?_
  have I1 : Inv X pins σ H { s with heap := h' } := I.kept (t' := s.toks) fun b o e => hx b o (Nat.ne_of_lt (Heap.lt_size e)) e
  exact h pins _ σ H xs _ Q I1 (by simpa using rv) hw
/-- o[i] = .. -/
def gSub (to ti : TE) (t : TSet) : TG := fun v σ H Q => to σ H fun o H1 => ti σ H1 fun i H2 => t o i v H2 fun H3 => Q σ H3
/-- target = value -/
def tAsg (te : TE) (g : TG) : TS := fun D σ H => te σ H fun x H1 => g x σ H1 D.nx
theorem ps_asg {tg e : Expr} {te : TE} {g : TG} (he : PE X e te) (hg : PG X tg g) (hs : swapsWithSole [tg] e pos.line X.env = pure false := by rfl) (hw : swappedStores [tg] e X.env = pure none := by rfl)
    (h1 : (assignEach [tg] X.env).map (·.2) = [assign tg X.env] := by rfl) : PS X (.Assign [tg] e pos) (tAsg te g) := by
  intro pins s σ H D I h
  refine wpAny_Assign_stores (thn (he pins s σ H _ I h) fun v s1 ⟨x, H1, I1, r1, q1⟩ => ?_) hs hw
  rw [h1]
  exact thn (hg pins s1 σ H1 x v _ I1 r1 q1) fun _ s2 q => q
/-- name = value -/
theorem ps_set {i : Nat} {x : Str} {e : Expr} {te : TE} {pos' : Pos} (hN : X.N.Nodup) (hi : X.N[i]? = some x) (hx : Loc X.env.scope x) (he : PE X e te) (hs : swapsWith e (some (.Name x pos')) pos.line X.env = pure false := by rfl) (hf : X.fn x = true ∨ X.env.scope.names.lookup x = some .local := by first | exact .inl rfl | exact .inr rfl | assumption) :
    PS X (.Assign [.Name x pos'] e pos) (tAsg te (gName i)) := by
  intro pins s σ H D I h
  refine wpAny_Assign_Name (thn (he pins s σ H _ I h) fun v s1 ⟨y, H1, I1, r1, q1⟩ => ?_) hs
  exact store_ok I1 hN hi hx r1 (fun s2 I2 => ⟨_, H1, I2, q1⟩) hf
end

/-! ### while -/
section
variable {X : Cx} {pos : Pos}
/-- the invariant W with its measure -/
def tWhile (c : TT) (tb : TS) : TS := fun D σ H => ∃ W : Nat → St → Hp → Prop, (∃ m, W m σ H) ∧ ∀ m σ H, W m σ H →
  c σ H fun b H1 => if b = true then ∃ N : St → Hp → Prop, (∀ σ' H', N σ' H' → ∃ m', m' < m ∧ W m' σ' H') ∧ tb { D with nx := N, ct := N, bk := D.nx } σ H1 else D.nx σ H1
theorem ps_while {c : Expr} {body : List Stmt} {tc : TT} {tb : TS} (hp : PassesOwn (model X.prog X.w) X.A X.env X.xe) (hc : PT X c tc) (hb : PSs X body tb) : PS X (.While c body [] pos) (tWhile tc tb) := by
  intro pins s σ H D I h
  obtain ⟨W, ⟨m0, w0⟩, turn⟩ := h
  refine wpAny_While (codeAny_whileLoop (fun n s' => ∃ σ' H', Inv X pins σ' H' s' ∧ W n σ' H') ?_ m0 ⟨σ, H, I, w0⟩)
  rintro n s1 ⟨σ1, H1, I1, w1⟩
  refine wpAny_passesOwn hp (thn (hc pins s1 σ1 H1 _ I1 (turn n σ1 H1 w1)) fun b s2 ⟨H2, I2, q2⟩ => ?_)
  cases b with
  | true =>
    obtain ⟨N, hN, q2⟩ := q2
    rw [if_pos rfl]
    refine wpAny_passesOwn hp (thn (hb pins s2 σ1 H2 _ I2 q2) fun f s3 q3 => ?_)
    cases f with
    | next =>
      obtain ⟨σ3, H3, I3, n3⟩ := q3
      obtain ⟨m', hm, w3⟩ := hN σ3 H3 n3
      exact ⟨m', hm, σ3, H3, I3, w3⟩
    | cont =>
      obtain ⟨σ3, H3, I3, n3⟩ := q3
      obtain ⟨m', hm, w3⟩ := hN σ3 H3 n3
      exact ⟨m', hm, σ3, H3, I3, w3⟩
    | brk => exact q3
    | ret v => exact q3
  | false =>
    rw [if_neg Bool.false_ne_true]
    exact wpAny_execs_nil ⟨σ1, H2, I2, q2⟩
end

/-! ### what a loop or a comprehension walks -/
set_option genSizeOf false in
set_option genInjectivity false in
/-- at turn i: it yields x (the heap may grow), or it stops -/
structure It where
  go : Nat → Hp → Prop
  yld : Nat → Hp → V → Hp → Prop
  stop : Nat → Hp → Prop
/-- the iterator's own objects may turn: they are not the frame's, not pinned, younger than the entry (or a comprehension's own) -/
def FpOk (X : Cx) (pins : List (Addr × Obj)) (H : Hp) (b : Addr) : Prop :=
  H b = none ∧ b ≠ X.env.locals ∧ b ∉ X.fs ∧ (b ∈ X.ex ∨ X.s₀.heap.objs.size ≤ b) ∧ (∀ x c, X.env.cells.lookup x = some c → c ≠ b) ∧ ∀ p ∈ X.pn ++ pins, p.1 ≠ b
theorem Inv.fpOk {X : Cx} {pins : List (Addr × Obj)} {σ : St} {H H' : Hp} {s : Shared} {b : Addr} (I : Inv X pins σ H s) (hb : s.heap.objs.size ≤ b) (hn : H' b = none) : FpOk X pins H' b := by
  refine ⟨hn, Nat.ne_of_gt (Nat.lt_of_lt_of_le I.lt hb), I.nofs hb, .inr (Nat.le_trans I.sz hb), fun x c e z => ?_, fun p hp z => ?_⟩
  · obtain ⟨v, q⟩ := I.cell x c e
    exact absurd (Nat.lt_of_lt_of_le q.lt (by rw [z]; exact hb)) (Nat.lt_irrefl _)
  · exact absurd (Nat.lt_of_lt_of_le (Heap.lt_size (I.pin p hp).1) (by rw [z]; exact hb)) (Nat.lt_irrefl _)
structure Turn (P : Program) (w : World) (K : PySem.W.Frag) (tg : Expr) (J : It) (fp : List Addr) (it : Addr) (tn : Nat → Heap → Prop) : Prop where
  mem : it ∈ fp
  obj : ∀ i h, tn i h → ∀ b ∈ fp, ∃ o, h.get? b = some o ∧ ∀ v, o.data ≠ .cell v
  keep : ∀ i h h', tn i h → (∀ b ∈ fp, ∀ o, h.get? b = some o → h'.get? b = some o) → tn i h'
  item : ∀ (X : Cx), X.prog = P → X.w = w → X.K = K → X.calm = true → ∀ (i : Nat) (pins : List (Addr × Obj)) (s : Shared) (σ : St) (H : Hp) (E : Value → Shared → Prop), Inv X pins σ H s → (∀ b ∈ fp, FpOk X pins H b) → tn i s.heap → J.go i H →
    wpAny (model P w) X.A (pyNext (.ref it)) (fun r s1 => ∃ u, r = some u ∧
      wpAny (model P w) X.A (letOwnedTupleGo tg (.ref it) u) (fun _ s2 => ∃ x H', Inv X pins σ H' s2 ∧ RelV x u ∧ J.yld i H x H' ∧ tn (i + 1) s2.heap ∧ ∀ b ∈ fp, H' b = none) E s1) E s
  done : ∀ (X : Cx), X.prog = P → X.w = w → X.K = K → X.calm = true → ∀ (i : Nat) (pins : List (Addr × Obj)) (s : Shared) (σ : St) (H : Hp) (E : Value → Shared → Prop), Inv X pins σ H s → (∀ b ∈ fp, FpOk X pins H b) → tn i s.heap → J.stop i H →
    wpAny (model P w) X.A (pyNext (.ref it)) (fun r s1 => r = none ∧ Inv X pins σ H s1) E s
  self : ∀ (A : Around) (i : Nat) (s : Shared) (Q : Value → Shared → Prop) (E : Value → Shared → Prop), tn i s.heap → Q (.ref it) s → wpAny (model P w) A (pyIter (.ref it)) Q E s
abbrev TI := St → Hp → (It → Hp → Prop) → Prop
/-- an iterator has come -/
def PIE (X : Cx) (pins : List (Addr × Obj)) (σ : St) (tg : Expr) (R : It → Hp → Prop) (itv : Value) (s2 : Shared) : Prop :=
  ∃ (it : Addr) (fp : List Addr) (tn : Nat → Heap → Prop) (J : It) (H' : Hp), itv = .ref it ∧ Inv X pins σ H' s2 ∧ Turn X.prog X.w X.K tg J fp it tn ∧ tn 0 s2.heap ∧ (∀ b ∈ fp, FpOk X pins H' b) ∧ R J H'
def PI (X : Cx) (tg iter : Expr) (wi : TI) : Prop :=
  ∀ (pins : List (Addr × Obj)) (s : Shared) (σ : St) (H : Hp) (R : It → Hp → Prop), Inv X pins σ H s → wi σ H R →
    wpAny (model X.prog X.w) X.A (eval iter X.env) (fun v s1 => wpAny (model X.prog X.w) X.A (pyIter v) (PIE X pins σ tg R) X.xe s1) X.xe s

/-- the step ahead of the store is nothing for an iterator that keeps no tuple -/
theorem go_of {M : Model} {A : Around} {E : Value → Shared → Prop} {s : Shared} {tg : Expr} {it : Addr} {u : Value} {o : Obj} {n : String} {vs : Array Value} {Q : Unit → Shared → Prop} (ho : s.heap.get? it = some o) (hc : o.cls = .type n) (hd : o.data = .fields vs)
    (hn : ["enumerate", "zip", "dict_itemiterator", "dict_reverseitemiterator", "odict_iterator", "itertools.zip_longest", "itertools.pairwise"].contains n = false) (hQ : Q () s) : wpAny M A (letOwnedTupleGo tg (.ref it) u) Q E s := by
  unfold letOwnedTupleGo
  cases tg <;> first
    | exact wpAny_pure hQ
    | (cases u <;> first
        | exact wpAny_pure hQ
        | (refine wpAny_bind (wpAny_load ho ?_)
           rw [hc, hd]
           show wpAny M A (if (["enumerate", "zip", "dict_itemiterator", "dict_reverseitemiterator", "odict_iterator", "itertools.zip_longest", "itertools.pairwise"].contains n && vs[0]? == some (rawInt _)) = true then _ else _) Q E s
           rw [if_neg (by intro h; rw [hn, Bool.false_and] at h; cases h)]
           exact wpAny_pure hQ))

/-- the list at a, as it stands at each turn (a loop may append to it) -/
def Itl (K : PySem.W.Frag) (a : Addr) : It :=
  ⟨fun i H => ∃ xs x, SqL K H a xs ∧ xs[i]? = some x, fun i H x H' => H' = H ∧ ∀ xs, SqL K H a xs → xs[i]? = some x, fun i H => ∃ xs, SqL K H a xs ∧ xs.length ≤ i⟩
theorem turn_list {P : Program} {w : World} {K : PySem.W.Frag} {tg : Expr} (a it : Addr) : Turn P w K tg (Itl K a) [it] it (fun i h => h.IsListIter it a i) where
  mem := by simp
  obj := fun i h st b hb => by
    have e : b = it := by simpa using hb
    subst e
    obtain ⟨o, e, c, d⟩ := st
    exact ⟨o, e, fun v z => by rw [d] at z; cases z⟩
  keep := fun i h h' st k => st.at fun o e => k it (by simp) o e
  item := by
    intro X hP hw hK hc i pins s σ H E I hf st hg
    subst hP hw hK
    obtain ⟨xs, x, hq, hx⟩ := hg
    obtain ⟨its, rv, p, hz⟩ := I.list hq
    obtain ⟨u, hu, ru⟩ := rv.get hx
    obtain ⟨f0, f1, f2, f3, f4, f5⟩ := hf it (by simp)
    refine wpAny_pyNext_list_item st p.isList (x := u) (by simpa using hu) fun h' st' sb => ?_
    have I1 : Inv X pins σ H { s with heap := h' } := I.turned (t' := s.toks) (fun b o hb e => (sb.2 b hb).trans e) f0 f1 f3 f4 f5
    obtain ⟨o, e, c, d⟩ := id st'
    exact ⟨u, rfl, go_of (s := { s with heap := h' }) e c d (by decide) ⟨x, H, I1, ru, ⟨rfl, fun ys hy => by rw [I.list_inj hy hq]; exact hx⟩, st', fun b hb => (hf b hb).1⟩⟩
  done := by
    intro X hP hw hK hc i pins s σ H E I hf st hg
    subst hP hw hK
    obtain ⟨xs, hq, hx⟩ := hg
    obtain ⟨its, rv, p, hz⟩ := I.list hq
    obtain ⟨f0, f1, f2, f3, f4, f5⟩ := hf it (by simp)
    have hl := rv.length
    exact wpAny_pyNext_list_end (I.ok.hd hc) st p.isList (by simp; omega) fun h' eb => ⟨rfl, I.turned (t' := s.toks) (fun b o hb e => eb b o hb e) f0 f1 f3 f4 f5⟩
  self := fun _ _ _ _ _ st h => wpAny_pyIter_listiter st h
end L2

namespace L2
open PySem PySem.Spec PyProof.Rows
section
variable {X : Cx} {tg : Expr}
def iList (K : PySem.W.Frag) (tl : TE) : TI := fun σ H R => tl σ H fun x H1 => ∃ a, x = .ref a ∧ (∃ xs, SqL K H1 a xs) ∧ R (Itl K a) H1
theorem pi_list {l : Expr} {tl : TE} (hl : PE X l tl) : PI X tg l (iList X.K tl) := by
  intro pins s σ H R I h
  refine thn (hl pins s σ H _ I h) fun v s1 ⟨x, H1, I1, r1, q1⟩ => ?_
  obtain ⟨a, e, ⟨xs, hq⟩, q⟩ := q1
  subst e
  cases r1
  obtain ⟨its, rv, p, hz⟩ := I1.list hq
  refine wpAny_pyIter_list p.isList ?_
  refine ⟨s1.heap.objs.size, [s1.heap.objs.size], _, _, H1, rfl, I1.kept (t' := s1.toks) fun b o e => Heap.get?_push_of_some _ e, turn_list a _, ⟨_, Heap.get?_push_size _ rfl, rfl, rfl⟩, fun b hb => ?_, q⟩
  have e : b = s1.heap.objs.size := by simpa using hb
  subst e
  exact I1.fpOk (Nat.le_refl _) (I1.hok.fresh (Nat.le_refl _))
/-! ### for -/
/-- W: the invariant by the turn and a measure; N: what the body is to reach -/
def tFor (wi : TI) (g : TG) (tb : TS) : TS := fun D σ H => wi σ H fun J H1 => ∃ W : Nat → Nat → St → Hp → Prop, (∃ m, W 0 m σ H1) ∧ ∀ i m σ H, W i m σ H →
  (J.stop i H ∧ D.nx σ H) ∨ (J.go i H ∧ ∃ N : St → Hp → Prop, (∀ σ' H', N σ' H' → ∃ m', m' < m ∧ W (i + 1) m' σ' H') ∧ ∀ x H', J.yld i H x H' → g x σ H' fun σ2 H2 => tb { D with nx := N, ct := N, bk := D.nx } σ2 H2)
/-- the records at fp as they stand -/
def pinsAt (fp : List Addr) (h : Heap) : List (Addr × Obj) := fp.filterMap fun b => (h.get? b).map fun o => (b, o)
theorem mem_pinsAt {fp : List Addr} {h : Heap} {b : Addr} {o : Obj} (hb : b ∈ fp) (e : h.get? b = some o) : (b, o) ∈ pinsAt fp h := List.mem_filterMap.mpr ⟨b, hb, by rw [e]; rfl⟩
theorem of_pinsAt {fp : List Addr} {h : Heap} {p : Addr × Obj} (hp : p ∈ pinsAt fp h) : p.1 ∈ fp ∧ h.get? p.1 = some p.2 := by
  obtain ⟨b, hb, e⟩ := List.mem_filterMap.mp hp
  cases q : h.get? b with
  | none => rw [q] at e; cases e
  | some o =>
    rw [q] at e
    have e' : (b, o) = p := Option.some.inj e
    subst e'
    exact ⟨hb, q⟩
theorem Inv.pinned {pins : List (Addr × Obj)} {σ : St} {H : Hp} {s : Shared} {fp : List Addr} (I : Inv X pins σ H s) (hf : ∀ b ∈ fp, FpOk X pins H b) (ho : ∀ b ∈ fp, ∃ o, s.heap.get? b = some o ∧ ∀ v, o.data ≠ .cell v) : Inv X (pins ++ pinsAt fp s.heap) σ H s :=
  I.pins_of fun p hp => (List.mem_append.mp hp).elim (fun z => I.pin p (List.mem_append_right _ z)) fun z => by
    obtain ⟨hb, e⟩ := of_pinsAt z
    obtain ⟨f0, f1, f2, _⟩ := hf p.1 hb
    obtain ⟨o, e', d⟩ := ho p.1 hb
    rw [e] at e'; cases e'
    exact ⟨e, f0, f1, f2, d⟩
theorem Inv.unpinned {pins pl : List (Addr × Obj)} {σ : St} {H : Hp} {s : Shared} (I : Inv X (pins ++ pl) σ H s) : Inv X pins σ H s := I.pins_of fun p hp => I.pin p (List.mem_append_right _ (List.mem_append_left _ hp))
theorem ps_for {iter : Expr} {body : List Stmt} {wi : TI} {g : TG} {tb : TS} {pos : Pos} (hp : PassesOwn (model X.prog X.w) X.A X.env X.xe) (hc : X.calm = true) (hi : PI X tg iter wi) (hg : PG X tg g) (hb : PSs X body tb)
    (hs : ∀ x, foldedSetIterable iter X.env x = pure x := by intro _; rfl) : PS X (.For tg iter body [] pos) (tFor wi g tb) := by
  intro pins s σ H D I h
  refine wpAny_For (thn (hi pins s σ H _ I h) fun v s1 h1 => thn h1 fun itv s2 h2 => ?_) hs
  obtain ⟨it, fp, tn, J, H2, e, I2, T, st2, f2, W, ⟨m0, w0⟩, turn⟩ := h2
  subst e
  -- what stays true of the iterator's objects through the loop
  have stat : ∀ {H' : Hp}, (∀ b ∈ fp, H' b = none) → ∀ b ∈ fp, FpOk X pins H' b := fun hn b hb => ⟨hn b hb, (f2 b hb).2⟩
  refine codeAny_forLoop_any (fun n s' => ∃ i σ' H', Inv X pins σ' H' s' ∧ tn i s'.heap ∧ (∀ b ∈ fp, H' b = none) ∧ W i n σ' H') ?_ m0 ⟨0, σ, H2, I2, st2, fun b hb => (f2 b hb).1, w0⟩
  rintro n s3 ⟨i, σ3, H3, I3, st3, fr3, w3⟩
  rcases turn i n σ3 H3 w3 with ⟨stop, qn⟩ | ⟨go, N, hN, step⟩
  · refine wpAny_passesOwn hp (thn (T.done X rfl rfl rfl hc i pins s3 σ3 H3 X.xe I3 (stat fr3) st3 stop) fun r s4 ⟨hr, I4⟩ => ?_)
    subst hr
    exact wpAny_execs_nil ⟨σ3, H3, I4, qn⟩
  · refine wpAny_passesOwn hp (thn (T.item X rfl rfl rfl hc i pins s3 σ3 H3 X.xe I3 (stat fr3) st3 go) fun r s4 ⟨u, hr, h4⟩ => ?_)
    subst hr
    refine wpAny_passesOwn hp (thn h4 fun _ s5 ⟨x, H5, I5, r5, y5, st5, fr5⟩ => ?_)
    have I5' := I5.pinned (stat fr5) (T.obj _ _ st5)
    refine wpAny_passesOwn hp (thn (hg _ s5 σ3 H5 x u _ I5' r5 (step x H5 y5)) fun _ s6 ⟨σ6, H6, I6, q6⟩ => ?_)
    refine wpAny_passesOwn hp (thn (hb _ s6 σ6 H6 _ I6 q6) fun f s7 q7 => ?_)
    have again : ∀ {σ7 : St} {H7 : Hp}, Inv X (pins ++ pinsAt fp s5.heap) σ7 H7 s7 → N σ7 H7 → ∃ m, m < n ∧ ∃ i σ' H', Inv X pins σ' H' s7 ∧ tn i s7.heap ∧ (∀ b ∈ fp, H' b = none) ∧ W i m σ' H' := fun {σ7 H7} I7 n7 => by
      obtain ⟨m', hm, w7⟩ := hN σ7 H7 n7
      refine ⟨m', hm, i + 1, σ7, H7, I7.unpinned, T.keep _ _ _ st5 fun b hb o e => (I7.pin (b, o) (List.mem_append_right _ (List.mem_append_right _ (mem_pinsAt hb e)))).1, fun b hb => ?_, w7⟩
      obtain ⟨o, e, d⟩ := T.obj _ _ st5 b hb
      exact (I7.pin (b, o) (List.mem_append_right _ (List.mem_append_right _ (mem_pinsAt hb e)))).2.1
    cases f with
    | next => obtain ⟨σ7, H7, I7, n7⟩ := q7; exact again I7 n7
    | cont => obtain ⟨σ7, H7, I7, n7⟩ := q7; exact again I7 n7
    | brk => obtain ⟨σ7, H7, I7, q7⟩ := q7; exact ⟨σ7, H7, I7.unpinned, q7⟩
    | ret v => obtain ⟨x7, σ7, H7, I7, r7, q7⟩ := q7; exact ⟨x7, σ7, H7, I7.unpinned, r7, q7⟩
end

/-! ### the forms one uses -/
/-- over a list that the body leaves as it is -/
theorem for_list {K : PySem.W.Frag} {a : Addr} {xs : List V} {g : TG} {tb : TS} {D : Ends} {σ : St} {H : Hp} (Pv : Nat → St → Hp → Prop) (h0 : Pv 0 σ H) (hl : ∀ i σ H, i ≤ xs.length → Pv i σ H → SqL K H a xs)
    (hs : ∀ i x σ H, xs[i]? = some x → Pv i σ H → g x σ H fun σ2 H2 => tb { D with nx := Pv (i + 1), ct := Pv (i + 1), bk := D.nx } σ2 H2) (hd : ∀ σ H, Pv xs.length σ H → D.nx σ H) :
    ∃ W : Nat → Nat → St → Hp → Prop, (∃ m, W 0 m σ H) ∧ ∀ i m σ H, W i m σ H →
      ((Itl K a).stop i H ∧ D.nx σ H) ∨ ((Itl K a).go i H ∧ ∃ N : St → Hp → Prop, (∀ σ' H', N σ' H' → ∃ m', m' < m ∧ W (i + 1) m' σ' H') ∧ ∀ x H', (Itl K a).yld i H x H' → g x σ H' fun σ2 H2 => tb { D with nx := N, ct := N, bk := D.nx } σ2 H2) := by
  refine ⟨fun i m σ H => m = xs.length - i ∧ i ≤ xs.length ∧ Pv i σ H, ⟨xs.length, by simp, Nat.zero_le _, h0⟩, ?_⟩
  rintro i m σ H ⟨rfl, hi, p⟩
  have q := hl i σ H hi p
  by_cases hlt : i < xs.length
  · refine .inr ⟨⟨xs, xs[i], q, by simp [hlt]⟩, Pv (i + 1), fun σ' H' p' => ⟨xs.length - (i + 1), by omega, rfl, hlt, p'⟩, fun x H' y => ?_⟩
    obtain ⟨e, y⟩ := y
    subst e
    exact hs i x σ _ (y xs q) p
  · have e : i = xs.length := by omega
    subst e
    exact .inl ⟨⟨xs, q, Nat.le_refl _⟩, hd σ H p⟩
end L2

namespace L2
open PySem PySem.Spec PyProof.Rows

abbrev R2 := V → V → Hp → VK → Prop
/-- a two-place operation on values: f is binaryOp op, inplaceOp op or compareOp op -/
def OpR (X : Cx) (f : Value → Value → Sem Value) (r : R2) : Prop :=
  ∀ (pins : List (Addr × Obj)) (s : Shared) (σ : St) (H : Hp) (x y : V) (v u : Value) (Q : VK), Inv X pins σ H s → RelV x v → RelV y u → r x y H Q →
    wpAny (model X.prog X.w) X.A (f v u) (EP X pins σ Q) X.xe s
/-- a one-place operation -/
def UnR (X : Cx) (f : Value → Sem Value) (r : V → Hp → VK → Prop) : Prop :=
  ∀ (pins : List (Addr × Obj)) (s : Shared) (σ : St) (H : Hp) (x : V) (v : Value) (Q : VK), Inv X pins σ H s → RelV x v → r x H Q →
    wpAny (model X.prog X.w) X.A (f v) (EP X pins σ Q) X.xe s
/-- a call of a value that is known (a builtin, a type) with values -/
def CallR (X : Cx) (f : Value) (r : List V → Hp → VK → Prop) : Prop :=
  ∀ (pins : List (Addr × Obj)) (s : Shared) (σ : St) (H : Hp) (xs : List V) (us : List Value) (Q : VK), Inv X pins σ H s → Vals xs us → r xs H Q →
    wpAny (model X.prog X.w) X.A (call f us) (EP X pins σ Q) X.xe s
def tOp (r : R2) (ta tb : TE) : TE := fun σ H Q => ta σ H fun x H1 => tb σ H1 fun y H2 => r x y H2 Q
def tUn (r : V → Hp → VK → Prop) (ta : TE) : TE := fun σ H Q => ta σ H fun x H1 => r x H1 Q
/-- ints in, under C, and a value out -/
def rI (C : Int → Int → Prop) (g : Int → Int → V) : R2 := fun x y H Q => ∃ i j, x = .int i ∧ y = .int j ∧ C i j ∧ Q (g i j) H
def rI0 (g : Int → Int → V) : R2 := fun x y H Q => ∃ i j, x = .int i ∧ y = .int j ∧ Q (g i j) H
def rU (g : Int → V) : V → Hp → VK → Prop := fun x H Q => ∃ i, x = .int i ∧ Q (g i) H

section
variable {X : Cx} {a b c : Expr} {ta tb tc : TE} {pos : Pos}

theorem binT (ha : PE X a ta) (hb : PE X b tb) {pins : List (Addr × Obj)} {s : Shared} {σ : St} {H : Hp} {R : V → V → Hp → Prop} (I : Inv X pins σ H s)
    (h : ta σ H fun x H1 => tb σ H1 fun y H2 => R x y H2) {Q : Value → Shared → Prop} {f : Value → Value → Sem Value}
    (hf : ∀ v u s2 x y H2, Inv X pins σ H2 s2 → RelV x v → RelV y u → R x y H2 → wpAny (model X.prog X.w) X.A (f v u) Q X.xe s2) :
    wpAny (model X.prog X.w) X.A (eval a X.env) (fun v s₁ => wpAny (model X.prog X.w) X.A (eval b X.env) (fun u s₂ => wpAny (model X.prog X.w) X.A (f v u) Q X.xe s₂) X.xe s₁) X.xe s := by
  refine thn (ha pins s σ H _ I h) fun v s1 ⟨x, H1, I1, r1, q1⟩ => ?_
  refine thn (hb pins s1 σ H1 _ I1 q1) fun u s2 ⟨y, H2, I2, r2, q2⟩ => ?_
  exact hf v u s2 x y H2 I2 r1 r2 q2

theorem pe_op {op : Operator} {r : R2} (ho : OpR X (binaryOp op) r) (ha : PE X a ta) (hb : PE X b tb) : PE X (.BinOp a op b pos) (tOp r ta tb) := by
  intro pins s σ H Q I h
  exact wpAny_BinOp (binT ha hb I h fun v u s2 x y H2 I2 rx ry q => ho pins s2 σ H2 x y v u Q I2 rx ry q)
theorem pe_un {op : UnaryOp} {r : V → Hp → VK → Prop} (ho : UnR X (unaryOp op) r) (ha : PE X a ta) : PE X (.UnaryOp op a pos) (tUn r ta) := by
  intro pins s σ H Q I h
  exact UnaryOp_ (thn (ha pins s σ H _ I h) fun v s1 ⟨x, H1, I1, r1, q1⟩ => ho pins s1 σ H1 x v Q I1 r1 q1)
/-! ### ints -/
theorem opI {f : Value → Value → Sem Value} {C : Int → Int → Prop} {g : Int → Int → Int}
    (rule : ∀ (i j : Int) (t u : Tok) (s : Shared) (Q : Value → Shared → Prop) (E : Value → Shared → Prop), C i j → Q (.int (g i j) s.toks) { s with toks := s.toks + 1 } → wpAny (model X.prog X.w) X.A (f (.int i t) (.int j u)) Q E s) :
    OpR X f (rI C fun i j => .int (g i j)) := by
  intro pins s σ H x y v u Q I rx ry h
  obtain ⟨i, j, rfl, rfl, hc, q⟩ := h
  obtain ⟨t, rfl⟩ := rx
  obtain ⟨t', rfl⟩ := ry
  exact rule i j t t' s _ _ hc ⟨.int (g i j), H, I.tok _, ⟨_, rfl⟩, q⟩
theorem opI0 {f : Value → Value → Sem Value} {g : Int → Int → Int}
    (rule : ∀ (i j : Int) (t u : Tok) (s : Shared) (Q : Value → Shared → Prop) (E : Value → Shared → Prop), Q (.int (g i j) s.toks) { s with toks := s.toks + 1 } → wpAny (model X.prog X.w) X.A (f (.int i t) (.int j u)) Q E s) :
    OpR X f (rI0 fun i j => .int (g i j)) := by
  intro pins s σ H x y v u Q I rx ry h
  obtain ⟨i, j, rfl, rfl, q⟩ := h
  obtain ⟨t, rfl⟩ := rx
  obtain ⟨t', rfl⟩ := ry
  exact rule i j t t' s _ _ ⟨.int (g i j), H, I.tok _, ⟨_, rfl⟩, q⟩
theorem opB0 {f : Value → Value → Sem Value} {g : Int → Int → Bool}
    (rule : ∀ (i j : Int) (t u : Tok) (s : Shared) (Q : Value → Shared → Prop) (E : Value → Shared → Prop), Q (.bool (g i j)) s → wpAny (model X.prog X.w) X.A (f (.int i t) (.int j u)) Q E s) :
    OpR X f (rI0 fun i j => .bl (g i j)) := by
  intro pins s σ H x y v u Q I rx ry h
  obtain ⟨i, j, rfl, rfl, q⟩ := h
  obtain ⟨t, rfl⟩ := rx
  obtain ⟨t', rfl⟩ := ry
  exact rule i j t t' s _ _ ⟨.bl (g i j), H, I, rfl, q⟩

def CPow (i j : Int) : Prop := 0 ≤ j ∧ j ≤ 1000000 ∧ i.natAbs < 2 ^ 64
def CMul (i j : Int) : Prop := (-(2 ^ 64) < i ∧ i < 2 ^ 64) ∨ (-(2 ^ 64) < j ∧ j < 2 ^ 64)
theorem CMul.ok {i j : Int} (h : CMul i j) : IntMulOk i j := by
  rcases h with ⟨h1, h2⟩ | ⟨h1, h2⟩
  · exact .of_left (intBits_le_64 h1 h2)
  · exact .of_right (intBits_le_64 h1 h2)
theorem op_add : OpR X (binaryOp .Add) (rI0 fun i j => .int (i + j)) := opI0 fun _ _ _ _ _ _ _ q => add_int q
/-- % by a positive divisor of any size -/
theorem op_mod : OpR X (binaryOp .Mod) (rI (fun _ j => 0 < j) fun i j => .int (i % j)) := opI fun i j _ _ _ _ _ hc q => by
  have h1 : (0 : Int) < j := hc
  exact mod_int' (by omega) (by rw [Int.fmod_eq_emod_of_nonneg i (by omega)]; exact q)
theorem op_pow : OpR X (binaryOp .Pow) (rI CPow fun i j => .int (i ^ j.toNat)) := opI fun _ _ _ _ _ _ _ hc q => pow_int_small hc.1 hc.2.1 hc.2.2 q
theorem unI {f : Value → Sem Value} {g : Int → Int}
    (rule : ∀ (i : Int) (t : Tok) (s : Shared) (Q : Value → Shared → Prop) (E : Value → Shared → Prop), Q (.int (g i) s.toks) { s with toks := s.toks + 1 } → wpAny (model X.prog X.w) X.A (f (.int i t)) Q E s) :
    UnR X f (rU fun i => .int (g i)) := by
  intro pins s σ H x v Q I rx h
  obtain ⟨i, rfl, q⟩ := h
  obtain ⟨t, rfl⟩ := rx
  exact rule i t s _ _ ⟨.int (g i), H, I.tok _, ⟨_, rfl⟩, q⟩
theorem un_neg : UnR X (unaryOp .USub) (rU fun i => .int (-i)) := unI fun _ _ _ _ _ q => neg_int q
/-! ### bools among ints: n += (a < b) -/
end

/-! ### comparisons -/
/-- the scalars that == tells apart as data does -/
def scal : V → V → Bool
  | .non, .non => true | .non, .int _ => true | .int _, .non => true | .non, .bl _ => true | .bl _, .non => true | .non, .str _ => true | .str _, .non => true
  | .int _, .int _ => true | .bl _, .bl _ => true | .str _, .str _ => true | .byt _, .byt _ => true
  | .int _, .str _ => true | .str _, .int _ => true | .bl _, .str _ => true | .str _, .bl _ => true
  | _, _ => false
def rEq : R2 := fun x y H Q => scal x y = true ∧ Q (.bl (decide (x = y))) H
def rNe : R2 := fun x y H Q => scal x y = true ∧ Q (.bl (!decide (x = y))) H

theorem dec_int {i j : Int} : decide (V.int i = V.int j) = (i == j) := by
  rw [Bool.eq_iff_iff]
  simp
theorem dec_bl {i j : Bool} : decide (V.bl i = V.bl j) = (i == j) := by
  rw [Bool.eq_iff_iff]
  simp
theorem dec_str {i j : Str} : decide (V.str i = V.str j) = (i == j) := by
  rw [Bool.eq_iff_iff]
  simp
theorem dec_byt {i j : Array UInt8} : decide (V.byt i = V.byt j) = (i.toList == j.toList) := by
  rw [Bool.eq_iff_iff]
  cases i
  cases j
  simp

section
variable {X : Cx} {a b c : Expr} {ta tb tc : TE} {pos : Pos}
theorem fin_bl {pins : List (Addr × Obj)} {σ : St} {H : Hp} {s : Shared} {Q : VK} {k k' : Bool} (I : Inv X pins σ H s) (q : Q (.bl k) H) (e : k = k') : EP X pins σ Q (.bool k') s := by
  subst e
  exact ⟨.bl k, H, I, rfl, q⟩
theorem op_eq : OpR X (compareOp .Eq) rEq := by
  intro pins s σ H x y v u Q I rx ry h
  obtain ⟨hs, q⟩ := h
  cases x with
  | non =>
    cases rx
    cases y with
    | non => cases ry; exact PySem.EqNone.eq_none_none (fin_bl I q (by simp))
    | bl j => cases ry; exact PySem.EqNone.eq_none_bool (fin_bl I q (by simp))
    | int j => obtain ⟨t', rfl⟩ := ry; exact PySem.EqNone.eq_none_int (fin_bl I q (by simp))
    | str j => obtain ⟨t', rfl⟩ := ry; exact PySem.EqNone.eq_none_str (fin_bl I q (by simp))
    | _ => exact absurd (show false = true from hs) Bool.false_ne_true
  | bl i =>
    cases rx
    cases y with
    | non => cases ry; exact PySem.EqNone.eq_bool_none (fin_bl I q (by simp))
    | bl j => cases ry; exact eq_bool (fin_bl I q dec_bl)
    | str j => obtain ⟨t', rfl⟩ := ry; exact PySem.EqMixed.eq_bool_str (fin_bl I q (by simp))
    | _ => exact absurd (show false = true from hs) Bool.false_ne_true
  | int i =>
    obtain ⟨t, rfl⟩ := rx
    cases y with
    | non => cases ry; exact PySem.EqNone.eq_int_none (fin_bl I q (by simp))
    | int j => obtain ⟨t', rfl⟩ := ry; exact eq_int (fin_bl I q dec_int)
    | str j => obtain ⟨t', rfl⟩ := ry; exact PySem.EqMixed.eq_int_str (fin_bl I q (by simp))
    | _ => exact absurd (show false = true from hs) Bool.false_ne_true
  | str i =>
    obtain ⟨t, rfl⟩ := rx
    cases y with
    | non => cases ry; exact PySem.EqNone.eq_str_none (fin_bl I q (by simp))
    | bl j => cases ry; exact PySem.EqMixed.eq_str_bool (fin_bl I q (by simp))
    | int j => obtain ⟨t', rfl⟩ := ry; exact PySem.EqMixed.eq_str_int (fin_bl I q (by simp))
    | str j => obtain ⟨t', rfl⟩ := ry; exact eq_str (fin_bl I q dec_str)
    | _ => exact absurd (show false = true from hs) Bool.false_ne_true
  | byt i =>
    obtain ⟨t, rfl⟩ := rx
    cases y with
    | byt j => obtain ⟨t', rfl⟩ := ry; exact PySem.W.eq_bytes (fin_bl I q dec_byt)
    | _ => exact absurd (show false = true from hs) Bool.false_ne_true
  | _ => cases y <;> exact absurd (show false = true from hs) Bool.false_ne_true
theorem op_ne : OpR X (compareOp .NotEq) rNe := by
  intro pins s σ H x y v u Q I rx ry h
  obtain ⟨hs, q⟩ := h
  cases x with
  | non =>
    cases rx
    cases y with
    | non => cases ry; exact PySem.EqNone.ne_none_none (fin_bl I q (by simp))
    | bl j => cases ry; exact PySem.EqNone.ne_none_bool (fin_bl I q (by simp))
    | int j => obtain ⟨t', rfl⟩ := ry; exact PySem.EqNone.ne_none_int (fin_bl I q (by simp))
    | str j => obtain ⟨t', rfl⟩ := ry; exact PySem.EqNone.ne_none_str (fin_bl I q (by simp))
    | _ => exact absurd (show false = true from hs) Bool.false_ne_true
  | bl i =>
    cases rx
    cases y with
    | non => cases ry; exact PySem.EqNone.ne_bool_none (fin_bl I q (by simp))
    | bl j => cases ry; exact ne_bool (fin_bl I q (congrArg not dec_bl))
    | str j => obtain ⟨t', rfl⟩ := ry; exact PySem.EqMixed.ne_bool_str (fin_bl I q (by simp))
    | _ => exact absurd (show false = true from hs) Bool.false_ne_true
  | int i =>
    obtain ⟨t, rfl⟩ := rx
    cases y with
    | non => cases ry; exact PySem.EqNone.ne_int_none (fin_bl I q (by simp))
    | int j => obtain ⟨t', rfl⟩ := ry; exact ne_int (fin_bl I q (congrArg not dec_int))
    | str j => obtain ⟨t', rfl⟩ := ry; exact PySem.EqMixed.ne_int_str (fin_bl I q (by simp))
    | _ => exact absurd (show false = true from hs) Bool.false_ne_true
  | str i =>
    obtain ⟨t, rfl⟩ := rx
    cases y with
    | non => cases ry; exact PySem.EqNone.ne_str_none (fin_bl I q (by simp))
    | bl j => cases ry; exact PySem.EqMixed.ne_str_bool (fin_bl I q (by simp))
    | int j => obtain ⟨t', rfl⟩ := ry; exact PySem.EqMixed.ne_str_int (fin_bl I q (by simp))
    | str j => obtain ⟨t', rfl⟩ := ry; exact ne_str (fin_bl I q (congrArg not dec_str))
    | _ => exact absurd (show false = true from hs) Bool.false_ne_true
  | byt i =>
    obtain ⟨t, rfl⟩ := rx
    cases y with
    | byt j => obtain ⟨t', rfl⟩ := ry; exact PySem.W.ne_bytes (fin_bl I q (congrArg not dec_byt))
    | _ => exact absurd (show false = true from hs) Bool.false_ne_true
  | _ => cases y <;> exact absurd (show false = true from hs) Bool.false_ne_true

theorem op_lt : OpR X (compareOp .Lt) (rI0 fun i j => .bl (decide (i < j))) := opB0 fun _ _ _ _ _ _ _ q => lt_int q
theorem op_gt : OpR X (compareOp .Gt) (rI0 fun i j => .bl (decide (j < i))) := opB0 fun _ _ _ _ _ _ _ q => gt_int q
/-- the one string within the other -/
theorem op_in_str : OpR X (compareOp .In) (fun x y H Q => ∃ i j, x = .str i ∧ y = .str j ∧ Q (.bl (!(Builtin.Str.occurrences j i 0 j.length 1).isEmpty)) H) := by
  intro pins s σ H x y v u Q I rx ry h
  obtain ⟨i, j, rfl, rfl, q⟩ := h
  obtain ⟨t, rfl⟩ := rx
  obtain ⟨t', rfl⟩ := ry
  exact in_str (fin_bl I q rfl)

theorem nomark (b : Expr) {op : CmpOp} (h : op ≠ .In := by decide) (h2 : op ≠ .NotIn := by decide) : behindInMarks op b = false := by
  have e1 : (op == CmpOp.In) = false := by cases op <;> first | rfl | exact absurd rfl h
  have e2 : (op == CmpOp.NotIn) = false := by cases op <;> first | rfl | exact absurd rfl h2
  cases b <;> simp [behindInMarks, e1, e2]
/-- a comparison as a value; hm: nomark b, or (for in, not in) by with_unfolding_all rfl -/
theorem pe_cmpR {op : CmpOp} {r : R2} (ho : OpR X (compareOp op) r) (ha : PE X a ta) (hb : PE X b tb) (hm : behindInMarks op b = false) : PE X (.Compare a [op] [b] pos) (tOp r ta tb) := by
  intro pins s σ H Q I h
  exact wpAny_Compare1 (binT ha hb I h fun v u s2 x y H2 I2 rx ry q => ho pins s2 σ H2 x y v u Q I2 rx ry q) hm
/-- a reading of a value as a test -/
def tTest (t : TE) : TT := fun σ H Q => t σ H fun x H' => ∃ k, x = .bl k ∧ Q k H'
theorem pt_cmpR {op : CmpOp} {r : R2} (ho : OpR X (compareOp op) r) (ha : PE X a ta) (hb : PE X b tb) (hm : behindInMarks op b = false) : PT X (.Compare a [op] [b] pos) (tTest (tOp r ta tb)) := by
  intro pins s σ H Q I h
  refine wpAny_isTrue_Compare1 (thn (ha pins s σ H _ I h) fun v s1 ⟨x, H1, I1, r1, q1⟩ => thn (hb pins s1 σ H1 _ I1 q1) fun u s2 ⟨y, H2, I2, r2, q2⟩ =>
    thn (ho pins s2 σ H2 x y v u _ I2 r1 r2 q2) fun c s3 ⟨z, H3, I3, r3, k, e, q3⟩ => ?_) hm
  subst e
  cases r3
  exact wpAny_truthy_bool ⟨H3, I3, q3⟩
/-! ### truth -/
theorem line63 : (sizeLine : Nat) < 2 ^ 63 := by rw [sizeLine_eq]; decide
/-! ### strs and bytes -/
theorem op_add_str : OpR X (binaryOp .Add) (fun x y H Q => ∃ i j, x = .str i ∧ y = .str j ∧ i.length + j.length ≤ sizeLine ∧ Q (.str (i ++ j)) H) := by
  intro pins s σ H x y v u Q I rx ry h
  obtain ⟨i, j, rfl, rfl, hz, q⟩ := h
  obtain ⟨t, rfl⟩ := rx
  obtain ⟨t', rfl⟩ := ry
  exact add_str (fun t' tk => ⟨.str (i ++ j), H, I.tok _, ⟨_, rfl⟩, q⟩) hz
/-! ### scalar builtins, by CallR -/
theorem vals1 {x : V} {us : List Value} (r : Vals [x] us) : ∃ u, us = [u] ∧ RelV x u := by
  cases r with
  | cons r1 r2 => cases r2; exact ⟨_, rfl, r1⟩
theorem vals2 {x y : V} {us : List Value} (r : Vals [x, y] us) : ∃ u w', us = [u, w'] ∧ RelV x u ∧ RelV y w' := by
  cases r with
  | cons r1 r2 =>
    cases r2 with
    | cons r3 r4 => cases r4; exact ⟨_, _, rfl, r1, r3⟩
theorem call_abs : CallR X (.builtin "abs") (fun xs H Q => ∃ i, xs = [.int i] ∧ Q (.int (if i < 0 then -i else i)) H) := by
  intro pins s σ H xs us Q I r h
  obtain ⟨i, rfl, q⟩ := h
  obtain ⟨u, rfl, t, rfl⟩ := vals1 r
  exact call_abs_int fun u tk => ⟨.int (if i < 0 then -i else i), H, I.tok _, ⟨_, rfl⟩, q⟩
theorem call_str_int : CallR X (.type "str") (fun xs H Q => ∃ i, xs = [.int i] ∧ i.natAbs.log2 < 1920 ∧ Q (.str (toString i)) H) := by
  intro pins s σ H xs us Q I r h
  obtain ⟨i, rfl, hz, q⟩ := h
  obtain ⟨u, rfl, t, rfl⟩ := vals1 r
  exact PySem.P.str_of_int hz ⟨.str _, H, I.tok _, ⟨_, rfl⟩, q⟩
/-- len of a str, a bytes, a list, a tuple -/
def LenV (K : PySem.W.Frag) (x : V) (H : Hp) (n : Nat) : Prop :=
  match x with
  | .str y => y.length ≤ sizeLine ∧ n = y.length
  | .byt y => y.size ≤ sizeLine ∧ n = y.size
  | .ref p => (∃ xs, SqL K H p xs ∧ n = xs.length) ∨ ∃ xs, SqT K H p xs ∧ n = xs.length
  | _ => False
theorem call_len : CallR X (.builtin "len") (fun xs H Q => ∃ x n, xs = [x] ∧ LenV X.K x H n ∧ Q (.int n) H) := by
  intro pins s σ H xs us Q I r h
  obtain ⟨x, n, rfl, e, q⟩ := h
  obtain ⟨u, rfl, rx⟩ := vals1 r
  have hl := line63
  have hs : sizeLine = 16777216 := sizeLine_eq
  cases x with
  | str y =>
    obtain ⟨t, rfl⟩ := rx
    obtain ⟨hy, e'⟩ : y.length ≤ sizeLine ∧ n = y.length := e
    subst e'
    exact len_str (by omega) ⟨.int _, H, I.tok _, ⟨_, rfl⟩, q⟩
  | byt y =>
    obtain ⟨t, rfl⟩ := rx
    obtain ⟨hy, e'⟩ : y.size ≤ sizeLine ∧ n = y.size := e
    subst e'
    exact PySem.W.len_bytes (by omega) ⟨.int _, H, I.tok _, ⟨_, rfl⟩, q⟩
  | ref p =>
    cases rx
    have e' : (∃ xs, SqL X.K H p xs ∧ n = xs.length) ∨ ∃ xs, SqT X.K H p xs ∧ n = xs.length := e
    rcases e' with ⟨xs, hx, e'⟩ | ⟨xs, hx, e'⟩
    · subst e'
      obtain ⟨its, r', pl, hz⟩ := I.list hx
      have hlen := r'.length
      exact Calls.call_len_list pl.isList (by simp only [List.size_toArray]; omega) ⟨.int xs.length, H, I.tok _, ⟨_, by simp only [List.size_toArray]; rw [hlen]⟩, q⟩
    · subst e'
      obtain ⟨its, r', pl, hz⟩ := I.tuple hx
      have hlen := r'.length
      exact len_tuple pl (by simp only [List.size_toArray]; omega) ⟨.int xs.length, H, I.tok _, ⟨_, by simp only [List.size_toArray]; rw [hlen]⟩, q⟩
  | _ => exact (show False from e).elim
end
end L2

namespace L2
open PySem PySem.Spec PyProof.Rows

/-! ### an instance, its attributes a map -/
structure ObjM (h : Heap) (x dx C : Addr) (mA : Str → Option Value) : Prop where
  obj : h.get? x = some (PySem.W.instObj C dx)
  ns : h.Ns1 dx mA
  ne : dx ≠ x

theorem lookIn_ns {h : Heap} {dx : Addr} {mA : Str → Option Value} (n : h.Ns1 dx mA) : ∃ od, h.get? dx = some od ∧ ∀ name, PySem.W.lookIn name od = some (mA name) := by
  obtain ⟨o, es, ep, ho, hd, hk, _, hm⟩ := n
  refine ⟨o, ho, fun name => ?_⟩
  have e := hm name
  unfold nsFind findBy at e
  rw [← Array.find?_toList] at e
  unfold PySem.W.lookIn
  rw [hd]
  dsimp only
  split
  · rename_i y q
    rw [q] at e
    exact congrArg some e
  · rename_i q
    rw [q] at e
    have a : es.toList.any (·.refKey) = false := by
      rw [List.any_eq_false]
      intro y hy
      obtain ⟨z, t, hkey⟩ := hk y (Array.mem_toList_iff.mp hy)
      simp [DictEntry.refKey, hkey]
    have a' : ¬ es.toList.any (·.refKey) = true := by rw [a]; exact Bool.false_ne_true
    rw [if_neg a']
    exact congrArg some e

theorem ObjM.look {h : Heap} {x dx C : Addr} {mA : Str → Option Value} (I : ObjM h x dx C mA) : ∃ od, PySem.W.InstAt h x (PySem.W.instObj C dx) C (some od) ∧ ∀ name, PySem.W.lookIn name od = some (mA name) :=
  let ⟨od, ho, hl⟩ := lookIn_ns I.ns
  ⟨od, ⟨I.obj, rfl, rfl, ho⟩, hl⟩

section
variable {prog : Program} {w : World} {A : Around} {E : Value → Shared → Prop} {s : Shared} {K : PySem.W.Frag} {x dx C f : Addr} {mA : Str → Option Value} {name : Str} {v : Value}

theorem get_map {expr : Bool} {Q : Value → Shared → Prop} (X : K.In s.heap) (I : ObjM s.heap x dx C mA) (hg : PySem.W.plainGet K C name = true) (hh : PySem.W.hasDictIn K C = true)
    (ha : PySem.W.findIn K (.ref C) name = some none) (hv : mA name = some v) (hv' : PySem.W.handedIn v = true) (h : Q v { s with toks := s.toks + 1 }) :
    wpAny (model prog w) A (getAttr (.ref x) name expr) Q E s := by
  obtain ⟨od, J, hl⟩ := I.look
  exact PySem.W.get_value X J (PySem.W.plainGet_of hg).1 (PySem.W.findObj_own hh ha rfl (by rw [hl, hv])) hv' h

theorem get_meth {pl : Sem Bool} {Q : Value × List Value → Shared → Prop} (X : K.In s.heap) (I : ObjM s.heap x dx C mA) (hg : PySem.W.plainGet K C name = true)
    (hf : PySem.W.findIn K (.ref C) name = some (some (.ref f))) (ht : PySem.W.isFn K (.ref f) = true) (hv : mA name = none) (h : Q (.ref f, [.ref x]) s) :
    wpAny (model prog w) A (getMethod (.ref x) name pl) Q E s := by
  obtain ⟨od, J, hl⟩ := I.look
  exact PySem.W.method_fn X J (PySem.W.plainGet_of hg).1 (PySem.W.plainGet_of hg).2 hf (beq_iff_eq.mp ht) (by show (PySem.W.lookIn name od).map (·.isSome) = some false; rw [hl, hv]; rfl) h

theorem set_map {ns : List Str} {Q : Unit → Shared → Prop} (X : K.In s.heap) (I : ObjM s.heap x dx C mA)
    (hs : PySem.W.findIn K (.ref C) "__setattr__" = some (some (.builtin "object.__setattr__"))) (hp : PySem.W.plainOver K C = true) (ht : PySem.W.takerIn K C name = some none) (hh : PySem.W.hasDictIn K C = true)
    (hw : PySem.Within mA ns) (hsz : ns.length ≤ sizeLine)
    (h : ∀ h', ObjM h' x dx C (fun y => if y = name then some v else mA y) → Heap.SameBut dx s.heap h' → Q () { s with heap := h', toks := s.toks + 2 }) :
    wpAny (model prog w) A (setAttr (.ref x) name v) Q E s := by
  obtain ⟨od, J, hl⟩ := I.look
  refine PySem.W.set_plain X J hs (PySem.W.osa_open (s := { s with toks := s.toks + 1 }) (r := none) X J hp ht fun b => ?_)
  obtain ⟨cd, hc, hd'⟩ := PySem.W.any_some hh
  have hx : s.heap.get? x = some ⟨.ref C, some dx, .plain, #[]⟩ := I.obj
  refine wpAny_bind (wpAny_pure (wpAny_bind (wpAny_bind (wpAny_loadPart hx (wpAny_bind (PySem.W.Looks.here (s := { s with toks := s.toks + 1 }) (PySem.W.looks_clsIn X hc) ?_))))))
  rw [hd']
  refine wpAny_pure (a := some dx) (wpAny_bind (wpAny_pure (wpAny_bind ?_)))
  refine wpAny_nsSet1 (s := { s with toks := s.toks + 1 }) I.ns fun h' hn2 hs2 => ?_
  obtain ⟨oD, esD, epD, hoD, hdD, hcD⟩ := hn2.count (PySem.Within.cons name v hw)
  refine wpAny_bind (wpAny_lookBehind hoD (by rw [hdD]; exact pastItsLine_dict (Nat.le_trans hcD (by rw [List.length_cons]; omega))) ?_)
  exact wpAny_pure (h _ ⟨(hs2.2 _ (Ne.symm I.ne)).trans I.obj, hn2, I.ne⟩ hs2)

/-- C(..): the dict at the heap's end, the instance behind it; then its __init__ -/
theorem make_map {R : Result → Shared → Prop} {vs : List Value} {kw : List (Str × Value)} (X : K.In s.heap) (hm : PySem.W.makesIn K C = true)
    (hi : PySem.W.findIn K (.ref C) "__init__" = some (some (.ref f))) (hf : PySem.W.typeIn K (.ref f) = some (.type "function"))
    (h : codeAny (model prog w) (A.under (.builtin "type.__call__" ⟨.ref C :: vs, kw⟩)) (.call (.ref f) ⟨.ref (s.heap.objs.size + 1) :: vs, kw⟩) (PySem.W.InitBack (s.heap.objs.size + 1) R)
      { s with heap := (s.heap.push PySem.W.emptyDict).push (PySem.W.instObj C s.heap.objs.size) }) :
    codeAny (model prog w) A (.call (.ref C) ⟨vs, kw⟩) R s := by
  obtain ⟨hh, g, d, t, os⟩ := s
  exact PySem.W.make_core (PySem.W.makes_of X hm) (PySem.W.looks_findIn X hi) (fun self => PySem.W.bind_fn X self hf) (.inl rfl) h
end

/-! ### the attributes as a list of pairs -/
def putF (f : Str) (v : V) : List (Str × V) → List (Str × V)
  | [] => [(f, v)]
  | (g, x) :: r => if g = f then (g, v) :: r else (g, x) :: putF f v r
theorem lookup_putF (f g : Str) (v : V) : ∀ fs : List (Str × V), (putF f v fs).lookup g = if g = f then some v else fs.lookup g
  | [] => by
    show List.lookup g [(f, v)] = _
    by_cases h : g = f
    · have hb : (g == f) = true := beq_iff_eq.mpr h
      simp only [List.lookup, hb, if_pos h]
    · have hb : (g == f) = false := beq_eq_false_iff_ne.mpr h
      simp only [List.lookup, hb, if_neg h]
  | (k, x) :: r => by
    have ih := lookup_putF f g v r
    rw [show putF f v ((k, x) :: r) = (if k = f then (k, v) :: r else (k, x) :: putF f v r) from rfl]
    by_cases hk : k = f
    · rw [if_pos hk]
      by_cases h : g = k
      · have hb : (g == k) = true := beq_iff_eq.mpr h
        simp only [List.lookup, hb, if_pos (h.trans hk)]
      · have hb : (g == k) = false := beq_eq_false_iff_ne.mpr h
        simp only [List.lookup, hb, if_neg (fun e : g = f => h (e.trans hk.symm))]
    · rw [if_neg hk]
      by_cases h : g = k
      · have hb : (g == k) = true := beq_iff_eq.mpr h
        simp only [List.lookup, hb, if_neg (fun e : g = f => hk (h.symm.trans e))]
      · have hb : (g == k) = false := beq_eq_false_iff_ne.mpr h
        simp only [List.lookup, hb]
        exact ih
theorem keys_putF (f : Str) (v : V) : ∀ fs : List (Str × V), f ∈ (putF f v fs).map (·.1) ∧ ∀ g, g ∈ fs.map (·.1) → g ∈ (putF f v fs).map (·.1)
  | [] => ⟨by simp [putF], fun g h => by simp at h⟩
  | (k, x) :: r => by
    obtain ⟨i1, i2⟩ := keys_putF f v r
    rw [show putF f v ((k, x) :: r) = (if k = f then (k, v) :: r else (k, x) :: putF f v r) from rfl]
    by_cases hk : k = f
    · rw [if_pos hk]
      subst hk
      exact ⟨by simp, fun g h => by simpa using h⟩
    · rw [if_neg hk]
      refine ⟨?_, fun g h => ?_⟩
      · rw [List.map_cons]
        exact List.mem_cons_of_mem _ i1
      · rw [List.map_cons] at h ⊢
        rcases List.mem_cons.mp h with e | e
        · exact List.mem_cons.mpr (.inl e)
        · exact List.mem_cons_of_mem _ (i2 g e)
theorem length_putF (f : Str) (v : V) : ∀ fs : List (Str × V), (putF f v fs).length ≤ fs.length + 1
  | [] => by simp [putF]
  | (k, x) :: r => by
    have ih := length_putF f v r
    rw [show putF f v ((k, x) :: r) = (if k = f then (k, v) :: r else (k, x) :: putF f v r) from rfl]
    by_cases hk : k = f
    · rw [if_pos hk, List.length_cons, List.length_cons]; omega
    · rw [if_neg hk, List.length_cons, List.length_cons]; omega

theorem RelO.some_of {v : V} {o : Option Value} (r : RelO (some v) o) : ∃ u, o = some u ∧ RelV v u := by
  cases o with
  | none => exact (show False from r).elim
  | some u => exact ⟨u, rfl, r⟩
theorem RelO.none_of {o : Option Value} (r : RelO none o) : o = none := by
  cases o with
  | none => rfl
  | some u => exact (show False from r).elim
theorem handed_of {v : V} {u : Value} (r : RelV v u) : PySem.W.handedIn u = true := by
  cases v with
  | non => cases (show u = Value.none from r); rfl
  | bl b => cases (show u = Value.bool b from r); rfl
  | int i => obtain ⟨t, e⟩ := (show ∃ t, u = Value.int i t from r); cases e; rfl
  | str x => obtain ⟨t, e⟩ := (show ∃ t, u = Value.str x t from r); cases e; rfl
  | byt b => obtain ⟨t, e⟩ := (show ∃ t, u = Value.bytes b t from r); cases e; rfl
  | flt b => obtain ⟨t, e⟩ := (show ∃ t, u = Value.float b t from r); cases e; rfl
  | ref a => cases (show u = Value.ref a from r); rfl
  | ty n => cases (show u = Value.type n from r); rfl

section
variable {P : Program} {w : World} {H H' : Hp} {h h' : Heap} {a C dx : Addr} {fs fs' : List (Str × V)}
theorem ins_get (hok : HOk P w H h) (e : H a = some (.ins C dx fs)) : ∃ mA, ObjM h a dx C mA ∧ (∀ f, RelO (fs.lookup f) (mA f)) ∧ PySem.Within mA (fs.map (·.1)) ∧ fs.length ≤ 1000 ∧ H dx = some (.own a) := by
  obtain ⟨d, z, ne, ob, mA, n, r, q⟩ := (show ObjOk P w H h a (.ins C dx fs) from hok a _ e)
  exact ⟨mA, ⟨ob, n, ne⟩, r, q, z, d⟩
end

/-! ### what of the text a class must have -/
structure Cls (K : PySem.W.Frag) (C : Addr) : Prop where
  pg : PySem.W.plainGet K C Str.empty = true
  hd : PySem.W.hasDictIn K C = true
  po : PySem.W.plainOver K C = true
  sa : PySem.W.findIn K (.ref C) "__setattr__" = some (some (.builtin "object.__setattr__"))
theorem Cls.get {K : PySem.W.Frag} {C : Addr} (c : Cls K C) (f : Str) : PySem.W.plainGet K C f = true := c.pg
/-- no class of it has the name -/
def NoAttr (K : PySem.W.Frag) (C : Addr) (f : Str) : Prop := PySem.W.findIn K (.ref C) f = some none
theorem NoAttr.taker {K : PySem.W.Frag} {C : Addr} {f : Str} (n : NoAttr K C f) : PySem.W.takerIn K C f = some none := by
  unfold PySem.W.takerIn
  rw [show PySem.W.findIn K (.ref C) f = some none from n]
  rfl
/-- a method: a plain def of the class or of one above it -/
structure Meth (K : PySem.W.Frag) (C : Addr) (m : Str) (f : Addr) : Prop where
  at_ : PySem.W.findIn K (.ref C) m = some (some (.ref f))
  fn : PySem.W.isFn K (.ref f) = true
  kp : PySem.W.keepIn K (.ref f) = true

section
variable {X : Cx} {pins : List (Addr × Obj)} {σ : St} {H : Hp} {s : Shared} {a C dx : Addr} {fs : List (Str × V)} {f : Str} {v : V} {A : Around} {E : Value → Shared → Prop}

theorem getattr_ok {b : Bool} {Q : Value → Shared → Prop} (I : Inv X pins σ H s) (e : H a = some (.ins C dx fs)) (c : Cls X.K C) (n : NoAttr X.K C f) (l : fs.lookup f = some v)
    (h : ∀ u s', Inv X pins σ H s' → RelV v u → Q u s') : wpAny (model X.prog X.w) A (getAttr (.ref a) f b) Q E s := by
  obtain ⟨mA, O, r, _, _, _⟩ := ins_get I.hok e
  obtain ⟨u, hu, ru⟩ := RelO.some_of (v := v) (o := mA f) (by rw [← l]; exact r f)
  exact get_map I.kIn O (c.get f) c.hd n hu (handed_of ru) (h u _ (I.tok _) ru)

theorem getmeth_ok {m : Str} {g : Addr} {pl : Sem Bool} {Q : Value × List Value → Shared → Prop} (I : Inv X pins σ H s) (e : H a = some (.ins C dx fs)) (c : Cls X.K C) (k : Meth X.K C m g) (l : fs.lookup m = none)
    (h : Q (.ref g, [.ref a]) s) : wpAny (model X.prog X.w) A (getMethod (.ref a) m pl) Q E s := by
  obtain ⟨mA, O, r, _, _, _⟩ := ins_get I.hok e
  have hn : mA m = none := RelO.none_of (by rw [← l]; exact r m)
  exact get_meth I.kIn O (c.get m) k.at_ k.fn hn h

theorem setattr_ok {y : V} {u : Value} {Q : Unit → Shared → Prop} (I : Inv X pins σ H s) (e : H a = some (.ins C dx fs)) (c : Cls X.K C) (n : NoAttr X.K C f) (hl : fs.length < 1000) (ry : RelV y u)
    (h : ∀ s', Inv X pins σ (upd H a (.ins C dx (putF f y fs))) s' → Q () s') : wpAny (model X.prog X.w) A (setAttr (.ref a) f u) Q E s := by
  obtain ⟨mA, O, r, wi, _, ho⟩ := ins_get I.hok e
  have hz : (fs.map (·.1)).length ≤ sizeLine := by rw [List.length_map, sizeLine_eq]; omega
  refine set_map I.kIn O c.sa c.po n.taker c.hd wi hz fun h' O' sb => h _ ?_
  have hd : ∃ o, h'.get? dx = some o := let ⟨o, _, _, e', _⟩ := O'.ns; ⟨o, e'⟩
  refine I.write (x := a) (e := dx) (by rw [e]; exact True.intro) (.inr ho) (fun b q hb z => (sb.2 b hb).trans z) hd ?_
  refine ⟨by rw [upd_ne O.ne]; exact ho, ?_, O.ne, O'.obj, _, O'.ns, fun g => ?_, fun g hg => ?_⟩
  · have := length_putF f y fs; omega
  · show RelO ((putF f y fs).lookup g) (if g = f then some u else mA g)
    rw [lookup_putF]
    by_cases q : g = f
    · rw [if_pos q, if_pos q]; exact ry
    · rw [if_neg q, if_neg q]; exact r g
  · by_cases q : g = f
    · rw [q]; exact (keys_putF f y fs).1
    · refine (keys_putF f y fs).2 g (wi g fun z => hg ?_)
      show (if g = f then some u else mA g) = none
      rw [if_neg q]; exact z

/-- a new instance, tracked, without attributes -/
theorem Inv.made (I : Inv X pins σ H s) : Inv X pins σ (upd (upd H s.heap.objs.size (.own (s.heap.objs.size + 1))) (s.heap.objs.size + 1) (.ins C s.heap.objs.size []))
    { s with heap := (s.heap.push PySem.W.emptyDict).push (PySem.W.instObj C s.heap.objs.size) } := by
  have e1 : (s.heap.push PySem.W.emptyDict).get? s.heap.objs.size = some PySem.W.emptyDict := Heap.get?_push_size s.heap rfl
  have e2 : ((s.heap.push PySem.W.emptyDict).push (PySem.W.instObj C s.heap.objs.size)).get? (s.heap.objs.size + 1) = some (PySem.W.instObj C s.heap.objs.size) := by
    have := Heap.get?_push_size (s.heap.push PySem.W.emptyDict) (o := PySem.W.instObj C s.heap.objs.size) rfl
    rwa [Heap.size_push] at this
  have e3 : (s.heap.push PySem.W.emptyDict).Ns s.heap.objs.size (fun _ => none) := ⟨PySem.W.emptyDict, #[], _, e1, rfl, (fun e he => absurd he (by simp)), fun _ => rfl⟩
  have I1 := I.laid (a := s.heap.objs.size) (o := .own (s.heap.objs.size + 1)) (h' := s.heap.push PySem.W.emptyDict) (t' := s.toks) (fun b u q => Heap.get?_push_of_some _ q) (Nat.le_refl _) ⟨_, e1⟩
  refine I1.laid (a := s.heap.objs.size + 1) (o := .ins C s.heap.objs.size []) (t' := s.toks) (fun b u q => Heap.get?_push_of_some _ q) (Nat.le_of_eq (Heap.size_push _ _)) ?_
  have ne : s.heap.objs.size ≠ s.heap.objs.size + 1 := Nat.ne_of_lt (Nat.lt_succ_self _)
  refine ⟨by rw [upd_ne ne, upd_same], Nat.zero_le _, ne, e2, fun _ => none, (Heap.Ns1.of_empty e3).at fun o q => Heap.get?_push_of_some _ q, fun _ => True.intro, fun y hy => absurd rfl hy⟩

/-- e.f where nothing but the object is asked: through attributeBase (super) and the last hold -/
theorem attr_of {prog : Program} {w : World} {env : Env} {e : Expr} {f : Str} {pos : Pos} {s : Shared} {Q : Value → Shared → Prop} (hb : attributeBase e f env (eval e env) = eval e env)
    (h : wpAny (model prog w) A (eval e env) (fun o s₁ => wpAny (model prog w) A (getAttr o f true) Q E s₁) E s) : wpAny (model prog w) A (eval (.Attribute e f pos) env) Q E s :=
  Attribute_any_ h (by rw [arm_eval_Attribute, hb])
end

/-! ### readings and rules -/
/-- e.f, an attribute of the instance -/
def tFld (K : PySem.W.Frag) (ta : TE) (f : Str) : TE := fun σ H Q => ta σ H fun x H1 => ∃ a C dx fs v, x = .ref a ∧ H1 a = some (.ins C dx fs) ∧ Cls K C ∧ NoAttr K C f ∧ fs.lookup f = some v ∧ Q v H1
/-- e.f = value -/
def sFld (K : PySem.W.Frag) (ta tv : TE) (f : Str) : TS := fun D σ H => tv σ H fun y H1 => ta σ H1 fun x H2 => ∃ a C dx fs, x = .ref a ∧ H2 a = some (.ins C dx fs) ∧ Cls K C ∧ NoAttr K C f ∧ fs.length < 1000 ∧
  D.nx σ (upd H2 a (.ins C dx (putF f y fs)))
section
variable {X : Cx} {o e value : Expr} {f : Str} {pos pos' tpos : Pos} {ta tv : TE}
theorem pe_fld (he : PE X e ta) (hb : attributeBase e f X.env (eval e X.env) = eval e X.env) : PE X (.Attribute e f pos) (tFld X.K ta f) := by
  intro pins s σ H Q I h
  refine attr_of hb (thn (he pins s σ H _ I h) fun u s1 ⟨x, H1, I1, rx, a, C, dx, fs, v, ex, ea, c, n, l, q⟩ => ?_)
  subst ex
  obtain rfl : u = Value.ref a := rx
  exact getattr_ok I1 ea c n l fun u' s2 I2 ru => ⟨v, H1, I2, ru, q⟩
theorem ps_fld (ha : PE X o ta) (hv : PE X value tv) (hs : swapsWith value (some (.Attribute o f pos')) pos.line X.env = pure false) : PS X (.Assign [.Attribute o f pos'] value pos) (sFld X.K ta tv f) := by
  intro pins s σ H D I h
  refine plainObj_wpAny_Assign_Attribute (thn (hv pins s σ H _ I h) fun u s1 ⟨y, H1, I1, ry, q⟩ => thn (ha pins s1 σ H1 _ I1 q) fun ov s2 ⟨x, H2, I2, rx, a, C, dx, fs, ex, ea, c, n, l, q2⟩ => ?_) hs
  subst ex
  obtain rfl : ov = Value.ref a := rx
  exact setattr_ok I2 ea c n l ry fun s3 I3 => ⟨σ, _, I3, q2⟩
end

/-! ### isinstance -/
section
variable {X : Cx} {pins : List (Addr × Obj)} {σ : St} {H : Hp} {s : Shared} {A : Around} {E : Value → Shared → Prop} {Q : Value → Shared → Prop} {c : Value} {b : Bool}
/-- the type of a value, as the fragment's deciders take it; for an instance its class -/
inductive TyOf (K : PySem.W.Frag) (H : Hp) : V → Value → Prop where
  | non : TyOf K H .non (.type "NoneType")
  | bl (x : Bool) : TyOf K H (.bl x) (.type "bool")
  | int (i : Int) : TyOf K H (.int i) (.type "int")
  | str (x : Str) : TyOf K H (.str x) (.type "str")
  | flt (x : UInt64) : TyOf K H (.flt x) (.type "float")
  | lst {a : Addr} {xs : List V} (e : H a = some (.lst xs)) : TyOf K H (.ref a) (.type "list")
  | frz {a : Addr} {o : Obj} {xs : List V} (e : H a = some (.frz o (.lst xs))) : TyOf K H (.ref a) (.type "list")
  | tup {a : Addr} {xs : List V} (e : H a = some (.tup xs)) : TyOf K H (.ref a) (.type "tuple")
  | dK {a : Addr} {kvs : List (Key × V)} (e : H a = some (.dK kvs)) : TyOf K H (.ref a) (.type "dict")
  | dT {a : Addr} {kvs : List (List Key × V)} (e : H a = some (.dT kvs)) : TyOf K H (.ref a) (.type "dict")
  | ins {a C dx : Addr} {fs : List (Str × V)} (e : H a = some (.ins C dx fs)) (cl : Cls K C) (ha : PySem.W.findIn K (.ref C) "__class__" = some (some (.builtin "object.__class__")))
      (hn : PySem.W.specialIn K (.builtin "object.__class__") "__get__" = some (some (.builtin "getset_descriptor.__get__"))) (htk : PySem.W.takesIn K (.builtin "object.__class__") = some true)
      (hm : PySem.W.mroIn K C (.type "object") = some true) : TyOf K H (.ref a) (.ref C)
/-- isinstance(x, c) for one class c, a built-in or an own one: kitOne's answer -/
theorem isinst_ok {x : V} {u t : Value} (I : Inv X pins σ H s) (rx : RelV x u) (ty : TyOf X.K H x t) (e : PySem.W.kitOne X.K t c = some b) (h : ∀ tk, Q (.bool b) { s with toks := tk }) :
    wpAny (model X.prog X.w) A (call (.builtin "isinstance") [u, c]) Q E s := by
  cases ty with
  | non => cases (show u = Value.none from rx); exact PySem.W.kia_one PySem.W.kitx_none I.kIn True.intro e (fun z => nomatch z) h
  | bl y => cases (show u = Value.bool y from rx); exact PySem.W.kia_one PySem.W.kitx_bool I.kIn True.intro e (fun z => nomatch z) h
  | int i => obtain ⟨t, q⟩ := (show ∃ t, u = Value.int i t from rx); cases q; exact PySem.W.kia_one PySem.W.kitx_int I.kIn True.intro e (fun z => nomatch z) h
  | str y => obtain ⟨t, q⟩ := (show ∃ t, u = Value.str y t from rx); cases q; exact PySem.W.kia_one PySem.W.kitx_str I.kIn True.intro e (fun z => nomatch z) h
  | flt y => obtain ⟨t, q⟩ := (show ∃ t, u = Value.float y t from rx); cases q; exact PySem.W.kia_one PySem.W.kitx_float I.kIn True.intro e (fun z => nomatch z) h
  | @lst a xs ea =>
    cases (show u = Value.ref a from rx)
    obtain ⟨_, _, n, _, h1⟩ := (show ObjOk X.prog X.w H s.heap a (.lst xs) from I.hok a _ ea)
    exact PySem.W.kia_one PySem.W.kitx_list I.kIn ⟨_, h1, rfl⟩ e (fun z => nomatch z) h
  | @frz a ob xs ea =>
    cases (show u = Value.ref a from rx)
    obtain ⟨_, _, _, n, _, h1⟩ := (show ObjOk X.prog X.w H s.heap a (.frz ob (.lst xs)) from I.hok a _ ea)
    exact PySem.W.kia_one PySem.W.kitx_list I.kIn ⟨_, h1, rfl⟩ e (fun z => nomatch z) h
  | @tup a xs ea =>
    cases (show u = Value.ref a from rx)
    obtain ⟨_, _, _, p⟩ := (show ObjOk X.prog X.w H s.heap a (.tup xs) from I.hok a _ ea)
    obtain ⟨o, h1, h2, _⟩ := p
    exact PySem.W.kia_one PySem.W.kitx_tuple I.kIn ⟨o, h1, h2⟩ e (fun z => nomatch z) h
  | @dK a kvs ea =>
    cases (show u = Value.ref a from rx)
    obtain ⟨_, _, vs, _, p⟩ := (show ObjOk X.prog X.w H s.heap a (.dK kvs) from I.hok a _ ea)
    obtain ⟨o, es, ep, h1, h2, _⟩ := p
    exact PySem.W.kia_one PySem.W.kitx_dict I.kIn ⟨o, h1, h2.1⟩ e (fun z => nomatch z) h
  | @dT a kvs ea =>
    cases (show u = Value.ref a from rx)
    obtain ⟨_, _, xs, _, o, es, ep, h1, h2, _⟩ := (show ObjOk X.prog X.w H s.heap a (.dT kvs) from I.hok a _ ea)
    exact PySem.W.kia_one PySem.W.kitx_dict I.kIn ⟨o, h1, h2.1⟩ e (fun z => nomatch z) h
  | @ins a C dx fs ea cl ha hn htk hm =>
    cases (show u = Value.ref a from rx)
    obtain ⟨mA, O, _⟩ := ins_get I.hok ea
    obtain ⟨od, J, _⟩ := O.look
    exact PySem.W.kia_one (PySem.W.kitx_own (cl.get _) cl.hd ha hn htk hm) I.kIn J e (fun z => nomatch z) h
end
end L2

namespace L2
open PySem PySem.Spec PyProof.Rows

/-! ### room -/
structure Room (k : Nat) (A : Around) : Prop where
  hd : A.handled = none
  dp : A.depth + 3 * k + 5 < recursionLimit
  un : A.units + 16 * k + 200 < cLine
theorem Room.mono {j k : Nat} {A : Around} (r : Room k A) (h : j ≤ k) : Room j A := ⟨r.hd, by have := r.dp; omega, by have := r.un; omega⟩
theorem Room.deeper {k : Nat} {A : Around} (r : Room (k + 1) A) (env : Env) : Room k (A.deeper env) :=
  ⟨r.hd, by have := r.dp; show A.depth + 1 + 3 * k + 5 < _; omega, by have := r.un; show A.units + 3 + 16 * k + 200 < _; omega⟩
theorem make_depth {A : Around} {C : Addr} {us : List Value} {kw : List (Str × Value)} : (A.under (.builtin "type.__call__" ⟨.ref C :: us, kw⟩)).depth = A.depth + 1 := by
  first | rfl | simp [Around.under, Code.weight, Code.isCreation, Code.isGuard, Code.isCaller, Code.frames, Code.isFrame, guardIds]
theorem make_units {A : Around} {C : Addr} {us : List Value} {kw : List (Str × Value)} : (A.under (.builtin "type.__call__" ⟨.ref C :: us, kw⟩)).units = A.units + 1 := by
  first | rfl | simp [Around.under, Code.cUnits, Code.frames, Code.isFrame]
theorem Room.make {k : Nat} {A : Around} (r : Room (k + 1) A) (C : Addr) (us : List Value) (kw : List (Str × Value)) : Room k (A.under (.builtin "type.__call__" ⟨.ref C :: us, kw⟩)) :=
  ⟨r.hd, by have := r.dp; rw [make_depth]; omega, by have := r.un; rw [make_units]; omega⟩
theorem Room.depth {k : Nat} {A : Around} (r : Room k A) : A.depth < recursionLimit := by have := r.dp; omega
theorem Room.units {k : Nat} {A : Around} (r : Room k A) : A.units + 64 < cLine := by have := r.un; omega
/-! ### argument lists and displays -/
def tNil : TA := fun _ H Q => Q [] H
def tCons (ta : TE) (tr : TA) : TA := fun σ H Q => ta σ H fun x H1 => tr σ H1 fun xs H2 => Q (x :: xs) H2
section
variable {X : Cx} {e : Expr} {es : List Expr} {te : TE} {t : TA} {pos : Pos}
theorem pa_nil : PA X [] tNil := fun _ _ _ _ H Q I h => Calls.spliced_nil ⟨[], H, I, .nil, h⟩
theorem pa_cons (ha : PE X e te) (hr : PA X es t) (hs : starEach (e :: es) X.env = (false, eval e X.env) :: starEach es X.env := by rfl) : PA X (e :: es) (tCons te t) := by
  intro pos pins s σ H Q I h
  rw [hs]
  show wpAny _ _ (spliced ((false, eval e X.env) :: backTo pos (starEach es X.env))) _ _ s
  refine Calls.spliced_cons (thn (ha pins s σ H _ I h) fun u s1 ⟨x, H1, I1, r1, q1⟩ => ?_)
  exact thn (hr pos pins s1 σ H1 _ I1 q1) fun us s2 ⟨xs, H2, I2, r2, q2⟩ => ⟨x :: xs, H2, I2, .cons r1 r2, q2⟩

/-- a tuple, a list of written items -/
def tTup (t : TA) : TE := fun σ H Q => t σ H fun xs H1 => xs.length ≤ sizeLine ∧ ∀ p, H1 p = none → Q (.ref p) (upd H1 p (.tup xs))
def tLst (t : TA) : TE := fun σ H Q => t σ H fun xs H1 => xs.length ≤ sizeLine ∧ ∀ p, H1 p = none → Q (.ref p) (upd H1 p (.lst xs))
theorem pe_tup {x1} (h : PA X es t) : PE X (.Tuple es x1 pos) (tTup t) := by
  intro pins s σ H Q I hq
  refine wpAny_Tuple_spliced (thn (h pos pins s σ H _ I hq) fun us s1 ⟨xs, H1, I1, r, z, q⟩ => ⟨by rw [← r.length]; exact z, ?_⟩)
  have hf : H1 s1.heap.objs.size = none := I1.hok.fresh (Nat.le_refl _)
  refine ⟨.ref s1.heap.objs.size, upd H1 s1.heap.objs.size (.tup xs), I1.laid (t' := s1.toks) (fun b u e => Heap.get?_push_of_some _ e) (Nat.le_refl _) ?_, rfl, q _ hf⟩
  exact ⟨z, us, r, ⟨_, Heap.get?_push_size _ rfl, rfl, _, rfl⟩⟩
theorem pe_lst (h : PA X es t) : PE X (.List es pos) (tLst t) := by
  intro pins s σ H Q I hq
  refine wpAny_List_spliced (thn (h pos pins s σ H _ I hq) fun us s1 ⟨xs, H1, I1, r, z, q⟩ => ⟨by rw [← r.length]; exact z, ?_⟩)
  have hf : H1 s1.heap.objs.size = none := I1.hok.fresh (Nat.le_refl _)
  refine ⟨.ref s1.heap.objs.size, upd H1 s1.heap.objs.size (.lst xs), I1.laid (t' := s1.toks) (fun b u e => Heap.get?_push_of_some _ e) (Nat.le_refl _) ?_, rfl, q _ hf⟩
  exact ⟨z, us, 0, r, Heap.get?_push_size _ rfl⟩
end

/-! ### what a def promises -/
/-- a def's promise: the bound arguments in the parameters' order, the heap, the wanted end, the wanted exception -/
abbrev Sp := List V → Hp → VK → XK → Prop
/-- how an exception lies behind a call (file 08 gives it): the callers' frames, abstract heap and state ahead of the call, the wish, the exception, the state -/
abbrev CXT := List Env → Hp → Shared → XK → Value → Shared → Prop

/-- the state at a call -/
structure Env0 (P : Program) (w : World) (K : PySem.W.Frag) (mg : Str → Option Value) (base : Heap) (A : Around) (outer : List Env) (s : Shared) (H : Hp) : Prop where
  frames : A.frames = some outer
  mod : Mod K mg base
  bs : ∀ b o, base.get? b = some o → s.heap.get? b = some o ∧ H b = none
  bsz : base.objs.size ≤ s.heap.objs.size
  funs : s.heap.FunFrames base outer
  frf : ∀ b ∈ frs outer, H b = none
  hok : HOk P w H s.heap
  bare : AllBare s.gens
/-- a call's end -/
def CE (outer : List Env) (P : Program) (w : World) (H : Hp) (s : Shared) (Q : VK) (u : Value) (s' : Shared) : Prop :=
  ∃ v H', s'.os = s.os ∧ AllBare s'.gens ∧ Un (frs outer) [] H H' s.heap s'.heap ∧ HOk P w H' s'.heap ∧ RelV v u ∧ Q v H'
def CR (CX : CXT) (outer : List Env) (P : Program) (w : World) (H : Hp) (s : Shared) (Q : VK) (E : XK) (r : Result) (s' : Shared) : Prop :=
  match r with
  | .ok (.ret u) => CE outer P w H s Q u s'
  | .ok _ => False
  | .error e => CX outer H s E e s'
structure FnOk (P : Program) (w : World) (K : PySem.W.Frag) (mg : Str → Option Value) (base : Heap) (CX : CXT) (k : Nat) (f : Addr) (fd : FuncData) (ps : List Str) (sp : Sp) : Prop where
  len : ∀ vs H Q E, sp vs H Q E → vs.length = ps.length
  run : ∀ (A : Around) (outer : List Env) (s : Shared) (H : Hp) (args : Args) (us : List Value) (vs : List V) (Q : VK) (E : XK), Room k A → Env0 P w K mg base A outer s H → BindsTo s fd args (ps.zip us) → Vals vs us → sp vs H Q E →
    codeAny (model P w) A (.call (.ref f) args) (CR CX outer P w H s Q E) s
theorem Env0.make {P : Program} {w : World} {K : PySem.W.Frag} {mg : Str → Option Value} {base : Heap} {A : Around} {outer : List Env} {s : Shared} {H : Hp} (e : Env0 P w K mg base A outer s H) (C : Addr) (us : List Value) (kw : List (Str × Value)) :
    Env0 P w K mg base (A.under (.builtin "type.__call__" ⟨.ref C :: us, kw⟩)) outer s H := ⟨by first | exact e.frames | (simpa [Around.under, Code.envs, Code.isFrame, pushEnvs] using e.frames), e.mod, e.bs, e.bsz, e.funs, e.frf, e.hok, e.bare⟩
section
variable {X : Cx} {pins : List (Addr × Obj)} {σ : St} {H : Hp} {s s' : Shared}
/-- from a body: what a callee wants -/
theorem Inv.env0 (I : Inv X pins σ H s) : Env0 X.prog X.w X.K X.mg X.base X.A X.stack s H :=
  ⟨I.ok.frames, I.ok.mod, I.bs, Nat.le_trans I.ok.bsz I.sz, I.stack, I.stkFree, I.hok, I.bare⟩
/-- behind a call -/
theorem Inv.after {Q : VK} {u : Value} (I : Inv X pins σ H s) (h : CE X.stack X.prog X.w H s Q u s') : EP X pins σ Q u s' := by
  obtain ⟨v, H', os, bare, un, hok, r, q⟩ := h
  obtain ⟨hh, g, d, t, os'⟩ := s'
  obtain rfl : os' = s.os := os
  exact ⟨v, H', I.call (h' := hh) (g' := g) (d' := d) (t' := t) (ch := []) un hok bare (fun b z => absurd z (by simp)), r, q⟩
end

/-! ### calls -/
/-- f(..): the written arguments, then the defaults dvs; E: what is wanted of an exception -/
def tCall (sp : Sp) (dvs : List V) (E : XK) (t : TA) : TE := fun σ H Q => t σ H fun vs H1 => sp (vs ++ dvs) H1 Q E
/-- C(..): a new instance and its dict, then __init__ -/
def tMake (C : Addr) (sp : Sp) (dvs : List V) (E : XK) (t : TA) : TE := fun σ H Q => t σ H fun vs H1 => ∀ x dx, H1 x = none → H1 dx = none → dx ≠ x →
  sp (.ref x :: (vs ++ dvs)) (upd (upd H1 dx (.own x)) x (.ins C dx [])) (fun v H2 => v = .non ∧ Q (.ref x) H2) E

/-- how the parameters are bound: us the positional arguments, kw the keywords' values by name, ds the defaults that fill up -/
def Binds (K : PySem.W.Frag) (fd : FuncData) (ps : List Str) (ds : List Value) : Prop :=
  ∀ (s : Shared) (us : List Value), K.In s.heap → (us ++ ds).length = ps.length → BindsTo s fd ⟨us, []⟩ (ps.zip (us ++ ds))
/-- every parameter is given -/
theorem Binds.all {K : PySem.W.Frag} {fd : FuncData} {ps : List Str} (h : ∀ us : List Value, us.length = ps.length → bindArgs fd ⟨us, []⟩ = pure (ps.zip us)) : Binds K fd ps [] := fun s us _ hl => by
  rw [List.append_nil] at hl ⊢
  exact .of_eq (h us hl)

/-- an exception of a callee reaches what this body wants of exceptions -/
def Passes (CX : CXT) (X : Cx) (E : XK) : Prop := ∀ (pins : List (Addr × Obj)) (σ : St) (H : Hp) (s : Shared) (e : Value) (s' : Shared), Inv X pins σ H s → CX X.stack H s E e s' → X.xe e s'

section
variable {X : Cx} {CX : CXT} {k : Nat} {f C : Addr} {fd : FuncData} {ps : List Str} {sp : Sp} {dvs : List V} {ds : List Value} {E : XK} {x m : Str} {p pos apos : Pos} {e o : Expr} {es : List Expr} {ta : TE} {t : TA}

/-- the callee runs -/
theorem run_fn {pins : List (Addr × Obj)} {σ : St} {H : Hp} {s : Shared} {Q : VK} {us : List Value} {vs : List V} (F : FnOk X.prog X.w X.K X.mg X.base CX k f fd ps sp) (hr : Room k X.A) (hb : Binds X.K fd ps ds) (hd : Vals dvs ds) (hx : Passes CX X E)
    (I : Inv X pins σ H s) (r : Vals vs us) (h : sp (vs ++ dvs) H Q E) : wpAny (model X.prog X.w) X.A (call (.ref f) us) (EP X pins σ Q) X.xe s := by
  have r2 : Vals (vs ++ dvs) (us ++ ds) := r.append hd
  have hl : (us ++ ds).length = ps.length := by rw [← r2.length]; exact F.len _ _ _ _ h
  refine wpAny_call (codeAny_mono (F.run X.A X.stack s H ⟨us, []⟩ (us ++ ds) (vs ++ dvs) Q E hr I.env0 (hb s us I.kIn hl) r2 h) fun r s' hq => ?_)
  cases r with
  | error e => exact hx pins σ H s e s' I hq
  | ok fl =>
    cases fl with
    | ret u => exact I.after hq
    | next => exact False.elim hq
    | brk => exact False.elim hq
    | cont => exact False.elim hq

theorem pe_call (F : FnOk X.prog X.w X.K X.mg X.base CX k f fd ps sp) (hr : Room k X.A) (hg : Gl X x) (hm : X.mg x = some (.ref f)) (hk : PySem.W.keepIn X.K (.ref f) = true) (hb : Binds X.K fd ps ds) (hd : Vals dvs ds) (hx : Passes CX X E)
    (ha : PA X (e :: es) t) (hdb : (x == ("__debug__" : Str)) = false := by decide) (he : starEach (e :: es) X.env = (false, eval e X.env) :: starEach es X.env := by rfl) (hpl : (backTo pos (starEach es X.env)).any (·.1) = false := by rfl) :
    PE X (.Call (.Name x p) (e :: es) [] pos) (tCall sp dvs E t) := by
  intro pins s σ H Q I h
  refine wpAny_Call_Name_kw (ld_glob I hg hm ?_ hdb)
  refine PySem.W.callWith_K (h₀ := X.base) I.ok.mod.kin hk (thn (ha pos pins s σ H _ I h) fun us s1 ⟨vs, H1, I1, r, q⟩ => ⟨I1.kIn, ?_⟩) he hpl
  exact run_fn F hr hb hd hx I1 r q
/-- what a class must have to be made -/
structure Mk (K : PySem.W.Frag) (C f : Addr) : Prop where
  makes : PySem.W.makesIn K C = true
  init : PySem.W.findIn K (.ref C) "__init__" = some (some (.ref f))
  fn : PySem.W.isFn K (.ref f) = true
  kp : PySem.W.keepIn K (.ref C) = true

theorem run_make {pins : List (Addr × Obj)} {σ : St} {H : Hp} {s : Shared} {Q : VK} {us : List Value} {vs : List V} (M : Mk X.K C f) (F : FnOk X.prog X.w X.K X.mg X.base CX k f fd ps sp) (hr : Room (k + 1) X.A) (hb : Binds X.K fd ps ds) (hd : Vals dvs ds)
    (hx : Passes CX X E) (I : Inv X pins σ H s) (r : Vals vs us)
    (h : ∀ x dx, H x = none → H dx = none → dx ≠ x → sp (.ref x :: (vs ++ dvs)) (upd (upd H dx (.own x)) x (.ins C dx [])) (fun v H2 => v = .non ∧ Q (.ref x) H2) E) :
    wpAny (model X.prog X.w) X.A (call (.ref C) us) (EP X pins σ Q) X.xe s := by
  have hq := h (s.heap.objs.size + 1) s.heap.objs.size (I.hok.fresh (Nat.le_succ _)) (I.hok.fresh (Nat.le_refl _)) (Nat.ne_of_lt (Nat.lt_succ_self _))
  have I2 := Inv.made (C := C) I
  have r2 : Vals (V.ref (s.heap.objs.size + 1) :: (vs ++ dvs)) (Value.ref (s.heap.objs.size + 1) :: (us ++ ds)) := .cons rfl (r.append hd)
  have hl : (Value.ref (s.heap.objs.size + 1) :: us ++ ds).length = ps.length := by
    have e := r2.length
    rw [F.len _ _ _ _ hq] at e
    exact e.symm
  refine wpAny_call (make_map (f := f) I.kIn M.makes M.init (beq_iff_eq.mp M.fn) (codeAny_mono (F.run _ X.stack _ _ ⟨Value.ref (s.heap.objs.size + 1) :: us, []⟩ (Value.ref (s.heap.objs.size + 1) :: (us ++ ds)) _ _ E (hr.make C us [])
    (I2.env0.make C us []) (hb _ (Value.ref (s.heap.objs.size + 1) :: us) I2.kIn hl) r2 hq) fun r s' hq' => ?_))
  cases r with
  | error e => exact hx pins σ _ _ e s' I2 hq'
  | ok fl =>
    cases fl with
    | ret u =>
      obtain ⟨v, H', I3, rv, ev, q3⟩ := I2.after hq'
      subst ev
      exact ⟨rv, ⟨V.ref (s.heap.objs.size + 1), H', I3, rfl, q3⟩⟩
    | next => exact False.elim hq'
    | brk => exact False.elim hq'
    | cont => exact False.elim hq'
theorem pe_make (M : Mk X.K C f) (F : FnOk X.prog X.w X.K X.mg X.base CX k f fd ps sp) (hr : Room (k + 1) X.A) (hg : Gl X x) (hm : X.mg x = some (.ref C)) (hb : Binds X.K fd ps ds) (hd : Vals dvs ds) (hx : Passes CX X E)
    (ha : PA X (e :: es) t) (hdb : (x == ("__debug__" : Str)) = false := by decide) (he : starEach (e :: es) X.env = (false, eval e X.env) :: starEach es X.env := by rfl) (hpl : (backTo pos (starEach es X.env)).any (·.1) = false := by rfl) :
    PE X (.Call (.Name x p) (e :: es) [] pos) (tMake C sp dvs E t) := by
  intro pins s σ H Q I h
  refine wpAny_Call_Name_kw (ld_glob I hg hm ?_ hdb)
  refine PySem.W.callWith_K (h₀ := X.base) I.ok.mod.kin M.kp (thn (ha pos pins s σ H _ I h) fun us s1 ⟨vs, H1, I1, r, q⟩ => ⟨I1.kIn, ?_⟩) he hpl
  exact run_make M F hr hb hd hx I1 r q
end

/-! ### keywords -/
section
variable {X : Cx} {CX : CXT} {k : Nat} {f C : Addr} {fd : FuncData} {ps ks : List Str} {sp : Sp} {E : XK} {x m : Str} {p pos apos kpos : Pos} {e o : Expr} {es : List Expr} {kws : List Keyword} {te ta : TE} {t tk : TA} {nm : Option Str}
variable {g : List Value → List Value → List Value} {gV : List V → List V → List V}
end

/-! ### a def's body keeps its promise -/
/-- names: the parameters first -/
structure FnScope (N P : List Str) (sc : Scope) : Prop where
  kind : sc.kind = .function
  co : sc.isCoroutine = false
  gen : sc.isGenerator = false
  nd : N.Nodup
  pre : N.take P.length = P
  par : ∀ x ∈ P, sc.names.lookup x = some .local ∨ sc.names.lookup x = some .cell
  nofree : ∀ y ∈ sc.names, y.2 ≠ .free

theorem bindL_out {kindOf : Str → Option NameKind} {x : Str} : ∀ {binds : List (Str × Value)} {m : Str → Option Value}, (∀ v, (x, v) ∉ binds) → bindL kindOf binds m x = m x
  | [], _, _ => rfl
  | (n, v) :: r, m, h => by
    unfold bindL
    rw [bindL_out fun w hw => h w (List.mem_cons_of_mem _ hw)]
    split
    · have : x ≠ n := by rintro rfl; exact h v List.mem_cons_self
      simp [this]
    · rfl
theorem bindC_out {kindOf : Str → Option NameKind} {x : Str} : ∀ {binds : List (Str × Value)} {m : Str → Option Value}, (∀ v, (x, v) ∉ binds) → bindC kindOf binds m x = m x
  | [], _, _ => rfl
  | (n, v) :: r, m, h => by
    unfold bindC
    rw [bindC_out fun w hw => h w (List.mem_cons_of_mem _ hw)]
    split
    · rfl
    · have : x ≠ n := by rintro rfl; exact h v List.mem_cons_self
      simp [this]
theorem bindL_get {kindOf : Str → Option NameKind} {x : Str} {v : Value} : ∀ {P : List Str} {vs : List Value} {i : Nat} {m : Str → Option Value}, P.Nodup → P[i]? = some x → vs[i]? = some v → kindOf x = some .local →
    bindL kindOf (P.zip vs) m x = some v
  | [], _, _, _, _, h, _, _ => by simp at h
  | _ :: _, [], _, _, _, _, h, _ => by simp at h
  | p :: P, w :: vs, 0, m, nd, h1, h2, hk => by
    simp at h1 h2; subst h1; subst h2
    show bindL kindOf ((p, w) :: P.zip vs) m p = _
    unfold bindL
    rw [bindL_out fun v hv => (List.nodup_cons.mp nd).1 (List.of_mem_zip hv).1, if_pos hk]
    simp
  | p :: P, w :: vs, i + 1, m, nd, h1, h2, hk => by
    show bindL kindOf ((p, w) :: P.zip vs) m x = _
    unfold bindL
    exact bindL_get (i := i) (List.nodup_cons.mp nd).2 (by simpa using h1) (by simpa using h2) hk
theorem bindC_get {kindOf : Str → Option NameKind} {x : Str} {v : Value} : ∀ {P : List Str} {vs : List Value} {i : Nat} {m : Str → Option Value}, P.Nodup → P[i]? = some x → vs[i]? = some v → kindOf x ≠ some .local →
    bindC kindOf (P.zip vs) m x = some v
  | [], _, _, _, _, h, _, _ => by simp at h
  | _ :: _, [], _, _, _, _, h, _ => by simp at h
  | p :: P, w :: vs, 0, m, nd, h1, h2, hk => by
    simp at h1 h2; subst h1; subst h2
    show bindC kindOf ((p, w) :: P.zip vs) m p = _
    unfold bindC
    rw [bindC_out fun v hv => (List.nodup_cons.mp nd).1 (List.of_mem_zip hv).1, if_neg hk]
    simp
  | p :: P, w :: vs, i + 1, m, nd, h1, h2, hk => by
    show bindC kindOf ((p, w) :: P.zip vs) m x = _
    unfold bindC
    exact bindC_get (i := i) (List.nodup_cons.mp nd).2 (by simpa using h1) (by simpa using h2) hk

/-- the names' values at the entry -/
def start (N : List Str) (vs : List V) : St := vs.map some ++ List.replicate (N.length - vs.length) none

/-- the context of a def's body, at its entry; an exception leaves the frame, then lies as CX says -/
def cxOf (CX : CXT) (P : Program) (w : World) (K : PySem.W.Frag) (mg : Str → Option Value) (base : Heap) (N : List Str) (qual : Str) (scope : Scope) (f : Addr) (cd : Value) (A : Around) (outer : List Env) (s : Shared) (H : Hp) (E : XK) : Cx where
  prog := P
  w := w
  K := K
  mg := mg
  base := base
  A := A.deeper (envOfC qual scope s.heap.objs.size f cd)
  N := N
  s₀ := s
  H₀ := H
  env := envOfC qual scope s.heap.objs.size f cd
  outer := outer
  stack := envOfC qual scope s.heap.objs.size f cd :: outer
  ex := []
  calm := true
  fn := fun _ => true
  pn := []
  xe := fun e s' => wpAny (model P w) (A.deeper (envOfC qual scope s.heap.objs.size f cd)) (leaving (envOfC qual scope s.heap.objs.size f cd) e) (fun _ s'' => CX outer H s E e s'') (fun e' s'' => CX outer H s E e' s'') s'

theorem cell_has {sc : Scope} {n : Nat} {x : Str} (h : sc.names.lookup x = some .cell) : ∃ c, (cellsFrom n sc.names []).lookup x = some c := by
  have q := PySem.W.cellsFrom_some sc.names n [] (.inl h)
  exact Option.isSome_iff_exists.mp q

theorem inv_start {CX : CXT} {P : Program} {w : World} {K : PySem.W.Frag} {mg : Str → Option Value} {base : Heap} {N ps : List Str} {qual : Str} {scope : Scope} {f : Addr} {cd : Value} {A : Around} {outer : List Env} {s s1 : Shared} {H : Hp} {E : XK} {us : List Value} {vs : List V}
    (S : FnScope N ps scope) (hd : A.handled = none) (e0 : Env0 P w K mg base A outer s H) (hl : vs.length = ps.length) (r : Vals vs us)
    (x : InCallC s s.heap.objs.size (bindL (envOfC qual scope s.heap.objs.size f cd).kindOf (ps.zip us) fun _ => none) (cellsFrom (s.heap.objs.size + 1) scope.names []) (bindC (envOfC qual scope s.heap.objs.size f cd).kindOf (ps.zip us) fun _ => none) s1) :
    Inv (cxOf CX P w K mg base N qual scope f cd A outer s H E) [] (start N vs) H s1 := by
  have hpl : ps.length ≤ N.length := by have := congrArg List.length S.pre; rw [List.length_take] at this; omega
  obtain ⟨h1, tk, rfl, hk⟩ := x.done
  have noA : ∀ b : Addr, b ∉ (cxOf CX P w K mg base N qual scope f cd A outer s H E).ex := fun b z => absurd (show b ∈ ([] : List Addr) from z) (by simp)
  refine ⟨⟨e0.mod, S.kind, rfl, rfl, Nat.le_refl _, fun y z c h1 h2 => ?_, fun y hy => ?_, fun y c _ h => ?_, fun _ => hd, Around.frames_deeper e0.frames, .inr ⟨rfl, rfl⟩, fun b z => absurd z (noA b), e0.bs, e0.bsz, fun b _ _ => noA b, fun b z => absurd z (noA b), e0.funs, e0.frf⟩,
    rfl, e0.bare, Un.kept hk, ⟨_, x.toInCall.ns, fun i y v h1 h2 h3 => ?_⟩, fun y c h => ⟨_, x.cell y c h⟩, e0.hok.fresh (Nat.le_refl _), fun y c h => ?_, fun p hp => absurd (show p ∈ ([] : List (Addr × Obj)) from hp) (by simp), e0.hok.kept hk, ?_⟩
  · exact name_of_addr x.apart (PySem.mem_of_lookup h1) (PySem.mem_of_lookup h2)
  · have hy : scope.names.lookup y = some .cell ∨ scope.names.lookup y = some .free := hy
    rcases hy with hy | hy
    · exact cell_has hy
    · exact absurd rfl (S.nofree _ (PySem.mem_of_lookup hy))
  · exact Nat.le_of_lt (x.above y c (PySem.mem_of_lookup h))
  · have hi : i < vs.length := by
      unfold start at h2
      by_cases hi : i < vs.length
      · exact hi
      · rw [List.getElem?_append_right (by simpa using hi)] at h2
        rw [List.getElem?_replicate] at h2
        split at h2 <;> cases h2
    have ha : vs[i]? = some v := by
      unfold start at h2
      rw [List.getElem?_append_left (by simpa using hi), List.getElem?_map] at h2
      cases e : vs[i]? with
      | none => rw [e] at h2; cases h2
      | some a => rw [e] at h2; cases h2; rfl
    obtain ⟨u, hu, rv⟩ := r.get ha
    have hp : ps[i]? = some y := by
      rw [← S.pre, List.getElem?_take_of_lt (by omega)]; exact h1
    have ndP : ps.Nodup := by rw [← S.pre]; exact S.nd.sublist (List.take_sublist _ _)
    refine ⟨u, rv, ?_⟩
    rcases S.par y (List.mem_of_getElem? hp) with k | k
    · exact .inl ⟨k, bindL_get ndP hp hu k⟩
    · obtain ⟨c, e⟩ := cell_has (n := s.heap.objs.size + 1) k
      refine .inr ⟨.inl k, c, e, ?_⟩
      have q := x.cell y c e
      rw [bindC_get ndP hp hu (by show scope.names.lookup y ≠ _; rw [k]; decide)] at q
      exact q
  · exact e0.hok.fresh (Nat.le_of_lt (x.above y c (PySem.mem_of_lookup h)))
  · unfold start
    show _ = N.length
    rw [List.length_append, List.length_map, List.length_replicate]
    omega

/-- THE RULE: a def (or a method) of the text, by its body. The body's reading t is chosen for each entry; it is run at the parameters' values -/
theorem fn_of {CX : CXT} {P : Program} {w : World} {K : PySem.W.Frag} {mg : Str → Option Value} {base : Heap} {k : Nat} {f : Addr} {name qual : Str} {params : Arguments} {body : List Stmt} {scope : Scope} {dV kV doc pm cdv ct oc : Value} {an od : Option Addr}
    {osl : Array (Option Value)} {N ps : List Str} {sp : Sp} (lk : K.lookup f = some ⟨oc, od, .func (PySem.W.fnOf name qual params body scope dV kV doc pm an cdv ct), osl⟩) (hcd : PySem.W.codeIn K cdv qual = true) (S : FnScope N ps scope)
    (len : ∀ vs H Q E, sp vs H Q E → vs.length = ps.length)
    (hbody : ∀ (A : Around) (outer : List Env) (s : Shared) (H : Hp) (vs : List V) (Q : VK) (E : XK), Room k (A.deeper (envOfC qual scope s.heap.objs.size f cdv)) → sp vs H Q E →
      ∃ t, PSs (cxOf CX P w K mg base N qual scope f cdv A outer s H E) body t ∧ t { nx := fun _ H' => Q .non H', rt := Q } (start N vs) H) :
    FnOk P w K mg base CX (k + 1) f (PySem.W.fnOf name qual params body scope dV kV doc pm an cdv ct) ps sp := by
  refine ⟨len, fun A outer s H args us vs Q E hr e0 hb r hsp => ?_⟩
  have hl := len _ _ _ _ hsp
  have KX : K.In s.heap := e0.mod.kin.keeps fun b o e => (e0.bs b o e).1
  have lim : s.heap.NoLimit := e0.mod.nolimit.keeps fun b o e => (e0.bs b o e).1
  have hkind : ∀ y ∈ ps.zip us, scope.names.lookup y.1 = some .local ∨ (scope.names.lookup y.1 = some .cell ∧ ((cellsFrom (s.heap.objs.size + 1) scope.names []).lookup y.1).isSome = true) := fun ⟨n, v⟩ hy => by
    rcases S.par n (List.of_mem_zip hy).1 with q | q
    · exact .inl q
    · exact .inr ⟨q, PySem.W.cellsFrom_some _ _ _ (.inl q)⟩
  refine codeAny_call_function hr.depth (KX _ _ lk) rfl S.co S.gen rfl (PySem.W.codeRec_of KX hcd) (hb _ _ _ _ ?_)
  refine wpAny_newFunctionEnv_cells S.kind hkind fun env he s1 x => ?_
  subst he
  refine ⟨lim.keeps x.toInCall.keep, codeAny_func ?_⟩
  obtain ⟨t, ht, hq⟩ := hbody A outer s H vs Q E (hr.deeper _) hsp
  have I : Inv (cxOf CX P w K mg base N qual scope f cdv A outer s H E) [] (start N vs) H s1 := inv_start S hr.hd e0 hl r x
  refine wpAny_mono (ht [] s1 (start N vs) H _ I hq) (fun fl s' hs => ?_) fun e s' hs => hs
  have fin : ∀ {σ' : St} {H' : Hp} {v : V} {u : Value}, Inv (cxOf CX P w K mg base N qual scope f cdv A outer s H E) [] σ' H' s' → RelV v u → Q v H' → CE outer P w H s Q u s' :=
    fun {σ' H' v u} J rv q => ⟨v, H', J.os, J.bare, J.base, J.hok, rv, q⟩
  cases fl with
  | ret u =>
    obtain ⟨v, σ', H', J, rv, q⟩ := hs
    exact fin J rv q
  | next =>
    obtain ⟨σ', H', J, q⟩ := hs
    exact fin (v := V.non) (u := Value.none) J rfl q
  | brk =>
    obtain ⟨_, _, _, q⟩ := hs
    exact False.elim q
  | cont =>
    obtain ⟨_, _, _, q⟩ := hs
    exact False.elim q
end L2

namespace L2
open PySem PySem.Spec PyProof.Rows
section
variable {X : Cx} {x : Str} {p pos : Pos} {e : Expr} {es : List Expr} {t : TA} {id T : String} {r : List V → Hp → VK → Prop}

def tCB (r : List V → Hp → VK → Prop) (t : TA) : TE := fun σ H Q => t σ H fun vs H1 => r vs H1 Q
/-- f(e, ..), f a built-in function -/
theorem pe_callB (hc : CallR X (.builtin id) r) (hg : Gl X x) (hm : X.mg x = none) (hv : bootBuiltins x = some (.builtin id)) (ha : PA X (e :: es) t) (hn : x ≠ "__name__" := by decide) (hdb : (x == ("__debug__" : Str)) = false := by decide)
    (he : starEach (e :: es) X.env = (false, eval e X.env) :: starEach es X.env := by rfl) (hpl : (backTo pos (starEach es X.env)).any (·.1) = false := by rfl) : PE X (.Call (.Name x p) (e :: es) [] pos) (tCB r t) := by
  intro pins s σ H Q I h
  refine wpAny_Call_Name_kw (ld_blt I hg hm hv ?_ hn hdb)
  exact PyProof.Rows.callWith_builtin1 (thn (ha pos pins s σ H _ I h) fun us s1 ⟨vs, H1, I1, r1, q1⟩ => hc pins s1 σ H1 vs us Q I1 r1 q1) he hpl
/-- T(e, ..), T a built-in type -/
theorem pe_callTy (hc : CallR X (.type T) r) (hg : Gl X x) (hm : X.mg x = none) (hv : bootBuiltins x = some (.type T)) (ha : PA X (e :: es) t) (hn : x ≠ "__name__" := by decide) (hdb : (x == ("__debug__" : Str)) = false := by decide)
    (he : starEach (e :: es) X.env = (false, eval e X.env) :: starEach es X.env := by rfl) (hpl : (backTo pos (starEach es X.env)).any (·.1) = false := by rfl) : PE X (.Call (.Name x p) (e :: es) [] pos) (tCB r t) := by
  intro pins s σ H Q I h
  refine wpAny_Call_Name_kw (ld_blt I hg hm hv ?_ hn hdb)
  exact PyProof.Rows.callWith_type1 (thn (ha pos pins s σ H _ I h) fun us s1 ⟨vs, H1, I1, r1, q1⟩ => hc pins s1 σ H1 vs us Q I1 r1 q1) he hpl
end
end L2

namespace HT
open PySem PyProof.Rows

section
open PySem.SeqAt
open PySem.AutoSeq1 (wpAny_loadPart')
open PySem.MeetsSeq PySem.MeetsSeq2 PySem.MeetsSeq3

end

section
variable {prog : Program} {w : World} {A : Around} {E : Value → Shared → Prop} {s : Shared}

/-! ### t[a:b], not the whole -/
/-- a slice's bound as a place among n (d where it is left out) -/
def sIx (n d : Nat) : Option Int → Nat
  | none => d
  | some v => if v < 0 then (v + (n : Int)).toNat else min v.toNat n
theorem sIx_none (n d : Nat) : sIx n d none = d := rfl
theorem sIx_nat (n d k : Nat) : sIx n d (some (k : Int)) = min k n := by
  show (if (k : Int) < 0 then ((k : Int) + (n : Int)).toNat else min (k : Int).toNat n) = min k n
  rw [if_neg (by omega), Int.toNat_natCast]
end
end HT

namespace L2
open PySem PySem.Spec PyProof.Rows

/-! ### the parts of a slice -/
abbrev TO := St → Hp → (Option Int → Hp → Prop) → Prop
/-- a slice's part (left out, or an int) -/
def PO (X : Cx) (e : Option Expr) (t : TO) : Prop :=
  ∀ (pins : List (Addr × Obj)) (s : Shared) (σ : St) (H : Hp) (Q : Option Int → Hp → Prop), Inv X pins σ H s → t σ H Q →
    wpAny (model X.prog X.w) X.A (evalPart e X.env) (fun u s' => ∃ o H', Inv X pins σ H' s' ∧ IsPart u o ∧ Q o H') X.xe s
def tNoPart : TO := fun _ H Q => Q none H
def tPart (t : TE) : TO := fun σ H Q => t σ H fun x H1 => ∃ i, x = .int i ∧ Q (some i) H1

section
variable {X : Cx} {e : Expr} {te : TE} {lo hi : Option Expr} {tl th : TO} {pos p2 : Pos}

theorem po_none : PO X none tNoPart := by
  intro pins s σ H Q I h
  rw [evalPart_none]
  exact wpAny_pure ⟨none, H, I, .none, h⟩
theorem po_some (h : PE X e te) : PO X (some e) (tPart te) := by
  intro pins s σ H Q I hw
  rw [evalPart_some]
  refine thn (h pins s σ H _ I hw) fun u s1 ⟨x, H1, I1, r1, q1⟩ => ?_
  obtain ⟨i, rfl, q⟩ := q1
  obtain ⟨t, rfl⟩ := r1
  exact ⟨some i, H1, I1, .int i t, q⟩

/-- what a slice of a value is, by values: the slice object stands at sl -/
def SlR (X : Cx) (r : V → Option Int → Option Int → Hp → VK → Prop) : Prop :=
  ∀ (pins : List (Addr × Obj)) (s : Shared) (σ : St) (H : Hp) (x : V) (v vl vu : Value) (lo hi : Option Int) (sl : Addr) (Q : VK), Inv X pins σ H s → RelV x v → s.heap.IsSliceOf sl vl vu .none → IsPart vl lo → IsPart vu hi → r x lo hi H Q →
    ∃ T id, typeLookup (.type T) "__getitem__" = pure (some (.builtin id)) ∧ s.TypeIs v T ∧ wpAny (model X.prog X.w) X.A (getItem v (.ref sl)) (EP X pins σ Q) X.xe s
def tSl (r : V → Option Int → Option Int → Hp → VK → Prop) (te : TE) (tl th : TO) : TE := fun σ H Q => te σ H fun x H1 => tl σ H1 fun l H2 => th σ H2 fun u H3 => r x l u H3 Q
/-- a[lo:hi], any a -/
theorem pe_slice {r : V → Option Int → Option Int → Hp → VK → Prop} (hr : SlR X r) (he : PE X e te) (hl : PO X lo tl) (hu : PO X hi th) : PE X (.Subscript e (.Slice lo hi none p2) pos) (tSl r te tl th) := by
  intro pins s σ H Q I h
  refine Subscript_ (thn (he pins s σ H _ I h) fun v s1 ⟨x, H1, I1, r1, q1⟩ => ?_)
  refine wpAny_Slice (thn (hl pins s1 σ H1 _ I1 q1) fun vl s2 ⟨l, H2, I2, pl, q2⟩ => thn (hu pins s2 σ H2 _ I2 q2) fun vu s3 ⟨u, H3, I3, pu, q3⟩ => ?_)
  rw [evalPart_none]
  refine wpAny_pure ?_
  have I4 : Inv X pins σ H3 { s3 with heap := s3.heap.push { cls := .type "slice", data := .fields #[vl, vu, .none] } } := I3.kept (t' := s3.toks) fun b ob q => Heap.get?_push_of_some _ q
  obtain ⟨T, id, hT, ht, hg⟩ := hr pins { s3 with heap := s3.heap.push { cls := .type "slice", data := .fields #[vl, vu, .none] } } σ H3 x v vl vu l u s3.heap.objs.size Q I4 r1 (Heap.IsSliceOf.new ..) pl pu q3
  show wpAny (model X.prog X.w) X.A (subscriptTail e (.Slice lo hi none p2) v (.ref s3.heap.objs.size)) (EP X pins σ Q) X.xe { s3 with heap := s3.heap.push { cls := .type "slice", data := .fields #[vl, vu, .none] } }
  exact tail_any (ops := [.ref s3.heap.objs.size, v]) ht hT hg (by with_unfolding_all rfl)

/-- the items of xs[lo:hi] -/
def cutV (xs : List V) (lo hi : Option Int) : List V := (xs.drop (HT.sIx xs.length 0 lo)).take (HT.sIx xs.length xs.length hi - HT.sIx xs.length 0 lo)
theorem cutV_length (xs : List V) (lo hi : Option Int) : (cutV xs lo hi).length ≤ xs.length := by
  unfold cutV
  rw [List.length_take, List.length_drop]
  omega
/-! ### t < u, t + u -/
end
end L2

namespace L2
open PySem PySem.Spec PyProof.Rows

/-! ### places -/
/-- the place that an index of any sign means -/
def ixN (n : Nat) (i : Int) : Option Nat := if 0 ≤ i then (if i < n then some i.toNat else none) else if -(n : Int) ≤ i then some (i + n).toNat else none
def atI {α : Type} (xs : List α) (i : Int) : Option α := (ixN xs.length i).bind fun j => xs[j]?
theorem ixN_seq {n : Nat} {i : Int} {j : Nat} (h : ixN n i = some j) : seqIndex? i n = some j ∧ j < n ∧ -(n : Int) ≤ i ∧ i < n := by
  unfold ixN at h
  by_cases h0 : 0 ≤ i
  · rw [if_pos h0] at h
    by_cases h1 : i < n
    · rw [if_pos h1] at h
      have e : i.toNat = j := Option.some.inj h
      exact ⟨by rw [seqIndex_of h0 h1, e], by omega, by omega, h1⟩
    · rw [if_neg h1] at h; cases h
  · rw [if_neg h0] at h
    by_cases h1 : -(n : Int) ≤ i
    · rw [if_pos h1] at h
      have e : (i + n).toNat = j := Option.some.inj h
      exact ⟨by rw [seqIndex_neg (by omega) h1, e], by omega, h1, by omega⟩
    · rw [if_neg h1] at h; cases h
theorem atI_get {α : Type} {xs : List α} {i : Int} {v : α} (h : atI xs i = some v) : ∃ j, seqIndex? i xs.length = some j ∧ xs[j]? = some v ∧ j < xs.length ∧ -(xs.length : Int) ≤ i ∧ i < xs.length := by
  unfold atI at h
  cases e : ixN xs.length i with
  | none => rw [e] at h; cases h
  | some j =>
    rw [e] at h
    obtain ⟨h1, h2, h3, h4⟩ := ixN_seq e
    exact ⟨j, h1, h, h2, h3, h4⟩
theorem atI_nat {α : Type} {xs : List α} {j : Nat} {v : α} (h : xs[j]? = some v) : atI xs (j : Int) = some v := by
  have hj : j < xs.length := (List.getElem?_eq_some_iff.mp h).1
  have e : ixN xs.length (j : Int) = some j := by
    unfold ixN
    rw [if_pos (by omega), if_pos (by omega)]; simp
  unfold atI; rw [e]; exact h
/-! ### what may be subscripted -/
/-- what stands as an index of a plain subscript -/
def PlainIx (b : Expr) : Prop := ∀ o i, subscripted b false o i = operate [o, i] (getItem o i)
/-- a subscript by values -/
def IxR (X : Cx) (r : R2) : Prop :=
  ∀ (value slice : Expr) (pins : List (Addr × Obj)) (s : Shared) (σ : St) (H : Hp) (x y : V) (v u : Value) (Q : VK), Inv X pins σ H s → RelV x v → RelV y u → r x y H Q →
    subscripted slice false v u = operate [v, u] (getItem v u) → wpAny (model X.prog X.w) X.A (subscriptTail value slice v u) (EP X pins σ Q) X.xe s
/-- a call of a builtin's method by values: the receiver, the arguments -/
def MtR (X : Cx) (id : String) (r : V → List V → Hp → VK → Prop) : Prop :=
  ∀ (pins : List (Addr × Obj)) (s : Shared) (σ : St) (H : Hp) (x : V) (xs : List V) (v : Value) (us : List Value) (Q : VK), Inv X pins σ H s → RelV x v → Vals xs us → r x xs H Q →
    wpAny (model X.prog X.w) X.A (call (.builtin id) (v :: us)) (EP X pins σ Q) X.xe s
section
variable {X : Cx} {a b : Expr} {ta tb : TE} {pos : Pos}
/-- a[b] -/
theorem pe_ix {r : R2} (hr : IxR X r) (ha : PE X a ta) (hb : PE X b tb) (hs : PlainIx b) : PE X (.Subscript a b pos) (tOp r ta tb) := by
  intro pins s σ H Q I h
  exact Subscript_ (binT ha hb I h fun v u s2 x y H2 I2 rx ry q => hr a b pins s2 σ H2 x y v u Q I2 rx ry q (hs _ _))

def rIxL (K : PySem.W.Frag) : R2 := fun x y H Q => ∃ p xs i v, x = .ref p ∧ y = .int i ∧ SqL K H p xs ∧ atI xs i = some v ∧ Q v H
def rIxT (K : PySem.W.Frag) : R2 := fun x y H Q => ∃ p xs i v, x = .ref p ∧ y = .int i ∧ SqT K H p xs ∧ atI xs i = some v ∧ Q v H
def rIxS : R2 := fun x y H Q => ∃ z i c, x = .str z ∧ y = .int i ∧ z.length ≤ sizeLine ∧ atI z.cps.toList i = some c ∧ Q (.str ⟨#[c]⟩) H
theorem ix_list : IxR X (rIxL X.K) := by
  intro value slice pins s σ H x y v u Q I rx ry h hs
  obtain ⟨p, xs, i, z, rfl, rfl, hq, he, q⟩ := h
  cases rx
  obtain ⟨t, rfl⟩ := ry
  obtain ⟨its, r, pl, hz⟩ := I.list hq
  obtain ⟨j, h1, h2, h3, h4, h5⟩ := atI_get he
  obtain ⟨w, ew, rw'⟩ := r.get h2
  have hl := r.length
  have hn := line63
  have fin : EP X pins σ Q w s := ⟨z, H, I, rw', q⟩
  by_cases h0 : 0 ≤ i
  · have hj : i.toNat = j := by
      rw [seqIndex_of h0 h5] at h1
      exact Option.some.inj h1
    exact item_listR pl.isList h0 (by omega) (by rw [hj]; simpa using ew) fin hs
  · have hj : (i + (its.toArray.size : Int)).toNat = j := by
      rw [seqIndex_neg (by omega) h4] at h1
      rw [List.size_toArray, ← hl]
      exact Option.some.inj h1
    exact subscriptTail_builtinR (x := w) pl.isList.typeIs slot_list_getitem.lookup
      (wpAny_getItem_list_neg (Q := fun r s' => r = w ∧ EP X pins σ Q r s') pl.isList (by omega) (by rw [List.size_toArray] <;> omega) (by omega) (by rw [hj]; simpa using ew) ⟨rfl, fin⟩) hs
theorem ix_tup : IxR X (rIxT X.K) := by
  intro value slice pins s σ H x y v u Q I rx ry h hs
  obtain ⟨p, xs, i, z, rfl, rfl, hq, he, q⟩ := h
  cases rx
  obtain ⟨t, rfl⟩ := ry
  obtain ⟨its, r, pl, hz⟩ := I.tuple hq
  obtain ⟨j, h1, h2, h3, h4, h5⟩ := atI_get he
  obtain ⟨w, ew, rw'⟩ := r.get h2
  have hl := r.length
  have hn := line63
  have fin : EP X pins σ Q w s := ⟨z, H, I, rw', q⟩
  exact subscriptTail_builtinR (x := w) pl.typeIs slot_tuple_getitem.lookup
    (getItem_tuple (j := j) (Q := fun r s' => r = w ∧ EP X pins σ Q r s') pl (by omega) (by omega) (by rw [List.size_toArray, ← hl]; exact h1) (by simpa using ew) ⟨rfl, fin⟩) hs
theorem ix_str : IxR X rIxS := by
  intro value slice pins s σ H x y v u Q I rx ry h hs
  obtain ⟨z, i, c, rfl, rfl, hz, he, q⟩ := h
  obtain ⟨t, rfl⟩ := rx
  obtain ⟨t', rfl⟩ := ry
  obtain ⟨j, h1, h2, h3, h4, h5⟩ := atI_get he
  have hl : z.cps.toList.length = z.length := by simp [Str.length]
  rw [hl] at h1 h4 h5
  have hn := line63
  exact tail_any (typeIs_str s z t) slot_str_getitem.lookup (getItem_str (c := c) (by
    have e1 : decide (i < -(2 ^ 63 : Int)) = false := decide_eq_false (by omega)
    have e2 : decide (i ≥ 2 ^ 63) = false := decide_eq_false (by omega)
    rw [e1, e2, Bool.or_false]) (by rw [h1]; simpa using h2) ⟨.str ⟨#[c]⟩, H, I.tok _, ⟨_, rfl⟩, q⟩) hs
/-! ### xs[i] = v, any sign -/
/-! ### slices -/
theorem slice_bounds (lo hi : Option Int) (n : Nat) : (sliceBounds lo hi none n).1 = ((HT.sIx n 0 lo : Nat) : Int) ∧ (sliceBounds lo hi none n).2.1 = ((HT.sIx n n hi : Nat) : Int) ∧ (sliceBounds lo hi none n).2.2 = 1 := by
  refine ⟨?_, ?_, rfl⟩
  · cases lo with
    | none => simp [sliceBounds, HT.sIx]
    | some i =>
      simp only [sliceBounds, HT.sIx, Option.getD_none, show (1 : Int) > 0 by decide, if_true]
      by_cases h : i < 0
      · simp only [h, if_true] <;> omega
      · simp only [h, if_false] <;> omega
  · cases hi with
    | none => simp [sliceBounds, HT.sIx]
    | some i =>
      simp only [sliceBounds, HT.sIx, Option.getD_none, show (1 : Int) > 0 by decide, if_true]
      by_cases h : i < 0
      · simp only [h, if_true] <;> omega
      · simp only [h, if_false] <;> omega
theorem slicePick_cut (its : List Value) (lo hi : Option Int) : slicePick its.toArray lo hi none = ((its.drop (HT.sIx its.length 0 lo)).take (HT.sIx its.length its.length hi - HT.sIx its.length 0 lo)).toArray := by
  obtain ⟨h1, h2, h3⟩ := slice_bounds lo hi its.toArray.size
  unfold slicePick
  rw [h1, h2, h3]
  simp only [sliceRange_one, pick_run, List.size_toArray] <;> rfl
/-- xs[lo:hi] of a list: a new list -/
def rSlL (K : PySem.W.Frag) : V → Option Int → Option Int → Hp → VK → Prop := fun x lo hi H Q => ∃ a xs, x = .ref a ∧ SqL K H a xs ∧ ∀ p, H p = none → Q (.ref p) (upd H p (.lst (cutV xs lo hi)))
theorem sl_list : SlR X (rSlL X.K) := by
  intro pins s σ H x v vl vu lo hi sl Q I rx hs pl pu h
  obtain ⟨a, xs, rfl, hx, q⟩ := h
  cases rx
  obtain ⟨its, r, ht, hz⟩ := I.list hx
  have hlen := r.length
  refine ⟨"list", _, slot_list_getitem.lookup, ht.isList.typeIs, ?_⟩
  refine wpAny_getItem_list_slice ht.isList hs pl pu .none (by simp) ?_ (by rw [List.size_toArray] <;> omega)
  rw [slicePick_cut, ← hlen]
  refine ⟨.ref s.heap.objs.size, _, I.laid (t' := s.toks) (o := .lst (cutV xs lo hi)) (fun b ob q => Heap.get?_push_of_some _ q) (Nat.le_refl _) ?_, rfl, q _ (I.hok.fresh (Nat.le_refl _))⟩
  exact ⟨Nat.le_trans (cutV_length xs lo hi) hz, _, 0, (r.drop (HT.sIx xs.length 0 lo)).take (HT.sIx xs.length xs.length hi - HT.sIx xs.length 0 lo), Heap.get?_push_size _ rfl⟩

/-! ### in, not in: flat items -/
/-! ### len, list(x), tuple(x) of any list or tuple that is read -/
theorem call_len_str : CallR X (.builtin "len") (fun xs H Q => ∃ z, xs = [.str z] ∧ z.length ≤ sizeLine ∧ Q (.int z.length) H) := by
  intro pins s σ H xs us Q I r h
  obtain ⟨z, rfl, hz, q⟩ := h
  obtain ⟨u, rfl, t, rfl⟩ := vals1 r
  have hn := line63
  exact len_str (by omega) ⟨.int z.length, H, I.tok _, ⟨_, rfl⟩, q⟩
/-! ### the call of a builtin's method: o.m(..) -/
/-- the value is of that builtin type -/
def tyV (K : PySem.W.Frag) (T : String) (x : V) (H : Hp) : Prop := match x with
  | .str _ => T = "str"
  | .int _ => T = "int"
  | .ref p => (T = "list" ∧ ∃ xs, SqL K H p xs) ∨ (T = "tuple" ∧ ∃ o, K.lookup p = some o ∧ o.cls = .type "tuple" ∧ o.dict = none) ∨
      (T = "dict" ∧ ((∃ kvs, H p = some (.dK kvs)) ∨ ∃ kvs, H p = some (.dT kvs))) ∨ (T = "set" ∧ ∃ S n, H p = some (.set S n))
  | _ => False
theorem tyV_is {pins : List (Addr × Obj)} {σ : St} {H : Hp} {s : Shared} {T : String} {x : V} {v : Value} (I : Inv X pins σ H s) (r : RelV x v) (ty : tyV X.K T x H) :
    s.TypeIs v T ∧ ∀ a, v = .ref a → ∃ ob, s.heap.get? a = some ob ∧ ob.dict = none := by
  cases x with
  | str z =>
    obtain ⟨t, rfl⟩ := r
    cases (show T = "str" from ty)
    exact ⟨typeIs_str s z t, fun _ e => nomatch e⟩
  | int i =>
    obtain ⟨t, rfl⟩ := r
    cases (show T = "int" from ty)
    exact ⟨typeIs_int s i t, fun _ e => nomatch e⟩
  | ref p =>
    cases r
    rcases ty with ⟨rfl, xs, hq⟩ | ⟨rfl, o, hk, hc, hd⟩ | ⟨rfl, hk⟩ | ⟨rfl, S, n, hk⟩
    · obtain ⟨its, _, pl, _⟩ := I.list hq
      refine ⟨pl.isList.typeIs, fun a e => ?_⟩
      cases e
      obtain ⟨o, n, e, c, hd, _⟩ := pl
      exact ⟨o, e, hd⟩
    · refine ⟨⟨o, I.kIn p o hk, hc⟩, fun a e => ?_⟩
      cases e
      exact ⟨o, I.kIn _ o hk, hd⟩
    · have z : ∃ o, s.heap.get? p = some o ∧ o.ExactDict := by
        rcases hk with ⟨kvs, hk⟩ | ⟨kvs, hk⟩
        · obtain ⟨_, _, _, _, o, _, _, e, ex, _⟩ := I.hok p _ hk
          exact ⟨o, e, ex⟩
        · obtain ⟨_, _, _, _, o, _, _, e, ex, _⟩ := I.hok p _ hk
          exact ⟨o, e, ex⟩
      obtain ⟨o, e, ex⟩ := z
      refine ⟨⟨o, e, ex.1⟩, fun a e2 => ?_⟩
      cases e2
      exact ⟨o, e, ex.2.1⟩
    · obtain ⟨o, _, _, _, e, ex, _⟩ := I.hok p _ hk
      refine ⟨⟨o, e, ex.1⟩, fun a e2 => ?_⟩
      cases e2
      exact ⟨o, e, ex.2.1⟩
  | _ => exact False.elim ty
def tBM (K : PySem.W.Frag) (T : String) (r : V → List V → Hp → VK → Prop) (to : TE) (t : TA) : TE := fun σ H Q => to σ H fun x H1 => tyV K T x H1 ∧ t σ H1 fun xs H2 => r x xs H2 Q
variable {o e : Expr} {es : List Expr} {to : TE} {t : TA} {name : Str} {apos cpos : Pos} {T id : String} {r : V → List V → Hp → VK → Prop}
theorem pe_bm (pa : PlainAttrs T) (slot : Slot T name id) (hty : typeOf (.builtin id) = pure (.type "method_descriptor")) (hm : MtR X id r) (ho : PE X o to) (ha : PA X (e :: es) t)
    (hbase : attributeBase o name X.env (eval o X.env) = eval o X.env := by rfl)
    (hfew : ((backTo cpos (starEach (e :: es) X.env)).all (fun x => !x.1) && (backToKw cpos (keywordEach [] X.env)).all (fun x => x.1.isSome)
      && decide ((e :: es).length + ([] : List Keyword).length + (if ([] : List Keyword).isEmpty then 0 else 1) < 30)) = true := by rfl)
    (hline : (apos.endLine == cpos.line) = true := by rfl) (hs : starEach (e :: es) X.env = (false, eval e X.env) :: starEach es X.env := by rfl) (hplain : (backTo cpos (starEach es X.env)).any (·.1) = false := by rfl) :
    PE X (.Call (.Attribute o name apos) (e :: es) [] cpos) (tBM X.K T r to t) := by
  intro pins s σ H Q I h
  refine wpAny_Call_method_late hbase hfew hline rfl (thn (ho pins s σ H _ I h) fun v s1 ⟨x, H1, I1, r1, ty, q1⟩ => ?_)
  obtain ⟨h1, h2⟩ := tyV_is I1 r1 ty
  refine ⟨T, id, pa, slot, hty, h1, h2, ?_⟩
  have hA := ha cpos pins s1 σ H1 _ I1 q1
  rw [hs] at hA ⊢
  refine Calls.callWith_builtin (by show (false || (backTo cpos (starEach es X.env)).any (·.1)) = false; rw [hplain] <;> rfl) (Calls.evalArgs_plain ?_)
  exact thn hA fun us s2 ⟨vs, H2, I2, r2, q2⟩ => hm pins s2 σ H2 x vs v us Q I2 r1 r2 q2
/- xs.append(e), list.index on a module's tuple .. are MtR facts of 06m -/
end
end L2

namespace L2
open PySem PySem.Spec PyProof.Rows

def MtM (X : Cx) (id : String) (r : V → List V → Hp → VK → Prop) : Prop :=
  ∀ (pins : List (Addr × Obj)) (s : Shared) (σ : St) (H : Hp) (x : V) (xs : List V) (v : Value) (us : List Value) (Q : VK), Inv X pins σ H s → RelV x v → Vals xs us → r x xs H Q →
    wpAny (model X.prog X.w) X.A (call (.builtin id) (v :: us)) (EP X pins σ Q) X.xe s

/-! ### lists of values -/
theorem Vals.one : ∀ {x : V} {us : List Value}, Vals [x] us → ∃ u, us = [u] ∧ RelV x u
  | _, _, .cons r .nil => ⟨_, rfl, r⟩
section
variable {X : Cx} {pins : List (Addr × Obj)} {σ : St} {H : Hp} {s : Shared} {l b : Addr} {xs ys zs : List V}

/-! ### the two steps: a tracked list is rewritten, a new list is laid -/
theorem Inv.lset {its its' : List Value} {n : Nat} {f : Array Value → Array Value} {t' : Nat} (I : Inv X pins σ H s) (hH : H l = some (.lst xs))
    (e : s.heap.get? l = some { cls := .type "list", data := .seq its.toArray n }) (hf : f its.toArray = its'.toArray) (hv : Vals ys its') (hz : ys.length ≤ sizeLine) :
    Inv X pins σ (upd H l (.lst ys)) { s with heap := s.heap.update l (Obj.mapSeq f), toks := t' } := by
  have q := PySem.IsL.update e f
  rw [hf] at q
  refine I.write (x := l) (e := l) (by rw [hH]; exact trivial) (.inl rfl) (fun b' u hb hu => (Heap.get?_update_other s.heap (Obj.mapSeq f) (Ne.symm hb)).trans hu) ⟨_, q⟩ ?_
  exact ⟨hz, its', _, hv, q⟩
theorem Inv.lnew {its : List Value} {t' : Nat} (I : Inv X pins σ H s) (hv : Vals ys its) (hz : ys.length ≤ sizeLine) :
    Inv X pins σ (upd H s.heap.objs.size (.lst ys)) { s with heap := s.heap.push { cls := .type "list", data := .seq its.toArray }, toks := t' } :=
  I.laid (fun _ _ q => Heap.get?_push_of_some _ q) (Nat.le_refl _) ⟨hz, its, 0, hv, Heap.get?_push_size _ rfl⟩
theorem Inv.fresh (I : Inv X pins σ H s) : H s.heap.objs.size = none := I.hok.fresh (Nat.le_refl _)
theorem Inv.lstM (I : Inv X pins σ H s) (hH : H l = some (.lst xs)) : xs.length ≤ sizeLine ∧ ∃ (its : List Value) (n : Nat), Vals xs its ∧ xs.length = its.length ∧ s.heap.get? l = some { cls := .type "list", data := .seq its.toArray n } := by
  obtain ⟨z, its, n, r, e⟩ := I.hok l _ hH
  exact ⟨z, its, n, r, r.length, e⟩

end

section
variable {X : Cx}

/-! ### methods -/
def rAppend : V → List V → Hp → VK → Prop := fun x vs H Q => ∃ l xs y, x = .ref l ∧ vs = [y] ∧ H l = some (.lst xs) ∧ xs.length < sizeLine ∧ Q .non (upd H l (.lst (xs ++ [y])))
theorem mt_append : MtM X "list.append" rAppend := by
  intro pins s σ H x vs v us Q I rx rv h
  obtain ⟨l, xs, y, rfl, rfl, hH, hz, q⟩ := h
  cases rx
  obtain ⟨u, rfl, ru⟩ := rv.one
  obtain ⟨z, its, n, r, hl, e⟩ := I.lstM hH
  refine call_meets F.slot_list_append ⟨_, e, rfl⟩ F.entry_list_append (F.args_list_append_2 _ _) (PySem.list_append l its.toArray n u (by rw [List.size_toArray]; omega)) ⟨e, ?_⟩
  refine ⟨.non, _, I.lset (its' := its ++ [u]) hH e (by simp) (r.append (.cons ru .nil)) ?_, rfl, q⟩
  rw [List.length_append, List.length_singleton]
  omega

/-! ### list + list, list += list, list * int -/
def rCat : R2 := fun x y H Q => ∃ l b xs zs, x = .ref l ∧ y = .ref b ∧ H l = some (.lst xs) ∧ H b = some (.lst zs) ∧ xs.length + zs.length ≤ sizeLine ∧ ∀ p, H p = none → Q (.ref p) (upd H p (.lst (xs ++ zs)))
theorem op_cat : OpR X (binaryOp .Add) rCat := by
  intro pins s σ H x y v u Q I rx ry h
  obtain ⟨l, b, xs, zs, rfl, rfl, hH, hB, hz, q⟩ := h
  cases rx
  cases ry
  obtain ⟨z, its, n, r, hl, e⟩ := I.lstM hH
  obtain ⟨z2, its2, n2, r2, hl2, e2⟩ := I.lstM hB
  refine PySem.P.add_list e e2 ?_ (by rw [List.size_toArray, List.size_toArray]; omega)
  have ea : its.toArray ++ its2.toArray = (its ++ its2).toArray := by simp
  rw [ea]
  exact ⟨.ref _, _, I.lnew (t' := s.toks) (r.append r2) (by rw [List.length_append]; omega), rfl, q _ I.fresh⟩
/-! ### del xs[i] -/
end

/-! ### xs[a:b] = ys -/
section
variable {prog : Program} {w : World} {A : Around} {E : Value → Shared → Prop} {s : Shared}
end

section
variable {X : Cx}
end
end L2


namespace L2
open PySem PySem.Spec PyProof.Rows

/-! ### lists of pairs as tables -/
section
variable {κ : Type} [DecidableEq κ]
def valV (kvs : List (κ × V)) (k : κ) : Option V := (kvs.find? fun kv => decide (kv.1 = k)).map (·.2)
end


/-! ### a tracked dict, its keys ints and texts or tuples of these -/
section
variable {P : Program} {w : World} {H : Hp} {h : Heap} {a : Addr}
end

section
variable {X : Cx} {pins : List (Addr × Obj)} {σ : St} {H : Hp} {s : Shared} {a : Addr} {y v : V} {u r : Value} {o : Option V} {A : Around} {E : Value → Shared → Prop}

end

section
variable {X : Cx} {pins : List (Addr × Obj)} {σ : St} {H : Hp} {s : Shared} {a : Addr} {kvs : List (Key × V)} {k : Key} {u : Value} {A : Around} {E : Value → Shared → Prop}
end


/-! ### readings and rules -/
section
variable {X : Cx} {o i e value : Expr} {pos pos' tpos : Pos} {td ty tv : TE}
end


/-! ### displays -/
section
variable {X : Cx} {pos : Pos}
end

/-! ### methods -/
section
variable {X : Cx} {pins : List (Addr × Obj)} {σ : St} {H : Hp} {s : Shared} {a : Addr} {y d : V} {u r : Value} {o : Option V} {A : Around} {E : Value → Shared → Prop}
end

section
variable {X : Cx} {o e f : Expr} {apos cpos : Pos} {td ty tx : TE}
end

/-! ### dict(d): a copy -/
section
variable {X : Cx} {pins : List (Addr × Obj)} {σ : St} {H : Hp} {s : Shared} {a : Addr} {kvs : List (Key × V)} {A : Around} {E : Value → Shared → Prop}
end


section
variable {X : Cx} {pins : List (Addr × Obj)} {σ : St} {H : Hp} {s : Shared} {a : Addr} {y : V} {u : Value} {A : Around} {E : Value → Shared → Prop}
end
end L2

namespace Att
open PySem PySem.W PySem.Calls PyProof.Rows

/-! ### the script -/
theorem ints_of_wellAll {P : Params} {h : Heap} : ∀ (ns : List Int) (vs : List Value), WellAll P h vs (ns.map WData.int) → IntsAre vs ns := by
  intro ns
  induction ns with
  | nil =>
    intro vs w
    rw [List.map_nil] at w
    cases w
    exact .nil
  | cons n ns ih =>
    intro vs w
    rw [List.map_cons] at w
    cases w with
    | cons a b =>
      cases a
      exact .cons _ _ (ih _ b)

theorem script_of {l : OpenLaw} {n : Nat} (hn : l.most = some n) {P : Params} {h : Heap} {args : List WData} {vals : List Value}
    (hpre : l.row.toRowW.claim.pre args = true) (hwl : WellAll P h vals args) :
    ∃ a vs ns, vals = [Value.ref a] ∧ args = [WData.list (ns.map WData.int)] ∧ h.get? a = some { cls := .type "list", data := .seq vs.toArray } ∧ IntsAre vs ns ∧ ns.length ≤ n := by
  have hsh : WShape.hasAll [] args [.list .int] = true := (pre_splitW hpre).1
  have hc : l.pre.holds [] { args := args } = true := (pre_splitW hpre).2
  obtain ⟨d, r, rfl, h1, h2⟩ := hasAllW_cons hsh
  obtain rfl := hasAllW_nil h2
  obtain ⟨xs, rfl, h3⟩ := hasW_list h1
  obtain ⟨ns, rfl⟩ := items_int h3
  have hlen : ns.length ≤ n := by
    unfold OpenLaw.pre at hc
    have h4 : (WTm.not (.lt (.lit (.int (n : Int))) (.len (.arg 0)))).holds [] { args := [.list (ns.map .int)] } = true := by
      have h4 := (holds_andW hc).1
      rw [hn] at h4
      exact h4
    have h5 := condW_of h4 (w_not (w_lt w_lit (w_len_list (w_arg rfl))))
    rw [List.length_map] at h5
    refine Nat.le_of_not_lt fun q => ?_
    have q' : (n : Int) < ((ns.length : Nat) : Int) := by omega
    first
      | (rw [decide_eq_true q'] at h5; exact absurd h5 (by decide))
      | (simp at h5; omega)
  cases hwl with
  | cons w1 w2 =>
    cases w2
    cases w1 with
    | list ho hall => exact ⟨_, _, ns, rfl, rfl, ho, ints_of_wellAll ns _ hall, hlen⟩

theorem post_true (l : OpenLaw) (args : List WData) : l.row.toRowW.claim.post args (.bool true) args = true :=
  postW_of (r := l.row.toRowW) (X := (true == true))
    (show WShape.has [] (.bool true) .bool = true by first | rfl | decide | simp [WShape.has, WShape.arms, WShape.armsAll])
    (show (WTm.eq .res (.lit (.bool true))).value [] { args := args, res := some (.bool true), after := args } = some (.bool (true == true)) from w_eq_bool (w_res rfl) w_lit) rfl

/-! ### the attachment: holds_open's last premise (the goal 'hc' behind k_head) from a wpAny of the law's body -/
/-- the same from a codeAny of the CALL (for a layer whose function contracts speak of calls) -/
theorem attach_call {l : OpenLaw} {n : Nat} {q : Program} {loose : List Str} {XP : (Str → Option Value) → Heap → Prop} {YP : World → Heap → Prop} {d : DefRec}
    (hn : l.most = some n) (hdf : d.params.defaults = [])
    (call : ∀ (w : World) (s₀ s₁ : Shared) (mg mb : Str → Option Value) (fa : Addr) (o : Obj) (pm cd doc : Value) (a : Addr) (vs : List Value) (ns : List Int),
      Ground q loose [] XP w s₀ mg mb s₁.heap → YP w s₁.heap →
      s₁.heap.get? fa = some o → o.data = .func (docDef d.name d.params d.body d.scope pm cd doc) → s₁.heap.CodeRec cd d.name → mg d.name = some (.ref fa) →
      s₁.heap.get? a = some { cls := .type "list", data := .seq vs.toArray } → IntsAre vs ns → ns.length ≤ n → s₁.gens = #[] →
      codeAny (model l.prog w) callerA (.call (.ref fa) ⟨[.ref a], []⟩) (fun r s' => r = .ok (.ret (.bool true)) ∧ OldK s₁.heap s'.heap ∧ s'.os = s₁.os ∧ AllBare s'.gens) s₁) :
    WalkO q loose XP YP l.row.toRowW d [] (fun f vs => PySem.call f vs) := by
  intro w s₀ s₁ mg mb G Y fa o pm cd doc dV kV ho hd hcd hD hmg hg args vals as hpre hlay hrd hwl hlo
  obtain rfl : dV = .none := Dflts.none hD hdf
  obtain rfl : kV = .none := Dflts.noKw hD
  obtain ⟨a, vs, ns, rfl, rfl, hobj, hints, hlen⟩ := script_of hn hpre hwl
  refine enter_call (codeAny_mono (call w s₀ s₁ mg mb fa o pm cd doc a vs ns G Y ho (fd_plain hd) hcd hmg hobj hints hlen hg) fun r s' hq => ?_)
  obtain ⟨rfl, h2, h3, h4⟩ := hq
  exact ⟨.inl ⟨.bool true, .bool true, [], rfl, fun _ => rfl, .bool true, post_true l _, fun _ => ⟨List.Pairwise.nil, fun _ hm => (nomatch hm)⟩⟩, h2, h3, h4⟩

/-! ### rules over ANY heap (no ledger) from facts about the written part K: the library's own take a ledger (News) for what they write -/
section
variable {prog : Program} {w : World} {A : Around} {E : Value → Shared → Prop} {s : Shared} {K : Frag}

/-! the whole heap as the ledger: makes every rule that writes through a ledger a rule over any heap -/
def ledger (h : Heap) (L d : Addr) : List (Addr × Obj) := (List.range h.objs.size).filterMap fun a => if a = L ∨ a = d then none else (h.get? a).map fun o => (a, o)
end
end Att

namespace L2
open PySem PySem.Spec PyProof.Rows

theorem vals_ints : ∀ {vs : List Value} {ns : List Int}, IntsAre vs ns → Vals (ns.map V.int) vs
  | _, _, .nil => .nil
  | _, _, .cons n t h => .cons ⟨t, rfl⟩ (vals_ints h)

/-- nothing is tracked but the script, known to the object (or it is an object of the module) -/
def Only (H : Hp) : Prop := ∀ b, H b = none ∨ ∃ o xs, H b = some (.frz o (.lst xs))

/-- THE HEAD: the law's promise, at the heap behind the top. F, the promise of the law's def, may use that base is part of the heap (so K.In base, base.Ns mainGlobals mg stand in Mod) -/
theorem law_call {P : Program} {w : World} {K : PySem.W.Frag} {mg mb : Str → Option Value} {CX : CXT} {k : Nat} {fa a : Addr} {fd : FuncData} {x : Str} {sp : Sp} {s₁ : Shared} {vs : List Value} {ns : List Int}
    (KX : K.In s₁.heap) (hns : s₁.heap.Ns mainGlobals mg) (hb : s₁.heap.Ns builtinsNs mb) (hbb : ∀ x : Str, x ≠ "__name__" → mb x = bootBuiltins x) (hlim : s₁.heap.NoLimit) (hg : s₁.gens = #[])
    (ha : s₁.heap.get? a = some { cls := .type "list", data := .seq vs.toArray }) (hi : IntsAre vs ns) (hl : ns.length ≤ sizeLine) (hr : Room k callerA)
    (F : ∀ base : Heap, K.In base → base.Ns mainGlobals mg → FnOk P w K mg base CX k fa fd [x] sp) (hbind : ∀ (s : Shared) (u : Value), BindsTo s fd ⟨[u], []⟩ [(x, u)])
    (hsp : ∀ H : Hp, Only H → SqL K H a (ns.map V.int) → sp [.ref a] H (fun v _ => v = .bl true) fun _ _ _ => False)
    (hCX : ∀ H e s', CX [] H s₁ (fun _ _ _ => False) e s' → False) :
    codeAny (model P w) callerA (.call (.ref fa) ⟨[.ref a], []⟩) (fun r s' => r = .ok (.ret (.bool true)) ∧ OldK s₁.heap s'.heap ∧ s'.os = s₁.os ∧ AllBare s'.gens) s₁ := by
  have rv := vals_ints hi
  have lenV := hi.length
  -- from an abstract heap in which nothing but the script may be tracked
  have core : ∀ H : Hp, Only H → SqL K H a (ns.map V.int) → HOk P w H s₁.heap → (∀ b, H b ≠ none → b = a) → (H a ≠ none → K.lookup a = none) →
      codeAny (model P w) callerA (.call (.ref fa) ⟨[.ref a], []⟩) (fun r s' => r = .ok (.ret (.bool true)) ∧ OldK s₁.heap s'.heap ∧ s'.os = s₁.os ∧ AllBare s'.gens) s₁ := by
    intro H hO hS hok hA hK
    have base_of : ∀ {b : Addr} {o : Obj}, s₁.heap.get? b = some o → H b = none → (hidT s₁.heap H).get? b = some o := fun e n => hidT_get e n
    have noA : ∀ {b : Addr} {o : Obj} {es : Array DictEntry} {ep : Nat}, s₁.heap.get? b = some o → o.data = .dict es ep → H b = none := fun {b o es ep} e d => by
      cases q : H b with
      | none => rfl
      | some u =>
        have e' : b = a := hA b (by rw [q]; simp)
        subst e'
        rw [ha] at e; cases e
        have d' : Data.seq vs.toArray _ = Data.dict es ep := d
        cases d'
    have nsK : ∀ {b : Addr} {m : Str → Option Value}, s₁.heap.Ns b m → (hidT s₁.heap H).Ns b m := fun {b m} ⟨o, es, ep, e, d, r⟩ => ⟨o, es, ep, base_of e (noA e d), d, r⟩
    have hKb : K.In (hidT s₁.heap H) := fun b o e => base_of (KX b o e) (by
      cases q : H b with
      | none => rfl
      | some u =>
        have e' : b = a := hA b (by rw [q]; simp)
        subst e'
        rw [hK (by rw [q]; simp)] at e; cases e)
    have hM : Mod K mg (hidT s₁.heap H) := ⟨hKb, nsK hns, ⟨mb, nsK hb, hbb⟩, let ⟨mc, h1, h2⟩ := hlim; ⟨mc, nsK h1, h2⟩⟩
    have e0 : Env0 P w K mg (hidT s₁.heap H) callerA [] s₁ H := ⟨rfl, hM, fun b o e => of_hidT e, Nat.le_of_eq (hidT_size _ _), trivial, fun b hb => absurd (show b ∈ ([] : List Addr) from hb) (by simp), hok, .of_eq hg⟩
    refine codeAny_mono ((F _ hKb (nsK hns)).run callerA [] s₁ H ⟨[.ref a], []⟩ [.ref a] [.ref a] _ _ hr e0 (hbind s₁ (.ref a)) (.cons rfl .nil) (hsp H hO hS)) fun r s' h => ?_
    cases r with
    | error e => exact (hCX H e s' h).elim
    | ok fl =>
      cases fl with
      | next => exact False.elim h
      | brk => exact False.elim h
      | cont => exact False.elim h
      | ret u =>
        obtain ⟨v, H', os, bare, un, hok', r', q⟩ := h
        have q' : v = .bl true := q
        subst q'
        obtain rfl : u = Value.bool true := r'
        refine ⟨rfl, OldK.of_keep fun b o e => ?_, os, bare⟩
        cases q : H b with
        | none => exact un.keep b o e q (by intro z; exact absurd (show b ∈ ([] : List Addr) from z) (by simp)) (by simp)
        | some u =>
          rcases hO b with z | ⟨ob, xs, z⟩
          · rw [q] at z; cases z
          · have z2 := un.frzs b ob _ z
            obtain ⟨e1, _⟩ := hok b _ z
            obtain ⟨e2, _⟩ := hok' b _ z2
            rw [e] at e1; cases e1
            exact e2
  cases hk : K.lookup a with
  | some o =>
    -- the script is one of the module's own objects
    have e := KX a o hk
    rw [ha] at e
    cases e
    refine core (fun _ => none) (fun _ => .inl rfl) (.inr ⟨_, vs.toArray, _, hk, rfl, rfl, rfl, by rw [List.size_toArray, lenV]; exact hl, by simpa using rv⟩) (fun b u z => by have z' : (none : Option HO) = some u := z; cases z') (fun b z => absurd rfl z) fun z => absurd rfl z
  | none =>
    refine core (fun b => if b = a then some (.frz { cls := .type "list", data := .seq vs.toArray } (.lst (ns.map V.int))) else none) (fun b => ?_) (.inl (.inr ⟨{ cls := .type "list", data := .seq vs.toArray }, if_pos rfl⟩)) (fun b u z => ?_) (fun b z => ?_) fun _ => hk
    · by_cases hb : b = a
      · exact .inr ⟨_, _, if_pos hb⟩
      · exact .inl (if_neg hb)
    · by_cases hb : b = a
      · have z' := (if_pos hb).symm.trans z
        cases z'
        subst hb
        exact ⟨ha, by rw [List.length_map]; exact hl, vs, _, rv, ha⟩
      · have z' := (if_neg hb).symm.trans z
        cases z'
    · by_cases hb : b = a
      · exact hb
      · exact absurd (if_neg hb) z
end L2

namespace L2
open PySem PySem.Spec PyProof.Rows

/-- the goal that k_head leaves (case hc), from the law's promise. F gives the function object fd (K's own) once, then the promise over every base -/
theorem walk_of {l : PySem.W.OpenLaw} {n k : Nat} {q : Program} {loose : List Str} {XP : (Str → Option Value) → Heap → Prop} {YP : World → Heap → Prop} {d : DefRec} {K : Params → PySem.W.Frag} {CX : World → CXT} {sp : World → Sp} {x : Str}
    (hn : l.most = some n) (hn2 : n ≤ sizeLine) (hdf : d.params.defaults = []) (hr : Room k callerA)
    (hY : ∀ (w : World) (h : Heap), YP w h → (K w.params).In h)
    (F : ∀ (w : World) (mg : Str → Option Value) (fa : Addr) (h : Heap), (K w.params).In h → h.Ns mainGlobals mg → mg d.name = some (.ref fa) →
      ∃ fd : FuncData, (∀ (s : Shared) (u : Value), BindsTo s fd ⟨[u], []⟩ [(x, u)]) ∧
        ∀ base : Heap, (K w.params).In base → base.Ns mainGlobals mg → FnOk l.prog w (K w.params) mg base (CX w) k fa fd [x] (sp w))
    (hsp : ∀ (w : World) (H : Hp) (a : Addr) (ns : List Int), ns.length ≤ n → Only H → SqL (K w.params) H a (ns.map V.int) → sp w [.ref a] H (fun v _ => v = .bl true) fun _ _ _ => False)
    (hCX : ∀ (w : World) (H : Hp) (s : Shared) (e : Value) (s' : Shared), CX w [] H s (fun _ _ _ => False) e s' → False) :
    PySem.W.WalkO q loose XP YP l.row.toRowW d [] (fun f vs => PySem.call f vs) := by
  refine Att.attach_call hn hdf fun w s₀ s₁ mg mb fa o pm cd doc a vs ns G Y ho hd hcd hmg hobj hints hlen hg => ?_
  have KX := hY w _ Y
  obtain ⟨fd, hb, hF⟩ := F w mg fa _ KX G.T.g hmg
  exact law_call KX G.T.g G.T.b G.T.builtins G.T.nolimit hg hobj hints (Nat.le_trans hlen hn2) hr hF hb (fun H hO hS => hsp w H a ns hlen hO hS) fun H e s' => hCX w H s₁ e s'
end L2

/- THE LAST THEOREM (shape; LID, My.* are yours):
   My.Adr: a structure of the addresses that your layer names (classes, functions); My.Txt K t: a structure (Prop) of the equations over K;
   My.txt_mk : {K} {implicit addresses ..} (e1 : nsIn K mainGlobals "law" = some (some (.ref f))) (e2 : K.lookup f = some ⟨oc, od, .func (fnOf "law" "law" params body scope dV kV doc pm an cdv ct), sl⟩) (e3 : codeIn K cdv "law" = true) .. : ∃ t, My.Txt K t

(the tactic k_is has no namespace: write k_is) -/

/-! SHORT WORDS over the layer: a def of the text, its body, what a loop and a test want. -/
namespace L2
open PySem PySem.Spec PyProof.Rows

/-! ### the text by places -/
/-- the j-th statement of a class's body -/
def inClass (s : Stmt) (j : Nat) : Stmt := match s with
  | .ClassDef _ _ _ body _ _ _ _ _ _ _ => body.getD j (.Pass ⟨0, 0, 0, 0⟩)
  | _ => .Pass ⟨0, 0, 0, 0⟩
def defArgs (s : Stmt) : Arguments := match s with
  | .FunctionDef _ a _ _ _ _ _ _ _ _ => a
  | _ => { posonlyargs := [], args := [], vararg := none, kwonlyargs := [], kw_defaults := [], kwarg := none, defaults := [] }
def defBody (s : Stmt) : List Stmt := match s with
  | .FunctionDef _ _ b _ _ _ _ _ _ _ => b
  | _ => []
def defScope (s : Stmt) : Scope := match s with
  | .FunctionDef _ _ _ _ _ _ sc _ _ _ => sc
  | _ => { kind := .function, names := [], isGenerator := false, isCoroutine := false }

/-! ### no exception leaves a def -/
abbrev E0 : XK := fun _ _ _ => False
/-! ### a def (or method) of the text as it stands behind the top -/
structure Fun (K : PySem.W.Frag) (x qual : Str) (st : Stmt) (f : Addr) (fd : FuncData) : Prop where
  ex : ∃ (oc : Value) (od : Option Addr) (kV doc pm : Value) (an : Option Addr) (cdv ct : Value) (osl : Array (Option Value)),
    fd = PySem.W.fnOf x qual (defArgs st) (defBody st) (defScope st) .none kV doc pm an cdv ct ∧ K.lookup f = some ⟨oc, od, .func fd, osl⟩ ∧ PySem.W.codeIn K cdv qual = true
  kp : PySem.W.keepIn K (.ref f) = true
section
variable {P : Program} {w : World} {K : PySem.W.Frag} {mg : Str → Option Value} {base : Heap}
/-- how its arguments bind (no defaults): h is «fun _ _ _ _ _ _ us hl => match us, hl with | [_, _], _ => rfl», one _ a parameter -/
theorem Fun.binds {x qual : Str} {st : Stmt} {f : Addr} {fd : FuncData} {ps : List Str} (F : Fun K x qual st f fd)
    (h : ∀ (kV doc pm : Value) (an : Option Addr) (cdv ct : Value) (us : List Value), us.length = ps.length → bindArgs (PySem.W.fnOf x qual (defArgs st) (defBody st) (defScope st) .none kV doc pm an cdv ct) ⟨us, []⟩ = pure (ps.zip us)) : Binds K fd ps [] := by
  obtain ⟨oc, od, kV, doc, pm, an, cdv, ct, osl, rfl, lk, hcd⟩ := F.ex
  exact .all (h kV doc pm an cdv ct)
theorem fun_mk {x qual : Str} {st : Stmt} {f : Addr} {oc : Value} {od an : Option Addr} {osl : Array (Option Value)} {kV doc pm cdv ct : Value} (l : K.lookup f = some ⟨oc, od, .func (PySem.W.fnOf x qual (defArgs st) (defBody st) (defScope st) .none kV doc pm an cdv ct), osl⟩)
    (c : PySem.W.codeIn K cdv qual = true) (k : PySem.W.keepIn K (.ref f) = true) : Fun K x qual st f (PySem.W.fnOf x qual (defArgs st) (defBody st) (defScope st) .none kV doc pm an cdv ct) := ⟨⟨oc, od, kV, doc, pm, an, cdv, ct, osl, rfl, l, c⟩, k⟩
end
theorem hu_of {A : Around} {k : Nat} (hr : Room k A) : A.units + 1 < cLine := Nat.lt_of_le_of_lt (Nat.add_le_add_left (by decide : 1 ≤ 64) _) hr.units
/-! ### expressions in short: the name that stands in the i-th slot -/
section
variable {X : Cx}
theorem pv (i : Nat) {x : Str} {pos : Pos} (hN : X.N[i]? = some x := by rfl) (hv : Vis X.env.scope x := by first | exact Or.inl rfl | exact Or.inr (Or.inl rfl) | exact Or.inr (Or.inr rfl)) (hd : (x == ("__debug__" : Str)) = false := by decide)
    (hcd : (x == ("__classdict__" : Str)) = false := by decide) : PE X (.Name x pos) (tVar i) := pe_var hN hv hd hcd
end

/-! ### tests -/
/-! ### heaps -/
/-- all that was tracked is as it was -/
def Same (H H' : Hp) : Prop := ∀ b o, H b = some o → H' b = some o
theorem Same.refl (H : Hp) : Same H H := fun _ _ h => h
theorem Same.trans {H H1 H2 : Hp} (a : Same H H1) (b : Same H1 H2) : Same H H2 := fun c o h => b c o (a c o h)
/-! ### a dict's pairs: keys that differ -/
section
variable {κ : Type} [DecidableEq κ]
end
end L2

set_option maxHeartbeats 1000000
namespace L2
open PySem PySem.Spec PyProof.Rows

section
variable {P : Program} {w : World} {H H' : Hp} {h h' : Heap} {a : Addr} {o : HO}
theorem ObjOk.there (x : ObjOk P w H h a o) : ∃ u, h.get? a = some u := by
  cases o with
  | lst xs => obtain ⟨_, _, _, _, e⟩ := x; exact ⟨_, e⟩
  | tup xs => obtain ⟨_, _, _, o, e, _⟩ := x; exact ⟨_, e⟩
  | dK kvs => obtain ⟨_, _, _, _, o, _, _, e, _⟩ := x; exact ⟨_, e⟩
  | dT kvs => obtain ⟨_, _, _, _, o, _, _, e, _⟩ := x; exact ⟨_, e⟩
  | set S n => obtain ⟨o, _, _, _, e, _⟩ := x; exact ⟨_, e⟩
  | ins C dx fs => obtain ⟨_, _, _, e, _⟩ := x; exact ⟨_, e⟩
  | own y => exact x
  | xd fs => obtain ⟨_, ⟨_, _, _, e, _⟩, _⟩ := x; exact ⟨_, e⟩
  | rng lo hi => obtain ⟨_, _, _, e⟩ := x; exact ⟨_, e⟩
  | frz ob u => obtain ⟨e, _⟩ := x; exact ⟨_, e⟩
  | tbl ps => exact ⟨_, (show h.get? a = some _ from x)⟩
  | met f y => exact ⟨_, (show h.get? a = some _ from x)⟩
  | ext φ => obtain ⟨_, e, _⟩ := x; exact e
theorem HOk.there (x : HOk P w H h) (e : H a = some o) : ∃ u, h.get? a = some u := (x a o e).there
end

/-- an exception of an own class in flight: H, s ahead of the call, H', s' behind it -/
structure Fly (P : Program) (w : World) (outer : List Env) (H : Hp) (s : Shared) (a C t : Addr) (H' : Hp) (B : Heap) (s' : Shared) : Prop where
  os : s'.os = s.os
  bare : AllBare s'.gens
  un : Un (frs outer) [] H H' s.heap s'.heap
  hok : HOk P w H' s'.heap
  new : s.heap.get? a = none
  nt : H' a = none
  fly : Heap.FlyingW B outer a (.ref C) (.ref t) s'.heap
  trk : ∀ b o u, H' b = some o → s'.heap.get? b = some u → B.get? b = some u
  old : ∀ b o, s.heap.get? b = some o → H b = none → b ∉ frs outer → B.get? b = some o
  thr : ∀ b o, s.heap.get? b = some o → b ∉ frs outer → ∃ o', B.get? b = some o'
def CX1 (P : Program) (w : World) : CXT := fun outer H s E e s' => ∃ a C t H' B, e = .ref a ∧ Fly P w outer H s a C t H' B s' ∧ E (.ref C) none H'

section
variable {P : Program} {w : World} {outer : List Env} {H H' : Hp} {s s' : Shared} {a C t : Addr} {B h₅ : Heap}
theorem Fly.frame (F : Fly P w outer H s a C t H' B s') {b : Addr} (hb : b ∈ frs outer) : ∃ o, s'.heap.get? b = some o ∧ ∀ vs, o.data ≠ .fields vs := by
  obtain ⟨_, o, ho, hd⟩ := F.fly.2.2.1.mem hb
  exact ⟨o, ho, hd⟩
theorem Fly.un' (F : Fly P w outer H s a C t H' B s') (hB : B.StaysIn h₅) (hs : s'.heap.UpToSlots h₅) : Un (frs outer) [] H H' s.heap h₅ where
  keep := fun b o e n hb _ => hB b o (F.old b o e n hb)
  slot := fun b o e n hb hx => by
    obtain ⟨sl, e1⟩ := F.un.slot b o e n hb hx
    obtain ⟨o', e2, hd⟩ := F.frame hb
    rw [e1] at e2
    cases e2
    obtain ⟨sl', e3⟩ := hs b _ e1 hd
    exact ⟨sl', e3⟩
  free := F.un.free
  there := fun b o e hx => by
    by_cases hb : b ∈ frs outer
    · obtain ⟨o', e2, hd⟩ := F.frame hb
      obtain ⟨sl', e3⟩ := hs b _ e2 hd
      exact ⟨_, e3⟩
    · obtain ⟨o', e2⟩ := F.thr b o e hb
      exact ⟨o', hB b o' e2⟩
  tups := F.un.tups
  frzs := F.un.frzs
  tbls := F.un.tbls
theorem Fly.hok' (F : Fly P w outer H s a C t H' B s') (hB : B.StaysIn h₅) : HOk P w H' h₅ := fun b o e => by
  refine (F.hok b o e).stay (fun c u hc q => ?_) (fun _ q => q) fun _ _ q => q
  rcases hc with rfl | hc
  · exact hB _ _ (F.trk _ o u e q)
  · exact hB _ _ (F.trk _ _ u hc q)
end

theorem mem_frs_cons {env : Env} {l : List Env} {L b : Addr} (hf : env.frame = some L) (hb : b ∈ frs (env :: l)) : b = L ∨ b ∈ frs l := by
  unfold frs at hb
  rw [List.filterMap_cons, hf] at hb
  exact List.mem_cons.mp hb
theorem frs_sub {env : Env} {l : List Env} {b : Addr} (hb : b ∈ frs l) : b ∈ frs (env :: l) := by
  unfold frs at hb ⊢
  rw [List.filterMap_cons]
  cases env.frame with
  | none => exact hb
  | some L => exact List.mem_cons_of_mem _ hb

section
variable {X : Cx} {pins : List (Addr × Obj)} {σ : St} {H₁ : Hp} {s₁ s₂ : Shared} {h' : Heap} {E : XK} {F : Value → Shared → Prop} {e C : Addr} {args : List Value} {x : Value}

/-- newly raised in this body: it leaves the frame -/
theorem raise_leaves (hst : X.stack = X.env :: X.outer) (hfr : X.env.frame = some X.env.locals) (hex : X.ex = []) (I : Inv X pins σ H₁ s₁) (hx : Heap.MadeExcOf s₁.heap h' e (.ref C) args) (hE : E (.ref C) none H₁) :
    wpAny (model X.prog X.w) X.A (leaving X.env (.ref e)) (fun _ s'' => CX1 X.prog X.w X.outer X.H₀ X.s₀ E (.ref e) s'') F { s₁ with heap := h' } := by
  have hl := I.stack
  rw [hst] at hl
  have hA : X.A.frames = some (X.env :: X.outer) := by rw [I.ok.frames, hst]
  have neL : ∀ b o, X.s₀.heap.get? b = some o → b ≠ X.env.locals := fun b o e => Nat.ne_of_lt (Nat.lt_of_lt_of_le (Heap.lt_size e) I.ok.above)
  have inB : ∀ b o, s₁.heap.get? b = some o → b ∉ frs (X.env :: X.outer) → (PySem.W.hideAll s₁.heap (frs (X.env :: X.outer))).get? b = some o := fun b o q n => PySem.W.hideAll_get _ q n
  have nfr : ∀ b, b ≠ X.env.locals → b ∉ frs X.outer → b ∉ frs (X.env :: X.outer) := fun b h1 h2 h3 => (mem_frs_cons hfr h3).elim h1 h2
  refine wpAny_leaves_madeW (base := PySem.W.hideAll s₁.heap (frs (X.env :: X.outer))) (h := s₁.heap) hA hfr (fun b o q => PySem.W.of_hideAll _ q)
    (PySem.W.funFrames_hide hl fun env he b hb => List.mem_filterMap.mpr ⟨env, he, hb⟩) hx fun h'' t x1 x2 x3 x4 => ?_
  have nex : ∀ b : Addr, b ∉ X.ex := fun b hb => by rw [hex] at hb; exact nomatch hb
  have hup : s₁.heap.UpToSlots h'' := (Heap.UpToSlots.of_keeps hx.keeps).trans x4
  have fr1 : ∀ b ∈ frs X.outer, ∃ o, s₁.heap.get? b = some o ∧ ∀ vs, o.data ≠ .fields vs := fun b hb => by
    obtain ⟨_, o, ho, hd⟩ := hl.mem (frs_sub hb)
    exact ⟨o, ho, hd⟩
  have trkB : ∀ b o u, H₁ b = some o → s₁.heap.get? b = some u → (PySem.W.hideAll s₁.heap (frs (X.env :: X.outer))).get? b = some u := fun b o u q r => inB b u r fun hb => by
    have := I.stkFree b (by rw [hst]; exact hb)
    rw [this] at q
    cases q
  have nt : H₁ e = none := by
    cases q : H₁ e with
    | none => rfl
    | some o =>
      obtain ⟨u, hu⟩ := I.hok.there q
      rw [hx.new] at hu
      cases hu
  have un : Un (frs X.outer) [] X.H₀ H₁ X.s₀.heap h'' := by
    refine ⟨fun b o q n hb _ => ?_, fun b o q n hb _ => ?_, fun b o q n _ => I.base.free b o q n (nex b), fun b o q _ => ?_, I.base.tups, I.base.frzs, I.base.tbls⟩
    · exact x1.1 b o (inB b o (I.base.keep b o q n hb (nex b)) (nfr b (neL b o q) hb))
    · obtain ⟨sl, e1⟩ := I.base.slot b o q n hb (nex b)
      obtain ⟨o', e2, hd⟩ := fr1 b hb
      rw [e1] at e2
      cases e2
      obtain ⟨sl', e3⟩ := hup b _ e1 hd
      exact ⟨sl', e3⟩
    · obtain ⟨o', e1⟩ := I.base.there b o q (nex b)
      by_cases hb : b ∈ frs X.outer
      · obtain ⟨o', e2, hd⟩ := fr1 b hb
        obtain ⟨sl', e3⟩ := hup b _ e2 hd
        exact ⟨_, e3⟩
      · exact ⟨o', x1.1 b o' (inB b o' e1 (nfr b (neL b o q) hb))⟩
  have hok : HOk X.prog X.w H₁ h'' := fun b o q => by
    refine (I.hok b o q).stay (fun c u hc r => ?_) (fun _ q => q) fun _ _ q => q
    rcases hc with rfl | hc
    · exact x1.1 _ _ (trkB _ o u q r)
    · exact x1.1 _ _ (trkB _ _ u hc r)
  refine ⟨e, C, t, H₁, _, rfl, ⟨I.os, I.bare, un, hok, ?_, nt, x1, fun b o u q r => ?_, fun b o q n hb => ?_, fun b o q hb => ?_⟩, hE⟩
  · cases q : X.s₀.heap.get? e with
    | none => rfl
    | some o =>
      obtain ⟨o', e1⟩ := I.base.there e o q (nex e)
      rw [hx.new] at e1
      cases e1
  · obtain ⟨u', hu⟩ := I.hok.there q
    have r' : h''.get? b = some u := r
    have z := trkB b o u' q hu
    rw [x1.1 b u' z] at r'
    cases r'
    exact z
  · exact inB b o (I.base.keep b o q n hb (nex b)) (nfr b (neL b o q) hb)
  · obtain ⟨o', e1⟩ := I.base.there b o q (nex b)
    exact ⟨o', inB b o' e1 (nfr b (neL b o q) hb)⟩

/-- from a callee: it leaves this frame too -/
theorem pass_leaves (hst : X.stack = X.env :: X.outer) (hfr : X.env.frame = some X.env.locals) (hex : X.ex = []) (I : Inv X pins σ H₁ s₁) (h : CX1 X.prog X.w X.stack H₁ s₁ E x s₂) :
    wpAny (model X.prog X.w) X.A (leaving X.env x) (fun _ s'' => CX1 X.prog X.w X.outer X.H₀ X.s₀ E x s'') F s₂ := by
  obtain ⟨a, C, t, H₂, B, rfl, F, hE⟩ := h
  rw [hst] at F
  have hA : X.A.frames = some (X.env :: X.outer) := by rw [I.ok.frames, hst]
  have neL : ∀ b o, X.s₀.heap.get? b = some o → b ≠ X.env.locals := fun b o e => Nat.ne_of_lt (Nat.lt_of_lt_of_le (Heap.lt_size e) I.ok.above)
  have nfr : ∀ b, b ≠ X.env.locals → b ∉ frs X.outer → b ∉ frs (X.env :: X.outer) := fun b h1 h2 h3 => (mem_frs_cons hfr h3).elim h1 h2
  have nex : ∀ b : Addr, b ∉ X.ex := fun b hb => by rw [hex] at hb; exact nomatch hb
  refine wpAny_leaves_onW hA hfr F.fly fun h'' x1 x2 => ?_
  have un1 := F.un' x1.1 x2
  have hok := F.hok' (h₅ := h'') x1.1
  have un : Un (frs X.outer) [] X.H₀ H₂ X.s₀.heap h'' := by
    refine ⟨fun b o q n hb _ => ?_, fun b o q n hb _ => ?_, fun b o q n _ => ?_, fun b o q _ => ?_, fun b xs q => un1.tups b xs (I.base.tups b xs q), fun b o u q => un1.frzs b o u (I.base.frzs b o u q), fun b ps q => ?_⟩
    · exact un1.keep b o (I.base.keep b o q n hb (nex b)) (I.base.free b o q n (nex b)) (nfr b (neL b o q) hb) (by simp)
    · obtain ⟨sl, e1⟩ := I.base.slot b o q n hb (nex b)
      obtain ⟨sl', e2⟩ := un1.slot b _ e1 (I.base.free b o q n (nex b)) (frs_sub hb) (by simp)
      exact ⟨sl', e2⟩
    · obtain ⟨o', e1⟩ := I.base.there b o q (nex b)
      exact un1.free b o' e1 (I.base.free b o q n (nex b)) (by simp)
    · obtain ⟨o', e1⟩ := I.base.there b o q (nex b)
      exact un1.there b o' e1 (by simp)
    · obtain ⟨m1, e1⟩ := I.base.tbls b ps q
      obtain ⟨m2, e2⟩ := un1.tbls b _ e1
      exact ⟨m1 ++ m2, by rw [e2, Array.append_assoc]⟩
  refine ⟨a, C, t, H₂, B, rfl, ⟨F.os.trans I.os, F.bare, un, hok, ?_, F.nt, x1, fun b o u q r => ?_, fun b o q n hb => ?_, fun b o q hb => ?_⟩, hE⟩
  · cases q : X.s₀.heap.get? a with
    | none => rfl
    | some o =>
      obtain ⟨o', e1⟩ := I.base.there a o q (nex a)
      rw [F.new] at e1
      cases e1
  · obtain ⟨u', hu⟩ := F.hok.there q
    have r' : h''.get? b = some u := r
    have z := F.trk b o u' q hu
    rw [x1.1 b u' z] at r'
    cases r'
    exact z
  · exact F.old b o (I.base.keep b o q n hb (nex b)) (I.base.free b o q n (nex b)) (nfr b (neL b o q) hb)
  · obtain ⟨o', e1⟩ := I.base.there b o q (nex b)
    exact F.thr b o' e1 (nfr b (neL b o q) hb)
end

/-- what a raise in this body reaches -/
def Raises (X : Cx) (E : XK) : Prop := ∀ (pins : List (Addr × Obj)) (σ : St) (H : Hp) (s : Shared) (h' : Heap) (e C : Addr) (args : List Value), Inv X pins σ H s → Heap.MadeExcOf s.heap h' e (.ref C) args → E (.ref C) none H → X.xe (.ref e) { s with heap := h' }
section
variable {P : Program} {w : World} {K : PySem.W.Frag} {mg : Str → Option Value} {base : Heap} {N : List Str} {qual : Str} {scope : Scope} {f : Addr} {cd : Value} {A : Around} {outer : List Env} {s : Shared} {H : Hp} {E : XK}
theorem raises_cx : Raises (cxOf (CX1 P w) P w K mg base N qual scope f cd A outer s H E) E := fun pins σ H₁ s₁ h' e C args I hx hE => raise_leaves rfl rfl rfl I hx hE
theorem passes_cx : Passes (CX1 P w) (cxOf (CX1 P w) P w K mg base N qual scope f cd A outer s H E) E := fun pins σ H₁ s₁ x s₂ I h => pass_leaves rfl rfl rfl I h
end
end L2

set_option maxHeartbeats 1000000
namespace L2
open PySem PySem.Spec PyProof.Rows

def bmVE : List Value := [.type "ValueError", .type "Exception", .type "BaseException", .type "object"]
/-- an own exception class of the text, under ValueError -/
structure ExcCls (K : PySem.W.Frag) (C : Addr) : Prop where
  cls : (PySem.W.clsIn K C).isSome = true
  ty : PySem.W.typeIn K (.ref C) = some (.type "type")
  base : PySem.W.subIn K (.ref C) (.type "BaseException") = some true
  ga : PySem.W.findIn K (.ref C) "__getattribute__" = some (some (.builtin "BaseException.__getattribute__"))
  noga : PySem.W.findIn K (.ref C) "__getattr__" = some none
  cl : PySem.W.findIn K (.ref C) "__class__" = some (some (.builtin "object.__class__"))
  obj : PySem.W.subIn K (.ref C) (.type "object") = some true
  made : PySem.W.excIn K C bmVE "ValueError.__new__" = true

section
variable {prog : Program} {w : World} {A : Around} {E : Value → Shared → Prop} {h : Heap} {g : Array GenState} {d : Drawn} {t : Nat} {os : OsState} {a C : Addr} {o : Obj} {K : PySem.W.Frag}

theorem exc_class_get {R : Result → Shared → Prop} (X : K.In h) (c : ExcCls K C) (hx : h.get? a = some o) (hc : o.cls = .ref C) (hq : R (.ok (.ret (.ref C))) ⟨h, g, d, t, os⟩) :
    codeAny (model prog w) A (.call (.builtin "getset_descriptor.__get__") ⟨[.builtin "object.__class__", .ref a, .ref C], []⟩) R ⟨h, g, d, t, os⟩ := by
  have hT5 : (⟨h, g, d, t, os⟩ : Shared).TypeIs (.builtin "object.__class__") "getset_descriptor" := F.typeOf_object_class
  have L : PySem.W.Looks (model prog w) h (isSubtype (.ref C) (.type (".".intercalate ("object.__class__".cutAt '.').dropLast))) true := by
    rw [F.owner_object_class]
    exact PySem.W.looks_subIn X c.obj
  refine codeAny_call_builtin F.slot_gs_get.plain F.entry_gs_get (F.slot_gs_get.check _ _ _ _ _ _ _ _ hT5 (F.args_gs_get _ _ _) ?_)
  repeat (any_goals (first | assumption | (with_reducible refine wpAny_loadPart_at hx ?_; rw [hc]) | with_reducible refine L.at ?_ | wp_step))
  refine ⟨Code.quiet_builtin _ (by decide +kernel), codeAny_builtin F.entry_object_class ?_⟩
  repeat (any_goals (first | assumption | (with_reducible refine wpAny_loadPart_at hx ?_; rw [hc]) | wp_step))

theorem exc_class_entry {tk : Tok} {Q : Fin → Shared → Prop} (X : K.In h) (c : ExcCls K C) (hx : h.get? a = some o) (hc : o.cls = .ref C) (hq : Q (.done (.ret (.ref C))) ⟨h, g, d, t, os⟩) :
    wpAny (model prog w) A (Builtin.«object.__getattribute__» ⟨[.ref a, .str "__class__" tk], []⟩) Q E ⟨h, g, d, t, os⟩ := by
  have hT5 : (⟨h, g, d, t, os⟩ : Shared).TypeIs (.builtin "object.__class__") "getset_descriptor" := F.typeOf_object_class
  have f5 := F.typeOf_object_class
  have f6 := F.slot_gs_get.lookup
  have f7 := F.slot_gs_set.lookup
  have L := PySem.W.looks_findIn (M := model prog w) X c.cl
  repeat (any_goals (first | assumption | (with_reducible refine wpAny_loadPart_at hx ?_; rw [hc]) | with_reducible refine L.at ?_ | wp_step))
  refine exc_class_get X c hx hc ?_
  repeat (any_goals (first | assumption | wp_step))

theorem exc_check_ga {M : Model} {nameV : Value} {Q : Unit → Shared → Prop} (X : K.In h) (c : ExcCls K C) (hx : h.get? a = some o) (hc : o.cls = .ref C) (hq : Q () ⟨h, g, d, t, os⟩) :
    wpAny M A (checkBuiltinCall "BaseException.__getattribute__" ⟨[.ref a, nameV], []⟩) Q E ⟨h, g, d, t, os⟩ := by
  have hk : builtinKind "BaseException.__getattribute__" = some .slot := by decide +kernel
  have hsplit : splitId "BaseException.__getattribute__" = some ("BaseException", "__getattribute__") := by decide +kernel
  have ha := F.args_bexc_ga (.ref a) nameV
  have L := PySem.W.looks_subIn (M := M) X c.base
  simp only [checkBuiltinCall, hk, hsplit]
  refine wpAny_bind ?_
  · unfold isInstance
    repeat (first | (with_reducible refine wpAny_loadPart_at hx ?_; rw [hc]) | with_reducible refine L.at ?_ | wp_step)
    exact hq

theorem exc_class_by {tk : Tok} {fill : Bool} {Q : Value → Shared → Prop} (X : K.In h) (c : ExcCls K C) (hx : h.get? a = some o) (hc : o.cls = .ref C) (hq : Q (.ref C) ⟨h, g, d, t, os⟩) :
    wpAny (model prog w) A (getAttrBy (.ref a) (.str "__class__" tk) fill) Q E ⟨h, g, d, t, os⟩ := by
  have FB := F.excAttr_ValueError
  have f3 := FB.ga.bind (.ref a)
  have hx2 : (Value.builtin "BaseException.__getattribute__" == Value.builtin "object.__getattribute__") = false := by decide +kernel
  have hx1 : (onTheHeap (Value.ref C) && Value.builtin "BaseException.__getattribute__" == Value.builtin "object.__getattribute__") = false := by rw [hx2]; rfl
  have L1 := PySem.W.looks_findIn (M := model prog w) X c.ga
  have L2 := PySem.W.looks_findIn (M := model prog w) X c.noga
  repeat (any_goals (first | assumption | (with_reducible refine wpAny_loadPart_at hx ?_; rw [hc]) | with_reducible refine L1.at ?_ | with_reducible refine L2.at ?_ | wp_step))
  refine codeAny_call_builtin FB.ga.plain F.entry_bexc_ga (exc_check_ga X c hx hc (exc_class_entry X c hx hc ?_))
  repeat (any_goals (first | assumption | wp_step))

theorem exc_class_attr {Q : Option Value → Shared → Prop} (X : K.In h) (c : ExcCls K C) (hx : h.get? a = some o) (hc : o.cls = .ref C) (hq : Q (some (.ref C)) ⟨h, g, d, t + 1, os⟩) :
    wpAny (model prog w) A (getAttr? (.ref a) "__class__") Q E ⟨h, g, d, t, os⟩ := by
  unfold getAttr? getAttrBy?
  repeat (any_goals (first | assumption | with_reducible apply exc_class_by X c hx hc | wp_step))
end

/-- an exception's object -/
def ExcAt (e C : Addr) (h : Heap) : Prop := ∃ o vs, h.get? e = some o ∧ o.cls = .ref C ∧ o.data = .fields vs
def ExcO (e C : Addr) : HO := .ext (ExcAt e C)

theorem cls_isType {K : PySem.W.Frag} {M : Model} {h : Heap} {C : Addr} (X : K.In h) (z : (PySem.W.clsIn K C).isSome = true) : PySem.W.Looks M h (isType (.ref C)) true := by
  unfold PySem.W.clsIn at z
  split at z
  · rename_i c' d' cd' sl' ho
    intro A' Q' E' s' k q
    unfold isType loadHead
    exact wpAny_bind (wpAny_loadPart (k _ _ (X _ _ ho)) (wpAny_pure q))
  · cases z

theorem kitx_exc {K : PySem.W.Frag} {e C : Addr} (c : ExcCls K C) : PySem.W.KitX K (.ref e) (.ref C) (ExcAt e C) where
  ty := fun M h X ⟨o, vs, h1, h2, _⟩ => h2 ▸ (PySem.W.Looks.ld h1).andThen .now
  it := fun M h X _ => cls_isType X c.cls
  ne := fun h tp dd its n sl X htp => by
    refine Bool.eq_false_iff.mpr fun q => ?_
    have e : C = tp := Value.ref.inj (beq_iff_eq.mp q)
    subst e
    have z := c.cls
    unfold PySem.W.clsIn at z
    split at z
    · rename_i c' d' cd' sl' ho
      have z := (X _ _ ho).symm.trans htp
      cases z
    · cases z
  ca := fun {prog w A E Q s} X ⟨o, vs, h1, h2, _⟩ k => by
    obtain ⟨h, g, d, t, os⟩ := s
    exact exc_class_attr X c h1 h2 k

/-- except D, for an exception of class C -/
theorem exc_matches {K : PySem.W.Frag} {M : Model} {A : Around} {E : Value → Shared → Prop} {s : Shared} {e C D : Addr} {oe : Obj} {v : Bool} {Q : Bool → Shared → Prop} (X : K.In s.heap) (hD : (PySem.W.clsIn K D).isSome = true) (hty : PySem.W.typeIn K (.ref D) = some (.type "type"))
    (hb : PySem.W.subIn K (.ref D) (.type "BaseException") = some true) (hs : PySem.W.subIn K (.ref C) (.ref D) = some v) (he : s.heap.get? e = some oe) (hc : oe.cls = .ref C) (hq : Q v s) : wpAny M A (excMatches (.ref e) (.ref D)) Q E s := by
  obtain ⟨h, g, d, t, os⟩ := s
  have L1 := PySem.W.looks_typeIn (M := M) X hty
  have L2 := cls_isType (M := M) X hD
  have L3 := PySem.W.looks_subIn (M := M) X hb
  have L4 := PySem.W.looks_subIn (M := M) X hs
  have f := tc_notTuple
  unfold excMatches isInstance isExcClass
  repeat (first | with_reducible refine L1.at ?_ | with_reducible refine L2.at ?_ | with_reducible refine L3.at ?_ | with_reducible refine L4.at ?_ | (with_reducible refine wpAny_loadPart_at he ?_; rw [hc]) | wp_step)
  cases v <;> (wp_walk; exact hq)
end L2

set_option maxHeartbeats 1000000
namespace L2
open PySem PySem.Spec PyProof.Rows

/-! ### raise C(text) -/
theorem exc_obj {K : PySem.W.Frag} {h : Heap} {C : Addr} {bmB : List Value} {newId : String} (X : K.In h) (q : PySem.W.excIn K C bmB newId = true) :
    ∃ bm N nm q bs hdct sn sub ab col dd k0 k1 k2 k3 k5 mN, h.get? C = some (excClassObj nm q C N bs bm hdct sn sub ab col dd k0 k1 k2 k3 k5 newId) ∧ h.Ns N mN ∧ mN "__init__" = none ∧ OwnTail h bmB bm := by
  unfold PySem.W.excIn at q
  split at q
  · rename_i dd cd sl ho
    split at q
    · rename_i C' bm k0 k1 k2 k3 n k5 hm hs
      simp only [Bool.and_eq_true, beq_iff_eq, Bool.not_eq_true'] at q
      obtain ⟨⟨⟨⟨⟨rfl, rfl⟩, hdel⟩, ht⟩, hok⟩, hni⟩ := q
      obtain ⟨nm, bs, mro, ns, qn, hd, sn, sub, ab, col, del⟩ := cd
      dsimp only at hm hdel hok hni
      subst hm hdel
      have hsl : sl = #[k0, k1, k2, k3, some (.builtin n), k5] := by
        obtain ⟨l⟩ := sl
        simp only at hs
        rw [hs]
      subst hsl
      exact ⟨bm, ns, nm, qn, bs, hd, sn, sub, ab, col, dd, k0, k1, k2, k3, k5, _, X _ _ ho, .of_isNs (PySem.W.isNs_of_in X hok), PySem.W.nsMap_none_of_in X hok hni, PySem.W.tail_of_in X ht⟩
    · cases q
  · cases q

def tRaise (E : XK) (C : Addr) (te : TE) : TS := fun _ σ H => te σ H fun _ H1 => E (.ref C) none H1
theorem ps_raise {X : Cx} {E : XK} {x : Str} {C : Addr} {ex : Expr} {te : TE} {np cpos pos : Pos} (hr : Raises X E) (hh : X.A.handled = none) (c : ExcCls X.K C) (hg : Gl X x) (hm : X.mg x = some (.ref C)) (ha : PE X ex te)
    (hd : (x == ("__debug__" : Str)) = false := by decide) (he : starEach [ex] X.env = [(false, eval ex X.env)] := by rfl) :
    PS X (.Raise (some (.Call (.Name x np) [ex] [] cpos)) none pos) (tRaise E C te) := by
  intro pins s σ H D I h
  obtain ⟨tl, N, nm, q, bs, hdct, sn, sub, ab, col, dd, k0, k1, k2, k3, k5, mN, hC, hN, hni, T⟩ := exc_obj I.mod.kin c.made
  have FB := F.excBase_ValueError
  refine wpAny_Raise_call_subT (C := C) (nm := nm) (q := q) (N := N) (bs := bs) (bm := tl) (hdct := hdct) (sn := sn) (sub := sub) (ab := ab) (col := col) (dd := dd) (k0 := k0) (k1 := k1) (k2 := k2) (k3 := k3) (k5 := k5)
    FB (mN := mN) (T.hasType FB.hasBase) hh (by rw [he]; rfl) hni (ld_glob I hg hm ⟨rfl, ?_⟩ hd)
  have e2 : backTo cpos (starEach [ex] X.env) = [(false, eval ex X.env)] := by rw [he]; rfl
  rw [e2]
  refine Calls.evalArgs_plain (Calls.spliced_cons (thn (ha pins s σ H _ I h) fun u s1 ⟨y, H1, I1, r1, q1⟩ => Calls.spliced_nil ⟨rfl, ?_, I1.bk _ _ hC, hN.keeps I1.bk, T.keeps I1.bk, fun h' e hm => hr pins σ H1 s1 h' e C _ I1 hm q1⟩))
  show (1 : Nat) ≤ sizeLine
  decide

/-! ### calls whose exception is wanted at the very frame (in a try) -/
/-- an exception stands behind a call made in this frame at the names' values σ -/
def XP (X : Cx) (pins : List (Addr × Obj)) (σ : St) (E : XK) (x : Value) (s' : Shared) : Prop := ∃ s₁ H₁, Inv X pins σ H₁ s₁ ∧ CX1 X.prog X.w X.stack H₁ s₁ E x s'
abbrev TEx := St → Hp → VK → XK → Prop
def PEx (X : Cx) (e : Expr) (t : TEx) : Prop :=
  ∀ (pins : List (Addr × Obj)) (s : Shared) (σ : St) (H : Hp) (Q : VK) (E : XK), Inv X pins σ H s → t σ H Q E → wpAny (model X.prog X.w) X.A (eval e X.env) (EP X pins σ Q) (XP X pins σ E) s
section
variable {X : Cx} {k : Nat} {f C : Addr} {fd : FuncData} {ps : List Str} {sp : Sp} {dvs : List V} {ds : List Value} {x m : Str} {p pos apos : Pos} {e o : Expr} {es : List Expr} {ta : TE} {t : TA}

theorem run_fnx {pins : List (Addr × Obj)} {σ : St} {H : Hp} {s : Shared} {Q : VK} {E : XK} {us : List Value} {vs : List V} (F : FnOk X.prog X.w X.K X.mg X.base (CX1 X.prog X.w) k f fd ps sp) (hr : Room k X.A) (hb : Binds X.K fd ps ds) (hd : Vals dvs ds)
    (I : Inv X pins σ H s) (r : Vals vs us) (h : sp (vs ++ dvs) H Q E) : wpAny (model X.prog X.w) X.A (call (.ref f) us) (EP X pins σ Q) (XP X pins σ E) s := by
  have r2 : Vals (vs ++ dvs) (us ++ ds) := r.append hd
  have hl : (us ++ ds).length = ps.length := by rw [← r2.length]; exact F.len _ _ _ _ h
  refine wpAny_call (codeAny_mono (F.run X.A X.stack s H ⟨us, []⟩ (us ++ ds) (vs ++ dvs) Q E hr I.env0 (hb s us I.kIn hl) r2 h) fun r s' hq => ?_)
  cases r with
  | error e => exact ⟨s, H, I, hq⟩
  | ok fl =>
    cases fl with
    | ret u => exact I.after hq
    | next => exact False.elim hq
    | brk => exact False.elim hq
    | cont => exact False.elim hq
/-- an argument list that raises nothing -/
theorem pa_quiet {pins : List (Addr × Obj)} {σ : St} {H : Hp} {s : Shared} {Q : List V → Hp → Prop} {F : Value → Shared → Prop} (ha : PA X.nox es t) (I : Inv X pins σ H s) (h : t σ H Q) : wpAny (model X.prog X.w) X.A (spliced (backTo pos (starEach es X.env))) (AP X pins σ Q) F s :=
  wpAny_mono (ha pos pins s σ H Q (I.wish _) h) (fun _ _ ⟨vs, H', I', r, q⟩ => ⟨vs, H', I'.unwish, r, q⟩) fun _ _ z => False.elim z
theorem px_call (F : FnOk X.prog X.w X.K X.mg X.base (CX1 X.prog X.w) k f fd ps sp) (hr : Room k X.A) (hg : Gl X x) (hm : X.mg x = some (.ref f)) (hk : PySem.W.keepIn X.K (.ref f) = true) (hb : Binds X.K fd ps ds) (hd : Vals dvs ds)
    (ha : PA X.nox (e :: es) t) (hdb : (x == ("__debug__" : Str)) = false := by decide) (he : starEach (e :: es) X.env = (false, eval e X.env) :: starEach es X.env := by rfl) (hpl : (backTo pos (starEach es X.env)).any (·.1) = false := by rfl) :
    PEx X (.Call (.Name x p) (e :: es) [] pos) (fun σ H Q E => t σ H fun vs H1 => sp (vs ++ dvs) H1 Q E) := by
  intro pins s σ H Q E I h
  refine wpAny_Call_Name_kw (ld_glob I hg hm ?_ hdb)
  refine PySem.W.callWith_K (h₀ := X.base) I.ok.mod.kin hk (thn (pa_quiet ha I h) fun us s1 ⟨vs, H1, I1, r, q⟩ => ⟨I1.kIn, ?_⟩) he hpl
  exact run_fnx F hr hb hd I1 r q
end

/-! ### the one statement of a try -/
abbrev TSx := Ends → (St → XK) → St → Hp → Prop
def PSx (X : Cx) (st : Stmt) (t : TSx) : Prop :=
  ∀ (pins : List (Addr × Obj)) (s : Shared) (σ : St) (H : Hp) (D : Ends) (E : St → XK), Inv X pins σ H s → t D E σ H → wpAny (model X.prog X.w) X.A (exec st X.env) (SP X pins D) (fun x s' => ∃ σ', XP X pins σ' (E σ') x s') s
section
variable {X : Cx} {e : Expr} {te : TEx} {pos pos' : Pos}
theorem psx_expr (he : PEx X e te) (hs : swapsWith e none pos.line X.env = pure false := by rfl) : PSx X (.Expr e pos) (fun D E σ H => te σ H (fun _ H1 => D.nx σ H1) (E σ)) := by
  intro pins s σ H D E I h
  exact wpAny_Expr_any (wpAny_mono (he pins s σ H _ _ I h) (fun v s1 ⟨x, H1, I1, r1, q1⟩ => ⟨σ, H1, I1, q1⟩) fun x s' z => ⟨σ, z⟩) I.quiet hs
theorem psx_set {i : Nat} {x : Str} (hN : X.N.Nodup) (hi : X.N[i]? = some x) (hx : Loc X.env.scope x) (he : PEx X e te) (hs : swapsWith e (some (.Name x pos')) pos.line X.env = pure false := by rfl)
    (hf : X.fn x = true ∨ X.env.scope.names.lookup x = some .local := by first | exact .inl rfl | exact .inr rfl | assumption) :
    PSx X (.Assign [.Name x pos'] e pos) (fun D E σ H => te σ H (fun v H1 => D.nx (σ.set i (some v)) H1) (E σ)) := by
  intro pins s σ H D E I h
  refine wpAny_Assign_Name (wpAny_mono (he pins s σ H _ _ I h) (fun v s1 ⟨y, H1, I1, r1, q1⟩ => ?_) fun x s' z => ⟨σ, z⟩) hs
  exact store_ok I1 hN hi hx r1 (fun s2 I2 => ⟨_, H1, I2, q1⟩) hf
end
end L2

set_option maxHeartbeats 1000000
namespace L2
open PySem PySem.Spec PyProof.Rows

/-- within an except suite, e being handled; nothing is raised in it -/
def Cx.hnd (X : Cx) (e : Addr) : Cx := { X with A := X.A.mark (some (.ref e)), calm := false, xe := fun _ _ => False }
section
variable {X : Cx} {pins : List (Addr × Obj)} {σ : St} {H : Hp} {s : Shared} {a e : Addr} {o : HO}
theorem Inv.hnd (I : Inv X pins σ H s) (e : Addr) : Inv (X.hnd e) pins σ H s :=
  ⟨⟨I.ok.mod, I.ok.kind, I.ok.glob, I.ok.blt, I.ok.above, I.ok.inj, I.ok.has, I.ok.cab, fun q => (nomatch (show false = true from q)), I.ok.frames, I.ok.stk, I.ok.exf, I.ok.bs, I.ok.bsz, I.ok.noex, I.ok.exfs, I.ok.funs, I.ok.frf⟩,
    I.os, I.bare, I.base, I.loc, I.cell, I.free, I.freeC, I.pin, I.hok, I.len⟩
theorem Inv.unhnd (ok : X.Ok) (I : Inv (X.hnd e) pins σ H s) : Inv X pins σ H s :=
  ⟨ok, I.os, I.bare, I.base, I.loc, I.cell, I.free, I.freeC, I.pin, I.hok, I.len⟩
/-- an object that stood untracked (made behind the entry) is tracked from here on -/
theorem Inv.track (I : Inv X pins σ H s) (hn : X.s₀.heap.get? a = none) (hH : H a = none) (hL : a ≠ X.env.locals) (hc : ∀ x c, X.env.cells.lookup x = some c → c ≠ a) (hp : ∀ p ∈ X.pn ++ pins, p.1 ≠ a)
    (new : ObjOk X.prog X.w (upd H a o) s.heap a o) : Inv X pins σ (upd H a o) s := by
  have na : ∀ b u, H b = some u → b ≠ a := fun b u q => ne_of_none q hH
  refine ⟨I.ok, I.os, I.bare, ⟨I.base.keep, I.base.slot, fun b u q n hx => ?_, I.base.there, fun b xs q => ?_, fun b u v q => ?_, fun b ps q => ?_⟩, I.loc, I.cell, ?_, fun x c q => ?_, fun p q => ?_, fun b u q => ?_, I.len⟩
  · have nb : b ≠ a := fun z => by rw [z, hn] at q; cases q
    rw [upd_ne nb]
    exact I.base.free b u q n hx
  · have z := I.base.tups b xs q
    rw [upd_ne (na b _ z)]
    exact z
  · have z := I.base.frzs b u v q
    rw [upd_ne (na b _ z)]
    exact z
  · obtain ⟨more, z⟩ := I.base.tbls b ps q
    exact ⟨more, by rw [upd_ne (na b _ z)]; exact z⟩
  · rw [upd_ne (Ne.symm hL)]
    exact I.free
  · rw [upd_ne (hc x c q)]
    exact I.freeC x c q
  · obtain ⟨e1, e2, e3⟩ := I.pin p q
    exact ⟨e1, by rw [upd_ne (hp p q)]; exact e2, e3⟩
  · by_cases hb : b = a
    · subst hb
      rw [upd_same] at q
      cases q
      exact new
    · rw [upd_ne hb] at q
      exact (I.hok b u q).stay (fun _ _ _ r => r) (fun c r => by rw [upd_ne (na c _ r)]; exact r) fun c xs r => by rw [upd_ne (na c _ r)]; exact r
/-- a local name is forgotten -/
theorem Inv.unset {i : Nat} {n : Str} {v : Option Value} {m : Str → Option Value} {h' : Heap} {tk : Nat} (I : Inv X pins σ H s) (hN : X.N.Nodup) (hi : X.N[i]? = some n) (hkn : X.env.kindOf n = some .local)
    (hl : ∀ (i : Nat) (x : Str) (v : V), X.N[i]? = some x → σ[i]? = some (some v) → Vis X.env.scope x → ∃ u, RelV v u ∧ Look X.env s.heap m x u)
    (hn : h'.Ns X.env.locals (fun x => if x = n then v else m x)) (sb : Heap.SameBut X.env.locals s.heap h') : Inv X pins (σ.set i none) H { s with heap := h', toks := tk } := by
  have k : ∀ b u, b ≠ X.env.locals → s.heap.get? b = some u → h'.get? b = some u := fun b u hb q => (sb.2 b hb).trans q
  have neL : ∀ b u, X.s₀.heap.get? b = some u → b ≠ X.env.locals := fun b u e => Nat.ne_of_lt (Nat.lt_of_lt_of_le (Heap.lt_size e) I.ok.above)
  have nH : ∀ b u, H b = some u → b ≠ X.env.locals := fun b u q => ne_of_none q I.free
  have hcell : ∀ x c v, X.env.cells.lookup x = some c → s.heap.IsCell c v → h'.IsCell c v := fun x c v q ⟨u, hu, hd⟩ => ⟨u, k c u (I.cne x c q) hu, hd⟩
  refine ⟨I.ok, I.os, I.bare, ⟨fun b u q n hb hx => k b u (neL b u q) (I.base.keep b u q n hb hx), fun b u q n hb hx => ?_, I.base.free, fun b u q hx => ?_, I.base.tups, I.base.frzs, I.base.tbls⟩, ⟨_, hn, fun j x w e1 e2 e3 => ?_⟩, fun x c q => ?_, I.free, I.freeC, fun p q => ?_, fun b u q => ?_, ?_⟩
  · obtain ⟨sl, e1⟩ := I.base.slot b u q n hb hx
    exact ⟨sl, k b _ (neL b u q) e1⟩
  · obtain ⟨u', e1⟩ := I.base.there b u q hx
    exact ⟨u', k b u' (neL b u q) e1⟩
  · by_cases hj : j = i
    · subst hj
      rw [List.getElem?_set_self' ] at e2
      cases q : σ[j]? with
      | none => rw [q] at e2; cases e2
      | some z => rw [q] at e2; cases e2
    · rw [List.getElem?_set_ne (Ne.symm hj)] at e2
      obtain ⟨u, ru, l⟩ := hl j x w e1 e2 e3
      refine ⟨u, ru, ?_⟩
      have hxn : x ≠ n := fun z => by subst z; exact hj (nodup_ix hN e1 hi)
      rcases l with ⟨l1, l2⟩ | ⟨l1, c, l2, l3⟩
      · refine .inl ⟨l1, ?_⟩
        show (if x = n then v else m x) = some u
        rw [if_neg hxn]
        exact l2
      · exact .inr ⟨l1, c, l2, hcell x c _ l2 l3⟩
  · obtain ⟨v, z⟩ := I.cell x c q
    exact ⟨v, hcell x c v q z⟩
  · obtain ⟨e1, e2, e3, e4⟩ := I.pin p q
    exact ⟨k p.1 p.2 e3 e1, e2, e3, e4⟩
  · refine (I.hok b u q).stay (fun c w hc r => k c w ?_ r) (fun _ r => r) fun _ _ r => r
    rcases hc with rfl | hc
    · exact nH _ u q
    · exact nH c _ hc
  · rw [List.length_set]
    exact I.len
end

/-- one handler, «except D as n», D an own class: tb the try's statement, th the suite -/
def tTry (K : PySem.W.Frag) (D : Addr) (i : Nat) (tb : TSx) (th : TS) : TS := fun Ds σ H => tb Ds (fun σ' cls _ H' => ∃ C, cls = .ref C ∧ PySem.W.subIn K (.ref C) (.ref D) = some true ∧ ∀ e, H' e = none →
    th { nx := fun σ'' H'' => Ds.nx (σ''.set i none) H'', rt := Ds.rt, bk := fun σ'' H'' => Ds.bk (σ''.set i none) H'', ct := fun σ'' H'' => Ds.ct (σ''.set i none) H'' } (σ'.set i (some (.ref e))) (upd H' e (ExcO e C))) σ H

theorem ps_try {X : Cx} {st b₀ : Stmt} {suite : List Stmt} {tb : TSx} {th : TS} {x n : Str} {D : Addr} {i : Nat} {np hpos pos : Pos} (hst : X.stack = X.env :: X.outer) (hfr : X.env.frame = some X.env.locals) (hex : X.ex = [])
    (hb : PSx X st tb) (hg : Gl X x) (hm : X.mg x = some (.ref D)) (hD : ExcCls X.K D) (hN : X.N.Nodup) (hi : X.N[i]? = some n) (hl : X.env.scope.names.lookup n = some .local)
    (hs : ∀ e, PSs (X.hnd e) (b₀ :: suite) th) (hd : (x == ("__debug__" : Str)) = false := by decide) :
    PS X (.Try [st] [.ExceptHandler (some (.Name x np)) (some n) (b₀ :: suite) hpos] [] [] pos) (tTry X.K D i tb th) := by
  intro pins s σ H Ds I h
  have hp : (X.env.scope.kind == .class || (X.env.scope.kind == .module && X.env.locals != X.env.globals)) = false := by rw [I.ok.kind]; rfl
  refine wpAny_Try_except (wpAny_execs_cons (wpAny_mono (hb pins s σ H Ds _ I h) (fun f s1 q => ?_) fun x s' z => ?_))
  · cases f with
    | next => exact wpAny_execs_nil (wpAny_execs_nil q)
    | ret v => exact q
    | brk => exact q
    | cont => exact q
  · obtain ⟨σ', s₁, H₁, I₁, a, C, t, H₂, B, rfl, F, C', hC, hsub, hrun⟩ := z
    cases hC
    rw [hst] at F
    have hA : X.A.frames = some (X.env :: X.outer) := by rw [I.ok.frames, hst]
    refine wpAny_looks_onW hA hfr F.fly fun h₄ held₄ sm₄ => ?_
    refine wpAny_landsW held₄ fun h₅ fl₅ sm₅ => ?_
    have un₅ := F.un' fl₅.1 (sm₄.trans sm₅)
    have I₅ : Inv X pins σ' H₂ { s' with heap := h₅ } := I₁.call' (ch := []) F.os (by rw [hst]; exact un₅) (F.hok' fl₅.1) F.bare (fun b hb => absurd hb (by simp))
    obtain ⟨ob, hob, hobc⟩ := fl₅.there
    refine wpAny_handleBy_cons (codeAny_handlers_test (ld_glob (X := X.hnd a) (I₅.hnd a) hg hm ?_ hd)) (by intro q; cases q)
    refine exc_matches (K := X.K) I₅.kIn hD.cls hD.ty hD.base hsub hob hobc ?_
    refine codeAny_handlers_suite_as ?_
    refine lands_againW fl₅ fun h₆ fl₆ sm₆ => ?_
    have un₆ := F.un' fl₆.1 ((sm₄.trans sm₅).trans sm₆)
    have I₆ : Inv X pins σ' H₂ { s' with heap := h₆ } := I₁.call' (ch := []) F.os (by rw [hst]; exact un₆) (F.hok' fl₆.1) F.bare (fun b hb => absurd hb (by simp))
    obtain ⟨oe, ws, hoe, hoec, hoed, _⟩ := fl₆.first
    have there1 : ∀ b u, s₁.heap.get? b = some u → b ≠ a := fun b u q z => by rw [z, F.new] at q; cases q
    have I₇ : Inv X pins σ' (upd H₂ a (ExcO a C)) { s' with heap := h₆ } := by
      refine I₆.track ?_ F.nt ?_ (fun y c q => ?_) (fun p hp => ?_) ⟨⟨oe, ws, hoe, hoec, hoed⟩, ⟨oe, hoe⟩, fun h1 h2 ⟨o, vs, q1, q2, q3⟩ k => ⟨o, vs, k o q1, q2, q3⟩⟩
      · cases q : X.s₀.heap.get? a with
        | none => rfl
        | some o =>
          obtain ⟨o', e1⟩ := I₁.base.there a o q (by rw [hex]; simp)
          rw [F.new] at e1
          cases e1
      · obtain ⟨m, ⟨o, _, _, ho, _⟩, _⟩ := I₁.loc
        exact Ne.symm (there1 _ o ho)
      · obtain ⟨v, o, ho, _⟩ := I₁.cell y c q
        exact there1 c o ho
      · obtain ⟨e1, _⟩ := I₁.pin p hp
        exact there1 p.1 p.2 e1
    refine store_ok (v := .ref a) I₇ hN hi (.inl hl) rfl (fun s₈ I₈ => ?_) (.inr hl)
    refine wpAny_mono (hs a pins s₈ _ _ _ (I₈.hnd a) (hrun a F.nt)) (fun f s₉ q => ?_) fun _ _ z => False.elim z
    -- behind the suite the name goes
    have fin : ∀ (σ'' : St) (H'' : Hp) (Q : Unit → Shared → Prop) (E : Value → Shared → Prop), Inv (X.hnd a) pins σ'' H'' s₉ → (∀ s', Inv X pins (σ''.set i none) H'' s' → Q () s') →
        wpAny (model X.prog X.w) X.A (do bindName X.env n .none; unbindBehindTheSuite X.env n hpos) Q E s₉ := fun σ'' H'' Q E J k => by
      have J' := J.unhnd I.ok
      obtain ⟨m, hn, hl'⟩ := id J'.loc
      refine wpAny_nameGoes_keeps (show X.env.kindOf n = some .local from hl) hn hp fun h' v hn' sb => k _ ?_
      exact J'.unset hN hi hl hl' hn' sb
    cases f with
    | next =>
      obtain ⟨σ'', H'', J, q⟩ := q
      exact fin σ'' H'' _ _ J fun s' J' => ⟨_, _, J', q⟩
    | ret v =>
      obtain ⟨u, σ'', H'', J, r, q⟩ := q
      exact fin σ'' H'' _ _ J fun s' J' => ⟨u, _, _, J', r, q⟩
    | brk =>
      obtain ⟨σ'', H'', J, q⟩ := q
      exact fin σ'' H'' _ _ J fun s' J' => ⟨_, _, J', q⟩
    | cont =>
      obtain ⟨σ'', H'', J, q⟩ := q
      exact fin σ'' H'' _ _ J fun s' J' => ⟨_, _, J', q⟩
end L2

set_option maxHeartbeats 1000000
namespace L2
open PySem PySem.Spec PyProof.Rows PySem.Builtin.Int

/-! ### defs, with exceptions -/
theorem pass1 {X : Cx} {P : Program} {w : World} : Passes (CX1 P w) X E0 := fun _ _ _ _ _ _ _ ⟨_, _, _, _, _, _, _, z⟩ => False.elim z
section
variable {P : Program} {w : World} {K : PySem.W.Frag} {mg : Str → Option Value} {base : Heap}
/-- a def that lets exceptions pass, or raises -/
theorem Fun.okE {x qual : Str} {st : Stmt} {f : Addr} {fd : FuncData} {N ps : List Str} {k : Nat} {sp : Sp} (F : Fun K x qual st f fd) (S : FnScope N ps (defScope st)) (len : ∀ vs H Q E, sp vs H Q E → vs.length = ps.length)
    (hbody : ∀ (cdv : Value) (A : Around) (outer : List Env) (s : Shared) (H : Hp) (vs : List V) (Q : VK) (E : XK), Room k (A.deeper (envOfC qual (defScope st) s.heap.objs.size f cdv)) → sp vs H Q E →
      ∃ t, PSs (cxOf (CX1 P w) P w K mg base N qual (defScope st) f cdv A outer s H E) (defBody st) t ∧ t { nx := fun _ H' => Q .non H', rt := Q } (start N vs) H) : FnOk P w K mg base (CX1 P w) (k + 1) f fd ps sp := by
  obtain ⟨oc, od, kV, doc, pm, an, cdv, ct, osl, rfl, lk, hcd⟩ := F.ex
  exact fn_of lk hcd S len fun A outer s H vs Q E hr hsp => hbody cdv A outer s H vs Q E hr hsp
/-- a def in whose body nothing is raised (a try within it may catch) -/
theorem Fun.okN {x qual : Str} {st : Stmt} {f : Addr} {fd : FuncData} {N ps : List Str} {k : Nat} {sp : Sp} (F : Fun K x qual st f fd) (S : FnScope N ps (defScope st)) (len : ∀ vs H Q E, sp vs H Q E → vs.length = ps.length)
    (hbody : ∀ (cdv : Value) (A : Around) (outer : List Env) (s : Shared) (H : Hp) (vs : List V) (Q : VK) (E : XK), Room k (A.deeper (envOfC qual (defScope st) s.heap.objs.size f cdv)) → sp vs H Q E →
      ∃ t, PSs (cxOf (CX1 P w) P w K mg base N qual (defScope st) f cdv A outer s H E).nox (defBody st) t ∧ t { nx := fun _ H' => Q .non H', rt := Q } (start N vs) H) : FnOk P w K mg base (CX1 P w) (k + 1) f fd ps sp :=
  F.okE S len fun cdv A outer s H vs Q E hr hsp => by
    obtain ⟨t, h, q⟩ := hbody cdv A outer s H vs Q E hr hsp
    exact ⟨t, h.nox, q⟩
end

/-- a def of the module, ready to be called by its name x -/
structure Fnc (P : Program) (w : World) (K : PySem.W.Frag) (mg : Str → Option Value) (base : Heap) (x : Str) (k : Nat) (ps : List Str) (dvs : List V) (sp : Sp) : Prop where
  ex : ∃ (f : Addr) (fd : FuncData) (ds : List Value), FnOk P w K mg base (CX1 P w) k f fd ps sp ∧ mg x = some (.ref f) ∧ PySem.W.keepIn K (.ref f) = true ∧ Binds K fd ps ds ∧ Vals dvs ds
section
variable {X : Cx} {k : Nat} {ps : List Str} {sp : Sp} {dvs : List V} {E : XK} {x : Str} {p pos : Pos} {e : Expr} {es : List Expr} {t : TA}
theorem pe_fn (F : Fnc X.prog X.w X.K X.mg X.base x k ps dvs sp) (hr : Room k X.A) (hx : Passes (CX1 X.prog X.w) X E) (ha : PA X (e :: es) t) (hg : Gl X x := by rfl)
    (hdb : (x == ("__debug__" : Str)) = false := by decide) (he : starEach (e :: es) X.env = (false, eval e X.env) :: starEach es X.env := by rfl) (hpl : (backTo pos (starEach es X.env)).any (·.1) = false := by rfl) :
    PE X (.Call (.Name x p) (e :: es) [] pos) (tCall sp dvs E t) := by
  obtain ⟨f, fd, ds, h1, h2, h3, h4, h5⟩ := F.ex
  exact pe_call h1 hr hg h2 h3 h4 h5 hx ha hdb he hpl
theorem px_fn (F : Fnc X.prog X.w X.K X.mg X.base x k ps dvs sp) (hr : Room k X.A) (ha : PA X.nox (e :: es) t) (hg : Gl X x := by rfl)
    (hdb : (x == ("__debug__" : Str)) = false := by decide) (he : starEach (e :: es) X.env = (false, eval e X.env) :: starEach es X.env := by rfl) (hpl : (backTo pos (starEach es X.env)).any (·.1) = false := by rfl) :
    PEx X (.Call (.Name x p) (e :: es) [] pos) (fun σ H Q E => t σ H fun vs H1 => sp (vs ++ dvs) H1 Q E) := by
  obtain ⟨f, fd, ds, h1, h2, h3, h4, h5⟩ := F.ex
  exact px_call h1 hr hg h2 h3 h4 h5 ha hdb he hpl
end

/-! ### arithmetic, of any size -/
section
variable {X : Cx}
theorem op_mulB : OpR X (binaryOp .Mult) (rI (fun i j => IntMulOk i j) fun i j => .int (i * j)) := opI fun _ _ _ _ _ _ _ hc q => mul_int q hc
def CFd (_ j : Int) : Prop := 0 < j ∧ j.natAbs.log2 < 9000
def CFdN (_ j : Int) : Prop := j ≠ 0 ∧ j.natAbs.log2 < 9000
theorem op_fdivP : OpR X (binaryOp .FloorDiv) (rI CFd fun i j => .int (i / j)) := opI fun i j _ _ _ _ _ hc q => by
  obtain ⟨h1, h2⟩ := hc
  refine floordiv_int (by omega) ?_ (.inl (PyProof.noPylong_of_log2 h2))
  rw [Int.fdiv_eq_ediv_of_nonneg i (by omega)]
  exact q
theorem op_fdivG : OpR X (binaryOp .FloorDiv) (rI CFdN fun i j => .int (i.fdiv j)) := opI fun _ _ _ _ _ _ _ hc q => floordiv_int hc.1 q (.inl (PyProof.noPylong_of_log2 hc.2))
end
theorem mulOk_of {a b : Int} {m n : Nat} (ha : a.natAbs < 2 ^ m) (hb : b.natAbs < 2 ^ n) (h : m + n ≤ 134217728) : IntMulOk a b := PySem.IntMulOk.of_le (intBits_le_iff.mpr ha) (intBits_le_iff.mpr hb) h

/-! ### isinstance -/
/-- a class as it is handed to isinstance -/
def clsV : V → Option Value
  | .ref C => some (.ref C)
  | .ty n => some (.type n)
  | _ => none
theorem clsV_rel {c : V} {u cv : Value} (r : RelV c u) (h : clsV c = some cv) : u = cv := by
  cases c with
  | ref C => cases h; exact r
  | ty n => cases h; exact r
  | _ => cases h
theorem clsVs_rel : ∀ {its : List V} {us cs : List Value}, Vals its us → its.map clsV = cs.map some → us = cs
  | _, _, [], .nil, _ => rfl
  | _, _, _ :: _, .nil, hc => by simp at hc
  | _, _, [], .cons _ _, hc => by simp at hc
  | _, _, c :: cs, .cons q r, hc => by
    simp only [List.map_cons, List.cons.injEq] at hc
    rw [clsV_rel q hc.1, clsVs_rel r hc.2]
/-- the type of a value: as TyOf, exceptions and everything else among them -/
inductive TyX (K : PySem.W.Frag) (H : Hp) (x : V) (t : Value) : Prop where
  | of (h : TyOf K H x t)
  | exc {a C : Addr} (hx : x = .ref a) (ht : t = .ref C) (e : H a = some (ExcO a C)) (c : ExcCls K C)
section
variable {X : Cx} {pins : List (Addr × Obj)} {σ : St} {H : Hp} {s : Shared} {A : Around} {E : Value → Shared → Prop} {Q : Value → Shared → Prop} {c : Value} {b : Bool}
theorem isinstX {x : V} {u t : Value} (I : Inv X pins σ H s) (rx : RelV x u) (ty : TyX X.K H x t) (e : PySem.W.kitOne X.K t c = some b) (h : ∀ tk, Q (.bool b) { s with toks := tk }) :
    wpAny (model X.prog X.w) A (call (.builtin "isinstance") [u, c]) Q E s := by
  cases ty with
  | of ty => exact isinst_ok I rx ty e h
  | @exc a C hx ht ea c =>
    subst hx ht
    cases (show u = Value.ref a from rx)
    obtain ⟨p, _⟩ := (show ObjOk X.prog X.w H s.heap a (ExcO a C) from I.hok a _ ea)
    exact PySem.W.kia_one (kitx_exc c) I.kIn p e (fun z => nomatch z) h
/-- isinstance(x, (C, D, ..)) of an exception -/
theorem isinstT {a C : Addr} {tp : Addr} {its : List V} {cs : List Value} (I : Inv X pins σ H s) (ea : H a = some (ExcO a C)) (cc : ExcCls X.K C) (ht : H tp = some (.tup its)) (hc : its.map clsV = cs.map some) (e : PySem.W.kitAny X.K (.ref C) cs = some b)
    (h : ∀ tk, Q (.bool b) { s with toks := tk }) : wpAny (model X.prog X.w) A (call (.builtin "isinstance") [.ref a, .ref tp]) Q E s := by
  obtain ⟨p, _⟩ := (show ObjOk X.prog X.w H s.heap a (ExcO a C) from I.hok a _ ea)
  obtain ⟨_, us, r, o, h1, h2, n, h3⟩ := (show ObjOk X.prog X.w H s.heap tp (.tup its) from I.hok tp _ ht)
  have es : us = cs := clsVs_rel r hc
  subst es
  obtain ⟨oc, od, odt, osl⟩ := o
  cases h2
  cases h3
  exact PySem.W.kia_tup (kitx_exc cc) I.kIn p h1 e (fun z => nomatch z) h
end
section
variable {X : Cx}
/-- isinstance(x, C) -/
def rIsi (K : PySem.W.Frag) : List V → Hp → VK → Prop := fun vs H Q => ∃ x c t cv b, vs = [x, c] ∧ TyX K H x t ∧ clsV c = some cv ∧ PySem.W.kitOne K t cv = some b ∧ Q (.bl b) H
theorem isi_ok {K : PySem.W.Frag} {H : Hp} {x c : V} {t cv : Value} {b : Bool} {Q : VK} (h1 : TyX K H x t) (h2 : clsV c = some cv) (h3 : PySem.W.kitOne K t cv = some b) (q : Q (.bl b) H) : rIsi K [x, c] H Q := ⟨x, c, t, cv, b, rfl, h1, h2, h3, q⟩
theorem call_isi : CallR X (.builtin "isinstance") (rIsi X.K) := by
  intro pins s σ H xs us Q I r h
  obtain ⟨x, c, t, cv, b, rfl, ty, hc, e, q⟩ := h
  obtain ⟨u, u', rfl, r1, r2⟩ := vals2 r
  cases clsV_rel r2 hc
  exact isinstX I r1 ty e fun tk => ⟨.bl b, H, I.tok tk, rfl, q⟩
/-- isinstance(error, (C, D)) -/
def rIsiT (K : PySem.W.Frag) : List V → Hp → VK → Prop := fun vs H Q => ∃ a C tp its cs b, vs = [.ref a, .ref tp] ∧ H a = some (ExcO a C) ∧ ExcCls K C ∧ H tp = some (.tup its) ∧ its.map clsV = List.map some cs ∧ PySem.W.kitAny K (.ref C) cs = some b ∧ Q (.bl b) H
theorem isiT_ok {K : PySem.W.Frag} {H : Hp} {a C tp : Addr} {its : List V} {cs : List Value} {b : Bool} {Q : VK} (h1 : H a = some (ExcO a C)) (h2 : ExcCls K C) (h3 : H tp = some (.tup its)) (h4 : its.map clsV = List.map some cs) (h5 : PySem.W.kitAny K (.ref C) cs = some b) (q : Q (.bl b) H) :
    rIsiT K [.ref a, .ref tp] H Q := ⟨a, C, tp, its, cs, b, rfl, h1, h2, h3, h4, h5, q⟩
theorem call_isiT : CallR X (.builtin "isinstance") (rIsiT X.K) := by
  intro pins s σ H xs us Q I r h
  obtain ⟨a, C, tp, its, cs, b, rfl, ea, cc, ht, hc, e, q⟩ := h
  obtain ⟨u, u', rfl, r1, r2⟩ := vals2 r
  cases (show u = Value.ref a from r1)
  cases (show u' = Value.ref tp from r2)
  exact isinstT I ea cc ht hc e fun tk => ⟨.bl b, H, I.tok tk, rfl, q⟩
end

/-! ### heaps that only grow -/
theorem same_upd {H : Hp} {p : Addr} {o : HO} (h : H p = none) : Same H (upd H p o) := fun b u e => by rw [upd_ne (ne_of_none e h)]; exact e
end L2

set_option maxHeartbeats 1000000
namespace L2
open PySem PySem.Spec PyProof.Rows

/-! ### [elt for target in iter if ..], nothing raised in it -/
/-- a comprehension's loop, whatever its target -/
theorem compLoop_any {prog : Program} {w : World} {A : Around} {R : Result → Shared → Prop} {s : Shared} {elt target iter : Expr} {ifs : List Expr} {scope : Scope} {pos : Pos} {it acc : Value} {env : Env} (I : Nat → Shared → Prop)
    (turn : ∀ n s, I n s → wpAny (model prog w) A (pyNext it) (fun r s₁ => match r with
      | none => R (.ok .next) s₁
      | some v => wpAny (model prog w) A (letOwnedTupleGo target it v) (fun _ s₁ => wpAny (model prog w) A (assign target env v) (fun _ s₂ =>
          wpAny (model prog w) A (forIn ifs true fun c r => if r = true then do let ok ← isTrue c env (eval c env); pure (ForInStep.yield ok) else pure (ForInStep.yield r)) (fun ok s₃ =>
            if ok = true then wpAny (model prog w) A (eval elt env) (fun x s₄ =>
              wpAny (model prog w) A (call (.builtin "list.append") [acc, x]) (fun _ s₅ => ∃ m, m < n ∧ I m s₅) (fun _ _ => False) s₄) (fun _ _ => False) s₃
            else ∃ m, m < n ∧ I m s₃) (fun _ _ => False) s₂) (fun _ _ => False) s₁) (fun _ _ => False) s₁) (fun _ _ => False) s)
    (n : Nat) (h : I n s) :
    codeAny (model prog w) A (.compLoop (.ListComp elt [⟨target, iter, ifs, 0⟩] scope pos) 0 it acc env) R s := by
  refine codeAny_loop rfl I (fun n s hI => ?_) n h
  show wpAny _ A ((compTurn (.ListComp elt [⟨target, iter, ifs, 0⟩] scope pos) 0 it acc env).onRaise (fun x => do noteFrame x env; theTreesLotGoes x)) _ _ s
  refine wpAny_noted ?_
  rw [compTurn_list]
  refine wpAny_bind (wpAny_standAt (wpAny_bind (wpAny_mono (turn n s hI) (fun r s₁ h₁ => ?_) fun _ _ h' => False.elim h')))
  cases r with
  | none => exact wpAny_pure h₁
  | some v =>
    refine wpAny_bind (wpAny_mono h₁ (fun _ s₁ h₁ => ?_) fun _ _ h' => False.elim h')
    refine wpAny_bind (wpAny_mono h₁ (fun _ s₂ h₂ => wpAny_bind (wpAny_mono h₂ (fun ok s₃ h₃ => ?_) fun _ _ h' => False.elim h')) fun _ _ h' => False.elim h')
    cases ok with
    | false => exact wpAny_pure ⟨rfl, h₃⟩
    | true =>
      exact wpAny_bind (wpAny_bind (wpAny_mono h₃ (fun x s₄ h₄ => wpAny_bind (wpAny_mono h₄ (fun _ s₅ h₅ => wpAny_pure (wpAny_pure ⟨rfl, h₅⟩)) fun _ _ h' => False.elim h')) fun _ _ h' => False.elim h'))

/-- the cells that a comprehension's block takes along -/
def clOf (scope : Scope) (env : Env) : List (Str × Addr) := ((scope.names.filter fun y => y.2 == .free).filterMap fun y => (env.cells.lookup y.1).map fun c => (y.1, c)).reverse
theorem lookup_some_mem {α : Type} {l : List (Str × α)} {x : Str} {c : α} (h : l.lookup x = some c) : (x, c) ∈ l := PySem.mem_of_lookup h
theorem clOf_get {scope : Scope} {env : Env} {x : Str} {c : Addr} (h : (clOf scope env).lookup x = some c) : env.cells.lookup x = some c := by
  have m := lookup_some_mem h
  unfold clOf at m
  rw [List.mem_reverse] at m
  obtain ⟨y, _, e⟩ := List.mem_filterMap.mp m
  obtain ⟨c', e1, e2⟩ := Option.map_eq_some_iff.mp e
  cases e2
  exact e1
theorem lookup_of_mem {α : Type} : ∀ {l : List (Str × α)} {x : Str} {c : α}, (x, c) ∈ l → ∃ c', l.lookup x = some c'
  | [], _, _, h => nomatch h
  | (y, d) :: r, x, c, h => by
    by_cases e : x = y
    · subst e
      exact ⟨d, by simp [List.lookup]⟩
    · have hb : (x == y) = false := beq_eq_false_iff_ne.mpr e
      rcases List.mem_cons.mp h with q | q
      · cases q
        exact absurd rfl e
      · obtain ⟨c', hc⟩ := lookup_of_mem q
        exact ⟨c', by simp only [List.lookup, hb]; exact hc⟩
theorem clOf_has {scope : Scope} {env : Env} {x : Str} {c : Addr} (hm : (x, NameKind.free) ∈ scope.names) (hc : env.cells.lookup x = some c) : (clOf scope env).lookup x = some c := by
  have m : (x, c) ∈ clOf scope env := by
    unfold clOf
    rw [List.mem_reverse]
    exact List.mem_filterMap.mpr ⟨(x, .free), List.mem_filter.mpr ⟨hm, rfl⟩, by rw [hc]; rfl⟩
  obtain ⟨c', h⟩ := lookup_of_mem m
  have z := clOf_get h
  rw [hc] at z
  cases z
  exact h
theorem relabel_free {env : Env} : ∀ {names : List (Str × NameKind)} {x : Str}, ((names.map fun (n, k) => if (k == NameKind.free && env.scope.kind == .function && env.kindOf n == some .cell) then (n, NameKind.cell) else (n, k)).lookup x = some .cell ∨
    (names.map fun (n, k) => if (k == NameKind.free && env.scope.kind == .function && env.kindOf n == some .cell) then (n, NameKind.cell) else (n, k)).lookup x = some .free) → (∀ y ∈ names, y.2 ≠ .cell) → (x, NameKind.free) ∈ names
  | [], _, h, _ => by simp at h
  | (n, k) :: r, x, h, hc => by
    have ih := @relabel_free env r x
    by_cases hx : x = n
    · subst hx
      by_cases q : (k == NameKind.free && env.scope.kind == .function && env.kindOf x == some .cell) = true
      · have hk : k = .free := by
          simp only [Bool.and_eq_true, beq_iff_eq] at q
          exact q.1.1
        subst hk
        exact .head _
      · rw [List.map_cons] at h
        simp only [q, if_false, List.lookup, beq_self_eq_true, Bool.false_eq_true] at h
        rcases h with h | h
        · cases h
          exact absurd rfl (hc (x, .cell) (.head _))
        · cases h
          exact .head _
    · have hb : (x == n) = false := beq_eq_false_iff_ne.mpr hx
      have e : ∀ kk, (List.map (fun (n, k) => if (k == NameKind.free && env.scope.kind == .function && env.kindOf n == some .cell) then (n, NameKind.cell) else (n, k)) ((n, k) :: r)).lookup x = some kk →
          (List.map (fun (n, k) => if (k == NameKind.free && env.scope.kind == .function && env.kindOf n == some .cell) then (n, NameKind.cell) else (n, k)) r).lookup x = some kk := fun kk z => by
        rw [List.map_cons] at z
        by_cases q : (k == NameKind.free && env.scope.kind == .function && env.kindOf n == some .cell) = true
        · simp only [q, if_true, List.lookup, hb] at z
          exact z
        · simp only [q, if_false, List.lookup, hb, Bool.false_eq_true] at z
          exact z
      exact .tail _ (ih (h.imp (e _) (e _)) fun y hy => hc y (.tail _ hy))

/-- the context of a comprehension's block -/
def cxComp (X : Cx) (Nc : List Str) (scope : Scope) (s : Shared) (H : Hp) (fp : List Addr) : Cx :=
  { X with N := Nc, s₀ := s, H₀ := H, env := compEnvC scope (clOf scope X.env) s.heap.objs.size X.env, outer := X.stack, stack := X.stack, ex := fp, fn := fun _ => false, pn := [], xe := fun _ _ => False }

/-- the block's names: its own, then those of the def's slots cap -/
def capN (N : List Str) (tv : List Str) (cap : List Nat) : List Str := tv ++ cap.map fun j => N.getD j ""
def capS (tv : List Str) (cap : List Nat) (σ : St) : St := (tv.map fun _ => none) ++ cap.map fun j => (σ[j]?).join

/-- what of the text the block must have -/
structure CompOk (X : Cx) (tv : List Str) (cap : List Nat) (scope : Scope) : Prop where
  kind : scope.kind = .function
  cell : ∀ y ∈ scope.names, y.2 ≠ .cell
  names : ∀ y ∈ scope.names, y.2 = .local → scope.names.lookup y.1 = some .local
  clos : closureFor scope X.env = pure (clOf scope X.env)
  free : ∀ y ∈ scope.names, y.2 = .free → X.env.kindOf y.1 = some .cell
  capn : ∀ j ∈ cap, ∃ x, X.N[j]? = some x ∧ (x, NameKind.free) ∈ scope.names ∧ (relabel scope X.env).names.lookup x = some .cell

/-- the same, to be decided over the text -/
def compChk (sc : Scope) (N : List Str) (cap : List Nat) (scope : Scope) : Bool :=
  scope.kind == .function && sc.kind == .function && scope.names.all (fun y => y.2 != .cell && (y.2 != .local || scope.names.lookup y.1 == some .local) && (y.2 != .free || sc.names.lookup y.1 == some .cell)) &&
    cap.all fun j => match N[j]? with
      | some x => scope.names.lookup x == some .free && sc.names.lookup x == some .cell
      | none => false
theorem relabel_cell {env : Env} {x : Str} (hk : (env.scope.kind == .function) = true) (hc : env.kindOf x = some .cell) : ∀ {names : List (Str × NameKind)}, names.lookup x = some .free →
    (names.map fun (n, k) => if (k == NameKind.free && env.scope.kind == .function && env.kindOf n == some .cell) then (n, NameKind.cell) else (n, k)).lookup x = some .cell
  | [], h => by simp at h
  | (n, k) :: r, h => by
    rw [List.map_cons]
    by_cases hx : x = n
    · subst hx
      simp only [List.lookup, beq_self_eq_true] at h
      cases h
      simp [hk, hc, List.lookup]
    · have hb : (x == n) = false := beq_eq_false_iff_ne.mpr hx
      simp only [List.lookup, hb] at h
      have ih := relabel_cell hk hc h
      by_cases q : (k == NameKind.free && env.scope.kind == .function && env.kindOf n == some .cell) = true
      · simp only [q, if_true, List.lookup, hb]
        exact ih
      · simp only [q, if_false, List.lookup, hb, Bool.false_eq_true]
        exact ih
theorem compOk_of {X : Cx} {tv : List Str} {cap : List Nat} {scope : Scope} (sc : Scope) (N : List Str) (h1 : X.env.scope = sc) (h2 : X.N = N) (hb : compChk sc N cap scope = true) (hcl : closureFor scope X.env = pure (clOf scope X.env)) : CompOk X tv cap scope := by
  subst h1 h2
  unfold compChk at hb
  simp only [Bool.and_eq_true, beq_iff_eq, List.all_eq_true, bne_iff_ne, Bool.or_eq_true, ne_eq] at hb
  obtain ⟨⟨⟨k1, k2⟩, h1⟩, h2⟩ := hb
  refine ⟨k1, fun y hy => (h1 y hy).1.1, fun y hy hl => (h1 y hy).1.2.resolve_left fun z => z hl, hcl, fun y hy hf => (h1 y hy).2.resolve_left fun z => z hf, fun j hj => ?_⟩
  have z := h2 j hj
  cases e : X.N[j]? with
  | none => rw [e] at z; exact absurd z (by simp)
  | some x =>
    rw [e] at z
    simp only [Bool.and_eq_true, beq_iff_eq] at z
    exact ⟨x, rfl, lookup_some_mem z.1, relabel_cell (by rw [k2]; rfl) z.2 z.1⟩

section
variable {X : Cx} {pins : List (Addr × Obj)} {σ : St} {H : Hp} {s s₁ : Shared} {tv : List Str} {cap : List Nat} {scope : Scope} {fp : List Addr} {h₁ : Heap}

theorem comp_start (O : CompOk X tv cap scope) (hc : X.calm = true) (I : Inv X pins σ H s) (hf : ∀ b ∈ fp, FpOk X pins H b ∧ b < s.heap.objs.size) (hns : h₁.Ns s.heap.objs.size (fun x => (([] : List (Str × Value)).reverse).lookup x))
    (hsb : ∀ b o, s.heap.get? b = some o → h₁.get? b = some o) (tk : Nat) : Inv (cxComp X (capN X.N tv cap) scope s H fp) [] (capS tv cap σ) H { s with heap := h₁, toks := tk } := by
  have ltC : ∀ b o, s.heap.get? b = some o → b ≠ s.heap.objs.size := fun b o e => Nat.ne_of_lt (Heap.lt_size e)
  have cellIn : ∀ x c, (clOf scope X.env).lookup x = some c → ∃ v, s.heap.IsCell c v := fun x c e => I.cell x c (clOf_get e)
  have ok : (cxComp X (capN X.N tv cap) scope s H fp).Ok := by
    refine ⟨I.ok.mod, O.kind, I.ok.glob, I.ok.blt, Nat.le_refl _, fun x y c h1 h2 => I.ok.inj x y c (clOf_get h1) (clOf_get h2), fun x hx => ?_, fun x c h => (nomatch (show false = true from h)), fun _ => I.ok.hd hc, I.ok.frames, .inl rfl, fun b hb => ?_,
      I.bs, Nat.le_trans I.ok.bsz I.sz, fun b o e hb => ?_, fun b hb hb' => ?_, I.stack, I.stkFree⟩
    · have m : (x, NameKind.free) ∈ scope.names := relabel_free (env := X.env) hx O.cell
      obtain ⟨c, e⟩ := I.ok.has x (.inl (O.free _ m rfl))
      exact ⟨c, clOf_has m e⟩
    · obtain ⟨⟨f0, f1, f2, f3, f4, f5⟩, lt⟩ := hf b hb
      exact ⟨Nat.ne_of_lt lt, fun x c e => f4 x c (clOf_get e)⟩
    · obtain ⟨⟨f0, f1, f2, f3, f4, f5⟩, lt⟩ := hf b hb
      rcases f3 with z | z
      · exact I.ok.noex b o e z
      · have := Nat.lt_of_lt_of_le (Heap.lt_size e) I.ok.bsz
        exact absurd (Nat.lt_of_lt_of_le this z) (Nat.lt_irrefl _)
    · obtain ⟨⟨f0, f1, f2, f3, f4, f5⟩, lt⟩ := hf b hb
      rcases List.mem_cons.mp (I.stkSub b hb') with z | z
      · exact f1 z
      · exact f2 z
  refine ⟨ok, rfl, I.bare, Un.kept hsb, ⟨_, hns, fun i x v e1 e2 e3 => ?_⟩, fun x c e => ?_, ?_, fun x c e => I.freeC x c (clOf_get e), fun p hp => absurd (show p ∈ ([] : List (Addr × Obj)) ++ [] from hp) (by simp), I.hok.kept hsb, ?_⟩
  · -- a name of the def's, by its cell
    have hi : tv.length ≤ i := by
      refine Nat.le_of_not_lt fun q => ?_
      unfold capS at e2
      rw [List.getElem?_append_left (by simpa using q), List.getElem?_map] at e2
      cases z : tv[i]? with
      | none => rw [z] at e2; cases e2
      | some y => rw [z] at e2; cases e2
    have e1' : (cap.map fun j => X.N.getD j "")[i - tv.length]? = some x := by
      have : (capN X.N tv cap)[i]? = some x := e1
      unfold capN at this
      rwa [List.getElem?_append_right hi] at this
    have e2' : (cap.map fun j => (σ[j]?).join)[i - tv.length]? = some (some v) := by
      unfold capS at e2
      rwa [List.getElem?_append_right (by simpa using hi), List.length_map] at e2
    rw [List.getElem?_map] at e1' e2'
    cases q : cap[i - tv.length]? with
    | none => rw [q] at e1'; cases e1'
    | some j =>
      rw [q] at e1' e2'
      obtain ⟨y, hy, hm, hrl⟩ := O.capn j (List.mem_of_getElem? q)
      have ex : y = x := by
        have z : X.N.getD j "" = x := Option.some.inj e1'
        rw [List.getD_eq_getElem?_getD, hy] at z
        exact z
      subst ex
      have ev : σ[j]? = some (some v) := by
        have z : (σ[j]?).join = some v := Option.some.inj e2'
        cases w : σ[j]? with
        | none => rw [w] at z; cases z
        | some u =>
          rw [w] at z
          have z' : u = some v := z
          rw [z']
      obtain ⟨m, hn, hl⟩ := I.loc
      have kc : X.env.kindOf y = some .cell := O.free _ hm rfl
      obtain ⟨u, ru, l⟩ := hl j y v hy ev (.inr (.inl kc))
      refine ⟨u, ru, ?_⟩
      rcases l with ⟨l1, _⟩ | ⟨_, c, l2, l3⟩
      · rw [kc] at l1
        cases l1
      · obtain ⟨o, ho, hd⟩ := l3
        refine .inr ⟨?_, c, clOf_has hm l2, o, hsb c o ho, hd⟩
        rcases e3 with z | z | z
        · exfalso
          have z' : (relabel scope X.env).names.lookup y = some .local := z
          rw [hrl] at z'
          cases z'
        · exact .inl z
        · exact .inr z
  · obtain ⟨v, o, ho, hd⟩ := cellIn x c e
    exact ⟨v, o, hsb c o ho, hd⟩
  · exact I.hok.fresh (Nat.le_refl _)
  · show (capS tv cap σ).length = (capN X.N tv cap).length
    unfold capS capN
    simp

/-- back in the def -/
theorem comp_end {H' : Hp} {s' : Shared} {σ' : St} {h' : Heap} (hf : ∀ b ∈ fp, FpOk X pins H b ∧ b < s.heap.objs.size) (I : Inv X pins σ H s) (J : Inv (cxComp X (capN X.N tv cap) scope s H fp) [] σ' H' s') (hs : Heap.SameBut s.heap.objs.size s'.heap h') :
    Inv X pins σ H' { s' with heap := h' } := by
  have ltC : ∀ b o, s.heap.get? b = some o → b ≠ s.heap.objs.size := fun b o e => Nat.ne_of_lt (Heap.lt_size e)
  have k : ∀ b o, b ≠ s.heap.objs.size → s'.heap.get? b = some o → h'.get? b = some o := fun b o hb e => (hs.2 b hb).trans e
  have nC : ∀ b u, H' b = some u → b ≠ s.heap.objs.size := fun b u q => ne_of_none q J.free
  have u : Un (frs X.stack) fp H H' s.heap h' := by
    have B := J.base
    refine ⟨fun b o e n hb hx => k b o (ltC b o e) (B.keep b o e n hb hx), fun b o e n hb hx => ?_, B.free, fun b o e hx => ?_, B.tups, B.frzs, B.tbls⟩
    · obtain ⟨sl, q⟩ := B.slot b o e n hb hx
      exact ⟨sl, k b _ (ltC b o e) q⟩
    · obtain ⟨o', q⟩ := B.there b o e hx
      exact ⟨o', k b o' (ltC b o e) q⟩
  refine I.call' (ch := fp) J.os u (fun b o q => ?_) J.bare fun b hb => ?_
  · refine (J.hok b o q).stay (fun c v hc r => k c v ?_ r) (fun _ r => r) fun _ _ r => r
    rcases hc with rfl | hc
    · exact nC _ o q
    · exact nC c _ hc
  · obtain ⟨⟨f0, f1, f2, f3, f4, f5⟩, lt⟩ := hf b hb
    exact ⟨f3, f1, f4, f5⟩
end
/-- tests: none, or one -/
def PTs (X : Cx) (ifs : List Expr) (t : TT) : Prop := (ifs = [] ∧ t = fun _ H Q => Q true H) ∨ ∃ c, ifs = [c] ∧ PT X c t
theorem pts_nil {X : Cx} : PTs X [] (fun _ H Q => Q true H) := .inl ⟨rfl, rfl⟩
/-- W: turn, measure, what is listed so far, the block's names, the heap -/
def CompW (J : It) (D : Addr) (g : TG) (tc : TT) (te : TE) (σ0 : St) (H1 : Hp) (Q : VK) : Prop := ∃ W : Nat → Nat → List V → St → Hp → Prop, (∃ m, W 0 m [] σ0 (upd H1 D (.lst []))) ∧
  ∀ i m ys σ H, W i m ys σ H → H D = some (.lst ys) ∧ ((J.stop i H ∧ Q (.ref D) H) ∨ (J.go i H ∧ ys.length < sizeLine ∧ ∃ N : List V → St → Hp → Prop, (∀ ys' σ' H', N ys' σ' H' → ∃ m', m' < m ∧ W (i + 1) m' ys' σ' H') ∧
    ∀ x H', J.yld i H x H' → g x σ H' fun σ2 H2 => tc σ2 H2 fun b H3 => if b = true then te σ2 H3 fun y H4 => H4 D = some (.lst ys) ∧ N (ys ++ [y]) σ2 (upd H4 D (.lst (ys ++ [y]))) else N ys σ2 H3))
def tComp (tv : List Str) (cap : List Nat) (wi : TI) (g : TG) (tc : TT) (te : TE) : TE := fun σ H Q => wi σ H fun J H1 => ∀ D, H1 D = none → CompW J D g tc te (capS tv cap σ) H1 Q

theorem comp_block {X : Cx} {elt tg iter : Expr} {ifs : List Expr} {scope : Scope} {pos : Pos} {tv : List Str} {cap : List Nat} {g : TG} {tc : TT} {te : TE} (O : CompOk X tv cap scope) (hc : X.calm = true)
    (hg : ∀ s H fp, PG (cxComp X (capN X.N tv cap) scope s H fp) tg g) (ht : ∀ s H fp, PTs (cxComp X (capN X.N tv cap) scope s H fp) ifs tc) (he : ∀ s H fp, PE (cxComp X (capN X.N tv cap) scope s H fp) elt te)
    {pins : List (Addr × Obj)} {σ : St} {H2 : Hp} {s2 : Shared} {it : Addr} {fp : List Addr} {tn : Nat → Heap → Prop} {J : It} {Q : VK} {RR : Value → Addr → Result → Shared → Prop} {EE : Value → Shared → Prop} (I2 : Inv X pins σ H2 s2) (T : Turn X.prog X.w X.K tg J fp it tn) (st2 : tn 0 s2.heap) (f2 : ∀ b ∈ fp, FpOk X pins H2 b)
    (hW : ∀ D, H2 D = none → CompW J D g tc te (capS tv cap σ) H2 Q)
    (hRR : ∀ D C s6 H6, (∃ m, s6.heap.Ns C m) → H6 C = none → s2.heap.objs.size ≤ C → (∀ h', Heap.SameBut C s6.heap h' → Inv X pins σ H6 { s6 with heap := h' }) → Q (.ref D) H6 → RR (.ref D) C (.ok .next) s6) :
    wpAny (model X.prog X.w) X.A (newList []) (fun acc s₃ => wpAny (model X.prog X.w) X.A (newFunctionEnv scope X.env.globals (clOf scope X.env) [] X.env.qual none .none (some X.env)) (fun cenv s₄ =>
      codeAny (model X.prog X.w) X.A (.compStart (.ListComp elt [⟨tg, iter, ifs, 0⟩] scope pos) 0 (.ref it) acc { cenv with scope := relabel scope X.env }) (RR acc cenv.locals) s₄) EE s₃) EE s2 := by
  have hD : H2 s2.heap.objs.size = none := I2.hok.fresh (Nat.le_refl _)
  obtain ⟨W, ⟨m0, w0⟩, turn⟩ := hW s2.heap.objs.size hD
  refine wpAny_newObj_type (wpAny_newFunctionEnv O.cell (by intro y hy; simp at hy) (fun h₁ hns₁ hsb₁ => ?_) O.kind)
  have I3 : Inv X pins σ (upd H2 s2.heap.objs.size (.lst [])) { s2 with heap := s2.heap.push { cls := .type "list", dict := none, data := .seq ([] : List Value).toArray } } :=
    I2.laid (t' := s2.toks) (fun b u q => Heap.get?_push_of_some _ q) (Nat.le_refl _) ⟨Nat.zero_le _, [], 0, .nil, Heap.get?_push_size _ rfl⟩
  have lt2 : ∀ b ∈ fp, b < s2.heap.objs.size := fun b hb => by
    obtain ⟨o, ho, _⟩ := T.obj 0 _ st2 b hb
    exact Heap.lt_size ho
  have sz3 : (s2.heap.push { cls := .type "list", dict := none, data := .seq ([] : List Value).toArray }).objs.size = s2.heap.objs.size + 1 := Heap.size_push _ _
  have f3 : ∀ b ∈ fp, FpOk X pins (upd H2 s2.heap.objs.size (.lst [])) b ∧ b < (s2.heap.push { cls := .type "list", dict := none, data := .seq ([] : List Value).toArray }).objs.size := fun b hb => by
    obtain ⟨g0, g1⟩ := f2 b hb
    refine ⟨⟨?_, g1⟩, ?_⟩
    · rw [upd_ne (Nat.ne_of_lt (lt2 b hb))]
      exact g0
    · rw [sz3]
      exact Nat.lt_succ_of_lt (lt2 b hb)
  have old : ∀ b o, (s2.heap.push { cls := .type "list", dict := none, data := .seq ([] : List Value).toArray }).get? b = some o → h₁.get? b = some o := fun b o e =>
    hsb₁.extBut b o (Nat.ne_of_lt (Heap.lt_size e)) (Heap.get?_push_of_some _ e)
  have J4 := comp_start (tv := tv) (cap := cap) O hc I3 f3 hns₁ old (s2.toks + ([] : List (Str × Value)).length)
  -- what stays true of the iterator's objects
  have stat : ∀ {H' : Hp}, (∀ b ∈ fp, H' b = none) → ∀ b ∈ fp, FpOk (cxComp X (capN X.N tv cap) scope { s2 with heap := s2.heap.push { cls := .type "list", dict := none, data := .seq ([] : List Value).toArray } } (upd H2 s2.heap.objs.size (.lst [])) fp) [] H' b := fun {H'} hn b hb => by
    obtain ⟨⟨g0, g1, g2, g3, g4, g5⟩, lt⟩ := f3 b hb
    refine ⟨hn b hb, Nat.ne_of_lt lt, fun z => ?_, .inl hb, fun x c e => g4 x c (clOf_get e), fun p hp => absurd (show p ∈ ([] : List (Addr × Obj)) ++ [] from hp) (by simp)⟩
    rcases List.mem_cons.mp (I3.stkSub b z) with q | q
    · exact g1 q
    · exact g2 q
  have st4 : tn 0 h₁ := T.keep 0 _ _ st2 fun b hb o e => old b o (Heap.get?_push_of_some _ e)
  have loop : ∀ s4 : Shared, s4 = { s2 with heap := h₁, toks := s2.toks + ([] : List (Str × Value)).length } →
      codeAny (model X.prog X.w) X.A (.compLoop (.ListComp elt [⟨tg, iter, ifs, 0⟩] scope pos) 0 (.ref it) (.ref s2.heap.objs.size) (compEnvC scope (clOf scope X.env) (s2.heap.push { cls := .type "list", dict := none, data := .seq ([] : List Value).toArray }).objs.size X.env))
        (RR (.ref s2.heap.objs.size) (s2.heap.push { cls := .type "list", dict := none, data := .seq ([] : List Value).toArray }).objs.size) s4 := by
    rintro s4 rfl
    refine compLoop_any (fun n s' => ∃ i ys σ' H', Inv (cxComp X (capN X.N tv cap) scope { s2 with heap := s2.heap.push { cls := .type "list", dict := none, data := .seq ([] : List Value).toArray } } (upd H2 s2.heap.objs.size (.lst [])) fp) [] σ' H' s' ∧ tn i s'.heap ∧ (∀ b ∈ fp, H' b = none) ∧ W i n ys σ' H') ?_ m0
      ⟨0, [], _, _, J4, st4, fun b hb => (f3 b hb).1.1, w0⟩
    rintro n s5 ⟨i, ys, σ5, H5, I5, st5, fr5, w5⟩
    obtain ⟨hl5, hgo⟩ := turn i n ys σ5 H5 w5
    rcases hgo with ⟨stop, qn⟩ | ⟨go, hlen, N, hN, step⟩
    · refine thn (T.done (cxComp X (capN X.N tv cap) scope { s2 with heap := s2.heap.push { cls := .type "list", dict := none, data := .seq ([] : List Value).toArray } } (upd H2 s2.heap.objs.size (.lst [])) fp) rfl rfl rfl hc i [] s5 σ5 H5 _ I5 (stat fr5) st5 stop) fun r s6 ⟨hr, I6⟩ => ?_
      subst hr
      obtain ⟨m, hn, _⟩ := id I6.loc
      exact hRR _ _ s6 H5 ⟨m, hn⟩ I6.free (Nat.le_of_lt (by rw [sz3]; exact Nat.lt_succ_of_le (Nat.le_refl _))) (fun h' hs' => comp_end f3 I3 I6 hs') qn
    · refine thn (T.item (cxComp X (capN X.N tv cap) scope { s2 with heap := s2.heap.push { cls := .type "list", dict := none, data := .seq ([] : List Value).toArray } } (upd H2 s2.heap.objs.size (.lst [])) fp) rfl rfl rfl hc i [] s5 σ5 H5 _ I5 (stat fr5) st5 go) fun r s6 ⟨u, hr, h6⟩ => ?_
      subst hr
      refine thn h6 fun _ s7 ⟨x, H7, I7, r7, y7, st7, fr7⟩ => ?_
      have I7' := I7.pinned (stat fr7) (T.obj _ _ st7)
      refine thn (hg _ _ _ _ s7 σ5 H7 x u _ I7' r7 (step x H7 y7)) fun _ s8 ⟨σ8, H8, I8, q8⟩ => ?_
      have again : ∀ {ys9 : List V} {H9 : Hp} {s9 : Shared}, Inv (cxComp X (capN X.N tv cap) scope { s2 with heap := s2.heap.push { cls := .type "list", dict := none, data := .seq ([] : List Value).toArray } } (upd H2 s2.heap.objs.size (.lst [])) fp) ([] ++ pinsAt fp s7.heap) σ8 H9 s9 → N ys9 σ8 H9 →
          ∃ m, m < n ∧ ∃ i ys σ' H', Inv (cxComp X (capN X.N tv cap) scope { s2 with heap := s2.heap.push { cls := .type "list", dict := none, data := .seq ([] : List Value).toArray } } (upd H2 s2.heap.objs.size (.lst [])) fp) [] σ' H' s9 ∧ tn i s9.heap ∧ (∀ b ∈ fp, H' b = none) ∧ W i m ys σ' H' := fun {ys9 H9 s9} I9 n9 => by
        obtain ⟨m', hm, w9⟩ := hN ys9 σ8 H9 n9
        refine ⟨m', hm, i + 1, ys9, σ8, H9, I9.unpinned, T.keep _ _ _ st7 fun b hb o e => (I9.pin (b, o) (List.mem_append_right _ (List.mem_append_right _ (mem_pinsAt hb e)))).1, fun b hb => ?_, w9⟩
        obtain ⟨o, e, d⟩ := T.obj _ _ st7 b hb
        exact (I9.pin (b, o) (List.mem_append_right _ (List.mem_append_right _ (mem_pinsAt hb e)))).2.1
      have elem : ∀ {H9 : Hp} {s9 : Shared}, Inv (cxComp X (capN X.N tv cap) scope { s2 with heap := s2.heap.push { cls := .type "list", dict := none, data := .seq ([] : List Value).toArray } } (upd H2 s2.heap.objs.size (.lst [])) fp) ([] ++ pinsAt fp s7.heap) σ8 H9 s9 →
          te σ8 H9 (fun y H4 => H4 s2.heap.objs.size = some (.lst ys) ∧ N (ys ++ [y]) σ8 (upd H4 s2.heap.objs.size (.lst (ys ++ [y])))) →
          wpAny (model X.prog X.w) X.A (eval elt (compEnvC scope (clOf scope X.env) (s2.heap.push { cls := .type "list", dict := none, data := .seq ([] : List Value).toArray }).objs.size X.env)) (fun x s₄ =>
              wpAny (model X.prog X.w) X.A (call (.builtin "list.append") [.ref s2.heap.objs.size, x]) (fun _ s₅ => ∃ m, m < n ∧ ∃ i ys σ' H', Inv (cxComp X (capN X.N tv cap) scope { s2 with heap := s2.heap.push { cls := .type "list", dict := none, data := .seq ([] : List Value).toArray } } (upd H2 s2.heap.objs.size (.lst [])) fp) [] σ' H' s₅ ∧ tn i s₅.heap ∧ (∀ b ∈ fp, H' b = none) ∧ W i m ys σ' H') (fun _ _ => False) s₄) (fun _ _ => False) s9 := fun {H9 s9} I9 q9 => by
        refine thn (he _ _ _ _ s9 σ8 H9 _ I9 q9) fun y s10 ⟨yv, H10, I10, r10, hl10, n10⟩ => ?_
        refine thn (mt_append (X := cxComp X (capN X.N tv cap) scope { s2 with heap := s2.heap.push { cls := .type "list", dict := none, data := .seq ([] : List Value).toArray } } (upd H2 s2.heap.objs.size (.lst [])) fp) _ s10 σ8 H10 (.ref s2.heap.objs.size) [yv] (.ref s2.heap.objs.size) [y]
          (fun _ H11 => N (ys ++ [yv]) σ8 H11) I10 rfl (.cons r10 .nil) ⟨_, ys, yv, rfl, rfl, hl10, hlen, n10⟩) fun _ s11 ⟨v11, H11, I11, _, n11⟩ => ?_
        exact again I11 n11
      rcases ht { s2 with heap := s2.heap.push { cls := .type "list", dict := none, data := .seq ([] : List Value).toArray } } (upd H2 s2.heap.objs.size (.lst [])) fp with ⟨e1, e2⟩ | ⟨c, e1, hpt⟩
      · subst e1 e2
        refine wpAny_tests_nil ?_
        rw [if_pos rfl]
        have q8' : (if (true : Bool) = true then te σ8 H8 (fun y H4 => H4 s2.heap.objs.size = some (.lst ys) ∧ N (ys ++ [y]) σ8 (upd H4 s2.heap.objs.size (.lst (ys ++ [y])))) else N ys σ8 H8) := q8
        rw [if_pos rfl] at q8'
        exact elem I8 q8'
      · subst e1
        refine wpAny_tests_one (thn (hpt _ s8 σ8 H8 _ I8 q8) fun b s9 ⟨H9, I9, q9⟩ => ?_)
        cases b with
        | true =>
          rw [if_pos rfl] at q9 ⊢
          exact elem I9 q9
        | false =>
          rw [if_neg (by decide)] at q9 ⊢
          exact again I9 q9
  exact codeAny_compStart_list (loop _ rfl) (T.self X.A 0 _ _ _ st4 (loop _ rfl))

theorem pe_comp {X : Cx} {elt tg iter : Expr} {ifs : List Expr} {scope : Scope} {pos : Pos} {tv : List Str} {cap : List Nat} {wi : TI} {g : TG} {tc : TT} {te : TE} (O : CompOk X tv cap scope) (hc : X.calm = true) (hi : PI X tg iter wi)
    (hg : ∀ s H fp, PG (cxComp X (capN X.N tv cap) scope s H fp) tg g) (ht : ∀ s H fp, PTs (cxComp X (capN X.N tv cap) scope s H fp) ifs tc) (he : ∀ s H fp, PE (cxComp X (capN X.N tv cap) scope s H fp) elt te)
    (hs : ∀ x, foldedSetIterable iter X.env x = pure x := by intro _; rfl) : PE X (.ListComp elt [⟨tg, iter, ifs, 0⟩] scope pos) (tComp tv cap wi g tc te) := by
  intro pins s σ H Q I h
  rw [eval_ListComp]
  refine wpAny_comprehension_free (use := none) rfl hs O.clos O.kind O.names (thn (hi pins s σ H _ I h) fun v s1 h1 => thn h1 fun itv s2 h2 => ?_)
  obtain ⟨it, fp, tn, J, H2, e, I2, T, st2, f2, hW⟩ := h2
  subst e
  refine comp_block (RR := fun acc C => compPost (model X.prog X.w) X.A X.xe none (EP X pins σ Q) acc C) O hc hg ht he I2 T st2 f2 hW fun D C s6 H6 hn _ _ hI hq => ?_
  obtain ⟨m, hn⟩ := hn
  exact ⟨m, hn, fun h' hs' => ⟨.ref D, H6, hI h' hs', rfl, hq⟩⟩

end L2

set_option maxHeartbeats 1000000
namespace L2
open PySem PySem.Spec PyProof.Rows

/-- a comprehension with one name, over n items that are known ahead; Pv: turn, what is listed, the heap -/
theorem comp_by {J : It} {D : Addr} {n : Nat} {xs : Nat → V} {c : List (Option V)} {tc : TT} {te : TE} {Q : VK} {v0 : Option V} {H1 : Hp} (Pv : Nat → List V → Hp → Prop) (hn : n < sizeLine) (h0 : Pv 0 [] (upd H1 D (.lst [])))
    (hl : ∀ i ys H, Pv i ys H → H D = some (.lst ys) ∧ ys.length ≤ i) (hJ : ∀ i ys H, i < n → Pv i ys H → J.go i H ∧ ∀ x H', J.yld i H x H' → H' = H ∧ x = xs i) (hJ2 : ∀ ys H, Pv n ys H → J.stop n H)
    (hs : ∀ i ys H (N : List V → Hp → Prop), i < n → Pv i ys H → (∀ ys' H', Pv (i + 1) ys' H' → N ys' H') → tc (some (xs i) :: c) H fun b H3 => if b = true then te (some (xs i) :: c) H3 fun y H4 => H4 D = some (.lst ys) ∧ N (ys ++ [y]) (upd H4 D (.lst (ys ++ [y]))) else N ys H3)
    (hd : ∀ ys H, Pv n ys H → Q (.ref D) H) :
    CompW J D (gName 0) tc te (v0 :: c) H1 Q := by
  refine ⟨fun i m ys σ H => m = n - i ∧ i ≤ n ∧ Pv i ys H ∧ ∃ v, σ = v :: c, ⟨n, rfl, Nat.zero_le _, h0, v0, rfl⟩, ?_⟩
  rintro i m ys σ H ⟨rfl, hi, p, v, rfl⟩
  obtain ⟨q1, q2⟩ := hl i ys H p
  refine ⟨q1, ?_⟩
  by_cases hlt : i < n
  · obtain ⟨g1, g2⟩ := hJ i ys H hlt p
    refine .inr ⟨g1, by omega, fun ys' σ' H' => Pv (i + 1) ys' H' ∧ ∃ v, σ' = v :: c, fun ys' σ' H' ⟨p', v', e'⟩ => ⟨n - (i + 1), by omega, rfl, hlt, p', v', e'⟩, fun x H' y => ?_⟩
    obtain ⟨e1, e2⟩ := g2 x H' y
    subst e1 e2
    exact hs i ys H' (fun ys' H'' => Pv (i + 1) ys' H'' ∧ ∃ v, (some (xs i) :: c) = v :: c) hlt p fun ys' H'' p' => ⟨p', _, rfl⟩
  · have e : i = n := by omega
    subst e
    exact .inl ⟨hJ2 ys H p, hd ys H p⟩
/-- over a list -/
theorem comp_list {K : PySem.W.Frag} {a D : Addr} {xs : List V} {c : List (Option V)} {tc : TT} {te : TE} {Q : VK} {v0 : Option V} {H1 : Hp} (Pv : Nat → List V → Hp → Prop) (hn : xs.length < sizeLine) (h0 : Pv 0 [] (upd H1 D (.lst [])))
    (hl : ∀ i ys H, Pv i ys H → H D = some (.lst ys) ∧ ys.length ≤ i) (ha : ∀ i ys H, i ≤ xs.length → Pv i ys H → SqL K H a xs)
    (hs : ∀ i x ys H (N : List V → Hp → Prop), xs[i]? = some x → Pv i ys H → (∀ ys' H', Pv (i + 1) ys' H' → N ys' H') → tc (some x :: c) H fun b H3 => if b = true then te (some x :: c) H3 fun y H4 => H4 D = some (.lst ys) ∧ N (ys ++ [y]) (upd H4 D (.lst (ys ++ [y]))) else N ys H3)
    (hd : ∀ ys H, Pv xs.length ys H → Q (.ref D) H) :
    CompW (Itl K a) D (gName 0) tc te (v0 :: c) H1 Q := by
  refine comp_by (J := Itl K a) (n := xs.length) (xs := fun i => xs.getD i .non) Pv hn h0 hl (fun i ys H hi p => ?_) (fun ys H p => ⟨xs, ha _ ys H (Nat.le_refl _) p, Nat.le_refl _⟩) (fun i ys H N hi p hN => ?_) hd
  · have q := ha i ys H (Nat.le_of_lt hi) p
    have e : xs[i]? = some (xs.getD i .non) := by rw [List.getD_eq_getElem?_getD, List.getElem?_eq_getElem hi]; rfl
    refine ⟨⟨xs, _, q, e⟩, fun x H' y => ⟨y.1, ?_⟩⟩
    have z := y.2 xs q
    rw [e] at z
    exact (Option.some.inj z).symm
  · have e : xs[i]? = some (xs.getD i .non) := by rw [List.getD_eq_getElem?_getD, List.getElem?_eq_getElem hi]; rfl
    exact hs i _ ys H N e p hN
end L2

set_option maxHeartbeats 1000000
namespace L2
open PySem PySem.Spec PyProof.Rows

/-- while, by a word and a measure; K: what the test is to reach -/
theorem while_k {c : TT} {tb : TS} {D : Ends} {σ : St} {H : Hp} (Pv : St → Hp → Prop) (μ : St → Hp → Nat) (h0 : Pv σ H)
    (hs : ∀ σ H (K : Bool → Hp → Prop), Pv σ H → (∀ H1, tb { D with nx := fun σ' H' => Pv σ' H' ∧ μ σ' H' < μ σ H, ct := fun σ' H' => Pv σ' H' ∧ μ σ' H' < μ σ H, bk := D.nx } σ H1 → K true H1) → (∀ H1, D.nx σ H1 → K false H1) → c σ H K) :
    tWhile c tb D σ H := by
  refine ⟨fun m σ H => m = μ σ H ∧ Pv σ H, ⟨_, rfl, h0⟩, ?_⟩
  rintro m σ H ⟨rfl, p⟩
  refine hs σ H _ p (fun H1 q => ?_) fun H1 q => ?_
  · exact ⟨_, fun σ' H' ⟨p', l⟩ => ⟨_, l, rfl, p'⟩, q⟩
  · exact q

/-- for, the turn's end kept apart -/
def ForW (J : It) (g : TG) (tb : TS) (D : Ends) (σ : St) (H : Hp) : Prop := ∃ W : Nat → Nat → St → Hp → Prop, (∃ m, W 0 m σ H) ∧ ∀ i m σ H, W i m σ H →
  (J.stop i H ∧ D.nx σ H) ∨ (J.go i H ∧ ∃ N : St → Hp → Prop, (∀ σ' H', N σ' H' → ∃ m', m' < m ∧ W (i + 1) m' σ' H') ∧ ∀ x H', J.yld i H x H' → g x σ H' fun σ2 H2 => tb { D with nx := N, ct := N, bk := D.nx } σ2 H2)
theorem for_listN {K : PySem.W.Frag} {a : Addr} {xs : List V} {g : TG} {tb : TS} {D : Ends} {σ : St} {H : Hp} (Pv : Nat → St → Hp → Prop) (h0 : Pv 0 σ H) (hl : ∀ i σ H, i ≤ xs.length → Pv i σ H → SqL K H a xs)
    (hs : ∀ i x σ H (N : St → Hp → Prop), xs[i]? = some x → Pv i σ H → (∀ σ' H', Pv (i + 1) σ' H' → N σ' H') → g x σ H fun σ2 H2 => tb { D with nx := N, ct := N, bk := D.nx } σ2 H2) (hd : ∀ σ H, Pv xs.length σ H → D.nx σ H) : ForW (Itl K a) g tb D σ H :=
  for_list Pv h0 hl (fun i x σ H hx p => hs i x σ H _ hx p fun _ _ z => z) hd
/-! ### readings in plain form -/
theorem scal_int (i j : Int) : scal (.int i) (.int j) = true := rfl
theorem scal_bl (i j : Bool) : scal (.bl i) (.bl j) = true := rfl
theorem scal_str (i j : Str) : scal (.str i) (.str j) = true := rfl
/-- a pair of ints at v -/
def FrAt (H : Hp) (v : V) (a b : Int) : Prop := ∃ p, v = .ref p ∧ H p = some (.tup [.int a, .int b])
theorem FrAt.same {H H' : Hp} {v : V} {a b : Int} (h : FrAt H v a b) (s : Same H H') : FrAt H' v a b := let ⟨p, e, q⟩ := h; ⟨p, e, s p _ q⟩
theorem FrAt.upd {H : Hp} {v : V} {a b : Int} {p : Addr} {o : HO} (h : FrAt H v a b) (hp : H p = none) : FrAt (upd H p o) v a b := h.same (same_upd hp)
theorem ix0 {K : PySem.W.Frag} {H : Hp} {p : Addr} {v : V} {l : List V} {Q : VK} (h : H p = some (.tup (v :: l))) (q : Q v H) : rIxT K (.ref p) (.int 0) H Q :=
  ⟨p, _, 0, v, rfl, rfl, SqT.of h, atI_nat (j := 0) rfl, q⟩
theorem ix1 {K : PySem.W.Frag} {H : Hp} {p : Addr} {u v : V} {l : List V} {Q : VK} (h : H p = some (.tup (u :: v :: l))) (q : Q v H) : rIxT K (.ref p) (.int 1) H Q :=
  ⟨p, _, 1, v, rfl, rfl, SqT.of h, atI_nat (j := 1) rfl, q⟩
theorem fr0 {K : PySem.W.Frag} {H : Hp} {x : V} {a b : Int} {Q : VK} (h : FrAt H x a b) (q : Q (.int a) H) : rIxT K x (.int 0) H Q := by
  obtain ⟨p, rfl, h⟩ := h
  exact ix0 h q
theorem fr1 {K : PySem.W.Frag} {H : Hp} {x : V} {a b : Int} {Q : VK} (h : FrAt H x a b) (q : Q (.int b) H) : rIxT K x (.int 1) H Q := by
  obtain ⟨p, rfl, h⟩ := h
  exact ix1 h q
/-! ### rules whose reading names the written part K alone -/
section
variable {X : Cx} {K : PySem.W.Frag}
theorem isiK (h : X.K = K) : CallR X (.builtin "isinstance") (rIsi K) := h ▸ call_isi
theorem isiTK (h : X.K = K) : CallR X (.builtin "isinstance") (rIsiT K) := h ▸ call_isiT
def rLen (K : PySem.W.Frag) : List V → Hp → VK → Prop := fun xs H Q => ∃ x n, xs = [x] ∧ LenV K x H n ∧ Q (.int n) H
theorem lenK (h : X.K = K) : CallR X (.builtin "len") (rLen K) := h ▸ call_len
theorem len_ok {H : Hp} {x : V} {n : Nat} {Q : VK} (h : LenV K x H n) (q : Q (.int n) H) : rLen K [x] H Q := ⟨x, n, rfl, h, q⟩
theorem ixT (h : X.K = K) : IxR X (rIxT K) := h ▸ ix_tup
theorem ixL (h : X.K = K) : IxR X (rIxL K) := h ▸ ix_list
theorem slL (h : X.K = K) : SlR X (rSlL K) := h ▸ sl_list
theorem pe_fldK {e : Expr} {f : Str} {pos : Pos} {ta : TE} (h : X.K = K) (he : PE X e ta) (hb : attributeBase e f X.env (eval e X.env) = eval e X.env) : PE X (.Attribute e f pos) (tFld K ta f) := h ▸ pe_fld he hb
theorem pi_listK {tg l : Expr} {tl : TE} (h : X.K = K) (hl : PE X l tl) : PI X tg l (iList K tl) := h ▸ pi_list hl
end
theorem ixL_ok {K : PySem.W.Frag} {H : Hp} {p : Addr} {xs : List V} {i : Nat} {v : V} {Q : VK} (h : SqL K H p xs) (hx : xs[i]? = some v) (q : Q v H) : rIxL K (.ref p) (.int i) H Q := ⟨p, xs, i, v, rfl, rfl, h, atI_nat hx, q⟩

/-! ### Python's own names -/
theorem bt_abs : bootBuiltins "abs" = some (.builtin "abs") := by decide +kernel
theorem bt_len : bootBuiltins "len" = some (.builtin "len") := by decide +kernel
theorem bt_isinstance : bootBuiltins "isinstance" = some (.builtin "isinstance") := by decide +kernel
theorem bt_int : bootBuiltins "int" = some (.type "int") := by decide +kernel
theorem bt_bool : bootBuiltins "bool" = some (.type "bool") := by decide +kernel
theorem bt_tuple : bootBuiltins "tuple" = some (.type "tuple") := by decide +kernel
theorem bt_ValueError : bootBuiltins "ValueError" = some (.type "ValueError") := by decide +kernel
theorem bt_str : bootBuiltins "str" = some (.type "str") := by decide +kernel
end L2

set_option maxHeartbeats 400000
namespace FrM
/-- the signed divisor, and what fraction(a, b) tells -/
def sd (a b : Int) : Int := if b < 0 then -(Int.gcd a b : Int) else (Int.gcd a b : Int)
def nt (a b : Int) : Int := a.fdiv (sd a b)
def nb (a b : Int) : Int := b.fdiv (sd a b)
theorem gcd_pos {a b : Int} (h : b ≠ 0) : 0 < Int.gcd a b := Int.gcd_pos_of_ne_zero_right a h
theorem sd_ne {a b : Int} (h : b ≠ 0) : sd a b ≠ 0 := by
  have := @gcd_pos a b h
  unfold sd
  split <;> omega
theorem sd_abs (a b : Int) : (sd a b).natAbs = Int.gcd a b := by
  unfold sd
  split <;> omega
theorem sd_dvd_l (a b : Int) : sd a b ∣ a := by
  unfold sd
  split
  · exact Int.neg_dvd.mpr (Int.gcd_dvd_left a b)
  · exact Int.gcd_dvd_left a b
theorem sd_dvd_r (a b : Int) : sd a b ∣ b := by
  unfold sd
  split
  · exact Int.neg_dvd.mpr (Int.gcd_dvd_right a b)
  · exact Int.gcd_dvd_right a b
theorem fdiv_of {a d : Int} (hd : d ≠ 0) (h : d ∣ a) : a.fdiv d * d = a := Int.fdiv_mul_cancel h
theorem nt_mul {a b : Int} (h : b ≠ 0) : nt a b * sd a b = a := fdiv_of (sd_ne h) (sd_dvd_l a b)
theorem nb_mul {a b : Int} (h : b ≠ 0) : nb a b * sd a b = b := fdiv_of (sd_ne h) (sd_dvd_r a b)
theorem nb_pos {a b : Int} (h : b ≠ 0) : 1 ≤ nb a b := by
  have e := @nb_mul a b h
  have g := @gcd_pos a b h
  by_cases hb : b < 0
  · have hs : sd a b < 0 := by unfold sd; rw [if_pos hb]; omega
    suffices hh : 0 < nb a b by omega
    refine Int.lt_of_not_ge fun q => ?_
    have : 0 ≤ nb a b * sd a b := Int.mul_nonneg_of_nonpos_of_nonpos q (Int.le_of_lt hs)
    omega
  · have hs : 0 < sd a b := by unfold sd; rw [if_neg hb]; omega
    suffices hh : 0 < nb a b by omega
    refine Int.lt_of_not_ge fun q => ?_
    have : nb a b * sd a b ≤ 0 := Int.mul_nonpos_of_nonpos_of_nonneg q (Int.le_of_lt hs)
    omega
theorem gcd_one {a b : Int} (h : b ≠ 0) : Int.gcd (nt a b) (nb a b) = 1 := by
  have e1 := @nt_mul a b h
  have e2 := @nb_mul a b h
  have e : Int.gcd (nt a b * sd a b) (nb a b * sd a b) = Int.gcd (nt a b) (nb a b) * (sd a b).natAbs := Int.gcd_mul_right ..
  rw [e1, e2, sd_abs] at e
  have g := @gcd_pos a b h
  have : 1 * Int.gcd a b = Int.gcd (nt a b) (nb a b) * Int.gcd a b := by rw [Nat.one_mul]; exact e
  exact (Nat.eq_of_mul_eq_mul_right g this).symm
/-- one turn of Euclid -/
theorem gcd_turn {x y : Int} (hx : 0 ≤ x) : Int.gcd y (x % y) = Int.gcd x y := by
  show Nat.gcd y.natAbs (x % y).natAbs = Nat.gcd x.natAbs y.natAbs
  rw [Int.natAbs_emod_of_nonneg hx, Nat.gcd_comm x.natAbs, Nat.gcd_rec y.natAbs x.natAbs, Nat.gcd_comm]
theorem toNat_mod {x y : Int} (hy : 0 < y) : (x % y).toNat < y.toNat := by
  have h1 := Int.emod_nonneg x (Int.ne_of_gt hy)
  have h2 := Int.emod_lt_of_pos x hy
  omega
theorem abs_if (i : Int) : (if i < 0 then -i else i) = (i.natAbs : Int) := by
  split <;> omega
/-- sizes -/
def Sm (n : Nat) (a : Int) : Prop := a.natAbs < 2 ^ n
theorem Sm.mono {m n : Nat} {a : Int} (ha : Sm m a) (h : m ≤ n) : Sm n a := Nat.lt_of_lt_of_le ha (Nat.pow_le_pow_right (by decide) h)
theorem Sm.log2 {n : Nat} {a : Int} (ha : Sm n a) (h : a ≠ 0) : a.natAbs.log2 < n := (Nat.log2_lt (by omega)).mpr ha
theorem gcd_le {a b : Int} (h : b ≠ 0) : Int.gcd a b ≤ b.natAbs := Int.gcd_le_natAbs_right a h
end FrM


set_option maxHeartbeats 1000000

set_option maxHeartbeats 1000000

set_option maxHeartbeats 1000000

set_option maxHeartbeats 1000000

set_option maxHeartbeats 1000000

set_option maxHeartbeats 1000000

set_option maxHeartbeats 1000000

namespace MoM
open FrM
abbrev Fr := Int × Int
set_option genSizeOf false in
/-- a mobile: a weight, or a rod with two arms and a mobile at each end -/
inductive Mo where
  | wt (a : Fr)
  | rod (l : Fr) (x : Mo) (r : Fr) (y : Mo)
abbrev Pl := List Nat
namespace Mo
def places : Mo → List Pl
  | wt _ => [[]]
  | rod _ x _ y => [] :: (x.places.map (108 :: ·) ++ y.places.map (114 :: ·))
def sub : Mo → Pl → Option Mo
  | m, [] => some m
  | wt _, _ :: _ => none
  | rod _ x _ y, c :: p => if c = 108 then x.sub p else if c = 114 then y.sub p else none
def row : Mo → List Fr
  | wt a => [a]
  | rod l _ r _ => [l, r]
def depth : Mo → Nat
  | wt _ => 0
  | rod _ x _ y => max x.depth y.depth + 1
def nw : Mo → Nat
  | wt _ => 1
  | rod _ x _ y => x.nw + y.nw
theorem nw_pos (m : Mo) : 0 < m.nw := by induction m with | wt a => exact Nat.one_pos | rod l x r y hx hy => simp only [nw]; omega
theorem depth_lt (m : Mo) : m.depth < m.nw := by
  induction m with
  | wt a => exact Nat.one_pos
  | rod l x r y hx hy => have := nw_pos x; have := nw_pos y; simp only [depth, nw]; omega
/-- another mobile hung at a place -/
def put : Mo → Pl → Mo → Mo
  | _, [], s => s
  | wt a, _ :: _, _ => wt a
  | rod l x r y, c :: p, s => if c = 108 then rod l (x.put p s) r y else if c = 114 then rod l x r (y.put p s) else rod l x r y
/-- what holds of every row -/
def All (P : Fr → Prop) (A : Fr → Prop) : Mo → Prop
  | wt a => P a
  | rod l x r y => A l ∧ A r ∧ All P A x ∧ All P A y
theorem All.mono {P A P' A' : Fr → Prop} (hp : ∀ a, P a → P' a) (ha : ∀ a, A a → A' a) : ∀ {m : Mo}, m.All P A → m.All P' A'
  | wt a, h => hp a h
  | rod l x r y, h => ⟨ha _ h.1, ha _ h.2.1, All.mono hp ha h.2.2.1, All.mono hp ha h.2.2.2⟩
end Mo
end MoM

namespace MoM
open FrM
/-- the fraction of two numbers, divided as far as can be -/
def low (t b : Int) : Fr := (nt t b, nb t b)
def fplus (x y : Fr) : Fr := low (x.1 * y.2 + y.1 * x.2) (x.2 * y.2)
def Mo.heft : Mo → Fr
  | .wt a => a
  | .rod _ x _ y => fplus x.heft y.heft
theorem nt_pos {a b : Int} (ha : 0 < a) (hb : 0 < b) : 0 < nt a b := by
  have h := nt_mul (a := a) (b := b) (by omega)
  have hs : 0 < sd a b := by
    have := sd_ne (a := a) (b := b) (by omega)
    unfold sd at *
    rw [if_neg (by omega)] at *
    omega
  by_cases h1 : 0 < nt a b
  · exact h1
  · have := Int.mul_le_mul_of_nonneg_right (show nt a b ≤ 0 by omega) (Int.le_of_lt hs)
    omega
theorem low_pos {a b : Int} (ha : 0 < a) (hb : 0 < b) : 0 < (low a b).1 ∧ 0 < (low a b).2 := ⟨nt_pos ha hb, by have := nb_pos (a := a) (b := b) (by omega); show 0 < nb a b; omega⟩
theorem low_dvd {a b : Int} (hb : b ≠ 0) : (low a b).2 ∣ b := ⟨sd a b, (nb_mul hb).symm⟩
theorem low_tdvd {a b : Int} (hb : b ≠ 0) : (low a b).1 ∣ a := ⟨sd a b, (nt_mul hb).symm⟩
theorem low_top {a b : Int} (ha : 0 < a) (hb : 0 < b) : (low a b).1 ≤ a := Int.le_of_dvd ha (low_tdvd (by omega))
theorem low_bot {a b : Int} (hb : 0 < b) : (low a b).2 ≤ b := Int.le_of_dvd hb (low_dvd (by omega))
theorem low_gcd {a b : Int} (hb : b ≠ 0) : Int.gcd (low a b).1 (low a b).2 = 1 := gcd_one hb
theorem small_of {n : Nat} {x : Int} (h0 : 0 < x) (h : x < 2 ^ n) : Sm n x := by
  unfold Sm
  have : ((x.natAbs : Nat) : Int) < ((2 ^ n : Nat) : Int) := by
    rw [Int.natAbs_of_nonneg (Int.le_of_lt h0)]; simpa using h
  exact Int.ofNat_lt.mp this
end MoM

namespace MoM
namespace Mo
/-- the row at a place -/
def rowAt (m : Mo) (p : Pl) : Option (List Fr) := (m.sub p).map row
/-- the weights' places -/
def wplaces (m : Mo) : List Pl := m.places.filter fun p => match m.rowAt p with | some [_] => true | _ => false
end Mo
end MoM

set_option maxHeartbeats 1000000
namespace L2
open PySem PySem.Spec PyProof.Rows
/-! ### fractions and rows of texts, equal or not -/
section
variable {X : Cx} {pins : List (Addr × Obj)} {σ : St} {H : Hp} {s : Shared}
theorem fr_tuple (I : Inv X pins σ H s) {p : Addr} {a b : Int} (h : H p = some (.tup [.int a, .int b])) : ∃ t u, s.heap.IsTuple p #[.int a t, .int b u] := by
  obtain ⟨its, r, pl, _⟩ := I.tuple (SqT.of h)
  cases r with
  | cons r1 r =>
    cases r with
    | cons r2 r =>
      cases r
      obtain ⟨t, rfl⟩ := r1
      obtain ⟨u, rfl⟩ := r2
      exact ⟨t, u, pl⟩
theorem rcn_fr {A : Around} (hu : A.units < cLine) (I : Inv X pins σ H s) {p q : Addr} {a b c d : Int} (hp : H p = some (.tup [.int a, .int b])) (hq : H q = some (.tup [.int c, .int d])) :
    SeqAt.RcNeAt A s (.ref p) (.ref q) (!decide (a = c ∧ b = d)) := by
  obtain ⟨t, u, h1⟩ := fr_tuple I hp
  obtain ⟨t', u', h2⟩ := fr_tuple I hq
  have := SeqAt.RcNeAt.tuples (e := fun j => if j = 0 then a == c else b == d) h1 h2 hu (fun j g1 g2 => by
    match j, g1 with
    | 0, _ => exact SeqAt.EqAt.int_int a t c t'
    | 1, _ => exact SeqAt.EqAt.int_int b u d u')
  have e : ((List.range (min 2 2)).all (fun j => if j = 0 then a == c else b == d) && (2 : Nat) == 2) = decide (a = c ∧ b = d) := by
    rw [show List.range (min 2 2) = [0, 1] from rfl, Bool.eq_iff_iff]
    simp
  rw [← e]; exact this
def rNeF : R2 := fun x y H Q => ∃ a b c d, FrAt H x a b ∧ FrAt H y c d ∧ Q (.bl (!decide (a = c ∧ b = d))) H
theorem op_neF (hu : X.A.units + 1 < cLine) : OpR X (compareOp .NotEq) rNeF := by
  intro pins s σ H x y v u Q I rx ry h
  obtain ⟨a, b, c, d, ⟨p, rfl, hp⟩, ⟨q, rfl, hq⟩, k⟩ := h
  cases rx
  cases ry
  exact rcn_fr (Nat.lt_of_succ_lt hu) I hp hq X.prog X.w X.xe _ (fin_bl I k rfl)
end
/-! ### texts: a part, how they begin, many times -/
section
variable {X : Cx}
def rSlS : V → Option Int → Option Int → Hp → VK → Prop := fun x lo hi H Q => ∃ z, x = .str z ∧ z.length ≤ sizeLine ∧ Q (.str (Txt.slice z lo hi)) H
theorem part_value {v : Value} {lo : Option Int} (h : IsPart v lo) : ∃ l : Option (Int × Tok), v = partValue l ∧ l.map (·.1) = lo := by
  cases h with
  | none => exact ⟨none, rfl, rfl⟩
  | int i t => exact ⟨some (i, t), rfl, rfl⟩
theorem sl_str : SlR X rSlS := by
  intro pins s σ H x v vl vu lo hi sl Q I rx hs pl pu h
  obtain ⟨z, rfl, hz, q⟩ := h
  obtain ⟨t, rfl⟩ := rx
  obtain ⟨l, rfl, rfl⟩ := part_value pl
  obtain ⟨u, rfl, rfl⟩ := part_value pu
  refine ⟨"str", _, PySem.F.slot_str_getitem.lookup, typeIs_str _ _ _, wpAny_getItem_str_slice (l := l) (u := u) (st := none) hs rfl
    (post_val_or_str ⟨Nat.le_trans (Txt.slice_le z _ _) hz, fun t' k => ⟨.str (Txt.slice z (l.map (·.1)) (u.map (·.1))), H, I.tok k, ⟨t', rfl⟩, q⟩⟩)⟩
end
/-! ### sorted of a dict of texts; all of truths -/
section
variable {X : Cx}
end
end L2

set_option maxHeartbeats 1000000
namespace L2
open PySem PySem.Spec PyProof.Rows
/-! ### a method, of one of some classes -/
structure Mth (P : Program) (w : World) (K : PySem.W.Frag) (mg : Str → Option Value) (base : Heap) (C : Addr) (m : Str) (k : Nat) (ps : List Str) (dvs : List V) (sp : Sp) : Prop where
  ex : Cls K C ∧ ∃ (f : Addr) (fd : FuncData) (ds : List Value), Meth K C m f ∧ FnOk P w K mg base (CX1 P w) k f fd ps sp ∧ Binds K fd ps ds ∧ Vals dvs ds
def rDyn (Kd : Addr → Prop) (m : Str) (sp : Addr → Sp) (dvs : List V) (x : V) (H1 : Hp) (R : (List V → Hp → VK → XK → Prop) → Prop) : Prop := ∃ a C dx fs, x = .ref a ∧ Kd C ∧ H1 a = some (.ins C dx fs) ∧ fs.lookup m = none ∧ R fun vs H Q E => sp C (x :: (vs ++ dvs)) H Q E
def tDyn (Kd : Addr → Prop) (m : Str) (sp : Addr → Sp) (dvs : List V) (E : XK) (ta : TE) (t : TA) : TE := fun σ H Q => ta σ H fun x H1 => rDyn Kd m sp dvs x H1 fun S => t σ H1 fun vs H2 => S vs H2 Q E
section
variable {X : Cx} {k : Nat} {ps : List Str} {sp : Addr → Sp} {dvs : List V} {E : XK} {m : Str} {apos pos : Pos} {o e : Expr} {es : List Expr} {ta : TE} {t : TA} {Kd : Addr → Prop}
theorem pe_m {pl : Sem Bool} (M : ∀ C, Kd C → Mth X.prog X.w X.K X.mg X.base C m k ps dvs (sp C)) (hr : Room k X.A) (hx : Passes (CX1 X.prog X.w) X E) (he : PE X o ta) (ha : PA X (e :: es) t)
    (hst : starEach (e :: es) X.env = (false, eval e X.env) :: starEach es X.env := by rfl) (hpl : (backTo pos (starEach es X.env)).any (·.1) = false := by rfl)
    (ht : eval (.Call (.Attribute o m apos) (e :: es) [] pos) X.env = (do
      let ov ← eval o X.env
      standAt apos.atName
      let (f, first) ← holding [ov] (getMethod ov m pl)
      callWith pos f first (backTo pos (starEach (e :: es) X.env)) (backToKw pos (keywordEach [] X.env))) := by rfl) :
    PE X (.Call (.Attribute o m apos) (e :: es) [] pos) (tDyn Kd m sp dvs E ta t) := by
  intro pins s σ H Q I h
  refine PySem.W.methodCall_KW (pl := pl) (thn (he pins s σ H _ I h) fun u s1 ⟨x, H1, I1, rx, a, C, dx, fs, ex, kd, ea, l, q⟩ => ?_) ht
  subst ex
  obtain rfl : u = Value.ref a := rx
  obtain ⟨c, f, fd, ds, hm, F, hb, hd⟩ := (M C kd).ex
  refine getmeth_ok I1 ea c hm l ?_
  refine PySem.W.callWith_K (first := [.ref a]) (h₀ := X.base) I.ok.mod.kin hm.kp (thn (ha pos pins s1 σ H1 _ I1 q) fun us s2 ⟨vs, H2, I2, r, q2⟩ => ⟨I2.kIn, ?_⟩) hst hpl
  exact run_fn (us := .ref a :: us) (vs := .ref a :: vs) F hr hb hd hx I2 (.cons rfl r) q2
theorem pe_m0 {pl : Sem Bool} (M : ∀ C, Kd C → Mth X.prog X.w X.K X.mg X.base C m k ps dvs (sp C)) (hr : Room k X.A) (hx : Passes (CX1 X.prog X.w) X E) (he : PE X o ta)
    (ht : eval (.Call (.Attribute o m apos) [] [] pos) X.env = (do
      let ov ← eval o X.env
      standAt apos.atName
      let (f, first) ← holding [ov] (getMethod ov m pl)
      callWith pos f first (backTo pos (starEach [] X.env)) (backToKw pos (keywordEach [] X.env))) := by rfl) :
    PE X (.Call (.Attribute o m apos) [] [] pos) (tDyn Kd m sp dvs E ta tNil) := by
  intro pins s σ H Q I h
  refine PySem.W.methodCall_KW (pl := pl) (thn (he pins s σ H _ I h) fun u s1 ⟨x, H1, I1, rx, a, C, dx, fs, ex, kd, ea, l, q⟩ => ?_) ht
  subst ex
  obtain rfl : u = Value.ref a := rx
  obtain ⟨c, f, fd, ds, hm, F, hb, hd⟩ := (M C kd).ex
  refine getmeth_ok I1 ea c hm l ?_
  exact PySem.W.callWith_K0 (first := [.ref a]) I1.kIn hm.kp (run_fn (us := [.ref a]) (vs := [.ref a]) F hr hb hd hx I1 (.cons rfl .nil) q)
end
/-! ### a class, ready to be called by its name -/
structure Mkr (P : Program) (w : World) (K : PySem.W.Frag) (mg : Str → Option Value) (base : Heap) (x : Str) (C : Addr) (k : Nat) (ps : List Str) (dvs : List V) (sp : Sp) : Prop where
  ex : mg x = some (.ref C) ∧ ∃ (f : Addr) (fd : FuncData) (ds : List Value), Mk K C f ∧ FnOk P w K mg base (CX1 P w) k f fd ps sp ∧ Binds K fd ps ds ∧ Vals dvs ds
section
variable {X : Cx} {k : Nat} {ps : List Str} {sp : Sp} {dvs : List V} {E : XK} {x : Str} {C : Addr} {p pos : Pos} {e : Expr} {es : List Expr} {t : TA}
theorem pe_mk (M : Mkr X.prog X.w X.K X.mg X.base x C k ps dvs sp) (hr : Room (k + 1) X.A) (hx : Passes (CX1 X.prog X.w) X E) (ha : PA X (e :: es) t) (hg : Gl X x := by rfl)
    (hdb : (x == ("__debug__" : Str)) = false := by decide) (he : starEach (e :: es) X.env = (false, eval e X.env) :: starEach es X.env := by rfl) (hpl : (backTo pos (starEach es X.env)).any (·.1) = false := by rfl) :
    PE X (.Call (.Name x p) (e :: es) [] pos) (tMake C sp dvs E t) := by
  obtain ⟨hm, f, fd, ds, h1, h2, h3, h4⟩ := M.ex
  exact pe_make h1 h2 hr hg hm h3 h4 hx ha hdb he hpl
end
/-! ### a list walked backwards; a dict walked -/
section
variable {X : Cx} {tg : Expr}
end
section
variable {X : Cx} {tg : Expr}
end
end L2

set_option maxHeartbeats 1000000
namespace L2
open PySem PySem.Spec PyProof.Rows MoM
/-! ### texts as lists of signs -/
def mkS (p : Pl) : Str := ⟨p.toArray⟩
def toP (x : Str) : Pl := x.cps.toList
theorem toP_mk (p : Pl) : toP (mkS p) = p := by simp [toP, mkS]
theorem mk_toP (x : Str) : mkS (toP x) = x := by cases x; simp [toP, mkS]
theorem mkS_inj {p q : Pl} : mkS p = mkS q ↔ p = q := ⟨fun h => by rw [← toP_mk p, h, toP_mk], fun h => by rw [h]⟩
theorem mkS_app (p q : Pl) : mkS p ++ mkS q = mkS (p ++ q) := by
  show (⟨p.toArray ++ q.toArray⟩ : Str) = ⟨(p ++ q).toArray⟩
  simp
theorem mkS_length (p : Pl) : (mkS p).length = p.length := by show p.toArray.size = p.length; simp
theorem s_empty : ("" : Str) = mkS [] := by decide +kernel
/-! ### what of the heap is kept -/
/-- instances and tuples are kept -/
structure Kp (H H' : Hp) : Prop where
  ins : ∀ b C dx fs, H b = some (.ins C dx fs) → H' b = some (.ins C dx fs)
  tup : ∀ b xs, H b = some (.tup xs) → H' b = some (.tup xs)
theorem Same.kp {H H' : Hp} (s : Same H H') : Kp H H' := ⟨fun b _ _ _ h => s b _ h, fun b _ h => s b _ h⟩
/-! ### fractions, rows -/
abbrev FrV (H : Hp) (v : V) (f : Fr) : Prop := FrAt H v f.1 f.2
theorem FrAt.kp {H H' : Hp} {v : V} {a b : Int} (h : FrAt H v a b) (k : Kp H H') : FrAt H' v a b := let ⟨p, e, q⟩ := h; ⟨p, e, k.tup p _ q⟩
/-! ### things -/
/-- the mobile at v -/
def Th (cW cR : Addr) (H : Hp) : V → Mo → Prop
  | v, .wt f => ∃ a dx u, v = .ref a ∧ H a = some (.ins cW dx [("amount", u)]) ∧ FrV H u f
  | v, .rod l x r y => ∃ a dx u1 u2 u3 u4, v = .ref a ∧ H a = some (.ins cR dx [("left_arm", u1), ("left", u2), ("right_arm", u3), ("right", u4)]) ∧ FrV H u1 l ∧ Th cW cR H u2 x ∧ FrV H u3 r ∧ Th cW cR H u4 y
theorem Th.kp {cW cR : Addr} {H H' : Hp} (k : Kp H H') : ∀ {m : Mo} {v : V}, Th cW cR H v m → Th cW cR H' v m
  | .wt f, v, ⟨a, dx, u, e, h, hf⟩ => ⟨a, dx, u, e, k.ins _ _ _ _ h, FrAt.kp hf k⟩
  | .rod l x r y, v, ⟨a, dx, u1, u2, u3, u4, e, h, h1, h2, h3, h4⟩ => ⟨a, dx, u1, u2, u3, u4, e, k.ins _ _ _ _ h, FrAt.kp h1 k, Th.kp k h2, FrAt.kp h3 k, Th.kp k h4⟩
/-- one of two classes -/
def KdT (cW cR C : Addr) : Prop := C = cW ∨ C = cR
theorem Th.obj {cW cR : Addr} {H : Hp} {v : V} {m : Mo} (h : Th cW cR H v m) : ∃ a C dx fs, v = .ref a ∧ KdT cW cR C ∧ H a = some (.ins C dx fs) ∧ fs.lookup ("heft" : Str) = none ∧ fs.lookup ("places" : Str) = none ∧ fs.lookup ("at" : Str) = none := by
  cases m with
  | wt f => obtain ⟨a, dx, u, e, h, _⟩ := h; exact ⟨a, cW, dx, _, e, .inl rfl, h, by rfl, by rfl, by rfl⟩
  | rod l x r y => obtain ⟨a, dx, u1, u2, u3, u4, e, h, _⟩ := h; exact ⟨a, cR, dx, _, e, .inr rfl, h, by rfl, by rfl, by rfl⟩
end L2

set_option maxHeartbeats 1000000
namespace L2
open PySem PySem.Spec PyProof.Rows MoM
section
variable {X : Cx}
end
/-! ### parts of a text -/
theorem pick_range (a : Array Nat) (i : Nat) : ∀ k : Nat, i + k ≤ a.size → ((List.range k).map (· + i)).filterMap (fun t => a[t]?) = (a.toList.drop i).take k
  | 0, _ => by simp
  | k + 1, h => by
    have ih := pick_range a i k (by omega)
    rw [List.range_succ, List.map_append, List.filterMap_append, ih, List.take_succ, List.getElem?_drop]
    congr 1
    have hlt : k + i < a.size := by omega
    simp only [List.map_cons, List.map_nil, List.filterMap_cons, List.filterMap_nil]
    have e : a.toList[i + k]? = a[k + i]? := by rw [Array.getElem?_toList, Nat.add_comm]
    rw [e, getElem?_pos a (k + i) hlt]
    rfl
theorem slice_gen (x : Str) (lo hi : Option Int) (i j : Nat) (hij : i ≤ j) (hj : j ≤ x.length) (h : Builtin.Str.strSliceIndices lo hi 1 x.length = (List.range (j - i)).map (· + i)) :
    Txt.slice x lo hi = mkS (((toP x).take j).drop i) := by
  have hs : (toP x).length = x.length := by show x.cps.toList.length = x.cps.size; simp
  unfold Txt.slice
  rw [h]
  split
  · rename_i hc
    simp only [beq_self_eq_true, Bool.true_and, List.length_map, List.length_range, beq_iff_eq] at hc
    have e1 : i = 0 := by omega
    have e2 : j = (toP x).length := by omega
    subst e1; subst e2
    rw [List.take_length, List.drop_zero, mk_toP]
  · have := pick_range x.cps i (j - i) (by show i + (j - i) ≤ x.length; omega)
    show (⟨_⟩ : Str) = ⟨_⟩
    rw [this, List.drop_take]
    rfl
def clipI (n : Nat) (d : Int) : Option Int → Int
  | none => d
  | some a => max 0 (min (if a < 0 then a + n else a) n)
theorem indices (lo hi : Option Int) (n i j : Nat) (hlo : clipI n 0 lo = i) (hhi : clipI n n hi = j) (hij : i ≤ j) :
    Builtin.Str.strSliceIndices lo hi 1 n = (List.range (j - i)).map (· + i) := by
  have key : Builtin.Str.strSliceIndices lo hi 1 n = sliceRange (clipI n 0 lo) (clipI n n hi) 1 := by
    cases lo <;> cases hi <;> rfl
  rw [key, hlo, hhi]
  unfold sliceRange
  dsimp only
  rw [if_pos (by decide)]
  have e : (if (i : Int) < j then ((j : Int) - i + 1 - 1) / 1 else 0).toNat = j - i := by
    rw [Int.ediv_one]
    split <;> omega
  rw [e]
  refine List.map_congr_left fun k _ => ?_
  omega
end L2

set_option maxHeartbeats 1000000
namespace L2
open PySem PySem.Spec PyProof.Rows MoM FrM
section
variable {X : Cx} {K : PySem.W.Frag}
end
/-! ### readings -/
def rFld (K : PySem.W.Frag) (f : Str) (x : V) (H : Hp) (Q : VK) : Prop := ∃ a C dx fs v, x = .ref a ∧ H a = some (.ins C dx fs) ∧ Cls K C ∧ NoAttr K C f ∧ fs.lookup f = some v ∧ Q v H
theorem tFld_def {K : PySem.W.Frag} {ta : TE} {f : Str} {σ : St} {H : Hp} {Q : VK} : tFld K ta f σ H Q = ta σ H fun x H1 => rFld K f x H1 Q := rfl
theorem fld_ok {K : PySem.W.Frag} {f : Str} {H : Hp} {Q : VK} {a C dx : Addr} {fs : List (Str × V)} {v : V} (e : H a = some (.ins C dx fs)) (c : Cls K C) (n : NoAttr K C f) (l : fs.lookup f = some v) (q : Q v H) : rFld K f (.ref a) H Q := ⟨a, C, dx, fs, v, rfl, e, c, n, l, q⟩
def rSFld (K : PySem.W.Frag) (f : Str) (y x : V) (H : Hp) (Q : Hp → Prop) : Prop := ∃ a C dx fs, x = .ref a ∧ H a = some (.ins C dx fs) ∧ Cls K C ∧ NoAttr K C f ∧ fs.length < 1000 ∧ Q (upd H a (.ins C dx (putF f y fs)))
theorem sFld_def {K : PySem.W.Frag} {ta tv : TE} {f : Str} {D : Ends} {σ : St} {H : Hp} : sFld K ta tv f D σ H = tv σ H fun y H1 => ta σ H1 fun x H2 => rSFld K f y x H2 fun H3 => D.nx σ H3 := rfl
theorem sfld_ok {K : PySem.W.Frag} {f : Str} {y : V} {H : Hp} {Q : Hp → Prop} {a C dx : Addr} {fs : List (Str × V)} (e : H a = some (.ins C dx fs)) (c : Cls K C) (n : NoAttr K C f) (l : fs.length < 1000) (q : Q (upd H a (.ins C dx (putF f y fs)))) : rSFld K f y (.ref a) H Q := ⟨a, C, dx, fs, rfl, e, c, n, l, q⟩
def rMk (C : Addr) (sp : Sp) (dvs : List V) (E : XK) (vs : List V) (H1 : Hp) (Q : VK) : Prop := ∀ x dx, H1 x = none → H1 dx = none → dx ≠ x → sp (.ref x :: (vs ++ dvs)) (upd (upd H1 dx (.own x)) x (.ins C dx [])) (fun v H2 => v = .non ∧ Q (.ref x) H2) E
theorem tMake_def {C : Addr} {sp : Sp} {dvs : List V} {E : XK} {t : TA} {σ : St} {H : Hp} {Q : VK} : tMake C sp dvs E t σ H Q = t σ H fun vs H1 => rMk C sp dvs E vs H1 Q := rfl
theorem TyX.fr {K : PySem.W.Frag} {H : Hp} {v : V} {a b : Int} (h : FrAt H v a b) : TyX K H v (.type "tuple") := by
  obtain ⟨p, rfl, h⟩ := h
  exact .of (.tup h)
theorem LenV.fr {K : PySem.W.Frag} {H : Hp} {v : V} {a b : Int} (h : FrAt H v a b) : LenV K v H 2 := by
  obtain ⟨p, rfl, h⟩ := h
  exact .inr ⟨_, SqT.of h, rfl⟩
theorem mulOkS {a b : Int} {m n : Nat} (ha : Sm m a) (hb : Sm n b) (h : m + n ≤ 134217728) : IntMulOk a b := mulOk_of ha hb h
theorem sm_0 : Sm 4000 0 := Nat.pow_pos (by decide)
theorem sm_1 : Sm 4000 1 := by show 1 < 2 ^ 4000; exact Nat.one_lt_two_pow (by decide)
theorem sq0 {K : PySem.W.Frag} {H : Hp} {p : Addr} {v : V} {l : List V} {Q : VK} (h : SqT K H p (v :: l)) (q : Q v H) : rIxT K (.ref p) (.int 0) H Q := ⟨p, v :: l, 0, v, rfl, rfl, h, atI_nat (j := 0) rfl, q⟩
theorem sq1 {K : PySem.W.Frag} {H : Hp} {p : Addr} {u v : V} {l : List V} {Q : VK} (h : SqT K H p (u :: v :: l)) (q : Q v H) : rIxT K (.ref p) (.int 1) H Q := ⟨p, u :: v :: l, 1, v, rfl, rfl, h, atI_nat (j := 1) rfl, q⟩
/-! ### a def with one default -/
section
variable {P : Program} {w : World} {K : PySem.W.Frag} {mg : Str → Option Value} {base : Heap} {x qual : Str} {st : Stmt} {f : Addr} {fd : FuncData} {T : Addr} {d : Value}
end
end L2

set_option maxHeartbeats 1000000
namespace L2
open PySem PySem.Spec PyProof.Rows MoM FrM
theorem Same.sql {K : PySem.W.Frag} {H H' : Hp} {a : Addr} {xs : List V} (s : Same H H') (h : SqL K H a xs) : SqL K H' a xs := by
  rcases h with (h | ⟨o, h⟩) | h
  · exact .inl (.inl (s _ _ h))
  · exact .inl (.inr ⟨o, s _ _ h⟩)
  · exact .inr h
/-! ### the weights' places -/
/-! ### readings of dicts -/
theorem tFor_def {wi : TI} {g : TG} {tb : TS} {D : Ends} {σ : St} {H : Hp} : tFor wi g tb D σ H = wi σ H fun J H1 => ForW J g tb D σ H1 := rfl
/-! ### rows under way -/
end L2

set_option maxHeartbeats 1000000
namespace L2
open PySem PySem.Spec PyProof.Rows MoM FrM
/-! ### weights that are kept, one for each amount -/
/-! ### a list walked backwards -/
/-! ### a dict walked -/
end L2

set_option maxHeartbeats 1000000
namespace TxM
open PySem PySem.NumText FrM MoM L2
/-! ### the text of a mobile, and reading it: what is read, or nothing where it is refused -/
def isD (c : Nat) : Bool := decide (48 ≤ c) && decide (c ≤ 57)
theorem isD_iff {c : Nat} : isD c = true ↔ 48 ≤ c ∧ c ≤ 57 := by simp [isD]
def dg (n : Nat) : Pl := (Nat.toDigits 10 n).map Char.toNat
def frT (f : Fr) : Pl := if f.2 = 1 then dg f.1.toNat else dg f.1.toNat ++ 47 :: dg f.2.toNat
def moT : Mo → Pl
  | .wt f => frT f
  | .rod l x r y => 91 :: (frT l ++ 58 :: (moT x ++ 32 :: (frT r ++ 58 :: (moT y ++ [93]))))
def pNum (t : Pl) : Option (Nat × Pl) :=
  if t.takeWhile isD = [] ∨ (t.takeWhile isD).head? = some 48 then none else some (digitsVal (t.takeWhile isD), t.dropWhile isD)
def pCh (c : Nat) : Pl → Option Pl
  | [] => none
  | d :: t => if d = c then some t else none
def pFr (t : Pl) : Option (Fr × Pl) := (pNum t).bind fun a => match pCh 47 a.2 with
  | none => some (((a.1 : Int), 1), a.2)
  | some t2 => (pNum t2).bind fun b => if b.1 = 1 ∨ low a.1 b.1 ≠ ((a.1 : Int), (b.1 : Int)) then none else some (((a.1 : Int), (b.1 : Int)), b.2)
def pMo : Nat → Pl → Option (Mo × Pl)
  | 0, t => (pFr t).map fun p => (.wt p.1, p.2)
  | n + 1, t => match pCh 91 t with
    | none => (pFr t).map fun p => (.wt p.1, p.2)
    | some t1 => (pFr t1).bind fun l => (pCh 58 l.2).bind fun t3 => (pMo n t3).bind fun x => (pCh 32 x.2).bind fun t5 => (pFr t5).bind fun r => (pCh 58 r.2).bind fun t7 => (pMo n t7).bind fun y => (pCh 93 y.2).map fun t9 => (.rod l.1 x.1 r.1 y.1, t9)
/-! digits -/
theorem dg_all (n : Nat) : ∀ c ∈ dg n, isD c = true := by
  intro c hc
  obtain ⟨ch, hch, e⟩ := List.mem_map.mp hc
  have r := PyProof.Rows.digit_range (Nat.isDigit_of_mem_toDigits (by decide) (by decide) hch)
  rw [← e]
  exact isD_iff.mpr r
theorem dg_val (n : Nat) : digitsVal (dg n) = n := PySem.W.KIN.val_back n
theorem dg_ne (n : Nat) : dg n ≠ [] := by
  intro e
  have h := Nat.length_toDigits_pos (b := 10) (n := n)
  rw [List.map_eq_nil_iff.mp e] at h
  exact absurd h (by decide)
theorem dg_len {n k : Nat} (hk : 0 < k) (h : n < 10 ^ k) : (dg n).length ≤ k := by
  unfold dg
  rw [List.length_map]
  exact (Nat.length_toDigits_le_iff (by decide) hk).mpr h
theorem val_lt : ∀ (cs : List Nat) (a : Nat), (∀ c ∈ cs, isD c = true) → cs.foldl (fun acc c => acc * 10 + (c - 48)) a < (a + 1) * 10 ^ cs.length
  | [], a, _ => by simp
  | c :: cs, a, h => by
    have hc := isD_iff.mp (h c (List.mem_cons_self ..))
    have ih := val_lt cs (a * 10 + (c - 48)) fun d hd => h d (List.mem_cons_of_mem _ hd)
    rw [List.foldl_cons, List.length_cons, Nat.pow_succ]
    refine Nat.lt_of_lt_of_le ih ?_
    have : (a * 10 + (c - 48) + 1) ≤ (a + 1) * 10 := by omega
    calc (a * 10 + (c - 48) + 1) * 10 ^ cs.length ≤ ((a + 1) * 10) * 10 ^ cs.length := Nat.mul_le_mul_right _ this
      _ = (a + 1) * (10 ^ cs.length * 10) := by rw [Nat.mul_assoc, Nat.mul_comm 10]
theorem digitsVal_lt {cs : List Nat} (h : ∀ c ∈ cs, isD c = true) : digitsVal cs < 10 ^ cs.length := by
  have := val_lt cs 0 h
  simpa [digitsVal] using this
/-- a number above 0 doesn't begin with 0 -/
theorem val0 : ∀ (cs : List Nat), digitsVal (48 :: cs) = digitsVal cs := fun _ => rfl
theorem dg_head {n : Nat} (h : 0 < n) : (dg n).head? ≠ some 48 := by
  intro e
  cases hd : dg n with
  | nil => rw [hd] at e; cases e
  | cons c cs =>
    rw [hd] at e
    simp at e
    subst e
    have ha : ∀ c ∈ cs, isD c = true := fun c hc => dg_all n c (by rw [hd]; exact List.mem_cons_of_mem _ hc)
    have hv : digitsVal cs = n := by rw [← val0, ← hd, dg_val]
    have hl := digitsVal_lt ha
    rw [hv] at hl
    cases cs with
    | nil => simp at hl; omega
    | cons c cs' =>
      have := dg_len (n := n) (k := (c :: cs').length) (by simp) hl
      rw [hd] at this
      simp at this
      omega
/-- no digit ahead -/
def NoD (t : Pl) : Prop := ∀ c, t.head? = some c → isD c = false
theorem NoD.nil : NoD [] := fun c h => by cases h
theorem NoD.cons {c : Nat} {t : Pl} (h : isD c = false) : NoD (c :: t) := fun d e => by simp at e; exact e ▸ h
theorem take_noD {t : Pl} (h : NoD t) : t.takeWhile isD = [] := by
  cases t with
  | nil => rfl
  | cons c t => rw [List.takeWhile_cons, h c rfl]; rfl
theorem drop_noD {t : Pl} (h : NoD t) : t.dropWhile isD = t := by
  cases t with
  | nil => rfl
  | cons c t => rw [List.dropWhile_cons, h c rfl]; rfl
theorem pNum_dg {n : Nat} (h : 0 < n) {t : Pl} (ht : NoD t) : pNum (dg n ++ t) = some (n, t) := by
  have e1 : (dg n ++ t).takeWhile isD = dg n := by rw [List.takeWhile_append_of_pos (dg_all n), take_noD ht, List.append_nil]
  have e2 : (dg n ++ t).dropWhile isD = t := by rw [List.dropWhile_append_of_pos (dg_all n), drop_noD ht]
  unfold pNum
  rw [e1, e2, if_neg (by rintro (z | z); exact dg_ne n z; exact dg_head h z), dg_val]
theorem pCh_self (c : Nat) (t : Pl) : pCh c (c :: t) = some t := if_pos rfl
theorem pCh_ne {c d : Nat} {t : Pl} (h : d ≠ c) : pCh c (d :: t) = none := if_neg h
/-- a fraction above 0 in lowest terms -/
structure Lo (f : Fr) : Prop where
  t : 0 < f.1
  b : 0 < f.2
  g : Int.gcd f.1 f.2 = 1
theorem Lo.low {f : Fr} (h : Lo f) : low f.1 f.2 = f := by
  have e : sd f.1 f.2 = 1 := by unfold sd; rw [h.g]; have := h.b; rw [if_neg (by omega)]; rfl
  unfold MoM.low nt nb
  rw [e]
  simp
/-- neither a digit nor a slash ahead -/
structure NoF (t : Pl) : Prop where
  d : NoD t
  s : ∀ c, t.head? = some c → c ≠ 47
theorem NoF.cons {c : Nat} {t : Pl} (h : isD c = false) (h' : c ≠ 47) : NoF (c :: t) := ⟨.cons h, fun d e => by simp at e; exact e ▸ h'⟩
theorem NoF.nil : NoF [] := ⟨.nil, fun c h => by cases h⟩
theorem pFr_frT {f : Fr} (h : Lo f) {t : Pl} (ht : NoF t) : pFr (frT f ++ t) = some (f, t) := by
  obtain ⟨a, b⟩ := f
  obtain ⟨m, rfl⟩ := Int.eq_ofNat_of_zero_le (Int.le_of_lt h.t)
  obtain ⟨n, rfl⟩ := Int.eq_ofNat_of_zero_le (Int.le_of_lt h.b)
  have hm : 0 < m := by have := h.t; simpa using this
  have hn : 0 < n := by have := h.b; simpa using this
  by_cases h1 : n = 1
  · subst h1
    have e : frT ((m : Int), ((1 : Nat) : Int)) = dg m := if_pos rfl
    have ec : pCh 47 t = none := by
      cases t with
      | nil => rfl
      | cons c t => exact pCh_ne (ht.s c rfl)
    unfold pFr
    rw [e, pNum_dg hm ht.d]
    show (match pCh 47 t with | none => _ | some t2 => _) = _
    rw [ec]
    rfl
  · have e : frT ((m : Int), (n : Int)) = dg m ++ 47 :: dg n := if_neg (by show ¬ (n : Int) = 1; omega)
    unfold pFr
    rw [e, List.append_assoc, List.cons_append, pNum_dg hm (.cons (by decide))]
    simp only [Option.bind_some, pCh_self, pNum_dg hn ht.d]
    exact if_neg (by
      rintro (z | z)
      · exact h1 z
      · exact z h.low)
def LoM (m : Mo) : Prop := m.All Lo Lo
theorem frT_head {f : Fr} : ∃ c r, frT f = c :: r ∧ isD c = true := by
  have : ∀ n r, ∃ c r', dg n ++ r = c :: r' ∧ isD c = true := by
    intro n r
    cases hd : dg n with
    | nil => exact absurd hd (dg_ne n)
    | cons c cs => exact ⟨c, cs ++ r, rfl, dg_all n c (by rw [hd]; exact List.mem_cons_self ..)⟩
  unfold frT
  split
  · have := this f.1.toNat []
    rwa [List.append_nil] at this
  · exact this f.1.toNat _
theorem pMo_moT : ∀ (m : Mo) (n : Nat) (t : Pl), LoM m → m.depth ≤ n → NoF t → pMo n (moT m ++ t) = some (m, t)
  | .wt f, n, t, h, hd, ht => by
    have e := pFr_frT h ht
    have e2 : (pFr (moT (.wt f) ++ t)).map (fun p => (Mo.wt p.1, p.2)) = some (.wt f, t) := by
      show (pFr (frT f ++ t)).map _ = _
      rw [e]; rfl
    cases n with
    | zero => exact e2
    | succ n =>
      obtain ⟨c, r, ec, hc⟩ := frT_head (f := f)
      have hne : c ≠ 91 := by rintro rfl; exact absurd hc (by decide)
      have ep : pCh 91 (moT (.wt f) ++ t) = none := by
        show pCh 91 (frT f ++ t) = none
        rw [ec]; exact pCh_ne hne
      show (match pCh 91 (moT (.wt f) ++ t) with | none => _ | some t1 => _) = _
      rw [ep]
      exact e2
  | .rod l x r y, 0, t, h, hd, ht => by simp [Mo.depth] at hd
  | .rod l x r y, n + 1, t, h, hd, ht => by
    simp only [Mo.depth] at hd
    have ex : moT (.rod l x r y) ++ t = 91 :: (frT l ++ 58 :: (moT x ++ 32 :: (frT r ++ 58 :: (moT y ++ 93 :: t)))) := by simp [moT]
    have h1 := pFr_frT h.1 (t := 58 :: (moT x ++ 32 :: (frT r ++ 58 :: (moT y ++ 93 :: t)))) (.cons (by decide) (by decide))
    have h2 := pMo_moT x n (32 :: (frT r ++ 58 :: (moT y ++ 93 :: t))) h.2.2.1 (by omega) (.cons (by decide) (by decide))
    have h3 := pFr_frT h.2.1 (t := 58 :: (moT y ++ 93 :: t)) (.cons (by decide) (by decide))
    have h4 := pMo_moT y n (93 :: t) h.2.2.2 (by omega) (.cons (by decide) (by decide))
    rw [ex]
    simp only [pMo, pCh_self, Option.bind_some, h1, h2, h3, h4, Option.map_some]
end TxM

set_option maxHeartbeats 1000000
namespace TxM
open PySem PySem.NumText FrM MoM L2
/-! ### what was read is what stands there -/
theorem back_dg : ∀ {ds : Pl}, (∀ c ∈ ds, isD c = true) → ds ≠ [] → ds.head? ≠ some 48 → dg (digitsVal ds) = ds := by
  intro ds ha hne hh
  cases ds with
  | nil => exact absurd rfl hne
  | cons c cs =>
    have hc := isD_iff.mp (ha c (List.mem_cons_self ..))
    have hn : c ≠ 48 := fun e => hh (by rw [e]; rfl)
    have e := toDigits_digitsVal cs.length (c :: cs) rfl (fun d hd => isD_iff.mp (ha d hd)) (.inr ⟨c, cs, rfl, by omega⟩)
    unfold dg
    rw [e, List.map_map]
    have : ∀ l : Pl, (∀ d ∈ l, isD d = true) → l.map (Char.toNat ∘ Char.ofNat) = l := by
      intro l
      induction l with
      | nil => intro _; rfl
      | cons d l ih =>
        intro h
        rw [List.map_cons, ih fun z hz => h z (List.mem_cons_of_mem _ hz)]
        have hd := isD_iff.mp (h d (List.mem_cons_self ..))
        have : (Char.ofNat d).toNat = d := by
          have hall : ∀ k : Fin 10, (Char.ofNat (48 + k.val)).toNat = 48 + k.val := by decide
          have := hall ⟨d - 48, by omega⟩
          rwa [show 48 + (d - 48) = d from Nat.add_sub_cancel' hd.1] at this
        show (Char.ofNat d).toNat :: l = d :: l
        rw [this]
    exact this _ ha
theorem take_all (t : Pl) : ∀ c ∈ t.takeWhile isD, isD c = true := by
  induction t with
  | nil => intro c h; cases h
  | cons d t ih =>
    intro c h
    rw [List.takeWhile_cons] at h
    split at h
    · rename_i hd
      rcases List.mem_cons.mp h with rfl | h
      · exact hd
      · exact ih c h
    · cases h
theorem drop_head (t : Pl) : NoD (t.dropWhile isD) := by
  induction t with
  | nil => exact .nil
  | cons d t ih =>
    rw [List.dropWhile_cons]
    split
    · exact ih
    · rename_i hd
      exact .cons (by simpa using hd)
theorem pNum_sound {t : Pl} {n : Nat} {r : Pl} (h : pNum t = some (n, r)) : t = dg n ++ r ∧ 0 < n ∧ NoD r := by
  unfold pNum at h
  split at h
  · cases h
  · rename_i hn
    injection h with h
    injection h with h1 h2
    have hb := back_dg (take_all t) (fun z => hn (.inl z)) fun z => hn (.inr z)
    rw [h1] at hb
    refine ⟨?_, ?_, ?_⟩
    · rw [hb, ← h2, List.takeWhile_append_dropWhile]
    · cases n with
      | succ n => exact Nat.succ_pos n
      | zero =>
        exfalso
        have e : dg 0 = [48] := by decide
        rw [e] at hb
        exact hn (.inr (by rw [← hb]; rfl))
    · rw [← h2]; exact drop_head t
theorem pCh_sound {c : Nat} {t r : Pl} (h : pCh c t = some r) : t = c :: r := by
  cases t with
  | nil => cases h
  | cons d t =>
    by_cases e : d = c
    · subst e
      rw [pCh_self] at h
      injection h with h
      rw [h]
    · rw [pCh_ne e] at h
      cases h
theorem pFr_sound {t : Pl} {f : Fr} {r : Pl} (h : pFr t = some (f, r)) : t = frT f ++ r ∧ Lo f := by
  unfold pFr at h
  cases hn : pNum t with
  | none => rw [hn] at h; cases h
  | some a =>
    obtain ⟨m, t1⟩ := a
    obtain ⟨e1, m0, _⟩ := pNum_sound hn
    rw [hn] at h
    simp only [Option.bind_some] at h
    cases hc : pCh 47 t1 with
    | none =>
      rw [hc] at h
      simp only [Option.some.injEq, Prod.mk.injEq] at h
      obtain ⟨hf, hr⟩ := h
      subst hf hr
      refine ⟨?_, ⟨by show (0 : Int) < (m : Int); omega, by show (0 : Int) < 1; decide, Int.gcd_one⟩⟩
      have : frT ((m : Int), 1) = dg m := if_pos rfl
      rw [this, e1]
    | some t2 =>
      rw [hc] at h
      simp only at h
      have e2 := pCh_sound hc
      cases hb : pNum t2 with
      | none => rw [hb] at h; cases h
      | some b =>
        obtain ⟨n, t3⟩ := b
        obtain ⟨e3, n0, _⟩ := pNum_sound hb
        rw [hb] at h
        simp only [Option.bind_some] at h
        split at h
        · cases h
        · rename_i hno
          simp only [Option.some.injEq, Prod.mk.injEq] at h
          obtain ⟨hf, hr⟩ := h
          subst hf hr
          have h1 : n ≠ 1 := fun z => hno (.inl z)
          have h2 : low (m : Int) (n : Int) = ((m : Int), (n : Int)) := Decidable.byContradiction fun z => hno (.inr z)
          have hg := low_gcd (a := (m : Int)) (b := (n : Int)) (by omega)
          rw [h2] at hg
          refine ⟨?_, ⟨by show (0 : Int) < (m : Int); omega, by show (0 : Int) < (n : Int); omega, hg⟩⟩
          have : frT ((m : Int), (n : Int)) = dg m ++ 47 :: dg n := if_neg (by show ¬ (n : Int) = 1; omega)
          rw [this, e1, e2, e3]
          simp
theorem pMo_sound : ∀ (n : Nat) (t : Pl) (m : Mo) (r : Pl), pMo n t = some (m, r) → t = moT m ++ r ∧ LoM m := by
  have wt : ∀ (t : Pl) (m : Mo) (r : Pl), (pFr t).map (fun p => (Mo.wt p.1, p.2)) = some (m, r) → t = moT m ++ r ∧ LoM m := by
    intro t m r h
    cases hf : pFr t with
    | none => rw [hf] at h; cases h
    | some p =>
      obtain ⟨f, r'⟩ := p
      rw [hf] at h
      simp only [Option.map_some, Option.some.injEq, Prod.mk.injEq] at h
      obtain ⟨hm, hr⟩ := h
      subst hm hr
      exact pFr_sound hf
  intro n
  induction n with
  | zero => exact wt
  | succ n ih =>
    intro t m r h
    simp only [pMo] at h
    cases hc : pCh 91 t with
    | none => rw [hc] at h; exact wt t m r h
    | some t1 =>
      rw [hc] at h
      simp only at h
      cases a1 : pFr t1 with
      | none => rw [a1] at h; cases h
      | some l =>
      rw [a1] at h; simp only [Option.bind_some] at h
      cases a2 : pCh 58 l.2 with
      | none => rw [a2] at h; cases h
      | some t3 =>
      rw [a2] at h; simp only [Option.bind_some] at h
      cases a3 : pMo n t3 with
      | none => rw [a3] at h; cases h
      | some x =>
      rw [a3] at h; simp only [Option.bind_some] at h
      cases a4 : pCh 32 x.2 with
      | none => rw [a4] at h; cases h
      | some t5 =>
      rw [a4] at h; simp only [Option.bind_some] at h
      cases a5 : pFr t5 with
      | none => rw [a5] at h; cases h
      | some q =>
      rw [a5] at h; simp only [Option.bind_some] at h
      cases a6 : pCh 58 q.2 with
      | none => rw [a6] at h; cases h
      | some t7 =>
      rw [a6] at h; simp only [Option.bind_some] at h
      cases a7 : pMo n t7 with
      | none => rw [a7] at h; cases h
      | some y =>
      rw [a7] at h; simp only [Option.bind_some] at h
      cases a8 : pCh 93 y.2 with
      | none => rw [a8] at h; cases h
      | some t9 =>
      rw [a8] at h
      simp only [Option.map_some, Option.some.injEq, Prod.mk.injEq] at h
      obtain ⟨hm, hr⟩ := h
      subst hm hr
      have b1 := pFr_sound (f := l.1) (r := l.2) a1
      have b3 := ih t3 x.1 x.2 a3
      have b5 := pFr_sound (f := q.1) (r := q.2) a5
      have b7 := ih t7 y.1 y.2 a7
      refine ⟨?_, b1.2, b5.2, b3.2, b7.2⟩
      rw [pCh_sound hc, b1.1, pCh_sound a2, b3.1, pCh_sound a4, b5.1, pCh_sound a6, b7.1, pCh_sound a8]
      simp [moT]
end TxM

set_option maxHeartbeats 1000000
namespace L2
open PySem PySem.Spec PyProof.Rows FrM MoM TxM NumText
section
variable {X : Cx}
/-- int(text): figures alone -/
def rIntT (xs : List V) (H : Hp) (Q : VK) : Prop := ∃ ds : Pl, xs = [.str (mkS ds)] ∧ (∀ c ∈ ds, isD c = true) ∧ ds ≠ [] ∧ ds.length ≤ 640 ∧ Q (.int (digitsVal ds : Nat)) H
theorem call_intT : CallR X (.type "int") rIntT := by
  intro pins s σ H xs us Q I r h
  obtain ⟨ds, rfl, ha, hne, hl, q⟩ := h
  obtain ⟨u, rfl, t, rfl⟩ := vals1 r
  have e : (mkS ds).cps.toList = ds := toP_mk ds
  have hn : PySem.intText? (mkS ds) = some ((digitsVal ds : Nat) : Int) := by
    have := intText_digits (x := mkS ds) (by rw [e]; exact fun c hc => isD_iff.mp (ha c hc)) (by rw [e]; exact hne) (by rw [mkS_length]; omega)
    rwa [e] at this
  exact PySem.W.KIN.call_text hn (by rw [mkS_length]; exact hl) ⟨.int (digitsVal ds : Nat), H, I.tok _, ⟨_, rfl⟩, q⟩
/-- the sign at a place of a text -/
theorem ixS_at {pre t : Pl} {c : Nat} {H : Hp} {Q : VK} (hl : (pre ++ c :: t).length ≤ 65536) (k : Q (.str (mkS [c])) H) : rIxS (.str (mkS (pre ++ c :: t))) (.int pre.length) H Q :=
  ⟨_, pre.length, c, rfl, rfl, by rw [mkS_length, sizeLine_eq]; omega, atI_nat (by show (toP (mkS (pre ++ c :: t)))[pre.length]? = _; rw [toP_mk]; simp), k⟩
/-- the text of a number -/
theorem str_dg (n : Nat) : Str.ofString (toString ((n : Nat) : Int)) = mkS (dg n) := by
  have h := PySem.W.KIN.signs_num n
  rw [← mk_toP (Str.ofString (toString ((n : Nat) : Int)))]
  show mkS (Str.ofString (toString ((n : Nat) : Int))).cps.toList = _
  rw [h]; rfl
/-! ### parts of a text -/
theorem slice_ij (t : Pl) (lo hi : Option Int) (i j : Nat) (hlo : clipI t.length 0 lo = i) (hhi : clipI t.length t.length hi = j) (hij : i ≤ j) (hj : j ≤ t.length) : Txt.slice (mkS t) lo hi = mkS ((t.take j).drop i) := by
  have hl : (mkS t).length = t.length := mkS_length t
  rw [slice_gen _ _ _ i j hij (by omega) (by rw [hl]; exact indices _ _ _ _ _ hlo hhi hij), toP_mk]
theorem slice_mid (pre ds post : Pl) : Txt.slice (mkS (pre ++ (ds ++ post))) (some pre.length) (some ((pre.length + ds.length : Nat) : Int)) = mkS ds := by
  have hn : (pre ++ (ds ++ post)).length = pre.length + (ds.length + post.length) := by simp
  rw [slice_ij _ _ _ pre.length (pre.length + ds.length) (by rw [hn]; simp only [clipI]; rw [if_neg (by omega)]; omega) (by rw [hn]; simp only [clipI]; rw [if_neg (by omega)]; omega) (by omega) (by omega)]
  congr 1
  rw [List.take_append, List.drop_append]
  simp
theorem slice_to (a b : Pl) : Txt.slice (mkS (a ++ b)) none (some (a.length : Int)) = mkS a := by
  have hn : (a ++ b).length = a.length + b.length := by simp
  rw [slice_ij _ _ _ 0 a.length rfl (by rw [hn]; simp only [clipI]; rw [if_neg (by omega)]; omega) (by omega) (by omega)]
  congr 1
  simp
/-! ### runs of figures -/
/-- no run of more than k figures -/
def RunLe (k : Nat) (t : Pl) : Prop := ∀ pre ds post : Pl, t = pre ++ (ds ++ post) → (∀ c ∈ ds, isD c = true) → ds.length ≤ k
theorem RunLe.of_len {k : Nat} {t : Pl} (h : t.length ≤ k) : RunLe k t := fun pre ds post e _ => by
  have := congrArg List.length e
  simp at this
  omega
theorem RunLe.tail {k : Nat} {a t : Pl} (h : RunLe k (a ++ t)) : RunLe k t := fun pre ds post e hd => h (a ++ pre) ds post (by rw [e]; simp) hd
theorem RunLe.take {k : Nat} {t : Pl} (h : RunLe k t) : (t.takeWhile isD).length ≤ k := h [] _ (t.dropWhile isD) (by simp) (take_all t)
theorem RunLe.mono {k j : Nat} {t : Pl} (h : RunLe k t) (hj : k ≤ j) : RunLe j t := fun pre ds post e hd => Nat.le_trans (h pre ds post e hd) hj
theorem RunLe.app {k j : Nat} {a b : Pl} (h1 : RunLe k a) (h2 : RunLe j b) : RunLe (k + j) (a ++ b) := by
  intro pre ds post e hd
  rcases List.append_eq_append_iff.mp e with ⟨a', e1, e2⟩ | ⟨c', e1, e2⟩
  · exact Nat.le_trans (h2 a' ds post e2 hd) (Nat.le_add_left _ _)
  · rcases List.append_eq_append_iff.mp e2 with ⟨a', e3, e4⟩ | ⟨c'', e3, e4⟩
    · exact Nat.le_trans (h1 pre ds a' (by rw [e1, e3]) hd) (Nat.le_add_right _ _)
    · subst e3
      have b1 := h1 pre c' [] (by rw [e1, List.append_nil]) fun c hc => hd c (List.mem_append_left _ hc)
      have b2 := h2 [] c'' post e4 fun c hc => hd c (List.mem_append_right _ hc)
      rw [List.length_append]
      omega
theorem RunLe.sep {k : Nat} {a b : Pl} {x : Nat} (h1 : RunLe k a) (h2 : RunLe k b) (hx : isD x = false) : RunLe k (a ++ x :: b) := by
  intro pre ds post e hd
  rcases List.append_eq_append_iff.mp e with ⟨a', e1, e2⟩ | ⟨c', e1, e2⟩
  · cases a' with
    | nil =>
      cases ds with
      | nil => exact Nat.zero_le _
      | cons d ds =>
        injection e2 with e3 e4
        have := hd d (List.mem_cons_self ..)
        rw [← e3, hx] at this
        cases this
    | cons z a'' =>
      injection e2 with e3 e4
      exact h2 a'' ds post e4 hd
  · rcases List.append_eq_append_iff.mp e2 with ⟨a', e3, e4⟩ | ⟨c'', e3, e4⟩
    · exact h1 pre ds a' (by rw [e1, e3]) hd
    · cases c'' with
      | nil =>
        rw [List.append_nil] at e3
        subst e3
        exact h1 pre ds [] (by rw [e1, List.append_nil]) hd
      | cons z c3 =>
        injection e4 with e5 e6
        have := hd z (by rw [e3]; exact List.mem_append_right _ (List.mem_cons_self ..))
        rw [← e5, hx] at this
        cases this
theorem RunLe.cons {k : Nat} {b : Pl} {x : Nat} (h2 : RunLe k b) (hx : isD x = false) : RunLe k (x :: b) := RunLe.sep (a := []) (.of_len (Nat.zero_le _)) h2 hx
theorem RunLe.snoc {k : Nat} {a : Pl} {x : Nat} (h1 : RunLe k a) (hx : isD x = false) : RunLe k (a ++ [x]) := RunLe.sep h1 (.of_len (Nat.zero_le _)) hx
theorem RunLe.head {k : Nat} {a b : Pl} (h : RunLe k (a ++ b)) : RunLe k a := fun pre ds post e hd => h pre ds (post ++ b) (by rw [e]; simp) hd
/-- a text with at most one sign put in, taken out or exchanged -/
theorem RunLe.spoil {k : Nat} {a y b : Pl} (x : Pl) (h : RunLe k (a ++ (y ++ b))) (hx : x.length ≤ 1) : RunLe (k + 1 + k) (a ++ (x ++ b)) := by
  have ha := h.head
  have hb : RunLe k b := (RunLe.tail (a := y) (RunLe.tail (a := a) h))
  have := RunLe.app ha (RunLe.app (RunLe.of_len hx) hb)
  exact this.mono (by omega)
/-- the text of a fraction, of a mobile: no long run -/
theorem runs_frT {k : Nat} {f : Fr} (hk : 0 < k) (h1 : f.1.toNat < 10 ^ k) (h2 : f.2.toNat < 10 ^ k) : RunLe k (frT f) := by
  unfold frT
  split
  · exact .of_len (dg_len hk h1)
  · exact .sep (.of_len (dg_len hk h1)) (.of_len (dg_len hk h2)) (by decide)
theorem runs_moT {k : Nat} (hk : 0 < k) : ∀ {m : Mo}, m.All (fun f => f.1.toNat < 10 ^ k ∧ f.2.toNat < 10 ^ k) (fun f => f.1.toNat < 10 ^ k ∧ f.2.toNat < 10 ^ k) → RunLe k (moT m)
  | .wt f, h => runs_frT hk h.1 h.2
  | .rod l x r y, h => by
    have a := runs_frT hk h.1.1 h.1.2
    have b := runs_moT hk h.2.2.1
    have c := runs_frT hk h.2.1.1 h.2.1.2
    have d := runs_moT hk h.2.2.2
    exact .cons (.sep a (.sep b (.sep c (.snoc d (by decide)) (by decide)) (by decide)) (by decide)) (by decide)
end
end L2
namespace L2
open PySem PySem.Spec PyProof.Rows
/-- f'{e!r} ..' of a text, a text behind it -/
def tFstr (ta : TE) (c : Str) : TE := fun σ H Q => ta σ H fun x H1 => ∃ z, x = .str z ∧ (reprText z).length + c.length ≤ sizeLine ∧ Q (.str (reprText z ++ c)) H1
theorem pe_fstrR {X : Cx} {e : Expr} {c : Str} {kd : Nat} {p1 p2 p : Pos} {ta : TE} (ha : PE X e ta) : PE X (.JoinedStr [.FormattedValue e 114 none p1, .Constant (.str c) kd p2] p) (tFstr ta c) := by
  intro pins s σ H Q I h
  refine JoinedStr_many (joinParts_cons (wpAny_FormattedValue_repr (thn (ha pins s σ H _ I h) fun v s1 ⟨x, H1, I1, r1, z, ex, hz, q⟩ => ?_)))
  subst ex
  obtain ⟨t, rfl⟩ := r1
  have e0 : Str.empty ++ reprText z = reprText z := by
    rw [← mk_toP (reprText z)]
    show mkS [] ++ _ = _
    rw [mkS_app]; rfl
  refine wpAny_pyReprObj_str ?_ (by omega)
  refine formatField_str (fun t' tk => ?_) (by omega)
  refine ⟨by rw [e0]; omega, ?_⟩
  rw [e0]
  refine joinParts_cons (Calls.Constant_str ?_)
  have el : (reprText z ++ c).length = (reprText z).length + c.length := strLen_append _ _
  refine ⟨by rw [el]; exact hz, ?_⟩
  exact joinParts_nil ⟨.str (reprText z ++ c), H1, (I1.tok _), ⟨_, rfl⟩, q⟩ (by rw [el]; exact hz)
end L2

set_option maxHeartbeats 1000000
namespace L2
open PySem PySem.Spec PyProof.Rows FrM MoM TxM NumText
section
variable {X : Cx} {K : PySem.W.Frag}
/-! ### one of the figures -/
theorem figs : ("0123456789" : Str).cps.toList = List.range' 48 10 := by decide +kernel
theorem fig_in (c : Nat) : (!(Builtin.Str.occurrences "0123456789" (mkS [c]) 0 ("0123456789" : Str).length 1).isEmpty) = isD c := by
  show (!(Builtin.Str.occurrences "0123456789" ⟨#[c]⟩ 0 ("0123456789" : Str).length 1).isEmpty) = isD c
  rw [StrLaws.found_one, figs, Bool.eq_iff_iff, decide_eq_true_eq, isD_iff]
  exact List.mem_range'_1.trans ⟨fun h => ⟨h.1, Nat.le_of_lt_succ h.2⟩, fun h => ⟨h.1, Nat.lt_succ_of_le h.2⟩⟩
/-! ### ''.join of signs -/
theorem strvals : ∀ {ts : Pl} {us : List Value}, Vals (ts.map fun c => .str (mkS [c])) us → ∃ l : List (Str × Tok), strValues l = us ∧ l.map (·.1) = ts.map fun c => mkS [c]
  | [], us, r => by cases r; exact ⟨[], rfl, rfl⟩
  | c :: ts, us, r => by
    cases r with
    | cons r1 r2 =>
      obtain ⟨t, rfl⟩ := r1
      obtain ⟨l, e1, e2⟩ := strvals r2
      exact ⟨(mkS [c], t) :: l, by rw [← e1]; rfl, by rw [List.map_cons, e2]; rfl⟩
theorem glue_ones : ∀ (ts : Pl) (a : Pl), (ts.map fun c => mkS [c]).foldl (fun acc p => acc ++ (mkS []).cps ++ p.cps) a.toArray = (a ++ ts).toArray
  | [], a => by simp
  | c :: ts, a => by
    rw [List.map_cons, List.foldl_cons]
    have e : a.toArray ++ (mkS []).cps ++ (mkS [c]).cps = (a ++ [c]).toArray := by simp [mkS]
    rw [e, glue_ones ts (a ++ [c])]
    simp
theorem join_signs (ts : Pl) : Txt.join (mkS []) (ts.map fun c => mkS [c]) = mkS ts := by
  show (⟨((ts.map fun c => mkS [c]).drop 1).foldl (fun acc p => acc ++ (mkS []).cps ++ p.cps) ((ts.map fun c => mkS [c]).headD Str.empty).cps⟩ : Str) = mkS ts
  cases ts with
  | nil => rfl
  | cons c ts =>
    show (⟨(ts.map fun c => mkS [c]).foldl (fun acc p => acc ++ (mkS []).cps ++ p.cps) [c].toArray⟩ : Str) = mkS (c :: ts)
    rw [glue_ones]
    rfl
def rJoin1 (K : PySem.W.Frag) : V → List V → Hp → VK → Prop := fun x xs H Q => ∃ (a : Addr) (ts : Pl), x = .str (mkS []) ∧ xs = [.ref a] ∧ SqL K H a (ts.map fun c => .str (mkS [c])) ∧ ts.length ≤ 10000 ∧ Q (.str (mkS ts)) H
theorem mt_join1 : MtR X "str.join" (rJoin1 X.K) := by
  intro pins s σ H x xs v us Q I rx rv h
  obtain ⟨a, ts, rfl, rfl, hq, hl, q⟩ := h
  obtain ⟨t, rfl⟩ := rx
  obtain ⟨u, rfl, rx⟩ := vals1 rv
  cases rx
  obtain ⟨its, rv, pl, hz⟩ := I.list hq
  obtain ⟨l, e1, e2⟩ := strvals rv
  have hl' := pl.isList
  rw [← e1] at hl'
  refine SC.join hl' e2 ?_ fun t' k => ?_
  · unfold JoinOk
    rw [Bool.not_eq_true']
    refine StrLaws.joinFits (B := 1) (fun y hy => ?_) ?_
    · obtain ⟨c, _, rfl⟩ := List.mem_map.mp hy
      exact Nat.le_refl 1
    · rw [List.length_map]
      show ts.length * 1 + ts.length * 0 ≤ 16777216
      omega
  · rw [join_signs]
    exact ⟨.str (mkS ts), H, I.tok _, ⟨_, rfl⟩, q⟩
theorem pe_join1 {o e : Expr} {to : TE} {t : TA} {apos cpos : Pos} (hK : X.K = K) (ho : PE X o to) (ha : PA X [e] t)
    (hbase : attributeBase o "join" X.env (eval o X.env) = eval o X.env := by rfl)
    (hfew : ((backTo cpos (starEach [e] X.env)).all (fun x => !x.1) && (backToKw cpos (keywordEach [] X.env)).all (fun x => x.1.isSome)
      && decide (([e] : List Expr).length + ([] : List Keyword).length + (if ([] : List Keyword).isEmpty then 0 else 1) < 30)) = true := by rfl)
    (hline : (apos.endLine == cpos.line) = true := by rfl) (hs : starEach [e] X.env = (false, eval e X.env) :: starEach [] X.env := by rfl) (hplain : (backTo cpos (starEach [] X.env)).any (·.1) = false := by rfl) :
    PE X (.Call (.Attribute o "join" apos) [e] [] cpos) (tBM K "str" (rJoin1 K) to t) := by
  subst hK
  exact pe_bm PySem.F.plainAttrs_str PySem.F.slot_str_join PySem.F.type_str_join mt_join1 ho ha hbase hfew hline hs hplain
/-! ### numbers of texts -/
theorem take_run {ds t : Pl} (ha : ∀ c ∈ ds, isD c = true) (ht : NoD t) : (ds ++ t).takeWhile isD = ds ∧ (ds ++ t).dropWhile isD = t := by
  constructor
  · rw [List.takeWhile_append_of_pos ha, take_noD ht, List.append_nil]
  · rw [List.dropWhile_append_of_pos ha, drop_noD ht]
theorem pNum_run {ds t : Pl} (ha : ∀ c ∈ ds, isD c = true) (ht : NoD t) : pNum (ds ++ t) = if ds = [] ∨ ds.head? = some 48 then none else some (digitsVal ds, t) := by
  unfold pNum
  rw [(take_run ha ht).1, (take_run ha ht).2]
theorem pNum_lt {k : Nat} {t : Pl} {n : Nat} {r : Pl} (h : pNum t = some (n, r)) (hr : RunLe k t) : n < 10 ^ k := by
  unfold pNum at h
  split at h
  · cases h
  · injection h with h
    injection h with h1 h2
    rw [← h1]
    exact Nat.lt_of_lt_of_le (digitsVal_lt (take_all t)) (Nat.pow_le_pow_right (by decide) hr.take)
theorem sm_ten {n : Nat} (h : n < 10 ^ 200) : Sm 700 (n : Int) := by
  unfold Sm
  rw [Int.natAbs_natCast]
  exact Nat.lt_trans h (by decide +kernel)
theorem pFr_sm {t : Pl} {f : Fr} {r : Pl} (h : pFr t = some (f, r)) (hr : RunLe 200 t) : Sm 700 f.1 ∧ Sm 700 f.2 := by
  unfold pFr at h
  cases hn : pNum t with
  | none => rw [hn] at h; cases h
  | some a =>
    obtain ⟨m, t1⟩ := a
    have hm := sm_ten (pNum_lt hn hr)
    rw [hn] at h
    simp only [Option.bind_some] at h
    cases hc : pCh 47 t1 with
    | none =>
      rw [hc] at h
      simp only [Option.some.injEq, Prod.mk.injEq] at h
      obtain ⟨hf, hr⟩ := h
      subst hf hr
      exact ⟨hm, by show (1 : Int).natAbs < 2 ^ 700; decide +kernel⟩
    | some t2 =>
      rw [hc] at h
      simp only at h
      cases hb : pNum t2 with
      | none => rw [hb] at h; cases h
      | some b =>
        obtain ⟨n, t3⟩ := b
        have e1 := (pNum_sound hn).1
        have e2 := pCh_sound hc
        have hr2 : RunLe 200 t2 := by
          rw [e1, e2] at hr
          exact RunLe.tail (a := [47]) hr.tail
        have hn := sm_ten (pNum_lt hb hr2)
        rw [hb] at h
        simp only [Option.bind_some] at h
        split at h
        · cases h
        · simp only [Option.some.injEq, Prod.mk.injEq] at h
          obtain ⟨hf, hr⟩ := h
          subst hf hr
          exact ⟨hm, hn⟩
theorem pCh_head {c : Nat} {t : Pl} : decide (t.head? = some c) = (pCh c t).isSome := by
  cases t with
  | nil => rfl
  | cons d t =>
    by_cases h : d = c
    · subst h; rw [pCh_self]; simp
    · rw [pCh_ne h]; simp [h]
/-- rods read, step by step -/
def pR8 (l : Fr) (x : Mo) (r : Fr) (y : Mo) (t : Pl) : Option (Mo × Pl) := (pCh 93 t).bind fun t9 => some (.rod l x r y, t9)
def pR7 (n : Nat) (l : Fr) (x : Mo) (r : Fr) (t : Pl) : Option (Mo × Pl) := (pMo n t).bind fun y => pR8 l x r y.1 y.2
def pR6 (n : Nat) (l : Fr) (x : Mo) (r : Fr) (t : Pl) : Option (Mo × Pl) := (pCh 58 t).bind fun t7 => pR7 n l x r t7
def pR5 (n : Nat) (l : Fr) (x : Mo) (t : Pl) : Option (Mo × Pl) := (pFr t).bind fun r => pR6 n l x r.1 r.2
def pR4 (n : Nat) (l : Fr) (x : Mo) (t : Pl) : Option (Mo × Pl) := (pCh 32 t).bind fun t5 => pR5 n l x t5
def pR3 (n : Nat) (l : Fr) (t : Pl) : Option (Mo × Pl) := (pMo n t).bind fun x => pR4 n l x.1 x.2
def pR2 (n : Nat) (l : Fr) (t : Pl) : Option (Mo × Pl) := (pCh 58 t).bind fun t3 => pR3 n l t3
def pR1 (n : Nat) (t : Pl) : Option (Mo × Pl) := (pFr t).bind fun l => pR2 n l.1 l.2
def pRod (n : Nat) (t : Pl) : Option (Mo × Pl) := (pCh 91 t).bind fun t1 => pR1 n t1
theorem bnd {α β : Type} {o : Option α} {f : α → Option β} {a : α} (h : o = some a) : o.bind f = f a := by rw [h]; rfl
theorem bnd0 {α β : Type} {o : Option α} {f : α → Option β} (h : o = none) : o.bind f = none := by rw [h]; rfl
theorem pMo_rod {n : Nat} {t t1 : Pl} (h : pCh 91 t = some t1) : pMo (n + 1) t = pRod n t := by
  unfold pRod pR1 pR2 pR3 pR4 pR5 pR6 pR7 pR8
  simp only [pMo, h, Option.bind_some, Option.map_eq_bind]
  rfl
theorem pMo_wt {n : Nat} {t : Pl} (h : pCh 91 t = none) : pMo n t = (pFr t).map fun p => (.wt p.1, p.2) := by
  cases n with
  | zero => rfl
  | succ n => simp only [pMo, h]
end
end L2
namespace L2
open PySem PySem.Spec PyProof.Rows
/-- a statement that raises nothing, in a body that does -/
theorem ps_quiet {X : Cx} {st : PySem.Stmt} {t : TS} (h : PS X.nox st t) : PS X st t := fun pins s σ H D I q =>
  wpAny_mono (h pins s σ H D (I.wish _) q) (fun f s' z => match f, z with
    | .next, ⟨σ', H', I', q⟩ => ⟨σ', H', I'.unwish, q⟩
    | .brk, ⟨σ', H', I', q⟩ => ⟨σ', H', I'.unwish, q⟩
    | .cont, ⟨σ', H', I', q⟩ => ⟨σ', H', I'.unwish, q⟩
    | .ret _, ⟨v, σ', H', I', r, q⟩ => ⟨v, σ', H', I'.unwish, r, q⟩) fun _ _ z => False.elim z
/-- one statement, then the rest: the rest is kept apart while the one is walked -/
theorem seq_k {t u : TS} {D : Ends} {σ : St} {H : Hp} (h : ∀ R : St → Hp → Prop, (∀ σ' H', u D σ' H' → R σ' H') → t { D with nx := R } σ H) : tSeq t u D σ H := h _ fun _ _ z => z
end L2

set_option maxHeartbeats 1000000
namespace L2
open PySem PySem.Spec PyProof.Rows FrM MoM TxM NumText
/-! ### numbers shown -/
theorem str_int {i : Int} (h : 0 ≤ i) : Str.ofString (toString i) = mkS (dg i.toNat) := by
  obtain ⟨n, rfl⟩ := Int.eq_ofNat_of_zero_le h
  rw [Int.toNat_natCast]
  exact str_dg n
/-- fractions and mobiles that the texts here have -/
structure Gf (f : Fr) : Prop where
  lo : Lo f
  t : f.1.toNat < 10 ^ 61
  b : f.2.toNat < 10 ^ 61
abbrev GM (m : Mo) : Prop := m.All Gf Gf
theorem GM.lo {m : Mo} (h : GM m) : LoM m := Mo.All.mono (fun _ a => a.lo) (fun _ a => a.lo) h
theorem GM.run {m : Mo} (h : GM m) : RunLe 61 (moT m) := runs_moT (by decide) (Mo.All.mono (fun _ a => ⟨a.t, a.b⟩) (fun _ a => ⟨a.t, a.b⟩) h)
theorem frT_len {f : Fr} (h : Gf f) : (frT f).length ≤ 123 := by
  have h1 := dg_len (k := 61) (by decide) h.t
  have h2 := dg_len (k := 61) (by decide) h.b
  unfold frT
  split
  · omega
  · simp only [List.length_append, List.length_cons]; omega
theorem moT_len : ∀ {m : Mo}, GM m → (moT m).length + 251 ≤ m.nw * 374
  | .wt f, h => by
    have := frT_len h
    simp only [moT, Mo.nw]
    omega
  | .rod l x r y, h => by
    have h1 := frT_len h.1
    have h2 := frT_len h.2.1
    have h3 := moT_len h.2.2.1
    have h4 := moT_len h.2.2.2
    simp only [moT, Mo.nw, List.length_append, List.length_cons, List.length_nil]
    omega
theorem count_dg (n : Nat) : (dg n).count 91 = 0 := List.count_eq_zero.mpr fun h => by
  have := isD_iff.mp (dg_all n 91 h)
  omega
theorem count_frT (f : Fr) : (frT f).count 91 = 0 := by
  unfold frT
  split
  · exact count_dg _
  · simp [List.count_append, List.count_cons, count_dg]
theorem count_moT : ∀ m : Mo, (moT m).count 91 + 1 = m.nw
  | .wt f => by simp only [moT, Mo.nw, count_frT]
  | .rod l x r y => by
    have h1 := count_moT x
    have h2 := count_moT y
    simp only [moT, Mo.nw, List.count_append, List.count_cons, count_frT, List.count_nil]
    simp
    omega
theorem frT_ne (f : Fr) : frT f ≠ [] := by
  obtain ⟨c, r, e, _⟩ := frT_head (f := f)
  rw [e]; simp
theorem moT_ne (m : Mo) : moT m ≠ [] := by
  cases m with
  | wt f => exact frT_ne f
  | rod l x r y => simp [moT]
theorem pMo_depth : ∀ (n : Nat) (t : Pl) (m : Mo) (r : Pl), pMo n t = some (m, r) → m.depth ≤ n := by
  have wt : ∀ (n : Nat) (t : Pl) (m : Mo) (r : Pl), (pFr t).map (fun p => (Mo.wt p.1, p.2)) = some (m, r) → m.depth ≤ n := by
    intro n t m r h
    cases hf : pFr t with
    | none => rw [hf] at h; cases h
    | some p =>
      rw [hf] at h
      simp only [Option.map_some, Option.some.injEq, Prod.mk.injEq] at h
      obtain ⟨hm, hr⟩ := h
      subst hm
      exact Nat.zero_le _
  intro n
  induction n with
  | zero => exact wt 0
  | succ n ih =>
    intro t m r h
    cases hc : pCh 91 t with
    | none => rw [pMo_wt hc] at h; exact wt _ t m r h
    | some t1 =>
      simp only [pMo, hc, Option.bind_eq_some_iff, Option.map_eq_some_iff] at h
      obtain ⟨l, _, t3, _, x, hx, t5, _, q, _, t7, _, y, hy, t9, _, e⟩ := h
      cases e
      have h1 := ih _ _ _ hx
      have h2 := ih _ _ _ hy
      simp only [Mo.depth]
      omega
/-- the numbers of a mobile whose text has no long run -/
def S7 (f : Fr) : Prop := Sm 700 f.1 ∧ Sm 700 f.2
theorem dg_back {n : Nat} (h : (dg n).length ≤ 200) : Sm 700 (n : Int) := by
  unfold dg at h
  rw [List.length_map] at h
  exact sm_ten ((Nat.length_toDigits_le_iff (by decide) (by decide)).mp h)
theorem frT_back {f : Fr} (h : Lo f) (hr : RunLe 200 (frT f)) : S7 f := by
  have h1 := h.t
  have h2 := h.b
  have e1 : ((f.1.toNat : Nat) : Int) = f.1 := Int.toNat_of_nonneg (by omega)
  have e2 : ((f.2.toNat : Nat) : Int) = f.2 := Int.toNat_of_nonneg (by omega)
  unfold frT at hr
  split at hr
  · rename_i h3
    refine ⟨?_, ?_⟩
    · rw [← e1]; exact dg_back (hr [] _ [] (by simp) (dg_all _))
    · rw [h3]; show (1 : Int).natAbs < 2 ^ 700; decide +kernel
  · refine ⟨?_, ?_⟩
    · rw [← e1]; exact dg_back (hr [] (dg f.1.toNat) (47 :: dg f.2.toNat) (by simp) (dg_all _))
    · rw [← e2]; exact dg_back (hr (dg f.1.toNat ++ [47]) (dg f.2.toNat) [] (by simp) (dg_all _))
theorem moT_back : ∀ {m : Mo}, LoM m → RunLe 200 (moT m) → m.All S7 S7
  | .wt f, h, hr => frT_back h hr
  | .rod l x r y, h, hr => by
    have r0 : RunLe 200 (frT l ++ 58 :: (moT x ++ 32 :: (frT r ++ 58 :: (moT y ++ [93])))) := RunLe.tail (a := [91]) hr
    have r1 : RunLe 200 (moT x ++ 32 :: (frT r ++ 58 :: (moT y ++ [93]))) := RunLe.tail (a := [58]) r0.tail
    have r2 : RunLe 200 (frT r ++ 58 :: (moT y ++ [93])) := RunLe.tail (a := [32]) r1.tail
    have r3 : RunLe 200 (moT y ++ [93]) := RunLe.tail (a := [58]) r2.tail
    exact ⟨frT_back h.1 r0.head, frT_back h.2.1 r2.head, moT_back h.2.2.1 r1.head, moT_back h.2.2.2 r3.head⟩
/-! ### parts of texts, by a number -/
theorem slice_toN (t : Pl) (n : Nat) (hn : n ≤ t.length) : Txt.slice (mkS t) none (some (n : Int)) = mkS (t.take n) := by
  have := slice_to (t.take n) (t.drop n)
  rw [List.take_append_drop, List.length_take, Nat.min_eq_left hn] at this
  exact this
theorem slice_fromN (t : Pl) (n : Nat) : Txt.slice (mkS t) (some (n : Int)) none = mkS (t.drop n) := by
  rw [slice_ij t (some (n : Int)) none (min n t.length) t.length (by simp only [clipI]; rw [if_neg (by omega)]; omega) rfl (Nat.min_le_right _ _) (Nat.le_refl _)]
  congr 1
  rw [List.take_length]
  rcases Nat.le_total n t.length with h | h
  · rw [Nat.min_eq_left h]
  · rw [Nat.min_eq_right h, List.drop_length, List.drop_eq_nil_of_le h]
theorem cut_one (t : Pl) (n : Nat) : t = t.take n ++ ((t.drop n).take 1 ++ t.drop (n + 1)) := by
  have : t.drop (n + 1) = (t.drop n).drop 1 := by rw [List.drop_drop]
  rw [this, List.take_append_drop, List.take_append_drop]
theorem count_cut {a x y b : Pl} (hx : x.length ≤ 1) : (a ++ (x ++ b)).count 91 ≤ (a ++ (y ++ b)).count 91 + 1 := by
  simp only [List.count_append]
  have := List.count_le_length (a := 91) (l := x)
  omega
theorem cutV_len {xs : List V} {i j : Nat} : (cutV xs (some (i : Int)) (some (j : Int))).length ≤ j - i := by
  unfold cutV
  rw [HT.sIx_nat, HT.sIx_nat]
  refine Nat.le_trans (List.length_take_le _ _) ?_
  rcases Nat.le_total i xs.length with h | h
  · rw [Nat.min_eq_left h]
    exact Nat.sub_le_sub_right (Nat.min_le_left _ _) _
  · rw [Nat.min_eq_right h, Nat.sub_eq_zero_of_le (Nat.min_le_right _ _)]
    exact Nat.zero_le _
theorem cutV_to {xs : List V} {j : Nat} : (cutV xs none (some (j : Int))).length ≤ j := by
  unfold cutV
  rw [HT.sIx_nat, HT.sIx_none]
  exact Nat.le_trans (List.length_take_le _ _) (Nat.le_trans (Nat.sub_le _ _) (Nat.min_le_left _ _))
theorem cutV_int {ns : List Int} {lo hi : Option Int} {x : V} (h : x ∈ cutV (ns.map V.int) lo hi) : ∃ c, x = .int c := by
  unfold cutV at h
  obtain ⟨c, _, e⟩ := List.mem_map.mp (List.mem_of_mem_drop (List.mem_of_mem_take h))
  exact ⟨c, e.symm⟩
/-- texts joined: how long they may be -/
theorem cat_sz {a b : Pl} {i j : Nat} (ha : a.length ≤ i) (hb : b.length ≤ j) (h : i + j ≤ 1000000) : (mkS a).length + (mkS b).length ≤ sizeLine := by
  rw [mkS_length, mkS_length, sizeLine_eq]
  exact Nat.le_trans (Nat.add_le_add ha hb) (Nat.le_trans h (by decide))
theorem sz_app {a b : Pl} {i j : Nat} (ha : a.length ≤ i) (hb : b.length ≤ j) : (a ++ b).length ≤ i + j := by
  rw [List.length_append]; exact Nat.add_le_add ha hb
theorem rod_len {l r : Fr} {x y : Mo} {n : Nat} (h : (moT (.rod l x r y)).length ≤ n) : (frT l).length ≤ n ∧ (moT x).length ≤ n ∧ (frT r).length ≤ n ∧ (moT y).length ≤ n := by
  simp only [moT, List.length_append, List.length_cons, List.length_nil] at h
  omega
theorem frT_two_len {f : Fr} {n : Nat} (hb : f.2 ≠ 1) (h : (frT f).length ≤ n) : (dg f.1.toNat).length ≤ n ∧ (dg f.2.toNat).length ≤ n := by
  unfold frT at h
  rw [if_neg hb, List.length_append, List.length_cons] at h
  omega
/-- what the law needs of its text -/
structure BaseT (m : Mo) : Prop where
  len : (moT m).length ≤ 3000
  run : RunLe 61 (moT m)
  cnt : (moT m).count 91 ≤ 6
  dep : m.depth ≤ 63
  self : pMo 63 (moT m) = some (m, [])
  lo : LoM m
  s7 : m.All S7 S7
theorem GM.base {m : Mo} (g : GM m) (h : m.nw ≤ 7) : BaseT m := by
  have h1 := moT_len g
  have h2 := count_moT m
  have h3 := Mo.depth_lt m
  have hd : m.depth ≤ 63 := by omega
  have hs := pMo_moT m 63 [] g.lo hd .nil
  rw [List.append_nil] at hs
  exact ⟨by omega, g.run, by omega, hd, hs, g.lo, moT_back g.lo (g.run.mono (by decide))⟩
theorem BaseT.spoil {m : Mo} (B : BaseT m) {a x y b : Pl} (e : moT m = a ++ (y ++ b)) (hx : x.length ≤ 1) : (a ++ (x ++ b)).length ≤ 60000 ∧ RunLe 200 (a ++ (x ++ b)) ∧ (a ++ (x ++ b)).count 91 ≤ 63 := by
  have h1 := B.len
  have h2 := B.cnt
  have h3 := B.run
  have h4 := count_cut (a := a) (x := x) (y := y) (b := b) hx
  rw [e] at h1 h2 h3
  refine ⟨?_, (RunLe.spoil x h3 hx).mono (by decide), by omega⟩
  simp only [List.length_append] at h1 ⊢
  omega
/-! ### a display of texts -/
def mkC (c : Str × Nat × Pos) : Expr := .Constant (.str c.1) c.2.1 c.2.2
def strE : Expr → Option (Str × Nat × Pos)
  | .Constant (.str s) k p => some (s, k, p)
  | _ => none
theorem pa_cs {X : Cx} (cs : List (Str × Nat × Pos)) : PA X (cs.map mkC) (fun _ H Q => Q (cs.map fun c => V.str c.1) H) := by
  induction cs with
  | nil => exact pa_nil
  | cons c cs ih => exact pa_cons (X := X) (pe_str (x := c.1) (j := c.2.1) (pos := c.2.2)) ih rfl
theorem pa_strs {X : Cx} {es : List Expr} {ss : List Str} (h : es = (es.filterMap strE).map mkC) (h2 : (es.filterMap strE).map (·.1) = ss) : PA X es (fun _ H Q => Q (ss.map .str) H) := by
  generalize es.filterMap strE = cs at h h2
  subst h h2
  rw [List.map_map]
  exact pa_cs cs
theorem swaps_lst {es : List Expr} {pos : Pos} {t : Option Expr} {n : Nat} {env : Env} : swapsWith (.List es pos) t n env = pure false := rfl
theorem swaps_bin {a b : Expr} {op} {pos : Pos} {t : Option Expr} {n : Nat} {env : Env} : swapsWith (.BinOp a op b pos) t n env = pure false := rfl
/-- one handler without a name, «except D:» -/
def tTry0 (K : PySem.W.Frag) (D : Addr) (tb : TSx) (th : TS) : TS := fun Ds σ H => tb Ds (fun σ' cls _ H' => ∃ C, cls = .ref C ∧ PySem.W.subIn K (.ref C) (.ref D) = some true ∧ th Ds σ' H') σ H
theorem ps_try0 {X : Cx} {st b₀ : Stmt} {suite : List Stmt} {tb : TSx} {th : TS} {x : Str} {D : Addr} {np hpos pos : Pos} (hst : X.stack = X.env :: X.outer) (hfr : X.env.frame = some X.env.locals) (hex : X.ex = [])
    (hb : PSx X st tb) (hg : Gl X x) (hm : X.mg x = some (.ref D)) (hD : ExcCls X.K D) (hs : ∀ e, PSs (X.hnd e) (b₀ :: suite) th) (hd : (x == ("__debug__" : Str)) = false := by decide) :
    PS X (.Try [st] [.ExceptHandler (some (.Name x np)) none (b₀ :: suite) hpos] [] [] pos) (tTry0 X.K D tb th) := by
  intro pins s σ H Ds I h
  refine wpAny_Try_except (wpAny_execs_cons (wpAny_mono (hb pins s σ H Ds _ I h) (fun f s1 q => ?_) fun x s' z => ?_))
  · cases f with
    | next => exact wpAny_execs_nil (wpAny_execs_nil q)
    | ret v => exact q
    | brk => exact q
    | cont => exact q
  · obtain ⟨σ', s₁, H₁, I₁, a, C, t, H₂, B, rfl, F, C', hC, hsub, hrun⟩ := z
    cases hC
    rw [hst] at F
    have hA : X.A.frames = some (X.env :: X.outer) := by rw [I.ok.frames, hst]
    refine wpAny_looks_onW hA hfr F.fly fun h₄ held₄ sm₄ => ?_
    refine wpAny_landsW held₄ fun h₅ fl₅ sm₅ => ?_
    have un₅ := F.un' fl₅.1 (sm₄.trans sm₅)
    have I₅ : Inv X pins σ' H₂ { s' with heap := h₅ } := I₁.call' (ch := []) F.os (by rw [hst]; exact un₅) (F.hok' fl₅.1) F.bare (fun b hb => absurd hb (by simp))
    obtain ⟨ob, hob, hobc⟩ := fl₅.there
    refine wpAny_handleBy_cons (codeAny_handlers_test (ld_glob (X := X.hnd a) (I₅.hnd a) hg hm ?_ hd)) (by intro q; cases q)
    refine exc_matches (K := X.K) I₅.kIn hD.cls hD.ty hD.base hsub hob hobc ?_
    refine codeAny_handlers_suite ?_
    refine lands_againW fl₅ fun h₆ fl₆ sm₆ => ?_
    have un₆ := F.un' fl₆.1 ((sm₄.trans sm₅).trans sm₆)
    have I₆ : Inv X pins σ' H₂ { s' with heap := h₆ } := I₁.call' (ch := []) F.os (by rw [hst]; exact un₆) (F.hok' fl₆.1) F.bare (fun b hb => absurd hb (by simp))
    refine wpAny_mono (hs a pins _ _ _ _ (I₆.hnd a) hrun) (fun f s₉ q => ?_) fun _ _ z => False.elim z
    cases f with
    | next =>
      obtain ⟨σ'', H'', J, q⟩ := q
      exact ⟨_, _, J.unhnd I.ok, q⟩
    | ret v =>
      obtain ⟨u, σ'', H'', J, r, q⟩ := q
      exact ⟨u, _, _, J.unhnd I.ok, r, q⟩
    | brk =>
      obtain ⟨σ'', H'', J, q⟩ := q
      exact ⟨_, _, J.unhnd I.ok, q⟩
    | cont =>
      obtain ⟨σ'', H'', J, q⟩ := q
      exact ⟨_, _, J.unhnd I.ok, q⟩
/-- measures of loops -/
def mI (i : Nat) (σ : St) : Nat := match σ[i]? with | some (some (.int y)) => y.toNat | _ => 0
def mSp (r : Addr) (n : Nat) (H : Hp) : Nat := match H r with | some (.ins _ _ [_, (_, .int i)]) => n - i.toNat | _ => 0
theorem mSp_of {r : Addr} {n : Nat} {H : Hp} {C dx : Addr} {x : Str × V} {f : Str} {i : Int} (h : H r = some (.ins C dx [x, (f, .int i)])) : mSp r n H = n - i.toNat := by
  unfold mSp
  rw [h]
end L2

set_option maxHeartbeats 4000000
set_option hygiene false
local macro_rules | `(tactic| walk_at "vc") => `(tactic| simp only [L2.tAsg, L2.tRet, L2.tOp, L2.tUn, L2.tTest, L2.tVar, L2.tC, L2.gName, L2.gSub, L2.rI, L2.rI0, L2.rU, L2.rNe, L2.rEq, L2.tIfS, L2.tNext, L2.tCall, L2.tCons, L2.tNil, L2.tTup, L2.tLst, L2.tCB, L2.tB, L2.tNot, L2.tNotV, L2.tAnd, L2.tOr, L2.tAndV, L2.tOrV, L2.tDrop, L2.tRaise, L2.tTry, L2.tTry0, L2.tFstr, L2.start, L2.capS, L2.tFld_def, L2.sFld_def, L2.tDyn, L2.tMake_def, L2.tBM, L2.tComp, L2.iList, L2.tFor_def, L2.tSl, L2.tPart, L2.tNoPart,
  List.map_cons, List.map_nil, List.length_cons, List.length_nil, List.replicate, List.cons_append, List.nil_append, List.append_nil, Nat.zero_add, Nat.reduceAdd, Nat.reduceSub, List.getElem?_cons_zero, List.getElem?_cons_succ, List.set_cons_zero, List.set_cons_succ, Option.some.injEq, Option.join_some, L2.V.int.injEq, L2.V.bl.injEq, L2.V.ref.injEq, L2.V.str.injEq, exists_eq_left, exists_eq_left', exists_eq', exists_eq, and_true, true_and, List.cons.injEq, and_assoc, exists_and_left, exists_and_right, L2.scal_int, L2.scal_bl, L2.scal_str,
  decide_eq_true_eq, decide_eq_false_iff_not, Bool.not_eq_true', Bool.not_true, Bool.not_false, Bool.false_eq_true, Bool.true_eq_false, if_true, if_false, reduceIte, decide_true, decide_false, Int.cast_ofNat_Int, eq_self, not_true_eq_false, not_false_eq_true, Int.reduceEq, Int.reduceLT, Int.zero_add])
local macro_rules | `(tactic| walk_at "gm") => `(tactic| repeat (first | (refine L2.fr0 (by assumption) ?_) | (refine L2.fr1 (by assumption) ?_) | (refine And.intro (L2.mulOkS (by assumption) (by assumption) (by decide)) ?_) | (refine hR _ _ ?_; clear hR; try clear R) | (refine L2.seq_k fun R hR => ?_) | walk_at "vc"))
local macro_rules | `(tactic| walk_at "v") => `(tactic| repeat (first | (refine hR _ _ ?_; clear hR; try clear R) | (refine L2.seq_k fun R hR => ?_) | walk_at "vc"))

namespace K4
open PySem PySem.Spec PyProof.Rows L2 FrM MoM TxM
def top (i : Nat) : Stmt := PySem.Challenge.pw_hangmobile_k04_texts_refused.main.body.getD i (.Pass ⟨0, 0, 0, 0⟩)
def inClass (st : Stmt) (i : Nat) : Stmt := match st with
  | .ClassDef _ _ _ body _ _ _ _ _ _ _ => body.getD i (.Pass ⟨0, 0, 0, 0⟩)
  | _ => .Pass ⟨0, 0, 0, 0⟩
set_option genSizeOf false in
set_option genInjectivity false in
set_option genSizeOfSpec false in
structure Adr (K : PySem.W.Frag) (mg : Str → Option Value) : Type where
  c_MobileError : Addr
  c_NoNumber : Addr
  c_NoPlace : Addr
  c_NoText : Addr
  c_Hung : Addr
  c_Weight : Addr
  c_Rod : Addr
  c_Reader : Addr
  k_NOUGHT : Addr
  tk_FIGURES : Tok
  g_MobileError : mg "MobileError" = some (.ref c_MobileError)
  g_NoNumber : mg "NoNumber" = some (.ref c_NoNumber)
  g_NoPlace : mg "NoPlace" = some (.ref c_NoPlace)
  g_NoText : mg "NoText" = some (.ref c_NoText)
  g_Hung : mg "Hung" = some (.ref c_Hung)
  g_Weight : mg "Weight" = some (.ref c_Weight)
  g_Rod : mg "Rod" = some (.ref c_Rod)
  g_Reader : mg "Reader" = some (.ref c_Reader)
  g_NOUGHT : mg "NOUGHT" = some (.ref k_NOUGHT)
  q_NOUGHT : ∀ H : Hp, SqT K H k_NOUGHT [.int 0, .int 1]
  g_FIGURES : mg "FIGURES" = some (.str "0123456789" tk_FIGURES)
  x_MobileError : ExcCls K c_MobileError
  x_NoNumber : ExcCls K c_NoNumber
  x_NoText : ExcCls K c_NoText
  l_Weight : Cls K c_Weight
  l_Rod : Cls K c_Rod
  l_Reader : Cls K c_Reader
  ne_WR : c_Weight ≠ c_Rod
  a_amount : NoAttr K c_Weight "amount"
  a_left_arm : NoAttr K c_Rod "left_arm"
  a_left : NoAttr K c_Rod "left"
  a_right_arm : NoAttr K c_Rod "right_arm"
  a_right : NoAttr K c_Rod "right"
  a_text : NoAttr K c_Reader "text"
  a_spot : NoAttr K c_Reader "spot"
  y_Weight : ∀ {H : Hp} {a dx : Addr} {fs : List (Str × V)}, H a = some (.ins c_Weight dx fs) → TyOf K H (.ref a) (.ref c_Weight)
  y_Rod : ∀ {H : Hp} {a dx : Addr} {fs : List (Str × V)}, H a = some (.ins c_Rod dx fs) → TyOf K H (.ref a) (.ref c_Rod)
  n_abs : mg "abs" = none
  n_len : mg "len" = none
  n_isinstance : mg "isinstance" = none
  n_int : mg "int" = none
  n_bool : mg "bool" = none
  n_tuple : mg "tuple" = none
  n_str : mg "str" = none
  n_ValueError : mg "ValueError" = none
  s_TM : PySem.W.subIn K (.ref c_NoText) (.ref c_MobileError) = some true
  s_TT : PySem.W.subIn K (.ref c_NoText) (.ref c_NoText) = some true
  t_TV : PySem.W.kitOne K (.ref c_NoText) (.type "ValueError") = some true
  t_TT : PySem.W.kitOne K (.ref c_NoText) (.ref c_NoText) = some true
  t_TNP : PySem.W.kitAny K (.ref c_NoText) [.ref c_NoNumber, .ref c_NoPlace] = some false
  t_WW : PySem.W.kitOne K (.ref c_Weight) (.ref c_Weight) = some true
  t_WR : PySem.W.kitOne K (.ref c_Weight) (.ref c_Rod) = some false
  t_RW : PySem.W.kitOne K (.ref c_Rod) (.ref c_Weight) = some false
  t_RR : PySem.W.kitOne K (.ref c_Rod) (.ref c_Rod) = some true
  t_ii : PySem.W.kitOne K (.type "int") (.type "int") = some true
  t_ib : PySem.W.kitOne K (.type "int") (.type "bool") = some false
  t_tt : PySem.W.kitOne K (.type "tuple") (.type "tuple") = some true
def Adr.v_FIGURES {K : PySem.W.Frag} {mg : Str → Option Value} (_ : Adr K mg) : Str := "0123456789"
section
variable {P : Program} {w : World} {K : PySem.W.Frag} {mg : Str → Option Value} {base : Heap}
/-! ### common_divisor, fraction -/
def sp_cd : Sp := fun vs H Q _ => ∃ a b : Int, vs = [.int a, .int b] ∧ 0 ≤ a ∧ 0 ≤ b ∧ Q (.int (Int.gcd a b)) H
theorem sc_common_divisor : FnScope ["one", "other", "rest"] ["one", "other"] (defScope (top 7)) := ⟨rfl, rfl, rfl, by decide +kernel, rfl, by decide +kernel, by decide +kernel⟩
theorem ok_common_divisor {f : Addr} {fd : FuncData} (F : Fun K "common_divisor" "common_divisor" (top 7) f fd) : FnOk P w K mg base (CX1 P w) 1 f fd ["one", "other"] sp_cd := by
  have S := sc_common_divisor
  refine F.okN S (fun vs H Q E h => ?_) (fun cdv A' outer s H vs Q E hr h => ?_)
  · obtain ⟨a, b, rfl, _⟩ := h
    rfl
  · obtain ⟨a, b, rfl, ha, hb, k⟩ := h
    refine ⟨_, (pss_cons (ps_while PassesOwn.never (pt_cmpR op_ne (pv 1) pe_int (nomark _)) (pss_cons (ps_set (i := 2) S.nd rfl (Or.inl rfl) (pe_op op_mod (pv 0) (pv 1)))
      (pss_cons (ps_set (i := 0) S.nd rfl (Or.inl rfl) (pv 1))
      (pss_one (ps_set (i := 1) S.nd rfl (Or.inl rfl) (pv 2))))))
      (pss_one (ps_ret (pv 0)))), ?_⟩
    refine while_k (fun σ H' => ∃ x y r, σ = [some (.int x), some (.int y), r] ∧ 0 ≤ x ∧ 0 ≤ y ∧ Int.gcd x y = Int.gcd a b ∧ H' = H) (fun σ _ => mI 1 σ) ⟨a, b, none, rfl, ha, hb, rfl, rfl⟩ ?_
    rintro _ _ K' ⟨x, y, r, rfl, hx, hy, hg, rfl⟩ kt kf
    walk_at "v"
    by_cases h0 : y = 0
    · subst h0
      simp only [decide_true, Bool.not_true]
      refine kf _ ?_
      walk_at "v"
      rw [Int.gcd_zero_right] at hg
      have : (x.natAbs : Int) = x := by omega
      rw [← hg, this] at k
      exact k
    · simp only [h0, decide_false, Bool.not_false]
      refine kt _ ?_
      walk_at "v"
      have hy' : 0 < y := by omega
      refine ⟨hy', ?_⟩
      walk_at "v"
      exact ⟨hy, Int.emod_nonneg x h0, (gcd_turn hx).trans hg, toNat_mod hy'⟩
def sp_fraction (N : Addr) : Sp := fun vs H Q E => ∃ a b : Int, vs = [.int a, .int b] ∧ (b = 0 → E (.ref N) none H) ∧ (b ≠ 0 → Sm 8999 b ∧ ∀ v H', Same H H' → FrAt H' v (nt a b) (nb a b) → Q v H')
theorem sc_fraction : FnScope ["top", "bottom", "divisor"] ["top", "bottom"] (defScope (top 8)) := ⟨rfl, rfl, rfl, by decide +kernel, rfl, by decide +kernel, by decide +kernel⟩
theorem ok_fraction (A : Adr K mg) {f : Addr} {fd : FuncData} (F : Fun K "fraction" "fraction" (top 8) f fd) (F_common_divisor : Fnc P w K mg base "common_divisor" 1 ["one", "other"] [] sp_cd) :
    FnOk P w K mg base (CX1 P w) 2 f fd ["top", "bottom"] (sp_fraction A.c_NoNumber) := by
  have S := sc_fraction
  refine F.okE S (fun vs H Q E h => ?_) (fun cdv A' outer s H vs Q E hr h => ?_)
  · obtain ⟨a, b, rfl, _⟩ := h
    rfl
  · obtain ⟨a, b, rfl, h0, h1⟩ := h
    have hr_common_divisor : Room 1 _ := hr.mono (by decide)
    refine ⟨_, (pss_cons (ps_if (pt_cmpR op_eq (pv 1) pe_int (nomark _)) (pss_one (ps_raise raises_cx hr.hd A.x_NoNumber rfl A.g_NoNumber pe_str)) pss_nil)
      (pss_cons (ps_set (i := 2) S.nd rfl (Or.inl rfl) (pe_fn F_common_divisor hr_common_divisor passes_cx (pa_cons (pe_callB call_abs (by rfl) A.n_abs bt_abs (pa_cons (pv 0) pa_nil)) (pa_cons (pe_callB call_abs (by rfl) A.n_abs bt_abs (pa_cons (pv 1) pa_nil)) pa_nil))))
      (pss_cons (ps_if (pt_cmpR op_lt (pv 1) pe_int (nomark _)) (pss_one (ps_set (i := 2) S.nd rfl (Or.inl rfl) (pe_un un_neg (pv 2)))) pss_nil)
      (pss_one (ps_ret (pe_tup (pa_cons (pe_op op_fdivG (pv 0) (pv 2)) (pa_cons (pe_op op_fdivG (pv 1) (pv 2)) pa_nil)))))))), ?_⟩
    walk_at "v"
    by_cases hb : b = 0
    · simp only [hb, if_true]
      exact h0 hb
    · simp only [hb, if_false]
      obtain ⟨hs, k⟩ := h1 hb
      have hsd : CFdN a (sd a b) := ⟨sd_ne hb, Sm.log2 (n := 9000) (by
        have := gcd_le (a := a) hb
        unfold Sm at *
        rw [sd_abs]
        exact Nat.lt_of_le_of_lt this (Nat.lt_trans hs (by decide +kernel))) (sd_ne hb)⟩
      walk_at "v"
      refine ⟨_, _, rfl, ?_, ?_, ?_⟩
      · rw [abs_if]; omega
      · rw [abs_if]; omega
      · rw [abs_if, abs_if]
        walk_at "v"
        have eg : (((a.natAbs : Int).gcd (b.natAbs : Int) : Nat) : Int) = (Int.gcd a b : Int) := by
          show ((Nat.gcd (a.natAbs : Int).natAbs (b.natAbs : Int).natAbs : Nat) : Int) = _
          rw [Int.natAbs_natCast, Int.natAbs_natCast]
          rfl
        rw [eg]
        have fin : CFdN a (sd a b) ∧ CFdN b (sd a b) ∧ ([V.int (a.fdiv (sd a b)), V.int (b.fdiv (sd a b))] : List V).length ≤ sizeLine ∧ ∀ p, H p = none → Q (V.ref p) (upd H p (.tup [V.int (a.fdiv (sd a b)), V.int (b.fdiv (sd a b))])) :=
          ⟨hsd, hsd, by show 2 ≤ sizeLine; decide, fun p hp => k _ _ (same_upd hp) ⟨p, rfl, upd_same⟩⟩
        by_cases hn : b < 0
        · have e : sd a b = -(Int.gcd a b : Int) := if_pos hn
          rw [e] at fin
          simp only [hn, if_true]
          walk_at "v"
          exact fin
        · have e : sd a b = (Int.gcd a b : Int) := if_neg hn
          rw [e] at fin
          simp only [hn, if_false]
          walk_at "v"
          exact fin

def sp_under (K : PySem.W.Frag) : Sp := fun vs H Q E => ∃ p q a b c d, vs = [.ref p, .ref q] ∧ SqT K H p [.int a, .int b] ∧ SqT K H q [.int c, .int d] ∧ Sm 4000 a ∧ Sm 4000 b ∧ Sm 4000 c ∧ Sm 4000 d ∧ Q (.bl (decide (a * d < c * b))) H
theorem sc_under : FnScope ["one", "other"] ["one", "other"] (defScope (top 9)) := ⟨rfl, rfl, rfl, by decide +kernel, rfl, by decide +kernel, by decide +kernel⟩
theorem ok_under {f : Addr} {fd : FuncData} (F : Fun K "under" "under" (top 9) f fd) : FnOk P w K mg base (CX1 P w) 1 f fd ["one", "other"] (sp_under K) := by
  have S := sc_under
  refine F.okN S (fun vs H Q E h => ?_) (fun cdv A' outer s H vs Q E hr h => ?_)
  · obtain ⟨x, y, a, b, c, d, rfl, _⟩ := h
    rfl
  · obtain ⟨x, y, a, b, c, d, rfl, hx, hy, ha, hb, hc, hd, k⟩ := h
    refine ⟨_, (pss_one (ps_ret (pe_cmpR op_lt (pe_op op_mulB (pe_ix (ixT (K := K) rfl) (pv 0) pe_int (fun _ _ => rfl)) (pe_ix (ixT (K := K) rfl) (pv 1) pe_int (fun _ _ => rfl))) (pe_op op_mulB (pe_ix (ixT (K := K) rfl) (pv 1) pe_int (fun _ _ => rfl)) (pe_ix (ixT (K := K) rfl) (pv 0) pe_int (fun _ _ => rfl))) (nomark _)))), ?_⟩
    walk_at "v"
    refine sq0 hx ?_
    walk_at "v"
    refine sq1 hy ?_
    walk_at "v"
    refine ⟨mulOkS ha hd (by decide), ?_⟩
    refine sq0 hy ?_
    walk_at "v"
    refine sq1 hx ?_
    walk_at "v"
    refine ⟨mulOkS hc hb (by decide), ?_⟩
    exact k
/-- above 0, or refused -/
def sp_check (N : Addr) : Sp := fun vs H Q E => ∃ x a b, vs = [x] ∧ FrAt H x a b ∧ Sm 4000 a ∧ Sm 4000 b ∧ (0 < a → Q .non H) ∧ (¬ 0 < a → E (.ref N) none H)
theorem sc_check_above_nought : FnScope ["number"] ["number"] (defScope (top 12)) := ⟨rfl, rfl, rfl, by decide +kernel, rfl, by decide +kernel, by decide +kernel⟩
theorem ok_check (A : Adr K mg) {f : Addr} {fd : FuncData} (F : Fun K "check_above_nought" "check_above_nought" (top 12) f fd) (F_under : Fnc P w K mg base "under" 1 ["one", "other"] [] (sp_under K)) :
    FnOk P w K mg base (CX1 P w) 2 f fd ["number"] (sp_check A.c_NoNumber) := by
  have S := sc_check_above_nought
  refine F.okE S (fun vs H Q E h => ?_) (fun cdv A' outer s H vs Q E hr h => ?_)
  · obtain ⟨x, a, b, rfl, _⟩ := h
    rfl
  · obtain ⟨x, a, b, rfl, ⟨p, rfl, hp⟩, ha, hb, k1, k2⟩ := h
    have hr_under : Room 1 _ := hr.mono (by decide)
    refine ⟨_, (pss_one (ps_if (pt_not (pt_val (pe_fn F_under hr_under passes_cx (pa_cons (pe_glob (v := .ref A.k_NOUGHT) rfl A.g_NOUGHT rfl) (pa_cons (pv 0) pa_nil))))) (pss_one (ps_raise raises_cx hr.hd A.x_NoNumber rfl A.g_NoNumber pe_str)) pss_nil)), ?_⟩
    walk_at "v"
    refine ⟨A.k_NOUGHT, p, 0, 1, a, b, rfl, A.q_NOUGHT H, SqT.of hp, sm_0, sm_1, ha, hb, ?_⟩
    refine ⟨_, rfl, ?_⟩
    have e : decide (0 * b < a * 1) = decide (0 < a) := by rw [Int.zero_mul, Int.mul_one]
    rw [e]
    by_cases h0 : 0 < a
    · simp only [h0, decide_true, Bool.not_true, Bool.false_eq_true, if_false]
      walk_at "v"
      exact k1 h0
    · simp only [h0, decide_false, Bool.not_false, if_true]
      walk_at "v"
      exact k2 h0
def sp_cell (K : PySem.W.Frag) : Sp := fun vs H Q E => ∃ (a : Addr) (ns : List Int) (k : Nat), vs = [.ref a, .int k] ∧ SqL K H a (ns.map V.int) ∧ Q (.int (ns.getD k 0)) H
theorem sc__law_cell_at : FnScope ["_law_script", "_law_k"] ["_law_script", "_law_k"] (defScope (top 21)) := ⟨rfl, rfl, rfl, by decide +kernel, rfl, by decide +kernel, by decide +kernel⟩
theorem ok_cell_at (A : Adr K mg) {f : Addr} {fd : FuncData} (F : Fun K "_law_cell_at" "_law_cell_at" (top 21) f fd) : FnOk P w K mg base (CX1 P w) 1 f fd ["_law_script", "_law_k"] (sp_cell K) := by
  have S := sc__law_cell_at
  refine F.okN S (fun vs H Q E h => ?_) (fun cdv A' outer s H vs Q E hr h => ?_)
  · obtain ⟨a, ns, k, rfl, _⟩ := h
    rfl
  · obtain ⟨a, ns, k, rfl, hs, q⟩ := h
    refine ⟨_, (pss_cons (ps_if (pt_cmpR op_lt (pv 1) (pe_callB (lenK (K := K) rfl) (by rfl) A.n_len bt_len (pa_cons (pv 0) pa_nil)) (nomark _)) (pss_one (ps_ret (pe_ix (ixL (K := K) rfl) (pv 0) (pv 1) (fun _ _ => rfl)))) pss_nil)
      (pss_one (ps_ret pe_int))), ?_⟩
    walk_at "v"
    refine len_ok (.inl ⟨_, hs, rfl⟩) ?_
    walk_at "v"
    rw [List.length_map]
    by_cases hk : k < ns.length
    · have hk' : (k : Int) < (ns.length : Int) := by omega
      simp only [hk', if_true]
      refine ⟨a, _, _, .int (ns.getD k 0), rfl, rfl, hs, atI_nat ?_, q⟩
      rw [List.getElem?_map, List.getD_eq_getElem?_getD, List.getElem?_eq_getElem hk]
      rfl
    · have hk' : ¬ (k : Int) < (ns.length : Int) := by omega
      simp only [hk', if_false]
      walk_at "v"
      have : ns.getD k 0 = 0 := by rw [List.getD_eq_getElem?_getD, List.getElem?_eq_none (by omega)]; rfl
      rw [this] at q
      exact q
def sp_whole : Sp := fun vs H Q E => ∃ i : Int, vs = [.int i] ∧ Q (.bl true) H
theorem sc__law_whole : FnScope ["_law_found"] ["_law_found"] (defScope (top 22)) := ⟨rfl, rfl, rfl, by decide +kernel, rfl, by decide +kernel, by decide +kernel⟩
theorem ok_whole (A : Adr K mg) {f : Addr} {fd : FuncData} (F : Fun K "_law_whole" "_law_whole" (top 22) f fd) : FnOk P w K mg base (CX1 P w) 1 f fd ["_law_found"] sp_whole := by
  have S := sc__law_whole
  refine F.okN S (fun vs H Q E h => ?_) (fun cdv A' outer s H vs Q E hr h => ?_)
  · obtain ⟨i, rfl, _⟩ := h
    rfl
  · obtain ⟨i, rfl, q⟩ := h
    refine ⟨_, (pss_one (ps_ret (pe_and (pe_callB (isiK (K := K) rfl) (by rfl) A.n_isinstance bt_isinstance (pa_cons (pv 0) (pa_cons (pe_bltn (v := .ty "int") rfl A.n_int bt_int rfl) pa_nil))) (pe_one (pe_not (pe_callB (isiK (K := K) rfl) (by rfl) A.n_isinstance bt_isinstance (pa_cons (pv 0) (pa_cons (pe_bltn (v := .ty "bool") rfl A.n_bool bt_bool rfl) pa_nil)))))))), ?_⟩
    walk_at "v"
    refine isi_ok (.of (.int i)) rfl A.t_ii ?_
    walk_at "v"
    refine isi_ok (.of (.int i)) rfl A.t_ib ?_
    walk_at "v"
    exact q
/-! ### making -/
def sp_winit (N cW : Addr) : Sp := fun vs H Q E => ∃ x dx u a b, vs = [.ref x, u] ∧ H x = some (.ins cW dx []) ∧ FrAt H u a b ∧ Sm 4000 a ∧ Sm 4000 b ∧ (0 < a → Q .non (upd H x (.ins cW dx [("amount", u)]))) ∧ (¬ 0 < a → E (.ref N) none H)
theorem sc_Weight___init__ : FnScope ["self", "amount"] ["self", "amount"] (defScope (inClass (top 14) 0)) := ⟨rfl, rfl, rfl, by decide +kernel, rfl, by decide +kernel, by decide +kernel⟩
theorem ok_winit (A : Adr K mg) {f : Addr} {fd : FuncData} (F : Fun K "__init__" "Weight.__init__" (inClass (top 14) 0) f fd) (F_check_above_nought : Fnc P w K mg base "check_above_nought" 2 ["number"] [] (sp_check A.c_NoNumber)) :
    FnOk P w K mg base (CX1 P w) 3 f fd ["self", "amount"] (sp_winit A.c_NoNumber A.c_Weight) := by
  have S := sc_Weight___init__
  refine F.okE S (fun vs H Q E h => ?_) (fun cdv A' outer s H vs Q E hr h => ?_)
  · obtain ⟨x, dx, u, a, b, rfl, _⟩ := h
    rfl
  · obtain ⟨x, dx, u, a, b, rfl, hx, hu, sa, sb, k1, k2⟩ := h
    have hr_check_above_nought : Room 2 _ := hr.mono (by decide)
    refine ⟨_, (pss_cons (ps_expr (pe_fn F_check_above_nought hr_check_above_nought passes_cx (pa_cons (pv 1) pa_nil)))
      (pss_one (ps_fld (pv 0) (pv 1) rfl))), ?_⟩
    walk_at "v"
    refine ⟨u, a, b, rfl, hu, sa, sb, fun h0 => ?_, fun h0 => k2 h0⟩
    walk_at "v"
    exact sfld_ok hx A.l_Weight A.a_amount (by decide) (k1 h0)
theorem mkW_ok {N cW : Addr} {cR : Addr} {E : XK} {u : V} {f : Fr} {H : Hp} {Q : VK} (hu : FrV H u f) (s1 : Sm 4000 f.1) (s2 : Sm 4000 f.2) (k1 : 0 < f.1 → ∀ x H', H x = none → Same H H' → Th cW cR H' (.ref x) (.wt f) → Q (.ref x) H') (k2 : ¬ 0 < f.1 → ∀ H', Same H H' → E (.ref N) none H') :
    rMk cW (sp_winit N cW) [] E [u] H Q := by
  intro x dx hx hd hne
  have sm : Same H (upd (upd H dx (.own x)) x (.ins cW dx [])) := fun b o e => by rw [upd_ne (ne_of_none e hx), upd_ne (ne_of_none e hd)]; exact e
  refine ⟨x, dx, u, f.1, f.2, rfl, upd_same, hu.same sm, s1, s2, fun h0 => ⟨rfl, ?_⟩, fun h0 => k2 h0 _ sm⟩
  rw [upd_upd]
  have sm2 : Same H (upd (upd H dx (.own x)) x (.ins cW dx [("amount", u)])) := fun b o e => by rw [upd_ne (ne_of_none e hx), upd_ne (ne_of_none e hd)]; exact e
  exact k1 h0 x _ hx sm2 ⟨x, dx, u, rfl, upd_same, hu.same sm2⟩
def sp_rinit (N cR : Addr) : Sp := fun vs H Q E => ∃ x dx u1 u2 u3 u4 a b c d, vs = [.ref x, u1, u2, u3, u4] ∧ H x = some (.ins cR dx []) ∧ FrAt H u1 a b ∧ FrAt H u3 c d ∧ Sm 4000 a ∧ Sm 4000 b ∧ Sm 4000 c ∧ Sm 4000 d ∧
  (0 < a → 0 < c → Q .non (upd H x (.ins cR dx [("left_arm", u1), ("left", u2), ("right_arm", u3), ("right", u4)]))) ∧ (¬ (0 < a ∧ 0 < c) → E (.ref N) none H)
theorem sc_Rod___init__ : FnScope ["self", "left_arm", "left", "right_arm", "right"] ["self", "left_arm", "left", "right_arm", "right"] (defScope (inClass (top 15) 0)) := ⟨rfl, rfl, rfl, by decide +kernel, rfl, by decide +kernel, by decide +kernel⟩
theorem ok_rinit (A : Adr K mg) {f : Addr} {fd : FuncData} (F : Fun K "__init__" "Rod.__init__" (inClass (top 15) 0) f fd) (F_check_above_nought : Fnc P w K mg base "check_above_nought" 2 ["number"] [] (sp_check A.c_NoNumber)) :
    FnOk P w K mg base (CX1 P w) 3 f fd ["self", "left_arm", "left", "right_arm", "right"] (sp_rinit A.c_NoNumber A.c_Rod) := by
  have S := sc_Rod___init__
  refine F.okE S (fun vs H Q E h => ?_) (fun cdv A' outer s H vs Q E hr h => ?_)
  · obtain ⟨x, dx, u1, u2, u3, u4, a, b, c, d, rfl, _⟩ := h
    rfl
  · obtain ⟨x, dx, u1, u2, u3, u4, a, b, c, d, rfl, hx, h1, h3, sa, sb, sc, sd, k1, k2⟩ := h
    have hr_check_above_nought : Room 2 _ := hr.mono (by decide)
    refine ⟨_, (pss_cons (ps_expr (pe_fn F_check_above_nought hr_check_above_nought passes_cx (pa_cons (pv 1) pa_nil)))
      (pss_cons (ps_expr (pe_fn F_check_above_nought hr_check_above_nought passes_cx (pa_cons (pv 3) pa_nil)))
      (pss_cons (ps_fld (pv 0) (pv 1) rfl)
      (pss_cons (ps_fld (pv 0) (pv 2) rfl)
      (pss_cons (ps_fld (pv 0) (pv 3) rfl)
      (pss_one (ps_fld (pv 0) (pv 4) rfl))))))), ?_⟩
    walk_at "v"
    refine ⟨u1, a, b, rfl, h1, sa, sb, fun h0 => ?_, fun h0 => k2 fun z => h0 z.1⟩
    walk_at "v"
    refine ⟨u3, c, d, rfl, h3, sc, sd, fun h0' => ?_, fun h0' => k2 fun z => h0' z.2⟩
    walk_at "v"
    refine sfld_ok hx A.l_Rod A.a_left_arm (by decide) ?_
    walk_at "v"
    refine sfld_ok upd_same A.l_Rod A.a_left (by show 1 < 1000; decide) ?_
    walk_at "v"
    refine sfld_ok upd_same A.l_Rod A.a_right_arm (by show 2 < 1000; decide) ?_
    walk_at "v"
    refine sfld_ok upd_same A.l_Rod A.a_right (by show 3 < 1000; decide) ?_
    walk_at "v"
    rw [upd_upd, upd_upd, upd_upd]
    exact k1 h0 h0'
theorem mkR_ok {N cR cW : Addr} {E : XK} {u1 u2 u3 u4 : V} {l r : Fr} {x y : Mo} {H : Hp} {Q : VK} (h1 : FrV H u1 l) (h2 : Th cW cR H u2 x) (h3 : FrV H u3 r) (h4 : Th cW cR H u4 y) (s1 : Sm 4000 l.1) (s2 : Sm 4000 l.2) (s3 : Sm 4000 r.1) (s4 : Sm 4000 r.2)
    (k1 : 0 < l.1 → 0 < r.1 → ∀ z H', H z = none → Same H H' → Th cW cR H' (.ref z) (.rod l x r y) → Q (.ref z) H') (k2 : ¬ (0 < l.1 ∧ 0 < r.1) → ∀ H', Same H H' → E (.ref N) none H') : rMk cR (sp_rinit N cR) [] E [u1, u2, u3, u4] H Q := by
  intro z dx hx hd hne
  have sm : Same H (upd (upd H dx (.own z)) z (.ins cR dx [])) := fun b o e => by rw [upd_ne (ne_of_none e hx), upd_ne (ne_of_none e hd)]; exact e
  refine ⟨z, dx, u1, u2, u3, u4, l.1, l.2, r.1, r.2, rfl, upd_same, h1.same sm, h3.same sm, s1, s2, s3, s4, fun a0 c0 => ⟨rfl, ?_⟩, fun h0 => k2 h0 _ sm⟩
  rw [upd_upd]
  have sm2 : Same H (upd (upd H dx (.own z)) z (.ins cR dx [("left_arm", u1), ("left", u2), ("right_arm", u3), ("right", u4)])) := fun b o e => by rw [upd_ne (ne_of_none e hx), upd_ne (ne_of_none e hd)]; exact e
  exact k1 a0 c0 z _ hx sm2 ⟨z, dx, u1, u2, u3, u4, rfl, upd_same, h1.same sm2, h2.kp sm2.kp, h3.same sm2, h4.kp sm2.kp⟩
def sp_lowest : Sp := fun vs H Q E => ∃ a b : Int, vs = [.int a, .int b] ∧ 0 < b ∧ Sm 8999 b ∧ ∀ v H', Same H H' → FrV H' v (low a b) → Q v H'
theorem sc__law_lowest : FnScope ["_law_top", "_law_bottom", "_law_one", "_law_other", "_law_rest"] ["_law_top", "_law_bottom"] (defScope (top 23)) := ⟨rfl, rfl, rfl, by decide +kernel, rfl, by decide +kernel, by decide +kernel⟩
theorem ok_lowest (A : Adr K mg) {f : Addr} {fd : FuncData} (F : Fun K "_law_lowest" "_law_lowest" (top 23) f fd) : FnOk P w K mg base (CX1 P w) 1 f fd ["_law_top", "_law_bottom"] sp_lowest := by
  have S := sc__law_lowest
  refine F.okN S (fun vs H Q E h => ?_) (fun cdv A' outer s H vs Q E hr h => ?_)
  · obtain ⟨a, b, rfl, _⟩ := h
    rfl
  · obtain ⟨a, b, rfl, hb, sb, k⟩ := h
    refine ⟨_, (pss_cons (ps_set (i := 2) S.nd rfl (Or.inl rfl) (pe_callB call_abs (by rfl) A.n_abs bt_abs (pa_cons (pv 0) pa_nil)))
      (pss_cons (ps_set (i := 3) S.nd rfl (Or.inl rfl) (pv 1))
      (pss_cons (ps_while PassesOwn.never (pt_cmpR op_gt (pv 3) pe_int (nomark _)) (pss_cons (ps_set (i := 4) S.nd rfl (Or.inl rfl) (pe_op op_mod (pv 2) (pv 3)))
      (pss_cons (ps_set (i := 2) S.nd rfl (Or.inl rfl) (pv 3))
      (pss_one (ps_set (i := 3) S.nd rfl (Or.inl rfl) (pv 4))))))
      (pss_one (ps_ret (pe_tup (pa_cons (pe_op op_fdivP (pv 0) (pv 2)) (pa_cons (pe_op op_fdivP (pv 1) (pv 2)) pa_nil)))))))), ?_⟩
    walk_at "v"
    rw [abs_if]
    have hne : b ≠ 0 := by omega
    have hg := gcd_pos (a := a) hne
    have es : sd a b = (Int.gcd a b : Int) := if_neg (by omega)
    have cf : ∀ z, CFd z (Int.gcd a b : Int) := fun z => ⟨by omega, Sm.log2 (n := 9000) (by
      have := gcd_le (a := a) hne
      unfold Sm at *
      rw [Int.natAbs_natCast]
      exact Nat.lt_of_le_of_lt this (Nat.lt_trans sb (by decide +kernel))) (by omega)⟩
    have e1 : a / (Int.gcd a b : Int) = nt a b := by unfold nt; rw [es, Int.fdiv_eq_ediv_of_nonneg _ (by omega)]
    have e2 : b / (Int.gcd a b : Int) = nb a b := by unfold nb; rw [es, Int.fdiv_eq_ediv_of_nonneg _ (by omega)]
    have eg : (((a.natAbs : Int).gcd b : Nat) : Int) = (Int.gcd a b : Int) := by
      show ((Nat.gcd (a.natAbs : Int).natAbs b.natAbs : Nat) : Int) = _
      rw [Int.natAbs_natCast]
      rfl
    refine while_k (fun σ H' => ∃ x y r, σ = [some (.int a), some (.int b), some (.int x), some (.int y), r] ∧ 0 ≤ x ∧ 0 ≤ y ∧ ((Int.gcd x y : Nat) : Int) = (Int.gcd a b : Int) ∧ H' = H) (fun σ _ => mI 3 σ) ⟨_, b, none, rfl, by omega, by omega, eg, rfl⟩ ?_
    rintro _ _ K' ⟨x, y, r, rfl, hx, hy, hgc, rfl⟩ kt kf
    walk_at "v"
    by_cases h0 : y = 0
    · subst h0
      simp only [Int.lt_irrefl, decide_false]
      refine kf _ ?_
      walk_at "v"
      rw [Int.gcd_zero_right] at hgc
      have : (x.natAbs : Int) = x := by omega
      rw [this] at hgc
      rw [hgc, e1, e2]
      exact ⟨cf _, cf _, by show 2 ≤ sizeLine; decide, fun p hp => k _ _ (same_upd hp) ⟨p, rfl, upd_same⟩⟩
    · have hy' : 0 < y := by omega
      simp only [hy', decide_true]
      refine kt _ ?_
      walk_at "v"
      refine ⟨hy', ?_⟩
      walk_at "v"
      exact ⟨hy, Int.emod_nonneg x h0, by rw [gcd_turn hx]; exact hgc, toNat_mod hy'⟩
theorem low_ok {a b : Int} {H : Hp} {Q : VK} {E : XK} (hb : 0 < b) (sb : Sm 8999 b) (k : ∀ v H', Same H H' → FrV H' v (low a b) → Q v H') : sp_lowest [.int a, .int b] H Q E := ⟨a, b, rfl, hb, sb, k⟩
def sp_mixed : Sp := fun vs H Q E => ∃ c g : Int, vs = [.int c, .int g] ∧ 0 < g ∧ g < 2 ^ 64 ∧ ∀ n : Int, 0 ≤ n → n < 2147483647 → Q (.int n) H
theorem sc__law_mixed : FnScope ["_law_cell", "_law_factor"] ["_law_cell", "_law_factor"] (defScope (top 24)) := ⟨rfl, rfl, rfl, by decide +kernel, rfl, by decide +kernel, by decide +kernel⟩
theorem ok_mixed (A : Adr K mg) {f : Addr} {fd : FuncData} (F : Fun K "_law_mixed" "_law_mixed" (top 24) f fd) : FnOk P w K mg base (CX1 P w) 1 f fd ["_law_cell", "_law_factor"] sp_mixed := by
  have S := sc__law_mixed
  refine F.okN S (fun vs H Q E h => ?_) (fun cdv A' outer s H vs Q E hr h => ?_)
  · obtain ⟨c, g, rfl, _⟩ := h
    rfl
  · obtain ⟨c, g, rfl, h0, h1, k⟩ := h
    refine ⟨_, (pss_one (ps_ret (pe_op op_mod (pe_op op_mulB (pe_op op_add (pv 0) (pe_op op_mod (pv 1) pe_int)) (pv 1)) pe_int))), ?_⟩
    walk_at "v"
    refine ⟨CMul.ok (.inr ⟨by omega, h1⟩), ?_⟩
    exact k _ (Int.emod_nonneg _ (by decide)) (Int.emod_lt_of_pos _ (by decide))
end
end K4

set_option maxHeartbeats 4000000
set_option hygiene false

namespace K4
open PySem PySem.Spec PyProof.Rows L2 FrM MoM TxM
section
variable {P : Program} {w : World} {K : PySem.W.Frag} {mg : Str → Option Value} {base : Heap}
/-! ### the reader: what it reads, what is left -/
def Rd (cD : Addr) (H : Hp) (r : Addr) (tx t : Pl) : Prop := ∃ dx pre, tx = pre ++ t ∧ H r = some (.ins cD dx [("text", .str (mkS tx)), ("spot", .int (pre.length : Nat))])
def sp_at_end (cD : Addr) : Sp := fun vs H Q E => ∃ r tx t, vs = [.ref r] ∧ Rd cD H r tx t ∧ tx.length ≤ 60000 ∧ Q (.bl (decide (t = []))) H
theorem sc_Reader_at_end : FnScope ["self"] ["self"] (defScope (inClass (top 18) 1)) := ⟨rfl, rfl, rfl, by decide +kernel, rfl, by decide +kernel, by decide +kernel⟩
theorem ok_at_end (A : Adr K mg) {f : Addr} {fd : FuncData} (F : Fun K "at_end" "Reader.at_end" (inClass (top 18) 1) f fd) : FnOk P w K mg base (CX1 P w) 1 f fd ["self"] (sp_at_end A.c_Reader) := by
  have S := sc_Reader_at_end
  refine F.okN S (fun vs H Q E h => ?_) (fun cdv A' outer s H vs Q E hr h => ?_)
  · obtain ⟨r, tx, t, rfl, _⟩ := h
    rfl
  · obtain ⟨r, tx, t, rfl, ⟨dx, pre, et, hr'⟩, hl, q⟩ := h
    refine ⟨_, (pss_one (ps_ret (pe_cmpR op_eq (pe_fldK (K := K) rfl (pv 0) rfl) (pe_callB call_len_str (by rfl) A.n_len bt_len (pa_cons (pe_fldK (K := K) rfl (pv 0) rfl) pa_nil)) (nomark _)))), ?_⟩
    walk_at "v"
    refine fld_ok hr' A.l_Reader A.a_spot (by rfl) ?_
    walk_at "v"
    refine fld_ok hr' A.l_Reader A.a_text (by rfl) ?_
    walk_at "v"
    refine ⟨by rw [mkS_length, sizeLine_eq]; omega, ?_⟩
    have e : (((pre.length : Nat) : Int) = ((mkS tx).length : Int)) = (t = []) := by
      rw [mkS_length, et, List.length_append]
      apply propext
      constructor
      · intro h; exact List.length_eq_zero_iff.mp (by omega)
      · intro h; rw [h]; simp
    simp only [e]
    exact q
theorem rd_dyn {Kd : Addr → Prop} {m : Str} {sp : Addr → Sp} {dvs : List V} {r C dx : Addr} {fs : List (Str × V)} {H : Hp} {R : (List V → Hp → VK → XK → Prop) → Prop} (h : H r = some (.ins C dx fs)) (k : Kd C) (l : fs.lookup m = none)
    (q : R fun vs H Q E => sp C (.ref r :: (vs ++ dvs)) H Q E) : rDyn Kd m sp dvs (.ref r) H R := ⟨r, C, dx, fs, rfl, k, h, l, q⟩
abbrev MthR (P : Program) (w : World) (K : PySem.W.Frag) (mg : Str → Option Value) (base : Heap) (A : Adr K mg) (n : Str) (k : Nat) (ps : List Str) (sp : Addr → Sp) : Prop := ∀ C, C = A.c_Reader → Mth P w K mg base C n k ps [] (sp C)
def sp_sees (cD : Addr) : Sp := fun vs H Q E => ∃ r tx t c, vs = [.ref r, .str (mkS [c])] ∧ Rd cD H r tx t ∧ tx.length ≤ 60000 ∧ Q (.bl (decide (t.head? = some c))) H
theorem sc_Reader_sees : FnScope ["self", "sign"] ["self", "sign"] (defScope (inClass (top 18) 2)) := ⟨rfl, rfl, rfl, by decide +kernel, rfl, by decide +kernel, by decide +kernel⟩
theorem ok_sees (A : Adr K mg) {f : Addr} {fd : FuncData} (F : Fun K "sees" "Reader.sees" (inClass (top 18) 2) f fd) (D_at_end : MthR P w K mg base A "at_end" 1 ["self"] sp_at_end) : FnOk P w K mg base (CX1 P w) 2 f fd ["self", "sign"] (sp_sees A.c_Reader) := by
  have S := sc_Reader_sees
  refine F.okN S (fun vs H Q E h => ?_) (fun cdv A' outer s H vs Q E hr h => ?_)
  · obtain ⟨r, tx, t, c, rfl, _⟩ := h
    rfl
  · obtain ⟨r, tx, t, c, rfl, ⟨dx, pre, et, hr'⟩, hl, q⟩ := h
    have hr_at_end : Room 1 _ := hr.mono (by decide)
    refine ⟨_, (pss_one (ps_ret (pe_and (pe_not (pe_m0 D_at_end hr_at_end pass1 (pv 0))) (pe_one (pe_cmpR op_eq (pe_ix ix_str (pe_fldK (K := K) rfl (pv 0) rfl) (pe_fldK (K := K) rfl (pv 0) rfl) (fun _ _ => rfl)) (pv 1) (nomark _)))))), ?_⟩
    walk_at "v"
    refine rd_dyn hr' rfl (by rfl) ?_
    refine ⟨r, tx, t, rfl, ⟨dx, pre, et, hr'⟩, hl, ?_⟩
    walk_at "v"
    cases t with
    | nil =>
      simp only [decide_true, Bool.not_true, Bool.false_eq_true, if_false]
      walk_at "v"
      simpa using q
    | cons d t =>
      have hd : ¬ (d :: t = []) := by simp
      simp only [hd, decide_false, Bool.not_false, if_true]
      walk_at "v"
      refine fld_ok hr' A.l_Reader A.a_text (by rfl) ?_
      walk_at "v"
      refine fld_ok hr' A.l_Reader A.a_spot (by rfl) ?_
      walk_at "v"
      subst et
      refine ixS_at (by omega) ?_
      walk_at "v"
      have e : (mkS [d] = mkS [c]) = ((d :: t).head? = some c) := by rw [mkS_inj]; simp
      simp only [e]
      exact q
end
end K4

set_option maxHeartbeats 4000000
set_option hygiene false

namespace K4
open PySem PySem.Spec PyProof.Rows L2 FrM MoM TxM
section
variable {P : Program} {w : World} {K : PySem.W.Frag} {mg : Str → Option Value} {base : Heap}
/-! ### all but the reader is kept -/
def AdvR (r : Addr) (H H' : Hp) : Prop := ∀ b o, b ≠ r → H b = some o → H' b = some o
theorem AdvR.refl {r : Addr} {H : Hp} : AdvR r H H := fun _ _ _ e => e
theorem AdvR.trans {r : Addr} {H H' H'' : Hp} (a : AdvR r H H') (b : AdvR r H' H'') : AdvR r H H'' := fun c o n e => b c o n (a c o n e)
theorem AdvR.upd {r : Addr} {H : Hp} {o : HO} : AdvR r H (upd H r o) := fun b u n e => by rw [upd_ne n]; exact e
theorem Same.adv {r : Addr} {H H' : Hp} (s : Same H H') : AdvR r H H' := fun b o _ e => s b o e
theorem Rd.ins {cD : Addr} {H : Hp} {r : Addr} {tx t : Pl} (h : Rd cD H r tx t) : ∃ dx y z, H r = some (.ins cD dx [("text", y), ("spot", z)]) := let ⟨dx, _, _, e⟩ := h; ⟨dx, _, _, e⟩
theorem Rd.same {cD : Addr} {H H' : Hp} {r : Addr} {tx t : Pl} (h : Rd cD H r tx t) (s : Same H H') : Rd cD H' r tx t := let ⟨dx, pre, e1, e⟩ := h; ⟨dx, pre, e1, s _ _ e⟩
theorem FrAt.adv {cD r : Addr} {H H' : Hp} {tx t : Pl} {v : V} {a b : Int} (h : FrAt H v a b) (hr : Rd cD H r tx t) (k : AdvR r H H') : FrAt H' v a b := by
  obtain ⟨dx, y, z, e⟩ := hr.ins
  obtain ⟨p, e1, h⟩ := h
  exact ⟨p, e1, k p _ (ne_of h e (by intro z; cases z)) h⟩
theorem Th.adv {cW cR cD r : Addr} {H H' : Hp} {tx t : Pl} (hr : Rd cD H r tx t) (k : AdvR r H H') : ∀ {m : Mo} {v : V}, Th cW cR H v m → Th cW cR H' v m
  | .wt f, v, ⟨a, dx, u, e, h, hf⟩ => by
    obtain ⟨dx', y, z, e'⟩ := hr.ins
    refine ⟨a, dx, u, e, k _ _ (ne_of h e' fun z => ?_) h, FrAt.adv hf hr k⟩
    injection z with _ _ z
    have := congrArg List.length z
    cases this
  | .rod l x r' y, v, ⟨a, dx, u1, u2, u3, u4, e, h, h1, h2, h3, h4⟩ => by
    obtain ⟨dx', y', z', e'⟩ := hr.ins
    refine ⟨a, dx, u1, u2, u3, u4, e, k _ _ (ne_of h e' fun z => ?_) h, FrAt.adv h1 hr k, Th.adv hr k h2, FrAt.adv h3 hr k, Th.adv hr k h4⟩
    injection z with _ _ z
    have := congrArg List.length z
    cases this
def sp_seesf (cD : Addr) : Sp := fun vs H Q E => ∃ r tx t, vs = [.ref r] ∧ Rd cD H r tx t ∧ tx.length ≤ 60000 ∧ Q (.bl (t.head?.any isD)) H
theorem sc_Reader_sees_figure : FnScope ["self"] ["self"] (defScope (inClass (top 18) 3)) := ⟨rfl, rfl, rfl, by decide +kernel, rfl, by decide +kernel, by decide +kernel⟩
theorem ok_seesf (A : Adr K mg) {f : Addr} {fd : FuncData} (F : Fun K "sees_figure" "Reader.sees_figure" (inClass (top 18) 3) f fd) (D_at_end : MthR P w K mg base A "at_end" 1 ["self"] sp_at_end) : FnOk P w K mg base (CX1 P w) 2 f fd ["self"] (sp_seesf A.c_Reader) := by
  have S := sc_Reader_sees_figure
  refine F.okN S (fun vs H Q E h => ?_) (fun cdv A' outer s H vs Q E hr h => ?_)
  · obtain ⟨r, tx, t, rfl, _⟩ := h
    rfl
  · obtain ⟨r, tx, t, rfl, ⟨dx, pre, et, hr'⟩, hl, q⟩ := h
    have hr_at_end : Room 1 _ := hr.mono (by decide)
    refine ⟨_, (pss_one (ps_ret (pe_and (pe_not (pe_m0 D_at_end hr_at_end pass1 (pv 0))) (pe_one (pe_cmpR op_in_str (pe_ix ix_str (pe_fldK (K := K) rfl (pv 0) rfl) (pe_fldK (K := K) rfl (pv 0) rfl) (fun _ _ => rfl)) (pe_glob (v := .str A.v_FIGURES) rfl A.g_FIGURES ⟨A.tk_FIGURES, rfl⟩) (by rfl)))))), ?_⟩
    walk_at "v"
    refine rd_dyn hr' rfl (by rfl) ?_
    refine ⟨r, tx, t, rfl, ⟨dx, pre, et, hr'⟩, hl, ?_⟩
    walk_at "v"
    cases t with
    | nil =>
      simp only [decide_true, Bool.not_true, Bool.false_eq_true, if_false]
      walk_at "v"
      simpa using q
    | cons d t =>
      have hd : ¬ (d :: t = []) := by simp
      simp only [hd, decide_false, Bool.not_false, if_true]
      walk_at "v"
      refine fld_ok hr' A.l_Reader A.a_text (by rfl) ?_
      walk_at "v"
      refine fld_ok hr' A.l_Reader A.a_spot (by rfl) ?_
      walk_at "v"
      subst et
      refine ixS_at (by omega) ?_
      walk_at "v"
      have e : (!(Builtin.Str.occurrences A.v_FIGURES (mkS [d]) 0 A.v_FIGURES.length 1).isEmpty) = isD d := fig_in d
      rw [e]
      exact q
/-- a sign that must stand here -/
def sp_rsign (N cD : Addr) : Sp := fun vs H Q E => ∃ r tx t c, vs = [.ref r, .str (mkS [c])] ∧ Rd cD H r tx t ∧ tx.length ≤ 60000 ∧ (reprText (mkS [c])).length ≤ 100 ∧
  (∀ t', pCh c t = some t' → ∀ H', AdvR r H H' → Rd cD H' r tx t' → Q .non H') ∧ (pCh c t = none → ∀ H', AdvR r H H' → E (.ref N) none H')
theorem sc_Reader_read_sign : FnScope ["self", "sign"] ["self", "sign"] (defScope (inClass (top 18) 4)) := ⟨rfl, rfl, rfl, by decide +kernel, rfl, by decide +kernel, by decide +kernel⟩
theorem ok_rsign (A : Adr K mg) {f : Addr} {fd : FuncData} (F : Fun K "read_sign" "Reader.read_sign" (inClass (top 18) 4) f fd) (D_sees : MthR P w K mg base A "sees" 2 ["self", "sign"] sp_sees) : FnOk P w K mg base (CX1 P w) 3 f fd ["self", "sign"] (sp_rsign A.c_NoText A.c_Reader) := by
  have S := sc_Reader_read_sign
  refine F.okE S (fun vs H Q E h => ?_) (fun cdv A' outer s H vs Q E hr h => ?_)
  · obtain ⟨r, tx, t, c, rfl, _⟩ := h
    rfl
  · obtain ⟨r, tx, t, c, rfl, ⟨dx, pre, et, hr'⟩, hl, hc, q1, q2⟩ := h
    have hr_sees : Room 2 _ := hr.mono (by decide)
    refine ⟨_, (pss_cons (ps_if (pt_not (pt_val (pe_m D_sees hr_sees passes_cx (pv 0) (pa_cons (pv 1) pa_nil)))) (pss_one (ps_raise raises_cx hr.hd A.x_NoText rfl A.g_NoText (pe_fstrR (pv 1)))) pss_nil)
      (pss_one (ps_fld (pv 0) (pe_op op_add (pe_fldK (K := K) rfl (pv 0) rfl) pe_int) rfl))), ?_⟩
    walk_at "v"
    refine rd_dyn hr' rfl (by rfl) ?_
    refine ⟨r, tx, t, c, rfl, ⟨dx, pre, et, hr'⟩, hl, ?_⟩
    rw [pCh_head]
    walk_at "v"
    cases hp : pCh c t with
    | none =>
      simp only [Option.isSome_none, Bool.not_false, if_true]
      walk_at "v"
      refine ⟨?_, q2 hp H AdvR.refl⟩
      rw [sizeLine_eq]
      exact Nat.le_trans (Nat.add_le_add_right hc _) (by decide +kernel)
    | some t' =>
      simp only [Option.isSome_some, Bool.not_true, Bool.false_eq_true, if_false]
      walk_at "v"
      refine fld_ok hr' A.l_Reader A.a_spot (by rfl) ?_
      walk_at "v"
      refine sfld_ok hr' A.l_Reader A.a_spot (by show 2 < 1000; decide) ?_
      walk_at "v"
      refine q1 t' hp _ AdvR.upd ⟨dx, pre ++ [c], ?_, ?_⟩
      · rw [et, pCh_sound hp]; simp
      · rw [upd_same, List.length_append]
        rfl
/-! ### a number -/
def sp_rnum (N cD : Addr) : Sp := fun vs H Q E => ∃ r tx t, vs = [.ref r] ∧ Rd cD H r tx t ∧ tx.length ≤ 60000 ∧ RunLe 200 t ∧
  (∀ n t', pNum t = some (n, t') → ∀ H', AdvR r H H' → Rd cD H' r tx t' → Q (.int (n : Nat)) H') ∧ (pNum t = none → ∀ H', AdvR r H H' → E (.ref N) none H')
theorem s_0 : ("0" : Str) = mkS [48] := by decide +kernel
theorem sc_Reader_read_number : FnScope ["self", "start", "figures"] ["self"] (defScope (inClass (top 18) 5)) := ⟨rfl, rfl, rfl, by decide +kernel, rfl, by decide +kernel, by decide +kernel⟩
theorem ok_rnum (A : Adr K mg) {f : Addr} {fd : FuncData} (F : Fun K "read_number" "Reader.read_number" (inClass (top 18) 5) f fd) (D_sees_figure : MthR P w K mg base A "sees_figure" 2 ["self"] sp_seesf) : FnOk P w K mg base (CX1 P w) 3 f fd ["self"] (sp_rnum A.c_NoText A.c_Reader) := by
  have S := sc_Reader_read_number
  refine F.okE S (fun vs H Q E h => ?_) (fun cdv A' outer s H vs Q E hr h => ?_)
  · obtain ⟨r, tx, t, rfl, _⟩ := h
    rfl
  · obtain ⟨r, tx, t, rfl, ⟨dx, pre, et, hr'⟩, hl, hrun, q1, q2⟩ := h
    have hr_sees_figure : Room 2 _ := hr.mono (by decide)
    refine ⟨_, (pss_cons (ps_set (i := 1) S.nd rfl (Or.inl rfl) (pe_fldK (K := K) rfl (pv 0) rfl))
      (pss_cons (ps_quiet (ps_while PassesOwn.never (pt_val (pe_m0 D_sees_figure hr_sees_figure pass1 (pv 0))) (pss_one (ps_fld (pv 0) (pe_op op_add (pe_fldK (K := K) rfl (pv 0) rfl) pe_int) rfl))))
      (pss_cons (ps_set (i := 2) S.nd rfl (Or.inl rfl) (pe_slice sl_str (pe_fldK (K := K) rfl (pv 0) rfl) (po_some (pv 1)) (po_some (pe_fldK (K := K) rfl (pv 0) rfl))))
      (pss_cons (ps_if (PW.pt (pw_or (pt_cmpR op_eq (pv 2) pe_str (nomark _)) (pw_or1 (pt_cmpR op_eq (pe_ix ix_str (pv 2) pe_int (fun _ _ => rfl)) pe_str (nomark _))))) (pss_one (ps_raise raises_cx hr.hd A.x_NoText rfl A.g_NoText pe_str)) pss_nil)
      (pss_one (ps_ret (pe_callTy call_intT (by rfl) A.n_int bt_int (pa_cons (pv 2) pa_nil)))))))), ?_⟩
    walk_at "v"
    refine fld_ok hr' A.l_Reader A.a_spot (by rfl) ?_
    walk_at "v"
    refine while_k (fun σ H' => σ = [some (.ref r), some (.int (pre.length : Nat)), none] ∧ AdvR r H H' ∧ ∃ ds t', t = ds ++ t' ∧ (∀ c ∈ ds, isD c = true) ∧ H' r = some (.ins A.c_Reader dx [("text", .str (mkS tx)), ("spot", .int ((pre.length + ds.length : Nat) : Int))]))
      (fun _ H' => mSp r tx.length H') ⟨rfl, AdvR.refl, [], t, rfl, (fun _ z => nomatch z), hr'⟩ ?_
    rintro _ H1 K' ⟨rfl, adv, ds, t', ed, had, h1⟩ kt kf
    have etx : tx = (pre ++ ds) ++ t' := by rw [et, ed, List.append_assoc]
    have hlen : tx.length = pre.length + ds.length + t'.length := by rw [etx, List.length_append, List.length_append]
    walk_at "v"
    refine rd_dyn h1 rfl (by rfl) ?_
    refine ⟨r, tx, t', rfl, ⟨dx, pre ++ ds, etx, by rw [h1, List.length_append]⟩, hl, ?_⟩
    walk_at "v"
    cases he : t'.head?.any isD with
    | true =>
      obtain ⟨c, t'', rfl, hc⟩ : ∃ c t'', t' = c :: t'' ∧ isD c = true := by
        cases t' with
        | nil => cases he
        | cons c t'' => exact ⟨c, t'', rfl, he⟩
      refine kt _ ?_
      walk_at "v"
      refine fld_ok h1 A.l_Reader A.a_spot (by rfl) ?_
      walk_at "v"
      refine sfld_ok h1 A.l_Reader A.a_spot (by show 2 < 1000; decide) ?_
      walk_at "v"
      refine ⟨adv.trans AdvR.upd, ⟨ds ++ [c], ⟨t'', ?_⟩, ?_, ?_⟩, ?_⟩
      · rw [ed]; simp
      · intro d hd
        rcases List.mem_append.mp hd with hd | hd
        · exact had d hd
        · rw [List.mem_singleton.mp hd]; exact hc
      · rw [upd_same, List.length_append]
        rfl
      · refine Nat.lt_of_le_of_lt (Nat.le_of_eq (mSp_of (x := ("text", .str (mkS tx))) (f := "spot") (i := ((pre.length + ds.length : Nat) : Int) + 1) upd_same)) ?_
        rw [mSp_of h1]
        rw [hlen, List.length_cons]
        omega
    | false =>
      have hno : NoD t' := fun c hc => by
        cases t' with
        | nil => cases hc
        | cons d t'' =>
          have hc : d = c := by simpa using hc
          exact hc ▸ he
      have epn := pNum_run had hno
      rw [← ed] at epn
      refine kf _ ?_
      walk_at "v"
      refine fld_ok h1 A.l_Reader A.a_text (by rfl) ?_
      walk_at "v"
      refine fld_ok h1 A.l_Reader A.a_spot (by rfl) ?_
      walk_at "v"
      refine ⟨mkS tx, rfl, by rw [mkS_length, sizeLine_eq]; omega, ?_⟩
      have esl : Txt.slice (mkS tx) (some (pre.length : Nat)) (some ((pre.length + ds.length : Nat) : Int)) = mkS ds := by rw [etx, List.append_assoc]; exact slice_mid pre ds t'
      rw [esl]
      walk_at "v"
      rw [s_empty, s_0]
      cases ds with
      | nil =>
        simp only [decide_true, if_true]
        walk_at "v"
        exact q2 (by rw [epn]; rfl) _ adv
      | cons c ds =>
        have hne : ¬ (mkS (c :: ds) = mkS []) := by rw [mkS_inj]; simp
        simp only [hne, decide_false, Bool.false_eq_true, if_false]
        walk_at "v"
        refine ixS_at (pre := []) (by simp only [List.nil_append]; simp only [List.length_cons] at *; omega) ?_
        walk_at "v"
        by_cases h0 : c = 48
        · subst h0
          simp only [decide_true, if_true]
          walk_at "v"
          exact q2 (by rw [epn]; rfl) _ adv
        · have h0' : ¬ (mkS [c] = mkS [48]) := by rw [mkS_inj]; simpa using h0
          simp only [h0', decide_false, Bool.false_eq_true, if_false]
          walk_at "v"
          refine ⟨c :: ds, rfl, had, by simp, ?_, ?_⟩
          · rw [ed] at hrun
            exact Nat.le_trans (hrun [] (c :: ds) t' rfl had) (by decide)
          · refine q1 _ t' (by rw [epn, if_neg]; simpa using h0) H1 adv ⟨dx, pre ++ (c :: ds), etx, by rw [h1, List.length_append]⟩
end
end K4

set_option maxHeartbeats 4000000
set_option hygiene false

namespace K4
open PySem PySem.Spec PyProof.Rows L2 FrM MoM TxM
section
variable {P : Program} {w : World} {K : PySem.W.Frag} {mg : Str → Option Value} {base : Heap}
theorem s_slash : ("/" : Str) = mkS [47] := by decide +kernel
theorem s_open : ("[" : Str) = mkS [91] := by decide +kernel
theorem s_shut : ("]" : Str) = mkS [93] := by decide +kernel
theorem s_colon : (":" : Str) = mkS [58] := by decide +kernel
theorem s_blank : (" " : Str) = mkS [32] := by decide +kernel
/-! ### a fraction -/
def sp_rfr (N cD : Addr) : Sp := fun vs H Q E => ∃ r tx t, vs = [.ref r] ∧ Rd cD H r tx t ∧ tx.length ≤ 60000 ∧ RunLe 200 t ∧
  (∀ f t', pFr t = some (f, t') → ∀ v H', AdvR r H H' → Rd cD H' r tx t' → FrV H' v f → Q v H') ∧ (pFr t = none → ∀ H', AdvR r H H' → E (.ref N) none H')
theorem sc_Reader_read_fraction : FnScope ["self", "top", "bottom"] ["self"] (defScope (inClass (top 18) 6)) := ⟨rfl, rfl, rfl, by decide +kernel, rfl, by decide +kernel, by decide +kernel⟩
theorem ok_rfr (A : Adr K mg) {f : Addr} {fd : FuncData} (F : Fun K "read_fraction" "Reader.read_fraction" (inClass (top 18) 6) f fd) (D_sees : MthR P w K mg base A "sees" 2 ["self", "sign"] sp_sees) (D_read_sign : MthR P w K mg base A "read_sign" 3 ["self", "sign"] (sp_rsign A.c_NoText))
    (D_read_number : MthR P w K mg base A "read_number" 3 ["self"] (sp_rnum A.c_NoText)) (F_fraction : Fnc P w K mg base "fraction" 2 ["top", "bottom"] [] (sp_fraction A.c_NoNumber)) :
    FnOk P w K mg base (CX1 P w) 4 f fd ["self"] (sp_rfr A.c_NoText A.c_Reader) := by
  have S := sc_Reader_read_fraction
  refine F.okE S (fun vs H Q E h => ?_) (fun cdv A' outer s H vs Q E hr h => ?_)
  · obtain ⟨r, tx, t, rfl, _⟩ := h
    rfl
  · obtain ⟨r, tx, t, rfl, hrd, hl, hrun, q1, q2⟩ := h
    have hu := hu_of hr
    have hr_sees : Room 2 _ := hr.mono (by decide)
    have hr_read_sign : Room 3 _ := hr.mono (by decide)
    have hr_read_number : Room 3 _ := hr.mono (by decide)
    have hr_fraction : Room 2 _ := hr.mono (by decide)
    refine ⟨_, (pss_cons (ps_set (i := 1) S.nd rfl (Or.inl rfl) (pe_m0 D_read_number hr_read_number passes_cx (pv 0)))
      (pss_cons (ps_if (pt_not (pt_val (pe_m D_sees hr_sees passes_cx (pv 0) (pa_cons pe_str pa_nil)))) (pss_one (ps_ret (pe_tup (pa_cons (pv 1) (pa_cons pe_int pa_nil))))) pss_nil)
      (pss_cons (ps_expr (pe_m D_read_sign hr_read_sign passes_cx (pv 0) (pa_cons pe_str pa_nil)))
      (pss_cons (ps_set (i := 2) S.nd rfl (Or.inl rfl) (pe_m0 D_read_number hr_read_number passes_cx (pv 0)))
      (pss_cons (ps_if (PW.pt (pw_or (pt_cmpR op_eq (pv 2) pe_int (nomark _)) (pw_or1 (pt_cmpR (op_neF hu) (pe_fn F_fraction hr_fraction passes_cx (pa_cons (pv 1) (pa_cons (pv 2) pa_nil))) (pe_tup (pa_cons (pv 1) (pa_cons (pv 2) pa_nil))) (nomark _))))) (pss_one (ps_raise raises_cx hr.hd A.x_NoText rfl A.g_NoText pe_str)) pss_nil)
      (pss_one (ps_ret (pe_tup (pa_cons (pv 1) (pa_cons (pv 2) pa_nil)))))))))), ?_⟩
    walk_at "v"
    obtain ⟨dx, y, z, hi⟩ := hrd.ins
    refine rd_dyn hi rfl (by rfl) ?_
    refine ⟨r, tx, t, rfl, hrd, hl, hrun, fun m t1 hm H1 a1 rd1 => ?_, fun hn H1 a1 => q2 (by unfold pFr; rw [hn]; rfl) H1 a1⟩
    walk_at "v"
    obtain ⟨dx1, y1, z1, hi1⟩ := rd1.ins
    refine rd_dyn hi1 rfl (by rfl) ?_
    refine ⟨r, tx, t1, 47, congrArg (fun z => [V.ref r, V.str z]) s_slash, rd1, hl, ?_⟩
    rw [pCh_head]
    walk_at "v"
    have e1 := (pNum_sound hm).1
    have m0 := (pNum_sound hm).2.1
    cases hc : pCh 47 t1 with
    | none =>
      simp only [Option.isSome_none, Bool.not_false, if_true]
      walk_at "v"
      refine ⟨by show 2 ≤ sizeLine; decide, fun p hp => ?_⟩
      exact q1 ((m : Int), 1) t1 (by unfold pFr; rw [hm]; simp only [Option.bind_some, hc]) _ _ (a1.trans (Same.adv (same_upd hp))) (rd1.same (same_upd hp)) ⟨p, rfl, upd_same⟩
    | some t2 =>
      simp only [Option.isSome_some, Bool.not_true, Bool.false_eq_true, if_false]
      walk_at "v"
      refine rd_dyn hi1 rfl (by rfl) ?_
      have hr2 : RunLe 200 t2 := by
        have e2 := pCh_sound hc
        rw [e1, e2] at hrun
        exact RunLe.tail (a := [47]) hrun.tail
      refine ⟨r, tx, t1, 47, congrArg (fun z => [V.ref r, V.str z]) s_slash, rd1, hl, by decide +kernel, fun t2' hc' H2 a2 rd2 => ?_, fun hn => by rw [hn] at hc; cases hc⟩
      rw [hc] at hc'
      cases hc'
      walk_at "v"
      obtain ⟨dx2, y2, z2, hi2⟩ := rd2.ins
      refine rd_dyn hi2 rfl (by rfl) ?_
      have a12 := a1.trans a2
      refine ⟨r, tx, t2, rfl, rd2, hl, hr2, fun n t3 hn H3 a3 rd3 => ?_, fun hn H3 a3 => q2 (by unfold pFr; rw [hm]; simp only [Option.bind_some, hc, hn, Option.bind_none]) H3 (a12.trans a3)⟩
      walk_at "v"
      have n0 := (pNum_sound hn).2.1
      have a123 := a12.trans a3
      have epf : pFr t = if n = 1 ∨ low m n ≠ ((m : Int), (n : Int)) then none else some (((m : Int), (n : Int)), t3) := by
        unfold pFr; rw [hm]; simp only [Option.bind_some, hc, hn]
      by_cases h1 : n = 1
      · subst h1
        simp only [Int.cast_ofNat_Int, decide_true, if_true]
        walk_at "v"
        exact q2 (by rw [epf, if_pos (.inl rfl)]) _ a123
      · have h1' : ¬ ((n : Int) = 1) := by omega
        simp only [h1', decide_false, Bool.false_eq_true, if_false]
        walk_at "v"
        have hz : (n : Int) ≠ 0 := by omega
        refine ⟨m, n, rfl, fun z => absurd z hz, fun _ => ⟨(sm_ten (pNum_lt hn hr2)).mono (by decide), fun v H4 s4 f4 => ?_⟩⟩
        walk_at "v"
        refine ⟨by show 2 ≤ sizeLine; decide, fun p hp => ?_⟩
        refine ⟨_, _, _, _, f4.upd hp, ⟨p, rfl, upd_same⟩, ?_⟩
        have a4 : AdvR r H (upd H4 p (.tup [.int m, .int n])) := a123.trans ((Same.adv s4).trans (Same.adv (same_upd hp)))
        have rd4 : Rd A.c_Reader (upd H4 p (.tup [.int m, .int n])) r tx t3 := (rd3.same s4).same (same_upd hp)
        by_cases h2 : low m n = ((m : Int), (n : Int))
        · have h3 : nt m n = (m : Int) ∧ nb m n = (n : Int) := ⟨congrArg Prod.fst h2, congrArg Prod.snd h2⟩
          simp only [h3, and_self, decide_true, Bool.not_true, Bool.false_eq_true, if_false]
          walk_at "v"
          refine ⟨by show 2 ≤ sizeLine; decide, fun p' hp' => ?_⟩
          exact q1 ((m : Int), (n : Int)) t3 (by rw [epf, if_neg]; rintro (z | z); exact h1 z; exact z h2) _ _ (a4.trans (Same.adv (same_upd hp'))) (rd4.same (same_upd hp')) ⟨p', rfl, upd_same⟩
        · have h3 : ¬ (nt m n = (m : Int) ∧ nb m n = (n : Int)) := fun z => h2 (Prod.ext z.1 z.2)
          simp only [h3, decide_false, Bool.not_false, if_true]
          walk_at "v"
          exact q2 (by rw [epf, if_pos (.inr h2)]) _ a4
/-! ### a mobile, a rod -/
def sp_rmo (N cD cW cR : Addr) (n : Nat) : Sp := fun vs H Q E => ∃ r tx t, vs = [.ref r] ∧ Rd cD H r tx t ∧ tx.length ≤ 60000 ∧ RunLe 200 t ∧ t.count 91 ≤ n ∧
  (∀ m t', pMo n t = some (m, t') → ∀ v H', AdvR r H H' → Rd cD H' r tx t' → Th cW cR H' v m → Q v H') ∧ (pMo n t = none → ∀ H', AdvR r H H' → E (.ref N) none H')
def sp_rrod (N cD cW cR : Addr) (n : Nat) : Sp := fun vs H Q E => ∃ r tx t, vs = [.ref r] ∧ Rd cD H r tx t ∧ tx.length ≤ 60000 ∧ RunLe 200 t ∧ t.count 91 ≤ n + 1 ∧
  (∀ m t', pRod n t = some (m, t') → ∀ v H', AdvR r H H' → Rd cD H' r tx t' → Th cW cR H' v m → Q v H') ∧ (pRod n t = none → ∀ H', AdvR r H H' → E (.ref N) none H')
theorem count_tail {a t : Pl} : t.count 91 ≤ (a ++ t).count 91 := by rw [List.count_append]; omega
theorem sc_Reader_read_rod : FnScope ["self", "left_arm", "left", "right_arm", "right"] ["self"] (defScope (inClass (top 18) 8)) := ⟨rfl, rfl, rfl, by decide +kernel, rfl, by decide +kernel, by decide +kernel⟩
theorem ok_rrod (A : Adr K mg) {f : Addr} {fd : FuncData} (F : Fun K "read_rod" "Reader.read_rod" (inClass (top 18) 8) f fd) (D_read_sign : MthR P w K mg base A "read_sign" 3 ["self", "sign"] (sp_rsign A.c_NoText))
    (D_read_fraction : MthR P w K mg base A "read_fraction" 4 ["self"] (sp_rfr A.c_NoText)) (M_Rod : Mkr P w K mg base "Rod" A.c_Rod 3 ["self", "left_arm", "left", "right_arm", "right"] [] (sp_rinit A.c_NoNumber A.c_Rod)) (n : Nat)
    (D_read_mobile : MthR P w K mg base A "read_mobile" (2 * n + 5) ["self"] (fun C => sp_rmo A.c_NoText C A.c_Weight A.c_Rod n)) :
    FnOk P w K mg base (CX1 P w) (2 * n + 6) f fd ["self"] (sp_rrod A.c_NoText A.c_Reader A.c_Weight A.c_Rod n) := by
  have S := sc_Reader_read_rod
  refine F.okE S (fun vs H Q E h => ?_) (fun cdv A' outer s H vs Q E hr h => ?_)
  · obtain ⟨r, tx, t, rfl, _⟩ := h
    rfl
  · obtain ⟨r, tx, t, rfl, hrd, hl, hrun, hcnt, q1, q2⟩ := h
    have hr_read_sign : Room 3 _ := hr.mono (by omega)
    have hr_read_fraction : Room 4 _ := hr.mono (by omega)
    have hr_read_mobile : Room (2 * n + 5) _ := hr.mono (by omega)
    have hr_Rod : Room (3 + 1) _ := hr.mono (by omega)
    refine ⟨_, (pss_cons (ps_expr (pe_m D_read_sign hr_read_sign passes_cx (pv 0) (pa_cons pe_str pa_nil)))
      (pss_cons (ps_set (i := 1) S.nd rfl (Or.inl rfl) (pe_m0 D_read_fraction hr_read_fraction passes_cx (pv 0)))
      (pss_cons (ps_expr (pe_m D_read_sign hr_read_sign passes_cx (pv 0) (pa_cons pe_str pa_nil)))
      (pss_cons (ps_set (i := 2) S.nd rfl (Or.inl rfl) (pe_m0 D_read_mobile hr_read_mobile passes_cx (pv 0)))
      (pss_cons (ps_expr (pe_m D_read_sign hr_read_sign passes_cx (pv 0) (pa_cons pe_str pa_nil)))
      (pss_cons (ps_set (i := 3) S.nd rfl (Or.inl rfl) (pe_m0 D_read_fraction hr_read_fraction passes_cx (pv 0)))
      (pss_cons (ps_expr (pe_m D_read_sign hr_read_sign passes_cx (pv 0) (pa_cons pe_str pa_nil)))
      (pss_cons (ps_set (i := 4) S.nd rfl (Or.inl rfl) (pe_m0 D_read_mobile hr_read_mobile passes_cx (pv 0)))
      (pss_cons (ps_expr (pe_m D_read_sign hr_read_sign passes_cx (pv 0) (pa_cons pe_str pa_nil)))
      (pss_one (ps_ret (pe_mk M_Rod hr_Rod passes_cx (pa_cons (pv 1) (pa_cons (pv 2) (pa_cons (pv 3) (pa_cons (pv 4) pa_nil)))))))))))))))), ?_⟩
    walk_at "v"
    -- '['
    obtain ⟨dx0, y0, z0, hi0⟩ := hrd.ins
    refine rd_dyn hi0 rfl (by rfl) ?_
    refine ⟨r, tx, t, 91, congrArg (fun z => [V.ref r, V.str z]) s_open, hrd, hl, by decide +kernel, fun t1 c1 H1 a1 rd1 => ?_, fun hn H1 a1 => q2 (bnd0 hn) H1 a1⟩
    walk_at "v"
    have E1 : pRod n t = pR1 n t1 := bnd c1
    have e1 := pCh_sound c1
    have r1 : RunLe 200 t1 := by rw [e1] at hrun; exact RunLe.tail (a := [91]) hrun
    have n1 : t1.count 91 ≤ n := by rw [e1] at hcnt; simp at hcnt; exact hcnt
    -- the left arm
    obtain ⟨dx1, y1, z1, hi1⟩ := rd1.ins
    refine rd_dyn hi1 rfl (by rfl) ?_
    refine ⟨r, tx, t1, rfl, rd1, hl, r1, fun l t2 c2 v2 H2 a2 rd2 f2 => ?_, fun hn H2 a2 => q2 (E1.trans (bnd0 hn)) H2 (a1.trans a2)⟩
    walk_at "v"
    have E2 : pRod n t = pR2 n l t2 := E1.trans (bnd c2)
    have e2 := (pFr_sound c2).1
    have r2 : RunLe 200 t2 := by rw [e2] at r1; exact r1.tail
    have n2 : t2.count 91 ≤ n := by rw [e2] at n1; exact Nat.le_trans count_tail n1
    have b2 := a1.trans a2
    -- ':'
    obtain ⟨dx2, y2, z2, hi2⟩ := rd2.ins
    refine rd_dyn hi2 rfl (by rfl) ?_
    refine ⟨r, tx, t2, 58, congrArg (fun z => [V.ref r, V.str z]) s_colon, rd2, hl, by decide +kernel, fun t3 c3 H3 a3 rd3 => ?_, fun hn H3 a3 => q2 (E2.trans (bnd0 hn)) H3 (b2.trans a3)⟩
    walk_at "v"
    have E3 : pRod n t = pR3 n l t3 := E2.trans (bnd c3)
    have e3 := pCh_sound c3
    have r3 : RunLe 200 t3 := by rw [e3] at r2; exact RunLe.tail (a := [58]) r2
    have n3 : t3.count 91 ≤ n := by rw [e3] at n2; exact Nat.le_trans (count_tail (a := [58])) n2
    have b3 := b2.trans a3
    have f3 := FrAt.adv f2 rd2 a3
    -- what hangs left
    obtain ⟨dx3, y3, z3, hi3⟩ := rd3.ins
    refine rd_dyn hi3 rfl (by rfl) ?_
    refine ⟨r, tx, t3, rfl, rd3, hl, r3, n3, fun x t4 c4 v4 H4 a4 rd4 th4 => ?_, fun hn H4 a4 => q2 (E3.trans (bnd0 hn)) H4 (b3.trans a4)⟩
    walk_at "v"
    have E4 : pRod n t = pR4 n l x t4 := E3.trans (bnd c4)
    have e4 := (pMo_sound _ _ _ _ c4).1
    have r4 : RunLe 200 t4 := by rw [e4] at r3; exact r3.tail
    have n4 : t4.count 91 ≤ n := by rw [e4] at n3; exact Nat.le_trans count_tail n3
    have b4 := b3.trans a4
    have f4 := FrAt.adv f3 rd3 a4
    -- ' '
    obtain ⟨dx4, y4, z4, hi4⟩ := rd4.ins
    refine rd_dyn hi4 rfl (by rfl) ?_
    refine ⟨r, tx, t4, 32, congrArg (fun z => [V.ref r, V.str z]) s_blank, rd4, hl, by decide +kernel, fun t5 c5 H5 a5 rd5 => ?_, fun hn H5 a5 => q2 (E4.trans (bnd0 hn)) H5 (b4.trans a5)⟩
    walk_at "v"
    have E5 : pRod n t = pR5 n l x t5 := E4.trans (bnd c5)
    have e5 := pCh_sound c5
    have r5 : RunLe 200 t5 := by rw [e5] at r4; exact RunLe.tail (a := [32]) r4
    have n5 : t5.count 91 ≤ n := by rw [e5] at n4; exact Nat.le_trans (count_tail (a := [32])) n4
    have b5 := b4.trans a5
    have f5 := FrAt.adv f4 rd4 a5
    have th5 := Th.adv rd4 a5 th4
    -- the right arm
    obtain ⟨dx5, y5, z5, hi5⟩ := rd5.ins
    refine rd_dyn hi5 rfl (by rfl) ?_
    refine ⟨r, tx, t5, rfl, rd5, hl, r5, fun g t6 c6 v6 H6 a6 rd6 g6 => ?_, fun hn H6 a6 => q2 (E5.trans (bnd0 hn)) H6 (b5.trans a6)⟩
    walk_at "v"
    have E6 : pRod n t = pR6 n l x g t6 := E5.trans (bnd c6)
    have e6 := (pFr_sound c6).1
    have r6 : RunLe 200 t6 := by rw [e6] at r5; exact r5.tail
    have n6 : t6.count 91 ≤ n := by rw [e6] at n5; exact Nat.le_trans count_tail n5
    have b6 := b5.trans a6
    have f6 := FrAt.adv f5 rd5 a6
    have th6 := Th.adv rd5 a6 th5
    -- ':'
    obtain ⟨dx6, y6, z6, hi6⟩ := rd6.ins
    refine rd_dyn hi6 rfl (by rfl) ?_
    refine ⟨r, tx, t6, 58, congrArg (fun z => [V.ref r, V.str z]) s_colon, rd6, hl, by decide +kernel, fun t7 c7 H7 a7 rd7 => ?_, fun hn H7 a7 => q2 (E6.trans (bnd0 hn)) H7 (b6.trans a7)⟩
    walk_at "v"
    have E7 : pRod n t = pR7 n l x g t7 := E6.trans (bnd c7)
    have e7 := pCh_sound c7
    have r7 : RunLe 200 t7 := by rw [e7] at r6; exact RunLe.tail (a := [58]) r6
    have n7 : t7.count 91 ≤ n := by rw [e7] at n6; exact Nat.le_trans (count_tail (a := [58])) n6
    have b7 := b6.trans a7
    have f7 := FrAt.adv f6 rd6 a7
    have th7 := Th.adv rd6 a7 th6
    have g7 := FrAt.adv g6 rd6 a7
    -- what hangs right
    obtain ⟨dx7, y7, z7, hi7⟩ := rd7.ins
    refine rd_dyn hi7 rfl (by rfl) ?_
    refine ⟨r, tx, t7, rfl, rd7, hl, r7, n7, fun y t8 c8 v8 H8 a8 rd8 th8 => ?_, fun hn H8 a8 => q2 (E7.trans (bnd0 hn)) H8 (b7.trans a8)⟩
    walk_at "v"
    have E8 : pRod n t = pR8 l x g y t8 := E7.trans (bnd c8)
    have b8 := b7.trans a8
    have f8 := FrAt.adv f7 rd7 a8
    have thx8 := Th.adv rd7 a8 th7
    have g8 := FrAt.adv g7 rd7 a8
    -- ']'
    obtain ⟨dx8, y8, z8, hi8⟩ := rd8.ins
    refine rd_dyn hi8 rfl (by rfl) ?_
    refine ⟨r, tx, t8, 93, congrArg (fun z => [V.ref r, V.str z]) s_shut, rd8, hl, by decide +kernel, fun t9 c9 H9 a9 rd9 => ?_, fun hn H9 a9 => q2 (E8.trans (bnd0 hn)) H9 (b8.trans a9)⟩
    walk_at "v"
    have b9 := b8.trans a9
    have ep : pRod n t = some (.rod l x g y, t9) := E8.trans (bnd c9)
    have sl := pFr_sm c2 r1
    have sg := pFr_sm c6 r5
    have ll := (pFr_sound c2).2
    have lg := (pFr_sound c6).2
    refine mkR_ok (cW := A.c_Weight) (FrAt.adv f8 rd8 a9) (Th.adv rd8 a9 thx8) (FrAt.adv g8 rd8 a9) (Th.adv rd8 a9 th8) (sl.1.mono (by decide)) (sl.2.mono (by decide)) (sg.1.mono (by decide)) (sg.2.mono (by decide)) (fun _ _ z H' hz sm th => ?_) (fun h0 => absurd ⟨ll.t, lg.t⟩ h0)
    exact q1 _ _ ep _ _ (b9.trans (Same.adv sm)) (rd9.same sm) th
theorem sc_Reader_read_mobile : FnScope ["self"] ["self"] (defScope (inClass (top 18) 7)) := ⟨rfl, rfl, rfl, by decide +kernel, rfl, by decide +kernel, by decide +kernel⟩
theorem ok_rmo0 (A : Adr K mg) {f : Addr} {fd : FuncData} (F : Fun K "read_mobile" "Reader.read_mobile" (inClass (top 18) 7) f fd) (D_sees : MthR P w K mg base A "sees" 2 ["self", "sign"] sp_sees)
    (D_read_fraction : MthR P w K mg base A "read_fraction" 4 ["self"] (sp_rfr A.c_NoText)) (M_Weight : Mkr P w K mg base "Weight" A.c_Weight 3 ["self", "amount"] [] (sp_winit A.c_NoNumber A.c_Weight)) (k n : Nat) (hk : 2 * n + 4 ≤ k)
    (sp : Addr → Sp) (D_read_rod : MthR P w K mg base A "read_rod" k ["self"] sp) (hsp : ∀ n', n = n' + 1 → sp = fun C => sp_rrod A.c_NoText C A.c_Weight A.c_Rod n') :
    FnOk P w K mg base (CX1 P w) (k + 1) f fd ["self"] (sp_rmo A.c_NoText A.c_Reader A.c_Weight A.c_Rod n) := by
  have S := sc_Reader_read_mobile
  refine F.okE S (fun vs H Q E h => ?_) (fun cdv A' outer s H vs Q E hr h => ?_)
  · obtain ⟨r, tx, t, rfl, _⟩ := h
    rfl
  · obtain ⟨r, tx, t, rfl, hrd, hl, hrun, hcnt, q1, q2⟩ := h
    have hr_sees : Room 2 _ := hr.mono (by omega)
    have hr_read_fraction : Room 4 _ := hr.mono (by omega)
    have hr_read_rod : Room k _ := hr.mono (by omega)
    have hr_Weight : Room (3 + 1) _ := hr.mono (by omega)
    refine ⟨_, (pss_cons (ps_if (pt_val (pe_m D_sees hr_sees passes_cx (pv 0) (pa_cons pe_str pa_nil))) (pss_one (ps_ret (pe_m0 D_read_rod hr_read_rod passes_cx (pv 0)))) pss_nil)
      (pss_one (ps_ret (pe_mk M_Weight hr_Weight passes_cx (pa_cons (pe_m0 D_read_fraction hr_read_fraction passes_cx (pv 0)) pa_nil))))), ?_⟩
    walk_at "v"
    obtain ⟨dx, y, z, hi⟩ := hrd.ins
    refine rd_dyn hi rfl (by rfl) ?_
    refine ⟨r, tx, t, 91, congrArg (fun z => [V.ref r, V.str z]) s_open, hrd, hl, ?_⟩
    rw [pCh_head]
    walk_at "v"
    cases hc : pCh 91 t with
    | none =>
      simp only [Option.isSome_none, Bool.false_eq_true, if_false]
      walk_at "v"
      refine rd_dyn hi rfl (by rfl) ?_
      have ep := pMo_wt (n := n) hc
      refine ⟨r, tx, t, rfl, hrd, hl, hrun, fun f t1 c1 v1 H1 a1 rd1 f1 => ?_, fun hn H1 a1 => q2 (by rw [ep, hn]; rfl) H1 a1⟩
      walk_at "v"
      have sf := pFr_sm c1 hrun
      refine mkW_ok (cR := A.c_Rod) f1 (sf.1.mono (by decide)) (sf.2.mono (by decide)) (fun _ z H' hz sm th => ?_) (fun h0 => absurd (pFr_sound c1).2.t h0)
      exact q1 _ _ (by rw [ep, c1]; rfl) _ _ (a1.trans (Same.adv sm)) (rd1.same sm) th
    | some t1 =>
      simp only [Option.isSome_some, if_true]
      walk_at "v"
      cases n with
      | zero =>
        rw [pCh_sound hc] at hcnt
        simp at hcnt
      | succ n =>
        have e := hsp n rfl
        subst e
        refine rd_dyn hi rfl (by rfl) ?_
        have ep := pMo_rod (n := n) hc
        refine ⟨r, tx, t, rfl, hrd, hl, hrun, hcnt, fun m t2 c2 v H1 a1 rd1 th => q1 m t2 (by rw [ep]; exact c2) v H1 a1 rd1 th, fun hn H1 a1 => q2 (by rw [ep]; exact hn) H1 a1⟩
/-- read_mobile, by how many rods the text may open -/
theorem ok_rmo (A : Adr K mg) {f g : Addr} {fd gd : FuncData} (F : Fun K "read_mobile" "Reader.read_mobile" (inClass (top 18) 7) f fd) (G : Fun K "read_rod" "Reader.read_rod" (inClass (top 18) 8) g gd)
    (DF : ∀ k sp, FnOk P w K mg base (CX1 P w) k f fd ["self"] sp → Mth P w K mg base A.c_Reader "read_mobile" k ["self"] [] sp) (DG : ∀ k sp, FnOk P w K mg base (CX1 P w) k g gd ["self"] sp → Mth P w K mg base A.c_Reader "read_rod" k ["self"] [] sp)
    (D_sees : MthR P w K mg base A "sees" 2 ["self", "sign"] sp_sees) (D_read_sign : MthR P w K mg base A "read_sign" 3 ["self", "sign"] (sp_rsign A.c_NoText)) (D_read_fraction : MthR P w K mg base A "read_fraction" 4 ["self"] (sp_rfr A.c_NoText))
    (M_Weight : Mkr P w K mg base "Weight" A.c_Weight 3 ["self", "amount"] [] (sp_winit A.c_NoNumber A.c_Weight)) (M_Rod : Mkr P w K mg base "Rod" A.c_Rod 3 ["self", "left_arm", "left", "right_arm", "right"] [] (sp_rinit A.c_NoNumber A.c_Rod)) :
    ∀ n, FnOk P w K mg base (CX1 P w) (2 * n + 5) f fd ["self"] (sp_rmo A.c_NoText A.c_Reader A.c_Weight A.c_Rod n) := by
  intro n
  induction n with
  | zero =>
    have D : MthR P w K mg base A "read_rod" 4 ["self"] (fun _ _ _ _ _ => False) := by
      rintro C rfl
      refine DG _ _ ?_
      refine G.okE sc_Reader_read_rod (fun vs H Q E h => h.elim) (fun cdv A' outer s H vs Q E hr h => h.elim)
    exact ok_rmo0 A F D_sees D_read_fraction M_Weight 4 0 (by decide) _ D (fun n' e => by cases e)
  | succ n ih =>
    have D : MthR P w K mg base A "read_mobile" (2 * n + 5) ["self"] (fun C => sp_rmo A.c_NoText C A.c_Weight A.c_Rod n) := by
      rintro C rfl
      exact DF _ _ ih
    have D2 : MthR P w K mg base A "read_rod" (2 * n + 6) ["self"] (fun C => sp_rrod A.c_NoText C A.c_Weight A.c_Rod n) := by
      rintro C rfl
      exact DG _ _ (ok_rrod A G D_read_sign D_read_fraction M_Rod n D)
    exact ok_rmo0 A F D_sees D_read_fraction M_Weight (2 * n + 6) (n + 1) (by omega) _ D2 (fun n' e => by cases e; rfl)
end
end K4

set_option maxHeartbeats 4000000
set_option hygiene false

namespace K4
open PySem PySem.Spec PyProof.Rows L2 FrM MoM TxM
section
variable {P : Program} {w : World} {K : PySem.W.Frag} {mg : Str → Option Value} {base : Heap}
/-! ### read -/
def sp_dinit (cD : Addr) : Sp := fun vs H Q E => ∃ x dx t, vs = [.ref x, .str t] ∧ H x = some (.ins cD dx []) ∧ Q .non (upd H x (.ins cD dx [("text", .str t), ("spot", .int 0)]))
theorem sc_Reader___init__ : FnScope ["self", "text"] ["self", "text"] (defScope (inClass (top 18) 0)) := ⟨rfl, rfl, rfl, by decide +kernel, rfl, by decide +kernel, by decide +kernel⟩
theorem ok_dinit (A : Adr K mg) {f : Addr} {fd : FuncData} (F : Fun K "__init__" "Reader.__init__" (inClass (top 18) 0) f fd) : FnOk P w K mg base (CX1 P w) 1 f fd ["self", "text"] (sp_dinit A.c_Reader) := by
  have S := sc_Reader___init__
  refine F.okN S (fun vs H Q E h => ?_) (fun cdv A' outer s H vs Q E hr h => ?_)
  · obtain ⟨x, dx, t, rfl, _⟩ := h
    rfl
  · obtain ⟨x, dx, t, rfl, hx, q⟩ := h
    refine ⟨_, (pss_cons (ps_fld (pv 0) (pv 1) rfl)
      (pss_one (ps_fld (pv 0) pe_int rfl))), ?_⟩
    walk_at "v"
    refine sfld_ok hx A.l_Reader A.a_text (by decide) ?_
    walk_at "v"
    refine sfld_ok upd_same A.l_Reader A.a_spot (by show 1 < 1000; decide) ?_
    walk_at "v"
    rw [upd_upd]
    exact q
theorem mkD_ok {cD : Addr} {E : XK} {tx : Pl} {H : Hp} {Q : VK} (k : ∀ r H', H r = none → Same H H' → Rd cD H' r tx tx → Q (.ref r) H') : rMk cD (sp_dinit cD) [] E [.str (mkS tx)] H Q := by
  intro x dx hx hd hne
  refine ⟨x, dx, mkS tx, rfl, upd_same, rfl, ?_⟩
  rw [upd_upd]
  have sm : Same H (upd (upd H dx (.own x)) x (.ins cD dx [("text", .str (mkS tx)), ("spot", .int 0)])) := fun b o e => by rw [upd_ne (ne_of_none e hx), upd_ne (ne_of_none e hd)]; exact e
  exact k x _ hx sm ⟨dx, [], rfl, upd_same⟩
def sp_read (N cW cR : Addr) : Sp := fun vs H Q E => ∃ tx, vs = [.str (mkS tx)] ∧ tx.length ≤ 60000 ∧ RunLe 200 tx ∧ tx.count 91 ≤ 63 ∧
  (∀ m, pMo 63 tx = some (m, []) → ∀ v H', Same H H' → Th cW cR H' v m → Q v H') ∧ ((∀ m, pMo 63 tx ≠ some (m, [])) → ∀ H', Same H H' → E (.ref N) none H')
theorem sc_read : FnScope ["text", "reader", "mobile"] ["text"] (defScope (top 19)) := ⟨rfl, rfl, rfl, by decide +kernel, rfl, by decide +kernel, by decide +kernel⟩
theorem ok_read (A : Adr K mg) {f : Addr} {fd : FuncData} (F : Fun K "read" "read" (top 19) f fd) (M_Reader : Mkr P w K mg base "Reader" A.c_Reader 1 ["self", "text"] [] (sp_dinit A.c_Reader))
    (D_read_mobile : MthR P w K mg base A "read_mobile" 131 ["self"] (fun C => sp_rmo A.c_NoText C A.c_Weight A.c_Rod 63)) (D_at_end : MthR P w K mg base A "at_end" 1 ["self"] sp_at_end) :
    FnOk P w K mg base (CX1 P w) 132 f fd ["text"] (sp_read A.c_NoText A.c_Weight A.c_Rod) := by
  have S := sc_read
  refine F.okE S (fun vs H Q E h => ?_) (fun cdv A' outer s H vs Q E hr h => ?_)
  · obtain ⟨tx, rfl, _⟩ := h
    rfl
  · obtain ⟨tx, rfl, hl, hrun, hcnt, q1, q2⟩ := h
    have hr_Reader : Room (1 + 1) _ := hr.mono (by decide)
    have hr_read_mobile : Room 131 _ := hr.mono (by decide)
    have hr_at_end : Room 1 _ := hr.mono (by decide)
    refine ⟨_, (pss_cons (ps_set (i := 1) S.nd rfl (Or.inl rfl) (pe_mk M_Reader hr_Reader passes_cx (pa_cons (pv 0) pa_nil)))
      (pss_cons (ps_set (i := 2) S.nd rfl (Or.inl rfl) (pe_m0 D_read_mobile hr_read_mobile passes_cx (pv 1)))
      (pss_cons (ps_if (pt_not (pt_val (pe_m0 D_at_end hr_at_end passes_cx (pv 1)))) (pss_one (ps_raise raises_cx hr.hd A.x_NoText rfl A.g_NoText pe_str)) pss_nil)
      (pss_one (ps_ret (pv 2)))))), ?_⟩
    walk_at "v"
    refine mkD_ok fun r H1 hr1 sm1 rd1 => ?_
    walk_at "v"
    obtain ⟨dx1, y1, z1, hi1⟩ := rd1.ins
    refine rd_dyn hi1 rfl (by rfl) ?_
    have back : ∀ {H' : Hp}, AdvR r H1 H' → Same H H' := fun a b o e => a b o (ne_of_none e hr1) (sm1 b o e)
    refine ⟨r, tx, tx, rfl, rd1, hl, hrun, hcnt, fun m t' c v H2 a2 rd2 th => ?_, fun hn H2 a2 => q2 (fun m z => by rw [hn] at z; cases z) H2 (back a2)⟩
    walk_at "v"
    obtain ⟨dx2, y2, z2, hi2⟩ := rd2.ins
    refine rd_dyn hi2 rfl (by rfl) ?_
    refine ⟨r, tx, t', rfl, rd2, hl, ?_⟩
    walk_at "v"
    by_cases ht : t' = []
    · subst ht
      simp only [decide_true, Bool.not_true, Bool.false_eq_true, if_false]
      walk_at "v"
      exact q1 m c v H2 (back a2) th
    · simp only [ht, decide_false, Bool.not_false, if_true]
      walk_at "v"
      exact q2 (fun m' z => by rw [c] at z; injection z with z; injection z with z1 z2; exact ht z2) H2 (back a2)
/-! ### the numbers of a text -/
def sp_nby : Sp := fun vs H Q E => ∃ c k : Int, vs = [.int c, .int k] ∧ ∀ f H', Same H H' → Gf f → Q (.str (mkS (frT f))) H'
theorem sm_lt {n : Nat} {a : Int} (h0 : 0 < a) (h : a < 2 ^ n) : Sm n a := small_of h0 h
theorem gf_of {f : Fr} (h : Lo f) (h1 : f.1 ≤ 10 ^ 60) (h2 : f.2 ≤ 6) : Gf f := by
  have a := h.t
  have b := h.b
  refine ⟨h, ?_, ?_⟩
  · have : ((f.1.toNat : Nat) : Int) ≤ ((10 ^ 60 : Nat) : Int) := by
      rw [Int.toNat_of_nonneg (by omega)]
      exact h1
    have := Int.ofNat_le.mp this
    exact Nat.lt_of_le_of_lt this (by decide)
  · exact Nat.lt_of_le_of_lt (show f.2.toNat ≤ 6 by omega) (by decide)
theorem lo_one {n : Int} (h : 0 < n) : Lo (n, 1) := ⟨h, Int.one_pos, Int.gcd_one⟩
theorem log_ok {n : Int} (h0 : 0 < n) (h : Sm 700 n) : n.natAbs.log2 < 1920 := Sm.log2 (h.mono (by decide)) (by omega)
theorem gf_sm {f : Fr} (h : Gf f) : Sm 700 f.1 ∧ Sm 700 f.2 := by
  have a := h.lo.t
  have b := h.lo.b
  have e1 : ((f.1.toNat : Nat) : Int) = f.1 := Int.toNat_of_nonneg (by omega)
  have e2 : ((f.2.toNat : Nat) : Int) = f.2 := Int.toNat_of_nonneg (by omega)
  refine ⟨?_, ?_⟩
  · rw [← e1]; exact sm_ten (Nat.lt_of_lt_of_le h.t (Nat.pow_le_pow_right (by decide) (by decide)))
  · rw [← e2]; exact sm_ten (Nat.lt_of_lt_of_le h.b (Nat.pow_le_pow_right (by decide) (by decide)))
theorem frT_one {n : Int} : frT (n, 1) = dg n.toNat := if_pos rfl
theorem frT_two {f : Fr} (h : f.2 ≠ 1) : frT f = dg f.1.toNat ++ ([47] ++ dg f.2.toNat) := if_neg h
theorem sc__law_number_by : FnScope ["_law_cell", "_law_kind", "_law_top", "_law_bottom"] ["_law_cell", "_law_kind"] (defScope (top 25)) := ⟨rfl, rfl, rfl, by decide +kernel, rfl, by decide +kernel, by decide +kernel⟩
theorem ok_nby (A : Adr K mg) {f : Addr} {fd : FuncData} (F : Fun K "_law_number_by" "_law_number_by" (top 25) f fd) (F__law_mixed : Fnc P w K mg base "_law_mixed" 1 ["_law_cell", "_law_factor"] [] sp_mixed) (F__law_lowest : Fnc P w K mg base "_law_lowest" 1 ["_law_top", "_law_bottom"] [] sp_lowest) :
    FnOk P w K mg base (CX1 P w) 2 f fd ["_law_cell", "_law_kind"] sp_nby := by
  have S := sc__law_number_by
  refine F.okN S (fun vs H Q E h => ?_) (fun cdv A' outer s H vs Q E hr h => ?_)
  · obtain ⟨c, k, rfl, _⟩ := h
    rfl
  · obtain ⟨c, kd, rfl, k⟩ := h
    have hr__law_mixed : Room 1 _ := hr.mono (by decide)
    have hr__law_lowest : Room 1 _ := hr.mono (by decide)
    refine ⟨_, (pss_cons (ps_if (pt_cmpR op_eq (pv 1) pe_int (nomark _)) (pss_one (ps_ret (pe_callTy call_str_int (by rfl) A.n_str bt_str (pa_cons (pe_op op_add pe_int (pe_op op_mod (pv 0) pe_int)) pa_nil)))) pss_nil)
      (pss_cons (ps_asg (pe_fn F__law_lowest hr__law_lowest pass1 (pa_cons (pe_op op_add pe_int (pe_op op_mod (pv 0) (pe_op op_pow pe_int pe_int))) (pa_cons (pe_op op_add pe_int (pe_op op_mod (pe_fn F__law_mixed hr__law_mixed pass1 (pa_cons (pv 0) (pa_cons pe_int pa_nil))) pe_int)) pa_nil))) (pg_tup rfl (pgs_cons (pg_name (i := 2) S.nd rfl (Or.inl rfl) (Or.inr rfl)) (pgs_cons (pg_name (i := 3) S.nd rfl (Or.inl rfl) (Or.inr rfl)) pgs_nil))))
      (pss_cons (ps_if (pt_cmpR op_eq (pv 3) pe_int (nomark _)) (pss_one (ps_ret (pe_callTy call_str_int (by rfl) A.n_str bt_str (pa_cons (pv 2) pa_nil)))) pss_nil)
      (pss_one (ps_ret (pe_op op_add_str (pe_op op_add_str (pe_callTy call_str_int (by rfl) A.n_str bt_str (pa_cons (pv 2) pa_nil)) pe_str) (pe_callTy call_str_int (by rfl) A.n_str bt_str (pa_cons (pv 3) pa_nil)))))))), ?_⟩
    walk_at "v"
    by_cases h1 : kd = 1
    · simp only [h1, if_true]
      walk_at "v"
      have a1 := Int.emod_nonneg c (by decide : (12 : Int) ≠ 0)
      have a2 := Int.emod_lt_of_pos c (by decide : (0 : Int) < 12)
      have p60 : (13 : Int) ≤ 10 ^ 60 := by decide
      have g : Gf (1 + c % 12, 1) := gf_of (lo_one (by omega)) (by show 1 + c % 12 ≤ 10 ^ 60; omega) (by show (1 : Int) ≤ 6; decide)
      refine ⟨log_ok (by omega) (gf_sm g).1, ?_⟩
      have := k _ H (Same.refl H) g
      rw [frT_one, ← str_int (by omega)] at this
      exact this
    · simp only [h1, if_false]
      walk_at "v"
      refine ⟨⟨by decide, by decide, by decide⟩, by decide, ?_⟩
      refine ⟨_, _, rfl, by decide, by decide, fun n n0 n1 => ?_⟩
      walk_at "v"
      have e60 : (10 : Int) ^ Int.toNat 60 = 10 ^ 60 := rfl
      rw [e60]
      have a1 := Int.emod_nonneg n (by decide : (6 : Int) ≠ 0)
      have a2 := Int.emod_lt_of_pos n (by decide : (0 : Int) < 6)
      have b1 := Int.emod_nonneg c (by decide : (10 ^ 60 : Int) ≠ 0)
      have b2 := Int.emod_lt_of_pos c (by decide : (0 : Int) < 10 ^ 60)
      have p89 : (6 : Int) < 2 ^ 8999 := by decide +kernel
      refine low_ok (by omega) (sm_lt (by omega) (by omega)) fun v H' sm hv => ?_
      generalize hf : low (1 + c % 10 ^ 60) (1 + n % 6) = f at hv
      have t0 : (0 : Int) < 1 + c % 10 ^ 60 := by omega
      have t1 : (0 : Int) < 1 + n % 6 := by omega
      have g : Gf f := by
        rw [← hf]
        have := low_top t0 t1
        have := low_bot (a := 1 + c % 10 ^ 60) t1
        exact gf_of ⟨(low_pos t0 t1).1, (low_pos t0 t1).2, low_gcd (by omega)⟩ (by omega) (by omega)
      have g0 := g.lo.t
      have g1 := g.lo.b
      obtain ⟨p, rfl, hp⟩ := hv
      refine ⟨p, _, rfl, SqT.of hp, rfl, _, _, rfl, ?_⟩
      refine ⟨_, _, rfl, rfl, ?_⟩
      walk_at "v"
      have kk := k f H' sm g
      by_cases hb : f.2 = 1
      · simp only [hb, decide_true, if_true]
        walk_at "v"
        refine ⟨log_ok g0 (gf_sm g).1, ?_⟩
        have e : f = (f.1, 1) := Prod.ext rfl hb
        rw [e, frT_one, ← str_int (by omega)] at kk
        exact kk
      · simp only [hb, decide_false, Bool.false_eq_true, if_false]
        walk_at "v"
        rw [frT_two hb] at kk
        have l1 := dg_len (k := 61) (by decide) g.t
        have l2 := dg_len (k := 61) (by decide) g.b
        have es1 : Str.ofString (toString f.1) = mkS (dg f.1.toNat) := str_int (by omega)
        have es2 : Str.ofString (toString f.2) = mkS (dg f.2.toNat) := str_int (by omega)
        simp only [es1, es2, s_slash, mkS_app, mkS_length, List.length_append, List.length_cons, List.length_nil, sizeLine_eq, List.append_assoc]
        exact ⟨log_ok g0 (gf_sm g).1, by omega, log_ok g1 (gf_sm g).2, by omega, kk⟩
end
end K4

set_option maxHeartbeats 4000000
set_option hygiene false

namespace K4
open PySem PySem.Spec PyProof.Rows L2 FrM MoM TxM
section
variable {P : Program} {w : World} {K : PySem.W.Frag} {mg : Str → Option Value} {base : Heap}
/-! ### the text of a mobile -/
def sp_base (K : PySem.W.Frag) : Sp := fun vs H Q E => ∃ (a : Addr) (ns : List Int) (k : Int), vs = [.ref a, .int k] ∧ SqL K H a (ns.map V.int) ∧ ∀ m H', Same H H' → GM m → m.nw ≤ 7 → Q (.str (mkS (moT m))) H'
theorem sc__law_base : FnScope ["_law_script", "_law_kind", "_law_text", "_law_cell", "_law_number", "_law_beside", "_law_arms"] ["_law_script", "_law_kind"] (defScope (top 26)) := ⟨rfl, rfl, rfl, by decide +kernel, rfl, by decide +kernel, by decide +kernel⟩
theorem ok_base (A : Adr K mg) {f : Addr} {fd : FuncData} (F : Fun K "_law_base" "_law_base" (top 26) f fd) (F__law_cell_at : Fnc P w K mg base "_law_cell_at" 1 ["_law_script", "_law_k"] [] (sp_cell K)) (F__law_mixed : Fnc P w K mg base "_law_mixed" 1 ["_law_cell", "_law_factor"] [] sp_mixed)
    (F__law_number_by : Fnc P w K mg base "_law_number_by" 2 ["_law_cell", "_law_kind"] [] sp_nby) : FnOk P w K mg base (CX1 P w) 3 f fd ["_law_script", "_law_kind"] (sp_base K) := by
  have S := sc__law_base
  refine F.okN S (fun vs H Q E h => ?_) (fun cdv A' outer s H vs Q E hr h => ?_)
  · obtain ⟨a, ns, k, rfl, _⟩ := h
    rfl
  · obtain ⟨a, ns, kd, rfl, hs, k⟩ := h
    have hr__law_cell_at : Room 1 _ := hr.mono (by decide)
    have hr__law_mixed : Room 1 _ := hr.mono (by decide)
    have hr__law_number_by : Room 2 _ := hr.mono (by decide)
    refine ⟨_, (pss_cons (ps_set (i := 2) S.nd rfl (Or.inl rfl) (pe_fn F__law_number_by hr__law_number_by pass1 (pa_cons (pe_fn F__law_cell_at hr__law_cell_at pass1 (pa_cons (pv 0) (pa_cons pe_int pa_nil))) (pa_cons (pv 1) pa_nil))))
      (pss_cons (ps_for PassesOwn.never rfl (pi_listK (K := K) rfl (pe_slice (slL (K := K) rfl) (pv 0) (po_some pe_int) (po_some pe_int))) (pg_name (i := 3) S.nd rfl (Or.inl rfl)) (pss_cons (ps_set (i := 4) S.nd rfl (Or.inl rfl) (pe_fn F__law_mixed hr__law_mixed pass1 (pa_cons (pv 3) (pa_cons pe_int pa_nil))))
      (pss_cons (ps_set (i := 5) S.nd rfl (Or.inl rfl) (pe_fn F__law_number_by hr__law_number_by pass1 (pa_cons (pe_op op_fdivP (pv 3) pe_int) (pa_cons (pv 1) pa_nil))))
      (pss_cons (ps_set (i := 6) S.nd rfl (Or.inl rfl) (pe_lst (pa_cons (pe_op op_add_str (pe_fn F__law_number_by hr__law_number_by pass1 (pa_cons (pv 4) (pa_cons (pv 1) pa_nil))) pe_str) (pa_cons (pe_op op_add_str (pe_fn F__law_number_by hr__law_number_by pass1 (pa_cons (pe_op op_fdivP (pv 4) pe_int) (pa_cons (pv 1) pa_nil))) pe_str) pa_nil))))
      (pss_one (ps_if (pt_cmpR op_eq (pe_op op_mod (pe_op op_fdivP (pv 4) pe_int) pe_int) pe_int (nomark _)) (pss_one (ps_set (i := 2) S.nd rfl (Or.inl rfl) (pe_op op_add_str (pe_op op_add_str (pe_op op_add_str (pe_op op_add_str (pe_op op_add_str (pe_op op_add_str pe_str (pe_ix (ixL (K := K) rfl) (pv 6) pe_int (fun _ _ => rfl))) (pv 2)) pe_str) (pe_ix (ixL (K := K) rfl) (pv 6) pe_int (fun _ _ => rfl))) (pv 5)) pe_str))) (pss_one (ps_set (i := 2) S.nd rfl (Or.inl rfl) (pe_op op_add_str (pe_op op_add_str (pe_op op_add_str (pe_op op_add_str (pe_op op_add_str (pe_op op_add_str pe_str (pe_ix (ixL (K := K) rfl) (pv 6) pe_int (fun _ _ => rfl))) (pv 5)) pe_str) (pe_ix (ixL (K := K) rfl) (pv 6) pe_int (fun _ _ => rfl))) (pv 2)) pe_str)))))))))
      (pss_one (ps_ret (pv 2))))), ?_⟩
    walk_at "v"
    refine ⟨a, ns, 1, rfl, hs, ?_⟩
    walk_at "v"
    refine ⟨_, kd, rfl, fun f0 H1 sm1 g0 => ?_⟩
    walk_at "v"
    refine ⟨a, _, rfl, sm1.sql hs, fun ls hls => ⟨ls, rfl, ⟨_, SqL.of upd_same⟩, ?_⟩⟩
    have hlen := cutV_len (xs := ns.map V.int) (i := 2) (j := 8)
    have hcut : ∀ x ∈ cutV (ns.map V.int) (some 2) (some 8), ∃ c, x = .int c := fun x h => cutV_int h
    have hlen : (cutV (ns.map V.int) (some 2) (some 8)).length ≤ 6 := hlen
    generalize cutV (ns.map V.int) (some 2) (some 8) = cells at hlen hcut ⊢
    refine for_listN (xs := cells) (fun i σ H' => ∃ m o3 o4 o5 o6, σ = [some (.ref a), some (.int kd), some (.str (mkS (moT m))), o3, o4, o5, o6] ∧ m.nw = i + 1 ∧ GM m ∧ Same H H' ∧ H' ls = some (.lst cells))
      ⟨.wt f0, none, none, none, none, rfl, rfl, g0, fun b o e => same_upd hls b o (sm1 b o e), upd_same⟩ ?_ ?_ ?_
    · rintro i σ H' hi ⟨m, o3, o4, o5, o6, rfl, _, _, _, hls'⟩
      exact SqL.of hls'
    · rintro i x σ H' N hx ⟨m, o3, o4, o5, o6, rfl, hnw, hg, sm, hls'⟩ hN
      obtain ⟨c, rfl⟩ := hcut x (List.mem_of_getElem? hx)
      have hi : i < cells.length := by
        rcases Nat.lt_or_ge i cells.length with h | h
        · exact h
        · rw [List.getElem?_eq_none_iff.mpr h] at hx; cases hx
      have hm6 : m.nw ≤ 6 := by rw [hnw]; exact Nat.le_trans hi hlen
      have zm : (moT m).length ≤ 2244 := Nat.le_trans (Nat.le_trans (Nat.le_add_right _ _) (moT_len hg)) (Nat.mul_le_mul_right 374 hm6)
      walk_at "v"
      refine ⟨_, _, rfl, by decide, by decide, fun n n0 n1 => ?_⟩
      walk_at "v"
      refine ⟨⟨by decide, by decide +kernel⟩, ?_⟩
      refine ⟨_, kd, rfl, fun f1 H2 sm2 g1 => ?_⟩
      walk_at "v"
      refine ⟨_, kd, rfl, fun f2 H3 sm3 g2 => ?_⟩
      walk_at "v"
      have b1 := frT_len g1
      have b2 := frT_len g2
      have zc : ([58] : Pl).length ≤ 1 := Nat.le_refl 1
      simp only [s_colon, mkS_app]
      refine ⟨cat_sz b2 zc (by decide), ?_⟩
      walk_at "v"
      refine ⟨⟨by decide, by decide +kernel⟩, ?_⟩
      refine ⟨_, kd, rfl, fun f3 H4 sm4 g3 => ?_⟩
      walk_at "v"
      have b3 := frT_len g3
      simp only [s_colon, mkS_app]
      refine ⟨cat_sz b3 zc (by decide), ?_⟩
      walk_at "v"
      refine ⟨by decide, fun p hp => ?_⟩
      walk_at "v"
      refine ⟨⟨by decide, by decide +kernel⟩, ?_⟩
      have smN : Same H' (upd H4 p (.lst [.str (mkS (frT f2 ++ [58])), .str (mkS (frT f3 ++ [58]))])) := ((sm2.trans sm3).trans sm4).trans (same_upd hp)
      have zo : ([91] : Pl).length ≤ 1 := Nat.le_refl 1
      have zc' : ([32] : Pl).length ≤ 1 := Nat.le_refl 1
      have zs : ([93] : Pl).length ≤ 1 := Nat.le_refl 1
      by_cases hpar : n / 64 % 2 = 0
      · simp only [hpar, if_true]
        walk_at "v"
        refine ixL_ok (i := 0) (SqL.of upd_same) rfl ?_
        walk_at "v"
        simp only [s_open, s_blank, s_shut, mkS_app]
        refine ⟨cat_sz zo (sz_app b2 zc) (by decide), cat_sz (sz_app zo (sz_app b2 zc)) zm (by decide), cat_sz (sz_app (sz_app zo (sz_app b2 zc)) zm) zc' (by decide), ?_⟩
        walk_at "v"
        refine ixL_ok (i := 1) (SqL.of upd_same) rfl ?_
        walk_at "v"
        simp only [mkS_app]
        refine ⟨cat_sz (sz_app (sz_app (sz_app zo (sz_app b2 zc)) zm) zc') (sz_app b3 zc) (by decide), cat_sz (sz_app (sz_app (sz_app (sz_app zo (sz_app b2 zc)) zm) zc') (sz_app b3 zc)) b1 (by decide), cat_sz (sz_app (sz_app (sz_app (sz_app (sz_app zo (sz_app b2 zc)) zm) zc') (sz_app b3 zc)) b1) zs (by decide), ?_⟩
        exact hN _ _ ⟨.rod f2 m f3 (.wt f1), some (.int c), some (.int n), some (.str (mkS (frT f1))), some (.ref p), by simp [moT], by simp only [Mo.nw]; omega, ⟨g2, g3, hg, g1⟩, sm.trans smN, smN _ _ hls'⟩
      · simp only [hpar, if_false]
        walk_at "v"
        refine ixL_ok (i := 0) (SqL.of upd_same) rfl ?_
        walk_at "v"
        simp only [s_open, s_blank, s_shut, mkS_app]
        refine ⟨cat_sz zo (sz_app b2 zc) (by decide), cat_sz (sz_app zo (sz_app b2 zc)) b1 (by decide), cat_sz (sz_app (sz_app zo (sz_app b2 zc)) b1) zc' (by decide), ?_⟩
        walk_at "v"
        refine ixL_ok (i := 1) (SqL.of upd_same) rfl ?_
        walk_at "v"
        simp only [mkS_app]
        refine ⟨cat_sz (sz_app (sz_app (sz_app zo (sz_app b2 zc)) b1) zc') (sz_app b3 zc) (by decide), cat_sz (sz_app (sz_app (sz_app (sz_app zo (sz_app b2 zc)) b1) zc') (sz_app b3 zc)) zm (by decide), cat_sz (sz_app (sz_app (sz_app (sz_app (sz_app zo (sz_app b2 zc)) b1) zc') (sz_app b3 zc)) zm) zs (by decide), ?_⟩
        exact hN _ _ ⟨.rod f2 (.wt f1) f3 m, some (.int c), some (.int n), some (.str (mkS (frT f1))), some (.ref p), by simp [moT], by simp only [Mo.nw]; omega, ⟨g2, g3, g1, hg⟩, sm.trans smN, smN _ _ hls'⟩
    · rintro σ H' ⟨m, o3, o4, o5, o6, rfl, hnw, hg, sm, hls'⟩
      walk_at "v"
      exact k m H' sm hg (by omega)
/-! ### signs -/
def sp_sign : Sp := fun vs H Q E => ∃ n : Int, vs = [.int n] ∧ ∀ c, Q (.str (mkS [c])) H
theorem signs_len : ("[]: /0123456789[]: /0123456789lr-+._x,(e" : Str).cps.toList.length = 40 := by decide +kernel
theorem sc__law_sign : FnScope ["_law_number", "_law_signs"] ["_law_number"] (defScope (top 27)) := ⟨rfl, rfl, rfl, by decide +kernel, rfl, by decide +kernel, by decide +kernel⟩
theorem ok_sign (A : Adr K mg) {f : Addr} {fd : FuncData} (F : Fun K "_law_sign" "_law_sign" (top 27) f fd) : FnOk P w K mg base (CX1 P w) 1 f fd ["_law_number"] sp_sign := by
  have S := sc__law_sign
  refine F.okN S (fun vs H Q E h => ?_) (fun cdv A' outer s H vs Q E hr h => ?_)
  · obtain ⟨n, rfl, _⟩ := h
    rfl
  · obtain ⟨n, rfl, q⟩ := h
    refine ⟨_, (pss_cons (ps_set (i := 1) S.nd rfl (Or.inl rfl) pe_str)
      (pss_one (ps_ret (pe_ix ix_str (pv 1) (pe_op op_mod (pv 0) (pe_callB call_len_str (by rfl) A.n_len bt_len (pa_cons (pv 1) pa_nil))) (fun _ _ => rfl))))), ?_⟩
    walk_at "v"
    have e40 : ((("[]: /0123456789[]: /0123456789lr-+._x,(e" : Str).length : Nat) : Int) = 40 := by decide +kernel
    rw [e40]
    refine ⟨by decide +kernel, by decide, ?_⟩
    have a1 := Int.emod_nonneg n (by decide : (40 : Int) ≠ 0)
    have a2 := Int.emod_lt_of_pos n (by decide : (0 : Int) < 40)
    obtain ⟨j, hj⟩ := Int.eq_ofNat_of_zero_le a1
    rw [hj]
    have hj' : j < ("[]: /0123456789[]: /0123456789lr-+._x,(e" : Str).cps.toList.length := by rw [signs_len]; omega
    exact ⟨_, j, _, rfl, rfl, by decide +kernel, atI_nat (List.getElem?_eq_getElem hj'), q _⟩
/-! ### a text spoiled -/
def sp_spoiled : Sp := fun vs H Q E => ∃ (tx : Pl) (c : Int), vs = [.str (mkS tx), .int c] ∧ tx.length ≤ 10000 ∧ ∀ a x y b, tx = a ++ (y ++ b) → x.length ≤ 1 → Q (.str (mkS (a ++ (x ++ b)))) H
theorem sc__law_spoiled : FnScope ["_law_text", "_law_cell", "_law_number", "_law_at", "_law_sign_here"] ["_law_text", "_law_cell"] (defScope (top 28)) := ⟨rfl, rfl, rfl, by decide +kernel, rfl, by decide +kernel, by decide +kernel⟩
theorem ok_spoiled (A : Adr K mg) {f : Addr} {fd : FuncData} (F : Fun K "_law_spoiled" "_law_spoiled" (top 28) f fd) (F__law_mixed : Fnc P w K mg base "_law_mixed" 1 ["_law_cell", "_law_factor"] [] sp_mixed) (F__law_sign : Fnc P w K mg base "_law_sign" 1 ["_law_number"] [] sp_sign) :
    FnOk P w K mg base (CX1 P w) 2 f fd ["_law_text", "_law_cell"] sp_spoiled := by
  have S := sc__law_spoiled
  refine F.okN S (fun vs H Q E h => ?_) (fun cdv A' outer s H vs Q E hr h => ?_)
  · obtain ⟨tx, c, rfl, _⟩ := h
    rfl
  · obtain ⟨tx, c, rfl, hl, q⟩ := h
    have hr__law_mixed : Room 1 _ := hr.mono (by decide)
    have hr__law_sign : Room 1 _ := hr.mono (by decide)
    refine ⟨_, (pss_cons (ps_set (i := 2) S.nd rfl (Or.inl rfl) (pe_fn F__law_mixed hr__law_mixed pass1 (pa_cons (pv 1) (pa_cons pe_int pa_nil))))
      (pss_cons (ps_set (i := 3) S.nd rfl (Or.inl rfl) (pe_op op_mod (pe_op op_fdivP (pe_fn F__law_mixed hr__law_mixed pass1 (pa_cons (pv 1) (pa_cons pe_int pa_nil))) pe_int) (pe_op op_add (pe_callB call_len_str (by rfl) A.n_len bt_len (pa_cons (pv 0) pa_nil)) pe_int)))
      (pss_cons (ps_set (i := 4) S.nd rfl (Or.inl rfl) (pe_fn F__law_sign hr__law_sign pass1 (pa_cons (pe_op op_fdivP (pv 2) pe_int) pa_nil)))
      (pss_cons (ps_if (pt_cmpR op_eq (pe_op op_mod (pv 2) pe_int) pe_int (nomark _)) (pss_one (ps_ret (pe_op op_add_str (pe_op op_add_str (pe_slice sl_str (pv 0) po_none (po_some (pv 3))) (pv 4)) (pe_slice sl_str (pv 0) (po_some (pv 3)) po_none)))) pss_nil)
      (pss_cons (ps_if (pt_cmpR op_eq (pe_op op_mod (pv 2) pe_int) pe_int (nomark _)) (pss_one (ps_ret (pe_op op_add_str (pe_slice sl_str (pv 0) po_none (po_some (pv 3))) (pe_slice sl_str (pv 0) (po_some (pe_op op_add (pv 3) pe_int)) po_none)))) pss_nil)
      (pss_one (ps_ret (pe_op op_add_str (pe_op op_add_str (pe_slice sl_str (pv 0) po_none (po_some (pv 3))) (pv 4)) (pe_slice sl_str (pv 0) (po_some (pe_op op_add (pv 3) pe_int)) po_none))))))))), ?_⟩
    walk_at "v"
    refine ⟨_, _, rfl, by decide, by decide, fun n n0 n1 => ?_⟩
    walk_at "v"
    refine ⟨_, _, rfl, by decide, by decide, fun n' n0' n1' => ?_⟩
    walk_at "v"
    refine ⟨⟨by decide, by decide +kernel⟩, ?_⟩
    rw [mkS_length]
    refine ⟨by rw [sizeLine_eq]; omega, by omega, ?_⟩
    have a1 := Int.emod_nonneg (n' / 4) (by omega : ((tx.length : Int) + 1) ≠ 0)
    have a2 := Int.emod_lt_of_pos (n' / 4) (by omega : (0 : Int) < (tx.length : Int) + 1)
    generalize n' / 4 % ((tx.length : Int) + 1) = at' at a1 a2 ⊢
    obtain ⟨j, rfl⟩ := Int.eq_ofNat_of_zero_le a1
    have hj : j ≤ tx.length := by omega
    walk_at "v"
    refine ⟨⟨by decide, by decide +kernel⟩, ?_⟩
    refine ⟨_, rfl, fun d => ?_⟩
    walk_at "v"
    have hsz : (mkS tx).length ≤ sizeLine := by rw [mkS_length, sizeLine_eq]; omega
    have l1 : (tx.take j).length ≤ 10000 := Nat.le_trans (List.length_take_le' _ _) hl
    have l2 : ∀ i, (tx.drop i).length ≤ 10000 := fun i => Nat.le_trans (by rw [List.length_drop]; exact Nat.sub_le _ _) hl
    have zd : ([d] : Pl).length ≤ 1 := Nat.le_refl 1
    have ej : ((j : Int) + 1) = ((j + 1 : Nat) : Int) := rfl
    by_cases h0 : n % 3 = 0
    · simp only [h0, if_true]
      walk_at "v"
      refine ⟨mkS tx, rfl, hsz, ?_⟩
      rw [slice_toN tx j hj]
      walk_at "v"
      refine ⟨cat_sz l1 zd (by decide), ?_⟩
      walk_at "v"
      refine ⟨mkS tx, rfl, hsz, ?_⟩
      rw [slice_fromN, mkS_app]
      walk_at "v"
      refine ⟨cat_sz (sz_app l1 zd) (l2 j) (by decide), ?_⟩
      rw [mkS_app, List.append_assoc]
      exact q (tx.take j) [d] [] (tx.drop j) (by simp) (by simp)
    · simp only [h0, if_false]
      walk_at "v"
      by_cases h1 : n % 3 = 1
      · simp only [h1, if_true]
        walk_at "v"
        refine ⟨mkS tx, rfl, hsz, ?_⟩
        rw [slice_toN tx j hj]
        walk_at "v"
        refine ⟨mkS tx, rfl, hsz, ?_⟩
        rw [ej, slice_fromN]
        walk_at "v"
        refine ⟨cat_sz l1 (l2 (j + 1)) (by decide), ?_⟩
        rw [mkS_app]
        exact q (tx.take j) [] _ (tx.drop (j + 1)) (cut_one tx j) (by simp)
      · simp only [h1, if_false]
        walk_at "v"
        refine ⟨mkS tx, rfl, hsz, ?_⟩
        rw [slice_toN tx j hj]
        walk_at "v"
        refine ⟨cat_sz l1 zd (by decide), ?_⟩
        walk_at "v"
        refine ⟨mkS tx, rfl, hsz, ?_⟩
        rw [ej, slice_fromN, mkS_app]
        walk_at "v"
        refine ⟨cat_sz (sz_app l1 zd) (l2 (j + 1)) (by decide), ?_⟩
        rw [mkS_app, List.append_assoc]
        exact q (tx.take j) [d] _ (tx.drop (j + 1)) (cut_one tx j) (by simp)
end
end K4

set_option maxHeartbeats 4000000
set_option hygiene false

namespace K4
open PySem PySem.Spec PyProof.Rows L2 FrM MoM TxM
section
variable {P : Program} {w : World} {K : PySem.W.Frag} {mg : Str → Option Value} {base : Heap}
/-! ### odd texts -/
def O1 : List Str := ["", " 3", "3 ", "0", "00", "03", "3/1", "3/0", "2/4", "+3", "-3", "3/", "/3", "1/2/3"]
def O2 : List Str := ["[1:2 1:3", "[1:2  1:3]", "[1:2,1:3]", "[1:2 1:3]]", "[1:2]", "[]", "[0:2 1:3]"]
def O3 : List Str := ["[1:2 1:3] ", "[1: 2 1:3]", "[1:2 2/2:3]", "[1:2 1:3 1:4]", "1.5", "[2 3]", "3/03"]
def odds : List Str := O1 ++ O2 ++ O3
theorem odds_len : odds.length = 28 := by decide +kernel
theorem odds_no : odds.all (fun z => decide (z.cps.toList.length ≤ 63) && (match pMo 63 z.cps.toList with | some (_, []) => false | _ => true)) = true := by decide +kernel
def sp_odd : Sp := fun vs H Q E => ∃ c : Int, vs = [.int c] ∧ ∀ z H', Same H H' → z ∈ odds → Q (.str z) H'
theorem sc__law_odd : FnScope ["_law_cell", "_law_some"] ["_law_cell"] (defScope (top 29)) := ⟨rfl, rfl, rfl, by decide +kernel, rfl, by decide +kernel, by decide +kernel⟩
theorem odd_body : ∃ (es1 es2 es3 : List Expr) (p1 p2 p3 p4 p5 p6 p7 p8 p9 p10 p11 p12 p13 p14 p15 p16 p17 p18 p19 : Pos), defBody (top 29) = [
    .Assign [.Name "_law_some" p1] (.List es1 p2) p3,
    .Assign [.Name "_law_some" p4] (.BinOp (.Name "_law_some" p5) .Add (.List es2 p6) p7) p8,
    .Assign [.Name "_law_some" p9] (.BinOp (.Name "_law_some" p10) .Add (.List es3 p11) p12) p13,
    .Return (some (.Subscript (.Name "_law_some" p14) (.BinOp (.Name "_law_cell" p15) .Mod (.Constant (.int 28) 0 p16) p17) p18)) p19] ∧ (es1 = (es1.filterMap strE).map mkC ∧ (es1.filterMap strE).map (·.1) = O1) ∧ (es2 = (es2.filterMap strE).map mkC ∧ (es2.filterMap strE).map (·.1) = O2) ∧ (es3 = (es3.filterMap strE).map mkC ∧ (es3.filterMap strE).map (·.1) = O3) :=
  ⟨_, _, _, _, _, _, _, _, _, _, _, _, _, _, _, _, _, _, _, _, _, _, rfl, ⟨rfl, by decide +kernel⟩, ⟨rfl, by decide +kernel⟩, ⟨rfl, by decide +kernel⟩⟩
theorem ok_odd (A : Adr K mg) {f : Addr} {fd : FuncData} (F : Fun K "_law_odd" "_law_odd" (top 29) f fd) : FnOk P w K mg base (CX1 P w) 1 f fd ["_law_cell"] sp_odd := by
  have S := sc__law_odd
  refine F.okN S (fun vs H Q E h => ?_) (fun cdv A' outer s H vs Q E hr h => ?_)
  · obtain ⟨c, rfl, _⟩ := h
    rfl
  · obtain ⟨c, rfl, q⟩ := h
    obtain ⟨es1, es2, es3, p1, p2, p3, p4, p5, p6, p7, p8, p9, p10, p11, p12, p13, p14, p15, p16, p17, p18, p19, hb, g1, g2, g3⟩ := odd_body
    rw [hb]
    refine ⟨_, (pss_cons (ps_set (i := 1) S.nd rfl (Or.inl rfl) (pe_lst (pa_strs g1.1 g1.2)) swaps_lst)
      (pss_cons (ps_set (i := 1) S.nd rfl (Or.inl rfl) (pe_op op_cat (pv 1) (pe_lst (pa_strs g2.1 g2.2))) swaps_bin)
      (pss_cons (ps_set (i := 1) S.nd rfl (Or.inl rfl) (pe_op op_cat (pv 1) (pe_lst (pa_strs g3.1 g3.2))) swaps_bin)
      (pss_one (ps_ret (pe_ix (ixL (K := K) rfl) (pv 1) (pe_op op_mod (pv 0) pe_int) (fun _ _ => rfl))))))), ?_⟩
    walk_at "v"
    refine ⟨by decide +kernel, fun p1 h1 => ?_⟩
    walk_at "v"
    refine ⟨by decide +kernel, fun p2 h2 => ?_⟩
    have n12 : p1 ≠ p2 := fun z => by rw [← z, upd_same] at h2; cases h2
    refine ⟨p1, p2, _, _, rfl, rfl, (by rw [upd_ne n12]; exact upd_same), upd_same, by decide +kernel, fun p3 h3 => ?_⟩
    walk_at "v"
    refine ⟨by decide +kernel, fun p4 h4 => ?_⟩
    have n34 : p3 ≠ p4 := fun z => by rw [← z, upd_same] at h4; cases h4
    refine ⟨p3, p4, _, _, rfl, rfl, (by rw [upd_ne n34]; exact upd_same), upd_same, by decide +kernel, fun p5 h5 => ?_⟩
    walk_at "v"
    have a1 := Int.emod_nonneg c (by decide : (28 : Int) ≠ 0)
    have a2 := Int.emod_lt_of_pos c (by decide : (0 : Int) < 28)
    obtain ⟨j, hj⟩ := Int.eq_ofNat_of_zero_le a1
    have hj' : j < odds.length := by rw [odds_len]; omega
    rw [hj]
    have el : O1.map V.str ++ O2.map V.str ++ O3.map V.str = odds.map V.str := by unfold odds; rw [List.map_append, List.map_append]
    rw [el]
    refine ixL_ok (xs := odds.map V.str) (SqL.of upd_same) (by rw [List.getElem?_map, List.getElem?_eq_getElem hj']; rfl) ?_
    refine q _ _ ?_ (List.getElem_mem hj')
    exact ((((same_upd h1).trans (same_upd h2)).trans (same_upd h3)).trans (same_upd h4)).trans (same_upd h5)
end
end K4

set_option maxHeartbeats 4000000
set_option hygiene false

namespace K4
open PySem PySem.Spec PyProof.Rows L2 FrM MoM TxM
section
variable {P : Program} {w : World} {K : PySem.W.Frag} {mg : Str → Option Value} {base : Heap}
/-! ### written here -/
def sp_shnum : Sp := fun vs H Q E => ∃ v f, vs = [v] ∧ FrV H v f ∧ Lo f ∧ S7 f ∧ (frT f).length ≤ 60000 ∧ ∀ H', Same H H' → Q (.str (mkS (frT f))) H'
theorem sc__law_shown_number : FnScope ["_law_one"] ["_law_one"] (defScope (top 30)) := ⟨rfl, rfl, rfl, by decide +kernel, rfl, by decide +kernel, by decide +kernel⟩
theorem ok_shnum (A : Adr K mg) {f : Addr} {fd : FuncData} (F : Fun K "_law_shown_number" "_law_shown_number" (top 30) f fd) (F__law_whole : Fnc P w K mg base "_law_whole" 1 ["_law_found"] [] sp_whole) (F__law_lowest : Fnc P w K mg base "_law_lowest" 1 ["_law_top", "_law_bottom"] [] sp_lowest) :
    FnOk P w K mg base (CX1 P w) 2 f fd ["_law_one"] sp_shnum := by
  have S := sc__law_shown_number
  refine F.okN S (fun vs H Q E h => ?_) (fun cdv A' outer s H vs Q E hr h => ?_)
  · obtain ⟨v, f, rfl, _⟩ := h
    rfl
  · obtain ⟨v, f, rfl, hv, lo, s7, hl, k⟩ := h
    have hr__law_whole : Room 1 _ := hr.mono (by decide)
    have hr__law_lowest : Room 1 _ := hr.mono (by decide)
    have hu := hu_of hr
    refine ⟨_, (pss_cons (ps_if (PW.pt (pw_or (pt_not (pt_val (pe_callB (isiK (K := K) rfl) (by rfl) A.n_isinstance bt_isinstance (pa_cons (pv 0) (pa_cons (pe_bltn (v := .ty "tuple") rfl A.n_tuple bt_tuple rfl) pa_nil))))) (pw_or (pt_cmpR op_ne (pe_callB (lenK (K := K) rfl) (by rfl) A.n_len bt_len (pa_cons (pv 0) pa_nil)) pe_int (nomark _)) (pw_or (pt_not (pt_val (pe_fn F__law_whole hr__law_whole pass1 (pa_cons (pe_ix (ixT (K := K) rfl) (pv 0) pe_int (fun _ _ => rfl)) pa_nil)))) (pw_or1 (pt_not (pt_val (pe_fn F__law_whole hr__law_whole pass1 (pa_cons (pe_ix (ixT (K := K) rfl) (pv 0) pe_int (fun _ _ => rfl)) pa_nil))))))))) (pss_one (ps_ret pe_str)) pss_nil)
      (pss_cons (ps_if (PW.pt (pw_or (pt_cmpR op_lt (pe_ix (ixT (K := K) rfl) (pv 0) pe_int (fun _ _ => rfl)) pe_int (nomark _)) (pw_or (pt_cmpR op_lt (pe_ix (ixT (K := K) rfl) (pv 0) pe_int (fun _ _ => rfl)) pe_int (nomark _)) (pw_or1 (pt_cmpR (op_neF hu) (pe_fn F__law_lowest hr__law_lowest pass1 (pa_cons (pe_ix (ixT (K := K) rfl) (pv 0) pe_int (fun _ _ => rfl)) (pa_cons (pe_ix (ixT (K := K) rfl) (pv 0) pe_int (fun _ _ => rfl)) pa_nil))) (pv 0) (nomark _)))))) (pss_one (ps_ret pe_str)) pss_nil)
      (pss_cons (ps_if (pt_cmpR op_eq (pe_ix (ixT (K := K) rfl) (pv 0) pe_int (fun _ _ => rfl)) pe_int (nomark _)) (pss_one (ps_ret (pe_callTy call_str_int (by rfl) A.n_str bt_str (pa_cons (pe_ix (ixT (K := K) rfl) (pv 0) pe_int (fun _ _ => rfl)) pa_nil)))) pss_nil)
      (pss_one (ps_ret (pe_op op_add_str (pe_op op_add_str (pe_callTy call_str_int (by rfl) A.n_str bt_str (pa_cons (pe_ix (ixT (K := K) rfl) (pv 0) pe_int (fun _ _ => rfl)) pa_nil)) pe_str) (pe_callTy call_str_int (by rfl) A.n_str bt_str (pa_cons (pe_ix (ixT (K := K) rfl) (pv 0) pe_int (fun _ _ => rfl)) pa_nil)))))))), ?_⟩
    have g0 := lo.t
    have g1 := lo.b
    walk_at "gm"
    refine isi_ok (TyX.fr hv) rfl A.t_tt ?_
    walk_at "gm"
    refine len_ok (LenV.fr hv) ?_
    walk_at "gm"
    refine ⟨_, rfl, ?_⟩
    walk_at "gm"
    refine ⟨_, rfl, ?_⟩
    walk_at "gm"
    have n1 : ¬ (f.1 < 1) := by omega
    have n2 : ¬ (f.2 < 1) := by omega
    simp only [n1, decide_false, Bool.false_eq_true, if_false]
    walk_at "gm"
    simp only [n2, decide_false, Bool.false_eq_true, if_false]
    walk_at "gm"
    refine low_ok g1 (s7.2.mono (by decide)) fun v' H1 sm1 hv' => ?_
    have hv1 := hv.same sm1
    rw [lo.low] at hv'
    refine ⟨_, _, _, _, hv', hv1, ?_⟩
    simp only [and_self, decide_true, Bool.not_true, Bool.false_eq_true, if_false]
    walk_at "gm"
    have kk := k H1 sm1
    by_cases hb : f.2 = 1
    · simp only [hb, decide_true, if_true]
      walk_at "gm"
      have e : f = (f.1, 1) := Prod.ext rfl hb
      rw [e, frT_one, ← str_int (by omega)] at kk
      exact ⟨log_ok g0 s7.1, kk⟩
    · simp only [hb, decide_false, Bool.false_eq_true, if_false]
      walk_at "gm"
      obtain ⟨z1, z2⟩ := frT_two_len hb hl
      rw [frT_two hb] at kk
      have zd : ([47] : Pl).length ≤ 1 := Nat.le_refl 1
      have es1 : Str.ofString (toString f.1) = mkS (dg f.1.toNat) := str_int (by omega)
      have es2 : Str.ofString (toString f.2) = mkS (dg f.2.toNat) := str_int (by omega)
      simp only [es1, s_slash, mkS_app]
      refine ⟨log_ok g0 s7.1, cat_sz z1 zd (by decide), ?_⟩
      walk_at "gm"
      simp only [es2, mkS_app, List.append_assoc]
      exact ⟨log_ok g1 s7.2, cat_sz (sz_app z1 zd) z2 (by decide), kk⟩
def sp_shown (cW cR : Addr) (n : Nat) : Sp := fun vs H Q E => ∃ v m, vs = [v] ∧ Th cW cR H v m ∧ m.depth ≤ n ∧ LoM m ∧ m.All S7 S7 ∧ (moT m).length ≤ 60000 ∧ ∀ H', Same H H' → Q (.str (mkS (moT m))) H'
theorem sc__law_shown : FnScope ["_law_thing", "_law_left", "_law_right_here"] ["_law_thing"] (defScope (top 31)) := ⟨rfl, rfl, rfl, by decide +kernel, rfl, by decide +kernel, by decide +kernel⟩
theorem ok_shown0 (A : Adr K mg) {f : Addr} {fd : FuncData} (F : Fun K "_law_shown" "_law_shown" (top 31) f fd) (F__law_shown_number : Fnc P w K mg base "_law_shown_number" 2 ["_law_one"] [] sp_shnum) (n k : Nat) (hk : 2 ≤ k) (sp : Sp)
    (F__law_shown : Fnc P w K mg base "_law_shown" k ["_law_thing"] [] sp) (hsp : ∀ n', n = n' + 1 → sp = sp_shown A.c_Weight A.c_Rod n') : FnOk P w K mg base (CX1 P w) (k + 1) f fd ["_law_thing"] (sp_shown A.c_Weight A.c_Rod n) := by
  have S := sc__law_shown
  refine F.okN S (fun vs H Q E h => ?_) (fun cdv A' outer s H vs Q E hr h => ?_)
  · obtain ⟨v, m, rfl, _⟩ := h
    rfl
  · obtain ⟨v, m, rfl, hm, hd, lo, s7, hl, k⟩ := h
    have hr__law_shown_number : Room 2 _ := hr.mono hk
    have hr__law_shown : Room _ _ := hr
    refine ⟨_, (pss_cons (ps_if (pt_val (pe_callB (isiK (K := K) rfl) (by rfl) A.n_isinstance bt_isinstance (pa_cons (pv 0) (pa_cons (pe_glob (v := .ref A.c_Weight) rfl A.g_Weight rfl) pa_nil)))) (pss_one (ps_ret (pe_fn F__law_shown_number hr__law_shown_number pass1 (pa_cons (pe_fldK (K := K) rfl (pv 0) rfl) pa_nil)))) pss_nil)
      (pss_cons (ps_if (pt_not (pt_val (pe_callB (isiK (K := K) rfl) (by rfl) A.n_isinstance bt_isinstance (pa_cons (pv 0) (pa_cons (pe_glob (v := .ref A.c_Rod) rfl A.g_Rod rfl) pa_nil))))) (pss_one (ps_ret pe_str)) pss_nil)
      (pss_cons (ps_set (i := 1) S.nd rfl (Or.inl rfl) (pe_op op_add_str (pe_op op_add_str (pe_fn F__law_shown_number hr__law_shown_number pass1 (pa_cons (pe_fldK (K := K) rfl (pv 0) rfl) pa_nil)) pe_str) (pe_fn F__law_shown hr__law_shown pass1 (pa_cons (pe_fldK (K := K) rfl (pv 0) rfl) pa_nil))))
      (pss_cons (ps_set (i := 2) S.nd rfl (Or.inl rfl) (pe_op op_add_str (pe_op op_add_str (pe_fn F__law_shown_number hr__law_shown_number pass1 (pa_cons (pe_fldK (K := K) rfl (pv 0) rfl) pa_nil)) pe_str) (pe_fn F__law_shown hr__law_shown pass1 (pa_cons (pe_fldK (K := K) rfl (pv 0) rfl) pa_nil))))
      (pss_one (ps_ret (pe_op op_add_str (pe_op op_add_str (pe_op op_add_str (pe_op op_add_str pe_str (pv 1)) pe_str) (pv 2)) pe_str))))))), ?_⟩
    cases m with
    | wt f =>
      obtain ⟨a, dx, u, rfl, h, hf⟩ := hm
      walk_at "v"
      refine isi_ok (.of (A.y_Weight h)) rfl A.t_WW ?_
      walk_at "v"
      refine fld_ok h A.l_Weight A.a_amount (by rfl) ?_
      walk_at "v"
      exact ⟨u, f, rfl, hf, lo, s7, hl, k⟩
    | rod l x r y =>
      obtain ⟨a, dx, u1, u2, u3, u4, rfl, h, h1, h2, h3, h4⟩ := hm
      simp only [Mo.depth] at hd
      obtain ⟨n', rfl⟩ : ∃ n', n = n' + 1 := ⟨n - 1, by omega⟩
      have e := hsp n' rfl
      subst e
      have dx' : x.depth ≤ n' := by omega
      have dy' : y.depth ≤ n' := by omega
      obtain ⟨zl, zx, zr, zy⟩ := rod_len hl
      have zc : ([58] : Pl).length ≤ 1 := Nat.le_refl 1
      walk_at "v"
      refine isi_ok (.of (A.y_Rod h)) rfl A.t_RW ?_
      walk_at "v"
      refine isi_ok (.of (A.y_Rod h)) rfl A.t_RR ?_
      walk_at "v"
      refine fld_ok h A.l_Rod A.a_left_arm (by rfl) ?_
      walk_at "v"
      refine ⟨u1, l, rfl, h1, lo.1, s7.1, zl, fun H1 sm1 => ?_⟩
      walk_at "v"
      simp only [s_colon, mkS_app]
      refine ⟨cat_sz zl zc (by decide), ?_⟩
      walk_at "v"
      refine fld_ok (sm1 _ _ h) A.l_Rod A.a_left (by rfl) ?_
      walk_at "v"
      refine ⟨u2, x, rfl, h2.kp sm1.kp, dx', lo.2.2.1, s7.2.2.1, zx, fun H2 sm2 => ?_⟩
      walk_at "v"
      simp only [mkS_app]
      refine ⟨cat_sz (sz_app zl zc) zx (by decide), ?_⟩
      walk_at "v"
      have sm12 := sm1.trans sm2
      refine fld_ok (sm12 _ _ h) A.l_Rod A.a_right_arm (by rfl) ?_
      walk_at "v"
      refine ⟨u3, r, rfl, h3.same sm12, lo.2.1, s7.2.1, zr, fun H3 sm3 => ?_⟩
      walk_at "v"
      simp only [s_colon, mkS_app]
      refine ⟨cat_sz zr zc (by decide), ?_⟩
      walk_at "v"
      have sm123 := sm12.trans sm3
      refine fld_ok (sm123 _ _ h) A.l_Rod A.a_right (by rfl) ?_
      walk_at "v"
      refine ⟨u4, y, rfl, h4.kp sm123.kp, dy', lo.2.2.2, s7.2.2.2, zy, fun H4 sm4 => ?_⟩
      walk_at "v"
      simp only [mkS_app]
      refine ⟨cat_sz (sz_app zr zc) zy (by decide), ?_⟩
      walk_at "v"
      have kk := k H4 (sm123.trans sm4)
      have em : moT (.rod l x r y) = [91] ++ (frT l ++ ([58] ++ (moT x ++ ([32] ++ (frT r ++ ([58] ++ (moT y ++ [93]))))))) := by simp [moT]
      rw [em] at kk
      simp only [s_open, s_blank, s_shut, mkS_app]
      have zo : ([91] : Pl).length ≤ 1 := Nat.le_refl 1
      have zb : ([32] : Pl).length ≤ 1 := Nat.le_refl 1
      have zs : ([93] : Pl).length ≤ 1 := Nat.le_refl 1
      have zL := sz_app zo (sz_app (sz_app zl zc) zx)
      have zR := sz_app (sz_app zr zc) zy
      refine ⟨cat_sz zo (sz_app (sz_app zl zc) zx) (by decide), cat_sz zL zb (by decide), cat_sz (sz_app zL zb) zR (by decide), cat_sz (sz_app (sz_app zL zb) zR) zs (by decide), ?_⟩
      simpa only [List.append_assoc, List.cons_append, List.nil_append] using kk
theorem ok_shown (A : Adr K mg) {f : Addr} {fd : FuncData} (F : Fun K "_law_shown" "_law_shown" (top 31) f fd) (DF : ∀ k sp, FnOk P w K mg base (CX1 P w) k f fd ["_law_thing"] sp → Fnc P w K mg base "_law_shown" k ["_law_thing"] [] sp)
    (F__law_shown_number : Fnc P w K mg base "_law_shown_number" 2 ["_law_one"] [] sp_shnum) : ∀ n, FnOk P w K mg base (CX1 P w) (n + 3) f fd ["_law_thing"] (sp_shown A.c_Weight A.c_Rod n) := by
  intro n
  induction n with
  | zero => exact ok_shown0 A F F__law_shown_number 0 2 (Nat.le_refl 2) _ (DF _ _ (F.okN sc__law_shown (fun vs H Q E (h : False) => h.elim) (fun cdv A' outer s H vs Q E hr h => h.elim))) (fun n' e => by cases e)
  | succ n ih => exact ok_shown0 A F F__law_shown_number (n + 1) (n + 3) (by omega) _ (DF _ _ ih) (fun n' e => by cases e; rfl)
/-! ### read right, or refused -/
def sp_right : Sp := fun vs H Q E => ∃ tx, vs = [.str (mkS tx)] ∧ tx.length ≤ 60000 ∧ RunLe 200 tx ∧ tx.count 91 ≤ 63 ∧ ∀ H', Same H H' → Q (.bl true) H'
theorem sc__law_right : FnScope ["_law_text", "_law_refused", "_law_mobile", "error"] ["_law_text"] (defScope (top 32)) := ⟨rfl, rfl, rfl, by decide +kernel, rfl, by decide +kernel, by decide +kernel⟩
theorem ok_right (A : Adr K mg) {f : Addr} {fd : FuncData} (F : Fun K "_law_right" "_law_right" (top 32) f fd) (F_read : Fnc P w K mg base "read" 132 ["text"] [] (sp_read A.c_NoText A.c_Weight A.c_Rod))
    (F__law_shown : Fnc P w K mg base "_law_shown" 66 ["_law_thing"] [] (sp_shown A.c_Weight A.c_Rod 63)) : FnOk P w K mg base (CX1 P w) 133 f fd ["_law_text"] sp_right := by
  have S := sc__law_right
  refine F.okN S (fun vs H Q E h => ?_) (fun cdv A' outer s H vs Q E hr h => ?_)
  · obtain ⟨tx, rfl, _⟩ := h
    rfl
  · obtain ⟨tx, rfl, hl, hrun, hcnt, k⟩ := h
    have hr_read : Room 132 _ := hr
    have hr__law_shown : Room 66 _ := hr.mono (by decide)
    refine ⟨_, (pss_cons (ps_set (i := 1) S.nd rfl (Or.inl rfl) pe_bl)
      (pss_cons (ps_set (i := 2) S.nd rfl (Or.inl rfl) pe_non)
      (pss_cons (ps_try rfl rfl rfl (psx_set (i := 2) S.nd rfl (Or.inl rfl) (px_fn F_read hr_read (pa_cons (pv 0) pa_nil))) rfl A.g_MobileError A.x_MobileError S.nd (i := 3) rfl rfl (fun _ => (pss_cons (ps_set (i := 1) S.nd rfl (Or.inl rfl) (pe_and (pe_callB (isiK (K := K) rfl) (by rfl) A.n_isinstance bt_isinstance (pa_cons (pv 3) (pa_cons (pe_bltn (v := .ty "ValueError") rfl A.n_ValueError bt_ValueError rfl) pa_nil))) (pe_one (pe_callB (isiK (K := K) rfl) (by rfl) A.n_isinstance bt_isinstance (pa_cons (pv 3) (pa_cons (pe_glob (v := .ref A.c_NoText) rfl A.g_NoText rfl) pa_nil))))))
      (pss_one (ps_set (i := 1) S.nd rfl (Or.inl rfl) (pe_and (pv 1) (pe_one (pe_not (pe_callB (isiTK (K := K) rfl) (by rfl) A.n_isinstance bt_isinstance (pa_cons (pv 3) (pa_cons (pe_tup (pa_cons (pe_glob (v := .ref A.c_NoNumber) rfl A.g_NoNumber rfl) (pa_cons (pe_glob (v := .ref A.c_NoPlace) rfl A.g_NoPlace rfl) pa_nil))) pa_nil)))))))))))
      (pss_one (ps_ret (pe_or (pv 1) (pe_one (pe_and (pe_cmp (pc_notN (pv 2))) (pe_and (pe_cmpR op_eq (pe_fn F__law_shown hr__law_shown pass1 (pa_cons (pv 2) pa_nil)) (pv 0) (nomark _)) (pe_one (pe_cmpR op_ne (pv 0) pe_str (nomark _)))))))))))), ?_⟩
    walk_at "v"
    refine ⟨tx, rfl, hl, hrun, hcnt, fun m hm v H1 sm1 th => ?_, fun hno H1 sm1 => ⟨A.c_NoText, rfl, A.s_TM, fun e he => ?_⟩⟩
    · have ht := pMo_sound _ _ _ _ hm
      rw [List.append_nil] at ht
      obtain ⟨ht, lo⟩ := ht
      have hd := pMo_depth _ _ _ _ hm
      have s7 := moT_back lo (ht ▸ hrun)
      obtain ⟨b, C, dx, fs, rfl, _⟩ := th.obj
      walk_at "v"
      simp only [L2.tNotN]
      walk_at "v"
      simp only [reduceCtorEq, decide_false, Bool.not_false, if_true]
      walk_at "v"
      refine ⟨_, m, rfl, th, hd, lo, s7, ht ▸ hl, fun H2 sm2 => ?_⟩
      walk_at "v"
      have e1 : mkS (moT m) = mkS tx := by rw [ht]
      have e2 : ¬ (mkS tx = "") := by rw [s_empty, mkS_inj, ht]; exact moT_ne m
      simp only [e1, e2, eq_self, decide_true, decide_false, Bool.not_false, if_true]
      walk_at "v"
      exact k _ (sm1.trans sm2)
    · walk_at "v"
      refine isi_ok (.exc rfl rfl upd_same A.x_NoText) rfl A.t_TV ?_
      walk_at "v"
      refine isi_ok (.exc rfl rfl upd_same A.x_NoText) rfl A.t_TT ?_
      walk_at "v"
      refine ⟨by decide, fun p hp => ?_⟩
      have hne : e ≠ p := fun z => by rw [← z, upd_same] at hp; cases hp
      refine isiT_ok (by rw [upd_ne hne]; exact upd_same) A.x_NoText upd_same rfl A.t_TNP ?_
      walk_at "v"
      exact k _ (sm1.trans ((same_upd he).trans (same_upd hp)))
/-! ### the law -/
def sp_law (K : PySem.W.Frag) : Sp := fun vs H Q E => ∃ (a : Addr) (ns : List Int), vs = [.ref a] ∧ SqL K H a (ns.map V.int) ∧ ns.length ≤ 63 ∧ ∀ H', Q (.bl true) H'
theorem sc_law : FnScope ["_law_script", "_law_kind", "_law_text", "_law_mobile", "_law_cell", "_law_free", "_law_odd_here", "_law_refused"] ["_law_script"] (defScope (top 33)) := ⟨rfl, rfl, rfl, by decide +kernel, rfl, by decide +kernel, by decide +kernel⟩
theorem ok_law (A : Adr K mg) {f : Addr} {fd : FuncData} (F : Fun K "law" "law" (top 33) f fd) (F__law_cell_at : Fnc P w K mg base "_law_cell_at" 1 ["_law_script", "_law_k"] [] (sp_cell K)) (F__law_base : Fnc P w K mg base "_law_base" 3 ["_law_script", "_law_kind"] [] (sp_base K))
    (F_read : Fnc P w K mg base "read" 132 ["text"] [] (sp_read A.c_NoText A.c_Weight A.c_Rod)) (F__law_shown : Fnc P w K mg base "_law_shown" 66 ["_law_thing"] [] (sp_shown A.c_Weight A.c_Rod 63))
    (F__law_right : Fnc P w K mg base "_law_right" 133 ["_law_text"] [] sp_right) (F__law_spoiled : Fnc P w K mg base "_law_spoiled" 2 ["_law_text", "_law_cell"] [] sp_spoiled) (F__law_sign : Fnc P w K mg base "_law_sign" 1 ["_law_number"] [] sp_sign)
    (F__law_odd : Fnc P w K mg base "_law_odd" 1 ["_law_cell"] [] sp_odd) : FnOk P w K mg base (CX1 P w) 134 f fd ["_law_script"] (sp_law K) := by
  have S := sc_law
  refine F.okN S (fun vs H Q E h => ?_) (fun cdv A' outer s H vs Q E hr h => ?_)
  · obtain ⟨a, ns, rfl, _⟩ := h
    rfl
  · obtain ⟨a, ns, rfl, hs, hn, k⟩ := h
    have hr__law_cell_at : Room 1 _ := hr.mono (by decide)
    have hr__law_base : Room 3 _ := hr.mono (by decide)
    have hr_read : Room 132 _ := hr.mono (by decide)
    have hr__law_shown : Room 66 _ := hr.mono (by decide)
    have hr__law_right : Room 133 _ := hr
    have hr__law_spoiled : Room 2 _ := hr.mono (by decide)
    have hr__law_sign : Room 1 _ := hr.mono (by decide)
    have hr__law_odd : Room 1 _ := hr.mono (by decide)
    refine ⟨_, (pss_cons (ps_set (i := 1) S.nd rfl (Or.inl rfl) (pe_op op_mod (pe_fn F__law_cell_at hr__law_cell_at pass1 (pa_cons (pv 0) (pa_cons pe_int pa_nil))) pe_int))
      (pss_cons (ps_set (i := 2) S.nd rfl (Or.inl rfl) (pe_fn F__law_base hr__law_base pass1 (pa_cons (pv 0) (pa_cons (pv 1) pa_nil))))
      (pss_cons (ps_set (i := 3) S.nd rfl (Or.inl rfl) (pe_fn F_read hr_read pass1 (pa_cons (pv 2) pa_nil)))
      (pss_cons (ps_if (pt_cmpR op_ne (pe_fn F__law_shown hr__law_shown pass1 (pa_cons (pv 3) pa_nil)) (pv 2) (nomark _)) (pss_one (ps_ret pe_bl)) pss_nil)
      (pss_cons (ps_for PassesOwn.never rfl (pi_listK (K := K) rfl (pe_slice (slL (K := K) rfl) (pv 0) (po_some pe_int) (po_some pe_int))) (pg_name (i := 4) S.nd rfl (Or.inl rfl)) (pss_one (ps_if (pt_not (pt_val (pe_fn F__law_right hr__law_right pass1 (pa_cons (pe_fn F__law_spoiled hr__law_spoiled pass1 (pa_cons (pv 2) (pa_cons (pv 4) pa_nil))) pa_nil)))) (pss_one (ps_ret pe_bl)) pss_nil)))
      (pss_cons (ps_set (i := 5) S.nd rfl (Or.inl rfl) (pe_join1 (K := K) rfl pe_str (pa_cons (pe_comp (tv := ["_law_cell"]) (cap := []) (compOk_of (defScope (top 33)) ["_law_script", "_law_kind", "_law_text", "_law_mobile", "_law_cell", "_law_free", "_law_odd_here", "_law_refused"] rfl rfl (by decide +kernel) (by rfl)) rfl (pi_listK (K := K) rfl (pe_slice (slL (K := K) rfl) (pv 0) po_none (po_some pe_int))) (fun _ _ _ => (pg_name (i := 0) (show (["_law_cell"] : List Str).Nodup by decide +kernel) rfl (Or.inl rfl) (Or.inr rfl))) (fun _ _ _ => pts_nil) (fun _ _ _ => (pe_fn F__law_sign hr__law_sign pass1 (pa_cons (pe_op op_mod (pv 0) pe_int) pa_nil)))) pa_nil)))
      (pss_cons (ps_set (i := 6) S.nd rfl (Or.inl rfl) (pe_fn F__law_odd hr__law_odd pass1 (pa_cons (pe_op op_fdivP (pe_fn F__law_cell_at hr__law_cell_at pass1 (pa_cons (pv 0) (pa_cons pe_int pa_nil))) pe_int) pa_nil)))
      (pss_cons (ps_set (i := 7) S.nd rfl (Or.inl rfl) pe_bl)
      (pss_cons (ps_try0 rfl rfl rfl (psx_expr (px_fn F_read hr_read (pa_cons (pv 6) pa_nil))) rfl A.g_NoText A.x_NoText (fun _ => (pss_one (ps_set (i := 7) S.nd rfl (Or.inl rfl) pe_bl))))
      (pss_one (ps_ret (pe_and (pv 7) (pe_and (pe_fn F__law_right hr__law_right pass1 (pa_cons (pv 5) pa_nil)) (pe_and (pe_fn F__law_right hr__law_right pass1 (pa_cons (pv 6) pa_nil)) (pe_one (pe_cmpR op_eq (pe_fn F__law_shown hr__law_shown pass1 (pa_cons (pv 3) pa_nil)) (pv 2) (nomark _))))))))))))))))), ?_⟩
    walk_at "v"
    refine ⟨a, ns, 0, rfl, hs, ?_⟩
    walk_at "v"
    refine ⟨a, ns, _, rfl, hs, fun m H1 sm1 g hnw => ?_⟩
    walk_at "v"
    have B := g.base hnw
    have hrun : RunLe 200 (moT m) := B.run.mono (by decide)
    have hlen : (moT m).length ≤ 60000 := Nat.le_trans B.len (by decide)
    refine ⟨moT m, rfl, hlen, hrun, Nat.le_trans B.cnt (by decide), fun m' hm' v H2 sm2 th => ?_, fun hno => absurd B.self (hno m)⟩
    rw [B.self] at hm'
    cases hm'
    walk_at "v"
    refine ⟨v, m, rfl, th, B.dep, B.lo, B.s7, hlen, fun H3 sm3 => ?_⟩
    walk_at "v"
    have smA := (sm1.trans sm2).trans sm3
    have thA := th.kp sm3.kp
    refine ⟨a, _, rfl, smA.sql hs, fun ls hls => ⟨ls, rfl, ⟨_, SqL.of upd_same⟩, ?_⟩⟩
    have hcut : ∀ x ∈ cutV (ns.map V.int) (some 8) (some 68), ∃ c, x = .int c := fun x h => cutV_int h
    generalize cutV (ns.map V.int) (some 8) (some 68) = cells at hcut ⊢
    refine for_listN (xs := cells) (fun i σ H' => ∃ o4, σ = [some (.ref a), some (.int (ns.getD 0 0 % 2)), some (.str (mkS (moT m))), some v, o4, none, none, none] ∧ Same H3 H' ∧ H' ls = some (.lst cells))
      ⟨none, rfl, same_upd hls, upd_same⟩ ?_ ?_ ?_
    · rintro i σ H' hi ⟨o4, rfl, _, hls'⟩
      exact SqL.of hls'
    · rintro i x σ H' N hx ⟨o4, rfl, sm, hls'⟩ hN
      obtain ⟨c, rfl⟩ := hcut x (List.mem_of_getElem? hx)
      walk_at "v"
      refine ⟨moT m, c, rfl, Nat.le_trans B.len (by decide), fun a1 x1 y1 b1 e hx1 => ?_⟩
      walk_at "v"
      obtain ⟨hl1, hr1, hc1⟩ := B.spoil e hx1
      refine ⟨_, rfl, hl1, hr1, hc1, fun H5 sm5 => ?_⟩
      walk_at "v"
      exact hN _ _ ⟨_, rfl, sm.trans sm5, sm5 _ _ hls'⟩
    · rintro σ H4 ⟨o4, rfl, sm, hls'⟩
      walk_at "v"
      have smB := smA.trans sm
      refine ⟨rfl, ?_⟩
      walk_at "v"
      refine ⟨a, _, rfl, smB.sql hs, fun l2 hl2 => ⟨l2, rfl, ⟨_, SqL.of upd_same⟩, fun D hD => ?_⟩⟩
      have hcut2 : ∀ x ∈ cutV (ns.map V.int) none (some 63), ∃ c, x = .int c := fun x h => cutV_int h
      have hlen2 : (cutV (ns.map V.int) none (some 63)).length ≤ 63 := cutV_to
      generalize cutV (ns.map V.int) none (some 63) = cells2 at hcut2 hlen2 hD ⊢
      have hne : l2 ≠ D := fun z => by rw [← z, upd_same] at hD; cases hD
      refine comp_list (K := K) (xs := cells2) (fun i ys H' => ∃ ts : Pl, ys = ts.map (fun c => V.str (mkS [c])) ∧ ts.length = i ∧ H' D = some (.lst ys) ∧ H' l2 = some (.lst cells2) ∧ Same H4 H') (by rw [sizeLine_eq]; omega)
        ⟨[], rfl, rfl, upd_same, by rw [upd_ne hne]; exact upd_same, (same_upd hl2).trans (same_upd hD)⟩ ?_ ?_ ?_ ?_
      · rintro i ys H' ⟨ts, rfl, hts, hD', _⟩
        exact ⟨hD', by rw [List.length_map]; omega⟩
      · rintro i ys H' hi ⟨ts, rfl, hts, hD', hl', _⟩
        exact SqL.of hl'
      · rintro i x ys H' N hx ⟨ts, rfl, hts, hD', hl', smC⟩ hN
        obtain ⟨c, rfl⟩ := hcut2 x (List.mem_of_getElem? hx)
        walk_at "v"
        refine ⟨_, rfl, fun d => ?_⟩
        walk_at "v"
        refine ⟨hD', hN _ _ ⟨ts ++ [d], by simp, by simp [hts], upd_same, by rw [upd_ne hne]; exact hl', fun b o e => ?_⟩⟩
        by_cases hb : b = D
        · subst hb
          rw [same_upd hl2 _ _ e] at hD
          cases hD
        · rw [upd_ne hb]; exact smC _ _ e
      · rintro ys H' ⟨ts, rfl, hts, hD', hl', smC⟩
        walk_at "v"
        have zt : ts.length ≤ 63 := hts ▸ hlen2
        refine ⟨D, ts, by rw [s_empty], rfl, SqL.of hD', Nat.le_trans zt (by decide), ?_⟩
        walk_at "v"
        have smD := smB.trans smC
        refine ⟨a, ns, 0, rfl, smD.sql hs, ?_⟩
        walk_at "v"
        refine ⟨⟨by decide, by decide +kernel⟩, ?_⟩
        refine ⟨_, rfl, fun z H6 sm6 hz => ?_⟩
        walk_at "v"
        have hz' := List.all_eq_true.mp odds_no z hz
        rw [Bool.and_eq_true, decide_eq_true_eq] at hz'
        obtain ⟨hzl, hzn⟩ := hz'
        have hzno : ∀ m', pMo 63 (toP z) ≠ some (m', []) := fun m' e => by
          have e : pMo 63 z.cps.toList = some (m', []) := e
          rw [e] at hzn
          cases hzn
        have hzr : RunLe 200 (toP z) := RunLe.of_len (Nat.le_trans hzl (by decide))
        have hzc : (toP z).count 91 ≤ 63 := Nat.le_trans List.count_le_length hzl
        have hzs : z = mkS (toP z) := (mk_toP z).symm
        refine ⟨toP z, by rw [← hzs], Nat.le_trans hzl (by decide), hzr, hzc, fun m' e => absurd e (hzno m'), fun _ H7 sm7 => ⟨A.c_NoText, rfl, A.s_TT, ?_⟩⟩
        walk_at "v"
        refine ⟨ts, rfl, Nat.le_trans zt (by decide), RunLe.of_len (Nat.le_trans zt (by decide)), Nat.le_trans List.count_le_length zt, fun H8 sm8 => ?_⟩
        walk_at "v"
        refine ⟨toP z, by rw [← hzs], Nat.le_trans hzl (by decide), hzr, hzc, fun H9 sm9 => ?_⟩
        walk_at "v"
        have smE : Same H3 H9 := ((((sm.trans smC).trans sm6).trans sm7).trans sm8).trans sm9
        refine ⟨v, m, rfl, thA.kp smE.kp, B.dep, B.lo, B.s7, hlen, fun H10 sm10 => ?_⟩
        walk_at "v"
        exact k _
end
end K4

set_option maxHeartbeats 4000000
namespace K4
open PySem PySem.Spec PyProof.Rows L2 FrM MoM
theorem len1 {us : List Value} (h : us.length = 1) : ∃ a, us = [a] := List.length_eq_one_iff.mp h
theorem len2 {us : List Value} (h : us.length = 2) : ∃ a b, us = [a, b] := let ⟨a, t, e⟩ := List.exists_cons_of_length_eq_add_one h; let ⟨b, f⟩ := len1 (us := t) (by rw [e] at h; exact Nat.succ.inj h); ⟨a, b, by rw [e, f]⟩
theorem len3 {us : List Value} (h : us.length = 3) : ∃ a b c, us = [a, b, c] := let ⟨a, t, e⟩ := List.exists_cons_of_length_eq_add_one h; let ⟨b, c, f⟩ := len2 (us := t) (by rw [e] at h; exact Nat.succ.inj h); ⟨a, b, c, by rw [e, f]⟩
theorem len4 {us : List Value} (h : us.length = 4) : ∃ a b c d, us = [a, b, c, d] := let ⟨a, t, e⟩ := List.exists_cons_of_length_eq_add_one h; let ⟨b, c, d, f⟩ := len3 (us := t) (by rw [e] at h; exact Nat.succ.inj h); ⟨a, b, c, d, by rw [e, f]⟩
theorem len5 {us : List Value} (h : us.length = 5) : ∃ a b c d f, us = [a, b, c, d, f] := let ⟨a, t, e⟩ := List.exists_cons_of_length_eq_add_one h; let ⟨b, c, d, g, f⟩ := len4 (us := t) (by rw [e] at h; exact Nat.succ.inj h); ⟨a, b, c, d, g, by rw [e, f]⟩
section
variable {P : Program} {w : World} {K : PySem.W.Frag} {mg : Str → Option Value} {base : Heap}
theorem fnc_mk {x : Str} {st : Stmt} {f : Addr} {fd : FuncData} {k : Nat} {ps : List Str} {sp : Sp} (F : Fun K x x st f fd) (hm : mg x = some (.ref f)) (G : FnOk P w K mg base (CX1 P w) k f fd ps sp)
    (h : ∀ (kV doc pm : Value) (an : Option Addr) (cdv ct : Value) (us : List Value), us.length = ps.length → bindArgs (PySem.W.fnOf x x (defArgs st) (defBody st) (defScope st) .none kV doc pm an cdv ct) ⟨us, []⟩ = pure (ps.zip us)) : Fnc P w K mg base x k ps [] sp :=
  ⟨f, fd, [], G, hm, F.kp, F.binds h, .nil⟩
end
theorem all_mk {l : PySem.W.OpenLaw} {w : World} {K : PySem.W.Frag} {h : Heap} {mg : Str → Option Value} {fa f_common_divisor f_fraction f_under f_check_above_nought f_read f__law_cell_at f__law_whole f__law_lowest f__law_mixed f__law_number_by f__law_base f__law_sign f__law_spoiled f__law_odd f__law_shown_number f__law_shown f__law_right f_law f_Weight___init__ f_Rod___init__ f_Reader___init__ f_Reader_at_end f_Reader_sees f_Reader_sees_figure f_Reader_read_sign f_Reader_read_number f_Reader_read_fraction f_Reader_read_mobile f_Reader_read_rod c_MobileError c_NoNumber c_NoPlace c_NoText c_Hung c_Weight c_Rod c_Reader k_NOUGHT : Addr} (X : K.In h) (G : h.Ns mainGlobals mg) (hfa : mg "law" = some (.ref fa))
    {od_common_divisor od_fraction od_under od_check_above_nought od_read od__law_cell_at od__law_whole od__law_lowest od__law_mixed od__law_number_by od__law_base od__law_sign od__law_spoiled od__law_odd od__law_shown_number od__law_shown od__law_right od_law od_Weight___init__ od_Rod___init__ od_Reader___init__ od_Reader_at_end od_Reader_sees od_Reader_sees_figure od_Reader_read_sign od_Reader_read_number od_Reader_read_fraction od_Reader_read_mobile od_Reader_read_rod an_common_divisor an_fraction an_under an_check_above_nought an_read an__law_cell_at an__law_whole an__law_lowest an__law_mixed an__law_number_by an__law_base an__law_sign an__law_spoiled an__law_odd an__law_shown_number an__law_shown an__law_right an_law an_Weight___init__ an_Rod___init__ an_Reader___init__ an_Reader_at_end an_Reader_sees an_Reader_sees_figure an_Reader_read_sign an_Reader_read_number an_Reader_read_fraction an_Reader_read_mobile an_Reader_read_rod kod_NOUGHT : Option Addr} {cl_MobileError cl_NoNumber cl_NoText : ClassData} {sl_common_divisor sl_fraction sl_under sl_check_above_nought sl_read sl__law_cell_at sl__law_whole sl__law_lowest sl__law_mixed sl__law_number_by sl__law_base sl__law_sign sl__law_spoiled sl__law_odd sl__law_shown_number sl__law_shown sl__law_right sl_law sl_Weight___init__ sl_Rod___init__ sl_Reader___init__ sl_Reader_at_end sl_Reader_sees sl_Reader_sees_figure sl_Reader_read_sign sl_Reader_read_number sl_Reader_read_fraction sl_Reader_read_mobile sl_Reader_read_rod ksl_NOUGHT : Array (Option Value)} {oc_common_divisor kV_common_divisor dc_common_divisor pm_common_divisor cd_common_divisor ct_common_divisor oc_fraction kV_fraction dc_fraction pm_fraction cd_fraction ct_fraction oc_under kV_under dc_under pm_under cd_under ct_under oc_check_above_nought kV_check_above_nought dc_check_above_nought pm_check_above_nought cd_check_above_nought ct_check_above_nought oc_read kV_read dc_read pm_read cd_read ct_read oc__law_cell_at kV__law_cell_at dc__law_cell_at pm__law_cell_at cd__law_cell_at ct__law_cell_at oc__law_whole kV__law_whole dc__law_whole pm__law_whole cd__law_whole ct__law_whole oc__law_lowest kV__law_lowest dc__law_lowest pm__law_lowest cd__law_lowest ct__law_lowest oc__law_mixed kV__law_mixed dc__law_mixed pm__law_mixed cd__law_mixed ct__law_mixed oc__law_number_by kV__law_number_by dc__law_number_by pm__law_number_by cd__law_number_by ct__law_number_by oc__law_base kV__law_base dc__law_base pm__law_base cd__law_base ct__law_base oc__law_sign kV__law_sign dc__law_sign pm__law_sign cd__law_sign ct__law_sign oc__law_spoiled kV__law_spoiled dc__law_spoiled pm__law_spoiled cd__law_spoiled ct__law_spoiled oc__law_odd kV__law_odd dc__law_odd pm__law_odd cd__law_odd ct__law_odd oc__law_shown_number kV__law_shown_number dc__law_shown_number pm__law_shown_number cd__law_shown_number ct__law_shown_number oc__law_shown kV__law_shown dc__law_shown pm__law_shown cd__law_shown ct__law_shown oc__law_right kV__law_right dc__law_right pm__law_right cd__law_right ct__law_right oc_law kV_law dc_law pm_law cd_law ct_law oc_Weight___init__ kV_Weight___init__ dc_Weight___init__ pm_Weight___init__ cd_Weight___init__ ct_Weight___init__ oc_Rod___init__ kV_Rod___init__ dc_Rod___init__ pm_Rod___init__ cd_Rod___init__ ct_Rod___init__ oc_Reader___init__ kV_Reader___init__ dc_Reader___init__ pm_Reader___init__ cd_Reader___init__ ct_Reader___init__ oc_Reader_at_end kV_Reader_at_end dc_Reader_at_end pm_Reader_at_end cd_Reader_at_end ct_Reader_at_end oc_Reader_sees kV_Reader_sees dc_Reader_sees pm_Reader_sees cd_Reader_sees ct_Reader_sees oc_Reader_sees_figure kV_Reader_sees_figure dc_Reader_sees_figure pm_Reader_sees_figure cd_Reader_sees_figure ct_Reader_sees_figure oc_Reader_read_sign kV_Reader_read_sign dc_Reader_read_sign pm_Reader_read_sign cd_Reader_read_sign ct_Reader_read_sign oc_Reader_read_number kV_Reader_read_number dc_Reader_read_number pm_Reader_read_number cd_Reader_read_number ct_Reader_read_number oc_Reader_read_fraction kV_Reader_read_fraction dc_Reader_read_fraction pm_Reader_read_fraction cd_Reader_read_fraction ct_Reader_read_fraction oc_Reader_read_mobile kV_Reader_read_mobile dc_Reader_read_mobile pm_Reader_read_mobile cd_Reader_read_mobile ct_Reader_read_mobile oc_Reader_read_rod kV_Reader_read_rod dc_Reader_read_rod pm_Reader_read_rod cd_Reader_read_rod ct_Reader_read_rod : Value} {kn_NOUGHT : Nat} {tk_FIGURES tk0 tk1 : Tok}
    (g_MobileError : PySem.W.nsIn K mainGlobals "MobileError" = some (some (.ref c_MobileError)))
    (g_NoNumber : PySem.W.nsIn K mainGlobals "NoNumber" = some (some (.ref c_NoNumber)))
    (g_NoPlace : PySem.W.nsIn K mainGlobals "NoPlace" = some (some (.ref c_NoPlace)))
    (g_NoText : PySem.W.nsIn K mainGlobals "NoText" = some (some (.ref c_NoText)))
    (g_Hung : PySem.W.nsIn K mainGlobals "Hung" = some (some (.ref c_Hung)))
    (g_Weight : PySem.W.nsIn K mainGlobals "Weight" = some (some (.ref c_Weight)))
    (g_Rod : PySem.W.nsIn K mainGlobals "Rod" = some (some (.ref c_Rod)))
    (g_Reader : PySem.W.nsIn K mainGlobals "Reader" = some (some (.ref c_Reader)))
    (a_common_divisor : PySem.W.nsIn K mainGlobals "common_divisor" = some (some (.ref f_common_divisor)))
    (l_common_divisor : K.lookup f_common_divisor = some ⟨oc_common_divisor, od_common_divisor, .func (PySem.W.fnOf "common_divisor" "common_divisor" (defArgs (top 7)) (defBody (top 7)) (defScope (top 7)) (.none) kV_common_divisor dc_common_divisor pm_common_divisor an_common_divisor cd_common_divisor ct_common_divisor), sl_common_divisor⟩)
    (d_common_divisor : PySem.W.codeIn K cd_common_divisor "common_divisor" = true)
    (k_common_divisor : PySem.W.keepIn K (.ref f_common_divisor) = true)
    (a_fraction : PySem.W.nsIn K mainGlobals "fraction" = some (some (.ref f_fraction)))
    (l_fraction : K.lookup f_fraction = some ⟨oc_fraction, od_fraction, .func (PySem.W.fnOf "fraction" "fraction" (defArgs (top 8)) (defBody (top 8)) (defScope (top 8)) (.none) kV_fraction dc_fraction pm_fraction an_fraction cd_fraction ct_fraction), sl_fraction⟩)
    (d_fraction : PySem.W.codeIn K cd_fraction "fraction" = true)
    (k_fraction : PySem.W.keepIn K (.ref f_fraction) = true)
    (a_under : PySem.W.nsIn K mainGlobals "under" = some (some (.ref f_under)))
    (l_under : K.lookup f_under = some ⟨oc_under, od_under, .func (PySem.W.fnOf "under" "under" (defArgs (top 9)) (defBody (top 9)) (defScope (top 9)) (.none) kV_under dc_under pm_under an_under cd_under ct_under), sl_under⟩)
    (d_under : PySem.W.codeIn K cd_under "under" = true)
    (k_under : PySem.W.keepIn K (.ref f_under) = true)
    (a_check_above_nought : PySem.W.nsIn K mainGlobals "check_above_nought" = some (some (.ref f_check_above_nought)))
    (l_check_above_nought : K.lookup f_check_above_nought = some ⟨oc_check_above_nought, od_check_above_nought, .func (PySem.W.fnOf "check_above_nought" "check_above_nought" (defArgs (top 12)) (defBody (top 12)) (defScope (top 12)) (.none) kV_check_above_nought dc_check_above_nought pm_check_above_nought an_check_above_nought cd_check_above_nought ct_check_above_nought), sl_check_above_nought⟩)
    (d_check_above_nought : PySem.W.codeIn K cd_check_above_nought "check_above_nought" = true)
    (k_check_above_nought : PySem.W.keepIn K (.ref f_check_above_nought) = true)
    (a_read : PySem.W.nsIn K mainGlobals "read" = some (some (.ref f_read)))
    (l_read : K.lookup f_read = some ⟨oc_read, od_read, .func (PySem.W.fnOf "read" "read" (defArgs (top 19)) (defBody (top 19)) (defScope (top 19)) (.none) kV_read dc_read pm_read an_read cd_read ct_read), sl_read⟩)
    (d_read : PySem.W.codeIn K cd_read "read" = true)
    (k_read : PySem.W.keepIn K (.ref f_read) = true)
    (a__law_cell_at : PySem.W.nsIn K mainGlobals "_law_cell_at" = some (some (.ref f__law_cell_at)))
    (l__law_cell_at : K.lookup f__law_cell_at = some ⟨oc__law_cell_at, od__law_cell_at, .func (PySem.W.fnOf "_law_cell_at" "_law_cell_at" (defArgs (top 21)) (defBody (top 21)) (defScope (top 21)) (.none) kV__law_cell_at dc__law_cell_at pm__law_cell_at an__law_cell_at cd__law_cell_at ct__law_cell_at), sl__law_cell_at⟩)
    (d__law_cell_at : PySem.W.codeIn K cd__law_cell_at "_law_cell_at" = true)
    (k__law_cell_at : PySem.W.keepIn K (.ref f__law_cell_at) = true)
    (a__law_whole : PySem.W.nsIn K mainGlobals "_law_whole" = some (some (.ref f__law_whole)))
    (l__law_whole : K.lookup f__law_whole = some ⟨oc__law_whole, od__law_whole, .func (PySem.W.fnOf "_law_whole" "_law_whole" (defArgs (top 22)) (defBody (top 22)) (defScope (top 22)) (.none) kV__law_whole dc__law_whole pm__law_whole an__law_whole cd__law_whole ct__law_whole), sl__law_whole⟩)
    (d__law_whole : PySem.W.codeIn K cd__law_whole "_law_whole" = true)
    (k__law_whole : PySem.W.keepIn K (.ref f__law_whole) = true)
    (a__law_lowest : PySem.W.nsIn K mainGlobals "_law_lowest" = some (some (.ref f__law_lowest)))
    (l__law_lowest : K.lookup f__law_lowest = some ⟨oc__law_lowest, od__law_lowest, .func (PySem.W.fnOf "_law_lowest" "_law_lowest" (defArgs (top 23)) (defBody (top 23)) (defScope (top 23)) (.none) kV__law_lowest dc__law_lowest pm__law_lowest an__law_lowest cd__law_lowest ct__law_lowest), sl__law_lowest⟩)
    (d__law_lowest : PySem.W.codeIn K cd__law_lowest "_law_lowest" = true)
    (k__law_lowest : PySem.W.keepIn K (.ref f__law_lowest) = true)
    (a__law_mixed : PySem.W.nsIn K mainGlobals "_law_mixed" = some (some (.ref f__law_mixed)))
    (l__law_mixed : K.lookup f__law_mixed = some ⟨oc__law_mixed, od__law_mixed, .func (PySem.W.fnOf "_law_mixed" "_law_mixed" (defArgs (top 24)) (defBody (top 24)) (defScope (top 24)) (.none) kV__law_mixed dc__law_mixed pm__law_mixed an__law_mixed cd__law_mixed ct__law_mixed), sl__law_mixed⟩)
    (d__law_mixed : PySem.W.codeIn K cd__law_mixed "_law_mixed" = true)
    (k__law_mixed : PySem.W.keepIn K (.ref f__law_mixed) = true)
    (a__law_number_by : PySem.W.nsIn K mainGlobals "_law_number_by" = some (some (.ref f__law_number_by)))
    (l__law_number_by : K.lookup f__law_number_by = some ⟨oc__law_number_by, od__law_number_by, .func (PySem.W.fnOf "_law_number_by" "_law_number_by" (defArgs (top 25)) (defBody (top 25)) (defScope (top 25)) (.none) kV__law_number_by dc__law_number_by pm__law_number_by an__law_number_by cd__law_number_by ct__law_number_by), sl__law_number_by⟩)
    (d__law_number_by : PySem.W.codeIn K cd__law_number_by "_law_number_by" = true)
    (k__law_number_by : PySem.W.keepIn K (.ref f__law_number_by) = true)
    (a__law_base : PySem.W.nsIn K mainGlobals "_law_base" = some (some (.ref f__law_base)))
    (l__law_base : K.lookup f__law_base = some ⟨oc__law_base, od__law_base, .func (PySem.W.fnOf "_law_base" "_law_base" (defArgs (top 26)) (defBody (top 26)) (defScope (top 26)) (.none) kV__law_base dc__law_base pm__law_base an__law_base cd__law_base ct__law_base), sl__law_base⟩)
    (d__law_base : PySem.W.codeIn K cd__law_base "_law_base" = true)
    (k__law_base : PySem.W.keepIn K (.ref f__law_base) = true)
    (a__law_sign : PySem.W.nsIn K mainGlobals "_law_sign" = some (some (.ref f__law_sign)))
    (l__law_sign : K.lookup f__law_sign = some ⟨oc__law_sign, od__law_sign, .func (PySem.W.fnOf "_law_sign" "_law_sign" (defArgs (top 27)) (defBody (top 27)) (defScope (top 27)) (.none) kV__law_sign dc__law_sign pm__law_sign an__law_sign cd__law_sign ct__law_sign), sl__law_sign⟩)
    (d__law_sign : PySem.W.codeIn K cd__law_sign "_law_sign" = true)
    (k__law_sign : PySem.W.keepIn K (.ref f__law_sign) = true)
    (a__law_spoiled : PySem.W.nsIn K mainGlobals "_law_spoiled" = some (some (.ref f__law_spoiled)))
    (l__law_spoiled : K.lookup f__law_spoiled = some ⟨oc__law_spoiled, od__law_spoiled, .func (PySem.W.fnOf "_law_spoiled" "_law_spoiled" (defArgs (top 28)) (defBody (top 28)) (defScope (top 28)) (.none) kV__law_spoiled dc__law_spoiled pm__law_spoiled an__law_spoiled cd__law_spoiled ct__law_spoiled), sl__law_spoiled⟩)
    (d__law_spoiled : PySem.W.codeIn K cd__law_spoiled "_law_spoiled" = true)
    (k__law_spoiled : PySem.W.keepIn K (.ref f__law_spoiled) = true)
    (a__law_odd : PySem.W.nsIn K mainGlobals "_law_odd" = some (some (.ref f__law_odd)))
    (l__law_odd : K.lookup f__law_odd = some ⟨oc__law_odd, od__law_odd, .func (PySem.W.fnOf "_law_odd" "_law_odd" (defArgs (top 29)) (defBody (top 29)) (defScope (top 29)) (.none) kV__law_odd dc__law_odd pm__law_odd an__law_odd cd__law_odd ct__law_odd), sl__law_odd⟩)
    (d__law_odd : PySem.W.codeIn K cd__law_odd "_law_odd" = true)
    (k__law_odd : PySem.W.keepIn K (.ref f__law_odd) = true)
    (a__law_shown_number : PySem.W.nsIn K mainGlobals "_law_shown_number" = some (some (.ref f__law_shown_number)))
    (l__law_shown_number : K.lookup f__law_shown_number = some ⟨oc__law_shown_number, od__law_shown_number, .func (PySem.W.fnOf "_law_shown_number" "_law_shown_number" (defArgs (top 30)) (defBody (top 30)) (defScope (top 30)) (.none) kV__law_shown_number dc__law_shown_number pm__law_shown_number an__law_shown_number cd__law_shown_number ct__law_shown_number), sl__law_shown_number⟩)
    (d__law_shown_number : PySem.W.codeIn K cd__law_shown_number "_law_shown_number" = true)
    (k__law_shown_number : PySem.W.keepIn K (.ref f__law_shown_number) = true)
    (a__law_shown : PySem.W.nsIn K mainGlobals "_law_shown" = some (some (.ref f__law_shown)))
    (l__law_shown : K.lookup f__law_shown = some ⟨oc__law_shown, od__law_shown, .func (PySem.W.fnOf "_law_shown" "_law_shown" (defArgs (top 31)) (defBody (top 31)) (defScope (top 31)) (.none) kV__law_shown dc__law_shown pm__law_shown an__law_shown cd__law_shown ct__law_shown), sl__law_shown⟩)
    (d__law_shown : PySem.W.codeIn K cd__law_shown "_law_shown" = true)
    (k__law_shown : PySem.W.keepIn K (.ref f__law_shown) = true)
    (a__law_right : PySem.W.nsIn K mainGlobals "_law_right" = some (some (.ref f__law_right)))
    (l__law_right : K.lookup f__law_right = some ⟨oc__law_right, od__law_right, .func (PySem.W.fnOf "_law_right" "_law_right" (defArgs (top 32)) (defBody (top 32)) (defScope (top 32)) (.none) kV__law_right dc__law_right pm__law_right an__law_right cd__law_right ct__law_right), sl__law_right⟩)
    (d__law_right : PySem.W.codeIn K cd__law_right "_law_right" = true)
    (k__law_right : PySem.W.keepIn K (.ref f__law_right) = true)
    (a_law : PySem.W.nsIn K mainGlobals "law" = some (some (.ref f_law)))
    (l_law : K.lookup f_law = some ⟨oc_law, od_law, .func (PySem.W.fnOf "law" "law" (defArgs (top 33)) (defBody (top 33)) (defScope (top 33)) (.none) kV_law dc_law pm_law an_law cd_law ct_law), sl_law⟩)
    (d_law : PySem.W.codeIn K cd_law "law" = true)
    (k_law : PySem.W.keepIn K (.ref f_law) = true)
    (a_Weight___init__ : PySem.W.findIn K (.ref c_Weight) "__init__" = some (some (.ref f_Weight___init__)))
    (i_Weight___init__ : PySem.W.isFn K (.ref f_Weight___init__) = true)
    (l_Weight___init__ : K.lookup f_Weight___init__ = some ⟨oc_Weight___init__, od_Weight___init__, .func (PySem.W.fnOf "__init__" "Weight.__init__" (defArgs (inClass (top 14) 0)) (defBody (inClass (top 14) 0)) (defScope (inClass (top 14) 0)) (.none) kV_Weight___init__ dc_Weight___init__ pm_Weight___init__ an_Weight___init__ cd_Weight___init__ ct_Weight___init__), sl_Weight___init__⟩)
    (d_Weight___init__ : PySem.W.codeIn K cd_Weight___init__ "Weight.__init__" = true)
    (k_Weight___init__ : PySem.W.keepIn K (.ref f_Weight___init__) = true)
    (a_Rod___init__ : PySem.W.findIn K (.ref c_Rod) "__init__" = some (some (.ref f_Rod___init__)))
    (i_Rod___init__ : PySem.W.isFn K (.ref f_Rod___init__) = true)
    (l_Rod___init__ : K.lookup f_Rod___init__ = some ⟨oc_Rod___init__, od_Rod___init__, .func (PySem.W.fnOf "__init__" "Rod.__init__" (defArgs (inClass (top 15) 0)) (defBody (inClass (top 15) 0)) (defScope (inClass (top 15) 0)) (.none) kV_Rod___init__ dc_Rod___init__ pm_Rod___init__ an_Rod___init__ cd_Rod___init__ ct_Rod___init__), sl_Rod___init__⟩)
    (d_Rod___init__ : PySem.W.codeIn K cd_Rod___init__ "Rod.__init__" = true)
    (k_Rod___init__ : PySem.W.keepIn K (.ref f_Rod___init__) = true)
    (a_Reader___init__ : PySem.W.findIn K (.ref c_Reader) "__init__" = some (some (.ref f_Reader___init__)))
    (i_Reader___init__ : PySem.W.isFn K (.ref f_Reader___init__) = true)
    (l_Reader___init__ : K.lookup f_Reader___init__ = some ⟨oc_Reader___init__, od_Reader___init__, .func (PySem.W.fnOf "__init__" "Reader.__init__" (defArgs (inClass (top 18) 0)) (defBody (inClass (top 18) 0)) (defScope (inClass (top 18) 0)) (.none) kV_Reader___init__ dc_Reader___init__ pm_Reader___init__ an_Reader___init__ cd_Reader___init__ ct_Reader___init__), sl_Reader___init__⟩)
    (d_Reader___init__ : PySem.W.codeIn K cd_Reader___init__ "Reader.__init__" = true)
    (k_Reader___init__ : PySem.W.keepIn K (.ref f_Reader___init__) = true)
    (a_Reader_at_end : PySem.W.findIn K (.ref c_Reader) "at_end" = some (some (.ref f_Reader_at_end)))
    (i_Reader_at_end : PySem.W.isFn K (.ref f_Reader_at_end) = true)
    (l_Reader_at_end : K.lookup f_Reader_at_end = some ⟨oc_Reader_at_end, od_Reader_at_end, .func (PySem.W.fnOf "at_end" "Reader.at_end" (defArgs (inClass (top 18) 1)) (defBody (inClass (top 18) 1)) (defScope (inClass (top 18) 1)) (.none) kV_Reader_at_end dc_Reader_at_end pm_Reader_at_end an_Reader_at_end cd_Reader_at_end ct_Reader_at_end), sl_Reader_at_end⟩)
    (d_Reader_at_end : PySem.W.codeIn K cd_Reader_at_end "Reader.at_end" = true)
    (k_Reader_at_end : PySem.W.keepIn K (.ref f_Reader_at_end) = true)
    (a_Reader_sees : PySem.W.findIn K (.ref c_Reader) "sees" = some (some (.ref f_Reader_sees)))
    (i_Reader_sees : PySem.W.isFn K (.ref f_Reader_sees) = true)
    (l_Reader_sees : K.lookup f_Reader_sees = some ⟨oc_Reader_sees, od_Reader_sees, .func (PySem.W.fnOf "sees" "Reader.sees" (defArgs (inClass (top 18) 2)) (defBody (inClass (top 18) 2)) (defScope (inClass (top 18) 2)) (.none) kV_Reader_sees dc_Reader_sees pm_Reader_sees an_Reader_sees cd_Reader_sees ct_Reader_sees), sl_Reader_sees⟩)
    (d_Reader_sees : PySem.W.codeIn K cd_Reader_sees "Reader.sees" = true)
    (k_Reader_sees : PySem.W.keepIn K (.ref f_Reader_sees) = true)
    (a_Reader_sees_figure : PySem.W.findIn K (.ref c_Reader) "sees_figure" = some (some (.ref f_Reader_sees_figure)))
    (i_Reader_sees_figure : PySem.W.isFn K (.ref f_Reader_sees_figure) = true)
    (l_Reader_sees_figure : K.lookup f_Reader_sees_figure = some ⟨oc_Reader_sees_figure, od_Reader_sees_figure, .func (PySem.W.fnOf "sees_figure" "Reader.sees_figure" (defArgs (inClass (top 18) 3)) (defBody (inClass (top 18) 3)) (defScope (inClass (top 18) 3)) (.none) kV_Reader_sees_figure dc_Reader_sees_figure pm_Reader_sees_figure an_Reader_sees_figure cd_Reader_sees_figure ct_Reader_sees_figure), sl_Reader_sees_figure⟩)
    (d_Reader_sees_figure : PySem.W.codeIn K cd_Reader_sees_figure "Reader.sees_figure" = true)
    (k_Reader_sees_figure : PySem.W.keepIn K (.ref f_Reader_sees_figure) = true)
    (a_Reader_read_sign : PySem.W.findIn K (.ref c_Reader) "read_sign" = some (some (.ref f_Reader_read_sign)))
    (i_Reader_read_sign : PySem.W.isFn K (.ref f_Reader_read_sign) = true)
    (l_Reader_read_sign : K.lookup f_Reader_read_sign = some ⟨oc_Reader_read_sign, od_Reader_read_sign, .func (PySem.W.fnOf "read_sign" "Reader.read_sign" (defArgs (inClass (top 18) 4)) (defBody (inClass (top 18) 4)) (defScope (inClass (top 18) 4)) (.none) kV_Reader_read_sign dc_Reader_read_sign pm_Reader_read_sign an_Reader_read_sign cd_Reader_read_sign ct_Reader_read_sign), sl_Reader_read_sign⟩)
    (d_Reader_read_sign : PySem.W.codeIn K cd_Reader_read_sign "Reader.read_sign" = true)
    (k_Reader_read_sign : PySem.W.keepIn K (.ref f_Reader_read_sign) = true)
    (a_Reader_read_number : PySem.W.findIn K (.ref c_Reader) "read_number" = some (some (.ref f_Reader_read_number)))
    (i_Reader_read_number : PySem.W.isFn K (.ref f_Reader_read_number) = true)
    (l_Reader_read_number : K.lookup f_Reader_read_number = some ⟨oc_Reader_read_number, od_Reader_read_number, .func (PySem.W.fnOf "read_number" "Reader.read_number" (defArgs (inClass (top 18) 5)) (defBody (inClass (top 18) 5)) (defScope (inClass (top 18) 5)) (.none) kV_Reader_read_number dc_Reader_read_number pm_Reader_read_number an_Reader_read_number cd_Reader_read_number ct_Reader_read_number), sl_Reader_read_number⟩)
    (d_Reader_read_number : PySem.W.codeIn K cd_Reader_read_number "Reader.read_number" = true)
    (k_Reader_read_number : PySem.W.keepIn K (.ref f_Reader_read_number) = true)
    (a_Reader_read_fraction : PySem.W.findIn K (.ref c_Reader) "read_fraction" = some (some (.ref f_Reader_read_fraction)))
    (i_Reader_read_fraction : PySem.W.isFn K (.ref f_Reader_read_fraction) = true)
    (l_Reader_read_fraction : K.lookup f_Reader_read_fraction = some ⟨oc_Reader_read_fraction, od_Reader_read_fraction, .func (PySem.W.fnOf "read_fraction" "Reader.read_fraction" (defArgs (inClass (top 18) 6)) (defBody (inClass (top 18) 6)) (defScope (inClass (top 18) 6)) (.none) kV_Reader_read_fraction dc_Reader_read_fraction pm_Reader_read_fraction an_Reader_read_fraction cd_Reader_read_fraction ct_Reader_read_fraction), sl_Reader_read_fraction⟩)
    (d_Reader_read_fraction : PySem.W.codeIn K cd_Reader_read_fraction "Reader.read_fraction" = true)
    (k_Reader_read_fraction : PySem.W.keepIn K (.ref f_Reader_read_fraction) = true)
    (a_Reader_read_mobile : PySem.W.findIn K (.ref c_Reader) "read_mobile" = some (some (.ref f_Reader_read_mobile)))
    (i_Reader_read_mobile : PySem.W.isFn K (.ref f_Reader_read_mobile) = true)
    (l_Reader_read_mobile : K.lookup f_Reader_read_mobile = some ⟨oc_Reader_read_mobile, od_Reader_read_mobile, .func (PySem.W.fnOf "read_mobile" "Reader.read_mobile" (defArgs (inClass (top 18) 7)) (defBody (inClass (top 18) 7)) (defScope (inClass (top 18) 7)) (.none) kV_Reader_read_mobile dc_Reader_read_mobile pm_Reader_read_mobile an_Reader_read_mobile cd_Reader_read_mobile ct_Reader_read_mobile), sl_Reader_read_mobile⟩)
    (d_Reader_read_mobile : PySem.W.codeIn K cd_Reader_read_mobile "Reader.read_mobile" = true)
    (k_Reader_read_mobile : PySem.W.keepIn K (.ref f_Reader_read_mobile) = true)
    (a_Reader_read_rod : PySem.W.findIn K (.ref c_Reader) "read_rod" = some (some (.ref f_Reader_read_rod)))
    (i_Reader_read_rod : PySem.W.isFn K (.ref f_Reader_read_rod) = true)
    (l_Reader_read_rod : K.lookup f_Reader_read_rod = some ⟨oc_Reader_read_rod, od_Reader_read_rod, .func (PySem.W.fnOf "read_rod" "Reader.read_rod" (defArgs (inClass (top 18) 8)) (defBody (inClass (top 18) 8)) (defScope (inClass (top 18) 8)) (.none) kV_Reader_read_rod dc_Reader_read_rod pm_Reader_read_rod an_Reader_read_rod cd_Reader_read_rod ct_Reader_read_rod), sl_Reader_read_rod⟩)
    (d_Reader_read_rod : PySem.W.codeIn K cd_Reader_read_rod "Reader.read_rod" = true)
    (k_Reader_read_rod : PySem.W.keepIn K (.ref f_Reader_read_rod) = true)
    (x1_MobileError : PySem.W.clsIn K c_MobileError = some cl_MobileError)
    (x2_MobileError : PySem.W.typeIn K (.ref c_MobileError) = some (.type "type"))
    (x3_MobileError : PySem.W.subIn K (.ref c_MobileError) (.type "BaseException") = some true)
    (x4_MobileError : PySem.W.findIn K (.ref c_MobileError) "__getattribute__" = some (some (.builtin "BaseException.__getattribute__")))
    (x5_MobileError : PySem.W.findIn K (.ref c_MobileError) "__getattr__" = some none)
    (x6_MobileError : PySem.W.findIn K (.ref c_MobileError) "__class__" = some (some (.builtin "object.__class__")))
    (x7_MobileError : PySem.W.subIn K (.ref c_MobileError) (.type "object") = some true)
    (x8_MobileError : PySem.W.excIn K c_MobileError bmVE "ValueError.__new__" = true)
    (x1_NoNumber : PySem.W.clsIn K c_NoNumber = some cl_NoNumber)
    (x2_NoNumber : PySem.W.typeIn K (.ref c_NoNumber) = some (.type "type"))
    (x3_NoNumber : PySem.W.subIn K (.ref c_NoNumber) (.type "BaseException") = some true)
    (x4_NoNumber : PySem.W.findIn K (.ref c_NoNumber) "__getattribute__" = some (some (.builtin "BaseException.__getattribute__")))
    (x5_NoNumber : PySem.W.findIn K (.ref c_NoNumber) "__getattr__" = some none)
    (x6_NoNumber : PySem.W.findIn K (.ref c_NoNumber) "__class__" = some (some (.builtin "object.__class__")))
    (x7_NoNumber : PySem.W.subIn K (.ref c_NoNumber) (.type "object") = some true)
    (x8_NoNumber : PySem.W.excIn K c_NoNumber bmVE "ValueError.__new__" = true)
    (x1_NoText : PySem.W.clsIn K c_NoText = some cl_NoText)
    (x2_NoText : PySem.W.typeIn K (.ref c_NoText) = some (.type "type"))
    (x3_NoText : PySem.W.subIn K (.ref c_NoText) (.type "BaseException") = some true)
    (x4_NoText : PySem.W.findIn K (.ref c_NoText) "__getattribute__" = some (some (.builtin "BaseException.__getattribute__")))
    (x5_NoText : PySem.W.findIn K (.ref c_NoText) "__getattr__" = some none)
    (x6_NoText : PySem.W.findIn K (.ref c_NoText) "__class__" = some (some (.builtin "object.__class__")))
    (x7_NoText : PySem.W.subIn K (.ref c_NoText) (.type "object") = some true)
    (x8_NoText : PySem.W.excIn K c_NoText bmVE "ValueError.__new__" = true)
    (pg_Weight : PySem.W.plainGet K c_Weight Str.empty = true)
    (hd_Weight : PySem.W.hasDictIn K c_Weight = true)
    (po_Weight : PySem.W.plainOver K c_Weight = true)
    (sa_Weight : PySem.W.findIn K (.ref c_Weight) "__setattr__" = some (some (.builtin "object.__setattr__")))
    (mk_Weight : PySem.W.makesIn K c_Weight = true)
    (kc_Weight : PySem.W.keepIn K (.ref c_Weight) = true)
    (yh_Weight : PySem.W.findIn K (.ref c_Weight) "__class__" = some (some (.builtin "object.__class__")))
    (ym_Weight : PySem.W.mroIn K c_Weight (.type "object") = some true)
    (no_Weight_amount : PySem.W.findIn K (.ref c_Weight) "amount" = some none)
    (pg_Rod : PySem.W.plainGet K c_Rod Str.empty = true)
    (hd_Rod : PySem.W.hasDictIn K c_Rod = true)
    (po_Rod : PySem.W.plainOver K c_Rod = true)
    (sa_Rod : PySem.W.findIn K (.ref c_Rod) "__setattr__" = some (some (.builtin "object.__setattr__")))
    (mk_Rod : PySem.W.makesIn K c_Rod = true)
    (kc_Rod : PySem.W.keepIn K (.ref c_Rod) = true)
    (yh_Rod : PySem.W.findIn K (.ref c_Rod) "__class__" = some (some (.builtin "object.__class__")))
    (ym_Rod : PySem.W.mroIn K c_Rod (.type "object") = some true)
    (no_Rod_left_arm : PySem.W.findIn K (.ref c_Rod) "left_arm" = some none)
    (no_Rod_left : PySem.W.findIn K (.ref c_Rod) "left" = some none)
    (no_Rod_right_arm : PySem.W.findIn K (.ref c_Rod) "right_arm" = some none)
    (no_Rod_right : PySem.W.findIn K (.ref c_Rod) "right" = some none)
    (pg_Reader : PySem.W.plainGet K c_Reader Str.empty = true)
    (hd_Reader : PySem.W.hasDictIn K c_Reader = true)
    (po_Reader : PySem.W.plainOver K c_Reader = true)
    (sa_Reader : PySem.W.findIn K (.ref c_Reader) "__setattr__" = some (some (.builtin "object.__setattr__")))
    (mk_Reader : PySem.W.makesIn K c_Reader = true)
    (kc_Reader : PySem.W.keepIn K (.ref c_Reader) = true)
    (yh_Reader : PySem.W.findIn K (.ref c_Reader) "__class__" = some (some (.builtin "object.__class__")))
    (ym_Reader : PySem.W.mroIn K c_Reader (.type "object") = some true)
    (no_Reader_text : PySem.W.findIn K (.ref c_Reader) "text" = some none)
    (no_Reader_spot : PySem.W.findIn K (.ref c_Reader) "spot" = some none)
    (yn : PySem.W.specialIn K (.builtin "object.__class__") "__get__" = some (some (.builtin "getset_descriptor.__get__")))
    (yt : PySem.W.takesIn K (.builtin "object.__class__") = some true)
    (gk_NOUGHT : PySem.W.nsIn K mainGlobals "NOUGHT" = some (some (.ref k_NOUGHT)))
    (kl_NOUGHT : K.lookup k_NOUGHT = some ⟨.type "tuple", kod_NOUGHT, .seq #[.int 0 tk0, .int 1 tk1] kn_NOUGHT, ksl_NOUGHT⟩)
    (gs_FIGURES : PySem.W.nsIn K mainGlobals "FIGURES" = some (some (.str "0123456789" tk_FIGURES)))
    (n_abs : PySem.W.nsIn K mainGlobals "abs" = some none)
    (n_len : PySem.W.nsIn K mainGlobals "len" = some none)
    (n_isinstance : PySem.W.nsIn K mainGlobals "isinstance" = some none)
    (n_int : PySem.W.nsIn K mainGlobals "int" = some none)
    (n_bool : PySem.W.nsIn K mainGlobals "bool" = some none)
    (n_tuple : PySem.W.nsIn K mainGlobals "tuple" = some none)
    (n_str : PySem.W.nsIn K mainGlobals "str" = some none)
    (n_ValueError : PySem.W.nsIn K mainGlobals "ValueError" = some none)
    (s_TM : PySem.W.subIn K (.ref c_NoText) (.ref c_MobileError) = some true)
    (s_TT : PySem.W.subIn K (.ref c_NoText) (.ref c_NoText) = some true)
    (t_TV : PySem.W.kitOne K (.ref c_NoText) (.type "ValueError") = some true)
    (t_TT : PySem.W.kitOne K (.ref c_NoText) (.ref c_NoText) = some true)
    (t_TNP : PySem.W.kitAny K (.ref c_NoText) [.ref c_NoNumber, .ref c_NoPlace] = some false)
    (t_WW : PySem.W.kitOne K (.ref c_Weight) (.ref c_Weight) = some true)
    (t_WR : PySem.W.kitOne K (.ref c_Weight) (.ref c_Rod) = some false)
    (t_RW : PySem.W.kitOne K (.ref c_Rod) (.ref c_Weight) = some false)
    (t_RR : PySem.W.kitOne K (.ref c_Rod) (.ref c_Rod) = some true)
    (t_ii : PySem.W.kitOne K (.type "int") (.type "int") = some true)
    (t_ib : PySem.W.kitOne K (.type "int") (.type "bool") = some false)
    (t_tt : PySem.W.kitOne K (.type "tuple") (.type "tuple") = some true) :
    ∃ fd : FuncData, (∀ (s : Shared) (v : Value), BindsTo s fd ⟨[v], []⟩ [("_law_script", v)]) ∧ ∀ base : Heap, K.In base → base.Ns mainGlobals mg → FnOk l.prog w K mg base (CX1 l.prog w) 134 fa fd ["_law_script"] (sp_law K) := by
  have e := hfa.symm.trans (PySem.W.mg_of X G a_law)
  cases e
  have cls_Weight : Cls K c_Weight := ⟨pg_Weight, hd_Weight, po_Weight, sa_Weight⟩
  have ty_Weight : ∀ {H : Hp} {a dx : Addr} {fs : List (Str × V)}, H a = some (.ins c_Weight dx fs) → TyOf K H (.ref a) (.ref c_Weight) := fun e => .ins e cls_Weight yh_Weight yn yt ym_Weight
  have cls_Rod : Cls K c_Rod := ⟨pg_Rod, hd_Rod, po_Rod, sa_Rod⟩
  have ty_Rod : ∀ {H : Hp} {a dx : Addr} {fs : List (Str × V)}, H a = some (.ins c_Rod dx fs) → TyOf K H (.ref a) (.ref c_Rod) := fun e => .ins e cls_Rod yh_Rod yn yt ym_Rod
  have cls_Reader : Cls K c_Reader := ⟨pg_Reader, hd_Reader, po_Reader, sa_Reader⟩
  have ty_Reader : ∀ {H : Hp} {a dx : Addr} {fs : List (Str × V)}, H a = some (.ins c_Reader dx fs) → TyOf K H (.ref a) (.ref c_Reader) := fun e => .ins e cls_Reader yh_Reader yn yt ym_Reader
  have exc_MobileError : ExcCls K c_MobileError := ⟨by rw [x1_MobileError]; rfl, x2_MobileError, x3_MobileError, x4_MobileError, x5_MobileError, x6_MobileError, x7_MobileError, x8_MobileError⟩
  have exc_NoNumber : ExcCls K c_NoNumber := ⟨by rw [x1_NoNumber]; rfl, x2_NoNumber, x3_NoNumber, x4_NoNumber, x5_NoNumber, x6_NoNumber, x7_NoNumber, x8_NoNumber⟩
  have exc_NoText : ExcCls K c_NoText := ⟨by rw [x1_NoText]; rfl, x2_NoText, x3_NoText, x4_NoText, x5_NoText, x6_NoText, x7_NoText, x8_NoText⟩
  let A : Adr K mg := ⟨c_MobileError, c_NoNumber, c_NoPlace, c_NoText, c_Hung, c_Weight, c_Rod, c_Reader, k_NOUGHT, tk_FIGURES, PySem.W.mg_of X G g_MobileError, PySem.W.mg_of X G g_NoNumber, PySem.W.mg_of X G g_NoPlace, PySem.W.mg_of X G g_NoText, PySem.W.mg_of X G g_Hung, PySem.W.mg_of X G g_Weight, PySem.W.mg_of X G g_Rod, PySem.W.mg_of X G g_Reader, PySem.W.mg_of X G gk_NOUGHT, fun H => .inr ⟨_, _, _, kl_NOUGHT, rfl, rfl, (by show 2 ≤ sizeLine; decide), .cons ⟨tk0, rfl⟩ (.cons ⟨tk1, rfl⟩ .nil)⟩, PySem.W.mg_of X G gs_FIGURES, exc_MobileError, exc_NoNumber, exc_NoText, cls_Weight, cls_Rod, cls_Reader, (fun z => by rw [← z, t_WW] at t_WR; cases t_WR), no_Weight_amount, no_Rod_left_arm, no_Rod_left, no_Rod_right_arm, no_Rod_right, no_Reader_text, no_Reader_spot, ty_Weight, ty_Rod, PySem.W.mg_none_of X G n_abs, PySem.W.mg_none_of X G n_len, PySem.W.mg_none_of X G n_isinstance, PySem.W.mg_none_of X G n_int, PySem.W.mg_none_of X G n_bool, PySem.W.mg_none_of X G n_tuple, PySem.W.mg_none_of X G n_str, PySem.W.mg_none_of X G n_ValueError, s_TM, s_TT, t_TV, t_TT, t_TNP, t_WW, t_WR, t_RW, t_RR, t_ii, t_ib, t_tt⟩
  have F_common_divisor := fun_mk (st := (top 7)) l_common_divisor d_common_divisor k_common_divisor
  have F_fraction := fun_mk (st := (top 8)) l_fraction d_fraction k_fraction
  have F_under := fun_mk (st := (top 9)) l_under d_under k_under
  have F_check_above_nought := fun_mk (st := (top 12)) l_check_above_nought d_check_above_nought k_check_above_nought
  have F_read := fun_mk (st := (top 19)) l_read d_read k_read
  have F__law_cell_at := fun_mk (st := (top 21)) l__law_cell_at d__law_cell_at k__law_cell_at
  have F__law_whole := fun_mk (st := (top 22)) l__law_whole d__law_whole k__law_whole
  have F__law_lowest := fun_mk (st := (top 23)) l__law_lowest d__law_lowest k__law_lowest
  have F__law_mixed := fun_mk (st := (top 24)) l__law_mixed d__law_mixed k__law_mixed
  have F__law_number_by := fun_mk (st := (top 25)) l__law_number_by d__law_number_by k__law_number_by
  have F__law_base := fun_mk (st := (top 26)) l__law_base d__law_base k__law_base
  have F__law_sign := fun_mk (st := (top 27)) l__law_sign d__law_sign k__law_sign
  have F__law_spoiled := fun_mk (st := (top 28)) l__law_spoiled d__law_spoiled k__law_spoiled
  have F__law_odd := fun_mk (st := (top 29)) l__law_odd d__law_odd k__law_odd
  have F__law_shown_number := fun_mk (st := (top 30)) l__law_shown_number d__law_shown_number k__law_shown_number
  have F__law_shown := fun_mk (st := (top 31)) l__law_shown d__law_shown k__law_shown
  have F__law_right := fun_mk (st := (top 32)) l__law_right d__law_right k__law_right
  have F_law := fun_mk (st := (top 33)) l_law d_law k_law
  have F_Weight___init__ := fun_mk (st := (inClass (top 14) 0)) l_Weight___init__ d_Weight___init__ k_Weight___init__
  have F_Rod___init__ := fun_mk (st := (inClass (top 15) 0)) l_Rod___init__ d_Rod___init__ k_Rod___init__
  have F_Reader___init__ := fun_mk (st := (inClass (top 18) 0)) l_Reader___init__ d_Reader___init__ k_Reader___init__
  have F_Reader_at_end := fun_mk (st := (inClass (top 18) 1)) l_Reader_at_end d_Reader_at_end k_Reader_at_end
  have F_Reader_sees := fun_mk (st := (inClass (top 18) 2)) l_Reader_sees d_Reader_sees k_Reader_sees
  have F_Reader_sees_figure := fun_mk (st := (inClass (top 18) 3)) l_Reader_sees_figure d_Reader_sees_figure k_Reader_sees_figure
  have F_Reader_read_sign := fun_mk (st := (inClass (top 18) 4)) l_Reader_read_sign d_Reader_read_sign k_Reader_read_sign
  have F_Reader_read_number := fun_mk (st := (inClass (top 18) 5)) l_Reader_read_number d_Reader_read_number k_Reader_read_number
  have F_Reader_read_fraction := fun_mk (st := (inClass (top 18) 6)) l_Reader_read_fraction d_Reader_read_fraction k_Reader_read_fraction
  have F_Reader_read_mobile := fun_mk (st := (inClass (top 18) 7)) l_Reader_read_mobile d_Reader_read_mobile k_Reader_read_mobile
  have F_Reader_read_rod := fun_mk (st := (inClass (top 18) 8)) l_Reader_read_rod d_Reader_read_rod k_Reader_read_rod
  refine ⟨PySem.W.fnOf "law" "law" (defArgs (top 33)) (defBody (top 33)) (defScope (top 33)) .none kV_law dc_law pm_law an_law cd_law ct_law, fun s v => .of_eq rfl, fun base _ _ => ?_⟩
  have G_common_divisor := fnc_mk F_common_divisor (PySem.W.mg_of X G a_common_divisor) (ok_common_divisor F_common_divisor (P := l.prog) (w := w) (base := base)) (fun _ _ _ _ _ _ us hl => by obtain ⟨a, b, rfl⟩ := len2 hl; rfl)
  have G_fraction := fnc_mk F_fraction (PySem.W.mg_of X G a_fraction) (ok_fraction A F_fraction (P := l.prog) (w := w) (base := base) G_common_divisor) (fun _ _ _ _ _ _ us hl => by obtain ⟨a, b, rfl⟩ := len2 hl; rfl)
  have G_under := fnc_mk F_under (PySem.W.mg_of X G a_under) (ok_under F_under (P := l.prog) (w := w) (base := base)) (fun _ _ _ _ _ _ us hl => by obtain ⟨a, b, rfl⟩ := len2 hl; rfl)
  have G_check_above_nought := fnc_mk F_check_above_nought (PySem.W.mg_of X G a_check_above_nought) (ok_check A F_check_above_nought (P := l.prog) (w := w) (base := base) G_under) (fun _ _ _ _ _ _ us hl => by obtain ⟨a, rfl⟩ := len1 hl; rfl)
  have M_Weight := (⟨PySem.W.mg_of X G g_Weight, f_Weight___init__, _, [], ⟨mk_Weight, a_Weight___init__, i_Weight___init__, kc_Weight⟩, ok_winit A F_Weight___init__ G_check_above_nought, F_Weight___init__.binds (fun _ _ _ _ _ _ us hl => by obtain ⟨a, b, rfl⟩ := len2 hl; rfl), .nil⟩ : Mkr l.prog w K mg base "Weight" c_Weight 3 ["self", "amount"] [] _)
  have M_Rod := (⟨PySem.W.mg_of X G g_Rod, f_Rod___init__, _, [], ⟨mk_Rod, a_Rod___init__, i_Rod___init__, kc_Rod⟩, ok_rinit A F_Rod___init__ G_check_above_nought, F_Rod___init__.binds (fun _ _ _ _ _ _ us hl => by obtain ⟨a, b, c, d, e, rfl⟩ := len5 hl; rfl), .nil⟩ : Mkr l.prog w K mg base "Rod" c_Rod 3 ["self", "left_arm", "left", "right_arm", "right"] [] _)
  have M_Reader := (⟨PySem.W.mg_of X G g_Reader, f_Reader___init__, _, [], ⟨mk_Reader, a_Reader___init__, i_Reader___init__, kc_Reader⟩, ok_dinit A F_Reader___init__, F_Reader___init__.binds (fun _ _ _ _ _ _ us hl => by obtain ⟨a, b, rfl⟩ := len2 hl; rfl), .nil⟩ : Mkr l.prog w K mg base "Reader" c_Reader 1 ["self", "text"] [] _)
  have DM_Reader_at_end : ∀ k sp, FnOk l.prog w K mg base (CX1 l.prog w) k f_Reader_at_end _ ["self"] sp → Mth l.prog w K mg base c_Reader "at_end" k ["self"] [] sp := fun k sp z => ⟨cls_Reader, f_Reader_at_end, _, [], ⟨a_Reader_at_end, i_Reader_at_end, k_Reader_at_end⟩, z, F_Reader_at_end.binds (fun _ _ _ _ _ _ us hl => by obtain ⟨a, rfl⟩ := len1 hl; rfl), .nil⟩
  have DM_Reader_sees : ∀ k sp, FnOk l.prog w K mg base (CX1 l.prog w) k f_Reader_sees _ ["self", "sign"] sp → Mth l.prog w K mg base c_Reader "sees" k ["self", "sign"] [] sp := fun k sp z => ⟨cls_Reader, f_Reader_sees, _, [], ⟨a_Reader_sees, i_Reader_sees, k_Reader_sees⟩, z, F_Reader_sees.binds (fun _ _ _ _ _ _ us hl => by obtain ⟨a, b, rfl⟩ := len2 hl; rfl), .nil⟩
  have DM_Reader_sees_figure : ∀ k sp, FnOk l.prog w K mg base (CX1 l.prog w) k f_Reader_sees_figure _ ["self"] sp → Mth l.prog w K mg base c_Reader "sees_figure" k ["self"] [] sp := fun k sp z => ⟨cls_Reader, f_Reader_sees_figure, _, [], ⟨a_Reader_sees_figure, i_Reader_sees_figure, k_Reader_sees_figure⟩, z, F_Reader_sees_figure.binds (fun _ _ _ _ _ _ us hl => by obtain ⟨a, rfl⟩ := len1 hl; rfl), .nil⟩
  have DM_Reader_read_sign : ∀ k sp, FnOk l.prog w K mg base (CX1 l.prog w) k f_Reader_read_sign _ ["self", "sign"] sp → Mth l.prog w K mg base c_Reader "read_sign" k ["self", "sign"] [] sp := fun k sp z => ⟨cls_Reader, f_Reader_read_sign, _, [], ⟨a_Reader_read_sign, i_Reader_read_sign, k_Reader_read_sign⟩, z, F_Reader_read_sign.binds (fun _ _ _ _ _ _ us hl => by obtain ⟨a, b, rfl⟩ := len2 hl; rfl), .nil⟩
  have DM_Reader_read_number : ∀ k sp, FnOk l.prog w K mg base (CX1 l.prog w) k f_Reader_read_number _ ["self"] sp → Mth l.prog w K mg base c_Reader "read_number" k ["self"] [] sp := fun k sp z => ⟨cls_Reader, f_Reader_read_number, _, [], ⟨a_Reader_read_number, i_Reader_read_number, k_Reader_read_number⟩, z, F_Reader_read_number.binds (fun _ _ _ _ _ _ us hl => by obtain ⟨a, rfl⟩ := len1 hl; rfl), .nil⟩
  have DM_Reader_read_fraction : ∀ k sp, FnOk l.prog w K mg base (CX1 l.prog w) k f_Reader_read_fraction _ ["self"] sp → Mth l.prog w K mg base c_Reader "read_fraction" k ["self"] [] sp := fun k sp z => ⟨cls_Reader, f_Reader_read_fraction, _, [], ⟨a_Reader_read_fraction, i_Reader_read_fraction, k_Reader_read_fraction⟩, z, F_Reader_read_fraction.binds (fun _ _ _ _ _ _ us hl => by obtain ⟨a, rfl⟩ := len1 hl; rfl), .nil⟩
  have DM_Reader_read_mobile : ∀ k sp, FnOk l.prog w K mg base (CX1 l.prog w) k f_Reader_read_mobile _ ["self"] sp → Mth l.prog w K mg base c_Reader "read_mobile" k ["self"] [] sp := fun k sp z => ⟨cls_Reader, f_Reader_read_mobile, _, [], ⟨a_Reader_read_mobile, i_Reader_read_mobile, k_Reader_read_mobile⟩, z, F_Reader_read_mobile.binds (fun _ _ _ _ _ _ us hl => by obtain ⟨a, rfl⟩ := len1 hl; rfl), .nil⟩
  have DM_Reader_read_rod : ∀ k sp, FnOk l.prog w K mg base (CX1 l.prog w) k f_Reader_read_rod _ ["self"] sp → Mth l.prog w K mg base c_Reader "read_rod" k ["self"] [] sp := fun k sp z => ⟨cls_Reader, f_Reader_read_rod, _, [], ⟨a_Reader_read_rod, i_Reader_read_rod, k_Reader_read_rod⟩, z, F_Reader_read_rod.binds (fun _ _ _ _ _ _ us hl => by obtain ⟨a, rfl⟩ := len1 hl; rfl), .nil⟩
  have D_at_end : MthR l.prog w K mg base A "at_end" 1 ["self"] (sp_at_end) := by
    rintro C rfl
    exact DM_Reader_at_end _ _ (ok_at_end A F_Reader_at_end)
  have D_sees : MthR l.prog w K mg base A "sees" 2 ["self", "sign"] (sp_sees) := by
    rintro C rfl
    exact DM_Reader_sees _ _ (ok_sees A F_Reader_sees D_at_end)
  have D_sees_figure : MthR l.prog w K mg base A "sees_figure" 2 ["self"] (sp_seesf) := by
    rintro C rfl
    exact DM_Reader_sees_figure _ _ (ok_seesf A F_Reader_sees_figure D_at_end)
  have D_read_sign : MthR l.prog w K mg base A "read_sign" 3 ["self", "sign"] (sp_rsign A.c_NoText) := by
    rintro C rfl
    exact DM_Reader_read_sign _ _ (ok_rsign A F_Reader_read_sign D_sees)
  have D_read_number : MthR l.prog w K mg base A "read_number" 3 ["self"] (sp_rnum A.c_NoText) := by
    rintro C rfl
    exact DM_Reader_read_number _ _ (ok_rnum A F_Reader_read_number D_sees_figure)
  have D_read_fraction : MthR l.prog w K mg base A "read_fraction" 4 ["self"] (sp_rfr A.c_NoText) := by
    rintro C rfl
    exact DM_Reader_read_fraction _ _ (ok_rfr A F_Reader_read_fraction D_sees D_read_sign D_read_number G_fraction)
  have D_read_mobile : MthR l.prog w K mg base A "read_mobile" 131 ["self"] (fun C => sp_rmo A.c_NoText C A.c_Weight A.c_Rod 63) := by
    rintro C rfl
    exact DM_Reader_read_mobile _ _ (ok_rmo A F_Reader_read_mobile F_Reader_read_rod DM_Reader_read_mobile DM_Reader_read_rod D_sees D_read_sign D_read_fraction M_Weight M_Rod 63)
  have G_read := fnc_mk F_read (PySem.W.mg_of X G a_read) (ok_read A F_read (P := l.prog) (w := w) (base := base) M_Reader D_read_mobile D_at_end) (fun _ _ _ _ _ _ us hl => by obtain ⟨a, rfl⟩ := len1 hl; rfl)
  have G__law_cell_at := fnc_mk F__law_cell_at (PySem.W.mg_of X G a__law_cell_at) (ok_cell_at A F__law_cell_at (P := l.prog) (w := w) (base := base)) (fun _ _ _ _ _ _ us hl => by obtain ⟨a, b, rfl⟩ := len2 hl; rfl)
  have G__law_whole := fnc_mk F__law_whole (PySem.W.mg_of X G a__law_whole) (ok_whole A F__law_whole (P := l.prog) (w := w) (base := base)) (fun _ _ _ _ _ _ us hl => by obtain ⟨a, rfl⟩ := len1 hl; rfl)
  have G__law_lowest := fnc_mk F__law_lowest (PySem.W.mg_of X G a__law_lowest) (ok_lowest A F__law_lowest (P := l.prog) (w := w) (base := base)) (fun _ _ _ _ _ _ us hl => by obtain ⟨a, b, rfl⟩ := len2 hl; rfl)
  have G__law_mixed := fnc_mk F__law_mixed (PySem.W.mg_of X G a__law_mixed) (ok_mixed A F__law_mixed (P := l.prog) (w := w) (base := base)) (fun _ _ _ _ _ _ us hl => by obtain ⟨a, b, rfl⟩ := len2 hl; rfl)
  have G__law_number_by := fnc_mk F__law_number_by (PySem.W.mg_of X G a__law_number_by) (ok_nby A F__law_number_by (P := l.prog) (w := w) (base := base) G__law_mixed G__law_lowest) (fun _ _ _ _ _ _ us hl => by obtain ⟨a, b, rfl⟩ := len2 hl; rfl)
  have G__law_base := fnc_mk F__law_base (PySem.W.mg_of X G a__law_base) (ok_base A F__law_base (P := l.prog) (w := w) (base := base) G__law_cell_at G__law_mixed G__law_number_by) (fun _ _ _ _ _ _ us hl => by obtain ⟨a, b, rfl⟩ := len2 hl; rfl)
  have G__law_sign := fnc_mk F__law_sign (PySem.W.mg_of X G a__law_sign) (ok_sign A F__law_sign (P := l.prog) (w := w) (base := base)) (fun _ _ _ _ _ _ us hl => by obtain ⟨a, rfl⟩ := len1 hl; rfl)
  have G__law_spoiled := fnc_mk F__law_spoiled (PySem.W.mg_of X G a__law_spoiled) (ok_spoiled A F__law_spoiled (P := l.prog) (w := w) (base := base) G__law_mixed G__law_sign) (fun _ _ _ _ _ _ us hl => by obtain ⟨a, b, rfl⟩ := len2 hl; rfl)
  have G__law_odd := fnc_mk F__law_odd (PySem.W.mg_of X G a__law_odd) (ok_odd A F__law_odd (P := l.prog) (w := w) (base := base)) (fun _ _ _ _ _ _ us hl => by obtain ⟨a, rfl⟩ := len1 hl; rfl)
  have G__law_shown_number := fnc_mk F__law_shown_number (PySem.W.mg_of X G a__law_shown_number) (ok_shnum A F__law_shown_number (P := l.prog) (w := w) (base := base) G__law_whole G__law_lowest) (fun _ _ _ _ _ _ us hl => by obtain ⟨a, rfl⟩ := len1 hl; rfl)
  have DF__law_shown : ∀ k sp, FnOk l.prog w K mg base (CX1 l.prog w) k f__law_shown _ ["_law_thing"] sp → Fnc l.prog w K mg base "_law_shown" k ["_law_thing"] [] sp := fun k sp z => fnc_mk F__law_shown (PySem.W.mg_of X G a__law_shown) z (fun _ _ _ _ _ _ us hl => by obtain ⟨a, rfl⟩ := len1 hl; rfl)
  have G__law_shown := DF__law_shown _ _ (ok_shown A F__law_shown DF__law_shown G__law_shown_number 63)
  have G__law_right := fnc_mk F__law_right (PySem.W.mg_of X G a__law_right) (ok_right A F__law_right (P := l.prog) (w := w) (base := base) G_read G__law_shown) (fun _ _ _ _ _ _ us hl => by obtain ⟨a, rfl⟩ := len1 hl; rfl)
  exact ok_law A F_law G__law_cell_at G__law_base G_read G__law_shown G__law_right G__law_spoiled G__law_sign G__law_odd
theorem walk {l : PySem.W.OpenLaw} {q : Program} {loose : List Str} {XP : (Str → Option Value) → Heap → Prop} {YP : World → Heap → Prop} {d : DefRec} {K : Params → PySem.W.Frag} (hn : l.most = some 63) (hdf : d.params.defaults = [])
    (hY : ∀ (w : World) (h : Heap), YP w h → (K w.params).In h)
    (F : ∀ (w : World) (mg : Str → Option Value) (fa : Addr) (h : Heap), (K w.params).In h → h.Ns mainGlobals mg → mg d.name = some (.ref fa) →
      ∃ fd : FuncData, (∀ (s : Shared) (u : Value), BindsTo s fd ⟨[u], []⟩ [("_law_script", u)]) ∧ ∀ base : Heap, (K w.params).In base → base.Ns mainGlobals mg → FnOk l.prog w (K w.params) mg base (CX1 l.prog w) 134 fa fd ["_law_script"] (sp_law (K w.params))) :
    PySem.W.WalkO q loose XP YP l.row.toRowW d [] (fun f vs => PySem.call f vs) :=
  L2.walk_of (n := 63) (k := 134) (x := "_law_script") (CX := fun w => CX1 l.prog w) (sp := fun w => sp_law (K w.params)) hn (by decide) hdf ⟨rfl, by decide, by decide⟩ hY F (fun _ _ a ns hl _ hS => ⟨a, ns, rfl, hS, hl, fun _ => rfl⟩) fun _ _ _ _ _ ⟨_, _, _, _, _, _, _, z⟩ => z
end K4
open PySem PySem.W PyProof.Rows
set_option maxRecDepth 100000 in
set_option maxHeartbeats 0 in
theorem PySem.Challenge.cw_hangmobile_k04_texts_refused_holds : PySem.Challenge.rw_hangmobile_k04_texts_refused.Holds := by
  refine HD.hd ?_
  k_fill
  refine K4.walk (l := PySem.Challenge.rw_hangmobile_k04_texts_refused) rfl rfl (fun w h Y => PySem.W.kIn_of Y) ?F
  case F =>
    intro w mg fa h KX G hmg
    refine' K4.all_mk KX G hmg ?g_MobileError ?g_NoNumber ?g_NoPlace ?g_NoText ?g_Hung ?g_Weight ?g_Rod ?g_Reader ?a_common_divisor ?l_common_divisor ?d_common_divisor ?k_common_divisor ?a_fraction ?l_fraction ?d_fraction ?k_fraction ?a_under ?l_under ?d_under ?k_under ?a_check_above_nought ?l_check_above_nought ?d_check_above_nought ?k_check_above_nought ?a_read ?l_read ?d_read ?k_read ?a__law_cell_at ?l__law_cell_at ?d__law_cell_at ?k__law_cell_at ?a__law_whole ?l__law_whole ?d__law_whole ?k__law_whole ?a__law_lowest ?l__law_lowest ?d__law_lowest ?k__law_lowest ?a__law_mixed ?l__law_mixed ?d__law_mixed ?k__law_mixed ?a__law_number_by ?l__law_number_by ?d__law_number_by ?k__law_number_by ?a__law_base ?l__law_base ?d__law_base ?k__law_base ?a__law_sign ?l__law_sign ?d__law_sign ?k__law_sign ?a__law_spoiled ?l__law_spoiled ?d__law_spoiled ?k__law_spoiled ?a__law_odd ?l__law_odd ?d__law_odd ?k__law_odd ?a__law_shown_number ?l__law_shown_number ?d__law_shown_number ?k__law_shown_number ?a__law_shown ?l__law_shown ?d__law_shown ?k__law_shown ?a__law_right ?l__law_right ?d__law_right ?k__law_right ?a_law ?l_law ?d_law ?k_law ?a_Weight___init__ ?i_Weight___init__ ?l_Weight___init__ ?d_Weight___init__ ?k_Weight___init__ ?a_Rod___init__ ?i_Rod___init__ ?l_Rod___init__ ?d_Rod___init__ ?k_Rod___init__ ?a_Reader___init__ ?i_Reader___init__ ?l_Reader___init__ ?d_Reader___init__ ?k_Reader___init__ ?a_Reader_at_end ?i_Reader_at_end ?l_Reader_at_end ?d_Reader_at_end ?k_Reader_at_end ?a_Reader_sees ?i_Reader_sees ?l_Reader_sees ?d_Reader_sees ?k_Reader_sees ?a_Reader_sees_figure ?i_Reader_sees_figure ?l_Reader_sees_figure ?d_Reader_sees_figure ?k_Reader_sees_figure ?a_Reader_read_sign ?i_Reader_read_sign ?l_Reader_read_sign ?d_Reader_read_sign ?k_Reader_read_sign ?a_Reader_read_number ?i_Reader_read_number ?l_Reader_read_number ?d_Reader_read_number ?k_Reader_read_number ?a_Reader_read_fraction ?i_Reader_read_fraction ?l_Reader_read_fraction ?d_Reader_read_fraction ?k_Reader_read_fraction ?a_Reader_read_mobile ?i_Reader_read_mobile ?l_Reader_read_mobile ?d_Reader_read_mobile ?k_Reader_read_mobile ?a_Reader_read_rod ?i_Reader_read_rod ?l_Reader_read_rod ?d_Reader_read_rod ?k_Reader_read_rod ?x1_MobileError ?x2_MobileError ?x3_MobileError ?x4_MobileError ?x5_MobileError ?x6_MobileError ?x7_MobileError ?x8_MobileError ?x1_NoNumber ?x2_NoNumber ?x3_NoNumber ?x4_NoNumber ?x5_NoNumber ?x6_NoNumber ?x7_NoNumber ?x8_NoNumber ?x1_NoText ?x2_NoText ?x3_NoText ?x4_NoText ?x5_NoText ?x6_NoText ?x7_NoText ?x8_NoText ?pg_Weight ?hd_Weight ?po_Weight ?sa_Weight ?mk_Weight ?kc_Weight ?yh_Weight ?ym_Weight ?no_Weight_amount ?pg_Rod ?hd_Rod ?po_Rod ?sa_Rod ?mk_Rod ?kc_Rod ?yh_Rod ?ym_Rod ?no_Rod_left_arm ?no_Rod_left ?no_Rod_right_arm ?no_Rod_right ?pg_Reader ?hd_Reader ?po_Reader ?sa_Reader ?mk_Reader ?kc_Reader ?yh_Reader ?ym_Reader ?no_Reader_text ?no_Reader_spot ?yn ?yt ?gk_NOUGHT ?kl_NOUGHT ?gs_FIGURES ?n_abs ?n_len ?n_isinstance ?n_int ?n_bool ?n_tuple ?n_str ?n_ValueError ?s_TM ?s_TT ?t_TV ?t_TT ?t_TNP ?t_WW ?t_WR ?t_RW ?t_RR ?t_ii ?t_ib ?t_tt
    (case g_MobileError => first | k_is | kit_is)
    (case g_NoNumber => first | k_is | kit_is)
    (case g_NoPlace => first | k_is | kit_is)
    (case g_NoText => first | k_is | kit_is)
    (case g_Hung => first | k_is | kit_is)
    (case g_Weight => first | k_is | kit_is)
    (case g_Rod => first | k_is | kit_is)
    (case g_Reader => first | k_is | kit_is)
    (case a_common_divisor => first | k_is | kit_is)
    (case l_common_divisor => first | k_is | kit_is)
    (case d_common_divisor => first | k_is | kit_is)
    (case k_common_divisor => first | k_is | kit_is)
    (case a_fraction => first | k_is | kit_is)
    (case l_fraction => first | k_is | kit_is)
    (case d_fraction => first | k_is | kit_is)
    (case k_fraction => first | k_is | kit_is)
    (case a_under => first | k_is | kit_is)
    (case l_under => first | k_is | kit_is)
    (case d_under => first | k_is | kit_is)
    (case k_under => first | k_is | kit_is)
    (case a_check_above_nought => first | k_is | kit_is)
    (case l_check_above_nought => first | k_is | kit_is)
    (case d_check_above_nought => first | k_is | kit_is)
    (case k_check_above_nought => first | k_is | kit_is)
    (case a_read => first | k_is | kit_is)
    (case l_read => first | k_is | kit_is)
    (case d_read => first | k_is | kit_is)
    (case k_read => first | k_is | kit_is)
    (case a__law_cell_at => first | k_is | kit_is)
    (case l__law_cell_at => first | k_is | kit_is)
    (case d__law_cell_at => first | k_is | kit_is)
    (case k__law_cell_at => first | k_is | kit_is)
    (case a__law_whole => first | k_is | kit_is)
    (case l__law_whole => first | k_is | kit_is)
    (case d__law_whole => first | k_is | kit_is)
    (case k__law_whole => first | k_is | kit_is)
    (case a__law_lowest => first | k_is | kit_is)
    (case l__law_lowest => first | k_is | kit_is)
    (case d__law_lowest => first | k_is | kit_is)
    (case k__law_lowest => first | k_is | kit_is)
    (case a__law_mixed => first | k_is | kit_is)
    (case l__law_mixed => first | k_is | kit_is)
    (case d__law_mixed => first | k_is | kit_is)
    (case k__law_mixed => first | k_is | kit_is)
    (case a__law_number_by => first | k_is | kit_is)
    (case l__law_number_by => first | k_is | kit_is)
    (case d__law_number_by => first | k_is | kit_is)
    (case k__law_number_by => first | k_is | kit_is)
    (case a__law_base => first | k_is | kit_is)
    (case l__law_base => first | k_is | kit_is)
    (case d__law_base => first | k_is | kit_is)
    (case k__law_base => first | k_is | kit_is)
    (case a__law_sign => first | k_is | kit_is)
    (case l__law_sign => first | k_is | kit_is)
    (case d__law_sign => first | k_is | kit_is)
    (case k__law_sign => first | k_is | kit_is)
    (case a__law_spoiled => first | k_is | kit_is)
    (case l__law_spoiled => first | k_is | kit_is)
    (case d__law_spoiled => first | k_is | kit_is)
    (case k__law_spoiled => first | k_is | kit_is)
    (case a__law_odd => first | k_is | kit_is)
    (case l__law_odd => first | k_is | kit_is)
    (case d__law_odd => first | k_is | kit_is)
    (case k__law_odd => first | k_is | kit_is)
    (case a__law_shown_number => first | k_is | kit_is)
    (case l__law_shown_number => first | k_is | kit_is)
    (case d__law_shown_number => first | k_is | kit_is)
    (case k__law_shown_number => first | k_is | kit_is)
    (case a__law_shown => first | k_is | kit_is)
    (case l__law_shown => first | k_is | kit_is)
    (case d__law_shown => first | k_is | kit_is)
    (case k__law_shown => first | k_is | kit_is)
    (case a__law_right => first | k_is | kit_is)
    (case l__law_right => first | k_is | kit_is)
    (case d__law_right => first | k_is | kit_is)
    (case k__law_right => first | k_is | kit_is)
    (case a_law => first | k_is | kit_is)
    (case l_law => first | k_is | kit_is)
    (case d_law => first | k_is | kit_is)
    (case k_law => first | k_is | kit_is)
    (case a_Weight___init__ => first | k_is | kit_is)
    (case i_Weight___init__ => first | k_is | kit_is)
    (case l_Weight___init__ => first | k_is | kit_is)
    (case d_Weight___init__ => first | k_is | kit_is)
    (case k_Weight___init__ => first | k_is | kit_is)
    (case a_Rod___init__ => first | k_is | kit_is)
    (case i_Rod___init__ => first | k_is | kit_is)
    (case l_Rod___init__ => first | k_is | kit_is)
    (case d_Rod___init__ => first | k_is | kit_is)
    (case k_Rod___init__ => first | k_is | kit_is)
    (case a_Reader___init__ => first | k_is | kit_is)
    (case i_Reader___init__ => first | k_is | kit_is)
    (case l_Reader___init__ => first | k_is | kit_is)
    (case d_Reader___init__ => first | k_is | kit_is)
    (case k_Reader___init__ => first | k_is | kit_is)
    (case a_Reader_at_end => first | k_is | kit_is)
    (case i_Reader_at_end => first | k_is | kit_is)
    (case l_Reader_at_end => first | k_is | kit_is)
    (case d_Reader_at_end => first | k_is | kit_is)
    (case k_Reader_at_end => first | k_is | kit_is)
    (case a_Reader_sees => first | k_is | kit_is)
    (case i_Reader_sees => first | k_is | kit_is)
    (case l_Reader_sees => first | k_is | kit_is)
    (case d_Reader_sees => first | k_is | kit_is)
    (case k_Reader_sees => first | k_is | kit_is)
    (case a_Reader_sees_figure => first | k_is | kit_is)
    (case i_Reader_sees_figure => first | k_is | kit_is)
    (case l_Reader_sees_figure => first | k_is | kit_is)
    (case d_Reader_sees_figure => first | k_is | kit_is)
    (case k_Reader_sees_figure => first | k_is | kit_is)
    (case a_Reader_read_sign => first | k_is | kit_is)
    (case i_Reader_read_sign => first | k_is | kit_is)
    (case l_Reader_read_sign => first | k_is | kit_is)
    (case d_Reader_read_sign => first | k_is | kit_is)
    (case k_Reader_read_sign => first | k_is | kit_is)
    (case a_Reader_read_number => first | k_is | kit_is)
    (case i_Reader_read_number => first | k_is | kit_is)
    (case l_Reader_read_number => first | k_is | kit_is)
    (case d_Reader_read_number => first | k_is | kit_is)
    (case k_Reader_read_number => first | k_is | kit_is)
    (case a_Reader_read_fraction => first | k_is | kit_is)
    (case i_Reader_read_fraction => first | k_is | kit_is)
    (case l_Reader_read_fraction => first | k_is | kit_is)
    (case d_Reader_read_fraction => first | k_is | kit_is)
    (case k_Reader_read_fraction => first | k_is | kit_is)
    (case a_Reader_read_mobile => first | k_is | kit_is)
    (case i_Reader_read_mobile => first | k_is | kit_is)
    (case l_Reader_read_mobile => first | k_is | kit_is)
    (case d_Reader_read_mobile => first | k_is | kit_is)
    (case k_Reader_read_mobile => first | k_is | kit_is)
    (case a_Reader_read_rod => first | k_is | kit_is)
    (case i_Reader_read_rod => first | k_is | kit_is)
    (case l_Reader_read_rod => first | k_is | kit_is)
    (case d_Reader_read_rod => first | k_is | kit_is)
    (case k_Reader_read_rod => first | k_is | kit_is)
    (case x1_MobileError => first | k_is | kit_is)
    (case x2_MobileError => first | k_is | kit_is)
    (case x3_MobileError => first | k_is | kit_is)
    (case x4_MobileError => first | k_is | kit_is)
    (case x5_MobileError => first | k_is | kit_is)
    (case x6_MobileError => first | k_is | kit_is)
    (case x7_MobileError => first | k_is | kit_is)
    (case x8_MobileError => k_exc)
    (case x1_NoNumber => first | k_is | kit_is)
    (case x2_NoNumber => first | k_is | kit_is)
    (case x3_NoNumber => first | k_is | kit_is)
    (case x4_NoNumber => first | k_is | kit_is)
    (case x5_NoNumber => first | k_is | kit_is)
    (case x6_NoNumber => first | k_is | kit_is)
    (case x7_NoNumber => first | k_is | kit_is)
    (case x8_NoNumber => k_exc)
    (case x1_NoText => first | k_is | kit_is)
    (case x2_NoText => first | k_is | kit_is)
    (case x3_NoText => first | k_is | kit_is)
    (case x4_NoText => first | k_is | kit_is)
    (case x5_NoText => first | k_is | kit_is)
    (case x6_NoText => first | k_is | kit_is)
    (case x7_NoText => first | k_is | kit_is)
    (case x8_NoText => k_exc)
    (case pg_Weight => first | k_is | kit_is)
    (case hd_Weight => first | k_is | kit_is)
    (case po_Weight => first | k_is | kit_is)
    (case sa_Weight => first | k_is | kit_is)
    (case mk_Weight => first | k_is | kit_is)
    (case kc_Weight => first | k_is | kit_is)
    (case yh_Weight => first | k_is | kit_is)
    (case ym_Weight => first | k_is | kit_is)
    (case no_Weight_amount => first | k_is | kit_is)
    (case pg_Rod => first | k_is | kit_is)
    (case hd_Rod => first | k_is | kit_is)
    (case po_Rod => first | k_is | kit_is)
    (case sa_Rod => first | k_is | kit_is)
    (case mk_Rod => first | k_is | kit_is)
    (case kc_Rod => first | k_is | kit_is)
    (case yh_Rod => first | k_is | kit_is)
    (case ym_Rod => first | k_is | kit_is)
    (case no_Rod_left_arm => first | k_is | kit_is)
    (case no_Rod_left => first | k_is | kit_is)
    (case no_Rod_right_arm => first | k_is | kit_is)
    (case no_Rod_right => first | k_is | kit_is)
    (case pg_Reader => first | k_is | kit_is)
    (case hd_Reader => first | k_is | kit_is)
    (case po_Reader => first | k_is | kit_is)
    (case sa_Reader => first | k_is | kit_is)
    (case mk_Reader => first | k_is | kit_is)
    (case kc_Reader => first | k_is | kit_is)
    (case yh_Reader => first | k_is | kit_is)
    (case ym_Reader => first | k_is | kit_is)
    (case no_Reader_text => first | k_is | kit_is)
    (case no_Reader_spot => first | k_is | kit_is)
    (case yn => first | k_is | kit_is)
    (case yt => first | k_is | kit_is)
    (case gk_NOUGHT => first | k_is | kit_is)
    (case kl_NOUGHT => first | k_is | kit_is)
    (case gs_FIGURES => first | k_is | kit_is)
    (case n_abs => first | k_is | kit_is)
    (case n_len => first | k_is | kit_is)
    (case n_isinstance => first | k_is | kit_is)
    (case n_int => first | k_is | kit_is)
    (case n_bool => first | k_is | kit_is)
    (case n_tuple => first | k_is | kit_is)
    (case n_str => first | k_is | kit_is)
    (case n_ValueError => first | k_is | kit_is)
    (case s_TM => first | k_is | kit_is)
    (case s_TT => first | k_is | kit_is)
    (case t_TV => first | k_is | kit_is)
    (case t_TT => first | k_is | kit_is)
    (case t_TNP => first | k_is | kit_is)
    (case t_WW => first | k_is | kit_is)
    (case t_WR => first | k_is | kit_is)
    (case t_RW => first | k_is | kit_is)
    (case t_RR => first | k_is | kit_is)
    (case t_ii => first | k_is | kit_is)
    (case t_ib => first | k_is | kit_is)
    (case t_tt => first | k_is | kit_is)
#print axioms PySem.Challenge.cw_hangmobile_k04_texts_refused_holds
