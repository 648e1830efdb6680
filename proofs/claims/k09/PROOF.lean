import PyProof.Rows.All
import Wide.All
import OpenK.AllK
import Wide.FinOn
import Lean
import PyProof.EqAt
import PyProof.EqKinds
import PyProof.TupleCall
import PyProof.Rows.SortStr
import KE.KDictSum
import PyProof.NeKinds
import KE.KRevIter
import KE.KIntText
import PyProof.StrLawsIn
import PyProof.StrLawsJoin
import PyProof.StrCalls2
import KE.KTurns
import KE.KItemsList
import KE.KDictOf
import PyProof.AttrMissHeap
import PySem.Challenge.RW_hangmobile_k09_whole_mends
set_option hygiene false
local macro_rules | `(nofun) => `(⟨rfl, rfl, rfl, by decide +kernel, rfl, by decide +kernel, by decide +kernel⟩)
local macro_rules | `(tactic| lia) => `(tactic| omega)
local macro_rules | `(tactic| ac_nf) => `(tactic| decide +kernel)
local macro_rules | `(tactic| k_head) => `(tactic| refine F.okN S (fun vs H Q E h => ?_) (fun cdv A' outer s H vs Q E hr h => ?_))
local macro_rules | `(tactic| w_on) => `(tactic| refine F.okE S (fun vs H Q E h => ?_) (fun cdv A' outer s H vs Q E hr h => ?_))
local macro_rules | `(⋯) => `((by decide))
local macro_rules | `(∅) => `((by omega))
set_option Elab.async false
set_option linter.all false
namespace HD
open PySem PySem.W PyProof.Rows PySem.Calls
abbrev ST:=SharedT->Thread->Option (SharedT×Thread)
noncomputable def one (thr ok:Thread->Bool) (st:ST):ST:=fun s t=>
 Bool.rec (motive:=fun _=>Option (SharedT×Thread)) (Bool.rec (motive:=fun _=>Option (SharedT×Thread)) none (st s t) (ok t)) (some (s,t)) (thr t)
noncomputable def pw (f:ST) (k:Nat):ST:=
 Nat.rec (motive:=fun _=>ST) f (fun _ g s t=>Option.rec (motive:=fun _=>Option (SharedT×Thread)) none (fun x=>Prod.rec (motive:=fun _=>Option (SharedT×Thread)) (fun s' t'=>g s' t') x) (g s t)) k
theorem pw_succ (f:ST) (k:Nat) (s:SharedT) (t:Thread):pw f (k+1) s t=(pw f k s t).bind fun x=>pw f k x.1 x.2:=by
 show Option.rec (motive:=fun _=>Option (SharedT×Thread)) none (fun x=>Prod.rec (motive:=fun _=>Option (SharedT×Thread)) (fun s' t'=>pw f k s' t') x) (pw f k s t)=_
 cases pw f k s t <;> rfl
section
variable {tb:String->Option Builtin}{p:Program}{w:World}{n₀:Nat}{ann:Option Value}
theorem one_of {s s':SharedT}{t t':Thread}(h:one through (stepOk n₀ ann) (stepT (denote tb) p w) s t=some (s',t')) (N:Nat) (r:Shared) (k:topRun tb p w n₀ ann N s'.abs t'=some r):topRun tb p w n₀ ann (N+1) s.abs t=some r:=by
 unfold one at h
 cases ht:through t with
 | true=>
  rw[ht] at h
  obtain⟨rfl,rfl⟩:=Prod.mk.inj (Option.some.inj h)
  exact topRun_mono 1 _ _ _ _ k
 | false=>
  rw[ht] at h
  unfold topRun
  rw[ht]
  cases hk:stepOk n₀ ann t with
  | false=>rw[hk] at h;exact nomatch (show (none:Option (SharedT×Thread))=some _ from h)
  | true=>rw[hk] at h;dsimp only;rw[stepT_spec h];exact k
theorem pw_of:∀ {k:Nat}{s s':SharedT}{t t':Thread},pw (one through (stepOk n₀ ann) (stepT (denote tb) p w)) k s t=some (s',t')->∀ (N:Nat) (r:Shared),topRun tb p w n₀ ann N s'.abs t'=some r->topRun tb p w n₀ ann (N+2 ^ k) s.abs t=some r
 | 0,_,_,_,_,h=>one_of h
 | k+1,s,s',t,t',h=>fun N r q=>by
  rw[pw_succ] at h
  obtain⟨⟨s₁,t₁⟩,a,b⟩:=Option.bind_eq_some_iff.mp h
  have:=pw_of a _ _ (pw_of b N r q)
  rwa [Nat.add_assoc,←Nat.two_mul,Nat.mul_comm,←Nat.pow_succ] at this
end
theorem left_of_T {p q:Program}{ls:List Str}{Xt:Shared->Bool}{α:Type}{Yf:Shared->α}{Ya:World->α}{g:Bool}{B:Params->Heap}{T:Params->BT}{n m c M:Nat}{lf:Life}{dr:Drawn}{an:Option Value}
  (hopen:∀ w:World,(fencedOpening treeTable p w (1+2 ^ M)).map (fun x=>(x.heap,x.gens,x.drawn,x.toks))=some (B w.params,Array.mk [],dr,c))
  (habs:∀ P,absHeap (T P) n lf=B P)
  (hsz:∀ w:World,((B w.params).isNs mainGlobals,(B w.params).objs.size,(B w.params).nsMap mainGlobals "__annotations__")=(true,m,an))
  {thr ok:Thread->Bool} {st:World->ST} (ht:through=thr) (hk:stepOk m an=ok) (hs:∀ w,stepT (denote treeTable) p w=st w)
  (hrun:∀ w:World,(fun o=>(pw (one thr ok (st w)) M ⟨T w.params,n,lf,Array.mk [],dr,c,o⟩ (topStub p)).map (fun x=>(thr x.2,
    (staticsOk (importedModules p.main.body) (B w.params) x.1.abs.heap&&namesBound p x.1.abs.heap&&gensDone x.1.abs&&laidKept (B w.params) x.1.abs.heap),openSeen q ls (importedModules p.main.body) Xt g x.1.abs,Yf x.1.abs))) =
   fun _=>some (true,true,openGood q ls,Ya w)):LeftO p q ls Xt Yf Ya (1+2 ^ M) g:=by
 intro w
 cases e:fencedOpening treeTable p w (1+2 ^ M) with
 | none=>have:=hopen w;rw[e] at this;exact nomatch this
 | some b=>
  have hb:=hopen w
  rw[e] at hb
  have hb:=Option.some.inj hb
  obtain⟨bh,bg,bd,bt,bo⟩:=b
  have b1:bh=B w.params:=congrArg Prod.fst hb
  have b2:bg=Array.mk []:=congrArg (fun x=>x.2.1) hb
  have b3:bd=dr:=congrArg (fun x=>x.2.2.1) hb
  have b4:bt=c:=congrArg (fun x=>x.2.2.2) hb
  subst b1 b2 b3 b4
  have z1:=congrArg (fun x=>x.1) (hsz w)
  have z2:=congrArg (fun x=>x.2.1) (hsz w)
  have z3:=congrArg (fun x=>x.2.2) (hsz w)
  dsimp only at z1 z2 z3
  obtain⟨⟨y,u⟩,hy,hv⟩:=Option.map_eq_some_iff.mp (congrFun (hrun w) bo)
  subst ht hk
  rw[←hs] at hy
  have v0:through u=true:=congrArg (fun x=>x.1) hv
  have v1:=congrArg (fun x=>x.2.1) hv
  have v2:=congrArg (fun x=>x.2.2) hv
  dsimp only at v1 v2
  have R:=pw_of hy 1 y.abs (by unfold topRun;rw[v0])
  have R:topRun treeTable p w m an (1+2 ^ M) ⟨B w.params,Array.mk [],bd,bt,bo⟩ (topStub p)=some y.abs:=habs w.params▸R
  unfold openEnds
  rw[e,Option.bind_some]
  unfold topFrom
  dsimp only
  rw[z1,z2,z3,R]
  dsimp only[Option.bind_some]
  rw[v1,←v2]
  rfl
noncomputable def ofL (l:List Obj):BT:=(List.foldl (fun (x:BT×Nat) o=>(x.1.ins x.2 o,Nat.succ x.2)) (BT.nil,0) l).1
noncomputable def bootT (P:Params):BT:=ofL (boot_heap P).objs.toList
noncomputable def vw:Program:=view PySem.Challenge.pw_hangmobile_k09_whole_mends [72]
noncomputable def ls:List Str:=["MobileError","NoNumber","NoPlace","NoText","common_divisor","fraction","plus","minus","times","over","under","NOUGHT","check_above_nought","Hung","Weight","Rod","weight_at","rod_at","hung_at","put","cut","shift","done","hefts","pulls","tipping","lacking","wants_of","way_to","fitting_of","levelling","shifts_of","mends","mended","FIGURES","fraction_shown","shown","Reader","read","_law_cell_at","_law_whole","_law_lowest","_law_is_fraction","_law_sum","_law_less","_law_product","_law_quotient","_law_mixed","_law_amount","_law_arms","_law_spot","_law_grown","_law_tipped","_law_made","_law_twice","_law_ends","_law_number","_law_written","_law_gaps","_law_tips","_law_one_does","_law_behind_put","_law_behind_shift","_law_behind"].map Str.ofString
theorem said:OpenLaw.wellSaid PySem.Challenge.rw_hangmobile_k09_whole_mends=true:=(congrFun Fast.te9446332074065402090 _).trans (by kernel_rfl)
end HD
set_option hygiene false
local macro_rules | `(tactic| o_law) => `(tactic| refine PySem.W.holds_law HD.said fun said => ?_)
local macro_rules | `(tactic| o_head $H) => `(tactic| (refine PySem.W.holds_open (q := HD.vw) (loose := HD.ls) (Xt := fun s => PySem.W.xlAt HD.vw [] s && PySem.W.recOk (PySem.W.RowW.records (PySem.W.OpenRow.toRowW (PySem.W.OpenLaw.row PySem.Challenge.rw_hangmobile_k09_whole_mends))) s) (XP := PySem.W.XL HD.vw []) (Yf := PySem.W.Hook.obs $H) (Ya := PySem.W.Hook.val $H) (YP := PySem.W.Hook.says $H) (N := 1 + 2 ^ 12) ?hl (PySem.W.Hook.of $H) (PySem.W.Hook.keeps $H) (fun s e => PySem.W.xl_of s (Bool.and_eq_true_iff.mp e).1) PySem.W.XL.keeps (by rfl) (by rfl) (by rfl) (fun s e => PySem.W.recFacts_of (Bool.and_eq_true_iff.mp e).2) (by rfl) (by first | assumption | ac_nf) (by ac_nf) ⟨rfl, rfl, rfl, rfl, rfl, by ac_nf⟩ ?hw ?hc; (case hl => refine HD.left_of_T (T := HD.bootT) (n := 11) (m := 11) (an := some (PySem.Value.ref 6)) (PySem.W.boot_open (by kernel_rfl) (by kernel_rfl) (fun s => by kernel_rfl)) (lf := ⟨[], [], [], 0, [], [], false, #[], [], 0, false, false, false, 0, [2000, 10, 10], false, 0, true, [], [], 0, false⟩) (fun P => by kernel_rfl) (fun w => by kernel_rfl) (thr := PySem.W.through) (ok := PySem.W.Fast.tw6613529449190102663 11 (some (PySem.Value.ref 6))) (st := fun w => PySem.W.Fast.tw10156331382660048174 (PySem.W.Fast.tw11892475500146522536 PySem.W.Fast.tw14364793385576792824) PySem.Challenge.pw_hangmobile_k09_whole_mends w) rfl (congrFun (congrFun PySem.W.Fast.te6613529449190102663 _) _) (fun w => by rw [PySem.W.Fast.te10156331382660048174, PySem.W.Fast.te11892475500146522536, PySem.W.Fast.te14364793385576792824]; rfl) (fun w => by kernel_rfl))))
set_option maxRecDepth 100000 in
set_option maxHeartbeats 0 in
open_top HD.hd for PySem.Challenge.rw_hangmobile_k09_whole_mends
set_option hygiene true
set_option Elab.async false
set_option linter.all false
set_option maxRecDepth 100000
namespace L2
open PySem PySem.Spec PyProof.Rows
abbrev Key:=Sum Int Str
def keyIs:Key->Value->Bool
 | .inl k,v=>Value.isInt k v
 | .inr x,v=>Value.isStrOf x v
def keyH (w:World):Key->Int
 | .inl k=>hashInt k
 | .inr x=>hashStr w x
theorem keyIs_shape:∀ {k:Key}{v:Value},keyIs k v=true->(∃ i t,k=Sum.inl i/\v=Value.int i t)\/(∃ x t,k=Sum.inr x/\v=Value.str x t)
 | .inl i,v,h=>by
  obtain⟨t,e⟩:=Value.isInt_shape (k:=i) (v:=v) h
  exact .inl ⟨i,t,rfl,e⟩
 | .inr x,v,h=>by
  obtain⟨t,e⟩:=Value.isStrOf_shape (x:=x) (v:=v) h
  exact .inr ⟨x,t,rfl,e⟩
theorem keyIs_int (i:Int) (t:Tok):keyIs (.inl i) (.int i t)=true:=by simp[keyIs,Value.isInt]
theorem keyIs_str (x:Str) (t:Tok):keyIs (.inr x) (.str x t)=true:=by simp[keyIs,Value.isStrOf]
theorem key_ll (a b:Int):decide ((Sum.inl a:Key)=Sum.inl b)=(a==b):=by
 by_cases e:a=b
 ·subst e;simp
 ·have h:¬(Sum.inl a:Key)=Sum.inl b:=fun q=>e (Sum.inl.inj q)
  rw[decide_eq_false h]
  exact (beq_eq_false_iff_ne.mpr e).symm
theorem key_rr (a b:Str):decide ((Sum.inr a:Key)=Sum.inr b)=decide (a=b):=by
 by_cases e:a=b
 ·subst e;simp
 ·have h:¬(Sum.inr a:Key)=Sum.inr b:=fun q=>e (Sum.inr.inj q)
  rw[decide_eq_false h,decide_eq_false e]
theorem key_lr (a:Int) (b:Str):decide ((Sum.inl a:Key)=Sum.inr b)=false:=decide_eq_false (fun q=>nomatch q)
theorem key_rl (a:Str) (b:Int):decide ((Sum.inr a:Key)=Sum.inl b)=false:=decide_eq_false (fun q=>nomatch q)
def mixKind (prog:Program) (w:World):PySem.KeyKind prog w Key where
 is:=keyIs
 hash:=keyH w
 inj:=fun v a b ha hb=>by
  rcases keyIs_shape ha with⟨i,t,rfl,rfl⟩ | ⟨x,t,rfl,rfl⟩
  ·rcases keyIs_shape hb with⟨j,u,rfl,e⟩ | ⟨y,u,rfl,e⟩
   ·injection e with e1 _;rw[e1]
   ·exact nomatch e
  ·rcases keyIs_shape hb with⟨j,u,rfl,e⟩ | ⟨y,u,rfl,e⟩
   ·exact nomatch e
   ·injection e with e1 _;rw[e1]
 byValue:=fun k v h=>by
  rcases keyIs_shape h with⟨i,t,rfl,rfl⟩ | ⟨x,t,rfl,rfl⟩ <;> rfl
 pyHash:=fun hv h=>by
  rcases keyIs_shape hv with⟨i,t,rfl,rfl⟩ | ⟨x,t,rfl,rfl⟩
  ·exact wpAny_pyHash_int h
  ·exact wpAny_pyHash_str h
 eqBool:=fun hu hv h=>by
  rcases keyIs_shape hu with⟨i,t,rfl,rfl⟩ | ⟨x,t,rfl,rfl⟩
  ·rcases keyIs_shape hv with⟨j,u,rfl,rfl⟩ | ⟨y,u,rfl,rfl⟩
   ·rw[key_ll] at h;exact wpAny_eqBool_int h
   ·rw[key_lr] at h;exact SeqAt.EqAt.int_str i t y u _ _ _ _ h
  ·rcases keyIs_shape hv with⟨j,u,rfl,rfl⟩ | ⟨y,u,rfl,rfl⟩
   ·rw[key_rl] at h;exact SeqAt.EqAt.str_int x t j u _ _ _ _ h
   ·rw[key_rr] at h;exact wpAny_eqBool_str h
 «strs»:=fun k x t v h=>by
  rcases keyIs_shape h with⟨i,u,rfl,e⟩ | ⟨y,u,rfl,e⟩
  ·exact nomatch e
  ·injection e with e1 _
   subst e1
   cases v <;> rfl
theorem mixKind_int (prog:Program) (w:World) (i:Int) (t:Tok):(mixKind prog w).is (.inl i) (.int i t)=true:=keyIs_int i t
theorem mixKind_str (prog:Program) (w:World) (x:Str) (t:Tok):(mixKind prog w).is (.inr x) (.str x t)=true:=keyIs_str x t
end L2
namespace L2
open PySem PySem.Spec PyProof.Rows
inductive V where
 | non | bl (b:Bool) | int (i:Int) | str (x:Str) | byt (b:Array UInt8) | flt (b:UInt64) | ref (a:Addr) | ty (n:String)
 deriving DecidableEq
def RelV:V->Value->Prop
 | .non,u=>u=Value.none
 | .bl b,u=>u=Value.bool b
 | .int i,u=>∃ t,u=Value.int i t
 | .str x,u=>∃ t,u=Value.str x t
 | .byt b,u=>∃ t,u=Value.bytes b t
 | .flt b,u=>∃ t,u=Value.float b t
 | .ref a,u=>u=Value.ref a
 | .ty n,u=>u=Value.type n
abbrev Vals:List V->List Value->Prop:=Paired RelV
theorem Vals.length {xs:List V}{us:List Value}(r:Vals xs us):xs.length=us.length:=Paired.length r
theorem Vals.get:∀ {xs:List V}{us:List Value}{i:Nat}{x:V},Vals xs us->xs[i]? = some x->∃ u,us[i]? = some u/\RelV x u
 | _,_,_,_,.nil,e=>by simp at e
 | _,_,0,_,.cons r _,e=>by simp at e;subst e;exact⟨_,rfl,r⟩
 | _,_,i+1,x,.cons _ t,e=>by
  obtain⟨u,h1,h2⟩:=Vals.get (i:=i) (x:=x) t (by simpa using e)
  exact⟨u,by simpa using h1,h2⟩
theorem Vals.append:∀ {xs ys:List V}{us ws:List Value},Vals xs us->Vals ys ws->Vals (xs++ys) (us++ws)
 | _,_,_,_,.nil,s=>s
 | _,_,_,_,.cons r t,s=>.cons r (Vals.append t s)
theorem Vals.take:∀ {xs:List V}{us:List Value}(n:Nat),Vals xs us->Vals (xs.take n) (us.take n)
 | _,_,0,_=>.nil
 | _,_,_+1,.nil=>.nil
 | _,_,n+1,.cons r t=>.cons r (Vals.take n t)
theorem Vals.drop:∀ {xs:List V}{us:List Value}(n:Nat),Vals xs us->Vals (xs.drop n) (us.drop n)
 | _,_,0,r=>r
 | _,_,_+1,.nil=>.nil
 | _,_,n+1,.cons _ t=>Vals.drop n t
def RelO:Option V->Option Value->Prop
 | some v,some u=>RelV v u
 | none,none=>True
 | _,_=>False
def KV {κ:Type}:List (κ×V)->List (κ×Value)->Prop:=Paired fun (p:κ×V) (q:κ×Value)=>p.1=q.1/\RelV p.2 q.2
def kV:Key->V
 | .inl i=>.int i
 | .inr x=>.str x
inductive HO where
 | lst (xs:List V)
 | tup (xs:List V)
 | dK (kvs:List (Key×V)) | dT (kvs:List (List Key×V))
 | set (S:Int->Bool) (n:Nat)
 | ins (C dx:Addr) (fs:List (Str×V))
 | own (x:Addr)
 | xd (fs:List (Str×V))
 | met (f x:Addr)
 | rng (lo hi:Int)
 | frz (o:Obj) (u:HO)
 | tbl (ps:Array Value)
 | ext (φ:Heap->Prop)
abbrev Hp:=Addr->Option HO
def upd (H:Hp) (a:Addr) (o:HO):Hp:=fun b=>if b=a then some o else H b
theorem Za4 {H:Hp}{a:Addr}{o:HO}:upd H a o a=some o:=by unfold upd;rw[if_pos rfl]
theorem Zb8 {H:Hp}{a b:Addr}{o:HO}(h:b≠a):upd H a o b=H b:=by unfold upd;rw[if_neg h]
theorem upd_upd {H:Hp}{a:Addr}{o u:HO}:upd (upd H a o) a u=upd H a u:=by
 funext b;unfold upd;split <;> rfl
theorem ne_of {H:Hp}{a b:Addr}{o u:HO}(h:H a=some o) (h':H b=some u) (d:o≠u):a≠b:=by
 intro e;subst e;rw[h] at h';exact d (Option.some.inj h')
theorem Za8 {H:Hp}{a b:Addr}{o:HO}(h:H a=some o) (h':H b=none):a≠b:=by
 intro e;subst e;rw[h] at h';cases h'
section
variable (P:Program) (w:World)
def ObjOk (H:Hp) (h:Heap) (a:Addr):HO->Prop
 | .lst xs=>xs.length<=sizeLine/\∃ (its:List Value) (n:Nat),Vals xs its/\h.get? a=some { cls:=.type "list",data:=.seq its.toArray n }
 | .tup xs=>xs.length<=sizeLine/\∃ its:List Value,Vals xs its/\IsTup h a its.toArray
 | .dK kvs=>kvs.length<=sizeLine/\(a==sysModules)=false/\∃ vs,KV kvs vs/\h.DictOf (mixKind P w) a vs
 | .dT kvs=>kvs.length<=sizeLine/\(a==sysModules)=false/\∃ xs:List (List Key×Addr×Value),
   Paired (fun (p:List Key×V) (q:List Key×Addr×Value)=>p.1=q.1/\H q.2.1=some (.tup (p.1.map kV))/\RelV p.2 q.2.2) kvs xs /\
   ∃ o es ep,h.get? a=some o/\o.ExactDict/\o.data = .dict es ep/\es.toList=xs.map (entryOfKey (tupleKind (mixKind P w)))/\(xs.map (·.1)).Nodup
 | .set S n=>h.SetOf (intKind P w) a S n
 | .ins C dx fs=>H dx=some (.own a)/\fs.length<=1000/\dx≠a/\h.get? a=some (PySem.W.instObj C dx) /\
   ∃ mA,h.Ns1 dx mA/\(∀ f,RelO (fs.lookup f) (mA f))/\PySem.Within mA (fs.map (·.1))
 | .own _=>∃ o,h.get? a=some o
 | .xd fs=>∃ mA,h.Ns1 a mA/\∀ f,RelO (fs.lookup f) (mA f)
 | .rng lo hi=>∃ t u v,h.get? a=some { cls:=.type "range",data:=.fields #[.int lo t,.int hi u,.int 1 v] }
 | .frz o u=>h.get? a=some o/\ObjOk H h a u
 | .tbl ps=>h.get? a=some { cls:=.none,data:=.fields ps }
 | .met f x=>h.get? a=some (PySem.W.methodObj (.ref f) (.ref x))
 | .ext φ=>φ h/\(∃ o,h.get? a=some o)/\∀ h1 h2:Heap,φ h1->(∀ o,h1.get? a=some o->h2.get? a=some o)->φ h2
def HOk (H:Hp) (h:Heap):Prop:=∀ a o,H a=some o->ObjOk P w H h a o
end
section
variable {P:Program}{w:World}{H H':Hp}{h h':Heap}{a:Addr}{o:HO}
theorem ObjOk.lt (x:ObjOk P w H h a o):a<h.objs.size:=by
 cases o with
 | lst xs=>obtain⟨_,_,_,_,e⟩:=x;exact Heap.lt_size e
 | tup xs=>obtain⟨_,_,_,p⟩:=x;exact p.lt
 | dK kvs=>obtain⟨_,_,_,_,o,_,_,e,_⟩:=x;exact Heap.lt_size e
 | dT kvs=>obtain⟨_,_,_,_,o,_,_,e,_⟩:=x;exact Heap.lt_size e
 | set S n=>obtain⟨o,_,_,_,e,_⟩:=x;exact Heap.lt_size e
 | ins C dx fs=>obtain⟨_,_,_,e,_⟩:=x;exact Heap.lt_size e
 | own y=>obtain⟨_,e⟩:=x;exact Heap.lt_size e
 | xd fs=>obtain⟨_,⟨_,_,_,e,_⟩,_⟩:=x;exact Heap.lt_size e
 | rng lo hi=>obtain⟨_,_,_,e⟩:=x;exact Heap.lt_size e
 | frz ob u=>obtain⟨e,_⟩:=x;exact Heap.lt_size e
 | tbl ps=>exact Heap.lt_size (show h.get? a=some _ from x)
 | met f y=>exact Heap.lt_size (show h.get? a=some _ from x)
 | ext φ=>obtain⟨_,⟨_,e⟩,_⟩:=x;exact Heap.lt_size e
theorem Paired.mapP {α β:Type}{F G:α->β->Prop}:∀ {l₁:List α}{l₂:List β},Paired F l₁ l₂->(∀ a b,F a b->G a b)->Paired G l₁ l₂
 | _,_,.nil,_=>.nil
 | _,_,.cons r t,f=>.cons (f _ _ r) (Paired.mapP t f)
theorem ObjOk.stay (x:ObjOk P w H h a o) (k:∀ b u,(b=a\/H b=some (.own a))->h.get? b=some u->h'.get? b=some u)
  (ho:∀ b,H b=some (.own a)->H' b=some (.own a)) (ht:∀ b xs,H b=some (.tup xs)->H' b=some (.tup xs)):ObjOk P w H' h' a o:=by
 induction o with
 | lst xs=>obtain⟨z,its,n,r,e⟩:=x;exact⟨z,its,n,r,k _ _ (.inl rfl) e⟩
 | tup xs=>obtain⟨z,its,r,ob,e,c⟩:=x;exact⟨z,its,r,ob,k _ _ (.inl rfl) e,c⟩
 | dK kvs=>obtain⟨z,y,vs,r,ob,es,ep,e,c⟩:=x;exact⟨z,y,vs,r,ob,es,ep,k _ _ (.inl rfl) e,c⟩
 | dT kvs=>
  obtain⟨z,y,xs,r,ob,es,ep,e,c⟩:=x
  exact⟨z,y,xs,Paired.mapP r fun p q z=>⟨z.1,ht _ _ z.2.1,z.2.2⟩,ob,es,ep,k _ _ (.inl rfl) e,c⟩
 | set S n=>obtain⟨ob,es,ep,t,e,c⟩:=x;exact⟨ob,es,ep,t,k _ _ (.inl rfl) e,c⟩
 | ins C dx fs=>
  obtain⟨d,z,ne,e,mA,⟨od,es,ep,e2,c⟩,r⟩:=x
  exact⟨ho _ d,z,ne,k _ _ (.inl rfl) e,mA,⟨od,es,ep,k _ _ (.inr d) e2,c⟩,r⟩
 | own y=>obtain⟨ob,e⟩:=x;exact⟨ob,k _ _ (.inl rfl) e⟩
 | xd fs=>obtain⟨mA,⟨od,es,ep,e,c⟩,r⟩:=x;exact⟨mA,⟨od,es,ep,k _ _ (.inl rfl) e,c⟩,r⟩
 | rng lo hi=>obtain⟨t,u,v,e⟩:=x;exact⟨t,u,v,k _ _ (.inl rfl) e⟩
 | frz ob u ih=>obtain⟨e,q⟩:=x;exact⟨k _ _ (.inl rfl) e,ih q⟩
 | tbl ps=>
  have e:h.get? a=some { cls:=.none,data:=.fields ps }:=x
  show h'.get? a=some { cls:=.none,data:=.fields ps }
  exact k a _ (.inl rfl) e
 | met f y=>
  have e:h.get? a=some (PySem.W.methodObj (.ref f) (.ref y)):=x
  show h'.get? a=some (PySem.W.methodObj (.ref f) (.ref y))
  exact k a _ (.inl rfl) e
 | ext φ=>obtain⟨p,⟨o,e⟩,st⟩:=x;exact⟨st _ _ p fun o q=>k _ _ (.inl rfl) q,⟨o,k _ _ (.inl rfl) e⟩,st⟩
theorem HOk.lt (x:HOk P w H h) (e:H a=some o):a<h.objs.size:=(x a o e).lt
theorem HOk.fresh (x:HOk P w H h) (e:h.objs.size<=a):H a=none:=by
 cases q:H a with
 | none=>rfl
 | some u=>exact absurd (Nat.lt_of_lt_of_le (x.lt q) e) (Nat.lt_irrefl _)
theorem HOk.kept (x:HOk P w H h) (k:∀ b u,h.get? b=some u->h'.get? b=some u):HOk P w H h':=fun a o e=>
 (x a o e).stay (fun b u _ q=>k b u q) (fun _ q=>q) fun _ _ q=>q
theorem HOk.laid (x:HOk P w H h) (k:∀ b u,h.get? b=some u->h'.get? b=some u) (hp:h.objs.size<=a) (new:ObjOk P w (upd H a o) h' a o):HOk P w (upd H a o) h':=fun b u e=>by
 have hn:=x.fresh hp
 by_cases hb:b=a
 ·subst hb;rw[Za4] at e;cases e;exact new
 ·rw[Zb8 hb] at e
  exact (x b u e).stay (fun c v _ q=>k c v q) (fun c q=>by rw[Zb8 (Za8 q hn)];exact q) fun c xs q=>by rw[Zb8 (Za8 q hn)];exact q
end
def Rd (H:Hp) (a:Addr) (u:HO):Prop:=H a=some u\/∃ o,H a=some (.frz o u)
theorem Rd.ok {P:Program}{w:World}{H:Hp}{h:Heap}{a:Addr}{u:HO}(r:Rd H a u) (x:HOk P w H h):ObjOk P w H h a u:=by
 rcases r with r | ⟨o,r⟩
 ·exact x a u r
 ·obtain⟨_,q⟩:=x a _ r
  exact q
def Mut:Option HO->Prop
 | some (.lst _)=>True
 | some (.dK _)=>True
 | some (.dT _)=>True
 | some (.set _ _)=>True
 | some (.ins _ _ _)=>True
 | some (.ext _)=>True
 | _=>False
section
variable {P:Program}{w:World}{H:Hp}{h h':Heap}{x e:Addr}{o':HO}
theorem HOk.write (ok:HOk P w H h) (mu:Mut (H x)) (he:e=x\/H e=some (.own x)) (k:∀ b u,b≠e->h.get? b=some u->h'.get? b=some u) (heo:∃ u,h'.get? e=some u)
  (new:ObjOk P w (upd H x o') h' x o'):HOk P w (upd H x o') h':=fun b u q=>by
 have nown:∀ c y,H c=some (.own y)->c≠x:=fun c y r z=>by subst z;rw[r] at mu;exact mu
 have ntup:∀ c xs,H c=some (.tup xs)->c≠x:=fun c xs r z=>by subst z;rw[r] at mu;exact mu
 by_cases hb:b=x
 ·subst hb;rw[Za4] at q;cases q;exact new
 ·rw[Zb8 hb] at q
  by_cases hbe:b=e
  ·have q':H b=some (.own x):=by
    rcases he with z | z
    ·exact absurd (hbe.trans z) hb
    ·rw[hbe];exact z
   rw[q] at q';cases q'
   obtain⟨v,hv⟩:=heo
   exact⟨v,by rw[hbe];exact hv⟩
  ·refine (ok b u q).stay (fun c v hc r=>k c v ?_ r) (fun c r=>by rw[Zb8 (nown c b r)];exact r) fun c xs r=>by rw[Zb8 (ntup c xs r)];exact r
   rcases hc with rfl | hc
   ·exact hbe
   ·rintro rfl
    rcases he with z | z
    ·exact nown c b hc z
    ·rw[hc] at z;cases z;exact hb rfl
end
structure Un (fs ex:List Addr) (H H':Hp) (h h':Heap):Prop where
 keep:∀ b o,h.get? b=some o->H b=none->b∉fs->b∉ex->h'.get? b=some o
 slot:∀ b o,h.get? b=some o->H b=none->b∈fs->b∉ex->∃ sl,h'.get? b=some { o with slots:=sl }
 free:∀ b o,h.get? b=some o->H b=none->b∉ex->H' b=none
 there:∀ b o,h.get? b=some o->b∉ex->∃ o',h'.get? b=some o'
 tups:∀ b xs,H b=some (.tup xs)->H' b=some (.tup xs)
 frzs:∀ b o u,H b=some (.frz o u)->H' b=some (.frz o u)
 tbls:∀ b ps,H b=some (.tbl ps)->∃ more,H' b=some (.tbl (ps++more))
section
variable {fs fs' ex ex':List Addr}{H H1 H2:Hp}{h h1 h2 h':Heap}{a x e:Addr}{o:HO}
theorem Un.any (u:Un fs ex H H1 h h1) {b:Addr}{ob:Obj}(q:h.get? b=some ob) (n:H b=none) (hx:b∉ex):∃ sl,h1.get? b=some { ob with slots:=sl }:=by
 by_cases hb:b∈fs
 ·exact u.slot b ob q n hb hx
 ·exact⟨ob.slots,u.keep b ob q n hb hx⟩
theorem Un.kept (k:∀ b u,h.get? b=some u->h'.get? b=some u):Un fs ex H H h h':=
 ⟨fun b ob q _ _ _=>k b ob q,fun b ob q _ _ _=>⟨ob.slots,k b ob q⟩,fun _ _ _ n _=>n,fun b ob q _=>⟨ob,k b ob q⟩,fun _ _ q=>q,fun _ _ _ q=>q,fun _ ps q=>⟨#[],by rw[q];simp⟩⟩
theorem Un.refl:Un fs ex H H h h:=Un.kept fun _ _ q=>q
theorem Un.laid (k:∀ b u,h.get? b=some u->h'.get? b=some u) (hp:h.objs.size<=a) (hn:H a=none):Un fs ex H (upd H a o) h h' where
 keep:=fun b u q _ _ _=>k b u q
 slot:=fun b u q _ _ _=>⟨u.slots,k b u q⟩
 free:=fun b u q n _=>by rw[Zb8 (Nat.ne_of_lt (Nat.lt_of_lt_of_le (Heap.lt_size q) hp))];exact n
 there:=fun b u q _=>⟨u,k b u q⟩
 tups:=fun b xs q=>by rw[Zb8 (Za8 q hn)];exact q
 frzs:=fun b u xs q=>by rw[Zb8 (Za8 q hn)];exact q
 tbls:=fun b ps q=>⟨#[],by rw[Zb8 (Za8 q hn),q];simp⟩
theorem Un.write (mu:Mut (H x)) (he:e=x\/H e=some (.own x)) (k:∀ b u,b≠e->h.get? b=some u->h'.get? b=some u) (heo:∃ u,h'.get? e=some u):Un fs ex H (upd H x o) h h':=by
 have hx:∀ b,H b=none->b≠x:=fun b n z=>by subst z;rw[n] at mu;exact mu
 have hb:∀ b,H b=none->b≠e:=fun b n z=>by
  subst z
  rcases he with r | r
  ·exact hx b n r
  ·rw[n] at r;cases r
 have hm:∀ b u,H b=some u->¬Mut (some u)->b≠x:=fun b u q nm z=>by subst z;rw[q] at mu;exact nm mu
 refine⟨fun b u q n _ _=>k b u (hb b n) q,fun b u q n _ _=>⟨u.slots,k b u (hb b n) q⟩,fun b u q n _=>by rw[Zb8 (hx b n)];exact n,fun b u q _=>?_,
  fun b xs q=>by rw[Zb8 (hm b _ q fun z=>z)];exact q,fun b u xs q=>by rw[Zb8 (hm b _ q fun z=>z)];exact q,fun b ps q=>⟨#[],by rw[Zb8 (hm b _ q fun z=>z),q];simp⟩⟩
 by_cases hbe:b=e
 ·subst hbe;exact heo
 ·exact⟨u,k b u hbe q⟩
end
def trk (h:Heap) (H:Hp):List Addr:=(List.range h.objs.size).filter fun a=>(H a).isSome
def hidT (h:Heap) (H:Hp):Heap:=PySem.W.hideAll h (trk h H)
theorem hidT_size (h:Heap) (H:Hp):(hidT h H).objs.size=h.objs.size:=PySem.W.hideAll_size _ _
theorem hidT_get {h:Heap}{H:Hp}{b:Addr}{o:Obj}(e:h.get? b=some o) (n:H b=none):(hidT h H).get? b=some o:=
 PySem.W.hideAll_get _ e fun hm=>by
  have q:(H b).isSome=true:=(List.mem_filter.mp hm).2
  rw[n] at q;simp at q
theorem of_hidT {h:Heap}{H:Hp}{b:Addr}{o:Obj}(e:(hidT h H).get? b=some o):h.get? b=some o/\H b=none:=by
 have e':h.get? b=some o:=PySem.W.of_hideAll (trk h H) e
 refine⟨e',?_⟩
 cases q:H b with
 | none=>rfl
 | some x=>
  have hm:b∈trk h H:=List.mem_filter.mpr ⟨List.mem_range.mpr (Heap.lt_size e'),by simp[q]⟩
  have z:(hidT h H).get? b=none:=PySem.W.hideAll_none (trk h H) hm
  rw[z] at e;cases e
def allNews (g h:Heap) (L:Addr):List (Addr×Obj):=(List.range h.objs.size).filterMap fun a=>if a=L\/(g.get? a).isSome=true then none else (h.get? a).map fun o=>(a,o)
def rest (g h:Heap) (L d:Addr):List (Addr×Obj):=(allNews g h L).filter fun p=>decide (p.1≠d)
end L2
namespace L2
open PySem PySem.Spec PyProof.Rows
structure Mod (K:PySem.W.Frag) (mg:Str->Option Value) (base:Heap):Prop where
 kin:K.In base
 glob:base.Ns mainGlobals mg
 blt:∃ mb,base.Ns builtinsNs mb/\∀ x:Str,x≠"__name__" -> mb x=bootBuiltins x
 nolimit:base.NoLimit
structure Cx where
 prog:Program
 w:World
 K:PySem.W.Frag
 mg:Str->Option Value
 base:Heap
 A:Around
 N:List Str
 s₀:Shared
 H₀:Hp
 env:Env
 outer:List Env
 stack:List Env
 ex:List Addr
 fn:Str->Bool
 calm:Bool
 pn:List (Addr×Obj)
 xe:Value->Shared->Prop
def frs (l:List Env):List Addr:=l.filterMap (·.frame)
abbrev Cx.fs (X:Cx):List Addr:=frs X.outer
def Vis (sc:Scope) (x:Str):Prop:=sc.names.lookup x=some .local\/sc.names.lookup x=some .cell\/sc.names.lookup x=some .free
def Loc (sc:Scope) (x:Str):Prop:=sc.names.lookup x=some .local\/sc.names.lookup x=some .cell
def Look (env:Env) (h:Heap) (m:Str->Option Value) (x:Str) (u:Value):Prop:=
 (env.kindOf x=some .local/\m x=some u)\/((env.kindOf x=some .cell\/env.kindOf x=some .free)/\∃ c,env.cells.lookup x=some c/\h.IsCell c (some u))
structure Cx.Ok (X:Cx):Prop where
 mod:Mod X.K X.mg X.base
 kind:X.env.scope.kind = .function
 glob:X.env.globals=mainGlobals
 blt:X.env.builtins=builtinsNs
 above:X.s₀.heap.objs.size<=X.env.locals
 inj:∀ x y c,X.env.cells.lookup x=some c->X.env.cells.lookup y=some c->x=y
 has:∀ x,(X.env.kindOf x=some .cell\/X.env.kindOf x=some .free)->∃ c,X.env.cells.lookup x=some c
 cab:∀ x c,X.fn x=true->X.env.cells.lookup x=some c->X.s₀.heap.objs.size<=c
 hd:X.calm=true->X.A.handled=none
 frames:X.A.frames=some X.stack
 stk:X.stack=X.outer\/(X.stack=X.env::X.outer/\X.env.frame=some X.env.locals)
 exf:∀ b∈X.ex,b≠X.env.locals/\∀ x c,X.env.cells.lookup x=some c->c≠b
 bs:∀ b o,X.base.get? b=some o->X.s₀.heap.get? b=some o/\X.H₀ b=none
 bsz:X.base.objs.size<=X.s₀.heap.objs.size
 noex:∀ b o,X.base.get? b=some o->b∉X.ex
 exfs:∀ b∈X.ex,b∉X.fs
 funs:X.s₀.heap.FunFrames X.base X.outer
 frf:∀ b∈X.fs,X.H₀ b=none
structure Inv (X:Cx) (pins:List (Addr×Obj)) (σ:List (Option V)) (H:Hp) (s:Shared):Prop where
 ok:X.Ok
 os:s.os=X.s₀.os
 bare:AllBare s.gens
 base:Un X.fs X.ex X.H₀ H X.s₀.heap s.heap
 loc:∃ m,s.heap.Ns X.env.locals m/\∀ (i:Nat) (x:Str) (v:V),X.N[i]? = some x->σ[i]? = some (some v)->Vis X.env.scope x->∃ u,RelV v u/\Look X.env s.heap m x u
 cell:∀ x c,X.env.cells.lookup x=some c->∃ v,s.heap.IsCell c v
 free:H X.env.locals=none
 freeC:∀ x c,X.env.cells.lookup x=some c->H c=none
 pin:∀ p∈X.pn++pins,s.heap.get? p.1=some p.2/\H p.1=none/\p.1≠X.env.locals/\p.1∉X.fs/\∀ v,p.2.data ≠ .cell v
 hok:HOk X.prog X.w H s.heap
 len:σ.length=X.N.length
section
variable {X:Cx}{pins:List (Addr×Obj)}{σ:List (Option V)}{H H':Hp}{s:Shared}{h':Heap}
theorem Cx.Ok.nofr (ok:X.Ok) {b:Addr}{o:Obj}(e:X.base.get? b=some o):b∉X.fs:=fun hb=>by
 have:=(ok.funs.mem hb).1
 rw[e] at this;cases this
theorem Inv.bs (I:Inv X pins σ H s):∀ b o,X.base.get? b=some o->s.heap.get? b=some o/\H b=none:=fun b o e=>
 ⟨I.base.keep b o (I.ok.bs b o e).1 (I.ok.bs b o e).2 (I.ok.nofr e) (I.ok.noex b o e),I.base.free b o (I.ok.bs b o e).1 (I.ok.bs b o e).2 (I.ok.noex b o e)⟩
theorem Inv.bk (I:Inv X pins σ H s):∀ b o,X.base.get? b=some o->s.heap.get? b=some o:=fun b o e=>(I.bs b o e).1
theorem Inv.mod (I:Inv X pins σ H s):Mod X.K X.mg X.base:=I.ok.mod
theorem Inv.kIn (I:Inv X pins σ H s):X.K.In s.heap:=I.ok.mod.kin.keeps I.bk
theorem Inv.lt (I:Inv X pins σ H s):X.env.locals<s.heap.objs.size:=let ⟨_,hn,_⟩:=I.loc;hn.lt
theorem Inv.sz (I:Inv X pins σ H s):X.s₀.heap.objs.size<=s.heap.objs.size:=Nat.le_trans I.ok.above (Nat.le_of_lt I.lt)
theorem Inv.nofs (I:Inv X pins σ H s) {a:Addr}(h:s.heap.objs.size<=a):a∉X.fs:=fun hb=>by
 obtain⟨_,o,ho,_⟩:=I.ok.funs.mem hb
 exact absurd (Nat.lt_of_lt_of_le (Heap.lt_size ho) (Nat.le_trans I.sz h)) (Nat.lt_irrefl _)
theorem Inv.cne (I:Inv X pins σ H s):∀ x c,X.env.cells.lookup x=some c->c≠X.env.locals:=fun x c e z=>by
 obtain⟨v,o,ho,hd⟩:=I.cell x c e
 obtain⟨m,⟨o',es,ep,ho',hd',_⟩,_⟩:=I.loc
 rw[z,ho'] at ho;cases ho;rw[hd'] at hd;cases hd
theorem Inv.funs (I:Inv X pins σ H s):s.heap.FunFrames X.base X.outer:=by
 have all:∀ (l:List Env),(∀ b∈frs l,b∈X.fs)->X.s₀.heap.FunFrames X.base l->s.heap.FunFrames X.base l:=by
  intro l
  induction l with
  | nil=>intro _ _;trivial
  | cons env r ih=>
   intro hs hl
   obtain⟨hk,⟨L,o,hf,hn,ho,hd⟩,hr⟩:=hl
   have hL:L∈X.fs:=hs L (by unfold frs;rw[List.filterMap_cons,hf];exact List.mem_cons_self)
   obtain⟨sl,e⟩:=I.base.slot L o ho (I.ok.frf L hL) hL fun z=>I.ok.exfs L z hL
   exact⟨hk,⟨L,_,hf,hn,e,hd⟩,ih (fun b hb=>hs b (by unfold frs;rw[List.filterMap_cons,hf];exact List.mem_cons_of_mem _ hb)) hr⟩
 exact all X.outer (fun _ hb=>hb) I.ok.funs
theorem Inv.stack (I:Inv X pins σ H s):s.heap.FunFrames X.base X.stack:=by
 rcases I.ok.stk with e | ⟨e,hf⟩
 ·rw[e];exact I.funs
 ·rw[e]
  obtain⟨m,hn,_⟩:=I.loc
  refine .cons (by rw[I.ok.kind];decide) hf hn ?_ I.funs
  exact Heap.get?_none_of_le (Nat.le_trans I.ok.bsz I.ok.above)
theorem Inv.stkSub (I:Inv X pins σ H s):∀ b∈frs X.stack,b∈X.env.locals::X.fs:=fun b hb=>by
 rcases I.ok.stk with e | ⟨e,hf⟩
 ·rw[e] at hb;exact List.mem_cons_of_mem _ hb
 ·rw[e] at hb
  unfold frs at hb
  rw[List.filterMap_cons,hf] at hb
  exact hb
theorem Inv.stkFree (I:Inv X pins σ H s):∀ b∈frs X.stack,H b=none:=fun b hb=>by
 rcases List.mem_cons.mp (I.stkSub b hb) with e | hb
 ·rw[e];exact I.free
 ·obtain⟨_,o,ho,_⟩:=I.ok.funs.mem hb
  exact I.base.free b o ho (I.ok.frf b hb) fun z=>I.ok.exfs b z hb
theorem Inv.step {g':Array GenState}{t':Nat}{d':Drawn}{ch:List Addr}(I:Inv X pins σ H s)
  (hch:∀ b∈ch,(b∈X.ex\/X.s₀.heap.objs.size<=b)/\b≠X.env.locals/\(∀ x c,X.env.cells.lookup x=some c->c≠b)/\∀ p∈X.pn++pins,p.1≠b)
  (keep:∀ b o,b≠X.env.locals->b∉X.fs->b∉ch->s.heap.get? b=some o->H b=none->h'.get? b=some o)
  (slot:∀ b o,b≠X.env.locals->b∈X.fs->b∉ch->s.heap.get? b=some o->H b=none->∃ sl,h'.get? b=some { o with slots:=sl }) (free:∀ b o,b∉ch->s.heap.get? b=some o->H b=none->H' b=none)
  (there:∀ b o,b∉ch->s.heap.get? b=some o->∃ o',h'.get? b=some o')
  (tups:∀ b xs,H b=some (.tup xs)->H' b=some (.tup xs)) (frzs:∀ b o u,H b=some (.frz o u)->H' b=some (.frz o u)) (tbls:∀ b ps,H b=some (.tbl ps)->∃ more,H' b=some (.tbl (ps++more)))
  (ns:∀ m,s.heap.Ns X.env.locals m->h'.Ns X.env.locals m) (hok:HOk X.prog X.w H' h') (hg:AllBare g') :
  Inv X pins σ H' { s with heap:=h',gens:=g',drawn:=d',toks:=t' }:=by
 have neL:∀ b o,X.s₀.heap.get? b=some o->b≠X.env.locals:=fun b o e=>Nat.ne_of_lt (Nat.lt_of_lt_of_le (Heap.lt_size e) I.ok.above)
 have neC:∀ b o,X.s₀.heap.get? b=some o->b∉X.ex->b∉ch:=fun b o e hx hb=>by
  rcases (hch b hb).1 with z | z
  ·exact hx z
  ·exact absurd (Nat.lt_of_lt_of_le (Heap.lt_size e) z) (Nat.lt_irrefl _)
 have cellK:∀ x c,X.env.cells.lookup x=some c->∀ v,s.heap.IsCell c v->h'.IsCell c v:=fun x c e v ⟨o,ho,hd⟩=>by
  have nch:c∉ch:=fun z=>(hch c z).2.2.1 x c e rfl
  by_cases hc:c∈X.fs
  ·obtain⟨sl,q⟩:=slot c o (I.cne x c e) hc nch ho (I.freeC x c e)
   exact⟨_,q,hd⟩
  ·exact⟨o,keep c o (I.cne x c e) hc nch ho (I.freeC x c e),hd⟩
 refine⟨I.ok,I.os,hg,⟨fun b o e n hb hx=>?_,fun b o e n hb hx=>?_,fun b o e n hx=>?_,fun b o e hx=>?_,fun b xs e=>tups b xs (I.base.tups b xs e),fun b o xs e=>frzs b o xs (I.base.frzs b o xs e),fun b ps e=>?_⟩,?_,fun x c e=>?_,?_,fun x c e=>?_,fun p hp=>?_,hok,I.len⟩
 ·exact keep b o (neL b o e) hb (neC b o e hx) (I.base.keep b o e n hb hx) (I.base.free b o e n hx)
 ·obtain⟨sl,e1⟩:=I.base.slot b o e n hb hx
  obtain⟨sl',e2⟩:=slot b _ (neL b o e) hb (neC b o e hx) e1 (I.base.free b o e n hx)
  exact⟨sl',e2⟩
 ·obtain⟨o',e1⟩:=I.base.there b o e hx
  exact free b o' (neC b o e hx) e1 (I.base.free b o e n hx)
 ·obtain⟨o',e1⟩:=I.base.there b o e hx
  exact there b o' (neC b o e hx) e1
 ·obtain⟨m1,e1⟩:=I.base.tbls b ps e
  obtain⟨m2,e2⟩:=tbls b _ e1
  exact⟨m1++m2,by rw[e2,Array.append_assoc]⟩
 ·obtain⟨m,hn,hl⟩:=I.loc
  refine⟨m,ns m hn,fun i x v e1 e2 e3=>?_⟩
  obtain⟨u,r,l⟩:=hl i x v e1 e2 e3
  refine⟨u,r,?_⟩
  rcases l with l | ⟨k,c,e,z⟩
  ·exact .inl l
  ·exact .inr ⟨k,c,e,cellK x c e _ z⟩
 ·obtain⟨v,z⟩:=I.cell x c e
  exact⟨v,cellK x c e v z⟩
 ·obtain⟨m,⟨o,_,_,ho,_⟩,_⟩:=I.loc
  exact free _ o (fun z=>(hch _ z).2.1 rfl) ho I.free
 ·obtain⟨v,o,ho,hd⟩:=I.cell x c e
  exact free c o (fun z=>(hch c z).2.2.1 x c e rfl) ho (I.freeC x c e)
 ·obtain⟨e,n,ne,nf,d⟩:=I.pin p hp
  have nch:p.1∉ch:=fun z=>(hch p.1 z).2.2.2 p hp rfl
  exact⟨keep p.1 p.2 ne nf nch e n,free p.1 p.2 nch e n,ne,nf,d⟩
theorem Inv.un {t':Nat}(I:Inv X pins σ H s) (u:Un X.fs [] H H' s.heap h') (hok:HOk X.prog X.w H' h'):Inv X pins σ H' { s with heap:=h',toks:=t' }:=by
 obtain⟨m,⟨o,es,ep,ho,r⟩,_⟩:=id I.loc
 obtain⟨sl,hL⟩:=u.any ho I.free (by simp)
 exact I.step (g':=s.gens) (d':=s.drawn) (ch:=[]) (fun _ z=>nomatch z) (fun b o _ hb _ e n=>u.keep b o e n hb (by simp)) (fun b o _ hb _ e n=>u.slot b o e n hb (by simp)) (fun b o _ e n=>u.free b o e n (by simp)) (fun b o _ e=>u.there b o e (by simp)) u.tups u.frzs u.tbls (fun m' hm=>by
  obtain⟨o',es',ep',ho',r'⟩:=hm
  rw[ho] at ho';cases ho'
  exact⟨_,es',ep',hL,r'⟩) hok I.bare
theorem Inv.call {g':Array GenState}{t':Nat}{d':Drawn}{ch:List Addr}(I:Inv X pins σ H s) (u:Un (frs X.stack) ch H H' s.heap h') (hok:HOk X.prog X.w H' h') (hg:AllBare g')
  (hch:∀ b∈ch,(b∈X.ex\/X.s₀.heap.objs.size<=b)/\b≠X.env.locals/\(∀ x c,X.env.cells.lookup x=some c->c≠b)/\∀ p∈X.pn++pins,p.1≠b) :
  Inv X pins σ H' { s with heap:=h',gens:=g',drawn:=d',toks:=t' }:=by
 obtain⟨m,⟨o,es,ep,ho,r⟩,_⟩:=id I.loc
 obtain⟨sl,hL⟩:=u.any ho I.free fun z=>(hch _ z).2.1 rfl
 exact I.step (ch:=ch) hch (fun b o hL hb hc e n=>u.keep b o e n (fun z=>(List.mem_cons.mp (I.stkSub b z)).elim hL hb) hc) (fun b o _ _ hc e n=>u.any e n hc) (fun b o hc e n=>u.free b o e n hc) (fun b o hc e=>u.there b o e hc) u.tups u.frzs u.tbls (fun m' hm=>by
  obtain⟨o',es',ep',ho',r'⟩:=hm
  rw[ho] at ho';cases ho'
  exact⟨_,es',ep',hL,r'⟩) hok hg
theorem Inv.turned {t':Nat}{it:Addr}(I:Inv X pins σ H s) (k:∀ b o,b≠it->s.heap.get? b=some o->h'.get? b=some o) (hn:H it=none) (hL:it≠X.env.locals)
  (h1:it∈X.ex\/X.s₀.heap.objs.size<=it) (h2:∀ x c,X.env.cells.lookup x=some c->c≠it) (h3:∀ p∈X.pn++pins,p.1≠it):Inv X pins σ H { s with heap:=h',toks:=t' }:=by
 have nit:∀ b u,H b=some u->b≠it:=fun b u e z=>by rw[z,hn] at e;cases e
 refine I.step (g':=s.gens) (d':=s.drawn) (ch:=[it]) (fun b hb=>?_) (fun b o _ _ hc e _=>k b o (fun z=>hc (by simp[z])) e) (fun b o _ _ hc e _=>⟨o.slots,k b o (fun z=>hc (by simp[z])) e⟩) (fun _ _ _ _ n=>n)
  (fun b o hc e=>⟨o,k b o (fun z=>hc (by simp[z])) e⟩) (fun _ _ e=>e) (fun _ _ _ e=>e) (fun b ps e=>⟨#[],by rw[e];simp⟩) (fun m hm=>?_) (fun b u e=>?_) I.bare
 ·have e:b=it:=by simpa using hb
  subst e
  exact⟨h1,hL,h2,h3⟩
 ·obtain⟨o,es,ep,ho,r⟩:=hm
  exact⟨o,es,ep,k _ o (Ne.symm hL) ho,r⟩
 ·refine (I.hok b u e).stay (fun c v hc q=>k c v ?_ q) (fun _ q=>q) fun _ _ q=>q
  rcases hc with z | z
  ·rw[z];exact nit b u e
  ·exact nit c _ z
theorem Inv.tok (I:Inv X pins σ H s) (t:Nat):Inv X pins σ H { s with toks:=t }:=I.un (h':=s.heap) (t':=t) Un.refl I.hok
theorem Inv.kept {t':Nat}(I:Inv X pins σ H s) (k:∀ b u,s.heap.get? b=some u->h'.get? b=some u):Inv X pins σ H { s with heap:=h',toks:=t' }:=I.un (Un.kept k) (I.hok.kept k)
theorem Inv.laid {a:Addr}{o:HO}{t':Nat}(I:Inv X pins σ H s) (k:∀ b u,s.heap.get? b=some u->h'.get? b=some u) (hp:s.heap.objs.size<=a) (new:ObjOk X.prog X.w (upd H a o) h' a o) :
  Inv X pins σ (upd H a o) { s with heap:=h',toks:=t' }:=I.un (Un.laid k hp (I.hok.fresh hp)) (I.hok.laid k hp new)
theorem Inv.write {x e:Addr}{o:HO}{t':Nat}(I:Inv X pins σ H s) (mu:Mut (H x)) (he:e=x\/H e=some (.own x)) (k:∀ b u,b≠e->s.heap.get? b=some u->h'.get? b=some u) (heo:∃ u,h'.get? e=some u)
  (new:ObjOk X.prog X.w (upd H x o) h' x o):Inv X pins σ (upd H x o) { s with heap:=h',toks:=t' }:=I.un (Un.write mu he k heo) (I.hok.write mu he k heo new)
theorem Inv.pins_of {pins':List (Addr×Obj)}(I:Inv X pins σ H s) (h:∀ p∈pins',s.heap.get? p.1=some p.2/\H p.1=none/\p.1≠X.env.locals/\p.1∉X.fs/\∀ v,p.2.data ≠ .cell v):Inv X pins' σ H s:=
 ⟨I.ok,I.os,I.bare,I.base,I.loc,I.cell,I.free,I.freeC,fun p hp=>(List.mem_append.mp hp).elim (fun z=>I.pin p (List.mem_append_left _ z)) (h p),I.hok,I.len⟩
theorem nodup_ix {N:List Str}(hN:N.Nodup) {i j:Nat}{x:Str}(a:N[i]? = some x) (b:N[j]? = some x):i=j:=by
 obtain⟨h1,e1⟩:=List.getElem?_eq_some_iff.mp a
 obtain⟨h2,e2⟩:=List.getElem?_eq_some_iff.mp b
 exact (List.getElem_inj hN).mp (e1.trans e2.symm)
theorem store_ok2 {M:Model}{A:Around}{E:Value->Shared->Prop}{i:Nat}{x:Str}{v:V}{u:Value}{Q:Unit->Shared->Prop}(I:Inv X pins σ H s) (hN:X.N.Nodup) (hi:X.N[i]? = some x) (hx:Loc X.env.scope x) (r:RelV v u)
  (h:∀ s',Inv X pins (σ.set i (some v)) H s'->(∃ a,Heap.SameBut a s.heap s'.heap/\(a=X.env.locals\/X.env.cells.lookup x=some a))->Q () s') (hf:X.fn x=true\/X.env.scope.names.lookup x=some .local:=by first | exact .inl rfl | exact .inr rfl | assumption):wpAny M A (storeName X.env x u) Q E s:=by
 obtain⟨m,hn,hl⟩:=id I.loc
 have hcls:(X.env.scope.kind == .class || (X.env.scope.kind == .module&&X.env.locals != X.env.globals))=false:=by rw[I.ok.kind];rfl
 have hiσ:i<σ.length:=by rw[I.len];exact (List.getElem?_eq_some_iff.mp hi).1
 have cne:=I.cne
 have tracked:∀ {a:Addr} {h':Heap},(∃ o,s.heap.get? a=some o/\H a=none)->Heap.SameBut a s.heap h'->HOk X.prog X.w H h':=fun {a h'} ha hs b ob e=>by
  obtain⟨_,_,hfree⟩:=ha
  refine (I.hok b ob e).stay (fun c w' hc q=>(hs.2 c ?_).trans q) (fun _ q=>q) fun _ _ q=>q
  rintro rfl
  rcases hc with rfl | hc
  ·rw[hfree] at e;cases e
  ·rw[hfree] at hc;cases hc
 rcases hx with hk | hk
 ·refine wpAny_storeName_local hk hn (fun h' hn' hs=>?_) hcls
  obtain⟨oL,_,_,hoL,_⟩:=id hn
  refine h _ ⟨I.ok,I.os,I.bare,⟨fun b o e n hb hx=>?_,fun b o e n hb hx=>?_,I.base.free,fun b o e hx=>?_,I.base.tups,I.base.frzs,I.base.tbls⟩,⟨_,hn',fun j y v' e1 e2 e3=>?_⟩,fun y c e=>?_,I.free,I.freeC,fun p hp=>?_,tracked ⟨oL,hoL,I.free⟩ hs,by simpa using I.len⟩ ⟨_,hs,.inl rfl⟩
  ·exact (hs.2 b (Nat.ne_of_lt (Nat.lt_of_lt_of_le (Heap.lt_size e) I.ok.above))).trans (I.base.keep b o e n hb hx)
  ·obtain⟨sl,e1⟩:=I.base.slot b o e n hb hx
   exact⟨sl,(hs.2 b (Nat.ne_of_lt (Nat.lt_of_lt_of_le (Heap.lt_size e) I.ok.above))).trans e1⟩
  ·obtain⟨o',e1⟩:=I.base.there b o e hx
   exact⟨o',(hs.2 b (Nat.ne_of_lt (Nat.lt_of_lt_of_le (Heap.lt_size e) I.ok.above))).trans e1⟩
  ·by_cases hj:j=i
   ·subst hj
    rw[hi] at e1;cases e1
    rw[List.getElem?_set_self hiσ] at e2
    cases e2
    exact⟨u,r,.inl ⟨hk,by simp⟩⟩
   ·rw[List.getElem?_set_ne (Ne.symm hj)] at e2
    obtain⟨u',r',q⟩:=hl j y v' e1 e2 e3
    refine⟨u',r',?_⟩
    rcases q with⟨k,e⟩ | ⟨k,c,e,z⟩
    ·refine .inl ⟨k,?_⟩
     have:y≠x:=fun e=>hj (nodup_ix hN e1 (e▸hi))
     simp[this,e]
    ·exact .inr ⟨k,c,e,z.sameBut hs (cne y c e)⟩
  ·obtain⟨w',z⟩:=I.cell y c e
   exact⟨w',z.sameBut hs (cne y c e)⟩
  ·obtain⟨e,n,ne,nf,d⟩:=I.pin p hp
   exact⟨(hs.2 p.1 ne).trans e,n,ne,nf,d⟩
 ·have hfn:X.fn x=true:=by
   rcases hf with z | z
   ·exact z
   ·rw[z] at hk;cases hk
  obtain⟨c,hc⟩:=I.ok.has x (.inl hk)
  obtain⟨w',z⟩:=I.cell x c hc
  refine wpAny_storeName_cell I.ok.kind hk hc z (fun h' hc' hs=>?_)
  obtain⟨oc,hoc,hocd⟩:=id z
  refine h { s with heap:=h' } ⟨I.ok,I.os,I.bare,⟨fun b o e n hb hx=>?_,fun b o e n hb hx=>?_,I.base.free,fun b o e hx=>?_,I.base.tups,I.base.frzs,I.base.tbls⟩,⟨m,hn.sameBut hs (Ne.symm (cne x c hc)),fun j y v' e1 e2 e3=>?_⟩,fun y c' e=>?_,I.free,I.freeC,fun p hp=>?_,tracked ⟨oc,hoc,I.freeC x c hc⟩ hs,by simpa using I.len⟩ ⟨c,hs,.inr hc⟩
  ·exact (hs.2 b (Nat.ne_of_lt (Nat.lt_of_lt_of_le (Heap.lt_size e) (I.ok.cab x c hfn hc)))).trans (I.base.keep b o e n hb hx)
  ·obtain⟨sl,e1⟩:=I.base.slot b o e n hb hx
   exact⟨sl,(hs.2 b (Nat.ne_of_lt (Nat.lt_of_lt_of_le (Heap.lt_size e) (I.ok.cab x c hfn hc)))).trans e1⟩
  ·obtain⟨o',e1⟩:=I.base.there b o e hx
   exact⟨o',(hs.2 b (Nat.ne_of_lt (Nat.lt_of_lt_of_le (Heap.lt_size e) (I.ok.cab x c hfn hc)))).trans e1⟩
  ·by_cases hj:j=i
   ·subst hj
    rw[hi] at e1;cases e1
    rw[List.getElem?_set_self hiσ] at e2
    cases e2
    exact⟨u,r,.inr ⟨.inl hk,c,hc,hc'⟩⟩
   ·rw[List.getElem?_set_ne (Ne.symm hj)] at e2
    obtain⟨u',r',q⟩:=hl j y v' e1 e2 e3
    refine⟨u',r',?_⟩
    rcases q with q | ⟨k,c',e,z'⟩
    ·exact .inl q
    ·refine .inr ⟨k,c',e,z'.sameBut hs ?_⟩
     rintro rfl
     exact hj (nodup_ix hN e1 (I.ok.inj _ _ _ e hc▸hi))
  ·by_cases hcc:c'=c
   ·subst hcc;exact⟨_,hc'⟩
   ·obtain⟨w2,z2⟩:=I.cell y c' e
    exact⟨w2,z2.sameBut hs hcc⟩
  ·obtain⟨e,n,ne,nf,d⟩:=I.pin p hp
   refine⟨(hs.2 p.1 ?_).trans e,n,ne,nf,d⟩
   intro q
   rw[q,hoc] at e
   have q':oc=p.2:=Option.some.inj e
   exact d w' (by rw[←q'];exact hocd)
theorem store_ok {M:Model}{A:Around}{E:Value->Shared->Prop}{i:Nat}{x:Str}{v:V}{u:Value}{Q:Unit->Shared->Prop}(I:Inv X pins σ H s) (hN:X.N.Nodup) (hi:X.N[i]? = some x) (hx:Loc X.env.scope x) (r:RelV v u)
  (h:∀ s',Inv X pins (σ.set i (some v)) H s'->Q () s') (hf:X.fn x=true\/X.env.scope.names.lookup x=some .local:=by first | exact .inl rfl | exact .inr rfl | assumption):wpAny M A (storeName X.env x u) Q E s:=
 store_ok2 I hN hi hx r (fun s' I' _=>h s' I') hf
theorem Inv.call' {s':Shared}{ch:List Addr}(I:Inv X pins σ H s) (ho:s'.os=s.os) (u:Un (frs X.stack) ch H H' s.heap s'.heap) (hok:HOk X.prog X.w H' s'.heap) (hg:AllBare s'.gens)
  (hch:∀ b∈ch,(b∈X.ex\/X.s₀.heap.objs.size<=b)/\b≠X.env.locals/\(∀ x c,X.env.cells.lookup x=some c->c≠b)/\∀ p∈X.pn++pins,p.1≠b):Inv X pins σ H' s':=by
 obtain⟨h',g',d',t',o'⟩:=s'
 have e:o'=s.os:=ho
 subst e
 exact I.call (g':=g') (t':=t') (d':=d') u hok hg hch
end
abbrev XK:=Value->Option Addr->Hp->Prop
abbrev St:=List (Option V)
abbrev VK:=V->Hp->Prop
abbrev TE:=St->Hp->VK->Prop
abbrev TT:=St->Hp->(Bool->Hp->Prop)->Prop
abbrev TA:=St->Hp->(List V->Hp->Prop)->Prop
structure Ends where
 nx:St->Hp->Prop
 rt:VK
 bk:St->Hp->Prop:=fun _ _=>False
 ct:St->Hp->Prop:=fun _ _=>False
abbrev TS:=Ends->St->Hp->Prop
def EP (X:Cx) (pins:List (Addr×Obj)) (σ:St) (Q:VK) (u:Value) (s':Shared):Prop:=∃ v H',Inv X pins σ H' s'/\RelV v u/\Q v H'
def TP (X:Cx) (pins:List (Addr×Obj)) (σ:St) (Q:Bool->Hp->Prop) (b:Bool) (s':Shared):Prop:=∃ H',Inv X pins σ H' s'/\Q b H'
def AP (X:Cx) (pins:List (Addr×Obj)) (σ:St) (Q:List V->Hp->Prop) (us:List Value) (s':Shared):Prop:=∃ vs H',Inv X pins σ H' s'/\Vals vs us/\Q vs H'
def SP (X:Cx) (pins:List (Addr×Obj)) (D:Ends) (f:Flow) (s':Shared):Prop:=
 match f with
 | .next=>∃ σ' H',Inv X pins σ' H' s'/\D.nx σ' H'
 | .brk=>∃ σ' H',Inv X pins σ' H' s'/\D.bk σ' H'
 | .cont=>∃ σ' H',Inv X pins σ' H' s'/\D.ct σ' H'
 | .ret u=>∃ v σ' H',Inv X pins σ' H' s'/\RelV v u/\D.rt v H'
def PE (X:Cx) (e:Expr) (t:TE):Prop:=
 ∀ (pins:List (Addr×Obj)) (s:Shared) (σ:St) (H:Hp) (Q:VK),Inv X pins σ H s->t σ H Q->wpAny (model X.prog X.w) X.A (eval e X.env) (EP X pins σ Q) X.xe s
def PT (X:Cx) (e:Expr) (t:TT):Prop:=
 ∀ (pins:List (Addr×Obj)) (s:Shared) (σ:St) (H:Hp) (Q:Bool->Hp->Prop),Inv X pins σ H s->t σ H Q->wpAny (model X.prog X.w) X.A (isTrue e X.env (eval e X.env)) (TP X pins σ Q) X.xe s
def PW (X:Cx) (e:Expr) (t:TT):Prop:=
 ∀ (whole:Sem Value) (pins:List (Addr×Obj)) (s:Shared) (σ:St) (H:Hp) (Q:Bool->Hp->Prop),Inv X pins σ H s->t σ H Q->wpAny (model X.prog X.w) X.A (isTrue e X.env whole) (TP X pins σ Q) X.xe s
theorem PW.pt {X:Cx}{e:Expr}{t:TT}(h:PW X e t):PT X e t:=h _
def PA (X:Cx) (es:List Expr) (t:TA):Prop:=
 ∀ (pos:Pos) (pins:List (Addr×Obj)) (s:Shared) (σ:St) (H:Hp) (Q:List V->Hp->Prop),Inv X pins σ H s->t σ H Q->wpAny (model X.prog X.w) X.A (spliced (backTo pos (starEach es X.env))) (AP X pins σ Q) X.xe s
def PS (X:Cx) (st:Stmt) (t:TS):Prop:=
 ∀ (pins:List (Addr×Obj)) (s:Shared) (σ:St) (H:Hp) (D:Ends),Inv X pins σ H s->t D σ H->wpAny (model X.prog X.w) X.A (exec st X.env) (SP X pins D) X.xe s
def PSs (X:Cx) (st:List Stmt) (t:TS):Prop:=
 ∀ (pins:List (Addr×Obj)) (s:Shared) (σ:St) (H:Hp) (D:Ends),Inv X pins σ H s->t D σ H->wpAny (model X.prog X.w) X.A (execs st X.env) (SP X pins D) X.xe s
theorem thn {α:Type}{t:Sem α}{Q Q':α->Shared->Prop}{M:Model}{A:Around}{E:Value->Shared->Prop}{s:Shared}(h:wpAny M A t Q E s) (hQ:∀ a s,Q a s->Q' a s):wpAny M A t Q' E s:=wpAny_mono h hQ fun _ _ x=>x
end L2
namespace L2
open PySem PySem.Spec PyProof.Rows
section
variable {X:Cx}
def tVar (i:Nat):TE:=fun σ H Q=>∃ v,σ[i]? = some (some v)/\Q v H
def tC (v:V):TE:=fun _ H Q=>Q v H
theorem pe_var {i:Nat}{x:Str}{pos:Pos}(hN:X.N[i]? = some x) (hv:Vis X.env.scope x) (hd:(x==("__debug__" : Str))=false:=by decide) (hcd:(x==("__classdict__" : Str))=false:=by decide):PE X (.Name x pos) (tVar i):=by
 intro pins s σ H Q I h
 obtain⟨v,e,h⟩:=h
 obtain⟨m,hn,hl⟩:=I.loc
 obtain⟨u,r,l⟩:=hl i x v hN e hv
 have fin:EP X pins σ Q u s:=⟨v,H,I,r,h⟩
 rcases l with⟨hk,hm⟩ | ⟨hk,c,hc,hcell⟩
 ·exact wpAny_Name (wpAny_loadName_local I.ok.kind hk hn hm fin) hd
 ·rcases hk with hk | hk
  ·exact wpAny_Name (wpAny_loadName_cell I.ok.kind hk hc hcell fin) hd
  ·exact wpAny_Name (wpAny_loadName_free I.ok.kind hk hc hcell fin hcd) hd
theorem Za3 {i j pos}:PE X (.Constant (.int i) j pos) (tC (.int i)):=fun _ _ _ H _ I h=>wpAny_Constant_int ⟨.int i,H,I.tok _,⟨_,rfl⟩,h⟩
theorem pe_bl {b j pos}:PE X (.Constant (.bool b) j pos) (tC (.bl b)):=fun _ _ _ H _ I h=>Constant_bool ⟨.bl b,H,I,rfl,h⟩
theorem pe_non {j pos}:PE X (.Constant .none j pos) (tC .non):=fun _ _ _ H _ I h=>Constant_none ⟨.non,H,I,rfl,h⟩
theorem Zc7 {x j pos}:PE X (.Constant (.str x) j pos) (tC (.str x)):=fun _ _ _ H _ I h=>Calls.Constant_str ⟨.str x,H,I.tok _,⟨_,rfl⟩,h⟩
def Gl (X:Cx) (x:Str):Prop:=X.env.kindOf x=some .globalImplicit
theorem ld_glob {E:Value->Shared->Prop}{pins:List (Addr×Obj)}{s:Shared}{σ:St}{H:Hp}{x:Str}{u:Value}{pos:Pos}{Q:Value->Shared->Prop}(I:Inv X pins σ H s) (hg:Gl X x) (hm:X.mg x=some u) (h:Q u s)
  (hd:(x==("__debug__" : Str))=false:=by decide):wpAny (model X.prog X.w) X.A (eval (.Name x pos) X.env) Q E s:=
 Calls.Name_function_global I.ok.kind hg (Calls.loadGlobal_global (by rw[I.ok.glob];exact I.mod.glob.keeps I.bk) hm h) hd
theorem ld_blt {E:Value->Shared->Prop}{pins:List (Addr×Obj)}{s:Shared}{σ:St}{H:Hp}{x:Str}{u:Value}{pos:Pos}{Q:Value->Shared->Prop}(I:Inv X pins σ H s) (hg:Gl X x) (hm:X.mg x=none) (hv:bootBuiltins x=some u) (h:Q u s)
  (hn:x≠"__name__":=by decide) (hd:(x==("__debug__" : Str))=false:=by decide):wpAny (model X.prog X.w) X.A (eval (.Name x pos) X.env) Q E s:=by
 obtain⟨mb,h1,h2⟩:=I.mod.blt
 exact Calls.Name_function_global I.ok.kind hg (Calls.loadGlobal_builtin (by rw[I.ok.glob];exact I.mod.glob.keeps I.bk) hm (by rw[I.ok.blt];exact h1.keeps I.bk) ((h2 x hn).trans hv) h) hd
theorem pe_glob {x:Str}{v:V}{u:Value}{pos:Pos}(hg:Gl X x) (hm:X.mg x=some u) (r:RelV v u) (hd:(x==("__debug__" : Str))=false:=by decide):PE X (.Name x pos) (tC v):=
 fun _ _ _ H _ I h=>ld_glob I hg hm ⟨v,H,I,r,h⟩ hd
theorem pe_bltn {x:Str}{v:V}{u:Value}{pos:Pos}(hg:Gl X x) (hm:X.mg x=none) (hv:bootBuiltins x=some u) (r:RelV v u) (hn:x≠"__name__":=by decide) (hd:(x==("__debug__" : Str))=false:=by decide):PE X (.Name x pos) (tC v):=
 fun _ _ _ H _ I h=>ld_blt I hg hm hv ⟨v,H,I,r,h⟩ hn hd
variable {a b:Expr}{ta tb:TE}{pos:Pos}
def PC (X:Cx) (op:CmpOp) (a b:Expr) (t:TE):Prop:=
 ∀ (pins:List (Addr×Obj)) (s:Shared) (σ:St) (H:Hp) (Q:VK),Inv X pins σ H s->t σ H Q ->
  wpAny (model X.prog X.w) X.A (eval a X.env) (fun v s₁=>wpAny (model X.prog X.w) X.A (eval b X.env) (fun u s₂=>wpAny (model X.prog X.w) X.A (compareOp op v u) (EP X pins σ Q) X.xe s₂) X.xe s₁) X.xe s
theorem nobehind (b:Expr) {op:CmpOp}(h:op ≠ .In) (h2:op ≠ .NotIn):behindInMarks op b=false:=by
 have e1:(op==CmpOp.In)=false:=by cases op <;> first | rfl | exact absurd rfl h
 have e2:(op==CmpOp.NotIn)=false:=by cases op <;> first | rfl | exact absurd rfl h2
 cases b <;> simp[behindInMarks,e1,e2]
def tIsN (ta:TE):TE:=fun σ H Q=>ta σ H fun x H1=>Q (.bl (decide (x = .non))) H1
def tNotN (ta:TE):TE:=fun σ H Q=>ta σ H fun x H1=>Q (.bl (!decide (x = .non))) H1
theorem RelV.none_iff {x:V}{v:Value}(r:RelV x v):(v==Value.none)=decide (x = .non):=by
 cases x with
 | non=>cases r;rfl
 | bl _=>cases r;rfl
 | int _=>obtain⟨t,rfl⟩:=r;rfl
 | str _=>obtain⟨t,rfl⟩:=r;rfl
 | byt _=>obtain⟨t,rfl⟩:=r;rfl
 | flt _=>obtain⟨t,rfl⟩:=r;rfl
 | ref _=>cases r;rfl
 | ty _=>cases r;rfl
theorem pc_isN {j pos'}(ha:PE X a ta):PC X .Is a (.Constant .none j pos') (tIsN ta):=by
 intro pins s σ H Q I h
 refine thn (ha pins s σ H _ I h) fun v s1 ⟨x,H1,I1,r1,q1⟩=>?_
 exact Constant_none (is_none_gen ⟨.bl _,H1,I1,by rw[r1.none_iff];rfl,q1⟩)
theorem pc_notN {j pos'}(ha:PE X a ta):PC X .IsNot a (.Constant .none j pos') (tNotN ta):=by
 intro pins s σ H Q I h
 refine thn (ha pins s σ H _ I h) fun v s1 ⟨x,H1,I1,r1,q1⟩=>?_
 exact Constant_none (isnot_none_gen ⟨.bl _,H1,I1,by rw[r1.none_iff];rfl,q1⟩)
def tB (t:TE):TT:=fun σ H Q=>t σ H fun x H1=>∃ c,x = .bl c/\Q c H1
theorem pt_cmp {op:CmpOp}{t:TE}(h:PC X op a b t) (h1:behindInMarks op b=false:=by first | exact nobehind _ ⋯ ⋯ | rfl):PT X (.Compare a [op] [b] pos) (tB t):=by
 intro pins s σ H Q I hw
 refine wpAny_isTrue_Compare1 (thn (h pins s σ H _ I hw) fun v s1 h1=>thn h1 fun u s2 h2=>thn h2 fun c s3 ⟨x,H1,I1,r1,q1⟩=>?_) h1
 obtain⟨d,rfl,q⟩:=q1
 cases r1
 exact wpAny_truthy_bool ⟨H1,I1,q⟩
theorem pt_val {e:Expr}{t:TE}(h:PE X e t) (he:∀ whole,isTrue e X.env whole=(do let v←whole;standAt e.pos;holding [v] (truthy v)):=by intro _;rfl):PT X e (tB t):=by
 intro pins s σ H Q I hw
 refine isTrue_plain (thn (h pins s σ H _ I hw) fun v s1 ⟨x,H1,I1,r1,q1⟩=>?_) (he _)
 obtain⟨d,rfl,q⟩:=q1
 cases r1
 exact wpAny_truthy_bool ⟨H1,I1,q⟩
variable {tA tB':TT}{rest:List Expr}
def tAnd (t u:TT):TT:=fun σ H Q=>t σ H fun c H1=>if c=true then u σ H1 Q else Q false H1
def tOr (t u:TT):TT:=fun σ H Q=>t σ H fun c H1=>if c=true then Q true H1 else u σ H1 Q
def tNot (t:TT):TT:=fun σ H Q=>t σ H fun c H1=>Q (!c) H1
theorem pw_and1 (ha:PT X a tA):PW X (.BoolOp .And [a] pos) tA:=by
 intro wh pins s σ H Q I h
 refine isTrue_and (thn (ha pins s σ H Q I h) fun c s1 e=>?_)
 cases c with
 | true=>exact isTrue_and_nil e
 | false=>exact e
theorem pw_or1 (ha:PT X a tA):PW X (.BoolOp .Or [a] pos) tA:=by
 intro wh pins s σ H Q I h
 refine isTrue_or (thn (ha pins s σ H Q I h) fun c s1 e=>?_)
 cases c with
 | false=>exact isTrue_or_nil e
 | true=>exact e
theorem pw_and (ha:PT X a tA) (hb:PW X (.BoolOp .And (b::rest) pos) tB'):PW X (.BoolOp .And (a::b::rest) pos) (tAnd tA tB'):=by
 intro wh pins s σ H Q I h
 refine isTrue_and (thn (ha pins s σ H _ I h) fun c s1 ⟨H1,I1,q1⟩=>?_)
 cases c with
 | true=>exact hb wh pins s1 σ H1 Q I1 q1
 | false=>exact⟨H1,I1,q1⟩
theorem pw_or (ha:PT X a tA) (hb:PW X (.BoolOp .Or (b::rest) pos) tB'):PW X (.BoolOp .Or (a::b::rest) pos) (tOr tA tB'):=by
 intro wh pins s σ H Q I h
 refine isTrue_or (thn (ha pins s σ H _ I h) fun c s1 ⟨H1,I1,q1⟩=>?_)
 cases c with
 | true=>exact⟨H1,I1,q1⟩
 | false=>exact hb wh pins s1 σ H1 Q I1 q1
theorem pt_not (ha:PT X a tA):PT X (.UnaryOp .Not a pos) (tNot tA):=by
 intro pins s σ H Q I h
 exact isTrue_not (ha pins s σ H (fun c H1=>Q (!c) H1) I h)
def tAndV (ta tb:TE):TE:=fun σ H Q=>ta σ H fun x H1=>∃ c,x = .bl c/\if c=true then tb σ H1 Q else Q (.bl false) H1
def tOrV (ta tb:TE):TE:=fun σ H Q=>ta σ H fun x H1=>∃ c,x = .bl c/\if c=true then Q (.bl true) H1 else tb σ H1 Q
def tNotV (ta:TE):TE:=fun σ H Q=>ta σ H fun x H1=>∃ c,x = .bl c/\Q (.bl (!c)) H1
theorem pe_one {op}{t:TE}(h:PE X a t):PE X (.BoolOp op [a] pos) t:=fun pins s σ H Q I hw=>BoolOp_one (h pins s σ H Q I hw)
theorem pe_and (ha:PE X a ta) (hb:PE X (.BoolOp .And (b::rest) pos) tb):PE X (.BoolOp .And (a::b::rest) pos) (tAndV ta tb):=by
 intro pins s σ H Q I h
 refine BoolOp_and (thn (ha pins s σ H _ I h) fun v s1 ⟨x,H1,I1,r1,q1⟩=>?_)
 obtain⟨c,rfl,q1⟩:=q1
 cases r1
 refine wpAny_truthy_bool ?_
 cases c with
 | true=>exact hb pins s1 σ H1 Q I1 q1
 | false=>exact⟨.bl false,H1,I1,rfl,q1⟩
theorem pe_not (ha:PE X a ta):PE X (.UnaryOp .Not a pos) (tNotV ta):=by
 intro pins s σ H Q I h
 refine UnaryOp_ (thn (ha pins s σ H _ I h) fun v s1 ⟨x,H1,I1,r1,q1⟩=>?_)
 obtain⟨c,rfl,q1⟩:=q1
 cases r1
 exact not_of (wpAny_truthy_bool ⟨.bl (!c),H1,I1,rfl,q1⟩)
end
end L2
namespace L2
open PySem PySem.Spec PyProof.Rows
def SqL (K:PySem.W.Frag) (H:Hp) (a:Addr) (xs:List V):Prop:=
 Rd H a (.lst xs) \/
  ∃ (o:Obj) (its:Array Value) (n:Nat),K.lookup a=some o/\o.cls = .type "list" /\ o.dict=none/\o.data = .seq its n/\its.size<=sizeLine/\Vals xs its.toList
def SqT (K:PySem.W.Frag) (H:Hp) (a:Addr) (xs:List V):Prop:=
 Rd H a (.tup xs) \/
  ∃ (o:Obj) (its:Array Value) (n:Nat),K.lookup a=some o/\o.cls = .type "tuple" /\ o.data = .seq its n/\its.size<=sizeLine/\Vals xs its.toList
def absV:Value->Option V
 | .none=>some .non
 | .bool b=>some (.bl b)
 | .int i _=>some (.int i)
 | .str x _=>some (.str x)
 | .bytes b _=>some (.byt b)
 | .float b _=>some (.flt b)
 | .ref a=>some (.ref a)
 | .type n=>some (.ty n)
 | _=>none
theorem RelV.abs {x:V}{u:Value}(r:RelV x u):absV u=some x:=by
 cases x with
 | non=>cases r;rfl
 | bl _=>cases r;rfl
 | int _=>obtain⟨t,rfl⟩:=r;rfl
 | str _=>obtain⟨t,rfl⟩:=r;rfl
 | byt _=>obtain⟨t,rfl⟩:=r;rfl
 | flt _=>obtain⟨t,rfl⟩:=r;rfl
 | ref _=>cases r;rfl
 | ty _=>cases r;rfl
theorem RelV.inj {x y:V}{u:Value}(r:RelV x u) (q:RelV y u):x=y:=Option.some.inj (r.abs.symm.trans q.abs)
theorem Vals.inj:∀ {xs ys:List V}{us:List Value},Vals xs us->Vals ys us->xs=ys
 | _,_,_,.nil,.nil=>rfl
 | _,_,_,.cons r t,.cons r' t'=>by rw[r.inj r',Vals.inj t t']
section
variable {X:Cx}{pins:List (Addr×Obj)}{σ:St}{H:Hp}{s:Shared}{a:Addr}{xs ys:List V}
theorem SqL.of {K:PySem.W.Frag}(h:H a=some (.lst xs)):SqL K H a xs:=.inl (.inl h)
theorem SqT.of {K:PySem.W.Frag}(h:H a=some (.tup xs)):SqT K H a xs:=.inl (.inl h)
theorem Inv.list (I:Inv X pins σ H s) (h:SqL X.K H a xs):∃ its:List Value,Vals xs its/\PlainL s.heap a its.toArray/\xs.length<=sizeLine:=by
 rcases h with h | ⟨o,its,n,hk,hc,hd,hs,hz,r⟩
 ·obtain⟨z,its,n,r,e⟩:=h.ok I.hok
  exact⟨its,r,⟨_,n,e,rfl,rfl,rfl⟩,z⟩
 ·refine⟨its.toList,r,⟨o,n,I.kIn a o hk,hc,hd,by simpa using hs⟩,?_⟩
  have e:=r.length
  simp only[Array.length_toList] at e
  omega
theorem Inv.tuple (I:Inv X pins σ H s) (h:SqT X.K H a xs):∃ its:List Value,Vals xs its/\IsTup s.heap a its.toArray/\xs.length<=sizeLine:=by
 rcases h with h | ⟨o,its,n,hk,hc,hs,hz,r⟩
 ·obtain⟨z,its,r,p⟩:=h.ok I.hok
  exact⟨its,r,p,z⟩
 ·refine⟨its.toList,r,⟨o,I.kIn a o hk,hc,n,by simpa using hs⟩,?_⟩
  have e:=r.length
  simp only[Array.length_toList] at e
  omega
theorem Inv.list_inj (I:Inv X pins σ H s) (h:SqL X.K H a xs) (h':SqL X.K H a ys):xs=ys:=by
 obtain⟨its,r,⟨o,n,e,_,_,d⟩,_⟩:=I.list h
 obtain⟨its',r',⟨o',n',e',_,_,d'⟩,_⟩:=I.list h'
 rw[e] at e';cases e'
 rw[d] at d'
 injection d' with d1 _
 have:its=its':=by simpa using congrArg Array.toList d1
 subst this
 exact r.inj r'
end
abbrev Cx.wish (X:Cx) (E:Value->Shared->Prop):Cx:={ X with xe:=E }
abbrev Cx.nox (X:Cx):Cx:=X.wish fun _ _=>False
theorem Cx.Ok.wish {X:Cx}(ok:X.Ok) (E:Value->Shared->Prop):(X.wish E).Ok:=
 ⟨ok.mod,ok.kind,ok.glob,ok.blt,ok.above,ok.inj,ok.has,ok.cab,ok.hd,ok.frames,ok.stk,ok.exf,ok.bs,ok.bsz,ok.noex,ok.exfs,ok.funs,ok.frf⟩
theorem Cx.Ok.unwish {X:Cx}{E:Value->Shared->Prop}(ok:(X.wish E).Ok):X.Ok:=
 ⟨ok.mod,ok.kind,ok.glob,ok.blt,ok.above,ok.inj,ok.has,ok.cab,ok.hd,ok.frames,ok.stk,ok.exf,ok.bs,ok.bsz,ok.noex,ok.exfs,ok.funs,ok.frf⟩
section
variable {X:Cx}{pins:List (Addr×Obj)}{σ:St}{H:Hp}{s:Shared}{E:Value->Shared->Prop}
theorem Inv.wish (I:Inv X pins σ H s) (E:Value->Shared->Prop):Inv (X.wish E) pins σ H s:=⟨I.ok.wish E,I.os,I.bare,I.base,I.loc,I.cell,I.free,I.freeC,I.pin,I.hok,I.len⟩
theorem Inv.unwish (I:Inv (X.wish E) pins σ H s):Inv X pins σ H s:=⟨I.ok.unwish,I.os,I.bare,I.base,I.loc,I.cell,I.free,I.freeC,I.pin,I.hok,I.len⟩
theorem SP.unwish {D:Ends}{f:Flow}{s':Shared}(h:SP (X.wish E) pins D f s'):SP X pins D f s':=by
 cases f with
 | next=>obtain⟨σ',H',I,q⟩:=h;exact⟨σ',H',I.unwish,q⟩
 | brk=>obtain⟨σ',H',I,q⟩:=h;exact⟨σ',H',I.unwish,q⟩
 | cont=>obtain⟨σ',H',I,q⟩:=h;exact⟨σ',H',I.unwish,q⟩
 | ret u=>obtain⟨v,σ',H',I,r,q⟩:=h;exact⟨v,σ',H',I.unwish,r,q⟩
theorem PSs.nox {st:List Stmt}{t:TS}(h:PSs X.nox st t):PSs X st t:=fun pins s σ H D I hw=>
 wpAny_mono (h pins s σ H D (I.wish _) hw) (fun _ _ q=>q.unwish) fun _ _ z=>False.elim z
end
section
variable {X:Cx}{st:Stmt}{rest:List Stmt}{t u:TS}{e:Expr}{te:TE}{pos:Pos}
def tNext:TS:=fun D σ H=>D.nx σ H
def tSeq (t u:TS):TS:=fun D σ H=>t { D with nx:=u D } σ H
theorem Zb9:PSs X [] tNext:=fun _ _ σ H _ I h=>wpAny_execs_nil ⟨σ,H,I,h⟩
theorem Za1 (h1:PS X st t) (h2:PSs X rest u):PSs X (st::rest) (tSeq t u):=by
 intro pins s σ H D I h
 refine wpAny_execs_cons (thn (h1 pins s σ H { D with nx:=u D } I h) fun f s1 q=>?_)
 cases f with
 | next=>
  obtain⟨σ',H',I',q⟩:=q
  exact h2 pins s1 σ' H' D I' q
 | ret v=>exact q
 | brk=>exact q
 | cont=>exact q
theorem Za5 (h1:PS X st t):PSs X [st] t:=by
 intro pins s σ H D I h
 refine wpAny_execs_cons (thn (h1 pins s σ H D I h) fun f s1 q=>?_)
 cases f with
 | next=>exact wpAny_execs_nil q
 | ret v=>exact q
 | brk=>exact q
 | cont=>exact q
theorem Inv.quiet {pins:List (Addr×Obj)}{σ:St}{H:Hp}{s:Shared}(I:Inv X pins σ H s):interactive X.env=false:=by simp[interactive,I.ok.kind]
def tDrop (te:TE):TS:=fun D σ H=>te σ H fun _ H1=>D.nx σ H1
theorem ps_expr (he:PE X e te) (hs:swapsWith e none pos.line X.env=pure false:=by rfl):PS X (.Expr e pos) (tDrop te):=by
 intro pins s σ H D I h
 exact wpAny_Expr_any (thn (he pins s σ H _ I h) fun v s1 ⟨x,H1,I1,r1,q1⟩=>⟨σ,H1,I1,q1⟩) I.quiet hs
def tRet (te:TE):TS:=fun D σ H=>te σ H D.rt
theorem Za9 (he:PE X e te):PS X (.Return (some e) pos) (tRet te):=by
 intro pins s σ H D I h
 exact wpAny_Return_some (thn (he pins s σ H _ I h) fun v s1 ⟨x,H1,I1,r1,q1⟩=>⟨x,σ,H1,I1,r1,q1⟩)
def tIfS (c:TT) (t u:TS):TS:=fun D σ H=>c σ H fun b H1=>if b=true then t D σ H1 else u D σ H1
theorem ps_if {c:Expr}{a b:List Stmt}{tc:TT}(hc:PT X c tc) (ha:PSs X a t) (hb:PSs X b u):PS X (.If c a b pos) (tIfS tc t u):=by
 intro pins s σ H D I h
 refine wpAny_If (thn (hc pins s σ H _ I h) fun d s1 ⟨H1,I1,q1⟩=>?_)
 cases d with
 | true=>exact ha pins s1 σ H1 D I1 q1
 | false=>exact hb pins s1 σ H1 D I1 q1
end
abbrev TG:=V->St->Hp->(St->Hp->Prop)->Prop
abbrev TGs:=List V->St->Hp->(St->Hp->Prop)->Prop
def PG (X:Cx) (target:Expr) (t:TG):Prop:=
 ∀ (pins:List (Addr×Obj)) (s:Shared) (σ:St) (H:Hp) (v:V) (u:Value) (Q:St->Hp->Prop),Inv X pins σ H s->RelV v u->t v σ H Q ->
  wpAny (model X.prog X.w) X.A (assign target X.env u) (fun _ s'=>∃ σ' H',Inv X pins σ' H' s'/\Q σ' H') X.xe s
def PGs (X:Cx) (ts:List Expr) (t:TGs):Prop:=
 ∀ (pins:List (Addr×Obj)) (s:Shared) (σ:St) (H:Hp) (vs:List V) (us:List Value) (Q:St->Hp->Prop),Inv X pins σ H s->Vals vs us->t vs σ H Q ->
  wpAny (model X.prog X.w) X.A (assignInOrder ((assignEach ts X.env).map (·.2)) us) (fun _ s'=>∃ σ' H',Inv X pins σ' H' s'/\Q σ' H') X.xe s
abbrev TSet:=V->V->V->Hp->(Hp->Prop)->Prop
section
variable {X:Cx}{pos:Pos}
def gName (i:Nat):TG:=fun v σ H Q=>Q (σ.set i (some v)) H
theorem pg_name {i:Nat}{x:Str}(hN:X.N.Nodup) (hi:X.N[i]? = some x) (hx:Loc X.env.scope x) (hf:X.fn x=true\/X.env.scope.names.lookup x=some .local:=by first | exact .inl rfl | exact .inr rfl | assumption):PG X (.Name x pos) (gName i):=by
 intro pins s σ H v u Q I r h
 exact wpAny_assign_Name (store_ok I hN hi hx r (fun s' I'=>⟨_,H,I',h⟩) hf)
def gNil:TGs:=fun vs σ H Q=>vs=[]/\Q σ H
def gCons (t:TG) (u:TGs):TGs:=fun vs σ H Q=>∃ v r,vs=v::r/\t v σ H fun σ' H'=>u r σ' H' Q
theorem pgs_nil:PGs X [] gNil:=by
 intro pins s σ H vs us Q I r h
 obtain⟨e,h⟩:=h
 subst e
 cases r
 exact assignInOrder_nil ⟨σ,H,I,h⟩
theorem pgs_cons {e:Expr}{es:List Expr}{t:TG}{u:TGs}(h1:PG X e t) (h2:PGs X es u)
  (hs:(assignEach (e::es) X.env).map (·.2)=assign e X.env::(assignEach es X.env).map (·.2):=by rfl):PGs X (e::es) (gCons t u):=by
 intro pins s σ H vs us Q I r h
 obtain⟨v,vr,e1,h⟩:=h
 subst e1
 cases r with
 | cons r rr=>
  rw[hs]
  refine assignInOrder_cons (thn (h1 pins s σ H _ _ _ I r h) fun _ s1 ⟨σ1,H1,I1,q1⟩=>?_)
  exact h2 pins s1 σ1 H1 _ _ Q I1 rr q1
def gTup (K:PySem.W.Frag) (n:Nat) (t:TGs):TG:=fun v σ H Q=>∃ a xs,v = .ref a/\SqT K H a xs/\xs.length=n/\t xs σ H Q
theorem pg_tup {es:List Expr}{k:Nat}{t:TGs}{n:Nat}(hc:X.calm=true) (h:PGs X es t)
  (hn:(assignEach es X.env).length=n:=by rfl) (hst:(assignEach es X.env).findIdx? (·.1)=none:=by rfl):PG X (.Tuple es k pos) (gTup X.K n t):=by
 intro pins s σ H v u Q I r hw
 obtain⟨a,xs,e1,hq,hl,hw⟩:=hw
 subst e1
 cases r
 obtain⟨its,rv,ht,hz⟩:=I.tuple hq
 refine assign_Tuple_tuple (I.ok.hd hc) ht (by simp[hn,←hl,rv.length]) hst fun h' hx=>?_
 have I1:Inv X pins σ H { s with heap:=h' }:=I.kept (t':=s.toks) fun b o e=>hx b o (Nat.ne_of_lt (Heap.lt_size e)) e
 exact h pins _ σ H xs _ Q I1 (by simpa using rv) hw
def gSub (to ti:TE) (t:TSet):TG:=fun v σ H Q=>to σ H fun o H1=>ti σ H1 fun i H2=>t o i v H2 fun H3=>Q σ H3
def tAsg (te:TE) (g:TG):TS:=fun D σ H=>te σ H fun x H1=>g x σ H1 D.nx
theorem Zb4 {i:Nat}{x:Str}{e:Expr}{te:TE}{pos':Pos}(hN:X.N.Nodup) (hi:X.N[i]? = some x) (hx:Loc X.env.scope x) (he:PE X e te) (hs:swapsWith e (some (.Name x pos')) pos.line X.env=pure false:=by rfl) (hf:X.fn x=true\/X.env.scope.names.lookup x=some .local:=by first | exact .inl rfl | exact .inr rfl | assumption) :
  PS X (.Assign [.Name x pos'] e pos) (tAsg te (gName i)):=by
 intro pins s σ H D I h
 refine wpAny_Assign_Name (thn (he pins s σ H _ I h) fun v s1 ⟨y,H1,I1,r1,q1⟩=>?_) hs
 exact store_ok I1 hN hi hx r1 (fun s2 I2=>⟨_,H1,I2,q1⟩) hf
end
section
variable {X:Cx}{pos:Pos}
def tWhile (c:TT) (tb:TS):TS:=fun D σ H=>∃ W:Nat->St->Hp->Prop,(∃ m,W m σ H)/\∀ m σ H,W m σ H ->
 c σ H fun b H1=>if b=true then ∃ N:St->Hp->Prop,(∀ σ' H',N σ' H'->∃ m',m'<m/\W m' σ' H')/\tb { D with nx:=N,ct:=N,bk:=D.nx } σ H1 else D.nx σ H1
theorem ps_while {c:Expr}{body:List Stmt}{tc:TT}{tb:TS}(hp:PassesOwn (model X.prog X.w) X.A X.env X.xe) (hc:PT X c tc) (hb:PSs X body tb):PS X (.While c body [] pos) (tWhile tc tb):=by
 intro pins s σ H D I h
 obtain⟨W,⟨m0,w0⟩,turn⟩:=h
 refine wpAny_While (codeAny_whileLoop (fun n s'=>∃ σ' H',Inv X pins σ' H' s'/\W n σ' H') ?_ m0 ⟨σ,H,I,w0⟩)
 rintro n s1 ⟨σ1,H1,I1,w1⟩
 refine wpAny_passesOwn hp (thn (hc pins s1 σ1 H1 _ I1 (turn n σ1 H1 w1)) fun b s2 ⟨H2,I2,q2⟩=>?_)
 cases b with
 | true=>
  obtain⟨N,hN,q2⟩:=q2
  rw[if_pos rfl]
  refine wpAny_passesOwn hp (thn (hb pins s2 σ1 H2 _ I2 q2) fun f s3 q3=>?_)
  cases f with
  | next=>
   obtain⟨σ3,H3,I3,n3⟩:=q3
   obtain⟨m',hm,w3⟩:=hN σ3 H3 n3
   exact⟨m',hm,σ3,H3,I3,w3⟩
  | cont=>
   obtain⟨σ3,H3,I3,n3⟩:=q3
   obtain⟨m',hm,w3⟩:=hN σ3 H3 n3
   exact⟨m',hm,σ3,H3,I3,w3⟩
  | brk=>exact q3
  | ret v=>exact q3
 | false=>
  rw[if_neg Bool.false_ne_true]
  exact wpAny_execs_nil ⟨σ1,H2,I2,q2⟩
end
structure It where
 go:Nat->Hp->Prop
 yld:Nat->Hp->V->Hp->Prop
 stop:Nat->Hp->Prop
def FpOk (X:Cx) (pins:List (Addr×Obj)) (H:Hp) (b:Addr):Prop:=
 H b=none/\b≠X.env.locals/\b∉X.fs/\(b∈X.ex\/X.s₀.heap.objs.size<=b)/\(∀ x c,X.env.cells.lookup x=some c->c≠b)/\∀ p∈X.pn++pins,p.1≠b
theorem Inv.fpOk {X:Cx}{pins:List (Addr×Obj)}{σ:St}{H H':Hp}{s:Shared}{b:Addr}(I:Inv X pins σ H s) (hb:s.heap.objs.size<=b) (hn:H' b=none):FpOk X pins H' b:=by
 refine⟨hn,Nat.ne_of_gt (Nat.lt_of_lt_of_le I.lt hb),I.nofs hb,.inr (Nat.le_trans I.sz hb),fun x c e z=>?_,fun p hp z=>?_⟩
 ·obtain⟨v,q⟩:=I.cell x c e
  exact absurd (Nat.lt_of_lt_of_le q.lt (by rw[z];exact hb)) (Nat.lt_irrefl _)
 ·exact absurd (Nat.lt_of_lt_of_le (Heap.lt_size (I.pin p hp).1) (by rw[z];exact hb)) (Nat.lt_irrefl _)
structure Turn (P:Program) (w:World) (K:PySem.W.Frag) (tg:Expr) (J:It) (fp:List Addr) (it:Addr) (tn:Nat->Heap->Prop):Prop where
 mem:it∈fp
 obj:∀ i h,tn i h->∀ b∈fp,∃ o,h.get? b=some o/\∀ v,o.data ≠ .cell v
 keep:∀ i h h',tn i h->(∀ b∈fp,∀ o,h.get? b=some o->h'.get? b=some o)->tn i h'
 item:∀ (X:Cx),X.prog=P->X.w=w->X.K=K->X.calm=true->∀ (i:Nat) (pins:List (Addr×Obj)) (s:Shared) (σ:St) (H:Hp) (E:Value->Shared->Prop),Inv X pins σ H s->(∀ b∈fp,FpOk X pins H b)->tn i s.heap->J.go i H ->
  wpAny (model P w) X.A (pyNext (.ref it)) (fun r s1=>∃ u,r=some u /\
   wpAny (model P w) X.A (letOwnedTupleGo tg (.ref it) u) (fun _ s2=>∃ x H',Inv X pins σ H' s2/\RelV x u/\J.yld i H x H'/\tn (i+1) s2.heap/\∀ b∈fp,H' b=none) E s1) E s
 done:∀ (X:Cx),X.prog=P->X.w=w->X.K=K->X.calm=true->∀ (i:Nat) (pins:List (Addr×Obj)) (s:Shared) (σ:St) (H:Hp) (E:Value->Shared->Prop),Inv X pins σ H s->(∀ b∈fp,FpOk X pins H b)->tn i s.heap->J.stop i H ->
  wpAny (model P w) X.A (pyNext (.ref it)) (fun r s1=>r=none/\Inv X pins σ H s1) E s
 self:∀ (A:Around) (i:Nat) (s:Shared) (Q:Value->Shared->Prop) (E:Value->Shared->Prop),tn i s.heap->Q (.ref it) s->wpAny (model P w) A (pyIter (.ref it)) Q E s
abbrev TI:=St->Hp->(It->Hp->Prop)->Prop
def PIE (X:Cx) (pins:List (Addr×Obj)) (σ:St) (tg:Expr) (R:It->Hp->Prop) (itv:Value) (s2:Shared):Prop:=
 ∃ (it:Addr) (fp:List Addr) (tn:Nat->Heap->Prop) (J:It) (H':Hp),itv = .ref it/\Inv X pins σ H' s2/\Turn X.prog X.w X.K tg J fp it tn/\tn 0 s2.heap/\(∀ b∈fp,FpOk X pins H' b)/\R J H'
def PI (X:Cx) (tg iter:Expr) (wi:TI):Prop:=
 ∀ (pins:List (Addr×Obj)) (s:Shared) (σ:St) (H:Hp) (R:It->Hp->Prop),Inv X pins σ H s->wi σ H R ->
  wpAny (model X.prog X.w) X.A (eval iter X.env) (fun v s1=>wpAny (model X.prog X.w) X.A (pyIter v) (PIE X pins σ tg R) X.xe s1) X.xe s
theorem go_of {M:Model}{A:Around}{E:Value->Shared->Prop}{s:Shared}{tg:Expr}{it:Addr}{u:Value}{o:Obj}{n:String}{vs:Array Value}{Q:Unit->Shared->Prop}(ho:s.heap.get? it=some o) (hc:o.cls = .type n) (hd:o.data = .fields vs)
    (hn:["enumerate","zip","dict_itemiterator","dict_reverseitemiterator","odict_iterator","itertools.zip_longest","itertools.pairwise"].contains n=false) (hQ:Q () s):wpAny M A (letOwnedTupleGo tg (.ref it) u) Q E s:=by
  unfold letOwnedTupleGo
  cases tg <;> first
    | exact wpAny_pure hQ
    | (cases u <;> first
        | exact wpAny_pure hQ
        | (refine wpAny_bind (wpAny_load ho ?_)
           rw[hc,hd]
           show wpAny M A (if (["enumerate","zip","dict_itemiterator","dict_reverseitemiterator","odict_iterator","itertools.zip_longest","itertools.pairwise"].contains n&&vs[0]? == some (rawInt _))=true then _ else _) Q E s
           rw[if_neg (by intro h;rw[hn,Bool.false_and] at h;cases h)]
           exact wpAny_pure hQ))
def Itl (K:PySem.W.Frag) (a:Addr):It:=
 ⟨fun i H=>∃ xs x,SqL K H a xs/\xs[i]? = some x,fun i H x H'=>H'=H/\∀ xs,SqL K H a xs->xs[i]? = some x,fun i H=>∃ xs,SqL K H a xs/\xs.length<=i⟩
def Itr (lo:Int) (n:Nat):It:=⟨fun i _=>i<n,fun i H x H'=>H'=H/\x = .int (lo+i),fun i _=>n<=i⟩
theorem turn_list {P:Program}{w:World}{K:PySem.W.Frag}{tg:Expr}(a it:Addr):Turn P w K tg (Itl K a) [it] it (fun i h=>h.IsListIter it a i) where
 mem:=by simp
 obj:=fun i h st b hb=>by
  have e:b=it:=by simpa using hb
  subst e
  obtain⟨o,e,c,d⟩:=st
  exact⟨o,e,fun v z=>by rw[d] at z;cases z⟩
 keep:=fun i h h' st k=>st.at fun o e=>k it (by simp) o e
 item:=by
  intro X hP hw hK hc i pins s σ H E I hf st hg
  subst hP hw hK
  obtain⟨xs,x,hq,hx⟩:=hg
  obtain⟨its,rv,p,hz⟩:=I.list hq
  obtain⟨u,hu,ru⟩:=rv.get hx
  obtain⟨f0,f1,f2,f3,f4,f5⟩:=hf it (by simp)
  refine wpAny_pyNext_list_item st p.isList (x:=u) (by simpa using hu) fun h' st' sb=>?_
  have I1:Inv X pins σ H { s with heap:=h' }:=I.turned (t':=s.toks) (fun b o hb e=>(sb.2 b hb).trans e) f0 f1 f3 f4 f5
  obtain⟨o,e,c,d⟩:=id st'
  exact⟨u,rfl,go_of (s:={ s with heap:=h' }) e c d ⋯ ⟨x,H,I1,ru,⟨rfl,fun ys hy=>by rw[I.list_inj hy hq];exact hx⟩,st',fun b hb=>(hf b hb).1⟩⟩
 done:=by
  intro X hP hw hK hc i pins s σ H E I hf st hg
  subst hP hw hK
  obtain⟨xs,hq,hx⟩:=hg
  obtain⟨its,rv,p,hz⟩:=I.list hq
  obtain⟨f0,f1,f2,f3,f4,f5⟩:=hf it (by simp)
  have hl:=rv.length
  exact wpAny_pyNext_list_end (I.ok.hd hc) st p.isList (by simp;omega) fun h' eb=>⟨rfl,I.turned (t':=s.toks) (fun b o hb e=>eb b o hb e) f0 f1 f3 f4 f5⟩
 self:=fun _ _ _ _ _ st h=>wpAny_pyIter_listiter st h
theorem turn_range {P:Program}{w:World}{K:PySem.W.Frag}{tg:Expr}(it:Addr) (lo:Int) (n:Nat):Turn P w K tg (Itr lo n) [it] it (fun i h=>IsRangeIter h it (lo+(i:Nat)*1) ((n:Int)-(i:Nat)) 1) where
 mem:=by simp
 obj:=fun i h st b hb=>by
  have e:b=it:=by simpa using hb
  subst e
  exact⟨_,st,fun v z=>by
   have z':Data.fields _=Data.cell v:=z
   cases z'⟩
 keep:=fun i h h' st k=>k it (by simp) _ st
 item:=by
  intro X hP hw hK hc i pins s σ H E I hf st hg
  subst hP hw hK
  obtain⟨f0,f1,f2,f3,f4,f5⟩:=hf it (by simp)
  have W:=Walks.range (prog:=X.prog) (w:=X.w) (I.ok.hd hc) it lo 1 n
  refine W.item i s _ _ hg st fun v h' tk hv st' kk=>?_
  obtain⟨t,rfl⟩:=hv
  have I1:Inv X pins σ H { s with heap:=h',toks:=tk }:=I.turned (fun b o hb e=>kk b o (by simpa using hb) e) f0 f1 f3 f4 f5
  refine⟨_,rfl,go_of (s:={ s with heap:=h',toks:=tk }) (n:="range_iterator") st' rfl rfl ⋯ ⟨.int (lo+i),H,I1,⟨t,?_⟩,⟨rfl,rfl⟩,st',fun b hb=>(hf b hb).1⟩⟩
  rw[Int.mul_one]
 done:=by
  intro X hP hw hK hc i pins s σ H E I hf st hg
  subst hP hw hK
  obtain⟨f0,f1,f2,f3,f4,f5⟩:=hf it (by simp)
  exact wpAny_pyNext_range_end (I.ok.hd hc) st (by have:n<=i:=hg;omega) fun h' eb=>⟨rfl,I.turned (t':=s.toks) (fun b o hb e=>eb b o hb e) f0 f1 f3 f4 f5⟩
 self:=fun _ _ _ _ _ st h=>wpAny_pyIter_rangeiter st h
end L2
namespace L2
open PySem PySem.Spec PyProof.Rows
section
variable {X:Cx}{tg:Expr}
def iList (K:PySem.W.Frag) (tl:TE):TI:=fun σ H R=>tl σ H fun x H1=>∃ a,x = .ref a/\(∃ xs,SqL K H1 a xs)/\R (Itl K a) H1
theorem pi_list {l:Expr}{tl:TE}(hl:PE X l tl):PI X tg l (iList X.K tl):=by
 intro pins s σ H R I h
 refine thn (hl pins s σ H _ I h) fun v s1 ⟨x,H1,I1,r1,q1⟩=>?_
 obtain⟨a,e,⟨xs,hq⟩,q⟩:=q1
 subst e
 cases r1
 obtain⟨its,rv,p,hz⟩:=I1.list hq
 refine wpAny_pyIter_list p.isList ?_
 refine⟨s1.heap.objs.size,[s1.heap.objs.size],_,_,H1,rfl,I1.kept (t':=s1.toks) fun b o e=>Heap.get?_push_of_some _ e,turn_list a _,⟨_,Heap.get?_push_size _ rfl,rfl,rfl⟩,fun b hb=>?_,q⟩
 have e:b=s1.heap.objs.size:=by simpa using hb
 subst e
 exact I1.fpOk (Nat.le_refl _) (I1.hok.fresh (Nat.le_refl _))
theorem range_it {pins:List (Addr×Obj)}{σ:St}{H:Hp}{s:Shared}{R:It->Hp->Prop}{E:Value->Shared->Prop}{lo hi:Int}{t u v:Tok}{tk:Nat}(I:Inv X pins σ H s) (h1 : -(2 ^ 62)<=lo) (h2:lo<2 ^ 62) (h3 : -(2 ^ 62)<=hi) (h4:hi<2 ^ 62)
  (q:R (Itr lo (hi-lo).toNat) H):wpAny (model X.prog X.w) X.A (pyIter (.ref s.heap.objs.size)) (PIE X pins σ tg R) E { s with heap:=s.heap.push { cls:=.type "range",data:=.fields #[.int lo t,.int hi u,.int 1 v] },toks:=tk }:=by
 refine wpAny_pyIter_range (IsRange.new ..) (small_one h1 h2 h3 h4) ?_
 have I1:Inv X pins σ H { s with heap:=s.heap.push { cls:=.type "range",data:=.fields #[.int lo t,.int hi u,.int 1 v] },toks:=tk }:=I.kept fun b o e=>Heap.get?_push_of_some _ e
 refine⟨(s.heap.push { cls:=.type "range",data:=.fields #[.int lo t,.int hi u,.int 1 v] }).objs.size,[(s.heap.push { cls:=.type "range",data:=.fields #[.int lo t,.int hi u,.int 1 v] }).objs.size],_,_,H,rfl,
  I1.kept (t':=tk) fun b o e=>Heap.get?_push_of_some _ e,turn_range _ lo (hi-lo).toNat,?_,fun b hb=>?_,q⟩
 ·have e1:lo+((0:Nat):Int)*1=lo:=by simp
  have e2:(((hi-lo).toNat:Nat):Int)-((0:Nat):Int)=Builtin.Range.rangeSize lo hi 1:=by rw[rangeSize_one];split <;> omega
  show IsRangeIter _ _ (lo+((0:Nat):Int)*1) ((((hi-lo).toNat:Nat):Int)-((0:Nat):Int)) 1
  rw[e1,e2]
  exact Heap.get?_push_size _ rfl
 ·have e:b=(s.heap.push { cls:=.type "range",data:=.fields #[.int lo t,.int hi u,.int 1 v] }).objs.size:=by simpa using hb
  subst e
  exact I1.fpOk (Nat.le_refl _) (I1.hok.fresh (Nat.le_refl _))
def iRng1 (ta:TA):TI:=fun σ H R=>ta σ H fun vs H1=>∃ j:Int,vs=[.int j] /\ -(2 ^ 62)<=j/\j<2 ^ 62/\R (Itr 0 j.toNat) H1
theorem pi_range1 {a:Expr}{ta:TA}{p pos:Pos}(hg:Gl X "range") (hm:X.mg "range" = none) (ha:PA X [a] ta) (hs:starEach [a] X.env=[(false,eval a X.env)]:=by rfl):PI X tg (.Call (.Name "range" p) [a] [] pos) (iRng1 ta):=by
 intro pins s σ H R I h
 refine Call_ (ld_blt I hg hm boot_range (PyProof.Rows.callWith_type1 (thn (ha pos pins s σ H _ I h) fun us s1 ⟨vs,H1,I1,r1,q1⟩=>?_) hs rfl))
 obtain⟨j,e,q1,q2,q⟩:=q1
 subst e
 cases r1 with
 | cons r rr=>
  cases rr
  obtain⟨t,rfl⟩:=r
  exact call_range_1 (range_it I1 ∅ ∅ q1 q2 (by simpa using q))
def tFor (wi:TI) (g:TG) (tb:TS):TS:=fun D σ H=>wi σ H fun J H1=>∃ W:Nat->Nat->St->Hp->Prop,(∃ m,W 0 m σ H1)/\∀ i m σ H,W i m σ H ->
 (J.stop i H/\D.nx σ H)\/(J.go i H/\∃ N:St->Hp->Prop,(∀ σ' H',N σ' H'->∃ m',m'<m/\W (i+1) m' σ' H')/\∀ x H',J.yld i H x H'->g x σ H' fun σ2 H2=>tb { D with nx:=N,ct:=N,bk:=D.nx } σ2 H2)
def pinsAt (fp:List Addr) (h:Heap):List (Addr×Obj):=fp.filterMap fun b=>(h.get? b).map fun o=>(b,o)
theorem mem_pinsAt {fp:List Addr}{h:Heap}{b:Addr}{o:Obj}(hb:b∈fp) (e:h.get? b=some o):(b,o)∈pinsAt fp h:=List.mem_filterMap.mpr ⟨b,hb,by rw[e];rfl⟩
theorem of_pinsAt {fp:List Addr}{h:Heap}{p:Addr×Obj}(hp:p∈pinsAt fp h):p.1∈fp/\h.get? p.1=some p.2:=by
 obtain⟨b,hb,e⟩:=List.mem_filterMap.mp hp
 cases q:h.get? b with
 | none=>rw[q] at e;cases e
 | some o=>
  rw[q] at e
  have e':(b,o)=p:=Option.some.inj e
  subst e'
  exact⟨hb,q⟩
theorem Inv.pinned {pins:List (Addr×Obj)}{σ:St}{H:Hp}{s:Shared}{fp:List Addr}(I:Inv X pins σ H s) (hf:∀ b∈fp,FpOk X pins H b) (ho:∀ b∈fp,∃ o,s.heap.get? b=some o/\∀ v,o.data ≠ .cell v):Inv X (pins++pinsAt fp s.heap) σ H s:=
 I.pins_of fun p hp=>(List.mem_append.mp hp).elim (fun z=>I.pin p (List.mem_append_right _ z)) fun z=>by
  obtain⟨hb,e⟩:=of_pinsAt z
  obtain⟨f0,f1,f2,_⟩:=hf p.1 hb
  obtain⟨o,e',d⟩:=ho p.1 hb
  rw[e] at e';cases e'
  exact⟨e,f0,f1,f2,d⟩
theorem Inv.unpinned {pins pl:List (Addr×Obj)}{σ:St}{H:Hp}{s:Shared}(I:Inv X (pins++pl) σ H s):Inv X pins σ H s:=I.pins_of fun p hp=>I.pin p (List.mem_append_right _ (List.mem_append_left _ hp))
theorem ps_for {iter:Expr}{body:List Stmt}{wi:TI}{g:TG}{tb:TS}{pos:Pos}(hp:PassesOwn (model X.prog X.w) X.A X.env X.xe) (hc:X.calm=true) (hi:PI X tg iter wi) (hg:PG X tg g) (hb:PSs X body tb)
  (hs:∀ x,foldedSetIterable iter X.env x=pure x:=by intro _;rfl):PS X (.For tg iter body [] pos) (tFor wi g tb):=by
 intro pins s σ H D I h
 refine wpAny_For (thn (hi pins s σ H _ I h) fun v s1 h1=>thn h1 fun itv s2 h2=>?_) hs
 obtain⟨it,fp,tn,J,H2,e,I2,T,st2,f2,W,⟨m0,w0⟩,turn⟩:=h2
 subst e
 have stat:∀ {H':Hp},(∀ b∈fp,H' b=none)->∀ b∈fp,FpOk X pins H' b:=fun hn b hb=>⟨hn b hb,(f2 b hb).2⟩
 refine codeAny_forLoop_any (fun n s'=>∃ i σ' H',Inv X pins σ' H' s'/\tn i s'.heap/\(∀ b∈fp,H' b=none)/\W i n σ' H') ?_ m0 ⟨0,σ,H2,I2,st2,fun b hb=>(f2 b hb).1,w0⟩
 rintro n s3 ⟨i,σ3,H3,I3,st3,fr3,w3⟩
 rcases turn i n σ3 H3 w3 with⟨stop,qn⟩ | ⟨go,N,hN,step⟩
 ·refine wpAny_passesOwn hp (thn (T.done X rfl rfl rfl hc i pins s3 σ3 H3 X.xe I3 (stat fr3) st3 stop) fun r s4 ⟨hr,I4⟩=>?_)
  subst hr
  exact wpAny_execs_nil ⟨σ3,H3,I4,qn⟩
 ·refine wpAny_passesOwn hp (thn (T.item X rfl rfl rfl hc i pins s3 σ3 H3 X.xe I3 (stat fr3) st3 go) fun r s4 ⟨u,hr,h4⟩=>?_)
  subst hr
  refine wpAny_passesOwn hp (thn h4 fun _ s5 ⟨x,H5,I5,r5,y5,st5,fr5⟩=>?_)
  have I5':=I5.pinned (stat fr5) (T.obj _ _ st5)
  refine wpAny_passesOwn hp (thn (hg _ s5 σ3 H5 x u _ I5' r5 (step x H5 y5)) fun _ s6 ⟨σ6,H6,I6,q6⟩=>?_)
  refine wpAny_passesOwn hp (thn (hb _ s6 σ6 H6 _ I6 q6) fun f s7 q7=>?_)
  have again:∀ {σ7:St} {H7:Hp},Inv X (pins++pinsAt fp s5.heap) σ7 H7 s7->N σ7 H7->∃ m,m<n/\∃ i σ' H',Inv X pins σ' H' s7/\tn i s7.heap/\(∀ b∈fp,H' b=none)/\W i m σ' H':=fun {σ7 H7} I7 n7=>by
   obtain⟨m',hm,w7⟩:=hN σ7 H7 n7
   refine⟨m',hm,i+1,σ7,H7,I7.unpinned,T.keep _ _ _ st5 fun b hb o e=>(I7.pin (b,o) (List.mem_append_right _ (List.mem_append_right _ (mem_pinsAt hb e)))).1,fun b hb=>?_,w7⟩
   obtain⟨o,e,d⟩:=T.obj _ _ st5 b hb
   exact (I7.pin (b,o) (List.mem_append_right _ (List.mem_append_right _ (mem_pinsAt hb e)))).2.1
  cases f with
  | next=>obtain⟨σ7,H7,I7,n7⟩:=q7;exact again I7 n7
  | cont=>obtain⟨σ7,H7,I7,n7⟩:=q7;exact again I7 n7
  | brk=>obtain⟨σ7,H7,I7,q7⟩:=q7;exact⟨σ7,H7,I7.unpinned,q7⟩
  | ret v=>obtain⟨x7,σ7,H7,I7,r7,q7⟩:=q7;exact⟨x7,σ7,H7,I7.unpinned,r7,q7⟩
end
theorem for_list {K:PySem.W.Frag}{a:Addr}{xs:List V}{g:TG}{tb:TS}{D:Ends}{σ:St}{H:Hp}(Pv:Nat->St->Hp->Prop) (h0:Pv 0 σ H) (hl:∀ i σ H,i<=xs.length->Pv i σ H->SqL K H a xs)
  (hs:∀ i x σ H,xs[i]? = some x->Pv i σ H->g x σ H fun σ2 H2=>tb { D with nx:=Pv (i+1),ct:=Pv (i+1),bk:=D.nx } σ2 H2) (hd:∀ σ H,Pv xs.length σ H->D.nx σ H) :
  ∃ W:Nat->Nat->St->Hp->Prop,(∃ m,W 0 m σ H)/\∀ i m σ H,W i m σ H ->
   ((Itl K a).stop i H/\D.nx σ H)\/((Itl K a).go i H/\∃ N:St->Hp->Prop,(∀ σ' H',N σ' H'->∃ m',m'<m/\W (i+1) m' σ' H')/\∀ x H',(Itl K a).yld i H x H'->g x σ H' fun σ2 H2=>tb { D with nx:=N,ct:=N,bk:=D.nx } σ2 H2):=by
 refine⟨fun i m σ H=>m=xs.length-i/\i<=xs.length/\Pv i σ H,⟨xs.length,by simp,Nat.zero_le _,h0⟩,?_⟩
 rintro i m σ H ⟨rfl,hi,p⟩
 have q:=hl i σ H hi p
 by_cases hlt:i<xs.length
 ·refine .inr ⟨⟨xs,xs[i],q,by simp[hlt]⟩,Pv (i+1),fun σ' H' p'=>⟨xs.length-(i+1),by omega,rfl,hlt,p'⟩,fun x H' y=>?_⟩
  obtain⟨e,y⟩:=y
  subst e
  exact hs i x σ _ (y xs q) p
 ·have e:i=xs.length:=by omega
  subst e
  exact .inl ⟨⟨xs,q,Nat.le_refl _⟩,hd σ H p⟩
theorem for_range {lo:Int}{n:Nat}{g:TG}{tb:TS}{D:Ends}{σ:St}{H:Hp}(Pv:Nat->St->Hp->Prop) (h0:Pv 0 σ H)
  (hs:∀ i σ H,i<n->Pv i σ H->g (.int (lo+i)) σ H fun σ2 H2=>tb { D with nx:=Pv (i+1),ct:=Pv (i+1),bk:=D.nx } σ2 H2) (hd:∀ σ H,Pv n σ H->D.nx σ H) :
  ∃ W:Nat->Nat->St->Hp->Prop,(∃ m,W 0 m σ H)/\∀ i m σ H,W i m σ H ->
   ((Itr lo n).stop i H/\D.nx σ H)\/((Itr lo n).go i H/\∃ N:St->Hp->Prop,(∀ σ' H',N σ' H'->∃ m',m'<m/\W (i+1) m' σ' H')/\∀ x H',(Itr lo n).yld i H x H'->g x σ H' fun σ2 H2=>tb { D with nx:=N,ct:=N,bk:=D.nx } σ2 H2):=by
 refine⟨fun i m σ H=>m=n-i/\i<=n/\Pv i σ H,⟨n,by simp,Nat.zero_le _,h0⟩,?_⟩
 rintro i m σ H ⟨rfl,hi,p⟩
 by_cases hlt:i<n
 ·refine .inr ⟨hlt,Pv (i+1),fun σ' H' p'=>⟨n-(i+1),by omega,rfl,hlt,p'⟩,fun x H' y=>?_⟩
  obtain⟨e,y⟩:=y
  subst e y
  exact hs i σ _ hlt p
 ·have e:i=n:=by omega
  subst e
  exact .inl ⟨Nat.le_refl _,hd σ H p⟩
end L2
namespace L2
open PySem PySem.Spec PyProof.Rows
abbrev R2:=V->V->Hp->VK->Prop
def OpR (X:Cx) (f:Value->Value->Sem Value) (r:R2):Prop:=
 ∀ (pins:List (Addr×Obj)) (s:Shared) (σ:St) (H:Hp) (x y:V) (v u:Value) (Q:VK),Inv X pins σ H s->RelV x v->RelV y u->r x y H Q ->
  wpAny (model X.prog X.w) X.A (f v u) (EP X pins σ Q) X.xe s
def UnR (X:Cx) (f:Value->Sem Value) (r:V->Hp->VK->Prop):Prop:=
 ∀ (pins:List (Addr×Obj)) (s:Shared) (σ:St) (H:Hp) (x:V) (v:Value) (Q:VK),Inv X pins σ H s->RelV x v->r x H Q ->
  wpAny (model X.prog X.w) X.A (f v) (EP X pins σ Q) X.xe s
def CallR (X:Cx) (f:Value) (r:List V->Hp->VK->Prop):Prop:=
 ∀ (pins:List (Addr×Obj)) (s:Shared) (σ:St) (H:Hp) (xs:List V) (us:List Value) (Q:VK),Inv X pins σ H s->Vals xs us->r xs H Q ->
  wpAny (model X.prog X.w) X.A (call f us) (EP X pins σ Q) X.xe s
def tOp (r:R2) (ta tb:TE):TE:=fun σ H Q=>ta σ H fun x H1=>tb σ H1 fun y H2=>r x y H2 Q
def tUn (r:V->Hp->VK->Prop) (ta:TE):TE:=fun σ H Q=>ta σ H fun x H1=>r x H1 Q
def rI (C:Int->Int->Prop) (g:Int->Int->V):R2:=fun x y H Q=>∃ i j,x = .int i/\y = .int j/\C i j/\Q (g i j) H
def rI0 (g:Int->Int->V):R2:=fun x y H Q=>∃ i j,x = .int i/\y = .int j/\Q (g i j) H
def rU (g:Int->V):V->Hp->VK->Prop:=fun x H Q=>∃ i,x = .int i/\Q (g i) H
section
variable {X:Cx}{a b c:Expr}{ta tb tc:TE}{pos:Pos}
theorem binT (ha:PE X a ta) (hb:PE X b tb) {pins:List (Addr×Obj)}{s:Shared}{σ:St}{H:Hp}{R:V->V->Hp->Prop}(I:Inv X pins σ H s)
  (h:ta σ H fun x H1=>tb σ H1 fun y H2=>R x y H2) {Q:Value->Shared->Prop} {f:Value->Value->Sem Value}
  (hf:∀ v u s2 x y H2,Inv X pins σ H2 s2->RelV x v->RelV y u->R x y H2->wpAny (model X.prog X.w) X.A (f v u) Q X.xe s2) :
  wpAny (model X.prog X.w) X.A (eval a X.env) (fun v s₁=>wpAny (model X.prog X.w) X.A (eval b X.env) (fun u s₂=>wpAny (model X.prog X.w) X.A (f v u) Q X.xe s₂) X.xe s₁) X.xe s:=by
 refine thn (ha pins s σ H _ I h) fun v s1 ⟨x,H1,I1,r1,q1⟩=>?_
 refine thn (hb pins s1 σ H1 _ I1 q1) fun u s2 ⟨y,H2,I2,r2,q2⟩=>?_
 exact hf v u s2 x y H2 I2 r1 r2 q2
theorem Zc0 {op:Operator}{r:R2}(ho:OpR X (binaryOp op) r) (ha:PE X a ta) (hb:PE X b tb):PE X (.BinOp a op b pos) (tOp r ta tb):=by
 intro pins s σ H Q I h
 exact wpAny_BinOp (binT ha hb I h fun v u s2 x y H2 I2 rx ry q=>ho pins s2 σ H2 x y v u Q I2 rx ry q)
theorem pe_un {op:UnaryOp}{r:V->Hp->VK->Prop}(ho:UnR X (unaryOp op) r) (ha:PE X a ta):PE X (.UnaryOp op a pos) (tUn r ta):=by
 intro pins s σ H Q I h
 exact UnaryOp_ (thn (ha pins s σ H _ I h) fun v s1 ⟨x,H1,I1,r1,q1⟩=>ho pins s1 σ H1 x v Q I1 r1 q1)
theorem opI {f:Value->Value->Sem Value}{C:Int->Int->Prop}{g:Int->Int->Int}
  (rule:∀ (i j:Int) (t u:Tok) (s:Shared) (Q:Value->Shared->Prop) (E:Value->Shared->Prop),C i j->Q (.int (g i j) s.toks) { s with toks:=s.toks+1 }->wpAny (model X.prog X.w) X.A (f (.int i t) (.int j u)) Q E s) :
  OpR X f (rI C fun i j=>.int (g i j)):=by
 intro pins s σ H x y v u Q I rx ry h
 obtain⟨i,j,rfl,rfl,hc,q⟩:=h
 obtain⟨t,rfl⟩:=rx
 obtain⟨t',rfl⟩:=ry
 exact rule i j t t' s _ _ hc ⟨.int (g i j),H,I.tok _,⟨_,rfl⟩,q⟩
theorem opI0 {f:Value->Value->Sem Value}{g:Int->Int->Int}
  (rule:∀ (i j:Int) (t u:Tok) (s:Shared) (Q:Value->Shared->Prop) (E:Value->Shared->Prop),Q (.int (g i j) s.toks) { s with toks:=s.toks+1 }->wpAny (model X.prog X.w) X.A (f (.int i t) (.int j u)) Q E s) :
  OpR X f (rI0 fun i j=>.int (g i j)):=by
 intro pins s σ H x y v u Q I rx ry h
 obtain⟨i,j,rfl,rfl,q⟩:=h
 obtain⟨t,rfl⟩:=rx
 obtain⟨t',rfl⟩:=ry
 exact rule i j t t' s _ _ ⟨.int (g i j),H,I.tok _,⟨_,rfl⟩,q⟩
theorem opB0 {f:Value->Value->Sem Value}{g:Int->Int->Bool}
  (rule:∀ (i j:Int) (t u:Tok) (s:Shared) (Q:Value->Shared->Prop) (E:Value->Shared->Prop),Q (.bool (g i j)) s->wpAny (model X.prog X.w) X.A (f (.int i t) (.int j u)) Q E s) :
  OpR X f (rI0 fun i j=>.bl (g i j)):=by
 intro pins s σ H x y v u Q I rx ry h
 obtain⟨i,j,rfl,rfl,q⟩:=h
 obtain⟨t,rfl⟩:=rx
 obtain⟨t',rfl⟩:=ry
 exact rule i j t t' s _ _ ⟨.bl (g i j),H,I,rfl,q⟩
def CPow (i j:Int):Prop:=0<=j/\j<=1000000/\i.natAbs<2 ^ 64
def CMul (i j:Int):Prop:=(-(2 ^ 64)<i/\i<2 ^ 64)\/(-(2 ^ 64)<j/\j<2 ^ 64)
theorem CMul.ok {i j:Int}(h:CMul i j):IntMulOk i j:=by
 rcases h with⟨h1,h2⟩ | ⟨h1,h2⟩
 ·exact .of_left (intBits_le_64 h1 h2)
 ·exact .of_right (intBits_le_64 h1 h2)
theorem op_add:OpR X (binaryOp .Add) (rI0 fun i j=>.int (i+j)):=opI0 fun _ _ _ _ _ _ _ q=>add_int q
theorem op_sub:OpR X (binaryOp .Sub) (rI0 fun i j=>.int (i-j)):=opI0 fun _ _ _ _ _ _ _ q=>sub_int q
theorem op_mod:OpR X (binaryOp .Mod) (rI (fun _ j=>0<j) fun i j=>.int (i % j)):=opI fun i j _ _ _ _ _ hc q=>by
 have h1:(0:Int)<j:=hc
 exact mod_int' ∅ (by rw[Int.fmod_eq_emod_of_nonneg i ∅];exact q)
theorem op_pow:OpR X (binaryOp .Pow) (rI CPow fun i j=>.int (i ^ j.toNat)):=opI fun _ _ _ _ _ _ _ hc q=>pow_int_small hc.1 hc.2.1 hc.2.2 q
theorem unI {f:Value->Sem Value}{g:Int->Int}
  (rule:∀ (i:Int) (t:Tok) (s:Shared) (Q:Value->Shared->Prop) (E:Value->Shared->Prop),Q (.int (g i) s.toks) { s with toks:=s.toks+1 }->wpAny (model X.prog X.w) X.A (f (.int i t)) Q E s) :
  UnR X f (rU fun i=>.int (g i)):=by
 intro pins s σ H x v Q I rx h
 obtain⟨i,rfl,q⟩:=h
 obtain⟨t,rfl⟩:=rx
 exact rule i t s _ _ ⟨.int (g i),H,I.tok _,⟨_,rfl⟩,q⟩
theorem un_neg:UnR X (unaryOp .USub) (rU fun i=>.int (-i)):=unI fun _ _ _ _ _ q=>neg_int q
end
def scal:V->V->Bool
 | .non,.non=>true | .non,.int _=>true | .int _,.non=>true | .non,.bl _=>true | .bl _,.non=>true | .non,.str _=>true | .str _,.non=>true
 | .int _,.int _=>true | .bl _,.bl _=>true | .str _,.str _=>true | .byt _,.byt _=>true
 | .int _,.str _=>true | .str _,.int _=>true | .bl _,.str _=>true | .str _,.bl _=>true
 | _,_=>false
def rEq:R2:=fun x y H Q=>scal x y=true/\Q (.bl (decide (x=y))) H
def rNe:R2:=fun x y H Q=>scal x y=true/\Q (.bl (!decide (x=y))) H
theorem dec_int {i j:Int}:decide (V.int i=V.int j)=(i==j):=by
 rw[Bool.eq_iff_iff]
 simp
theorem dec_bl {i j:Bool}:decide (V.bl i=V.bl j)=(i==j):=by
 rw[Bool.eq_iff_iff]
 simp
theorem dec_str {i j:Str}:decide (V.str i=V.str j)=(i==j):=by
 rw[Bool.eq_iff_iff]
 simp
theorem dec_byt {i j:Array UInt8}:decide (V.byt i=V.byt j)=(i.toList==j.toList):=by
 rw[Bool.eq_iff_iff]
 cases i
 cases j
 simp
section
variable {X:Cx}{a b c:Expr}{ta tb tc:TE}{pos:Pos}
theorem fin_bl {pins:List (Addr×Obj)}{σ:St}{H:Hp}{s:Shared}{Q:VK}{k k':Bool}(I:Inv X pins σ H s) (q:Q (.bl k) H) (e:k=k'):EP X pins σ Q (.bool k') s:=by
 subst e
 exact⟨.bl k,H,I,rfl,q⟩
theorem op_eq:OpR X (compareOp .Eq) rEq:=by
 intro pins s σ H x y v u Q I rx ry h
 obtain⟨hs,q⟩:=h
 cases x with
 | non=>
  cases rx
  cases y with
  | non=>cases ry;exact PySem.EqNone.eq_none_none (fin_bl I q (by simp))
  | bl j=>cases ry;exact PySem.EqNone.eq_none_bool (fin_bl I q (by simp))
  | int j=>obtain⟨t',rfl⟩:=ry;exact PySem.EqNone.eq_none_int (fin_bl I q (by simp))
  | str j=>obtain⟨t',rfl⟩:=ry;exact PySem.EqNone.eq_none_str (fin_bl I q (by simp))
  | _=>exact absurd (show false=true from hs) Bool.false_ne_true
 | bl i=>
  cases rx
  cases y with
  | non=>cases ry;exact PySem.EqNone.eq_bool_none (fin_bl I q (by simp))
  | bl j=>cases ry;exact eq_bool (fin_bl I q dec_bl)
  | str j=>obtain⟨t',rfl⟩:=ry;exact PySem.EqMixed.eq_bool_str (fin_bl I q (by simp))
  | _=>exact absurd (show false=true from hs) Bool.false_ne_true
 | int i=>
  obtain⟨t,rfl⟩:=rx
  cases y with
  | non=>cases ry;exact PySem.EqNone.eq_int_none (fin_bl I q (by simp))
  | int j=>obtain⟨t',rfl⟩:=ry;exact eq_int (fin_bl I q dec_int)
  | str j=>obtain⟨t',rfl⟩:=ry;exact PySem.EqMixed.eq_int_str (fin_bl I q (by simp))
  | _=>exact absurd (show false=true from hs) Bool.false_ne_true
 | str i=>
  obtain⟨t,rfl⟩:=rx
  cases y with
  | non=>cases ry;exact PySem.EqNone.eq_str_none (fin_bl I q (by simp))
  | bl j=>cases ry;exact PySem.EqMixed.eq_str_bool (fin_bl I q (by simp))
  | int j=>obtain⟨t',rfl⟩:=ry;exact PySem.EqMixed.eq_str_int (fin_bl I q (by simp))
  | str j=>obtain⟨t',rfl⟩:=ry;exact eq_str (fin_bl I q dec_str)
  | _=>exact absurd (show false=true from hs) Bool.false_ne_true
 | byt i=>
  obtain⟨t,rfl⟩:=rx
  cases y with
  | byt j=>obtain⟨t',rfl⟩:=ry;exact PySem.W.eq_bytes (fin_bl I q dec_byt)
  | _=>exact absurd (show false=true from hs) Bool.false_ne_true
 | _=>cases y <;> exact absurd (show false=true from hs) Bool.false_ne_true
theorem op_ne:OpR X (compareOp .NotEq) rNe:=by
 intro pins s σ H x y v u Q I rx ry h
 obtain⟨hs,q⟩:=h
 cases x with
 | non=>
  cases rx
  cases y with
  | non=>cases ry;exact PySem.EqNone.ne_none_none (fin_bl I q (by simp))
  | bl j=>cases ry;exact PySem.EqNone.ne_none_bool (fin_bl I q (by simp))
  | int j=>obtain⟨t',rfl⟩:=ry;exact PySem.EqNone.ne_none_int (fin_bl I q (by simp))
  | str j=>obtain⟨t',rfl⟩:=ry;exact PySem.EqNone.ne_none_str (fin_bl I q (by simp))
  | _=>exact absurd (show false=true from hs) Bool.false_ne_true
 | bl i=>
  cases rx
  cases y with
  | non=>cases ry;exact PySem.EqNone.ne_bool_none (fin_bl I q (by simp))
  | bl j=>cases ry;exact ne_bool (fin_bl I q (congrArg not dec_bl))
  | str j=>obtain⟨t',rfl⟩:=ry;exact PySem.EqMixed.ne_bool_str (fin_bl I q (by simp))
  | _=>exact absurd (show false=true from hs) Bool.false_ne_true
 | int i=>
  obtain⟨t,rfl⟩:=rx
  cases y with
  | non=>cases ry;exact PySem.EqNone.ne_int_none (fin_bl I q (by simp))
  | int j=>obtain⟨t',rfl⟩:=ry;exact ne_int (fin_bl I q (congrArg not dec_int))
  | str j=>obtain⟨t',rfl⟩:=ry;exact PySem.EqMixed.ne_int_str (fin_bl I q (by simp))
  | _=>exact absurd (show false=true from hs) Bool.false_ne_true
 | str i=>
  obtain⟨t,rfl⟩:=rx
  cases y with
  | non=>cases ry;exact PySem.EqNone.ne_str_none (fin_bl I q (by simp))
  | bl j=>cases ry;exact PySem.EqMixed.ne_str_bool (fin_bl I q (by simp))
  | int j=>obtain⟨t',rfl⟩:=ry;exact PySem.EqMixed.ne_str_int (fin_bl I q (by simp))
  | str j=>obtain⟨t',rfl⟩:=ry;exact ne_str (fin_bl I q (congrArg not dec_str))
  | _=>exact absurd (show false=true from hs) Bool.false_ne_true
 | byt i=>
  obtain⟨t,rfl⟩:=rx
  cases y with
  | byt j=>obtain⟨t',rfl⟩:=ry;exact PySem.W.ne_bytes (fin_bl I q (congrArg not dec_byt))
  | _=>exact absurd (show false=true from hs) Bool.false_ne_true
 | _=>cases y <;> exact absurd (show false=true from hs) Bool.false_ne_true
theorem op_lt:OpR X (compareOp .Lt) (rI0 fun i j=>.bl (decide (i<j))):=opB0 fun _ _ _ _ _ _ _ q=>lt_int q
theorem op_gt:OpR X (compareOp .Gt) (rI0 fun i j=>.bl (decide (j<i))):=opB0 fun _ _ _ _ _ _ _ q=>gt_int q
theorem op_in_str:OpR X (compareOp .In) (fun x y H Q=>∃ i j,x = .str i/\y = .str j/\Q (.bl (!(Builtin.Str.occurrences j i 0 j.length 1).isEmpty)) H):=by
 intro pins s σ H x y v u Q I rx ry h
 obtain⟨i,j,rfl,rfl,q⟩:=h
 obtain⟨t,rfl⟩:=rx
 obtain⟨t',rfl⟩:=ry
 exact in_str (fin_bl I q rfl)
theorem Zc6 (b:Expr) {op:CmpOp}(h:op ≠ .In:=by decide) (h2:op ≠ .NotIn:=by decide):behindInMarks op b=false:=by
 have e1:(op==CmpOp.In)=false:=by cases op <;> first | rfl | exact absurd rfl h
 have e2:(op==CmpOp.NotIn)=false:=by cases op <;> first | rfl | exact absurd rfl h2
 cases b <;> simp[behindInMarks,e1,e2]
theorem pe_cmpR {op:CmpOp}{r:R2}(ho:OpR X (compareOp op) r) (ha:PE X a ta) (hb:PE X b tb) (hm:behindInMarks op b=false):PE X (.Compare a [op] [b] pos) (tOp r ta tb):=by
 intro pins s σ H Q I h
 exact wpAny_Compare1 (binT ha hb I h fun v u s2 x y H2 I2 rx ry q=>ho pins s2 σ H2 x y v u Q I2 rx ry q) hm
def tTest (t:TE):TT:=fun σ H Q=>t σ H fun x H'=>∃ k,x = .bl k/\Q k H'
theorem Zb7 {op:CmpOp}{r:R2}(ho:OpR X (compareOp op) r) (ha:PE X a ta) (hb:PE X b tb) (hm:behindInMarks op b=false):PT X (.Compare a [op] [b] pos) (tTest (tOp r ta tb)):=by
 intro pins s σ H Q I h
 refine wpAny_isTrue_Compare1 (thn (ha pins s σ H _ I h) fun v s1 ⟨x,H1,I1,r1,q1⟩=>thn (hb pins s1 σ H1 _ I1 q1) fun u s2 ⟨y,H2,I2,r2,q2⟩=>
  thn (ho pins s2 σ H2 x y v u _ I2 r1 r2 q2) fun c s3 ⟨z,H3,I3,r3,k,e,q3⟩=>?_) hm
 subst e
 cases r3
 exact wpAny_truthy_bool ⟨H3,I3,q3⟩
theorem line63:(sizeLine:Nat)<2 ^ 63:=by rw[sizeLine_eq];decide
theorem Zb3:OpR X (binaryOp .Add) (fun x y H Q=>∃ i j,x = .str i/\y = .str j/\i.length+j.length<=sizeLine/\Q (.str (i++j)) H):=by
 intro pins s σ H x y v u Q I rx ry h
 obtain⟨i,j,rfl,rfl,hz,q⟩:=h
 obtain⟨t,rfl⟩:=rx
 obtain⟨t',rfl⟩:=ry
 exact add_str (fun t' tk=>⟨.str (i++j),H,I.tok _,⟨_,rfl⟩,q⟩) hz
theorem vals1 {x:V}{us:List Value}(r:Vals [x] us):∃ u,us=[u]/\RelV x u:=by
 cases r with
 | cons r1 r2=>cases r2;exact⟨_,rfl,r1⟩
theorem vals2 {x y:V}{us:List Value}(r:Vals [x,y] us):∃ u w',us=[u,w']/\RelV x u/\RelV y w':=by
 cases r with
 | cons r1 r2=>
  cases r2 with
  | cons r3 r4=>cases r4;exact⟨_,_,rfl,r1,r3⟩
theorem call_abs:CallR X (.builtin "abs") (fun xs H Q=>∃ i,xs=[.int i]/\Q (.int (if i<0 then -i else i)) H):=by
 intro pins s σ H xs us Q I r h
 obtain⟨i,rfl,q⟩:=h
 obtain⟨u,rfl,t,rfl⟩:=vals1 r
 exact call_abs_int fun u tk=>⟨.int (if i<0 then -i else i),H,I.tok _,⟨_,rfl⟩,q⟩
theorem call_int1:CallR X (.type "int") (fun xs H Q=>(∃ i,xs=[.int i]/\Q (.int i) H)\/∃ k,xs=[.bl k]/\Q (.int (if k then 1 else 0)) H):=by
 intro pins s σ H xs us Q I r h
 rcases h with⟨i,rfl,q⟩ | ⟨k,rfl,q⟩
 ·obtain⟨u,rfl,t,rfl⟩:=vals1 r
  exact call_int_int ⟨.int i,H,I,⟨_,rfl⟩,q⟩
 ·obtain⟨u,rfl,r1⟩:=vals1 r
  cases r1
  exact call_int_bool ⟨.int (if k then 1 else 0),H,I.tok _,⟨_,rfl⟩,q⟩
theorem call_str_int:CallR X (.type "str") (fun xs H Q=>∃ i,xs=[.int i]/\i.natAbs.log2<1920/\Q (.str (toString i)) H):=by
 intro pins s σ H xs us Q I r h
 obtain⟨i,rfl,hz,q⟩:=h
 obtain⟨u,rfl,t,rfl⟩:=vals1 r
 exact PySem.P.str_of_int hz ⟨.str _,H,I.tok _,⟨_,rfl⟩,q⟩
def LenV (K:PySem.W.Frag) (x:V) (H:Hp) (n:Nat):Prop:=
 match x with
 | .str y=>y.length<=sizeLine/\n=y.length
 | .byt y=>y.size<=sizeLine/\n=y.size
 | .ref p=>(∃ xs,SqL K H p xs/\n=xs.length)\/∃ xs,SqT K H p xs/\n=xs.length
 | _=>False
theorem call_len:CallR X (.builtin "len") (fun xs H Q=>∃ x n,xs=[x]/\LenV X.K x H n/\Q (.int n) H):=by
 intro pins s σ H xs us Q I r h
 obtain⟨x,n,rfl,e,q⟩:=h
 obtain⟨u,rfl,rx⟩:=vals1 r
 have hl:=line63
 have hs:sizeLine=16777216:=sizeLine_eq
 cases x with
 | str y=>
  obtain⟨t,rfl⟩:=rx
  obtain⟨hy,e'⟩:y.length<=sizeLine/\n=y.length:=e
  subst e'
  exact len_str ∅ ⟨.int _,H,I.tok _,⟨_,rfl⟩,q⟩
 | byt y=>
  obtain⟨t,rfl⟩:=rx
  obtain⟨hy,e'⟩:y.size<=sizeLine/\n=y.size:=e
  subst e'
  exact PySem.W.len_bytes ∅ ⟨.int _,H,I.tok _,⟨_,rfl⟩,q⟩
 | ref p=>
  cases rx
  have e':(∃ xs,SqL X.K H p xs/\n=xs.length)\/∃ xs,SqT X.K H p xs/\n=xs.length:=e
  rcases e' with⟨xs,hx,e'⟩ | ⟨xs,hx,e'⟩
  ·subst e'
   obtain⟨its,r',pl,hz⟩:=I.list hx
   have hlen:=r'.length
   exact Calls.call_len_list pl.isList (by simp only[List.size_toArray];omega) ⟨.int xs.length,H,I.tok _,⟨_,by simp only[List.size_toArray];rw[hlen]⟩,q⟩
  ·subst e'
   obtain⟨its,r',pl,hz⟩:=I.tuple hx
   have hlen:=r'.length
   exact len_tuple pl (by simp only[List.size_toArray];omega) ⟨.int xs.length,H,I.tok _,⟨_,by simp only[List.size_toArray];rw[hlen]⟩,q⟩
 | _=>exact (show False from e).elim
end
end L2
namespace L2
open PySem PySem.Spec PyProof.Rows
structure ObjM (h:Heap) (x dx C:Addr) (mA:Str->Option Value):Prop where
 obj:h.get? x=some (PySem.W.instObj C dx)
 ns:h.Ns1 dx mA
 ne:dx≠x
theorem lookIn_ns {h:Heap}{dx:Addr}{mA:Str->Option Value}(n:h.Ns1 dx mA):∃ od,h.get? dx=some od/\∀ name,PySem.W.lookIn name od=some (mA name):=by
 obtain⟨o,es,ep,ho,hd,hk,_,hm⟩:=n
 refine⟨o,ho,fun name=>?_⟩
 have e:=hm name
 unfold nsFind findBy at e
 rw[←Array.find?_toList] at e
 unfold PySem.W.lookIn
 rw[hd]
 dsimp only
 split
 ·rename_i y q
  rw[q] at e
  exact congrArg some e
 ·rename_i q
  rw[q] at e
  have a:es.toList.any (·.refKey)=false:=by
   rw[List.any_eq_false]
   intro y hy
   obtain⟨z,t,hkey⟩:=hk y (Array.mem_toList_iff.mp hy)
   simp[DictEntry.refKey,hkey]
  have a':¬es.toList.any (·.refKey)=true:=by rw[a];exact Bool.false_ne_true
  rw[if_neg a']
  exact congrArg some e
theorem ObjM.look {h:Heap}{x dx C:Addr}{mA:Str->Option Value}(I:ObjM h x dx C mA):∃ od,PySem.W.InstAt h x (PySem.W.instObj C dx) C (some od)/\∀ name,PySem.W.lookIn name od=some (mA name):=
 let ⟨od,ho,hl⟩:=lookIn_ns I.ns
 ⟨od,⟨I.obj,rfl,rfl,ho⟩,hl⟩
section
variable {prog:Program}{w:World}{A:Around}{E:Value->Shared->Prop}{s:Shared}{K:PySem.W.Frag}{x dx C f:Addr}{mA:Str->Option Value}{name:Str}{v:Value}
theorem get_map {expr:Bool}{Q:Value->Shared->Prop}(X:K.In s.heap) (I:ObjM s.heap x dx C mA) (hg:PySem.W.plainGet K C name=true) (hh:PySem.W.hasDictIn K C=true)
  (ha:PySem.W.findIn K (.ref C) name=some none) (hv:mA name=some v) (hv':PySem.W.handedIn v=true) (h:Q v { s with toks:=s.toks+1 }) :
  wpAny (model prog w) A (getAttr (.ref x) name expr) Q E s:=by
 obtain⟨od,J,hl⟩:=I.look
 exact PySem.W.get_value X J (PySem.W.plainGet_of hg).1 (PySem.W.findObj_own hh ha rfl (by rw[hl,hv])) hv' h
theorem get_meth {pl:Sem Bool}{Q:Value×List Value->Shared->Prop}(X:K.In s.heap) (I:ObjM s.heap x dx C mA) (hg:PySem.W.plainGet K C name=true)
  (hf:PySem.W.findIn K (.ref C) name=some (some (.ref f))) (ht:PySem.W.isFn K (.ref f)=true) (hv:mA name=none) (h:Q (.ref f,[.ref x]) s) :
  wpAny (model prog w) A (getMethod (.ref x) name pl) Q E s:=by
 obtain⟨od,J,hl⟩:=I.look
 exact PySem.W.method_fn X J (PySem.W.plainGet_of hg).1 (PySem.W.plainGet_of hg).2 hf (beq_iff_eq.mp ht) (by show (PySem.W.lookIn name od).map (·.isSome)=some false;rw[hl,hv];rfl) h
theorem set_map {ns:List Str}{Q:Unit->Shared->Prop}(X:K.In s.heap) (I:ObjM s.heap x dx C mA)
  (hs:PySem.W.findIn K (.ref C) "__setattr__" = some (some (.builtin "object.__setattr__"))) (hp:PySem.W.plainOver K C=true) (ht:PySem.W.takerIn K C name=some none) (hh:PySem.W.hasDictIn K C=true)
  (hw:PySem.Within mA ns) (hsz:ns.length<=sizeLine)
  (h:∀ h',ObjM h' x dx C (fun y=>if y=name then some v else mA y)->Heap.SameBut dx s.heap h'->Q () { s with heap:=h',toks:=s.toks+2 }) :
  wpAny (model prog w) A (setAttr (.ref x) name v) Q E s:=by
 obtain⟨od,J,hl⟩:=I.look
 refine PySem.W.set_plain X J hs (PySem.W.osa_open (s:={ s with toks:=s.toks+1 }) (r:=none) X J hp ht fun b=>?_)
 obtain⟨cd,hc,hd'⟩:=PySem.W.any_some hh
 have hx:s.heap.get? x=some ⟨.ref C,some dx,.plain,#[]⟩:=I.obj
 refine wpAny_bind (wpAny_pure (wpAny_bind (wpAny_bind (wpAny_loadPart hx (wpAny_bind (PySem.W.Looks.here (s:={ s with toks:=s.toks+1 }) (PySem.W.looks_clsIn X hc) ?_))))))
 rw[hd']
 refine wpAny_pure (a:=some dx) (wpAny_bind (wpAny_pure (wpAny_bind ?_)))
 refine wpAny_nsSet1 (s:={ s with toks:=s.toks+1 }) I.ns fun h' hn2 hs2=>?_
 obtain⟨oD,esD,epD,hoD,hdD,hcD⟩:=hn2.count (PySem.Within.cons name v hw)
 refine wpAny_bind (wpAny_lookBehind hoD (by rw[hdD];exact pastItsLine_dict (Nat.le_trans hcD (by rw[List.length_cons];omega))) ?_)
 exact wpAny_pure (h _ ⟨(hs2.2 _ (Ne.symm I.ne)).trans I.obj,hn2,I.ne⟩ hs2)
theorem make_map {R:Result->Shared->Prop}{vs:List Value}{kw:List (Str×Value)}(X:K.In s.heap) (hm:PySem.W.makesIn K C=true)
  (hi:PySem.W.findIn K (.ref C) "__init__" = some (some (.ref f))) (hf:PySem.W.typeIn K (.ref f)=some (.type "function"))
  (h:codeAny (model prog w) (A.under (.builtin "type.__call__" ⟨.ref C::vs,kw⟩)) (.call (.ref f) ⟨.ref (s.heap.objs.size+1)::vs,kw⟩) (PySem.W.InitBack (s.heap.objs.size+1) R)
   { s with heap:=(s.heap.push PySem.W.emptyDict).push (PySem.W.instObj C s.heap.objs.size) }) :
  codeAny (model prog w) A (.call (.ref C) ⟨vs,kw⟩) R s:=by
 obtain⟨hh,g,d,t,os⟩:=s
 exact PySem.W.make_core (PySem.W.makes_of X hm) (PySem.W.looks_findIn X hi) (fun self=>PySem.W.bind_fn X self hf) (.inl rfl) h
end
def putF (f:Str) (v:V):List (Str×V)->List (Str×V)
 | []=>[(f,v)]
 | (g,x)::r=>if g=f then (g,v)::r else (g,x)::putF f v r
theorem lookup_putF (f g:Str) (v:V):∀ fs:List (Str×V),(putF f v fs).lookup g=if g=f then some v else fs.lookup g
 | []=>by
  show List.lookup g [(f,v)]=_
  by_cases h:g=f
  ·have hb:(g==f)=true:=beq_iff_eq.mpr h
   simp only[List.lookup,hb,if_pos h]
  ·have hb:(g==f)=false:=beq_eq_false_iff_ne.mpr h
   simp only[List.lookup,hb,if_neg h]
 | (k,x)::r=>by
  have ih:=lookup_putF f g v r
  rw[show putF f v ((k,x)::r)=(if k=f then (k,v)::r else (k,x)::putF f v r) from rfl]
  by_cases hk:k=f
  ·rw[if_pos hk]
   by_cases h:g=k
   ·have hb:(g==k)=true:=beq_iff_eq.mpr h
    simp only[List.lookup,hb,if_pos (h.trans hk)]
   ·have hb:(g==k)=false:=beq_eq_false_iff_ne.mpr h
    simp only[List.lookup,hb,if_neg (fun e:g=f=>h (e.trans hk.symm))]
  ·rw[if_neg hk]
   by_cases h:g=k
   ·have hb:(g==k)=true:=beq_iff_eq.mpr h
    simp only[List.lookup,hb,if_neg (fun e:g=f=>hk (h.symm.trans e))]
   ·have hb:(g==k)=false:=beq_eq_false_iff_ne.mpr h
    simp only[List.lookup,hb]
    exact ih
theorem keys_putF (f:Str) (v:V):∀ fs:List (Str×V),f∈(putF f v fs).map (·.1)/\∀ g,g∈fs.map (·.1)->g∈(putF f v fs).map (·.1)
 | []=>⟨by simp[putF],fun g h=>by simp at h⟩
 | (k,x)::r=>by
  obtain⟨i1,i2⟩:=keys_putF f v r
  rw[show putF f v ((k,x)::r)=(if k=f then (k,v)::r else (k,x)::putF f v r) from rfl]
  by_cases hk:k=f
  ·rw[if_pos hk]
   subst hk
   exact⟨by simp,fun g h=>by simpa using h⟩
  ·rw[if_neg hk]
   refine⟨?_,fun g h=>?_⟩
   ·rw[List.map_cons]
    exact List.mem_cons_of_mem _ i1
   ·rw[List.map_cons] at h ⊢
    rcases List.mem_cons.mp h with e | e
    ·exact List.mem_cons.mpr (.inl e)
    ·exact List.mem_cons_of_mem _ (i2 g e)
theorem length_putF (f:Str) (v:V):∀ fs:List (Str×V),(putF f v fs).length<=fs.length+1
 | []=>by simp[putF]
 | (k,x)::r=>by
  have ih:=length_putF f v r
  rw[show putF f v ((k,x)::r)=(if k=f then (k,v)::r else (k,x)::putF f v r) from rfl]
  by_cases hk:k=f
  ·rw[if_pos hk,List.length_cons,List.length_cons];omega
  ·rw[if_neg hk,List.length_cons,List.length_cons];omega
theorem RelO.some_of {v:V}{o:Option Value}(r:RelO (some v) o):∃ u,o=some u/\RelV v u:=by
 cases o with
 | none=>exact (show False from r).elim
 | some u=>exact⟨u,rfl,r⟩
theorem RelO.none_of {o:Option Value}(r:RelO none o):o=none:=by
 cases o with
 | none=>rfl
 | some u=>exact (show False from r).elim
theorem handed_of {v:V}{u:Value}(r:RelV v u):PySem.W.handedIn u=true:=by
 cases v with
 | non=>cases (show u=Value.none from r);rfl
 | bl b=>cases (show u=Value.bool b from r);rfl
 | int i=>obtain⟨t,e⟩:=(show ∃ t,u=Value.int i t from r);cases e;rfl
 | str x=>obtain⟨t,e⟩:=(show ∃ t,u=Value.str x t from r);cases e;rfl
 | byt b=>obtain⟨t,e⟩:=(show ∃ t,u=Value.bytes b t from r);cases e;rfl
 | flt b=>obtain⟨t,e⟩:=(show ∃ t,u=Value.float b t from r);cases e;rfl
 | ref a=>cases (show u=Value.ref a from r);rfl
 | ty n=>cases (show u=Value.type n from r);rfl
section
variable {P:Program}{w:World}{H H':Hp}{h h':Heap}{a C dx:Addr}{fs fs':List (Str×V)}
theorem ins_get (hok:HOk P w H h) (e:H a=some (.ins C dx fs)):∃ mA,ObjM h a dx C mA/\(∀ f,RelO (fs.lookup f) (mA f))/\PySem.Within mA (fs.map (·.1))/\fs.length<=1000/\H dx=some (.own a):=by
 obtain⟨d,z,ne,ob,mA,n,r,q⟩:=(show ObjOk P w H h a (.ins C dx fs) from hok a _ e)
 exact⟨mA,⟨ob,n,ne⟩,r,q,z,d⟩
end
structure Cls (K:PySem.W.Frag) (C:Addr):Prop where
 pg:PySem.W.plainGet K C Str.empty=true
 hd:PySem.W.hasDictIn K C=true
 po:PySem.W.plainOver K C=true
 sa:PySem.W.findIn K (.ref C) "__setattr__" = some (some (.builtin "object.__setattr__"))
theorem Cls.get {K:PySem.W.Frag}{C:Addr}(c:Cls K C) (f:Str):PySem.W.plainGet K C f=true:=c.pg
def NoAttr (K:PySem.W.Frag) (C:Addr) (f:Str):Prop:=PySem.W.findIn K (.ref C) f=some none
theorem NoAttr.taker {K:PySem.W.Frag}{C:Addr}{f:Str}(n:NoAttr K C f):PySem.W.takerIn K C f=some none:=by
 unfold PySem.W.takerIn
 rw[show PySem.W.findIn K (.ref C) f=some none from n]
 rfl
structure Meth (K:PySem.W.Frag) (C:Addr) (m:Str) (f:Addr):Prop where
 at_:PySem.W.findIn K (.ref C) m=some (some (.ref f))
 fn:PySem.W.isFn K (.ref f)=true
 kp:PySem.W.keepIn K (.ref f)=true
section
variable {X:Cx}{pins:List (Addr×Obj)}{σ:St}{H:Hp}{s:Shared}{a C dx:Addr}{fs:List (Str×V)}{f:Str}{v:V}{A:Around}{E:Value->Shared->Prop}
theorem getattr_ok {b:Bool}{Q:Value->Shared->Prop}(I:Inv X pins σ H s) (e:H a=some (.ins C dx fs)) (c:Cls X.K C) (n:NoAttr X.K C f) (l:fs.lookup f=some v)
  (h:∀ u s',Inv X pins σ H s'->RelV v u->Q u s'):wpAny (model X.prog X.w) A (getAttr (.ref a) f b) Q E s:=by
 obtain⟨mA,O,r,_,_,_⟩:=ins_get I.hok e
 obtain⟨u,hu,ru⟩:=RelO.some_of (v:=v) (o:=mA f) (by rw[←l];exact r f)
 exact get_map I.kIn O (c.get f) c.hd n hu (handed_of ru) (h u _ (I.tok _) ru)
theorem getmeth_ok {m:Str}{g:Addr}{pl:Sem Bool}{Q:Value×List Value->Shared->Prop}(I:Inv X pins σ H s) (e:H a=some (.ins C dx fs)) (c:Cls X.K C) (k:Meth X.K C m g) (l:fs.lookup m=none)
  (h:Q (.ref g,[.ref a]) s):wpAny (model X.prog X.w) A (getMethod (.ref a) m pl) Q E s:=by
 obtain⟨mA,O,r,_,_,_⟩:=ins_get I.hok e
 have hn:mA m=none:=RelO.none_of (by rw[←l];exact r m)
 exact get_meth I.kIn O (c.get m) k.at_ k.fn hn h
theorem setattr_ok {y:V}{u:Value}{Q:Unit->Shared->Prop}(I:Inv X pins σ H s) (e:H a=some (.ins C dx fs)) (c:Cls X.K C) (n:NoAttr X.K C f) (hl:fs.length<1000) (ry:RelV y u)
  (h:∀ s',Inv X pins σ (upd H a (.ins C dx (putF f y fs))) s'->Q () s'):wpAny (model X.prog X.w) A (setAttr (.ref a) f u) Q E s:=by
 obtain⟨mA,O,r,wi,_,ho⟩:=ins_get I.hok e
 have hz:(fs.map (·.1)).length<=sizeLine:=by rw[List.length_map,sizeLine_eq];omega
 refine set_map I.kIn O c.sa c.po n.taker c.hd wi hz fun h' O' sb=>h _ ?_
 have hd:∃ o,h'.get? dx=some o:=let ⟨o,_,_,e',_⟩:=O'.ns;⟨o,e'⟩
 refine I.write (x:=a) (e:=dx) (by rw[e];exact True.intro) (.inr ho) (fun b q hb z=>(sb.2 b hb).trans z) hd ?_
 refine⟨by rw[Zb8 O.ne];exact ho,?_,O.ne,O'.obj,_,O'.ns,fun g=>?_,fun g hg=>?_⟩
 ·have:=length_putF f y fs;omega
 ·show RelO ((putF f y fs).lookup g) (if g=f then some u else mA g)
  rw[lookup_putF]
  by_cases q:g=f
  ·rw[if_pos q,if_pos q];exact ry
  ·rw[if_neg q,if_neg q];exact r g
 ·by_cases q:g=f
  ·rw[q];exact (keys_putF f y fs).1
  ·refine (keys_putF f y fs).2 g (wi g fun z=>hg ?_)
   show (if g=f then some u else mA g)=none
   rw[if_neg q];exact z
theorem Inv.made (I:Inv X pins σ H s):Inv X pins σ (upd (upd H s.heap.objs.size (.own (s.heap.objs.size+1))) (s.heap.objs.size+1) (.ins C s.heap.objs.size []))
  { s with heap:=(s.heap.push PySem.W.emptyDict).push (PySem.W.instObj C s.heap.objs.size) }:=by
 have e1:(s.heap.push PySem.W.emptyDict).get? s.heap.objs.size=some PySem.W.emptyDict:=Heap.get?_push_size s.heap rfl
 have e2:((s.heap.push PySem.W.emptyDict).push (PySem.W.instObj C s.heap.objs.size)).get? (s.heap.objs.size+1)=some (PySem.W.instObj C s.heap.objs.size):=by
  have:=Heap.get?_push_size (s.heap.push PySem.W.emptyDict) (o:=PySem.W.instObj C s.heap.objs.size) rfl
  rwa [Heap.size_push] at this
 have e3:(s.heap.push PySem.W.emptyDict).Ns s.heap.objs.size (fun _=>none):=⟨PySem.W.emptyDict,#[],_,e1,rfl,(fun e he=>absurd he (by simp)),fun _=>rfl⟩
 have I1:=I.laid (a:=s.heap.objs.size) (o:=.own (s.heap.objs.size+1)) (h':=s.heap.push PySem.W.emptyDict) (t':=s.toks) (fun b u q=>Heap.get?_push_of_some _ q) (Nat.le_refl _) ⟨_,e1⟩
 refine I1.laid (a:=s.heap.objs.size+1) (o:=.ins C s.heap.objs.size []) (t':=s.toks) (fun b u q=>Heap.get?_push_of_some _ q) (Nat.le_of_eq (Heap.size_push _ _)) ?_
 have ne:s.heap.objs.size≠s.heap.objs.size+1:=Nat.ne_of_lt (Nat.lt_succ_self _)
 refine⟨by rw[Zb8 ne,Za4],Nat.zero_le _,ne,e2,fun _=>none,(Heap.Ns1.of_empty e3).at fun o q=>Heap.get?_push_of_some _ q,fun _=>True.intro,fun y hy=>absurd rfl hy⟩
theorem attr_of {prog:Program}{w:World}{env:Env}{e:Expr}{f:Str}{pos:Pos}{s:Shared}{Q:Value->Shared->Prop}(hb:attributeBase e f env (eval e env)=eval e env)
  (h:wpAny (model prog w) A (eval e env) (fun o s₁=>wpAny (model prog w) A (getAttr o f true) Q E s₁) E s):wpAny (model prog w) A (eval (.Attribute e f pos) env) Q E s:=
 Attribute_any_ h (by rw[arm_eval_Attribute,hb])
end
def tFld (K:PySem.W.Frag) (ta:TE) (f:Str):TE:=fun σ H Q=>ta σ H fun x H1=>∃ a C dx fs v,x = .ref a/\H1 a=some (.ins C dx fs)/\Cls K C/\NoAttr K C f/\fs.lookup f=some v/\Q v H1
def sFld (K:PySem.W.Frag) (ta tv:TE) (f:Str):TS:=fun D σ H=>tv σ H fun y H1=>ta σ H1 fun x H2=>∃ a C dx fs,x = .ref a/\H2 a=some (.ins C dx fs)/\Cls K C/\NoAttr K C f/\fs.length<1000 /\
 D.nx σ (upd H2 a (.ins C dx (putF f y fs)))
section
variable {X:Cx}{o e value:Expr}{f:Str}{pos pos' tpos:Pos}{ta tv:TE}
theorem pe_fld (he:PE X e ta) (hb:attributeBase e f X.env (eval e X.env)=eval e X.env):PE X (.Attribute e f pos) (tFld X.K ta f):=by
 intro pins s σ H Q I h
 refine attr_of hb (thn (he pins s σ H _ I h) fun u s1 ⟨x,H1,I1,rx,a,C,dx,fs,v,ex,ea,c,n,l,q⟩=>?_)
 subst ex
 obtain rfl:u=Value.ref a:=rx
 exact getattr_ok I1 ea c n l fun u' s2 I2 ru=>⟨v,H1,I2,ru,q⟩
theorem ps_fld (ha:PE X o ta) (hv:PE X value tv) (hs:swapsWith value (some (.Attribute o f pos')) pos.line X.env=pure false):PS X (.Assign [.Attribute o f pos'] value pos) (sFld X.K ta tv f):=by
 intro pins s σ H D I h
 refine plainObj_wpAny_Assign_Attribute (thn (hv pins s σ H _ I h) fun u s1 ⟨y,H1,I1,ry,q⟩=>thn (ha pins s1 σ H1 _ I1 q) fun ov s2 ⟨x,H2,I2,rx,a,C,dx,fs,ex,ea,c,n,l,q2⟩=>?_) hs
 subst ex
 obtain rfl:ov=Value.ref a:=rx
 exact setattr_ok I2 ea c n l ry fun s3 I3=>⟨σ,_,I3,q2⟩
end
section
variable {X:Cx}{pins:List (Addr×Obj)}{σ:St}{H:Hp}{s:Shared}{A:Around}{E:Value->Shared->Prop}{Q:Value->Shared->Prop}{c:Value}{b:Bool}
inductive TyOf (K:PySem.W.Frag) (H:Hp):V->Value->Prop where
 | non:TyOf K H .non (.type "NoneType")
 | bl (x:Bool):TyOf K H (.bl x) (.type "bool")
 | int (i:Int):TyOf K H (.int i) (.type "int")
 | str (x:Str):TyOf K H (.str x) (.type "str")
 | flt (x:UInt64):TyOf K H (.flt x) (.type "float")
 | lst {a:Addr} {xs:List V} (e:H a=some (.lst xs)):TyOf K H (.ref a) (.type "list")
 | frz {a:Addr} {o:Obj} {xs:List V} (e:H a=some (.frz o (.lst xs))):TyOf K H (.ref a) (.type "list")
 | tup {a:Addr} {xs:List V} (e:H a=some (.tup xs)):TyOf K H (.ref a) (.type "tuple")
 | dK {a:Addr} {kvs:List (Key×V)} (e:H a=some (.dK kvs)):TyOf K H (.ref a) (.type "dict")
 | dT {a:Addr} {kvs:List (List Key×V)} (e:H a=some (.dT kvs)):TyOf K H (.ref a) (.type "dict")
 | ins {a C dx:Addr} {fs:List (Str×V)} (e:H a=some (.ins C dx fs)) (cl:Cls K C) (ha:PySem.W.findIn K (.ref C) "__class__" = some (some (.builtin "object.__class__")))
   (hn:PySem.W.specialIn K (.builtin "object.__class__") "__get__" = some (some (.builtin "getset_descriptor.__get__"))) (htk:PySem.W.takesIn K (.builtin "object.__class__")=some true)
   (hm:PySem.W.mroIn K C (.type "object")=some true):TyOf K H (.ref a) (.ref C)
theorem isinst_ok {x:V}{u t:Value}(I:Inv X pins σ H s) (rx:RelV x u) (ty:TyOf X.K H x t) (e:PySem.W.kitOne X.K t c=some b) (h:∀ tk,Q (.bool b) { s with toks:=tk }) :
  wpAny (model X.prog X.w) A (call (.builtin "isinstance") [u,c]) Q E s:=by
 cases ty with
 | non=>cases (show u=Value.none from rx);exact PySem.W.kia_one PySem.W.kitx_none I.kIn True.intro e (fun z=>nomatch z) h
 | bl y=>cases (show u=Value.bool y from rx);exact PySem.W.kia_one PySem.W.kitx_bool I.kIn True.intro e (fun z=>nomatch z) h
 | int i=>obtain⟨t,q⟩:=(show ∃ t,u=Value.int i t from rx);cases q;exact PySem.W.kia_one PySem.W.kitx_int I.kIn True.intro e (fun z=>nomatch z) h
 | str y=>obtain⟨t,q⟩:=(show ∃ t,u=Value.str y t from rx);cases q;exact PySem.W.kia_one PySem.W.kitx_str I.kIn True.intro e (fun z=>nomatch z) h
 | flt y=>obtain⟨t,q⟩:=(show ∃ t,u=Value.float y t from rx);cases q;exact PySem.W.kia_one PySem.W.kitx_float I.kIn True.intro e (fun z=>nomatch z) h
 | @lst a xs ea=>
  cases (show u=Value.ref a from rx)
  obtain⟨_,_,n,_,h1⟩:=(show ObjOk X.prog X.w H s.heap a (.lst xs) from I.hok a _ ea)
  exact PySem.W.kia_one PySem.W.kitx_list I.kIn ⟨_,h1,rfl⟩ e (fun z=>nomatch z) h
 | @frz a ob xs ea=>
  cases (show u=Value.ref a from rx)
  obtain⟨_,_,_,n,_,h1⟩:=(show ObjOk X.prog X.w H s.heap a (.frz ob (.lst xs)) from I.hok a _ ea)
  exact PySem.W.kia_one PySem.W.kitx_list I.kIn ⟨_,h1,rfl⟩ e (fun z=>nomatch z) h
 | @tup a xs ea=>
  cases (show u=Value.ref a from rx)
  obtain⟨_,_,_,p⟩:=(show ObjOk X.prog X.w H s.heap a (.tup xs) from I.hok a _ ea)
  obtain⟨o,h1,h2,_⟩:=p
  exact PySem.W.kia_one PySem.W.kitx_tuple I.kIn ⟨o,h1,h2⟩ e (fun z=>nomatch z) h
 | @dK a kvs ea=>
  cases (show u=Value.ref a from rx)
  obtain⟨_,_,vs,_,p⟩:=(show ObjOk X.prog X.w H s.heap a (.dK kvs) from I.hok a _ ea)
  obtain⟨o,es,ep,h1,h2,_⟩:=p
  exact PySem.W.kia_one PySem.W.kitx_dict I.kIn ⟨o,h1,h2.1⟩ e (fun z=>nomatch z) h
 | @dT a kvs ea=>
  cases (show u=Value.ref a from rx)
  obtain⟨_,_,xs,_,o,es,ep,h1,h2,_⟩:=(show ObjOk X.prog X.w H s.heap a (.dT kvs) from I.hok a _ ea)
  exact PySem.W.kia_one PySem.W.kitx_dict I.kIn ⟨o,h1,h2.1⟩ e (fun z=>nomatch z) h
 | @ins a C dx fs ea cl ha hn htk hm=>
  cases (show u=Value.ref a from rx)
  obtain⟨mA,O,_⟩:=ins_get I.hok ea
  obtain⟨od,J,_⟩:=O.look
  exact PySem.W.kia_one (PySem.W.kitx_own (cl.get _) cl.hd ha hn htk hm) I.kIn J e (fun z=>nomatch z) h
end
end L2
namespace L2
open PySem PySem.Spec PyProof.Rows
structure Room (k:Nat) (A:Around):Prop where
 hd:A.handled=none
 dp:A.depth+3*k+5<recursionLimit
 un:A.units+16*k+200<cLine
theorem Room.mono {j k:Nat}{A:Around}(r:Room k A) (h:j<=k):Room j A:=⟨r.hd,by have:=r.dp;omega,by have:=r.un;omega⟩
theorem Room.deeper {k:Nat}{A:Around}(r:Room (k+1) A) (env:Env):Room k (A.deeper env):=
 ⟨r.hd,by have:=r.dp;show A.depth+1+3*k+5<_;omega,by have:=r.un;show A.units+3+16*k+200<_;omega⟩
theorem make_depth {A:Around}{C:Addr}{us:List Value}{kw:List (Str×Value)}:(A.under (.builtin "type.__call__" ⟨.ref C::us,kw⟩)).depth=A.depth+1:=by
 first | rfl | simp[Around.under,Code.weight,Code.isCreation,Code.isGuard,Code.isCaller,Code.frames,Code.isFrame,guardIds]
theorem make_units {A:Around}{C:Addr}{us:List Value}{kw:List (Str×Value)}:(A.under (.builtin "type.__call__" ⟨.ref C::us,kw⟩)).units=A.units+1:=by
 first | rfl | simp[Around.under,Code.cUnits,Code.frames,Code.isFrame]
theorem Room.make {k:Nat}{A:Around}(r:Room (k+1) A) (C:Addr) (us:List Value) (kw:List (Str×Value)):Room k (A.under (.builtin "type.__call__" ⟨.ref C::us,kw⟩)):=
 ⟨r.hd,by have:=r.dp;rw[make_depth];omega,by have:=r.un;rw[make_units];omega⟩
theorem Room.depth {k:Nat}{A:Around}(r:Room k A):A.depth<recursionLimit:=by have:=r.dp;omega
theorem Room.units {k:Nat}{A:Around}(r:Room k A):A.units+64<cLine:=by have:=r.un;omega
def tNil:TA:=fun _ H Q=>Q [] H
def tCons (ta:TE) (tr:TA):TA:=fun σ H Q=>ta σ H fun x H1=>tr σ H1 fun xs H2=>Q (x::xs) H2
section
variable {X:Cx}{e:Expr}{es:List Expr}{te:TE}{t:TA}{pos:Pos}
theorem Za2:PA X [] tNil:=fun _ _ _ _ H Q I h=>Calls.spliced_nil ⟨[],H,I,.nil,h⟩
theorem Za0 (ha:PE X e te) (hr:PA X es t) (hs:starEach (e::es) X.env=(false,eval e X.env)::starEach es X.env:=by rfl):PA X (e::es) (tCons te t):=by
 intro pos pins s σ H Q I h
 rw[hs]
 show wpAny _ _ (spliced ((false,eval e X.env)::backTo pos (starEach es X.env))) _ _ s
 refine Calls.spliced_cons (thn (ha pins s σ H _ I h) fun u s1 ⟨x,H1,I1,r1,q1⟩=>?_)
 exact thn (hr pos pins s1 σ H1 _ I1 q1) fun us s2 ⟨xs,H2,I2,r2,q2⟩=>⟨x::xs,H2,I2,.cons r1 r2,q2⟩
def tTup (t:TA):TE:=fun σ H Q=>t σ H fun xs H1=>xs.length<=sizeLine/\∀ p,H1 p=none->Q (.ref p) (upd H1 p (.tup xs))
def tLst (t:TA):TE:=fun σ H Q=>t σ H fun xs H1=>xs.length<=sizeLine/\∀ p,H1 p=none->Q (.ref p) (upd H1 p (.lst xs))
theorem pe_tup {x1}(h:PA X es t):PE X (.Tuple es x1 pos) (tTup t):=by
 intro pins s σ H Q I hq
 refine wpAny_Tuple_spliced (thn (h pos pins s σ H _ I hq) fun us s1 ⟨xs,H1,I1,r,z,q⟩=>⟨by rw[←r.length];exact z,?_⟩)
 have hf:H1 s1.heap.objs.size=none:=I1.hok.fresh (Nat.le_refl _)
 refine⟨.ref s1.heap.objs.size,upd H1 s1.heap.objs.size (.tup xs),I1.laid (t':=s1.toks) (fun b u e=>Heap.get?_push_of_some _ e) (Nat.le_refl _) ?_,rfl,q _ hf⟩
 exact⟨z,us,r,⟨_,Heap.get?_push_size _ rfl,rfl,_,rfl⟩⟩
theorem pe_lst (h:PA X es t):PE X (.List es pos) (tLst t):=by
 intro pins s σ H Q I hq
 refine wpAny_List_spliced (thn (h pos pins s σ H _ I hq) fun us s1 ⟨xs,H1,I1,r,z,q⟩=>⟨by rw[←r.length];exact z,?_⟩)
 have hf:H1 s1.heap.objs.size=none:=I1.hok.fresh (Nat.le_refl _)
 refine⟨.ref s1.heap.objs.size,upd H1 s1.heap.objs.size (.lst xs),I1.laid (t':=s1.toks) (fun b u e=>Heap.get?_push_of_some _ e) (Nat.le_refl _) ?_,rfl,q _ hf⟩
 exact⟨z,us,0,r,Heap.get?_push_size _ rfl⟩
end
abbrev Sp:=List V->Hp->VK->XK->Prop
abbrev CXT:=List Env->Hp->Shared->XK->Value->Shared->Prop
structure Env0 (P:Program) (w:World) (K:PySem.W.Frag) (mg:Str->Option Value) (base:Heap) (A:Around) (outer:List Env) (s:Shared) (H:Hp):Prop where
 frames:A.frames=some outer
 mod:Mod K mg base
 bs:∀ b o,base.get? b=some o->s.heap.get? b=some o/\H b=none
 bsz:base.objs.size<=s.heap.objs.size
 funs:s.heap.FunFrames base outer
 frf:∀ b∈frs outer,H b=none
 hok:HOk P w H s.heap
 bare:AllBare s.gens
def CE (outer:List Env) (P:Program) (w:World) (H:Hp) (s:Shared) (Q:VK) (u:Value) (s':Shared):Prop:=
 ∃ v H',s'.os=s.os/\AllBare s'.gens/\Un (frs outer) [] H H' s.heap s'.heap/\HOk P w H' s'.heap/\RelV v u/\Q v H'
def CR (CX:CXT) (outer:List Env) (P:Program) (w:World) (H:Hp) (s:Shared) (Q:VK) (E:XK) (r:Result) (s':Shared):Prop:=
 match r with
 | .ok (.ret u)=>CE outer P w H s Q u s'
 | .ok _=>False
 | .error e=>CX outer H s E e s'
structure FnOk (P:Program) (w:World) (K:PySem.W.Frag) (mg:Str->Option Value) (base:Heap) (CX:CXT) (k:Nat) (f:Addr) (fd:FuncData) (ps:List Str) (sp:Sp):Prop where
 len:∀ vs H Q E,sp vs H Q E->vs.length=ps.length
 run:∀ (A:Around) (outer:List Env) (s:Shared) (H:Hp) (args:Args) (us:List Value) (vs:List V) (Q:VK) (E:XK),Room k A->Env0 P w K mg base A outer s H->BindsTo s fd args (ps.zip us)->Vals vs us->sp vs H Q E ->
  codeAny (model P w) A (.call (.ref f) args) (CR CX outer P w H s Q E) s
theorem Env0.make {P:Program}{w:World}{K:PySem.W.Frag}{mg:Str->Option Value}{base:Heap}{A:Around}{outer:List Env}{s:Shared}{H:Hp}(e:Env0 P w K mg base A outer s H) (C:Addr) (us:List Value) (kw:List (Str×Value)) :
  Env0 P w K mg base (A.under (.builtin "type.__call__" ⟨.ref C::us,kw⟩)) outer s H:=⟨by first | exact e.frames | (simpa [Around.under,Code.envs,Code.isFrame,pushEnvs] using e.frames),e.mod,e.bs,e.bsz,e.funs,e.frf,e.hok,e.bare⟩
section
variable {X:Cx}{pins:List (Addr×Obj)}{σ:St}{H:Hp}{s s':Shared}
theorem Inv.env0 (I:Inv X pins σ H s):Env0 X.prog X.w X.K X.mg X.base X.A X.stack s H:=
 ⟨I.ok.frames,I.ok.mod,I.bs,Nat.le_trans I.ok.bsz I.sz,I.stack,I.stkFree,I.hok,I.bare⟩
theorem Inv.after {Q:VK}{u:Value}(I:Inv X pins σ H s) (h:CE X.stack X.prog X.w H s Q u s'):EP X pins σ Q u s':=by
 obtain⟨v,H',os,bare,un,hok,r,q⟩:=h
 obtain⟨hh,g,d,t,os'⟩:=s'
 obtain rfl:os'=s.os:=os
 exact⟨v,H',I.call (h':=hh) (g':=g) (d':=d) (t':=t) (ch:=[]) un hok bare (fun b z=>absurd z (by simp)),r,q⟩
end
def tCall (sp:Sp) (dvs:List V) (E:XK) (t:TA):TE:=fun σ H Q=>t σ H fun vs H1=>sp (vs++dvs) H1 Q E
def tMake (C:Addr) (sp:Sp) (dvs:List V) (E:XK) (t:TA):TE:=fun σ H Q=>t σ H fun vs H1=>∀ x dx,H1 x=none->H1 dx=none->dx≠x ->
 sp (.ref x::(vs++dvs)) (upd (upd H1 dx (.own x)) x (.ins C dx [])) (fun v H2=>v = .non/\Q (.ref x) H2) E
def Binds (K:PySem.W.Frag) (fd:FuncData) (ps:List Str) (ds:List Value):Prop:=
 ∀ (s:Shared) (us:List Value),K.In s.heap->(us++ds).length=ps.length->BindsTo s fd ⟨us,[]⟩ (ps.zip (us++ds))
theorem Binds.all {K:PySem.W.Frag}{fd:FuncData}{ps:List Str}(h:∀ us:List Value,us.length=ps.length->bindArgs fd ⟨us,[]⟩=pure (ps.zip us)):Binds K fd ps []:=fun s us _ hl=>by
 rw[List.append_nil] at hl ⊢
 exact .of_eq (h us hl)
def Passes (CX:CXT) (X:Cx) (E:XK):Prop:=∀ (pins:List (Addr×Obj)) (σ:St) (H:Hp) (s:Shared) (e:Value) (s':Shared),Inv X pins σ H s->CX X.stack H s E e s'->X.xe e s'
section
variable {X:Cx}{CX:CXT}{k:Nat}{f C:Addr}{fd:FuncData}{ps:List Str}{sp:Sp}{dvs:List V}{ds:List Value}{E:XK}{x m:Str}{p pos apos:Pos}{e o:Expr}{es:List Expr}{ta:TE}{t:TA}
theorem run_fn {pins:List (Addr×Obj)}{σ:St}{H:Hp}{s:Shared}{Q:VK}{us:List Value}{vs:List V}(F:FnOk X.prog X.w X.K X.mg X.base CX k f fd ps sp) (hr:Room k X.A) (hb:Binds X.K fd ps ds) (hd:Vals dvs ds) (hx:Passes CX X E)
  (I:Inv X pins σ H s) (r:Vals vs us) (h:sp (vs++dvs) H Q E):wpAny (model X.prog X.w) X.A (call (.ref f) us) (EP X pins σ Q) X.xe s:=by
 have r2:Vals (vs++dvs) (us++ds):=r.append hd
 have hl:(us++ds).length=ps.length:=by rw[←r2.length];exact F.len _ _ _ _ h
 refine wpAny_call (codeAny_mono (F.run X.A X.stack s H ⟨us,[]⟩ (us++ds) (vs++dvs) Q E hr I.env0 (hb s us I.kIn hl) r2 h) fun r s' hq=>?_)
 cases r with
 | error e=>exact hx pins σ H s e s' I hq
 | ok fl=>
  cases fl with
  | ret u=>exact I.after hq
  | next=>exact False.elim hq
  | brk=>exact False.elim hq
  | cont=>exact False.elim hq
theorem pe_call (F:FnOk X.prog X.w X.K X.mg X.base CX k f fd ps sp) (hr:Room k X.A) (hg:Gl X x) (hm:X.mg x=some (.ref f)) (hk:PySem.W.keepIn X.K (.ref f)=true) (hb:Binds X.K fd ps ds) (hd:Vals dvs ds) (hx:Passes CX X E)
  (ha:PA X (e::es) t) (hdb:(x==("__debug__" : Str))=false:=by decide) (he:starEach (e::es) X.env=(false,eval e X.env)::starEach es X.env:=by rfl) (hpl:(backTo pos (starEach es X.env)).any (·.1)=false:=by rfl) :
  PE X (.Call (.Name x p) (e::es) [] pos) (tCall sp dvs E t):=by
 intro pins s σ H Q I h
 refine wpAny_Call_Name_kw (ld_glob I hg hm ?_ hdb)
 refine PySem.W.callWith_K (h₀:=X.base) I.ok.mod.kin hk (thn (ha pos pins s σ H _ I h) fun us s1 ⟨vs,H1,I1,r,q⟩=>⟨I1.kIn,?_⟩) he hpl
 exact run_fn F hr hb hd hx I1 r q
structure Mk (K:PySem.W.Frag) (C f:Addr):Prop where
 makes:PySem.W.makesIn K C=true
 init:PySem.W.findIn K (.ref C) "__init__" = some (some (.ref f))
 fn:PySem.W.isFn K (.ref f)=true
 kp:PySem.W.keepIn K (.ref C)=true
theorem run_make {pins:List (Addr×Obj)}{σ:St}{H:Hp}{s:Shared}{Q:VK}{us:List Value}{vs:List V}(M:Mk X.K C f) (F:FnOk X.prog X.w X.K X.mg X.base CX k f fd ps sp) (hr:Room (k+1) X.A) (hb:Binds X.K fd ps ds) (hd:Vals dvs ds)
  (hx:Passes CX X E) (I:Inv X pins σ H s) (r:Vals vs us)
  (h:∀ x dx,H x=none->H dx=none->dx≠x->sp (.ref x::(vs++dvs)) (upd (upd H dx (.own x)) x (.ins C dx [])) (fun v H2=>v = .non/\Q (.ref x) H2) E) :
  wpAny (model X.prog X.w) X.A (call (.ref C) us) (EP X pins σ Q) X.xe s:=by
 have hq:=h (s.heap.objs.size+1) s.heap.objs.size (I.hok.fresh (Nat.le_succ _)) (I.hok.fresh (Nat.le_refl _)) (Nat.ne_of_lt (Nat.lt_succ_self _))
 have I2:=Inv.made (C:=C) I
 have r2:Vals (V.ref (s.heap.objs.size+1)::(vs++dvs)) (Value.ref (s.heap.objs.size+1)::(us++ds)):=.cons rfl (r.append hd)
 have hl:(Value.ref (s.heap.objs.size+1)::us++ds).length=ps.length:=by
  have e:=r2.length
  rw[F.len _ _ _ _ hq] at e
  exact e.symm
 refine wpAny_call (make_map (f:=f) I.kIn M.makes M.init (beq_iff_eq.mp M.fn) (codeAny_mono (F.run _ X.stack _ _ ⟨Value.ref (s.heap.objs.size+1)::us,[]⟩ (Value.ref (s.heap.objs.size+1)::(us++ds)) _ _ E (hr.make C us [])
  (I2.env0.make C us []) (hb _ (Value.ref (s.heap.objs.size+1)::us) I2.kIn hl) r2 hq) fun r s' hq'=>?_))
 cases r with
 | error e=>exact hx pins σ _ _ e s' I2 hq'
 | ok fl=>
  cases fl with
  | ret u=>
   obtain⟨v,H',I3,rv,ev,q3⟩:=I2.after hq'
   subst ev
   exact⟨rv,⟨V.ref (s.heap.objs.size+1),H',I3,rfl,q3⟩⟩
  | next=>exact False.elim hq'
  | brk=>exact False.elim hq'
  | cont=>exact False.elim hq'
theorem pe_make (M:Mk X.K C f) (F:FnOk X.prog X.w X.K X.mg X.base CX k f fd ps sp) (hr:Room (k+1) X.A) (hg:Gl X x) (hm:X.mg x=some (.ref C)) (hb:Binds X.K fd ps ds) (hd:Vals dvs ds) (hx:Passes CX X E)
  (ha:PA X (e::es) t) (hdb:(x==("__debug__" : Str))=false:=by decide) (he:starEach (e::es) X.env=(false,eval e X.env)::starEach es X.env:=by rfl) (hpl:(backTo pos (starEach es X.env)).any (·.1)=false:=by rfl) :
  PE X (.Call (.Name x p) (e::es) [] pos) (tMake C sp dvs E t):=by
 intro pins s σ H Q I h
 refine wpAny_Call_Name_kw (ld_glob I hg hm ?_ hdb)
 refine PySem.W.callWith_K (h₀:=X.base) I.ok.mod.kin M.kp (thn (ha pos pins s σ H _ I h) fun us s1 ⟨vs,H1,I1,r,q⟩=>⟨I1.kIn,?_⟩) he hpl
 exact run_make M F hr hb hd hx I1 r q
end
section
variable {X:Cx}{CX:CXT}{k:Nat}{f C:Addr}{fd:FuncData}{ps ks:List Str}{sp:Sp}{E:XK}{x m:Str}{p pos apos kpos:Pos}{e o:Expr}{es:List Expr}{kws:List Keyword}{te ta:TE}{t tk:TA}{nm:Option Str}
variable {g:List Value->List Value->List Value}{gV:List V->List V->List V}
end
structure Zb0 (N P:List Str) (sc:Scope):Prop where
 kind:sc.kind = .function
 co:sc.isCoroutine=false
 gen:sc.isGenerator=false
 nd:N.Nodup
 pre:N.take P.length=P
 par:∀ x∈P,sc.names.lookup x=some .local\/sc.names.lookup x=some .cell
 nofree:∀ y∈sc.names,y.2 ≠ .free
theorem bindL_out {kindOf:Str->Option NameKind}{x:Str}:∀ {binds:List (Str×Value)}{m:Str->Option Value},(∀ v,(x,v)∉binds)->bindL kindOf binds m x=m x
 | [],_,_=>rfl
 | (n,v)::r,m,h=>by
  unfold bindL
  rw[bindL_out fun w hw=>h w (List.mem_cons_of_mem _ hw)]
  split
  ·have:x≠n:=by rintro rfl;exact h v List.mem_cons_self
   simp[this]
  ·rfl
theorem bindC_out {kindOf:Str->Option NameKind}{x:Str}:∀ {binds:List (Str×Value)}{m:Str->Option Value},(∀ v,(x,v)∉binds)->bindC kindOf binds m x=m x
 | [],_,_=>rfl
 | (n,v)::r,m,h=>by
  unfold bindC
  rw[bindC_out fun w hw=>h w (List.mem_cons_of_mem _ hw)]
  split
  ·rfl
  ·have:x≠n:=by rintro rfl;exact h v List.mem_cons_self
   simp[this]
theorem bindL_get {kindOf:Str->Option NameKind}{x:Str}{v:Value}:∀ {P:List Str}{vs:List Value}{i:Nat}{m:Str->Option Value},P.Nodup->P[i]? = some x->vs[i]? = some v->kindOf x=some .local ->
  bindL kindOf (P.zip vs) m x=some v
 | [],_,_,_,_,h,_,_=>by simp at h
 | _::_,[],_,_,_,_,h,_=>by simp at h
 | p::P,w::vs,0,m,nd,h1,h2,hk=>by
  simp at h1 h2;subst h1;subst h2
  show bindL kindOf ((p,w)::P.zip vs) m p=_
  unfold bindL
  rw[bindL_out fun v hv=>(List.nodup_cons.mp nd).1 (List.of_mem_zip hv).1,if_pos hk]
  simp
 | p::P,w::vs,i+1,m,nd,h1,h2,hk=>by
  show bindL kindOf ((p,w)::P.zip vs) m x=_
  unfold bindL
  exact bindL_get (i:=i) (List.nodup_cons.mp nd).2 (by simpa using h1) (by simpa using h2) hk
theorem bindC_get {kindOf:Str->Option NameKind}{x:Str}{v:Value}:∀ {P:List Str}{vs:List Value}{i:Nat}{m:Str->Option Value},P.Nodup->P[i]? = some x->vs[i]? = some v->kindOf x≠some .local ->
  bindC kindOf (P.zip vs) m x=some v
 | [],_,_,_,_,h,_,_=>by simp at h
 | _::_,[],_,_,_,_,h,_=>by simp at h
 | p::P,w::vs,0,m,nd,h1,h2,hk=>by
  simp at h1 h2;subst h1;subst h2
  show bindC kindOf ((p,w)::P.zip vs) m p=_
  unfold bindC
  rw[bindC_out fun v hv=>(List.nodup_cons.mp nd).1 (List.of_mem_zip hv).1,if_neg hk]
  simp
 | p::P,w::vs,i+1,m,nd,h1,h2,hk=>by
  show bindC kindOf ((p,w)::P.zip vs) m x=_
  unfold bindC
  exact bindC_get (i:=i) (List.nodup_cons.mp nd).2 (by simpa using h1) (by simpa using h2) hk
def start (N:List Str) (vs:List V):St:=vs.map some++List.replicate (N.length-vs.length) none
def cxOf (CX:CXT) (P:Program) (w:World) (K:PySem.W.Frag) (mg:Str->Option Value) (base:Heap) (N:List Str) (qual:Str) (scope:Scope) (f:Addr) (cd:Value) (A:Around) (outer:List Env) (s:Shared) (H:Hp) (E:XK):Cx where
 prog:=P
 w:=w
 K:=K
 mg:=mg
 base:=base
 A:=A.deeper (envOfC qual scope s.heap.objs.size f cd)
 N:=N
 s₀:=s
 H₀:=H
 env:=envOfC qual scope s.heap.objs.size f cd
 outer:=outer
 stack:=envOfC qual scope s.heap.objs.size f cd::outer
 ex:=[]
 calm:=true
 fn:=fun _=>true
 pn:=[]
 xe:=fun e s'=>wpAny (model P w) (A.deeper (envOfC qual scope s.heap.objs.size f cd)) (leaving (envOfC qual scope s.heap.objs.size f cd) e) (fun _ s''=>CX outer H s E e s'') (fun e' s''=>CX outer H s E e' s'') s'
theorem cell_has {sc:Scope}{n:Nat}{x:Str}(h:sc.names.lookup x=some .cell):∃ c,(cellsFrom n sc.names []).lookup x=some c:=by
 have q:=PySem.W.cellsFrom_some sc.names n [] (.inl h)
 exact Option.isSome_iff_exists.mp q
theorem inv_start {CX:CXT}{P:Program}{w:World}{K:PySem.W.Frag}{mg:Str->Option Value}{base:Heap}{N ps:List Str}{qual:Str}{scope:Scope}{f:Addr}{cd:Value}{A:Around}{outer:List Env}{s s1:Shared}{H:Hp}{E:XK}{us:List Value}{vs:List V}
  (S:Zb0 N ps scope) (hd:A.handled=none) (e0:Env0 P w K mg base A outer s H) (hl:vs.length=ps.length) (r:Vals vs us)
  (x:InCallC s s.heap.objs.size (bindL (envOfC qual scope s.heap.objs.size f cd).kindOf (ps.zip us) fun _=>none) (cellsFrom (s.heap.objs.size+1) scope.names []) (bindC (envOfC qual scope s.heap.objs.size f cd).kindOf (ps.zip us) fun _=>none) s1) :
  Inv (cxOf CX P w K mg base N qual scope f cd A outer s H E) [] (start N vs) H s1:=by
 have hpl:ps.length<=N.length:=by have:=congrArg List.length S.pre;rw[List.length_take] at this;omega
 obtain⟨h1,tk,rfl,hk⟩:=x.done
 have noA:∀ b:Addr,b∉(cxOf CX P w K mg base N qual scope f cd A outer s H E).ex:=fun b z=>absurd (show b∈([]:List Addr) from z) (by simp)
 refine⟨⟨e0.mod,S.kind,rfl,rfl,Nat.le_refl _,fun y z c h1 h2=>?_,fun y hy=>?_,fun y c _ h=>?_,fun _=>hd,Around.frames_deeper e0.frames,.inr ⟨rfl,rfl⟩,fun b z=>absurd z (noA b),e0.bs,e0.bsz,fun b _ _=>noA b,fun b z=>absurd z (noA b),e0.funs,e0.frf⟩,
  rfl,e0.bare,Un.kept hk,⟨_,x.toInCall.ns,fun i y v h1 h2 h3=>?_⟩,fun y c h=>⟨_,x.cell y c h⟩,e0.hok.fresh (Nat.le_refl _),fun y c h=>?_,fun p hp=>absurd (show p∈([]:List (Addr×Obj)) from hp) (by simp),e0.hok.kept hk,?_⟩
 ·exact name_of_addr x.apart (PySem.mem_of_lookup h1) (PySem.mem_of_lookup h2)
 ·have hy:scope.names.lookup y=some .cell\/scope.names.lookup y=some .free:=hy
  rcases hy with hy | hy
  ·exact cell_has hy
  ·exact absurd rfl (S.nofree _ (PySem.mem_of_lookup hy))
 ·exact Nat.le_of_lt (x.above y c (PySem.mem_of_lookup h))
 ·have hi:i<vs.length:=by
   unfold start at h2
   by_cases hi:i<vs.length
   ·exact hi
   ·rw[List.getElem?_append_right (by simpa using hi)] at h2
    rw[List.getElem?_replicate] at h2
    split at h2 <;> cases h2
  have ha:vs[i]? = some v:=by
   unfold start at h2
   rw[List.getElem?_append_left (by simpa using hi),List.getElem?_map] at h2
   cases e:vs[i]? with
   | none=>rw[e] at h2;cases h2
   | some a=>rw[e] at h2;cases h2;rfl
  obtain⟨u,hu,rv⟩:=r.get ha
  have hp:ps[i]? = some y:=by
   rw[←S.pre,List.getElem?_take_of_lt ∅];exact h1
  have ndP:ps.Nodup:=by rw[←S.pre];exact S.nd.sublist (List.take_sublist _ _)
  refine⟨u,rv,?_⟩
  rcases S.par y (List.mem_of_getElem? hp) with k | k
  ·exact .inl ⟨k,bindL_get ndP hp hu k⟩
  ·obtain⟨c,e⟩:=cell_has (n:=s.heap.objs.size+1) k
   refine .inr ⟨.inl k,c,e,?_⟩
   have q:=x.cell y c e
   rw[bindC_get ndP hp hu (by show scope.names.lookup y≠_;rw[k];decide)] at q
   exact q
 ·exact e0.hok.fresh (Nat.le_of_lt (x.above y c (PySem.mem_of_lookup h)))
 ·unfold start
  show _=N.length
  rw[List.length_append,List.length_map,List.length_replicate]
  omega
theorem fn_of {CX:CXT}{P:Program}{w:World}{K:PySem.W.Frag}{mg:Str->Option Value}{base:Heap}{k:Nat}{f:Addr}{name qual:Str}{params:Arguments}{body:List Stmt}{scope:Scope}{dV kV doc pm cdv ct oc:Value}{an od:Option Addr}
  {osl:Array (Option Value)} {N ps:List Str} {sp:Sp} (lk:K.lookup f=some ⟨oc,od,.func (PySem.W.fnOf name qual params body scope dV kV doc pm an cdv ct),osl⟩) (hcd:PySem.W.codeIn K cdv qual=true) (S:Zb0 N ps scope)
  (len:∀ vs H Q E,sp vs H Q E->vs.length=ps.length)
  (hbody:∀ (A:Around) (outer:List Env) (s:Shared) (H:Hp) (vs:List V) (Q:VK) (E:XK),Room k (A.deeper (envOfC qual scope s.heap.objs.size f cdv))->sp vs H Q E ->
   ∃ t,PSs (cxOf CX P w K mg base N qual scope f cdv A outer s H E) body t/\t { nx:=fun _ H'=>Q .non H',rt:=Q } (start N vs) H) :
  FnOk P w K mg base CX (k+1) f (PySem.W.fnOf name qual params body scope dV kV doc pm an cdv ct) ps sp:=by
 refine⟨len,fun A outer s H args us vs Q E hr e0 hb r hsp=>?_⟩
 have hl:=len _ _ _ _ hsp
 have KX:K.In s.heap:=e0.mod.kin.keeps fun b o e=>(e0.bs b o e).1
 have lim:s.heap.NoLimit:=e0.mod.nolimit.keeps fun b o e=>(e0.bs b o e).1
 have hkind:∀ y∈ps.zip us,scope.names.lookup y.1=some .local\/(scope.names.lookup y.1=some .cell/\((cellsFrom (s.heap.objs.size+1) scope.names []).lookup y.1).isSome=true):=fun⟨n,v⟩ hy=>by
  rcases S.par n (List.of_mem_zip hy).1 with q | q
  ·exact .inl q
  ·exact .inr ⟨q,PySem.W.cellsFrom_some _ _ _ (.inl q)⟩
 refine codeAny_call_function hr.depth (KX _ _ lk) rfl S.co S.gen rfl (PySem.W.codeRec_of KX hcd) (hb _ _ _ _ ?_)
 refine wpAny_newFunctionEnv_cells S.kind hkind fun env he s1 x=>?_
 subst he
 refine⟨lim.keeps x.toInCall.keep,codeAny_func ?_⟩
 obtain⟨t,ht,hq⟩:=hbody A outer s H vs Q E (hr.deeper _) hsp
 have I:Inv (cxOf CX P w K mg base N qual scope f cdv A outer s H E) [] (start N vs) H s1:=inv_start S hr.hd e0 hl r x
 refine wpAny_mono (ht [] s1 (start N vs) H _ I hq) (fun fl s' hs=>?_) fun e s' hs=>hs
 have fin:∀ {σ':St} {H':Hp} {v:V} {u:Value},Inv (cxOf CX P w K mg base N qual scope f cdv A outer s H E) [] σ' H' s'->RelV v u->Q v H'->CE outer P w H s Q u s':=
  fun {σ' H' v u} J rv q=>⟨v,H',J.os,J.bare,J.base,J.hok,rv,q⟩
 cases fl with
 | ret u=>
  obtain⟨v,σ',H',J,rv,q⟩:=hs
  exact fin J rv q
 | next=>
  obtain⟨σ',H',J,q⟩:=hs
  exact fin (v:=V.non) (u:=Value.none) J rfl q
 | brk=>
  obtain⟨_,_,_,q⟩:=hs
  exact False.elim q
 | cont=>
  obtain⟨_,_,_,q⟩:=hs
  exact False.elim q
end L2
namespace L2
open PySem PySem.Spec PyProof.Rows
section
variable {X:Cx}{x:Str}{p pos:Pos}{e:Expr}{es:List Expr}{t:TA}{id T:String}{r:List V->Hp->VK->Prop}
def tCB (r:List V->Hp->VK->Prop) (t:TA):TE:=fun σ H Q=>t σ H fun vs H1=>r vs H1 Q
theorem Zc3 (hc:CallR X (.builtin id) r) (hg:Gl X x) (hm:X.mg x=none) (hv:bootBuiltins x=some (.builtin id)) (ha:PA X (e::es) t) (hn:x≠"__name__":=by decide) (hdb:(x==("__debug__" : Str))=false:=by decide)
  (he:starEach (e::es) X.env=(false,eval e X.env)::starEach es X.env:=by rfl) (hpl:(backTo pos (starEach es X.env)).any (·.1)=false:=by rfl):PE X (.Call (.Name x p) (e::es) [] pos) (tCB r t):=by
 intro pins s σ H Q I h
 refine wpAny_Call_Name_kw (ld_blt I hg hm hv ?_ hn hdb)
 exact PyProof.Rows.callWith_builtin1 (thn (ha pos pins s σ H _ I h) fun us s1 ⟨vs,H1,I1,r1,q1⟩=>hc pins s1 σ H1 vs us Q I1 r1 q1) he hpl
theorem pe_callTy (hc:CallR X (.type T) r) (hg:Gl X x) (hm:X.mg x=none) (hv:bootBuiltins x=some (.type T)) (ha:PA X (e::es) t) (hn:x≠"__name__":=by decide) (hdb:(x==("__debug__" : Str))=false:=by decide)
  (he:starEach (e::es) X.env=(false,eval e X.env)::starEach es X.env:=by rfl) (hpl:(backTo pos (starEach es X.env)).any (·.1)=false:=by rfl):PE X (.Call (.Name x p) (e::es) [] pos) (tCB r t):=by
 intro pins s σ H Q I h
 refine wpAny_Call_Name_kw (ld_blt I hg hm hv ?_ hn hdb)
 exact PyProof.Rows.callWith_type1 (thn (ha pos pins s σ H _ I h) fun us s1 ⟨vs,H1,I1,r1,q1⟩=>hc pins s1 σ H1 vs us Q I1 r1 q1) he hpl
end
end L2
namespace HT
open PySem PyProof.Rows
section
open PySem.SeqAt
open PySem.AutoSeq1 (wpAny_loadPart')
open PySem.MeetsSeq PySem.MeetsSeq2 PySem.MeetsSeq3
end
section
variable {prog:Program}{w:World}{A:Around}{E:Value->Shared->Prop}{s:Shared}
def sIx (n d:Nat):Option Int->Nat
 | none=>d
 | some v=>if v<0 then (v+(n:Int)).toNat else min v.toNat n
end
end HT
namespace L2
open PySem PySem.Spec PyProof.Rows
abbrev TO:=St->Hp->(Option Int->Hp->Prop)->Prop
def PO (X:Cx) (e:Option Expr) (t:TO):Prop:=
 ∀ (pins:List (Addr×Obj)) (s:Shared) (σ:St) (H:Hp) (Q:Option Int->Hp->Prop),Inv X pins σ H s->t σ H Q ->
  wpAny (model X.prog X.w) X.A (evalPart e X.env) (fun u s'=>∃ o H',Inv X pins σ H' s'/\IsPart u o/\Q o H') X.xe s
def tNoPart:TO:=fun _ H Q=>Q none H
def tPart (t:TE):TO:=fun σ H Q=>t σ H fun x H1=>∃ i,x = .int i/\Q (some i) H1
section
variable {X:Cx}{e:Expr}{te:TE}{lo hi:Option Expr}{tl th:TO}{pos p2:Pos}
theorem po_none:PO X none tNoPart:=by
 intro pins s σ H Q I h
 rw[evalPart_none]
 exact wpAny_pure ⟨none,H,I,.none,h⟩
theorem po_some (h:PE X e te):PO X (some e) (tPart te):=by
 intro pins s σ H Q I hw
 rw[evalPart_some]
 refine thn (h pins s σ H _ I hw) fun u s1 ⟨x,H1,I1,r1,q1⟩=>?_
 obtain⟨i,rfl,q⟩:=q1
 obtain⟨t,rfl⟩:=r1
 exact⟨some i,H1,I1,.int i t,q⟩
def SlR (X:Cx) (r:V->Option Int->Option Int->Hp->VK->Prop):Prop:=
 ∀ (pins:List (Addr×Obj)) (s:Shared) (σ:St) (H:Hp) (x:V) (v vl vu:Value) (lo hi:Option Int) (sl:Addr) (Q:VK),Inv X pins σ H s->RelV x v->s.heap.IsSliceOf sl vl vu .none->IsPart vl lo->IsPart vu hi->r x lo hi H Q ->
  ∃ T id,typeLookup (.type T) "__getitem__" = pure (some (.builtin id))/\s.TypeIs v T/\wpAny (model X.prog X.w) X.A (getItem v (.ref sl)) (EP X pins σ Q) X.xe s
def tSl (r:V->Option Int->Option Int->Hp->VK->Prop) (te:TE) (tl th:TO):TE:=fun σ H Q=>te σ H fun x H1=>tl σ H1 fun l H2=>th σ H2 fun u H3=>r x l u H3 Q
theorem pe_slice {r:V->Option Int->Option Int->Hp->VK->Prop}(hr:SlR X r) (he:PE X e te) (hl:PO X lo tl) (hu:PO X hi th):PE X (.Subscript e (.Slice lo hi none p2) pos) (tSl r te tl th):=by
 intro pins s σ H Q I h
 refine Subscript_ (thn (he pins s σ H _ I h) fun v s1 ⟨x,H1,I1,r1,q1⟩=>?_)
 refine wpAny_Slice (thn (hl pins s1 σ H1 _ I1 q1) fun vl s2 ⟨l,H2,I2,pl,q2⟩=>thn (hu pins s2 σ H2 _ I2 q2) fun vu s3 ⟨u,H3,I3,pu,q3⟩=>?_)
 rw[evalPart_none]
 refine wpAny_pure ?_
 have I4:Inv X pins σ H3 { s3 with heap:=s3.heap.push { cls:=.type "slice",data:=.fields #[vl,vu,.none] } }:=I3.kept (t':=s3.toks) fun b ob q=>Heap.get?_push_of_some _ q
 obtain⟨T,id,hT,ht,hg⟩:=hr pins { s3 with heap:=s3.heap.push { cls:=.type "slice",data:=.fields #[vl,vu,.none] } } σ H3 x v vl vu l u s3.heap.objs.size Q I4 r1 (Heap.IsSliceOf.new ..) pl pu q3
 show wpAny (model X.prog X.w) X.A (subscriptTail e (.Slice lo hi none p2) v (.ref s3.heap.objs.size)) (EP X pins σ Q) X.xe { s3 with heap:=s3.heap.push { cls:=.type "slice",data:=.fields #[vl,vu,.none] } }
 exact tail_any (ops:=[.ref s3.heap.objs.size,v]) ht hT hg (by with_unfolding_all rfl)
def cutV (xs:List V) (lo hi:Option Int):List V:=(xs.drop (HT.sIx xs.length 0 lo)).take (HT.sIx xs.length xs.length hi-HT.sIx xs.length 0 lo)
theorem cutV_length (xs:List V) (lo hi:Option Int):(cutV xs lo hi).length<=xs.length:=by
 unfold cutV
 rw[List.length_take,List.length_drop]
 omega
end
end L2
namespace L2
open PySem PySem.Spec PyProof.Rows
def ixN (n:Nat) (i:Int):Option Nat:=if 0<=i then (if i<n then some i.toNat else none) else if -(n:Int)<=i then some (i+n).toNat else none
def atI {α:Type}(xs:List α) (i:Int):Option α:=(ixN xs.length i).bind fun j=>xs[j]?
theorem ixN_seq {n:Nat}{i:Int}{j:Nat}(h:ixN n i=some j):seqIndex? i n=some j/\j<n /\ -(n:Int)<=i/\i<n:=by
 unfold ixN at h
 by_cases h0:0<=i
 ·rw[if_pos h0] at h
  by_cases h1:i<n
  ·rw[if_pos h1] at h
   have e:i.toNat=j:=Option.some.inj h
   exact⟨by rw[seqIndex_of h0 h1,e],by omega,by omega,h1⟩
  ·rw[if_neg h1] at h;cases h
 ·rw[if_neg h0] at h
  by_cases h1 : -(n:Int)<=i
  ·rw[if_pos h1] at h
   have e:(i+n).toNat=j:=Option.some.inj h
   exact⟨by rw[seqIndex_neg ∅ h1,e],by omega,h1,by omega⟩
  ·rw[if_neg h1] at h;cases h
theorem atI_get {α:Type}{xs:List α}{i:Int}{v:α}(h:atI xs i=some v):∃ j,seqIndex? i xs.length=some j/\xs[j]? = some v/\j<xs.length /\ -(xs.length:Int)<=i/\i<xs.length:=by
 unfold atI at h
 cases e:ixN xs.length i with
 | none=>rw[e] at h;cases h
 | some j=>
  rw[e] at h
  obtain⟨h1,h2,h3,h4⟩:=ixN_seq e
  exact⟨j,h1,h,h2,h3,h4⟩
theorem atI_nat {α:Type}{xs:List α}{j:Nat}{v:α}(h:xs[j]? = some v):atI xs (j:Int)=some v:=by
 have hj:j<xs.length:=(List.getElem?_eq_some_iff.mp h).1
 have e:ixN xs.length (j:Int)=some j:=by
  unfold ixN
  rw[if_pos ∅,if_pos ∅];simp
 unfold atI;rw[e];exact h
def PlainIx (b:Expr):Prop:=∀ o i,subscripted b false o i=operate [o,i] (getItem o i)
def IxR (X:Cx) (r:R2):Prop:=
 ∀ (value slice:Expr) (pins:List (Addr×Obj)) (s:Shared) (σ:St) (H:Hp) (x y:V) (v u:Value) (Q:VK),Inv X pins σ H s->RelV x v->RelV y u->r x y H Q ->
  subscripted slice false v u=operate [v,u] (getItem v u)->wpAny (model X.prog X.w) X.A (subscriptTail value slice v u) (EP X pins σ Q) X.xe s
def MtR (X:Cx) (id:String) (r:V->List V->Hp->VK->Prop):Prop:=
 ∀ (pins:List (Addr×Obj)) (s:Shared) (σ:St) (H:Hp) (x:V) (xs:List V) (v:Value) (us:List Value) (Q:VK),Inv X pins σ H s->RelV x v->Vals xs us->r x xs H Q ->
  wpAny (model X.prog X.w) X.A (call (.builtin id) (v::us)) (EP X pins σ Q) X.xe s
section
variable {X:Cx}{a b:Expr}{ta tb:TE}{pos:Pos}
theorem Zb6 {r:R2}(hr:IxR X r) (ha:PE X a ta) (hb:PE X b tb) (hs:PlainIx b):PE X (.Subscript a b pos) (tOp r ta tb):=by
 intro pins s σ H Q I h
 exact Subscript_ (binT ha hb I h fun v u s2 x y H2 I2 rx ry q=>hr a b pins s2 σ H2 x y v u Q I2 rx ry q (hs _ _))
def rIxL (K:PySem.W.Frag):R2:=fun x y H Q=>∃ p xs i v,x = .ref p/\y = .int i/\SqL K H p xs/\atI xs i=some v/\Q v H
def rIxT (K:PySem.W.Frag):R2:=fun x y H Q=>∃ p xs i v,x = .ref p/\y = .int i/\SqT K H p xs/\atI xs i=some v/\Q v H
def rIxS:R2:=fun x y H Q=>∃ z i c,x = .str z/\y = .int i/\z.length<=sizeLine/\atI z.cps.toList i=some c/\Q (.str ⟨#[c]⟩) H
theorem ix_list:IxR X (rIxL X.K):=by
 intro value slice pins s σ H x y v u Q I rx ry h hs
 obtain⟨p,xs,i,z,rfl,rfl,hq,he,q⟩:=h
 cases rx
 obtain⟨t,rfl⟩:=ry
 obtain⟨its,r,pl,hz⟩:=I.list hq
 obtain⟨j,h1,h2,h3,h4,h5⟩:=atI_get he
 obtain⟨w,ew,rw'⟩:=r.get h2
 have hl:=r.length
 have hn:=line63
 have fin:EP X pins σ Q w s:=⟨z,H,I,rw',q⟩
 by_cases h0:0<=i
 ·have hj:i.toNat=j:=by
   rw[seqIndex_of h0 h5] at h1
   exact Option.some.inj h1
  exact item_listR pl.isList h0 ∅ (by rw[hj];simpa using ew) fin hs
 ·have hj:(i+(its.toArray.size:Int)).toNat=j:=by
   rw[seqIndex_neg ∅ h4] at h1
   rw[List.size_toArray,←hl]
   exact Option.some.inj h1
  exact subscriptTail_builtinR (x:=w) pl.isList.typeIs slot_list_getitem.lookup
   (wpAny_getItem_list_neg (Q:=fun r s'=>r=w/\EP X pins σ Q r s') pl.isList ∅ (by rw[List.size_toArray] <;> omega) ∅ (by rw[hj];simpa using ew) ⟨rfl,fin⟩) hs
theorem ix_tup:IxR X (rIxT X.K):=by
 intro value slice pins s σ H x y v u Q I rx ry h hs
 obtain⟨p,xs,i,z,rfl,rfl,hq,he,q⟩:=h
 cases rx
 obtain⟨t,rfl⟩:=ry
 obtain⟨its,r,pl,hz⟩:=I.tuple hq
 obtain⟨j,h1,h2,h3,h4,h5⟩:=atI_get he
 obtain⟨w,ew,rw'⟩:=r.get h2
 have hl:=r.length
 have hn:=line63
 have fin:EP X pins σ Q w s:=⟨z,H,I,rw',q⟩
 exact subscriptTail_builtinR (x:=w) pl.typeIs slot_tuple_getitem.lookup
  (getItem_tuple (j:=j) (Q:=fun r s'=>r=w/\EP X pins σ Q r s') pl ∅ ∅ (by rw[List.size_toArray,←hl];exact h1) (by simpa using ew) ⟨rfl,fin⟩) hs
theorem ix_str:IxR X rIxS:=by
 intro value slice pins s σ H x y v u Q I rx ry h hs
 obtain⟨z,i,c,rfl,rfl,hz,he,q⟩:=h
 obtain⟨t,rfl⟩:=rx
 obtain⟨t',rfl⟩:=ry
 obtain⟨j,h1,h2,h3,h4,h5⟩:=atI_get he
 have hl:z.cps.toList.length=z.length:=by simp[Str.length]
 rw[hl] at h1 h4 h5
 have hn:=line63
 exact tail_any (typeIs_str s z t) slot_str_getitem.lookup (getItem_str (c:=c) (by
  have e1:decide (i < -(2 ^ 63:Int))=false:=decide_eq_false ∅
  have e2:decide (i ≥ 2 ^ 63)=false:=decide_eq_false ∅
  rw[e1,e2,Bool.or_false]) (by rw[h1];simpa using h2) ⟨.str ⟨#[c]⟩,H,I.tok _,⟨_,rfl⟩,q⟩) hs
theorem slice_bounds (lo hi:Option Int) (n:Nat):(sliceBounds lo hi none n).1=((HT.sIx n 0 lo:Nat):Int)/\(sliceBounds lo hi none n).2.1=((HT.sIx n n hi:Nat):Int)/\(sliceBounds lo hi none n).2.2=1:=by
 refine⟨?_,?_,rfl⟩
 ·cases lo with
  | none=>simp[sliceBounds,HT.sIx]
  | some i=>
   simp only[sliceBounds,HT.sIx,Option.getD_none,show (1:Int)>0 by decide,if_true]
   by_cases h:i<0
   ·simp only[h,if_true] <;> omega
   ·simp only[h,if_false] <;> omega
 ·cases hi with
  | none=>simp[sliceBounds,HT.sIx]
  | some i=>
   simp only[sliceBounds,HT.sIx,Option.getD_none,show (1:Int)>0 by decide,if_true]
   by_cases h:i<0
   ·simp only[h,if_true] <;> omega
   ·simp only[h,if_false] <;> omega
theorem slicePick_cut (its:List Value) (lo hi:Option Int):slicePick its.toArray lo hi none=((its.drop (HT.sIx its.length 0 lo)).take (HT.sIx its.length its.length hi-HT.sIx its.length 0 lo)).toArray:=by
 obtain⟨h1,h2,h3⟩:=slice_bounds lo hi its.toArray.size
 unfold slicePick
 rw[h1,h2,h3]
 simp only[sliceRange_one,pick_run,List.size_toArray] <;> rfl
def rSlL (K:PySem.W.Frag):V->Option Int->Option Int->Hp->VK->Prop:=fun x lo hi H Q=>∃ a xs,x = .ref a/\SqL K H a xs/\∀ p,H p=none->Q (.ref p) (upd H p (.lst (cutV xs lo hi)))
theorem sl_list:SlR X (rSlL X.K):=by
 intro pins s σ H x v vl vu lo hi sl Q I rx hs pl pu h
 obtain⟨a,xs,rfl,hx,q⟩:=h
 cases rx
 obtain⟨its,r,ht,hz⟩:=I.list hx
 have hlen:=r.length
 refine⟨"list",_,slot_list_getitem.lookup,ht.isList.typeIs,?_⟩
 refine wpAny_getItem_list_slice ht.isList hs pl pu .none (by simp) ?_ (by rw[List.size_toArray] <;> omega)
 rw[slicePick_cut,←hlen]
 refine⟨.ref s.heap.objs.size,_,I.laid (t':=s.toks) (o:=.lst (cutV xs lo hi)) (fun b ob q=>Heap.get?_push_of_some _ q) (Nat.le_refl _) ?_,rfl,q _ (I.hok.fresh (Nat.le_refl _))⟩
 exact⟨Nat.le_trans (cutV_length xs lo hi) hz,_,0,(r.drop (HT.sIx xs.length 0 lo)).take (HT.sIx xs.length xs.length hi-HT.sIx xs.length 0 lo),Heap.get?_push_size _ rfl⟩
theorem call_len_str:CallR X (.builtin "len") (fun xs H Q=>∃ z,xs=[.str z]/\z.length<=sizeLine/\Q (.int z.length) H):=by
 intro pins s σ H xs us Q I r h
 obtain⟨z,rfl,hz,q⟩:=h
 obtain⟨u,rfl,t,rfl⟩:=vals1 r
 have hn:=line63
 exact len_str ∅ ⟨.int z.length,H,I.tok _,⟨_,rfl⟩,q⟩
theorem call_list_of:CallR X (.type "list") (fun xs H Q=>∃ p ys,xs=[.ref p]/\(SqL X.K H p ys\/SqT X.K H p ys)/\∀ l,H l=none->Q (.ref l) (upd H l (.lst ys))):=by
 intro pins s σ H xs us Q I r h
 obtain⟨p,ys,rfl,hq,q⟩:=h
 obtain⟨u,rfl,rx⟩:=vals1 r
 cases rx
 have fin:∀ (its:List Value),Vals ys its->ys.length<=sizeLine->∀ (h':Heap) (c':Nat),(∀ b o',s.heap.get? b=some o'->h'.get? b=some o') ->
   h'.get? s.heap.objs.size=some { cls:=.type "list",dict:=none,data:=.seq its.toArray c',slots:=#[] }->EP X pins σ Q (.ref s.heap.objs.size) { s with heap:=h' }:=fun its r' hz h' c' kp e=>
  ⟨.ref s.heap.objs.size,_,I.laid (t':=s.toks) kp (Nat.le_refl _) (show ObjOk X.prog X.w _ h' _ (.lst ys) from ⟨hz,its,c',r',e⟩),rfl,q _ (I.hok.fresh (Nat.le_refl _))⟩
 rcases hq with hq | hq
 ·obtain⟨its,r',pl,hz⟩:=I.list hq
  have hlen:=r'.length
  obtain⟨o,ho,hc,n,hd⟩:=pl.isList
  exact call_list_seq p (.inl rfl) ho hc hd (fun h' c' kp e=>fin its r' hz h' c' kp e) (by simp only[List.size_toArray] <;> omega)
 ·obtain⟨its,r',pl,hz⟩:=I.tuple hq
  have hlen:=r'.length
  obtain⟨o,ho,hc,n,hd⟩:=pl
  exact call_list_seq p (.inr rfl) ho hc hd (fun h' c' kp e=>fin its r' hz h' c' kp e) (by simp only[List.size_toArray] <;> omega)
def tyV (K:PySem.W.Frag) (T:String) (x:V) (H:Hp):Prop:=match x with
 | .str _=>T="str"
 | .int _=>T="int"
 | .ref p=>(T="list" /\ ∃ xs,SqL K H p xs)\/(T="tuple" /\ ∃ o,K.lookup p=some o/\o.cls = .type "tuple" /\ o.dict=none) \/
   (T="dict" /\ ((∃ kvs,H p=some (.dK kvs))\/∃ kvs,H p=some (.dT kvs)))\/(T="set" /\ ∃ S n,H p=some (.set S n))
 | _=>False
theorem tyV_is {pins:List (Addr×Obj)}{σ:St}{H:Hp}{s:Shared}{T:String}{x:V}{v:Value}(I:Inv X pins σ H s) (r:RelV x v) (ty:tyV X.K T x H) :
  s.TypeIs v T/\∀ a,v = .ref a->∃ ob,s.heap.get? a=some ob/\ob.dict=none:=by
 cases x with
 | str z=>
  obtain⟨t,rfl⟩:=r
  cases (show T="str" from ty)
  exact⟨typeIs_str s z t,fun _ e=>nomatch e⟩
 | int i=>
  obtain⟨t,rfl⟩:=r
  cases (show T="int" from ty)
  exact⟨typeIs_int s i t,fun _ e=>nomatch e⟩
 | ref p=>
  cases r
  rcases ty with⟨rfl,xs,hq⟩ | ⟨rfl,o,hk,hc,hd⟩ | ⟨rfl,hk⟩ | ⟨rfl,S,n,hk⟩
  ·obtain⟨its,_,pl,_⟩:=I.list hq
   refine⟨pl.isList.typeIs,fun a e=>?_⟩
   cases e
   obtain⟨o,n,e,c,hd,_⟩:=pl
   exact⟨o,e,hd⟩
  ·refine⟨⟨o,I.kIn p o hk,hc⟩,fun a e=>?_⟩
   cases e
   exact⟨o,I.kIn _ o hk,hd⟩
  ·have z:∃ o,s.heap.get? p=some o/\o.ExactDict:=by
    rcases hk with⟨kvs,hk⟩ | ⟨kvs,hk⟩
    ·obtain⟨_,_,_,_,o,_,_,e,ex,_⟩:=I.hok p _ hk
     exact⟨o,e,ex⟩
    ·obtain⟨_,_,_,_,o,_,_,e,ex,_⟩:=I.hok p _ hk
     exact⟨o,e,ex⟩
   obtain⟨o,e,ex⟩:=z
   refine⟨⟨o,e,ex.1⟩,fun a e2=>?_⟩
   cases e2
   exact⟨o,e,ex.2.1⟩
  ·obtain⟨o,_,_,_,e,ex,_⟩:=I.hok p _ hk
   refine⟨⟨o,e,ex.1⟩,fun a e2=>?_⟩
   cases e2
   exact⟨o,e,ex.2.1⟩
 | _=>exact False.elim ty
def tBM (K:PySem.W.Frag) (T:String) (r:V->List V->Hp->VK->Prop) (to:TE) (t:TA):TE:=fun σ H Q=>to σ H fun x H1=>tyV K T x H1/\t σ H1 fun xs H2=>r x xs H2 Q
variable {o e:Expr}{es:List Expr}{to:TE}{t:TA}{name:Str}{apos cpos:Pos}{T id:String}{r:V->List V->Hp->VK->Prop}
theorem pe_bm (pa:PlainAttrs T) (slot:Slot T name id) (hty:typeOf (.builtin id)=pure (.type "method_descriptor")) (hm:MtR X id r) (ho:PE X o to) (ha:PA X (e::es) t)
  (hbase:attributeBase o name X.env (eval o X.env)=eval o X.env:=by rfl)
  (hfew:((backTo cpos (starEach (e::es) X.env)).all (fun x=>!x.1)&&(backToKw cpos (keywordEach [] X.env)).all (fun x=>x.1.isSome)
   && decide ((e::es).length+([]:List Keyword).length+(if ([]:List Keyword).isEmpty then 0 else 1)<30))=true:=by rfl)
  (hline:(apos.endLine==cpos.line)=true:=by rfl) (hs:starEach (e::es) X.env=(false,eval e X.env)::starEach es X.env:=by rfl) (hplain:(backTo cpos (starEach es X.env)).any (·.1)=false:=by rfl) :
  PE X (.Call (.Attribute o name apos) (e::es) [] cpos) (tBM X.K T r to t):=by
 intro pins s σ H Q I h
 refine wpAny_Call_method_late hbase hfew hline rfl (thn (ho pins s σ H _ I h) fun v s1 ⟨x,H1,I1,r1,ty,q1⟩=>?_)
 obtain⟨h1,h2⟩:=tyV_is I1 r1 ty
 refine⟨T,id,pa,slot,hty,h1,h2,?_⟩
 have hA:=ha cpos pins s1 σ H1 _ I1 q1
 rw[hs] at hA ⊢
 refine Calls.callWith_builtin (by show (false || (backTo cpos (starEach es X.env)).any (·.1))=false;rw[hplain] <;> rfl) (Calls.evalArgs_plain ?_)
 exact thn hA fun us s2 ⟨vs,H2,I2,r2,q2⟩=>hm pins s2 σ H2 x vs v us Q I2 r1 r2 q2
end
end L2
namespace L2
open PySem PySem.Spec PyProof.Rows
def MtM (X:Cx) (id:String) (r:V->List V->Hp->VK->Prop):Prop:=
 ∀ (pins:List (Addr×Obj)) (s:Shared) (σ:St) (H:Hp) (x:V) (xs:List V) (v:Value) (us:List Value) (Q:VK),Inv X pins σ H s->RelV x v->Vals xs us->r x xs H Q ->
  wpAny (model X.prog X.w) X.A (call (.builtin id) (v::us)) (EP X pins σ Q) X.xe s
theorem Vals.one:∀ {x:V}{us:List Value},Vals [x] us->∃ u,us=[u]/\RelV x u
 | _,_,.cons r .nil=>⟨_,rfl,r⟩
section
variable {X:Cx}{pins:List (Addr×Obj)}{σ:St}{H:Hp}{s:Shared}{l b:Addr}{xs ys zs:List V}
theorem Inv.lset {its its':List Value}{n:Nat}{f:Array Value->Array Value}{t':Nat}(I:Inv X pins σ H s) (hH:H l=some (.lst xs))
  (e:s.heap.get? l=some { cls:=.type "list",data:=.seq its.toArray n }) (hf:f its.toArray=its'.toArray) (hv:Vals ys its') (hz:ys.length<=sizeLine) :
  Inv X pins σ (upd H l (.lst ys)) { s with heap:=s.heap.update l (Obj.mapSeq f),toks:=t' }:=by
 have q:=PySem.IsL.update e f
 rw[hf] at q
 refine I.write (x:=l) (e:=l) (by rw[hH];exact trivial) (.inl rfl) (fun b' u hb hu=>(Heap.get?_update_other s.heap (Obj.mapSeq f) (Ne.symm hb)).trans hu) ⟨_,q⟩ ?_
 exact⟨hz,its',_,hv,q⟩
theorem Inv.lnew {its:List Value}{t':Nat}(I:Inv X pins σ H s) (hv:Vals ys its) (hz:ys.length<=sizeLine) :
  Inv X pins σ (upd H s.heap.objs.size (.lst ys)) { s with heap:=s.heap.push { cls:=.type "list",data:=.seq its.toArray },toks:=t' }:=
 I.laid (fun _ _ q=>Heap.get?_push_of_some _ q) (Nat.le_refl _) ⟨hz,its,0,hv,Heap.get?_push_size _ rfl⟩
theorem Inv.fresh (I:Inv X pins σ H s):H s.heap.objs.size=none:=I.hok.fresh (Nat.le_refl _)
theorem Inv.lstM (I:Inv X pins σ H s) (hH:H l=some (.lst xs)):xs.length<=sizeLine/\∃ (its:List Value) (n:Nat),Vals xs its/\xs.length=its.length/\s.heap.get? l=some { cls:=.type "list",data:=.seq its.toArray n }:=by
 obtain⟨z,its,n,r,e⟩:=I.hok l _ hH
 exact⟨z,its,n,r,r.length,e⟩
end
section
variable {X:Cx}
def rAppend:V->List V->Hp->VK->Prop:=fun x vs H Q=>∃ l xs y,x = .ref l/\vs=[y]/\H l=some (.lst xs)/\xs.length<sizeLine/\Q .non (upd H l (.lst (xs++[y])))
theorem mt_append:MtM X "list.append" rAppend:=by
 intro pins s σ H x vs v us Q I rx rv h
 obtain⟨l,xs,y,rfl,rfl,hH,hz,q⟩:=h
 cases rx
 obtain⟨u,rfl,ru⟩:=rv.one
 obtain⟨z,its,n,r,hl,e⟩:=I.lstM hH
 refine call_meets F.slot_list_append ⟨_,e,rfl⟩ F.entry_list_append (F.args_list_append_2 _ _) (PySem.list_append l its.toArray n u (by rw[List.size_toArray];omega)) ⟨e,?_⟩
 refine⟨.non,_,I.lset (its':=its++[u]) hH e (by simp) (r.append (.cons ru .nil)) ?_,rfl,q⟩
 rw[List.length_append,List.length_singleton]
 omega
def rCat:R2:=fun x y H Q=>∃ l b xs zs,x = .ref l/\y = .ref b/\H l=some (.lst xs)/\H b=some (.lst zs)/\xs.length+zs.length<=sizeLine/\∀ p,H p=none->Q (.ref p) (upd H p (.lst (xs++zs)))
theorem op_cat:OpR X (binaryOp .Add) rCat:=by
 intro pins s σ H x y v u Q I rx ry h
 obtain⟨l,b,xs,zs,rfl,rfl,hH,hB,hz,q⟩:=h
 cases rx
 cases ry
 obtain⟨z,its,n,r,hl,e⟩:=I.lstM hH
 obtain⟨z2,its2,n2,r2,hl2,e2⟩:=I.lstM hB
 refine PySem.P.add_list e e2 ?_ (by rw[List.size_toArray,List.size_toArray];omega)
 have ea:its.toArray++its2.toArray=(its++its2).toArray:=by simp
 rw[ea]
 exact⟨.ref _,_,I.lnew (t':=s.toks) (r.append r2) (by rw[List.length_append];omega),rfl,q _ I.fresh⟩
end
section
variable {prog:Program}{w:World}{A:Around}{E:Value->Shared->Prop}{s:Shared}
end
section
variable {X:Cx}
end
end L2
namespace L2
open PySem PySem.Spec PyProof.Rows
section
variable {κ:Type} [DecidableEq κ]
def valV (kvs:List (κ×V)) (k:κ):Option V:=(kvs.find? fun kv=>decide (kv.1=k)).map (·.2)
def putK (kvs:List (κ×V)) (k:κ) (v:V):List (κ×V):=
 if (kvs.any fun kv=>decide (kv.1=k))=true then kvs.map (fun kv=>if kv.1=k then (kv.1,v) else kv) else kvs++[(k,v)]
theorem valV_nil {k:κ}:valV ([]:List (κ×V)) k=none:=rfl
theorem valV_pos {p:κ×V}{r:List (κ×V)}{k:κ}(e:p.1=k):valV (p::r) k=some p.2:=by simp[valV,List.find?_cons,e]
theorem valV_neg {p:κ×V}{r:List (κ×V)}{k:κ}(e:¬p.1=k):valV (p::r) k=valV r k:=by simp[valV,List.find?_cons,e]
theorem valV_any (k:κ):∀ kvs:List (κ×V),(kvs.any fun kv=>decide (kv.1=k))=(valV kvs k).isSome
 | []=>rfl
 | p::r=>by
  rw[List.any_cons]
  by_cases e:p.1=k
  ·simp only[valV_pos e,decide_eq_true e,Bool.true_or,Option.isSome_some]
  ·rw[valV_neg e,decide_eq_false e,Bool.false_or];exact valV_any k r
theorem valV_map (k j:κ) (y:V):∀ kvs:List (κ×V),valV (kvs.map fun kv=>if kv.1=k then (kv.1,y) else kv) j=(valV kvs j).map fun x=>if j=k then y else x
 | []=>rfl
 | p::r=>by
  have ih:=valV_map k j y r
  rw[List.map_cons]
  by_cases h:p.1=k
  ·rw[if_pos h]
   by_cases e:p.1=j
   ·rw[valV_pos (p:=(p.1,y)) e,valV_pos e,Option.map_some,if_pos (e.symm.trans h)]
   ·rw[valV_neg (p:=(p.1,y)) e,valV_neg e,ih]
  ·rw[if_neg h]
   by_cases e:p.1=j
   ·rw[valV_pos (p:=p) e,valV_pos e,Option.map_some,if_neg (fun z=>h (e.trans z))]
   ·rw[valV_neg (p:=p) e,valV_neg e,ih]
theorem valV_snoc (k j:κ) (y:V):∀ kvs:List (κ×V),valV kvs k=none->valV (kvs++[(k,y)]) j=if j=k then some y else valV kvs j
 | [],_=>by
  by_cases e:k=j
  ·rw[if_pos e.symm];exact valV_pos (p:=(k,y)) e
  ·rw[if_neg (fun z=>e z.symm)];exact valV_neg (p:=(k,y)) e
 | p::r,hn=>by
  rw[List.cons_append]
  have hk:¬p.1=k:=fun z=>by rw[valV_pos z] at hn;cases hn
  rw[valV_neg hk] at hn
  have ih:=valV_snoc k j y r hn
  by_cases e:p.1=j
  ·rw[valV_pos e,valV_pos e,if_neg (fun z=>hk (e.trans z))]
  ·rw[valV_neg e,valV_neg e,ih]
theorem valV_put (kvs:List (κ×V)) (k j:κ) (y:V):valV (putK kvs k y) j=if j=k then some y else valV kvs j:=by
 unfold putK
 by_cases a:(kvs.any fun kv=>decide (kv.1=k))=true
 ·rw[if_pos a,valV_map]
  rw[valV_any] at a
  by_cases e:j=k
  ·obtain⟨x,hx⟩:=Option.isSome_iff_exists.mp a
   rw[if_pos e,e,hx,Option.map_some,if_pos rfl]
  ·rw[if_neg e]
   cases valV kvs j with
   | none=>rfl
   | some x=>rw[Option.map_some,if_neg e]
 ·rw[if_neg a]
  refine valV_snoc k j y kvs ?_
  rw[valV_any] at a
  cases q:valV kvs k with
  | none=>rfl
  | some x=>rw[q] at a;exact (a rfl).elim
theorem length_putK (kvs:List (κ×V)) (k:κ) (v:V):(putK kvs k v).length<=kvs.length+1:=by
 unfold putK
 split
 ·rw[List.length_map];omega
 ·rw[List.length_append,List.length_cons,List.length_nil];omega
theorem putK_new {kvs:List (κ×V)}{k:κ}(v:V) (h:valV kvs k=none):putK kvs k v=kvs++[(k,v)]:=by
 unfold putK
 rw[valV_any,h]
 exact if_neg ⋯
theorem RelO.isSome_eq {o:Option V}{u:Option Value}(r:RelO o u):o.isSome=u.isSome:=by
 cases o with
 | none=>cases u with
  | none=>rfl
  | some _=>exact (show False from r).elim
 | some _=>cases u with
  | none=>exact (show False from r).elim
  | some _=>rfl
theorem KV.val {kvs:List (κ×V)}{vs:List (κ×Value)}(r:KV kvs vs) (k:κ):RelO (valV kvs k) (valueAt vs k):=by
 unfold KV at r
 induction r with
 | nil=>exact True.intro
 | @cons p q ps qs h t ih=>
  obtain⟨h1,h2⟩:=h
  by_cases e:p.1=k
  ·have e':q.1=k:=h1.symm.trans e
   have b:valueAt (q::qs) k=some q.2:=by simp[valueAt,List.find?_cons,e']
   rw[valV_pos e,b];exact h2
  ·have e':¬q.1=k:=fun z=>e (h1.trans z)
   have b:valueAt (q::qs) k=valueAt qs k:=by simp[valueAt,List.find?_cons,e']
   rw[valV_neg e,b];exact ih
theorem KV.any {kvs:List (κ×V)}{vs:List (κ×Value)}(r:KV kvs vs) (k:κ):(kvs.any fun kv=>decide (kv.1=k))=vs.any fun kv=>decide (kv.1=k):=by
 unfold KV at r
 induction r with
 | nil=>rfl
 | cons h t ih=>rw[List.any_cons,List.any_cons,ih,h.1]
theorem KV.repl {kvs:List (κ×V)}{vs:List (κ×Value)}(r:KV kvs vs) (k:κ) {y:V}{u:Value}(ry:RelV y u) :
  KV (kvs.map fun kv=>if kv.1=k then (kv.1,y) else kv) (vs.map fun kv=>if kv.1=k then (kv.1,u) else kv):=by
 unfold KV at r ⊢
 induction r with
 | nil=>exact .nil
 | @cons p q ps qs h t ih=>
  rw[List.map_cons,List.map_cons]
  refine .cons ?_ ih
  obtain⟨h1,h2⟩:=h
  by_cases e:p.1=k
  ·rw[if_pos e,if_pos (h1.symm.trans e)];exact⟨h1,ry⟩
  ·rw[if_neg e,if_neg (fun z=>e (h1.trans z))];exact⟨h1,h2⟩
theorem KV.put {kvs:List (κ×V)}{vs:List (κ×Value)}(r:KV kvs vs) (k:κ) {y:V}{u:Value}(ry:RelV y u):KV (putK kvs k y) (stored vs k u):=by
 unfold putK stored
 rw[r.any k]
 by_cases e:(vs.any fun kv=>decide (kv.1=k))=true
 ·rw[if_pos e,if_pos e];exact r.repl k ry
 ·rw[if_neg e,if_neg e];exact Paired.snoc r ⟨rfl,ry⟩
theorem KV.length {kvs:List (κ×V)}{vs:List (κ×Value)}(r:KV kvs vs):kvs.length=vs.length:=Paired.length r
end
theorem kV_is {P:Program}{w:World}{k:Key}{u:Value}(r:RelV (kV k) u):(mixKind P w).is k u=true:=by
 cases k with
 | inl i=>obtain⟨t,e⟩:=(show ∃ t,u=Value.int i t from r);subst e;exact mixKind_int P w i t
 | inr x=>obtain⟨t,e⟩:=(show ∃ t,u=Value.str x t from r);subst e;exact mixKind_str P w x t
theorem items_are {P:Program}{w:World}:∀ {ks:List Key}{us:List Value},Vals (ks.map kV) us->ItemsAre (mixKind P w) ks us
 | [],_,r=>by rw[List.map_nil] at r;cases r;exact .nil
 | k::ks,_,r=>by
  rw[List.map_cons] at r
  cases r with
  | cons h t=>exact .cons (kV_is h) (items_are t)
abbrev KT (H:Hp):List (List Key×V)->List (List Key×Addr×Value)->Prop:=Paired fun p q=>p.1=q.1/\H q.2.1=some (.tup (p.1.map kV))/\RelV p.2 q.2.2
theorem KT.val {H:Hp}{kvs:List (List Key×V)}{xs:List (List Key×Addr×Value)}(r:KT H kvs xs) (k:List Key):RelO (valV kvs k) ((atKey xs k).map (·.2)):=by
 induction r with
 | nil=>exact True.intro
 | @cons p q ps qs h t ih=>
  obtain⟨h1,_,h2⟩:=h
  by_cases e:p.1=k
  ·have e':q.1=k:=h1.symm.trans e
   have b:atKey (q::qs) k=some q.2:=by simp[atKey,List.find?_cons,e']
   rw[valV_pos e,b];exact h2
  ·have e':¬q.1=k:=fun z=>e (h1.trans z)
   have b:atKey (q::qs) k=atKey qs k:=by simp[atKey,List.find?_cons,e']
   rw[valV_neg e,b];exact ih
theorem KT.repl {H:Hp}{kvs:List (List Key×V)}{xs:List (List Key×Addr×Value)}(r:KT H kvs xs) (k:List Key) {y:V}{u:Value}(ry:RelV y u) :
  KT H (kvs.map fun kv=>if kv.1=k then (kv.1,y) else kv) (xs.map (putAt k u)):=by
 induction r with
 | nil=>exact .nil
 | @cons p q ps qs h t ih=>
  rw[List.map_cons,List.map_cons]
  refine .cons ?_ ih
  obtain⟨h1,h2,h3⟩:=h
  unfold putAt
  by_cases e:p.1=k
  ·rw[if_pos e,if_pos (h1.symm.trans e)];exact⟨h1,h2,ry⟩
  ·rw[if_neg e,if_neg (fun z=>e (h1.trans z))];exact⟨h1,h2,h3⟩
theorem KT.put {H:Hp}{kvs:List (List Key×V)}{xs:List (List Key×Addr×Value)}(r:KT H kvs xs) (k:List Key) {b:Addr}{y:V}{u:Value}(hb:H b=some (.tup (k.map kV))) (ry:RelV y u) :
  KT H (putK kvs k y) (storedH xs k b u):=by
 have e:(kvs.any fun kv=>decide (kv.1=k))=(atKey xs k).isSome:=by
  rw[valV_any,(r.val k).isSome_eq,Option.isSome_map]
 unfold putK storedH
 rw[e]
 by_cases q:(atKey xs k).isSome=true
 ·rw[if_pos q,if_pos q];exact r.repl k ry
 ·rw[if_neg q,if_neg q];exact Paired.snoc r ⟨rfl,hb,ry⟩
theorem KT.keeps {H H':Hp}{kvs:List (List Key×V)}{xs:List (List Key×Addr×Value)}(r:KT H kvs xs) (ht:∀ b ys,H b=some (.tup ys)->H' b=some (.tup ys)):KT H' kvs xs:=
 Paired.mapP r fun _ _ z=>⟨z.1,ht _ _ z.2.1,z.2.2⟩
section
variable {P:Program}{w:World}{H:Hp}{h:Heap}{a:Addr}
theorem rd_of {u:HO}(ok:HOk P w H h) (e:Rd H a u):ObjOk P w H h a u:=e.ok ok
theorem dk_rd {kvs:List (Key×V)}(ok:HOk P w H h) (e:Rd H a (.dK kvs)):kvs.length<=sizeLine/\(a==sysModules)=false/\∃ vs,KV kvs vs/\h.DictOf (mixKind P w) a vs:=
 show ObjOk P w H h a (.dK kvs) from rd_of ok e
theorem dk_of {kvs:List (Key×V)}(ok:HOk P w H h) (e:H a=some (.dK kvs)):kvs.length<=sizeLine/\(a==sysModules)=false/\∃ vs,KV kvs vs/\h.DictOf (mixKind P w) a vs:=dk_rd ok (.inl e)
theorem key_of {ks:List Key}(ok:HOk P w H h) (e:H a=some (.tup (ks.map kV))):(tupleKind (mixKind P w)).is h ks a:=by
 obtain⟨_,its,r,o,h1,h2,n,h3⟩:=(show ObjOk P w H h a (.tup (ks.map kV)) from ok a _ e)
 exact⟨o,its.toArray,n,h1,h2,h3,by simpa using items_are r⟩
theorem dt_rd {kvs:List (List Key×V)}(ok:HOk P w H h) (e:Rd H a (.dT kvs)):kvs.length<=sizeLine/\(a==sysModules)=false /\
  ∃ xs,KT H kvs xs/\h.DictOfH (tupleKind (mixKind P w)) a xs:=by
 obtain⟨z,y,xs,r,o,es,ep,h1,h2,h3,h4,h5⟩:=(show ObjOk P w H h a (.dT kvs) from rd_of ok e)
 refine⟨z,y,xs,r,o,es,ep,h1,h2,h3,h4,fun x hx=>?_,h5⟩
 have all:∀ {l:List (List Key×V)} {m:List (List Key×Addr×Value)},KT H l m->∀ x∈m,(tupleKind (mixKind P w)).is h x.1 x.2.1:=by
  intro l m q
  induction q with
  | nil=>intro x hx;exact nomatch hx
  | @cons p q ps qs hq t ih=>
   intro x hx
   rcases List.mem_cons.mp hx with e | hx
   ·subst e
    exact key_of ok (by rw[←hq.1];exact hq.2.1)
   ·exact ih x hx
 exact all r x hx
theorem dt_of {kvs:List (List Key×V)}(ok:HOk P w H h) (e:H a=some (.dT kvs)):kvs.length<=sizeLine/\(a==sysModules)=false /\
  ∃ xs,KT H kvs xs/\h.DictOfH (tupleKind (mixKind P w)) a xs:=dt_rd ok (.inl e)
end
def DGet (H:Hp) (a:Addr) (y:V) (r:Option V):Prop:=
 (∃ kvs k,Rd H a (.dK kvs)/\y=kV k/\r=valV kvs k)\/∃ kvs k b,Rd H a (.dT kvs)/\y = .ref b/\H b=some (.tup (k.map kV))/\r=valV kvs k
def DPut (H:Hp) (a:Addr) (y v:V) (H':Hp):Prop:=
 (∃ kvs k,H a=some (.dK kvs)/\y=kV k/\kvs.length<sizeLine/\H'=upd H a (.dK (putK kvs k v))) \/
 ∃ kvs k b,H a=some (.dT kvs)/\y = .ref b/\H b=some (.tup (k.map kV))/\kvs.length<sizeLine/\H'=upd H a (.dT (putK kvs k v))
theorem DGet.t {H:Hp}{a b:Addr}{kvs:List (List Key×V)}{k:List Key}(e:H a=some (.dT kvs)) (eb:H b=some (.tup (k.map kV))):DGet H a (.ref b) (valV kvs k):=.inr ⟨kvs,k,b,.inl e,rfl,eb,rfl⟩
theorem DPut.k {H:Hp}{a:Addr}{kvs:List (Key×V)}{k:Key}{v:V}(e:H a=some (.dK kvs)) (hl:kvs.length<sizeLine):DPut H a (kV k) v (upd H a (.dK (putK kvs k v))):=.inl ⟨kvs,k,e,rfl,hl,rfl⟩
theorem DPut.t {H:Hp}{a b:Addr}{kvs:List (List Key×V)}{k:List Key}{v:V}(e:H a=some (.dT kvs)) (eb:H b=some (.tup (k.map kV))) (hl:kvs.length<sizeLine) :
  DPut H a (.ref b) v (upd H a (.dT (putK kvs k v))):=.inr ⟨kvs,k,b,e,rfl,eb,hl,rfl⟩
section
variable {X:Cx}{pins:List (Addr×Obj)}{σ:St}{H:Hp}{s:Shared}{a:Addr}{y v:V}{u r:Value}{o:Option V}{A:Around}{E:Value->Shared->Prop}
theorem Inv.big (I:Inv X pins σ H s):sysModules<s.heap.objs.size:=by
 have h:mainGlobals<s.heap.objs.size:=(I.mod.glob.keeps I.bk).lt
 exact Nat.lt_trans ⋯ h
theorem d_getItem {Q:Value->Shared->Prop}(hu:A.units+1<cLine) (I:Inv X pins σ H s) (g:DGet H a y (some v)) (ry:RelV y u) (h:∀ w' s',Inv X pins σ H s'->RelV v w'->Q w' s') :
  wpAny (model X.prog X.w) A (getItem (.ref a) u) Q E s:=by
 rcases g with⟨kvs,k,e,ey,l⟩ | ⟨kvs,k,b,e,ey,eb,l⟩
 ·subst ey
  obtain⟨z,hd,vs,rel,dd⟩:=dk_rd I.hok e
  obtain⟨w',hw,rw'⟩:=RelO.some_of (v:=v) (o:=valueAt vs k) (by rw[l];exact rel.val k)
  exact wpAny_getItem_of (kV_is ry) dd.mapOf hw (h w' _ (I.tok _) rw')
 ·subst ey
  cases (show u=Value.ref b from ry)
  obtain⟨z,hd,xs,rel,dd⟩:=dt_rd I.hok e
  obtain⟨w',hw,rw'⟩:=RelO.some_of (v:=v) (o:=(atKey xs k).map (·.2)) (by rw[l];exact rel.val k)
  obtain⟨p,hp,hp2⟩:=Option.map_eq_some_iff.mp hw
  refine wpAny_getItem_heap (tupleKind_room_in1 hu) (key_of I.hok eb) dd hp ?_
  rw[hp2]
  exact h w' _ (I.tok _) rw'
theorem d_notIn {Q:Value->Shared->Prop}(hu:A.units+1<cLine) (I:Inv X pins σ H s) (g:DGet H a y o) (ry:RelV y u) (h:∀ s',Inv X pins σ H s'->Q (.bool (!o.isSome)) s') :
  wpAny (model X.prog X.w) A (compareOp .NotIn u (.ref a)) Q E s:=by
 rcases g with⟨kvs,k,e,ey,l⟩ | ⟨kvs,k,b,e,ey,eb,l⟩
 ·subst ey
  obtain⟨z,hd,vs,rel,dd⟩:=dk_rd I.hok e
  refine wpAny_notIn_of (kV_is ry) hd dd.mapOf ?_
  rw[←(rel.val k).isSome_eq,←l]
  exact h _ (I.tok _)
 ·subst ey
  cases (show u=Value.ref b from ry)
  obtain⟨z,hd,xs,rel,dd⟩:=dt_rd I.hok e
  refine wpAny_notIn_heap (tupleKind_room_in1 hu) (key_of I.hok eb) hd dd ?_
  have q:=(rel.val k).isSome_eq
  rw[Option.isSome_map] at q
  rw[←q,←l]
  exact h _ (I.tok _)
theorem d_write {h':Heap}{t':Nat}{ob:HO}(I:Inv X pins σ H s) (mu:Mut (H a)) (hs:Heap.SameBut a s.heap h') (he:∃ q,h'.get? a=some q) (new:ObjOk X.prog X.w (upd H a ob) h' a ob) :
  Inv X pins σ (upd H a ob) { s with heap:=h',toks:=t' }:=
 I.write (x:=a) (e:=a) mu (.inl rfl) (fun b q hb z=>(hs.2 b hb).trans z) he new
theorem dk_new {P:Program}{w:World}{H':Hp}{h':Heap}{kvs:List (Key×V)}{vs:List (Key×Value)}(z:kvs.length<=sizeLine) (hd:(a==sysModules)=false) (rel:KV kvs vs) (dd:h'.DictOf (mixKind P w) a vs) :
  ObjOk P w H' h' a (.dK kvs):=⟨z,hd,vs,rel,dd⟩
theorem d_setItem {H':Hp}{Q:Unit->Shared->Prop}(hu:A.units+1<cLine) (I:Inv X pins σ H s) (g:DPut H a y v H') (ry:RelV y u) (rv:RelV v r) (h:∀ s',Inv X pins σ H' s'->Q () s') :
  wpAny (model X.prog X.w) A (setItem (.ref a) u r) Q E s:=by
 rcases g with⟨kvs,k,e,ey,l,eH⟩ | ⟨kvs,k,b,e,ey,eb,l,eH⟩
 ·subst ey eH
  obtain⟨z,hd,vs,rel,dd⟩:=dk_of I.hok e
  have hz:vs.length<=sizeLine:=by rw[←rel.length];exact z
  have hl:(putK kvs k v).length<=sizeLine:=by have:=length_putK kvs k v;omega
  refine wpAny_setItem_pairs (hsz:=hz) (kV_is ry) dd fun h' dd' hs=>h _ ?_
  have he:∃ q,h'.get? a=some q:=let ⟨q,_,_,hq,_⟩:=dd';⟨q,hq⟩
  exact d_write I (by rw[e];exact True.intro) hs he (dk_new hl hd (rel.put k rv) dd')
 ·subst ey eH
  cases (show u=Value.ref b from ry)
  obtain⟨z,hd,xs,rel,dd⟩:=dt_of I.hok e
  have hz:xs.length<=sizeLine:=by rw[←Paired.length rel];exact z
  have hl:(putK kvs k v).length<=sizeLine:=by have:=length_putK kvs k v;omega
  refine wpAny_setItem_heap (hsz:=hz) (tupleKind_room_in1 hu) (key_of I.hok eb) dd fun h' dd' hs=>h _ ?_
  obtain⟨q,es,ep,hq,h2,h3,h4,_,h5⟩:=dd'
  refine d_write I (by rw[e];exact True.intro) hs ⟨q,hq⟩ ⟨hl,hd,_,(rel.put k eb rv).keeps fun c ys ec=>?_,q,es,ep,hq,h2,h3,h4,h5⟩
  rw[Zb8 (ne_of ec e (fun z=>nomatch z))]
  exact ec
end
section
variable {X:Cx}{pins:List (Addr×Obj)}{σ:St}{H:Hp}{s:Shared}{a:Addr}{kvs:List (Key×V)}{k:Key}{u:Value}{A:Around}{E:Value->Shared->Prop}
theorem d_len {Q:Value->Shared->Prop}(I:Inv X pins σ H s) (e:Rd H a (.dK kvs)) (h:∀ t s',Inv X pins σ H s'->Q (.int kvs.length t) s'):wpAny (model X.prog X.w) A (call (.builtin "len") [.ref a]) Q E s:=by
 obtain⟨z,hd,vs,rel,dd⟩:=dk_rd I.hok e
 refine call_len_dict hd dd (by rw[←rel.length];rw[sizeLine_eq] at z;omega) ?_
 rw[←rel.length]
 exact h _ _ (I.tok _)
end
def NoSl (i:Expr):Prop:=∀ ov iv,subscripted i false ov iv=operate [ov,iv] (getItem ov iv)
theorem subD_of {prog:Program}{w:World}{A:Around}{E:Value->Shared->Prop}{s:Shared}{env:Env}{value slice:Expr}{pos:Pos}{T id:String}{Q:Value->Shared->Prop}
  (hl:typeLookup (.type T) "__getitem__" = pure (some (.builtin id))) (hs:NoSl slice)
  (h:wpAny (model prog w) A (eval value env) (fun o s₁=>wpAny (model prog w) A (eval slice env) (fun i s₂=>s₂.TypeIs o T/\wpAny (model prog w) A (getItem o i) Q E s₂) E s₁) E s) :
  wpAny (model prog w) A (eval (.Subscript value slice pos) env) Q E s:=by
 refine Subscript_ (wpAny_mono h (fun o s₁ h₁=>wpAny_mono h₁ (fun i s₂ h₂=>?_) fun _ _ x=>x) fun _ _ x=>x)
 obtain⟨hT,h₂⟩:=h₂
 unfold subscriptTail
 refine wpAny_bind ?_
 rw[getitemInPython_of_ne hT.not_modules]
 refine wpAny_bind (wpAny_specialOf hT hl ?_)
 have fin:wpAny (model prog w) A (subscripted slice false o i) (fun r s₃=>wpAny (model prog w) A (letTemporaryGo value o r>>=fun _=>pure r) Q E s₃) E s₂:=by
  rw[hs o i]
  exact wpAny_operating (wpAny_mono h₂ (fun r s₃ h₃=>wpAny_bind (wpAny_letTemporaryGo (wpAny_pure h₃))) fun _ _ x=>x)
 first
  | exact wpAny_pure (wpAny_bind fin)
  | exact wpAny_bind (wpAny_pure (wpAny_bind fin))
  | exact wpAny_bind fin
theorem dict_typeIs {X:Cx}{pins:List (Addr×Obj)}{σ:St}{H:Hp}{s:Shared}{a:Addr}{y:V}{o:Option V}(I:Inv X pins σ H s) (g:DGet H a y o):s.TypeIs (.ref a) "dict":=by
 rcases g with⟨kvs,k,e,_,_⟩ | ⟨kvs,k,b,e,_,_,_⟩
 ·obtain⟨_,_,vs,_,dd⟩:=dk_rd I.hok e
  exact dd.typeIs
 ·obtain⟨_,_,xs,_,dd⟩:=dt_rd I.hok e
  exact dd.typeIs
def tDGet (td ty:TE):TE:=fun σ H Q=>td σ H fun x H1=>ty σ H1 fun y H2=>∃ a v,x = .ref a/\DGet H2 a y (some v)/\Q v H2
def tDNotIn (ty td:TE):TE:=fun σ H Q=>ty σ H fun y H1=>td σ H1 fun x H2=>∃ a o,x = .ref a/\DGet H2 a y o/\Q (.bl (!o.isSome)) H2
def sDPut (td ty tv:TE):TS:=fun D σ H=>tv σ H fun v H1=>td σ H1 fun x H2=>ty σ H2 fun y H3=>∃ a H4,x = .ref a/\DPut H3 a y v H4/\D.nx σ H4
section
variable {X:Cx}{o i e value:Expr}{pos pos' tpos:Pos}{td ty tv:TE}
theorem pe_dget (hu:X.A.units+1<cLine) (ho:PE X o td) (hi:PE X i ty) (hs:NoSl i):PE X (.Subscript o i pos) (tDGet td ty):=by
 intro pins s σ H Q I h
 refine subD_of PySem.F.slot_dict_getitem.lookup hs (thn (ho pins s σ H _ I h) fun u s1 ⟨x,H1,I1,rx,q1⟩=>thn (hi pins s1 σ H1 _ I1 q1) fun iv s2 ⟨y,H2,I2,ry,a,v,ex,g,q2⟩=>?_)
 subst ex
 obtain rfl:u=Value.ref a:=rx
 exact⟨dict_typeIs I2 g,d_getItem hu I2 g ry fun w' s3 I3 rw'=>⟨v,H2,I3,rw',q2⟩⟩
theorem pc_dnotin (hu:X.A.units+1<cLine) (hi:PE X i ty) (ho:PE X o td):PC X .NotIn i o (tDNotIn ty td):=by
 intro pins s σ H Q I h
 refine thn (hi pins s σ H _ I h) fun iv s1 ⟨y,H1,I1,ry,q1⟩=>thn (ho pins s1 σ H1 _ I1 q1) fun u s2 ⟨x,H2,I2,rx,a,ov,ex,g,q2⟩=>?_
 subst ex
 obtain rfl:u=Value.ref a:=rx
 exact d_notIn hu I2 g ry fun s3 I3=>⟨.bl (!ov.isSome),H2,I3,rfl,q2⟩
theorem ps_dput (hu:X.A.units+1<cLine) (ho:PE X o td) (hi:PE X i ty) (hv:PE X value tv) (hs:swapsWith value (some (.Subscript o i pos')) pos.line X.env=pure false) :
  PS X (.Assign [.Subscript o i pos'] value pos) (sDPut td ty tv):=by
 intro pins s σ H D I h
 refine wpAny_Assign_Subscript (thn (hv pins s σ H _ I h) fun r s1 ⟨v,H1,I1,rv,q1⟩=>thn (ho pins s1 σ H1 _ I1 q1) fun u s2 ⟨x,H2,I2,rx,q2⟩=>thn (hi pins s2 σ H2 _ I2 q2) fun iv s3 ⟨y,H3,I3,ry,a,H4,ex,g,q3⟩=>?_) hs
 subst ex
 obtain rfl:u=Value.ref a:=rx
 exact d_setItem hu I3 g ry rv fun s4 I4=>⟨σ,H4,I4,q3⟩
end
theorem dk_empty {P:Program}{w:World}{H:Hp}(h:Heap) (hb:sysModules<h.objs.size):ObjOk P w H (h.push { cls:=.type "dict",data:=.dict #[] }) h.objs.size (.dK []):=
 ⟨Nat.zero_le _,beq_eq_false_iff_ne.mpr (Ne.symm (Nat.ne_of_lt hb)),[],.nil,Heap.DictOf.new h⟩
theorem dt_empty {P:Program}{w:World}{H:Hp}(h:Heap) (hb:sysModules<h.objs.size):ObjOk P w H (h.push { cls:=.type "dict",data:=.dict #[] }) h.objs.size (.dT []):=
 ⟨Nat.zero_le _,beq_eq_false_iff_ne.mpr (Ne.symm (Nat.ne_of_lt hb)),[],.nil,_,#[],0,Heap.get?_push_size _ rfl,⟨rfl,rfl,rfl⟩,rfl,rfl,List.nodup_nil⟩
def tDNewK:TE:=fun _ H Q=>∀ p,H p=none->Q (.ref p) (upd H p (.dK []))
def tDNewT:TE:=fun _ H Q=>∀ p,H p=none->Q (.ref p) (upd H p (.dT []))
section
variable {X:Cx}{pos:Pos}
theorem pe_dnewK:PE X (.Dict [] [] pos) tDNewK:=fun pins s σ H Q I h=>
 wpAny_Dict_empty ⟨.ref s.heap.objs.size,_,I.laid (a:=s.heap.objs.size) (o:=.dK []) (t':=s.toks) (fun _ _ q=>Heap.get?_push_of_some _ q) (Nat.le_refl _) (dk_empty s.heap I.big),rfl,h _ (I.hok.fresh (Nat.le_refl _))⟩
theorem pe_dnewT:PE X (.Dict [] [] pos) tDNewT:=fun pins s σ H Q I h=>
 wpAny_Dict_empty ⟨.ref s.heap.objs.size,_,I.laid (a:=s.heap.objs.size) (o:=.dT []) (t':=s.toks) (fun _ _ q=>Heap.get?_push_of_some _ q) (Nat.le_refl _) (dt_empty s.heap I.big),rfl,h _ (I.hok.fresh (Nat.le_refl _))⟩
end
def tPairs:List (TE×TE)->St->Hp->(List (V×V)->Hp->Prop)->Prop
 | [],_,H,Q=>Q [] H
 | (tk,tv)::r,σ,H,Q=>tk σ H fun x H1=>tv σ H1 fun y H2=>tPairs r σ H2 fun ps H3=>Q ((x,y)::ps) H3
abbrev VV:List (V×V)->List (Value×Value)->Prop:=Paired fun p q=>RelV p.1 q.1/\RelV p.2 q.2
def PPs (X:Cx) (pos:Pos) (keys:List (Option Expr)) (values:List Expr) (trs:List (TE×TE)):Prop:=
 ∀ (pins:List (Addr×Obj)) (s:Shared) (σ:St) (H:Hp) (Q:List (V×V)->Hp->Prop),Inv X pins σ H s->tPairs trs σ H Q ->
  wpAny (model X.prog X.w) X.A (evalPairs (pairTrees keys values X.env pos)) (fun vs s'=>∃ ps H',Inv X pins σ H' s'/\VV ps vs/\Q ps H') X.xe s
theorem pps_nil {X:Cx}{pos:Pos}:PPs X pos [] [] []:=fun pins s σ H Q I h=>pairTrees_nil_walk ⟨[],H,I,.nil,h⟩
theorem pps_cons {X:Cx}{pos:Pos}{k v:Expr}{ks:List (Option Expr)}{vs:List Expr}{tk tv:TE}{trs:List (TE×TE)}(hk:PE X k tk) (hv:PE X v tv) (hr:PPs X pos ks vs trs) :
  PPs X pos (some k::ks) (v::vs) ((tk,tv)::trs):=fun pins s σ H Q I h=>
 pairTrees_cons_walk (thn (hk pins s σ H _ I h) fun u s1 ⟨x,H1,I1,rx,q1⟩=>thn (hv pins s1 σ H1 _ I1 q1) fun w2 s2 ⟨y,H2,I2,ry,q2⟩=>
  thn (hr pins s2 σ H2 _ I2 q2) fun ws s3 ⟨ps,H3,I3,rel,q3⟩=>⟨(x,y)::ps,H3,I3,.cons ⟨rx,ry⟩ rel,q3⟩)
def mergeK (kvs more:List (Key×V)):List (Key×V):=more.foldl (fun acc kv=>putK acc kv.1 kv.2) kvs
theorem KV.merge:∀ {more:List (Key×V)}{rs:List (Key×Value)}{kvs:List (Key×V)}{vs:List (Key×Value)},KV more rs->KV kvs vs->KV (mergeK kvs more) (merged vs rs):=by
 intro more rs kvs vs r
 unfold KV at r
 induction r generalizing kvs vs with
 | nil=>intro q;exact q
 | @cons p q ps qs h t ih=>
  intro r0
  have e:KV (putK kvs p.1 p.2) (stored vs q.1 q.2):=by
   have:=r0.put p.1 h.2
   rw[←h.1];exact this
  exact ih e
theorem length_mergeK:∀ (more kvs:List (Key×V)),(mergeK kvs more).length<=kvs.length+more.length
 | [],kvs=>by show kvs.length<=kvs.length+0;omega
 | p::r,kvs=>by
  have h1:=length_mergeK r (putK kvs p.1 p.2)
  have h2:=length_putK kvs p.1 p.2
  show (mergeK (putK kvs p.1 p.2) r).length<=_
  rw[List.length_cons];omega
theorem carries_of {P:Program}{w:World}:∀ {kvs:List (Key×V)}{ws:List (Value×Value)},VV (kvs.map fun kv=>(kV kv.1,kv.2)) ws->∃ rs,Carries (mixKind P w) ws rs/\KV kvs rs
 | [],_,r=>by rw[List.map_nil] at r;cases r;exact⟨[],True.intro,.nil⟩
 | p::kvs,_,r=>by
  rw[List.map_cons] at r
  cases r with
  | @cons a b as bs h t=>
   obtain⟨rs,c,q⟩:=carries_of (P:=P) (w:=w) t
   obtain⟨b1,b2⟩:=b
   exact⟨(p.1,b2)::rs,⟨kV_is h.1,rfl,c⟩,.cons ⟨rfl,h.2⟩ q⟩
def tDisp (trs:List (TE×TE)):TE:=fun σ H Q=>∀ p,H p=none->tPairs trs σ (upd H p (.dK [])) fun ps H2=>H2 p=some (.dK [])/\∃ kvs:List (Key×V),ps=kvs.map (fun kv=>(kV kv.1,kv.2))/\kvs.length<=15/\Q (.ref p) (upd H2 p (.dK (mergeK [] kvs)))
theorem pe_disp {X:Cx}{pos:Pos}{keys:List (Option Expr)}{values:List Expr}{trs:List (TE×TE)}(h:PPs X pos keys values trs) (hall:keys.all (·.isSome)=true) (hl:keys.length=values.length) (h0:keys≠[])
  (h15:keys.length<=15):PE X (.Dict keys values pos) (tDisp trs):=by
 intro pins s σ H Q I q
 have hn:=I.hok.fresh (Nat.le_refl s.heap.objs.size)
 have I1:=I.laid (a:=s.heap.objs.size) (o:=.dK []) (h':=s.heap.push { cls:=.type "dict",data:=.dict #[] }) (t':=s.toks) (fun _ _ q=>Heap.get?_push_of_some _ q) (Nat.le_refl _) (dk_empty s.heap I.big)
 refine wpAny_Dict_walk (knd:=mixKind X.prog X.w) hall hl h0 h15 (thn (h pins _ σ _ _ I1 (q _ hn)) fun ws s2 ⟨ps,H2,I2,rel,e,kvs,ep,lk,q2⟩=>?_)
 subst ep
 obtain⟨rs,c,rk⟩:=carries_of (P:=X.prog) (w:=X.w) rel
 obtain⟨z,hd,vs0,r0,dd⟩:=dk_of I2.hok e
 cases r0
 refine⟨rs,c,dd,fun h' dd' hs=>⟨.ref s.heap.objs.size,_,?_,rfl,q2⟩⟩
 have hz:(mergeK [] kvs).length<=sizeLine:=by
  have h1:=length_mergeK kvs []
  rw[List.length_nil] at h1
  rw[sizeLine_eq];omega
 have he:∃ q,h'.get? s.heap.objs.size=some q:=let ⟨q,_,_,hq,_⟩:=dd';⟨q,hq⟩
 exact d_write I2 (by rw[e];exact True.intro) hs he (dk_new hz hd (rk.merge .nil) dd')
structure M2 (X:Cx) (o:Expr) (m:Str) (apos:Pos) (e f:Expr) (cpos:Pos):Prop where
 base:attributeBase o m X.env (eval o X.env)=eval o X.env
 few:((backTo cpos (starEach [e,f] X.env)).all (fun x=>!x.1)&&(backToKw cpos (keywordEach [] X.env)).all (fun x=>x.1.isSome)
  && decide (([e,f]:List Expr).length+([]:List Keyword).length+(if ([]:List Keyword).isEmpty then 0 else 1)<30))=true
 line:(apos.endLine==cpos.line)=true
 trees:backTo cpos (starEach [e,f] X.env)=[(false,eval e X.env),(false,eval f X.env)]
section
variable {X:Cx}{pins:List (Addr×Obj)}{σ:St}{H:Hp}{s:Shared}{a:Addr}{y d:V}{u r:Value}{o:Option V}{A:Around}{E:Value->Shared->Prop}
end
section
variable {X:Cx}{o e f:Expr}{apos cpos:Pos}{td ty tx:TE}
end
section
variable {X:Cx}{pins:List (Addr×Obj)}{σ:St}{H:Hp}{s:Shared}{a:Addr}{kvs:List (Key×V)}{A:Around}{E:Value->Shared->Prop}
theorem d_copyOf {Q:Value->Shared->Prop}(I:Inv X pins σ H s) (e:Rd H a (.dK kvs)) (h:∀ p s',H p=none->Inv X pins σ (upd H p (.dK kvs)) s'->Q (.ref p) s'):wpAny (model X.prog X.w) A (call (.type "dict") [.ref a]) Q E s:=by
 obtain⟨z,hd,vs,rel,dd⟩:=dk_rd I.hok e
 refine kt_call_dict hd dd (by rw[←rel.length];exact z) fun h' dd' hs=>?_
 refine h _ _ (I.hok.fresh (Nat.le_refl _)) (I.laid (a:=s.heap.objs.size) (o:=.dK kvs) (t':=s.toks) (fun b q hq=>?_) (Nat.le_refl _) (dk_new z (beq_eq_false_iff_ne.mpr (Ne.symm (Nat.ne_of_lt I.big))) rel dd'))
 exact (hs.2 b (Nat.ne_of_lt (Heap.lt_size hq))).trans (Heap.get?_push_of_some _ hq)
end
section
variable {X:Cx}{pins:List (Addr×Obj)}{σ:St}{H:Hp}{s:Shared}{a:Addr}{y:V}{u:Value}{A:Around}{E:Value->Shared->Prop}
end
end L2
namespace Att
open PySem PySem.W PySem.Calls PyProof.Rows
theorem ints_of_wellAll {P:Params}{h:Heap}:∀ (ns:List Int) (vs:List Value),WellAll P h vs (ns.map WData.int)->IntsAre vs ns:=by
 intro ns
 induction ns with
 | nil=>
  intro vs w
  rw[List.map_nil] at w
  cases w
  exact .nil
 | cons n ns ih=>
  intro vs w
  rw[List.map_cons] at w
  cases w with
  | cons a b=>
   cases a
   exact .cons _ _ (ih _ b)
theorem script_of {l:OpenLaw}{n:Nat}(hn:l.most=some n) {P:Params}{h:Heap}{args:List WData}{vals:List Value}
  (hpre:l.row.toRowW.claim.pre args=true) (hwl:WellAll P h vals args) :
  ∃ a vs ns,vals=[Value.ref a]/\args=[WData.list (ns.map WData.int)]/\h.get? a=some { cls:=.type "list",data:=.seq vs.toArray }/\IntsAre vs ns/\ns.length<=n:=by
 have hsh:WShape.hasAll [] args [.list .int]=true:=(pre_splitW hpre).1
 have hc:l.pre.holds [] { args:=args }=true:=(pre_splitW hpre).2
 obtain⟨d,r,rfl,h1,h2⟩:=hasAllW_cons hsh
 obtain rfl:=hasAllW_nil h2
 obtain⟨xs,rfl,h3⟩:=hasW_list h1
 obtain⟨ns,rfl⟩:=items_int h3
 have hlen:ns.length<=n:=by
  unfold OpenLaw.pre at hc
  have h4:(WTm.not (.lt (.lit (.int (n:Int))) (.len (.arg 0)))).holds [] { args:=[.list (ns.map .int)] }=true:=by
   have h4:=(holds_andW hc).1
   rw[hn] at h4
   exact h4
  have h5:=condW_of h4 (w_not (w_lt w_lit (w_len_list (w_arg rfl))))
  rw[List.length_map] at h5
  refine Nat.le_of_not_lt fun q=>?_
  have q':(n:Int)<((ns.length:Nat):Int):=by omega
  first
   | (rw[decide_eq_true q'] at h5;exact absurd h5 ⋯)
   | (simp at h5;omega)
 cases hwl with
 | cons w1 w2=>
  cases w2
  cases w1 with
  | list ho hall=>exact⟨_,_,ns,rfl,rfl,ho,ints_of_wellAll ns _ hall,hlen⟩
theorem post_true (l:OpenLaw) (args:List WData):l.row.toRowW.claim.post args (.bool true) args=true:=
 postW_of (r:=l.row.toRowW) (X:=(true==true))
  (show WShape.has [] (.bool true) .bool=true by first | rfl | decide | simp[WShape.has,WShape.arms,WShape.armsAll])
  (show (WTm.eq .res (.lit (.bool true))).value [] { args:=args,res:=some (.bool true),after:=args }=some (.bool (true==true)) from w_eq_bool (w_res rfl) w_lit) rfl
theorem attach_call {l:OpenLaw}{n:Nat}{q:Program}{loose:List Str}{XP:(Str->Option Value)->Heap->Prop}{YP:World->Heap->Prop}{d:DefRec}
  (hn:l.most=some n) (hdf:d.params.defaults=[])
  (call:∀ (w:World) (s₀ s₁:Shared) (mg mb:Str->Option Value) (fa:Addr) (o:Obj) (pm cd doc:Value) (a:Addr) (vs:List Value) (ns:List Int),
   Ground q loose [] XP w s₀ mg mb s₁.heap->YP w s₁.heap ->
   s₁.heap.get? fa=some o->o.data = .func (docDef d.name d.params d.body d.scope pm cd doc)->s₁.heap.CodeRec cd d.name->mg d.name=some (.ref fa) ->
   s₁.heap.get? a=some { cls:=.type "list",data:=.seq vs.toArray }->IntsAre vs ns->ns.length<=n->s₁.gens = #[] ->
   codeAny (model l.prog w) callerA (.call (.ref fa) ⟨[.ref a],[]⟩) (fun r s'=>r = .ok (.ret (.bool true))/\OldK s₁.heap s'.heap/\s'.os=s₁.os/\AllBare s'.gens) s₁) :
  WalkO q loose XP YP l.row.toRowW d [] (fun f vs=>PySem.call f vs):=by
 intro w s₀ s₁ mg mb G Y fa o pm cd doc dV kV ho hd hcd hD hmg hg args vals as hpre hlay hrd hwl hlo
 obtain rfl:dV = .none:=Dflts.none hD hdf
 obtain rfl:kV = .none:=Dflts.noKw hD
 obtain⟨a,vs,ns,rfl,rfl,hobj,hints,hlen⟩:=script_of hn hpre hwl
 refine enter_call (codeAny_mono (call w s₀ s₁ mg mb fa o pm cd doc a vs ns G Y ho (fd_plain hd) hcd hmg hobj hints hlen hg) fun r s' hq=>?_)
 obtain⟨rfl,h2,h3,h4⟩:=hq
 exact⟨.inl ⟨.bool true,.bool true,[],rfl,fun _=>rfl,.bool true,post_true l _,fun _=>⟨List.Pairwise.nil,fun _ hm=>(nomatch hm)⟩⟩,h2,h3,h4⟩
section
variable {prog:Program}{w:World}{A:Around}{E:Value->Shared->Prop}{s:Shared}{K:Frag}
end
end Att
namespace L2
open PySem PySem.Spec PyProof.Rows
theorem vals_ints:∀ {vs:List Value}{ns:List Int},IntsAre vs ns->Vals (ns.map V.int) vs
 | _,_,.nil=>.nil
 | _,_,.cons n t h=>.cons ⟨t,rfl⟩ (vals_ints h)
def Only (H:Hp):Prop:=∀ b,H b=none\/∃ o xs,H b=some (.frz o (.lst xs))
theorem law_call {P:Program}{w:World}{K:PySem.W.Frag}{mg mb:Str->Option Value}{CX:CXT}{k:Nat}{fa a:Addr}{fd:FuncData}{x:Str}{sp:Sp}{s₁:Shared}{vs:List Value}{ns:List Int}
  (KX:K.In s₁.heap) (hns:s₁.heap.Ns mainGlobals mg) (hb:s₁.heap.Ns builtinsNs mb) (hbb:∀ x:Str,x≠"__name__" -> mb x=bootBuiltins x) (hlim:s₁.heap.NoLimit) (hg:s₁.gens = #[])
  (ha:s₁.heap.get? a=some { cls:=.type "list",data:=.seq vs.toArray }) (hi:IntsAre vs ns) (hl:ns.length<=sizeLine) (hr:Room k callerA)
  (F:∀ base:Heap,K.In base->base.Ns mainGlobals mg->FnOk P w K mg base CX k fa fd [x] sp) (hbind:∀ (s:Shared) (u:Value),BindsTo s fd ⟨[u],[]⟩ [(x,u)])
  (hsp:∀ H:Hp,Only H->SqL K H a (ns.map V.int)->sp [.ref a] H (fun v _=>v = .bl true) fun _ _ _=>False)
  (hCX:∀ H e s',CX [] H s₁ (fun _ _ _=>False) e s'->False) :
  codeAny (model P w) callerA (.call (.ref fa) ⟨[.ref a],[]⟩) (fun r s'=>r = .ok (.ret (.bool true))/\OldK s₁.heap s'.heap/\s'.os=s₁.os/\AllBare s'.gens) s₁:=by
 have rv:=vals_ints hi
 have lenV:=hi.length
 have core:∀ H:Hp,Only H->SqL K H a (ns.map V.int)->HOk P w H s₁.heap->(∀ b,H b≠none->b=a)->(H a≠none->K.lookup a=none) ->
   codeAny (model P w) callerA (.call (.ref fa) ⟨[.ref a],[]⟩) (fun r s'=>r = .ok (.ret (.bool true))/\OldK s₁.heap s'.heap/\s'.os=s₁.os/\AllBare s'.gens) s₁:=by
  intro H hO hS hok hA hK
  have base_of:∀ {b:Addr} {o:Obj},s₁.heap.get? b=some o->H b=none->(hidT s₁.heap H).get? b=some o:=fun e n=>hidT_get e n
  have noA:∀ {b:Addr} {o:Obj} {es:Array DictEntry} {ep:Nat},s₁.heap.get? b=some o->o.data = .dict es ep->H b=none:=fun {b o es ep} e d=>by
   cases q:H b with
   | none=>rfl
   | some u=>
    have e':b=a:=hA b (by rw[q];simp)
    subst e'
    rw[ha] at e;cases e
    have d':Data.seq vs.toArray _=Data.dict es ep:=d
    cases d'
  have nsK:∀ {b:Addr} {m:Str->Option Value},s₁.heap.Ns b m->(hidT s₁.heap H).Ns b m:=fun {b m} ⟨o,es,ep,e,d,r⟩=>⟨o,es,ep,base_of e (noA e d),d,r⟩
  have hKb:K.In (hidT s₁.heap H):=fun b o e=>base_of (KX b o e) (by
   cases q:H b with
   | none=>rfl
   | some u=>
    have e':b=a:=hA b (by rw[q];simp)
    subst e'
    rw[hK (by rw[q];simp)] at e;cases e)
  have hM:Mod K mg (hidT s₁.heap H):=⟨hKb,nsK hns,⟨mb,nsK hb,hbb⟩,let ⟨mc,h1,h2⟩:=hlim;⟨mc,nsK h1,h2⟩⟩
  have e0:Env0 P w K mg (hidT s₁.heap H) callerA [] s₁ H:=⟨rfl,hM,fun b o e=>of_hidT e,Nat.le_of_eq (hidT_size _ _),trivial,fun b hb=>absurd (show b∈([]:List Addr) from hb) (by simp),hok,.of_eq hg⟩
  refine codeAny_mono ((F _ hKb (nsK hns)).run callerA [] s₁ H ⟨[.ref a],[]⟩ [.ref a] [.ref a] _ _ hr e0 (hbind s₁ (.ref a)) (.cons rfl .nil) (hsp H hO hS)) fun r s' h=>?_
  cases r with
  | error e=>exact (hCX H e s' h).elim
  | ok fl=>
   cases fl with
   | next=>exact False.elim h
   | brk=>exact False.elim h
   | cont=>exact False.elim h
   | ret u=>
    obtain⟨v,H',os,bare,un,hok',r',q⟩:=h
    have q':v = .bl true:=q
    subst q'
    obtain rfl:u=Value.bool true:=r'
    refine⟨rfl,OldK.of_keep fun b o e=>?_,os,bare⟩
    cases q:H b with
    | none=>exact un.keep b o e q (by intro z;exact absurd (show b∈([]:List Addr) from z) (by simp)) (by simp)
    | some u=>
     rcases hO b with z | ⟨ob,xs,z⟩
     ·rw[q] at z;cases z
     ·have z2:=un.frzs b ob _ z
      obtain⟨e1,_⟩:=hok b _ z
      obtain⟨e2,_⟩:=hok' b _ z2
      rw[e] at e1;cases e1
      exact e2
 cases hk:K.lookup a with
 | some o=>
  have e:=KX a o hk
  rw[ha] at e
  cases e
  refine core (fun _=>none) (fun _=>.inl rfl) (.inr ⟨_,vs.toArray,_,hk,rfl,rfl,rfl,by rw[List.size_toArray,lenV];exact hl,by simpa using rv⟩) (fun b u z=>by have z':(none:Option HO)=some u:=z;cases z') (fun b z=>absurd rfl z) fun z=>absurd rfl z
 | none=>
  refine core (fun b=>if b=a then some (.frz { cls:=.type "list",data:=.seq vs.toArray } (.lst (ns.map V.int))) else none) (fun b=>?_) (.inl (.inr ⟨{ cls:=.type "list",data:=.seq vs.toArray },if_pos rfl⟩)) (fun b u z=>?_) (fun b z=>?_) fun _=>hk
  ·by_cases hb:b=a
   ·exact .inr ⟨_,_,if_pos hb⟩
   ·exact .inl (if_neg hb)
  ·by_cases hb:b=a
   ·have z':=(if_pos hb).symm.trans z
    cases z'
    subst hb
    exact⟨ha,by rw[List.length_map];exact hl,vs,_,rv,ha⟩
   ·have z':=(if_neg hb).symm.trans z
    cases z'
  ·by_cases hb:b=a
   ·exact hb
   ·exact absurd (if_neg hb) z
end L2
namespace L2
open PySem PySem.Spec PyProof.Rows
theorem walk_of {l:PySem.W.OpenLaw}{n k:Nat}{q:Program}{loose:List Str}{XP:(Str->Option Value)->Heap->Prop}{YP:World->Heap->Prop}{d:DefRec}{K:Params->PySem.W.Frag}{CX:World->CXT}{sp:World->Sp}{x:Str}
  (hn:l.most=some n) (hn2:n<=sizeLine) (hdf:d.params.defaults=[]) (hr:Room k callerA)
  (hY:∀ (w:World) (h:Heap),YP w h->(K w.params).In h)
  (F:∀ (w:World) (mg:Str->Option Value) (fa:Addr) (h:Heap),(K w.params).In h->h.Ns mainGlobals mg->mg d.name=some (.ref fa) ->
   ∃ fd:FuncData,(∀ (s:Shared) (u:Value),BindsTo s fd ⟨[u],[]⟩ [(x,u)]) /\
    ∀ base:Heap,(K w.params).In base->base.Ns mainGlobals mg->FnOk l.prog w (K w.params) mg base (CX w) k fa fd [x] (sp w))
  (hsp:∀ (w:World) (H:Hp) (a:Addr) (ns:List Int),ns.length<=n->Only H->SqL (K w.params) H a (ns.map V.int)->sp w [.ref a] H (fun v _=>v = .bl true) fun _ _ _=>False)
  (hCX:∀ (w:World) (H:Hp) (s:Shared) (e:Value) (s':Shared),CX w [] H s (fun _ _ _=>False) e s'->False) :
  PySem.W.WalkO q loose XP YP l.row.toRowW d [] (fun f vs=>PySem.call f vs):=by
 refine Att.attach_call hn hdf fun w s₀ s₁ mg mb fa o pm cd doc a vs ns G Y ho hd hcd hmg hobj hints hlen hg=>?_
 have KX:=hY w _ Y
 obtain⟨fd,hb,hF⟩:=F w mg fa _ KX G.T.g hmg
 exact law_call KX G.T.g G.T.b G.T.builtins G.T.nolimit hg hobj hints (Nat.le_trans hlen hn2) hr hF hb (fun H hO hS=>hsp w H a ns hlen hO hS) fun H e s'=>hCX w H s₁ e s'
end L2
namespace L2
open PySem PySem.Spec PyProof.Rows
def Zc5 (s:Stmt) (j:Nat):Stmt:=match s with
 | .ClassDef _ _ _ body _ _ _ _ _ _ _=>body.getD j (.Pass ⟨0,0,0,0⟩)
 | _=>.Pass ⟨0,0,0,0⟩
def defArgs (s:Stmt):Arguments:=match s with
 | .FunctionDef _ a _ _ _ _ _ _ _ _=>a
 | _=>{ posonlyargs:=[],args:=[],vararg:=none,kwonlyargs:=[],kw_defaults:=[],kwarg:=none,defaults:=[] }
def defBody (s:Stmt):List Stmt:=match s with
 | .FunctionDef _ _ b _ _ _ _ _ _ _=>b
 | _=>[]
def Za6 (s:Stmt):Scope:=match s with
 | .FunctionDef _ _ _ _ _ _ sc _ _ _=>sc
 | _=>{ kind:=.function,names:=[],isGenerator:=false,isCoroutine:=false }
abbrev E0:XK:=fun _ _ _=>False
structure Fun (K:PySem.W.Frag) (x qual:Str) (st:Stmt) (f:Addr) (fd:FuncData):Prop where
 ex:∃ (oc:Value) (od:Option Addr) (kV doc pm:Value) (an:Option Addr) (cdv ct:Value) (osl:Array (Option Value)),
  fd=PySem.W.fnOf x qual (defArgs st) (defBody st) (Za6 st) .none kV doc pm an cdv ct/\K.lookup f=some ⟨oc,od,.func fd,osl⟩/\PySem.W.codeIn K cdv qual=true
 kp:PySem.W.keepIn K (.ref f)=true
section
variable {P:Program}{w:World}{K:PySem.W.Frag}{mg:Str->Option Value}{base:Heap}
theorem Fun.binds {x qual:Str}{st:Stmt}{f:Addr}{fd:FuncData}{ps:List Str}(F:Fun K x qual st f fd)
  (h:∀ (kV doc pm:Value) (an:Option Addr) (cdv ct:Value) (us:List Value),us.length=ps.length->bindArgs (PySem.W.fnOf x qual (defArgs st) (defBody st) (Za6 st) .none kV doc pm an cdv ct) ⟨us,[]⟩=pure (ps.zip us)):Binds K fd ps []:=by
 obtain⟨oc,od,kV,doc,pm,an,cdv,ct,osl,rfl,lk,hcd⟩:=F.ex
 exact .all (h kV doc pm an cdv ct)
theorem fun_mk {x qual:Str}{st:Stmt}{f:Addr}{oc:Value}{od an:Option Addr}{osl:Array (Option Value)}{kV doc pm cdv ct:Value}(l:K.lookup f=some ⟨oc,od,.func (PySem.W.fnOf x qual (defArgs st) (defBody st) (Za6 st) .none kV doc pm an cdv ct),osl⟩)
  (c:PySem.W.codeIn K cdv qual=true) (k:PySem.W.keepIn K (.ref f)=true):Fun K x qual st f (PySem.W.fnOf x qual (defArgs st) (defBody st) (Za6 st) .none kV doc pm an cdv ct):=⟨⟨oc,od,kV,doc,pm,an,cdv,ct,osl,rfl,l,c⟩,k⟩
end
theorem hu_of {A:Around}{k:Nat}(hr:Room k A):A.units+1<cLine:=Nat.lt_of_le_of_lt (Nat.add_le_add_left (by decide:1<=64) _) hr.units
theorem small1000 {n:Nat}(h:n<=1000):n<sizeLine:=Nat.lt_of_le_of_lt h ⋯
section
variable {X:Cx}
theorem pv (i:Nat) {x:Str}{pos:Pos}(hN:X.N[i]? = some x:=by rfl) (hv:Vis X.env.scope x:=by first | exact Or.inl rfl | exact Or.inr (Or.inl rfl) | exact Or.inr (Or.inr rfl)) (hd:(x==("__debug__" : Str))=false:=by decide)
  (hcd:(x==("__classdict__" : Str))=false:=by decide):PE X (.Name x pos) (tVar i):=pe_var hN hv hd hcd
theorem call_lenD:CallR X (.builtin "len") (fun xs H Q=>∃ a kvs,xs=[V.ref a]/\H a=some (.dK kvs)/\Q (.int kvs.length) H):=by
 intro pins s σ H xs us Q I r h
 obtain⟨a,kvs,rfl,ha,q⟩:=h
 obtain⟨u,rfl,ru⟩:=vals1 r
 cases ru
 exact d_len I (.inl ha) fun t s' I'=>⟨.int kvs.length,H,I',⟨t,rfl⟩,q⟩
end
def Same (H H':Hp):Prop:=∀ b o,H b=some o->H' b=some o
theorem Same.trans {H H1 H2:Hp}(a:Same H H1) (b:Same H1 H2):Same H H2:=fun c o h=>b c o (a c o h)
section
variable {κ:Type} [DecidableEq κ]
theorem valV_not {kvs:List (κ×V)}{k:κ}(h:valV kvs k=none):¬k∈kvs.map (·.1):=by
 intro m
 obtain⟨p,hp,e⟩:=List.mem_map.mp m
 have q:(kvs.any fun kv=>decide (kv.1=k))=true:=List.any_eq_true.mpr ⟨p,hp,decide_eq_true e⟩
 rw[valV_any,h] at q
 exact absurd q (by simp)
theorem valV_in {kvs:List (κ×V)}{k:κ}{v:V}(h:valV kvs k=some v):k∈kvs.map (·.1):=by
 have q:(kvs.any fun kv=>decide (kv.1=k))=true:=by
  rw[valV_any,h]
  all_goals rfl
 obtain⟨p,hp,e⟩:=List.any_eq_true.mp q
 exact List.mem_map.mpr ⟨p,hp,of_decide_eq_true e⟩
end
end L2
set_option maxHeartbeats 1000000
namespace L2
open PySem PySem.Spec PyProof.Rows
section
variable {P:Program}{w:World}{H H':Hp}{h h':Heap}{a:Addr}{o:HO}
theorem ObjOk.there (x:ObjOk P w H h a o):∃ u,h.get? a=some u:=by
 cases o with
 | lst xs=>obtain⟨_,_,_,_,e⟩:=x;exact⟨_,e⟩
 | tup xs=>obtain⟨_,_,_,o,e,_⟩:=x;exact⟨_,e⟩
 | dK kvs=>obtain⟨_,_,_,_,o,_,_,e,_⟩:=x;exact⟨_,e⟩
 | dT kvs=>obtain⟨_,_,_,_,o,_,_,e,_⟩:=x;exact⟨_,e⟩
 | set S n=>obtain⟨o,_,_,_,e,_⟩:=x;exact⟨_,e⟩
 | ins C dx fs=>obtain⟨_,_,_,e,_⟩:=x;exact⟨_,e⟩
 | own y=>exact x
 | xd fs=>obtain⟨_,⟨_,_,_,e,_⟩,_⟩:=x;exact⟨_,e⟩
 | rng lo hi=>obtain⟨_,_,_,e⟩:=x;exact⟨_,e⟩
 | frz ob u=>obtain⟨e,_⟩:=x;exact⟨_,e⟩
 | tbl ps=>exact⟨_,(show h.get? a=some _ from x)⟩
 | met f y=>exact⟨_,(show h.get? a=some _ from x)⟩
 | ext φ=>obtain⟨_,e,_⟩:=x;exact e
theorem HOk.there (x:HOk P w H h) (e:H a=some o):∃ u,h.get? a=some u:=(x a o e).there
end
structure Fly (P:Program) (w:World) (outer:List Env) (H:Hp) (s:Shared) (a C t:Addr) (H':Hp) (B:Heap) (s':Shared):Prop where
 os:s'.os=s.os
 bare:AllBare s'.gens
 un:Un (frs outer) [] H H' s.heap s'.heap
 hok:HOk P w H' s'.heap
 new:s.heap.get? a=none
 nt:H' a=none
 fly:Heap.FlyingW B outer a (.ref C) (.ref t) s'.heap
 trk:∀ b o u,H' b=some o->s'.heap.get? b=some u->B.get? b=some u
 old:∀ b o,s.heap.get? b=some o->H b=none->b∉frs outer->B.get? b=some o
 thr:∀ b o,s.heap.get? b=some o->b∉frs outer->∃ o',B.get? b=some o'
def CX1 (P:Program) (w:World):CXT:=fun outer H s E e s'=>∃ a C t H' B,e = .ref a/\Fly P w outer H s a C t H' B s'/\E (.ref C) none H'
section
variable {P:Program}{w:World}{outer:List Env}{H H':Hp}{s s':Shared}{a C t:Addr}{B h₅:Heap}
theorem Fly.frame (F:Fly P w outer H s a C t H' B s') {b:Addr}(hb:b∈frs outer):∃ o,s'.heap.get? b=some o/\∀ vs,o.data ≠ .fields vs:=by
 obtain⟨_,o,ho,hd⟩:=F.fly.2.2.1.mem hb
 exact⟨o,ho,hd⟩
theorem Fly.un' (F:Fly P w outer H s a C t H' B s') (hB:B.StaysIn h₅) (hs:s'.heap.UpToSlots h₅):Un (frs outer) [] H H' s.heap h₅ where
 keep:=fun b o e n hb _=>hB b o (F.old b o e n hb)
 slot:=fun b o e n hb hx=>by
  obtain⟨sl,e1⟩:=F.un.slot b o e n hb hx
  obtain⟨o',e2,hd⟩:=F.frame hb
  rw[e1] at e2
  cases e2
  obtain⟨sl',e3⟩:=hs b _ e1 hd
  exact⟨sl',e3⟩
 free:=F.un.free
 there:=fun b o e hx=>by
  by_cases hb:b∈frs outer
  ·obtain⟨o',e2,hd⟩:=F.frame hb
   obtain⟨sl',e3⟩:=hs b _ e2 hd
   exact⟨_,e3⟩
  ·obtain⟨o',e2⟩:=F.thr b o e hb
   exact⟨o',hB b o' e2⟩
 tups:=F.un.tups
 frzs:=F.un.frzs
 tbls:=F.un.tbls
theorem Fly.hok' (F:Fly P w outer H s a C t H' B s') (hB:B.StaysIn h₅):HOk P w H' h₅:=fun b o e=>by
 refine (F.hok b o e).stay (fun c u hc q=>?_) (fun _ q=>q) fun _ _ q=>q
 rcases hc with rfl | hc
 ·exact hB _ _ (F.trk _ o u e q)
 ·exact hB _ _ (F.trk _ _ u hc q)
end
theorem mem_frs_cons {env:Env}{l:List Env}{L b:Addr}(hf:env.frame=some L) (hb:b∈frs (env::l)):b=L\/b∈frs l:=by
 unfold frs at hb
 rw[List.filterMap_cons,hf] at hb
 exact List.mem_cons.mp hb
theorem frs_sub {env:Env}{l:List Env}{b:Addr}(hb:b∈frs l):b∈frs (env::l):=by
 unfold frs at hb ⊢
 rw[List.filterMap_cons]
 cases env.frame with
 | none=>exact hb
 | some L=>exact List.mem_cons_of_mem _ hb
section
variable {X:Cx}{pins:List (Addr×Obj)}{σ:St}{H₁:Hp}{s₁ s₂:Shared}{h':Heap}{E:XK}{F:Value->Shared->Prop}{e C:Addr}{args:List Value}{x:Value}
theorem raise_leaves (hst:X.stack=X.env::X.outer) (hfr:X.env.frame=some X.env.locals) (hex:X.ex=[]) (I:Inv X pins σ H₁ s₁) (hx:Heap.MadeExcOf s₁.heap h' e (.ref C) args) (hE:E (.ref C) none H₁) :
  wpAny (model X.prog X.w) X.A (leaving X.env (.ref e)) (fun _ s''=>CX1 X.prog X.w X.outer X.H₀ X.s₀ E (.ref e) s'') F { s₁ with heap:=h' }:=by
 have hl:=I.stack
 rw[hst] at hl
 have hA:X.A.frames=some (X.env::X.outer):=by rw[I.ok.frames,hst]
 have neL:∀ b o,X.s₀.heap.get? b=some o->b≠X.env.locals:=fun b o e=>Nat.ne_of_lt (Nat.lt_of_lt_of_le (Heap.lt_size e) I.ok.above)
 have inB:∀ b o,s₁.heap.get? b=some o->b∉frs (X.env::X.outer)->(PySem.W.hideAll s₁.heap (frs (X.env::X.outer))).get? b=some o:=fun b o q n=>PySem.W.hideAll_get _ q n
 have nfr:∀ b,b≠X.env.locals->b∉frs X.outer->b∉frs (X.env::X.outer):=fun b h1 h2 h3=>(mem_frs_cons hfr h3).elim h1 h2
 refine wpAny_leaves_madeW (base:=PySem.W.hideAll s₁.heap (frs (X.env::X.outer))) (h:=s₁.heap) hA hfr (fun b o q=>PySem.W.of_hideAll _ q)
  (PySem.W.funFrames_hide hl fun env he b hb=>List.mem_filterMap.mpr ⟨env,he,hb⟩) hx fun h'' t x1 x2 x3 x4=>?_
 have nex:∀ b:Addr,b∉X.ex:=fun b hb=>by rw[hex] at hb;exact nomatch hb
 have hup:s₁.heap.UpToSlots h'':=(Heap.UpToSlots.of_keeps hx.keeps).trans x4
 have fr1:∀ b∈frs X.outer,∃ o,s₁.heap.get? b=some o/\∀ vs,o.data ≠ .fields vs:=fun b hb=>by
  obtain⟨_,o,ho,hd⟩:=hl.mem (frs_sub hb)
  exact⟨o,ho,hd⟩
 have trkB:∀ b o u,H₁ b=some o->s₁.heap.get? b=some u->(PySem.W.hideAll s₁.heap (frs (X.env::X.outer))).get? b=some u:=fun b o u q r=>inB b u r fun hb=>by
  have:=I.stkFree b (by rw[hst];exact hb)
  rw[this] at q
  cases q
 have nt:H₁ e=none:=by
  cases q:H₁ e with
  | none=>rfl
  | some o=>
   obtain⟨u,hu⟩:=I.hok.there q
   rw[hx.new] at hu
   cases hu
 have un:Un (frs X.outer) [] X.H₀ H₁ X.s₀.heap h'':=by
  refine⟨fun b o q n hb _=>?_,fun b o q n hb _=>?_,fun b o q n _=>I.base.free b o q n (nex b),fun b o q _=>?_,I.base.tups,I.base.frzs,I.base.tbls⟩
  ·exact x1.1 b o (inB b o (I.base.keep b o q n hb (nex b)) (nfr b (neL b o q) hb))
  ·obtain⟨sl,e1⟩:=I.base.slot b o q n hb (nex b)
   obtain⟨o',e2,hd⟩:=fr1 b hb
   rw[e1] at e2
   cases e2
   obtain⟨sl',e3⟩:=hup b _ e1 hd
   exact⟨sl',e3⟩
  ·obtain⟨o',e1⟩:=I.base.there b o q (nex b)
   by_cases hb:b∈frs X.outer
   ·obtain⟨o',e2,hd⟩:=fr1 b hb
    obtain⟨sl',e3⟩:=hup b _ e2 hd
    exact⟨_,e3⟩
   ·exact⟨o',x1.1 b o' (inB b o' e1 (nfr b (neL b o q) hb))⟩
 have hok:HOk X.prog X.w H₁ h'':=fun b o q=>by
  refine (I.hok b o q).stay (fun c u hc r=>?_) (fun _ q=>q) fun _ _ q=>q
  rcases hc with rfl | hc
  ·exact x1.1 _ _ (trkB _ o u q r)
  ·exact x1.1 _ _ (trkB _ _ u hc r)
 refine⟨e,C,t,H₁,_,rfl,⟨I.os,I.bare,un,hok,?_,nt,x1,fun b o u q r=>?_,fun b o q n hb=>?_,fun b o q hb=>?_⟩,hE⟩
 ·cases q:X.s₀.heap.get? e with
  | none=>rfl
  | some o=>
   obtain⟨o',e1⟩:=I.base.there e o q (nex e)
   rw[hx.new] at e1
   cases e1
 ·obtain⟨u',hu⟩:=I.hok.there q
  have r':h''.get? b=some u:=r
  have z:=trkB b o u' q hu
  rw[x1.1 b u' z] at r'
  cases r'
  exact z
 ·exact inB b o (I.base.keep b o q n hb (nex b)) (nfr b (neL b o q) hb)
 ·obtain⟨o',e1⟩:=I.base.there b o q (nex b)
  exact⟨o',inB b o' e1 (nfr b (neL b o q) hb)⟩
theorem pass_leaves (hst:X.stack=X.env::X.outer) (hfr:X.env.frame=some X.env.locals) (hex:X.ex=[]) (I:Inv X pins σ H₁ s₁) (h:CX1 X.prog X.w X.stack H₁ s₁ E x s₂) :
  wpAny (model X.prog X.w) X.A (leaving X.env x) (fun _ s''=>CX1 X.prog X.w X.outer X.H₀ X.s₀ E x s'') F s₂:=by
 obtain⟨a,C,t,H₂,B,rfl,F,hE⟩:=h
 rw[hst] at F
 have hA:X.A.frames=some (X.env::X.outer):=by rw[I.ok.frames,hst]
 have neL:∀ b o,X.s₀.heap.get? b=some o->b≠X.env.locals:=fun b o e=>Nat.ne_of_lt (Nat.lt_of_lt_of_le (Heap.lt_size e) I.ok.above)
 have nfr:∀ b,b≠X.env.locals->b∉frs X.outer->b∉frs (X.env::X.outer):=fun b h1 h2 h3=>(mem_frs_cons hfr h3).elim h1 h2
 have nex:∀ b:Addr,b∉X.ex:=fun b hb=>by rw[hex] at hb;exact nomatch hb
 refine wpAny_leaves_onW hA hfr F.fly fun h'' x1 x2=>?_
 have un1:=F.un' x1.1 x2
 have hok:=F.hok' (h₅:=h'') x1.1
 have un:Un (frs X.outer) [] X.H₀ H₂ X.s₀.heap h'':=by
  refine⟨fun b o q n hb _=>?_,fun b o q n hb _=>?_,fun b o q n _=>?_,fun b o q _=>?_,fun b xs q=>un1.tups b xs (I.base.tups b xs q),fun b o u q=>un1.frzs b o u (I.base.frzs b o u q),fun b ps q=>?_⟩
  ·exact un1.keep b o (I.base.keep b o q n hb (nex b)) (I.base.free b o q n (nex b)) (nfr b (neL b o q) hb) (by simp)
  ·obtain⟨sl,e1⟩:=I.base.slot b o q n hb (nex b)
   obtain⟨sl',e2⟩:=un1.slot b _ e1 (I.base.free b o q n (nex b)) (frs_sub hb) (by simp)
   exact⟨sl',e2⟩
  ·obtain⟨o',e1⟩:=I.base.there b o q (nex b)
   exact un1.free b o' e1 (I.base.free b o q n (nex b)) (by simp)
  ·obtain⟨o',e1⟩:=I.base.there b o q (nex b)
   exact un1.there b o' e1 (by simp)
  ·obtain⟨m1,e1⟩:=I.base.tbls b ps q
   obtain⟨m2,e2⟩:=un1.tbls b _ e1
   exact⟨m1++m2,by rw[e2,Array.append_assoc]⟩
 refine⟨a,C,t,H₂,B,rfl,⟨F.os.trans I.os,F.bare,un,hok,?_,F.nt,x1,fun b o u q r=>?_,fun b o q n hb=>?_,fun b o q hb=>?_⟩,hE⟩
 ·cases q:X.s₀.heap.get? a with
  | none=>rfl
  | some o=>
   obtain⟨o',e1⟩:=I.base.there a o q (nex a)
   rw[F.new] at e1
   cases e1
 ·obtain⟨u',hu⟩:=F.hok.there q
  have r':h''.get? b=some u:=r
  have z:=F.trk b o u' q hu
  rw[x1.1 b u' z] at r'
  cases r'
  exact z
 ·exact F.old b o (I.base.keep b o q n hb (nex b)) (I.base.free b o q n (nex b)) (nfr b (neL b o q) hb)
 ·obtain⟨o',e1⟩:=I.base.there b o q (nex b)
  exact F.thr b o' e1 (nfr b (neL b o q) hb)
end
def Raises (X:Cx) (E:XK):Prop:=∀ (pins:List (Addr×Obj)) (σ:St) (H:Hp) (s:Shared) (h':Heap) (e C:Addr) (args:List Value),Inv X pins σ H s->Heap.MadeExcOf s.heap h' e (.ref C) args->E (.ref C) none H->X.xe (.ref e) { s with heap:=h' }
section
variable {P:Program}{w:World}{K:PySem.W.Frag}{mg:Str->Option Value}{base:Heap}{N:List Str}{qual:Str}{scope:Scope}{f:Addr}{cd:Value}{A:Around}{outer:List Env}{s:Shared}{H:Hp}{E:XK}
theorem raises_cx:Raises (cxOf (CX1 P w) P w K mg base N qual scope f cd A outer s H E) E:=fun pins σ H₁ s₁ h' e C args I hx hE=>raise_leaves rfl rfl rfl I hx hE
theorem Zb2:Passes (CX1 P w) (cxOf (CX1 P w) P w K mg base N qual scope f cd A outer s H E) E:=fun pins σ H₁ s₁ x s₂ I h=>pass_leaves rfl rfl rfl I h
end
end L2
set_option maxHeartbeats 1000000
namespace L2
open PySem PySem.Spec PyProof.Rows
def bmVE:List Value:=[.type "ValueError",.type "Exception",.type "BaseException",.type "object"]
structure ExcCls (K:PySem.W.Frag) (C:Addr):Prop where
 cls:(PySem.W.clsIn K C).isSome=true
 ty:PySem.W.typeIn K (.ref C)=some (.type "type")
 base:PySem.W.subIn K (.ref C) (.type "BaseException")=some true
 ga:PySem.W.findIn K (.ref C) "__getattribute__" = some (some (.builtin "BaseException.__getattribute__"))
 noga:PySem.W.findIn K (.ref C) "__getattr__" = some none
 cl:PySem.W.findIn K (.ref C) "__class__" = some (some (.builtin "object.__class__"))
 obj:PySem.W.subIn K (.ref C) (.type "object")=some true
 made:PySem.W.excIn K C bmVE "ValueError.__new__" = true
section
variable {prog:Program}{w:World}{A:Around}{E:Value->Shared->Prop}{h:Heap}{g:Array GenState}{d:Drawn}{t:Nat}{os:OsState}{a C:Addr}{o:Obj}{K:PySem.W.Frag}
theorem exc_class_get {R:Result->Shared->Prop}(X:K.In h) (c:ExcCls K C) (hx:h.get? a=some o) (hc:o.cls = .ref C) (hq:R (.ok (.ret (.ref C))) ⟨h,g,d,t,os⟩) :
  codeAny (model prog w) A (.call (.builtin "getset_descriptor.__get__") ⟨[.builtin "object.__class__",.ref a,.ref C],[]⟩) R ⟨h,g,d,t,os⟩:=by
 have hT5:(⟨h,g,d,t,os⟩:Shared).TypeIs (.builtin "object.__class__") "getset_descriptor":=F.typeOf_object_class
 have L:PySem.W.Looks (model prog w) h (isSubtype (.ref C) (.type (".".intercalate ("object.__class__".cutAt '.').dropLast))) true:=by
  rw[F.owner_object_class]
  exact PySem.W.looks_subIn X c.obj
 refine codeAny_call_builtin F.slot_gs_get.plain F.entry_gs_get (F.slot_gs_get.check _ _ _ _ _ _ _ _ hT5 (F.args_gs_get _ _ _) ?_)
 repeat (any_goals (first | assumption | (with_reducible refine wpAny_loadPart_at hx ?_;rw[hc]) | with_reducible refine L.at ?_ | wp_step))
 refine⟨Code.quiet_builtin _ (by ac_nf),codeAny_builtin F.entry_object_class ?_⟩
 repeat (any_goals (first | assumption | (with_reducible refine wpAny_loadPart_at hx ?_;rw[hc]) | wp_step))
theorem exc_class_entry {tk:Tok}{Q:Fin->Shared->Prop}(X:K.In h) (c:ExcCls K C) (hx:h.get? a=some o) (hc:o.cls = .ref C) (hq:Q (.done (.ret (.ref C))) ⟨h,g,d,t,os⟩) :
  wpAny (model prog w) A (Builtin.«object.__getattribute__» ⟨[.ref a,.str "__class__" tk],[]⟩) Q E ⟨h,g,d,t,os⟩:=by
 have hT5:(⟨h,g,d,t,os⟩:Shared).TypeIs (.builtin "object.__class__") "getset_descriptor":=F.typeOf_object_class
 have f5:=F.typeOf_object_class
 have f6:=F.slot_gs_get.lookup
 have f7:=F.slot_gs_set.lookup
 have L:=PySem.W.looks_findIn (M:=model prog w) X c.cl
 repeat (any_goals (first | assumption | (with_reducible refine wpAny_loadPart_at hx ?_;rw[hc]) | with_reducible refine L.at ?_ | wp_step))
 refine exc_class_get X c hx hc ?_
 repeat (any_goals (first | assumption | wp_step))
theorem exc_check_ga {M:Model}{nameV:Value}{Q:Unit->Shared->Prop}(X:K.In h) (c:ExcCls K C) (hx:h.get? a=some o) (hc:o.cls = .ref C) (hq:Q () ⟨h,g,d,t,os⟩) :
  wpAny M A (checkBuiltinCall "BaseException.__getattribute__" ⟨[.ref a,nameV],[]⟩) Q E ⟨h,g,d,t,os⟩:=by
 have hk:builtinKind "BaseException.__getattribute__" = some .slot:=by ac_nf
 have hsplit:splitId "BaseException.__getattribute__" = some ("BaseException","__getattribute__"):=by ac_nf
 have ha:=F.args_bexc_ga (.ref a) nameV
 have L:=PySem.W.looks_subIn (M:=M) X c.base
 simp only[checkBuiltinCall,hk,hsplit]
 refine wpAny_bind ?_
 ·unfold isInstance
  repeat (first | (with_reducible refine wpAny_loadPart_at hx ?_;rw[hc]) | with_reducible refine L.at ?_ | wp_step)
  exact hq
theorem exc_class_by {tk:Tok}{fill:Bool}{Q:Value->Shared->Prop}(X:K.In h) (c:ExcCls K C) (hx:h.get? a=some o) (hc:o.cls = .ref C) (hq:Q (.ref C) ⟨h,g,d,t,os⟩) :
  wpAny (model prog w) A (getAttrBy (.ref a) (.str "__class__" tk) fill) Q E ⟨h,g,d,t,os⟩:=by
 have FB:=F.excAttr_ValueError
 have f3:=FB.ga.bind (.ref a)
 have hx2:(Value.builtin "BaseException.__getattribute__" == Value.builtin "object.__getattribute__")=false:=by ac_nf
 have hx1:(onTheHeap (Value.ref C)&&Value.builtin "BaseException.__getattribute__" == Value.builtin "object.__getattribute__")=false:=by rw[hx2];rfl
 have L1:=PySem.W.looks_findIn (M:=model prog w) X c.ga
 have L2:=PySem.W.looks_findIn (M:=model prog w) X c.noga
 repeat (any_goals (first | assumption | (with_reducible refine wpAny_loadPart_at hx ?_;rw[hc]) | with_reducible refine L1.at ?_ | with_reducible refine L2.at ?_ | wp_step))
 refine codeAny_call_builtin FB.ga.plain F.entry_bexc_ga (exc_check_ga X c hx hc (exc_class_entry X c hx hc ?_))
 repeat (any_goals (first | assumption | wp_step))
theorem exc_class_attr {Q:Option Value->Shared->Prop}(X:K.In h) (c:ExcCls K C) (hx:h.get? a=some o) (hc:o.cls = .ref C) (hq:Q (some (.ref C)) ⟨h,g,d,t+1,os⟩) :
  wpAny (model prog w) A (getAttr? (.ref a) "__class__") Q E ⟨h,g,d,t,os⟩:=by
 unfold getAttr? getAttrBy?
 repeat (any_goals (first | assumption | with_reducible apply exc_class_by X c hx hc | wp_step))
end
def ExcAt (e C:Addr) (h:Heap):Prop:=∃ o vs,h.get? e=some o/\o.cls = .ref C/\o.data = .fields vs
def ExcO (e C:Addr):HO:=.ext (ExcAt e C)
theorem cls_isType {K:PySem.W.Frag}{M:Model}{h:Heap}{C:Addr}(X:K.In h) (z:(PySem.W.clsIn K C).isSome=true):PySem.W.Looks M h (isType (.ref C)) true:=by
 unfold PySem.W.clsIn at z
 split at z
 ·rename_i c' d' cd' sl' ho
  intro A' Q' E' s' k q
  unfold isType loadHead
  exact wpAny_bind (wpAny_loadPart (k _ _ (X _ _ ho)) (wpAny_pure q))
 ·cases z
theorem kitx_exc {K:PySem.W.Frag}{e C:Addr}(c:ExcCls K C):PySem.W.KitX K (.ref e) (.ref C) (ExcAt e C) where
 ty:=fun M h X ⟨o,vs,h1,h2,_⟩=>h2▸(PySem.W.Looks.ld h1).andThen .now
 it:=fun M h X _=>cls_isType X c.cls
 ne:=fun h tp dd its n sl X htp=>by
  refine Bool.eq_false_iff.mpr fun q=>?_
  have e:C=tp:=Value.ref.inj (beq_iff_eq.mp q)
  subst e
  have z:=c.cls
  unfold PySem.W.clsIn at z
  split at z
  ·rename_i c' d' cd' sl' ho
   have z:=(X _ _ ho).symm.trans htp
   cases z
  ·cases z
 ca:=fun {prog w A E Q s} X ⟨o,vs,h1,h2,_⟩ k=>by
  obtain⟨h,g,d,t,os⟩:=s
  exact exc_class_attr X c h1 h2 k
end L2
set_option maxHeartbeats 1000000
namespace L2
open PySem PySem.Spec PyProof.Rows
theorem exc_obj {K:PySem.W.Frag}{h:Heap}{C:Addr}{bmB:List Value}{newId:String}(X:K.In h) (q:PySem.W.excIn K C bmB newId=true) :
  ∃ bm N nm q bs hdct sn sub ab col dd k0 k1 k2 k3 k5 mN,h.get? C=some (excClassObj nm q C N bs bm hdct sn sub ab col dd k0 k1 k2 k3 k5 newId)/\h.Ns N mN/\mN "__init__" = none/\OwnTail h bmB bm:=by
 unfold PySem.W.excIn at q
 split at q
 ·rename_i dd cd sl ho
  split at q
  ·rename_i C' bm k0 k1 k2 k3 n k5 hm hs
   simp only[Bool.and_eq_true,beq_iff_eq,Bool.not_eq_true'] at q
   obtain⟨⟨⟨⟨⟨rfl,rfl⟩,hdel⟩,ht⟩,hok⟩,hni⟩:=q
   obtain⟨nm,bs,mro,ns,qn,hd,sn,sub,ab,col,del⟩:=cd
   dsimp only at hm hdel hok hni
   subst hm hdel
   have hsl:sl = #[k0,k1,k2,k3,some (.builtin n),k5]:=by
    obtain⟨l⟩:=sl
    simp only at hs
    rw[hs]
   subst hsl
   exact⟨bm,ns,nm,qn,bs,hd,sn,sub,ab,col,dd,k0,k1,k2,k3,k5,_,X _ _ ho,.of_isNs (PySem.W.isNs_of_in X hok),PySem.W.nsMap_none_of_in X hok hni,PySem.W.tail_of_in X ht⟩
  ·cases q
 ·cases q
def tRaise (E:XK) (C:Addr) (te:TE):TS:=fun _ σ H=>te σ H fun _ H1=>E (.ref C) none H1
theorem ps_raise {X:Cx}{E:XK}{x:Str}{C:Addr}{ex:Expr}{te:TE}{np cpos pos:Pos}(hr:Raises X E) (hh:X.A.handled=none) (c:ExcCls X.K C) (hg:Gl X x) (hm:X.mg x=some (.ref C)) (ha:PE X ex te)
  (hd:(x==("__debug__" : Str))=false:=by decide) (he:starEach [ex] X.env=[(false,eval ex X.env)]:=by rfl) :
  PS X (.Raise (some (.Call (.Name x np) [ex] [] cpos)) none pos) (tRaise E C te):=by
 intro pins s σ H D I h
 obtain⟨tl,N,nm,q,bs,hdct,sn,sub,ab,col,dd,k0,k1,k2,k3,k5,mN,hC,hN,hni,T⟩:=exc_obj I.mod.kin c.made
 have FB:=F.excBase_ValueError
 refine wpAny_Raise_call_subT (C:=C) (nm:=nm) (q:=q) (N:=N) (bs:=bs) (bm:=tl) (hdct:=hdct) (sn:=sn) (sub:=sub) (ab:=ab) (col:=col) (dd:=dd) (k0:=k0) (k1:=k1) (k2:=k2) (k3:=k3) (k5:=k5)
  FB (mN:=mN) (T.hasType FB.hasBase) hh (by rw[he];rfl) hni (ld_glob I hg hm ⟨rfl,?_⟩ hd)
 have e2:backTo cpos (starEach [ex] X.env)=[(false,eval ex X.env)]:=by rw[he];rfl
 rw[e2]
 refine Calls.evalArgs_plain (Calls.spliced_cons (thn (ha pins s σ H _ I h) fun u s1 ⟨y,H1,I1,r1,q1⟩=>Calls.spliced_nil ⟨rfl,?_,I1.bk _ _ hC,hN.keeps I1.bk,T.keeps I1.bk,fun h' e hm=>hr pins σ H1 s1 h' e C _ I1 hm q1⟩))
 show (1:Nat)<=sizeLine
 decide
def XP (X:Cx) (pins:List (Addr×Obj)) (σ:St) (E:XK) (x:Value) (s':Shared):Prop:=∃ s₁ H₁,Inv X pins σ H₁ s₁/\CX1 X.prog X.w X.stack H₁ s₁ E x s'
abbrev TEx:=St->Hp->VK->XK->Prop
def PEx (X:Cx) (e:Expr) (t:TEx):Prop:=
 ∀ (pins:List (Addr×Obj)) (s:Shared) (σ:St) (H:Hp) (Q:VK) (E:XK),Inv X pins σ H s->t σ H Q E->wpAny (model X.prog X.w) X.A (eval e X.env) (EP X pins σ Q) (XP X pins σ E) s
section
variable {X:Cx}{k:Nat}{f C:Addr}{fd:FuncData}{ps:List Str}{sp:Sp}{dvs:List V}{ds:List Value}{x m:Str}{p pos apos:Pos}{e o:Expr}{es:List Expr}{ta:TE}{t:TA}
theorem pa_quiet {pins:List (Addr×Obj)}{σ:St}{H:Hp}{s:Shared}{Q:List V->Hp->Prop}{F:Value->Shared->Prop}(ha:PA X.nox es t) (I:Inv X pins σ H s) (h:t σ H Q):wpAny (model X.prog X.w) X.A (spliced (backTo pos (starEach es X.env))) (AP X pins σ Q) F s:=
 wpAny_mono (ha pos pins s σ H Q (I.wish _) h) (fun _ _ ⟨vs,H',I',r,q⟩=>⟨vs,H',I'.unwish,r,q⟩) fun _ _ z=>False.elim z
theorem run_makex {pins:List (Addr×Obj)}{σ:St}{H:Hp}{s:Shared}{Q:VK}{E:XK}{us:List Value}{vs:List V}(M:Mk X.K C f) (F:FnOk X.prog X.w X.K X.mg X.base (CX1 X.prog X.w) k f fd ps sp) (hr:Room (k+1) X.A) (hb:Binds X.K fd ps ds) (hd:Vals dvs ds)
  (I:Inv X pins σ H s) (r:Vals vs us)
  (h:∀ x dx,H x=none->H dx=none->dx≠x->sp (.ref x::(vs++dvs)) (upd (upd H dx (.own x)) x (.ins C dx [])) (fun v H2=>v = .non/\Q (.ref x) H2) E) :
  wpAny (model X.prog X.w) X.A (call (.ref C) us) (EP X pins σ Q) (XP X pins σ E) s:=by
 have hq:=h (s.heap.objs.size+1) s.heap.objs.size (I.hok.fresh (Nat.le_succ _)) (I.hok.fresh (Nat.le_refl _)) (Nat.ne_of_lt (Nat.lt_succ_self _))
 have I2:=Inv.made (C:=C) I
 have r2:Vals (V.ref (s.heap.objs.size+1)::(vs++dvs)) (Value.ref (s.heap.objs.size+1)::(us++ds)):=.cons rfl (r.append hd)
 have hl:(Value.ref (s.heap.objs.size+1)::us++ds).length=ps.length:=by
  have e:=r2.length
  rw[F.len _ _ _ _ hq] at e
  exact e.symm
 refine wpAny_call (make_map (f:=f) I.kIn M.makes M.init (beq_iff_eq.mp M.fn) (codeAny_mono (F.run _ X.stack _ _ ⟨Value.ref (s.heap.objs.size+1)::us,[]⟩ (Value.ref (s.heap.objs.size+1)::(us++ds)) _ _ E (hr.make C us [])
  (I2.env0.make C us []) (hb _ (Value.ref (s.heap.objs.size+1)::us) I2.kIn hl) r2 hq) fun r s' hq'=>?_))
 cases r with
 | error e=>exact⟨_,_,I2,hq'⟩
 | ok fl=>
  cases fl with
  | ret u=>
   obtain⟨v,H',I3,rv,ev,q3⟩:=I2.after hq'
   subst ev
   exact⟨rv,⟨V.ref (s.heap.objs.size+1),H',I3,rfl,q3⟩⟩
  | next=>exact False.elim hq'
  | brk=>exact False.elim hq'
  | cont=>exact False.elim hq'
theorem px_make (M:Mk X.K C f) (F:FnOk X.prog X.w X.K X.mg X.base (CX1 X.prog X.w) k f fd ps sp) (hr:Room (k+1) X.A) (hg:Gl X x) (hm:X.mg x=some (.ref C)) (hb:Binds X.K fd ps ds) (hd:Vals dvs ds)
  (ha:PA X.nox (e::es) t) (hdb:(x==("__debug__" : Str))=false:=by decide) (he:starEach (e::es) X.env=(false,eval e X.env)::starEach es X.env:=by rfl) (hpl:(backTo pos (starEach es X.env)).any (·.1)=false:=by rfl) :
  PEx X (.Call (.Name x p) (e::es) [] pos) (fun σ H Q E=>t σ H fun vs H1=>∀ x dx,H1 x=none->H1 dx=none->dx≠x ->
   sp (.ref x::(vs++dvs)) (upd (upd H1 dx (.own x)) x (.ins C dx [])) (fun v H2=>v = .non/\Q (.ref x) H2) E):=by
 intro pins s σ H Q E I h
 refine wpAny_Call_Name_kw (ld_glob I hg hm ?_ hdb)
 refine PySem.W.callWith_K (h₀:=X.base) I.ok.mod.kin M.kp (thn (pa_quiet ha I h) fun us s1 ⟨vs,H1,I1,r,q⟩=>⟨I1.kIn,?_⟩) he hpl
 exact run_makex M F hr hb hd I1 r q
end
abbrev TSx:=Ends->(St->XK)->St->Hp->Prop
section
variable {X:Cx}{e:Expr}{te:TEx}{pos pos':Pos}
end
end L2
set_option maxHeartbeats 1000000
namespace L2
open PySem PySem.Spec PyProof.Rows
section
variable {X:Cx}{pins:List (Addr×Obj)}{σ:St}{H:Hp}{s:Shared}{a e:Addr}{o:HO}
theorem Inv.track (I:Inv X pins σ H s) (hn:X.s₀.heap.get? a=none) (hH:H a=none) (hL:a≠X.env.locals) (hc:∀ x c,X.env.cells.lookup x=some c->c≠a) (hp:∀ p∈X.pn++pins,p.1≠a)
  (new:ObjOk X.prog X.w (upd H a o) s.heap a o):Inv X pins σ (upd H a o) s:=by
 have na:∀ b u,H b=some u->b≠a:=fun b u q=>Za8 q hH
 refine⟨I.ok,I.os,I.bare,⟨I.base.keep,I.base.slot,fun b u q n hx=>?_,I.base.there,fun b xs q=>?_,fun b u v q=>?_,fun b ps q=>?_⟩,I.loc,I.cell,?_,fun x c q=>?_,fun p q=>?_,fun b u q=>?_,I.len⟩
 ·have nb:b≠a:=fun z=>by rw[z,hn] at q;cases q
  rw[Zb8 nb]
  exact I.base.free b u q n hx
 ·have z:=I.base.tups b xs q
  rw[Zb8 (na b _ z)]
  exact z
 ·have z:=I.base.frzs b u v q
  rw[Zb8 (na b _ z)]
  exact z
 ·obtain⟨more,z⟩:=I.base.tbls b ps q
  exact⟨more,by rw[Zb8 (na b _ z)];exact z⟩
 ·rw[Zb8 (Ne.symm hL)]
  exact I.free
 ·rw[Zb8 (hc x c q)]
  exact I.freeC x c q
 ·obtain⟨e1,e2,e3⟩:=I.pin p q
  exact⟨e1,by rw[Zb8 (hp p q)];exact e2,e3⟩
 ·by_cases hb:b=a
  ·subst hb
   rw[Za4] at q
   cases q
   exact new
  ·rw[Zb8 hb] at q
   exact (I.hok b u q).stay (fun _ _ _ r=>r) (fun c r=>by rw[Zb8 (na c _ r)];exact r) fun c xs r=>by rw[Zb8 (na c _ r)];exact r
end
def tTry (K:PySem.W.Frag) (D:Addr) (i:Nat) (tb:TSx) (th:TS):TS:=fun Ds σ H=>tb Ds (fun σ' cls _ H'=>∃ C,cls = .ref C/\PySem.W.subIn K (.ref C) (.ref D)=some true/\∀ e,H' e=none ->
  th { nx:=fun σ'' H''=>Ds.nx (σ''.set i none) H'',rt:=Ds.rt,bk:=fun σ'' H''=>Ds.bk (σ''.set i none) H'',ct:=fun σ'' H''=>Ds.ct (σ''.set i none) H'' } (σ'.set i (some (.ref e))) (upd H' e (ExcO e C))) σ H
end L2
set_option maxHeartbeats 1000000
namespace L2
open PySem PySem.Spec PyProof.Rows PySem.Builtin.Int
theorem Zc2 {X:Cx}{P:Program}{w:World}:Passes (CX1 P w) X E0:=fun _ _ _ _ _ _ _ ⟨_,_,_,_,_,_,_,z⟩=>False.elim z
section
variable {P:Program}{w:World}{K:PySem.W.Frag}{mg:Str->Option Value}{base:Heap}
theorem Fun.okE {x qual:Str}{st:Stmt}{f:Addr}{fd:FuncData}{N ps:List Str}{k:Nat}{sp:Sp}(F:Fun K x qual st f fd) (S:Zb0 N ps (Za6 st)) (len:∀ vs H Q E,sp vs H Q E->vs.length=ps.length)
  (hbody:∀ (cdv:Value) (A:Around) (outer:List Env) (s:Shared) (H:Hp) (vs:List V) (Q:VK) (E:XK),Room k (A.deeper (envOfC qual (Za6 st) s.heap.objs.size f cdv))->sp vs H Q E ->
   ∃ t,PSs (cxOf (CX1 P w) P w K mg base N qual (Za6 st) f cdv A outer s H E) (defBody st) t/\t { nx:=fun _ H'=>Q .non H',rt:=Q } (start N vs) H):FnOk P w K mg base (CX1 P w) (k+1) f fd ps sp:=by
 obtain⟨oc,od,kV,doc,pm,an,cdv,ct,osl,rfl,lk,hcd⟩:=F.ex
 exact fn_of lk hcd S len fun A outer s H vs Q E hr hsp=>hbody cdv A outer s H vs Q E hr hsp
theorem Fun.okN {x qual:Str}{st:Stmt}{f:Addr}{fd:FuncData}{N ps:List Str}{k:Nat}{sp:Sp}(F:Fun K x qual st f fd) (S:Zb0 N ps (Za6 st)) (len:∀ vs H Q E,sp vs H Q E->vs.length=ps.length)
  (hbody:∀ (cdv:Value) (A:Around) (outer:List Env) (s:Shared) (H:Hp) (vs:List V) (Q:VK) (E:XK),Room k (A.deeper (envOfC qual (Za6 st) s.heap.objs.size f cdv))->sp vs H Q E ->
   ∃ t,PSs (cxOf (CX1 P w) P w K mg base N qual (Za6 st) f cdv A outer s H E).nox (defBody st) t/\t { nx:=fun _ H'=>Q .non H',rt:=Q } (start N vs) H):FnOk P w K mg base (CX1 P w) (k+1) f fd ps sp:=
 F.okE S len fun cdv A outer s H vs Q E hr hsp=>by
  obtain⟨t,h,q⟩:=hbody cdv A outer s H vs Q E hr hsp
  exact⟨t,h.nox,q⟩
end
structure Fnc (P:Program) (w:World) (K:PySem.W.Frag) (mg:Str->Option Value) (base:Heap) (x:Str) (k:Nat) (ps:List Str) (dvs:List V) (sp:Sp):Prop where
 ex:∃ (f:Addr) (fd:FuncData) (ds:List Value),FnOk P w K mg base (CX1 P w) k f fd ps sp/\mg x=some (.ref f)/\PySem.W.keepIn K (.ref f)=true/\Binds K fd ps ds/\Vals dvs ds
section
variable {X:Cx}{k:Nat}{ps:List Str}{sp:Sp}{dvs:List V}{E:XK}{x:Str}{p pos:Pos}{e:Expr}{es:List Expr}{t:TA}
theorem Zc1 (F:Fnc X.prog X.w X.K X.mg X.base x k ps dvs sp) (hr:Room k X.A) (hx:Passes (CX1 X.prog X.w) X E) (ha:PA X (e::es) t) (hg:Gl X x:=by rfl)
  (hdb:(x==("__debug__" : Str))=false:=by decide) (he:starEach (e::es) X.env=(false,eval e X.env)::starEach es X.env:=by rfl) (hpl:(backTo pos (starEach es X.env)).any (·.1)=false:=by rfl) :
  PE X (.Call (.Name x p) (e::es) [] pos) (tCall sp dvs E t):=by
 obtain⟨f,fd,ds,h1,h2,h3,h4,h5⟩:=F.ex
 exact pe_call h1 hr hg h2 h3 h4 h5 hx ha hdb he hpl
end
section
variable {X:Cx}
theorem op_mulB:OpR X (binaryOp .Mult) (rI (fun i j=>IntMulOk i j) fun i j=>.int (i*j)):=opI fun _ _ _ _ _ _ _ hc q=>mul_int q hc
def CFd (_ j:Int):Prop:=0<j/\j.natAbs.log2<9000
def CFdN (_ j:Int):Prop:=j≠0/\j.natAbs.log2<9000
theorem op_fdivP:OpR X (binaryOp .FloorDiv) (rI CFd fun i j=>.int (i / j)):=opI fun i j _ _ _ _ _ hc q=>by
 obtain⟨h1,h2⟩:=hc
 refine floordiv_int ∅ ?_ (.inl (PyProof.noPylong_of_log2 h2))
 rw[Int.fdiv_eq_ediv_of_nonneg i ∅]
 exact q
theorem op_fdivG:OpR X (binaryOp .FloorDiv) (rI CFdN fun i j=>.int (i.fdiv j)):=opI fun _ _ _ _ _ _ _ hc q=>floordiv_int hc.1 q (.inl (PyProof.noPylong_of_log2 hc.2))
end
theorem mulOk_of {a b:Int}{m n:Nat}(ha:a.natAbs<2 ^ m) (hb:b.natAbs<2 ^ n) (h:m+n<=134217728):IntMulOk a b:=PySem.IntMulOk.of_le (intBits_le_iff.mpr ha) (intBits_le_iff.mpr hb) h
def clsV:V->Option Value
 | .ref C=>some (.ref C)
 | .ty n=>some (.type n)
 | _=>none
theorem clsV_rel {c:V}{u cv:Value}(r:RelV c u) (h:clsV c=some cv):u=cv:=by
 cases c with
 | ref C=>cases h;exact r
 | ty n=>cases h;exact r
 | _=>cases h
inductive TyX (K:PySem.W.Frag) (H:Hp) (x:V) (t:Value):Prop where
 | of (h:TyOf K H x t)
 | exc {a C:Addr} (hx:x = .ref a) (ht:t = .ref C) (e:H a=some (ExcO a C)) (c:ExcCls K C)
section
variable {X:Cx}{pins:List (Addr×Obj)}{σ:St}{H:Hp}{s:Shared}{A:Around}{E:Value->Shared->Prop}{Q:Value->Shared->Prop}{c:Value}{b:Bool}
theorem isinstX {x:V}{u t:Value}(I:Inv X pins σ H s) (rx:RelV x u) (ty:TyX X.K H x t) (e:PySem.W.kitOne X.K t c=some b) (h:∀ tk,Q (.bool b) { s with toks:=tk }) :
  wpAny (model X.prog X.w) A (call (.builtin "isinstance") [u,c]) Q E s:=by
 cases ty with
 | of ty=>exact isinst_ok I rx ty e h
 | @exc a C hx ht ea c=>
  subst hx ht
  cases (show u=Value.ref a from rx)
  obtain⟨p,_⟩:=(show ObjOk X.prog X.w H s.heap a (ExcO a C) from I.hok a _ ea)
  exact PySem.W.kia_one (kitx_exc c) I.kIn p e (fun z=>nomatch z) h
end
section
variable {X:Cx}
def rIsi (K:PySem.W.Frag):List V->Hp->VK->Prop:=fun vs H Q=>∃ x c t cv b,vs=[x,c]/\TyX K H x t/\clsV c=some cv/\PySem.W.kitOne K t cv=some b/\Q (.bl b) H
theorem isi_ok {K:PySem.W.Frag}{H:Hp}{x c:V}{t cv:Value}{b:Bool}{Q:VK}(h1:TyX K H x t) (h2:clsV c=some cv) (h3:PySem.W.kitOne K t cv=some b) (q:Q (.bl b) H):rIsi K [x,c] H Q:=⟨x,c,t,cv,b,rfl,h1,h2,h3,q⟩
theorem call_isi:CallR X (.builtin "isinstance") (rIsi X.K):=by
 intro pins s σ H xs us Q I r h
 obtain⟨x,c,t,cv,b,rfl,ty,hc,e,q⟩:=h
 obtain⟨u,u',rfl,r1,r2⟩:=vals2 r
 cases clsV_rel r2 hc
 exact isinstX I r1 ty e fun tk=>⟨.bl b,H,I.tok tk,rfl,q⟩
end
theorem Za7 {H:Hp}{p:Addr}{o:HO}(h:H p=none):Same H (upd H p o):=fun b u e=>by rw[Zb8 (Za8 e h)];exact e
end L2
set_option maxHeartbeats 1000000
namespace L2
open PySem PySem.Spec PyProof.Rows
theorem compLoop_any {prog:Program}{w:World}{A:Around}{R:Result->Shared->Prop}{s:Shared}{elt target iter:Expr}{ifs:List Expr}{scope:Scope}{pos:Pos}{it acc:Value}{env:Env}(I:Nat->Shared->Prop)
  (turn:∀ n s,I n s->wpAny (model prog w) A (pyNext it) (fun r s₁=>match r with
   | none=>R (.ok .next) s₁
   | some v=>wpAny (model prog w) A (letOwnedTupleGo target it v) (fun _ s₁=>wpAny (model prog w) A (assign target env v) (fun _ s₂=>
     wpAny (model prog w) A (forIn ifs true fun c r=>if r=true then do let ok←isTrue c env (eval c env);pure (ForInStep.yield ok) else pure (ForInStep.yield r)) (fun ok s₃=>
      if ok=true then wpAny (model prog w) A (eval elt env) (fun x s₄=>
       wpAny (model prog w) A (call (.builtin "list.append") [acc,x]) (fun _ s₅=>∃ m,m<n/\I m s₅) (fun _ _=>False) s₄) (fun _ _=>False) s₃
      else ∃ m,m<n/\I m s₃) (fun _ _=>False) s₂) (fun _ _=>False) s₁) (fun _ _=>False) s₁) (fun _ _=>False) s)
  (n:Nat) (h:I n s) :
  codeAny (model prog w) A (.compLoop (.ListComp elt [⟨target,iter,ifs,0⟩] scope pos) 0 it acc env) R s:=by
 refine codeAny_loop rfl I (fun n s hI=>?_) n h
 show wpAny _ A ((compTurn (.ListComp elt [⟨target,iter,ifs,0⟩] scope pos) 0 it acc env).onRaise (fun x=>do noteFrame x env;theTreesLotGoes x)) _ _ s
 refine wpAny_noted ?_
 rw[compTurn_list]
 refine wpAny_bind (wpAny_standAt (wpAny_bind (wpAny_mono (turn n s hI) (fun r s₁ h₁=>?_) fun _ _ h'=>False.elim h')))
 cases r with
 | none=>exact wpAny_pure h₁
 | some v=>
  refine wpAny_bind (wpAny_mono h₁ (fun _ s₁ h₁=>?_) fun _ _ h'=>False.elim h')
  refine wpAny_bind (wpAny_mono h₁ (fun _ s₂ h₂=>wpAny_bind (wpAny_mono h₂ (fun ok s₃ h₃=>?_) fun _ _ h'=>False.elim h')) fun _ _ h'=>False.elim h')
  cases ok with
  | false=>exact wpAny_pure ⟨rfl,h₃⟩
  | true=>
   exact wpAny_bind (wpAny_bind (wpAny_mono h₃ (fun x s₄ h₄=>wpAny_bind (wpAny_mono h₄ (fun _ s₅ h₅=>wpAny_pure (wpAny_pure ⟨rfl,h₅⟩)) fun _ _ h'=>False.elim h')) fun _ _ h'=>False.elim h'))
def clOf (scope:Scope) (env:Env):List (Str×Addr):=((scope.names.filter fun y=>y.2 == .free).filterMap fun y=>(env.cells.lookup y.1).map fun c=>(y.1,c)).reverse
theorem lookup_some_mem {α:Type}{l:List (Str×α)}{x:Str}{c:α}(h:l.lookup x=some c):(x,c)∈l:=PySem.mem_of_lookup h
theorem clOf_get {scope:Scope}{env:Env}{x:Str}{c:Addr}(h:(clOf scope env).lookup x=some c):env.cells.lookup x=some c:=by
 have m:=lookup_some_mem h
 unfold clOf at m
 rw[List.mem_reverse] at m
 obtain⟨y,_,e⟩:=List.mem_filterMap.mp m
 obtain⟨c',e1,e2⟩:=Option.map_eq_some_iff.mp e
 cases e2
 exact e1
theorem lookup_of_mem {α:Type}:∀ {l:List (Str×α)}{x:Str}{c:α},(x,c)∈l->∃ c',l.lookup x=some c'
 | [],_,_,h=>nomatch h
 | (y,d)::r,x,c,h=>by
  by_cases e:x=y
  ·subst e
   exact⟨d,by simp[List.lookup]⟩
  ·have hb:(x==y)=false:=beq_eq_false_iff_ne.mpr e
   rcases List.mem_cons.mp h with q | q
   ·cases q
    exact absurd rfl e
   ·obtain⟨c',hc⟩:=lookup_of_mem q
    exact⟨c',by simp only[List.lookup,hb];exact hc⟩
theorem clOf_has {scope:Scope}{env:Env}{x:Str}{c:Addr}(hm:(x,NameKind.free)∈scope.names) (hc:env.cells.lookup x=some c):(clOf scope env).lookup x=some c:=by
 have m:(x,c)∈clOf scope env:=by
  unfold clOf
  rw[List.mem_reverse]
  exact List.mem_filterMap.mpr ⟨(x,.free),List.mem_filter.mpr ⟨hm,rfl⟩,by rw[hc];rfl⟩
 obtain⟨c',h⟩:=lookup_of_mem m
 have z:=clOf_get h
 rw[hc] at z
 cases z
 exact h
theorem relabel_free {env:Env}:∀ {names:List (Str×NameKind)}{x:Str},((names.map fun (n,k)=>if (k==NameKind.free&&env.scope.kind == .function&&env.kindOf n==some .cell) then (n,NameKind.cell) else (n,k)).lookup x=some .cell \/
  (names.map fun (n,k)=>if (k==NameKind.free&&env.scope.kind == .function&&env.kindOf n==some .cell) then (n,NameKind.cell) else (n,k)).lookup x=some .free)->(∀ y∈names,y.2 ≠ .cell)->(x,NameKind.free)∈names
 | [],_,h,_=>by simp at h
 | (n,k)::r,x,h,hc=>by
  have ih:=@relabel_free env r x
  by_cases hx:x=n
  ·subst hx
   by_cases q:(k==NameKind.free&&env.scope.kind == .function&&env.kindOf x==some .cell)=true
   ·have hk:k = .free:=by
     simp only[Bool.and_eq_true,beq_iff_eq] at q
     exact q.1.1
    subst hk
    exact .head _
   ·rw[List.map_cons] at h
    simp only[q,if_false,List.lookup,beq_self_eq_true,Bool.false_eq_true] at h
    rcases h with h | h
    ·cases h
     exact absurd rfl (hc (x,.cell) (.head _))
    ·cases h
     exact .head _
  ·have hb:(x==n)=false:=beq_eq_false_iff_ne.mpr hx
   have e:∀ kk,(List.map (fun (n,k)=>if (k==NameKind.free&&env.scope.kind == .function&&env.kindOf n==some .cell) then (n,NameKind.cell) else (n,k)) ((n,k)::r)).lookup x=some kk ->
     (List.map (fun (n,k)=>if (k==NameKind.free&&env.scope.kind == .function&&env.kindOf n==some .cell) then (n,NameKind.cell) else (n,k)) r).lookup x=some kk:=fun kk z=>by
    rw[List.map_cons] at z
    by_cases q:(k==NameKind.free&&env.scope.kind == .function&&env.kindOf n==some .cell)=true
    ·simp only[q,if_true,List.lookup,hb] at z
     exact z
    ·simp only[q,if_false,List.lookup,hb,Bool.false_eq_true] at z
     exact z
   exact .tail _ (ih (h.imp (e _) (e _)) fun y hy=>hc y (.tail _ hy))
def cxComp (X:Cx) (Nc:List Str) (scope:Scope) (s:Shared) (H:Hp) (fp:List Addr):Cx:=
 { X with N:=Nc,s₀:=s,H₀:=H,env:=compEnvC scope (clOf scope X.env) s.heap.objs.size X.env,outer:=X.stack,stack:=X.stack,ex:=fp,fn:=fun _=>false,pn:=[],xe:=fun _ _=>False }
def capN (N:List Str) (tv:List Str) (cap:List Nat):List Str:=tv++cap.map fun j=>N.getD j ""
def capS (tv:List Str) (cap:List Nat) (σ:St):St:=(tv.map fun _=>none)++cap.map fun j=>(σ[j]?).join
structure CompOk (X:Cx) (tv:List Str) (cap:List Nat) (scope:Scope):Prop where
 kind:scope.kind = .function
 cell:∀ y∈scope.names,y.2 ≠ .cell
 names:∀ y∈scope.names,y.2 = .local->scope.names.lookup y.1=some .local
 clos:closureFor scope X.env=pure (clOf scope X.env)
 free:∀ y∈scope.names,y.2 = .free->X.env.kindOf y.1=some .cell
 capn:∀ j∈cap,∃ x,X.N[j]? = some x/\(x,NameKind.free)∈scope.names/\(relabel scope X.env).names.lookup x=some .cell
def compChk (sc:Scope) (N:List Str) (cap:List Nat) (scope:Scope):Bool:=
 scope.kind == .function&&sc.kind == .function&&scope.names.all (fun y=>y.2 != .cell&&(y.2 != .local || scope.names.lookup y.1==some .local)&&(y.2 != .free || sc.names.lookup y.1==some .cell)) &&
  cap.all fun j=>match N[j]? with
   | some x=>scope.names.lookup x==some .free&&sc.names.lookup x==some .cell
   | none=>false
theorem relabel_cell {env:Env}{x:Str}(hk:(env.scope.kind == .function)=true) (hc:env.kindOf x=some .cell):∀ {names:List (Str×NameKind)},names.lookup x=some .free ->
  (names.map fun (n,k)=>if (k==NameKind.free&&env.scope.kind == .function&&env.kindOf n==some .cell) then (n,NameKind.cell) else (n,k)).lookup x=some .cell
 | [],h=>by simp at h
 | (n,k)::r,h=>by
  rw[List.map_cons]
  by_cases hx:x=n
  ·subst hx
   simp only[List.lookup,beq_self_eq_true] at h
   cases h
   simp[hk,hc,List.lookup]
  ·have hb:(x==n)=false:=beq_eq_false_iff_ne.mpr hx
   simp only[List.lookup,hb] at h
   have ih:=relabel_cell hk hc h
   by_cases q:(k==NameKind.free&&env.scope.kind == .function&&env.kindOf n==some .cell)=true
   ·simp only[q,if_true,List.lookup,hb]
    exact ih
   ·simp only[q,if_false,List.lookup,hb,Bool.false_eq_true]
    exact ih
theorem compOk_of {X:Cx}{tv:List Str}{cap:List Nat}{scope:Scope}(sc:Scope) (N:List Str) (h1:X.env.scope=sc) (h2:X.N=N) (hb:compChk sc N cap scope=true) (hcl:closureFor scope X.env=pure (clOf scope X.env)):CompOk X tv cap scope:=by
 subst h1 h2
 unfold compChk at hb
 simp only[Bool.and_eq_true,beq_iff_eq,List.all_eq_true,bne_iff_ne,Bool.or_eq_true,ne_eq] at hb
 obtain⟨⟨⟨k1,k2⟩,h1⟩,h2⟩:=hb
 refine⟨k1,fun y hy=>(h1 y hy).1.1,fun y hy hl=>(h1 y hy).1.2.resolve_left fun z=>z hl,hcl,fun y hy hf=>(h1 y hy).2.resolve_left fun z=>z hf,fun j hj=>?_⟩
 have z:=h2 j hj
 cases e:X.N[j]? with
 | none=>rw[e] at z;exact absurd z (by simp)
 | some x=>
  rw[e] at z
  simp only[Bool.and_eq_true,beq_iff_eq] at z
  exact⟨x,rfl,lookup_some_mem z.1,relabel_cell (by rw[k2];rfl) z.2 z.1⟩
section
variable {X:Cx}{pins:List (Addr×Obj)}{σ:St}{H:Hp}{s s₁:Shared}{tv:List Str}{cap:List Nat}{scope:Scope}{fp:List Addr}{h₁:Heap}
theorem comp_start (O:CompOk X tv cap scope) (hc:X.calm=true) (I:Inv X pins σ H s) (hf:∀ b∈fp,FpOk X pins H b/\b<s.heap.objs.size) (hns:h₁.Ns s.heap.objs.size (fun x=>(([]:List (Str×Value)).reverse).lookup x))
  (hsb:∀ b o,s.heap.get? b=some o->h₁.get? b=some o) (tk:Nat):Inv (cxComp X (capN X.N tv cap) scope s H fp) [] (capS tv cap σ) H { s with heap:=h₁,toks:=tk }:=by
 have ltC:∀ b o,s.heap.get? b=some o->b≠s.heap.objs.size:=fun b o e=>Nat.ne_of_lt (Heap.lt_size e)
 have cellIn:∀ x c,(clOf scope X.env).lookup x=some c->∃ v,s.heap.IsCell c v:=fun x c e=>I.cell x c (clOf_get e)
 have ok:(cxComp X (capN X.N tv cap) scope s H fp).Ok:=by
  refine⟨I.ok.mod,O.kind,I.ok.glob,I.ok.blt,Nat.le_refl _,fun x y c h1 h2=>I.ok.inj x y c (clOf_get h1) (clOf_get h2),fun x hx=>?_,fun x c h=>(nomatch (show false=true from h)),fun _=>I.ok.hd hc,I.ok.frames,.inl rfl,fun b hb=>?_,
   I.bs,Nat.le_trans I.ok.bsz I.sz,fun b o e hb=>?_,fun b hb hb'=>?_,I.stack,I.stkFree⟩
  ·have m:(x,NameKind.free)∈scope.names:=relabel_free (env:=X.env) hx O.cell
   obtain⟨c,e⟩:=I.ok.has x (.inl (O.free _ m rfl))
   exact⟨c,clOf_has m e⟩
  ·obtain⟨⟨f0,f1,f2,f3,f4,f5⟩,lt⟩:=hf b hb
   exact⟨Nat.ne_of_lt lt,fun x c e=>f4 x c (clOf_get e)⟩
  ·obtain⟨⟨f0,f1,f2,f3,f4,f5⟩,lt⟩:=hf b hb
   rcases f3 with z | z
   ·exact I.ok.noex b o e z
   ·have:=Nat.lt_of_lt_of_le (Heap.lt_size e) I.ok.bsz
    exact absurd (Nat.lt_of_lt_of_le this z) (Nat.lt_irrefl _)
  ·obtain⟨⟨f0,f1,f2,f3,f4,f5⟩,lt⟩:=hf b hb
   rcases List.mem_cons.mp (I.stkSub b hb') with z | z
   ·exact f1 z
   ·exact f2 z
 refine⟨ok,rfl,I.bare,Un.kept hsb,⟨_,hns,fun i x v e1 e2 e3=>?_⟩,fun x c e=>?_,?_,fun x c e=>I.freeC x c (clOf_get e),fun p hp=>absurd (show p∈([]:List (Addr×Obj))++[] from hp) (by simp),I.hok.kept hsb,?_⟩
 ·-- a name of the def's,by its cell
  have hi:tv.length<=i:=by
   refine Nat.le_of_not_lt fun q=>?_
   unfold capS at e2
   rw[List.getElem?_append_left (by simpa using q),List.getElem?_map] at e2
   cases z:tv[i]? with
   | none=>rw[z] at e2;cases e2
   | some y=>rw[z] at e2;cases e2
  have e1':(cap.map fun j=>X.N.getD j "")[i-tv.length]? = some x:=by
   have:(capN X.N tv cap)[i]? = some x:=e1
   unfold capN at this
   rwa [List.getElem?_append_right hi] at this
  have e2':(cap.map fun j=>(σ[j]?).join)[i-tv.length]? = some (some v):=by
   unfold capS at e2
   rwa [List.getElem?_append_right (by simpa using hi),List.length_map] at e2
  rw[List.getElem?_map] at e1' e2'
  cases q:cap[i-tv.length]? with
  | none=>rw[q] at e1';cases e1'
  | some j=>
   rw[q] at e1' e2'
   obtain⟨y,hy,hm,hrl⟩:=O.capn j (List.mem_of_getElem? q)
   have ex:y=x:=by
    have z:X.N.getD j "" = x:=Option.some.inj e1'
    rw[List.getD_eq_getElem?_getD,hy] at z
    exact z
   subst ex
   have ev:σ[j]? = some (some v):=by
    have z:(σ[j]?).join=some v:=Option.some.inj e2'
    cases w:σ[j]? with
    | none=>rw[w] at z;cases z
    | some u=>
     rw[w] at z
     have z':u=some v:=z
     rw[z']
   obtain⟨m,hn,hl⟩:=I.loc
   have kc:X.env.kindOf y=some .cell:=O.free _ hm rfl
   obtain⟨u,ru,l⟩:=hl j y v hy ev (.inr (.inl kc))
   refine⟨u,ru,?_⟩
   rcases l with⟨l1,_⟩ | ⟨_,c,l2,l3⟩
   ·rw[kc] at l1
    cases l1
   ·obtain⟨o,ho,hd⟩:=l3
    refine .inr ⟨?_,c,clOf_has hm l2,o,hsb c o ho,hd⟩
    rcases e3 with z | z | z
    ·exfalso
     have z':(relabel scope X.env).names.lookup y=some .local:=z
     rw[hrl] at z'
     cases z'
    ·exact .inl z
    ·exact .inr z
 ·obtain⟨v,o,ho,hd⟩:=cellIn x c e
  exact⟨v,o,hsb c o ho,hd⟩
 ·exact I.hok.fresh (Nat.le_refl _)
 ·show (capS tv cap σ).length=(capN X.N tv cap).length
  unfold capS capN
  simp
theorem comp_end {H':Hp}{s':Shared}{σ':St}{h':Heap}(hf:∀ b∈fp,FpOk X pins H b/\b<s.heap.objs.size) (I:Inv X pins σ H s) (J:Inv (cxComp X (capN X.N tv cap) scope s H fp) [] σ' H' s') (hs:Heap.SameBut s.heap.objs.size s'.heap h') :
  Inv X pins σ H' { s' with heap:=h' }:=by
 have ltC:∀ b o,s.heap.get? b=some o->b≠s.heap.objs.size:=fun b o e=>Nat.ne_of_lt (Heap.lt_size e)
 have k:∀ b o,b≠s.heap.objs.size->s'.heap.get? b=some o->h'.get? b=some o:=fun b o hb e=>(hs.2 b hb).trans e
 have nC:∀ b u,H' b=some u->b≠s.heap.objs.size:=fun b u q=>Za8 q J.free
 have u:Un (frs X.stack) fp H H' s.heap h':=by
  have B:=J.base
  refine⟨fun b o e n hb hx=>k b o (ltC b o e) (B.keep b o e n hb hx),fun b o e n hb hx=>?_,B.free,fun b o e hx=>?_,B.tups,B.frzs,B.tbls⟩
  ·obtain⟨sl,q⟩:=B.slot b o e n hb hx
   exact⟨sl,k b _ (ltC b o e) q⟩
  ·obtain⟨o',q⟩:=B.there b o e hx
   exact⟨o',k b o' (ltC b o e) q⟩
 refine I.call' (ch:=fp) J.os u (fun b o q=>?_) J.bare fun b hb=>?_
 ·refine (J.hok b o q).stay (fun c v hc r=>k c v ?_ r) (fun _ r=>r) fun _ _ r=>r
  rcases hc with rfl | hc
  ·exact nC _ o q
  ·exact nC c _ hc
 ·obtain⟨⟨f0,f1,f2,f3,f4,f5⟩,lt⟩:=hf b hb
  exact⟨f3,f1,f4,f5⟩
end
def PTs (X:Cx) (ifs:List Expr) (t:TT):Prop:=(ifs=[]/\t=fun _ H Q=>Q true H)\/∃ c,ifs=[c]/\PT X c t
theorem pts_nil {X:Cx}:PTs X [] (fun _ H Q=>Q true H):=.inl ⟨rfl,rfl⟩
theorem pts_one {X:Cx}{c:Expr}{t:TT}(h:PT X c t):PTs X [c] t:=.inr ⟨c,rfl,h⟩
def CompW (J:It) (D:Addr) (g:TG) (tc:TT) (te:TE) (σ0:St) (H1:Hp) (Q:VK):Prop:=∃ W:Nat->Nat->List V->St->Hp->Prop,(∃ m,W 0 m [] σ0 (upd H1 D (.lst []))) /\
 ∀ i m ys σ H,W i m ys σ H->H D=some (.lst ys)/\((J.stop i H/\Q (.ref D) H)\/(J.go i H/\ys.length<sizeLine/\∃ N:List V->St->Hp->Prop,(∀ ys' σ' H',N ys' σ' H'->∃ m',m'<m/\W (i+1) m' ys' σ' H') /\
  ∀ x H',J.yld i H x H'->g x σ H' fun σ2 H2=>tc σ2 H2 fun b H3=>if b=true then te σ2 H3 fun y H4=>H4 D=some (.lst ys)/\N (ys++[y]) σ2 (upd H4 D (.lst (ys++[y]))) else N ys σ2 H3))
def tComp (tv:List Str) (cap:List Nat) (wi:TI) (g:TG) (tc:TT) (te:TE):TE:=fun σ H Q=>wi σ H fun J H1=>∀ D,H1 D=none->CompW J D g tc te (capS tv cap σ) H1 Q
theorem comp_block {X:Cx}{elt tg iter:Expr}{ifs:List Expr}{scope:Scope}{pos:Pos}{tv:List Str}{cap:List Nat}{g:TG}{tc:TT}{te:TE}(O:CompOk X tv cap scope) (hc:X.calm=true)
  (hg:∀ s H fp,PG (cxComp X (capN X.N tv cap) scope s H fp) tg g) (ht:∀ s H fp,PTs (cxComp X (capN X.N tv cap) scope s H fp) ifs tc) (he:∀ s H fp,PE (cxComp X (capN X.N tv cap) scope s H fp) elt te)
  {pins:List (Addr×Obj)} {σ:St} {H2:Hp} {s2:Shared} {it:Addr} {fp:List Addr} {tn:Nat->Heap->Prop} {J:It} {Q:VK} {RR:Value->Addr->Result->Shared->Prop} {EE:Value->Shared->Prop} (I2:Inv X pins σ H2 s2) (T:Turn X.prog X.w X.K tg J fp it tn) (st2:tn 0 s2.heap) (f2:∀ b∈fp,FpOk X pins H2 b)
  (hW:∀ D,H2 D=none->CompW J D g tc te (capS tv cap σ) H2 Q)
  (hRR:∀ D C s6 H6,(∃ m,s6.heap.Ns C m)->H6 C=none->s2.heap.objs.size<=C->(∀ h',Heap.SameBut C s6.heap h'->Inv X pins σ H6 { s6 with heap:=h' })->Q (.ref D) H6->RR (.ref D) C (.ok .next) s6) :
  wpAny (model X.prog X.w) X.A (newList []) (fun acc s₃=>wpAny (model X.prog X.w) X.A (newFunctionEnv scope X.env.globals (clOf scope X.env) [] X.env.qual none .none (some X.env)) (fun cenv s₄=>
   codeAny (model X.prog X.w) X.A (.compStart (.ListComp elt [⟨tg,iter,ifs,0⟩] scope pos) 0 (.ref it) acc { cenv with scope:=relabel scope X.env }) (RR acc cenv.locals) s₄) EE s₃) EE s2:=by
 have hD:H2 s2.heap.objs.size=none:=I2.hok.fresh (Nat.le_refl _)
 obtain⟨W,⟨m0,w0⟩,turn⟩:=hW s2.heap.objs.size hD
 refine wpAny_newObj_type (wpAny_newFunctionEnv O.cell (by intro y hy;simp at hy) (fun h₁ hns₁ hsb₁=>?_) O.kind)
 have I3:Inv X pins σ (upd H2 s2.heap.objs.size (.lst [])) { s2 with heap:=s2.heap.push { cls:=.type "list",dict:=none,data:=.seq ([]:List Value).toArray } }:=
  I2.laid (t':=s2.toks) (fun b u q=>Heap.get?_push_of_some _ q) (Nat.le_refl _) ⟨Nat.zero_le _,[],0,.nil,Heap.get?_push_size _ rfl⟩
 have lt2:∀ b∈fp,b<s2.heap.objs.size:=fun b hb=>by
  obtain⟨o,ho,_⟩:=T.obj 0 _ st2 b hb
  exact Heap.lt_size ho
 have sz3:(s2.heap.push { cls:=.type "list",dict:=none,data:=.seq ([]:List Value).toArray }).objs.size=s2.heap.objs.size+1:=Heap.size_push _ _
 have f3:∀ b∈fp,FpOk X pins (upd H2 s2.heap.objs.size (.lst [])) b/\b<(s2.heap.push { cls:=.type "list",dict:=none,data:=.seq ([]:List Value).toArray }).objs.size:=fun b hb=>by
  obtain⟨g0,g1⟩:=f2 b hb
  refine⟨⟨?_,g1⟩,?_⟩
  ·rw[Zb8 (Nat.ne_of_lt (lt2 b hb))]
   exact g0
  ·rw[sz3]
   exact Nat.lt_succ_of_lt (lt2 b hb)
 have old:∀ b o,(s2.heap.push { cls:=.type "list",dict:=none,data:=.seq ([]:List Value).toArray }).get? b=some o->h₁.get? b=some o:=fun b o e=>
  hsb₁.extBut b o (Nat.ne_of_lt (Heap.lt_size e)) (Heap.get?_push_of_some _ e)
 have J4:=comp_start (tv:=tv) (cap:=cap) O hc I3 f3 hns₁ old (s2.toks+([]:List (Str×Value)).length)
 have stat:∀ {H':Hp},(∀ b∈fp,H' b=none)->∀ b∈fp,FpOk (cxComp X (capN X.N tv cap) scope { s2 with heap:=s2.heap.push { cls:=.type "list",dict:=none,data:=.seq ([]:List Value).toArray } } (upd H2 s2.heap.objs.size (.lst [])) fp) [] H' b:=fun {H'} hn b hb=>by
  obtain⟨⟨g0,g1,g2,g3,g4,g5⟩,lt⟩:=f3 b hb
  refine⟨hn b hb,Nat.ne_of_lt lt,fun z=>?_,.inl hb,fun x c e=>g4 x c (clOf_get e),fun p hp=>absurd (show p∈([]:List (Addr×Obj))++[] from hp) (by simp)⟩
  rcases List.mem_cons.mp (I3.stkSub b z) with q | q
  ·exact g1 q
  ·exact g2 q
 have st4:tn 0 h₁:=T.keep 0 _ _ st2 fun b hb o e=>old b o (Heap.get?_push_of_some _ e)
 have loop:∀ s4:Shared,s4={ s2 with heap:=h₁,toks:=s2.toks+([]:List (Str×Value)).length } ->
   codeAny (model X.prog X.w) X.A (.compLoop (.ListComp elt [⟨tg,iter,ifs,0⟩] scope pos) 0 (.ref it) (.ref s2.heap.objs.size) (compEnvC scope (clOf scope X.env) (s2.heap.push { cls:=.type "list",dict:=none,data:=.seq ([]:List Value).toArray }).objs.size X.env))
    (RR (.ref s2.heap.objs.size) (s2.heap.push { cls:=.type "list",dict:=none,data:=.seq ([]:List Value).toArray }).objs.size) s4:=by
  rintro s4 rfl
  refine compLoop_any (fun n s'=>∃ i ys σ' H',Inv (cxComp X (capN X.N tv cap) scope { s2 with heap:=s2.heap.push { cls:=.type "list",dict:=none,data:=.seq ([]:List Value).toArray } } (upd H2 s2.heap.objs.size (.lst [])) fp) [] σ' H' s'/\tn i s'.heap/\(∀ b∈fp,H' b=none)/\W i n ys σ' H') ?_ m0
   ⟨0,[],_,_,J4,st4,fun b hb=>(f3 b hb).1.1,w0⟩
  rintro n s5 ⟨i,ys,σ5,H5,I5,st5,fr5,w5⟩
  obtain⟨hl5,hgo⟩:=turn i n ys σ5 H5 w5
  rcases hgo with⟨stop,qn⟩ | ⟨go,hlen,N,hN,step⟩
  ·refine thn (T.done (cxComp X (capN X.N tv cap) scope { s2 with heap:=s2.heap.push { cls:=.type "list",dict:=none,data:=.seq ([]:List Value).toArray } } (upd H2 s2.heap.objs.size (.lst [])) fp) rfl rfl rfl hc i [] s5 σ5 H5 _ I5 (stat fr5) st5 stop) fun r s6 ⟨hr,I6⟩=>?_
   subst hr
   obtain⟨m,hn,_⟩:=id I6.loc
   exact hRR _ _ s6 H5 ⟨m,hn⟩ I6.free (Nat.le_of_lt (by rw[sz3];exact Nat.lt_succ_of_le (Nat.le_refl _))) (fun h' hs'=>comp_end f3 I3 I6 hs') qn
  ·refine thn (T.item (cxComp X (capN X.N tv cap) scope { s2 with heap:=s2.heap.push { cls:=.type "list",dict:=none,data:=.seq ([]:List Value).toArray } } (upd H2 s2.heap.objs.size (.lst [])) fp) rfl rfl rfl hc i [] s5 σ5 H5 _ I5 (stat fr5) st5 go) fun r s6 ⟨u,hr,h6⟩=>?_
   subst hr
   refine thn h6 fun _ s7 ⟨x,H7,I7,r7,y7,st7,fr7⟩=>?_
   have I7':=I7.pinned (stat fr7) (T.obj _ _ st7)
   refine thn (hg _ _ _ _ s7 σ5 H7 x u _ I7' r7 (step x H7 y7)) fun _ s8 ⟨σ8,H8,I8,q8⟩=>?_
   have again:∀ {ys9:List V} {H9:Hp} {s9:Shared},Inv (cxComp X (capN X.N tv cap) scope { s2 with heap:=s2.heap.push { cls:=.type "list",dict:=none,data:=.seq ([]:List Value).toArray } } (upd H2 s2.heap.objs.size (.lst [])) fp) ([]++pinsAt fp s7.heap) σ8 H9 s9->N ys9 σ8 H9 ->
     ∃ m,m<n/\∃ i ys σ' H',Inv (cxComp X (capN X.N tv cap) scope { s2 with heap:=s2.heap.push { cls:=.type "list",dict:=none,data:=.seq ([]:List Value).toArray } } (upd H2 s2.heap.objs.size (.lst [])) fp) [] σ' H' s9/\tn i s9.heap/\(∀ b∈fp,H' b=none)/\W i m ys σ' H':=fun {ys9 H9 s9} I9 n9=>by
    obtain⟨m',hm,w9⟩:=hN ys9 σ8 H9 n9
    refine⟨m',hm,i+1,ys9,σ8,H9,I9.unpinned,T.keep _ _ _ st7 fun b hb o e=>(I9.pin (b,o) (List.mem_append_right _ (List.mem_append_right _ (mem_pinsAt hb e)))).1,fun b hb=>?_,w9⟩
    obtain⟨o,e,d⟩:=T.obj _ _ st7 b hb
    exact (I9.pin (b,o) (List.mem_append_right _ (List.mem_append_right _ (mem_pinsAt hb e)))).2.1
   have elem:∀ {H9:Hp} {s9:Shared},Inv (cxComp X (capN X.N tv cap) scope { s2 with heap:=s2.heap.push { cls:=.type "list",dict:=none,data:=.seq ([]:List Value).toArray } } (upd H2 s2.heap.objs.size (.lst [])) fp) ([]++pinsAt fp s7.heap) σ8 H9 s9 ->
     te σ8 H9 (fun y H4=>H4 s2.heap.objs.size=some (.lst ys)/\N (ys++[y]) σ8 (upd H4 s2.heap.objs.size (.lst (ys++[y])))) ->
     wpAny (model X.prog X.w) X.A (eval elt (compEnvC scope (clOf scope X.env) (s2.heap.push { cls:=.type "list",dict:=none,data:=.seq ([]:List Value).toArray }).objs.size X.env)) (fun x s₄=>
       wpAny (model X.prog X.w) X.A (call (.builtin "list.append") [.ref s2.heap.objs.size,x]) (fun _ s₅=>∃ m,m<n/\∃ i ys σ' H',Inv (cxComp X (capN X.N tv cap) scope { s2 with heap:=s2.heap.push { cls:=.type "list",dict:=none,data:=.seq ([]:List Value).toArray } } (upd H2 s2.heap.objs.size (.lst [])) fp) [] σ' H' s₅/\tn i s₅.heap/\(∀ b∈fp,H' b=none)/\W i m ys σ' H') (fun _ _=>False) s₄) (fun _ _=>False) s9:=fun {H9 s9} I9 q9=>by
    refine thn (he _ _ _ _ s9 σ8 H9 _ I9 q9) fun y s10 ⟨yv,H10,I10,r10,hl10,n10⟩=>?_
    refine thn (mt_append (X:=cxComp X (capN X.N tv cap) scope { s2 with heap:=s2.heap.push { cls:=.type "list",dict:=none,data:=.seq ([]:List Value).toArray } } (upd H2 s2.heap.objs.size (.lst [])) fp) _ s10 σ8 H10 (.ref s2.heap.objs.size) [yv] (.ref s2.heap.objs.size) [y]
     (fun _ H11=>N (ys++[yv]) σ8 H11) I10 rfl (.cons r10 .nil) ⟨_,ys,yv,rfl,rfl,hl10,hlen,n10⟩) fun _ s11 ⟨v11,H11,I11,_,n11⟩=>?_
    exact again I11 n11
   rcases ht { s2 with heap:=s2.heap.push { cls:=.type "list",dict:=none,data:=.seq ([]:List Value).toArray } } (upd H2 s2.heap.objs.size (.lst [])) fp with⟨e1,e2⟩ | ⟨c,e1,hpt⟩
   ·subst e1 e2
    refine wpAny_tests_nil ?_
    rw[if_pos rfl]
    have q8':(if (true:Bool)=true then te σ8 H8 (fun y H4=>H4 s2.heap.objs.size=some (.lst ys)/\N (ys++[y]) σ8 (upd H4 s2.heap.objs.size (.lst (ys++[y])))) else N ys σ8 H8):=q8
    rw[if_pos rfl] at q8'
    exact elem I8 q8'
   ·subst e1
    refine wpAny_tests_one (thn (hpt _ s8 σ8 H8 _ I8 q8) fun b s9 ⟨H9,I9,q9⟩=>?_)
    cases b with
    | true=>
     rw[if_pos rfl] at q9 ⊢
     exact elem I9 q9
    | false=>
     rw[if_neg ⋯] at q9 ⊢
     exact again I9 q9
 exact codeAny_compStart_list (loop _ rfl) (T.self X.A 0 _ _ _ st4 (loop _ rfl))
theorem pe_comp {X:Cx}{elt tg iter:Expr}{ifs:List Expr}{scope:Scope}{pos:Pos}{tv:List Str}{cap:List Nat}{wi:TI}{g:TG}{tc:TT}{te:TE}(O:CompOk X tv cap scope) (hc:X.calm=true) (hi:PI X tg iter wi)
  (hg:∀ s H fp,PG (cxComp X (capN X.N tv cap) scope s H fp) tg g) (ht:∀ s H fp,PTs (cxComp X (capN X.N tv cap) scope s H fp) ifs tc) (he:∀ s H fp,PE (cxComp X (capN X.N tv cap) scope s H fp) elt te)
  (hs:∀ x,foldedSetIterable iter X.env x=pure x:=by intro _;rfl):PE X (.ListComp elt [⟨tg,iter,ifs,0⟩] scope pos) (tComp tv cap wi g tc te):=by
 intro pins s σ H Q I h
 rw[eval_ListComp]
 refine wpAny_comprehension_free (use:=none) rfl hs O.clos O.kind O.names (thn (hi pins s σ H _ I h) fun v s1 h1=>thn h1 fun itv s2 h2=>?_)
 obtain⟨it,fp,tn,J,H2,e,I2,T,st2,f2,hW⟩:=h2
 subst e
 refine comp_block (RR:=fun acc C=>compPost (model X.prog X.w) X.A X.xe none (EP X pins σ Q) acc C) O hc hg ht he I2 T st2 f2 hW fun D C s6 H6 hn _ _ hI hq=>?_
 obtain⟨m,hn⟩:=hn
 exact⟨m,hn,fun h' hs'=>⟨.ref D,H6,hI h' hs',rfl,hq⟩⟩
theorem ps_setC {X:Cx}{elt tg iter:Expr}{ifs:List Expr}{scope:Scope}{pos spos py:Pos}{tv:List Str}{cap:List Nat}{wi:TI}{g:TG}{tc:TT}{te:TE}{i:Nat}{y:Str}(hN:X.N.Nodup) (hy:X.N[i]? = some y) (hl:X.env.scope.names.lookup y=some .local)
  (O:CompOk X tv cap scope) (hc:X.calm=true) (hi:PI X tg iter wi)
  (hg:∀ s H fp,PG (cxComp X (capN X.N tv cap) scope s H fp) tg g) (ht:∀ s H fp,PTs (cxComp X (capN X.N tv cap) scope s H fp) ifs tc) (he:∀ s H fp,PE (cxComp X (capN X.N tv cap) scope s H fp) elt te)
  (hsw:swapsWith (.ListComp elt [⟨tg,iter,ifs,0⟩] scope pos) (some (.Name y py)) spos.line X.env=pure true) (hs:∀ x,foldedSetIterable iter X.env x=pure x:=by intro _;rfl) :
  PS X (.Assign [.Name y py] (.ListComp elt [⟨tg,iter,ifs,0⟩] scope pos) spos) (tAsg (tComp tv cap wi g tc te) (gName i)):=by
 intro pins s σ H D I h
 rw[exec_Assign_Name_used _ _ _ _ hsw]
 refine wpAny_bind (wpAny_standAt (wpAny_bind ?_))
 show wpAny _ X.A (do let _←comprehension (.ListComp elt [⟨tg,iter,ifs,0⟩] scope pos) scope X.env _ (newList []) false (eval iter X.env) (some (assign (.Name y py) X.env))) _ _ s
 refine wpAny_bind (wpAny_mono (wpAny_comprehension_free (use:=some (assign (.Name y py) X.env)) (Q:=fun _ s'=>SP X pins D .next s') rfl hs O.clos O.kind O.names (thn (hi pins s σ H _ I h) fun v s1 h1=>thn h1 fun itv s2 h2=>?_)) (fun _ s' hq=>wpAny_pure (wpAny_pure hq)) fun _ _ e=>e)
 obtain⟨it,fp,tn,J,H2,e,I2,T,st2,f2,hW⟩:=h2
 subst e
 refine comp_block (Q:=fun x H1=>gName i x σ H1 D.nx) (RR:=fun acc C=>compPost (model X.prog X.w) X.A X.xe (some (assign (.Name y py) X.env)) (fun _ s'=>SP X pins D .next s') acc C) O hc hg ht he I2 T st2 f2 hW fun Da C s6 H6 hn hfree hle hI hq=>?_
 obtain⟨m,hn⟩:=hn
 have I6:Inv X pins σ H6 s6:=hI s6.heap (.refl ..)
 have neL:C≠X.env.locals:=fun z=>absurd (Nat.lt_of_lt_of_le I2.lt hle) (by rw[z];exact Nat.lt_irrefl _)
 have neC:∀ x c,X.env.cells.lookup x=some c->c≠C:=fun x c e z=>by
  obtain⟨v,q⟩:=I2.cell x c e
  exact absurd (Nat.lt_of_lt_of_le q.lt (by rw[z];exact hle)) (Nat.lt_irrefl _)
 have neP:∀ p∈X.pn++pins,p.1≠C:=fun p hp z=>absurd (Nat.lt_of_lt_of_le (Heap.lt_size (I2.pin p hp).1) (by rw[z];exact hle)) (Nat.lt_irrefl _)
 show wpAny _ X.A (assign (.Name y py) X.env (.ref Da)) _ _ _
 refine wpAny_assign_Name (store_ok2 (v:=.ref Da) I6 hN hy (.inl hl) rfl (fun s7 I7 ⟨b,sb,hb⟩=>?_) (.inr hl))
 have hbC:C≠b:=by
  rcases hb with z | z
  ·rw[z];exact neL
  ·exact Ne.symm (neC y b z)
 refine⟨m,hn.sameBut sb hbC,fun h' hs'=>⟨_,H6,I7.turned (t':=s7.toks) (it:=C) (fun c o hc e=>(hs'.2 c hc).trans e) hfree neL (.inr (Nat.le_trans I2.sz hle)) neC neP,hq⟩⟩
end L2
set_option maxHeartbeats 1000000
namespace L2
open PySem PySem.Spec PyProof.Rows
theorem comp_by {J:It}{D:Addr}{n:Nat}{xs:Nat->V}{c:List (Option V)}{tc:TT}{te:TE}{Q:VK}{v0:Option V}{H1:Hp}(Pv:Nat->List V->Hp->Prop) (hn:n<sizeLine) (h0:Pv 0 [] (upd H1 D (.lst [])))
  (hl:∀ i ys H,Pv i ys H->H D=some (.lst ys)/\ys.length<=i) (hJ:∀ i ys H,i<n->Pv i ys H->J.go i H/\∀ x H',J.yld i H x H'->H'=H/\x=xs i) (hJ2:∀ ys H,Pv n ys H->J.stop n H)
  (hs:∀ i ys H (N:List V->Hp->Prop),i<n->Pv i ys H->(∀ ys' H',Pv (i+1) ys' H'->N ys' H')->tc (some (xs i)::c) H fun b H3=>if b=true then te (some (xs i)::c) H3 fun y H4=>H4 D=some (.lst ys)/\N (ys++[y]) (upd H4 D (.lst (ys++[y]))) else N ys H3)
  (hd:∀ ys H,Pv n ys H->Q (.ref D) H) :
  CompW J D (gName 0) tc te (v0::c) H1 Q:=by
 refine⟨fun i m ys σ H=>m=n-i/\i<=n/\Pv i ys H/\∃ v,σ=v::c,⟨n,rfl,Nat.zero_le _,h0,v0,rfl⟩,?_⟩
 rintro i m ys σ H ⟨rfl,hi,p,v,rfl⟩
 obtain⟨q1,q2⟩:=hl i ys H p
 refine⟨q1,?_⟩
 by_cases hlt:i<n
 ·obtain⟨g1,g2⟩:=hJ i ys H hlt p
  refine .inr ⟨g1,by omega,fun ys' σ' H'=>Pv (i+1) ys' H'/\∃ v,σ'=v::c,fun ys' σ' H' ⟨p',v',e'⟩=>⟨n-(i+1),by omega,rfl,hlt,p',v',e'⟩,fun x H' y=>?_⟩
  obtain⟨e1,e2⟩:=g2 x H' y
  subst e1 e2
  exact hs i ys H' (fun ys' H''=>Pv (i+1) ys' H''/\∃ v,(some (xs i)::c)=v::c) hlt p fun ys' H'' p'=>⟨p',_,rfl⟩
 ·have e:i=n:=by omega
  subst e
  exact .inl ⟨hJ2 ys H p,hd ys H p⟩
theorem comp_range {D:Addr}{lo:Int}{n:Nat}{c:List (Option V)}{tc:TT}{te:TE}{Q:VK}{v0:Option V}{H1:Hp}(Pv:Nat->List V->Hp->Prop) (hn:n<sizeLine) (h0:Pv 0 [] (upd H1 D (.lst [])))
  (hl:∀ i ys H,Pv i ys H->H D=some (.lst ys)/\ys.length<=i)
  (hs:∀ i ys H (N:List V->Hp->Prop),i<n->Pv i ys H->(∀ ys' H',Pv (i+1) ys' H'->N ys' H')->tc (some (.int (lo+i))::c) H fun b H3=>if b=true then te (some (.int (lo+i))::c) H3 fun y H4=>H4 D=some (.lst ys)/\N (ys++[y]) (upd H4 D (.lst (ys++[y]))) else N ys H3)
  (hd:∀ ys H,Pv n ys H->Q (.ref D) H) :
  CompW (Itr lo n) D (gName 0) tc te (v0::c) H1 Q:=
 comp_by (J:=Itr lo n) (xs:=fun i=>.int (lo+i)) Pv hn h0 hl (fun i ys H hi _=>⟨hi,fun x H' y=>y⟩) (fun _ _ _=>Nat.le_refl _) hs hd
theorem comp_list {K:PySem.W.Frag}{a D:Addr}{xs:List V}{c:List (Option V)}{tc:TT}{te:TE}{Q:VK}{v0:Option V}{H1:Hp}(Pv:Nat->List V->Hp->Prop) (hn:xs.length<sizeLine) (h0:Pv 0 [] (upd H1 D (.lst [])))
  (hl:∀ i ys H,Pv i ys H->H D=some (.lst ys)/\ys.length<=i) (ha:∀ i ys H,i<=xs.length->Pv i ys H->SqL K H a xs)
  (hs:∀ i x ys H (N:List V->Hp->Prop),xs[i]? = some x->Pv i ys H->(∀ ys' H',Pv (i+1) ys' H'->N ys' H')->tc (some x::c) H fun b H3=>if b=true then te (some x::c) H3 fun y H4=>H4 D=some (.lst ys)/\N (ys++[y]) (upd H4 D (.lst (ys++[y]))) else N ys H3)
  (hd:∀ ys H,Pv xs.length ys H->Q (.ref D) H) :
  CompW (Itl K a) D (gName 0) tc te (v0::c) H1 Q:=by
 refine comp_by (J:=Itl K a) (n:=xs.length) (xs:=fun i=>xs.getD i .non) Pv hn h0 hl (fun i ys H hi p=>?_) (fun ys H p=>⟨xs,ha _ ys H (Nat.le_refl _) p,Nat.le_refl _⟩) (fun i ys H N hi p hN=>?_) hd
 ·have q:=ha i ys H (Nat.le_of_lt hi) p
  have e:xs[i]? = some (xs.getD i .non):=by rw[List.getD_eq_getElem?_getD,List.getElem?_eq_getElem hi];rfl
  refine⟨⟨xs,_,q,e⟩,fun x H' y=>⟨y.1,?_⟩⟩
  have z:=y.2 xs q
  rw[e] at z
  exact (Option.some.inj z).symm
 ·have e:xs[i]? = some (xs.getD i .non):=by rw[List.getD_eq_getElem?_getD,List.getElem?_eq_getElem hi];rfl
  exact hs i _ ys H N e p hN
end L2
set_option maxHeartbeats 1000000
namespace L2
open PySem PySem.Spec PyProof.Rows
theorem while_k {c:TT}{tb:TS}{D:Ends}{σ:St}{H:Hp}(Pv:St->Hp->Prop) (μ:St->Hp->Nat) (h0:Pv σ H)
  (hs:∀ σ H (K:Bool->Hp->Prop),Pv σ H->(∀ H1,tb { D with nx:=fun σ' H'=>Pv σ' H'/\μ σ' H'<μ σ H,ct:=fun σ' H'=>Pv σ' H'/\μ σ' H'<μ σ H,bk:=D.nx } σ H1->K true H1)->(∀ H1,D.nx σ H1->K false H1)->c σ H K) :
  tWhile c tb D σ H:=by
 refine⟨fun m σ H=>m=μ σ H/\Pv σ H,⟨_,rfl,h0⟩,?_⟩
 rintro m σ H ⟨rfl,p⟩
 refine hs σ H _ p (fun H1 q=>?_) fun H1 q=>?_
 ·exact⟨_,fun σ' H' ⟨p',l⟩=>⟨_,l,rfl,p'⟩,q⟩
 ·exact q
def ForW (J:It) (g:TG) (tb:TS) (D:Ends) (σ:St) (H:Hp):Prop:=∃ W:Nat->Nat->St->Hp->Prop,(∃ m,W 0 m σ H)/\∀ i m σ H,W i m σ H ->
 (J.stop i H/\D.nx σ H)\/(J.go i H/\∃ N:St->Hp->Prop,(∀ σ' H',N σ' H'->∃ m',m'<m/\W (i+1) m' σ' H')/\∀ x H',J.yld i H x H'->g x σ H' fun σ2 H2=>tb { D with nx:=N,ct:=N,bk:=D.nx } σ2 H2)
theorem for_listN {K:PySem.W.Frag}{a:Addr}{xs:List V}{g:TG}{tb:TS}{D:Ends}{σ:St}{H:Hp}(Pv:Nat->St->Hp->Prop) (h0:Pv 0 σ H) (hl:∀ i σ H,i<=xs.length->Pv i σ H->SqL K H a xs)
  (hs:∀ i x σ H (N:St->Hp->Prop),xs[i]? = some x->Pv i σ H->(∀ σ' H',Pv (i+1) σ' H'->N σ' H')->g x σ H fun σ2 H2=>tb { D with nx:=N,ct:=N,bk:=D.nx } σ2 H2) (hd:∀ σ H,Pv xs.length σ H->D.nx σ H):ForW (Itl K a) g tb D σ H:=
 for_list Pv h0 hl (fun i x σ H hx p=>hs i x σ H _ hx p fun _ _ z=>z) hd
theorem for_rangeN {lo:Int}{n:Nat}{g:TG}{tb:TS}{D:Ends}{σ:St}{H:Hp}(Pv:Nat->St->Hp->Prop) (h0:Pv 0 σ H)
  (hs:∀ i σ H (N:St->Hp->Prop),i<n->Pv i σ H->(∀ σ' H',Pv (i+1) σ' H'->N σ' H')->g (.int (lo+i)) σ H fun σ2 H2=>tb { D with nx:=N,ct:=N,bk:=D.nx } σ2 H2) (hd:∀ σ H,Pv n σ H->D.nx σ H):ForW (Itr lo n) g tb D σ H:=
 for_range Pv h0 (fun i σ H hi p=>hs i σ H _ hi p fun _ _ z=>z) hd
theorem scal_int (i j:Int):scal (.int i) (.int j)=true:=rfl
theorem scal_bl (i j:Bool):scal (.bl i) (.bl j)=true:=rfl
theorem scal_str (i j:Str):scal (.str i) (.str j)=true:=rfl
def FrAt (H:Hp) (v:V) (a b:Int):Prop:=∃ p,v = .ref p/\H p=some (.tup [.int a,.int b])
theorem FrAt.same {H H':Hp}{v:V}{a b:Int}(h:FrAt H v a b) (s:Same H H'):FrAt H' v a b:=let ⟨p,e,q⟩:=h;⟨p,e,s p _ q⟩
theorem FrAt.upd {H:Hp}{v:V}{a b:Int}{p:Addr}{o:HO}(h:FrAt H v a b) (hp:H p=none):FrAt (upd H p o) v a b:=h.same (Za7 hp)
theorem ix0 {K:PySem.W.Frag}{H:Hp}{p:Addr}{v:V}{l:List V}{Q:VK}(h:H p=some (.tup (v::l))) (q:Q v H):rIxT K (.ref p) (.int 0) H Q:=
 ⟨p,_,0,v,rfl,rfl,SqT.of h,atI_nat (j:=0) rfl,q⟩
theorem ix1 {K:PySem.W.Frag}{H:Hp}{p:Addr}{u v:V}{l:List V}{Q:VK}(h:H p=some (.tup (u::v::l))) (q:Q v H):rIxT K (.ref p) (.int 1) H Q:=
 ⟨p,_,1,v,rfl,rfl,SqT.of h,atI_nat (j:=1) rfl,q⟩
theorem fr0 {K:PySem.W.Frag}{H:Hp}{x:V}{a b:Int}{Q:VK}(h:FrAt H x a b) (q:Q (.int a) H):rIxT K x (.int 0) H Q:=by
 obtain⟨p,rfl,h⟩:=h
 exact ix0 h q
theorem fr1 {K:PySem.W.Frag}{H:Hp}{x:V}{a b:Int}{Q:VK}(h:FrAt H x a b) (q:Q (.int b) H):rIxT K x (.int 1) H Q:=by
 obtain⟨p,rfl,h⟩:=h
 exact ix1 h q
section
variable {X:Cx}{K:PySem.W.Frag}
theorem isiK (h:X.K=K):CallR X (.builtin "isinstance") (rIsi K):=h▸call_isi
def rLen (K:PySem.W.Frag):List V->Hp->VK->Prop:=fun xs H Q=>∃ x n,xs=[x]/\LenV K x H n/\Q (.int n) H
theorem lenK (h:X.K=K):CallR X (.builtin "len") (rLen K):=h▸call_len
theorem len_ok {H:Hp}{x:V}{n:Nat}{Q:VK}(h:LenV K x H n) (q:Q (.int n) H):rLen K [x] H Q:=⟨x,n,rfl,h,q⟩
theorem ixT (h:X.K=K):IxR X (rIxT K):=h▸ix_tup
theorem ixL (h:X.K=K):IxR X (rIxL K):=h▸ix_list
theorem slL (h:X.K=K):SlR X (rSlL K):=h▸sl_list
theorem Zc9 {e:Expr}{f:Str}{pos:Pos}{ta:TE}(h:X.K=K) (he:PE X e ta) (hb:attributeBase e f X.env (eval e X.env)=eval e X.env):PE X (.Attribute e f pos) (tFld K ta f):=h▸pe_fld he hb
theorem pi_listK {tg l:Expr}{tl:TE}(h:X.K=K) (hl:PE X l tl):PI X tg l (iList K tl):=h▸pi_list hl
end
theorem bt_abs:bootBuiltins "abs" = some (.builtin "abs"):=by ac_nf
theorem bt_len:bootBuiltins "len" = some (.builtin "len"):=by ac_nf
theorem Zd1:bootBuiltins "isinstance" = some (.builtin "isinstance"):=by ac_nf
theorem bt_sorted:bootBuiltins "sorted" = some (.builtin "sorted"):=by ac_nf
theorem bt_int:bootBuiltins "int" = some (.type "int"):=by ac_nf
theorem bt_bool:bootBuiltins "bool" = some (.type "bool"):=by ac_nf
theorem bt_tuple:bootBuiltins "tuple" = some (.type "tuple"):=by ac_nf
theorem bt_reversed:bootBuiltins "reversed" = some (.type "reversed"):=by ac_nf
theorem bt_zip:bootBuiltins "zip" = some (.type "zip"):=by ac_nf
theorem bt_list:bootBuiltins "list" = some (.type "list"):=by ac_nf
theorem bt_str:bootBuiltins "str" = some (.type "str"):=by ac_nf
theorem bt_dict:bootBuiltins "dict" = some (.type "dict"):=by ac_nf
end L2
set_option maxHeartbeats 400000
namespace FrM
def sd (a b:Int):Int:=if b<0 then -(Int.gcd a b:Int) else (Int.gcd a b:Int)
def nt (a b:Int):Int:=a.fdiv (sd a b)
def nb (a b:Int):Int:=b.fdiv (sd a b)
theorem gcd_pos {a b:Int}(h:b≠0):0<Int.gcd a b:=Int.gcd_pos_of_ne_zero_right a h
theorem sd_ne {a b:Int}(h:b≠0):sd a b≠0:=by
 have:=@gcd_pos a b h
 unfold sd
 split <;> omega
theorem sd_abs (a b:Int):(sd a b).natAbs=Int.gcd a b:=by
 unfold sd
 split <;> omega
theorem sd_dvd_l (a b:Int):sd a b∣a:=by
 unfold sd
 split
 ·exact Int.neg_dvd.mpr (Int.gcd_dvd_left a b)
 ·exact Int.gcd_dvd_left a b
theorem sd_dvd_r (a b:Int):sd a b∣b:=by
 unfold sd
 split
 ·exact Int.neg_dvd.mpr (Int.gcd_dvd_right a b)
 ·exact Int.gcd_dvd_right a b
theorem fdiv_of {a d:Int}(hd:d≠0) (h:d∣a):a.fdiv d*d=a:=Int.fdiv_mul_cancel h
theorem nt_mul {a b:Int}(h:b≠0):nt a b*sd a b=a:=fdiv_of (sd_ne h) (sd_dvd_l a b)
theorem nb_mul {a b:Int}(h:b≠0):nb a b*sd a b=b:=fdiv_of (sd_ne h) (sd_dvd_r a b)
theorem nb_pos {a b:Int}(h:b≠0):1<=nb a b:=by
 have e:=@nb_mul a b h
 have g:=@gcd_pos a b h
 by_cases hb:b<0
 ·have hs:sd a b<0:=by unfold sd;rw[if_pos hb];omega
  suffices hh:0<nb a b by omega
  refine Int.lt_of_not_ge fun q=>?_
  have:0<=nb a b*sd a b:=Int.mul_nonneg_of_nonpos_of_nonpos q (Int.le_of_lt hs)
  omega
 ·have hs:0<sd a b:=by unfold sd;rw[if_neg hb];omega
  suffices hh:0<nb a b by omega
  refine Int.lt_of_not_ge fun q=>?_
  have:nb a b*sd a b<=0:=Int.mul_nonpos_of_nonpos_of_nonneg q (Int.le_of_lt hs)
  omega
theorem cross {a b:Int}(h:b≠0):nt a b*b=a*nb a b:=by
 have e1:=@nt_mul a b h
 have e2:=@nb_mul a b h
 calc nt a b*b=nt a b*(nb a b*sd a b):=by rw[e2]
  _=(nt a b*sd a b)*nb a b:=by rw[Int.mul_comm (nb a b),Int.mul_assoc]
  _=a*nb a b:=by rw[e1]
theorem gcd_one {a b:Int}(h:b≠0):Int.gcd (nt a b) (nb a b)=1:=by
 have e1:=@nt_mul a b h
 have e2:=@nb_mul a b h
 have e:Int.gcd (nt a b*sd a b) (nb a b*sd a b)=Int.gcd (nt a b) (nb a b)*(sd a b).natAbs:=Int.gcd_mul_right ..
 rw[e1,e2,sd_abs] at e
 have g:=@gcd_pos a b h
 have:1*Int.gcd a b=Int.gcd (nt a b) (nb a b)*Int.gcd a b:=by rw[Nat.one_mul];exact e
 exact (Nat.eq_of_mul_eq_mul_right g this).symm
theorem nt_le {a b:Int}(h:b≠0):(nt a b).natAbs<=a.natAbs:=by
 have e:=congrArg Int.natAbs (@nt_mul a b h)
 rw[Int.natAbs_mul,sd_abs] at e
 have g:=@gcd_pos a b h
 calc (nt a b).natAbs=(nt a b).natAbs*1:=(Nat.mul_one _).symm
  _<=(nt a b).natAbs*Int.gcd a b:=Nat.mul_le_mul_left _ g
  _=a.natAbs:=e
theorem nb_le {a b:Int}(h:b≠0):(nb a b).natAbs<=b.natAbs:=by
 have e:=congrArg Int.natAbs (@nb_mul a b h)
 rw[Int.natAbs_mul,sd_abs] at e
 have g:=@gcd_pos a b h
 calc (nb a b).natAbs=(nb a b).natAbs*1:=(Nat.mul_one _).symm
  _<=(nb a b).natAbs*Int.gcd a b:=Nat.mul_le_mul_left _ g
  _=b.natAbs:=e
theorem gcd_turn {x y:Int}(hx:0<=x):Int.gcd y (x % y)=Int.gcd x y:=by
 show Nat.gcd y.natAbs (x % y).natAbs=Nat.gcd x.natAbs y.natAbs
 rw[Int.natAbs_emod_of_nonneg hx,Nat.gcd_comm x.natAbs,Nat.gcd_rec y.natAbs x.natAbs,Nat.gcd_comm]
theorem toNat_mod {x y:Int}(hy:0<y):(x % y).toNat<y.toNat:=by
 have h1:=Int.emod_nonneg x (Int.ne_of_gt hy)
 have h2:=Int.emod_lt_of_pos x hy
 omega
theorem abs_if (i:Int):(if i<0 then -i else i)=(i.natAbs:Int):=by
 split <;> omega
def Sm (n:Nat) (a:Int):Prop:=a.natAbs<2 ^ n
theorem Sm.mul {m n:Nat}{a b:Int}(ha:Sm m a) (hb:Sm n b):Sm (m+n) (a*b):=by
 unfold Sm at *
 rw[Int.natAbs_mul,Nat.pow_add]
 exact Nat.mul_lt_mul'' ha hb
theorem Sm.add {n:Nat}{a b:Int}(ha:Sm n a) (hb:Sm n b):Sm (n+1) (a+b):=by
 unfold Sm at *
 rw[Nat.pow_succ]
 omega
theorem Sm.sub {n:Nat}{a b:Int}(ha:Sm n a) (hb:Sm n b):Sm (n+1) (a-b):=by
 unfold Sm at *
 rw[Nat.pow_succ]
 omega
theorem Sm.mono {m n:Nat}{a:Int}(ha:Sm m a) (h:m<=n):Sm n a:=Nat.lt_of_lt_of_le ha (Nat.pow_le_pow_right ⋯ h)
theorem Sm.of_le {n:Nat}{a b:Int}(hb:Sm n b) (h:a.natAbs<=b.natAbs):Sm n a:=Nat.lt_of_le_of_lt h hb
theorem Sm.log2 {n:Nat}{a:Int}(ha:Sm n a) (h:a≠0):a.natAbs.log2<n:=(Nat.log2_lt ∅).mpr ha
theorem gcd_le {a b:Int}(h:b≠0):Int.gcd a b<=b.natAbs:=Int.gcd_le_natAbs_right a h
end FrM
namespace SortL
section
variable {α:Type}{L:α->α->Prop}{T O X Y:List α}
structure Mg (L:α->α->Prop) (T O X Y:List α):Prop where
 perm:(O++(X++Y)).Perm T
 so:O.Pairwise L
 sx:X.Pairwise L
 sy:Y.Pairwise L
 ox:∀ o∈O,∀ x∈X,L o x
 oy:∀ o∈O,∀ y∈Y,L o y
theorem Mg.moveX {S X' O':List α}(h:Mg L T O X Y) (e:X=S++X') (eo:O'=O++S) (hs:∀ s∈S,∀ y∈Y,L s y):Mg L T O' X' Y:=by
 subst e;subst eo
 have hx:=List.pairwise_append.mp h.sx
 refine⟨?_,?_,hx.2.1,h.sy,?_,?_⟩
 ·have:=h.perm
  simpa only [List.append_assoc] using this
 ·exact List.pairwise_append.mpr ⟨h.so,hx.1,fun o ho s hs'=>h.ox o ho s (List.mem_append_left _ hs')⟩
 ·intro o ho x hx'
  rcases List.mem_append.mp ho with ho | ho
  ·exact h.ox o ho x (List.mem_append_right _ hx')
  ·exact hx.2.2 o ho x hx'
 ·intro o ho y hy
  rcases List.mem_append.mp ho with ho | ho
  ·exact h.oy o ho y hy
  ·exact hs o ho y hy
theorem Mg.moveY {S Y' O':List α}(h:Mg L T O X Y) (e:Y=S++Y') (eo:O'=O++S) (hs:∀ s∈S,∀ x∈X,L s x):Mg L T O' X Y':=by
 subst e;subst eo
 have hy:=List.pairwise_append.mp h.sy
 refine⟨?_,?_,h.sx,hy.2.1,?_,?_⟩
 ·refine List.Perm.trans ?_ h.perm
  rw[List.append_assoc]
  refine List.Perm.append_left O ?_
  rw[←List.append_assoc,←List.append_assoc]
  exact List.Perm.append_right Y' List.perm_append_comm
 ·exact List.pairwise_append.mpr ⟨h.so,hy.1,fun o ho s hs'=>h.oy o ho s (List.mem_append_left _ hs')⟩
 ·intro o ho x hx
  rcases List.mem_append.mp ho with ho | ho
  ·exact h.ox o ho x hx
  ·exact hs o ho x hx
 ·intro o ho y hy'
  rcases List.mem_append.mp ho with ho | ho
  ·exact h.oy o ho y (List.mem_append_right _ hy')
  ·exact hy.2.2 o ho y hy'
structure Gd (L:α->α->Prop) (T r:List α):Prop where
 perm:r.Perm T
 srt:r.Pairwise L
theorem Mg.doneX {r:List α}(h:Mg L T O X Y) (e:Y=[]) (er:r=O++X):Gd L T r:=by
 subst e;subst er
 refine⟨?_,List.pairwise_append.mpr ⟨h.so,h.sx,h.ox⟩⟩
 have:=h.perm
 simpa only [List.append_nil] using this
theorem Mg.lastX {r:List α}{z:α}(h:Mg L T O X Y) (e:X=[z]) (hz:∀ y∈Y,L y z) (er:r=O++Y++[z]):Gd L T r:=by
 subst e;subst er
 have h':Mg L T (O++Y) [z] []:=h.moveY (by simp) rfl (fun s hs x hx=>by rw[List.mem_singleton.mp hx];exact hz s hs)
 exact h'.doneX rfl rfl
theorem Gd.rev {r:List α}(h:Gd (fun x y=>L y x) T r.reverse):Gd L T r:=by
 refine⟨(List.reverse_perm r).symm.trans h.perm,?_⟩
 have:=List.pairwise_reverse.mp h.srt
 exact this
end
section
variable {α:Type}{a:Array α}
theorem drop_cons {i:Nat}{p:α}(h:a[i]? = some p):a.toList.drop i=p::a.toList.drop (i+1):=by
 obtain⟨hi,rfl⟩:=Array.getElem?_eq_some_iff.mp h
 rw[List.drop_eq_getElem_cons (by simpa using hi)]
 simp
theorem ext_list (i j:Nat):(a.extract i j).toList=(a.toList.take j).drop i:=by
 rw[Array.toList_extract];simp[List.extract_eq_drop_take,List.drop_take]
theorem drop_seg {i k:Nat}(h:i+k<=a.size):a.toList.drop i=(a.extract i (i+k)).toList++a.toList.drop (i+k):=by
 rw[ext_list,List.drop_take,show i+k-i=k by omega,←List.drop_drop,List.take_append_drop]
theorem ext_end (i:Nat):(a.extract i a.size).toList=a.toList.drop i:=by
 rw[ext_list,←Array.length_toList,List.take_length]
theorem mem_seg {i k:Nat}{x:α}(h:x∈(a.extract i (i+k)).toList):∃ j,j<k/\a[i+j]? = some x:=by
 rw[ext_list,List.drop_take,show i+k-i=k by omega] at h
 obtain⟨j,hj⟩:=List.mem_iff_getElem?.mp h
 rw[List.getElem?_take] at hj
 split at hj
 ·rename_i hlt
  rw[List.getElem?_drop] at hj
  exact⟨j,hlt,by simpa using hj⟩
 ·cases hj
theorem mem_drop {i:Nat}{x:α}(h:x∈a.toList.drop i):∃ j,i<=j/\j<a.size/\a[j]? = some x:=by
 obtain⟨j,hj⟩:=List.mem_iff_getElem?.mp h
 rw[List.getElem?_drop] at hj
 have hj':a[i+j]? = some x:=by simpa using hj
 obtain⟨hi,_⟩:=Array.getElem?_eq_some_iff.mp hj'
 exact⟨i+j,by omega,hi,hj'⟩
theorem mem_take {n:Nat}{x:α}(h:x∈a.toList.take n):∃ j,j<n/\j<a.size/\a[j]? = some x:=by
 obtain⟨j,hj⟩:=List.mem_iff_getElem?.mp h
 rw[List.getElem?_take] at hj
 split at hj
 ·rename_i hlt
  have hj':a[j]? = some x:=by simpa using hj
  obtain⟨hi,_⟩:=Array.getElem?_eq_some_iff.mp hj'
  exact⟨j,hlt,hi,hj'⟩
 ·cases hj
theorem take_rev {n:Nat}{p:α}(h:a[n]? = some p):(a.toList.take (n+1)).reverse=p::(a.toList.take n).reverse:=by
 have h':a.toList[n]? = some p:=by simpa using h
 rw[List.take_succ,h'];simp
theorem take_seg {n k:Nat}(h:k<=n):(a.toList.take n).reverse=(a.extract k n).toList.reverse++(a.toList.take k).reverse:=by
 rw[ext_list,←List.reverse_append,]
 congr 1
 have:=List.take_append_drop k (a.toList.take n)
 rw[List.take_take,Nat.min_eq_left h] at this
 exact this.symm
theorem mem_seg' {k n:Nat}{x:α}(h:x∈(a.extract k n).toList):∃ j,k<=j/\j<n/\a[j]? = some x:=by
 rw[ext_list,List.drop_take] at h
 obtain⟨j,hj⟩:=List.mem_iff_getElem?.mp h
 rw[List.getElem?_take] at hj
 split at hj
 ·rename_i hlt
  rw[List.getElem?_drop] at hj
  exact⟨k+j,by omega,by omega,by simpa using hj⟩
 ·cases hj
end
end SortL
set_option maxHeartbeats 1000000
namespace SortL
open PySem PyProof.Rows
structure Rank (a₀:Array Keyed) (R:Keyed->Nat):Prop where
 lt:∀ (prog:Program) (w:World) (A:Around) (E:Value->Shared->Prop) (s:Shared) (x y:Keyed) {Q:Bool->Shared->Prop},x∈a₀.toList->y∈a₀.toList->Q (decide (R x<R y)) s->wpAny (model prog w) A (oneLt' true x.1 y.1) Q E s
 nodup:(a₀.toList.map R).Nodup
def rk (R:Keyed->Nat) (xs:Array Keyed) (i:Nat):Nat:=match xs[i]? with
 | some p=>R p
 | none=>0
structure Bs (a₀:Array Keyed) (st:SortSt):Prop where
 perm:(arrOf st).Perm a₀
 kind:kindOf st=oneType'
 failed:failedOf st=none
def Inc (R:Keyed->Nat) (xs:Array Keyed) (i j:Nat):Prop:=∀ k l,i<=k->k<l->l<j->rk R xs k<rk R xs l
def Dec (R:Keyed->Nat) (xs:Array Keyed) (i j:Nat):Prop:=∀ k l,i<=k->k<l->l<j->rk R xs l<rk R xs k
section
variable {prog:Program}{w:World}{A:Around}{E:Value->Shared->Prop}{s:Shared}{a₀:Array Keyed}{R:Keyed->Nat}
theorem Bs.size {st:SortSt}(h:Bs a₀ st):(arrOf st).size=a₀.size:=h.perm.size_eq
theorem rk_some {xs:Array Keyed}{i:Nat}{p:Keyed}(h:xs[i]? = some p):rk R xs i=R p:=by unfold rk;rw[h]
theorem rk_congr {xs ys:Array Keyed}{i j:Nat}(h:xs[i]? = ys[j]?):rk R xs i=rk R ys j:=by unfold rk;rw[h]
theorem perm_at {xs:Array Keyed}(hp:xs.Perm a₀) {i:Nat}(hi:i<a₀.size):∃ p,xs[i]? = some p/\p∈a₀.toList/\rk R xs i=R p:=by
 have hi':i<xs.size:=by rw[hp.size_eq];exact hi
 have e:xs[i]? = some xs[i]:=getElem?_pos _ i hi'
 exact⟨xs[i],e,(Array.perm_iff_toList_perm.mp hp).mem_iff.mp (by simp),rk_some e⟩
theorem perm_ne (O:Rank a₀ R) {xs:Array Keyed}(hp:xs.Perm a₀) {i j:Nat}(hi:i<a₀.size) (hj:j<a₀.size) (hij:i≠j):rk R xs i≠rk R xs j:=by
 have hn:(xs.toList.map R).Nodup:=((Array.perm_iff_toList_perm.mp hp).map R).nodup_iff.mpr O.nodup
 have hi':i<xs.size:=by rw[hp.size_eq];exact hi
 have hj':j<xs.size:=by rw[hp.size_eq];exact hj
 rw[rk_some (getElem?_pos xs i hi'),rk_some (getElem?_pos xs j hj')]
 have key:∀ u v (hu:u<xs.size) (hv:v<xs.size),u<v->R xs[u]≠R xs[v]:=fun u v hu hv huv=>by
  have:=List.pairwise_iff_getElem.mp hn u v (by simpa using hu) (by simpa using hv) huv
  simpa using this
 rcases Nat.lt_or_gt_of_ne hij with h | h
 ·exact key i j hi' hj' h
 ·exact (key j i hj' hi' h).symm
theorem wpS_lift0 {σ α:Type}{m:Sem α}{Q:α->σ->Prop}{st:σ}{M:Model}(h:wpAny M A m (fun a s'=>s'=s/\Q a st) E s):wpS M A E s (liftM m:StateT σ Sem α) Q st:=wpS_lift h
theorem wpS_ltF {st:SortSt}{x y:Keyed}{Q:Option Bool->SortSt->Prop}(O:Rank a₀ R) (hk:kindOf st=oneType') (hx:x∈a₀.toList) (hy:y∈a₀.toList)
  (h:Q (some (decide (R x<R y))) st):wpS (model prog w) A E s (lt' x y) Q st:=by
 rw[lt'_eq]
 refine wpS_bind (wpS_get ?_)
 rw[hk,keyLt'_oneType]
 exact wpS_bind (wpS_lift0 (wpAny_attempt (O.lt prog w A _ s x y hx hy ⟨rfl,wpS_pure h⟩)))
theorem wpS_elemF {st:SortSt}{xs:Array Keyed}{i:Nat}{p:Keyed}{Q:Keyed->SortSt->Prop}(e:xs[i]? = some p) (h:Q p st):wpS (model prog w) A E s (elem' xs i) Q st:=by
 rw[elem'_eq,e];exact wpS_pure h
theorem wpS_ltAtF {st:SortSt}{i j:Nat}{Q:Option Bool->SortSt->Prop}(O:Rank a₀ R) (B:Bs a₀ st) (hi:i<a₀.size) (hj:j<a₀.size)
  (h:Q (some (decide (rk R (arrOf st) i<rk R (arrOf st) j))) st):wpS (model prog w) A E s (ltAt' i j) Q st:=by
 obtain⟨p,e1,m1,k1⟩:=perm_at (R:=R) B.perm hi
 obtain⟨q,e2,m2,k2⟩:=perm_at (R:=R) B.perm hj
 rw[k1,k2] at h
 rw[ltAt'_eq]
 refine wpS_bind (wpS_get (wpS_bind (wpS_elemF e1 (wpS_bind (wpS_elemF e2 (wpS_ltF O B.kind m1 m2 h))))))
theorem Bs.arr {st:SortSt}(h:Bs a₀ st) {xs:Array Keyed}(hp:xs.Perm (arrOf st)):Bs a₀ (setArr st xs):=⟨hp.trans h.perm,h.kind,h.failed⟩
theorem rk_mirror {xs:Array Keyed}{i j:Nat}(hj:j<=xs.size) (k:Nat) :
  rk R (mirror xs i j ((j-i) / 2)) k=if i<=k/\k<j then rk R xs (i+j-1-k) else rk R xs k:=by
 have e:=getElem?_mirror_all (i:=i) hj k
 split <;> rename_i hc <;> simp only[hc,and_self,if_true,if_false] at e <;> exact rk_congr e
theorem rk_bubble {xs:Array Keyed}{src d:Nat}(hs:src<xs.size) (hd:d<=src) (k:Nat) :
  rk R (bubble xs src d) k=if k=src-d then rk R xs src else if src-d<k/\k<=src then rk R xs (k-1) else rk R xs k:=by
 have e:=getElem?_bubble hs d hd k
 split
 ·rename_i hc;rw[if_pos hc] at e;exact rk_congr e
 ·rename_i hc;rw[if_neg hc] at e
  split
  ·rename_i hd;rw[if_pos hd] at e;exact rk_congr e
  ·rename_i hd;rw[if_neg hd] at e;exact rk_congr e
structure Kept (R:Keyed->Nat) (lo:Nat) (st st':SortSt):Prop where
 pend:pendingOf st'=pendingOf st
 front:∀ i,i<lo->rk R (arrOf st') i=rk R (arrOf st) i
theorem Kept.rfl {lo:Nat}{st:SortSt}:Kept R lo st st:=⟨Eq.refl _,fun _ _=>Eq.refl _⟩
def ascF (lo a nrem:Nat):StateT SortSt Sem (Option (Option Nat)×Nat):=
 forIn [a:nrem] ((none,a):Option (Option Nat)×Nat) fun _ c=>do
  let r←ltAt' (lo+c.2) (lo+c.2-1)
  match r with
  | some b=>if b=true then pure (ForInStep.done (none,c.2)) else pure (ForInStep.yield (none,c.2+1))
  | _=>pure (ForInStep.done (some none,c.2))
theorem wpS_asc {st:SortSt}{lo a nrem:Nat}{Q:Option (Option Nat)×Nat->SortSt->Prop}(O:Rank a₀ R) (B:Bs a₀ st) (hn:lo+nrem<=a₀.size) (ha:1<=a) (han:a<=nrem)
  (hs:Inc R (arrOf st) lo (lo+a)) (h:∀ n,a<=n->n<=nrem->Inc R (arrOf st) lo (lo+n)->(n=nrem\/rk R (arrOf st) (lo+n)<rk R (arrOf st) (lo+n-1))->Q (none,n) st) :
  wpS (model prog w) A E s (ascF lo a nrem) Q st:=by
 unfold ascF
 refine wpS_forRange (I:=fun x c st'=>st'=st/\c=(none,x)/\Inc R (arrOf st) lo (lo+x)) ?step ?fin ⟨rfl,rfl,hs⟩
 case fin=>
  rintro c st' ⟨rfl,rfl,hs'⟩
  rw[show max a nrem=nrem by lia] at hs' ⊢
  exact h nrem han (Nat.le_refl _) hs' (.inl rfl)
 case step=>
  rintro x c st' hax hxn ⟨rfl,rfl,hs'⟩
  refine wpS_bind (wpS_ltAtF O B (by first | lia | (simp only;lia)) (by first | lia | (simp only;lia)) ?_)
  by_cases hl:rk R (arrOf st') (lo+x)<rk R (arrOf st') (lo+x-1)
  ·simp only[hl,decide_true,if_true]
   exact wpS_pure (h x hax (by lia) hs' (.inr hl))
  ·simp only[hl,decide_false,Bool.false_eq_true,if_false]
   refine wpS_pure ⟨rfl,rfl,fun k l h1 h2 h3=>?_⟩
   have hne:=perm_ne O B.perm (i:=lo+x) (j:=lo+x-1) (by lia) (by lia) (by lia)
   by_cases hl2:l<lo+x
   ·exact hs' k l h1 h2 hl2
   ·have:l=lo+x:=by lia
    subst this
    by_cases hk:k=lo+x-1
    ·subst hk;lia
    ·have:=hs' k (lo+x-1) h1 (by lia) (by lia);lia
def descF (lo n nrem:Nat):StateT SortSt Sem (Option (Option Nat)×Nat×Nat):=
 forIn [n:nrem] ((none,n,0):Option (Option Nat)×Nat×Nat) fun _ c=>do
  let r←ltAt' (lo+c.2.1) (lo+c.2.1-1)
  match r with
  | some b=>
   if b=true then
    if c.2.2>0 then do
     reverseSlice' (lo+c.2.1-(c.2.2+1)) (lo+c.2.1)
     pure (ForInStep.yield (none,c.2.1+1,0))
    else pure (ForInStep.yield (none,c.2.1+1,0))
   else do
    let q←ltAt' (lo+c.2.1-1) (lo+c.2.1)
    match q with
    | some g=>if g=true then pure (ForInStep.done (none,c.2.1,c.2.2)) else pure (ForInStep.yield (none,c.2.1+1,c.2.2+1))
    | _=>pure (ForInStep.done (some none,c.2.1,c.2.2))
  | _=>pure (ForInStep.done (some none,c.2.1,c.2.2))
theorem wpS_desc {st:SortSt}{lo a nrem:Nat}{Q:Option (Option Nat)×Nat×Nat->SortSt->Prop}(O:Rank a₀ R) (B:Bs a₀ st) (hn:lo+nrem<=a₀.size) (ha:1<=a) (han:a<=nrem)
  (hs:Dec R (arrOf st) lo (lo+a)) (h:∀ n,a<=n->n<=nrem->Dec R (arrOf st) lo (lo+n)->Q (none,n,0) st) :
  wpS (model prog w) A E s (descF lo a nrem) Q st:=by
 unfold descF
 refine wpS_forRange (I:=fun x c st'=>st'=st/\c=(none,x,0)/\Dec R (arrOf st) lo (lo+x)) ?step ?fin ⟨rfl,rfl,hs⟩
 case fin=>
  rintro c st' ⟨rfl,rfl,hs'⟩
  rw[show max a nrem=nrem by lia] at hs' ⊢
  exact h nrem han (Nat.le_refl _) hs'
 case step=>
  rintro x c st' hax hxn ⟨rfl,rfl,hs'⟩
  refine wpS_bind (wpS_ltAtF O B (by first | lia | (simp only;lia)) (by first | lia | (simp only;lia)) ?_)
  have hne:=perm_ne O B.perm (i:=lo+x) (j:=lo+x-1) (by lia) (by lia) (by lia)
  by_cases hl:rk R (arrOf st') (lo+x)<rk R (arrOf st') (lo+x-1)
  ·simp only[hl,decide_true,if_true,Nat.lt_irrefl,gt_iff_lt,if_false]
   refine wpS_pure ⟨rfl,rfl,fun k l h1 h2 h3=>?_⟩
   by_cases hl2:l<lo+x
   ·exact hs' k l h1 h2 hl2
   ·have:l=lo+x:=by lia
    subst this
    by_cases hk:k=lo+x-1
    ·subst hk;lia
    ·have:=hs' k (lo+x-1) h1 (by lia) (by lia);lia
  ·simp only[hl,decide_false,Bool.false_eq_true,if_false]
   refine wpS_bind (wpS_ltAtF O B (by first | lia | (simp only;lia)) (by first | lia | (simp only;lia)) ?_)
   have hg:rk R (arrOf st') (lo+x-1)<rk R (arrOf st') (lo+x):=by lia
   simp only[hg,decide_true,if_true]
   exact wpS_pure (h x hax (by lia) hs')
theorem wpS_countRunF {st:SortSt}{lo nrem:Nat}{Q:Option Nat->SortSt->Prop}(O:Rank a₀ R) (B:Bs a₀ st) (hn:lo+nrem<=a₀.size) (h1:1<=nrem)
  (h:∀ m st',Bs a₀ st'->Kept R lo st st'->1<=m->m<=nrem->Inc R (arrOf st') lo (lo+m)->Q (some m) st') :
  wpS (model prog w) A E s (countRun' lo nrem) Q st:=by
 unfold countRun'
 refine wpS_bind (wpS_asc (lo:=lo) (a:=1) (nrem:=nrem) O B hn (Nat.le_refl 1) h1 (fun k l a b c=>by lia) fun n hn1 hn2 hs hor=>?_)
 dsimp only
 by_cases hnn:n=nrem
 ·rw[if_pos (by simpa using hnn)]
  exact wpS_pure (h n st B Kept.rfl hn1 hn2 hs)
 ·rw[if_neg (by simpa using hnn)]
  have hlt:=hor.resolve_left hnn
  by_cases hgt:n>1
  ·rw[if_pos hgt]
   refine wpS_bind (wpS_ltAtF O B (by lia) (by lia) ?_)
   have:=hs lo (lo+n-1) (Nat.le_refl _) (by lia) (by lia)
   simp only[this,decide_true,if_true]
   exact wpS_pure (h n st B Kept.rfl hn1 hn2 hs)
  ·rw[if_neg hgt]
   have:n=1:=by lia
   subst this
   refine wpS_bind (wpS_lift0 (wpAny_rule ⟨rfl,?_⟩))
   refine wpS_bind (wpS_desc (lo:=lo) (a:=1+1) (nrem:=nrem) O B hn (by lia) (by lia) ?_ fun m hm1 hm2 hd=>?_)
   ·intro k l a b c
    have e1:k=lo:=by lia
    have e2:l=lo+1:=by lia
    subst e1;subst e2
    exact hlt
   ·dsimp only
    rw[if_neg (by lia)]
    have hsz:lo+m<=(arrOf st).size:=by rw[B.size];lia
    have B':Bs a₀ (setArr st (mirror (arrOf st) lo (lo+m) ((lo+m-lo) / 2))):=B.arr (mirror_perm _ _ _ _)
    show wpS _ _ _ _ (bind (reverseSlice' lo (lo+m)) _) _ _
    rw[reverseSlice'_eq]
    refine wpS_bind (wpS_modify ?_)
    refine wpS_bind (wpS_asc (lo:=lo) (a:=m) (nrem:=nrem) O B' hn (by lia) hm2 ?_ fun q hq1 hq2 hsq _=>?_)
    ·intro k l a b c
     show rk R (mirror (arrOf st) _ _ _) _<rk R (mirror (arrOf st) _ _ _) _
     rw[rk_mirror hsz,rk_mirror hsz,if_pos (by lia),if_pos (by lia)]
     exact hd _ _ (by lia) (by lia) (by lia)
    ·dsimp only
     refine wpS_pure (h q _ B' ⟨rfl,fun i hi=>?_⟩ (by lia) hq2 hsq)
     show rk R (mirror (arrOf st) _ _ _) _=_
     rw[rk_mirror hsz,if_neg (by lia)]
theorem wpS_binaryF {st:SortSt}{lo n ok:Nat}{Q:Bool->SortSt->Prop}(O:Rank a₀ R) (B:Bs a₀ st) (hn:lo+n<=a₀.size) (h1:1<=ok) (hok:ok<=n)
  (hs:Inc R (arrOf st) lo (lo+ok)) (h:∀ st',Bs a₀ st'->Kept R lo st st'->Inc R (arrOf st') lo (lo+n)->Q true st') :
  wpS (model prog w) A E s (binarySort' lo n ok) Q st:=by
 unfold binarySort'
 refine wpS_bind (wpS_mono (wpS_forRange (I:=fun k c st'=>c=(none,())/\Bs a₀ st'/\Kept R lo st st'/\Inc R (arrOf st') lo (lo+k))
  (Q:=fun c st'=>c=(none,())/\Bs a₀ st'/\Kept R lo st st'/\Inc R (arrOf st') lo (lo+n)) ?step ?fin ?init) ?post)
 case post=>
  rintro c st' ⟨rfl,B',K',hs'⟩
  exact wpS_pure (h st' B' K' hs')
 case init=>
  rw[show max ok 1=ok by lia]
  exact⟨rfl,B,Kept.rfl,hs⟩
 case fin=>
  rintro c st' ⟨hc,B',K',hs'⟩
  rw[show max (max ok 1) n=n by lia] at hs'
  exact⟨hc,B',K',hs'⟩
 case step=>
  rintro k c st' hak hkn ⟨rfl,B',K',hs'⟩
  have hk:lo+k<a₀.size:=by lia
  refine wpS_bind (wpS_mono (wpS_forRange (I:=fun x c st''=>st''=st'/\∃ l r,c=(none,l,r)/\l<=r/\r<=k/\r-l<=k-x /\
    (∀ i,i<l->rk R (arrOf st') (lo+i)<rk R (arrOf st') (lo+k))/\(∀ i,r<=i->i<k->rk R (arrOf st') (lo+k)<rk R (arrOf st') (lo+i)))
   (Q:=fun c st''=>st''=st'/\∃ l r,c=(none,l,r)/\l<=k /\
    (∀ i,i<l->rk R (arrOf st') (lo+i)<rk R (arrOf st') (lo+k))/\(∀ i,l<=i->i<k->rk R (arrOf st') (lo+k)<rk R (arrOf st') (lo+i))) ?istep ?ifin ?iinit) ?ipost)
  case iinit=>exact⟨rfl,0,k,rfl,by lia,by lia,by lia,fun i hi=>by lia,fun i h1 h2=>by lia⟩
  case ifin=>
   rintro c st'' ⟨rfl,l,r,rfl,hlr,hrk,hm,hlo,hhi⟩
   have:l=r:=by lia
   subst this
   exact⟨rfl,l,l,rfl,hrk,hlo,hhi⟩
  case istep=>
   rintro x c st'' _ hxk ⟨rfl,l,r,rfl,hlr,hrk,hm,hlo,hhi⟩
   dsimp only
   by_cases hge:l ≥ r
   ·rw[if_pos hge]
    have:l=r:=by lia
    subst this
    exact wpS_pure ⟨rfl,l,l,rfl,hrk,hlo,hhi⟩
   ·rw[if_neg hge]
    refine wpS_bind (wpS_ltAtF O B' hk (by lia) ?_)
    have hne:=perm_ne O B'.perm (i:=lo+k) (j:=lo+(l+r) / 2) (by lia) (by lia) (by lia)
    by_cases hl:rk R (arrOf st'') (lo+k)<rk R (arrOf st'') (lo+(l+r) / 2)
    ·simp only[hl,decide_true,if_true]
     refine wpS_pure ⟨rfl,l,(l+r) / 2,rfl,by lia,by lia,by lia,hlo,fun i h1 h2=>?_⟩
     by_cases e:i=(l+r) / 2
     ·subst e;exact hl
     ·have:=hs' (lo+(l+r) / 2) (lo+i) (by lia) (by lia) (by lia);lia
    ·simp only[hl,decide_false,Bool.false_eq_true,if_false]
     refine wpS_pure ⟨rfl,(l+r) / 2+1,r,rfl,by lia,by lia,by lia,fun i h1=>?_,hhi⟩
     by_cases e:i=(l+r) / 2
     ·subst e;lia
     ·have:=hs' (lo+i) (lo+(l+r) / 2) (by lia) (by lia) (by lia);lia
  case ipost=>
   rintro c st'' ⟨rfl,l,r,rfl,hlk,hlo,hhi⟩
   show wpS _ _ _ _ (bind (moveDown' (lo+k) (lo+l)) _) _ _
   rw[moveDown'_eq]
   have hks:lo+k<(arrOf st'').size:=by rw[B'.size];exact hk
   refine wpS_bind (wpS_modify (wpS_pure ⟨rfl,B'.arr (bubble_perm _ _ _),⟨K'.pend,fun i hi=>?_⟩,?_⟩))
   ·show rk R (bubble (arrOf st'') _ _) _=_
    rw[rk_bubble hks (by lia),if_neg (by lia),if_neg (by lia)]
    exact K'.front i hi
   ·intro i j h1 h2 h3
    show rk R (bubble (arrOf st'') _ _) i<rk R (bubble (arrOf st'') _ _) j
    rw[rk_bubble hks (by lia),rk_bubble hks (by lia)]
    rw[show lo+k-(lo+k-(lo+l))=lo+l by lia]
    have e1:∀ i,lo<=i->i<lo+l->rk R (arrOf st'') i<rk R (arrOf st'') (lo+k):=fun i a b=>by
     have:=hlo (i-lo) (by lia);rwa [show lo+(i-lo)=i by lia] at this
    have e2:∀ i,lo+l<=i->i<lo+k->rk R (arrOf st'') (lo+k)<rk R (arrOf st'') i:=fun i a b=>by
     have:=hhi (i-lo) (by lia) (by lia);rwa [show lo+(i-lo)=i by lia] at this
    repeat' split
    all_goals first
     | (exfalso;lia)
     | exact e1 _ (by lia) (by lia)
     | exact e2 _ (by lia) (by lia)
     | exact hs' _ _ (by lia) (by lia) (by lia)
end
end SortL
set_option maxHeartbeats 1000000
namespace SortL
open PySem PyProof.Rows
def gallopF:Bool->Keyed->Array Keyed->Nat->Nat->Nat->StateT SortSt Sem (Option Nat):=sortPriv% PySem.Builtin.gallop
section
variable {prog:Program}{w:World}{A:Around}{E:Value->Shared->Prop}{s:Shared}{a₀:Array Keyed}{R:Keyed->Nat}
def beyF (left:Bool) (key:Keyed) (arr:Array Keyed) (base i:Nat):StateT SortSt Sem (Option Bool):=do
 let x←elem' arr (base+i)
 if left=true then lt' x key else do
  let r←lt' key x
  pure (Option.map (fun b=>!b) r)
structure Gal (a₀:Array Keyed) (R:Keyed->Nat) (key:Keyed) (arr:Array Keyed) (base n:Nat):Prop where
 inn:key∈a₀.toList
 at_:∀ i,i<n->∃ p,arr[base+i]? = some p/\p∈a₀.toList
 inc:∀ i j,i<j->j<n->rk R arr (base+i)<rk R arr (base+j)
 ne:∀ i,i<n->rk R arr (base+i)≠R key
theorem wpS_bey {st:SortSt}{left:Bool}{key:Keyed}{arr:Array Keyed}{base n i:Nat}{Q:Option Bool->SortSt->Prop}(O:Rank a₀ R) (hk:kindOf st=oneType') (G:Gal a₀ R key arr base n) (hi:i<n)
  (h:Q (some (decide (rk R arr (base+i)<R key))) st):wpS (model prog w) A E s (beyF left key arr base i) Q st:=by
 obtain⟨p,e,hp⟩:=G.at_ i hi
 have hne:=G.ne i hi
 rw[rk_some e] at h hne
 unfold beyF
 refine wpS_bind (wpS_elemF e ?_)
 cases left with
 | true=>
  rw[if_pos rfl]
  exact wpS_ltF O hk hp G.inn h
 | false=>
  rw[if_neg (by simp)]
  refine wpS_bind (wpS_ltF O hk G.inn hp (wpS_pure ?_))
  have:(Option.map (fun b=>!b) (some (decide (R key<R p))))=some (decide (R p<R key)):=by
   simp only[Option.map_some,Option.some.injEq]
   by_cases hc:R key<R p
   ·rw[decide_eq_true hc,decide_eq_false (by lia)];rfl
   ·rw[decide_eq_false hc,decide_eq_true (by lia)];rfl
  rw[this];exact h
theorem wpS_gallopF {st:SortSt}{left:Bool}{key:Keyed}{arr:Array Keyed}{base n hint:Nat}{Q:Option Nat->SortSt->Prop}(O:Rank a₀ R) (hk:kindOf st=oneType') (G:Gal a₀ R key arr base n) (hh:hint<n)
  (h:∀ k,k<=n->(∀ i,i<k->rk R arr (base+i)<R key)->(∀ i,k<=i->i<n->R key<rk R arr (base+i))->Q (some k) st) :
  wpS (model prog w) A E s (gallopF left key arr base n hint) Q st:=by
 have up:∀ i j,i<=j->j<n->rk R arr (base+j)<R key->rk R arr (base+i)<R key:=fun i j a b c=>by
  rcases Nat.lt_or_eq_of_le a with a | rfl
  ·have:=G.inc i j a b;lia
  ·exact c
 have dn:∀ i j,i<=j->j<n->¬rk R arr (base+i)<R key->R key<rk R arr (base+j):=fun i j a b c=>by
  have:=G.ne i (by lia)
  rcases Nat.lt_or_eq_of_le a with a | rfl
  ·have:=G.inc i j a b;lia
  ·lia
 unfold gallopF
 refine wpS_bind (wpS_bey (left:=left) (i:=hint) O hk G hh ?_)
 by_cases hr:rk R arr (base+hint)<R key
 ·simp only[hr,decide_true,if_true]
  refine wpS_bind (wpS_mono (wpS_forRange (I:=fun x c st'=>st'=st/\∃ l o,c=(none,l,o)/\l<o/\x+1<=o/\hint+l<n/\rk R arr (base+(hint+l))<R key)
   (Q:=fun c st'=>st'=st/\∃ l o,c=(none,l,o)/\l<o/\hint+l<n/\rk R arr (base+(hint+l))<R key/\(n-hint<=o\/(hint+o<n/\¬rk R arr (base+(hint+o))<R key))) ?step ?fin ?init) ?post)
  case init=>exact⟨rfl,0,1,rfl,by lia,by lia,hh,hr⟩
  case fin=>
   rintro c st' ⟨rfl,l,o,rfl,a1,a2,a3,a4⟩
   exact⟨rfl,l,o,rfl,a1,a3,a4,.inl (by lia)⟩
  case step=>
   rintro x c st' _ hx ⟨rfl,l,o,rfl,a1,a2,a3,a4⟩
   dsimp only
   by_cases hge:o ≥ n-hint
   ·rw[if_pos hge]
    exact wpS_pure ⟨rfl,l,o,rfl,a1,a3,a4,.inl hge⟩
   ·rw[if_neg hge]
    refine wpS_bind (wpS_bey (left:=left) (i:=hint+o) O hk G (by lia) ?_)
    by_cases hl:rk R arr (base+(hint+o))<R key
    ·simp only[hl,decide_true,Bool.not_true,Bool.false_eq_true,if_false]
     exact wpS_pure ⟨rfl,_,_,rfl,by lia,by lia,by lia,hl⟩
    ·simp only[hl,decide_false,Bool.not_false,if_true]
     exact wpS_pure ⟨rfl,l,o,rfl,a1,a3,a4,.inr ⟨by lia,hl⟩⟩
  case post=>
   rintro c st1 ⟨rfl,l,o,rfl,a1,a3,a4,a5⟩
   dsimp only
   have TT:hint+l+1<=hint+min o (n-hint)/\hint+min o (n-hint)<=n/\(∀ i,i<hint+l+1->rk R arr (base+i)<R key)/\(∀ i,hint+min o (n-hint)<=i->i<n->R key<rk R arr (base+i)):=by
    refine⟨by lia,by lia,fun i hi=>up i (hint+l) (by lia) a3 a4,fun i h1 h2=>?_⟩
    rcases a5 with a5 | ⟨a5,a6⟩
    ·lia
    ·exact dn (hint+o) i (by lia) h2 a6
   generalize hint+l+1=lo,hint+min o (n-hint)=hi at TT ⊢
   obtain⟨t1,t2,t3,t4⟩:=TT
   refine wpS_bind (wpS_mono (wpS_forRange (I:=fun x c st'=>st'=st1/\∃ l r,c=(none,l,r)/\l<=r/\r<=n/\r-l<=n-x/\(∀ i,i<l->rk R arr (base+i)<R key)/\(∀ i,r<=i->i<n->R key<rk R arr (base+i)))
    (Q:=fun c st'=>st'=st1/\∃ r,c=(none,r,r)/\r<=n/\(∀ i,i<r->rk R arr (base+i)<R key)/\(∀ i,r<=i->i<n->R key<rk R arr (base+i))) ?tstep ?tfin ⟨rfl,lo,hi,rfl,t1,t2,by lia,t3,t4⟩) ?tpost)
   case tfin=>
    rintro c st' ⟨rfl,l,r,rfl,a1,a2,a3,a4,a5⟩
    have:l=r:=by lia
    subst this
    exact⟨rfl,l,rfl,a2,a4,a5⟩
   case tpost=>
    rintro c st' ⟨rfl,r,rfl,a2,a4,a5⟩
    exact wpS_pure (h r a2 a4 a5)
   case tstep=>
    rintro x c st' _ hx ⟨rfl,l,r,rfl,a1,a2,a3,a4,a5⟩
    dsimp only
    by_cases hge:l ≥ r
    ·rw[if_pos hge]
     have:l=r:=by lia
     subst this
     exact wpS_pure ⟨rfl,l,rfl,a2,a4,a5⟩
    ·rw[if_neg hge]
     refine wpS_bind (wpS_bey (left:=left) (i:=l+(r-l) / 2) O hk G (by lia) ?_)
     by_cases hl:rk R arr (base+(l+(r-l) / 2))<R key
     ·simp only[hl,decide_true,if_true]
      exact wpS_pure ⟨rfl,_,_,rfl,by lia,by lia,by lia,fun i hi=>up i _ (by lia) (by lia) hl,a5⟩
     ·simp only[hl,decide_false,Bool.false_eq_true,if_false]
      exact wpS_pure ⟨rfl,_,_,rfl,by lia,by lia,by lia,a4,fun i h1 h2=>dn _ i h1 h2 hl⟩
 ·simp only[hr,decide_false,Bool.false_eq_true,if_false]
  refine wpS_bind (wpS_mono (wpS_forRange (I:=fun x c st'=>st'=st/\∃ l o,c=(none,l,o)/\l<o/\x+1<=o/\l<=hint/\¬rk R arr (base+(hint-l))<R key)
   (Q:=fun c st'=>st'=st/\∃ l o,c=(none,l,o)/\l<o/\l<=hint/\¬rk R arr (base+(hint-l))<R key/\(hint+1<=o\/(o<=hint/\rk R arr (base+(hint-o))<R key))) ?step ?fin ?init) ?post)
  case init=>exact⟨rfl,0,1,rfl,by lia,by lia,by lia,hr⟩
  case fin=>
   rintro c st' ⟨rfl,l,o,rfl,a1,a2,a3,a4⟩
   exact⟨rfl,l,o,rfl,a1,a3,a4,.inl (by lia)⟩
  case step=>
   rintro x c st' _ hx ⟨rfl,l,o,rfl,a1,a2,a3,a4⟩
   dsimp only
   by_cases hge:o ≥ hint+1
   ·rw[if_pos hge]
    exact wpS_pure ⟨rfl,l,o,rfl,a1,a3,a4,.inl hge⟩
   ·rw[if_neg hge]
    refine wpS_bind (wpS_bey (left:=left) (i:=hint-o) O hk G (by lia) ?_)
    by_cases hl:rk R arr (base+(hint-o))<R key
    ·simp only[hl,decide_true,if_true]
     exact wpS_pure ⟨rfl,l,o,rfl,a1,a3,a4,.inr ⟨by lia,hl⟩⟩
    ·simp only[hl,decide_false,Bool.false_eq_true,if_false]
     exact wpS_pure ⟨rfl,_,_,rfl,by lia,by lia,by lia,hl⟩
  case post=>
   rintro c st1 ⟨rfl,l,o,rfl,a1,a3,a4,a5⟩
   dsimp only
   have TT:hint+1-min o (hint+1)<=hint-l/\hint-l<=n/\(∀ i,i<hint+1-min o (hint+1)->rk R arr (base+i)<R key)/\(∀ i,hint-l<=i->i<n->R key<rk R arr (base+i)):=by
    refine⟨by lia,by lia,fun i hi=>?_,fun i h1 h2=>dn (hint-l) i (by lia) h2 a4⟩
    rcases a5 with a5 | ⟨a5,a6⟩
    ·lia
    ·exact up i (hint-o) (by lia) (by lia) a6
   generalize hint+1-min o (hint+1)=lo,hint-l=hi at TT ⊢
   obtain⟨t1,t2,t3,t4⟩:=TT
   refine wpS_bind (wpS_mono (wpS_forRange (I:=fun x c st'=>st'=st1/\∃ l r,c=(none,l,r)/\l<=r/\r<=n/\r-l<=n-x/\(∀ i,i<l->rk R arr (base+i)<R key)/\(∀ i,r<=i->i<n->R key<rk R arr (base+i)))
    (Q:=fun c st'=>st'=st1/\∃ r,c=(none,r,r)/\r<=n/\(∀ i,i<r->rk R arr (base+i)<R key)/\(∀ i,r<=i->i<n->R key<rk R arr (base+i))) ?tstep ?tfin ⟨rfl,lo,hi,rfl,t1,t2,by lia,t3,t4⟩) ?tpost)
   case tfin=>
    rintro c st' ⟨rfl,l,r,rfl,a1,a2,a3,a4,a5⟩
    have:l=r:=by lia
    subst this
    exact⟨rfl,l,rfl,a2,a4,a5⟩
   case tpost=>
    rintro c st' ⟨rfl,r,rfl,a2,a4,a5⟩
    exact wpS_pure (h r a2 a4 a5)
   case tstep=>
    rintro x c st' _ hx ⟨rfl,l,r,rfl,a1,a2,a3,a4,a5⟩
    dsimp only
    by_cases hge:l ≥ r
    ·rw[if_pos hge]
     have:l=r:=by lia
     subst this
     exact wpS_pure ⟨rfl,l,rfl,a2,a4,a5⟩
    ·rw[if_neg hge]
     refine wpS_bind (wpS_bey (left:=left) (i:=l+(r-l) / 2) O hk G (by lia) ?_)
     by_cases hl:rk R arr (base+(l+(r-l) / 2))<R key
     ·simp only[hl,decide_true,if_true]
      exact wpS_pure ⟨rfl,_,_,rfl,by lia,by lia,by lia,fun i hi=>up i _ (by lia) (by lia) hl,a5⟩
     ·simp only[hl,decide_false,Bool.false_eq_true,if_false]
      exact wpS_pure ⟨rfl,_,_,rfl,by lia,by lia,by lia,a4,fun i h1 h2=>dn _ i h1 h2 hl⟩
end
end SortL
set_option maxHeartbeats 1000000
namespace SortL
open PySem PyProof.Rows
def mergeLoF:Array Keyed->Array Keyed->StateT SortSt Sem (Array Keyed):=sortPriv% PySem.Builtin.mergeLo
def setMGF:Nat->StateT SortSt Sem Unit:=sortPriv% PySem.Builtin.setMinGallop
abbrev setGal (st:SortSt) (g:Nat):SortSt:=SortSt.mk' (kindOf st) (arrOf st) (pendingOf st) g (failedOf st)
structure Sg (st st':SortSt):Prop where
 kind:kindOf st'=kindOf st
 arr:arrOf st'=arrOf st
 pend:pendingOf st'=pendingOf st
 fail:failedOf st'=failedOf st
theorem Sg.rfl {st:SortSt}:Sg st st:=⟨Eq.refl _,Eq.refl _,Eq.refl _,Eq.refl _⟩
theorem Sg.gal {st st':SortSt}(h:Sg st st') (g:Nat):Sg st (setGal st' g):=⟨h.kind,h.arr,h.pend,h.fail⟩
section
variable {prog:Program}{w:World}{A:Around}{E:Value->Shared->Prop}{s:Shared}{a₀:Array Keyed}{R:Keyed->Nat}{a b:Array Keyed}
theorem wpS_setMG {st:SortSt}{g:Nat}{Q:Unit->SortSt->Prop}(h:Q () (setGal st g)):wpS (model prog w) A E s (setMGF g) Q st:=by
 unfold setMGF;exact wpS_modify h
structure Two (a₀:Array Keyed) (R:Keyed->Nat) (a b:Array Keyed):Prop where
 ina:∀ p∈a.toList,p∈a₀.toList
 inb:∀ p∈b.toList,p∈a₀.toList
 pa:a.toList.Pairwise (fun x y=>R x<R y)
 pb:b.toList.Pairwise (fun x y=>R x<R y)
 ne:∀ p∈a.toList,∀ q∈b.toList,R p≠R q
 first:∀ y,b[0]? = some y->∀ p∈a.toList,R y<R p
 last:∀ z,a[a.size-1]? = some z->∀ q∈b.toList,R q<R z
 na:0<a.size
 nb:0<b.size
theorem mem_at {a:Array Keyed}{i:Nat}{p:Keyed}(h:a[i]? = some p):p∈a.toList:=by
 obtain⟨hi,rfl⟩:=Array.getElem?_eq_some_iff.mp h
 simp
theorem Two.galA (T:Two a₀ R a b) {key:Keyed}(hk:key∈b.toList) {base n:Nat}(h:base+n<=a.size):Gal a₀ R key a base n where
 inn:=T.inb _ hk
 at_:=fun i hi=>⟨a[base+i],getElem?_pos _ _ (by lia),T.ina _ (by simp)⟩
 inc:=fun i j h1 h2=>by
  rw[rk_some (getElem?_pos a (base+i) (by lia)),rk_some (getElem?_pos a (base+j) (by lia))]
  have:=List.pairwise_iff_getElem.mp T.pa (base+i) (base+j) (by simp;lia) (by simp;lia) (by lia)
  simpa using this
 ne:=fun i hi=>by rw[rk_some (getElem?_pos a (base+i) (by lia))];exact T.ne _ (by simp) _ hk
theorem Two.galB (T:Two a₀ R a b) {key:Keyed}(hk:key∈a.toList) {base n:Nat}(h:base+n<=b.size):Gal a₀ R key b base n where
 inn:=T.ina _ hk
 at_:=fun i hi=>⟨b[base+i],getElem?_pos _ _ (by lia),T.inb _ (by simp)⟩
 inc:=fun i j h1 h2=>by
  rw[rk_some (getElem?_pos b (base+i) (by lia)),rk_some (getElem?_pos b (base+j) (by lia))]
  have:=List.pairwise_iff_getElem.mp T.pb (base+i) (base+j) (by simp;lia) (by simp;lia) (by lia)
  simpa using this
 ne:=fun i hi=>by rw[rk_some (getElem?_pos b (base+i) (by lia))];exact fun e=>T.ne _ hk _ (by simp) e.symm
theorem head_le {l l':List Keyed}{p q:Keyed}(e:l=p::l') (h:l.Pairwise fun x y=>R x<R y) (hq:q∈l):R p<=R q:=by
 subst e
 rcases List.mem_cons.mp hq with rfl | hq
 ·exact Nat.le_refl _
 ·exact Nat.le_of_lt (List.rel_of_pairwise_cons h hq)
abbrev MgL (R:Keyed->Nat) (a b out:Array Keyed) (ia ib:Nat):Prop:=Mg (fun x y=>R x<R y) (a.toList++b.toList) out.toList (a.toList.drop ia) (b.toList.drop ib)
abbrev GdL (R:Keyed->Nat) (a b r:Array Keyed):Prop:=Gd (fun x y=>R x<R y) (a.toList++b.toList) r.toList
theorem Two.lastA (T:Two a₀ R a b) {out:Array Keyed}{ia ib:Nat}(M:MgL R a b out ia ib) (h:ia+1=a.size):GdL R a b (out++b.extract ib++a.extract ia):=by
 obtain⟨z,hz⟩:∃ z,a[ia]? = some z:=⟨_,getElem?_pos a ia (by lia)⟩
 have e:a.toList.drop ia=[z]:=by rw[drop_cons hz,List.drop_eq_nil_of_le (by simp;lia)]
 exact M.lastX e (fun y hy=>T.last z (by rw[show a.size-1=ia by lia];exact hz) y (List.mem_of_mem_drop hy)) (by rw[Array.toList_append,Array.toList_append,ext_end,ext_end,e])
theorem doneB {out:Array Keyed}{ia ib:Nat}(M:MgL R a b out ia ib) (h:ib=b.size):GdL R a b (out++a.extract ia++b.extract ib):=by
 have e:b.toList.drop ib=[]:=List.drop_eq_nil_of_le (by simp;lia)
 exact M.doneX e (by rw[Array.toList_append,Array.toList_append,ext_end,ext_end,e,List.append_nil])
theorem pushA {out:Array Keyed}{ia ib:Nat}(M:MgL R a b out ia ib) {x:Keyed}(hx:a[ia]? = some x) (h:∀ y∈b.toList.drop ib,R x<R y):MgL R a b (out.push x) (ia+1) ib:=
 M.moveX (S:=[x]) (drop_cons hx) (by simp) (fun s hs y hy=>by rw[List.mem_singleton.mp hs];exact h y hy)
theorem pushB {out:Array Keyed}{ia ib:Nat}(M:MgL R a b out ia ib) {y:Keyed}(hy:b[ib]? = some y) (h:∀ x∈a.toList.drop ia,R y<R x):MgL R a b (out.push y) ia (ib+1):=
 M.moveY (S:=[y]) (drop_cons hy) (by simp) (fun s hs x hx=>by rw[List.mem_singleton.mp hs];exact h x hx)
structure LoI (R:Keyed->Nat) (a b out:Array Keyed) (ia ib:Nat):Prop where
 mg:MgL R a b out ia ib
 ha:ia+1<a.size
 hb:ib<b.size
abbrev G7:Type:=Option (Array Keyed)×Array Keyed×Nat×Nat×Nat×Nat×Nat
def lo3 (a b:Array Keyed) (mg ac ia bc:Nat) (out:Array Keyed) (ib:Nat):StateT SortSt Sem (ForInStep G7):=do
 let x←elem' a ia
 if (ia+1+1==a.size)=true then pure (ForInStep.done (some (out.push x++b.extract ib++a.extract (ia+1)),out.push x,ia+1,ib,mg,ac,bc))
 else if (decide (ac<7)&&decide (bc<7))=true then pure (ForInStep.done (none,out.push x,ia+1,ib,mg,ac,bc))
 else pure (ForInStep.yield (none,out.push x,ia+1,ib,mg,ac,bc))
def lo2 (a b:Array Keyed) (mg ac bc:Nat) (ib:Nat) (out:Array Keyed) (ia:Nat):StateT SortSt Sem (ForInStep G7):=do
 let y←elem' b ib
 if (ib+1==b.size)=true then pure (ForInStep.done (some (out.push y++a.extract ia++b.extract (ib+1)),out.push y,ia,ib+1,mg,ac,bc))
 else do
  let x←elem' a ia
  let r←gallopF true x b (ib+1) (b.size-(ib+1)) 0
  match r with
  | some k=>
   if k>0 then
    if (ib+1+k==b.size)=true then
     pure (ForInStep.done (some (out.push y++b.extract (ib+1) (ib+1+k)++a.extract ia++b.extract (ib+1+k)),out.push y++b.extract (ib+1) (ib+1+k),ia,ib+1+k,mg,ac,k))
    else lo3 a b mg ac ia k (out.push y++b.extract (ib+1) (ib+1+k)) (ib+1+k)
   else lo3 a b mg ac ia k (out.push y) (ib+1)
  | _=>pure (ForInStep.done (some (out.push y++a.extract ia++b.extract (ib+1)),out.push y,ia,ib+1,mg,ac,bc))
def lo1 (a b:Array Keyed) (bc ac:Nat) (out:Array Keyed) (ia ib mg:Nat):StateT SortSt Sem (ForInStep G7):=do
 setMGF mg
 let y←elem' b ib
 let r←gallopF false y a ia (a.size-ia) 0
 match r with
 | some k=>
  if k>0 then
   if (ia+k+1==a.size)=true then
    pure (ForInStep.done (some (out++a.extract ia (ia+k)++b.extract ib++a.extract (ia+k)),out++a.extract ia (ia+k),ia+k,ib,mg,k,bc))
   else if (ia+k==a.size)=true then
    pure (ForInStep.done (some (out++a.extract ia (ia+k)++a.extract (ia+k)++b.extract ib),out++a.extract ia (ia+k),ia+k,ib,mg,k,bc))
   else lo2 a b mg k bc ib (out++a.extract ia (ia+k)) (ia+k)
  else lo2 a b mg k bc ib out ia
 | _=>pure (ForInStep.done (some (out++a.extract ia++b.extract ib),out,ia,ib,mg,ac,bc))
def StOk (R:Keyed->Nat) (a b:Array Keyed) (n:Nat):ForInStep G7->Prop
 | .done (some r,_)=>GdL R a b r
 | .done (none,out,ia,ib,_)=>LoI R a b out ia ib/\n<ia+ib
 | .yield (none,out,ia,ib,_)=>LoI R a b out ia ib/\n<ia+ib
 | .yield (some _,_)=>False
theorem wpS_lo3 {st:SortSt}(T:Two a₀ R a b) {mg ac ia bc ib n:Nat}{out:Array Keyed}(M:MgL R a b out ia ib) (ha:ia+1<a.size) (hb:ib<b.size)
  (hall:∀ x,a[ia]? = some x->∀ y∈b.toList.drop ib,R x<R y) (hn:n<=ia+ib) :
  wpS (model prog w) A E s (lo3 a b mg ac ia bc out ib) (fun r st'=>StOk R a b n r/\st'=st) st:=by
 obtain⟨x,hx⟩:∃ x,a[ia]? = some x:=⟨_,getElem?_pos a ia (by lia)⟩
 have M':=pushA M hx (hall x hx)
 unfold lo3
 refine wpS_bind (wpS_elemF hx ?_)
 by_cases h1:ia+1+1=a.size
 ·rw[if_pos (by simpa using h1)]
  exact wpS_pure ⟨T.lastA M' h1,rfl⟩
 ·rw[if_neg (by simpa using h1)]
  have I':LoI R a b (out.push x) (ia+1) ib/\n<ia+1+ib:=⟨⟨M',by lia,hb⟩,by lia⟩
  split
  ·exact wpS_pure ⟨I',rfl⟩
  ·exact wpS_pure ⟨I',rfl⟩
theorem wpS_lo2 {st:SortSt}(O:Rank a₀ R) (hk:kindOf st=oneType') (T:Two a₀ R a b) {mg ac ia bc ib n:Nat}{out:Array Keyed}(M:MgL R a b out ia ib) (ha:ia+1<a.size) (hb:ib<b.size)
  (hall:∀ y,b[ib]? = some y->∀ x∈a.toList.drop ia,R y<R x) (hn:n<=ia+ib) :
  wpS (model prog w) A E s (lo2 a b mg ac bc ib out ia) (fun r st'=>StOk R a b n r/\st'=st) st:=by
 obtain⟨y,hy⟩:∃ y,b[ib]? = some y:=⟨_,getElem?_pos b ib (by lia)⟩
 have M':=pushB M hy (hall y hy)
 unfold lo2
 refine wpS_bind (wpS_elemF hy ?_)
 by_cases h1:ib+1=b.size
 ·rw[if_pos (by simpa using h1)]
  exact wpS_pure ⟨doneB M' h1,rfl⟩
 ·rw[if_neg (by simpa using h1)]
  obtain⟨x,hx⟩:∃ x,a[ia]? = some x:=⟨_,getElem?_pos a ia (by lia)⟩
  refine wpS_bind (wpS_elemF hx ?_)
  refine wpS_bind (wpS_gallopF O hk (T.galB (mem_at hx) (base:=ib+1) (n:=b.size-(ib+1)) (by lia)) (by lia) fun k hk1 hk2 hk3=>?_)
  dsimp only
  have lowx:∀ q∈a.toList.drop ia,R x<=R q:=fun q hq=>head_le (drop_cons hx) M.sx hq
  by_cases h2:k>0
  ·rw[if_pos h2]
   have M2:MgL R a b (out.push y++b.extract (ib+1) (ib+1+k)) ia (ib+1+k):=
    M'.moveY (drop_seg (by lia)) (by rw[Array.toList_append]) fun s hs q hq=>by
     obtain⟨j,hj,e⟩:=mem_seg hs
     have:=hk2 j hj
     rw[rk_some e] at this
     have:=lowx q hq
     show R s<R q
     lia
   by_cases h3:ib+1+k=b.size
   ·rw[if_pos (by simpa using h3)]
    exact wpS_pure ⟨doneB M2 h3,rfl⟩
   ·rw[if_neg (by simpa using h3)]
    refine wpS_lo3 T M2 ha (by lia) (fun x' hx' q hq=>?_) (by lia)
    rw[hx] at hx';cases hx'
    obtain⟨j,h4,h5,e⟩:=mem_drop hq
    have:=hk3 (j-(ib+1)) (by lia) (by lia)
    rw[show ib+1+(j-(ib+1))=j by lia,rk_some e] at this
    exact this
  ·rw[if_neg h2]
   refine wpS_lo3 T M' ha (by lia) (fun x' hx' q hq=>?_) (by lia)
   rw[hx] at hx';cases hx'
   obtain⟨j,h4,h5,e⟩:=mem_drop hq
   have:=hk3 (j-(ib+1)) (by lia) (by lia)
   rw[show ib+1+(j-(ib+1))=j by lia,rk_some e] at this
   exact this
theorem wpS_lo1 {st:SortSt}(O:Rank a₀ R) (hk:kindOf st=oneType') (T:Two a₀ R a b) {mg ac ia bc ib n:Nat}{out:Array Keyed}(I:LoI R a b out ia ib) (hn:n<=ia+ib) :
  wpS (model prog w) A E s (lo1 a b bc ac out ia ib mg) (fun r st'=>StOk R a b n r/\Sg st st') st:=by
 have ha:=I.ha
 have hb:=I.hb
 obtain⟨y,hy⟩:∃ y,b[ib]? = some y:=⟨_,getElem?_pos b ib (by lia)⟩
 unfold lo1
 refine wpS_bind (wpS_setMG ?_)
 have SS:Sg st (setGal st mg):=Sg.rfl.gal mg
 refine wpS_bind (wpS_elemF hy ?_)
 refine wpS_bind (wpS_gallopF O hk (T.galA (mem_at hy) (base:=ia) (n:=a.size-ia) (by lia)) (by lia) fun k hk1 hk2 hk3=>?_)
 dsimp only
 have lowy:∀ q∈b.toList.drop ib,R y<=R q:=fun q hq=>head_le (drop_cons hy) I.mg.sy hq
 have hi:∀ q∈a.toList.drop (ia+k),R y<R q:=fun q hq=>by
  obtain⟨j,h4,h5,e⟩:=mem_drop hq
  have:=hk3 (j-ia) (by lia) (by lia)
  rw[show ia+(j-ia)=j by lia,rk_some e] at this
  exact this
 by_cases h2:k>0
 ·rw[if_pos h2]
  have M2:MgL R a b (out++a.extract ia (ia+k)) (ia+k) ib:=
   I.mg.moveX (drop_seg (by lia)) (by rw[Array.toList_append]) fun s hs q hq=>by
    obtain⟨j,hj,e⟩:=mem_seg hs
    have:=hk2 j hj
    rw[rk_some e] at this
    have:=lowy q hq
    show R s<R q
    lia
  by_cases h3:ia+k+1=a.size
  ·rw[if_pos (by simpa using h3)]
   exact wpS_pure ⟨T.lastA M2 h3,SS⟩
  ·rw[if_neg (by simpa using h3)]
   by_cases h4:ia+k=a.size
   ·exfalso
    have:=hk2 (k-1) (by lia)
    rw[rk_some (getElem?_pos a (ia+(k-1)) (by lia))] at this
    have h5:=T.last a[ia+(k-1)] (by rw[show a.size-1=ia+(k-1) by lia];exact getElem?_pos a _ (by lia)) y (mem_at hy)
    lia
   ·rw[if_neg (by simpa using h4)]
    refine wpS_mono (wpS_lo2 (st:=setGal st mg) (n:=n) O hk T M2 (by lia) hb (fun y' hy' q hq=>?_) (by lia)) fun r st' (h:StOk R a b n r/\st'=setGal st mg)=>⟨h.1,by rw[h.2];exact SS⟩
    rw[hy] at hy';cases hy'
    exact hi q hq
 ·rw[if_neg h2]
  refine wpS_mono (wpS_lo2 (st:=setGal st mg) (n:=n) O hk T I.mg ha hb (fun y' hy' q hq=>?_) hn) fun r st' (h:StOk R a b n r/\st'=setGal st mg)=>⟨h.1,by rw[h.2];exact SS⟩
  rw[hy] at hy';cases hy'
  exact hi q (by rw[show ia+k=ia by lia];exact hq)
theorem wpS_mergeLoF {st:SortSt}(O:Rank a₀ R) (hk:kindOf st=oneType') (T:Two a₀ R a b) {Q:Array Keyed->SortSt->Prop}(h:∀ r st',Sg st st'->GdL R a b r->Q r st') :
  wpS (model prog w) A E s (mergeLoF a b) Q st:=by
 have hna:=T.na
 have hnb:=T.nb
 unfold mergeLoF
 refine wpS_bind (wpS_lift0 (wpAny_rule ⟨rfl,?_⟩))
 dsimp only
 obtain⟨y,hy⟩:∃ y,b[0]? = some y:=⟨_,getElem?_pos b 0 (by lia)⟩
 refine wpS_bind (wpS_elemF hy ?_)
 have M0:MgL R a b #[y] 0 1:=by
  have:Mg (fun x y=>R x<R y) (a.toList++b.toList) [] (a.toList.drop 0) (b.toList.drop 0):=⟨List.Perm.refl _,List.Pairwise.nil,T.pa,T.pb,(fun _ h=>nomatch h),(fun _ h=>nomatch h)⟩
  exact this.moveY (S:=[y]) (drop_cons hy) rfl (fun s hs x hx=>by rw[List.mem_singleton.mp hs];exact T.first y hy x hx)
 by_cases h1:1=b.size
 ·rw[if_pos (by simpa using h1)]
  exact wpS_pure (h _ _ Sg.rfl (doneB M0 h1))
 rw[if_neg (by simpa using h1)]
 by_cases h2:0+1=a.size
 ·rw[if_pos (by simpa using h2)]
  exact wpS_pure (h _ _ Sg.rfl (T.lastA M0 h2))
 rw[if_neg (by simpa using h2)]
 refine wpS_bind (wpS_get ?_)
 refine wpS_bind (wpS_mono (wpS_forRange (I:=fun x c st'=>Sg st st'/\∃ out ia ib mg,c=(none,out,ia,ib,mg)/\LoI R a b out ia ib/\x<ia+ib)
  (Q:=fun c st'=>Sg st st'/\∃ r rest,c=(some r,rest)/\GdL R a b r) ?step ?fin ⟨Sg.rfl,_,_,_,_,rfl,⟨M0,by lia,by lia⟩,by lia⟩) ?post)
 case fin=>
  rintro c st' ⟨_,out,ia,ib,mg,rfl,I,hx⟩
  exfalso
  have:=I.ha;have:=I.hb
  lia
 case post=>
  rintro c st' ⟨S,r,rest,rfl,G⟩
  exact wpS_pure (h _ _ S G)
 case step=>
  rintro x c st1 _ hx ⟨S1,out,ia,ib,mg,rfl,I1,hlt⟩
  dsimp only
  have hk1:kindOf st1=oneType':=by rw[S1.kind];exact hk
  refine wpS_bind (wpS_mono (wpS_forRange (I:=fun x' c st'=>st'=st1/\∃ out' ia' ib' ac bc,c=(none,out',ia',ib',ac,bc)/\LoI R a b out' ia' ib'/\ia+ib+x'<=ia'+ib')
   (Q:=fun c st'=>st'=st1/\((∃ r rest,c=(some r,rest)/\GdL R a b r)\/∃ out' ia' ib' ac bc,c=(none,out',ia',ib',ac,bc)/\LoI R a b out' ia' ib'/\ia+ib<ia'+ib')) ?step1 ?fin1 ⟨rfl,_,_,_,_,_,rfl,I1,by lia⟩) ?post1)
  case fin1=>
   rintro c st' ⟨_,out',ia',ib',ac,bc,rfl,I,hx⟩
   exfalso
   have:=I.ha;have:=I.hb
   lia
  case step1=>
   rintro x' c st' _ hx' ⟨rfl,out',ia',ib',ac,bc,rfl,I,hl'⟩
   dsimp only
   have ha:=I.ha
   have hb:=I.hb
   obtain⟨q,hq⟩:∃ q,b[ib']? = some q:=⟨_,getElem?_pos b ib' (by lia)⟩
   obtain⟨p,hp⟩:∃ p,a[ia']? = some p:=⟨_,getElem?_pos a ia' (by lia)⟩
   refine wpS_bind (wpS_elemF hq (wpS_bind (wpS_elemF hp (wpS_bind (wpS_ltF O hk1 (T.inb _ (mem_at hq)) (T.ina _ (mem_at hp)) ?_)))))
   dsimp only
   have hne:=T.ne p (mem_at hp) q (mem_at hq)
   by_cases hl:R q<R p
   ·simp only[hl,decide_true,if_true]
    refine wpS_bind (wpS_elemF hq ?_)
    have M':=pushB I.mg hq (fun z hz=>Nat.lt_of_lt_of_le hl (head_le (drop_cons hp) I.mg.sx hz))
    by_cases h3:ib'+1=b.size
    ·rw[if_pos (by simpa using h3)]
     exact wpS_pure ⟨rfl,.inl ⟨_,_,rfl,doneB M' h3⟩⟩
    ·rw[if_neg (by simpa using h3)]
     split
     ·exact wpS_pure ⟨rfl,.inr ⟨_,_,_,_,_,rfl,⟨M',ha,by lia⟩,by lia⟩⟩
     ·exact wpS_pure ⟨rfl,_,_,_,_,_,rfl,⟨M',ha,by lia⟩,by lia⟩
   ·simp only[hl,decide_false,Bool.false_eq_true,if_false]
    refine wpS_bind (wpS_elemF hp ?_)
    have M':=pushA I.mg hp (fun z hz=>Nat.lt_of_lt_of_le (by lia) (head_le (drop_cons hq) I.mg.sy hz))
    by_cases h3:ia'+1+1=a.size
    ·rw[if_pos (by simpa using h3)]
     exact wpS_pure ⟨rfl,.inl ⟨_,_,rfl,T.lastA M' h3⟩⟩
    ·rw[if_neg (by simpa using h3)]
     split
     ·exact wpS_pure ⟨rfl,.inr ⟨_,_,_,_,_,rfl,⟨M',by lia,hb⟩,by lia⟩⟩
     ·exact wpS_pure ⟨rfl,_,_,_,_,_,rfl,⟨M',by lia,hb⟩,by lia⟩
  case post1=>
   rintro c st' ⟨rfl,⟨r,rest,rfl,G⟩ | ⟨out2,ia2,ib2,ac,bc,rfl,I2,hlt2⟩⟩
   ·exact wpS_pure ⟨S1,_,_,rfl,G⟩
   ·dsimp only
    refine wpS_bind (wpS_lift0 (wpAny_rule ⟨rfl,?_⟩))
    refine wpS_bind (wpS_mono (wpS_forRange (I:=fun x' c st'=>Sg st st'/\∃ out' ia' ib' mg ac bc,c=(none,out',ia',ib',mg,ac,bc)/\LoI R a b out' ia' ib'/\ia2+ib2+x'<=ia'+ib')
     (Q:=fun c st'=>Sg st st'/\((∃ r rest,c=(some r,rest)/\GdL R a b r)\/∃ out' ia' ib' rest,c=(none,out',ia',ib',rest)/\LoI R a b out' ia' ib'/\ia2+ib2<=ia'+ib')) ?step2 ?fin2 ⟨S1,_,_,_,_,_,_,rfl,I2,by lia⟩) ?post2)
    case fin2=>
     rintro c st' ⟨_,out',ia',ib',mg,ac,bc,rfl,I,hx⟩
     exfalso
     have:=I.ha;have:=I.hb
     lia
    case post2=>
     rintro c st2 ⟨S2,⟨r,rest,rfl,G⟩ | ⟨out3,ia3,ib3,rest,rfl,I3,hlt3⟩⟩
     ·exact wpS_pure ⟨S2,_,_,rfl,G⟩
     ·dsimp only
      refine wpS_bind (wpS_setMG (wpS_pure ⟨S2.gal _,_,_,_,_,rfl,I3,by lia⟩))
    case step2=>
     rintro x' c st2 _ hx' ⟨S2,out',ia',ib',mg',ac',bc',rfl,I3,hl3⟩
     dsimp only
     have hk2:kindOf st2=oneType':=by rw[S2.kind];exact hk
     have J:∀ g,wpS (model prog w) A E s (lo1 a b bc' ac' out' ia' ib' g) (fun r st'=>match r with
       | .done c'=>Sg st st'/\((∃ r rest,c'=(some r,rest)/\GdL R a b r)\/∃ out' ia' ib' rest,c'=(none,out',ia',ib',rest)/\LoI R a b out' ia' ib'/\ia2+ib2<=ia'+ib')
       | .yield c'=>Sg st st'/\∃ out' ia' ib' mg ac bc,c'=(none,out',ia',ib',mg,ac,bc)/\LoI R a b out' ia' ib'/\ia2+ib2+(x'+1)<=ia'+ib') st2:=fun g=>by
      refine wpS_mono (wpS_lo1 O hk2 T I3 (Nat.le_refl _)) fun r st' hr=>?_
      obtain⟨hr,S'⟩:=hr
      have S3:Sg st st':=⟨S'.kind.trans S2.kind,S'.arr.trans S2.arr,S'.pend.trans S2.pend,S'.fail.trans S2.fail⟩
      match r,hr with
      | .done (some r,rest),hr=>exact⟨S3,.inl ⟨r,rest,rfl,hr⟩⟩
      | .done (none,o,i,j,rest),hr=>exact⟨S3,.inr ⟨o,i,j,rest,rfl,hr.1,by have:=hr.2;lia⟩⟩
      | .yield (none,o,i,j,g,k,l),hr=>exact⟨S3,o,i,j,g,k,l,rfl,hr.1,by have:=hr.2;lia⟩
     by_cases hg:mg'>1
     ·rw[if_pos hg]
      exact wpS_mono (J (mg'-1)) fun r _ h=>by cases r <;> exact h
     ·rw[if_neg hg]
      exact wpS_mono (J mg') fun r _ h=>by cases r <;> exact h
end
end SortL
set_option maxHeartbeats 1000000
namespace SortL
open PySem PyProof.Rows
def mergeHiF:Array Keyed->Array Keyed->StateT SortSt Sem (Array Keyed):=sortPriv% PySem.Builtin.mergeHi
section
variable {prog:Program}{w:World}{A:Around}{E:Value->Shared->Prop}{s:Shared}{a₀:Array Keyed}{R:Keyed->Nat}{a b:Array Keyed}
abbrev MgH (R:Keyed->Nat) (a b out:Array Keyed) (na nb:Nat):Prop:=Mg (fun x y=>R y<R x) (a.toList++b.toList) out.toList (b.toList.take nb).reverse (a.toList.take na).reverse
theorem ext0 (a:Array Keyed) (n:Nat):(a.extract 0 n).toList=a.toList.take n:=by rw[ext_list,List.drop_zero]
theorem doneHi {out:Array Keyed}{na nb:Nat}(M:MgH R a b out na nb) (h:na=0):GdL R a b (a.extract 0 na++b.extract 0 nb++out.reverse):=by
 subst h
 refine Gd.rev (M.doneX (by simp) ?_)
 rw[Array.toList_append,Array.toList_append,ext0,ext0,Array.toList_reverse]
 simp
theorem Two.firstB (T:Two a₀ R a b) {out:Array Keyed}{na nb:Nat}(M:MgH R a b out na nb) (h:nb=1):GdL R a b (b.extract 0 nb++a.extract 0 na++out.reverse):=by
 subst h
 have hnb:=T.nb
 obtain⟨z,hz⟩:∃ z,b[0]? = some z:=⟨_,getElem?_pos b 0 (by lia)⟩
 have e:(b.toList.take 1).reverse=[z]:=by
  have:=take_rev (n:=0) hz
  simpa using this
 have e':b.toList.take 1=[z]:=by
  have:=congrArg List.reverse e
  simpa using this
 refine Gd.rev (M.lastX e (fun y hy=>T.first z hz y ?_) ?_)
 ·exact List.mem_of_mem_take (List.mem_reverse.mp hy)
 ·rw[Array.toList_append,Array.toList_append,ext0,ext0,Array.toList_reverse,e']
  simp
theorem take_rev' {a:Array Keyed}{n:Nat}{p:Keyed}(hn:0<n) (h:a[n-1]? = some p):(a.toList.take n).reverse=p::(a.toList.take (n-1)).reverse:=by
 obtain⟨m,rfl⟩:∃ m,n=m+1:=⟨n-1,by lia⟩
 exact take_rev h
theorem pushHA {out:Array Keyed}{na nb:Nat}(M:MgH R a b out na nb) (hn:0<na) {x:Keyed}(hx:a[na-1]? = some x) (h:∀ q∈b.toList.take nb,R q<R x):MgH R a b (out.push x) (na-1) nb:=
 M.moveY (S:=[x]) (take_rev' hn hx) (by simp) (fun s hs q hq=>by rw[List.mem_singleton.mp hs];exact h q (List.mem_reverse.mp hq))
theorem pushHB {out:Array Keyed}{na nb:Nat}(M:MgH R a b out na nb) (hn:0<nb) {y:Keyed}(hy:b[nb-1]? = some y) (h:∀ p∈a.toList.take na,R p<R y):MgH R a b (out.push y) na (nb-1):=
 M.moveX (S:=[y]) (take_rev' hn hy) (by simp) (fun s hs q hq=>by rw[List.mem_singleton.mp hs];exact h q (List.mem_reverse.mp hq))
theorem last_ge {l l':List Keyed}{p q:Keyed}(e:l.reverse=p::l') (h:l.reverse.Pairwise fun x y=>R y<R x) (hq:q∈l):R q<=R p:=by
 have hq':=List.mem_reverse.mpr hq
 rw[e] at h hq'
 rcases List.mem_cons.mp hq' with rfl | hq
 ·exact Nat.le_refl _
 ·exact Nat.le_of_lt (List.rel_of_pairwise_cons h hq)
structure HiI (R:Keyed->Nat) (a b out:Array Keyed) (na nb:Nat):Prop where
 mg:MgH R a b out na nb
 ha:0<na
 ha':na<=a.size
 hb:1<nb
 hb':nb<=b.size
abbrev H7:Type:=Option (Array Keyed)×Nat×Nat×Array Keyed×Nat×Nat×Nat
def hi3 (a b:Array Keyed) (mg ac na bc nb:Nat) (out:Array Keyed):StateT SortSt Sem (ForInStep H7):=do
 let x←elem' a (na-1)
 if (na-1==0)=true then pure (ForInStep.done (some (a.extract 0 (na-1)++b.extract 0 nb++(out.push x).reverse),na-1,nb,out.push x,mg,ac,bc))
 else if (decide (ac<7)&&decide (bc<7))=true then pure (ForInStep.done (none,na-1,nb,out.push x,mg,ac,bc))
 else pure (ForInStep.yield (none,na-1,nb,out.push x,mg,ac,bc))
def hi2 (a b:Array Keyed) (mg ac bc nb na:Nat) (out:Array Keyed):StateT SortSt Sem (ForInStep H7):=do
 let y←elem' b (nb-1)
 if (nb-1==1)=true then pure (ForInStep.done (some (b.extract 0 (nb-1)++a.extract 0 na++(out.push y).reverse),na,nb-1,out.push y,mg,ac,bc))
 else do
  let x←elem' a (na-1)
  let r←gallopF true x b 0 (nb-1) (nb-1-1)
  match r with
  | some k=>
   if nb-1-k>0 then
    if (k==1)=true then
     pure (ForInStep.done (some (b.extract 0 k++a.extract 0 na++(out.push y++(b.extract k (nb-1)).reverse).reverse),na,k,out.push y++(b.extract k (nb-1)).reverse,mg,ac,nb-1-k))
    else if (k==0)=true then
     pure (ForInStep.done (some (a.extract 0 na++b.extract 0 k++(out.push y++(b.extract k (nb-1)).reverse).reverse),na,k,out.push y++(b.extract k (nb-1)).reverse,mg,ac,nb-1-k))
    else hi3 a b mg ac na (nb-1-k) k (out.push y++(b.extract k (nb-1)).reverse)
   else hi3 a b mg ac na (nb-1-k) (nb-1) (out.push y)
  | _=>pure (ForInStep.done (some (a.extract 0 na++b.extract 0 (nb-1)++(out.push y).reverse),na,nb-1,out.push y,mg,ac,bc))
def hi1 (a b:Array Keyed) (bc ac:Nat) (out:Array Keyed) (na nb mg:Nat):StateT SortSt Sem (ForInStep H7):=do
 setMGF mg
 let y←elem' b (nb-1)
 let r←gallopF false y a 0 na (na-1)
 match r with
 | some k=>
  if na-k>0 then
   if (k==0)=true then
    pure (ForInStep.done (some (a.extract 0 k++b.extract 0 nb++(out++(a.extract k na).reverse).reverse),k,nb,out++(a.extract k na).reverse,mg,na-k,bc))
   else hi2 a b mg (na-k) bc nb k (out++(a.extract k na).reverse)
  else hi2 a b mg (na-k) bc nb na out
 | _=>pure (ForInStep.done (some (a.extract 0 na++b.extract 0 nb++out.reverse),na,nb,out,mg,ac,bc))
def StOkH (R:Keyed->Nat) (a b:Array Keyed) (n:Nat):ForInStep H7->Prop
 | .done (some r,_)=>GdL R a b r
 | .done (none,na,nb,out,_)=>HiI R a b out na nb/\na+nb<n
 | .yield (none,na,nb,out,_)=>HiI R a b out na nb/\na+nb<n
 | .yield (some _,_)=>False
theorem wpS_hi3 {st:SortSt}(T:Two a₀ R a b) {mg ac na bc nb n:Nat}{out:Array Keyed}(M:MgH R a b out na nb) (ha:0<na) (ha':na<=a.size) (hb:1<nb) (hb':nb<=b.size)
  (hall:∀ x,a[na-1]? = some x->∀ q∈b.toList.take nb,R q<R x) (hn:na+nb<=n) :
  wpS (model prog w) A E s (hi3 a b mg ac na bc nb out) (fun r st'=>StOkH R a b n r/\st'=st) st:=by
 obtain⟨x,hx⟩:∃ x,a[na-1]? = some x:=⟨_,getElem?_pos a (na-1) (by lia)⟩
 have M':=pushHA M ha hx (hall x hx)
 unfold hi3
 refine wpS_bind (wpS_elemF hx ?_)
 by_cases h1:na-1=0
 ·rw[if_pos (by simpa using h1)]
  exact wpS_pure ⟨doneHi M' h1,rfl⟩
 ·rw[if_neg (by simpa using h1)]
  have I':HiI R a b (out.push x) (na-1) nb/\na-1+nb<n:=⟨⟨M',by lia,by lia,hb,hb'⟩,by lia⟩
  split
  ·exact wpS_pure ⟨I',rfl⟩
  ·exact wpS_pure ⟨I',rfl⟩
theorem wpS_hi2 {st:SortSt}(O:Rank a₀ R) (hk:kindOf st=oneType') (T:Two a₀ R a b) {mg ac na bc nb n:Nat}{out:Array Keyed}(M:MgH R a b out na nb) (ha:0<na) (ha':na<=a.size) (hb:1<nb) (hb':nb<=b.size)
  (hall:∀ y,b[nb-1]? = some y->∀ p∈a.toList.take na,R p<R y) (hn:na+nb<=n) :
  wpS (model prog w) A E s (hi2 a b mg ac bc nb na out) (fun r st'=>StOkH R a b n r/\st'=st) st:=by
 obtain⟨y,hy⟩:∃ y,b[nb-1]? = some y:=⟨_,getElem?_pos b (nb-1) (by lia)⟩
 have M':=pushHB M (by lia) hy (hall y hy)
 unfold hi2
 refine wpS_bind (wpS_elemF hy ?_)
 by_cases h1:nb-1=1
 ·rw[if_pos (by simpa using h1)]
  exact wpS_pure ⟨T.firstB M' h1,rfl⟩
 ·rw[if_neg (by simpa using h1)]
  obtain⟨x,hx⟩:∃ x,a[na-1]? = some x:=⟨_,getElem?_pos a (na-1) (by lia)⟩
  refine wpS_bind (wpS_elemF hx ?_)
  refine wpS_bind (wpS_gallopF O hk (T.galB (mem_at hx) (base:=0) (n:=nb-1) (by lia)) (by lia) fun k hk1 hk2 hk3=>?_)
  dsimp only
  have topx:∀ p∈a.toList.take na,R p<=R x:=fun p hp=>last_ge (take_rev' ha hx) M'.sy hp
  have k1:1<=k:=by
   rcases Nat.eq_zero_or_pos k with rfl | h
   ·exfalso
    have:=hk3 0 (Nat.le_refl _) (by lia)
    rw[rk_some (getElem?_pos b (0+0) (by lia))] at this
    have h2:=T.first b[0+0] (getElem?_pos b 0 (by lia)) x (mem_at hx)
    lia
   ·exact h
  have low:∀ m,m<=k->∀ q∈b.toList.take m,R q<R x:=fun m hm q hq=>by
   obtain⟨j,h4,h5,e⟩:=mem_take hq
   have:=hk2 j (by lia)
   rw[Nat.zero_add,rk_some e] at this
   exact this
  by_cases h2:nb-1-k>0
  ·rw[if_pos h2]
   have M2:MgH R a b (out.push y++(b.extract k (nb-1)).reverse) na k:=
    M'.moveX (take_seg (by lia)) (by rw[Array.toList_append,Array.toList_reverse]) fun s hs q hq=>by
     obtain⟨j,h4,h5,e⟩:=mem_seg' (List.mem_reverse.mp hs)
     have:=hk3 j h4 h5
     rw[Nat.zero_add,rk_some e] at this
     have:=topx q (List.mem_reverse.mp hq)
     show R q<R s
     lia
   by_cases h3:k=1
   ·rw[if_pos (by simpa using h3)]
    exact wpS_pure ⟨T.firstB M2 h3,rfl⟩
   ·rw[if_neg (by simpa using h3),if_neg (by simp;lia)]
    refine wpS_hi3 T M2 ha ha' (by lia) (by lia) (fun x' hx' q hq=>?_) (by lia)
    rw[hx] at hx';cases hx'
    exact low k (Nat.le_refl _) q hq
  ·rw[if_neg h2]
   refine wpS_hi3 T M' ha ha' (by lia) (by lia) (fun x' hx' q hq=>?_) (by lia)
   rw[hx] at hx';cases hx'
   exact low (nb-1) (by lia) q hq
theorem wpS_hi1 {st:SortSt}(O:Rank a₀ R) (hk:kindOf st=oneType') (T:Two a₀ R a b) {mg ac na bc nb n:Nat}{out:Array Keyed}(I:HiI R a b out na nb) (hn:na+nb<=n) :
  wpS (model prog w) A E s (hi1 a b bc ac out na nb mg) (fun r st'=>StOkH R a b n r/\Sg st st') st:=by
 obtain⟨M,ha,ha',hb,hb'⟩:=I
 obtain⟨y,hy⟩:∃ y,b[nb-1]? = some y:=⟨_,getElem?_pos b (nb-1) (by lia)⟩
 unfold hi1
 refine wpS_bind (wpS_setMG ?_)
 have SS:Sg st (setGal st mg):=Sg.rfl.gal mg
 refine wpS_bind (wpS_elemF hy ?_)
 refine wpS_bind (wpS_gallopF O hk (T.galA (mem_at hy) (base:=0) (n:=na) (by lia)) (by lia) fun k hk1 hk2 hk3=>?_)
 dsimp only
 have topy:∀ p∈b.toList.take nb,R p<=R y:=fun p hp=>last_ge (take_rev' (by lia) hy) M.sx hp
 have low:∀ m,m<=k->∀ q∈a.toList.take m,R q<R y:=fun m hm q hq=>by
  obtain⟨j,h4,h5,e⟩:=mem_take hq
  have:=hk2 j (by lia)
  rw[Nat.zero_add,rk_some e] at this
  exact this
 by_cases h2:na-k>0
 ·rw[if_pos h2]
  have M2:MgH R a b (out++(a.extract k na).reverse) k nb:=
   M.moveY (take_seg (by lia)) (by rw[Array.toList_append,Array.toList_reverse]) fun s hs q hq=>by
    obtain⟨j,h4,h5,e⟩:=mem_seg' (List.mem_reverse.mp hs)
    have:=hk3 j h4 h5
    rw[Nat.zero_add,rk_some e] at this
    have:=topy q (List.mem_reverse.mp hq)
    show R q<R s
    lia
  by_cases h3:k=0
  ·rw[if_pos (by simpa using h3)]
   exact wpS_pure ⟨doneHi M2 h3,SS⟩
  ·rw[if_neg (by simpa using h3)]
   refine wpS_mono (wpS_hi2 (st:=setGal st mg) (n:=n) O hk T M2 (by lia) (by lia) hb hb' (fun y' hy' q hq=>?_) (by lia)) fun r st' (h:StOkH R a b n r/\st'=setGal st mg)=>⟨h.1,by rw[h.2];exact SS⟩
   rw[hy] at hy';cases hy'
   exact low k (Nat.le_refl _) q hq
 ·rw[if_neg h2]
  refine wpS_mono (wpS_hi2 (st:=setGal st mg) (n:=n) O hk T M ha ha' hb hb' (fun y' hy' q hq=>?_) hn) fun r st' (h:StOkH R a b n r/\st'=setGal st mg)=>⟨h.1,by rw[h.2];exact SS⟩
  rw[hy] at hy';cases hy'
  exact low na (by lia) q hq
theorem wpS_mergeHiF {st:SortSt}(O:Rank a₀ R) (hk:kindOf st=oneType') (T:Two a₀ R a b) {Q:Array Keyed->SortSt->Prop}(h:∀ r st',Sg st st'->GdL R a b r->Q r st') :
  wpS (model prog w) A E s (mergeHiF a b) Q st:=by
 have hna:=T.na
 have hnb:=T.nb
 unfold mergeHiF
 refine wpS_bind (wpS_lift0 (wpAny_rule ⟨rfl,?_⟩))
 dsimp only
 obtain⟨x,hx⟩:∃ x,a[a.size-1]? = some x:=⟨_,getElem?_pos a (a.size-1) (by lia)⟩
 refine wpS_bind (wpS_elemF hx ?_)
 have M0:MgH R a b #[x] (a.size-1) b.size:=by
  have:MgH R a b #[] a.size b.size:=by
   refine⟨?_,List.Pairwise.nil,?_,?_,(fun _ h=>nomatch h),(fun _ h=>nomatch h)⟩
   ·rw[←Array.length_toList,←Array.length_toList,List.take_length,List.take_length]
    exact (((List.reverse_perm _).append (List.reverse_perm _)).trans List.perm_append_comm)
   ·rw[←Array.length_toList,List.take_length];exact List.pairwise_reverse.mpr T.pb
   ·rw[←Array.length_toList,List.take_length];exact List.pairwise_reverse.mpr T.pa
  exact pushHA this (by lia) hx (fun q hq=>T.last x hx q (List.mem_of_mem_take hq))
 by_cases h1:a.size-1=0
 ·rw[if_pos (by simpa using h1)]
  exact wpS_pure (h _ _ Sg.rfl (doneHi M0 h1))
 rw[if_neg (by simpa using h1)]
 by_cases h2:b.size=1
 ·rw[if_pos (by simpa using h2)]
  exact wpS_pure (h _ _ Sg.rfl (T.firstB M0 h2))
 rw[if_neg (by simpa using h2)]
 refine wpS_bind (wpS_get ?_)
 refine wpS_bind (wpS_mono (wpS_forRange (I:=fun x c st'=>Sg st st'/\∃ na nb out mg,c=(none,na,nb,out,mg)/\HiI R a b out na nb/\x+(na+nb)<a.size+b.size)
  (Q:=fun c st'=>Sg st st'/\∃ r rest,c=(some r,rest)/\GdL R a b r) ?step ?fin ⟨Sg.rfl,_,_,_,_,rfl,⟨M0,by lia,by lia,by lia,by lia⟩,by lia⟩) ?post)
 case fin=>
  rintro c st' ⟨_,na,nb,out,mg,rfl,I,hx⟩
  exfalso
  lia
 case post=>
  rintro c st' ⟨S,r,rest,rfl,G⟩
  exact wpS_pure (h _ _ S G)
 case step=>
  rintro x c st1 _ hx ⟨S1,na,nb,out,mg,rfl,I1,hlt⟩
  dsimp only
  have hk1:kindOf st1=oneType':=by rw[S1.kind];exact hk
  refine wpS_bind (wpS_mono (wpS_forRange (I:=fun x' c st'=>st'=st1/\∃ na' nb' out' ac bc,c=(none,na',nb',out',ac,bc)/\HiI R a b out' na' nb'/\x'+(na'+nb')<=na+nb)
   (Q:=fun c st'=>st'=st1/\((∃ r rest,c=(some r,rest)/\GdL R a b r)\/∃ na' nb' out' ac bc,c=(none,na',nb',out',ac,bc)/\HiI R a b out' na' nb'/\na'+nb'<na+nb)) ?step1 ?fin1 ⟨rfl,_,_,_,_,_,rfl,I1,by lia⟩) ?post1)
  case fin1=>
   rintro c st' ⟨_,na',nb',out',ac,bc,rfl,I,hx⟩
   exfalso
   have:=I1.ha';have:=I1.hb';have:=I.ha
   lia
  case step1=>
   rintro x' c st' _ hx' ⟨rfl,na',nb',out',ac,bc,rfl,I,hl'⟩
   dsimp only
   obtain⟨M,ha,ha',hb,hb'⟩:=I
   obtain⟨q,hq⟩:∃ q,b[nb'-1]? = some q:=⟨_,getElem?_pos b (nb'-1) (by lia)⟩
   obtain⟨p,hp⟩:∃ p,a[na'-1]? = some p:=⟨_,getElem?_pos a (na'-1) (by lia)⟩
   refine wpS_bind (wpS_elemF hq (wpS_bind (wpS_elemF hp (wpS_bind (wpS_ltF O hk1 (T.inb _ (mem_at hq)) (T.ina _ (mem_at hp)) ?_)))))
   dsimp only
   have hne:=T.ne p (mem_at hp) q (mem_at hq)
   by_cases hl:R q<R p
   ·simp only[hl,decide_true,if_true]
    refine wpS_bind (wpS_elemF hp ?_)
    have M':=pushHA M ha hp (fun z hz=>Nat.lt_of_le_of_lt (last_ge (take_rev' (by lia) hq) M.sx hz) hl)
    by_cases h3:na'-1=0
    ·rw[if_pos (by simpa using h3)]
     exact wpS_pure ⟨rfl,.inl ⟨_,_,rfl,doneHi M' h3⟩⟩
    ·rw[if_neg (by simpa using h3)]
     split
     ·exact wpS_pure ⟨rfl,.inr ⟨_,_,_,_,_,rfl,⟨M',by lia,by lia,hb,hb'⟩,by lia⟩⟩
     ·exact wpS_pure ⟨rfl,_,_,_,_,_,rfl,⟨M',by lia,by lia,hb,hb'⟩,by lia⟩
   ·simp only[hl,decide_false,Bool.false_eq_true,if_false]
    refine wpS_bind (wpS_elemF hq ?_)
    have M':=pushHB M (by lia) hq (fun z hz=>Nat.lt_of_le_of_lt (last_ge (take_rev' ha hp) M.sy hz) (by lia))
    by_cases h3:nb'-1=1
    ·rw[if_pos (by simpa using h3)]
     exact wpS_pure ⟨rfl,.inl ⟨_,_,rfl,T.firstB M' h3⟩⟩
    ·rw[if_neg (by simpa using h3)]
     split
     ·exact wpS_pure ⟨rfl,.inr ⟨_,_,_,_,_,rfl,⟨M',ha,ha',by lia,by lia⟩,by lia⟩⟩
     ·exact wpS_pure ⟨rfl,_,_,_,_,_,rfl,⟨M',ha,ha',by lia,by lia⟩,by lia⟩
  case post1=>
   rintro c st' ⟨rfl,⟨r,rest,rfl,G⟩ | ⟨na2,nb2,out2,ac,bc,rfl,I2,hlt2⟩⟩
   ·exact wpS_pure ⟨S1,_,_,rfl,G⟩
   ·dsimp only
    refine wpS_bind (wpS_lift0 (wpAny_rule ⟨rfl,?_⟩))
    refine wpS_bind (wpS_mono (wpS_forRange (I:=fun x' c st'=>Sg st st'/\∃ na' nb' out' mg ac bc,c=(none,na',nb',out',mg,ac,bc)/\HiI R a b out' na' nb'/\x'+(na'+nb')<=na2+nb2)
     (Q:=fun c st'=>Sg st st'/\((∃ r rest,c=(some r,rest)/\GdL R a b r)\/∃ na' nb' out' rest,c=(none,na',nb',out',rest)/\HiI R a b out' na' nb'/\na'+nb'<=na2+nb2)) ?step2 ?fin2 ⟨S1,_,_,_,_,_,_,rfl,I2,by lia⟩) ?post2)
    case fin2=>
     rintro c st' ⟨_,na',nb',out',mg,ac,bc,rfl,I,hx⟩
     exfalso
     have:=I2.ha';have:=I2.hb';have:=I.ha
     lia
    case post2=>
     rintro c st2 ⟨S2,⟨r,rest,rfl,G⟩ | ⟨na3,nb3,out3,rest,rfl,I3,hlt3⟩⟩
     ·exact wpS_pure ⟨S2,_,_,rfl,G⟩
     ·dsimp only
      refine wpS_bind (wpS_setMG (wpS_pure ⟨S2.gal _,_,_,_,_,rfl,I3,by lia⟩))
    case step2=>
     rintro x' c st2 _ hx' ⟨S2,na',nb',out',mg',ac',bc',rfl,I3,hl3⟩
     dsimp only
     have hk2:kindOf st2=oneType':=by rw[S2.kind];exact hk
     have J:∀ g,wpS (model prog w) A E s (hi1 a b bc' ac' out' na' nb' g) (fun r st'=>match r with
       | .done c'=>Sg st st'/\((∃ r rest,c'=(some r,rest)/\GdL R a b r)\/∃ na' nb' out' rest,c'=(none,na',nb',out',rest)/\HiI R a b out' na' nb'/\na'+nb'<=na2+nb2)
       | .yield c'=>Sg st st'/\∃ na' nb' out' mg ac bc,c'=(none,na',nb',out',mg,ac,bc)/\HiI R a b out' na' nb'/\x'+1+(na'+nb')<=na2+nb2) st2:=fun g=>by
      refine wpS_mono (wpS_hi1 O hk2 T I3 (Nat.le_refl _)) fun r st' hr=>?_
      obtain⟨hr,S'⟩:=hr
      have S3:Sg st st':=⟨S'.kind.trans S2.kind,S'.arr.trans S2.arr,S'.pend.trans S2.pend,S'.fail.trans S2.fail⟩
      match r,hr with
      | .done (some r,rest),hr=>exact⟨S3,.inl ⟨r,rest,rfl,hr⟩⟩
      | .done (none,i,j,o,rest),hr=>exact⟨S3,.inr ⟨i,j,o,rest,rfl,hr.1,by have:=hr.2;lia⟩⟩
      | .yield (none,i,j,o,g,k,l),hr=>exact⟨S3,i,j,o,g,k,l,rfl,hr.1,by have:=hr.2;lia⟩
     by_cases hg:mg'>1
     ·rw[if_pos hg]
      exact wpS_mono (J (mg'-1)) fun r _ h=>by cases r <;> exact h
     ·rw[if_neg hg]
      exact wpS_mono (J mg') fun r _ h=>by cases r <;> exact h
end
end SortL
set_option maxHeartbeats 1000000
namespace SortL
open PySem PyProof.Rows
theorem foldl_writes (c:Nat):∀ (l:List Keyed) (m:Nat) (arr:Array Keyed),c+m+l.length<=arr.size ->
  ((l.zipIdx m).foldl (fun a (x:Keyed×Nat)=>match x with | (p,j)=>a.setIfInBounds (c+j) p) arr).toList=arr.toList.take (c+m)++l++arr.toList.drop (c+m+l.length)
 | [],m,arr,h=>by simp
 | p::l,m,arr,h=>by
  have hl:c+m+(l.length+1)<=arr.size:=by simpa using h
  rw[List.zipIdx_cons,List.foldl_cons]
  have e:=foldl_writes c l (m+1) (arr.setIfInBounds (c+m) p) (by simp;lia)
  rw[e,Array.toList_setIfInBounds]
  have e1:(arr.toList.set (c+m) p).take (c+(m+1))=arr.toList.take (c+m)++[p]:=by
   rw[show c+(m+1)=c+m+1 by lia,List.take_set,List.take_succ,List.set_append_right _ _ (by simp;lia)]
   have:arr.toList[c+m]? = some arr[c+m]:=by simp
   rw[this]
   have hm:(min (c+m) arr.size)=c+m:=by lia
   simp[hm]
  have e2:(arr.toList.set (c+m) p).drop (c+(m+1)+l.length)=arr.toList.drop (c+m+(p::l).length):=by
   rw[List.drop_set_of_lt (by lia)]
   congr 1
   simp;lia
  rw[e1,e2]
  simp
theorem split_two {α:Type}:∀ (l:List α) (i:Nat),i+1<l.length->∃ pre x y post,l=pre++x::y::post/\pre.length=i
 | x::y::l,0,_=>⟨[],x,y,l,rfl,rfl⟩
 | x::l,i+1,h=>by
  obtain⟨pre,u,v,post,e,hl⟩:=split_two l i (by simpa using h)
  exact⟨x::pre,u,v,post,by rw[e];rfl,by simp[hl]⟩
section
variable {prog:Program}{w:World}{A:Around}{E:Value->Shared->Prop}{s:Shared}{a₀:Array Keyed}{R:Keyed->Nat}
theorem wpS_set {σ:Type}{M:Model}{st st':σ}{Q:PUnit->σ->Prop}(h:Q ⟨⟩ st'):wpS M A E s (set st':StateT σ Sem PUnit) Q st:=by
 unfold wpS;rw[StateT.run_set];exact wpAny_pure ⟨rfl,h⟩
def Runs (R:Keyed->Nat) (xs:Array Keyed):List (Nat×Nat×Nat)->Nat->Nat->Prop
 | [],p,lo=>p=lo
 | (s,n,_)::rest,p,lo=>s=p/\0<n/\Inc R xs p (p+n)/\Runs R xs rest (p+n) lo
theorem Runs.le {xs:Array Keyed}:∀ {l:List (Nat×Nat×Nat)}{p lo:Nat},Runs R xs l p lo->p+l.length<=lo
 | [],p,lo,h=>by have:p=lo:=h;simp;lia
 | (s,n,_)::rest,p,lo,h=>by
  obtain⟨_,h1,_,h2⟩:=h
  have:=Runs.le h2
  simp only[List.length_cons];lia
theorem Runs.app {xs:Array Keyed}:∀ {l l':List (Nat×Nat×Nat)}{p lo:Nat},Runs R xs (l++l') p lo↔∃ m,Runs R xs l p m/\Runs R xs l' m lo
 | [],l',p,lo=>⟨fun h=>⟨p,rfl,h⟩,fun⟨m,h1,h2⟩=>by have:p=m:=h1;subst this;exact h2⟩
 | (s,n,q)::l,l',p,lo=>by
  constructor
  ·rintro⟨h1,h2,h3,h4⟩
   obtain⟨m,h5,h6⟩:=Runs.app.mp h4
   exact⟨m,⟨h1,h2,h3,h5⟩,h6⟩
  ·rintro⟨m,⟨h1,h2,h3,h4⟩,h5⟩
   exact⟨h1,h2,h3,Runs.app.mpr ⟨m,h4,h5⟩⟩
theorem Inc.congr {xs ys:Array Keyed}{i j:Nat}(h:Inc R xs i j) (e:∀ k,i<=k->k<j->rk R ys k=rk R xs k):Inc R ys i j:=fun k l h1 h2 h3=>by
 rw[e k h1 (by lia),e l (by lia) h3];exact h k l h1 h2 h3
theorem Runs.congr {xs ys:Array Keyed}:∀ {l:List (Nat×Nat×Nat)}{p lo:Nat},Runs R xs l p lo->(∀ k,p<=k->k<lo->rk R ys k=rk R xs k)->Runs R ys l p lo
 | [],p,lo,h,_=>h
 | (s,n,_)::rest,p,lo,⟨h1,h2,h3,h4⟩,e=>by
  have:=h4.le
  exact⟨h1,h2,h3.congr fun k a b=>e k a (by lia),h4.congr fun k a b=>e k (by lia) b⟩
theorem Runs.modify {xs:Array Keyed}{f:Nat×Nat×Nat->Nat×Nat×Nat}(hf:∀ q,(f q).1=q.1/\(f q).2.1=q.2.1):∀ {l:List (Nat×Nat×Nat)}{i p lo:Nat},Runs R xs l p lo->Runs R xs (l.modify i f) p lo
 | [],i,p,lo,h=>by simpa using h
 | (s,n,q)::rest,0,p,lo,⟨h1,h2,h3,h4⟩=>by
  have:=hf (s,n,q)
  rw[List.modify_zero_cons]
  generalize f (s,n,q)=z at this
  obtain⟨s',n',q'⟩:=z
  obtain⟨e1,e2⟩:=this
  dsimp only at e1 e2
  subst e1;subst e2
  exact⟨h1,h2,h3,h4⟩
 | (s,n,q)::rest,i+1,p,lo,⟨h1,h2,h3,h4⟩=>by
  rw[List.modify_succ_cons]
  exact⟨h1,h2,h3,h4.modify hf⟩
theorem Inc.pw {xs:Array Keyed}{i j:Nat}(h:Inc R xs i j) (hj:j<=xs.size):(xs.extract i j).toList.Pairwise (fun x y=>R x<R y):=by
 rw[List.pairwise_iff_getElem]
 intro k l hk hl hkl
 have hs:(xs.extract i j).size=j-i:=by simp;lia
 have hk':k<j-i:=by rw[←hs,←Array.length_toList];exact hk
 have hl':l<j-i:=by rw[←hs,←Array.length_toList];exact hl
 have:=h (i+k) (i+l) (by lia) (by lia) (by lia)
 rw[rk_some (getElem?_pos xs (i+k) (by lia)),rk_some (getElem?_pos xs (i+l) (by lia))] at this
 simpa using this
theorem wpS_mergeAtF {st:SortSt}(O:Rank a₀ R) (B:Bs a₀ st) {pre post:List (Nat×Nat×Nat)}{sa na pw sb nb pw' i:Nat}(hp:(pendingOf st).toList=pre++(sa,na,pw)::(sb,nb,pw')::post) (hi:pre.length=i)
  (hsb:sb=sa+na) (hna:0<na) (hnb:0<nb) (hsz:sb+nb<=a₀.size) (h1:Inc R (arrOf st) sa (sa+na)) (h2:Inc R (arrOf st) sb (sb+nb)) {Q:Bool->SortSt->Prop}
  (h:∀ st',Bs a₀ st'->(pendingOf st').toList=pre++(sa,na+nb,pw)::post->(∀ k,k<sa\/sa+na+nb<=k->rk R (arrOf st') k=rk R (arrOf st) k)->Inc R (arrOf st') sa (sa+na+nb)->Q true st') :
  wpS (model prog w) A E s (mergeAt' i) Q st:=by
 subst hi
 have p1:(pendingOf st)[pre.length]? = some (sa,na,pw):=by
  rw[←Array.getElem?_toList,hp,List.getElem?_append_right (Nat.le_refl _)];simp
 have p2:(pendingOf st)[pre.length+1]? = some (sb,nb,pw'):=by
  rw[←Array.getElem?_toList,hp,List.getElem?_append_right (by lia)];simp
 have p3:(((pendingOf st).setIfInBounds pre.length (sa,na+nb,pw)).eraseIdxIfInBounds (pre.length+1)).toList=pre++(sa,na+nb,pw)::post:=by
  rw[Array.toList_eraseIdxIfInBounds,Array.toList_setIfInBounds,hp,List.set_append_right _ _ (Nat.le_refl _),List.eraseIdx_append_of_length_le (by lia)]
  simp
 have bsz:=B.size
 unfold mergeAt'
 refine wpS_bind (wpS_get ?_)
 rw[p1,p2]
 dsimp only
 refine wpS_bind (wpS_set ?_)
 obtain⟨key,e1,m1,r1⟩:=perm_at (R:=R) B.perm (i:=sb) (by lia)
 refine wpS_bind (wpS_elemF e1 ?_)
 have G1:Gal a₀ R key (arrOf st) sa na:=⟨m1,fun i hi=>by
   obtain⟨p,a1,a2,_⟩:=perm_at (R:=R) B.perm (i:=sa+i) (by lia);exact⟨p,a1,a2⟩,
  fun i j a1 a2=>h1 _ _ (by lia) (by lia) (by lia),fun i hi=>by rw[←r1];exact perm_ne O B.perm (by lia) (by lia) (by lia)⟩
 refine wpS_bind (wpS_gallopF O B.kind G1 hna fun k k1 k2' k3'=>?_)
 have k2:∀ i,i<k->rk R (arrOf st) (sa+i)<rk R (arrOf st) sb:=fun i hi=>by rw[r1];exact k2' i hi
 have k3:∀ i,k<=i->i<na->rk R (arrOf st) sb<rk R (arrOf st) (sa+i):=fun i h1 h2=>by rw[r1];exact k3' i h1 h2
 dsimp only
 have B1:Bs a₀ (setPending st (((pendingOf st).setIfInBounds pre.length (sa,na+nb,pw)).eraseIdxIfInBounds (pre.length+1))):=⟨B.perm,B.kind,B.failed⟩
 by_cases hz:na-k=0
 ·rw[if_pos (by simpa using hz)]
  refine wpS_pure (h _ B1 p3 (fun _ _=>rfl) fun i j a1 a2 a3=>?_)
  have:k=na:=by lia
  subst this
  show rk R (arrOf st) i<rk R (arrOf st) j
  by_cases c1:j<sb
  ·exact h1 i j a1 a2 (by lia)
  ·by_cases c2:i<sb
   ·have x1:=k2 (i-sa) (by lia)
    rw[show sa+(i-sa)=i by lia] at x1
    by_cases c3:j=sb
    ·rw[c3];exact x1
    ·have:=h2 sb j (by lia) (by lia) (by lia);lia
   ·exact h2 i j (by lia) a2 (by lia)
 ·rw[if_neg (by simpa using hz)]
  obtain⟨key2,e2,m2,r2⟩:=perm_at (R:=R) B.perm (i:=sa+k+(na-k)-1) (by lia)
  refine wpS_bind (wpS_elemF e2 ?_)
  have G2:Gal a₀ R key2 (arrOf st) sb nb:=⟨m2,fun i hi=>by
    obtain⟨p,a1,a2,_⟩:=perm_at (R:=R) B.perm (i:=sb+i) (by lia);exact⟨p,a1,a2⟩,
   fun i j a1 a2=>h2 _ _ (by lia) (by lia) (by lia),fun i hi=>by rw[←r2];exact perm_ne O B.perm (by lia) (by lia) (by lia)⟩
  refine wpS_bind (wpS_gallopF O B.kind G2 (by lia) fun n n1 n2' n3'=>?_)
  rw[show sa+k+(na-k)-1=sb-1 by lia] at e2 r2
  have n2:∀ i,i<n->rk R (arrOf st) (sb+i)<rk R (arrOf st) (sb-1):=fun i hi=>by rw[r2];exact n2' i hi
  have n3:∀ i,n<=i->i<nb->rk R (arrOf st) (sb-1)<rk R (arrOf st) (sb+i):=fun i h1 h2=>by rw[r2];exact n3' i h1 h2
  dsimp only
  have big:=k3 (na-1) (by lia) (by lia)
  rw[show sa+(na-1)=sb-1 by lia] at big
  by_cases hn0:n=0
  ·exfalso
   have:=n3 0 (by lia) hnb
   rw[Nat.add_zero] at this
   lia
  ·rw[if_neg (by simpa using hn0)]
   have sx:((arrOf st).extract (sa+k) sb).size=sb-(sa+k):=by simp;lia
   have sy:((arrOf st).extract sb (sb+n)).size=n:=by simp;lia
   have T:Two a₀ R ((arrOf st).extract (sa+k) sb) ((arrOf st).extract sb (sb+n)):={
    ina:=fun p hp=>by
     obtain⟨j,_,_,e⟩:=mem_seg' hp
     exact (Array.perm_iff_toList_perm.mp B.perm).mem_iff.mp (mem_at e)
    inb:=fun p hp=>by
     obtain⟨j,_,_,e⟩:=mem_seg' hp
     exact (Array.perm_iff_toList_perm.mp B.perm).mem_iff.mp (mem_at e)
    pa:=Inc.pw (fun a b c d f=>h1 a b (by lia) d (by lia)) (by lia)
    pb:=Inc.pw (fun a b c d f=>h2 a b (by lia) d (by lia)) (by lia)
    ne:=fun p hp q hq=>by
     obtain⟨j,j1,j2,e⟩:=mem_seg' hp
     obtain⟨l,l1,l2,f⟩:=mem_seg' hq
     rw[←rk_some (R:=R) e,←rk_some (R:=R) f]
     exact perm_ne O B.perm (by lia) (by lia) (by lia)
    first:=fun y hy p hp=>by
     have hy':(arrOf st)[sb]? = some y:=by
      rw[Array.getElem?_extract] at hy
      split at hy
      ·simpa using hy
      ·cases hy
     obtain⟨j,j1,j2,e⟩:=mem_seg' hp
     rw[←rk_some (R:=R) e,←rk_some (R:=R) hy']
     have:=k3 (j-sa) (by lia) (by lia)
     rwa [show sa+(j-sa)=j by lia] at this
    last:=fun z hz q hq=>by
     have hz':(arrOf st)[sb-1]? = some z:=by
      rw[sx,Array.getElem?_extract] at hz
      split at hz
      ·rw[show sa+k+(sb-(sa+k)-1)=sb-1 by lia] at hz;exact hz
      ·cases hz
     obtain⟨j,j1,j2,e⟩:=mem_seg' hq
     rw[←rk_some (R:=R) e,←rk_some (R:=R) hz']
     have:=n2 (j-sb) (by lia)
     rwa [show sb+(j-sb)=j by lia] at this
    na:=by lia
    nb:=by lia }
   have fin:∀ r st',Sg (setPending st (((pendingOf st).setIfInBounds pre.length (sa,na+nb,pw)).eraseIdxIfInBounds (pre.length+1))) st'->GdL R ((arrOf st).extract (sa+k) sb) ((arrOf st).extract sb (sb+n)) r ->
     wpS (model prog w) A E s (do
      modify fun s=>setArr s (List.foldl (fun a (x:Keyed×Nat)=>match x with | (p,j)=>a.setIfInBounds (sa+k+j) p) (arrOf s) r.toList.zipIdx)
      let g←get
      pure (failedOf g).isNone) Q st':=fun r st' S G=>by
    have hlen:r.toList.length=sb+n-(sa+k):=by
     have:=G.perm.length_eq
     rw[List.length_append] at this
     simp only[Array.length_toList] at this ⊢
     rw[this,sx,sy];lia
    have ea:arrOf st'=arrOf st:=S.arr
    have ew:=foldl_writes (sa+k) r.toList 0 (arrOf st) (by rw[hlen];lia)
    rw[Nat.add_zero,hlen,show sa+k+(sb+n-(sa+k))=sb+n by lia] at ew
    have eo:(arrOf st).toList=(arrOf st).toList.take (sa+k)++(((arrOf st).extract (sa+k) sb).toList++((arrOf st).extract sb (sb+n)).toList)++(arrOf st).toList.drop (sb+n):=by
     have x1:=drop_seg (a:=arrOf st) (i:=sa+k) (k:=sb-(sa+k)) (by lia)
     rw[show sa+k+(sb-(sa+k))=sb by lia] at x1
     have x2:=drop_seg (a:=arrOf st) (i:=sb) (k:=n) (by lia)
     rw[List.append_assoc,List.append_assoc,←x2,←x1,List.take_append_drop]
    refine wpS_bind (wpS_modify ?_)
    refine wpS_bind (wpS_get ?_)
    have hf:failedOf st'=none:=S.fail.trans B.failed
    have:=ea
    generalize hW:List.foldl (fun a (x:Keyed×Nat)=>match x with | (p,j)=>a.setIfInBounds (sa+k+j) p) (arrOf st) r.toList.zipIdx=W at ew
    have hW':List.foldl (fun a (x:Keyed×Nat)=>match x with | (p,j)=>a.setIfInBounds (sa+k+j) p) (arrOf st') r.toList.zipIdx=W:=by rw[ea];exact hW
    have hQ:Q true (setArr st' W):=by
     have hPm:W.Perm (arrOf st):=by
      refine Array.perm_iff_toList_perm.mpr ?_
      rw[ew]
      conv=>rhs;rw[eo]
      exact ((G.perm.append_left _).append_right _)
     have hWl:W.toList.length=a₀.size:=by
      rw[(Array.perm_iff_toList_perm.mp hPm).length_eq,Array.length_toList,bsz]
     have htl:((arrOf st).toList.take (sa+k)).length=sa+k:=by
      rw[List.length_take,Array.length_toList];lia
     have o1:∀ j,j<sa+k->rk R W j=rk R (arrOf st) j:=fun j hj=>by
      refine rk_congr ?_
      rw[←Array.getElem?_toList,←Array.getElem?_toList,ew,List.append_assoc,List.getElem?_append_left (by lia),List.getElem?_take,if_pos hj]
     have o2:∀ j,sb+n<=j->rk R W j=rk R (arrOf st) j:=fun j hj=>by
      refine rk_congr ?_
      rw[←Array.getElem?_toList,←Array.getElem?_toList,ew,List.getElem?_append_right (by rw[List.length_append,htl,hlen];lia),List.getElem?_drop]
      congr 1
      rw[List.length_append,htl,hlen];lia
     have o3:∀ j,sa+k<=j->j<sb+n->W[j]? = r[j-(sa+k)]?:=fun j ha hb=>by
      rw[←Array.getElem?_toList,←Array.getElem?_toList,ew,List.getElem?_append_left (by rw[List.length_append,htl,hlen];lia),List.getElem?_append_right (by lia),htl]
     have rsz:r.size=sb+n-(sa+k):=by rw[←Array.length_toList];exact hlen
     have o4:∀ j,sa+k<=j->j<sb+n->∃ l,sa+k<=l/\l<sb+n/\rk R W j=rk R (arrOf st) l:=fun j ha hb=>by
      have e:=getElem?_pos r (j-(sa+k)) (by lia)
      rw[rk_some ((o3 j ha hb).trans e)]
      have hm:r[j-(sa+k)]∈r.toList:=by simp
      rcases List.mem_append.mp (G.perm.mem_iff.mp hm) with hm | hm
      ·obtain⟨l,l1,l2,f⟩:=mem_seg' hm
       exact⟨l,l1,by lia,(rk_some f).symm⟩
      ·obtain⟨l,l1,l2,f⟩:=mem_seg' hm
       exact⟨l,by lia,l2,(rk_some f).symm⟩
     have o5:∀ j l,sa+k<=j->j<l->l<sb+n->rk R W j<rk R W l:=fun j l ha hjl hb=>by
      have e:=getElem?_pos r (j-(sa+k)) (by lia)
      have f:=getElem?_pos r (l-(sa+k)) (by lia)
      rw[rk_some ((o3 j ha (by lia)).trans e),rk_some ((o3 l (by lia) hb).trans f)]
      have:=List.pairwise_iff_getElem.mp G.srt (j-(sa+k)) (l-(sa+k)) (by rw[hlen];lia) (by rw[hlen];lia) (by lia)
      simpa using this
     have lowA:∀ j,sa<=j->j<sa+k->∀ l,sa+k<=l->l<sb+nb->rk R (arrOf st) j<rk R (arrOf st) l:=fun j ja jb l la lb=>by
      by_cases c:l<sb
      ·exact h1 j l ja (by lia) (by lia)
      ·have x:=k2 (j-sa) (by lia)
       rw[show sa+(j-sa)=j by lia] at x
       by_cases c2:l=sb
       ·rw[c2];exact x
       ·have:=h2 sb l (Nat.le_refl _) (by lia) lb;lia
     have highB:∀ j,sb+n<=j->j<sb+nb->∀ l,sa+k<=l->l<sb+n->rk R (arrOf st) l<rk R (arrOf st) j:=fun j ja jb l la lb=>by
      by_cases c:l<sb
      ·have x:=n3 (j-sb) (by lia) (by lia)
       rw[show sb+(j-sb)=j by lia] at x
       by_cases c2:l=sb-1
       ·rw[c2];exact x
       ·have:=h1 l (sb-1) (by lia) (by lia) (by lia);lia
      ·exact h2 l j (by lia) (by lia) jb
     refine h _ ⟨hPm.trans B.perm,S.kind.trans B.kind,hf⟩ ?_ (fun j hj=>?_) fun j l a1 a2 a3=>?_
     ·show (pendingOf st').toList=_
      rw[S.pend];exact p3
     ·show rk R W j=_
      rcases hj with hj | hj
      ·exact o1 j (by lia)
      ·exact o2 j (by lia)
     ·show rk R W j<rk R W l
      by_cases c1:l<sa+k
      ·rw[o1 j (by lia),o1 l c1];exact h1 j l a1 a2 (by lia)
      by_cases c2:l<sb+n
      ·by_cases c3:j<sa+k
       ·obtain⟨m,m1,m2,em⟩:=o4 l (by lia) c2
        rw[o1 j c3,em];exact lowA j a1 c3 m m1 (by lia)
       ·exact o5 j l (by lia) a2 c2
      ·rw[o2 l (by lia)]
       by_cases c3:j<sa+k
       ·rw[o1 j c3];exact lowA j a1 c3 l (by lia) (by lia)
       ·by_cases c4:j<sb+n
        ·obtain⟨m,m1,m2,em⟩:=o4 j (by lia) c4
         rw[em];exact highB l (by lia) (by lia) m m1 m2
        ·rw[o2 j (by lia)];exact h2 j l (by lia) a2 (by lia)
    subst hW'
    refine wpS_pure ?_
    show Q (failedOf st').isNone _
    rw[hf]
    exact hQ
   by_cases hle:na-k<=n
   ·rw[if_pos hle]
    exact wpS_bind (wpS_mergeLoF (st:=(setPending st (((pendingOf st).setIfInBounds pre.length (sa,na+nb,pw)).eraseIdxIfInBounds (pre.length+1)))) O B.kind T fin)
   ·rw[if_neg hle]
    exact wpS_bind (wpS_mergeHiF (st:=(setPending st (((pendingOf st).setIfInBounds pre.length (sa,na+nb,pw)).eraseIdxIfInBounds (pre.length+1)))) O B.kind T fin)
theorem wpS_mergeRuns {st:SortSt}(O:Rank a₀ R) (B:Bs a₀ st) {lo i:Nat}(hr:Runs R (arrOf st) (pendingOf st).toList 0 lo) (hlo:lo<=a₀.size) (hi:i+1<(pendingOf st).size) {Q:Bool->SortSt->Prop}
  (h:∀ st',Bs a₀ st'->Runs R (arrOf st') (pendingOf st').toList 0 lo->(pendingOf st').size+1=(pendingOf st).size->(∀ k,lo<=k->rk R (arrOf st') k=rk R (arrOf st) k)->Q true st') :
  wpS (model prog w) A E s (mergeAt' i) Q st:=by
 obtain⟨pre,⟨sa,na,pw⟩,⟨sb,nb,pw'⟩,post,e,hl⟩:=split_two (pendingOf st).toList i (by simpa using hi)
 rw[e] at hr
 obtain⟨m,r1,r2⟩:=Runs.app.mp hr
 obtain⟨rfl,hna,i1,rfl,hnb,i2,r3⟩:=r2
 have:=r3.le
 have:=r1.le
 refine wpS_mergeAtF O B e hl rfl hna hnb (by lia) i1 i2 fun st' B' e' same inc=>?_
 refine h st' B' ?_ ?_ fun k hk=>same k (by lia)
 ·rw[e']
  refine Runs.app.mpr ⟨_,r1.congr fun k a b=>same k (by lia),rfl,by lia,by rw[←Nat.add_assoc];exact inc,?_⟩
  rw[←Nat.add_assoc]
  exact r3.congr fun k a b=>same k (by lia)
 ·rw[←Array.length_toList,←Array.length_toList,e,e']
  simp;lia
def jpPush (lo n:Nat):StateT SortSt Sem (ForInStep (Option Unit×Nat)):=do
 modify fun s=>setPending s ((pendingOf s).push (lo,n,0))
 pure (ForInStep.yield (none,lo+n))
def jpRun (size lo n:Nat):StateT SortSt Sem (ForInStep (Option Unit×Nat)):=do
 let g←get
 match (pendingOf g).back? with
 | some (s1,n1,_)=>do
  let r←forIn [0:size] ((none,()):Option Unit×Unit) fun _ _=>do
   let g←get
   match (if (pendingOf g).size>1 then (pendingOf g)[(pendingOf g).size-2]? else none) with
   | some (_,_,older)=>
    if older<=power' size (2*s1+n1) (2*s1+n1+n1+n) size then pure (ForInStep.done (none,())) else do
     let ok←mergeAt' ((pendingOf g).size-2)
     if (!ok)=true then pure (ForInStep.done (some (),())) else pure (ForInStep.yield (none,()))
   | _=>pure (ForInStep.done (none,()))
  match r.fst with
  | some r=>pure (ForInStep.done (some r,lo))
  | none=>do
   modify fun s=>setPending s ((pendingOf s).modify ((pendingOf s).size-1) fun x=>(x.fst,x.2.fst,power' size (2*s1+n1) (2*s1+n1+n1+n) size))
   jpPush lo n
 | _=>jpPush lo n
theorem wpS_push {st:SortSt}(B:Bs a₀ st) {lo n:Nat}(hr:Runs R (arrOf st) (pendingOf st).toList 0 lo) (hn:1<=n) (hi:Inc R (arrOf st) lo (lo+n)) {Q:ForInStep (Option Unit×Nat)->SortSt->Prop}
  (h:∀ st',Bs a₀ st'->Runs R (arrOf st') (pendingOf st').toList 0 (lo+n)->Q (.yield (none,lo+n)) st'):wpS (model prog w) A E s (jpPush lo n) Q st:=by
 unfold jpPush
 refine wpS_bind (wpS_modify (wpS_pure (h _ ⟨B.perm,B.kind,B.failed⟩ ?_)))
 show Runs R (arrOf st) ((pendingOf st).push (lo,n,0)).toList 0 (lo+n)
 rw[Array.toList_push]
 exact Runs.app.mpr ⟨lo,hr,rfl,hn,hi,rfl⟩
theorem wpS_run {st:SortSt}(O:Rank a₀ R) (B:Bs a₀ st) {size lo n:Nat}(hr:Runs R (arrOf st) (pendingOf st).toList 0 lo) (hn:1<=n) (hlo:lo+n<=a₀.size) (hi:Inc R (arrOf st) lo (lo+n)) {Q:ForInStep (Option Unit×Nat)->SortSt->Prop}
  (h:∀ st',Bs a₀ st'->Runs R (arrOf st') (pendingOf st').toList 0 (lo+n)->Q (.yield (none,lo+n)) st'):wpS (model prog w) A E s (jpRun size lo n) Q st:=by
 unfold jpRun
 refine wpS_bind (wpS_get ?_)
 split
 ·rename_i s1 n1 x _
  refine wpS_bind (wpS_mono (wpS_forRange (I:=fun _ c st'=>c=(none,())/\Bs a₀ st'/\Runs R (arrOf st') (pendingOf st').toList 0 lo/\Inc R (arrOf st') lo (lo+n))
   (Q:=fun c st'=>c=(none,())/\Bs a₀ st'/\Runs R (arrOf st') (pendingOf st').toList 0 lo/\Inc R (arrOf st') lo (lo+n)) ?step (fun _ _ hh=>hh) ⟨rfl,B,hr,hi⟩) ?post)
  case step=>
   rintro x c st' _ _ ⟨rfl,B',hr',hi'⟩
   refine wpS_bind (wpS_get ?_)
   by_cases hp:(pendingOf st').size>1
   ·rw[if_pos hp,getElem?_pos (pendingOf st') _ (by lia)]
    dsimp only
    split
    ·exact wpS_pure ⟨rfl,B',hr',hi'⟩
    ·refine wpS_bind (wpS_mergeRuns O B' hr' (by lia) (by lia) fun st2 B2 hr2 _ same=>?_)
     rw[if_neg (by simp)]
     exact wpS_pure ⟨rfl,B2,hr2,hi'.congr fun k a b=>same k a⟩
   ·rw[if_neg hp]
    exact wpS_pure ⟨rfl,B',hr',hi'⟩
  case post=>
   rintro c st' ⟨rfl,B',hr',hi'⟩
   dsimp only
   refine wpS_bind (wpS_modify ?_)
   refine wpS_push (st:=setPending st' ((pendingOf st').modify ((pendingOf st').size-1) fun x=>(x.fst,x.2.fst,power' size (2*s1+n1) (2*s1+n1+n1+n) size))) ⟨B'.perm,B'.kind,B'.failed⟩ ?_ hn hi' h
   show Runs R (arrOf st') ((pendingOf st').modify _ _).toList 0 lo
   rw[Array.toList_modify]
   exact Runs.modify (f:=fun x=>(x.fst,x.2.fst,power' size (2*s1+n1) (2*s1+n1+n1+n) size)) (fun q=>⟨rfl,rfl⟩) hr'
 ·exact wpS_push B hr hn hi h
def RunQ (a₀:Array Keyed) (R:Keyed->Nat) (x:Nat) (r:ForInStep (Option Unit×Nat)) (st'':SortSt):Prop:=match r with
 | .done c'=>c'=(none,a₀.size)/\Bs a₀ st''/\Runs R (arrOf st'') (pendingOf st'').toList 0 a₀.size
 | .yield c'=>∃ lo,c'=(none,lo)/\Bs a₀ st''/\Runs R (arrOf st'') (pendingOf st'').toList 0 lo/\lo<=a₀.size/\x+1<=lo
theorem wpS_sortRunsF {st:SortSt}(O:Rank a₀ R) (B:Bs a₀ st) (hp0:pendingOf st = #[]) (hsz2:2<=a₀.size) {Q:Unit->SortSt->Prop}
  (h:∀ st',Bs a₀ st'->Inc R (arrOf st') 0 a₀.size->Q () st'):wpS (model prog w) A E s sortRuns' Q st:=by
 rw[sortRuns'_eq]
 refine wpS_bind (wpS_get ?_)
 dsimp only
 rw[B.size]
 generalize minRun' a₀.size a₀.size 0=mr
 refine wpS_bind (wpS_mono (wpS_forRange (I:=fun x c st'=>∃ lo,c=(none,lo)/\Bs a₀ st'/\Runs R (arrOf st') (pendingOf st').toList 0 lo/\lo<=a₀.size/\x<=lo)
  (Q:=fun c st'=>c=(none,a₀.size)/\Bs a₀ st'/\Runs R (arrOf st') (pendingOf st').toList 0 a₀.size) ?step ?fin ⟨0,rfl,B,by rw[hp0];rfl,by lia,Nat.le_refl _⟩) ?post)
 case fin=>
  rintro c st' ⟨lo,rfl,B',hr,h1,h2⟩
  have:lo=a₀.size:=by lia
  subst this
  exact⟨rfl,B',hr⟩
 case step=>
  rintro x c st' _ hx ⟨lo,rfl,B',hr,h1,h2⟩
  dsimp only
  by_cases hge:lo ≥ a₀.size
  ·rw[if_pos hge]
   have:lo=a₀.size:=by lia
   subst this
   exact wpS_pure ⟨rfl,B',hr⟩
  ·rw[if_neg hge]
   refine wpS_bind (wpS_countRunF O B' (by lia) (by lia) fun m st2 B2 K2 m1 m2 i2=>?_)
   dsimp only
   have fin:∀ n st3,Bs a₀ st3->Kept R lo st' st3->1<=n->n<=a₀.size-lo->Inc R (arrOf st3) lo (lo+n)->wpS (model prog w) A E s (jpRun a₀.size lo n) (RunQ a₀ R x) st3:=fun n st3 B3 K3 n1 n2 i3=>by
    refine wpS_run O B3 ?_ n1 (by lia) i3 fun st4 B4 hr4=>⟨_,rfl,B4,hr4,by lia,by lia⟩
    rw[K3.pend]
    exact hr.congr fun k a b=>K3.front k b
   by_cases hlt:m<mr
   ·rw[if_pos hlt]
    refine wpS_bind (wpS_lift0 (wpAny_rule ⟨rfl,?_⟩))
    refine wpS_bind (wpS_binaryF O B2 (by lia) m1 (by lia) i2 fun st3 B3 K3 i3=>?_)
    rw[if_neg (by simp)]
    have fin':=(fin _ st3 B3 ⟨K3.pend.trans K2.pend,fun i hi=>(K3.front i hi).trans (K2.front i hi)⟩ (by lia) (by lia) i3)
    refine wpS_mono (Q:=RunQ a₀ R x) ?_ (fun r _ h=>by cases r <;> exact h)
    refine Eq.mp ?_ fin'
    unfold jpRun jpPush
    congr 1
    congr 1
    funext g
    cases hb:(pendingOf g).back? with
    | none=>rfl
    | some q=>
     obtain⟨s1,n1,_⟩:=q
     dsimp only
     congr 1
     funext c
     obtain⟨c,_⟩:=c
     cases c <;> rfl
   ·rw[if_neg hlt]
    have fin':=fin _ st2 B2 K2 m1 m2 i2
    refine wpS_mono (Q:=RunQ a₀ R x) ?_ (fun r _ h=>by cases r <;> exact h)
    refine Eq.mp ?_ fin'
    unfold jpRun jpPush
    congr 1
    congr 1
    funext g
    cases hb:(pendingOf g).back? with
    | none=>rfl
    | some q=>
     obtain⟨s1,n1,_⟩:=q
     dsimp only
     congr 1
     funext c
     obtain⟨c,_⟩:=c
     cases c <;> rfl
 case post=>
  rintro c st' ⟨rfl,B',hr⟩
  dsimp only
  have hpl:(pendingOf st').size<=a₀.size:=by have:=hr.le;rw[Array.length_toList] at this;lia
  refine wpS_bind (wpS_mono (wpS_forRange (I:=fun x c st'=>c=(none,())/\Bs a₀ st'/\Runs R (arrOf st') (pendingOf st').toList 0 a₀.size/\(pendingOf st').size<=max 1 (a₀.size-x))
   (Q:=fun c st'=>c=(none,())/\Bs a₀ st'/\Runs R (arrOf st') (pendingOf st').toList 0 a₀.size/\(pendingOf st').size<=1) ?step2 ?fin2 ⟨rfl,B',hr,by lia⟩) ?post2)
  case fin2=>
   rintro c st' ⟨hc,B',hr,hs⟩
   exact⟨hc,B',hr,by lia⟩
  case step2=>
   rintro x c st' _ hx ⟨rfl,B',hr,hs⟩
   refine wpS_bind (wpS_get ?_)
   by_cases hle:(pendingOf st').size<=1
   ·rw[if_pos hle]
    exact wpS_pure ⟨rfl,B',hr,hle⟩
   ·rw[if_neg hle]
    refine wpS_bind (wpS_mergeRuns O B' hr (Nat.le_refl _) ?_ fun st2 B2 hr2 hs2 _=>?_)
    ·repeat' split
     all_goals lia
    ·rw[if_neg (by simp)]
     exact wpS_pure ⟨rfl,B2,hr2,by lia⟩
  case post2=>
   rintro c st' ⟨rfl,B',hr,hs⟩
   refine wpS_pure (h st' B' ?_)
   have hs':(pendingOf st').toList.length<=1:=by rw[Array.length_toList];exact hs
   match hq:(pendingOf st').toList,hs',hr with
   | [],_,hr=>exfalso;have:0=a₀.size:=hr;lia
   | [(s,n,q)],_,⟨_,_,hi,hr⟩=>
    have:0+n=a₀.size:=hr
    rw[Nat.zero_add] at this hi
    rw[←this];exact hi
end
end SortL
set_option maxHeartbeats 1000000
namespace SortL
open PySem PyProof.Rows
abbrev Lx (x y:Str):Prop:=x.cps.toList<y.cps.toList
def cnt (ss:List Str) (y:Str):Nat:=ss.countP fun x=>decide (Lx x y)
theorem cnt_le {ss:List Str}{x y:Str}(h:Lx x y):cnt ss x<=cnt ss y:=
 List.countP_mono_left fun u _ hu=>by
  simp only[decide_eq_true_eq] at *
  exact List.lt_trans hu h
theorem cnt_lt {ss:List Str}{x y:Str}(hx:x∈ss) (h:Lx x y):cnt ss x<cnt ss y:=by
 obtain⟨l1,l2,rfl⟩:=List.append_of_mem hx
 have h1:=cnt_le (ss:=l1) h
 have h2:=cnt_le (ss:=l2) h
 unfold cnt at *
 rw[List.countP_append,List.countP_append,List.countP_cons,List.countP_cons]
 have e1:decide (Lx x x)=false:=decide_eq_false (List.lt_irrefl _)
 have e2:decide (Lx x y)=true:=decide_eq_true h
 simp only[e1,e2,Bool.false_eq_true,if_false,if_true]
 omega
theorem str_tri {x y:Str}(h:x≠y):Lx x y\/Lx y x:=by
 by_cases h1:Lx x y
 ·exact .inl h1
 ·by_cases h2:Lx y x
  ·exact .inr h2
  ·exfalso
   have e:=List.le_antisymm (List.not_lt.mp h1) (List.not_lt.mp h2)
   apply h
   cases x;cases y
   have:=Array.toList_inj.mp e
   simp only at this
   rw[this]
theorem cnt_iff {ss:List Str}{x y:Str}(hx:x∈ss) (hy:y∈ss):cnt ss x<cnt ss y↔Lx x y:=by
 constructor
 ·intro h
  by_cases e:x=y
  ·subst e;omega
  ·rcases str_tri e with h1 | h1
   ·exact h1
   ·have:=cnt_lt hy h1;omega
 ·exact cnt_lt hx
theorem cnt_ne {ss:List Str}{x y:Str}(hx:x∈ss) (hy:y∈ss) (h:x≠y):cnt ss x≠cnt ss y:=by
 rcases str_tri h with h1 | h1
 ·have:=cnt_lt hx h1;omega
 ·have:=cnt_lt hy h1;omega
def Rt (ss:List Str) (p:Keyed):Nat:=cnt ss (strOf p.1)
theorem mem_pairs {vs:List Value}{ss:List Str}(hS:StrsAre vs ss) {p:Keyed}(hp:p∈(pairsOf vs).toList):p.1=p.2/\p.1∈vs/\strOf p.1∈ss/\∃ x t,p.1 = .str x t:=by
 rw[pairsOf_toList] at hp
 have:=mem_zip_self hp
 refine⟨this.1,this.2,?_,hS.all _ this.2⟩
 rw[←hS.strs]
 exact List.mem_map_of_mem this.2
theorem rank_texts {vs:List Value}{ss:List Str}(hS:StrsAre vs ss) (hnd:ss.Nodup):Rank (pairsOf vs) (Rt ss) where
 lt:=fun prog w A E s x y Q hx hy q=>by
  obtain⟨_,_,mx,u,t,ex⟩:=mem_pairs hS hx
  obtain⟨_,_,my,v,t',ey⟩:=mem_pairs hS hy
  have e:decide (Rt ss x<Rt ss y)=decide (u.cps.toList<v.cps.toList):=by
   have:=cnt_iff mx my
   rw[ex,ey] at this
   have e2:Rt ss x<Rt ss y↔Lx u v:=by
    unfold Rt;rw[ex,ey];exact this
   exact decide_eq_decide.mpr e2
  rw[e] at q
  rw[ex,ey]
  exact oneLt_str q
 nodup:=by
  have e:(pairsOf vs).toList.map (Rt ss)=ss.map (cnt ss):=by
   rw[pairsOf_toList]
   have:(vs.zip vs).map (Rt ss)=(((vs.zip vs).map Prod.fst).map strOf).map (cnt ss):=by rw[List.map_map,List.map_map];rfl
   rw[this,List.map_fst_zip (Nat.le_refl _),hS.strs]
  rw[e]
  exact List.pairwise_map.mpr (List.Pairwise.imp_of_mem (fun ha hb hab=>cnt_ne ha hb hab) hnd)
theorem texts_out {vs:List Value}{ss:List Str}(hS:StrsAre vs ss) {xs:Array Keyed}(hp:xs.Perm (pairsOf vs)) (hi:Inc (Rt ss) xs 0 (pairsOf vs).size) :
  ∃ ss',StrsAre (xs.map (·.2)).toList ss'/\ss'.Perm ss/\ss'.Pairwise Lx:=by
 have hl:xs.toList.Perm (pairsOf vs).toList:=Array.perm_iff_toList_perm.mp hp
 have hm:∀ p,p∈xs.toList->p.1=p.2/\p.1∈vs/\strOf p.1∈ss/\∃ x t,p.1 = .str x t:=fun p h=>mem_pairs hS (hl.mem_iff.mp h)
 refine⟨xs.toList.map fun p=>strOf p.1,?_,?_,?_⟩
 ·rw[Array.toList_map,show xs.toList.map (·.2)=xs.toList.map (·.1) from List.map_congr_left fun p h=>(hm p h).1.symm]
  have:=strsAre_map (xs.toList.map (·.1)) (fun v hv=>by
   obtain⟨p,h,rfl⟩:=List.mem_map.mp hv
   exact (hm p h).2.2.2)
  rwa [List.map_map] at this
 ·have h1:=hl.map (fun p=>strOf p.1)
  rw[pairsOf_toList] at h1
  have:(vs.zip vs).map (fun p=>strOf p.1)=((vs.zip vs).map Prod.fst).map strOf:=by rw[List.map_map];rfl
  rw[this,List.map_fst_zip (Nat.le_refl _),hS.strs] at h1
  exact h1
 ·refine List.pairwise_map.mpr (List.pairwise_iff_getElem.mpr fun i j h1 h2 hij=>?_)
  have i1:i<xs.size:=by simpa using h1
  have j1:j<xs.size:=by simpa using h2
  have:=hi i j (Nat.zero_le _) hij (by rw[←hp.size_eq];exact j1)
  rw[rk_some (getElem?_pos xs i i1),rk_some (getElem?_pos xs j j1)] at this
  have a1:=(hm xs[i] (by simp)).2.2.1
  have a2:=(hm xs[j] (by simp)).2.2.1
  have:=(cnt_iff a1 a2).mp this
  simpa using this
section
variable {prog:Program}{w:World}{A:Around}{E:Value->Shared->Prop}{s:Shared}
theorem sort_texts {a:Addr}{vs:List Value}{ss:List Str}{n:Nat}{P:Fin->Shared->Prop}(q0:s.heap.get? a=some (seqObj "list" vs.toArray n)) (hS:StrsAre vs ss) (hnd:ss.Nodup) (hl:vs.length<=4096)
  (h:∀ (out:Array Value) (ss':List Str),out.size=vs.length->StrsAre out.toList ss'->ss'.Perm ss->ss'.Pairwise Lx->P (.done (.ret .none)) { s with heap:=sortedHeap s.heap a vs out }) :
  wpAny (model prog w) A (Builtin.«list.sort» ⟨[.ref a],[]⟩) P E s:=by
 rw[list_sort_plain]
 have la:a<s.heap.objs.size:=Heap.lt_size q0
 obtain⟨e1,q1⟩:∃ e1,(s.heap.update a (Obj.mapSeq fun _ => #[])).get? a=some (seqObj "list" #[] e1):=⟨_,get?_update_seq q0 fun _ => #[]⟩
 refine wpAny_bind (listItems_at q0 rfl ?_)
 refine wpAny_bind (listUpdate_at q0 rfl ?_ (by rw[List.size_toArray,sizeLine_eq];omega) (by simp))
 refine wpAny_bind (seqEpoch_at q1 rfl ?_)
 refine wpAny_bind (wpAny_newTuple ?_ (by rw[sizeLine_eq];simpa using Nat.le_trans hl ⋯))
 refine wpAny_bind (wpAny_newList (wpAny_holding ?_))
 have q6:(((s.heap.update a (Obj.mapSeq fun _ => #[])).push (seqObj "tuple" vs.toArray 0)).push (seqObj "list" #[] 0)).get? a=some (seqObj "list" #[] e1):=by
  rw[Heap.get?_push_ne,Heap.get?_push_ne]
  ·exact q1
  ·rw[Heap.size_update];exact Nat.ne_of_lt la
  ·rw[size_push',Heap.size_update];exact Nat.ne_of_lt (Nat.lt_succ_of_lt la)
 show wpAny (model prog w) A _ P E { s with heap:=(((s.heap.update a (Obj.mapSeq fun _ => #[])).push (seqObj "tuple" vs.toArray 0)).push (seqObj "list" #[] 0)) }
 dsimp only
 have zz:vs.toArray.size=vs.length:=by simp
 have fin:∀ st':SortSt,(arrOf st').Perm (pairsOf vs)->Inc (Rt ss) (arrOf st') 0 (pairsOf vs).size->P (.done (.ret .none)) { s with heap:=sortedHeap s.heap a vs ((arrOf st').map (·.2)) }:=fun st' p i=>by
  obtain⟨ss',h1,h2,h3⟩:=texts_out hS p i
  refine h _ ss' ?_ h1 h2 h3
  rw[Array.size_map,p.size_eq,pairsOf_size]
 by_cases h2:vs.toArray.size<2
 ·rw[if_pos h2,if_pos h2]
  refine wpAny_bind (wpAny_pure ?_)
  rw[StateT.run_pure]
  refine wpAny_bind (wpAny_pure (wpAny_bind (seqEpoch_at q6 rfl (wpAny_bind (listUpdate_at q6 rfl ?_ (hsz2:=?_))))))
  ·simp only[bne_self_eq_false,Bool.false_eq_true,if_false]
   refine wpAny_pure (fin (SortSt.mk' general' (vs.toArray.zip vs.toArray) #[] 7 none) (Array.Perm.refl _) fun i j _ hij hj=>?_)
   rw[pairsOf_size] at hj
   omega
  ·refine Nat.le_trans (Nat.le_of_eq ((Array.size_map ..).trans (pairsOf_size vs))) ?_
   rw[sizeLine_eq];omega
 ·rw[if_neg h2,if_neg h2]
  obtain⟨u,v,rest,rfl⟩:∃ u v rest,vs=u::v::rest:=by
   match vs,zz,h2 with
   | [],_,h2=>simp at h2
   | [_],_,h2=>simp at h2
   | u::v::rest,_,_=>exact⟨u,v,rest,rfl⟩
  rw[keyKind_strs hS]
  refine wpAny_bind (wpAny_pure (wpAny_bind (wpAny_mono (wpS_sortRunsF (a₀:=pairsOf (u::v::rest)) (R:=Rt ss) (st:=SortSt.mk' oneType' ((u::v::rest).toArray.zip (u::v::rest).toArray) #[] 7 none)
   (Q:=fun _ st'=>Bs (pairsOf (u::v::rest)) st'/\Inc (Rt ss) (arrOf st') 0 (pairsOf (u::v::rest)).size)
   (rank_texts hS hnd) ⟨Array.Perm.refl _,rfl,rfl⟩ rfl (by rw[pairsOf_size];simp) fun st' b i=>⟨b,i⟩) ?_ fun _ _ e=>e)))
  rintro⟨⟨⟩,st'⟩ s' ⟨rfl,hB,hs⟩
  refine wpAny_bind (seqEpoch_at q6 rfl (wpAny_bind (listUpdate_at q6 rfl ?_ (hsz2:=?_))))
  ·rw[hB.failed]
   simp only[bne_self_eq_false,Bool.false_eq_true,if_false]
   exact wpAny_pure (fin st' hB.perm hs)
  ·refine Nat.le_trans (Nat.le_of_eq ((Array.size_map ..).trans (hB.perm.size_eq.trans (pairsOf_size _)))) ?_
   rw[sizeLine_eq];omega
end
end SortL
set_option maxHeartbeats 1000000
namespace SortL
open PySem PyProof.Rows
section
variable {prog:Program}{w:World}{A:Around}{E:Value->Shared->Prop}{s:Shared}
open PySem.W in
theorem sorted_src {T:String}{r d:Addr}{n:Nat}{Pv:Nat->Value->Prop}{OK:Heap->Prop}{Q:Value->Shared->Prop}(K:KdlSrc prog w T r d n Pv OK) (hh:A.handled=none) (hok:OK s.heap) (hn:n<=4096)
  {ss:List Str} (hss:ss.length=n) (hnd:ss.Nodup) (hP:∀ i v,Pv i v->∃ x t,ss[i]? = some x/\v = .str x t)
  (h:∀ (h1 h2:Heap) (tk c:Nat) (out:List Value) (ss':List Str),(∀ b o,s.heap.get? b=some o->h1.get? b=some o)->(∀ b o,h1.get? b=some o->h2.get? b=some o) ->
   h2.get? h1.objs.size=some (seqObj "list" out.toArray c)->out.length=n->StrsAre out ss'->ss'.Perm ss->ss'.Pairwise Lx->Q (.ref h1.objs.size) { s with heap:=h2,toks:=tk }) :
  wpAny (model prog w) A (call (.builtin "sorted") [.ref r]) Q E s:=by
 refine Calls.call_function_entry kind_sorted plain_sorted entry_sorted (args_sorted1 _) ?_
 unfold Builtin.«sorted»
 refine wpAny_bind (m:=checkCount "sorted" 1 1 _) (wpAny_pure ?_)
 refine wpAny_bind (kdu_collect (A:=A.in1) K hh hok (by rw[sizeLine_eq];omega) fun h1 tk acc hk hacc=>?_)
 have hl:acc.toList.length=n:=by rw[Array.length_toList];exact hacc.1
 have hS:StrsAre acc.toList ss:=by
  have g1:∀ v,v∈acc.toList->∃ x t,v = .str x t:=fun v hv=>by
   obtain⟨i,e⟩:=List.mem_iff_getElem?.mp hv
   obtain⟨x,t,_,e2⟩:=hP i v (hacc.2 i v (by rw[←Array.getElem?_toList];exact e))
   exact⟨x,t,e2⟩
  have g2:=strsAre_map acc.toList g1
  have:acc.toList.map strOf=ss:=by
   refine List.ext_getElem? fun i=>?_
   rw[List.getElem?_map]
   cases e:acc.toList[i]? with
   | none=>
    have:=List.getElem?_eq_none_iff.mp e
    exact (List.getElem?_eq_none_iff.mpr ∅).symm
   | some v=>
    obtain⟨x,t,e1,e2⟩:=hP i v (hacc.2 i v (by rw[←Array.getElem?_toList];exact e))
    rw[e1,e2];rfl
  rwa [this] at g2
 refine wpAny_bind (wpAny_newList ?_ (by rw[hl,sizeLine_eq];omega))
 have q0:(h1.push (seqObj "list" acc.toList.toArray 0)).get? h1.objs.size=some (seqObj "list" acc.toList.toArray 0):=Heap.get?_push_size _ rfl
 refine wpAny_bind (wpAny_holding (wpAny_call_entry slot_list_sort ⟨_,q0,rfl⟩ entry_list_sort (sort_texts q0 hS hnd ∅ fun out ss' z g1 g2 g3=>⟨_,rfl,?_⟩) (args_list_sort _)))
 obtain⟨c,hc⟩:=sortedHeap_at (out:=out) q0
 refine wpAny_pure ⟨_,rfl,h h1 _ tk c out.toList ss' hk (fun b o e=>?_) ?_ ?_ g1 g2 g3⟩
 ·have lt:=Heap.lt_size e
  rw[sortedHeap_old (Nat.ne_of_lt lt) (by rw[size_push'];exact Nat.lt_succ_of_lt lt)]
  exact Heap.get?_push_of_some _ e
 ·simpa using hc
 ·rw[Array.length_toList,z];exact hl
end
end SortL
namespace MoM
open FrM
abbrev Fr:=Int×Int
inductive Mo where
 | wt (a:Fr)
 | rod (l:Fr) (x:Mo) (r:Fr) (y:Mo)
abbrev Pl:=List Nat
namespace Mo
def places:Mo->List Pl
 | wt _=>[[]]
 | rod _ x _ y=>[]::(x.places.map (108 :: ·)++y.places.map (114 :: ·))
def sub:Mo->Pl->Option Mo
 | m,[]=>some m
 | wt _,_::_=>none
 | rod _ x _ y,c::p=>if c=108 then x.sub p else if c=114 then y.sub p else none
def row:Mo->List Fr
 | wt a=>[a]
 | rod l _ r _=>[l,r]
def depth:Mo->Nat
 | wt _=>0
 | rod _ x _ y=>max x.depth y.depth+1
def nw:Mo->Nat
 | wt _=>1
 | rod _ x _ y=>x.nw+y.nw
theorem sub_nil (m:Mo):m.sub []=some m:=by cases m <;> rfl
theorem nw_pos (m:Mo):0<m.nw:=by induction m with | wt a=>exact Nat.one_pos | rod l x r y hx hy=>simp only[nw];omega
theorem places_length (m:Mo):m.places.length+1=2*m.nw:=by
 induction m with
 | wt a=>rfl
 | rod l x r y hx hy=>simp only[places,nw,List.length_cons,List.length_append,List.length_map];omega
theorem depth_lt (m:Mo):m.depth<m.nw:=by
 induction m with
 | wt a=>exact Nat.one_pos
 | rod l x r y hx hy=>have:=nw_pos x;have:=nw_pos y;simp only[depth,nw];omega
theorem mem_places:∀ (m:Mo) (p:Pl),p∈m.places↔∃ s,m.sub p=some s
 | wt a,[]=>by simp[places,sub]
 | wt a,c::p=>by simp[places,sub]
 | rod l x r y,[]=>by simp[places,sub]
 | rod l x r y,c::p=>by
  have hx:=mem_places x p
  have hy:=mem_places y p
  simp only[places,sub,List.mem_cons,List.mem_append,List.mem_map,List.cons.injEq,reduceCtorEq,false_or]
  constructor
  ·rintro (⟨q,hq,rfl,rfl⟩ | ⟨q,hq,rfl,rfl⟩)
   ·rw[if_pos rfl];exact hx.mp hq
   ·rw[if_neg ⋯,if_pos rfl];exact hy.mp hq
  ·intro h
   by_cases h1:c=108
   ·rw[if_pos h1] at h;exact .inl ⟨p,hx.mpr h,h1.symm,rfl⟩
   ·rw[if_neg h1] at h
    by_cases h2:c=114
    ·rw[if_pos h2] at h;exact .inr ⟨p,hy.mpr h,h2.symm,rfl⟩
    ·rw[if_neg h2] at h;obtain⟨s,hs⟩:=h;cases hs
theorem places_sorted (m:Mo):m.places.Pairwise (· < ·):=by
 induction m with
 | wt a=>exact List.pairwise_singleton _ _
 | rod l x r y hx hy=>
  refine List.pairwise_cons.mpr ⟨fun q hq=>?_,List.pairwise_append.mpr ⟨?_,?_,fun p hp q hq=>?_⟩⟩
  ·rcases List.mem_append.mp hq with hq | hq <;> obtain⟨u,_,rfl⟩:=List.mem_map.mp hq <;> exact List.nil_lt_cons _ _
  ·exact List.pairwise_map.mpr (hx.imp fun h=>List.cons_lt_cons_self.mpr h)
  ·exact List.pairwise_map.mpr (hy.imp fun h=>List.cons_lt_cons_self.mpr h)
  ·obtain⟨u,_,rfl⟩:=List.mem_map.mp hp
   obtain⟨v,_,rfl⟩:=List.mem_map.mp hq
   exact List.cons_lt_cons_iff.mpr (.inl ⋯)
theorem places_nodup (m:Mo):m.places.Nodup:=(places_sorted m).imp fun h e=>by subst e;exact absurd h (List.lt_irrefl _)
theorem sub_app:∀ (m:Mo) (p q:Pl),m.sub (p++q)=(m.sub p).bind (·.sub q)
 | m,[],q=>by rw[sub_nil];rfl
 | wt a,c::p,q=>rfl
 | rod l x r y,c::p,q=>by
  simp only[List.cons_append,sub]
  split
  ·exact sub_app x p q
  ·split
   ·exact sub_app y p q
   ·rfl
theorem sub_l {m:Mo}{p:Pl}{l r:Fr}{x y:Mo}(h:m.sub p=some (rod l x r y)):m.sub (p++[108])=some x:=by rw[sub_app,h];exact sub_nil x
theorem sub_r {m:Mo}{p:Pl}{l r:Fr}{x y:Mo}(h:m.sub p=some (rod l x r y)):m.sub (p++[114])=some y:=by rw[sub_app,h];exact sub_nil y
def put:Mo->Pl->Mo->Mo
 | _,[],s=>s
 | wt a,_::_,_=>wt a
 | rod l x r y,c::p,s=>if c=108 then rod l (x.put p s) r y else if c=114 then rod l x r (y.put p s) else rod l x r y
theorem sub_put:∀ (m:Mo) (p:Pl) (s:Mo) (q:Pl),(∃ t,m.sub p=some t)->(m.put p s).sub (p++q)=s.sub q
 | m,[],s,q,_=>by simp[put]
 | wt a,c::p,s,q,⟨t,h⟩=>by cases h
 | rod l x r y,c::p,s,q,⟨t,h⟩=>by
  simp only[sub] at h
  simp only[put,List.cons_append]
  split at h
  ·rename_i h1;rw[if_pos h1];simp only[sub];rw[if_pos h1];exact sub_put x p s q ⟨t,h⟩
  ·rename_i h1
   split at h
   ·rename_i h2;rw[if_neg h1,if_pos h2];simp only[sub];rw[if_neg h1,if_pos h2];exact sub_put y p s q ⟨t,h⟩
   ·cases h
theorem row_put_off:∀ (m:Mo) (p:Pl) (s:Mo) (q:Pl),¬p <+: q->((m.put p s).sub q).map row=(m.sub q).map row
 | m,[],s,q,h=>absurd (List.nil_prefix) h
 | wt a,c::p,s,q,h=>rfl
 | rod l x r y,c::p,s,[],h=>by
  simp only[put]
  split
  ·simp only[sub,Option.map_some,row]
  ·split <;> simp only[sub,Option.map_some,row]
 | rod l x r y,c::p,s,d::q,h=>by
  have h':c=d->¬p <+: q:=fun e hp=>h (by subst e;exact List.cons_prefix_cons.mpr ⟨rfl,hp⟩)
  simp only[put]
  split
  ·rename_i h1
   simp only[sub]
   split
   ·rename_i h2;exact row_put_off x p s q (h' (h1.trans h2.symm))
   ·rfl
  ·rename_i h1
   split
   ·rename_i h2
    simp only[sub]
    split
    ·rfl
    ·split
     ·rename_i h4 h3;exact row_put_off y p s q (h' (h2.trans h3.symm))
     ·rfl
   ·rfl
theorem nw_put:∀ (m:Mo) (p:Pl) (s t:Mo),m.sub p=some t->(m.put p s).nw+t.nw=m.nw+s.nw
 | m,[],s,t,h=>by rw[sub_nil] at h;cases h;simp only[put];omega
 | wt a,c::p,s,t,h=>by cases h
 | rod l x r y,c::p,s,t,h=>by
  simp only[sub] at h
  simp only[put]
  split at h
  ·rename_i h1;rw[if_pos h1];have:=nw_put x p s t h;simp only[nw];omega
  ·rename_i h1
   split at h
   ·rename_i h2;rw[if_neg h1,if_pos h2];have:=nw_put y p s t h;simp only[nw];omega
   ·cases h
def All (P:Fr->Prop) (A:Fr->Prop):Mo->Prop
 | wt a=>P a
 | rod l x r y=>A l/\A r/\All P A x/\All P A y
theorem All.sub {P A:Fr->Prop}:∀ {m:Mo}{p:Pl}{s:Mo},m.All P A->m.sub p=some s->s.All P A
 | m,[],s,h,e=>by rw[sub_nil] at e;cases e;exact h
 | wt a,c::p,s,h,e=>by cases e
 | rod l x r y,c::p,s,h,e=>by
  simp only[Mo.sub] at e
  split at e
  ·exact All.sub h.2.2.1 e
  ·split at e
   ·exact All.sub h.2.2.2 e
   ·cases e
theorem All.put {P A:Fr->Prop}{s:Mo}(hs:s.All P A):∀ {m:Mo}{p:Pl},m.All P A->(m.put p s).All P A
 | m,[],h=>by simpa [Mo.put] using hs
 | wt a,c::p,h=>h
 | rod l x r y,c::p,h=>by
  simp only[Mo.put]
  split
  ·exact⟨h.1,h.2.1,All.put hs h.2.2.1,h.2.2.2⟩
  ·split
   ·exact⟨h.1,h.2.1,h.2.2.1,All.put hs h.2.2.2⟩
   ·exact h
theorem All.mono {P A P' A':Fr->Prop}(hp:∀ a,P a->P' a) (ha:∀ a,A a->A' a):∀ {m:Mo},m.All P A->m.All P' A'
 | wt a,h=>hp a h
 | rod l x r y,h=>⟨ha _ h.1,ha _ h.2.1,All.mono hp ha h.2.2.1,All.mono hp ha h.2.2.2⟩
end Mo
theorem sorted_eq {l l':List Pl}(h:l.Pairwise (· < ·)) (h':l'.Pairwise (· < ·)) (p:l.Perm l'):l=l':=
 p.eq_of_pairwise (fun a b _ _ x y=>absurd (List.lt_trans x y) (List.lt_irrefl _)) h h'
end MoM
namespace MoM
open FrM
def low (t b:Int):Fr:=(nt t b,nb t b)
def Zd0 (x y:Fr):Fr:=low (x.1*y.2+y.1*x.2) (x.2*y.2)
def Zb1 (x y:Fr):Fr:=low (x.1*y.1) (x.2*y.2)
def fover (x y:Fr):Fr:=low (x.1*y.2) (x.2*y.1)
def Mo.heft:Mo->Fr
 | .wt a=>a
 | .rod _ x _ y=>Zd0 x.heft y.heft
structure Bd (D B:Int) (x:Fr):Prop where
 t:0<x.1
 b:0<x.2
 d:x.2∣D
 s:x.1*(D / x.2)<=B
theorem Bd.top {D B:Int}{x:Fr}(h:Bd D B x) (hD:0<D):x.1<=B:=by
 have h1:1<=D / x.2:=by
  have:=Int.le_of_dvd hD h.d
  exact (Int.le_ediv_iff_mul_le h.b).mpr ∅
 have:x.1*1<=x.1*(D / x.2):=Int.mul_le_mul_of_nonneg_left h1 (Int.le_of_lt h.t)
 have:=h.s
 omega
theorem Bd.bot {D B:Int}{x:Fr}(h:Bd D B x) (hD:0<D):x.2<=D:=Int.le_of_dvd hD h.d
theorem nt_pos {a b:Int}(ha:0<a) (hb:0<b):0<nt a b:=by
 have h:=nt_mul (a:=a) (b:=b) ∅
 have hs:0<sd a b:=by
  have:=sd_ne (a:=a) (b:=b) ∅
  unfold sd at *
  rw[if_neg ∅] at *
  omega
 by_cases h1:0<nt a b
 ·exact h1
 ·have:=Int.mul_le_mul_of_nonneg_right (show nt a b<=0 by omega) (Int.le_of_lt hs)
  omega
theorem low_pos {a b:Int}(ha:0<a) (hb:0<b):0<(low a b).1/\0<(low a b).2:=⟨nt_pos ha hb,by have:=nb_pos (a:=a) (b:=b) ∅;show 0<nb a b;omega⟩
theorem low_cross {a b:Int}(hb:b≠0):(low a b).1*b=a*(low a b).2:=cross hb
theorem low_dvd {a b:Int}(hb:b≠0):(low a b).2∣b:=⟨sd a b,(nb_mul hb).symm⟩
theorem low_tdvd {a b:Int}(hb:b≠0):(low a b).1∣a:=⟨sd a b,(nt_mul hb).symm⟩
theorem low_top {a b:Int}(ha:0<a) (hb:0<b):(low a b).1<=a:=Int.le_of_dvd ha (low_tdvd ∅)
theorem low_bot {a b:Int}(hb:0<b):(low a b).2<=b:=Int.le_of_dvd hb (low_dvd ∅)
theorem Int.dvd_of_dvd_mul_right_of_gcd_one' {a b c:Int}(h:a∣b*c) (g:Int.gcd a b=1):a∣c:=by
 have h1:a.natAbs∣b.natAbs*c.natAbs:=by rw[←Int.natAbs_mul];exact Int.natAbs_dvd_natAbs.mpr h
 have h2:Nat.Coprime a.natAbs b.natAbs:=g
 exact Int.natAbs_dvd_natAbs.mp (h2.dvd_of_dvd_mul_left h1)
theorem fplus_bd {D B C:Int}{x y:Fr}(hD:0<D) (hx:Bd D B x) (hy:Bd D C y):Bd D (B+C) (Zd0 x y):=by
 obtain⟨a,b⟩:=x
 obtain⟨c,d⟩:=y
 obtain⟨xt,xb,⟨u,hu⟩,xs⟩:=hx
 obtain⟨yt,yb,⟨v,hv⟩,ys⟩:=hy
 dsimp only at *
 have hbd:0<b*d:=Int.mul_pos xb yb
 have hN:0<a*d+c*b:=Int.add_pos (Int.mul_pos xt yb) (Int.mul_pos yt xb)
 have eu:D / b=u:=by rw[hu,Int.mul_ediv_cancel_left _ ∅]
 have ev:D / d=v:=by rw[hv,Int.mul_ediv_cancel_left _ ∅]
 rw[eu] at xs
 rw[ev] at ys
 have hp:=low_pos hN hbd
 have hc:=low_cross (a:=a*d+c*b) (b:=b*d) ∅
 have hg:Int.gcd (low (a*d+c*b) (b*d)).1 (low (a*d+c*b) (b*d)).2=1:=gcd_one ∅
 show Bd D (B+C) (low (a*d+c*b) (b*d))
 generalize low (a*d+c*b) (b*d)=z at *
 obtain⟨p,q⟩:=z
 dsimp only at *
 have key:p*D=(a*u+c*v)*q:=by
  have e1:(p*D)*(b*d)=((a*u+c*v)*q)*(b*d):=by
   have:(p*D)*(b*d)=(p*(b*d))*D:=by ac_rfl
   rw[this,hc]
   have e2:(a*d+c*b)*q*D=q*(a*d*D+c*b*D):=by rw[←Int.add_mul];ac_rfl
   rw[e2]
   have e3:a*d*D=a*u*(b*d):=by rw[hu];ac_rfl
   have e4:c*b*D=c*v*(b*d):=by rw[hv];ac_rfl
   rw[e3,e4,←Int.add_mul];ac_rfl
  exact Int.eq_of_mul_eq_mul_right ∅ e1
 have hq:q∣D:=by
  have:q∣p*D:=⟨a*u+c*v,by rw[key];ac_rfl⟩
  exact MoM.Int.dvd_of_dvd_mul_right_of_gcd_one' this (by rw[Int.gcd_comm];exact hg)
 refine⟨hp.1,hp.2,hq,?_⟩
 obtain⟨w,hw⟩:=hq
 have ew:D / q=w:=by rw[hw,Int.mul_ediv_cancel_left _ ∅]
 show p*(D / q)<=B+C
 rw[ew]
 have:p*w=a*u+c*v:=by
  have e:(p*w)*q=(a*u+c*v)*q:=by rw[←key,hw];ac_rfl
  exact Int.eq_of_mul_eq_mul_right ∅ e
 rw[this]
 omega
theorem Mo.heft_bd {D B:Int}{A:Fr->Prop}(hD:0<D):∀ {m:Mo},m.All (Bd D B) A->Bd D (m.nw*B) m.heft
 | .wt a,h=>by
  have:((Mo.wt a).nw:Int)*B=B:=by simp[Mo.nw]
  rw[this];exact h
 | .rod l x r y,h=>by
  have:=fplus_bd hD (Mo.heft_bd hD h.2.2.1) (Mo.heft_bd hD h.2.2.2)
  have e:((Mo.rod l x r y).nw:Int)*B=x.nw*B+y.nw*B:=by simp only[Mo.nw];rw[Int.natCast_add,Int.add_mul]
  rw[e];exact this
def gD (k:Nat):Int:=60*840 ^ k
def gT (k:Nat):Int:=10 ^ 60*72 ^ k
theorem low_gcd {a b:Int}(hb:b≠0):Int.gcd (low a b).1 (low a b).2=1:=gcd_one hb
structure Am (k:Nat) (x:Fr):Prop where
 t:0<x.1
 b:0<x.2
 d:x.2∣gD k
 s:x.1<=gT k
 l:x.2<=gT k
 g:Int.gcd x.1 x.2=1
structure Ar (x:Fr):Prop where
 t:0<x.1
 b:0<x.2
 tl:x.1<=2 ^ 32
 bl:x.2<=2 ^ 32
 g:Int.gcd x.1 x.2=1
 d:x.2∣2116800
theorem dvd4 {b:Int}(h0:0<b) (h1:b<=4):b∣12:=by
 have:b=1\/b=2\/b=3\/b=4:=by omega
 rcases this with rfl | rfl | rfl | rfl <;> decide
theorem dvdM {b:Int}(h0:0<b) (h1:b<=4):b∣2116800:=Int.dvd_trans (dvd4 h0 h1) ⋯
theorem gD_pos (k:Nat):0<gD k:=Int.mul_pos ⋯ (Int.pow_pos ⋯)
theorem gT_pos (k:Nat):0<gT k:=Int.mul_pos ⋯ (Int.pow_pos ⋯)
theorem gT_succ (k:Nat):gT (k+1)=gT k*72:=by
 unfold gT
 generalize (10:Int) ^ 60=z
 rw[Int.pow_succ,Int.mul_assoc]
theorem gD_succ (k:Nat):gD (k+1)=gD k*840:=by
 unfold gD
 rw[Int.pow_succ,Int.mul_assoc]
theorem Am.succ {k:Nat}{x:Fr}(h:Am k x):Am (k+1) x:=by
 refine⟨h.t,h.b,Int.dvd_trans h.d ⟨840,by unfold gD;rw[Int.pow_succ,Int.mul_assoc]⟩,Int.le_trans h.s ?_,Int.le_trans h.l ?_,h.g⟩ <;>
 ·have:=gT_pos k
  have e:=gT_succ k
  omega
theorem Am.le {k j:Nat}{x:Fr}(h:Am k x) (hj:k<=j):Am j x:=by
 induction hj with
 | refl=>exact h
 | step _ ih=>exact ih.succ
theorem Am.bd {k:Nat}{x:Fr}(h:Am k x):Bd (gD k) (gT k*gD k) x:=by
 refine⟨h.t,h.b,h.d,?_⟩
 have h1:gD k / x.2<=gD k:=Int.ediv_le_self _ (Int.le_of_lt (gD_pos k))
 have h0:0<=gD k / x.2:=Int.ediv_nonneg (Int.le_of_lt (gD_pos k)) (Int.le_of_lt h.b)
 exact Int.mul_le_mul h.s h1 h0 (Int.le_of_lt (gT_pos k))
abbrev Good (k:Nat) (m:Mo):Prop:=m.All (Am k) Ar
theorem Good.heft {k:Nat}{m:Mo}(h:Good k m):Bd (gD k) (m.nw*(gT k*gD k)) m.heft:=Mo.heft_bd (gD_pos k) (Mo.All.mono (fun _ a=>a.bd) (fun _ a=>a) h)
theorem small_of {n:Nat}{x:Int}(h0:0<x) (h:x<2 ^ n):Sm n x:=by
 unfold Sm
 have:((x.natAbs:Nat):Int)<((2 ^ n:Nat):Int):=by
  rw[Int.natAbs_of_nonneg (Int.le_of_lt h0)];simpa using h
 exact Int.ofNat_lt.mp this
theorem Good.small {m:Mo}(h:Good 64 m) (hn:m.nw<=200):0<m.heft.1/\0<m.heft.2/\Sm 3900 m.heft.1/\Sm 3900 m.heft.2:=by
 have hb:=h.heft
 refine⟨hb.t,hb.b,small_of hb.t ?_,small_of hb.b ?_⟩
 ·have h1:=hb.top (gD_pos 64)
  have h2:(m.nw:Int)*(gT 64*gD 64)<=200*(gT 64*gD 64):=Int.mul_le_mul_of_nonneg_right ∅ (Int.le_of_lt (Int.mul_pos (gT_pos _) (gD_pos _)))
  have h3:200*(gT 64*gD 64)<2 ^ 3900:=by ac_nf
  omega
 ·have h1:=hb.bot (gD_pos 64)
  have h3:gD 64<2 ^ 3900:=by ac_nf
  omega
theorem Am.small {x:Fr}(h:Am 64 x):Sm 3900 x.1/\Sm 3900 x.2:=by
 refine⟨small_of h.t ?_,small_of h.b ?_⟩
 ·have h3:gT 64<2 ^ 3900:=by ac_nf
  have:=h.s
  omega
 ·have h1:=Int.le_of_dvd (gD_pos 64) h.d
  have h3:gD 64<2 ^ 3900:=by ac_nf
  omega
theorem Ar.small {x:Fr}(h:Ar x):Sm 40 x.1/\Sm 40 x.2:=by
 have:=h.tl;have:=h.bl
 refine⟨small_of h.t ?_,small_of h.b ?_⟩
 ·have:(2:Int) ^ 32<2 ^ 40:=by decide
  omega
 ·have:(2:Int) ^ 32<2 ^ 40:=by decide
  omega
theorem fplus_short {x y:Fr}(x0:0<x.1) (x1:0<x.2) (xl:x.1<=4) (xb:x.2<=3) (y0:0<y.1) (y1:0<y.2) (yl:y.1<=4) (yb:y.2<=3) :
  0<(Zd0 x y).1/\0<(Zd0 x y).2/\(Zd0 x y).1<=24/\(Zd0 x y).2<=9:=by
 have a1:=Int.mul_le_mul xl yb (Int.le_of_lt y1) (by decide:(0:Int)<=4)
 have a2:=Int.mul_le_mul yl xb (Int.le_of_lt x1) (by decide:(0:Int)<=4)
 have a3:=Int.mul_le_mul xb yb (Int.le_of_lt y1) (by decide:(0:Int)<=3)
 have b1:=Int.mul_pos x0 y1
 have b2:=Int.mul_pos y0 x1
 have b3:=Int.mul_pos x1 y1
 have hp:=low_pos (a:=x.1*y.2+y.1*x.2) (b:=x.2*y.2) ∅ b3
 have h1:=low_top (a:=x.1*y.2+y.1*x.2) (b:=x.2*y.2) ∅ b3
 have h2:=low_bot (a:=x.1*y.2+y.1*x.2) b3
 unfold Zd0
 exact⟨hp.1,hp.2,by omega,by omega⟩
theorem Am.first {t b:Int}(h0:0<t) (h1:t<=10 ^ 60) (b0:0<b) (b1:b<=6):Am 0 (low t b):=by
 have hp:=low_pos h0 b0
 refine⟨hp.1,hp.2,?_,?_,?_,low_gcd ∅⟩
 ·refine Int.dvd_trans (low_dvd ∅) ?_
  have:b=1\/b=2\/b=3\/b=4\/b=5\/b=6:=by omega
  show b∣60*840 ^ 0
  rcases this with rfl | rfl | rfl | rfl | rfl | rfl <;> decide
 ·have:=low_top h0 b0
  show _<=10 ^ 60*72 ^ 0
  omega
 ·have:=low_bot (a:=t) b0
  show _<=10 ^ 60*72 ^ 0
  have:(6:Int)<=10 ^ 60:=by decide
  omega
end MoM
namespace MoM
namespace Mo
def rowAt (m:Mo) (p:Pl):Option (List Fr):=(m.sub p).map row
theorem rowAt_some {m:Mo}{p:Pl}{s:Mo}(h:m.sub p=some s):m.rowAt p=some s.row:=by unfold rowAt;rw[h];rfl
theorem sub_wt_app {m:Mo}{p q:Pl}{a:Fr}(h:m.sub p=some (wt a)) (hq:q≠[]):m.sub (p++q)=none:=by
 rw[sub_app,h]
 cases q with
 | nil=>exact absurd rfl hq
 | cons c q=>rfl
theorem rowAt_grow {m:Mo}{p:Pl}{a l r x y:Fr}(h:m.sub p=some (wt a)) (q:Pl) :
  (m.put p (rod l (wt x) r (wt y))).rowAt q=if q=p++[114] then some [y] else if q=p++[108] then some [x] else if q=p then some [l,r] else m.rowAt q:=by
 by_cases hp:p <+: q
 ·obtain⟨t,rfl⟩:=hp
  unfold rowAt
  rw[sub_put m p _ t ⟨_,h⟩]
  have e1:∀ u:Pl,(p++t=p++u)↔t=u:=fun u=>by simp
  have e2:(p++t=p)↔t=[]:=by simp
  simp only[e1,e2]
  match t with
  | []=>simp[sub,row]
  | [c]=>
   simp only[sub,List.cons.injEq,and_true,reduceCtorEq,if_false]
   by_cases h1:c=108
   ·subst h1;simp[row]
   ·by_cases h2:c=114
    ·subst h2;simp[row]
    ·rw[if_neg h1,if_neg h2,if_neg h2,if_neg h1,sub_wt_app h (by simp)]
  | c::d::t=>
   rw[if_neg (by simp),if_neg (by simp),if_neg (by simp),sub_wt_app h (by simp)]
   simp only[sub]
   split
   ·rfl
   ·split <;> rfl
 ·have n1:q≠p++[114]:=fun e=>hp ⟨[114],e.symm⟩
  have n2:q≠p++[108]:=fun e=>hp ⟨[108],e.symm⟩
  have n3:q≠p:=fun e=>hp ⟨[],by simp[e]⟩
  rw[if_neg n1,if_neg n2,if_neg n3]
  exact row_put_off m p _ q hp
theorem rowAt_amount {m:Mo}{p:Pl}{a b:Fr}(h:m.sub p=some (wt a)) (q:Pl):(m.put p (wt b)).rowAt q=if q=p then some [b] else m.rowAt q:=by
 by_cases hp:p <+: q
 ·obtain⟨t,rfl⟩:=hp
  unfold rowAt
  rw[sub_put m p _ t ⟨_,h⟩]
  cases t with
  | nil=>simp[sub,row]
  | cons c t=>rw[if_neg (by simp),sub_wt_app h (by simp)];rfl
 ·rw[if_neg (fun e=>hp ⟨[],by simp[e]⟩)]
  exact row_put_off m p _ q hp
theorem rowAt_twice {m:Mo}{l r:Fr}:∀ q:Pl,(rod l m r m).rowAt q=match q with
  | []=>some [l,r]
  | c::q=>if c=108\/c=114 then m.rowAt q else none
 | []=>rfl
 | c::q=>by
  unfold rowAt
  simp only[sub]
  by_cases h1:c=108
  ·simp[h1]
  ·by_cases h2:c=114
   ·simp[h2]
   ·simp[h1,h2]
theorem row_one {s:Mo}:s.row.length=1↔∃ a,s=wt a:=by
 cases s with
 | wt a=>exact⟨fun _=>⟨a,rfl⟩,fun _=>rfl⟩
 | rod l x r y=>exact⟨fun h=>by simp[row] at h,fun⟨a,e⟩=>by cases e⟩
theorem sub_nw:∀ {m:Mo}{p:Pl}{s:Mo},m.sub p=some s->s.nw<=m.nw
 | m,[],s,h=>by rw[sub_nil] at h;cases h;exact Nat.le_refl _
 | wt a,c::p,s,h=>by cases h
 | rod l x r y,c::p,s,h=>by
  simp only[sub] at h
  simp only[nw]
  split at h
  ·have:=sub_nw h;omega
  ·split at h
   ·have:=sub_nw h;omega
   ·cases h
theorem has_weight:∀ m:Mo,∃ p a,m.sub p=some (wt a)
 | wt a=>⟨[],a,rfl⟩
 | rod l x r y=>by
  obtain⟨p,a,h⟩:=has_weight x
  exact⟨108::p,a,by simpa [sub] using h⟩
end Mo
theorem perm_of_mem {l:List Pl}:∀ {l':List Pl},l.Nodup->l'.Nodup->(∀ x,x∈l↔x∈l')->l.Perm l':=by
 induction l with
 | nil=>
  intro l' _ _ e
  cases l' with
  | nil=>exact .refl _
  | cons y l'=>exact absurd ((e y).mpr (List.mem_cons_self ..)) (by simp)
 | cons x l ih=>
  intro l' h1 h2 e
  have hx:x∈l':=(e x).mp (List.mem_cons_self ..)
  refine (List.Perm.cons x (ih (l':=l'.erase x) (List.nodup_cons.mp h1).2 (h2.erase x) fun y=>?_)).trans (List.perm_cons_erase hx).symm
  rw[h2.mem_erase_iff]
  constructor
  ·intro hy
   exact⟨fun z=>(List.nodup_cons.mp h1).1 (z▸hy),(e y).mp (List.mem_cons_of_mem _ hy)⟩
  ·rintro⟨z,hy⟩
   rcases List.mem_cons.mp ((e y).mpr hy) with rfl | hy
   ·exact absurd rfl z
   ·exact hy
theorem sorted_ext {l l':List Pl}(h:l.Pairwise (· < ·)) (h':l'.Pairwise (· < ·)) (e:∀ x,x∈l↔x∈l'):l=l':=by
 have nd:∀ {l:List Pl},l.Pairwise (· < ·)->l.Nodup:=fun h=>h.imp fun h e=>by subst e;exact absurd h (List.lt_irrefl _)
 exact sorted_eq h h' (perm_of_mem (nd h) (nd h') e)
end MoM
set_option maxHeartbeats 1000000
namespace L2
open PySem PySem.Spec PyProof.Rows
section
variable {X:Cx}{pins:List (Addr×Obj)}{σ:St}{H:Hp}{s:Shared}
theorem fr_tuple (I:Inv X pins σ H s) {p:Addr}{a b:Int}(h:H p=some (.tup [.int a,.int b])):∃ t u,s.heap.IsTuple p #[.int a t,.int b u]:=by
 obtain⟨its,r,pl,_⟩:=I.tuple (SqT.of h)
 cases r with
 | cons r1 r=>
  cases r with
  | cons r2 r=>
   cases r
   obtain⟨t,rfl⟩:=r1
   obtain⟨u,rfl⟩:=r2
   exact⟨t,u,pl⟩
theorem rc_fr {A:Around}(hu:A.units<cLine) (I:Inv X pins σ H s) {p q:Addr}{a b c d:Int}(hp:H p=some (.tup [.int a,.int b])) (hq:H q=some (.tup [.int c,.int d])) :
  SeqAt.RcAt A s (.ref p) (.ref q) (decide (a=c/\b=d)):=by
 obtain⟨t,u,h1⟩:=fr_tuple I hp
 obtain⟨t',u',h2⟩:=fr_tuple I hq
 have:=SeqAt.RcAt.tuples (e:=fun j=>if j=0 then a==c else b==d) h1 h2 hu (fun j g1 g2=>by
  match j,g1 with
  | 0,_=>exact SeqAt.EqAt.int_int a t c t'
  | 1,_=>exact SeqAt.EqAt.int_int b u d u')
 have e:((List.range (min 2 2)).all (fun j=>if j=0 then a==c else b==d)&&(2:Nat)==2)=decide (a=c/\b=d):=by
  rw[show List.range (min 2 2)=[0,1] from rfl,Bool.eq_iff_iff]
  simp
 rw[←e];exact this
theorem rcn_fr {A:Around}(hu:A.units<cLine) (I:Inv X pins σ H s) {p q:Addr}{a b c d:Int}(hp:H p=some (.tup [.int a,.int b])) (hq:H q=some (.tup [.int c,.int d])) :
  SeqAt.RcNeAt A s (.ref p) (.ref q) (!decide (a=c/\b=d)):=by
 obtain⟨t,u,h1⟩:=fr_tuple I hp
 obtain⟨t',u',h2⟩:=fr_tuple I hq
 have:=SeqAt.RcNeAt.tuples (e:=fun j=>if j=0 then a==c else b==d) h1 h2 hu (fun j g1 g2=>by
  match j,g1 with
  | 0,_=>exact SeqAt.EqAt.int_int a t c t'
  | 1,_=>exact SeqAt.EqAt.int_int b u d u')
 have e:((List.range (min 2 2)).all (fun j=>if j=0 then a==c else b==d)&&(2:Nat)==2)=decide (a=c/\b=d):=by
  rw[show List.range (min 2 2)=[0,1] from rfl,Bool.eq_iff_iff]
  simp
 rw[←e];exact this
theorem eq_fr {A:Around}(hu:A.units<cLine) (I:Inv X pins σ H s) {p q:Addr}{a b c d:Int}(hp:H p=some (.tup [.int a,.int b])) (hq:H q=some (.tup [.int c,.int d])) :
  SeqAt.EqAt A s (.ref p) (.ref q) (decide (a=c/\b=d)):=by
 by_cases e:p=q
 ·subst e
  rw[hp] at hq
  cases hq
  have:decide (a=a/\b=b)=true:=by simp
  rw[this]
  exact SeqAt.EqAt.same _
 ·exact .of_refs e (rc_fr hu I hp hq)
def rEqF:R2:=fun x y H Q=>∃ a b c d,FrAt H x a b/\FrAt H y c d/\Q (.bl (decide (a=c/\b=d))) H
def rNeF:R2:=fun x y H Q=>∃ a b c d,FrAt H x a b/\FrAt H y c d/\Q (.bl (!decide (a=c/\b=d))) H
theorem op_eqF (hu:X.A.units+1<cLine):OpR X (compareOp .Eq) rEqF:=by
 intro pins s σ H x y v u Q I rx ry h
 obtain⟨a,b,c,d,⟨p,rfl,hp⟩,⟨q,rfl,hq⟩,k⟩:=h
 cases rx
 cases ry
 exact rc_fr (Nat.lt_of_succ_lt hu) I hp hq X.prog X.w X.xe _ (fin_bl I k rfl)
theorem op_neF (hu:X.A.units+1<cLine):OpR X (compareOp .NotEq) rNeF:=by
 intro pins s σ H x y v u Q I rx ry h
 obtain⟨a,b,c,d,⟨p,rfl,hp⟩,⟨q,rfl,hq⟩,k⟩:=h
 cases rx
 cases ry
 exact rcn_fr (Nat.lt_of_succ_lt hu) I hp hq X.prog X.w X.xe _ (fin_bl I k rfl)
def rEqSL (K:PySem.W.Frag):R2:=fun x y H Q=>∃ (p q:Addr) (xs ys:List Str),x = .ref p/\y = .ref q/\SqL K H p (xs.map .str)/\SqL K H q (ys.map .str)/\Q (.bl (decide (xs=ys))) H
theorem vals_str:∀ {xs:List Str}{us:List Value},Vals (xs.map .str) us->∀ (j:Nat) (u:Value),us[j]? = some u->∃ x t,xs[j]? = some x/\u = .str x t
 | [],_,.nil,j,u,e=>by simp at e
 | x::xs,_,.cons r t,0,u,e=>by
  obtain⟨tk,rfl⟩:=r
  simp at e
  exact⟨x,tk,rfl,e.symm⟩
 | x::xs,_,.cons r t,j+1,u,e=>by
  obtain⟨y,tk,h1,h2⟩:=vals_str t j u (by simpa using e)
  exact⟨y,tk,by simpa using h1,h2⟩
theorem op_eqSL (hu:X.A.units+1<cLine):OpR X (compareOp .Eq) (rEqSL X.K):=by
 intro pins s σ H x y v u Q I rx ry h
 obtain⟨p,q,xs,ys,rfl,rfl,hp,hq,k⟩:=h
 cases rx
 cases ry
 obtain⟨its,r,pl,_⟩:=I.list hp
 obtain⟨its',r',pl',_⟩:=I.list hq
 have l1:=r.length
 have l2:=r'.length
 rw[List.length_map] at l1 l2
 by_cases hl:xs.length=ys.length
 ·have:=SeqAt.RcAt.lists (A:=X.A) (e:=fun j=>xs[j]? == ys[j]?) pl.isList pl'.isList (by simp;omega) (Nat.lt_of_succ_lt hu) (fun j z1 z2=>by
   obtain⟨a,t,e1,e2⟩:=vals_str r j its.toArray[j] (by simp)
   obtain⟨b,t',e3,e4⟩:=vals_str r' j its'.toArray[j] (by simp)
   rw[e2,e4,e1,e3]
   have:=SeqAt.EqAt.str_str (A:=X.A.in1) (s:=s) a t b t'
   have e:(some a==some b)=(a==b):=rfl
   rw[e];exact this)
  refine this X.prog X.w X.xe _ (fin_bl I k ?_)
  rw[Bool.eq_iff_iff]
  simp only[decide_eq_true_eq,List.all_eq_true,List.mem_range,List.size_toArray,beq_iff_eq]
  constructor
  ·intro e;subst e;exact fun _ _=>rfl
  ·intro e
   refine List.ext_getElem? fun j=>?_
   by_cases hj:j<its.length
   ·exact e j hj
   ·rw[List.getElem?_eq_none_iff.mpr ∅,List.getElem?_eq_none_iff.mpr ∅]
 ·refine SeqAt.RcAt.lists_lengths pl.isList pl'.isList (by simp;omega) (Nat.lt_of_succ_lt hu) X.prog X.w X.xe _ (fin_bl I k ?_)
  exact decide_eq_false fun e=>hl (by rw[e])
end
section
variable {X:Cx}
def rSlS:V->Option Int->Option Int->Hp->VK->Prop:=fun x lo hi H Q=>∃ z,x = .str z/\z.length<=sizeLine/\Q (.str (Txt.slice z lo hi)) H
theorem part_value {v:Value}{lo:Option Int}(h:IsPart v lo):∃ l:Option (Int×Tok),v=partValue l/\l.map (·.1)=lo:=by
 cases h with
 | none=>exact⟨none,rfl,rfl⟩
 | int i t=>exact⟨some (i,t),rfl,rfl⟩
theorem sl_str:SlR X rSlS:=by
 intro pins s σ H x v vl vu lo hi sl Q I rx hs pl pu h
 obtain⟨z,rfl,hz,q⟩:=h
 obtain⟨t,rfl⟩:=rx
 obtain⟨l,rfl,rfl⟩:=part_value pl
 obtain⟨u,rfl,rfl⟩:=part_value pu
 refine⟨"str",_,PySem.F.slot_str_getitem.lookup,typeIs_str _ _ _,wpAny_getItem_str_slice (l:=l) (u:=u) (st:=none) hs rfl
  (post_val_or_str ⟨Nat.le_trans (Txt.slice_le z _ _) hz,fun t' k=>⟨.str (Txt.slice z (l.map (·.1)) (u.map (·.1))),H,I.tok k,⟨t',rfl⟩,q⟩⟩)⟩
def rStarts:V->List V->Hp->VK->Prop:=fun x xs H Q=>∃ y z,x = .str y/\xs=[.str z]/\Q (.bl (z.cps.toList.isPrefixOf y.cps.toList)) H
end
section
variable {X:Cx}
def TextKeys (kvs:List (Key×V)) (ks:List Str):Prop:=kvs.map (·.1)=ks.map Sum.inr
def rSorted:List V->Hp->VK->Prop:=fun vs H Q=>∃ (d:Addr) (kvs:List (Key×V)) (ks:List Str),vs=[.ref d]/\Rd H d (.dK kvs)/\TextKeys kvs ks/\ks.Nodup/\ks.length<=4096 /\
 ∀ (l:Addr) (ks':List Str),H l=none->ks'.Perm ks->ks'.Pairwise SortL.Lx->Q (.ref l) (upd H l (.lst (ks'.map .str)))
theorem kv_key {κ:Type}:∀ {kvs:List (κ×V)}{vs:List (κ×Value)}{i:Nat}{k:κ}{x:Value},KV kvs vs->vs[i]? = some (k,x)->∃ v,kvs[i]? = some (k,v)
 | _,_,i,k,x,.nil,e=>by simp at e
 | _,_,0,k,x,.cons (a:=p) r _,e=>by
  simp at e
  subst e
  obtain⟨p1,p2⟩:=p
  cases r.1
  exact⟨p2,rfl⟩
 | _,_,i+1,k,x,.cons _ t,e=>by
  obtain⟨v,h⟩:=kv_key t (by simpa using e)
  exact⟨v,by simpa using h⟩
theorem strs_vals:∀ {us:List Value}{ss:List Str},StrsAre us ss->Vals (ss.map .str) us
 | _,_,.nil=>.nil
 | _,_,.cons x t h=>.cons ⟨t,rfl⟩ (strs_vals h)
theorem call_sorted (hc:X.calm=true):CallR X (.builtin "sorted") rSorted:=by
 intro pins s σ H xs us Q I r h
 obtain⟨d,kvs,ks,rfl,hd,hk,hnd,hlen,q⟩:=h
 obtain⟨u,rfl,rx⟩:=vals1 r
 cases rx
 obtain⟨_,hsys,vs,hv,hD⟩:=hd.ok I.hok
 have hD':=hD
 obtain⟨o,es,ep,ho,hx,hdt,he,hnd'⟩:=hD'
 have hAt:s.heap.DictAt (mixKind X.prog X.w) d vs ep:=⟨o,es,ho,hx,hdt,he,hnd'⟩
 have hl:ks.length=vs.length:=by
  have h1:=congrArg List.length hk
  simp only[List.length_map] at h1
  have h2:=Paired.length hv
  omega
 refine SortL.sorted_src (PySem.W.kdl_dict (ep:=ep) hsys) (I.ok.hd hc) hAt ∅ hl hnd (fun i v z=>?_) fun h1 h2 tk c out ss' k1 k2 e hlo hS hp hs=>?_
 ·obtain⟨k,x,e1,e2⟩:=z
  obtain⟨v',e3⟩:=kv_key hv e1
  have e4:(kvs.map (·.1))[i]? = some k:=by rw[List.getElem?_map,e3];rfl
  rw[hk,List.getElem?_map] at e4
  cases e5:ks[i]? with
  | none=>rw[e5] at e4;cases e4
  | some y=>
   rw[e5] at e4
   cases e4
   rcases keyIs_shape (k:=Sum.inr y) (v:=v) e2 with⟨j,t,e,_⟩ | ⟨y',t,e,rfl⟩
   ·cases e
   ·cases e;exact⟨_,t,rfl,rfl⟩
 ·have I1:=I.kept (t':=tk) k1
  refine⟨.ref h1.objs.size,_,I1.laid (t':=tk) (o:=.lst (ss'.map .str)) k2 (Nat.le_refl _) ?_,rfl,q _ ss' (I1.hok.fresh (Nat.le_refl _)) hp hs⟩
  refine⟨?_,out,c,strs_vals hS,e⟩
  rw[List.length_map,hp.length_eq]
  rw[sizeLine_eq];omega
end
end L2
set_option maxHeartbeats 1000000
namespace L2
open PySem PySem.Spec PyProof.Rows
structure Mth (P:Program) (w:World) (K:PySem.W.Frag) (mg:Str->Option Value) (base:Heap) (C:Addr) (m:Str) (k:Nat) (ps:List Str) (dvs:List V) (sp:Sp):Prop where
 ex:Cls K C/\∃ (f:Addr) (fd:FuncData) (ds:List Value),Meth K C m f/\FnOk P w K mg base (CX1 P w) k f fd ps sp/\Binds K fd ps ds/\Vals dvs ds
def rDyn (Kd:Addr->Prop) (m:Str) (sp:Addr->Sp) (dvs:List V) (x:V) (H1:Hp) (R:(List V->Hp->VK->XK->Prop)->Prop):Prop:=∃ a C dx fs,x = .ref a/\Kd C/\H1 a=some (.ins C dx fs)/\fs.lookup m=none/\R fun vs H Q E=>sp C (x::(vs++dvs)) H Q E
def tDyn (Kd:Addr->Prop) (m:Str) (sp:Addr->Sp) (dvs:List V) (E:XK) (ta:TE) (t:TA):TE:=fun σ H Q=>ta σ H fun x H1=>rDyn Kd m sp dvs x H1 fun S=>t σ H1 fun vs H2=>S vs H2 Q E
section
variable {X:Cx}{k:Nat}{ps:List Str}{sp:Addr->Sp}{dvs:List V}{E:XK}{m:Str}{apos pos:Pos}{o e:Expr}{es:List Expr}{ta:TE}{t:TA}{Kd:Addr->Prop}
theorem pe_m {pl:Sem Bool}(M:∀ C,Kd C->Mth X.prog X.w X.K X.mg X.base C m k ps dvs (sp C)) (hr:Room k X.A) (hx:Passes (CX1 X.prog X.w) X E) (he:PE X o ta) (ha:PA X (e::es) t)
  (hst:starEach (e::es) X.env=(false,eval e X.env)::starEach es X.env:=by rfl) (hpl:(backTo pos (starEach es X.env)).any (·.1)=false:=by rfl)
  (ht:eval (.Call (.Attribute o m apos) (e::es) [] pos) X.env=(do
   let ov←eval o X.env
   standAt apos.atName
   let (f,first)←holding [ov] (getMethod ov m pl)
   callWith pos f first (backTo pos (starEach (e::es) X.env)) (backToKw pos (keywordEach [] X.env))):=by rfl) :
  PE X (.Call (.Attribute o m apos) (e::es) [] pos) (tDyn Kd m sp dvs E ta t):=by
 intro pins s σ H Q I h
 refine PySem.W.methodCall_KW (pl:=pl) (thn (he pins s σ H _ I h) fun u s1 ⟨x,H1,I1,rx,a,C,dx,fs,ex,kd,ea,l,q⟩=>?_) ht
 subst ex
 obtain rfl:u=Value.ref a:=rx
 obtain⟨c,f,fd,ds,hm,F,hb,hd⟩:=(M C kd).ex
 refine getmeth_ok I1 ea c hm l ?_
 refine PySem.W.callWith_K (first:=[.ref a]) (h₀:=X.base) I.ok.mod.kin hm.kp (thn (ha pos pins s1 σ H1 _ I1 q) fun us s2 ⟨vs,H2,I2,r,q2⟩=>⟨I2.kIn,?_⟩) hst hpl
 exact run_fn (us:=.ref a::us) (vs:=.ref a::vs) F hr hb hd hx I2 (.cons rfl r) q2
theorem pe_m0 {pl:Sem Bool}(M:∀ C,Kd C->Mth X.prog X.w X.K X.mg X.base C m k ps dvs (sp C)) (hr:Room k X.A) (hx:Passes (CX1 X.prog X.w) X E) (he:PE X o ta)
  (ht:eval (.Call (.Attribute o m apos) [] [] pos) X.env=(do
   let ov←eval o X.env
   standAt apos.atName
   let (f,first)←holding [ov] (getMethod ov m pl)
   callWith pos f first (backTo pos (starEach [] X.env)) (backToKw pos (keywordEach [] X.env))):=by rfl) :
  PE X (.Call (.Attribute o m apos) [] [] pos) (tDyn Kd m sp dvs E ta tNil):=by
 intro pins s σ H Q I h
 refine PySem.W.methodCall_KW (pl:=pl) (thn (he pins s σ H _ I h) fun u s1 ⟨x,H1,I1,rx,a,C,dx,fs,ex,kd,ea,l,q⟩=>?_) ht
 subst ex
 obtain rfl:u=Value.ref a:=rx
 obtain⟨c,f,fd,ds,hm,F,hb,hd⟩:=(M C kd).ex
 refine getmeth_ok I1 ea c hm l ?_
 exact PySem.W.callWith_K0 (first:=[.ref a]) I1.kIn hm.kp (run_fn (us:=[.ref a]) (vs:=[.ref a]) F hr hb hd hx I1 (.cons rfl .nil) q)
end
structure Mkr (P:Program) (w:World) (K:PySem.W.Frag) (mg:Str->Option Value) (base:Heap) (x:Str) (C:Addr) (k:Nat) (ps:List Str) (dvs:List V) (sp:Sp):Prop where
 ex:mg x=some (.ref C)/\∃ (f:Addr) (fd:FuncData) (ds:List Value),Mk K C f/\FnOk P w K mg base (CX1 P w) k f fd ps sp/\Binds K fd ps ds/\Vals dvs ds
section
variable {X:Cx}{k:Nat}{ps:List Str}{sp:Sp}{dvs:List V}{E:XK}{x:Str}{C:Addr}{p pos:Pos}{e:Expr}{es:List Expr}{t:TA}
theorem pe_mk (M:Mkr X.prog X.w X.K X.mg X.base x C k ps dvs sp) (hr:Room (k+1) X.A) (hx:Passes (CX1 X.prog X.w) X E) (ha:PA X (e::es) t) (hg:Gl X x:=by rfl)
  (hdb:(x==("__debug__" : Str))=false:=by decide) (he:starEach (e::es) X.env=(false,eval e X.env)::starEach es X.env:=by rfl) (hpl:(backTo pos (starEach es X.env)).any (·.1)=false:=by rfl) :
  PE X (.Call (.Name x p) (e::es) [] pos) (tMake C sp dvs E t):=by
 obtain⟨hm,f,fd,ds,h1,h2,h3,h4⟩:=M.ex
 exact pe_make h1 h2 hr hg hm h3 h4 hx ha hdb he hpl
theorem px_mk (M:Mkr X.prog X.w X.K X.mg X.base x C k ps dvs sp) (hr:Room (k+1) X.A) (ha:PA X.nox (e::es) t) (hg:Gl X x:=by rfl)
  (hdb:(x==("__debug__" : Str))=false:=by decide) (he:starEach (e::es) X.env=(false,eval e X.env)::starEach es X.env:=by rfl) (hpl:(backTo pos (starEach es X.env)).any (·.1)=false:=by rfl) :
  PEx X (.Call (.Name x p) (e::es) [] pos) (fun σ H Q E=>t σ H fun vs H1=>∀ x dx,H1 x=none->H1 dx=none->dx≠x ->
   sp (.ref x::(vs++dvs)) (upd (upd H1 dx (.own x)) x (.ins C dx [])) (fun v H2=>v = .non/\Q (.ref x) H2) E):=by
 obtain⟨hm,f,fd,ds,h1,h2,h3,h4⟩:=M.ex
 exact px_make h1 h2 hr hg hm h3 h4 ha hdb he hpl
end
def Itv (K:PySem.W.Frag) (a:Addr) (n:Nat):It:=
 ⟨fun i H=>i<n/\∃ xs,SqL K H a xs/\xs.length=n,fun i H x H'=>H'=H/\∀ xs,SqL K H a xs->xs[n-1-i]? = some x,fun i H=>n<=i⟩
theorem turn_rev {P:Program}{w:World}{K:PySem.W.Frag}{tg:Expr}(a it:Addr) (n:Nat):Turn P w K tg (Itv K a n) [it] it (fun i h=>i<=n/\h.IsRevIter it a ((n:Int)-1-i)) where
 mem:=by simp
 obj:=fun i h st b hb=>by
  have e:b=it:=by simpa using hb
  subst e
  obtain⟨_,o,e,c,d⟩:=st
  exact⟨o,e,fun v z=>by rw[d] at z;cases z⟩
 keep:=fun i h h' st k=>by
  obtain⟨z,o,e,c,d⟩:=st
  exact⟨z,o,k it (by simp) o e,c,d⟩
 item:=by
  intro X hP hw hK hc i pins s σ H E I hf st hg
  subst hP hw hK
  obtain⟨hin,xs,hq,hl⟩:=hg
  obtain⟨its,rv,p,hz⟩:=I.list hq
  obtain⟨x,hx⟩:∃ x,xs[n-1-i]? = some x:=⟨_,List.getElem?_eq_getElem ∅⟩
  obtain⟨u,hu,ru⟩:=rv.get hx
  obtain⟨f0,f1,f2,f3,f4,f5⟩:=hf it (by simp)
  have st2:s.heap.IsRevIter it a (((n-1-i:Nat):Int)):=by
   have e:(((n-1-i:Nat):Int))=(n:Int)-1-i:=by omega
   rw[e];exact st.2
  refine wpAny_pyNext_rev_item st2 p.isList (x:=u) (by simpa using hu) fun h' st' sb=>?_
  have I1:Inv X pins σ H { s with heap:=h' }:=I.turned (t':=s.toks) (fun b o hb e=>(sb.2 b hb).trans e) f0 f1 f3 f4 f5
  have st3:h'.IsRevIter it a ((n:Int)-1-((i+1:Nat):Int)):=by
   have e:(n:Int)-1-((i+1:Nat):Int)=(((n-1-i:Nat):Int))-1:=by omega
   rw[e];exact st'
  obtain⟨o,e,c,d⟩:=id st'
  exact⟨u,rfl,go_of (s:={ s with heap:=h' }) e c d ⋯ ⟨x,H,I1,ru,⟨rfl,fun ys hy=>by rw[I.list_inj hy hq];exact hx⟩,⟨by omega,st3⟩,fun b hb=>(hf b hb).1⟩⟩
 done:=by
  intro X hP hw hK hc i pins s σ H E I hf st hg
  subst hP hw hK
  have hg':n<=i:=hg
  obtain⟨f0,f1,f2,f3,f4,f5⟩:=hf it (by simp)
  have st2:s.heap.IsRevIter it a (-1):=by
   have h1:=st.1
   have e:(-1:Int)=(n:Int)-1-i:=by omega
   rw[e];exact st.2
  exact wpAny_pyNext_rev_end (I.ok.hd hc) st2 fun h' eb=>⟨rfl,I.turned (t':=s.toks) (fun b o hb e=>eb b o hb e) f0 f1 f3 f4 f5⟩
 self:=fun _ _ _ _ _ st h=>wpAny_pyIter_revIter st.2 h
def iRev (K:PySem.W.Frag) (ta:TA):TI:=fun σ H R=>ta σ H fun vs H1=>∃ a xs,vs=[.ref a]/\SqL K H1 a xs/\R (Itv K a xs.length) H1
section
variable {X:Cx}{tg:Expr}
theorem pi_reversed {a:Expr}{ta:TA}{p pos:Pos}(hg:Gl X "reversed") (hm:X.mg "reversed" = none) (ha:PA X [a] ta) (hs:starEach [a] X.env=[(false,eval a X.env)]:=by rfl):PI X tg (.Call (.Name "reversed" p) [a] [] pos) (iRev X.K ta):=by
 intro pins s σ H R I h
 refine Call_ (ld_blt I hg hm bt_reversed (PyProof.Rows.callWith_type1 (thn (ha pos pins s σ H _ I h) fun us s1 ⟨vs,H1,I1,r1,q1⟩=>?_) hs rfl))
 obtain⟨a,xs,e,hq,q⟩:=q1
 subst e
 cases r1 with
 | cons r rr=>
  cases rr
  cases r
  obtain⟨its,rv,pl,hz⟩:=I1.list hq
  have hl:=rv.length
  refine call_reversed_list pl.isList ?_
  have st:(s1.heap.push (revObj a ((its.toArray.size:Int)-1))).IsRevIter s1.heap.objs.size a ((xs.length:Int)-1-((0:Nat):Int)):=by
   refine⟨_,Heap.get?_push_size _ rfl,rfl,?_⟩
   show Data.fields #[.ref a,rawInt ((its.toArray.size:Int)-1)]=_
   have e:(its.toArray.size:Int)-1=(xs.length:Int)-1-((0:Nat):Int):=by simp;omega
   rw[e]
  refine wpAny_pyIter_revIter st ?_
  refine⟨s1.heap.objs.size,[s1.heap.objs.size],_,_,H1,rfl,I1.kept (t':=s1.toks) fun b o e=>Heap.get?_push_of_some _ e,turn_rev a _ xs.length,⟨Nat.zero_le _,st⟩,fun b hb=>?_,q⟩
  have e:b=s1.heap.objs.size:=by simpa using hb
  subst e
  exact I1.fpOk (Nat.le_refl _) (I1.hok.fresh (Nat.le_refl _))
end
def Itd (d:Addr) (o:Obj) (kvs:List (Key×V)):It:=
 ⟨fun i H=>i<kvs.length/\H d=some (.frz o (.dK kvs)),fun i H x H'=>H'=H/\∃ k v,kvs[i]? = some (k,v)/\x=kV k,fun i H=>kvs.length<=i/\H d=some (.frz o (.dK kvs))⟩
theorem dict_at {P:Program}{w:World}{H:Hp}{h:Heap}{d:Addr}{o:Obj}{kvs:List (Key×V)}(hok:ObjOk P w H h d (.frz o (.dK kvs))):∃ vs,KV kvs vs/\∃ es ep,o.data = .dict es ep/\h.DictAt (mixKind P w) d vs ep:=by
 obtain⟨e,_,_,vs,hv,o',es,ep,e',h1,h2,h3⟩:=hok
 rw[e] at e'
 cases e'
 exact⟨vs,hv,es,ep,h2,_,es,e,h1,h2,h3⟩
theorem turn_dict {P:Program}{w:World}{K:PySem.W.Frag}{tg:Expr}(d it:Addr) (o:Obj) (kvs:List (Key×V)):Turn P w K tg (Itd d o kvs) [it] it (fun i h=>i<=kvs.length/\∃ es ep,o.data = .dict es ep/\h.IsKeyIter it d i kvs.length ep) where
 mem:=by simp
 obj:=fun i h st b hb=>by
  have e:b=it:=by simpa using hb
  subst e
  obtain⟨_,_,_,_,o,e,c,d⟩:=st
  exact⟨o,e,fun v z=>by rw[d] at z;cases z⟩
 keep:=fun i h h' st k=>by
  obtain⟨z,es,ep,z2,o,e,c,d⟩:=st
  exact⟨z,es,ep,z2,o,k it (by simp) o e,c,d⟩
 item:=by
  intro X hP hw hK hc i pins s σ H E I hf st hg
  subst hP hw hK
  obtain⟨hin,hq⟩:=hg
  obtain⟨vs,hv,es,ep,hd,hA⟩:=dict_at (I.hok d _ hq)
  obtain⟨_,es',ep',hd',st⟩:=st
  rw[hd] at hd'
  cases hd'
  have hl:=Paired.length hv
  obtain⟨f0,f1,f2,f3,f4,f5⟩:=hf it (by simp)
  rw[hl] at st hin
  have hx:vs[i]? = some (vs[i].1,vs[i].2):=List.getElem?_eq_getElem hin
  obtain⟨v',hk⟩:=kv_key hv hx
  refine wpAny_pyNext_dict_item st hA hx fun key h' hkey st' sb=>?_
  have I1:Inv X pins σ H { s with heap:=h' }:=I.turned (t':=s.toks) (fun b o hb e=>(sb.2 b hb).trans e) f0 f1 f3 f4 f5
  obtain⟨o2,e,c,d2⟩:=id st'
  have rk:RelV (kV vs[i].1) key:=by
   generalize vs[i].1=k at *
   rcases keyIs_shape (k:=k) (v:=key) hkey with⟨j,t,rfl,rfl⟩ | ⟨y,t,rfl,rfl⟩
   ·exact⟨t,rfl⟩
   ·exact⟨t,rfl⟩
  rw[←hl] at st'
  exact⟨key,rfl,go_of (s:={ s with heap:=h' }) e c d2 ⋯ ⟨_,H,I1,rk,⟨rfl,_,_,hk,rfl⟩,⟨by omega,es,ep,hd,st'⟩,fun b hb=>(hf b hb).1⟩⟩
 done:=by
  intro X hP hw hK hc i pins s σ H E I hf st hg
  subst hP hw hK
  obtain⟨hin,hq⟩:=hg
  obtain⟨vs,hv,es,ep,hd,hA⟩:=dict_at (I.hok d _ hq)
  obtain⟨_,es',ep',hd',st⟩:=st
  rw[hd] at hd'
  cases hd'
  have hl:=Paired.length hv
  obtain⟨f0,f1,f2,f3,f4,f5⟩:=hf it (by simp)
  rw[hl] at st
  exact wpAny_pyNext_dict_end (I.ok.hd hc) st hA (List.getElem?_eq_none_iff.mpr ∅) fun h' eb=>⟨rfl,I.turned (t':=s.toks) (fun b o hb e=>eb b o hb e) f0 f1 f3 f4 f5⟩
 self:=fun _ _ _ _ _ st h=>by
  obtain⟨_,_,_,_,st⟩:=st
  exact wpAny_pyIter_keyiter st h
def iDict (td:TE):TI:=fun σ H R=>td σ H fun x H1=>∃ d kvs,x = .ref d/\((H1 d=some (.dK kvs)/\∀ o,R (Itd d o kvs) (upd H1 d (.frz o (.dK kvs))))\/∃ o,H1 d=some (.frz o (.dK kvs))/\R (Itd d o kvs) H1)
theorem Inv.freeze {X:Cx}{pins:List (Addr×Obj)}{σ:St}{H:Hp}{s:Shared}{d:Addr}{kvs:List (Key×V)}(I:Inv X pins σ H s) (h:H d=some (.dK kvs)):∃ o,Inv X pins σ (upd H d (.frz o (.dK kvs))) s:=by
 obtain⟨o,ho⟩:=I.hok.there h
 refine⟨o,?_⟩
 have own:∀ c y,H c=some (.own y)->upd H d (.frz o (.dK kvs)) c=some (.own y):=fun c y q=>by rw[Zb8 (ne_of q h (by intro z;cases z))];exact q
 have tup:∀ c xs,H c=some (.tup xs)->upd H d (.frz o (.dK kvs)) c=some (.tup xs):=fun c y q=>by rw[Zb8 (ne_of q h (by intro z;cases z))];exact q
 have st:∀ b u,H b=some u->ObjOk X.prog X.w (upd H d (.frz o (.dK kvs))) s.heap b u:=fun b u e=>(I.hok b u e).stay (fun _ _ _ q=>q) (fun c q=>own c b q) tup
 have:=I.un (t':=s.toks) (h':=s.heap) (H':=upd H d (.frz o (.dK kvs))) ⟨fun b o e _ _ _=>e,fun b o e _ _ _=>⟨o.slots,e⟩,fun b o e n _=>by
   rw[Zb8 (fun z=>by rw[z,h] at n;cases n)];exact n,fun b o e _=>⟨o,e⟩,tup,
  fun b o' u q=>by rw[Zb8 (ne_of q h (by intro z;cases z))];exact q,fun b ps q=>⟨#[],by rw[Zb8 (ne_of q h (by intro z;cases z))];simpa using q⟩⟩ fun b u e=>by
   by_cases hb:b=d
   ·subst hb
    rw[Za4] at e
    cases e
    exact⟨ho,st _ _ h⟩
   ·rw[Zb8 hb] at e
    exact st b u e
 exact this
section
variable {X:Cx}{tg:Expr}
theorem pi_dict {l:Expr}{tl:TE}(hl:PE X l tl):PI X tg l (iDict tl):=by
 intro pins s σ H R I h
 refine thn (hl pins s σ H _ I h) fun v s1 ⟨x,H1,I1,r1,q1⟩=>?_
 obtain⟨d,kvs,e,q1⟩:=q1
 subst e
 cases r1
 have go:∀ H2 o,Inv X pins σ H2 s1->H2 d=some (.frz o (.dK kvs))->R (Itd d o kvs) H2->wpAny (model X.prog X.w) X.A (pyIter (.ref d)) (PIE X pins σ tg R) X.xe s1:=fun H2 o I2 hq q=>by
  obtain⟨vs,hv,es,ep,hd,hA⟩:=dict_at (I2.hok d _ hq)
  have hl:=Paired.length hv
  have hs:(d==sysModules)=false:=(I2.hok d _ hq).2.2.1
  refine wpAny_pyIter_dict hs hA ?_
  refine⟨s1.heap.objs.size,[s1.heap.objs.size],_,_,H2,rfl,I2.kept (t':=s1.toks) fun b o e=>Heap.get?_push_of_some _ e,turn_dict d _ o kvs,⟨Nat.zero_le _,es,ep,hd,_,Heap.get?_push_size _ rfl,rfl,by rw[hl];rfl⟩,fun b hb=>?_,q⟩
  have e:b=s1.heap.objs.size:=by simpa using hb
  subst e
  exact I2.fpOk (Nat.le_refl _) (I2.hok.fresh (Nat.le_refl _))
 rcases q1 with⟨hq,q⟩ | ⟨o,hq,q⟩
 ·obtain⟨o,I2⟩:=I1.freeze hq
  exact go _ o I2 Za4 (q o)
 ·exact go H1 o I1 hq q
end
end L2
set_option maxHeartbeats 1000000
namespace L2
open PySem PySem.Spec PyProof.Rows MoM
def mkS (p:Pl):Str:=⟨p.toArray⟩
def toP (x:Str):Pl:=x.cps.toList
theorem toP_mk (p:Pl):toP (mkS p)=p:=by simp[toP,mkS]
theorem mk_toP (x:Str):mkS (toP x)=x:=by cases x;simp[toP,mkS]
theorem mkS_inj {p q:Pl}:mkS p=mkS q↔p=q:=⟨fun h=>by rw[←toP_mk p,h,toP_mk],fun h=>by rw[h]⟩
theorem mkS_app (p q:Pl):mkS p++mkS q=mkS (p++q):=by
 show (⟨p.toArray++q.toArray⟩:Str)=⟨(p++q).toArray⟩
 simp
theorem Zc4 (p:Pl):(mkS p).length=p.length:=by show p.toArray.size=p.length;simp
theorem s_empty:("" : Str)=mkS []:=by ac_nf
theorem s_l:("l" : Str)=mkS [108]:=by ac_nf
theorem s_r:("r" : Str)=mkS [114]:=by ac_nf
structure Kp (H H':Hp):Prop where
 ins:∀ b C dx fs,H b=some (.ins C dx fs)->H' b=some (.ins C dx fs)
 tup:∀ b xs,H b=some (.tup xs)->H' b=some (.tup xs)
theorem Kp.refl {H:Hp}:Kp H H:=⟨fun _ _ _ _ h=>h,fun _ _ h=>h⟩
theorem Kp.trans {H H' H'':Hp}(a:Kp H H') (b:Kp H' H''):Kp H H'':=⟨fun _ _ _ _ h=>b.ins _ _ _ _ (a.ins _ _ _ _ h),fun _ _ h=>b.tup _ _ (a.tup _ _ h)⟩
theorem Same.kp {H H':Hp}(s:Same H H'):Kp H H':=⟨fun b _ _ _ h=>s b _ h,fun b _ h=>s b _ h⟩
theorem Kp.dK {H:Hp}{p:Addr}{o:HO}{kvs:List (Key×V)}(h:H p=some (.dK kvs)):Kp H (upd H p o):=
 ⟨fun b _ _ _ e=>by rw[Zb8 (ne_of e h (by intro z;cases z))];exact e,fun b _ e=>by rw[Zb8 (ne_of e h (by intro z;cases z))];exact e⟩
theorem Kp.dT {H:Hp}{p:Addr}{o:HO}{kvs:List (List Key×V)}(h:H p=some (.dT kvs)):Kp H (upd H p o):=
 ⟨fun b _ _ _ e=>by rw[Zb8 (ne_of e h (by intro z;cases z))];exact e,fun b _ e=>by rw[Zb8 (ne_of e h (by intro z;cases z))];exact e⟩
theorem Kp.lst {H:Hp}{p:Addr}{o:HO}{xs:List V}(h:H p=some (.lst xs)):Kp H (upd H p o):=
 ⟨fun b _ _ _ e=>by rw[Zb8 (ne_of e h (by intro z;cases z))];exact e,fun b _ e=>by rw[Zb8 (ne_of e h (by intro z;cases z))];exact e⟩
abbrev FrV (H:Hp) (v:V) (f:Fr):Prop:=FrAt H v f.1 f.2
theorem FrAt.kp {H H':Hp}{v:V}{a b:Int}(h:FrAt H v a b) (k:Kp H H'):FrAt H' v a b:=let ⟨p,e,q⟩:=h;⟨p,e,k.tup p _ q⟩
def RowV (H:Hp) (v:V) (r:List Fr):Prop:=∃ q xs,v = .ref q/\H q=some (.tup xs)/\Paired (FrV H) xs r
theorem RowV.kp {H H':Hp}{v:V}{r:List Fr}(h:RowV H v r) (k:Kp H H'):RowV H' v r:=
 let ⟨q,xs,e,h1,h2⟩:=h;⟨q,xs,e,k.tup _ _ h1,Paired.mapP h2 fun _ _ z=>FrAt.kp z k⟩
theorem RowV.one {H:Hp}{q:Addr}{x:V}{f:Fr}(h:H q=some (.tup [x])) (hx:FrV H x f):RowV H (.ref q) [f]:=⟨q,_,rfl,h,.cons hx .nil⟩
theorem RowV.two {H:Hp}{q:Addr}{x y:V}{f g:Fr}(h:H q=some (.tup [x,y])) (hx:FrV H x f) (hy:FrV H y g):RowV H (.ref q) [f,g]:=⟨q,_,rfl,h,.cons hx (.cons hy .nil)⟩
structure RowsK (H:Hp) (kvs:List (Key×V)) (m:Mo):Prop where
 keys:∃ ks,TextKeys kvs ks
 nd:(kvs.map (·.1)).Nodup
 row:∀ p r,m.rowAt p=some r->∃ v,valV kvs (.inr (mkS p))=some v/\RowV H v r
 non:∀ p,m.rowAt p=none->valV kvs (.inr (mkS p))=none
theorem RowsK.kp {H H':Hp}{kvs:List (Key×V)}{m:Mo}(h:RowsK H kvs m) (k:Kp H H'):RowsK H' kvs m:=
 ⟨h.keys,h.nd,fun p r e=>let ⟨v,h1,h2⟩:=h.row p r e;⟨v,h1,h2.kp k⟩,h.non⟩
def RowsAt (H:Hp) (d:Addr) (m:Mo):Prop:=∃ kvs,Rd H d (.dK kvs)/\RowsK H kvs m
theorem put_keys {kvs:List (Key×V)}{ks:List Str}{x:Str}{v:V}(h:TextKeys kvs ks):∃ ks',TextKeys (putK kvs (.inr x) v) ks':=by
 unfold putK
 split
 ·refine⟨ks,?_⟩
  unfold TextKeys
  rw[←h,List.map_map]
  refine List.map_congr_left fun p _=>?_
  simp only[Function.comp]
  split <;> rfl
 ·refine⟨ks++[x],?_⟩
  unfold TextKeys
  rw[List.map_append,List.map_append,h];rfl
theorem put_nd {κ:Type} [DecidableEq κ] {kvs:List (κ×V)}{k:κ}{v:V}(h:(kvs.map (·.1)).Nodup):((putK kvs k v).map (·.1)).Nodup:=by
 unfold putK
 split
 ·have:(kvs.map fun kv=>if kv.1=k then (kv.1,v) else kv).map (·.1)=kvs.map (·.1):=by
   rw[List.map_map]
   refine List.map_congr_left fun p _=>?_
   simp only[Function.comp]
   split <;> rfl
  rw[this];exact h
 ·rename_i hn
  rw[List.map_append]
  refine List.nodup_append.mpr ⟨h,by simp,fun a ha b hb=>?_⟩
  simp only[List.map_cons,List.map_nil,List.mem_singleton] at hb
  subst hb
  intro e
  subst e
  obtain⟨p,hp,rfl⟩:=List.mem_map.mp ha
  exact hn (List.any_eq_true.mpr ⟨p,hp,by simp⟩)
theorem RowsK.put {H:Hp}{kvs:List (Key×V)}{m m':Mo}{p:Pl}{v:V}{r:List Fr}(h:RowsK H kvs m) (hv:RowV H v r) (e:∀ q,m'.rowAt q=if q=p then some r else m.rowAt q):RowsK H (putK kvs (.inr (mkS p)) v) m':=by
 obtain⟨ks,hk⟩:=h.keys
 refine⟨put_keys hk,put_nd h.nd,fun q r' e'=>?_,fun q e'=>?_⟩
 ·rw[e] at e'
  rw[valV_put]
  by_cases hq:q=p
  ·subst hq
   rw[if_pos rfl] at e'
   cases e'
   rw[if_pos rfl]
   exact⟨v,rfl,hv⟩
  ·rw[if_neg hq] at e'
   rw[if_neg (fun z=>hq (mkS_inj.mp (Sum.inr.inj z)))]
   exact h.row q r' e'
 ·rw[e] at e'
  rw[valV_put]
  by_cases hq:q=p
  ·subst hq;rw[if_pos rfl] at e';cases e'
  ·rw[if_neg hq] at e'
   rw[if_neg (fun z=>hq (mkS_inj.mp (Sum.inr.inj z)))]
   exact h.non q e'
theorem RowsK.sorted {H:Hp}{kvs:List (Key×V)}{m:Mo}(h:RowsK H kvs m) {ks ks':List Str}(hk:TextKeys kvs ks) (hp:ks'.Perm ks) (hs:ks'.Pairwise SortL.Lx):ks'=m.places.map mkS:=by
 have e:ks'.map toP=m.places:=by
  refine sorted_ext (List.pairwise_map.mpr hs) (Mo.places_sorted m) fun x=>?_
  have h1:x∈ks'.map toP↔mkS x∈ks:=by
   rw[←hp.mem_iff]
   constructor
   ·intro hx
    obtain⟨y,hy,rfl⟩:=List.mem_map.mp hx
    rw[mk_toP];exact hy
   ·intro hx
    exact List.mem_map.mpr ⟨_,hx,toP_mk x⟩
  have h2:mkS x∈ks↔(valV kvs (.inr (mkS x))).isSome=true:=by
   constructor
   ·intro hx
    have:(Sum.inr (mkS x):Key)∈kvs.map (·.1):=by rw[hk];exact List.mem_map_of_mem hx
    cases z:valV kvs (.inr (mkS x)) with
    | none=>exact absurd this (valV_not z)
    | some v=>rfl
   ·intro hx
    cases z:valV kvs (.inr (mkS x)) with
    | none=>rw[z] at hx;cases hx
    | some v=>
     have:=valV_in z
     rw[hk] at this
     obtain⟨y,hy,e⟩:=List.mem_map.mp this
     cases e;exact hy
  rw[h1,h2,Mo.mem_places]
  constructor
  ·intro hx
   cases z:m.sub x with
   | none=>
    have:=h.non x (by unfold Mo.rowAt;rw[z];rfl)
    rw[this] at hx;cases hx
   | some s=>exact⟨s,rfl⟩
  ·rintro⟨s,hs⟩
   obtain⟨v,hv,_⟩:=h.row x _ (Mo.rowAt_some hs)
   rw[hv];rfl
 have:ks'=(ks'.map toP).map mkS:=by
  rw[List.map_map]
  have:ks'.map (mkS∘toP)=ks'.map id:=List.map_congr_left fun y _=>mk_toP y
  rw[this,List.map_id]
 rw[this,e]
theorem RowsK.length {H:Hp}{kvs:List (Key×V)}{m:Mo}(h:RowsK H kvs m) {ks:List Str}(hk:TextKeys kvs ks):ks.Nodup/\kvs.length=ks.length:=by
 have h1:=h.nd
 rw[hk] at h1
 refine⟨List.Pairwise.of_map Sum.inr (fun a b h e=>h (by rw[e])) h1,?_⟩
 have:=congrArg List.length hk
 simpa using this
def Th (cW cR:Addr) (H:Hp):V->Mo->Prop
 | v,.wt f=>∃ a dx u,v = .ref a/\H a=some (.ins cW dx [("amount",u)])/\FrV H u f
 | v,.rod l x r y=>∃ a dx u1 u2 u3 u4,v = .ref a/\H a=some (.ins cR dx [("left_arm",u1),("left",u2),("right_arm",u3),("right",u4)])/\FrV H u1 l/\Th cW cR H u2 x/\FrV H u3 r/\Th cW cR H u4 y
theorem Th.kp {cW cR:Addr}{H H':Hp}(k:Kp H H'):∀ {m:Mo}{v:V},Th cW cR H v m->Th cW cR H' v m
 | .wt f,v,⟨a,dx,u,e,h,hf⟩=>⟨a,dx,u,e,k.ins _ _ _ _ h,FrAt.kp hf k⟩
 | .rod l x r y,v,⟨a,dx,u1,u2,u3,u4,e,h,h1,h2,h3,h4⟩=>⟨a,dx,u1,u2,u3,u4,e,k.ins _ _ _ _ h,FrAt.kp h1 k,Th.kp k h2,FrAt.kp h3 k,Th.kp k h4⟩
def KdT (cW cR C:Addr):Prop:=C=cW\/C=cR
end L2
set_option maxHeartbeats 1000000
namespace L2
open PySem PySem.Spec PyProof.Rows MoM
section
variable {X:Cx}
theorem starts_eq (x y:Str):(decide (0+y.length<=x.length)&&Builtin.Str.subAt x y 0)=(toP y).isPrefixOf (toP x):=by
 obtain⟨a⟩:=x
 obtain⟨b⟩:=y
 rw[Bool.eq_iff_iff]
 show (decide (0+b.size<=a.size)&&(a.extract 0 (0+b.size)==b))=true↔_
 rw[List.isPrefixOf_iff_prefix]
 simp only[Bool.and_eq_true,decide_eq_true_eq,beq_iff_eq,Nat.zero_add]
 show _↔b.toList <+: a.toList
 constructor
 ·rintro⟨_,h⟩
  rw[←h]
  have:=SortL.ext_list (a:=a) 0 b.size
  rw[List.drop_zero] at this
  rw[this]
  exact List.take_prefix _ _
 ·rintro⟨t,h⟩
  have hl:=congrArg List.length h
  simp only[List.length_append,Array.length_toList] at hl
  refine⟨by omega,?_⟩
  apply Array.toList_inj.mp
  rw[SortL.ext_list,List.drop_zero,←h,←Array.length_toList,List.take_left']
  rfl
theorem mt_starts:MtR X "str.startswith" rStarts:=by
 intro pins s σ H x xs v us Q I rx rv h
 obtain⟨y,z,rfl,rfl,q⟩:=h
 obtain⟨t,rfl⟩:=rx
 obtain⟨u,rfl,⟨t',rfl⟩⟩:=vals1 rv
 refine call_gives PySem.F.slot_str_startswith (typeIs_str s y t) PySem.F.entry_str_startswith (PySem.F.args_str_startswith_2 _ _) (gives_str_startswith y z t t') ?_
 exact fin_bl I q (starts_eq y z).symm
end
theorem pick_range (a:Array Nat) (i:Nat):∀ k:Nat,i+k<=a.size->((List.range k).map (· + i)).filterMap (fun t=>a[t]?)=(a.toList.drop i).take k
 | 0,_=>by simp
 | k+1,h=>by
  have ih:=pick_range a i k ∅
  rw[List.range_succ,List.map_append,List.filterMap_append,ih,List.take_succ,List.getElem?_drop]
  congr 1
  have hlt:k+i<a.size:=by omega
  simp only[List.map_cons,List.map_nil,List.filterMap_cons,List.filterMap_nil]
  have e:a.toList[i+k]? = a[k+i]?:=by rw[Array.getElem?_toList,Nat.add_comm]
  rw[e,getElem?_pos a (k+i) hlt]
  rfl
theorem slice_gen (x:Str) (lo hi:Option Int) (i j:Nat) (hij:i<=j) (hj:j<=x.length) (h:Builtin.Str.strSliceIndices lo hi 1 x.length=(List.range (j-i)).map (· + i)) :
  Txt.slice x lo hi=mkS (((toP x).take j).drop i):=by
 have hs:(toP x).length=x.length:=by show x.cps.toList.length=x.cps.size;simp
 unfold Txt.slice
 rw[h]
 split
 ·rename_i hc
  simp only[beq_self_eq_true,Bool.true_and,List.length_map,List.length_range,beq_iff_eq] at hc
  have e1:i=0:=by omega
  have e2:j=(toP x).length:=by omega
  subst e1;subst e2
  rw[List.take_length,List.drop_zero,mk_toP]
 ·have:=pick_range x.cps i (j-i) (by show i+(j-i)<=x.length;omega)
  show (⟨_⟩:Str)=⟨_⟩
  rw[this,List.drop_take]
  rfl
def clipI (n:Nat) (d:Int):Option Int->Int
 | none=>d
 | some a=>max 0 (min (if a<0 then a+n else a) n)
theorem indices (lo hi:Option Int) (n i j:Nat) (hlo:clipI n 0 lo=i) (hhi:clipI n n hi=j) (hij:i<=j) :
  Builtin.Str.strSliceIndices lo hi 1 n=(List.range (j-i)).map (· + i):=by
 have key:Builtin.Str.strSliceIndices lo hi 1 n=sliceRange (clipI n 0 lo) (clipI n n hi) 1:=by
  cases lo <;> cases hi <;> rfl
 rw[key,hlo,hhi]
 unfold sliceRange
 dsimp only
 rw[if_pos ⋯]
 have e:(if (i:Int)<j then ((j:Int)-i+1-1) / 1 else 0).toNat=j-i:=by
  rw[Int.ediv_one]
  split <;> omega
 rw[e]
 refine List.map_congr_left fun k _=>?_
 omega
theorem slice_tail (c:Nat) (p:Pl):Txt.slice (mkS (c::p)) (some 1) none=mkS p:=by
 have hl:(mkS (c::p)).length=p.length+1:=by rw[Zc4];rfl
 rw[slice_gen _ _ _ 1 (p.length+1) ∅ ∅ (by rw[hl];exact indices _ _ _ _ _ (by simp[clipI];omega) (by simp[clipI]) ∅),toP_mk]
 congr 1
 simp
end L2
set_option maxHeartbeats 1000000
namespace L2
open PySem PySem.Spec PyProof.Rows MoM FrM
section
variable {X:Cx}{K:PySem.W.Frag}
theorem op_eqSLK (h:X.K=K) (hu:X.A.units+1<cLine):OpR X (compareOp .Eq) (rEqSL K):=h▸op_eqSL hu
def rListOf (K:PySem.W.Frag):List V->Hp->VK->Prop:=fun xs H Q=>∃ p ys,xs=[.ref p]/\(SqL K H p ys\/SqT K H p ys)/\∀ l,H l=none->Q (.ref l) (upd H l (.lst ys))
theorem listK (h:X.K=K):CallR X (.type "list") (rListOf K):=h▸call_list_of
end
def rFld (K:PySem.W.Frag) (f:Str) (x:V) (H:Hp) (Q:VK):Prop:=∃ a C dx fs v,x = .ref a/\H a=some (.ins C dx fs)/\Cls K C/\NoAttr K C f/\fs.lookup f=some v/\Q v H
theorem tFld_def {K:PySem.W.Frag}{ta:TE}{f:Str}{σ:St}{H:Hp}{Q:VK}:tFld K ta f σ H Q=ta σ H fun x H1=>rFld K f x H1 Q:=rfl
theorem fld_ok {K:PySem.W.Frag}{f:Str}{H:Hp}{Q:VK}{a C dx:Addr}{fs:List (Str×V)}{v:V}(e:H a=some (.ins C dx fs)) (c:Cls K C) (n:NoAttr K C f) (l:fs.lookup f=some v) (q:Q v H):rFld K f (.ref a) H Q:=⟨a,C,dx,fs,v,rfl,e,c,n,l,q⟩
def rSFld (K:PySem.W.Frag) (f:Str) (y x:V) (H:Hp) (Q:Hp->Prop):Prop:=∃ a C dx fs,x = .ref a/\H a=some (.ins C dx fs)/\Cls K C/\NoAttr K C f/\fs.length<1000/\Q (upd H a (.ins C dx (putF f y fs)))
theorem sFld_def {K:PySem.W.Frag}{ta tv:TE}{f:Str}{D:Ends}{σ:St}{H:Hp}:sFld K ta tv f D σ H=tv σ H fun y H1=>ta σ H1 fun x H2=>rSFld K f y x H2 fun H3=>D.nx σ H3:=rfl
theorem sfld_ok {K:PySem.W.Frag}{f:Str}{y:V}{H:Hp}{Q:Hp->Prop}{a C dx:Addr}{fs:List (Str×V)}(e:H a=some (.ins C dx fs)) (c:Cls K C) (n:NoAttr K C f) (l:fs.length<1000) (q:Q (upd H a (.ins C dx (putF f y fs)))):rSFld K f y (.ref a) H Q:=⟨a,C,dx,fs,rfl,e,c,n,l,q⟩
def spC (sp:Sp) (C:Addr):Sp:=fun vs H Q E=>(∃ a dx fs rest,vs = .ref a::rest/\H a=some (.ins C dx fs))/\sp vs H Q E
def rMk (C:Addr) (sp:Sp) (dvs:List V) (E:XK) (vs:List V) (H1:Hp) (Q:VK):Prop:=∀ x dx,H1 x=none->H1 dx=none->dx≠x->sp (.ref x::(vs++dvs)) (upd (upd H1 dx (.own x)) x (.ins C dx [])) (fun v H2=>v = .non/\Q (.ref x) H2) E
theorem tMake_def {C:Addr}{sp:Sp}{dvs:List V}{E:XK}{t:TA}{σ:St}{H:Hp}{Q:VK}:tMake C sp dvs E t σ H Q=t σ H fun vs H1=>rMk C sp dvs E vs H1 Q:=rfl
theorem dyn_ok {cW cR:Addr}{H:Hp}{v:V}{m:Mo}{nm:Str}{sp:Sp}{dvs xs:List V}{Q:VK}{E:XK}(h:Th cW cR H v m) (h1:∀ u:V,([("amount",u)]:List (Str×V)).lookup nm=none) (h2:∀ u1 u2 u3 u4:V,([("left_arm",u1),("left",u2),("right_arm",u3),("right",u4)]:List (Str×V)).lookup nm=none)
  (q:sp (v::(xs++dvs)) H Q E):rDyn (KdT cW cR) nm (spC sp) dvs v H (fun S=>S xs H Q E):=by
 cases m with
 | wt f=>
  obtain⟨a,dx,u,rfl,h,_⟩:=h
  exact⟨a,cW,dx,_,rfl,.inl rfl,h,h1 u,⟨a,dx,_,_,rfl,h⟩,q⟩
 | rod l x r y=>
  obtain⟨a,dx,u1,u2,u3,u4,rfl,h,_⟩:=h
  exact⟨a,cR,dx,_,rfl,.inr rfl,h,h2 u1 u2 u3 u4,⟨a,dx,_,_,rfl,h⟩,q⟩
theorem dyn_okR {cW cR:Addr}{H H':Hp}{v:V}{m:Mo}{nm:Str}{sp:Sp}{dvs xs:List V}{Q:VK}{E:XK}{R:(List V->Hp->VK->XK->Prop)->Prop}(h:Th cW cR H v m) (h1:∀ u:V,([("amount",u)]:List (Str×V)).lookup nm=none)
  (h2:∀ u1 u2 u3 u4:V,([("left_arm",u1),("left",u2),("right_arm",u3),("right",u4)]:List (Str×V)).lookup nm=none) (kp:Kp H H') (q:sp (v::(xs++dvs)) H' Q E) (hR:∀ S:List V->Hp->VK->XK->Prop,S xs H' Q E->R S) :
  rDyn (KdT cW cR) nm (spC sp) dvs v H R:=by
 cases m with
 | wt f=>
  obtain⟨a,dx,u,rfl,h,_⟩:=h
  exact⟨a,cW,dx,_,rfl,.inl rfl,h,h1 u,hR _ ⟨⟨a,dx,_,_,rfl,kp.ins _ _ _ _ h⟩,q⟩⟩
 | rod l x r y=>
  obtain⟨a,dx,u1,u2,u3,u4,rfl,h,_⟩:=h
  exact⟨a,cR,dx,_,rfl,.inr rfl,h,h2 u1 u2 u3 u4,hR _ ⟨⟨a,dx,_,_,rfl,kp.ins _ _ _ _ h⟩,q⟩⟩
theorem dget_ok {H:Hp}{d:Addr}{kvs:List (Key×V)}{x:Str}{v:V}(h:Rd H d (.dK kvs)) (e:valV kvs (.inr x)=some v):DGet H d (.str x) (some v):=.inl ⟨kvs,.inr x,h,rfl,e.symm⟩
theorem TyX.fr {K:PySem.W.Frag}{H:Hp}{v:V}{a b:Int}(h:FrAt H v a b):TyX K H v (.type "tuple"):=by
 obtain⟨p,rfl,h⟩:=h
 exact .of (.tup h)
theorem LenV.fr {K:PySem.W.Frag}{H:Hp}{v:V}{a b:Int}(h:FrAt H v a b):LenV K v H 2:=by
 obtain⟨p,rfl,h⟩:=h
 exact .inr ⟨_,SqT.of h,rfl⟩
theorem LenV.row {K:PySem.W.Frag}{H:Hp}{v:V}{r:List Fr}(h:RowV H v r):LenV K v H r.length:=by
 obtain⟨q,xs,rfl,h1,h2⟩:=h
 exact .inr ⟨_,SqT.of h1,(Paired.length h2).symm⟩
theorem row0 {K:PySem.W.Frag}{H:Hp}{v:V}{f:Fr}{r:List Fr}{Q:VK}(h:RowV H v (f::r)) (q:∀ x,FrV H x f->Q x H):rIxT K v (.int 0) H Q:=by
 obtain⟨p,xs,rfl,h1,h2⟩:=h
 cases h2 with | cons r1 t=>exact ix0 h1 (q _ r1)
theorem row1 {K:PySem.W.Frag}{H:Hp}{v:V}{f g:Fr}{r:List Fr}{Q:VK}(h:RowV H v (f::g::r)) (q:∀ x,FrV H x g->Q x H):rIxT K v (.int 1) H Q:=by
 obtain⟨p,xs,rfl,h1,h2⟩:=h
 cases h2 with | cons r1 t=>cases t with | cons r2 t=>exact ix1 h1 (q _ r2)
theorem mulOkS {a b:Int}{m n:Nat}(ha:Sm m a) (hb:Sm n b) (h:m+n<=134217728):IntMulOk a b:=mulOk_of ha hb h
theorem add_l (q:Pl):mkS q++("l" : Str)=mkS (q++[108]):=by rw[s_l,mkS_app]
theorem add_r (q:Pl):mkS q++("r" : Str)=mkS (q++[114]):=by rw[s_r,mkS_app]
theorem len_l (q:Pl) (h:q.length<=4096):(mkS q).length+("l" : Str).length<=sizeLine:=by rw[Zc4,s_l,Zc4,sizeLine_eq];show q.length+1<=_;omega
theorem len_r (q:Pl) (h:q.length<=4096):(mkS q).length+("r" : Str).length<=sizeLine:=by rw[Zc4,s_r,Zc4,sizeLine_eq];show q.length+1<=_;omega
theorem ixS0 {c:Nat}{q:Pl}{H:Hp}{Q:VK}(h:q.length<=4096) (k:Q (.str (mkS [c])) H):rIxS (.str (mkS (c::q))) (.int 0) H Q:=
 ⟨mkS (c::q),0,c,rfl,rfl,by rw[Zc4,sizeLine_eq];show q.length+1<=_;omega,atI_nat (j:=0) (by show (toP (mkS (c::q)))[0]? = _;rw[toP_mk];rfl),k⟩
theorem slS_tail {c:Nat}{q:Pl}{H:Hp}{Q:VK}(h:q.length<=4096) (k:Q (.str (mkS q)) H):rSlS (.str (mkS (c::q))) (some 1) none H Q:=
 ⟨_,rfl,by rw[Zc4,sizeLine_eq];show q.length+1<=_;omega,by rw[slice_tail];exact k⟩
theorem sm_0:Sm 4000 0:=Nat.pow_pos ⋯
theorem sm_1:Sm 4000 1:=by show 1<2 ^ 4000;exact Nat.one_lt_two_pow ⋯
theorem sq0 {K:PySem.W.Frag}{H:Hp}{p:Addr}{v:V}{l:List V}{Q:VK}(h:SqT K H p (v::l)) (q:Q v H):rIxT K (.ref p) (.int 0) H Q:=⟨p,v::l,0,v,rfl,rfl,h,atI_nat (j:=0) rfl,q⟩
theorem sq1 {K:PySem.W.Frag}{H:Hp}{p:Addr}{u v:V}{l:List V}{Q:VK}(h:SqT K H p (u::v::l)) (q:Q v H):rIxT K (.ref p) (.int 1) H Q:=⟨p,u::v::l,1,v,rfl,rfl,h,atI_nat (j:=1) rfl,q⟩
structure FunD (K:PySem.W.Frag) (x qual:Str) (st:Stmt) (f:Addr) (fd:FuncData) (T:Addr) (d:Value):Prop where
 ex:∃ (oc:Value) (od:Option Addr) (kV doc pm:Value) (an:Option Addr) (cdv ct:Value) (osl:Array (Option Value)),
  fd=PySem.W.fnOf x qual (defArgs st) (defBody st) (Za6 st) (.ref T) kV doc pm an cdv ct/\K.lookup f=some ⟨oc,od,.func fd,osl⟩/\PySem.W.codeIn K cdv qual=true
 kp:PySem.W.keepIn K (.ref f)=true
 df:∃ (o:Obj) (n:Nat),K.lookup T=some o/\o.data = .seq #[d] n
section
variable {P:Program}{w:World}{K:PySem.W.Frag}{mg:Str->Option Value}{base:Heap}{x qual:Str}{st:Stmt}{f:Addr}{fd:FuncData}{T:Addr}{d:Value}
theorem FunD.okE {N ps:List Str}{k:Nat}{sp:Sp}(F:FunD K x qual st f fd T d) (S:Zb0 N ps (Za6 st)) (len:∀ vs H Q E,sp vs H Q E->vs.length=ps.length)
  (hbody:∀ (cdv:Value) (A:Around) (outer:List Env) (s:Shared) (H:Hp) (vs:List V) (Q:VK) (E:XK),Room k (A.deeper (envOfC qual (Za6 st) s.heap.objs.size f cdv))->sp vs H Q E ->
   ∃ t,PSs (cxOf (CX1 P w) P w K mg base N qual (Za6 st) f cdv A outer s H E) (defBody st) t/\t { nx:=fun _ H'=>Q .non H',rt:=Q } (start N vs) H):FnOk P w K mg base (CX1 P w) (k+1) f fd ps sp:=by
 obtain⟨oc,od,kV,doc,pm,an,cdv,ct,osl,rfl,lk,hcd⟩:=F.ex
 exact fn_of lk hcd S len fun A outer s H vs Q E hr hsp=>hbody cdv A outer s H vs Q E hr hsp
theorem FunD.okN {N ps:List Str}{k:Nat}{sp:Sp}(F:FunD K x qual st f fd T d) (S:Zb0 N ps (Za6 st)) (len:∀ vs H Q E,sp vs H Q E->vs.length=ps.length)
  (hbody:∀ (cdv:Value) (A:Around) (outer:List Env) (s:Shared) (H:Hp) (vs:List V) (Q:VK) (E:XK),Room k (A.deeper (envOfC qual (Za6 st) s.heap.objs.size f cdv))->sp vs H Q E ->
   ∃ t,PSs (cxOf (CX1 P w) P w K mg base N qual (Za6 st) f cdv A outer s H E).nox (defBody st) t/\t { nx:=fun _ H'=>Q .non H',rt:=Q } (start N vs) H):FnOk P w K mg base (CX1 P w) (k+1) f fd ps sp:=
 F.okE S len fun cdv A outer s H vs Q E hr hsp=>by
  obtain⟨t,h,q⟩:=hbody cdv A outer s H vs Q E hr hsp
  exact⟨t,h.nox,q⟩
theorem FunD.binds {ps:List Str}{ds:List Value}(F:FunD K x qual st f fd T d)
  (h:∀ (kV doc pm:Value) (an:Option Addr) (cdv ct:Value) (us:List Value),(us++ds).length=ps.length->∃ k:Option (Array Value)->Sem (List (Str×Value)),
   bindArgs (PySem.W.fnOf x qual (defArgs st) (defBody st) (Za6 st) (.ref T) kV doc pm an cdv ct) ⟨us,[]⟩=seqItems? (.ref T)>>=k/\k (some #[d])=pure (ps.zip (us++ds))):Binds K fd ps ds:=by
 obtain⟨oc,od,kV,doc,pm,an,cdv,ct,osl,rfl,lk,hcd⟩:=F.ex
 intro s us X hl
 obtain⟨k,h1,h2⟩:=h kV doc pm an cdv ct us hl
 obtain⟨o,n,e,hd⟩:=F.df
 exact .of_defaults rfl (X T o e) hd h1 h2
end
end L2
set_option maxHeartbeats 1000000
namespace L2
open PySem PySem.Spec PyProof.Rows MoM FrM
theorem Same.sql {K:PySem.W.Frag}{H H':Hp}{a:Addr}{xs:List V}(s:Same H H') (h:SqL K H a xs):SqL K H' a xs:=by
 rcases h with (h | ⟨o,h⟩) | h
 ·exact .inl (.inl (s _ _ h))
 ·exact .inl (.inr ⟨o,s _ _ h⟩)
 ·exact .inr h
theorem Same.rd {H H':Hp}{a:Addr}{u:HO}(s:Same H H') (h:Rd H a u):Rd H' a u:=by
 rcases h with h | ⟨o,h⟩
 ·exact .inl (s _ _ h)
 ·exact .inr ⟨o,s _ _ h⟩
theorem comp_fm {K:PySem.W.Frag}{a D:Addr}{xs:List Str}{c:List (Option V)}{tc:TT}{te:TE}{Q:VK}{v0:Option V}{H1:Hp}(b:Str->Bool) (f:Str->V) (hn:xs.length<sizeLine) (hD:H1 D=none) (ha:SqL K H1 a (xs.map .str))
  (htc:∀ x∈xs,∀ ys R,R (b x) (upd H1 D (.lst ys))->tc (some (.str x)::c) (upd H1 D (.lst ys)) R) (hte:∀ x∈xs,b x=true->∀ ys R,R (f x) (upd H1 D (.lst ys))->te (some (.str x)::c) (upd H1 D (.lst ys)) R)
  (q:Q (.ref D) (upd H1 D (.lst ((xs.filter b).map f)))):CompW (Itl K a) D (gName 0) tc te (v0::c) H1 Q:=by
 refine comp_list (xs:=xs.map .str) (fun i ys H=>ys=((xs.take i).filter b).map f/\H=upd H1 D (.lst ys)) (by rw[List.length_map];exact hn) ⟨by simp,rfl⟩ ?_ ?_ ?_ ?_
 ·rintro i ys H ⟨rfl,rfl⟩
  refine⟨Za4,?_⟩
  rw[List.length_map]
  exact Nat.le_trans (List.length_filter_le _ _) (List.length_take_le _ _)
 ·rintro i ys H _ ⟨rfl,rfl⟩
  exact (Za7 hD).sql ha
 ·rintro i x ys H N hx ⟨rfl,rfl⟩ hN
  rw[List.getElem?_map] at hx
  cases e:xs[i]? with
  | none=>rw[e] at hx;cases hx
  | some y=>
   rw[e] at hx
   cases hx
   have hm:y∈xs:=List.mem_of_getElem? e
   have ht:xs.take (i+1)=xs.take i++[y]:=by rw[List.take_succ,e];rfl
   refine htc y hm _ _ ?_
   cases hb:b y with
   | true=>
    rw[if_pos rfl]
    refine hte y hm hb _ _ ⟨Za4,hN _ _ ⟨?_,?_⟩⟩
    ·rw[ht,List.filter_append,List.map_append,List.filter_cons,if_pos hb];rfl
    ·rw[upd_upd]
   | false=>
    rw[if_neg (by simp)]
    refine hN _ _ ⟨?_,rfl⟩
    rw[ht,List.filter_append,List.filter_cons,if_neg (by rw[hb];simp)];simp
 ·rintro ys H ⟨rfl,rfl⟩
  rw[List.length_map,List.take_length]
  exact q
theorem ixL_mem {K:PySem.W.Frag}{H:Hp}{p:Addr}{xs:List V}{i:Int}{Q:VK}(h:SqL K H p xs) (h1 : -(xs.length:Int)<=i) (h2:i<xs.length) (q:∀ v∈xs,Q v H):rIxL K (.ref p) (.int i) H Q:=by
 have:∃ v,atI xs i=some v/\v∈xs:=by
  unfold atI ixN
  by_cases h0:0<=i
  ·have hlt:i.toNat<xs.length:=by omega
   refine⟨xs[i.toNat],?_,List.getElem_mem hlt⟩
   simp[h0,hlt,h2]
  ·have hlt:(i+xs.length).toNat<xs.length:=by omega
   refine⟨xs[(i+xs.length).toNat],?_,List.getElem_mem hlt⟩
   rw[if_neg h0,if_pos h1]
   show xs[(i+xs.length).toNat]? = _
   rw[List.getElem?_eq_getElem hlt]
 obtain⟨v,e,hv⟩:=this
 exact⟨p,xs,i,v,rfl,rfl,h,e,q v hv⟩
def isWP (m:Mo) (p:Pl):Bool:=(m.rowAt p).any fun r=>r.length==1
theorem isWP_iff {m:Mo}{p:Pl}:isWP m p=true↔∃ a,m.sub p=some (.wt a):=by
 unfold isWP Mo.rowAt
 cases e:m.sub p with
 | none=>simp
 | some s=>
  simp only[Option.map_some,Option.any_some,beq_iff_eq,Option.some.injEq]
  exact Mo.row_one
def wps (m:Mo):List Pl:=m.places.filter (isWP m)
theorem mem_wps {m:Mo}{p:Pl}:p∈wps m↔∃ a,m.sub p=some (.wt a):=by
 unfold wps
 rw[List.mem_filter,isWP_iff,Mo.mem_places]
 exact⟨fun h=>h.2,fun⟨a,h⟩=>⟨⟨_,h⟩,a,h⟩⟩
theorem wps_ne (m:Mo):wps m≠[]:=by
 obtain⟨p,a,h⟩:=Mo.has_weight m
 intro e
 have:=mem_wps.mpr ⟨a,h⟩
 rw[e] at this
 cases this
theorem wps_str (m:Mo):(m.places.map mkS).filter (fun x=>isWP m (toP x))=(wps m).map mkS:=by
 unfold wps
 rw[List.filter_map]
 have:(fun x=>isWP m (toP x))∘mkS=isWP m:=by funext p;simp only[Function.comp,toP_mk]
 rw[this]
theorem RowsK.get {H:Hp}{kvs:List (Key×V)}{m:Mo}(h:RowsK H kvs m) {p:Pl}{s:Mo}(hs:m.sub p=some s):∃ v,valV kvs (.inr (mkS p))=some v/\RowV H v s.row:=h.row p _ (Mo.rowAt_some hs)
def rDGet (x y:V) (H:Hp) (Q:VK):Prop:=∃ a v,x = .ref a/\DGet H a y (some v)/\Q v H
theorem tDGet_def {td ty:TE}{σ:St}{H:Hp}{Q:VK}:tDGet td ty σ H Q=td σ H fun x H1=>ty σ H1 fun y H2=>rDGet x y H2 Q:=rfl
theorem rows_get {H:Hp}{d:Addr}{m:Mo}{p:Pl}{s:Mo}{Q:VK}(h:RowsAt H d m) (hs:m.sub p=some s) (q:∀ v,RowV H v s.row->Q v H):rDGet (.ref d) (.str (mkS p)) H Q:=by
 obtain⟨kvs,hd,hr⟩:=h
 obtain⟨v,e,hv⟩:=hr.get hs
 exact⟨d,v,rfl,dget_ok hd e,q v hv⟩
def rDPut (v x y:V) (H:Hp) (Q:Hp->Prop):Prop:=∃ a H4,x = .ref a/\DPut H a y v H4/\Q H4
theorem sDPut_def {td ty tv:TE}{D:Ends}{σ:St}{H:Hp}:sDPut td ty tv D σ H=tv σ H fun v H1=>td σ H1 fun x H2=>ty σ H2 fun y H3=>rDPut v x y H3 fun H4=>D.nx σ H4:=rfl
theorem dput_ok {H:Hp}{d:Addr}{kvs:List (Key×V)}{x:Str}{v:V}{Q:Hp->Prop}(h:H d=some (.dK kvs)) (hl:kvs.length<=1000) (q:Q (upd H d (.dK (putK kvs (.inr x) v)))):rDPut v (.ref d) (.str x) H Q:=
 ⟨d,_,rfl,DPut.k (k:=.inr x) h (small1000 hl),q⟩
def rDNotIn (x y:V) (H:Hp) (Q:VK):Prop:=∃ a o,x = .ref a/\DGet H a y o/\Q (.bl (!o.isSome)) H
theorem tDNotIn_def {td ty:TE}{σ:St}{H:Hp}{Q:VK}:tDNotIn ty td σ H Q=ty σ H fun y H1=>td σ H1 fun x H2=>rDNotIn x y H2 Q:=rfl
theorem RowsK.size {H:Hp}{kvs:List (Key×V)}{m:Mo}(h:RowsK H kvs m):kvs.length+1=2*m.nw:=by
 obtain⟨ks,hk⟩:=h.keys
 have hl:=(h.length hk).2
 have hnd:=(h.length hk).1
 have h1:ks.length=m.places.length:=by
  have p1:(ks.map toP).Nodup:=List.pairwise_map.mpr (hnd.imp fun {a b} n e=>n (by rw[←mk_toP a,←mk_toP b,e]))
  have mem:∀ x,x∈ks.map toP↔x∈m.places:=fun x=>by
   have h2:x∈ks.map toP↔(Sum.inr (mkS x):Key)∈kvs.map (·.1):=by
    rw[hk]
    constructor
    ·intro hx
     obtain⟨y,hy,rfl⟩:=List.mem_map.mp hx
     rw[mk_toP];exact List.mem_map_of_mem hy
    ·intro hx
     obtain⟨y,hy,e⟩:=List.mem_map.mp hx
     cases e
     exact List.mem_map.mpr ⟨_,hy,toP_mk x⟩
   rw[h2,Mo.mem_places]
   constructor
   ·intro hx
    cases z:m.sub x with
    | some s=>exact⟨s,rfl⟩
    | none=>exact absurd hx (valV_not (h.non x (by unfold Mo.rowAt;rw[z];rfl)))
   ·rintro⟨s,hs⟩
    obtain⟨v,e,_⟩:=h.get hs
    exact valV_in e
  have:=(perm_of_mem p1 (Mo.places_nodup m) mem).length_eq
  rwa [List.length_map] at this
 have:=Mo.places_length m
 omega
theorem tFor_def {wi:TI}{g:TG}{tb:TS}{D:Ends}{σ:St}{H:Hp}:tFor wi g tb D σ H=wi σ H fun J H1=>ForW J g tb D σ H1:=rfl
theorem RowsAt.same {H H':Hp}{d:Addr}{m:Mo}(h:RowsAt H d m) (s:Same H H'):RowsAt H' d m:=let ⟨kvs,h1,h2⟩:=h;⟨kvs,s.rd h1,h2.kp s.kp⟩
structure RowsF (H:Hp) (kvs:List (Key×V)) (F:Pl->Option (List Fr)):Prop where
 keys:∃ ks,TextKeys kvs ks
 nd:(kvs.map (·.1)).Nodup
 row:∀ p r,F p=some r->∃ v,valV kvs (.inr (mkS p))=some v/\RowV H v r
 non:∀ p,F p=none->valV kvs (.inr (mkS p))=none
theorem RowsK.toF {H:Hp}{kvs:List (Key×V)}{m:Mo}(h:RowsK H kvs m):RowsF H kvs m.rowAt:=⟨h.keys,h.nd,h.row,h.non⟩
theorem RowsF.toK {H:Hp}{kvs:List (Key×V)}{m:Mo}{F:Pl->Option (List Fr)}(h:RowsF H kvs F) (e:∀ q,m.rowAt q=F q):RowsK H kvs m:=⟨h.keys,h.nd,fun p r z=>h.row p r (by rw[←e];exact z),fun p z=>h.non p (by rw[←e];exact z)⟩
theorem RowsF.kp {H H':Hp}{kvs:List (Key×V)}{F:Pl->Option (List Fr)}(h:RowsF H kvs F) (k:Kp H H'):RowsF H' kvs F:=
 ⟨h.keys,h.nd,fun p r e=>let ⟨v,h1,h2⟩:=h.row p r e;⟨v,h1,h2.kp k⟩,h.non⟩
theorem RowsF.put {H:Hp}{kvs:List (Key×V)}{F:Pl->Option (List Fr)}{p:Pl}{v:V}{r:List Fr}(h:RowsF H kvs F) (hv:RowV H v r):RowsF H (putK kvs (.inr (mkS p)) v) (fun q=>if q=p then some r else F q):=by
 obtain⟨ks,hk⟩:=h.keys
 refine⟨put_keys hk,put_nd h.nd,fun q r' e'=>?_,fun q e'=>?_⟩
 ·rw[valV_put]
  by_cases hq:q=p
  ·subst hq
   simp only[if_true,Option.some.injEq] at e'
   subst e'
   rw[if_pos rfl]
   exact⟨v,rfl,hv⟩
  ·simp only[hq,if_false] at e'
   rw[if_neg (fun z=>hq (mkS_inj.mp (Sum.inr.inj z)))]
   exact h.row q r' e'
 ·rw[valV_put]
  by_cases hq:q=p
  ·subst hq;simp at e'
  ·simp only[hq,if_false] at e'
   rw[if_neg (fun z=>hq (mkS_inj.mp (Sum.inr.inj z)))]
   exact h.non q e'
structure DictF (H:Hp) (d:Addr) (n:Nat) (F:Pl->Option (List Fr)):Prop where
 ex:∃ kvs,H d=some (.dK kvs)/\kvs.length<=n/\RowsF H kvs F
theorem DictF.same {H H':Hp}{d:Addr}{n:Nat}{F:Pl->Option (List Fr)}(h:DictF H d n F) (s:Same H H'):DictF H' d n F:=by
 obtain⟨kvs,h1,h2,h3⟩:=h.ex
 exact⟨kvs,s _ _ h1,h2,h3.kp s.kp⟩
theorem DictF.new {H:Hp}{d p:Addr}{o:HO}{n:Nat}{F:Pl->Option (List Fr)}(h:DictF H d n F) (hp:H p=none):DictF (upd H p o) d n F:=h.same (Za7 hp)
theorem DictF.mono {H:Hp}{d:Addr}{n n':Nat}{F F':Pl->Option (List Fr)}(h:DictF H d n F) (hn:n<=n') (e:∀ q,F' q=F q):DictF H d n' F':=by
 obtain⟨kvs,h1,h2,h3⟩:=h.ex
 have:F'=F:=funext e
 rw[this]
 exact⟨kvs,h1,by omega,h3⟩
structure Wk (d:Addr) (H H':Hp):Prop where
 sx:∀ b o,b≠d->H b=some o->H' b=some o
 kp:Kp H H'
theorem Wk.of {d:Addr}{H H':Hp}(s:Same H H'):Wk d H H':=⟨fun b o _ e=>s b o e,s.kp⟩
theorem Wk.trans {d:Addr}{H H' H'':Hp}(a:Wk d H H') (b:Wk d H' H''):Wk d H H'':=⟨fun c o h e=>b.sx c o h (a.sx c o h e),a.kp.trans b.kp⟩
theorem Wk.new {d p:Addr}{o:HO}{H H':Hp}(a:Wk d H H') (h:H' p=none):Wk d H (upd H' p o):=a.trans (.of (Za7 h))
theorem DictF.put {H:Hp}{d:Addr}{n:Nat}{F:Pl->Option (List Fr)}{p:Pl}{v:V}{r:List Fr}{Q:Hp->Prop}(h:DictF H d n F) (hn:n<=999) (hv:RowV H v r)
  (q:∀ H',DictF H' d (n+1) (fun q=>if q=p then some r else F q)->Wk d H H'->Q H'):rDPut v (.ref d) (.str (mkS p)) H Q:=by
 obtain⟨kvs,h1,h2,h3⟩:=h.ex
 refine dput_ok h1 ∅ ?_
 have kp:Kp H (upd H d (.dK (putK kvs (.inr (mkS p)) v))):=Kp.dK h1
 refine q _ ⟨_,Za4,?_,(h3.kp kp).put (hv.kp kp)⟩ ⟨fun b o hb e=>by rw[Zb8 hb];exact e,kp⟩
 have:=length_putK kvs (.inr (mkS p):Key) v
 omega
end L2
set_option maxHeartbeats 1000000
namespace L2
open PySem PySem.Spec PyProof.Rows MoM FrM
def Kept (cW cR:Addr) (H:Hp) (kv:V) (k:Nat):Prop:=kv = .non\/∃ (e:Addr) (kvs:List (List Key×V)),kv = .ref e/\H e=some (.dT kvs)/\kvs.length<=k/\∀ key v,valV kvs key=some v->∃ a b:Int,key=[.inl a,.inl b]/\Th cW cR H v (.wt (a,b))
structure WkV (kv:V) (H H':Hp):Prop where
 sx:∀ b o,V.ref b≠kv->H b=some o->H' b=some o
 kp:Kp H H'
theorem WkV.of {kv:V}{H H':Hp}(s:Same H H'):WkV kv H H':=⟨fun b o _ e=>s b o e,s.kp⟩
theorem WkV.trans {kv:V}{H H' H'':Hp}(a:WkV kv H H') (b:WkV kv H' H''):WkV kv H H'':=⟨fun c o h e=>b.sx c o h (a.sx c o h e),a.kp.trans b.kp⟩
theorem Kept.same {cW cR:Addr}{H H':Hp}{kv:V}{k:Nat}(h:Kept cW cR H kv k) (s:Same H H'):Kept cW cR H' kv k:=by
 rcases h with h | ⟨e,kvs,h1,h2,h3,h4⟩
 ·exact .inl h
 ·exact .inr ⟨e,kvs,h1,s _ _ h2,h3,fun key v z=>let ⟨a,b,z1,z2⟩:=h4 key v z;⟨a,b,z1,z2.kp s.kp⟩⟩
theorem Kept.mono {cW cR:Addr}{H:Hp}{kv:V}{k k':Nat}(h:Kept cW cR H kv k) (l:k<=k'):Kept cW cR H kv k':=by
 rcases h with h | ⟨e,kvs,h1,h2,h3,h4⟩
 ·exact .inl h
 ·exact .inr ⟨e,kvs,h1,h2,by omega,h4⟩
theorem Kept.ne {cW cR:Addr}{H:Hp}{kv:V}{k:Nat}{d:Addr}{m:Mo}(h:Kept cW cR H kv k) (r:RowsAt H d m):V.ref d≠kv:=by
 rcases h with h | ⟨e,kvs,h1,h2,_⟩
 ·rw[h];intro z;cases z
 ·rw[h1]
  intro z
  cases z
  obtain⟨kvs',h3 | ⟨o,h3⟩,_⟩:=r
  ·rw[h2] at h3;cases h3
  ·rw[h2] at h3;cases h3
theorem RowsAt.wkv {kv:V}{H H':Hp}{d:Addr}{m:Mo}(r:RowsAt H d m) (w:WkV kv H H') (n:V.ref d≠kv):RowsAt H' d m:=by
 obtain⟨kvs,h1,h2⟩:=r
 refine⟨kvs,?_,h2.kp w.kp⟩
 rcases h1 with h1 | ⟨o,h1⟩
 ·exact .inl (w.sx _ _ n h1)
 ·exact .inr ⟨o,w.sx _ _ n h1⟩
theorem for_revN {K:PySem.W.Frag}{a:Addr}{xs:List V}{g:TG}{tb:TS}{D:Ends}{σ:St}{H:Hp}(Pv:Nat->St->Hp->Prop) (h0:Pv 0 σ H) (hl:∀ i σ H,i<=xs.length->Pv i σ H->SqL K H a xs)
  (hs:∀ i x σ H (N:St->Hp->Prop),i<xs.length->xs[xs.length-1-i]? = some x->Pv i σ H->(∀ σ' H',Pv (i+1) σ' H'->N σ' H')->g x σ H fun σ2 H2=>tb { D with nx:=N,ct:=N,bk:=D.nx } σ2 H2) (hd:∀ σ H,Pv xs.length σ H->D.nx σ H) :
  ForW (Itv K a xs.length) g tb D σ H:=by
 refine⟨fun i m σ H=>i<=xs.length/\m=xs.length-i/\Pv i σ H,⟨xs.length,Nat.zero_le _,by omega,h0⟩,?_⟩
 rintro i m σ H ⟨hi,rfl,hp⟩
 by_cases e:i=xs.length
 ·subst e
  exact .inl ⟨Nat.le_refl _,hd σ H hp⟩
 ·refine .inr ⟨⟨by omega,xs,hl i σ H hi hp,rfl⟩,Pv (i+1),fun σ' H' h=>⟨xs.length-(i+1),by omega,by omega,rfl,h⟩,?_⟩
  rintro x H' ⟨rfl,hx⟩
  exact hs i x σ _ _ ∅ (hx xs (hl i σ _ hi hp)) hp fun _ _ h=>h
theorem for_dictN {d:Addr}{o:Obj}{kvs:List (Key×V)}{g:TG}{tb:TS}{D:Ends}{σ:St}{H:Hp}(Pv:Nat->St->Hp->Prop) (h0:Pv 0 σ H) (hl:∀ i σ H,i<=kvs.length->Pv i σ H->H d=some (.frz o (.dK kvs)))
  (hs:∀ i k v σ H (N:St->Hp->Prop),kvs[i]? = some (k,v)->Pv i σ H->(∀ σ' H',Pv (i+1) σ' H'->N σ' H')->g (kV k) σ H fun σ2 H2=>tb { D with nx:=N,ct:=N,bk:=D.nx } σ2 H2) (hd:∀ σ H,Pv kvs.length σ H->D.nx σ H) :
  ForW (Itd d o kvs) g tb D σ H:=by
 refine⟨fun i m σ H=>i<=kvs.length/\m=kvs.length-i/\Pv i σ H,⟨kvs.length,Nat.zero_le _,by omega,h0⟩,?_⟩
 rintro i m σ H ⟨hi,rfl,hp⟩
 by_cases e:i=kvs.length
 ·subst e
  exact .inl ⟨⟨Nat.le_refl _,hl _ σ H hi hp⟩,hd σ H hp⟩
 ·refine .inr ⟨⟨by omega,hl i σ H hi hp⟩,Pv (i+1),fun σ' H' h=>⟨kvs.length-(i+1),by omega,by omega,rfl,h⟩,?_⟩
  rintro x H' ⟨rfl,k,v,hk,rfl⟩
  exact hs i k v σ _ _ hk hp fun _ _ h=>h
theorem RowsAt.wk {e d:Addr}{H H':Hp}{m:Mo}(r:RowsAt H d m) (w:Wk e H H') (n:d≠e):RowsAt H' d m:=by
 obtain⟨kvs,h1,h2⟩:=r
 refine⟨kvs,?_,h2.kp w.kp⟩
 rcases h1 with h1 | ⟨o,h1⟩
 ·exact .inl (w.sx _ _ n h1)
 ·exact .inr ⟨o,w.sx _ _ n h1⟩
theorem RowsAt.there {H:Hp}{d:Addr}{m:Mo}(r:RowsAt H d m):∃ o,H d=some o:=by
 obtain⟨kvs,h1 | ⟨o,h1⟩,_⟩:=r
 ·exact⟨_,h1⟩
 ·exact⟨_,h1⟩
end L2
set_option maxHeartbeats 1000000
namespace TxM
open PySem PySem.NumText FrM MoM L2
def isD (c:Nat):Bool:=decide (48<=c)&&decide (c<=57)
theorem isD_iff {c:Nat}:isD c=true↔48<=c/\c<=57:=by simp[isD]
def dg (n:Nat):Pl:=(Nat.toDigits 10 n).map Char.toNat
def frT (f:Fr):Pl:=if f.2=1 then dg f.1.toNat else dg f.1.toNat++47::dg f.2.toNat
def moT:Mo->Pl
 | .wt f=>frT f
 | .rod l x r y=>91::(frT l++58::(moT x++32::(frT r++58::(moT y++[93]))))
def pNum (t:Pl):Option (Nat×Pl):=
 if t.takeWhile isD=[]\/(t.takeWhile isD).head? = some 48 then none else some (digitsVal (t.takeWhile isD),t.dropWhile isD)
def pCh (c:Nat):Pl->Option Pl
 | []=>none
 | d::t=>if d=c then some t else none
def pFr (t:Pl):Option (Fr×Pl):=(pNum t).bind fun a=>match pCh 47 a.2 with
 | none=>some (((a.1:Int),1),a.2)
 | some t2=>(pNum t2).bind fun b=>if b.1=1\/low a.1 b.1≠((a.1:Int),(b.1:Int)) then none else some (((a.1:Int),(b.1:Int)),b.2)
def pMo:Nat->Pl->Option (Mo×Pl)
 | 0,t=>(pFr t).map fun p=>(.wt p.1,p.2)
 | n+1,t=>match pCh 91 t with
  | none=>(pFr t).map fun p=>(.wt p.1,p.2)
  | some t1=>(pFr t1).bind fun l=>(pCh 58 l.2).bind fun t3=>(pMo n t3).bind fun x=>(pCh 32 x.2).bind fun t5=>(pFr t5).bind fun r=>(pCh 58 r.2).bind fun t7=>(pMo n t7).bind fun y=>(pCh 93 y.2).map fun t9=>(.rod l.1 x.1 r.1 y.1,t9)
theorem dg_all (n:Nat):∀ c∈dg n,isD c=true:=by
 intro c hc
 obtain⟨ch,hch,e⟩:=List.mem_map.mp hc
 have r:=PyProof.Rows.digit_range (Nat.isDigit_of_mem_toDigits ⋯ ⋯ hch)
 rw[←e]
 exact isD_iff.mpr r
theorem dg_val (n:Nat):digitsVal (dg n)=n:=PySem.W.KIN.val_back n
theorem dg_ne (n:Nat):dg n≠[]:=by
 intro e
 have h:=Nat.length_toDigits_pos (b:=10) (n:=n)
 rw[List.map_eq_nil_iff.mp e] at h
 exact absurd h ⋯
theorem dg_len {n k:Nat}(hk:0<k) (h:n<10 ^ k):(dg n).length<=k:=by
 unfold dg
 rw[List.length_map]
 exact (Nat.length_toDigits_le_iff ⋯ hk).mpr h
theorem val_lt:∀ (cs:List Nat) (a:Nat),(∀ c∈cs,isD c=true)->cs.foldl (fun acc c=>acc*10+(c-48)) a<(a+1)*10 ^ cs.length
 | [],a,_=>by simp
 | c::cs,a,h=>by
  have hc:=isD_iff.mp (h c (List.mem_cons_self ..))
  have ih:=val_lt cs (a*10+(c-48)) fun d hd=>h d (List.mem_cons_of_mem _ hd)
  rw[List.foldl_cons,List.length_cons,Nat.pow_succ]
  refine Nat.lt_of_lt_of_le ih ?_
  have:(a*10+(c-48)+1)<=(a+1)*10:=by omega
  calc (a*10+(c-48)+1)*10 ^ cs.length<=((a+1)*10)*10 ^ cs.length:=Nat.mul_le_mul_right _ this
   _=(a+1)*(10 ^ cs.length*10):=by rw[Nat.mul_assoc,Nat.mul_comm 10]
theorem digitsVal_lt {cs:List Nat}(h:∀ c∈cs,isD c=true):digitsVal cs<10 ^ cs.length:=by
 have:=val_lt cs 0 h
 simpa [digitsVal] using this
theorem val0:∀ (cs:List Nat),digitsVal (48::cs)=digitsVal cs:=fun _=>rfl
theorem dg_head {n:Nat}(h:0<n):(dg n).head? ≠ some 48:=by
 intro e
 cases hd:dg n with
 | nil=>rw[hd] at e;cases e
 | cons c cs=>
  rw[hd] at e
  simp at e
  subst e
  have ha:∀ c∈cs,isD c=true:=fun c hc=>dg_all n c (by rw[hd];exact List.mem_cons_of_mem _ hc)
  have hv:digitsVal cs=n:=by rw[←val0,←hd,dg_val]
  have hl:=digitsVal_lt ha
  rw[hv] at hl
  cases cs with
  | nil=>simp at hl;omega
  | cons c cs'=>
   have:=dg_len (n:=n) (k:=(c::cs').length) (by simp) hl
   rw[hd] at this
   simp at this
   omega
def NoD (t:Pl):Prop:=∀ c,t.head? = some c->isD c=false
theorem NoD.nil:NoD []:=fun c h=>by cases h
theorem NoD.cons {c:Nat}{t:Pl}(h:isD c=false):NoD (c::t):=fun d e=>by simp at e;exact e▸h
theorem take_noD {t:Pl}(h:NoD t):t.takeWhile isD=[]:=by
 cases t with
 | nil=>rfl
 | cons c t=>rw[List.takeWhile_cons,h c rfl];rfl
theorem drop_noD {t:Pl}(h:NoD t):t.dropWhile isD=t:=by
 cases t with
 | nil=>rfl
 | cons c t=>rw[List.dropWhile_cons,h c rfl];rfl
theorem pNum_dg {n:Nat}(h:0<n) {t:Pl}(ht:NoD t):pNum (dg n++t)=some (n,t):=by
 have e1:(dg n++t).takeWhile isD=dg n:=by rw[List.takeWhile_append_of_pos (dg_all n),take_noD ht,List.append_nil]
 have e2:(dg n++t).dropWhile isD=t:=by rw[List.dropWhile_append_of_pos (dg_all n),drop_noD ht]
 unfold pNum
 rw[e1,e2,if_neg (by rintro (z | z);exact dg_ne n z;exact dg_head h z),dg_val]
theorem pCh_self (c:Nat) (t:Pl):pCh c (c::t)=some t:=if_pos rfl
theorem pCh_ne {c d:Nat}{t:Pl}(h:d≠c):pCh c (d::t)=none:=if_neg h
structure Lo (f:Fr):Prop where
 t:0<f.1
 b:0<f.2
 g:Int.gcd f.1 f.2=1
theorem Lo.low {f:Fr}(h:Lo f):low f.1 f.2=f:=by
 have e:sd f.1 f.2=1:=by unfold sd;rw[h.g];have:=h.b;rw[if_neg ∅];rfl
 unfold MoM.low nt nb
 rw[e]
 simp
structure NoF (t:Pl):Prop where
 d:NoD t
 s:∀ c,t.head? = some c->c≠47
theorem NoF.cons {c:Nat}{t:Pl}(h:isD c=false) (h':c≠47):NoF (c::t):=⟨.cons h,fun d e=>by simp at e;exact e▸h'⟩
theorem NoF.nil:NoF []:=⟨.nil,fun c h=>by cases h⟩
theorem pFr_frT {f:Fr}(h:Lo f) {t:Pl}(ht:NoF t):pFr (frT f++t)=some (f,t):=by
 obtain⟨a,b⟩:=f
 obtain⟨m,rfl⟩:=Int.eq_ofNat_of_zero_le (Int.le_of_lt h.t)
 obtain⟨n,rfl⟩:=Int.eq_ofNat_of_zero_le (Int.le_of_lt h.b)
 have hm:0<m:=by have:=h.t;simpa using this
 have hn:0<n:=by have:=h.b;simpa using this
 by_cases h1:n=1
 ·subst h1
  have e:frT ((m:Int),((1:Nat):Int))=dg m:=if_pos rfl
  have ec:pCh 47 t=none:=by
   cases t with
   | nil=>rfl
   | cons c t=>exact pCh_ne (ht.s c rfl)
  unfold pFr
  rw[e,pNum_dg hm ht.d]
  show (match pCh 47 t with | none=>_ | some t2=>_)=_
  rw[ec]
  rfl
 ·have e:frT ((m:Int),(n:Int))=dg m++47::dg n:=if_neg (by show ¬(n:Int)=1;omega)
  unfold pFr
  rw[e,List.append_assoc,List.cons_append,pNum_dg hm (.cons ⋯)]
  simp only[Option.bind_some,pCh_self,pNum_dg hn ht.d]
  exact if_neg (by
   rintro (z | z)
   ·exact h1 z
   ·exact z h.low)
def LoM (m:Mo):Prop:=m.All Lo Lo
def nr:Mo->Nat
 | .wt _=>0
 | .rod _ x _ y=>nr x+nr y+1
theorem frT_head {f:Fr}:∃ c r,frT f=c::r/\isD c=true:=by
 have:∀ n r,∃ c r',dg n++r=c::r'/\isD c=true:=by
  intro n r
  cases hd:dg n with
  | nil=>exact absurd hd (dg_ne n)
  | cons c cs=>exact⟨c,cs++r,rfl,dg_all n c (by rw[hd];exact List.mem_cons_self ..)⟩
 unfold frT
 split
 ·have:=this f.1.toNat []
  rwa [List.append_nil] at this
 ·exact this f.1.toNat _
theorem pMo_moT:∀ (m:Mo) (n:Nat) (t:Pl),LoM m->m.depth<=n->NoF t->pMo n (moT m++t)=some (m,t)
 | .wt f,n,t,h,hd,ht=>by
  have e:=pFr_frT h ht
  have e2:(pFr (moT (.wt f)++t)).map (fun p=>(Mo.wt p.1,p.2))=some (.wt f,t):=by
   show (pFr (frT f++t)).map _=_
   rw[e];rfl
  cases n with
  | zero=>exact e2
  | succ n=>
   obtain⟨c,r,ec,hc⟩:=frT_head (f:=f)
   have hne:c≠91:=by rintro rfl;exact absurd hc ⋯
   have ep:pCh 91 (moT (.wt f)++t)=none:=by
    show pCh 91 (frT f++t)=none
    rw[ec];exact pCh_ne hne
   show (match pCh 91 (moT (.wt f)++t) with | none=>_ | some t1=>_)=_
   rw[ep]
   exact e2
 | .rod l x r y,0,t,h,hd,ht=>by simp[Mo.depth] at hd
 | .rod l x r y,n+1,t,h,hd,ht=>by
  simp only[Mo.depth] at hd
  have ex:moT (.rod l x r y)++t=91::(frT l++58::(moT x++32::(frT r++58::(moT y++93::t)))):=by simp[moT]
  have h1:=pFr_frT h.1 (t:=58::(moT x++32::(frT r++58::(moT y++93::t)))) (.cons ⋯ ⋯)
  have h2:=pMo_moT x n (32::(frT r++58::(moT y++93::t))) h.2.2.1 ∅ (.cons ⋯ ⋯)
  have h3:=pFr_frT h.2.1 (t:=58::(moT y++93::t)) (.cons ⋯ ⋯)
  have h4:=pMo_moT y n (93::t) h.2.2.2 ∅ (.cons ⋯ ⋯)
  rw[ex]
  simp only[pMo,pCh_self,Option.bind_some,h1,h2,h3,h4,Option.map_some]
end TxM
set_option maxHeartbeats 1000000
namespace TxM
open PySem PySem.NumText FrM MoM L2
theorem back_dg:∀ {ds:Pl},(∀ c∈ds,isD c=true)->ds≠[]->ds.head? ≠ some 48->dg (digitsVal ds)=ds:=by
 intro ds ha hne hh
 cases ds with
 | nil=>exact absurd rfl hne
 | cons c cs=>
  have hc:=isD_iff.mp (ha c (List.mem_cons_self ..))
  have hn:c≠48:=fun e=>hh (by rw[e];rfl)
  have e:=toDigits_digitsVal cs.length (c::cs) rfl (fun d hd=>isD_iff.mp (ha d hd)) (.inr ⟨c,cs,rfl,by omega⟩)
  unfold dg
  rw[e,List.map_map]
  have:∀ l:Pl,(∀ d∈l,isD d=true)->l.map (Char.toNat∘Char.ofNat)=l:=by
   intro l
   induction l with
   | nil=>intro _;rfl
   | cons d l ih=>
    intro h
    rw[List.map_cons,ih fun z hz=>h z (List.mem_cons_of_mem _ hz)]
    have hd:=isD_iff.mp (h d (List.mem_cons_self ..))
    have:(Char.ofNat d).toNat=d:=by
     have hall:∀ k:Fin 10,(Char.ofNat (48+k.val)).toNat=48+k.val:=by decide
     have:=hall ⟨d-48,by omega⟩
     rwa [show 48+(d-48)=d from Nat.add_sub_cancel' hd.1] at this
    show (Char.ofNat d).toNat::l=d::l
    rw[this]
  exact this _ ha
theorem take_all (t:Pl):∀ c∈t.takeWhile isD,isD c=true:=by
 induction t with
 | nil=>intro c h;cases h
 | cons d t ih=>
  intro c h
  rw[List.takeWhile_cons] at h
  split at h
  ·rename_i hd
   rcases List.mem_cons.mp h with rfl | h
   ·exact hd
   ·exact ih c h
  ·cases h
theorem drop_head (t:Pl):NoD (t.dropWhile isD):=by
 induction t with
 | nil=>exact .nil
 | cons d t ih=>
  rw[List.dropWhile_cons]
  split
  ·exact ih
  ·rename_i hd
   exact .cons (by simpa using hd)
theorem pNum_sound {t:Pl}{n:Nat}{r:Pl}(h:pNum t=some (n,r)):t=dg n++r/\0<n/\NoD r:=by
 unfold pNum at h
 split at h
 ·cases h
 ·rename_i hn
  injection h with h
  injection h with h1 h2
  have hb:=back_dg (take_all t) (fun z=>hn (.inl z)) fun z=>hn (.inr z)
  rw[h1] at hb
  refine⟨?_,?_,?_⟩
  ·rw[hb,←h2,List.takeWhile_append_dropWhile]
  ·cases n with
   | succ n=>exact Nat.succ_pos n
   | zero=>
    exfalso
    have e:dg 0=[48]:=by decide
    rw[e] at hb
    exact hn (.inr (by rw[←hb];rfl))
  ·rw[←h2];exact drop_head t
theorem pCh_sound {c:Nat}{t r:Pl}(h:pCh c t=some r):t=c::r:=by
 cases t with
 | nil=>cases h
 | cons d t=>
  by_cases e:d=c
  ·subst e
   rw[pCh_self] at h
   injection h with h
   rw[h]
  ·rw[pCh_ne e] at h
   cases h
theorem pFr_sound {t:Pl}{f:Fr}{r:Pl}(h:pFr t=some (f,r)):t=frT f++r/\Lo f:=by
 unfold pFr at h
 cases hn:pNum t with
 | none=>rw[hn] at h;cases h
 | some a=>
  obtain⟨m,t1⟩:=a
  obtain⟨e1,m0,_⟩:=pNum_sound hn
  rw[hn] at h
  simp only[Option.bind_some] at h
  cases hc:pCh 47 t1 with
  | none=>
   rw[hc] at h
   simp only[Option.some.injEq,Prod.mk.injEq] at h
   obtain⟨hf,hr⟩:=h
   subst hf hr
   refine⟨?_,⟨by show (0:Int)<(m:Int);omega,by show (0:Int)<1;decide,Int.gcd_one⟩⟩
   have:frT ((m:Int),1)=dg m:=if_pos rfl
   rw[this,e1]
  | some t2=>
   rw[hc] at h
   simp only at h
   have e2:=pCh_sound hc
   cases hb:pNum t2 with
   | none=>rw[hb] at h;cases h
   | some b=>
    obtain⟨n,t3⟩:=b
    obtain⟨e3,n0,_⟩:=pNum_sound hb
    rw[hb] at h
    simp only[Option.bind_some] at h
    split at h
    ·cases h
    ·rename_i hno
     simp only[Option.some.injEq,Prod.mk.injEq] at h
     obtain⟨hf,hr⟩:=h
     subst hf hr
     have h1:n≠1:=fun z=>hno (.inl z)
     have h2:low (m:Int) (n:Int)=((m:Int),(n:Int)):=Decidable.byContradiction fun z=>hno (.inr z)
     have hg:=low_gcd (a:=(m:Int)) (b:=(n:Int)) ∅
     rw[h2] at hg
     refine⟨?_,⟨by show (0:Int)<(m:Int);omega,by show (0:Int)<(n:Int);omega,hg⟩⟩
     have:frT ((m:Int),(n:Int))=dg m++47::dg n:=if_neg (by show ¬(n:Int)=1;omega)
     rw[this,e1,e2,e3]
     simp
theorem pMo_sound:∀ (n:Nat) (t:Pl) (m:Mo) (r:Pl),pMo n t=some (m,r)->t=moT m++r/\LoM m:=by
 have wt:∀ (t:Pl) (m:Mo) (r:Pl),(pFr t).map (fun p=>(Mo.wt p.1,p.2))=some (m,r)->t=moT m++r/\LoM m:=by
  intro t m r h
  cases hf:pFr t with
  | none=>rw[hf] at h;cases h
  | some p=>
   obtain⟨f,r'⟩:=p
   rw[hf] at h
   simp only[Option.map_some,Option.some.injEq,Prod.mk.injEq] at h
   obtain⟨hm,hr⟩:=h
   subst hm hr
   exact pFr_sound hf
 intro n
 induction n with
 | zero=>exact wt
 | succ n ih=>
  intro t m r h
  simp only[pMo] at h
  cases hc:pCh 91 t with
  | none=>rw[hc] at h;exact wt t m r h
  | some t1=>
   rw[hc] at h
   simp only at h
   cases a1:pFr t1 with
   | none=>rw[a1] at h;cases h
   | some l=>
   rw[a1] at h;simp only[Option.bind_some] at h
   cases a2:pCh 58 l.2 with
   | none=>rw[a2] at h;cases h
   | some t3=>
   rw[a2] at h;simp only[Option.bind_some] at h
   cases a3:pMo n t3 with
   | none=>rw[a3] at h;cases h
   | some x=>
   rw[a3] at h;simp only[Option.bind_some] at h
   cases a4:pCh 32 x.2 with
   | none=>rw[a4] at h;cases h
   | some t5=>
   rw[a4] at h;simp only[Option.bind_some] at h
   cases a5:pFr t5 with
   | none=>rw[a5] at h;cases h
   | some q=>
   rw[a5] at h;simp only[Option.bind_some] at h
   cases a6:pCh 58 q.2 with
   | none=>rw[a6] at h;cases h
   | some t7=>
   rw[a6] at h;simp only[Option.bind_some] at h
   cases a7:pMo n t7 with
   | none=>rw[a7] at h;cases h
   | some y=>
   rw[a7] at h;simp only[Option.bind_some] at h
   cases a8:pCh 93 y.2 with
   | none=>rw[a8] at h;cases h
   | some t9=>
   rw[a8] at h
   simp only[Option.map_some,Option.some.injEq,Prod.mk.injEq] at h
   obtain⟨hm,hr⟩:=h
   subst hm hr
   have b1:=pFr_sound (f:=l.1) (r:=l.2) a1
   have b3:=ih t3 x.1 x.2 a3
   have b5:=pFr_sound (f:=q.1) (r:=q.2) a5
   have b7:=ih t7 y.1 y.2 a7
   refine⟨?_,b1.2,b5.2,b3.2,b7.2⟩
   rw[pCh_sound hc,b1.1,pCh_sound a2,b3.1,pCh_sound a4,b5.1,pCh_sound a6,b7.1,pCh_sound a8]
   simp[moT]
end TxM
set_option maxHeartbeats 1000000
namespace L2
open PySem PySem.Spec PyProof.Rows FrM MoM TxM NumText
section
variable {X:Cx}
def rIntT (xs:List V) (H:Hp) (Q:VK):Prop:=∃ ds:Pl,xs=[.str (mkS ds)]/\(∀ c∈ds,isD c=true)/\ds≠[]/\ds.length<=640/\Q (.int (digitsVal ds:Nat)) H
theorem call_intT:CallR X (.type "int") rIntT:=by
 intro pins s σ H xs us Q I r h
 obtain⟨ds,rfl,ha,hne,hl,q⟩:=h
 obtain⟨u,rfl,t,rfl⟩:=vals1 r
 have e:(mkS ds).cps.toList=ds:=toP_mk ds
 have hn:PySem.intText? (mkS ds)=some ((digitsVal ds:Nat):Int):=by
  have:=intText_digits (x:=mkS ds) (by rw[e];exact fun c hc=>isD_iff.mp (ha c hc)) (by rw[e];exact hne) (by rw[Zc4];omega)
  rwa [e] at this
 exact PySem.W.KIN.call_text hn (by rw[Zc4];exact hl) ⟨.int (digitsVal ds:Nat),H,I.tok _,⟨_,rfl⟩,q⟩
theorem ixS_at {pre t:Pl}{c:Nat}{H:Hp}{Q:VK}(hl:(pre++c::t).length<=65536) (k:Q (.str (mkS [c])) H):rIxS (.str (mkS (pre++c::t))) (.int pre.length) H Q:=
 ⟨_,pre.length,c,rfl,rfl,by rw[Zc4,sizeLine_eq];omega,atI_nat (by show (toP (mkS (pre++c::t)))[pre.length]? = _;rw[toP_mk];simp),k⟩
theorem str_dg (n:Nat):Str.ofString (toString ((n:Nat):Int))=mkS (dg n):=by
 have h:=PySem.W.KIN.signs_num n
 rw[←mk_toP (Str.ofString (toString ((n:Nat):Int)))]
 show mkS (Str.ofString (toString ((n:Nat):Int))).cps.toList=_
 rw[h];rfl
theorem slice_ij (t:Pl) (lo hi:Option Int) (i j:Nat) (hlo:clipI t.length 0 lo=i) (hhi:clipI t.length t.length hi=j) (hij:i<=j) (hj:j<=t.length):Txt.slice (mkS t) lo hi=mkS ((t.take j).drop i):=by
 have hl:(mkS t).length=t.length:=Zc4 t
 rw[slice_gen _ _ _ i j hij ∅ (by rw[hl];exact indices _ _ _ _ _ hlo hhi hij),toP_mk]
theorem slice_mid (pre ds post:Pl):Txt.slice (mkS (pre++(ds++post))) (some pre.length) (some ((pre.length+ds.length:Nat):Int))=mkS ds:=by
 have hn:(pre++(ds++post)).length=pre.length+(ds.length+post.length):=by simp
 rw[slice_ij _ _ _ pre.length (pre.length+ds.length) (by rw[hn];simp only[clipI];rw[if_neg ∅];omega) (by rw[hn];simp only[clipI];rw[if_neg ∅];omega) ∅ ∅]
 congr 1
 rw[List.take_append,List.drop_append]
 simp
theorem slice_to (a b:Pl):Txt.slice (mkS (a++b)) none (some (a.length:Int))=mkS a:=by
 have hn:(a++b).length=a.length+b.length:=by simp
 rw[slice_ij _ _ _ 0 a.length rfl (by rw[hn];simp only[clipI];rw[if_neg ∅];omega) ∅ ∅]
 congr 1
 simp
def RunLe (k:Nat) (t:Pl):Prop:=∀ pre ds post:Pl,t=pre++(ds++post)->(∀ c∈ds,isD c=true)->ds.length<=k
theorem RunLe.of_len {k:Nat}{t:Pl}(h:t.length<=k):RunLe k t:=fun pre ds post e _=>by
 have:=congrArg List.length e
 simp at this
 omega
theorem RunLe.tail {k:Nat}{a t:Pl}(h:RunLe k (a++t)):RunLe k t:=fun pre ds post e hd=>h (a++pre) ds post (by rw[e];simp) hd
theorem RunLe.take {k:Nat}{t:Pl}(h:RunLe k t):(t.takeWhile isD).length<=k:=h [] _ (t.dropWhile isD) (by simp) (take_all t)
theorem RunLe.sep {k:Nat}{a b:Pl}{x:Nat}(h1:RunLe k a) (h2:RunLe k b) (hx:isD x=false):RunLe k (a++x::b):=by
 intro pre ds post e hd
 rcases List.append_eq_append_iff.mp e with⟨a',e1,e2⟩ | ⟨c',e1,e2⟩
 ·cases a' with
  | nil=>
   cases ds with
   | nil=>exact Nat.zero_le _
   | cons d ds=>
    injection e2 with e3 e4
    have:=hd d (List.mem_cons_self ..)
    rw[←e3,hx] at this
    cases this
  | cons z a''=>
   injection e2 with e3 e4
   exact h2 a'' ds post e4 hd
 ·rcases List.append_eq_append_iff.mp e2 with⟨a',e3,e4⟩ | ⟨c'',e3,e4⟩
  ·exact h1 pre ds a' (by rw[e1,e3]) hd
  ·cases c'' with
   | nil=>
    rw[List.append_nil] at e3
    subst e3
    exact h1 pre ds [] (by rw[e1,List.append_nil]) hd
   | cons z c3=>
    injection e4 with e5 e6
    have:=hd z (by rw[e3];exact List.mem_append_right _ (List.mem_cons_self ..))
    rw[←e5,hx] at this
    cases this
theorem RunLe.cons {k:Nat}{b:Pl}{x:Nat}(h2:RunLe k b) (hx:isD x=false):RunLe k (x::b):=RunLe.sep (a:=[]) (.of_len (Nat.zero_le _)) h2 hx
theorem RunLe.snoc {k:Nat}{a:Pl}{x:Nat}(h1:RunLe k a) (hx:isD x=false):RunLe k (a++[x]):=RunLe.sep h1 (.of_len (Nat.zero_le _)) hx
theorem RunLe.head {k:Nat}{a b:Pl}(h:RunLe k (a++b)):RunLe k a:=fun pre ds post e hd=>h pre ds (post++b) (by rw[e];simp) hd
theorem runs_frT {k:Nat}{f:Fr}(hk:0<k) (h1:f.1.toNat<10 ^ k) (h2:f.2.toNat<10 ^ k):RunLe k (frT f):=by
 unfold frT
 split
 ·exact .of_len (dg_len hk h1)
 ·exact .sep (.of_len (dg_len hk h1)) (.of_len (dg_len hk h2)) ⋯
theorem runs_moT {k:Nat}(hk:0<k):∀ {m:Mo},m.All (fun f=>f.1.toNat<10 ^ k/\f.2.toNat<10 ^ k) (fun f=>f.1.toNat<10 ^ k/\f.2.toNat<10 ^ k)->RunLe k (moT m)
 | .wt f,h=>runs_frT hk h.1 h.2
 | .rod l x r y,h=>by
  have a:=runs_frT hk h.1.1 h.1.2
  have b:=runs_moT hk h.2.2.1
  have c:=runs_frT hk h.2.1.1 h.2.1.2
  have d:=runs_moT hk h.2.2.2
  exact .cons (.sep a (.sep b (.sep c (.snoc d ⋯) ⋯) ⋯) ⋯) ⋯
end
end L2
namespace L2
open PySem PySem.Spec PyProof.Rows
def tFstr (ta:TE) (c:Str):TE:=fun σ H Q=>ta σ H fun x H1=>∃ z,x = .str z/\(reprText z).length+c.length<=sizeLine/\Q (.str (reprText z++c)) H1
theorem pe_fstrR {X:Cx}{e:Expr}{c:Str}{kd:Nat}{p1 p2 p:Pos}{ta:TE}(ha:PE X e ta):PE X (.JoinedStr [.FormattedValue e 114 none p1,.Constant (.str c) kd p2] p) (tFstr ta c):=by
 intro pins s σ H Q I h
 refine JoinedStr_many (joinParts_cons (wpAny_FormattedValue_repr (thn (ha pins s σ H _ I h) fun v s1 ⟨x,H1,I1,r1,z,ex,hz,q⟩=>?_)))
 subst ex
 obtain⟨t,rfl⟩:=r1
 have e0:Str.empty++reprText z=reprText z:=by
  rw[←mk_toP (reprText z)]
  show mkS []++_=_
  rw[mkS_app];rfl
 refine wpAny_pyReprObj_str ?_ ∅
 refine formatField_str (fun t' tk=>?_) ∅
 refine⟨by rw[e0];omega,?_⟩
 rw[e0]
 refine joinParts_cons (Calls.Constant_str ?_)
 have el:(reprText z++c).length=(reprText z).length+c.length:=strLen_append _ _
 refine⟨by rw[el];exact hz,?_⟩
 exact joinParts_nil ⟨.str (reprText z++c),H1,(I1.tok _),⟨_,rfl⟩,q⟩ (by rw[el];exact hz)
end L2
set_option maxHeartbeats 1000000
namespace L2
open PySem PySem.Spec PyProof.Rows FrM MoM TxM NumText
section
variable {X:Cx}{K:PySem.W.Frag}
theorem figs:("0123456789" : Str).cps.toList=List.range' 48 10:=by ac_nf
theorem fig_in (c:Nat):(!(Builtin.Str.occurrences "0123456789" (mkS [c]) 0 ("0123456789" : Str).length 1).isEmpty)=isD c:=by
 show (!(Builtin.Str.occurrences "0123456789" ⟨#[c]⟩ 0 ("0123456789" : Str).length 1).isEmpty)=isD c
 rw[StrLaws.found_one,figs,Bool.eq_iff_iff,decide_eq_true_eq,isD_iff]
 exact List.mem_range'_1.trans ⟨fun h=>⟨h.1,Nat.le_of_lt_succ h.2⟩,fun h=>⟨h.1,Nat.lt_succ_of_le h.2⟩⟩
theorem take_run {ds t:Pl}(ha:∀ c∈ds,isD c=true) (ht:NoD t):(ds++t).takeWhile isD=ds/\(ds++t).dropWhile isD=t:=by
 constructor
 ·rw[List.takeWhile_append_of_pos ha,take_noD ht,List.append_nil]
 ·rw[List.dropWhile_append_of_pos ha,drop_noD ht]
theorem pNum_run {ds t:Pl}(ha:∀ c∈ds,isD c=true) (ht:NoD t):pNum (ds++t)=if ds=[]\/ds.head? = some 48 then none else some (digitsVal ds,t):=by
 unfold pNum
 rw[(take_run ha ht).1,(take_run ha ht).2]
theorem pNum_lt {k:Nat}{t:Pl}{n:Nat}{r:Pl}(h:pNum t=some (n,r)) (hr:RunLe k t):n<10 ^ k:=by
 unfold pNum at h
 split at h
 ·cases h
 ·injection h with h
  injection h with h1 h2
  rw[←h1]
  exact Nat.lt_of_lt_of_le (digitsVal_lt (take_all t)) (Nat.pow_le_pow_right ⋯ hr.take)
theorem sm_ten {n:Nat}(h:n<10 ^ 200):Sm 700 (n:Int):=by
 unfold Sm
 rw[Int.natAbs_natCast]
 exact Nat.lt_trans h (by ac_nf)
theorem pFr_sm {t:Pl}{f:Fr}{r:Pl}(h:pFr t=some (f,r)) (hr:RunLe 200 t):Sm 700 f.1/\Sm 700 f.2:=by
 unfold pFr at h
 cases hn:pNum t with
 | none=>rw[hn] at h;cases h
 | some a=>
  obtain⟨m,t1⟩:=a
  have hm:=sm_ten (pNum_lt hn hr)
  rw[hn] at h
  simp only[Option.bind_some] at h
  cases hc:pCh 47 t1 with
  | none=>
   rw[hc] at h
   simp only[Option.some.injEq,Prod.mk.injEq] at h
   obtain⟨hf,hr⟩:=h
   subst hf hr
   exact⟨hm,by show (1:Int).natAbs<2 ^ 700;ac_nf⟩
  | some t2=>
   rw[hc] at h
   simp only at h
   cases hb:pNum t2 with
   | none=>rw[hb] at h;cases h
   | some b=>
    obtain⟨n,t3⟩:=b
    have e1:=(pNum_sound hn).1
    have e2:=pCh_sound hc
    have hr2:RunLe 200 t2:=by
     rw[e1,e2] at hr
     exact RunLe.tail (a:=[47]) hr.tail
    have hn:=sm_ten (pNum_lt hb hr2)
    rw[hb] at h
    simp only[Option.bind_some] at h
    split at h
    ·cases h
    ·simp only[Option.some.injEq,Prod.mk.injEq] at h
     obtain⟨hf,hr⟩:=h
     subst hf hr
     exact⟨hm,hn⟩
theorem pCh_head {c:Nat}{t:Pl}:decide (t.head? = some c)=(pCh c t).isSome:=by
 cases t with
 | nil=>rfl
 | cons d t=>
  by_cases h:d=c
  ·subst h;rw[pCh_self];simp
  ·rw[pCh_ne h];simp[h]
def pR8 (l:Fr) (x:Mo) (r:Fr) (y:Mo) (t:Pl):Option (Mo×Pl):=(pCh 93 t).bind fun t9=>some (.rod l x r y,t9)
def pR7 (n:Nat) (l:Fr) (x:Mo) (r:Fr) (t:Pl):Option (Mo×Pl):=(pMo n t).bind fun y=>pR8 l x r y.1 y.2
def pR6 (n:Nat) (l:Fr) (x:Mo) (r:Fr) (t:Pl):Option (Mo×Pl):=(pCh 58 t).bind fun t7=>pR7 n l x r t7
def pR5 (n:Nat) (l:Fr) (x:Mo) (t:Pl):Option (Mo×Pl):=(pFr t).bind fun r=>pR6 n l x r.1 r.2
def pR4 (n:Nat) (l:Fr) (x:Mo) (t:Pl):Option (Mo×Pl):=(pCh 32 t).bind fun t5=>pR5 n l x t5
def pR3 (n:Nat) (l:Fr) (t:Pl):Option (Mo×Pl):=(pMo n t).bind fun x=>pR4 n l x.1 x.2
def pR2 (n:Nat) (l:Fr) (t:Pl):Option (Mo×Pl):=(pCh 58 t).bind fun t3=>pR3 n l t3
def pR1 (n:Nat) (t:Pl):Option (Mo×Pl):=(pFr t).bind fun l=>pR2 n l.1 l.2
def pRod (n:Nat) (t:Pl):Option (Mo×Pl):=(pCh 91 t).bind fun t1=>pR1 n t1
theorem bnd {α β:Type}{o:Option α}{f:α->Option β}{a:α}(h:o=some a):o.bind f=f a:=by rw[h];rfl
theorem bnd0 {α β:Type}{o:Option α}{f:α->Option β}(h:o=none):o.bind f=none:=by rw[h];rfl
theorem pMo_rod {n:Nat}{t t1:Pl}(h:pCh 91 t=some t1):pMo (n+1) t=pRod n t:=by
 unfold pRod pR1 pR2 pR3 pR4 pR5 pR6 pR7 pR8
 simp only[pMo,h,Option.bind_some,Option.map_eq_bind]
 rfl
theorem pMo_wt {n:Nat}{t:Pl}(h:pCh 91 t=none):pMo n t=(pFr t).map fun p=>(.wt p.1,p.2):=by
 cases n with
 | zero=>rfl
 | succ n=>simp only[pMo,h]
end
end L2
namespace L2
open PySem PySem.Spec PyProof.Rows
theorem ps_quiet {X:Cx}{st:PySem.Stmt}{t:TS}(h:PS X.nox st t):PS X st t:=fun pins s σ H D I q=>
 wpAny_mono (h pins s σ H D (I.wish _) q) (fun f s' z=>match f,z with
  | .next,⟨σ',H',I',q⟩=>⟨σ',H',I'.unwish,q⟩
  | .brk,⟨σ',H',I',q⟩=>⟨σ',H',I'.unwish,q⟩
  | .cont,⟨σ',H',I',q⟩=>⟨σ',H',I'.unwish,q⟩
  | .ret _,⟨v,σ',H',I',r,q⟩=>⟨v,σ',H',I'.unwish,r,q⟩) fun _ _ z=>False.elim z
theorem seq_k {t u:TS}{D:Ends}{σ:St}{H:Hp}(h:∀ R:St->Hp->Prop,(∀ σ' H',u D σ' H'->R σ' H')->t { D with nx:=R } σ H):tSeq t u D σ H:=h _ fun _ _ z=>z
end L2
set_option maxHeartbeats 1000000
namespace L2
open PySem PySem.Spec PyProof.Rows FrM MoM TxM NumText
theorem str_int {i:Int}(h:0<=i):Str.ofString (toString i)=mkS (dg i.toNat):=by
 obtain⟨n,rfl⟩:=Int.eq_ofNat_of_zero_le h
 rw[Int.toNat_natCast]
 exact str_dg n
theorem count_dg (n:Nat):(dg n).count 91=0:=List.count_eq_zero.mpr fun h=>by
 have:=isD_iff.mp (dg_all n 91 h)
 omega
theorem count_frT (f:Fr):(frT f).count 91=0:=by
 unfold frT
 split
 ·exact count_dg _
 ·simp[List.count_append,List.count_cons,count_dg]
theorem count_moT:∀ m:Mo,(moT m).count 91+1=m.nw
 | .wt f=>by simp only[moT,Mo.nw,count_frT]
 | .rod l x r y=>by
  have h1:=count_moT x
  have h2:=count_moT y
  simp only[moT,Mo.nw,List.count_append,List.count_cons,count_frT,List.count_nil]
  simp
  omega
def S7 (f:Fr):Prop:=Sm 700 f.1/\Sm 700 f.2
theorem dg_back {n:Nat}(h:(dg n).length<=200):Sm 700 (n:Int):=by
 unfold dg at h
 rw[List.length_map] at h
 exact sm_ten ((Nat.length_toDigits_le_iff ⋯ ⋯).mp h)
theorem frT_back {f:Fr}(h:Lo f) (hr:RunLe 200 (frT f)):S7 f:=by
 have h1:=h.t
 have h2:=h.b
 have e1:((f.1.toNat:Nat):Int)=f.1:=Int.toNat_of_nonneg ∅
 have e2:((f.2.toNat:Nat):Int)=f.2:=Int.toNat_of_nonneg ∅
 unfold frT at hr
 split at hr
 ·rename_i h3
  refine⟨?_,?_⟩
  ·rw[←e1];exact dg_back (hr [] _ [] (by simp) (dg_all _))
  ·rw[h3];show (1:Int).natAbs<2 ^ 700;ac_nf
 ·refine⟨?_,?_⟩
  ·rw[←e1];exact dg_back (hr [] (dg f.1.toNat) (47::dg f.2.toNat) (by simp) (dg_all _))
  ·rw[←e2];exact dg_back (hr (dg f.1.toNat++[47]) (dg f.2.toNat) [] (by simp) (dg_all _))
theorem moT_back:∀ {m:Mo},LoM m->RunLe 200 (moT m)->m.All S7 S7
 | .wt f,h,hr=>frT_back h hr
 | .rod l x r y,h,hr=>by
  have r0:RunLe 200 (frT l++58::(moT x++32::(frT r++58::(moT y++[93])))):=RunLe.tail (a:=[91]) hr
  have r1:RunLe 200 (moT x++32::(frT r++58::(moT y++[93]))):=RunLe.tail (a:=[58]) r0.tail
  have r2:RunLe 200 (frT r++58::(moT y++[93])):=RunLe.tail (a:=[32]) r1.tail
  have r3:RunLe 200 (moT y++[93]):=RunLe.tail (a:=[58]) r2.tail
  exact⟨frT_back h.1 r0.head,frT_back h.2.1 r2.head,moT_back h.2.2.1 r1.head,moT_back h.2.2.2 r3.head⟩
theorem slice_toN (t:Pl) (n:Nat) (hn:n<=t.length):Txt.slice (mkS t) none (some (n:Int))=mkS (t.take n):=by
 have:=slice_to (t.take n) (t.drop n)
 rw[List.take_append_drop,List.length_take,Nat.min_eq_left hn] at this
 exact this
theorem cat_sz {a b:Pl}{i j:Nat}(ha:a.length<=i) (hb:b.length<=j) (h:i+j<=1000000):(mkS a).length+(mkS b).length<=sizeLine:=by
 rw[Zc4,Zc4,sizeLine_eq]
 exact Nat.le_trans (Nat.add_le_add ha hb) (Nat.le_trans h ⋯)
theorem sz_app {a b:Pl}{i j:Nat}(ha:a.length<=i) (hb:b.length<=j):(a++b).length<=i+j:=by
 rw[List.length_append];exact Nat.add_le_add ha hb
theorem rod_len {l r:Fr}{x y:Mo}{n:Nat}(h:(moT (.rod l x r y)).length<=n):(frT l).length<=n/\(moT x).length<=n/\(frT r).length<=n/\(moT y).length<=n:=by
 simp only[moT,List.length_append,List.length_cons,List.length_nil] at h
 omega
theorem frT_two_len {f:Fr}{n:Nat}(hb:f.2≠1) (h:(frT f).length<=n):(dg f.1.toNat).length<=n/\(dg f.2.toNat).length<=n:=by
 unfold frT at h
 rw[if_neg hb,List.length_append,List.length_cons] at h
 omega
def tTry0 (K:PySem.W.Frag) (D:Addr) (tb:TSx) (th:TS):TS:=fun Ds σ H=>tb Ds (fun σ' cls _ H'=>∃ C,cls = .ref C/\PySem.W.subIn K (.ref C) (.ref D)=some true/\th Ds σ' H') σ H
def mI (i:Nat) (σ:St):Nat:=match σ[i]? with | some (some (.int y))=>y.toNat | _=>0
def mSp (r:Addr) (n:Nat) (H:Hp):Nat:=match H r with | some (.ins _ _ [_,(_,.int i)])=>n-i.toNat | _=>0
theorem mSp_of {r:Addr}{n:Nat}{H:Hp}{C dx:Addr}{x:Str×V}{f:Str}{i:Int}(h:H r=some (.ins C dx [x,(f,.int i)])):mSp r n H=n-i.toNat:=by
 unfold mSp
 rw[h]
end L2
set_option maxHeartbeats 4000000
namespace L2
open PySem PySem.Spec PyProof.Rows
section
variable {X:Cx}{pins:List (Addr×Obj)}{σ:St}{H:Hp}{s:Shared}{h':Heap}
theorem Inv.turnedL {t':Nat}{ws:List Addr}(I:Inv X pins σ H s) (k:∀ b o,b∉ws->s.heap.get? b=some o->h'.get? b=some o) (hw:∀ b∈ws,FpOk X pins H b):Inv X pins σ H { s with heap:=h',toks:=t' }:=by
 have nit:∀ b u,H b=some u->b∉ws:=fun b u e z=>by rw[(hw b z).1] at e;cases e
 refine I.step (g':=s.gens) (d':=s.drawn) (ch:=ws) (fun b hb=>?_) (fun b o _ _ hc e _=>k b o hc e) (fun b o _ _ hc e _=>⟨o.slots,k b o hc e⟩) (fun _ _ _ _ n=>n)
  (fun b o hc e=>⟨o,k b o hc e⟩) (fun _ _ e=>e) (fun _ _ _ e=>e) (fun b ps e=>⟨#[],by rw[e];simp⟩) (fun m hm=>?_) (fun b u e=>?_) I.bare
 ·obtain⟨_,f1,_,f3,f4,f5⟩:=hw b hb
  exact⟨f3,f1,f4,f5⟩
 ·obtain⟨o,es,ep,ho,r⟩:=hm
  exact⟨o,es,ep,k _ o (fun z=>(hw _ z).2.1 rfl) ho,r⟩
 ·refine (I.hok b u e).stay (fun c v hc q=>k c v ?_ q) (fun _ q=>q) fun _ _ q=>q
  rcases hc with z | z
  ·rw[z];exact nit b u e
  ·exact nit c _ z
end
def Itz (K:PySem.W.Frag) (a b:Addr) (xs ys:List V):It:=
 ⟨fun i H=>i<min xs.length ys.length/\SqL K H a xs/\SqL K H b ys,fun i H v H'=>∃ T x y,H T=none/\xs[i]? = some x/\ys[i]? = some y/\v = .ref T/\H'=upd H T (.tup [x,y]),
  fun i H=>i=min xs.length ys.length/\SqL K H a xs/\SqL K H b ys⟩
theorem turn_zip {P:Program}{w:World}{K:PySem.W.Frag}{elts:List Expr}{k:Nat}{pos:Pos}{z TI TO i1 i2 a b:Addr}(D:ZipApart z TI TO i1 i2 a b) (xs ys:List V) :
  Turn P w K (.Tuple elts k pos) (Itz K a b xs ys) [z,TI,TO,i1,i2] z (fun i h=>IsZip h z TI TO .none/\IsPair h TI (.ref i1) (.ref i2)/\(∃ u v,IsPair h TO u v)/\h.IsListIter i1 a i/\h.IsListIter i2 b i) where
 mem:=by simp
 obj:=fun i h st c hc=>by
  obtain⟨h1,h2,⟨u,v,h3⟩,⟨o4,e4,c4,d4⟩,⟨o5,e5,c5,d5⟩⟩:=st
  have hc':c=z\/c=TI\/c=TO\/c=i1\/c=i2:=by simpa using hc
  rcases hc' with rfl | rfl | rfl | rfl | rfl
  ·exact⟨_,h1,fun v q=>by cases q⟩
  ·exact⟨_,h2,fun v q=>by cases q⟩
  ·exact⟨_,h3,fun v q=>by cases q⟩
  ·exact⟨o4,e4,fun v q=>by rw[d4] at q;cases q⟩
  ·exact⟨o5,e5,fun v q=>by rw[d5] at q;cases q⟩
 keep:=fun i h h' st q=>by
  obtain⟨h1,h2,⟨u,v,h3⟩,h4,h5⟩:=st
  exact⟨q z (by simp) _ h1,q TI (by simp) _ h2,⟨u,v,q TO (by simp) _ h3⟩,h4.at fun o e=>q i1 (by simp) o e,h5.at fun o e=>q i2 (by simp) o e⟩
 item:=by
  intro X hP hw hK hc i pins s σ H E I hf st hg
  subst hP hw hK
  obtain⟨hi,q1,q2⟩:=hg
  obtain⟨us1,rv1,p1,hz1⟩:=I.list q1
  obtain⟨us2,rv2,p2,hz2⟩:=I.list q2
  obtain⟨h1,h2,h3,h4,h5⟩:=st
  have W:=WalksT.zip2 (prog:=X.prog) (w:=X.w) (I.ok.hd hc) z TI TO i1 i2 a b D us1.toArray us2.toArray
  have l1:=rv1.length
  have l2:=rv2.length
  refine W.item i s _ _ (by simp;omega) ⟨h1,h2,h3,h4,h5,p1.isList,p2.isList⟩ fun T vals h' tk hv hT htup mid kk=>?_
  obtain⟨x',y',hx',hy',rfl⟩:=hv
  refine⟨.ref T,rfl,W.go elts k pos i T _ _ _ mid fun h'' st' kk'=>?_⟩
  obtain⟨x,hx⟩:∃ x,xs[i]? = some x:=⟨_,List.getElem?_eq_getElem ∅⟩
  obtain⟨y,hy⟩:∃ y,ys[i]? = some y:=⟨_,List.getElem?_eq_getElem ∅⟩
  obtain⟨u,hu,ru⟩:=rv1.get hx
  obtain⟨v,hv,rv⟩:=rv2.get hy
  have e1:u=x':=by
   have:us1[i]? = some x':=by simpa using hx'
   rw[hu] at this;exact Option.some.inj this
  have e2:v=y':=by
   have:us2[i]? = some y':=by simpa using hy'
   rw[hv] at this;exact Option.some.inj this
  subst e1 e2
  have kA:∀ c o,c∉[z,TO,i1,i2]->s.heap.get? c=some o->h''.get? c=some o:=fun c o hc e=>kk' c o hc (kk c o hc e)
  have I1:Inv X pins σ H { s with heap:=h'',toks:=tk }:=I.turnedL kA fun c hc=>hf c (W.sub c hc |> fun q=>by simp at q hc ⊢;rcases hc with rfl | rfl | rfl | rfl <;> simp)
  have fT:=I.fpOk hT (I.hok.fresh hT)
  have hT'':h''.IsTuple T #[u,v]:=htup.at fun o e=>kk' T o (W.apart i T h' mid) e
  have nT:X.s₀.heap.get? T=none:=by
   cases q:X.s₀.heap.get? T with
   | none=>rfl
   | some o=>exact absurd (Heap.lt_size q) (Nat.not_lt.mpr (Nat.le_trans I.sz hT))
  have I2:Inv X pins σ (upd H T (.tup [x,y])) { s with heap:=h'',toks:=tk }:=I1.track nT fT.1 fT.2.1 fT.2.2.2.2.1 fT.2.2.2.2.2 ⟨by show 2<=sizeLine;decide,[u,v],.cons ru (.cons rv .nil),hT''⟩
  refine⟨.ref T,_,I2,rfl,⟨T,x,y,fT.1,hx,hy,rfl,rfl⟩,⟨st'.1,st'.2.1,st'.2.2.1,st'.2.2.2.1,st'.2.2.2.2.1⟩,fun c hc=>?_⟩
  have nc:c≠T:=by
   rintro rfl
   have hc':c=z\/c=TI\/c=TO\/c=i1\/c=i2:=by simpa using hc
   obtain⟨u',v',h3⟩:=h3
   obtain⟨o4,e4,_⟩:=h4
   obtain⟨o5,e5,_⟩:=h5
   have:∃ o,s.heap.get? c=some o:=by
    rcases hc' with rfl | rfl | rfl | rfl | rfl
    ·exact⟨_,h1⟩
    ·exact⟨_,h2⟩
    ·exact⟨_,h3⟩
    ·exact⟨_,e4⟩
    ·exact⟨_,e5⟩
   obtain⟨o,e⟩:=this
   exact absurd (Heap.lt_size e) (Nat.not_lt.mpr hT)
  rw[Zb8 nc]
  exact (hf c hc).1
 done:=by
  intro X hP hw hK hc i pins s σ H E I hf st hg
  subst hP hw hK
  obtain⟨hi,q1,q2⟩:=hg
  obtain⟨us1,rv1,p1,hz1⟩:=I.list q1
  obtain⟨us2,rv2,p2,hz2⟩:=I.list q2
  obtain⟨h1,h2,h3,h4,h5⟩:=st
  have W:=WalksT.zip2 (prog:=X.prog) (w:=X.w) (I.ok.hd hc) z TI TO i1 i2 a b D us1.toArray us2.toArray
  have l1:=rv1.length
  have l2:=rv2.length
  have hn:min us1.toArray.size us2.toArray.size=i:=by simp;omega
  rw[hn] at W
  exact W.done s _ _ ⟨h1,h2,h3,h4,h5,p1.isList,p2.isList⟩ fun h' tk kk=>⟨rfl,I.turnedL kk fun c hc=>hf c (by simp at hc ⊢;rcases hc with rfl | rfl | rfl | rfl <;> simp)⟩
 self:=fun _ _ _ _ _ st h=>wpAny_pyIter_zip st.1 h
def iZip (K:PySem.W.Frag) (ta:TA):TI:=fun σ H R=>ta σ H fun vs H1=>∃ a b xs ys,vs=[.ref a,.ref b]/\SqL K H1 a xs/\SqL K H1 b ys/\R (Itz K a b xs ys) H1
section
variable {X:Cx}
theorem pi_zip {elts:List Expr}{k:Nat}{tp:Pos}{a b:Expr}{ta:TA}{p pos:Pos}(hg:Gl X "zip") (hm:X.mg "zip" = none) (ha:PA X [a,b] ta) (hs:starEach [a,b] X.env=[(false,eval a X.env),(false,eval b X.env)]:=by rfl) (hs2:starEach [b] X.env=[(false,eval b X.env)]:=by rfl) :
  PI X (.Tuple elts k tp) (.Call (.Name "zip" p) [a,b] [] pos) (iZip X.K ta):=by
 intro pins s σ H R I h
 refine Call_ (ld_blt I hg hm bt_zip (PyProof.Rows.callWith_type1 (thn (ha pos pins s σ H _ I h) fun us s1 ⟨vs,H1,I1,r1,q1⟩=>?_) (by rw[hs,hs2]) (by rw[hs2];rfl)))
 obtain⟨a,b,xs,ys,e,hq1,hq2,q⟩:=q1
 subst e
 cases r1 with
 | cons r rr=>
  cases rr with
  | cons r' rr'=>
   cases rr'
   cases r
   cases r'
   obtain⟨us1,rv1,p1,hz1⟩:=I1.list hq1
   obtain⟨us2,rv2,p2,hz2⟩:=I1.list hq2
   have lt1:a<s1.heap.objs.size:=let ⟨_,e,_⟩:=p1.isList;Heap.lt_size e
   have lt2:b<s1.heap.objs.size:=let ⟨_,e,_⟩:=p2.isList;Heap.lt_size e
   refine call_zip_2 p1.isList p2.isList fun h' hz hTI hTO hi1 hi2 hsz hk=>?_
   have D:ZipApart (s1.heap.objs.size+4) (s1.heap.objs.size+2) (s1.heap.objs.size+3) s1.heap.objs.size (s1.heap.objs.size+1) a b:=PySem.W.ktu_apart _ _ _ lt1 lt2
   refine wpAny_pyIter_zip hz ?_
   refine⟨s1.heap.objs.size+4,_,_,_,H1,rfl,I1.kept (t':=s1.toks) hk,turn_zip D xs ys,⟨hz,hTI,⟨_,_,hTO⟩,hi1,hi2⟩,fun c hc=>?_,q⟩
   have hc':s1.heap.objs.size<=c:=by
    have:c=s1.heap.objs.size+4\/c=s1.heap.objs.size+2\/c=s1.heap.objs.size+3\/c=s1.heap.objs.size\/c=s1.heap.objs.size+1:=by simpa using hc
    rcases this with rfl | rfl | rfl | rfl | rfl
    ·exact Nat.le_add_right _ _
    ·exact Nat.le_add_right _ _
    ·exact Nat.le_add_right _ _
    ·exact Nat.le_refl _
    ·exact Nat.le_add_right _ _
   exact I1.fpOk hc' (I1.hok.fresh hc')
end
theorem for_zipN {K:PySem.W.Frag}{a b:Addr}{xs ys:List V}{g:TG}{tb:TS}{D:Ends}{σ:St}{H:Hp}(hxy:xs.length=ys.length) (Pv:Nat->St->Hp->Prop) (h0:Pv 0 σ H) (hl:∀ i σ H,i<=xs.length->Pv i σ H->SqL K H a xs/\SqL K H b ys)
  (hs:∀ i x y T σ H (N:St->Hp->Prop),xs[i]? = some x->ys[i]? = some y->Pv i σ H->H T=none->(∀ σ' H',Pv (i+1) σ' H'->N σ' H')->g (.ref T) σ (upd H T (.tup [x,y])) fun σ2 H2=>tb { D with nx:=N,ct:=N,bk:=D.nx } σ2 H2) (hd:∀ σ H,Pv xs.length σ H->D.nx σ H) :
  ForW (Itz K a b xs ys) g tb D σ H:=by
 have hm:min xs.length ys.length=xs.length:=by omega
 refine⟨fun i m σ H=>i<=xs.length/\m=xs.length-i/\Pv i σ H,⟨xs.length,Nat.zero_le _,by omega,h0⟩,?_⟩
 rintro i m σ H ⟨hi,rfl,hp⟩
 obtain⟨q1,q2⟩:=hl i σ H hi hp
 by_cases e:i=xs.length
 ·subst e
  exact .inl ⟨⟨hm.symm,q1,q2⟩,hd σ H hp⟩
 ·refine .inr ⟨⟨by omega,q1,q2⟩,Pv (i+1),fun σ' H' h=>⟨xs.length-(i+1),by omega,by omega,rfl,h⟩,?_⟩
  rintro v H' ⟨T,x,y,hT,hx,hy,rfl,rfl⟩
  exact hs i x y T σ H _ hx hy hp hT fun _ _ h=>h
end L2
set_option maxHeartbeats 4000000
namespace L2
open PySem PySem.Spec PyProof.Rows
def rNeSL (K:PySem.W.Frag):R2:=fun x y H Q=>∃ (p q:Addr) (xs ys:List Str),x = .ref p/\y = .ref q/\SqL K H p (xs.map .str)/\SqL K H q (ys.map .str)/\Q (.bl (!decide (xs=ys))) H
section
variable {X:Cx}
theorem op_neSL (hu:X.A.units+1<cLine):OpR X (compareOp .NotEq) (rNeSL X.K):=by
 intro pins s σ H x y v u Q I rx ry h
 obtain⟨p,q,xs,ys,rfl,rfl,hp,hq,k⟩:=h
 cases rx
 cases ry
 obtain⟨its,r,pl,_⟩:=I.list hp
 obtain⟨its',r',pl',_⟩:=I.list hq
 have l1:=r.length
 have l2:=r'.length
 rw[List.length_map] at l1 l2
 by_cases hl:xs.length=ys.length
 ·have:=SeqAt.RcNeAt.lists (A:=X.A) (e:=fun j=>xs[j]? == ys[j]?) pl.isList pl'.isList (by simp;omega) (Nat.lt_of_succ_lt hu) (fun j z1 z2=>by
   obtain⟨a,t,e1,e2⟩:=vals_str r j its.toArray[j] (by simp)
   obtain⟨b,t',e3,e4⟩:=vals_str r' j its'.toArray[j] (by simp)
   rw[e2,e4,e1,e3]
   have:=SeqAt.EqAt.str_str (A:=X.A.in1) (s:=s) a t b t'
   have e:(some a==some b)=(a==b):=rfl
   rw[e];exact this)
  refine this X.prog X.w X.xe _ (fin_bl I k ?_)
  congr 1
  rw[Bool.eq_iff_iff]
  simp only[decide_eq_true_eq,List.all_eq_true,List.mem_range,List.size_toArray,beq_iff_eq]
  constructor
  ·intro e;subst e;exact fun _ _=>rfl
  ·intro e
   refine List.ext_getElem? fun j=>?_
   by_cases hj:j<its.length
   ·exact e j hj
   ·rw[List.getElem?_eq_none_iff.mpr ∅,List.getElem?_eq_none_iff.mpr ∅]
 ·refine SeqAt.RcNeAt.lists_lengths pl.isList pl'.isList (by simp;omega) (Nat.lt_of_succ_lt hu) X.prog X.w X.xe _ (fin_bl I k ?_)
  rw[decide_eq_false fun e=>hl (by rw[e])]
  rfl
theorem op_neSLK {K:PySem.W.Frag}(h:X.K=K) (hu:X.A.units+1<cLine):OpR X (compareOp .NotEq) (rNeSL K):=h▸op_neSL hu
end
theorem comp_any {K:PySem.W.Frag}{a D:Addr}{xs:List V}{g:TG}{tc:TT}{te:TE}{Q:VK}{σ0:St}{H1:Hp}(Pv:Nat->List V->St->Hp->Prop) (hn:xs.length<sizeLine) (h0:Pv 0 [] σ0 (upd H1 D (.lst [])))
  (hl:∀ i ys σ H,Pv i ys σ H->H D=some (.lst ys)/\ys.length<=i) (ha:∀ i ys σ H,i<=xs.length->Pv i ys σ H->SqL K H a xs)
  (hs:∀ i x ys σ H (N:List V->St->Hp->Prop),xs[i]? = some x->Pv i ys σ H->(∀ ys' σ' H',Pv (i+1) ys' σ' H'->N ys' σ' H')->g x σ H fun σ2 H2=>tc σ2 H2 fun b H3=>if b=true then te σ2 H3 fun y H4=>H4 D=some (.lst ys)/\N (ys++[y]) σ2 (upd H4 D (.lst (ys++[y]))) else N ys σ2 H3)
  (hd:∀ ys σ H,Pv xs.length ys σ H->Q (.ref D) H):CompW (Itl K a) D g tc te σ0 H1 Q:=by
 refine⟨fun i m ys σ H=>m=xs.length-i/\i<=xs.length/\Pv i ys σ H,⟨xs.length,rfl,Nat.zero_le _,h0⟩,?_⟩
 rintro i m ys σ H ⟨rfl,hi,p⟩
 obtain⟨q1,q2⟩:=hl i ys σ H p
 have qa:=ha i ys σ H hi p
 refine⟨q1,?_⟩
 by_cases hlt:i<xs.length
 ·have e:xs[i]? = some xs[i]:=List.getElem?_eq_getElem hlt
  refine .inr ⟨⟨xs,_,qa,e⟩,by omega,fun ys' σ' H'=>Pv (i+1) ys' σ' H',fun ys' σ' H' p'=>⟨xs.length-(i+1),by omega,rfl,hlt,p'⟩,fun x H' y=>?_⟩
  obtain⟨y1,y2⟩:=y
  subst y1
  exact hs i x ys σ H' _ (y2 xs qa) p fun ys' σ' H'' p'=>p'
 ·have e:i=xs.length:=by omega
  subst e
  exact .inl ⟨⟨xs,qa,Nat.le_refl _⟩,hd ys σ H p⟩
end L2
namespace L2
open PySem PySem.Spec PyProof.Rows
section
variable {X:Cx}
theorem pg_tupK {K:PySem.W.Frag}{es:List Expr}{k:Nat}{pos:Pos}{t:TGs}{n:Nat}(hK:X.K=K) (hc:X.calm=true) (h:PGs X es t)
  (hn:(assignEach es X.env).length=n:=by rfl) (hst:(assignEach es X.env).findIdx? (·.1)=none:=by rfl):PG X (.Tuple es k pos) (gTup K n t):=hK▸pg_tup hc h hn hst
end
end L2
set_option maxHeartbeats 4000000
namespace L2
open PySem PySem.Spec PyProof.Rows MoM
section
variable {X:Cx}
def rDictOf:List V->Hp->VK->Prop:=fun xs H Q=>∃ a kvs,xs=[.ref a]/\Rd H a (.dK kvs)/\∀ p,H p=none->Q (.ref p) (upd H p (.dK kvs))
theorem call_dictOf:CallR X (.type "dict") rDictOf:=by
 intro pins s σ H xs us Q I r h
 obtain⟨a,kvs,rfl,hr,q⟩:=h
 obtain⟨u,rfl,rx⟩:=vals1 r
 cases rx
 exact d_copyOf I hr fun p s' hp I'=>⟨.ref p,_,I',rfl,q p hp⟩
end
section
variable {X:Cx}
end
end L2
set_option maxHeartbeats 4000000
namespace MoM
open FrM
def Zc8 (x y:Fr):Fr:=low (x.1*y.2-y.1*x.2) (x.2*y.2)
theorem fplus_neg (x:Fr) (a b:Int):Zd0 x (-a,b)=Zc8 x (a,b):=by
 unfold Zd0 Zc8
 dsimp only
 rw[Int.neg_mul,Int.add_neg_eq_sub]
end MoM
namespace RtM
open FrM MoM
def rq (x:Fr):Rat:=(x.1:Rat) / (x.2:Rat)
structure Lw (x:Fr):Prop where
 b:0<x.2
 g:Int.gcd x.1 x.2=1
theorem cast_ne {b:Int}(h:b≠0):(b:Rat)≠0:=fun z=>h (Rat.intCast_inj.mp (by rw[z];rfl))
theorem rq_of {x:Fr}{a b:Int}(hx:x.2≠0) (hb:b≠0) (h:x.1*b=a*x.2):rq x=(a:Rat) / (b:Rat):=by
 have h':((x.1:Int):Rat)*(b:Rat)=(a:Rat)*(x.2:Rat):=by rw[←Rat.intCast_mul,h,Rat.intCast_mul]
 have h1:=cast_ne hx
 have h2:=cast_ne hb
 unfold rq
 grind
theorem Lw.low {a b:Int}(hb:b≠0):Lw (low a b):=⟨by have:=nb_pos (a:=a) hb;show 0<nb a b;omega,low_gcd hb⟩
theorem rq_low {a b:Int}(hb:b≠0):rq (low a b)=(a:Rat) / (b:Rat):=rq_of (Int.ne_of_gt (Lw.low hb).b) hb (low_cross hb)
theorem Lw.plus {x y:Fr}(hx:0<x.2) (hy:0<y.2):Lw (Zd0 x y):=Lw.low (Int.ne_of_gt (Int.mul_pos hx hy))
theorem Lw.minus {x y:Fr}(hx:0<x.2) (hy:0<y.2):Lw (Zc8 x y):=Lw.low (Int.ne_of_gt (Int.mul_pos hx hy))
theorem Lw.times {x y:Fr}(hx:0<x.2) (hy:0<y.2):Lw (Zb1 x y):=Lw.low (Int.ne_of_gt (Int.mul_pos hx hy))
theorem rq_plus {x y:Fr}(hx:0<x.2) (hy:0<y.2):rq (Zd0 x y)=rq x+rq y:=by
 have h1:=cast_ne (Int.ne_of_gt hx)
 have h2:=cast_ne (Int.ne_of_gt hy)
 unfold Zd0
 rw[rq_low (Int.ne_of_gt (Int.mul_pos hx hy))]
 unfold rq
 simp only[Rat.intCast_add,Rat.intCast_mul]
 grind
theorem rq_minus {x y:Fr}(hx:0<x.2) (hy:0<y.2):rq (Zc8 x y)=rq x-rq y:=by
 have h1:=cast_ne (Int.ne_of_gt hx)
 have h2:=cast_ne (Int.ne_of_gt hy)
 unfold Zc8
 rw[rq_low (Int.ne_of_gt (Int.mul_pos hx hy))]
 unfold rq
 simp only[Rat.intCast_sub,Rat.intCast_mul]
 grind
theorem rq_times {x y:Fr}(hx:0<x.2) (hy:0<y.2):rq (Zb1 x y)=rq x*rq y:=by
 have h1:=cast_ne (Int.ne_of_gt hx)
 have h2:=cast_ne (Int.ne_of_gt hy)
 unfold Zb1
 rw[rq_low (Int.ne_of_gt (Int.mul_pos hx hy))]
 unfold rq
 simp only[Rat.intCast_mul]
 grind
theorem rq_over {x y:Fr}(hx:0<x.2) (hy2:0<y.2) (hy:y.1≠0):rq (fover x y)=rq x / rq y:=by
 have h1:=cast_ne (Int.ne_of_gt hx)
 have h2:=cast_ne hy
 have h3:=cast_ne (Int.ne_of_gt hy2)
 unfold fover
 rw[rq_low (Int.mul_ne_zero (Int.ne_of_gt hx) hy)]
 unfold rq
 simp only[Rat.intCast_mul]
 grind
theorem cross_of {x y:Fr}(hx:0<x.2) (hy:0<y.2) (h:rq x=rq y):x.1*y.2=y.1*x.2:=by
 have h1:=cast_ne (Int.ne_of_gt hx)
 have h2:=cast_ne (Int.ne_of_gt hy)
 apply Rat.intCast_inj.mp
 rw[Rat.intCast_mul,Rat.intCast_mul]
 unfold rq at h
 grind
theorem Lw.ext {x y:Fr}(hx:Lw x) (hy:Lw y) (h:rq x=rq y):x=y:=by
 have e:=cross_of hx.b hy.b h
 have d1:x.2∣y.2:=by
  have:x.2∣x.1*y.2:=⟨y.1,by rw[e,Int.mul_comm]⟩
  exact Int.dvd_of_dvd_mul_right_of_gcd_one' this (by rw[Int.gcd_comm];exact hx.g)
 have d2:y.2∣x.2:=by
  have:y.2∣y.1*x.2:=⟨x.1,by rw[←e,Int.mul_comm]⟩
  exact Int.dvd_of_dvd_mul_right_of_gcd_one' this (by rw[Int.gcd_comm];exact hy.g)
 have e2:x.2=y.2:=Int.le_antisymm (Int.le_of_dvd hy.b d1) (Int.le_of_dvd hx.b d2)
 rw[e2] at e
 have e1:x.1=y.1:=Int.eq_of_mul_eq_mul_right (Int.ne_of_gt hy.b) e
 exact Prod.ext e1 e2
end RtM
set_option maxHeartbeats 4000000
namespace RtM
open FrM MoM
structure Qb (D B:Int) (x:Fr):Prop where
 b:0<x.2
 g:Int.gcd x.1 x.2=1
 n:∃ n:Int,x.1*D=n*x.2 /\ -B<=n/\n<=B
theorem Qb.lw {D B:Int}{x:Fr}(h:Qb D B x):Lw x:=⟨h.b,h.g⟩
theorem Qb.mono {D B C:Int}{x:Fr}(h:Qb D B x) (hc:B<=C):Qb D C x:=by
 obtain⟨n,e,h1,h2⟩:=h.n
 exact⟨h.b,h.g,n,e,by omega,by omega⟩
theorem Qb.dvd {D B:Int}{x:Fr}(h:Qb D B x):x.2∣D:=by
 obtain⟨n,e,h1,h2⟩:=h.n
 have:x.2∣x.1*D:=⟨n,by rw[e,Int.mul_comm]⟩
 exact MoM.Int.dvd_of_dvd_mul_right_of_gcd_one' this (by rw[Int.gcd_comm];exact h.g)
theorem Qb.bot {D B:Int}{x:Fr}(h:Qb D B x) (hD:0<D):x.2<=D:=Int.le_of_dvd hD h.dvd
theorem Qb.top {D B:Int}{x:Fr}(h:Qb D B x) (hD:0<D) : -B<=x.1/\x.1<=B:=by
 obtain⟨n,e,h1,h2⟩:=h.n
 obtain⟨u,hu⟩:=h.dvd
 have u0:0<u:=by
  have:0<u*x.2:=by rw[Int.mul_comm,←hu];exact hD
  exact Int.pos_of_mul_pos_left this h.b
 have e1:x.1*u=n:=by
  have:(x.1*u)*x.2=n*x.2:=by rw[←e,hu];ac_rfl
  exact Int.eq_of_mul_eq_mul_right (Int.ne_of_gt h.b) this
 have a:=h.b
 rcases Int.lt_or_le x.1 0 with z | z
 ·have:x.1*u<=x.1*1:=Int.mul_le_mul_of_nonpos_left (Int.le_of_lt z) ∅
  omega
 ·have:x.1*1<=x.1*u:=Int.mul_le_mul_of_nonneg_left ∅ z
  omega
theorem Qb.low {D B a b n:Int}(hb:0<b) (e:a*D=n*b) (h1 : -B<=n) (h2:n<=B):Qb D B (low a b):=by
 have hl:=Lw.low (a:=a) (Int.ne_of_gt hb)
 refine⟨hl.b,hl.g,n,?_,h1,h2⟩
 have hc:=low_cross (a:=a) (b:=b) (Int.ne_of_gt hb)
 generalize MoM.low a b=z at *
 have:(z.1*D)*b=(n*z.2)*b:=by
  rw[show (z.1*D)*b=(z.1*b)*D by ac_rfl,hc,show a*z.2*D=(a*D)*z.2 by ac_rfl,e];ac_rfl
 exact Int.eq_of_mul_eq_mul_right (Int.ne_of_gt hb) this
theorem Qb.plus {D B C:Int}{x y:Fr}(hx:Qb D B x) (hy:Qb D C y):Qb D (B+C) (Zd0 x y):=by
 obtain⟨n,e,h1,h2⟩:=hx.n
 obtain⟨k,f,g1,g2⟩:=hy.n
 refine Qb.low (n:=n+k) (Int.mul_pos hx.b hy.b) ?_ ∅ ∅
 rw[Int.add_mul,Int.add_mul,show x.1*y.2*D=(x.1*D)*y.2 by ac_rfl,e,show y.1*x.2*D=(y.1*D)*x.2 by ac_rfl,f]
 ac_rfl
theorem Qb.minus {D B C:Int}{x y:Fr}(hx:Qb D B x) (hy:Qb D C y):Qb D (B+C) (Zc8 x y):=by
 obtain⟨n,e,h1,h2⟩:=hx.n
 obtain⟨k,f,g1,g2⟩:=hy.n
 refine Qb.low (n:=n-k) (Int.mul_pos hx.b hy.b) ?_ ∅ ∅
 rw[Int.sub_mul,Int.sub_mul,show x.1*y.2*D=(x.1*D)*y.2 by ac_rfl,e,show y.1*x.2*D=(y.1*D)*x.2 by ac_rfl,f]
 rw[show n*x.2*y.2=n*(x.2*y.2) by ac_rfl,show k*y.2*x.2=k*(x.2*y.2) by ac_rfl]
theorem abs_mul {B C n k:Int}(h1 : -B<=n) (h2:n<=B) (g1 : -C<=k) (g2:k<=C) : -(B*C)<=n*k/\n*k<=B*C:=by
 have p1:0<=(B-n)*(C+k):=Int.mul_nonneg ∅ ∅
 have p2:0<=(B+n)*(C-k):=Int.mul_nonneg ∅ ∅
 have p3:0<=(B-n)*(C-k):=Int.mul_nonneg ∅ ∅
 have p4:0<=(B+n)*(C+k):=Int.mul_nonneg ∅ ∅
 simp only[Int.sub_mul,Int.add_mul,Int.mul_add,Int.mul_sub] at p1 p2 p3 p4
 omega
theorem Qb.times {D B E C:Int}{x y:Fr}(hx:Qb D B x) (hy:Qb E C y):Qb (D*E) (B*C) (Zb1 x y):=by
 obtain⟨n,e,h1,h2⟩:=hx.n
 obtain⟨k,f,g1,g2⟩:=hy.n
 have:=abs_mul h1 h2 g1 g2
 refine Qb.low (n:=n*k) (Int.mul_pos hx.b hy.b) ?_ this.1 this.2
 rw[show x.1*y.1*(D*E)=(x.1*D)*(y.1*E) by ac_rfl,e,f];ac_rfl
theorem Qb.of_bd {D B:Int}{x:Fr}(h:Bd D B x) (hD:0<D) (g:Int.gcd x.1 x.2=1):Qb D B x:=by
 obtain⟨u,hu⟩:=h.d
 have eu:D / x.2=u:=by rw[hu,Int.mul_ediv_cancel_left _ (by have:=h.b;omega)]
 have hs:=h.s
 rw[eu] at hs
 have u0:0<u:=by
  have:0<u*x.2:=by rw[Int.mul_comm,←hu];exact hD
  exact Int.pos_of_mul_pos_left this h.b
 have:=Int.mul_pos h.t u0
 exact⟨h.b,g,x.1*u,by rw[hu];ac_rfl,by omega,hs⟩
def far:Mo->Fr->Pl->Fr
 | .wt _,f,_=>f
 | .rod _ _ _ _,f,[]=>f
 | .rod l x r y,f,c::p=>if c=108 then far x (Zc8 f l) p else far y (Zd0 f r) p
def arC:Int:=2 ^ 32*2116800
theorem ar_qb {x:Fr}(h:Ar x):Qb 2116800 arC x:=by
 refine Qb.of_bd ⟨h.t,h.b,h.d,?_⟩ ⋯ h.g
 have h1:(2116800:Int) / x.2<=2116800:=Int.ediv_le_self _ ⋯
 have h0:0<=(2116800:Int) / x.2:=Int.ediv_nonneg ⋯ (Int.le_of_lt h.b)
 exact Int.mul_le_mul h.tl h1 h0 ⋯
theorem arC_pos:0<arC:=by decide
def turn:Mo->Fr->Fr
 | .wt a,f=>Zb1 a f
 | .rod l x r y,f=>Zd0 (turn x (Zc8 f l)) (turn y (Zd0 f r))
def gap (l:Fr) (x:Mo) (r:Fr) (y:Mo):Fr:=Zc8 (Zb1 r y.heft) (Zb1 l x.heft)
def gs:Mo->Fr
 | .wt _=>(0,1)
 | .rod l x r y=>Zd0 (gap l x r y) (Zd0 (gs x) (gs y))
def here (m:Mo) (f:Fr):Fr:=Zc8 (turn m f) (Zb1 m.heft f)
theorem Bd.qheft {D B:Int}{A:Fr->Prop}(hD:0<D):∀ {m:Mo},m.All (Qb D B) A->Qb D (m.nw*B) m.heft
 | .wt a,h=>by
  have:((Mo.wt a).nw:Int)*B=B:=by simp[Mo.nw]
  rw[this];exact h
 | .rod l x r y,h=>by
  have:=(Bd.qheft hD h.2.2.1).plus (Bd.qheft hD h.2.2.2)
  have e:((Mo.rod l x r y).nw:Int)*B=x.nw*B+y.nw*B:=by simp only[Mo.nw];rw[Int.natCast_add,Int.add_mul]
  rw[e];exact this
theorem heft_lw:∀ {m:Mo},m.All Lw Lw->Lw m.heft
 | .wt a,h=>h
 | .rod l x r y,h=>Lw.plus (heft_lw h.2.2.1).b (heft_lw h.2.2.2).b
def tC (B:Int):Int:=B*(100*arC)
theorem Qb.lwAll {D B:Int}:∀ {m:Mo},m.All (Qb D B) Ar->m.All Lw Lw
 | .wt a,h=>h.lw
 | .rod l x r y,h=>⟨⟨h.1.b,h.1.g⟩,⟨h.2.1.b,h.2.1.g⟩,Qb.lwAll h.2.2.1,Qb.lwAll h.2.2.2⟩
theorem pull_qb {D B:Int}{m:Mo}{l:Fr}(hD:0<D) (hB:0<=B) (h:m.All (Qb D B) Ar) (hl:Ar l):Qb (D*2116800) (m.nw*tC B) (Zb1 l m.heft):=by
 have:=(ar_qb hl).times (Bd.qheft hD h)
 rw[Int.mul_comm D]
 refine this.mono ?_
 unfold tC
 rw[show arC*(↑m.nw*B)=(m.nw*B)*(1*arC) by rw[Int.one_mul];ac_rfl,←Int.mul_assoc (m.nw:Int) B]
 exact Int.mul_le_mul_of_nonneg_left (Int.mul_le_mul_of_nonneg_right (by decide:(1:Int)<=100) (Int.le_of_lt arC_pos)) (Int.mul_nonneg ∅ hB)
def BB:Int:=tC (gT 64*gD 64)
def DD:Int:=gD 64*2116800
theorem gg_nn:0<=gT 64*gD 64:=Int.le_of_lt (Int.mul_pos (gT_pos _) (gD_pos _))
theorem BB_nn:0<=BB:=Int.mul_nonneg gg_nn (Int.mul_nonneg ⋯ (Int.le_of_lt arC_pos))
theorem DD_pos:0<DD:=Int.mul_pos (gD_pos _) ⋯
theorem good_qb:∀ {m:Mo},Good 64 m->m.All (Qb (gD 64) (gT 64*gD 64)) Ar:=fun h=>Mo.All.mono (fun _ a=>Qb.of_bd a.bd (gD_pos _) a.g) (fun _ a=>a) h
theorem good_lw {m:Mo}(h:Good 64 m):m.All Lw Lw:=Qb.lwAll (good_qb h)
theorem sm_of {n:Nat}{x B:Int}(h1 : -B<=x) (h2:x<=B) (h:B<2 ^ n):Sm n x:=by
 unfold Sm
 have:((x.natAbs:Nat):Int)<((2 ^ n:Nat):Int):=by
  have e:((2 ^ n:Nat):Int)=(2:Int) ^ n:=by simp
  rw[e];omega
 exact Int.ofNat_lt.mp this
theorem Qb.small {D B:Int}{x:Fr}{n:Nat}(h:Qb D B x) (D0:0<D) (hD:D<2 ^ n) (hB:B<2 ^ n):Sm n x.1/\Sm n x.2:=by
 have t:=h.top D0
 have b:=h.bot D0
 have b0:=h.b
 exact⟨sm_of t.1 t.2 hB,small_of b0 ∅⟩
theorem big_small {x:Fr}{k:Nat}(h:Qb DD (k*BB) x) (hk:k<=1000):Sm 4000 x.1/\Sm 4000 x.2:=by
 refine h.small DD_pos (by ac_nf) ?_
 have h1:(k:Int)*BB<=1000*BB:=Int.mul_le_mul_of_nonneg_right ∅ BB_nn
 have h2:1000*BB<2 ^ 4000:=by ac_nf
 omega
theorem pullb {m:Mo}{l:Fr}(h:Good 64 m) (hl:Ar l):Qb DD (m.nw*BB) (Zb1 l m.heft):=pull_qb (gD_pos 64) gg_nn (good_qb h) hl
end RtM
set_option maxHeartbeats 4000000
namespace L2
open PySem PySem.Spec PyProof.Rows MoM
section
variable {X:Cx}
theorem paired_get {α β:Type}{F:α->β->Prop}{l:List α}{m:List β}(h:Paired F l m):∀ {j:Nat}{a:α},l[j]? = some a->∃ b,m[j]? = some b/\F a b:=by
 induction h with
 | nil=>intro j a e;simp at e
 | cons h _ ih=>
  intro j a e
  cases j with
  | zero=>simp at e;subst e;exact⟨_,rfl,h⟩
  | succ j=>simpa using ih (by simpa using e)
variable {pins:List (Addr×Obj)}{σ:St}{H:Hp}{s:Shared}
end
end L2
set_option maxHeartbeats 4000000
namespace RtM
open FrM MoM
def lack (c:Nat) (l x r y:Fr):Fr:=if c=108 then fover (Zc8 (Zb1 r y) (Zb1 l x)) l else fover (Zc8 (Zb1 l x) (Zb1 r y)) r
def want (a:Fr) (c:Nat) (l x r y:Fr):Fr:=Zd0 a (lack c l x r y)
def lvl (l x r y:Fr):Fr:=fover (Zc8 (Zb1 r y) (Zb1 l x)) (Zd0 x y)
structure Lp (x:Fr):Prop where
 t:0<x.1
 lw:Lw x
theorem Lw.over {x y:Fr}(hx:0<x.2) (hy:0<y.1):Lw (fover x y):=Lw.low (Int.ne_of_gt (Int.mul_pos hx hy))
theorem rq_ne {x:Fr}(h:Lp x):rq x≠0:=by
 have h1:=cast_ne (Int.ne_of_gt h.t)
 have h2:=cast_ne (Int.ne_of_gt h.lw.b)
 unfold rq
 grind
theorem ar_lp {x:Fr}(h:Ar x):Lp x:=⟨h.t,h.b,h.g⟩
theorem lack_lw {c:Nat}{l x r y:Fr}(hl:Lp l) (hr:Lp r) (hx:Lw x) (hy:Lw y):Lw (lack c l x r y):=by
 have h1:=Lw.times hl.lw.b hx.b
 have h2:=Lw.times hr.lw.b hy.b
 unfold lack
 split
 ·exact Lw.over (Lw.minus h2.b h1.b).b hl.t
 ·exact Lw.over (Lw.minus h1.b h2.b).b hr.t
theorem rq_lackl {l x r y:Fr}(hl:Lp l) (hr:Lp r) (hx:Lw x) (hy:Lw y):rq (lack 108 l x r y)=(rq r*rq y-rq l*rq x) / rq l:=by
 have h1:=Lw.times hl.lw.b hx.b
 have h2:=Lw.times hr.lw.b hy.b
 unfold lack
 rw[if_pos rfl,rq_over (Lw.minus h2.b h1.b).b hl.lw.b (Int.ne_of_gt hl.t),rq_minus h2.b h1.b,rq_times hr.lw.b hy.b,rq_times hl.lw.b hx.b]
theorem rq_lackr {l x r y:Fr}(hl:Lp l) (hr:Lp r) (hx:Lw x) (hy:Lw y):rq (lack 114 l x r y)=(rq l*rq x-rq r*rq y) / rq r:=by
 have h1:=Lw.times hl.lw.b hx.b
 have h2:=Lw.times hr.lw.b hy.b
 unfold lack
 rw[if_neg ⋯,rq_over (Lw.minus h1.b h2.b).b hr.lw.b (Int.ne_of_gt hr.t),rq_minus h1.b h2.b,rq_times hr.lw.b hy.b,rq_times hl.lw.b hx.b]
theorem want_lw {a:Fr}{c:Nat}{l x r y:Fr}(ha:Lw a) (hl:Lp l) (hr:Lp r) (hx:Lw x) (hy:Lw y):Lw (want a c l x r y):=Lw.plus ha.b (lack_lw hl hr hx hy).b
theorem rq_want {a:Fr}{c:Nat}{l x r y:Fr}(ha:Lw a) (hl:Lp l) (hr:Lp r) (hx:Lw x) (hy:Lw y):rq (want a c l x r y)=rq a+rq (lack c l x r y):=rq_plus ha.b (lack_lw hl hr hx hy).b
theorem want_eq {a:Fr}{c:Nat}{l x r y:Fr}(hc:c=108\/c=114) (ha:Lw a) (hl:Lp l) (hr:Lp r) (hx:Lw x) (hy:Lw y):want a c l x r y=a↔Zb1 l x=Zb1 r y:=by
 have w:=want_lw (c:=c) ha hl hr hx hy
 have e:=rq_want (c:=c) ha hl hr hx hy
 have nl:=rq_ne hl
 have nr:=rq_ne hr
 have e1:=rq_times hl.lw.b hx.b
 have e2:=rq_times hr.lw.b hy.b
 constructor
 ·intro z
  refine Lw.ext (Lw.times hl.lw.b hx.b) (Lw.times hr.lw.b hy.b) ?_
  rw[z] at e
  rcases hc with rfl | rfl
  ·rw[rq_lackl hl hr hx hy] at e;grind
  ·rw[rq_lackr hl hr hx hy] at e;grind
 ·intro z
  refine Lw.ext w ha ?_
  rw[z] at e1
  rcases hc with rfl | rfl
  ·rw[rq_lackl hl hr hx hy] at e;grind
  ·rw[rq_lackr hl hr hx hy] at e;grind
theorem all_put {A B:Fr->Prop}{m:Mo}{q:Pl}{b:Fr}(h:m.All A B) (hb:A b):(m.put q (.wt b)).All A B:=Mo.All.put (s:=.wt b) hb h
theorem rq_heft_put:∀ {m:Mo}{q:Pl}{a b:Fr},m.All Lw Lw->m.sub q=some (.wt a)->Lw b->rq (m.put q (.wt b)).heft=rq m.heft-rq a+rq b
 | .wt c,[],a,b,h,hs,hb=>by
  cases hs
  show rq b=rq c-rq c+rq b
  grind
 | .wt c,d::q,a,b,h,hs,hb=>by cases hs
 | .rod l x r y,[],a,b,h,hs,hb=>by cases hs
 | .rod l x r y,d::q,a,b,h,hs,hb=>by
  have hx:=heft_lw h.2.2.1
  have hy:=heft_lw h.2.2.2
  by_cases c1:d=108
  ·subst c1
   have ih:=rq_heft_put (m:=x) (q:=q) (a:=a) (b:=b) h.2.2.1 (by simpa [Mo.sub] using hs) hb
   have hx':Lw (x.put q (.wt b)).heft:=heft_lw (all_put h.2.2.1 hb)
   have e:(Mo.put (.rod l x r y) (108::q) (.wt b)).heft=Zd0 (x.put q (.wt b)).heft y.heft:=by simp[Mo.put,Mo.heft]
   have e2:(Mo.rod l x r y).heft=Zd0 x.heft y.heft:=rfl
   rw[e,e2,rq_plus hx'.b hy.b,rq_plus hx.b hy.b,ih]
   grind
  ·by_cases c2:d=114
   ·subst c2
    have ih:=rq_heft_put (m:=y) (q:=q) (a:=a) (b:=b) h.2.2.2 (by simpa [Mo.sub] using hs) hb
    have hy':Lw (y.put q (.wt b)).heft:=heft_lw (all_put h.2.2.2 hb)
    have e:(Mo.put (.rod l x r y) (114::q) (.wt b)).heft=Zd0 x.heft (y.put q (.wt b)).heft:=by simp[Mo.put,Mo.heft]
    have e2:(Mo.rod l x r y).heft=Zd0 x.heft y.heft:=rfl
    rw[e,e2,rq_plus hx.b hy'.b,rq_plus hx.b hy.b,ih]
    grind
   ·simp[Mo.sub,c1,c2] at hs
theorem put_level {a b x' l x r y:Fr}(ha:Lw a) (hb:Lw b) (hl:Lp l) (hr:Lp r) (hx:Lw x) (hy:Lw y) (hx':Lw x') :
  (rq x'=rq x-rq a+rq b->(Zb1 l x'=Zb1 r y↔want a 108 l x r y=b))/\(rq x'=rq y-rq a+rq b->(Zb1 l x=Zb1 r x'↔want a 114 l x r y=b)):=by
 have nl:=rq_ne hl
 have nr:=rq_ne hr
 have w1:=want_lw (c:=108) ha hl hr hx hy
 have w2:=want_lw (c:=114) ha hl hr hx hy
 have e1:=rq_want (c:=108) ha hl hr hx hy
 have e2:=rq_want (c:=114) ha hl hr hx hy
 rw[rq_lackl hl hr hx hy] at e1
 rw[rq_lackr hl hr hx hy] at e2
 have t1:=rq_times hl.lw.b hx'.b
 have t2:=rq_times hr.lw.b hy.b
 have t3:=rq_times hl.lw.b hx.b
 have t4:=rq_times hr.lw.b hx'.b
 constructor
 ·intro h
  constructor
  ·intro z
   refine Lw.ext w1 hb ?_
   rw[z] at t1
   grind
  ·intro z
   refine Lw.ext (Lw.times hl.lw.b hx'.b) (Lw.times hr.lw.b hy.b) ?_
   rw[z] at e1
   grind
 ·intro h
  constructor
  ·intro z
   refine Lw.ext w2 hb ?_
   rw[z] at t3
   grind
  ·intro z
   refine Lw.ext (Lw.times hl.lw.b hx.b) (Lw.times hr.lw.b hx'.b) ?_
   rw[z] at e2
   grind
theorem Lp.plus {x y:Fr}(hx:Lp x) (hy:Lp y):Lp (Zd0 x y):=
 ⟨(low_pos (Int.add_pos (Int.mul_pos hx.t hy.lw.b) (Int.mul_pos hy.t hx.lw.b)) (Int.mul_pos hx.lw.b hy.lw.b)).1,Lw.plus hx.lw.b hy.lw.b⟩
theorem lvl_lw {l x r y:Fr}(hl:Lp l) (hr:Lp r) (hx:Lp x) (hy:Lp y):Lw (lvl l x r y):=
 Lw.over (Lw.minus (Lw.times hr.lw.b hy.lw.b).b (Lw.times hl.lw.b hx.lw.b).b).b (Lp.plus hx hy).t
theorem rq_lvl {l x r y:Fr}(hl:Lp l) (hr:Lp r) (hx:Lp x) (hy:Lp y):rq (lvl l x r y)=(rq r*rq y-rq l*rq x) / (rq x+rq y):=by
 have h1:=Lw.times hl.lw.b hx.lw.b
 have h2:=Lw.times hr.lw.b hy.lw.b
 have hp:=Lp.plus hx hy
 unfold lvl
 rw[rq_over (Lw.minus h2.b h1.b).b hp.lw.b (Int.ne_of_gt hp.t),rq_minus h2.b h1.b,rq_times hr.lw.b hy.lw.b,rq_times hl.lw.b hx.lw.b,rq_plus hx.lw.b hy.lw.b]
theorem sum_ne {x y:Fr}(hx:Lp x) (hy:Lp y):rq x+rq y≠0:=by
 have:=rq_ne (Lp.plus hx hy)
 rwa [rq_plus hx.lw.b hy.lw.b] at this
theorem shift_level {l x r y f:Fr}(hl:Lp l) (hr:Lp r) (hx:Lp x) (hy:Lp y) (hf:Lw f):Zb1 (Zd0 l f) x=Zb1 (Zc8 r f) y↔f=lvl l x r y:=by
 have hs:=sum_ne hx hy
 have e:=rq_lvl hl hr hx hy
 have a1:=Lw.plus hl.lw.b hf.b
 have a2:=Lw.minus hr.lw.b hf.b
 have t1:rq (Zb1 (Zd0 l f) x)=(rq l+rq f)*rq x:=by rw[rq_times a1.b hx.lw.b,rq_plus hl.lw.b hf.b]
 have t2:rq (Zb1 (Zc8 r f) y)=(rq r-rq f)*rq y:=by rw[rq_times a2.b hy.lw.b,rq_minus hr.lw.b hf.b]
 constructor
 ·intro z
  refine Lw.ext hf (lvl_lw hl hr hx hy) ?_
  rw[z] at t1
  grind
 ·intro z
  refine Lw.ext (Lw.times a1.b hx.lw.b) (Lw.times a2.b hy.lw.b) ?_
  rw[←z] at e
  grind
theorem pos_cast {a:Int}:(0:Rat)<(a:Rat)↔0<a:=by
 rw[show (0:Rat)=((0:Int):Rat) from rfl,Rat.intCast_lt_intCast]
theorem rq_pos {x:Fr}(h:Lw x):0<rq x↔0<x.1:=by
 have h2:=pos_cast.mpr h.b
 rw[←pos_cast (a:=x.1)]
 unfold rq
 constructor
 ·intro z
  have:=Rat.mul_pos z h2
  rwa [Rat.div_mul_cancel (by grind)] at this
 ·intro z
  rw[Rat.div_def]
  exact Rat.mul_pos z (Rat.inv_pos.mpr h2)
theorem Qb.over {D B:Int}{x l:Fr}(hx:Qb D B x) (l1:0<l.1) (l2:0<l.2):Qb (D*l.1) (B*l.2) (fover x l):=by
 obtain⟨n,e,h1,h2⟩:=hx.n
 have b1:=Int.mul_le_mul_of_nonneg_right h1 (Int.le_of_lt l2)
 have b2:=Int.mul_le_mul_of_nonneg_right h2 (Int.le_of_lt l2)
 rw[Int.neg_mul] at b1
 refine Qb.low (n:=n*l.2) (Int.mul_pos hx.b l1) ?_ b1 b2
 rw[show x.1*l.2*(D*l.1)=(x.1*D)*(l.2*l.1) by ac_rfl,e];ac_rfl
theorem Qb.scale {D B c:Int}{x:Fr}(hx:Qb D B x) (c0:0<=c):Qb (D*c) (B*c) x:=by
 obtain⟨n,e,h1,h2⟩:=hx.n
 have b1:=Int.mul_le_mul_of_nonneg_right h1 c0
 have b2:=Int.mul_le_mul_of_nonneg_right h2 c0
 rw[Int.neg_mul] at b1
 exact⟨hx.b,hx.g,n*c,by rw[←Int.mul_assoc,e];ac_rfl,b1,b2⟩
def WB:Int:=2 ^ 1330
theorem am_wb {x:Fr}{c:Int}(h:Am 64 x) (c0:0<c) (c1:c<=2 ^ 32):Qb (DD*c) (gT 64*gD 64*2116800*2 ^ 32) x:=by
 have q:=((Qb.of_bd h.bd (gD_pos _) h.g).scale (c:=2116800) ⋯).scale (Int.le_of_lt c0)
 refine q.mono ?_
 exact Int.mul_le_mul_of_nonneg_left c1 (Int.mul_nonneg gg_nn ⋯)
theorem lack_qb {c:Nat}{l r:Fr}{x y:Mo}(hl:Ar l) (hr:Ar r) (gx:Good 64 x) (gy:Good 64 y) (hn:x.nw+y.nw<=200):∃ d:Int,0<d/\d<=2 ^ 32/\d=(if c=108 then l.1 else r.1)/\Qb (DD*d) (200*BB*2 ^ 32) (lack c l x.heft r y.heft):=by
 have p1:=pullb gx hl
 have p2:=pullb gy hr
 have BB0:=BB_nn
 have k:∀ {j k:Nat},j+k<=200->(j:Int)*BB+k*BB<=200*BB:=fun {j k} h=>by
  rw[←Int.add_mul]
  exact Int.mul_le_mul_of_nonneg_right ∅ BB0
 unfold lack
 split
 ·refine⟨l.1,hl.t,hl.tl,rfl,?_⟩
  have m:=((p2.minus p1).mono (k ∅)).over hl.t hl.b
  exact m.mono (Int.mul_le_mul_of_nonneg_left hl.bl (Int.mul_nonneg ⋯ BB0))
 ·refine⟨r.1,hr.t,hr.tl,rfl,?_⟩
  have m:=((p1.minus p2).mono (k ∅)).over hr.t hr.b
  exact m.mono (Int.mul_le_mul_of_nonneg_left hr.bl (Int.mul_nonneg ⋯ BB0))
theorem wb_big:gT 64*gD 64*2116800*2 ^ 32+200*BB*2 ^ 32<=WB:=by ac_nf
theorem wb_a:gT 64*gD 64*2116800*2 ^ 32<=WB:=by ac_nf
theorem wb_l:200*BB*2 ^ 32<=WB:=by ac_nf
theorem want_qb {a:Fr}{c:Nat}{l r:Fr}{x y:Mo}(ha:Am 64 a) (hl:Ar l) (hr:Ar r) (gx:Good 64 x) (gy:Good 64 y) (hn:x.nw+y.nw<=200):∃ d:Int,0<d/\d<=2 ^ 32/\Qb (DD*d) WB (want a c l x.heft r y.heft):=by
 obtain⟨d,d0,d1,_,q⟩:=lack_qb (c:=c) hl hr gx gy hn
 exact⟨d,d0,d1,((am_wb ha d0 d1).plus q).mono wb_big⟩
theorem wq_small {x:Fr}{d:Int}(h:Qb (DD*d) WB x) (d0:0<d) (d1:d<=2 ^ 32):Sm 1400 x.1/\Sm 1400 x.2:=by
 refine h.small (Int.mul_pos DD_pos d0) ?_ (by ac_nf)
 have h1:DD*d<=DD*2 ^ 32:=Int.mul_le_mul_of_nonneg_left d1 (Int.le_of_lt DD_pos)
 have h2:DD*2 ^ 32<2 ^ 1400:=by ac_nf
 omega
theorem heft_lp {m:Mo}(h:Good 64 m):Lp m.heft:=⟨h.heft.t,heft_lw (good_lw h)⟩
theorem lvl_small {l r:Fr}{x y:Mo}(hl:Ar l) (hr:Ar r) (gx:Good 64 x) (gy:Good 64 y) (hn:x.nw+y.nw<=200):Sm 1400 (lvl l x.heft r y.heft).1/\Sm 1400 (lvl l x.heft r y.heft).2:=by
 have p1:=pullb gx hl
 have p2:=pullb gy hr
 have BB0:=BB_nn
 have hp:=Lp.plus (heft_lp gx) (heft_lp gy)
 have qx:=Bd.qheft (gD_pos 64) (good_qb gx)
 have qy:=Bd.qheft (gD_pos 64) (good_qb gy)
 obtain⟨n,e,h1,h2⟩:=(qx.plus qy).n
 obtain⟨k,f,g1,g2⟩:=(p2.minus p1).n
 have n0:0<n:=by
  have:0<n*(Zd0 x.heft y.heft).2:=by rw[←e];exact Int.mul_pos hp.t (gD_pos 64)
  exact Int.pos_of_mul_pos_left this hp.lw.b
 have hd:=Lw.minus (Lw.times hr.b (heft_lp gy).lw.b).b (Lw.times hl.b (heft_lp gx).lw.b).b
 have q:Qb (2116800*n) (200*BB) (lvl l x.heft r y.heft):=by
  unfold lvl
  refine Qb.low (n:=k) (Int.mul_pos hd.b hp.t) ?_ ?_ ?_
  ·generalize Zc8 (Zb1 r y.heft) (Zb1 l x.heft)=dd at f
   generalize Zd0 x.heft y.heft=s at e
   rw[show dd.1*s.2*(2116800*n)=dd.1*2116800*(n*s.2) by ac_rfl,←e,show dd.1*2116800*(s.1*gD 64)=(dd.1*(gD 64*2116800))*s.1 by ac_rfl]
   show dd.1*DD*s.1=_
   rw[f];ac_rfl
  ·have:(y.nw:Int)*BB+x.nw*BB<=200*BB:=by rw[←Int.add_mul];exact Int.mul_le_mul_of_nonneg_right ∅ BB0
   omega
  ·have:(y.nw:Int)*BB+x.nw*BB<=200*BB:=by rw[←Int.add_mul];exact Int.mul_le_mul_of_nonneg_right ∅ BB0
   omega
 refine q.small (Int.mul_pos ⋯ n0) ?_ (by ac_nf)
 have h3:(x.nw:Int)*(gT 64*gD 64)+y.nw*(gT 64*gD 64)<=200*(gT 64*gD 64):=by rw[←Int.add_mul];exact Int.mul_le_mul_of_nonneg_right ∅ gg_nn
 have h4:2116800*(200*(gT 64*gD 64))<2 ^ 1400:=by ac_nf
 omega
theorem lvl_pos {l x r y:Fr}(hl:Lp l) (hr:Lp r) (hx:Lp x) (hy:Lp y):0<(Zd0 l (lvl l x r y)).1/\0<(Zc8 r (lvl l x r y)).1:=by
 have hv:=lvl_lw hl hr hx hy
 have a1:=Lw.plus hl.lw.b hv.b
 have a2:=Lw.minus hr.lw.b hv.b
 have hs:=sum_ne hx hy
 have pl:=(rq_pos hl.lw).mpr hl.t
 have pr:=(rq_pos hr.lw).mpr hr.t
 have px:=(rq_pos hx.lw).mpr hx.t
 have py:=(rq_pos hy.lw).mpr hy.t
 have ps:0<rq x+rq y:=by grind
 have plr:0<rq l+rq r:=by grind
 have pi:=Rat.inv_pos.mpr ps
 constructor
 ·rw[←rq_pos a1,rq_plus hl.lw.b hv.b,rq_lvl hl hr hx hy]
  have e:rq l+(rq r*rq y-rq l*rq x) / (rq x+rq y)=(rq y*(rq l+rq r))*(rq x+rq y)⁻¹:=by rw[Rat.div_def];grind
  rw[e]
  exact Rat.mul_pos (Rat.mul_pos py plr) pi
 ·rw[←rq_pos a2,rq_minus hr.lw.b hv.b,rq_lvl hl hr hx hy]
  have e:rq r-(rq r*rq y-rq l*rq x) / (rq x+rq y)=(rq x*(rq l+rq r))*(rq x+rq y)⁻¹:=by rw[Rat.div_def];grind
  rw[e]
  exact Rat.mul_pos (Rat.mul_pos px plr) pi
end RtM
namespace RtM
open FrM MoM
def Sz (l r:Fr):Prop:=∃ p q s:Int,0<p/\p<=4/\0<q/\q<=4/\0<s/\l=low p s/\r=low q s
theorem Sz.swap {l r:Fr}(h:Sz l r):Sz r l:=let ⟨p,q,s,a,b,c,d,e,f,g⟩:=h;⟨q,p,s,c,d,a,b,e,g,f⟩
theorem part_eq {x l r:Fr}{p q s:Int}(hx:0<x.2) (p0:0<p) (q0:0<q) (s0:0<s) (hl:l=low p s) (hr:r=low q s):fover (Zb1 x r) (Zd0 l r)=low (x.1*q) (x.2*(p+q)):=by
 subst hl hr
 have l1:=low_pos p0 s0
 have r1:=low_pos q0 s0
 have hp:0<(Zd0 (low p s) (low q s)).1:=(low_pos (Int.add_pos (Int.mul_pos l1.1 r1.2) (Int.mul_pos r1.1 l1.2)) (Int.mul_pos l1.2 r1.2)).1
 have hb:=(Lw.plus l1.2 r1.2).b
 have ht:=(Lw.times (x:=x) hx r1.2).b
 have n1:x.2*(p+q)≠0:=Int.ne_of_gt (Int.mul_pos hx ∅)
 refine Lw.ext (Lw.over ht hp) (Lw.low n1) ?_
 rw[rq_over ht hb (Int.ne_of_gt hp),rq_times hx r1.2,rq_plus l1.2 r1.2,rq_low (Int.ne_of_gt s0),rq_low (Int.ne_of_gt s0),rq_low n1]
 have c1:=cast_ne (Int.ne_of_gt s0)
 have c2:=cast_ne (Int.ne_of_gt hx)
 have c3:=cast_ne (show p+q≠0 by omega)
 unfold rq
 simp only[Rat.intCast_mul,Rat.intCast_add] at c3 ⊢
 grind
theorem fplus_comm (x y:Fr):Zd0 x y=Zd0 y x:=by
 unfold Zd0
 rw[Int.add_comm,Int.mul_comm x.2]
theorem Am.part2 {k:Nat}{x l r:Fr}(hx:Am k x) (hz:Sz l r):Am (k+1) (fover (Zb1 x r) (Zd0 l r)):=by
 obtain⟨p,q,s,p0,p1,q0,q1,s0,hl,hr⟩:=hz
 rw[part_eq hx.b p0 q0 s0 hl hr]
 have a0:=Int.mul_pos hx.t q0
 have b0:=Int.mul_pos hx.b (show 0<p+q by omega)
 have hp:=low_pos a0 b0
 have g0:=gT_pos k
 have e:=gT_succ k
 have t1:=low_top a0 b0
 have t2:=low_bot (a:=x.1*q) b0
 have m1:=Int.mul_le_mul hx.s q1 (Int.le_of_lt q0) (Int.le_of_lt g0)
 have m2:=Int.mul_le_mul hx.l (show p+q<=8 by omega) ∅ (Int.le_of_lt g0)
 refine⟨hp.1,hp.2,?_,by omega,by omega,low_gcd (Int.ne_of_gt b0)⟩
 rw[gD_succ]
 refine Int.dvd_trans (low_dvd (Int.ne_of_gt b0)) (Int.mul_dvd_mul hx.d ?_)
 have:p+q=2\/p+q=3\/p+q=4\/p+q=5\/p+q=6\/p+q=7\/p+q=8:=by omega
 rcases this with h | h | h | h | h | h | h <;> rw[h] <;> decide
end RtM
set_option maxHeartbeats 4000000
namespace L2
open PySem PySem.Spec PyProof.Rows MoM
section
variable {X:Cx}{pins:List (Addr×Obj)}{σ:St}{H:Hp}{s:Shared}
theorem eq_frV {A:Around}(hu:A.units<cLine) (I:Inv X pins σ H s) {x y:V}{v u:Value}{f g:Fr}(hx:FrV H x f) (hy:FrV H y g) (rx:RelV x v) (ry:RelV y u):SeqAt.EqAt A s v u (decide (f=g)):=by
 obtain⟨p,rfl,hp⟩:=hx
 obtain⟨q,rfl,hq⟩:=hy
 cases rx
 cases ry
 have:=eq_fr hu I hp hq
 have e:decide (f=g)=decide (f.1=g.1/\f.2=g.2):=by rw[decide_eq_decide,Prod.ext_iff]
 rw[e]
 exact this
def rCount:V->List V->Hp->VK->Prop:=fun x xs H Q=>∃ l us fs y f,x = .ref l/\xs=[y]/\H l=some (.lst us)/\Paired (FrV H) us fs/\FrV H y f/\Q (.int (fs.countP fun g=>decide (g=f):Nat)) H
theorem mt_count (hu:X.A.units+64<cLine):MtR X "list.count" rCount:=by
 intro pins s σ H x xs v us Q I rx rv h
 obtain⟨l,vs,fs,y,f,rfl,rfl,hl,hP,hy,q⟩:=h
 cases rx
 obtain⟨u,rfl,ru⟩:=vals1 rv
 obtain⟨z,its,n,r,hlen,e⟩:=I.lstM hl
 have fr1:∀ {x:V} {v:Value} {g:Fr},FrV H x g->RelV x v->∃ p,v = .ref p/\H p=some (.tup [.int g.1,.int g.2]):=fun {x v g} h rr=>by
  obtain⟨p,rfl,hp⟩:=h
  cases rr
  exact⟨p,rfl,hp⟩
 let ef:Value->Bool:=fun v=>match v with
  | .ref p=>(match H p with | some (.tup [.int a,.int b])=>decide (((a,b):Fr)=f) | _=>false)
  | _=>false
 have efv:∀ {x:V} {v:Value} {g:Fr},FrV H x g->RelV x v->ef v=decide (g=f):=fun {x v g} h rr=>by
  obtain⟨p,rfl,hp⟩:=fr1 h rr
  show (match H p with | some (.tup [.int a,.int b])=>decide (((a,b):Fr)=f) | _=>false)=_
  rw[hp]
 have hcnt:its.countP ef=fs.countP fun g=>decide (g=f):=by
  clear q hl hlen e z rv
  induction r generalizing fs with
  | nil=>cases hP;rfl
  | cons r1 r ih=>
   cases hP with
   | cons h1 hP=>rw[List.countP_cons,List.countP_cons,ih _ hP,efv h1 r1]
 refine call_meets PySem.F.slot_list_count ⟨_,e,rfl⟩ PySem.F.entry_list_count (PySem.F.args_list_count_2 _ _) (SeqAt.list_countAt l its.toArray n none #[] u ef) ⟨e,fun v hv=>?_,?_⟩
 ·obtain⟨j,hj⟩:=List.mem_iff_getElem?.mp (show v∈its by simpa using hv)
  have hjl:j<its.length:=(List.getElem?_eq_some_iff.mp hj).1
  have l1:=r.length
  have e1:vs[j]? = some vs[j]:=List.getElem?_eq_getElem ∅
  obtain⟨v1,g1,g2⟩:=r.get e1
  rw[hj] at g1
  cases g1
  obtain⟨g,f1,f2⟩:=paired_get hP e1
  rw[efv f2 g2]
  exact eq_frV (by show X.A.units+1<cLine;omega) I f2 hy g2 ru
 ·refine⟨.int (fs.countP fun g=>decide (g=f):Nat),H,I.tok _,⟨s.toks,?_⟩,q⟩
  show Value.int (its.toArray.toList.countP ef:Nat) s.toks=_
  rw[List.toList_toArray,hcnt]
end
end L2
namespace L2
open PySem PySem.Spec PyProof.Rows MoM
section
variable {X:Cx}
end
end L2
set_option maxHeartbeats 4000000
namespace L2
open PySem PySem.Spec PyProof.Rows MoM
section
variable {X:Cx}{pins:List (Addr×Obj)}{σ:St}{H:Hp}{s:Shared}
end
end L2
namespace L2
open PySem PySem.Spec PyProof.Rows MoM
end L2
set_option maxHeartbeats 4000000
namespace L2
open PySem PySem.Spec PyProof.Rows MoM
section
variable {prog:Program}{w:World}{A:Around}{E:Value->Shared->Prop}{s:Shared}
section
variable {K:Type} [DecidableEq K] {knd:KeyKind prog w K}
end
end
section
variable {X:Cx}{pins:List (Addr×Obj)}{σ:St}{H:Hp}{s:Shared}
end
end L2
namespace L2
open PySem PySem.Spec PyProof.Rows MoM
section
variable {X:Cx}
end
end L2
set_option maxHeartbeats 4000000
namespace L2
open PySem PySem.Spec PyProof.Rows MoM
section
variable {X:Cx}{pins:List (Addr×Obj)}{σ:St}{H:Hp}{s:Shared}
def rEqNil (K:PySem.W.Frag):R2:=fun x y H Q=>∃ p q us,x = .ref p/\y = .ref q/\SqL K H p us/\SqL K H q []/\Q (.bl us.isEmpty) H
theorem op_eqNil {K:PySem.W.Frag}(h:X.K=K) (hu:X.A.units+1<cLine):OpR X (compareOp .Eq) (rEqNil K):=by
 subst h
 intro pins s σ H x y v u Q I rx ry h
 obtain⟨p,q,us,rfl,rfl,hp,hq,k⟩:=h
 cases rx
 cases ry
 obtain⟨its,r,pl,_⟩:=I.list hp
 obtain⟨its',r',pl',_⟩:=I.list hq
 cases r'
 cases us with
 | nil=>
  cases r
  have:=SeqAt.RcAt.lists (A:=X.A) (e:=fun _=>true) pl.isList pl'.isList rfl ∅ (fun j z1 z2=>by simp at z1)
  exact this X.prog X.w X.xe _ (fin_bl I k rfl)
 | cons a us=>
  have l1:us.length+1=its.length:=r.length
  refine SeqAt.RcAt.lists_lengths pl.isList pl'.isList (by simp only[List.size_toArray,List.length_nil,bne_iff_ne];omega) ∅ X.prog X.w X.xe _ (fin_bl I k rfl)
def TrV (H:Hp) (v:V) (e:Str×Str×Fr):Prop:=∃ a u,v = .ref a/\H a=some (.tup [.str e.1,.str e.2.1,u])/\FrV H u e.2.2
def rEqDeeds (K:PySem.W.Frag):R2:=fun x y H Q=>∃ p q us vs es,x = .ref p/\y = .ref q/\SqL K H p us/\SqL K H q vs/\Paired (TrV H) us es/\Paired (TrV H) vs es/\Q (.bl true) H
theorem eq_tr {A:Around}(hu:A.units+3<cLine) (I:Inv X pins σ H s) {x y:V}{v u:Value}{e:Str×Str×Fr}(hx:TrV H x e) (hy:TrV H y e) (rx:RelV x v) (ry:RelV y u):SeqAt.EqAt A s v u true:=by
 obtain⟨a,z,rfl,ha,⟨p,rfl,hp⟩⟩:=hx
 obtain⟨b,z',rfl,hb,⟨q,rfl,hq⟩⟩:=hy
 cases rx
 cases ry
 by_cases e1:a=b
 ·subst e1;exact SeqAt.EqAt.same _
 refine .of_refs e1 ?_
 obtain⟨its,r,pl,_⟩:=I.tuple (SqT.of ha)
 obtain⟨its',r',pl',_⟩:=I.tuple (SqT.of hb)
 obtain⟨t,t2,e2⟩:∃ t t2,its=[.str e.1 t,.str e.2.1 t2,.ref p]:=by
  cases r with
  | cons r1 r=>cases r with | cons r2 r=>cases r with | cons r3 r=>cases r;cases r3;obtain⟨t,rfl⟩:=r1;obtain⟨t2,rfl⟩:=r2;exact⟨t,t2,rfl⟩
 obtain⟨t',t2',e3⟩:∃ t t2,its'=[.str e.1 t,.str e.2.1 t2,.ref q]:=by
  cases r' with
  | cons r1 r=>cases r with | cons r2 r=>cases r with | cons r3 r=>cases r;cases r3;obtain⟨t,rfl⟩:=r1;obtain⟨t2,rfl⟩:=r2;exact⟨t,t2,rfl⟩
 subst e2
 subst e3
 have:=SeqAt.RcAt.tuples (A:=A) (e:=fun _=>true) pl pl' ∅ (fun j g1 g2=>by
  match j,g1 with
  | 0,_=>
   have:=SeqAt.EqAt.str_str (A:=A.in1) (s:=s) e.1 t e.1 t'
   rw[beq_self_eq_true] at this
   exact this
  | 1,_=>
   have:=SeqAt.EqAt.str_str (A:=A.in1) (s:=s) e.2.1 t2 e.2.1 t2'
   rw[beq_self_eq_true] at this
   exact this
  | 2,_=>
   have:=eq_fr (A:=A.in1) (by show A.units+1<cLine;omega) I hp hq
   simpa using this)
 have e:((List.range (min 3 3)).all (fun _=>true)&&(3:Nat)==3)=true:=by decide
 rw[←e];exact this
theorem op_eqDeeds {K:PySem.W.Frag}(h:X.K=K) (hu:X.A.units+64<cLine):OpR X (compareOp .Eq) (rEqDeeds K):=by
 subst h
 intro pins s σ H x y v u Q I rx ry h
 obtain⟨p,q,us,vs,es,rfl,rfl,hp,hq,h1,h2,k⟩:=h
 cases rx
 cases ry
 obtain⟨its,r,pl,_⟩:=I.list hp
 obtain⟨its',r',pl',_⟩:=I.list hq
 have l1:=r.length
 have l2:=r'.length
 have l3:=h1.length
 have l4:=h2.length
 have:=SeqAt.RcAt.lists (A:=X.A) (e:=fun _=>true) pl.isList pl'.isList (by simp;omega) ∅ (fun j z1 z2=>by
  simp only[List.size_toArray] at z1 z2
  have e1:us[j]? = some us[j]:=List.getElem?_eq_getElem ∅
  have e2:vs[j]? = some vs[j]:=List.getElem?_eq_getElem ∅
  obtain⟨e,f1,f2⟩:=paired_get h1 e1
  obtain⟨e',f3,f4⟩:=paired_get h2 e2
  rw[f1] at f3
  cases f3
  obtain⟨v1,g1,g2⟩:=r.get e1
  obtain⟨v2,g3,g4⟩:=r'.get e2
  have x1:its.toArray[j]=v1:=by
   have:its[j]? = some its[j]:=List.getElem?_eq_getElem ∅
   rw[this] at g1
   simpa using Option.some.inj g1
  have x2:its'.toArray[j]=v2:=by
   have:its'[j]? = some its'[j]:=List.getElem?_eq_getElem ∅
   rw[this] at g3
   simpa using Option.some.inj g3
  rw[x1,x2]
  exact eq_tr (A:=X.A.in1) (by show X.A.units+1+3<cLine;omega) I f2 f4 g2 g4)
 refine this X.prog X.w X.xe _ (fin_bl I k ?_)
 simp
end
end L2
set_option maxHeartbeats 4000000
set_option hygiene false
local macro_rules | `(tactic| walk_at "vc") => `(tactic| simp only [L2.tAsg, L2.tRet, L2.tOp, L2.tUn, L2.tTest, L2.tVar, L2.tC, L2.gName, L2.gSub, L2.rI, L2.rI0, L2.rU, L2.rNe, L2.rEq, L2.tIfS, L2.tNext, L2.tCall, L2.tCons, L2.tNil, L2.tTup, L2.tLst, L2.tCB, L2.tB, L2.tNot, L2.tNotV, L2.tAnd, L2.tOr, L2.tAndV, L2.tOrV, L2.tDrop, L2.tRaise, L2.tTry, L2.tTry0, L2.start, L2.capS, L2.tFld_def, L2.sFld_def, L2.tDyn, L2.tMake_def, L2.tBM, L2.tDisp, L2.tPairs, L2.tComp, L2.iList, L2.iRev, L2.iDict, L2.tFor_def, L2.tDGet_def, L2.sDPut_def, L2.tDNotIn_def, L2.tSl, L2.tPart, L2.tNoPart, List.map_cons, List.map_nil, List.length_cons, List.length_nil, List.replicate, List.cons_append, List.nil_append, List.append_nil, Nat.zero_add, Nat.reduceAdd, Nat.reduceSub, List.getElem?_cons_zero, List.getElem?_cons_succ, List.set_cons_zero, List.set_cons_succ, Option.some.injEq, Option.join_some, L2.V.int.injEq, L2.V.bl.injEq, L2.V.ref.injEq, L2.V.str.injEq, exists_eq_left, exists_eq_left', exists_eq', exists_eq, and_true, true_and, List.cons.injEq, and_assoc, exists_and_left, exists_and_right, L2.scal_int, L2.scal_bl, L2.scal_str, decide_eq_true_eq, decide_eq_false_iff_not, Bool.not_eq_true', Bool.not_true, Bool.not_false, Bool.false_eq_true, Bool.true_eq_false, if_true, if_false, reduceIte, decide_true, decide_false, Int.cast_ofNat_Int, eq_self, not_true_eq_false, not_false_eq_true, Int.reduceEq, Int.reduceLT, Int.zero_add, L2.tFstr, L2.iZip, L2.gTup, L2.gCons, L2.gNil])
local macro_rules | `(tactic| walk_at "go") => `(tactic| repeat (first | (refine L2.fr0 (by assumption) ?_) | (refine L2.fr1 (by assumption) ?_) | (refine hRst _ _ ?_; clear hRst; try clear Rst) | (refine L2.seq_k fun Rst hRst => ?_) | walk_at "vc"))
local macro_rules | `(tactic| walk_at "gm") => `(tactic| repeat (first | (refine L2.fr0 (by assumption) ?_) | (refine L2.fr1 (by assumption) ?_) | (refine And.intro (L2.mulOkS (by assumption) (by assumption) ⋯) ?_) | (refine hRst _ _ ?_; clear hRst; try clear Rst) | (refine L2.seq_k fun Rst hRst => ?_) | walk_at "vc"))
local macro_rules | `(tactic| walk_at "st") => `(tactic| simp only [L2.gName, L2.start, List.map_cons, List.map_nil, List.length_cons, List.length_nil, List.replicate, List.cons_append, List.nil_append, List.append_nil, Nat.zero_add, Nat.reduceAdd, Nat.reduceSub, List.set_cons_zero, List.set_cons_succ])
local macro_rules | `(tactic| k_one) => `(tactic| repeat (first | (refine hRst _ _ ?_; clear hRst; try clear Rst) | (refine L2.seq_k fun Rst hRst => ?_) | walk_at "vc"))
namespace K9
open PySem PySem.Spec PyProof.Rows L2 FrM MoM TxM RtM
def top (i:Nat):Stmt:=PySem.Challenge.pw_hangmobile_k09_whole_mends.main.body.getD i (.Pass ⟨0,0,0,0⟩)
def Zc5 (st:Stmt) (i:Nat):Stmt:=match st with
 | .ClassDef _ _ _ body _ _ _ _ _ _ _=>body.getD i (.Pass ⟨0,0,0,0⟩)
 | _=>.Pass ⟨0,0,0,0⟩
set_option genInjectivity false in
set_option genSizeOfSpec false in
structure Adr (K:PySem.W.Frag) (mg:Str->Option Value):Type where
 c_MobileError:Addr
 c_NoNumber:Addr
 c_NoPlace:Addr
 c_NoText:Addr
 c_Hung:Addr
 c_Weight:Addr
 c_Rod:Addr
 c_Reader:Addr
 k_NOUGHT:Addr
 tk_FIGURES:Tok
 g_MobileError:mg "MobileError" = some (.ref c_MobileError)
 g_NoNumber:mg "NoNumber" = some (.ref c_NoNumber)
 g_NoPlace:mg "NoPlace" = some (.ref c_NoPlace)
 g_NoText:mg "NoText" = some (.ref c_NoText)
 g_Hung:mg "Hung" = some (.ref c_Hung)
 g_Weight:mg "Weight" = some (.ref c_Weight)
 g_Rod:mg "Rod" = some (.ref c_Rod)
 g_Reader:mg "Reader" = some (.ref c_Reader)
 g_NOUGHT:mg "NOUGHT" = some (.ref k_NOUGHT)
 q_NOUGHT:∀ H:Hp,SqT K H k_NOUGHT [.int 0,.int 1]
 g_FIGURES:mg "FIGURES" = some (.str "0123456789" tk_FIGURES)
 x_MobileError:ExcCls K c_MobileError
 x_NoNumber:ExcCls K c_NoNumber
 x_NoPlace:ExcCls K c_NoPlace
 x_NoText:ExcCls K c_NoText
 l_Weight:Cls K c_Weight
 l_Rod:Cls K c_Rod
 l_Reader:Cls K c_Reader
 ne_WR:c_Weight≠c_Rod
 a_amount:NoAttr K c_Weight "amount"
 a_left_arm:NoAttr K c_Rod "left_arm"
 a_left:NoAttr K c_Rod "left"
 a_right_arm:NoAttr K c_Rod "right_arm"
 a_right:NoAttr K c_Rod "right"
 a_text:NoAttr K c_Reader "text"
 a_spot:NoAttr K c_Reader "spot"
 y_Weight:∀ {H:Hp} {a dx:Addr} {fs:List (Str×V)},H a=some (.ins c_Weight dx fs)->TyOf K H (.ref a) (.ref c_Weight)
 y_Rod:∀ {H:Hp} {a dx:Addr} {fs:List (Str×V)},H a=some (.ins c_Rod dx fs)->TyOf K H (.ref a) (.ref c_Rod)
 n_abs:mg "abs" = none
 n_len:mg "len" = none
 n_isinstance:mg "isinstance" = none
 n_int:mg "int" = none
 n_bool:mg "bool" = none
 n_tuple:mg "tuple" = none
 n_str:mg "str" = none
 n_list:mg "list" = none
 n_sorted:mg "sorted" = none
 n_reversed:mg "reversed" = none
 n_zip:mg "zip" = none
 n_range:mg "range" = none
 n_dict:mg "dict" = none
 t_WW:PySem.W.kitOne K (.ref c_Weight) (.ref c_Weight)=some true
 t_WR:PySem.W.kitOne K (.ref c_Weight) (.ref c_Rod)=some false
 t_RW:PySem.W.kitOne K (.ref c_Rod) (.ref c_Weight)=some false
 t_RR:PySem.W.kitOne K (.ref c_Rod) (.ref c_Rod)=some true
 t_ii:PySem.W.kitOne K (.type "int") (.type "int")=some true
 t_ib:PySem.W.kitOne K (.type "int") (.type "bool")=some false
 t_tt:PySem.W.kitOne K (.type "tuple") (.type "tuple")=some true
 t_ll:PySem.W.kitOne K (.type "list") (.type "list")=some true
 t_ss:PySem.W.kitOne K (.type "str") (.type "str")=some true
 t_bb:PySem.W.kitOne K (.type "bool") (.type "bool")=some true
def Adr.v_FIGURES {K:PySem.W.Frag}{mg:Str->Option Value}(_:Adr K mg):Str:="0123456789"
section
variable {P:Program}{w:World}{K:PySem.W.Frag}{mg:Str->Option Value}{base:Heap}
def sp_cd:Sp:=fun vs H Q _=>∃ a b:Int,vs=[.int a,.int b]/\0<=a/\0<=b/\Q (.int (Int.gcd a b)) H
theorem sc_common_divisor:Zb0 ["one","other","rest"] ["one","other"] (Za6 (top 6)):=nofun
theorem ok_common_divisor {f:Addr}{fd:FuncData}(F:Fun K "common_divisor" "common_divisor" (top 6) f fd):FnOk P w K mg base (CX1 P w) 1 f fd ["one","other"] sp_cd:=by
 have S:=sc_common_divisor
 k_head
 ·obtain⟨a,b,rfl,_⟩:=h
  rfl
 ·obtain⟨a,b,rfl,ha,hb,k⟩:=h
  refine⟨_,(Za1 (ps_while PassesOwn.never (Zb7 op_ne (pv 1) Za3 (Zc6 _)) (Za1 (Zb4 (i:=2) S.nd rfl (Or.inl rfl) (Zc0 op_mod (pv 0) (pv 1)))
   (Za1 (Zb4 (i:=0) S.nd rfl (Or.inl rfl) (pv 1))
   (Za5 (Zb4 (i:=1) S.nd rfl (Or.inl rfl) (pv 2))))))
   (Za5 (Za9 (pv 0)))),?_⟩
  refine while_k (fun σ H'=>∃ x y r,σ=[some (.int x),some (.int y),r]/\0<=x/\0<=y/\Int.gcd x y=Int.gcd a b/\H'=H) (fun σ _=>match σ with | [_,some (.int y),_]=>y.toNat | _=>0) ⟨a,b,none,rfl,ha,hb,rfl,rfl⟩ ?_
  rintro _ _ K' ⟨x,y,r,rfl,hx,hy,hg,rfl⟩ kt kf
  k_one
  by_cases h0:y=0
  ·subst h0
   simp only[decide_true,Bool.not_true]
   refine kf _ ?_
   k_one
   rw[Int.gcd_zero_right] at hg
   have:(x.natAbs:Int)=x:=by omega
   rw[←hg,this] at k
   exact k
  ·simp only[h0,decide_false,Bool.not_false]
   refine kt _ ?_
   k_one
   have hy':0<y:=by omega
   refine⟨hy',?_⟩
   k_one
   k_one
   exact⟨hy,Int.emod_nonneg x h0,(gcd_turn hx).trans hg,toNat_mod hy'⟩
def sp_fraction (N:Addr):Sp:=fun vs H Q E=>∃ a b:Int,vs=[.int a,.int b]/\(b=0->E (.ref N) none H)/\(b≠0->Sm 8999 b/\∀ v H',Same H H'->FrAt H' v (nt a b) (nb a b)->Q v H')
theorem sc_fraction:Zb0 ["top","bottom","divisor"] ["top","bottom"] (Za6 (top 7)):=nofun
theorem ok_fraction (A:Adr K mg) {f:Addr}{fd:FuncData}(F:Fun K "fraction" "fraction" (top 7) f fd) (F_common_divisor:Fnc P w K mg base "common_divisor" 1 ["one","other"] [] sp_cd) :
  FnOk P w K mg base (CX1 P w) 2 f fd ["top","bottom"] (sp_fraction A.c_NoNumber):=by
 have S:=sc_fraction
 w_on
 ·obtain⟨a,b,rfl,_⟩:=h
  rfl
 ·obtain⟨a,b,rfl,h0,h1⟩:=h
  have hr_common_divisor:Room 1 _:=hr.mono ⋯
  refine⟨_,(Za1 (ps_if (Zb7 op_eq (pv 1) Za3 (Zc6 _)) (Za5 (ps_raise raises_cx hr.hd A.x_NoNumber rfl A.g_NoNumber Zc7)) Zb9)
   (Za1 (Zb4 (i:=2) S.nd rfl (Or.inl rfl) (Zc1 F_common_divisor hr_common_divisor Zb2 (Za0 (Zc3 call_abs (by rfl) A.n_abs bt_abs (Za0 (pv 0) Za2)) (Za0 (Zc3 call_abs (by rfl) A.n_abs bt_abs (Za0 (pv 1) Za2)) Za2))))
   (Za1 (ps_if (Zb7 op_lt (pv 1) Za3 (Zc6 _)) (Za5 (Zb4 (i:=2) S.nd rfl (Or.inl rfl) (pe_un un_neg (pv 2)))) Zb9)
   (Za5 (Za9 (pe_tup (Za0 (Zc0 op_fdivG (pv 0) (pv 2)) (Za0 (Zc0 op_fdivG (pv 1) (pv 2)) Za2)))))))),?_⟩
  k_one
  by_cases hb:b=0
  ·simp only[hb,if_true]
   exact h0 hb
  ·simp only[hb,if_false]
   obtain⟨hs,k⟩:=h1 hb
   have hsd:CFdN a (sd a b):=⟨sd_ne hb,Sm.log2 (n:=9000) (by
    have:=gcd_le (a:=a) hb
    unfold Sm at *
    rw[sd_abs]
    exact Nat.lt_of_le_of_lt this (Nat.lt_trans hs (by ac_nf))) (sd_ne hb)⟩
   k_one
   refine⟨_,_,rfl,?_,?_,?_⟩
   ·rw[abs_if];omega
   ·rw[abs_if];omega
   ·rw[abs_if,abs_if]
    k_one
    have eg:(((a.natAbs:Int).gcd (b.natAbs:Int):Nat):Int)=(Int.gcd a b:Int):=by
     show ((Nat.gcd (a.natAbs:Int).natAbs (b.natAbs:Int).natAbs:Nat):Int)=_
     rw[Int.natAbs_natCast,Int.natAbs_natCast]
     rfl
    rw[eg]
    have fin:CFdN a (sd a b)/\CFdN b (sd a b)/\([V.int (a.fdiv (sd a b)),V.int (b.fdiv (sd a b))]:List V).length<=sizeLine/\∀ p,H p=none->Q (V.ref p) (upd H p (.tup [V.int (a.fdiv (sd a b)),V.int (b.fdiv (sd a b))])):=
     ⟨hsd,hsd,by show 2<=sizeLine;decide,fun p hp=>k _ _ (Za7 hp) ⟨p,rfl,Za4⟩⟩
    by_cases hn:b<0
    ·have e:sd a b = -(Int.gcd a b:Int):=if_pos hn
     rw[e] at fin
     simp only[hn,if_true]
     k_one
     exact fin
    ·have e:sd a b=(Int.gcd a b:Int):=if_neg hn
     rw[e] at fin
     simp only[hn,if_false]
     k_one
     exact fin
def sp_two (N:Addr) (t u:Int->Int->Int->Int->Int):Sp:=fun vs H Q E=>∃ x y a b c d,vs=[x,y]/\FrAt H x a b/\FrAt H y c d/\Sm 4000 a/\Sm 4000 b/\Sm 4000 c/\Sm 4000 d/\sp_fraction N [.int (t a b c d),.int (u a b c d)] H Q E
abbrev sp_plus (N:Addr):Sp:=sp_two N (fun a b c d=>a*d+c*b) (fun _ b _ d=>b*d)
theorem sc_plus:Zb0 ["one","other"] ["one","other"] (Za6 (top 8)):=nofun
theorem ok_plus (A:Adr K mg) {f:Addr}{fd:FuncData}(F:Fun K "plus" "plus" (top 8) f fd) (F_fraction:Fnc P w K mg base "fraction" 2 ["top","bottom"] [] (sp_fraction A.c_NoNumber)) :
  FnOk P w K mg base (CX1 P w) 3 f fd ["one","other"] (sp_plus A.c_NoNumber):=by
 have S:=sc_plus
 w_on
 ·obtain⟨x,y,a,b,c,d,rfl,_⟩:=h
  rfl
 ·obtain⟨x,y,a,b,c,d,rfl,hx,hy,ha,hb,hc,hd,k⟩:=h
  have hr_fraction:Room 2 _:=hr.mono ⋯
  refine⟨_,(Za5 (Za9 (Zc1 F_fraction hr_fraction Zb2 (Za0 (Zc0 op_add (Zc0 op_mulB (Zb6 (ixT (K:=K) rfl) (pv 0) Za3 (fun _ _=>rfl)) (Zb6 (ixT (K:=K) rfl) (pv 1) Za3 (fun _ _=>rfl))) (Zc0 op_mulB (Zb6 (ixT (K:=K) rfl) (pv 1) Za3 (fun _ _=>rfl)) (Zb6 (ixT (K:=K) rfl) (pv 0) Za3 (fun _ _=>rfl)))) (Za0 (Zc0 op_mulB (Zb6 (ixT (K:=K) rfl) (pv 0) Za3 (fun _ _=>rfl)) (Zb6 (ixT (K:=K) rfl) (pv 1) Za3 (fun _ _=>rfl))) Za2))))),?_⟩
  walk_at "gm"
  exact k
theorem plus_ok {N:Addr}{H:Hp}{x y:V}{f g:Fr}{Q:VK}{E:XK}(hx:FrV H x f) (hy:FrV H y g) (f0:0<f.2) (g0:0<g.2) (s1:Sm 4000 f.1) (s2:Sm 4000 f.2) (s3:Sm 4000 g.1) (s4:Sm 4000 g.2)
  (k:∀ v H',Same H H'->FrV H' v (Zd0 f g)->Q v H'):sp_plus N [x,y] H Q E:=
 ⟨x,y,f.1,f.2,g.1,g.2,rfl,hx,hy,s1,s2,s3,s4,_,_,rfl,fun z=>absurd z (Int.ne_of_gt (Int.mul_pos f0 g0)),fun _=>⟨(Sm.mul s2 s4).mono ⋯,k⟩⟩
abbrev sp_times (N:Addr):Sp:=sp_two N (fun a _ c _=>a*c) (fun _ b _ d=>b*d)
theorem sc_times:Zb0 ["one","other"] ["one","other"] (Za6 (top 10)):=nofun
theorem ok_times (A:Adr K mg) {f:Addr}{fd:FuncData}(F:Fun K "times" "times" (top 10) f fd) (F_fraction:Fnc P w K mg base "fraction" 2 ["top","bottom"] [] (sp_fraction A.c_NoNumber)) :
  FnOk P w K mg base (CX1 P w) 3 f fd ["one","other"] (sp_times A.c_NoNumber):=by
 have S:=sc_times
 w_on
 ·obtain⟨x,y,a,b,c,d,rfl,_⟩:=h
  rfl
 ·obtain⟨x,y,a,b,c,d,rfl,hx,hy,ha,hb,hc,hd,k⟩:=h
  have hr_fraction:Room 2 _:=hr.mono ⋯
  refine⟨_,(Za5 (Za9 (Zc1 F_fraction hr_fraction Zb2 (Za0 (Zc0 op_mulB (Zb6 (ixT (K:=K) rfl) (pv 0) Za3 (fun _ _=>rfl)) (Zb6 (ixT (K:=K) rfl) (pv 1) Za3 (fun _ _=>rfl))) (Za0 (Zc0 op_mulB (Zb6 (ixT (K:=K) rfl) (pv 0) Za3 (fun _ _=>rfl)) (Zb6 (ixT (K:=K) rfl) (pv 1) Za3 (fun _ _=>rfl))) Za2))))),?_⟩
  walk_at "gm"
  exact k
abbrev sp_minus (N:Addr):Sp:=sp_two N (fun a b c d=>a*d-c*b) (fun _ b _ d=>b*d)
theorem sc_minus:Zb0 ["one","other"] ["one","other"] (Za6 (top 9)):=nofun
theorem ok_minus (A:Adr K mg) {f:Addr}{fd:FuncData}(F:Fun K "minus" "minus" (top 9) f fd) (F_fraction:Fnc P w K mg base "fraction" 2 ["top","bottom"] [] (sp_fraction A.c_NoNumber)) :
  FnOk P w K mg base (CX1 P w) 3 f fd ["one","other"] (sp_minus A.c_NoNumber):=by
 have S:=sc_minus
 w_on
 ·obtain⟨x,y,a,b,c,d,rfl,_⟩:=h
  rfl
 ·obtain⟨x,y,a,b,c,d,rfl,hx,hy,ha,hb,hc,hd,k⟩:=h
  have hr_fraction:Room 2 _:=hr.mono ⋯
  refine⟨_,(Za5 (Za9 (Zc1 F_fraction hr_fraction Zb2 (Za0 (Zc0 op_sub (Zc0 op_mulB (Zb6 (ixT (K:=K) rfl) (pv 0) Za3 (fun _ _=>rfl)) (Zb6 (ixT (K:=K) rfl) (pv 1) Za3 (fun _ _=>rfl))) (Zc0 op_mulB (Zb6 (ixT (K:=K) rfl) (pv 1) Za3 (fun _ _=>rfl)) (Zb6 (ixT (K:=K) rfl) (pv 0) Za3 (fun _ _=>rfl)))) (Za0 (Zc0 op_mulB (Zb6 (ixT (K:=K) rfl) (pv 0) Za3 (fun _ _=>rfl)) (Zb6 (ixT (K:=K) rfl) (pv 1) Za3 (fun _ _=>rfl))) Za2))))),?_⟩
  walk_at "gm"
  exact k
theorem minus_ok {N:Addr}{H:Hp}{x y:V}{f g:Fr}{Q:VK}{E:XK}(hx:FrV H x f) (hy:FrV H y g) (f0:0<f.2) (g0:0<g.2) (s1:Sm 4000 f.1) (s2:Sm 4000 f.2) (s3:Sm 4000 g.1) (s4:Sm 4000 g.2)
  (k:∀ v H',Same H H'->FrV H' v (Zc8 f g)->Q v H'):sp_minus N [x,y] H Q E:=
 ⟨x,y,f.1,f.2,g.1,g.2,rfl,hx,hy,s1,s2,s3,s4,_,_,rfl,fun z=>absurd z (Int.ne_of_gt (Int.mul_pos f0 g0)),fun _=>⟨(Sm.mul s2 s4).mono ⋯,k⟩⟩
abbrev sp_over (N:Addr):Sp:=sp_two N (fun a _ _ d=>a*d) (fun _ b c _=>b*c)
theorem sc_over:Zb0 ["one","other"] ["one","other"] (Za6 (top 11)):=nofun
theorem ok_over (A:Adr K mg) {f:Addr}{fd:FuncData}(F:Fun K "over" "over" (top 11) f fd) (F_fraction:Fnc P w K mg base "fraction" 2 ["top","bottom"] [] (sp_fraction A.c_NoNumber)) :
  FnOk P w K mg base (CX1 P w) 3 f fd ["one","other"] (sp_over A.c_NoNumber):=by
 have S:=sc_over
 w_on
 ·obtain⟨x,y,a,b,c,d,rfl,_⟩:=h
  rfl
 ·obtain⟨x,y,a,b,c,d,rfl,hx,hy,ha,hb,hc,hd,k⟩:=h
  have hr_fraction:Room 2 _:=hr.mono ⋯
  refine⟨_,(Za5 (Za9 (Zc1 F_fraction hr_fraction Zb2 (Za0 (Zc0 op_mulB (Zb6 (ixT (K:=K) rfl) (pv 0) Za3 (fun _ _=>rfl)) (Zb6 (ixT (K:=K) rfl) (pv 1) Za3 (fun _ _=>rfl))) (Za0 (Zc0 op_mulB (Zb6 (ixT (K:=K) rfl) (pv 0) Za3 (fun _ _=>rfl)) (Zb6 (ixT (K:=K) rfl) (pv 1) Za3 (fun _ _=>rfl))) Za2))))),?_⟩
  walk_at "gm"
  exact k
theorem over_ok {N:Addr}{H:Hp}{x y:V}{f g:Fr}{Q:VK}{E:XK}(hx:FrV H x f) (hy:FrV H y g) (f0:0<f.2) (g0:0<g.1) (s1:Sm 4000 f.1) (s2:Sm 4000 f.2) (s3:Sm 4000 g.1) (s4:Sm 4000 g.2)
  (k:∀ v H',Same H H'->FrV H' v (fover f g)->Q v H'):sp_over N [x,y] H Q E:=
 ⟨x,y,f.1,f.2,g.1,g.2,rfl,hx,hy,s1,s2,s3,s4,_,_,rfl,fun z=>absurd z (Int.ne_of_gt (Int.mul_pos f0 g0)),fun _=>⟨(Sm.mul s2 s3).mono ⋯,k⟩⟩
def sp_under (K:PySem.W.Frag):Sp:=fun vs H Q E=>∃ p q a b c d,vs=[.ref p,.ref q]/\SqT K H p [.int a,.int b]/\SqT K H q [.int c,.int d]/\Sm 4000 a/\Sm 4000 b/\Sm 4000 c/\Sm 4000 d/\Q (.bl (decide (a*d<c*b))) H
theorem sc_under:Zb0 ["one","other"] ["one","other"] (Za6 (top 12)):=nofun
theorem ok_under {f:Addr}{fd:FuncData}(F:Fun K "under" "under" (top 12) f fd):FnOk P w K mg base (CX1 P w) 1 f fd ["one","other"] (sp_under K):=by
 have S:=sc_under
 k_head
 ·obtain⟨x,y,a,b,c,d,rfl,_⟩:=h
  rfl
 ·obtain⟨x,y,a,b,c,d,rfl,hx,hy,ha,hb,hc,hd,k⟩:=h
  refine⟨_,(Za5 (Za9 (pe_cmpR op_lt (Zc0 op_mulB (Zb6 (ixT (K:=K) rfl) (pv 0) Za3 (fun _ _=>rfl)) (Zb6 (ixT (K:=K) rfl) (pv 1) Za3 (fun _ _=>rfl))) (Zc0 op_mulB (Zb6 (ixT (K:=K) rfl) (pv 1) Za3 (fun _ _=>rfl)) (Zb6 (ixT (K:=K) rfl) (pv 0) Za3 (fun _ _=>rfl))) (Zc6 _)))),?_⟩
  k_one
  refine sq0 hx ?_
  k_one
  refine sq1 hy ?_
  k_one
  refine⟨mulOkS ha hd ⋯,?_⟩
  k_one
  refine sq0 hy ?_
  k_one
  refine sq1 hx ?_
  k_one
  refine⟨mulOkS hc hb ⋯,?_⟩
  k_one
  exact k
def sp_check (N:Addr):Sp:=fun vs H Q E=>∃ x a b,vs=[x]/\FrAt H x a b/\Sm 4000 a/\Sm 4000 b/\(0<a->Q .non H)/\(¬0<a->E (.ref N) none H)
theorem sc_check_above_nought:Zb0 ["number"] ["number"] (Za6 (top 15)):=nofun
theorem ok_check (A:Adr K mg) {f:Addr}{fd:FuncData}(F:Fun K "check_above_nought" "check_above_nought" (top 15) f fd) (F_under:Fnc P w K mg base "under" 1 ["one","other"] [] (sp_under K)) :
  FnOk P w K mg base (CX1 P w) 2 f fd ["number"] (sp_check A.c_NoNumber):=by
 have S:=sc_check_above_nought
 w_on
 ·obtain⟨x,a,b,rfl,_⟩:=h
  rfl
 ·obtain⟨x,a,b,rfl,⟨p,rfl,hp⟩,ha,hb,k1,k2⟩:=h
  have hr_under:Room 1 _:=hr.mono ⋯
  refine⟨_,(Za5 (ps_if (pt_not (pt_val (Zc1 F_under hr_under Zb2 (Za0 (pe_glob (v:=.ref A.k_NOUGHT) rfl A.g_NOUGHT rfl) (Za0 (pv 0) Za2))))) (Za5 (ps_raise raises_cx hr.hd A.x_NoNumber rfl A.g_NoNumber Zc7)) Zb9)),?_⟩
  k_one
  refine⟨A.k_NOUGHT,p,0,1,a,b,rfl,A.q_NOUGHT H,SqT.of hp,sm_0,sm_1,ha,hb,?_⟩
  refine⟨_,rfl,?_⟩
  have e:decide (0*b<a*1)=decide (0<a):=by rw[Int.zero_mul,Int.mul_one]
  rw[e]
  by_cases h0:0<a
  ·simp only[h0,decide_true,Bool.not_true,Bool.false_eq_true,if_false]
   k_one
   exact k1 h0
  ·simp only[h0,decide_false,Bool.not_false,if_true]
   k_one
   exact k2 h0
def sp_cell (K:PySem.W.Frag):Sp:=fun vs H Q E=>∃ (a:Addr) (ns:List Int) (k:Nat),vs=[.ref a,.int k]/\SqL K H a (ns.map V.int)/\Q (.int (ns.getD k 0)) H
theorem sc__law_cell_at:Zb0 ["_law_script","_law_k"] ["_law_script","_law_k"] (Za6 (top 47)):=nofun
theorem ok_cell_at (A:Adr K mg) {f:Addr}{fd:FuncData}(F:Fun K "_law_cell_at" "_law_cell_at" (top 47) f fd):FnOk P w K mg base (CX1 P w) 1 f fd ["_law_script","_law_k"] (sp_cell K):=by
 have S:=sc__law_cell_at
 k_head
 ·obtain⟨a,ns,k,rfl,_⟩:=h
  rfl
 ·obtain⟨a,ns,k,rfl,hs,q⟩:=h
  refine⟨_,(Za1 (ps_if (Zb7 op_lt (pv 1) (Zc3 (lenK (K:=K) rfl) (by rfl) A.n_len bt_len (Za0 (pv 0) Za2)) (Zc6 _)) (Za5 (Za9 (Zb6 (ixL (K:=K) rfl) (pv 0) (pv 1) (fun _ _=>rfl)))) Zb9)
   (Za5 (Za9 Za3))),?_⟩
  k_one
  refine len_ok (.inl ⟨_,hs,rfl⟩) ?_
  k_one
  rw[List.length_map]
  by_cases hk:k<ns.length
  ·have hk':(k:Int)<(ns.length:Int):=by omega
   simp only[hk',if_true]
   k_one
   refine⟨a,_,_,.int (ns.getD k 0),rfl,rfl,hs,atI_nat ?_,q⟩
   rw[List.getElem?_map,List.getD_eq_getElem?_getD,List.getElem?_eq_getElem hk]
   rfl
  ·have hk':¬(k:Int)<(ns.length:Int):=by omega
   simp only[hk',if_false]
   have:ns.getD k 0=0:=by rw[List.getD_eq_getElem?_getD,List.getElem?_eq_none ∅];rfl
   rw[this] at q
   k_one
   exact q
def sp_whole:Sp:=fun vs H Q E=>∃ i:Int,vs=[.int i]/\Q (.bl true) H
theorem sc__law_whole:Zb0 ["_law_found"] ["_law_found"] (Za6 (top 48)):=nofun
theorem ok_whole (A:Adr K mg) {f:Addr}{fd:FuncData}(F:Fun K "_law_whole" "_law_whole" (top 48) f fd):FnOk P w K mg base (CX1 P w) 1 f fd ["_law_found"] sp_whole:=by
 have S:=sc__law_whole
 k_head
 ·obtain⟨i,rfl,_⟩:=h
  rfl
 ·obtain⟨i,rfl,q⟩:=h
  refine⟨_,(Za5 (Za9 (pe_and (Zc3 (isiK (K:=K) rfl) (by rfl) A.n_isinstance Zd1 (Za0 (pv 0) (Za0 (pe_bltn (v:=.ty "int") rfl A.n_int bt_int rfl) Za2))) (pe_one (pe_not (Zc3 (isiK (K:=K) rfl) (by rfl) A.n_isinstance Zd1 (Za0 (pv 0) (Za0 (pe_bltn (v:=.ty "bool") rfl A.n_bool bt_bool rfl) Za2)))))))),?_⟩
  k_one
  refine isi_ok (.of (.int i)) rfl A.t_ii ?_
  k_one
  refine isi_ok (.of (.int i)) rfl A.t_ib ?_
  k_one
  exact q
structure Lim (D B:Int):Prop where
 d0:0<D
 d1:D<2 ^ 3900
 b0:0<=B
 b1:200*B<2 ^ 3900
structure SmA (x:Fr):Prop where
 b:0<x.2
 t:Sm 4000 x.1
 s:Sm 4000 x.2
def GQ (D B:Int) (m:Mo):Prop:=m.All (Qb D B) SmA
theorem GQ.small {D B:Int}{m:Mo}(h:GQ D B m) (hL:Lim D B) (hn:m.nw<=200):True/\0<m.heft.2/\Sm 3900 m.heft.1/\Sm 3900 m.heft.2:=by
 have q:=Bd.qheft hL.d0 h
 have b1:(m.nw:Int)*B<=200*B:=Int.mul_le_mul_of_nonneg_right ∅ hL.b0
 have b2:=hL.b1
 have s:=q.small hL.d0 hL.d1 ∅
 exact⟨trivial,q.b,s.1,s.2⟩
def Gq (m:Mo):Prop:=∃ D B,Lim D B/\GQ D B m
theorem good_gq {m:Mo}(h:Good 64 m):Gq m:=by
 refine⟨gD 64,gT 64*gD 64,⟨gD_pos _,by ac_nf,gg_nn,by ac_nf⟩,?_⟩
 exact Mo.All.mono (fun _ a=>a) (fun _ a=>⟨a.b,a.small.1.mono ⋯,a.small.2.mono ⋯⟩) (good_qb h)
theorem ins_cls {H:Hp}{a C C' dx dx':Addr}{fs fs':List (Str×V)}(h:H a=some (.ins C dx fs)) (h':H a=some (.ins C' dx' fs')):C=C':=by
 rw[h] at h'
 injection h' with h'
 injection h'
def sp_winit (N cW:Addr):Sp:=fun vs H Q E=>∃ x dx u a b,vs=[.ref x,u]/\H x=some (.ins cW dx [])/\FrAt H u a b/\Sm 4000 a/\Sm 4000 b/\(0<a->Q .non (upd H x (.ins cW dx [("amount",u)])))/\(¬0<a->E (.ref N) none H)
theorem sc_Weight___init__:Zb0 ["self","amount"] ["self","amount"] (Za6 (Zc5 (top 17) 0)):=nofun
theorem ok_winit (A:Adr K mg) {f:Addr}{fd:FuncData}(F:Fun K "__init__" "Weight.__init__" (Zc5 (top 17) 0) f fd) (F_check_above_nought:Fnc P w K mg base "check_above_nought" 2 ["number"] [] (sp_check A.c_NoNumber)) :
  FnOk P w K mg base (CX1 P w) 3 f fd ["self","amount"] (sp_winit A.c_NoNumber A.c_Weight):=by
 have S:=sc_Weight___init__
 w_on
 ·obtain⟨x,dx,u,a,b,rfl,_⟩:=h
  rfl
 ·obtain⟨x,dx,u,a,b,rfl,hx,hu,sa,sb,k1,k2⟩:=h
  have hr_check_above_nought:Room 2 _:=hr.mono ⋯
  refine⟨_,(Za1 (ps_expr (Zc1 F_check_above_nought hr_check_above_nought Zb2 (Za0 (pv 1) Za2)))
   (Za5 (ps_fld (pv 0) (pv 1) rfl))),?_⟩
  k_one
  refine⟨u,a,b,rfl,hu,sa,sb,fun h0=>?_,fun h0=>k2 h0⟩
  k_one
  exact sfld_ok hx A.l_Weight A.a_amount ⋯ (k1 h0)
theorem mkW_ok {N cW:Addr}{cR:Addr}{E:XK}{u:V}{f:Fr}{H:Hp}{Q:VK}(hu:FrV H u f) (s1:Sm 4000 f.1) (s2:Sm 4000 f.2) (k1:0<f.1->∀ x H',H x=none->Same H H'->Th cW cR H' (.ref x) (.wt f)->Q (.ref x) H') (k2:¬0<f.1->∀ H',Same H H'->E (.ref N) none H') :
  rMk cW (sp_winit N cW) [] E [u] H Q:=by
 intro x dx hx hd hne
 have sm:Same H (upd (upd H dx (.own x)) x (.ins cW dx [])):=fun b o e=>by rw[Zb8 (Za8 e hx),Zb8 (Za8 e hd)];exact e
 refine⟨x,dx,u,f.1,f.2,rfl,Za4,hu.same sm,s1,s2,fun h0=>⟨rfl,?_⟩,fun h0=>k2 h0 _ sm⟩
 rw[upd_upd]
 have sm2:Same H (upd (upd H dx (.own x)) x (.ins cW dx [("amount",u)])):=fun b o e=>by rw[Zb8 (Za8 e hx),Zb8 (Za8 e hd)];exact e
 exact k1 h0 x _ hx sm2 ⟨x,dx,u,rfl,Za4,hu.same sm2⟩
def sp_rinit (N cR:Addr):Sp:=fun vs H Q E=>∃ x dx u1 u2 u3 u4 a b c d,vs=[.ref x,u1,u2,u3,u4]/\H x=some (.ins cR dx [])/\FrAt H u1 a b/\FrAt H u3 c d/\Sm 4000 a/\Sm 4000 b/\Sm 4000 c/\Sm 4000 d /\
 (0<a->0<c->Q .non (upd H x (.ins cR dx [("left_arm",u1),("left",u2),("right_arm",u3),("right",u4)])))/\(¬(0<a/\0<c)->E (.ref N) none H)
theorem sc_Rod___init__:Zb0 ["self","left_arm","left","right_arm","right"] ["self","left_arm","left","right_arm","right"] (Za6 (Zc5 (top 18) 0)):=nofun
theorem ok_rinit (A:Adr K mg) {f:Addr}{fd:FuncData}(F:Fun K "__init__" "Rod.__init__" (Zc5 (top 18) 0) f fd) (F_check_above_nought:Fnc P w K mg base "check_above_nought" 2 ["number"] [] (sp_check A.c_NoNumber)) :
  FnOk P w K mg base (CX1 P w) 3 f fd ["self","left_arm","left","right_arm","right"] (sp_rinit A.c_NoNumber A.c_Rod):=by
 have S:=sc_Rod___init__
 w_on
 ·obtain⟨x,dx,u1,u2,u3,u4,a,b,c,d,rfl,_⟩:=h
  rfl
 ·obtain⟨x,dx,u1,u2,u3,u4,a,b,c,d,rfl,hx,h1,h3,sa,sb,sc,sd,k1,k2⟩:=h
  have hr_check_above_nought:Room 2 _:=hr.mono ⋯
  refine⟨_,(Za1 (ps_expr (Zc1 F_check_above_nought hr_check_above_nought Zb2 (Za0 (pv 1) Za2)))
   (Za1 (ps_expr (Zc1 F_check_above_nought hr_check_above_nought Zb2 (Za0 (pv 3) Za2)))
   (Za1 (ps_fld (pv 0) (pv 1) rfl)
   (Za1 (ps_fld (pv 0) (pv 2) rfl)
   (Za1 (ps_fld (pv 0) (pv 3) rfl)
   (Za5 (ps_fld (pv 0) (pv 4) rfl))))))),?_⟩
  k_one
  refine⟨u1,a,b,rfl,h1,sa,sb,fun h0=>?_,fun h0=>k2 fun z=>h0 z.1⟩
  k_one
  refine⟨u3,c,d,rfl,h3,sc,sd,fun h0'=>?_,fun h0'=>k2 fun z=>h0' z.2⟩
  k_one
  refine sfld_ok hx A.l_Rod A.a_left_arm ⋯ ?_
  k_one
  refine sfld_ok Za4 A.l_Rod A.a_left (by show 1<1000;decide) ?_
  k_one
  refine sfld_ok Za4 A.l_Rod A.a_right_arm (by show 2<1000;decide) ?_
  k_one
  refine sfld_ok Za4 A.l_Rod A.a_right (by show 3<1000;decide) ?_
  k_one
  rw[upd_upd,upd_upd,upd_upd]
  exact k1 h0 h0'
theorem mkR_ok {N cR cW:Addr}{E:XK}{u1 u2 u3 u4:V}{l r:Fr}{x y:Mo}{H:Hp}{Q:VK}(h1:FrV H u1 l) (h2:Th cW cR H u2 x) (h3:FrV H u3 r) (h4:Th cW cR H u4 y) (s1:Sm 4000 l.1) (s2:Sm 4000 l.2) (s3:Sm 4000 r.1) (s4:Sm 4000 r.2)
  (k1:0<l.1->0<r.1->∀ z H',H z=none->Same H H'->Th cW cR H' (.ref z) (.rod l x r y)->Q (.ref z) H') (k2:¬(0<l.1/\0<r.1)->∀ H',Same H H'->E (.ref N) none H'):rMk cR (sp_rinit N cR) [] E [u1,u2,u3,u4] H Q:=by
 intro z dx hx hd hne
 have sm:Same H (upd (upd H dx (.own z)) z (.ins cR dx [])):=fun b o e=>by rw[Zb8 (Za8 e hx),Zb8 (Za8 e hd)];exact e
 refine⟨z,dx,u1,u2,u3,u4,l.1,l.2,r.1,r.2,rfl,Za4,h1.same sm,h3.same sm,s1,s2,s3,s4,fun a0 c0=>⟨rfl,?_⟩,fun h0=>k2 h0 _ sm⟩
 rw[upd_upd]
 have sm2:Same H (upd (upd H dx (.own z)) z (.ins cR dx [("left_arm",u1),("left",u2),("right_arm",u3),("right",u4)])):=fun b o e=>by rw[Zb8 (Za8 e hx),Zb8 (Za8 e hd)];exact e
 exact k1 a0 c0 z _ hx sm2 ⟨z,dx,u1,u2,u3,u4,rfl,Za4,h1.same sm2,h2.kp sm2.kp,h3.same sm2,h4.kp sm2.kp⟩
def sp_heft (cW cR:Addr) (n:Nat):Sp:=fun vs H Q E=>∃ v m,vs=[v]/\Th cW cR H v m/\m.depth<=n/\Gq m/\m.nw<=200/\∀ v' H',Same H H'->FrV H' v' m.heft->Q v' H'
theorem sc_Weight_heft:Zb0 ["self"] ["self"] (Za6 (Zc5 (top 17) 1)):=nofun
theorem ok_wheft (A:Adr K mg) {f:Addr}{fd:FuncData}(F:Fun K "heft" "Weight.heft" (Zc5 (top 17) 1) f fd) (n:Nat):FnOk P w K mg base (CX1 P w) (n+4) f fd ["self"] (spC (sp_heft A.c_Weight A.c_Rod n) A.c_Weight):=by
 have S:=sc_Weight_heft
 k_head
 ·obtain⟨_,v,m,rfl,_⟩:=h
  rfl
 ·obtain⟨⟨a,dx,fs,rest,e,ha⟩,v,m,rfl,hm,hd,⟨D,B,hL,hg⟩,hn,k⟩:=h
  cases e
  refine⟨_,(Za5 (Za9 (Zc9 (K:=K) rfl (pv 0) rfl))),?_⟩
  k_one
  cases m with
  | wt f=>
   obtain⟨a',dx',u,e,h,hf⟩:=hm
   cases e
   exact fld_ok h A.l_Weight A.a_amount (by rfl) (k u H (fun _ _ z=>z) hf)
  | rod l x r y=>
   obtain⟨a',dx',u1,u2,u3,u4,e,h,_⟩:=hm
   cases e
   exact absurd (ins_cls ha h) A.ne_WR
theorem sc_Rod_heft:Zb0 ["self"] ["self"] (Za6 (Zc5 (top 18) 1)):=nofun
theorem ok_rheft (A:Adr K mg) {fW fR:Addr}{fdW fdR:FuncData}(FW:Fun K "heft" "Weight.heft" (Zc5 (top 17) 1) fW fdW) (FR:Fun K "heft" "Rod.heft" (Zc5 (top 18) 1) fR fdR)
  (DW:∀ k sp,FnOk P w K mg base (CX1 P w) k fW fdW ["self"] sp->Mth P w K mg base A.c_Weight "heft" k ["self"] [] sp) (DR:∀ k sp,FnOk P w K mg base (CX1 P w) k fR fdR ["self"] sp->Mth P w K mg base A.c_Rod "heft" k ["self"] [] sp)
  (F_plus:Fnc P w K mg base "plus" 3 ["one","other"] [] (sp_plus A.c_NoNumber)):∀ n,FnOk P w K mg base (CX1 P w) (n+4) fR fdR ["self"] (spC (sp_heft A.c_Weight A.c_Rod n) A.c_Rod):=by
 have S:=sc_Rod_heft
 intro n
 induction n with
 | zero=>
  refine FR.okN S (fun vs H Q E h=>?_) (fun cdv A' outer s H vs Q E hr h=>?_)
  ·obtain⟨_,v,m,rfl,_⟩:=h
   rfl
  ·exfalso
   obtain⟨⟨a,dx,fs,rest,e,ha⟩,v,m,rfl,hm,hd,_⟩:=h
   cases e
   cases m with
   | wt f=>
    obtain⟨a',dx',u,e,h,hf⟩:=hm
    cases e
    exact A.ne_WR (ins_cls h ha)
   | rod l x r y=>simp only[Mo.depth] at hd;omega
 | succ n ih=>
  have D_heft:∀ C,KdT A.c_Weight A.c_Rod C->Mth P w K mg base C "heft" (n+4) ["self"] [] (spC (sp_heft A.c_Weight A.c_Rod n) C):=by
   rintro C (rfl | rfl)
   ·exact DW _ _ (ok_wheft A FW n)
   ·exact DR _ _ ih
  refine FR.okN S (fun vs H Q E h=>?_) (fun cdv A' outer s H vs Q E hr h=>?_)
  ·obtain⟨_,v,m,rfl,_⟩:=h
   rfl
  ·obtain⟨⟨a,dx,fs,rest,e,ha⟩,v,m,rfl,hm,hd,⟨D,B,hL,hg⟩,hn,k⟩:=h
   cases e
   have hr_heft:Room (n+4) _:=hr.mono ∅
   have hr_plus:Room 3 _:=hr.mono ∅
   refine⟨_,(Za5 (Za9 (Zc1 F_plus hr_plus Zc2 (Za0 (pe_m0 D_heft hr_heft Zc2 (Zc9 (K:=K) rfl (pv 0) rfl)) (Za0 (pe_m0 D_heft hr_heft Zc2 (Zc9 (K:=K) rfl (pv 0) rfl)) Za2))))),?_⟩
   cases m with
   | wt f=>
    obtain⟨a',dx',u,e,h,hf⟩:=hm
    cases e
    exact absurd (ins_cls h ha) A.ne_WR
   | rod l x r y=>
    obtain⟨a',dx',u1,u2,u3,u4,e,h,h1,h2,h3,h4⟩:=hm
    cases e
    simp only[Mo.depth] at hd
    simp only[Mo.nw] at hn
    have gx:=hg.2.2.1
    have gy:=hg.2.2.2
    have hx:=GQ.small gx hL ∅
    have hy:=GQ.small gy hL ∅
    k_one
    refine fld_ok h A.l_Rod A.a_left (by rfl) ?_
    k_one
    refine dyn_ok h2 (fun _=>by rfl) (fun _ _ _ _=>by rfl) ?_
    k_one
    refine⟨u2,x,rfl,h2,by omega,⟨D,B,hL,gx⟩,by omega,fun v1 H1 sm1 f1=>?_⟩
    k_one
    refine fld_ok (sm1 _ _ h) A.l_Rod A.a_right (by rfl) ?_
    k_one
    refine dyn_ok (h4.kp sm1.kp) (fun _=>by rfl) (fun _ _ _ _=>by rfl) ?_
    k_one
    refine⟨u4,y,rfl,h4.kp sm1.kp,by omega,⟨D,B,hL,gy⟩,by omega,fun v2 H2 sm2 f2=>?_⟩
    k_one
    exact plus_ok (f1.same sm2) f2 hx.2.1 hy.2.1 (hx.2.2.1.mono ⋯) (hx.2.2.2.mono ⋯) (hy.2.2.1.mono ⋯) (hy.2.2.2.mono ⋯) fun v3 H3 sm3 f3=>k v3 H3 (fun b o e=>sm3 b o (sm2 b o (sm1 b o e))) f3
def sp_places (cW cR:Addr) (n:Nat):Sp:=fun vs H Q E=>∃ v m q,vs=[v,.str (mkS q)]/\Th cW cR H v m/\m.depth<=n/\m.nw<=200/\q.length+n<=1000/\∀ l H',H l=none->Same H H'->H' l=some (.lst (m.places.map fun p=>.str (mkS (q++p))))->Q (.ref l) H'
theorem sc_Weight_places:Zb0 ["self","ahead"] ["self","ahead"] (Za6 (Zc5 (top 17) 2)):=nofun
theorem ok_wplaces (A:Adr K mg) {f T:Addr}{fd:FuncData}{d:Value}(F:FunD K "places" "Weight.places" (Zc5 (top 17) 2) f fd T d) (n:Nat):FnOk P w K mg base (CX1 P w) (n+4) f fd ["self","ahead"] (spC (sp_places A.c_Weight A.c_Rod n) A.c_Weight):=by
 have S:=sc_Weight_places
 k_head
 ·obtain⟨_,v,m,q,rfl,_⟩:=h
  rfl
 ·obtain⟨⟨a,dx,fs,rest,e,ha⟩,v,m,q,rfl,hm,hd,hn,hq,k⟩:=h
  cases e
  refine⟨_,(Za5 (Za9 (pe_lst (Za0 (pv 1) Za2)))),?_⟩
  k_one
  cases m with
  | wt f=>
   refine⟨(by show 1<=sizeLine;decide),fun l hl=>k l _ hl (Za7 hl) ?_⟩
   k_one
   rw[Za4]
   simp[Mo.places]
  | rod l x r y=>
   obtain⟨a',dx',u1,u2,u3,u4,e,h,_⟩:=hm
   cases e
   exact absurd (ins_cls ha h) A.ne_WR
theorem sc_Rod_places:Zb0 ["self","ahead"] ["self","ahead"] (Za6 (Zc5 (top 18) 2)):=nofun
theorem ok_rplaces (A:Adr K mg) {fW fR TW TR:Addr}{fdW fdR:FuncData}{dW dR:Value}(FW:FunD K "places" "Weight.places" (Zc5 (top 17) 2) fW fdW TW dW) (FR:FunD K "places" "Rod.places" (Zc5 (top 18) 2) fR fdR TR dR)
  (DW:∀ k sp,FnOk P w K mg base (CX1 P w) k fW fdW ["self","ahead"] sp->Mth P w K mg base A.c_Weight "places" k ["self","ahead"] [] sp) (DR:∀ k sp,FnOk P w K mg base (CX1 P w) k fR fdR ["self","ahead"] sp->Mth P w K mg base A.c_Rod "places" k ["self","ahead"] [] sp) :
  ∀ n,FnOk P w K mg base (CX1 P w) (n+4) fR fdR ["self","ahead"] (spC (sp_places A.c_Weight A.c_Rod n) A.c_Rod):=by
 have S:=sc_Rod_places
 intro n
 induction n with
 | zero=>
  refine FR.okN S (fun vs H Q E h=>?_) (fun cdv A' outer s H vs Q E hr h=>?_)
  ·obtain⟨_,v,m,q,rfl,_⟩:=h
   rfl
  ·exfalso
   obtain⟨⟨a,dx,fs,rest,e,ha⟩,v,m,q,rfl,hm,hd,_⟩:=h
   cases e
   cases m with
   | wt f=>
    obtain⟨a',dx',u,e,h,hf⟩:=hm
    cases e
    exact A.ne_WR (ins_cls h ha)
   | rod l x r y=>simp only[Mo.depth] at hd;omega
 | succ n ih=>
  have D_places:∀ C,KdT A.c_Weight A.c_Rod C->Mth P w K mg base C "places" (n+4) ["self","ahead"] [] (spC (sp_places A.c_Weight A.c_Rod n) C):=by
   rintro C (rfl | rfl)
   ·exact DW _ _ (ok_wplaces A FW n)
   ·exact DR _ _ ih
  refine FR.okN S (fun vs H Q E h=>?_) (fun cdv A' outer s H vs Q E hr h=>?_)
  ·obtain⟨_,v,m,q,rfl,_⟩:=h
   rfl
  ·obtain⟨⟨a,dx,fs,rest,e,ha⟩,v,m,q,rfl,hm,hd,hn,hq,k⟩:=h
   cases e
   have hr_places:Room (n+4) _:=hr.mono ∅
   refine⟨_,(Za5 (Za9 (Zc0 op_cat (Zc0 op_cat (pe_lst (Za0 (pv 1) Za2)) (pe_m D_places hr_places Zc2 (Zc9 (K:=K) rfl (pv 0) rfl) (Za0 (Zc0 Zb3 (pv 1) Zc7) Za2))) (pe_m D_places hr_places Zc2 (Zc9 (K:=K) rfl (pv 0) rfl) (Za0 (Zc0 Zb3 (pv 1) Zc7) Za2))))),?_⟩
   cases m with
   | wt f=>
    obtain⟨a',dx',u,e,h,hf⟩:=hm
    cases e
    exact absurd (ins_cls h ha) A.ne_WR
   | rod l x r y=>
    obtain⟨a',dx',u1,u2,u3,u4,e,h,h1,h2,h3,h4⟩:=hm
    cases e
    simp only[Mo.depth] at hd
    simp only[Mo.nw] at hn
    have lx:=Mo.places_length x
    have ly:=Mo.places_length y
    k_one
    refine⟨(by show 1<=sizeLine;decide),fun l0 hl0=>?_⟩
    k_one
    have sm0:=Za7 (o:=.lst [.str (mkS q)]) hl0
    refine fld_ok (sm0 _ _ h) A.l_Rod A.a_left (by rfl) ?_
    k_one
    refine dyn_okR (H':=upd H l0 (.lst [.str (mkS q)])) (xs:=[.str (mkS q++("l" : Str))]) (h2.kp sm0.kp) (fun _=>by rfl) (fun _ _ _ _=>by rfl) .refl ?_ (fun S s=>by k_one;exact⟨len_l q ∅,s⟩)
    rw[add_l]
    refine⟨u2,x,q++[108],rfl,h2.kp sm0.kp,by omega,by omega,by simp;omega,fun l1 H1 hl1 sm1 e1=>?_⟩
    k_one
    have e0:H1 l0=some (.lst [.str (mkS q)]):=sm1 _ _ Za4
    refine⟨l0,l1,_,_,rfl,rfl,e0,e1,by simp only[List.length_cons,List.length_nil,List.length_map];rw[sizeLine_eq];omega,fun l2 hl2=>?_⟩
    k_one
    have sm2:=Za7 (o:=.lst ([.str (mkS q)]++x.places.map fun p=>.str (mkS (q++[108]++p)))) hl2
    have kp2:Kp H (upd H1 l2 (.lst ([.str (mkS q)]++x.places.map fun p=>.str (mkS (q++[108]++p))))):=(sm0.kp.trans sm1.kp).trans sm2.kp
    refine fld_ok (kp2.ins _ _ _ _ h) A.l_Rod A.a_right (by rfl) ?_
    k_one
    refine dyn_okR (xs:=[.str (mkS q++("r" : Str))]) (h4.kp kp2) (fun _=>by rfl) (fun _ _ _ _=>by rfl) .refl ?_ (fun S s=>by k_one;exact⟨len_r q ∅,s⟩)
    rw[add_r]
    refine⟨u4,y,q++[114],rfl,h4.kp kp2,by omega,by omega,by simp;omega,fun l3 H3 hl3 sm3 e3=>?_⟩
    k_one
    refine⟨l2,l3,_,_,rfl,rfl,sm3 _ _ Za4,e3,by simp only[List.length_append,List.length_cons,List.length_nil,List.length_map];rw[sizeLine_eq];omega,fun l4 hl4=>?_⟩
    k_one
    have smA:Same H H3:=fun b o e=>sm3 b o (sm2 b o (sm1 b o (sm0 b o e)))
    have hn4:H l4=none:=by
     cases z:H l4 with
     | none=>rfl
     | some o=>rw[smA _ _ z] at hl4;cases hl4
    refine k l4 _ hn4 (fun b o e=>?_) ?_
    ·rw[Zb8 (Za8 e hn4)];exact smA b o e
    ·rw[Za4]
     simp[Mo.places]
     rfl
def sp_at (N cW cR:Addr) (n:Nat):Sp:=fun vs H Q E=>∃ v m q,vs=[v,.str (mkS q)]/\Th cW cR H v m/\m.depth<=n/\q.length<=4096/\(∀ v' s,m.sub q=some s->Th cW cR H v' s->Q v' H)/\(m.sub q=none->E (.ref N) none H)
theorem sc_Weight_at:Zb0 ["self","place"] ["self","place"] (Za6 (Zc5 (top 17) 3)):=nofun
theorem ok_wat (A:Adr K mg) {f:Addr}{fd:FuncData}(F:Fun K "at" "Weight.at" (Zc5 (top 17) 3) f fd) (n:Nat):FnOk P w K mg base (CX1 P w) (n+4) f fd ["self","place"] (spC (sp_at A.c_NoPlace A.c_Weight A.c_Rod n) A.c_Weight):=by
 have S:=sc_Weight_at
 w_on
 ·obtain⟨_,v,m,q,rfl,_⟩:=h
  rfl
 ·obtain⟨⟨a,dx,fs,rest,e,ha⟩,v,m,q,rfl,hm,hd,hq,k1,k2⟩:=h
  cases e
  refine⟨_,(Za1 (ps_if (Zb7 op_ne (pv 1) Zc7 (Zc6 _)) (Za5 (ps_raise raises_cx hr.hd A.x_NoPlace rfl A.g_NoPlace Zc7)) Zb9)
   (Za5 (Za9 (pv 0)))),?_⟩
  k_one
  cases m with
  | wt f=>
   cases q with
   | nil=>
    rw[←s_empty]
    simp only[decide_true,Bool.not_true,Bool.false_eq_true,if_false,not_true_eq_false,ne_eq]
    k_one
    exact k1 _ _ rfl hm
   | cons c q=>
    have:¬mkS (c::q)=("" : Str):=by rw[s_empty,mkS_inj];simp
    simp only[this,decide_false,Bool.not_false,if_true,not_false_eq_true]
    k_one
    exact k2 rfl
  | rod l x r y=>
   obtain⟨a',dx',u1,u2,u3,u4,e,h,_⟩:=hm
   cases e
   exact absurd (ins_cls ha h) A.ne_WR
theorem sc_Rod_at:Zb0 ["self","place"] ["self","place"] (Za6 (Zc5 (top 18) 3)):=nofun
theorem ok_rat (A:Adr K mg) {fW fR:Addr}{fdW fdR:FuncData}(FW:Fun K "at" "Weight.at" (Zc5 (top 17) 3) fW fdW) (FR:Fun K "at" "Rod.at" (Zc5 (top 18) 3) fR fdR)
  (DW:∀ k sp,FnOk P w K mg base (CX1 P w) k fW fdW ["self","place"] sp->Mth P w K mg base A.c_Weight "at" k ["self","place"] [] sp) (DR:∀ k sp,FnOk P w K mg base (CX1 P w) k fR fdR ["self","place"] sp->Mth P w K mg base A.c_Rod "at" k ["self","place"] [] sp) :
  ∀ n,FnOk P w K mg base (CX1 P w) (n+4) fR fdR ["self","place"] (spC (sp_at A.c_NoPlace A.c_Weight A.c_Rod n) A.c_Rod):=by
 have S:=sc_Rod_at
 intro n
 induction n with
 | zero=>
  refine FR.okE S (fun vs H Q E h=>?_) (fun cdv A' outer s H vs Q E hr h=>?_)
  ·obtain⟨_,v,m,q,rfl,_⟩:=h
   rfl
  ·exfalso
   obtain⟨⟨a,dx,fs,rest,e,ha⟩,v,m,q,rfl,hm,hd,_⟩:=h
   cases e
   cases m with
   | wt f=>
    obtain⟨a',dx',u,e,h,hf⟩:=hm
    cases e
    exact A.ne_WR (ins_cls h ha)
   | rod l x r y=>simp only[Mo.depth] at hd;omega
 | succ n ih=>
  have D_at:∀ C,KdT A.c_Weight A.c_Rod C->Mth P w K mg base C "at" (n+4) ["self","place"] [] (spC (sp_at A.c_NoPlace A.c_Weight A.c_Rod n) C):=by
   rintro C (rfl | rfl)
   ·exact DW _ _ (ok_wat A FW n)
   ·exact DR _ _ ih
  refine FR.okE S (fun vs H Q E h=>?_) (fun cdv A' outer s H vs Q E hr h=>?_)
  ·obtain⟨_,v,m,q,rfl,_⟩:=h
   rfl
  ·obtain⟨⟨a,dx,fs,rest,e,ha⟩,v,m,q,rfl,hm,hd,hq,k1,k2⟩:=h
   cases e
   have hr_at:Room (n+4) _:=hr.mono ∅
   refine⟨_,(Za1 (ps_if (Zb7 op_eq (pv 1) Zc7 (Zc6 _)) (Za5 (Za9 (pv 0))) Zb9)
   (Za1 (ps_if (Zb7 op_eq (Zb6 ix_str (pv 1) Za3 (fun _ _=>rfl)) Zc7 (Zc6 _)) (Za5 (Za9 (pe_m D_at hr_at Zb2 (Zc9 (K:=K) rfl (pv 0) rfl) (Za0 (pe_slice sl_str (pv 1) (po_some Za3) po_none) Za2)))) Zb9)
   (Za1 (ps_if (Zb7 op_eq (Zb6 ix_str (pv 1) Za3 (fun _ _=>rfl)) Zc7 (Zc6 _)) (Za5 (Za9 (pe_m D_at hr_at Zb2 (Zc9 (K:=K) rfl (pv 0) rfl) (Za0 (pe_slice sl_str (pv 1) (po_some Za3) po_none) Za2)))) Zb9)
   (Za5 (ps_raise raises_cx hr.hd A.x_NoPlace rfl A.g_NoPlace Zc7))))),?_⟩
   cases m with
   | wt f=>
    obtain⟨a',dx',u,e,h,hf⟩:=hm
    cases e
    exact absurd (ins_cls h ha) A.ne_WR
   | rod l x r y=>
    have hm':=hm
    obtain⟨a',dx',u1,u2,u3,u4,e,h,h1,h2,h3,h4⟩:=hm
    cases e
    simp only[Mo.depth] at hd
    k_one
    cases q with
    | nil=>
     rw[←s_empty]
     simp only[decide_true,if_true]
     k_one
     exact k1 _ _ rfl hm'
    | cons c q=>
     have:¬mkS (c::q)=("" : Str):=by rw[s_empty,mkS_inj];simp
     simp only[this,decide_false,Bool.false_eq_true,if_false]
     k_one
     have hq':q.length<=4096:=by simp at hq;omega
     have isl:(mkS [c]=("l" : Str))=(c=108):=by rw[s_l,mkS_inj];simp
     have isr:(mkS [c]=("r" : Str))=(c=114):=by rw[s_r,mkS_inj];simp
     refine ixS0 hq' ?_
     k_one
     simp only[isl]
     by_cases c1:c=108
     ·subst c1
      simp only[if_true]
      k_one
      refine fld_ok h A.l_Rod A.a_left (by rfl) ?_
      k_one
      refine dyn_okR (xs:=[.str (mkS q)]) h2 (fun _=>by rfl) (fun _ _ _ _=>by rfl) .refl ?_ (fun S s=>by k_one;exact slS_tail hq' s)
      exact⟨u2,x,q,rfl,h2,by omega,hq',fun v' s e t=>k1 v' s (by simpa [Mo.sub] using e) t,fun e=>k2 (by simpa [Mo.sub] using e)⟩
     ·simp only[c1,if_false]
      k_one
      refine ixS0 hq' ?_
      k_one
      simp only[isr]
      by_cases c2:c=114
      ·subst c2
       simp only[if_true]
       k_one
       refine fld_ok h A.l_Rod A.a_right (by rfl) ?_
       k_one
       refine dyn_okR (xs:=[.str (mkS q)]) h4 (fun _=>by rfl) (fun _ _ _ _=>by rfl) .refl ?_ (fun S s=>by k_one;exact slS_tail hq' s)
       exact⟨u4,y,q,rfl,h4,by omega,hq',fun v' s e t=>k1 v' s (by simpa [Mo.sub] using e) t,fun e=>k2 (by simpa [Mo.sub] using e)⟩
      ·simp only[c2,if_false]
       k_one
       exact k2 (by simp[Mo.sub,c1,c2])
def sp_lowest:Sp:=fun vs H Q E=>∃ a b:Int,vs=[.int a,.int b]/\0<b/\Sm 8999 b/\∀ v H',Same H H'->FrV H' v (low a b)->Q v H'
theorem sc__law_lowest:Zb0 ["_law_top","_law_bottom","_law_one","_law_other","_law_rest"] ["_law_top","_law_bottom"] (Za6 (top 49)):=nofun
theorem ok_lowest (A:Adr K mg) {f:Addr}{fd:FuncData}(F:Fun K "_law_lowest" "_law_lowest" (top 49) f fd):FnOk P w K mg base (CX1 P w) 1 f fd ["_law_top","_law_bottom"] sp_lowest:=by
 have S:=sc__law_lowest
 k_head
 ·obtain⟨a,b,rfl,_⟩:=h
  rfl
 ·obtain⟨a,b,rfl,hb,sb,k⟩:=h
  refine⟨_,(Za1 (Zb4 (i:=2) S.nd rfl (Or.inl rfl) (Zc3 call_abs (by rfl) A.n_abs bt_abs (Za0 (pv 0) Za2)))
   (Za1 (Zb4 (i:=3) S.nd rfl (Or.inl rfl) (pv 1))
   (Za1 (ps_while PassesOwn.never (Zb7 op_gt (pv 3) Za3 (Zc6 _)) (Za1 (Zb4 (i:=4) S.nd rfl (Or.inl rfl) (Zc0 op_mod (pv 2) (pv 3)))
   (Za1 (Zb4 (i:=2) S.nd rfl (Or.inl rfl) (pv 3))
   (Za5 (Zb4 (i:=3) S.nd rfl (Or.inl rfl) (pv 4))))))
   (Za5 (Za9 (pe_tup (Za0 (Zc0 op_fdivP (pv 0) (pv 2)) (Za0 (Zc0 op_fdivP (pv 1) (pv 2)) Za2)))))))),?_⟩
  k_one
  rw[abs_if]
  have hne:b≠0:=by omega
  have hg:=gcd_pos (a:=a) hne
  have es:sd a b=(Int.gcd a b:Int):=if_neg ∅
  have cf:∀ z,CFd z (Int.gcd a b:Int):=fun z=>⟨by omega,Sm.log2 (n:=9000) (by
   have:=gcd_le (a:=a) hne
   unfold Sm at *
   rw[Int.natAbs_natCast]
   exact Nat.lt_of_le_of_lt this (Nat.lt_trans sb (by ac_nf))) ∅⟩
  have e1:a / (Int.gcd a b:Int)=nt a b:=by unfold nt;rw[es,Int.fdiv_eq_ediv_of_nonneg _ ∅]
  have e2:b / (Int.gcd a b:Int)=nb a b:=by unfold nb;rw[es,Int.fdiv_eq_ediv_of_nonneg _ ∅]
  have eg:(((a.natAbs:Int).gcd b:Nat):Int)=(Int.gcd a b:Int):=by
   show ((Nat.gcd (a.natAbs:Int).natAbs b.natAbs:Nat):Int)=_
   rw[Int.natAbs_natCast]
   rfl
  refine while_k (fun σ H'=>∃ x y r,σ=[some (.int a),some (.int b),some (.int x),some (.int y),r]/\0<=x/\0<=y/\((Int.gcd x y:Nat):Int)=(Int.gcd a b:Int)/\H'=H) (fun σ _=>mI 3 σ) ⟨_,b,none,rfl,by omega,by omega,eg,rfl⟩ ?_
  rintro _ _ K' ⟨x,y,r,rfl,hx,hy,hgc,rfl⟩ kt kf
  k_one
  by_cases h0:y=0
  ·subst h0
   simp only[Int.lt_irrefl,decide_false]
   refine kf _ ?_
   k_one
   rw[Int.gcd_zero_right] at hgc
   have:(x.natAbs:Int)=x:=by omega
   rw[this] at hgc
   rw[hgc,e1,e2]
   exact⟨cf _,cf _,by show 2<=sizeLine;decide,fun p hp=>k _ _ (Za7 hp) ⟨p,rfl,Za4⟩⟩
  ·have hy':0<y:=by omega
   simp only[hy',decide_true]
   refine kt _ ?_
   k_one
   refine⟨hy',?_⟩
   k_one
   exact⟨hy,Int.emod_nonneg x h0,by rw[gcd_turn hx];exact hgc,toNat_mod hy'⟩
theorem low_ok {a b:Int}{H:Hp}{Q:VK}{E:XK}(hb:0<b) (sb:Sm 8999 b) (k:∀ v H',Same H H'->FrV H' v (low a b)->Q v H'):sp_lowest [.int a,.int b] H Q E:=⟨a,b,rfl,hb,sb,k⟩
def sp_bin (g:Fr->Fr->Fr) (C:Fr->Fr->Prop):Sp:=fun vs H Q E=>∃ x y f h,vs=[x,y]/\FrV H x f/\FrV H y h/\0<f.2/\C f h/\Sm 4000 f.1/\Sm 4000 f.2/\Sm 4000 h.1/\Sm 4000 h.2/\∀ v H',Same H H'->FrV H' v (g f h)->Q v H'
abbrev sp_sum:Sp:=sp_bin Zd0 fun _ h=>0<h.2
abbrev sp_product:Sp:=sp_bin Zb1 fun _ h=>0<h.2
abbrev sp_quotient:Sp:=sp_bin fover fun _ h=>0<h.1
theorem sc__law_sum:Zb0 ["_law_one","_law_other"] ["_law_one","_law_other"] (Za6 (top 51)):=nofun
theorem ok_sum (A:Adr K mg) {f:Addr}{fd:FuncData}(F:Fun K "_law_sum" "_law_sum" (top 51) f fd) (F__law_lowest:Fnc P w K mg base "_law_lowest" 1 ["_law_top","_law_bottom"] [] sp_lowest):FnOk P w K mg base (CX1 P w) 2 f fd ["_law_one","_law_other"] sp_sum:=by
 have S:=sc__law_sum
 k_head
 ·obtain⟨x,y,f,g,rfl,_⟩:=h
  rfl
 ·obtain⟨x,y,f,g,rfl,hx,hy,f2,g2,s1,s2,s3,s4,k⟩:=h
  have hr__law_lowest:Room 1 _:=hr.mono ⋯
  refine⟨_,(Za5 (Za9 (Zc1 F__law_lowest hr__law_lowest Zc2 (Za0 (Zc0 op_add (Zc0 op_mulB (Zb6 (ixT (K:=K) rfl) (pv 0) Za3 (fun _ _=>rfl)) (Zb6 (ixT (K:=K) rfl) (pv 1) Za3 (fun _ _=>rfl))) (Zc0 op_mulB (Zb6 (ixT (K:=K) rfl) (pv 1) Za3 (fun _ _=>rfl)) (Zb6 (ixT (K:=K) rfl) (pv 0) Za3 (fun _ _=>rfl)))) (Za0 (Zc0 op_mulB (Zb6 (ixT (K:=K) rfl) (pv 0) Za3 (fun _ _=>rfl)) (Zb6 (ixT (K:=K) rfl) (pv 1) Za3 (fun _ _=>rfl))) Za2))))),?_⟩
  walk_at "gm"
  exact low_ok (Int.mul_pos f2 g2) ((Sm.mul s2 s4).mono ⋯) k
abbrev sp_less:Sp:=sp_bin Zc8 fun _ h=>0<h.2
theorem sc__law_less:Zb0 ["_law_one","_law_other"] ["_law_one","_law_other"] (Za6 (top 52)):=nofun
theorem ok_less (A:Adr K mg) {f:Addr}{fd:FuncData}(F:Fun K "_law_less" "_law_less" (top 52) f fd) (F__law_sum:Fnc P w K mg base "_law_sum" 2 ["_law_one","_law_other"] [] sp_sum):FnOk P w K mg base (CX1 P w) 3 f fd ["_law_one","_law_other"] sp_less:=by
 have S:=sc__law_less
 k_head
 ·obtain⟨x,y,f,g,rfl,_⟩:=h
  rfl
 ·obtain⟨x,y,f,g,rfl,hx,hy,f2,g2,s1,s2,s3,s4,k⟩:=h
  have hr__law_sum:Room 2 _:=hr.mono ⋯
  refine⟨_,(Za5 (Za9 (Zc1 F__law_sum hr__law_sum Zc2 (Za0 (pv 0) (Za0 (pe_tup (Za0 (pe_un un_neg (Zb6 (ixT (K:=K) rfl) (pv 1) Za3 (fun _ _=>rfl))) (Za0 (Zb6 (ixT (K:=K) rfl) (pv 1) Za3 (fun _ _=>rfl)) Za2))) Za2))))),?_⟩
  walk_at "gm"
  refine⟨by decide,fun p1 hp1=>?_⟩
  have sm1:=Za7 (o:=.tup [.int (-g.1),.int g.2]) hp1
  refine⟨_,_,f,(-g.1,g.2),rfl,hx.same sm1,⟨p1,rfl,Za4⟩,f2,g2,s1,s2,(by show Sm 4000 (-g.1);unfold Sm at *;rw[Int.natAbs_neg];exact s3),s4,fun v H' sm fv=>k v H' (sm1.trans sm) ?_⟩
  rw[fplus_neg] at fv
  exact fv
theorem sc__law_product:Zb0 ["_law_one","_law_other"] ["_law_one","_law_other"] (Za6 (top 53)):=nofun
theorem ok_product (A:Adr K mg) {f:Addr}{fd:FuncData}(F:Fun K "_law_product" "_law_product" (top 53) f fd) (F__law_lowest:Fnc P w K mg base "_law_lowest" 1 ["_law_top","_law_bottom"] [] sp_lowest):FnOk P w K mg base (CX1 P w) 2 f fd ["_law_one","_law_other"] sp_product:=by
 have S:=sc__law_product
 k_head
 ·obtain⟨x,y,f,g,rfl,_⟩:=h
  rfl
 ·obtain⟨x,y,f,g,rfl,hx,hy,f2,g2,s1,s2,s3,s4,k⟩:=h
  have hr__law_lowest:Room 1 _:=hr.mono ⋯
  refine⟨_,(Za5 (Za9 (Zc1 F__law_lowest hr__law_lowest Zc2 (Za0 (Zc0 op_mulB (Zb6 (ixT (K:=K) rfl) (pv 0) Za3 (fun _ _=>rfl)) (Zb6 (ixT (K:=K) rfl) (pv 1) Za3 (fun _ _=>rfl))) (Za0 (Zc0 op_mulB (Zb6 (ixT (K:=K) rfl) (pv 0) Za3 (fun _ _=>rfl)) (Zb6 (ixT (K:=K) rfl) (pv 1) Za3 (fun _ _=>rfl))) Za2))))),?_⟩
  walk_at "gm"
  exact low_ok (Int.mul_pos f2 g2) ((Sm.mul s2 s4).mono ⋯) k
theorem sc__law_quotient:Zb0 ["_law_one","_law_other"] ["_law_one","_law_other"] (Za6 (top 54)):=nofun
theorem ok_quotient (A:Adr K mg) {f:Addr}{fd:FuncData}(F:Fun K "_law_quotient" "_law_quotient" (top 54) f fd) (F__law_lowest:Fnc P w K mg base "_law_lowest" 1 ["_law_top","_law_bottom"] [] sp_lowest):FnOk P w K mg base (CX1 P w) 2 f fd ["_law_one","_law_other"] sp_quotient:=by
 have S:=sc__law_quotient
 k_head
 ·obtain⟨x,y,f,g,rfl,_⟩:=h
  rfl
 ·obtain⟨x,y,f,g,rfl,hx,hy,f2,g1,s1,s2,s3,s4,k⟩:=h
  have hr__law_lowest:Room 1 _:=hr.mono ⋯
  refine⟨_,(Za5 (Za9 (Zc1 F__law_lowest hr__law_lowest Zc2 (Za0 (Zc0 op_mulB (Zb6 (ixT (K:=K) rfl) (pv 0) Za3 (fun _ _=>rfl)) (Zb6 (ixT (K:=K) rfl) (pv 1) Za3 (fun _ _=>rfl))) (Za0 (Zc0 op_mulB (Zb6 (ixT (K:=K) rfl) (pv 0) Za3 (fun _ _=>rfl)) (Zb6 (ixT (K:=K) rfl) (pv 1) Za3 (fun _ _=>rfl))) Za2))))),?_⟩
  walk_at "gm"
  exact low_ok (Int.mul_pos f2 g1) ((Sm.mul s2 s3).mono ⋯) k
def sp_mixed:Sp:=fun vs H Q E=>∃ c g:Int,vs=[.int c,.int g]/\0<g/\g<2 ^ 64/\∀ n:Int,0<=n->n<2147483647->Q (.int n) H
theorem sc__law_mixed:Zb0 ["_law_cell","_law_factor"] ["_law_cell","_law_factor"] (Za6 (top 55)):=nofun
theorem ok_mixed (A:Adr K mg) {f:Addr}{fd:FuncData}(F:Fun K "_law_mixed" "_law_mixed" (top 55) f fd):FnOk P w K mg base (CX1 P w) 1 f fd ["_law_cell","_law_factor"] sp_mixed:=by
 have S:=sc__law_mixed
 k_head
 ·obtain⟨c,g,rfl,_⟩:=h
  rfl
 ·obtain⟨c,g,rfl,h0,h1,k⟩:=h
  refine⟨_,(Za5 (Za9 (Zc0 op_mod (Zc0 op_mulB (Zc0 op_add (pv 0) (Zc0 op_mod (pv 1) Za3)) (pv 1)) Za3))),?_⟩
  k_one
  refine⟨CMul.ok (.inr ⟨by omega,h1⟩),?_⟩
  k_one
  exact k _ (Int.emod_nonneg _ ⋯) (Int.emod_lt_of_pos _ ⋯)
def sp_amount:Sp:=fun vs H Q E=>∃ c k:Int,vs=[.int c,.int k]/\∀ v f H',Same H H'->FrV H' v f->Am 0 f->Q v H'
theorem am_small {t:Int}(h0:0<t) (h1:t<=10 ^ 60):Am 0 (t,1):=by
 refine⟨h0,Int.one_pos,⟨_,(Int.one_mul _).symm⟩,?_,?_,Int.gcd_one⟩
 ·show t<=10 ^ 60*72 ^ 0
  omega
 ·show (1:Int)<=10 ^ 60*72 ^ 0
  decide
theorem sm_lt {n:Nat}{a:Int}(h0:0<a) (h:a<2 ^ n):Sm n a:=small_of h0 h
theorem sc__law_amount:Zb0 ["_law_cell","_law_kind","_law_number_here"] ["_law_cell","_law_kind"] (Za6 (top 56)):=nofun
theorem ok_amount (A:Adr K mg) {f:Addr}{fd:FuncData}(F:Fun K "_law_amount" "_law_amount" (top 56) f fd) (F__law_mixed:Fnc P w K mg base "_law_mixed" 1 ["_law_cell","_law_factor"] [] sp_mixed) (F__law_lowest:Fnc P w K mg base "_law_lowest" 1 ["_law_top","_law_bottom"] [] sp_lowest) :
  FnOk P w K mg base (CX1 P w) 2 f fd ["_law_cell","_law_kind"] sp_amount:=by
 have S:=sc__law_amount
 k_head
 ·obtain⟨c,k,rfl,_⟩:=h
  rfl
 ·obtain⟨c,kd,rfl,k⟩:=h
  have hr__law_mixed:Room 1 _:=hr.mono ⋯
  have hr__law_lowest:Room 1 _:=hr.mono ⋯
  refine⟨_,(Za1 (Zb4 (i:=2) S.nd rfl (Or.inl rfl) (Zc1 F__law_mixed hr__law_mixed Zc2 (Za0 (pv 0) (Za0 Za3 Za2))))
   (Za1 (ps_if (Zb7 op_eq (pv 1) Za3 (Zc6 _)) (Za5 (Za9 (pe_tup (Za0 (Zc0 op_add Za3 (Zc0 op_mod (pv 2) Za3)) (Za0 Za3 Za2))))) Zb9)
   (Za5 (Za9 (Zc1 F__law_lowest hr__law_lowest Zc2 (Za0 (Zc0 op_add Za3 (Zc0 op_mod (pv 0) (Zc0 op_pow Za3 Za3))) (Za0 (Zc0 op_add Za3 (Zc0 op_mod (pv 2) Za3)) Za2))))))),?_⟩
  k_one
  refine⟨_,_,rfl,by decide,by decide,fun n n0 n1=>?_⟩
  k_one
  by_cases h3:kd=3
  ·simp only[h3,if_true]
   k_one
   have a1:=Int.emod_nonneg n (by decide:(3:Int)≠0)
   have a2:=Int.emod_lt_of_pos n (by decide:(0:Int)<3)
   refine⟨by decide,fun p hp=>k _ (1+n % 3,1) _ (Za7 hp) ⟨p,rfl,Za4⟩ (am_small ∅ ?_)⟩
   k_one
   have:(3:Int)<=10 ^ 60:=by decide
   omega
  ·simp only[h3,if_false]
   k_one
   have a1:=Int.emod_nonneg n (by decide:(6:Int)≠0)
   have a2:=Int.emod_lt_of_pos n (by decide:(0:Int)<6)
   have b1:=Int.emod_nonneg c (by decide:(10 ^ 60:Int)≠0)
   have b2:=Int.emod_lt_of_pos c (by decide:(0:Int)<10 ^ 60)
   have p89:(6:Int)<2 ^ 8999:=by ac_nf
   refine⟨⟨by decide,by decide,by decide⟩,?_⟩
   k_one
   have e60:(10:Int) ^ Int.toNat 60=10 ^ 60:=rfl
   rw[e60]
   exact⟨by decide,low_ok ∅ (sm_lt ∅ ∅) fun v H' sm hv=>k v _ H' sm hv (Am.first ∅ ∅ ∅ ∅)⟩
structure Sh (x:Fr):Prop where
 t:0<x.1
 b:0<x.2
 tl:x.1<=4
 bl:x.2<=3
 g:Int.gcd x.1 x.2=1
theorem Sh.ar {x:Fr}(h:Sh x):Ar x:=⟨h.t,h.b,by have:=h.tl;omega,by have:=h.bl;omega,h.g,dvdM h.b (by have:=h.bl;omega)⟩
theorem low_sh {t b:Int}(h0:0<t) (h1:t<=4) (b0:0<b) (b1:b<=3):Sh (low t b):=by
 have:=low_pos h0 b0
 have:=low_top h0 b0
 have:=low_bot (a:=t) b0
 exact⟨by omega,by omega,by omega,by omega,low_gcd ∅⟩
theorem low_ar {t b:Int}(h0:0<t) (h1:t<=2 ^ 32) (b0:0<b) (b1:b<=4):Ar (low t b):=by
 have:=low_pos h0 b0
 have:=low_top h0 b0
 have:=low_bot (a:=t) b0
 exact⟨by omega,by omega,by omega,by omega,low_gcd ∅,Int.dvd_trans (low_dvd ∅) (dvdM b0 b1)⟩
theorem low_self {f:Fr}(h:Lw f):low f.1 f.2=f:=Lw.ext (Lw.low (Int.ne_of_gt h.b)) h (rq_low (Int.ne_of_gt h.b))
def sp_arms:Sp:=fun vs H Q E=>∃ c k:Int,vs=[.int c,.int k]/\∀ v l r H',Same H H'->RowV H' v [l,r]->Ar l->Ar r->(k≠0->Sh l/\Sh r/\Sz l r)->Q v H'
theorem sc__law_arms:Zb0 ["_law_cell","_law_kind","_law_one","_law_two","_law_size"] ["_law_cell","_law_kind"] (Za6 (top 57)):=nofun
theorem ok_arms (A:Adr K mg) {f:Addr}{fd:FuncData}(F:Fun K "_law_arms" "_law_arms" (top 57) f fd) (F__law_mixed:Fnc P w K mg base "_law_mixed" 1 ["_law_cell","_law_factor"] [] sp_mixed) (F__law_lowest:Fnc P w K mg base "_law_lowest" 1 ["_law_top","_law_bottom"] [] sp_lowest) :
  FnOk P w K mg base (CX1 P w) 2 f fd ["_law_cell","_law_kind"] sp_arms:=by
 have S:=sc__law_arms
 k_head
 ·obtain⟨c,k,rfl,_⟩:=h
  rfl
 ·obtain⟨c,kd,rfl,k⟩:=h
  have hr__law_mixed:Room 1 _:=hr.mono ⋯
  have hr__law_lowest:Room 1 _:=hr.mono ⋯
  refine⟨_,(Za1 (Zb4 (i:=2) S.nd rfl (Or.inl rfl) (Zc1 F__law_mixed hr__law_mixed Zc2 (Za0 (pv 0) (Za0 Za3 Za2))))
   (Za1 (Zb4 (i:=3) S.nd rfl (Or.inl rfl) (Zc1 F__law_mixed hr__law_mixed Zc2 (Za0 (pv 0) (Za0 Za3 Za2))))
   (Za1 (ps_if (Zb7 op_eq (pv 1) Za3 (Zc6 _)) (Za5 (Za9 (pe_tup (Za0 (Zc1 F__law_lowest hr__law_lowest Zc2 (Za0 (Zc0 op_add Za3 (pv 2)) (Za0 (Zc0 op_add Za3 (Zc0 op_mod (pv 3) Za3)) Za2))) (Za0 (Zc1 F__law_lowest hr__law_lowest Zc2 (Za0 (Zc0 op_add Za3 (pv 3)) (Za0 (Zc0 op_add Za3 (Zc0 op_mod (pv 2) Za3)) Za2))) Za2))))) Zb9)
   (Za1 (ps_if (Zb7 op_eq (pv 1) Za3 (Zc6 _)) (Za5 (Za9 (pe_tup (Za0 (pe_tup (Za0 (Zc0 op_add Za3 (Zc0 op_mod (pv 2) Za3)) (Za0 Za3 Za2))) (Za0 (pe_tup (Za0 (Zc0 op_add Za3 (Zc0 op_mod (pv 3) Za3)) (Za0 Za3 Za2))) Za2))))) Zb9)
   (Za1 (Zb4 (i:=4) S.nd rfl (Or.inl rfl) (Zc0 op_add Za3 (Zc0 op_mod (Zc0 op_fdivP (pv 3) Za3) Za3)))
   (Za5 (Za9 (pe_tup (Za0 (Zc1 F__law_lowest hr__law_lowest Zc2 (Za0 (Zc0 op_add Za3 (Zc0 op_mod (pv 2) Za3)) (Za0 (pv 4) Za2))) (Za0 (Zc1 F__law_lowest hr__law_lowest Zc2 (Za0 (Zc0 op_add Za3 (Zc0 op_mod (pv 3) Za3)) (Za0 (pv 4) Za2))) Za2)))))))))),?_⟩
  k_one
  refine⟨_,_,rfl,by decide,by decide,fun n n0 n1=>?_⟩
  k_one
  refine⟨_,_,rfl,by decide,by decide,fun m m0 m1=>?_⟩
  k_one
  have d3:∀ z:Int,0<=z % 3/\z % 3<3:=fun z=>⟨Int.emod_nonneg z ⋯,Int.emod_lt_of_pos z ⋯⟩
  have d4:∀ z:Int,0<=z % 4/\z % 4<4:=fun z=>⟨Int.emod_nonneg z ⋯,Int.emod_lt_of_pos z ⋯⟩
  have p32:(2147483647:Int)<=2 ^ 32:=by decide
  have p89:(4:Int)<2 ^ 8999:=by ac_nf
  have pair:∀ {H2:Hp} {x y:V} {l r:Fr},Same H H2->FrV H2 x l->FrV H2 y r->Ar l->Ar r->(kd≠0->Sh l/\Sh r/\Sz l r)->∀ p,H2 p=none->Q (.ref p) (upd H2 p (.tup [x,y])):=fun {H2 x y l r} sm hx hy al ar hsh p hp=>
   k _ l r _ (fun b o e=>Za7 hp b o (sm b o e)) (.two Za4 (hx.upd hp) (hy.upd hp)) al ar hsh
  by_cases h0:kd=0
  ·simp only[h0,if_true]
   k_one
   have:=d3 m;have:=d4 n
   refine low_ok ∅ (sm_lt ∅ ∅) fun v H1 sm1 hv=>?_
   k_one
   refine low_ok ∅ (sm_lt ∅ ∅) fun u H2 sm2 hu=>?_
   k_one
   exact⟨by decide,pair (fun b o e=>sm2 b o (sm1 b o e)) (hv.same sm2) hu (low_ar ∅ ∅ ∅ ∅) (low_ar ∅ ∅ ∅ ∅) fun z=>absurd h0 z⟩
  ·simp only[h0,if_false]
   k_one
   by_cases h3:kd=3
   ·simp only[h3,if_true]
    k_one
    have:=d3 n;have:=d3 m
    refine⟨by decide,fun p1 hp1=>?_⟩
    k_one
    refine⟨by decide,fun p2 hp2=>?_⟩
    k_one
    have f1:FrV (upd (upd H p1 (.tup [.int (1+n % 3),.int 1])) p2 (.tup [.int (1+m % 3),.int 1])) (.ref p1) (1+n % 3,1):=⟨p1,rfl,by rw[Zb8 (Za8 Za4 hp2),Za4]⟩
    have s1:Sh (1+n % 3,1):=⟨by show 0<1+n % 3;omega,by show (0:Int)<1;decide,by show 1+n % 3<=4;omega,by show (1:Int)<=3;decide,Int.gcd_one⟩
    have s2:Sh (1+m % 3,1):=⟨by show 0<1+m % 3;omega,by show (0:Int)<1;decide,by show 1+m % 3<=4;omega,by show (1:Int)<=3;decide,Int.gcd_one⟩
    exact⟨by decide,pair (fun b o e=>Za7 hp2 b o (Za7 hp1 b o e)) f1 ⟨p2,rfl,Za4⟩ s1.ar s2.ar fun _=>⟨s1,s2,1+n % 3,1+m % 3,1,by omega,by omega,by omega,by omega,by decide,(low_self ⟨by show (0:Int)<1;decide,Int.gcd_one⟩).symm,(low_self ⟨by show (0:Int)<1;decide,Int.gcd_one⟩).symm⟩⟩
   ·simp only[h3,if_false]
    k_one
    have:=d3 (m / 4);have:=d4 n;have:=d4 m
    refine⟨⟨by decide,by ac_nf⟩,?_⟩
    k_one
    refine low_ok ∅ (sm_lt ∅ ∅) fun v H1 sm1 hv=>?_
    k_one
    refine low_ok ∅ (sm_lt ∅ ∅) fun u H2 sm2 hu=>?_
    k_one
    have s1:=low_sh (t:=1+n % 4) (b:=1+m / 4 % 3) ∅ ∅ ∅ ∅
    have s2:=low_sh (t:=1+m % 4) (b:=1+m / 4 % 3) ∅ ∅ ∅ ∅
    exact⟨by decide,pair (fun b o e=>sm2 b o (sm1 b o e)) (hv.same sm2) hu s1.ar s2.ar fun _=>⟨s1,s2,_,_,_,by omega,by omega,by omega,by omega,by omega,rfl,rfl⟩⟩
theorem sorted_ok {H:Hp}{d:Addr}{m:Mo}{Q:VK}(h:RowsAt H d m) (hn:m.nw<=200) (q:∀ l,H l=none->Q (.ref l) (upd H l (.lst ((m.places.map mkS).map .str)))):rSorted [.ref d] H Q:=by
 obtain⟨kvs,hd,hr⟩:=h
 obtain⟨ks,hk⟩:=hr.keys
 have hl:=hr.length hk
 have hs:=hr.size
 refine⟨d,kvs,ks,rfl,hd,hk,hl.1,by omega,fun l ks' hl' hp hsr=>?_⟩
 k_one
 rw[hr.sorted hk hp hsr]
 exact q l hl'
theorem places_small (m:Mo) (hn:m.nw<=200):(m.places.map mkS).length<sizeLine:=by
 have:=Mo.places_length m
 rw[List.length_map,sizeLine_eq];omega
theorem wtest {m:Mo}{p:Pl}{s:Mo}(hs:m.sub p=some s):decide ((s.row.length:Int)=1)=isWP m p:=by
 unfold isWP
 rw[Mo.rowAt_some hs,Option.any_some,Bool.eq_iff_iff]
 simp
 omega
def sp_spot:Sp:=fun vs H Q E=>∃ (d:Addr) (m:Mo) (c sh:Int) (nw:Pl),vs=[.ref d,.int c,.int sh,.str (mkS nw)]/\RowsAt H d m/\m.nw<=200/\(∃ a,m.sub nw=some (.wt a))/\∀ p a H',Same H H'->m.sub p=some (.wt a)->Q (.str (mkS p)) H'
theorem sc__law_spot:Zb0 ["_law_rows","_law_cell","_law_shape","_law_newest","_law_spots"] ["_law_rows","_law_cell","_law_shape","_law_newest"] (Za6 (top 58)):=nofun
theorem ok_spot (A:Adr K mg) {f:Addr}{fd:FuncData}(F:Fun K "_law_spot" "_law_spot" (top 58) f fd) (F__law_mixed:Fnc P w K mg base "_law_mixed" 1 ["_law_cell","_law_factor"] [] sp_mixed):FnOk P w K mg base (CX1 P w) 2 f fd ["_law_rows","_law_cell","_law_shape","_law_newest"] sp_spot:=by
 have S:=sc__law_spot
 k_head
 ·obtain⟨d,m,c,sh,nw,rfl,_⟩:=h
  rfl
 ·obtain⟨d,m,c,sh,nw,rfl,hd,hn,⟨a,ha⟩,k⟩:=h
  have hr__law_mixed:Room 1 _:=hr.mono ⋯
  have hu:=hu_of hr
  refine⟨_,(Za1 (ps_setC (i:=4) S.nd rfl rfl (tv:=["_law_place"]) (cap:=[0]) (compOk_of (Za6 (top 58)) ["_law_rows","_law_cell","_law_shape","_law_newest","_law_spots"] rfl rfl (by ac_nf) (by rfl)) rfl (pi_listK (K:=K) rfl (Zc3 (call_sorted rfl) (by rfl) A.n_sorted bt_sorted (Za0 (pv 0) Za2))) (fun _ _ _=>(pg_name (i:=0) (show (["_law_place","_law_rows"]:List Str).Nodup by ac_nf) rfl (Or.inl rfl) (Or.inr rfl))) (fun _ _ _=>(pts_one (Zb7 op_eq (Zc3 (lenK (K:=K) rfl) (by rfl) A.n_len bt_len (Za0 (pe_dget hu (pv 1) (pv 0) (fun _ _=>rfl)) Za2)) Za3 (Zc6 _)))) (fun _ _ _=>(pv 0)) (by rfl))
   (Za1 (ps_if (Zb7 op_eq (pv 2) Za3 (Zc6 _)) (Za5 (Za9 (Zb6 (ixL (K:=K) rfl) (pv 4) Za3 (fun _ _=>rfl)))) Zb9)
   (Za1 (ps_if (Zb7 op_eq (pv 2) Za3 (Zc6 _)) (Za5 (Za9 (Zb6 (ixL (K:=K) rfl) (pv 4) (pe_un un_neg Za3) (fun _ _=>rfl)))) Zb9)
   (Za1 (ps_if (Zb7 op_eq (pv 2) Za3 (Zc6 _)) (Za5 (Za9 (pv 3))) Zb9)
   (Za5 (Za9 (Zb6 (ixL (K:=K) rfl) (pv 4) (Zc0 op_mod (Zc0 op_fdivP (Zc1 F__law_mixed hr__law_mixed Zc2 (Za0 (pv 1) (Za0 Za3 Za2))) Za3) (Zc3 (lenK (K:=K) rfl) (by rfl) A.n_len bt_len (Za0 (pv 4) Za2))) (fun _ _=>rfl)))))))),?_⟩
  k_one
  refine sorted_ok hd hn fun l hl=>⟨l,rfl,⟨_,SqL.of Za4⟩,fun D hD=>?_⟩
  k_one
  have sm1:=Za7 (o:=.lst ((m.places.map mkS).map .str)) hl
  refine comp_fm (xs:=m.places.map mkS) (fun x=>isWP m (toP x)) .str (places_small m hn) hD (SqL.of Za4) (fun x hx ys R q=>?_) (fun x hx _ ys R q=>?_) ?_
  ·obtain⟨p,hp,rfl⟩:=List.mem_map.mp hx
   obtain⟨t,ht⟩:=(Mo.mem_places m p).mp hp
   rw[toP_mk] at q
   k_one
   refine rows_get ((hd.same sm1).same (Za7 hD)) ht fun v hv=>?_
   k_one
   refine len_ok (LenV.row hv) ?_
   k_one
   rw[wtest ht]
   exact q
  ·k_one
   exact q
  ·rw[wps_str]
   have smT:Same H (upd (upd H l (.lst ((m.places.map mkS).map .str))) D (.lst (((wps m).map mkS).map .str))):=fun b o e=>Za7 hD b o (sm1 b o e)
   have hin:∀ v∈((wps m).map mkS).map V.str,Q v (upd (upd H l (.lst ((m.places.map mkS).map .str))) D (.lst (((wps m).map mkS).map .str))):=fun v hv=>by
    obtain⟨x,hx,rfl⟩:=List.mem_map.mp hv
    obtain⟨p,hp,rfl⟩:=List.mem_map.mp hx
    obtain⟨a,ha⟩:=mem_wps.mp hp
    exact k p a _ smT ha
   have hlen:0<(wps m).length:=List.length_pos_iff.mpr (wps_ne m)
   have hlw:(((wps m).map mkS).map V.str).length=(wps m).length:=by rw[List.length_map,List.length_map]
   k_one
   by_cases c1:sh=1
   ·rw[if_pos c1]
    exact ixL_mem (SqL.of Za4) ∅ ∅ hin
   ·rw[if_neg c1]
    k_one
    by_cases c2:sh=2
    ·rw[if_pos c2]
     exact ixL_mem (SqL.of Za4) ∅ ∅ hin
    ·rw[if_neg c2]
     k_one
     by_cases c3:sh=3
     ·rw[if_pos c3]
      exact k nw a _ smT ha
     ·rw[if_neg c3]
      k_one
      refine⟨_,_,rfl,by decide,by decide,fun n n0 n1=>⟨_,rfl,⟨by decide,by ac_nf⟩,?_⟩⟩
      k_one
      refine len_ok (.inl ⟨_,SqL.of Za4,rfl⟩) ⟨_,rfl,by omega,?_⟩
      k_one
      have h1:=Int.emod_nonneg (n / 16) (show (((((wps m).map mkS).map V.str).length:Nat):Int)≠0 by omega)
      have h2:=Int.emod_lt_of_pos (n / 16) (show (0:Int)<(((((wps m).map mkS).map V.str).length:Nat):Int) by omega)
      exact ixL_mem (SqL.of Za4) ∅ ∅ hin
theorem lr_index {j:Int}(h:j=0\/j=1) {H:Hp}{Q:VK}(q:∀ c:Nat,c=108\/c=114->Q (.str (mkS [c])) H):rIxS (.str ("lr" : Str)) (.int j) H Q:=by
 rcases h with rfl | rfl
 ·exact⟨"lr",0,108,rfl,rfl,by decide,by ac_nf,q 108 (.inl rfl)⟩
 ·exact⟨"lr",1,114,rfl,rfl,by decide,by ac_nf,q 114 (.inr rfl)⟩
theorem cut_int {ns:List Int}{lo hi:Option Int}{x:V}(h:x∈cutV (ns.map V.int) lo hi):∃ c,x = .int c:=by
 unfold cutV at h
 have:=List.mem_of_mem_drop (List.mem_of_mem_take h)
 obtain⟨c,_,rfl⟩:=List.mem_map.mp this
 exact⟨c,rfl⟩
theorem sub_len:∀ {m:Mo}{p:Pl}{s:Mo},m.sub p=some s->p.length<=m.depth
 | m,[],s,_=>Nat.zero_le _
 | .wt a,c::p,s,h=>by cases h
 | .rod l x r y,c::p,s,h=>by
  simp only[Mo.sub] at h
  simp only[List.length_cons,Mo.depth]
  split at h
  ·have:=sub_len h;omega
  ·split at h
   ·have:=sub_len h;omega
   ·cases h
theorem short_sm {x:Fr}(h0:0<x.1) (h1:0<x.2) (h2:x.1<=24) (h3:x.2<=9):Sm 4000 x.1/\Sm 4000 x.2:=by
 have p:(24:Int)<2 ^ 4000:=by ac_nf
 exact⟨small_of h0 ∅,small_of h1 ∅⟩
theorem ftimes_sm {x y:Fr}(hx:0<x.2) (hy:0<y.2) (s1:Sm 3900 x.1) (s2:Sm 3900 x.2) (u1:Sm 40 y.1) (u2:Sm 40 y.2):Sm 4000 (Zb1 x y).1/\Sm 4000 (Zb1 x y).2:=by
 have hp:=Int.mul_pos hx hy
 exact⟨((Sm.mul s1 u1).of_le (nt_le ∅)).mono ⋯,((Sm.mul s2 u2).of_le (nb_le ∅)).mono ⋯⟩
def sp_grown (K:PySem.W.Frag):Sp:=fun vs H Q E=>∃ (a:Addr) (ns:List Int) (kd sh:Int),vs=[.ref a,.int kd,.int sh]/\SqL K H a (ns.map V.int)/\ns.length<=63 /\
 ∀ d m kvs H',H d=none->Same H H'->H' d=some (.dK kvs)->RowsK H' kvs m->Good 63 m->(kd≠0->m.All (fun _=>True) Sh)->m.nw<=64->Q (.ref d) H'
theorem sc__law_grown:Zb0 ["_law_script","_law_kind","_law_shape","_law_rows","_law_newest","_law_cell","_law_at","_law_old","_law_arms_here","_law_length"] ["_law_script","_law_kind","_law_shape"] (Za6 (top 59)):=nofun
theorem ok_grown (A:Adr K mg) {f:Addr}{fd:FuncData}(F:Fun K "_law_grown" "_law_grown" (top 59) f fd) (F__law_cell_at:Fnc P w K mg base "_law_cell_at" 1 ["_law_script","_law_k"] [] (sp_cell K)) (F__law_amount:Fnc P w K mg base "_law_amount" 2 ["_law_cell","_law_kind"] [] sp_amount)
  (F__law_spot:Fnc P w K mg base "_law_spot" 2 ["_law_rows","_law_cell","_law_shape","_law_newest"] [] sp_spot) (F__law_arms:Fnc P w K mg base "_law_arms" 2 ["_law_cell","_law_kind"] [] sp_arms) (F__law_mixed:Fnc P w K mg base "_law_mixed" 1 ["_law_cell","_law_factor"] [] sp_mixed)
  (F__law_sum:Fnc P w K mg base "_law_sum" 2 ["_law_one","_law_other"] [] sp_sum) (F__law_product:Fnc P w K mg base "_law_product" 2 ["_law_one","_law_other"] [] sp_product) (F__law_quotient:Fnc P w K mg base "_law_quotient" 2 ["_law_one","_law_other"] [] sp_quotient) :
  FnOk P w K mg base (CX1 P w) 3 f fd ["_law_script","_law_kind","_law_shape"] (sp_grown K):=by
 have S:=sc__law_grown
 k_head
 ·obtain⟨a,ns,kd,sh,rfl,_⟩:=h
  rfl
 ·obtain⟨a,ns,kd,sh,rfl,hs,hn,k⟩:=h
  have hr__law_cell_at:Room 1 _:=hr.mono ⋯
  have hr__law_amount:Room 2 _:=hr.mono ⋯
  have hr__law_spot:Room 2 _:=hr.mono ⋯
  have hr__law_arms:Room 2 _:=hr.mono ⋯
  have hr__law_mixed:Room 1 _:=hr.mono ⋯
  have hr__law_sum:Room 2 _:=hr.mono ⋯
  have hr__law_product:Room 2 _:=hr.mono ⋯
  have hr__law_quotient:Room 2 _:=hr.mono ⋯
  have hu:=hu_of hr
  refine⟨_,(Za1 (Zb4 (i:=3) S.nd rfl (Or.inl rfl) (pe_disp (pps_cons Zc7 (pe_tup (Za0 (Zc1 F__law_amount hr__law_amount Zc2 (Za0 (Zc1 F__law_cell_at hr__law_cell_at Zc2 (Za0 (pv 0) (Za0 Za3 Za2))) (Za0 (pv 1) Za2))) Za2)) pps_nil) rfl rfl (by simp) ⋯))
   (Za1 (Zb4 (i:=4) S.nd rfl (Or.inl rfl) Zc7)
   (Za1 (ps_for PassesOwn.never rfl (pi_listK (K:=K) rfl (pe_slice (slL (K:=K) rfl) (pv 0) (po_some Za3) (po_some Za3))) (pg_name (i:=5) S.nd rfl (Or.inl rfl)) (Za1 (Zb4 (i:=6) S.nd rfl (Or.inl rfl) (Zc1 F__law_spot hr__law_spot Zc2 (Za0 (pv 3) (Za0 (pv 5) (Za0 (pv 2) (Za0 (pv 4) Za2))))))
   (Za1 (Zb4 (i:=7) S.nd rfl (Or.inl rfl) (Zb6 (ixT (K:=K) rfl) (pe_dget hu (pv 3) (pv 6) (fun _ _=>rfl)) Za3 (fun _ _=>rfl)))
   (Za1 (Zb4 (i:=8) S.nd rfl (Or.inl rfl) (Zc1 F__law_arms hr__law_arms Zc2 (Za0 (pv 5) (Za0 (pv 1) Za2))))
   (Za1 (Zb4 (i:=4) S.nd rfl (Or.inl rfl) (Zc0 Zb3 (pv 6) (Zb6 ix_str Zc7 (Zc0 op_mod (Zc0 op_fdivP (Zc1 F__law_mixed hr__law_mixed Zc2 (Za0 (pv 5) (Za0 Za3 Za2))) Za3) Za3) (fun _ _=>rfl))))
   (Za1 (ps_dput hu (pv 3) (pv 6) (pv 8) rfl)
   (Za1 (ps_dput hu (pv 3) (Zc0 Zb3 (pv 6) Zc7) (pe_tup (Za0 (pv 7) Za2)) rfl)
   (Za1 (ps_dput hu (pv 3) (Zc0 Zb3 (pv 6) Zc7) (pe_tup (Za0 (pv 7) Za2)) rfl)
   (Za5 (ps_if (PW.pt (pw_or (Zb7 op_eq (pv 1) Za3 (Zc6 _)) (pw_or1 (Zb7 op_eq (pv 1) Za3 (Zc6 _))))) (Za5 (ps_dput hu (pv 3) (pv 4) (pe_tup (Za0 (Zc1 F__law_amount hr__law_amount Zc2 (Za0 (pv 5) (Za0 (pv 1) Za2))) Za2)) rfl)) (Za1 (Zb4 (i:=9) S.nd rfl (Or.inl rfl) (Zc1 F__law_sum hr__law_sum Zc2 (Za0 (Zb6 (ixT (K:=K) rfl) (pv 8) Za3 (fun _ _=>rfl)) (Za0 (Zb6 (ixT (K:=K) rfl) (pv 8) Za3 (fun _ _=>rfl)) Za2))))
   (Za1 (ps_dput hu (pv 3) (Zc0 Zb3 (pv 6) Zc7) (pe_tup (Za0 (Zc1 F__law_quotient hr__law_quotient Zc2 (Za0 (Zc1 F__law_product hr__law_product Zc2 (Za0 (pv 7) (Za0 (Zb6 (ixT (K:=K) rfl) (pv 8) Za3 (fun _ _=>rfl)) Za2))) (Za0 (pv 9) Za2))) Za2)) rfl)
   (Za5 (ps_dput hu (pv 3) (Zc0 Zb3 (pv 6) Zc7) (pe_tup (Za0 (Zc1 F__law_quotient hr__law_quotient Zc2 (Za0 (Zc1 F__law_product hr__law_product Zc2 (Za0 (pv 7) (Za0 (Zb6 (ixT (K:=K) rfl) (pv 8) Za3 (fun _ _=>rfl)) Za2))) (Za0 (pv 9) Za2))) Za2)) rfl))))))))))))))
   (Za5 (Za9 (pv 3)))))),?_⟩
  k_one
  intro d hd0
  refine⟨a,ns,1,rfl,(Za7 hd0).sql hs,?_⟩
  k_one
  refine⟨_,kd,rfl,fun v f0 H1 sm1 hv am=>⟨by decide,fun p1 hp1=>?_⟩⟩
  k_one
  have hd1:H1 d=some (.dK []):=sm1 _ _ Za4
  refine⟨by rw[Zb8 (Za8 hd1 hp1)];exact hd1,[(.inr "",.ref p1)],rfl,by show 1<=15;decide,?_⟩
  k_one
  have smH1:Same H H1:=fun b o e=>sm1 b o (Za7 hd0 b o e)
  have smG:Same H (upd (upd H1 p1 (.tup [v])) d (.dK (mergeK [] [(.inr "",.ref p1)]))):=fun b o e=>by
   rw[Zb8 (Za8 e hd0),Zb8 (Za8 (smH1 b o e) hp1)];exact smH1 b o e
  have hG:DictF (upd (upd H1 p1 (.tup [v])) d (.dK (mergeK [] [(.inr "",.ref p1)]))) d 1 (Mo.wt f0).rowAt:=by
   refine⟨_,Za4,by show 1<=1;decide,?_⟩
   k_one
   have hv':FrV (upd (upd H1 p1 (.tup [v])) d (.dK (mergeK [] [(.inr "",.ref p1)]))) v f0:=by
    obtain⟨q,e,hq⟩:=hv
    refine⟨q,e,?_⟩
    k_one
    rw[Zb8 (ne_of hq hd1 (by intro z;cases z)),Zb8 (Za8 hq hp1)]
    exact hq
   have hp1':upd (upd H1 p1 (.tup [v])) d (.dK (mergeK [] [(.inr "",.ref p1)])) p1=some (.tup [v]):=by
    rw[Zb8 (fun z=>by rw[←z,hp1] at hd1;cases hd1),Za4]
   refine RowsK.toF ⟨⟨[""],rfl⟩,by simp[mergeK,putK],fun p r e=>?_,fun p e=>?_⟩
   ·cases p with
    | nil=>
     cases e
     refine⟨.ref p1,?_,.one hp1' hv'⟩
     rw[←s_empty]
     rfl
    | cons c p=>cases e
   ·cases p with
    | nil=>cases e
    | cons c p=>
     show valV (putK [] (Sum.inr "" : Key) (.ref p1)) _=none
     rw[valV_put,if_neg,valV_nil]
     intro z
     rw[s_empty] at z
     have:=mkS_inj.mp (Sum.inr.inj z)
     cases this
  generalize upd (upd H1 p1 (.tup [v])) d (.dK (mergeK [] [(.inr "",.ref p1)]))=G0 at smG hG ⊢
  refine⟨a,_,rfl,smG.sql hs,fun ls hls=>⟨ls,rfl,⟨_,SqL.of Za4⟩,?_⟩⟩
  k_one
  have hlen:=cutV_length (ns.map V.int) (some 2) (some 65)
  rw[List.length_map] at hlen
  have hcut:∀ x∈cutV (ns.map V.int) (some 2) (some 65),∃ c,x = .int c:=fun x h=>cut_int h
  generalize cutV (ns.map V.int) (some 2) (some 65)=cells at hlen hcut ⊢
  refine for_listN (xs:=cells) (fun i σ H'=>∃ m q o5 o6 o7 o8 o9,σ=[some (.ref a),some (.int kd),some (.int sh),some (.ref d),some (.str (mkS q)),o5,o6,o7,o8,o9]/\DictF H' d (1+6*i) (Mo.rowAt m)/\m.nw=i+1/\Good i m/\(kd≠0->m.All (fun _=>True) Sh)/\(∃ b,m.sub q=some (.wt b))/\Same H H'/\H' ls=some (.lst cells))
   ⟨.wt f0,[],none,none,none,none,none,by rw[←s_empty],hG.new hls,rfl,am,fun _=>trivial,⟨f0,rfl⟩,fun b o e=>Za7 hls b o (smG b o e),Za4⟩ ?_ ?_ ?_
  ·rintro i σ H' hi ⟨m,q,o5,o6,o7,o8,o9,rfl,_,_,_,_,_,_,hls'⟩
   exact SqL.of hls'
  ·rintro i x σ H' N hx ⟨m,q,o5,o6,o7,o8,o9,rfl,hD,hnw,hg,hgs,⟨b,hb⟩,sm,hls'⟩ hN
   obtain⟨c,rfl⟩:=hcut x (List.mem_of_getElem? hx)
   have hi:i<cells.length:=by
    rcases Nat.lt_or_ge i cells.length with h | h
    ·exact h
    ·rw[List.getElem?_eq_none_iff.mpr h] at hx;cases hx
   k_one
   have hR:∀ {H1:Hp},Same H' H1->RowsAt H1 d m:=fun {H1} sm1=>by
    obtain⟨kvs,e1,_,e3⟩:=(hD.same sm1).ex
    exact⟨kvs,.inl e1,e3.toK fun _=>rfl⟩
   refine⟨d,m,c,sh,q,rfl,hR (fun _ _ e=>e),by omega,⟨b,hb⟩,fun p a0 H1 sm1 hp=>?_⟩
   k_one
   have hpl:p.length<=64:=by
    have:=sub_len hp
    have:=Mo.depth_lt m
    omega
   refine rows_get (hR sm1) hp fun vr hvr=>?_
   k_one
   refine row0 hvr fun x0 hx0=>?_
   k_one
   refine⟨c,kd,rfl,fun va l r H2 sm2 hva al ar hsh=>?_⟩
   k_one
   refine⟨_,_,rfl,by decide,by decide,fun n n0 n1=>?_⟩
   k_one
   refine⟨⟨by decide,by ac_nf⟩,?_⟩
   k_one
   have e2:n / 32 % 2=0\/n / 32 % 2=1:=by omega
   refine lr_index e2 fun c0 hc0=>⟨_,rfl,by rw[Zc4,Zc4,sizeLine_eq];show p.length+1<=_;omega,?_⟩
   k_one
   rw[mkS_app]
   have l64:p.length<=4096:=by omega
   have D2:DictF H2 d (1+6*i) m.rowAt:=(hD.same sm1).same sm2
   have W2:Wk d H' H2:=(Wk.of sm1).trans (.of sm2)
   have x2:FrV H2 x0 a0:=hx0.same sm2
   have fin:∀ (Hc:Hp) (k':Nat) (F':Pl->Option (List Fr)) (a1 a2:Fr) (o:Option V),DictF Hc d k' F'->k'<=1+6*(i+1)->Wk d H' Hc->(∀ q,(m.put p (.rod l (.wt a1) r (.wt a2))).rowAt q=F' q)->Am (i+1) a1->Am (i+1) a2 ->
     N [some (.ref a),some (.int kd),some (.int sh),some (.ref d),some (.str (mkS (p++[c0]))),some (.int c),some (.str (mkS p)),some x0,some va,o] Hc:=fun Hc k' F' a1 a2 o hDc hk' W hF m1 m2=>by
    refine hN _ _ ⟨m.put p (.rod l (.wt a1) r (.wt a2)),p++[c0],_,_,_,_,_,rfl,hDc.mono hk' hF,?_,?_,?_,?_,?_,?_⟩
    ·have:=Mo.nw_put m p (.rod l (.wt a1) r (.wt a2)) (.wt a0) hp
     simp only[Mo.nw] at this
     omega
    ·have g':Mo.All (Am (i+1)) Ar (.rod l (.wt a1) r (.wt a2)):=⟨al,ar,m1,m2⟩
     exact Mo.All.put g' (Mo.All.mono (fun _ z=>z.succ) (fun _ z=>z) hg)
    ·intro hk
     have g':Mo.All (fun _=>True) Sh (.rod l (.wt a1) r (.wt a2)):=⟨(hsh hk).1,(hsh hk).2.1,trivial,trivial⟩
     exact Mo.All.put g' (hgs hk)
    ·rcases hc0 with rfl | rfl
     ·exact⟨a1,by rw[Mo.sub_put m p _ _ ⟨_,hp⟩];rfl⟩
     ·exact⟨a2,by rw[Mo.sub_put m p _ _ ⟨_,hp⟩];rfl⟩
    ·intro b' o' e
     exact W.sx b' o' (Za8 e hd0) (sm b' o' e)
    ·obtain⟨kvs,e1,_⟩:=hD.ex
     exact W.sx _ _ (ne_of hls' e1 (by intro z;cases z)) hls'
   have hga:Am i a0:=by
    have:=Mo.All.sub hg hp
    exact this
   refine D2.put ∅ hva fun H3 D3 w3=>?_
   k_one
   refine⟨by decide,fun q1 hq1=>⟨len_l p l64,?_⟩⟩
   k_one
   rw[add_l]
   have x3:=x2.kp w3.kp
   refine (D3.new hq1).put ∅ (.one Za4 (x3.upd hq1)) fun H4 D4 w4=>?_
   k_one
   refine⟨by decide,fun q2 hq2=>⟨len_r p l64,?_⟩⟩
   k_one
   rw[add_r]
   have x4:=(x3.upd hq1).kp w4.kp
   refine (D4.new hq2).put ∅ (.one Za4 (x4.upd hq2)) fun H5 D5 w5=>?_
   k_one
   have W5:Wk d H' H5:=(((W2.trans w3).new hq1).trans w4 |>.new hq2).trans w5
   have x5:=(x4.upd hq2).kp w5.kp
   have v5:RowV H5 va [l,r]:=hva.kp ((((w3.new hq1).trans w4).new hq2).trans w5).kp
   have one:sp_amount [.int c,.int kd] H5 (fun x_1 H1=>1<=sizeLine/\∀ p_3,H1 p_3=none->rDPut (V.ref p_3) (V.ref d) (V.str (mkS (p++[c0]))) (upd H1 p_3 (HO.tup [x_1])) fun H4=>
     N [some (.ref a),some (.int kd),some (.int sh),some (.ref d),some (.str (mkS (p++[c0]))),some (.int c),some (.str (mkS p)),some x0,some va,o9] H4) E0:=by
    refine⟨c,kd,rfl,fun vf f6 H6 sm6 h6 am6=>⟨by decide,fun q3 hq3=>?_⟩⟩
    k_one
    refine ((D5.same sm6).new hq3).put ∅ (.one Za4 (h6.upd hq3)) fun H7 D7 w7=>?_
    k_one
    have W7:Wk d H' H7:=((W5.trans (.of sm6)).new hq3).trans w7
    rcases hc0 with rfl | rfl
    ·refine fin H7 _ _ f6 a0 _ D7 ∅ W7 (fun q=>?_) (am6.le ∅) hga.succ
     rw[Mo.rowAt_grow hp]
     by_cases z1:q=p++[108]
     ·subst z1;simp
     ·simp only[z1,if_false]
    ·refine fin H7 _ _ a0 f6 _ D7 ∅ W7 (fun q=>?_) hga.succ (am6.le ∅)
     rw[Mo.rowAt_grow hp]
     by_cases z1:q=p++[114]
     ·subst z1;simp
     ·simp only[z1,if_false]
      k_one
   by_cases k0:kd=0
   ·rw[if_pos k0];exact one
   rw[if_neg k0]
   by_cases k3:kd=3
   ·rw[if_pos k3];exact one
   rw[if_neg k3]
   obtain⟨sl,sr,sz⟩:=hsh k0
   have as:=(hga.le (show i<=64 by omega)).small
   have hlL:=fplus_short sl.t sl.b sl.tl sl.bl sr.t sr.b sr.tl sr.bl
   have ls:=short_sm (x:=Zd0 l r) hlL.1 hlL.2.1 hlL.2.2.1 hlL.2.2.2
   have t1:=ftimes_sm hga.b sr.b as.1 as.2 sr.ar.small.1 sr.ar.small.2
   have t2:=ftimes_sm hga.b sl.b as.1 as.2 sl.ar.small.1 sl.ar.small.2
   have p1':=low_pos (Int.mul_pos hga.t sr.t) (Int.mul_pos hga.b sr.b)
   have p2':=low_pos (Int.mul_pos hga.t sl.t) (Int.mul_pos hga.b sl.b)
   k_one
   refine row0 v5 fun y1 hy1=>?_
   k_one
   refine row1 v5 fun y2 hy2=>?_
   k_one
   refine⟨y1,y2,l,r,rfl,hy1,hy2,sl.b,sr.b,sl.ar.small.1.mono ⋯,sl.ar.small.2.mono ⋯,sr.ar.small.1.mono ⋯,sr.ar.small.2.mono ⋯,fun vl H6 sm6 hl6=>?_⟩
   k_one
   refine row1 (v5.kp sm6.kp) fun y3 hy3=>?_
   k_one
   refine⟨x0,y3,a0,r,rfl,x5.same sm6,hy3,hga.b,sr.b,as.1.mono ⋯,as.2.mono ⋯,sr.ar.small.1.mono ⋯,sr.ar.small.2.mono ⋯,fun w1 H7 sm7 h7=>?_⟩
   k_one
   refine⟨w1,vl,Zb1 a0 r,Zd0 l r,rfl,h7,hl6.same sm7,p1'.2,hlL.1,t1.1,t1.2,ls.1,ls.2,fun w2 H8 sm8 h8=>?_⟩
   k_one
   refine⟨by decide,fun q3 hq3=>⟨len_l p l64,?_⟩⟩
   k_one
   rw[add_l]
   have s68:Same H5 H8:=fun b o e=>sm8 b o (sm7 b o (sm6 b o e))
   refine ((D5.same s68).new hq3).put ∅ (.one Za4 (h8.upd hq3)) fun H9 D9 w9=>?_
   k_one
   have W9:Wk d H5 H9:=((Wk.of s68).new hq3).trans w9
   have hl9:FrV H9 vl (Zd0 l r):=((hl6.same sm7).same sm8 |>.upd hq3).kp w9.kp
   refine row0 (v5.kp W9.kp) fun y4 hy4=>?_
   k_one
   refine⟨x0,y4,a0,l,rfl,x5.kp W9.kp,hy4,hga.b,sl.b,as.1.mono ⋯,as.2.mono ⋯,sl.ar.small.1.mono ⋯,sl.ar.small.2.mono ⋯,fun w3 H10 sm10 h10=>?_⟩
   k_one
   refine⟨w3,vl,Zb1 a0 l,Zd0 l r,rfl,h10,hl9.same sm10,p2'.2,hlL.1,t2.1,t2.2,ls.1,ls.2,fun w4 H11 sm11 h11=>?_⟩
   k_one
   refine⟨by decide,fun q4 hq4=>⟨len_r p l64,?_⟩⟩
   k_one
   rw[add_r]
   have s1011:Same H9 H11:=fun b o e=>sm11 b o (sm10 b o e)
   refine ((D9.same s1011).new hq4).put ∅ (.one Za4 (h11.upd hq4)) fun H12 D12 w12=>?_
   k_one
   have W12:Wk d H' H12:=(((W5.trans W9).trans (.of s1011)).new hq4).trans w12
   refine fin H12 _ _ (fover (Zb1 a0 r) (Zd0 l r)) (fover (Zb1 a0 l) (Zd0 l r)) _ D12 ∅ W12 (fun q=>?_)
    (Am.part2 hga sz) (by rw[fplus_comm];exact Am.part2 hga sz.swap)
   rw[Mo.rowAt_grow hp]
   by_cases z1:q=p++[114]
   ·subst z1;simp
   ·by_cases z2:q=p++[108]
    ·subst z2;simp
    ·simp only[z1,z2,if_false]
  ·rintro σ H' ⟨m,q,o5,o6,o7,o8,o9,rfl,hD,hnw,hg,hgs,_,sm,_⟩
   obtain⟨kvs,e1,_,e3⟩:=hD.ex
   k_one
   exact k d m kvs H' hd0 sm e1 (e3.toK fun _=>rfl) (Mo.All.mono (fun _ z=>z.le ∅) (fun _ z=>z) hg) hgs ∅
section
local macro_rules | `(tactic| walk_at "vc") => `(tactic| simp only [L2.tSeq, L2.tAsg, L2.tRet, L2.tOp, L2.tUn, L2.tTest, L2.tVar, L2.tC, L2.gName, L2.gSub, L2.rI, L2.rI0, L2.rU, L2.rNe, L2.rEq, L2.tIfS, L2.tNext, L2.tCall, L2.tCons, L2.tNil, L2.tTup, L2.tLst, L2.tCB, L2.tB, L2.tNot, L2.tNotV, L2.tAnd, L2.tOr, L2.tAndV, L2.tOrV, L2.tDrop, L2.tRaise, L2.tTry, L2.start, L2.capS, L2.tFld_def, L2.sFld_def, L2.tDyn, L2.tMake_def, L2.tBM, L2.tDisp, L2.tPairs, L2.tComp, L2.iList, L2.iRev, L2.iDict, L2.tFor_def, L2.tDGet_def, L2.sDPut_def, L2.tDNotIn_def, L2.tSl, L2.tPart, L2.tNoPart,
 List.map_cons,List.map_nil,List.length_cons,List.length_nil,List.replicate,List.cons_append,List.nil_append,List.append_nil,Nat.zero_add,Nat.reduceAdd,Nat.reduceSub,List.getElem?_cons_zero,List.getElem?_cons_succ,List.set_cons_zero,List.set_cons_succ,Option.some.injEq,Option.join_some,L2.V.int.injEq,L2.V.bl.injEq,L2.V.ref.injEq,L2.V.str.injEq,exists_eq_left,exists_eq_left',exists_eq',exists_eq,and_true,true_and,List.cons.injEq,and_assoc,exists_and_left,exists_and_right,L2.scal_int,L2.scal_bl,L2.scal_str,
 decide_eq_true_eq,decide_eq_false_iff_not,Bool.not_eq_true',Bool.not_true,Bool.not_false,Bool.false_eq_true,Bool.true_eq_false,if_true,if_false,reduceIte,decide_true,decide_false,Int.cast_ofNat_Int,eq_self,not_true_eq_false,not_false_eq_true,Int.reduceEq,Int.reduceLT,Int.zero_add])
local macro_rules | `(tactic| walk_at "go") => `(tactic| repeat (first | (refine L2.fr0 (by assumption) ?_) | (refine L2.fr1 (by assumption) ?_) | walk_at "vc"))
local macro_rules | `(tactic| walk_at "gm") => `(tactic| repeat (first | (refine L2.fr0 (by assumption) ?_) | (refine L2.fr1 (by assumption) ?_) | (refine And.intro (L2.mulOkS (by assumption) (by assumption) ⋯) ?_) | walk_at "vc"))
local macro_rules | `(tactic| k_one) => `(tactic| try walk_at "vc")
def sp_ends:Sp:=fun vs H Q E=>∃ c k:Int,vs=[.int c,.int k]/\∀ v l r H',Same H H'->RowV H' v [l,r]->Ar l->Ar r->Q v H'
theorem sc__law_ends:Zb0 ["_law_head","_law_kind","_law_arms_here"] ["_law_head","_law_kind"] (Za6 (top 63)):=nofun
theorem ok_ends (A:Adr K mg) {f:Addr}{fd:FuncData}(F:Fun K "_law_ends" "_law_ends" (top 63) f fd) (F__law_arms:Fnc P w K mg base "_law_arms" 2 ["_law_cell","_law_kind"] [] sp_arms):FnOk P w K mg base (CX1 P w) 3 f fd ["_law_head","_law_kind"] sp_ends:=by
 have S:=sc__law_ends
 k_head
 ·obtain⟨c,k,rfl,_⟩:=h
  rfl
 ·obtain⟨c,kd,rfl,k⟩:=h
  have hr__law_arms:Room 2 _:=hr
  refine⟨_,(Za1 (Zb4 (i:=2) S.nd rfl (Or.inl rfl) (Zc1 F__law_arms hr__law_arms Zc2 (Za0 (Zc0 op_fdivP (pv 0) Za3) (Za0 (pv 1) Za2))))
   (Za5 (Za9 (Zb6 (ixL (K:=K) rfl) (pe_lst (Za0 (pv 2) (Za0 (pe_tup (Za0 (Zb6 (ixT (K:=K) rfl) (pv 2) Za3 (fun _ _=>rfl)) (Za0 (Zb6 (ixT (K:=K) rfl) (pv 2) Za3 (fun _ _=>rfl)) Za2))) Za2))) (Zc0 op_mod (Zc0 op_fdivP (pv 0) Za3) Za3) (fun _ _=>rfl))))),?_⟩
  walk_at "vc"
  refine⟨⟨by decide,by ac_nf⟩,_,kd,rfl,fun v l r H1 sm1 hv al ar _=>?_⟩
  refine row0 hv fun x0 hx0=>row0 hv fun x1 hx1=>⟨by decide,fun p hp=>⟨by decide,fun q hq=>⟨⟨by decide,by ac_nf⟩,?_⟩⟩⟩
  refine ixL_mem (SqL.of Za4) (by simp;omega) (by simp;omega) fun v' hv'=>?_
  have sm2:Same H1 (upd (upd H1 p (.tup [x0,x1])) q (.lst [v,.ref p])):=fun b o e=>Za7 hq b o (Za7 hp b o e)
  have sm3:Same H (upd (upd H1 p (.tup [x0,x1])) q (.lst [v,.ref p])):=fun b o e=>sm2 b o (sm1 b o e)
  rcases List.mem_cons.mp hv' with rfl | hv'
  ·exact k _ l r _ sm3 (hv.kp sm2.kp) al ar
  ·rw[List.mem_singleton.mp hv']
   exact k _ l l _ sm3 (.two (by rw[Zb8 (Za8 Za4 hq)];exact Za4) (hx0.same sm2) (hx1.same sm2)) al al
def sp_made (cW cR:Addr) (n:Nat):Sp:=fun vs H Q E=>∃ d p kv m s k,vs=[.ref d,.str (mkS p),kv]/\RowsAt H d m/\m.sub p=some s/\s.depth<n/\p.length+n<=1000/\Good 64 s/\Kept cW cR H kv k/\k+s.nw<=1000 /\
 ∀ v H',WkV kv H H'->Kept cW cR H' kv (k+s.nw)->Th cW cR H' v s->Q v H'
theorem sc__law_made:Zb0 ["_law_rows","_law_place","_law_kept","_law_row"] ["_law_rows","_law_place","_law_kept"] (Za6 (top 61)):=nofun
theorem ok_made (A:Adr K mg) {f:Addr}{fd:FuncData}(F:Fun K "_law_made" "_law_made" (top 61) f fd) (DF:∀ k sp,FnOk P w K mg base (CX1 P w) k f fd ["_law_rows","_law_place","_law_kept"] sp->Fnc P w K mg base "_law_made" k ["_law_rows","_law_place","_law_kept"] [] sp)
  (M_Weight:Mkr P w K mg base "Weight" A.c_Weight 3 ["self","amount"] [] (sp_winit A.c_NoNumber A.c_Weight)) (M_Rod:Mkr P w K mg base "Rod" A.c_Rod 3 ["self","left_arm","left","right_arm","right"] [] (sp_rinit A.c_NoNumber A.c_Rod)) :
  ∀ n,FnOk P w K mg base (CX1 P w) (n+5) f fd ["_law_rows","_law_place","_law_kept"] (sp_made A.c_Weight A.c_Rod n):=by
 have S:=sc__law_made
 have len:∀ n vs H Q E,sp_made A.c_Weight A.c_Rod n vs H Q E->vs.length=3:=by
  rintro n vs H Q E ⟨d,p,kv,m,s,k,rfl,_⟩
  rfl
 intro n
 induction n with
 | zero=>
  refine F.okN S (len 0) (fun cdv A' outer s H vs Q E hr h=>?_)
  obtain⟨d,p,kv,m,s,k,rfl,hd,hp,hn,_⟩:=h
  omega
 | succ n ih=>
  have F__law_made:=DF _ _ ih
  refine F.okN S (len (n+1)) (fun cdv A' outer s H vs Q E hr h=>?_)
  obtain⟨d,p,kv,m,s,k,rfl,hd,hp,hn,hl,hg,hk,hkn,q⟩:=h
  have hr_Weight:Room 4 _:=hr.mono ∅
  have hr_Rod:Room 4 _:=hr.mono ∅
  have hr__law_made:Room (n+5) _:=hr
  have hu:=hu_of hr
  have hne:=hk.ne hd
  refine⟨_,(Za1 (Zb4 (i:=3) S.nd rfl (Or.inl rfl) (pe_dget hu (pv 0) (pv 1) (fun _ _=>rfl)))
   (Za1 (ps_if (Zb7 op_eq (Zc3 (lenK (K:=K) rfl) (by rfl) A.n_len bt_len (Za0 (pv 3) Za2)) Za3 (Zc6 _)) (Za5 (Za9 (pe_mk M_Rod hr_Rod Zc2 (Za0 (Zb6 (ixT (K:=K) rfl) (pv 3) Za3 (fun _ _=>rfl)) (Za0 (Zc1 F__law_made hr__law_made Zc2 (Za0 (pv 0) (Za0 (Zc0 Zb3 (pv 1) Zc7) (Za0 (pv 2) Za2)))) (Za0 (Zb6 (ixT (K:=K) rfl) (pv 3) Za3 (fun _ _=>rfl)) (Za0 (Zc1 F__law_made hr__law_made Zc2 (Za0 (pv 0) (Za0 (Zc0 Zb3 (pv 1) Zc7) (Za0 (pv 2) Za2)))) Za2))))))) Zb9)
   (Za1 (ps_if (pt_cmp (pc_isN (pv 2))) (Za5 (Za9 (pe_mk M_Weight hr_Weight Zc2 (Za0 (Zb6 (ixT (K:=K) rfl) (pv 3) Za3 (fun _ _=>rfl)) Za2)))) Zb9)
   (Za1 (ps_if (pt_cmp (pc_dnotin hu (Zb6 (ixT (K:=K) rfl) (pv 3) Za3 (fun _ _=>rfl)) (pv 2))) (Za5 (ps_dput hu (pv 2) (Zb6 (ixT (K:=K) rfl) (pv 3) Za3 (fun _ _=>rfl)) (pe_mk M_Weight hr_Weight Zc2 (Za0 (Zb6 (ixT (K:=K) rfl) (pv 3) Za3 (fun _ _=>rfl)) Za2)) rfl)) Zb9)
   (Za5 (Za9 (pe_dget hu (pv 2) (Zb6 (ixT (K:=K) rfl) (pv 3) Za3 (fun _ _=>rfl)) (fun _ _=>rfl)))))))),?_⟩
  walk_at "vc"
  refine rows_get hd hp fun vr hvr=>len_ok (LenV.row hvr) ⟨rfl,?_⟩
  cases s with
  | rod l x r y=>
   rw[if_pos (show V.int ((Mo.rod l x r y).row.length:Nat)=V.int 2 from rfl)]
   simp only[Mo.depth] at hn
   simp only[Mo.nw] at hkn q
   have al:=hg.1.small
   have ar:=hg.2.1.small
   refine row0 hvr fun x0 hx0=>⟨len_l p ∅,?_⟩
   rw[add_l]
   refine⟨d,p++[108],kv,m,x,k,rfl,hd,Mo.sub_l hp,by omega,by simp;omega,hg.2.2.1,hk,by omega,fun v1 H1 w1 k1 t1=>?_⟩
   refine row1 (hvr.kp w1.kp) fun x1 hx1=>⟨len_r p ∅,?_⟩
   rw[add_r]
   refine⟨d,p++[114],kv,m,y,_,rfl,hd.wkv w1 hne,Mo.sub_r hp,by omega,by simp;omega,hg.2.2.2,k1,by omega,fun v2 H2 w2 k2 t2=>?_⟩
   refine mkR_ok (l:=l) (r:=r) ((hx0.kp w1.kp).kp w2.kp) (t1.kp w2.kp) (hx1.kp w2.kp) t2 (al.1.mono ⋯) (al.2.mono ⋯) (ar.1.mono ⋯) (ar.2.mono ⋯)
    (fun _ _ z H3 hz sm3 t3=>q _ _ ((w1.trans w2).trans (.of sm3)) ((k2.same sm3).mono ∅) t3) fun h0=>absurd ⟨hg.1.t,hg.2.1.t⟩ h0
  | wt f0=>
   rw[if_neg (show ¬V.int ((Mo.wt f0).row.length:Nat)=V.int 2 by intro z;cases z)]
   have hga:Am 64 f0:=hg
   have as:=hga.small
   simp only[Mo.nw] at hkn q
   refine⟨kv,rfl,_,rfl,?_⟩
   rcases hk with rfl | ⟨e,kvs,rfl,he,hke,hall⟩
   ·rw[if_pos (by simp)]
    refine row0 hvr fun x0 hx0=>mkW_ok (f:=f0) hx0 (as.1.mono ⋯) (as.2.mono ⋯) (fun _ z H3 hz sm3 t3=>q _ _ (.of sm3) (.inl rfl) t3) fun h0=>absurd hga.t h0
   ·rw[if_neg (by simp)]
    refine row0 hvr fun y hy=>?_
    obtain⟨b,rfl,hb⟩:=hy
    refine⟨e,valV kvs [.inl f0.1,.inl f0.2],rfl,DGet.t (k:=[.inl f0.1,.inl f0.2]) he hb,_,rfl,?_⟩
    cases hz:valV kvs [.inl f0.1,.inl f0.2] with
    | some v0=>
     rw[if_neg (by simp)]
     refine row0 hvr fun y2 hy2=>?_
     obtain⟨b2,rfl,hb2⟩:=hy2
     obtain⟨a',b',e',t'⟩:=hall _ v0 hz
     cases e'
     refine⟨e,v0,rfl,by rw[←hz];exact DGet.t (k:=[.inl f0.1,.inl f0.2]) he hb2,?_⟩
     exact q v0 H (.of fun _ _ z=>z) (.inr ⟨e,kvs,rfl,he,by omega,hall⟩) t'
    | none=>
     rw[if_pos (by simp)]
     refine row0 hvr fun x0 hx0=>mkW_ok (cR:=A.c_Rod) (f:=f0) hx0 (as.1.mono ⋯) (as.2.mono ⋯) (fun _ z H3 hz3 sm3 t3=>?_) fun h0=>absurd hga.t h0
     refine row0 (hvr.kp sm3.kp) fun y3 hy3=>?_
     obtain⟨b3,rfl,hb3⟩:=hy3
     have he3:H3 e=some (.dT kvs):=sm3 _ _ he
     refine⟨e,_,rfl,DPut.t (k:=[.inl f0.1,.inl f0.2]) he3 hb3 (small1000 ∅),?_⟩
     have kp4:Kp H3 (upd H3 e (.dT (putK kvs [.inl f0.1,.inl f0.2] (.ref z)))):=Kp.dT he3
     refine row0 ((hvr.kp sm3.kp).kp kp4) fun y4 hy4=>?_
     obtain⟨b4,rfl,hb4⟩:=hy4
     refine⟨e,.ref z,rfl,?_,?_⟩
     ·have:=DGet.t (k:=[.inl f0.1,.inl f0.2]) (kvs:=putK kvs [.inl f0.1,.inl f0.2] (.ref z)) (H:=upd H3 e (.dT (putK kvs [.inl f0.1,.inl f0.2] (.ref z)))) (a:=e) Za4 hb4
      rw[valV_put,if_pos rfl] at this
      exact this
     ·refine q _ _ ⟨fun b o hb e'=>?_,sm3.kp.trans kp4⟩ (.inr ⟨e,_,rfl,Za4,?_,fun key v hv=>?_⟩) (t3.kp kp4)
      ·rw[Zb8 (fun z=>hb (by rw[z]))];exact sm3 b o e'
      ·have:=length_putK kvs ([.inl f0.1,.inl f0.2]:List Key) (.ref z)
       omega
      ·rw[valV_put] at hv
       by_cases hk:key=[.inl f0.1,.inl f0.2]
       ·rw[if_pos hk] at hv
        cases hv
        exact⟨f0.1,f0.2,hk,t3.kp kp4⟩
       ·rw[if_neg hk] at hv
        obtain⟨a',b',e',t'⟩:=hall _ v hv
        exact⟨a',b',e',(t'.kp sm3.kp).kp kp4⟩
def HeftD (H:Hp) (e:Addr) (m:Mo) (k j:Nat):Prop:=∃ kvs,H e=some (.dK kvs)/\kvs.length<=k/\∀ i p s,j<=i->m.places[i]? = some p->m.sub p=some s->∃ v,valV kvs (.inr (mkS p))=some v/\FrV H v s.heft
theorem HeftD.same {H H':Hp}{e:Addr}{m:Mo}{k j:Nat}(h:HeftD H e m k j) (s:Same H H'):HeftD H' e m k j:=by
 obtain⟨kvs,h1,h2,h3⟩:=h
 exact⟨kvs,s _ _ h1,h2,fun i p t a b c=>let ⟨v,z1,z2⟩:=h3 i p t a b c;⟨v,z1,z2.same s⟩⟩
theorem HeftD.get {H:Hp}{e:Addr}{m:Mo}{k j i:Nat}{p:Pl}{s:Mo}{Q:VK}(h:HeftD H e m k j) (hi:j<=i) (hp:m.places[i]? = some p) (hs:m.sub p=some s) (q:∀ v,FrV H v s.heft->Q v H):rDGet (.ref e) (.str (mkS p)) H Q:=by
 obtain⟨kvs,h1,h2,h3⟩:=h
 obtain⟨v,z1,z2⟩:=h3 i p s hi hp hs
 exact⟨e,v,rfl,dget_ok (.inl h1) z1,q v z2⟩
theorem behind {m:Mo}{i:Nat}{p q:Pl}{s:Mo}(hp:m.places[i]? = some p) (hq:m.sub q=some s) (hlt:p<q):∃ j,i+1<=j/\m.places[j]? = some q:=by
 obtain⟨j,hj⟩:=List.mem_iff_getElem?.mp ((Mo.mem_places m q).mpr ⟨s,hq⟩)
 refine⟨j,?_,hj⟩
 rcases Nat.lt_or_ge i j with h | h
 ·exact h
 ·exfalso
  obtain⟨i1,e1⟩:=List.getElem?_eq_some_iff.mp hp
  obtain⟨j1,e2⟩:=List.getElem?_eq_some_iff.mp hj
  rcases Nat.lt_or_eq_of_le h with h | h
  ·have:=List.pairwise_iff_getElem.mp (Mo.places_sorted m) j i j1 i1 h
   rw[e1,e2] at this
   exact absurd (List.lt_trans this hlt) (List.lt_irrefl _)
  ·subst h
   rw[e1] at e2
   rw[e2] at hlt
   exact absurd hlt (List.lt_irrefl _)
theorem lt_app (p:Pl) (c:Nat):p<p++[c]:=by
 induction p with
 | nil=>exact List.nil_lt_cons _ _
 | cons d p ih=>exact List.cons_lt_cons_self.mpr ih
theorem HeftD.put {H:Hp}{e:Addr}{m:Mo}{k i n:Nat}{p:Pl}{s:Mo}{v:V}{Q:Hp->Prop}(h:HeftD H e m k (n-i)) (hi:i<n) (hp:m.places[n-1-i]? = some p) (hs:m.sub p=some s) (hv:FrV H v s.heft) (hk:k<=999)
  (q:∀ H',HeftD H' e m (k+1) (n-(i+1))->Wk e H H'->Q H'):rDPut v (.ref e) (.str (mkS p)) H Q:=by
 obtain⟨kvs,h1,h2,h3⟩:=h
 refine dput_ok h1 ∅ (q _ ?_ ⟨fun b o hb e'=>by rw[Zb8 hb];exact e',Kp.dK h1⟩)
 have kp:Kp H (upd H e (.dK (putK kvs (.inr (mkS p)) v))):=Kp.dK h1
 refine⟨_,Za4,by have:=length_putK kvs (.inr (mkS p):Key) v;omega,fun j p' s' hj hp' hs'=>?_⟩
 rw[valV_put]
 by_cases e1:j=n-1-i
 ·subst e1
  rw[hp] at hp'
  cases hp'
  rw[hs] at hs'
  cases hs'
  rw[if_pos rfl]
  exact⟨v,rfl,FrAt.kp hv kp⟩
 ·have hne:p'≠p:=by
   intro z
   subst z
   obtain⟨j1,x1⟩:=List.getElem?_eq_some_iff.mp hp'
   obtain⟨j2,x2⟩:=List.getElem?_eq_some_iff.mp hp
   have nd:=List.pairwise_iff_getElem.mp (Mo.places_nodup m)
   rcases Nat.lt_or_gt_of_ne e1 with z | z
   ·exact nd _ _ j1 j2 z (x1.trans x2.symm)
   ·exact nd _ _ j2 j1 z (x2.trans x1.symm)
  rw[if_neg (fun z=>hne (mkS_inj.mp (Sum.inr.inj z)))]
  obtain⟨v',z1,z2⟩:=h3 j p' s' ∅ hp' hs'
  exact⟨v',z1,FrAt.kp z2 kp⟩
theorem l_add (q:Pl):("l" : Str)++mkS q=mkS (108::q):=by rw[s_l,mkS_app];rfl
theorem r_add (q:Pl):("r" : Str)++mkS q=mkS (114::q):=by rw[s_r,mkS_app];rfl
theorem l_len (q:Pl) (h:q.length<=4096):("l" : Str).length+(mkS q).length<=sizeLine:=by rw[Zc4,s_l,Zc4,sizeLine_eq];show 1+q.length<=_;omega
theorem r_len (q:Pl) (h:q.length<=4096):("r" : Str).length+(mkS q).length<=sizeLine:=by rw[Zc4,s_r,Zc4,sizeLine_eq];show 1+q.length<=_;omega
def tw (m:Mo) (l r:Fr) (ks:List Str) (i:Nat):Pl->Option (List Fr)
 | []=>some [l,r]
 | c::t=>if (c=108\/c=114)/\mkS t∈ks.take i then m.rowAt t else none
theorem tw_step {m:Mo}{l r:Fr}{ks:List Str}{i:Nat}{t:Pl}{row:List Fr}(hk:ks[i]? = some (mkS t)) (hr:m.rowAt t=some row) (q:Pl) :
  tw m l r ks (i+1) q=if q=114::t then some row else if q=108::t then some row else tw m l r ks i q:=by
 have ht:ks.take (i+1)=ks.take i++[mkS t]:=by rw[List.take_succ,hk];rfl
 cases q with
 | nil=>simp[tw]
 | cons c u=>
  simp only[tw,ht,List.mem_append,List.mem_singleton,mkS_inj,List.cons.injEq]
  by_cases h1:c=114
  ·subst h1
   by_cases h2:u=t
   ·subst h2;simp[hr]
   ·simp[h2]
  ·by_cases h3:c=108
   ·subst h3
    by_cases h2:u=t
    ·subst h2;simp[hr]
    ·simp[h2]
   ·simp[h1,h3]
def sp_twice:Sp:=fun vs H Q E=>∃ d va m kvs l r,vs=[.ref d,va]/\H d=some (.dK kvs)/\RowsK H kvs m/\RowV H va [l,r]/\m.nw<=100 /\
 ∀ e kvs' H',H e=none->Kp H H'->(∀ b o,b≠d->H b=some o->H' b=some o)->(∃ o,H' d=some (.frz o (.dK kvs)))->H' e=some (.dK kvs')->RowsK H' kvs' (.rod l m r m)->Q (.ref e) H'
theorem sc__law_twice:Zb0 ["_law_rows","_law_arms_here","_law_found","_law_place"] ["_law_rows","_law_arms_here"] (Za6 (top 62)):=nofun
theorem ok_twice (A:Adr K mg) {f:Addr}{fd:FuncData}(F:Fun K "_law_twice" "_law_twice" (top 62) f fd):FnOk P w K mg base (CX1 P w) 1 f fd ["_law_rows","_law_arms_here"] sp_twice:=by
 have S:=sc__law_twice
 k_head
 ·obtain⟨d,va,m,kvs,l,r,rfl,_⟩:=h
  rfl
 ·obtain⟨d,va,m,kvs,l,r,rfl,hd,hR,hva,hn,q⟩:=h
  have hu:=hu_of hr
  refine⟨_,(Za1 (Zb4 (i:=2) S.nd rfl (Or.inl rfl) (pe_disp (pps_cons Zc7 (pv 1) pps_nil) rfl rfl (by simp) ⋯))
   (Za1 (ps_for PassesOwn.never rfl (pi_dict (pv 0)) (pg_name (i:=3) S.nd rfl (Or.inl rfl)) (Za1 (ps_dput hu (pv 2) (Zc0 Zb3 Zc7 (pv 3)) (pe_dget hu (pv 0) (pv 3) (fun _ _=>rfl)) rfl)
   (Za5 (ps_dput hu (pv 2) (Zc0 Zb3 Zc7 (pv 3)) (pe_dget hu (pv 0) (pv 3) (fun _ _=>rfl)) rfl))))
   (Za5 (Za9 (pv 2))))),?_⟩
  walk_at "vc"
  intro e he
  obtain⟨ks,hk⟩:=hR.keys
  have hkl:=hR.length hk
  have hsz:=hR.size
  have hde:d≠e:=Za8 hd he
  refine⟨Za4,[(.inr "",va)],rfl,by show 1<=15;decide,?_⟩
  rw[upd_upd]
  have sm0:=Za7 (o:=.dK (mergeK [] [(.inr "",va)])) he
  have D0:DictF (upd H e (.dK (mergeK [] [(.inr "",va)]))) e 1 (tw m l r ks 0):=by
   refine⟨_,Za4,by show 1<=1;decide,⟨[""],rfl⟩,by simp[mergeK,putK],fun p r' z=>?_,fun p z=>?_⟩
   ·cases p with
    | nil=>
     cases z
     refine⟨va,?_,hva.kp sm0.kp⟩
     rw[←s_empty]
     rfl
    | cons c p=>simp[tw] at z
   ·cases p with
    | nil=>cases z
    | cons c p=>
     show valV (putK [] (Sum.inr "" : Key) va) _=none
     rw[valV_put,if_neg,valV_nil]
     intro z
     rw[s_empty] at z
     have:=mkS_inj.mp (Sum.inr.inj z)
     cases this
  refine⟨kvs,.inl ⟨sm0 _ _ hd,fun o=>?_⟩⟩
  generalize upd H e (.dK (mergeK [] [(.inr "",va)]))=G0 at sm0 D0 ⊢
  have hdG:G0 d=some (.dK kvs):=sm0 _ _ hd
  have kpf:Kp G0 (upd G0 d (.frz o (.dK kvs))):=Kp.dK hdG
  refine for_dictN (fun i σ H'=>∃ o',σ=[some (.ref d),some va,some (.ref e),o']/\H' d=some (.frz o (.dK kvs))/\DictF H' e (1+2*i) (tw m l r ks i)/\Kp H H'/\∀ b u,b≠d->H b=some u->H' b=some u)
   ⟨none,rfl,Za4,?_,sm0.kp.trans kpf,fun b u hb z=>by rw[Zb8 hb];exact sm0 _ _ z⟩ ?_ ?_ ?_
  ·obtain⟨kv0,x1,x2,x3⟩:=D0.ex
   exact⟨kv0,by rw[Zb8 (Ne.symm hde)];exact x1,by omega,x3.kp kpf⟩
  ·rintro i σ H' _ ⟨o',rfl,h,_⟩
   exact h
  ·rintro i k v σ H' N hki ⟨o',rfl,hfr,hD,hkp,hsx⟩ hN
   have e4:(kvs.map (·.1))[i]? = some k:=by rw[List.getElem?_map,hki];rfl
   rw[hk,List.getElem?_map] at e4
   cases e5:ks[i]? with
   | none=>rw[e5] at e4;cases e4
   | some x=>
    rw[e5] at e4
    cases e4
    obtain⟨t,rfl⟩:∃ t,x=mkS t:=⟨toP x,(mk_toP x).symm⟩
    have hin:(Sum.inr (mkS t):Key)∈kvs.map (·.1):=List.mem_map.mpr ⟨_,List.mem_of_getElem? hki,rfl⟩
    obtain⟨sb,hsb⟩:∃ sb,m.sub t=some sb:=by
     cases z:m.sub t with
     | some sb=>exact⟨sb,rfl⟩
     | none=>exact absurd hin (valV_not (hR.non t (by unfold Mo.rowAt;rw[z];rfl)))
    have hil:i<kvs.length:=(List.getElem?_eq_some_iff.mp hki).1
    have htl:t.length<=4096:=by
     have:=sub_len hsb
     have:=Mo.depth_lt m
     omega
    have hRA:∀ {H1:Hp},Kp H' H1->H1 d=some (.frz o (.dK kvs))->RowsAt H1 d m:=fun kp h1=>⟨kvs,.inr ⟨o,h1⟩,hR.kp (hkp.trans kp)⟩
    show gName 3 (.str (mkS t)) _ _ _
    walk_at "vc"
    refine rows_get (hRA .refl hfr) hsb fun v1 h1=>⟨l_len t htl,?_⟩
    rw[l_add]
    refine hD.put ∅ h1 fun H2 D2 w2=>?_
    have hf2:H2 d=some (.frz o (.dK kvs)):=w2.sx _ _ hde hfr
    refine rows_get (hRA w2.kp hf2) hsb fun v2 h2=>⟨r_len t htl,?_⟩
    rw[r_add]
    refine D2.put ∅ h2 fun H3 D3 w3=>hN _ _ ⟨_,rfl,w3.sx _ _ hde hf2,D3.mono ∅ fun q'=>tw_step e5 (Mo.rowAt_some hsb) q',(hkp.trans w2.kp).trans w3.kp,fun b u hb z=>?_⟩
    exact w3.sx _ _ (Za8 z he) (w2.sx _ _ (Za8 z he) (hsx b u hb z))
  ·rintro σ H' ⟨o',rfl,hfr,hD,hkp,hsx⟩
   obtain⟨kvs',x1,x2,x3⟩:=hD.ex
   walk_at "vc"
   refine q e kvs' H' he hkp hsx ⟨_,hfr⟩ x1 (x3.toK fun p=>?_)
   rw[Mo.rowAt_twice]
   have htk:ks.take kvs.length=ks:=by rw[hkl.2,List.take_length]
   cases p with
   | nil=>rfl
   | cons c t=>
    simp only[tw,htk]
    by_cases hc:c=108\/c=114
    ·by_cases hm:mkS t∈ks
     ·simp[hc,hm]
     ·simp only[hc,hm,and_false,if_false,if_true]
      cases z:m.rowAt t with
      | none=>rfl
      | some rr=>
       obtain⟨v,hv,_⟩:=hR.row t rr z
       have:=valV_in hv
       rw[hk] at this
       obtain⟨y,hy,ey⟩:=List.mem_map.mp this
       cases ey
       exact absurd hy hm
    ·simp[hc]
end
theorem times_ok {N:Addr}{H:Hp}{x y:V}{f g:Fr}{Q:VK}{E:XK}(hx:FrV H x f) (hy:FrV H y g) (f0:0<f.2) (g0:0<g.2) (s1:Sm 4000 f.1) (s2:Sm 4000 f.2) (s3:Sm 4000 g.1) (s4:Sm 4000 g.2)
  (k:∀ v H',Same H H'->FrV H' v (Zb1 f g)->Q v H'):sp_times N [x,y] H Q E:=
 ⟨x,y,f.1,f.2,g.1,g.2,rfl,hx,hy,s1,s2,s3,s4,_,_,rfl,fun z=>absurd z (Int.ne_of_gt (Int.mul_pos f0 g0)),fun _=>⟨(Sm.mul s2 s4).mono ⋯,k⟩⟩
abbrev Pull:=Pl×Fr×Fr
def pullAt (m:Mo) (p:Pl):Option Pull:=match m.sub p with
 | some (.rod l x r y)=>some (p,Zb1 l x.heft,Zb1 r y.heft)
 | _=>none
def pullsL (m:Mo) (ps:List Pl):List Pull:=ps.filterMap (pullAt m)
abbrev Zb5 (m:Mo):List Pull:=pullsL m m.places
theorem pullsL_snoc {m:Mo}{ps:List Pl}{i:Nat}{p:Pl}(h:ps[i]? = some p):pullsL m (ps.take (i+1))=pullsL m (ps.take i)++(pullAt m p).toList:=by
 obtain⟨hi,e⟩:=List.getElem?_eq_some_iff.mp h
 unfold pullsL
 rw[List.take_succ,h,List.filterMap_append]
 cases hp:pullAt m p <;> simp[hp]
def PullV (H:Hp) (v:V) (e:Pull):Prop:=∃ a v1 v2,v = .ref a/\H a=some (.tup [.str (mkS e.1),v1,v2])/\FrV H v1 e.2.1/\FrV H v2 e.2.2
theorem PullV.kp {H H':Hp}{v:V}{e:Pull}(h:PullV H v e) (k:Kp H H'):PullV H' v e:=by
 obtain⟨a,v1,v2,h1,h2,h3,h4⟩:=h
 exact⟨a,v1,v2,h1,k.tup a _ h2,h3.kp k,h4.kp k⟩
inductive Told (H:Hp):List V->List Pull->Prop
 | nil:Told H [] []
 | cons {v:V} {e:Pull} {vs:List V} {es:List Pull} (h:PullV H v e) (t:Told H vs es):Told H (v::vs) (e::es)
theorem Told.kp {H H':Hp}{vs:List V}{es:List Pull}(h:Told H vs es) (k:Kp H H'):Told H' vs es:=by
 induction h with
 | nil=>exact .nil
 | cons h _ ih=>exact .cons (h.kp k) ih
theorem Told.snoc {H:Hp}{vs:List V}{es:List Pull}{v:V}{e:Pull}(h:Told H vs es) (hv:PullV H v e):Told H (vs++[v]) (es++[e]):=by
 induction h with
 | nil=>exact .cons hv .nil
 | cons h _ ih=>exact .cons h ih
theorem Told.get {H:Hp}{vs:List V}{es:List Pull}(h:Told H vs es):∀ {i:Nat}{v:V},vs[i]? = some v->∃ e,es[i]? = some e/\PullV H v e:=by
 induction h with
 | nil=>intro i v e;simp at e
 | cons h _ ih=>
  intro i v e
  cases i with
  | zero=>simp at e;subst e;exact⟨_,rfl,h⟩
  | succ i=>simpa using ih (by simpa using e)
theorem Told.len {H:Hp}{vs:List V}{es:List Pull}(h:Told H vs es):vs.length=es.length:=by
 induction h with
 | nil=>rfl
 | cons _ _ ih=>simp[ih]
theorem pullsL_le (m:Mo) (ps:List Pl):(pullsL m ps).length<=ps.length:=List.length_filterMap_le ..
abbrev DAt (P:Program) (w:World) (K:PySem.W.Frag) (mg:Str->Option Value) (base:Heap) (A:Adr K mg):Prop:=∀ C,KdT A.c_Weight A.c_Rod C->Mth P w K mg base C "at" 68 ["self","place"] [] (spC (sp_at A.c_NoPlace A.c_Weight A.c_Rod 64) C)
abbrev DHeft (P:Program) (w:World) (K:PySem.W.Frag) (mg:Str->Option Value) (base:Heap) (A:Adr K mg):Prop:=∀ C,KdT A.c_Weight A.c_Rod C->Mth P w K mg base C "heft" 68 ["self"] [] (spC (sp_heft A.c_Weight A.c_Rod 64) C)
abbrev DPlaces (P:Program) (w:World) (K:PySem.W.Frag) (mg:Str->Option Value) (base:Heap) (A:Adr K mg):Prop:=∀ C,KdT A.c_Weight A.c_Rod C->Mth P w K mg base C "places" 68 ["self","ahead"] [.str (mkS [])] (spC (sp_places A.c_Weight A.c_Rod 64) C)
def sp_phefts (cW cR:Addr):Sp:=fun vs H Q E=>∃ v m,vs=[v]/\Th cW cR H v m/\m.depth<=64/\m.nw<=100/\Gq m/\∀ e H',H e=none->Same H H'->HeftD H' e m 1000 0->Q (.ref e) H'
theorem sc_hefts:Zb0 ["mobile","found","place","thing"] ["mobile"] (Za6 (top 28)):=nofun
theorem ok_phefts (A:Adr K mg) {f:Addr}{fd:FuncData}(F:Fun K "hefts" "hefts" (top 28) f fd) (D_at:DAt P w K mg base A) (D_heft:DHeft P w K mg base A) (D0_places:DPlaces P w K mg base A)
  (F_plus:Fnc P w K mg base "plus" 3 ["one","other"] [] (sp_plus A.c_NoNumber)):FnOk P w K mg base (CX1 P w) 69 f fd ["mobile"] (sp_phefts A.c_Weight A.c_Rod):=by
 have S:=sc_hefts
 k_head
 ·obtain⟨v,m,rfl,_⟩:=h
  rfl
 ·obtain⟨v,m,rfl,hv,hdp,hn,hgq,q⟩:=h
  obtain⟨D,B,hL,hg⟩:=id hgq
  have hr_at:Room 68 _:=hr
  have hr_heft:Room 68 _:=hr
  have hr_places:Room 68 _:=hr
  have hr_plus:Room 3 _:=hr.mono ⋯
  have hu:=hu_of hr
  refine⟨_,(Za1 (Zb4 (i:=1) S.nd rfl (Or.inl rfl) pe_dnewK)
   (Za1 (ps_for PassesOwn.never rfl (pi_reversed (by rfl) A.n_reversed (Za0 (pe_m0 D0_places hr_places Zc2 (pv 0)) Za2)) (pg_name (i:=2) S.nd rfl (Or.inl rfl)) (Za1 (Zb4 (i:=3) S.nd rfl (Or.inl rfl) (pe_m D_at hr_at Zc2 (pv 0) (Za0 (pv 2) Za2)))
   (Za5 (ps_if (pt_val (Zc3 (isiK (K:=K) rfl) (by rfl) A.n_isinstance Zd1 (Za0 (pv 3) (Za0 (pe_glob (v:=.ref A.c_Rod) rfl A.g_Rod rfl) Za2)))) (Za5 (ps_dput hu (pv 1) (pv 2) (Zc1 F_plus hr_plus Zc2 (Za0 (pe_dget hu (pv 1) (Zc0 Zb3 (pv 2) Zc7) (fun _ _=>rfl)) (Za0 (pe_dget hu (pv 1) (Zc0 Zb3 (pv 2) Zc7) (fun _ _=>rfl)) Za2))) rfl)) (Za5 (ps_dput hu (pv 1) (pv 2) (pe_m0 D_heft hr_heft Zc2 (pv 3)) rfl))))))
   (Za5 (Za9 (pv 1))))),?_⟩
  k_one
  intro e he
  k_one
  have sm0:=Za7 (o:=.dK []) he
  refine dyn_okR (xs:=[]) (hv.kp sm0.kp) (fun _=>by rfl) (fun _ _ _ _=>by rfl) .refl ?_ (fun S s=>s)
  refine⟨v,m,[],rfl,hv.kp sm0.kp,hdp,by omega,by decide,fun l H1 hl sm1 el=>?_⟩
  k_one
  have hle:l≠e:=fun z=>by rw[z,Za4] at hl;cases hl
  have el':H1 l=some (.lst ((m.places.map mkS).map .str)):=by rw[el,List.map_map];rfl
  have hln:((m.places.map mkS).map V.str).length=m.places.length:=by rw[List.length_map,List.length_map]
  have hpl0:=Mo.places_length m
  refine⟨_,SqL.of el',?_⟩
  refine for_revN (xs:=(m.places.map mkS).map .str) (fun i σ H'=>∃ o3 o4,σ=[some v,some (.ref e),o3,o4]/\Same H H'/\H' l=some (.lst ((m.places.map mkS).map .str))/\HeftD H' e m i (m.places.length-i))
   ⟨none,none,rfl,sm0.trans sm1,el',[],sm1 _ _ Za4,by simp,fun i p s hi hp _=>?_⟩ ?_ ?_ ?_
  ·obtain⟨hi',_⟩:=List.getElem?_eq_some_iff.mp hp
   omega
  ·rintro i σ H' hi ⟨o3,o4,rfl,_,hl',_⟩
   exact SqL.of hl'
  ·rintro i x σ H' N hi hx ⟨o3,o4,rfl,sm,hl',hH⟩ hN
   rw[hln] at hi hx
   rw[List.getElem?_map,List.getElem?_map] at hx
   cases hp:m.places[m.places.length-1-i]? with
   | none=>rw[hp] at hx;cases hx
   | some p=>
    rw[hp] at hx
    cases hx
    obtain⟨t,ht⟩:=(Mo.mem_places m p).mp (List.mem_of_getElem? hp)
    have hpl:p.length<=4096:=by
     have:=sub_len ht
     omega
    have gt:=Mo.All.sub hg ht
    have tn:=Mo.sub_nw ht
    k_one
    refine dyn_okR (xs:=[.str (mkS p)]) (hv.kp sm.kp) (fun _=>by rfl) (fun _ _ _ _=>by rfl) .refl ?_ (fun S s=>s)
    refine⟨v,m,p,rfl,hv.kp sm.kp,hdp,hpl,(fun v' t' e' th=>?_),fun z=>by rw[ht] at z;cases z⟩
    rw[ht] at e'
    cases e'
    have fin:∀ {H2:Hp} {u:V},Same H' H2->FrV H2 u t.heft->rDPut u (.ref e) (.str (mkS p)) H2 (fun H3=>N [some v,some (.ref e),some (.str (mkS p)),some v'] H3):=fun {H2 u} sm2 hv2=>by
     refine (hH.same sm2).put hi hp ht hv2 ∅ fun H3 h3 w3=>hN _ _ ⟨_,_,rfl,fun b o z=>?_,?_,h3⟩
     ·exact w3.sx b o (Za8 z he) (sm2 b o (sm b o z))
     ·exact w3.sx _ _ hle (sm2 _ _ hl')
    k_one
    cases t with
    | wt f0=>
     have th':=th
     obtain⟨a,dx,u,rfl,ha,hfa⟩:=th'
     refine isi_ok (.of (A.y_Weight ha)) rfl A.t_WR ?_
     k_one
     refine dyn_okR (xs:=[]) th (fun _=>by rfl) (fun _ _ _ _=>by rfl) .refl ?_ (fun S s=>s)
     refine⟨_,_,rfl,th,by simp[Mo.depth],⟨D,B,hL,gt⟩,by omega,fun u2 H2 sm2 hf=>?_⟩
     k_one
     exact fin sm2 hf
    | rod lf x rf y=>
     obtain⟨a,dx,u1,u2,u3,u4,rfl,ha,h1,h2,h3,h4⟩:=th
     refine isi_ok (.of (A.y_Rod ha)) rfl A.t_RR ?_
     k_one
     refine⟨len_l p hpl,?_⟩
     rw[add_l]
     simp only[Mo.nw] at tn
     obtain⟨j1,b1,p1⟩:=behind hp (Mo.sub_l ht) (lt_app p 108)
     obtain⟨j2,b2,p2⟩:=behind hp (Mo.sub_r ht) (lt_app p 114)
     have gx:=GQ.small gt.2.2.1 hL (show x.nw<=200 by omega)
     have gy:=GQ.small gt.2.2.2 hL (show y.nw<=200 by omega)
     k_one
     refine hH.get ∅ p1 (Mo.sub_l ht) fun v1 g1=>?_
     k_one
     refine⟨len_r p hpl,?_⟩
     rw[add_r]
     k_one
     refine hH.get ∅ p2 (Mo.sub_r ht) fun v2 g2=>?_
     k_one
     refine plus_ok g1 g2 gx.2.1 gy.2.1 (gx.2.2.1.mono ⋯) (gx.2.2.2.mono ⋯) (gy.2.2.1.mono ⋯) (gy.2.2.2.mono ⋯) fun v3 H3 sm3 g3=>?_
     k_one
     exact fin sm3 g3
  ·rintro σ H' ⟨o3,o4,rfl,sm,hl',kvs,k1,k2,k3⟩
   rw[hln] at k2 k3
   k_one
   exact q e H' he sm ⟨kvs,k1,by omega,fun i p s hi=>k3 i p s ∅⟩
def sp_pulls (cW cR:Addr):Sp:=fun vs H Q E=>∃ v m,vs=[v]/\Th cW cR H v m/\m.depth<=64/\m.nw<=100/\Gq m/\∀ l us H',H l=none->Same H H'->H' l=some (.lst us)->Told H' us (Zb5 m)->Q (.ref l) H'
theorem sc_pulls:Zb0 ["mobile","heft_at","told","place","thing","left_pull","right_pull"] ["mobile"] (Za6 (top 29)):=nofun
theorem ok_pulls (A:Adr K mg) {f:Addr}{fd:FuncData}(F:Fun K "pulls" "pulls" (top 29) f fd) (D_at:DAt P w K mg base A) (D0_places:DPlaces P w K mg base A)
  (F_hefts:Fnc P w K mg base "hefts" 69 ["mobile"] [] (sp_phefts A.c_Weight A.c_Rod)) (F_times:Fnc P w K mg base "times" 3 ["one","other"] [] (sp_times A.c_NoNumber)):FnOk P w K mg base (CX1 P w) 70 f fd ["mobile"] (sp_pulls A.c_Weight A.c_Rod):=by
 have S:=sc_pulls
 k_head
 ·obtain⟨v,m,rfl,_⟩:=h
  rfl
 ·obtain⟨v,m,rfl,hv,hdp,hn,hgq,q⟩:=h
  obtain⟨D,B,hL,hg⟩:=id hgq
  have hr_at:Room 68 _:=hr.mono ⋯
  have hr_hefts:Room 69 _:=hr
  have hr_places:Room 68 _:=hr.mono ⋯
  have hr_times:Room 3 _:=hr.mono ⋯
  have hu:=hu_of hr
  refine⟨_,(Za1 (Zb4 (i:=1) S.nd rfl (Or.inl rfl) (Zc1 F_hefts hr_hefts Zc2 (Za0 (pv 0) Za2)))
   (Za1 (Zb4 (i:=2) S.nd rfl (Or.inl rfl) (pe_lst Za2))
   (Za1 (ps_for PassesOwn.never rfl (pi_listK (K:=K) rfl (pe_m0 D0_places hr_places Zc2 (pv 0))) (pg_name (i:=3) S.nd rfl (Or.inl rfl)) (Za1 (Zb4 (i:=4) S.nd rfl (Or.inl rfl) (pe_m D_at hr_at Zc2 (pv 0) (Za0 (pv 3) Za2)))
   (Za5 (ps_if (pt_val (Zc3 (isiK (K:=K) rfl) (by rfl) A.n_isinstance Zd1 (Za0 (pv 4) (Za0 (pe_glob (v:=.ref A.c_Rod) rfl A.g_Rod rfl) Za2)))) (Za1 (Zb4 (i:=5) S.nd rfl (Or.inl rfl) (Zc1 F_times hr_times Zc2 (Za0 (Zc9 (K:=K) rfl (pv 4) rfl) (Za0 (pe_dget hu (pv 1) (Zc0 Zb3 (pv 3) Zc7) (fun _ _=>rfl)) Za2))))
   (Za1 (Zb4 (i:=6) S.nd rfl (Or.inl rfl) (Zc1 F_times hr_times Zc2 (Za0 (Zc9 (K:=K) rfl (pv 4) rfl) (Za0 (pe_dget hu (pv 1) (Zc0 Zb3 (pv 3) Zc7) (fun _ _=>rfl)) Za2))))
   (Za5 (ps_expr (pe_bm PySem.F.plainAttrs_list PySem.F.slot_list_append PySem.F.type_list_append mt_append (pv 2) (Za0 (pe_tup (Za0 (pv 3) (Za0 (pv 5) (Za0 (pv 6) Za2)))) Za2)))))) Zb9))))
   (Za5 (Za9 (pv 2)))))),?_⟩
  k_one
  refine⟨v,m,rfl,hv,hdp,hn,hgq,fun e H1 he sm1 hH=>?_⟩
  k_one
  refine⟨by decide,fun tl htl=>?_⟩
  k_one
  have sm2:=Za7 (o:=.lst []) htl
  have sm02:=sm1.trans sm2
  refine dyn_okR (xs:=[]) (hv.kp sm02.kp) (fun _=>by rfl) (fun _ _ _ _=>by rfl) .refl ?_ (fun S s=>s)
  refine⟨v,m,[],rfl,hv.kp sm02.kp,hdp,by omega,by decide,fun l H3 hl sm3 el=>?_⟩
  k_one
  have hle:l≠tl:=fun z=>by rw[z,Za4] at hl;cases hl
  have el':H3 l=some (.lst ((m.places.map mkS).map .str)):=by rw[el,List.map_map];rfl
  have hpl0:=Mo.places_length m
  have et:H3 tl=some (.lst []):=sm3 _ _ Za4
  have hHt:H tl=none:=by
   cases z:H tl with
   | none=>rfl
   | some o=>rw[sm1 _ _ z] at htl;cases htl
  refine⟨⟨_,SqL.of el'⟩,?_⟩
  refine for_listN (xs:=(m.places.map mkS).map .str) (fun i σ H'=>∃ us o3 o4 o5 o6,σ=[some v,some (.ref e),some (.ref tl),o3,o4,o5,o6]/\Same H H'/\HeftD H' e m 1000 0/\H' l=some (.lst ((m.places.map mkS).map .str))/\H' tl=some (.lst us)/\Told H' us (pullsL m (m.places.take i)))
   ⟨[],none,none,none,none,rfl,sm02.trans sm3,(hH.same sm2).same sm3,el',et,.nil⟩ ?_ ?_ ?_
  ·rintro i σ H' hi ⟨us,o3,o4,o5,o6,rfl,_,_,hl',_⟩
   exact SqL.of hl'
  ·rintro i x σ H' N hx ⟨us,o3,o4,o5,o6,rfl,sm,hHf,hl',ht',hT⟩ hN
   rw[List.getElem?_map,List.getElem?_map] at hx
   cases hp:m.places[i]? with
   | none=>rw[hp] at hx;cases hx
   | some p=>
    rw[hp] at hx
    cases hx
    obtain⟨t,ht⟩:=(Mo.mem_places m p).mp (List.mem_of_getElem? hp)
    have hpl:p.length<=4096:=by
     have:=sub_len ht
     omega
    have gt:=Mo.All.sub hg ht
    have tn:=Mo.sub_nw ht
    have hsn:=pullsL_snoc (m:=m) hp
    have hus:us.length<=200:=by
     have h1:=hT.len
     have h2:=pullsL_le m (m.places.take i)
     rw[List.length_take] at h2
     omega
    k_one
    refine dyn_okR (xs:=[.str (mkS p)]) (hv.kp sm.kp) (fun _=>by rfl) (fun _ _ _ _=>by rfl) .refl ?_ (fun S s=>s)
    refine⟨v,m,p,rfl,hv.kp sm.kp,hdp,hpl,(fun v' t' e' th=>?_),fun z=>by rw[ht] at z;cases z⟩
    rw[ht] at e'
    cases e'
    k_one
    cases t with
    | wt f0=>
     obtain⟨a,dx,u,rfl,ha,hfa⟩:=th
     have e0:pullAt m p=none:=by unfold pullAt;rw[ht]
     rw[e0,Option.toList_none,List.append_nil] at hsn
     refine isi_ok (.of (A.y_Weight ha)) rfl A.t_WR ?_
     k_one
     exact hN _ _ ⟨us,_,_,_,_,rfl,sm,hHf,hl',ht',by rw[hsn];exact hT⟩
    | rod lf x rf y=>
     obtain⟨a,dx,u1,u2,u3,u4,rfl,ha,h1,h2,h3,h4⟩:=th
     have e0:pullAt m p=some (p,Zb1 lf x.heft,Zb1 rf y.heft):=by unfold pullAt;rw[ht]
     rw[e0,Option.toList_some] at hsn
     simp only[Mo.nw] at tn
     have gx:=GQ.small gt.2.2.1 hL (show x.nw<=200 by omega)
     have gy:=GQ.small gt.2.2.2 hL (show y.nw<=200 by omega)
     have al:=gt.1
     have ar:=gt.2.1
     obtain⟨j1,b1,p1⟩:=behind hp (Mo.sub_l ht) (lt_app p 108)
     obtain⟨j2,b2,p2⟩:=behind hp (Mo.sub_r ht) (lt_app p 114)
     refine isi_ok (.of (A.y_Rod ha)) rfl A.t_RR ?_
     k_one
     refine fld_ok ha A.l_Rod A.a_left_arm (by rfl) ?_
     k_one
     refine⟨len_l p hpl,?_⟩
     rw[add_l]
     k_one
     refine hHf.get (Nat.zero_le _) p1 (Mo.sub_l ht) fun w1 g1=>?_
     k_one
     refine times_ok h1 g1 al.b gx.2.1 al.t al.s (gx.2.2.1.mono ⋯) (gx.2.2.2.mono ⋯) fun w2 H4 sm4 g2=>?_
     k_one
     refine fld_ok (sm4 _ _ ha) A.l_Rod A.a_right_arm (by rfl) ?_
     k_one
     refine⟨len_r p hpl,?_⟩
     rw[add_r]
     k_one
     refine (hHf.same sm4).get (Nat.zero_le _) p2 (Mo.sub_r ht) fun w3 g3=>?_
     k_one
     refine times_ok (h3.same sm4) g3 ar.b gy.2.1 ar.t ar.s (gy.2.2.1.mono ⋯) (gy.2.2.2.mono ⋯) fun w4 H5 sm5 g4=>?_
     k_one
     have ht5:H5 tl=some (.lst us):=sm5 _ _ (sm4 _ _ ht')
     refine⟨.inl ⟨rfl,us,SqL.of ht5⟩,by decide,fun tp htp=>?_⟩
     k_one
     have ntp:tl≠tp:=Za8 ht5 htp
     have sm6:=Za7 (o:=.tup [.str (mkS p),w2,w4]) htp
     have smA:Same H' (upd H5 tp (.tup [.str (mkS p),w2,w4])):=(sm4.trans sm5).trans sm6
     have ht6:upd H5 tp (.tup [.str (mkS p),w2,w4]) tl=some (.lst us):=smA _ _ ht'
     refine⟨tl,us,_,rfl,rfl,ht6,by rw[sizeLine_eq];omega,?_⟩
     have kpA:Kp H' (upd (upd H5 tp (.tup [.str (mkS p),w2,w4])) tl (.lst (us++[.ref tp]))):=smA.kp.trans (.lst ht6)
     have kp6:Kp H5 (upd (upd H5 tp (.tup [.str (mkS p),w2,w4])) tl (.lst (us++[.ref tp]))):=sm6.kp.trans (.lst ht6)
     refine hN _ _ ⟨us++[.ref tp],_,_,_,_,rfl,fun b o z=>?_,?_,?_,Za4,?_⟩
     ·rw[Zb8 (Za8 z hHt)]
      exact smA b o (sm b o z)
     ·obtain⟨kvs,k1,k2,k3⟩:=hHf
      refine⟨kvs,?_,k2,fun i p s z1 z2 z3=>?_⟩
      ·rw[Zb8 (ne_of k1 ht' (by intro z;cases z))]
       exact smA _ _ k1
      ·obtain⟨w5,z4,z5⟩:=k3 i p s z1 z2 z3
       exact⟨w5,z4,z5.kp kpA⟩
     ·rw[Zb8 hle]
      exact smA _ _ hl'
     ·rw[hsn]
      refine (hT.kp kpA).snoc ⟨tp,w2,w4,rfl,?_,(g2.same sm5).kp kp6,g4.kp kp6⟩
      rw[Zb8 (Ne.symm ntp)]
      exact Za4
  ·rintro σ H' ⟨us,o3,o4,o5,o6,rfl,sm,hHf,hl',ht',hT⟩
   k_one
   rw[List.length_map,List.length_map,List.take_length] at hT
   exact q tl us H' hHt sm ht' hT
def tipE (e:Pull):Bool:=!decide (e.2.1.1=e.2.2.1/\e.2.1.2=e.2.2.2)
def tips (es:List Pull):List Pl:=(es.filter tipE).map (·.1)
theorem tips_snoc {es:List Pull}{i:Nat}{e:Pull}(h:es[i]? = some e):tips (es.take (i+1))=tips (es.take i)++(if tipE e=true then [e.1] else []):=by
 unfold tips
 rw[List.take_succ,h,List.filter_append,List.map_append]
 cases ht:tipE e <;> simp[ht]
theorem tips_le (es:List Pull):(tips es).length<=es.length:=by
 unfold tips
 rw[List.length_map]
 exact List.length_filter_le ..
def sp_tipping:Sp:=fun vs H Q E=>∃ l us es,vs=[.ref l]/\H l=some (.lst us)/\Told H us es/\es.length<=1000/\∀ t H',H t=none->Same H H'->H' t=some (.lst (((tips es).map mkS).map .str))->Q (.ref t) H'
theorem sc_tipping:Zb0 ["told"] ["told"] (Za6 (top 30)):=nofun
theorem ok_tipping (A:Adr K mg) {f:Addr}{fd:FuncData}(F:Fun K "tipping" "tipping" (top 30) f fd):FnOk P w K mg base (CX1 P w) 1 f fd ["told"] sp_tipping:=by
 have S:=sc_tipping
 k_head
 ·obtain⟨l,us,es,rfl,_⟩:=h
  rfl
 ·obtain⟨l,us,es,rfl,hl,hT,hn,q⟩:=h
  have hu:=hu_of hr
  refine⟨_,(Za5 (Za9 (pe_comp (tv:=["place","left_pull","right_pull"]) (cap:=[]) (compOk_of (Za6 (top 30)) ["told"] rfl rfl (by ac_nf) (by rfl)) rfl (pi_listK (K:=K) rfl (pv 0)) (fun _ _ _=>(pg_tupK (K:=K) (n:=3) rfl rfl (pgs_cons (pg_name (i:=0) (show (["place","left_pull","right_pull"]:List Str).Nodup by ac_nf) rfl (Or.inl rfl) (Or.inr rfl)) (pgs_cons (pg_name (i:=1) (show (["place","left_pull","right_pull"]:List Str).Nodup by ac_nf) rfl (Or.inl rfl) (Or.inr rfl)) (pgs_cons (pg_name (i:=2) (show (["place","left_pull","right_pull"]:List Str).Nodup by ac_nf) rfl (Or.inl rfl) (Or.inr rfl)) pgs_nil))))) (fun _ _ _=>(pts_one (Zb7 (op_neF hu) (pv 1) (pv 2) (Zc6 _)))) (fun _ _ _=>(pv 0))))),?_⟩
  k_one
  refine⟨⟨us,SqL.of hl⟩,fun D hD=>?_⟩
  have nDl:l≠D:=Za8 hl hD
  have hln:=hT.len
  refine comp_any (xs:=us) (fun i ys σ H'=>σ.length=3/\ys=((tips (es.take i)).map mkS).map .str/\H' D=some (.lst ys)/\(∀ b o,b≠D->H b=some o->H' b=some o)/\Kp H H') (by rw[sizeLine_eq];omega)
   ⟨rfl,rfl,Za4,fun b o hb z=>by rw[Zb8 hb];exact z,(Za7 hD).kp⟩ ?_ ?_ ?_ ?_
  ·rintro i ys σ H' ⟨_,rfl,h1,_⟩
   refine⟨h1,?_⟩
   have:=tips_le (es.take i)
   rw[List.length_take] at this
   simp only[List.length_map]
   omega
  ·rintro i ys σ H' hi ⟨_,rfl,_,h2,_⟩
   exact SqL.of (h2 _ _ nDl hl)
  ·rintro i x ys σ H' N hx ⟨h0,rfl,h1,h2,kp⟩ hN
   obtain⟨e,he,a,v1,v2,rfl,ha,g1,g2⟩:=hT.get hx
   obtain⟨s1,s2,s3,rfl⟩:∃ s1 s2 s3,σ=[s1,s2,s3]:=by
    match σ,h0 with
    | [s1,s2,s3],_=>exact⟨s1,s2,s3,rfl⟩
   have hsn:=tips_snoc he
   k_one
   refine⟨_,SqT.of (kp.tup a _ ha),rfl,_,_,rfl,_,_,rfl,_,_,rfl,rfl,_,_,_,_,g1.kp kp,g2.kp kp,_,rfl,?_⟩
   show if tipE e=true then _ else _
   by_cases ht:tipE e=true
   ·rw[if_pos ht]
    refine⟨h1,hN _ _ _ ⟨rfl,by rw[hsn,if_pos ht];simp,Za4,fun b o hb z=>by rw[Zb8 hb];exact h2 b o hb z,kp.trans (.lst h1)⟩⟩
   ·rw[if_neg ht]
    exact hN _ _ _ ⟨rfl,by rw[hsn,if_neg ht];simp,h1,h2,kp⟩
  ·rintro ys σ H' ⟨_,rfl,h1,h2,kp⟩
   k_one
   rw[hln,List.take_length] at h1
   exact q D H' hD (fun b o z=>h2 b o (Za8 z hD) z) h1
theorem rowAt_arms {m:Mo}{p:Pl}{l r l' r':Fr}{x y:Mo}(h:m.sub p=some (.rod l x r y)) (q:Pl):(m.put p (.rod l' x r' y)).rowAt q=if q=p then some [l',r'] else m.rowAt q:=by
 by_cases hp:p <+: q
 ·obtain⟨t,rfl⟩:=hp
  unfold Mo.rowAt
  rw[Mo.sub_put m p _ t ⟨_,h⟩,Mo.sub_app,h,Option.bind_some]
  cases t with
  | nil=>simp[Mo.sub,Mo.row]
  | cons c t=>rw[if_neg (by simp)];rfl
 ·rw[if_neg (fun e=>hp ⟨[],by simp[e]⟩)]
  exact Mo.row_put_off m p _ q hp
structure Bn (n D:Int) (x:Fr):Prop where
 t:0<x.1
 b:0<x.2
 g:Int.gcd x.1 x.2=1
 tl:x.1<=n
 bl:x.2<=n
 d:x.2∣D
theorem Bn.mono {n k D E:Int}{x:Fr}(h:Bn n D x) (hk:n<=k) (hd:D∣E):Bn k E x:=⟨h.t,h.b,h.g,Int.le_trans h.tl hk,Int.le_trans h.bl hk,Int.dvd_trans h.d hd⟩
theorem Bn.ar {n D:Int}{x:Fr}(h:Bn n D x) (hk:n<=2 ^ 32) (hd:D∣2116800):Ar x:=⟨h.t,h.b,Int.le_trans h.tl hk,Int.le_trans h.bl hk,h.g,Int.dvd_trans h.d hd⟩
theorem Sh.bn {x:Fr}(h:Sh x):Bn 4 12 x:=⟨h.t,h.b,h.g,h.tl,by have:=h.bl;omega,dvd4 h.b (by have:=h.bl;omega)⟩
theorem low_den {a b D:Int}(hb:b≠0) (h:b∣a*D):(low a b).2∣D:=by
 have e1:nt a b*sd a b=a:=nt_mul hb
 have e2:nb a b*sd a b=b:=nb_mul hb
 have h':sd a b*nb a b∣sd a b*(nt a b*D):=by
  have z1:sd a b*nb a b=b:=by rw[Int.mul_comm];exact e2
  have z2:sd a b*(nt a b*D)=a*D:=by rw[←Int.mul_assoc,Int.mul_comm (sd a b),e1]
  rw[z1,z2];exact h
 have h2:nb a b∣nt a b*D:=Int.dvd_of_mul_dvd_mul_left (sd_ne hb) h'
 exact Int.dvd_of_dvd_mul_right_of_gcd_one' h2 (by rw[Int.gcd_comm];exact gcd_one hb)
theorem plus_den {x y:Fr}{D:Int}(x0:0<x.2) (y0:0<y.2) (hx:x.2∣D) (hy:y.2∣D):(Zd0 x y).2∣D:=by
 refine low_den (Int.ne_of_gt (Int.mul_pos x0 y0)) ?_
 obtain⟨c,rfl⟩:=id hx
 obtain⟨d,hd⟩:=hy
 rw[Int.add_mul]
 refine Int.dvd_add ?_ ?_
 ·exact⟨x.1*c,by ac_rfl⟩
 ·rw[hd];exact⟨y.1*d,by ac_rfl⟩
theorem seven {b:Int}(h0:0<b) (h1:b<=7):b∣420:=by
 have:b=1\/b=2\/b=3\/b=4\/b=5\/b=6\/b=7:=by omega
 rcases this with rfl | rfl | rfl | rfl | rfl | rfl | rfl <;> decide
theorem bn_times {n D:Int}{x y:Fr}(h:Bn n D x) (y0:0<y.1) (y1:0<y.2) (ya:y.1<=7) (yb:y.2<=7):Bn (7*n) (420*D) (Zb1 x y):=by
 have p1:=Int.mul_pos h.t y0
 have p2:=Int.mul_pos h.b y1
 have hp:=low_pos p1 p2
 have t1:=low_top p1 p2
 have t2:=low_bot (a:=x.1*y.1) p2
 have n0:0<=n:=Int.le_trans (Int.le_of_lt h.t) h.tl
 have m1:=Int.mul_le_mul h.tl ya (Int.le_of_lt y0) n0
 have m2:=Int.mul_le_mul h.bl yb (Int.le_of_lt y1) n0
 exact⟨hp.1,hp.2,low_gcd (Int.ne_of_gt p2),by unfold Zb1;omega,by unfold Zb1;omega,Int.dvd_trans (low_dvd (Int.ne_of_gt p2)) (by rw[Int.mul_comm 420];exact Int.mul_dvd_mul h.d (seven y1 yb))⟩
theorem bn_plus {n k D:Int}{x y:Fr}(h:Bn n D x) (h':Bn k D y):Bn (2*(n*k)) D (Zd0 x y):=by
 have p1:=Int.mul_pos h.t h'.b
 have p2:=Int.mul_pos h'.t h.b
 have p3:=Int.mul_pos h.b h'.b
 have n0:0<=n:=Int.le_trans (Int.le_of_lt h.t) h.tl
 have k0:0<=k:=Int.le_trans (Int.le_of_lt h'.t) h'.tl
 have m1:=Int.mul_le_mul h.tl h'.bl (Int.le_of_lt h'.b) n0
 have m2:=Int.mul_le_mul h'.tl h.bl (Int.le_of_lt h.b) k0
 have m3:=Int.mul_le_mul h.bl h'.bl (Int.le_of_lt h'.b) n0
 have e:=Int.mul_comm k n
 have ps:0<x.1*y.2+y.1*x.2:=by omega
 have hp:=low_pos ps p3
 have t1:=low_top ps p3
 have t2:=low_bot (a:=x.1*y.2+y.1*x.2) p3
 exact⟨hp.1,hp.2,low_gcd (Int.ne_of_gt p3),by unfold Zd0;omega,by unfold Zd0;omega,plus_den h.b h'.b h.d h'.d⟩
theorem am_times {k:Nat}{x y:Fr}(h:Am k x) (y0:0<y.1) (y1:0<y.2) (ya:y.1<=7) (yb:y.2<=7):Am (k+1) (Zb1 x y):=by
 have p1:=Int.mul_pos h.t y0
 have p2:=Int.mul_pos h.b y1
 have hp:=low_pos p1 p2
 have t1:=low_top p1 p2
 have t2:=low_bot (a:=x.1*y.1) p2
 have g0:=gT_pos k
 have e:=gT_succ k
 have m1:=Int.mul_le_mul h.s ya (Int.le_of_lt y0) (Int.le_of_lt g0)
 have m2:=Int.mul_le_mul h.l yb (Int.le_of_lt y1) (Int.le_of_lt g0)
 refine⟨hp.1,hp.2,?_,by unfold Zb1;omega,by unfold Zb1;omega,low_gcd (Int.ne_of_gt p2)⟩
 have d1:(Zb1 x y).2∣x.2*y.2:=low_dvd (Int.ne_of_gt p2)
 have d2:y.2∣840:=by
  obtain⟨ya1,yb1⟩:=y
  dsimp only at *
  have:yb1=1\/yb1=2\/yb1=3\/yb1=4\/yb1=5\/yb1=6\/yb1=7:=by omega
  rcases this with rfl | rfl | rfl | rfl | rfl | rfl | rfl <;> decide
 rw[gD_succ]
 exact Int.dvd_trans d1 (Int.mul_dvd_mul h.d d2)
theorem rtest {m:Mo}{p:Pl}{s:Mo}(hs:m.sub p=some s):decide ((s.row.length:Int)=2) = !isWP m p:=by
 unfold isWP
 rw[Mo.rowAt_some hs,Option.any_some]
 cases s <;> simp[Mo.row]
def rps (m:Mo):List Pl:=m.places.filter (fun p=>!isWP m p)
theorem mem_rps {m:Mo}{p:Pl}(h:p∈rps m):∃ l x r y,m.sub p=some (.rod l x r y):=by
 unfold rps at h
 rw[List.mem_filter] at h
 obtain⟨s,hs⟩:=(Mo.mem_places m p).mp h.1
 cases s with
 | wt a=>
  have:=isWP_iff.mpr ⟨a,hs⟩
  rw[this] at h
  exact absurd h.2 (by simp)
 | rod l x r y=>exact⟨l,x,r,y,hs⟩
theorem rps_str (m:Mo):(m.places.map mkS).filter (fun x=>!isWP m (toP x))=(rps m).map mkS:=by
 unfold rps
 rw[List.filter_map]
 have:(fun x=>!isWP m (toP x))∘mkS=fun p=>!isWP m p:=by funext p;simp only[Function.comp,toP_mk]
 rw[this]
theorem sub_put_rod {m:Mo}{p q:Pl}{l r l' r' l2 r2:Fr}{x y x2 y2:Mo}(h:m.sub p=some (.rod l x r y)) (h2:m.sub q=some (.rod l2 x2 r2 y2)):∃ l3 x3 r3 y3,(m.put p (.rod l' x r' y)).sub q=some (.rod l3 x3 r3 y3):=by
 have e:=rowAt_arms (l':=l') (r':=r') h q
 have e2:=Mo.rowAt_some h2
 have:∃ u v,(m.put p (.rod l' x r' y)).rowAt q=some [u,v]:=by
  by_cases hq:q=p
  ·rw[if_pos hq] at e;exact⟨_,_,e⟩
  ·rw[if_neg hq,e2] at e;exact⟨_,_,e⟩
 obtain⟨u,v,e⟩:=this
 unfold Mo.rowAt at e
 cases hs:(m.put p (.rod l' x r' y)).sub q with
 | none=>rw[hs] at e;cases e
 | some s=>
  rw[hs] at e
  cases s with
  | wt a=>cases e
  | rod l3 x3 r3 y3=>exact⟨_,_,_,_,rfl⟩
def bb:Nat->Int
 | 0=>4
 | 1=>224
 | _=>702464
def dd:Nat->Int
 | 0=>12
 | 1=>5040
 | _=>2116800
theorem dd_step {i:Nat}(h:i<2):dd i∣2116800/\420*dd i∣2116800/\420*dd i∣dd (i+1)/\dd i∣dd (i+1)/\dd i∣420*dd i:=by
 have:i=0\/i=1:=by omega
 rcases this with rfl | rfl <;> decide
theorem bb_step {i:Nat}(h:i<2):2*(bb i*(7*bb i))<=bb (i+1)/\7*bb i<=bb (i+1)/\bb i<=bb (i+1)/\bb i<=2 ^ 32/\7*bb i<=2 ^ 32:=by
 have:i=0\/i=1:=by omega
 rcases this with rfl | rfl <;> decide
theorem sm7 {a:Int}(h0:0<a) (h:a<=7):Sm 4000 a:=by
 have e:(2:Int) ^ 40=1099511627776:=by decide
 exact (small_of (n:=40) h0 (by rw[e];omega)).mono ⋯
theorem dict_rows {H:Hp}{d:Addr}{n:Nat}{m:Mo}(h:DictF H d n m.rowAt):RowsAt H d m:=by
 obtain⟨kvs1,e1,_,e3⟩:=h.ex
 exact⟨kvs1,.inl e1,e3.toK fun _=>rfl⟩
def sp_tipped:Sp:=fun vs H Q E=>∃ d m kvs kd n,vs=[.ref d,.int kd,.int n]/\H d=some (.dK kvs)/\RowsK H kvs m/\m.nw<=64/\Good 63 m/\(kd≠0->m.All (fun _=>True) Sh)/\0<=n /\
 ∀ m' kvs' H',Wk d H H'->H' d=some (.dK kvs')->RowsK H' kvs' m'->Good 64 m'->m'.nw=m.nw->Q (.ref d) H'
theorem sc__law_tipped:Zb0 ["_law_rows","_law_kind","_law_number_here","_law_by","_law_spots","_law_at","_law_rods","_law_arms_here"] ["_law_rows","_law_kind","_law_number_here"] (Za6 (top 60)):=nofun
theorem ok_tipped (A:Adr K mg) {f:Addr}{fd:FuncData}(F:Fun K "_law_tipped" "_law_tipped" (top 60) f fd) (F__law_sum:Fnc P w K mg base "_law_sum" 2 ["_law_one","_law_other"] [] sp_sum) (F__law_product:Fnc P w K mg base "_law_product" 2 ["_law_one","_law_other"] [] sp_product) :
  FnOk P w K mg base (CX1 P w) 3 f fd ["_law_rows","_law_kind","_law_number_here"] sp_tipped:=by
 have S:=sc__law_tipped
 k_head
 ·obtain⟨d,m,kvs,kd,n,rfl,_⟩:=h
  rfl
 ·obtain⟨d,m,kvs,kd,n,rfl,hd,hR,hnw,hg,hsh,n0,q⟩:=h
  have hr__law_sum:Room 2 _:=hr
  have hr__law_product:Room 2 _:=hr
  have hu:=hu_of hr
  refine⟨_,(Za1 (Zb4 (i:=3) S.nd rfl (Or.inl rfl) (Zc0 op_add Za3 (Zc0 op_mod (pv 2) Za3)))
   (Za1 (ps_if (Zb7 op_eq (pv 1) Za3 (Zc6 _)) (Za1 (ps_setC (i:=4) S.nd rfl rfl (tv:=["_law_place"]) (cap:=[0]) (compOk_of (Za6 (top 60)) ["_law_rows","_law_kind","_law_number_here","_law_by","_law_spots","_law_at","_law_rods","_law_arms_here"] rfl rfl (by ac_nf) (by rfl)) rfl (pi_listK (K:=K) rfl (Zc3 (call_sorted rfl) (by rfl) A.n_sorted bt_sorted (Za0 (pv 0) Za2))) (fun _ _ _=>(pg_name (i:=0) (show (["_law_place","_law_rows"]:List Str).Nodup by ac_nf) rfl (Or.inl rfl) (Or.inr rfl))) (fun _ _ _=>(pts_one (Zb7 op_eq (Zc3 (lenK (K:=K) rfl) (by rfl) A.n_len bt_len (Za0 (pe_dget hu (pv 1) (pv 0) (fun _ _=>rfl)) Za2)) Za3 (Zc6 _)))) (fun _ _ _=>(pv 0)) (by rfl))
   (Za1 (Zb4 (i:=5) S.nd rfl (Or.inl rfl) (Zb6 (ixL (K:=K) rfl) (pv 4) (Zc0 op_mod (Zc0 op_fdivP (pv 2) Za3) (Zc3 (lenK (K:=K) rfl) (by rfl) A.n_len bt_len (Za0 (pv 4) Za2))) (fun _ _=>rfl)))
   (Za5 (ps_dput hu (pv 0) (pv 5) (pe_tup (Za0 (Zc1 F__law_product hr__law_product Zc2 (Za0 (Zb6 (ixT (K:=K) rfl) (pe_dget hu (pv 0) (pv 5) (fun _ _=>rfl)) Za3 (fun _ _=>rfl)) (Za0 (Zb6 (ixL (K:=K) rfl) (pe_lst (Za0 (pe_tup (Za0 (pv 3) (Za0 Za3 Za2))) (Za0 (pe_tup (Za0 Za3 (Za0 (pv 3) Za2))) Za2))) (Zc0 op_mod (Zc0 op_fdivP (pv 2) Za3) Za3) (fun _ _=>rfl)) Za2))) Za2)) rfl)))) Zb9)
   (Za1 (ps_setC (i:=6) S.nd rfl rfl (tv:=["_law_place"]) (cap:=[0]) (compOk_of (Za6 (top 60)) ["_law_rows","_law_kind","_law_number_here","_law_by","_law_spots","_law_at","_law_rods","_law_arms_here"] rfl rfl (by ac_nf) (by rfl)) rfl (pi_listK (K:=K) rfl (Zc3 (call_sorted rfl) (by rfl) A.n_sorted bt_sorted (Za0 (pv 0) Za2))) (fun _ _ _=>(pg_name (i:=0) (show (["_law_place","_law_rows"]:List Str).Nodup by ac_nf) rfl (Or.inl rfl) (Or.inr rfl))) (fun _ _ _=>(pts_one (Zb7 op_eq (Zc3 (lenK (K:=K) rfl) (by rfl) A.n_len bt_len (Za0 (pe_dget hu (pv 1) (pv 0) (fun _ _=>rfl)) Za2)) Za3 (Zc6 _)))) (fun _ _ _=>(pv 0)) (by rfl))
   (Za1 (ps_if (PW.pt (pw_and (Zb7 op_eq (pv 1) Za3 (Zc6 _)) (pw_and1 (Zb7 (op_neSLK (K:=K) rfl hu) (pv 6) (pe_lst Za2) (Zc6 _))))) (Za5 (ps_for PassesOwn.never rfl (pi_listK (K:=K) rfl (pe_lst (Za0 (Zb6 (ixL (K:=K) rfl) (pv 6) (Zc0 op_mod (Zc0 op_fdivP (pv 2) Za3) (Zc3 (lenK (K:=K) rfl) (by rfl) A.n_len bt_len (Za0 (pv 6) Za2))) (fun _ _=>rfl)) (Za0 (Zb6 (ixL (K:=K) rfl) (pv 6) (Zc0 op_mod (Zc0 op_fdivP (pv 2) Za3) (Zc3 (lenK (K:=K) rfl) (by rfl) A.n_len bt_len (Za0 (pv 6) Za2))) (fun _ _=>rfl)) Za2)))) (pg_name (i:=5) S.nd rfl (Or.inl rfl)) (Za1 (Zb4 (i:=7) S.nd rfl (Or.inl rfl) (pe_dget hu (pv 0) (pv 5) (fun _ _=>rfl)))
   (Za5 (ps_dput hu (pv 0) (pv 5) (pe_tup (Za0 (Zc1 F__law_sum hr__law_sum Zc2 (Za0 (Zb6 (ixT (K:=K) rfl) (pv 7) Za3 (fun _ _=>rfl)) (Za0 (Zc1 F__law_product hr__law_product Zc2 (Za0 (Zb6 (ixT (K:=K) rfl) (pv 7) Za3 (fun _ _=>rfl)) (Za0 (pe_tup (Za0 (Zc0 op_sub (pv 3) Za3) (Za0 (pv 3) Za2))) Za2))) Za2))) (Za0 (Zc1 F__law_product hr__law_product Zc2 (Za0 (Zb6 (ixT (K:=K) rfl) (pv 7) Za3 (fun _ _=>rfl)) (Za0 (pe_tup (Za0 Za3 (Za0 (pv 3) Za2))) Za2))) Za2))) rfl))))) Zb9)
   (Za5 (Za9 (pv 0))))))),?_⟩
  k_one
  have hb0:0<=n % 6:=Int.emod_nonneg _ ⋯
  have hb1:n % 6<6:=Int.emod_lt_of_pos _ ⋯
  have b2:2<=2+n % 6:=by omega
  have b7:2+n % 6<=7:=by omega
  generalize 2+n % 6=z at b2 b7 hRst ⊢
  have hD0:DictF H d 130 m.rowAt:=⟨kvs,hd,by have:=hR.size;omega,hR.toF⟩
  have fin:∀ H3 m3,Wk d H H3->DictF H3 d 400 m3.rowAt->Good 64 m3->m3.nw=m.nw->Q (.ref d) H3:=fun H3 m3 W D3 g3 n3=>by
   obtain⟨kvs3,e1,_,e3⟩:=D3.ex
   exact q m3 kvs3 H3 W e1 (e3.toK fun _=>rfl) g3 n3
  have rest:∀ (o4 o5:Option V) (m1:Mo) (H1:Hp),Wk d H H1->DictF H1 d 140 m1.rowAt->m1.nw=m.nw->Good 64 m1->(kd=4->m1.All (Am 64) (Bn 4 12))->Rst [some (.ref d),some (.int kd),some (.int n),some (.int z),o4,o5,none,none] H1:=by
   intro o4 o5 m1 H1 W1 D1 n1 g1 c1
   refine hRst _ _ ?_
   clear hRst
   have R1:RowsAt H1 d m1:=by
    obtain⟨kvs1,e1,_,e3⟩:=D1.ex
    exact⟨kvs1,.inl e1,e3.toK fun _=>rfl⟩
   k_one
   refine sorted_ok R1 ∅ fun l hl=>?_
   k_one
   refine⟨⟨_,SqL.of Za4⟩,fun D hD=>?_⟩
   have sm1:=Za7 (o:=.lst ((m1.places.map mkS).map .str)) hl
   refine comp_fm (xs:=m1.places.map mkS) (fun x=>!isWP m1 (toP x)) .str (places_small m1 ∅) hD (SqL.of Za4) (fun x hx ys R q=>?_) (fun x hx _ ys R q=>?_) ?_
   ·obtain⟨p,hp,rfl⟩:=List.mem_map.mp hx
    obtain⟨t,ht⟩:=(Mo.mem_places m1 p).mp hp
    rw[toP_mk] at q
    k_one
    refine rows_get ((R1.same sm1).same (Za7 hD)) ht fun v hv=>?_
    k_one
    refine len_ok (LenV.row hv) ?_
    k_one
    rw[rtest ht]
    exact q
   ·k_one
    exact q
   ·rw[rps_str]
    have smT:Same H1 (upd (upd H1 l (.lst ((m1.places.map mkS).map .str))) D (.lst (((rps m1).map mkS).map .str))):=fun b o e=>Za7 hD b o (sm1 b o e)
    have eD:upd (upd H1 l (.lst ((m1.places.map mkS).map .str))) D (.lst (((rps m1).map mkS).map .str)) D=some (.lst (((rps m1).map mkS).map .str)):=Za4
    generalize upd (upd H1 l (.lst ((m1.places.map mkS).map .str))) D (.lst (((rps m1).map mkS).map .str))=H2 at smT eD ⊢
    have W2:Wk d H H2:=W1.trans (.of smT)
    have D2:DictF H2 d 140 m1.rowAt:=D1.same smT
    have no:=fin H2 m1 W2 (D2.mono ⋯ fun _=>rfl) g1 n1
    k_one
    by_cases k4:kd=4
    ·simp only[k4,if_true]
     k_one
     refine⟨by decide,fun z0 hz0=>?_⟩
     have sm3:=Za7 (o:=.lst []) hz0
     have eD3:=sm3 _ _ eD
     refine⟨D,z0,(rps m1).map mkS,[],rfl,rfl,SqL.of eD3,SqL.of Za4,_,rfl,?_⟩
     generalize upd H2 z0 (.lst [])=H3 at sm3 eD3 ⊢
     have W3:Wk d H H3:=W2.trans (.of sm3)
     have D3:=D2.same sm3
     by_cases hc:rps m1=[]
     ·simp only[hc,List.map_nil,decide_true,Bool.not_true,Bool.false_eq_true,if_false]
      k_one
      exact fin H3 m1 W3 (D3.mono ⋯ fun _=>rfl) g1 n1
     ·have hne:¬((rps m1).map mkS=[]):=by simpa using hc
      simp only[hne,decide_false,Bool.not_false,if_true]
      have hpos:0<(rps m1).length:=List.length_pos_iff.mpr hc
      have hlw:(((rps m1).map mkS).map V.str).length=(rps m1).length:=by rw[List.length_map,List.length_map]
      refine⟨⟨by decide,by ac_nf⟩,len_ok (.inl ⟨_,SqL.of eD3,rfl⟩) ⟨_,rfl,by omega,?_⟩⟩
      have e1:=Int.emod_nonneg (n / 6) (show (((((rps m1).map mkS).map V.str).length:Nat):Int)≠0 by omega)
      have e2:=Int.emod_lt_of_pos (n / 6) (show (0:Int)<(((((rps m1).map mkS).map V.str).length:Nat):Int) by omega)
      refine ixL_mem (SqL.of eD3) ∅ ∅ fun x1 hx1=>?_
      refine⟨⟨by decide,by ac_nf⟩,len_ok (.inl ⟨_,SqL.of eD3,rfl⟩) ⟨_,rfl,by omega,?_⟩⟩
      have e3:=Int.emod_nonneg (n / 800) (show (((((rps m1).map mkS).map V.str).length:Nat):Int)≠0 by omega)
      have e4:=Int.emod_lt_of_pos (n / 800) (show (0:Int)<(((((rps m1).map mkS).map V.str).length:Nat):Int) by omega)
      refine ixL_mem (SqL.of eD3) ∅ ∅ fun x2 hx2=>?_
      refine⟨by decide,fun ls hls=>⟨⟨_,SqL.of Za4⟩,?_⟩⟩
      have mem:∀ x∈[x1,x2],∃ p,x = .str (mkS p)/\p∈rps m1:=by
       intro x hx
       have hx:x∈((rps m1).map mkS).map V.str:=by
        rcases List.mem_cons.mp hx with rfl | hx
        ·exact hx1
        ·rw[List.mem_singleton.mp hx];exact hx2
       obtain⟨y,hy,rfl⟩:=List.mem_map.mp hx
       obtain⟨p,hp,rfl⟩:=List.mem_map.mp hy
       exact⟨p,rfl,hp⟩
      refine for_listN (xs:=[x1,x2]) (fun i σ H'=>∃ o5 o7 m2,σ=[some (.ref d),some (.int 4),some (.int n),some (.int z),o4,o5,some (.ref D),o7]/\Wk d H H'/\DictF H' d (200+i) m2.rowAt/\m2.nw=m.nw/\m2.All (Am 64) (Bn (bb i) (dd i))/\(∀ p∈rps m1,∃ l x r y,m2.sub p=some (.rod l x r y))/\H' ls=some (.lst [x1,x2]))
       ⟨o5,none,m1,rfl,W3.new hls,(D3.new hls).mono ⋯ fun _=>rfl,n1,c1 k4,fun p hp=>mem_rps hp,Za4⟩ ?_ ?_ ?_
      ·rintro i σ H' hi ⟨o5',o7,m2,rfl,_,_,_,_,_,hls'⟩
       exact SqL.of hls'
      ·rintro i x σ H' N hx ⟨o5',o7,m2,rfl,W,D',n2,a2,r2,hls'⟩ hN
       have hi:i<2:=by
        rcases Nat.lt_or_ge i 2 with h | h
        ·exact h
        ·rw[List.getElem?_eq_none_iff.mpr h] at hx;cases hx
       obtain⟨st1,st2,st3,st4,st5⟩:=bb_step hi
       obtain⟨sd1,sd2,sd3,sd4,sd5⟩:=dd_step hi
       obtain⟨p,rfl,hp⟩:=mem x (List.mem_of_getElem? hx)
       obtain⟨lf,u,rf,y,ht⟩:=r2 p hp
       obtain⟨bl,br,au,ay⟩:=Mo.All.sub a2 ht
       have sl:=(bl.ar st4 sd1).small
       have sr:=(br.ar st4 sd1).small
       have zp:0<z-1:=by omega
       have z0':0<z:=by omega
       have t1:=bn_times (y:=(z-1,z)) br zp z0' (by show z-1<=7;omega) b7
       have t2:=bn_times (y:=(1,z)) br (by show (0:Int)<1;decide) z0' (by show (1:Int)<=7;decide) b7
       have t3:=bn_plus (bl.mono (Int.le_refl _) sd5) t1
       have s1:=(t1.ar st5 sd2).small
       k_one
       refine rows_get (dict_rows D') ht fun vr hvr=>?_
       k_one
       refine row0 hvr fun y0 hy0=>?_
       k_one
       refine row1 hvr fun y1 hy1=>?_
       k_one
       refine⟨by decide,fun p1 hp1=>?_⟩
       k_one
       have sA:=Za7 (o:=.tup [.int (z-1),.int z]) hp1
       refine⟨y1,_,rf,(z-1,z),rfl,hy1.same sA,⟨p1,rfl,Za4⟩,br.b,z0',sr.1.mono ⋯,sr.2.mono ⋯,sm7 zp ∅,sm7 z0' b7,fun v1 H4 sm4 f1=>?_⟩
       k_one
       have sB:=sA.trans sm4
       refine⟨y0,v1,lf,_,rfl,hy0.same sB,f1,bl.b,t1.b,sl.1.mono ⋯,sl.2.mono ⋯,s1.1.mono ⋯,s1.2.mono ⋯,fun v2 H5 sm5 f2=>?_⟩
       k_one
       have sC:=sB.trans sm5
       refine row1 (hvr.kp sC.kp) fun y2 hy2=>?_
       k_one
       refine⟨by decide,fun p2 hp2=>?_⟩
       k_one
       have sD:=Za7 (o:=.tup [.int 1,.int z]) hp2
       refine⟨y2,_,rf,(1,z),rfl,hy2.same sD,⟨p2,rfl,Za4⟩,br.b,z0',sr.1.mono ⋯,sr.2.mono ⋯,sm7 (by show (0:Int)<1;decide) (by show (1:Int)<=7;decide),sm7 z0' b7,fun v3 H6 sm6 f3=>?_⟩
       k_one
       refine⟨by decide,fun p3 hp3=>?_⟩
       k_one
       have sE:=Za7 (o:=.tup [v2,v3]) hp3
       have sF:Same H' (upd H6 p3 (.tup [v2,v3])):=((sC.trans sD).trans sm6).trans sE
       refine (D'.same sF).put ∅ (.two Za4 (((f2.same sD).same sm6).same sE) (f3.same sE)) fun H7 D7 w7=>?_
       k_one
       have W7:Wk d H H7:=(W.trans (.of sF)).trans w7
       have edl:ls≠d:=by
        obtain⟨kz,ez,_⟩:=D'.ex
        exact ne_of hls' ez (by intro z;cases z)
       refine hN _ _ ⟨_,_,m2.put p (.rod (Zd0 lf (Zb1 rf (z-1,z))) u (Zb1 rf (1,z)) y),rfl,W7,D7.mono ∅ fun q=>rowAt_arms ht q,?_,?_,fun p' hp'=>?_,w7.sx _ _ edl (sF _ _ hls')⟩
       ·have:=Mo.nw_put m2 p (.rod (Zd0 lf (Zb1 rf (z-1,z))) u (Zb1 rf (1,z)) y) _ ht
        simp only[Mo.nw] at this
        omega
       ·refine Mo.All.put (s:=.rod (Zd0 lf (Zb1 rf (z-1,z))) u (Zb1 rf (1,z)) y) ⟨t3.mono st1 sd3,t2.mono st2 sd3,Mo.All.mono (fun _ z=>z) (fun _ z=>z.mono st3 sd4) au,Mo.All.mono (fun _ z=>z) (fun _ z=>z.mono st3 sd4) ay⟩ (Mo.All.mono (fun _ z=>z) (fun _ z=>z.mono st3 sd4) a2)
       ·obtain⟨l3,x3,r3,y3,h3⟩:=r2 p' hp'
        exact sub_put_rod ht h3
      ·rintro σ H' ⟨o5',o7,m2,rfl,W,D',n2,a2,r2,_⟩
       k_one
       exact fin H' m2 W (D'.mono (by show 202<=400;decide) fun _=>rfl) (Mo.All.mono (fun _ z=>z) (fun _ b=>b.ar (by show (702464:Int)<=2 ^ 32;decide) (by show (2116800:Int)∣2116800;decide)) a2) n2
    ·simp only[k4,if_false]
     k_one
     exact no
  by_cases k2:kd=2
  ·rw[if_pos k2]
   k_one
   have R0:RowsAt H d m:=⟨kvs,.inl hd,hR⟩
   refine sorted_ok R0 ∅ fun l hl=>?_
   k_one
   refine⟨⟨_,SqL.of Za4⟩,fun D hD=>?_⟩
   have sm1:=Za7 (o:=.lst ((m.places.map mkS).map .str)) hl
   refine comp_fm (xs:=m.places.map mkS) (fun x=>isWP m (toP x)) .str (places_small m ∅) hD (SqL.of Za4) (fun x hx ys R q=>?_) (fun x hx _ ys R q=>?_) ?_
   ·obtain⟨p,hp,rfl⟩:=List.mem_map.mp hx
    obtain⟨t,ht⟩:=(Mo.mem_places m p).mp hp
    rw[toP_mk] at q
    k_one
    refine rows_get ((R0.same sm1).same (Za7 hD)) ht fun v hv=>?_
    k_one
    refine len_ok (LenV.row hv) ?_
    k_one
    rw[wtest ht]
    exact q
   ·k_one
    exact q
   ·rw[wps_str]
    have smT:Same H (upd (upd H l (.lst ((m.places.map mkS).map .str))) D (.lst (((wps m).map mkS).map .str))):=fun b o e=>Za7 hD b o (sm1 b o e)
    have eD:upd (upd H l (.lst ((m.places.map mkS).map .str))) D (.lst (((wps m).map mkS).map .str)) D=some (.lst (((wps m).map mkS).map .str)):=Za4
    generalize upd (upd H l (.lst ((m.places.map mkS).map .str))) D (.lst (((wps m).map mkS).map .str))=H2 at smT eD ⊢
    have hpos:0<(wps m).length:=List.length_pos_iff.mpr (wps_ne m)
    have hlw:(((wps m).map mkS).map V.str).length=(wps m).length:=by rw[List.length_map,List.length_map]
    k_one
    refine⟨⟨by decide,by ac_nf⟩,len_ok (.inl ⟨_,SqL.of eD,rfl⟩) ⟨_,rfl,by omega,?_⟩⟩
    have e1:=Int.emod_nonneg (n / 6) (show (((((wps m).map mkS).map V.str).length:Nat):Int)≠0 by omega)
    have e2:=Int.emod_lt_of_pos (n / 6) (show (0:Int)<(((((wps m).map mkS).map V.str).length:Nat):Int) by omega)
    refine ixL_mem (SqL.of eD) ∅ ∅ fun v hv=>?_
    obtain⟨y,hy,rfl⟩:=List.mem_map.mp hv
    obtain⟨p,hp,rfl⟩:=List.mem_map.mp hy
    obtain⟨a,ha⟩:=mem_wps.mp hp
    have ga:Am 63 a:=Mo.All.sub hg ha
    have sa:=(ga.le (show 63<=64 by decide)).small
    k_one
    refine rows_get (R0.same smT) ha fun vr hvr=>?_
    k_one
    refine row0 hvr fun x0 hx0=>?_
    k_one
    refine⟨by decide,fun p1 hp1=>?_⟩
    k_one
    refine⟨by decide,fun p2 hp2=>?_⟩
    k_one
    refine⟨by decide,fun p3 hp3=>⟨⟨by decide,by ac_nf⟩,?_⟩⟩
    have z0':0<z:=by omega
    have s1:=Za7 (o:=.tup [.int z,.int 1]) hp1
    have s2:=Za7 (o:=.tup [.int 1,.int z]) hp2
    have s3:=Za7 (o:=.lst [.ref p1,.ref p2]) hp3
    have q1:=s3 _ _ (s2 _ _ (show upd H2 p1 (.tup [.int z,.int 1]) p1=some (.tup [.int z,.int 1]) from Za4))
    have q2:=s3 _ _ (show upd (upd H2 p1 (.tup [.int z,.int 1])) p2 (.tup [.int 1,.int z]) p2=some (.tup [.int 1,.int z]) from Za4)
    have q3:upd (upd (upd H2 p1 (.tup [.int z,.int 1])) p2 (.tup [.int 1,.int z])) p3 (.lst [.ref p1,.ref p2]) p3=some (.lst [.ref p1,.ref p2]):=Za4
    have s123:Same H2 (upd (upd (upd H2 p1 (.tup [.int z,.int 1])) p2 (.tup [.int 1,.int z])) p3 (.lst [.ref p1,.ref p2])):=(s1.trans s2).trans s3
    generalize upd (upd (upd H2 p1 (.tup [.int z,.int 1])) p2 (.tup [.int 1,.int z])) p3 (.lst [.ref p1,.ref p2])=H3 at q1 q2 q3 s123 ⊢
    have f1:=Int.emod_nonneg (n / 1000) (show (2:Int)≠0 by decide)
    have f2:=Int.emod_lt_of_pos (n / 1000) (show (0:Int)<2 by decide)
    refine ixL_mem (SqL.of q3) (by simp;omega) (by simp;omega) fun v' hv'=>?_
    obtain⟨c,hc,c0,c1,c2,c3⟩:∃ c:Fr,FrV H3 v' c/\0<c.1/\0<c.2/\c.1<=7/\c.2<=7:=by
     rcases List.mem_cons.mp hv' with rfl | hv'
     ·exact⟨(z,1),⟨p1,rfl,q1⟩,z0',(by show (0:Int)<1;decide),b7,(by show (1:Int)<=7;decide)⟩
     ·rw[List.mem_singleton.mp hv']
      exact⟨(1,z),⟨p2,rfl,q2⟩,(by show (0:Int)<1;decide),z0',(by show (1:Int)<=7;decide),b7⟩
    refine⟨x0,v',a,c,rfl,hx0.same s123,hc,ga.b,c1,sa.1.mono ⋯,sa.2.mono ⋯,sm7 c0 c2,sm7 c1 c3,fun v1 H4 sm4 f4=>⟨by decide,fun p4 hp4=>?_⟩⟩
    have s4:=Za7 (o:=.tup [v1]) hp4
    have sA:Same H (upd H4 p4 (.tup [v1])):=((smT.trans s123).trans sm4).trans s4
    refine (hD0.same sA).put ⋯ (.one Za4 (f4.same s4)) fun H5 D5 w5=>?_
    have am:=am_times ga c0 c1 c2 c3
    refine rest _ _ (m.put p (.wt (Zb1 a c))) H5 ((Wk.of sA).trans w5) (D5.mono ⋯ fun q=>Mo.rowAt_amount ha q) ?_ ?_ fun k4=>absurd (k2.symm.trans k4) ⋯
    ·have:=Mo.nw_put m p (.wt (Zb1 a c)) _ ha
     simp only[Mo.nw] at this
     omega
    ·exact Mo.All.put (s:=.wt (Zb1 a c)) am (Mo.All.mono (fun _ z=>z.succ) (fun _ z=>z) hg)
  ·rw[if_neg k2]
   refine rest _ _ m H (.of fun _ _ z=>z) (hD0.mono ⋯ fun _=>rfl) rfl (Mo.All.mono (fun _ z=>z.succ) (fun _ z=>z) hg) fun k4=>?_
   have h1:=hsh ∅
   have both:∀ {m:Mo},m.All (Am 63) Ar->m.All (fun _=>True) Sh->m.All (Am 64) (Bn 4 12):=by
    intro m
    induction m with
    | wt a=>exact fun h _=>h.succ
    | rod l x r y hx hy=>exact fun h g=>⟨Sh.bn g.1,Sh.bn g.2.1,hx h.2.2.1 g.2.2.1,hy h.2.2.2 g.2.2.2⟩
   exact both hg h1
structure Bg (x:Fr):Prop where
 t:0<x.1
 b:0<x.2
 small:Sm 1900 x.1/\Sm 1900 x.2
theorem ar_bg {x:Fr}(h:Ar x):Bg x:=⟨h.t,h.b,h.small.1.mono ⋯,h.small.2.mono ⋯⟩
def sp_weight_at (N cW cR:Addr):Sp:=fun vs H Q E=>∃ v m q,vs=[v,.str (mkS q)]/\Th cW cR H v m/\m.depth<=64/\q.length<=4096/\(∀ v' a,m.sub q=some (.wt a)->Th cW cR H v' (.wt a)->Q v' H)/\((∀ a,m.sub q≠some (.wt a))->E (.ref N) none H)
theorem sc_weight_at:Zb0 ["mobile","place","thing"] ["mobile","place"] (Za6 (top 19)):=nofun
theorem ok_weight_at (A:Adr K mg) {f:Addr}{fd:FuncData}(F:Fun K "weight_at" "weight_at" (top 19) f fd) (D_at:DAt P w K mg base A):FnOk P w K mg base (CX1 P w) 69 f fd ["mobile","place"] (sp_weight_at A.c_NoPlace A.c_Weight A.c_Rod):=by
 have S:=sc_weight_at
 w_on
 ·obtain⟨v,m,q,rfl,_⟩:=h
  rfl
 ·obtain⟨v,m,q,rfl,hv,hd,hq,k1,k2⟩:=h
  have hr_at:Room 68 _:=hr.mono ⋯
  refine⟨_,(Za1 (Zb4 (i:=2) S.nd rfl (Or.inl rfl) (pe_m D_at hr_at Zb2 (pv 0) (Za0 (pv 1) Za2)))
   (Za1 (ps_if (pt_not (pt_val (Zc3 (isiK (K:=K) rfl) (by rfl) A.n_isinstance Zd1 (Za0 (pv 2) (Za0 (pe_glob (v:=.ref A.c_Weight) rfl A.g_Weight rfl) Za2))))) (Za5 (ps_raise raises_cx hr.hd A.x_NoPlace rfl A.g_NoPlace Zc7)) Zb9)
   (Za5 (Za9 (pv 2))))),?_⟩
  k_one
  refine dyn_okR (xs:=[.str (mkS q)]) hv (fun _=>by rfl) (fun _ _ _ _=>by rfl) .refl ?_ (fun S s=>s)
  refine⟨v,m,q,rfl,hv,hd,hq,(fun v' t e th=>?_),fun e=>?_⟩
  ·k_one
   cases t with
   | wt a=>
    have th':=th
    obtain⟨b,dx,u,rfl,ha,hf⟩:=th'
    refine isi_ok (.of (A.y_Weight ha)) rfl A.t_WW ?_
    k_one
    exact k1 _ a e th
   | rod l x r y=>
    obtain⟨b,dx,u1,u2,u3,u4,rfl,ha,_⟩:=th
    refine isi_ok (.of (A.y_Rod ha)) rfl A.t_RW ?_
    k_one
    exact k2 fun a z=>by rw[e] at z;cases z
  ·k_one
   exact k2 fun a z=>by rw[e] at z;cases z
def sp_rod_at (N cW cR:Addr):Sp:=fun vs H Q E=>∃ v m q,vs=[v,.str (mkS q)]/\Th cW cR H v m/\m.depth<=64/\q.length<=4096/\(∀ v' l x r y,m.sub q=some (.rod l x r y)->Th cW cR H v' (.rod l x r y)->Q v' H)/\((∀ l x r y,m.sub q≠some (.rod l x r y))->E (.ref N) none H)
theorem sc_rod_at:Zb0 ["mobile","place","thing"] ["mobile","place"] (Za6 (top 20)):=nofun
theorem ok_rod_at (A:Adr K mg) {f:Addr}{fd:FuncData}(F:Fun K "rod_at" "rod_at" (top 20) f fd) (D_at:DAt P w K mg base A):FnOk P w K mg base (CX1 P w) 69 f fd ["mobile","place"] (sp_rod_at A.c_NoPlace A.c_Weight A.c_Rod):=by
 have S:=sc_rod_at
 w_on
 ·obtain⟨v,m,q,rfl,_⟩:=h
  rfl
 ·obtain⟨v,m,q,rfl,hv,hd,hq,k1,k2⟩:=h
  have hr_at:Room 68 _:=hr.mono ⋯
  refine⟨_,(Za1 (Zb4 (i:=2) S.nd rfl (Or.inl rfl) (pe_m D_at hr_at Zb2 (pv 0) (Za0 (pv 1) Za2)))
   (Za1 (ps_if (pt_not (pt_val (Zc3 (isiK (K:=K) rfl) (by rfl) A.n_isinstance Zd1 (Za0 (pv 2) (Za0 (pe_glob (v:=.ref A.c_Rod) rfl A.g_Rod rfl) Za2))))) (Za5 (ps_raise raises_cx hr.hd A.x_NoPlace rfl A.g_NoPlace Zc7)) Zb9)
   (Za5 (Za9 (pv 2))))),?_⟩
  k_one
  refine dyn_okR (xs:=[.str (mkS q)]) hv (fun _=>by rfl) (fun _ _ _ _=>by rfl) .refl ?_ (fun S s=>s)
  refine⟨v,m,q,rfl,hv,hd,hq,(fun v' t e th=>?_),fun e=>?_⟩
  ·k_one
   cases t with
   | wt a=>
    obtain⟨b,dx,u,rfl,ha,hf⟩:=th
    refine isi_ok (.of (A.y_Weight ha)) rfl A.t_WR ?_
    k_one
    exact k2 fun l x r y z=>by rw[e] at z;cases z
   | rod l x r y=>
    have th':=th
    obtain⟨b,dx,u1,u2,u3,u4,rfl,ha,_⟩:=th'
    refine isi_ok (.of (A.y_Rod ha)) rfl A.t_RR ?_
    k_one
    exact k1 _ l x r y e th
  ·k_one
   exact k2 fun l x r y z=>by rw[e] at z;cases z
def sp_hung (cW cR:Addr) (n:Nat):Sp:=fun vs H Q E=>∃ v p u m s t,vs=[v,.str (mkS p),u]/\Th cW cR H v m/\Th cW cR H u s/\m.sub p=some t/\p.length<=n/\p.length<=4096/\m.All (fun _=>True) Bg /\
 ∀ v' H',Same H H'->Th cW cR H' v' (m.put p s)->Q v' H'
theorem sc_hung_at:Zb0 ["mobile","place","thing"] ["mobile","place","thing"] (Za6 (top 22)):=nofun
theorem ok_hung (A:Adr K mg) {f:Addr}{fd:FuncData}(F:Fun K "hung_at" "hung_at" (top 22) f fd) (DF:∀ k sp,FnOk P w K mg base (CX1 P w) k f fd ["mobile","place","thing"] sp->Fnc P w K mg base "hung_at" k ["mobile","place","thing"] [] sp)
  (M_Rod:Mkr P w K mg base "Rod" A.c_Rod 3 ["self","left_arm","left","right_arm","right"] [] (sp_rinit A.c_NoNumber A.c_Rod)):∀ n,FnOk P w K mg base (CX1 P w) (n+5) f fd ["mobile","place","thing"] (sp_hung A.c_Weight A.c_Rod n):=by
 have S:=sc_hung_at
 have len:∀ n vs H Q E,sp_hung A.c_Weight A.c_Rod n vs H Q E->vs.length=3:=by
  rintro n vs H Q E ⟨v,p,u,m,s,t,rfl,_⟩
  rfl
 have step:∀ (n k:Nat) (sp:Sp),4<=k->Fnc P w K mg base "hung_at" k ["mobile","place","thing"] [] sp->(∀ n',n=n'+1->sp=sp_hung A.c_Weight A.c_Rod n')->FnOk P w K mg base (CX1 P w) (k+1) f fd ["mobile","place","thing"] (sp_hung A.c_Weight A.c_Rod n):=by
  intro n k sp hk F_hung_at hsp
  refine F.okN S (len n) (fun cdv A' outer s H vs Q E hr h=>?_)
  obtain⟨v,p,u,m,s,t,rfl,hv,hu',ht,hp,hp',ha,q⟩:=h
  have hr_hung_at:Room k _:=hr
  have hr_Rod:Room 4 _:=hr.mono ∅
  have hu:=hu_of hr
  refine⟨_,(Za1 (ps_if (Zb7 op_eq (pv 1) Zc7 (Zc6 _)) (Za5 (Za9 (pv 2))) Zb9)
   (Za1 (ps_if (Zb7 op_eq (Zb6 ix_str (pv 1) Za3 (fun _ _=>rfl)) Zc7 (Zc6 _)) (Za5 (Za9 (pe_mk M_Rod hr_Rod Zc2 (Za0 (Zc9 (K:=K) rfl (pv 0) rfl) (Za0 (Zc1 F_hung_at hr_hung_at Zc2 (Za0 (Zc9 (K:=K) rfl (pv 0) rfl) (Za0 (pe_slice sl_str (pv 1) (po_some Za3) po_none) (Za0 (pv 2) Za2)))) (Za0 (Zc9 (K:=K) rfl (pv 0) rfl) (Za0 (Zc9 (K:=K) rfl (pv 0) rfl) Za2))))))) Zb9)
   (Za5 (Za9 (pe_mk M_Rod hr_Rod Zc2 (Za0 (Zc9 (K:=K) rfl (pv 0) rfl) (Za0 (Zc9 (K:=K) rfl (pv 0) rfl) (Za0 (Zc9 (K:=K) rfl (pv 0) rfl) (Za0 (Zc1 F_hung_at hr_hung_at Zc2 (Za0 (Zc9 (K:=K) rfl (pv 0) rfl) (Za0 (pe_slice sl_str (pv 1) (po_some Za3) po_none) (Za0 (pv 2) Za2)))) Za2))))))))),?_⟩
  k_one
  cases p with
  | nil=>
   rw[←s_empty]
   simp only[decide_true,if_true]
   k_one
   exact q u H (fun _ _ z=>z) (by simpa [Mo.put] using hu')
  | cons c p=>
   have:¬mkS (c::p)=("" : Str):=by rw[s_empty,mkS_inj];simp
   simp only[this,decide_false,Bool.false_eq_true,if_false]
   k_one
   have hq':p.length<=4096:=by simp at hp';omega
   have isl:(mkS [c]=("l" : Str))=(c=108):=by rw[s_l,mkS_inj];simp
   simp only[List.length_cons] at hp
   obtain⟨n',rfl⟩:∃ n',n=n'+1:=⟨n-1,by omega⟩
   have e:=hsp n' rfl
   subst e
   refine ixS0 hq' ?_
   k_one
   simp only[isl]
   cases m with
   | wt a=>cases ht
   | rod l x r y=>
    obtain⟨b,dx,u1,u2,u3,u4,rfl,hb,h1,h2,h3,h4⟩:=hv
    obtain⟨al,ar,ax,ay⟩:=ha
    have sl:=al.small
    have sr:=ar.small
    by_cases c1:c=108
    ·subst c1
     simp only[if_true]
     k_one
     have ht':x.sub p=some t:=by simpa [Mo.sub] using ht
     refine fld_ok hb A.l_Rod A.a_left_arm (by rfl) ?_
     k_one
     refine fld_ok hb A.l_Rod A.a_left (by rfl) ?_
     k_one
     refine slS_tail hq' ?_
     refine⟨u2,p,u,x,s,t,rfl,h2,hu',ht',by omega,hq',ax,fun v1 H1 sm1 t1=>?_⟩
     refine fld_ok (sm1 _ _ hb) A.l_Rod A.a_right_arm (by rfl) ?_
     refine fld_ok (sm1 _ _ hb) A.l_Rod A.a_right (by rfl) ?_
     exact mkR_ok (l:=l) (r:=r) (h1.same sm1) t1 (h3.same sm1) (h4.kp sm1.kp) (sl.1.mono ⋯) (sl.2.mono ⋯) (sr.1.mono ⋯) (sr.2.mono ⋯)
      (fun _ _ z H3 hz sm3 t3=>q _ _ (sm1.trans sm3) (by simpa [Mo.put] using t3)) fun h0=>absurd ⟨al.t,ar.t⟩ h0
    ·simp only[c1,if_false]
     have c2:c=114:=by
      simp only[Mo.sub,c1,if_false] at ht
      by_cases c2:c=114
      ·exact c2
      ·rw[if_neg c2] at ht;cases ht
     subst c2
     have ht':y.sub p=some t:=by simpa [Mo.sub] using ht
     k_one
     refine fld_ok hb A.l_Rod A.a_left_arm (by rfl) ?_
     refine fld_ok hb A.l_Rod A.a_left (by rfl) ?_
     refine fld_ok hb A.l_Rod A.a_right_arm (by rfl) ?_
     refine fld_ok hb A.l_Rod A.a_right (by rfl) ?_
     refine slS_tail hq' ?_
     refine⟨u4,p,u,y,s,t,rfl,h4,hu',ht',by omega,hq',ay,fun v1 H1 sm1 t1=>?_⟩
     exact mkR_ok (l:=l) (r:=r) (h1.same sm1) (h2.kp sm1.kp) (h3.same sm1) t1 (sl.1.mono ⋯) (sl.2.mono ⋯) (sr.1.mono ⋯) (sr.2.mono ⋯)
      (fun _ _ z H3 hz sm3 t3=>q _ _ (sm1.trans sm3) (by simpa [Mo.put] using t3)) fun h0=>absurd ⟨al.t,ar.t⟩ h0
 intro n
 induction n with
 | zero=>exact step 0 4 _ (Nat.le_refl 4) (DF _ _ (F.okN sc_hung_at (fun vs H Q E (h:False)=>h.elim) (fun cdv A' outer s H vs Q E hr h=>h.elim))) (fun n' e=>by cases e)
 | succ n ih=>exact step (n+1) (n+5) _ ∅ (DF _ _ ih) (fun n' e=>by cases e;rfl)
def sp_put (NN NP cW cR:Addr):Sp:=fun vs H Q E=>∃ v m q u a,vs=[v,.str (mkS q),u]/\Th cW cR H v m/\m.depth<=64/\q.length<=4096/\FrV H u a/\Sm 4000 a.1/\Sm 4000 a.2/\m.All (fun _=>True) Bg /\
 (∀ b,m.sub q=some (.wt b)->0<a.1->∀ v' H',Same H H'->Th cW cR H' v' (m.put q (.wt a))->Q v' H')/\(∀ b,m.sub q=some (.wt b)->¬0<a.1->∀ H',Same H H'->E (.ref NN) none H')/\((∀ b,m.sub q≠some (.wt b))->E (.ref NP) none H)
theorem sc_put:Zb0 ["mobile","place","amount"] ["mobile","place","amount"] (Za6 (top 23)):=nofun
theorem ok_put (A:Adr K mg) {f:Addr}{fd:FuncData}(F:Fun K "put" "put" (top 23) f fd) (F_weight_at:Fnc P w K mg base "weight_at" 69 ["mobile","place"] [] (sp_weight_at A.c_NoPlace A.c_Weight A.c_Rod)) (F_hung_at:Fnc P w K mg base "hung_at" 69 ["mobile","place","thing"] [] (sp_hung A.c_Weight A.c_Rod 64))
  (M_Weight:Mkr P w K mg base "Weight" A.c_Weight 3 ["self","amount"] [] (sp_winit A.c_NoNumber A.c_Weight)):FnOk P w K mg base (CX1 P w) 70 f fd ["mobile","place","amount"] (sp_put A.c_NoNumber A.c_NoPlace A.c_Weight A.c_Rod):=by
 have S:=sc_put
 w_on
 ·obtain⟨v,m,q,u,a,rfl,_⟩:=h
  rfl
 ·obtain⟨v,m,q,u,a,rfl,hv,hd,hq,hu',s1,s2,ha,k1,k2,k3⟩:=h
  have hr_weight_at:Room 69 _:=hr
  have hr_hung_at:Room 69 _:=hr
  have hr_Weight:Room 4 _:=hr.mono ⋯
  refine⟨_,(Za1 (ps_expr (Zc1 F_weight_at hr_weight_at Zb2 (Za0 (pv 0) (Za0 (pv 1) Za2))))
   (Za5 (Za9 (Zc1 F_hung_at hr_hung_at Zb2 (Za0 (pv 0) (Za0 (pv 1) (Za0 (pe_mk M_Weight hr_Weight Zb2 (Za0 (pv 2) Za2)) Za2))))))),?_⟩
  k_one
  refine⟨v,m,q,rfl,hv,hd,hq,fun v' b e _=>?_,fun e=>?_⟩
  ·k_one
   refine mkW_ok (cR:=A.c_Rod) (f:=a) hu' s1 s2 (fun a0 z H1 hz sm1 t1=>?_) (fun a0 H1 sm1=>?_)
   ·k_one
    refine⟨v,q,.ref z,m,.wt a,_,rfl,hv.kp sm1.kp,t1,e,by have:=sub_len e;omega,hq,ha,fun v2 H2 sm2 t2=>?_⟩
    k_one
    exact k1 b e a0 v2 H2 (sm1.trans sm2) t2
   ·k_one
    exact k2 b e a0 H1 sm1
  ·k_one
   exact k3 e
def sp_shift (NN NP cW cR:Addr):Sp:=fun vs H Q E=>∃ v m q u a,vs=[v,.str (mkS q),u]/\Th cW cR H v m/\m.depth<=64/\q.length<=4096/\FrV H u a/\0<a.2/\Sm 1400 a.1/\Sm 1400 a.2/\m.All (fun _=>True) Bg/\(∀ l x r y,m.sub q=some (.rod l x r y)->Ar l/\Ar r) /\
 (∀ l x r y,m.sub q=some (.rod l x r y)->0<(Zd0 l a).1->0<(Zc8 r a).1->∀ v' H',Same H H'->Th cW cR H' v' (m.put q (.rod (Zd0 l a) x (Zc8 r a) y))->Q v' H') /\
 (∀ l x r y,m.sub q=some (.rod l x r y)->¬(0<(Zd0 l a).1/\0<(Zc8 r a).1)->∀ H',Same H H'->E (.ref NN) none H')/\((∀ l x r y,m.sub q≠some (.rod l x r y))->E (.ref NP) none H)
theorem low_sm {a b:Int}{n:Nat}(hb:0<b) (ha:Sm n a) (hb':Sm n b):Sm n (low a b).1/\Sm n (low a b).2:=by
 refine⟨?_,?_⟩
 ·unfold Sm at *
  have h:=Int.natAbs_dvd_natAbs.mpr (low_tdvd (a:=a) (b:=b) ∅)
  rcases Nat.eq_zero_or_pos a.natAbs with z | z
  ·have:(low a b).1.natAbs=0:=by
    have e:a=0:=Int.natAbs_eq_zero.mp z
    have hc:=low_cross (a:=a) (b:=b) ∅
    rw[e,Int.zero_mul] at hc
    rw[e]
    rcases Int.mul_eq_zero.mp hc with h | h
    ·rw[h];rfl
    ·omega
   omega
  ·exact Nat.lt_of_le_of_lt (Nat.le_of_dvd z h) ha
 ·unfold Sm at *
  have h:=Int.natAbs_dvd_natAbs.mpr (low_dvd (a:=a) (b:=b) ∅)
  exact Nat.lt_of_le_of_lt (Nat.le_of_dvd ∅ h) hb'
theorem sc_shift:Zb0 ["mobile","place","far","rod","shifted"] ["mobile","place","far"] (Za6 (top 25)):=nofun
theorem ok_shift (A:Adr K mg) {f:Addr}{fd:FuncData}(F:Fun K "shift" "shift" (top 25) f fd) (F_rod_at:Fnc P w K mg base "rod_at" 69 ["mobile","place"] [] (sp_rod_at A.c_NoPlace A.c_Weight A.c_Rod)) (F_hung_at:Fnc P w K mg base "hung_at" 69 ["mobile","place","thing"] [] (sp_hung A.c_Weight A.c_Rod 64))
  (F_plus:Fnc P w K mg base "plus" 3 ["one","other"] [] (sp_plus A.c_NoNumber)) (F_minus:Fnc P w K mg base "minus" 3 ["one","other"] [] (sp_minus A.c_NoNumber))
  (M_Rod:Mkr P w K mg base "Rod" A.c_Rod 3 ["self","left_arm","left","right_arm","right"] [] (sp_rinit A.c_NoNumber A.c_Rod)):FnOk P w K mg base (CX1 P w) 70 f fd ["mobile","place","far"] (sp_shift A.c_NoNumber A.c_NoPlace A.c_Weight A.c_Rod):=by
 have S:=sc_shift
 w_on
 ·obtain⟨v,m,q,u,a,rfl,_⟩:=h
  rfl
 ·obtain⟨v,m,q,u,a,rfl,hv,hd,hq,hu',a2,s1,s2,ha,hat,k1,k2,k3⟩:=h
  have hr_rod_at:Room 69 _:=hr
  have hr_hung_at:Room 69 _:=hr
  have hr_Rod:Room 4 _:=hr.mono ⋯
  have hr_plus:Room 3 _:=hr.mono ⋯
  have hr_minus:Room 3 _:=hr.mono ⋯
  refine⟨_,(Za1 (Zb4 (i:=3) S.nd rfl (Or.inl rfl) (Zc1 F_rod_at hr_rod_at Zb2 (Za0 (pv 0) (Za0 (pv 1) Za2))))
   (Za1 (Zb4 (i:=4) S.nd rfl (Or.inl rfl) (pe_mk M_Rod hr_Rod Zb2 (Za0 (Zc1 F_plus hr_plus Zb2 (Za0 (Zc9 (K:=K) rfl (pv 3) rfl) (Za0 (pv 2) Za2))) (Za0 (Zc9 (K:=K) rfl (pv 3) rfl) (Za0 (Zc1 F_minus hr_minus Zb2 (Za0 (Zc9 (K:=K) rfl (pv 3) rfl) (Za0 (pv 2) Za2))) (Za0 (Zc9 (K:=K) rfl (pv 3) rfl) Za2))))))
   (Za5 (Za9 (Zc1 F_hung_at hr_hung_at Zb2 (Za0 (pv 0) (Za0 (pv 1) (Za0 (pv 4) Za2)))))))),?_⟩
  k_one
  refine⟨v,m,q,rfl,hv,hd,hq,fun v' l x r y e th=>?_,fun e=>?_⟩
  ·obtain⟨b,dx,u1,u2,u3,u4,rfl,hb,h1,h2,h3,h4⟩:=th
   obtain⟨al,ar⟩:=hat l x r y e
   have sl:=al.small
   have sr:=ar.small
   k_one
   refine fld_ok hb A.l_Rod A.a_left_arm (by rfl) ?_
   k_one
   refine plus_ok h1 hu' al.b a2 (sl.1.mono ⋯) (sl.2.mono ⋯) (s1.mono ⋯) (s2.mono ⋯) fun w1 H1 sm1 f1=>?_
   k_one
   refine fld_ok (sm1 _ _ hb) A.l_Rod A.a_left (by rfl) ?_
   k_one
   refine fld_ok (sm1 _ _ hb) A.l_Rod A.a_right_arm (by rfl) ?_
   k_one
   refine minus_ok (h3.same sm1) (hu'.same sm1) ar.b a2 (sr.1.mono ⋯) (sr.2.mono ⋯) (s1.mono ⋯) (s2.mono ⋯) fun w2 H2 sm2 f2=>?_
   k_one
   have sm12:=sm1.trans sm2
   refine fld_ok (sm12 _ _ hb) A.l_Rod A.a_right (by rfl) ?_
   k_one
   have q1:=low_sm (n:=3950) (Int.mul_pos al.b a2) ((Sm.add (n:=3900) ((Sm.mul sl.1 s2).mono ⋯) ((Sm.mul s1 sl.2).mono ⋯)).mono ⋯) ((Sm.mul sl.2 s2).mono ⋯)
   have q2:=low_sm (n:=3950) (Int.mul_pos ar.b a2) ((Sm.sub (n:=3900) ((Sm.mul sr.1 s2).mono ⋯) ((Sm.mul s1 sr.2).mono ⋯)).mono ⋯) ((Sm.mul sr.2 s2).mono ⋯)
   refine mkR_ok (cW:=A.c_Weight) (l:=Zd0 l a) (r:=Zc8 r a) (f1.same sm2) (h2.kp sm12.kp) f2 (h4.kp sm12.kp) (q1.1.mono ⋯) (q1.2.mono ⋯) (q2.1.mono ⋯) (q2.2.mono ⋯) (fun l0 r0 z H3 hz sm3 t3=>?_) (fun h0 H3 sm3=>?_)
   ·have sm13:=sm12.trans sm3
    k_one
    refine⟨v,q,.ref z,m,_,_,rfl,hv.kp sm13.kp,t3,e,by have:=sub_len e;omega,hq,ha,fun v3 H4 sm4 t4=>?_⟩
    k_one
    exact k1 l x r y e l0 r0 v3 H4 (sm13.trans sm4) t4
   ·k_one
    exact k2 l x r y e h0 H3 (sm12.trans sm3)
  ·k_one
   exact k3 e
inductive Deed where
 | put (q:Pl) (a:Fr)
 | shift (q:Pl) (a:Fr)
inductive Out where
 | ok (m:Mo)
 | np
 | nn
def outOf (m:Mo):Deed->Out
 | .put q a=>match m.sub q with
  | some (.wt _)=>if 0<a.1 then .ok (m.put q (.wt a)) else .nn
  | _=>.np
 | .shift q a=>match m.sub q with
  | some (.rod l x r y)=>if 0<(Zd0 l a).1/\0<(Zc8 r a).1 then .ok (m.put q (.rod (Zd0 l a) x (Zc8 r a) y)) else .nn
  | _=>.np
def DeedV (H:Hp) (w:V):Deed->Prop
 | .put q a=>∃ p u,w = .ref p/\H p=some (.tup [.str "put",.str (mkS q),u])/\FrV H u a
 | .shift q a=>∃ p u,w = .ref p/\H p=some (.tup [.str "shift",.str (mkS q),u])/\FrV H u a
def Deed.place:Deed->Pl
 | .put q _=>q
 | .shift q _=>q
def Deed.fits:Deed->Prop
 | .put _ a=>Sm 1400 a.1/\Sm 1400 a.2
 | .shift _ a=>0<a.2/\Sm 1400 a.1/\Sm 1400 a.2
theorem sq2 {H:Hp}{p:Addr}{t u v:V}{l:List V}{Q:VK}(h:SqT K H p (t::u::v::l)) (q:Q v H):rIxT K (.ref p) (.int 2) H Q:=⟨p,t::u::v::l,2,v,rfl,rfl,h,atI_nat (j:=2) rfl,q⟩
def sp_done (NN NP cW cR:Addr):Sp:=fun vs H Q E=>∃ v m dv d,vs=[v,dv]/\Th cW cR H v m/\m.depth<=64/\m.All (fun _=>True) Bg/\DeedV H dv d/\(∀ q a,d = .shift q a->∀ l x r y,m.sub q=some (.rod l x r y)->Ar l/\Ar r)/\d.fits/\d.place.length<=4096 /\
 (∀ m',outOf m d = .ok m'->∀ v' H',Same H H'->Th cW cR H' v' m'->Q v' H')/\(outOf m d = .nn->∀ H',Same H H'->E (.ref NN) none H')/\(outOf m d = .np->E (.ref NP) none H)
theorem sc_cut:Zb0 ["mobile","place","above","rod"] ["mobile","place"] (Za6 (top 24)):=nofun
theorem ok_cut {f:Addr}{fd:FuncData}(F:Fun K "cut" "cut" (top 24) f fd):FnOk P w K mg base (CX1 P w) 70 f fd ["mobile","place"] (fun _ _ _ _=>False):=F.okN sc_cut (fun vs H Q E h=>h.elim) (fun cdv A' outer s H vs Q E hr h=>h.elim)
theorem sc_done:Zb0 ["mobile","deed"] ["mobile","deed"] (Za6 (top 26)):=nofun
theorem ok_done (A:Adr K mg) {f:Addr}{fd:FuncData}(F:Fun K "done" "done" (top 26) f fd) (F_put:Fnc P w K mg base "put" 70 ["mobile","place","amount"] [] (sp_put A.c_NoNumber A.c_NoPlace A.c_Weight A.c_Rod)) (F_cut:Fnc P w K mg base "cut" 70 ["mobile","place"] [] (fun _ _ _ _=>False))
  (F_shift:Fnc P w K mg base "shift" 70 ["mobile","place","far"] [] (sp_shift A.c_NoNumber A.c_NoPlace A.c_Weight A.c_Rod)):FnOk P w K mg base (CX1 P w) 71 f fd ["mobile","deed"] (sp_done A.c_NoNumber A.c_NoPlace A.c_Weight A.c_Rod):=by
 have S:=sc_done
 w_on
 ·obtain⟨v,m,dv,d,rfl,_⟩:=h
  rfl
 ·obtain⟨v,m,dv,d,rfl,hv,hd,ha,hdv,hat,hf,hl,k1,k2,k3⟩:=h
  have hr_put:Room 70 _:=hr
  have hr_cut:Room 70 _:=hr
  have hr_shift:Room 70 _:=hr
  refine⟨_,(Za1 (ps_if (Zb7 op_eq (Zb6 (ixT (K:=K) rfl) (pv 1) Za3 (fun _ _=>rfl)) Zc7 (Zc6 _)) (Za5 (Za9 (Zc1 F_put hr_put Zb2 (Za0 (pv 0) (Za0 (Zb6 (ixT (K:=K) rfl) (pv 1) Za3 (fun _ _=>rfl)) (Za0 (Zb6 (ixT (K:=K) rfl) (pv 1) Za3 (fun _ _=>rfl)) Za2)))))) Zb9)
   (Za1 (ps_if (Zb7 op_eq (Zb6 (ixT (K:=K) rfl) (pv 1) Za3 (fun _ _=>rfl)) Zc7 (Zc6 _)) (Za5 (Za9 (Zc1 F_cut hr_cut Zb2 (Za0 (pv 0) (Za0 (Zb6 (ixT (K:=K) rfl) (pv 1) Za3 (fun _ _=>rfl)) Za2))))) Zb9)
   (Za5 (Za9 (Zc1 F_shift hr_shift Zb2 (Za0 (pv 0) (Za0 (Zb6 (ixT (K:=K) rfl) (pv 1) Za3 (fun _ _=>rfl)) (Za0 (Zb6 (ixT (K:=K) rfl) (pv 1) Za3 (fun _ _=>rfl)) Za2)))))))),?_⟩
  k_one
  cases d with
  | put q a=>
   obtain⟨p,u,rfl,hp,hua⟩:=hdv
   refine sq0 (SqT.of hp) ?_
   k_one
   refine sq1 (SqT.of hp) ?_
   k_one
   refine sq2 (SqT.of hp) ?_
   k_one
   refine⟨v,m,q,u,a,rfl,hv,hd,hl,hua,hf.1.mono ⋯,hf.2.mono ⋯,ha,fun b e a0=>k1 _ (by simp only[outOf,e];rw[if_pos a0]),fun b e a0=>k2 (by simp only[outOf,e];rw[if_neg a0]),fun e=>k3 ?_⟩
   simp only[outOf]
  | shift q a=>
   obtain⟨p,u,rfl,hp,hua⟩:=hdv
   refine sq0 (SqT.of hp) ?_
   k_one
   refine sq0 (SqT.of hp) ?_
   k_one
   refine sq1 (SqT.of hp) ?_
   k_one
   refine sq2 (SqT.of hp) ?_
   k_one
   refine⟨v,m,q,u,a,rfl,hv,hd,hl,hua,hf.1,hf.2.1,hf.2.2,ha,hat q a rfl,fun l x r y e l0 r0=>k1 _ (by simp only[outOf,e];rw[if_pos ⟨l0,r0⟩]),fun l x r y e h0=>k2 (by simp only[outOf,e];rw[if_neg h0]),fun e=>k3 ?_⟩
   simp only[outOf]
def prefs:Pl->List Pl
 | []=>[]
 | c::q=>[]::(prefs q).map (c :: ·)
theorem prefs_len:∀ q:Pl,(prefs q).length=q.length
 | []=>rfl
 | c::q=>by simp[prefs,prefs_len q]
theorem prefs_get:∀ {q:Pl}{k:Nat},k<q.length->(prefs q)[k]? = some (q.take k)
 | [],k,h=>by simp at h
 | c::q,0,h=>rfl
 | c::q,k+1,h=>by
  simp only[prefs,List.getElem?_cons_succ,List.getElem?_map,List.take_succ_cons]
  rw[prefs_get (by simpa using h)]
  rfl
theorem isWP_l (l r:Fr) (x y:Mo) (p:Pl):isWP (.rod l x r y) (108::p)=isWP x p:=by unfold isWP Mo.rowAt;simp[Mo.sub]
theorem isWP_r (l r:Fr) (x y:Mo) (p:Pl):isWP (.rod l x r y) (114::p)=isWP y p:=by unfold isWP Mo.rowAt;simp[Mo.sub]
theorem rps_wt (a:Fr):rps (.wt a)=[]:=by
 have:isWP (.wt a) []=true:=isWP_iff.mpr ⟨a,rfl⟩
 simp[rps,Mo.places,this]
theorem rps_eq (l r:Fr) (x y:Mo):rps (.rod l x r y)=[]::((rps x).map (108 :: ·)++(rps y).map (114 :: ·)):=by
 have h0:isWP (.rod l x r y) []=false:=by
  cases z:isWP (.rod l x r y) [] with
  | false=>rfl
  | true=>obtain⟨a,z⟩:=isWP_iff.mp z;cases z
 unfold rps
 simp only[Mo.places,List.filter_cons,h0,Bool.not_false,if_true,List.filter_append,List.filter_map]
 have e1:x.places.filter ((fun p=>!isWP (.rod l x r y) p)∘fun p=>108::p)=x.places.filter fun p=>!isWP x p:=List.filter_congr fun p _=>by simp only[Function.comp,isWP_l]
 have e2:y.places.filter ((fun p=>!isWP (.rod l x r y) p)∘fun p=>114::p)=y.places.filter fun p=>!isWP y p:=List.filter_congr fun p _=>by simp only[Function.comp,isWP_r]
 rw[e1,e2]
theorem rps_pre:∀ {m:Mo}{q:Pl}{a:Fr},m.sub q=some (.wt a)->(rps m).filter (fun p=>p.isPrefixOf q)=prefs q
 | .wt b,[],a,h=>by rw[rps_wt];rfl
 | .wt b,c::q,a,h=>by cases h
 | .rod l x r y,[],a,h=>by cases h
 | .rod l x r y,c::q,a,h=>by
  rw[rps_eq,List.filter_cons_of_pos (by rfl),List.filter_append,List.filter_map,List.filter_map]
  by_cases c1:c=108
  ·subst c1
   have ih:=rps_pre (m:=x) (q:=q) (a:=a) (by simpa [Mo.sub] using h)
   have e1:((fun p:Pl=>p.isPrefixOf (108::q))∘fun p=>108::p)=fun p=>p.isPrefixOf q:=by funext p;simp[Function.comp,List.isPrefixOf]
   have e2:((fun p:Pl=>p.isPrefixOf (108::q))∘fun p=>114::p)=fun _=>false:=by funext p;simp[Function.comp,List.isPrefixOf]
   rw[e1,e2,ih]
   simp[prefs]
  ·have c2:c=114:=by
    by_cases c2:c=114
    ·exact c2
    ·simp[Mo.sub,c1,c2] at h
   subst c2
   have ih:=rps_pre (m:=y) (q:=q) (a:=a) (by simpa [Mo.sub] using h)
   have e1:((fun p:Pl=>p.isPrefixOf (114::q))∘fun p=>108::p)=fun _=>false:=by funext p;simp[Function.comp,List.isPrefixOf]
   have e2:((fun p:Pl=>p.isPrefixOf (114::q))∘fun p=>114::p)=fun p=>p.isPrefixOf q:=by funext p;simp[Function.comp,List.isPrefixOf]
   rw[e1,e2,ih]
   simp[prefs]
theorem way_rod:∀ {m:Mo}{q:Pl}{a:Fr}{p:Pl},m.sub q=some (.wt a)->p∈prefs q->∃ l x r y c t,m.sub p=some (.rod l x r y)/\q=p++c::t/\(c=108/\x.sub t=some (.wt a)\/c=114/\y.sub t=some (.wt a))
 | m,[],a,p,h,hp=>by simp[prefs] at hp
 | .wt b,c::q,a,p,h,hp=>by cases h
 | .rod l x r y,c::q,a,p,h,hp=>by
  have hc:c=108/\x.sub q=some (.wt a)\/c=114/\y.sub q=some (.wt a):=by
   by_cases c1:c=108
   ·subst c1;exact .inl ⟨rfl,by simpa [Mo.sub] using h⟩
   ·by_cases c2:c=114
    ·subst c2;exact .inr ⟨rfl,by simpa [Mo.sub] using h⟩
    ·simp[Mo.sub,c1,c2] at h
  simp only[prefs,List.mem_cons,List.mem_map] at hp
  rcases hp with rfl | ⟨p',hp',rfl⟩
  ·exact⟨l,x,r,y,c,q,rfl,rfl,hc⟩
  ·rcases hc with⟨rfl,hs⟩ | ⟨rfl,hs⟩
   ·obtain⟨l',x',r',y',c',t,h1,h2,h3⟩:=way_rod hs hp'
    exact⟨l',x',r',y',c',t,by simpa [Mo.sub] using h1,by rw[h2];rfl,h3⟩
   ·obtain⟨l',x',r',y',c',t,h1,h2,h3⟩:=way_rod hs hp'
    exact⟨l',x',r',y',c',t,by simpa [Mo.sub] using h1,by rw[h2];rfl,h3⟩
def pullP (m:Mo) (p:Pl):Pull:=match m.sub p with
 | some (.rod l x r y)=>(p,Zb1 l x.heft,Zb1 r y.heft)
 | _=>(p,(0,1),(0,1))
theorem pullP_fst (m:Mo) (p:Pl):(pullP m p).1=p:=by unfold pullP;split <;> rfl
theorem pulls_rps {m:Mo}:∀ {ps:List Pl},(∀ p∈ps,∃ s,m.sub p=some s)->pullsL m ps=(ps.filter fun p=>!isWP m p).map (pullP m)
 | [],_=>rfl
 | p::ps,h=>by
  have ih:=pulls_rps fun q hq=>h q (List.mem_cons_of_mem _ hq)
  obtain⟨s,hs⟩:=h p (List.mem_cons_self ..)
  unfold pullsL at ih ⊢
  cases s with
  | wt a=>
   have e1:pullAt m p=none:=by unfold pullAt;rw[hs]
   have e2:isWP m p=true:=isWP_iff.mpr ⟨a,hs⟩
   rw[List.filterMap_cons_none e1,List.filter_cons_of_neg (by rw[e2];simp),ih]
  | rod l x r y=>
   have e1:pullAt m p=some (p,Zb1 l x.heft,Zb1 r y.heft):=by unfold pullAt;rw[hs]
   have e2:isWP m p=false:=by
    cases z:isWP m p with
    | false=>rfl
    | true=>obtain⟨a,z⟩:=isWP_iff.mp z;rw[hs] at z;cases z
   have e3:pullP m p=(p,Zb1 l x.heft,Zb1 r y.heft):=by unfold pullP;rw[hs]
   rw[List.filterMap_cons_some e1,List.filter_cons_of_pos (by rw[e2];rfl),List.map_cons,e3,ih]
theorem pullsM_rps (m:Mo):Zb5 m=(rps m).map (pullP m):=pulls_rps fun p hp=>(Mo.mem_places m p).mp hp
def signAt (q p:Pl):Nat:=(q.drop p.length).headD 0
theorem signAt_app (p:Pl) (c:Nat) (t:Pl):signAt (p++c::t) p=c:=by unfold signAt;simp
def wantP (m:Mo) (q p:Pl):Fr:=match m.sub q,m.sub p with
 | some (.wt a),some (.rod l x r y)=>want a (signAt q p) l x.heft r y.heft
 | _,_=>(0,1)
def wantsM (m:Mo) (q:Pl):List (Pl×Fr):=(prefs q).map fun p=>(p,wantP m q p)
def WV (H:Hp) (v:V) (e:Pl×Fr):Prop:=∃ a u,v = .ref a/\H a=some (.tup [.str (mkS e.1),u])/\FrV H u e.2
theorem WV.kp {H H':Hp}{v:V}{e:Pl×Fr}(h:WV H v e) (k:Kp H H'):WV H' v e:=let ⟨a,u,h1,h2,h3⟩:=h;⟨a,u,h1,k.tup _ _ h2,h3.kp k⟩
def wayF (m:Mo) (q:Pl) (e:Pull):Option (Pl×Fr):=if e.1.isPrefixOf q then some (e.1,wantP m q e.1) else none
theorem wayF_all {m:Mo}{q:Pl}{a:Fr}(h:m.sub q=some (.wt a)):(Zb5 m).filterMap (wayF m q)=wantsM m q:=by
 rw[pullsM_rps]
 unfold wantsM
 rw[←rps_pre h]
 generalize rps m=ps
 induction ps with
 | nil=>rfl
 | cons p ps ih=>
  by_cases hp:p.isPrefixOf q=true
  ·rw[List.map_cons,List.filterMap_cons_some (b:=(p,wantP m q p)) (by unfold wayF;rw[pullP_fst,if_pos hp]),List.filter_cons_of_pos (p:=fun p:Pl=>p.isPrefixOf q) hp,List.map_cons,ih]
  ·rw[List.map_cons,List.filterMap_cons_none (by unfold wayF;rw[pullP_fst,if_neg hp]),List.filter_cons_of_neg (p:=fun p:Pl=>p.isPrefixOf q) hp,ih]
theorem starts_mk {p q:Pl}{H:Hp}{Q:VK}(k:Q (.bl (p.isPrefixOf q)) H):rStarts (.str (mkS q)) [.str (mkS p)] H Q:=by
 refine⟨_,_,rfl,rfl,?_⟩
 have e:((mkS p).cps.toList).isPrefixOf ((mkS q).cps.toList)=p.isPrefixOf q:=by simp[mkS]
 rw[e]
 exact k
theorem paired_snoc {α β:Type}{F:α->β->Prop}{l:List α}{m:List β}(h:Paired F l m) {a:α}{b:β}(hab:F a b):Paired F (l++[a]) (m++[b]):=by
 induction h with
 | nil=>exact .cons hab .nil
 | cons h _ ih=>exact .cons h ih
def sp_lacking (cW cR:Addr):Sp:=fun vs H Q E=>∃ v c u1 u2 l x r y,vs=[v,.str (mkS [c]),u1,u2]/\Th cW cR H v (.rod l x r y)/\FrV H u1 (Zb1 l x.heft)/\FrV H u2 (Zb1 r y.heft)/\Good 64 (.rod l x r y)/\x.nw+y.nw<=200 /\
 ∀ v' H',Same H H'->FrV H' v' (lack c l x.heft r y.heft)->Q v' H'
theorem sc_lacking:Zb0 ["rod","end","left_pull","right_pull"] ["rod","end","left_pull","right_pull"] (Za6 (top 32)):=nofun
theorem ok_lacking (A:Adr K mg) {f:Addr}{fd:FuncData}(F:Fun K "lacking" "lacking" (top 32) f fd) (F_over:Fnc P w K mg base "over" 3 ["one","other"] [] (sp_over A.c_NoNumber)) (F_minus:Fnc P w K mg base "minus" 3 ["one","other"] [] (sp_minus A.c_NoNumber)) :
  FnOk P w K mg base (CX1 P w) 4 f fd ["rod","end","left_pull","right_pull"] (sp_lacking A.c_Weight A.c_Rod):=by
 have S:=sc_lacking
 k_head
 ·obtain⟨v,c,u1,u2,l,x,r,y,rfl,_⟩:=h
  rfl
 ·obtain⟨v,c,u1,u2,l,x,r,y,rfl,th,f1,f2,hg,hn,q⟩:=h
  obtain⟨al,ar,gx,gy⟩:=hg
  obtain⟨a,dx,w1,w2,w3,w4,rfl,ha,h1,h2,h3,h4⟩:=th
  have hr_over:Room 3 _:=hr
  have hr_minus:Room 3 _:=hr
  have isl:(mkS [c]=("l" : Str))=(c=108):=by rw[s_l,mkS_inj];simp
  have p1:=pullb gx al
  have p2:=pullb gy ar
  have s1:=big_small p1 ∅
  have s2:=big_small p2 ∅
  have d1:Qb DD ((y.nw+x.nw:Nat)*BB) (Zc8 (Zb1 r y.heft) (Zb1 l x.heft)):=by
   have:=p2.minus p1
   rwa [←Int.add_mul,←Int.natCast_add] at this
  have d2:Qb DD ((x.nw+y.nw:Nat)*BB) (Zc8 (Zb1 l x.heft) (Zb1 r y.heft)):=by
   have:=p1.minus p2
   rwa [←Int.add_mul,←Int.natCast_add] at this
  have t1:=big_small d1 ∅
  have t2:=big_small d2 ∅
  have sl:=al.small
  have sr:=ar.small
  refine⟨_,(Za1 (ps_if (Zb7 op_eq (pv 1) Zc7 (Zc6 _)) (Za5 (Za9 (Zc1 F_over hr_over Zc2 (Za0 (Zc1 F_minus hr_minus Zc2 (Za0 (pv 3) (Za0 (pv 2) Za2))) (Za0 (Zc9 (K:=K) rfl (pv 0) rfl) Za2))))) Zb9)
   (Za5 (Za9 (Zc1 F_over hr_over Zc2 (Za0 (Zc1 F_minus hr_minus Zc2 (Za0 (pv 2) (Za0 (pv 3) Za2))) (Za0 (Zc9 (K:=K) rfl (pv 0) rfl) Za2)))))),?_⟩
  k_one
  simp only[isl]
  by_cases c1:c=108
  ·simp only[c1,if_true]
   k_one
   refine minus_ok f2 f1 p2.b p1.b s2.1 s2.2 s1.1 s1.2 fun w5 H1 sm1 f5=>?_
   k_one
   refine fld_ok (sm1 _ _ ha) A.l_Rod A.a_left_arm (by rfl) ?_
   k_one
   refine over_ok f5 (h1.same sm1) d1.b al.t t1.1 t1.2 (sl.1.mono ⋯) (sl.2.mono ⋯) fun w6 H2 sm2 f6=>q _ _ (sm1.trans sm2) ?_
   unfold lack
   rw[if_pos c1]
   exact f6
  ·simp only[c1,if_false]
   k_one
   refine minus_ok f1 f2 p1.b p2.b s1.1 s1.2 s2.1 s2.2 fun w5 H1 sm1 f5=>?_
   k_one
   refine fld_ok (sm1 _ _ ha) A.l_Rod A.a_right_arm (by rfl) ?_
   k_one
   refine over_ok f5 (h3.same sm1) d2.b ar.t t2.1 t2.2 (sr.1.mono ⋯) (sr.2.mono ⋯) fun w6 H2 sm2 f6=>q _ _ (sm1.trans sm2) ?_
   unfold lack
   rw[if_neg c1]
   exact f6
def sp_wantsof (NP cW cR:Addr):Sp:=fun vs H Q E=>∃ lt ut v m q,vs=[.ref lt,v,.str (mkS q)]/\Th cW cR H v m/\H lt=some (.lst ut)/\Told H ut (Zb5 m)/\m.depth<=64/\m.nw<=100/\Good 64 m/\q.length<=4096 /\
 (∀ a,m.sub q=some (.wt a)->∀ l us H',H l=none->Same H H'->H' l=some (.lst us)->Paired (WV H') us (wantsM m q)->Q (.ref l) H')/\((∀ a,m.sub q≠some (.wt a))->E (.ref NP) none H)
theorem sc_wants_of:Zb0 ["told","mobile","place","amount","found","above","left_pull","right_pull","more"] ["told","mobile","place"] (Za6 (top 33)):=nofun
theorem ok_wantsof (A:Adr K mg) {f:Addr}{fd:FuncData}(F:Fun K "wants_of" "wants_of" (top 33) f fd) (D_at:DAt P w K mg base A) (F_weight_at:Fnc P w K mg base "weight_at" 69 ["mobile","place"] [] (sp_weight_at A.c_NoPlace A.c_Weight A.c_Rod))
  (F_lacking:Fnc P w K mg base "lacking" 4 ["rod","end","left_pull","right_pull"] [] (sp_lacking A.c_Weight A.c_Rod)) (F_plus:Fnc P w K mg base "plus" 3 ["one","other"] [] (sp_plus A.c_NoNumber)):FnOk P w K mg base (CX1 P w) 70 f fd ["told","mobile","place"] (sp_wantsof A.c_NoPlace A.c_Weight A.c_Rod):=by
 have S:=sc_wants_of
 w_on
 ·obtain⟨lt,ut,v,m,q,rfl,_⟩:=h
  rfl
 ·obtain⟨lt,ut,v,m,q,rfl,hv,hl,hT,hdp,hn,hg,hq,k1,k2⟩:=h
  have hr_at:Room 68 _:=hr.mono ⋯
  have hr_weight_at:Room 69 _:=hr
  have hr_lacking:Room 4 _:=hr.mono ⋯
  have hr_plus:Room 3 _:=hr.mono ⋯
  refine⟨_,(Za1 (Zb4 (i:=3) S.nd rfl (Or.inl rfl) (Zc9 (K:=K) rfl (Zc1 F_weight_at hr_weight_at Zb2 (Za0 (pv 1) (Za0 (pv 2) Za2))) rfl))
   (Za1 (Zb4 (i:=4) S.nd rfl (Or.inl rfl) (pe_lst Za2))
   (Za1 (ps_quiet (ps_for PassesOwn.never rfl (pi_listK (K:=K) rfl (pv 0)) (pg_tupK (K:=K) (n:=3) rfl rfl (pgs_cons (pg_name (i:=5) S.nd rfl (Or.inl rfl) (Or.inr rfl)) (pgs_cons (pg_name (i:=6) S.nd rfl (Or.inl rfl) (Or.inr rfl)) (pgs_cons (pg_name (i:=7) S.nd rfl (Or.inl rfl) (Or.inr rfl)) pgs_nil)))) (Za5 (ps_if (pt_val (pe_bm PySem.F.plainAttrs_str PySem.F.slot_str_startswith PySem.F.type_str_startswith mt_starts (pv 2) (Za0 (pv 5) Za2))) (Za1 (Zb4 (i:=8) S.nd rfl (Or.inl rfl) (Zc1 F_lacking hr_lacking Zc2 (Za0 (pe_m D_at hr_at Zc2 (pv 1) (Za0 (pv 5) Za2)) (Za0 (Zb6 ix_str (pv 2) (Zc3 call_len_str (by rfl) A.n_len bt_len (Za0 (pv 5) Za2)) (fun _ _=>rfl)) (Za0 (pv 6) (Za0 (pv 7) Za2))))))
   (Za5 (ps_expr (pe_bm PySem.F.plainAttrs_list PySem.F.slot_list_append PySem.F.type_list_append mt_append (pv 4) (Za0 (pe_tup (Za0 (pv 5) (Za0 (Zc1 F_plus hr_plus Zc2 (Za0 (pv 3) (Za0 (pv 8) Za2))) Za2))) Za2))))) Zb9))))
   (Za5 (Za9 (pv 4)))))),?_⟩
  k_one
  refine⟨v,m,q,rfl,hv,hdp,hq,fun v' a e th=>?_,fun e=>?_⟩
  ·have th':=th
   obtain⟨b,dx,u,rfl,hb,hua⟩:=th'
   have ga:Am 64 a:=Mo.All.sub hg e
   have sa:=ga.small
   k_one
   refine fld_ok hb A.l_Weight A.a_amount (by rfl) ?_
   k_one
   refine⟨by decide,fun fl hfl=>?_⟩
   k_one
   have sm0:=Za7 (o:=.lst []) hfl
   have nlf:lt≠fl:=Za8 hl hfl
   refine⟨⟨_,SqL.of (sm0 _ _ hl)⟩,?_⟩
   refine for_listN (xs:=ut) (fun i σ H'=>∃ us o4 o5 o6 o7,σ=[some (.ref lt),some v,some (.str (mkS q)),some u,some (.ref fl),o4,o5,o6,o7]/\Same H H'/\H' fl=some (.lst us)/\Paired (WV H') us (((Zb5 m).take i).filterMap (wayF m q)))
    ⟨[],none,none,none,none,rfl,sm0,Za4,.nil⟩ ?_ ?_ ?_
   ·rintro i σ H' hi ⟨us,o4,o5,o6,o7,rfl,sm,_⟩
    exact SqL.of (sm _ _ hl)
   ·rintro i x σ H' N hx ⟨us,o4,o5,o6,o7,rfl,sm,hfl',hP⟩ hN
    obtain⟨pe,he1,b1,v1,v2,rfl,hb1,hv1,hv2⟩:=hT.get hx
    have hpm:pe∈Zb5 m:=List.mem_of_getElem? he1
    have hsn:((Zb5 m).take (i+1)).filterMap (wayF m q)=((Zb5 m).take i).filterMap (wayF m q)++(wayF m q pe).toList:=by
     rw[List.take_succ,he1,List.filterMap_append]
     cases z:wayF m q pe <;> simp[z]
    rw[pullsM_rps] at hpm
    obtain⟨p,hpr,rfl⟩:=List.mem_map.mp hpm
    obtain⟨lf,x,rf,y,hs⟩:=mem_rps hpr
    have e3:pullP m p=(p,Zb1 lf x.heft,Zb1 rf y.heft):=by unfold pullP;rw[hs]
    rw[e3] at hb1 hv1 hv2 hsn
    have gt:=Mo.All.sub hg hs
    have tn:=Mo.sub_nw hs
    simp only[Mo.nw] at tn
    have hpl:=sub_len hs
    k_one
    refine⟨_,SqT.of (sm _ _ hb1),rfl,_,_,rfl,_,_,rfl,_,_,rfl,rfl,rfl,starts_mk ?_⟩
    k_one
    by_cases hpf:p.isPrefixOf q=true
    ·have hw:wayF m q (p,Zb1 lf x.heft,Zb1 rf y.heft)=some (p,wantP m q p):=by unfold wayF;rw[if_pos hpf]
     rw[hw,Option.toList_some] at hsn
     simp only[hpf,if_true]
     have hpp:p∈prefs q:=by
      rw[←rps_pre e]
      exact List.mem_filter.mpr ⟨hpr,hpf⟩
     obtain⟨_,_,_,_,c,t,hs',hqe,hct⟩:=way_rod e hpp
     rw[hs] at hs'
     cases hs'
     have hwp:wantP m q p=want a c lf x.heft rf y.heft:=by
      unfold wantP
      rw[e,hs]
      dsimp only
      rw[hqe,signAt_app]
     have gl:=gt
     obtain⟨al,ar,gx,gy⟩:=gt
     obtain⟨d,d0,d1,_,lq⟩:=lack_qb (c:=c) al ar gx gy ∅
     have ls:=wq_small (lq.mono wb_l) d0 d1
     have ha':=sm _ _ hua.choose_spec.2
     have us200:us.length<=1000:=by
      have z1:=hP.length
      have z2:(((Zb5 m).take i).filterMap (wayF m q)).length<=((Zb5 m).take i).length:=List.length_filterMap_le ..
      have z3:=pullsL_le m m.places
      have z4:=Mo.places_length m
      rw[List.length_take] at z2
      have z5:(Zb5 m).length<=m.places.length:=z3
      omega
     k_one
     refine dyn_okR (xs:=[.str (mkS p)]) (hv.kp sm.kp) (fun _=>by rfl) (fun _ _ _ _=>by rfl) .refl ?_ (fun S s=>s)
     refine⟨v,m,p,rfl,hv.kp sm.kp,hdp,by omega,(fun v' t' e' th=>?_),fun z=>by rw[hs] at z;cases z⟩
     rw[hs] at e'
     cases e'
     k_one
     refine⟨by rw[Zc4,sizeLine_eq];omega,?_⟩
     rw[Zc4,hqe]
     refine ixS_at (by rw[←hqe];omega) ?_
     rw[←hqe]
     k_one
     refine⟨v',c,v1,v2,lf,x,rf,y,rfl,th,hv1.same sm,hv2.same sm,gl,by omega,fun v3 H2 sm2 f3=>?_⟩
     k_one
     have hfl2:=sm2 _ _ hfl'
     refine⟨.inl ⟨rfl,us,SqL.of hfl2⟩,?_⟩
     refine plus_ok ((hua.same sm).same sm2) f3 ga.b lq.b (sa.1.mono ⋯) (sa.2.mono ⋯) (ls.1.mono ⋯) (ls.2.mono ⋯) fun v4 H3 sm3 f4=>⟨by decide,fun tp htp=>?_⟩
     have sP:=Za7 (o:=.tup [.str (mkS p),v4]) htp
     have eP:upd H3 tp (.tup [.str (mkS p),v4]) tp=some (.tup [.str (mkS p),v4]):=Za4
     generalize upd H3 tp (.tup [.str (mkS p),v4])=H4 at sP eP ⊢
     have hfl4:=sP _ _ (sm3 _ _ hfl2)
     refine⟨fl,us,_,rfl,rfl,hfl4,by rw[sizeLine_eq];omega,?_⟩
     have kL:Kp H4 (upd H4 fl (.lst (us++[.ref tp]))):=.lst hfl4
     have kA:Kp H' (upd H4 fl (.lst (us++[.ref tp]))):=((sm2.kp.trans sm3.kp).trans sP.kp).trans kL
     refine hN _ _ ⟨us++[.ref tp],_,_,_,_,rfl,fun b o z=>?_,Za4,?_⟩
     ·rw[Zb8 (Za8 z hfl)]
      exact sP _ _ (sm3 _ _ (sm2 _ _ (sm _ _ z)))
     ·rw[hsn,hwp]
      exact paired_snoc (Paired.mapP hP fun _ _ z=>z.kp kA) ⟨tp,v4,rfl,kL.tup _ _ eP,(f4.same sP).kp kL⟩
    ·have hw:wayF m q (p,Zb1 lf x.heft,Zb1 rf y.heft)=none:=by unfold wayF;rw[if_neg hpf]
     rw[hw,Option.toList_none,List.append_nil] at hsn
     simp only[hpf,Bool.false_eq_true,if_false]
     k_one
     exact hN _ _ ⟨us,_,_,_,_,rfl,sm,hfl',by rw[hsn];exact hP⟩
   ·rintro σ H' ⟨us,o4,o5,o6,o7,rfl,sm,hfl',hP⟩
    k_one
    rw[hT.len,List.take_length,wayF_all e] at hP
    refine k1 a e fl us H' ?_ sm hfl' hP
    exact hfl
  ·k_one
   exact k2 e
def wantFs (m:Mo) (q:Pl):List Fr:=(wantsM m q).map (·.2)
def fitM (m:Mo) (q:Pl) (a:Fr):Option Fr:=
 if tips (Zb5 m)=[] then some a
 else if tips (Zb5 m)=prefs q then (match wantFs m q with | []=>none | f::fs=>if (f::fs).countP (fun g=>decide (g=f))<(f::fs).length then none else some f)
 else none
def FitV (H:Hp) (v:V):Option Fr->Prop
 | none=>v = .non
 | some f=>FrV H v f
theorem prefs_snoc {q:Pl}{i:Nat}(h:i<q.length):(prefs q).take (i+1)=(prefs q).take i++[q.take i]:=by rw[List.take_succ,prefs_get h];rfl
theorem pulls_few {m:Mo}(h:m.nw<=100):(Zb5 m).length<=1000:=by
 have h1:(Zb5 m).length<=m.places.length:=pullsL_le m m.places
 have h2:=Mo.places_length m
 omega
theorem wantsM_len (m:Mo) (q:Pl):(wantsM m q).length=q.length:=by unfold wantsM;rw[List.length_map,prefs_len]
theorem seconds {K:PySem.W.Frag}{l D:Addr}{us:List V}{es:List (Pl×Fr)}{H:Hp}{Q:VK}(hl:H l=some (.lst us)) (hP:Paired (WV H) us es) (hn:es.length<=1000) (hD:H D=none)
  (q:∀ ys H',Same H H'->H' D=some (.lst ys)->Paired (FrV H') ys (es.map (·.2))->Q (.ref D) H') :
  CompW (Itl K l) D (gTup K 2 (gCons (gName 0) (gCons (gName 1) gNil))) (fun x H Q=>Q true H) (tVar 1) [none,none] H Q:=by
 have nDl:=Za8 hl hD
 have hln:=hP.length
 refine comp_any (xs:=us) (fun i ys σ H'=>σ.length=2/\Paired (FrV H') ys ((es.map (·.2)).take i)/\H' D=some (.lst ys)/\(∀ b o,b≠D->H b=some o->H' b=some o)/\Kp H H') (by rw[sizeLine_eq];omega)
  ⟨rfl,.nil,Za4,fun b o hb z=>by rw[Zb8 hb];exact z,(Za7 hD).kp⟩ ?_ ?_ ?_ ?_
 ·rintro i ys σ H' ⟨_,z0,z1,_⟩
  refine⟨z1,?_⟩
  rw[z0.length,List.length_take]
  omega
 ·rintro i ys σ H' hi ⟨_,_,_,z2,_⟩
  exact SqL.of (z2 _ _ nDl hl)
 ·rintro i x ys σ H' N hx ⟨z0,zP,z1,z2,kp⟩ hN
  obtain⟨e,he,b,u,rfl,hb,hu⟩:=paired_get hP hx
  obtain⟨s1,s2,rfl⟩:∃ s1 s2,σ=[s1,s2]:=by
   match σ,z0 with
   | [s1,s2],_=>exact⟨s1,s2,rfl⟩
  k_one
  refine⟨_,SqT.of (kp.tup _ _ hb),rfl,_,_,rfl,_,_,rfl,rfl,z1,hN _ _ _ ⟨rfl,?_,Za4,fun b o hb z=>by rw[Zb8 hb];exact z2 b o hb z,kp.trans (.lst z1)⟩⟩
  rw[List.take_succ,List.getElem?_map,he]
  exact paired_snoc (Paired.mapP zP fun _ _ z=>z.kp (.lst z1)) (hu.kp (kp.trans (.lst z1)))
 ·rintro ys σ H' ⟨_,zP,z1,z2,kp⟩
  refine q ys H' (fun b o z=>z2 b o (Za8 z hD) z) z1 ?_
  have e:(es.map (·.2)).take us.length=es.map (·.2):=by rw[hln,←List.length_map (f:=(·.2)),List.take_length]
  rwa [e] at zP
def sp_way:Sp:=fun vs H Q E=>∃ q,vs=[.str (mkS q)]/\q.length<=1000/\∀ l H',H l=none->Same H H'->H' l=some (.lst (((prefs q).map mkS).map .str))->Q (.ref l) H'
theorem sc_way_to:Zb0 ["place"] ["place"] (Za6 (top 34)):=nofun
theorem ok_way (A:Adr K mg) {f:Addr}{fd:FuncData}(F:Fun K "way_to" "way_to" (top 34) f fd):FnOk P w K mg base (CX1 P w) 1 f fd ["place"] sp_way:=by
 have S:=sc_way_to
 k_head
 ·obtain⟨q,rfl,_⟩:=h
  rfl
 ·obtain⟨q,rfl,hq,k⟩:=h
  refine⟨_,(Za5 (Za9 (pe_comp (tv:=["length"]) (cap:=[0]) (compOk_of (Za6 (top 34)) ["place"] rfl rfl (by ac_nf) (by rfl)) rfl (pi_range1 rfl A.n_range (Za0 (Zc3 call_len_str (by rfl) A.n_len bt_len (Za0 (pv 0) Za2)) Za2)) (fun _ _ _=>(pg_name (i:=0) (show (["length","place"]:List Str).Nodup by ac_nf) rfl (Or.inl rfl) (Or.inr rfl))) (fun _ _ _=>pts_nil) (fun _ _ _=>(pe_slice sl_str (pv 1) po_none (po_some (pv 0))))))),?_⟩
  k_one
  simp only[L2.iRng1]
  k_one
  refine⟨by rw[Zc4,sizeLine_eq];omega,?_⟩
  rw[Zc4]
  refine⟨by omega,by omega,fun D hD=>?_⟩
  rw[Int.toNat_natCast]
  refine comp_range (fun i ys H'=>ys=(((prefs q).take i).map mkS).map .str/\H' D=some (.lst ys)/\Same H H') (by rw[sizeLine_eq];omega) ⟨rfl,Za4,Za7 hD⟩ ?_ ?_ ?_
  ·rintro i ys H' ⟨rfl,hD',_⟩
   exact⟨hD',by rw[List.length_map,List.length_map,List.length_take];omega⟩
  ·rintro i ys H' N hi ⟨rfl,hD',sm⟩ hN
   k_one
   refine⟨_,rfl,by rw[Zc4,sizeLine_eq];omega,?_⟩
   rw[slice_toN q i ∅]
   refine⟨hD',hN _ _ ⟨?_,Za4,fun b o z=>by rw[Zb8 (Za8 z hD)];exact sm b o z⟩⟩
   rw[prefs_snoc hi]
   simp
  ·rintro ys H' ⟨rfl,hD',sm⟩
   k_one
   have e:(prefs q).take q.length=prefs q:=by rw[←prefs_len q,List.take_length]
   rw[e] at hD'
   exact k D H' hD sm hD'
def sp_fitof (NP cW cR:Addr):Sp:=fun vs H Q E=>∃ lt ut v m q,vs=[.ref lt,v,.str (mkS q)]/\Th cW cR H v m/\H lt=some (.lst ut)/\Told H ut (Zb5 m)/\m.depth<=64/\m.nw<=100/\Good 64 m/\q.length<=4096 /\
 (∀ a,m.sub q=some (.wt a)->∀ v' H',Same H H'->FitV H' v' (fitM m q a)->Q v' H')/\((∀ a,m.sub q≠some (.wt a))->E (.ref NP) none H)
theorem sc_fitting_of:Zb0 ["told","mobile","place","amount","tipping_rods","amounts"] ["told","mobile","place"] (Za6 (top 35)):=nofun
theorem ok_fitof (A:Adr K mg) {f:Addr}{fd:FuncData}(F:Fun K "fitting_of" "fitting_of" (top 35) f fd) (F_weight_at:Fnc P w K mg base "weight_at" 69 ["mobile","place"] [] (sp_weight_at A.c_NoPlace A.c_Weight A.c_Rod))
  (F_tipping:Fnc P w K mg base "tipping" 1 ["told"] [] sp_tipping) (F_way_to:Fnc P w K mg base "way_to" 1 ["place"] [] sp_way) (F_wants_of:Fnc P w K mg base "wants_of" 70 ["told","mobile","place"] [] (sp_wantsof A.c_NoPlace A.c_Weight A.c_Rod)) :
  FnOk P w K mg base (CX1 P w) 71 f fd ["told","mobile","place"] (sp_fitof A.c_NoPlace A.c_Weight A.c_Rod):=by
 have S:=sc_fitting_of
 w_on
 ·obtain⟨lt,ut,v,m,q,rfl,_⟩:=h
  rfl
 ·obtain⟨lt,ut,v,m,q,rfl,hv,hl,hT,hdp,hn,hg,hq,k1,k2⟩:=h
  have hr_weight_at:Room 69 _:=hr.mono ⋯
  have hr_tipping:Room 1 _:=hr.mono ⋯
  have hr_way_to:Room 1 _:=hr.mono ⋯
  have hr_wants_of:Room 70 _:=hr
  have hu:=hu_of hr
  refine⟨_,(Za1 (Zb4 (i:=3) S.nd rfl (Or.inl rfl) (Zc9 (K:=K) rfl (Zc1 F_weight_at hr_weight_at Zb2 (Za0 (pv 1) (Za0 (pv 2) Za2))) rfl))
   (Za1 (Zb4 (i:=4) S.nd rfl (Or.inl rfl) (Zc1 F_tipping hr_tipping Zb2 (Za0 (pv 0) Za2)))
   (Za1 (ps_if (Zb7 (op_eqSLK (K:=K) rfl hu) (pv 4) (pe_lst Za2) (Zc6 _)) (Za5 (Za9 (pv 3))) Zb9)
   (Za1 (ps_if (Zb7 (op_neSLK (K:=K) rfl hu) (pv 4) (Zc1 F_way_to hr_way_to Zb2 (Za0 (pv 2) Za2)) (Zc6 _)) (Za5 (Za9 pe_non)) Zb9)
   (Za1 (ps_quiet (ps_setC (i:=5) S.nd rfl rfl (tv:=["above","wanted"]) (cap:=[]) (compOk_of (Za6 (top 35)) ["told","mobile","place","amount","tipping_rods","amounts"] rfl rfl (by ac_nf) (by rfl)) rfl (pi_listK (K:=K) rfl (Zc1 F_wants_of hr_wants_of Zc2 (Za0 (pv 0) (Za0 (pv 1) (Za0 (pv 2) Za2))))) (fun _ _ _=>(pg_tupK (K:=K) (n:=2) rfl rfl (pgs_cons (pg_name (i:=0) (show (["above","wanted"]:List Str).Nodup by ac_nf) rfl (Or.inl rfl) (Or.inr rfl)) (pgs_cons (pg_name (i:=1) (show (["above","wanted"]:List Str).Nodup by ac_nf) rfl (Or.inl rfl) (Or.inr rfl)) pgs_nil)))) (fun _ _ _=>pts_nil) (fun _ _ _=>(pv 1)) (by rfl)))
   (Za1 (ps_if (Zb7 op_lt (pe_bm PySem.F.plainAttrs_list PySem.F.slot_list_count PySem.F.type_list_count (mt_count hr.units) (pv 5) (Za0 (Zb6 (ixL (K:=K) rfl) (pv 5) Za3 (fun _ _=>rfl)) Za2)) (Zc3 (lenK (K:=K) rfl) (by rfl) A.n_len bt_len (Za0 (pv 5) Za2)) (Zc6 _)) (Za5 (Za9 pe_non)) Zb9)
   (Za5 (Za9 (Zb6 (ixL (K:=K) rfl) (pv 5) Za3 (fun _ _=>rfl)))))))))),?_⟩
  k_one
  refine⟨v,m,q,rfl,hv,hdp,hq,fun v' a e th=>?_,fun e=>?_⟩
  ·have th':=th
   obtain⟨b,dx,u,rfl,hb,hua⟩:=th'
   have ga:Am 64 a:=Mo.All.sub hg e
   have k1':=k1 a e
   have hql:=sub_len e
   k_one
   refine fld_ok hb A.l_Weight A.a_amount (by rfl) ?_
   k_one
   refine⟨lt,ut,_,rfl,hl,hT,pulls_few hn,fun t H1 ht sm1 et=>?_⟩
   k_one
   refine⟨by decide,fun z hz=>?_⟩
   k_one
   have sm2:=Za7 (o:=.lst []) hz
   have et2:=sm2 _ _ et
   refine⟨t,z,(tips (Zb5 m)).map mkS,[],rfl,rfl,SqL.of et2,SqL.of Za4,?_⟩
   generalize upd H1 z (.lst [])=H2 at sm2 et2 ⊢
   have s02:=sm1.trans sm2
   k_one
   by_cases c0:tips (Zb5 m)=[]
   ·simp only[c0,List.map_nil,decide_true,if_true]
    k_one
    refine k1' u H2 s02 ?_
    unfold fitM
    rw[if_pos c0]
    exact hua.same s02
   ·have c0':¬((tips (Zb5 m)).map mkS=[]):=by simpa using c0
    simp only[c0',decide_false,Bool.false_eq_true,if_false]
    k_one
    refine⟨q,rfl,by omega,fun wl H3 hwl sm3 ewl=>?_⟩
    k_one
    have s03:=s02.trans sm3
    refine⟨t,wl,(tips (Zb5 m)).map mkS,(prefs q).map mkS,rfl,rfl,SqL.of (sm3 _ _ et2),SqL.of ewl,?_⟩
    k_one
    by_cases c1:tips (Zb5 m)=prefs q
    ·have c1':(tips (Zb5 m)).map mkS=(prefs q).map mkS:=by rw[c1]
     simp only[c1',decide_true,Bool.not_true,Bool.false_eq_true,if_false]
     k_one
     refine⟨lt,ut,v,m,q,rfl,hv.kp s03.kp,s03 _ _ hl,hT.kp s03.kp,hdp,hn,hg,hq,fun a' e' l us H4 hl4 sm4 el hP=>?_,fun z=>absurd e (z a)⟩
     k_one
     refine⟨⟨_,SqL.of el⟩,fun D hD=>seconds el hP (by rw[wantsM_len];omega) hD fun ys H5 sm5 eD hF=>?_⟩
     have s05:=(s03.trans sm4).trans sm5
     change Paired (FrV H5) ys (wantFs m q) at hF
     have hne:wantFs m q≠[]:=by
      intro z
      have:=congrArg List.length z
      unfold wantFs at this
      rw[List.length_map,wantsM_len,List.length_nil] at this
      have:q=[]:=List.length_eq_zero_iff.mp this
      rw[this] at c1
      exact c0 c1
     have hfl:(wantFs m q).length<=64:=by unfold wantFs;rw[List.length_map,wantsM_len];omega
     have hyl:=hF.length
     obtain⟨f0,fs,hfs⟩:=List.exists_cons_of_ne_nil hne
     rw[hfs] at hF
     obtain⟨y0,ys',rfl⟩:∃ y ys',ys=y::ys':=by
      cases hF with
      | cons=>exact⟨_,_,rfl⟩
     have hy0:FrV H5 y0 f0:=by cases hF;assumption
     k_one
     refine⟨.inl ⟨rfl,_,SqL.of eD⟩,?_⟩
     refine⟨D,_,0,y0,rfl,rfl,SqL.of eD,atI_nat (j:=0) rfl,?_⟩
     refine⟨D,_,f0::fs,y0,f0,rfl,rfl,eD,hF,hy0,?_⟩
     k_one
     refine len_ok (.inl ⟨_,SqL.of eD,rfl⟩) ?_
     k_one
     have hyl2:ys'.length+1=(f0::fs).length:=by rw[←hfs,←hyl];rfl
     have hfit:fitM m q a=if (f0::fs).countP (fun g=>decide (g=f0))<(f0::fs).length then none else some f0:=by
      unfold fitM
      rw[if_neg c0,if_pos c1,hfs]
     by_cases cc:(f0::fs).countP (fun g=>decide (g=f0))<(f0::fs).length
     ·rw[if_pos cc] at hfit
      have cc':(((f0::fs).countP (fun g=>decide (g=f0)):Nat):Int)<((ys'.length+1:Nat):Int):=by omega
      rw[if_pos cc']
      exact k1' .non H5 s05 (by rw[hfit];rfl)
     ·rw[if_neg cc] at hfit
      have cc':¬(((f0::fs).countP (fun g=>decide (g=f0)):Nat):Int)<((ys'.length+1:Nat):Int):=by omega
      rw[if_neg cc']
      k_one
      refine⟨D,_,0,y0,rfl,rfl,SqL.of eD,atI_nat (j:=0) rfl,?_⟩
      exact k1' y0 H5 s05 (by rw[hfit];exact hy0)
    ·have c1':¬((tips (Zb5 m)).map mkS=(prefs q).map mkS):=fun z=>c1 ((List.map_inj_right (fun x y h=>mkS_inj.mp h)).mp z)
     simp only[c1',decide_false,Bool.not_false,if_true]
     k_one
     refine k1' .non H3 s03 ?_
     unfold fitM
     rw[if_neg c0,if_neg c1]
     rfl
  ·k_one
   exact k2 e
def sp_lvl:Sp:=fun vs H Q E=>∃ u1 u2 u3 l x r y,vs=[u1,u2,u3]/\FrV H u1 (Zb1 l x.heft)/\FrV H u2 (Zb1 r y.heft)/\FrV H u3 (Zd0 x.heft y.heft)/\Good 64 (.rod l x r y)/\x.nw+y.nw<=200 /\
 ∀ v' H',Same H H'->FrV H' v' (lvl l x.heft r y.heft)->Q v' H'
theorem sc_levelling:Zb0 ["left_pull","right_pull","heft"] ["left_pull","right_pull","heft"] (Za6 (top 36)):=nofun
theorem ok_lvl (A:Adr K mg) {f:Addr}{fd:FuncData}(F:Fun K "levelling" "levelling" (top 36) f fd) (F_over:Fnc P w K mg base "over" 3 ["one","other"] [] (sp_over A.c_NoNumber)) (F_minus:Fnc P w K mg base "minus" 3 ["one","other"] [] (sp_minus A.c_NoNumber)) :
  FnOk P w K mg base (CX1 P w) 4 f fd ["left_pull","right_pull","heft"] sp_lvl:=by
 have S:=sc_levelling
 k_head
 ·obtain⟨u1,u2,u3,l,x,r,y,rfl,_⟩:=h
  rfl
 ·obtain⟨u1,u2,u3,l,x,r,y,rfl,f1,f2,f3,hg,hn,q⟩:=h
  have hgr:=Good.small hg (show (Mo.rod l x r y).nw<=200 from hn)
  obtain⟨al,ar,gx,gy⟩:=hg
  have hr_over:Room 3 _:=hr
  have hr_minus:Room 3 _:=hr
  have p1:=pullb gx al
  have p2:=pullb gy ar
  have s1:=big_small p1 ∅
  have s2:=big_small p2 ∅
  have d1:Qb DD ((y.nw+x.nw:Nat)*BB) (Zc8 (Zb1 r y.heft) (Zb1 l x.heft)):=by
   have:=p2.minus p1
   rwa [←Int.add_mul,←Int.natCast_add] at this
  have t1:=big_small d1 ∅
  refine⟨_,(Za5 (Za9 (Zc1 F_over hr_over Zc2 (Za0 (Zc1 F_minus hr_minus Zc2 (Za0 (pv 1) (Za0 (pv 0) Za2))) (Za0 (pv 2) Za2))))),?_⟩
  k_one
  refine minus_ok f2 f1 p2.b p1.b s2.1 s2.2 s1.1 s1.2 fun w5 H1 sm1 f5=>?_
  k_one
  exact over_ok f5 (f3.same sm1) d1.b hgr.1 t1.1 t1.2 (hgr.2.2.1.mono ⋯) (hgr.2.2.2.mono ⋯) fun w6 H2 sm2 f6=>q _ _ (sm1.trans sm2) f6
def sp_isfr:Sp:=fun vs H Q E=>∃ v f,vs=[v]/\FrV H v f/\Lw f/\Sm 4000 f.2/\∀ H',Same H H'->Q (.bl true) H'
theorem sc__law_is_fraction:Zb0 ["_law_found"] ["_law_found"] (Za6 (top 50)):=nofun
theorem ok_isfr (A:Adr K mg) {f:Addr}{fd:FuncData}(F:Fun K "_law_is_fraction" "_law_is_fraction" (top 50) f fd) (F__law_whole:Fnc P w K mg base "_law_whole" 1 ["_law_found"] [] sp_whole) (F__law_lowest:Fnc P w K mg base "_law_lowest" 1 ["_law_top","_law_bottom"] [] sp_lowest) :
  FnOk P w K mg base (CX1 P w) 2 f fd ["_law_found"] sp_isfr:=by
 have S:=sc__law_is_fraction
 k_head
 ·obtain⟨v,g,rfl,_⟩:=h
  rfl
 ·obtain⟨v,g,rfl,hv,lg,sg,q⟩:=h
  have hr__law_whole:Room 1 _:=hr.mono ⋯
  have hr__law_lowest:Room 1 _:=hr.mono ⋯
  have hu:=hu_of hr
  have gp:=lg.b
  refine⟨_,(Za1 (ps_if (PW.pt (pw_or (pt_not (pt_val (Zc3 (isiK (K:=K) rfl) (by rfl) A.n_isinstance Zd1 (Za0 (pv 0) (Za0 (pe_bltn (v:=.ty "tuple") rfl A.n_tuple bt_tuple rfl) Za2))))) (pw_or (Zb7 op_ne (Zc3 (lenK (K:=K) rfl) (by rfl) A.n_len bt_len (Za0 (pv 0) Za2)) Za3 (Zc6 _)) (pw_or1 (pt_not (pt_val (Zc1 F__law_whole hr__law_whole Zc2 (Za0 (Zb6 (ixT (K:=K) rfl) (pv 0) Za3 (fun _ _=>rfl)) Za2)))))))) (Za5 (Za9 pe_bl)) Zb9)
   (Za5 (Za9 (pe_and (Zc1 F__law_whole hr__law_whole Zc2 (Za0 (Zb6 (ixT (K:=K) rfl) (pv 0) Za3 (fun _ _=>rfl)) Za2)) (pe_and (pe_cmpR op_gt (Zb6 (ixT (K:=K) rfl) (pv 0) Za3 (fun _ _=>rfl)) Za3 (Zc6 _)) (pe_one (pe_cmpR (op_eqF hu) (Zc1 F__law_lowest hr__law_lowest Zc2 (Za0 (Zb6 (ixT (K:=K) rfl) (pv 0) Za3 (fun _ _=>rfl)) (Za0 (Zb6 (ixT (K:=K) rfl) (pv 0) Za3 (fun _ _=>rfl)) Za2))) (pv 0) (Zc6 _)))))))),?_⟩
  walk_at "gm"
  refine isi_ok (TyX.fr hv) rfl A.t_tt ?_
  walk_at "gm"
  refine len_ok (LenV.fr hv) ?_
  walk_at "gm"
  refine⟨_,rfl,?_⟩
  walk_at "gm"
  refine⟨_,rfl,?_⟩
  walk_at "gm"
  simp only[gp,decide_true]
  walk_at "gm"
  refine low_ok gp (sg.mono ⋯) fun v' H2 sm2 f2=>?_
  rw[low_self lg] at f2
  walk_at "gm"
  refine⟨_,_,_,_,f2,hv.same sm2,?_⟩
  k_one
  try simp only[and_self,decide_true]
  exact q _ sm2
theorem tips_rps (m:Mo):tips (Zb5 m)=(rps m).filter fun p=>tipE (pullP m p):=by
 unfold tips
 rw[pullsM_rps,List.filter_map,List.map_map]
 have e:((fun x:Pull=>x.1)∘pullP m)=id:=by funext p;simp[pullP_fst]
 rw[e,List.map_id]
 rfl
def offT (m:Mo) (q:Pl):List Pl:=((Zb5 m).filter fun e=>tipE e && !e.1.isPrefixOf q).map (·.1)
theorem offT_rps (m:Mo) (q:Pl):offT m q=(rps m).filter fun p=>tipE (pullP m p) && !p.isPrefixOf q:=by
 unfold offT
 rw[pullsM_rps,List.filter_map,List.map_map]
 have e:((fun x:Pull=>x.1)∘pullP m)=id:=by funext p;simp[pullP_fst]
 rw[e,List.map_id]
 apply List.filter_congr
 intro p _
 simp[Function.comp,pullP_fst]
def dueOf (m:Mo) (q:Pl) (a:Fr):Fr:=match wantFs m q with | []=>a | f::_=>f
theorem want_tip {m:Mo}{q p:Pl}{a:Fr}(hg:Good 64 m) (hs:m.sub q=some (.wt a)) (hp:p∈prefs q):wantP m q p=a↔tipE (pullP m p)=false:=by
 obtain⟨l,x,r,y,c,t,h1,h2,h3⟩:=way_rod hs hp
 have gr:=Mo.All.sub hg h1
 obtain⟨al,ar,gx,gy⟩:=gr
 have ga:Am 64 a:=Mo.All.sub hg hs
 have e1:wantP m q p=want a c l x.heft r y.heft:=by
  unfold wantP
  rw[hs,h1]
  dsimp only
  rw[h2,signAt_app]
 have e2:pullP m p=(p,Zb1 l x.heft,Zb1 r y.heft):=by unfold pullP;rw[h1]
 rw[e1,want_eq (h3.imp (·.1) (·.1)) (Qb.of_bd ga.bd (gD_pos _) ga.g).lw (ar_lp al) (ar_lp ar) (heft_lp gx).lw (heft_lp gy).lw,e2]
 unfold tipE
 simp[Prod.ext_iff]
theorem fit_eq {m:Mo}{q:Pl}{a:Fr}(hg:Good 64 m) (hs:m.sub q=some (.wt a)) :
  fitM m q a=if offT m q=[]/\wantFs m q=List.replicate (wantFs m q).length (dueOf m q a) then some (dueOf m q a) else none:=by
 have hW:wantFs m q=(prefs q).map (wantP m q):=by unfold wantFs wantsM;rw[List.map_map];rfl
 have hpre:=rps_pre hs
 have htip:=tips_rps m
 have hoff:=offT_rps m q
 have rep:∀ f,wantFs m q=List.replicate (wantFs m q).length f↔∀ p∈prefs q,wantP m q p=f:=by
  intro f
  rw[List.eq_replicate_iff,hW]
  simp
 by_cases c0:tips (Zb5 m)=[]
 ·have nt:∀ p∈rps m,tipE (pullP m p)=false:=by
   intro p hp
   rw[htip,List.filter_eq_nil_iff] at c0
   simpa using c0 p hp
  have all:∀ p∈prefs q,wantP m q p=a:=fun p hp=>(want_tip hg hs hp).mpr (nt p (by rw[←hpre] at hp;exact (List.mem_filter.mp hp).1))
  have hd:dueOf m q a=a:=by
   unfold dueOf
   cases hq:wantFs m q with
   | nil=>rfl
   | cons f fs=>
    have:f∈wantFs m q:=by rw[hq];exact List.mem_cons_self ..
    rw[hW] at this
    obtain⟨p,hp,rfl⟩:=List.mem_map.mp this
    exact all p hp
  have ho:offT m q=[]:=by
   rw[hoff,List.filter_eq_nil_iff]
   intro p hp
   rw[nt p hp]
   simp
  unfold fitM
  rw[if_pos c0,if_pos ⟨ho,by rw[hd];exact (rep a).mpr all⟩,hd]
 ·by_cases c1:tips (Zb5 m)=prefs q
  ·have ho:offT m q=[]:=by
    rw[hoff,List.filter_eq_nil_iff]
    intro p hp
    by_cases ht:tipE (pullP m p)=true
    ·have:p∈tips (Zb5 m):=by rw[htip];exact List.mem_filter.mpr ⟨hp,ht⟩
     rw[c1,←hpre] at this
     have:=(List.mem_filter.mp this).2
     simp[this]
    ·simp[ht]
   unfold fitM
   rw[if_neg c0,if_pos c1]
   cases hq:wantFs m q with
   | nil=>
    exfalso
    rw[hW] at hq
    have:prefs q=[]:=List.map_eq_nil_iff.mp hq
    rw[this] at c1
    exact c0 c1
   | cons f fs=>
    have hd:dueOf m q a=f:=by unfold dueOf;rw[hq]
    rw[hd]
    dsimp only
    by_cases cc:(f::fs).countP (fun g=>decide (g=f))<(f::fs).length
    ·rw[if_pos cc,if_neg]
     rintro⟨_,z⟩
     have:(f::fs).countP (fun g=>decide (g=f))=(f::fs).length:=by
      rw[List.countP_eq_length]
      intro g hgm
      rw[z] at hgm
      exact decide_eq_true (List.eq_of_mem_replicate hgm)
     omega
    ·rw[if_neg cc,if_pos]
     refine⟨ho,List.eq_replicate_iff.mpr ⟨rfl,fun g hgm=>?_⟩⟩
     have:=List.countP_le_length (p:=fun g=>decide (g=f)) (l:=f::fs)
     have h2:(f::fs).countP (fun g=>decide (g=f))=(f::fs).length:=by omega
     exact of_decide_eq_true (List.countP_eq_length.mp h2 g hgm)
  ·unfold fitM
   rw[if_neg c0,if_neg c1,if_neg]
   rintro⟨ho,z⟩
   have hall:=(rep _).mp z
   have sub:∀ p∈rps m,tipE (pullP m p)=true->p.isPrefixOf q=true:=by
    intro p hp ht
    rw[hoff,List.filter_eq_nil_iff] at ho
    have:=ho p hp
    simpa [ht] using this
   obtain⟨p0,hp0⟩:=List.exists_mem_of_ne_nil _ c0
   rw[htip] at hp0
   obtain⟨h1,h2⟩:=List.mem_filter.mp hp0
   have hp0':p0∈prefs q:=by rw[←hpre];exact List.mem_filter.mpr ⟨h1,sub p0 h1 h2⟩
   have hne:dueOf m q a≠a:=by
    intro e
    have:=(want_tip hg hs hp0').mp ((hall p0 hp0').trans e)
    rw[this] at h2
    cases h2
   apply c1
   rw[htip,←hpre]
   apply List.filter_congr
   intro p hp
   rw[Bool.eq_iff_iff]
   constructor
   ·exact sub p hp
   ·intro hpf
    have hpp:p∈prefs q:=by rw[←hpre];exact List.mem_filter.mpr ⟨hp,hpf⟩
    cases ht:tipE (pullP m p) with
    | true=>rfl
    | false=>exact absurd ((hall p hpp).symm.trans ((want_tip hg hs hpp).mpr ht)) hne
theorem put_way:∀ {m:Mo}{q:Pl}{s t:Mo}(F:Mo->Nat),m.sub q=some t->F s=F t->(∀ l r x x' y,F x=F x'->F (.rod l x r y)=F (.rod l x' r y))->(∀ l r x y y',F y=F y'->F (.rod l x r y)=F (.rod l x r y'))->F (m.put q s)=F m
 | m,[],s,t,F,h,e,_,_=>by rw[Mo.sub_nil] at h;cases h;simpa [Mo.put] using e
 | .wt a,c::q,s,t,F,h,e,_,_=>rfl
 | .rod l x r y,c::q,s,t,F,h,e,k1,k2=>by
  simp only[Mo.sub] at h
  simp only[Mo.put]
  split at h
  ·rename_i h1;rw[if_pos h1];exact k1 _ _ _ _ _ (put_way F h e k1 k2)
  ·rename_i h1
   split at h
   ·rename_i h2;rw[if_neg h1,if_pos h2];exact k2 _ _ _ _ _ (put_way F h e k1 k2)
   ·cases h
theorem depth_put {m:Mo}{q:Pl}{s t:Mo}(h:m.sub q=some t) (e:s.depth=t.depth):(m.put q s).depth=m.depth:=
 put_way Mo.depth h e (fun _ _ _ _ _ z=>by simp only[Mo.depth,z]) (fun _ _ _ _ _ z=>by simp only[Mo.depth,z])
theorem rps_put:∀ {m:Mo}{q:Pl}{s t:Mo},m.sub q=some t->rps s=rps t->rps (m.put q s)=rps m
 | m,[],s,t,h,e=>by rw[Mo.sub_nil] at h;cases h;simpa [Mo.put] using e
 | .wt a,c::q,s,t,h,e=>rfl
 | .rod l x r y,c::q,s,t,h,e=>by
  simp only[Mo.sub] at h
  simp only[Mo.put]
  split at h
  ·rename_i h1;rw[if_pos h1,rps_eq,rps_eq,rps_put h e]
  ·rename_i h1
   split at h
   ·rename_i h2;rw[if_neg h1,if_pos h2,rps_eq,rps_eq,rps_put h e]
   ·cases h
theorem sub_put_on:∀ {m:Mo}{p t:Pl}{s u:Mo},m.sub p=some u->(m.put (p++t) s).sub p=some (u.put t s)
 | m,[],t,s,u,h=>by rw[Mo.sub_nil] at h;cases h;exact Mo.sub_nil _
 | .wt a,c::p,t,s,u,h=>by cases h
 | .rod l x r y,c::p,t,s,u,h=>by
  simp only[Mo.sub] at h
  simp only[List.cons_append,Mo.put]
  split at h
  ·rename_i h1;rw[if_pos h1];simp only[Mo.sub];rw[if_pos h1];exact sub_put_on h
  ·rename_i h1
   split at h
   ·rename_i h2;rw[if_neg h1,if_pos h2];simp only[Mo.sub];rw[if_neg h1,if_pos h2];exact sub_put_on h
   ·cases h
theorem sub_put_off:∀ {m:Mo}{q p:Pl}{s:Mo},¬p <+: q->¬q <+: p->(m.put q s).sub p=m.sub p
 | m,[],p,s,_,h=>absurd List.nil_prefix h
 | m,c::q,[],s,h,_=>absurd List.nil_prefix h
 | .wt a,c::q,d::p,s,_,_=>rfl
 | .rod l x r y,c::q,d::p,s,h1,h2=>by
  have k1:d=c->¬p <+: q:=fun e z=>h1 (by subst e;exact List.cons_prefix_cons.mpr ⟨rfl,z⟩)
  have k2:d=c->¬q <+: p:=fun e z=>h2 (by subst e;exact List.cons_prefix_cons.mpr ⟨rfl,z⟩)
  simp only[Mo.put]
  split
  ·rename_i e1
   simp only[Mo.sub]
   split
   ·rename_i e2;exact sub_put_off (k1 (e2.trans e1.symm)) (k2 (e2.trans e1.symm))
   ·rfl
  ·split
   ·rename_i e0 e1
    simp only[Mo.sub]
    split
    ·rfl
    ·split
     ·rename_i e2;exact sub_put_off (k1 (e2.trans e1.symm)) (k2 (e2.trans e1.symm))
     ·rfl
   ·rfl
theorem rps_rod {m:Mo}{p:Pl}(h:p∈rps m):∃ l x r y,m.sub p=some (.rod l x r y):=by
 unfold rps at h
 obtain⟨h1,h2⟩:=List.mem_filter.mp h
 obtain⟨s,hs⟩:=(Mo.mem_places m p).mp h1
 cases s with
 | rod l x r y=>exact⟨l,x,r,y,hs⟩
 | wt a=>rw[isWP_iff.mpr ⟨a,hs⟩] at h2;cases h2
theorem put_off {m:Mo}{q p:Pl}{a b:Fr}(hs:m.sub q=some (.wt a)) (hp:p∈rps m) (hn:p.isPrefixOf q=false):pullP (m.put q (.wt b)) p=pullP m p:=by
 obtain⟨l,x,r,y,h⟩:=rps_rod hp
 have h1:¬p <+: q:=fun z=>by rw[List.isPrefixOf_iff_prefix.mpr z] at hn;cases hn
 have h2:¬q <+: p:=by
  rintro⟨t,rfl⟩
  by_cases ht:t=[]
  ·subst ht;rw[List.append_nil,hs] at h;cases h
  ·rw[Mo.sub_wt_app hs ht] at h;cases h
 unfold pullP
 rw[sub_put_off h1 h2]
theorem put_on {m:Mo}{q p:Pl}{a b:Fr}(hg:Good 64 m) (hs:m.sub q=some (.wt a)) (hp:p∈prefs q) (hb:Lw b) :
  (pullP (m.put q (.wt b)) p).2.1=(pullP (m.put q (.wt b)) p).2.2↔wantP m q p=b:=by
 obtain⟨l,x,r,y,c,t,h1,h2,h3⟩:=way_rod hs hp
 have gr:=Mo.All.sub hg h1
 obtain⟨al,ar,gx,gy⟩:=gr
 have ga:Am 64 a:=Mo.All.sub hg hs
 have la:=(Qb.of_bd ga.bd (gD_pos _) ga.g).lw
 have e1:wantP m q p=want a c l x.heft r y.heft:=by
  unfold wantP
  rw[hs,h1]
  dsimp only
  rw[h2,signAt_app]
 have hx:=(heft_lp gx).lw
 have hy:=(heft_lp gy).lw
 have e0:(m.put q (.wt b)).sub p=some ((Mo.rod l x r y).put (c::t) (.wt b)):=by rw[h2];exact sub_put_on h1
 rcases h3 with⟨rfl,h4⟩ | ⟨rfl,h4⟩
 ·have e2:(Mo.rod l x r y).put (108::t) (.wt b) = .rod l (x.put t (.wt b)) r y:=by simp[Mo.put]
  have hx':Lw (x.put t (.wt b)).heft:=heft_lw (all_put (good_lw gx) hb)
  have e3:pullP (m.put q (.wt b)) p=(p,Zb1 l (x.put t (.wt b)).heft,Zb1 r y.heft):=by unfold pullP;rw[e0,e2]
  rw[e3,e1]
  exact (put_level la hb (ar_lp al) (ar_lp ar) hx hy hx').1 (rq_heft_put (good_lw gx) h4 hb)
 ·have e2:(Mo.rod l x r y).put (114::t) (.wt b) = .rod l x r (y.put t (.wt b)):=by simp[Mo.put]
  have hy':Lw (y.put t (.wt b)).heft:=heft_lw (all_put (good_lw gy) hb)
  have e3:pullP (m.put q (.wt b)) p=(p,Zb1 l x.heft,Zb1 r (y.put t (.wt b)).heft):=by unfold pullP;rw[e0,e2]
  rw[e3,e1]
  exact (put_level la hb (ar_lp al) (ar_lp ar) hx hy hy').2 (rq_heft_put (good_lw gy) h4 hb)
def Rd (cD:Addr) (H:Hp) (r:Addr) (tx t:Pl):Prop:=∃ dx pre,tx=pre++t/\H r=some (.ins cD dx [("text",.str (mkS tx)),("spot",.int (pre.length:Nat))])
def sp_at_end (cD:Addr):Sp:=fun vs H Q E=>∃ r tx t,vs=[.ref r]/\Rd cD H r tx t/\tx.length<=60000/\Q (.bl (decide (t=[]))) H
theorem sc_Reader_at_end:Zb0 ["self"] ["self"] (Za6 (Zc5 (top 44) 1)):=nofun
theorem ok_at_end (A:Adr K mg) {f:Addr}{fd:FuncData}(F:Fun K "at_end" "Reader.at_end" (Zc5 (top 44) 1) f fd):FnOk P w K mg base (CX1 P w) 1 f fd ["self"] (sp_at_end A.c_Reader):=by
 have S:=sc_Reader_at_end
 k_head
 ·obtain⟨r,tx,t,rfl,_⟩:=h
  rfl
 ·obtain⟨r,tx,t,rfl,⟨dx,pre,et,hr'⟩,hl,q⟩:=h
  refine⟨_,(Za5 (Za9 (pe_cmpR op_eq (Zc9 (K:=K) rfl (pv 0) rfl) (Zc3 call_len_str (by rfl) A.n_len bt_len (Za0 (Zc9 (K:=K) rfl (pv 0) rfl) Za2)) (Zc6 _)))),?_⟩
  k_one
  refine fld_ok hr' A.l_Reader A.a_spot (by rfl) ?_
  k_one
  refine fld_ok hr' A.l_Reader A.a_text (by rfl) ?_
  k_one
  refine⟨by rw[Zc4,sizeLine_eq];omega,?_⟩
  have e:(((pre.length:Nat):Int)=((mkS tx).length:Int))=(t=[]):=by
   rw[Zc4,et,List.length_append]
   apply propext
   constructor
   ·intro h;exact List.length_eq_zero_iff.mp ∅
   ·intro h;rw[h];simp
  simp only[e]
  exact q
theorem rd_dyn {Kd:Addr->Prop}{m:Str}{sp:Addr->Sp}{dvs:List V}{r C dx:Addr}{fs:List (Str×V)}{H:Hp}{R:(List V->Hp->VK->XK->Prop)->Prop}(h:H r=some (.ins C dx fs)) (k:Kd C) (l:fs.lookup m=none)
  (q:R fun vs H Q E=>sp C (.ref r::(vs++dvs)) H Q E):rDyn Kd m sp dvs (.ref r) H R:=⟨r,C,dx,fs,rfl,k,h,l,q⟩
abbrev MthR (P:Program) (w:World) (K:PySem.W.Frag) (mg:Str->Option Value) (base:Heap) (A:Adr K mg) (n:Str) (k:Nat) (ps:List Str) (sp:Addr->Sp):Prop:=∀ C,C=A.c_Reader->Mth P w K mg base C n k ps [] (sp C)
def sp_sees (cD:Addr):Sp:=fun vs H Q E=>∃ r tx t c,vs=[.ref r,.str (mkS [c])]/\Rd cD H r tx t/\tx.length<=60000/\Q (.bl (decide (t.head? = some c))) H
theorem sc_Reader_sees:Zb0 ["self","sign"] ["self","sign"] (Za6 (Zc5 (top 44) 2)):=nofun
theorem ok_sees (A:Adr K mg) {f:Addr}{fd:FuncData}(F:Fun K "sees" "Reader.sees" (Zc5 (top 44) 2) f fd) (D_at_end:MthR P w K mg base A "at_end" 1 ["self"] sp_at_end):FnOk P w K mg base (CX1 P w) 2 f fd ["self","sign"] (sp_sees A.c_Reader):=by
 have S:=sc_Reader_sees
 k_head
 ·obtain⟨r,tx,t,c,rfl,_⟩:=h
  rfl
 ·obtain⟨r,tx,t,c,rfl,⟨dx,pre,et,hr'⟩,hl,q⟩:=h
  have hr_at_end:Room 1 _:=hr.mono ⋯
  refine⟨_,(Za5 (Za9 (pe_and (pe_not (pe_m0 D_at_end hr_at_end Zc2 (pv 0))) (pe_one (pe_cmpR op_eq (Zb6 ix_str (Zc9 (K:=K) rfl (pv 0) rfl) (Zc9 (K:=K) rfl (pv 0) rfl) (fun _ _=>rfl)) (pv 1) (Zc6 _)))))),?_⟩
  k_one
  refine rd_dyn hr' rfl (by rfl) ?_
  refine⟨r,tx,t,rfl,⟨dx,pre,et,hr'⟩,hl,?_⟩
  k_one
  cases t with
  | nil=>
   simp only[decide_true,Bool.not_true,Bool.false_eq_true,if_false]
   k_one
   simpa using q
  | cons d t=>
   have hd:¬(d::t=[]):=by simp
   simp only[hd,decide_false,Bool.not_false,if_true]
   k_one
   refine fld_ok hr' A.l_Reader A.a_text (by rfl) ?_
   k_one
   refine fld_ok hr' A.l_Reader A.a_spot (by rfl) ?_
   k_one
   subst et
   refine ixS_at ∅ ?_
   k_one
   have e:(mkS [d]=mkS [c])=((d::t).head? = some c):=by rw[mkS_inj];simp
   simp only[e]
   exact q
def AdvR (r:Addr) (H H':Hp):Prop:=∀ b o,b≠r->H b=some o->H' b=some o
theorem AdvR.refl {r:Addr}{H:Hp}:AdvR r H H:=fun _ _ _ e=>e
theorem AdvR.trans {r:Addr}{H H' H'':Hp}(a:AdvR r H H') (b:AdvR r H' H''):AdvR r H H'':=fun c o n e=>b c o n (a c o n e)
theorem AdvR.upd {r:Addr}{H:Hp}{o:HO}:AdvR r H (upd H r o):=fun b u n e=>by rw[Zb8 n];exact e
theorem Same.adv {r:Addr}{H H':Hp}(s:Same H H'):AdvR r H H':=fun b o _ e=>s b o e
theorem Rd.ins {cD:Addr}{H:Hp}{r:Addr}{tx t:Pl}(h:Rd cD H r tx t):∃ dx y z,H r=some (.ins cD dx [("text",y),("spot",z)]):=let ⟨dx,_,_,e⟩:=h;⟨dx,_,_,e⟩
theorem Rd.same {cD:Addr}{H H':Hp}{r:Addr}{tx t:Pl}(h:Rd cD H r tx t) (s:Same H H'):Rd cD H' r tx t:=let ⟨dx,pre,e1,e⟩:=h;⟨dx,pre,e1,s _ _ e⟩
theorem FrAt.adv {cD r:Addr}{H H':Hp}{tx t:Pl}{v:V}{a b:Int}(h:FrAt H v a b) (hr:Rd cD H r tx t) (k:AdvR r H H'):FrAt H' v a b:=by
 obtain⟨dx,y,z,e⟩:=hr.ins
 obtain⟨p,e1,h⟩:=h
 exact⟨p,e1,k p _ (ne_of h e (by intro z;cases z)) h⟩
theorem Th.adv {cW cR cD r:Addr}{H H':Hp}{tx t:Pl}(hr:Rd cD H r tx t) (k:AdvR r H H'):∀ {m:Mo}{v:V},Th cW cR H v m->Th cW cR H' v m
 | .wt f,v,⟨a,dx,u,e,h,hf⟩=>by
  obtain⟨dx',y,z,e'⟩:=hr.ins
  refine⟨a,dx,u,e,k _ _ (ne_of h e' fun z=>?_) h,FrAt.adv hf hr k⟩
  injection z with _ _ z
  have:=congrArg List.length z
  cases this
 | .rod l x r' y,v,⟨a,dx,u1,u2,u3,u4,e,h,h1,h2,h3,h4⟩=>by
  obtain⟨dx',y',z',e'⟩:=hr.ins
  refine⟨a,dx,u1,u2,u3,u4,e,k _ _ (ne_of h e' fun z=>?_) h,FrAt.adv h1 hr k,Th.adv hr k h2,FrAt.adv h3 hr k,Th.adv hr k h4⟩
  injection z with _ _ z
  have:=congrArg List.length z
  cases this
def sp_seesf (cD:Addr):Sp:=fun vs H Q E=>∃ r tx t,vs=[.ref r]/\Rd cD H r tx t/\tx.length<=60000/\Q (.bl (t.head?.any isD)) H
theorem sc_Reader_sees_figure:Zb0 ["self"] ["self"] (Za6 (Zc5 (top 44) 3)):=nofun
theorem ok_seesf (A:Adr K mg) {f:Addr}{fd:FuncData}(F:Fun K "sees_figure" "Reader.sees_figure" (Zc5 (top 44) 3) f fd) (D_at_end:MthR P w K mg base A "at_end" 1 ["self"] sp_at_end):FnOk P w K mg base (CX1 P w) 2 f fd ["self"] (sp_seesf A.c_Reader):=by
 have S:=sc_Reader_sees_figure
 k_head
 ·obtain⟨r,tx,t,rfl,_⟩:=h
  rfl
 ·obtain⟨r,tx,t,rfl,⟨dx,pre,et,hr'⟩,hl,q⟩:=h
  have hr_at_end:Room 1 _:=hr.mono ⋯
  refine⟨_,(Za5 (Za9 (pe_and (pe_not (pe_m0 D_at_end hr_at_end Zc2 (pv 0))) (pe_one (pe_cmpR op_in_str (Zb6 ix_str (Zc9 (K:=K) rfl (pv 0) rfl) (Zc9 (K:=K) rfl (pv 0) rfl) (fun _ _=>rfl)) (pe_glob (v:=.str A.v_FIGURES) rfl A.g_FIGURES ⟨A.tk_FIGURES,rfl⟩) (by rfl)))))),?_⟩
  k_one
  refine rd_dyn hr' rfl (by rfl) ?_
  refine⟨r,tx,t,rfl,⟨dx,pre,et,hr'⟩,hl,?_⟩
  k_one
  cases t with
  | nil=>
   simp only[decide_true,Bool.not_true,Bool.false_eq_true,if_false]
   k_one
   simpa using q
  | cons d t=>
   have hd:¬(d::t=[]):=by simp
   simp only[hd,decide_false,Bool.not_false,if_true]
   k_one
   refine fld_ok hr' A.l_Reader A.a_text (by rfl) ?_
   k_one
   refine fld_ok hr' A.l_Reader A.a_spot (by rfl) ?_
   k_one
   subst et
   refine ixS_at ∅ ?_
   k_one
   have e:(!(Builtin.Str.occurrences A.v_FIGURES (mkS [d]) 0 A.v_FIGURES.length 1).isEmpty)=isD d:=fig_in d
   rw[e]
   exact q
def sp_rsign (N cD:Addr):Sp:=fun vs H Q E=>∃ r tx t c,vs=[.ref r,.str (mkS [c])]/\Rd cD H r tx t/\tx.length<=60000/\(reprText (mkS [c])).length<=100 /\
 (∀ t',pCh c t=some t'->∀ H',AdvR r H H'->Rd cD H' r tx t'->Q .non H')/\(pCh c t=none->∀ H',AdvR r H H'->E (.ref N) none H')
theorem sc_Reader_read_sign:Zb0 ["self","sign"] ["self","sign"] (Za6 (Zc5 (top 44) 4)):=nofun
theorem ok_rsign (A:Adr K mg) {f:Addr}{fd:FuncData}(F:Fun K "read_sign" "Reader.read_sign" (Zc5 (top 44) 4) f fd) (D_sees:MthR P w K mg base A "sees" 2 ["self","sign"] sp_sees):FnOk P w K mg base (CX1 P w) 3 f fd ["self","sign"] (sp_rsign A.c_NoText A.c_Reader):=by
 have S:=sc_Reader_read_sign
 w_on
 ·obtain⟨r,tx,t,c,rfl,_⟩:=h
  rfl
 ·obtain⟨r,tx,t,c,rfl,⟨dx,pre,et,hr'⟩,hl,hc,q1,q2⟩:=h
  have hr_sees:Room 2 _:=hr.mono ⋯
  refine⟨_,(Za1 (ps_if (pt_not (pt_val (pe_m D_sees hr_sees Zb2 (pv 0) (Za0 (pv 1) Za2)))) (Za5 (ps_raise raises_cx hr.hd A.x_NoText rfl A.g_NoText (pe_fstrR (pv 1)))) Zb9)
   (Za5 (ps_fld (pv 0) (Zc0 op_add (Zc9 (K:=K) rfl (pv 0) rfl) Za3) rfl))),?_⟩
  k_one
  refine rd_dyn hr' rfl (by rfl) ?_
  refine⟨r,tx,t,c,rfl,⟨dx,pre,et,hr'⟩,hl,?_⟩
  rw[pCh_head]
  k_one
  cases hp:pCh c t with
  | none=>
   simp only[Option.isSome_none,Bool.not_false,if_true]
   k_one
   refine⟨?_,q2 hp H AdvR.refl⟩
   rw[sizeLine_eq]
   exact Nat.le_trans (Nat.add_le_add_right hc _) (by ac_nf)
  | some t'=>
   simp only[Option.isSome_some,Bool.not_true,Bool.false_eq_true,if_false]
   k_one
   refine fld_ok hr' A.l_Reader A.a_spot (by rfl) ?_
   k_one
   refine sfld_ok hr' A.l_Reader A.a_spot (by show 2<1000;decide) ?_
   k_one
   refine q1 t' hp _ AdvR.upd ⟨dx,pre++[c],?_,?_⟩
   ·rw[et,pCh_sound hp];simp
   ·rw[Za4,List.length_append]
    rfl
def sp_rnum (N cD:Addr):Sp:=fun vs H Q E=>∃ r tx t,vs=[.ref r]/\Rd cD H r tx t/\tx.length<=60000/\RunLe 200 t /\
 (∀ n t',pNum t=some (n,t')->∀ H',AdvR r H H'->Rd cD H' r tx t'->Q (.int (n:Nat)) H')/\(pNum t=none->∀ H',AdvR r H H'->E (.ref N) none H')
theorem s_0:("0" : Str)=mkS [48]:=by ac_nf
theorem sc_Reader_read_number:Zb0 ["self","start","figures"] ["self"] (Za6 (Zc5 (top 44) 5)):=nofun
theorem ok_rnum (A:Adr K mg) {f:Addr}{fd:FuncData}(F:Fun K "read_number" "Reader.read_number" (Zc5 (top 44) 5) f fd) (D_sees_figure:MthR P w K mg base A "sees_figure" 2 ["self"] sp_seesf):FnOk P w K mg base (CX1 P w) 3 f fd ["self"] (sp_rnum A.c_NoText A.c_Reader):=by
 have S:=sc_Reader_read_number
 w_on
 ·obtain⟨r,tx,t,rfl,_⟩:=h
  rfl
 ·obtain⟨r,tx,t,rfl,⟨dx,pre,et,hr'⟩,hl,hrun,q1,q2⟩:=h
  have hr_sees_figure:Room 2 _:=hr.mono ⋯
  refine⟨_,(Za1 (Zb4 (i:=1) S.nd rfl (Or.inl rfl) (Zc9 (K:=K) rfl (pv 0) rfl))
   (Za1 (ps_quiet (ps_while PassesOwn.never (pt_val (pe_m0 D_sees_figure hr_sees_figure Zc2 (pv 0))) (Za5 (ps_fld (pv 0) (Zc0 op_add (Zc9 (K:=K) rfl (pv 0) rfl) Za3) rfl))))
   (Za1 (Zb4 (i:=2) S.nd rfl (Or.inl rfl) (pe_slice sl_str (Zc9 (K:=K) rfl (pv 0) rfl) (po_some (pv 1)) (po_some (Zc9 (K:=K) rfl (pv 0) rfl))))
   (Za1 (ps_if (PW.pt (pw_or (Zb7 op_eq (pv 2) Zc7 (Zc6 _)) (pw_or1 (Zb7 op_eq (Zb6 ix_str (pv 2) Za3 (fun _ _=>rfl)) Zc7 (Zc6 _))))) (Za5 (ps_raise raises_cx hr.hd A.x_NoText rfl A.g_NoText Zc7)) Zb9)
   (Za5 (Za9 (pe_callTy call_intT (by rfl) A.n_int bt_int (Za0 (pv 2) Za2)))))))),?_⟩
  k_one
  refine fld_ok hr' A.l_Reader A.a_spot (by rfl) ?_
  k_one
  refine while_k (fun σ H'=>σ=[some (.ref r),some (.int (pre.length:Nat)),none]/\AdvR r H H'/\∃ ds t',t=ds++t'/\(∀ c∈ds,isD c=true)/\H' r=some (.ins A.c_Reader dx [("text",.str (mkS tx)),("spot",.int ((pre.length+ds.length:Nat):Int))]))
   (fun _ H'=>mSp r tx.length H') ⟨rfl,AdvR.refl,[],t,rfl,(fun _ z=>nomatch z),hr'⟩ ?_
  rintro _ H1 K' ⟨rfl,adv,ds,t',ed,had,h1⟩ kt kf
  have etx:tx=(pre++ds)++t':=by rw[et,ed,List.append_assoc]
  have hlen:tx.length=pre.length+ds.length+t'.length:=by rw[etx,List.length_append,List.length_append]
  k_one
  refine rd_dyn h1 rfl (by rfl) ?_
  refine⟨r,tx,t',rfl,⟨dx,pre++ds,etx,by rw[h1,List.length_append]⟩,hl,?_⟩
  k_one
  cases he:t'.head?.any isD with
  | true=>
   obtain⟨c,t'',rfl,hc⟩:∃ c t'',t'=c::t''/\isD c=true:=by
    cases t' with
    | nil=>cases he
    | cons c t''=>exact⟨c,t'',rfl,he⟩
   refine kt _ ?_
   k_one
   refine fld_ok h1 A.l_Reader A.a_spot (by rfl) ?_
   k_one
   refine sfld_ok h1 A.l_Reader A.a_spot (by show 2<1000;decide) ?_
   k_one
   refine⟨adv.trans AdvR.upd,⟨ds++[c],⟨t'',?_⟩,?_,?_⟩,?_⟩
   ·rw[ed];simp
   ·intro d hd
    rcases List.mem_append.mp hd with hd | hd
    ·exact had d hd
    ·rw[List.mem_singleton.mp hd];exact hc
   ·rw[Za4,List.length_append]
    rfl
   ·refine Nat.lt_of_le_of_lt (Nat.le_of_eq (mSp_of (x:=("text",.str (mkS tx))) (f:="spot") (i:=((pre.length+ds.length:Nat):Int)+1) Za4)) ?_
    rw[mSp_of h1]
    rw[hlen,List.length_cons]
    omega
  | false=>
   have hno:NoD t':=fun c hc=>by
    cases t' with
    | nil=>cases hc
    | cons d t''=>
     have hc:d=c:=by simpa using hc
     exact hc▸he
   have epn:=pNum_run had hno
   rw[←ed] at epn
   refine kf _ ?_
   k_one
   refine fld_ok h1 A.l_Reader A.a_text (by rfl) ?_
   k_one
   refine fld_ok h1 A.l_Reader A.a_spot (by rfl) ?_
   k_one
   refine⟨mkS tx,rfl,by rw[Zc4,sizeLine_eq];omega,?_⟩
   have esl:Txt.slice (mkS tx) (some (pre.length:Nat)) (some ((pre.length+ds.length:Nat):Int))=mkS ds:=by rw[etx,List.append_assoc];exact slice_mid pre ds t'
   rw[esl]
   k_one
   rw[s_empty,s_0]
   cases ds with
   | nil=>
    simp only[decide_true,if_true]
    k_one
    exact q2 (by rw[epn];rfl) _ adv
   | cons c ds=>
    have hne:¬(mkS (c::ds)=mkS []):=by rw[mkS_inj];simp
    simp only[hne,decide_false,Bool.false_eq_true,if_false]
    k_one
    refine ixS_at (pre:=[]) (by simp only[List.nil_append];simp only[List.length_cons] at *;omega) ?_
    k_one
    by_cases h0:c=48
    ·subst h0
     simp only[decide_true,if_true]
     k_one
     exact q2 (by rw[epn];rfl) _ adv
    ·have h0':¬(mkS [c]=mkS [48]):=by rw[mkS_inj];simpa using h0
     simp only[h0',decide_false,Bool.false_eq_true,if_false]
     k_one
     refine⟨c::ds,rfl,had,by simp,?_,?_⟩
     ·rw[ed] at hrun
      exact Nat.le_trans (hrun [] (c::ds) t' rfl had) ⋯
     ·refine q1 _ t' (by rw[epn,if_neg];simpa using h0) H1 adv ⟨dx,pre++(c::ds),etx,by rw[h1,List.length_append]⟩
theorem s_slash:("/" : Str)=mkS [47]:=by ac_nf
theorem s_open:("[" : Str)=mkS [91]:=by ac_nf
theorem s_shut:("]" : Str)=mkS [93]:=by ac_nf
theorem s_colon:(":" : Str)=mkS [58]:=by ac_nf
theorem s_blank:(" " : Str)=mkS [32]:=by ac_nf
def sp_rfr (N cD:Addr):Sp:=fun vs H Q E=>∃ r tx t,vs=[.ref r]/\Rd cD H r tx t/\tx.length<=60000/\RunLe 200 t /\
 (∀ f t',pFr t=some (f,t')->∀ v H',AdvR r H H'->Rd cD H' r tx t'->FrV H' v f->Q v H')/\(pFr t=none->∀ H',AdvR r H H'->E (.ref N) none H')
theorem sc_Reader_read_fraction:Zb0 ["self","top","bottom"] ["self"] (Za6 (Zc5 (top 44) 6)):=nofun
theorem ok_rfr (A:Adr K mg) {f:Addr}{fd:FuncData}(F:Fun K "read_fraction" "Reader.read_fraction" (Zc5 (top 44) 6) f fd) (D_sees:MthR P w K mg base A "sees" 2 ["self","sign"] sp_sees) (D_read_sign:MthR P w K mg base A "read_sign" 3 ["self","sign"] (sp_rsign A.c_NoText))
  (D_read_number:MthR P w K mg base A "read_number" 3 ["self"] (sp_rnum A.c_NoText)) (F_fraction:Fnc P w K mg base "fraction" 2 ["top","bottom"] [] (sp_fraction A.c_NoNumber)) :
  FnOk P w K mg base (CX1 P w) 4 f fd ["self"] (sp_rfr A.c_NoText A.c_Reader):=by
 have S:=sc_Reader_read_fraction
 w_on
 ·obtain⟨r,tx,t,rfl,_⟩:=h
  rfl
 ·obtain⟨r,tx,t,rfl,hrd,hl,hrun,q1,q2⟩:=h
  have hu:=hu_of hr
  have hr_sees:Room 2 _:=hr.mono ⋯
  have hr_read_sign:Room 3 _:=hr.mono ⋯
  have hr_read_number:Room 3 _:=hr.mono ⋯
  have hr_fraction:Room 2 _:=hr.mono ⋯
  refine⟨_,(Za1 (Zb4 (i:=1) S.nd rfl (Or.inl rfl) (pe_m0 D_read_number hr_read_number Zb2 (pv 0)))
   (Za1 (ps_if (pt_not (pt_val (pe_m D_sees hr_sees Zb2 (pv 0) (Za0 Zc7 Za2)))) (Za5 (Za9 (pe_tup (Za0 (pv 1) (Za0 Za3 Za2))))) Zb9)
   (Za1 (ps_expr (pe_m D_read_sign hr_read_sign Zb2 (pv 0) (Za0 Zc7 Za2)))
   (Za1 (Zb4 (i:=2) S.nd rfl (Or.inl rfl) (pe_m0 D_read_number hr_read_number Zb2 (pv 0)))
   (Za1 (ps_if (PW.pt (pw_or (Zb7 op_eq (pv 2) Za3 (Zc6 _)) (pw_or1 (Zb7 (op_neF hu) (Zc1 F_fraction hr_fraction Zb2 (Za0 (pv 1) (Za0 (pv 2) Za2))) (pe_tup (Za0 (pv 1) (Za0 (pv 2) Za2))) (Zc6 _))))) (Za5 (ps_raise raises_cx hr.hd A.x_NoText rfl A.g_NoText Zc7)) Zb9)
   (Za5 (Za9 (pe_tup (Za0 (pv 1) (Za0 (pv 2) Za2)))))))))),?_⟩
  k_one
  obtain⟨dx,y,z,hi⟩:=hrd.ins
  refine rd_dyn hi rfl (by rfl) ?_
  refine⟨r,tx,t,rfl,hrd,hl,hrun,fun m t1 hm H1 a1 rd1=>?_,fun hn H1 a1=>q2 (by unfold pFr;rw[hn];rfl) H1 a1⟩
  k_one
  obtain⟨dx1,y1,z1,hi1⟩:=rd1.ins
  refine rd_dyn hi1 rfl (by rfl) ?_
  refine⟨r,tx,t1,47,congrArg (fun z=>[V.ref r,V.str z]) s_slash,rd1,hl,?_⟩
  rw[pCh_head]
  k_one
  have e1:=(pNum_sound hm).1
  have m0:=(pNum_sound hm).2.1
  cases hc:pCh 47 t1 with
  | none=>
   simp only[Option.isSome_none,Bool.not_false,if_true]
   k_one
   refine⟨by show 2<=sizeLine;decide,fun p hp=>?_⟩
   exact q1 ((m:Int),1) t1 (by unfold pFr;rw[hm];simp only[Option.bind_some,hc]) _ _ (a1.trans (Same.adv (Za7 hp))) (rd1.same (Za7 hp)) ⟨p,rfl,Za4⟩
  | some t2=>
   simp only[Option.isSome_some,Bool.not_true,Bool.false_eq_true,if_false]
   k_one
   refine rd_dyn hi1 rfl (by rfl) ?_
   have hr2:RunLe 200 t2:=by
    have e2:=pCh_sound hc
    rw[e1,e2] at hrun
    exact RunLe.tail (a:=[47]) hrun.tail
   refine⟨r,tx,t1,47,congrArg (fun z=>[V.ref r,V.str z]) s_slash,rd1,hl,by ac_nf,fun t2' hc' H2 a2 rd2=>?_,fun hn=>by rw[hn] at hc;cases hc⟩
   rw[hc] at hc'
   cases hc'
   k_one
   obtain⟨dx2,y2,z2,hi2⟩:=rd2.ins
   refine rd_dyn hi2 rfl (by rfl) ?_
   have a12:=a1.trans a2
   refine⟨r,tx,t2,rfl,rd2,hl,hr2,fun n t3 hn H3 a3 rd3=>?_,fun hn H3 a3=>q2 (by unfold pFr;rw[hm];simp only[Option.bind_some,hc,hn,Option.bind_none]) H3 (a12.trans a3)⟩
   k_one
   have n0:=(pNum_sound hn).2.1
   have a123:=a12.trans a3
   have epf:pFr t=if n=1\/low m n≠((m:Int),(n:Int)) then none else some (((m:Int),(n:Int)),t3):=by
    unfold pFr;rw[hm];simp only[Option.bind_some,hc,hn]
   by_cases h1:n=1
   ·subst h1
    simp only[Int.cast_ofNat_Int,decide_true,if_true]
    k_one
    exact q2 (by rw[epf,if_pos (.inl rfl)]) _ a123
   ·have h1':¬((n:Int)=1):=by omega
    simp only[h1',decide_false,Bool.false_eq_true,if_false]
    k_one
    have hz:(n:Int)≠0:=by omega
    refine⟨m,n,rfl,fun z=>absurd z hz,fun _=>⟨(sm_ten (pNum_lt hn hr2)).mono ⋯,fun v H4 s4 f4=>?_⟩⟩
    k_one
    refine⟨by show 2<=sizeLine;decide,fun p hp=>?_⟩
    refine⟨_,_,_,_,f4.upd hp,⟨p,rfl,Za4⟩,?_⟩
    have a4:AdvR r H (upd H4 p (.tup [.int m,.int n])):=a123.trans ((Same.adv s4).trans (Same.adv (Za7 hp)))
    have rd4:Rd A.c_Reader (upd H4 p (.tup [.int m,.int n])) r tx t3:=(rd3.same s4).same (Za7 hp)
    by_cases h2:low m n=((m:Int),(n:Int))
    ·have h3:nt m n=(m:Int)/\nb m n=(n:Int):=⟨congrArg Prod.fst h2,congrArg Prod.snd h2⟩
     simp only[h3,and_self,decide_true,Bool.not_true,Bool.false_eq_true,if_false]
     k_one
     refine⟨by show 2<=sizeLine;decide,fun p' hp'=>?_⟩
     exact q1 ((m:Int),(n:Int)) t3 (by rw[epf,if_neg];rintro (z | z);exact h1 z;exact z h2) _ _ (a4.trans (Same.adv (Za7 hp'))) (rd4.same (Za7 hp')) ⟨p',rfl,Za4⟩
    ·have h3:¬(nt m n=(m:Int)/\nb m n=(n:Int)):=fun z=>h2 (Prod.ext z.1 z.2)
     simp only[h3,decide_false,Bool.not_false,if_true]
     k_one
     exact q2 (by rw[epf,if_pos (.inr h2)]) _ a4
def sp_rmo (N cD cW cR:Addr) (n:Nat):Sp:=fun vs H Q E=>∃ r tx t,vs=[.ref r]/\Rd cD H r tx t/\tx.length<=60000/\RunLe 200 t/\t.count 91<=n /\
 (∀ m t',pMo n t=some (m,t')->∀ v H',AdvR r H H'->Rd cD H' r tx t'->Th cW cR H' v m->Q v H')/\(pMo n t=none->∀ H',AdvR r H H'->E (.ref N) none H')
def sp_rrod (N cD cW cR:Addr) (n:Nat):Sp:=fun vs H Q E=>∃ r tx t,vs=[.ref r]/\Rd cD H r tx t/\tx.length<=60000/\RunLe 200 t/\t.count 91<=n+1 /\
 (∀ m t',pRod n t=some (m,t')->∀ v H',AdvR r H H'->Rd cD H' r tx t'->Th cW cR H' v m->Q v H')/\(pRod n t=none->∀ H',AdvR r H H'->E (.ref N) none H')
theorem count_tail {a t:Pl}:t.count 91<=(a++t).count 91:=by rw[List.count_append];omega
theorem sc_Reader_read_rod:Zb0 ["self","left_arm","left","right_arm","right"] ["self"] (Za6 (Zc5 (top 44) 8)):=nofun
theorem ok_rrod (A:Adr K mg) {f:Addr}{fd:FuncData}(F:Fun K "read_rod" "Reader.read_rod" (Zc5 (top 44) 8) f fd) (D_read_sign:MthR P w K mg base A "read_sign" 3 ["self","sign"] (sp_rsign A.c_NoText))
  (D_read_fraction:MthR P w K mg base A "read_fraction" 4 ["self"] (sp_rfr A.c_NoText)) (M_Rod:Mkr P w K mg base "Rod" A.c_Rod 3 ["self","left_arm","left","right_arm","right"] [] (sp_rinit A.c_NoNumber A.c_Rod)) (n:Nat)
  (D_read_mobile:MthR P w K mg base A "read_mobile" (2*n+5) ["self"] (fun C=>sp_rmo A.c_NoText C A.c_Weight A.c_Rod n)) :
  FnOk P w K mg base (CX1 P w) (2*n+6) f fd ["self"] (sp_rrod A.c_NoText A.c_Reader A.c_Weight A.c_Rod n):=by
 have S:=sc_Reader_read_rod
 w_on
 ·obtain⟨r,tx,t,rfl,_⟩:=h
  rfl
 ·obtain⟨r,tx,t,rfl,hrd,hl,hrun,hcnt,q1,q2⟩:=h
  have hr_read_sign:Room 3 _:=hr.mono ∅
  have hr_read_fraction:Room 4 _:=hr.mono ∅
  have hr_read_mobile:Room (2*n+5) _:=hr.mono ∅
  have hr_Rod:Room (3+1) _:=hr.mono ∅
  refine⟨_,(Za1 (ps_expr (pe_m D_read_sign hr_read_sign Zb2 (pv 0) (Za0 Zc7 Za2)))
   (Za1 (Zb4 (i:=1) S.nd rfl (Or.inl rfl) (pe_m0 D_read_fraction hr_read_fraction Zb2 (pv 0)))
   (Za1 (ps_expr (pe_m D_read_sign hr_read_sign Zb2 (pv 0) (Za0 Zc7 Za2)))
   (Za1 (Zb4 (i:=2) S.nd rfl (Or.inl rfl) (pe_m0 D_read_mobile hr_read_mobile Zb2 (pv 0)))
   (Za1 (ps_expr (pe_m D_read_sign hr_read_sign Zb2 (pv 0) (Za0 Zc7 Za2)))
   (Za1 (Zb4 (i:=3) S.nd rfl (Or.inl rfl) (pe_m0 D_read_fraction hr_read_fraction Zb2 (pv 0)))
   (Za1 (ps_expr (pe_m D_read_sign hr_read_sign Zb2 (pv 0) (Za0 Zc7 Za2)))
   (Za1 (Zb4 (i:=4) S.nd rfl (Or.inl rfl) (pe_m0 D_read_mobile hr_read_mobile Zb2 (pv 0)))
   (Za1 (ps_expr (pe_m D_read_sign hr_read_sign Zb2 (pv 0) (Za0 Zc7 Za2)))
   (Za5 (Za9 (pe_mk M_Rod hr_Rod Zb2 (Za0 (pv 1) (Za0 (pv 2) (Za0 (pv 3) (Za0 (pv 4) Za2)))))))))))))))),?_⟩
  k_one
  obtain⟨dx0,y0,z0,hi0⟩:=hrd.ins
  refine rd_dyn hi0 rfl (by rfl) ?_
  refine⟨r,tx,t,91,congrArg (fun z=>[V.ref r,V.str z]) s_open,hrd,hl,by ac_nf,fun t1 c1 H1 a1 rd1=>?_,fun hn H1 a1=>q2 (bnd0 hn) H1 a1⟩
  k_one
  have E1:pRod n t=pR1 n t1:=bnd c1
  have e1:=pCh_sound c1
  have r1:RunLe 200 t1:=by rw[e1] at hrun;exact RunLe.tail (a:=[91]) hrun
  have n1:t1.count 91<=n:=by rw[e1] at hcnt;simp at hcnt;exact hcnt
  obtain⟨dx1,y1,z1,hi1⟩:=rd1.ins
  refine rd_dyn hi1 rfl (by rfl) ?_
  refine⟨r,tx,t1,rfl,rd1,hl,r1,fun l t2 c2 v2 H2 a2 rd2 f2=>?_,fun hn H2 a2=>q2 (E1.trans (bnd0 hn)) H2 (a1.trans a2)⟩
  k_one
  have E2:pRod n t=pR2 n l t2:=E1.trans (bnd c2)
  have e2:=(pFr_sound c2).1
  have r2:RunLe 200 t2:=by rw[e2] at r1;exact r1.tail
  have n2:t2.count 91<=n:=by rw[e2] at n1;exact Nat.le_trans count_tail n1
  have b2:=a1.trans a2
  obtain⟨dx2,y2,z2,hi2⟩:=rd2.ins
  refine rd_dyn hi2 rfl (by rfl) ?_
  refine⟨r,tx,t2,58,congrArg (fun z=>[V.ref r,V.str z]) s_colon,rd2,hl,by ac_nf,fun t3 c3 H3 a3 rd3=>?_,fun hn H3 a3=>q2 (E2.trans (bnd0 hn)) H3 (b2.trans a3)⟩
  k_one
  have E3:pRod n t=pR3 n l t3:=E2.trans (bnd c3)
  have e3:=pCh_sound c3
  have r3:RunLe 200 t3:=by rw[e3] at r2;exact RunLe.tail (a:=[58]) r2
  have n3:t3.count 91<=n:=by rw[e3] at n2;exact Nat.le_trans (count_tail (a:=[58])) n2
  have b3:=b2.trans a3
  have f3:=FrAt.adv f2 rd2 a3
  obtain⟨dx3,y3,z3,hi3⟩:=rd3.ins
  refine rd_dyn hi3 rfl (by rfl) ?_
  refine⟨r,tx,t3,rfl,rd3,hl,r3,n3,fun x t4 c4 v4 H4 a4 rd4 th4=>?_,fun hn H4 a4=>q2 (E3.trans (bnd0 hn)) H4 (b3.trans a4)⟩
  k_one
  have E4:pRod n t=pR4 n l x t4:=E3.trans (bnd c4)
  have e4:=(pMo_sound _ _ _ _ c4).1
  have r4:RunLe 200 t4:=by rw[e4] at r3;exact r3.tail
  have n4:t4.count 91<=n:=by rw[e4] at n3;exact Nat.le_trans count_tail n3
  have b4:=b3.trans a4
  have f4:=FrAt.adv f3 rd3 a4
  obtain⟨dx4,y4,z4,hi4⟩:=rd4.ins
  refine rd_dyn hi4 rfl (by rfl) ?_
  refine⟨r,tx,t4,32,congrArg (fun z=>[V.ref r,V.str z]) s_blank,rd4,hl,by ac_nf,fun t5 c5 H5 a5 rd5=>?_,fun hn H5 a5=>q2 (E4.trans (bnd0 hn)) H5 (b4.trans a5)⟩
  k_one
  have E5:pRod n t=pR5 n l x t5:=E4.trans (bnd c5)
  have e5:=pCh_sound c5
  have r5:RunLe 200 t5:=by rw[e5] at r4;exact RunLe.tail (a:=[32]) r4
  have n5:t5.count 91<=n:=by rw[e5] at n4;exact Nat.le_trans (count_tail (a:=[32])) n4
  have b5:=b4.trans a5
  have f5:=FrAt.adv f4 rd4 a5
  have th5:=Th.adv rd4 a5 th4
  obtain⟨dx5,y5,z5,hi5⟩:=rd5.ins
  refine rd_dyn hi5 rfl (by rfl) ?_
  refine⟨r,tx,t5,rfl,rd5,hl,r5,fun g t6 c6 v6 H6 a6 rd6 g6=>?_,fun hn H6 a6=>q2 (E5.trans (bnd0 hn)) H6 (b5.trans a6)⟩
  k_one
  have E6:pRod n t=pR6 n l x g t6:=E5.trans (bnd c6)
  have e6:=(pFr_sound c6).1
  have r6:RunLe 200 t6:=by rw[e6] at r5;exact r5.tail
  have n6:t6.count 91<=n:=by rw[e6] at n5;exact Nat.le_trans count_tail n5
  have b6:=b5.trans a6
  have f6:=FrAt.adv f5 rd5 a6
  have th6:=Th.adv rd5 a6 th5
  obtain⟨dx6,y6,z6,hi6⟩:=rd6.ins
  refine rd_dyn hi6 rfl (by rfl) ?_
  refine⟨r,tx,t6,58,congrArg (fun z=>[V.ref r,V.str z]) s_colon,rd6,hl,by ac_nf,fun t7 c7 H7 a7 rd7=>?_,fun hn H7 a7=>q2 (E6.trans (bnd0 hn)) H7 (b6.trans a7)⟩
  k_one
  have E7:pRod n t=pR7 n l x g t7:=E6.trans (bnd c7)
  have e7:=pCh_sound c7
  have r7:RunLe 200 t7:=by rw[e7] at r6;exact RunLe.tail (a:=[58]) r6
  have n7:t7.count 91<=n:=by rw[e7] at n6;exact Nat.le_trans (count_tail (a:=[58])) n6
  have b7:=b6.trans a7
  have f7:=FrAt.adv f6 rd6 a7
  have th7:=Th.adv rd6 a7 th6
  have g7:=FrAt.adv g6 rd6 a7
  obtain⟨dx7,y7,z7,hi7⟩:=rd7.ins
  refine rd_dyn hi7 rfl (by rfl) ?_
  refine⟨r,tx,t7,rfl,rd7,hl,r7,n7,fun y t8 c8 v8 H8 a8 rd8 th8=>?_,fun hn H8 a8=>q2 (E7.trans (bnd0 hn)) H8 (b7.trans a8)⟩
  k_one
  have E8:pRod n t=pR8 l x g y t8:=E7.trans (bnd c8)
  have b8:=b7.trans a8
  have f8:=FrAt.adv f7 rd7 a8
  have thx8:=Th.adv rd7 a8 th7
  have g8:=FrAt.adv g7 rd7 a8
  obtain⟨dx8,y8,z8,hi8⟩:=rd8.ins
  refine rd_dyn hi8 rfl (by rfl) ?_
  refine⟨r,tx,t8,93,congrArg (fun z=>[V.ref r,V.str z]) s_shut,rd8,hl,by ac_nf,fun t9 c9 H9 a9 rd9=>?_,fun hn H9 a9=>q2 (E8.trans (bnd0 hn)) H9 (b8.trans a9)⟩
  k_one
  have b9:=b8.trans a9
  have ep:pRod n t=some (.rod l x g y,t9):=E8.trans (bnd c9)
  have sl:=pFr_sm c2 r1
  have sg:=pFr_sm c6 r5
  have ll:=(pFr_sound c2).2
  have lg:=(pFr_sound c6).2
  refine mkR_ok (cW:=A.c_Weight) (FrAt.adv f8 rd8 a9) (Th.adv rd8 a9 thx8) (FrAt.adv g8 rd8 a9) (Th.adv rd8 a9 th8) (sl.1.mono ⋯) (sl.2.mono ⋯) (sg.1.mono ⋯) (sg.2.mono ⋯) (fun _ _ z H' hz sm th=>?_) (fun h0=>absurd ⟨ll.t,lg.t⟩ h0)
  exact q1 _ _ ep _ _ (b9.trans (Same.adv sm)) (rd9.same sm) th
theorem sc_Reader_read_mobile:Zb0 ["self"] ["self"] (Za6 (Zc5 (top 44) 7)):=nofun
theorem ok_rmo0 (A:Adr K mg) {f:Addr}{fd:FuncData}(F:Fun K "read_mobile" "Reader.read_mobile" (Zc5 (top 44) 7) f fd) (D_sees:MthR P w K mg base A "sees" 2 ["self","sign"] sp_sees)
  (D_read_fraction:MthR P w K mg base A "read_fraction" 4 ["self"] (sp_rfr A.c_NoText)) (M_Weight:Mkr P w K mg base "Weight" A.c_Weight 3 ["self","amount"] [] (sp_winit A.c_NoNumber A.c_Weight)) (k n:Nat) (hk:2*n+4<=k)
  (sp:Addr->Sp) (D_read_rod:MthR P w K mg base A "read_rod" k ["self"] sp) (hsp:∀ n',n=n'+1->sp=fun C=>sp_rrod A.c_NoText C A.c_Weight A.c_Rod n') :
  FnOk P w K mg base (CX1 P w) (k+1) f fd ["self"] (sp_rmo A.c_NoText A.c_Reader A.c_Weight A.c_Rod n):=by
 have S:=sc_Reader_read_mobile
 w_on
 ·obtain⟨r,tx,t,rfl,_⟩:=h
  rfl
 ·obtain⟨r,tx,t,rfl,hrd,hl,hrun,hcnt,q1,q2⟩:=h
  have hr_sees:Room 2 _:=hr.mono ∅
  have hr_read_fraction:Room 4 _:=hr.mono ∅
  have hr_read_rod:Room k _:=hr.mono ∅
  have hr_Weight:Room (3+1) _:=hr.mono ∅
  refine⟨_,(Za1 (ps_if (pt_val (pe_m D_sees hr_sees Zb2 (pv 0) (Za0 Zc7 Za2))) (Za5 (Za9 (pe_m0 D_read_rod hr_read_rod Zb2 (pv 0)))) Zb9)
   (Za5 (Za9 (pe_mk M_Weight hr_Weight Zb2 (Za0 (pe_m0 D_read_fraction hr_read_fraction Zb2 (pv 0)) Za2))))),?_⟩
  k_one
  obtain⟨dx,y,z,hi⟩:=hrd.ins
  refine rd_dyn hi rfl (by rfl) ?_
  refine⟨r,tx,t,91,congrArg (fun z=>[V.ref r,V.str z]) s_open,hrd,hl,?_⟩
  rw[pCh_head]
  k_one
  cases hc:pCh 91 t with
  | none=>
   simp only[Option.isSome_none,Bool.false_eq_true,if_false]
   k_one
   refine rd_dyn hi rfl (by rfl) ?_
   have ep:=pMo_wt (n:=n) hc
   refine⟨r,tx,t,rfl,hrd,hl,hrun,fun f t1 c1 v1 H1 a1 rd1 f1=>?_,fun hn H1 a1=>q2 (by rw[ep,hn];rfl) H1 a1⟩
   k_one
   have sf:=pFr_sm c1 hrun
   refine mkW_ok (cR:=A.c_Rod) f1 (sf.1.mono ⋯) (sf.2.mono ⋯) (fun _ z H' hz sm th=>?_) (fun h0=>absurd (pFr_sound c1).2.t h0)
   exact q1 _ _ (by rw[ep,c1];rfl) _ _ (a1.trans (Same.adv sm)) (rd1.same sm) th
  | some t1=>
   simp only[Option.isSome_some,if_true]
   k_one
   cases n with
   | zero=>
    rw[pCh_sound hc] at hcnt
    simp at hcnt
   | succ n=>
    have e:=hsp n rfl
    subst e
    refine rd_dyn hi rfl (by rfl) ?_
    have ep:=pMo_rod (n:=n) hc
    refine⟨r,tx,t,rfl,hrd,hl,hrun,hcnt,fun m t2 c2 v H1 a1 rd1 th=>q1 m t2 (by rw[ep];exact c2) v H1 a1 rd1 th,fun hn H1 a1=>q2 (by rw[ep];exact hn) H1 a1⟩
theorem ok_rmo (A:Adr K mg) {f g:Addr}{fd gd:FuncData}(F:Fun K "read_mobile" "Reader.read_mobile" (Zc5 (top 44) 7) f fd) (G:Fun K "read_rod" "Reader.read_rod" (Zc5 (top 44) 8) g gd)
  (DF:∀ k sp,FnOk P w K mg base (CX1 P w) k f fd ["self"] sp->Mth P w K mg base A.c_Reader "read_mobile" k ["self"] [] sp) (DG:∀ k sp,FnOk P w K mg base (CX1 P w) k g gd ["self"] sp->Mth P w K mg base A.c_Reader "read_rod" k ["self"] [] sp)
  (D_sees:MthR P w K mg base A "sees" 2 ["self","sign"] sp_sees) (D_read_sign:MthR P w K mg base A "read_sign" 3 ["self","sign"] (sp_rsign A.c_NoText)) (D_read_fraction:MthR P w K mg base A "read_fraction" 4 ["self"] (sp_rfr A.c_NoText))
  (M_Weight:Mkr P w K mg base "Weight" A.c_Weight 3 ["self","amount"] [] (sp_winit A.c_NoNumber A.c_Weight)) (M_Rod:Mkr P w K mg base "Rod" A.c_Rod 3 ["self","left_arm","left","right_arm","right"] [] (sp_rinit A.c_NoNumber A.c_Rod)) :
  ∀ n,FnOk P w K mg base (CX1 P w) (2*n+5) f fd ["self"] (sp_rmo A.c_NoText A.c_Reader A.c_Weight A.c_Rod n):=by
 intro n
 induction n with
 | zero=>
  have D:MthR P w K mg base A "read_rod" 4 ["self"] (fun _ _ _ _ _=>False):=by
   rintro C rfl
   refine DG _ _ ?_
   refine G.okE sc_Reader_read_rod (fun vs H Q E h=>h.elim) (fun cdv A' outer s H vs Q E hr h=>h.elim)
  exact ok_rmo0 A F D_sees D_read_fraction M_Weight 4 0 ⋯ _ D (fun n' e=>by cases e)
 | succ n ih=>
  have D:MthR P w K mg base A "read_mobile" (2*n+5) ["self"] (fun C=>sp_rmo A.c_NoText C A.c_Weight A.c_Rod n):=by
   rintro C rfl
   exact DF _ _ ih
  have D2:MthR P w K mg base A "read_rod" (2*n+6) ["self"] (fun C=>sp_rrod A.c_NoText C A.c_Weight A.c_Rod n):=by
   rintro C rfl
   exact DG _ _ (ok_rrod A G D_read_sign D_read_fraction M_Rod n D)
  exact ok_rmo0 A F D_sees D_read_fraction M_Weight (2*n+6) (n+1) ∅ _ D2 (fun n' e=>by cases e;rfl)
def sp_dinit (cD:Addr):Sp:=fun vs H Q E=>∃ x dx t,vs=[.ref x,.str t]/\H x=some (.ins cD dx [])/\Q .non (upd H x (.ins cD dx [("text",.str t),("spot",.int 0)]))
theorem sc_Reader___init__:Zb0 ["self","text"] ["self","text"] (Za6 (Zc5 (top 44) 0)):=nofun
theorem ok_dinit (A:Adr K mg) {f:Addr}{fd:FuncData}(F:Fun K "__init__" "Reader.__init__" (Zc5 (top 44) 0) f fd):FnOk P w K mg base (CX1 P w) 1 f fd ["self","text"] (sp_dinit A.c_Reader):=by
 have S:=sc_Reader___init__
 k_head
 ·obtain⟨x,dx,t,rfl,_⟩:=h
  rfl
 ·obtain⟨x,dx,t,rfl,hx,q⟩:=h
  refine⟨_,(Za1 (ps_fld (pv 0) (pv 1) rfl)
   (Za5 (ps_fld (pv 0) Za3 rfl))),?_⟩
  k_one
  refine sfld_ok hx A.l_Reader A.a_text ⋯ ?_
  k_one
  refine sfld_ok Za4 A.l_Reader A.a_spot (by show 1<1000;decide) ?_
  k_one
  rw[upd_upd]
  exact q
theorem mkD_ok {cD:Addr}{E:XK}{tx:Pl}{H:Hp}{Q:VK}(k:∀ r H',H r=none->Same H H'->Rd cD H' r tx tx->Q (.ref r) H'):rMk cD (sp_dinit cD) [] E [.str (mkS tx)] H Q:=by
 intro x dx hx hd hne
 refine⟨x,dx,mkS tx,rfl,Za4,rfl,?_⟩
 rw[upd_upd]
 have sm:Same H (upd (upd H dx (.own x)) x (.ins cD dx [("text",.str (mkS tx)),("spot",.int 0)])):=fun b o e=>by rw[Zb8 (Za8 e hx),Zb8 (Za8 e hd)];exact e
 exact k x _ hx sm ⟨dx,[],rfl,Za4⟩
def sp_read (N cW cR:Addr):Sp:=fun vs H Q E=>∃ tx,vs=[.str (mkS tx)]/\tx.length<=60000/\RunLe 200 tx/\tx.count 91<=63 /\
 (∀ m,pMo 63 tx=some (m,[])->∀ v H',Same H H'->Th cW cR H' v m->Q v H')/\((∀ m,pMo 63 tx≠some (m,[]))->∀ H',Same H H'->E (.ref N) none H')
theorem sc_read:Zb0 ["text","reader","mobile"] ["text"] (Za6 (top 45)):=nofun
theorem ok_read (A:Adr K mg) {f:Addr}{fd:FuncData}(F:Fun K "read" "read" (top 45) f fd) (M_Reader:Mkr P w K mg base "Reader" A.c_Reader 1 ["self","text"] [] (sp_dinit A.c_Reader))
  (D_read_mobile:MthR P w K mg base A "read_mobile" 131 ["self"] (fun C=>sp_rmo A.c_NoText C A.c_Weight A.c_Rod 63)) (D_at_end:MthR P w K mg base A "at_end" 1 ["self"] sp_at_end) :
  FnOk P w K mg base (CX1 P w) 132 f fd ["text"] (sp_read A.c_NoText A.c_Weight A.c_Rod):=by
 have S:=sc_read
 w_on
 ·obtain⟨tx,rfl,_⟩:=h
  rfl
 ·obtain⟨tx,rfl,hl,hrun,hcnt,q1,q2⟩:=h
  have hr_Reader:Room (1+1) _:=hr.mono ⋯
  have hr_read_mobile:Room 131 _:=hr.mono ⋯
  have hr_at_end:Room 1 _:=hr.mono ⋯
  refine⟨_,(Za1 (Zb4 (i:=1) S.nd rfl (Or.inl rfl) (pe_mk M_Reader hr_Reader Zb2 (Za0 (pv 0) Za2)))
   (Za1 (Zb4 (i:=2) S.nd rfl (Or.inl rfl) (pe_m0 D_read_mobile hr_read_mobile Zb2 (pv 1)))
   (Za1 (ps_if (pt_not (pt_val (pe_m0 D_at_end hr_at_end Zb2 (pv 1)))) (Za5 (ps_raise raises_cx hr.hd A.x_NoText rfl A.g_NoText Zc7)) Zb9)
   (Za5 (Za9 (pv 2)))))),?_⟩
  k_one
  refine mkD_ok fun r H1 hr1 sm1 rd1=>?_
  k_one
  obtain⟨dx1,y1,z1,hi1⟩:=rd1.ins
  refine rd_dyn hi1 rfl (by rfl) ?_
  have back:∀ {H':Hp},AdvR r H1 H'->Same H H':=fun a b o e=>a b o (Za8 e hr1) (sm1 b o e)
  refine⟨r,tx,tx,rfl,rd1,hl,hrun,hcnt,fun m t' c v H2 a2 rd2 th=>?_,fun hn H2 a2=>q2 (fun m z=>by rw[hn] at z;cases z) H2 (back a2)⟩
  k_one
  obtain⟨dx2,y2,z2,hi2⟩:=rd2.ins
  refine rd_dyn hi2 rfl (by rfl) ?_
  refine⟨r,tx,t',rfl,rd2,hl,?_⟩
  k_one
  by_cases ht:t'=[]
  ·subst ht
   simp only[decide_true,Bool.not_true,Bool.false_eq_true,if_false]
   k_one
   exact q1 m c v H2 (back a2) th
  ·simp only[ht,decide_false,Bool.not_false,if_true]
   k_one
   exact q2 (fun m' z=>by rw[c] at z;injection z with z;injection z with z1 z2;exact ht z2) H2 (back a2)
def S19 (f:Fr):Prop:=Sm 1900 f.1/\Sm 1900 f.2
theorem s7_up {f:Fr}(h:S7 f):S19 f:=⟨h.1.mono ⋯,h.2.mono ⋯⟩
theorem log_ok {n:Int}(h0:0<n) (h:Sm 1900 n):n.natAbs.log2<1920:=Sm.log2 (h.mono ⋯) ∅
theorem frT_one {n:Int}:frT (n,1)=dg n.toNat:=if_pos rfl
theorem frT_two {f:Fr}(h:f.2≠1):frT f=dg f.1.toNat++([47]++dg f.2.toNat):=if_neg h
theorem am_lo {f:Fr}(h:Am 64 f):Lo f:=⟨h.t,h.b,h.g⟩
theorem ar_lo {f:Fr}(h:Ar f):Lo f:=⟨h.t,h.b,h.g⟩
theorem gT_lt:gT 64<10 ^ 179:=by ac_nf
theorem nat_lt {n:Int}{k:Nat}(h0:0<n) (h:n<((10 ^ k:Nat):Int)):n.toNat<10 ^ k:=by omega
theorem am_nat {f:Fr}(h:Am 64 f):f.1.toNat<10 ^ 179/\f.2.toNat<10 ^ 179:=by
 have h1:=h.s
 have h2:=h.l
 have h3:=gT_lt
 have e:((10 ^ 179:Nat):Int)=(10:Int) ^ 179:=by simp
 exact⟨nat_lt h.t (by rw[e];omega),nat_lt h.b (by rw[e];omega)⟩
theorem ar_nat {f:Fr}(h:Ar f):f.1.toNat<10 ^ 11/\f.2.toNat<10 ^ 10:=by
 have h1:=h.tl
 have h2:=h.bl
 exact⟨by omega,by omega⟩
theorem fr_len {f:Fr}{i j:Nat}(hi:0<i) (hj:0<j) (h1:f.1.toNat<10 ^ i) (h2:f.2.toNat<10 ^ j):(frT f).length<=i+1+j:=by
 have h1:=dg_len hi h1
 have h2:=dg_len hj h2
 unfold frT
 split
 ·omega
 ·simp only[List.length_append,List.length_cons];omega
theorem mo_len:∀ {m:Mo},Good 64 m->(moT m).length+51<=m.nw*420
 | .wt f,h=>by
  have h':Am 64 f:=h
  have:=fr_len (i:=179) (j:=179) ⋯ ⋯ (am_nat h').1 (am_nat h').2
  simp only[moT,Mo.nw]
  omega
 | .rod l x r y,h=>by
  have h1:=fr_len (i:=11) (j:=10) ⋯ ⋯ (ar_nat h.1).1 (ar_nat h.1).2
  have h2:=fr_len (i:=11) (j:=10) ⋯ ⋯ (ar_nat h.2.1).1 (ar_nat h.2.1).2
  have h3:=mo_len h.2.2.1
  have h4:=mo_len h.2.2.2
  simp only[moT,Mo.nw,List.length_append,List.length_cons,List.length_nil]
  omega
theorem good_lo {m:Mo}(h:Good 64 m):LoM m:=Mo.All.mono (fun _ a=>am_lo a) (fun _ a=>ar_lo a) h
theorem good_run {m:Mo}(h:Good 64 m):RunLe 200 (moT m):=by
 refine runs_moT ⋯ (Mo.All.mono (fun f a=>?_) (fun f a=>?_) h)
 ·have:=am_nat a
  have e:(10:Nat) ^ 179<=10 ^ 200:=Nat.pow_le_pow_right ⋯ ⋯
  omega
 ·have:=ar_nat a
  have e:(10:Nat) ^ 11<=10 ^ 200:=Nat.pow_le_pow_right ⋯ ⋯
  have e':(10:Nat) ^ 10<=10 ^ 200:=Nat.pow_le_pow_right ⋯ ⋯
  omega
structure TxtOk (m:Mo):Prop where
 len:(moT m).length<=60000
 run:RunLe 200 (moT m)
 cnt:(moT m).count 91<=63
 self:pMo 63 (moT m)=some (m,[])
 lo:LoM m
 s7:m.All S19 S19
theorem txt_ok {m:Mo}(g:Good 64 m) (hn:m.nw<=64):TxtOk m:=by
 have h1:=mo_len g
 have h2:=count_moT m
 have h3:=Mo.depth_lt m
 have hs:=pMo_moT m 63 [] (good_lo g) ∅ .nil
 rw[List.append_nil] at hs
 exact⟨by omega,good_run g,by omega,hs,good_lo g,Mo.All.mono (fun _ z=>s7_up z) (fun _ z=>s7_up z) (moT_back (good_lo g) (good_run g))⟩
def sp_shnum:Sp:=fun vs H Q E=>∃ v f,vs=[v]/\FrV H v f/\Lo f/\S19 f/\(frT f).length<=240000/\Q (.str (mkS (frT f))) H
theorem sc__law_number:Zb0 ["_law_one"] ["_law_one"] (Za6 (top 64)):=nofun
theorem ok_number (A:Adr K mg) {f:Addr}{fd:FuncData}(F:Fun K "_law_number" "_law_number" (top 64) f fd):FnOk P w K mg base (CX1 P w) 1 f fd ["_law_one"] sp_shnum:=by
 have S:=sc__law_number
 k_head
 ·obtain⟨v,f,rfl,_⟩:=h
  rfl
 ·obtain⟨v,f,rfl,hv,lo,s7,hl,kk⟩:=h
  have hu:=hu_of hr
  refine⟨_,(Za1 (ps_if (Zb7 op_eq (Zb6 (ixT (K:=K) rfl) (pv 0) Za3 (fun _ _=>rfl)) Za3 (Zc6 _)) (Za5 (Za9 (pe_callTy call_str_int (by rfl) A.n_str bt_str (Za0 (Zb6 (ixT (K:=K) rfl) (pv 0) Za3 (fun _ _=>rfl)) Za2)))) Zb9)
   (Za5 (Za9 (Zc0 Zb3 (Zc0 Zb3 (pe_callTy call_str_int (by rfl) A.n_str bt_str (Za0 (Zb6 (ixT (K:=K) rfl) (pv 0) Za3 (fun _ _=>rfl)) Za2)) Zc7) (pe_callTy call_str_int (by rfl) A.n_str bt_str (Za0 (Zb6 (ixT (K:=K) rfl) (pv 0) Za3 (fun _ _=>rfl)) Za2)))))),?_⟩
  have g0:=lo.t
  have g1:=lo.b
  walk_at "gm"
  by_cases hb:f.2=1
  ·simp only[hb,decide_true,if_true]
   walk_at "gm"
   have e:f=(f.1,1):=Prod.ext rfl hb
   rw[e,frT_one,←str_int ∅] at kk
   exact⟨log_ok g0 s7.1,kk⟩
  ·simp only[hb,decide_false,Bool.false_eq_true,if_false]
   walk_at "gm"
   obtain⟨z1,z2⟩:=frT_two_len hb hl
   rw[frT_two hb] at kk
   have zd:([47]:Pl).length<=1:=Nat.le_refl 1
   have es1:Str.ofString (toString f.1)=mkS (dg f.1.toNat):=str_int ∅
   have es2:Str.ofString (toString f.2)=mkS (dg f.2.toNat):=str_int ∅
   simp only[es1,s_slash,mkS_app]
   refine⟨log_ok g0 s7.1,cat_sz z1 zd ⋯,?_⟩
   walk_at "gm"
   simp only[es2,mkS_app,List.append_assoc]
   exact⟨log_ok g1 s7.2,cat_sz (sz_app z1 zd) z2 ⋯,kk⟩
theorem rod_txt {l r:Fr}{x y:Mo}:moT (.rod l x r y)=[91]++(frT l++([58]++(moT x++([32]++(frT r++([58]++(moT y++[93]))))))):=by simp[moT]
def sp_written (n:Nat):Sp:=fun vs H Q E=>∃ d p m s,vs=[.ref d,.str (mkS p)]/\RowsAt H d m/\m.sub p=some s/\s.depth<n/\p.length+n<=1000/\LoM s/\s.All S19 S19/\(moT s).length<=240000/\Q (.str (mkS (moT s))) H
theorem sc__law_written:Zb0 ["_law_rows","_law_place","_law_row","_law_left","_law_right"] ["_law_rows","_law_place"] (Za6 (top 65)):=nofun
theorem ok_written (A:Adr K mg) {f:Addr}{fd:FuncData}(F:Fun K "_law_written" "_law_written" (top 65) f fd) (DF:∀ k sp,FnOk P w K mg base (CX1 P w) k f fd ["_law_rows","_law_place"] sp->Fnc P w K mg base "_law_written" k ["_law_rows","_law_place"] [] sp)
  (F__law_number:Fnc P w K mg base "_law_number" 1 ["_law_one"] [] sp_shnum):∀ n,FnOk P w K mg base (CX1 P w) (n+3) f fd ["_law_rows","_law_place"] (sp_written n):=by
 have S:=sc__law_written
 have len:∀ n vs H Q E,sp_written n vs H Q E->vs.length=2:=by
  rintro n vs H Q E ⟨d,p,m,s,rfl,_⟩
  rfl
 intro n
 induction n with
 | zero=>
  refine F.okN S (len 0) (fun cdv A' outer s H vs Q E hr h=>?_)
  obtain⟨d,p,m,s,rfl,hd,hp,hn,_⟩:=h
  omega
 | succ n ih=>
  have F__law_written:=DF _ _ ih
  refine F.okN S (len (n+1)) (fun cdv A' outer s H vs Q E hr h=>?_)
  obtain⟨d,p,m,s,rfl,hd,hp,hn,hpl,lo,s7,hl,kk⟩:=h
  have hr__law_number:Room 1 _:=hr.mono ∅
  have hr__law_written:Room (n+3) _:=hr
  have hu:=hu_of hr
  refine⟨_,(Za1 (Zb4 (i:=2) S.nd rfl (Or.inl rfl) (pe_dget hu (pv 0) (pv 1) (fun _ _=>rfl)))
   (Za1 (ps_if (Zb7 op_eq (Zc3 (lenK (K:=K) rfl) (by rfl) A.n_len bt_len (Za0 (pv 2) Za2)) Za3 (Zc6 _)) (Za5 (Za9 (Zc1 F__law_number hr__law_number Zc2 (Za0 (Zb6 (ixT (K:=K) rfl) (pv 2) Za3 (fun _ _=>rfl)) Za2)))) Zb9)
   (Za1 (Zb4 (i:=3) S.nd rfl (Or.inl rfl) (Zc0 Zb3 (Zc0 Zb3 (Zc1 F__law_number hr__law_number Zc2 (Za0 (Zb6 (ixT (K:=K) rfl) (pv 2) Za3 (fun _ _=>rfl)) Za2)) Zc7) (Zc1 F__law_written hr__law_written Zc2 (Za0 (pv 0) (Za0 (Zc0 Zb3 (pv 1) Zc7) Za2)))))
   (Za1 (Zb4 (i:=4) S.nd rfl (Or.inl rfl) (Zc0 Zb3 (Zc0 Zb3 (Zc1 F__law_number hr__law_number Zc2 (Za0 (Zb6 (ixT (K:=K) rfl) (pv 2) Za3 (fun _ _=>rfl)) Za2)) Zc7) (Zc1 F__law_written hr__law_written Zc2 (Za0 (pv 0) (Za0 (Zc0 Zb3 (pv 1) Zc7) Za2)))))
   (Za5 (Za9 (Zc0 Zb3 (Zc0 Zb3 (Zc0 Zb3 (Zc0 Zb3 Zc7 (pv 3)) Zc7) (pv 4)) Zc7))))))),?_⟩
  k_one
  refine rows_get hd hp fun vr hvr=>?_
  k_one
  refine len_ok (LenV.row hvr) ?_
  k_one
  cases s with
  | wt f0=>
   simp only[show ((Mo.wt f0).row.length:Int)=1 from rfl,decide_true,if_true]
   k_one
   refine row0 hvr fun x0 hx0=>?_
   k_one
   exact⟨x0,f0,rfl,hx0,lo,s7,hl,kk⟩
  | rod l x r y=>
   simp only[Mo.depth] at hn
   simp only[show ¬(((Mo.rod l x r y).row.length:Nat):Int)=1 from (by decide:¬(((2:Nat):Int)=1)),decide_false,Bool.false_eq_true,if_false]
   obtain⟨zl,zx,zr,zy⟩:=rod_len hl
   have zc:([58]:Pl).length<=1:=Nat.le_refl 1
   k_one
   refine row0 hvr fun x0 hx0=>?_
   k_one
   refine⟨x0,l,rfl,hx0,lo.1,s7.1,zl,?_⟩
   k_one
   simp only[s_colon,mkS_app]
   refine⟨cat_sz zl zc ⋯,?_⟩
   k_one
   refine⟨len_l p ∅,?_⟩
   rw[add_l]
   k_one
   refine⟨d,p++[108],m,x,rfl,hd,Mo.sub_l hp,by omega,by simp;omega,lo.2.2.1,s7.2.2.1,zx,?_⟩
   k_one
   simp only[mkS_app]
   refine⟨cat_sz (sz_app zl zc) zx ⋯,?_⟩
   k_one
   refine row1 hvr fun x1 hx1=>?_
   k_one
   refine⟨x1,r,rfl,hx1,lo.2.1,s7.2.1,zr,?_⟩
   k_one
   simp only[s_colon,mkS_app]
   refine⟨cat_sz zr zc ⋯,?_⟩
   k_one
   refine⟨len_r p ∅,?_⟩
   rw[add_r]
   k_one
   refine⟨d,p++[114],m,y,rfl,hd,Mo.sub_r hp,by omega,by simp;omega,lo.2.2.2,s7.2.2.2,zy,?_⟩
   k_one
   simp only[mkS_app]
   refine⟨cat_sz (sz_app zr zc) zy ⋯,?_⟩
   k_one
   rw[rod_txt] at kk
   simp only[s_open,s_blank,s_shut,mkS_app]
   have zo:([91]:Pl).length<=1:=Nat.le_refl 1
   have zb:([32]:Pl).length<=1:=Nat.le_refl 1
   have zs:([93]:Pl).length<=1:=Nat.le_refl 1
   have zL:=sz_app zo (sz_app (sz_app zl zc) zx)
   have zR:=sz_app (sz_app zr zc) zy
   refine⟨cat_sz zo (sz_app (sz_app zl zc) zx) ⋯,cat_sz zL zb ⋯,cat_sz (sz_app zL zb) zR ⋯,cat_sz (sz_app (sz_app zL zb) zR) zs ⋯,?_⟩
   simpa only [List.append_assoc,List.cons_append,List.nil_append] using kk
theorem sc_fraction_shown:Zb0 ["number"] ["number"] (Za6 (top 42)):=nofun
theorem ok_frshown (A:Adr K mg) {f:Addr}{fd:FuncData}(F:Fun K "fraction_shown" "fraction_shown" (top 42) f fd):FnOk P w K mg base (CX1 P w) 1 f fd ["number"] sp_shnum:=by
 have S:=sc_fraction_shown
 k_head
 ·obtain⟨v,f,rfl,_⟩:=h
  rfl
 ·obtain⟨v,f,rfl,hv,lo,s7,hl,kk⟩:=h
  have hu:=hu_of hr
  refine⟨_,(Za1 (ps_if (Zb7 op_eq (Zb6 (ixT (K:=K) rfl) (pv 0) Za3 (fun _ _=>rfl)) Za3 (Zc6 _)) (Za5 (Za9 (pe_callTy call_str_int (by rfl) A.n_str bt_str (Za0 (Zb6 (ixT (K:=K) rfl) (pv 0) Za3 (fun _ _=>rfl)) Za2)))) Zb9)
   (Za5 (Za9 (Zc0 Zb3 (Zc0 Zb3 (pe_callTy call_str_int (by rfl) A.n_str bt_str (Za0 (Zb6 (ixT (K:=K) rfl) (pv 0) Za3 (fun _ _=>rfl)) Za2)) Zc7) (pe_callTy call_str_int (by rfl) A.n_str bt_str (Za0 (Zb6 (ixT (K:=K) rfl) (pv 0) Za3 (fun _ _=>rfl)) Za2)))))),?_⟩
  have g0:=lo.t
  have g1:=lo.b
  walk_at "gm"
  by_cases hb:f.2=1
  ·simp only[hb,decide_true,if_true]
   walk_at "gm"
   have e:f=(f.1,1):=Prod.ext rfl hb
   rw[e,frT_one,←str_int ∅] at kk
   exact⟨log_ok g0 s7.1,kk⟩
  ·simp only[hb,decide_false,Bool.false_eq_true,if_false]
   walk_at "gm"
   obtain⟨z1,z2⟩:=frT_two_len hb hl
   rw[frT_two hb] at kk
   have zd:([47]:Pl).length<=1:=Nat.le_refl 1
   have es1:Str.ofString (toString f.1)=mkS (dg f.1.toNat):=str_int ∅
   have es2:Str.ofString (toString f.2)=mkS (dg f.2.toNat):=str_int ∅
   simp only[es1,s_slash,mkS_app]
   refine⟨log_ok g0 s7.1,cat_sz z1 zd ⋯,?_⟩
   walk_at "gm"
   simp only[es2,mkS_app,List.append_assoc]
   exact⟨log_ok g1 s7.2,cat_sz (sz_app z1 zd) z2 ⋯,kk⟩
def sp_shown (cW cR:Addr) (n:Nat):Sp:=fun vs H Q E=>∃ v m,vs=[v]/\Th cW cR H v m/\m.depth<=n/\LoM m/\m.All S19 S19/\(moT m).length<=240000/\Q (.str (mkS (moT m))) H
theorem sc_shown:Zb0 ["mobile","left","right"] ["mobile"] (Za6 (top 43)):=nofun
theorem ok_shown0 (A:Adr K mg) {f:Addr}{fd:FuncData}(F:Fun K "shown" "shown" (top 43) f fd) (F_fraction_shown:Fnc P w K mg base "fraction_shown" 1 ["number"] [] sp_shnum) (n k:Nat) (hk:2<=k) (sp:Sp)
  (F_shown:Fnc P w K mg base "shown" k ["mobile"] [] sp) (hsp:∀ n',n=n'+1->sp=sp_shown A.c_Weight A.c_Rod n'):FnOk P w K mg base (CX1 P w) (k+1) f fd ["mobile"] (sp_shown A.c_Weight A.c_Rod n):=by
 have S:=sc_shown
 k_head
 ·obtain⟨v,m,rfl,_⟩:=h
  rfl
 ·obtain⟨v,m,rfl,hm,hd,lo,s7,hl,kk⟩:=h
  have hr_fraction_shown:Room 1 _:=hr.mono ∅
  have hr_shown:Room _ _:=hr
  refine⟨_,(Za1 (ps_if (pt_val (Zc3 (isiK (K:=K) rfl) (by rfl) A.n_isinstance Zd1 (Za0 (pv 0) (Za0 (pe_glob (v:=.ref A.c_Weight) rfl A.g_Weight rfl) Za2)))) (Za5 (Za9 (Zc1 F_fraction_shown hr_fraction_shown Zc2 (Za0 (Zc9 (K:=K) rfl (pv 0) rfl) Za2)))) Zb9)
   (Za1 (Zb4 (i:=1) S.nd rfl (Or.inl rfl) (Zc0 Zb3 (Zc0 Zb3 (Zc1 F_fraction_shown hr_fraction_shown Zc2 (Za0 (Zc9 (K:=K) rfl (pv 0) rfl) Za2)) Zc7) (Zc1 F_shown hr_shown Zc2 (Za0 (Zc9 (K:=K) rfl (pv 0) rfl) Za2))))
   (Za1 (Zb4 (i:=2) S.nd rfl (Or.inl rfl) (Zc0 Zb3 (Zc0 Zb3 (Zc1 F_fraction_shown hr_fraction_shown Zc2 (Za0 (Zc9 (K:=K) rfl (pv 0) rfl) Za2)) Zc7) (Zc1 F_shown hr_shown Zc2 (Za0 (Zc9 (K:=K) rfl (pv 0) rfl) Za2))))
   (Za5 (Za9 (Zc0 Zb3 (Zc0 Zb3 (Zc0 Zb3 (Zc0 Zb3 Zc7 (pv 1)) Zc7) (pv 2)) Zc7)))))),?_⟩
  cases m with
  | wt f=>
   obtain⟨a,dx,u,rfl,h,hf⟩:=hm
   k_one
   refine isi_ok (.of (A.y_Weight h)) rfl A.t_WW ?_
   k_one
   refine fld_ok h A.l_Weight A.a_amount (by rfl) ?_
   k_one
   exact⟨u,f,rfl,hf,lo,s7,hl,kk⟩
  | rod l x r y=>
   obtain⟨a,dx,u1,u2,u3,u4,rfl,h,h1,h2,h3,h4⟩:=hm
   simp only[Mo.depth] at hd
   obtain⟨n',rfl⟩:∃ n',n=n'+1:=⟨n-1,by omega⟩
   have e:=hsp n' rfl
   subst e
   have dx':x.depth<=n':=by omega
   have dy':y.depth<=n':=by omega
   obtain⟨zl,zx,zr,zy⟩:=rod_len hl
   have zc:([58]:Pl).length<=1:=Nat.le_refl 1
   k_one
   refine isi_ok (.of (A.y_Rod h)) rfl A.t_RW ?_
   k_one
   refine fld_ok h A.l_Rod A.a_left_arm (by rfl) ?_
   k_one
   refine⟨u1,l,rfl,h1,lo.1,s7.1,zl,?_⟩
   k_one
   simp only[s_colon,mkS_app]
   refine⟨cat_sz zl zc ⋯,?_⟩
   k_one
   refine fld_ok h A.l_Rod A.a_left (by rfl) ?_
   k_one
   refine⟨u2,x,rfl,h2,dx',lo.2.2.1,s7.2.2.1,zx,?_⟩
   k_one
   simp only[mkS_app]
   refine⟨cat_sz (sz_app zl zc) zx ⋯,?_⟩
   k_one
   refine fld_ok h A.l_Rod A.a_right_arm (by rfl) ?_
   k_one
   refine⟨u3,r,rfl,h3,lo.2.1,s7.2.1,zr,?_⟩
   k_one
   simp only[s_colon,mkS_app]
   refine⟨cat_sz zr zc ⋯,?_⟩
   k_one
   refine fld_ok h A.l_Rod A.a_right (by rfl) ?_
   k_one
   refine⟨u4,y,rfl,h4,dy',lo.2.2.2,s7.2.2.2,zy,?_⟩
   k_one
   simp only[mkS_app]
   refine⟨cat_sz (sz_app zr zc) zy ⋯,?_⟩
   k_one
   rw[rod_txt] at kk
   simp only[s_open,s_blank,s_shut,mkS_app]
   have zo:([91]:Pl).length<=1:=Nat.le_refl 1
   have zb:([32]:Pl).length<=1:=Nat.le_refl 1
   have zs:([93]:Pl).length<=1:=Nat.le_refl 1
   have zL:=sz_app zo (sz_app (sz_app zl zc) zx)
   have zR:=sz_app (sz_app zr zc) zy
   refine⟨cat_sz zo (sz_app (sz_app zl zc) zx) ⋯,cat_sz zL zb ⋯,cat_sz (sz_app zL zb) zR ⋯,cat_sz (sz_app (sz_app zL zb) zR) zs ⋯,?_⟩
   simpa only [List.append_assoc,List.cons_append,List.nil_append] using kk
theorem ok_shown (A:Adr K mg) {f:Addr}{fd:FuncData}(F:Fun K "shown" "shown" (top 43) f fd) (DF:∀ k sp,FnOk P w K mg base (CX1 P w) k f fd ["mobile"] sp->Fnc P w K mg base "shown" k ["mobile"] [] sp)
  (F_fraction_shown:Fnc P w K mg base "fraction_shown" 1 ["number"] [] sp_shnum):∀ n,FnOk P w K mg base (CX1 P w) (n+3) f fd ["mobile"] (sp_shown A.c_Weight A.c_Rod n):=by
 intro n
 induction n with
 | zero=>exact ok_shown0 A F F_fraction_shown 0 2 (Nat.le_refl 2) _ (DF _ _ (F.okN sc_shown (fun vs H Q E (h:False)=>h.elim) (fun cdv A' outer s H vs Q E hr h=>h.elim))) (fun n' e=>by cases e)
 | succ n ih=>exact ok_shown0 A F F_fraction_shown (n+1) (n+3) ∅ _ (DF _ _ ih) (fun n' e=>by cases e;rfl)
def lv:Mo->(Pl->Bool)->Mo
 | .wt a,_=>.wt a
 | .rod l x r y,S=>bif S [] then .rod (Zd0 l (lvl l x.heft r y.heft)) (lv x fun p=>S (108::p)) (Zc8 r (lvl l x.heft r y.heft)) (lv y fun p=>S (114::p))
  else .rod l (lv x fun p=>S (108::p)) r (lv y fun p=>S (114::p))
theorem lv_heft:∀ (m:Mo) (S:Pl->Bool),(lv m S).heft=m.heft
 | .wt a,S=>rfl
 | .rod l x r y,S=>by
  have hx:=lv_heft x fun p=>S (108::p)
  have hy:=lv_heft y fun p=>S (114::p)
  unfold lv
  cases S [] <;> simp only[cond_true,cond_false,Mo.heft,hx,hy]
theorem lv_nw:∀ (m:Mo) (S:Pl->Bool),(lv m S).nw=m.nw
 | .wt a,S=>rfl
 | .rod l x r y,S=>by
  have hx:=lv_nw x fun p=>S (108::p)
  have hy:=lv_nw y fun p=>S (114::p)
  unfold lv
  cases S [] <;> simp only[cond_true,cond_false,Mo.nw,hx,hy]
theorem lv_depth:∀ (m:Mo) (S:Pl->Bool),(lv m S).depth=m.depth
 | .wt a,S=>rfl
 | .rod l x r y,S=>by
  have hx:=lv_depth x fun p=>S (108::p)
  have hy:=lv_depth y fun p=>S (114::p)
  unfold lv
  cases S [] <;> simp only[cond_true,cond_false,Mo.depth,hx,hy]
theorem lv_rps:∀ (m:Mo) (S:Pl->Bool),rps (lv m S)=rps m
 | .wt a,S=>rfl
 | .rod l x r y,S=>by
  have hx:=lv_rps x fun p=>S (108::p)
  have hy:=lv_rps y fun p=>S (114::p)
  unfold lv
  cases S [] <;> simp only[cond_true,cond_false,rps_eq,hx,hy]
theorem lv_none:∀ (m:Mo) (S:Pl->Bool),(∀ p,S p=false)->lv m S=m
 | .wt a,S,h=>rfl
 | .rod l x r y,S,h=>by
  unfold lv
  rw[h [],cond_false,lv_none x _ fun p=>h _,lv_none y _ fun p=>h _]
theorem lv_sub:∀ {m:Mo}{S:Pl->Bool}{p:Pl}{l r:Fr}{x y:Mo},m.sub p=some (.rod l x r y) ->
  (lv m S).sub p=some (lv (.rod l x r y) fun q=>S (p++q))
 | m,S,[],l,r,x,y,h=>by rw[Mo.sub_nil] at h;cases h;exact Mo.sub_nil _
 | .wt a,S,c::p,l,r,x,y,h=>by cases h
 | .rod l0 x0 r0 y0,S,c::p,l,r,x,y,h=>by
  simp only[Mo.sub] at h
  split at h
  ·rename_i h1
   subst h1
   have ih:=lv_sub (S:=fun p=>S (108::p)) h
   rw[show lv (.rod l0 x0 r0 y0) S=bif S [] then .rod (Zd0 l0 (lvl l0 x0.heft r0 y0.heft)) (lv x0 fun p=>S (108::p)) (Zc8 r0 (lvl l0 x0.heft r0 y0.heft)) (lv y0 fun p=>S (114::p)) else .rod l0 (lv x0 fun p=>S (108::p)) r0 (lv y0 fun p=>S (114::p)) from rfl]
   cases S [] <;> simpa [Mo.sub] using ih
  ·rename_i h1
   split at h
   ·rename_i h2
    subst h2
    have ih:=lv_sub (S:=fun p=>S (114::p)) h
    rw[show lv (.rod l0 x0 r0 y0) S=bif S [] then .rod (Zd0 l0 (lvl l0 x0.heft r0 y0.heft)) (lv x0 fun p=>S (108::p)) (Zc8 r0 (lvl l0 x0.heft r0 y0.heft)) (lv y0 fun p=>S (114::p)) else .rod l0 (lv x0 fun p=>S (108::p)) r0 (lv y0 fun p=>S (114::p)) from rfl]
    cases S [] <;> simpa [Mo.sub] using ih
   ·cases h
theorem lv_congr {m:Mo}{S S':Pl->Bool}(h:∀ p,S p=S' p):lv m S=lv m S':=by rw[show S=S' from funext h]
def addP (S:Pl->Bool) (p:Pl):Pl->Bool:=fun q=>S q || decide (q=p)
theorem lv_put:∀ {m:Mo}{S:Pl->Bool}{p:Pl}{l r:Fr}{x y:Mo},m.sub p=some (.rod l x r y)->S p=false ->
  (lv m S).put p (.rod (Zd0 l (lvl l x.heft r y.heft)) (lv x fun q=>S (p++108::q)) (Zc8 r (lvl l x.heft r y.heft)) (lv y fun q=>S (p++114::q)))=lv m (addP S p)
 | m,S,[],l,r,x,y,h,hS=>by
  rw[Mo.sub_nil] at h
  cases h
  have e:addP S [] []=true:=by simp[addP]
  rw[show lv (.rod l x r y) (addP S [])=bif addP S [] [] then .rod (Zd0 l (lvl l x.heft r y.heft)) (lv x fun p=>addP S [] (108::p)) (Zc8 r (lvl l x.heft r y.heft)) (lv y fun p=>addP S [] (114::p)) else .rod l (lv x fun p=>addP S [] (108::p)) r (lv y fun p=>addP S [] (114::p)) from rfl,e,cond_true]
  rw[lv_congr (m:=x) (S:=fun p=>addP S [] (108::p)) (S':=fun q=>S ([]++108::q)) (fun p=>by simp[addP]),lv_congr (m:=y) (S:=fun p=>addP S [] (114::p)) (S':=fun q=>S ([]++114::q)) (fun p=>by simp[addP])]
  simp[Mo.put]
 | .wt a,S,c::p,l,r,x,y,h,hS=>by cases h
 | .rod l0 x0 r0 y0,S,c::p,l,r,x,y,h,hS=>by
  simp only[Mo.sub] at h
  have e0:addP S (c::p) []=S []:=by simp[addP]
  have hd:∀ T:Pl->Bool,lv (.rod l0 x0 r0 y0) T=bif T [] then .rod (Zd0 l0 (lvl l0 x0.heft r0 y0.heft)) (lv x0 fun p=>T (108::p)) (Zc8 r0 (lvl l0 x0.heft r0 y0.heft)) (lv y0 fun p=>T (114::p)) else .rod l0 (lv x0 fun p=>T (108::p)) r0 (lv y0 fun p=>T (114::p)):=fun T=>rfl
  rw[hd S,hd (addP S (c::p)),e0]
  split at h
  ·rename_i h1
   subst h1
   have ih:=lv_put (S:=fun p=>S (108::p)) h hS
   have ey:lv y0 (fun p_1=>addP S (108::p) (114::p_1))=lv y0 fun p=>S (114::p):=lv_congr fun p=>by simp[addP]
   have ex:lv x0 (fun p_1=>addP S (108::p) (108::p_1))=lv x0 (addP (fun p=>S (108::p)) p):=lv_congr fun q=>by simp[addP]
   rw[ex,ey,←ih]
   cases S [] <;> simp[Mo.put]
  ·rename_i h1
   split at h
   ·rename_i h2
    subst h2
    have ih:=lv_put (S:=fun p=>S (114::p)) h hS
    have ex:lv x0 (fun p_1=>addP S (114::p) (108::p_1))=lv x0 fun p=>S (108::p):=lv_congr fun p=>by simp[addP]
    have ey:lv y0 (fun p_1=>addP S (114::p) (114::p_1))=lv y0 (addP (fun p=>S (114::p)) p):=lv_congr fun q=>by simp[addP]
    rw[ex,ey,←ih]
    cases S [] <;> simp[Mo.put]
   ·cases h
theorem lv_all {Pr A A':Fr->Prop}(hA:∀ a,A a->A' a):∀ {m:Mo}{S:Pl->Bool},m.All Pr A->(∀ {l r:Fr}{x y:Mo}{p:Pl},m.sub p=some (.rod l x r y)->A' (Zd0 l (lvl l x.heft r y.heft))/\A' (Zc8 r (lvl l x.heft r y.heft)))->(lv m S).All Pr A'
 | .wt a,S,h,_=>h
 | .rod l x r y,S,h,k=>by
  have hx:=lv_all hA (S:=fun p=>S (108::p)) h.2.2.1 (fun {l r x y p} e=>k (p:=108::p) (by simpa [Mo.sub] using e))
  have hy:=lv_all hA (S:=fun p=>S (114::p)) h.2.2.2 (fun {l r x y p} e=>k (p:=114::p) (by simpa [Mo.sub] using e))
  have k0:=k (p:=[]) rfl
  unfold lv
  cases S []
  ·exact⟨hA _ h.1,hA _ h.2.1,hx,hy⟩
  ·exact⟨k0.1,k0.2,hx,hy⟩
theorem lv_pull {m:Mo}{S:Pl->Bool}{p:Pl}{l r:Fr}{x y:Mo}(h:m.sub p=some (.rod l x r y)) :
  pullP (lv m S) p=if S p=true then (p,Zb1 (Zd0 l (lvl l x.heft r y.heft)) x.heft,Zb1 (Zc8 r (lvl l x.heft r y.heft)) y.heft) else pullP m p:=by
 have e:=lv_sub (S:=S) h
 unfold pullP
 rw[e,h]
 unfold lv
 simp only[List.append_nil]
 cases S p
 ·simp only[cond_false,Bool.false_eq_true,if_false,lv_heft]
 ·simp only[cond_true,if_true,lv_heft]
theorem lv_level {m:Mo}(hg:Good 64 m) {S:Pl->Bool}(hS:∀ p∈tips (Zb5 m),S p=true):tips (Zb5 (lv m S))=[]:=by
 rw[tips_rps,lv_rps,List.filter_eq_nil_iff]
 intro p hp
 obtain⟨l,x,r,y,h⟩:=rps_rod hp
 obtain⟨al,ar,gx,gy⟩:=Mo.All.sub hg h
 rw[lv_pull h]
 have hl:=lvl_lw (ar_lp al) (ar_lp ar) (heft_lp gx) (heft_lp gy)
 have lev:=(shift_level (ar_lp al) (ar_lp ar) (heft_lp gx) (heft_lp gy) hl).mpr rfl
 by_cases c:S p=true
 ·rw[if_pos c,lev]
  simp[tipE]
 ·rw[if_neg c]
  intro ht
  exact c (hS p (by rw[tips_rps];exact List.mem_filter.mpr ⟨hp,ht⟩))
theorem DeedV.kp {H H':Hp}{w:V}{de:Deed}(h:DeedV H w de) (k:Kp H H'):DeedV H' w de:=by
 cases de with
 | put q a=>obtain⟨p,u,h1,h2,h3⟩:=h;exact⟨p,u,h1,k.tup _ _ h2,h3.kp k⟩
 | shift q a=>obtain⟨p,u,h1,h2,h3⟩:=h;exact⟨p,u,h1,k.tup _ _ h2,h3.kp k⟩
theorem HeftD.at {H:Hp}{e:Addr}{m:Mo}{p:Pl}{s:Mo}{Q:VK}(h:HeftD H e m 1000 0) (hs:m.sub p=some s) (q:∀ v,FrV H v s.heft->Q v H):rDGet (.ref e) (.str (mkS p)) H Q:=by
 obtain⟨j,hj⟩:=List.mem_iff_getElem?.mp ((Mo.mem_places m p).mpr ⟨s,hs⟩)
 exact h.get (Nat.zero_le _) hj hs q
theorem HeftD.keep {H H':Hp}{e:Addr}{m:Mo}{k j:Nat}(h:HeftD H e m k j) (kp:Kp H H') (s:∀ o,H e=some o->H' e=some o):HeftD H' e m k j:=by
 obtain⟨kvs,h1,h2,h3⟩:=h
 exact⟨kvs,s _ h1,h2,fun i p t a b c=>let ⟨v,z1,z2⟩:=h3 i p t a b c;⟨v,z1,z2.kp kp⟩⟩
def lvlAt (m:Mo) (p:Pl):Fr:=match m.sub p with | some (.rod l x r y)=>lvl l x.heft r y.heft | _=>(0,1)
def shiftsOf (m:Mo) (ps:List Pl):List Deed:=ps.map fun p=>.shift p (lvlAt m p)
def findFit (m:Mo):List Pl->Option (Pl×Fr)
 | []=>none
 | p::ps=>match m.sub p with
  | some (.wt a)=>(match fitM m p a with | some f=>some (p,f) | none=>findFit m ps)
  | _=>findFit m ps
def mendsM (m:Mo):List Deed:=if tips (Zb5 m)=[] then [] else match findFit m m.places with
 | some (p,f)=>[.put p f]
 | none=>shiftsOf m (tips (Zb5 m))
theorem find_cons (m:Mo) (q:Pl) (ps:List Pl):findFit m (q::ps)=match m.sub q with
  | some (.wt a)=>(match fitM m q a with | some f=>some (q,f) | none=>findFit m ps)
  | _=>findFit m ps:=rfl
theorem find_snoc {m:Mo}{p:Pl}:∀ {ps:List Pl},findFit m ps=none->findFit m (ps++[p])=findFit m [p]
 | [],_=>rfl
 | q::ps,h=>by
  rw[find_cons] at h
  rw[List.cons_append,find_cons]
  split at h
  ·split at h
   ·cases h
   ·exact find_snoc h
  ·exact find_snoc h
theorem find_app {m:Mo}{ps qs:List Pl}{r:Pl×Fr}:findFit m ps=some r->findFit m (ps++qs)=some r:=by
 induction ps with
 | nil=>intro h;cases h
 | cons q ps ih=>
  intro h
  rw[find_cons] at h
  rw[List.cons_append,find_cons]
  split at h
  ·split at h
   ·exact h
   ·exact ih h
  ·exact ih h
def sp_shiftsof (cW cR:Addr):Sp:=fun vs H Q E=>∃ lt ut v m,vs=[.ref lt,v]/\Th cW cR H v m/\H lt=some (.lst ut)/\Told H ut (Zb5 m)/\m.depth<=64/\m.nw<=100/\Good 64 m /\
 ∀ l us H',H l=none->Same H H'->H' l=some (.lst us)->Paired (DeedV H') us (shiftsOf m (tips (Zb5 m)))->Q (.ref l) H'
theorem sc_shifts_of:Zb0 ["told","mobile","heft_at","found","place","left_pull","right_pull"] ["told","mobile"] (Za6 (top 37)):=nofun
theorem ok_shiftsof (A:Adr K mg) {f:Addr}{fd:FuncData}(F:Fun K "shifts_of" "shifts_of" (top 37) f fd) (F_hefts:Fnc P w K mg base "hefts" 69 ["mobile"] [] (sp_phefts A.c_Weight A.c_Rod))
  (F_levelling:Fnc P w K mg base "levelling" 4 ["left_pull","right_pull","heft"] [] sp_lvl):FnOk P w K mg base (CX1 P w) 70 f fd ["told","mobile"] (sp_shiftsof A.c_Weight A.c_Rod):=by
 have S:=sc_shifts_of
 k_head
 ·obtain⟨lt,ut,v,m,rfl,_⟩:=h
  rfl
 ·obtain⟨lt,ut,v,m,rfl,hv,hl,hT,hdp,hn,hg,k⟩:=h
  have hr_hefts:Room 69 _:=hr
  have hr_levelling:Room 4 _:=hr.mono ⋯
  have hu:=hu_of hr
  have few:=pulls_few hn
  refine⟨_,(Za1 (Zb4 (i:=2) S.nd rfl (Or.inl rfl) (Zc1 F_hefts hr_hefts Zc2 (Za0 (pv 1) Za2)))
   (Za1 (Zb4 (i:=3) S.nd rfl (Or.inl rfl) (pe_lst Za2))
   (Za1 (ps_for PassesOwn.never rfl (pi_listK (K:=K) rfl (pv 0)) (pg_tupK (K:=K) (n:=3) rfl rfl (pgs_cons (pg_name (i:=4) S.nd rfl (Or.inl rfl) (Or.inr rfl)) (pgs_cons (pg_name (i:=5) S.nd rfl (Or.inl rfl) (Or.inr rfl)) (pgs_cons (pg_name (i:=6) S.nd rfl (Or.inl rfl) (Or.inr rfl)) pgs_nil)))) (Za5 (ps_if (Zb7 (op_neF hu) (pv 5) (pv 6) (Zc6 _)) (Za5 (ps_expr (pe_bm PySem.F.plainAttrs_list PySem.F.slot_list_append PySem.F.type_list_append mt_append (pv 3) (Za0 (pe_tup (Za0 Zc7 (Za0 (pv 4) (Za0 (Zc1 F_levelling hr_levelling Zc2 (Za0 (pv 5) (Za0 (pv 6) (Za0 (pe_dget hu (pv 2) (pv 4) (fun _ _=>rfl)) Za2)))) Za2)))) Za2)))) Zb9)))
   (Za5 (Za9 (pv 3)))))),?_⟩
  k_one
  refine⟨v,m,rfl,hv,hdp,hn,good_gq hg,fun eh H1 heh sm1 hH=>?_⟩
  k_one
  refine⟨by decide,fun fl hfl=>?_⟩
  k_one
  have sm0:=sm1.trans (Za7 (o:=.lst []) hfl)
  have hHf:H fl=none:=by
   cases z:H fl with
   | none=>rfl
   | some o=>rw[sm1 _ _ z] at hfl;cases hfl
  refine⟨⟨_,SqL.of (sm0 _ _ hl)⟩,?_⟩
  refine for_listN (xs:=ut) (fun i σ H'=>∃ us o4 o5 o6,σ=[some (.ref lt),some v,some (.ref eh),some (.ref fl),o4,o5,o6]/\Same H H'/\HeftD H' eh m 1000 0/\H' fl=some (.lst us)/\Paired (DeedV H') us (shiftsOf m (tips ((Zb5 m).take i))))
   ⟨[],none,none,none,rfl,sm0,hH.same (Za7 hfl),Za4,.nil⟩ ?_ ?_ ?_
  ·rintro i σ H' hi ⟨us,o4,o5,o6,rfl,sm,_⟩
   exact SqL.of (sm _ _ hl)
  ·rintro i x σ H' N hx ⟨us,o4,o5,o6,rfl,sm,hH',hfl',hP⟩ hN
   obtain⟨pe,he1,b1,v1,v2,rfl,hb1,hv1,hv2⟩:=hT.get hx
   have hpm:pe∈Zb5 m:=List.mem_of_getElem? he1
   have hsn:=tips_snoc he1
   rw[pullsM_rps] at hpm
   obtain⟨p,hpr,rfl⟩:=List.mem_map.mp hpm
   obtain⟨lf,x,rf,y,hs⟩:=mem_rps hpr
   have e3:pullP m p=(p,Zb1 lf x.heft,Zb1 rf y.heft):=by unfold pullP;rw[hs]
   rw[e3] at hb1 hv1 hv2 hsn
   have gt:=Mo.All.sub hg hs
   have tn:=Mo.sub_nw hs
   simp only[Mo.nw] at tn
   have us200:us.length<=1000:=by
    have z1:=hP.length
    have z2:=tips_le ((Zb5 m).take i)
    rw[List.length_take] at z2
    unfold shiftsOf at z1
    rw[List.length_map] at z1
    omega
   k_one
   refine⟨_,SqT.of (sm _ _ hb1),rfl,_,_,rfl,_,_,rfl,_,_,rfl,rfl,?_⟩
   refine⟨_,_,_,_,hv1.same sm,hv2.same sm,_,rfl,?_⟩
   show if tipE (p,Zb1 lf x.heft,Zb1 rf y.heft)=true then _ else _
   by_cases ht:tipE (p,Zb1 lf x.heft,Zb1 rf y.heft)=true
   ·rw[if_pos ht] at hsn ⊢
    refine⟨.inl ⟨rfl,us,SqL.of hfl'⟩,hH'.at hs fun v3 f3=>?_⟩
    refine⟨v1,v2,v3,lf,x,rf,y,rfl,hv1.same sm,hv2.same sm,f3,gt,by omega,fun v4 H2 sm2 f4=>⟨by decide,fun tp htp=>?_⟩⟩
    have sP:=Za7 (o:=.tup [.str "shift",.str (mkS p),v4]) htp
    have eP:upd H2 tp (.tup [.str "shift",.str (mkS p),v4]) tp=some (.tup [.str "shift",.str (mkS p),v4]):=Za4
    have hfl4:=sP _ _ (sm2 _ _ hfl')
    refine⟨fl,us,_,rfl,rfl,hfl4,by rw[sizeLine_eq];omega,?_⟩
    have kL:Kp (upd H2 tp (.tup [.str "shift",.str (mkS p),v4])) (upd (upd H2 tp (.tup [.str "shift",.str (mkS p),v4])) fl (.lst (us++[.ref tp]))):=.lst hfl4
    have kA:=(sm2.kp.trans sP.kp).trans kL
    have sA:Same H (upd (upd H2 tp (.tup [.str "shift",.str (mkS p),v4])) fl (.lst (us++[.ref tp]))):=fun b o z=>by
     rw[Zb8 (Za8 z hHf)]
     exact sP _ _ (sm2 _ _ (sm _ _ z))
    have el:lvlAt m p=lvl lf x.heft rf y.heft:=by unfold lvlAt;rw[hs]
    refine hN _ _ ⟨us++[.ref tp],_,_,_,rfl,sA,?_,Za4,?_⟩
    ·obtain⟨kve,hke,hkr⟩:=id hH'
     have nef:eh≠fl:=ne_of hke hfl' (by intro z;cases z)
     exact hH'.keep kA fun o z=>by rw[Zb8 nef];exact sP _ _ (sm2 _ _ z)
    ·rw[hsn]
     unfold shiftsOf at hP ⊢
     rw[List.map_append]
     exact paired_snoc (Paired.mapP hP fun _ _ z=>z.kp kA) ⟨tp,v4,rfl,kL.tup _ _ eP,by rw[el];exact (f4.same sP).kp kL⟩
   ·rw[if_neg ht] at hsn ⊢
    rw[List.append_nil] at hsn
    exact hN _ _ ⟨us,_,_,_,rfl,sm,hH',hfl',by rw[hsn];exact hP⟩
  ·rintro σ H' ⟨us,o4,o5,o6,rfl,sm,hH',hfl',hP⟩
   k_one
   rw[hT.len,List.take_length] at hP
   exact k fl us H' hHf sm hfl' hP
theorem find_mem {m:Mo}:∀ {ps:List Pl}{p:Pl}{f:Fr},findFit m ps=some (p,f)->p∈ps/\∃ a,m.sub p=some (.wt a)/\fitM m p a=some f
 | [],p,f,h=>by cases h
 | q::ps,p,f,h=>by
  rw[find_cons] at h
  split at h
  ·rename_i a e
   split at h
   ·rename_i g e2
    cases h
    exact⟨List.mem_cons_self ..,a,e,e2⟩
   ·obtain⟨h1,h2⟩:=find_mem h
    exact⟨List.mem_cons_of_mem _ h1,h2⟩
  ·obtain⟨h1,h2⟩:=find_mem h
   exact⟨List.mem_cons_of_mem _ h1,h2⟩
def sp_mends (cW cR:Addr):Sp:=fun vs H Q E=>∃ v m,vs=[v]/\Th cW cR H v m/\m.depth<=64/\m.nw<=100/\Gq m/\(tips (Zb5 m)=[]\/Good 64 m) /\
 ∀ l us H',H l=none->Same H H'->H' l=some (.lst us)->Paired (DeedV H') us (mendsM m)->Q (.ref l) H'
theorem sc_mends:Zb0 ["mobile","told","place","amount"] ["mobile"] (Za6 (top 38)):=nofun
theorem ok_mends (A:Adr K mg) {f:Addr}{fd:FuncData}(F:Fun K "mends" "mends" (top 38) f fd) (D_at:DAt P w K mg base A) (D0_places:DPlaces P w K mg base A) (F_pulls:Fnc P w K mg base "pulls" 70 ["mobile"] [] (sp_pulls A.c_Weight A.c_Rod))
  (F_tipping:Fnc P w K mg base "tipping" 1 ["told"] [] sp_tipping) (F_fitting_of:Fnc P w K mg base "fitting_of" 71 ["told","mobile","place"] [] (sp_fitof A.c_NoPlace A.c_Weight A.c_Rod)) (F_shifts_of:Fnc P w K mg base "shifts_of" 70 ["told","mobile"] [] (sp_shiftsof A.c_Weight A.c_Rod)) :
  FnOk P w K mg base (CX1 P w) 72 f fd ["mobile"] (sp_mends A.c_Weight A.c_Rod):=by
 have S:=sc_mends
 k_head
 ·obtain⟨v,m,rfl,_⟩:=h
  rfl
 ·obtain⟨v,m,rfl,hv,hdp,hn,hq,hgl,k⟩:=h
  have hr_pulls:Room 70 _:=hr.mono ⋯
  have hr_tipping:Room 1 _:=hr.mono ⋯
  have hr_fitting_of:Room 71 _:=hr
  have hr_shifts_of:Room 70 _:=hr.mono ⋯
  have hr_at:Room 68 _:=hr.mono ⋯
  have hr_places:Room 68 _:=hr.mono ⋯
  have hu:=hu_of hr
  have back:∀ {H1:Hp} {l:Addr},Same H H1->H1 l=none->H l=none:=fun {H1 l} sm hl=>by
   cases z:H l with
   | none=>rfl
   | some o=>rw[sm _ _ z] at hl;cases hl
  refine⟨_,(Za1 (Zb4 (i:=1) S.nd rfl (Or.inl rfl) (Zc1 F_pulls hr_pulls Zc2 (Za0 (pv 0) Za2)))
   (Za1 (ps_if (Zb7 (op_eqSLK (K:=K) rfl hu) (Zc1 F_tipping hr_tipping Zc2 (Za0 (pv 1) Za2)) (pe_lst Za2) (Zc6 _)) (Za5 (Za9 (pe_lst Za2))) Zb9)
   (Za1 (ps_for PassesOwn.never rfl (pi_listK (K:=K) rfl (pe_m0 D0_places hr_places Zc2 (pv 0))) (pg_name (i:=2) S.nd rfl (Or.inl rfl)) (Za5 (ps_if (pt_val (Zc3 (isiK (K:=K) rfl) (by rfl) A.n_isinstance Zd1 (Za0 (pe_m D_at hr_at Zc2 (pv 0) (Za0 (pv 2) Za2)) (Za0 (pe_glob (v:=.ref A.c_Weight) rfl A.g_Weight rfl) Za2)))) (Za1 (Zb4 (i:=3) S.nd rfl (Or.inl rfl) (Zc1 F_fitting_of hr_fitting_of Zc2 (Za0 (pv 1) (Za0 (pv 0) (Za0 (pv 2) Za2)))))
   (Za5 (ps_if (pt_cmp (pc_notN (pv 3))) (Za5 (Za9 (pe_lst (Za0 (pe_tup (Za0 Zc7 (Za0 (pv 2) (Za0 (pv 3) Za2)))) Za2)))) Zb9))) Zb9)))
   (Za5 (Za9 (Zc1 F_shifts_of hr_shifts_of Zc2 (Za0 (pv 1) (Za0 (pv 0) Za2)))))))),?_⟩
  k_one
  refine⟨v,m,rfl,hv,hdp,hn,hq,fun lt ut H1 hlt sm1 elt hT=>?_⟩
  k_one
  refine⟨lt,ut,_,rfl,elt,hT,pulls_few hn,fun t H2 ht sm2 et=>?_⟩
  k_one
  refine⟨by decide,fun z hz=>?_⟩
  have sz:=Za7 (o:=.lst []) hz
  have et3:=sz _ _ et
  refine⟨t,z,(tips (Zb5 m)).map mkS,[],rfl,rfl,SqL.of et3,SqL.of Za4,?_⟩
  generalize upd H2 z (.lst [])=H3 at sz et3 ⊢
  have s03:=(sm1.trans sm2).trans sz
  k_one
  by_cases c0:tips (Zb5 m)=[]
  ·simp only[c0,List.map_nil,decide_true,if_true]
   k_one
   refine⟨by decide,fun l hl=>k l [] _ (back s03 hl) (s03.trans (Za7 hl)) Za4 ?_⟩
   unfold mendsM
   rw[if_pos c0]
   exact .nil
  ·have c0':¬((tips (Zb5 m)).map mkS=[]):=by simpa using c0
   have hg:Good 64 m:=hgl.resolve_left c0
   simp only[c0',decide_false,Bool.false_eq_true,if_false]
   k_one
   have elt3:=sz _ _ (sm2 _ _ elt)
   have hT3:=hT.kp (sm2.trans sz).kp
   refine dyn_okR (xs:=[]) (hv.kp s03.kp) (fun _=>by rfl) (fun _ _ _ _=>by rfl) .refl ?_ (fun S s=>s)
   refine⟨v,m,[],rfl,hv.kp s03.kp,hdp,by omega,by decide,fun l H4 hl sm4 el=>?_⟩
   have s04:=s03.trans sm4
   have el':H4 l=some (.lst ((m.places.map mkS).map .str)):=by rw[el,List.map_map];rfl
   have elt4:=sm4 _ _ elt3
   have hT4:=hT3.kp sm4.kp
   k_one
   refine⟨⟨_,SqL.of el'⟩,?_⟩
   refine for_listN (xs:=(m.places.map mkS).map .str) (fun i σ H'=>∃ o2 o3,σ=[some v,some (.ref lt),o2,o3]/\Same H4 H'/\findFit m (m.places.take i)=none) ⟨none,none,rfl,fun _ _ z=>z,rfl⟩ ?_ ?_ ?_
   ·rintro i σ H' hi ⟨o2,o3,rfl,sm,_⟩
    exact SqL.of (sm _ _ el')
   ·rintro i x σ H' N hx ⟨o2,o3,rfl,sm,hnone⟩ hN
    rw[List.getElem?_map,List.getElem?_map] at hx
    cases hp:m.places[i]? with
    | none=>rw[hp] at hx;cases hx
    | some p=>
     rw[hp] at hx
     cases hx
     obtain⟨tt,htt⟩:=(Mo.mem_places m p).mp (List.mem_of_getElem? hp)
     have hpl:=sub_len htt
     have hsn:findFit m (m.places.take (i+1))=findFit m [p]:=by
      rw[List.take_succ,hp]
      exact find_snoc hnone
     have s0':=s04.trans sm
     k_one
     refine dyn_okR (xs:=[.str (mkS p)]) (hv.kp s0'.kp) (fun _=>by rfl) (fun _ _ _ _=>by rfl) .refl ?_ (fun S s=>s)
     refine⟨v,m,p,rfl,hv.kp s0'.kp,hdp,by omega,(fun v' t' e' th=>?_),fun z=>by rw[htt] at z;cases z⟩
     rw[htt] at e'
     cases e'
     k_one
     cases tt with
     | rod lf x rf y=>
      obtain⟨b,dx,u1,u2,u3,u4,rfl,hb,_⟩:=th
      refine isi_ok (.of (A.y_Rod hb)) rfl A.t_RW ?_
      k_one
      exact hN _ _ ⟨_,_,rfl,sm,by rw[hsn,find_cons,htt];rfl⟩
     | wt a=>
      obtain⟨b,dx,u,rfl,hb,hua⟩:=th
      refine isi_ok (.of (A.y_Weight hb)) rfl A.t_WW ?_
      k_one
      refine⟨lt,ut,v,m,p,rfl,hv.kp s0'.kp,sm _ _ elt4,hT4.kp sm.kp,hdp,hn,hg,by omega,fun a' e' v' H5 sm5 hf=>?_,fun z=>absurd htt (z a)⟩
      rw[htt] at e'
      cases e'
      have s05:=s0'.trans sm5
      k_one
      cases hfit:fitM m p a with
      | none=>
       rw[hfit] at hf
       have hv':v' = .non:=hf
       subst hv'
       simp only[L2.tNotN]
       k_one
       exact hN _ _ ⟨_,_,rfl,sm.trans sm5,by rw[hsn,find_cons,htt];dsimp only;rw[hfit];rfl⟩
      | some f=>
       rw[hfit] at hf
       obtain⟨pf,rfl,hpf⟩:=(show FrV H5 v' f from hf)
       simp only[L2.tNotN]
       k_one
       refine⟨by decide,fun p1 hp1=>⟨by decide,fun p2 hp2=>?_⟩⟩
       have s1:=Za7 (o:=.tup [.str "put",.str (mkS p),.ref pf]) hp1
       have s2:=Za7 (o:=.lst [.ref p1]) hp2
       have s07:=(s05.trans s1).trans s2
       refine k p2 [.ref p1] _ (back (s05.trans s1) hp2) s07 Za4 ?_
       have hfind:findFit m m.places=some (p,f):=by
        have h1:findFit m (m.places.take (i+1))=some (p,f):=by rw[hsn,find_cons,htt];dsimp only;rw[hfit]
        have:=find_app (qs:=m.places.drop (i+1)) h1
        rwa [List.take_append_drop] at this
       unfold mendsM
       rw[if_neg c0,hfind]
       exact .cons ⟨p1,.ref pf,rfl,s2 _ _ Za4,pf,rfl,s2 _ _ (s1 _ _ hpf)⟩ .nil
   ·rintro σ H' ⟨o2,o3,rfl,sm,hnone⟩
    have s0':=s04.trans sm
    k_one
    rw[List.length_map,List.length_map,List.take_length] at hnone
    refine⟨lt,ut,v,m,rfl,hv.kp s0'.kp,sm _ _ elt4,hT4.kp sm.kp,hdp,hn,hg,fun l2 us H5 hl2 sm5 el2 hP=>?_⟩
    refine k l2 us H5 (back s0' hl2) (s0'.trans sm5) el2 ?_
    unfold mendsM
    rw[if_neg c0,hnone]
    exact hP
theorem prefs_mem {q p:Pl}:∀ {c:Nat}{t:Pl},q=p++c::t->p∈prefs q:=by
 intro c t h
 subst h
 have:p.length<(p++c::t).length:=by simp
 have h:=prefs_get this
 rw[List.take_left'] at h
 ·exact List.mem_of_getElem? h
 ·rfl
theorem want_last_l {a l r y:Fr}(ha:Lp a) (hl:Lp l) (hr:Lp r) (hy:Lp y):0<(want a 108 l a r y).1:=by
 rw[←rq_pos (want_lw ha.lw hl hr ha.lw hy.lw),rq_want ha.lw hl hr ha.lw hy.lw,rq_lackl hl hr ha.lw hy.lw]
 have nl:=rq_ne hl
 have pl:=(rq_pos hl.lw).mpr hl.t
 have pr:=(rq_pos hr.lw).mpr hr.t
 have py:=(rq_pos hy.lw).mpr hy.t
 have e:rq a+(rq r*rq y-rq l*rq a) / rq l=rq r*rq y*(rq l)⁻¹:=by rw[Rat.div_def];grind
 rw[e]
 exact Rat.mul_pos (Rat.mul_pos pr py) (Rat.inv_pos.mpr pl)
theorem want_last_r {a l r x:Fr}(ha:Lp a) (hl:Lp l) (hr:Lp r) (hx:Lp x):0<(want a 114 l x r a).1:=by
 rw[←rq_pos (want_lw ha.lw hl hr hx.lw ha.lw),rq_want ha.lw hl hr hx.lw ha.lw,rq_lackr hl hr hx.lw ha.lw]
 have nr:=rq_ne hr
 have pl:=(rq_pos hl.lw).mpr hl.t
 have pr:=(rq_pos hr.lw).mpr hr.t
 have px:=(rq_pos hx.lw).mpr hx.t
 have e:rq a+(rq l*rq x-rq r*rq a) / rq r=rq l*rq x*(rq r)⁻¹:=by rw[Rat.div_def];grind
 rw[e]
 exact Rat.mul_pos (Rat.mul_pos pl px) (Rat.inv_pos.mpr pr)
structure FitOk (m:Mo) (q:Pl) (f:Fr):Prop where
 pos:0<f.1
 qb:∃ d:Int,0<d/\d<=2 ^ 32/\Qb (DD*d) WB f
 wants:∀ p∈prefs q,wantP m q p=f
 off:offT m q=[]
theorem fit_ok {m:Mo}{q:Pl}{a f:Fr}(hg:Good 64 m) (hn:m.nw<=100) (hs:m.sub q=some (.wt a)) (ht:tips (Zb5 m)≠[]) (hf:fitM m q a=some f):FitOk m q f:=by
 have hW:wantFs m q=(prefs q).map (wantP m q):=by unfold wantFs wantsM;rw[List.map_map];rfl
 have ga:Am 64 a:=Mo.All.sub hg hs
 have la:Lp a:=⟨ga.t,(Qb.of_bd ga.bd (gD_pos _) ga.g).lw⟩
 have htp:tips (Zb5 m)=prefs q:=by
  unfold fitM at hf
  rw[if_neg ht] at hf
  split at hf
  ·assumption
  ·cases hf
 have hqn:q≠[]:=by
  intro e
  rw[e] at htp
  exact ht htp
 rw[fit_eq hg hs] at hf
 split at hf
 ·rename_i hc
  cases hf
  have all:∀ p∈prefs q,wantP m q p=dueOf m q a:=by
   intro p hp
   have:wantP m q p∈wantFs m q:=by rw[hW];exact List.mem_map.mpr ⟨p,hp,rfl⟩
   rw[hc.2] at this
   exact List.eq_of_mem_replicate this
  obtain⟨p0,c0,hq0⟩:∃ p0 c0,q=p0++c0::[]:=by
   rcases List.eq_nil_or_concat q with e | ⟨p0,c0,e⟩
   ·exact absurd e hqn
   ·exact⟨p0,c0,by simpa using e⟩
  have hp0:=prefs_mem hq0
  obtain⟨l,x,r,y,c,t,h1,h2,h3⟩:=way_rod hs hp0
  obtain⟨al,ar,gx,gy⟩:=Mo.All.sub hg h1
  have tn:=Mo.sub_nw h1
  simp only[Mo.nw] at tn
  have hct:c0::[]=c::t:=by
   have:=h2.symm.trans hq0
   exact (List.append_cancel_left this).symm
  cases hct
  have e1:wantP m q p0=want a c0 l x.heft r y.heft:=by
   unfold wantP
   rw[hs,h1]
   dsimp only
   rw[h2,signAt_app]
  refine⟨?_,?_,all,hc.1⟩
  ·rw[←all p0 hp0,e1]
   rcases h3 with⟨rfl,h4⟩ | ⟨rfl,h4⟩
   ·rw[Mo.sub_nil] at h4
    cases h4
    exact want_last_l la (ar_lp al) (ar_lp ar) (heft_lp gy)
   ·rw[Mo.sub_nil] at h4
    cases h4
    exact want_last_r la (ar_lp al) (ar_lp ar) (heft_lp gx)
  ·rw[←all p0 hp0,e1]
   exact want_qb (Mo.All.sub hg hs) al ar gx gy ∅
 ·cases hf
theorem put_all_level {m:Mo}{q:Pl}{a f:Fr}(hg:Good 64 m) (hs:m.sub q=some (.wt a)) (h:FitOk m q f):tips (Zb5 (m.put q (.wt f)))=[]:=by
 obtain⟨d,d0,d1,bq⟩:=h.qb
 rw[tips_rps,rps_put hs (by rw[rps_wt,rps_wt]),List.filter_eq_nil_iff]
 intro p hp ht
 cases hx:p.isPrefixOf q with
 | true=>
  have hpp:p∈prefs q:=by rw[←rps_pre hs];exact List.mem_filter.mpr ⟨hp,hx⟩
  have:=(put_on hg hs hpp bq.lw).mpr (h.wants p hpp)
  unfold tipE at ht
  rw[this] at ht
  simp at ht
 | false=>
  rw[put_off hs hp hx] at ht
  have ho:=h.off
  rw[offT_rps,List.filter_eq_nil_iff] at ho
  exact ho p hp (by rw[ht,hx];rfl)
def mendedM (m:Mo):Mo:=if tips (Zb5 m)=[] then m else match findFit m m.places with
 | some (p,f)=>m.put p (.wt f)
 | none=>lv m fun q=>decide (q∈tips (Zb5 m))
structure Run (m:Mo) (ds:List Deed) (st:Nat->Mo):Prop where
 zero:st 0=m
 last:st ds.length=mendedM m
 out:∀ (i:Nat) d,ds[i]? = some d->outOf (st i) d = .ok (st (i+1))
 dep:∀ i,(st i).depth<=64/\(st i).nw<=100
 all:∀ i,(st i).All (fun _=>True) Bg
 arm:∀ (i:Nat) q a,ds[i]? = some (.shift q a)->∀ l x r y,(st i).sub q=some (.rod l x r y)->Ar l/\Ar r
 fits:∀ d∈ds,d.fits/\d.place.length<=4096
theorem rps_nodup:∀ m:Mo,(rps m).Nodup
 | .wt a=>by rw[rps_wt];exact .nil
 | .rod l x r y=>by
  rw[rps_eq]
  have hx:=rps_nodup x
  have hy:=rps_nodup y
  refine List.nodup_cons.mpr ⟨by simp,List.nodup_append.mpr ⟨List.pairwise_map.mpr (hx.imp fun h z=>h (List.cons.inj z).2),List.pairwise_map.mpr (hy.imp fun h z=>h (List.cons.inj z).2),?_⟩⟩
  intro a ha b hb e
  obtain⟨p,_,rfl⟩:=List.mem_map.mp ha
  obtain⟨q,_,rfl⟩:=List.mem_map.mp hb
  exact absurd (List.cons.inj e).1 ⋯
theorem tips_nodup (m:Mo):(tips (Zb5 m)).Nodup:=by rw[tips_rps];exact (rps_nodup m).filter _
theorem tips_rod {m:Mo}{p:Pl}(h:p∈tips (Zb5 m)):∃ l x r y,m.sub p=some (.rod l x r y):=by
 rw[tips_rps] at h
 exact rps_rod (List.mem_filter.mp h).1
theorem bg_plus {l f:Fr}(hl:Ar l) (hf:0<f.2) (s1:Sm 1400 f.1) (s2:Sm 1400 f.2) (h:0<(Zd0 l f).1):Bg (Zd0 l f):=by
 have sl:=hl.small
 have q:=low_sm (n:=1500) (Int.mul_pos hl.b hf) ((Sm.add (n:=1450) ((Sm.mul sl.1 s2).mono ⋯) ((Sm.mul s1 sl.2).mono ⋯)).mono ⋯) ((Sm.mul sl.2 s2).mono ⋯)
 exact⟨h,(Lw.plus hl.b hf).b,q.1.mono ⋯,q.2.mono ⋯⟩
theorem bg_minus {r f:Fr}(hl:Ar r) (hf:0<f.2) (s1:Sm 1400 f.1) (s2:Sm 1400 f.2) (h:0<(Zc8 r f).1):Bg (Zc8 r f):=by
 have sl:=hl.small
 have q:=low_sm (n:=1500) (Int.mul_pos hl.b hf) ((Sm.sub (n:=1450) ((Sm.mul sl.1 s2).mono ⋯) ((Sm.mul s1 sl.2).mono ⋯)).mono ⋯) ((Sm.mul sl.2 s2).mono ⋯)
 exact⟨h,(Lw.minus hl.b hf).b,q.1.mono ⋯,q.2.mono ⋯⟩
structure LvOk (l r f:Fr):Prop where
 lw:Lw f
 s1:Sm 1400 f.1
 s2:Sm 1400 f.2
 p:0<(Zd0 l f).1
 m:0<(Zc8 r f).1
theorem lv_ok {m:Mo}{p:Pl}{l r:Fr}{x y:Mo}(hg:Good 64 m) (hn:m.nw<=100) (h:m.sub p=some (.rod l x r y)):Ar l/\Ar r/\LvOk l r (lvl l x.heft r y.heft):=by
 obtain⟨al,ar,gx,gy⟩:=Mo.All.sub hg h
 have tn:=Mo.sub_nw h
 simp only[Mo.nw] at tn
 have fl:=lvl_small al ar gx gy ∅
 have fp:=lvl_pos (ar_lp al) (ar_lp ar) (heft_lp gx) (heft_lp gy)
 exact⟨al,ar,lvl_lw (ar_lp al) (ar_lp ar) (heft_lp gx) (heft_lp gy),fl.1,fl.2,fp.1,fp.2⟩
theorem lv_bg {m:Mo}(hg:Good 64 m) (hn:m.nw<=100) (S:Pl->Bool):(lv m S).All (Am 64) Bg:=by
 refine lv_all (fun _ z=>ar_bg z) hg fun {l r x y p} h=>?_
 obtain⟨al,ar,fl⟩:=lv_ok hg hn h
 exact⟨bg_plus al fl.lw.b fl.s1 fl.s2 fl.p,bg_minus ar fl.lw.b fl.s1 fl.s2 fl.m⟩
theorem good_bg {m:Mo}(hg:Good 64 m):m.All (Am 64) Bg:=Mo.All.mono (fun _ z=>z) (fun _ z=>ar_bg z) hg
theorem all_tr {Pr:Fr->Prop}{A:Fr->Prop}{m:Mo}(h:m.All Pr A):m.All (fun _=>True) A:=Mo.All.mono (fun _ _=>trivial) (fun _ z=>z) h
theorem lv_rod (l r:Fr) (x y:Mo) (S:Pl->Bool):lv (.rod l x r y) S=bif S [] then .rod (Zd0 l (lvl l x.heft r y.heft)) (lv x fun p=>S (108::p)) (Zc8 r (lvl l x.heft r y.heft)) (lv y fun p=>S (114::p))
  else .rod l (lv x fun p=>S (108::p)) r (lv y fun p=>S (114::p)):=rfl
theorem mends_run {m:Mo}(hg:Good 64 m) (hn:m.nw<=100) (hdp:m.depth<=64):∃ st,Run m (mendsM m) st:=by
 by_cases c0:tips (Zb5 m)=[]
 ·have e:mendsM m=[]:=by unfold mendsM;rw[if_pos c0]
  refine⟨fun _=>m,rfl,?_,?_,fun _=>⟨hdp,hn⟩,fun _=>all_tr (good_bg hg),?_,?_⟩
  ·unfold mendedM
   rw[if_pos c0]
  ·intro i d h;rw[e] at h;simp at h
  ·intro i q a h;rw[e] at h;simp at h
  ·intro d h;rw[e] at h;simp at h
 ·cases hf:findFit m m.places with
  | some r=>
   obtain⟨p,f⟩:=r
   obtain⟨_,a,hs,hfit⟩:=find_mem hf
   have fo:=fit_ok hg hn hs c0 hfit
   obtain⟨d,d0,d1,bq⟩:=fo.qb
   have bs:=wq_small bq d0 d1
   have e:mendsM m=[.put p f]:=by unfold mendsM;rw[if_neg c0,hf]
   have em:mendedM m=m.put p (.wt f):=by unfold mendedM;rw[if_neg c0,hf]
   have hpl:=sub_len hs
   rw[e]
   refine⟨fun i=>if i=0 then m else m.put p (.wt f),rfl,em.symm,?_,?_,?_,?_,?_⟩
   ·intro i d h
    match i,h with
    | 0,h=>
     cases h
     simp only[outOf,hs,if_true]
     rw[if_pos fo.pos]
     rfl
   ·intro i
    by_cases hi:i=0
    ·simp only[hi,if_true];exact⟨hdp,hn⟩
    ·simp only[hi,if_false]
     have:=Mo.nw_put m p (.wt f) _ hs
     simp only[Mo.nw] at this
     exact⟨by rw[depth_put (s:=.wt f) hs rfl];exact hdp,by omega⟩
   ·intro i
    by_cases hi:i=0
    ·simp only[hi,if_true];exact all_tr (good_bg hg)
    ·simp only[hi,if_false];exact all_put (all_tr (good_bg hg)) trivial
   ·intro i q a h
    match i,h with
    | 0,h=>cases h
   ·intro d h
    rw[List.mem_singleton.mp h]
    exact⟨bs,by show p.length<=4096;omega⟩
  | none=>
   have e:mendsM m=shiftsOf m (tips (Zb5 m)):=by unfold mendsM;rw[if_neg c0,hf]
   have em:mendedM m=lv m fun q=>decide (q∈tips (Zb5 m)):=by unfold mendedM;rw[if_neg c0,hf]
   have at_:∀ (i:Nat) d,(shiftsOf m (tips (Zb5 m)))[i]? = some d->∃ p,(tips (Zb5 m))[i]? = some p/\d = .shift p (lvlAt m p):=by
    intro i d h
    unfold shiftsOf at h
    rw[List.getElem?_map] at h
    cases hp:(tips (Zb5 m))[i]? with
    | none=>rw[hp] at h;cases h
    | some p=>rw[hp] at h;cases h;exact⟨p,rfl,rfl⟩
   have nin:∀ {i:Nat} {p:Pl},(tips (Zb5 m))[i]? = some p->decide (p∈(tips (Zb5 m)).take i)=false:=by
    intro i p h
    rw[decide_eq_false_iff_not]
    intro hm
    obtain⟨j,hj⟩:=List.mem_iff_getElem?.mp hm
    rw[List.getElem?_take] at hj
    split at hj
    ·obtain⟨i1,x1⟩:=List.getElem?_eq_some_iff.mp h
     obtain⟨j1,x2⟩:=List.getElem?_eq_some_iff.mp hj
     have:=(List.getElem_inj (tips_nodup m)).mp (x1.trans x2.symm)
     omega
    ·cases hj
   have subp:∀ {i:Nat} {p:Pl} {l x r y},(tips (Zb5 m))[i]? = some p->m.sub p=some (.rod l x r y)->(lv m fun q=>decide (q∈(tips (Zb5 m)).take i)).sub p=some (.rod l (lv x fun q=>decide (p++108::q∈(tips (Zb5 m)).take i)) r (lv y fun q=>decide (p++114::q∈(tips (Zb5 m)).take i))):=by
    intro i p l x r y h hs
    rw[lv_sub hs,lv_rod]
    simp only[List.append_nil]
    rw[nin h,cond_false]
   rw[e]
   refine⟨fun i=>lv m fun q=>decide (q∈(tips (Zb5 m)).take i),?_,?_,?_,fun i=>⟨by rw[lv_depth];exact hdp,by rw[lv_nw];exact hn⟩,fun i=>all_tr (lv_bg hg hn _),?_,?_⟩
   ·exact lv_none m _ fun p=>by simp
   ·rw[em]
    unfold shiftsOf
    rw[List.length_map,List.take_length]
   ·intro i d h
    obtain⟨p,hp,rfl⟩:=at_ i d h
    obtain⟨l,x,r,y,hs⟩:=tips_rod (List.mem_of_getElem? hp)
    obtain⟨al,ar,fl⟩:=lv_ok hg hn hs
    have el:lvlAt m p=lvl l x.heft r y.heft:=by unfold lvlAt;rw[hs]
    have hsub:=subp hp hs
    simp only[outOf]
    rw[hsub]
    dsimp only
    rw[el,if_pos ⟨fl.p,fl.m⟩]
    congr 1
    have:=lv_put (S:=fun q=>decide (q∈(tips (Zb5 m)).take i)) hs (nin hp)
    rw[this]
    refine lv_congr fun q=>?_
    unfold addP
    rw[List.take_succ,hp]
    simp
   ·intro i q a h l x r y hs
    obtain⟨p,hp,hd⟩:=at_ i _ h
    cases hd
    obtain⟨l',x',r',y',hs'⟩:=tips_rod (List.mem_of_getElem? hp)
    obtain⟨al,ar,fl⟩:=lv_ok hg hn hs'
    rw[subp hp hs'] at hs
    cases hs
    exact⟨al,ar⟩
   ·intro d h
    obtain⟨i,hi⟩:=List.mem_iff_getElem?.mp h
    obtain⟨p,hp,rfl⟩:=at_ i d hi
    obtain⟨l,x,r,y,hs⟩:=tips_rod (List.mem_of_getElem? hp)
    obtain⟨al,ar,fl⟩:=lv_ok hg hn hs
    have el:lvlAt m p=lvl l x.heft r y.heft:=by unfold lvlAt;rw[hs]
    have hpl:=sub_len hs
    exact⟨by rw[el];exact⟨fl.lw.b,fl.s1,fl.s2⟩,by show p.length<=4096;omega⟩
def sp_mended (cW cR:Addr):Sp:=fun vs H Q E=>∃ v m,vs=[v]/\Th cW cR H v m/\m.depth<=64/\m.nw<=100/\Good 64 m/\∀ v' H',Same H H'->Th cW cR H' v' (mendedM m)->Q v' H'
theorem sc_mended:Zb0 ["mobile","changed","deed"] ["mobile"] (Za6 (top 39)):=nofun
theorem ok_mended (A:Adr K mg) {f:Addr}{fd:FuncData}(F:Fun K "mended" "mended" (top 39) f fd) (F_mends:Fnc P w K mg base "mends" 72 ["mobile"] [] (sp_mends A.c_Weight A.c_Rod))
  (F_done:Fnc P w K mg base "done" 71 ["mobile","deed"] [] (sp_done A.c_NoNumber A.c_NoPlace A.c_Weight A.c_Rod)):FnOk P w K mg base (CX1 P w) 73 f fd ["mobile"] (sp_mended A.c_Weight A.c_Rod):=by
 have S:=sc_mended
 k_head
 ·obtain⟨v,m,rfl,_⟩:=h
  rfl
 ·obtain⟨v,m,rfl,hv,hdp,hn,hg,k⟩:=h
  have hr_mends:Room 72 _:=hr
  have hr_done:Room 71 _:=hr.mono ⋯
  obtain⟨st,R⟩:=mends_run hg hn hdp
  refine⟨_,(Za1 (Zb4 (i:=1) S.nd rfl (Or.inl rfl) (pv 0))
   (Za1 (ps_for PassesOwn.never rfl (pi_listK (K:=K) rfl (Zc1 F_mends hr_mends Zc2 (Za0 (pv 0) Za2))) (pg_name (i:=2) S.nd rfl (Or.inl rfl)) (Za5 (Zb4 (i:=1) S.nd rfl (Or.inl rfl) (Zc1 F_done hr_done Zc2 (Za0 (pv 1) (Za0 (pv 2) Za2))))))
   (Za5 (Za9 (pv 1))))),?_⟩
  k_one
  refine⟨v,m,rfl,hv,hdp,hn,good_gq hg,.inr hg,fun l us H1 hl sm1 el hP=>?_⟩
  k_one
  refine⟨⟨_,SqL.of el⟩,?_⟩
  refine for_listN (xs:=us) (fun i σ H'=>∃ v' o2,σ=[some v,some v',o2]/\Same H1 H'/\Th A.c_Weight A.c_Rod H' v' (st i)) ⟨v,none,rfl,fun _ _ z=>z,by rw[R.zero];exact hv.kp sm1.kp⟩ ?_ ?_ ?_
  ·rintro i σ H' hi ⟨v',o2,rfl,sm,_⟩
   exact SqL.of (sm _ _ el)
  ·rintro i x σ H' N hx ⟨v',o2,rfl,sm,th⟩ hN
   obtain⟨d,hd,hdv⟩:=paired_get hP hx
   have hout:=R.out i d hd
   have hfit:=R.fits d (List.mem_of_getElem? hd)
   k_one
   refine⟨v',st i,x,d,rfl,th,(R.dep i).1,R.all i,hdv.kp sm.kp,fun q a e=>R.arm i q a (by rw[hd,e]),hfit.1,hfit.2,fun m' e v2 H2 sm2 th2=>?_,fun e=>(by rw[hout] at e;cases e),fun e=>(by rw[hout] at e;cases e)⟩
   rw[hout] at e
   cases e
   exact hN _ _ ⟨_,_,rfl,sm.trans sm2,th2⟩
  ·rintro σ H' ⟨v',o2,rfl,sm,th⟩
   k_one
   rw[hP.length,R.last] at th
   exact k v' H' (sm1.trans sm) th
structure LimT (D B:Int):Prop where
 d0:0<D
 d1:D<2 ^ 1400
 b0:0<=B
 b1:200*B<2 ^ 1400
def Gt (m:Mo):Prop:=∃ D B,LimT D B/\m.All (Qb D B) Bg
theorem Gt.heft {m:Mo}(h:Gt m) (hn:m.nw<=200):Lw m.heft/\Sm 1400 m.heft.1/\Sm 1400 m.heft.2:=by
 obtain⟨D,B,hL,h⟩:=h
 have q:=Bd.qheft hL.d0 h
 have b1:(m.nw:Int)*B<=200*B:=Int.mul_le_mul_of_nonneg_right ∅ hL.b0
 have b2:=hL.b1
 have s:=q.small hL.d0 hL.d1 ∅
 exact⟨q.lw,s.1,s.2⟩
theorem Gt.sub {m s:Mo}{p:Pl}(h:Gt m) (hs:m.sub p=some s):Gt s:=let ⟨D,B,hL,h⟩:=h;⟨D,B,hL,Mo.All.sub h hs⟩
theorem Gt.rod {l r:Fr}{x y:Mo}(h:Gt (.rod l x r y)):Bg l/\Bg r/\Gt x/\Gt y:=let ⟨D,B,hL,h1,h2,h3,h4⟩:=h;⟨h1,h2,⟨D,B,hL,h3⟩,⟨D,B,hL,h4⟩⟩
theorem Gt.gq {m:Mo}(h:Gt m):Gq m:=by
 obtain⟨D,B,hL,h⟩:=h
 have h1:(2:Int) ^ 1400<2 ^ 3900:=by ac_nf
 refine⟨D,B,⟨hL.d0,Int.lt_trans hL.d1 h1,hL.b0,Int.lt_trans hL.b1 h1⟩,Mo.All.mono (fun _ z=>z) (fun _ z=>⟨z.b,z.small.1.mono ⋯,z.small.2.mono ⋯⟩) h⟩
theorem am_gt {m:Mo}(h:m.All (Am 64) Bg):Gt m:=
 ⟨gD 64,gT 64*gD 64,⟨gD_pos _,by ac_nf,gg_nn,by ac_nf⟩,Mo.All.mono (fun _ z=>Qb.of_bd z.bd (gD_pos _) z.g) (fun _ z=>z) h⟩
theorem put_gt {m:Mo}{q:Pl}{b:Fr}{d:Int}(hg:Good 64 m) (d0:0<d) (d1:d<=2 ^ 32) (hb:Qb (DD*d) WB b):Gt (m.put q (.wt b)):=by
 refine⟨DD*d,WB,⟨Int.mul_pos DD_pos d0,?_,by ac_nf,by ac_nf⟩,?_⟩
 ·have h1:DD*d<=DD*2 ^ 32:=Int.mul_le_mul_of_nonneg_left d1 (Int.le_of_lt DD_pos)
  have h2:DD*2 ^ 32<2 ^ 1400:=by ac_nf
  omega
 ·exact all_put (Mo.All.mono (fun _ h=>(am_wb h d0 d1).mono wb_a) (fun _ h=>ar_bg h) hg) hb
def gapP (m:Mo) (p:Pl):Fr:=match m.sub p with
 | some (.rod l x r y)=>Zc8 (Zb1 r y.heft) (Zb1 l x.heft)
 | _=>(0,1)
theorem minus_zero {a b:Fr}(ha:Lw a) (hb:Lw b):(Zc8 a b).1=0↔a=b:=by
 have e:=rq_minus ha.b hb.b
 have hl:=Lw.minus (x:=a) (y:=b) ha.b hb.b
 constructor
 ·intro h
  refine Lw.ext ha hb ?_
  have:rq (Zc8 a b)=0:=by unfold rq;rw[h];grind
  grind
 ·intro h
  subst h
  have:rq (Zc8 a a)=0:=by grind
  have:Zc8 a a=(0,1):=Lw.ext hl ⟨by decide,by decide⟩ (by rw[this];unfold rq;grind)
  rw[this]
theorem gap_tip {m:Mo}{p:Pl}(h:Gt m) (hn:m.nw<=200) (hp:p∈rps m):(gapP m p).1=0↔tipE (pullP m p)=false:=by
 obtain⟨l,x,r,y,hs⟩:=rps_rod hp
 obtain⟨bl,br,gx,gy⟩:=(h.sub hs).rod
 have tn:=Mo.sub_nw hs
 simp only[Mo.nw] at tn
 have hx:=(gx.heft ∅).1
 have hy:=(gy.heft ∅).1
 have e1:gapP m p=Zc8 (Zb1 r y.heft) (Zb1 l x.heft):=by unfold gapP;rw[hs]
 have e2:pullP m p=(p,Zb1 l x.heft,Zb1 r y.heft):=by unfold pullP;rw[hs]
 rw[e1,e2,minus_zero (Lw.times br.b hy.b) (Lw.times bl.b hx.b)]
 unfold tipE
 simp only[Bool.not_eq_false',decide_eq_true_eq]
 rw[←Prod.ext_iff]
 exact eq_comm
theorem gap_tips {m:Mo}(h:Gt m) (hn:m.nw<=200):((rps m).map mkS).filter (fun x=>!decide ((gapP m (toP x)).1=0))=(tips (Zb5 m)).map mkS:=by
 rw[tips_rps,List.filter_map]
 congr 1
 apply List.filter_congr
 intro p hp
 have:=gap_tip h hn hp
 simp only[Function.comp,toP_mk]
 rw[Bool.eq_iff_iff]
 simp only[Bool.not_eq_true',decide_eq_false_iff_not]
 rw[this]
 cases tipE (pullP m p) <;> simp
def rodsR (m:Mo) (i:Nat):List Pl:=((m.places.drop (m.places.length-i)).filter fun p=>!isWP m p).reverse
theorem rodsR_all (m:Mo):rodsR m m.places.length=(rps m).reverse:=by unfold rodsR rps;rw[Nat.sub_self,List.drop_zero]
theorem rodsR_snoc {m:Mo}{i:Nat}{p:Pl}(hi:i<m.places.length) (hp:m.places[m.places.length-1-i]? = some p):rodsR m (i+1)=rodsR m i++(if isWP m p=true then [] else [p]):=by
 unfold rodsR
 obtain⟨h1,h2⟩:=List.getElem?_eq_some_iff.mp hp
 have e:m.places.drop (m.places.length-(i+1))=p::m.places.drop (m.places.length-i):=by
  rw[show m.places.length-(i+1)=m.places.length-1-i by omega,List.drop_eq_getElem_cons h1,h2]
  congr 2
  omega
 rw[e,List.filter_cons]
 cases isWP m p <;> simp
theorem rodsR_not {m:Mo}{i:Nat}{p:Pl}(hi:i<m.places.length) (hp:m.places[m.places.length-1-i]? = some p):p∉rodsR m i:=by
 unfold rodsR
 rw[List.mem_reverse,List.mem_filter]
 rintro⟨hm,_⟩
 obtain⟨j,hj⟩:=List.mem_iff_getElem?.mp hm
 rw[List.getElem?_drop] at hj
 obtain⟨j1,x1⟩:=List.getElem?_eq_some_iff.mp hj
 obtain⟨j2,x2⟩:=List.getElem?_eq_some_iff.mp hp
 have:=(List.getElem_inj (Mo.places_nodup m)).mp (x1.trans x2.symm)
 omega
def GapD (H:Hp) (g:Addr) (m:Mo) (ps:List Pl):Prop:=∃ kvs,H g=some (.dK kvs)/\kvs.map (·.1)=ps.map (fun p=>(.inr (mkS p):Key))/\∀ p∈ps,∃ v,valV kvs (.inr (mkS p))=some v/\FrV H v (gapP m p)
theorem GapD.same {H H':Hp}{g:Addr}{m:Mo}{ps:List Pl}(h:GapD H g m ps) (s:Same H H'):GapD H' g m ps:=
 let ⟨kvs,h1,h2,h3⟩:=h;⟨kvs,s _ _ h1,h2,fun p hp=>let ⟨v,z1,z2⟩:=h3 p hp;⟨v,z1,z2.same s⟩⟩
theorem GapD.wk {H H':Hp}{g e:Addr}{m:Mo}{ps:List Pl}(h:GapD H g m ps) (w:Wk e H H') (hne:g≠e):GapD H' g m ps:=
 let ⟨kvs,h1,h2,h3⟩:=h;⟨kvs,w.sx _ _ hne h1,h2,fun p hp=>let ⟨v,z1,z2⟩:=h3 p hp;⟨v,z1,z2.kp w.kp⟩⟩
theorem GapD.get {H:Hp}{g:Addr}{m:Mo}{ps:List Pl}{p:Pl}{Q:VK}(h:GapD H g m ps) (hp:p∈ps) (q:∀ v,FrV H v (gapP m p)->Q v H):rDGet (.ref g) (.str (mkS p)) H Q:=by
 obtain⟨kvs,h1,h2,h3⟩:=h
 obtain⟨v,z1,z2⟩:=h3 p hp
 exact⟨g,v,rfl,dget_ok (.inl h1) z1,q v z2⟩
theorem GapD.put {H:Hp}{g:Addr}{m:Mo}{ps:List Pl}{p:Pl}{v:V}{Q:Hp->Prop}(h:GapD H g m ps) (hn:p∉ps) (hv:FrV H v (gapP m p)) (hl:ps.length<=999) (q:∀ H',GapD H' g m (ps++[p])->Wk g H H'->Q H'):rDPut v (.ref g) (.str (mkS p)) H Q:=by
 obtain⟨kvs,h1,h2,h3⟩:=h
 have hkl:kvs.length=ps.length:=by have:=congrArg List.length h2;simpa using this
 have hno:valV kvs (.inr (mkS p))=none:=by
  cases z:valV kvs (.inr (mkS p)) with
  | none=>rfl
  | some u=>
   have:=valV_in z
   rw[h2] at this
   obtain⟨p',hp',e⟩:=List.mem_map.mp this
   have e':(Sum.inr (mkS p'):Key) = .inr (mkS p):=e
   exact absurd (mkS_inj.mp (Sum.inr.inj e')▸hp') hn
 refine dput_ok h1 ∅ (q _ ?_ ⟨fun b o hb e'=>by rw[Zb8 hb];exact e',Kp.dK h1⟩)
 have kp:Kp H (upd H g (.dK (putK kvs (.inr (mkS p)) v))):=Kp.dK h1
 refine⟨_,Za4,?_,fun p' hp'=>?_⟩
 ·rw[putK_new v hno,List.map_append,h2,List.map_append]
  rfl
 ·rw[valV_put]
  rcases List.mem_append.mp hp' with hp' | hp'
  ·obtain⟨u,z1,z2⟩:=h3 p' hp'
   have hne:p'≠p:=fun z=>hn (z▸hp')
   rw[if_neg (fun z=>hne (mkS_inj.mp (Sum.inr.inj z)))]
   exact⟨u,z1,z2.kp kp⟩
  ·rw[List.mem_singleton.mp hp',if_pos rfl]
   exact⟨v,rfl,hv.kp kp⟩
theorem gaps_sorted {H:Hp}{g:Addr}{m:Mo}{Q:VK}(h:GapD H g m (rps m).reverse) (hn:m.nw<=100) (q:∀ l,H l=none->Q (.ref l) (upd H l (.lst (((rps m).map mkS).map .str)))):rSorted [.ref g] H Q:=by
 obtain⟨kvs,h1,h2,h3⟩:=h
 have hl:(rps m).length<=m.places.length:=List.length_filter_le ..
 have hpl:=Mo.places_length m
 refine⟨g,kvs,(rps m).reverse.map mkS,rfl,.inl h1,?_,?_,?_,fun l ks' hl' hp hs=>?_⟩
 ·unfold TextKeys
  rw[h2,List.map_map]
  rfl
 ·exact List.pairwise_map.mpr ((List.pairwise_reverse.mpr ((rps_nodup m).imp fun h=>Ne.symm h)).imp fun h z=>h (mkS_inj.mp z))
 ·rw[List.length_map,List.length_reverse];omega
 ·have e:ks'.map toP=rps m:=by
   refine sorted_ext (List.pairwise_map.mpr hs) ((Mo.places_sorted m).filter _) fun x=>?_
   constructor
   ·intro hx
    obtain⟨y,hy,rfl⟩:=List.mem_map.mp hx
    obtain⟨z,hz,rfl⟩:=List.mem_map.mp (hp.mem_iff.mp hy)
    rw[toP_mk]
    exact List.mem_reverse.mp hz
   ·intro hx
    exact List.mem_map.mpr ⟨mkS x,hp.mem_iff.mpr (List.mem_map.mpr ⟨x,List.mem_reverse.mpr hx,rfl⟩),toP_mk x⟩
  have e2:ks'=(rps m).map mkS:=by
   rw[←e,List.map_map]
   have:(mkS∘toP)=id:=by funext z;exact mk_toP z
   rw[this,List.map_id]
  rw[e2]
  exact q l hl'
def sp_gaps:Sp:=fun vs H Q E=>∃ d m,vs=[.ref d]/\RowsAt H d m/\m.nw<=100/\Gt m/\∀ g H',H g=none->Same H H'->GapD H' g m (rps m).reverse->Q (.ref g) H'
theorem sc__law_gaps:Zb0 ["_law_rows","_law_hefts","_law_found","_law_place","_law_left"] ["_law_rows"] (Za6 (top 66)):=nofun
theorem ok_gaps (A:Adr K mg) {f:Addr}{fd:FuncData}(F:Fun K "_law_gaps" "_law_gaps" (top 66) f fd) (F__law_sum:Fnc P w K mg base "_law_sum" 2 ["_law_one","_law_other"] [] sp_sum) (F__law_product:Fnc P w K mg base "_law_product" 2 ["_law_one","_law_other"] [] sp_product)
  (F__law_less:Fnc P w K mg base "_law_less" 3 ["_law_one","_law_other"] [] sp_less):FnOk P w K mg base (CX1 P w) 4 f fd ["_law_rows"] sp_gaps:=by
 have S:=sc__law_gaps
 k_head
 ·obtain⟨d,m,rfl,_⟩:=h
  rfl
 ·obtain⟨d,m,rfl,hd,hn,hg,q⟩:=h
  have hr__law_sum:Room 2 _:=hr.mono ⋯
  have hr__law_product:Room 2 _:=hr.mono ⋯
  have hr__law_less:Room 3 _:=hr
  have hu:=hu_of hr
  refine⟨_,(Za1 (Zb4 (i:=1) S.nd rfl (Or.inl rfl) pe_dnewK)
   (Za1 (Zb4 (i:=2) S.nd rfl (Or.inl rfl) pe_dnewK)
   (Za1 (ps_for PassesOwn.never rfl (pi_reversed (by rfl) A.n_reversed (Za0 (Zc3 (call_sorted rfl) (by rfl) A.n_sorted bt_sorted (Za0 (pv 0) Za2)) Za2)) (pg_name (i:=3) S.nd rfl (Or.inl rfl)) (Za5 (ps_if (Zb7 op_eq (Zc3 (lenK (K:=K) rfl) (by rfl) A.n_len bt_len (Za0 (pe_dget hu (pv 0) (pv 3) (fun _ _=>rfl)) Za2)) Za3 (Zc6 _)) (Za5 (ps_dput hu (pv 1) (pv 3) (Zb6 (ixT (K:=K) rfl) (pe_dget hu (pv 0) (pv 3) (fun _ _=>rfl)) Za3 (fun _ _=>rfl)) rfl)) (Za1 (ps_dput hu (pv 1) (pv 3) (Zc1 F__law_sum hr__law_sum Zc2 (Za0 (pe_dget hu (pv 1) (Zc0 Zb3 (pv 3) Zc7) (fun _ _=>rfl)) (Za0 (pe_dget hu (pv 1) (Zc0 Zb3 (pv 3) Zc7) (fun _ _=>rfl)) Za2))) rfl)
   (Za1 (Zb4 (i:=4) S.nd rfl (Or.inl rfl) (Zc1 F__law_product hr__law_product Zc2 (Za0 (Zb6 (ixT (K:=K) rfl) (pe_dget hu (pv 0) (pv 3) (fun _ _=>rfl)) Za3 (fun _ _=>rfl)) (Za0 (pe_dget hu (pv 1) (Zc0 Zb3 (pv 3) Zc7) (fun _ _=>rfl)) Za2))))
   (Za5 (ps_dput hu (pv 2) (pv 3) (Zc1 F__law_less hr__law_less Zc2 (Za0 (Zc1 F__law_product hr__law_product Zc2 (Za0 (Zb6 (ixT (K:=K) rfl) (pe_dget hu (pv 0) (pv 3) (fun _ _=>rfl)) Za3 (fun _ _=>rfl)) (Za0 (pe_dget hu (pv 1) (Zc0 Zb3 (pv 3) Zc7) (fun _ _=>rfl)) Za2))) (Za0 (pv 4) Za2))) rfl)))))))
   (Za5 (Za9 (pv 2)))))),?_⟩
  k_one
  intro e he
  k_one
  intro g hgn
  k_one
  have sm0:Same H (upd (upd H e (.dK [])) g (.dK [])):=fun b o z=>Za7 hgn b o (Za7 he b o z)
  obtain⟨od,hod⟩:=hd.there
  have hde:d≠e:=Za8 hod he
  have hdg:d≠g:=Za8 (Za7 he _ _ hod) hgn
  have neg:e≠g:=Za8 Za4 hgn
  have hHg:H g=none:=by
   cases z:H g with
   | none=>rfl
   | some o=>rw[Za7 he _ _ z] at hgn;cases hgn
  have ee:upd (upd H e (.dK [])) g (.dK []) e=some (.dK []):=by rw[Zb8 neg];exact Za4
  have eg:upd (upd H e (.dK [])) g (.dK []) g=some (.dK []):=Za4
  generalize upd (upd H e (.dK [])) g (.dK [])=H1 at sm0 ee eg ⊢
  refine sorted_ok (hd.same sm0) ∅ fun l hl=>⟨l,rfl,_,SqL.of Za4,?_⟩
  have sm1:=Za7 (o:=.lst ((m.places.map mkS).map .str)) hl
  have hln:((m.places.map mkS).map V.str).length=m.places.length:=by rw[List.length_map,List.length_map]
  have hpl:=Mo.places_length m
  have nle:l≠e:=fun z=>by rw[z,ee] at hl;cases hl
  have nlg:l≠g:=fun z=>by rw[z,eg] at hl;cases hl
  refine for_revN (xs:=(m.places.map mkS).map .str) (fun i σ H'=>∃ o3 o4,σ=[some (.ref d),some (.ref e),some (.ref g),o3,o4]/\Same H H'/\RowsAt H' d m/\H' l=some (.lst ((m.places.map mkS).map .str))/\HeftD H' e m i (m.places.length-i)/\GapD H' g m (rodsR m i))
   ⟨none,none,rfl,fun b o z=>sm1 b o (sm0 b o z),(hd.same sm0).same sm1,Za4,⟨[],sm1 _ _ ee,by simp,fun i p s hi hp _=>?_⟩,⟨[],sm1 _ _ eg,by simp[rodsR],fun p hp=>by simp[rodsR] at hp⟩⟩ ?_ ?_ ?_
  ·obtain⟨hi',_⟩:=List.getElem?_eq_some_iff.mp hp
   omega
  ·rintro i σ H' hi ⟨o3,o4,rfl,_,_,hl',_⟩
   exact SqL.of hl'
  ·rintro i x σ H' N hi hx ⟨o3,o4,rfl,sm,hR,hl',hH,hG⟩ hN
   rw[hln] at hi hx
   rw[List.getElem?_map,List.getElem?_map] at hx
   cases hp:m.places[m.places.length-1-i]? with
   | none=>rw[hp] at hx;cases hx
   | some p=>
    rw[hp] at hx
    cases hx
    obtain⟨t,ht⟩:=(Mo.mem_places m p).mp (List.mem_of_getElem? hp)
    have hpl2:p.length<=4096:=by
     have:=sub_len ht
     have:=Mo.depth_lt m
     omega
    have hrs:=rodsR_snoc hi hp
    have hrn:=rodsR_not hi hp
    have hrl:(rodsR m i).length<=999:=by
     unfold rodsR
     rw[List.length_reverse]
     have h1:((m.places.drop (m.places.length-i)).filter fun p=>!isWP m p).length<=(m.places.drop (m.places.length-i)).length:=List.length_filter_le ..
     rw[List.length_drop] at h1
     omega
    k_one
    refine rows_get hR ht fun vr hvr=>len_ok (LenV.row hvr) ?_
    k_one
    cases t with
    | wt f0=>
     have hw:isWP m p=true:=isWP_iff.mpr ⟨f0,ht⟩
     rw[if_pos hw,List.append_nil] at hrs
     rw[if_pos (show ((Mo.wt f0).row.length:Int)=1 from rfl)]
     refine rows_get hR ht fun vr2 hvr2=>row0 hvr2 fun x0 hx0=>?_
     exact hH.put hi hp ht hx0 ∅ fun H3 h3 w3=>hN _ _ ⟨_,_,rfl,fun b o z=>w3.sx b o (Za8 z he) (sm b o z),hR.wk w3 hde,w3.sx _ _ nle hl',h3,by rw[hrs];exact hG.wk w3 (Ne.symm neg)⟩
    | rod lf x rf y=>
     have hw:¬isWP m p=true:=fun z=>by obtain⟨a,z⟩:=isWP_iff.mp z;rw[ht] at z;cases z
     rw[if_neg hw] at hrs
     rw[if_neg (show ¬((Mo.rod lf x rf y).row.length:Int)=1 from (by decide:¬(((2:Nat):Int)=1)))]
     obtain⟨bl,br,gx,gy⟩:=(hg.sub ht).rod
     have tn:=Mo.sub_nw ht
     simp only[Mo.nw] at tn
     obtain⟨lx,sx1,sx2⟩:=gx.heft ∅
     obtain⟨ly,sy1,sy2⟩:=gy.heft ∅
     obtain⟨j1,b1,p1⟩:=behind hp (Mo.sub_l ht) (lt_app p 108)
     obtain⟨j2,b2,p2⟩:=behind hp (Mo.sub_r ht) (lt_app p 114)
     k_one
     refine⟨len_l p hpl2,?_⟩
     rw[add_l]
     refine hH.get ∅ p1 (Mo.sub_l ht) fun v1 h1=>⟨len_r p hpl2,?_⟩
     rw[add_r]
     refine hH.get ∅ p2 (Mo.sub_r ht) fun v2 h2=>?_
     refine⟨v1,v2,x.heft,y.heft,rfl,h1,h2,lx.b,ly.b,sx1.mono ⋯,sx2.mono ⋯,sy1.mono ⋯,sy2.mono ⋯,fun v3 H3 sm3 h3=>?_⟩
     refine (hH.same sm3).put hi hp ht h3 ∅ fun H4 h4 w4=>?_
     have W4:Wk e H' H4:=(Wk.of sm3).trans w4
     have R4:=hR.wk W4 hde
     have G4:=hG.wk W4 (Ne.symm neg)
     have l4:=W4.sx _ _ nle hl'
     k_one
     have tL:=low_sm (n:=3400) (Int.mul_pos bl.b lx.b) ((Sm.mul bl.small.1 sx1).mono ⋯) ((Sm.mul bl.small.2 sx2).mono ⋯)
     have tR:=low_sm (n:=3400) (Int.mul_pos br.b ly.b) ((Sm.mul br.small.1 sy1).mono ⋯) ((Sm.mul br.small.2 sy2).mono ⋯)
     refine rows_get R4 ht fun va ha=>row0 ha fun x0 hx0=>⟨len_l p hpl2,?_⟩
     rw[add_l]
     refine h4.get ∅ p1 (Mo.sub_l ht) fun v5 f5=>?_
     refine⟨x0,v5,lf,x.heft,rfl,hx0,f5,bl.b,lx.b,bl.small.1.mono ⋯,bl.small.2.mono ⋯,sx1.mono ⋯,sx2.mono ⋯,fun v6 H5 sm5 f6=>?_⟩
     k_one
     refine rows_get (R4.same sm5) ht fun vb hb=>row1 hb fun x1 hx1=>⟨len_r p hpl2,?_⟩
     rw[add_r]
     refine (h4.same sm5).get ∅ p2 (Mo.sub_r ht) fun v7 f7=>?_
     refine⟨x1,v7,rf,y.heft,rfl,hx1,f7,br.b,ly.b,br.small.1.mono ⋯,br.small.2.mono ⋯,sy1.mono ⋯,sy2.mono ⋯,fun v8 H6 sm6 f8=>?_⟩
     refine⟨v8,v6,_,_,rfl,f8,f6.same sm6,(Lw.times br.b ly.b).b,(Lw.times bl.b lx.b).b,tR.1.mono ⋯,tR.2.mono ⋯,tL.1.mono ⋯,tL.2.mono ⋯,fun v9 H7 sm7 f9=>?_⟩
     have s47:=(sm5.trans sm6).trans sm7
     have eg:gapP m p=Zc8 (Zb1 rf y.heft) (Zb1 lf x.heft):=by unfold gapP;rw[ht]
     refine (G4.same s47).put hrn (by rw[eg];exact f9) hrl fun H8 G8 w8=>hN _ _ ⟨_,_,rfl,fun b o z=>w8.sx b o (Za8 z hHg) (s47 _ _ (W4.sx b o (Za8 z he) (sm b o z))),(R4.same s47).wk w8 hdg,w8.sx _ _ nlg (s47 _ _ l4),(h4.same s47).keep w8.kp (fun o z=>w8.sx _ _ neg z),by rw[hrs];exact G8⟩
  ·rintro σ H' ⟨o3,o4,rfl,sm,hR,hl',_,hG⟩
   rw[hln,rodsR_all] at hG
   k_one
   exact q g H' hHg sm hG
def sp_ltips:Sp:=fun vs H Q E=>∃ d m,vs=[.ref d]/\RowsAt H d m/\m.nw<=100/\Gt m/\∀ t H',Same H H'->H' t=some (.lst (((tips (Zb5 m)).map mkS).map .str))->Q (.ref t) H'
theorem gap_comp {l D g:Addr}{m:Mo}{H:Hp}{Q:VK}(hl:SqL K H l (((rps m).map mkS).map .str)) (hD:H D=none) (hG:GapD H g m (rps m).reverse) (hg:Gt m) (hn:m.nw<=100) (q:Q (.ref D) (upd H D (.lst (((tips (Zb5 m)).map mkS).map .str)))) :
  CompW (Itl K l) D (gName 0) (tTest (tOp rNe (tOp (rIxT K) (tDGet (tVar 1) (tVar 0)) (L2.tC (V.int 0))) (L2.tC (V.int 0)))) (tVar 0) [none,some (.ref g)] H Q:=by
 have hl1:(rps m).length<=m.places.length:=List.length_filter_le ..
 have hpl:=Mo.places_length m
 refine comp_fm (xs:=(rps m).map mkS) (fun x=>!decide ((gapP m (toP x)).1=0)) .str (by rw[List.length_map,sizeLine_eq];omega) hD hl (fun x hx ys R q=>?_) (fun x hx _ ys R q=>?_) ?_
 ·obtain⟨p,hp,rfl⟩:=List.mem_map.mp hx
  rw[toP_mk] at q
  k_one
  refine (hG.same (Za7 hD)).get (List.mem_reverse.mpr hp) fun v hv=>?_
  k_one
  obtain⟨pv,rfl,hpv⟩:=hv
  refine sq0 (SqT.of hpv) ⟨rfl,?_⟩
  rw[show decide (V.int (gapP m p).1=V.int 0)=decide ((gapP m p).1=0) by simp]
  exact q
 ·k_one
  exact q
 ·rw[gap_tips hg ∅]
  exact q
theorem sc__law_tips:Zb0 ["_law_rows","_law_gaps_here"] ["_law_rows"] (Za6 (top 67)):=nofun
theorem ok_ltips (A:Adr K mg) {f:Addr}{fd:FuncData}(F:Fun K "_law_tips" "_law_tips" (top 67) f fd) (F__law_gaps:Fnc P w K mg base "_law_gaps" 4 ["_law_rows"] [] sp_gaps):FnOk P w K mg base (CX1 P w) 5 f fd ["_law_rows"] sp_ltips:=by
 have S:=sc__law_tips
 k_head
 ·obtain⟨d,m,rfl,_⟩:=h
  rfl
 ·obtain⟨d,m,rfl,hd,hn,hg,q⟩:=h
  have hr__law_gaps:Room 4 _:=hr
  have hu:=hu_of hr
  refine⟨_,(Za1 (Zb4 (i:=1) S.nd rfl (Or.inr rfl) (Zc1 F__law_gaps hr__law_gaps Zc2 (Za0 (pv 0) Za2)))
   (Za5 (Za9 (pe_comp (tv:=["_law_place"]) (cap:=[1]) (compOk_of (Za6 (top 67)) ["_law_rows","_law_gaps_here"] rfl rfl (by ac_nf) (by rfl)) rfl (pi_listK (K:=K) rfl (Zc3 (call_sorted rfl) (by rfl) A.n_sorted bt_sorted (Za0 (pv 1) Za2))) (fun _ _ _=>(pg_name (i:=0) (show (["_law_place","_law_gaps_here"]:List Str).Nodup by ac_nf) rfl (Or.inl rfl) (Or.inr rfl))) (fun _ _ _=>(pts_one (Zb7 op_ne (Zb6 (ixT (K:=K) rfl) (pe_dget hu (pv 1) (pv 0) (fun _ _=>rfl)) Za3 (fun _ _=>rfl)) Za3 (Zc6 _)))) (fun _ _ _=>(pv 0)))))),?_⟩
  k_one
  refine⟨d,m,rfl,hd,hn,hg,fun g H1 hg1 sm1 hG=>?_⟩
  k_one
  refine gaps_sorted hG hn fun l hl=>?_
  have sL:=Za7 (o:=.lst (((rps m).map mkS).map .str)) hl
  exact⟨l,rfl,⟨_,SqL.of Za4⟩,fun D hD=>gap_comp (SqL.of Za4) hD (hG.same sL) hg hn (q D _ ((sm1.trans sL).trans (Za7 hD)) Za4)⟩
def lackP (m:Mo) (q p:Pl):Fr:=match m.sub p with
 | some (.rod l x r y)=>lack (signAt q p) l x.heft r y.heft
 | _=>(0,1)
theorem wantP_lack {m:Mo}{q p:Pl}{a:Fr}(hs:m.sub q=some (.wt a)) (hp:p∈prefs q):wantP m q p=Zd0 a (lackP m q p):=by
 obtain⟨l,x,r,y,c,t,h1,h2,h3⟩:=way_rod hs hp
 unfold wantP lackP
 rw[hs,h1]
 rfl
theorem lackP_lw {m:Mo}{q p:Pl}{a:Fr}(hg:Good 64 m) (hs:m.sub q=some (.wt a)) (hp:p∈prefs q):Lw (lackP m q p):=by
 obtain⟨l,x,r,y,c,t,h1,h2,h3⟩:=way_rod hs hp
 obtain⟨al,ar,gx,gy⟩:=Mo.All.sub hg h1
 unfold lackP
 rw[h1]
 exact lack_lw (ar_lp al) (ar_lp ar) (heft_lp gx).lw (heft_lp gy).lw
theorem plus_inj {a b c:Fr}(ha:Lw a) (hb:Lw b) (hc:Lw c) (h:Zd0 a b=Zd0 a c):b=c:=by
 refine Lw.ext hb hc ?_
 have h1:=rq_plus ha.b hb.b
 have h2:=rq_plus ha.b hc.b
 rw[h] at h1
 grind
theorem nil_pref {q:Pl}(h:q≠[]):[]∈prefs q:=by
 cases q with
 | nil=>exact absurd rfl h
 | cons c q=>exact List.mem_cons_self ..
theorem off_iff {m:Mo}{q:Pl}:offT m q=[]↔∀ p∈tips (Zb5 m),p.isPrefixOf q=true:=by
 rw[offT_rps,tips_rps,List.filter_eq_nil_iff]
 constructor
 ·intro h p hp
  obtain⟨h1,h2⟩:=List.mem_filter.mp hp
  have:=h p h1
  simpa [h2] using this
 ·intro h p hp
  by_cases ht:tipE (pullP m p)=true
  ·have:=h p (List.mem_filter.mpr ⟨hp,ht⟩)
   simp[this]
  ·simp[ht]
theorem fit_some_iff {m:Mo}{q:Pl}{a:Fr}(hg:Good 64 m) (hn:m.nw<=100) (hs:m.sub q=some (.wt a)) (ht:tips (Zb5 m)≠[]) :
  (fitM m q a).isSome=true↔(∀ p∈tips (Zb5 m),p.isPrefixOf q=true)/\∀ p∈prefs q,lackP m q p=lackP m q []:=by
 have ga:Am 64 a:=Mo.All.sub hg hs
 have la:Lw a:=(Qb.of_bd ga.bd (gD_pos _) ga.g).lw
 have hW:wantFs m q=(prefs q).map (wantP m q):=by unfold wantFs wantsM;rw[List.map_map];rfl
 constructor
 ·intro h
  obtain⟨f,hf⟩:=Option.isSome_iff_exists.mp h
  have fo:=fit_ok hg hn hs ht hf
  refine⟨off_iff.mp fo.off,fun p hp=>?_⟩
  have hq:q≠[]:=fun z=>by rw[z] at hp;cases hp
  have h1:=fo.wants p hp
  have h2:=fo.wants [] (nil_pref hq)
  rw[wantP_lack hs hp] at h1
  rw[wantP_lack hs (nil_pref hq)] at h2
  exact plus_inj la (lackP_lw hg hs hp) (lackP_lw hg hs (nil_pref hq)) (h1.trans h2.symm)
 ·rintro⟨h1,h2⟩
  have hq:q≠[]:=by
   intro z
   obtain⟨p,hp⟩:=List.exists_mem_of_ne_nil _ ht
   have:=h1 p hp
   rw[z] at this
   have hp0:p=[]:=by
    cases p with
    | nil=>rfl
    | cons c p=>simp[List.isPrefixOf] at this
   obtain⟨l,x,r,y,hr⟩:=tips_rod hp
   rw[hp0,←z,hs] at hr
   cases hr
  have hd:dueOf m q a=wantP m q []:=by
   unfold dueOf
   rw[hW]
   cases q with
   | nil=>exact absurd rfl hq
   | cons c q=>rfl
  rw[fit_eq hg hs,if_pos]
  ·rfl
  ·refine⟨off_iff.mpr h1,?_⟩
   rw[List.eq_replicate_iff]
   refine⟨rfl,fun g hgm=>?_⟩
   rw[hW] at hgm
   obtain⟨p,hp,rfl⟩:=List.mem_map.mp hgm
   rw[hd,wantP_lack hs hp,wantP_lack hs (nil_pref hq),h2 p hp]
theorem minus_neg {a b:Fr}(ha:0<a.2) (hb:0<b.2):(-(Zc8 a b).1,(Zc8 a b).2)=Zc8 b a:=by
 have h1:=Lw.minus ha hb
 have h2:=Lw.minus hb ha
 have h3:Lw (-(Zc8 a b).1,(Zc8 a b).2):=⟨h1.b,by show Int.gcd (-(Zc8 a b).1) (Zc8 a b).2=1;rw[Int.neg_gcd];exact h1.g⟩
 refine Lw.ext h3 h2 ?_
 have e1:=rq_minus ha hb
 have e2:=rq_minus hb ha
 have e3:rq (-(Zc8 a b).1,(Zc8 a b).2) = - rq (Zc8 a b):=by
  unfold rq
  simp only[Rat.intCast_neg]
  grind
 rw[e3,e1,e2]
 grind
def sp_one:Sp:=fun vs H Q E=>∃ d g t m q a,vs=[.ref d,.ref g,.ref t,.str (mkS q)]/\RowsAt H d m/\GapD H g m (rps m).reverse/\H t=some (.lst (((tips (Zb5 m)).map mkS).map .str))/\m.sub q=some (.wt a)/\Good 64 m/\m.nw<=100/\m.depth<=64/\tips (Zb5 m)≠[] /\
 ∀ H',Same H H'->Q (.bl (fitM m q a).isSome) H'
theorem sc__law_one_does:Zb0 ["_law_rows","_law_gaps_here","_law_tips_here","_law_at","_law_place","_law_first","_law_k","_law_step"] ["_law_rows","_law_gaps_here","_law_tips_here","_law_at"] (Za6 (top 68)):=nofun
theorem ok_one (A:Adr K mg) {f:Addr}{fd:FuncData}(F:Fun K "_law_one_does" "_law_one_does" (top 68) f fd) (F__law_quotient:Fnc P w K mg base "_law_quotient" 2 ["_law_one","_law_other"] [] sp_quotient):FnOk P w K mg base (CX1 P w) 3 f fd ["_law_rows","_law_gaps_here","_law_tips_here","_law_at"] sp_one:=by
 have S:=sc__law_one_does
 k_head
 ·obtain⟨d,g,t,m,q,a,rfl,_⟩:=h
  rfl
 ·obtain⟨d,g,t,m,q,a,rfl,hR,hG,hT,hs,hg,hn,hdp,htn,k⟩:=h
  have hr__law_quotient:Room 2 _:=hr
  have hu:=hu_of hr
  have hql:=sub_len hs
  have fsi:=fit_some_iff hg hn hs htn
  refine⟨_,(Za1 (ps_for PassesOwn.never rfl (pi_listK (K:=K) rfl (pv 2)) (pg_name (i:=4) S.nd rfl (Or.inl rfl)) (Za5 (ps_if (pt_not (pt_val (pe_bm PySem.F.plainAttrs_str PySem.F.slot_str_startswith PySem.F.type_str_startswith mt_starts (pv 3) (Za0 (pv 4) Za2)))) (Za5 (Za9 pe_bl)) Zb9)))
   (Za1 (Zb4 (i:=5) S.nd rfl (Or.inl rfl) pe_non)
   (Za1 (ps_for PassesOwn.never rfl (pi_range1 rfl A.n_range (Za0 (Zc3 call_len_str (by rfl) A.n_len bt_len (Za0 (pv 3) Za2)) Za2)) (pg_name (i:=6) S.nd rfl (Or.inl rfl)) (Za1 (Zb4 (i:=7) S.nd rfl (Or.inl rfl) (Zc1 F__law_quotient hr__law_quotient Zc2 (Za0 (pe_dget hu (pv 1) (pe_slice sl_str (pv 3) po_none (po_some (pv 6))) (fun _ _=>rfl)) (Za0 (Zb6 (ixT (K:=K) rfl) (pe_dget hu (pv 0) (pe_slice sl_str (pv 3) po_none (po_some (pv 6))) (fun _ _=>rfl)) Za3 (fun _ _=>rfl)) Za2))))
   (Za1 (ps_if (Zb7 op_eq (Zb6 ix_str (pv 3) (pv 6) (fun _ _=>rfl)) Zc7 (Zc6 _)) (Za5 (Zb4 (i:=7) S.nd rfl (Or.inl rfl) (Zc1 F__law_quotient hr__law_quotient Zc2 (Za0 (pe_tup (Za0 (pe_un un_neg (Zb6 (ixT (K:=K) rfl) (pe_dget hu (pv 1) (pe_slice sl_str (pv 3) po_none (po_some (pv 6))) (fun _ _=>rfl)) Za3 (fun _ _=>rfl))) (Za0 (Zb6 (ixT (K:=K) rfl) (pe_dget hu (pv 1) (pe_slice sl_str (pv 3) po_none (po_some (pv 6))) (fun _ _=>rfl)) Za3 (fun _ _=>rfl)) Za2))) (Za0 (Zb6 (ixT (K:=K) rfl) (pe_dget hu (pv 0) (pe_slice sl_str (pv 3) po_none (po_some (pv 6))) (fun _ _=>rfl)) Za3 (fun _ _=>rfl)) Za2))))) Zb9)
   (Za1 (ps_if (pt_cmp (pc_isN (pv 5))) (Za5 (Zb4 (i:=5) S.nd rfl (Or.inl rfl) (pv 7))) Zb9)
   (Za5 (ps_if (Zb7 (op_neF hu) (pv 7) (pv 5) (Zc6 _)) (Za5 (Za9 pe_bl)) Zb9))))))
   (Za5 (Za9 pe_bl))))),?_⟩
  k_one
  refine⟨⟨_,SqL.of hT⟩,?_⟩
  refine for_listN (xs:=((tips (Zb5 m)).map mkS).map .str) (fun i σ H'=>∃ o4,σ=[some (.ref d),some (.ref g),some (.ref t),some (.str (mkS q)),o4,none,none,none]/\H'=H/\∀ p∈(tips (Zb5 m)).take i,p.isPrefixOf q=true) ⟨none,rfl,rfl,fun p hp=>by simp at hp⟩ ?_ ?_ ?_
  ·rintro i σ H' hi ⟨o4,rfl,rfl,_⟩
   exact SqL.of hT
  ·rintro i x σ H' N hx ⟨o4,rfl,rfl,hpre⟩ hN
   rw[List.getElem?_map,List.getElem?_map] at hx
   cases hp:(tips (Zb5 m))[i]? with
   | none=>rw[hp] at hx;cases hx
   | some p=>
    rw[hp] at hx
    cases hx
    k_one
    refine⟨rfl,starts_mk ⟨_,rfl,?_⟩⟩
    cases hpx:p.isPrefixOf q with
    | true=>
     first | rw[if_pos rfl] | rw[if_neg ⋯]
     refine hN _ _ ⟨_,rfl,rfl,fun p' hp'=>?_⟩
     rw[List.take_succ,hp,Option.toList_some] at hp'
     rcases List.mem_append.mp hp' with hp' | hp'
     ·exact hpre p' hp'
     ·rw[List.mem_singleton.mp hp'];exact hpx
    | false=>
     first | rw[if_pos rfl] | rw[if_neg ⋯]
     have hfn:(fitM m q a).isSome=false:=by
      cases z:(fitM m q a).isSome with
      | false=>rfl
      | true=>
       have:=(fsi.mp z).1 p (List.mem_of_getElem? hp)
       rw[hpx] at this
       cases this
     have:=k H' (fun _ _ z=>z)
     rw[hfn] at this
     exact this
  ·rintro σ H' ⟨o4,rfl,rfl,hpre⟩
   rw[List.length_map,List.length_map,List.take_length] at hpre
   k_one
   simp only[L2.iRng1]
   k_one
   refine⟨by rw[Zc4,sizeLine_eq];omega,?_⟩
   rw[Zc4]
   refine⟨by omega,by omega,?_⟩
   rw[Int.toNat_natCast]
   refine for_rangeN (fun i σ H1=>∃ fv o6 o7,σ=[some (.ref d),some (.ref g),some (.ref t),some (.str (mkS q)),o4,some fv,o6,o7]/\Same H' H1/\(i=0->fv = .non)/\(0<i->FrV H1 fv (lackP m q []))/\∀ p∈(prefs q).take i,lackP m q p=lackP m q []) ⟨.non,none,none,rfl,fun _ _ z=>z,fun _=>rfl,fun z=>absurd z ⋯,fun p hp=>by simp at hp⟩ ?_ ?_
   ·rintro i σ H1 N hi ⟨fv,o6,o7,rfl,sm,hf0,hf1,hall⟩ hN
    have hpg:=prefs_get hi
    have hpm:q.take i∈prefs q:=List.mem_of_getElem? hpg
    obtain⟨lf,x,rf,y,c,tt,hsp,hqe,hct⟩:=way_rod hs hpm
    have hpl:(q.take i).length=i:=by rw[List.length_take];omega
    have hc:c=108\/c=114:=hct.imp (·.1) (·.1)
    generalize hpd:q.take i=p at hpg hpm hsp hqe hpl
    obtain⟨al,ar,gx,gy⟩:=Mo.All.sub hg hsp
    have tn:=Mo.sub_nw hsp
    simp only[Mo.nw] at tn
    have hprod:p∈rps m:=by rw[←rps_pre hs] at hpm;exact (List.mem_filter.mp hpm).1
    have eg:gapP m p=Zc8 (Zb1 rf y.heft) (Zb1 lf x.heft):=by unfold gapP;rw[hsp]
    have pb1:=pullb gx al
    have pb2:=pullb gy ar
    have d1:Qb DD ((y.nw+x.nw:Nat)*BB) (gapP m p):=by
     rw[eg]
     have:=pb2.minus pb1
     rwa [←Int.add_mul,←Int.natCast_add] at this
    have gs:=big_small d1 ∅
    have sl:=al.small
    have sr:=ar.small
    have hlk:lackP m q p=lack c lf x.heft rf y.heft:=by
     unfold lackP
     rw[hsp]
     dsimp only
     rw[hqe,signAt_app]
    k_one
    refine⟨_,rfl,by rw[Zc4,sizeLine_eq];omega,?_⟩
    rw[slice_toN q i ∅,hpd]
    refine (hG.same sm).get (List.mem_reverse.mpr hprod) fun v1 f1=>?_
    refine⟨_,rfl,by rw[Zc4,sizeLine_eq];omega,?_⟩
    rw[slice_toN q i ∅,hpd]
    refine rows_get (hR.same sm) hsp fun v2 f2=>row0 f2 fun v3 f3=>?_
    refine⟨v1,v3,_,_,rfl,f1,f3,d1.b,al.t,gs.1,gs.2,sl.1.mono ⋯,sl.2.mono ⋯,fun v4 H2 sm2 f4=>?_⟩
    have s2:=sm.trans sm2
    k_one
    have isr:(V.str (mkS [c])=V.str ("r" : Str))=(c=114):=by rw[s_r,V.str.injEq,mkS_inj];simp
    have fin:∀ (v5:V) (H3:Hp),Same H2 H3->FrV H3 v5 (lackP m q p)->Rst [some (.ref d),some (.ref g),some (.ref t),some (.str (mkS q)),o4,some fv,some (.int (i:Int)),some v5] H3:=by
     intro v5 H3 sm3 f5
     refine hRst _ _ ?_
     clear hRst
     k_one
     have hpt:∀ p'∈(prefs q).take (i+1),p'∈(prefs q).take i\/p'=p:=fun p' hp'=>by
      rw[List.take_succ,hpg,Option.toList_some] at hp'
      exact (List.mem_append.mp hp').imp id List.mem_singleton.mp
     by_cases hi0:i=0
     ·have hfv:=hf0 hi0
      subst hfv
      simp only[L2.tIsN]
      k_one
      have hp0:p=[]:=by rw[←hpd,hi0];rfl
      refine⟨_,_,_,_,f5,f5,_,rfl,?_⟩
      rw[show ∀ f:Fr,(!decide (f.1=f.1/\f.2=f.2))=false from fun f=>by simp,if_neg ⋯]
      refine hN _ _ ⟨v5,_,_,rfl,s2.trans sm3,fun z=>absurd z ∅,fun _=>by rw[←hp0];exact f5,fun p' hp'=>?_⟩
      rcases hpt p' hp' with h | h
      ·exact hall p' h
      ·rw[h,hp0]
     ·have hf:=hf1 ∅
      obtain⟨pf,rfl,hpf⟩:=id hf
      simp only[L2.tIsN]
      k_one
      have s3:=s2.trans sm3
      have hf3:FrV H3 (.ref pf) (lackP m q []):=hf.same (sm2.trans sm3)
      refine⟨_,_,_,_,f5,hf3,_,rfl,?_⟩
      have ed:decide ((lackP m q p).1=(lackP m q []).1/\(lackP m q p).2=(lackP m q []).2)=decide (lackP m q p=lackP m q []):=by rw[decide_eq_decide,Prod.ext_iff]
      rw[ed]
      by_cases he:lackP m q p=lackP m q []
      ·rw[decide_eq_true he,if_neg ⋯]
       refine hN _ _ ⟨.ref pf,_,_,rfl,s3,fun z=>absurd z ∅,fun _=>hf3,fun p' hp'=>?_⟩
       rcases hpt p' hp' with h | h
       ·exact hall p' h
       ·rw[h];exact he
      ·rw[decide_eq_false he,Bool.not_false,if_pos rfl]
       have hfn:(fitM m q a).isSome=false:=by
        cases z:(fitM m q a).isSome with
        | false=>rfl
        | true=>exact absurd ((fsi.mp z).2 p hpm) he
       have:=k H3 s3
       rw[hfn] at this
       exact this
    have hrl:rIxS (.str (mkS q)) (.int (i:Int)) H2=rIxS (.str (mkS (p++c::tt))) (.int (p.length:Int)) H2:=by rw[←hqe,hpl]
    rw[hrl]
    refine ixS_at (by rw[←hqe];omega) ⟨rfl,?_⟩
    clear hRst
    rcases hc with rfl | rfl
    ·rw[if_neg (fun z=>by rw[isr] at z;exact absurd z ⋯)]
     refine fin v4 H2 (fun _ _ z=>z) ?_
     rw[hlk]
     unfold lack
     rw[if_pos rfl,←eg]
     exact f4
    ·rw[if_pos (by rw[isr])]
     obtain⟨pv,rfl,hpv⟩:=id f1
     have hpv2:=sm2 _ _ hpv
     refine⟨_,rfl,by rw[Zc4,sizeLine_eq];omega,?_⟩
     rw[slice_toN q i ∅,hpd]
     refine (hG.same s2).get (List.mem_reverse.mpr hprod) fun v6 f6=>?_
     obtain⟨p6,rfl,hp6⟩:=f6
     refine sq0 (SqT.of hp6) ⟨_,rfl,_,rfl,by rw[Zc4,sizeLine_eq];omega,?_⟩
     rw[slice_toN q i ∅,hpd]
     refine (hG.same s2).get (List.mem_reverse.mpr hprod) fun v7 f7=>?_
     obtain⟨p7,rfl,hp7⟩:=f7
     refine sq1 (SqT.of hp7) ⟨by decide,fun p8 hp8=>⟨_,rfl,by rw[Zc4,sizeLine_eq];omega,?_⟩⟩
     rw[slice_toN q i ∅,hpd]
     have s8:=Za7 (o:=.tup [.int (-(gapP m p).1),.int (gapP m p).2]) hp8
     refine rows_get ((hR.same s2).same s8) hsp fun v9 f9=>row1 f9 fun v10 f10=>?_
     refine⟨.ref p8,v10,(-(gapP m p).1,(gapP m p).2),_,rfl,⟨p8,rfl,Za4⟩,f10,d1.b,ar.t,(by show Sm 4000 (-(gapP m p).1);unfold Sm;rw[Int.natAbs_neg];exact gs.1),gs.2,sr.1.mono ⋯,sr.2.mono ⋯,fun v11 H3 sm3 f11=>?_⟩
     refine fin v11 H3 (s8.trans sm3) ?_
     rw[hlk]
     unfold lack
     rw[if_neg ⋯,←minus_neg (Lw.times ar.b (heft_lp gy).lw.b).b (Lw.times al.b (heft_lp gx).lw.b).b,←eg]
     exact f11
   ·rintro σ H1 ⟨fv,o6,o7,rfl,sm,hf0,hf1,hall⟩
    k_one
    have:(fitM m q a).isSome=true:=fsi.mpr ⟨hpre,fun p hp=>hall p (by rw[←prefs_len q,List.take_length];exact hp)⟩
    have z:=k H1 sm
    rw[this] at z
    exact z
theorem row_put_wt {m:Mo}{p:Pl}{a b:Fr}(h:m.sub p=some (.wt b)) (q:Pl):(m.put p (.wt a)).rowAt q=if q=p then some [a] else m.rowAt q:=by
 by_cases hp:p <+: q
 ·obtain⟨u,rfl⟩:=hp
  unfold Mo.rowAt
  rw[Mo.sub_put m p _ u ⟨_,h⟩,Mo.sub_app,h,Option.bind_some]
  cases u with
  | nil=>rw[List.append_nil,if_pos rfl];rfl
  | cons c u=>rw[if_neg (by simp)];rfl
 ·rw[if_neg (by rintro rfl;exact hp (List.prefix_refl _))]
  exact Mo.row_put_off m p _ q hp
theorem row_put_rod {m:Mo}{p:Pl}{l r l' r':Fr}{x y:Mo}(h:m.sub p=some (.rod l x r y)) (q:Pl):(m.put p (.rod l' x r' y)).rowAt q=if q=p then some [l',r'] else m.rowAt q:=by
 by_cases hp:p <+: q
 ·obtain⟨u,rfl⟩:=hp
  unfold Mo.rowAt
  rw[Mo.sub_put m p _ u ⟨_,h⟩,Mo.sub_app,h,Option.bind_some]
  cases u with
  | nil=>rw[List.append_nil,if_pos rfl];rfl
  | cons c u=>rw[if_neg (by simp)];simp only[Mo.sub]
 ·rw[if_neg (by rintro rfl;exact hp (List.prefix_refl _))]
  exact Mo.row_put_off m p _ q hp
def sp_bput:Sp:=fun vs H Q E=>∃ d m dv q a f,vs=[.ref d,dv,.str (mkS q)]/\RowsAt H d m/\DeedV H dv (.put q f)/\m.sub q=some (.wt a)/\0<f.1/\Lw f/\Sm 4000 f.2/\m.nw<=100/\∀ e H',H e=none->Same H H'->RowsAt H' e (m.put q (.wt f))->Q (.ref e) H'
theorem sc__law_behind_put:Zb0 ["_law_rows","_law_deed","_law_at","_law_found"] ["_law_rows","_law_deed","_law_at"] (Za6 (top 69)):=nofun
theorem ok_bput (A:Adr K mg) {f:Addr}{fd:FuncData}(F:Fun K "_law_behind_put" "_law_behind_put" (top 69) f fd) (F__law_is_fraction:Fnc P w K mg base "_law_is_fraction" 2 ["_law_found"] [] sp_isfr):FnOk P w K mg base (CX1 P w) 3 f fd ["_law_rows","_law_deed","_law_at"] sp_bput:=by
 have S:=sc__law_behind_put
 k_head
 ·obtain⟨d,m,dv,q,a,f,rfl,_⟩:=h
  rfl
 ·obtain⟨d,m,dv,q,a,f,rfl,hR,hdv,hs,f0,lf,sf,hn,k⟩:=h
  have hr__law_is_fraction:Room 2 _:=hr
  have hu:=hu_of hr
  obtain⟨p,u,rfl,hp,fu⟩:=hdv
  refine⟨_,(Za1 (ps_if (PW.pt (pw_or (pt_not (pt_val (Zc3 (isiK (K:=K) rfl) (by rfl) A.n_isinstance Zd1 (Za0 (pv 1) (Za0 (pe_bltn (v:=.ty "tuple") rfl A.n_tuple bt_tuple rfl) Za2))))) (pw_or (Zb7 op_ne (Zc3 (lenK (K:=K) rfl) (by rfl) A.n_len bt_len (Za0 (pv 1) Za2)) Za3 (Zc6 _)) (pw_or (Zb7 op_ne (Zb6 (ixT (K:=K) rfl) (pv 1) Za3 (fun _ _=>rfl)) Zc7 (Zc6 _)) (pw_or1 (Zb7 op_ne (Zb6 (ixT (K:=K) rfl) (pv 1) Za3 (fun _ _=>rfl)) (pv 2) (Zc6 _))))))) (Za5 (Za9 pe_non)) Zb9)
   (Za1 (ps_if (PW.pt (pw_or (pt_not (pt_val (Zc3 (isiK (K:=K) rfl) (by rfl) A.n_isinstance Zd1 (Za0 (Zb6 (ixT (K:=K) rfl) (pv 1) Za3 (fun _ _=>rfl)) (Za0 (pe_bltn (v:=.ty "str") rfl A.n_str bt_str rfl) Za2))))) (pw_or (pt_not (pt_val (Zc1 F__law_is_fraction hr__law_is_fraction Zc2 (Za0 (Zb6 (ixT (K:=K) rfl) (pv 1) Za3 (fun _ _=>rfl)) Za2)))) (pw_or1 (Zb7 op_lt (Zb6 (ixT (K:=K) rfl) (Zb6 (ixT (K:=K) rfl) (pv 1) Za3 (fun _ _=>rfl)) Za3 (fun _ _=>rfl)) Za3 (Zc6 _)))))) (Za5 (Za9 pe_non)) Zb9)
   (Za1 (Zb4 (i:=3) S.nd rfl (Or.inl rfl) (pe_callTy call_dictOf (by rfl) A.n_dict bt_dict (Za0 (pv 0) Za2)))
   (Za1 (ps_dput hu (pv 3) (pv 2) (pe_tup (Za0 (Zb6 (ixT (K:=K) rfl) (pv 1) Za3 (fun _ _=>rfl)) Za2)) rfl)
   (Za5 (Za9 (pv 3))))))),?_⟩
  k_one
  refine isi_ok (.of (.tup hp)) rfl A.t_tt ?_
  k_one
  refine len_ok (.inr ⟨_,SqT.of hp,rfl⟩) ?_
  k_one
  refine sq0 (SqT.of hp) ?_
  k_one
  refine sq1 (SqT.of hp) ?_
  k_one
  refine sq1 (SqT.of hp) ?_
  k_one
  refine isi_ok (.of (.str _)) rfl A.t_ss ?_
  k_one
  refine sq2 (SqT.of hp) ?_
  k_one
  refine⟨u,f,rfl,fu,lf,sf,fun H1 sm1=>?_⟩
  k_one
  refine sq2 (SqT.of (sm1 _ _ hp)) ?_
  k_one
  obtain⟨pu,rfl,hpu⟩:=id fu
  refine sq0 (SqT.of (sm1 _ _ hpu)) ?_
  k_one
  rw[if_neg ∅]
  refine hRst _ _ ?_
  clear hRst
  k_one
  obtain⟨kvs,hRd,hRk⟩:=hR.same sm1
  have hsz:=hRk.size
  refine⟨d,kvs,rfl,hRd,fun e he=>?_⟩
  have s2:=Za7 (o:=.dK kvs) he
  have e2:upd H1 e (.dK kvs) e=some (.dK kvs):=Za4
  have hHe:H e=none:=by
   cases z:H e with
   | none=>rfl
   | some o=>rw[sm1 _ _ z] at he;cases he
  generalize upd H1 e (.dK kvs)=H2 at s2 e2 ⊢
  have s02:=sm1.trans s2
  k_one
  refine sq2 (SqT.of (s02 _ _ hp)) ⟨by decide,fun p3 hp3=>?_⟩
  have s3:=Za7 (o:=.tup [.ref pu]) hp3
  have e3:=s3 _ _ e2
  have hv:RowV (upd H2 p3 (.tup [.ref pu])) (.ref p3) [f]:=.one Za4 ((fu.same s02).upd hp3)
  generalize upd H2 p3 (.tup [.ref pu])=H3 at s3 e3 hv ⊢
  refine dput_ok e3 ∅ ?_
  have kp:Kp H3 (upd H3 e (.dK (putK kvs (.inr (mkS q)) (.ref p3)))):=Kp.dK e3
  k_one
  refine k e _ hHe (fun b o z=>by rw[Zb8 (Za8 z hHe)];exact s3 _ _ (s02 _ _ z)) ⟨_,.inl Za4,?_⟩
  exact (((hRk.kp s2.kp).kp s3.kp).put hv (row_put_wt hs)).kp kp
def sp_bshift:Sp:=fun vs H Q E=>∃ d m dv q l x r y f,vs=[.ref d,dv,.str (mkS q)]/\RowsAt H d m/\DeedV H dv (.shift q f)/\m.sub q=some (.rod l x r y)/\Ar l/\Ar r/\LvOk l r f/\m.nw<=100/\∀ e H',H e=none->Same H H'->RowsAt H' e (m.put q (.rod (Zd0 l f) x (Zc8 r f) y))->Q (.ref e) H'
theorem sc__law_behind_shift:Zb0 ["_law_rows","_law_deed","_law_at","_law_found"] ["_law_rows","_law_deed","_law_at"] (Za6 (top 70)):=nofun
theorem ok_bshift (A:Adr K mg) {f:Addr}{fd:FuncData}(F:Fun K "_law_behind_shift" "_law_behind_shift" (top 70) f fd) (F__law_is_fraction:Fnc P w K mg base "_law_is_fraction" 2 ["_law_found"] [] sp_isfr) (F__law_sum:Fnc P w K mg base "_law_sum" 2 ["_law_one","_law_other"] [] sp_sum)
  (F__law_less:Fnc P w K mg base "_law_less" 3 ["_law_one","_law_other"] [] sp_less):FnOk P w K mg base (CX1 P w) 4 f fd ["_law_rows","_law_deed","_law_at"] sp_bshift:=by
 have S:=sc__law_behind_shift
 k_head
 ·obtain⟨d,m,dv,q,l,x,r,y,f,rfl,_⟩:=h
  rfl
 ·obtain⟨d,m,dv,q,l,x,r,y,f,rfl,hR,hdv,hs,al,ar,fl,hn,k⟩:=h
  have hr__law_is_fraction:Room 2 _:=hr.mono ⋯
  have hr__law_sum:Room 2 _:=hr.mono ⋯
  have hr__law_less:Room 3 _:=hr
  have hu:=hu_of hr
  have sl:=al.small
  have sr:=ar.small
  obtain⟨p,u,rfl,hp,fu⟩:=hdv
  refine⟨_,(Za1 (ps_if (PW.pt (pw_or (pt_not (pt_val (Zc3 (isiK (K:=K) rfl) (by rfl) A.n_isinstance Zd1 (Za0 (pv 1) (Za0 (pe_bltn (v:=.ty "tuple") rfl A.n_tuple bt_tuple rfl) Za2))))) (pw_or (Zb7 op_ne (Zc3 (lenK (K:=K) rfl) (by rfl) A.n_len bt_len (Za0 (pv 1) Za2)) Za3 (Zc6 _)) (pw_or (Zb7 op_ne (Zb6 (ixT (K:=K) rfl) (pv 1) Za3 (fun _ _=>rfl)) Zc7 (Zc6 _)) (pw_or1 (Zb7 op_ne (Zb6 (ixT (K:=K) rfl) (pv 1) Za3 (fun _ _=>rfl)) (pv 2) (Zc6 _))))))) (Za5 (Za9 pe_non)) Zb9)
   (Za1 (ps_if (PW.pt (pw_or (pt_not (pt_val (Zc3 (isiK (K:=K) rfl) (by rfl) A.n_isinstance Zd1 (Za0 (Zb6 (ixT (K:=K) rfl) (pv 1) Za3 (fun _ _=>rfl)) (Za0 (pe_bltn (v:=.ty "str") rfl A.n_str bt_str rfl) Za2))))) (pw_or1 (pt_not (pt_val (Zc1 F__law_is_fraction hr__law_is_fraction Zc2 (Za0 (Zb6 (ixT (K:=K) rfl) (pv 1) Za3 (fun _ _=>rfl)) Za2))))))) (Za5 (Za9 pe_non)) Zb9)
   (Za1 (Zb4 (i:=3) S.nd rfl (Or.inl rfl) (pe_callTy call_dictOf (by rfl) A.n_dict bt_dict (Za0 (pv 0) Za2)))
   (Za1 (ps_dput hu (pv 3) (pv 2) (pe_tup (Za0 (Zc1 F__law_sum hr__law_sum Zc2 (Za0 (Zb6 (ixT (K:=K) rfl) (pe_dget hu (pv 0) (pv 2) (fun _ _=>rfl)) Za3 (fun _ _=>rfl)) (Za0 (Zb6 (ixT (K:=K) rfl) (pv 1) Za3 (fun _ _=>rfl)) Za2))) (Za0 (Zc1 F__law_less hr__law_less Zc2 (Za0 (Zb6 (ixT (K:=K) rfl) (pe_dget hu (pv 0) (pv 2) (fun _ _=>rfl)) Za3 (fun _ _=>rfl)) (Za0 (Zb6 (ixT (K:=K) rfl) (pv 1) Za3 (fun _ _=>rfl)) Za2))) Za2))) rfl)
   (Za1 (ps_if (PW.pt (pw_or (Zb7 op_lt (Zb6 (ixT (K:=K) rfl) (Zb6 (ixT (K:=K) rfl) (pe_dget hu (pv 3) (pv 2) (fun _ _=>rfl)) Za3 (fun _ _=>rfl)) Za3 (fun _ _=>rfl)) Za3 (Zc6 _)) (pw_or1 (Zb7 op_lt (Zb6 (ixT (K:=K) rfl) (Zb6 (ixT (K:=K) rfl) (pe_dget hu (pv 3) (pv 2) (fun _ _=>rfl)) Za3 (fun _ _=>rfl)) Za3 (fun _ _=>rfl)) Za3 (Zc6 _))))) (Za5 (Za9 pe_non)) Zb9)
   (Za5 (Za9 (pv 3)))))))),?_⟩
  k_one
  refine isi_ok (.of (.tup hp)) rfl A.t_tt ?_
  k_one
  refine len_ok (.inr ⟨_,SqT.of hp,rfl⟩) ?_
  k_one
  refine sq0 (SqT.of hp) ?_
  k_one
  refine sq1 (SqT.of hp) ?_
  k_one
  refine sq1 (SqT.of hp) ?_
  k_one
  refine isi_ok (.of (.str _)) rfl A.t_ss ?_
  k_one
  refine sq2 (SqT.of hp) ?_
  k_one
  refine⟨u,f,rfl,fu,fl.lw,fl.s2.mono ⋯,fun H1 sm1=>?_⟩
  k_one
  obtain⟨kvs,hRd,hRk⟩:=hR.same sm1
  have hsz:=hRk.size
  refine⟨d,kvs,rfl,hRd,fun e he=>?_⟩
  have s2:=Za7 (o:=.dK kvs) he
  have e2:upd H1 e (.dK kvs) e=some (.dK kvs):=Za4
  have hHe:H e=none:=by
   cases z:H e with
   | none=>rfl
   | some o=>rw[sm1 _ _ z] at he;cases he
  generalize upd H1 e (.dK kvs)=H2 at s2 e2 ⊢
  have s02:=sm1.trans s2
  k_one
  refine rows_get (hR.same s02) hs fun va ha=>row0 ha fun x0 hx0=>?_
  refine sq2 (SqT.of (s02 _ _ hp)) ?_
  refine⟨x0,u,_,_,rfl,hx0,fu.same s02,al.b,fl.lw.b,sl.1.mono ⋯,sl.2.mono ⋯,fl.s1.mono ⋯,fl.s2.mono ⋯,fun w1 H3 sm3 f1=>?_⟩
  have s03:=s02.trans sm3
  refine rows_get (hR.same s03) hs fun vb hb=>row1 hb fun x1 hx1=>?_
  refine sq2 (SqT.of (s03 _ _ hp)) ?_
  refine⟨x1,u,_,_,rfl,hx1,fu.same s03,ar.b,fl.lw.b,sr.1.mono ⋯,sr.2.mono ⋯,fl.s1.mono ⋯,fl.s2.mono ⋯,fun w2 H4 sm4 f2=>?_⟩
  refine⟨by decide,fun p5 hp5=>?_⟩
  have s5:=Za7 (o:=.tup [w1,w2]) hp5
  have e5:=s5 _ _ (sm4 _ _ (sm3 _ _ e2))
  have hv:RowV (upd H4 p5 (.tup [w1,w2])) (.ref p5) [Zd0 l f,Zc8 r f]:=.two Za4 ((f1.same sm4).upd hp5) (f2.upd hp5)
  have s25:=(sm3.trans sm4).trans s5
  generalize upd H4 p5 (.tup [w1,w2])=H5 at s5 e5 hv s25 ⊢
  refine dput_ok e5 ∅ ?_
  have kp:Kp H5 (upd H5 e (.dK (putK kvs (.inr (mkS q)) (.ref p5)))):=Kp.dK e5
  have RK:RowsK (upd H5 e (.dK (putK kvs (.inr (mkS q)) (.ref p5)))) (putK kvs (.inr (mkS q)) (.ref p5)) (m.put q (.rod (Zd0 l f) x (Zc8 r f) y)):=(((hRk.kp s2.kp).kp s25.kp).put hv (row_put_rod hs)).kp kp
  have R6:RowsAt (upd H5 e (.dK (putK kvs (.inr (mkS q)) (.ref p5)))) e (m.put q (.rod (Zd0 l f) x (Zc8 r f) y)):=⟨_,.inl Za4,RK⟩
  have s06:Same H (upd H5 e (.dK (putK kvs (.inr (mkS q)) (.ref p5)))):=fun b o z=>by rw[Zb8 (Za8 z hHe)];exact s25 _ _ (s02 _ _ z)
  have hsub:(m.put q (.rod (Zd0 l f) x (Zc8 r f) y)).sub q=some (.rod (Zd0 l f) x (Zc8 r f) y):=by
   have:=Mo.sub_put m q (.rod (Zd0 l f) x (Zc8 r f) y) [] ⟨_,hs⟩
   rwa [List.append_nil,Mo.sub_nil] at this
  generalize upd H5 e (.dK (putK kvs (.inr (mkS q)) (.ref p5)))=H6 at kp RK R6 s06 ⊢
  k_one
  refine rows_get R6 hsub fun v3 h3=>row0 h3 fun x3 hx3=>?_
  obtain⟨p3,rfl,hp3⟩:=hx3
  have pp:=fl.p
  have pm:=fl.m
  refine sq0 (SqT.of hp3) ⟨_,rfl,?_⟩
  rw[if_neg ∅]
  refine rows_get R6 hsub fun v4 h4=>row1 h4 fun x4 hx4=>?_
  obtain⟨p4,rfl,hp4⟩:=hx4
  refine sq0 (SqT.of hp4) ⟨_,rfl,?_⟩
  rw[if_neg ∅]
  refine hRst _ _ ?_
  clear hRst
  k_one
  exact k e H6 hHe s06 R6
def fitsAt (m:Mo) (q:Pl):Bool:=match m.sub q with
 | some (.wt a)=>(fitM m q a).isSome
 | _=>false
def onesM (m:Mo):List Pl:=(wps m).filter (fitsAt m)
theorem fits_wt {m:Mo}{q:Pl}{a:Fr}(h:m.sub q=some (.wt a)):fitsAt m q=(fitM m q a).isSome:=by unfold fitsAt;rw[h]
theorem find_ones {m:Mo}:∀ {ps:List Pl},(findFit m ps).map (·.1)=(ps.filter (fitsAt m)).head?
 | []=>rfl
 | q::ps=>by
  have ih:=find_ones (m:=m) (ps:=ps)
  rw[find_cons,List.filter_cons]
  cases hs:m.sub q with
  | none=>
   have e1:fitsAt m q=false:=by unfold fitsAt;rw[hs]
   rw[e1]
   exact ih
  | some t=>
   cases t with
   | rod l x r y=>
    have e1:fitsAt m q=false:=by unfold fitsAt;rw[hs]
    rw[e1]
    exact ih
   | wt a=>
    rw[fits_wt hs]
    dsimp only
    cases hf:fitM m q a with
    | none=>exact ih
    | some f=>rfl
theorem ones_eq (m:Mo):onesM m=m.places.filter (fitsAt m):=by
 unfold onesM wps
 rw[List.filter_filter]
 apply List.filter_congr
 intro q _
 unfold fitsAt
 cases hs:m.sub q with
 | none=>simp
 | some t=>
  cases t with
  | rod l x r y=>simp
  | wt a=>simp[isWP_iff.mpr ⟨a,hs⟩]
theorem ones_find {m:Mo}:(findFit m m.places).map (·.1)=(onesM m).head?:=by rw[ones_eq];exact find_ones
theorem out_shift {m m':Mo}{q:Pl}{f:Fr}(h:outOf m (.shift q f) = .ok m'):∃ l x r y,m.sub q=some (.rod l x r y)/\0<(Zd0 l f).1/\0<(Zc8 r f).1/\m'=m.put q (.rod (Zd0 l f) x (Zc8 r f) y):=by
 simp only[outOf] at h
 split at h
 ·rename_i l x r y e
  split at h
  ·rename_i c
   cases h
   exact⟨l,x,r,y,e,c.1,c.2,rfl⟩
  ·cases h
 ·cases h
def sp_behind:Sp:=fun vs H Q E=>∃ d ld us m,vs=[.ref d,.ref ld]/\RowsAt H d m/\H ld=some (.lst us)/\Paired (DeedV H) us (mendsM m)/\Good 64 m/\m.nw<=100/\m.depth<=64/\∀ e H',Same H H'->RowsAt H' e (mendedM m)->Q (.ref e) H'
theorem sc__law_behind:Zb0 ["_law_rows","_law_deeds","_law_gaps_here","_law_tips_here","_law_spots","_law_ones","_law_deed","_law_at"] ["_law_rows","_law_deeds"] (Za6 (top 71)):=nofun
theorem ok_behind (A:Adr K mg) {f:Addr}{fd:FuncData}(F:Fun K "_law_behind" "_law_behind" (top 71) f fd) (F__law_gaps:Fnc P w K mg base "_law_gaps" 4 ["_law_rows"] [] sp_gaps) (F__law_one_does:Fnc P w K mg base "_law_one_does" 3 ["_law_rows","_law_gaps_here","_law_tips_here","_law_at"] [] sp_one)
  (F__law_behind_put:Fnc P w K mg base "_law_behind_put" 3 ["_law_rows","_law_deed","_law_at"] [] sp_bput) (F__law_behind_shift:Fnc P w K mg base "_law_behind_shift" 4 ["_law_rows","_law_deed","_law_at"] [] sp_bshift):FnOk P w K mg base (CX1 P w) 5 f fd ["_law_rows","_law_deeds"] sp_behind:=by
 have S:=sc__law_behind
 k_head
 ·obtain⟨d,ld,us,m,rfl,_⟩:=h
  rfl
 ·obtain⟨d,ld,us,m,rfl,hR,hld,hP,hg,hn,hdp,k⟩:=h
  have hr__law_gaps:Room 4 _:=hr
  have hr__law_one_does:Room 3 _:=hr.mono ⋯
  have hr__law_behind_put:Room 3 _:=hr.mono ⋯
  have hr__law_behind_shift:Room 4 _:=hr
  have hu:=hu_of hr
  have gt:=am_gt (good_bg hg)
  obtain⟨st,R⟩:=mends_run hg hn hdp
  have hpl0:=Mo.places_length m
  refine⟨_,(Za1 (Zb4 (i:=2) S.nd rfl (Or.inr rfl) (Zc1 F__law_gaps hr__law_gaps Zc2 (Za0 (pv 0) Za2)))
   (Za1 (Zb4 (i:=3) S.nd rfl (Or.inr rfl) (pe_comp (tv:=["_law_place"]) (cap:=[2]) (compOk_of (Za6 (top 71)) ["_law_rows","_law_deeds","_law_gaps_here","_law_tips_here","_law_spots","_law_ones","_law_deed","_law_at"] rfl rfl (by ac_nf) (by rfl)) rfl (pi_listK (K:=K) rfl (Zc3 (call_sorted rfl) (by rfl) A.n_sorted bt_sorted (Za0 (pv 2) Za2))) (fun _ _ _=>(pg_name (i:=0) (show (["_law_place","_law_gaps_here"]:List Str).Nodup by ac_nf) rfl (Or.inl rfl) (Or.inr rfl))) (fun _ _ _=>(pts_one (Zb7 op_ne (Zb6 (ixT (K:=K) rfl) (pe_dget hu (pv 1) (pv 0) (fun _ _=>rfl)) Za3 (fun _ _=>rfl)) Za3 (Zc6 _)))) (fun _ _ _=>(pv 0))))
   (Za1 (ps_if (Zb7 (op_eqSLK (K:=K) rfl hu) (pv 3) (pe_lst Za2) (Zc6 _)) (Za5 (Za9 (Zb6 (ixL (K:=K) rfl) (pe_lst (Za0 pe_non (Za0 (pv 0) Za2))) (pe_callTy call_int1 (by rfl) A.n_int bt_int (Za0 (pe_cmpR (op_eqNil (K:=K) rfl hu) (pv 1) (pe_lst Za2) (Zc6 _)) Za2)) (fun _ _=>rfl)))) Zb9)
   (Za1 (ps_setC (i:=4) S.nd rfl rfl (tv:=["_law_place"]) (cap:=[0]) (compOk_of (Za6 (top 71)) ["_law_rows","_law_deeds","_law_gaps_here","_law_tips_here","_law_spots","_law_ones","_law_deed","_law_at"] rfl rfl (by ac_nf) (by rfl)) rfl (pi_listK (K:=K) rfl (Zc3 (call_sorted rfl) (by rfl) A.n_sorted bt_sorted (Za0 (pv 0) Za2))) (fun _ _ _=>(pg_name (i:=0) (show (["_law_place","_law_rows"]:List Str).Nodup by ac_nf) rfl (Or.inl rfl) (Or.inr rfl))) (fun _ _ _=>(pts_one (Zb7 op_eq (Zc3 (lenK (K:=K) rfl) (by rfl) A.n_len bt_len (Za0 (pe_dget hu (pv 1) (pv 0) (fun _ _=>rfl)) Za2)) Za3 (Zc6 _)))) (fun _ _ _=>(pv 0)) (by rfl))
   (Za1 (ps_setC (i:=5) S.nd rfl rfl (tv:=["_law_at"]) (cap:=[0,2,3]) (compOk_of (Za6 (top 71)) ["_law_rows","_law_deeds","_law_gaps_here","_law_tips_here","_law_spots","_law_ones","_law_deed","_law_at"] rfl rfl (by ac_nf) (by rfl)) rfl (pi_listK (K:=K) rfl (pv 4)) (fun _ _ _=>(pg_name (i:=0) (show (["_law_at","_law_rows","_law_gaps_here","_law_tips_here"]:List Str).Nodup by ac_nf) rfl (Or.inl rfl) (Or.inr rfl))) (fun _ _ _=>(pts_one (pt_val (Zc1 F__law_one_does hr__law_one_does Zc2 (Za0 (pv 1) (Za0 (pv 2) (Za0 (pv 3) (Za0 (pv 0) Za2)))))))) (fun _ _ _=>(pv 0)) (by rfl))
   (Za1 (ps_if (Zb7 (op_neSLK (K:=K) rfl hu) (pv 5) (pe_lst Za2) (Zc6 _)) (Za1 (ps_if (Zb7 op_ne (Zc3 (lenK (K:=K) rfl) (by rfl) A.n_len bt_len (Za0 (pv 1) Za2)) Za3 (Zc6 _)) (Za5 (Za9 pe_non)) Zb9)
   (Za5 (Za9 (Zc1 F__law_behind_put hr__law_behind_put Zc2 (Za0 (pv 0) (Za0 (Zb6 (ixL (K:=K) rfl) (pv 1) Za3 (fun _ _=>rfl)) (Za0 (Zb6 (ixL (K:=K) rfl) (pv 5) Za3 (fun _ _=>rfl)) Za2))))))) Zb9)
   (Za1 (ps_if (Zb7 op_ne (Zc3 (lenK (K:=K) rfl) (by rfl) A.n_len bt_len (Za0 (pv 1) Za2)) (Zc3 (lenK (K:=K) rfl) (by rfl) A.n_len bt_len (Za0 (pv 3) Za2)) (Zc6 _)) (Za5 (Za9 pe_non)) Zb9)
   (Za1 (ps_for PassesOwn.never rfl (pi_zip (by rfl) A.n_zip (Za0 (pv 1) (Za0 (pv 3) Za2))) (pg_tupK (K:=K) (n:=2) rfl rfl (pgs_cons (pg_name (i:=6) S.nd rfl (Or.inl rfl) (Or.inr rfl)) (pgs_cons (pg_name (i:=7) S.nd rfl (Or.inl rfl) (Or.inr rfl)) pgs_nil))) (Za5 (ps_if (pt_cmp (pc_notN (pv 0))) (Za5 (Zb4 (i:=0) S.nd rfl (Or.inr rfl) (Zc1 F__law_behind_shift hr__law_behind_shift Zc2 (Za0 (pv 0) (Za0 (pv 6) (Za0 (pv 7) Za2)))))) Zb9)))
   (Za5 (Za9 (pv 0))))))))))),?_⟩
  k_one
  refine⟨d,m,rfl,hR,hn,gt,fun g H1 hg1 sm1 hG=>?_⟩
  k_one
  refine gaps_sorted hG hn fun l hl=>?_
  have sL:=Za7 (o:=.lst (((rps m).map mkS).map .str)) hl
  refine⟨l,rfl,⟨_,SqL.of Za4⟩,fun D hD=>gap_comp (SqL.of Za4) hD (hG.same sL) gt hn ?_⟩
  have sD:=sL.trans (Za7 (o:=.lst (((tips (Zb5 m)).map mkS).map .str)) hD)
  have eD:upd (upd H1 l (.lst (((rps m).map mkS).map .str))) D (.lst (((tips (Zb5 m)).map mkS).map .str)) D=some (.lst (((tips (Zb5 m)).map mkS).map .str)):=Za4
  generalize upd (upd H1 l (.lst (((rps m).map mkS).map .str))) D (.lst (((tips (Zb5 m)).map mkS).map .str))=H2 at sD eD ⊢
  have s02:=sm1.trans sD
  have G2:=hG.same sD
  k_one
  refine⟨by decide,fun z hz=>?_⟩
  have sz:=Za7 (o:=.lst []) hz
  have eD3:=sz _ _ eD
  refine⟨D,z,(tips (Zb5 m)).map mkS,[],rfl,rfl,SqL.of eD3,SqL.of Za4,?_⟩
  generalize upd H2 z (.lst [])=H3 at sz eD3 ⊢
  have s03:=s02.trans sz
  have G3:=G2.same sz
  k_one
  by_cases c0:tips (Zb5 m)=[]
  ·simp only[c0,List.map_nil,decide_true,if_true]
   have em:mendsM m=[]:=by unfold mendsM;rw[if_pos c0]
   have ed:mendedM m=m:=by unfold mendedM;rw[if_pos c0]
   rw[em] at hP
   cases hP
   k_one
   refine⟨by decide,fun p hp=>⟨by decide,fun p2 hp2=>?_⟩⟩
   have s1:=Za7 (o:=.lst [.non,.ref d]) hp
   have s2:=Za7 (o:=.lst []) hp2
   have s05:=(s03.trans s1).trans s2
   refine⟨ld,p2,[],rfl,rfl,SqL.of (s05 _ _ hld),SqL.of Za4,.inr ⟨true,rfl,?_⟩⟩
   rw[if_pos rfl]
   exact⟨p,[.non,.ref d],1,_,rfl,rfl,SqL.of (s2 _ _ Za4),atI_nat (j:=1) rfl,k d _ s05 (by rw[ed];exact hR.same s05)⟩
  ·have c0':¬((tips (Zb5 m)).map mkS=[]):=by simpa using c0
   simp only[c0',decide_false,Bool.false_eq_true,if_false]
   k_one
   refine sorted_ok (hR.same s03) ∅ fun l2 hl2=>?_
   have sL2:=Za7 (o:=.lst ((m.places.map mkS).map .str)) hl2
   k_one
   refine⟨⟨_,SqL.of Za4⟩,fun D2 hD2=>?_⟩
   refine comp_fm (xs:=m.places.map mkS) (fun x=>isWP m (toP x)) .str (places_small m ∅) hD2 (SqL.of Za4) (fun x hx ys R q=>?_) (fun x hx _ ys R q=>?_) ?_
   ·obtain⟨p,hp,rfl⟩:=List.mem_map.mp hx
    obtain⟨t,ht⟩:=(Mo.mem_places m p).mp hp
    rw[toP_mk] at q
    k_one
    refine rows_get (((hR.same s03).same sL2).same (Za7 hD2)) ht fun v hv=>?_
    k_one
    refine len_ok (LenV.row hv) ?_
    k_one
    rw[wtest ht]
    exact q
   ·k_one
    exact q
   rw[wps_str]
   have s4:Same H3 (upd (upd H3 l2 (.lst ((m.places.map mkS).map .str))) D2 (.lst (((wps m).map mkS).map .str))):=fun b o e=>Za7 hD2 b o (sL2 b o e)
   have eD4:upd (upd H3 l2 (.lst ((m.places.map mkS).map .str))) D2 (.lst (((wps m).map mkS).map .str)) D2=some (.lst (((wps m).map mkS).map .str)):=Za4
   generalize upd (upd H3 l2 (.lst ((m.places.map mkS).map .str))) D2 (.lst (((wps m).map mkS).map .str))=H4 at s4 eD4 ⊢
   have s04:=s03.trans s4
   have G4:=G3.same s4
   k_one
   refine⟨⟨_,SqL.of eD4⟩,fun D5 hD5=>?_⟩
   have hR4:=hR.same s04
   obtain⟨od,hod⟩:=hR4.there
   have n5d:d≠D5:=Za8 hod hD5
   have n5g:g≠D5:=by
    obtain⟨kv,z1,_⟩:=id G4
    exact Za8 z1 hD5
   have eD':=s4 _ _ eD3
   have n5t:D≠D5:=Za8 eD' hD5
   have n52:D2≠D5:=Za8 eD4 hD5
   have hwl:(wps m).length<=m.places.length:=List.length_filter_le ..
   refine comp_any (xs:=((wps m).map mkS).map .str) (fun i ys σ H'=>(∃ o,σ=[o,some (.ref d),some (.ref g),some (.ref D)])/\ys=((((wps m).take i).filter (fitsAt m)).map mkS).map .str/\H' D5=some (.lst ys)/\Wk D5 H4 H') (by rw[List.length_map,List.length_map,sizeLine_eq];omega)
    ⟨⟨_,rfl⟩,rfl,Za4,fun b o hb z=>by rw[Zb8 hb];exact z,(Za7 hD5).kp⟩ ?_ ?_ ?_ ?_
   ·rintro i ys σ H' ⟨_,rfl,z1,_⟩
    refine⟨z1,?_⟩
    have h1:(((wps m).take i).filter (fitsAt m)).length<=((wps m).take i).length:=List.length_filter_le ..
    rw[List.length_take] at h1
    simp only[List.length_map]
    omega
   ·rintro i ys σ H' hi ⟨_,_,_,wk⟩
    exact SqL.of (wk.sx _ _ n52 eD4)
   ·rintro i x ys σ H' N hx ⟨⟨o,rfl⟩,rfl,z1,wk⟩ hN
    rw[List.getElem?_map,List.getElem?_map] at hx
    cases hq:(wps m)[i]? with
    | none=>rw[hq] at hx;cases hx
    | some q=>
     rw[hq] at hx
     cases hx
     obtain⟨a,hs⟩:=mem_wps.mp (List.mem_of_getElem? hq)
     k_one
     refine⟨d,g,D,m,q,a,rfl,hR4.wk wk n5d,G4.wk wk n5g,wk.sx _ _ n5t eD',hs,hg,hn,hdp,c0,fun H6 sm6=>⟨_,rfl,?_⟩⟩
     have hsn:((wps m).take (i+1)).filter (fitsAt m)=((wps m).take i).filter (fitsAt m)++(if fitsAt m q=true then [q] else []):=by
      rw[List.take_succ,hq,Option.toList_some,List.filter_append]
      congr 1
      rw[List.filter_cons]
      rfl
     rw[←fits_wt hs]
     have z6:=sm6 _ _ z1
     have wk6:Wk D5 H4 H6:=wk.trans (.of sm6)
     by_cases hfit:fitsAt m q=true
     ·rw[if_pos hfit] at hsn ⊢
      refine⟨z6,hN _ _ _ ⟨⟨_,rfl⟩,by rw[hsn];simp,Za4,fun b o hb z=>by rw[Zb8 hb];exact wk6.sx b o hb z,wk6.kp.trans (.lst z6)⟩⟩
     ·rw[if_neg hfit] at hsn ⊢
      exact hN _ _ _ ⟨⟨_,rfl⟩,by rw[hsn,List.append_nil],z6,wk6⟩
   rintro ys σ H5 ⟨_,rfl,z1,wk5⟩
   rw[List.length_map,List.length_map,List.take_length] at z1
   change H5 D5=some (.lst (((onesM m).map mkS).map .str)) at z1
   have s05:Same H H5:=fun b o z=>wk5.sx b o (Za8 (s04 _ _ z) hD5) (s04 _ _ z)
   have eD5:H5 D=some (.lst (((tips (Zb5 m)).map mkS).map .str)):=wk5.sx _ _ n5t eD'
   k_one
   refine⟨by decide,fun z5 hz5=>?_⟩
   have s6:=Za7 (o:=.lst []) hz5
   have z16:=s6 _ _ z1
   have eD6:=s6 _ _ eD5
   refine⟨D5,z5,(onesM m).map mkS,[],rfl,rfl,SqL.of z16,SqL.of Za4,_,rfl,?_⟩
   generalize upd H5 z5 (.lst [])=H6 at s6 z16 eD6 ⊢
   have s06:=s05.trans s6
   have hld6:=s06 _ _ hld
   have hof:=ones_find (m:=m)
   have hP6:Paired (DeedV H6) us (mendsM m):=Paired.mapP hP fun _ _ z=>z.kp s06.kp
   cases ho:onesM m with
   | cons p ps=>
    rw[ho] at hof z16
    obtain⟨f,hf⟩:∃ f,findFit m m.places=some (p,f):=by
     cases hff:findFit m m.places with
     | none=>rw[hff] at hof;cases hof
     | some r=>
      obtain⟨p',f⟩:=r
      rw[hff] at hof
      have:p'=p:=by simpa using hof
      exact⟨f,by rw[this]⟩
    have em:mendsM m=[.put p f]:=by unfold mendsM;rw[if_neg c0,hf]
    have ed:mendedM m=m.put p (.wt f):=by unfold mendedM;rw[if_neg c0,hf]
    obtain⟨_,a,hs,hfit⟩:=find_mem hf
    have fo:=fit_ok hg hn hs c0 hfit
    obtain⟨dq,d0,d1,bq⟩:=fo.qb
    have bs:=wq_small bq d0 d1
    rw[em] at hP6
    obtain⟨u,rfl⟩:∃ u,us=[u]:=by
     cases hP6 with
     | cons _ t=>cases t;exact⟨_,rfl⟩
    have hdv:DeedV H6 u (.put p f):=by cases hP6;assumption
    rw[if_pos (by simp)]
    clear hRst
    k_one
    refine len_ok (.inl ⟨_,SqL.of hld6,rfl⟩) ?_
    k_one
    refine⟨ld,_,0,u,rfl,rfl,SqL.of hld6,atI_nat (j:=0) rfl,?_⟩
    refine⟨D5,_,0,_,rfl,rfl,SqL.of z16,atI_nat (j:=0) rfl,?_⟩
    exact⟨d,m,u,p,a,f,rfl,hR.same s06,hdv,hs,fo.pos,bq.lw,bs.2.mono ⋯,hn,fun e H7 he sm7 hR7=>k e H7 (s06.trans sm7) (by rw[ed];exact hR7)⟩
   | nil=>
    rw[ho] at hof
    have hf:findFit m m.places=none:=by
     cases hff:findFit m m.places with
     | none=>rfl
     | some r=>rw[hff] at hof;cases hof
    have em:mendsM m=shiftsOf m (tips (Zb5 m)):=by unfold mendsM;rw[if_neg c0,hf]
    rw[if_neg (by simp)]
    have hul:us.length=(tips (Zb5 m)).length:=by
     have:=hP6.length
     rw[em] at this
     unfold shiftsOf at this
     rw[List.length_map] at this
     exact this
    refine hRst _ _ ?_
    clear hRst
    k_one
    refine len_ok (.inl ⟨_,SqL.of hld6,rfl⟩) ?_
    k_one
    refine len_ok (.inl ⟨_,SqL.of eD6,rfl⟩) ?_
    k_one
    have htl:(((tips (Zb5 m)).map mkS).map V.str).length=(tips (Zb5 m)).length:=by rw[List.length_map,List.length_map]
    rw[if_neg ∅]
    refine hRst _ _ ?_
    clear hRst
    k_one
    refine⟨us,SqL.of hld6,_,SqL.of eD6,?_⟩
    refine for_zipN ∅ (fun i σ H'=>∃ e o6 o7,σ=[some (.ref e),some (.ref ld),some (.ref g),some (.ref D),some (.ref D2),some (.ref D5),o6,o7]/\Same H6 H'/\RowsAt H' e (st i)) ⟨d,none,none,rfl,fun _ _ z=>z,by rw[R.zero];exact hR.same s06⟩ ?_ ?_ ?_
    ·rintro i σ H' hi ⟨e,o6,o7,rfl,sm,_⟩
     exact⟨SqL.of (sm _ _ hld6),SqL.of (sm _ _ eD6)⟩
    ·rintro i x y T σ H' N hx hy ⟨e,o6,o7,rfl,sm,hRi⟩ hT0 hN
     obtain⟨de,hde,hdv⟩:=paired_get hP6 hx
     have hout:=R.out i de hde
     have harm:=R.arm i
     have hfits:=R.fits de (List.mem_of_getElem? hde)
     rw[List.getElem?_map,List.getElem?_map] at hy
     cases hp:(tips (Zb5 m))[i]? with
     | none=>rw[hp] at hy;cases hy
     | some p=>
      rw[hp] at hy
      cases hy
      have hde':de = .shift p (lvlAt m p):=by
       rw[em] at hde
       unfold shiftsOf at hde
       rw[List.getElem?_map,hp] at hde
       cases hde
       rfl
      subst hde'
      obtain⟨l0,x0,r0,y0,hs0⟩:=tips_rod (List.mem_of_getElem? hp)
      have el:lvlAt m p=lvl l0 x0.heft r0 y0.heft:=by unfold lvlAt;rw[hs0]
      obtain⟨_,_,flk⟩:=lv_ok hg hn hs0
      obtain⟨lf,xm,rf,ym,hsub,pp,pm,hst⟩:=out_shift hout
      obtain⟨al,ar⟩:=harm p _ hde lf xm rf ym hsub
      have fl:LvOk lf rf (lvlAt m p):=⟨by rw[el];exact flk.lw,by rw[el];exact flk.s1,by rw[el];exact flk.s2,pp,pm⟩
      have smT:Same H6 (upd H' T (.tup [x,.str (mkS p)])):=sm.trans (Za7 hT0)
      have hRT:=hRi.same (Za7 (o:=.tup [x,.str (mkS p)]) hT0)
      k_one
      refine⟨_,SqT.of Za4,rfl,_,_,rfl,_,_,rfl,rfl,?_⟩
      generalize upd H' T (.tup [x,.str (mkS p)])=H7 at smT hRT ⊢
      simp only[L2.tNotN]
      k_one
      refine⟨e,st i,x,p,lf,xm,rf,ym,lvlAt m p,rfl,hRT,hdv.kp smT.kp,hsub,al,ar,fl,(R.dep i).2,fun e' H8 he' sm8 hR8=>?_⟩
      exact hN _ _ ⟨e',_,_,rfl,smT.trans sm8,by rw[hst];exact hR8⟩
    ·rintro σ H' ⟨e,o6,o7,rfl,sm,hRi⟩
     k_one
     refine k e H' (s06.trans sm) ?_
     have:=R.last
     rw[←hP6.length] at this
     rw[←this]
     exact hRi
theorem p1900:2 ^ 1900<=10 ^ 572:=by ac_nf
theorem fr_len9 {f:Fr}(h:S19 f):(frT f).length<=1145:=by
 have p:=p1900
 have h1:f.1.toNat<10 ^ 572:=by
  have:=h.1
  unfold Sm at this
  have:f.1.toNat<=f.1.natAbs:=by omega
  omega
 have h2:f.2.toNat<10 ^ 572:=by
  have:=h.2
  unfold Sm at this
  have:f.2.toNat<=f.2.natAbs:=by omega
  omega
 have:=fr_len (i:=572) (j:=572) ⋯ ⋯ h1 h2
 omega
theorem mo_len9:∀ {m:Mo},m.All S19 S19->(moT m).length+2295<=m.nw*3440
 | .wt f,h=>by
  have:=fr_len9 (show S19 f from h)
  simp only[moT,Mo.nw]
  omega
 | .rod l x r y,h=>by
  have h1:=fr_len9 h.1
  have h2:=fr_len9 h.2.1
  have h3:=mo_len9 h.2.2.1
  have h4:=mo_len9 h.2.2.2
  simp only[moT,Mo.nw,List.length_append,List.length_cons,List.length_nil]
  omega
structure MendOk (m:Mo):Prop where
 gt:Gt (mendedM m)
 level:tips (Zb5 (mendedM m))=[]
 nw:(mendedM m).nw=m.nw
 depth:(mendedM m).depth=m.depth
 lo:LoM (mendedM m)
 s:(mendedM m).All S19 S19
theorem am_s19 {f:Fr}(h:Am 64 f):S19 f:=by
 have h1:=h.s
 have h2:=h.l
 have h3:gT 64<2 ^ 1900:=by ac_nf
 exact⟨small_of h.t ∅,small_of h.b ∅⟩
theorem bg_s19 {f:Fr}(h:Bg f):S19 f:=h.small
theorem lv_lo {m:Mo}(hg:Good 64 m) (hn:m.nw<=100) (S:Pl->Bool):(lv m S).All (Am 64) Lo:=by
 refine lv_all (fun _ z=>ar_lo z) hg fun {l r x y p} h=>?_
 obtain⟨al,ar,fl⟩:=lv_ok hg hn h
 have h1:=Lw.plus (x:=l) (y:=lvl l x.heft r y.heft) al.b fl.lw.b
 have h2:=Lw.minus (x:=r) (y:=lvl l x.heft r y.heft) ar.b fl.lw.b
 exact⟨⟨fl.p,h1.b,h1.g⟩,⟨fl.m,h2.b,h2.g⟩⟩
theorem mended_ok {m:Mo}(hg:Good 64 m) (hn:m.nw<=100):MendOk m:=by
 by_cases c0:tips (Zb5 m)=[]
 ·have ed:mendedM m=m:=by unfold mendedM;rw[if_pos c0]
  refine⟨by rw[ed];exact am_gt (good_bg hg),by rw[ed];exact c0,by rw[ed],by rw[ed],by rw[ed];exact good_lo hg,by rw[ed];exact Mo.All.mono (fun _ z=>am_s19 z) (fun _ z=>bg_s19 (ar_bg z)) hg⟩
 ·cases hf:findFit m m.places with
  | some r=>
   obtain⟨p,f⟩:=r
   obtain⟨_,a,hs,hfit⟩:=find_mem hf
   have fo:=fit_ok hg hn hs c0 hfit
   obtain⟨d,d0,d1,bq⟩:=fo.qb
   have bs:=wq_small bq d0 d1
   have ed:mendedM m=m.put p (.wt f):=by unfold mendedM;rw[if_neg c0,hf]
   have hnw:=Mo.nw_put m p (.wt f) _ hs
   simp only[Mo.nw] at hnw
   rw[show MendOk m=MendOk m from rfl]
   refine⟨by rw[ed];exact put_gt hg d0 d1 bq,by rw[ed];exact put_all_level hg hs fo,by rw[ed];omega,by rw[ed];exact depth_put (s:=.wt f) hs rfl,?_,?_⟩
   ·rw[ed]
    exact all_put (good_lo hg) ⟨fo.pos,bq.lw.b,bq.lw.g⟩
   ·rw[ed]
    exact all_put (Mo.All.mono (fun _ z=>am_s19 z) (fun _ z=>bg_s19 (ar_bg z)) hg) ⟨bs.1.mono ⋯,bs.2.mono ⋯⟩
  | none=>
   have ed:mendedM m=lv m fun q=>decide (q∈tips (Zb5 m)):=by unfold mendedM;rw[if_neg c0,hf]
   refine⟨by rw[ed];exact am_gt (lv_bg hg hn _),by rw[ed];exact lv_level hg fun p hp=>decide_eq_true hp,by rw[ed];exact lv_nw _ _,by rw[ed];exact lv_depth _ _,?_,?_⟩
   ·rw[ed]
    exact Mo.All.mono (fun _ z=>am_lo z) (fun _ z=>z) (lv_lo hg hn _)
   ·rw[ed]
    exact Mo.All.mono (fun _ z=>am_s19 z) (fun _ z=>bg_s19 z) (lv_bg hg hn _)
theorem mends_len {m:Mo}(hn:m.nw<=100):(mendsM m).length<=1000:=by
 have h1:=pulls_few hn
 have h2:=tips_le (Zb5 m)
 unfold mendsM
 split
 ·simp
 ·split
  ·simp
  ·unfold shiftsOf
   rw[List.length_map]
   omega
theorem deed_tr {H:Hp}{us:List V}{ds:List Deed}(h:Paired (DeedV H) us ds):Paired (TrV H) us (ds.map fun d=>match d with | .put q a=>(("put" : Str),mkS q,a) | .shift q a=>(("shift" : Str),mkS q,a)):=by
 induction h with
 | nil=>exact .nil
 | @cons x d _ _ h _ ih=>
  refine .cons ?_ ih
  cases d with
  | put q a=>obtain⟨p,u,h1,h2,h3⟩:=h;exact⟨p,u,h1,h2,h3⟩
  | shift q a=>obtain⟨p,u,h1,h2,h3⟩:=h;exact⟨p,u,h1,h2,h3⟩
def sp_law (K:PySem.W.Frag):Sp:=fun vs H Q E=>∃ (a:Addr) (ns:List Int),vs=[.ref a]/\SqL K H a (ns.map V.int)/\ns.length<=63/\∀ H',Q (.bl true) H'
theorem sc_law:Zb0 ["_law_script","_law_head","_law_kind","_law_rows","_law_mobile","_law_arms_here","_law_found","_law_kept","_law_behind_here","_law_made_here","_law_text"] ["_law_script"] (Za6 (top 72)):=nofun
theorem ok_law (A:Adr K mg) {f:Addr}{fd:FuncData}(F:Fun K "law" "law" (top 72) f fd) (F__law_cell_at:Fnc P w K mg base "_law_cell_at" 1 ["_law_script","_law_k"] [] (sp_cell K)) (F__law_mixed:Fnc P w K mg base "_law_mixed" 1 ["_law_cell","_law_factor"] [] sp_mixed)
  (F__law_grown:Fnc P w K mg base "_law_grown" 3 ["_law_script","_law_kind","_law_shape"] [] (sp_grown K)) (F__law_tipped:Fnc P w K mg base "_law_tipped" 3 ["_law_rows","_law_kind","_law_number_here"] [] sp_tipped) (F__law_written:Fnc P w K mg base "_law_written" 67 ["_law_rows","_law_place"] [] (sp_written 64))
  (F_read:Fnc P w K mg base "read" 132 ["text"] [] (sp_read A.c_NoText A.c_Weight A.c_Rod)) (F__law_made:Fnc P w K mg base "_law_made" 69 ["_law_rows","_law_place","_law_kept"] [] (sp_made A.c_Weight A.c_Rod 64))
  (F__law_ends:Fnc P w K mg base "_law_ends" 3 ["_law_head","_law_kind"] [] sp_ends) (F__law_twice:Fnc P w K mg base "_law_twice" 1 ["_law_rows","_law_arms_here"] [] sp_twice) (M_Rod:Mkr P w K mg base "Rod" A.c_Rod 3 ["self","left_arm","left","right_arm","right"] [] (sp_rinit A.c_NoNumber A.c_Rod))
  (F_mends:Fnc P w K mg base "mends" 72 ["mobile"] [] (sp_mends A.c_Weight A.c_Rod)) (F__law_behind:Fnc P w K mg base "_law_behind" 5 ["_law_rows","_law_deeds"] [] sp_behind) (F__law_tips:Fnc P w K mg base "_law_tips" 5 ["_law_rows"] [] sp_ltips)
  (F_mended:Fnc P w K mg base "mended" 73 ["mobile"] [] (sp_mended A.c_Weight A.c_Rod)) (F_shown:Fnc P w K mg base "shown" 67 ["mobile"] [] (sp_shown A.c_Weight A.c_Rod 64)):FnOk P w K mg base (CX1 P w) 133 f fd ["_law_script"] (sp_law K):=by
 have S:=sc_law
 k_head
 ·obtain⟨a,ns,rfl,_⟩:=h
  rfl
 ·obtain⟨a,ns,rfl,hs,hn,k⟩:=h
  have hr__law_cell_at:Room 1 _:=hr.mono ⋯
  have hr__law_mixed:Room 1 _:=hr.mono ⋯
  have hr__law_grown:Room 3 _:=hr.mono ⋯
  have hr__law_tipped:Room 3 _:=hr.mono ⋯
  have hr__law_written:Room 67 _:=hr.mono ⋯
  have hr_read:Room 132 _:=hr
  have hr__law_made:Room 69 _:=hr.mono ⋯
  have hr__law_ends:Room 3 _:=hr.mono ⋯
  have hr__law_twice:Room 1 _:=hr.mono ⋯
  have hr_Rod:Room 4 _:=hr.mono ⋯
  have hr_mends:Room 72 _:=hr.mono ⋯
  have hr__law_behind:Room 5 _:=hr.mono ⋯
  have hr__law_tips:Room 5 _:=hr.mono ⋯
  have hr_mended:Room 73 _:=hr.mono ⋯
  have hr_shown:Room 67 _:=hr.mono ⋯
  have hu:=hu_of hr
  refine⟨_,(Za1 (Zb4 (i:=1) S.nd rfl (Or.inl rfl) (Zc0 op_mod (Zc1 F__law_cell_at hr__law_cell_at Zc2 (Za0 (pv 0) (Za0 Za3 Za2))) Za3))
   (Za1 (Zb4 (i:=2) S.nd rfl (Or.inl rfl) (Zc0 op_mod (pv 1) Za3))
   (Za1 (Zb4 (i:=3) S.nd rfl (Or.inl rfl) (Zc1 F__law_grown hr__law_grown Zc2 (Za0 (pv 0) (Za0 (pv 2) (Za0 (Zc0 op_mod (Zc0 op_fdivP (pv 1) Za3) Za3) Za2)))))
   (Za1 (Zb4 (i:=3) S.nd rfl (Or.inl rfl) (Zc1 F__law_tipped hr__law_tipped Zc2 (Za0 (pv 3) (Za0 (pv 2) (Za0 (Zc1 F__law_mixed hr__law_mixed Zc2 (Za0 (Zc1 F__law_cell_at hr__law_cell_at Zc2 (Za0 (pv 0) (Za0 Za3 Za2))) (Za0 Za3 Za2))) Za2)))))
   (Za1 (Zb4 (i:=4) S.nd rfl (Or.inl rfl) (Zc1 F_read hr_read Zc2 (Za0 (Zc1 F__law_written hr__law_written Zc2 (Za0 (pv 3) (Za0 Zc7 Za2))) Za2)))
   (Za1 (ps_if (Zb7 op_eq (Zc0 op_mod (Zc0 op_fdivP (pv 1) Za3) Za3) Za3 (Zc6 _)) (Za1 (Zb4 (i:=4) S.nd rfl (Or.inl rfl) (Zc1 F__law_made hr__law_made Zc2 (Za0 (pv 3) (Za0 Zc7 (Za0 (Zb6 (ixL (K:=K) rfl) (pe_lst (Za0 pe_non (Za0 pe_dnewT Za2))) (Zc0 op_mod (Zc0 op_fdivP (pv 1) Za3) Za3) (fun _ _=>rfl)) Za2)))))
   (Za5 (ps_if (Zb7 op_lt (Zc3 call_lenD (by rfl) A.n_len bt_len (Za0 (pv 3) Za2)) Za3 (Zc6 _)) (Za1 (Zb4 (i:=5) S.nd rfl (Or.inl rfl) (Zc1 F__law_ends hr__law_ends Zc2 (Za0 (pv 1) (Za0 (pv 2) Za2))))
   (Za1 (Zb4 (i:=4) S.nd rfl (Or.inl rfl) (pe_mk M_Rod hr_Rod Zc2 (Za0 (Zb6 (ixT (K:=K) rfl) (pv 5) Za3 (fun _ _=>rfl)) (Za0 (pv 4) (Za0 (Zb6 (ixT (K:=K) rfl) (pv 5) Za3 (fun _ _=>rfl)) (Za0 (pv 4) Za2))))))
   (Za5 (Zb4 (i:=3) S.nd rfl (Or.inl rfl) (Zc1 F__law_twice hr__law_twice Zc2 (Za0 (pv 3) (Za0 (pv 5) Za2))))))) Zb9))) Zb9)
   (Za1 (Zb4 (i:=6) S.nd rfl (Or.inl rfl) (Zc1 F_mends hr_mends Zc2 (Za0 (pv 4) Za2)))
   (Za1 (ps_if (pt_not (pt_val (Zc3 (isiK (K:=K) rfl) (by rfl) A.n_isinstance Zd1 (Za0 (pv 6) (Za0 (pe_bltn (v:=.ty "list") rfl A.n_list bt_list rfl) Za2))))) (Za5 (Za9 pe_bl)) Zb9)
   (Za1 (Zb4 (i:=7) S.nd rfl (Or.inl rfl) (pe_callTy (listK (K:=K) rfl) (by rfl) A.n_list bt_list (Za0 (pv 6) Za2)))
   (Za1 (Zb4 (i:=8) S.nd rfl (Or.inl rfl) (Zc1 F__law_behind hr__law_behind Zc2 (Za0 (pv 3) (Za0 (pv 7) Za2))))
   (Za1 (ps_if (PW.pt (pw_or (pt_cmp (pc_isN (pv 8))) (pw_or1 (Zb7 (op_neSLK (K:=K) rfl hu) (Zc1 F__law_tips hr__law_tips Zc2 (Za0 (pv 8) Za2)) (pe_lst Za2) (Zc6 _))))) (Za5 (Za9 pe_bl)) Zb9)
   (Za1 (ps_expr (pe_bm PySem.F.plainAttrs_list PySem.F.slot_list_append PySem.F.type_list_append mt_append (pv 6) (Za0 pe_non Za2)))
   (Za1 (Zb4 (i:=9) S.nd rfl (Or.inl rfl) (Zc1 F_mended hr_mended Zc2 (Za0 (pv 4) Za2)))
   (Za1 (Zb4 (i:=10) S.nd rfl (Or.inl rfl) (Zc1 F_shown hr_shown Zc2 (Za0 (pv 9) Za2)))
   (Za1 (ps_if (PW.pt (pw_or (pt_not (pt_val (Zc3 (isiK (K:=K) rfl) (by rfl) A.n_isinstance Zd1 (Za0 (pv 10) (Za0 (pe_bltn (v:=.ty "str") rfl A.n_str bt_str rfl) Za2))))) (pw_or1 (Zb7 op_ne (pv 10) (Zc1 F__law_written hr__law_written Zc2 (Za0 (pv 8) (Za0 Zc7 Za2))) (Zc6 _))))) (Za5 (Za9 pe_bl)) Zb9)
   (Za5 (Za9 (pe_and (pe_cmpR (op_eqNil (K:=K) rfl hu) (Zc1 F_mends hr_mends Zc2 (Za0 (pv 9) Za2)) (pe_lst Za2) (Zc6 _)) (pe_and (pe_cmpR op_eq (Zc1 F_shown hr_shown Zc2 (Za0 (pv 4) Za2)) (Zc1 F__law_written hr__law_written Zc2 (Za0 (pv 3) (Za0 Zc7 Za2))) (Zc6 _)) (pe_one (pe_cmpR (op_eqDeeds (K:=K) rfl hr.units) (Zc1 F_mends hr_mends Zc2 (Za0 (pv 4) Za2)) (pv 7) (Zc6 _)))))))))))))))))))))),?_⟩
  k_one
  refine⟨a,ns,0,rfl,hs,?_⟩
  k_one
  generalize ns.getD 0 0 % 1000003=hd at hRst ⊢
  k_one
  refine⟨⟨by decide,by ac_nf⟩,a,ns,_,_,rfl,hs,hn,fun d m kvs H1 hd0 sm1 ed hr1 g hgs hnw=>?_⟩
  k_one
  refine⟨a,ns,1,rfl,sm1.sql hs,?_⟩
  k_one
  refine⟨_,_,rfl,by decide,by decide,fun n n0 n1=>?_⟩
  k_one
  refine⟨d,m,kvs,_,n,rfl,ed,hr1,hnw,g,hgs,n0,fun m2 kvs2 H2 W2 ed2 hr2 g2 hn2=>?_⟩
  k_one
  have R2:RowsAt H2 d m2:=⟨kvs2,.inl ed2,hr2⟩
  have X:=txt_ok g2 ∅
  have hdp:=Mo.depth_lt m2
  have e0:("" : Str)=mkS []:=s_empty
  simp only[e0]
  refine⟨d,[],m2,m2,rfl,R2,Mo.sub_nil m2,by omega,by decide,X.lo,X.s7,by have:=X.len;omega,?_⟩
  k_one
  refine⟨moT m2,rfl,X.len,X.run,X.cnt,fun m' hm' v H3 sm3 t3=>?_,fun hno=>absurd X.self (hno m2)⟩
  rw[X.self] at hm'
  cases hm'
  k_one
  have main:∀ (d:Addr) (v:V) (m:Mo) (kvs:List (Key×V)) (o5:Option V) (H0:Hp),Th A.c_Weight A.c_Rod H0 v m->H0 d=some (.dK kvs)->RowsK H0 kvs m->Good 64 m->m.nw<=64 ->
    Rst [some (.ref a),some (.int hd),some (.int (hd % 5)),some (.ref d),some v,o5,none,none,none,none,none] H0:=by
   intro d v m kvs o5 H0 t0 ed0 hr0 hg hnw
   have hdp:=Mo.depth_lt m
   have mo:=mended_ok hg ∅
   have X:=txt_ok hg hnw
   have len9:(moT (mendedM m)).length<=240000:=by
    have:=mo_len9 mo.s
    rw[mo.nw] at this
    omega
   have R0:RowsAt H0 d m:=⟨kvs,.inl ed0,hr0⟩
   refine hRst _ _ ?_
   clear hRst
   k_one
   refine⟨v,m,rfl,t0,by omega,by omega,good_gq hg,.inr hg,fun lf us H1 hlf sm1 elf hP=>?_⟩
   k_one
   refine isi_ok (.of (.lst elf)) rfl A.t_ll ?_
   k_one
   refine⟨lf,us,rfl,.inl (SqL.of elf),fun lk hlk=>?_⟩
   have sK:=Za7 (o:=.lst us) hlk
   have eK:upd H1 lk (.lst us) lk=some (.lst us):=Za4
   have nkf:lk≠lf:=fun z=>by rw[z,elf] at hlk;cases hlk
   generalize upd H1 lk (.lst us)=H2 at sK eK ⊢
   have s02:=sm1.trans sK
   have hP2:Paired (DeedV H2) us (mendsM m):=Paired.mapP hP fun _ _ z=>z.kp sK.kp
   k_one
   refine⟨d,lk,us,m,rfl,R0.same s02,eK,hP2,hg,by omega,by omega,fun e H3 sm3 hRe=>?_⟩
   have s03:=s02.trans sm3
   k_one
   simp only[L2.tIsN]
   k_one
   rw[if_neg (by intro z;cases z)]
   refine⟨e,mendedM m,rfl,hRe,by rw[mo.nw];omega,mo.gt,fun t H4 sm4 et=>⟨by decide,fun z hz=>?_⟩⟩
   have sz:=Za7 (o:=.lst []) hz
   refine⟨t,z,(tips (Zb5 (mendedM m))).map mkS,[],rfl,rfl,SqL.of (sz _ _ et),SqL.of Za4,_,rfl,?_⟩
   rw[mo.level,if_neg ⋯]
   generalize upd H4 z (.lst [])=H5 at sz ⊢
   have s35:=sm4.trans sz
   have s05:=s03.trans s35
   have elf5:=s35 _ _ (sm3 _ _ (sK _ _ elf))
   have eK5:=s35 _ _ (sm3 _ _ eK)
   have hul:=hP.length
   have hml:=mends_len (m:=m) ∅
   refine hRst _ _ ?_
   clear hRst
   k_one
   refine⟨.inl ⟨rfl,us,SqL.of elf5⟩,?_⟩
   refine⟨lf,us,_,rfl,rfl,elf5,by rw[sizeLine_eq];omega,?_⟩
   have wA:Wk lf H5 (upd H5 lf (.lst (us++[.non]))):=⟨fun b o hb z=>by rw[Zb8 hb];exact z,.lst elf5⟩
   generalize upd H5 lf (.lst (us++[.non]))=H6 at wA ⊢
   have eK6:=wA.sx _ _ nkf eK5
   have t6:=(t0.kp s05.kp).kp wA.kp
   have neF:∀ {x:Addr} {mm:Mo},RowsAt H5 x mm->RowsAt H6 x mm:=fun {x mm} hr=>by
    obtain⟨kv,hrd,hrk⟩:=id hr
    refine hr.wk wA fun z=>?_
    subst z
    rcases hrd with h | ⟨o,h⟩
    ·rw[elf5] at h;cases h
    ·rw[elf5] at h;cases h
   have R6:=neF (R0.same s05)
   have Re6:=neF (hRe.same s35)
   have hP6:Paired (DeedV H6) us (mendsM m):=Paired.mapP hP2 fun _ _ z=>((z.kp sm3.kp).kp s35.kp).kp wA.kp
   k_one
   refine⟨v,m,rfl,t6,by omega,by omega,hg,fun v2 H7 sm7 th7=>?_⟩
   k_one
   refine⟨v2,mendedM m,rfl,th7,by rw[mo.depth];omega,mo.lo,mo.s,len9,?_⟩
   k_one
   refine isi_ok (.of (.str _)) rfl A.t_ss ?_
   k_one
   have e0:("" : Str)=mkS []:=s_empty
   simp only[e0]
   refine⟨e,[],mendedM m,mendedM m,rfl,Re6.same sm7,Mo.sub_nil _,by rw[mo.depth];omega,by decide,mo.lo,mo.s,len9,?_⟩
   k_one
   have em9:mendsM (mendedM m)=[]:=by unfold mendsM;rw[if_pos mo.level]
   refine⟨v2,mendedM m,rfl,th7,by rw[mo.depth];omega,by rw[mo.nw];omega,mo.gt.gq,.inl mo.level,fun l8 us8 H8 hl8 sm8 el8 hP8=>⟨by decide,fun z9 hz9=>?_⟩⟩
   rw[em9] at hP8
   cases hP8
   have s9:=Za7 (o:=.lst []) hz9
   have s69:=(sm7.trans sm8).trans s9
   refine⟨l8,z9,[],rfl,rfl,SqL.of (s9 _ _ el8),SqL.of Za4,true,rfl,?_⟩
   rw[if_pos rfl]
   refine⟨v,m,rfl,t6.kp s69.kp,by omega,X.lo,X.s7,by have:=X.len;omega,?_⟩
   simp only[e0]
   refine⟨d,[],m,m,rfl,R6.same s69,Mo.sub_nil m,by omega,by decide,X.lo,X.s7,by have:=X.len;omega,rfl,?_⟩
   rw[if_pos rfl]
   refine⟨v,m,rfl,t6.kp s69.kp,by omega,by omega,good_gq hg,.inr hg,fun l10 us10 H10 hl10 sm10 el10 hP10=>?_⟩
   exact⟨l10,lk,us10,us,_,rfl,rfl,SqL.of el10,SqL.of (sm10 _ _ (s69 _ _ eK6)),deed_tr hP10,deed_tr (Paired.mapP hP6 fun _ _ z=>(z.kp s69.kp).kp sm10.kp),k _⟩
  clear hRst
  refine⟨⟨by decide,by ac_nf⟩,?_⟩
  by_cases hb:hd / 60 % 2=1
  ·rw[if_pos hb]
   k_one
   intro e he
   refine⟨by decide,fun p hp=>⟨⟨by decide,by ac_nf⟩,?_⟩⟩
   have sm4:Same H3 (upd (upd H3 e (.dT [])) p (.lst [.non,.ref e])):=fun b o z=>Za7 hp b o (Za7 he b o z)
   have ed3:=sm3 _ _ ed2
   have hr3:=hr2.kp sm3.kp
   have hsz:=hr2.size
   have rest:∀ kv,Kept A.c_Weight A.c_Rod (upd (upd H3 e (.dT [])) p (.lst [.non,.ref e])) kv 0->(∀ b,V.ref b=kv->H3 b=none)->sp_made A.c_Weight A.c_Rod 64 [.ref d,.str ("" : Str),kv] (upd (upd H3 e (.dT [])) p (.lst [.non,.ref e]))
      (fun x H'=>Rst [some (.ref a),some (.int hd),some (.int (hd % 5)),some (.ref d),some x,none,none,none,none,none,none] H') E0:=fun kv hk hb=>by
    rw[s_empty]
    refine⟨d,[],kv,m2,m2,0,rfl,⟨kvs2,.inl (sm4 _ _ ed3),hr3.kp sm4.kp⟩,Mo.sub_nil m2,by omega,by decide,g2,hk,by omega,fun v5 H5 w5 k5 t5=>?_⟩
    have sm5:Same H3 H5:=fun b o z=>w5.sx b o (fun z2=>by rw[hb b z2] at z;cases z) (sm4 b o z)
    clear w5 k5 hk hb
    have ed5:=sm5 _ _ ed3
    have hr5:=hr3.kp sm5.kp
    k_one
    refine⟨kvs2,ed5,?_⟩
    by_cases c:(kvs2.length:Int)<64
    ·rw[if_pos c]
     have hpos:=Mo.nw_pos m2
     k_one
     refine⟨_,_,rfl,fun va lf rf H6 sm6 hva al ar=>?_⟩
     k_one
     refine row0 hva fun x0 hx0=>?_
     k_one
     refine row1 hva fun x1 hx1=>?_
     k_one
     have t6:=t5.kp sm6.kp
     refine mkR_ok (l:=lf) (r:=rf) hx0 t6 hx1 t6 (al.small.1.mono ⋯) (al.small.2.mono ⋯) (ar.small.1.mono ⋯) (ar.small.2.mono ⋯)
      (fun _ _ z H7 hz sm7 t7=>?_) fun h0=>absurd ⟨al.t,ar.t⟩ h0
     k_one
     have sm57:=sm6.trans sm7
     refine⟨d,va,m2,kvs2,lf,rf,rfl,sm57 _ _ ed5,hr5.kp sm57.kp,hva.kp sm7.kp,by omega,fun e' kvs' H8 he' kp8 sx8 _ e8 r8=>?_⟩
     k_one
     exact main e' (.ref z) (.rod lf m2 rf m2) kvs' _ H8 (t7.kp kp8) e8 r8 ⟨al,ar,g2,g2⟩ (by simp only[Mo.nw];omega)
    ·rw[if_neg c]
     k_one
     exact main d v5 m2 kvs2 none H5 t5 ed5 hr5 g2 ∅
   have i1:=Int.emod_nonneg (hd / 30) (show (2:Int)≠0 by decide)
   have i2:=Int.emod_lt_of_pos (hd / 30) (show (0:Int)<2 by decide)
   refine ixL_mem (SqL.of Za4) (by show -(2:Int)<=hd / 30 % 2;omega) (by show hd / 30 % 2<(2:Int);omega) fun v' hv'=>?_
   rcases List.mem_cons.mp hv' with rfl | hv'
   ·exact rest _ (.inl rfl) fun b z=>by cases z
   ·rw[List.mem_singleton.mp hv']
    refine rest _ (.inr ⟨e,[],rfl,by rw[Zb8 (Za8 Za4 hp)];exact Za4,Nat.le_refl _,fun key v z=>by cases z⟩) fun b z=>?_
    cases z
    exact he
  ·rw[if_neg hb]
   exact main d v m2 kvs2 none H3 t3 (sm3 _ _ ed2) (hr2.kp sm3.kp) g2 ∅
end
end K9
set_option maxHeartbeats 4000000
namespace K9
open PySem PySem.Spec PyProof.Rows L2 FrM MoM
theorem len1 {us:List Value}(h:us.length=1):∃ a,us=[a]:=List.length_eq_one_iff.mp h
theorem len2 {us:List Value}(h:us.length=2):∃ a b,us=[a,b]:=let ⟨a,t,e⟩:=List.exists_cons_of_length_eq_add_one h;let ⟨b,f⟩:=len1 (us:=t) (by rw[e] at h;exact Nat.succ.inj h);⟨a,b,by rw[e,f]⟩
theorem len3 {us:List Value}(h:us.length=3):∃ a b c,us=[a,b,c]:=let ⟨a,t,e⟩:=List.exists_cons_of_length_eq_add_one h;let ⟨b,c,f⟩:=len2 (us:=t) (by rw[e] at h;exact Nat.succ.inj h);⟨a,b,c,by rw[e,f]⟩
theorem len4 {us:List Value}(h:us.length=4):∃ a b c d,us=[a,b,c,d]:=let ⟨a,t,e⟩:=List.exists_cons_of_length_eq_add_one h;let ⟨b,c,d,f⟩:=len3 (us:=t) (by rw[e] at h;exact Nat.succ.inj h);⟨a,b,c,d,by rw[e,f]⟩
theorem len5 {us:List Value}(h:us.length=5):∃ a b c d f,us=[a,b,c,d,f]:=let ⟨a,t,e⟩:=List.exists_cons_of_length_eq_add_one h;let ⟨b,c,d,g,f⟩:=len4 (us:=t) (by rw[e] at h;exact Nat.succ.inj h);⟨a,b,c,d,g,by rw[e,f]⟩
theorem one_of {us:List Value}{d:Value}(h:(us++[d]).length=2):∃ u,us=[u]:=List.length_eq_one_iff.mp (by simpa using h)
structure Pf (K:PySem.W.Frag) (x:Str) (st:Stmt) (f:Addr) (fd:FuncData):Prop where
 a:PySem.W.nsIn K mainGlobals x=some (some (.ref f))
 F:Fun K x x st f fd
structure Pm (K:PySem.W.Frag) (C:Addr) (x q:Str) (st:Stmt) (f:Addr) (fd:FuncData):Prop where
 a:PySem.W.findIn K (.ref C) x=some (some (.ref f))
 i:PySem.W.isFn K (.ref f)=true
 F:Fun K x q st f fd
structure Pd (K:PySem.W.Frag) (C:Addr) (x q:Str) (st:Stmt) (f:Addr) (fd:FuncData) (T:Addr) (d:Value):Prop where
 a:PySem.W.findIn K (.ref C) x=some (some (.ref f))
 i:PySem.W.isFn K (.ref f)=true
 k:PySem.W.keepIn K (.ref f)=true
 F:FunD K x q st f fd T d
structure Pc (K:PySem.W.Frag) (c:Addr):Prop where
 l:Cls K c
 mi:PySem.W.makesIn K c=true
 kc:PySem.W.keepIn K (.ref c)=true
 yh:PySem.W.findIn K (.ref c) "__class__" = some (some (.builtin "object.__class__"))
 ym:PySem.W.mroIn K c (.type "object")=some true
section
variable {P:Program}{w:World}{K:PySem.W.Frag}{mg:Str->Option Value}{base h:Heap}{x q:Str}{st:Stmt}{f C T c:Addr}{fd:FuncData}{k:Nat}{ps:List Str}{sp:Sp}{oc kV dc pm cd ct Toc:Value}{od an Tod:Option Addr}{sl Tsl:Array (Option Value)}{n:Nat}{z:Str}{tk:Tok}{cl:ClassData}
theorem pf_mk (a:PySem.W.nsIn K mainGlobals x=some (some (.ref f))) (l:K.lookup f=some ⟨oc,od,.func (PySem.W.fnOf x x (defArgs st) (defBody st) (Za6 st) .none kV dc pm an cd ct),sl⟩) (d:PySem.W.codeIn K cd x=true) (kp:PySem.W.keepIn K (.ref f)=true):Pf K x st f (PySem.W.fnOf x x (defArgs st) (defBody st) (Za6 st) .none kV dc pm an cd ct):=⟨a,fun_mk l d kp⟩
theorem pm_mk (a:PySem.W.findIn K (.ref C) x=some (some (.ref f))) (i:PySem.W.isFn K (.ref f)=true) (l:K.lookup f=some ⟨oc,od,.func (PySem.W.fnOf x q (defArgs st) (defBody st) (Za6 st) .none kV dc pm an cd ct),sl⟩) (d:PySem.W.codeIn K cd q=true) (kp:PySem.W.keepIn K (.ref f)=true):Pm K C x q st f (PySem.W.fnOf x q (defArgs st) (defBody st) (Za6 st) .none kV dc pm an cd ct):=⟨a,i,fun_mk l d kp⟩
theorem pd_mk (a:PySem.W.findIn K (.ref C) x=some (some (.ref f))) (i:PySem.W.isFn K (.ref f)=true) (l:K.lookup f=some ⟨oc,od,.func (PySem.W.fnOf x q (defArgs st) (defBody st) (Za6 st) (.ref T) kV dc pm an cd ct),sl⟩) (d:PySem.W.codeIn K cd q=true) (kp:PySem.W.keepIn K (.ref f)=true) (t:K.lookup T=some ⟨Toc,Tod,.seq #[.str z tk] n,Tsl⟩) :
  Pd K C x q st f (PySem.W.fnOf x q (defArgs st) (defBody st) (Za6 st) (.ref T) kV dc pm an cd ct) T (.str z tk):=⟨a,i,kp,⟨⟨_,_,_,_,_,_,_,_,_,rfl,l,d⟩,kp,_,_,t,rfl⟩⟩
theorem pc_mk (a1:PySem.W.plainGet K c Str.empty=true) (a2:PySem.W.hasDictIn K c=true) (a3:PySem.W.plainOver K c=true) (a4:PySem.W.findIn K (.ref c) "__setattr__" = some (some (.builtin "object.__setattr__"))) (a5:PySem.W.makesIn K c=true) (a6:PySem.W.keepIn K (.ref c)=true)
  (a7:PySem.W.findIn K (.ref c) "__class__" = some (some (.builtin "object.__class__"))) (a8:PySem.W.mroIn K c (.type "object")=some true):Pc K c:=⟨⟨a1,a2,a3,a4⟩,a5,a6,a7,a8⟩
theorem px_mk (x1:PySem.W.clsIn K c=some cl) (x2:PySem.W.typeIn K (.ref c)=some (.type "type")) (x3:PySem.W.subIn K (.ref c) (.type "BaseException")=some true) (x4:PySem.W.findIn K (.ref c) "__getattribute__" = some (some (.builtin "BaseException.__getattribute__"))) (x5:PySem.W.findIn K (.ref c) "__getattr__" = some none)
  (x6:PySem.W.findIn K (.ref c) "__class__" = some (some (.builtin "object.__class__"))) (x7:PySem.W.subIn K (.ref c) (.type "object")=some true) (x8:PySem.W.excIn K c bmVE "ValueError.__new__" = true):ExcCls K c:=⟨by rw[x1];rfl,x2,x3,x4,x5,x6,x7,x8⟩
theorem fnc_mk (X:K.In h) (G:h.Ns mainGlobals mg) (p:Pf K x st f fd) (ok:FnOk P w K mg base (CX1 P w) k f fd ps sp)
  (b:∀ (kV doc pm:Value) (an:Option Addr) (cdv ct:Value) (us:List Value),us.length=ps.length->bindArgs (PySem.W.fnOf x x (defArgs st) (defBody st) (Za6 st) .none kV doc pm an cdv ct) ⟨us,[]⟩=pure (ps.zip us)):Fnc P w K mg base x k ps [] sp:=
 ⟨f,fd,[],ok,PySem.W.mg_of X G p.a,p.F.kp,p.F.binds b,.nil⟩
theorem mth_mk (c:Pc K C) (p:Pm K C x q st f fd)
  (b:∀ (kV doc pm:Value) (an:Option Addr) (cdv ct:Value) (us:List Value),us.length=ps.length->bindArgs (PySem.W.fnOf x q (defArgs st) (defBody st) (Za6 st) .none kV doc pm an cdv ct) ⟨us,[]⟩=pure (ps.zip us)) (k:Nat) (sp:Sp) (ok:FnOk P w K mg base (CX1 P w) k f fd ps sp):Mth P w K mg base C x k ps [] sp:=
 ⟨c.l,f,_,[],⟨p.a,p.i,p.F.kp⟩,ok,p.F.binds b,.nil⟩
end
set_option hygiene false
local macro_rules | `(tactic| walk_at "b") => `(tactic| (intro _ _ _ _ _ _ us hl; first | (obtain ⟨a, rfl⟩ := len1 hl; rfl) | (obtain ⟨a, b, rfl⟩ := len2 hl; rfl) | (obtain ⟨a, b, c, rfl⟩ := len3 hl; rfl) | (obtain ⟨a, b, c, d, rfl⟩ := len4 hl; rfl) | (obtain ⟨a, b, c, d, e, rfl⟩ := len5 hl; rfl)))
theorem all_mk {l:PySem.W.OpenLaw}{w:World}{K:PySem.W.Frag}{h:Heap}{mg:Str->Option Value}{fa f_common_divisor f_fraction f_plus f_minus f_times f_over f_under f_check_above_nought f_weight_at f_rod_at f_hung_at f_put f_cut f_shift f_done f_hefts f_pulls f_tipping f_lacking f_wants_of f_way_to f_fitting_of f_levelling f_shifts_of f_mends f_mended f_fraction_shown f_shown f_read f__law_cell_at f__law_whole f__law_lowest f__law_is_fraction f__law_sum f__law_less f__law_product f__law_quotient f__law_mixed f__law_amount f__law_arms f__law_spot f__law_grown f__law_tipped f__law_made f__law_twice f__law_ends f__law_number f__law_written f__law_gaps f__law_tips f__law_one_does f__law_behind_put f__law_behind_shift f__law_behind f_law f_Weight___init__ f_Weight_heft f_Weight_places f_Weight_at f_Rod___init__ f_Rod_heft f_Rod_places f_Rod_at f_Reader___init__ f_Reader_at_end f_Reader_sees f_Reader_sees_figure f_Reader_read_sign f_Reader_read_number f_Reader_read_fraction f_Reader_read_mobile f_Reader_read_rod T_Weight_places T_Rod_places c_MobileError c_NoNumber c_NoPlace c_NoText c_Hung c_Weight c_Rod c_Reader k_NOUGHT:Addr}(X:K.In h) (G:h.Ns mainGlobals mg) (hfa:mg "law" = some (.ref fa))
  {d_common_divisor d_fraction d_plus d_minus d_times d_over d_under d_check_above_nought d_weight_at d_rod_at d_hung_at d_put d_cut d_shift d_done d_hefts d_pulls d_tipping d_lacking d_wants_of d_way_to d_fitting_of d_levelling d_shifts_of d_mends d_mended d_fraction_shown d_shown d_read d__law_cell_at d__law_whole d__law_lowest d__law_is_fraction d__law_sum d__law_less d__law_product d__law_quotient d__law_mixed d__law_amount d__law_arms d__law_spot d__law_grown d__law_tipped d__law_made d__law_twice d__law_ends d__law_number d__law_written d__law_gaps d__law_tips d__law_one_does d__law_behind_put d__law_behind_shift d__law_behind d_law d_Weight___init__ d_Weight_heft d_Weight_places d_Weight_at d_Rod___init__ d_Rod_heft d_Rod_places d_Rod_at d_Reader___init__ d_Reader_at_end d_Reader_sees d_Reader_sees_figure d_Reader_read_sign d_Reader_read_number d_Reader_read_fraction d_Reader_read_mobile d_Reader_read_rod:FuncData} {kod_NOUGHT:Option Addr} {ksl_NOUGHT:Array (Option Value)} {kn_NOUGHT:Nat} {tk_Weight_places tk_Rod_places tk_FIGURES tk0 tk1:Tok}
  (g_MobileError:PySem.W.nsIn K mainGlobals "MobileError" = some (some (.ref c_MobileError)))
  (g_NoNumber:PySem.W.nsIn K mainGlobals "NoNumber" = some (some (.ref c_NoNumber)))
  (g_NoPlace:PySem.W.nsIn K mainGlobals "NoPlace" = some (some (.ref c_NoPlace)))
  (g_NoText:PySem.W.nsIn K mainGlobals "NoText" = some (some (.ref c_NoText)))
  (g_Hung:PySem.W.nsIn K mainGlobals "Hung" = some (some (.ref c_Hung)))
  (g_Weight:PySem.W.nsIn K mainGlobals "Weight" = some (some (.ref c_Weight)))
  (g_Rod:PySem.W.nsIn K mainGlobals "Rod" = some (some (.ref c_Rod)))
  (g_Reader:PySem.W.nsIn K mainGlobals "Reader" = some (some (.ref c_Reader)))
  (p_common_divisor:Pf K "common_divisor" (top 6) f_common_divisor d_common_divisor)
  (p_fraction:Pf K "fraction" (top 7) f_fraction d_fraction)
  (p_plus:Pf K "plus" (top 8) f_plus d_plus)
  (p_minus:Pf K "minus" (top 9) f_minus d_minus)
  (p_times:Pf K "times" (top 10) f_times d_times)
  (p_over:Pf K "over" (top 11) f_over d_over)
  (p_under:Pf K "under" (top 12) f_under d_under)
  (p_check_above_nought:Pf K "check_above_nought" (top 15) f_check_above_nought d_check_above_nought)
  (p_weight_at:Pf K "weight_at" (top 19) f_weight_at d_weight_at)
  (p_rod_at:Pf K "rod_at" (top 20) f_rod_at d_rod_at)
  (p_hung_at:Pf K "hung_at" (top 22) f_hung_at d_hung_at)
  (p_put:Pf K "put" (top 23) f_put d_put)
  (p_cut:Pf K "cut" (top 24) f_cut d_cut)
  (p_shift:Pf K "shift" (top 25) f_shift d_shift)
  (p_done:Pf K "done" (top 26) f_done d_done)
  (p_hefts:Pf K "hefts" (top 28) f_hefts d_hefts)
  (p_pulls:Pf K "pulls" (top 29) f_pulls d_pulls)
  (p_tipping:Pf K "tipping" (top 30) f_tipping d_tipping)
  (p_lacking:Pf K "lacking" (top 32) f_lacking d_lacking)
  (p_wants_of:Pf K "wants_of" (top 33) f_wants_of d_wants_of)
  (p_way_to:Pf K "way_to" (top 34) f_way_to d_way_to)
  (p_fitting_of:Pf K "fitting_of" (top 35) f_fitting_of d_fitting_of)
  (p_levelling:Pf K "levelling" (top 36) f_levelling d_levelling)
  (p_shifts_of:Pf K "shifts_of" (top 37) f_shifts_of d_shifts_of)
  (p_mends:Pf K "mends" (top 38) f_mends d_mends)
  (p_mended:Pf K "mended" (top 39) f_mended d_mended)
  (p_fraction_shown:Pf K "fraction_shown" (top 42) f_fraction_shown d_fraction_shown)
  (p_shown:Pf K "shown" (top 43) f_shown d_shown)
  (p_read:Pf K "read" (top 45) f_read d_read)
  (p__law_cell_at:Pf K "_law_cell_at" (top 47) f__law_cell_at d__law_cell_at)
  (p__law_whole:Pf K "_law_whole" (top 48) f__law_whole d__law_whole)
  (p__law_lowest:Pf K "_law_lowest" (top 49) f__law_lowest d__law_lowest)
  (p__law_is_fraction:Pf K "_law_is_fraction" (top 50) f__law_is_fraction d__law_is_fraction)
  (p__law_sum:Pf K "_law_sum" (top 51) f__law_sum d__law_sum)
  (p__law_less:Pf K "_law_less" (top 52) f__law_less d__law_less)
  (p__law_product:Pf K "_law_product" (top 53) f__law_product d__law_product)
  (p__law_quotient:Pf K "_law_quotient" (top 54) f__law_quotient d__law_quotient)
  (p__law_mixed:Pf K "_law_mixed" (top 55) f__law_mixed d__law_mixed)
  (p__law_amount:Pf K "_law_amount" (top 56) f__law_amount d__law_amount)
  (p__law_arms:Pf K "_law_arms" (top 57) f__law_arms d__law_arms)
  (p__law_spot:Pf K "_law_spot" (top 58) f__law_spot d__law_spot)
  (p__law_grown:Pf K "_law_grown" (top 59) f__law_grown d__law_grown)
  (p__law_tipped:Pf K "_law_tipped" (top 60) f__law_tipped d__law_tipped)
  (p__law_made:Pf K "_law_made" (top 61) f__law_made d__law_made)
  (p__law_twice:Pf K "_law_twice" (top 62) f__law_twice d__law_twice)
  (p__law_ends:Pf K "_law_ends" (top 63) f__law_ends d__law_ends)
  (p__law_number:Pf K "_law_number" (top 64) f__law_number d__law_number)
  (p__law_written:Pf K "_law_written" (top 65) f__law_written d__law_written)
  (p__law_gaps:Pf K "_law_gaps" (top 66) f__law_gaps d__law_gaps)
  (p__law_tips:Pf K "_law_tips" (top 67) f__law_tips d__law_tips)
  (p__law_one_does:Pf K "_law_one_does" (top 68) f__law_one_does d__law_one_does)
  (p__law_behind_put:Pf K "_law_behind_put" (top 69) f__law_behind_put d__law_behind_put)
  (p__law_behind_shift:Pf K "_law_behind_shift" (top 70) f__law_behind_shift d__law_behind_shift)
  (p__law_behind:Pf K "_law_behind" (top 71) f__law_behind d__law_behind)
  (p_law:Pf K "law" (top 72) f_law d_law)
  (p_Weight___init__:Pm K c_Weight "__init__" "Weight.__init__" (Zc5 (top 17) 0) f_Weight___init__ d_Weight___init__)
  (p_Weight_heft:Pm K c_Weight "heft" "Weight.heft" (Zc5 (top 17) 1) f_Weight_heft d_Weight_heft)
  (p_Weight_places:Pd K c_Weight "places" "Weight.places" (Zc5 (top 17) 2) f_Weight_places d_Weight_places T_Weight_places (.str ⟨#[]⟩ tk_Weight_places))
  (p_Weight_at:Pm K c_Weight "at" "Weight.at" (Zc5 (top 17) 3) f_Weight_at d_Weight_at)
  (p_Rod___init__:Pm K c_Rod "__init__" "Rod.__init__" (Zc5 (top 18) 0) f_Rod___init__ d_Rod___init__)
  (p_Rod_heft:Pm K c_Rod "heft" "Rod.heft" (Zc5 (top 18) 1) f_Rod_heft d_Rod_heft)
  (p_Rod_places:Pd K c_Rod "places" "Rod.places" (Zc5 (top 18) 2) f_Rod_places d_Rod_places T_Rod_places (.str ⟨#[]⟩ tk_Rod_places))
  (p_Rod_at:Pm K c_Rod "at" "Rod.at" (Zc5 (top 18) 3) f_Rod_at d_Rod_at)
  (p_Reader___init__:Pm K c_Reader "__init__" "Reader.__init__" (Zc5 (top 44) 0) f_Reader___init__ d_Reader___init__)
  (p_Reader_at_end:Pm K c_Reader "at_end" "Reader.at_end" (Zc5 (top 44) 1) f_Reader_at_end d_Reader_at_end)
  (p_Reader_sees:Pm K c_Reader "sees" "Reader.sees" (Zc5 (top 44) 2) f_Reader_sees d_Reader_sees)
  (p_Reader_sees_figure:Pm K c_Reader "sees_figure" "Reader.sees_figure" (Zc5 (top 44) 3) f_Reader_sees_figure d_Reader_sees_figure)
  (p_Reader_read_sign:Pm K c_Reader "read_sign" "Reader.read_sign" (Zc5 (top 44) 4) f_Reader_read_sign d_Reader_read_sign)
  (p_Reader_read_number:Pm K c_Reader "read_number" "Reader.read_number" (Zc5 (top 44) 5) f_Reader_read_number d_Reader_read_number)
  (p_Reader_read_fraction:Pm K c_Reader "read_fraction" "Reader.read_fraction" (Zc5 (top 44) 6) f_Reader_read_fraction d_Reader_read_fraction)
  (p_Reader_read_mobile:Pm K c_Reader "read_mobile" "Reader.read_mobile" (Zc5 (top 44) 7) f_Reader_read_mobile d_Reader_read_mobile)
  (p_Reader_read_rod:Pm K c_Reader "read_rod" "Reader.read_rod" (Zc5 (top 44) 8) f_Reader_read_rod d_Reader_read_rod)
  (exc_MobileError:ExcCls K c_MobileError)
  (exc_NoNumber:ExcCls K c_NoNumber)
  (exc_NoPlace:ExcCls K c_NoPlace)
  (exc_NoText:ExcCls K c_NoText)
  (q_Weight:Pc K c_Weight)
  (no_Weight_amount:PySem.W.findIn K (.ref c_Weight) "amount" = some none)
  (q_Rod:Pc K c_Rod)
  (no_Rod_left_arm:PySem.W.findIn K (.ref c_Rod) "left_arm" = some none)
  (no_Rod_left:PySem.W.findIn K (.ref c_Rod) "left" = some none)
  (no_Rod_right_arm:PySem.W.findIn K (.ref c_Rod) "right_arm" = some none)
  (no_Rod_right:PySem.W.findIn K (.ref c_Rod) "right" = some none)
  (q_Reader:Pc K c_Reader)
  (no_Reader_text:PySem.W.findIn K (.ref c_Reader) "text" = some none)
  (no_Reader_spot:PySem.W.findIn K (.ref c_Reader) "spot" = some none)
  (yn:PySem.W.specialIn K (.builtin "object.__class__") "__get__" = some (some (.builtin "getset_descriptor.__get__")))
  (yt:PySem.W.takesIn K (.builtin "object.__class__")=some true)
  (gk_NOUGHT:PySem.W.nsIn K mainGlobals "NOUGHT" = some (some (.ref k_NOUGHT)))
  (kl_NOUGHT:K.lookup k_NOUGHT=some ⟨.type "tuple",kod_NOUGHT,.seq #[.int 0 tk0,.int 1 tk1] kn_NOUGHT,ksl_NOUGHT⟩)
  (gs_FIGURES:PySem.W.nsIn K mainGlobals "FIGURES" = some (some (.str "0123456789" tk_FIGURES)))
  (n_abs:PySem.W.nsIn K mainGlobals "abs" = some none)
  (n_len:PySem.W.nsIn K mainGlobals "len" = some none)
  (n_isinstance:PySem.W.nsIn K mainGlobals "isinstance" = some none)
  (n_int:PySem.W.nsIn K mainGlobals "int" = some none)
  (n_bool:PySem.W.nsIn K mainGlobals "bool" = some none)
  (n_tuple:PySem.W.nsIn K mainGlobals "tuple" = some none)
  (n_str:PySem.W.nsIn K mainGlobals "str" = some none)
  (n_list:PySem.W.nsIn K mainGlobals "list" = some none)
  (n_sorted:PySem.W.nsIn K mainGlobals "sorted" = some none)
  (n_reversed:PySem.W.nsIn K mainGlobals "reversed" = some none)
  (n_zip:PySem.W.nsIn K mainGlobals "zip" = some none)
  (n_range:PySem.W.nsIn K mainGlobals "range" = some none)
  (n_dict:PySem.W.nsIn K mainGlobals "dict" = some none)
  (t_WW:PySem.W.kitOne K (.ref c_Weight) (.ref c_Weight)=some true)
  (t_WR:PySem.W.kitOne K (.ref c_Weight) (.ref c_Rod)=some false)
  (t_RW:PySem.W.kitOne K (.ref c_Rod) (.ref c_Weight)=some false)
  (t_RR:PySem.W.kitOne K (.ref c_Rod) (.ref c_Rod)=some true)
  (t_ii:PySem.W.kitOne K (.type "int") (.type "int")=some true)
  (t_ib:PySem.W.kitOne K (.type "int") (.type "bool")=some false)
  (t_tt:PySem.W.kitOne K (.type "tuple") (.type "tuple")=some true)
  (t_ll:PySem.W.kitOne K (.type "list") (.type "list")=some true)
  (t_ss:PySem.W.kitOne K (.type "str") (.type "str")=some true)
  (t_bb:PySem.W.kitOne K (.type "bool") (.type "bool")=some true) :
  ∃ fd:FuncData,(∀ (s:Shared) (v:Value),BindsTo s fd ⟨[v],[]⟩ [("_law_script",v)])/\∀ base:Heap,K.In base->base.Ns mainGlobals mg->FnOk l.prog w K mg base (CX1 l.prog w) 133 fa fd ["_law_script"] (sp_law K):=by
 have e:=hfa.symm.trans (PySem.W.mg_of X G p_law.a)
 cases e
 have cls_Weight:=q_Weight.l
 have ty_Weight:∀ {H:Hp} {a dx:Addr} {fs:List (Str×V)},H a=some (.ins c_Weight dx fs)->TyOf K H (.ref a) (.ref c_Weight):=fun e=>.ins e cls_Weight q_Weight.yh yn yt q_Weight.ym
 have cls_Rod:=q_Rod.l
 have ty_Rod:∀ {H:Hp} {a dx:Addr} {fs:List (Str×V)},H a=some (.ins c_Rod dx fs)->TyOf K H (.ref a) (.ref c_Rod):=fun e=>.ins e cls_Rod q_Rod.yh yn yt q_Rod.ym
 have cls_Reader:=q_Reader.l
 have ty_Reader:∀ {H:Hp} {a dx:Addr} {fs:List (Str×V)},H a=some (.ins c_Reader dx fs)->TyOf K H (.ref a) (.ref c_Reader):=fun e=>.ins e cls_Reader q_Reader.yh yn yt q_Reader.ym
 let A:Adr K mg:=⟨c_MobileError,c_NoNumber,c_NoPlace,c_NoText,c_Hung,c_Weight,c_Rod,c_Reader,k_NOUGHT,tk_FIGURES,PySem.W.mg_of X G g_MobileError,PySem.W.mg_of X G g_NoNumber,PySem.W.mg_of X G g_NoPlace,PySem.W.mg_of X G g_NoText,PySem.W.mg_of X G g_Hung,PySem.W.mg_of X G g_Weight,PySem.W.mg_of X G g_Rod,PySem.W.mg_of X G g_Reader,PySem.W.mg_of X G gk_NOUGHT,fun H=>.inr ⟨_,_,_,kl_NOUGHT,rfl,rfl,(by show 2<=sizeLine;decide),.cons ⟨tk0,rfl⟩ (.cons ⟨tk1,rfl⟩ .nil)⟩,PySem.W.mg_of X G gs_FIGURES,exc_MobileError,exc_NoNumber,exc_NoPlace,exc_NoText,cls_Weight,cls_Rod,cls_Reader,(fun z=>by rw[←z,t_WW] at t_WR;cases t_WR),no_Weight_amount,no_Rod_left_arm,no_Rod_left,no_Rod_right_arm,no_Rod_right,no_Reader_text,no_Reader_spot,ty_Weight,ty_Rod,PySem.W.mg_none_of X G n_abs,PySem.W.mg_none_of X G n_len,PySem.W.mg_none_of X G n_isinstance,PySem.W.mg_none_of X G n_int,PySem.W.mg_none_of X G n_bool,PySem.W.mg_none_of X G n_tuple,PySem.W.mg_none_of X G n_str,PySem.W.mg_none_of X G n_list,PySem.W.mg_none_of X G n_sorted,PySem.W.mg_none_of X G n_reversed,PySem.W.mg_none_of X G n_zip,PySem.W.mg_none_of X G n_range,PySem.W.mg_none_of X G n_dict,t_WW,t_WR,t_RW,t_RR,t_ii,t_ib,t_tt,t_ll,t_ss,t_bb⟩
 refine⟨d_law,fun s v=>?_,fun base _ _=>?_⟩
 ·obtain⟨_,_,_,_,_,_,_,_,_,e,_⟩:=p_law.F.ex
  rw[e]
  exact .of_eq rfl
 have mf:=@fnc_mk l.prog w K mg base h
 have mm:=@mth_mk l.prog w K mg base
 have G_common_divisor:=mf X G p_common_divisor (ok_common_divisor p_common_divisor.F) (by walk_at "b")
 have G_fraction:=mf X G p_fraction (ok_fraction A p_fraction.F G_common_divisor) (by walk_at "b")
 have G_plus:=mf X G p_plus (ok_plus A p_plus.F G_fraction) (by walk_at "b")
 have G_minus:=mf X G p_minus (ok_minus A p_minus.F G_fraction) (by walk_at "b")
 have G_times:=mf X G p_times (ok_times A p_times.F G_fraction) (by walk_at "b")
 have G_over:=mf X G p_over (ok_over A p_over.F G_fraction) (by walk_at "b")
 have G_under:=mf X G p_under (ok_under p_under.F) (by walk_at "b")
 have G_check_above_nought:=mf X G p_check_above_nought (ok_check A p_check_above_nought.F G_under) (by walk_at "b")
 have M_Weight:=(⟨PySem.W.mg_of X G g_Weight,f_Weight___init__,_,[],⟨q_Weight.mi,p_Weight___init__.a,p_Weight___init__.i,q_Weight.kc⟩,ok_winit A p_Weight___init__.F G_check_above_nought,p_Weight___init__.F.binds (by walk_at "b"),.nil⟩:Mkr l.prog w K mg base "Weight" c_Weight 3 ["self","amount"] [] _)
 have M_Rod:=(⟨PySem.W.mg_of X G g_Rod,f_Rod___init__,_,[],⟨q_Rod.mi,p_Rod___init__.a,p_Rod___init__.i,q_Rod.kc⟩,ok_rinit A p_Rod___init__.F G_check_above_nought,p_Rod___init__.F.binds (by walk_at "b"),.nil⟩:Mkr l.prog w K mg base "Rod" c_Rod 3 ["self","left_arm","left","right_arm","right"] [] _)
 have M_Reader:=(⟨PySem.W.mg_of X G g_Reader,f_Reader___init__,_,[],⟨q_Reader.mi,p_Reader___init__.a,p_Reader___init__.i,q_Reader.kc⟩,ok_dinit A p_Reader___init__.F,p_Reader___init__.F.binds (by walk_at "b"),.nil⟩:Mkr l.prog w K mg base "Reader" c_Reader 1 ["self","text"] [] _)
 have DM_Weight_heft:=mm (ps:=["self"]) q_Weight p_Weight_heft (by walk_at "b")
 have DM_Rod_heft:=mm (ps:=["self"]) q_Rod p_Rod_heft (by walk_at "b")
 have DM_Weight_places:∀ k sp,FnOk l.prog w K mg base (CX1 l.prog w) k f_Weight_places _ ["self","ahead"] sp->Mth l.prog w K mg base c_Weight "places" k ["self","ahead"] [] sp:=fun k sp z=>⟨cls_Weight,f_Weight_places,_,[],⟨p_Weight_places.a,p_Weight_places.i,p_Weight_places.k⟩,z,p_Weight_places.F.binds (fun _ _ _ _ _ _ us hl=>match us,hl with | [_,_],_=>⟨_,rfl,rfl⟩),.nil⟩
 have DZ_Weight_places:∀ k sp,FnOk l.prog w K mg base (CX1 l.prog w) k f_Weight_places _ ["self","ahead"] sp->Mth l.prog w K mg base c_Weight "places" k ["self","ahead"] [.str (mkS [])] sp:=fun k sp z=>⟨cls_Weight,f_Weight_places,_,[.str ⟨#[]⟩ tk_Weight_places],⟨p_Weight_places.a,p_Weight_places.i,p_Weight_places.k⟩,z,p_Weight_places.F.binds (fun _ _ _ _ _ _ us hl=>by obtain⟨u,rfl⟩:=one_of hl;exact⟨_,rfl,rfl⟩),.cons ⟨tk_Weight_places,rfl⟩ .nil⟩
 have DM_Rod_places:∀ k sp,FnOk l.prog w K mg base (CX1 l.prog w) k f_Rod_places _ ["self","ahead"] sp->Mth l.prog w K mg base c_Rod "places" k ["self","ahead"] [] sp:=fun k sp z=>⟨cls_Rod,f_Rod_places,_,[],⟨p_Rod_places.a,p_Rod_places.i,p_Rod_places.k⟩,z,p_Rod_places.F.binds (fun _ _ _ _ _ _ us hl=>match us,hl with | [_,_],_=>⟨_,rfl,rfl⟩),.nil⟩
 have DZ_Rod_places:∀ k sp,FnOk l.prog w K mg base (CX1 l.prog w) k f_Rod_places _ ["self","ahead"] sp->Mth l.prog w K mg base c_Rod "places" k ["self","ahead"] [.str (mkS [])] sp:=fun k sp z=>⟨cls_Rod,f_Rod_places,_,[.str ⟨#[]⟩ tk_Rod_places],⟨p_Rod_places.a,p_Rod_places.i,p_Rod_places.k⟩,z,p_Rod_places.F.binds (fun _ _ _ _ _ _ us hl=>by obtain⟨u,rfl⟩:=one_of hl;exact⟨_,rfl,rfl⟩),.cons ⟨tk_Rod_places,rfl⟩ .nil⟩
 have DM_Weight_at:=mm (ps:=["self","place"]) q_Weight p_Weight_at (by walk_at "b")
 have DM_Rod_at:=mm (ps:=["self","place"]) q_Rod p_Rod_at (by walk_at "b")
 have D_heft:∀ C,KdT A.c_Weight A.c_Rod C->Mth l.prog w K mg base C "heft" 68 ["self"] [] (spC (sp_heft A.c_Weight A.c_Rod 64) C):=by
  rintro C (rfl | rfl)
  ·exact DM_Weight_heft _ _ (ok_wheft A p_Weight_heft.F 64)
  ·exact DM_Rod_heft _ _ (ok_rheft A p_Weight_heft.F p_Rod_heft.F DM_Weight_heft DM_Rod_heft G_plus 64)
 have D_at:∀ C,KdT A.c_Weight A.c_Rod C->Mth l.prog w K mg base C "at" 68 ["self","place"] [] (spC (sp_at A.c_NoPlace A.c_Weight A.c_Rod 64) C):=by
  rintro C (rfl | rfl)
  ·exact DM_Weight_at _ _ (ok_wat A p_Weight_at.F 64)
  ·exact DM_Rod_at _ _ (ok_rat A p_Weight_at.F p_Rod_at.F DM_Weight_at DM_Rod_at 64)
 have D_places:∀ C,KdT A.c_Weight A.c_Rod C->Mth l.prog w K mg base C "places" 68 ["self","ahead"] [] (spC (sp_places A.c_Weight A.c_Rod 64) C):=by
  rintro C (rfl | rfl)
  ·exact DM_Weight_places _ _ (ok_wplaces A p_Weight_places.F 64)
  ·exact DM_Rod_places _ _ (ok_rplaces A p_Weight_places.F p_Rod_places.F DM_Weight_places DM_Rod_places 64)
 have D0_places:∀ C,KdT A.c_Weight A.c_Rod C->Mth l.prog w K mg base C "places" 68 ["self","ahead"] [.str (mkS [])] (spC (sp_places A.c_Weight A.c_Rod 64) C):=by
  rintro C (rfl | rfl)
  ·exact DZ_Weight_places _ _ (ok_wplaces A p_Weight_places.F 64)
  ·exact DZ_Rod_places _ _ (ok_rplaces A p_Weight_places.F p_Rod_places.F DM_Weight_places DM_Rod_places 64)
 have DM_Reader_at_end:=mm (ps:=["self"]) q_Reader p_Reader_at_end (by walk_at "b")
 have DM_Reader_sees:=mm (ps:=["self","sign"]) q_Reader p_Reader_sees (by walk_at "b")
 have DM_Reader_sees_figure:=mm (ps:=["self"]) q_Reader p_Reader_sees_figure (by walk_at "b")
 have DM_Reader_read_sign:=mm (ps:=["self","sign"]) q_Reader p_Reader_read_sign (by walk_at "b")
 have DM_Reader_read_number:=mm (ps:=["self"]) q_Reader p_Reader_read_number (by walk_at "b")
 have DM_Reader_read_fraction:=mm (ps:=["self"]) q_Reader p_Reader_read_fraction (by walk_at "b")
 have DM_Reader_read_mobile:=mm (ps:=["self"]) q_Reader p_Reader_read_mobile (by walk_at "b")
 have DM_Reader_read_rod:=mm (ps:=["self"]) q_Reader p_Reader_read_rod (by walk_at "b")
 have D_at_end:MthR l.prog w K mg base A "at_end" 1 ["self"] (sp_at_end):=by
  rintro C rfl
  exact DM_Reader_at_end _ _ (ok_at_end A p_Reader_at_end.F)
 have D_sees:MthR l.prog w K mg base A "sees" 2 ["self","sign"] (sp_sees):=by
  rintro C rfl
  exact DM_Reader_sees _ _ (ok_sees A p_Reader_sees.F D_at_end)
 have D_sees_figure:MthR l.prog w K mg base A "sees_figure" 2 ["self"] (sp_seesf):=by
  rintro C rfl
  exact DM_Reader_sees_figure _ _ (ok_seesf A p_Reader_sees_figure.F D_at_end)
 have D_read_sign:MthR l.prog w K mg base A "read_sign" 3 ["self","sign"] (sp_rsign A.c_NoText):=by
  rintro C rfl
  exact DM_Reader_read_sign _ _ (ok_rsign A p_Reader_read_sign.F D_sees)
 have D_read_number:MthR l.prog w K mg base A "read_number" 3 ["self"] (sp_rnum A.c_NoText):=by
  rintro C rfl
  exact DM_Reader_read_number _ _ (ok_rnum A p_Reader_read_number.F D_sees_figure)
 have D_read_fraction:MthR l.prog w K mg base A "read_fraction" 4 ["self"] (sp_rfr A.c_NoText):=by
  rintro C rfl
  exact DM_Reader_read_fraction _ _ (ok_rfr A p_Reader_read_fraction.F D_sees D_read_sign D_read_number G_fraction)
 have D_read_mobile:MthR l.prog w K mg base A "read_mobile" 131 ["self"] (fun C=>sp_rmo A.c_NoText C A.c_Weight A.c_Rod 63):=by
  rintro C rfl
  exact DM_Reader_read_mobile _ _ (ok_rmo A p_Reader_read_mobile.F p_Reader_read_rod.F DM_Reader_read_mobile DM_Reader_read_rod D_sees D_read_sign D_read_fraction M_Weight M_Rod 63)
 have G_read:=mf X G p_read (ok_read A p_read.F M_Reader D_read_mobile D_at_end) (by walk_at "b")
 have G_hefts:=mf X G p_hefts (ok_phefts A p_hefts.F D_at D_heft D0_places G_plus) (by walk_at "b")
 have G_pulls:=mf X G p_pulls (ok_pulls A p_pulls.F D_at D0_places G_hefts G_times) (by walk_at "b")
 have G_tipping:=mf X G p_tipping (ok_tipping A p_tipping.F) (by walk_at "b")
 have G__law_cell_at:=mf X G p__law_cell_at (ok_cell_at A p__law_cell_at.F) (by walk_at "b")
 have G__law_whole:=mf X G p__law_whole (ok_whole A p__law_whole.F) (by walk_at "b")
 have G__law_lowest:=mf X G p__law_lowest (ok_lowest A p__law_lowest.F) (by walk_at "b")
 have G__law_sum:=mf X G p__law_sum (ok_sum A p__law_sum.F G__law_lowest) (by walk_at "b")
 have G__law_less:=mf X G p__law_less (ok_less A p__law_less.F G__law_sum) (by walk_at "b")
 have G__law_product:=mf X G p__law_product (ok_product A p__law_product.F G__law_lowest) (by walk_at "b")
 have G__law_quotient:=mf X G p__law_quotient (ok_quotient A p__law_quotient.F G__law_lowest) (by walk_at "b")
 have G__law_mixed:=mf X G p__law_mixed (ok_mixed A p__law_mixed.F) (by walk_at "b")
 have G__law_amount:=mf X G p__law_amount (ok_amount A p__law_amount.F G__law_mixed G__law_lowest) (by walk_at "b")
 have G__law_arms:=mf X G p__law_arms (ok_arms A p__law_arms.F G__law_mixed G__law_lowest) (by walk_at "b")
 have G__law_spot:=mf X G p__law_spot (ok_spot A p__law_spot.F G__law_mixed) (by walk_at "b")
 have G__law_grown:=mf X G p__law_grown (ok_grown A p__law_grown.F G__law_cell_at G__law_amount G__law_spot G__law_arms G__law_mixed G__law_sum G__law_product G__law_quotient) (by walk_at "b")
 have G__law_tipped:=mf X G p__law_tipped (ok_tipped A p__law_tipped.F G__law_sum G__law_product) (by walk_at "b")
 have DF__law_made:=fun k sp z=>mf (k:=k) (sp:=sp) (ps:=["_law_rows","_law_place","_law_kept"]) X G p__law_made z (by walk_at "b")
 have DF__law_written:=fun k sp z=>mf (k:=k) (sp:=sp) (ps:=["_law_rows","_law_place"]) X G p__law_written z (by walk_at "b")
 have DF_hung_at:=fun k sp z=>mf (k:=k) (sp:=sp) (ps:=["mobile","place","thing"]) X G p_hung_at z (by walk_at "b")
 have DF_shown:=fun k sp z=>mf (k:=k) (sp:=sp) (ps:=["mobile"]) X G p_shown z (by walk_at "b")
 have G__law_made:=DF__law_made _ _ (ok_made A p__law_made.F DF__law_made M_Weight M_Rod 64)
 have G__law_twice:=mf X G p__law_twice (ok_twice A p__law_twice.F) (by walk_at "b")
 have G__law_ends:=mf X G p__law_ends (ok_ends A p__law_ends.F G__law_arms) (by walk_at "b")
 have G__law_number:=mf X G p__law_number (ok_number A p__law_number.F) (by walk_at "b")
 have G__law_written:=DF__law_written _ _ (ok_written A p__law_written.F DF__law_written G__law_number 64)
 have G_hung_at:=DF_hung_at _ _ (ok_hung A p_hung_at.F DF_hung_at M_Rod 64)
 have G_weight_at:=mf X G p_weight_at (ok_weight_at A p_weight_at.F D_at) (by walk_at "b")
 have G_rod_at:=mf X G p_rod_at (ok_rod_at A p_rod_at.F D_at) (by walk_at "b")
 have G_put:=mf X G p_put (ok_put A p_put.F G_weight_at G_hung_at M_Weight) (by walk_at "b")
 have G_cut:=mf X G p_cut (ok_cut p_cut.F) (by walk_at "b")
 have G_shift:=mf X G p_shift (ok_shift A p_shift.F G_rod_at G_hung_at G_plus G_minus M_Rod) (by walk_at "b")
 have G_done:=mf X G p_done (ok_done A p_done.F G_put G_cut G_shift) (by walk_at "b")
 have G_lacking:=mf X G p_lacking (ok_lacking A p_lacking.F G_over G_minus) (by walk_at "b")
 have G_wants_of:=mf X G p_wants_of (ok_wantsof A p_wants_of.F D_at G_weight_at G_lacking G_plus) (by walk_at "b")
 have G_way_to:=mf X G p_way_to (ok_way A p_way_to.F) (by walk_at "b")
 have G_fitting_of:=mf X G p_fitting_of (ok_fitof A p_fitting_of.F G_weight_at G_tipping G_way_to G_wants_of) (by walk_at "b")
 have G_levelling:=mf X G p_levelling (ok_lvl A p_levelling.F G_over G_minus) (by walk_at "b")
 have G__law_is_fraction:=mf X G p__law_is_fraction (ok_isfr A p__law_is_fraction.F G__law_whole G__law_lowest) (by walk_at "b")
 have G_fraction_shown:=mf X G p_fraction_shown (ok_frshown A p_fraction_shown.F) (by walk_at "b")
 have G_shown:=DF_shown _ _ (ok_shown A p_shown.F DF_shown G_fraction_shown 64)
 have G_shifts_of:=mf X G p_shifts_of (ok_shiftsof A p_shifts_of.F G_hefts G_levelling) (by walk_at "b")
 have G_mends:=mf X G p_mends (ok_mends A p_mends.F D_at D0_places G_pulls G_tipping G_fitting_of G_shifts_of) (by walk_at "b")
 have G_mended:=mf X G p_mended (ok_mended A p_mended.F G_mends G_done) (by walk_at "b")
 have G__law_gaps:=mf X G p__law_gaps (ok_gaps A p__law_gaps.F G__law_sum G__law_product G__law_less) (by walk_at "b")
 have G__law_tips:=mf X G p__law_tips (ok_ltips A p__law_tips.F G__law_gaps) (by walk_at "b")
 have G__law_one_does:=mf X G p__law_one_does (ok_one A p__law_one_does.F G__law_quotient) (by walk_at "b")
 have G__law_behind_put:=mf X G p__law_behind_put (ok_bput A p__law_behind_put.F G__law_is_fraction) (by walk_at "b")
 have G__law_behind_shift:=mf X G p__law_behind_shift (ok_bshift A p__law_behind_shift.F G__law_is_fraction G__law_sum G__law_less) (by walk_at "b")
 have G__law_behind:=mf X G p__law_behind (ok_behind A p__law_behind.F G__law_gaps G__law_one_does G__law_behind_put G__law_behind_shift) (by walk_at "b")
 exact ok_law A p_law.F G__law_cell_at G__law_mixed G__law_grown G__law_tipped G__law_written G_read G__law_made G__law_ends G__law_twice M_Rod G_mends G__law_behind G__law_tips G_mended G_shown
theorem walk {l:PySem.W.OpenLaw}{q:Program}{loose:List Str}{XP:(Str->Option Value)->Heap->Prop}{YP:World->Heap->Prop}{d:DefRec}{K:Params->PySem.W.Frag}(hn:l.most=some 63) (hdf:d.params.defaults=[])
  (hY:∀ (w:World) (h:Heap),YP w h->(K w.params).In h)
  (F:∀ (w:World) (mg:Str->Option Value) (fa:Addr) (h:Heap),(K w.params).In h->h.Ns mainGlobals mg->mg d.name=some (.ref fa) ->
   ∃ fd:FuncData,(∀ (s:Shared) (u:Value),BindsTo s fd ⟨[u],[]⟩ [("_law_script",u)])/\∀ base:Heap,(K w.params).In base->base.Ns mainGlobals mg->FnOk l.prog w (K w.params) mg base (CX1 l.prog w) 133 fa fd ["_law_script"] (sp_law (K w.params))) :
  PySem.W.WalkO q loose XP YP l.row.toRowW d [] (fun f vs=>PySem.call f vs):=
 L2.walk_of (n:=63) (k:=133) (x:="_law_script") (CX:=fun w=>CX1 l.prog w) (sp:=fun w=>sp_law (K w.params)) hn ⋯ hdf ⟨rfl,by decide,by decide⟩ hY F (fun _ _ a ns hl _ hS=>⟨a,ns,rfl,hS,hl,fun _=>rfl⟩) fun _ _ _ _ _ ⟨_,_,_,_,_,_,_,z⟩=>z
end K9
open PySem PySem.W PyProof.Rows
set_option maxRecDepth 100000 in
set_option maxHeartbeats 0 in
theorem PySem.Challenge.cw_hangmobile_k09_whole_mends_holds : PySem.Challenge.rw_hangmobile_k09_whole_mends.Holds := by
 refine HD.hd ?_
 k_fill
 refine K9.walk (l:=PySem.Challenge.rw_hangmobile_k09_whole_mends) rfl rfl (fun w h Y=>PySem.W.kIn_of Y) ?F
 case F=>
  intro w mg fa h KX G hmg
  refine' K9.all_mk KX G hmg ?_ ?_ ?_ ?_ ?_ ?_ ?_ ?_ (K9.pf_mk ?_ ?_ ?_ ?_) (K9.pf_mk ?_ ?_ ?_ ?_) (K9.pf_mk ?_ ?_ ?_ ?_) (K9.pf_mk ?_ ?_ ?_ ?_) (K9.pf_mk ?_ ?_ ?_ ?_) (K9.pf_mk ?_ ?_ ?_ ?_) (K9.pf_mk ?_ ?_ ?_ ?_) (K9.pf_mk ?_ ?_ ?_ ?_) (K9.pf_mk ?_ ?_ ?_ ?_) (K9.pf_mk ?_ ?_ ?_ ?_) (K9.pf_mk ?_ ?_ ?_ ?_) (K9.pf_mk ?_ ?_ ?_ ?_) (K9.pf_mk ?_ ?_ ?_ ?_) (K9.pf_mk ?_ ?_ ?_ ?_) (K9.pf_mk ?_ ?_ ?_ ?_) (K9.pf_mk ?_ ?_ ?_ ?_) (K9.pf_mk ?_ ?_ ?_ ?_) (K9.pf_mk ?_ ?_ ?_ ?_) (K9.pf_mk ?_ ?_ ?_ ?_) (K9.pf_mk ?_ ?_ ?_ ?_) (K9.pf_mk ?_ ?_ ?_ ?_) (K9.pf_mk ?_ ?_ ?_ ?_) (K9.pf_mk ?_ ?_ ?_ ?_) (K9.pf_mk ?_ ?_ ?_ ?_) (K9.pf_mk ?_ ?_ ?_ ?_) (K9.pf_mk ?_ ?_ ?_ ?_) (K9.pf_mk ?_ ?_ ?_ ?_) (K9.pf_mk ?_ ?_ ?_ ?_) (K9.pf_mk ?_ ?_ ?_ ?_) (K9.pf_mk ?_ ?_ ?_ ?_) (K9.pf_mk ?_ ?_ ?_ ?_) (K9.pf_mk ?_ ?_ ?_ ?_) (K9.pf_mk ?_ ?_ ?_ ?_) (K9.pf_mk ?_ ?_ ?_ ?_) (K9.pf_mk ?_ ?_ ?_ ?_) (K9.pf_mk ?_ ?_ ?_ ?_) (K9.pf_mk ?_ ?_ ?_ ?_) (K9.pf_mk ?_ ?_ ?_ ?_) (K9.pf_mk ?_ ?_ ?_ ?_) (K9.pf_mk ?_ ?_ ?_ ?_) (K9.pf_mk ?_ ?_ ?_ ?_) (K9.pf_mk ?_ ?_ ?_ ?_) (K9.pf_mk ?_ ?_ ?_ ?_) (K9.pf_mk ?_ ?_ ?_ ?_) (K9.pf_mk ?_ ?_ ?_ ?_) (K9.pf_mk ?_ ?_ ?_ ?_) (K9.pf_mk ?_ ?_ ?_ ?_) (K9.pf_mk ?_ ?_ ?_ ?_) (K9.pf_mk ?_ ?_ ?_ ?_) (K9.pf_mk ?_ ?_ ?_ ?_) (K9.pf_mk ?_ ?_ ?_ ?_) (K9.pf_mk ?_ ?_ ?_ ?_) (K9.pf_mk ?_ ?_ ?_ ?_) (K9.pf_mk ?_ ?_ ?_ ?_) (K9.pf_mk ?_ ?_ ?_ ?_) (K9.pm_mk ?_ ?_ ?_ ?_ ?_) (K9.pm_mk ?_ ?_ ?_ ?_ ?_) (K9.pd_mk ?_ ?_ ?_ ?_ ?_ ?_) (K9.pm_mk ?_ ?_ ?_ ?_ ?_) (K9.pm_mk ?_ ?_ ?_ ?_ ?_) (K9.pm_mk ?_ ?_ ?_ ?_ ?_) (K9.pd_mk ?_ ?_ ?_ ?_ ?_ ?_) (K9.pm_mk ?_ ?_ ?_ ?_ ?_) (K9.pm_mk ?_ ?_ ?_ ?_ ?_) (K9.pm_mk ?_ ?_ ?_ ?_ ?_) (K9.pm_mk ?_ ?_ ?_ ?_ ?_) (K9.pm_mk ?_ ?_ ?_ ?_ ?_) (K9.pm_mk ?_ ?_ ?_ ?_ ?_) (K9.pm_mk ?_ ?_ ?_ ?_ ?_) (K9.pm_mk ?_ ?_ ?_ ?_ ?_) (K9.pm_mk ?_ ?_ ?_ ?_ ?_) (K9.pm_mk ?_ ?_ ?_ ?_ ?_) (K9.px_mk ?_ ?_ ?_ ?_ ?_ ?_ ?_ ?_) (K9.px_mk ?_ ?_ ?_ ?_ ?_ ?_ ?_ ?_) (K9.px_mk ?_ ?_ ?_ ?_ ?_ ?_ ?_ ?_) (K9.px_mk ?_ ?_ ?_ ?_ ?_ ?_ ?_ ?_) (K9.pc_mk ?_ ?_ ?_ ?_ ?_ ?_ ?_ ?_) ?_ (K9.pc_mk ?_ ?_ ?_ ?_ ?_ ?_ ?_ ?_) ?_ ?_ ?_ ?_ (K9.pc_mk ?_ ?_ ?_ ?_ ?_ ?_ ?_ ?_) ?_ ?_ ?_ ?_ ?_ ?_ ?_ ?_ ?_ ?_ ?_ ?_ ?_ ?_ ?_ ?_ ?_ ?_ ?_ ?_ ?_ ?_ ?_ ?_ ?_ ?_ ?_ ?_ ?_ ?_
  any_goals first | k_is | kit_is | k_exc
#print axioms PySem.Challenge.cw_hangmobile_k09_whole_mends_holds
