import PyProof.Rows.All
import Wide.All
import OpenK.AllK
import Wide.FinOn
import Lean
import PyProof.EqAt
import PyProof.EqKinds
import PyProof.TupleCall
import PyProof.NeKinds
import PyProof.ExcInit
import PyProof.Rows.SortStr
import PyProof.Rows.SortWalk
import PyProof.Rows.RuleB_bool
import PyProof.Rows.SortShellK
import KE.KIntText
import KE.KIsAll
import PyProof.AttrMissHeap
import PyProof.CompUse
import PyProof.Rows.CountFlat
import PySem.Challenge.RW_sidecut_k27_points_and_ways_in_patches
set_option Elab.async false
set_option linter.all false
set_option maxRecDepth 100000
set_option maxHeartbeats 4000000
open List renaming getElem?_eq_getElem -> aAX, getElem?_eq_some_iff -> aA7, length_map -> aBC, mem_cons -> aB1, mem_map -> aDB, append_assoc -> aDE, getElem?_map -> aDF, mem_of_getElem? -> aFS, size_toArray -> aF0, mem_append_right -> aG2, getD_eq_getElem?_getD -> aG5, getElem?_append_left -> aG6, length_append -> aIG, mem_cons_of_mem -> aJV, append_nil -> aKE, length_cons -> aKX, getElem?_set_ne -> aK0, getElem?_append_right -> aLZ, length_take -> aMI, mem_append -> aM3, map_map -> aN1, replicate -> aN2, all_eq_true -> aN7, getElem?_set_self -> aOP, map_cons -> aPB, mem_singleton -> aPD, getElem_mem -> aQI, nil_append -> aQY, Nodup -> aQ2, drop_eq_getElem_cons -> aQ3, getElem?_take_of_lt -> aQ4, mem_range -> aQ7, map_append -> aQ9, mem_cons_self -> aRA, getElem?_of_mem -> aRE, not_mem_nil -> aRO, lookup_cons -> aR3, any_eq_true -> aSA, length_tail -> aSI, length_singleton -> aSN, pairwise_cons -> aSR, eq_nil_of_length_eq_zero -> aSY, drop_length -> aS0, range -> aS1, take_of_length_le -> aS2, nodup_cons -> aS3, of_mem_zip -> aS4, getElem?_take_eq_none -> aS6, mem_of_mem_take -> aS8, mem_flatMap -> aTB, any_cons -> aTD, mem_filter -> aTE, find?_cons -> aTF, length_nil -> aTG, getElem?_set -> aTH, flatMap_cons -> aTI, length_replicate -> aTJ, length_drop -> aTO, getElem?_zipIdx -> aTP, mem_of_mem_tail -> aTR, foldl_cons -> aTV, mem_filterMap -> aTY, filter_cons_of_pos -> aT2, set_comm -> aT4, getElem?_eq_none -> aT5, length_filter_le -> aT6, length_set -> aT8, map_nil -> aT9, forIn_cons -> aUA, length_zip -> aUD, filterMap_cons -> aUF, getElem?_range -> aUG, mem_map_of_mem -> aUH, mem_zipIdx_iff_getElem? -> aUJ, map_take -> aUO, getElem?_inj -> aUP, getElem?_zip_eq_some -> aUS, getElem?_replicate -> aUX, filter_cons_of_neg -> aUZ, drop_zero -> aU5, all_cons -> aU6, map_tail -> aU7
open PySem.Heap renaming get?_push_of_some -> aDA, lt_size -> aDD, get?_push_size -> aG4, size_push -> aSZ, get?_update_self -> aTL, SameBut -> aTW, get?_update_other -> aU1
open Or renaming inl -> aDC, inr -> aN3
open Nat renaming le_refl -> aDP, lt_of_lt_of_le -> aEG, ne_of_lt -> aHH, lt_of_le_of_lt -> aOL, gcd -> aOM, le_trans -> aPW, le_of_lt -> aP1, zero_le -> aQ5, pow_le_pow_right -> aQ6, lt_or_ge -> aRB, mod_eq_of_lt -> aRD, gcd_dvd_left -> aR8, gcd_dvd_right -> aSS, gcd_pos_of_pos_right -> aS9, mul_le_mul -> aTN, mod_lt -> aTQ, not_lt_zero -> aTU, max_le -> aUB, add_mod_right -> aUQ, max -> aUT, gcd_comm -> aUU, log2 -> aUV, mod_self -> aUW, min_eq_left -> aU0, log2_lt -> aU2, Coprime -> aU3
open Bool renaming and_eq_true -> aLI, eq_iff_iff -> aP4, eq_false_iff -> aRG, not_eq_true' -> aS7, false_ne_true -> aTX, or_eq_true -> aUE, false_and -> aUI, false_eq_true -> aUL, and_false -> aU4, true_and -> aU8
open Int renaming ofNat_dvd_left -> aPM, toNat_natCast -> aQ8, mul_ediv_cancel_left -> aRC, natAbs_mul -> aRF, fdiv_eq_ediv_of_nonneg -> aS5, natAbs_neg -> aTM, mul_assoc -> aTT, emod_lt_of_pos -> aT0, mul_nonpos_of_nonneg_of_nonpos -> aT3, emod_nonneg -> aUC, mul_pos -> aUK, ediv_eq_of_eq_mul_right -> aUM, fmod_eq_emod_of_nonneg -> aUN, eq_of_mul_eq_mul_left -> aUR
open PySem.Value renaming ref -> aPQ, none -> aT1
open PySem.Obj renaming mapSeq -> aRH
open Array renaming length_toList -> aTC, getElem?_setIfInBounds_self_of_lt -> aTS, getElem?_setIfInBounds_ne -> aT7, toList -> aU9
open PySem.Str renaming ofString -> aTK
open PySem.Txt renaming slice -> aTZ
open Option renaming bind_eq_some_iff -> aUY
open PyProof.Rows renaming assignInOrder_cons -> aV0, envOfC -> aWJ, AllBare -> aWM, assignInOrder_nil -> aWS
open PySem renaming Addr -> aVA, wpAny_bind -> aVB, wpAny -> aVC, Program -> aVD, wpAny_pure -> aVE, FuncData -> aVF, model -> aVG, World -> aVH, sizeLine -> aVI, mainGlobals -> aVJ, Stmt -> aVK, starEach -> aVL, behindInMarks -> aVM, foldedSetIterable -> aVN, assignEach -> aVO, eval -> aVP, wpAny_newObj_type -> aVQ, wpAny_mono -> aVR, bootBuiltins -> aVS, wpAny_field -> aVT, compareOp -> aVU, Scope -> aVV, wpAny_truthy_bool -> aVW, swapsWithSole -> aVX, swappedStores -> aVY, attributeBase -> aVZ, wpAny_passesOwn -> aV1, binaryOp -> aV2, swapsWith -> aV3, wpAny_seqItems -> aV4, assign -> aV5, wpAny_setField_rec -> aV6, holding -> aV7, sysModules -> aV8, bindName -> aV9, wpAny_call_entry -> aWA, wpAny_standAt -> aWB, sliceBounds -> aWC, letOwnedTupleGo -> aWD, wpAny_pyIter_tuple -> aWE, wpAny_bindName -> aWF, cLine -> aWG, IsZip -> aWH, backTo -> aWI, assignInOrder -> aWK, wpAny_holding -> aWL, codeAny -> aWN, wpAny_execs_nil -> aWO, wpAny_rule -> aWP, getItem -> aWQ, wpAny_Call_Name_kw -> aWR, callerA -> aWT, sizeLine_eq -> aWU, subscripted -> aWV
namespace L2
open PySem PySem.Spec PyProof.Rows
abbrev Key:=Sum Int Str
def sJ:Key->Value->Bool
 | .inl k,v=>Value.isInt k v
 | .inr x,v=>Value.isStrOf x v
def aST (w:aVH):Key->Int
 | .inl k=>hashInt k
 | .inr x=>hashStr w x
theorem cP:∀{k:Key} {v:Value},sJ k v=true->(∃i t,k=Sum.inl i/\v=Value.int i t)\/(∃x t,k=Sum.inr x/\v=Value.str x t)
 | .inl i,v,h=>by
  obtain ⟨t,e⟩:=Value.isInt_shape (k:=i) (v:=v) h;exact .inl ⟨i,t,rfl,e⟩
 | .inr x,v,h=>by
  obtain ⟨t,e⟩:=Value.isStrOf_shape (x:=x) (v:=v) h;exact .inr ⟨x,t,rfl,e⟩
theorem aCX (i:Int) (t:Tok):sJ (.inl i) (.int i t)=true:=by simp [sJ,Value.isInt]
theorem aB3 (x:Str) (t:Tok):sJ (.inr x) (.str x t)=true:=by simp [sJ,Value.isStrOf]
theorem aMY (a b:Int):decide ((Sum.inl a:Key)=Sum.inl b)=(a==b):=by
 by_cases e:a=b
 ·subst e;simp
 ·have h:¬(Sum.inl a:Key)=Sum.inl b:=λq=>e (Sum.inl.inj q);rw [decide_eq_false h];exact (beq_eq_false_iff_ne.mpr e).symm
theorem aL0 (a b:Str):decide ((Sum.inr a:Key)=Sum.inr b)=decide (a=b):=by
 by_cases e:a=b
 ·subst e;simp
 ·have h:¬(Sum.inr a:Key)=Sum.inr b:=λq=>e (Sum.inr.inj q);rw [decide_eq_false h,decide_eq_false e]
theorem aL6 (a:Int) (b:Str):decide ((Sum.inl a:Key)=Sum.inr b)=false:=decide_eq_false (λq=>nomatch q)
theorem aL1 (a:Str) (b:Int):decide ((Sum.inr a:Key)=Sum.inl b)=false:=decide_eq_false (λq=>nomatch q)
def dE (prog:aVD) (w:aVH):PySem.KeyKind prog w Key where
 is:=sJ
 hash:=aST w
 inj:=λv a b ha hb=>by
  rcases cP ha with ⟨i,t,rfl,rfl⟩ | ⟨x,t,rfl,rfl⟩
  ·rcases cP hb with ⟨j,u,rfl,e⟩ | ⟨y,u,rfl,e⟩
   ·injection e with e1 _;rw [e1]
   ·exact nomatch e
  ·rcases cP hb with ⟨j,u,rfl,e⟩ | ⟨y,u,rfl,e⟩
   ·exact nomatch e
   ·injection e with e1 _;rw [e1]
 byValue:=λk v h=>by
  rcases cP h with ⟨i,t,rfl,rfl⟩ | ⟨x,t,rfl,rfl⟩<;>rfl
 pyHash:=λhv h=>by
  rcases cP hv with ⟨i,t,rfl,rfl⟩ | ⟨x,t,rfl,rfl⟩
  ·exact wpAny_pyHash_int h
  ·exact wpAny_pyHash_str h
 eqBool:=λhu hv h=>by
  rcases cP hu with ⟨i,t,rfl,rfl⟩ | ⟨x,t,rfl,rfl⟩
  ·rcases cP hv with ⟨j,u,rfl,rfl⟩ | ⟨y,u,rfl,rfl⟩
   ·rw [aMY] at h;exact wpAny_eqBool_int h
   ·rw [aL6] at h;exact SeqAt.EqAt.int_str i t y u _ _ _ _ h
  ·rcases cP hv with ⟨j,u,rfl,rfl⟩ | ⟨y,u,rfl,rfl⟩
   ·rw [aL1] at h;exact SeqAt.EqAt.str_int x t j u _ _ _ _ h
   ·rw [aL0] at h;exact wpAny_eqBool_str h
 «strs»:=λk x t v h=>by
  rcases cP h with ⟨i,u,rfl,e⟩ | ⟨y,u,rfl,e⟩
  ·exact nomatch e
  ·injection e with e1 _;subst e1;cases v<;>rfl
theorem wX (prog:aVD) (w:aVH) (i:Int) (t:Tok):(dE prog w).is (.inl i) (.int i t)=true:=aCX i t
theorem w6 (prog:aVD) (w:aVH) (x:Str) (t:Tok):(dE prog w).is (.inr x) (.str x t)=true:=aB3 x t
inductive V where
 | non | bl (b:Bool) | int (i:Int) | str (x:Str) | byt (b:Array UInt8) | flt (b:UInt64) | ref (a:aVA) | ty (n:String)
 deriving DecidableEq
def bG:V->Value->Prop
 | .non,u=>u=aT1
 | .bl b,u=>u=Value.bool b
 | .int i,u=>∃t,u=Value.int i t
 | .str x,u=>∃t,u=Value.str x t
 | .byt b,u=>∃t,u=Value.bytes b t
 | .flt b,u=>∃t,u=Value.float b t
 | .ref a,u=>u=aPQ a
 | .ty n,u=>u=Value.type n
abbrev bF:List V->List Value->Prop:=Paired bG
theorem bF.length {xs:List V} {us:List Value} (r:bF xs us):xs.length=us.length:=Paired.length r
theorem bF.get:∀{xs:List V} {us:List Value} {i:Nat} {x:V},bF xs us->xs[i]? = some x->∃u,us[i]? = some u/\bG x u
 | _,_,_,_,.nil,e=>by simp at e
 | _,_,0,_,.cons r _,e=>by simp at e;subst e;exact ⟨_,rfl,r⟩
 | _,_,i+1,x,.cons _ t,e=>by
  obtain ⟨u,h1,h2⟩:=bF.get (i:=i) (x:=x) t (by simpa using e);exact ⟨u,by simpa using h1,h2⟩
theorem bF.set {x:V} {u:Value} (r:bG x u):∀{xs:List V} {us:List Value} (i:Nat),bF xs us->bF (xs.set i x) (us.set i u)
 | _,_,_,.nil=>.nil
 | _,_,0,.cons _ t=>.cons r t
 | _,_,i+1,.cons q t=>.cons q (bF.set r i t)
theorem bF.append:∀{xs ys:List V} {us ws:List Value},bF xs us->bF ys ws->bF (xs++ys) (us++ws)
 | _,_,_,_,.nil,s=>s
 | _,_,_,_,.cons r t,s=>.cons r (bF.append t s)
theorem bF.take:∀{xs:List V} {us:List Value} (n:Nat),bF xs us->bF (xs.take n) (us.take n)
 | _,_,0,_=>.nil
 | _,_,_+1,.nil=>.nil
 | _,_,n+1,.cons r t=>.cons r (bF.take n t)
theorem bF.drop:∀{xs:List V} {us:List Value} (n:Nat),bF xs us->bF (xs.drop n) (us.drop n)
 | _,_,0,r=>r
 | _,_,_+1,.nil=>.nil
 | _,_,n+1,.cons _ t=>bF.drop n t
def vB:Option V->Option Value->Prop
 | some v,some u=>bG v u
 | none,none=>True
 | _,_=>False
def KV {κ:Type}:List (κ×V)->List (κ×Value)->Prop:=Paired λ(p:κ×V) (q:κ×Value)=>p.1=q.1/\bG p.2 q.2
def kV:Key->V
 | .inl i=>.int i
 | .inr x=>.str x
inductive HO where
 | lst (xs:List V)
 | tup (xs:List V)
 | dK (kvs:List (Key×V)) | dT (kvs:List (List Key×V))
 | set (S:Int->Bool) (n:Nat)
 | ins (C dx:aVA) (fs:List (Str×V))
 | own (x:aVA)
 | xd (fs:List (Str×V))
 | met (f x:aVA)
 | rng (lo hi:Int)
 | frz (o:Obj) (u:HO)
 | tbl (ps:Array Value)
 | ext (φ:Heap->Prop)
abbrev Hp:=aVA->Option HO
def upd (H:Hp) (a:aVA) (o:HO):Hp:=λb=>if b=a then some o else H b
theorem bT {H:Hp} {a:aVA} {o:HO}:upd H a o a=some o:=by unfold upd;rw [if_pos rfl]
theorem aR {H:Hp} {a b:aVA} {o:HO} (h:b≠a):upd H a o b=H b:=by unfold upd;rw [if_neg h]
theorem aY {H:Hp} {a b:aVA} {o:HO} (h:H a=some o) (h':H b=none):a≠b:=by
 intro e;subst e;rw [h] at h';cases h'
section
variable (P:aVD) (w:aVH)
def c8 (H:Hp) (h:Heap) (a:aVA):HO->Prop
 | .lst xs=>xs.length<=aVI/\∃(its:List Value) (n:Nat),bF xs its/\h.get? a=some { cls:=.type "list",data:=.seq its.toArray n }
 | .tup xs=>xs.length<=aVI/\∃its:List Value,bF xs its/\IsTup h a its.toArray
 | .dK kvs=>kvs.length<=aVI/\(a==aV8)=false/\∃vs,KV kvs vs/\h.DictOf (dE P w) a vs
 | .dT kvs=>kvs.length<=aVI/\(a==aV8)=false/\∃xs:List (List Key×aVA×Value),
   Paired (λ(p:List Key×V) (q:List Key×aVA×Value)=>p.1=q.1/\H q.2.1=some (.tup (p.1.map kV))/\bG p.2 q.2.2) kvs xs/\
   ∃o es ep,h.get? a=some o/\o.ExactDict/\o.data = .dict es ep/\es.toList=xs.map (entryOfKey (tupleKind (dE P w)))/\(xs.map (·.1)).Nodup
 | .set S n=>h.SetOf (intKind P w) a S n
 | .ins C dx fs=>H dx=some (.own a)/\fs.length<=1000/\dx≠a/\h.get? a=some (W.instObj C dx)/\
   ∃mA,h.Ns1 dx mA/\(∀f,vB (fs.lookup f) (mA f))/\PySem.Within mA (fs.map (·.1))
 | .own _=>∃o,h.get? a=some o
 | .xd fs=>∃mA,h.Ns1 a mA/\∀f,vB (fs.lookup f) (mA f)
 | .rng lo hi=>∃t u v,h.get? a=some { cls:=.type "range",data:=.fields #[.int lo t,.int hi u,.int 1 v] }
 | .frz o u=>h.get? a=some o/\c8 H h a u
 | .tbl ps=>h.get? a=some { cls:=.none,data:=.fields ps }
 | .met f x=>h.get? a=some (W.methodObj (.ref f) (.ref x))
 | .ext φ=>φ h/\(∃o,h.get? a=some o)/\∀h1 h2:Heap,φ h1->(∀o,h1.get? a=some o->h2.get? a=some o)->φ h2
def kT (H:Hp) (h:Heap):Prop:=∀a o,H a=some o->c8 P w H h a o
end
section
variable {P:aVD} {w:aVH} {H H':Hp} {h h':Heap} {a:aVA} {o:HO}
theorem c8.lt (x:c8 P w H h a o):a<h.objs.size:=by
 cases o with
 | lst xs=>obtain ⟨_,_,_,_,e⟩:=x;exact aDD e
 | tup xs=>obtain ⟨_,_,_,p⟩:=x;exact p.lt
 | dK kvs=>obtain ⟨_,_,_,_,o,_,_,e,_⟩:=x;exact aDD e
 | dT kvs=>obtain ⟨_,_,_,_,o,_,_,e,_⟩:=x;exact aDD e
 | set S n=>obtain ⟨o,_,_,_,e,_⟩:=x;exact aDD e
 | ins C dx fs=>obtain ⟨_,_,_,e,_⟩:=x;exact aDD e
 | own y=>obtain ⟨_,e⟩:=x;exact aDD e
 | xd fs=>obtain ⟨_,⟨_,_,_,e,_⟩,_⟩:=x;exact aDD e
 | rng lo hi=>obtain ⟨_,_,_,e⟩:=x;exact aDD e
 | frz ob u=>obtain ⟨e,_⟩:=x;exact aDD e
 | tbl ps=>exact aDD (show h.get? a=some _ from x)
 | met f y=>exact aDD (show h.get? a=some _ from x)
 | ext φ=>obtain ⟨_,⟨_,e⟩,_⟩:=x;exact aDD e
theorem Paired.mapP {α β:Type} {F G:α->β->Prop}:∀{l₁:List α} {l₂:List β},Paired F l₁ l₂->(∀a b,F a b->G a b)->Paired G l₁ l₂
 | _,_,.nil,_=>.nil
 | _,_,.cons r t,f=>.cons (f _ _ r) (Paired.mapP t f)
theorem c8.stay (x:c8 P w H h a o) (k:∀b u,(b=a\/H b=some (.own a))->h.get? b=some u->h'.get? b=some u)
  (ho:∀b,H b=some (.own a)->H' b=some (.own a)) (ht:∀b xs,H b=some (.tup xs)->H' b=some (.tup xs)):c8 P w H' h' a o:=by
 induction o with
 | lst xs=>obtain ⟨z,its,n,r,e⟩:=x;exact ⟨z,its,n,r,k _ _ (.inl rfl) e⟩
 | tup xs=>obtain ⟨z,its,r,ob,e,c⟩:=x;exact ⟨z,its,r,ob,k _ _ (.inl rfl) e,c⟩
 | dK kvs=>obtain ⟨z,y,vs,r,ob,es,ep,e,c⟩:=x;exact ⟨z,y,vs,r,ob,es,ep,k _ _ (.inl rfl) e,c⟩
 | dT kvs=>
  obtain ⟨z,y,xs,r,ob,es,ep,e,c⟩:=x;exact ⟨z,y,xs,Paired.mapP r λp q z=>⟨z.1,ht _ _ z.2.1,z.2.2⟩,ob,es,ep,k _ _ (.inl rfl) e,c⟩
 | set S n=>obtain ⟨ob,es,ep,t,e,c⟩:=x;exact ⟨ob,es,ep,t,k _ _ (.inl rfl) e,c⟩
 | ins C dx fs=>
  obtain ⟨d,z,ne,e,mA,⟨od,es,ep,e2,c⟩,r⟩:=x;exact ⟨ho _ d,z,ne,k _ _ (.inl rfl) e,mA,⟨od,es,ep,k _ _ (.inr d) e2,c⟩,r⟩
 | own y=>obtain ⟨ob,e⟩:=x;exact ⟨ob,k _ _ (.inl rfl) e⟩
 | xd fs=>obtain ⟨mA,⟨od,es,ep,e,c⟩,r⟩:=x;exact ⟨mA,⟨od,es,ep,k _ _ (.inl rfl) e,c⟩,r⟩
 | rng lo hi=>obtain ⟨t,u,v,e⟩:=x;exact ⟨t,u,v,k _ _ (.inl rfl) e⟩
 | frz ob u ih=>obtain ⟨e,q⟩:=x;exact ⟨k _ _ (.inl rfl) e,ih q⟩
 | tbl ps=>
  have e:h.get? a=some { cls:=.none,data:=.fields ps }:=x;show h'.get? a=some { cls:=.none,data:=.fields ps };exact k a _ (.inl rfl) e
 | met f y=>
  have e:h.get? a=some (W.methodObj (.ref f) (.ref y)):=x;show h'.get? a=some (W.methodObj (.ref f) (.ref y));exact k a _ (.inl rfl) e
 | ext φ=>obtain ⟨p,⟨o,e⟩,st⟩:=x;exact ⟨st _ _ p λo q=>k _ _ (.inl rfl) q,⟨o,k _ _ (.inl rfl) e⟩,st⟩
theorem kT.lt (x:kT P w H h) (e:H a=some o):a<h.objs.size:=(x a o e).lt
theorem kT.fresh (x:kT P w H h) (e:h.objs.size<=a):H a=none:=by
 cases q:H a with
 | none=>rfl
 | some u=>exact absurd (aEG (x.lt q) e) (Nat.lt_irrefl _)
theorem kT.kept (x:kT P w H h) (k:∀b u,h.get? b=some u->h'.get? b=some u):kT P w H h':=λa o e=>
 (x a o e).stay (λb u _ q=>k b u q) (λ_ q=>q) λ_ _ q=>q
theorem kT.laid (x:kT P w H h) (k:∀b u,h.get? b=some u->h'.get? b=some u) (hp:h.objs.size<=a) (new:c8 P w (upd H a o) h' a o):kT P w (upd H a o) h':=λb u e=>by
 have hn:=x.fresh hp
 by_cases hb:b=a
 ·subst hb;rw [bT] at e;cases e;exact new
 ·rw [aR hb] at e;exact (x b u e).stay (λc v _ q=>k c v q) (λc q=>by rw [aR (aY q hn)];exact q) λc xs q=>by rw [aR (aY q hn)];exact q
end
def Rd (H:Hp) (a:aVA) (u:HO):Prop:=H a=some u\/∃o,H a=some (.frz o u)
theorem Rd.ok {P:aVD} {w:aVH} {H:Hp} {h:Heap} {a:aVA} {u:HO} (r:Rd H a u) (x:kT P w H h):c8 P w H h a u:=by
 rcases r with r | ⟨o,r⟩
 ·exact x a u r
 ·obtain ⟨_,q⟩:=x a _ r;exact q
def Mut:Option HO->Prop
 | some (.lst _)=>True
 | some (.dK _)=>True
 | some (.dT _)=>True
 | some (.set _ _)=>True
 | some (.ins _ _ _)=>True
 | some (.ext _)=>True
 | _=>False
section
variable {P:aVD} {w:aVH} {H:Hp} {h h':Heap} {x e:aVA} {o':HO}
theorem kT.write (ok:kT P w H h) (mu:Mut (H x)) (he:e=x\/H e=some (.own x)) (k:∀b u,b≠e->h.get? b=some u->h'.get? b=some u) (heo:∃u,h'.get? e=some u)
  (new:c8 P w (upd H x o') h' x o'):kT P w (upd H x o') h':=λb u q=>by
 have nown:∀c y,H c=some (.own y)->c≠x:=λc y r z=>by subst z;rw [r] at mu;exact mu
 have ntup:∀c xs,H c=some (.tup xs)->c≠x:=λc xs r z=>by subst z;rw [r] at mu;exact mu
 by_cases hb:b=x
 ·subst hb;rw [bT] at q;cases q;exact new
 ·rw [aR hb] at q
  by_cases hbe:b=e
  ·have q':H b=some (.own x):=by
    rcases he with z | z
    ·exact absurd (hbe.trans z) hb
    ·rw [hbe];exact z
   rw [q] at q';cases q';obtain ⟨v,hv⟩:=heo;exact ⟨v,by rw [hbe];exact hv⟩
  ·refine (ok b u q).stay (λc v hc r=>k c v ?_ r) (λc r=>by rw [aR (nown c b r)];exact r) λc xs r=>by rw [aR (ntup c xs r)];exact r
   rcases hc with rfl | hc
   ·exact hbe
   ·rintro rfl;rcases he with z | z
    ·exact nown c b hc z
    ·rw [hc] at z;cases z;exact hb rfl
end
structure Un (fs ex:List aVA) (H H':Hp) (h h':Heap):Prop where
 keep:∀b o,h.get? b=some o->H b=none->b∉fs->b∉ex->h'.get? b=some o
 slot:∀b o,h.get? b=some o->H b=none->b∈fs->b∉ex->∃sl,h'.get? b=some { o with slots:=sl }
 free:∀b o,h.get? b=some o->H b=none->b∉ex->H' b=none
 there:∀b o,h.get? b=some o->b∉ex->∃o',h'.get? b=some o'
 tups:∀b xs,H b=some (.tup xs)->H' b=some (.tup xs)
 frzs:∀b o u,H b=some (.frz o u)->H' b=some (.frz o u)
 tbls:∀b ps,H b=some (.tbl ps)->∃more,H' b=some (.tbl (ps++more))
section
variable {fs fs' ex ex':List aVA} {H H1 H2:Hp} {h h1 h2 h':Heap} {a x e:aVA} {o:HO}
theorem Un.any (u:Un fs ex H H1 h h1) {b:aVA} {ob:Obj} (q:h.get? b=some ob) (n:H b=none) (hx:b∉ex):∃sl,h1.get? b=some { ob with slots:=sl }:=by
 by_cases hb:b∈fs
 ·exact u.slot b ob q n hb hx
 ·exact ⟨ob.slots,u.keep b ob q n hb hx⟩
theorem Un.kept (k:∀b u,h.get? b=some u->h'.get? b=some u):Un fs ex H H h h':=
 ⟨λb ob q _ _ _=>k b ob q,λb ob q _ _ _=>⟨ob.slots,k b ob q⟩,λ_ _ _ n _=>n,λb ob q _=>⟨ob,k b ob q⟩,λ_ _ q=>q,λ_ _ _ q=>q,λ_ ps q=>⟨#[],by rw [q];simp⟩⟩
theorem Un.refl:Un fs ex H H h h:=Un.kept λ_ _ q=>q
theorem Un.laid (k:∀b u,h.get? b=some u->h'.get? b=some u) (hp:h.objs.size<=a) (hn:H a=none):Un fs ex H (upd H a o) h h' where
 keep:=λb u q _ _ _=>k b u q
 slot:=λb u q _ _ _=>⟨u.slots,k b u q⟩
 free:=λb u q n _=>by rw [aR (aHH (aEG (aDD q) hp))];exact n
 there:=λb u q _=>⟨u,k b u q⟩
 tups:=λb xs q=>by rw [aR (aY q hn)];exact q
 frzs:=λb u xs q=>by rw [aR (aY q hn)];exact q
 tbls:=λb ps q=>⟨#[],by rw [aR (aY q hn),q];simp⟩
theorem Un.write (mu:Mut (H x)) (he:e=x\/H e=some (.own x)) (k:∀b u,b≠e->h.get? b=some u->h'.get? b=some u) (heo:∃u,h'.get? e=some u):Un fs ex H (upd H x o) h h':=by
 have hx:∀b,H b=none->b≠x:=λb n z=>by subst z;rw [n] at mu;exact mu
 have hb:∀b,H b=none->b≠e:=λb n z=>by
  subst z;rcases he with r | r
  ·exact hx b n r
  ·rw [n] at r;cases r
 have hm:∀b u,H b=some u->¬Mut (some u)->b≠x:=λb u q nm z=>by subst z;rw [q] at mu;exact nm mu
 refine ⟨λb u q n _ _=>k b u (hb b n) q,λb u q n _ _=>⟨u.slots,k b u (hb b n) q⟩,λb u q n _=>by rw [aR (hx b n)];exact n,λb u q _=>?_,
  λb xs q=>by rw [aR (hm b _ q λz=>z)];exact q,λb u xs q=>by rw [aR (hm b _ q λz=>z)];exact q,λb ps q=>⟨#[],by rw [aR (hm b _ q λz=>z),q];simp⟩⟩
 by_cases hbe:b=e
 ·subst hbe;exact heo
 ·exact ⟨u,k b u hbe q⟩
end
def trk (h:Heap) (H:Hp):List aVA:=(aS1 h.objs.size).filter λa=>(H a).isSome
def tH (h:Heap) (H:Hp):Heap:=W.hideAll h (trk h H)
theorem aCZ (h:Heap) (H:Hp):(tH h H).objs.size=h.objs.size:=W.hideAll_size _ _
theorem aE8 {h:Heap} {H:Hp} {b:aVA} {o:Obj} (e:h.get? b=some o) (n:H b=none):(tH h H).get? b=some o:=
 W.hideAll_get _ e λhm=>by
  have q:(H b).isSome=true:=(aTE.mp hm).2;rw [n] at q;simp at q
theorem aHV {h:Heap} {H:Hp} {b:aVA} {o:Obj} (e:(tH h H).get? b=some o):h.get? b=some o/\H b=none:=by
 have e':h.get? b=some o:=W.of_hideAll (trk h H) e;refine ⟨e',?_⟩;cases q:H b with
 | none=>rfl
 | some x=>
  have hm:b∈trk h H:=aTE.mpr ⟨aQ7.mpr (aDD e'),by simp [q]⟩;have z:(tH h H).get? b=none:=W.hideAll_none (trk h H) hm;rw [z] at e;cases e
structure Mod (K:W.Frag) (mg:Str->Option Value) (base:Heap):Prop where
 kin:K.In base
 glob:base.Ns aVJ mg
 blt:∃mb,base.Ns builtinsNs mb/\∀x:Str,x≠"__name__"->mb x=aVS x
 nolimit:base.NoLimit
structure Cx where
 prog:aVD
 w:aVH
 K:W.Frag
 mg:Str->Option Value
 base:Heap
 A:Around
 N:List Str
 s₀:Shared
 H₀:Hp
 env:Env
 outer:List Env
 stack:List Env
 ex:List aVA
 fn:Str->Bool
 calm:Bool
 pn:List (aVA×Obj)
 xe:Value->Shared->Prop
def xP (l:List Env):List aVA:=l.filterMap (·.frame)
abbrev Cx.fs (X:Cx):List aVA:=xP X.outer
def Vis (sc:aVV) (x:Str):Prop:=sc.names.lookup x=some .local\/sc.names.lookup x=some .cell\/sc.names.lookup x=some .free
def Loc (sc:aVV) (x:Str):Prop:=sc.names.lookup x=some .local\/sc.names.lookup x=some .cell
def aRP (env:Env) (h:Heap) (m:Str->Option Value) (x:Str) (u:Value):Prop:=
 (env.kindOf x=some .local/\m x=some u)\/((env.kindOf x=some .cell\/env.kindOf x=some .free)/\∃c,env.cells.lookup x=some c/\h.IsCell c (some u))
structure Cx.Ok (X:Cx):Prop where
 mod:Mod X.K X.mg X.base
 kind:X.env.scope.kind = .function
 glob:X.env.globals=aVJ
 blt:X.env.builtins=builtinsNs
 above:X.s₀.heap.objs.size<=X.env.locals
 inj:∀x y c,X.env.cells.lookup x=some c->X.env.cells.lookup y=some c->x=y
 has:∀x,(X.env.kindOf x=some .cell\/X.env.kindOf x=some .free)->∃c,X.env.cells.lookup x=some c
 cab:∀x c,X.fn x=true->X.env.cells.lookup x=some c->X.s₀.heap.objs.size<=c
 hd:X.calm=true->X.A.handled=none
 frames:X.A.frames=some X.stack
 stk:X.stack=X.outer\/(X.stack=X.env::X.outer/\X.env.frame=some X.env.locals)
 exf:∀b∈X.ex,b≠X.env.locals/\∀x c,X.env.cells.lookup x=some c->c≠b
 bs:∀b o,X.base.get? b=some o->X.s₀.heap.get? b=some o/\X.H₀ b=none
 bsz:X.base.objs.size<=X.s₀.heap.objs.size
 noex:∀b o,X.base.get? b=some o->b∉X.ex
 exfs:∀b∈X.ex,b∉X.fs
 funs:X.s₀.heap.FunFrames X.base X.outer
 frf:∀b∈X.fs,X.H₀ b=none
structure aT (X:Cx) (pins:List (aVA×Obj)) (σ:List (Option V)) (H:Hp) (s:Shared):Prop where
 ok:X.Ok
 os:s.os=X.s₀.os
 bare:aWM s.gens
 base:Un X.fs X.ex X.H₀ H X.s₀.heap s.heap
 loc:∃m,s.heap.Ns X.env.locals m/\∀(i:Nat) (x:Str) (v:V),X.N[i]? = some x->σ[i]? = some (some v)->Vis X.env.scope x->∃u,bG v u/\aRP X.env s.heap m x u
 cell:∀x c,X.env.cells.lookup x=some c->∃v,s.heap.IsCell c v
 free:H X.env.locals=none
 freeC:∀x c,X.env.cells.lookup x=some c->H c=none
 pin:∀p∈X.pn++pins,s.heap.get? p.1=some p.2/\H p.1=none/\p.1≠X.env.locals/\p.1∉X.fs/\∀v,p.2.data≠.cell v
 hok:kT X.prog X.w H s.heap
 len:σ.length=X.N.length
section
variable {X:Cx} {pins:List (aVA×Obj)} {σ:List (Option V)} {H H':Hp} {s:Shared} {h':Heap}
theorem Cx.Ok.nofr (ok:X.Ok) {b:aVA} {o:Obj} (e:X.base.get? b=some o):b∉X.fs:=λhb=>by
 have:=(ok.funs.mem hb).1;rw [e] at this;cases this
theorem aT.bs (I:aT X pins σ H s):∀b o,X.base.get? b=some o->s.heap.get? b=some o/\H b=none:=λb o e=>
 ⟨I.base.keep b o (I.ok.bs b o e).1 (I.ok.bs b o e).2 (I.ok.nofr e) (I.ok.noex b o e),I.base.free b o (I.ok.bs b o e).1 (I.ok.bs b o e).2 (I.ok.noex b o e)⟩
theorem aT.bk (I:aT X pins σ H s):∀b o,X.base.get? b=some o->s.heap.get? b=some o:=λb o e=>(I.bs b o e).1
theorem aT.mod (I:aT X pins σ H s):Mod X.K X.mg X.base:=I.ok.mod
theorem aT.kIn (I:aT X pins σ H s):X.K.In s.heap:=I.ok.mod.kin.keeps I.bk
theorem aT.lt (I:aT X pins σ H s):X.env.locals<s.heap.objs.size:=let ⟨_,hn,_⟩:=I.loc;hn.lt
theorem aT.sz (I:aT X pins σ H s):X.s₀.heap.objs.size<=s.heap.objs.size:=aPW I.ok.above (aP1 I.lt)
theorem aT.nofs (I:aT X pins σ H s) {a:aVA} (h:s.heap.objs.size<=a):a∉X.fs:=λhb=>by
 obtain ⟨_,o,ho,_⟩:=I.ok.funs.mem hb;exact absurd (aEG (aDD ho) (aPW I.sz h)) (Nat.lt_irrefl _)
theorem aT.cne (I:aT X pins σ H s):∀x c,X.env.cells.lookup x=some c->c≠X.env.locals:=λx c e z=>by
 obtain ⟨v,o,ho,hd⟩:=I.cell x c e;obtain ⟨m,⟨o',es,ep,ho',hd',_⟩,_⟩:=I.loc;rw [z,ho'] at ho;cases ho;rw [hd'] at hd;cases hd
theorem aT.funs (I:aT X pins σ H s):s.heap.FunFrames X.base X.outer:=by
 have all:∀(l:List Env),(∀b∈xP l,b∈X.fs)->X.s₀.heap.FunFrames X.base l->s.heap.FunFrames X.base l:=by
  intro l
  induction l with
  | nil=>intro _ _;trivial
  | cons env r ih=>
   intro hs hl;obtain ⟨hk,⟨L,o,hf,hn,ho,hd⟩,hr⟩:=hl;have hL:L∈X.fs:=hs L (by unfold xP;rw [aUF,hf];exact aRA);obtain ⟨sl,e⟩:=I.base.slot L o ho (I.ok.frf L hL) hL λz=>I.ok.exfs L z hL;exact ⟨hk,⟨L,_,hf,hn,e,hd⟩,ih (λb hb=>hs b (by unfold xP;rw [aUF,hf];exact aJV _ hb)) hr⟩
 exact all X.outer (λ_ hb=>hb) I.ok.funs
theorem aT.stack (I:aT X pins σ H s):s.heap.FunFrames X.base X.stack:=by
 rcases I.ok.stk with e | ⟨e,hf⟩
 ·rw [e];exact I.funs
 ·rw [e];obtain ⟨m,hn,_⟩:=I.loc;refine .cons (by rw [I.ok.kind];decide) hf hn ?_ I.funs;exact Heap.get?_none_of_le (aPW I.ok.bsz I.ok.above)
theorem aT.stkSub (I:aT X pins σ H s):∀b∈xP X.stack,b∈X.env.locals::X.fs:=λb hb=>by
 rcases I.ok.stk with e | ⟨e,hf⟩
 ·rw [e] at hb;exact aJV _ hb
 ·rw [e] at hb;unfold xP at hb;rw [aUF,hf] at hb;exact hb
theorem aT.stkFree (I:aT X pins σ H s):∀b∈xP X.stack,H b=none:=λb hb=>by
 rcases aB1.mp (I.stkSub b hb) with e | hb
 ·rw [e];exact I.free
 ·obtain ⟨_,o,ho,_⟩:=I.ok.funs.mem hb;exact I.base.free b o ho (I.ok.frf b hb) λz=>I.ok.exfs b z hb
theorem aT.step {g':Array GenState} {t':Nat} {d':Drawn} {ch:List aVA} (I:aT X pins σ H s)
  (hch:∀b∈ch,(b∈X.ex\/X.s₀.heap.objs.size<=b)/\b≠X.env.locals/\(∀x c,X.env.cells.lookup x=some c->c≠b)/\∀p∈X.pn++pins,p.1≠b)
  (keep:∀b o,b≠X.env.locals->b∉X.fs->b∉ch->s.heap.get? b=some o->H b=none->h'.get? b=some o)
  (slot:∀b o,b≠X.env.locals->b∈X.fs->b∉ch->s.heap.get? b=some o->H b=none->∃sl,h'.get? b=some { o with slots:=sl }) (free:∀b o,b∉ch->s.heap.get? b=some o->H b=none->H' b=none)
  (there:∀b o,b∉ch->s.heap.get? b=some o->∃o',h'.get? b=some o')
  (tups:∀b xs,H b=some (.tup xs)->H' b=some (.tup xs)) (frzs:∀b o u,H b=some (.frz o u)->H' b=some (.frz o u)) (tbls:∀b ps,H b=some (.tbl ps)->∃more,H' b=some (.tbl (ps++more)))
  (ns:∀m,s.heap.Ns X.env.locals m->h'.Ns X.env.locals m) (hok:kT X.prog X.w H' h') (hg:aWM g') :
  aT X pins σ H' { s with heap:=h',gens:=g',drawn:=d',toks:=t' }:=by
 have neL:∀b o,X.s₀.heap.get? b=some o->b≠X.env.locals:=λb o e=>aHH (aEG (aDD e) I.ok.above);have neC:∀b o,X.s₀.heap.get? b=some o->b∉X.ex->b∉ch:=λb o e hx hb=>by
  rcases (hch b hb).1 with z | z
  ·exact hx z
  ·exact absurd (aEG (aDD e) z) (Nat.lt_irrefl _)
 have cellK:∀x c,X.env.cells.lookup x=some c->∀v,s.heap.IsCell c v->h'.IsCell c v:=λx c e v ⟨o,ho,hd⟩=>by
  have nch:c∉ch:=λz=>(hch c z).2.2.1 x c e rfl
  by_cases hc:c∈X.fs
  ·obtain ⟨sl,q⟩:=slot c o (I.cne x c e) hc nch ho (I.freeC x c e);exact ⟨_,q,hd⟩
  ·exact ⟨o,keep c o (I.cne x c e) hc nch ho (I.freeC x c e),hd⟩
 refine ⟨I.ok,I.os,hg,⟨λb o e n hb hx=>?_,λb o e n hb hx=>?_,λb o e n hx=>?_,λb o e hx=>?_,λb xs e=>tups b xs (I.base.tups b xs e),λb o xs e=>frzs b o xs (I.base.frzs b o xs e),λb ps e=>?_⟩,?_,λx c e=>?_,?_,λx c e=>?_,λp hp=>?_,hok,I.len⟩
 ·exact keep b o (neL b o e) hb (neC b o e hx) (I.base.keep b o e n hb hx) (I.base.free b o e n hx)
 ·obtain ⟨sl,e1⟩:=I.base.slot b o e n hb hx;obtain ⟨sl',e2⟩:=slot b _ (neL b o e) hb (neC b o e hx) e1 (I.base.free b o e n hx);exact ⟨sl',e2⟩
 ·obtain ⟨o',e1⟩:=I.base.there b o e hx;exact free b o' (neC b o e hx) e1 (I.base.free b o e n hx)
 ·obtain ⟨o',e1⟩:=I.base.there b o e hx;exact there b o' (neC b o e hx) e1
 ·obtain ⟨m1,e1⟩:=I.base.tbls b ps e;obtain ⟨m2,e2⟩:=tbls b _ e1;exact ⟨m1++m2,by rw [e2,Array.append_assoc]⟩
 ·obtain ⟨m,hn,hl⟩:=I.loc;refine ⟨m,ns m hn,λi x v e1 e2 e3=>?_⟩;obtain ⟨u,r,l⟩:=hl i x v e1 e2 e3;refine ⟨u,r,?_⟩;rcases l with l | ⟨k,c,e,z⟩
  ·exact .inl l
  ·exact .inr ⟨k,c,e,cellK x c e _ z⟩
 ·obtain ⟨v,z⟩:=I.cell x c e;exact ⟨v,cellK x c e v z⟩
 ·obtain ⟨m,⟨o,_,_,ho,_⟩,_⟩:=I.loc;exact free _ o (λz=>(hch _ z).2.1 rfl) ho I.free
 ·obtain ⟨v,o,ho,hd⟩:=I.cell x c e;exact free c o (λz=>(hch c z).2.2.1 x c e rfl) ho (I.freeC x c e)
 ·obtain ⟨e,n,ne,nf,d⟩:=I.pin p hp;have nch:p.1∉ch:=λz=>(hch p.1 z).2.2.2 p hp rfl;exact ⟨keep p.1 p.2 ne nf nch e n,free p.1 p.2 nch e n,ne,nf,d⟩
theorem aT.un {t':Nat} (I:aT X pins σ H s) (u:Un X.fs [] H H' s.heap h') (hok:kT X.prog X.w H' h'):aT X pins σ H' { s with heap:=h',toks:=t' }:=by
 obtain ⟨m,⟨o,es,ep,ho,r⟩,_⟩:=id I.loc;obtain ⟨sl,hL⟩:=u.any ho I.free (by simp);exact I.step (g':=s.gens) (d':=s.drawn) (ch:=[]) (λ_ z=>nomatch z) (λb o _ hb _ e n=>u.keep b o e n hb (by simp)) (λb o _ hb _ e n=>u.slot b o e n hb (by simp)) (λb o _ e n=>u.free b o e n (by simp)) (λb o _ e=>u.there b o e (by simp)) u.tups u.frzs u.tbls (λm' hm=>by
  obtain ⟨o',es',ep',ho',r'⟩:=hm;rw [ho] at ho';cases ho';exact ⟨_,es',ep',hL,r'⟩) hok I.bare
theorem aT.call {g':Array GenState} {t':Nat} {d':Drawn} {ch:List aVA} (I:aT X pins σ H s) (u:Un (xP X.stack) ch H H' s.heap h') (hok:kT X.prog X.w H' h') (hg:aWM g')
  (hch:∀b∈ch,(b∈X.ex\/X.s₀.heap.objs.size<=b)/\b≠X.env.locals/\(∀x c,X.env.cells.lookup x=some c->c≠b)/\∀p∈X.pn++pins,p.1≠b) :
  aT X pins σ H' { s with heap:=h',gens:=g',drawn:=d',toks:=t' }:=by
 obtain ⟨m,⟨o,es,ep,ho,r⟩,_⟩:=id I.loc;obtain ⟨sl,hL⟩:=u.any ho I.free λz=>(hch _ z).2.1 rfl;exact I.step (ch:=ch) hch (λb o hL hb hc e n=>u.keep b o e n (λz=>(aB1.mp (I.stkSub b z)).elim hL hb) hc) (λb o _ _ hc e n=>u.any e n hc) (λb o hc e n=>u.free b o e n hc) (λb o hc e=>u.there b o e hc) u.tups u.frzs u.tbls (λm' hm=>by
  obtain ⟨o',es',ep',ho',r'⟩:=hm;rw [ho] at ho';cases ho';exact ⟨_,es',ep',hL,r'⟩) hok hg
theorem aT.turned {t':Nat} {it:aVA} (I:aT X pins σ H s) (k:∀b o,b≠it->s.heap.get? b=some o->h'.get? b=some o) (hn:H it=none) (hL:it≠X.env.locals)
  (h1:it∈X.ex\/X.s₀.heap.objs.size<=it) (h2:∀x c,X.env.cells.lookup x=some c->c≠it) (h3:∀p∈X.pn++pins,p.1≠it):aT X pins σ H { s with heap:=h',toks:=t' }:=by
 have nit:∀b u,H b=some u->b≠it:=λb u e z=>by rw [z,hn] at e;cases e
 refine I.step (g':=s.gens) (d':=s.drawn) (ch:=[it]) (λb hb=>?_) (λb o _ _ hc e _=>k b o (λz=>hc (by simp [z])) e) (λb o _ _ hc e _=>⟨o.slots,k b o (λz=>hc (by simp [z])) e⟩) (λ_ _ _ _ n=>n)
  (λb o hc e=>⟨o,k b o (λz=>hc (by simp [z])) e⟩) (λ_ _ e=>e) (λ_ _ _ e=>e) (λb ps e=>⟨#[],by rw [e];simp⟩) (λm hm=>?_) (λb u e=>?_) I.bare
 ·have e:b=it:=by simpa using hb
  subst e;exact ⟨h1,hL,h2,h3⟩
 ·obtain ⟨o,es,ep,ho,r⟩:=hm;exact ⟨o,es,ep,k _ o (Ne.symm hL) ho,r⟩
 ·refine (I.hok b u e).stay (λc v hc q=>k c v ?_ q) (λ_ q=>q) λ_ _ q=>q;rcases hc with z | z
  ·rw [z];exact nit b u e
  ·exact nit c _ z
theorem aT.tok (I:aT X pins σ H s) (t:Nat):aT X pins σ H { s with toks:=t }:=I.un (h':=s.heap) (t':=t) Un.refl I.hok
theorem aT.kept {t':Nat} (I:aT X pins σ H s) (k:∀b u,s.heap.get? b=some u->h'.get? b=some u):aT X pins σ H { s with heap:=h',toks:=t' }:=I.un (Un.kept k) (I.hok.kept k)
theorem aT.laid {a:aVA} {o:HO} {t':Nat} (I:aT X pins σ H s) (k:∀b u,s.heap.get? b=some u->h'.get? b=some u) (hp:s.heap.objs.size<=a) (new:c8 X.prog X.w (upd H a o) h' a o) :
  aT X pins σ (upd H a o) { s with heap:=h',toks:=t' }:=I.un (Un.laid k hp (I.hok.fresh hp)) (I.hok.laid k hp new)
theorem aT.write {x e:aVA} {o:HO} {t':Nat} (I:aT X pins σ H s) (mu:Mut (H x)) (he:e=x\/H e=some (.own x)) (k:∀b u,b≠e->s.heap.get? b=some u->h'.get? b=some u) (heo:∃u,h'.get? e=some u)
  (new:c8 X.prog X.w (upd H x o) h' x o):aT X pins σ (upd H x o) { s with heap:=h',toks:=t' }:=I.un (Un.write mu he k heo) (I.hok.write mu he k heo new)
theorem aT.pins_of {pins':List (aVA×Obj)} (I:aT X pins σ H s) (h:∀p∈pins',s.heap.get? p.1=some p.2/\H p.1=none/\p.1≠X.env.locals/\p.1∉X.fs/\∀v,p.2.data≠.cell v):aT X pins' σ H s:=
 ⟨I.ok,I.os,I.bare,I.base,I.loc,I.cell,I.free,I.freeC,λp hp=>(aM3.mp hp).elim (λz=>I.pin p (List.mem_append_left _ z)) (h p),I.hok,I.len⟩
theorem vG {N:List Str} (hN:N.Nodup) {i j:Nat} {x:Str} (a:N[i]? = some x) (b:N[j]? = some x):i=j:=by
 obtain ⟨h1,e1⟩:=aA7.mp a;obtain ⟨h2,e2⟩:=aA7.mp b;exact (List.getElem_inj hN).mp (e1.trans e2.symm)
theorem rT {M:Model} {A:Around} {E:Value->Shared->Prop} {i:Nat} {x:Str} {v:V} {u:Value} {Q:Unit->Shared->Prop} (I:aT X pins σ H s) (hN:X.N.Nodup) (hi:X.N[i]? = some x) (hx:Loc X.env.scope x) (r:bG v u)
  (h:∀s',aT X pins (σ.set i (some v)) H s'->(∃a,aTW a s.heap s'.heap/\(a=X.env.locals\/X.env.cells.lookup x=some a))->Q () s') (hf:X.fn x=true\/X.env.scope.names.lookup x=some .local:=by first | exact .inl rfl | exact .inr rfl | assumption):aVC M A (storeName X.env x u) Q E s:=by
 obtain ⟨m,hn,hl⟩:=id I.loc;have hcls:(X.env.scope.kind==.class||(X.env.scope.kind==.module&&X.env.locals != X.env.globals))=false:=by rw [I.ok.kind];rfl
 have hiσ:i<σ.length:=by rw [I.len];exact (aA7.mp hi).1
 have cne:=I.cne;have tracked:∀{a:aVA} {h':Heap},(∃o,s.heap.get? a=some o/\H a=none)->aTW a s.heap h'->kT X.prog X.w H h':=λ{a h'} ha hs b ob e=>by
  obtain ⟨_,_,hfree⟩:=ha;refine (I.hok b ob e).stay (λc w' hc q=>(hs.2 c ?_).trans q) (λ_ q=>q) λ_ _ q=>q;rintro rfl;rcases hc with rfl | hc
  ·rw [hfree] at e;cases e
  ·rw [hfree] at hc;cases hc
 rcases hx with hk | hk
 ·refine wpAny_storeName_local hk hn (λh' hn' hs=>?_) hcls;obtain ⟨oL,_,_,hoL,_⟩:=id hn;refine h _ ⟨I.ok,I.os,I.bare,⟨λb o e n hb hx=>?_,λb o e n hb hx=>?_,I.base.free,λb o e hx=>?_,I.base.tups,I.base.frzs,I.base.tbls⟩,⟨_,hn',λj y v' e1 e2 e3=>?_⟩,λy c e=>?_,I.free,I.freeC,λp hp=>?_,tracked ⟨oL,hoL,I.free⟩ hs,by simpa using I.len⟩ ⟨_,hs,.inl rfl⟩
  ·exact (hs.2 b (aHH (aEG (aDD e) I.ok.above))).trans (I.base.keep b o e n hb hx)
  ·obtain ⟨sl,e1⟩:=I.base.slot b o e n hb hx;exact ⟨sl,(hs.2 b (aHH (aEG (aDD e) I.ok.above))).trans e1⟩
  ·obtain ⟨o',e1⟩:=I.base.there b o e hx;exact ⟨o',(hs.2 b (aHH (aEG (aDD e) I.ok.above))).trans e1⟩
  ·by_cases hj:j=i
   ·subst hj;rw [hi] at e1;cases e1;rw [aOP hiσ] at e2;cases e2;exact ⟨u,r,.inl ⟨hk,by simp⟩⟩
   ·rw [aK0 (Ne.symm hj)] at e2;obtain ⟨u',r',q⟩:=hl j y v' e1 e2 e3;refine ⟨u',r',?_⟩;rcases q with ⟨k,e⟩ | ⟨k,c,e,z⟩
    ·refine .inl ⟨k,?_⟩;have:y≠x:=λe=>hj (vG hN e1 (e ▸ hi));simp [this,e]
    ·exact .inr ⟨k,c,e,z.sameBut hs (cne y c e)⟩
  ·obtain ⟨w',z⟩:=I.cell y c e;exact ⟨w',z.sameBut hs (cne y c e)⟩
  ·obtain ⟨e,n,ne,nf,d⟩:=I.pin p hp;exact ⟨(hs.2 p.1 ne).trans e,n,ne,nf,d⟩
 ·have hfn:X.fn x=true:=by
   rcases hf with z | z
   ·exact z
   ·rw [z] at hk;cases hk
  obtain ⟨c,hc⟩:=I.ok.has x (.inl hk);obtain ⟨w',z⟩:=I.cell x c hc;refine wpAny_storeName_cell I.ok.kind hk hc z (λh' hc' hs=>?_);obtain ⟨oc,hoc,hocd⟩:=id z;refine h { s with heap:=h' } ⟨I.ok,I.os,I.bare,⟨λb o e n hb hx=>?_,λb o e n hb hx=>?_,I.base.free,λb o e hx=>?_,I.base.tups,I.base.frzs,I.base.tbls⟩,⟨m,hn.sameBut hs (Ne.symm (cne x c hc)),λj y v' e1 e2 e3=>?_⟩,λy c' e=>?_,I.free,I.freeC,λp hp=>?_,tracked ⟨oc,hoc,I.freeC x c hc⟩ hs,by simpa using I.len⟩ ⟨c,hs,.inr hc⟩
  ·exact (hs.2 b (aHH (aEG (aDD e) (I.ok.cab x c hfn hc)))).trans (I.base.keep b o e n hb hx)
  ·obtain ⟨sl,e1⟩:=I.base.slot b o e n hb hx;exact ⟨sl,(hs.2 b (aHH (aEG (aDD e) (I.ok.cab x c hfn hc)))).trans e1⟩
  ·obtain ⟨o',e1⟩:=I.base.there b o e hx;exact ⟨o',(hs.2 b (aHH (aEG (aDD e) (I.ok.cab x c hfn hc)))).trans e1⟩
  ·by_cases hj:j=i
   ·subst hj;rw [hi] at e1;cases e1;rw [aOP hiσ] at e2;cases e2;exact ⟨u,r,.inr ⟨.inl hk,c,hc,hc'⟩⟩
   ·rw [aK0 (Ne.symm hj)] at e2;obtain ⟨u',r',q⟩:=hl j y v' e1 e2 e3;refine ⟨u',r',?_⟩;rcases q with q | ⟨k,c',e,z'⟩
    ·exact .inl q
    ·refine .inr ⟨k,c',e,z'.sameBut hs ?_⟩;rintro rfl;exact hj (vG hN e1 (I.ok.inj _ _ _ e hc ▸ hi))
  ·by_cases hcc:c'=c
   ·subst hcc;exact ⟨_,hc'⟩
   ·obtain ⟨w2,z2⟩:=I.cell y c' e;exact ⟨w2,z2.sameBut hs hcc⟩
  ·obtain ⟨e,n,ne,nf,d⟩:=I.pin p hp;refine ⟨(hs.2 p.1 ?_).trans e,n,ne,nf,d⟩;intro q;rw [q,hoc] at e;have q':oc=p.2:=Option.some.inj e;exact d w' (by rw [<-q'];exact hocd)
theorem hU {M:Model} {A:Around} {E:Value->Shared->Prop} {i:Nat} {x:Str} {v:V} {u:Value} {Q:Unit->Shared->Prop} (I:aT X pins σ H s) (hN:X.N.Nodup) (hi:X.N[i]? = some x) (hx:Loc X.env.scope x) (r:bG v u)
  (h:∀s',aT X pins (σ.set i (some v)) H s'->Q () s') (hf:X.fn x=true\/X.env.scope.names.lookup x=some .local:=by first | exact .inl rfl | exact .inr rfl | assumption):aVC M A (storeName X.env x u) Q E s:=
 rT I hN hi hx r (λs' I' _=>h s' I') hf
theorem aT.call' {s':Shared} {ch:List aVA} (I:aT X pins σ H s) (ho:s'.os=s.os) (u:Un (xP X.stack) ch H H' s.heap s'.heap) (hok:kT X.prog X.w H' s'.heap) (hg:aWM s'.gens)
  (hch:∀b∈ch,(b∈X.ex\/X.s₀.heap.objs.size<=b)/\b≠X.env.locals/\(∀x c,X.env.cells.lookup x=some c->c≠b)/\∀p∈X.pn++pins,p.1≠b):aT X pins σ H' s':=by
 obtain ⟨h',g',d',t',o'⟩:=s';have e:o'=s.os:=ho;subst e;exact I.call (g':=g') (t':=t') (d':=d') u hok hg hch
end
abbrev XK:=Value->Option aVA->Hp->Prop
abbrev St:=List (Option V)
abbrev VK:=V->Hp->Prop
abbrev TE:=St->Hp->VK->Prop
abbrev TT:=St->Hp->(Bool->Hp->Prop)->Prop
abbrev TA:=St->Hp->(List V->Hp->Prop)->Prop
structure jJ where
 nx:St->Hp->Prop
 rt:VK
 bk:St->Hp->Prop:=λ_ _=>False
 ct:St->Hp->Prop:=λ_ _=>False
abbrev TS:=jJ->St->Hp->Prop
def EP (X:Cx) (pins:List (aVA×Obj)) (σ:St) (Q:VK) (u:Value) (s':Shared):Prop:=∃v H',aT X pins σ H' s'/\bG v u/\Q v H'
def TP (X:Cx) (pins:List (aVA×Obj)) (σ:St) (Q:Bool->Hp->Prop) (b:Bool) (s':Shared):Prop:=∃H',aT X pins σ H' s'/\Q b H'
def AP (X:Cx) (pins:List (aVA×Obj)) (σ:St) (Q:List V->Hp->Prop) (us:List Value) (s':Shared):Prop:=∃vs H',aT X pins σ H' s'/\bF vs us/\Q vs H'
def SP (X:Cx) (pins:List (aVA×Obj)) (D:jJ) (f:Flow) (s':Shared):Prop:=
 match f with
 | .next=>∃σ' H',aT X pins σ' H' s'/\D.nx σ' H'
 | .brk=>∃σ' H',aT X pins σ' H' s'/\D.bk σ' H'
 | .cont=>∃σ' H',aT X pins σ' H' s'/\D.ct σ' H'
 | .ret u=>∃v σ' H',aT X pins σ' H' s'/\bG v u/\D.rt v H'
def PE (X:Cx) (e:Expr) (t:TE):Prop:=
 ∀(pins:List (aVA×Obj)) (s:Shared) (σ:St) (H:Hp) (Q:VK),aT X pins σ H s->t σ H Q->aVC (aVG X.prog X.w) X.A (aVP e X.env) (EP X pins σ Q) X.xe s
def PT (X:Cx) (e:Expr) (t:TT):Prop:=
 ∀(pins:List (aVA×Obj)) (s:Shared) (σ:St) (H:Hp) (Q:Bool->Hp->Prop),aT X pins σ H s->t σ H Q->aVC (aVG X.prog X.w) X.A (isTrue e X.env (aVP e X.env)) (TP X pins σ Q) X.xe s
def PW (X:Cx) (e:Expr) (t:TT):Prop:=
 ∀(whole:Sem Value) (pins:List (aVA×Obj)) (s:Shared) (σ:St) (H:Hp) (Q:Bool->Hp->Prop),aT X pins σ H s->t σ H Q->aVC (aVG X.prog X.w) X.A (isTrue e X.env whole) (TP X pins σ Q) X.xe s
theorem PW.pt {X:Cx} {e:Expr} {t:TT} (h:PW X e t):PT X e t:=h _
def PA (X:Cx) (es:List Expr) (t:TA):Prop:=
 ∀(pos:Pos) (pins:List (aVA×Obj)) (s:Shared) (σ:St) (H:Hp) (Q:List V->Hp->Prop),aT X pins σ H s->t σ H Q->aVC (aVG X.prog X.w) X.A (spliced (aWI pos (aVL es X.env))) (AP X pins σ Q) X.xe s
def PS (X:Cx) (st:aVK) (t:TS):Prop:=
 ∀(pins:List (aVA×Obj)) (s:Shared) (σ:St) (H:Hp) (D:jJ),aT X pins σ H s->t D σ H->aVC (aVG X.prog X.w) X.A (exec st X.env) (SP X pins D) X.xe s
def PSs (X:Cx) (st:List aVK) (t:TS):Prop:=
 ∀(pins:List (aVA×Obj)) (s:Shared) (σ:St) (H:Hp) (D:jJ),aT X pins σ H s->t D σ H->aVC (aVG X.prog X.w) X.A (execs st X.env) (SP X pins D) X.xe s
theorem cF {α:Type} {t:Sem α} {Q Q':α->Shared->Prop} {M:Model} {A:Around} {E:Value->Shared->Prop} {s:Shared} (h:aVC M A t Q E s) (hQ:∀a s,Q a s->Q' a s):aVC M A t Q' E s:=aVR h hQ λ_ _ x=>x
section
variable {X:Cx}
def aJE (i:Nat):TE:=λσ H Q=>∃v,σ[i]? = some (some v)/\Q v H
def tC (v:V):TE:=λ_ H Q=>Q v H
theorem yI {i:Nat} {x:Str} {pos:Pos} (hN:X.N[i]? = some x) (hv:Vis X.env.scope x) (hd:(x==("__debug__":Str))=false:=by decide) (hcd:(x==("__classdict__":Str))=false:=by decide):PE X (.Name x pos) (aJE i):=by
 intro pins s σ H Q I h;obtain ⟨v,e,h⟩:=h;obtain ⟨m,hn,hl⟩:=I.loc;obtain ⟨u,r,l⟩:=hl i x v hN e hv;have fin:EP X pins σ Q u s:=⟨v,H,I,r,h⟩;rcases l with ⟨hk,hm⟩ | ⟨hk,c,hc,hcell⟩
 ·exact wpAny_Name (wpAny_loadName_local I.ok.kind hk hn hm fin) hd
 ·rcases hk with hk | hk
  ·exact wpAny_Name (wpAny_loadName_cell I.ok.kind hk hc hcell fin) hd
  ·exact wpAny_Name (wpAny_loadName_free I.ok.kind hk hc hcell fin hcd) hd
theorem aNW {i j pos}:PE X (.Constant (.int i) j pos) (tC (.int i)):=λ_ _ _ H _ I h=>wpAny_Constant_int ⟨.int i,H,I.tok _,⟨_,rfl⟩,h⟩
theorem aPU {b j pos}:PE X (.Constant (.bool b) j pos) (tC (.bl b)):=λ_ _ _ H _ I h=>Constant_bool ⟨.bl b,H,I,rfl,h⟩
theorem aLY {j pos}:PE X (.Constant .none j pos) (tC .non):=λ_ _ _ H _ I h=>Constant_none ⟨.non,H,I,rfl,h⟩
theorem uP {x j pos}:PE X (.Constant (.str x) j pos) (tC (.str x)):=λ_ _ _ H _ I h=>Calls.Constant_str ⟨.str x,H,I.tok _,⟨_,rfl⟩,h⟩
def Gl (X:Cx) (x:Str):Prop:=X.env.kindOf x=some .globalImplicit
theorem aAS {E:Value->Shared->Prop} {pins:List (aVA×Obj)} {s:Shared} {σ:St} {H:Hp} {x:Str} {u:Value} {pos:Pos} {Q:Value->Shared->Prop} (I:aT X pins σ H s) (hg:Gl X x) (hm:X.mg x=some u) (h:Q u s)
  (hd:(x==("__debug__":Str))=false:=by decide):aVC (aVG X.prog X.w) X.A (aVP (.Name x pos) X.env) Q E s:=
 Calls.Name_function_global I.ok.kind hg (Calls.loadGlobal_global (by rw [I.ok.glob];exact I.mod.glob.keeps I.bk) hm h) hd
theorem nZ {E:Value->Shared->Prop} {pins:List (aVA×Obj)} {s:Shared} {σ:St} {H:Hp} {x:Str} {u:Value} {pos:Pos} {Q:Value->Shared->Prop} (I:aT X pins σ H s) (hg:Gl X x) (hm:X.mg x=none) (hv:aVS x=some u) (h:Q u s)
  (hn:x≠"__name__":=by decide) (hd:(x==("__debug__":Str))=false:=by decide):aVC (aVG X.prog X.w) X.A (aVP (.Name x pos) X.env) Q E s:=by
 obtain ⟨mb,h1,h2⟩:=I.mod.blt;exact Calls.Name_function_global I.ok.kind hg (Calls.loadGlobal_builtin (by rw [I.ok.glob];exact I.mod.glob.keeps I.bk) hm (by rw [I.ok.blt];exact h1.keeps I.bk) ((h2 x hn).trans hv) h) hd
theorem aAF {x:Str} {v:V} {u:Value} {pos:Pos} (hg:Gl X x) (hm:X.mg x=some u) (r:bG v u) (hd:(x==("__debug__":Str))=false:=by decide):PE X (.Name x pos) (tC v):=
 λ_ _ _ H _ I h=>aAS I hg hm ⟨v,H,I,r,h⟩ hd
theorem aID {x:Str} {v:V} {u:Value} {pos:Pos} (hg:Gl X x) (hm:X.mg x=none) (hv:aVS x=some u) (r:bG v u) (hn:x≠"__name__":=by decide) (hd:(x==("__debug__":Str))=false:=by decide):PE X (.Name x pos) (tC v):=
 λ_ _ _ H _ I h=>nZ I hg hm hv ⟨v,H,I,r,h⟩ hn hd
variable {a b:Expr} {ta tb:TE} {pos:Pos}
def tB (t:TE):TT:=λσ H Q=>t σ H λx H1=>∃c,x = .bl c/\Q c H1
theorem aNP {e:Expr} {t:TE} (h:PE X e t) (he:∀whole,isTrue e X.env whole=(do let v <-whole;standAt e.pos;aV7 [v] (truthy v)):=by intro _;rfl):PT X e (tB t):=by
 intro pins s σ H Q I hw;refine isTrue_plain (cF (h pins s σ H _ I hw) λv s1 ⟨x,H1,I1,r1,q1⟩=>?_) (he _);obtain ⟨d,rfl,q⟩:=q1;cases r1;exact aVW ⟨H1,I1,q⟩
variable {tA tB':TT} {rest:List Expr}
def aP8 (t u:TT):TT:=λσ H Q=>t σ H λc H1=>if c=true then u σ H1 Q else Q false H1
def tOr (t u:TT):TT:=λσ H Q=>t σ H λc H1=>if c=true then Q true H1 else u σ H1 Q
def aPZ (t:TT):TT:=λσ H Q=>t σ H λc H1=>Q (!c) H1
theorem aHZ (ha:PT X a tA):PW X (.BoolOp .And [a] pos) tA:=by
 intro wh pins s σ H Q I h;refine isTrue_and (cF (ha pins s σ H Q I h) λc s1 e=>?_);cases c with
 | true=>exact isTrue_and_nil e
 | false=>exact e
theorem aK6 (ha:PT X a tA):PW X (.BoolOp .Or [a] pos) tA:=by
 intro wh pins s σ H Q I h;refine isTrue_or (cF (ha pins s σ H Q I h) λc s1 e=>?_);cases c with
 | false=>exact isTrue_or_nil e
 | true=>exact e
theorem aNR (ha:PT X a tA) (hb:PW X (.BoolOp .And (b::rest) pos) tB'):PW X (.BoolOp .And (a::b::rest) pos) (aP8 tA tB'):=by
 intro wh pins s σ H Q I h;refine isTrue_and (cF (ha pins s σ H _ I h) λc s1 ⟨H1,I1,q1⟩=>?_);cases c with
 | true=>exact hb wh pins s1 σ H1 Q I1 q1
 | false=>exact ⟨H1,I1,q1⟩
theorem aOK (ha:PT X a tA) (hb:PW X (.BoolOp .Or (b::rest) pos) tB'):PW X (.BoolOp .Or (a::b::rest) pos) (tOr tA tB'):=by
 intro wh pins s σ H Q I h;refine isTrue_or (cF (ha pins s σ H _ I h) λc s1 ⟨H1,I1,q1⟩=>?_);cases c with
 | true=>exact ⟨H1,I1,q1⟩
 | false=>exact hb wh pins s1 σ H1 Q I1 q1
theorem aMF (ha:PT X a tA):PT X (.UnaryOp .Not a pos) (aPZ tA):=by
 intro pins s σ H Q I h;exact isTrue_not (ha pins s σ H (λc H1=>Q (!c) H1) I h)
def aKF (ta tb:TE):TE:=λσ H Q=>ta σ H λx H1=>∃c,x = .bl c/\if c=true then tb σ H1 Q else Q (.bl false) H1
def aOB (ta tb:TE):TE:=λσ H Q=>ta σ H λx H1=>∃c,x = .bl c/\if c=true then Q (.bl true) H1 else tb σ H1 Q
theorem aL3 {op} {t:TE} (h:PE X a t):PE X (.BoolOp op [a] pos) t:=λpins s σ H Q I hw=>BoolOp_one (h pins s σ H Q I hw)
theorem aMB (ha:PE X a ta) (hb:PE X (.BoolOp .And (b::rest) pos) tb):PE X (.BoolOp .And (a::b::rest) pos) (aKF ta tb):=by
 intro pins s σ H Q I h;refine BoolOp_and (cF (ha pins s σ H _ I h) λv s1 ⟨x,H1,I1,r1,q1⟩=>?_);obtain ⟨c,rfl,q1⟩:=q1;cases r1;refine aVW ?_;cases c with
 | true=>exact hb pins s1 σ H1 Q I1 q1
 | false=>exact ⟨.bl false,H1,I1,rfl,q1⟩
theorem aQX (ha:PE X a ta) (hb:PE X (.BoolOp .Or (b::rest) pos) tb):PE X (.BoolOp .Or (a::b::rest) pos) (aOB ta tb):=by
 intro pins s σ H Q I h;refine BoolOp_or (cF (ha pins s σ H _ I h) λv s1 ⟨x,H1,I1,r1,q1⟩=>?_);obtain ⟨c,rfl,q1⟩:=q1;cases r1;refine aVW ?_;cases c with
 | false=>exact hb pins s1 σ H1 Q I1 q1
 | true=>exact ⟨.bl true,H1,I1,rfl,q1⟩
def tIf (t:TT) (ta tb:TE):TE:=λσ H Q=>t σ H λc H1=>if c=true then ta σ H1 Q else tb σ H1 Q
theorem aEO {c:Expr} (hc:PT X c tA) (ha:PE X a ta) (hb:PE X b tb):PE X (.IfExp c a b pos) (tIf tA ta tb):=by
 intro pins s σ H Q I h;refine wpAny_IfExp (cF (hc pins s σ H _ I h) λd s1 ⟨H1,I1,q1⟩=>?_);cases d with
 | true=>exact ha pins s1 σ H1 Q I1 q1
 | false=>exact hb pins s1 σ H1 Q I1 q1
end
def iU (K:W.Frag) (H:Hp) (a:aVA) (xs:List V):Prop:=
 Rd H a (.lst xs)\/
  ∃(o:Obj) (its:Array Value) (n:Nat),K.lookup a=some o/\o.cls = .type "list"/\o.dict=none/\o.data = .seq its n/\its.size<=aVI/\bF xs its.toList
def rL (K:W.Frag) (H:Hp) (a:aVA) (xs:List V):Prop:=
 Rd H a (.tup xs)\/
  ∃(o:Obj) (its:Array Value) (n:Nat),K.lookup a=some o/\o.cls = .type "tuple"/\o.data = .seq its n/\its.size<=aVI/\bF xs its.toList
def aSP:Value->Option V
 | .none=>some .non
 | .bool b=>some (.bl b)
 | .int i _=>some (.int i)
 | .str x _=>some (.str x)
 | .bytes b _=>some (.byt b)
 | .float b _=>some (.flt b)
 | .ref a=>some (.ref a)
 | .type n=>some (.ty n)
 | _=>none
theorem bG.abs {x:V} {u:Value} (r:bG x u):aSP u=some x:=by
 cases x with
 | non=>cases r;rfl
 | bl _=>cases r;rfl
 | int _=>obtain ⟨t,rfl⟩:=r;rfl
 | str _=>obtain ⟨t,rfl⟩:=r;rfl
 | byt _=>obtain ⟨t,rfl⟩:=r;rfl
 | flt _=>obtain ⟨t,rfl⟩:=r;rfl
 | ref _=>cases r;rfl
 | ty _=>cases r;rfl
theorem bG.inj {x y:V} {u:Value} (r:bG x u) (q:bG y u):x=y:=Option.some.inj (r.abs.symm.trans q.abs)
theorem bF.inj:∀{xs ys:List V} {us:List Value},bF xs us->bF ys us->xs=ys
 | _,_,_,.nil,.nil=>rfl
 | _,_,_,.cons r t,.cons r' t'=>by rw [r.inj r',bF.inj t t']
section
variable {X:Cx} {pins:List (aVA×Obj)} {σ:St} {H:Hp} {s:Shared} {a:aVA} {xs ys:List V}
theorem iU.of {K:W.Frag} (h:H a=some (.lst xs)):iU K H a xs:=.inl (.inl h)
theorem aT.list (I:aT X pins σ H s) (h:iU X.K H a xs):∃its:List Value,bF xs its/\PlainL s.heap a its.toArray/\xs.length<=aVI:=by
 rcases h with h | ⟨o,its,n,hk,hc,hd,hs,hz,r⟩
 ·obtain ⟨z,its,n,r,e⟩:=h.ok I.hok;exact ⟨its,r,⟨_,n,e,rfl,rfl,rfl⟩,z⟩
 ·refine ⟨its.toList,r,⟨o,n,I.kIn a o hk,hc,hd,by simpa using hs⟩,?_⟩;have e:=r.length;simp only [aTC] at e;omega
theorem aT.tuple (I:aT X pins σ H s) (h:rL X.K H a xs):∃its:List Value,bF xs its/\IsTup s.heap a its.toArray/\xs.length<=aVI:=by
 rcases h with h | ⟨o,its,n,hk,hc,hs,hz,r⟩
 ·obtain ⟨z,its,r,p⟩:=h.ok I.hok;exact ⟨its,r,p,z⟩
 ·refine ⟨its.toList,r,⟨o,I.kIn a o hk,hc,n,by simpa using hs⟩,?_⟩;have e:=r.length;simp only [aTC] at e;omega
theorem aT.list_inj (I:aT X pins σ H s) (h:iU X.K H a xs) (h':iU X.K H a ys):xs=ys:=by
 obtain ⟨its,r,⟨o,n,e,_,_,d⟩,_⟩:=I.list h;obtain ⟨its',r',⟨o',n',e',_,_,d'⟩,_⟩:=I.list h';rw [e] at e';cases e';rw [d] at d';injection d' with d1 _;have:its=its':=by simpa using congrArg aU9 d1
 subst this;exact r.inj r'
theorem aT.tuple_inj (I:aT X pins σ H s) (h:rL X.K H a xs) (h':rL X.K H a ys):xs=ys:=by
 obtain ⟨its,r,⟨o,e,_,n,d⟩,_⟩:=I.tuple h;obtain ⟨its',r',⟨o',e',_,n',d'⟩,_⟩:=I.tuple h';rw [e] at e';cases e';rw [d] at d';injection d' with d1 _;have:its=its':=by simpa using congrArg aU9 d1
 subst this;exact r.inj r'
end
abbrev Cx.wish (X:Cx) (E:Value->Shared->Prop):Cx:={ X with xe:=E }
abbrev Cx.nox (X:Cx):Cx:=X.wish λ_ _=>False
theorem Cx.Ok.wish {X:Cx} (ok:X.Ok) (E:Value->Shared->Prop):(X.wish E).Ok:=
 ⟨ok.mod,ok.kind,ok.glob,ok.blt,ok.above,ok.inj,ok.has,ok.cab,ok.hd,ok.frames,ok.stk,ok.exf,ok.bs,ok.bsz,ok.noex,ok.exfs,ok.funs,ok.frf⟩
theorem Cx.Ok.unwish {X:Cx} {E:Value->Shared->Prop} (ok:(X.wish E).Ok):X.Ok:=
 ⟨ok.mod,ok.kind,ok.glob,ok.blt,ok.above,ok.inj,ok.has,ok.cab,ok.hd,ok.frames,ok.stk,ok.exf,ok.bs,ok.bsz,ok.noex,ok.exfs,ok.funs,ok.frf⟩
section
variable {X:Cx} {pins:List (aVA×Obj)} {σ:St} {H:Hp} {s:Shared} {E:Value->Shared->Prop}
theorem aT.wish (I:aT X pins σ H s) (E:Value->Shared->Prop):aT (X.wish E) pins σ H s:=⟨I.ok.wish E,I.os,I.bare,I.base,I.loc,I.cell,I.free,I.freeC,I.pin,I.hok,I.len⟩
theorem aT.unwish (I:aT (X.wish E) pins σ H s):aT X pins σ H s:=⟨I.ok.unwish,I.os,I.bare,I.base,I.loc,I.cell,I.free,I.freeC,I.pin,I.hok,I.len⟩
theorem SP.unwish {D:jJ} {f:Flow} {s':Shared} (h:SP (X.wish E) pins D f s'):SP X pins D f s':=by
 cases f with
 | next=>obtain ⟨σ',H',I,q⟩:=h;exact ⟨σ',H',I.unwish,q⟩
 | brk=>obtain ⟨σ',H',I,q⟩:=h;exact ⟨σ',H',I.unwish,q⟩
 | cont=>obtain ⟨σ',H',I,q⟩:=h;exact ⟨σ',H',I.unwish,q⟩
 | ret u=>obtain ⟨v,σ',H',I,r,q⟩:=h;exact ⟨v,σ',H',I.unwish,r,q⟩
theorem PSs.nox {st:List aVK} {t:TS} (h:PSs X.nox st t):PSs X st t:=λpins s σ H D I hw=>
 aVR (h pins s σ H D (I.wish _) hw) (λ_ _ q=>q.unwish) λ_ _ z=>False.elim z
end
section
variable {X:Cx} {st:aVK} {rest:List aVK} {t u:TS} {e:Expr} {te:TE} {pos:Pos}
def aKU:TS:=λD σ H=>D.nx σ H
def aPS (t u:TS):TS:=λD σ H=>t { D with nx:=u D } σ H
theorem aH9:PSs X [] aKU:=λ_ _ σ H _ I h=>aWO ⟨σ,H,I,h⟩
theorem aGV (h1:PS X st t) (h2:PSs X rest u):PSs X (st::rest) (aPS t u):=by
 intro pins s σ H D I h;refine wpAny_execs_cons (cF (h1 pins s σ H { D with nx:=u D } I h) λf s1 q=>?_);cases f with
 | next=>
  obtain ⟨σ',H',I',q⟩:=q;exact h2 pins s1 σ' H' D I' q
 | ret v=>exact q
 | brk=>exact q
 | cont=>exact q
theorem aHG (h1:PS X st t):PSs X [st] t:=by
 intro pins s σ H D I h;refine wpAny_execs_cons (cF (h1 pins s σ H D I h) λf s1 q=>?_);cases f with
 | next=>exact aWO q
 | ret v=>exact q
 | brk=>exact q
 | cont=>exact q
def aKG:TS:=λD σ H=>D.ct σ H
theorem w4:PS X (.Continue pos) aKG:=λ_ _ σ H _ I h=>wpAny_Continue ⟨σ,H,I,h⟩
theorem aT.quiet {pins:List (aVA×Obj)} {σ:St} {H:Hp} {s:Shared} (I:aT X pins σ H s):interactive X.env=false:=by simp [interactive,I.ok.kind]
def aKK (te:TE):TS:=λD σ H=>te σ H λ_ H1=>D.nx σ H1
theorem aJW (he:PE X e te) (hs:aV3 e none pos.line X.env=pure false:=by rfl):PS X (.Expr e pos) (aKK te):=by
 intro pins s σ H D I h;exact wpAny_Expr_any (cF (he pins s σ H _ I h) λv s1 ⟨x,H1,I1,r1,q1⟩=>⟨σ,H1,I1,q1⟩) I.quiet hs
def aPC (te:TE):TS:=λD σ H=>te σ H D.rt
theorem aNF (he:PE X e te):PS X (.Return (some e) pos) (aPC te):=by
 intro pins s σ H D I h;exact wpAny_Return_some (cF (he pins s σ H _ I h) λv s1 ⟨x,H1,I1,r1,q1⟩=>⟨x,σ,H1,I1,r1,q1⟩)
def aQE (c:TT) (t u:TS):TS:=λD σ H=>c σ H λb H1=>if b=true then t D σ H1 else u D σ H1
theorem aP5 {c:Expr} {a b:List aVK} {tc:TT} (hc:PT X c tc) (ha:PSs X a t) (hb:PSs X b u):PS X (.If c a b pos) (aQE tc t u):=by
 intro pins s σ H D I h;refine wpAny_If (cF (hc pins s σ H _ I h) λd s1 ⟨H1,I1,q1⟩=>?_);cases d with
 | true=>exact ha pins s1 σ H1 D I1 q1
 | false=>exact hb pins s1 σ H1 D I1 q1
end
abbrev TG:=V->St->Hp->(St->Hp->Prop)->Prop
abbrev TGs:=List V->St->Hp->(St->Hp->Prop)->Prop
def PG (X:Cx) (target:Expr) (t:TG):Prop:=
 ∀(pins:List (aVA×Obj)) (s:Shared) (σ:St) (H:Hp) (v:V) (u:Value) (Q:St->Hp->Prop),aT X pins σ H s->bG v u->t v σ H Q->
  aVC (aVG X.prog X.w) X.A (aV5 target X.env u) (λ_ s'=>∃σ' H',aT X pins σ' H' s'/\Q σ' H') X.xe s
def PGs (X:Cx) (ts:List Expr) (t:TGs):Prop:=
 ∀(pins:List (aVA×Obj)) (s:Shared) (σ:St) (H:Hp) (vs:List V) (us:List Value) (Q:St->Hp->Prop),aT X pins σ H s->bF vs us->t vs σ H Q->
  aVC (aVG X.prog X.w) X.A (aWK ((aVO ts X.env).map (·.2)) us) (λ_ s'=>∃σ' H',aT X pins σ' H' s'/\Q σ' H') X.xe s
abbrev aI3:=V->V->V->Hp->(Hp->Prop)->Prop
def aMK (X:Cx) (t:aI3):Prop:=
 ∀(pins:List (aVA×Obj)) (s:Shared) (σ:St) (H:Hp) (o i v:V) (ov iv u:Value) (Q:Hp->Prop),aT X pins σ H s->bG o ov->bG i iv->bG v u->t o i v H Q->
  aVC (aVG X.prog X.w) X.A (setItem ov iv u) (λ_ s'=>∃H',aT X pins σ H' s'/\Q H') X.xe s
section
variable {X:Cx} {pos:Pos}
def vP (i:Nat):TG:=λv σ H Q=>Q (σ.set i (some v)) H
theorem aJB {i:Nat} {x:Str} (hN:X.N.Nodup) (hi:X.N[i]? = some x) (hx:Loc X.env.scope x) (hf:X.fn x=true\/X.env.scope.names.lookup x=some .local:=by first | exact .inl rfl | exact .inr rfl | assumption):PG X (.Name x pos) (vP i):=by
 intro pins s σ H v u Q I r h;exact wpAny_assign_Name (hU I hN hi hx r (λs' I'=>⟨_,H,I',h⟩) hf)
def aPH:TGs:=λvs σ H Q=>vs=[]/\Q σ H
def aJ8 (t:TG) (u:TGs):TGs:=λvs σ H Q=>∃v r,vs=v::r/\t v σ H λσ' H'=>u r σ' H' Q
theorem aHM:PGs X [] aPH:=by
 intro pins s σ H vs us Q I r h;obtain ⟨e,h⟩:=h;subst e;cases r;exact aWS ⟨σ,H,I,h⟩
theorem aFT {e:Expr} {es:List Expr} {t:TG} {u:TGs} (h1:PG X e t) (h2:PGs X es u)
  (hs:(aVO (e::es) X.env).map (·.2)=aV5 e X.env::(aVO es X.env).map (·.2):=by rfl):PGs X (e::es) (aJ8 t u):=by
 intro pins s σ H vs us Q I r h;obtain ⟨v,vr,e1,h⟩:=h;subst e1;cases r with
 | cons r rr=>
  rw [hs];refine aV0 (cF (h1 pins s σ H _ _ _ I r h) λ_ s1 ⟨σ1,H1,I1,q1⟩=>?_);exact h2 pins s1 σ1 H1 _ _ Q I1 rr q1
def aPR (K:W.Frag) (n:Nat) (t:TGs):TG:=λv σ H Q=>∃a xs,v = .ref a/\rL K H a xs/\xs.length=n/\t xs σ H Q
theorem aM2 {es:List Expr} {k:Nat} {t:TGs} {n:Nat} (hc:X.calm=true) (h:PGs X es t)
  (hn:(aVO es X.env).length=n:=by rfl) (hst:(aVO es X.env).findIdx? (·.1)=none:=by rfl):PG X (.Tuple es k pos) (aPR X.K n t):=by
 intro pins s σ H v u Q I r hw;obtain ⟨a,xs,e1,hq,hl,hw⟩:=hw;subst e1;cases r;obtain ⟨its,rv,ht,hz⟩:=I.tuple hq;refine assign_Tuple_tuple (I.ok.hd hc) ht (by simp [hn,<-hl,rv.length]) hst λh' hx=>?_;have I1:aT X pins σ H { s with heap:=h' }:=I.kept (t':=s.toks) λb o e=>hx b o (aHH (aDD e)) e;exact h pins _ σ H xs _ Q I1 (by simpa using rv) hw
def aQS (to ti:TE) (t:aI3):TG:=λv σ H Q=>to σ H λo H1=>ti σ H1 λi H2=>t o i v H2 λH3=>Q σ H3
theorem aLG {o i:Expr} {to ti:TE} {t:aI3} (ho:PE X o to) (hi:PE X i ti) (hs:aMK X t)
  (ha:∀v,aV5 (.Subscript o i pos) X.env v=(do
   let ov <-aV7 [v] (aVP o X.env)
   let iv <-aV7 [v,ov] (aVP i X.env)
   standAt pos
   aV7 [v,ov,iv] (setItem ov iv v)
   release [v,ov,iv] []):=by intro _;rfl):PG X (.Subscript o i pos) (aQS to ti t):=by
 intro pins s σ H v u Q I r h;rw [ha];refine aVB (aWL (cF (ho pins s σ H _ I h) λov s1 ⟨x,H1,I1,r1,q1⟩=>?_));refine aVB (aWL (cF (hi pins s1 σ H1 _ I1 q1) λiv s2 ⟨y,H2,I2,r2,q2⟩=>?_));refine aVB (aWB (aVB (aWL (cF (hs pins s2 σ H2 x y v ov iv u _ I2 r1 r2 r q2) λ_ s3 ⟨H3,I3,q3⟩=>?_))));exact wpAny_release ⟨σ,H3,I3,q3⟩
def aEI (te:TE) (g:TG):TS:=λD σ H=>te σ H λx H1=>g x σ H1 D.nx
theorem aMS {tg e:Expr} {te:TE} {g:TG} (he:PE X e te) (hg:PG X tg g) (hs:aVX [tg] e pos.line X.env=pure false:=by rfl) (hw:aVY [tg] e X.env=pure none:=by rfl)
  (h1:(aVO [tg] X.env).map (·.2)=[aV5 tg X.env]:=by rfl):PS X (.Assign [tg] e pos) (aEI te g):=by
 intro pins s σ H D I h;refine wpAny_Assign_stores (cF (he pins s σ H _ I h) λv s1 ⟨x,H1,I1,r1,q1⟩=>?_) hs hw;rw [h1];exact cF (hg pins s1 σ H1 x v _ I1 r1 q1) λ_ s2 q=>q
theorem aMH {i:Nat} {x:Str} {e:Expr} {te:TE} {pos':Pos} (hN:X.N.Nodup) (hi:X.N[i]? = some x) (hx:Loc X.env.scope x) (he:PE X e te) (hs:aV3 e (some (.Name x pos')) pos.line X.env=pure false:=by rfl) (hf:X.fn x=true\/X.env.scope.names.lookup x=some .local:=by first | exact .inl rfl | exact .inr rfl | assumption) :
  PS X (.Assign [.Name x pos'] e pos) (aEI te (vP i)):=by
 intro pins s σ H D I h;refine wpAny_Assign_Name (cF (he pins s σ H _ I h) λv s1 ⟨y,H1,I1,r1,q1⟩=>?_) hs;exact hU I1 hN hi hx r1 (λs2 I2=>⟨_,H1,I2,q1⟩) hf
def aQJ (i j:Nat) (ta:TA):TS:=λD σ H=>ta σ H λvs H1=>∃v w,vs=[v,w]/\D.nx ((σ.set i (some v)).set j (some w)) H1
theorem aND {i j:Nat} {x y:Str} {a b:Expr} {ta:TA} {px py pt:Pos} {kt k2 pt2} (hc:X.calm=true) (hN:X.N.Nodup) (hi:X.N[i]? = some x) (hj:X.N[j]? = some y) (hij:i≠j)
  (hx:X.env.scope.names.lookup x=some .local) (hy:X.env.scope.names.lookup y=some .local) (ha:PA X [a,b] ta)
  (hw:aVY [.Tuple [.Name x px,.Name y py] kt pt] (.Tuple [a,b] k2 pt2) X.env=pure (some [x,y]))
  (hs:aVX [.Tuple [.Name x px,.Name y py] kt pt] (.Tuple [a,b] k2 pt2) pos.line X.env=pure false:=by rfl) :
  PS X (.Assign [.Tuple [.Name x px,.Name y py] kt pt] (.Tuple [a,b] k2 pt2) pos) (aQJ i j ta):=by
 intro pins s σ H D I h;rw [exec_Assign_arm];refine aVB (aWB ?_);rw [hs];refine aVB (aVE ?_);rw [if_neg (by decide)];refine aVB (Tuple_ (cF (ha _ pins s σ H _ I h) λus s1 ⟨vs,H1,I1,r1,q1⟩=>?_));obtain ⟨v,w,e1,q1⟩:=q1;subst e1;obtain ⟨u1,u2,rfl,rv,rw'⟩:∃u1 u2,us=[u1,u2]/\bG v u1/\bG w u2:=by
  cases r1 with
  | cons p q=>
   cases q with
   | cons p' q'=>
    cases q';exact ⟨_,_,rfl,p,p'⟩
 refine aVQ ?_ (by show 2<=aVI;decide);have I2:aT X pins σ H1 { s1 with heap:=s1.heap.push { cls:=.type "tuple",data:=.seq [u1,u2].toArray } }:=I1.kept (t':=s1.toks) λb o e=>aDA _ e;rw [hw];refine aVB (aVE ?_);show aVC (aVG X.prog X.w) X.A (do rule "assign.swapped-stores";let items <-unpackItems (.ref s1.heap.objs.size) 2 none;aWK [λv=>aV9 X.env y v,λv=>aV9 X.env x v] items.reverse;pure Flow.next) _ _ _;refine aVB (aWP (aVB (unpackItems_tuple (items:=#[u1,u2]) (I.ok.hd hc) (IsTup.new s1.heap _) λh' hx'=>?_)));have I3:=I2.kept (h':=h') (t':=s1.toks) λb o e=>hx' b o (aHH (aDD e)) e;show aVC _ _ (aWK [λv=>aV9 X.env y v,λv=>aV9 X.env x v] [u2,u1] >>= λ_=>pure Flow.next) _ _ _;refine aVB (aV0 (aWF (hU I3 hN hj (.inl hy) rw' (λs2 I4=>?_) (.inr hy))));refine aV0 (aWF (hU I4 hN hi (.inl hx) rv (λs3 I5=>aWS (aVE ?_)) (.inr hx)));rw [aT4 _ _ (Ne.symm hij)] at I5;exact ⟨_,H1,I5,q1⟩
end
section
variable {X:Cx} {pos:Pos}
def aDL (c:TT) (tb:TS):TS:=λD σ H=>∃W:Nat->St->Hp->Prop,(∃m,W m σ H)/\∀m σ H,W m σ H->
 c σ H λb H1=>if b=true then ∃N:St->Hp->Prop,(∀σ' H',N σ' H'->∃m',m'<m/\W m' σ' H')/\tb { D with nx:=N,ct:=N,bk:=D.nx } σ H1 else D.nx σ H1
theorem aD4 {c:Expr} {body:List aVK} {tc:TT} {tb:TS} (hp:PassesOwn (aVG X.prog X.w) X.A X.env X.xe) (hc:PT X c tc) (hb:PSs X body tb):PS X (.While c body [] pos) (aDL tc tb):=by
 intro pins s σ H D I h;obtain ⟨W,⟨m0,w0⟩,turn⟩:=h;refine wpAny_While (codeAny_whileLoop (λn s'=>∃σ' H',aT X pins σ' H' s'/\W n σ' H') ?_ m0 ⟨σ,H,I,w0⟩);rintro n s1 ⟨σ1,H1,I1,w1⟩;refine aV1 hp (cF (hc pins s1 σ1 H1 _ I1 (turn n σ1 H1 w1)) λb s2 ⟨H2,I2,q2⟩=>?_);cases b with
 | true=>
  obtain ⟨N,hN,q2⟩:=q2;rw [if_pos rfl];refine aV1 hp (cF (hb pins s2 σ1 H2 _ I2 q2) λf s3 q3=>?_);cases f with
  | next=>
   obtain ⟨σ3,H3,I3,n3⟩:=q3;obtain ⟨m',hm,w3⟩:=hN σ3 H3 n3;exact ⟨m',hm,σ3,H3,I3,w3⟩
  | cont=>
   obtain ⟨σ3,H3,I3,n3⟩:=q3;obtain ⟨m',hm,w3⟩:=hN σ3 H3 n3;exact ⟨m',hm,σ3,H3,I3,w3⟩
  | brk=>exact q3
  | ret v=>exact q3
 | false=>
  rw [if_neg aTX];exact aWO ⟨σ1,H2,I2,q2⟩
end
structure It where
 go:Nat->Hp->Prop
 yld:Nat->Hp->V->Hp->Prop
 stop:Nat->Hp->Prop
def jP (X:Cx) (pins:List (aVA×Obj)) (H:Hp) (b:aVA):Prop:=
 H b=none/\b≠X.env.locals/\b∉X.fs/\(b∈X.ex\/X.s₀.heap.objs.size<=b)/\(∀x c,X.env.cells.lookup x=some c->c≠b)/\∀p∈X.pn++pins,p.1≠b
theorem aT.fpOk {X:Cx} {pins:List (aVA×Obj)} {σ:St} {H H':Hp} {s:Shared} {b:aVA} (I:aT X pins σ H s) (hb:s.heap.objs.size<=b) (hn:H' b=none):jP X pins H' b:=by
 refine ⟨hn,Nat.ne_of_gt (aEG I.lt hb),I.nofs hb,.inr (aPW I.sz hb),λx c e z=>?_,λp hp z=>?_⟩
 ·obtain ⟨v,q⟩:=I.cell x c e;exact absurd (aEG q.lt (by rw [z];exact hb)) (Nat.lt_irrefl _)
 ·exact absurd (aEG (aDD (I.pin p hp).1) (by rw [z];exact hb)) (Nat.lt_irrefl _)
structure aCF (P:aVD) (w:aVH) (K:W.Frag) (tg:Expr) (J:It) (fp:List aVA) (it:aVA) (tn:Nat->Heap->Prop):Prop where
 mem:it∈fp
 obj:∀i h,tn i h->∀b∈fp,∃o,h.get? b=some o/\∀v,o.data≠.cell v
 keep:∀i h h',tn i h->(∀b∈fp,∀o,h.get? b=some o->h'.get? b=some o)->tn i h'
 item:∀(X:Cx),X.prog=P->X.w=w->X.K=K->X.calm=true->∀(i:Nat) (pins:List (aVA×Obj)) (s:Shared) (σ:St) (H:Hp) (E:Value->Shared->Prop),aT X pins σ H s->(∀b∈fp,jP X pins H b)->tn i s.heap->J.go i H->
  aVC (aVG P w) X.A (pyNext (.ref it)) (λr s1=>∃u,r=some u/\
   aVC (aVG P w) X.A (aWD tg (.ref it) u) (λ_ s2=>∃x H',aT X pins σ H' s2/\bG x u/\J.yld i H x H'/\tn (i+1) s2.heap/\∀b∈fp,H' b=none) E s1) E s
 done:∀(X:Cx),X.prog=P->X.w=w->X.K=K->X.calm=true->∀(i:Nat) (pins:List (aVA×Obj)) (s:Shared) (σ:St) (H:Hp) (E:Value->Shared->Prop),aT X pins σ H s->(∀b∈fp,jP X pins H b)->tn i s.heap->J.stop i H->
  aVC (aVG P w) X.A (pyNext (.ref it)) (λr s1=>r=none/\aT X pins σ H s1) E s
 self:∀(A:Around) (i:Nat) (s:Shared) (Q:Value->Shared->Prop) (E:Value->Shared->Prop),tn i s.heap->Q (.ref it) s->aVC (aVG P w) A (pyIter (.ref it)) Q E s
abbrev TI:=St->Hp->(It->Hp->Prop)->Prop
def PIE (X:Cx) (pins:List (aVA×Obj)) (σ:St) (tg:Expr) (R:It->Hp->Prop) (itv:Value) (s2:Shared):Prop:=
 ∃(it:aVA) (fp:List aVA) (tn:Nat->Heap->Prop) (J:It) (H':Hp),itv = .ref it/\aT X pins σ H' s2/\aCF X.prog X.w X.K tg J fp it tn/\tn 0 s2.heap/\(∀b∈fp,jP X pins H' b)/\R J H'
def PI (X:Cx) (tg iter:Expr) (wi:TI):Prop:=
 ∀(pins:List (aVA×Obj)) (s:Shared) (σ:St) (H:Hp) (R:It->Hp->Prop),aT X pins σ H s->wi σ H R->
  aVC (aVG X.prog X.w) X.A (aVP iter X.env) (λv s1=>aVC (aVG X.prog X.w) X.A (pyIter v) (PIE X pins σ tg R) X.xe s1) X.xe s
theorem aFE {M:Model} {A:Around} {E:Value->Shared->Prop} {s:Shared} {tg:Expr} {it:aVA} {u:Value} {o:Obj} {n:String} {vs:Array Value} {Q:Unit->Shared->Prop} (ho:s.heap.get? it=some o) (hc:o.cls = .type n) (hd:o.data = .fields vs)
    (hn:["enumerate","zip","dict_itemiterator","dict_reverseitemiterator","odict_iterator","itertools.zip_longest","itertools.pairwise"].contains n=false) (hQ:Q () s):aVC M A (aWD tg (.ref it) u) Q E s:=by
  unfold aWD;cases tg<;>first
    | exact aVE hQ
    | (cases u<;>first
        | exact aVE hQ
        | (refine aVB (wpAny_load ho ?_)
           rw [hc,hd];show aVC M A (if (["enumerate","zip","dict_itemiterator","dict_reverseitemiterator","odict_iterator","itertools.zip_longest","itertools.pairwise"].contains n&&vs[0]?==some (rawInt _))=true then _ else _) Q E s;rw [if_neg (by intro h;rw [hn,aUI] at h;cases h)];exact aVE hQ))
def Itl (K:W.Frag) (a:aVA):It:=
 ⟨λi H=>∃xs x,iU K H a xs/\xs[i]? = some x,λi H x H'=>H'=H/\∀xs,iU K H a xs->xs[i]? = some x,λi H=>∃xs,iU K H a xs/\xs.length<=i⟩
def Itt (K:W.Frag) (a:aVA):It:=
 ⟨λi H=>∃xs x,rL K H a xs/\xs[i]? = some x,λi H x H'=>H'=H/\∀xs,rL K H a xs->xs[i]? = some x,λi H=>∃xs,rL K H a xs/\xs.length<=i⟩
def Itr (lo:Int) (n:Nat):It:=⟨λi _=>i<n,λi H x H'=>H'=H/\x = .int (lo+i),λi _=>n<=i⟩
theorem rW {P:aVD} {w:aVH} {K:W.Frag} {tg:Expr} (a it:aVA):aCF P w K tg (Itl K a) [it] it (λi h=>h.IsListIter it a i) where
 mem:=by simp
 obj:=λi h st b hb=>by
  have e:b=it:=by simpa using hb
  subst e;obtain ⟨o,e,c,d⟩:=st;exact ⟨o,e,λv z=>by rw [d] at z;cases z⟩
 keep:=λi h h' st k=>st.at λo e=>k it (by simp) o e
 item:=by
  intro X hP hw hK hc i pins s σ H E I hf st hg;subst hP hw hK;obtain ⟨xs,x,hq,hx⟩:=hg;obtain ⟨its,rv,p,hz⟩:=I.list hq;obtain ⟨u,hu,ru⟩:=rv.get hx;obtain ⟨f0,f1,f2,f3,f4,f5⟩:=hf it (by simp);refine wpAny_pyNext_list_item st p.isList (x:=u) (by simpa using hu) λh' st' sb=>?_;have I1:aT X pins σ H { s with heap:=h' }:=I.turned (t':=s.toks) (λb o hb e=>(sb.2 b hb).trans e) f0 f1 f3 f4 f5;obtain ⟨o,e,c,d⟩:=id st';exact ⟨u,rfl,aFE (s:={ s with heap:=h' }) e c d (by decide) ⟨x,H,I1,ru,⟨rfl,λys hy=>by rw [I.list_inj hy hq];exact hx⟩,st',λb hb=>(hf b hb).1⟩⟩
 done:=by
  intro X hP hw hK hc i pins s σ H E I hf st hg;subst hP hw hK;obtain ⟨xs,hq,hx⟩:=hg;obtain ⟨its,rv,p,hz⟩:=I.list hq;obtain ⟨f0,f1,f2,f3,f4,f5⟩:=hf it (by simp);have hl:=rv.length;exact wpAny_pyNext_list_end (I.ok.hd hc) st p.isList (by simp;omega) λh' eb=>⟨rfl,I.turned (t':=s.toks) (λb o hb e=>eb b o hb e) f0 f1 f3 f4 f5⟩
 self:=λ_ _ _ _ _ st h=>wpAny_pyIter_listiter st h
theorem qG {P:aVD} {w:aVH} {K:W.Frag} {tg:Expr} (a it:aVA):aCF P w K tg (Itt K a) [it] it (λi h=>h.IsTupleIter it a i) where
 mem:=by simp
 obj:=λi h st b hb=>by
  have e:b=it:=by simpa using hb
  subst e;obtain ⟨o,e,c,d⟩:=st;exact ⟨o,e,λv z=>by rw [d] at z;cases z⟩
 keep:=λi h h' st k=>st.at λo e=>k it (by simp) o e
 item:=by
  intro X hP hw hK hc i pins s σ H E I hf st hg;subst hP hw hK;obtain ⟨xs,x,hq,hx⟩:=hg;obtain ⟨its,rv,p,hz⟩:=I.tuple hq;obtain ⟨u,hu,ru⟩:=rv.get hx;obtain ⟨f0,f1,f2,f3,f4,f5⟩:=hf it (by simp);refine wpAny_pyNext_tuple_item st (show s.heap.IsTuple a its.toArray from p) (x:=u) (by simpa using hu) λh' st' sb=>?_;have I1:aT X pins σ H { s with heap:=h' }:=I.turned (t':=s.toks) (λb o hb e=>(sb.2 b hb).trans e) f0 f1 f3 f4 f5;obtain ⟨o,e,c,d⟩:=id st';exact ⟨u,rfl,aFE (s:={ s with heap:=h' }) e c d (by decide) ⟨x,H,I1,ru,⟨rfl,λys hy=>by rw [I.tuple_inj hy hq];exact hx⟩,st',λb hb=>(hf b hb).1⟩⟩
 done:=by
  intro X hP hw hK hc i pins s σ H E I hf st hg;subst hP hw hK;obtain ⟨xs,hq,hx⟩:=hg;obtain ⟨its,rv,p,hz⟩:=I.tuple hq;obtain ⟨f0,f1,f2,f3,f4,f5⟩:=hf it (by simp);have hl:=rv.length;exact wpAny_pyNext_tuple_end (I.ok.hd hc) st (show s.heap.IsTuple a its.toArray from p) (by simp;omega) λh' eb=>⟨rfl,I.turned (t':=s.toks) (λb o hb e=>eb b o hb e) f0 f1 f3 f4 f5⟩
 self:=λ_ _ _ _ _ st h=>wpAny_pyIter_tupleiter st h
theorem xW {P:aVD} {w:aVH} {K:W.Frag} {tg:Expr} (it:aVA) (lo:Int) (n:Nat):aCF P w K tg (Itr lo n) [it] it (λi h=>IsRangeIter h it (lo+(i:Nat)*1) ((n:Int)-(i:Nat)) 1) where
 mem:=by simp
 obj:=λi h st b hb=>by
  have e:b=it:=by simpa using hb
  subst e;exact ⟨_,st,λv z=>by
   have z':Data.fields _=Data.cell v:=z;cases z'⟩
 keep:=λi h h' st k=>k it (by simp) _ st
 item:=by
  intro X hP hw hK hc i pins s σ H E I hf st hg;subst hP hw hK;obtain ⟨f0,f1,f2,f3,f4,f5⟩:=hf it (by simp);have W:=Walks.range (prog:=X.prog) (w:=X.w) (I.ok.hd hc) it lo 1 n;refine W.item i s _ _ hg st λv h' tk hv st' kk=>?_;obtain ⟨t,rfl⟩:=hv;have I1:aT X pins σ H { s with heap:=h',toks:=tk }:=I.turned (λb o hb e=>kk b o (by simpa using hb) e) f0 f1 f3 f4 f5;refine ⟨_,rfl,aFE (s:={ s with heap:=h',toks:=tk }) (n:="range_iterator") st' rfl rfl (by decide) ⟨.int (lo+i),H,I1,⟨t,?_⟩,⟨rfl,rfl⟩,st',λb hb=>(hf b hb).1⟩⟩;rw [Int.mul_one]
 done:=by
  intro X hP hw hK hc i pins s σ H E I hf st hg;subst hP hw hK;obtain ⟨f0,f1,f2,f3,f4,f5⟩:=hf it (by simp);exact wpAny_pyNext_range_end (I.ok.hd hc) st (by have:n<=i:=hg;omega) λh' eb=>⟨rfl,I.turned (t':=s.toks) (λb o hb e=>eb b o hb e) f0 f1 f3 f4 f5⟩
 self:=λ_ _ _ _ _ st h=>wpAny_pyIter_rangeiter st h
section
variable {X:Cx} {tg:Expr}
def aKD (K:W.Frag) (tl:TE):TI:=λσ H R=>tl σ H λx H1=>∃a,x = .ref a/\(∃xs,iU K H1 a xs)/\R (Itl K a) H1
def aOG (K:W.Frag) (tl:TE):TI:=λσ H R=>tl σ H λx H1=>∃a,x = .ref a/\(∃xs,rL K H1 a xs)/\R (Itt K a) H1
theorem aIU {l:Expr} {tl:TE} (hl:PE X l tl):PI X tg l (aKD X.K tl):=by
 intro pins s σ H R I h;refine cF (hl pins s σ H _ I h) λv s1 ⟨x,H1,I1,r1,q1⟩=>?_;obtain ⟨a,e,⟨xs,hq⟩,q⟩:=q1;subst e;cases r1;obtain ⟨its,rv,p,hz⟩:=I1.list hq;refine wpAny_pyIter_list p.isList ?_;refine ⟨s1.heap.objs.size,[s1.heap.objs.size],_,_,H1,rfl,I1.kept (t':=s1.toks) λb o e=>aDA _ e,rW a _,⟨_,aG4 _ rfl,rfl,rfl⟩,λb hb=>?_,q⟩;have e:b=s1.heap.objs.size:=by simpa using hb
 subst e;exact I1.fpOk (aDP _) (I1.hok.fresh (aDP _))
theorem aLN {l:Expr} {tl:TE} (hl:PE X l tl):PI X tg l (aOG X.K tl):=by
 intro pins s σ H R I h;refine cF (hl pins s σ H _ I h) λv s1 ⟨x,H1,I1,r1,q1⟩=>?_;obtain ⟨a,e,⟨xs,hq⟩,q⟩:=q1;subst e;cases r1;obtain ⟨its,rv,p,hz⟩:=I1.tuple hq;refine aWE (show s1.heap.IsTuple a its.toArray from p) ?_;refine ⟨s1.heap.objs.size,[s1.heap.objs.size],_,_,H1,rfl,I1.kept (t':=s1.toks) λb o e=>aDA _ e,qG a _,⟨_,aG4 _ rfl,rfl,rfl⟩,λb hb=>?_,q⟩;have e:b=s1.heap.objs.size:=by simpa using hb
 subst e;exact I1.fpOk (aDP _) (I1.hok.fresh (aDP _))
theorem aFC {pins:List (aVA×Obj)} {σ:St} {H:Hp} {s:Shared} {R:It->Hp->Prop} {E:Value->Shared->Prop} {lo hi:Int} {t u v:Tok} {tk:Nat} (I:aT X pins σ H s) (h1:-(2^62)<=lo) (h2:lo<2^62) (h3:-(2^62)<=hi) (h4:hi<2^62)
  (q:R (Itr lo (hi-lo).toNat) H):aVC (aVG X.prog X.w) X.A (pyIter (.ref s.heap.objs.size)) (PIE X pins σ tg R) E { s with heap:=s.heap.push { cls:=.type "range",data:=.fields #[.int lo t,.int hi u,.int 1 v] },toks:=tk }:=by
 refine wpAny_pyIter_range (IsRange.new ..) (small_one h1 h2 h3 h4) ?_;have I1:aT X pins σ H { s with heap:=s.heap.push { cls:=.type "range",data:=.fields #[.int lo t,.int hi u,.int 1 v] },toks:=tk }:=I.kept λb o e=>aDA _ e;refine ⟨(s.heap.push { cls:=.type "range",data:=.fields #[.int lo t,.int hi u,.int 1 v] }).objs.size,[(s.heap.push { cls:=.type "range",data:=.fields #[.int lo t,.int hi u,.int 1 v] }).objs.size],_,_,H,rfl,
  I1.kept (t':=tk) λb o e=>aDA _ e,xW _ lo (hi-lo).toNat,?_,λb hb=>?_,q⟩
 ·have e1:lo+((0:Nat):Int)*1=lo:=by simp
  have e2:(((hi-lo).toNat:Nat):Int)-((0:Nat):Int)=Builtin.Range.rangeSize lo hi 1:=by rw [rangeSize_one];split<;>omega
  show IsRangeIter _ _ (lo+((0:Nat):Int)*1) ((((hi-lo).toNat:Nat):Int)-((0:Nat):Int)) 1;rw [e1,e2];exact aG4 _ rfl
 ·have e:b=(s.heap.push { cls:=.type "range",data:=.fields #[.int lo t,.int hi u,.int 1 v] }).objs.size:=by simpa using hb
  subst e;exact I1.fpOk (aDP _) (I1.hok.fresh (aDP _))
def aK2 (ta:TA):TI:=λσ H R=>ta σ H λvs H1=>∃j:Int,vs=[.int j]/\-(2^62)<=j/\j<2^62/\R (Itr 0 j.toNat) H1
theorem aC4 {a:Expr} {ta:TA} {p pos:Pos} (hg:Gl X "range") (hm:X.mg "range" = none) (ha:PA X [a] ta) (hs:aVL [a] X.env=[(false,aVP a X.env)]:=by rfl):PI X tg (.Call (.Name "range" p) [a] [] pos) (aK2 ta):=by
 intro pins s σ H R I h;refine Call_ (nZ I hg hm boot_range (PyProof.Rows.callWith_type1 (cF (ha pos pins s σ H _ I h) λus s1 ⟨vs,H1,I1,r1,q1⟩=>?_) hs rfl));obtain ⟨j,e,q1,q2,q⟩:=q1;subst e;cases r1 with
 | cons r rr=>
  cases rr;obtain ⟨t,rfl⟩:=r;exact call_range_1 (aFC I1 (by omega) (by omega) q1 q2 (by simpa using q))
def aP2 (wi:TI) (g:TG) (tb:TS):TS:=λD σ H=>wi σ H λJ H1=>∃W:Nat->Nat->St->Hp->Prop,(∃m,W 0 m σ H1)/\∀i m σ H,W i m σ H->
 (J.stop i H/\D.nx σ H)\/(J.go i H/\∃N:St->Hp->Prop,(∀σ' H',N σ' H'->∃m',m'<m/\W (i+1) m' σ' H')/\∀x H',J.yld i H x H'->g x σ H' λσ2 H2=>tb { D with nx:=N,ct:=N,bk:=D.nx } σ2 H2)
def uG (fp:List aVA) (h:Heap):List (aVA×Obj):=fp.filterMap λb=>(h.get? b).map λo=>(b,o)
theorem cR {fp:List aVA} {h:Heap} {b:aVA} {o:Obj} (hb:b∈fp) (e:h.get? b=some o):(b,o)∈uG fp h:=aTY.mpr ⟨b,hb,by rw [e];rfl⟩
theorem aBU {fp:List aVA} {h:Heap} {p:aVA×Obj} (hp:p∈uG fp h):p.1∈fp/\h.get? p.1=some p.2:=by
 obtain ⟨b,hb,e⟩:=aTY.mp hp;cases q:h.get? b with
 | none=>rw [q] at e;cases e
 | some o=>
  rw [q] at e;have e':(b,o)=p:=Option.some.inj e;subst e';exact ⟨hb,q⟩
theorem aT.pinned {pins:List (aVA×Obj)} {σ:St} {H:Hp} {s:Shared} {fp:List aVA} (I:aT X pins σ H s) (hf:∀b∈fp,jP X pins H b) (ho:∀b∈fp,∃o,s.heap.get? b=some o/\∀v,o.data≠.cell v):aT X (pins++uG fp s.heap) σ H s:=
 I.pins_of λp hp=>(aM3.mp hp).elim (λz=>I.pin p (aG2 _ z)) λz=>by
  obtain ⟨hb,e⟩:=aBU z;obtain ⟨f0,f1,f2,_⟩:=hf p.1 hb;obtain ⟨o,e',d⟩:=ho p.1 hb;rw [e] at e';cases e';exact ⟨e,f0,f1,f2,d⟩
theorem aT.unpinned {pins pl:List (aVA×Obj)} {σ:St} {H:Hp} {s:Shared} (I:aT X (pins++pl) σ H s):aT X pins σ H s:=I.pins_of λp hp=>I.pin p (aG2 _ (List.mem_append_left _ hp))
theorem aM1 {iter:Expr} {body:List aVK} {wi:TI} {g:TG} {tb:TS} {pos:Pos} (hp:PassesOwn (aVG X.prog X.w) X.A X.env X.xe) (hc:X.calm=true) (hi:PI X tg iter wi) (hg:PG X tg g) (hb:PSs X body tb)
  (hs:∀x,aVN iter X.env x=pure x:=by intro _;rfl):PS X (.For tg iter body [] pos) (aP2 wi g tb):=by
 intro pins s σ H D I h;refine wpAny_For (cF (hi pins s σ H _ I h) λv s1 h1=>cF h1 λitv s2 h2=>?_) hs;obtain ⟨it,fp,tn,J,H2,e,I2,T,st2,f2,W,⟨m0,w0⟩,turn⟩:=h2;subst e
 -- what stays true of the iterator's objects through the loop
 have stat:∀{H':Hp},(∀b∈fp,H' b=none)->∀b∈fp,jP X pins H' b:=λhn b hb=>⟨hn b hb,(f2 b hb).2⟩;refine codeAny_forLoop_any (λn s'=>∃i σ' H',aT X pins σ' H' s'/\tn i s'.heap/\(∀b∈fp,H' b=none)/\W i n σ' H') ?_ m0 ⟨0,σ,H2,I2,st2,λb hb=>(f2 b hb).1,w0⟩;rintro n s3 ⟨i,σ3,H3,I3,st3,fr3,w3⟩;rcases turn i n σ3 H3 w3 with ⟨stop,qn⟩ | ⟨go,N,hN,step⟩
 ·refine aV1 hp (cF (T.done X rfl rfl rfl hc i pins s3 σ3 H3 X.xe I3 (stat fr3) st3 stop) λr s4 ⟨hr,I4⟩=>?_);subst hr;exact aWO ⟨σ3,H3,I4,qn⟩
 ·refine aV1 hp (cF (T.item X rfl rfl rfl hc i pins s3 σ3 H3 X.xe I3 (stat fr3) st3 go) λr s4 ⟨u,hr,h4⟩=>?_);subst hr;refine aV1 hp (cF h4 λ_ s5 ⟨x,H5,I5,r5,y5,st5,fr5⟩=>?_);have I5':=I5.pinned (stat fr5) (T.obj _ _ st5);refine aV1 hp (cF (hg _ s5 σ3 H5 x u _ I5' r5 (step x H5 y5)) λ_ s6 ⟨σ6,H6,I6,q6⟩=>?_);refine aV1 hp (cF (hb _ s6 σ6 H6 _ I6 q6) λf s7 q7=>?_);have again:∀{σ7:St} {H7:Hp},aT X (pins++uG fp s5.heap) σ7 H7 s7->N σ7 H7->∃m,m<n/\∃i σ' H',aT X pins σ' H' s7/\tn i s7.heap/\(∀b∈fp,H' b=none)/\W i m σ' H':=λ{σ7 H7} I7 n7=>by
   obtain ⟨m',hm,w7⟩:=hN σ7 H7 n7;refine ⟨m',hm,i+1,σ7,H7,I7.unpinned,T.keep _ _ _ st5 λb hb o e=>(I7.pin (b,o) (aG2 _ (aG2 _ (cR hb e)))).1,λb hb=>?_,w7⟩;obtain ⟨o,e,d⟩:=T.obj _ _ st5 b hb;exact (I7.pin (b,o) (aG2 _ (aG2 _ (cR hb e)))).2.1
  cases f with
  | next=>obtain ⟨σ7,H7,I7,n7⟩:=q7;exact again I7 n7
  | cont=>obtain ⟨σ7,H7,I7,n7⟩:=q7;exact again I7 n7
  | brk=>obtain ⟨σ7,H7,I7,q7⟩:=q7;exact ⟨σ7,H7,I7.unpinned,q7⟩
  | ret v=>obtain ⟨x7,σ7,H7,I7,r7,q7⟩:=q7;exact ⟨x7,σ7,H7,I7.unpinned,r7,q7⟩
end
abbrev R2:=V->V->Hp->VK->Prop
def kU (X:Cx) (f:Value->Value->Sem Value) (r:R2):Prop:=
 ∀(pins:List (aVA×Obj)) (s:Shared) (σ:St) (H:Hp) (x y:V) (v u:Value) (Q:VK),aT X pins σ H s->bG x v->bG y u->r x y H Q->
  aVC (aVG X.prog X.w) X.A (f v u) (EP X pins σ Q) X.xe s
def UnR (X:Cx) (f:Value->Sem Value) (r:V->Hp->VK->Prop):Prop:=
 ∀(pins:List (aVA×Obj)) (s:Shared) (σ:St) (H:Hp) (x:V) (v:Value) (Q:VK),aT X pins σ H s->bG x v->r x H Q->
  aVC (aVG X.prog X.w) X.A (f v) (EP X pins σ Q) X.xe s
def fQ (X:Cx) (f:Value) (r:List V->Hp->VK->Prop):Prop:=
 ∀(pins:List (aVA×Obj)) (s:Shared) (σ:St) (H:Hp) (xs:List V) (us:List Value) (Q:VK),aT X pins σ H s->bF xs us->r xs H Q->
  aVC (aVG X.prog X.w) X.A (call f us) (EP X pins σ Q) X.xe s
def tOp (r:R2) (ta tb:TE):TE:=λσ H Q=>ta σ H λx H1=>tb σ H1 λy H2=>r x y H2 Q
def tUn (r:V->Hp->VK->Prop) (ta:TE):TE:=λσ H Q=>ta σ H λx H1=>r x H1 Q
def rI (C:Int->Int->Prop) (g:Int->Int->V):R2:=λx y H Q=>∃i j,x = .int i/\y = .int j/\C i j/\Q (g i j) H
def rI0 (g:Int->Int->V):R2:=λx y H Q=>∃i j,x = .int i/\y = .int j/\Q (g i j) H
def rU (g:Int->V):V->Hp->VK->Prop:=λx H Q=>∃i,x = .int i/\Q (g i) H
section
variable {X:Cx} {a b c:Expr} {ta tb tc:TE} {pos:Pos}
theorem aNY (ha:PE X a ta) (hb:PE X b tb) {pins:List (aVA×Obj)} {s:Shared} {σ:St} {H:Hp} {R:V->V->Hp->Prop} (I:aT X pins σ H s)
  (h:ta σ H λx H1=>tb σ H1 λy H2=>R x y H2) {Q:Value->Shared->Prop} {f:Value->Value->Sem Value}
  (hf:∀v u s2 x y H2,aT X pins σ H2 s2->bG x v->bG y u->R x y H2->aVC (aVG X.prog X.w) X.A (f v u) Q X.xe s2) :
  aVC (aVG X.prog X.w) X.A (aVP a X.env) (λv s₁=>aVC (aVG X.prog X.w) X.A (aVP b X.env) (λu s₂=>aVC (aVG X.prog X.w) X.A (f v u) Q X.xe s₂) X.xe s₁) X.xe s:=by
 refine cF (ha pins s σ H _ I h) λv s1 ⟨x,H1,I1,r1,q1⟩=>?_;refine cF (hb pins s1 σ H1 _ I1 q1) λu s2 ⟨y,H2,I2,r2,q2⟩=>?_;exact hf v u s2 x y H2 I2 r1 r2 q2
theorem aOR {op:Operator} {r:R2} (ho:kU X (aV2 op) r) (ha:PE X a ta) (hb:PE X b tb):PE X (.BinOp a op b pos) (tOp r ta tb):=by
 intro pins s σ H Q I h;exact wpAny_BinOp (aNY ha hb I h λv u s2 x y H2 I2 rx ry q=>ho pins s2 σ H2 x y v u Q I2 rx ry q)
theorem aOT {op:UnaryOp} {r:V->Hp->VK->Prop} (ho:UnR X (unaryOp op) r) (ha:PE X a ta):PE X (.UnaryOp op a pos) (tUn r ta):=by
 intro pins s σ H Q I h;exact UnaryOp_ (cF (ha pins s σ H _ I h) λv s1 ⟨x,H1,I1,r1,q1⟩=>ho pins s1 σ H1 x v Q I1 r1 q1)
theorem opI {f:Value->Value->Sem Value} {C:Int->Int->Prop} {g:Int->Int->Int}
  (rule:∀(i j:Int) (t u:Tok) (s:Shared) (Q:Value->Shared->Prop) (E:Value->Shared->Prop),C i j->Q (.int (g i j) s.toks) { s with toks:=s.toks+1 }->aVC (aVG X.prog X.w) X.A (f (.int i t) (.int j u)) Q E s) :
  kU X f (rI C λi j=>.int (g i j)):=by
 intro pins s σ H x y v u Q I rx ry h;obtain ⟨i,j,rfl,rfl,hc,q⟩:=h;obtain ⟨t,rfl⟩:=rx;obtain ⟨t',rfl⟩:=ry;exact rule i j t t' s _ _ hc ⟨.int (g i j),H,I.tok _,⟨_,rfl⟩,q⟩
theorem aO8 {f:Value->Value->Sem Value} {g:Int->Int->Int}
  (rule:∀(i j:Int) (t u:Tok) (s:Shared) (Q:Value->Shared->Prop) (E:Value->Shared->Prop),Q (.int (g i j) s.toks) { s with toks:=s.toks+1 }->aVC (aVG X.prog X.w) X.A (f (.int i t) (.int j u)) Q E s) :
  kU X f (rI0 λi j=>.int (g i j)):=by
 intro pins s σ H x y v u Q I rx ry h;obtain ⟨i,j,rfl,rfl,q⟩:=h;obtain ⟨t,rfl⟩:=rx;obtain ⟨t',rfl⟩:=ry;exact rule i j t t' s _ _ ⟨.int (g i j),H,I.tok _,⟨_,rfl⟩,q⟩
theorem aH0 {f:Value->Value->Sem Value} {g:Int->Int->Bool}
  (rule:∀(i j:Int) (t u:Tok) (s:Shared) (Q:Value->Shared->Prop) (E:Value->Shared->Prop),Q (.bool (g i j)) s->aVC (aVG X.prog X.w) X.A (f (.int i t) (.int j u)) Q E s) :
  kU X f (rI0 λi j=>.bl (g i j)):=by
 intro pins s σ H x y v u Q I rx ry h;obtain ⟨i,j,rfl,rfl,q⟩:=h;obtain ⟨t,rfl⟩:=rx;obtain ⟨t',rfl⟩:=ry;exact rule i j t t' s _ _ ⟨.bl (g i j),H,I,rfl,q⟩
def aLO (i j:Int):Prop:=0<=j/\j<=1000000/\i.natAbs<2^64
def aHQ (i j:Int):Prop:=(-(2^64)<i/\i<2^64)\/(-(2^64)<j/\j<2^64)
theorem aHQ.ok {i j:Int} (h:aHQ i j):IntMulOk i j:=by
 rcases h with ⟨h1,h2⟩ | ⟨h1,h2⟩
 ·exact .of_left (intBits_le_64 h1 h2)
 ·exact .of_right (intBits_le_64 h1 h2)
theorem bU:kU X (aV2 .Add) (rI0 λi j=>.int (i+j)):=aO8 λ_ _ _ _ _ _ _ q=>add_int q
theorem dW:kU X (aV2 .Sub) (rI0 λi j=>.int (i-j)):=aO8 λ_ _ _ _ _ _ _ q=>sub_int q
theorem aL4:kU X (aV2 .Mult) (rI aHQ λi j=>.int (i*j)):=opI λ_ _ _ _ _ _ _ hc q=>mul_int q hc.ok
theorem jV:kU X (aV2 .Mod) (rI (λ_ j=>0<j) λi j=>.int (i%j)):=opI λi j _ _ _ _ _ hc q=>by
 have h1:(0:Int)<j:=hc;exact mod_int' (by omega) (by rw [aUN i (by omega)];exact q)
theorem aGO:kU X (aV2 .Pow) (rI aLO λi j=>.int (i^j.toNat)):=opI λ_ _ _ _ _ _ _ hc q=>pow_int_small hc.1 hc.2.1 hc.2.2 q
theorem unI {f:Value->Sem Value} {g:Int->Int}
  (rule:∀(i:Int) (t:Tok) (s:Shared) (Q:Value->Shared->Prop) (E:Value->Shared->Prop),Q (.int (g i) s.toks) { s with toks:=s.toks+1 }->aVC (aVG X.prog X.w) X.A (f (.int i t)) Q E s) :
  UnR X f (rU λi=>.int (g i)):=by
 intro pins s σ H x v Q I rx h;obtain ⟨i,rfl,q⟩:=h;obtain ⟨t,rfl⟩:=rx;exact rule i t s _ _ ⟨.int (g i),H,I.tok _,⟨_,rfl⟩,q⟩
theorem aLK:UnR X (unaryOp .USub) (rU λi=>.int (-i)):=unI λ_ _ _ _ _ q=>neg_int q
end
section
variable {X:Cx} {a b c:Expr} {ta tb tc:TE} {pos:Pos}
theorem tI {pins:List (aVA×Obj)} {σ:St} {H:Hp} {s:Shared} {Q:VK} {k k':Bool} (I:aT X pins σ H s) (q:Q (.bl k) H) (e:k=k'):EP X pins σ Q (.bool k') s:=by
 subst e;exact ⟨.bl k,H,I,rfl,q⟩
theorem fR:kU X (aVU .Lt) (rI0 λi j=>.bl (decide (i<j))):=aH0 λ_ _ _ _ _ _ _ q=>lt_int q
theorem aEC:kU X (aVU .LtE) (rI0 λi j=>.bl (decide (i<=j))):=aH0 λ_ _ _ _ _ _ _ q=>le_int q
theorem oJ:kU X (aVU .Gt) (rI0 λi j=>.bl (decide (j<i))):=aH0 λ_ _ _ _ _ _ _ q=>gt_int q
theorem sC:kU X (aVU .GtE) (rI0 λi j=>.bl (decide (j<=i))):=aH0 λ_ _ _ _ _ _ _ q=>ge_int q
theorem aMV:kU X (aVU .Is) (λx y H Q=>y = .non/\Q (.bl (decide (x = .non))) H):=by
 intro pins s σ H x y v u Q I rx ry h;obtain ⟨rfl,q⟩:=h;cases ry;refine is_none_gen (tI I q ?_);cases x<;>first
  | (cases rx;rfl)
  | (obtain ⟨t,rfl⟩:=rx;rfl)
theorem aS (b:Expr) {op:CmpOp} (h:op≠.In:=by decide) (h2:op≠.NotIn:=by decide):aVM op b=false:=by
 have e1:(op==CmpOp.In)=false:=by cases op<;>first | rfl | exact absurd rfl h
 have e2:(op==CmpOp.NotIn)=false:=by cases op<;>first | rfl | exact absurd rfl h2
 cases b<;>simp [aVM,e1,e2]
theorem aI6 {op:CmpOp} {r:R2} (ho:kU X (aVU op) r) (ha:PE X a ta) (hb:PE X b tb) (hm:aVM op b=false):PE X (.Compare a [op] [b] pos) (tOp r ta tb):=by
 intro pins s σ H Q I h;exact wpAny_Compare1 (aNY ha hb I h λv u s2 x y H2 I2 rx ry q=>ho pins s2 σ H2 x y v u Q I2 rx ry q) hm
def aKI (t:TE):TT:=λσ H Q=>t σ H λx H'=>∃k,x = .bl k/\Q k H'
theorem aJI {op:CmpOp} {r:R2} (ho:kU X (aVU op) r) (ha:PE X a ta) (hb:PE X b tb) (hm:aVM op b=false):PT X (.Compare a [op] [b] pos) (aKI (tOp r ta tb)):=by
 intro pins s σ H Q I h;refine wpAny_isTrue_Compare1 (cF (ha pins s σ H _ I h) λv s1 ⟨x,H1,I1,r1,q1⟩=>cF (hb pins s1 σ H1 _ I1 q1) λu s2 ⟨y,H2,I2,r2,q2⟩=>
  cF (ho pins s2 σ H2 x y v u _ I2 r1 r2 q2) λc s3 ⟨z,H3,I3,r3,k,e,q3⟩=>?_) hm
 subst e;cases r3;exact aVW ⟨H3,I3,q3⟩
theorem qP:(aVI:Nat)<2^63:=by rw [aWU];decide
theorem oM {x:V} {us:List Value} (r:bF [x] us):∃u,us=[u]/\bG x u:=by
 cases r with
 | cons r1 r2=>cases r2;exact ⟨_,rfl,r1⟩
end
theorem vB.some_of {v:V} {o:Option Value} (r:vB (some v) o):∃u,o=some u/\bG v u:=by
 cases o with
 | none=>exact (show False from r).elim
 | some u=>exact ⟨u,rfl,r⟩
structure dD (k:Nat) (A:Around):Prop where
 hd:A.handled=none
 dp:A.depth+3*k+5<recursionLimit
 un:A.units+16*k+200<aWG
 gd:A.guards=some []
theorem dD.mono {j k:Nat} {A:Around} (r:dD k A) (h:j<=k):dD j A:=⟨r.hd,by have:=r.dp;omega,by have:=r.un;omega,r.gd⟩
theorem dD.deeper {k:Nat} {A:Around} (r:dD (k+1) A) (env:Env):dD k (A.deeper env):=
 ⟨r.hd,by have:=r.dp;show A.depth+1+3*k+5<_;omega,by have:=r.un;show A.units+3+16*k+200<_;omega,r.gd⟩
theorem dD.depth {k:Nat} {A:Around} (r:dD k A):A.depth<recursionLimit:=by have:=r.dp;omega
theorem dD.units {k:Nat} {A:Around} (r:dD k A):A.units+64<aWG:=by have:=r.un;omega
def aJD:TA:=λ_ H Q=>Q [] H
def aF6 (ta:TE) (tr:TA):TA:=λσ H Q=>ta σ H λx H1=>tr σ H1 λxs H2=>Q (x::xs) H2
section
variable {X:Cx} {e:Expr} {es:List Expr} {te:TE} {t:TA} {pos:Pos}
theorem aLB:PA X [] aJD:=λ_ _ _ _ H Q I h=>Calls.spliced_nil ⟨[],H,I,.nil,h⟩
theorem aIV (ha:PE X e te) (hr:PA X es t) (hs:aVL (e::es) X.env=(false,aVP e X.env)::aVL es X.env:=by rfl):PA X (e::es) (aF6 te t):=by
 intro pos pins s σ H Q I h;rw [hs];show aVC _ _ (spliced ((false,aVP e X.env)::aWI pos (aVL es X.env))) _ _ s;refine Calls.spliced_cons (cF (ha pins s σ H _ I h) λu s1 ⟨x,H1,I1,r1,q1⟩=>?_);exact cF (hr pos pins s1 σ H1 _ I1 q1) λus s2 ⟨xs,H2,I2,r2,q2⟩=>⟨x::xs,H2,I2,.cons r1 r2,q2⟩
def aP9 (t:TA):TE:=λσ H Q=>t σ H λxs H1=>xs.length<=aVI/\∀p,H1 p=none->Q (.ref p) (upd H1 p (.tup xs))
def aHL (t:TA):TE:=λσ H Q=>t σ H λxs H1=>xs.length<=aVI/\∀p,H1 p=none->Q (.ref p) (upd H1 p (.lst xs))
theorem aK5 {x1} (h:PA X es t):PE X (.Tuple es x1 pos) (aP9 t):=by
 intro pins s σ H Q I hq;refine wpAny_Tuple_spliced (cF (h pos pins s σ H _ I hq) λus s1 ⟨xs,H1,I1,r,z,q⟩=>⟨by rw [<-r.length];exact z,?_⟩);have hf:H1 s1.heap.objs.size=none:=I1.hok.fresh (aDP _);refine ⟨.ref s1.heap.objs.size,upd H1 s1.heap.objs.size (.tup xs),I1.laid (t':=s1.toks) (λb u e=>aDA _ e) (aDP _) ?_,rfl,q _ hf⟩;exact ⟨z,us,r,⟨_,aG4 _ rfl,rfl,_,rfl⟩⟩
theorem aMT (h:PA X es t):PE X (.List es pos) (aHL t):=by
 intro pins s σ H Q I hq;refine wpAny_List_spliced (cF (h pos pins s σ H _ I hq) λus s1 ⟨xs,H1,I1,r,z,q⟩=>⟨by rw [<-r.length];exact z,?_⟩);have hf:H1 s1.heap.objs.size=none:=I1.hok.fresh (aDP _);refine ⟨.ref s1.heap.objs.size,upd H1 s1.heap.objs.size (.lst xs),I1.laid (t':=s1.toks) (λb u e=>aDA _ e) (aDP _) ?_,rfl,q _ hf⟩;exact ⟨z,us,0,r,aG4 _ rfl⟩
end
abbrev Sp:=List V->Hp->VK->XK->Prop
abbrev CXT:=List Env->Hp->Shared->XK->Value->Shared->Prop
structure aI1 (P:aVD) (w:aVH) (K:W.Frag) (mg:Str->Option Value) (base:Heap) (A:Around) (outer:List Env) (s:Shared) (H:Hp):Prop where
 frames:A.frames=some outer
 mod:Mod K mg base
 bs:∀b o,base.get? b=some o->s.heap.get? b=some o/\H b=none
 bsz:base.objs.size<=s.heap.objs.size
 funs:s.heap.FunFrames base outer
 frf:∀b∈xP outer,H b=none
 hok:kT P w H s.heap
 bare:aWM s.gens
def CE (outer:List Env) (P:aVD) (w:aVH) (H:Hp) (s:Shared) (Q:VK) (u:Value) (s':Shared):Prop:=
 ∃v H',s'.os=s.os/\aWM s'.gens/\Un (xP outer) [] H H' s.heap s'.heap/\kT P w H' s'.heap/\bG v u/\Q v H'
def CR (CX:CXT) (outer:List Env) (P:aVD) (w:aVH) (H:Hp) (s:Shared) (Q:VK) (E:XK) (r:Result) (s':Shared):Prop:=
 match r with
 | .ok (.ret u)=>CE outer P w H s Q u s'
 | .ok _=>False
 | .error e=>CX outer H s E e s'
structure bL (P:aVD) (w:aVH) (K:W.Frag) (mg:Str->Option Value) (base:Heap) (CX:CXT) (k:Nat) (f:aVA) (fd:aVF) (ps:List Str) (sp:Sp):Prop where
 len:∀vs H Q E,sp vs H Q E->vs.length=ps.length
 run:∀(A:Around) (outer:List Env) (s:Shared) (H:Hp) (args:Args) (us:List Value) (vs:List V) (Q:VK) (E:XK),dD k A->aI1 P w K mg base A outer s H->BindsTo s fd args (ps.zip us)->bF vs us->sp vs H Q E->
  aWN (aVG P w) A (.call (.ref f) args) (CR CX outer P w H s Q E) s
theorem bL.imp {P:aVD} {w:aVH} {K:W.Frag} {mg:Str->Option Value} {base:Heap} {CX:CXT} {k:Nat} {f:aVA} {fd:aVF} {ps:List Str} {sp sp':Sp} (F:bL P w K mg base CX k f fd ps sp)
  (h:∀vs H Q E,sp' vs H Q E->sp vs H Q E):bL P w K mg base CX k f fd ps sp':=
 ⟨λvs H Q E q=>F.len vs H Q E (h _ _ _ _ q),λA outer s H args us vs Q E hr he hb hv hs=>F.run A outer s H args us vs Q E hr he hb hv (h _ _ _ _ hs)⟩
section
variable {X:Cx} {pins:List (aVA×Obj)} {σ:St} {H:Hp} {s s':Shared}
theorem aT.env0 (I:aT X pins σ H s):aI1 X.prog X.w X.K X.mg X.base X.A X.stack s H:=
 ⟨I.ok.frames,I.ok.mod,I.bs,aPW I.ok.bsz I.sz,I.stack,I.stkFree,I.hok,I.bare⟩
theorem aT.after {Q:VK} {u:Value} (I:aT X pins σ H s) (h:CE X.stack X.prog X.w H s Q u s'):EP X pins σ Q u s':=by
 obtain ⟨v,H',os,bare,un,hok,r,q⟩:=h;obtain ⟨hh,g,d,t,os'⟩:=s';obtain rfl:os'=s.os:=os;exact ⟨v,H',I.call (h':=hh) (g':=g) (d':=d) (t':=t) (ch:=[]) un hok bare (λb z=>absurd z (by simp)),r,q⟩
end
def xH (sp:Sp) (dvs:List V) (E:XK) (t:TA):TE:=λσ H Q=>t σ H λvs H1=>sp (vs++dvs) H1 Q E
def oE (K:W.Frag) (fd:aVF) (ps:List Str) (ds:List Value):Prop:=
 ∀(s:Shared) (us:List Value),K.In s.heap->(us++ds).length=ps.length->BindsTo s fd ⟨us,[]⟩ (ps.zip (us++ds))
theorem oE.all {K:W.Frag} {fd:aVF} {ps:List Str} (h:∀us:List Value,us.length=ps.length->bindArgs fd ⟨us,[]⟩=pure (ps.zip us)):oE K fd ps []:=λs us _ hl=>by
 rw [aKE] at hl ⊢;exact .of_eq (h us hl)
def yU (CX:CXT) (X:Cx) (E:XK):Prop:=∀(pins:List (aVA×Obj)) (σ:St) (H:Hp) (s:Shared) (e:Value) (s':Shared),aT X pins σ H s->CX X.stack H s E e s'->X.xe e s'
section
variable {X:Cx} {CX:CXT} {k:Nat} {f C:aVA} {fd:aVF} {ps:List Str} {sp:Sp} {dvs:List V} {ds:List Value} {E:XK} {x m:Str} {p pos apos:Pos} {e o:Expr} {es:List Expr} {ta:TE} {t:TA}
theorem aL7 {pins:List (aVA×Obj)} {σ:St} {H:Hp} {s:Shared} {Q:VK} {us:List Value} {vs:List V} (F:bL X.prog X.w X.K X.mg X.base CX k f fd ps sp) (hr:dD k X.A) (hb:oE X.K fd ps ds) (hd:bF dvs ds) (hx:yU CX X E)
  (I:aT X pins σ H s) (r:bF vs us) (h:sp (vs++dvs) H Q E):aVC (aVG X.prog X.w) X.A (call (.ref f) us) (EP X pins σ Q) X.xe s:=by
 have r2:bF (vs++dvs) (us++ds):=r.append hd;have hl:(us++ds).length=ps.length:=by rw [<-r2.length];exact F.len _ _ _ _ h
 refine wpAny_call (codeAny_mono (F.run X.A X.stack s H ⟨us,[]⟩ (us++ds) (vs++dvs) Q E hr I.env0 (hb s us I.kIn hl) r2 h) λr s' hq=>?_);cases r with
 | error e=>exact hx pins σ H s e s' I hq
 | ok fl=>
  cases fl with
  | ret u=>exact I.after hq
  | next=>exact False.elim hq
  | brk=>exact False.elim hq
  | cont=>exact False.elim hq
theorem aJK (F:bL X.prog X.w X.K X.mg X.base CX k f fd ps sp) (hr:dD k X.A) (hg:Gl X x) (hm:X.mg x=some (.ref f)) (hk:W.keepIn X.K (.ref f)=true) (hb:oE X.K fd ps ds) (hd:bF dvs ds) (hx:yU CX X E)
  (ha:PA X (e::es) t) (hdb:(x==("__debug__":Str))=false:=by decide) (he:aVL (e::es) X.env=(false,aVP e X.env)::aVL es X.env:=by rfl) (hpl:(aWI pos (aVL es X.env)).any (·.1)=false:=by rfl) :
  PE X (.Call (.Name x p) (e::es) [] pos) (xH sp dvs E t):=by
 intro pins s σ H Q I h;refine aWR (aAS I hg hm ?_ hdb);refine PySem.W.callWith_K (h₀:=X.base) I.ok.mod.kin hk (cF (ha pos pins s σ H _ I h) λus s1 ⟨vs,H1,I1,r,q⟩=>⟨I1.kIn,?_⟩) he hpl;exact aL7 F hr hb hd hx I1 r q
end
structure aN (N P:List Str) (sc:aVV):Prop where
 kind:sc.kind = .function
 co:sc.isCoroutine=false
 gen:sc.isGenerator=false
 nd:N.Nodup
 pre:N.take P.length=P
 par:∀x∈P,sc.names.lookup x=some .local\/sc.names.lookup x=some .cell
 nofree:∀y∈sc.names,y.2≠.free
theorem sF {kindOf:Str->Option NameKind} {x:Str}:∀{binds:List (Str×Value)} {m:Str->Option Value},(∀v,(x,v)∉binds)->bindL kindOf binds m x=m x
 | [],_,_=>rfl
 | (n,v)::r,m,h=>by
  unfold bindL;rw [sF λw hw=>h w (aJV _ hw)]
  split
  ·have:x≠n:=by rintro rfl;exact h v aRA
   simp [this]
  ·rfl
theorem sI {kindOf:Str->Option NameKind} {x:Str}:∀{binds:List (Str×Value)} {m:Str->Option Value},(∀v,(x,v)∉binds)->bindC kindOf binds m x=m x
 | [],_,_=>rfl
 | (n,v)::r,m,h=>by
  unfold bindC;rw [sI λw hw=>h w (aJV _ hw)]
  split
  ·rfl
  ·have:x≠n:=by rintro rfl;exact h v aRA
   simp [this]
theorem sK {kindOf:Str->Option NameKind} {x:Str} {v:Value}:∀{P:List Str} {vs:List Value} {i:Nat} {m:Str->Option Value},P.Nodup->P[i]? = some x->vs[i]? = some v->kindOf x=some .local->
  bindL kindOf (P.zip vs) m x=some v
 | [],_,_,_,_,h,_,_=>by simp at h
 | _::_,[],_,_,_,_,h,_=>by simp at h
 | p::P,w::vs,0,m,nd,h1,h2,hk=>by
  simp at h1 h2;subst h1;subst h2;show bindL kindOf ((p,w)::P.zip vs) m p=_;unfold bindL;rw [sF λv hv=>(aS3.mp nd).1 (aS4 hv).1,if_pos hk];simp
 | p::P,w::vs,i+1,m,nd,h1,h2,hk=>by
  show bindL kindOf ((p,w)::P.zip vs) m x=_;unfold bindL;exact sK (i:=i) (aS3.mp nd).2 (by simpa using h1) (by simpa using h2) hk
theorem sD {kindOf:Str->Option NameKind} {x:Str} {v:Value}:∀{P:List Str} {vs:List Value} {i:Nat} {m:Str->Option Value},P.Nodup->P[i]? = some x->vs[i]? = some v->kindOf x≠some .local->
  bindC kindOf (P.zip vs) m x=some v
 | [],_,_,_,_,h,_,_=>by simp at h
 | _::_,[],_,_,_,_,h,_=>by simp at h
 | p::P,w::vs,0,m,nd,h1,h2,hk=>by
  simp at h1 h2;subst h1;subst h2;show bindC kindOf ((p,w)::P.zip vs) m p=_;unfold bindC;rw [sI λv hv=>(aS3.mp nd).1 (aS4 hv).1,if_neg hk];simp
 | p::P,w::vs,i+1,m,nd,h1,h2,hk=>by
  show bindC kindOf ((p,w)::P.zip vs) m x=_;unfold bindC;exact sD (i:=i) (aS3.mp nd).2 (by simpa using h1) (by simpa using h2) hk
def iF (N:List Str) (vs:List V):St:=vs.map some++aN2 (N.length-vs.length) none
def wM (CX:CXT) (P:aVD) (w:aVH) (K:W.Frag) (mg:Str->Option Value) (base:Heap) (N:List Str) (qual:Str) (scope:aVV) (f:aVA) (cd:Value) (A:Around) (outer:List Env) (s:Shared) (H:Hp) (E:XK):Cx where
 prog:=P
 w:=w
 K:=K
 mg:=mg
 base:=base
 A:=A.deeper (aWJ qual scope s.heap.objs.size f cd)
 N:=N
 s₀:=s
 H₀:=H
 env:=aWJ qual scope s.heap.objs.size f cd
 outer:=outer
 stack:=aWJ qual scope s.heap.objs.size f cd::outer
 ex:=[]
 calm:=true
 fn:=λ_=>true
 pn:=[]
 xe:=λe s'=>aVC (aVG P w) (A.deeper (aWJ qual scope s.heap.objs.size f cd)) (leaving (aWJ qual scope s.heap.objs.size f cd) e) (λ_ s''=>CX outer H s E e s'') (λe' s''=>CX outer H s E e' s'') s'
theorem wE {sc:aVV} {n:Nat} {x:Str} (h:sc.names.lookup x=some .cell):∃c,(cellsFrom n sc.names []).lookup x=some c:=by
 have q:=W.cellsFrom_some sc.names n [] (.inl h);exact Option.isSome_iff_exists.mp q
theorem aC8 {CX:CXT} {P:aVD} {w:aVH} {K:W.Frag} {mg:Str->Option Value} {base:Heap} {N ps:List Str} {qual:Str} {scope:aVV} {f:aVA} {cd:Value} {A:Around} {outer:List Env} {s s1:Shared} {H:Hp} {E:XK} {us:List Value} {vs:List V}
  (S:aN N ps scope) (hd:A.handled=none) (e0:aI1 P w K mg base A outer s H) (hl:vs.length=ps.length) (r:bF vs us)
  (x:InCallC s s.heap.objs.size (bindL (aWJ qual scope s.heap.objs.size f cd).kindOf (ps.zip us) λ_=>none) (cellsFrom (s.heap.objs.size+1) scope.names []) (bindC (aWJ qual scope s.heap.objs.size f cd).kindOf (ps.zip us) λ_=>none) s1) :
  aT (wM CX P w K mg base N qual scope f cd A outer s H E) [] (iF N vs) H s1:=by
 have hpl:ps.length<=N.length:=by have:=congrArg List.length S.pre;rw [aMI] at this;omega
 obtain ⟨h1,tk,rfl,hk⟩:=x.done;have noA:∀b:aVA,b∉(wM CX P w K mg base N qual scope f cd A outer s H E).ex:=λb z=>absurd (show b∈([]:List aVA) from z) (by simp);refine ⟨⟨e0.mod,S.kind,rfl,rfl,aDP _,λy z c h1 h2=>?_,λy hy=>?_,λy c _ h=>?_,λ_=>hd,Around.frames_deeper e0.frames,.inr ⟨rfl,rfl⟩,λb z=>absurd z (noA b),e0.bs,e0.bsz,λb _ _=>noA b,λb z=>absurd z (noA b),e0.funs,e0.frf⟩,
  rfl,e0.bare,Un.kept hk,⟨_,x.toInCall.ns,λi y v h1 h2 h3=>?_⟩,λy c h=>⟨_,x.cell y c h⟩,e0.hok.fresh (aDP _),λy c h=>?_,λp hp=>absurd (show p∈([]:List (aVA×Obj)) from hp) (by simp),e0.hok.kept hk,?_⟩
 ·exact name_of_addr x.apart (PySem.mem_of_lookup h1) (PySem.mem_of_lookup h2)
 ·have hy:scope.names.lookup y=some .cell\/scope.names.lookup y=some .free:=hy;rcases hy with hy | hy
  ·exact wE hy
  ·exact absurd rfl (S.nofree _ (PySem.mem_of_lookup hy))
 ·exact aP1 (x.above y c (PySem.mem_of_lookup h))
 ·have hi:i<vs.length:=by
   unfold iF at h2
   by_cases hi:i<vs.length
   ·exact hi
   ·rw [aLZ (by simpa using hi)] at h2;rw [aUX] at h2;split at h2<;>cases h2
  have ha:vs[i]? = some v:=by
   unfold iF at h2;rw [aG6 (by simpa using hi),aDF] at h2;cases e:vs[i]? with
   | none=>rw [e] at h2;cases h2
   | some a=>rw [e] at h2;cases h2;rfl
  obtain ⟨u,hu,rv⟩:=r.get ha;have hp:ps[i]? = some y:=by
   rw [<-S.pre,aQ4 (by omega)];exact h1
  have ndP:ps.Nodup:=by rw [<-S.pre];exact S.nd.sublist (List.take_sublist _ _)
  refine ⟨u,rv,?_⟩;rcases S.par y (aFS hp) with k | k
  ·exact .inl ⟨k,sK ndP hp hu k⟩
  ·obtain ⟨c,e⟩:=wE (n:=s.heap.objs.size+1) k;refine .inr ⟨.inl k,c,e,?_⟩;have q:=x.cell y c e;rw [sD ndP hp hu (by show scope.names.lookup y≠_;rw [k];decide)] at q;exact q
 ·exact e0.hok.fresh (aP1 (x.above y c (PySem.mem_of_lookup h)))
 ·unfold iF;show _=N.length;rw [aIG,aBC,aTJ];omega
theorem aOC {CX:CXT} {P:aVD} {w:aVH} {K:W.Frag} {mg:Str->Option Value} {base:Heap} {k:Nat} {f:aVA} {name qual:Str} {params:Arguments} {body:List aVK} {scope:aVV} {dV kV doc pm cdv ct oc:Value} {an od:Option aVA}
  {osl:Array (Option Value)} {N ps:List Str} {sp:Sp} (lk:K.lookup f=some ⟨oc,od,.func (W.fnOf name qual params body scope dV kV doc pm an cdv ct),osl⟩) (hcd:W.codeIn K cdv qual=true) (S:aN N ps scope)
  (len:∀vs H Q E,sp vs H Q E->vs.length=ps.length)
  (hbody:∀(A:Around) (outer:List Env) (s:Shared) (H:Hp) (vs:List V) (Q:VK) (E:XK),dD k (A.deeper (aWJ qual scope s.heap.objs.size f cdv))->sp vs H Q E->
   ∃t,PSs (wM CX P w K mg base N qual scope f cdv A outer s H E) body t/\t { nx:=λ_ H'=>Q .non H',rt:=Q } (iF N vs) H) :
  bL P w K mg base CX (k+1) f (W.fnOf name qual params body scope dV kV doc pm an cdv ct) ps sp:=by
 refine ⟨len,λA outer s H args us vs Q E hr e0 hb r hsp=>?_⟩;have hl:=len _ _ _ _ hsp;have KX:K.In s.heap:=e0.mod.kin.keeps λb o e=>(e0.bs b o e).1;have lim:s.heap.NoLimit:=e0.mod.nolimit.keeps λb o e=>(e0.bs b o e).1;have hkind:∀y∈ps.zip us,scope.names.lookup y.1=some .local\/(scope.names.lookup y.1=some .cell/\((cellsFrom (s.heap.objs.size+1) scope.names []).lookup y.1).isSome=true):=λ⟨n,v⟩ hy=>by
  rcases S.par n (aS4 hy).1 with q | q
  ·exact .inl q
  ·exact .inr ⟨q,W.cellsFrom_some _ _ _ (.inl q)⟩
 refine codeAny_call_function hr.depth (KX _ _ lk) rfl S.co S.gen rfl (W.codeRec_of KX hcd) (hb _ _ _ _ ?_);refine wpAny_newFunctionEnv_cells S.kind hkind λenv he s1 x=>?_;subst he;refine ⟨lim.keeps x.toInCall.keep,codeAny_func ?_⟩;obtain ⟨t,ht,hq⟩:=hbody A outer s H vs Q E (hr.deeper _) hsp;have I:aT (wM CX P w K mg base N qual scope f cdv A outer s H E) [] (iF N vs) H s1:=aC8 S hr.hd e0 hl r x;refine aVR (ht [] s1 (iF N vs) H _ I hq) (λfl s' hs=>?_) λe s' hs=>hs;have fin:∀{σ':St} {H':Hp} {v:V} {u:Value},aT (wM CX P w K mg base N qual scope f cdv A outer s H E) [] σ' H' s'->bG v u->Q v H'->CE outer P w H s Q u s':=
  λ{σ' H' v u} J rv q=>⟨v,H',J.os,J.bare,J.base,J.hok,rv,q⟩
 cases fl with
 | ret u=>
  obtain ⟨v,σ',H',J,rv,q⟩:=hs;exact fin J rv q
 | next=>
  obtain ⟨σ',H',J,q⟩:=hs;exact fin (v:=V.non) (u:=aT1) J rfl q
 | brk=>
  obtain ⟨_,_,_,q⟩:=hs;exact False.elim q
 | cont=>
  obtain ⟨_,_,_,q⟩:=hs;exact False.elim q
section
variable {X:Cx} {x:Str} {p pos:Pos} {e:Expr} {es:List Expr} {t:TA} {id T:String} {r:List V->Hp->VK->Prop}
def tCB (r:List V->Hp->VK->Prop) (t:TA):TE:=λσ H Q=>t σ H λvs H1=>r vs H1 Q
theorem aDW (hc:fQ X (.builtin id) r) (hg:Gl X x) (hm:X.mg x=none) (hv:aVS x=some (.builtin id)) (ha:PA X (e::es) t) (hn:x≠"__name__":=by decide) (hdb:(x==("__debug__":Str))=false:=by decide)
  (he:aVL (e::es) X.env=(false,aVP e X.env)::aVL es X.env:=by rfl) (hpl:(aWI pos (aVL es X.env)).any (·.1)=false:=by rfl):PE X (.Call (.Name x p) (e::es) [] pos) (tCB r t):=by
 intro pins s σ H Q I h;refine aWR (nZ I hg hm hv ?_ hn hdb);exact PyProof.Rows.callWith_builtin1 (cF (ha pos pins s σ H _ I h) λus s1 ⟨vs,H1,I1,r1,q1⟩=>hc pins s1 σ H1 vs us Q I1 r1 q1) he hpl
theorem aBX (hc:fQ X (.type T) r) (hg:Gl X x) (hm:X.mg x=none) (hv:aVS x=some (.type T)) (ha:PA X (e::es) t) (hn:x≠"__name__":=by decide) (hdb:(x==("__debug__":Str))=false:=by decide)
  (he:aVL (e::es) X.env=(false,aVP e X.env)::aVL es X.env:=by rfl) (hpl:(aWI pos (aVL es X.env)).any (·.1)=false:=by rfl):PE X (.Call (.Name x p) (e::es) [] pos) (tCB r t):=by
 intro pins s σ H Q I h;refine aWR (nZ I hg hm hv ?_ hn hdb);exact PyProof.Rows.callWith_type1 (cF (ha pos pins s σ H _ I h) λus s1 ⟨vs,H1,I1,r1,q1⟩=>hc pins s1 σ H1 vs us Q I1 r1 q1) he hpl
end
end L2
namespace HT
open PySem PyProof.Rows
section
open PySem.SeqAt
open PySem.AutoSeq1 (wpAny_loadPart')
open PySem.MeetsSeq PySem.MeetsSeq2 PySem.MeetsSeq3
end
section
variable {prog:aVD} {w:aVH} {A:Around} {E:Value->Shared->Prop} {s:Shared}
def sIx (n d:Nat):Option Int->Nat
 | none=>d
 | some v=>if v<0 then (v+(n:Int)).toNat else min v.toNat n
theorem sIx_none (n d:Nat):sIx n d none=d:=rfl
theorem sIx_nat (n d k:Nat):sIx n d (some (k:Int))=min k n:=by
 show (if (k:Int)<0 then ((k:Int)+(n:Int)).toNat else min (k:Int).toNat n)=min k n;rw [if_neg (by omega),aQ8]
theorem aMN (n d:Nat) (hd:d<=n) (o:Option Int):sIx n d o<=n:=by
 cases o with
 | none=>exact hd
 | some v=>
  show (if v<0 then (v+(n:Int)).toNat else min v.toNat n)<=n
  by_cases hv:v<0
  ·rw [if_pos hv];omega
  ·rw [if_neg hv];exact Nat.min_le_right _ _
theorem aBN (v:Int) (n d:Nat):(if v<0 then max (v+(n:Int)) 0 else min v (n:Int))=((sIx n d (some v):Nat):Int):=by
 show (if v<0 then max (v+(n:Int)) 0 else min v (n:Int))=(((if v<0 then (v+(n:Int)).toNat else min v.toNat n):Nat):Int)
 by_cases hv:v<0
 ·simp only [if_pos hv];omega
 ·simp only [if_neg hv];omega
theorem yS (lo hi:Option Int) (n:Nat):Builtin.Slice.sliceAdjust lo hi 1 (n:Int)=(((sIx n 0 lo:Nat):Int),((sIx n n hi:Nat):Int)):=by
 have h1:¬((1:Int)<0):=by omega
 unfold Builtin.Slice.sliceAdjust;simp only [h1,if_false];refine Prod.ext ?_ ?_
 ·cases lo with
  | none=>rfl
  | some v=>exact aBN v n 0
 ·cases hi with
  | none=>rfl
  | some v=>exact aBN v n n
theorem yO (i j:Nat):Builtin.Slice.slicePlaces (i:Int) (j:Int) 1=j-i:=by
 unfold Builtin.Slice.slicePlaces;have h1:(1:Int)>0:=by omega
 simp only [h1,if_true,Int.ediv_one]
 split<;>omega
theorem qS {v:Value} {o:Option Int} {Q:Option Int->Shared->Prop} (p:IsPart v o) (h:Q o s):aVC (aVG prog w) A (Builtin.Slice.slicePartIndex v) Q E s:=by
 cases p with
 | none=>exact slicePart_none h
 | int i t=>exact slicePart_int h
theorem nE {sl:aVA} {vl vu:Value} {lo hi:Option Int} {n:Nat} {Q:Int×Int×Nat->Shared->Prop} (hs:s.heap.IsSliceOf sl vl vu .none) (pl:IsPart vl lo) (pu:IsPart vu hi)
  (h:Q (((sIx n 0 lo:Nat):Int),1,sIx n n hi-sIx n 0 lo) s):aVC (aVG prog w) A (Builtin.Slice.sliceApplied (.ref sl) (pure (n:Int))) Q E s:=by
 obtain ⟨os,hos,hcs,hds⟩:=id hs;unfold Builtin.Slice.sliceApplied Builtin.Slice.sliceFields;refine aVB (aVB (aVT hos hds (x:=vl) rfl (aVB (aVT hos hds (x:=vu) rfl (aVB (aVT hos hds (x:=.none) rfl (aVE ?_)))))));refine aVB (slicePart_none ?_);show aVC _ _ (if ((1:Int)==0)=true then _ else _) _ _ s;rw [if_neg (by decide)];refine aVB (qS pl (aVB (qS pu (aVB (aVE ?_)))));show aVC _ _ (match Builtin.Slice.sliceAdjust lo hi 1 (n:Int) with | (lo,hi)=>pure (lo,(1:Int),Builtin.Slice.slicePlaces lo hi 1)) _ _ s;rw [yS lo hi n];show aVC _ _ (pure (((sIx n 0 lo:Nat):Int),(1:Int),Builtin.Slice.slicePlaces ((sIx n 0 lo:Nat):Int) ((sIx n n hi:Nat):Int) 1)) _ _ s;rw [yO];exact aVE h
theorem aEV (xs:Array Value) (i k:Nat):((aS1 k).filterMap λ(m:Nat)=>xs[((i:Int)+(m:Int)*1).toNat]?).toArray=((xs.toList.drop i).take k).toArray:=by
 have e:(λ(m:Nat)=>xs[((i:Int)+(m:Int)*1).toNat]?)=λm=>xs[i+m]?:=by
  funext m
  have:((i:Int)+(m:Int)*1).toNat=i+m:=by omega
  rw [this]
 rw [e];have:=pick_run xs i k;rw [List.filterMap_map] at this;have e2:((λx=>xs[x]?)∘λx=>i+x)=λm=>xs[i+m]?:=rfl;rw [e2] at this;rw [this]
theorem getItem_tuple_cut {t sl:aVA} {items:Array Value} {vl vu:Value} {lo hi:Option Int} {Q:Value->Shared->Prop} (ht:IsTup s.heap t items) (hs:s.heap.IsSliceOf sl vl vu .none) (pl:IsPart vl lo) (pu:IsPart vu hi)
  (hw:¬(sIx items.size 0 lo=0/\sIx items.size items.size hi=items.size))
  (h:Q (.ref s.heap.objs.size) { s with heap:=s.heap.push { cls:=.type "tuple",data:=.seq ((items.toList.drop (sIx items.size 0 lo)).take (sIx items.size items.size hi-sIx items.size 0 lo)).toArray } })
  (hsz:items.size<=aVI):aVC (aVG prog w) A (aWQ (.ref t) (.ref sl)) Q E s:=by
 have htake:sizeOk (.seq ((items.toList.drop (sIx items.size 0 lo)).take (sIx items.size items.size hi-sIx items.size 0 lo)).toArray):=by
  show ((items.toList.drop (sIx items.size 0 lo)).take (sIx items.size items.size hi-sIx items.size 0 lo)).toArray.size<=aVI;rw [aF0,aMI,aTO,aTC];omega
 have hj:sIx items.size items.size hi<=items.size:=aMN _ _ (aDP _) hi;obtain ⟨os,hos,hcs,hds⟩:=id hs;have hTs:s.TypeIs (.ref sl) "slice":=⟨os,hos,hcs⟩;unfold aWQ
 try with_reducible refine aWL ?_
 first | refine aVB (aVE ?_) | skip
 refine aVB (wpAny_sequenceKey ht.typeIs (by decide) ?_);refine aVB (wpAny_callSpecial?_slot (name:=aTK "__getitem__") ht.typeIs PyProof.Rows.slot_tuple_getitem
  (aWA PyProof.Rows.slot_tuple_getitem ht.typeIs entry_tuple_getitem ?_ (args_tuple_getitem _ _)))
 show aVC _ _ (Builtin.Tuple.tupleItemsOf (.ref t) >>= _) _ _ s;refine aVB (tupleItemsOf_ ht ?_);refine aVB (wpAny_typeOf hTs ?_);rw [if_pos (by decide)];refine aVB (nE hs pl pu ?_);have hno:¬((((sIx items.size 0 lo:Nat):Int)==0&&(1:Int)==1&&(sIx items.size items.size hi-sIx items.size 0 lo)==items.size)=true):=by
  intro q;rw [aLI,aLI] at q;have q1:((sIx items.size 0 lo:Nat):Int)=0:=eq_of_beq q.1.1;have q2:sIx items.size items.size hi-sIx items.size 0 lo=items.size:=eq_of_beq q.2;exact hw ⟨by omega,by omega⟩
 show aVC _ _ (if (((sIx items.size 0 lo:Nat):Int)==0&&(1:Int)==1&&(sIx items.size items.size hi-sIx items.size 0 lo)==items.size)=true then _ else _) _ _ s;rw [if_neg hno,aEV]
 first
  | exact aVB (m:=Builtin.Tuple.tupleExact _) (aVQ (aVE ⟨_,rfl,aVE h⟩) htake)
  | exact aVB (m:=Builtin.Tuple.tupleExact _) (aVQ (aVB (aVE (aVE ⟨_,rfl,aVE h⟩))) htake)
  | exact aVB (aVB (m:=Builtin.Tuple.tupleExact _) (aVQ (aVE (aVE ⟨_,rfl,aVE h⟩)) htake))
  | exact aVB (aVB (m:=Builtin.Tuple.tupleExact _) (aVQ (aVE ⟨_,rfl,aVE h⟩) htake))
end
end HT
namespace L2
open PySem PySem.Spec PyProof.Rows
abbrev TO:=St->Hp->(Option Int->Hp->Prop)->Prop
def PO (X:Cx) (e:Option Expr) (t:TO):Prop:=
 ∀(pins:List (aVA×Obj)) (s:Shared) (σ:St) (H:Hp) (Q:Option Int->Hp->Prop),aT X pins σ H s->t σ H Q->
  aVC (aVG X.prog X.w) X.A (evalPart e X.env) (λu s'=>∃o H',aT X pins σ H' s'/\IsPart u o/\Q o H') X.xe s
def aA3:TO:=λ_ H Q=>Q none H
def aK1 (t:TE):TO:=λσ H Q=>t σ H λx H1=>∃i,x = .int i/\Q (some i) H1
section
variable {X:Cx} {e:Expr} {te:TE} {lo hi:Option Expr} {tl th:TO} {pos p2:Pos}
theorem aHK:PO X none aA3:=by
 intro pins s σ H Q I h;rw [evalPart_none];exact aVE ⟨none,H,I,.none,h⟩
theorem aIT (h:PE X e te):PO X (some e) (aK1 te):=by
 intro pins s σ H Q I hw;rw [evalPart_some];refine cF (h pins s σ H _ I hw) λu s1 ⟨x,H1,I1,r1,q1⟩=>?_;obtain ⟨i,rfl,q⟩:=q1;obtain ⟨t,rfl⟩:=r1;exact ⟨some i,H1,I1,.int i t,q⟩
def SlR (X:Cx) (r:V->Option Int->Option Int->Hp->VK->Prop):Prop:=
 ∀(pins:List (aVA×Obj)) (s:Shared) (σ:St) (H:Hp) (x:V) (v vl vu:Value) (lo hi:Option Int) (sl:aVA) (Q:VK),aT X pins σ H s->bG x v->s.heap.IsSliceOf sl vl vu .none->IsPart vl lo->IsPart vu hi->r x lo hi H Q->
  ∃T id,typeLookup (.type T) "__getitem__" = pure (some (.builtin id))/\s.TypeIs v T/\aVC (aVG X.prog X.w) X.A (aWQ v (.ref sl)) (EP X pins σ Q) X.xe s
def tSl (r:V->Option Int->Option Int->Hp->VK->Prop) (te:TE) (tl th:TO):TE:=λσ H Q=>te σ H λx H1=>tl σ H1 λl H2=>th σ H2 λu H3=>r x l u H3 Q
theorem aF7 {r:V->Option Int->Option Int->Hp->VK->Prop} (hr:SlR X r) (he:PE X e te) (hl:PO X lo tl) (hu:PO X hi th):PE X (.Subscript e (.Slice lo hi none p2) pos) (tSl r te tl th):=by
 intro pins s σ H Q I h;refine Subscript_ (cF (he pins s σ H _ I h) λv s1 ⟨x,H1,I1,r1,q1⟩=>?_);refine wpAny_Slice (cF (hl pins s1 σ H1 _ I1 q1) λvl s2 ⟨l,H2,I2,pl,q2⟩=>cF (hu pins s2 σ H2 _ I2 q2) λvu s3 ⟨u,H3,I3,pu,q3⟩=>?_);rw [evalPart_none];refine aVE ?_;have I4:aT X pins σ H3 { s3 with heap:=s3.heap.push { cls:=.type "slice",data:=.fields #[vl,vu,.none] } }:=I3.kept (t':=s3.toks) λb ob q=>aDA _ q;obtain ⟨T,id,hT,ht,hg⟩:=hr pins { s3 with heap:=s3.heap.push { cls:=.type "slice",data:=.fields #[vl,vu,.none] } } σ H3 x v vl vu l u s3.heap.objs.size Q I4 r1 (Heap.IsSliceOf.new ..) pl pu q3;show aVC (aVG X.prog X.w) X.A (subscriptTail e (.Slice lo hi none p2) v (.ref s3.heap.objs.size)) (EP X pins σ Q) X.xe { s3 with heap:=s3.heap.push { cls:=.type "slice",data:=.fields #[vl,vu,.none] } };exact tail_any (ops:=[.ref s3.heap.objs.size,v]) ht hT hg (by with_unfolding_all rfl)
def vL (xs:List V) (lo hi:Option Int):List V:=(xs.drop (HT.sIx xs.length 0 lo)).take (HT.sIx xs.length xs.length hi-HT.sIx xs.length 0 lo)
theorem oO (xs:List V) (lo hi:Option Int):(vL xs lo hi).length<=xs.length:=by
 unfold vL;rw [aMI,aTO];omega
def aR5 (K:W.Frag):V->Option Int->Option Int->Hp->VK->Prop:=λx lo hi H Q=>∃a xs,x = .ref a/\rL K H a xs/\
 ¬(HT.sIx xs.length 0 lo=0/\HT.sIx xs.length xs.length hi=xs.length)/\∀p,H p=none->Q (.ref p) (upd H p (.tup (vL xs lo hi)))
theorem aM8:SlR X (aR5 X.K):=by
 intro pins s σ H x v vl vu lo hi sl Q I rx hs pl pu h;obtain ⟨a,xs,rfl,hx,hw,q⟩:=h;cases rx;obtain ⟨its,r,ht,hz⟩:=I.tuple hx;have hlen:its.toArray.size=xs.length:=by rw [aF0];exact r.length.symm
 refine ⟨"tuple",_,PyProof.Rows.slot_tuple_getitem.lookup,ht.typeIs,?_⟩;refine HT.getItem_tuple_cut ht hs pl pu (by rw [hlen];exact hw) ?_ (by rw [hlen];exact hz);rw [hlen];refine ⟨.ref s.heap.objs.size,_,I.laid (t':=s.toks) (o:=.tup (vL xs lo hi)) (λb ob q=>aDA _ q) (aDP _) ?_,rfl,q _ (I.hok.fresh (aDP _))⟩;exact ⟨aPW (oO xs lo hi) hz,_,(r.drop (HT.sIx xs.length 0 lo)).take (HT.sIx xs.length xs.length hi-HT.sIx xs.length 0 lo),IsTup.new _ _⟩
end
def xQ (n:Nat) (i:Int):Option Nat:=if 0<=i then (if i<n then some i.toNat else none) else if -(n:Int)<=i then some (i+n).toNat else none
def e8 {α:Type} (xs:List α) (i:Int):Option α:=(xQ xs.length i).bind λj=>xs[j]?
theorem aAZ {n:Nat} {i:Int} {j:Nat} (h:xQ n i=some j):seqIndex? i n=some j/\j<n/\-(n:Int)<=i/\i<n:=by
 unfold xQ at h
 by_cases h0:0<=i
 ·rw [if_pos h0] at h
  by_cases h1:i<n
  ·rw [if_pos h1] at h;have e:i.toNat=j:=Option.some.inj h;exact ⟨by rw [seqIndex_of h0 h1,e],by omega,by omega,h1⟩
  ·rw [if_neg h1] at h;cases h
 ·rw [if_neg h0] at h
  by_cases h1:-(n:Int)<=i
  ·rw [if_pos h1] at h;have e:(i+n).toNat=j:=Option.some.inj h;exact ⟨by rw [seqIndex_neg (by omega) h1,e],by omega,h1,by omega⟩
  ·rw [if_neg h1] at h;cases h
theorem sQ {α:Type} {xs:List α} {i:Int} {v:α} (h:e8 xs i=some v):∃j,seqIndex? i xs.length=some j/\xs[j]? = some v/\j<xs.length/\-(xs.length:Int)<=i/\i<xs.length:=by
 unfold e8 at h;cases e:xQ xs.length i with
 | none=>rw [e] at h;cases h
 | some j=>
  rw [e] at h;obtain ⟨h1,h2,h3,h4⟩:=aAZ e;exact ⟨j,h1,h,h2,h3,h4⟩
theorem pF {α:Type} {xs:List α} {j:Nat} {v:α} (h:xs[j]? = some v):e8 xs (j:Int)=some v:=by
 have hj:j<xs.length:=(aA7.mp h).1;have e:xQ xs.length (j:Int)=some j:=by
  unfold xQ;rw [if_pos (by omega),if_pos (by omega)];simp
 unfold e8;rw [e];exact h
def o7 (b:Expr):Prop:=∀o i,aWV b false o i=operate [o,i] (aWQ o i)
def IxR (X:Cx) (r:R2):Prop:=
 ∀(value slice:Expr) (pins:List (aVA×Obj)) (s:Shared) (σ:St) (H:Hp) (x y:V) (v u:Value) (Q:VK),aT X pins σ H s->bG x v->bG y u->r x y H Q->
  aWV slice false v u=operate [v,u] (aWQ v u)->aVC (aVG X.prog X.w) X.A (subscriptTail value slice v u) (EP X pins σ Q) X.xe s
def MtR (X:Cx) (id:String) (r:V->List V->Hp->VK->Prop):Prop:=
 ∀(pins:List (aVA×Obj)) (s:Shared) (σ:St) (H:Hp) (x:V) (xs:List V) (v:Value) (us:List Value) (Q:VK),aT X pins σ H s->bG x v->bF xs us->r x xs H Q->
  aVC (aVG X.prog X.w) X.A (call (.builtin id) (v::us)) (EP X pins σ Q) X.xe s
section
variable {X:Cx} {a b:Expr} {ta tb:TE} {pos:Pos}
theorem IxR.or {r r':R2} (h:IxR X r) (h':IxR X r'):IxR X (λx y H Q=>r x y H Q\/r' x y H Q):=by
 intro value slice pins s σ H x y v u Q I rx ry q hs;rcases q with q | q
 ·exact h value slice pins s σ H x y v u Q I rx ry q hs
 ·exact h' value slice pins s σ H x y v u Q I rx ry q hs
theorem aQO {r:R2} (hr:IxR X r) (ha:PE X a ta) (hb:PE X b tb) (hs:o7 b):PE X (.Subscript a b pos) (tOp r ta tb):=by
 intro pins s σ H Q I h;exact Subscript_ (aNY ha hb I h λv u s2 x y H2 I2 rx ry q=>hr a b pins s2 σ H2 x y v u Q I2 rx ry q (hs _ _))
def aQC (K:W.Frag):R2:=λx y H Q=>∃p xs i v,x = .ref p/\y = .int i/\iU K H p xs/\e8 xs i=some v/\Q v H
def aQ0 (K:W.Frag):R2:=λx y H Q=>∃p xs i v,x = .ref p/\y = .int i/\rL K H p xs/\e8 xs i=some v/\Q v H
def aPE:R2:=λx y H Q=>∃z i c,x = .str z/\y = .int i/\z.length<=aVI/\e8 z.cps.toList i=some c/\Q (.str ⟨#[c]⟩) H
theorem aI4:IxR X (aQC X.K):=by
 intro value slice pins s σ H x y v u Q I rx ry h hs;obtain ⟨p,xs,i,z,rfl,rfl,hq,he,q⟩:=h;cases rx;obtain ⟨t,rfl⟩:=ry;obtain ⟨its,r,pl,hz⟩:=I.list hq;obtain ⟨j,h1,h2,h3,h4,h5⟩:=sQ he;obtain ⟨w,ew,rw'⟩:=r.get h2;have hl:=r.length;have hn:=qP;have fin:EP X pins σ Q w s:=⟨z,H,I,rw',q⟩
 by_cases h0:0<=i
 ·have hj:i.toNat=j:=by
   rw [seqIndex_of h0 h5] at h1;exact Option.some.inj h1
  exact item_listR pl.isList h0 (by omega) (by rw [hj];simpa using ew) fin hs
 ·have hj:(i+(its.toArray.size:Int)).toNat=j:=by
   rw [seqIndex_neg (by omega) h4] at h1;rw [aF0,<-hl];exact Option.some.inj h1
  exact subscriptTail_builtinR (x:=w) pl.isList.typeIs slot_list_getitem.lookup
   (wpAny_getItem_list_neg (Q:=λr s'=>r=w/\EP X pins σ Q r s') pl.isList (by omega) (by rw [aF0]<;>omega) (by omega) (by rw [hj];simpa using ew) ⟨rfl,fin⟩) hs
theorem aLR:IxR X (aQ0 X.K):=by
 intro value slice pins s σ H x y v u Q I rx ry h hs;obtain ⟨p,xs,i,z,rfl,rfl,hq,he,q⟩:=h;cases rx;obtain ⟨t,rfl⟩:=ry;obtain ⟨its,r,pl,hz⟩:=I.tuple hq;obtain ⟨j,h1,h2,h3,h4,h5⟩:=sQ he;obtain ⟨w,ew,rw'⟩:=r.get h2;have hl:=r.length;have hn:=qP;have fin:EP X pins σ Q w s:=⟨z,H,I,rw',q⟩;exact subscriptTail_builtinR (x:=w) pl.typeIs slot_tuple_getitem.lookup
  (getItem_tuple (j:=j) (Q:=λr s'=>r=w/\EP X pins σ Q r s') pl (by omega) (by omega) (by rw [aF0,<-hl];exact h1) (by simpa using ew) ⟨rfl,fin⟩) hs
theorem aLL:IxR X aPE:=by
 intro value slice pins s σ H x y v u Q I rx ry h hs;obtain ⟨z,i,c,rfl,rfl,hz,he,q⟩:=h;obtain ⟨t,rfl⟩:=rx;obtain ⟨t',rfl⟩:=ry;obtain ⟨j,h1,h2,h3,h4,h5⟩:=sQ he;have hl:z.cps.toList.length=z.length:=by simp [Str.length]
 rw [hl] at h1 h4 h5;have hn:=qP;exact tail_any (typeIs_str s z t) slot_str_getitem.lookup (getItem_str (c:=c) (by
  have e1:decide (i < -(2^63:Int))=false:=decide_eq_false (by omega);have e2:decide (i>=2^63)=false:=decide_eq_false (by omega);rw [e1,e2,Bool.or_false]) (by rw [h1];simpa using h2) ⟨.str ⟨#[c]⟩,H,I.tok _,⟨_,rfl⟩,q⟩) hs
def rIx (K:W.Frag):R2:=λx y H Q=>aQC K x y H Q\/aQ0 K x y H Q\/aPE x y H Q
theorem aGL:IxR X (rIx X.K):=aI4.or (aLR.or aLL)
theorem xT (its:List Value) (n j:Nat) (u:Value):aRH (·.setIfInBounds j u) { cls:=.type "list",data:=.seq its.toArray n } = { cls:=.type "list",data:=.seq (its.set j u).toArray n }:=by
 simp [aRH]
theorem aT.lst {pins:List (aVA×Obj)} {σ:St} {H:Hp} {s:Shared} {p:aVA} {xs:List V} (I:aT X pins σ H s) (h:H p=some (.lst xs)) :
  ∃(its:List Value) (n:Nat),bF xs its/\s.heap.get? p=some { cls:=.type "list",data:=.seq its.toArray n }/\xs.length<=aVI:=by
 obtain ⟨z,its,n,r,e⟩:=I.hok p _ h;exact ⟨its,n,r,e,z⟩
theorem aT.lstUpd {pins:List (aVA×Obj)} {σ:St} {H:Hp} {s:Shared} {p:aVA} {xs ys:List V} {its its':List Value} {n n':Nat} {f:Obj->Obj} (I:aT X pins σ H s) (h:H p=some (.lst xs))
  (ho:s.heap.get? p=some { cls:=.type "list",data:=.seq its.toArray n }) (hf:f { cls:=.type "list",data:=.seq its.toArray n } = { cls:=.type "list",data:=.seq its'.toArray n' }) (r:bF ys its') (hz:ys.length<=aVI) (t:Nat) :
  aT X pins σ (upd H p (.lst ys)) { s with heap:=s.heap.update p f,toks:=t }:=by
 have e:(s.heap.update p f).get? p=some { cls:=.type "list",data:=.seq its'.toArray n' }:=by
  rw [aTL f ho (by rw [hf]<;>rfl),hf]
 refine I.write (x:=p) (e:=p) (by rw [h];trivial) (.inl rfl) (λb u hb q=>(aU1 _ _ (Ne.symm hb)).trans q) ⟨_,e⟩ ?_;exact ⟨hz,its',n',r,e⟩
def aPY:V->V->V->Hp->(Hp->Prop)->Prop:=λo i v H Q=>∃p xs k j,o = .ref p/\i = .int k/\H p=some (.lst xs)/\xQ xs.length k=some j/\Q (upd H p (.lst (xs.set j v)))
theorem aD8:aMK X aPY:=by
 intro pins s σ H o i v ov iv u Q I ro ri rv h;obtain ⟨p,xs,k,j,rfl,rfl,hp,hj,q⟩:=h;cases ro;obtain ⟨t,rfl⟩:=ri;obtain ⟨its,n,r,ho,hz⟩:=I.lst hp;obtain ⟨h1,h2,h3,h4⟩:=aAZ hj;have hl:=r.length;have hn:=qP;have I':aT X pins σ (upd H p (.lst (xs.set j v))) { s with heap:=s.heap.update p (aRH (·.setIfInBounds j u)) }:=
  I.lstUpd hp ho (xT its n j u) (r.set rv j) (by rw [aT8];exact hz) s.toks
 by_cases h0:0<=k
 ·have hk:k.toNat=j:=by
   rw [seqIndex_of h0 h4] at h1;exact Option.some.inj h1
  exact W.ki_setAt ho h0 (by omega) (by rw [aF0,<-hl];exact h4) (by rw [hk];exact ⟨_,I',q⟩)
 ·have hk:(k+(its.toArray.size:Int)).toNat=j:=by
   rw [seqIndex_neg (by omega) h3] at h1;rw [aF0,<-hl];exact Option.some.inj h1
  exact W.ki_setBack ho (by omega) (by rw [aF0,<-hl];exact h3) (by omega) (by rw [hk];exact ⟨_,I',q⟩)
theorem u0 (lo hi:Option Int) (n:Nat):(aWC lo hi none n).1=((HT.sIx n 0 lo:Nat):Int)/\(aWC lo hi none n).2.1=((HT.sIx n n hi:Nat):Int)/\(aWC lo hi none n).2.2=1:=by
 refine ⟨?_,?_,rfl⟩
 ·cases lo with
  | none=>simp [aWC,HT.sIx]
  | some i=>
   simp only [aWC,HT.sIx,Option.getD_none,show (1:Int)>0 by decide,if_true]
   by_cases h:i<0
   ·simp only [h,if_true]<;>omega
   ·simp only [h,if_false]<;>omega
 ·cases hi with
  | none=>simp [aWC,HT.sIx]
  | some i=>
   simp only [aWC,HT.sIx,Option.getD_none,show (1:Int)>0 by decide,if_true]
   by_cases h:i<0
   ·simp only [h,if_true]<;>omega
   ·simp only [h,if_false]<;>omega
theorem rD (its:List Value) (lo hi:Option Int):slicePick its.toArray lo hi none=((its.drop (HT.sIx its.length 0 lo)).take (HT.sIx its.length its.length hi-HT.sIx its.length 0 lo)).toArray:=by
 obtain ⟨h1,h2,h3⟩:=u0 lo hi its.toArray.size;unfold slicePick;rw [h1,h2,h3];simp only [sliceRange_one,pick_run,aF0]<;>rfl
def aRS (K:W.Frag):V->Option Int->Option Int->Hp->VK->Prop:=λx lo hi H Q=>∃a xs,x = .ref a/\iU K H a xs/\∀p,H p=none->Q (.ref p) (upd H p (.lst (vL xs lo hi)))
theorem aJJ:SlR X (aRS X.K):=by
 intro pins s σ H x v vl vu lo hi sl Q I rx hs pl pu h;obtain ⟨a,xs,rfl,hx,q⟩:=h;cases rx;obtain ⟨its,r,ht,hz⟩:=I.list hx;have hlen:=r.length;refine ⟨"list",_,slot_list_getitem.lookup,ht.isList.typeIs,?_⟩;refine wpAny_getItem_list_slice ht.isList hs pl pu .none (by simp) ?_ (by rw [aF0]<;>omega);rw [rD,<-hlen];refine ⟨.ref s.heap.objs.size,_,I.laid (t':=s.toks) (o:=.lst (vL xs lo hi)) (λb ob q=>aDA _ q) (aDP _) ?_,rfl,q _ (I.hok.fresh (aDP _))⟩;exact ⟨aPW (oO xs lo hi) hz,_,0,(r.drop (HT.sIx xs.length 0 lo)).take (HT.sIx xs.length xs.length hi-HT.sIx xs.length 0 lo),aG4 _ rfl⟩
theorem tJ:fQ X (.builtin "len") (λxs H Q=>∃p ys,xs=[.ref p]/\(iU X.K H p ys\/rL X.K H p ys)/\Q (.int ys.length) H):=by
 intro pins s σ H xs us Q I r h;obtain ⟨p,ys,rfl,hq,q⟩:=h;obtain ⟨u,rfl,rx⟩:=oM r;cases rx;have hn:=qP;rcases hq with hq | hq
 ·obtain ⟨its,r',pl,hz⟩:=I.list hq;have hlen:=r'.length;exact Calls.call_len_list pl.isList (by simp only [aF0]<;>omega) ⟨.int ys.length,H,I.tok _,⟨s.toks+1,by rw [aF0,hlen]⟩,q⟩
 ·obtain ⟨its,r',pl,hz⟩:=I.tuple hq;have hlen:=r'.length;exact len_tuple pl (by simp only [aF0]<;>omega) ⟨.int ys.length,H,I.tok _,⟨s.toks+1,by rw [aF0,hlen]⟩,q⟩
theorem sV:fQ X (.type "list") (λxs H Q=>∃p ys,xs=[.ref p]/\(iU X.K H p ys\/rL X.K H p ys)/\∀l,H l=none->Q (.ref l) (upd H l (.lst ys))):=by
 intro pins s σ H xs us Q I r h;obtain ⟨p,ys,rfl,hq,q⟩:=h;obtain ⟨u,rfl,rx⟩:=oM r;cases rx;have fin:∀(its:List Value),bF ys its->ys.length<=aVI->∀(h':Heap) (c':Nat),(∀b o',s.heap.get? b=some o'->h'.get? b=some o')->
   h'.get? s.heap.objs.size=some { cls:=.type "list",dict:=none,data:=.seq its.toArray c',slots:=#[] }->EP X pins σ Q (.ref s.heap.objs.size) { s with heap:=h' }:=λits r' hz h' c' kp e=>
  ⟨.ref s.heap.objs.size,_,I.laid (t':=s.toks) kp (aDP _) (show c8 X.prog X.w _ h' _ (.lst ys) from ⟨hz,its,c',r',e⟩),rfl,q _ (I.hok.fresh (aDP _))⟩
 rcases hq with hq | hq
 ·obtain ⟨its,r',pl,hz⟩:=I.list hq;have hlen:=r'.length;obtain ⟨o,ho,hc,n,hd⟩:=pl.isList;exact call_list_seq p (.inl rfl) ho hc hd (λh' c' kp e=>fin its r' hz h' c' kp e) (by simp only [aF0]<;>omega)
 ·obtain ⟨its,r',pl,hz⟩:=I.tuple hq;have hlen:=r'.length;obtain ⟨o,ho,hc,n,hd⟩:=pl;exact call_list_seq p (.inr rfl) ho hc hd (λh' c' kp e=>fin its r' hz h' c' kp e) (by simp only [aF0]<;>omega)
theorem rC:fQ X (.type "tuple") (λxs H Q=>∃p ys,xs=[.ref p]/\((iU X.K H p ys/\∀l,H l=none->Q (.ref l) (upd H l (.tup ys)))\/(rL X.K H p ys/\Q (.ref p) H))):=by
 intro pins s σ H xs us Q I r h;obtain ⟨p,ys,rfl,h⟩:=h;obtain ⟨u,rfl,rx⟩:=oM r;cases rx;rcases h with ⟨hq,q⟩ | ⟨hq,q⟩
 ·obtain ⟨its,r',pl,hz⟩:=I.list hq;have hlen:=r'.length;refine call_tuple_list pl.isList (λh' kp=>?_) (by simp only [aF0]<;>omega);have I1:aT X pins σ H { s with heap:=h' }:=I.kept (t':=s.toks) kp;have I2:aT X pins σ (upd H h'.objs.size (.tup ys)) { s with heap:=h'.push { cls:=.type "tuple",data:=.seq its.toArray } }:=
   I1.laid (t':=s.toks) (λb o e=>aDA _ e) (aDP _) (show c8 X.prog X.w _ _ _ (.tup ys) from ⟨hz,its,r',IsTup.new _ _⟩)
  exact ⟨.ref h'.objs.size,_,I2,rfl,q _ (I1.hok.fresh (aDP _))⟩
 ·obtain ⟨its,r',pl,hz⟩:=I.tuple hq;exact call_tuple_same pl ⟨.ref p,H,I,rfl,q⟩
def tyV (K:W.Frag) (T:String) (x:V) (H:Hp):Prop:=match x with
 | .str _=>T = "str"
 | .int _=>T = "int"
 | .ref p=>(T = "list"/\∃xs,iU K H p xs)\/(T = "tuple"/\∃o,K.lookup p=some o/\o.cls = .type "tuple"/\o.dict=none)\/
   (T = "dict"/\((∃kvs,H p=some (.dK kvs))\/∃kvs,H p=some (.dT kvs)))\/(T = "set"/\∃S n,H p=some (.set S n))
 | _=>False
theorem aLM {pins:List (aVA×Obj)} {σ:St} {H:Hp} {s:Shared} {T:String} {x:V} {v:Value} (I:aT X pins σ H s) (r:bG x v) (ty:tyV X.K T x H) :
  s.TypeIs v T/\∀a,v = .ref a->∃ob,s.heap.get? a=some ob/\ob.dict=none:=by
 cases x with
 | str z=>
  obtain ⟨t,rfl⟩:=r;cases (show T = "str" from ty);exact ⟨typeIs_str s z t,λ_ e=>nomatch e⟩
 | int i=>
  obtain ⟨t,rfl⟩:=r;cases (show T = "int" from ty);exact ⟨typeIs_int s i t,λ_ e=>nomatch e⟩
 | ref p=>
  cases r;rcases ty with ⟨rfl,xs,hq⟩ | ⟨rfl,o,hk,hc,hd⟩ | ⟨rfl,hk⟩ | ⟨rfl,S,n,hk⟩
  ·obtain ⟨its,_,pl,_⟩:=I.list hq;refine ⟨pl.isList.typeIs,λa e=>?_⟩;cases e;obtain ⟨o,n,e,c,hd,_⟩:=pl;exact ⟨o,e,hd⟩
  ·refine ⟨⟨o,I.kIn p o hk,hc⟩,λa e=>?_⟩;cases e;exact ⟨o,I.kIn _ o hk,hd⟩
  ·have z:∃o,s.heap.get? p=some o/\o.ExactDict:=by
    rcases hk with ⟨kvs,hk⟩ | ⟨kvs,hk⟩
    ·obtain ⟨_,_,_,_,o,_,_,e,ex,_⟩:=I.hok p _ hk;exact ⟨o,e,ex⟩
    ·obtain ⟨_,_,_,_,o,_,_,e,ex,_⟩:=I.hok p _ hk;exact ⟨o,e,ex⟩
   obtain ⟨o,e,ex⟩:=z;refine ⟨⟨o,e,ex.1⟩,λa e2=>?_⟩;cases e2;exact ⟨o,e,ex.2.1⟩
  ·obtain ⟨o,_,_,_,e,ex,_⟩:=I.hok p _ hk;refine ⟨⟨o,e,ex.1⟩,λa e2=>?_⟩;cases e2;exact ⟨o,e,ex.2.1⟩
 | _=>exact False.elim ty
def tBM (K:W.Frag) (T:String) (r:V->List V->Hp->VK->Prop) (to:TE) (t:TA):TE:=λσ H Q=>to σ H λx H1=>tyV K T x H1/\t σ H1 λxs H2=>r x xs H2 Q
variable {o e:Expr} {es:List Expr} {to:TE} {t:TA} {name:Str} {apos cpos:Pos} {T id:String} {r:V->List V->Hp->VK->Prop}
theorem aAD (pa:PlainAttrs T) (slot:Slot T name id) (hty:typeOf (.builtin id)=pure (.type "method_descriptor")) (hm:MtR X id r) (ho:PE X o to) (ha:PA X (e::es) t)
  (hbase:aVZ o name X.env (aVP o X.env)=aVP o X.env:=by rfl)
  (hfew:((aWI cpos (aVL (e::es) X.env)).all (λx=>!x.1)&&(backToKw cpos (keywordEach [] X.env)).all (λx=>x.1.isSome)
  &&decide ((e::es).length+([]:List Keyword).length+(if ([]:List Keyword).isEmpty then 0 else 1)<30))=true:=by rfl)
  (hline:(apos.endLine==cpos.line)=true:=by rfl) (hs:aVL (e::es) X.env=(false,aVP e X.env)::aVL es X.env:=by rfl) (hplain:(aWI cpos (aVL es X.env)).any (·.1)=false:=by rfl) :
  PE X (.Call (.Attribute o name apos) (e::es) [] cpos) (tBM X.K T r to t):=by
 intro pins s σ H Q I h;refine wpAny_Call_method_late hbase hfew hline rfl (cF (ho pins s σ H _ I h) λv s1 ⟨x,H1,I1,r1,ty,q1⟩=>?_);obtain ⟨h1,h2⟩:=aLM I1 r1 ty;refine ⟨T,id,pa,slot,hty,h1,h2,?_⟩;have hA:=ha cpos pins s1 σ H1 _ I1 q1;rw [hs] at hA ⊢;refine Calls.callWith_builtin (by show (false||(aWI cpos (aVL es X.env)).any (·.1))=false;rw [hplain]<;>rfl) (Calls.evalArgs_plain ?_);exact cF hA λus s2 ⟨vs,H2,I2,r2,q2⟩=>hm pins s2 σ H2 x vs v us Q I2 r1 r2 q2
/- xs.append(e),list.index on a module's tuple .. are MtR facts of 06m -/
end
def MtM (X:Cx) (id:String) (r:V->List V->Hp->VK->Prop):Prop:=
 ∀(pins:List (aVA×Obj)) (s:Shared) (σ:St) (H:Hp) (x:V) (xs:List V) (v:Value) (us:List Value) (Q:VK),aT X pins σ H s->bG x v->bF xs us->r x xs H Q->
  aVC (aVG X.prog X.w) X.A (call (.builtin id) (v::us)) (EP X pins σ Q) X.xe s
theorem bF.one:∀{x:V} {us:List Value},bF [x] us->∃u,us=[u]/\bG x u
 | _,_,.cons r .nil=>⟨_,rfl,r⟩
theorem bF.two:∀{x y:V} {us:List Value},bF [x,y] us->∃u v,us=[u,v]/\bG x u/\bG y v
 | _,_,_,.cons r (.cons q .nil)=>⟨_,_,rfl,r,q⟩
section
variable {X:Cx} {pins:List (aVA×Obj)} {σ:St} {H:Hp} {s:Shared} {l b:aVA} {xs ys zs:List V}
theorem aT.lset {its its':List Value} {n:Nat} {f:Array Value->Array Value} {t':Nat} (I:aT X pins σ H s) (hH:H l=some (.lst xs))
  (e:s.heap.get? l=some { cls:=.type "list",data:=.seq its.toArray n }) (hf:f its.toArray=its'.toArray) (hv:bF ys its') (hz:ys.length<=aVI) :
  aT X pins σ (upd H l (.lst ys)) { s with heap:=s.heap.update l (aRH f),toks:=t' }:=by
 have q:=PySem.IsL.update e f;rw [hf] at q;refine I.write (x:=l) (e:=l) (by rw [hH];exact trivial) (.inl rfl) (λb' u hb hu=>(aU1 s.heap (aRH f) (Ne.symm hb)).trans hu) ⟨_,q⟩ ?_;exact ⟨hz,its',_,hv,q⟩
theorem aT.lnew {its:List Value} {t':Nat} (I:aT X pins σ H s) (hv:bF ys its) (hz:ys.length<=aVI) :
  aT X pins σ (upd H s.heap.objs.size (.lst ys)) { s with heap:=s.heap.push { cls:=.type "list",data:=.seq its.toArray },toks:=t' }:=
 I.laid (λ_ _ q=>aDA _ q) (aDP _) ⟨hz,its,0,hv,aG4 _ rfl⟩
theorem aT.fresh (I:aT X pins σ H s):H s.heap.objs.size=none:=I.hok.fresh (aDP _)
theorem aT.lstM (I:aT X pins σ H s) (hH:H l=some (.lst xs)):xs.length<=aVI/\∃(its:List Value) (n:Nat),bF xs its/\xs.length=its.length/\s.heap.get? l=some { cls:=.type "list",data:=.seq its.toArray n }:=by
 obtain ⟨z,its,n,r,e⟩:=I.hok l _ hH;exact ⟨z,its,n,r,r.length,e⟩
theorem aFY {n:Nat} (h:n<=aVI):Builtin.List.listTooLong n=false:=by
 unfold Builtin.List.listTooLong;exact decide_eq_false (by omega)
end
section
variable {X:Cx}
def aAV:V->List V->Hp->VK->Prop:=λx vs H Q=>∃l xs y,x = .ref l/\vs=[y]/\H l=some (.lst xs)/\xs.length<aVI/\Q .non (upd H l (.lst (xs++[y])))
theorem kK:MtM X "list.append" aAV:=by
 intro pins s σ H x vs v us Q I rx rv h;obtain ⟨l,xs,y,rfl,rfl,hH,hz,q⟩:=h;cases rx;obtain ⟨u,rfl,ru⟩:=rv.one;obtain ⟨z,its,n,r,hl,e⟩:=I.lstM hH;refine call_meets F.slot_list_append ⟨_,e,rfl⟩ F.entry_list_append (F.args_list_append_2 _ _) (PySem.list_append l its.toArray n u (by rw [aF0];omega)) ⟨e,?_⟩;refine ⟨.non,_,I.lset (its':=its++[u]) hH e (by simp) (r.append (.cons ru .nil)) ?_,rfl,q⟩;rw [aIG,aSN];omega
def aBB:V->List V->Hp->VK->Prop:=λx vs H Q=>∃l b xs zs,x = .ref l/\vs=[.ref b]/\H l=some (.lst xs)/\H b=some (.lst zs)/\xs.length+zs.length<=aVI/\Q .non (upd H l (.lst (xs++zs)))
theorem aB8:MtM X "list.extend" aBB:=by
 intro pins s σ H x vs v us Q I rx rv h;obtain ⟨l,b,xs,zs,rfl,rfl,hH,hB,hz,q⟩:=h;cases rx;obtain ⟨u,rfl,ru⟩:=rv.one;cases ru;obtain ⟨z,its,n,r,hl,e⟩:=I.lstM hH;obtain ⟨z2,its2,n2,r2,hl2,e2⟩:=I.lstM hB;have hsz:its.toArray.size+its2.toArray.size<=aVI:=by rw [aF0,aF0];omega
 have hlong:¬(!its.toArray.isEmpty&&Builtin.List.listTooLong (its.toArray.size+its2.toArray.size))=true:=by
  rw [aFY hsz,aU4];exact aTX
 refine call_meets F.slot_list_extend ⟨_,e,rfl⟩ F.entry_list_extend (F.args_list_extend_2 _ _)
  (AutoSeq1.list_extend_list_list_0 l its.toArray n b its2.toArray n2 hlong (by rw [aF0];omega) (by omega)) ⟨e,e2,?_⟩
 refine ⟨.non,_,I.lset (its':=its++its2) hH e (by simp) (r.append r2) ?_,rfl,q⟩;rw [aIG];omega
def aR6:R2:=λx y H Q=>∃l b xs zs,x = .ref l/\y = .ref b/\H l=some (.lst xs)/\H b=some (.lst zs)/\xs.length+zs.length<=aVI/\∀p,H p=none->Q (.ref p) (upd H p (.lst (xs++zs)))
theorem aMR:kU X (aV2 .Add) aR6:=by
 intro pins s σ H x y v u Q I rx ry h;obtain ⟨l,b,xs,zs,rfl,rfl,hH,hB,hz,q⟩:=h;cases rx;cases ry;obtain ⟨z,its,n,r,hl,e⟩:=I.lstM hH;obtain ⟨z2,its2,n2,r2,hl2,e2⟩:=I.lstM hB;refine PySem.P.add_list e e2 ?_ (by rw [aF0,aF0];omega);have ea:its.toArray++its2.toArray=(its++its2).toArray:=by simp
 rw [ea];exact ⟨.ref _,_,I.lnew (t':=s.toks) (r.append r2) (by rw [aIG];omega),rfl,q _ I.fresh⟩
end
section
variable {prog:aVD} {w:aVH} {A:Around} {E:Value->Shared->Prop} {s:Shared}
set_option maxRecDepth 100000 in
end
end L2
namespace Att
open PySem PySem.W PySem.Calls PyProof.Rows
theorem oT {P:Params} {h:Heap}:∀(ns:List Int) (vs:List Value),WellAll P h vs (ns.map WData.int)->IntsAre vs ns:=by
 intro ns
 induction ns with
 | nil=>
  intro vs w;rw [aT9] at w;cases w;exact .nil
 | cons n ns ih=>
  intro vs w;rw [aPB] at w;cases w with
  | cons a b=>
   cases a;exact .cons _ _ (ih _ b)
theorem aB7 {l:OpenLaw} {n:Nat} (hn:l.most=some n) {P:Params} {h:Heap} {args:List WData} {vals:List Value}
  (hpre:l.row.toRowW.claim.pre args=true) (hwl:WellAll P h vals args) :
  ∃a vs ns,vals=[aPQ a]/\args=[WData.list (ns.map WData.int)]/\h.get? a=some { cls:=.type "list",data:=.seq vs.toArray }/\IntsAre vs ns/\ns.length<=n:=by
 have hsh:WShape.hasAll [] args [.list .int]=true:=(pre_splitW hpre).1;have hc:l.pre.holds [] { args:=args } = true:=(pre_splitW hpre).2;obtain ⟨d,r,rfl,h1,h2⟩:=hasAllW_cons hsh;obtain rfl:=hasAllW_nil h2;obtain ⟨xs,rfl,h3⟩:=hasW_list h1;obtain ⟨ns,rfl⟩:=items_int h3;have hlen:ns.length<=n:=by
  unfold OpenLaw.pre at hc;have h4:(WTm.not (.lt (.lit (.int (n:Int))) (.len (.arg 0)))).holds [] { args:=[.list (ns.map .int)] } = true:=by
   have h4:=(holds_andW hc).1;rw [hn] at h4;exact h4
  have h5:=condW_of h4 (w_not (w_lt w_lit (w_len_list (w_arg rfl))));rw [aBC] at h5;refine Nat.le_of_not_lt λq=>?_;have q':(n:Int)<((ns.length:Nat):Int):=by omega
  first
   | (rw [decide_eq_true q'] at h5;exact absurd h5 (by decide))
   | (simp at h5;omega)
 cases hwl with
 | cons w1 w2=>
  cases w2;cases w1 with
  | list ho hall=>exact ⟨_,_,ns,rfl,rfl,ho,oT ns _ hall,hlen⟩
theorem aCO (l:OpenLaw) (args:List WData):l.row.toRowW.claim.post args (.bool true) args=true:=
 postW_of (r:=l.row.toRowW) (X:=(true==true))
  (show WShape.has [] (.bool true) .bool=true by first | rfl | decide | simp [WShape.has,WShape.arms,WShape.armsAll])
  (show (WTm.eq .res (.lit (.bool true))).value [] { args:=args,res:=some (.bool true),after:=args } = some (.bool (true==true)) from w_eq_bool (w_res rfl) w_lit) rfl
theorem attach_call {l:OpenLaw} {n:Nat} {q:aVD} {loose:List Str} {XP:(Str->Option Value)->Heap->Prop} {YP:aVH->Heap->Prop} {d:DefRec}
  (hn:l.most=some n) (hdf:d.params.defaults=[])
  (call:∀(w:aVH) (s₀ s₁:Shared) (mg mb:Str->Option Value) (fa:aVA) (o:Obj) (pm cd doc:Value) (a:aVA) (vs:List Value) (ns:List Int),
   Ground q loose [] XP w s₀ mg mb s₁.heap->YP w s₁.heap->
   s₁.heap.get? fa=some o->o.data = .func (docDef d.name d.params d.body d.scope pm cd doc)->s₁.heap.CodeRec cd d.name->mg d.name=some (.ref fa)->
   s₁.heap.get? a=some { cls:=.type "list",data:=.seq vs.toArray }->IntsAre vs ns->ns.length<=n->s₁.gens = #[]->
   aWN (aVG l.prog w) aWT (.call (.ref fa) ⟨[.ref a],[]⟩) (λr s'=>r = .ok (.ret (.bool true))/\OldK s₁.heap s'.heap/\s'.os=s₁.os/\aWM s'.gens) s₁) :
  WalkO q loose XP YP l.row.toRowW d [] (λf vs=>PySem.call f vs):=by
 intro w s₀ s₁ mg mb G Y fa o pm cd doc dV kV ho hd hcd hD hmg hg args vals as hpre hlay hrd hwl hlo;obtain rfl:dV = .none:=Dflts.none hD hdf;obtain rfl:kV = .none:=Dflts.noKw hD;obtain ⟨a,vs,ns,rfl,rfl,hobj,hints,hlen⟩:=aB7 hn hpre hwl;refine enter_call (codeAny_mono (call w s₀ s₁ mg mb fa o pm cd doc a vs ns G Y ho (fd_plain hd) hcd hmg hobj hints hlen hg) λr s' hq=>?_);obtain ⟨rfl,h2,h3,h4⟩:=hq;exact ⟨.inl ⟨.bool true,.bool true,[],rfl,λ_=>rfl,.bool true,aCO l _,λ_=>⟨List.Pairwise.nil,λ_ hm=>(nomatch hm)⟩⟩,h2,h3,h4⟩
end Att
namespace L2
open PySem PySem.Spec PyProof.Rows
theorem rZ:∀{vs:List Value} {ns:List Int},IntsAre vs ns->bF (ns.map V.int) vs
 | _,_,.nil=>.nil
 | _,_,.cons n t h=>.cons ⟨t,rfl⟩ (rZ h)
def aLV (H:Hp):Prop:=∀b,H b=none\/∃o xs,H b=some (.frz o (.lst xs))
theorem aDX {P:aVD} {w:aVH} {K:W.Frag} {mg mb:Str->Option Value} {CX:CXT} {k:Nat} {fa a:aVA} {fd:aVF} {x:Str} {sp:Sp} {s₁:Shared} {vs:List Value} {ns:List Int}
  (KX:K.In s₁.heap) (hns:s₁.heap.Ns aVJ mg) (hb:s₁.heap.Ns builtinsNs mb) (hbb:∀x:Str,x≠"__name__"->mb x=aVS x) (hlim:s₁.heap.NoLimit) (hg:s₁.gens = #[])
  (ha:s₁.heap.get? a=some { cls:=.type "list",data:=.seq vs.toArray }) (hi:IntsAre vs ns) (hl:ns.length<=aVI) (hr:dD k aWT)
  (F:∀base:Heap,K.In base->base.Ns aVJ mg->bL P w K mg base CX k fa fd [x] sp) (hbind:∀(s:Shared) (u:Value),BindsTo s fd ⟨[u],[]⟩ [(x,u)])
  (hsp:∀H:Hp,aLV H->iU K H a (ns.map V.int)->sp [.ref a] H (λv _=>v = .bl true) λ_ _ _=>False)
  (hCX:∀H e s',CX [] H s₁ (λ_ _ _=>False) e s'->False) :
  aWN (aVG P w) aWT (.call (.ref fa) ⟨[.ref a],[]⟩) (λr s'=>r = .ok (.ret (.bool true))/\OldK s₁.heap s'.heap/\s'.os=s₁.os/\aWM s'.gens) s₁:=by
 have rv:=rZ hi;have lenV:=hi.length
 -- from an abstract heap in which nothing but the script may be tracked
 have core:∀H:Hp,aLV H->iU K H a (ns.map V.int)->kT P w H s₁.heap->(∀b,H b≠none->b=a)->(H a≠none->K.lookup a=none)->
   aWN (aVG P w) aWT (.call (.ref fa) ⟨[.ref a],[]⟩) (λr s'=>r = .ok (.ret (.bool true))/\OldK s₁.heap s'.heap/\s'.os=s₁.os/\aWM s'.gens) s₁:=by
  intro H hO hS hok hA hK;have base_of:∀{b:aVA} {o:Obj},s₁.heap.get? b=some o->H b=none->(tH s₁.heap H).get? b=some o:=λe n=>aE8 e n;have noA:∀{b:aVA} {o:Obj} {es:Array DictEntry} {ep:Nat},s₁.heap.get? b=some o->o.data = .dict es ep->H b=none:=λ{b o es ep} e d=>by
   cases q:H b with
   | none=>rfl
   | some u=>
    have e':b=a:=hA b (by rw [q];simp);subst e';rw [ha] at e;cases e;have d':Data.seq vs.toArray _=Data.dict es ep:=d;cases d'
  have nsK:∀{b:aVA} {m:Str->Option Value},s₁.heap.Ns b m->(tH s₁.heap H).Ns b m:=λ{b m} ⟨o,es,ep,e,d,r⟩=>⟨o,es,ep,base_of e (noA e d),d,r⟩;have hKb:K.In (tH s₁.heap H):=λb o e=>base_of (KX b o e) (by
   cases q:H b with
   | none=>rfl
   | some u=>
    have e':b=a:=hA b (by rw [q];simp);subst e';rw [hK (by rw [q];simp)] at e;cases e)
  have hM:Mod K mg (tH s₁.heap H):=⟨hKb,nsK hns,⟨mb,nsK hb,hbb⟩,let ⟨mc,h1,h2⟩:=hlim;⟨mc,nsK h1,h2⟩⟩;have e0:aI1 P w K mg (tH s₁.heap H) aWT [] s₁ H:=⟨rfl,hM,λb o e=>aHV e,Nat.le_of_eq (aCZ _ _),trivial,λb hb=>absurd (show b∈([]:List aVA) from hb) (by simp),hok,.of_eq hg⟩;refine codeAny_mono ((F _ hKb (nsK hns)).run aWT [] s₁ H ⟨[.ref a],[]⟩ [.ref a] [.ref a] _ _ hr e0 (hbind s₁ (.ref a)) (.cons rfl .nil) (hsp H hO hS)) λr s' h=>?_;cases r with
  | error e=>exact (hCX H e s' h).elim
  | ok fl=>
   cases fl with
   | next=>exact False.elim h
   | brk=>exact False.elim h
   | cont=>exact False.elim h
   | ret u=>
    obtain ⟨v,H',os,bare,un,hok',r',q⟩:=h;have q':v = .bl true:=q;subst q';obtain rfl:u=Value.bool true:=r';refine ⟨rfl,OldK.of_keep λb o e=>?_,os,bare⟩;cases q:H b with
    | none=>exact un.keep b o e q (by intro z;exact absurd (show b∈([]:List aVA) from z) (by simp)) (by simp)
    | some u=>
     rcases hO b with z | ⟨ob,xs,z⟩
     ·rw [q] at z;cases z
     ·have z2:=un.frzs b ob _ z;obtain ⟨e1,_⟩:=hok b _ z;obtain ⟨e2,_⟩:=hok' b _ z2;rw [e] at e1;cases e1;exact e2
 cases hk:K.lookup a with
 | some o=>
  -- the script is one of the module's own objects
  have e:=KX a o hk;rw [ha] at e;cases e;refine core (λ_=>none) (λ_=>.inl rfl) (.inr ⟨_,vs.toArray,_,hk,rfl,rfl,rfl,by rw [aF0,lenV];exact hl,by simpa using rv⟩) (λb u z=>by have z':(none:Option HO)=some u:=z;cases z') (λb z=>absurd rfl z) λz=>absurd rfl z
 | none=>
  refine core (λb=>if b=a then some (.frz { cls:=.type "list",data:=.seq vs.toArray } (.lst (ns.map V.int))) else none) (λb=>?_) (.inl (.inr ⟨{ cls:=.type "list",data:=.seq vs.toArray },if_pos rfl⟩)) (λb u z=>?_) (λb z=>?_) λ_=>hk
  ·by_cases hb:b=a
   ·exact .inr ⟨_,_,if_pos hb⟩
   ·exact .inl (if_neg hb)
  ·by_cases hb:b=a
   ·have z':=(if_pos hb).symm.trans z;cases z';subst hb;exact ⟨ha,by rw [aBC];exact hl,vs,_,rv,ha⟩
   ·have z':=(if_neg hb).symm.trans z;cases z'
  ·by_cases hb:b=a
   ·exact hb
   ·exact absurd (if_neg hb) z
theorem aJZ {l:W.OpenLaw} {n k:Nat} {q:aVD} {loose:List Str} {XP:(Str->Option Value)->Heap->Prop} {YP:aVH->Heap->Prop} {d:DefRec} {K:Params->W.Frag} {CX:aVH->CXT} {sp:aVH->Sp} {x:Str}
  (hn:l.most=some n) (hn2:n<=aVI) (hdf:d.params.defaults=[]) (hr:dD k aWT)
  (hY:∀(w:aVH) (h:Heap),YP w h->(K w.params).In h)
  (F:∀(w:aVH) (mg:Str->Option Value) (fa:aVA) (h:Heap),(K w.params).In h->h.Ns aVJ mg->mg d.name=some (.ref fa)->
   ∃fd:aVF,(∀(s:Shared) (u:Value),BindsTo s fd ⟨[u],[]⟩ [(x,u)])/\
    ∀base:Heap,(K w.params).In base->base.Ns aVJ mg->bL l.prog w (K w.params) mg base (CX w) k fa fd [x] (sp w))
  (hsp:∀(w:aVH) (H:Hp) (a:aVA) (ns:List Int),ns.length<=n->aLV H->iU (K w.params) H a (ns.map V.int)->sp w [.ref a] H (λv _=>v = .bl true) λ_ _ _=>False)
  (hCX:∀(w:aVH) (H:Hp) (s:Shared) (e:Value) (s':Shared),CX w [] H s (λ_ _ _=>False) e s'->False) :
  W.WalkO q loose XP YP l.row.toRowW d [] (λf vs=>PySem.call f vs):=by
 refine Att.attach_call hn hdf λw s₀ s₁ mg mb fa o pm cd doc a vs ns G Y ho hd hcd hmg hobj hints hlen hg=>?_;have KX:=hY w _ Y;obtain ⟨fd,hb,hF⟩:=F w mg fa _ KX G.T.g hmg;exact aDX KX G.T.g G.T.b G.T.builtins G.T.nolimit hg hobj hints (aPW hlen hn2) hr hF hb (λH hO hS=>hsp w H a ns hlen hO hS) λH e s'=>hCX w H s₁ e s'
end L2
/- THE LAST THEOREM (shape;LID,My.* are yours):
   My.Adr: a structure of the addresses that your layer names (classes,functions);My.Txt K t: a structure (Prop) of the equations over K;
   My.txt_mk:{K} {implicit addresses ..} (e1:nsIn K aVJ "law" = some (some (.ref f))) (e2:K.lookup f=some ⟨oc,od,.func (fnOf "law" "law" params body scope dV kV doc pm an cdv ct),sl⟩) (e3:codeIn K cdv "law" = true) .. : ∃t,My.Txt K t
set_option maxRecDepth 100000 in
set_option maxHeartbeats 0 in
(the tactic k_is has no namespace: write k_is) -/
namespace L2
open PySem PySem.Spec PyProof.Rows
def i8 (s:aVK):Arguments:=match s with
 | .FunctionDef _ a _ _ _ _ _ _ _ _=>a
 | _=>{ posonlyargs:=[],args:=[],vararg:=none,kwonlyargs:=[],kw_defaults:=[],kwarg:=none,defaults:=[] }
def gC (s:aVK):List aVK:=match s with
 | .FunctionDef _ _ b _ _ _ _ _ _ _=>b
 | _=>[]
def aH (s:aVK):aVV:=match s with
 | .FunctionDef _ _ _ _ _ _ sc _ _ _=>sc
 | _=>{ kind:=.function,names:=[],isGenerator:=false,isCoroutine:=false }
abbrev fP:CXT:=λ_ _ _ _ _ _=>False
abbrev E0:XK:=λ_ _ _=>False
theorem aQT {X:Cx}:yU fP X E0:=λ_ _ _ _ _ _ _ h=>h.elim
structure fO (K:W.Frag) (x qual:Str) (st:aVK) (f:aVA) (fd:aVF):Prop where
 ex:∃(oc:Value) (od:Option aVA) (kV doc pm:Value) (an:Option aVA) (cdv ct:Value) (osl:Array (Option Value)),
  fd=W.fnOf x qual (i8 st) (gC st) (aH st) .none kV doc pm an cdv ct/\K.lookup f=some ⟨oc,od,.func fd,osl⟩/\W.codeIn K cdv qual=true
 kp:W.keepIn K (.ref f)=true
section
variable {P:aVD} {w:aVH} {K:W.Frag} {mg:Str->Option Value} {base:Heap}
theorem fO.ok {x qual:Str} {st:aVK} {f:aVA} {fd:aVF} {N ps:List Str} {k:Nat} {sp:Sp} (F:fO K x qual st f fd) (S:aN N ps (aH st)) (len:∀vs H Q E,sp vs H Q E->vs.length=ps.length)
  (hbody:∀(cdv:Value) (A:Around) (outer:List Env) (s:Shared) (H:Hp) (vs:List V) (Q:VK) (E:XK),dD k (A.deeper (aWJ qual (aH st) s.heap.objs.size f cdv))->sp vs H Q E->
   ∃t,PSs (wM fP P w K mg base N qual (aH st) f cdv A outer s H E).nox (gC st) t/\t { nx:=λ_ H'=>Q .non H',rt:=Q } (iF N vs) H):bL P w K mg base fP (k+1) f fd ps sp:=by
 obtain ⟨oc,od,kV,doc,pm,an,cdv,ct,osl,rfl,lk,hcd⟩:=F.ex;refine aOC lk hcd S len λA outer s H vs Q E hr hsp=>?_;obtain ⟨t,h,q⟩:=hbody cdv A outer s H vs Q E hr hsp;exact ⟨t,h.nox,q⟩
theorem fO.binds {x qual:Str} {st:aVK} {f:aVA} {fd:aVF} {ps:List Str} (F:fO K x qual st f fd)
  (h:∀(kV doc pm:Value) (an:Option aVA) (cdv ct:Value) (us:List Value),us.length=ps.length->bindArgs (W.fnOf x qual (i8 st) (gC st) (aH st) .none kV doc pm an cdv ct) ⟨us,[]⟩=pure (ps.zip us)):oE K fd ps []:=by
 obtain ⟨oc,od,kV,doc,pm,an,cdv,ct,osl,rfl,lk,hcd⟩:=F.ex;exact .all (h kV doc pm an cdv ct)
theorem aDN {x qual:Str} {st:aVK} {f:aVA} {oc:Value} {od an:Option aVA} {osl:Array (Option Value)} {kV doc pm cdv ct:Value} (l:K.lookup f=some ⟨oc,od,.func (W.fnOf x qual (i8 st) (gC st) (aH st) .none kV doc pm an cdv ct),osl⟩)
  (c:W.codeIn K cdv qual=true) (k:W.keepIn K (.ref f)=true):fO K x qual st f (W.fnOf x qual (i8 st) (gC st) (aH st) .none kV doc pm an cdv ct):=⟨⟨oc,od,kV,doc,pm,an,cdv,ct,osl,rfl,l,c⟩,k⟩
end
theorem aKH {A:Around} {k:Nat} (hr:dD k A):A.units+1<aWG:=aOL (Nat.add_le_add_left (by decide:1<=64) _) hr.units
theorem bQ {n:Nat} (h:n<=1000):n<aVI:=aOL h (by decide)
end L2
namespace L2
open PySem PySem.Spec PyProof.Rows
section
variable {X:Cx}
theorem aC9:fQ X (.builtin "abs") (λxs H Q=>∃i:Int,xs=[.int i]/\Q (.int (i.natAbs:Int)) H):=by
 intro pins s σ H xs us Q I r h;obtain ⟨i,rfl,q⟩:=h;obtain ⟨u,rfl,rx⟩:=oM r;obtain ⟨t,rfl⟩:=rx;have e:(if i<0 then -i else i)=(i.natAbs:Int):=by split<;>omega
 exact call_abs_int λu tk=>⟨.int (i.natAbs:Int),H,I.tok _,⟨u,by rw [e]⟩,q⟩
theorem aCC:fQ X (.type "int") (λxs H Q=>∃b:Bool,xs=[.bl b]/\Q (.int (if b then 1 else 0)) H):=by
 intro pins s σ H xs us Q I r h;obtain ⟨b,rfl,q⟩:=h;obtain ⟨u,rfl,rx⟩:=oM r;cases rx;exact PySem.call_int_bool ⟨.int _,H,I.tok _,⟨_,rfl⟩,q⟩
inductive Kd (K:W.Frag) (H:Hp):V->String->Prop
 | non:Kd K H .non "NoneType"
 | bl (b):Kd K H (.bl b) "bool"
 | int (i):Kd K H (.int i) "int"
 | str (x):Kd K H (.str x) "str"
 | tup {a xs}:rL K H a xs->Kd K H (.ref a) "tuple"
 | lst {a xs}:iU K H a xs->Kd K H (.ref a) "list"
def isi (k T:String):Bool:=k==T||(k=="bool"&&T=="int")
def tys:List String:=["int","bool","tuple","list","str"]
theorem aEJ:fQ X (.builtin "isinstance") (λxs H Q=>∃x k T,xs=[x,.ty T]/\Kd X.K H x k/\T∈tys/\Q (.bl (isi k T)) H):=by
 intro pins s σ H xs us Q I r h;obtain ⟨x,k,T,rfl,hk,hT,q⟩:=h;obtain ⟨u,v,rfl,rx,ry⟩:=bF.two r;cases ry;have f0:∀b t,Q (.bl b) H->EP X pins σ Q (.bool b) { s with toks:=t }:=λb t q=>⟨.bl b,H,I.tok _,rfl,q⟩;have f1:∀b,Q (.bl b) H->EP X pins σ Q (.bool b) s:=λb q=>⟨.bl b,H,I,rfl,q⟩;simp only [tys,aB1,aRO,or_false] at hT;cases hk with
 | non=>
  cases rx;rcases hT with rfl | rfl | rfl | rfl | rfl
  ·exact IsiPair.NoneType_int (f0 _ _ q)
  ·exact IsiPair.NoneType_bool (f0 _ _ q)
  ·exact IsiPair.NoneType_tuple (f0 _ _ q)
  ·exact IsiPair.NoneType_list (f0 _ _ q)
  ·exact IsiPair.NoneType_str (f0 _ _ q)
 | bl b=>
  cases rx;rcases hT with rfl | rfl | rfl | rfl | rfl
  ·exact IsiPair.bool_int (f1 _ q)
  ·exact IsiPair.bool_bool (f1 _ q)
  ·exact IsiPair.bool_tuple (f0 _ _ q)
  ·exact IsiPair.bool_list (f0 _ _ q)
  ·exact IsiPair.bool_str (f0 _ _ q)
 | int i=>
  obtain ⟨t,rfl⟩:=rx;rcases hT with rfl | rfl | rfl | rfl | rfl
  ·exact IsiPair.int_int (f1 _ q)
  ·exact IsiPair.int_bool (f0 _ _ q)
  ·exact IsiPair.int_tuple (f0 _ _ q)
  ·exact IsiPair.int_list (f0 _ _ q)
  ·exact IsiPair.int_str (f0 _ _ q)
 | str z=>
  obtain ⟨t,rfl⟩:=rx;rcases hT with rfl | rfl | rfl | rfl | rfl
  ·exact IsiPair.str_int (f0 _ _ q)
  ·exact IsiPair.str_bool (f0 _ _ q)
  ·exact IsiPair.str_tuple (f0 _ _ q)
  ·exact IsiPair.str_list (f0 _ _ q)
  ·exact IsiPair.str_str (f1 _ q)
 | tup hq=>
  cases rx;obtain ⟨its,rv,⟨o,ho,hc,_⟩,_⟩:=I.tuple hq;rcases hT with rfl | rfl | rfl | rfl | rfl
  ·exact IsiPair.tuple_int ho hc (f0 _ _ q)
  ·exact IsiPair.tuple_bool ho hc (f0 _ _ q)
  ·exact IsiPair.tuple_tuple ho hc (f1 _ q)
  ·exact IsiPair.tuple_list ho hc (f0 _ _ q)
  ·exact IsiPair.tuple_str ho hc (f0 _ _ q)
 | lst hq=>
  cases rx;obtain ⟨its,rv,⟨o,n,ho,hc,_⟩,_⟩:=I.list hq;rcases hT with rfl | rfl | rfl | rfl | rfl
  ·exact IsiPair.list_int ho hc (f0 _ _ q)
  ·exact IsiPair.list_bool ho hc (f0 _ _ q)
  ·exact IsiPair.list_tuple ho hc (f0 _ _ q)
  ·exact IsiPair.list_list ho hc (f1 _ q)
  ·exact IsiPair.list_str ho hc (f0 _ _ q)
theorem aC1 (hc:X.calm=true):fQ X (.builtin "all") (λxs H Q=>∃(p:aVA) (bs:List Bool),xs=[.ref p]/\iU X.K H p (bs.map V.bl)/\Q (.bl (bs.all id)) H):=by
 intro pins s σ H xs us Q I r h;obtain ⟨p,bs,rfl,hq,q⟩:=h;obtain ⟨u,rfl,rx⟩:=oM r;cases rx;obtain ⟨its,rv,pl,hz⟩:=I.list hq;have hne:p≠s.heap.objs.size:=by
  obtain ⟨o,n,ho,_⟩:=pl;exact aHH (aDD ho)
 have hl:=rv.length;rw [aBC] at hl;have hA:X.A.in1.handled=none:=I.ok.hd hc;refine call_all_walk (wpAny_pyIter_list pl.isList ?_);refine ⟨s.heap.objs.size,_,_,_,_,_,(λi=>bs.getD i true),rfl,Walks.list hA s.heap.objs.size p hne its.toArray,⟨⟨_,aG4 _ rfl,rfl,rfl⟩,pl.isList.at λo e=>aDA _ e⟩,?_,?_⟩
 ·intro i v s' Q' E' hv hQ';have hv':its[i]? = some v:=by simpa using hv
  have hi:i<its.length:=(aA7.mp hv').1;have hb:(bs.map V.bl)[i]? = some (V.bl bs[i]):=by
   rw [aDF,aAX (by omega)];rfl
  obtain ⟨u,hu,ru⟩:=rv.get hb;rw [hv'] at hu;cases hu;cases ru;have e:bs.getD i true=bs[i]:=by rw [aG5,aAX (by omega)];rfl
  simp only [e] at hQ';exact aVW hQ'
 ·intro h' tk hk;have e:(aS1 its.toArray.size).all (λi=>bs.getD i true)=bs.all id:=by
   rw [aF0,<-hl];clear hl hz rv q hq pl hne;rw [aP4,aN7,aN7];constructor
   ·intro h b hb;obtain ⟨i,hi,rfl⟩:=List.mem_iff_getElem.mp hb;have:=h i (aQ7.mpr hi);rw [aG5,aAX hi] at this;exact this
   ·intro h i hi;have hi:=aQ7.mp hi;rw [aG5,aAX hi];exact h _ (aQI hi)
  rw [e];refine ⟨.bl _,H,?_,rfl,q⟩;exact I.kept λb o e=>hk b o (by simp;exact aHH (aDD e)) (aDA _ e)
end
section
variable {X:Cx} {pins:List (aVA×Obj)} {σ:St} {H:Hp} {s:Shared} {h':Heap}
theorem aT.turnedLaid {t':Nat} {ch:List aVA} {a:aVA} {o:HO} (I:aT X pins σ H s) (k:∀b u,b∉ch->s.heap.get? b=some u->h'.get? b=some u) (hf:∀b∈ch,jP X pins H b) (hp:s.heap.objs.size<=a)
  (new:c8 X.prog X.w (upd H a o) h' a o):aT X pins σ (upd H a o) { s with heap:=h',toks:=t' }:=by
 have hn:=I.hok.fresh hp;have nit:∀b u,H b=some u->b∉ch:=λb u e z=>by rw [(hf b z).1] at e;cases e
 refine I.step (g':=s.gens) (d':=s.drawn) (ch:=ch) (λb hb=>⟨(hf b hb).2.2.2.1,(hf b hb).2.1,(hf b hb).2.2.2.2.1,(hf b hb).2.2.2.2.2⟩) (λb u _ _ hc e _=>k b u hc e) (λb u _ _ hc e _=>⟨u.slots,k b u hc e⟩)
  (λb u hc e n=>by rw [aR (aHH (aEG (aDD e) hp))];exact n) (λb u hc e=>⟨u,k b u hc e⟩) (λb xs e=>by rw [aR (aY e hn)];exact e) (λb u xs e=>by rw [aR (aY e hn)];exact e)
  (λb ps e=>⟨#[],by rw [aR (aY e hn),e];simp⟩) (λm hm=>?_) (λb u e=>?_) I.bare
 ·obtain ⟨ob,es,ep,ho,r⟩:=hm;exact ⟨ob,es,ep,k _ ob (λz=>(hf _ z).2.1 rfl) ho,r⟩
 ·by_cases hb:b=a
  ·subst hb;rw [bT] at e;cases e;exact new
  ·rw [aR hb] at e;refine (I.hok b u e).stay (λc v hc q=>k c v ?_ q) (λc q=>by rw [aR (aY q hn)];exact q) λc xs q=>by rw [aR (aY q hn)];exact q
   rcases hc with z | z
   ·rw [z];exact nit b u e
   ·exact nit c _ z
theorem aT.turnedL {t':Nat} {ch:List aVA} (I:aT X pins σ H s) (k:∀b u,b∉ch->s.heap.get? b=some u->h'.get? b=some u) (hf:∀b∈ch,jP X pins H b):aT X pins σ H { s with heap:=h',toks:=t' }:=by
 have nit:∀b u,H b=some u->b∉ch:=λb u e z=>by rw [(hf b z).1] at e;cases e
 refine I.step (g':=s.gens) (d':=s.drawn) (ch:=ch) (λb hb=>⟨(hf b hb).2.2.2.1,(hf b hb).2.1,(hf b hb).2.2.2.2.1,(hf b hb).2.2.2.2.2⟩) (λb u _ _ hc e _=>k b u hc e) (λb u _ _ hc e _=>⟨u.slots,k b u hc e⟩)
  (λb u hc e n=>n) (λb u hc e=>⟨u,k b u hc e⟩) (λb xs e=>e) (λb u xs e=>e) (λb ps e=>⟨#[],by rw [e];simp⟩) (λm hm=>?_) (λb u e=>?_) I.bare
 ·obtain ⟨ob,es,ep,ho,r⟩:=hm;exact ⟨ob,es,ep,k _ ob (λz=>(hf _ z).2.1 rfl) ho,r⟩
 ·refine (I.hok b u e).stay (λc v hc q=>k c v ?_ q) (λc q=>q) λc xs q=>q;rcases hc with z | z
  ·rw [z];exact nit b u e
  ·exact nit c _ z
end
def Ite (K:W.Frag) (a:aVA):It:=
 ⟨λi H=>∃xs x,iU K H a xs/\xs[i]? = some x,λi H x H'=>∃p y,x = .ref p/\H p=none/\H'=upd H p (.tup [.int (i:Int),y])/\∀xs,iU K H a xs->xs[i]? = some y,λi H=>∃xs,iU K H a xs/\xs.length<=i⟩
theorem aC6 {P:aVD} {w:aVH} {K:W.Frag} {elts:List Expr} {x1} {tpos:Pos} (a e it:aVA) (hne:e≠it) :
  aCF P w K (.Tuple elts x1 tpos) (Ite K a) [e,it] e (λi h=>(∃old,IsEnum h e it (i:Nat) old)/\h.IsListIter it a i) where
 mem:=by simp
 obj:=λi h st b hb=>by
  obtain ⟨⟨old,he⟩,⟨o,ho,hc,hd⟩⟩:=st;rcases aB1.mp hb with rfl | hb
  ·exact ⟨_,he,λv z=>by cases z⟩
  ·rw [aPD.mp hb];exact ⟨o,ho,λv z=>by rw [hd] at z;cases z⟩
 keep:=λi h h' st k=>⟨let ⟨old,he⟩:=st.1;⟨old,k e (by simp) _ he⟩,st.2.at λo x=>k it (by simp) o x⟩
 item:=by
  intro X hP hw hK hc i pins s σ H E I hf st hg;subst hP hw hK;obtain ⟨xs,x,hq,hx⟩:=hg;obtain ⟨its,rv,p,hz⟩:=I.list hq;obtain ⟨u,hu,ru⟩:=rv.get hx;obtain ⟨⟨old,he⟩,hit⟩:=st;refine wpAny_pyNext_enum_item he hit p.isList (x:=u) (by simpa using hu) hne λh1 ho hit1 ht hsz hk=>⟨_,rfl,?_⟩;refine wpAny_letOwnedTupleGo_enum ho λh2 he2 hs2=>?_;have hen:e≠s.heap.objs.size:=aHH (aDD he);have kk:∀b o,b∉[e,it]->s.heap.get? b=some o->h2.get? b=some o:=λb o hb q=>by
   have h1':b≠e:=λz=>hb (by simp [z]);have h2':b≠it:=λz=>hb (by simp [z]);exact hs2.extBut b o h1' (hk b o h1' h2' q)
  have new:c8 X.prog X.w (upd H s.heap.objs.size (.tup [.int (i:Int),x])) h2 s.heap.objs.size (.tup [.int (i:Int),x]):=
   ⟨by show 2<=aVI;decide,[.int i s.toks,u],.cons ⟨_,rfl⟩ (.cons ru .nil),⟨_,hs2.extBut _ _ (Ne.symm hen) ht,rfl,_,rfl⟩⟩
  refine ⟨.ref s.heap.objs.size,upd H s.heap.objs.size (.tup [.int (i:Int),x]),I.turnedLaid (t':=s.toks+1) (ch:=[e,it]) kk hf (aDP _) new,rfl,
   ⟨_,x,rfl,I.hok.fresh (aDP _),rfl,λys hy=>by rw [I.list_inj hy hq];exact hx⟩,⟨⟨_,by simpa using he2⟩,hit1.extBut hs2.extBut (Ne.symm hne)⟩,λb hb=>?_⟩
  have hlt:b<s.heap.objs.size:=by
   rcases aB1.mp hb with rfl | hb
   ·exact aDD he
   ·rw [aPD.mp hb];obtain ⟨o,ho',_⟩:=hit;exact aDD ho'
  rw [aR (aHH hlt)];exact (hf b hb).1
 done:=by
  intro X hP hw hK hc i pins s σ H E I hf st hg;subst hP hw hK;obtain ⟨xs,hq,hx⟩:=hg;obtain ⟨its,rv,p,hz⟩:=I.list hq;have hl:=rv.length;obtain ⟨⟨old,he⟩,hit⟩:=st;refine wpAny_pyNext_enum_end (I.ok.hd hc) he hit p.isList (by simp;omega) λh1 eb=>⟨rfl,?_⟩;exact I.turnedL (t':=s.toks) (ch:=[e,it]) (λb o hb q=>eb b o (λz=>hb (by simp [z])) q) hf
 self:=λ_ _ _ _ _ st h=>let ⟨old,he⟩:=st.1;wpAny_pyIter_enum he h
section
variable {X:Cx}
def aJ9 (K:W.Frag) (ta:TA):TI:=λσ H R=>ta σ H λvs H1=>∃a,vs=[.ref a]/\(∃xs,iU K H1 a xs)/\R (Ite K a) H1
theorem aHR {a:Expr} {ta:TA} {p pos tpos:Pos} {elts:List Expr} {x1} (hg:Gl X "enumerate") (hm:X.mg "enumerate" = none) (ha:PA X [a] ta) (hs:aVL [a] X.env=[(false,aVP a X.env)]:=by rfl) :
  PI X (.Tuple elts x1 tpos) (.Call (.Name "enumerate" p) [a] [] pos) (aJ9 X.K ta):=by
 intro pins s σ H R I h;refine Call_ (nZ I hg hm boot_enumerate (PyProof.Rows.callWith_type1 (cF (ha pos pins s σ H _ I h) λus s1 ⟨vs,H1,I1,r1,q1⟩=>?_) hs rfl));obtain ⟨l,rfl,⟨xs,hq⟩,q⟩:=q1;obtain ⟨u,rfl,ru⟩:=bF.one r1;cases ru;obtain ⟨its,rv,pl,hz⟩:=I1.list hq;refine call_enumerate_list pl.isList λh' he hit hsz hk=>?_;refine wpAny_pyIter_enum he ?_;refine ⟨s1.heap.objs.size+1,[s1.heap.objs.size+1,s1.heap.objs.size],_,_,H1,rfl,I1.kept (t':=s1.toks) hk,aC6 l _ _ (Nat.succ_ne_self _),⟨⟨_,he⟩,hit⟩,λb hb=>?_,q⟩;have hle:s1.heap.objs.size<=b:=by
  rcases aB1.mp hb with rfl | hb
  ·exact Nat.le_succ _
  ·rw [aPD.mp hb];exact aDP _
 exact I1.fpOk hle (I1.hok.fresh hle)
end
theorem gL {prog:aVD} {w:aVH} {A:Around} {R:Result->Shared->Prop} {s:Shared} {elt target iter:Expr} {scope:aVV} {pos:Pos} {it acc:Value} {env:Env} (I:Nat->Shared->Prop)
  (turn:∀n s,I n s->aVC (aVG prog w) A (pyNext it) (λr s₁=>match r with
   | none=>R (.ok .next) s₁
   | some v=>aVC (aVG prog w) A (aWD target it v) (λ_ s₂=>aVC (aVG prog w) A (aV5 target env v) (λ_ s₃=>aVC (aVG prog w) A (aVP elt env) (λx s₄=>
     aVC (aVG prog w) A (call (.builtin "list.append") [acc,x]) (λ_ s₅=>∃m,m<n/\I m s₅) (λ_ _=>False) s₄) (λ_ _=>False) s₃) (λ_ _=>False) s₂) (λ_ _=>False) s₁) (λ_ _=>False) s)
  (n:Nat) (h:I n s):aWN (aVG prog w) A (.compLoop (.ListComp elt [⟨target,iter,[],0⟩] scope pos) 0 it acc env) R s:=by
 refine codeAny_loop rfl I (λn s hI=>?_) n h;show aVC _ A ((compTurn (.ListComp elt [⟨target,iter,[],0⟩] scope pos) 0 it acc env).onRaise (λx=>do noteFrame x env;theTreesLotGoes x)) _ _ s;refine wpAny_noted ?_;rw [compTurn_list1];refine aVB (aWB (aVB (aVR (turn n s hI) (λr s₁ h₁=>?_) λ_ _ h'=>h'.elim)));cases r with
 | none=>exact aVE h₁
 | some v=>
  exact aVB (aVR h₁ (λ_ s₂ h₂=>aVB (aVR h₂ (λ_ s₃ h₃=>aVB (aVB (aVR h₃ (λx s₄ h₄=>aVB (aVR h₄ (λ_ s₅ h₅=>aVE (aVE ⟨rfl,h₅⟩)) λ_ _ h'=>h'.elim))
   λ_ _ h'=>h'.elim))) λ_ _ h'=>h'.elim)) λ_ _ h'=>h'.elim)
def yG (env:Env):List (Str×NameKind)->List (Str×aVA)->List (Str×aVA)
 | [],cs=>cs
 | (n,k)::r,cs=>yG env r (if k==.free then (match env.cells.lookup n with | some c=>(n,c)::cs | none=>cs) else cs)
def lW (scope:aVV) (env:Env):List (Str×aVA):=yG env scope.names []
theorem uU (env:Env):∀(ns:List (Str×NameKind)) (cs:List (Str×aVA)),(∀y∈ns,y.2 = .free->∃c,env.cells.lookup y.1=some c)->
  (forIn ns cs (λx r=>do
   if x.2==.free then
    let a <-cellOf env x.1
    pure (ForInStep.yield ((x.1,a)::r))
   else pure (ForInStep.yield r)):Sem (List (Str×aVA)))=pure (yG env ns cs)
 | [],cs,_=>rfl
 | (n,k)::r,cs,h=>by
  rw [aUA]
  by_cases hk:k = .free
  ·subst hk;obtain ⟨c,hc⟩:=h (n,.free) aRA rfl;have hc':env.cells.lookup n=some c:=hc;have e:cellOf env n=pure c:=by unfold cellOf;rw [hc']
   simp only [beq_self_eq_true,if_true,e,pure_bind,yG,hc'];exact uU env r _ λy hy=>h y (aJV _ hy)
  ·have hb:(k==NameKind.free)=false:=by simpa using hk
   simp only [hb,aUL,if_false,pure_bind,yG];exact uU env r _ λy hy=>h y (aJV _ hy)
theorem iS {scope:aVV} {env:Env} (h:∀y∈scope.names,y.2 = .free->∃c,env.cells.lookup y.1=some c):closureFor scope env=pure (lW scope env):=by
 have e:=uU env scope.names [] h;unfold lW;rw [<-e];unfold closureFor;simp only [bind_pure]
theorem wU (env:Env):∀(ns:List (Str×NameKind)) (cs:List (Str×aVA)) (x:Str) (c:aVA),(∀x c,cs.lookup x=some c->env.cells.lookup x=some c)->(yG env ns cs).lookup x=some c->env.cells.lookup x=some c
 | [],_,x,c,h,e=>h x c e
 | (n,k)::r,cs,x,c,h,e=>by
  refine wU env r _ x c (λy d hd=>?_) e
  by_cases hk:(k==NameKind.free)=true
  ·rw [if_pos hk] at hd;cases q:env.cells.lookup n with
   | none=>rw [q] at hd;exact h y d hd
   | some a=>
    rw [q] at hd;simp only [aR3] at hd;cases b:y==n with
    | true=>rw [b] at hd;cases hd;rw [eq_of_beq b];exact q
    | false=>rw [b] at hd;exact h y d hd
  ·rw [if_neg hk] at hd;exact h y d hd
theorem mB {scope:aVV} {env:Env} {x:Str} {c:aVA} (e:(lW scope env).lookup x=some c):env.cells.lookup x=some c:=wU env _ _ x c (λ_ _ h=>by simp at h) e
theorem xK (env:Env):∀(ns:List (Str×NameKind)) (cs:List (Str×aVA)) (x:Str) (c:aVA),(cs.lookup x=some c\/(x,NameKind.free)∈ns)->env.cells.lookup x=some c->(yG env ns cs).lookup x=some c
 | [],_,x,c,h,_=>h.elim (λz=>z) (λz=>by simp at z)
 | (n,k)::r,cs,x,c,h,e=>by
  refine xK env r _ x c ?_ e;rcases h with h | h
  ·refine .inl ?_
   split
   ·cases q:env.cells.lookup n with
    | none=>exact h
    | some a=>
     simp only [aR3];cases b:x==n with
     | true=>rw [<-eq_of_beq b,e] at q;exact q.symm
     | false=>exact h
   ·exact h
  ·rcases aB1.mp h with z | z
   ·injection z with z1 z2;subst z1 z2;refine .inl ?_;simp only [beq_self_eq_true,if_true,e,aR3]
   ·exact .inr z
theorem xL {scope:aVV} {env:Env} {x:Str} {c:aVA} (h:(x,NameKind.free)∈scope.names) (e:env.cells.lookup x=some c):(lW scope env).lookup x=some c:=xK env _ _ x c (.inr h) e
theorem mT {env:Env}:∀{names:List (Str×NameKind)} {x:Str},(∀y∈names,y.2≠.cell)->
    ((names.map λ(n,k)=>if (k==NameKind.free&&env.scope.kind==.function&&env.kindOf n==some .cell) then (n,NameKind.cell) else (n,k)).lookup x=some .cell\/
     (names.map λ(n,k)=>if (k==NameKind.free&&env.scope.kind==.function&&env.kindOf n==some .cell) then (n,NameKind.cell) else (n,k)).lookup x=some .free)->(x,NameKind.free)∈names
  | [],_,_,h=>by simp at h
  | (n,k)::r,x,hc,h=>by
    have ih:=@mT env r x λy hy=>hc y (aJV _ hy);have hk:k≠.cell:=hc (n,k) aRA;simp only [aPB] at h
    by_cases q:(k==NameKind.free&&env.scope.kind==.function&&env.kindOf n==some .cell)=true
    . rw [if_pos q] at h
      simp only [aR3] at h;cases b:x==n with
      | true=>
        have:k = .free:=by simp only [aLI] at q;exact eq_of_beq q.1.1
        subst this;rw [eq_of_beq b];exact aRA
      | false=>rw [b] at h;exact aJV _ (ih h)
    . rw [if_neg q] at h
      simp only [aR3] at h;cases b:x==n with
      | true=>
        rw [b] at h;rcases h with h | h
        . exact absurd (Option.some.inj h) hk
        . have:k = .free:=Option.some.inj h
          subst this;rw [eq_of_beq b];exact aRA
      | false=>rw [b] at h;exact aJV _ (ih h)
theorem oH {env:Env}:∀{names:List (Str×NameKind)} {x:Str},names.lookup x=some .free->
    ((names.map λ(n,k)=>if (k==NameKind.free&&env.scope.kind==.function&&env.kindOf n==some .cell) then (n,NameKind.cell) else (n,k)).lookup x=some .cell\/
     (names.map λ(n,k)=>if (k==NameKind.free&&env.scope.kind==.function&&env.kindOf n==some .cell) then (n,NameKind.cell) else (n,k)).lookup x=some .free)
  | [],_,h=>by simp at h
  | (n,k)::r,x,h=>by
    have ih:=@oH env r x;simp only [aPB];simp only [aR3] at h
    by_cases q:(k==NameKind.free&&env.scope.kind==.function&&env.kindOf n==some .cell)=true
    . rw [if_pos q]
      simp only [aR3];cases b:x==n with
      | true=>exact .inl rfl
      | false=>rw [b] at h;exact ih h
    . rw [if_neg q]
      simp only [aR3];cases b:x==n with
      | true=>rw [b] at h;exact .inr h
      | false=>rw [b] at h;exact ih h
def cV (X:Cx) (N':List Str) (scope:aVV) (C:aVA) (s3:Shared) (H3:Hp) (fp:List aVA):Cx:=
 { X with N:=N',s₀:=s3,H₀:=H3,env:=compEnvC scope (lW scope X.env) C X.env,outer:=X.stack,stack:=X.stack,ex:=fp,fn:=λ_=>false,pn:=[],xe:=λ_ _=>False }
def dO (t:Nat) (cap:List Nat) (σ:St):St:=aN2 t none++cap.map λk=>(σ[k]?).join
def aO4 (J:It) (D:aVA) (g:TG) (te:TE) (Q:VK) (σ:St) (H:Hp):Prop:=∃W:Nat->Nat->St->Hp->Prop,(∃m,W 0 m σ H)/\∀i m σ' H',W i m σ' H'->
 (J.stop i H'/\Q (.ref D) H')\/(J.go i H'/\∀x H2,J.yld i H' x H2->g x σ' H2 λσ3 H3=>te σ3 H3 λy H4=>∃ys,H4 D=some (.lst ys)/\ys.length<aVI/\∃m',m'<m/\W (i+1) m' σ3 (upd H4 D (.lst (ys++[y]))))
def aBP (t:Nat) (cap:List Nat) (wi:TI) (g:TG) (te:TE):TE:=λσ H Q=>wi σ H λJ H1=>∀D,H1 D=none->aO4 J D g te Q (dO t cap σ) (upd H1 D (.lst []))
structure bN (X:Cx) (N':List Str) (scope:aVV) (t:Nat) (cap:List Nat):Prop where
 kind:scope.kind = .function
 cell:∀y∈scope.names,y.2≠.cell
 names:∀y∈scope.names,y.2 = .local->scope.names.lookup y.1=some .local
 free:∀y∈scope.names,y.2 = .free->(X.env.kindOf y.1=some .cell\/X.env.kindOf y.1=some .free)
 len:N'.length=t+cap.length
 caps:∀(j k:Nat),cap[j]? = some k->∃x,N'[t+j]? = some x/\X.N[k]? = some x/\scope.names.lookup x=some .free
section
variable {X:Cx}
theorem lV {pins:List (aVA×Obj)} {σ:St} {H3:Hp} {s3:Shared} {N':List Str} {scope:aVV} {t:Nat} {cap:List Nat} {fp:List aVA} {h₁:Heap} {tk:Nat} (S:bN X N' scope t cap) (I3:aT X pins σ H3 s3)
  (hf:∀b∈fp,jP X pins H3 b) (hob:∀b∈fp,∃o,s3.heap.get? b=some o) (hns:h₁.Ns s3.heap.objs.size λ_=>none) (k:∀b o,s3.heap.get? b=some o->h₁.get? b=some o) :
  aT (cV X N' scope s3.heap.objs.size s3 H3 fp) [] (dO t cap σ) H3 { s3 with heap:=h₁,toks:=tk }:=by
 have cellOld:∀{x:Str} {c:aVA},(lW scope X.env).lookup x=some c->X.env.cells.lookup x=some c:=λe=>mB e;have isCellK:∀{c:aVA} {v:Option Value},s3.heap.IsCell c v->h₁.IsCell c v:=λ⟨o,e,d⟩=>⟨o,k _ _ e,d⟩;have memOf:∀{x:Str},scope.names.lookup x=some .free->(x,NameKind.free)∈scope.names:=λe=>PySem.mem_of_lookup e;refine ⟨⟨I3.mod,S.kind,I3.ok.glob,I3.ok.blt,aDP _,?_,?_,?_,I3.ok.hd,I3.ok.frames,.inl rfl,?_,I3.bs,aPW I3.ok.bsz I3.sz,?_,?_,I3.stack,I3.stkFree⟩,
  rfl,I3.bare,Un.kept k,⟨_,hns,?_⟩,?_,?_,?_,?_,I3.hok.kept k,?_⟩
 ·intro x y c h1 h2;exact I3.ok.inj x y c (cellOld h1) (cellOld h2)
 ·intro x hx;have hm:(x,NameKind.free)∈scope.names:=mT S.cell hx;obtain ⟨c,hc⟩:=I3.ok.has x (S.free _ hm rfl);exact ⟨c,xL hm hc⟩
 ·intro x c h;cases h
 ·intro b hb;obtain ⟨o,ho⟩:=hob b hb;exact ⟨aHH (aDD ho),λx c e=>(hf b hb).2.2.2.2.1 x c (cellOld e)⟩
 ·intro b o e hb;rcases (hf b hb).2.2.2.1 with z | z
  ·exact I3.ok.noex b o e z
  ·exact absurd (aEG (aEG (aDD e) I3.ok.bsz) z) (Nat.lt_irrefl _)
 ·intro b hb hz;rcases aB1.mp (I3.stkSub b hz) with z | z
  ·exact (hf b hb).2.1 z
  ·exact (hf b hb).2.2.1 z
 ·intro i x v e1 e2 e3;have ht:t<=i:=by
   rcases aRB i t with q | q
   ·unfold dO at e2;rw [aG6 (by simpa using q),aUX] at e2;split at e2<;>cases e2
   ·exact q
  obtain ⟨j,rfl⟩:∃j,i=t+j:=⟨i-t,by omega⟩;unfold dO at e2;rw [aLZ (by simp),aTJ,Nat.add_sub_cancel_left,aDF] at e2;cases q:cap[j]? with
  | none=>rw [q] at e2;cases e2
  | some m=>
   rw [q] at e2;have e2':(σ[m]?).join=some v:=Option.some.inj e2;have e2'':σ[m]? = some (some v):=by
    cases z:σ[m]? with
    | none=>rw [z] at e2';cases e2'
    | some w=>rw [z] at e2';have:w=some v:=e2';rw [this]
   obtain ⟨x',c1,c2,c3⟩:=S.caps j m q;have ex:x'=x:=by
    have e1':N'[t+j]? = some x:=e1;rw [c1] at e1';exact Option.some.inj e1'
   subst ex;have hk:=S.free _ (memOf c3) rfl;obtain ⟨mm,hn,hl⟩:=I3.loc;obtain ⟨u,r,L⟩:=hl m x' v c2 e2'' (by rcases hk with z | z;exact .inr (.inl z);exact .inr (.inr z));refine ⟨u,r,?_⟩;rcases L with ⟨z,_⟩ | ⟨_,c,hc,hcell⟩
   ·rcases hk with y | y<;>(have y':X.env.kindOf x'=_:=y;rw [z] at y';cases y')
   ·exact .inr ⟨oH c3,c,xL (memOf c3) hc,isCellK hcell⟩
 ·intro x c e;obtain ⟨v,z⟩:=I3.cell x c (cellOld e);exact ⟨v,isCellK z⟩
 ·exact I3.hok.fresh (aDP _)
 ·intro x c e;exact I3.freeC x c (cellOld e)
 ·intro p hp;exact absurd (show p∈([]:List (aVA×Obj)) from hp) (by simp)
 ·show (dO t cap σ).length=N'.length;unfold dO;rw [S.len,aIG,aTJ,aBC]
theorem aIY {target elt iter:Expr} {scope:aVV} {pos:Pos} {N':List Str} {cap:List Nat} {t:Nat} {wi:TI} {g:TG} {te:TE} (hc:X.calm=true) (S:bN X N' scope t cap) (hi:PI X target iter wi)
  (hg:∀C s3 H3 fp,PG (cV X N' scope C s3 H3 fp) target g) (he:∀C s3 H3 fp,PE (cV X N' scope C s3 H3 fp) elt te) (hs:∀x,aVN iter X.env x=pure x:=by intro _;rfl) :
  PE X (.ListComp elt [⟨target,iter,[],0⟩] scope pos) (aBP t cap wi g te):=by
 intro pins s σ H Q I h;rw [eval_ListComp];refine wpAny_comprehension_free (use:=none) (cl:=lW scope X.env) rfl hs (iS λy hy hf=>I.ok.has y.1 (S.free y hy hf)) S.kind S.names (cF (hi pins s σ H _ I h) λv s1 h1=>cF h1 λitv s2 h2=>?_);obtain ⟨it,fp,tn,J,H2,e,I2,T,st2,f2,h2⟩:=h2;subst e;refine aVQ (wpAny_newFunctionEnv S.cell (by intro y hy;simp at hy) (λh₁ hns₁ hsb₁=>?_) S.kind)
 dsimp only at hns₁ hsb₁ ⊢
 obtain ⟨s3,hs3⟩:∃s3:Shared,s3 = { s2 with heap:=s2.heap.push { cls:=.type "list",dict:=none,data:=.seq ([]:List Value).toArray } }:=⟨_,rfl⟩;have hD:H2 s2.heap.objs.size=none:=I2.hok.fresh (aDP _);have I3:aT X pins σ (upd H2 s2.heap.objs.size (.lst [])) s3:=by
  rw [hs3];exact I2.laid (t':=s2.toks) (λb u e=>aDA _ e) (aDP _) ⟨aQ5 _,[],0,.nil,aG4 _ rfl⟩
 have hsz3:s3.heap.objs.size=s2.heap.objs.size+1:=by rw [hs3];exact aSZ ..
 have old3:∀b o,s2.heap.get? b=some o->s3.heap.get? b=some o:=λb o e=>by rw [hs3];exact aDA _ e
 have hC:(s2.heap.push { cls:=.type "list",dict:=none,data:=.seq ([]:List Value).toArray }).objs.size=s3.heap.objs.size:=by rw [hs3]
 have f3:∀b∈fp,jP X pins (upd H2 s2.heap.objs.size (.lst [])) b:=λb hb=>by
  obtain ⟨o,ho,_⟩:=T.obj _ _ st2 b hb;refine ⟨?_,(f2 b hb).2⟩;rw [aR (aHH (aDD ho))];exact (f2 b hb).1
 have ob3:∀b∈fp,∃o,s3.heap.get? b=some o:=λb hb=>by
  obtain ⟨o,ho,_⟩:=T.obj _ _ st2 b hb;exact ⟨o,old3 b o ho⟩
 have k1:∀b o,s3.heap.get? b=some o->h₁.get? b=some o:=λb o e=>by
  refine hsb₁.extBut b o ?_ ?_
  ·rw [hC];exact aHH (aDD e)
  ·rw [hs3] at e;exact aDA _ e
 have hns:h₁.Ns s3.heap.objs.size λ_=>none:=by
  rw [<-hC];exact hns₁
 have I4:=lV (tk:=s2.toks+([]:List (Str×Value)).length) S I3 f3 ob3 hns k1;have st4:tn 0 h₁:=T.keep _ _ _ st2 λb hb o e=>k1 b o (old3 b o e);obtain ⟨W,⟨m0,w0⟩,turn⟩:=h2 _ hD
 -- the block's context
 obtain ⟨X',hX'⟩:∃X':Cx,X'=cV X N' scope s3.heap.objs.size s3 (upd H2 s2.heap.objs.size (.lst [])) fp:=⟨_,rfl⟩;have hg':PG X' target g:=by rw [hX'];exact hg _ _ _ _
 have he':PE X' elt te:=by rw [hX'];exact he _ _ _ _
 have stat:∀{H':Hp},(∀b∈fp,H' b=none)->∀b∈fp,jP X' [] H' b:=λhn b hb=>by
  obtain ⟨o,ho⟩:=ob3 b hb;rw [hX'];refine ⟨hn b hb,aHH (aDD ho),?_,.inl hb,λx c e=>(f3 b hb).2.2.2.2.1 x c (mB e),λp hp=>absurd (show p∈([]:List (aVA×Obj)) from hp) (by simp)⟩;intro hz;rcases aB1.mp (I3.stkSub b hz) with z | z
  ·exact (f3 b hb).2.1 z
  ·exact (f3 b hb).2.2.1 z
 have hcalm:X'.calm=true:=by rw [hX'];exact hc
 have loop:aWN (aVG X.prog X.w) X.A (.compLoop (.ListComp elt [⟨target,iter,[],0⟩] scope pos) 0 (.ref it) (.ref s2.heap.objs.size) (compEnvC scope (lW scope X.env) s3.heap.objs.size X.env))
   (compPost (aVG X.prog X.w) X.A X.xe none (EP X pins σ Q) (.ref s2.heap.objs.size) s3.heap.objs.size) { s3 with heap:=h₁,toks:=s2.toks+([]:List (Str×Value)).length }:=by
  refine gL (λn s'=>∃i σ' H',aT X' [] σ' H' s'/\tn i s'.heap/\(∀b∈fp,H' b=none)/\W i n σ' H') ?_ m0 ⟨0,dO t cap σ,_,by rw [hX'];exact I4,st4,λb hb=>(f3 b hb).1,w0⟩;rintro n s5 ⟨i,σ5,H5,I5,st5,fr5,w5⟩;rcases turn i n σ5 H5 w5 with ⟨stop,qn⟩ | ⟨go,step⟩
  ·have q:=T.done X' (by rw [hX'];rfl) (by rw [hX'];rfl) (by rw [hX'];rfl) hcalm i [] s5 σ5 H5 (λ_ _=>False) I5 (stat fr5) st5 stop;have eA:X'.A=X.A:=by rw [hX'];rfl
   rw [eA] at q;refine cF q λr s6 ⟨hr,I6⟩=>?_;subst hr;obtain ⟨m,hn,_⟩:=I6.loc;have hn':s6.heap.Ns s3.heap.objs.size m:=by rw [hX'] at hn;exact hn
   refine ⟨m,hn',λh' hs'=>?_⟩;have un6:Un (xP X.stack) fp (upd H2 s2.heap.objs.size (.lst [])) H5 s3.heap s6.heap:=by have:=I6.base;rw [hX'] at this;exact this
   have hok6:kT X.prog X.w H5 s6.heap:=by have:=I6.hok;rw [hX'] at this;exact this
   have free6:H5 s3.heap.objs.size=none:=by have:=I6.free;rw [hX'] at this;exact this
   have kp:∀b o,b≠s3.heap.objs.size->s6.heap.get? b=some o->h'.get? b=some o:=λb o hb e=>hs'.extBut b o hb e;have neC:∀{b:aVA} {o:Obj},s3.heap.get? b=some o->b≠s3.heap.objs.size:=λe=>aHH (aDD e);have un7:Un (xP X.stack) fp (upd H2 s2.heap.objs.size (.lst [])) H5 s3.heap h':=
    ⟨λb o e n1 n2 n3=>kp b o (neC e) (un6.keep b o e n1 n2 n3),λb o e n1 n2 n3=>by obtain ⟨sl,z⟩:=un6.slot b o e n1 n2 n3;exact ⟨sl,kp b _ (neC e) z⟩,un6.free,
     λb o e n3=>by obtain ⟨o',z⟩:=un6.there b o e n3;exact ⟨o',kp b _ (neC e) z⟩,un6.tups,un6.frzs,un6.tbls⟩
   have hok7:kT X.prog X.w H5 h':=λb ob e=>by
    refine (hok6 b ob e).stay (λc w' hc' q=>kp c w' ?_ q) (λ_ q=>q) λ_ _ q=>q;rintro rfl;rcases hc' with rfl | hc'
    ·rw [free6] at e;cases e
    ·rw [free6] at hc';cases hc'
   refine ⟨.ref s2.heap.objs.size,H5,I3.call' (s':={ s6 with heap:=h' }) (ch:=fp) ?_ un7 hok7 I6.bare (λb hb=>⟨(f3 b hb).2.2.2.1,(f3 b hb).2.1,(f3 b hb).2.2.2.2.1,(f3 b hb).2.2.2.2.2⟩),rfl,qn⟩;show s6.os=s3.os;have:=I6.os;rw [hX'] at this;exact this
  ·have q:=T.item X' (by rw [hX'];rfl) (by rw [hX'];rfl) (by rw [hX'];rfl) hcalm i [] s5 σ5 H5 (λ_ _=>False) I5 (stat fr5) st5 go;have eA:X'.A=X.A:=by rw [hX'];rfl
   have eP:X'.prog=X.prog:=by rw [hX'];rfl
   have eW:X'.w=X.w:=by rw [hX'];rfl
   have eE:X'.env=compEnvC scope (lW scope X.env) s3.heap.objs.size X.env:=by rw [hX'];rfl
   have eX:X'.xe=λ_ _=>False:=by rw [hX'];rfl
   rw [eA] at q;refine cF q λr s6 ⟨u,hr,h6⟩=>?_;subst hr;refine cF h6 λ_ s7 ⟨x,H7,I7,r7,y7,st7,fr7⟩=>?_;have I7':=I7.pinned (stat fr7) (T.obj _ _ st7);have q8:=hg' _ s7 σ5 H7 x u _ I7' r7 (step x H7 y7);rw [eA,eP,eW,eE,eX] at q8;refine cF q8 λ_ s8 ⟨σ8,H8,I8,w8⟩=>?_;have q9:=he' _ s8 σ8 H8 _ I8 w8;rw [eA,eP,eW,eE,eX] at q9;refine cF q9 λy s9 ⟨v9,H9,I9,r9,ys,hD9,hlt,m',hm,w9⟩=>?_;have q10:=kK (X:=X') _ s9 σ8 H9 (.ref s2.heap.objs.size) [v9] (.ref s2.heap.objs.size) [y] (λ_ H10=>H10=upd H9 s2.heap.objs.size (.lst (ys++[v9]))) I9 rfl (.cons r9 .nil) ⟨_,ys,v9,rfl,rfl,hD9,hlt,rfl⟩;rw [eA,eP,eW,eX] at q10;refine cF q10 λ_ s10 ⟨v10,H10,I10,r10,e10⟩=>?_;subst e10;refine ⟨m',hm,i+1,σ8,_,I10.unpinned,T.keep _ _ _ st7 λb hb o e=>(I10.pin (b,o) (aG2 _ (aG2 _ (cR hb e)))).1,λb hb=>?_,w9⟩;obtain ⟨o,e,d⟩:=T.obj _ _ st7 b hb;exact (I10.pin (b,o) (aG2 _ (aG2 _ (cR hb e)))).2.1
 have es:({ s2 with heap:=h₁,toks:=s2.toks+([]:List (Str×Value)).length }:Shared) = { s3 with heap:=h₁,toks:=s2.toks+([]:List (Str×Value)).length }:=by rw [hs3]
 rw [es,hC];exact codeAny_compStart_list loop (T.self _ 0 _ _ _ st4 loop)
end
section
variable {X:Cx} {pos:Pos}
def aKY (i j k:Nat) (ta:TA):TS:=λD σ H=>ta σ H λvs H1=>∃v w z,vs=[v,w,z]/\D.nx (((σ.set i (some v)).set j (some w)).set k (some z)) H1
theorem aIN {i j k:Nat} {x y z:Str} {a b c:Expr} {ta:TA} {px py pz pt:Pos} {kt k2 pt2} (hc:X.calm=true) (hN:X.N.Nodup) (hi:X.N[i]? = some x) (hj:X.N[j]? = some y) (hk:X.N[k]? = some z) (hij:i≠j) (hik:i≠k) (hjk:j≠k)
  (hx:X.env.scope.names.lookup x=some .local) (hy:X.env.scope.names.lookup y=some .local) (hz:X.env.scope.names.lookup z=some .local) (ha:PA X [a,b,c] ta)
  (hw:aVY [.Tuple [.Name x px,.Name y py,.Name z pz] kt pt] (.Tuple [a,b,c] k2 pt2) X.env=pure (some [x,y,z]))
  (hs:aVX [.Tuple [.Name x px,.Name y py,.Name z pz] kt pt] (.Tuple [a,b,c] k2 pt2) pos.line X.env=pure false:=by rfl) :
  PS X (.Assign [.Tuple [.Name x px,.Name y py,.Name z pz] kt pt] (.Tuple [a,b,c] k2 pt2) pos) (aKY i j k ta):=by
 intro pins s σ H D I h;rw [exec_Assign_arm];refine aVB (aWB ?_);rw [hs];refine aVB (aVE ?_);rw [if_neg (by decide)];refine aVB (Tuple_ (cF (ha _ pins s σ H _ I h) λus s1 ⟨vs,H1,I1,r1,q1⟩=>?_));obtain ⟨v,w,zz,e1,q1⟩:=q1;subst e1;obtain ⟨u1,u2,u3,rfl,rv,rw',rz⟩:∃u1 u2 u3,us=[u1,u2,u3]/\bG v u1/\bG w u2/\bG zz u3:=by
  cases r1 with
  | cons p q=>
   cases q with
   | cons p' q'=>
    cases q' with
    | cons p'' q''=>
     cases q'';exact ⟨_,_,_,rfl,p,p',p''⟩
 refine aVQ ?_ (by show 3<=aVI;decide);have I2:aT X pins σ H1 { s1 with heap:=s1.heap.push { cls:=.type "tuple",data:=.seq [u1,u2,u3].toArray } }:=I1.kept (t':=s1.toks) λb o e=>aDA _ e;rw [hw];refine aVB (aVE ?_);show aVC (aVG X.prog X.w) X.A (do rule "assign.swapped-stores";let items <-unpackItems (.ref s1.heap.objs.size) 3 none;aWK [λv=>aV9 X.env z v,λv=>aV9 X.env y v,λv=>aV9 X.env x v] items.reverse;pure Flow.next) _ _ _;refine aVB (aWP (aVB (unpackItems_tuple (items:=#[u1,u2,u3]) (I.ok.hd hc) (IsTup.new s1.heap _) λh' hx'=>?_)));have I3:=I2.kept (h':=h') (t':=s1.toks) λb o e=>hx' b o (aHH (aDD e)) e;show aVC _ _ (aWK [λv=>aV9 X.env z v,λv=>aV9 X.env y v,λv=>aV9 X.env x v] [u3,u2,u1] >>= λ_=>pure Flow.next) _ _ _;refine aVB (aV0 (aWF (hU I3 hN hk (.inl hz) rz (λs2 I4=>?_) (.inr hz))));refine aV0 (aWF (hU I4 hN hj (.inl hy) rw' (λs3 I5=>?_) (.inr hy)));refine aV0 (aWF (hU I5 hN hi (.inl hx) rv (λs4 I6=>aWS (aVE ?_)) (.inr hx)));rw [aT4 _ _ (Ne.symm hij),aT4 _ _ (Ne.symm hik),aT4 _ _ (Ne.symm hjk)] at I6;exact ⟨_,H1,I6,q1⟩
structure Fn (P:aVD) (w:aVH) (K:W.Frag) (mg:Str->Option Value) (base:Heap) (k:Nat) (x:Str) (ps:List Str) (sp:Sp):Prop where
 ex:∃f fd,bL P w K mg base fP k f fd ps sp/\mg x=some (.ref f)/\W.keepIn K (.ref f)=true/\oE K fd ps []
theorem aOH {k j:Nat} {x:Str} {ps:List Str} {sp:Sp} {e:Expr} {es:List Expr} {t:TA} {p:Pos} (F:Fn X.prog X.w X.K X.mg X.base k x ps sp) (hr:dD j X.A) (hk:k<=j) (hg:Gl X x) (ha:PA X (e::es) t) (hdb:(x==("__debug__":Str))=false:=by decide)
  (he:aVL (e::es) X.env=(false,aVP e X.env)::aVL es X.env:=by rfl) (hpl:(aWI pos (aVL es X.env)).any (·.1)=false:=by rfl):PE X (.Call (.Name x p) (e::es) [] pos) (xH sp [] E0 t):=by
 obtain ⟨f,fd,F,hm,hkp,hb⟩:=F.ex;exact aJK F (hr.mono hk) hg hm hkp hb .nil aQT ha hdb he hpl
end
def bX:Expr->Bool
 | .Starred _ _=>true
 | _=>false
theorem cN {e:Expr} {es:List Expr} {env:Env} (h:bX e=false):aVL (e::es) env=(false,aVP e env)::aVL es env:=by
 cases e<;>first | rfl | (simp [bX] at h)
def bJ:List Expr->Bool
 | []=>true
 | e::es=>!bX e&&bJ es
theorem fG {pos:Pos} {env:Env}:∀{es:List Expr},bJ es=true->(aWI pos (aVL es env)).any (·.1)=false
 | [],_=>rfl
 | e::es,h=>by
  have h1:bX e=false:=by simp only [bJ,aLI,aS7] at h;exact h.1
  have h2:bJ es=true:=by simp only [bJ,aLI] at h;exact h.2
  have ih:=fG (pos:=pos) (env:=env) h2;rw [cN h1];simp only [aWI,aPB,aTD,Bool.false_or] at ih ⊢;exact ih
section
variable {X:Cx} {pos:Pos} {e:Expr} {es:List Expr} {te:TE} {t:TA}
theorem pc (ha:PE X e te) (hr:PA X es t) (hs:bX e=false:=by rfl):PA X (e::es) (aF6 te t):=aIV ha hr (cN hs)
theorem aLQ {k j:Nat} {x:Str} {ps:List Str} {sp:Sp} {p:Pos} (F:Fn X.prog X.w X.K X.mg X.base k x ps sp) (hr:dD j X.A) (hk:k<=j) (hg:Gl X x) (ha:PA X (e::es) t) (hdb:(x==("__debug__":Str))=false:=by decide)
  (hs:bJ (e::es)=true:=by rfl):PE X (.Call (.Name x p) (e::es) [] pos) (xH sp [] E0 t):=
 aOH F hr hk hg ha hdb (cN (by simp only [bJ,aLI,aS7] at hs;exact hs.1)) (fG (by simp only [bJ,aLI] at hs;exact hs.2))
theorem aC0 {x:Str} {p:Pos} {id:String} {r:List V->Hp->VK->Prop} (hc:fQ X (.builtin id) r) (hg:Gl X x) (hm:X.mg x=none) (hv:aVS x=some (.builtin id)) (ha:PA X (e::es) t) (hn:x≠"__name__":=by decide) (hdb:(x==("__debug__":Str))=false:=by decide)
  (hs:bJ (e::es)=true:=by rfl):PE X (.Call (.Name x p) (e::es) [] pos) (tCB r t):=
 aDW hc hg hm hv ha hn hdb (cN (by simp only [bJ,aLI,aS7] at hs;exact hs.1)) (fG (by simp only [bJ,aLI] at hs;exact hs.2))
theorem yX {x:Str} {p:Pos} {T:String} {r:List V->Hp->VK->Prop} (hc:fQ X (.type T) r) (hg:Gl X x) (hm:X.mg x=none) (hv:aVS x=some (.type T)) (ha:PA X (e::es) t) (hn:x≠"__name__":=by decide) (hdb:(x==("__debug__":Str))=false:=by decide)
  (hs:bJ (e::es)=true:=by rfl):PE X (.Call (.Name x p) (e::es) [] pos) (tCB r t):=
 aBX hc hg hm hv ha hn hdb (cN (by simp only [bJ,aLI,aS7] at hs;exact hs.1)) (fG (by simp only [bJ,aLI] at hs;exact hs.2))
end
structure QE (X:Cx) (e:Expr) (t:TE):Prop where
 h:PE X e t
structure QT (X:Cx) (e:Expr) (t:TT):Prop where
 h:PT X e t
structure QW (X:Cx) (e:Expr) (t:TT):Prop where
 h:PW X e t
structure QA (X:Cx) (es:List Expr) (t:TA):Prop where
 h:PA X es t
structure QS (X:Cx) (st:aVK) (t:TS):Prop where
 h:PS X st t
structure QB (X:Cx) (st:List aVK) (t:TS):Prop where
 h:PSs X st t
structure QG (X:Cx) (e:Expr) (t:TG):Prop where
 h:PG X e t
structure yC (X:Cx) (es:List Expr) (t:TGs):Prop where
 h:PGs X es t
structure QI (X:Cx) (tg e:Expr) (t:TI):Prop where
 h:PI X tg e t
structure QO (X:Cx) (e:Option Expr) (t:TO):Prop where
 h:PO X e t
def aAI (sc scope:aVV) (N N':List Str) (t:Nat) (cap:List Nat):Bool:=
 decide (scope.kind = .function)&&scope.names.all (λy=>decide (y.2≠.cell))&&scope.names.all (λy=>decide (y.2 = .local->scope.names.lookup y.1=some .local)) &&
 scope.names.all (λy=>decide (y.2 = .free->(sc.names.lookup y.1=some .cell\/sc.names.lookup y.1=some .free)))&&decide (N'.length=t+cap.length) &&
 (aS1 cap.length).all (λj=>match cap[j]?,N'[t+j]? with | some k,some x=>decide (N[k]? = some x/\scope.names.lookup x=some .free) | _,_=>false)
theorem bN.of {X:Cx} {N':List Str} {scope:aVV} {t:Nat} {cap:List Nat} (h:aAI X.env.scope scope X.N N' t cap=true):bN X N' scope t cap:=by
 simp only [aAI,aLI,aN7,decide_eq_true_eq] at h;obtain ⟨⟨⟨⟨⟨h1,h2⟩,h3⟩,h4⟩,h5⟩,h6⟩:=h;refine ⟨h1,h2,h3,h4,h5,λj k e=>?_⟩;have hj:j<cap.length:=(aA7.mp e).1;have h:=h6 j (aQ7.mpr hj);rw [e] at h;cases q:N'[t+j]? with
 | none=>rw [q] at h;cases h
 | some x=>
  rw [q] at h;have h':=of_decide_eq_true h;exact ⟨x,rfl,h'.1,h'.2⟩
section
variable {X:Cx} {pos:Pos} {a b c e l o i value:Expr} {es:List Expr} {ta tb te to ti tl:TE} {tc tA tB':TT} {t u tbd:TS} {tr:TA} {g:TG} {gs:TGs} {wi:TI} {st:aVK} {sts body b1 b2:List aVK} {rest:List Expr}
theorem aGY:QB X [] aKU:=⟨aH9⟩
theorem o8 (h1:QS X st t) (h2:QB X sts u):QB X (st::sts) (aPS t u):=⟨aGV h1.h h2.h⟩
theorem tM (h1:QS X st t):QB X [st] t:=⟨aHG h1.h⟩
theorem aGH (h:QE X e te):QS X (.Return (some e) pos) (aPC te):=⟨aNF h.h⟩
theorem aKA (hc:QT X c tc) (ha:QB X b1 t) (hb:QB X b2 u):QS X (.If c b1 b2 pos) (aQE tc t u):=⟨aP5 hc.h ha.h hb.h⟩
theorem aFN (hp:PassesOwn (aVG X.prog X.w) X.A X.env X.xe) (hc:QT X c tc) (hb:QB X body tbd):QS X (.While c body [] pos) (aDL tc tbd):=⟨aD4 hp hc.h hb.h⟩
theorem yZ {tg iter:Expr} (hp:PassesOwn (aVG X.prog X.w) X.A X.env X.xe) (hc:X.calm=true) (hi:QI X tg iter wi) (hg:QG X tg g) (hb:QB X body tbd) (hs:∀x,aVN iter X.env x=pure x:=by intro _;rfl) :
  QS X (.For tg iter body [] pos) (aP2 wi g tbd):=⟨aM1 hp hc hi.h hg.h hb.h hs⟩
theorem aAY (he:QE X e te) (hs:aV3 e none pos.line X.env=pure false:=by rfl):QS X (.Expr e pos) (aKK te):=⟨aJW he.h hs⟩
theorem zB {i:Nat} {x:Str} {pos':Pos} (hN:X.N.Nodup) (hi:X.N[i]? = some x) (hx:Loc X.env.scope x) (he:QE X e te) (hs:aV3 e (some (.Name x pos')) pos.line X.env=pure false:=by rfl)
  (hf:X.fn x=true\/X.env.scope.names.lookup x=some .local:=by first | exact .inl rfl | exact .inr rfl | assumption):QS X (.Assign [.Name x pos'] e pos) (aEI te (vP i)):=⟨aMH hN hi hx he.h hs hf⟩
theorem aL8 {tg:Expr} (he:QE X e te) (hg:QG X tg g) (hs:aVX [tg] e pos.line X.env=pure false:=by rfl) (hw:aVY [tg] e X.env=pure none:=by rfl)
  (h1:(aVO [tg] X.env).map (·.2)=[aV5 tg X.env]:=by rfl):QS X (.Assign [tg] e pos) (aEI te g):=⟨aMS he.h hg.h hs hw h1⟩
theorem aNE {i j:Nat} {x y:Str} {px py pt:Pos} {kt k2 pt2} (hc:X.calm=true) (hN:X.N.Nodup) (hi:X.N[i]? = some x) (hj:X.N[j]? = some y) (hij:i≠j)
  (hx:X.env.scope.names.lookup x=some .local) (hy:X.env.scope.names.lookup y=some .local) (ha:QA X [a,b] tr)
  (hw:aVY [.Tuple [.Name x px,.Name y py] kt pt] (.Tuple [a,b] k2 pt2) X.env=pure (some [x,y]))
  (hs:aVX [.Tuple [.Name x px,.Name y py] kt pt] (.Tuple [a,b] k2 pt2) pos.line X.env=pure false:=by rfl) :
  QS X (.Assign [.Tuple [.Name x px,.Name y py] kt pt] (.Tuple [a,b] k2 pt2) pos) (aQJ i j tr):=⟨aND hc hN hi hj hij hx hy ha.h hw hs⟩
theorem aHN {i j k:Nat} {x y z:Str} {px py pz pt:Pos} {kt k2 pt2} (hc:X.calm=true) (hN:X.N.Nodup) (hi:X.N[i]? = some x) (hj:X.N[j]? = some y) (hk:X.N[k]? = some z) (hij:i≠j) (hik:i≠k) (hjk:j≠k)
  (hx:X.env.scope.names.lookup x=some .local) (hy:X.env.scope.names.lookup y=some .local) (hz:X.env.scope.names.lookup z=some .local) (ha:QA X [a,b,c] tr)
  (hw:aVY [.Tuple [.Name x px,.Name y py,.Name z pz] kt pt] (.Tuple [a,b,c] k2 pt2) X.env=pure (some [x,y,z]))
  (hs:aVX [.Tuple [.Name x px,.Name y py,.Name z pz] kt pt] (.Tuple [a,b,c] k2 pt2) pos.line X.env=pure false:=by rfl) :
  QS X (.Assign [.Tuple [.Name x px,.Name y py,.Name z pz] kt pt] (.Tuple [a,b,c] k2 pt2) pos) (aKY i j k tr):=⟨aIN hc hN hi hj hk hij hik hjk hx hy hz ha.h hw hs⟩
theorem aAU {i:Nat} {x:Str} (hN:X.N.Nodup) (hi:X.N[i]? = some x) (hx:Loc X.env.scope x) (hf:X.fn x=true\/X.env.scope.names.lookup x=some .local:=by first | exact .inl rfl | exact .inr rfl | assumption):QG X (.Name x pos) (vP i):=⟨aJB hN hi hx hf⟩
theorem aAB:yC X [] aPH:=⟨aHM⟩
theorem wY (h1:QG X e g) (h2:yC X es gs) (hs:(aVO (e::es) X.env).map (·.2)=aV5 e X.env::(aVO es X.env).map (·.2):=by rfl):yC X (e::es) (aJ8 g gs):=⟨aFT h1.h h2.h hs⟩
theorem aEB {k n:Nat} (hc:X.calm=true) (h:yC X es gs) (hn:(aVO es X.env).length=n:=by rfl) (hst:(aVO es X.env).findIdx? (·.1)=none:=by rfl):QG X (.Tuple es k pos) (aPR X.K n gs):=⟨aM2 hc h.h hn hst⟩
theorem aNK {ts:aI3} (ho:QE X o to) (hi:QE X i ti) (hs:aMK X ts)
  (ha:∀v,aV5 (.Subscript o i pos) X.env v=(do
   let ov <-aV7 [v] (aVP o X.env)
   let iv <-aV7 [v,ov] (aVP i X.env)
   standAt pos
   aV7 [v,ov,iv] (setItem ov iv v)
   release [v,ov,iv] []):=by intro _;rfl):QG X (.Subscript o i pos) (aQS to ti ts):=⟨aLG ho.h hi.h hs ha⟩
theorem aC2 {tg:Expr} {p:Pos} (hg:Gl X "range") (hm:X.mg "range" = none) (ha:QA X [a] tr) (hs:bX a=false:=by rfl):QI X tg (.Call (.Name "range" p) [a] [] pos) (aK2 tr):=⟨aC4 hg hm ha.h (cN hs)⟩
theorem aJL {p tpos:Pos} {elts:List Expr} {x1} (hg:Gl X "enumerate") (hm:X.mg "enumerate" = none) (ha:QA X [a] tr) (hs:bX a=false:=by rfl):QI X (.Tuple elts x1 tpos) (.Call (.Name "enumerate" p) [a] [] pos) (aJ9 X.K tr):=⟨aHR hg hm ha.h (cN hs)⟩
theorem tU {tg:Expr} (hl:QE X l tl):QI X tg l (aKD X.K tl):=⟨aIU hl.h⟩
theorem aMA {tg:Expr} (hl:QE X l tl):QI X tg l (aOG X.K tl):=⟨aLN hl.h⟩
theorem pO:QA X [] aJD:=⟨aLB⟩
theorem qc (ha:QE X e te) (hr:QA X es tr) (hs:bX e=false:=by rfl):QA X (e::es) (aF6 te tr):=⟨pc ha.h hr.h hs⟩
theorem aLS {i j pos}:QE X (.Constant (.int i) j pos) (tC (.int i)):=⟨aNW⟩
theorem aKW {b j pos}:QE X (.Constant (.bool b) j pos) (tC (.bl b)):=⟨aPU⟩
theorem aGT {j pos}:QE X (.Constant .none j pos) (tC .non):=⟨aLY⟩
theorem aNQ {x j pos}:QE X (.Constant (.str x) j pos) (tC (.str x)):=⟨uP⟩
theorem aHB {x:Str} {v:V} {u:Value} (hg:Gl X x) (hm:X.mg x=none) (hv:aVS x=some u) (r:bG v u) (hn:x≠"__name__":=by decide) (hd:(x==("__debug__":Str))=false:=by decide):QE X (.Name x pos) (tC v):=⟨aID hg hm hv r hn hd⟩
theorem qv (i:Nat) {x:Str} (hN:X.N[i]? = some x:=by rfl) (hv:Vis X.env.scope x:=by first | exact aDC rfl | exact aN3 (aDC rfl) | exact aN3 (aN3 rfl)) (hd:(x==("__debug__":Str))=false:=by decide)
  (hcd:(x==("__classdict__":Str))=false:=by decide):QE X (.Name x pos) (aJE i):=⟨yI hN hv hd hcd⟩
theorem aDR {op:Operator} {r:R2} (ho:kU X (aV2 op) r) (ha:QE X a ta) (hb:QE X b tb):QE X (.BinOp a op b pos) (tOp r ta tb):=⟨aOR ho ha.h hb.h⟩
theorem aPA {op:UnaryOp} {r:V->Hp->VK->Prop} (ho:UnR X (unaryOp op) r) (ha:QE X a ta):QE X (.UnaryOp op a pos) (tUn r ta):=⟨aOT ho ha.h⟩
theorem aBM {op:CmpOp} {r:R2} (ho:kU X (aVU op) r) (ha:QE X a ta) (hb:QE X b tb) (hm:aVM op b=false):QE X (.Compare a [op] [b] pos) (tOp r ta tb):=⟨aI6 ho ha.h hb.h hm⟩
theorem aM6 (ha:QE X a ta) (hb:QE X (.BoolOp .And (b::rest) pos) tb):QE X (.BoolOp .And (a::b::rest) pos) (aKF ta tb):=⟨aMB ha.h hb.h⟩
theorem aPX (ha:QE X a ta) (hb:QE X (.BoolOp .Or (b::rest) pos) tb):QE X (.BoolOp .Or (a::b::rest) pos) (aOB ta tb):=⟨aQX ha.h hb.h⟩
theorem aM5 {op} (h:QE X a ta):QE X (.BoolOp op [a] pos) ta:=⟨aL3 h.h⟩
theorem aFP (hc:QT X c tA) (ha:QE X a ta) (hb:QE X b tb):QE X (.IfExp c a b pos) (tIf tA ta tb):=⟨aEO hc.h ha.h hb.h⟩
theorem aL5 {x1} (h:QA X es tr):QE X (.Tuple es x1 pos) (aP9 tr):=⟨aK5 h.h⟩
theorem uT (h:QA X es tr):QE X (.List es pos) (aHL tr):=⟨aMT h.h⟩
theorem aKV {r:R2} (hr:IxR X r) (ha:QE X a ta) (hb:QE X b tb) (hs:o7 b):QE X (.Subscript a b pos) (tOp r ta tb):=⟨aQO hr ha.h hb.h hs⟩
theorem aIE:QO X none aA3:=⟨aHK⟩
theorem aI8 (h:QE X e te):QO X (some e) (aK1 te):=⟨aIT h.h⟩
theorem pR {r:V->Option Int->Option Int->Hp->VK->Prop} {lo hi:Option Expr} {tlo thi:TO} {p2:Pos} (hr:SlR X r) (he:QE X e te) (hl:QO X lo tlo) (hu:QO X hi thi):QE X (.Subscript e (.Slice lo hi none p2) pos) (tSl r te tlo thi):=⟨aF7 hr he.h hl.h hu.h⟩
theorem aDG {k j:Nat} {x:Str} {ps:List Str} {sp:Sp} {p:Pos} (F:Fn X.prog X.w X.K X.mg X.base k x ps sp) (hr:dD j X.A) (hk:k<=j) (hg:Gl X x) (ha:QA X (e::es) tr) (hdb:(x==("__debug__":Str))=false:=by decide)
  (hs:bJ (e::es)=true:=by rfl):QE X (.Call (.Name x p) (e::es) [] pos) (xH sp [] E0 tr):=⟨aLQ F hr hk hg ha.h hdb hs⟩
theorem dU {x:Str} {p:Pos} {id:String} {r:List V->Hp->VK->Prop} (hc:fQ X (.builtin id) r) (hg:Gl X x) (hm:X.mg x=none) (hv:aVS x=some (.builtin id)) (ha:QA X (e::es) tr) (hn:x≠"__name__":=by decide) (hdb:(x==("__debug__":Str))=false:=by decide)
  (hs:bJ (e::es)=true:=by rfl):QE X (.Call (.Name x p) (e::es) [] pos) (tCB r tr):=⟨aC0 hc hg hm hv ha.h hn hdb hs⟩
theorem lJ {x:Str} {p:Pos} {T:String} {r:List V->Hp->VK->Prop} (hc:fQ X (.type T) r) (hg:Gl X x) (hm:X.mg x=none) (hv:aVS x=some (.type T)) (ha:QA X (e::es) tr) (hn:x≠"__name__":=by decide) (hdb:(x==("__debug__":Str))=false:=by decide)
  (hs:bJ (e::es)=true:=by rfl):QE X (.Call (.Name x p) (e::es) [] pos) (tCB r tr):=⟨yX hc hg hm hv ha.h hn hdb hs⟩
theorem aJO {target elt iter:Expr} {scope:aVV} {N':List Str} {cap:List Nat} {t:Nat} (hc:X.calm=true) (S:bN X N' scope t cap) (hi:QI X target iter wi)
  (hg:∀C s3 H3 fp,QG (cV X N' scope C s3 H3 fp) target g) (he:∀C s3 H3 fp,QE (cV X N' scope C s3 H3 fp) elt te) (hs:∀x,aVN iter X.env x=pure x:=by intro _;rfl) :
  QE X (.ListComp elt [⟨target,iter,[],0⟩] scope pos) (aBP t cap wi g te):=⟨aIY hc S hi.h (λC s3 H3 fp=>(hg C s3 H3 fp).h) (λC s3 H3 fp=>(he C s3 H3 fp).h) hs⟩
theorem tF {op:CmpOp} {r:R2} (ho:kU X (aVU op) r) (ha:QE X a ta) (hb:QE X b tb) (hm:aVM op b=false):QT X (.Compare a [op] [b] pos) (aKI (tOp r ta tb)):=⟨aJI ho ha.h hb.h hm⟩
theorem aLE (ha:QT X a tA):QT X (.UnaryOp .Not a pos) (aPZ tA):=⟨aMF ha.h⟩
theorem aN0 (h:QE X e te) (he:∀whole,isTrue e X.env whole=(do let v <-whole;standAt e.pos;aV7 [v] (truthy v)):=by intro _;rfl):QT X e (tB te):=⟨aNP h.h he⟩
theorem aHE (ha:QT X a tA):QW X (.BoolOp .And [a] pos) tA:=⟨aHZ ha.h⟩
theorem aMQ (ha:QT X a tA):QW X (.BoolOp .Or [a] pos) tA:=⟨aK6 ha.h⟩
theorem aLH (ha:QT X a tA) (hb:QW X (.BoolOp .And (b::rest) pos) tB'):QW X (.BoolOp .And (a::b::rest) pos) (aP8 tA tB'):=⟨aNR ha.h hb.h⟩
theorem aOJ (ha:QT X a tA) (hb:QW X (.BoolOp .Or (b::rest) pos) tB'):QW X (.BoolOp .Or (a::b::rest) pos) (tOr tA tB'):=⟨aOK ha.h hb.h⟩
theorem aRJ (h:QW X e tA):QT X e tA:=⟨h.h.pt⟩
end
section
variable {P:aVD} {w:aVH} {K:W.Frag} {mg:Str->Option Value} {base:Heap}
theorem fO.okQ {x qual:Str} {st:aVK} {f:aVA} {fd:aVF} {N ps:List Str} {k:Nat} {sp:Sp} (F:fO K x qual st f fd) (S:aN N ps (aH st)) (len:∀vs H Q E,sp vs H Q E->vs.length=ps.length)
  (hbody:∀(cdv:Value) (A:Around) (outer:List Env) (s:Shared) (H:Hp) (vs:List V) (Q:VK) (E:XK),dD k (A.deeper (aWJ qual (aH st) s.heap.objs.size f cdv))->sp vs H Q E->
   ∃t,QB (wM fP P w K mg base N qual (aH st) f cdv A outer s H E).nox (gC st) t/\t { nx:=λ_ H'=>Q .non H',rt:=Q } (iF N vs) H):bL P w K mg base fP (k+1) f fd ps sp:=
 F.ok S len λcdv A outer s H vs Q E hr h=>let ⟨t,h1,h2⟩:=hbody cdv A outer s H vs Q E hr h;⟨t,h1.h,h2⟩
end
section
variable {prog:aVD} {w:aVH} {A:Around} {E:Value->Shared->Prop} {s:Shared}
theorem uB {it t:aVA} {k:Nat} {items:Array Value} {x:Value} {Q:Value->Shared->Prop} (gi:s.heap.IsTupleIter it t k) (gt:s.heap.IsTuple t items) (gx:items[k]? = some x)
  (gq:∀h',h'.IsTupleIter it t (k+1)->aTW it s.heap h'->Q x { s with heap:=h' }):aVC (aVG prog w) A (Builtin.SmallTypes.nextOf (.ref it)) Q E s:=by
 obtain ⟨ob,eo,ec,ed⟩:=id gi;obtain ⟨ot,et,_,nt,edt⟩:=gt;unfold Builtin.SmallTypes.nextOf;refine aVB (wpAny_callSpecial?_slot (name:=aTK "__next__") gi.typeIs F.slot_tuple_iterator_next (aWA F.slot_tuple_iterator_next gi.typeIs F.entry_tuple_iterator_next ?_ (F.args_tuple_iterator_next_1 _)));show aVC _ _ (field (.ref it) 0 >>= _) _ _ _;refine aVB (aVT eo ed (x:=.ref t) rfl ?_);show aVC _ _ (if (aPQ t==aT1)=true then _ else _) _ _ _;rw [if_neg (λhq:(aPQ t==aT1)=true=>aTX hq)];show aVC _ _ (field (.ref it) 1 >>= _) _ _ _;refine aVB (aVT eo ed (x:=.int k 0) rfl ?_);show aVC _ _ (seqItems? (.ref t) >>= _) _ _ _;refine aVB (aV4 et edt ?_);simp only [aQ8,gx];refine aVB (wpAny_setField eo ed (by simp) (aVE ⟨x,rfl,aVE (gq _ ?_ (Heap.SameBut.update ..))⟩));exact ⟨_,aTL _ eo (Obj.isFreed_of_fields (Obj.data_mapFields ed _)),(Obj.cls_mapFields ..).trans ec,by rw [Obj.data_mapFields ed];simp [rawInt]⟩
theorem vD {it t:aVA} {k:Nat} {items:Array Value} {Q:Value->Shared->Prop} (gh:A.handled=none) (gi:s.heap.IsTupleIter it t k) (gt:s.heap.IsTuple t items) (gx:items[k]? = none)
  (ge:∀h' e,Heap.ExtBut it s.heap h'->(∃o,h'.get? e=some o/\o.cls = .type "StopIteration")->E (.ref e) { s with heap:=h' }):aVC (aVG prog w) A (Builtin.SmallTypes.nextOf (.ref it)) Q E s:=by
 obtain ⟨ob,eo,ec,ed⟩:=id gi;obtain ⟨ot,et,_,nt,edt⟩:=gt;unfold Builtin.SmallTypes.nextOf;refine aVB (wpAny_callSpecial?_slot (name:=aTK "__next__") gi.typeIs F.slot_tuple_iterator_next (aWA F.slot_tuple_iterator_next gi.typeIs F.entry_tuple_iterator_next ?_ (F.args_tuple_iterator_next_1 _)));show aVC _ _ (field (.ref it) 0 >>= _) _ _ _;refine aVB (aVT eo ed (x:=.ref t) rfl ?_);show aVC _ _ (if (aPQ t==aT1)=true then _ else _) _ _ _;rw [if_neg (λhq:(aPQ t==aT1)=true=>aTX hq)];show aVC _ _ (field (.ref it) 1 >>= _) _ _ _;refine aVB (aVT eo ed (x:=.int k 0) rfl ?_);show aVC _ _ (seqItems? (.ref t) >>= _) _ _ _;refine aVB (aV4 et edt ?_);simp only [aQ8,gx];refine aVB (aWP (aVB (wpAny_setField eo ed (by simp) ?_)));show aVC _ _ (newExc (.type "StopIteration") [] >>= _) _ _ _;refine aVB ?_;simp only [newExc,newTuple];refine aVB (aVQ ?_ (by size_fits));refine aVB (m:=firstArgMember _ _) (wpAny_of_eq (a:=aT1) (by first | rfl | (simp only [firstArgMember];rfl)) (aVQ ?_ (by size_fits)));simp only [raiseNew];refine aVB (wpAny_handled ?_)
 first | rw [show A.in1.handled=none from gh] | rw [gh]
 refine aVB (aVE (wpAny_throw ?_));exact ge _ _ (((Heap.SameBut.update ..).extBut.push _).push _) ⟨_,aG4 _ rfl,rfl⟩
theorem aCB (gh:A.handled=none) (it t:aVA) (hne:t≠it) (items:Array Value) :
  Draws prog w A it [it,t] items.size (λi v=>items[i]? = some v) (λi h=>h.IsTupleIter it t i/\h.IsTuple t items) where
 live:=λ_ _ st=>let ⟨o,ho,_⟩:=st.1;⟨o,ho⟩
 frame:=λ_ _ _ st hk=>⟨st.1.at λo e=>hk it (by simp) o e,st.2.at λo e=>hk t (by simp) o e⟩
 item:=λi s Q E hi st hQ=>uB st.1 st.2 (x:=items[i]) (by simp [hi]) λh' hit' hs'=>hQ _ h' s.toks (by simp [hi]) ⟨hit',st.2.extBut hs'.extBut hne⟩ hs'
 done:=λs Q E st hE=>vD gh st.1 st.2 (by simp) hE
end
def gM (κ:Bool) (h:Heap) (it a:aVA) (i:Nat):Prop:=match κ with | true=>h.IsTupleIter it a i | false=>h.IsListIter it a i
def oU (κ:Bool) (h:Heap) (a:aVA) (items:Array Value):Prop:=match κ with | true=>h.IsTuple a items | false=>h.IsList a items
theorem gM.at {κ:Bool} {h h':Heap} {it a:aVA} {i:Nat} (x:gM κ h it a i) (e:∀o,h.get? it=some o->h'.get? it=some o):gM κ h' it a i:=by
 cases κ
 ·exact Heap.IsListIter.at x e
 ·exact Heap.IsTupleIter.at x e
theorem gM.obj {κ:Bool} {h:Heap} {it a:aVA} {i:Nat} (x:gM κ h it a i):∃o,h.get? it=some o/\∀v,o.data≠.cell v:=by
 cases κ
 ·obtain ⟨o,e,c,d⟩:=x;exact ⟨o,e,λv z=>by rw [d] at z;cases z⟩
 ·obtain ⟨o,e,c,d⟩:=x;exact ⟨o,e,λv z=>by rw [d] at z;cases z⟩
theorem aFQ {prog:aVD} {w:aVH} {A:Around} (κ:Bool) (hh:A.handled=none) (it a:aVA) (hne:a≠it) (items:Array Value) :
  Draws prog w A it [it,a] items.size (λi v=>items[i]? = some v) (λi h=>gM κ h it a i/\oU κ h a items):=by
 cases κ
 ·exact Draws.list hh it a hne items
 ·exact aCB hh it a hne items
abbrev zq1 (h:Heap) (a:aVA):Heap:=h.push { cls:=.type "tuple_iterator",data:=.fields #[.ref a,.int 0 0] }
abbrev zq2 (h:Heap) (a b:aVA):Heap:=(zq1 h a).push { cls:=.type "tuple_iterator",data:=.fields #[.ref b,.int 0 0] }
abbrev zq3 (h:Heap) (a b:aVA):Heap:=(zq2 h a b).push { cls:=.type "tuple",data:=.seq #[.ref h.objs.size,.ref (zq1 h a).objs.size] }
abbrev zq4 (h:Heap) (a b:aVA):Heap:=(zq3 h a b).push { cls:=.type "tuple",data:=.seq #[.none,.none] }
abbrev zq5 (h:Heap) (a b:aVA):Heap:=(zq4 h a b).push { cls:=.type "zip",data:=.fields #[.none,.bool false,.bool false,.ref (zq2 h a b).objs.size,.ref (zq3 h a b).objs.size] }
theorem aD7 (a b:aVA) (xs ys:Array Value) :
  Meets (Builtin.«zip.__new__» ⟨[.type "zip",.ref a,.ref b],[]⟩) (λ_ R s=>s.heap.IsTuple a xs/\s.heap.IsTuple b ys/\R (.ok (.ret (.ref (zq4 s.heap a b).objs.size))) { s with heap:=zq5 s.heap a b }):=
 .of_wp λprog w A R s h=>by
  obtain ⟨hp,g,d,tk,os⟩:=s;obtain ⟨ga,gb,h⟩:=h;have hsub:=sub_zip;have gA:Heap.IsTuple (Shared.heap ⟨hp,g,d,tk,os⟩) a xs:=ga;have gB:Heap.IsTuple (Shared.heap ⟨hp.push { cls:=.type "tuple_iterator",data:=.fields #[.ref a,.int 0 0] },g,d,tk,os⟩) b ys:=Heap.IsTuple.push gb _
  wp_walk using aWE gA,aWE gB
  exact ⟨_,rfl,h⟩
theorem aC3 {prog:aVD} {w:aVH} {A:Around} {E:Value->Shared->Prop} {s:Shared} {a b:aVA} {xs ys:Array Value} {Q:Value->Shared->Prop} (ga:s.heap.IsTuple a xs) (gb:s.heap.IsTuple b ys)
  (g:∀h',aWH h' (s.heap.objs.size+4) (s.heap.objs.size+2) (s.heap.objs.size+3) .none->IsPair h' (s.heap.objs.size+2) (.ref s.heap.objs.size) (.ref (s.heap.objs.size+1))->IsPair h' (s.heap.objs.size+3) .none .none->
   h'.IsTupleIter s.heap.objs.size a 0->h'.IsTupleIter (s.heap.objs.size+1) b 0->(∀c o,s.heap.get? c=some o->h'.get? c=some o)->Q (.ref (s.heap.objs.size+4)) { s with heap:=h' }) :
  aVC (aVG prog w) A (call (.type "zip") [.ref a,.ref b]) Q E s:=by
 refine callType_new F.called_zip (by decide) (F.typeCall_zip_2 _ _) (F.newCall_zip_2 _ _) (λobj=>F.args_object_init_3 obj _ _) F.entry_zip_new (aD7 a b xs ys) ⟨ga,gb,?_⟩;have y1:(zq1 s.heap a).objs.size=s.heap.objs.size+1:=aSZ ..;have y2:(zq2 s.heap a b).objs.size=s.heap.objs.size+2:=by rw [aSZ,y1]
 have y3:(zq3 s.heap a b).objs.size=s.heap.objs.size+3:=by rw [aSZ,y2]
 have y4:(zq4 s.heap a b).objs.size=s.heap.objs.size+4:=by rw [aSZ,y3]
 have p4:∀{c:aVA} {o:Obj},(zq4 s.heap a b).get? c=some o->(zq5 s.heap a b).get? c=some o:=λe=>aDA _ e;have p3:∀{c:aVA} {o:Obj},(zq3 s.heap a b).get? c=some o->(zq5 s.heap a b).get? c=some o:=λe=>p4 (aDA _ e);have p2:∀{c:aVA} {o:Obj},(zq2 s.heap a b).get? c=some o->(zq5 s.heap a b).get? c=some o:=λe=>p3 (aDA _ e);have p1:∀{c:aVA} {o:Obj},(zq1 s.heap a).get? c=some o->(zq5 s.heap a b).get? c=some o:=λe=>p2 (aDA _ e);have p0:∀{c:aVA} {o:Obj},s.heap.get? c=some o->(zq5 s.heap a b).get? c=some o:=λe=>p1 (aDA _ e);have x5:(zq5 s.heap a b).get? (zq4 s.heap a b).objs.size=some _:=aG4 _ rfl;have x4:(zq5 s.heap a b).get? (zq3 s.heap a b).objs.size=some _:=p4 (aG4 _ rfl);have x3:(zq5 s.heap a b).get? (zq2 s.heap a b).objs.size=some _:=p3 (aG4 _ rfl);have x2:(zq5 s.heap a b).get? (zq1 s.heap a).objs.size=some _:=p2 (aG4 _ rfl);have x1:(zq5 s.heap a b).get? s.heap.objs.size=some _:=p1 (aG4 _ rfl);show _/\_;rw [y2,y3,y4] at x5;rw [y1,y2] at x3;rw [y3] at x4;rw [y1] at x2;rw [y4];exact ⟨⟨_,x5,rfl⟩,g _ x5 x3 x4 ⟨_,x1,rfl,rfl⟩ ⟨_,x2,rfl,rfl⟩ λc o e=>p0 e⟩
theorem nd5 (n:Nat):[n+4,n+2,n+3,n,n+1].Nodup:=by
 simp only [aS3,aB1,aRO,or_false,not_or,List.nodup_nil,and_true,not_false_eq_true];omega
theorem ge5 {n c:Nat} (h:c∈[n+4,n+2,n+3,n,n+1]):n<=c:=by
 simp only [aB1,aRO,or_false] at h;omega
section
variable {X:Cx} {K:W.Frag} {pos:Pos}
def aAP (i j:Int):Prop:=i.natAbs<2^8000/\j.natAbs<2^8000
theorem aAT {a:Int} (h:a.natAbs<2^8000):Builtin.Int.intBits a<=8001:=by
 unfold Builtin.Int.intBits
 split
 ·omega
 ·rename_i h0;have hne:a.natAbs≠0:=by
   intro z;apply h0
   first | exact Int.natAbs_eq_zero.mp z | simp [Int.natAbs_eq_zero.mp z] | omega
  have:=(aU2 hne).mpr h;omega
theorem aAP.ok {i j:Int} (h:aAP i j):IntMulOk i j:=by
 have h1:=aAT h.1;have h2:=aAT h.2;unfold IntMulOk;have:Builtin.Int.intTooBig (Builtin.Int.intBits i+Builtin.Int.intBits j)=false:=by
  unfold Builtin.Int.intTooBig;simp only [decide_eq_false_iff_not];have:(16002:Int)<=bitsLine:=by decide
  omega
 rw [this];simp
theorem aHX:kU X (aV2 .Mult) (rI aAP λi j=>.int (i*j)):=opI λ_ _ _ _ _ _ _ hc q=>mul_int q hc.ok
end
section
variable {X:Cx}
def pQ (i j:Int):Prop:=j≠0/\j.natAbs<2^8000
theorem dL:kU X (aV2 .FloorDiv) (rI pQ λi j=>.int (i.fdiv j)):=opI λi j _ _ _ _ _ hc q=>by
 obtain ⟨h0,h1⟩:=hc;have hl:j.natAbs.log2<9000:=by
  have:=(aU2 (show j.natAbs≠0 by omega)).mpr h1;omega
 exact floordiv_int h0 q (.inl (PyProof.noPylong_of_log2 hl))
end
section
variable {X:Cx} {pos:Pos} {o e:Expr} {to:TE} {tr:TA}
theorem n8 {ap:Pos} (ho:QE X o to) (ha:QA X [e] tr) (hbase:aVZ o "append" X.env (aVP o X.env)=aVP o X.env:=by rfl) (hline:(ap.endLine==pos.line)=true:=by rfl) (hs:bX e=false:=by rfl) :
  QE X (.Call (.Attribute o "append" ap) [e] [] pos) (tBM X.K "list" aAV to tr):=
 ⟨aAD PySem.F.plainAttrs_list PySem.F.slot_list_append PySem.F.type_list_append kK ho.h ha.h hbase (by rw [cN hs];rfl) hline (cN hs) (fG rfl)⟩
end
section
variable {X:Cx}
theorem sY:fQ X (.builtin "divmod") (λxs H Q=>∃a b:Int,xs=[.int a,.int b]/\0<b/\b<2^200/\∀p,H p=none->Q (.ref p) (upd H p (.tup [.int (a/b),.int (a%b)]))):=by
 intro pins s σ H xs us Q I r h;obtain ⟨a,b,rfl,h0,h1,q⟩:=h;obtain ⟨u,v,rfl,rx,ry⟩:=bF.two r;obtain ⟨t,rfl⟩:=rx;obtain ⟨t',rfl⟩:=ry;have e1:a.fdiv b=a/b:=aS5 _ (by omega);have e2:a.fmod b=a%b:=aUN _ (by omega);have hl:b.natAbs.log2<9000:=by
  have hb:b.natAbs<2^200:=by omega
  have:=(aU2 (show b.natAbs≠0 by omega)).mpr hb;omega
 refine divmod_int (by omega) ?_ (.inl (PyProof.noPylong_of_log2 hl));refine ⟨.ref s.heap.objs.size,_,I.laid (o:=.tup [.int (a/b),.int (a%b)]) (t':=s.toks+1+1) (λb u e=>aDA _ e) (aDP _) ?_,rfl,q _ (I.hok.fresh (aDP _))⟩;refine ⟨by show 2<=aVI;decide,[.int (a.fdiv b) s.toks,.int (a.fmod b) (s.toks+1)],.cons ⟨_,by rw [e1]⟩ (.cons ⟨_,by rw [e2]⟩ .nil),⟨_,aG4 _ rfl,rfl,_,rfl⟩⟩
end
section
variable {κ:Type} [DecidableEq κ]
def nO (kvs:List (κ×V)) (k:κ):Option V:=(kvs.find? λkv=>decide (kv.1=k)).map (·.2)
def tW (kvs:List (κ×V)) (k:κ) (v:V):List (κ×V):=
 if (kvs.any λkv=>decide (kv.1=k))=true then kvs.map (λkv=>if kv.1=k then (kv.1,v) else kv) else kvs++[(k,v)]
theorem mK {p:κ×V} {r:List (κ×V)} {k:κ} (e:p.1=k):nO (p::r) k=some p.2:=by simp [nO,aTF,e]
theorem m9 {p:κ×V} {r:List (κ×V)} {k:κ} (e:¬p.1=k):nO (p::r) k=nO r k:=by simp [nO,aTF,e]
theorem vC (kvs:List (κ×V)) (k:κ) (v:V):(tW kvs k v).length<=kvs.length+1:=by
 unfold tW
 split
 ·rw [aBC];omega
 ·rw [aIG,aKX,aTG];omega
theorem KV.val {kvs:List (κ×V)} {vs:List (κ×Value)} (r:KV kvs vs) (k:κ):vB (nO kvs k) (valueAt vs k):=by
 unfold KV at r
 induction r with
 | nil=>exact True.intro
 | @cons p q ps qs h t ih=>
  obtain ⟨h1,h2⟩:=h
  by_cases e:p.1=k
  ·have e':q.1=k:=h1.symm.trans e;have b:valueAt (q::qs) k=some q.2:=by simp [valueAt,aTF,e']
   rw [mK e,b];exact h2
  ·have e':¬q.1=k:=λz=>e (h1.trans z);have b:valueAt (q::qs) k=valueAt qs k:=by simp [valueAt,aTF,e']
   rw [m9 e,b];exact ih
theorem KV.any {kvs:List (κ×V)} {vs:List (κ×Value)} (r:KV kvs vs) (k:κ):(kvs.any λkv=>decide (kv.1=k))=vs.any λkv=>decide (kv.1=k):=by
 unfold KV at r
 induction r with
 | nil=>rfl
 | cons h t ih=>rw [aTD,aTD,ih,h.1]
theorem KV.repl {kvs:List (κ×V)} {vs:List (κ×Value)} (r:KV kvs vs) (k:κ) {y:V} {u:Value} (ry:bG y u) :
  KV (kvs.map λkv=>if kv.1=k then (kv.1,y) else kv) (vs.map λkv=>if kv.1=k then (kv.1,u) else kv):=by
 unfold KV at r ⊢
 induction r with
 | nil=>exact .nil
 | @cons p q ps qs h t ih=>
  rw [aPB,aPB];refine .cons ?_ ih;obtain ⟨h1,h2⟩:=h
  by_cases e:p.1=k
  ·rw [if_pos e,if_pos (h1.symm.trans e)];exact ⟨h1,ry⟩
  ·rw [if_neg e,if_neg (λz=>e (h1.trans z))];exact ⟨h1,h2⟩
theorem KV.put {kvs:List (κ×V)} {vs:List (κ×Value)} (r:KV kvs vs) (k:κ) {y:V} {u:Value} (ry:bG y u):KV (tW kvs k y) (stored vs k u):=by
 unfold tW stored;rw [r.any k]
 by_cases e:(vs.any λkv=>decide (kv.1=k))=true
 ·rw [if_pos e,if_pos e];exact r.repl k ry
 ·rw [if_neg e,if_neg e];exact Paired.snoc r ⟨rfl,ry⟩
end
theorem aE1 {P:aVD} {w:aVH} {k:Key} {u:Value} (r:bG (kV k) u):(dE P w).is k u=true:=by
 cases k with
 | inl i=>obtain ⟨t,e⟩:=(show ∃t,u=Value.int i t from r);subst e;exact wX P w i t
 | inr x=>obtain ⟨t,e⟩:=(show ∃t,u=Value.str x t from r);subst e;exact w6 P w x t
theorem rS {P:aVD} {w:aVH}:∀{ks:List Key} {us:List Value},bF (ks.map kV) us->ItemsAre (dE P w) ks us
 | [],_,r=>by rw [aT9] at r;cases r;exact .nil
 | k::ks,_,r=>by
  rw [aPB] at r;cases r with
  | cons h t=>exact .cons (aE1 h) (rS t)
abbrev KTd (H:Hp):List (List Key×V)->List (List Key×aVA×Value)->Prop:=Paired λp q=>p.1=q.1/\H q.2.1=some (.tup (p.1.map kV))/\bG p.2 q.2.2
theorem KTd.val {H:Hp} {kvs:List (List Key×V)} {xs:List (List Key×aVA×Value)} (r:KTd H kvs xs) (k:List Key):vB (nO kvs k) ((atKey xs k).map (·.2)):=by
 induction r with
 | nil=>exact True.intro
 | @cons p q ps qs h t ih=>
  obtain ⟨h1,_,h2⟩:=h
  by_cases e:p.1=k
  ·have e':q.1=k:=h1.symm.trans e;have b:atKey (q::qs) k=some q.2:=by simp [atKey,aTF,e']
   rw [mK e,b];exact h2
  ·have e':¬q.1=k:=λz=>e (h1.trans z);have b:atKey (q::qs) k=atKey qs k:=by simp [atKey,aTF,e']
   rw [m9 e,b];exact ih
section
variable {P:aVD} {w:aVH} {H:Hp} {h:Heap} {a:aVA}
theorem aEH {u:HO} (ok:kT P w H h) (e:Rd H a u):c8 P w H h a u:=e.ok ok
theorem aF2 {kvs:List (Key×V)} (ok:kT P w H h) (e:Rd H a (.dK kvs)):kvs.length<=aVI/\(a==aV8)=false/\∃vs,KV kvs vs/\h.DictOf (dE P w) a vs:=
 show c8 P w H h a (.dK kvs) from aEH ok e
theorem aQA {kvs:List (Key×V)} (ok:kT P w H h) (e:H a=some (.dK kvs)):kvs.length<=aVI/\(a==aV8)=false/\∃vs,KV kvs vs/\h.DictOf (dE P w) a vs:=aF2 ok (.inl e)
theorem aES {ks:List Key} (ok:kT P w H h) (e:H a=some (.tup (ks.map kV))):(tupleKind (dE P w)).is h ks a:=by
 obtain ⟨_,its,r,o,h1,h2,n,h3⟩:=(show c8 P w H h a (.tup (ks.map kV)) from ok a _ e);exact ⟨o,its.toArray,n,h1,h2,h3,by simpa using rS r⟩
theorem aKR {kvs:List (List Key×V)} (ok:kT P w H h) (e:Rd H a (.dT kvs)):kvs.length<=aVI/\(a==aV8)=false/\
  ∃xs,KTd H kvs xs/\h.DictOfH (tupleKind (dE P w)) a xs:=by
 obtain ⟨z,y,xs,r,o,es,ep,h1,h2,h3,h4,h5⟩:=(show c8 P w H h a (.dT kvs) from aEH ok e);refine ⟨z,y,xs,r,o,es,ep,h1,h2,h3,h4,λx hx=>?_,h5⟩;have all:∀{l:List (List Key×V)} {m:List (List Key×aVA×Value)},KTd H l m->∀x∈m,(tupleKind (dE P w)).is h x.1 x.2.1:=by
  intro l m q
  induction q with
  | nil=>intro x hx;exact nomatch hx
  | @cons p q ps qs hq t ih=>
   intro x hx;rcases aB1.mp hx with e | hx
   ·subst e;exact aES ok (by rw [<-hq.1];exact hq.2.1)
   ·exact ih x hx
 exact all r x hx
end
def zO (H:Hp) (a:aVA) (y:V) (r:Option V):Prop:=
 (∃kvs k,Rd H a (.dK kvs)/\y=kV k/\r=nO kvs k)\/∃kvs k b,Rd H a (.dT kvs)/\y = .ref b/\H b=some (.tup (k.map kV))/\r=nO kvs k
theorem zO.k {H:Hp} {a:aVA} {kvs:List (Key×V)} {k:Key} (e:H a=some (.dK kvs)):zO H a (kV k) (nO kvs k):=.inl ⟨kvs,k,.inl e,rfl,rfl⟩
section
variable {X:Cx} {pins:List (aVA×Obj)} {σ:St} {H:Hp} {s:Shared} {a:aVA} {y v:V} {u r:Value} {o:Option V} {A:Around} {E:Value->Shared->Prop}
theorem aT.big (I:aT X pins σ H s):aV8<s.heap.objs.size:=by
 have h:aVJ<s.heap.objs.size:=(I.mod.glob.keeps I.bk).lt;exact Nat.lt_trans (by decide) h
theorem aBW {Q:Value->Shared->Prop} (hu:A.units+1<aWG) (I:aT X pins σ H s) (g:zO H a y (some v)) (ry:bG y u) (h:∀w' s',aT X pins σ H s'->bG v w'->Q w' s') :
  aVC (aVG X.prog X.w) A (aWQ (.ref a) u) Q E s:=by
 rcases g with ⟨kvs,k,e,ey,l⟩ | ⟨kvs,k,b,e,ey,eb,l⟩
 ·subst ey;obtain ⟨z,hd,vs,rel,dd⟩:=aF2 I.hok e;obtain ⟨w',hw,rw'⟩:=vB.some_of (v:=v) (o:=valueAt vs k) (by rw [l];exact rel.val k);exact wpAny_getItem_of (aE1 ry) dd.mapOf hw (h w' _ (I.tok _) rw')
 ·subst ey;cases (show u=aPQ b from ry);obtain ⟨z,hd,xs,rel,dd⟩:=aKR I.hok e;obtain ⟨w',hw,rw'⟩:=vB.some_of (v:=v) (o:=(atKey xs k).map (·.2)) (by rw [l];exact rel.val k);obtain ⟨p,hp,hp2⟩:=Option.map_eq_some_iff.mp hw;refine wpAny_getItem_heap (tupleKind_room_in1 hu) (aES I.hok eb) dd hp ?_;rw [hp2];exact h w' _ (I.tok _) rw'
theorem aHF {h':Heap} {t':Nat} {ob:HO} (I:aT X pins σ H s) (mu:Mut (H a)) (hs:aTW a s.heap h') (he:∃q,h'.get? a=some q) (new:c8 X.prog X.w (upd H a ob) h' a ob) :
  aT X pins σ (upd H a ob) { s with heap:=h',toks:=t' }:=
 I.write (x:=a) (e:=a) mu (.inl rfl) (λb q hb z=>(hs.2 b hb).trans z) he new
theorem aLX {P:aVD} {w:aVH} {H':Hp} {h':Heap} {kvs:List (Key×V)} {vs:List (Key×Value)} (z:kvs.length<=aVI) (hd:(a==aV8)=false) (rel:KV kvs vs) (dd:h'.DictOf (dE P w) a vs) :
  c8 P w H' h' a (.dK kvs):=⟨z,hd,vs,rel,dd⟩
end
def aHC (i:Expr):Prop:=∀ov iv,aWV i false ov iv=operate [ov,iv] (aWQ ov iv)
theorem aJC {prog:aVD} {w:aVH} {A:Around} {E:Value->Shared->Prop} {s:Shared} {env:Env} {value slice:Expr} {pos:Pos} {T id:String} {Q:Value->Shared->Prop}
  (hl:typeLookup (.type T) "__getitem__" = pure (some (.builtin id))) (hs:aHC slice)
  (h:aVC (aVG prog w) A (aVP value env) (λo s₁=>aVC (aVG prog w) A (aVP slice env) (λi s₂=>s₂.TypeIs o T/\aVC (aVG prog w) A (aWQ o i) Q E s₂) E s₁) E s) :
  aVC (aVG prog w) A (aVP (.Subscript value slice pos) env) Q E s:=by
 refine Subscript_ (aVR h (λo s₁ h₁=>aVR h₁ (λi s₂ h₂=>?_) λ_ _ x=>x) λ_ _ x=>x);obtain ⟨hT,h₂⟩:=h₂;unfold subscriptTail;refine aVB ?_;rw [getitemInPython_of_ne hT.not_modules];refine aVB (wpAny_specialOf hT hl ?_);have fin:aVC (aVG prog w) A (aWV slice false o i) (λr s₃=>aVC (aVG prog w) A (letTemporaryGo value o r >>= λ_=>pure r) Q E s₃) E s₂:=by
  rw [hs o i];exact wpAny_operating (aVR h₂ (λr s₃ h₃=>aVB (wpAny_letTemporaryGo (aVE h₃))) λ_ _ x=>x)
 first
  | exact aVE (aVB fin)
  | exact aVB (aVE (aVB fin))
  | exact aVB fin
theorem wB {X:Cx} {pins:List (aVA×Obj)} {σ:St} {H:Hp} {s:Shared} {a:aVA} {y:V} {o:Option V} (I:aT X pins σ H s) (g:zO H a y o):s.TypeIs (.ref a) "dict":=by
 rcases g with ⟨kvs,k,e,_,_⟩ | ⟨kvs,k,b,e,_,_,_⟩
 ·obtain ⟨_,_,vs,_,dd⟩:=aF2 I.hok e;exact dd.typeIs
 ·obtain ⟨_,_,xs,_,dd⟩:=aKR I.hok e;exact dd.typeIs
def aEL (td ty:TE):TE:=λσ H Q=>td σ H λx H1=>ty σ H1 λy H2=>∃a v,x = .ref a/\zO H2 a y (some v)/\Q v H2
section
variable {X:Cx} {o i e value:Expr} {pos pos' tpos:Pos} {td ty tv:TE}
theorem aA8 (hu:X.A.units+1<aWG) (ho:PE X o td) (hi:PE X i ty) (hs:aHC i):PE X (.Subscript o i pos) (aEL td ty):=by
 intro pins s σ H Q I h;refine aJC PySem.F.slot_dict_getitem.lookup hs (cF (ho pins s σ H _ I h) λu s1 ⟨x,H1,I1,rx,q1⟩=>cF (hi pins s1 σ H1 _ I1 q1) λiv s2 ⟨y,H2,I2,ry,a,v,ex,g,q2⟩=>?_);subst ex;obtain rfl:u=aPQ a:=rx;exact ⟨wB I2 g,aBW hu I2 g ry λw' s3 I3 rw'=>⟨v,H2,I3,rw',q2⟩⟩
end
theorem aEE {P:aVD} {w:aVH} {H:Hp} (h:Heap) (hb:aV8<h.objs.size):c8 P w H (h.push { cls:=.type "dict",data:=.dict #[] }) h.objs.size (.dK []):=
 ⟨aQ5 _,beq_eq_false_iff_ne.mpr (Ne.symm (aHH hb)),[],.nil,Heap.DictOf.new h⟩
def zL:List (TE×TE)->St->Hp->(List (V×V)->Hp->Prop)->Prop
 | [],_,H,Q=>Q [] H
 | (tk,tv)::r,σ,H,Q=>tk σ H λx H1=>tv σ H1 λy H2=>zL r σ H2 λps H3=>Q ((x,y)::ps) H3
abbrev VV:List (V×V)->List (Value×Value)->Prop:=Paired λp q=>bG p.1 q.1/\bG p.2 q.2
def PPs (X:Cx) (pos:Pos) (keys:List (Option Expr)) (values:List Expr) (trs:List (TE×TE)):Prop:=
 ∀(pins:List (aVA×Obj)) (s:Shared) (σ:St) (H:Hp) (Q:List (V×V)->Hp->Prop),aT X pins σ H s->zL trs σ H Q->
  aVC (aVG X.prog X.w) X.A (evalPairs (pairTrees keys values X.env pos)) (λvs s'=>∃ps H',aT X pins σ H' s'/\VV ps vs/\Q ps H') X.xe s
theorem aIL {X:Cx} {pos:Pos}:PPs X pos [] [] []:=λpins s σ H Q I h=>pairTrees_nil_walk ⟨[],H,I,.nil,h⟩
theorem xB {X:Cx} {pos:Pos} {k v:Expr} {ks:List (Option Expr)} {vs:List Expr} {tk tv:TE} {trs:List (TE×TE)} (hk:PE X k tk) (hv:PE X v tv) (hr:PPs X pos ks vs trs) :
  PPs X pos (some k::ks) (v::vs) ((tk,tv)::trs):=λpins s σ H Q I h=>
 pairTrees_cons_walk (cF (hk pins s σ H _ I h) λu s1 ⟨x,H1,I1,rx,q1⟩=>cF (hv pins s1 σ H1 _ I1 q1) λw2 s2 ⟨y,H2,I2,ry,q2⟩=>
  cF (hr pins s2 σ H2 _ I2 q2) λws s3 ⟨ps,H3,I3,rel,q3⟩=>⟨(x,y)::ps,H3,I3,.cons ⟨rx,ry⟩ rel,q3⟩)
def lN (kvs more:List (Key×V)):List (Key×V):=more.foldl (λacc kv=>tW acc kv.1 kv.2) kvs
theorem KV.merge:∀{more:List (Key×V)} {rs:List (Key×Value)} {kvs:List (Key×V)} {vs:List (Key×Value)},KV more rs->KV kvs vs->KV (lN kvs more) (merged vs rs):=by
 intro more rs kvs vs r;unfold KV at r
 induction r generalizing kvs vs with
 | nil=>intro q;exact q
 | @cons p q ps qs h t ih=>
  intro r0;have e:KV (tW kvs p.1 p.2) (stored vs q.1 q.2):=by
   have:=r0.put p.1 h.2;rw [<-h.1];exact this
  exact ih e
theorem kY:∀(more kvs:List (Key×V)),(lN kvs more).length<=kvs.length+more.length
 | [],kvs=>by show kvs.length<=kvs.length+0;omega
 | p::r,kvs=>by
  have h1:=kY r (tW kvs p.1 p.2);have h2:=vC kvs p.1 p.2;show (lN (tW kvs p.1 p.2) r).length<=_;rw [aKX];omega
theorem qZ {P:aVD} {w:aVH}:∀{kvs:List (Key×V)} {ws:List (Value×Value)},VV (kvs.map λkv=>(kV kv.1,kv.2)) ws->∃rs,Carries (dE P w) ws rs/\KV kvs rs
 | [],_,r=>by rw [aT9] at r;cases r;exact ⟨[],True.intro,.nil⟩
 | p::kvs,_,r=>by
  rw [aPB] at r;cases r with
  | @cons a b as bs h t=>
   obtain ⟨rs,c,q⟩:=qZ (P:=P) (w:=w) t;obtain ⟨b1,b2⟩:=b;exact ⟨(p.1,b2)::rs,⟨aE1 h.1,rfl,c⟩,.cons ⟨rfl,h.2⟩ q⟩
def aKM (trs:List (TE×TE)):TE:=λσ H Q=>∀p,H p=none->zL trs σ (upd H p (.dK [])) λps H2=>H2 p=some (.dK [])/\∃kvs:List (Key×V),ps=kvs.map (λkv=>(kV kv.1,kv.2))/\kvs.length<=15/\Q (.ref p) (upd H2 p (.dK (lN [] kvs)))
theorem aIM {X:Cx} {pos:Pos} {keys:List (Option Expr)} {values:List Expr} {trs:List (TE×TE)} (h:PPs X pos keys values trs) (hall:keys.all (·.isSome)=true) (hl:keys.length=values.length) (h0:keys≠[])
  (h15:keys.length<=15):PE X (.Dict keys values pos) (aKM trs):=by
 intro pins s σ H Q I q;have hn:=I.hok.fresh (aDP s.heap.objs.size);have I1:=I.laid (a:=s.heap.objs.size) (o:=.dK []) (h':=s.heap.push { cls:=.type "dict",data:=.dict #[] }) (t':=s.toks) (λ_ _ q=>aDA _ q) (aDP _) (aEE s.heap I.big);refine wpAny_Dict_walk (knd:=dE X.prog X.w) hall hl h0 h15 (cF (h pins _ σ _ _ I1 (q _ hn)) λws s2 ⟨ps,H2,I2,rel,e,kvs,ep,lk,q2⟩=>?_);subst ep;obtain ⟨rs,c,rk⟩:=qZ (P:=X.prog) (w:=X.w) rel;obtain ⟨z,hd,vs0,r0,dd⟩:=aQA I2.hok e;cases r0;refine ⟨rs,c,dd,λh' dd' hs=>⟨.ref s.heap.objs.size,_,?_,rfl,q2⟩⟩;have hz:(lN [] kvs).length<=aVI:=by
  have h1:=kY kvs [];rw [aTG] at h1;rw [aWU];omega
 have he:∃q,h'.get? s.heap.objs.size=some q:=let ⟨q,_,_,hq,_⟩:=dd';⟨q,hq⟩;exact aHF I2 (by rw [e];exact True.intro) hs he (aLX hz hd (rk.merge .nil) dd')
inductive T where
 | non | bl (b:Bool) | int (i:Int) | str (x:Str) | tup (xs:List T) | lst (xs:List T)
inductive U where
 | p (t:T) | o (k:Bool) (xs:List T)
abbrev En:=List (Option U)
inductive R where
 | p (t:T) | s (i:Nat)
def KT (K:W.Frag) (a:aVA) (xs:List V):Prop:=∃(o:Obj) (its:Array Value) (n:Nat),K.lookup a=some o/\o.cls = .type "tuple"/\o.data = .seq its n/\its.size<=aVI/\bF xs its.toList
def KL (K:W.Frag) (a:aVA) (xs:List V):Prop:=∃(o:Obj) (its:Array Value) (n:Nat),K.lookup a=some o/\o.cls = .type "list"/\o.dict=none/\o.data = .seq its n/\its.size<=aVI/\bF xs its.toList
mutual
def Rp (K:W.Frag) (H:Hp) (O:aVA->Prop):T->V->Prop
 | .non,v=>v = .non
 | .bl b,v=>v = .bl b
 | .int i,v=>v = .int i
 | .str x,v=>v = .str x
 | .tup xs,v=>∃a vs,v = .ref a/\((¬O a/\H a=some (.tup vs))\/KT K a vs)/\cG K H O xs vs
 | .lst xs,v=>∃a vs,v = .ref a/\((¬O a/\Rd H a (.lst vs))\/KL K a vs)/\cG K H O xs vs
def cG (K:W.Frag) (H:Hp) (O:aVA->Prop):List T->List V->Prop
 | [],vs=>vs=[]
 | x::xs,vs=>∃v r,vs=v::r/\Rp K H O x v/\cG K H O xs r
end
structure Kp (O O':aVA->Prop) (H H':Hp):Prop where
 keep:∀b o,H b=some o->¬O b->H' b=some o
 new:∀b,O' b->O b\/H b=none
theorem Kp.tup {H H':Hp} {a:aVA} {u:HO} {O O':aVA->Prop} (k:Kp O O' H H') (h:¬O a/\H a=some u):¬O' a/\H' a=some u:=by
 obtain ⟨n,h⟩:=h;refine ⟨λz=>?_,k.keep _ _ h n⟩;rcases k.new a z with z | z
 ·exact n z
 ·rw [h] at z;cases z
theorem Rd.step {H H':Hp} {a:aVA} {u:HO} {O O':aVA->Prop} (k:Kp O O' H H') (h:¬O a/\Rd H a u):¬O' a/\Rd H' a u:=by
 obtain ⟨n,h⟩:=h;rcases h with h | ⟨o,h⟩
 ·refine ⟨λz=>?_,.inl (k.keep _ _ h n)⟩;rcases k.new a z with z | z
  ·exact n z
  ·rw [h] at z;cases z
 ·refine ⟨λz=>?_,.inr ⟨o,k.keep _ _ h n⟩⟩;rcases k.new a z with z | z
  ·exact n z
  ·rw [h] at z;cases z
section
variable {K:W.Frag} {H H':Hp} {O O':aVA->Prop}
mutual
theorem Rp.step (k:Kp O O' H H'):∀{t:T} {v:V},Rp K H O t v->Rp K H' O' t v
 | .non,_,h=>h
 | .bl _,_,h=>h
 | .int _,_,h=>h
 | .str _,_,h=>h
 | .tup xs,v,h=>by
  obtain ⟨a,vs,e,h1,h2⟩:=h;exact ⟨a,vs,e,h1.imp (Kp.tup k) id,cG.step k h2⟩
 | .lst xs,v,h=>by
  obtain ⟨a,vs,e,h1,h2⟩:=h;exact ⟨a,vs,e,h1.imp (Rd.step k) id,cG.step k h2⟩
theorem cG.step (k:Kp O O' H H'):∀{xs:List T} {vs:List V},cG K H O xs vs->cG K H' O' xs vs
 | [],_,h=>h
 | x::xs,vs,h=>by
  obtain ⟨v,r,e,h1,h2⟩:=h;exact ⟨v,r,e,Rp.step k h1,cG.step k h2⟩
end
theorem Kp.refl (O:aVA->Prop) (H:Hp):Kp O O H H:=⟨λ_ _ h _=>h,λ_ h=>.inl h⟩
theorem Kp.less (h:∀b,O' b->O b):Kp O O' H H:=⟨λ_ _ h _=>h,λ_ z=>.inl (h _ z)⟩
theorem Kp.trans {O'':aVA->Prop} {H'':Hp} (a:Kp O O' H H') (b:Kp O' O'' H' H''):Kp O O'' H H'':=by
 refine ⟨λc o h n=>b.keep c o (a.keep c o h n) λz=>?_,λc h=>?_⟩
 ·rcases a.new c z with z | z
  ·exact n z
  ·rw [h] at z;cases z
 ·rcases b.new c h with z | z
  ·exact a.new c z
  ·by_cases n:O c
   ·exact .inl n
   ·right
    cases q:H c with
    | none=>rfl
    | some o=>rw [a.keep c o q n] at z;cases z
theorem Kp.upd {a:aVA} {o:HO} (h:H a=none):Kp O O H (upd H a o):=⟨λb u e _=>by rw [aR (aY e h)];exact e,λ_ z=>.inl z⟩
theorem cG.length:∀{xs:List T} {vs:List V},cG K H O xs vs->vs.length=xs.length
 | [],_,h=>by cases h;rfl
 | _::_,_,h=>by
  obtain ⟨v,r,e,_,h2⟩:=h;rw [e,aKX,aKX,cG.length h2]
theorem cG.get:∀{xs:List T} {vs:List V} {i:Nat} {x:T},cG K H O xs vs->xs[i]? = some x->∃v,vs[i]? = some v/\Rp K H O x v
 | [],_,_,_,_,e=>by simp at e
 | _::_,_,0,_,⟨v,r,e,h1,_⟩,q=>by simp at q;subst q;subst e;exact ⟨v,rfl,h1⟩
 | _::_,_,i+1,x,⟨v,r,e,_,h2⟩,q=>by
  obtain ⟨w,q1,q2⟩:=cG.get (i:=i) (x:=x) h2 (by simpa using q);subst e;exact ⟨w,by simpa using q1,q2⟩
theorem cG.append:∀{xs ys:List T} {vs ws:List V},cG K H O xs vs->cG K H O ys ws->cG K H O (xs++ys) (vs++ws)
 | [],_,_,_,h,k=>by cases h;exact k
 | _::_,_,_,_,⟨v,r,e,h1,h2⟩,k=>by subst e;exact ⟨v,_,rfl,h1,cG.append h2 k⟩
theorem cG.set {x:T} {v:V} (h:Rp K H O x v):∀{xs:List T} {vs:List V} (i:Nat),cG K H O xs vs->cG K H O (xs.set i x) (vs.set i v)
 | [],_,_,k=>by cases k;exact rfl
 | _::_,_,0,⟨u,r,e,h1,h2⟩=>by subst e;exact ⟨v,_,rfl,h,h2⟩
 | _::_,_,i+1,⟨u,r,e,h1,h2⟩=>by subst e;exact ⟨u,_,rfl,h1,cG.set h i h2⟩
theorem cG.take:∀{xs:List T} {vs:List V} (n:Nat),cG K H O xs vs->cG K H O (xs.take n) (vs.take n)
 | _,_,0,_=>by simp [cG]
 | [],_,_+1,h=>by cases h;exact rfl
 | _::_,_,n+1,⟨v,r,e,h1,h2⟩=>by subst e;exact ⟨v,_,rfl,h1,cG.take n h2⟩
theorem cG.drop:∀{xs:List T} {vs:List V} (n:Nat),cG K H O xs vs->cG K H O (xs.drop n) (vs.drop n)
 | _,_,0,h=>h
 | [],_,_+1,h=>by cases h;exact rfl
 | _::_,_,n+1,⟨v,r,e,h1,h2⟩=>by subst e;exact cG.drop n h2
theorem Rp.sqT {xs:List T} {v:V} (h:Rp K H O (.tup xs) v):∃a vs,v = .ref a/\rL K H a vs/\cG K H O xs vs:=by
 obtain ⟨a,vs,e,h1,h2⟩:=h;exact ⟨a,vs,e,h1.imp (λh=>.inl h.2) id,h2⟩
theorem Rp.sqL {xs:List T} {v:V} (h:Rp K H O (.lst xs) v):∃a vs,v = .ref a/\iU K H a vs/\cG K H O xs vs:=by
 obtain ⟨a,vs,e,h1,h2⟩:=h;exact ⟨a,vs,e,h1.imp And.right id,h2⟩
end
def Ow (B:aVA->Prop) (S:St) (E:En) (a:aVA):Prop:=B a\/∃(i:Nat) (k:Bool) (xs:List T),E[i]? = some (some (.o k xs))/\S[i]? = some (some (.ref a))
structure RE (K:W.Frag) (B:aVA->Prop) (H:Hp) (S:St) (E:En):Prop where
 len:S.length=E.length
 pure:∀(i:Nat) (t:T),E[i]? = some (some (.p t))->∃v,S[i]? = some (some v)/\Rp K H (Ow B S E) t v
 own:∀(i:Nat) (k:Bool) (xs:List T),E[i]? = some (some (.o k xs))->∃a vs,S[i]? = some (some (.ref a))/\H a=some (.lst vs)/\cG K H (Ow B S E) xs vs/\(k=true↔B a)
 inj:∀(i j:Nat) (k l:Bool) (xs ys:List T) (a:aVA),E[i]? = some (some (.o k xs))->E[j]? = some (some (.o l ys))->S[i]? = some (some (.ref a))->S[j]? = some (some (.ref a))->i=j
 bd:∀a,B a->∃vs,H a=some (.lst vs)
section
variable {K:W.Frag} {B:aVA->Prop} {H H':Hp} {S S':St} {E E':En}
theorem RE.ow (r:RE K B H S E) {a:aVA} (h:Ow B S E a):∃vs,H a=some (.lst vs):=by
 rcases h with h | ⟨i,k,xs,h1,h2⟩
 ·exact r.bd a h
 obtain ⟨a',vs,h3,h4,_⟩:=r.own i k xs h1;rw [h2] at h3;cases h3;exact ⟨vs,h4⟩
theorem RE.nn (r:RE K B H S E) {a:aVA} (h:H a=none):¬Ow B S E a:=λz=>by
 obtain ⟨ws,e⟩:=r.ow z;rw [h] at e;cases e
theorem RE.step (r:RE K B H S E) (k:∀b o,H b=some o->¬Ow B S E b->H' b=some o) (hl:E'.length=E.length)
  (hp:∀(i:Nat) (t:T),E'[i]? = some (some (.p t))->E[i]? = some (some (.p t)))
  (ho:∀(i:Nat) (k:Bool) (xs':List T),E'[i]? = some (some (.o k xs'))->∃xs,E[i]? = some (some (.o k xs))/\∀a,S[i]? = some (some (.ref a))->∃vs,H' a=some (.lst vs)/\cG K H' (Ow B S E) xs' vs) (hb:∀a,B a->∃vs,H' a=some (.lst vs)):RE K B H' S E':=by
 have ow:∀b,Ow B S E' b->Ow B S E b:=λb z=>by
  rcases z with z | ⟨i,k,xs,h1,h2⟩
  ·exact .inl z
  obtain ⟨ys,h3,_⟩:=ho i k xs h1;exact .inr ⟨i,k,ys,h3,h2⟩
 have kp:Kp (Ow B S E) (Ow B S E') H H':=⟨k,λb z=>.inl (ow b z)⟩;refine ⟨by rw [hl];exact r.len,λi t h=>?_,λi k xs h=>?_,λi j k l xs ys a h1 h2 h3 h4=>?_,hb⟩
 ·obtain ⟨v,h1,h2⟩:=r.pure i t (hp i t h);exact ⟨v,h1,h2.step kp⟩
 ·obtain ⟨ys,h1,h2⟩:=ho i k xs h;obtain ⟨a,vs,h3,_,_,h6⟩:=r.own i k ys h1;obtain ⟨ws,h7,h8⟩:=h2 a h3;exact ⟨a,ws,h3,h7,h8.step (Kp.less ow),h6⟩
 ·obtain ⟨_,q1,_⟩:=ho i k xs h1;obtain ⟨_,q2,_⟩:=ho j l ys h2;exact r.inj i j k l _ _ a q1 q2 h3 h4
theorem RE.kept (r:RE K B H S E) (k:∀b o,H b=some o->H' b=some o):RE K B H' S E:=
 r.step (λb o h _=>k b o h) rfl (λ_ _ h=>h) (λi l xs h=>⟨xs,h,λa ha=>by
  obtain ⟨a',vs,h1,h2,h3,_⟩:=r.own i l xs h;rw [ha] at h1;cases h1;exact ⟨vs,k _ _ h2,h3.step ⟨λb o e _=>k b o e,λb z=>.inl z⟩⟩⟩) (λa h=>let ⟨vs,q⟩:=r.bd a h;⟨vs,k _ _ q⟩)
theorem RE.take (r:RE K B H S E) (n:Nat):RE K B H (S.take n) (E.take n):=by
 have gE:∀{i:Nat} {x:Option U},(E.take n)[i]? = some x->E[i]? = some x/\i<n:=λ{i x} h=>by
  by_cases c:i<n
  ·rw [aQ4 c] at h;exact ⟨h,c⟩
  ·rw [aS6 (by omega)] at h;cases h
 have gS:∀{i:Nat} {x:Option V},i<n->S[i]? = some x->(S.take n)[i]? = some x:=λ{i x} c h=>by rw [aQ4 c];exact h
 have gS':∀{i:Nat} {x:Option V},(S.take n)[i]? = some x->S[i]? = some x:=λ{i x} h=>by
  by_cases c:i<n
  ·rw [aQ4 c] at h;exact h
  ·rw [aS6 (by omega)] at h;cases h
 have ow:∀b,Ow B (S.take n) (E.take n) b->Ow B S E b:=λb z=>z.imp id λ⟨i,k,xs,h1,h2⟩=>⟨i,k,xs,(gE h1).1,gS' h2⟩;refine ⟨by rw [aMI,aMI,r.len],λi t h=>?_,λi k xs h=>?_,λi j k l xs ys a h1 h2 h3 h4=>?_,r.bd⟩
 ·obtain ⟨v,h1,h2⟩:=r.pure i t (gE h).1;exact ⟨v,gS (gE h).2 h1,h2.step (Kp.less ow)⟩
 ·obtain ⟨a,vs,h1,h2,h3,h4⟩:=r.own i k xs (gE h).1;exact ⟨a,vs,gS (gE h).2 h1,h2,h3.step (Kp.less ow),h4⟩
 ·exact r.inj i j k l xs ys a (gE h1).1 (gE h2).1 (gS' h3) (gS' h4)
end
end L2
namespace L2
open PySem PySem.Spec PyProof.Rows
def RR (K:W.Frag) (B:aVA->Prop) (H:Hp) (S:St) (E:En):R->V->Prop
 | .p t,v=>Rp K H (Ow B S E) t v
 | .s i,v=>S[i]? = some (some v)
def RRs (K:W.Frag) (B:aVA->Prop) (H:Hp) (S:St) (E:En):List R->List V->Prop
 | [],vs=>vs=[]
 | r::rs,vs=>∃v ws,vs=v::ws/\RR K B H S E r v/\RRs K B H S E rs ws
structure Gr (B:aVA->Prop) (H:Hp) (S:St) (E:En) (H':Hp) (S':St) (E':En):Prop where
 kp:Kp (Ow B S E) (Ow B S' E') H H'
 pre:∃τ,S'=S++τ
theorem Gr.refl {B:aVA->Prop} {H:Hp} {S:St} {E:En}:Gr B H S E H S E:=⟨Kp.refl _ _,[],by simp⟩
theorem Gr.trans {B:aVA->Prop} {H H1 H2:Hp} {S S1 S2:St} {E E1 E2:En} (a:Gr B H S E H1 S1 E1) (b:Gr B H1 S1 E1 H2 S2 E2):Gr B H S E H2 S2 E2:=by
 obtain ⟨t,e⟩:=a.pre;obtain ⟨u,f⟩:=b.pre;exact ⟨a.kp.trans b.kp,t++u,by rw [f,e,aDE]⟩
theorem dF {S S':St} (h:∃τ,S'=S++τ) {i:Nat} {x:Option V} (e:S[i]? = some x):S'[i]? = some x:=by
 obtain ⟨t,rfl⟩:=h;rw [aG6 (aA7.mp e).1];exact e
section
variable {K:W.Frag} {B:aVA->Prop} {H H':Hp} {S S':St} {E E':En} {σ:St}
theorem RR.step (g:Gr B H S E H' S' E') {r:R} {v:V} (h:RR K B H S E r v):RR K B H' S' E' r v:=by
 cases r with
 | p t=>exact Rp.step g.kp h
 | s i=>exact dF g.pre h
theorem RRs.step (g:Gr B H S E H' S' E'):∀{rs:List R} {vs:List V},RRs K B H S E rs vs->RRs K B H' S' E' rs vs
 | [],_,h=>h
 | _::_,_,⟨v,ws,e,h1,h2⟩=>⟨v,ws,e,h1.step g,RRs.step g h2⟩
def Lk (K:W.Frag) (B:aVA->Prop) (H:Hp) (S:St) (E:En) (Q':R->En->Prop) (Q:VK):Prop:=∀r E' v H' S',Q' r E'->Gr B H S E H' S' E'->RE K B H' S' E'->RR K B H' S' E' r v->Q v H'
def LkA (K:W.Frag) (n:Nat) (B:aVA->Prop) (H:Hp) (S:St) (E:En) (Q':List R->En->Prop) (Q:List V->Hp->Prop):Prop:=∀rs E' vs H' S',Q' rs E'->Gr B H S E H' S' E'->RE K B H' S' E'->RRs K B H' S' E' rs vs->vs.length=n->Q vs H'
theorem Lk.step {Q':R->En->Prop} {Q:VK} (l:Lk K B H S E Q' Q) (g:Gr B H S E H' S' E'):Lk K B H' S' E' Q' Q:=λr E2 v H2 S2 q g2=>l r E2 v H2 S2 q (g.trans g2)
end
abbrev FE:=En->(R->En->Prop)->Prop
abbrev FA:=En->(List R->En->Prop)->Prop
abbrev FB:=En->(Bool->En->Prop)->Prop
def aL (K:W.Frag) (F:FE):TE:=λσ H Q=>∃B S E Q',(∃τ,S=σ++τ)/\RE K B H S E/\F E Q'/\Lk K B H S E Q' Q
def dJ (K:W.Frag) (n:Nat) (F:FA):TA:=λσ H Q=>∃B S E Q',(∃τ,S=σ++τ)/\RE K B H S E/\F E Q'/\LkA K n B H S E Q' Q
def dQ (K:W.Frag) (F:FB):TT:=λσ H Q=>∃B S E Q',(∃τ,S=σ++τ)/\RE K B H S E/\F E Q'/\∀b E' H' S',Q' b E'->Gr B H S E H' S' E'->RE K B H' S' E'->Q b H'
section
variable {X:Cx} {e:Expr} {es:List Expr}
theorem QE.le {t t':TE} (h:QE X e t) (m:∀σ H Q,σ.length=X.N.length->t' σ H Q->t σ H Q):QE X e t':=⟨λpins s σ H Q I z=>h.h pins s σ H Q I (m σ H Q I.len z)⟩
theorem QA.le {t t':TA} (h:QA X es t) (m:∀σ H Q,t' σ H Q->t σ H Q):QA X es t':=⟨λpos pins s σ H Q I z=>h.h pos pins s σ H Q I (m σ H Q z)⟩
theorem QT.le {t t':TT} (h:QT X e t) (m:∀σ H Q,t' σ H Q->t σ H Q):QT X e t':=⟨λpins s σ H Q I z=>h.h pins s σ H Q I (m σ H Q z)⟩
theorem QW.le {t t':TT} (h:QW X e t) (m:∀σ H Q,t' σ H Q->t σ H Q):QW X e t':=⟨λwh pins s σ H Q I z=>h.h wh pins s σ H Q I (m σ H Q z)⟩
end
def vl (E:En):R->Option T
 | .p t=>some t
 | .s i=>match E[i]? with
  | some (some (.o _ xs))=>some (.lst xs)
  | some (some (.p t))=>some t
  | _=>none
def Rt (K:W.Frag) (H:Hp) (O:aVA->Prop):T->V->Prop
 | .tup xs,v=>∃a vs,v = .ref a/\rL K H a vs/\cG K H O xs vs
 | .lst xs,v=>∃a vs,v = .ref a/\iU K H a vs/\cG K H O xs vs
 | t,v=>Rp K H O t v
theorem Rp.rt {K:W.Frag} {H:Hp} {O:aVA->Prop} {t:T} {v:V} (h:Rp K H O t v):Rt K H O t v:=by
 cases t with
 | tup xs=>exact h.sqT
 | lst xs=>exact h.sqL
 | non=>exact h
 | bl _=>exact h
 | int _=>exact h
 | str _=>exact h
section
variable {K:W.Frag} {B:aVA->Prop} {H H':Hp} {S S':St} {E E':En} {σ:St}
theorem RE.vl (re:RE K B H S E) {r:R} {v:V} {t:T} (h:RR K B H S E r v) (e:vl E r=some t):Rt K H (Ow B S E) t v:=by
 cases r with
 | p u=>cases e;exact Rp.rt h
 | s i=>
  cases q:E[i]? with
  | none=>simp only [L2.vl,q] at e;cases e
  | some u=>
   cases u with
   | none=>simp only [L2.vl,q] at e;cases e
   | some u=>
    cases u with
    | p u=>
     simp only [L2.vl,q] at e;cases e;obtain ⟨w,h1,h2⟩:=re.pure i _ q;have h':S[i]? = some (some v):=h;rw [h'] at h1;cases h1;exact h2.rt
    | o k xs=>
     simp only [L2.vl,q] at e;cases e;obtain ⟨a,vs,h1,h2,h3,_⟩:=re.own i k xs q;have h':S[i]? = some (some v):=h;rw [h'] at h1;cases h1;exact ⟨a,vs,rfl,iU.of h2,h3⟩
theorem RE.int (re:RE K B H S E) {r:R} {v:V} {i:Int} (h:RR K B H S E r v) (e:L2.vl E r=some (.int i)):v = .int i:=re.vl h e
theorem RE.bl (re:RE K B H S E) {r:R} {v:V} {b:Bool} (h:RR K B H S E r v) (e:L2.vl E r=some (.bl b)):v = .bl b:=re.vl h e
theorem RE.tup (re:RE K B H S E) {p:aVA} {ts:List T} {vs:List V} (hp:H p=none) (h:cG K H (Ow B S E) ts vs) :
  Gr B H S E (upd H p (.tup vs)) S E/\RE K B (upd H p (.tup vs)) S E/\Rp K (upd H p (.tup vs)) (Ow B S E) (.tup ts) (.ref p):=by
 have k:Kp (Ow B S E) (Ow B S E) H (upd H p (.tup vs)):=Kp.upd hp;exact ⟨⟨k,[],by simp⟩,re.kept λb o e=>by rw [aR (aY e hp)];exact e,p,vs,rfl,.inl ⟨re.nn hp,bT⟩,h.step k⟩
theorem wI {α:Type} {xs:List α} {x:α} {i:Nat} {y:α} (h:(xs++[x])[i]? = some y):(i<xs.length/\xs[i]? = some y)\/(i=xs.length/\y=x):=by
 rcases aRB i xs.length with c | c
 ·rw [aG6 c] at h;exact .inl ⟨c,h⟩
 ·rw [aLZ c] at h;have:i-xs.length=0:=by
   rcases Nat.eq_zero_or_pos (i-xs.length) with z | z
   ·exact z
   ·rw [aT5 (by simp;omega)] at h;cases h
  rw [this] at h;simp at h;exact .inr ⟨by omega,h.symm⟩
theorem jZ {α:Type} {xs:List α} {x:α}:(xs++[x])[xs.length]? = some x:=by simp
theorem RE.lst (re:RE K B H S E) {p:aVA} {ts:List T} {vs:List V} (hp:H p=none) (h:cG K H (Ow B S E) ts vs) :
  Gr B H S E (upd H p (.lst vs)) (S++[some (.ref p)]) (E++[some (.o false ts)])/\RE K B (upd H p (.lst vs)) (S++[some (.ref p)]) (E++[some (.o false ts)]):=by
 have gE:∀{i:Nat} {u:U},(E++[some (.o false ts)])[i]? = some (some u)->(E[i]? = some (some u)/\i<E.length)\/(i=E.length/\u = .o false ts):=λ{i u} h=>by
  rcases wI h with ⟨c,h⟩ | ⟨c,h⟩
  ·exact .inl ⟨h,c⟩
  ·exact .inr ⟨c,Option.some.inj h⟩
 have gS:∀{i:Nat} {x:Option V},S[i]? = some x->(S++[some (.ref p)])[i]? = some x:=λ{i x} h=>dF ⟨_,rfl⟩ h;have gS':∀{i:Nat} {x:Option V},i<E.length->(S++[some (.ref p)])[i]? = some x->S[i]? = some x:=λ{i x} c h=>by
  rw [aG6 (by rw [re.len];exact c)] at h;exact h
 have lS:(S++[some (.ref p)])[E.length]? = some (some (.ref p)):=by rw [<-re.len];simp
 have ow:∀b,Ow B (S++[some (.ref p)]) (E++[some (.o false ts)]) b->Ow B S E b\/H b=none:=λb z=>by
  rcases z with z | ⟨i,k,xs,h1,h2⟩
  ·exact .inl (.inl z)
  rcases gE h1 with ⟨h1,c⟩ | ⟨c,h1⟩
  ·exact .inl (.inr ⟨i,k,xs,h1,gS' c h2⟩)
  ·subst c;rw [lS] at h2;cases h2;exact .inr hp
 have k:Kp (Ow B S E) (Ow B (S++[some (.ref p)]) (E++[some (.o false ts)])) H (upd H p (.lst vs)):=⟨λb o e _=>by rw [aR (aY e hp)];exact e,ow⟩;refine ⟨⟨k,_,rfl⟩,⟨by simp [re.len],λi t h=>?_,λi l xs h=>?_,λi j l m xs ys a h1 h2 h3 h4=>?_,λa h=>?_⟩⟩
 ·rcases gE h with ⟨h,c⟩ | ⟨c,h⟩
  ·obtain ⟨v,h1,h2⟩:=re.pure i t h;exact ⟨v,gS h1,h2.step k⟩
  ·cases h
 ·rcases gE h with ⟨h,c⟩ | ⟨c,h⟩
  ·obtain ⟨a,ws,h1,h2,h3,h4⟩:=re.own i l xs h;exact ⟨a,ws,gS h1,by rw [aR (aY h2 hp)];exact h2,h3.step k,h4⟩
  ·cases h;subst c;refine ⟨p,vs,lS,bT,?_,⟨λz=>absurd z (by decide),λz=>absurd (.inl z) (re.nn hp)⟩⟩;exact cG.step k (by assumption)
 ·rcases gE h1 with ⟨h1,c1⟩ | ⟨c1,h1⟩
  ·rcases gE h2 with ⟨h2,c2⟩ | ⟨c2,h2⟩
   ·exact re.inj i j l m xs ys a h1 h2 (gS' c1 h3) (gS' c2 h4)
   ·subst c2;rw [lS] at h4;cases h4;exact absurd (.inr ⟨i,l,xs,h1,gS' c1 h3⟩) (re.nn hp)
  ·rcases gE h2 with ⟨h2,c2⟩ | ⟨c2,h2⟩
   ·subst c1;rw [lS] at h3;cases h3;exact absurd (.inr ⟨j,m,ys,h2,gS' c2 h4⟩) (re.nn hp)
   ·rw [c1,c2]
 ·obtain ⟨us,q⟩:=re.bd a h;exact ⟨us,by rw [aR (aY q hp)];exact q⟩
end
section
variable {X:Cx} {K:W.Frag} {pos:Pos} {a b c e:Expr} {es rest:List Expr} {Fa Fb Fc:FE} {Fr:FA} {Fp Fq:FB}
def aOV (i:Nat):FE:=λE Q=>match E[i]? with
 | some (some (.p t))=>Q (.p t) E
 | some (some (.o _ _))=>Q (.s i) E
 | _=>False
def fC (t:T):FE:=λE Q=>Q (.p t) E
theorem fv (i:Nat) {x:Str} (hN:X.N[i]? = some x:=by rfl) (hv:Vis X.env.scope x:=by first | exact aDC rfl | exact aN3 (aDC rfl) | exact aN3 (aN3 rfl)) (hd:(x==("__debug__":Str))=false:=by decide)
  (hcd:(x==("__classdict__":Str))=false:=by decide):QE X (.Name x pos) (aL K (aOV i)):=by
 refine (qv i hN hv hd hcd).le λσ H Q hl ⟨B,S,E,Q',hS,re,hF,lk⟩=>?_;have hi:i<σ.length:=by rw [hl];exact (aA7.mp hN).1
 obtain ⟨τ,rfl⟩:=hS;have back:∀{v},(σ++τ)[i]? = some (some v)->σ[i]? = some (some v):=λh=>by rw [aG6 hi] at h;exact h
 unfold aOV at hF;split at hF
 ·rename_i t q;obtain ⟨v,h1,h2⟩:=re.pure i t q;exact ⟨v,back h1,lk _ _ _ _ _ hF .refl re h2⟩
 ·rename_i k xs q;obtain ⟨p,vs,h1,_⟩:=re.own i k xs q;exact ⟨_,back h1,lk _ _ _ _ _ hF .refl re h1⟩
 ·exact hF.elim
theorem aEK {v:V} {t:T} (h:QE X e (tC v)) (hv:∀K H O,Rp K H O t v):QE X e (aL K (fC t)):=h.le λσ H Q hl ⟨B,S,E,Q',hS,re,hF,lk⟩=>lk _ _ _ _ _ hF .refl re (hv _ _ _)
theorem aB {i j pos}:QE X (.Constant (.int i) j pos) (aL K (fC (.int i))):=aEK aLS λ_ _ _=>rfl
theorem kC {b j pos}:QE X (.Constant (.bool b) j pos) (aL K (fC (.bl b))):=aEK aKW λ_ _ _=>rfl
theorem pN {j pos}:QE X (.Constant .none j pos) (aL K (fC .non)):=aEK aGT λ_ _ _=>rfl
theorem dC {x j pos}:QE X (.Constant (.str x) j pos) (aL K (fC (.str x))):=aEK aNQ λ_ _ _=>rfl
theorem two {G:R->R->En->(R->En->Prop)->Prop} {σ:St} {H:Hp} {Q:VK} (h:aL K (λE Q=>Fa E λx E1=>Fb E1 λy E2=>G x y E2 Q) σ H Q) {P:V->V->Hp->Prop}
  (k:∀B S E x y v w H2 Q',(∃τ,S=σ++τ)->RE K B H2 S E->RR K B H2 S E x v->RR K B H2 S E y w->G x y E Q'->Lk K B H2 S E Q' Q->P v w H2):aL K Fa σ H λv H1=>aL K Fb σ H1 λw H2=>P v w H2:=by
 obtain ⟨B,S,E,Q',⟨τ,hS⟩,re,hF,lk⟩:=h;refine ⟨B,S,E,_,⟨τ,hS⟩,re,hF,λr E1 v H1 S1 q g re1 rr=>?_⟩;obtain ⟨τ1,hS1⟩:=g.pre;refine ⟨B,S1,E1,_,⟨τ++τ1,by rw [hS1,hS,aDE]⟩,re1,q,λr2 E2 w H2 S2 q2 g2 re2 rr2=>?_⟩;obtain ⟨τ2,hS2⟩:=g2.pre;exact k B S2 E2 r r2 v w H2 Q' ⟨τ++τ1++τ2,by rw [hS2,hS1,hS,aDE,aDE,aDE]⟩ re2 (rr.step g2) rr2 q2 (lk.step (g.trans g2))
theorem one {G:R->En->(R->En->Prop)->Prop} {σ:St} {H:Hp} {Q:VK} (h:aL K (λE Q=>Fa E λx E1=>G x E1 Q) σ H Q) {P:V->Hp->Prop}
  (k:∀B S E x v H2 Q',(∃τ,S=σ++τ)->RE K B H2 S E->RR K B H2 S E x v->G x E Q'->Lk K B H2 S E Q' Q->P v H2):aL K Fa σ H λv H1=>P v H1:=by
 obtain ⟨B,S,E,Q',⟨τ,hS⟩,re,hF,lk⟩:=h;refine ⟨B,S,E,_,⟨τ,hS⟩,re,hF,λr E1 v H1 S1 q g re1 rr=>?_⟩;obtain ⟨τ1,hS1⟩:=g.pre;exact k B S1 E1 r v H1 Q' ⟨τ++τ1,by rw [hS1,hS,aDE]⟩ re1 rr q (lk.step g)
def i2 (x y:Option T) (k:Int->Int->Prop):Prop:=match x,y with
 | some (.int i),some (.int j)=>k i j
 | _,_=>False
theorem i2.ex {x y:Option T} {k:Int->Int->Prop} (h:i2 x y k):∃i j,x=some (.int i)/\y=some (.int j)/\k i j:=by
 unfold i2 at h;split at h
 ·exact ⟨_,_,rfl,rfl,h⟩
 ·exact h.elim
def fI (C:Int->Int->Prop) (g:Int->Int->Int) (Fa Fb:FE):FE:=λE Q=>Fa E λx E1=>Fb E1 λy E2=>i2 (vl E2 x) (vl E2 y) λi j=>C i j/\Q (.p (.int (g i j))) E2
def fI0 (g:Int->Int->Int) (Fa Fb:FE):FE:=λE Q=>Fa E λx E1=>Fb E1 λy E2=>i2 (vl E2 x) (vl E2 y) λi j=>Q (.p (.int (g i j))) E2
def fCp (g:Int->Int->Bool) (Fa Fb:FE):FE:=λE Q=>Fa E λx E1=>Fb E1 λy E2=>i2 (vl E2 x) (vl E2 y) λi j=>Q (.p (.bl (g i j))) E2
theorem aP {op:Operator} {C:Int->Int->Prop} {g:Int->Int->Int} (ho:kU X (aV2 op) (rI C λi j=>.int (g i j))) (ha:QE X a (aL K Fa)) (hb:QE X b (aL K Fb)):QE X (.BinOp a op b pos) (aL K (fI C g Fa Fb)):=by
 refine (aDR ho ha hb).le λσ H Q hl h=>two h λB S E x y v w H2 Q' hS re rx ry q lk=>?_;obtain ⟨i,j,e1,e2,c,q⟩:=q.ex;exact ⟨i,j,re.int rx e1,re.int ry e2,c,lk _ _ _ _ _ q .refl re rfl⟩
theorem aU {op:Operator} {g:Int->Int->Int} (ho:kU X (aV2 op) (rI0 λi j=>.int (g i j))) (ha:QE X a (aL K Fa)) (hb:QE X b (aL K Fb)):QE X (.BinOp a op b pos) (aL K (fI0 g Fa Fb)):=by
 refine (aDR ho ha hb).le λσ H Q hl h=>two h λB S E x y v w H2 Q' hS re rx ry q lk=>?_;obtain ⟨i,j,e1,e2,q⟩:=q.ex;exact ⟨i,j,re.int rx e1,re.int ry e2,lk _ _ _ _ _ q .refl re rfl⟩
theorem mU {op:CmpOp} {g:Int->Int->Bool} (ho:kU X (aVU op) (rI0 λi j=>.bl (g i j))) (ha:QE X a (aL K Fa)) (hb:QE X b (aL K Fb)) (hm:aVM op b=false):QE X (.Compare a [op] [b] pos) (aL K (fCp g Fa Fb)):=by
 refine (aBM ho ha hb hm).le λσ H Q hl h=>two h λB S E x y v w H2 Q' hS re rx ry q lk=>?_;obtain ⟨i,j,e1,e2,q⟩:=q.ex;exact ⟨i,j,re.int rx e1,re.int ry e2,lk _ _ _ _ _ q .refl re rfl⟩
def i1 (x:Option T) (k:Int->Prop):Prop:=match x with
 | some (.int i)=>k i
 | _=>False
theorem i1.ex {x:Option T} {k:Int->Prop} (h:i1 x k):∃i,x=some (.int i)/\k i:=by
 unfold i1 at h;split at h
 ·exact ⟨_,rfl,h⟩
 ·exact h.elim
def b1 (x:Option T) (k:Bool->Prop):Prop:=match x with
 | some (.bl i)=>k i
 | _=>False
theorem b1.ex {x:Option T} {k:Bool->Prop} (h:b1 x k):∃i,x=some (.bl i)/\k i:=by
 unfold b1 at h;split at h
 ·exact ⟨_,rfl,h⟩
 ·exact h.elim
def aRR (Fa:FE):FE:=λE Q=>Fa E λx E1=>i1 (vl E1 x) λi=>Q (.p (.int (-i))) E1
theorem uY (ha:QE X a (aL K Fa)):QE X (.UnaryOp .USub a pos) (aL K (aRR Fa)):=by
 refine (aPA aLK ha).le λσ H Q hl h=>one (Fa:=Fa) h λB S E x v H2 Q' hS re rx q lk=>?_;obtain ⟨i,e1,q⟩:=q.ex;exact ⟨i,re.int rx e1,lk _ _ _ _ _ q .refl re rfl⟩
theorem aG3 {G:Bool->En->(Bool->En->Prop)->Prop} {σ:St} {H:Hp} {Q:Bool->Hp->Prop} (h:dQ K (λE Q=>Fp E λx E1=>G x E1 Q) σ H Q) {P:Bool->Hp->Prop}
  (k:∀B S E x H2 Q',(∃τ,S=σ++τ)->RE K B H2 S E->G x E Q'->(∀b E' H' S',Q' b E'->Gr B H2 S E H' S' E'->RE K B H' S' E'->Q b H')->P x H2):dQ K Fp σ H P:=by
 obtain ⟨B,S,E,Q',⟨τ,hS⟩,re,hF,lk⟩:=h;refine ⟨B,S,E,_,⟨τ,hS⟩,re,hF,λr E1 H1 S1 q g re1=>?_⟩;obtain ⟨τ1,hS1⟩:=g.pre;exact k B S1 E1 r H1 Q' ⟨τ++τ1,by rw [hS1,hS,aDE]⟩ re1 q λb E2 H2 S2 q2 g2 re2=>lk b E2 H2 S2 q2 (g.trans g2) re2
def rG (Fa:FE):FB:=λE Q=>Fa E λx E1=>b1 (vl E1 x) λi=>Q i E1
def aSD (Fp:FB):FB:=λE Q=>Fp E λx E1=>Q (!x) E1
def aRY (Fp Fq:FB):FB:=λE Q=>Fp E λx E1=>if x=true then Fq E1 Q else Q false E1
def bOr (Fp Fq:FB):FB:=λE Q=>Fp E λx E1=>if x=true then Q true E1 else Fq E1 Q
theorem aI5 {σ:St} {H:Hp} {Q:Bool->Hp->Prop} (h:dQ K (rG Fa) σ H Q):aL K Fa σ H λv H1=>∃c,v = .bl c/\Q c H1:=by
 obtain ⟨B,S,E,Q',⟨τ,hS⟩,re,hF,lk⟩:=h;refine ⟨B,S,E,_,⟨τ,hS⟩,re,hF,λr E1 v H1 S1 q g re1 rr=>?_⟩;obtain ⟨i,e1,q⟩:=q.ex;exact ⟨i,re1.bl rr e1,lk _ _ _ _ q g re1⟩
theorem sS (h:QE X e (aL K Fa)) (he:∀whole,isTrue e X.env whole=(do let v <-whole;standAt e.pos;aV7 [v] (truthy v)):=by intro _;rfl):QT X e (dQ K (rG Fa)):=(aN0 h he).le λσ H Q z=>aI5 z
theorem yF (ha:QT X a (dQ K Fp)):QT X (.UnaryOp .Not a pos) (dQ K (aSD Fp)):=(aLE ha).le λσ H Q h=>aG3 (Fp:=Fp) h λB S E x H2 Q' hS re q lk=>lk _ _ _ _ q .refl re
theorem iI (ha:QT X a (dQ K Fp)):QW X (.BoolOp .And [a] pos) (dQ K Fp):=aHE ha
theorem aEZ (ha:QT X a (dQ K Fp)):QW X (.BoolOp .Or [a] pos) (dQ K Fp):=aMQ ha
theorem i9 (ha:QT X a (dQ K Fp)) (hb:QW X (.BoolOp .And (b::rest) pos) (dQ K Fq)):QW X (.BoolOp .And (a::b::rest) pos) (dQ K (aRY Fp Fq)):=by
 refine (aLH ha hb).le λσ H Q h=>aG3 (Fp:=Fp) h λB S E x H2 Q' hS re q lk=>?_;cases x
 ·exact lk _ _ _ _ q .refl re
 ·exact ⟨B,S,E,Q',hS,re,q,lk⟩
theorem aKC (ha:QT X a (dQ K Fp)) (hb:QW X (.BoolOp .Or (b::rest) pos) (dQ K Fq)):QW X (.BoolOp .Or (a::b::rest) pos) (dQ K (bOr Fp Fq)):=by
 refine (aOJ ha hb).le λσ H Q h=>aG3 (Fp:=Fp) h λB S E x H2 Q' hS re q lk=>?_;cases x
 ·exact ⟨B,S,E,Q',hS,re,q,lk⟩
 ·exact lk _ _ _ _ q .refl re
theorem rF (h:QW X e (dQ K Fp)):QT X e (dQ K Fp):=aRJ h
def aRL (Fa Fb:FE):FE:=λE Q=>Fa E λx E1=>b1 (vl E1 x) λi=>if i=true then Fb E1 Q else Q (.p (.bl false)) E1
def fOr (Fa Fb:FE):FE:=λE Q=>Fa E λx E1=>b1 (vl E1 x) λi=>if i=true then Q (.p (.bl true)) E1 else Fb E1 Q
theorem aNZ (ha:QE X a (aL K Fa)) (hb:QE X (.BoolOp .And (b::rest) pos) (aL K Fb)):QE X (.BoolOp .And (a::b::rest) pos) (aL K (aRL Fa Fb)):=by
 refine (aM6 ha hb).le λσ H Q hl h=>one (Fa:=Fa) h λB S E x v H2 Q' hS re rx q lk=>?_;obtain ⟨i,e1,q⟩:=q.ex;refine ⟨i,re.bl rx e1,?_⟩;cases i
 ·exact lk _ _ _ _ _ q .refl re rfl
 ·exact ⟨B,S,E,Q',hS,re,q,lk⟩
theorem z8 (ha:QE X a (aL K Fa)) (hb:QE X (.BoolOp .Or (b::rest) pos) (aL K Fb)):QE X (.BoolOp .Or (a::b::rest) pos) (aL K (fOr Fa Fb)):=by
 refine (aPX ha hb).le λσ H Q hl h=>one (Fa:=Fa) h λB S E x v H2 Q' hS re rx q lk=>?_;obtain ⟨i,e1,q⟩:=q.ex;refine ⟨i,re.bl rx e1,?_⟩;cases i
 ·exact ⟨B,S,E,Q',hS,re,q,lk⟩
 ·exact lk _ _ _ _ _ q .refl re rfl
theorem zH {op} (h:QE X a (aL K Fa)):QE X (.BoolOp op [a] pos) (aL K Fa):=aM5 h
def fIf (Fp:FB) (Fa Fb:FE):FE:=λE Q=>Fp E λx E1=>if x=true then Fa E1 Q else Fb E1 Q
theorem mH (hc:QT X c (dQ K Fp)) (ha:QE X a (aL K Fa)) (hb:QE X b (aL K Fb)):QE X (.IfExp c a b pos) (aL K (fIf Fp Fa Fb)):=by
 refine (aFP hc ha hb).le λσ H Q hl ⟨B,S,E,Q',⟨τ,hS⟩,re,hF,lk⟩=>?_;refine ⟨B,S,E,_,⟨τ,hS⟩,re,hF,λr E1 H1 S1 q g re1=>?_⟩;obtain ⟨τ1,hS1⟩:=g.pre;have hp:∃t,S1=σ++t:=⟨τ++τ1,by rw [hS1,hS,aDE]⟩;cases r
 ·exact ⟨B,S1,E1,Q',hp,re1,q,lk.step g⟩
 ·exact ⟨B,S1,E1,Q',hp,re1,q,lk.step g⟩
def aSQ:FA:=λE Q=>Q [] E
def aOX (Fa:FE) (Fr:FA):FA:=λE Q=>Fa E λr E1=>Fr E1 λrs E2=>Q (r::rs) E2
theorem aA:QA X [] (dJ K 0 aSQ):=pO.le λσ H Q ⟨B,S,E,Q',hS,re,hF,lk⟩=>lk _ _ _ _ _ hF .refl re rfl rfl
theorem fc {n:Nat} (ha:QE X e (aL K Fa)) (hr:QA X es (dJ K n Fr)) (hs:bX e=false:=by rfl):QA X (e::es) (dJ K (n+1) (aOX Fa Fr)):=by
 refine (qc ha hr hs).le λσ H Q ⟨B,S,E,Q',⟨τ,hS⟩,re,hF,lk⟩=>?_;refine ⟨B,S,E,_,⟨τ,hS⟩,re,hF,λr E1 v H1 S1 q g re1 rr=>?_⟩;obtain ⟨τ1,hS1⟩:=g.pre;exact ⟨B,S1,E1,_,⟨τ++τ1,by rw [hS1,hS,aDE]⟩,re1,q,λrs E2 vs H2 S2 q2 g2 re2 rr2 hn=>lk _ _ _ _ _ q2 (g.trans g2) re2 ⟨v,vs,rfl,rr.step g2,rr2⟩ (by rw [aKX,hn])⟩
theorem args {n:Nat} {G:List R->En->(R->En->Prop)->Prop} {σ:St} {H:Hp} {Q:VK} (h:aL K (λE Q=>Fr E λrs E1=>G rs E1 Q) σ H Q) {P:List V->Hp->Prop}
  (k:∀B S E rs vs H2 Q',(∃τ,S=σ++τ)->RE K B H2 S E->RRs K B H2 S E rs vs->vs.length=n->G rs E Q'->Lk K B H2 S E Q' Q->P vs H2):dJ K n Fr σ H P:=by
 obtain ⟨B,S,E,Q',⟨τ,hS⟩,re,hF,lk⟩:=h;refine ⟨B,S,E,_,⟨τ,hS⟩,re,hF,λr E1 v H1 S1 q g re1 rr hn=>?_⟩;obtain ⟨τ1,hS1⟩:=g.pre;exact k B S1 E1 r v H1 Q' ⟨τ++τ1,by rw [hS1,hS,aDE]⟩ re1 rr hn q (lk.step g)
def pS:List R->Option (List T)
 | []=>some []
 | .p t::rs=>(pS rs).map (t::·)
 | _=>none
theorem pX {B:aVA->Prop} {H:Hp} {S:St} {E:En}:∀{rs:List R} {vs:List V} {ts:List T},RRs K B H S E rs vs->pS rs=some ts->cG K H (Ow B S E) ts vs
 | [],_,_,h,e=>by cases e;exact h
 | .p t::rs,_,ts,⟨v,ws,e1,h1,h2⟩,e=>by
  cases q:pS rs with
  | none=>rw [pS,q] at e;cases e
  | some us=>
   rw [pS,q] at e;cases e;exact ⟨v,ws,e1,h1,pX h2 q⟩
 | .s _::_,_,_,_,e=>by cases e
def o1 {α:Type} (x:Option α) (k:α->Prop):Prop:=match x with
 | some y=>k y
 | none=>False
theorem o1.ex {α:Type} {x:Option α} {k:α->Prop} (h:o1 x k):∃y,x=some y/\k y:=by
 cases x with
 | none=>exact h.elim
 | some y=>exact ⟨y,rfl,h⟩
def aSF (Fr:FA):FE:=λE Q=>Fr E λrs E1=>o1 (pS rs) λts=>Q (.p (.tup ts)) E1
def aRQ (Fr:FA):FE:=λE Q=>Fr E λrs E1=>o1 (pS rs) λts=>Q (.s E1.length) (E1++[some (.o false ts)])
theorem aQ {x1} {n:Nat} (h:QA X es (dJ K n Fr)) (hz:n<=1000:=by decide):QE X (.Tuple es x1 pos) (aL K (aSF Fr)):=by
 refine (aL5 h).le λσ H Q hl h=>args (Fr:=Fr) h λB S E rs vs H2 Q' hS re rr hn q lk=>⟨by rw [hn];exact aP1 (bQ hz),λp hp=>?_⟩;obtain ⟨ts,e,q⟩:=q.ex;obtain ⟨g,re',rp⟩:=re.tup hp (pX rr e);exact lk _ _ _ _ _ q g re' rp
theorem cC {n:Nat} (h:QA X es (dJ K n Fr)) (hz:n<=1000:=by decide):QE X (.List es pos) (aL K (aRQ Fr)):=by
 refine (uT h).le λσ H Q hl h=>args (Fr:=Fr) h λB S E rs vs H2 Q' hS re rr hn q lk=>⟨by rw [hn];exact aP1 (bQ hz),λp hp=>?_⟩;obtain ⟨ts,e,q⟩:=q.ex;obtain ⟨g,re'⟩:=re.lst hp (pX rr e);exact lk _ _ _ _ _ q g re' (by rw [<-re.len];exact jZ)
def aOF:T->Option (List T)
 | .tup xs=>some xs
 | .lst xs=>some xs
 | _=>none
def ix2 (x y:Option T) (k:T->Prop):Prop:=match x,y with
 | some (.tup xs),some (.int i)=>o1 (e8 xs i) k
 | some (.lst xs),some (.int i)=>o1 (e8 xs i) k
 | _,_=>False
theorem aF5 {H:Hp} {O:aVA->Prop} {xs:List T} {vs:List V} {i:Int} {t:T} (h:cG K H O xs vs) (e:e8 xs i=some t):∃v,e8 vs i=some v/\Rp K H O t v:=by
 unfold e8 at e ⊢;rw [h.length];cases q:xQ xs.length i with
 | none=>rw [q] at e;cases e
 | some j=>rw [q] at e;exact h.get e
def fIx (Fa Fb:FE):FE:=λE Q=>Fa E λx E1=>Fb E1 λy E2=>ix2 (vl E2 x) (vl E2 y) λt=>Q (.p t) E2
theorem aG (eK:X.K=K) (ha:QE X a (aL K Fa)) (hb:QE X b (aL K Fb)) (hs:o7 b):QE X (.Subscript a b pos) (aL K (fIx Fa Fb)):=by
 subst eK;refine (aKV aGL ha hb hs).le λσ H Q hl h=>two (Fa:=Fa) (Fb:=Fb) h λB S E x y v w H2 Q' hS re rx ry q lk=>?_;unfold ix2 at q;split at q
 ·rename_i xs i e1 e2;obtain ⟨t,e3,q⟩:=q.ex;obtain ⟨p,vs,rfl,sq,rs⟩:=re.vl rx e1;obtain ⟨u,h1,h2⟩:=aF5 rs e3;exact .inr (.inl ⟨p,vs,i,u,rfl,re.int ry e2,sq,h1,lk _ _ _ _ _ q .refl re h2⟩)
 ·rename_i xs i e1 e2;obtain ⟨t,e3,q⟩:=q.ex;obtain ⟨p,vs,rfl,sq,rs⟩:=re.vl rx e1;obtain ⟨u,h1,h2⟩:=aF5 rs e3;exact .inl ⟨p,vs,i,u,rfl,re.int ry e2,sq,h1,lk _ _ _ _ _ q .refl re h2⟩
 ·exact q.elim
def aRU (Fr:FA):FE:=λE Q=>Fr E λrs E1=>match rs with
 | [x]=>o1 ((vl E1 x).bind aOF) λxs=>Q (.p (.int xs.length)) E1
 | _=>False
theorem fJ {n:Nat} {p:Pos} (eK:X.K=K) (hg:Gl X "len") (hm:X.mg "len" = none) (ha:QA X (e::es) (dJ K n Fr)) (hs:bJ (e::es)=true:=by rfl):QE X (.Call (.Name "len" p) (e::es) [] pos) (aL K (aRU Fr)):=by
 subst eK;refine (dU tJ hg hm PySem.boot_len ha (by decide) (by decide) hs).le λσ H Q hl h=>args (Fr:=Fr) h λB S E rs vs H2 Q' hS re rr hn q lk=>?_
 match rs,rr,q with
 | [x],⟨v,ws,e1,h1,h2⟩,q=>
  cases h2;subst e1;obtain ⟨xs,e2,q⟩:=o1.ex q;obtain ⟨t,e3,e2⟩:=aUY.mp e2;have rt:=re.vl h1 e3;cases t with
  | tup ys=>
   cases e2;obtain ⟨p,us,rfl,sq,rs⟩:=rt;exact ⟨p,us,rfl,.inr sq,by rw [rs.length];exact lk _ _ _ _ _ q .refl re rfl⟩
  | lst ys=>
   cases e2;obtain ⟨p,us,rfl,sq,rs⟩:=rt;exact ⟨p,us,rfl,.inl sq,by rw [rs.length];exact lk _ _ _ _ _ q .refl re rfl⟩
  | _=>cases e2
 | [],_,q=>exact q.elim
 | _::_::_,_,q=>exact q.elim
def aRN (Fr:FA):FE:=λE Q=>Fr E λrs E1=>match rs with
 | [x]=>i1 (vl E1 x) λi=>Q (.p (.int (i.natAbs:Int))) E1
 | _=>False
theorem n9 {n:Nat} {p:Pos} (hg:Gl X "abs") (hm:X.mg "abs" = none) (ha:QA X (e::es) (dJ K n Fr)) (hs:bJ (e::es)=true:=by rfl):QE X (.Call (.Name "abs" p) (e::es) [] pos) (aL K (aRN Fr)):=by
 refine (dU aC9 hg hm boot_abs ha (by decide) (by decide) hs).le λσ H Q hl h=>args (Fr:=Fr) h λB S E rs vs H2 Q' hS re rr hn q lk=>?_
 match rs,rr,q with
 | [x],⟨v,ws,e1,h1,h2⟩,q=>
  cases h2;subst e1;obtain ⟨i,e2,q⟩:=i1.ex q;exact ⟨i,by rw [re.int h1 e2],lk _ _ _ _ _ q .refl re rfl⟩
 | [],_,q=>exact q.elim
 | _::_::_,_,q=>exact q.elim
def aQZ (Fr:FA):FE:=λE Q=>Fr E λrs E1=>match rs with
 | [x]=>b1 (vl E1 x) λi=>Q (.p (.int (if i then 1 else 0))) E1
 | _=>False
theorem aJF {n:Nat} {p:Pos} (hg:Gl X "int") (hm:X.mg "int" = none) (ha:QA X (e::es) (dJ K n Fr)) (hs:bJ (e::es)=true:=by rfl):QE X (.Call (.Name "int" p) (e::es) [] pos) (aL K (aQZ Fr)):=by
 refine (lJ aCC hg hm (by decide +kernel) ha (by decide) (by decide) hs).le λσ H Q hl h=>args (Fr:=Fr) h λB S E rs vs H2 Q' hS re rr hn q lk=>?_
 match rs,rr,q with
 | [x],⟨v,ws,e1,h1,h2⟩,q=>
  cases h2;subst e1;obtain ⟨i,e2,q⟩:=b1.ex q;exact ⟨i,by rw [re.bl h1 e2],lk _ _ _ _ _ q .refl re rfl⟩
 | [],_,q=>exact q.elim
 | _::_::_,_,q=>exact q.elim
def aH7 (Fr:FA):FE:=λE Q=>Fr E λrs E1=>match rs with
 | [x,y]=>i2 (vl E1 x) (vl E1 y) λi j=>(0<j/\j<2^200)/\Q (.p (.tup [.int (i/j),.int (i%j)])) E1
 | _=>False
theorem aCM {n:Nat} {p:Pos} (hg:Gl X "divmod") (hm:X.mg "divmod" = none) (ha:QA X (e::es) (dJ K n Fr)) (hs:bJ (e::es)=true:=by rfl):QE X (.Call (.Name "divmod" p) (e::es) [] pos) (aL K (aH7 Fr)):=by
 refine (dU sY hg hm boot_divmod ha (by decide) (by decide) hs).le λσ H Q hl h=>args (Fr:=Fr) h λB S E rs vs H2 Q' hS re rr hn q lk=>?_
 match rs,rr,q with
 | [x,y],⟨v,ws,e1,h1,w,ws',e2,h2,h3⟩,q=>
  cases h3;subst e2;subst e1;obtain ⟨i,j,e3,e4,⟨c1,c2⟩,q⟩:=i2.ex q;refine ⟨i,j,by rw [re.int h1 e3,re.int h2 e4],c1,c2,λp hp=>?_⟩;obtain ⟨g,re',rp⟩:=re.tup (ts:=[.int (i/j),.int (i%j)]) (vs:=[.int (i/j),.int (i%j)]) hp ⟨_,_,rfl,rfl,_,_,rfl,rfl,rfl⟩;exact lk _ _ _ _ _ q g re' rp
 | [],_,q=>exact q.elim
 | [_],_,q=>exact q.elim
 | _::_::_::_,_,q=>exact q.elim
end
end L2
namespace L2
open PySem PySem.Spec PyProof.Rows
structure ET where
 nx:En->Prop
 rt:R->En->Prop
 bk:En->Prop:=λ_=>False
 ct:En->Prop:=λ_=>False
abbrev FS:=ET->En->Prop
abbrev Gs (B:aVA->Prop) (H:Hp) (S:St) (E:En) (H':Hp) (S':St) (E':En):Prop:=Kp (Ow B S E) (Ow B S' E') H H'
structure LS (K:W.Frag) (B:aVA->Prop) (H:Hp) (σ:St) (E:En) (DT:ET) (D:jJ):Prop where
 nx:∀σ' H' E',DT.nx E'->Gs B H σ E H' σ' E'->RE K B H' σ' E'->D.nx σ' H'
 rt:∀r E' v H' S',DT.rt r E'->Gs B H σ E H' S' E'->RE K B H' S' E'->RR K B H' S' E' r v->D.rt v H'
 bk:∀σ' H' E',DT.bk E'->Gs B H σ E H' σ' E'->RE K B H' σ' E'->D.bk σ' H'
 ct:∀σ' H' E',DT.ct E'->Gs B H σ E H' σ' E'->RE K B H' σ' E'->D.ct σ' H'
theorem LS.step {K:W.Frag} {B:aVA->Prop} {H H':Hp} {σ σ':St} {E E':En} {DT:ET} {D:jJ} (l:LS K B H σ E DT D) (g:Gs B H σ E H' σ' E'):LS K B H' σ' E' DT D:=
 ⟨λa b c d e=>l.nx a b c d (g.trans e),λa b c d e f h=>l.rt a b c d e f (g.trans h),λa b c d e=>l.bk a b c d (g.trans e),λa b c d e=>l.ct a b c d (g.trans e)⟩
def g8 (K:W.Frag) (F:FS):TS:=λD σ H=>∃B E DT,RE K B H σ E/\F DT E/\LS K B H σ E DT D
section
variable {X:Cx} {st:aVK} {sts:List aVK}
theorem QS.le {t t':TS} (h:QS X st t) (m:∀D σ H,σ.length=X.N.length->t' D σ H->t D σ H):QS X st t':=⟨λpins s σ H D I z=>h.h pins s σ H D I (m D σ H I.len z)⟩
theorem QB.le {t t':TS} (h:QB X sts t) (m:∀D σ H,t' D σ H->t D σ H):QB X sts t':=⟨λpins s σ H D I z=>h.h pins s σ H D I (m D σ H z)⟩
theorem QG.le {e:Expr} {t t':TG} (h:QG X e t) (m:∀v σ H Q,σ.length=X.N.length->t' v σ H Q->t v σ H Q):QG X e t':=⟨λpins s σ H v u Q I r z=>h.h pins s σ H v u Q I r (m v σ H Q I.len z)⟩
theorem yC.le {es:List Expr} {t t':TGs} (h:yC X es t) (m:∀v σ H Q,t' v σ H Q->t v σ H Q):yC X es t':=⟨λpins s σ H v u Q I r z=>h.h pins s σ H v u Q I r (m v σ H Q z)⟩
theorem QI.le {tg e:Expr} {t t':TI} (h:QI X tg e t) (m:∀σ H Q,σ.length=X.N.length->t' σ H Q->t σ H Q):QI X tg e t':=⟨λpins s σ H R I z=>h.h pins s σ H R I (m σ H R I.len z)⟩
end
section
variable {K:W.Frag} {B:aVA->Prop} {H H':Hp} {S S':St} {E E':En} {σ:St}
theorem RE.map (re:RE K B H S E) (hl:S'.length=E'.length) (hp:∀(i:Nat) (t:T),E'[i]? = some (some (.p t))->∃v,S'[i]? = some (some v)/\Rp K H (Ow B S E) t v)
  (f:Nat->Nat) (ho:∀(i:Nat) (k:Bool) (xs:List T),E'[i]? = some (some (.o k xs))->E[f i]? = some (some (.o k xs))/\∃a,S[f i]? = some (some (.ref a))/\S'[i]? = some (some (.ref a)))
  (hf:∀(i j:Nat) (k l:Bool) (xs ys:List T),E'[i]? = some (some (.o k xs))->E'[j]? = some (some (.o l ys))->f i=f j->i=j):RE K B H S' E'/\∀b,Ow B S' E' b->Ow B S E b:=by
 have ow:∀b,Ow B S' E' b->Ow B S E b:=λb z=>by
  rcases z with z | ⟨i,k,xs,h1,h2⟩
  ·exact .inl z
  obtain ⟨h3,a,h4,h5⟩:=ho i k xs h1;rw [h2] at h5;cases h5;exact .inr ⟨f i,k,xs,h3,h4⟩
 refine ⟨⟨hl,λi t h=>?_,λi k xs h=>?_,λi j k l xs ys a h1 h2 h3 h4=>?_,re.bd⟩,ow⟩
 ·obtain ⟨v,h1,h2⟩:=hp i t h;exact ⟨v,h1,h2.step (Kp.less ow)⟩
 ·obtain ⟨h3,a,h4,h5⟩:=ho i k xs h;obtain ⟨a',vs,q1,q2,q3,q4⟩:=re.own _ k xs h3;rw [h4] at q1;cases q1;exact ⟨a,vs,h5,q2,q3.step (Kp.less ow),q4⟩
 ·obtain ⟨p1,a1,p2,p3⟩:=ho i k xs h1;obtain ⟨r1,a2,r2,r3⟩:=ho j l ys h2;rw [h3] at p3;cases p3;rw [h4] at r3;cases r3;exact hf i j k l xs ys h1 h2 (re.inj _ _ k l xs ys _ p1 r1 p2 r2)
theorem RE.cut (re:RE K B H' S' E') (hS:∃τ,S'=σ++τ) (hl:σ.length=E.length):RE K B H' σ (E'.take E.length)/\∀b,Ow B σ (E'.take E.length) b->Ow B S' E' b:=by
 obtain ⟨τ,rfl⟩:=hS;have e:(σ++τ).take E.length=σ:=by rw [<-hl];simp
 have:=re.take E.length;rw [e] at this;refine ⟨this,λb z=>?_⟩;rcases z with z | ⟨i,k,xs,h1,h2⟩
 ·exact .inl z
 have hi:i<E.length:=by
  rcases aRB i E.length with c | c
  ·exact c
  ·rw [aS6 (by omega)] at h1;cases h1
 exact .inr ⟨i,k,xs,by rw [aQ4 hi] at h1;exact h1,dF ⟨τ,rfl⟩ h2⟩
theorem RE.setP (re:RE K B H S E) {i:Nat} {t:T} {v:V} (h:Rp K H (Ow B S E) t v):RE K B H (S.set i (some v)) (E.set i (some (.p t)))/\∀b,Ow B (S.set i (some v)) (E.set i (some (.p t))) b->Ow B S E b:=by
 refine re.map (by simp [re.len]) (λj u hj=>?_) id (λj k xs hj=>?_) (λ_ _ _ _ _ _ _ _ h=>h)
 ·rw [aTH] at hj
  by_cases c:i=j
  ·subst c;rw [if_pos rfl] at hj;split at hj
   ·cases hj;rename_i hi;exact ⟨v,by rw [aOP (by rw [re.len];exact hi)],h⟩
   ·cases hj
  ·rw [if_neg c] at hj;obtain ⟨w,h1,h2⟩:=re.pure j u hj;exact ⟨w,by rw [aK0 c];exact h1,h2⟩
 ·rw [aTH] at hj
  by_cases c:i=j
  ·subst c;rw [if_pos rfl] at hj;split at hj<;>cases hj
  ·rw [if_neg c] at hj;obtain ⟨a,vs,h1,_⟩:=re.own j k xs hj;exact ⟨hj,a,h1,by rw [aK0 c];exact h1⟩
theorem RE.setO (re:RE K B H S E) (hS:∃τ,S=σ++τ) {i j:Nat} {k:Bool} {xs:List T} (hj:σ.length<=j) (hE:E[j]? = some (some (.o k xs))) {v:V} (hv:S[j]? = some (some v)) :
  RE K B H (σ.set i (some v)) ((E.take σ.length).set i (some (.o k xs)))/\∀b,Ow B (σ.set i (some v)) ((E.take σ.length).set i (some (.o k xs))) b->Ow B S E b:=by
 obtain ⟨τ,rfl⟩:=hS;have hle:σ.length<=E.length:=by rw [<-re.len];simp
 have gt:∀{m:Nat} {x:Option U},(E.take σ.length)[m]? = some x->E[m]? = some x/\m<σ.length:=λ{m x} h=>by
  by_cases c:m<σ.length
  ·rw [aQ4 c] at h;exact ⟨h,c⟩
  ·rw [aS6 (by omega)] at h;cases h
 refine re.map (by simp;omega) (λm u hm=>?_) (λm=>if m=i then j else m) (λm l ys hm=>?_) (λm n l l' ys zs h1 h2 h=>?_)
 ·rw [aTH] at hm
  by_cases c:i=m
  ·subst c;rw [if_pos rfl] at hm;split at hm<;>cases hm
  ·rw [if_neg c] at hm;obtain ⟨hm,lt⟩:=gt hm;obtain ⟨w,h1,h2⟩:=re.pure m u hm;rw [aG6 lt] at h1;exact ⟨w,by rw [aK0 c];exact h1,h2⟩
 ·rw [aTH] at hm
  by_cases c:i=m
  ·subst c;rw [if_pos rfl] at hm;split at hm
   ·cases hm;rename_i hi;obtain ⟨a,vs,h1,_⟩:=re.own j k xs hE;rw [hv] at h1;cases h1;rw [if_pos rfl];refine ⟨hE,a,hv,?_⟩;rw [aOP (by rw [aMI] at hi;omega)]
   ·cases hm
  ·rw [if_neg c] at hm;obtain ⟨hm,lt⟩:=gt hm;obtain ⟨a,vs,h1,_⟩:=re.own m l ys hm;rw [if_neg (λz=>c z.symm)];refine ⟨hm,a,h1,?_⟩;rw [aG6 lt] at h1;rw [aK0 c];exact h1
 ·have lt:∀{m:Nat} {l:Bool} {ys:List T},((E.take σ.length).set i (some (.o k xs)))[m]? = some (some (.o l ys))->m≠i->m<σ.length:=λ{m l ys} h1 c=>by
   rw [aK0 (λz=>c z.symm)] at h1;exact (gt h1).2
  by_cases c1:m=i
  ·by_cases c2:n=i
   ·rw [c1,c2]
   ·simp only [if_pos c1,if_neg c2] at h;have:=lt h2 c2;omega
  ·by_cases c2:n=i
   ·simp only [if_neg c1,if_pos c2] at h;have:=lt h1 c1;omega
   ·simp only [if_neg c1,if_neg c2] at h;exact h
theorem RE.frz (re:RE K B H S E) {i:Nat} {xs:List T} (h:E[i]? = some (some (.o false xs))):RE K B H S (E.set i (some (.p (.lst xs))))/\∀b,Ow B S (E.set i (some (.p (.lst xs)))) b->Ow B S E b/\S[i]?≠some (some (.ref b)):=by
 have hi:i<E.length:=(aA7.mp h).1;obtain ⟨a,vs,h1,h2,h3,h4⟩:=re.own i false xs h;have get:∀{j:Nat} {u:U},(E.set i (some (.p (.lst xs))))[j]? = some (some u)->(j=i/\u = .p (.lst xs))\/(j≠i/\E[j]? = some (some u)):=λ{j u} hj=>by
  by_cases c:j=i
  ·subst c;rw [aOP hi] at hj;cases hj;exact .inl ⟨rfl,rfl⟩
  ·rw [aK0 (λz=>c z.symm)] at hj;exact .inr ⟨c,hj⟩
 have ow:∀b,Ow B S (E.set i (some (.p (.lst xs)))) b->Ow B S E b/\S[i]?≠some (some (.ref b)):=λb z=>by
  rcases z with z | ⟨j,k,ys,q1,q2⟩
  ·refine ⟨.inl z,λw=>?_⟩;rw [h1] at w;cases w;exact absurd (h4.mpr z) (by decide)
  rcases get q1 with ⟨_,z⟩ | ⟨c,q1⟩
  ·cases z
  ·exact ⟨.inr ⟨j,k,ys,q1,q2⟩,λz=>c (re.inj j i k false ys xs b q1 h q2 z)⟩
 have kl:Kp (Ow B S E) (Ow B S (E.set i (some (.p (.lst xs))))) H H:=Kp.less λb z=>(ow b z).1;refine ⟨⟨by simp [re.len],λj t hj=>?_,λj k ys hj=>?_,λj m k l ys zs b q1 q2 q3 q4=>?_,re.bd⟩,ow⟩
 ·rcases get hj with ⟨c,z⟩ | ⟨c,hj⟩
  ·cases z;subst c;exact ⟨_,h1,a,vs,rfl,.inl ⟨λz=>(ow a z).2 h1,.inl h2⟩,h3.step kl⟩
  ·obtain ⟨w,q1,q2⟩:=re.pure j t hj;exact ⟨w,q1,q2.step kl⟩
 ·rcases get hj with ⟨_,z⟩ | ⟨c,hj⟩
  ·cases z
  ·obtain ⟨b,ws,q1,q2,q3,q4⟩:=re.own j k ys hj;exact ⟨b,ws,q1,q2,q3.step kl,q4⟩
 ·rcases get q1 with ⟨_,z⟩ | ⟨_,q1⟩
  ·cases z
  rcases get q2 with ⟨_,z⟩ | ⟨_,q2⟩
  ·cases z
  exact re.inj j m k l ys zs b q1 q2 q3 q4
theorem RE.put (re:RE K B H S E) {i:Nat} {k:Bool} {xs ys:List T} {a:aVA} {ws:List V} (h:E[i]? = some (some (.o k xs))) (hS:S[i]? = some (some (.ref a))) (hw:cG K H (Ow B S E) ys ws) :
  Gr B H S E (upd H a (.lst ws)) S (E.set i (some (.o k ys)))/\RE K B (upd H a (.lst ws)) S (E.set i (some (.o k ys))):=by
 have hi:i<E.length:=(aA7.mp h).1;have get:∀{j:Nat} {u:U},(E.set i (some (.o k ys)))[j]? = some (some u)->(j=i/\u = .o k ys)\/(j≠i/\E[j]? = some (some u)):=λ{j u} hj=>by
  by_cases c:j=i
  ·subst c;rw [aOP hi] at hj;cases hj;exact .inl ⟨rfl,rfl⟩
  ·rw [aK0 (λz=>c z.symm)] at hj;exact .inr ⟨c,hj⟩
 have ow:∀b,Ow B S (E.set i (some (.o k ys))) b->Ow B S E b:=λb z=>by
  rcases z with z | ⟨j,l,zs,q1,q2⟩
  ·exact .inl z
  rcases get q1 with ⟨c,z⟩ | ⟨c,q1⟩
  ·subst c;exact .inr ⟨j,k,xs,h,q2⟩
  ·exact .inr ⟨j,l,zs,q1,q2⟩
 have oa:Ow B S E a:=.inr ⟨i,k,xs,h,hS⟩;have kk:∀b o,H b=some o->¬Ow B S E b->(upd H a (.lst ws)) b=some o:=λb o e n=>by rw [aR (λz=>n (by rw [z];exact oa))];exact e
 have kp:Kp (Ow B S E) (Ow B S E) H (upd H a (.lst ws)):=⟨kk,λb z=>.inl z⟩;refine ⟨⟨⟨kk,λb z=>.inl (ow b z)⟩,[],by simp⟩,re.step kk (by simp) (λj t hj=>?_) (λj l zs hj=>?_) (λb hb=>?_)⟩
 ·rcases get hj with ⟨_,z⟩ | ⟨_,hj⟩
  ·cases z
  ·exact hj
 ·rcases get hj with ⟨c,z⟩ | ⟨c,hj⟩
  ·cases z;subst c;refine ⟨xs,h,λb hb=>?_⟩;rw [hS] at hb;cases hb;exact ⟨ws,bT,hw.step kp⟩
  ·refine ⟨zs,hj,λb hb=>?_⟩;obtain ⟨b',us,q1,q2,q3,_⟩:=re.own j l zs hj;rw [hb] at q1;cases q1;have nb:b≠a:=λz=>c (re.inj j i l k zs xs a hj h (by rw [<-z];exact hb) hS);exact ⟨us,by rw [aR nb];exact q2,q3.step kp⟩
 ·by_cases c:b=a
  ·subst c;exact ⟨ws,bT⟩
  ·rw [aR c];exact re.bd b hb
end
section
variable {X:Cx} {K:W.Frag} {pos:Pos} {a b c e o i:Expr} {es rest:List Expr} {Fa Fb Fc Fe Fo Fi:FE} {Fr:FA} {Fp Fq:FB} {F G:FS} {st:aVK} {sts body b1' b2':List aVK}
def kF:En->(En->Prop)->Prop
 | [],k=>k []
 | x::r,k=>kF r λr'=>k (x::r')
theorem eU:∀{E:En} {k:En->Prop},kF E k->k E
 | [],_,h=>h
 | x::r,k,h=>eU (E:=r) (k:=λr'=>k (x::r')) h
def aKB:FS:=λD E=>D.nx E
def aM0 (F G:FS):FS:=λD E=>F { D with nx:=λE'=>kF E' (G D) } E
theorem cJ:QB X [] (g8 K aKB):=aGY.le λD σ H ⟨B,E,DT,re,hF,l⟩=>l.nx _ _ _ hF (Kp.refl _ _) re
theorem aE (h1:QS X st (g8 K F)) (h2:QB X sts (g8 K G)):QB X (st::sts) (g8 K (aM0 F G)):=
 (o8 h1 h2).le λD σ H ⟨B,E,DT,re,hF,l⟩=>⟨B,E,_,re,hF,⟨λσ' H' E' hG g re'=>⟨B,E',DT,re',eU hG,l.step g⟩,l.rt,l.bk,l.ct⟩⟩
theorem aJ (h1:QS X st (g8 K F)):QB X [st] (g8 K F):=tM h1
def aP7 (Fa:FE):FS:=λD E=>Fa E D.rt
theorem aO (h:QE X e (aL K Fa)):QS X (.Return (some e) pos) (g8 K (aP7 Fa)):=
 (aGH h).le λD σ H hl ⟨B,E,DT,re,hF,l⟩=>⟨B,σ,E,_,⟨[],by simp⟩,re,hF,λr E' v H' S' q g re' rr=>l.rt r E' v H' S' q g.kp re' rr⟩
theorem zS {D:Bool->Hp->Prop} {B:aVA->Prop} {σ:St} {H:Hp} {E:En} {P:Bool->En->Prop} (re:RE K B H σ E) (hF:Fp E λb E'=>P b (E'.take E.length)) (k:∀b H' E',P b E'->Gs B H σ E H' σ E'->RE K B H' σ E'->D b H'):dQ K Fp σ H D:=
 ⟨B,σ,E,_,⟨[],by simp⟩,re,hF,λb E' H' S' q g re'=>by
  obtain ⟨r,ow⟩:=re'.cut (E:=E) g.pre re.len;exact k b H' _ q (g.kp.trans (Kp.less ow)) r⟩
theorem aEA {P:R->En->En->Prop} {Q:VK} {B:aVA->Prop} {σ:St} {H:Hp} {E:En} (re:RE K B H σ E) (hF:Fa E λr E'=>P r E' (E'.take E.length))
  (k:∀r E' v H' S',P r E' (E'.take E.length)->Gr B H σ E H' S' E'->RE K B H' S' E'->RR K B H' S' E' r v->RE K B H' σ (E'.take E.length)->(∀b,Ow B σ (E'.take E.length) b->Ow B S' E' b)->Q v H'):aL K Fa σ H Q:=
 ⟨B,σ,E,_,⟨[],by simp⟩,re,hF,λr E' v H' S' q g re' rr=>by
  obtain ⟨r2,ow⟩:=re'.cut (E:=E) g.pre re.len;exact k r E' v H' S' q g re' rr r2 ow⟩
def sIf (Fp:FB) (F G:FS):FS:=λD E=>Fp E λb E'=>if b=true then kF (E'.take E.length) (F D) else kF (E'.take E.length) (G D)
theorem dG (hc:QT X c (dQ K Fp)) (ha:QB X b1' (g8 K F)) (hb:QB X b2' (g8 K G)):QS X (.If c b1' b2' pos) (g8 K (sIf Fp F G)):=
 (aKA hc ha hb).le λD σ H hl ⟨B,E,DT,re,hF,l⟩=>zS (P:=λb E'=>if b=true then kF E' (F DT) else kF E' (G DT)) re hF λb H' E' q g re'=>by
  cases b
  ·exact ⟨B,E',DT,re',eU q,l.step g⟩
  ·exact ⟨B,E',DT,re',eU q,l.step g⟩
def aO5 (Fa:FE):FS:=λD E=>Fa E λ_ E'=>D.nx (E'.take E.length)
theorem iD (he:QE X e (aL K Fa)) (hs:aV3 e none pos.line X.env=pure false:=by rfl):QS X (.Expr e pos) (g8 K (aO5 Fa)):=
 (aAY he hs).le λD σ H hl ⟨B,E,DT,re,hF,l⟩=>aEA (P:=λ_ _ E'=>DT.nx E') re hF λr E' v H' S' q g re' rr re2 ow=>l.nx _ _ _ q (g.kp.trans (Kp.less ow)) re2
def tV (n:Nat) (E:En):R->Option U
 | .p t=>some (.p t)
 | .s j=>match E[j]? with
  | some (some (.p t))=>some (.p t)
  | some (some (.o k xs))=>if n<=j then some (.o k xs) else none
  | _=>none
theorem kQ {B:aVA->Prop} {σ S:St} {H:Hp} {E:En} {r:R} {v:V} {u:U} {i:Nat} (re:RE K B H S E) (hS:∃τ,S=σ++τ) (rr:RR K B H S E r v) (h:tV σ.length E r=some u) :
  RE K B H (σ.set i (some v)) ((E.take σ.length).set i (some u))/\∀b,Ow B (σ.set i (some v)) ((E.take σ.length).set i (some u)) b->Ow B S E b:=by
 have cutP:∀{t:T},Rp K H (Ow B S E) t v->RE K B H (σ.set i (some v)) ((E.take σ.length).set i (some (.p t)))/\∀b,Ow B (σ.set i (some v)) ((E.take σ.length).set i (some (.p t))) b->Ow B S E b:=λ{t} hp=>by
  obtain ⟨τ,rfl⟩:=hS;have re2:=re.take σ.length;rw [show (σ++τ).take σ.length=σ by simp] at re2;have ow:∀b,Ow B σ (E.take σ.length) b->Ow B (σ++τ) E b:=λb z=>by
   rcases z with z | ⟨j,k,xs,h1,h2⟩
   ·exact .inl z
   have hj:j<σ.length:=(aA7.mp h2).1;exact .inr ⟨j,k,xs,by rw [aQ4 hj] at h1;exact h1,dF ⟨τ,rfl⟩ h2⟩
  obtain ⟨q1,q2⟩:=re2.setP (i:=i) (hp.step (Kp.less ow));exact ⟨q1,λb z=>ow b (q2 b z)⟩
 cases r with
 | p t=>cases h;exact cutP rr
 | s j=>
  cases q:E[j]? with
  | none=>simp only [tV,q] at h;cases h
  | some w=>
   cases w with
   | none=>simp only [tV,q] at h;cases h
   | some w=>
    cases w with
    | p t=>
     simp only [tV,q] at h;cases h;obtain ⟨v',h1,h2⟩:=re.pure j t q;have rr':S[j]? = some (some v):=rr;rw [rr'] at h1;cases h1;exact cutP h2
    | o k xs=>
     simp only [tV,q] at h;split at h
     ·cases h;rename_i c;exact re.setO hS c q rr
     ·cases h
def aLT (i:Nat) (Fa:FE):FS:=λD E=>Fa E λr E'=>o1 (tV E.length E' r) λu=>D.nx ((E'.take E.length).set i (some u))
theorem aX {i:Nat} {x:Str} {pos':Pos} (hN:X.N.Nodup) (hi:X.N[i]? = some x) (hx:Loc X.env.scope x) (he:QE X e (aL K Fa)) (hs:aV3 e (some (.Name x pos')) pos.line X.env=pure false:=by rfl)
  (hf:X.fn x=true\/X.env.scope.names.lookup x=some .local:=by first | exact .inl rfl | exact .inr rfl | assumption):QS X (.Assign [.Name x pos'] e pos) (g8 K (aLT i Fa)):=
 (zB hN hi hx he hs hf).le λD σ H hl ⟨B,E,DT,re,hF,l⟩=>⟨B,σ,E,_,⟨[],by simp⟩,re,hF,λr E' v H' S' q g re' rr=>by
  obtain ⟨u,e1,q⟩:=q.ex;rw [<-re.len] at e1 q;obtain ⟨r1,ow⟩:=kQ (i:=i) re' g.pre rr e1;exact l.nx _ _ _ q (g.kp.trans (Kp.less ow)) r1⟩
end
end L2
namespace L2
open PySem PySem.Spec PyProof.Rows
abbrev FG:=T->En->(En->Prop)->Prop
abbrev FGs:=List T->En->(En->Prop)->Prop
def mQ (K:W.Frag) (G:FG):TG:=λv σ H Q=>∃B τ E t Q',RE K B H (σ++τ) E/\Rp K H (Ow B (σ++τ) E) t v/\G t E Q'/\∀σ' H' E',Q' E'->Gs B H (σ++τ) E H' (σ'++τ) E'->RE K B H' (σ'++τ) E'->σ'.length=σ.length->Q σ' H'
def wR (K:W.Frag) (G:FGs):TGs:=λvs σ H Q=>∃B τ E ts Q',RE K B H (σ++τ) E/\cG K H (Ow B (σ++τ) E) ts vs/\G ts E Q'/\∀σ' H' E',Q' E'->Gs B H (σ++τ) E H' (σ'++τ) E'->RE K B H' (σ'++τ) E'->σ'.length=σ.length->Q σ' H'
def aJ7 (i:Nat):FG:=λt E Q=>Q (E.set i (some (.p t)))
def aQH:FGs:=λts E Q=>match ts with
 | []=>Q E
 | _=>False
def aKL (g:FG) (gs:FGs):FGs:=λts E Q=>match ts with
 | t::r=>g t E λE'=>gs r E' Q
 | []=>False
def aP0 (n:Nat) (gs:FGs):FG:=λt E Q=>match t with
 | .tup ts=>cond (Nat.beq ts.length n) (gs ts E Q) False
 | _=>False
def aRI (Fo Fi:FE):FG:=λt E Q=>Fo E λr E1=>Fi E1 λz E2=>match r with
 | .s j=>match E2[j]? with
  | some (some (.o k xs))=>i1 (vl E2 z) λm=>o1 (xQ xs.length m) λl=>Q ((E2.set j (some (.o k (xs.set l t)))).take E.length)
  | _=>False
 | _=>False
section
variable {X:Cx} {K:W.Frag} {pos:Pos} {a b c e o i:Expr} {es rest:List Expr} {Fa Fb Fc Fe Fo Fi:FE} {Fr:FA} {Fp Fq:FB} {F G:FS} {st:aVK} {sts body:List aVK} {g:FG} {gs:FGs}
theorem aK {i:Nat} {x:Str} (hN:X.N.Nodup) (hi:X.N[i]? = some x) (hx:Loc X.env.scope x) (hf:X.fn x=true\/X.env.scope.names.lookup x=some .local:=by first | exact .inl rfl | exact .inr rfl | assumption):QG X (.Name x pos) (mQ K (aJ7 i)):=
 (aAU hN hi hx hf).le λv σ H Q hl ⟨B,τ,E,t,Q',re,rp,hF,l⟩=>by
  have hlt:i<σ.length:=by rw [hl];exact (aA7.mp hi).1
  obtain ⟨r1,ow⟩:=re.setP (i:=i) rp;rw [List.set_append_left _ _ hlt] at r1 ow;exact l _ _ _ hF (Kp.less ow) r1 (by simp)
theorem b9:yC X [] (wR K aQH):=aAB.le λvs σ H Q ⟨B,τ,E,ts,Q',re,rp,hF,l⟩=>by
 cases ts with
 | nil=>exact ⟨rp,l _ _ _ hF (Kp.refl _ _) re rfl⟩
 | cons _ _=>exact hF.elim
theorem aM (h1:QG X e (mQ K g)) (h2:yC X es (wR K gs)) (hs:(aVO (e::es) X.env).map (·.2)=aV5 e X.env::(aVO es X.env).map (·.2):=by rfl):yC X (e::es) (wR K (aKL g gs)):=
 (wY h1 h2 hs).le λvs σ H Q ⟨B,τ,E,ts,Q',re,rp,hF,l⟩=>by
  cases ts with
  | nil=>exact hF.elim
  | cons t ts=>
   obtain ⟨v,r,e1,h1,h2⟩:=rp;exact ⟨v,r,e1,B,τ,E,t,_,re,h1,hF,λσ' H' E' q g re' hl=>⟨B,τ,E',ts,Q',re',h2.step g,q,λσ2 H2 E2 q2 g2 re2 hl2=>l _ _ _ q2 (g.trans g2) re2 (hl2.trans hl)⟩⟩
theorem cZ {k n:Nat} (eK:X.K=K) (hc:X.calm=true) (h:yC X es (wR K gs)) (hn:(aVO es X.env).length=n:=by rfl) (hst:(aVO es X.env).findIdx? (·.1)=none:=by rfl):QG X (.Tuple es k pos) (mQ K (aP0 n gs)):=by
 subst eK;refine (aEB hc h hn hst).le λv σ H Q hl ⟨B,τ,E,t,Q',re,rp,hF,l⟩=>?_;cases t with
 | tup ts=>
  have hF':cond (Nat.beq ts.length n) (gs ts E Q') False:=hF;cases q:Nat.beq ts.length n with
  | false=>rw [q] at hF';exact hF'.elim
  | true=>
   rw [q] at hF';obtain ⟨p,vs,e1,sq,rs⟩:=rp.sqT;exact ⟨p,vs,e1,sq,by rw [rs.length];exact Nat.eq_of_beq_eq_true q,B,τ,E,ts,Q',re,rs,hF',l⟩
 | _=>exact hF.elim
theorem x0 (ho:QE X o (aL K Fo)) (hi:QE X i (aL K Fi))
  (ha:∀v,aV5 (.Subscript o i pos) X.env v=(do
   let ov <-aV7 [v] (aVP o X.env)
   let iv <-aV7 [v,ov] (aVP i X.env)
   standAt pos
   aV7 [v,ov,iv] (setItem ov iv v)
   release [v,ov,iv] []):=by intro _;rfl):QG X (.Subscript o i pos) (mQ K (aRI Fo Fi)):=by
 refine (aNK ho hi aD8 ha).le λv σ H Q hl ⟨B,τ,E,t,Q',re,rp,hF,l⟩=>?_;refine ⟨B,σ++τ,E,_,⟨τ,rfl⟩,re,hF,λr E1 w H1 S1 q g1 re1 rr=>?_⟩;obtain ⟨τ1,hS1⟩:=g1.pre;refine ⟨B,S1,E1,_,⟨τ++τ1,by rw [hS1,aDE]⟩,re1,q,λz E2 y H2 S2 q2 g2 re2 rr2=>?_⟩;have g12:=g1.trans g2;cases r with
 | p _=>exact q2.elim
 | s j=>
  have rj:S2[j]? = some (some w):=dF g2.pre rr;cases hE:E2[j]? with
  | none=>simp only [hE] at q2
  | some u=>
   cases u with
   | none=>simp only [hE] at q2
   | some u=>
    cases u with
    | p _=>simp only [hE] at q2
    | o k xs=>
     simp only [hE] at q2;obtain ⟨m,e1,q2⟩:=q2.ex;obtain ⟨n,e2,q2⟩:=q2.ex;obtain ⟨p,vs,h1,h2,h3,h4⟩:=re2.own j k xs hE;rw [rj] at h1;cases h1;refine ⟨p,vs,m,n,rfl,re2.int rr2 e1,h2,by rw [h3.length];exact e2,?_⟩;obtain ⟨g3,re3⟩:=re2.put (ys:=xs.set n t) (ws:=vs.set n v) hE rj (h3.set (rp.step g12.kp) n);obtain ⟨re4,ow⟩:=re3.cut (E:=E) (g12.trans g3).pre re.len;exact l _ _ _ q2 ((g12.trans g3).kp.trans (Kp.less ow)) re4 rfl
def aSX (Fa:FE) (g:FG):FS:=λD E=>Fa E λr E'=>match r with
 | .p t=>g t (E'.take E.length) D.nx
 | .s _=>False
theorem jB {tg:Expr} (he:QE X e (aL K Fa)) (hg:QG X tg (mQ K g)) (hs:aVX [tg] e pos.line X.env=pure false:=by rfl) (hw:aVY [tg] e X.env=pure none:=by rfl)
  (h1:(aVO [tg] X.env).map (·.2)=[aV5 tg X.env]:=by rfl):QS X (.Assign [tg] e pos) (g8 K (aSX Fa g)):=
 (aL8 he hg hs hw h1).le λD σ H hl ⟨B,E,DT,re,hF,l⟩=>aEA (P:=λr _ E'=>match r with | .p t=>g t E' DT.nx | .s _=>False) re hF λr E' v H' S' q g' re' rr re2 ow=>by
  cases r with
  | s _=>exact q.elim
  | p t=>exact ⟨B,[],_,t,_,by rw [aKE];exact re2,by rw [aKE];exact Rp.step (Kp.less ow) rr,q,λσ2 H2 E2 q2 g2 re3 _=>by rw [aKE] at g2 re3;rw [aKE] at g2;exact l.nx _ _ _ q2 ((g'.kp.trans (Kp.less ow)).trans g2) re3⟩
def aSK (i j:Nat) (Fr:FA):FS:=λD E=>Fr E λrs E'=>match rs with
 | [.p t,r]=>o1 (tV E.length E' r) λu=>D.nx (((E'.take E.length).set j (some u)).set i (some (.p t)))
 | [r,.p t]=>o1 (tV E.length E' r) λu=>D.nx (((E'.take E.length).set i (some u)).set j (some (.p t)))
 | _=>False
theorem eS {n i j:Nat} {x y:Str} {px py pt:Pos} {kt k2 pt2} (hc:X.calm=true) (hN:X.N.Nodup) (hi:X.N[i]? = some x) (hj:X.N[j]? = some y) (hij:i≠j)
  (hx:X.env.scope.names.lookup x=some .local) (hy:X.env.scope.names.lookup y=some .local) (ha:QA X [a,b] (dJ K n Fr))
  (hw:aVY [.Tuple [.Name x px,.Name y py] kt pt] (.Tuple [a,b] k2 pt2) X.env=pure (some [x,y]))
  (hs:aVX [.Tuple [.Name x px,.Name y py] kt pt] (.Tuple [a,b] k2 pt2) pos.line X.env=pure false:=by rfl) :
  QS X (.Assign [.Tuple [.Name x px,.Name y py] kt pt] (.Tuple [a,b] k2 pt2) pos) (g8 K (aSK i j Fr)):=by
 refine (aNE hc hN hi hj hij hx hy ha hw hs).le λD σ H hl ⟨B,E,DT,re,hF,l⟩=>⟨B,σ,E,_,⟨[],by simp⟩,re,hF,λrs E' vs H' S' q g re' rr hn=>?_⟩;split at q
 ·rename_i t r;obtain ⟨v,ws,e1,h1,w,ws',e2,h2,h3⟩:=rr;cases h3;subst e2;subst e1;obtain ⟨u,e3,q⟩:=q.ex;rw [<-re.len] at e3 q;obtain ⟨r1,ow⟩:=kQ (i:=j) re' g.pre h2 e3;obtain ⟨r2,ow2⟩:=r1.setP (i:=i) (Rp.step (Kp.less ow) h1);refine ⟨v,w,rfl,?_⟩;rw [aT4 _ _ hij];exact l.nx _ _ _ q (g.kp.trans (Kp.less λb z=>ow b (ow2 b z))) r2
 ·rename_i r t _;obtain ⟨v,ws,e1,h1,w,ws',e2,h2,h3⟩:=rr;cases h3;subst e2;subst e1;obtain ⟨u,e3,q⟩:=q.ex;rw [<-re.len] at e3 q;obtain ⟨r1,ow⟩:=kQ (i:=i) re' g.pre h1 e3;obtain ⟨r2,ow2⟩:=r1.setP (i:=j) (Rp.step (Kp.less ow) h2);exact ⟨v,w,rfl,l.nx _ _ _ q (g.kp.trans (Kp.less λb z=>ow b (ow2 b z))) r2⟩
 ·exact q.elim
def aP6 (i j k:Nat) (Fr:FA):FS:=λD E=>Fr E λrs E'=>match rs with
 | [r,.p t,.p w]=>o1 (tV E.length E' r) λu=>D.nx ((((E'.take E.length).set i (some u)).set j (some (.p t))).set k (some (.p w)))
 | _=>False
theorem aAJ {n i j k:Nat} {x y z:Str} {px py pz pt:Pos} {kt k2 pt2} (hc:X.calm=true) (hN:X.N.Nodup) (hi:X.N[i]? = some x) (hj:X.N[j]? = some y) (hk:X.N[k]? = some z) (hij:i≠j) (hik:i≠k) (hjk:j≠k)
  (hx:X.env.scope.names.lookup x=some .local) (hy:X.env.scope.names.lookup y=some .local) (hz:X.env.scope.names.lookup z=some .local) (ha:QA X [a,b,c] (dJ K n Fr))
  (hw:aVY [.Tuple [.Name x px,.Name y py,.Name z pz] kt pt] (.Tuple [a,b,c] k2 pt2) X.env=pure (some [x,y,z]))
  (hs:aVX [.Tuple [.Name x px,.Name y py,.Name z pz] kt pt] (.Tuple [a,b,c] k2 pt2) pos.line X.env=pure false:=by rfl) :
  QS X (.Assign [.Tuple [.Name x px,.Name y py,.Name z pz] kt pt] (.Tuple [a,b,c] k2 pt2) pos) (g8 K (aP6 i j k Fr)):=by
 refine (aHN hc hN hi hj hk hij hik hjk hx hy hz ha hw hs).le λD σ H hl ⟨B,E,DT,re,hF,l⟩=>⟨B,σ,E,_,⟨[],by simp⟩,re,hF,λrs E' vs H' S' q g re' rr hn=>?_⟩;split at q
 ·rename_i r t w;obtain ⟨v1,ws1,e1,h1,v2,ws2,e2,h2,v3,ws3,e3,h3,h4⟩:=rr;cases h4;subst e3;subst e2;subst e1;obtain ⟨u,e4,q⟩:=q.ex;rw [<-re.len] at e4 q;obtain ⟨r1,ow⟩:=kQ (i:=i) re' g.pre h1 e4;obtain ⟨r2,ow2⟩:=r1.setP (i:=j) (Rp.step (Kp.less ow) h2);obtain ⟨r3,ow3⟩:=r2.setP (i:=k) (Rp.step (Kp.less λb z=>ow b (ow2 b z)) h3);exact ⟨v1,v2,v3,rfl,l.nx _ _ _ q (g.kp.trans (Kp.less λb z=>ow b (ow2 b (ow3 b z)))) r3⟩
 ·exact q.elim
def aMJ (Fp:FB) (F:FS):FS:=λD E=>∃W:Nat->En->Prop,(∃m,W m E)/\∀m E,W m E->Fp E λb E'=>if b=true then F { D with nx:=λE2=>∃m',m'<m/\W m' E2,ct:=λE2=>∃m',m'<m/\W m' E2,bk:=D.nx } (E'.take E.length) else D.nx (E'.take E.length)
theorem wH (hp:PassesOwn (aVG X.prog X.w) X.A X.env X.xe) (hc:QT X c (dQ K Fp)) (hb:QB X body (g8 K F)):QS X (.While c body [] pos) (g8 K (aMJ Fp F)):=by
 refine (aFN hp hc hb).le λD σ H hl ⟨B,E,DT,re,⟨W,⟨m0,w0⟩,hF⟩,l⟩=>?_;refine ⟨λm σ' H'=>∃E',W m E'/\Gs B H σ E H' σ' E'/\RE K B H' σ' E',⟨m0,E,w0,Kp.refl _ _,re⟩,?_⟩;rintro m σ1 H1 ⟨E1,w1,g1,re1⟩;refine zS (P:=λb E'=>if b=true then F { DT with nx:=λE2=>∃m',m'<m/\W m' E2,ct:=λE2=>∃m',m'<m/\W m' E2,bk:=DT.nx } E' else DT.nx E') re1 (hF m E1 w1) λb H2 E2 q g2 re2=>?_;cases b
 ·exact l.nx _ _ _ q (g1.trans g2) re2
 ·refine ⟨λσ' H'=>∃m',m'<m/\∃E',W m' E'/\Gs B H σ E H' σ' E'/\RE K B H' σ' E',λσ' H' z=>z,B,E2,_,re2,q,?_⟩;have l2:=l.step (g1.trans g2);exact ⟨λσ' H' E' ⟨m',hm,w⟩ g re'=>⟨m',hm,E',w,(g1.trans g2).trans g,re'⟩,l2.rt,λσ' H' E' z g re'=>l2.nx _ _ _ z g re',λσ' H' E' ⟨m',hm,w⟩ g re'=>⟨m',hm,E',w,(g1.trans g2).trans g,re'⟩⟩
structure aB0 (K:W.Frag) (J:It) (items:List T) (gd:Hp->(aVA->Prop)->Prop):Prop where
 keep:∀H H' O O',Kp O O' H H'->gd H O->gd H' O'
 go:∀i H O,gd H O->i<items.length->J.go i H
 yld:∀i H O x H' t,gd H O->items[i]? = some t->(∀a,O a->H a≠none)->J.yld i H x H'->Kp O O H H'/\(∀b o,H b=some o->H' b=some o)/\Rp K H' O t x
 stop:∀H O,gd H O->J.stop items.length H
abbrev FI:=En->(List T->List Nat->En->Prop)->Prop
def nF (K:W.Frag) (F:FI):TI:=λσ H R=>∃B S E Q',(∃τ,S=σ++τ)/\RE K B H S E/\F E Q'/\∀J items us E' H' S' gd,Q' items us E'->Gr B H S E H' S' E'->RE K B H' S' E'->aB0 K J items gd->(∀j∈us,∃k xs,E'[j]? = some (some (U.o k xs)))->
 (∀O:aVA->Prop,(∀b,O b->Ow B S' E' b)->(∀j∈us,∀a,S'[j]? = some (some (.ref a))->¬O a)->gd H' O)->R J H'
def frzs:List Nat->En->Option En
 | [],E=>some E
 | j::us,E=>match E[j]? with
  | some (some (.o false xs))=>frzs us (E.set j (some (.p (.lst xs))))
  | _=>none
theorem aA2 {B:aVA->Prop} {H:Hp} {S:St}:∀{us:List Nat} {E E':En},RE K B H S E->frzs us E=some E'->RE K B H S E'/\(∀b,Ow B S E' b->Ow B S E b)/\(∀j∈us,∀a,S[j]? = some (some (.ref a))->¬Ow B S E' a)/\E'.length=E.length
 | [],E,E',re,h=>by cases h;exact ⟨re,λb z=>z,λj hj=>absurd hj (by simp),rfl⟩
 | j::us,E,E',re,h=>by
  cases q:E[j]? with
  | none=>simp only [frzs,q] at h;cases h
  | some u=>
   cases u with
   | none=>simp only [frzs,q] at h;cases h
   | some u=>
    cases u with
    | p t=>simp only [frzs,q] at h;cases h
    | o k xs=>
     cases k
     ·simp only [frzs,q] at h;obtain ⟨s1,s2⟩:=re.frz q;obtain ⟨r1,r2,r3,r4⟩:=aA2 s1 h;refine ⟨r1,λb z=>(s2 b (r2 b z)).1,λm hm a ha z=>?_,by rw [r4];simp⟩;rcases aB1.mp hm with rfl | hm
      ·exact (s2 a (r2 a z)).2 ha
      ·exact r3 m hm a ha z
     ·simp only [frzs,q] at h;cases h
def cO (g:FG) (F:FS) (D:ET):List T->En->Prop
 | [],E=>D.nx E
 | x::xs,E=>g x E λE'=>kF E' (F { D with nx:=cO g F D xs,ct:=cO g F D xs,bk:=D.nx })
def aRV (I:FI) (g:FG) (F:FS):FS:=λD E=>I E λitems us E'=>o1 (frzs us E') λE2=>kF (E2.take E.length) (cO g F D items)
theorem eM {tg iter:Expr} {I:FI} (hp:PassesOwn (aVG X.prog X.w) X.A X.env X.xe) (hc:X.calm=true) (hi:QI X tg iter (nF K I)) (hg:QG X tg (mQ K g)) (hb:QB X body (g8 K F)) (hs:∀x,aVN iter X.env x=pure x:=by intro _;rfl) :
  QS X (.For tg iter body [] pos) (g8 K (aRV I g F)):=by
 refine (yZ hp hc hi hg hb hs).le λD σ H hl ⟨B,E,DT,re,hF,l⟩=>?_;refine ⟨B,σ,E,_,⟨[],by simp⟩,re,hF,λJ items us E1 H1 S1 gd q g1 re1 ok _ hgd=>?_⟩;obtain ⟨E2,e2,q⟩:=q.ex;replace q:=eU q;obtain ⟨f1,f2,f3,f4⟩:=aA2 re1 e2;obtain ⟨c1,c2⟩:=f1.cut (E:=E) g1.pre re.len;have gs:Gs B H σ E H1 σ (E2.take E.length):=g1.kp.trans ((Kp.less f2).trans (Kp.less c2));have gd1:gd H1 (Ow B σ (E2.take E.length)):=hgd _ (λb z=>f2 b (c2 b z)) λj hj a ha z=>f3 j hj a ha (c2 a z);refine ⟨λi m σ' H'=>m=items.length-i/\i<=items.length/\∃E',cO g F DT (items.drop i) E'/\Gs B H σ E H' σ' E'/\RE K B H' σ' E'/\gd H' (Ow B σ' E'),⟨_,rfl,aQ5 _,_,q,gs,c1,gd1⟩,?_⟩;rintro i m σ2 H2 ⟨rfl,hi',E3,q3,g3,re3,gd3⟩;rcases aRB i items.length with hlt | hge
 ·have hd:items.drop i=items[i]::items.drop (i+1):=aQ3 hlt;rw [hd] at q3;refine .inr ⟨ok.go i H2 _ gd3 hlt,λσ' H'=>∃E',cO g F DT (items.drop (i+1)) E'/\Gs B H σ E H' σ' E'/\RE K B H' σ' E'/\gd H' (Ow B σ' E'),λσ' H' ⟨E',z⟩=>⟨items.length-(i+1),by omega,rfl,hlt,E',z⟩,λx H4 y=>?_⟩;obtain ⟨k4,s4,rp⟩:=ok.yld i H2 _ x H4 _ gd3 (aAX hlt) (λa z=>by obtain ⟨vs,e⟩:=re3.ow z;rw [e];intro z;cases z) y;have re4:=re3.kept s4;have gd4:=ok.keep _ _ _ _ k4 gd3;refine ⟨B,[],E3,_,_,by rw [aKE];exact re4,by rw [aKE];exact rp,q3,λσ5 H5 E5 q5 g5 re5 hl5=>?_⟩;rw [aKE] at g5 re5;rw [aKE] at g5;have gd5:=ok.keep _ _ _ _ g5 gd4;have gg:=(g3.trans k4).trans g5;have l5:=l.step gg;refine ⟨B,E5,_,re5,eU q5,?_⟩;exact ⟨λσ' H' E' z g re'=>⟨E',z,gg.trans g,re',ok.keep _ _ _ _ g gd5⟩,l5.rt,λσ' H' E' z g re'=>l5.nx _ _ _ z g re',λσ' H' E' z g re'=>⟨E',z,gg.trans g,re',ok.keep _ _ _ _ g gd5⟩⟩
 ·have ei:i=items.length:=by omega
  subst ei;rw [aS0] at q3;exact .inl ⟨ok.stop H2 _ gd3,l.nx _ _ _ q3 g3 re3⟩
def l8 (E:En):R->List Nat
 | .p _=>[]
 | .s j=>match E[j]? with
  | some (some (.o _ _))=>[j]
  | _=>[]
theorem pG {E:En} {r:R}:∀j∈l8 E r,∃k xs,E[j]? = some (some (U.o k xs)):=λj hj=>by
 cases r with
 | p _=>simp [l8] at hj
 | s m=>
  cases q:E[m]? with
  | none=>simp [l8,q] at hj
  | some u=>
   cases u with
   | none=>simp [l8,q] at hj
   | some u=>
    cases u with
    | p _=>simp [l8,q] at hj
    | o k xs=>simp [l8,q] at hj;subst hj;exact ⟨k,xs,q⟩
theorem kZ {B:aVA->Prop} {H:Hp} {S:St} {E:En} {r:R} {v:V} {t:T} (re:RE K B H S E) (rr:RR K B H S E r v) (e:vl E r=some t) (O:aVA->Prop) (hO:∀b,O b->Ow B S E b) (hu:∀j∈l8 E r,∀a,S[j]? = some (some (.ref a))->¬O a):Rp K H O t v:=by
 cases r with
 | p u=>cases e;exact Rp.step (Kp.less hO) rr
 | s j=>
  have rr':S[j]? = some (some v):=rr;cases q:E[j]? with
  | none=>simp only [vl,q] at e;cases e
  | some u=>
   cases u with
   | none=>simp only [vl,q] at e;cases e
   | some u=>
    cases u with
    | p u=>
     simp only [vl,q] at e;cases e;obtain ⟨w,h1,h2⟩:=re.pure j _ q;rw [rr'] at h1;cases h1;exact h2.step (Kp.less hO)
    | o k xs=>
     simp only [vl,q] at e;cases e;obtain ⟨a,vs,h1,h2,h3,_⟩:=re.own j k xs q;rw [rr'] at h1;cases h1;exact ⟨a,vs,rfl,.inl ⟨hu j (by simp [l8,q]) a rr',.inl h2⟩,h3.step (Kp.less hO)⟩
theorem sT {p:aVA} {xs:List T}:aB0 K (Itl K p) xs (λH O=>Rp K H O (.lst xs) (.ref p)):=by
 refine ⟨λH H' O O' k h=>Rp.step k h,λi H O h hi=>?_,λi H O x H' t h e _ y=>?_,λH O h=>?_⟩
 ·obtain ⟨a,vs,e,sq,rs⟩:=h.sqL;cases e;exact ⟨vs,vs[i]'(by rw [rs.length];exact hi),sq,aAX _⟩
 ·obtain ⟨e1,y⟩:=y;subst e1;obtain ⟨a,vs,e2,sq,rs⟩:=h.sqL;cases e2;obtain ⟨v,h1,h2⟩:=rs.get e;rw [y vs sq] at h1;cases h1;exact ⟨Kp.refl _ _,λ_ _ z=>z,h2⟩
 ·obtain ⟨a,vs,e,sq,rs⟩:=h.sqL;cases e;exact ⟨vs,sq,by rw [rs.length];exact aDP _⟩
theorem aGK {p:aVA} {xs:List T}:aB0 K (Itt K p) xs (λH O=>Rp K H O (.tup xs) (.ref p)):=by
 refine ⟨λH H' O O' k h=>Rp.step k h,λi H O h hi=>?_,λi H O x H' t h e _ y=>?_,λH O h=>?_⟩
 ·obtain ⟨a,vs,e,sq,rs⟩:=h.sqT;cases e;exact ⟨vs,vs[i]'(by rw [rs.length];exact hi),sq,aAX _⟩
 ·obtain ⟨e1,y⟩:=y;subst e1;obtain ⟨a,vs,e2,sq,rs⟩:=h.sqT;cases e2;obtain ⟨v,h1,h2⟩:=rs.get e;rw [y vs sq] at h1;cases h1;exact ⟨Kp.refl _ _,λ_ _ z=>z,h2⟩
 ·obtain ⟨a,vs,e,sq,rs⟩:=h.sqT;cases e;exact ⟨vs,sq,by rw [rs.length];exact aDP _⟩
def gT (lo:Int) (n:Nat):List T:=(aS1 n).map λ(i:Nat)=>T.int (lo+(i:Int))
theorem aM9 {lo:Int} {n:Nat}:aB0 K (Itr lo n) (gT lo n) (λ_ _=>True):=by
 refine ⟨λ_ _ _ _ _ h=>h,λi H O _ hi=>by show i<n;simpa [gT] using hi,λi H O x H' t _ e _ y=>?_,λH O _=>by simp [Itr,gT]⟩;obtain ⟨e1,y⟩:=y;subst e1;subst y;unfold gT at e;rw [aDF] at e;have hi:i<n:=by
  rcases aRB i n with c | c
  ·exact c
  ·rw [aT5 (by simpa using c)] at e;cases e
 rw [aUG hi] at e;cases e;exact ⟨Kp.refl _ _,λ_ _ z=>z,rfl⟩
theorem aLA {p:aVA} {xs:List T}:aB0 K (Ite K p) (xs.zipIdx.map λq=>T.tup [.int (q.2:Int),q.1]) (λH O=>Rp K H O (.lst xs) (.ref p)):=by
 refine ⟨λH H' O O' k h=>Rp.step k h,λi H O h hi=>?_,λi H O x H' t h e hO y=>?_,λH O h=>?_⟩
 ·obtain ⟨a,vs,e,sq,rs⟩:=h.sqL;cases e;have hi':i<xs.length:=by simpa using hi
  exact ⟨vs,vs[i]'(by rw [rs.length];exact hi'),sq,aAX _⟩
 ·obtain ⟨pp,w,e1,hp,e2,y⟩:=y;subst e1;subst e2;obtain ⟨a,vs,e3,sq,rs⟩:=h.sqL;cases e3;rw [aDF] at e;cases q:xs.zipIdx[i]? with
  | none=>rw [q] at e;cases e
  | some z=>
   rw [q] at e;cases e;obtain ⟨q1,q2⟩:=aA7.mp q;have q1':i<xs.length:=by simpa using q1
   rw [List.getElem_zipIdx] at q2;subst q2;obtain ⟨v,h1,h2⟩:=rs.get (aAX q1');rw [y vs sq] at h1;cases h1;have k:Kp O O H (upd H pp (.tup [.int (i:Int),w])):=Kp.upd hp;refine ⟨k,λb o z=>by rw [aR (aY z hp)];exact z,pp,_,rfl,.inl ⟨λz=>hO pp z hp,bT⟩,_,_,rfl,?_,w,[],rfl,h2.step k,rfl⟩;simp [Rp]
 ·obtain ⟨a,vs,e,sq,rs⟩:=h.sqL;cases e;exact ⟨vs,sq,by simp [rs.length]⟩
def iL (Fa:FE):FI:=λE Q=>Fa E λr E1=>match vl E1 r with
 | some (.lst xs)=>Q xs (l8 E1 r) E1
 | _=>False
def iT (Fa:FE):FI:=λE Q=>Fa E λr E1=>match vl E1 r with
 | some (.tup xs)=>Q xs [] E1
 | _=>False
theorem eF {tg l:Expr} (eK:X.K=K) (hl:QE X l (aL K Fa)):QI X tg l (nF K (iL Fa)):=by
 subst eK;refine (tU hl).le λσ H R hn ⟨B,S,E,Q',hS,re,hF,lk⟩=>⟨B,S,E,_,hS,re,hF,λr E1 v H1 S1 q g re1 rr=>?_⟩;split at q
 ·rename_i xs e1;obtain ⟨a,vs,e2,sq,rs⟩:=re1.vl rr e1;exact ⟨a,e2,⟨vs,sq⟩,lk _ _ _ _ _ _ _ q g re1 sT pG λO h1 h2=>by rw [<-e2];exact kZ re1 rr e1 O h1 h2⟩
 ·exact q.elim
theorem tP {tg l:Expr} (eK:X.K=K) (hl:QE X l (aL K Fa)):QI X tg l (nF K (iT Fa)):=by
 subst eK;refine (aMA hl).le λσ H R hn ⟨B,S,E,Q',hS,re,hF,lk⟩=>⟨B,S,E,_,hS,re,hF,λr E1 v H1 S1 q g re1 rr=>?_⟩;split at q
 ·rename_i xs e1;obtain ⟨a,vs,e2,sq,rs⟩:=re1.vl rr e1;refine ⟨a,e2,⟨vs,sq⟩,lk _ _ _ _ _ _ _ q g re1 aGK (λj hj=>absurd hj (by simp)) λO h1 h2=>?_⟩;rw [<-e2];refine kZ re1 rr e1 O h1 λj hj=>?_;cases r with
  | p _=>simp [l8] at hj
  | s m=>
   cases q2:E1[m]? with
   | none=>simp only [vl,q2] at e1;cases e1
   | some u=>
    cases u with
    | none=>simp only [vl,q2] at e1;cases e1
    | some u=>
     cases u with
     | p u=>simp [l8,q2] at hj
     | o k ys=>simp only [vl,q2] at e1;cases e1
 ·exact q.elim
def iR1 (Fr:FA):FI:=λE Q=>Fr E λrs E1=>match rs with
 | [x]=>i1 (vl E1 x) λj=>(-(2^62)<=j/\j<2^62)/\Q (gT 0 j.toNat) [] E1
 | _=>False
theorem eZ {n:Nat} {tg:Expr} {p:Pos} (hg:Gl X "range") (hm:X.mg "range" = none) (ha:QA X [a] (dJ K n Fr)) (hs:bX a=false:=by rfl):QI X tg (.Call (.Name "range" p) [a] [] pos) (nF K (iR1 Fr)):=by
 refine (aC2 hg hm ha hs).le λσ H R hn ⟨B,S,E,Q',hS,re,hF,lk⟩=>⟨B,S,E,_,hS,re,hF,λrs E1 vs H1 S1 q g re1 rr hn=>?_⟩
 match rs,rr,q with
 | [x],⟨v,ws,e1,h1,h2⟩,q=>
  cases h2;subst e1;obtain ⟨j,e2,c,q⟩:=i1.ex q;exact ⟨j,by rw [re1.int h1 e2],c.1,c.2,lk _ _ _ _ _ _ _ q g re1 aM9 (λj hj=>absurd hj (by simp)) λ_ _ _=>trivial⟩
 | [],_,q=>exact q.elim
 | _::_::_,_,q=>exact q.elim
def iE (Fr:FA):FI:=λE Q=>Fr E λrs E1=>match rs with
 | [r]=>(match vl E1 r with
  | some (.lst xs)=>Q (xs.zipIdx.map λq=>T.tup [.int (q.2:Int),q.1]) (l8 E1 r) E1
  | _=>False)
 | _=>False
theorem uI {n:Nat} {p tpos:Pos} {elts:List Expr} {x1} (eK:X.K=K) (hg:Gl X "enumerate") (hm:X.mg "enumerate" = none) (ha:QA X [a] (dJ K n Fr)) (hs:bX a=false:=by rfl):QI X (.Tuple elts x1 tpos) (.Call (.Name "enumerate" p) [a] [] pos) (nF K (iE Fr)):=by
 subst eK;refine (aJL hg hm ha hs).le λσ H R hn ⟨B,S,E,Q',hS,re,hF,lk⟩=>⟨B,S,E,_,hS,re,hF,λrs E1 vs H1 S1 q g re1 rr hn=>?_⟩
 match rs,rr,q with
 | [r],⟨v,ws,e1,h1,h2⟩,q=>
  cases h2;subst e1;simp only at q;split at q
  ·rename_i xs e1;obtain ⟨a,vs,e2,sq,rs⟩:=re1.vl h1 e1;exact ⟨a,by rw [e2],⟨vs,sq⟩,lk _ _ _ _ _ _ _ q g re1 aLA pG λO k1 k2=>by rw [<-e2];exact kZ re1 h1 e1 O k1 k2⟩
  ·exact q.elim
 | [],_,q=>exact q.elim
 | _::_::_,_,q=>exact q.elim
end
end L2
namespace L2
open PySem PySem.Spec PyProof.Rows
mutual
def noL:T->Bool
 | .lst _=>false
 | .tup xs=>iR xs
 | _=>true
def iR:List T->Bool
 | []=>true
 | x::xs=>noL x&&iR xs
end
def cL (H:Hp) (a:aVA):Prop:=∃ws,H a=some (.lst ws)
section
variable {K:W.Frag} {H:Hp} {O O':aVA->Prop}
mutual
theorem Rp.noL (hO:∀a,O' a->cL H a):∀{t:T} {v:V},L2.noL t=true->Rp K H O t v->Rp K H O' t v
 | .non,_,_,h=>h
 | .bl _,_,_,h=>h
 | .int _,_,_,h=>h
 | .str _,_,_,h=>h
 | .lst _,_,e,_=>by simp [L2.noL] at e
 | .tup xs,v,e,h=>by
  obtain ⟨a,vs,e1,h1,h2⟩:=h;refine ⟨a,vs,e1,h1.imp (λ⟨_,h⟩=>⟨λz=>?_,h⟩) id,cG.noL hO (by simpa [L2.noL] using e) h2⟩;obtain ⟨ws,q⟩:=hO a z;rw [h] at q;cases q
theorem cG.noL (hO:∀a,O' a->cL H a):∀{xs:List T} {vs:List V},iR xs=true->cG K H O xs vs->cG K H O' xs vs
 | [],_,_,h=>h
 | x::xs,vs,e,h=>by
  obtain ⟨v,r,e1,h1,h2⟩:=h;have e':L2.noL x=true/\iR xs=true:=by simpa [iR] using e
  exact ⟨v,r,e1,Rp.noL hO e'.1 h1,cG.noL hO e'.2 h2⟩
end
end
section
variable {K:W.Frag} {B:aVA->Prop} {H H':Hp} {S S':St} {E E':En} {σ:St}
theorem RE.push (re:RE K B H' S E) {a:aVA} {ts:List T} {vs:List V} (ha:H' a=some (.lst vs)) (hn:¬Ow B S E a) (hb:¬B a)
  (hp:∀(i:Nat) (t:T),E[i]? = some (some (.p t))->∃v,S[i]? = some (some v)/\Rp K H' (λb=>Ow B S E b\/b=a) t v)
  (ho:∀(i:Nat) (k:Bool) (xs:List T),E[i]? = some (some (.o k xs))->∃b ws,S[i]? = some (some (.ref b))/\H' b=some (.lst ws)/\cG K H' (λb=>Ow B S E b\/b=a) xs ws)
  (h:cG K H' (λb=>Ow B S E b\/b=a) ts vs) :
  RE K B H' (S++[some (.ref a)]) (E++[some (.o false ts)])/\∀b,Ow B (S++[some (.ref a)]) (E++[some (.o false ts)]) b->Ow B S E b\/b=a:=by
 have gE:∀{i:Nat} {u:U},(E++[some (.o false ts)])[i]? = some (some u)->(E[i]? = some (some u)/\i<E.length)\/(i=E.length/\u = .o false ts):=λ{i u} h=>by
  rcases wI h with ⟨c,h⟩ | ⟨c,h⟩
  ·exact .inl ⟨h,c⟩
  ·exact .inr ⟨c,Option.some.inj h⟩
 have gS:∀{i:Nat} {x:Option V},S[i]? = some x->(S++[some (.ref a)])[i]? = some x:=λ{i x} h=>dF ⟨_,rfl⟩ h;have gS':∀{i:Nat} {x:Option V},i<E.length->(S++[some (.ref a)])[i]? = some x->S[i]? = some x:=λ{i x} c h=>by
  rw [aG6 (by rw [re.len];exact c)] at h;exact h
 have lS:(S++[some (.ref a)])[E.length]? = some (some (.ref a)):=by rw [<-re.len];simp
 have ow:∀b,Ow B (S++[some (.ref a)]) (E++[some (.o false ts)]) b->Ow B S E b\/b=a:=λb z=>by
  rcases z with z | ⟨i,k,xs,h1,h2⟩
  ·exact .inl (.inl z)
  rcases gE h1 with ⟨h1,c⟩ | ⟨c,h1⟩
  ·exact .inl (.inr ⟨i,k,xs,h1,gS' c h2⟩)
  ·subst c;rw [lS] at h2;cases h2;exact .inr rfl
 have kl:Kp (λb=>Ow B S E b\/b=a) (Ow B (S++[some (.ref a)]) (E++[some (.o false ts)])) H' H':=Kp.less ow;refine ⟨⟨by simp [re.len],λi t h=>?_,λi l xs h=>?_,λi j l m xs ys b h1 h2 h3 h4=>?_,re.bd⟩,ow⟩
 ·rcases gE h with ⟨h,c⟩ | ⟨c,h⟩
  ·obtain ⟨v,h1,h2⟩:=hp i t h;exact ⟨v,gS h1,h2.step kl⟩
  ·cases h
 ·rcases gE h with ⟨h,c⟩ | ⟨c,h⟩
  ·obtain ⟨b,ws,h1,h2,h3⟩:=ho i l xs h;obtain ⟨b',_,q1,_,_,q4⟩:=re.own i l xs h;rw [h1] at q1;cases q1;exact ⟨b,ws,gS h1,h2,h3.step kl,q4⟩
  ·cases h;subst c;exact ⟨a,vs,lS,ha,cG.step kl (by assumption),⟨λz=>absurd z (by decide),λz=>absurd z hb⟩⟩
 ·rcases gE h1 with ⟨h1,c1⟩ | ⟨c1,h1⟩
  ·rcases gE h2 with ⟨h2,c2⟩ | ⟨c2,h2⟩
   ·exact re.inj i j l m xs ys b h1 h2 (gS' c1 h3) (gS' c2 h4)
   ·subst c2;rw [lS] at h4;cases h4;exact absurd (.inr ⟨i,l,xs,h1,gS' c1 h3⟩) hn
  ·rcases gE h2 with ⟨h2,c2⟩ | ⟨c2,h2⟩
   ·subst c1;rw [lS] at h3;cases h3;exact absurd (.inr ⟨j,m,ys,h2,gS' c2 h4⟩) hn
   ·rw [c1,c2]
theorem RE.pad (re:RE K B H S E) (n:Nat):RE K B H (S++aN2 n none) (E++aN2 n none)/\(∀b,Ow B (S++aN2 n none) (E++aN2 n none) b->Ow B S E b):=by
 have gE:∀{i:Nat} {u:U},(E++aN2 n none)[i]? = some (some u)->E[i]? = some (some u)/\i<E.length:=λ{i u} h=>by
  rcases aRB i E.length with c | c
  ·rw [aG6 c] at h;exact ⟨h,c⟩
  ·rw [aLZ c] at h;have:=aFS h;rw [List.mem_replicate] at this;cases this.2
 have gS:∀{i:Nat} {x:Option V},S[i]? = some x->(S++aN2 n none)[i]? = some x:=λ{i x} h=>dF ⟨_,rfl⟩ h;have gS':∀{i:Nat} {x:Option V},i<E.length->(S++aN2 n none)[i]? = some x->S[i]? = some x:=λ{i x} c h=>by
  rw [aG6 (by rw [re.len];exact c)] at h;exact h
 have ow:∀b,Ow B (S++aN2 n none) (E++aN2 n none) b->Ow B S E b:=λb z=>z.imp id λ⟨i,k,xs,h1,h2⟩=>⟨i,k,xs,(gE h1).1,gS' (gE h1).2 h2⟩;have kl:Kp (Ow B S E) (Ow B (S++aN2 n none) (E++aN2 n none)) H H:=Kp.less ow;refine ⟨⟨by simp [re.len],λi t h=>?_,λi l xs h=>?_,λi j l m xs ys b h1 h2 h3 h4=>?_,re.bd⟩,ow⟩
 ·obtain ⟨v,h1,h2⟩:=re.pure i t (gE h).1;exact ⟨v,gS h1,h2.step kl⟩
 ·obtain ⟨b,ws,h1,h2,h3,h4⟩:=re.own i l xs (gE h).1;exact ⟨b,ws,gS h1,h2,h3.step kl,h4⟩
 ·exact re.inj i j l m xs ys b (gE h1).1 (gE h2).1 (gS' (gE h1).2 h3) (gS' (gE h2).2 h4)
end
inductive A where
 | v (t:T) | b (xs:List T)
inductive RV where
 | v (t:T) | l (xs:List T)
abbrev gW:=List A->(RV->List T->Prop)->Prop
def oG:List A->En
 | []=>[]
 | .v t::r=>some (.p t)::oG r
 | .b xs::r=>some (.o true xs)::oG r
theorem i5:∀{as:List A},(oG as).length=as.length
 | []=>rfl
 | .v t::r=>by simp [oG,i5 (as:=r)]
 | .b t::r=>by simp [oG,i5 (as:=r)]
def xG:List A->Option Nat
 | []=>none
 | .b _::_=>some 0
 | .v _::r=>(xG r).map (· + 1)
def RRv (K:W.Frag) (H H':Hp):RV->V->Prop
 | .v t,v=>Rp K H' (cL H) t v
 | .l xs,v=>∃a ws,v = .ref a/\H a=none/\H' a=some (.lst ws)/\cG K H' (λb=>cL H b\/b=a) xs ws
def aI (K:W.Frag) (S:gW):Sp:=λvs H Q _=>∃(as:List A) (Q':RV->List T->Prop) (bx:Option aVA),RE K (λa=>bx=some a) H (vs.map some) (oG as)/\(xG as=none->bx=none)/\S as Q'/\
 ∀r xs v H',Q' r xs->(∀b o,H b=some o->bx≠some b->H' b=some o)->(∀a,bx=some a->∃ws,H' a=some (.lst ws)/\cG K H' (cL H') xs ws)->RRv K H H' r v->Q v H'
def aAQ (as:List A) (E:En):Option (List T):=match xG as with
 | none=>some []
 | some j=>match E[j]? with
  | some (some (.o true xs))=>if iR xs=true then some xs else none
  | _=>none
def aSH (as:List A) (Q:RV->List T->Prop):ET where
 nx:=λE=>o1 (aAQ as E) λxs=>Q (.v .non) xs
 rt:=λr E=>o1 (aAQ as E) λxs=>match r with
  | .p t=>noL t=true/\Q (.v t) xs
  | .s i=>match E[i]? with
   | some (some (.o false ys))=>iR ys=true/\Q (.l ys) xs
   | some (some (.p t))=>noL t=true/\Q (.v t) xs
   | _=>False
theorem aD3:∀{as:List A} {j:Nat} {k:Bool} {xs:List T},(oG as)[j]? = some (some (.o k xs))->k=true
 | [],j,_,_,h=>by simp [oG] at h
 | .b _::_,0,_,_,h=>by simp [oG] at h;exact h.1
 | .v _::_,0,_,_,h=>by simp [oG] at h
 | .b _::r,j+1,_,_,h=>aD3 (as:=r) (j:=j) (by simpa [oG] using h)
 | .v _::r,j+1,_,_,h=>aD3 (as:=r) (j:=j) (by simpa [oG] using h)
section
variable {P:aVD} {w:aVH} {K:W.Frag} {mg:Str->Option Value} {base:Heap}
theorem fO.okT {x qual:Str} {st:aVK} {f:aVA} {fd:aVF} {N ps:List Str} {k:Nat} {S:gW} {F:FS} (Fn:fO K x qual st f fd) (Sc:aN N ps (aH st)) (len:∀as Q,S as Q->as.length=ps.length)
  (hb:∀(cdv:Value) (A:Around) (outer:List Env) (s:Shared) (H:Hp) (E:XK),dD k (A.deeper (aWJ qual (aH st) s.heap.objs.size f cdv))->QB (wM fP P w K mg base N qual (aH st) f cdv A outer s H E).nox (gC st) (g8 K F))
  (hF:∀as Q,S as Q->F (aSH as Q) (oG as++aN2 (N.length-as.length) none)):bL P w K mg base fP (k+1) f fd ps (aI K S):=by
 refine Fn.okQ Sc (λvs H Q E ⟨as,Q',bx,re,hbn,hS,l⟩=>?_) (λcdv A outer s H vs Q E hr ⟨as,Q',bx,re,hbn,hS,l⟩=>?_)
 ·have:=re.len;rw [aBC,i5] at this;rw [this];exact len as Q' hS
 have hl:vs.length=as.length:=by have:=re.len;rwa [aBC,i5] at this
 refine ⟨_,hb cdv A outer s H E hr,?_⟩;obtain ⟨re0,ow0⟩:=re.pad (N.length-as.length);have hst:iF N vs=vs.map some++aN2 (N.length-as.length) none:=by unfold iF;rw [hl]
 rw [hst]
 -- the box's address
 have own0:∀b,Ow (λa=>bx=some a) (vs.map some) (oG as) b->bx=some b:=λb z=>by
  rcases z with z | ⟨i,kk,xs,h1,h2⟩
  ·exact z
  obtain ⟨a,ws,q1,_,_,q4⟩:=re.own i kk xs h1;rw [h2] at q1;cases q1;exact q4.mp (aD3 h1)
 have fr:∀{H':Hp} {S':St} {E':En},Gs (λa=>bx=some a) H (vs.map some++aN2 (N.length-as.length) none) (oG as++aN2 (N.length-as.length) none) H' S' E'->∀b o,H b=some o->bx≠some b->H' b=some o:=λg b o h n=>g.keep b o h λz=>n (own0 b (ow0 b z));have fin:∀{r:RV} {xs:List T} {v:V} {H':Hp} {S':St} {E':En},aAQ as E'=some xs->Q' r xs->Gs (λa=>bx=some a) H (vs.map some++aN2 (N.length-as.length) none) (oG as++aN2 (N.length-as.length) none) H' S' E'->RE K (λa=>bx=some a) H' S' E'->
   ((∀a,cL H a->cL H' a)->RRv K H H' r v)->Q v H':=λ{r xs v H' S' E'} e q g re' hr=>by
  have hbx:∀a,bx=some a->∃ws,H' a=some (.lst ws)/\cG K H' (cL H') xs ws:=λa ha=>by
   unfold aAQ at e;cases qb:xG as with
   | none=>
    rw [qb] at e;cases e;rw [hbn qb] at ha;cases ha
   | some j=>
    rw [qb] at e;simp only at e;split at e
    ·rename_i ys hE;split at e
     ·cases e;rename_i hnl;obtain ⟨b,ws,h1,h2,h3,h4⟩:=re'.own j true xs hE;have:bx=some b:=h4.mp rfl;rw [ha] at this;cases this;exact ⟨ws,h2,cG.noL (λ_ z=>z) hnl h3⟩
     ·cases e
    ·cases e
  refine l r xs v H' q (fr g) hbx (hr λa ⟨ws,ha⟩=>?_)
  by_cases c:bx=some a
  ·obtain ⟨ws',h,_⟩:=hbx a c;exact ⟨ws',h⟩
  ·exact ⟨ws,fr g a _ ha c⟩
 refine ⟨_,_,_,re0,hF as Q' hS,⟨λσ' H' E' q g re'=>?_,λr E' v H' S' q g re' rr=>?_,λ_ _ _ z=>z.elim,λ_ _ _ z=>z.elim⟩⟩
 ·obtain ⟨xs,e,q⟩:=q.ex;exact fin e q g re' λ_=>rfl
 ·obtain ⟨xs,e,q⟩:=q.ex;cases r with
  | p t=>exact fin e q.2 g re' λh=>Rp.noL h q.1 rr
  | s i=>
   simp only at q;split at q
   ·rename_i ys hE;refine fin e q.2 g re' λh=>?_;obtain ⟨b,ws,h1,h2,h3,h4⟩:=re'.own i false ys hE;have rr':S'[i]? = some (some v):=rr;rw [rr'] at h1;cases h1;refine ⟨b,ws,rfl,?_,h2,cG.noL (λa z=>?_) q.1 h3⟩
    ·rcases g.new b (.inr ⟨i,false,ys,hE,rr'⟩) with z | z
     ·have:=h4.mpr (own0 b (ow0 b z));cases this
     ·exact z
    ·rcases z with z | z
     ·exact h a z
     ·exact ⟨ws,by rw [z];exact h2⟩
   ·rename_i t hE;obtain ⟨w,h1,h2⟩:=re'.pure i t hE;have rr':S'[i]? = some (some v):=rr;rw [rr'] at h1;cases h1;exact fin e q.2 g re' λh=>Rp.noL h q.1 h2
   ·exact q.elim
end
def mkV (E:En):List R->Option (List T)
 | []=>some []
 | r::rs=>match vl E r,mkV E rs with
  | some t,some ts=>some (t::ts)
  | _,_=>none
def aIS (E:En) (Q:R->En->Prop):RV->Prop
 | .v t=>Q (.p t) E
 | .l xs=>Q (.s E.length) (E++[some (.o false xs)])
def aKJ (S:gW) (Fr:FA):FE:=λE Q=>Fr E λrs E1=>o1 (mkV E1 rs) λts=>S (ts.map A.v) λr _=>aIS E1 Q r
def aLU (S:gW) (Fr:FA):FE:=λE Q=>Fr E λrs E1=>match rs with
 | .s j::rs=>(match E1[j]? with
  | some (some (.o k xs))=>cond (rs.all λr=>!(l8 E1 r).contains j) (o1 (mkV E1 rs) λts=>S (.b xs::ts.map A.v) λr ys=>aIS (E1.set j (some (.o k ys))) Q r) False
  | _=>False)
 | _=>False
section
variable {K:W.Frag} {B:aVA->Prop} {H H':Hp} {S S':St} {E E':En} {σ:St}
theorem zC (re:RE K B H S E):∀{rs:List R} {vs:List V} {ts:List T},RRs K B H S E rs vs->mkV E rs=some ts->∀(O:aVA->Prop),(∀b,O b->Ow B S E b)->(∀r∈rs,∀j∈l8 E r,∀a,S[j]? = some (some (.ref a))->¬O a)->cG K H O ts vs
 | [],_,_,h,e,_,_,_=>by cases e;exact h
 | r::rs,_,ts,⟨v,ws,e1,h1,h2⟩,e,O,hO,hu=>by
  cases q1:vl E r with
  | none=>simp only [mkV,q1] at e;cases e
  | some t=>
   cases q2:mkV E rs with
   | none=>simp only [mkV,q1,q2] at e;cases e
   | some us=>
    simp only [mkV,q1,q2] at e;cases e;exact ⟨v,ws,e1,kZ re h1 q1 O hO (hu r (by simp)),zC re h2 q2 O hO λr' hr=>hu r' (by simp [hr])⟩
theorem aFG:∀{ts:List T},oG (ts.map A.v)=ts.map λt=>some (U.p t)
 | []=>rfl
 | t::ts=>by simp [oG,aFG (ts:=ts)]
theorem oY (re:RE K B H S E) (re':RE K B H' S E') (hk:∀b o,H b=some o->¬Ow B S E b->H' b=some o) (hw:∀b,Ow B S E' b->Ow B S E b)
  (hE:∀(i:Nat) (k:Bool) (xs:List T),E'[i]? = some (some (.o k xs))->(E[i]? = some (some (.o k xs))/\∀a,S[i]? = some (some (.ref a))->H' a=H a)\/∀a ws,S[i]? = some (some (.ref a))->H' a=some (.lst ws)->cG K H' (cL H') xs ws)
  (hP:∀(i:Nat) (t:T),E'[i]? = some (some (.p t))->E[i]? = some (some (.p t)))
  {r:RV} {v:V} (rv:RRv K H H' r v) {Q:R->En->Prop} (q:aIS E' Q r) {Qv:VK} (lk:Lk K B H S E Q Qv):Qv v H':=by
 have kp:Kp (Ow B S E) (Ow B S E') H H':=⟨hk,λb z=>.inl (hw b z)⟩;cases r with
 | v t=>exact lk _ _ _ _ _ q ⟨kp,[],by simp⟩ re' (Rp.step (Kp.less λb z=>re.ow (hw b z)) rv)
 | l xs=>
  obtain ⟨a,ws,rfl,h1,h2,h3⟩:=rv;have nOw:¬Ow B S E' a:=λz=>re.nn h1 (hw a z);have nB:¬B a:=λz=>re.nn h1 (.inl z);have kp2:Kp (Ow B S E) (λb=>Ow B S E' b\/b=a) H H':=⟨hk,λb z=>by
   rcases z with z | z
   ·exact .inl (hw b z)
   ·exact .inr (by rw [z];exact h1)⟩
  obtain ⟨r1,r2⟩:=re'.push h2 nOw nB (λi t h=>by
    obtain ⟨w,q1,q2⟩:=re.pure i t (hP i t h);exact ⟨w,q1,q2.step kp2⟩) (λi k ys h=>by
    obtain ⟨b,us,q1,q2,q3,_⟩:=re'.own i k ys h;refine ⟨b,us,q1,q2,?_⟩;rcases hE i k ys h with ⟨z,zz⟩ | z
    ·obtain ⟨b',us',p1,p2,p3,_⟩:=re.own i k ys z;rw [q1] at p1;cases p1;have e:=zz b q1;rw [q2,p2] at e;cases e;exact p3.step kp2
    ·exact (z b us q1 q2).step (Kp.less λc hc=>by
      rcases hc with hc | hc
      ·exact re'.ow hc
      ·exact ⟨ws,by rw [hc];exact h2⟩)) (h3.step (Kp.less λb z=>by
    rcases z with z | z
    ·exact .inl (re.ow (hw b z))
    ·exact .inr z))
  refine lk _ _ _ _ _ q ⟨⟨hk,λb z=>?_⟩,[some (.ref a)],rfl⟩ r1 ?_
  ·rcases r2 b z with z | z
   ·exact .inl (hw b z)
   ·exact .inr (by rw [z];exact h1)
  ·show (S++[some (V.ref a)])[E'.length]? = _;rw [<-re'.len];simp
end
section
variable {X:Cx} {K:W.Frag} {pos:Pos} {e:Expr} {es:List Expr} {Fr:FA}
theorem aDI {n:Nat} {S:gW} {σ:St} {H:Hp} {Q:VK} (h:aL K (aKJ S Fr) σ H Q):xH (aI K S) [] E0 (dJ K n Fr) σ H Q:=by
 refine args (Fr:=Fr) h λB S' E rs vs H2 Q' hS re rr hn q lk=>?_;obtain ⟨ts,e1,q⟩:=q.ex;rw [aKE];have rp:=zC re rr e1 (λ_=>False) (λ_ z=>z.elim) (λ_ _ _ _ _ _ z=>z);have no:∀b,¬Ow (λa=>(none:Option aVA)=some a) (vs.map some) (ts.map λt=>some (U.p t)) b:=λb z=>by
  rcases z with z | ⟨i,k,xs,h1,_⟩
  ·cases z
  rw [aDF] at h1;cases q:ts[i]? with
  | none=>rw [q] at h1;cases h1
  | some t=>rw [q] at h1;cases h1
 refine ⟨ts.map A.v,_,none,?_,λ_=>rfl,q,λr xs v H' q2 fr _ rv=>?_⟩
 ·rw [aFG];refine ⟨by simp [rp.length],λi t h=>?_,λi k xs h=>?_,λi j k l xs ys a h _ _ _=>?_,λa z=>by cases z⟩
  ·rw [aDF] at h;cases q:ts[i]? with
   | none=>rw [q] at h;cases h
   | some u=>
    rw [q] at h;cases h;obtain ⟨v,h1,h2⟩:=rp.get q;exact ⟨v,by rw [aDF,h1];rfl,h2.step (Kp.less λb z=>no b z)⟩
  ·rw [aDF] at h;cases q:ts[i]? with
   | none=>rw [q] at h;cases h
   | some t=>rw [q] at h;cases h
  ·rw [aDF] at h;cases q:ts[i]? with
   | none=>rw [q] at h;cases h
   | some t=>rw [q] at h;cases h
 ·have same:∀b o,H2 b=some o->H' b=some o:=λb o z=>fr b o z (by intro z;cases z);exact oY re (re.kept same) (λb o z _=>same b o z) (λb z=>z) (λi k xs h=>.inl ⟨h,λa ha=>by
   obtain ⟨a',ws,h1,h2,_⟩:=re.own i k xs h;rw [ha] at h1;cases h1;rw [h2];exact same _ _ h2⟩) (λi t h=>h) rv q2 lk
theorem aC {n k j:Nat} {x:Str} {ps:List Str} {S:gW} {p:Pos} (F:Fn X.prog X.w X.K X.mg X.base k x ps (aI K S)) (hr:dD j X.A) (hk:k<=j) (hg:Gl X x) (ha:QA X (e::es) (dJ K n Fr)) (hdb:(x==("__debug__":Str))=false:=by decide)
  (hs:bJ (e::es)=true:=by rfl):QE X (.Call (.Name x p) (e::es) [] pos) (aL K (aKJ S Fr)):=(aDG F hr hk hg ha hdb hs).le λ_ _ _ _ h=>aDI h
theorem bD {n k j:Nat} {x:Str} {ps:List Str} {S:gW} {p:Pos} (F:Fn X.prog X.w X.K X.mg X.base k x ps (aI K S)) (hr:dD j X.A) (hk:k<=j) (hg:Gl X x) (ha:QA X (e::es) (dJ K n Fr)) (hdb:(x==("__debug__":Str))=false:=by decide)
  (hs:bJ (e::es)=true:=by rfl):QE X (.Call (.Name x p) (e::es) [] pos) (aL K (aLU S Fr)):=by
 refine (aDG F hr hk hg ha hdb hs).le λσ H Q hl h=>args (Fr:=Fr) h λB S' E rs vs H2 Q' hS re rr hn q lk=>?_;rw [aKE];split at q
 ·rename_i jb rs';split at q
  ·rename_i kb xs hE;cases qc:(rs'.all λr=>!(l8 E r).contains jb) with
   | false=>rw [qc] at q;exact q.elim
   | true=>
    rw [qc] at q;obtain ⟨ts,e1,q⟩:=o1.ex q;obtain ⟨v0,ws,e2,h0,h2⟩:=rr;subst e2;have h0':S'[jb]? = some (some v0):=h0;obtain ⟨a0,us,k1,k2,k3,k4⟩:=re.own jb kb xs hE;rw [h0'] at k1;cases k1;have ow0:Ow B S' E a0:=.inr ⟨jb,kb,xs,hE,h0'⟩;have rp:=zC re h2 e1 (λb=>b=a0) (λb z=>by rw [z];exact ow0) (λr hr m hm a hma z=>by
     subst z;have c:=aN7.mp qc r hr;have:m=jb:=by
      cases r with
      | p _=>simp [l8] at hm
      | s l=>
       cases ql:E[l]? with
       | none=>simp [l8,ql] at hm
       | some u=>
        cases u with
        | none=>simp [l8,ql] at hm
        | some u=>
         cases u with
         | p _=>simp [l8,ql] at hm
         | o kk zs=>
          simp [l8,ql] at hm;subst hm;exact re.inj _ _ kk kb zs xs a ql hE hma h0'
     subst this;have hc:(l8 E r).contains m=true:=by simpa using hm
     rw [hc] at c;cases c)
    have get:∀{i:Nat} {u:U},(some (U.o true xs)::ts.map λt=>some (U.p t))[i]? = some (some u)->(i=0/\u = .o true xs)\/∃m t,i=m+1/\ts[m]? = some t/\u = .p t:=λ{i u} h=>by
     cases i with
     | zero=>simp at h;exact .inl ⟨rfl,h.symm⟩
     | succ m=>
      rw [List.getElem?_cons_succ,aDF] at h;cases q:ts[m]? with
      | none=>rw [q] at h;cases h
      | some t=>rw [q] at h;cases h;exact .inr ⟨m,t,rfl,q,rfl⟩
    have ow:∀b,Ow (λa=>some a0=some a) ((V.ref a0::ws).map some) (some (U.o true xs)::ts.map λt=>some (U.p t)) b->b=a0:=λb z=>by
     rcases z with z | ⟨i,k,ys,h1,h3⟩
     ·cases z;rfl
     rcases get h1 with ⟨c,z⟩ | ⟨m,t,_,_,z⟩
     ·subst c;simp at h3;exact h3.symm
     ·cases z
    have nb:xG (A.b xs::ts.map A.v)≠none:=by intro z;cases z
    refine ⟨A.b xs::ts.map A.v,_,some a0,?_,λz=>absurd z nb,q,λr ys v H' q2 fr bxk rv=>?_⟩
    ·have ee:oG (A.b xs::ts.map A.v)=some (U.o true xs)::ts.map λt=>some (U.p t):=by simp [oG,aFG]
     rw [ee];refine ⟨by simp [rp.length],λi t h=>?_,λi k zs h=>?_,λi j k l zs ys a h1 h3 _ _=>?_,λa z=>by cases z;exact ⟨us,k2⟩⟩
     ·rcases get h with ⟨_,z⟩ | ⟨m,t',e,q3,z⟩
      ·cases z
      ·cases z;subst e;obtain ⟨v,h1,h2⟩:=rp.get q3;exact ⟨v,by simp [h1],h2.step (Kp.less λb z=>ow b z)⟩
     ·rcases get h with ⟨c,z⟩ | ⟨m,t',e,q3,z⟩
      ·cases z;subst c;exact ⟨a0,us,by simp,k2,k3.step (Kp.less λb z=>by rw [ow b z];exact ow0),⟨λ_=>rfl,λ_=>rfl⟩⟩
      ·cases z
     ·rcases get h1 with ⟨c,z⟩ | ⟨m,t',e,q3,z⟩
      ·rcases get h3 with ⟨c',z'⟩ | ⟨m,t',e,q3,z'⟩
       ·rw [c,c']
       ·cases z'
      ·cases z
    ·obtain ⟨ws',b1,b2⟩:=bxk a0 rfl;have hk:∀b o,H2 b=some o->¬Ow B S' E b->H' b=some o:=λb o z n=>fr b o z (by intro c;cases c;exact n ow0);have lts:∀b,Ow B S' E b->cL H' b:=λb z=>by
      by_cases c:b=a0
      ·subst c;exact ⟨ws',b1⟩
      ·obtain ⟨us',e⟩:=re.ow z;exact ⟨us',fr b _ e (by intro z;cases z;exact c rfl)⟩
     have getE:∀{i:Nat} {u:U},(E.set jb (some (.o kb ys)))[i]? = some (some u)->(i=jb/\u = .o kb ys)\/(i≠jb/\E[i]? = some (some u)):=λ{i u} h=>by
      by_cases c:i=jb
      ·subst c;rw [aOP (aA7.mp hE).1] at h;cases h;exact .inl ⟨rfl,rfl⟩
      ·rw [aK0 (λz=>c z.symm)] at h;exact .inr ⟨c,h⟩
     have kp:Kp (Ow B S' E) (Ow B S' E) H2 H':=⟨hk,λb z=>.inl z⟩;have owE:∀b,Ow B S' (E.set jb (some (.o kb ys))) b->Ow B S' E b:=λb z=>by
      rcases z with z | ⟨i,k,zs,z1,z2⟩
      ·exact .inl z
      rcases getE z1 with ⟨c,z⟩ | ⟨c,z⟩
      ·subst c;exact .inr ⟨_,kb,xs,hE,z2⟩
      ·exact .inr ⟨i,k,zs,z,z2⟩
     have re':RE K B H' S' (E.set jb (some (.o kb ys))):=by
      refine re.step hk (by simp) (λi t h=>?_) (λi k zs h=>?_) (λa z=>?_)
      ·rcases getE h with ⟨_,z⟩ | ⟨_,z⟩
       ·cases z
       ·exact z
      ·rcases getE h with ⟨c,z⟩ | ⟨c,z⟩
       ·cases z;subst c;refine ⟨xs,hE,λa ha=>?_⟩;rw [h0'] at ha;cases ha;exact ⟨ws',b1,b2.step (Kp.less lts)⟩
       ·refine ⟨zs,z,λa ha=>?_⟩;obtain ⟨a',us',p1,p2,p3,_⟩:=re.own i k zs z;rw [ha] at p1;cases p1;have na:a≠a0:=λw=>c (re.inj i jb k kb zs xs a0 z hE (by rw [<-w];exact ha) h0');exact ⟨us',fr a _ p2 (by intro w;cases w;exact na rfl),p3.step kp⟩
      ·exact lts a (.inl z)
     refine oY re re' hk owE (λi k zs h=>?_) (λi t h=>?_) rv q2 lk
     ·rcases getE h with ⟨c,z⟩ | ⟨c,z⟩
      ·cases z
       right
       intro a us2 ha hu;subst c;rw [h0'] at ha;cases ha;rw [b1] at hu;cases hu;exact b2
      ·left
       refine ⟨z,λa ha=>?_⟩;obtain ⟨a',us',p1,p2,p3,_⟩:=re.own i k zs z;rw [ha] at p1;cases p1;have na:a≠a0:=λw=>c (re.inj i jb k kb zs xs a0 z hE (by rw [<-w];exact ha) h0');rw [p2];exact fr a _ p2 (by intro w;cases w;exact na rfl)
     ·rcases getE h with ⟨_,z⟩ | ⟨_,z⟩
      ·cases z
      ·exact z
  ·exact q.elim
 ·exact q.elim
end
end L2
namespace L2
open PySem PySem.Spec PyProof.Rows
def rR (bk:Bool):Option (Option U)->Option U
 | some (some (.p t))=>some (.p t)
 | some (some (.o _ xs))=>if bk=true then some (.o true xs) else some (.p (.lst xs))
 | _=>none
def gQ (t:Nat) (cap:List (Nat×Bool)) (E:En):En:=aN2 t none++cap.map λk=>rR k.2 E[k.1]?
def kX:List (Nat×Bool)->Option (Nat×Nat)
 | []=>none
 | (k,true)::_=>some (0,k)
 | (_,false)::r=>(kX r).map λx=>(x.1+1,x.2)
def jF (cap:List (Nat×Bool)):Bool:=Nat.ble (cap.filter (·.2)).length 1
def oN (t:Nat) (cap:List (Nat×Bool)) (Ein E:En):Option En:=match kX cap with
 | none=>some E
 | some (j,k)=>match E[k]?,Ein[t+j]? with
  | some (some (.o b _)),some (some (.o true ys))=>if iR ys=true then some (E.set k (some (.o b ys))) else none
  | some (some (.p _)),_=>some E
  | _,_=>none
def gZ (g:FG) (Fe:FE):List T->En->(En->Prop)->Prop
 | [],E,Q=>Q E
 | x::xs,E,Q=>g x E λE2=>Fe E2 λr E3=>match r with
  | .p t=>(match E3[E.length-1]? with
   | some (some (.o false acc))=>acc.length<1000/\gZ g Fe xs ((E3.set (E.length-1) (some (.o false (acc++[t])))).take E.length) Q
   | _=>False)
  | .s _=>False
def aEU (t:Nat) (cap:List (Nat×Bool)) (I:FI) (g:FG) (Fe:FE):FE:=λE Q=>I E λitems us E1=>cap.all (λk=>!(k.2&&us.contains k.1))=true/\
 gZ g Fe items (gQ t cap E1++[some (.o false [])]) λEin=>match Ein[t+cap.length]? with
  | some (some (.o false zs))=>iR zs=true/\o1 (oN t cap Ein E1) λE2=>Q (.s E2.length) (E2++[some (.o false zs)])
  | _=>False
section
variable {K:W.Frag} {B:aVA->Prop} {H H':Hp} {S S':St} {E E':En} {σ:St}
theorem mP {t:Nat} {cap:List (Nat×Bool)} {i:Nat} {u:U} (h:(gQ t cap E)[i]? = some (some u)):∃j k b,i=t+j/\cap[j]? = some (k,b)/\rR b E[k]? = some u:=by
 unfold gQ at h;rcases aRB i t with c | c
 ·rw [aG6 (by simpa using c)] at h;have:=aFS h;rw [List.mem_replicate] at this;cases this.2
 ·rw [aLZ (by simpa using c),aTJ,aDF] at h;cases q:cap[i-t]? with
  | none=>rw [q] at h;cases h
  | some x=>
   rw [q] at h;exact ⟨i-t,x.1,x.2,by omega,q,by simpa using h⟩
theorem m6 {t:Nat} {cap:List (Nat×Bool)} {j k:Nat} {b:Bool} (h:cap[j]? = some (k,b)):(dO t (cap.map (·.1)) σ)[t+j]? = some ((σ[k]?).join):=by
 unfold dO;rw [aLZ (by simp)];simp [h]
theorem lL:∀{cap:List (Nat×Bool)} {j k:Nat},kX cap=some (j,k)->cap[j]? = some (k,true)
 | (k,true)::r,_,_,h=>by cases h;rfl
 | (m,false)::r,j,k,h=>by
  cases q:kX r with
  | none=>rw [kX,q] at h;cases h
  | some x=>
   rw [kX,q] at h;cases h
   simpa using lL (j:=x.1) (k:=x.2) q
theorem bR:∀{cap:List (Nat×Bool)} {j k:Nat},jF cap=true->cap[j]? = some (k,true)->kX cap=some (j,k)
 | [],j,k,_,h=>by simp at h
 | (m,true)::r,0,k,_,h=>by simp at h;subst h;rfl
 | (m,true)::r,j+1,k,ho,h=>by
  have h':r[j]? = some (k,true):=by simpa using h
  have:(k,true)∈r.filter (·.2):=aTE.mpr ⟨aFS h',rfl⟩;have hl:0<(r.filter (·.2)).length:=List.length_pos_of_mem this;unfold jF at ho;rw [aT2 (by rfl)] at ho;have:=Nat.le_of_ble_eq_true ho;simp only [aKX] at this;omega
 | (m,false)::r,0,k,_,h=>by simp at h
 | (m,false)::r,j+1,k,ho,h=>by
  have h':r[j]? = some (k,true):=by simpa using h
  have ho':jF r=true:=by
   unfold jF at ho ⊢;rw [aUZ (by simp)] at ho;exact ho
  rw [kX,bR ho' h'];rfl
end
def Dat (i:Nat) (kvs:List (Key×V)) (σ:St) (H:Hp):Prop:=∃p,σ[i]? = some (some (.ref p))/\H p=some (.dK kvs)
abbrev DD:=Option (Nat×List (Key×V))
def oQ (d:DD) (σ:St) (H:Hp):Prop:=∀x,d=some x->Dat x.1 x.2 σ H
theorem oQ.same {d:DD} {σ:St} {H H':Hp} (h:oQ d σ H) (k:∀b o,H b=some o->H' b=some o):oQ d σ H':=λx e=>let ⟨p,h1,h2⟩:=h x e;⟨p,h1,k _ _ h2⟩
theorem oQ.kp {d:DD} {K:W.Frag} {B O:aVA->Prop} {S σ:St} {E:En} {H H':Hp} (h:oQ d σ H) (re:RE K B H S E) (k:Kp (Ow B S E) O H H'):oQ d σ H':=λx e=>
 let ⟨p,h1,h2⟩:=h x e;⟨p,h1,k.keep _ _ h2 λz=>by obtain ⟨vs,e⟩:=re.ow z;rw [h2] at e;cases e⟩
def aFK (d:DD) (K:W.Frag) (F:FE):TE:=λσ H Q=>oQ d σ H/\aL K F σ H Q
def aJ6 (d:DD) (K:W.Frag) (g:FG):TG:=λv σ H Q=>oQ d σ H/\mQ K g v σ H λσ' H'=>oQ d σ' H'->Q σ' H'
section
variable {X:Cx} {K:W.Frag} {pos:Pos} {Fe:FE} {g:FG} {I:FI}
theorem QG.gd {e:Expr} (h:QG X e (mQ K g)):QG X e (aJ6 none K g):=h.le λv σ H Q _ ⟨_,B,τ,E,t,Q',re,rp,hF,l⟩=>⟨B,τ,E,t,Q',re,rp,hF,λσ' H' E' a b c d=>l σ' H' E' a b c d λ_ z=>by cases z⟩
theorem QE.ed {e:Expr} (h:QE X e (aL K Fe)):QE X e (aFK none K Fe):=h.le λ_ _ _ _ z=>z.2
theorem wJ {d d':DD} {scope:aVV} {N':List Str} {cap:List (Nat×Bool)} {t:Nat} (S:bN X N' scope t (cap.map (·.1))) (ho:jF cap=true) (hnd:(cap.map (·.1)).Nodup) {σ:St} {H:Hp} {Q:VK} (hl:σ.length=X.N.length) (hdd:∀H,oQ d σ H->oQ d' (dO t (cap.map (·.1)) σ) H)
  (h:aFK d K (aEU t cap I g Fe) σ H Q):aBP t (cap.map (·.1)) (nF K I) (aJ6 d' K g) (aFK d' K Fe) σ H Q:=by
 obtain ⟨dt,B,S0,E,Q',hS,re,hF,lk⟩:=h;refine ⟨B,S0,E,_,hS,re,hF,λJ items us E1 H1 S1 gd q g1 re1 ok husO hgd D hD=>?_⟩;obtain ⟨hus,q⟩:=q;obtain ⟨τ0,hS0⟩:=hS;obtain ⟨τ1,hS1⟩:=g1.pre;have hS1':∃τ,S1=σ++τ:=⟨τ0++τ1,by rw [hS1,hS0,aDE]⟩;have atσ:∀{j k:Nat} {b:Bool} {v:V},cap[j]? = some (k,b)->S1[k]? = some (some v)->σ[k]? = some (some v):=λ{j k b v} hj hv=>by
  obtain ⟨x,_,hx,_⟩:=S.caps j k (by rw [aDF,hj];rfl);have hk:k<σ.length:=by rw [hl];exact (aA7.mp hx).1
  obtain ⟨τ,rfl⟩:=hS1';rw [aG6 hk] at hv;exact hv
 have atC:∀{j k:Nat} {b:Bool} {v:V},cap[j]? = some (k,b)->S1[k]? = some (some v)->(dO t (cap.map (·.1)) σ)[t+j]? = some (some v):=λ{j k b v} hj hv=>by rw [m6 hj,atσ hj hv];rfl
 have backC:∀{j k:Nat} {b:Bool} {v:V},cap[j]? = some (k,b)->(dO t (cap.map (·.1)) σ)[t+j]? = some (some v)->S1[k]? = some (some v):=λ{j k b v} hj hv=>by
  rw [m6 hj] at hv;have:σ[k]? = some (some v):=by
   cases z:σ[k]? with
   | none=>rw [z] at hv;cases hv
   | some y=>rw [z] at hv;simpa using hv
  exact dF hS1' this
 obtain ⟨bx,hbx⟩:∃bx:Option aVA,∀a:aVA,bx=some a↔∃(j k:Nat) (kk:Bool) (xs:List T),cap[j]? = some (k,true)/\E1[k]? = some (some (.o kk xs))/\S1[k]? = some (some (.ref a)):=by
  by_cases hex:∃(a:aVA) (j k:Nat) (kk:Bool) (xs:List T),cap[j]? = some (k,true)/\E1[k]? = some (some (.o kk xs))/\S1[k]? = some (some (.ref a))
  ·obtain ⟨a,j,k,kk,xs,h1,h2,h3⟩:=hex;refine ⟨some a,λa'=>⟨λz=>(by cases z;exact ⟨j,k,kk,xs,h1,h2,h3⟩),λ⟨j',k',kk',xs',p1,p2,p3⟩=>?_⟩⟩;have e1:=bR ho h1;have e2:=bR ho p1;rw [e1] at e2;cases e2;rw [h3] at p3;cases p3;rfl
  ·exact ⟨none,λa=>⟨λz=>(by cases z),λz=>absurd ⟨a,z⟩ hex⟩⟩
 have bxOw:∀a,bx=some a->Ow B S1 E1 a:=λa z=>by
  obtain ⟨j,k,kk,xs,_,h2,h3⟩:=(hbx a).mp z;exact .inr ⟨k,kk,xs,h2,h3⟩
 -- an own list of the block is the box
 have capO:∀{i:Nat} {k:Bool} {xs:List T},(gQ t cap E1)[i]? = some (some (.o k xs))->∃j m kk,i=t+j/\cap[j]? = some (m,true)/\E1[m]? = some (some (.o kk xs))/\k=true:=λ{i k xs} h=>by
  obtain ⟨j,m,c,e1,e2,e3⟩:=mP h;refine ⟨j,m,?_⟩;cases qE:E1[m]? with
  | none=>rw [qE] at e3;cases e3
  | some u=>
   cases u with
   | none=>rw [qE] at e3;cases e3
   | some u=>
    cases u with
    | p _=>rw [qE] at e3;cases e3
    | o kk ys=>
     rw [qE] at e3;cases c
     ·simp [rR] at e3
     ·simp [rR] at e3;obtain ⟨e4,e5⟩:=e3;exact ⟨kk,e1,e2,by rw [e5],e4⟩
 have owIn:∀b,Ow (λa=>bx=some a) (dO t (cap.map (·.1)) σ) (gQ t cap E1) b->bx=some b:=λb z=>by
  rcases z with z | ⟨i,k,xs,h1,h2⟩
  ·exact z
  obtain ⟨j,m,kk,e1,e2,e3,_⟩:=capO h1;subst e1;exact (hbx b).mpr ⟨j,m,kk,xs,e2,e3,backC e2 h2⟩
 have kl:Kp (Ow B S1 E1) (Ow (λa=>bx=some a) (dO t (cap.map (·.1)) σ) (gQ t cap E1)) H1 H1:=Kp.less λb z=>bxOw b (owIn b z);have reIn:RE K (λa=>bx=some a) H1 (dO t (cap.map (·.1)) σ) (gQ t cap E1):=by
  refine ⟨by simp [dO,gQ],λi u h=>?_,λi k xs h=>?_,λi j k l xs ys a h1 h2 h3 h4=>?_,λa z=>re1.ow (bxOw a z)⟩
  ·obtain ⟨j,m,c,e1,e2,e3⟩:=mP h;subst e1;cases qE:E1[m]? with
   | none=>rw [qE] at e3;cases e3
   | some w=>
    cases w with
    | none=>rw [qE] at e3;cases e3
    | some w=>
     cases w with
     | p w=>
      rw [qE] at e3;cases e3;obtain ⟨v,h1,h2⟩:=re1.pure m _ qE;exact ⟨v,atC e2 h1,h2.step kl⟩
     | o kk ys=>
      rw [qE] at e3;cases c
      ·simp [rR] at e3;subst e3;obtain ⟨a,vs,h1,h2,h3,h4⟩:=re1.own m kk ys qE;refine ⟨_,atC e2 h1,a,vs,rfl,.inl ⟨λz=>?_,.inl h2⟩,h3.step kl⟩;obtain ⟨j',k',kk',xs',p1,p2,p3⟩:=(hbx a).mp (owIn a z);have e4:=re1.inj m k' kk kk' ys xs' a qE p2 h1 p3;subst e4;have lt1:j<(cap.map (·.1)).length:=by rw [aBC];exact (aA7.mp e2).1
       have lt2:j'<(cap.map (·.1)).length:=by rw [aBC];exact (aA7.mp p1).1
       have:j=j':=(aUP lt1 hnd).mp (by rw [aDF,aDF,e2,p1];rfl);subst this;rw [e2] at p1;cases p1
      ·simp [rR] at e3
  ·obtain ⟨j,m,kk,e1,e2,e3,e4⟩:=capO h;subst e1;subst e4;obtain ⟨a,vs,h1,h2,h3,h4⟩:=re1.own m kk _ e3;exact ⟨a,vs,atC e2 h1,h2,h3.step kl,⟨λ_=>(hbx a).mpr ⟨j,m,kk,_,e2,e3,h1⟩,λ_=>rfl⟩⟩
  ·obtain ⟨j1,m1,k1,e1,e2,_,_⟩:=capO h1;obtain ⟨j2,m2,k2,e3,e4,_,_⟩:=capO h2;have z1:=bR ho e2;have z2:=bR ho e4;rw [z1] at z2;cases z2;rw [e1,e3]
 -- the accumulator gets a place
 obtain ⟨gD,reD⟩:=reIn.lst (ts:=[]) (vs:=[]) hD rfl;have gd0:gd (upd H1 D (.lst [])) (Ow (λa=>bx=some a) (dO t (cap.map (·.1)) σ++[some (.ref D)]) (gQ t cap E1++[some (.o false [])])):=by
  refine ok.keep _ _ _ _ gD.kp (hgd _ (λb z=>bxOw b (owIn b z)) λj hj a ha z=>?_);obtain ⟨j',k',kk',xs',p1,p2,p3⟩:=(hbx a).mp (owIn a z);obtain ⟨kj,xj,qj⟩:=husO j hj;have ej:=re1.inj j k' kj kk' xj xs' a qj p2 ha p3;subst ej;have:=aN7.mp hus (j,true) (aFS p1);simp [hj] at this
 have hn:(dO t (cap.map (·.1)) σ).length=t+cap.length:=by simp [dO]
 have hnE:(gQ t cap E1++[some (U.o false [])]).length=t+cap.length+1:=by simp [gQ];omega
 -- the turns
 refine ⟨λi m σ' H'=>m=items.length-i/\i<=items.length/\∃E',gZ g Fe (items.drop i) E' (λEin=>match Ein[t+cap.length]? with
   | some (some (.o false zs))=>iR zs=true/\o1 (oN t cap Ein E1) λE2=>Q' (.s E2.length) (E2++[some (.o false zs)])
   | _=>False)/\σ'.length=t+cap.length/\E'.length=t+cap.length+1/\RE K (λa=>bx=some a) H' (σ'++[some (.ref D)]) E'/\
   Gs (λa=>bx=some a) (upd H1 D (.lst [])) (dO t (cap.map (·.1)) σ++[some (.ref D)]) (gQ t cap E1++[some (.o false [])]) H' (σ'++[some (.ref D)]) E'/\gd H' (Ow (λa=>bx=some a) (σ'++[some (.ref D)]) E')/\oQ d' σ' H',
  ⟨_,rfl,aQ5 _,_,q,hn,hnE,reD,Kp.refl _ _,gd0,(hdd _ (dt.kp re g1.kp)).kp reIn gD.kp⟩,?_⟩
 rintro i m σ2 H2 ⟨rfl,hi',E3,q3,hl3,hE3,re3,g3,gd3,dt3⟩;rcases aRB i items.length with hlt | hge
 ·have hd:items.drop i=items[i]::items.drop (i+1):=aQ3 hlt;rw [hd] at q3;refine .inr ⟨ok.go i H2 _ gd3 hlt,λx H4 y=>?_⟩;obtain ⟨k4,s4,rp⟩:=ok.yld i H2 _ x H4 _ gd3 (aAX hlt) (λa z=>by obtain ⟨vs,e⟩:=re3.ow z;rw [e];intro z;cases z) y;have re4:=re3.kept s4;have gd4:=ok.keep _ _ _ _ k4 gd3;refine ⟨dt3.same s4,_,[some (.ref D)],E3,_,_,re4,rp,q3,λσ5 H5 E5 q5 g5 re5 hl5 dt5=>?_⟩;have hE5:E5.length=t+cap.length+1:=by rw [<-re5.len];simp [hl5,hl3]
  refine ⟨dt5,_,σ5++[some (.ref D)],E5,_,⟨_,rfl⟩,re5,q5,λr E6 v H6 S6 q6 g6 re6 rr6=>?_⟩;cases r with
  | s _=>exact q6.elim
  | p u=>
   simp only at q6;have hlast:E3.length-1=t+cap.length:=by omega
   rw [hlast] at q6;split at q6
   ·rename_i acc hacc;obtain ⟨hlen,q6⟩:=q6;obtain ⟨a6,ws,p1,p2,p3,p4⟩:=re6.own _ _ _ hacc;have hS6:S6[t+cap.length]? = some (some (.ref D)):=dF g6.pre (by rw [aLZ (by omega)];simp [hl5,hl3]);rw [hS6] at p1;cases p1;obtain ⟨g7,re7⟩:=re6.put (ys:=acc++[u]) (ws:=ws++[v]) hacc hS6 (p3.append ⟨v,[],rfl,rr6,rfl⟩);obtain ⟨re8,ow8⟩:=re7.cut (E:=E5) (σ:=σ5++[some (.ref D)]) (g6.trans g7).pre re5.len;have eE:E5.length=E3.length:=by omega
    rw [eE] at re8 ow8;have gg:Gs (λa=>bx=some a) H4 (σ2++[some (.ref D)]) E3 (upd H6 D (.lst (ws++[v]))) (σ5++[some (.ref D)]) ((E6.set (t+cap.length) (some (.o false (acc++[u])))).take E3.length):=(g5.trans (g6.trans g7).kp).trans (Kp.less ow8);refine ⟨ws,p2,by rw [p3.length];exact bQ (aP1 hlen),items.length-(i+1),by omega,rfl,hlt,_,q6,by omega,?_,re8,(g3.trans k4).trans gg,ok.keep _ _ _ _ gg gd4,(dt5.kp re5 g6.kp).kp re6 g7.kp⟩;rw [aMI,aT8];have:E5.length<=E6.length:=by
     obtain ⟨τ6,e6⟩:=g6.pre;rw [<-re5.len,<-re6.len,e6];simp
    omega
   ·exact q6.elim
 ·have ei:i=items.length:=by omega
  subst ei;rw [aS0] at q3;refine .inl ⟨ok.stop H2 _ gd3,?_⟩;have q3':(match E3[t+cap.length]? with
   | some (some (.o false zs))=>iR zs=true/\o1 (oN t cap E3 E1) λE2=>Q' (.s E2.length) (E2++[some (.o false zs)])
   | _=>False):=q3
  split at q3'
  ·rename_i zs hzs;obtain ⟨hnl,q3'⟩:=q3';obtain ⟨E2,e2,q3'⟩:=q3'.ex;obtain ⟨aD,ws,p1,p2,p3,p4⟩:=re3.own _ _ _ hzs;have hSD:(σ2++[some (V.ref D)])[t+cap.length]? = some (some (.ref D)):=by rw [aLZ (by omega)];simp [hl3]
   rw [hSD] at p1;cases p1
   -- what is kept of the heap around
   have ow0:∀b,Ow (λa=>bx=some a) (dO t (cap.map (·.1)) σ++[some (.ref D)]) (gQ t cap E1++[some (.o false [])]) b->bx=some b\/b=D:=λb z=>by
    rcases gD.kp.new b z with z | z
    ·exact .inl (owIn b z)
    ·rcases reD.ow (by assumption) with ⟨us',hu⟩
     by_cases c:b=D
     ·exact .inr c
     ·rw [aR c,z] at hu;cases hu
   have kept:∀b o,H1 b=some o->bx≠some b->H2 b=some o:=λb o e n=>by
    refine g3.keep b o (by rw [aR (aY e hD)];exact e) λz=>?_;rcases ow0 b z with z | z
    ·exact n z
    ·exact aY e hD z
   have hk:∀b o,H1 b=some o->¬Ow B S1 E1 b->H2 b=some o:=λb o e n=>kept b o e λz=>n (bxOw b z);have nD:H1 D=none:=hD;have lk1:=lk.step g1
   -- the names around
   have fin:∀{E2:En},RE K B H2 S1 E2->(∀b,Ow B S1 E2 b->Ow B S1 E1 b)->
     (∀(i:Nat) (k:Bool) (xs:List T),E2[i]? = some (some (.o k xs))->(E1[i]? = some (some (.o k xs))/\∀a,S1[i]? = some (some (.ref a))->H2 a=H1 a)\/∀a ws,S1[i]? = some (some (.ref a))->H2 a=some (.lst ws)->cG K H2 (cL H2) xs ws)->
     (∀(i:Nat) (u:T),E2[i]? = some (some (.p u))->E1[i]? = some (some (.p u)))->Q' (.s E2.length) (E2++[some (.o false zs)])->Q (.ref D) H2:=λ{E2} re' hw hE hP q=>by
    refine oY re1 re' hk hw hE hP (r:=.l zs) ⟨D,ws,rfl,hD,p2,cG.noL (λa z=>?_) hnl p3⟩ q lk1;rcases z with ⟨us',z⟩ | z
    ·by_cases c:bx=some a
     ·exact re3.ow (.inl c)
     ·exact ⟨us',kept a _ z c⟩
    ·exact ⟨ws,by rw [z];exact p2⟩
   unfold oN at e2;cases qb:kX cap with
   | none=>
    rw [qb] at e2;cases e2;have nb:∀b,bx≠some b:=λb z=>by
     obtain ⟨j,k,kk,xs,h1,_⟩:=(hbx b).mp z;rw [bR ho h1] at qb;cases qb
    have same:∀b o,H1 b=some o->H2 b=some o:=λb o e=>kept b o e (nb b);exact fin (re1.kept same) (λb z=>z) (λi k xs h=>.inl ⟨h,λa ha=>by
     obtain ⟨a',us',h1,h2,_⟩:=re1.own i k xs h;rw [ha] at h1;cases h1;rw [h2];exact same _ _ h2⟩) (λi u h=>h) q3'
   | some jk=>
    obtain ⟨j,k⟩:=jk;rw [qb] at e2;have hj:=lL qb;simp only at e2;split at e2
    ·rename_i kb xs0 ys hE1 hEi;split at e2
     ·cases e2;rename_i hny;obtain ⟨a0,us0,h1,h2,h3,h4⟩:=re1.own k kb xs0 hE1;have hbx0:bx=some a0:=(hbx a0).mpr ⟨j,k,kb,xs0,hj,hE1,h1⟩;obtain ⟨a',us1,r1,r2,r3,r4⟩:=re3.own _ true ys hEi;have:bx=some a':=r4.mp rfl;rw [hbx0] at this;cases this;have ow1:Ow B S1 E1 a0:=.inr ⟨k,kb,xs0,hE1,h1⟩;have lts:∀b,Ow B S1 E1 b->cL H2 b:=λb z=>by
       by_cases c:bx=some b
       ·rw [hbx0] at c;cases c;exact ⟨us1,r2⟩
       ·obtain ⟨us',e⟩:=re1.ow z;exact ⟨us',kept b _ e c⟩
      have cont:cG K H2 (cL H2) ys us1:=cG.noL (λ_ z=>z) hny r3;have getE:∀{i:Nat} {u:U},(E1.set k (some (.o kb ys)))[i]? = some (some u)->(i=k/\u = .o kb ys)\/(i≠k/\E1[i]? = some (some u)):=λ{i u} h=>by
       by_cases c:i=k
       ·subst c;rw [aOP (aA7.mp hE1).1] at h;cases h;exact .inl ⟨rfl,rfl⟩
       ·rw [aK0 (λz=>c z.symm)] at h;exact .inr ⟨c,h⟩
      have nk:∀{i:Nat} {l:Bool} {zs':List T} {a:aVA},i≠k->E1[i]? = some (some (.o l zs'))->S1[i]? = some (some (.ref a))->bx≠some a:=λ{i l zs' a} c z ha w=>by
       rw [hbx0] at w;cases w;exact c (re1.inj i k l kb zs' xs0 _ z hE1 ha h1)
      have owE:∀b,Ow B S1 (E1.set k (some (.o kb ys))) b->Ow B S1 E1 b:=λb z=>by
       rcases z with z | ⟨i,l,zs',z1,z2⟩
       ·exact .inl z
       rcases getE z1 with ⟨c,z⟩ | ⟨c,z⟩
       ·subst c;exact .inr ⟨_,kb,xs0,hE1,z2⟩
       ·exact .inr ⟨i,l,zs',z,z2⟩
      have kp:Kp (Ow B S1 E1) (Ow B S1 E1) H1 H2:=⟨hk,λb z=>.inl z⟩;refine fin (re1.step hk (by simp) (λi u h=>?_) (λi l zs' h=>?_) (λa z=>lts a (.inl z))) owE (λi l zs' h=>?_) (λi u h=>?_) q3'
      ·rcases getE h with ⟨_,z⟩ | ⟨_,z⟩
       ·cases z
       ·exact z
      ·rcases getE h with ⟨c,z⟩ | ⟨c,z⟩
       ·cases z;subst c;refine ⟨xs0,hE1,λa ha=>?_⟩;rw [h1] at ha;cases ha;exact ⟨us1,r2,cont.step (Kp.less lts)⟩
       ·refine ⟨zs',z,λa ha=>?_⟩;obtain ⟨a',us',p1',p2',p3',_⟩:=re1.own i l zs' z;rw [ha] at p1';cases p1';exact ⟨us',kept a _ p2' (nk c z ha),p3'.step kp⟩
      ·rcases getE h with ⟨c,z⟩ | ⟨c,z⟩
       ·cases z;subst c
        right
        intro a us2 ha hu;rw [h1] at ha;cases ha;rw [r2] at hu;cases hu;exact cont
       ·left
        refine ⟨z,λa ha=>?_⟩;obtain ⟨a',us',p1',p2',p3',_⟩:=re1.own i l zs' z;rw [ha] at p1';cases p1';rw [p2'];exact kept a _ p2' (nk c z ha)
      ·rcases getE h with ⟨_,z⟩ | ⟨_,z⟩
       ·cases z
       ·exact z
     ·cases e2
    ·rename_i tp hE1;cases e2;have nb:∀b,bx≠some b:=λb z=>by
      obtain ⟨j',k',kk,xs,h1,h2,_⟩:=(hbx b).mp z;rw [bR ho h1] at qb;cases qb;rw [hE1] at h2;cases h2
     have same:∀b o,H1 b=some o->H2 b=some o:=λb o e=>kept b o e (nb b);exact fin (re1.kept same) (λb z=>z) (λi k xs h=>.inl ⟨h,λa ha=>by
      obtain ⟨a',us',h1,h2,_⟩:=re1.own i k xs h;rw [ha] at h1;cases h1;rw [h2];exact same _ _ h2⟩) (λi u h=>h) q3'
    ·cases e2
  ·exact q3'.elim
theorem gV {target elt iter:Expr} {scope:aVV} {N':List Str} {cap:List (Nat×Bool)} {t:Nat} (hc:X.calm=true) (S:bN X N' scope t (cap.map (·.1))) (ho:jF cap=true) (hnd:(cap.map (·.1)).Nodup) (hi:QI X target iter (nF K I))
  (hg:∀C s3 H3 fp,QG (cV X N' scope C s3 H3 fp) target (mQ K g)) (he:∀C s3 H3 fp,QE (cV X N' scope C s3 H3 fp) elt (aL K Fe)) (hs:∀x,aVN iter X.env x=pure x:=by intro _;rfl) :
  QE X (.ListComp elt [⟨target,iter,[],0⟩] scope pos) (aL K (aEU t cap I g Fe)):=
 (aJO hc S hi (λC s H f=>(hg C s H f).gd) (λC s H f=>(he C s H f).ed) hs).le λσ H Q hl h=>wJ (d:=none) (d':=none) S ho hnd hl (λ_ _ _ z=>by cases z) ⟨(λ_ z=>by cases z),h⟩
end
end L2
namespace L2
open PySem PySem.Spec PyProof.Rows
section
variable {X:Cx}
theorem aIH {target elt iter:Expr} {scope:aVV} {pos pos' spos:Pos} {N':List Str} {cap:List Nat} {t ix:Nat} {xn:Str} {wi:TI} {g:TG} {te:TE} (hNn:X.N.Nodup) (hin:X.N[ix]? = some xn) (hxn:Loc X.env.scope xn) (hfn:X.fn xn=true\/X.env.scope.names.lookup xn=some .local)
  (hsw:aV3 (.ListComp elt [⟨target,iter,[],0⟩] scope pos) (some (.Name xn pos')) spos.line X.env=pure true) (hc:X.calm=true) (S:bN X N' scope t cap) (hi:PI X target iter wi)
  (hg:∀C s3 H3 fp,PG (cV X N' scope C s3 H3 fp) target g) (he:∀C s3 H3 fp,PE (cV X N' scope C s3 H3 fp) elt te) (hs:∀x,aVN iter X.env x=pure x:=by intro _;rfl) :
  PS X (.Assign [.Name xn pos'] (.ListComp elt [⟨target,iter,[],0⟩] scope pos) spos) (aEI (aBP t cap wi g te) (vP ix)):=by
 intro pins s σ H DD I h;rw [exec_Assign_Name_used _ _ _ _ hsw];refine aVB (aWB (aVB ?_));unfold evalThenUse;refine aVB ?_;obtain ⟨QQ,hQQ⟩:∃QQ:Value->Shared->Prop,QQ=λ_ s'=>∃σ' H',aT X pins σ' H' s'/\DD.nx σ' H':=⟨_,rfl⟩;refine cF (Q:=QQ) ?_ (λ_ s' h'=>aVE (aVE (by rw [hQQ] at h';exact h')));refine wpAny_comprehension_free (use:=some (aV5 (.Name xn pos') X.env)) (cl:=lW scope X.env) rfl hs (iS λy hy hf=>I.ok.has y.1 (S.free y hy hf)) S.kind S.names (cF (hi pins s σ H _ I h) λv s1 h1=>cF h1 λitv s2 h2=>?_);obtain ⟨it,fp,tn,J,H2,e,I2,T,st2,f2,h2⟩:=h2;subst e;refine aVQ (wpAny_newFunctionEnv S.cell (by intro y hy;simp at hy) (λh₁ hns₁ hsb₁=>?_) S.kind)
 dsimp only at hns₁ hsb₁ ⊢
 obtain ⟨s3,hs3⟩:∃s3:Shared,s3 = { s2 with heap:=s2.heap.push { cls:=.type "list",dict:=none,data:=.seq ([]:List Value).toArray } }:=⟨_,rfl⟩;have hD:H2 s2.heap.objs.size=none:=I2.hok.fresh (aDP _);have I3:aT X pins σ (upd H2 s2.heap.objs.size (.lst [])) s3:=by
  rw [hs3];exact I2.laid (t':=s2.toks) (λb u e=>aDA _ e) (aDP _) ⟨aQ5 _,[],0,.nil,aG4 _ rfl⟩
 have hsz3:s3.heap.objs.size=s2.heap.objs.size+1:=by rw [hs3];exact aSZ ..
 have old3:∀b o,s2.heap.get? b=some o->s3.heap.get? b=some o:=λb o e=>by rw [hs3];exact aDA _ e
 have hC:(s2.heap.push { cls:=.type "list",dict:=none,data:=.seq ([]:List Value).toArray }).objs.size=s3.heap.objs.size:=by rw [hs3]
 have f3:∀b∈fp,jP X pins (upd H2 s2.heap.objs.size (.lst [])) b:=λb hb=>by
  obtain ⟨o,ho,_⟩:=T.obj _ _ st2 b hb;refine ⟨?_,(f2 b hb).2⟩;rw [aR (aHH (aDD ho))];exact (f2 b hb).1
 have ob3:∀b∈fp,∃o,s3.heap.get? b=some o:=λb hb=>by
  obtain ⟨o,ho,_⟩:=T.obj _ _ st2 b hb;exact ⟨o,old3 b o ho⟩
 have k1:∀b o,s3.heap.get? b=some o->h₁.get? b=some o:=λb o e=>by
  refine hsb₁.extBut b o ?_ ?_
  ·rw [hC];exact aHH (aDD e)
  ·rw [hs3] at e;exact aDA _ e
 have hns:h₁.Ns s3.heap.objs.size λ_=>none:=by
  rw [<-hC];exact hns₁
 have I4:=lV (tk:=s2.toks+([]:List (Str×Value)).length) S I3 f3 ob3 hns k1;have st4:tn 0 h₁:=T.keep _ _ _ st2 λb hb o e=>k1 b o (old3 b o e);obtain ⟨W,⟨m0,w0⟩,turn⟩:=h2 _ hD
 -- the block's context
 obtain ⟨X',hX'⟩:∃X':Cx,X'=cV X N' scope s3.heap.objs.size s3 (upd H2 s2.heap.objs.size (.lst [])) fp:=⟨_,rfl⟩;have hg':PG X' target g:=by rw [hX'];exact hg _ _ _ _
 have he':PE X' elt te:=by rw [hX'];exact he _ _ _ _
 have stat:∀{H':Hp},(∀b∈fp,H' b=none)->∀b∈fp,jP X' [] H' b:=λhn b hb=>by
  obtain ⟨o,ho⟩:=ob3 b hb;rw [hX'];refine ⟨hn b hb,aHH (aDD ho),?_,.inl hb,λx c e=>(f3 b hb).2.2.2.2.1 x c (mB e),λp hp=>absurd (show p∈([]:List (aVA×Obj)) from hp) (by simp)⟩;intro hz;rcases aB1.mp (I3.stkSub b hz) with z | z
  ·exact (f3 b hb).2.1 z
  ·exact (f3 b hb).2.2.1 z
 have hcalm:X'.calm=true:=by rw [hX'];exact hc
 have loop:aWN (aVG X.prog X.w) X.A (.compLoop (.ListComp elt [⟨target,iter,[],0⟩] scope pos) 0 (.ref it) (.ref s2.heap.objs.size) (compEnvC scope (lW scope X.env) s3.heap.objs.size X.env))
   (compPost (aVG X.prog X.w) X.A X.xe (some (aV5 (.Name xn pos') X.env)) QQ (.ref s2.heap.objs.size) s3.heap.objs.size) { s3 with heap:=h₁,toks:=s2.toks+([]:List (Str×Value)).length }:=by
  refine gL (λn s'=>∃i σ' H',aT X' [] σ' H' s'/\tn i s'.heap/\(∀b∈fp,H' b=none)/\W i n σ' H') ?_ m0 ⟨0,dO t cap σ,_,by rw [hX'];exact I4,st4,λb hb=>(f3 b hb).1,w0⟩;rintro n s5 ⟨i,σ5,H5,I5,st5,fr5,w5⟩;rcases turn i n σ5 H5 w5 with ⟨stop,qn⟩ | ⟨go,step⟩
  ·have q:=T.done X' (by rw [hX'];rfl) (by rw [hX'];rfl) (by rw [hX'];rfl) hcalm i [] s5 σ5 H5 (λ_ _=>False) I5 (stat fr5) st5 stop;have eA:X'.A=X.A:=by rw [hX'];rfl
   rw [eA] at q;refine cF q λr s6 ⟨hr,I6⟩=>?_;subst hr;obtain ⟨m,hn,_⟩:=I6.loc;have hn':s6.heap.Ns s3.heap.objs.size m:=by rw [hX'] at hn;exact hn
   have un6:Un (xP X.stack) fp (upd H2 s2.heap.objs.size (.lst [])) H5 s3.heap s6.heap:=by have:=I6.base;rw [hX'] at this;exact this
   have hok6:kT X.prog X.w H5 s6.heap:=by have:=I6.hok;rw [hX'] at this;exact this
   have free6:H5 s3.heap.objs.size=none:=by have:=I6.free;rw [hX'] at this;exact this
   have os6:s6.os=s3.os:=by have:=I6.os;rw [hX'] at this;exact this
   have I7:aT X pins σ H5 s6:=I3.call' (ch:=fp) os6 un6 hok6 I6.bare (λb hb=>⟨(f3 b hb).2.2.2.1,(f3 b hb).2.1,(f3 b hb).2.2.2.2.1,(f3 b hb).2.2.2.2.2⟩);have fC:jP X pins H5 s3.heap.objs.size:=I3.fpOk (aDP _) free6;refine wpAny_assign_Name (rT I7 hNn hin hxn (v:=.ref s2.heap.objs.size) rfl (λs8 I8 ⟨a,sa,ha⟩=>?_) hfn);have nC:s3.heap.objs.size≠a:=by
    rcases ha with rfl | ha
    ·exact fC.2.1
    ·exact λz=>fC.2.2.2.2.1 _ _ ha z.symm
   obtain ⟨mC,hnC⟩:∃m',s8.heap.Ns s3.heap.objs.size m':=⟨m,hn'.at λo e=>sa.extBut _ _ nC e⟩;refine ⟨mC,hnC,λh' hs'=>?_⟩;rw [hQQ];refine ⟨_,H5,I8.turnedL (t':=s8.toks) (ch:=[s3.heap.objs.size]) (λb u hb e=>hs'.extBut _ _ (by simpa using hb) e) (λb hb=>by rw [aPD.mp hb];exact fC),qn⟩
  ·have q:=T.item X' (by rw [hX'];rfl) (by rw [hX'];rfl) (by rw [hX'];rfl) hcalm i [] s5 σ5 H5 (λ_ _=>False) I5 (stat fr5) st5 go;have eA:X'.A=X.A:=by rw [hX'];rfl
   have eP:X'.prog=X.prog:=by rw [hX'];rfl
   have eW:X'.w=X.w:=by rw [hX'];rfl
   have eE:X'.env=compEnvC scope (lW scope X.env) s3.heap.objs.size X.env:=by rw [hX'];rfl
   have eX:X'.xe=λ_ _=>False:=by rw [hX'];rfl
   rw [eA] at q;refine cF q λr s6 ⟨u,hr,h6⟩=>?_;subst hr;refine cF h6 λ_ s7 ⟨x,H7,I7,r7,y7,st7,fr7⟩=>?_;have I7':=I7.pinned (stat fr7) (T.obj _ _ st7);have q8:=hg' _ s7 σ5 H7 x u _ I7' r7 (step x H7 y7);rw [eA,eP,eW,eE,eX] at q8;refine cF q8 λ_ s8 ⟨σ8,H8,I8,w8⟩=>?_;have q9:=he' _ s8 σ8 H8 _ I8 w8;rw [eA,eP,eW,eE,eX] at q9;refine cF q9 λy s9 ⟨v9,H9,I9,r9,ys,hD9,hlt,m',hm,w9⟩=>?_;have q10:=kK (X:=X') _ s9 σ8 H9 (.ref s2.heap.objs.size) [v9] (.ref s2.heap.objs.size) [y] (λ_ H10=>H10=upd H9 s2.heap.objs.size (.lst (ys++[v9]))) I9 rfl (.cons r9 .nil) ⟨_,ys,v9,rfl,rfl,hD9,hlt,rfl⟩;rw [eA,eP,eW,eX] at q10;refine cF q10 λ_ s10 ⟨v10,H10,I10,r10,e10⟩=>?_;subst e10;refine ⟨m',hm,i+1,σ8,_,I10.unpinned,T.keep _ _ _ st7 λb hb o e=>(I10.pin (b,o) (aG2 _ (aG2 _ (cR hb e)))).1,λb hb=>?_,w9⟩;obtain ⟨o,e,d⟩:=T.obj _ _ st7 b hb;exact (I10.pin (b,o) (aG2 _ (aG2 _ (cR hb e)))).2.1
 have es:({ s2 with heap:=h₁,toks:=s2.toks+([]:List (Str×Value)).length }:Shared) = { s3 with heap:=h₁,toks:=s2.toks+([]:List (Str×Value)).length }:=by rw [hs3]
 rw [es,hC];exact codeAny_compStart_list loop (T.self _ 0 _ _ _ st4 loop)
end
section
variable {X:Cx} {K:W.Frag} {Fe:FE} {g:FG} {I:FI}
theorem kJ {target elt iter:Expr} {scope:aVV} {pos pos' spos:Pos} {N':List Str} {cap:List (Nat×Bool)} {t i:Nat} {x:Str} (hN:X.N.Nodup) (hi:X.N[i]? = some x) (hx:Loc X.env.scope x)
  (hsw:aV3 (.ListComp elt [⟨target,iter,[],0⟩] scope pos) (some (.Name x pos')) spos.line X.env=pure true) (hc:X.calm=true) (S:bN X N' scope t (cap.map (·.1))) (ho:jF cap=true) (hnd:(cap.map (·.1)).Nodup) (hit:QI X target iter (nF K I))
  (hg:∀C s3 H3 fp,QG (cV X N' scope C s3 H3 fp) target (mQ K g)) (he:∀C s3 H3 fp,QE (cV X N' scope C s3 H3 fp) elt (aL K Fe)) (hs:∀x,aVN iter X.env x=pure x:=by intro _;rfl)
  (hf:X.fn x=true\/X.env.scope.names.lookup x=some .local:=by first | exact .inl rfl | exact .inr rfl | assumption) :
  QS X (.Assign [.Name x pos'] (.ListComp elt [⟨target,iter,[],0⟩] scope pos) spos) (g8 K (aLT i (aEU t cap I g Fe))):=
 QS.le ⟨aIH hN hi hx hf hsw hc S hit.h (λC s3 H3 fp=>(hg C s3 H3 fp).gd.h) (λC s3 H3 fp=>(he C s3 H3 fp).ed.h) hs⟩ λD σ H hl ⟨B,E,DT,re,hF,l⟩=>wJ (d:=none) (d':=none) S ho hnd hl (λ_ _ _ z=>by cases z) ⟨(λ_ z=>by cases z),B,σ,E,_,⟨[],by simp⟩,re,hF,λr E' v H' S' q g re' rr=>by
  obtain ⟨u,e1,q⟩:=q.ex;rw [<-re.len] at e1 q;obtain ⟨r1,ow⟩:=kQ (i:=i) re' g.pre rr e1;exact l.nx _ _ _ q (g.kp.trans (Kp.less ow)) r1⟩
end
end L2
namespace L2
open PySem PySem.Spec PyProof.Rows
mutual
def eH:T->T->Bool
 | .non,.non=>true
 | .bl a,.bl b=>a==b
 | .int a,.int b=>a==b
 | .bl a,.int b=>(if a then 1 else 0)==b
 | .int a,.bl b=>a==(if b then 1 else 0)
 | .str a,.str b=>a==b
 | .tup xs,.tup ys=>oP xs ys
 | .lst xs,.lst ys=>oP xs ys
 | _,_=>false
def oP:List T->List T->Bool
 | [],[]=>true
 | x::xs,y::ys=>eH x y&&oP xs ys
 | _,_=>false
end
mutual
def dT:T->Nat
 | .tup xs=>zZ xs+1
 | .lst xs=>zZ xs+1
 | _=>0
def zZ:List T->Nat
 | []=>0
 | x::xs=>aUT (dT x) (zZ xs)
end
mutual
theorem wZ:∀x:T,eH x x=true
 | .non=>rfl
 | .bl a=>by simp [eH]
 | .int a=>by simp [eH]
 | .str a=>by simp [eH]
 | .tup xs=>by rw [eH];exact nT xs
 | .lst xs=>by rw [eH];exact nT xs
theorem nT:∀xs:List T,oP xs xs=true
 | []=>rfl
 | x::xs=>by rw [oP,wZ x,nT xs];rfl
end
theorem hJ:∀xs ys:List T,oP xs ys=((aS1 (min xs.length ys.length)).all (λj=>eH (xs.getD j .non) (ys.getD j .non))&&xs.length==ys.length)
 | [],[]=>rfl
 | [],_::_=>by simp [oP]
 | _::_,[]=>by simp [oP]
 | x::xs,y::ys=>by
  rw [oP,hJ xs ys];simp only [aKX,Nat.succ_min_succ,List.range_succ_eq_map,aU6,List.all_map];simp [Function.comp_def,Bool.and_assoc]
theorem nW:∀{xs:List T} {x:T},x∈xs->dT x<=zZ xs
 | y::xs,x,h=>by
  rw [zZ];rcases aB1.mp h with rfl | h
  ·exact Nat.le_max_left _ _
  ·exact aPW (nW h) (Nat.le_max_right _ _)
mutual
def Rq (K:W.Frag) (H:Hp):T->V->Prop
 | .non,v=>v = .non
 | .bl b,v=>v = .bl b
 | .int i,v=>v = .int i
 | .str x,v=>v = .str x
 | .tup xs,v=>∃a vs,v = .ref a/\rL K H a vs/\rH K H xs vs
 | .lst xs,v=>∃a vs,v = .ref a/\iU K H a vs/\rH K H xs vs
def rH (K:W.Frag) (H:Hp):List T->List V->Prop
 | [],vs=>vs=[]
 | x::xs,vs=>∃v r,vs=v::r/\Rq K H x v/\rH K H xs r
end
section
variable {K:W.Frag} {H:Hp} {O:aVA->Prop}
mutual
theorem Rp.rq:∀{t:T} {v:V},Rp K H O t v->Rq K H t v
 | .non,_,h=>h
 | .bl _,_,h=>h
 | .int _,_,h=>h
 | .str _,_,h=>h
 | .tup xs,v,h=>by
  obtain ⟨a,vs,e,h1,h2⟩:=h;exact ⟨a,vs,e,h1.imp (λh=>.inl h.2) id,cG.rq h2⟩
 | .lst xs,v,h=>by
  obtain ⟨a,vs,e,h1,h2⟩:=h;exact ⟨a,vs,e,h1.imp And.right id,cG.rq h2⟩
theorem cG.rq:∀{xs:List T} {vs:List V},cG K H O xs vs->rH K H xs vs
 | [],_,h=>h
 | x::xs,vs,h=>by
  obtain ⟨v,r,e,h1,h2⟩:=h;exact ⟨v,r,e,Rp.rq h1,cG.rq h2⟩
end
theorem Rt.rq {t:T} {v:V} (h:Rt K H O t v):Rq K H t v:=by
 cases t with
 | tup xs=>obtain ⟨a,vs,e,h1,h2⟩:=h;exact ⟨a,vs,e,h1,h2.rq⟩
 | lst xs=>obtain ⟨a,vs,e,h1,h2⟩:=h;exact ⟨a,vs,e,h1,h2.rq⟩
 | non=>exact h
 | bl _=>exact h
 | int _=>exact h
 | str _=>exact h
theorem rH.length:∀{xs:List T} {vs:List V},rH K H xs vs->vs.length=xs.length
 | [],_,h=>by cases h;rfl
 | _::_,_,⟨v,r,e,_,h2⟩=>by rw [e,aKX,aKX,rH.length h2]
theorem rH.get:∀{xs:List T} {vs:List V} {i:Nat} {x:T},rH K H xs vs->xs[i]? = some x->∃v,vs[i]? = some v/\Rq K H x v
 | [],_,_,_,_,e=>by simp at e
 | _::_,_,0,_,⟨v,r,e,h1,_⟩,q=>by simp at q;subst q;subst e;exact ⟨v,rfl,h1⟩
 | _::_,_,i+1,x,⟨v,r,e,_,h2⟩,q=>by
  obtain ⟨w,q1,q2⟩:=rH.get (i:=i) (x:=x) h2 (by simpa using q);subst e;exact ⟨w,by simpa using q1,q2⟩
end
section
variable {X:Cx} {pins:List (aVA×Obj)} {σ:St} {H:Hp} {s:Shared}
theorem aT.nolt (I:aT X pins σ H s) {a:aVA} {vs ws:List V} (h1:iU X.K H a vs) (h2:rL X.K H a ws):False:=by
 obtain ⟨_,_,p1,_⟩:=I.list h1;obtain ⟨_,_,p2,_⟩:=I.tuple h2;exact SeqAt.ne_of_list_tuple p1.isList p2 rfl
mutual
theorem Rq.inj (I:aT X pins σ H s):∀{x y:T} {v:V},Rq X.K H x v->Rq X.K H y v->x=y
 | .non,.non,_,_,_=>rfl
 | .bl a,.bl b,_,h,k=>by cases h;cases k;rfl
 | .int a,.int b,_,h,k=>by cases h;cases k;rfl
 | .str a,.str b,_,h,k=>by cases h;cases k;rfl
 | .tup xs,.tup ys,v,⟨a,vs,e,h1,h2⟩,⟨b,ws,f,k1,k2⟩=>by
  rw [e] at f;cases f;rw [I.tuple_inj h1 k1] at h2;rw [rH.inj I h2 k2]
 | .lst xs,.lst ys,v,⟨a,vs,e,h1,h2⟩,⟨b,ws,f,k1,k2⟩=>by
  rw [e] at f;cases f;rw [I.list_inj h1 k1] at h2;rw [rH.inj I h2 k2]
 | .tup xs,.lst ys,v,⟨a,vs,e,h1,h2⟩,⟨b,ws,f,k1,k2⟩=>by rw [e] at f;cases f;exact (I.nolt k1 h1).elim
 | .lst xs,.tup ys,v,⟨a,vs,e,h1,h2⟩,⟨b,ws,f,k1,k2⟩=>by rw [e] at f;cases f;exact (I.nolt h1 k1).elim
 | .non,.bl _,_,h,k=>by cases h;cases k
 | .non,.int _,_,h,k=>by cases h;cases k
 | .non,.str _,_,h,k=>by cases h;cases k
 | .non,.tup _,_,h,⟨_,_,k,_⟩=>by cases h;cases k
 | .non,.lst _,_,h,⟨_,_,k,_⟩=>by cases h;cases k
 | .bl _,.non,_,h,k=>by cases h;cases k
 | .bl _,.int _,_,h,k=>by cases h;cases k
 | .bl _,.str _,_,h,k=>by cases h;cases k
 | .bl _,.tup _,_,h,⟨_,_,k,_⟩=>by cases h;cases k
 | .bl _,.lst _,_,h,⟨_,_,k,_⟩=>by cases h;cases k
 | .int _,.non,_,h,k=>by cases h;cases k
 | .int _,.bl _,_,h,k=>by cases h;cases k
 | .int _,.str _,_,h,k=>by cases h;cases k
 | .int _,.tup _,_,h,⟨_,_,k,_⟩=>by cases h;cases k
 | .int _,.lst _,_,h,⟨_,_,k,_⟩=>by cases h;cases k
 | .str _,.non,_,h,k=>by cases h;cases k
 | .str _,.bl _,_,h,k=>by cases h;cases k
 | .str _,.int _,_,h,k=>by cases h;cases k
 | .str _,.tup _,_,h,⟨_,_,k,_⟩=>by cases h;cases k
 | .str _,.lst _,_,h,⟨_,_,k,_⟩=>by cases h;cases k
 | .tup _,.non,_,⟨_,_,h,_⟩,k=>by cases h;cases k
 | .tup _,.bl _,_,⟨_,_,h,_⟩,k=>by cases h;cases k
 | .tup _,.int _,_,⟨_,_,h,_⟩,k=>by cases h;cases k
 | .tup _,.str _,_,⟨_,_,h,_⟩,k=>by cases h;cases k
 | .lst _,.non,_,⟨_,_,h,_⟩,k=>by cases h;cases k
 | .lst _,.bl _,_,⟨_,_,h,_⟩,k=>by cases h;cases k
 | .lst _,.int _,_,⟨_,_,h,_⟩,k=>by cases h;cases k
 | .lst _,.str _,_,⟨_,_,h,_⟩,k=>by cases h;cases k
theorem rH.inj (I:aT X pins σ H s):∀{xs ys:List T} {vs:List V},rH X.K H xs vs->rH X.K H ys vs->xs=ys
 | [],[],_,_,_=>rfl
 | [],_::_,_,h,⟨_,_,k,_⟩=>by cases h;cases k
 | _::_,[],_,⟨_,_,h,_⟩,k=>by cases k;cases h
 | x::xs,y::ys,_,⟨v,r,e,h1,h2⟩,⟨w,r',f,k1,k2⟩=>by
  rw [e] at f;cases f;rw [Rq.inj I h1 k1,rH.inj I h2 k2]
end
theorem zD {A:Around} {u v:Value} {k:Bool} (h:SeqAt.RcAt A s u v k) (hk:u=v->k=true) (hf:∀b t,u≠.float b t):SeqAt.EqAt A s u v k:=λprog w E Q hq=>by
 unfold eqBool;refine aWL ?_;refine wpAny_ite_split (λhab=>?_) (λ_=>?_)
 ·rw [hk (eq_of_beq hab)] at hq;exact aVB (aWP (aVE hq))
 ·cases u with
  | float b t=>exact absurd rfl (hf b t)
  | _=>exact aVB (h prog w E _ (aVW hq))
theorem z7 {x y:V} {u:Value} (h:bG x u) (k:bG y u):x=y:=h.inj k
theorem mY (A:Around) {xs ys:List T} {vs ws:List V} {its js:List Value} (rx:bF vs its) (ry:bF ws js) (hx:rH X.K H xs vs) (hy:rH X.K H ys ws)
  (ih:∀(j:Nat) (x y:T) (v w:V) (u u':Value),xs[j]? = some x->ys[j]? = some y->Rq X.K H x v->Rq X.K H y w->bG v u->bG w u'->SeqAt.EqAt A s u u' (eH x y)) :
  ∀j (h1:j<its.toArray.size) (h2:j<js.toArray.size),SeqAt.EqAt A s its.toArray[j] js.toArray[j] (eH (xs.getD j .non) (ys.getD j .non)):=λj h1 h2=>by
 have l1:=rx.length;have l2:=ry.length;have l3:=hx.length;have l4:=hy.length;have h1':j<its.length:=by simpa using h1
 have h2':j<js.length:=by simpa using h2
 have e1:xs[j]? = some xs[j]:=aAX (by omega);have e2:ys[j]? = some ys[j]:=aAX (by omega);obtain ⟨v,q1,q2⟩:=hx.get e1;obtain ⟨w,q3,q4⟩:=hy.get e2;obtain ⟨u1,z1,r1⟩:=rx.get q1;obtain ⟨v1,z2,r2⟩:=ry.get q3;have y1:its.toArray[j]=u1:=by
  rw [aAX h1'] at z1
  simpa using Option.some.inj z1
 have y2:js.toArray[j]=v1:=by
  rw [aAX h2'] at z2
  simpa using Option.some.inj z2
 rw [y1,y2];have g1:xs.getD j .non=xs[j]:=by simp [List.getD,e1]
 have g2:ys.getD j .non=ys[j]:=by simp [List.getD,e2]
 rw [g1,g2];exact ih j _ _ v w u1 v1 e1 e2 q2 q4 r1 r2
theorem xF (I:aT X pins σ H s) {A:Around} (hu:A.units<aWG):∀{x y:T} {v w:V} {u u':Value},(∀xs ys,¬(x = .tup xs/\y = .tup ys))->(∀xs ys,¬(x = .lst xs/\y = .lst ys))->Rq X.K H x v->Rq X.K H y w->bG v u->bG w u'->SeqAt.RcAt A s u u' ((eH x y)):=by
 intro x y v w u u' nt nl hx hy rx ry;cases x with
 | non=>
  cases y with
  | non=>
   cases hx;cases rx;cases hy;cases ry;exact SeqAt.RcAt.none_none
  | bl ay=>
   cases hx;cases rx;cases hy;cases ry;exact SeqAt.RcAt.none_bool _
  | int ay=>
   cases hx;cases rx;cases hy;obtain ⟨t_hy,rfl⟩:=ry;exact SeqAt.RcAt.none_int _ t_hy
  | str ay=>
   cases hx;cases rx;cases hy;obtain ⟨t_hy,rfl⟩:=ry;exact SeqAt.RcAt.none_str _ t_hy
  | tup ay=>
   cases hx;cases rx;obtain ⟨a_hy,vs_hy,e_hy,q_hy,_⟩:=hy;subst e_hy;cases ry;obtain ⟨its_hy,_,p_hy,_⟩:=I.tuple q_hy;exact SeqAt.RcAt.none_tuple p_hy hu
  | lst ay=>
   cases hx;cases rx;obtain ⟨a_hy,vs_hy,e_hy,q_hy,_⟩:=hy;subst e_hy;cases ry;obtain ⟨its_hy,_,p_hy,_⟩:=I.list q_hy;exact SeqAt.RcAt.none_list p_hy.isList hu
 | bl ax=>
  cases y with
  | non=>
   cases hx;cases rx;cases hy;cases ry;exact SeqAt.RcAt.bool_none _
  | bl ay=>
   cases hx;cases rx;cases hy;cases ry;exact SeqAt.RcAt.bool_bool _ _
  | int ay=>
   cases hx;cases rx;cases hy;obtain ⟨t_hy,rfl⟩:=ry;exact SeqAt.RcAt.bool_int _ _ t_hy
  | str ay=>
   cases hx;cases rx;cases hy;obtain ⟨t_hy,rfl⟩:=ry;exact SeqAt.RcAt.bool_str _ _ t_hy
  | tup ay=>
   cases hx;cases rx;obtain ⟨a_hy,vs_hy,e_hy,q_hy,_⟩:=hy;subst e_hy;cases ry;obtain ⟨its_hy,_,p_hy,_⟩:=I.tuple q_hy;exact SeqAt.RcAt.bool_tuple _ p_hy hu
  | lst ay=>
   cases hx;cases rx;obtain ⟨a_hy,vs_hy,e_hy,q_hy,_⟩:=hy;subst e_hy;cases ry;obtain ⟨its_hy,_,p_hy,_⟩:=I.list q_hy;exact SeqAt.RcAt.bool_list _ p_hy.isList hu
 | int ax=>
  cases y with
  | non=>
   cases hx;obtain ⟨t_hx,rfl⟩:=rx;cases hy;cases ry;exact SeqAt.RcAt.int_none _ t_hx
  | bl ay=>
   cases hx;obtain ⟨t_hx,rfl⟩:=rx;cases hy;cases ry;exact SeqAt.RcAt.int_bool _ t_hx _
  | int ay=>
   cases hx;obtain ⟨t_hx,rfl⟩:=rx;cases hy;obtain ⟨t_hy,rfl⟩:=ry;exact SeqAt.RcAt.int_int _ t_hx _ t_hy
  | str ay=>
   cases hx;obtain ⟨t_hx,rfl⟩:=rx;cases hy;obtain ⟨t_hy,rfl⟩:=ry;exact SeqAt.RcAt.int_str _ t_hx _ t_hy
  | tup ay=>
   cases hx;obtain ⟨t_hx,rfl⟩:=rx;obtain ⟨a_hy,vs_hy,e_hy,q_hy,_⟩:=hy;subst e_hy;cases ry;obtain ⟨its_hy,_,p_hy,_⟩:=I.tuple q_hy;exact SeqAt.RcAt.int_tuple _ t_hx p_hy hu
  | lst ay=>
   cases hx;obtain ⟨t_hx,rfl⟩:=rx;obtain ⟨a_hy,vs_hy,e_hy,q_hy,_⟩:=hy;subst e_hy;cases ry;obtain ⟨its_hy,_,p_hy,_⟩:=I.list q_hy;exact SeqAt.RcAt.int_list _ t_hx p_hy.isList hu
 | str ax=>
  cases y with
  | non=>
   cases hx;obtain ⟨t_hx,rfl⟩:=rx;cases hy;cases ry;exact SeqAt.RcAt.str_none _ t_hx
  | bl ay=>
   cases hx;obtain ⟨t_hx,rfl⟩:=rx;cases hy;cases ry;exact SeqAt.RcAt.str_bool _ t_hx _
  | int ay=>
   cases hx;obtain ⟨t_hx,rfl⟩:=rx;cases hy;obtain ⟨t_hy,rfl⟩:=ry;exact SeqAt.RcAt.str_int _ t_hx _ t_hy
  | str ay=>
   cases hx;obtain ⟨t_hx,rfl⟩:=rx;cases hy;obtain ⟨t_hy,rfl⟩:=ry;exact SeqAt.RcAt.str_str _ t_hx _ t_hy
  | tup ay=>
   cases hx;obtain ⟨t_hx,rfl⟩:=rx;obtain ⟨a_hy,vs_hy,e_hy,q_hy,_⟩:=hy;subst e_hy;cases ry;obtain ⟨its_hy,_,p_hy,_⟩:=I.tuple q_hy;exact SeqAt.RcAt.str_tuple _ t_hx p_hy hu
  | lst ay=>
   cases hx;obtain ⟨t_hx,rfl⟩:=rx;obtain ⟨a_hy,vs_hy,e_hy,q_hy,_⟩:=hy;subst e_hy;cases ry;obtain ⟨its_hy,_,p_hy,_⟩:=I.list q_hy;exact SeqAt.RcAt.str_list _ t_hx p_hy.isList hu
 | tup ax=>
  cases y with
  | non=>
   obtain ⟨a_hx,vs_hx,e_hx,q_hx,_⟩:=hx;subst e_hx;cases rx;obtain ⟨its_hx,_,p_hx,_⟩:=I.tuple q_hx;cases hy;cases ry;exact SeqAt.RcAt.tuple_none p_hx hu
  | bl ay=>
   obtain ⟨a_hx,vs_hx,e_hx,q_hx,_⟩:=hx;subst e_hx;cases rx;obtain ⟨its_hx,_,p_hx,_⟩:=I.tuple q_hx;cases hy;cases ry;exact SeqAt.RcAt.tuple_bool _ p_hx hu
  | int ay=>
   obtain ⟨a_hx,vs_hx,e_hx,q_hx,_⟩:=hx;subst e_hx;cases rx;obtain ⟨its_hx,_,p_hx,_⟩:=I.tuple q_hx;cases hy;obtain ⟨t_hy,rfl⟩:=ry;exact SeqAt.RcAt.tuple_int _ t_hy p_hx hu
  | str ay=>
   obtain ⟨a_hx,vs_hx,e_hx,q_hx,_⟩:=hx;subst e_hx;cases rx;obtain ⟨its_hx,_,p_hx,_⟩:=I.tuple q_hx;cases hy;obtain ⟨t_hy,rfl⟩:=ry;exact SeqAt.RcAt.tuple_str _ t_hy p_hx hu
  | tup ay=>
   exact absurd ⟨rfl,rfl⟩ (nt ax ay)
  | lst ay=>
   obtain ⟨a_hx,vs_hx,e_hx,q_hx,_⟩:=hx;subst e_hx;cases rx;obtain ⟨its_hx,_,p_hx,_⟩:=I.tuple q_hx;obtain ⟨a_hy,vs_hy,e_hy,q_hy,_⟩:=hy;subst e_hy;cases ry;obtain ⟨its_hy,_,p_hy,_⟩:=I.list q_hy;exact SeqAt.RcAt.tuple_list p_hx p_hy.isList hu
 | lst ax=>
  cases y with
  | non=>
   obtain ⟨a_hx,vs_hx,e_hx,q_hx,_⟩:=hx;subst e_hx;cases rx;obtain ⟨its_hx,_,p_hx,_⟩:=I.list q_hx;cases hy;cases ry;exact SeqAt.RcAt.list_none p_hx.isList hu
  | bl ay=>
   obtain ⟨a_hx,vs_hx,e_hx,q_hx,_⟩:=hx;subst e_hx;cases rx;obtain ⟨its_hx,_,p_hx,_⟩:=I.list q_hx;cases hy;cases ry;exact SeqAt.RcAt.list_bool _ p_hx.isList hu
  | int ay=>
   obtain ⟨a_hx,vs_hx,e_hx,q_hx,_⟩:=hx;subst e_hx;cases rx;obtain ⟨its_hx,_,p_hx,_⟩:=I.list q_hx;cases hy;obtain ⟨t_hy,rfl⟩:=ry;exact SeqAt.RcAt.list_int _ t_hy p_hx.isList hu
  | str ay=>
   obtain ⟨a_hx,vs_hx,e_hx,q_hx,_⟩:=hx;subst e_hx;cases rx;obtain ⟨its_hx,_,p_hx,_⟩:=I.list q_hx;cases hy;obtain ⟨t_hy,rfl⟩:=ry;exact SeqAt.RcAt.list_str _ t_hy p_hx.isList hu
  | tup ay=>
   obtain ⟨a_hx,vs_hx,e_hx,q_hx,_⟩:=hx;subst e_hx;cases rx;obtain ⟨its_hx,_,p_hx,_⟩:=I.list q_hx;obtain ⟨a_hy,vs_hy,e_hy,q_hy,_⟩:=hy;subst e_hy;cases ry;obtain ⟨its_hy,_,p_hy,_⟩:=I.tuple q_hy;exact SeqAt.RcAt.list_tuple p_hx.isList p_hy hu
  | lst ay=>
   exact absurd ⟨rfl,rfl⟩ (nl ax ay)
theorem aCK (I:aT X pins σ H s) {A:Around} (hu:A.units<aWG):∀{x y:T} {v w:V} {u u':Value},(∀xs ys,¬(x = .tup xs/\y = .tup ys))->(∀xs ys,¬(x = .lst xs/\y = .lst ys))->Rq X.K H x v->Rq X.K H y w->bG v u->bG w u'->SeqAt.RcNeAt A s u u' (!(eH x y)):=by
 intro x y v w u u' nt nl hx hy rx ry;cases x with
 | non=>
  cases y with
  | non=>
   cases hx;cases rx;cases hy;cases ry;exact SeqAt.RcNeAt.none_none
  | bl ay=>
   cases hx;cases rx;cases hy;cases ry;exact SeqAt.RcNeAt.none_bool _
  | int ay=>
   cases hx;cases rx;cases hy;obtain ⟨t_hy,rfl⟩:=ry;exact SeqAt.RcNeAt.none_int _ t_hy
  | str ay=>
   cases hx;cases rx;cases hy;obtain ⟨t_hy,rfl⟩:=ry;exact SeqAt.RcNeAt.none_str _ t_hy
  | tup ay=>
   cases hx;cases rx;obtain ⟨a_hy,vs_hy,e_hy,q_hy,_⟩:=hy;subst e_hy;cases ry;obtain ⟨its_hy,_,p_hy,_⟩:=I.tuple q_hy;exact SeqAt.RcNeAt.none_tuple p_hy hu
  | lst ay=>
   cases hx;cases rx;obtain ⟨a_hy,vs_hy,e_hy,q_hy,_⟩:=hy;subst e_hy;cases ry;obtain ⟨its_hy,_,p_hy,_⟩:=I.list q_hy;exact SeqAt.RcNeAt.none_list p_hy.isList hu
 | bl ax=>
  cases y with
  | non=>
   cases hx;cases rx;cases hy;cases ry;exact SeqAt.RcNeAt.bool_none _
  | bl ay=>
   cases hx;cases rx;cases hy;cases ry;exact SeqAt.RcNeAt.bool_bool _ _
  | int ay=>
   cases hx;cases rx;cases hy;obtain ⟨t_hy,rfl⟩:=ry;exact SeqAt.RcNeAt.bool_int _ _ t_hy
  | str ay=>
   cases hx;cases rx;cases hy;obtain ⟨t_hy,rfl⟩:=ry;exact SeqAt.RcNeAt.bool_str _ _ t_hy
  | tup ay=>
   cases hx;cases rx;obtain ⟨a_hy,vs_hy,e_hy,q_hy,_⟩:=hy;subst e_hy;cases ry;obtain ⟨its_hy,_,p_hy,_⟩:=I.tuple q_hy;exact SeqAt.RcNeAt.bool_tuple _ p_hy hu
  | lst ay=>
   cases hx;cases rx;obtain ⟨a_hy,vs_hy,e_hy,q_hy,_⟩:=hy;subst e_hy;cases ry;obtain ⟨its_hy,_,p_hy,_⟩:=I.list q_hy;exact SeqAt.RcNeAt.bool_list _ p_hy.isList hu
 | int ax=>
  cases y with
  | non=>
   cases hx;obtain ⟨t_hx,rfl⟩:=rx;cases hy;cases ry;exact SeqAt.RcNeAt.int_none _ t_hx
  | bl ay=>
   cases hx;obtain ⟨t_hx,rfl⟩:=rx;cases hy;cases ry;exact SeqAt.RcNeAt.int_bool _ t_hx _
  | int ay=>
   cases hx;obtain ⟨t_hx,rfl⟩:=rx;cases hy;obtain ⟨t_hy,rfl⟩:=ry;exact SeqAt.RcNeAt.int_int _ t_hx _ t_hy
  | str ay=>
   cases hx;obtain ⟨t_hx,rfl⟩:=rx;cases hy;obtain ⟨t_hy,rfl⟩:=ry;exact SeqAt.RcNeAt.int_str _ t_hx _ t_hy
  | tup ay=>
   cases hx;obtain ⟨t_hx,rfl⟩:=rx;obtain ⟨a_hy,vs_hy,e_hy,q_hy,_⟩:=hy;subst e_hy;cases ry;obtain ⟨its_hy,_,p_hy,_⟩:=I.tuple q_hy;exact SeqAt.RcNeAt.int_tuple _ t_hx p_hy hu
  | lst ay=>
   cases hx;obtain ⟨t_hx,rfl⟩:=rx;obtain ⟨a_hy,vs_hy,e_hy,q_hy,_⟩:=hy;subst e_hy;cases ry;obtain ⟨its_hy,_,p_hy,_⟩:=I.list q_hy;exact SeqAt.RcNeAt.int_list _ t_hx p_hy.isList hu
 | str ax=>
  cases y with
  | non=>
   cases hx;obtain ⟨t_hx,rfl⟩:=rx;cases hy;cases ry;exact SeqAt.RcNeAt.str_none _ t_hx
  | bl ay=>
   cases hx;obtain ⟨t_hx,rfl⟩:=rx;cases hy;cases ry;exact SeqAt.RcNeAt.str_bool _ t_hx _
  | int ay=>
   cases hx;obtain ⟨t_hx,rfl⟩:=rx;cases hy;obtain ⟨t_hy,rfl⟩:=ry;exact SeqAt.RcNeAt.str_int _ t_hx _ t_hy
  | str ay=>
   cases hx;obtain ⟨t_hx,rfl⟩:=rx;cases hy;obtain ⟨t_hy,rfl⟩:=ry;exact SeqAt.RcNeAt.str_str _ t_hx _ t_hy
  | tup ay=>
   cases hx;obtain ⟨t_hx,rfl⟩:=rx;obtain ⟨a_hy,vs_hy,e_hy,q_hy,_⟩:=hy;subst e_hy;cases ry;obtain ⟨its_hy,_,p_hy,_⟩:=I.tuple q_hy;exact SeqAt.RcNeAt.str_tuple _ t_hx p_hy hu
  | lst ay=>
   cases hx;obtain ⟨t_hx,rfl⟩:=rx;obtain ⟨a_hy,vs_hy,e_hy,q_hy,_⟩:=hy;subst e_hy;cases ry;obtain ⟨its_hy,_,p_hy,_⟩:=I.list q_hy;exact SeqAt.RcNeAt.str_list _ t_hx p_hy.isList hu
 | tup ax=>
  cases y with
  | non=>
   obtain ⟨a_hx,vs_hx,e_hx,q_hx,_⟩:=hx;subst e_hx;cases rx;obtain ⟨its_hx,_,p_hx,_⟩:=I.tuple q_hx;cases hy;cases ry;exact SeqAt.RcNeAt.tuple_none p_hx hu
  | bl ay=>
   obtain ⟨a_hx,vs_hx,e_hx,q_hx,_⟩:=hx;subst e_hx;cases rx;obtain ⟨its_hx,_,p_hx,_⟩:=I.tuple q_hx;cases hy;cases ry;exact SeqAt.RcNeAt.tuple_bool _ p_hx hu
  | int ay=>
   obtain ⟨a_hx,vs_hx,e_hx,q_hx,_⟩:=hx;subst e_hx;cases rx;obtain ⟨its_hx,_,p_hx,_⟩:=I.tuple q_hx;cases hy;obtain ⟨t_hy,rfl⟩:=ry;exact SeqAt.RcNeAt.tuple_int _ t_hy p_hx hu
  | str ay=>
   obtain ⟨a_hx,vs_hx,e_hx,q_hx,_⟩:=hx;subst e_hx;cases rx;obtain ⟨its_hx,_,p_hx,_⟩:=I.tuple q_hx;cases hy;obtain ⟨t_hy,rfl⟩:=ry;exact SeqAt.RcNeAt.tuple_str _ t_hy p_hx hu
  | tup ay=>
   exact absurd ⟨rfl,rfl⟩ (nt ax ay)
  | lst ay=>
   obtain ⟨a_hx,vs_hx,e_hx,q_hx,_⟩:=hx;subst e_hx;cases rx;obtain ⟨its_hx,_,p_hx,_⟩:=I.tuple q_hx;obtain ⟨a_hy,vs_hy,e_hy,q_hy,_⟩:=hy;subst e_hy;cases ry;obtain ⟨its_hy,_,p_hy,_⟩:=I.list q_hy;exact SeqAt.RcNeAt.tuple_list p_hx p_hy.isList hu
 | lst ax=>
  cases y with
  | non=>
   obtain ⟨a_hx,vs_hx,e_hx,q_hx,_⟩:=hx;subst e_hx;cases rx;obtain ⟨its_hx,_,p_hx,_⟩:=I.list q_hx;cases hy;cases ry;exact SeqAt.RcNeAt.list_none p_hx.isList hu
  | bl ay=>
   obtain ⟨a_hx,vs_hx,e_hx,q_hx,_⟩:=hx;subst e_hx;cases rx;obtain ⟨its_hx,_,p_hx,_⟩:=I.list q_hx;cases hy;cases ry;exact SeqAt.RcNeAt.list_bool _ p_hx.isList hu
  | int ay=>
   obtain ⟨a_hx,vs_hx,e_hx,q_hx,_⟩:=hx;subst e_hx;cases rx;obtain ⟨its_hx,_,p_hx,_⟩:=I.list q_hx;cases hy;obtain ⟨t_hy,rfl⟩:=ry;exact SeqAt.RcNeAt.list_int _ t_hy p_hx.isList hu
  | str ay=>
   obtain ⟨a_hx,vs_hx,e_hx,q_hx,_⟩:=hx;subst e_hx;cases rx;obtain ⟨its_hx,_,p_hx,_⟩:=I.list q_hx;cases hy;obtain ⟨t_hy,rfl⟩:=ry;exact SeqAt.RcNeAt.list_str _ t_hy p_hx.isList hu
  | tup ay=>
   obtain ⟨a_hx,vs_hx,e_hx,q_hx,_⟩:=hx;subst e_hx;cases rx;obtain ⟨its_hx,_,p_hx,_⟩:=I.list q_hx;obtain ⟨a_hy,vs_hy,e_hy,q_hy,_⟩:=hy;subst e_hy;cases ry;obtain ⟨its_hy,_,p_hy,_⟩:=I.tuple q_hy;exact SeqAt.RcNeAt.list_tuple p_hx.isList p_hy hu
  | lst ay=>
   exact absurd ⟨rfl,rfl⟩ (nl ax ay)
theorem aFB {K:W.Frag} {x:T} {v:V} {u:Value} (h:Rq K H x v) (r:bG v u):∀b t,u≠.float b t:=λb t e=>by
 subst e;cases x with
 | tup _=>obtain ⟨_,_,e,_⟩:=h;subst e;cases r
 | lst _=>obtain ⟨_,_,e,_⟩:=h;subst e;cases r
 | non=>cases h;cases r
 | bl _=>cases h;cases r
 | int _=>cases h;obtain ⟨_,r⟩:=r;cases r
 | str _=>cases h;obtain ⟨_,r⟩:=r;cases r
theorem tT (I:aT X pins σ H s):∀(n:Nat) (A:Around) (x y:T) (v w:V) (u u':Value),dT x<=n->Rq X.K H x v->Rq X.K H y w->bG v u->bG w u'->A.units+n<aWG->SeqAt.RcAt A s u u' (eH x y)/\SeqAt.EqAt A s u u' (eH x y):=by
 have fin:∀{A:Around} {x y:T} {v w:V} {u u':Value},Rq X.K H x v->Rq X.K H y w->bG v u->bG w u'->SeqAt.RcAt A s u u' (eH x y)->SeqAt.RcAt A s u u' (eH x y)/\SeqAt.EqAt A s u u' (eH x y):=λ{A x y v w u u'} hx hy rx ry h=>⟨h,zD h (λe=>by
   subst e;rw [Rq.inj I hx (by rw [z7 rx ry];exact hy)];exact wZ y) (aFB hx rx)⟩
 intro n
 induction n with
 | zero=>
  intro A x y v w u u' hd hx hy rx ry hu;refine fin hx hy rx ry (xF I (by omega) (λxs ys z=>?_) (λxs ys z=>?_) hx hy rx ry)
  ·rw [z.1] at hd;simp [dT] at hd
  ·rw [z.1] at hd;simp [dT] at hd
 | succ n ih=>
  intro A x y v w u u' hd hx hy rx ry hu;refine fin hx hy rx ry ?_
  by_cases c1:∃xs ys,x = .tup xs/\y = .tup ys
  ·obtain ⟨xs,ys,rfl,rfl⟩:=c1;obtain ⟨a,vs,rfl,q1,h1⟩:=hx;obtain ⟨b,ws,rfl,q2,h2⟩:=hy;cases rx;cases ry;obtain ⟨its,r1,p1,_⟩:=I.tuple q1;obtain ⟨js,r2,p2,_⟩:=I.tuple q2;have:=SeqAt.RcAt.tuples p1 p2 (A:=A) (by omega) (mY A.in1 r1 r2 h1 h2 λj x y v w u u' e1 e2 k1 k2 k3 k4=>(ih A.in1 x y v w u u' (by
    have:=nW (aFS e1);simp only [dT] at hd;omega) k1 k2 k3 k4 (by show A.units+1+n<aWG;omega)).2)
   rw [eH,hJ];have l1:=r1.length;have l2:=r2.length;have l3:=h1.length;have l4:=h2.length;have s1:its.toArray.size=xs.length:=by simp;omega
   have s2:js.toArray.size=ys.length:=by simp;omega
   rw [s1,s2] at this;exact this
  ·by_cases c2:∃xs ys,x = .lst xs/\y = .lst ys
   ·obtain ⟨xs,ys,rfl,rfl⟩:=c2;obtain ⟨a,vs,rfl,q1,h1⟩:=hx;obtain ⟨b,ws,rfl,q2,h2⟩:=hy;cases rx;cases ry;obtain ⟨its,r1,p1,_⟩:=I.list q1;obtain ⟨js,r2,p2,_⟩:=I.list q2;have l1:=r1.length;have l2:=r2.length;have l3:=h1.length;have l4:=h2.length;have s1:its.toArray.size=xs.length:=by simp;omega
    have s2:js.toArray.size=ys.length:=by simp;omega
    rw [eH,hJ]
    by_cases hl:xs.length=ys.length
    ·have:=SeqAt.RcAt.lists p1.isList p2.isList (A:=A) (by rw [s1,s2];exact hl) (by omega) (mY A.in1 r1 r2 h1 h2 λj x y v w u u' e1 e2 k1 k2 k3 k4=>(ih A.in1 x y v w u u' (by
      have:=nW (aFS e1);simp only [dT] at hd;omega) k1 k2 k3 k4 (by show A.units+1+n<aWG;omega)).2)
     rw [s1] at this;rw [<-hl,Nat.min_self,beq_self_eq_true,Bool.and_true];exact this
    ·have:=SeqAt.RcAt.lists_lengths p1.isList p2.isList (A:=A) (by rw [s1,s2];simpa using hl) (by omega);rw [show (xs.length==ys.length)=false by simpa using hl,aU4];exact this
   ·exact xF I (by omega) (λxs ys z=>c1 ⟨xs,ys,z⟩) (λxs ys z=>c2 ⟨xs,ys,z⟩) hx hy rx ry
theorem aJ0 (I:aT X pins σ H s) {A:Around} {x y:T} {v w:V} {u u':Value} (n:Nat) (hd:dT x<=n) (hx:Rq X.K H x v) (hy:Rq X.K H y w) (rx:bG v u) (ry:bG w u') (hu:A.units+n<aWG):SeqAt.RcNeAt A s u u' (!(eH x y)):=by
 by_cases c1:∃xs ys,x = .tup xs/\y = .tup ys
 ·obtain ⟨xs,ys,rfl,rfl⟩:=c1;obtain ⟨a,vs,rfl,q1,h1⟩:=hx;obtain ⟨b,ws,rfl,q2,h2⟩:=hy;cases rx;cases ry;obtain ⟨its,r1,p1,_⟩:=I.tuple q1;obtain ⟨js,r2,p2,_⟩:=I.tuple q2;have:=SeqAt.RcNeAt.tuples p1 p2 (A:=A) (by omega) (mY A.in1 r1 r2 h1 h2 λj x y v w u u' e1 e2 k1 k2 k3 k4=>(tT I (n-1) A.in1 x y v w u u' (by
   have:=nW (aFS e1);simp only [dT] at hd;omega) k1 k2 k3 k4 (by show A.units+1+(n-1)<aWG;simp only [dT] at hd;omega)).2)
  rw [eH,hJ];have l1:=r1.length;have l2:=r2.length;have l3:=h1.length;have l4:=h2.length;have s1:its.toArray.size=xs.length:=by simp;omega
  have s2:js.toArray.size=ys.length:=by simp;omega
  rw [s1,s2] at this;exact this
 ·by_cases c2:∃xs ys,x = .lst xs/\y = .lst ys
  ·obtain ⟨xs,ys,rfl,rfl⟩:=c2;obtain ⟨a,vs,rfl,q1,h1⟩:=hx;obtain ⟨b,ws,rfl,q2,h2⟩:=hy;cases rx;cases ry;obtain ⟨its,r1,p1,_⟩:=I.list q1;obtain ⟨js,r2,p2,_⟩:=I.list q2;have l1:=r1.length;have l2:=r2.length;have l3:=h1.length;have l4:=h2.length;have s1:its.toArray.size=xs.length:=by simp;omega
   have s2:js.toArray.size=ys.length:=by simp;omega
   rw [eH,hJ]
   by_cases hl:xs.length=ys.length
   ·have:=SeqAt.RcNeAt.lists p1.isList p2.isList (A:=A) (by rw [s1,s2];exact hl) (by omega) (mY A.in1 r1 r2 h1 h2 λj x y v w u u' e1 e2 k1 k2 k3 k4=>(tT I (n-1) A.in1 x y v w u u' (by
     have:=nW (aFS e1);simp only [dT] at hd;omega) k1 k2 k3 k4 (by show A.units+1+(n-1)<aWG;simp only [dT] at hd;omega)).2)
    rw [s1] at this;rw [<-hl,Nat.min_self,beq_self_eq_true,Bool.and_true];exact this
   ·have:=SeqAt.RcNeAt.lists_lengths p1.isList p2.isList (A:=A) (by rw [s1,s2];simpa using hl) (by omega);rw [show (xs.length==ys.length)=false by simpa using hl,aU4];exact this
  ·exact aCK I (by omega) (λxs ys z=>c1 ⟨xs,ys,z⟩) (λxs ys z=>c2 ⟨xs,ys,z⟩) hx hy rx ry
end
section
variable {X:Cx} {K:W.Frag} {pos:Pos} {a b c e o:Expr} {es:List Expr} {Fa Fb Fo:FE} {Fr:FA}
def aN8 (K:W.Frag) (ng:Bool):R2:=λx y H Q=>∃t u,Rq K H t x/\Rq K H u y/\dT t<=60/\Q (.bl (if ng then !(eH t u) else eH t u)) H
theorem aDV {k:Nat} (hr:dD k X.A):kU X (aVU .Eq) (aN8 X.K false):=by
 intro pins s σ H x y v u Q I rx ry h;obtain ⟨t,w,h1,h2,hd,q⟩:=h;exact (tT I 60 X.A t w x y v u hd h1 h2 rx ry (by have:=hr.units;omega)).1 X.prog X.w X.xe _ (tI I q rfl)
theorem aNT {k:Nat} (hr:dD k X.A):kU X (aVU .NotEq) (aN8 X.K true):=by
 intro pins s σ H x y v u Q I rx ry h;obtain ⟨t,w,h1,h2,hd,q⟩:=h;exact aJ0 I 60 hd h1 h2 rx ry (by have:=hr.units;omega) X.prog X.w X.xe _ (tI I q rfl)
def t2 (x y:Option T) (k:T->T->Prop):Prop:=match x,y with
 | some t,some u=>k t u
 | _,_=>False
theorem t2.ex {x y:Option T} {k:T->T->Prop} (h:t2 x y k):∃t u,x=some t/\y=some u/\k t u:=by
 unfold t2 at h;split at h
 ·exact ⟨_,_,rfl,rfl,h⟩
 ·exact h.elim
def fEq (Fa Fb:FE):FE:=λE Q=>Fa E λx E1=>Fb E1 λy E2=>t2 (vl E2 x) (vl E2 y) λt u=>dT t<=60/\Q (.p (.bl (eH t u))) E2
def fNe (Fa Fb:FE):FE:=λE Q=>Fa E λx E1=>Fb E1 λy E2=>t2 (vl E2 x) (vl E2 y) λt u=>dT t<=60/\Q (.p (.bl (!(eH t u)))) E2
theorem aJ1 {k:Nat} (eK:X.K=K) (hr:dD k X.A) (ha:QE X a (aL K Fa)) (hb:QE X b (aL K Fb)) (hm:aVM .Eq b=false):QE X (.Compare a [.Eq] [b] pos) (aL K (fEq Fa Fb)):=by
 subst eK;refine (aBM (aDV hr) ha hb hm).le λσ H Q hl h=>two (Fa:=Fa) (Fb:=Fb) h λB S E x y v w H2 Q' hS re rx ry q lk=>?_;obtain ⟨t,u,e1,e2,hd,q⟩:=q.ex;exact ⟨t,u,(re.vl rx e1).rq,(re.vl ry e2).rq,hd,lk _ _ _ _ _ q .refl re rfl⟩
end
end L2
namespace L2
open PySem PySem.Spec PyProof.Rows
section
variable {X:Cx} {K:W.Frag} {pos:Pos} {a b c e o:Expr} {es:List Expr} {Fa Fb Fc Fo:FE} {Fr:FA}
theorem qH {op:CmpOp} {r:R2} {F:FE} (ho:kU X (aVU op) r) (ha:QE X a (aL K Fa)) (hb:QE X b (aL K Fb)) (hm:aVM op b=false) (k:∀σ H Q,aL K F σ H Q->tOp r (aL K Fa) (aL K Fb) σ H Q):QT X (.Compare a [op] [b] pos) (dQ K (rG F)):=
 (tF ho ha hb hm).le λσ H Q z=>k _ _ _ (aI5 z)
theorem cY {op:CmpOp} {g:Int->Int->Bool} (ho:kU X (aVU op) (rI0 λi j=>.bl (g i j))) (ha:QE X a (aL K Fa)) (hb:QE X b (aL K Fb)) (hm:aVM op b=false):QT X (.Compare a [op] [b] pos) (dQ K (rG (fCp g Fa Fb))):=
 qH ho ha hb hm λσ H Q h=>two (Fa:=Fa) (Fb:=Fb) h λB S E x y v w H2 Q' hS re rx ry q lk=>by
  obtain ⟨i,j,e1,e2,q⟩:=i2.ex q;exact ⟨i,j,re.int rx e1,re.int ry e2,lk _ _ _ _ _ q .refl re rfl⟩
theorem wP {k:Nat} (eK:X.K=K) (hr:dD k X.A) (ha:QE X a (aL K Fa)) (hb:QE X b (aL K Fb)) (hm:aVM .Eq b=false):QT X (.Compare a [.Eq] [b] pos) (dQ K (rG (fEq Fa Fb))):=by
 subst eK;refine qH (aDV hr) ha hb hm λσ H Q h=>two (Fa:=Fa) (Fb:=Fb) h λB S E x y v w H2 Q' hS re rx ry q lk=>?_;obtain ⟨t,u,e1,e2,hd,q⟩:=t2.ex q;exact ⟨t,u,(re.vl rx e1).rq,(re.vl ry e2).rq,hd,lk _ _ _ _ _ q .refl re rfl⟩
theorem l9 {k:Nat} (eK:X.K=K) (hr:dD k X.A) (ha:QE X a (aL K Fa)) (hb:QE X b (aL K Fb)) (hm:aVM .NotEq b=false):QT X (.Compare a [.NotEq] [b] pos) (dQ K (rG (fNe Fa Fb))):=by
 subst eK;refine qH (aNT hr) ha hb hm λσ H Q h=>two (Fa:=Fa) (Fb:=Fb) h λB S E x y v w H2 Q' hS re rx ry q lk=>?_;obtain ⟨t,u,e1,e2,hd,q⟩:=t2.ex q;exact ⟨t,u,(re.vl rx e1).rq,(re.vl ry e2).rq,hd,lk _ _ _ _ _ q .refl re rfl⟩
def aEP:T->Bool
 | .non=>true
 | _=>false
theorem aOI {H:Hp} {t:T} {v:V} (h:Rq K H t v):decide (v = .non)=aEP t:=by
 cases t with
 | non=>cases h;rfl
 | bl _=>cases h;rfl
 | int _=>cases h;rfl
 | str _=>cases h;rfl
 | tup _=>obtain ⟨_,_,e,_⟩:=h;subst e;rfl
 | lst _=>obtain ⟨_,_,e,_⟩:=h;subst e;rfl
def aQQ (ng:Bool) (Fa:FE):FE:=λE Q=>Fa E λx E1=>o1 (vl E1 x) λt=>Q (.p (.bl (if ng then !(aEP t) else aEP t))) E1
theorem aIK {σ:St} {H:Hp} {Q:VK} (h:aL K (aQQ false Fa) σ H Q):tOp (λx y H Q=>y = .non/\Q (.bl (decide (x = .non))) H) (aL K Fa) (tC .non) σ H Q:=
 one (Fa:=Fa) h λB S E x v H2 Q' hS re rx q lk=>by
  obtain ⟨t,e1,q⟩:=o1.ex q;exact ⟨rfl,by rw [aOI (re.vl rx e1).rq];exact lk _ _ _ _ _ q .refl re rfl⟩
theorem aNC {j p2} (ha:QE X a (aL K Fa)) (hm:aVM .Is (.Constant .none j p2)=false):QT X (.Compare a [.Is] [.Constant .none j p2] pos) (dQ K (rG (aQQ false Fa))):=(tF aMV ha aGT hm).le λ_ _ _ h=>aIK (aI5 h)
def kdT:T->String
 | .non=>"NoneType"
 | .bl _=>"bool"
 | .int _=>"int"
 | .str _=>"str"
 | .tup _=>"tuple"
 | .lst _=>"list"
theorem aR7 {H:Hp} {t:T} {v:V} (h:Rq K H t v):Kd K H v (kdT t):=by
 cases t with
 | non=>cases h;exact .non
 | bl _=>cases h;exact .bl _
 | int _=>cases h;exact .int _
 | str _=>cases h;exact .str _
 | tup _=>obtain ⟨_,_,e,h,_⟩:=h;subst e;exact .tup h
 | lst _=>obtain ⟨_,_,e,h,_⟩:=h;subst e;exact .lst h
def isL:T->Bool
 | .lst _=>true
 | _=>false
def isB:T->Bool
 | .bl _=>true
 | _=>false
theorem aNO:∀t,isB t=isi (kdT t) "bool":=by intro t;cases t<;>simp [isB,isi,kdT]
def aRM (f:T->Bool) (Fa:FE):FE:=λE Q=>Fa E λx E1=>o1 (vl E1 x) λt=>Q (.p (.bl (f t))) E1
theorem aNA {x:Str} {T1:String} {f:T->Bool} {p p1:Pos} (kf:∀t,f t=isi (kdT t) T1) (eK:X.K=K) (hg:Gl X "isinstance") (hm:X.mg "isinstance" = none) (ha:QE X a (aL K Fa)) (h1:Gl X x) (m1:X.mg x=none) (b1:aVS x=some (.type T1)) (hT:T1∈tys) (n1:x≠"__name__":=by decide) (d1:(x==("__debug__":Str))=false:=by decide) (hs:bX a=false:=by rfl) (hns:bJ [a,.Name x p1]=true:=by rfl) :
  QE X (.Call (.Name "isinstance" p) [a,.Name x p1] [] pos) (aL K (aRM f Fa)):=by
 subst eK;refine (dU aEJ hg hm boot_isinstance (qc ha (qc (aHB (v:=.ty T1) h1 m1 b1 rfl n1 d1) pO) hs) (by decide) (by decide) hns).le λσ H Q hl h=>one (Fa:=Fa) h λB S E x v H2 Q' hS re rx q lk=>?_;obtain ⟨t,e1,q⟩:=o1.ex q;rw [kf] at q;exact ⟨v,_,T1,rfl,aR7 (re.vl rx e1).rq,hT,lk _ _ _ _ _ q .refl re rfl⟩
def iN (xs:List T) (lo hi:Option Int):List T:=(xs.drop (HT.sIx xs.length 0 lo)).take (HT.sIx xs.length xs.length hi-HT.sIx xs.length 0 lo)
theorem aE2 {H:Hp} {O:aVA->Prop} {xs:List T} {vs:List V} {lo hi:Option Int} (h:cG K H O xs vs):cG K H O (iN xs lo hi) (vL vs lo hi):=by
 unfold iN vL;rw [h.length];exact (h.drop _).take _
abbrev FO:=En->(Option Int->En->Prop)->Prop
def wD (K:W.Frag) (F:FO):TO:=λσ H Q=>∃B S E Q',(∃τ,S=σ++τ)/\RE K B H S E/\F E Q'/\∀b E' H' S',Q' b E'->Gr B H S E H' S' E'->RE K B H' S' E'->Q b H'
theorem QO.le {e:Option Expr} {t t':TO} (h:QO X e t) (m:∀σ H Q,t' σ H Q->t σ H Q):QO X e t':=⟨λpins s σ H Q I z=>h.h pins s σ H Q I (m σ H Q z)⟩
def aQG:FO:=λE Q=>Q none E
def aPK (Fa:FE):FO:=λE Q=>Fa E λx E1=>i1 (vl E1 x) λi=>Q (some i) E1
theorem kG:QO X none (wD K aQG):=aIE.le λσ H Q ⟨B,S,E,Q',hS,re,hF,lk⟩=>lk _ _ _ _ hF .refl re
theorem iH (h:QE X e (aL K Fa)):QO X (some e) (wD K (aPK Fa)):=(aI8 h).le λσ H Q ⟨B,S,E,Q',hS,re,hF,lk⟩=>⟨B,S,E,_,hS,re,hF,λr E1 v H1 S1 q g re1 rr=>by
 obtain ⟨i,e1,q⟩:=i1.ex q;exact ⟨i,re1.int rr e1,lk _ _ _ _ q g re1⟩⟩
variable {Gl' Gh:FO}
def aRX (Fa:FE) (Gl' Gh:FO):FE:=λE Q=>Fa E λx E1=>Gl' E1 λlo E2=>Gh E2 λhi E3=>match vl E3 x with
 | some (.lst xs)=>Q (.s E3.length) (E3++[some (.o false (iN xs lo hi))])
 | _=>False
theorem iW {lo hi:Option Expr} {p2:Pos} (eK:X.K=K) (he:QE X e (aL K Fa)) (hl:QO X lo (wD K Gl')) (hu:QO X hi (wD K Gh)):QE X (.Subscript e (.Slice lo hi none p2) pos) (aL K (aRX Fa Gl' Gh)):=by
 subst eK;refine (pR aJJ he hl hu).le λσ H Q _ ⟨B,S,E,Q',⟨τ,hS⟩,re,hF,lk⟩=>⟨B,S,E,_,⟨τ,hS⟩,re,hF,λx E1 v H1 S1 q g1 re1 rx=>?_⟩;obtain ⟨τ1,hS1⟩:=g1.pre;refine ⟨B,S1,E1,_,⟨τ++τ1,by rw [hS1,hS,aDE]⟩,re1,q,λl E2 H2 S2 q2 g2 re2=>?_⟩;obtain ⟨τ2,hS2⟩:=g2.pre;refine ⟨B,S2,E2,_,⟨τ++τ1++τ2,by rw [hS2,hS1,hS,aDE,aDE,aDE]⟩,re2,q2,λh E3 H3 S3 q3 g3 re3=>?_⟩;have rx3:=(rx.step g2).step g3;split at q3
 ·rename_i xs e1;obtain ⟨a,vs,e2,sq,rs⟩:=re3.vl rx3 e1;refine ⟨a,vs,e2,sq,λp hp=>?_⟩;obtain ⟨g,re'⟩:=re3.lst hp (aE2 (lo:=l) (hi:=h) rs);exact lk _ _ _ _ _ q3 (((g1.trans g2).trans g3).trans g) re' (by rw [<-re3.len];exact jZ)
 ·exact q3.elim
def ownOf (E:En):R->Option (List T)
 | .s j=>match E[j]? with
  | some (some (.o _ xs))=>some xs
  | _=>none
 | _=>none
theorem RE.ownOf {B:aVA->Prop} {H:Hp} {S:St} {E:En} (re:RE K B H S E) {r:R} {v:V} {xs:List T} (h:RR K B H S E r v) (e:L2.ownOf E r=some xs):∃j k a vs,r = .s j/\E[j]? = some (some (.o k xs))/\S[j]? = some (some (.ref a))/\v = .ref a/\H a=some (.lst vs)/\cG K H (Ow B S E) xs vs:=by
 cases r with
 | p _=>cases e
 | s j=>
  cases q:E[j]? with
  | none=>simp only [L2.ownOf,q] at e;cases e
  | some u=>
   cases u with
   | none=>simp only [L2.ownOf,q] at e;cases e
   | some u=>
    cases u with
    | p _=>simp only [L2.ownOf,q] at e;cases e
    | o k ys=>
     simp only [L2.ownOf,q] at e;cases e;obtain ⟨a,vs,h1,h2,h3,_⟩:=re.own j k xs q;have h':S[j]? = some (some v):=h;rw [h'] at h1;cases h1;exact ⟨j,k,a,vs,rfl,q,h',rfl,h2,h3⟩
def l2 (x y:Option (List T)) (k:List T->List T->Prop):Prop:=match x,y with
 | some t,some u=>k t u
 | _,_=>False
theorem l2.ex {x y:Option (List T)} {k:List T->List T->Prop} (h:l2 x y k):∃t u,x=some t/\y=some u/\k t u:=by
 unfold l2 at h;split at h
 ·exact ⟨_,_,rfl,rfl,h⟩
 ·exact h.elim
def aSO (Fa Fb:FE):FE:=λE Q=>Fa E λx E1=>Fb E1 λy E2=>l2 (ownOf E2 x) (ownOf E2 y) λxs ys=>xs.length+ys.length<=1000/\Q (.s E2.length) (E2++[some (.o false (xs++ys))])
theorem aFI (ha:QE X a (aL K Fa)) (hb:QE X b (aL K Fb)):QE X (.BinOp a .Add b pos) (aL K (aSO Fa Fb)):=by
 refine (aDR aMR ha hb).le λσ H Q hl h=>two (Fa:=Fa) (Fb:=Fb) h λB S E x y v w H2 Q' hS re rx ry q lk=>?_;obtain ⟨xs,ys,e1,e2,hz,q⟩:=l2.ex q;obtain ⟨j,k,p,vs,_,_,_,rfl,h2,h3⟩:=re.ownOf rx e1;obtain ⟨j',k',p',vs',_,_,_,rfl,h2',h3'⟩:=re.ownOf ry e2;refine ⟨p,p',vs,vs',rfl,rfl,h2,h2',by rw [h3.length,h3'.length];exact aP1 (bQ hz),λr hr=>?_⟩;obtain ⟨g,re'⟩:=re.lst hr (h3.append h3');exact lk _ _ _ _ _ q g re' (by rw [<-re.len];exact jZ)
def aG8 (Fr:FA):FE:=λE Q=>Fr E λrs E1=>match rs with
 | [x]=>o1 ((vl E1 x).bind aOF) λxs=>Q (.s E1.length) (E1++[some (.o false xs)])
 | _=>False
theorem aCD {n:Nat} {p:Pos} (eK:X.K=K) (hg:Gl X "list") (hm:X.mg "list" = none) (ha:QA X (e::es) (dJ K n Fr)) (hs:bJ (e::es)=true:=by rfl):QE X (.Call (.Name "list" p) (e::es) [] pos) (aL K (aG8 Fr)):=by
 subst eK;refine (lJ sV hg hm (by decide +kernel) ha (by decide) (by decide) hs).le λσ H Q hl h=>args (Fr:=Fr) h λB S E rs vs H2 Q' hS re rr hn q lk=>?_
 match rs,rr,q with
 | [x],⟨v,ws,e1,h1,h2⟩,q=>
  cases h2;subst e1;obtain ⟨xs,e2,q⟩:=o1.ex q;obtain ⟨t,e3,e2⟩:=aUY.mp e2;have rt:=re.vl h1 e3;have:∃p us,v = .ref p/\(iU X.K H2 p us\/rL X.K H2 p us)/\cG X.K H2 (Ow B S E) xs us:=by
   cases t with
   | tup ys=>cases e2;obtain ⟨p,us,e,sq,rs⟩:=rt;exact ⟨p,us,e,.inr sq,rs⟩
   | lst ys=>cases e2;obtain ⟨p,us,e,sq,rs⟩:=rt;exact ⟨p,us,e,.inl sq,rs⟩
   | _=>cases e2
  obtain ⟨p,us,rfl,sq,rs⟩:=this;refine ⟨p,us,rfl,sq,λr hr=>?_⟩;obtain ⟨g,re'⟩:=re.lst hr rs;exact lk _ _ _ _ _ q g re' (by rw [<-re.len];exact jZ)
 | [],_,q=>exact q.elim
 | _::_::_,_,q=>exact q.elim
def aLC (Fr:FA):FE:=λE Q=>Fr E λrs E1=>match rs with
 | [x]=>(match vl E1 x with
  | some (.lst xs)=>Q (.p (.tup xs)) E1
  | _=>False)
 | _=>False
theorem qF {n:Nat} {p:Pos} (eK:X.K=K) (hg:Gl X "tuple") (hm:X.mg "tuple" = none) (ha:QA X (e::es) (dJ K n Fr)) (hs:bJ (e::es)=true:=by rfl):QE X (.Call (.Name "tuple" p) (e::es) [] pos) (aL K (aLC Fr)):=by
 subst eK;refine (lJ rC hg hm (by decide +kernel) ha (by decide) (by decide) hs).le λσ H Q hl h=>args (Fr:=Fr) h λB S E rs vs H2 Q' hS re rr hn q lk=>?_
 match rs,rr,q with
 | [x],⟨v,ws,e1,h1,h2⟩,q=>
  cases h2;subst e1;simp only at q;split at q
  ·rename_i xs e2;obtain ⟨p,us,rfl,sq,rs⟩:=re.vl h1 e2;refine ⟨p,us,rfl,.inl ⟨sq,λr hr=>?_⟩⟩;obtain ⟨g,re',rp⟩:=re.tup hr rs;exact lk _ _ _ _ _ q g re' rp
  ·exact q.elim
 | [],_,q=>exact q.elim
 | _::_::_,_,q=>exact q.elim
def jM:List T->Option (List Bool)
 | []=>some []
 | .bl b::xs=>(jM xs).map (b::·)
 | _=>none
theorem yJ {H:Hp} {O:aVA->Prop}:∀{xs:List T} {vs:List V} {bs:List Bool},cG K H O xs vs->jM xs=some bs->vs=bs.map V.bl
 | [],_,_,h,e=>by cases e;exact h
 | .bl b::xs,_,bs,⟨v,r,e1,h1,h2⟩,e=>by
  cases q:jM xs with
  | none=>rw [jM,q] at e;cases e
  | some cs=>
   rw [jM,q] at e;cases e;cases h1;rw [e1,yJ h2 q];rfl
 | .non::_,_,_,_,e=>by cases e
 | .int _::_,_,_,_,e=>by cases e
 | .str _::_,_,_,_,e=>by cases e
 | .tup _::_,_,_,_,e=>by cases e
 | .lst _::_,_,_,_,e=>by cases e
def aRK (Fr:FA):FE:=λE Q=>Fr E λrs E1=>match rs with
 | [x]=>(match vl E1 x with
  | some (.lst xs)=>o1 (jM xs) λbs=>Q (.p (.bl (bs.all id))) E1
  | _=>False)
 | _=>False
theorem aGR {n:Nat} {p:Pos} (eK:X.K=K) (hc:X.calm=true) (hg:Gl X "all") (hm:X.mg "all" = none) (ha:QA X (e::es) (dJ K n Fr)) (hs:bJ (e::es)=true:=by rfl):QE X (.Call (.Name "all" p) (e::es) [] pos) (aL K (aRK Fr)):=by
 subst eK;refine (dU (aC1 hc) hg hm boot_all ha (by decide) (by decide) hs).le λσ H Q hl h=>args (Fr:=Fr) h λB S E rs vs H2 Q' hS re rr hn q lk=>?_
 match rs,rr,q with
 | [x],⟨v,ws,e1,h1,h2⟩,q=>
  cases h2;subst e1;simp only at q;split at q
  ·rename_i xs e2;obtain ⟨p,us,rfl,sq,rs⟩:=re.vl h1 e2;obtain ⟨bs,e3,q⟩:=o1.ex q;refine ⟨p,bs,rfl,by rw [<-yJ rs e3];exact sq,lk _ _ _ _ _ q .refl re rfl⟩
  ·exact q.elim
 | [],_,q=>exact q.elim
 | _::_::_,_,q=>exact q.elim
def zG (f:List T->R->En->Option (List T)) (Fo:FE) (Fr:FA):FE:=λE Q=>Fo E λo E1=>o1 (ownOf E1 o) λ_=>Fr E1 λrs E2=>match o,rs with
 | .s j,[r]=>(match E2[j]? with
  | some (some (.o k xs))=>o1 (f xs r E2) λys=>ys.length<=1000/\Q (.p .non) (E2.set j (some (.o k ys)))
  | _=>False)
 | _,_=>False
def aRT (xs:List T) (r:R) (E:En):Option (List T):=match r with
 | .p t=>some (xs++[t])
 | _=>none
def aOA (xs:List T) (r:R) (E:En):Option (List T):=(ownOf E r).map (xs++·)
theorem aKO {f:List T->R->En->Option (List T)} {r:V->List V->Hp->VK->Prop} {n:Nat} {σ:St} {H:Hp} {Q:VK} (eK:X.K=K) (h:aL K (zG f Fo Fr) σ H Q)
  (hr:∀(B:aVA->Prop) (S:St) (E:En) (H2:Hp) (xs ys:List T) (rr:R) (y:V) (p:aVA) (vs:List V) (Q:VK),RE K B H2 S E->RR K B H2 S E rr y->f xs rr E=some ys->H2 p=some (.lst vs)->cG K H2 (Ow B S E) xs vs->ys.length<=1000->
   (∀ws,cG K H2 (Ow B S E) ys ws->Q .non (upd H2 p (.lst ws)))->r (.ref p) [y] H2 Q):tBM X.K "list" r (aL K Fo) (dJ K n Fr) σ H Q:=by
 subst eK;obtain ⟨B,S,E,Q',⟨τ,hS⟩,re,hF,lk⟩:=h;refine ⟨B,S,E,_,⟨τ,hS⟩,re,hF,λoo E1 v H1 S1 q g1 re1 rx=>?_⟩;obtain ⟨τ1,hS1⟩:=g1.pre;obtain ⟨xs0,e0,q⟩:=o1.ex q;obtain ⟨j,k,p,vs,rfl,hE,hSj,rfl,h2,h3⟩:=re1.ownOf rx e0;refine ⟨.inl ⟨rfl,vs,iU.of h2⟩,B,S1,E1,_,⟨τ++τ1,by rw [hS1,hS,aDE]⟩,re1,q,λrs E2 us H2 S2 q2 g2 re2 rr hn=>?_⟩;have hSj2:S2[j]? = some (some (.ref p)):=dF g2.pre hSj
 match rs,rr,q2 with
 | [r'],⟨y,ws,e1,k1,k2⟩,q2=>
  cases k2;subst e1;simp only at q2;split at q2
  ·rename_i k2 xs hE2;obtain ⟨ys,e3,hz,q2⟩:=o1.ex q2;obtain ⟨p',vs2,z1,z2,z3,_⟩:=re2.own j k2 xs hE2;rw [hSj2] at z1;cases z1;refine hr B S2 E2 H2 xs ys r' y p vs2 Q re2 k1 e3 z2 z3 hz λws hw=>?_;obtain ⟨g3,re3⟩:=re2.put hE2 hSj2 hw;exact lk _ _ _ _ _ q2 ((g1.trans g2).trans g3) re3 rfl
  ·exact q2.elim
 | [],_,q2=>exact q2.elim
 | _::_::_,_,q2=>exact q2.elim
theorem nP {n:Nat} {ap:Pos} (eK:X.K=K) (ho:QE X o (aL K Fo)) (ha:QA X [e] (dJ K n Fr)) (hbase:aVZ o "append" X.env (aVP o X.env)=aVP o X.env:=by rfl) (hline:(ap.endLine==pos.line)=true:=by rfl) (hs:bX e=false:=by rfl) :
  QE X (.Call (.Attribute o "append" ap) [e] [] pos) (aL K (zG aRT Fo Fr)):=
 (n8 ho ha hbase hline hs).le λσ H Q hl h=>aKO eK h λB S E H2 xs ys rr y p vs Q re rx e hp hv hz k=>by
  cases rr with
  | s _=>cases e
  | p t=>
   cases e;refine ⟨p,vs,y,rfl,rfl,hp,?_,k _ (hv.append ⟨y,[],rfl,rx,rfl⟩)⟩;rw [hv.length];rw [aIG] at hz;exact bQ (by simp at hz;omega)
theorem aCN {n:Nat} {ap:Pos} (eK:X.K=K) (ho:QE X o (aL K Fo)) (ha:QA X [e] (dJ K n Fr)) (hbase:aVZ o "extend" X.env (aVP o X.env)=aVP o X.env:=by rfl) (hline:(ap.endLine==pos.line)=true:=by rfl) (hs:bX e=false:=by rfl) :
  QE X (.Call (.Attribute o "extend" ap) [e] [] pos) (aL K (zG aOA Fo Fr)):=
 QE.le (t:=tBM X.K "list" aBB (aL K Fo) (dJ K n Fr)) ⟨aAD PySem.F.plainAttrs_list PySem.F.slot_list_extend PySem.F.type_list_extend aB8 ho.h ha.h hbase (by rw [cN hs];rfl) hline (cN hs) (fG rfl)⟩ λσ H Q hl h=>aKO eK h λB S E H2 xs ys rr y p vs Q re rx e hp hv hz k=>by
  unfold aOA at e;cases q:ownOf E rr with
  | none=>rw [q] at e;cases e
  | some zs=>
   rw [q] at e;cases e;obtain ⟨j,kk,p',vs',_,_,_,rfl,h2,h3⟩:=re.ownOf rx q;refine ⟨p,p',vs,vs',rfl,rfl,hp,h2,?_,k _ (hv.append h3)⟩;rw [hv.length,h3.length];rw [aIG] at hz;exact aP1 (bQ hz)
end
end L2
namespace L2
open PySem PySem.Spec PyProof.Rows
abbrev eT (h:Heap) (T:aVA) (xs:Array Value):Prop:=h.get? T=some { cls:=.type "tuple",data:=.seq xs }
end L2
namespace L2
open PySem PySem.Spec PyProof.Rows
structure ZQ where
 κ:Bool
 a:aVA
 it:aVA
 items:Array Value
structure ZA (z TI TO:aVA) (ps:List ZQ):Prop where
 tz:TI≠z
 oz:TO≠z
 to:TI≠TO
 iz:∀p∈ps,p.it≠z/\p.it≠TI/\p.it≠TO
 az:∀p∈ps,p.a≠z/\p.a≠TO
 ai:∀p∈ps,∀q∈ps,p.a≠q.it
 ii:∀(i j:Nat) (p q:ZQ),ps[i]? = some p->ps[j]? = some q->p.it=q.it->i=j
section
variable {prog:aVD} {w:aVH} {A:Around} {E:Value->Shared->Prop} {s:Shared}
theorem vK {α β:Type} {M:Model} {body:α->β->Sem (ForInStep β)} {b0:β}:∀(xs:List α) (W:Nat->Shared->Prop) (s:Shared) (Q:β->Shared->Prop),
  (∀j x s,xs[j]? = some x->W j s->aVC M A (body x b0) (λr s'=>r = .yield b0/\W (j+1) s') E s)->W 0 s->(∀s',W xs.length s'->Q b0 s')->aVC M A (forIn xs b0 body) Q E s
 | [],W,s,Q,_,h0,hq=>by
  rw [List.forIn_nil];exact aVE (hq s h0)
 | x::xs,W,s,Q,hs,h0,hq=>by
  rw [aUA];refine aVB (cF (hs 0 x s rfl h0) λr s' ⟨e,h1⟩=>?_);subst e;exact vK xs (λj=>W (j+1)) s' Q (λj y s'' hy hw=>hs (j+1) y s'' (by simpa using hy) hw) h1 (λs'' h=>hq s'' (by simpa using h))
theorem oK {α β:Type} {M:Model} {body:α->β->Sem (ForInStep β)} {b0:β}:∀(m:Nat) (xs:List α) (W:Nat->Shared->Prop) (s:Shared) (Q:β->Shared->Prop) (y:α),xs[m]? = some y->
  (∀j x s,j<m->xs[j]? = some x->W j s->aVC M A (body x b0) (λr s'=>r = .yield b0/\W (j+1) s') E s)->W 0 s->(∀s',W m s'->aVC M A (body y b0) (λ_ _=>False) E s')->aVC M A (forIn xs b0 body) Q E s
 | m,[],W,s,Q,y,hy,_,_,_=>by simp at hy
 | 0,x::xs,W,s,Q,y,hy,hs,h0,hm=>by
  rw [aUA];simp at hy;subst hy;exact aVB (cF (hm s h0) λ_ _ z=>z.elim)
 | m+1,x::xs,W,s,Q,y,hy,hs,h0,hm=>by
  rw [aUA];refine aVB (cF (hs 0 x s (by omega) rfl h0) λr s' ⟨e,h1⟩=>?_);subst e;exact oK m xs (λj=>W (j+1)) s' Q y (by simpa using hy) (λj z s'' hj hz hw=>hs (j+1) z s'' (by omega) (by simpa using hz) hw) h1 hm
def ZW (s:Shared) (z TI TO:aVA) (ps:List ZQ) (k j:Nat) (s':Shared):Prop:=∃(h:Heap) (tk:Nat),s' = { s with heap:=h,toks:=tk }/\aWH h z TI TO .ellipsis/\
 (∃cur:Array Value,eT h TO cur/\cur.size=ps.length/\∀(l:Nat) (q:ZQ),l<j->ps[l]? = some q->∃x,q.items[k]? = some x/\cur[l]? = some x)/\
 (∀(l:Nat) (q:ZQ),ps[l]? = some q->gM q.κ h q.it q.a (if l<j then k+1 else k)/\oU q.κ h q.a q.items)/\
 (∀c o,c≠z->c≠TO->(∀q∈ps,c≠q.it)->s.heap.get? c=some o->h.get? c=some o)/\h.objs.size=s.heap.objs.size
theorem oU.at {κ:Bool} {h h':Heap} {a:aVA} {its:Array Value} (x:oU κ h a its) (e:∀o,h.get? a=some o->h'.get? a=some o):oU κ h' a its:=by
 cases κ
 ·exact Heap.IsList.at x e
 ·exact Heap.IsTuple.at x e
theorem eJ {ps:List ZQ} {l:Nat} {q:ZQ} (h:ps[l]? = some q):q∈ps:=aFS h
theorem aKS {z TI TO:aVA} {ps:List ZQ} {k j:Nat} {q:ZQ} (hA:A.handled=none) (ap:ZA z TI TO ps) (hl:ps.length<=1000) (hq:ps[j]? = some q) (hk:k<q.items.size) {s':Shared} (W:ZW s z TI TO ps k j s') {Q:Option Value->Shared->Prop}
  (g:∀x s2,(∃(h:Heap) (tk:Nat),s2 = { s with heap:=h,toks:=tk }/\q.items[k]? = some x/\aWH h z TI TO .ellipsis/\
    (∃cur:Array Value,eT h TO cur/\cur.size=ps.length/\∀(l:Nat) (q:ZQ),l<j->ps[l]? = some q->∃x,q.items[k]? = some x/\cur[l]? = some x)/\
    (∀(l:Nat) (q:ZQ),ps[l]? = some q->gM q.κ h q.it q.a (if l<j+1 then k+1 else k)/\oU q.κ h q.a q.items)/\
    (∀c o,c≠z->c≠TO->(∀q∈ps,c≠q.it)->s.heap.get? c=some o->h.get? c=some o)/\h.objs.size=s.heap.objs.size)->Q (some x) s2) :
  aVC (aVG prog w) A (Builtin.SmallTypes.nextOf (.ref q.it) >>= λx=>pure (some x)) Q E s':=by
 obtain ⟨h,tk,rfl,hz,⟨cur,c1,c2,c3⟩,hi,kp,szh⟩:=W;have hqm:=eJ hq;have D:=aFQ (prog:=prog) (w:=w) q.κ hA q.it q.a (ap.ai q hqm q hqm) q.items;obtain ⟨i1,i2⟩:=hi j q hq;rw [if_neg (Nat.lt_irrefl j)] at i1;refine aVB (D.item k _ _ _ hk ⟨i1,i2⟩ λx hb tb px gb sb=>aVE (g x _ ⟨hb,tb,rfl,px,?_,⟨cur,?_,c2,c3⟩,λl p hp=>?_,λc o n1 n2 n3 e=>?_,?_⟩))
 ·exact sb.extBut _ _ (Ne.symm (ap.iz q hqm).1) hz
 ·exact sb.extBut _ _ (Ne.symm (ap.iz q hqm).2.2) c1
 ·by_cases e:l=j
  ·subst e;rw [hq] at hp;cases hp;rw [if_pos (Nat.lt_succ_self _)];exact gb
  ·obtain ⟨a1,a2⟩:=hi l p hp;have ne:p.it≠q.it:=λz=>e (ap.ii l j p q hp hq z);have el:(if l<j+1 then k+1 else k)=(if l<j then k+1 else k):=by
    by_cases c:l<j
    ·rw [if_pos c,if_pos (by omega)]
    ·rw [if_neg c,if_neg (by omega)]
   rw [el];exact ⟨a1.at λo x=>sb.extBut _ _ ne x,a2.at λo x=>sb.extBut _ _ (ap.ai p (eJ hp) q hqm) x⟩
 ·exact sb.extBut _ _ (n3 q hqm) (kp c o n1 n2 n3 e)
 ·rw [sb.1];exact szh
theorem aCG {z TI TO:aVA} {ps:List ZQ} {k:Nat} {old:Array Value} {Q:Value->Shared->Prop} (hA:A.handled=none) (ap:ZA z TI TO ps) (hne:ps≠[]) (hl:ps.length<=1000)
  (gz:aWH s.heap z TI TO .none) (gI:eT s.heap TI (ps.map λp=>aPQ p.it).toArray) (gO:eT s.heap TO old) (ho:old.size=ps.length)
  (gi:∀p∈ps,gM p.κ s.heap p.it p.a k/\oU p.κ s.heap p.a p.items) (gk:∀p∈ps,k<p.items.size)
  (gq:∀(xs:List Value) h' tk,xs.length=ps.length->(∀(l:Nat) (q:ZQ),ps[l]? = some q->∃x,q.items[k]? = some x/\xs[l]? = some x)->aWH h' z TI TO (rawInt s.heap.objs.size)->(∃cur:Array Value,eT h' TO cur/\cur.size=ps.length)->
   (∀p∈ps,gM p.κ h' p.it p.a (k+1))->eT h' s.heap.objs.size xs.toArray->h'.objs.size=s.heap.objs.size+1->
   (∀c o,c≠z->c≠TO->(∀q∈ps,c≠q.it)->s.heap.get? c=some o->h'.get? c=some o)->Q (.ref s.heap.objs.size) { s with heap:=h',toks:=tk }) :
  aVC (aVG prog w) A (Builtin.«zip.__next__» ⟨[.ref z],[]⟩) (λfin s'=>∃v,fin = .done (.ret v)/\Q v s') E s:=by
 show aVC _ _ (field (.ref z) 2 >>= _) _ _ _;refine aVB (aVT gz rfl (x:=.bool false) rfl ?_);show aVC _ _ (field (.ref z) 3 >>= _) _ _ _;refine aVB (aVT gz rfl (x:=.ref TI) rfl (aVB (aV4 gI rfl ?_)));have hem:((ps.map λp=>aPQ p.it).toArray).isEmpty=false:=by
  cases ps with
  | nil=>exact absurd rfl hne
  | cons p r=>simp
 simp only [hem,aUL,if_false];refine aVB ?_;unfold Builtin.SmallTypes.ownedTupleIsFree;refine aVB (aVT gz rfl (x:=.none) rfl (aVE ?_));simp only [if_true];refine aVB (aWP (aVB (aVT gz rfl (x:=.ref TO) rfl (aVB (aV6 gz (by simp) λha za sa=>?_)))));have za':aWH ha z TI TO .ellipsis:=za;refine aVB ?_;have W0:ZW s z TI TO ps k 0 { s with heap:=ha }:=by
  refine ⟨ha,s.toks,rfl,za',⟨old,sa.extBut _ _ ap.oz gO,ho,λl q h=>absurd h (aTU _)⟩,λl q hq=>?_,λc o n1 n2 n3 e=>sa.extBut _ _ n1 e,sa.1⟩;obtain ⟨g1,g2⟩:=gi q (eJ hq);rw [if_neg (aTU _)];exact ⟨g1.at λo e=>sa.extBut _ _ (ap.iz q (eJ hq)).1 e,g2.at λo e=>sa.extBut _ _ (ap.az q (eJ hq)).1 e⟩
 refine vK _ (ZW s z TI TO ps k) _ _ (λj x s' hx hW=>?_) W0 (λs' hW=>?_)
 ·have hxq:∃q,ps[j]? = some q/\x=(aPQ q.it,j):=by
   rw [aTP] at hx;simp only [aDF,Option.map_map] at hx;cases q:ps[j]? with
   | none=>simp [q] at hx
   | some p=>simp [q] at hx;exact ⟨p,rfl,hx.symm⟩
  obtain ⟨q,hq,rfl⟩:=hxq;have hj:j<ps.length:=(aA7.mp hq).1;refine aVB (wpAny_onRaise ?_);show aVC _ _ (Builtin.SmallTypes.nextOf (.ref q.it) >>= _) _ _ _;refine aKS hA ap hl hq (gk q (eJ hq)) hW λx s2 ⟨h,tk,es,px,hz,⟨cur,c1,c2,c3⟩,hi,kp,szh⟩=>?_;subst es;have c1':h.get? TO=some { cls:=.type "tuple",data:=.seq cur }:=c1;refine aVB (aV4 c1' rfl (aVB (wpAny_updateSeq c1' rfl ?_ (by rw [c2];exact aP1 (bQ hl)) (by simp;rw [c2];exact Nat.le_succ_of_le (aP1 (bQ hl))))));refine aVB (wpAny_letGo (aVE ⟨rfl,?_⟩));have su:aTW TO h (h.update TO (aRH (·.setIfInBounds j x))):=Heap.SameBut.update ..;have gu:eT (h.update TO (aRH (·.setIfInBounds j x))) TO (cur.setIfInBounds j x):=by
   show (h.update TO (aRH (·.setIfInBounds j x))).get? TO=_;rw [aTL _ c1' rfl];simp [aRH]
  refine ⟨_,tk,rfl,su.extBut _ _ (Ne.symm ap.oz) hz,⟨_,gu,by simp [c2],λl p hl' hp=>?_⟩,λl p hp=>?_,λc o n1 n2 n3 e=>su.extBut _ _ n2 (kp c o n1 n2 n3 e),by rw [su.1];exact szh⟩
  ·by_cases e:l=j
   ·subst e;rw [hq] at hp;cases hp;exact ⟨x,px,by rw [aTS (by rw [c2];exact hj)]⟩
   ·obtain ⟨y,y1,y2⟩:=c3 l p (by omega) hp;exact ⟨y,y1,by rw [aT7 (λz=>e z.symm)];exact y2⟩
  ·obtain ⟨a1,a2⟩:=hi l p hp;exact ⟨a1.at λo e=>su.extBut _ _ (ap.iz p (eJ hp)).2.2 e,a2.at λo e=>su.extBut _ _ (ap.az p (eJ hp)).2 e⟩
 ·obtain ⟨he,tk,rfl,hz,⟨cur,c1,c2,c3⟩,hi,kp,szh⟩:=hW;have ll:(List.zipIdx (ps.map λp=>aPQ p.it).toArray.toList).length=ps.length:=by simp
  have c1':he.get? TO=some { cls:=.type "tuple",data:=.seq cur }:=c1;refine aVB (aV4 c1' rfl (aVB (wpAny_newTuple ?_ (by simp;rw [c2];exact aP1 (bQ hl)))));have zlt:z<he.objs.size:=aDD hz;show aVC _ _ (Builtin.SmallTypes.ownedTupleHandOut (.ref z) (.ref he.objs.size) >>= _) _ _ _;refine aVB ?_;unfold Builtin.SmallTypes.ownedTupleHandOut;have zf:aWH (he.push { cls:=.type "tuple",data:=.seq cur.toList.toArray }) z TI TO .ellipsis:=aDA _ hz;refine aVB (aV6 zf (by simp) λhg zg sg=>?_);have zg':aWH hg z TI TO (rawInt he.objs.size):=zg;refine aV6 zg' (by simp) λhh zh sh=>?_;have zh':aWH hh z TI TO (rawInt he.objs.size):=zh;have up:∀c o,c≠z->he.get? c=some o->hh.get? c=some o:=λc o q e=>sh.extBut _ _ q (sg.extBut _ _ q (aDA _ e));have gTh:eT hh he.objs.size cur.toList.toArray:=sh.extBut _ _ (Nat.ne_of_gt zlt) (sg.extBut _ _ (Nat.ne_of_gt zlt) (aG4 _ rfl));have szz:hh.objs.size=he.objs.size+1:=by rw [sh.1,sg.1,aSZ]
  rw [szh] at zh' gTh szz;refine aVE ⟨_,rfl,?_⟩;show Q (.ref he.objs.size) _;rw [szh];refine gq cur.toList hh tk (by simp [c2]) (λl q hq=>?_) zh' ⟨cur,up _ _ ap.oz c1,c2⟩ (λp hp=>?_) gTh szz λc o n1 n2 n3 e=>up c o n1 (kp c o n1 n2 n3 e)
  ·obtain ⟨x,x1,x2⟩:=c3 l q (by rw [ll];exact (aA7.mp hq).1) hq;exact ⟨x,x1,by simpa using x2⟩
  ·obtain ⟨l,hl'⟩:=aRE hp;obtain ⟨a1,_⟩:=hi l p hl';rw [ll,if_pos (aA7.mp hl').1] at a1;exact a1.at λo e=>up _ _ (ap.iz p hp).1 e
theorem aB4 {z TI TO:aVA} {ps:List ZQ} {k m:Nat} {p:ZQ} {old:Array Value} {Q:Fin->Shared->Prop} (hA:A.handled=none) (ap:ZA z TI TO ps) (hl:ps.length<=1000)
  (gz:aWH s.heap z TI TO .none) (gI:eT s.heap TI (ps.map λp=>aPQ p.it).toArray) (gO:eT s.heap TO old) (ho:old.size=ps.length)
  (gi:∀p∈ps,gM p.κ s.heap p.it p.a k/\oU p.κ s.heap p.a p.items) (hm:ps[m]? = some p) (hpk:p.items.size=k) (gk:∀(j:Nat) (q:ZQ),j<m->ps[j]? = some q->k<q.items.size)
  (ge:∀h' tk e,(∀c o,c≠z->c≠TO->(∀q∈ps,c≠q.it)->s.heap.get? c=some o->h'.get? c=some o)->(∃o,h'.get? e=some o/\o.cls = .type "StopIteration")->E (.ref e) { s with heap:=h',toks:=tk }) :
  aVC (aVG prog w) A (Builtin.«zip.__next__» ⟨[.ref z],[]⟩) Q E s:=by
 show aVC _ _ (field (.ref z) 2 >>= _) _ _ _;refine aVB (aVT gz rfl (x:=.bool false) rfl ?_);show aVC _ _ (field (.ref z) 3 >>= _) _ _ _;refine aVB (aVT gz rfl (x:=.ref TI) rfl (aVB (aV4 gI rfl ?_)));have hem:((ps.map λp=>aPQ p.it).toArray).isEmpty=false:=by
  cases ps with
  | nil=>simp at hm
  | cons p r=>simp
 simp only [hem,aUL,if_false];refine aVB ?_;unfold Builtin.SmallTypes.ownedTupleIsFree;refine aVB (aVT gz rfl (x:=.none) rfl (aVE ?_));simp only [if_true];refine aVB (aWP (aVB (aVT gz rfl (x:=.ref TO) rfl (aVB (aV6 gz (by simp) λha za sa=>?_)))));have za':aWH ha z TI TO .ellipsis:=za;refine aVB ?_;have W0:ZW s z TI TO ps k 0 { s with heap:=ha }:=by
  refine ⟨ha,s.toks,rfl,za',⟨old,sa.extBut _ _ ap.oz gO,ho,λl q h=>absurd h (aTU _)⟩,λl q hq=>?_,λc o n1 n2 n3 e=>sa.extBut _ _ n1 e,sa.1⟩;obtain ⟨g1,g2⟩:=gi q (eJ hq);rw [if_neg (aTU _)];exact ⟨g1.at λo e=>sa.extBut _ _ (ap.iz q (eJ hq)).1 e,g2.at λo e=>sa.extBut _ _ (ap.az q (eJ hq)).1 e⟩
 have atj:∀{j:Nat} {x:Value×Nat},(List.zipIdx (ps.map λp=>aPQ p.it).toArray.toList)[j]? = some x->∃q,ps[j]? = some q/\x=(aPQ q.it,j):=λ{j x} hx=>by
  rw [aTP] at hx;simp only [aDF,Option.map_map] at hx;cases q:ps[j]? with
  | none=>simp [q] at hx
  | some p=>simp [q] at hx;exact ⟨p,rfl,hx.symm⟩
 refine oK m _ (ZW s z TI TO ps k) _ _ (aPQ p.it,m) (by rw [aTP];simp [hm]) (λj x s' hjm hx hW=>?_) W0 (λs' hW=>?_)
 ·obtain ⟨q,hq,rfl⟩:=atj hx;have hj:j<ps.length:=(aA7.mp hq).1;refine aVB (wpAny_onRaise ?_);show aVC _ _ (Builtin.SmallTypes.nextOf (.ref q.it) >>= _) _ _ _;refine aKS hA ap hl hq (gk j q hjm hq) hW λx s2 ⟨h,tk,es,px,hz,⟨cur,c1,c2,c3⟩,hi,kp,szh⟩=>?_;subst es;have c1':h.get? TO=some { cls:=.type "tuple",data:=.seq cur }:=c1;refine aVB (aV4 c1' rfl (aVB (wpAny_updateSeq c1' rfl ?_ (by rw [c2];exact aP1 (bQ hl)) (by simp;rw [c2];exact Nat.le_succ_of_le (aP1 (bQ hl))))));refine aVB (wpAny_letGo (aVE ⟨rfl,?_⟩));have su:aTW TO h (h.update TO (aRH (·.setIfInBounds j x))):=Heap.SameBut.update ..;have gu:eT (h.update TO (aRH (·.setIfInBounds j x))) TO (cur.setIfInBounds j x):=by
   show (h.update TO (aRH (·.setIfInBounds j x))).get? TO=_;rw [aTL _ c1' rfl];simp [aRH]
  refine ⟨_,tk,rfl,su.extBut _ _ (Ne.symm ap.oz) hz,⟨_,gu,by simp [c2],λl p hl' hp=>?_⟩,λl p hp=>?_,λc o n1 n2 n3 e=>su.extBut _ _ n2 (kp c o n1 n2 n3 e),by rw [su.1];exact szh⟩
  ·by_cases e:l=j
   ·subst e;rw [hq] at hp;cases hp;exact ⟨x,px,by rw [aTS (by rw [c2];exact hj)]⟩
   ·obtain ⟨y,y1,y2⟩:=c3 l p (by omega) hp;exact ⟨y,y1,by rw [aT7 (λz=>e z.symm)];exact y2⟩
  ·obtain ⟨a1,a2⟩:=hi l p hp;exact ⟨a1.at λo e=>su.extBut _ _ (ap.iz p (eJ hp)).2.2 e,a2.at λo e=>su.extBut _ _ (ap.az p (eJ hp)).2 e⟩
 ·obtain ⟨h,tk,rfl,hz,_,hi,kp,szh⟩:=hW;have hpm:=eJ hm;have D:=aFQ (prog:=prog) (w:=w) p.κ hA p.it p.a (ap.ai p hpm p hpm) p.items;obtain ⟨i1,i2⟩:=hi m p hm;rw [if_neg (Nat.lt_irrefl m)] at i1;refine aVB (wpAny_onRaise ?_);show aVC _ _ (Builtin.SmallTypes.nextOf (.ref p.it) >>= _) _ _ _;refine aVB (D.done _ _ _ (by rw [hpk];exact ⟨i1,i2⟩) λhb e sb he=>?_);obtain ⟨oe,q1,q2⟩:=he;have sb':Heap.ExtBut p.it h hb:=sb;have zb:aWH hb z TI TO .ellipsis:=sb' _ _ (Ne.symm (ap.iz p hpm).1) hz;have hez:e≠z:=λx=>by subst x;rw [zb] at q1;cases q1;simp at q2
  exact aV6 zb (by simp) λhc _ sc=>ge hc tk e (λc o c1 c2 c3 x=>sc.extBut _ _ c1 (sb' _ _ (c3 p hpm) (kp c o c1 c2 c3 x))) ⟨oe,sc.extBut _ _ hez q1,q2⟩
end
def u7 (κ:Bool) (K:W.Frag) (H:Hp) (a:aVA) (xs:List V):Prop:=match κ with
 | true=>rL K H a xs
 | false=>iU K H a xs
section
variable {X:Cx} {pins:List (aVA×Obj)} {σ:St} {H:Hp} {s:Shared}
theorem aT.sqK (I:aT X pins σ H s) {κ:Bool} {a:aVA} {xs:List V} (h:u7 κ X.K H a xs):∃its:List Value,bF xs its/\oU κ s.heap a its.toArray:=by
 cases κ
 ·obtain ⟨its,r,p,_⟩:=I.list h;exact ⟨its,r,p.isList⟩
 ·obtain ⟨its,r,p,_⟩:=I.tuple h;exact ⟨its,r,p⟩
theorem aT.sqK_inj (I:aT X pins σ H s) {κ:Bool} {a:aVA} {xs ys:List V} (h:u7 κ X.K H a xs) (h':u7 κ X.K H a ys):xs=ys:=by
 cases κ
 ·exact I.list_inj h h'
 ·exact I.tuple_inj h h'
theorem aT.notfp (I:aT X pins σ H s) {κ:Bool} {a b:aVA} {xs:List V} (h:u7 κ X.K H a xs) (f:jP X pins H b):a≠b:=by
 have kk:∀{o:Obj},X.K.lookup a=some o->a≠b:=λ{o} hk z=>by
  have hb:X.base.get? a=some o:=I.mod.kin a o hk;subst z;rcases f.2.2.2.1 with z | z
  ·exact I.ok.noex a o hb z
  ·exact absurd (aEG (aEG (aDD hb) I.ok.bsz) z) (Nat.lt_irrefl _)
 have hh:∀{u:HO},Rd H a u->a≠b:=λ{u} r z=>by
  subst z;have:=f.1;rcases r with r | ⟨o,r⟩
  ·rw [this] at r;cases r
  ·rw [this] at r;cases r
 cases κ
 ·rcases h with h | ⟨o,its,n,hk,_⟩
  ·exact hh h
  ·exact kk hk
 ·rcases h with h | ⟨o,its,n,hk,_⟩
  ·exact hh h
  ·exact kk hk
theorem exQ (I:aT X pins σ H s):∀(ps:List (Bool×aVA)) (its:List aVA),its.length=ps.length->(∀p∈ps,∃xs,u7 p.1 X.K H p.2 xs)->
  ∃qs:List ZQ,qs.map (λq=>(q.κ,q.a))=ps/\qs.map (·.it)=its/\∀q∈qs,oU q.κ s.heap q.a q.items/\∃xs,u7 q.κ X.K H q.a xs/\bF xs q.items.toList
 | [],[],_,_=>⟨[],rfl,rfl,λq h=>absurd h (by simp)⟩
 | [],_::_,e,_=>by simp at e
 | _::_,[],e,_=>by simp at e
 | p::ps,it::its,e,h=>by
  obtain ⟨qs,h1,h2,h3⟩:=exQ I ps its (by simpa using e) λq hq=>h q (by simp [hq]);obtain ⟨xs,hx⟩:=h p (by simp);obtain ⟨vs,r,sk⟩:=I.sqK hx;refine ⟨⟨p.1,p.2,it,vs.toArray⟩::qs,by simp [h1],by simp [h2],λq hq=>?_⟩;rcases aB1.mp hq with rfl | hq
  ·exact ⟨sk,xs,hx,by simpa using r⟩
  ·exact h3 q hq
end
def Itn (K:W.Frag) (ps:List (Bool×aVA)):It:=
  ⟨λi H=>∀p∈ps,∃xs x,u7 p.1 K H p.2 xs/\xs[i]? = some x,
   λi H v H'=>∃(q:aVA) (ys:List V),v = .ref q/\H q=none/\H'=upd H q (.tup ys)/\ys.length=ps.length/\∀(j:Nat) (p:Bool×aVA) (y:V),ps[j]? = some p->ys[j]? = some y->∀xs,u7 p.1 K H p.2 xs->xs[i]? = some y,
   λi H=>(∀p∈ps,∃xs,u7 p.1 K H p.2 xs)/\∃(m:Nat) (p:Bool×aVA),ps[m]? = some p/\(∃xs,u7 p.1 K H p.2 xs/\xs.length=i)/\∀(j:Nat) (q:Bool×aVA),j<m->ps[j]? = some q->∃xs x,u7 q.1 K H q.2 xs/\xs[i]? = some x⟩
def ZT (z TI TO:aVA) (ps:List (Bool×aVA)) (its:List aVA) (i:Nat) (h:Heap):Prop:=aWH h z TI TO .none/\eT h TI (its.map aPQ).toArray/\(∃old:Array Value,eT h TO old/\old.size=ps.length)/\
 ∀(j:Nat) (p:Bool×aVA) (it:aVA),ps[j]? = some p->its[j]? = some it->gM p.1 h it p.2 i
theorem aBR {P:aVD} {w:aVH} {K:W.Frag} {elts:List Expr} {x1} {tpos:Pos} (z TI TO:aVA) (ps:List (Bool×aVA)) (its:List aVA) (hl:its.length=ps.length) (hne:ps≠[]) (hz:ps.length<=1000) (nd:(z::TI::TO::its).Nodup) :
  aCF P w K (.Tuple elts x1 tpos) (Itn K ps) (z::TI::TO::its) z (ZT z TI TO ps its):=by
 simp only [aS3,aB1,not_or] at nd;obtain ⟨⟨n1,n2,n3⟩,⟨n4,n5⟩,n6,n7⟩:=nd;have apart:∀{X:Cx} {pins:List (aVA×Obj)} {σ:St} {H:Hp} {s:Shared} {qs:List ZQ},aT X pins σ H s->(∀c∈z::TI::TO::its,jP X pins H c)->qs.map (·.it)=its->(∀q∈qs,∃xs,u7 q.κ X.K H q.a xs)->ZA z TI TO qs:=by
  intro X pins σ H s qs I hf e1 hq;have mi:∀q∈qs,q.it∈its:=λq hq=>by rw [<-e1];exact aUH hq
  refine ⟨λe=>n1 e.symm,λe=>n2 e.symm,n4,λp hp=>⟨λe=>n3 (e ▸ mi p hp),λe=>n5 (e ▸ mi p hp),λe=>n6 (e ▸ mi p hp)⟩,λp hp=>?_,λp hp q hq'=>?_,λi j p q hi hj e=>?_⟩
  ·obtain ⟨xs,hx⟩:=hq p hp;exact ⟨I.notfp hx (hf z (by simp)),I.notfp hx (hf TO (by simp))⟩
  ·obtain ⟨xs,hx⟩:=hq p hp;exact I.notfp hx (hf q.it (by simp [mi q hq']))
  ·have hi':its[i]? = some p.it:=by rw [<-e1,aDF,hi];rfl
   have hj':its[j]? = some q.it:=by rw [<-e1,aDF,hj];rfl
   exact (aUP (aA7.mp hi').1 n7).mp (by rw [hi',hj',e])
 refine ⟨by simp,λi h st c hc=>?_,λi h h' st k=>?_,?_,?_,λ_ _ _ _ _ st h=>wpAny_pyIter_zip st.1 h⟩
 ·obtain ⟨s1,s2,⟨old,s3,_⟩,s4⟩:=st;simp only [aB1] at hc;rcases hc with rfl | rfl | rfl | hc
  ·exact ⟨_,s1,λv z=>by cases z⟩
  ·exact ⟨_,s2,λv z=>by cases z⟩
  ·exact ⟨_,s3,λv z=>by cases z⟩
  ·obtain ⟨j,hj⟩:=aRE hc;have hjl:j<ps.length:=by rw [<-hl];exact (aA7.mp hj).1
   exact (s4 j _ c (aAX hjl) hj).obj
 ·obtain ⟨s1,s2,⟨old,s3,s3'⟩,s4⟩:=st;exact ⟨k z (by simp) _ s1,k TI (by simp) _ s2,⟨old,k TO (by simp) _ s3,s3'⟩,λj p it hp hit=>(s4 j p it hp hit).at λo e=>k it (by simp [aFS hit]) o e⟩
 ·intro X hP hw hK hc i pins s σ H E I hf st hg;subst hP hw hK;obtain ⟨s1,s2,⟨old,s3,s3'⟩,s4⟩:=st;obtain ⟨qs,e1,e2,h3⟩:=exQ I ps its hl λp hp=>let ⟨xs,_,h,_⟩:=hg p hp;⟨xs,h⟩;have hlq:qs.length=ps.length:=by rw [<-e1,aBC]
  have ap:=apart I hf e2 λq hq=>let ⟨_,xs,h,_⟩:=h3 q hq;⟨xs,h⟩;have hA:X.A.in1.handled=none:=I.ok.hd hc;have hzz:s.TypeIs (.ref z) "zip":=⟨_,s1,rfl⟩;have atp:∀{j:Nat} {q:ZQ},qs[j]? = some q->ps[j]? = some (q.κ,q.a)/\its[j]? = some q.it:=λ{j q} h=>⟨by rw [<-e1,aDF,h];rfl,by rw [<-e2,aDF,h];rfl⟩;have gi:∀q∈qs,gM q.κ s.heap q.it q.a i/\oU q.κ s.heap q.a q.items:=λq hq=>by
   obtain ⟨j,hj⟩:=aRE hq;exact ⟨s4 j _ _ (atp hj).1 (atp hj).2,(h3 q hq).1⟩
  have gk:∀q∈qs,i<q.items.size:=λq hq=>by
   obtain ⟨j,hj⟩:=aRE hq;obtain ⟨xs,x,q1,q2⟩:=hg _ (aFS (atp hj).1);obtain ⟨_,ys,r1,r2⟩:=h3 q hq;rw [I.sqK_inj q1 r1] at q2;have:=(aA7.mp q2).1;have:=r2.length;simp at this;omega
  have gI:eT s.heap TI (qs.map λp=>aPQ p.it).toArray:=by
   have:(qs.map λp=>aPQ p.it)=its.map aPQ:=by rw [<-e2,aN1];rfl
   rw [this];exact s2
  unfold pyNext;refine aVB (wpAny_attempt (wpAny_callSpecial?_slot (name:=aTK "__next__") hzz F.slot_zip_next (aWA F.slot_zip_next hzz F.entry_zip_next
   (aCG hA ap (λz=>by rw [z] at hlq;exact hne (aSY (by simpa using hlq.symm))) (by omega) s1 gI s3 (by omega) gi gk λvs h' tk lv pv zz zo g1 zt sz kp=>aVE ?_) (F.args_zip_next_1 _))))
  refine ⟨_,rfl,wpAny_letOwnedTupleGo_zip zz λh2 z2 sb=>?_⟩;have hzn:z≠s.heap.objs.size:=aHH (aDD s1);have kk:∀c o,c∉z::TI::TO::its->s.heap.get? c=some o->h2.get? c=some o:=λc o hc q=>by
   simp only [aB1,not_or] at hc;refine sb.extBut c o hc.1 (kp c o hc.1 hc.2.2.1 (λq' hq' e=>hc.2.2.2 ?_) q);rw [e,<-e2];exact aUH hq'
  -- the items,as they are aIS
  obtain ⟨ys,hys,ry⟩:∃ys:List V,(ys.length=ps.length/\∀(j:Nat) (p:Bool×aVA) (y:V),ps[j]? = some p->ys[j]? = some y->∀xs,u7 p.1 X.K H p.2 xs->xs[i]? = some y)/\bF ys vs:=by
   have key:∀(n:Nat) (rs:List ZQ) (us:List Value),rs.length=n->us.length=n->(∀q∈rs,∃xs,u7 q.κ X.K H q.a xs/\bF xs q.items.toList)->(∀(l:Nat) (q:ZQ),rs[l]? = some q->∃x,q.items[i]? = some x/\us[l]? = some x)->
     ∃ys:List V,ys.length=n/\bF ys us/\∀(j:Nat) (q:ZQ) (y:V),rs[j]? = some q->ys[j]? = some y->∀xs,u7 q.κ X.K H q.a xs->xs[i]? = some y:=by
    intro n
    induction n with
    | zero=>
     intro rs us h1 h2 _ _;refine ⟨[],rfl,?_,λj q y hq=>?_⟩
     ·rw [aSY h2];exact .nil
     ·rw [aSY h1] at hq;simp at hq
    | succ n ih=>
     intro rs us h1 h2 h4 h5
     match rs,us,h1,h2 with
     | q::rs,u::us,h1,h2=>
      obtain ⟨ys,l1,l2,l3⟩:=ih rs us (by simpa using h1) (by simpa using h2) (λq' hq'=>h4 q' (by simp [hq'])) (λl q' hq'=>by have:=h5 (l+1) q' (by simpa using hq');simpa using this);obtain ⟨xs,a1,a2⟩:=h4 q (by simp);obtain ⟨x,b1,b2⟩:=h5 0 q rfl;simp at b2;subst b2;have b1':q.items.toList[i]? = some u:=by simpa using b1
      have hi:i<xs.length:=by rw [a2.length];exact (aA7.mp b1').1
      obtain ⟨u',c1,c2⟩:=a2.get (aAX hi);rw [b1'] at c1;cases c1;refine ⟨xs[i]::ys,by simp [l1],.cons c2 l2,λj q' y hq hy zs hz'=>?_⟩;cases j with
      | zero=>
       simp at hq hy;subst hq;subst hy;rw [I.sqK_inj hz' a1];exact aAX hi
      | succ j=>exact l3 j q' y (by simpa using hq) (by simpa using hy) zs hz'
   obtain ⟨ys,l1,l2,l3⟩:=key qs.length qs vs rfl lv (λq hq=>(h3 q hq).2) pv;refine ⟨ys,⟨by omega,λj p y hp hy xs hx=>?_⟩,l2⟩;have hjl:j<qs.length:=by rw [hlq];exact (aA7.mp hp).1
   have hq:=aAX hjl;have:=(atp hq).1;rw [hp] at this;cases this;exact l3 j _ y hq hy xs hx
  have new:c8 X.prog X.w (upd H s.heap.objs.size (.tup ys)) h2 s.heap.objs.size (.tup ys):=
   ⟨by rw [hys.1];exact aP1 (bQ hz),vs,ry,⟨_,sb.extBut _ _ (Ne.symm hzn) zt,rfl,_,rfl⟩⟩
  have up:∀{c:aVA} {o:Obj},c≠z->h'.get? c=some o->h2.get? c=some o:=λhc q=>sb.extBut _ _ hc q;refine ⟨.ref s.heap.objs.size,upd H s.heap.objs.size (.tup ys),I.turnedLaid (t':=tk) (ch:=z::TI::TO::its) kk hf (aDP _) new,rfl,
   ⟨_,ys,rfl,I.hok.fresh (aDP _),rfl,hys.1,hys.2⟩,⟨z2,up (λe=>n1 e.symm) (kp _ _ (λe=>n1 e.symm) n4 (λq hq=>λe=>(ap.iz q hq).2.1 e.symm) s2),?_,λj p it hp hit=>?_⟩,λc hc=>?_⟩
  ·obtain ⟨cur,u1,u2⟩:=zo;exact ⟨cur,up ap.oz u1,by omega⟩
  ·have hjl:j<qs.length:=by rw [hlq];exact (aA7.mp hp).1
   have hq:=aAX hjl;have q1:=(atp hq).1;have q2:=(atp hq).2;rw [hp] at q1;cases q1;rw [hit] at q2;cases q2;exact (g1 _ (aQI hjl)).at λo e=>up (ap.iz _ (aQI hjl)).1 e
  ·have hlt:c<s.heap.objs.size:=by
    simp only [aB1] at hc;rcases hc with rfl | rfl | rfl | hc
    ·exact aDD s1
    ·exact aDD s2
    ·exact aDD s3
    ·obtain ⟨j,hj⟩:=aRE hc;have hjl:j<ps.length:=by rw [<-hl];exact (aA7.mp hj).1
     obtain ⟨o,e,_⟩:=(s4 j _ c (aAX hjl) hj).obj;exact aDD e
   rw [aR (aHH hlt)];exact (hf c hc).1
 ·intro X hP hw hK hc i pins s σ H E I hf st hg;subst hP hw hK;obtain ⟨hall,m,pm,hm,⟨xm,hxm,hlm⟩,hb⟩:=hg;obtain ⟨s1,s2,⟨old,s3,s3'⟩,s4⟩:=st;obtain ⟨qs,e1,e2,h3⟩:=exQ I ps its hl hall;have hlq:qs.length=ps.length:=by rw [<-e1,aBC]
  have ap:=apart I hf e2 λq hq=>let ⟨_,xs,h,_⟩:=h3 q hq;⟨xs,h⟩;have hA:X.A.in1.handled=none:=I.ok.hd hc;have hzz:s.TypeIs (.ref z) "zip":=⟨_,s1,rfl⟩;have atp:∀{j:Nat} {q:ZQ},qs[j]? = some q->ps[j]? = some (q.κ,q.a)/\its[j]? = some q.it:=λ{j q} h=>⟨by rw [<-e1,aDF,h];rfl,by rw [<-e2,aDF,h];rfl⟩;have gi:∀q∈qs,gM q.κ s.heap q.it q.a i/\oU q.κ s.heap q.a q.items:=λq hq=>by
   obtain ⟨j,hj⟩:=aRE hq;exact ⟨s4 j _ _ (atp hj).1 (atp hj).2,(h3 q hq).1⟩
  have gI:eT s.heap TI (qs.map λp=>aPQ p.it).toArray:=by
   have:(qs.map λp=>aPQ p.it)=its.map aPQ:=by rw [<-e2,aN1];rfl
   rw [this];exact s2
  have hml:m<qs.length:=by rw [hlq];exact (aA7.mp hm).1
  have hqm:=aAX hml;have hpm:qs[m].items.size=i:=by
   have q1:=(atp hqm).1;rw [hm] at q1;cases q1;obtain ⟨_,ys,r1,r2⟩:=h3 _ (aQI hml);rw [I.sqK_inj hxm r1] at hlm;have:=r2.length;simp at this;omega
  have gk:∀(j:Nat) (q:ZQ),j<m->qs[j]? = some q->i<q.items.size:=λj q hj hq=>by
   obtain ⟨xs,x,q1,q2⟩:=hb j _ hj (atp hq).1;obtain ⟨_,ys,r1,r2⟩:=h3 q (eJ hq);rw [I.sqK_inj q1 r1] at q2;have:=(aA7.mp q2).1;have:=r2.length;simp at this;omega
  unfold pyNext;refine aVB (wpAny_attempt (wpAny_callSpecial?_slot (name:=aTK "__next__") hzz F.slot_zip_next (aWA F.slot_zip_next hzz F.entry_zip_next
   (aB4 hA ap (by omega) s1 gI s3 (by omega) gi hqm hpm gk λh' tk e kp he=>?_) (F.args_zip_next_1 _))))
  obtain ⟨o,ho,hco⟩:=he;refine aVB (wpAny_isInstance (T:="StopIteration") (b:=true) ⟨o,ho,hco⟩ isSubtype_stop (aVE ⟨rfl,?_⟩));refine I.turnedL (t':=tk) (ch:=z::TI::TO::its) (λc o hc q=>?_) hf;simp only [aB1,not_or] at hc;refine kp c o hc.1 hc.2.2.1 (λq' hq' e=>hc.2.2.2 ?_) q;rw [e,<-e2];exact aUH hq'
def dP:List T->List T->List T
 | x::xs,y::ys=>.tup [x,y]::dP xs ys
 | _,_=>[]
theorem nM:∀xs ys:List T,(dP xs ys).length=min xs.length ys.length
 | [],_=>by simp [dP]
 | _::_,[]=>by simp [dP]
 | _::xs,_::ys=>by simp [dP,nM xs ys]
theorem vJ:∀{xs ys:List T} {i:Nat} {t:T},(dP xs ys)[i]? = some t->∃x y,xs[i]? = some x/\ys[i]? = some y/\t = .tup [x,y]
 | [],_,_,_,h=>by simp [dP] at h
 | _::_,[],_,_,h=>by simp [dP] at h
 | x::_,y::_,0,_,h=>by simp [dP] at h;exact ⟨x,y,rfl,rfl,h.symm⟩
 | _::xs,_::ys,i+1,t,h=>by
  obtain ⟨x,y,h1,h2,h3⟩:=vJ (xs:=xs) (ys:=ys) (i:=i) (t:=t) (by simpa [dP] using h);exact ⟨x,y,by simpa using h1,by simpa using h2,h3⟩
def aMP (κ:Bool) (xs:List T):T:=match κ with
 | true=>.tup xs
 | false=>.lst xs
theorem sH {K:W.Frag} {H:Hp} {O:aVA->Prop} {κ:Bool} {xs:List T} {a:aVA} (h:Rp K H O (aMP κ xs) (.ref a)):∃vs,u7 κ K H a vs/\cG K H O xs vs:=by
 cases κ
 ·obtain ⟨a',vs,e,h1,h2⟩:=Rp.sqL h;cases e;exact ⟨vs,h1,h2⟩
 ·obtain ⟨a',vs,e,h1,h2⟩:=Rp.sqT h;cases e;exact ⟨vs,h1,h2⟩
theorem aA0 {K:W.Frag} {κ:Bool} {a b:aVA} {xs ys:List T}:aB0 K (Itn K [(κ,a),(κ,b)]) (dP xs ys) (λH O=>Rp K H O (aMP κ xs) (.ref a)/\Rp K H O (aMP κ ys) (.ref b)):=by
 refine ⟨λH H' O O' k h=>⟨Rp.step k h.1,Rp.step k h.2⟩,λi H O h hi=>?_,λi H O x H' t h e hO y=>?_,λH O h=>?_⟩
 ·obtain ⟨vs,s1,r1⟩:=sH h.1;obtain ⟨ws,s2,r2⟩:=sH h.2;rw [nM] at hi;intro p hp;simp only [aB1,aRO,or_false] at hp;rcases hp with rfl | rfl
  ·exact ⟨vs,vs[i]'(by rw [r1.length];omega),s1,aAX _⟩
  ·exact ⟨ws,ws[i]'(by rw [r2.length];omega),s2,aAX _⟩
 ·obtain ⟨vs,s1,r1⟩:=sH h.1;obtain ⟨ws,s2,r2⟩:=sH h.2;obtain ⟨q,us,e1,hq,e2,lu,hu⟩:=y;subst e1;subst e2;obtain ⟨t1,t2,g1,g2,rfl⟩:=vJ e;obtain ⟨v1,a1,b1⟩:=r1.get g1;obtain ⟨v2,a2,b2⟩:=r2.get g2
  match us,lu with
  | [u1,u2],_=>
   have z1:=hu 0 _ u1 rfl rfl vs s1;have z2:=hu 1 _ u2 rfl rfl ws s2;rw [a1] at z1;cases z1;rw [a2] at z2;cases z2;have k:Kp O O H (upd H q (.tup [v1,v2])):=Kp.upd hq;exact ⟨k,λb o z=>by rw [aR (aY z hq)];exact z,q,_,rfl,.inl ⟨λz=>hO q z hq,bT⟩,v1,_,rfl,b1.step k,v2,_,rfl,b2.step k,rfl⟩
 ·obtain ⟨vs,s1,r1⟩:=sH h.1;obtain ⟨ws,s2,r2⟩:=sH h.2;have l1:=r1.length;have l2:=r2.length;refine ⟨λp hp=>?_,?_⟩
  ·simp only [aB1,aRO,or_false] at hp;rcases hp with rfl | rfl
   ·exact ⟨vs,s1⟩
   ·exact ⟨ws,s2⟩
  ·rw [nM]
   by_cases c:xs.length<=ys.length
   ·exact ⟨0,_,rfl,⟨vs,s1,by omega⟩,λj q hj=>absurd hj (aTU _)⟩
   ·refine ⟨1,_,rfl,⟨ws,s2,by omega⟩,λj q hj hq=>?_⟩;obtain rfl:j=0:=by omega
    cases hq;exact ⟨vs,vs[min xs.length ys.length]'(by omega),s1,aAX _⟩
section
variable {X:Cx} {K:W.Frag} {pos:Pos} {Fr:FA}
def iZ2 (K:W.Frag) (ta:TA):TI:=λσ H R=>ta σ H λvs H1=>∃κ a b xs ys,vs=[.ref a,.ref b]/\u7 κ K H1 a xs/\u7 κ K H1 b ys/\R (Itn K [(κ,a),(κ,b)]) H1
theorem aQV {l r:Expr} {ta:TA} {p tpos:Pos} {elts:List Expr} {x1} (hg:Gl X "zip") (hm:X.mg "zip" = none) (ha:QA X [l,r] ta) (hs:bX l=false:=by rfl) (hs2:bX r=false:=by rfl) :
  QI X (.Tuple elts x1 tpos) (.Call (.Name "zip" p) [l,r] [] pos) (iZ2 X.K ta):=⟨by
 intro pins s σ H R I h;refine Call_ (nZ I hg hm boot_zip (PyProof.Rows.callWith_type1 (cF (ha.h pos pins s σ H _ I h) λus s1 ⟨vs,H1,I1,r1,q1⟩=>?_) (cN hs) (fG (by simp only [bJ,hs2];rfl))));obtain ⟨κ,a,b,xs,ys,rfl,ga,gb,q⟩:=q1;obtain ⟨u,v,rfl,ru,rv⟩:=bF.two r1;cases ru;cases rv;obtain ⟨ia,ra,qa⟩:=I1.sqK ga;obtain ⟨ib,rb,qb⟩:=I1.sqK gb;have fin:∀h',aWH h' (s1.heap.objs.size+4) (s1.heap.objs.size+2) (s1.heap.objs.size+3) .none->IsPair h' (s1.heap.objs.size+2) (.ref s1.heap.objs.size) (.ref (s1.heap.objs.size+1))->IsPair h' (s1.heap.objs.size+3) .none .none->
   gM κ h' s1.heap.objs.size a 0->gM κ h' (s1.heap.objs.size+1) b 0->(∀c o,s1.heap.get? c=some o->h'.get? c=some o)->
   aVC (aVG X.prog X.w) X.A (pyIter (.ref (s1.heap.objs.size+4))) (PIE X pins σ (.Tuple elts x1 tpos) R) X.xe { s1 with heap:=h' }:=λh' z1 z2 z3 z4 z5 kp=>by
  refine wpAny_pyIter_zip z1 ?_;refine ⟨s1.heap.objs.size+4,_,_,_,H1,rfl,I1.kept (t':=s1.toks) kp,aBR _ (s1.heap.objs.size+2) (s1.heap.objs.size+3) [(κ,a),(κ,b)] [s1.heap.objs.size,s1.heap.objs.size+1] rfl (by simp) (by simp) (nd5 _),⟨z1,z2,⟨_,z3,rfl⟩,λj pq it hp hit=>?_⟩,λc hc=>?_,q⟩
  ·match j,hp,hit with
   | 0,hp,hit=>cases hp;cases hit;exact z4
   | 1,hp,hit=>cases hp;cases hit;exact z5
  ·have hle:s1.heap.objs.size<=c:=ge5 hc;exact I1.fpOk hle (I1.hok.fresh hle)
 cases κ
 ·exact call_zip_2 qa qb λh' z1 z2 z3 z4 z5 _ kp=>fin h' z1 z2 z3 z4 z5 kp
 ·exact aC3 qa qb λh' z1 z2 z3 z4 z5 kp=>fin h' z1 z2 z3 z4 z5 kp⟩
def aPF (Fr:FA):FI:=λE Q=>Fr E λrs E1=>match rs with
 | [x,y]=>(match vl E1 x,vl E1 y with
  | some (.lst xs),some (.lst ys)=>Q (dP xs ys) (l8 E1 x++l8 E1 y) E1
  | some (.tup xs),some (.tup ys)=>Q (dP xs ys) (l8 E1 x++l8 E1 y) E1
  | _,_=>False)
 | _=>False
theorem uF {n:Nat} {l r:Expr} {p tpos:Pos} {elts:List Expr} {x1} (eK:X.K=K) (hg:Gl X "zip") (hm:X.mg "zip" = none) (ha:QA X [l,r] (dJ K n Fr)) (hs:bX l=false:=by rfl) (hs2:bX r=false:=by rfl) :
  QI X (.Tuple elts x1 tpos) (.Call (.Name "zip" p) [l,r] [] pos) (nF K (aPF Fr)):=by
 subst eK;refine (aQV hg hm ha hs hs2).le λσ H R hn ⟨B,S,E,Q',hS,re,hF,lk⟩=>⟨B,S,E,_,hS,re,hF,λrs E1 vs H1 S1 q g re1 rr hn=>?_⟩
 match rs,rr,q with
 | [x,y],⟨v,ws,e1,h1,u,ws',e2,h2,h3⟩,q=>
  cases h3;subst e2;subst e1;have own:∀j∈l8 E1 x++l8 E1 y,∃k xs,E1[j]? = some (some (U.o k xs)):=λj hj=>by
   rcases aM3.mp hj with h | h
   ·exact pG j h
   ·exact pG j h
  simp only at q;split at q
  ·rename_i xs ys e1 e2;obtain ⟨a,vs,e3,sq1,r1⟩:=re1.vl h1 e1;obtain ⟨b,us,e4,sq2,r2⟩:=re1.vl h2 e2;refine ⟨false,a,b,vs,us,by rw [e3,e4],sq1,sq2,lk _ _ _ _ _ _ _ q g re1 aA0 own λO k1 k2=>?_⟩;rw [<-e3,<-e4];exact ⟨kZ re1 h1 e1 O k1 λj hj=>k2 j (by simp [hj]),kZ re1 h2 e2 O k1 λj hj=>k2 j (by simp [hj])⟩
  ·rename_i xs ys e1 e2;obtain ⟨a,vs,e3,sq1,r1⟩:=re1.vl h1 e1;obtain ⟨b,us,e4,sq2,r2⟩:=re1.vl h2 e2;refine ⟨true,a,b,vs,us,by rw [e3,e4],sq1,sq2,lk _ _ _ _ _ _ _ q g re1 aA0 own λO k1 k2=>?_⟩;rw [<-e3,<-e4];exact ⟨kZ re1 h1 e1 O k1 λj hj=>k2 j (by simp [hj]),kZ re1 h2 e2 O k1 λj hj=>k2 j (by simp [hj])⟩
  ·exact q.elim
 | [],_,q=>exact q.elim
 | [_],_,q=>exact q.elim
 | _::_::_::_,_,q=>exact q.elim
end
end L2
namespace My
open PySem L2 PyProof.Rows
theorem vX (x y:Nat):aOM y (x%y)=aOM x y:=by
 rw [aUU x y,Nat.gcd_rec y x,aUU]
def rK (n d:Int):Int:=(if 0<d then n else -n)/((aOM n.natAbs d.natAbs:Nat):Int)
def mS (n d:Int):Int:=(if 0<d then d else -d)/((aOM n.natAbs d.natAbs:Nat):Int)
theorem vI {n d:Int} {g:Nat} (hd:0<d) (hg:g=aOM n.natAbs d.natAbs):(n/(g:Int)).natAbs<=n.natAbs/\1<=d/(g:Int)/\d/(g:Int)<=d/\aOM (n/(g:Int)).natAbs (d/(g:Int)).natAbs=1:=by
 have g0:0<g:=by rw [hg];exact aS9 _ (by omega)
 have dn:(g:Int)∣n:=by rw [hg];exact aPM.mpr (aR8 _ _)
 have dd:(g:Int)∣d:=by rw [hg];exact aPM.mpr (aSS _ _)
 have en:(n/(g:Int)).natAbs=n.natAbs/g:=by rw [Int.natAbs_ediv_of_dvd dn];simp
 have ed:(d/(g:Int)).natAbs=d.natAbs/g:=by rw [Int.natAbs_ediv_of_dvd dd];simp
 refine ⟨by rw [en];exact Nat.div_le_self _ _,?_,?_,?_⟩
 ·obtain ⟨k,hk⟩:=dd;have hg':(0:Int)<g:=by omega
  rw [hk,aRC _ (by omega)];rcases Int.lt_or_le 0 k with h | h
  ·omega
  ·have:(g:Int)*k<=0:=aT3 (by omega) h;omega
 ·exact Int.ediv_le_self _ (by omega)
 ·rw [en,ed,Nat.gcd_div (by rw [hg];exact aR8 _ _) (by rw [hg];exact aSS _ _),<-hg,Nat.div_self g0]
theorem kO {n d:Int} (hd:d≠0):(rK n d).natAbs<=n.natAbs/\1<=mS n d/\mS n d<=d.natAbs/\aOM (rK n d).natAbs (mS n d).natAbs=1:=by
 unfold rK mS
 by_cases h:0<d
 ·rw [if_pos h,if_pos h];have:=vI (n:=n) (d:=d) h rfl;refine ⟨this.1,this.2.1,?_,this.2.2.2⟩;have:=this.2.2.1;omega
 ·rw [if_neg h,if_neg h];have h':0 < -d:=by omega
  have:=vI (n:=-n) (d:=-d) h' rfl;simp only [aTM] at this;refine ⟨this.1,this.2.1,?_,this.2.2.2⟩;have:=this.2.2.1;omega
abbrev Fr:=Int×Int
structure cH (p:Fr):Prop where
 d:1<=p.2
 g:aOM p.1.natAbs p.2.natAbs=1
def low (n d:Int):Fr:=(rK n d,mS n d)
def iC (p q:Fr):Fr:=low (p.1*q.2+q.1*p.2) (p.2*q.2)
def bK (p q:Fr):Fr:=low (p.1*q.2-q.1*p.2) (p.2*q.2)
def fS (p q:Fr):Fr:=low (p.1*q.1) (p.2*q.2)
def aCP (p:Fr):Fr:=(-p.1,p.2)
def val (p:Fr):Rat:=(p.1:Rat)/(p.2:Rat)
theorem gU {n d:Int} (hd:d≠0):cH (low n d):=⟨(kO hd).2.1,(kO hd).2.2.2⟩
theorem aCH {n d:Int} (hd:d≠0):rK n d*d=n*mS n d:=by
 have dn:((aOM n.natAbs d.natAbs:Nat):Int)∣n:=aPM.mpr (aR8 _ _);have dd:((aOM n.natAbs d.natAbs:Nat):Int)∣d:=aPM.mpr (aSS _ _);have g0:((aOM n.natAbs d.natAbs:Nat):Int)≠0:=by
  have:=aS9 n.natAbs (show 0<d.natAbs by omega);omega
 unfold rK mS;generalize ((aOM n.natAbs d.natAbs:Nat):Int)=g at dn dd g0;obtain ⟨k,hk⟩:=dn;obtain ⟨m,hm⟩:=dd
 by_cases h:0<d
 ·rw [if_pos h,if_pos h,hk,hm,aRC _ g0,aRC _ g0];grind
 ·rw [if_neg h,if_neg h,hk,hm,<-Int.mul_neg,<-Int.mul_neg,aRC _ g0,aRC _ g0];grind
theorem kS {n d:Int} (hd:d≠0):val (low n d)=(n:Rat)/(d:Rat):=by
 have h:=aCH (n:=n) hd;have h1:=(kO (n:=n) hd).2.1;have a1:((mS n d:Int):Rat)≠0:=by
  have:mS n d≠0:=by omega
  exact_mod_cast this
 have a2:(d:Rat)≠0:=by exact_mod_cast hd
 have h':((rK n d:Int):Rat)*(d:Rat)=(n:Rat)*((mS n d:Int):Rat):=by exact_mod_cast h
 show ((rK n d:Int):Rat)/((mS n d:Int):Rat)=(n:Rat)/(d:Rat);grind
theorem cH.ne {p:Fr} (h:cH p):p.2≠0:=by have:=h.d;omega
theorem cH.neR {p:Fr} (h:cH p):(p.2:Rat)≠0:=by have:=h.ne;exact_mod_cast this
theorem gJ {p q:Fr} (hp:cH p) (hq:cH q):p.2*q.2≠0:=Int.mul_ne_zero hp.ne hq.ne
theorem jK {p q:Fr} (hp:cH p) (hq:cH q):val (iC p q)=val p+val q:=by
 have h1:=hp.neR;have h2:=hq.neR;unfold iC;rw [kS (gJ hp hq)];unfold val
 push_cast
 grind
theorem gP {p q:Fr} (hp:cH p) (hq:cH q):val (bK p q)=val p-val q:=by
 have h1:=hp.neR;have h2:=hq.neR;unfold bK;rw [kS (gJ hp hq)];unfold val
 push_cast
 grind
theorem gF {p q:Fr} (hp:cH p) (hq:cH q):val (fS p q)=val p*val q:=by
 have h1:=hp.neR;have h2:=hq.neR;unfold fS;rw [kS (gJ hp hq)];unfold val
 push_cast
 grind
theorem aH6 {p:Fr} (hp:cH p):val (aCP p) = - val p:=by
 have h1:=hp.neR;show ((-p.1:Int):Rat)/(p.2:Rat) = - ((p.1:Rat)/(p.2:Rat))
 push_cast
 grind
theorem eD {p q:Fr} (hp:cH p) (hq:cH q):cH (iC p q):=gU (gJ hp hq)
theorem cU {p q:Fr} (hp:cH p) (hq:cH q):cH (bK p q):=gU (gJ hp hq)
theorem bC {p q:Fr} (hp:cH p) (hq:cH q):cH (fS p q):=gU (gJ hp hq)
theorem aH2 {p:Fr} (hp:cH p):cH (aCP p):=⟨hp.d,by show aOM (-p.1).natAbs p.2.natAbs=1;rw [aTM];exact hp.g⟩
theorem b8 (n:Int):cH (n,1):=⟨by show (1:Int)<=1;decide,by simp⟩
theorem iJ {p q:Fr} (hp:cH p) (hq:cH q) (h:val p=val q):p=q:=by
 have h1:=hp.neR;have h2:=hq.neR;have e:p.1*q.2=q.1*p.2:=by
  unfold val at h;have h':(p.1:Rat)*q.2=q.1*p.2:=by grind
  exact_mod_cast h'
 have en:p.1.natAbs*q.2.natAbs=q.1.natAbs*p.2.natAbs:=by rw [<-aRF,<-aRF,e]
 have d1:p.2.natAbs∣q.2.natAbs:=by
  have:p.2.natAbs∣p.1.natAbs*q.2.natAbs:=by rw [en];exact Nat.dvd_mul_left _ _
  exact Nat.Coprime.dvd_of_dvd_mul_left (show aU3 p.2.natAbs p.1.natAbs by unfold aU3;rw [aUU];exact hp.g) this
 have d2:q.2.natAbs∣p.2.natAbs:=by
  have:q.2.natAbs∣q.1.natAbs*p.2.natAbs:=by rw [<-en];exact Nat.dvd_mul_left _ _
  exact Nat.Coprime.dvd_of_dvd_mul_left (show aU3 q.2.natAbs q.1.natAbs by unfold aU3;rw [aUU];exact hq.g) this
 have ed:p.2.natAbs=q.2.natAbs:=Nat.dvd_antisymm d1 d2;have ed':p.2=q.2:=by have:=hp.d;have:=hq.d;omega
 have e2:p.1=q.1:=by
  rw [ed'] at e;exact Int.eq_of_mul_eq_mul_right hq.ne e
 exact Prod.ext e2 ed'
theorem sP {x e:Nat} (h:x<2^e) (he:e<=8000):x<2^8000:=aEG h (aQ6 (by decide) he)
theorem bM {x y:Int} {e f:Nat} (hx:x.natAbs<2^e) (hy:y.natAbs<2^f):(x*y).natAbs<2^(e+f):=by
 rw [aRF,Nat.pow_add];exact Nat.mul_lt_mul'' hx hy
theorem o0 {x y:Int} {e:Nat} (hx:x.natAbs<2^e) (hy:y.natAbs<2^e):(x+y).natAbs<2^(e+1):=by
 have:=Int.natAbs_add_le x y;rw [Nat.pow_succ];omega
theorem iK {x y:Int} {e:Nat} (hx:x.natAbs<2^e) (hy:y.natAbs<2^e):(x-y).natAbs<2^(e+1):=by
 rw [Int.sub_eq_add_neg];exact o0 hx (by rw [aTM];exact hy)
def sz (p:Fr):Nat:=aUT (aUV p.1.natAbs) (aUV p.2.natAbs)+1
theorem iX (p:Fr):p.1.natAbs<2^sz p:=aEG Nat.lt_log2_self (aQ6 (by decide) (Nat.succ_le_succ (Nat.le_max_left _ _)))
theorem dZ (p:Fr):p.2.natAbs<2^sz p:=aEG Nat.lt_log2_self (aQ6 (by decide) (Nat.succ_le_succ (Nat.le_max_right _ _)))
theorem aER {n e:Nat} (h:n<2^e) (he:1<=e):aUV n+1<=e:=by
 by_cases c:n=0
 ·subst c;have:aUV 0=0:=by simp
  omega
 ·exact (aU2 c).mpr h
theorem j8 {p:Fr} {e:Nat} (h1:p.1.natAbs<2^e) (h2:p.2.natAbs<2^e) (he:1<=e):sz p<=e:=by
 have a:=aER h1 he;have b:=aER h2 he;unfold sz;have:aUT (aUV p.1.natAbs) (aUV p.2.natAbs)<=e-1:=aUB.mpr ⟨by omega,by omega⟩;omega
theorem aF1 (p:Fr):1<=sz p:=by unfold sz;omega
theorem nG {n d:Int} {e:Nat} (hd:d≠0) (h1:n.natAbs<2^e) (h2:d.natAbs<2^e) (he:1<=e):sz (low n d)<=e:=by
 have lf:=kO (n:=n) hd;refine j8 (aOL lf.1 h1) ?_ he;show (mS n d).natAbs<2^e;omega
theorem t8 {p q:Fr} (hp:cH p) (hq:cH q):sz (iC p q)<=sz p+sz q+1:=
 nG (gJ hp hq) (o0 (bM (iX p) (dZ q)) (by rw [Nat.add_comm];exact bM (iX q) (dZ p))) (aEG (bM (dZ p) (dZ q)) (aQ6 (by decide) (by omega))) (by omega)
theorem yB {p q:Fr} (hp:cH p) (hq:cH q):sz (bK p q)<=sz p+sz q+1:=
 nG (gJ hp hq) (iK (bM (iX p) (dZ q)) (by rw [Nat.add_comm];exact bM (iX q) (dZ p))) (aEG (bM (dZ p) (dZ q)) (aQ6 (by decide) (by omega))) (by omega)
theorem gK {p q:Fr} (hp:cH p) (hq:cH q):sz (fS p q)<=sz p+sz q:=
 nG (gJ hp hq) (bM (iX p) (iX q)) (bM (dZ p) (dZ q)) (by have:=aF1 p;omega)
theorem eY {g:FG} {F:FS} {D:ET} {items:List T} {E:En} (W:Nat->En->Prop) (h0:W 0 E)
  (hs:∀i x rest E,items[i]? = some x->W i E->(∀E',W (i+1) E'->cO g F D rest E')->cO g F D (x::rest) E) (hd:∀E,W items.length E->D.nx E):cO g F D items E:=by
 have key:∀n i E,items.length-i=n->i<=items.length->W i E->cO g F D (items.drop i) E:=by
  intro n
  induction n with
  | zero=>
   intro i E e hi h;obtain rfl:i=items.length:=by omega
   rw [aS0];exact hd E h
  | succ n ih=>
   intro i E e hi h;have hlt:i<items.length:=by omega
   rw [aQ3 hlt];exact hs i _ _ E (aAX hlt) h λE' h'=>ih (i+1) E' (by omega) (by omega) h'
 exact key _ 0 E rfl (aQ5 _) h0
theorem aCA {g:FG} {Fe:FE} {items:List T} {E:En} {Q:En->Prop} (W:Nat->En->Prop) (h0:W 0 E)
  (hs:∀i x rest E,items[i]? = some x->W i E->(∀E',W (i+1) E'->gZ g Fe rest E' Q)->gZ g Fe (x::rest) E Q) (hd:∀E,W items.length E->Q E):gZ g Fe items E Q:=by
 have key:∀n i E,items.length-i=n->i<=items.length->W i E->gZ g Fe (items.drop i) E Q:=by
  intro n
  induction n with
  | zero=>
   intro i E e hi h;obtain rfl:i=items.length:=by omega
   rw [aS0];exact hd E h
  | succ n ih=>
   intro i E e hi h;have hlt:i<items.length:=by omega
   rw [aQ3 hlt];exact hs i _ _ E (aAX hlt) h λE' h'=>ih (i+1) E' (by omega) (by omega) h'
 exact key _ 0 E rfl (aQ5 _) h0
def fr (p:Fr):T:=.tup [.int p.1,.int p.2]
def vc (x y:Fr):T:=.tup [fr x,fr y]
theorem aJ2 (p q:Fr):eH (fr p) (fr q)=decide (p=q):=by
 rw [aP4];simp [fr,L2.eH,L2.oP,Prod.ext_iff]
theorem aQD (x y x' y':Fr):eH (vc x y) (vc x' y')=decide (x=x'/\y=y'):=by
 rw [aP4];simp [vc,L2.eH,L2.oP,aJ2]
def aA9 (i j:Int):Prop:=aAP i j\/aHQ i j
theorem aV {X:Cx}:kU X (aV2 .Mult) (rI aA9 λi j=>.int (i*j)):=by
 intro pins s σ H x y v u Q I rx ry h;obtain ⟨i,j,e1,e2,hc,q⟩:=h;rcases hc with hc | hc
 ·exact aHX pins s σ H x y v u Q I rx ry ⟨i,j,e1,e2,hc,q⟩
 ·exact aL4 pins s σ H x y v u Q I rx ry ⟨i,j,e1,e2,hc,q⟩
theorem gN {i j:Int} {e:Nat} (h1:i.natAbs<2^e) (h2:j.natAbs<2^e) (he:e<=8000):aA9 i j:=.inl ⟨sP h1 he,sP h2 he⟩
theorem rM {i j:Int} (h1:i.natAbs<2^60):aA9 i j:=.inr (.inl (by omega))
theorem t5 {i j:Int} (h1:j.natAbs<2^60):aA9 i j:=.inr (.inr (by omega))
theorem aI7:aVS "bool" = some (.type "bool"):=by decide +kernel
structure Txt (mg:Str->Option Value):Prop where
 n_isinstance:mg "isinstance" = none
 n_abs:mg "abs" = none
 n_divmod:mg "divmod" = none
 n_min:mg "min" = none
 n_max:mg "max" = none
 n_all:mg "all" = none
 n_len:mg "len" = none
 n_int:mg "int" = none
 n_bool:mg "bool" = none
 n_tuple:mg "tuple" = none
 n_list:mg "list" = none
 n_str:mg "str" = none
 n_range:mg "range" = none
 n_enumerate:mg "enumerate" = none
 n_zip:mg "zip" = none
structure wA (mg:Str->Option Value) (K:W.Frag) (x:Str) (t:L2.T):Prop where
 ex:∃a,mg x=some (.ref a)/\∀H O,Rp K H O t (.ref a)
theorem aBA {X:Cx} {K:W.Frag} {x:Str} {t:L2.T} {pos:Pos} (hg:Gl X x) (c:wA X.mg K x t) (hd:(x==("__debug__":Str))=false:=by decide):QE X (.Name x pos) (aL K (fC t)):=by
 obtain ⟨a,h1,h2⟩:=c.ex;exact QE.le (t:=tC (.ref a)) ⟨aAF (v:=.ref a) hg h1 rfl hd⟩ λσ H Q hl ⟨B,S,E,Q',hS,re,hF,lk⟩=>lk _ _ _ _ _ hF .refl re (h2 _ _)
theorem pM {K:W.Frag} {a:aVA} {od:Option aVA} {i j:Int} {t u:Tok} {n:Nat} {sl:Array (Option Value)} (h:K.lookup a=some ⟨.type "tuple",od,.seq #[.int i t,.int j u] n,sl⟩) (H:Hp) (O:aVA->Prop):Rp K H O (.tup [.int i,.int j]) (.ref a):=
 ⟨a,[.int i,.int j],rfl,.inr ⟨_,_,n,h,rfl,rfl,by show 2<=aVI;decide,.cons ⟨t,rfl⟩ (.cons ⟨u,rfl⟩ .nil)⟩,_,_,rfl,rfl,_,_,rfl,rfl,rfl⟩
end My
namespace My
open PySem L2 PyProof.Rows
end My
namespace L2
open PySem PySem.Spec PyProof.Rows
theorem jX {prog:aVD} {w:aVH} {A:Around} {R:Result->Shared->Prop} {s:Shared} {elt target iter c:Expr} {scope:aVV} {pos:Pos} {it acc:Value} {env:Env} (I:Nat->Shared->Prop)
  (turn:∀n s,I n s->aVC (aVG prog w) A (pyNext it) (λr s₁=>match r with
   | none=>R (.ok .next) s₁
   | some v=>aVC (aVG prog w) A (aWD target it v) (λ_ s₂=>aVC (aVG prog w) A (aV5 target env v) (λ_ s₃=>aVC (aVG prog w) A (isTrue c env (aVP c env)) (λok s₃'=>if ok=true then aVC (aVG prog w) A (aVP elt env) (λx s₄=>
     aVC (aVG prog w) A (call (.builtin "list.append") [acc,x]) (λ_ s₅=>∃m,m<n/\I m s₅) (λ_ _=>False) s₄) (λ_ _=>False) s₃' else ∃m,m<n/\I m s₃') (λ_ _=>False) s₃) (λ_ _=>False) s₂) (λ_ _=>False) s₁) (λ_ _=>False) s)
  (n:Nat) (h:I n s):aWN (aVG prog w) A (.compLoop (.ListComp elt [⟨target,iter,[c],0⟩] scope pos) 0 it acc env) R s:=by
 refine codeAny_loop rfl I (λn s hI=>?_) n h;show aVC _ A ((compTurn (.ListComp elt [⟨target,iter,[c],0⟩] scope pos) 0 it acc env).onRaise (λx=>do noteFrame x env;theTreesLotGoes x)) _ _ s;refine wpAny_noted ?_;rw [compTurn_list];refine aVB (aWB (aVB (aVR (turn n s hI) (λr s₁ h₁=>?_) λ_ _ h'=>h'.elim)));cases r with
 | none=>exact aVE h₁
 | some v=>
  refine aVB (aVR h₁ (λ_ s₂ h₂=>aVB (aVR h₂ (λ_ s₃ h₃=>aVB (aVR (wpAny_tests_one h₃) (λok s₃' h₃'=>?_) λ_ _ h'=>h'.elim)) λ_ _ h'=>h'.elim)) λ_ _ h'=>h'.elim);cases ok with
  | false=>exact aVE ⟨rfl,h₃'⟩
  | true=>
   exact aVB (aVB (aVR h₃' (λx s₄ h₄=>aVB (aVR h₄ (λ_ s₅ h₅=>aVE (aVE ⟨rfl,h₅⟩)) λ_ _ h'=>h'.elim)) λ_ _ h'=>h'.elim))
def aNM (J:It) (D:aVA) (g:TG) (tb:TT) (te:TE) (Q:VK) (σ:St) (H:Hp):Prop:=∃W:Nat->Nat->St->Hp->Prop,(∃m,W 0 m σ H)/\∀i m σ' H',W i m σ' H'->
 (J.stop i H'/\Q (.ref D) H')\/(J.go i H'/\∀x H2,J.yld i H' x H2->g x σ' H2 λσ3 H3=>tb σ3 H3 λok H3'=>if ok=true then te σ3 H3' λy H4=>∃ys,H4 D=some (.lst ys)/\ys.length<aVI/\∃m',m'<m/\W (i+1) m' σ3 (upd H4 D (.lst (ys++[y]))) else ∃m',m'<m/\W (i+1) m' σ3 H3')
def yM (t:Nat) (cap:List Nat) (wi:TI) (g:TG) (tb:TT) (te:TE):TE:=λσ H Q=>wi σ H λJ H1=>∀D,H1 D=none->aNM J D g tb te Q (dO t cap σ) (upd H1 D (.lst []))
section
variable {X:Cx}
theorem aEF {target elt iter c:Expr} {scope:aVV} {pos:Pos} {N':List Str} {cap:List Nat} {t:Nat} {wi:TI} {g:TG} {tb:TT} {te:TE} (hc:X.calm=true) (S:bN X N' scope t cap) (hi:PI X target iter wi)
  (hg:∀C s3 H3 fp,PG (cV X N' scope C s3 H3 fp) target g) (hb:∀C s3 H3 fp,PT (cV X N' scope C s3 H3 fp) c tb) (he:∀C s3 H3 fp,PE (cV X N' scope C s3 H3 fp) elt te) (hs:∀x,aVN iter X.env x=pure x:=by intro _;rfl) :
  PE X (.ListComp elt [⟨target,iter,[c],0⟩] scope pos) (yM t cap wi g tb te):=by
 intro pins s σ H Q I h;rw [eval_ListComp];refine wpAny_comprehension_free (use:=none) (cl:=lW scope X.env) rfl hs (iS λy hy hf=>I.ok.has y.1 (S.free y hy hf)) S.kind S.names (cF (hi pins s σ H _ I h) λv s1 h1=>cF h1 λitv s2 h2=>?_);obtain ⟨it,fp,tn,J,H2,e,I2,T,st2,f2,h2⟩:=h2;subst e;refine aVQ (wpAny_newFunctionEnv S.cell (by intro y hy;simp at hy) (λh₁ hns₁ hsb₁=>?_) S.kind)
 dsimp only at hns₁ hsb₁ ⊢
 obtain ⟨s3,hs3⟩:∃s3:Shared,s3 = { s2 with heap:=s2.heap.push { cls:=.type "list",dict:=none,data:=.seq ([]:List Value).toArray } }:=⟨_,rfl⟩;have hD:H2 s2.heap.objs.size=none:=I2.hok.fresh (aDP _);have I3:aT X pins σ (upd H2 s2.heap.objs.size (.lst [])) s3:=by
  rw [hs3];exact I2.laid (t':=s2.toks) (λb u e=>aDA _ e) (aDP _) ⟨aQ5 _,[],0,.nil,aG4 _ rfl⟩
 have hsz3:s3.heap.objs.size=s2.heap.objs.size+1:=by rw [hs3];exact aSZ ..
 have old3:∀b o,s2.heap.get? b=some o->s3.heap.get? b=some o:=λb o e=>by rw [hs3];exact aDA _ e
 have hC:(s2.heap.push { cls:=.type "list",dict:=none,data:=.seq ([]:List Value).toArray }).objs.size=s3.heap.objs.size:=by rw [hs3]
 have f3:∀b∈fp,jP X pins (upd H2 s2.heap.objs.size (.lst [])) b:=λb hb=>by
  obtain ⟨o,ho,_⟩:=T.obj _ _ st2 b hb;refine ⟨?_,(f2 b hb).2⟩;rw [aR (aHH (aDD ho))];exact (f2 b hb).1
 have ob3:∀b∈fp,∃o,s3.heap.get? b=some o:=λb hb=>by
  obtain ⟨o,ho,_⟩:=T.obj _ _ st2 b hb;exact ⟨o,old3 b o ho⟩
 have k1:∀b o,s3.heap.get? b=some o->h₁.get? b=some o:=λb o e=>by
  refine hsb₁.extBut b o ?_ ?_
  ·rw [hC];exact aHH (aDD e)
  ·rw [hs3] at e;exact aDA _ e
 have hns:h₁.Ns s3.heap.objs.size λ_=>none:=by
  rw [<-hC];exact hns₁
 have I4:=lV (tk:=s2.toks+([]:List (Str×Value)).length) S I3 f3 ob3 hns k1;have st4:tn 0 h₁:=T.keep _ _ _ st2 λb hb o e=>k1 b o (old3 b o e);obtain ⟨W,⟨m0,w0⟩,turn⟩:=h2 _ hD
 -- the block's context
 obtain ⟨X',hX'⟩:∃X':Cx,X'=cV X N' scope s3.heap.objs.size s3 (upd H2 s2.heap.objs.size (.lst [])) fp:=⟨_,rfl⟩;have hg':PG X' target g:=by rw [hX'];exact hg _ _ _ _
 have he':PE X' elt te:=by rw [hX'];exact he _ _ _ _
 have hb':PT X' c tb:=by rw [hX'];exact hb _ _ _ _
 have stat:∀{H':Hp},(∀b∈fp,H' b=none)->∀b∈fp,jP X' [] H' b:=λhn b hb=>by
  obtain ⟨o,ho⟩:=ob3 b hb;rw [hX'];refine ⟨hn b hb,aHH (aDD ho),?_,.inl hb,λx c e=>(f3 b hb).2.2.2.2.1 x c (mB e),λp hp=>absurd (show p∈([]:List (aVA×Obj)) from hp) (by simp)⟩;intro hz;rcases aB1.mp (I3.stkSub b hz) with z | z
  ·exact (f3 b hb).2.1 z
  ·exact (f3 b hb).2.2.1 z
 have hcalm:X'.calm=true:=by rw [hX'];exact hc
 have loop:aWN (aVG X.prog X.w) X.A (.compLoop (.ListComp elt [⟨target,iter,[c],0⟩] scope pos) 0 (.ref it) (.ref s2.heap.objs.size) (compEnvC scope (lW scope X.env) s3.heap.objs.size X.env))
   (compPost (aVG X.prog X.w) X.A X.xe none (EP X pins σ Q) (.ref s2.heap.objs.size) s3.heap.objs.size) { s3 with heap:=h₁,toks:=s2.toks+([]:List (Str×Value)).length }:=by
  refine jX (λn s'=>∃i σ' H',aT X' [] σ' H' s'/\tn i s'.heap/\(∀b∈fp,H' b=none)/\W i n σ' H') ?_ m0 ⟨0,dO t cap σ,_,by rw [hX'];exact I4,st4,λb hb=>(f3 b hb).1,w0⟩;rintro n s5 ⟨i,σ5,H5,I5,st5,fr5,w5⟩;rcases turn i n σ5 H5 w5 with ⟨stop,qn⟩ | ⟨go,step⟩
  ·have q:=T.done X' (by rw [hX'];rfl) (by rw [hX'];rfl) (by rw [hX'];rfl) hcalm i [] s5 σ5 H5 (λ_ _=>False) I5 (stat fr5) st5 stop;have eA:X'.A=X.A:=by rw [hX'];rfl
   rw [eA] at q;refine cF q λr s6 ⟨hr,I6⟩=>?_;subst hr;obtain ⟨m,hn,_⟩:=I6.loc;have hn':s6.heap.Ns s3.heap.objs.size m:=by rw [hX'] at hn;exact hn
   refine ⟨m,hn',λh' hs'=>?_⟩;have un6:Un (xP X.stack) fp (upd H2 s2.heap.objs.size (.lst [])) H5 s3.heap s6.heap:=by have:=I6.base;rw [hX'] at this;exact this
   have hok6:kT X.prog X.w H5 s6.heap:=by have:=I6.hok;rw [hX'] at this;exact this
   have free6:H5 s3.heap.objs.size=none:=by have:=I6.free;rw [hX'] at this;exact this
   have kp:∀b o,b≠s3.heap.objs.size->s6.heap.get? b=some o->h'.get? b=some o:=λb o hb e=>hs'.extBut b o hb e;have neC:∀{b:aVA} {o:Obj},s3.heap.get? b=some o->b≠s3.heap.objs.size:=λe=>aHH (aDD e);have un7:Un (xP X.stack) fp (upd H2 s2.heap.objs.size (.lst [])) H5 s3.heap h':=
    ⟨λb o e n1 n2 n3=>kp b o (neC e) (un6.keep b o e n1 n2 n3),λb o e n1 n2 n3=>by obtain ⟨sl,z⟩:=un6.slot b o e n1 n2 n3;exact ⟨sl,kp b _ (neC e) z⟩,un6.free,
     λb o e n3=>by obtain ⟨o',z⟩:=un6.there b o e n3;exact ⟨o',kp b _ (neC e) z⟩,un6.tups,un6.frzs,un6.tbls⟩
   have hok7:kT X.prog X.w H5 h':=λb ob e=>by
    refine (hok6 b ob e).stay (λc w' hc' q=>kp c w' ?_ q) (λ_ q=>q) λ_ _ q=>q;rintro rfl;rcases hc' with rfl | hc'
    ·rw [free6] at e;cases e
    ·rw [free6] at hc';cases hc'
   refine ⟨.ref s2.heap.objs.size,H5,I3.call' (s':={ s6 with heap:=h' }) (ch:=fp) ?_ un7 hok7 I6.bare (λb hb=>⟨(f3 b hb).2.2.2.1,(f3 b hb).2.1,(f3 b hb).2.2.2.2.1,(f3 b hb).2.2.2.2.2⟩),rfl,qn⟩;show s6.os=s3.os;have:=I6.os;rw [hX'] at this;exact this
  ·have q:=T.item X' (by rw [hX'];rfl) (by rw [hX'];rfl) (by rw [hX'];rfl) hcalm i [] s5 σ5 H5 (λ_ _=>False) I5 (stat fr5) st5 go;have eA:X'.A=X.A:=by rw [hX'];rfl
   have eP:X'.prog=X.prog:=by rw [hX'];rfl
   have eW:X'.w=X.w:=by rw [hX'];rfl
   have eE:X'.env=compEnvC scope (lW scope X.env) s3.heap.objs.size X.env:=by rw [hX'];rfl
   have eX:X'.xe=λ_ _=>False:=by rw [hX'];rfl
   rw [eA] at q;refine cF q λr s6 ⟨u,hr,h6⟩=>?_;subst hr;refine cF h6 λ_ s7 ⟨x,H7,I7,r7,y7,st7,fr7⟩=>?_;have I7':=I7.pinned (stat fr7) (T.obj _ _ st7);have q8:=hg' _ s7 σ5 H7 x u _ I7' r7 (step x H7 y7);rw [eA,eP,eW,eE,eX] at q8;refine cF q8 λ_ s8 ⟨σ8,H8,I8,w8⟩=>?_;have q8b:=hb' _ s8 σ8 H8 _ I8 w8;rw [eA,eP,eW,eE,eX] at q8b;refine cF q8b λok s8 ⟨H8,I8,w8⟩=>?_;cases ok with
   | false=>
    obtain ⟨m',hm,w9⟩:=w8;refine ⟨m',hm,i+1,σ8,_,I8.unpinned,T.keep _ _ _ st7 λb hb o e=>(I8.pin (b,o) (aG2 _ (aG2 _ (cR hb e)))).1,λb hb=>?_,w9⟩;obtain ⟨o,e,d⟩:=T.obj _ _ st7 b hb;exact (I8.pin (b,o) (aG2 _ (aG2 _ (cR hb e)))).2.1
   | true=>
    have q9:=he' _ s8 σ8 H8 _ I8 w8;rw [eA,eP,eW,eE,eX] at q9;refine cF q9 λy s9 ⟨v9,H9,I9,r9,ys,hD9,hlt,m',hm,w9⟩=>?_;have q10:=kK (X:=X') _ s9 σ8 H9 (.ref s2.heap.objs.size) [v9] (.ref s2.heap.objs.size) [y] (λ_ H10=>H10=upd H9 s2.heap.objs.size (.lst (ys++[v9]))) I9 rfl (.cons r9 .nil) ⟨_,ys,v9,rfl,rfl,hD9,hlt,rfl⟩;rw [eA,eP,eW,eX] at q10;refine cF q10 λ_ s10 ⟨v10,H10,I10,r10,e10⟩=>?_;subst e10;refine ⟨m',hm,i+1,σ8,_,I10.unpinned,T.keep _ _ _ st7 λb hb o e=>(I10.pin (b,o) (aG2 _ (aG2 _ (cR hb e)))).1,λb hb=>?_,w9⟩;obtain ⟨o,e,d⟩:=T.obj _ _ st7 b hb;exact (I10.pin (b,o) (aG2 _ (aG2 _ (cR hb e)))).2.1
 have es:({ s2 with heap:=h₁,toks:=s2.toks+([]:List (Str×Value)).length }:Shared) = { s3 with heap:=h₁,toks:=s2.toks+([]:List (Str×Value)).length }:=by rw [hs3]
 rw [es,hC];exact codeAny_compStart_list loop (T.self _ 0 _ _ _ st4 loop)
end
section
variable {X:Cx} {K:W.Frag} {pos:Pos} {I:FI} {g:FG} {Fb:FB} {Fe:FE}
def iO (g:FG) (Fb:FB) (Fe:FE):List T->En->(En->Prop)->Prop
 | [],E,Q=>Q E
 | x::xs,E,Q=>g x E λE2=>Fb E2 λb E2'=>if b=true then Fe E2' λr E3=>match r with
  | .p t=>(match E3[E.length-1]? with
   | some (some (.o false acc))=>acc.length<1000/\iO g Fb Fe xs ((E3.set (E.length-1) (some (.o false (acc++[t])))).take E.length) Q
   | _=>False)
  | .s _=>False
  else iO g Fb Fe xs (E2'.take E.length) Q
def aD2 (t:Nat) (cap:List (Nat×Bool)) (I:FI) (g:FG) (Fb:FB) (Fe:FE):FE:=λE Q=>I E λitems us E1=>cap.all (λk=>!(k.2&&us.contains k.1))=true/\
 iO g Fb Fe items (gQ t cap E1++[some (.o false [])]) λEin=>match Ein[t+cap.length]? with
  | some (some (.o false zs))=>iR zs=true/\o1 (oN t cap Ein E1) λE2=>Q (.s E2.length) (E2++[some (.o false zs)])
  | _=>False
theorem aBV {scope:aVV} {N':List Str} {cap:List (Nat×Bool)} {t:Nat} (S:bN X N' scope t (cap.map (·.1))) (ho:jF cap=true) (hnd:(cap.map (·.1)).Nodup) {σ:St} {H:Hp} {Q:VK} (hl:σ.length=X.N.length)
  (h:aL K (aD2 t cap I g Fb Fe) σ H Q):yM t (cap.map (·.1)) (nF K I) (mQ K g) (dQ K Fb) (aL K Fe) σ H Q:=by
 obtain ⟨B,S0,E,Q',hS,re,hF,lk⟩:=h;refine ⟨B,S0,E,_,hS,re,hF,λJ items us E1 H1 S1 gd q g1 re1 ok' husO hgd D hD=>?_⟩;obtain ⟨hus,q⟩:=q;obtain ⟨τ0,hS0⟩:=hS;obtain ⟨τ1,hS1⟩:=g1.pre;have hS1':∃τ,S1=σ++τ:=⟨τ0++τ1,by rw [hS1,hS0,aDE]⟩;have atσ:∀{j k:Nat} {b:Bool} {v:V},cap[j]? = some (k,b)->S1[k]? = some (some v)->σ[k]? = some (some v):=λ{j k b v} hj hv=>by
  obtain ⟨x,_,hx,_⟩:=S.caps j k (by rw [aDF,hj];rfl);have hk:k<σ.length:=by rw [hl];exact (aA7.mp hx).1
  obtain ⟨τ,rfl⟩:=hS1';rw [aG6 hk] at hv;exact hv
 have atC:∀{j k:Nat} {b:Bool} {v:V},cap[j]? = some (k,b)->S1[k]? = some (some v)->(dO t (cap.map (·.1)) σ)[t+j]? = some (some v):=λ{j k b v} hj hv=>by rw [m6 hj,atσ hj hv];rfl
 have backC:∀{j k:Nat} {b:Bool} {v:V},cap[j]? = some (k,b)->(dO t (cap.map (·.1)) σ)[t+j]? = some (some v)->S1[k]? = some (some v):=λ{j k b v} hj hv=>by
  rw [m6 hj] at hv;have:σ[k]? = some (some v):=by
   cases z:σ[k]? with
   | none=>rw [z] at hv;cases hv
   | some y=>rw [z] at hv;simpa using hv
  exact dF hS1' this
 obtain ⟨bx,hbx⟩:∃bx:Option aVA,∀a:aVA,bx=some a↔∃(j k:Nat) (kk:Bool) (xs:List T),cap[j]? = some (k,true)/\E1[k]? = some (some (.o kk xs))/\S1[k]? = some (some (.ref a)):=by
  by_cases hex:∃(a:aVA) (j k:Nat) (kk:Bool) (xs:List T),cap[j]? = some (k,true)/\E1[k]? = some (some (.o kk xs))/\S1[k]? = some (some (.ref a))
  ·obtain ⟨a,j,k,kk,xs,h1,h2,h3⟩:=hex;refine ⟨some a,λa'=>⟨λz=>(by cases z;exact ⟨j,k,kk,xs,h1,h2,h3⟩),λ⟨j',k',kk',xs',p1,p2,p3⟩=>?_⟩⟩;have e1:=bR ho h1;have e2:=bR ho p1;rw [e1] at e2;cases e2;rw [h3] at p3;cases p3;rfl
  ·exact ⟨none,λa=>⟨λz=>(by cases z),λz=>absurd ⟨a,z⟩ hex⟩⟩
 have bxOw:∀a,bx=some a->Ow B S1 E1 a:=λa z=>by
  obtain ⟨j,k,kk,xs,_,h2,h3⟩:=(hbx a).mp z;exact .inr ⟨k,kk,xs,h2,h3⟩
 -- an own list of the block is the box
 have capO:∀{i:Nat} {k:Bool} {xs:List T},(gQ t cap E1)[i]? = some (some (.o k xs))->∃j m kk,i=t+j/\cap[j]? = some (m,true)/\E1[m]? = some (some (.o kk xs))/\k=true:=λ{i k xs} h=>by
  obtain ⟨j,m,c,e1,e2,e3⟩:=mP h;refine ⟨j,m,?_⟩;cases qE:E1[m]? with
  | none=>rw [qE] at e3;cases e3
  | some u=>
   cases u with
   | none=>rw [qE] at e3;cases e3
   | some u=>
    cases u with
    | p _=>rw [qE] at e3;cases e3
    | o kk ys=>
     rw [qE] at e3;cases c
     ·simp [rR] at e3
     ·simp [rR] at e3;obtain ⟨e4,e5⟩:=e3;exact ⟨kk,e1,e2,by rw [e5],e4⟩
 have owIn:∀b,Ow (λa=>bx=some a) (dO t (cap.map (·.1)) σ) (gQ t cap E1) b->bx=some b:=λb z=>by
  rcases z with z | ⟨i,k,xs,h1,h2⟩
  ·exact z
  obtain ⟨j,m,kk,e1,e2,e3,_⟩:=capO h1;subst e1;exact (hbx b).mpr ⟨j,m,kk,xs,e2,e3,backC e2 h2⟩
 have kl:Kp (Ow B S1 E1) (Ow (λa=>bx=some a) (dO t (cap.map (·.1)) σ) (gQ t cap E1)) H1 H1:=Kp.less λb z=>bxOw b (owIn b z);have reIn:RE K (λa=>bx=some a) H1 (dO t (cap.map (·.1)) σ) (gQ t cap E1):=by
  refine ⟨by simp [dO,gQ],λi u h=>?_,λi k xs h=>?_,λi j k l xs ys a h1 h2 h3 h4=>?_,λa z=>re1.ow (bxOw a z)⟩
  ·obtain ⟨j,m,c,e1,e2,e3⟩:=mP h;subst e1;cases qE:E1[m]? with
   | none=>rw [qE] at e3;cases e3
   | some w=>
    cases w with
    | none=>rw [qE] at e3;cases e3
    | some w=>
     cases w with
     | p w=>
      rw [qE] at e3;cases e3;obtain ⟨v,h1,h2⟩:=re1.pure m _ qE;exact ⟨v,atC e2 h1,h2.step kl⟩
     | o kk ys=>
      rw [qE] at e3;cases c
      ·simp [rR] at e3;subst e3;obtain ⟨a,vs,h1,h2,h3,h4⟩:=re1.own m kk ys qE;refine ⟨_,atC e2 h1,a,vs,rfl,.inl ⟨λz=>?_,.inl h2⟩,h3.step kl⟩;obtain ⟨j',k',kk',xs',p1,p2,p3⟩:=(hbx a).mp (owIn a z);have e4:=re1.inj m k' kk kk' ys xs' a qE p2 h1 p3;subst e4;have lt1:j<(cap.map (·.1)).length:=by rw [aBC];exact (aA7.mp e2).1
       have lt2:j'<(cap.map (·.1)).length:=by rw [aBC];exact (aA7.mp p1).1
       have:j=j':=(aUP lt1 hnd).mp (by rw [aDF,aDF,e2,p1];rfl);subst this;rw [e2] at p1;cases p1
      ·simp [rR] at e3
  ·obtain ⟨j,m,kk,e1,e2,e3,e4⟩:=capO h;subst e1;subst e4;obtain ⟨a,vs,h1,h2,h3,h4⟩:=re1.own m kk _ e3;exact ⟨a,vs,atC e2 h1,h2,h3.step kl,⟨λ_=>(hbx a).mpr ⟨j,m,kk,_,e2,e3,h1⟩,λ_=>rfl⟩⟩
  ·obtain ⟨j1,m1,k1,e1,e2,_,_⟩:=capO h1;obtain ⟨j2,m2,k2,e3,e4,_,_⟩:=capO h2;have z1:=bR ho e2;have z2:=bR ho e4;rw [z1] at z2;cases z2;rw [e1,e3]
 -- the accumulator gets a place
 obtain ⟨gD,reD⟩:=reIn.lst (ts:=[]) (vs:=[]) hD rfl;have gd0:gd (upd H1 D (.lst [])) (Ow (λa=>bx=some a) (dO t (cap.map (·.1)) σ++[some (.ref D)]) (gQ t cap E1++[some (.o false [])])):=by
  refine ok'.keep _ _ _ _ gD.kp (hgd _ (λb z=>bxOw b (owIn b z)) λj hj a ha z=>?_);obtain ⟨j',k',kk',xs',p1,p2,p3⟩:=(hbx a).mp (owIn a z);obtain ⟨kj,xj,qj⟩:=husO j hj;have ej:=re1.inj j k' kj kk' xj xs' a qj p2 ha p3;subst ej;have:=aN7.mp hus (j,true) (aFS p1);simp [hj] at this
 have hn:(dO t (cap.map (·.1)) σ).length=t+cap.length:=by simp [dO]
 have hnE:(gQ t cap E1++[some (U.o false [])]).length=t+cap.length+1:=by simp [gQ];omega
 -- the turns
 refine ⟨λi m σ' H'=>m=items.length-i/\i<=items.length/\∃E',iO g Fb Fe (items.drop i) E' (λEin=>match Ein[t+cap.length]? with
   | some (some (.o false zs))=>iR zs=true/\o1 (oN t cap Ein E1) λE2=>Q' (.s E2.length) (E2++[some (.o false zs)])
   | _=>False)/\σ'.length=t+cap.length/\E'.length=t+cap.length+1/\RE K (λa=>bx=some a) H' (σ'++[some (.ref D)]) E'/\
   Gs (λa=>bx=some a) (upd H1 D (.lst [])) (dO t (cap.map (·.1)) σ++[some (.ref D)]) (gQ t cap E1++[some (.o false [])]) H' (σ'++[some (.ref D)]) E'/\gd H' (Ow (λa=>bx=some a) (σ'++[some (.ref D)]) E'),
  ⟨_,rfl,aQ5 _,_,q,hn,hnE,reD,Kp.refl _ _,gd0⟩,?_⟩
 rintro i m σ2 H2 ⟨rfl,hi',E3,q3,hl3,hE3,re3,g3,gd3⟩;rcases aRB i items.length with hlt | hge
 ·have hd:items.drop i=items[i]::items.drop (i+1):=aQ3 hlt;rw [hd] at q3;refine .inr ⟨ok'.go i H2 _ gd3 hlt,λx H4 y=>?_⟩;obtain ⟨k4,s4,rp⟩:=ok'.yld i H2 _ x H4 _ gd3 (aAX hlt) (λa z=>by obtain ⟨vs,e⟩:=re3.ow z;rw [e];intro z;cases z) y;have re4:=re3.kept s4;have gd4:=ok'.keep _ _ _ _ k4 gd3;refine ⟨_,[some (.ref D)],E3,_,_,re4,rp,q3,λσ5 H5 E5 q5 g5 re5 hl5=>?_⟩;have hE5:E5.length=t+cap.length+1:=by rw [<-re5.len];simp [hl5,hl3]
  refine ⟨_,σ5++[some (.ref D)],E5,_,⟨_,rfl⟩,re5,q5,λok E5' H5' S5' q5' g5' re5'=>?_⟩;have ll:E5.length<=E5'.length:=by
   obtain ⟨τ6,e6⟩:=g5'.pre;rw [<-re5.len,<-re5'.len,e6];simp
  cases ok with
  | false=>
   have q5':iO g Fb Fe (items.drop (i+1)) (E5'.take E3.length) _:=q5';obtain ⟨re8,ow8⟩:=re5'.cut (E:=E5) (σ:=σ5++[some (.ref D)]) g5'.pre re5.len;have eE:E5.length=E3.length:=by omega
   rw [eE] at re8 ow8;have gg:Gs (λa=>bx=some a) H4 (σ2++[some (.ref D)]) E3 H5' (σ5++[some (.ref D)]) (E5'.take E3.length):=(g5.trans g5'.kp).trans (Kp.less ow8);refine ⟨items.length-(i+1),by omega,rfl,hlt,_,q5',by omega,?_,re8,(g3.trans k4).trans gg,ok'.keep _ _ _ _ gg gd4⟩;rw [aMI];omega
  | true=>
   obtain ⟨τ5,hτ5⟩:=g5'.pre;refine ⟨_,S5',E5',_,⟨some (.ref D)::τ5,by rw [hτ5];simp⟩,re5',q5',λr E6 v H6 S6 q6 g6 re6 rr6=>?_⟩;have g6:=g5'.trans g6;cases r with
   | s _=>exact q6.elim
   | p u=>
    simp only at q6;have hlast:E3.length-1=t+cap.length:=by omega
    rw [hlast] at q6;split at q6
    ·rename_i acc hacc;obtain ⟨hlen,q6⟩:=q6;obtain ⟨a6,ws,p1,p2,p3,p4⟩:=re6.own _ _ _ hacc;have hS6:S6[t+cap.length]? = some (some (.ref D)):=dF g6.pre (by rw [aLZ (by omega)];simp [hl5,hl3]);rw [hS6] at p1;cases p1;obtain ⟨g7,re7⟩:=re6.put (ys:=acc++[u]) (ws:=ws++[v]) hacc hS6 (p3.append ⟨v,[],rfl,rr6,rfl⟩);obtain ⟨re8,ow8⟩:=re7.cut (E:=E5) (σ:=σ5++[some (.ref D)]) (g6.trans g7).pre re5.len;have eE:E5.length=E3.length:=by omega
     rw [eE] at re8 ow8;have gg:Gs (λa=>bx=some a) H4 (σ2++[some (.ref D)]) E3 (upd H6 D (.lst (ws++[v]))) (σ5++[some (.ref D)]) ((E6.set (t+cap.length) (some (.o false (acc++[u])))).take E3.length):=(g5.trans (g6.trans g7).kp).trans (Kp.less ow8);refine ⟨ws,p2,by rw [p3.length];exact bQ (aP1 hlen),items.length-(i+1),by omega,rfl,hlt,_,q6,by omega,?_,re8,(g3.trans k4).trans gg,ok'.keep _ _ _ _ gg gd4⟩;rw [aMI,aT8];have:E5.length<=E6.length:=by
      obtain ⟨τ6,e6⟩:=g6.pre;rw [<-re5.len,<-re6.len,e6];simp
     omega
    ·exact q6.elim
 ·have ei:i=items.length:=by omega
  subst ei;rw [aS0] at q3;refine .inl ⟨ok'.stop H2 _ gd3,?_⟩;have q3':(match E3[t+cap.length]? with
   | some (some (.o false zs))=>iR zs=true/\o1 (oN t cap E3 E1) λE2=>Q' (.s E2.length) (E2++[some (.o false zs)])
   | _=>False):=q3
  split at q3'
  ·rename_i zs hzs;obtain ⟨hnl,q3'⟩:=q3';obtain ⟨E2,e2,q3'⟩:=q3'.ex;obtain ⟨aD,ws,p1,p2,p3,p4⟩:=re3.own _ _ _ hzs;have hSD:(σ2++[some (V.ref D)])[t+cap.length]? = some (some (.ref D)):=by rw [aLZ (by omega)];simp [hl3]
   rw [hSD] at p1;cases p1
   -- what is kept of the heap around
   have ow0:∀b,Ow (λa=>bx=some a) (dO t (cap.map (·.1)) σ++[some (.ref D)]) (gQ t cap E1++[some (.o false [])]) b->bx=some b\/b=D:=λb z=>by
    rcases gD.kp.new b z with z | z
    ·exact .inl (owIn b z)
    ·rcases reD.ow (by assumption) with ⟨us',hu⟩
     by_cases c:b=D
     ·exact .inr c
     ·rw [aR c,z] at hu;cases hu
   have kept:∀b o,H1 b=some o->bx≠some b->H2 b=some o:=λb o e n=>by
    refine g3.keep b o (by rw [aR (aY e hD)];exact e) λz=>?_;rcases ow0 b z with z | z
    ·exact n z
    ·exact aY e hD z
   have hk:∀b o,H1 b=some o->¬Ow B S1 E1 b->H2 b=some o:=λb o e n=>kept b o e λz=>n (bxOw b z);have nD:H1 D=none:=hD;have lk1:=lk.step g1
   -- the names around
   have fin:∀{E2:En},RE K B H2 S1 E2->(∀b,Ow B S1 E2 b->Ow B S1 E1 b)->
     (∀(i:Nat) (k:Bool) (xs:List T),E2[i]? = some (some (.o k xs))->(E1[i]? = some (some (.o k xs))/\∀a,S1[i]? = some (some (.ref a))->H2 a=H1 a)\/∀a ws,S1[i]? = some (some (.ref a))->H2 a=some (.lst ws)->cG K H2 (cL H2) xs ws)->
     (∀(i:Nat) (u:T),E2[i]? = some (some (.p u))->E1[i]? = some (some (.p u)))->Q' (.s E2.length) (E2++[some (.o false zs)])->Q (.ref D) H2:=λ{E2} re' hw hE hP q=>by
    refine oY re1 re' hk hw hE hP (r:=.l zs) ⟨D,ws,rfl,hD,p2,cG.noL (λa z=>?_) hnl p3⟩ q lk1;rcases z with ⟨us',z⟩ | z
    ·by_cases c:bx=some a
     ·exact re3.ow (.inl c)
     ·exact ⟨us',kept a _ z c⟩
    ·exact ⟨ws,by rw [z];exact p2⟩
   unfold oN at e2;cases qb:kX cap with
   | none=>
    rw [qb] at e2;cases e2;have nb:∀b,bx≠some b:=λb z=>by
     obtain ⟨j,k,kk,xs,h1,_⟩:=(hbx b).mp z;rw [bR ho h1] at qb;cases qb
    have same:∀b o,H1 b=some o->H2 b=some o:=λb o e=>kept b o e (nb b);exact fin (re1.kept same) (λb z=>z) (λi k xs h=>.inl ⟨h,λa ha=>by
     obtain ⟨a',us',h1,h2,_⟩:=re1.own i k xs h;rw [ha] at h1;cases h1;rw [h2];exact same _ _ h2⟩) (λi u h=>h) q3'
   | some jk=>
    obtain ⟨j,k⟩:=jk;rw [qb] at e2;have hj:=lL qb;simp only at e2;split at e2
    ·rename_i kb xs0 ys hE1 hEi;split at e2
     ·cases e2;rename_i hny;obtain ⟨a0,us0,h1,h2,h3,h4⟩:=re1.own k kb xs0 hE1;have hbx0:bx=some a0:=(hbx a0).mpr ⟨j,k,kb,xs0,hj,hE1,h1⟩;obtain ⟨a',us1,r1,r2,r3,r4⟩:=re3.own _ true ys hEi;have:bx=some a':=r4.mp rfl;rw [hbx0] at this;cases this;have ow1:Ow B S1 E1 a0:=.inr ⟨k,kb,xs0,hE1,h1⟩;have lts:∀b,Ow B S1 E1 b->cL H2 b:=λb z=>by
       by_cases c:bx=some b
       ·rw [hbx0] at c;cases c;exact ⟨us1,r2⟩
       ·obtain ⟨us',e⟩:=re1.ow z;exact ⟨us',kept b _ e c⟩
      have cont:cG K H2 (cL H2) ys us1:=cG.noL (λ_ z=>z) hny r3;have getE:∀{i:Nat} {u:U},(E1.set k (some (.o kb ys)))[i]? = some (some u)->(i=k/\u = .o kb ys)\/(i≠k/\E1[i]? = some (some u)):=λ{i u} h=>by
       by_cases c:i=k
       ·subst c;rw [aOP (aA7.mp hE1).1] at h;cases h;exact .inl ⟨rfl,rfl⟩
       ·rw [aK0 (λz=>c z.symm)] at h;exact .inr ⟨c,h⟩
      have nk:∀{i:Nat} {l:Bool} {zs':List T} {a:aVA},i≠k->E1[i]? = some (some (.o l zs'))->S1[i]? = some (some (.ref a))->bx≠some a:=λ{i l zs' a} c z ha w=>by
       rw [hbx0] at w;cases w;exact c (re1.inj i k l kb zs' xs0 _ z hE1 ha h1)
      have owE:∀b,Ow B S1 (E1.set k (some (.o kb ys))) b->Ow B S1 E1 b:=λb z=>by
       rcases z with z | ⟨i,l,zs',z1,z2⟩
       ·exact .inl z
       rcases getE z1 with ⟨c,z⟩ | ⟨c,z⟩
       ·subst c;exact .inr ⟨_,kb,xs0,hE1,z2⟩
       ·exact .inr ⟨i,l,zs',z,z2⟩
      have kp:Kp (Ow B S1 E1) (Ow B S1 E1) H1 H2:=⟨hk,λb z=>.inl z⟩;refine fin (re1.step hk (by simp) (λi u h=>?_) (λi l zs' h=>?_) (λa z=>lts a (.inl z))) owE (λi l zs' h=>?_) (λi u h=>?_) q3'
      ·rcases getE h with ⟨_,z⟩ | ⟨_,z⟩
       ·cases z
       ·exact z
      ·rcases getE h with ⟨c,z⟩ | ⟨c,z⟩
       ·cases z;subst c;refine ⟨xs0,hE1,λa ha=>?_⟩;rw [h1] at ha;cases ha;exact ⟨us1,r2,cont.step (Kp.less lts)⟩
       ·refine ⟨zs',z,λa ha=>?_⟩;obtain ⟨a',us',p1',p2',p3',_⟩:=re1.own i l zs' z;rw [ha] at p1';cases p1';exact ⟨us',kept a _ p2' (nk c z ha),p3'.step kp⟩
      ·rcases getE h with ⟨c,z⟩ | ⟨c,z⟩
       ·cases z;subst c
        right
        intro a us2 ha hu;rw [h1] at ha;cases ha;rw [r2] at hu;cases hu;exact cont
       ·left
        refine ⟨z,λa ha=>?_⟩;obtain ⟨a',us',p1',p2',p3',_⟩:=re1.own i l zs' z;rw [ha] at p1';cases p1';rw [p2'];exact kept a _ p2' (nk c z ha)
      ·rcases getE h with ⟨_,z⟩ | ⟨_,z⟩
       ·cases z
       ·exact z
     ·cases e2
    ·rename_i tp hE1;cases e2;have nb:∀b,bx≠some b:=λb z=>by
      obtain ⟨j',k',kk,xs,h1,h2,_⟩:=(hbx b).mp z;rw [bR ho h1] at qb;cases qb;rw [hE1] at h2;cases h2
     have same:∀b o,H1 b=some o->H2 b=some o:=λb o e=>kept b o e (nb b);exact fin (re1.kept same) (λb z=>z) (λi k xs h=>.inl ⟨h,λa ha=>by
      obtain ⟨a',us',h1,h2,_⟩:=re1.own i k xs h;rw [ha] at h1;cases h1;rw [h2];exact same _ _ h2⟩) (λi u h=>h) q3'
    ·cases e2
  ·exact q3'.elim
theorem sE {target elt iter c:Expr} {scope:aVV} {N':List Str} {cap:List (Nat×Bool)} {t:Nat} (hc:X.calm=true) (S:bN X N' scope t (cap.map (·.1))) (ho:jF cap=true) (hnd:(cap.map (·.1)).Nodup) (hi:QI X target iter (nF K I))
  (hg:∀C s3 H3 fp,QG (cV X N' scope C s3 H3 fp) target (mQ K g)) (hb:∀C s3 H3 fp,QT (cV X N' scope C s3 H3 fp) c (dQ K Fb)) (he:∀C s3 H3 fp,QE (cV X N' scope C s3 H3 fp) elt (aL K Fe)) (hs:∀x,aVN iter X.env x=pure x:=by intro _;rfl) :
  QE X (.ListComp elt [⟨target,iter,[c],0⟩] scope pos) (aL K (aD2 t cap I g Fb Fe)):=
 QE.le (t:=yM t (cap.map (·.1)) (nF K I) (mQ K g) (dQ K Fb) (aL K Fe)) ⟨aEF hc S hi.h (λC s3 H3 fp=>(hg C s3 H3 fp).h) (λC s3 H3 fp=>(hb C s3 H3 fp).h) (λC s3 H3 fp=>(he C s3 H3 fp).h) hs⟩ λσ H Q hl h=>aBV S ho hnd hl h
end
end L2
namespace L2
open PySem PySem.Spec PyProof.Rows
def xX (t:T) (xs:List T):Bool:=xs.any λy=>eH y t
section
variable {X:Cx} {K:W.Frag} {pos:Pos} {a b e o:Expr} {Fa Fb Fo:FE} {Fr:FA}
theorem aKQ {H:Hp} {t:T} {e:Value->Bool} (he:∀(y:T) (w:V) (z:Value),Rq K H y w->bG w z->e z=eH y t):∀{xs:List T} {vs:List V} {its:List Value},rH K H xs vs->bF vs its->its.any e=xX t xs/\∀z∈its,∃y∈xs,∃w,Rq K H y w/\bG w z
 | [],_,_,h,r=>by cases h;cases r;exact ⟨rfl,λz hz=>by cases hz⟩
 | y::xs,_,_,h,r=>by
  obtain ⟨v,ws,rfl,h1,h2⟩:=h;cases r with
  | cons r1 r2=>
   obtain ⟨q1,q2⟩:=aKQ he h2 r2;refine ⟨?_,λz hz=>?_⟩
   ·rw [aTD,q1,he _ _ _ h1 r1];rfl
   ·rcases aB1.mp hz with rfl | hz
    ·exact ⟨y,aRA ..,v,h1,r1⟩
    ·obtain ⟨y',h3,h4⟩:=q2 z hz;exact ⟨y',aJV _ h3,h4⟩
def aQB (K:W.Frag) (ng:Bool):R2:=λx y H Q=>∃t xs p vs,Rq K H t x/\y = .ref p/\iU K H p vs/\rH K H xs vs/\zZ xs<=50/\Q (.bl (if ng then !(xX t xs) else xX t xs)) H
theorem aBJ {k:Nat} (hr:dD k X.A) {pins:List (aVA×Obj)} {s:Shared} {σ:St} {H:Hp} (I:aT X pins σ H s) {x:V} {v:Value} {t:T} {xs:List T} {vs:List V} {its:List Value} (ht:Rq X.K H t x) (rx:bG x v) (hxs:rH X.K H xs vs) (r:bF vs its) (hd:zZ xs<=50) :
  ∃e:Value->Bool,its.any e=xX t xs/\∀z∈its,SeqAt.EqAt X.A.in1 s z v (e z):=by
 obtain ⟨e,he⟩:∃e:Value->Bool,∀(y:T) (w:V) (z:Value),Rq X.K H y w->bG w z->e z=eH y t:=by
  refine ⟨λz=>@dite _ (∃y w,Rq X.K H y w/\bG w z) (Classical.propDecidable _) (λh=>eH (Classical.choose h) t) (λ_=>false),λy w z h1 h2=>?_⟩;have hex:∃y w,Rq X.K H y w/\bG w z:=⟨y,w,h1,h2⟩;show @dite _ (∃y w,Rq X.K H y w/\bG w z) (Classical.propDecidable _) (λh=>eH (Classical.choose h) t) (λ_=>false)=_;rw [dif_pos hex];obtain ⟨w',h3,h4⟩:=Classical.choose_spec hex;have:=z7 h2 h4;subst this;rw [Rq.inj I h3 h1]
 obtain ⟨q1,q2⟩:=aKQ he hxs r;refine ⟨e,q1,λz hz=>?_⟩;obtain ⟨y,hy,w,h1,h2⟩:=q2 z hz;rw [he _ _ _ h1 h2];have:=nW hy;exact (tT I 50 X.A.in1 y t w x z v (by omega) h1 ht h2 rx (by have:=hr.units;show X.A.units+1+50<aWG;omega)).2
theorem aNS {k:Nat} (hr:dD k X.A):kU X (aVU .In) (aQB X.K false):=by
 intro pins s σ H x y v u Q I rx ry h;obtain ⟨t,xs,p,vs,ht,rfl,hq,hxs,hd,q⟩:=h;cases ry;obtain ⟨its,r,pl,hz⟩:=I.list hq;obtain ⟨e,q1,q2⟩:=aBJ hr I ht rx hxs r hd;refine SeqAt.in_listAt e pl.isList (λw hw=>q2 w (by simpa using hw)) ⟨.bl _,H,I,rfl,?_⟩;rw [show its.toArray.any e=its.any e by simp,q1];exact q
theorem aHW {k:Nat} (hr:dD k X.A):kU X (aVU .NotIn) (aQB X.K true):=by
 intro pins s σ H x y v u Q I rx ry h;obtain ⟨t,xs,p,vs,ht,rfl,hq,hxs,hd,q⟩:=h;cases ry;obtain ⟨its,r,pl,hz⟩:=I.list hq;obtain ⟨e,q1,q2⟩:=aBJ hr I ht rx hxs r hd;refine SeqAt.notIn_listAt e pl.isList (λw hw=>q2 w (by simpa using hw)) ⟨.bl _,H,I,rfl,?_⟩;rw [show its.toArray.any e=its.any e by simp,q1];exact q
def fIn (ng:Bool) (Fa Fb:FE):FE:=λE Q=>Fa E λx E1=>Fb E1 λy E2=>t2 (vl E2 x) (vl E2 y) λt u=>match u with
 | .lst xs=>zZ xs<=50/\Q (.p (.bl (if ng then !(xX t xs) else xX t xs))) E2
 | _=>False
theorem aLD {k:Nat} (eK:X.K=K) (hr:dD k X.A) (ha:QE X a (aL K Fa)) (hb:QE X b (aL K Fb)) (hm:aVM .NotIn b=false):QT X (.Compare a [.NotIn] [b] pos) (dQ K (rG (fIn true Fa Fb))):=by
 subst eK;refine qH (aHW hr) ha hb hm λσ H Q h=>two (Fa:=Fa) (Fb:=Fb) h λB S E x y v w H2 Q' hS re rx ry q lk=>?_;obtain ⟨t,u,e1,e2,q⟩:=t2.ex q;split at q
 ·rename_i xs;obtain ⟨p,vs,e3,sq,rs⟩:=re.vl ry e2;exact ⟨t,xs,p,vs,(re.vl rx e1).rq,e3,sq,rs.rq,q.1,lk _ _ _ _ _ q.2 .refl re rfl⟩
 ·exact q.elim
theorem aGW {k:Nat} (eK:X.K=K) (hr:dD k X.A) (ha:QE X a (aL K Fa)) (hb:QE X b (aL K Fb)) (hm:aVM .In b=false):QT X (.Compare a [.In] [b] pos) (dQ K (rG (fIn false Fa Fb))):=by
 subst eK;refine qH (aNS hr) ha hb hm λσ H Q h=>two (Fa:=Fa) (Fb:=Fb) h λB S E x y v w H2 Q' hS re rx ry q lk=>?_;obtain ⟨t,u,e1,e2,q⟩:=t2.ex q;split at q
 ·rename_i xs;obtain ⟨p,vs,e3,sq,rs⟩:=re.vl ry e2;exact ⟨t,xs,p,vs,(re.vl rx e1).rq,e3,sq,rs.rq,q.1,lk _ _ _ _ _ q.2 .refl re rfl⟩
 ·exact q.elim
def z6:V->List V->Hp->VK->Prop:=λx vs H Q=>∃(l:aVA) (xs:List V) (k:Int) (i:Nat) (y:V),x = .ref l/\vs=[.int k,y]/\k=(i:Int)/\H l=some (.lst xs)/\i<=xs.length/\xs.length<aVI/\i<1000000/\Q .non (upd H l (.lst (xs.take i++y::xs.drop i)))
theorem aCT:MtM X "list.insert" z6:=by
 intro pins s σ H x vs v us Q I rx rv h;obtain ⟨l,xs,k,i,y,rfl,rfl,hk,hH,hi,hz,hi6,q⟩:=h;cases rx;obtain ⟨u,w,rfl,ru,rw'⟩:=bF.two rv;obtain ⟨t,rfl⟩:=ru;obtain ⟨z,its,n,r,hl,e⟩:=I.lstM hH;have hlen:=r.length;have hf:Builtin.List.listFitsIndex k=true:=by
  rw [hk];unfold Builtin.List.listFitsIndex;simp;omega
 have hc:¬(!Builtin.List.listFitsIndex k)=true:=by rw [hf];decide
 have hs1:its.toArray.size<=aVI:=by rw [aF0,<-hlen];exact aP1 hz
 have hset:=I.lset (t':=s.toks) (its':=its.take i++w::its.drop i) (ys:=xs.take i++y::xs.drop i) (f:=λys=>(ys.extract 0 (if k<0 then (k+(ys.size:Int)).toNat else min k.toNat ys.size)).push w++ys.extract (if k<0 then (k+(ys.size:Int)).toNat else min k.toNat ys.size)) hH e (by
  have e1:(if k<0 then (k+(its.toArray.size:Int)).toNat else min k.toNat its.toArray.size)=i:=by
   rw [hk,if_neg (by omega),aQ8,aF0];omega
  show (its.toArray.extract 0 (if k<0 then (k+(its.toArray.size:Int)).toNat else min k.toNat its.toArray.size)).push w++its.toArray.extract (if k<0 then (k+(its.toArray.size:Int)).toNat else min k.toNat its.toArray.size)=_;rw [e1];exact W.kl_ins_eq its i w) ((r.take i).append (.cons rw' (r.drop i))) (by
  have el:(xs.take i++y::xs.drop i).length=xs.length+1:=by
   rw [aIG,aKX,aMI,aTO];omega
  rw [el];exact hz)
 obtain ⟨arr,harr⟩:∃arr:Array Value,arr=its.toArray:=⟨_,rfl⟩;rw [<-harr] at hs1 e;have M:=PySem.AutoSeq1.list_insert_list_int_val_1 l arr n k t w hc hs1;refine call_meets PySem.F.slot_list_insert ⟨_,e,rfl⟩ PySem.F.entry_list_insert (PySem.F.args_list_insert_3 _ _ _) M ⟨e,?_⟩;exact ⟨.non,_,hset,rfl,q⟩
def aNN:List R->Option (Int×T)
 | [a,b]=>(match a,b with
  | .p (.int i),.p t=>some (i,t)
  | _,_=>none)
 | _=>none
theorem aJS {rs:List R} {i:Int} {t:T} (h:aNN rs=some (i,t)):rs=[.p (.int i),.p t]:=by
 match rs,h with
 | [a,b],h=>
  unfold aNN at h;simp only at h;split at h
  ·cases h;rfl
  ·cases h
def aSM (Fo:FE) (Fr:FA):FE:=λE Q=>Fo E λo E1=>o1 (ownOf E1 o) λ_=>Fr E1 λrs E2=>match o with
 | .s j=>(match E2[j]? with
  | some (some (.o k xs))=>o1 (aNN rs) λit=>0<=it.1/\it.1<=(xs.length:Int)/\xs.length<1000/\Q (.p .non) (E2.set j (some (.o k (xs.take it.1.toNat++it.2::xs.drop it.1.toNat))))
  | _=>False)
 | _=>False
theorem aBT {n:Nat} {e1 e2:Expr} {ap:Pos} (eK:X.K=K) (ho:QE X o (aL K Fo)) (ha:QA X [e1,e2] (dJ K n Fr)) (hbase:aVZ o "insert" X.env (aVP o X.env)=aVP o X.env:=by rfl) (hline:(ap.endLine==pos.line)=true:=by rfl) (hs:bX e1=false:=by rfl) (hs2:bX e2=false:=by rfl) :
  QE X (.Call (.Attribute o "insert" ap) [e1,e2] [] pos) (aL K (aSM Fo Fr)):=
 QE.le (t:=tBM X.K "list" z6 (aL K Fo) (dJ K n Fr)) ⟨aAD PySem.F.plainAttrs_list PySem.F.slot_list_insert PySem.F.type_list_insert aCT ho.h ha.h hbase (by rw [cN hs,cN hs2];rfl) hline (cN hs) (fG (by simp [bJ,hs2]))⟩ λσ H Q hl h=>by
  subst eK;obtain ⟨B,S,E,Q',⟨τ,hS⟩,re,hF,lk⟩:=h;refine ⟨B,S,E,_,⟨τ,hS⟩,re,hF,λoo E1 v H1 S1 q g1 re1 rx=>?_⟩;obtain ⟨τ1,hS1⟩:=g1.pre;obtain ⟨xs0,e0,q⟩:=o1.ex q;obtain ⟨j,k,p,vs,rfl,hE,hSj,rfl,h2,h3⟩:=re1.ownOf rx e0;refine ⟨.inl ⟨rfl,vs,iU.of h2⟩,B,S1,E1,_,⟨τ++τ1,by rw [hS1,hS,aDE]⟩,re1,q,λrs E2 us H2 S2 q2 g2 re2 rr hn=>?_⟩;have hSj2:S2[j]? = some (some (.ref p)):=dF g2.pre hSj;simp only at q2;split at q2
  ·rename_i k2' xs hE2;obtain ⟨⟨i,t⟩,ea,i0,il,hz,q3⟩:=o1.ex q2;obtain rfl:=aJS ea;obtain ⟨y,ws,rfl,k1,z,ws',rfl,k2,rfl⟩:=rr;have i0:0<=i:=i0;have il:i<=(xs.length:Int):=il;obtain ⟨p',vs2,z1,z2,z3,_⟩:=re2.own j k2' xs hE2;rw [hSj2] at z1;cases z1;have vl:=z3.length;obtain ⟨g3,re3⟩:=re2.put (ys:=xs.take i.toNat++t::xs.drop i.toNat) (ws:=vs2.take i.toNat++z::vs2.drop i.toNat) hE2 hSj2 ((z3.take _).append ⟨z,_,rfl,k2,z3.drop _⟩);cases k1;exact ⟨p,vs2,i,i.toNat,z,rfl,rfl,by omega,z2,by omega,by rw [vl];exact bQ (aP1 hz),by omega,lk _ _ _ _ _ q3 ((g1.trans g2).trans g3) re3 rfl⟩
  ·exact q2.elim
end
end L2
namespace L2
open PySem PySem.Spec PyProof.Rows
def aR9:En->Bool
 | []=>true
 | some (.o false _)::_=>false
 | _::E=>aR9 E
section
variable {K:W.Frag} {B:aVA->Prop} {H H':Hp} {S S':St} {E E':En} {σ:St}
def oV (E:En):List R->Option (List T×En)
 | []=>some ([],E)
 | .p t::rs=>(oV E rs).map λz=>(t::z.1,z.2)
 | .s i::rs=>match E[i]? with
  | some (some (.o false xs))=>(oV (E.set i (some (.p (.lst xs)))) rs).map λz=>(.lst xs::z.1,z.2)
  | some (some (.p t))=>(oV E rs).map λz=>(t::z.1,z.2)
  | _=>none
theorem lY:∀{rs:List R} {vs:List V} {E:En} {z:List T×En},RE K B H S E->RRs K B H S E rs vs->oV E rs=some z->RE K B H S z.2/\(∀b,Ow B S z.2 b->Ow B S E b)/\cG K H (Ow B S z.2) z.1 vs
 | [],vs,E,z,re,h,e=>by cases e;exact ⟨re,λb z=>z,h⟩
 | .p t::rs,_,E,z,re,⟨v,ws,e1,h1,h2⟩,e=>by
  cases q:oV E rs with
  | none=>rw [oV,q] at e;cases e
  | some y=>
   rw [oV,q] at e;cases e;obtain ⟨r1,r2,r3⟩:=lY re h2 q;exact ⟨r1,r2,v,ws,e1,Rp.step (Kp.less r2) h1,r3⟩
 | .s i::rs,_,E,z,re,⟨v,ws,e1,h1,h2⟩,e=>by
  unfold oV at e;split at e
  ·rename_i xs hE;obtain ⟨ref,of⟩:=re.frz hE;cases q:oV (E.set i (some (.p (.lst xs)))) rs with
   | none=>rw [q] at e;cases e
   | some y=>
    rw [q] at e;cases e;have h2':RRs K B H S (E.set i (some (.p (.lst xs)))) rs ws:=RRs.step ⟨Kp.less λb z=>(of b z).1,[],by simp⟩ h2;obtain ⟨r1,r2,r3⟩:=lY ref h2' q;have hi:i<E.length:=(aA7.mp hE).1;obtain ⟨w,p1,p2⟩:=ref.pure i (.lst xs) (by rw [aOP hi]);have h1:S[i]? = some (some v):=h1;rw [h1] at p1;cases p1;exact ⟨r1,λb z=>(of b (r2 b z)).1,v,ws,e1,Rp.step (Kp.less r2) p2,r3⟩
  ·rename_i t hE;cases q:oV E rs with
   | none=>rw [q] at e;cases e
   | some y=>
    rw [q] at e;cases e;obtain ⟨r1,r2,r3⟩:=lY re h2 q;obtain ⟨w,p1,p2⟩:=re.pure i t hE;have h1:S[i]? = some (some v):=h1;rw [h1] at p1;cases p1;exact ⟨r1,r2,v,ws,e1,Rp.step (Kp.less r2) p2,r3⟩
  ·cases e
end
section
variable {X:Cx} {K:W.Frag} {pos:Pos} {es:List Expr} {Fr:FA}
def aN6 (Fr:FA):FE:=λE Q=>Fr E λrs E1=>o1 (oV E1 rs) λz=>Q (.s z.2.length) (z.2++[some (.o false z.1)])
theorem aJR {n:Nat} (h:QA X es (dJ K n Fr)) (hz:n<=1000:=by decide):QE X (.List es pos) (aL K (aN6 Fr)):=by
 refine (uT h).le λσ H Q hl h=>args (Fr:=Fr) h λB S E rs vs H2 Q' hS re rr hn q lk=>⟨by rw [hn];exact aP1 (bQ hz),λp hp=>?_⟩;obtain ⟨z,e,q⟩:=q.ex;obtain ⟨re1,ow1,rs1⟩:=lY re rr e;obtain ⟨g,re'⟩:=re1.lst hp rs1;exact lk _ _ _ _ _ q (Gr.trans ⟨Kp.less ow1,[],by simp⟩ g) re' (by rw [<-re1.len];exact jZ)
end
end L2
namespace L2
open PySem PySem.Spec PyProof.Rows
end L2
namespace L2
open PySem PySem.Spec PyProof.Rows
end L2
namespace L2
open PySem PySem.Spec PyProof.Rows
end L2
namespace L2
open PySem PySem.Spec PyProof.Rows
end L2
namespace L2
open PySem PySem.Spec PyProof.Rows
section
variable {X:Cx} {e:Expr} {es:List Expr} {pos:Pos} {K:W.Frag} {Fr:FA}
theorem aB2 (hc:X.calm=true):fQ X (.builtin "max") (λxs H Q=>∃a b:Int,xs=[.int a,.int b]/\Q (.int (if a<b then b else a)) H):=by
 intro pins s σ H xs us Q I r h;obtain ⟨a,b,rfl,q⟩:=h;obtain ⟨u,v,rfl,rx,ry⟩:=bF.two r;obtain ⟨t,rfl⟩:=rx;obtain ⟨t',rfl⟩:=ry;refine max_two_ints (I.ok.hd hc) λh' tk hk=>?_
 by_cases c:a<b
 ·simp only [if_pos c] at q ⊢;exact ⟨.int b,H,I.kept hk,⟨_,rfl⟩,q⟩
 ·simp only [if_neg c] at q ⊢;exact ⟨.int a,H,I.kept hk,⟨_,rfl⟩,q⟩
def aR2 (Fr:FA):FE:=λE Q=>Fr E λrs E1=>match rs with
 | [x,y]=>i2 (vl E1 x) (vl E1 y) λi j=>Q (.p (.int (if i<j then j else i))) E1
 | _=>False
theorem aMU {n:Nat} {p:Pos} (hc:X.calm=true) (hg:Gl X "max") (hm:X.mg "max" = none) (ha:QA X (e::es) (dJ K n Fr)) (hs:bJ (e::es)=true:=by rfl):QE X (.Call (.Name "max" p) (e::es) [] pos) (aL K (aR2 Fr)):=by
 refine (dU (aB2 hc) hg hm boot_max ha (by decide) (by decide) hs).le λσ H Q hl h=>args (Fr:=Fr) h λB S E rs vs H2 Q' hS re rr hn q lk=>?_
 match rs,rr,q with
 | [x,y],⟨v,ws,e1,h1,u,ws',e2,h2,h3⟩,q=>
  cases h3;subst e2;subst e1;obtain ⟨i,j,e3,e4,q⟩:=i2.ex q;exact ⟨i,j,by rw [re.int h1 e3,re.int h2 e4],lk _ _ _ _ _ q .refl re rfl⟩
 | [],_,q=>exact q.elim
 | [_],_,q=>exact q.elim
 | _::_::_::_,_,q=>exact q.elim
end
end L2
namespace HT
open PySem PySem.Spec PyProof.Rows
end HT
namespace HT
open PySem PySem.Spec PyProof.Rows
end HT
namespace L2
open PySem PySem.Spec PyProof.Rows
section
variable {X:Cx} {K:W.Frag} {a b e:Expr} {te:TE} {st:Option Expr} {ts:TO} {pos p2:Pos} {Fa Fb:FE} {G Gl' Gh:FO}
def aTA (Fa:FE) (G:FO):FE:=λE Q=>Fa E λx E1=>G E1 λk E2=>k=some (-1)/\match vl E2 x with
 | some (.tup xs)=>Q (.p (.tup xs.reverse)) E2
 | _=>False
def aRZ (Fa:FE) (Gl' Gh:FO):FE:=λE Q=>Fa E λx E1=>Gl' E1 λlo E2=>Gh E2 λhi E3=>match vl E3 x with
 | some (.tup xs)=>¬(HT.sIx xs.length 0 lo=0/\HT.sIx xs.length xs.length hi=xs.length)/\Q (.p (.tup (iN xs lo hi))) E3
 | _=>False
theorem aC5 {lo hi:Option Expr} (eK:X.K=K) (he:QE X e (aL K Fa)) (hl:QO X lo (wD K Gl')) (hu:QO X hi (wD K Gh)):QE X (.Subscript e (.Slice lo hi none p2) pos) (aL K (aRZ Fa Gl' Gh)):=by
 subst eK;refine (pR aM8 he hl hu).le λσ H Q _ ⟨B,S,E,Q',⟨τ,hS⟩,re,hF,lk⟩=>⟨B,S,E,_,⟨τ,hS⟩,re,hF,λx E1 v H1 S1 q g1 re1 rx=>?_⟩;obtain ⟨τ1,hS1⟩:=g1.pre;refine ⟨B,S1,E1,_,⟨τ++τ1,by rw [hS1,hS,aDE]⟩,re1,q,λl E2 H2 S2 q2 g2 re2=>?_⟩;obtain ⟨τ2,hS2⟩:=g2.pre;refine ⟨B,S2,E2,_,⟨τ++τ1++τ2,by rw [hS2,hS1,hS,aDE,aDE,aDE]⟩,re2,q2,λh E3 H3 S3 q3 g3 re3=>?_⟩;have rx3:=(rx.step g2).step g3;split at q3
 ·rename_i xs e1;obtain ⟨a,vs,e2,sq,rs⟩:=re3.vl rx3 e1;obtain ⟨nw,q3⟩:=q3;refine ⟨a,vs,e2,sq,by rw [rs.length];exact nw,λp hp=>?_⟩;obtain ⟨g,re',rp⟩:=re3.tup hp (aE2 (lo:=l) (hi:=h) rs);exact lk _ _ _ _ _ q3 (((g1.trans g2).trans g3).trans g) re' rp
 ·exact q3.elim
end
end L2
namespace L2
open PySem PySem.Spec PyProof.Rows
end L2
namespace L2
open PySem PySem.Spec PyProof.Rows
end L2
namespace L2
open PySem PySem.Spec PyProof.Rows
end L2
namespace L2
open PySem PySem.Spec PyProof.Rows
def z1 (o:Option T) (Q:Str->Prop):Prop:=match o with
 | some (.str z)=>Q z
 | _=>False
theorem z1.ex {o:Option T} {Q:Str->Prop} (h:z1 o Q):∃z,o=some (.str z)/\Q z:=by
 unfold z1 at h;split at h
 ·exact ⟨_,rfl,h⟩
 ·exact h.elim
end L2
namespace L2
open PySem PySem.Spec PyProof.Rows
end L2
namespace L2
open PySem PySem.Spec PyProof.Rows
end L2
namespace L2
open PySem PySem.Spec PyProof.Rows
end L2
namespace L2
open PySem PySem.Spec PyProof.Rows
end L2
namespace L2
open PySem PySem.Spec PyProof.Rows
end L2
namespace L2
open PySem PySem.Spec PyProof.Rows
theorem aGB:aVS "any" = some (.builtin "any"):=by decide +kernel
section
variable {X:Cx}
theorem aCY (hc:X.calm=true):fQ X (.builtin "any") (λxs H Q=>∃(p:aVA) (bs:List Bool),xs=[.ref p]/\iU X.K H p (bs.map V.bl)/\Q (.bl (bs.any id)) H):=by
 intro pins s σ H xs us Q I r h;obtain ⟨p,bs,rfl,hq,q⟩:=h;obtain ⟨u,rfl,rx⟩:=oM r;cases rx;obtain ⟨its,rv,pl,hz⟩:=I.list hq;have hne:p≠s.heap.objs.size:=by
  obtain ⟨o,n,ho,_⟩:=pl;exact aHH (aDD ho)
 have hl:=rv.length;rw [aBC] at hl;have hA:X.A.in1.handled=none:=I.ok.hd hc;refine call_any_walk (wpAny_pyIter_list pl.isList ?_);refine ⟨s.heap.objs.size,_,_,_,_,_,(λi=>bs.getD i false),rfl,Walks.list hA s.heap.objs.size p hne its.toArray,⟨⟨_,aG4 _ rfl,rfl,rfl⟩,pl.isList.at λo e=>aDA _ e⟩,?_,?_⟩
 ·intro i v s' Q' E' hv hQ';have hv':its[i]? = some v:=by simpa using hv
  have hi:i<its.length:=(aA7.mp hv').1;have hb:(bs.map V.bl)[i]? = some (V.bl bs[i]):=by
   rw [aDF,aAX (by omega)];rfl
  obtain ⟨u,hu,ru⟩:=rv.get hb;rw [hv'] at hu;cases hu;cases ru;have e:bs.getD i false=bs[i]:=by rw [aG5,aAX (by omega)];rfl
  simp only [e] at hQ';exact aVW hQ'
 ·intro h' tk hk;have e:(aS1 its.toArray.size).any (λi=>bs.getD i false)=bs.any id:=by
   rw [aF0,<-hl];clear hl hz rv q hq pl hne;rw [aP4,aSA,aSA];constructor
   ·rintro ⟨i,hi,h⟩;have hi:=aQ7.mp hi;rw [aG5,aAX hi] at h;exact ⟨_,aQI hi,h⟩
   ·rintro ⟨b,hb,h⟩;obtain ⟨i,hi,rfl⟩:=List.mem_iff_getElem.mp hb;refine ⟨i,aQ7.mpr hi,?_⟩;rw [aG5,aAX hi];exact h
  rw [e];refine ⟨.bl _,H,?_,rfl,q⟩;exact I.kept λb o e=>hk b o (by simp;exact aHH (aDD e)) (aDA _ e)
theorem aIB:kU X (aVU .IsNot) (λx y H Q=>∃b c,x = .bl b/\y = .bl c/\Q (.bl (!decide (b=c))) H):=by
 intro pins s σ H x y v u Q I rx ry h;obtain ⟨b,c,rfl,rfl,q⟩:=h;cases rx;cases ry;have e:aVC (aVG X.prog X.w) X.A (aVU .IsNot (.bool b) (.bool c)) (EP X pins σ Q) X.xe s:=by
  cases b<;>cases c<;>exact aVE (tI I q (by decide))
 exact e
end
section
variable {X:Cx} {K:W.Frag} {pos:Pos} {Fr:FA} {Fa:FE} {e a:Expr} {es:List Expr}
def aRW (Fr:FA):FE:=λE Q=>Fr E λrs E1=>match rs with
 | [x]=>(match vl E1 x with
  | some (.lst xs)=>o1 (jM xs) λbs=>Q (.p (.bl (bs.any id))) E1
  | _=>False)
 | _=>False
theorem aL9 {n:Nat} {p:Pos} (eK:X.K=K) (hc:X.calm=true) (hg:Gl X "any") (hm:X.mg "any" = none) (ha:QA X (e::es) (dJ K n Fr)) (hs:bJ (e::es)=true:=by rfl):QE X (.Call (.Name "any" p) (e::es) [] pos) (aL K (aRW Fr)):=by
 subst eK;refine (dU (aCY hc) hg hm aGB ha (by decide) (by decide) hs).le λσ H Q hl h=>args (Fr:=Fr) h λB S E rs vs H2 Q' hS re rr hn q lk=>?_
 match rs,rr,q with
 | [x],⟨v,ws,e1,h1,h2⟩,q=>
  cases h2;subst e1;simp only at q;split at q
  ·rename_i xs e2;obtain ⟨p,us,rfl,sq,rs⟩:=re.vl h1 e2;obtain ⟨bs,e3,q⟩:=o1.ex q;refine ⟨p,bs,rfl,by rw [<-yJ rs e3];exact sq,lk _ _ _ _ _ q .refl re rfl⟩
  ·exact q.elim
 | [],_,q=>exact q.elim
 | _::_::_,_,q=>exact q.elim
def aN5 (c:Bool) (Fa:FE):FE:=λE Q=>Fa E λx E1=>b1 (vl E1 x) λi=>Q (.p (.bl (!decide (i=c)))) E1
theorem aAC {c:Bool} {j p2} (ha:QE X a (aL K Fa)) (hm:aVM .IsNot (.Constant (.bool c) j p2)=false):QT X (.Compare a [.IsNot] [.Constant (.bool c) j p2] pos) (dQ K (rG (aN5 c Fa))):=
 (tF aIB ha aKW hm).le λσ H Q h=>one (Fa:=Fa) (aI5 h) λB S E x v H2 Q' hS re rx q lk=>by
  obtain ⟨i,e1,q⟩:=q.ex;exact ⟨i,c,re.bl rx e1,rfl,lk _ _ _ _ _ q .refl re rfl⟩
end
end L2
namespace L2
open PySem PySem.Spec PyProof.Rows
end L2
namespace L2
open PySem PySem.Spec PyProof.Rows
end L2
namespace L2
open PySem PySem.Spec PyProof.Rows
end L2
namespace L2
open PySem PySem.Spec PyProof.Rows
end L2
namespace L2
open PySem PySem.Spec PyProof.Rows
def s1 (x:Option T) (k:Str->Prop):Prop:=match x with
 | some (.str i)=>k i
 | _=>False
theorem s1.ex {x:Option T} {k:Str->Prop} (h:s1 x k):∃i,x=some (.str i)/\k i:=by
 unfold s1 at h;split at h
 ·exact ⟨_,rfl,h⟩
 ·exact h.elim
def si (x y:Option T) (k:Str->Int->Prop):Prop:=match x,y with
 | some (.str i),some (.int j)=>k i j
 | _,_=>False
theorem si.ex {x y:Option T} {k:Str->Int->Prop} (h:si x y k):∃i j,x=some (.str i)/\y=some (.int j)/\k i j:=by
 unfold si at h;split at h
 ·exact ⟨_,_,rfl,rfl,h⟩
 ·exact h.elim
abbrev big:Nat:=1000000
theorem aG0 {n:Nat} (h:n<=big):n<=aVI:=by rw [aWU];unfold big at h;omega
section
variable {K:W.Frag} {B:aVA->Prop} {H:Hp} {S:St} {E:En}
theorem RE.str (re:RE K B H S E) {r:R} {v:V} {i:Str} (h:RR K B H S E r v) (e:L2.vl E r=some (.str i)):v = .str i:=re.vl h e
end
section
variable {X:Cx} {K:W.Frag} {pos:Pos} {a b c e o:Expr} {es:List Expr} {Fa Fb Fc Fo:FE} {Fr:FA}
def aSC (Fa Fb:FE):FE:=λE Q=>Fa E λx E1=>Fb E1 λy E2=>si (vl E2 x) (vl E2 y) λi j=>i.length<=big/\o1 (e8 i.cps.toList j) λc=>Q (.p (.str ⟨#[c]⟩)) E2
theorem aGZ (eK:X.K=K) (ha:QE X a (aL K Fa)) (hb:QE X b (aL K Fb)) (hs:o7 b):QE X (.Subscript a b pos) (aL K (aSC Fa Fb)):=by
 subst eK;refine (aKV aGL ha hb hs).le λσ H Q hl h=>two (Fa:=Fa) (Fb:=Fb) h λB S E x y v w H2 Q' hS re rx ry q lk=>?_;obtain ⟨i,j,e1,e2,c,q⟩:=q.ex;obtain ⟨d,e3,q⟩:=o1.ex q;exact .inr (.inr ⟨i,j,d,re.str rx e1,re.int ry e2,aG0 c,e3,lk _ _ _ _ _ q .refl re rfl⟩)
end
end L2
namespace L2
open PySem PySem.Spec PyProof.Rows
open Classical in
noncomputable def hide (Z:aVA->Prop) (H:Hp):Hp:=λb=>if Z b then none else H b
open Classical in
noncomputable def back (Z:aVA->Prop) (H H':Hp):Hp:=λb=>if Z b then H b else H' b
section
variable {Z:aVA->Prop} {H H':Hp} {b:aVA} {o:HO}
theorem nU (h:Z b):hide Z H b=none:=if_pos h
theorem fF (h:¬Z b):hide Z H b=H b:=if_neg h
theorem iV (h:H b=none):hide Z H b=none:=by unfold hide;split<;>first | rfl | exact h
theorem cX (h:hide Z H b=some o):¬Z b/\H b=some o:=by
 unfold hide at h;split at h
 ·cases h
 ·rename_i n;exact ⟨n,h⟩
theorem j3 (h:Z b):back Z H H' b=H b:=if_pos h
theorem fH (h:¬Z b):back Z H H' b=H' b:=if_neg h
end
end L2
namespace L2
open PySem PySem.Spec PyProof.Rows
section
variable {X:Cx} {pins:List (aVA×Obj)} {σ:St} {H H':Hp} {s s':Shared}
def Hid:HO->Prop
 | .lst _=>True
 | .dT _=>True
 | .dK _=>True
 | _=>False
theorem Hid.obj {P:aVD} {w:aVH} {h:Heap} {a:aVA} {o:HO} (hk:Hid o) (k:c8 P w H h a o):∃ob,h.get? a=some ob/\(∀v,ob.data≠.cell v):=by
 cases o with
 | lst xs=>obtain ⟨_,its,n,_,e⟩:=k;exact ⟨_,e,λv z=>by cases z⟩
 | dT kvs=>obtain ⟨_,_,xs,_,ob,es,ep,e,_,d,_⟩:=k;exact ⟨_,e,λv z=>by rw [d] at z;cases z⟩
 | dK kvs=>obtain ⟨_,_,xs,_,ob,es,ep,e,_,d,_⟩:=k;exact ⟨_,e,λv z=>by rw [d] at z;cases z⟩
 | _=>exact hk.elim
def j9 (h:Heap) (Z:List aVA):List (aVA×Obj):=Z.filterMap λc=>(h.get? c).map λo=>(c,o)
theorem yE {h:Heap} {Z:List aVA} {p:aVA×Obj} (m:p∈j9 h Z):p.1∈Z/\h.get? p.1=some p.2:=by
 obtain ⟨c,mc,e⟩:=aTY.mp m;cases q:h.get? c with
 | none=>rw [q] at e;cases e
 | some o=>rw [q] at e;cases e;exact ⟨mc,q⟩
theorem aCQ {h:Heap} {Z:List aVA} {c:aVA} {o:Obj} (m:c∈Z) (e:h.get? c=some o):(c,o)∈j9 h Z:=aTY.mpr ⟨c,m,by rw [e];rfl⟩
theorem aT.frame_none (I:aT X pins σ H s) {b:aVA} (h:b∈X.fs):H b=none:=by
 obtain ⟨_,o,ho,_⟩:=I.ok.funs.mem h;exact I.base.free b o ho (I.ok.frf b h) λx=>I.ok.exfs b x h
theorem aT.hide (I:aT X pins σ H s) {Z:List aVA} (hZ:∀c∈Z,∃o,H c=some o/\Hid o):aT X (pins++j9 s.heap Z) σ (L2.hide (·∈Z) H) s:=by
 have nl:∀{b:aVA} {o:HO},H b=some o->¬Hid o->¬b∈Z:=λ{b o} h n z=>by
  obtain ⟨o',e,k⟩:=hZ b z;rw [h] at e;cases e;exact n k
 refine ⟨I.ok,I.os,I.bare,⟨I.base.keep,I.base.slot,λb o q n x=>iV (I.base.free b o q n x),I.base.there,λb xs q=>?_,λb o u q=>?_,λb ps q=>?_⟩,I.loc,I.cell,iV I.free,λx c q=>iV (I.freeC x c q),λp m=>?_,λa o e=>?_,I.len⟩
 ·have:=I.base.tups b xs q;rw [fF (nl this λz=>z)];exact this
 ·have:=I.base.frzs b o u q;rw [fF (nl this λz=>z)];exact this
 ·obtain ⟨more,this⟩:=I.base.tbls b ps q;exact ⟨more,by rw [fF (nl this λz=>z)];exact this⟩
 ·rw [<-aDE] at m;rcases aM3.mp m with m | m
  ·obtain ⟨h1,h2,h3⟩:=I.pin p m;exact ⟨h1,iV h2,h3⟩
  ·obtain ⟨mz,e⟩:=yE m;obtain ⟨o,eo,k⟩:=hZ p.1 mz;obtain ⟨ob,e2,dc⟩:=k.obj (I.hok p.1 o eo);rw [e] at e2;cases e2;refine ⟨e,nU mz,λc=>?_,λc=>?_,dc⟩
   ·rw [c,I.free] at eo;cases eo
   ·have hn:=I.frame_none c;rw [hn] at eo;cases eo
 ·obtain ⟨n,e⟩:=cX e;exact (I.hok a o e).stay (λ_ _ _ q=>q) (λb q=>by rw [fF (nl q λz=>z)];exact q) (λb xs q=>by rw [fF (nl q λz=>z)];exact q)
theorem aT.back (I:aT X pins σ H s) {Z:List aVA} (hZ:∀c∈Z,∃o,H c=some o/\Hid o) {σ':St} {H1:Hp} (I1:aT X (pins++j9 s.heap Z) σ' H1 s') (ht:∀b xs,H b=some (.tup xs)->H1 b=some (.tup xs)):aT X pins σ' (L2.back (·∈Z) H H1) s'/\∀c∈Z,H1 c=none:=by
 have pin:∀c∈Z,∃ob,s.heap.get? c=some ob/\s'.heap.get? c=some ob/\H1 c=none:=λc m=>by
  obtain ⟨o,eo,k⟩:=hZ c m;obtain ⟨ob,e,_⟩:=k.obj (I.hok c o eo);obtain ⟨h1,h2,_⟩:=I1.pin (c,ob) (by rw [<-aDE];exact aM3.mpr (.inr (aCQ m e)));exact ⟨ob,e,h1,h2⟩
 have gone:∀c∈Z,H1 c=none:=λc m=>let ⟨_,_,_,h⟩:=pin c m;h;have vis:∀{b:aVA} {o:HO},H1 b=some o->¬b∈Z:=λ{b o} h m=>by rw [gone b m] at h;cases h
 refine ⟨⟨I1.ok,I1.os,I1.bare,⟨I1.base.keep,I1.base.slot,λb o q n x=>?_,I1.base.there,λb xs q=>?_,λb o u q=>?_,λb ps q=>?_⟩,I1.loc,I1.cell,?_,λx c q=>?_,λp m=>?_,λa o e=>?_,I1.len⟩,gone⟩
 ·by_cases z:b∈Z
  ·rw [j3 z];exact I.base.free b o q n x
  ·rw [fH z];exact I1.base.free b o q n x
 ·have:=I1.base.tups b xs q;rw [fH (vis this)];exact this
 ·have:=I1.base.frzs b o u q;rw [fH (vis this)];exact this
 ·obtain ⟨more,this⟩:=I1.base.tbls b ps q;exact ⟨more,by rw [fH (vis this)];exact this⟩
 ·by_cases z:X.env.locals∈Z
  ·rw [j3 z];exact I.free
  ·rw [fH z];exact I1.free
 ·by_cases z:c∈Z
  ·rw [j3 z];exact I.freeC x c q
  ·rw [fH z];exact I1.freeC x c q
 ·obtain ⟨h1,h2,h3⟩:=I1.pin p (by rw [<-aDE];exact aM3.mpr (.inl m));refine ⟨h1,?_,h3⟩
  by_cases z:p.1∈Z
  ·rw [j3 z];exact (I.pin p m).2.1
  ·rw [fH z];exact h2
 ·by_cases z:a∈Z
  ·rw [j3 z] at e;obtain ⟨o',eo,k⟩:=hZ a z;rw [e] at eo;cases eo;obtain ⟨ob,g1,g2,_⟩:=pin a z;have hk:=I.hok a o e;cases o with
   | lst xs=>
    obtain ⟨y,its,n,r,g⟩:=hk;rw [g1] at g;cases g;exact ⟨y,its,n,r,g2⟩
   | dT kvs=>
    obtain ⟨y,ys,xs,r,ob',es,ep,g,c⟩:=hk;rw [g1] at g;cases g;refine ⟨y,ys,xs,Paired.mapP r λp q z=>⟨z.1,?_,z.2.2⟩,ob,es,ep,g2,c⟩;have t1:=ht _ _ z.2.1;rw [fH (vis t1)];exact t1
   | dK kvs=>
    obtain ⟨y,ys,xs,r,ob',es,ep,g,c⟩:=hk;rw [g1] at g;cases g;exact ⟨y,ys,xs,r,ob,es,ep,g2,c⟩
   | _=>exact k.elim
  ·rw [fH z] at e;exact (I1.hok a o e).stay (λ_ _ _ q=>q) (λb q=>by rw [fH (vis q)];exact q) (λb xs q=>by rw [fH (vis q)];exact q)
def jJ.fr (D:jJ) (Z:List aVA) (H:Hp):jJ where
 nx:=λσ H1=>(∀b xs,H b=some (.tup xs)->H1 b=some (.tup xs))/\((∀c∈Z,H1 c=none)->D.nx σ (L2.back (·∈Z) H H1))
 rt:=λv H1=>(∀b xs,H b=some (.tup xs)->H1 b=some (.tup xs))/\((∀c∈Z,H1 c=none)->D.rt v (L2.back (·∈Z) H H1))
 bk:=λσ H1=>(∀b xs,H b=some (.tup xs)->H1 b=some (.tup xs))/\((∀c∈Z,H1 c=none)->D.bk σ (L2.back (·∈Z) H H1))
 ct:=λσ H1=>(∀b xs,H b=some (.tup xs)->H1 b=some (.tup xs))/\((∀c∈Z,H1 c=none)->D.ct σ (L2.back (·∈Z) H H1))
def frT (t:TS):TS:=λD σ H=>∃Z:List aVA,(∀c∈Z,∃o,H c=some o/\Hid o)/\t (D.fr Z H) σ (L2.hide (·∈Z) H)
theorem SP.back (I:aT X pins σ H s) {Z:List aVA} (hZ:∀c∈Z,∃o,H c=some o/\Hid o) {D:jJ} {f:Flow} (h:SP X (pins++j9 s.heap Z) (D.fr Z H) f s'):SP X pins D f s':=by
 cases f with
 | next=>
  obtain ⟨σ',H1,I1,ht,q⟩:=h;obtain ⟨I2,g⟩:=I.back hZ I1 ht;exact ⟨σ',_,I2,q g⟩
 | brk=>
  obtain ⟨σ',H1,I1,ht,q⟩:=h;obtain ⟨I2,g⟩:=I.back hZ I1 ht;exact ⟨σ',_,I2,q g⟩
 | cont=>
  obtain ⟨σ',H1,I1,ht,q⟩:=h;obtain ⟨I2,g⟩:=I.back hZ I1 ht;exact ⟨σ',_,I2,q g⟩
 | ret u=>
  obtain ⟨v,σ',H1,I1,rv,ht,q⟩:=h;obtain ⟨I2,g⟩:=I.back hZ I1 ht;exact ⟨v,σ',_,I2,rv,q g⟩
theorem QS.frame {st:aVK} {t:TS} (h:QS X st t):QS X st (frT t):=⟨λpins s σ H D I ⟨Z,hZ,q⟩=>cF (h.h (pins++j9 s.heap Z) s σ _ _ (I.hide hZ) q) λf s' z=>SP.back I hZ z⟩
def frE (t:TE):TE:=λσ H Q=>∃Z:List aVA,(∀c∈Z,∃o,H c=some o/\Hid o)/\t σ (L2.hide (·∈Z) H) λv H1=>(∀b xs,H b=some (.tup xs)->H1 b=some (.tup xs))/\((∀c∈Z,H1 c=none)->Q v (L2.back (·∈Z) H H1))
theorem QE.frame {e:Expr} {t:TE} (h:QE X e t):QE X e (frE t):=⟨λpins s σ H Q I ⟨Z,hZ,q⟩=>cF (h.h (pins++j9 s.heap Z) s σ _ _ (I.hide hZ) q) λu s' ⟨v,H1,I1,rv,ht,q⟩=>by
  obtain ⟨I2,g⟩:=I.back hZ I1 ht;exact ⟨v,_,I2,rv,q g⟩⟩
end
end L2
namespace L2
open PySem PySem.Spec PyProof.Rows
def Kn (I:List Nat) (σ' σ:St):Prop:=∀i∈I,σ'[i]? = σ[i]?
theorem Kn.refl {I:List Nat} {σ:St}:Kn I σ σ:=λ_ _=>rfl
theorem Kn.trans {I:List Nat} {σ1 σ2 σ3:St} (a:Kn I σ1 σ2) (b:Kn I σ2 σ3):Kn I σ1 σ3:=λi h=>(a i h).trans (b i h)
theorem Kn.set {I:List Nat} {σ:St} {j:Nat} {x:Option V} (h:j∉I):Kn I (σ.set j x) σ:=λi m=>aK0 (show j≠i from λe=>h (e.symm ▸ m))
def jJ.kp (D:jJ) (i:List Nat) (σ:St):jJ where
 nx:=λσ' H'=>Kn i σ' σ->D.nx σ' H'
 rt:=D.rt
 bk:=λσ' H'=>Kn i σ' σ->D.bk σ' H'
 ct:=λσ' H'=>Kn i σ' σ->D.ct σ' H'
def jY (i:List Nat) (K:W.Frag) (F:FS):TS:=λD σ H=>g8 K F (D.kp i σ) σ H
def vU (i:List Nat) (K:W.Frag) (g:FG):TG:=λv σ H Q=>mQ K g v σ H λσ' H'=>Kn i σ' σ->Q σ' H'
def tS (i:List Nat) (K:W.Frag) (g:FGs):TGs:=λv σ H Q=>wR K g v σ H λσ' H'=>Kn i σ' σ->Q σ' H'
theorem LS.kp {K:W.Frag} {B:aVA->Prop} {H:Hp} {σ σ':St} {E:En} {DT:ET} {D:jJ} {i:List Nat} (l:LS K B H σ' E DT (D.kp i σ)) (h:Kn i σ' σ):LS K B H σ' E DT (D.kp i σ'):=
 ⟨λa b c d e f k=>l.nx a b c d e f (k.trans h),l.rt,λa b c d e f k=>l.bk a b c d e f (k.trans h),λa b c d e f k=>l.ct a b c d e f (k.trans h)⟩
section
variable {X:Cx} {K:W.Frag} {st:aVK} {sts b1' b2' body:List aVK} {F G:FS} {Fa:FE} {Fp:FB} {e c:Expr} {pos:Pos} {i:List Nat} {g:FG}
theorem zN:QB X [] (jY i K aKB):=aGY.le λD σ H ⟨B,E,DT,re,hF,l⟩=>l.nx _ _ _ hF (Kp.refl _ _) re Kn.refl
theorem yN (h1:QS X st (jY i K F)):QB X [st] (jY i K F):=tM h1
theorem zF (h:QE X e (aL K Fa)):QS X (.Return (some e) pos) (jY i K (aP7 Fa)):=
 (aGH h).le λD σ H hl ⟨B,E,DT,re,hF,l⟩=>⟨B,σ,E,_,⟨[],by simp⟩,re,hF,λr E' v H' S' q g re' rr=>l.rt r E' v H' S' q g.kp re' rr⟩
theorem aDH (hc:QT X c (dQ K Fp)) (ha:QB X b1' (jY i K F)) (hb:QB X b2' (jY i K G)):QS X (.If c b1' b2' pos) (jY i K (sIf Fp F G)):=
 (aKA hc ha hb).le λD σ H hl ⟨B,E,DT,re,hF,l⟩=>zS (P:=λb E'=>if b=true then kF E' (F DT) else kF E' (G DT)) re hF λb H' E' q g re'=>by
  cases b
  ·exact ⟨B,E',DT,re',eU q,l.step g⟩
  ·exact ⟨B,E',DT,re',eU q,l.step g⟩
def aOD:FS:=λD E=>D.ct E
theorem aJA:QS X (.Continue pos) (jY i K aOD):=QS.le (t:=aKG) ⟨w4⟩ λD σ H hl ⟨B,E,DT,re,hF,l⟩=>l.ct _ _ _ hF (Kp.refl _ _) re Kn.refl
theorem aMO {j:Nat} {x:Str} {pos':Pos} (hN:X.N.Nodup) (hi:X.N[j]? = some x) (hx:Loc X.env.scope x) (he:QE X e (aL K Fa)) (hne:j∉i) (hs:aV3 e (some (.Name x pos')) pos.line X.env=pure false:=by rfl)
  (hf:X.fn x=true\/X.env.scope.names.lookup x=some .local:=by first | exact .inl rfl | exact .inr rfl | assumption):QS X (.Assign [.Name x pos'] e pos) (jY i K (aLT j Fa)):=
 (zB hN hi hx he hs hf).le λD σ H hl ⟨B,E,DT,re,hF,l⟩=>⟨B,σ,E,_,⟨[],by simp⟩,re,hF,λr E' v H' S' q g re' rr=>by
  obtain ⟨u,e1,q⟩:=q.ex;rw [<-re.len] at e1 q;obtain ⟨r1,ow⟩:=kQ (i:=j) re' g.pre rr e1;exact l.nx _ _ _ q (g.kp.trans (Kp.less ow)) r1 (Kn.set hne)⟩
theorem lZ {j:Nat} {x:Str} (hN:X.N.Nodup) (hi:X.N[j]? = some x) (hx:Loc X.env.scope x) (hne:j∉i) (hf:X.fn x=true\/X.env.scope.names.lookup x=some .local:=by first | exact .inl rfl | exact .inr rfl | assumption):QG X (.Name x pos) (vU i K (aJ7 j)):=
 (aAU hN hi hx hf).le λv σ H Q hl ⟨B,τ,E,u,Q',re,rp,hF,l⟩=>by
  have hlt:j<σ.length:=by rw [hl];exact (aA7.mp hi).1
  obtain ⟨r1,ow⟩:=re.setP (i:=j) rp;rw [List.set_append_left _ _ hlt] at r1 ow;exact l _ _ _ hF (Kp.less ow) r1 (by simp) (Kn.set hne)
theorem aAO:yC X [] (tS i K aQH):=aAB.le λvs σ H Q ⟨B,τ,E,ts,Q',re,rp,hF,l⟩=>by
 cases ts with
 | nil=>exact ⟨rp,l _ _ _ hF (Kp.refl _ _) re rfl Kn.refl⟩
 | cons _ _=>exact hF.elim
theorem mZ {es:List Expr} {gs:FGs} (h1:QG X e (vU i K g)) (h2:yC X es (tS i K gs)) (hs:(aVO (e::es) X.env).map (·.2)=aV5 e X.env::(aVO es X.env).map (·.2):=by rfl):yC X (e::es) (tS i K (aKL g gs)):=
 (wY h1 h2 hs).le λvs σ H Q ⟨B,τ,E,ts,Q',re,rp,hF,l⟩=>by
  cases ts with
  | nil=>exact hF.elim
  | cons t ts=>
   obtain ⟨v,r,e1,h1,h2⟩:=rp;exact ⟨v,r,e1,B,τ,E,t,_,re,h1,hF,λσ' H' E' q g re' hl hk=>⟨B,τ,E',ts,Q',re',h2.step g,q,λσ2 H2 E2 q2 g2 re2 hl2 hk2=>l _ _ _ q2 (g.trans g2) re2 (hl2.trans hl) (hk2.trans hk)⟩⟩
theorem aE0 {k n:Nat} {es:List Expr} {gs:FGs} (eK:X.K=K) (hc:X.calm=true) (h:yC X es (tS i K gs)) (hn:(aVO es X.env).length=n:=by rfl) (hst:(aVO es X.env).findIdx? (·.1)=none:=by rfl):QG X (.Tuple es k pos) (vU i K (aP0 n gs)):=by
 subst eK;refine (aEB hc h hn hst).le λv σ H Q hl ⟨B,τ,E,t,Q',re,rp,hF,l⟩=>?_;cases t with
 | tup ts=>
  have hF':cond (Nat.beq ts.length n) (gs ts E Q') False:=hF;cases q:Nat.beq ts.length n with
  | false=>rw [q] at hF';exact hF'.elim
  | true=>
   rw [q] at hF';obtain ⟨a,vs,rfl,sq,rs⟩:=rp.sqT;exact ⟨a,vs,rfl,sq,by rw [rs.length];exact Nat.eq_of_beq_eq_true q,B,τ,E,ts,Q',re,rs,hF',l⟩
 | _=>exact hF.elim
end
end L2
namespace L2
open PySem PySem.Spec PyProof.Rows
section
variable {X:Cx} {K:W.Frag} {pos ap:Pos} {e o:Expr} {es:List Expr} {Fo:FE} {Fr:FA} {name:Str} {id:String}
def aQW (G:Str->R->En->(R->En->Prop)->Prop) (Fo:FE) (Fr:FA):FE:=λE Q=>Fo E λx E1=>s1 (vl E1 x) λi=>Fr E1 λrs E2=>match rs with
 | [y]=>G i y E2 Q
 | _=>False
theorem aNH {n:Nat} {G:Str->R->En->(R->En->Prop)->Prop} {r:V->List V->Hp->VK->Prop} (slot:Slot "str" name id) (hty:typeOf (.builtin id)=pure (.type "method_descriptor")) (hm:MtR X id r)
  (k:∀B S E i y w H2 Q' Q,RE K B H2 S E->RR K B H2 S E y w->G i y E Q'->Lk K B H2 S E Q' Q->r (.str i) [w] H2 Q)
  (ho:QE X o (aL K Fo)) (ha:QA X [e] (dJ K n Fr)) (hbase:aVZ o name X.env (aVP o X.env)=aVP o X.env:=by rfl) (hline:(ap.endLine==pos.line)=true:=by rfl) (hs:bX e=false:=by rfl) :
  QE X (.Call (.Attribute o name ap) [e] [] pos) (aL K (aQW G Fo Fr)):=by
 refine QE.le ⟨aAD PySem.F.plainAttrs_str slot hty hm ho.h ha.h hbase (by rw [cN hs];rfl) hline (cN hs) (fG rfl)⟩ λσ H Q hl h=>one (Fa:=Fo) h λB S E x v H2 Q' hS re rx q lk=>?_;obtain ⟨i,e1,q⟩:=q.ex;have ev:=re.str rx e1;subst ev;refine ⟨rfl,B,S,E,_,hS,re,q,λrs E2 vs H3 S3 q3 g re3 rr hn=>?_⟩
 match rs,rr,q3 with
 | [y],⟨w,ws,e2,h1,h2⟩,q3=>
  cases h2;subst e2;exact k B S3 E2 i y w H3 Q' Q re3 h1 q3 (lk.step g)
 | [],_,q=>exact q.elim
 | _::_::_,_,q=>exact q.elim
def jL (l:List Str):List T:=l.map T.str
def jE:List T->Option (List Str)
 | []=>some []
 | .str x::r=>(jE r).map (x::·)
 | _=>none
theorem sB:∀{xs:List T} {l:List Str},jE xs=some l->xs=jL l
 | [],_,h=>by cases h;rfl
 | .str x::r,l,h=>by
  cases q:jE r with
  | none=>rw [jE,q] at h;cases h
  | some m=>
   rw [jE,q] at h;cases h;rw [sB q];rfl
 | .non::_,_,h=>by cases h
 | .bl _::_,_,h=>by cases h
 | .int _::_,_,h=>by cases h
 | .tup _::_,_,h=>by cases h
 | .lst _::_,_,h=>by cases h
theorem vH:∀l:List Str,jE (jL l)=some l
 | []=>rfl
 | x::l=>by show (jE (jL l)).map (x::·)=_;rw [vH l];rfl
def aKT (i:Str) (y:R) (E:En) (Q:R->En->Prop):Prop:=match vl E y with
 | some (.lst xs)=>o1 (jE xs) λl=>JoinOk i l=true/\∀z,z=Txt.join i l->Q (.p (.str z)) E
 | _=>False
theorem sG:∀{l:List Str} {us:List Value},bF (l.map V.str) us->∃m:List (Str×Tok),us=strValues m/\m.map (·.1)=l
 | [],us,h=>by cases h;exact ⟨[],rfl,rfl⟩
 | x::l,us,h=>by
  cases h with
  | cons h1 h2=>
   obtain ⟨t,rfl⟩:=h1;obtain ⟨m,rfl,e⟩:=sG h2;exact ⟨(x,t)::m,rfl,by rw [aPB,e]⟩
theorem xN {H:Hp} {O:aVA->Prop}:∀{l:List Str} {vs:List V},cG K H O (jL l) vs->vs=l.map V.str
 | [],_,h=>h
 | x::l,_,⟨v,r,e,h1,h2⟩=>by
  have h1:v = .str x:=h1;rw [e,h1,xN h2];rfl
theorem aIW:MtR X "str.join" (λx vs H Q=>∃i a l,x = .str i/\vs=[.ref a]/\iU X.K H a (l.map V.str)/\JoinOk i l=true/\Q (.str (Txt.join i l)) H):=by
 intro pins s σ H x vs v us Q I rx rv h;obtain ⟨i,a,l,rfl,rfl,sq,hj,q⟩:=h;obtain ⟨t,rfl⟩:=rx;obtain ⟨u,rfl,ry⟩:=oM rv;cases ry;obtain ⟨its,r,pl,hz⟩:=I.list sq;obtain ⟨m,rfl,e⟩:=sG r;exact SC.join pl.isList e hj λt' k=>⟨.str _,H,I.tok _,⟨_,rfl⟩,q⟩
theorem aHY {n:Nat} (eK:X.K=K) (ho:QE X o (aL K Fo)) (ha:QA X [e] (dJ K n Fr)) (hbase:aVZ o "join" X.env (aVP o X.env)=aVP o X.env:=by rfl) (hline:(ap.endLine==pos.line)=true:=by rfl) (hs:bX e=false:=by rfl):QE X (.Call (.Attribute o "join" ap) [e] [] pos) (aL K (aQW aKT Fo Fr)):=by
 subst eK;refine aNH PySem.F.slot_str_join PySem.F.type_str_join aIW (λB S E i y w H2 Q' Q re rr q lk=>?_) ho ha hbase hline hs;unfold aKT at q;split at q
 ·rename_i xs e1;obtain ⟨l,e2,c,q⟩:=o1.ex q;rw [sB e2] at e1;obtain ⟨a,vs,rfl,sq,rs⟩:=re.vl rr e1;rw [xN rs] at sq;exact ⟨i,a,l,rfl,rfl,sq,c,lk _ _ _ _ _ (q _ rfl) .refl re rfl⟩
 ·exact q.elim
end
end L2
namespace L2
open PySem PySem.Spec PyProof.Rows
section
variable {X:Cx} {K:W.Frag} {pos:Pos} {a b c e o:Expr} {es:List Expr} {Fa Fb Fc Fo:FE} {Fr:FA} {Gl' Gh G:FO}
def aSW:V->Option Int->Option Int->Hp->VK->Prop:=λx lo hi H Q=>∃z,x = .str z/\z.length<=aVI/\Q (.str (aTZ z lo hi)) H
theorem aAM {v:Value} {o:Option Int} (p:IsPart v o):∃q:Option (Int×Tok),v=partValue q/\q.map (·.1)=o:=by
 cases p with
 | none=>exact ⟨none,rfl,rfl⟩
 | int i t=>exact ⟨some (i,t),rfl,rfl⟩
theorem aNV:SlR X aSW:=by
 intro pins s σ H x v vl vu lo hi sl Q I rx hs pl pu h;obtain ⟨z,rfl,hz,q⟩:=h;obtain ⟨t,rfl⟩:=rx;obtain ⟨l,rfl,el⟩:=aAM pl;obtain ⟨u,rfl,eu⟩:=aAM pu;refine ⟨"str",_,PySem.F.slot_str_getitem.lookup,typeIs_str _ _ _,wpAny_getItem_str_slice (l:=l) (u:=u) (st:=none) hs rfl ?_⟩;have e:(sliceMade z t l u none)=if ((1:Int)==1&&(Builtin.Str.strSliceIndices lo hi 1 z.length).length==z.length)=true then .val (.str z t) else .str ⟨((Builtin.Str.strSliceIndices lo hi 1 z.length).filterMap (z.cps[·]?)).toArray⟩:=by
  subst el;subst eu;rfl
 rw [e];exact post_val_or_str ⟨aPW (Txt.slice_le z lo hi) hz,λt' k=>⟨.str _,H,I.tok _,⟨_,rfl⟩,q⟩⟩
def aSG (Fa:FE) (Gl' Gh:FO):FE:=λE Q=>Fa E λx E1=>s1 (vl E1 x) λz=>Gl' E1 λlo E2=>Gh E2 λhi E3=>z.length<=big/\∀y,y=aTZ z lo hi->Q (.p (.str y)) E3
theorem aCL {lo hi:Option Expr} {p2:Pos} (he:QE X e (aL K Fa)) (hl:QO X lo (wD K Gl')) (hu:QO X hi (wD K Gh)):QE X (.Subscript e (.Slice lo hi none p2) pos) (aL K (aSG Fa Gl' Gh)):=by
 refine (pR aNV he hl hu).le λσ H Q _ ⟨B,S,E,Q',⟨τ,hS⟩,re,hF,lk⟩=>⟨B,S,E,_,⟨τ,hS⟩,re,hF,λx E1 v H1 S1 q g1 re1 rx=>?_⟩;obtain ⟨z,ez,q⟩:=s1.ex q;have ev:=re1.str rx ez;obtain ⟨τ1,hS1⟩:=g1.pre;refine ⟨B,S1,E1,_,⟨τ++τ1,by rw [hS1,hS,aDE]⟩,re1,q,λl E2 H2 S2 q2 g2 re2=>?_⟩;obtain ⟨τ2,hS2⟩:=g2.pre;refine ⟨B,S2,E2,_,⟨τ++τ1++τ2,by rw [hS2,hS1,hS,aDE,aDE,aDE]⟩,re2,q2,λh E3 H3 S3 q3 g3 re3=>?_⟩;exact ⟨z,ev,aG0 q3.1,lk _ _ _ _ _ (q3.2 _ rfl) ((g1.trans g2).trans g3) re3 rfl⟩
end
end L2
namespace L2
open PySem PySem.Spec PySem.W PySem.Calls PyProof.Rows PySem.Builtin.ObjectAttr
end L2
namespace L2
open PySem PySem.Spec PySem.W PySem.Calls PyProof.Rows PySem.Builtin.ObjectAttr
end L2
namespace L2
open PySem PySem.Spec PySem.W PySem.Calls PyProof.Rows PySem.Builtin.ObjectAttr
end L2
namespace L2
open PySem PySem.Spec PySem.W PySem.Calls PyProof.Rows PySem.Builtin.ObjectAttr
end L2
namespace L2
open PySem PySem.Spec PySem.W PySem.Calls PyProof.Rows PySem.Builtin.ObjectAttr
variable {cb:Bool}
end L2
namespace L2
open PySem PySem.Spec PySem.W PySem.Calls PyProof.Rows PySem.Builtin.ObjectAttr
end L2
namespace L2
open PySem PySem.Spec PySem.W PySem.Calls PyProof.Rows PySem.Builtin.ObjectAttr
end L2
namespace L2
open PySem PySem.Spec PySem.NumText PyProof.Rows
end L2
namespace L2
open PySem PySem.Spec PySem.NumText PyProof.Rows
structure yA (mg:Str->Option Value) (x:Str) (i:Int):Prop where
 ex:∃t,mg x=some (.int i t)
theorem wC {X:Cx} {K:W.Frag} {x:Str} {i:Int} {pos:Pos} (hg:Gl X x) (c:yA X.mg x i) (hd:(x==("__debug__":Str))=false:=by decide):QE X (.Name x pos) (aL K (fC (.int i))):=by
 obtain ⟨t,h⟩:=c.ex;exact aEK ⟨aAF (v:=.int i) hg h ⟨t,rfl⟩ hd⟩ λ_ _ _=>rfl
end L2
namespace L2
open PySem PySem.Spec PyProof.Rows
section
variable {X:Cx} {K:W.Frag} {pos:Pos} {o e:Expr} {Fo:FE} {Fr:FA}
theorem RE.setVN {B:aVA->Prop} {H:Hp} {S:St} {E:En} {v:V} (re:RE K B H S E) {i:Nat}:RE K B H (S.set i (some v)) (E.set i none)/\∀b,Ow B (S.set i (some v)) (E.set i none) b->Ow B S E b:=by
 have gE:∀{j:Nat} {u:U},(E.set i none)[j]? = some (some u)->i≠j/\E[j]? = some (some u):=λ{j u} h=>by
  by_cases c:i=j
  ·subst c;rw [aTH] at h;simp at h
  ·rw [aK0 c] at h;exact ⟨c,h⟩
 refine re.map (by simp [re.len]) (λj t h=>?_) id (λj k xs h=>?_) (λ_ _ _ _ _ _ _ _ h=>h)
 ·obtain ⟨v,h1,h2⟩:=re.pure j t (gE h).2;exact ⟨v,by rw [aK0 (gE h).1];exact h1,h2⟩
 ·obtain ⟨a,vs,h1,_⟩:=re.own j k xs (gE h).2;exact ⟨(gE h).2,a,h1,by rw [aK0 (gE h).1];exact h1⟩
end
end L2
namespace L2
open PySem PySem.Spec PyProof.Rows
end L2
namespace L2
open PySem PySem.Spec PySem.W PyProof.Rows
variable {cb cb':Bool}
section
open PySem.Calls
variable {M:Model} {A:Around} {E:Value->Shared->Prop} {s:Shared} {base:Heap} {env:Env} {outer:List Env} {L x:aVA}
end
end L2
namespace L2
open PySem PySem.Spec PySem.W PySem.Calls PyProof.Rows
variable {cb cb':Bool}
end L2
namespace L2
open PySem PySem.Spec PyProof.Rows
end L2
namespace L2
open PySem PySem.Spec PyProof.Rows
end L2
namespace L2
open PySem PySem.Spec PySem.W PySem.Calls PyProof.Rows PySem.SeqAt
end L2
namespace L2
open PySem PySem.Spec PyProof.Rows
section
variable {X:Cx} {K:W.Frag} {sts b1:List aVK} {pos:Pos} {i:Nat}
theorem QB.leM {t t':TS} (h:QB X sts t) (m:∀D σ H,σ.length=X.N.length->t' D σ H->t D σ H):QB X sts t':=⟨λpins s σ H D I z=>h.h pins s σ H D I (m D σ H I.len z)⟩
end
end L2
namespace L2
open PySem PySem.Spec PyProof.Rows
structure uO where
 k:List Key
 c:aVA
 o:List T
abbrev MD:=List (List Key×List T)
def md (G:List uO):MD:=G.map λg=>(g.k,g.o)
def kvG (G:List uO):List (List Key×V):=G.map λg=>(g.k,V.ref g.c)
def fA (G:List uO):List aVA:=G.map (·.c)
def dob (b:Bool) (G:List uO):HO:=if b=true then .dT (kvG G) else .dK (G.map λg=>(g.k.headD (Sum.inl 0),V.ref g.c))
theorem aJQ (b:Bool) (G:List uO):Hid (dob b G):=by cases b<;>trivial
theorem aFH {b:Bool} {G:List uO} {xs:List V}:dob b G≠.lst xs:=by cases b<;>(intro z;cases z)
theorem aLW {b:Bool} {G:List uO} {xs:List V}:dob b G≠.tup xs:=by cases b<;>(intro z;cases z)
structure DG (b:Bool) (K:W.Frag) (i:Nat) (a:aVA) (G:List uO) (σ:St) (H:Hp):Prop where
 nm:σ[i]? = some (some (.ref a))
 dc:H a=some (dob b G)
 nd:(fA G).Nodup
 ls:∀g∈G,∃vs,H g.c=some (.lst vs)/\cG K H (λc=>cL H c\/c=a) g.o vs
structure ETD where
 nx:MD->En->Prop
 rt:R->En->Prop:=λ_ _=>False
 bk:MD->En->Prop:=λ_ _=>False
 ct:MD->En->Prop:=λ_ _=>False
abbrev yW:=ETD->MD->En->Prop
def ETD.at (D:ETD) (M:MD):ET where
 nx:=D.nx M
 rt:=D.rt
 bk:=D.bk M
 ct:=D.ct M
def ETD.of (D:ET):ETD where
 nx:=λ_=>D.nx
 rt:=D.rt
 bk:=λ_=>D.bk
 ct:=λ_=>D.ct
def aOS (F:FS):yW:=λD M E=>F (D.at M) E
abbrev Gd (a:aVA) (B:aVA->Prop) (G:List uO) (H:Hp) (S:St) (E:En) (G':List uO) (H':Hp) (S':St) (E':En):Prop:=Kp (λb=>Ow B S E b\/b∈a::fA G) (λb=>Ow B S' E' b\/b∈a::fA G') H H'
structure LD (q:Bool) (i:Nat) (a:aVA) (K:W.Frag) (B:aVA->Prop) (G:List uO) (H:Hp) (σ:St) (E:En) (DT:ETD) (D:jJ):Prop where
 nx:∀σ' H' E' G',DT.nx (md G') E'->Gd a B G H σ E G' H' σ' E'->DG q K i a G' σ' H'->RE K B (hide (·∈a::fA G') H') σ' E'->D.nx σ' H'
 rt:∀r E' v H' S' G',DT.rt r E'->Gd a B G H σ E G' H' S' E'->RE K B H' S' E'->RR K B H' S' E' r v->D.rt v H'
 bk:∀σ' H' E' G',DT.bk (md G') E'->Gd a B G H σ E G' H' σ' E'->DG q K i a G' σ' H'->RE K B (hide (·∈a::fA G') H') σ' E'->D.bk σ' H'
 ct:∀σ' H' E' G',DT.ct (md G') E'->Gd a B G H σ E G' H' σ' E'->DG q K i a G' σ' H'->RE K B (hide (·∈a::fA G') H') σ' E'->D.ct σ' H'
def qN (q:Bool) (i:Nat) (K:W.Frag) (F:yW):TS:=λD σ H=>∃a G B E DT,DG q K i a G σ H/\RE K B (hide (·∈a::fA G) H) σ E/\F DT (md G) E/\LD q i a K B G H σ E DT D
section
variable {X:Cx} {K:W.Frag} {st:aVK} {sts body:List aVK} {q:Bool} {i:Nat} {a:aVA} {B:aVA->Prop} {G G':List uO} {H H' H1:Hp} {σ σ' S S':St} {E E':En} {DT:ETD} {D:jJ}
theorem LD.step (l:LD q i a K B G H σ E DT D) (g:Gd a B G H σ E G' H' σ' E'):LD q i a K B G' H' σ' E' DT D:=
 ⟨λx b c d e f=>l.nx x b c d e (g.trans f),λx b c d e f h m=>l.rt x b c d e f h (g.trans m),λx b c d e f=>l.bk x b c d e (g.trans f),λx b c d e f=>l.ct x b c d e (g.trans f)⟩
theorem aJT {c:aVA} (h:c∈fA G):∃g∈G,g.c=c:=aDB.mp h
theorem uE {g:uO} (h:g∈G):g.c∈fA G:=aDB.mpr ⟨g,h,rfl⟩
theorem DG.hid (d:DG q K i a G σ H):∀c∈a::fA G,∃o,H c=some o/\Hid o:=λc m=>by
 rcases aB1.mp m with e | m
 ·rw [e];exact ⟨_,d.dc,aJQ _ _⟩
 ·obtain ⟨g,mg,rfl⟩:=aJT m;obtain ⟨vs,h,_⟩:=d.ls g mg;exact ⟨_,h,trivial⟩
theorem c9 {Z:aVA->Prop} (h:∀c,Z c->H1 c=none):hide Z (back Z H H1)=H1:=by
 funext b
 by_cases z:Z b
 ·rw [nU z,h b z]
 ·rw [fF z,fH z]
theorem RE.unhide {Z:aVA->Prop} (re:RE K B (hide Z H) S E):RE K B H S E:=re.kept λ_ _ e=>(cX e).2
theorem Rp.unhide {Z O:aVA->Prop} {t:T} {v:V} (h:Rp K (hide Z H) O t v):Rp K H O t v:=h.step ⟨λ_ _ e _=>(cX e).2,λ_ z=>.inl z⟩
theorem RR.unhide {Z:aVA->Prop} {r:R} {v:V} (h:RR K B (hide Z H) S E r v):RR K B H S E r v:=by
 cases r with
 | p t=>exact Rp.unhide h
 | s i=>exact h
theorem Gd.hid (g:Gd a B G H σ E G' H' σ' E'):Kp (Ow B σ E) (Ow B σ' E') (hide (·∈a::fA G) H) (hide (·∈a::fA G') H'):=by
 refine ⟨λb o e n=>?_,λb z=>?_⟩
 ·obtain ⟨n2,e⟩:=cX e;have k:=g.keep b o e λz=>z.elim n n2;rw [fF λz=>?_]
  ·exact k
  rcases g.new b (.inr z) with (z | z) | z
  ·exact n z
  ·exact n2 z
  ·rw [e] at z;cases z
 ·rcases g.new b (.inl z) with (z | z) | z
  ·exact .inl z
  ·exact .inr (nU z)
  ·exact .inr (iV z)
theorem DG.tk (d:DG q K i a G σ H) (re:RE K B (hide (·∈a::fA G) H) σ E) (g:Gs B (hide (·∈a::fA G) H) σ E H1 S' E'):∀b xs,H b=some (.tup xs)->H1 b=some (.tup xs):=λb xs e=>by
 have z:b∉a::fA G:=λz=>by
  obtain ⟨o,eo,k⟩:=d.hid b z;rw [e] at eo;cases eo;exact k
 refine g.keep b _ (by rw [fF z];exact e) λw=>?_;obtain ⟨us,e'⟩:=re.ow w;rw [fF z,e] at e';cases e'
theorem aKP (keep:∀b o,H b=some o->¬(cL H b\/b=a)->H' b=some o) (hd:¬cL H a):Kp (λc=>cL H c\/c=a) (λc=>cL H' c\/c=a) H H':=by
 refine ⟨keep,λb z=>?_⟩;rcases z with ⟨us,e⟩ | e
 ·by_cases w:cL H b\/b=a
  ·exact .inl w
  ·right
   cases hb:H b with
   | none=>rfl
   | some o=>
    have:=keep b o hb w;rw [e] at this;cases this;exact absurd (.inl ⟨us,hb⟩) w
 ·exact .inl (.inr e)
theorem DG.nl (d:DG q K i a G σ H):¬cL H a:=λ⟨us,e⟩=>by rw [d.dc] at e;exact aFH (Option.some.inj e)
theorem DG.after (d:DG q K i a G σ H) (re:RE K B (hide (·∈a::fA G) H) σ E) (g:Gs B (hide (·∈a::fA G) H) σ E H1 S' E') (gone:∀c∈a::fA G,H1 c=none) :
  Gd a B G H σ E G (back (·∈a::fA G) H H1) S' E'/\(∀σ',σ'[i]? = σ[i]?->DG q K i a G σ' (back (·∈a::fA G) H H1)):=by
 have isl:∀{b:aVA},Ow B σ E b->∃us,H b=some (.lst us):=λ{b} z=>by
  obtain ⟨us,e⟩:=re.ow z;exact ⟨us,(cX e).2⟩
 have kp:∀b o,H b=some o->¬Ow B σ E b->b∉a::fA G->H1 b=some o:=λb o e n z=>g.keep b o (by rw [fF z];exact e) n;have keep:∀b o,H b=some o->¬(cL H b\/b=a)->back (·∈a::fA G) H H1 b=some o:=λb o e n=>by
  by_cases z:b∈a::fA G
  ·rw [j3 z];exact e
  ·rw [fH z];exact kp b o e (λw=>n (.inl (isl w))) z
 refine ⟨⟨λb o e n=>?_,λb z=>?_⟩,λσ' hk=>⟨by rw [hk];exact d.nm,by rw [j3 (by simp)];exact d.dc,d.nd,λg' mg=>?_⟩⟩
 ·have z:b∉a::fA G:=λz=>n (.inr z);rw [fH z];exact kp b o e (λw=>n (.inl w)) z
 ·rcases z with z | z
  ·rcases g.new b z with w | w
   ·exact .inl (.inl w)
   ·by_cases y:b∈a::fA G
    ·exact .inl (.inr y)
    ·rw [fF y] at w;exact .inr w
  ·exact .inl (.inr z)
 ·obtain ⟨vs,h1,h2⟩:=d.ls g' mg;have z:g'.c∈a::fA G:=aJV _ (uE mg);exact ⟨vs,by rw [j3 z];exact h1,h2.step (aKP keep d.nl)⟩
theorem tK {F:FS} (h:QS X st (jY [i] K F)):QS X st (qN q i K (aOS F)):=
 h.frame.le λD σ H hl ⟨a,G,B,E,DT,d,re,hF,l⟩=>by
  refine ⟨a::fA G,d.hid,B,E,DT.at (md G),re,hF,⟨λσ' H1 E' z g re' hk=>⟨d.tk re g,λgone=>?_⟩,λr E' v H1 S' z g re' rr=>⟨d.tk re g,λgone=>?_⟩,λσ' H1 E' z g re' hk=>⟨d.tk re g,λgone=>?_⟩,λσ' H1 E' z g re' hk=>⟨d.tk re g,λgone=>?_⟩⟩⟩
  ·obtain ⟨g1,d1⟩:=d.after re g gone;exact l.nx _ _ _ G z g1 (d1 σ' (hk i (by simp))) (by rw [c9 gone];exact re')
  ·obtain ⟨g1,d1⟩:=d.after re g gone;exact l.rt r E' v _ S' G z g1 (RE.unhide (Z:=(·∈a::fA G)) (by rw [c9 gone];exact re')) (RR.unhide (Z:=(·∈a::fA G)) (by rw [c9 gone];exact rr))
  ·obtain ⟨g1,d1⟩:=d.after re g gone;exact l.bk _ _ _ G z g1 (d1 σ' (hk i (by simp))) (by rw [c9 gone];exact re')
  ·obtain ⟨g1,d1⟩:=d.after re g gone;exact l.ct _ _ _ G z g1 (d1 σ' (hk i (by simp))) (by rw [c9 gone];exact re')
def aOQ (F G:yW):yW:=λD M E=>F { D with nx:=λM' E'=>kF E' (G D M') } M E
theorem pE {F G:yW} (h1:QS X st (qN q i K F)) (h2:QB X sts (qN q i K G)):QB X (st::sts) (qN q i K (aOQ F G)):=
 (o8 h1 h2).leM λD σ H hl ⟨a,Gc,B,E,DT,d,re,hF,l⟩=>⟨a,Gc,B,E,_,d,re,hF,⟨λσ' H' E' G' hG g d' re'=>⟨a,G',B,E',DT,d',re',eU hG,l.step g⟩,l.rt,l.bk,l.ct⟩⟩
theorem aML {F:yW} (h1:QS X st (qN q i K F)):QB X [st] (qN q i K F):=tM h1
def frG (t:TG):TG:=λv σ H Q=>∃Z:List aVA,(∀c∈Z,∃o,H c=some o/\Hid o)/\t v σ (L2.hide (·∈Z) H) λσ' H1=>(∀b xs,H b=some (.tup xs)->H1 b=some (.tup xs))/\((∀c∈Z,H1 c=none)->Q σ' (L2.back (·∈Z) H H1))
theorem QG.frame {e:Expr} {t:TG} (h:QG X e t):QG X e (frG t):=⟨λpins s σ H v u Q I r ⟨Z,hZ,z⟩=>cF (h.h (pins++j9 s.heap Z) s σ _ v u _ (I.hide hZ) r z) λ_ s' ⟨σ',H1,I1,ht,z⟩=>by
  obtain ⟨I2,g⟩:=I.back hZ I1 ht;exact ⟨σ',_,I2,z g⟩⟩
def qB (g:FG) (F:yW) (D:ETD):List T->MD->En->Prop
 | [],M,E=>D.nx M E
 | x::xs,M,E=>g x E λE'=>kF E' (F { D with nx:=qB g F D xs,ct:=qB g F D xs,bk:=D.nx } M)
def z9 (E:En) (p:Nat) (k:List T->Prop):Prop:=match E[p]? with
 | some (some (.p (.lst xs)))=>k xs
 | _=>False
theorem z9.ex {E:En} {p:Nat} {k:List T->Prop} (h:z9 E p k):∃xs,E[p]? = some (some (.p (.lst xs)))/\k xs:=by
 unfold z9 at h;split at h
 ·rename_i xs e;exact ⟨xs,e,h⟩
 ·exact h.elim
def aPP (p:Nat) (g:FG) (F:yW):yW:=λD M E=>z9 E p λxs=>kF E (qB g F D xs M)
theorem aMG {p:Nat} {tg:Expr} {x:Str} {px pos:Pos} {g:FG} {F:yW} (eK:X.K=K) (hp:PassesOwn (aVG X.prog X.w) X.A X.env X.xe) (hc:X.calm=true) (hi:X.N[p]? = some x) (hv:Vis X.env.scope x) (hg:QG X tg (vU [i] K g)) (hb:QB X body (qN q i K F)) (hs:∀y,aVN (.Name x px) X.env y=pure y:=by intro _;rfl)
  (hd:(x==("__debug__":Str))=false:=by decide) (hcd:(x==("__classdict__":Str))=false:=by decide):QS X (.For tg (.Name x px) body [] pos) (qN q i K (aPP p g F)):=by
 subst eK;refine (yZ hp hc (tU (qv p hi hv hd hcd)) hg.frame hb hs).le λD σ H hl ⟨a,G,B,E,DT,d,re,hF,l⟩=>?_;obtain ⟨items,eI,hF⟩:=hF.ex;replace hF:=eU hF;obtain ⟨v,sv,rv⟩:=re.pure p _ eI;obtain ⟨pp,vs,rfl,sq,rs⟩:=rv.sqL;refine ⟨.ref pp,sv,pp,rfl,⟨vs,sq.imp (λh=>h.imp (λh=>(cX h).2) λ⟨o,h⟩=>⟨o,(cX h).2⟩) id⟩,?_⟩
 let P:List T->St->Hp->Prop:=λits σ' H'=>∃G' E',qB g F DT its (md G') E'/\Gd a B G H σ E G' H' σ' E'/\DG q X.K i a G' σ' H'/\RE X.K B (hide (·∈a::fA G') H') σ' E'/\Rp X.K (hide (·∈a::fA G') H') (Ow B σ' E') (.lst items) (.ref pp)
 refine ⟨λn m σ' H'=>m=items.length-n/\n<=items.length/\P (items.drop n) σ' H',⟨_,rfl,aQ5 _,G,E,hF,Kp.refl _ _,d,re,rv⟩,?_⟩;rintro n m σ2 H2 ⟨rfl,hn,G2,E2,q2,g2,d2,re2,rp2⟩;have ok:=sT (K:=X.K) (p:=pp) (xs:=items);rcases aRB n items.length with hlt | hge
 ·have hdr:items.drop n=items[n]::items.drop (n+1):=aQ3 hlt;rw [hdr] at q2;refine .inr ⟨ok.go n H2 _ rp2.unhide hlt,P (items.drop (n+1)),λσ' H' z=>⟨items.length-(n+1),by omega,rfl,hlt,z⟩,λy H4 yl=>?_⟩;obtain ⟨e4,yl⟩:=yl;subst e4;obtain ⟨p',vs',ep,sq',rs'⟩:=rp2.sqL;cases ep;obtain ⟨w,w1,w2⟩:=rs'.get (aAX hlt);rw [yl vs' (sq'.imp (λh=>h.imp (λh=>(cX h).2) λ⟨o,h⟩=>⟨o,(cX h).2⟩) id)] at w1;cases w1;refine ⟨_,d2.hid,B,[],E2,items[n],_,by rw [aKE];exact re2,by rw [aKE];exact w2,q2,λσ5 H5 E5 q5 g5 re5 hl5 hk5=>?_⟩;rw [aKE] at g5 re5;rw [aKE] at g5;refine ⟨d2.tk re2 g5,λgone=>?_⟩;obtain ⟨g6,d6⟩:=d2.after re2 g5 gone;have d7:=d6 σ5 (hk5 i (by simp));have re7:RE X.K B (hide (·∈a::fA G2) (back (·∈a::fA G2) H4 H5)) σ5 E5:=by rw [c9 gone];exact re5
  have g7:=g2.trans g6;have rp7:Rp X.K (hide (·∈a::fA G2) (back (·∈a::fA G2) H4 H5)) (Ow B σ5 E5) (.lst items) (.ref pp):=by rw [c9 gone];exact rp2.step g5
  have l7:=l.step g7;refine ⟨a,G2,B,E5,_,d7,re7,eU q5,?_⟩;exact ⟨λσ' H' E' G' z gg d' re'=>⟨G',E',z,g7.trans gg,d',re',rp7.step (Gd.hid gg)⟩,l7.rt,λσ' H' E' G' z gg d' re'=>l7.nx _ _ _ _ z gg d' re',λσ' H' E' G' z gg d' re'=>⟨G',E',z,g7.trans gg,d',re',rp7.step (Gd.hid gg)⟩⟩
 ·have ei:n=items.length:=by omega
  subst ei;rw [aS0] at q2;exact .inl ⟨ok.stop H2 _ rp2.unhide,l.nx _ _ _ _ q2 g2 d2 re2⟩
end
end L2
namespace L2
open PySem PySem.Spec PyProof.Rows
end L2
namespace L2
open PySem PySem.Spec PyProof.Rows
section
variable {X:Cx} {K:W.Frag} {st:aVK} {sts body:List aVK} {i:Nat} {a:aVA} {B:aVA->Prop} {G G':List uO} {H H' H1:Hp} {σ σ' S S':St} {E E':En} {DT:ETD} {D:jJ} {M:MD}
def aOU (i:Nat) (l r:Str) (F:yW):FS:=λD E=>kF (E.set i none) (F (ETD.of D) [([Sum.inr l],[]),([Sum.inr r],[])])
theorem aD5 {Z:aVA->Prop} (h:∀b,¬Z b->H' b=H b) (k:∀b,Z b->H b=none):hide Z H'=H:=by
 funext b
 by_cases z:Z b
 ·rw [nU z,k b z]
 ·rw [fF z,h b z]
theorem aH1 {F:yW} {x l r:Str} {p' pd pos pl1 pl2 pk1 pk2:Pos} {j1 j2} (hlr:l≠r) (hN:X.N.Nodup) (hi:X.N[i]? = some x) (hx:Loc X.env.scope x) (hrest:QB X sts (qN false i K F)) (hs:aV3 (.Dict [some (.Constant (.str l) j1 pk1),some (.Constant (.str r) j2 pk2)] [.List [] pl1,.List [] pl2] pd) (some (.Name x p')) pos.line X.env=pure false:=by rfl)
  (hf:X.fn x=true\/X.env.scope.names.lookup x=some .local:=by first | exact .inl rfl | exact .inr rfl | assumption):QB X (.Assign [.Name x p'] (.Dict [some (.Constant (.str l) j1 pk1),some (.Constant (.str r) j2 pk2)] [.List [] pl1,.List [] pl2] pd) pos::sts) (g8 K (aOU i l r F)):=by
 refine (o8 (zB hN hi hx (⟨aIM (xB uP (uT pO).h (xB uP (uT pO).h aIL)) rfl rfl (λz=>nomatch z) (show 2<=15 by decide)⟩:QE X _ (aKM [(tC (.str l),aHL aJD),(tC (.str r),aHL aJD)])) hs hf) hrest).leM λD σ H hl ⟨B,E,DT,re,hF,ll⟩=>?_;intro b hb;replace hF:=eU hF;refine ⟨aQ5 _,λp hp=>⟨aQ5 _,λq hq=>?_⟩⟩;have bp:p≠b:=λz=>by rw [z,bT] at hp;cases hp
 have bq:q≠p:=λz=>by rw [z,bT] at hq;cases hq
 have bq2:q≠b:=λz=>by rw [z,aR (Ne.symm bp),bT] at hq;cases hq
 have hp0:H p=none:=by rw [aR bp] at hp;exact hp
 have hq0:H q=none:=by rw [aR bq,aR bq2] at hq;exact hq
 refine ⟨by rw [aR (Ne.symm bq2),aR (Ne.symm bp),bT],[(Sum.inr l,.ref p),(Sum.inr r,.ref q)],rfl,(show 2<=15 by decide),?_⟩;have mk:lN [] [(Sum.inr l,V.ref p),(Sum.inr r,V.ref q)]=[(Sum.inr l,V.ref p),(Sum.inr r,V.ref q)]:=by
  have:(Sum.inr l:Key)≠Sum.inr r:=λz=>hlr (Sum.inr.inj z);simp [lN,tW,this]
 rw [mk];obtain ⟨c4,c5⟩:=re.setVN (i:=i) (v:=.ref b);have li:i<σ.length:=by rw [hl];exact (aA7.mp hi).1
 let G0:List uO:=[⟨[Sum.inr l],p,[]⟩,⟨[Sum.inr r],q,[]⟩]
 generalize eHx:upd (upd (upd (upd H b (.dK [])) p (.lst [])) q (.lst [])) b (.dK [(Sum.inr l,V.ref p),(Sum.inr r,V.ref q)])=Hx;have x1:Hx b=some (.dK [(Sum.inr l,V.ref p),(Sum.inr r,V.ref q)]):=by rw [<-eHx,bT]
 have x2:Hx p=some (.lst []):=by rw [<-eHx,aR bp,aR (Ne.symm bq),bT]
 have x3:Hx q=some (.lst []):=by rw [<-eHx,aR bq2,bT]
 have x4:∀c,c≠b->c≠p->c≠q->Hx c=H c:=λc h1 h2 h3=>by rw [<-eHx,aR h1,aR h3,aR h2,aR h1]
 have mem:∀{c:aVA},c∈b::fA G0↔c=b\/c=p\/c=q:=λ{c}=>by simp [fA,G0]
 have non:∀{c:aVA},c∈b::fA G0->H c=none:=λ{c} m=>by rcases mem.mp m with e | e | e<;>(rw [e];assumption)
 have hH:hide (·∈b::fA G0) Hx=H:=aD5 (λc n=>x4 c (λe=>n (mem.mpr (.inl e))) (λe=>n (mem.mpr (.inr (.inl e)))) λe=>n (mem.mpr (.inr (.inr e)))) λc m=>non m;have out:∀{H':Hp} {S':St} {E':En} {G':List uO},Gd b B G0 Hx (σ.set i (some (.ref b))) (E.set i none) G' H' S' E'->Gs B H σ E H' S' E':=λ{H' S' E' G'} g=>by
  have nz:∀{c o},H c=some o->c∉b::fA G0:=λ{c o} e m=>by rw [non m] at e;cases e
  have ex:∀{c o},H c=some o->Hx c=some o:=λ{c o} e=>by rw [<-hH] at e;exact (cX e).2
  refine ⟨λc o e n=>g.keep c o (ex e) λz=>?_,λc z=>?_⟩
  ·rcases z with z | z
   ·exact n (c5 c z)
   ·exact nz e z
  ·rcases g.new c (.inl z) with (z | z) | z
   ·exact .inl (c5 c z)
   ·exact .inr (non z)
   ·right
    cases e:H c with
    | none=>rfl
    | some o=>rw [ex e] at z;cases z
 refine ⟨b,G0,B,E.set i none,_,⟨aOP li,x1,?_,λg hg=>?_⟩,by rw [hH];exact c4,hF,?_⟩
 ·show [p,q].Nodup;simp [Ne.symm bq]
 ·have:g=⟨[Sum.inr l],p,[]⟩\/g=⟨[Sum.inr r],q,[]⟩:=by simpa [G0] using hg
  rcases this with e | e
  ·subst e;exact ⟨[],x2,rfl⟩
  ·subst e;exact ⟨[],x3,rfl⟩
 ·exact ⟨λσ' H' E' G' z g' _ re'=>ll.nx _ _ _ z (out g') re'.unhide,λr E' v H' S' G' z g' re' rr=>ll.rt _ _ _ _ _ z (out g') re' rr,λσ' H' E' G' z g' _ re'=>ll.bk _ _ _ z (out g') re'.unhide,λσ' H' E' G' z g' _ re'=>ll.ct _ _ _ z (out g') re'.unhide⟩
def tX:MD->Str->T->MD
 | [],_,_=>[]
 | (k,xs)::r,w,t=>if k=[Sum.inr w] then (k,xs++[t])::r else (k,xs)::tX r w t
def xM (M:MD) (w:Str):Bool:=M.any λp=>decide (p.1=[Sum.inr w])
theorem aAH {w:Str}:∀{G:List uO},(∀g∈G,∃z,g.k=[Sum.inr z])->xM (md G) w=true->∃G1 g G2,G=G1++g::G2/\nO (G.map λg=>(g.k.headD (Sum.inl 0),V.ref g.c)) (Sum.inr w)=some (.ref g.c)/\∀t,tX (md G) w t=md (G1++⟨g.k,g.c,g.o++[t]⟩::G2)
 | [],_,h=>by cases h
 | g::G,hk,h=>by
  obtain ⟨z,ek⟩:=hk g (by simp)
  by_cases c:g.k=[Sum.inr w]
  ·refine ⟨[],g,G,rfl,?_,λt=>?_⟩
   ·rw [aPB,mK (by rw [c];rfl)]
   ·show (if g.k=[Sum.inr w] then _ else _)=_;rw [if_pos c];rfl
  ·have h':xM (md G) w=true:=by
    have:(decide (g.k=[Sum.inr w])||xM (md G) w)=true:=h;rw [decide_eq_false c] at this
    simpa using this
   obtain ⟨G1,g',G2,e1,e2,e3⟩:=aAH (λg hg=>hk g (by simp [hg])) h';refine ⟨g::G1,g',G2,by rw [e1];rfl,?_,λt=>?_⟩
   ·rw [aPB,m9 (λz=>c (by rw [ek] at z ⊢;simpa using z))];exact e2
   ·show (if g.k=[Sum.inr w] then _ else _::tX (md G) w t)=_;rw [if_neg c,e3 t];rfl
mutual
theorem aK3 {K:W.Frag} {H:Hp} {O O':aVA->Prop} {q:Bool} (hO:∀b,O' b->O b\/∃kvs,H b=some (dob q kvs)):∀{t:T} {v:V},Rp K H O t v->Rp K H O' t v
 | .non,_,h=>h
 | .bl _,_,h=>h
 | .int _,_,h=>h
 | .str _,_,h=>h
 | .tup xs,v,h=>by
  obtain ⟨a,vs,e1,h1,h2⟩:=h;refine ⟨a,vs,e1,h1.imp (λ⟨n,h⟩=>⟨λz=>?_,h⟩) id,yV hO h2⟩;rcases hO a z with z | ⟨kvs,e⟩
  ·exact n z
  ·rw [h] at e;exact aLW (Option.some.inj e).symm
 | .lst xs,v,h=>by
  obtain ⟨a,vs,e1,h1,h2⟩:=h;refine ⟨a,vs,e1,h1.imp (λ⟨n,h⟩=>⟨λz=>?_,h⟩) id,yV hO h2⟩;rcases hO a z with z | ⟨kvs,e⟩
  ·exact n z
  ·rcases h with h | ⟨o,h⟩
   ·rw [h] at e;exact aFH (Option.some.inj e).symm
   ·rw [h] at e;cases q<;>cases e
theorem yV {K:W.Frag} {H:Hp} {O O':aVA->Prop} {q:Bool} (hO:∀b,O' b->O b\/∃kvs,H b=some (dob q kvs)):∀{xs:List T} {vs:List V},cG K H O xs vs->cG K H O' xs vs
 | [],_,h=>h
 | _::_,_,⟨v,r,e,h1,h2⟩=>⟨v,r,e,aK3 hO h1,yV hO h2⟩
end
def aQN:R->(T->Prop)->Prop
 | .p t,Q=>Q t
 | .s _,_=>False
def kOk (M:MD):Bool:=M.all λp=>match p.1 with | [Sum.inr _]=>true | _=>false
def aPG (Fw Fe:FE):yW:=λD M E=>Fw E λr E1=>E1=E/\z1 (vl E r) λw=>xM M w=true/\kOk M=true/\(∀p∈M,p.2.length<1000)/\Fe E λr2 E2=>E2=E/\aQN r2 λt=>noL t=true/\D.nx (tX M w t) E
theorem aFW {G:List uO} (h:kOk (md G)=true):∀g∈G,∃z,g.k=[Sum.inr z]:=λg hg=>by
 have:=aN7.mp h (g.k,g.o) (aDB.mpr ⟨g,hg,rfl⟩);simp only at this;split at this
 ·exact ⟨_,by assumption⟩
 ·cases this
theorem aK8 {Fw Fe:FE} {y:Str} {p1 ps ap cp pos:Pos} {ew e:Expr} {j:Nat} (hr:dD j X.A) (hi:X.N[i]? = some y) (hv:Vis X.env.scope y) (hw:QE X ew (aL K Fw)) (he:QE X e (aL K Fe)) (hsl:aHC ew) (hbase:aVZ (.Subscript (.Name y p1) ew ps) "append" X.env (aVP (.Subscript (.Name y p1) ew ps) X.env)=aVP (.Subscript (.Name y p1) ew ps) X.env:=by rfl) (hline:(ap.endLine==cp.line)=true:=by rfl) (hst:bX e=false:=by rfl)
  (hs:aV3 (.Call (.Attribute (.Subscript (.Name y p1) ew ps) "append" ap) [e] [] cp) none pos.line X.env=pure false:=by rfl) (hd:(y==("__debug__":Str))=false:=by decide) (hcd:(y==("__classdict__":Str))=false:=by decide) :
  QS X (.Expr (.Call (.Attribute (.Subscript (.Name y p1) ew ps) "append" ap) [e] [] cp) pos) (qN false i K (aPG Fw Fe)):=by
 refine (aAY (n8 (⟨aA8 (aKH hr) (yI hi hv hd hcd) hw.frame.h hsl⟩:QE X _ (aEL (aJE i) (frE (aL K Fw)))) (qc he.frame pO hst) hbase hline hst) hs).le λD σ H hl ⟨a,G,B,E,DT,d,re,hF,l⟩=>?_;have same:∀{S2:St} {H2:Hp},(∃τ,S2=σ++τ)->RE K B H2 S2 E->S2=σ:=λ{S2 H2} ⟨τ,hτ⟩ r2=>by
  have h1:=congrArg List.length hτ;rw [aIG,r2.len,re.len] at h1;obtain rfl:τ=[]:=aSY (by omega);rw [hτ,aKE]
 refine ⟨.ref a,d.nm,_,d.hid,B,σ,E,_,⟨[],by simp⟩,re,hF,λr E1 v H1 S1 z g re1 rr=>⟨d.tk re g.kp,λgone=>?_⟩⟩;obtain ⟨rfl,z⟩:=z;obtain rfl:=same g.pre re1;obtain ⟨w,ew',z⟩:=z1.ex z;have ev:v=V.str w:=re1.vl rr ew';subst ev;obtain ⟨g1,d1⟩:=d.after re g.kp gone;replace d1:=d1 S1 rfl;have re2:RE K B (hide (·∈a::fA G) (back (·∈a::fA G) H H1)) S1 E1:=by rw [c9 gone];exact re1
 generalize back (·∈a::fA G) H H1=H2 at g1 d1 re2;obtain ⟨z1',z2,z3,z⟩:=z;obtain ⟨G1,g0,G2,eG,hval,happ⟩:=aAH (aFW z2) z1';have m0:g0∈G:=by rw [eG];simp
 obtain ⟨vs,hc,_⟩:=d1.ls g0 m0;refine ⟨a,.ref g0.c,rfl,?_,.inl ⟨rfl,vs,iU.of hc⟩,?_⟩
 ·have:=zO.k (k:=Sum.inr w) (show H2 a=some (.dK _) from d1.dc);rw [hval] at this;exact this
 refine ⟨_,d1.hid,B,S1,E1,_,⟨[],by simp⟩,re2,z,λr2 E2 v2 H3 S2 z g3 re3 rr3=>⟨d1.tk re2 g3.kp,λgone3=>?_⟩⟩;obtain ⟨rfl,z⟩:=z;obtain rfl:=same g3.pre re3;cases r2 with
 | s _=>exact z.elim
 | p t=>
  obtain ⟨nl,z⟩:=z;obtain ⟨g4,d4⟩:=d1.after re2 g3.kp gone3;replace d4:=d4 S2 rfl;have re4:RE K B (hide (·∈a::fA G) (back (·∈a::fA G) H2 H3)) S2 E2:=by rw [c9 gone3];exact re3
  have rp4:Rp K (back (·∈a::fA G) H2 H3) (Ow B S2 E2) t v2:=Rp.unhide (Z:=(·∈a::fA G)) (by rw [c9 gone3];exact rr3);generalize back (·∈a::fA G) H2 H3=H4 at g4 d4 re4 rp4;obtain ⟨vs4,h4,r4⟩:=d4.ls g0 m0;have len:vs4.length<aVI:=by
   rw [r4.length,aWU];have:=z3 (g0.k,g0.o) (aDB.mpr ⟨g0,m0,rfl⟩);simp only at this;omega
  refine ⟨g0.c,vs4,v2,rfl,rfl,h4,len,?_⟩;have mc:g0.c∈a::fA G:=aJV _ (uE m0);have em:∀{b:aVA} {xs:List T},b∈a::fA (G1++⟨g0.k,g0.c,xs⟩::G2)↔b∈a::fA G:=λ{b xs}=>by rw [eG];simp [fA]
  have ca:g0.c≠a:=λw=>d4.nl ⟨vs4,by rw [<-w];exact h4⟩;have keep:∀b o,H4 b=some o->¬(cL H4 b\/b=a)->upd H4 g0.c (.lst (vs4++[v2])) b=some o:=λb o e n=>by
   rw [aR (λw=>n (.inl (by rw [w];exact ⟨vs4,h4⟩)))];exact e
  have kl:=aKP keep d4.nl;have hh:hide (·∈a::fA (G1++⟨g0.k,g0.c,g0.o++[t]⟩::G2)) (upd H4 g0.c (.lst (vs4++[v2])))=hide (·∈a::fA G) H4:=by
   funext b
   by_cases w:b∈a::fA G
   ·rw [nU (em.mpr w),nU w]
   ·rw [fF (λw'=>w (em.mp w')),fF w,aR (λw'=>w (by rw [w'];exact mc))]
  have rpL:Rp K H4 (λc=>cL H4 c\/c=a) t v2:=by
   have r1:Rp K H4 (cL H4) t v2:=Rp.noL (λb w=>w) nl rp4;exact aK3 (λb w=>w.imp id λw=>by subst w;exact ⟨_,d4.dc⟩) r1
  refine l.nx _ _ _ (G1++⟨g0.k,g0.c,g0.o++[t]⟩::G2) (by rw [<-happ t];exact z) ((g1.trans g4).trans ⟨λb o e n=>?_,λb w=>?_⟩) ⟨d4.nm,?_,?_,λg' mg=>?_⟩ (by rw [hh];exact re4)
  ·rw [aR (λw=>n (.inr (by rw [w];exact mc)))];exact e
  ·exact .inl (w.imp id λw=>em.mp w)
  ·rw [aR (Ne.symm ca),d4.dc,eG];simp [dob]
  ·have:=d4.nd;rw [eG] at this
   simpa [fA] using this
  ·have old:∀g'∈G,g'.c≠g0.c->∃vs,upd H4 g0.c (.lst (vs4++[v2])) g'.c=some (.lst vs)/\cG K (upd H4 g0.c (.lst (vs4++[v2]))) (λc=>cL (upd H4 g0.c (.lst (vs4++[v2]))) c\/c=a) g'.o vs:=λg' mg ne=>by
    obtain ⟨us,h1,h2⟩:=d4.ls g' mg;exact ⟨us,by rw [aR ne];exact h1,h2.step kl⟩
   have nd:=d4.nd;have perm:(fA G).Perm (g0.c::fA (G1++G2)):=by
    rw [eG];show List.Perm ((G1++g0::G2).map (·.c)) (((g0::(G1++G2)).map (·.c)));exact List.Perm.map _ List.perm_middle
   have nn:g0.c∉fA (G1++G2):=(aS3.mp (perm.nodup_iff.mp nd)).1;have oth:∀g'∈G1++G2,g'.c≠g0.c:=λg' mg w=>nn (by rw [<-w];exact uE mg);rcases aM3.mp mg with m | m
   ·exact old g' (by rw [eG];simp [m]) (oth g' (aM3.mpr (.inl m)))
   ·rcases aB1.mp m with m | m
    ·subst m;exact ⟨vs4++[v2],bT,(r4.step kl).append ⟨v2,[],rfl,rpL.step kl,rfl⟩⟩
    ·exact old g' (by rw [eG];simp [m]) (oth g' (aM3.mpr (.inr m)))
end
end L2
namespace L2
open PySem PySem.Spec PyProof.Rows
def k9:MD->Str->Option (List T)
 | [],_=>none
 | (k,xs)::r,w=>if k=[Sum.inr w] then some xs else k9 r w
structure DR (K:W.Frag) (i:Nat) (a:aVA) (M:MD) (O:aVA->Prop) (σ:St) (H:Hp):Prop where
 nm:σ[i]? = some (some (.ref a))
 dc:∃kvs,H a=some (.dK kvs)/\∀w xs,k9 M w=some xs->∃v,nO kvs (Sum.inr w)=some v/\Rp K H O (.lst xs) v
def rQ (i:Nat) (M:MD) (K:W.Frag) (F:FS):TS:=λD σ H=>∃a B E DT,DR K i a M (Ow B σ E) σ H/\RE K B H σ E/\F DT E/\LS K B H σ E DT (D.kp [i] σ)
section
variable {X:Cx} {K:W.Frag} {st:aVK} {sts body:List aVK} {i:Nat} {a:aVA} {B:aVA->Prop} {H H' H1:Hp} {σ σ' S S':St} {E E':En} {D:jJ} {M:MD} {F G:FS} {g:FG}
theorem DR.step (d:DR K i a M (Ow B σ E) σ H) (re:RE K B H σ E) (g:Gs B H σ E H' σ' E') (hk:Kn [i] σ' σ):DR K i a M (Ow B σ' E') σ' H':=by
 obtain ⟨kvs,h1,h2⟩:=d.dc;refine ⟨by rw [hk i (by simp)];exact d.nm,kvs,g.keep a _ h1 λz=>?_,λw xs e=>?_⟩
 ·obtain ⟨us,e⟩:=re.ow z;rw [h1] at e;cases e
 ·obtain ⟨v,e1,e2⟩:=h2 w xs e;exact ⟨v,e1,e2.step g⟩
theorem aAE (h:QS X st (jY [i] K F)):QS X st (rQ i M K F):=h.le λD σ H hl ⟨a,B,E,DT,d,re,hF,l⟩=>⟨B,E,DT,re,hF,l⟩
theorem aIO (h1:QS X st (rQ i M K F)) (h2:QB X sts (rQ i M K G)):QB X (st::sts) (rQ i M K (aM0 F G)):=
 (o8 h1 h2).leM λD σ H hl ⟨a,B,E,DT,d,re,hF,l⟩=>⟨a,B,E,_,d,re,hF,⟨λσ' H' E' hG g re' hk=>⟨a,B,E',DT,d.step re g hk,re',eU hG,(l.step g).kp hk⟩,l.rt,l.bk,l.ct⟩⟩
theorem yP (h1:QS X st (rQ i M K F)):QB X [st] (rQ i M K F):=tM h1
def aAG (M:MD) (w:Str) (g:FG) (F:FS):FS:=λD E=>o1 (k9 M w) λxs=>kF E (cO g F D xs)
theorem aGJ {tg:Expr} {x w:Str} {px pw ps pos:Pos} {jw} {j:Nat} (hr:dD j X.A) (eK:X.K=K) (hp:PassesOwn (aVG X.prog X.w) X.A X.env X.xe) (hc:X.calm=true) (hi:X.N[i]? = some x) (hv:Vis X.env.scope x) (hg:QG X tg (vU [i] K g)) (hb:QB X body (rQ i M K F)) (hsl:aHC (.Constant (.str w) jw pw)) (hs:∀y,aVN (.Subscript (.Name x px) (.Constant (.str w) jw pw) ps) X.env y=pure y:=by intro _;rfl)
  (hd:(x==("__debug__":Str))=false:=by decide) (hcd:(x==("__classdict__":Str))=false:=by decide):QS X (.For tg (.Subscript (.Name x px) (.Constant (.str w) jw pw) ps) body [] pos) (rQ i M K (aAG M w g F)):=by
 subst eK;refine (yZ hp hc (tU (⟨aA8 (aKH hr) (yI hi hv hd hcd) uP hsl⟩:QE X _ (aEL (aJE i) (tC (.str w))))) hg hb hs).le λD σ H hl ⟨a,B,E,DT,d,re,hF,l⟩=>?_;obtain ⟨items,eI,hF⟩:=hF.ex;replace hF:=eU hF;obtain ⟨kvs,h1,h2⟩:=d.dc;obtain ⟨v,e1,rv⟩:=h2 w items eI;obtain ⟨pp,vs,rfl,sq,rs⟩:=rv.sqL;have dg:=zO.k (k:=Sum.inr w) h1;rw [e1] at dg;refine ⟨.ref a,d.nm,a,.ref pp,rfl,dg,pp,rfl,⟨vs,sq⟩,?_⟩
 let P:List T->St->Hp->Prop:=λits σ' H'=>Kn [i] σ' σ/\∃E',cO g F DT its E'/\Gs B H σ E H' σ' E'/\RE X.K B H' σ' E'/\Rp X.K H' (Ow B σ' E') (.lst items) (.ref pp)
 refine ⟨λn m σ' H'=>m=items.length-n/\n<=items.length/\P (items.drop n) σ' H',⟨_,rfl,aQ5 _,Kn.refl,E,hF,Kp.refl _ _,re,rv⟩,?_⟩;rintro n m σ2 H2 ⟨rfl,hn,hk2,E2,q2,g2,re2,rp2⟩;have ok:=sT (K:=X.K) (p:=pp) (xs:=items);rcases aRB n items.length with hlt | hge
 ·have hdr:items.drop n=items[n]::items.drop (n+1):=aQ3 hlt;rw [hdr] at q2;refine .inr ⟨ok.go n H2 _ rp2 hlt,P (items.drop (n+1)),λσ' H' z=>⟨items.length-(n+1),by omega,rfl,hlt,z⟩,λy H4 yl=>?_⟩;obtain ⟨k4,s4,rp⟩:=ok.yld n H2 _ y H4 _ rp2 (aAX hlt) (λa z=>by obtain ⟨vs,e⟩:=re2.ow z;rw [e];intro z;cases z) yl;have re4:=re2.kept s4;refine ⟨B,[],E2,items[n],_,by rw [aKE];exact re4,by rw [aKE];exact rp,q2,λσ5 H5 E5 q5 g5 re5 hl5 hk5=>?_⟩;rw [aKE] at g5 re5;rw [aKE] at g5;have gg:=(g2.trans k4).trans g5;have h5:=hk5.trans hk2;have l5:=l.step gg;have rp5:Rp X.K H5 (Ow B σ5 E5) (.lst items) (.ref pp):=(rp2.step k4).step g5;refine ⟨a,B,E5,_,d.step re gg h5,re5,eU q5,?_⟩;exact ⟨λσ' H' E' z g' re' hk=>⟨hk.trans h5,E',z,gg.trans g',re',rp5.step g'⟩,l5.rt,λσ' H' E' z g' re' hk=>l5.nx _ _ _ z g' re' (hk.trans h5),λσ' H' E' z g' re' hk=>⟨hk.trans h5,E',z,gg.trans g',re',rp5.step g'⟩⟩
 ·have ei:n=items.length:=by omega
  subst ei;rw [aS0] at q2;exact .inl ⟨ok.stop H2 _ rp2,l.nx _ _ _ q2 g2 re2 hk2⟩
theorem xC {w:Str} {xs:List T}:∀{G:List uO},(∀g∈G,∃z,g.k=[Sum.inr z])->k9 (md G) w=some xs->∃g∈G,g.o=xs/\nO (G.map λg=>(g.k.headD (Sum.inl 0),V.ref g.c)) (Sum.inr w)=some (.ref g.c)
 | [],_,h=>by cases h
 | g::G,hk,h=>by
  obtain ⟨z,ek⟩:=hk g (by simp)
  by_cases c:g.k=[Sum.inr w]
  ·replace h:(if g.k=[Sum.inr w] then some g.o else _)=some xs:=h;rw [if_pos c] at h;cases h;exact ⟨g,by simp,rfl,by rw [aPB,mK (by rw [c];rfl)]⟩
  ·replace h:(if g.k=[Sum.inr w] then some g.o else k9 (md G) w)=some xs:=h;rw [if_neg c] at h;obtain ⟨g',m,e1,e2⟩:=xC (λg hg=>hk g (by simp [hg])) h;exact ⟨g',by simp [m],e1,by rw [aPB,m9 (λz=>c (by rw [ek] at z ⊢;simpa using z))];exact e2⟩
def aQ1 (F:MD->FS):yW:=λD M E=>kOk M=true/\F M { nx:=λ_=>False,rt:=D.rt } E
theorem aIX {F:MD->FS} (hrest:∀M,QB X sts (rQ i M K (F M))):QB X sts (qN false i K (aQ1 F)):=
 QB.leM (t:=λD σ H=>∃M,rQ i M K (F M) D σ H) ⟨λpins s σ H D I ⟨M,z⟩=>(hrest M).h pins s σ H D I z⟩ λD σ H hl ⟨a,G,B,E,DT,d,re,⟨hk,hF⟩,l⟩=>by
  have isl:∀{b:aVA},Ow B σ E b->cL H b/\b∉a::fA G:=λ{b} w=>by
   obtain ⟨us,e⟩:=re.ow w;obtain ⟨n,e⟩:=cX e;exact ⟨⟨us,e⟩,n⟩
  refine ⟨md G,a,B,E,_,⟨d.nm,_,d.dc,λw xs e=>?_⟩,re.unhide,hF,⟨λ_ _ _ z=>z.elim,λr E' v H' S' z g re' rr=>l.rt r E' v H' S' G z ⟨λb o e n=>g.keep b o e λw=>n (.inl w),λb w=>?_⟩ re' rr,λ_ _ _ z=>z.elim,λ_ _ _ z=>z.elim⟩⟩
  ·obtain ⟨g,mg,rfl,hv⟩:=xC (aFW hk) e;obtain ⟨vs,h1,h2⟩:=d.ls g mg;refine ⟨_,hv,g.c,vs,rfl,.inl ⟨λz=>(isl z).2 (aJV _ (uE mg)),.inl h1⟩,h2.step (Kp.less λb z=>.inl (isl z).1)⟩
  ·rcases w with w | w
   ·exact (g.new b w).imp .inl id
   ·exact .inl (.inr w)
end
end L2
namespace L2
open PySem PySem.Spec PyProof.Rows
end L2
namespace L2
open PySem PySem.Spec PyProof.Rows
def dX:List Int->Int
 | []=>0
 | n::ns=>ns.foldl (λa b=>if b<a then b else a) n
def m8:List Int->Int
 | []=>0
 | n::ns=>ns.foldl (λa b=>if a<b then b else a) n
theorem mL:∀(ns:List Int) (n:Int),(ns.foldl (λa b=>if b<a then b else a) n=n\/ns.foldl (λa b=>if b<a then b else a) n∈ns)/\ns.foldl (λa b=>if b<a then b else a) n<=n/\∀z∈ns,ns.foldl (λa b=>if b<a then b else a) n<=z
 | [],n=>⟨.inl rfl,Int.le_refl _,λz h=>absurd h (by simp)⟩
 | m::ns,n=>by
  obtain ⟨h1,h2,h3⟩:=mL ns (if m<n then m else n);rw [aTV];generalize ns.foldl (λa b=>if b<a then b else a) (if m<n then m else n)=r at h1 h2 h3
  by_cases c:m<n
  ·rw [if_pos c] at h1 h2;refine ⟨.inr ?_,by omega,λz hz=>?_⟩
   ·rcases h1 with h1 | h1<;>simp [h1]
   ·rcases aB1.mp hz with rfl | hz
    ·exact h2
    ·exact h3 z hz
  ·rw [if_neg c] at h1 h2;refine ⟨h1.imp id λh=>by simp [h],h2,λz hz=>?_⟩;rcases aB1.mp hz with rfl | hz
   ·omega
   ·exact h3 z hz
theorem mI:∀(ns:List Int) (n:Int),(ns.foldl (λa b=>if a<b then b else a) n=n\/ns.foldl (λa b=>if a<b then b else a) n∈ns)/\n<=ns.foldl (λa b=>if a<b then b else a) n/\∀z∈ns,z<=ns.foldl (λa b=>if a<b then b else a) n
 | [],n=>⟨.inl rfl,Int.le_refl _,λz h=>absurd h (by simp)⟩
 | m::ns,n=>by
  obtain ⟨h1,h2,h3⟩:=mI ns (if n<m then m else n);rw [aTV];generalize ns.foldl (λa b=>if a<b then b else a) (if n<m then m else n)=r at h1 h2 h3
  by_cases c:n<m
  ·rw [if_pos c] at h1 h2;refine ⟨.inr ?_,by omega,λz hz=>?_⟩
   ·rcases h1 with h1 | h1<;>simp [h1]
   ·rcases aB1.mp hz with rfl | hz
    ·exact h2
    ·exact h3 z hz
  ·rw [if_neg c] at h1 h2;refine ⟨h1.imp id λh=>by simp [h],h2,λz hz=>?_⟩;rcases aB1.mp hz with rfl | hz
   ·omega
   ·exact h3 z hz
theorem aII {ns:List Int} {M:Int} (h:M∈ns) (k:∀z∈ns,M<=z):M=dX ns:=by
 cases ns with
 | nil=>simp at h
 | cons n ns=>
  obtain ⟨h1,h2,h3⟩:=mL ns n;show M=ns.foldl _ n;generalize ns.foldl (λa b=>if b<a then b else a) n=r at h1 h2 h3;have a1:r<=M:=by
   rcases aB1.mp h with rfl | h
   ·exact h2
   ·exact h3 M h
  have a2:M<=r:=k r (by rcases h1 with h1 | h1<;>simp [h1]);omega
theorem aIQ {ns:List Int} {M:Int} (h:M∈ns) (k:∀z∈ns,z<=M):M=m8 ns:=by
 cases ns with
 | nil=>simp at h
 | cons n ns=>
  obtain ⟨h1,h2,h3⟩:=mI ns n;show M=ns.foldl _ n;generalize ns.foldl (λa b=>if a<b then b else a) n=r at h1 h2 h3;have a1:M<=r:=by
   rcases aB1.mp h with rfl | h
   ·exact h2
   ·exact h3 M h
  have a2:r<=M:=k r (by rcases h1 with h1 | h1<;>simp [h1]);omega
theorem lH:∀{ns:List Int} {us:List Value},bF (ns.map V.int) us->∃xs:Array (Int×Tok),us.toArray=intItems xs/\ns=xs.toList.map (·.1)
 | [],us,h=>by cases h;exact ⟨#[],by simp [intItems],rfl⟩
 | n::ns,us,h=>by
  cases h with
  | cons h1 h2=>
   obtain ⟨t,rfl⟩:=h1;obtain ⟨xs,e1,e2⟩:=lH h2;refine ⟨((n,t)::xs.toList).toArray,?_,by simp [e2]⟩;have e1':=congrArg aU9 e1;simp [intItems] at e1';simp [intItems,e1']
section
variable {X:Cx} {e:Expr} {es:List Expr} {pos:Pos} {K:W.Frag} {Fr:FA}
theorem aCW (hc:X.calm=true):fQ X (.builtin "min") (λxs H Q=>∃(a:aVA) (ns:List Int),xs=[.ref a]/\iU X.K H a (ns.map V.int)/\0<ns.length/\Q (.int (dX ns)) H):=by
 intro pins s σ H xs us Q I r h;obtain ⟨a,ns,rfl,sq,hn,q⟩:=h;obtain ⟨u,rfl,rx⟩:=bF.one r;cases rx;obtain ⟨its,rv,ht,hz⟩:=I.list sq;obtain ⟨xs,e1,e2⟩:=lH rv;have hl:=ht.isList;rw [e1] at hl;have hsz:0<xs.size:=by rw [e2] at hn;simpa using hn
 refine min_intList (I.ok.hd hc) hl hsz λv h' tk hv hk=>?_;obtain ⟨t,rfl⟩:=intItems_at hv;obtain ⟨h1,h2⟩:=argBest_lt (numAt xs) (xs.size-1);have:numAt xs (argBest (λi j=>decide (numAt xs i<numAt xs j)) (xs.size-1))=dX ns:=by
  refine aII ?_ λz hz=>?_
  ·rw [numAt_eq,<-e2];have:argBest (λi j=>decide (numAt xs i<numAt xs j)) (xs.size-1)<ns.length:=by rw [e2];simp;omega
   rw [aG5,aAX this];exact aQI _
  ·obtain ⟨j,hj,rfl⟩:=List.getElem_of_mem hz;have:=h2 j (by rw [e2] at hj;simp at hj;omega);rw [numAt_eq xs j,<-e2,aG5,aAX hj] at this;exact this
 rw [this];exact ⟨.int _,H,I.kept hk,⟨_,rfl⟩,q⟩
theorem aC7 (hc:X.calm=true):fQ X (.builtin "max") (λxs H Q=>∃(a:aVA) (ns:List Int),xs=[.ref a]/\iU X.K H a (ns.map V.int)/\0<ns.length/\Q (.int (m8 ns)) H):=by
 intro pins s σ H xs us Q I r h;obtain ⟨a,ns,rfl,sq,hn,q⟩:=h;obtain ⟨u,rfl,rx⟩:=bF.one r;cases rx;obtain ⟨its,rv,ht,hz⟩:=I.list sq;obtain ⟨xs,e1,e2⟩:=lH rv;have hl:=ht.isList;rw [e1] at hl;have hsz:0<xs.size:=by rw [e2] at hn;simpa using hn
 refine max_intList (I.ok.hd hc) hl hsz λv h' tk hv hk=>?_;obtain ⟨t,rfl⟩:=intItems_at hv;obtain ⟨h1,h2⟩:=argBest_gt (numAt xs) (xs.size-1);have:numAt xs (argBest (λi j=>decide (numAt xs i>numAt xs j)) (xs.size-1))=m8 ns:=by
  refine aIQ ?_ λz hz=>?_
  ·rw [numAt_eq,<-e2];have:argBest (λi j=>decide (numAt xs i>numAt xs j)) (xs.size-1)<ns.length:=by rw [e2,aBC,aTC];omega
   rw [aG5,aAX this];exact aQI _
  ·obtain ⟨j,hj,rfl⟩:=List.getElem_of_mem hz;have:=h2 j (by rw [e2] at hj;simp at hj;omega);rw [numAt_eq xs j,<-e2,aG5,aAX hj] at this;exact this
 rw [this];exact ⟨.int _,H,I.kept hk,⟨_,rfl⟩,q⟩
def aR4 (t:Option T) (k:List Int->Prop):Prop:=∃ns:List Int,t=some (.lst (ns.map T.int))/\0<ns.length/\k ns
theorem qL {H:Hp} {O:aVA->Prop}:∀{ns:List Int} {vs:List V},cG K H O (ns.map T.int) vs->vs=ns.map V.int
 | [],_,h=>h
 | n::ns,_,⟨v,r,e,h1,h2⟩=>by
  subst e;have h1:v=V.int n:=h1;rw [h1,qL h2];rfl
def fML (f:List Int->Int) (Fr:FA):FE:=λE Q=>Fr E λrs E1=>match rs with
 | [x]=>aR4 (vl E1 x) λns=>Q (.p (.int (f ns))) E1
 | _=>False
theorem mF {n:Nat} {p:Pos} (eK:X.K=K) (hc:X.calm=true) (hg:Gl X "min") (hm:X.mg "min" = none) (ha:QA X (e::es) (dJ K n Fr)) (hs:bJ (e::es)=true:=by rfl):QE X (.Call (.Name "min" p) (e::es) [] pos) (aL K (fML dX Fr)):=by
 subst eK;refine (dU (aCW hc) hg hm boot_min ha (by decide) (by decide) hs).le λσ H Q hl h=>args (Fr:=Fr) h λB S E rs vs H2 Q' hS re rr hn q lk=>?_
 match rs,rr,q with
 | [x],⟨v,ws,e1,h1,h3⟩,q=>
  cases h3;subst e1;obtain ⟨ns,e3,h0,q⟩:=q;obtain ⟨a,vs,e4,sq,rs⟩:=re.vl h1 e3;rw [qL rs] at sq;exact ⟨a,ns,by rw [e4],sq,h0,lk _ _ _ _ _ q .refl re rfl⟩
 | [],_,q=>exact q.elim
 | _::_::_,_,q=>exact q.elim
theorem uL {n:Nat} {p:Pos} (eK:X.K=K) (hc:X.calm=true) (hg:Gl X "max") (hm:X.mg "max" = none) (ha:QA X (e::es) (dJ K n Fr)) (hs:bJ (e::es)=true:=by rfl):QE X (.Call (.Name "max" p) (e::es) [] pos) (aL K (fML m8 Fr)):=by
 subst eK;refine (dU (aC7 hc) hg hm boot_max ha (by decide) (by decide) hs).le λσ H Q hl h=>args (Fr:=Fr) h λB S E rs vs H2 Q' hS re rr hn q lk=>?_
 match rs,rr,q with
 | [x],⟨v,ws,e1,h1,h3⟩,q=>
  cases h3;subst e1;obtain ⟨ns,e3,h0,q⟩:=q;obtain ⟨a,vs,e4,sq,rs⟩:=re.vl h1 e3;rw [qL rs] at sq;exact ⟨a,ns,by rw [e4],sq,h0,lk _ _ _ _ _ q .refl re rfl⟩
 | [],_,q=>exact q.elim
 | _::_::_,_,q=>exact q.elim
end
end L2
namespace L2
open PySem PySem.Spec PyProof.Rows
section
variable {X:Cx} {K:W.Frag} {Fa:FE} {tg:Expr}
def aPV (K:W.Frag) (tl:TE):TI:=λσ H R=>tl σ H λx H1=>∃a,x = .ref a/\((∃xs,iU K H1 a xs)/\R (Itl K a) H1\/(∃xs,rL K H1 a xs)/\R (Itt K a) H1)
theorem aMW {l:Expr} {tl:TE} (hl:PE X l tl):PI X tg l (aPV X.K tl):=by
 intro pins s σ H R I h;refine cF (hl pins s σ H _ I h) λv s1 ⟨x,H1,I1,r1,q1⟩=>?_;obtain ⟨a,e,q⟩:=q1;subst e;cases r1;rcases q with ⟨⟨xs,hq⟩,q⟩ | ⟨⟨xs,hq⟩,q⟩
 ·obtain ⟨its,rv,p,hz⟩:=I1.list hq;refine wpAny_pyIter_list p.isList ?_;refine ⟨s1.heap.objs.size,[s1.heap.objs.size],_,_,H1,rfl,I1.kept (t':=s1.toks) λb o e=>aDA _ e,rW a _,⟨_,aG4 _ rfl,rfl,rfl⟩,λb hb=>?_,q⟩;have e:b=s1.heap.objs.size:=by simpa using hb
  subst e;exact I1.fpOk (aDP _) (I1.hok.fresh (aDP _))
 ·obtain ⟨its,rv,p,hz⟩:=I1.tuple hq;refine aWE (show s1.heap.IsTuple a its.toArray from p) ?_;refine ⟨s1.heap.objs.size,[s1.heap.objs.size],_,_,H1,rfl,I1.kept (t':=s1.toks) λb o e=>aDA _ e,qG a _,⟨_,aG4 _ rfl,rfl,rfl⟩,λb hb=>?_,q⟩;have e:b=s1.heap.objs.size:=by simpa using hb
  subst e;exact I1.fpOk (aDP _) (I1.hok.fresh (aDP _))
def iSq (Fa:FE):FI:=λE Q=>Fa E λr E1=>match vl E1 r with
 | some (.lst xs)=>l8 E1 r=[]/\Q xs [] E1
 | some (.tup xs)=>l8 E1 r=[]/\Q xs [] E1
 | _=>False
theorem aED {l:Expr} (eK:X.K=K) (hl:QE X l (aL K Fa)):QI X tg l (nF K (iSq Fa)):=by
 subst eK;refine QI.le (t:=aPV X.K (aL X.K Fa)) ⟨aMW hl.h⟩ λσ H R hn ⟨B,S,E,Q',hS,re,hF,lk⟩=>⟨B,S,E,_,hS,re,hF,λr E1 v H1 S1 q g re1 rr=>?_⟩;split at q
 ·rename_i xs e1;obtain ⟨a,vs,e2,sq,rs⟩:=re1.vl rr e1;exact ⟨a,e2,.inl ⟨⟨vs,sq⟩,lk _ _ _ _ _ _ _ q.2 g re1 sT (λj hj=>absurd hj (by simp)) λO h1 h2=>by rw [<-e2];exact kZ re1 rr e1 O h1 λj hj=>absurd hj (by rw [q.1];simp)⟩⟩
 ·rename_i xs e1;obtain ⟨a,vs,e2,sq,rs⟩:=re1.vl rr e1;exact ⟨a,e2,.inr ⟨⟨vs,sq⟩,lk _ _ _ _ _ _ _ q.2 g re1 aGK (λj hj=>absurd hj (by simp)) λO h1 h2=>by rw [<-e2];exact kZ re1 rr e1 O h1 λj hj=>absurd hj (by rw [q.1];simp)⟩⟩
 ·exact q.elim
end
end L2
namespace L2
open PySem PySem.Spec PyProof.Rows
section
variable {X:Cx} {K:W.Frag} {pos:Pos} {o e:Expr} {Fo:FE} {Fr:FA}
def aQM (Fo:FE) (Fr:FA):FE:=λE Q=>Fo E λo E1=>o1 (ownOf E1 o) λ_=>Fr E1 λrs E2=>match o with
 | .s j=>o1 (oV E2 rs) λz=>match z.1,z.2[j]? with
  | [t],some (some (.o k xs))=>xs.length<1000/\Q (.p .non) (z.2.set j (some (.o k (xs++[t]))))
  | _,_=>False
 | _=>False
theorem lO {n:Nat} {ap:Pos} (eK:X.K=K) (ho:QE X o (aL K Fo)) (ha:QA X [e] (dJ K n Fr)) (hbase:aVZ o "append" X.env (aVP o X.env)=aVP o X.env:=by rfl) (hline:(ap.endLine==pos.line)=true:=by rfl) (hs:bX e=false:=by rfl) :
  QE X (.Call (.Attribute o "append" ap) [e] [] pos) (aL K (aQM Fo Fr)):=by
 subst eK;refine (n8 ho ha hbase hline hs).le λσ H Q hl h=>?_;obtain ⟨B,S,E,Q',⟨τ,hS⟩,re,hF,lk⟩:=h;refine ⟨B,S,E,_,⟨τ,hS⟩,re,hF,λoo E1 v H1 S1 q g1 re1 rx=>?_⟩;obtain ⟨τ1,hS1⟩:=g1.pre;obtain ⟨xs0,e0,q⟩:=o1.ex q;obtain ⟨j,k,p,vs,rfl,hE,hSj,rfl,h2,h3⟩:=re1.ownOf rx e0;refine ⟨.inl ⟨rfl,vs,iU.of h2⟩,B,S1,E1,_,⟨τ++τ1,by rw [hS1,hS,aDE]⟩,re1,q,λrs E2 us H2 S2 q2 g2 re2 rr hn=>?_⟩;have hSj2:S2[j]? = some (some (.ref p)):=dF g2.pre hSj;simp only at q2;obtain ⟨z,e3,q2⟩:=o1.ex q2;obtain ⟨re3,ow,rp⟩:=lY re2 rr e3;obtain ⟨ts,E3⟩:=z;simp only at q2 re3 ow rp;split at q2
 ·rename_i t k2 xs hE3;obtain ⟨hz,q2⟩:=q2;obtain ⟨p',vs2,z1,z2,z3,_⟩:=re3.own j k2 xs hE3;rw [hSj2] at z1;cases z1;obtain ⟨y,ws,rfl,r1,r2⟩:=rp;cases r2;refine ⟨p,vs2,y,rfl,rfl,z2,?_,?_⟩
  ·rw [z3.length];exact bQ (by omega)
  ·have rp1:cG X.K H2 (Ow B S2 E3) [t] [y]:=⟨y,[],rfl,r1,rfl⟩;obtain ⟨g3,re4⟩:=re3.put hE3 hSj2 (z3.append rp1);exact lk _ _ _ _ _ q2 ((g1.trans g2).trans (Gr.trans ⟨Kp.less ow,[],by simp⟩ g3)) re4 rfl
 ·exact q2.elim
end
end L2
namespace My
open PySem L2 PyProof.Rows
def top (i:Nat):aVK:=PySem.Challenge.pw_sidecut_k27_points_and_ways_in_patches.main.body.getD i (.Pass ⟨0,0,0,0⟩)
section
variable {P:aVD} {w:aVH} {K:W.Frag} {mg:Str->Option Value} {base:Heap}
structure Bx (xs:List T) (n:Int):Prop where
 ex:∃A B c:Int,xs=[.int A,.int B,.int c]/\0<=A/\0<=B/\B<2147483647/\0<=c/\c<=n
theorem Bx.mono {xs:List T} {n m:Int} (b:Bx xs n) (h:n<=m):Bx xs m:=let ⟨A,B,c,h1,h2,h3,h4,h5,h6⟩:=b;⟨A,B,c,h1,h2,h3,h4,h5,by omega⟩
def pZ:gW:=λas Q=>∃(xs:List T) (m n:Int),as=[.b xs,.v (.int m)]/\Bx xs n/\n<=1000000/\1<=m/\m<2^200/\∀r ys,0<=r->r<m->Bx ys (n+1)->Q (.v (.int r)) ys
abbrev zT:aVK:=top 28
theorem sN:aN ["_law_box_here","_law_many","_law_once","_law_found"] ["_law_box_here","_law_many"] (aH zT):=⟨rfl,rfl,rfl,by decide +kernel,rfl,by decide +kernel,by decide +kernel⟩
theorem aJH {f:aVA} {fd:aVF} (F:fO K "_law_take" "_law_take" zT f fd) (TX:Txt mg)    : bL P w K mg base fP 1 f fd ["_law_box_here","_law_many"] (aI K pZ):=by
 refine F.okT sN ?len (λcdv A outer s H E hr=>(aE (dG (cY oJ (aG rfl (fv 0) aB (λ_ _=>rfl)) aB (aS _)) (aE (jB (aCM rfl TX.n_divmod (fc (aG rfl (fv 0) aB (λ_ _=>rfl)) (fc (fv 1) aA))) (cZ (n:=2) rfl rfl (aM (x0 (fv 0) aB) (aM (aK (i:=3) sN.nd rfl (aDC rfl)) b9))))
 (aJ (aO (fv 3)))) cJ)
 (aE (jB (aU bU (aG rfl (fv 0) aB (λ_ _=>rfl)) aB) (x0 (fv 0) aB))
 (aE (aX (i:=2) sN.nd rfl (aDC rfl) (aP jV (aP aGO (aU bU (aG rfl (fv 0) aB (λ_ _=>rfl)) (aP aV aB (aG rfl (fv 0) aB (λ_ _=>rfl)))) aB) aB))
 (aJ (aO (aP jV (aP dL (aP jV (aU bU (aP aV (fv 2) aB) (aP aV (aP aV (aG rfl (fv 0) aB (λ_ _=>rfl)) (aG rfl (fv 0) aB (λ_ _=>rfl))) aB)) aB) aB) (fv 1)))))))) ?rd
 case len=>rintro as Q ⟨xs,m,n,rfl,_⟩;rfl
 case rd=>
  rintro as Q ⟨xs,m,n,rfl,⟨A,B,c,rfl,hA,hB,hB2,hc,hcn⟩,hn,h1,h2,k⟩;show if decide (0<A)=true then _ else _
  by_cases hA0:0<A
  ·rw [decide_eq_true hA0,if_pos rfl];refine ⟨⟨by omega,h2⟩,⟨rfl,k _ _ (aUC _ (by omega)) (aT0 _ (by omega)) ⟨_,_,_,rfl,Int.ediv_nonneg hA (by omega),hB,hB2,hc,by omega⟩⟩⟩
  ·rw [decide_eq_false hA0,if_neg (by decide)];have p5:aLO (B+39373*(c+1)) 5:=⟨by decide,by decide,by omega⟩;have o1:0<=(B+39373*(c+1))^(5:Int).toNat%2147483647:=aUC _ (by decide);have o2:(B+39373*(c+1))^(5:Int).toNat%2147483647<2147483647:=aT0 _ (by decide);have d64:pQ (((B+39373*(c+1))^(5:Int).toNat%2147483647*48271+(c+1)*(c+1)*7919)%2147483629) 64:=⟨by decide,aEG (show (64:Int).natAbs<2^7 by decide) (aQ6 (by decide) (by decide))⟩;refine ⟨rM (by decide),p5,(by show (0:Int)<2147483647;decide),?_⟩;refine ⟨t5 (by decide),rM (by omega),t5 (by decide),?_⟩;refine ⟨(by show (0:Int)<2147483629;decide),d64,(by show (0:Int)<m;omega),⟨rfl,?_⟩⟩;exact k _ _ (aUC _ (by omega)) (aT0 _ (by omega)) ⟨_,_,_,rfl,hA,hB,hB2,by omega,by omega⟩
def aZ (ns:List Int):List T:=ns.map T.int
theorem aGC {ns:List Int} {k:Int} (h0:0<=k) (h1:k<(ns.length:Int)):∃z,e8 (aZ ns) k=some (.int z):=by
 have hk:k.toNat<ns.length:=by omega
 refine ⟨ns[k.toNat],?_⟩;have e3:k=((k.toNat:Nat):Int):=by omega
 have z:=pF (xs:=aZ ns) (j:=k.toNat) (v:=T.int ns[k.toNat]) (by rw [aZ,aDF,aAX hk];rfl);rw [<-e3] at z;exact z
def yR:gW:=λas Q=>∃(ns:List Int) (k:Int),as=[.v (.lst (aZ ns)),.v (.int k)]/\0<=k/\k<=1000/\∀xs,Bx xs 0->iR xs=true->Q (.l xs) []
def yH:gW:=λas Q=>∃(n d:Int),as=[.v (.int n),.v (.int d)]/\d≠0/\d.natAbs<2^8000/\Q (.v (fr (low n d))) []
theorem wW {i:Int} {n d:Int} (hd:d≠0) (hb:d.natAbs<2^8000):pQ i ((aOM n.natAbs d.natAbs:Nat):Int):=by
 have h1:0<aOM n.natAbs d.natAbs:=aS9 _ (by omega);have h2:aOM n.natAbs d.natAbs<=d.natAbs:=Nat.gcd_le_right _ (by omega);exact ⟨by omega,aOL (by omega) hb⟩
theorem qQ (i:Int) (n:Nat):i.fdiv (n:Int)=i/(n:Int):=aS5 _ (by omega)
def oX:gW:=λas Q=>∃(n d:Int),as=[.v (.int n),.v (.int d)]/\Q (.v (.int ((aOM n.natAbs d.natAbs:Nat):Int))) []
abbrev fZ:aVK:=top 1
theorem fM:aN ["one","other"] ["one","other"] (aH fZ):=⟨rfl,rfl,rfl,by decide +kernel,rfl,by decide +kernel,by decide +kernel⟩
theorem m7 {f:aVA} {fd:aVF} (F:fO K "common_divisor" "common_divisor" fZ f fd) (TX:Txt mg)    : bL P w K mg base fP 1 f fd ["one","other"] (aI K oX):=by
 refine F.okT fM ?len (λcdv A outer s H E hr=>(aE (eS (i:=0) (j:=1) rfl fM.nd rfl rfl (by decide) rfl rfl (fc (n9 rfl TX.n_abs (fc (fv 0) aA)) (fc (n9 rfl TX.n_abs (fc (fv 1) aA)) aA)) rfl)
 (aE (wH PassesOwn.never (l9 rfl hr (fv 1) aB (aS _)) (aJ (eS (i:=0) (j:=1) rfl fM.nd rfl rfl (by decide) rfl rfl (fc (fv 1) (fc (aP jV (fv 0) (fv 1)) aA)) rfl)))
 (aJ (aO (fv 0)))))) ?rd
 case len=>rintro as Q ⟨n,d,rfl,_⟩;rfl
 case rd=>
  rintro as Q ⟨n,d,rfl,q⟩;refine ⟨λm E=>∃x y:Nat,E=[some (.p (.int x)),some (.p (.int y))]/\m=y/\aOM x y=aOM n.natAbs d.natAbs,⟨_,_,_,rfl,rfl,rfl⟩,?_⟩;rintro m E ⟨x,y,rfl,rfl,hg⟩;refine ⟨aQ5 _,?_⟩;show if (!((m:Int)==0))=true then _ else _
  by_cases hy:m=0
  ·subst hy;rw [if_neg (by decide)];rw [Nat.gcd_zero_right] at hg;subst hg;exact ⟨rfl,q⟩
  ·rw [if_pos (by simpa using hy)];exact ⟨(by show (0:Int)<(m:Int);omega),x%m,aTQ _ (by omega),m,x%m,rfl,rfl,by rw [vX];exact hg⟩
end
end My
namespace My
open PySem L2 PyProof.Rows
section
variable {P:aVD} {w:aVH} {K:W.Frag} {mg:Str->Option Value} {base:Heap}
theorem pl {x e f:Nat} (h:x<2^e) (k:e<=f):x<2^f:=aEG h (aQ6 (by decide) k)
def jN (op:Fr->Fr->Fr):gW:=λas Q=>∃x y:Fr,as=[.v (fr x),.v (fr y)]/\cH x/\cH y/\sz x+sz y<=7900/\Q (.v (fr (op x y))) []
def oR (x y x' y':Fr):Fr:=iC (fS x x') (fS y y')
def d5 (x y x' y':Fr):Fr:=bK (fS x y') (fS y x')
structure Nv (a b:Fr) (e:Nat):Prop where
 x:cH a
 y:cH b
 sx:sz a<=e
 sy:sz b<=e
def tVV (op:Fr->Fr->Fr->Fr->Fr):gW:=λas Q=>∃(x y x' y':Fr) (e f:Nat),as=[.v (vc x y),.v (vc x' y')]/\Nv x y e/\Nv x' y' f/\e+f<=3900/\Q (.v (fr (op x y x' y'))) []
theorem eV {a b:Nat} (h:Nat.ble a b=true):a<=b:=Nat.le_of_ble_eq_true h
theorem aJM {x y c s:Fr} {e f:Nat} (h:Nv x y e) (k:Nv c s f):cH (oR x y c s):=eD (bC h.x k.x) (bC h.y k.y)
theorem aCU {x y c s:Fr} {e f:Nat} (h:Nv x y e) (k:Nv c s f):cH (d5 x y c s):=cU (bC h.x k.y) (bC h.y k.x)
theorem Nv.up {x y:Fr} {e f:Nat} (h:Nv x y e) (k:e<=f):Nv x y f:=⟨h.x,h.y,aPW h.sx k,aPW h.sy k⟩
theorem kM (n:Int):val (n,1)=(n:Rat):=by
 show (n:Rat)/((1:Int):Rat)=n
 push_cast
 grind
theorem m4:val (1,1)=1:=by rw [kM];rfl
theorem qX:val (0,1)=0:=by rw [kM];rfl
theorem aBQ {p:Fr} (h:cH p):val p*(p.2:Rat)=(p.1:Rat):=by have:=h.neR;unfold val;grind
theorem aPT {p:Fr} (h:cH p):(0:Rat)<(p.2:Rat):=by have:=h.d;exact_mod_cast (show (0:Int)<p.2 by omega)
theorem h9 {p:Fr} (h:cH p):0<=val p↔0<=p.1:=by
 have e:=aBQ h;have d:=aPT h;constructor
 ·intro k;have:=Rat.mul_nonneg k (Rat.le_of_lt d);rw [e] at this
  exact_mod_cast this
 ·intro k;have k':(0:Rat)<=(p.1:Rat):=by exact_mod_cast k
  rcases Rat.le_total (a:=0) (b:=val p) with c | c
  ·exact c
  ·by_cases z:val p=0
   ·grind
   ·have:=Rat.mul_pos (a:=-val p) (b:=p.2) (by grind) d;grind
theorem aE4 {p:Fr} (h:cH p):val p<=0↔p.1<=0:=by
 have:=h9 (aH2 h);rw [aH6 h] at this;have e:(aCP p).1 = -p.1:=rfl;rw [e] at this;constructor
 ·intro k;have:=this.1 (by grind);omega
 ·intro k;have:=this.2 (by omega);grind
theorem uJ {p:Fr} (h:cH p):val p<0↔p.1<0:=by
 have:=h9 h;constructor
 ·intro k;exact Int.not_le.mp λc=>by have:=this.2 c;grind
 ·intro k;exact Rat.not_le.mp λc=>by have:=this.1 c;omega
theorem tN {p:Fr} (h:cH p):0<val p↔0<p.1:=by
 have:=aE4 h;constructor
 ·intro k;exact Int.not_le.mp λc=>by have:=this.2 c;grind
 ·intro k;exact Rat.not_le.mp λc=>by have:=this.1 c;omega
theorem j6 {lo:Int} {n i:Nat} {t:L2.T} (h:(gT lo n)[i]? = some t):i<n/\t = .int (lo+(i:Int)):=by
 unfold gT at h;rw [aDF] at h;rcases aRB i n with c | c
 ·rw [aUG c] at h;cases h;exact ⟨c,rfl⟩
 ·rw [aT5 (by simpa using c)] at h;cases h
theorem cT {z k:Rat} (hk:0<k) (h:0<z*k):0<z:=by
 rcases Rat.le_total (a:=z) (b:=0) with c | c
 ·have:=Rat.mul_nonneg (a:=-z) (b:=k) (by grind) (Rat.le_of_lt hk);grind
 ·by_cases e:z=0
  ·rw [e] at h;grind
  ·grind
theorem cA {z k:Rat} (hk:0<k) (h:0<=z*k):0<=z:=by
 rcases Rat.le_total (a:=z) (b:=0) with c | c
 ·by_cases e:z=0
  ·grind
  ·have:=Rat.mul_pos (a:=-z) (b:=k) (by grind) hk;grind
 ·exact c
end
end My
namespace My
open PySem L2 PyProof.Rows
section
variable {P:aVD} {w:aVH} {K:W.Frag} {mg:Str->Option Value} {base:Heap}
abbrev aFF:aVK:=top 27
theorem zR:aN ["_law_script","_law_k","_law_cell"] ["_law_script","_law_k"] (aH aFF):=⟨rfl,rfl,rfl,by decide +kernel,rfl,by decide +kernel,by decide +kernel⟩
theorem aNB {f:aVA} {fd:aVF} (F:fO K "_law_box" "_law_box" aFF f fd) (TX:Txt mg)    : bL P w K mg base fP 1 f fd ["_law_script","_law_k"] (aI K yR):=by
 refine F.okT zR ?len (λcdv A outer s H E hr=>(aE (aX (i:=2) zR.nd rfl (aDC rfl) aB)
 (aE (dG (cY fR (fv 1) (fJ rfl rfl TX.n_len (fc (fv 0) aA)) (aS _)) (aJ (aX (i:=2) zR.nd rfl (aDC rfl) (aG rfl (fv 0) (fv 1) (λ_ _=>rfl)))) cJ)
 (aJ (aO (cC (fc (aP aV (n9 rfl TX.n_abs (fc (fv 2) aA)) (aJF rfl TX.n_int (fc (mU sC (n9 rfl TX.n_abs (fc (fv 2) aA)) (aP aGO aB aB) (aS _)) aA))) (fc (aP jV (aU bU (fv 2) (aP aV (aP aV aB (fv 1)) (fv 1))) aB) (fc aB aA))))))))) ?rd
 case len=>rintro as Q ⟨ns,k,rfl,_⟩;rfl
 case rd=>
  rintro as Q ⟨ns,k,rfl,h0,h1,q⟩;have p10:aLO 10 18:=⟨by decide,by decide,by decide⟩;have bx:∀z:Int,Bx [.int ((z.natAbs:Int)*(if decide ((10:Int)^(18:Int).toNat<=(z.natAbs:Int))=true then 1 else 0)),.int ((z+7919*k*k)%2147483647),.int 0] 0:=λz=>
   ⟨_,_,_,rfl,Int.mul_nonneg (by omega) (by split<;>decide),aUC _ (by decide),aT0 _ (by decide),by decide,by decide⟩
  have k2:(7919*k).natAbs<2^60:=by omega
  have one:∀z:Int,(if decide ((10:Int)^(18:Int).toNat<=(z.natAbs:Int))=true then (1:Int) else 0).natAbs<2^60:=λz=>by split<;>decide
  have pm:(λ(_ j:Int)=>0<j) 0 2147483647:=by show (0:Int)<2147483647;decide
  show if decide (k<((aZ ns).length:Int))=true then _ else _
  by_cases hk:k<((aZ ns).length:Int)
  ·rw [decide_eq_true hk,if_pos rfl];obtain ⟨z,hz⟩:=aGC (ns:=ns) h0 (by simpa [aZ] using hk);show o1 (e8 (aZ ns) k) _;rw [hz];exact ⟨p10,t5 (one z),rM (by decide),rM k2,pm,⟨rfl,q _ (bx z) rfl⟩⟩
  ·rw [decide_eq_false hk,if_neg (by decide)];exact ⟨p10,t5 (one 0),rM (by decide),rM k2,pm,⟨rfl,q _ (bx 0) rfl⟩⟩
theorem aIC (ns:List Int) (m:Nat):iN (aZ ns) none (some (m:Int))=aZ (ns.take m):=by
 unfold iN aZ;rw [HT.sIx_none,HT.sIx_nat,aU5,Nat.sub_zero,aUO];rcases Nat.le_total m (ns.map T.int).length with h | h
 ·rw [aU0 h]
 ·rw [Nat.min_eq_right h,aS2 (aDP _),aS2 h]
theorem aGI {xs:List T} {lo hi:Option Int} {y:T} (h:y∈iN xs lo hi):y∈xs:=List.mem_of_mem_drop (aS8 h)
theorem aGN (xs:List T) (m k:Nat):(iN xs (some (m:Int)) (some (k:Int))).length<=xs.length-m:=by
 unfold iN;rw [HT.sIx_nat,HT.sIx_nat,aMI,aTO];omega
theorem aJP {xs:List T} {i:Nat} {x:T} (h:(xs.zipIdx.map λq=>T.tup [.int (q.2:Int),q.1])[i]? = some x):∃y,xs[i]? = some y/\x = .tup [.int (i:Int),y]:=by
 rw [aDF] at h;cases q:xs.zipIdx[i]? with
 | none=>rw [q] at h;cases h
 | some z=>
  rw [q] at h;cases h;obtain ⟨q1,q2⟩:=aA7.mp q;rw [List.getElem_zipIdx] at q2;subst q2;exact ⟨_,aAX (by simpa using q1),by simp⟩
end
end My
namespace My
open PySem L2 PyProof.Rows
section
variable {P:aVD} {w:aVH} {K:W.Frag} {mg:Str->Option Value} {base:Heap}
theorem wF:∀ns:List Int,iR (aZ ns)=true
 | []=>rfl
 | _::ns=>by simp [aZ,iR,noL];exact wF ns
def sW:gW:=λas Q=>∃(ns:List Int) (m:Nat),as=[.v (.lst (aZ ns)),.v (.int (m:Int))]/\ns.length<=63/\2<=m/\m<=63/\∀cs:List Int,cs.length<=m->Q (.l (aZ cs)) []
abbrev pY:aVK:=top 29
theorem kL:aN ["_law_script","_law_many","_law_cells","_law_k","_law_cell"] ["_law_script","_law_many"] (aH pY):=⟨rfl,rfl,rfl,by decide +kernel,rfl,by decide +kernel,by decide +kernel⟩
theorem aBZ {f:aVA} {fd:aVF} (F:fO K "_law_folded" "_law_folded" pY f fd) (TX:Txt mg)    : bL P w K mg base fP 1 f fd ["_law_script","_law_many"] (aI K sW):=by
 refine F.okT kL ?len (λcdv A outer s H E hr=>(aE (aX (i:=2) kL.nd rfl (aDC rfl) (aCD rfl rfl TX.n_list (fc (iW rfl (fv 0) kG (iH (fv 1))) aA)))
 (aE (eM PassesOwn.never rfl (uI rfl rfl TX.n_enumerate (fc (iW rfl (fv 0) (iH (fv 1)) (iH aB)) aA)) (cZ (n:=2) rfl rfl (aM (aK (i:=3) kL.nd rfl (aDC rfl)) (aM (aK (i:=4) kL.nd rfl (aDC rfl)) b9)))
  (aJ (jB (aU bU (aG rfl (fv 2) (aP jV (fv 3) (fv 1)) (λ_ _=>rfl)) (aP aV (fv 4) (aU bU (fv 3) aB))) (x0 (fv 2) (aP jV (fv 3) (fv 1))))))
 (aJ (aO (fv 2)))))) ?rd
 case len=>rintro as Q ⟨ns,m,rfl,_⟩;rfl
 case rd=>
  rintro as Q ⟨ns,m,rfl,hl,hm2,hm,q⟩;refine eY (λi E=>∃(cs:List Int) (v3 v4:Option U),E=[some (.p (.lst (aZ ns))),some (.p (.int (m:Int))),some (.o false (aZ cs)),v3,v4]/\cs.length=(ns.take m).length)
   ⟨ns.take m,none,none,by rw [<-aIC],rfl⟩ ?_ ?_
  ·rintro i x rest E hi ⟨cs,v3,v4,rfl,hc⟩ K;obtain ⟨y,hy,rfl⟩:=aJP hi;obtain ⟨z,rfl⟩:∃z,y=T.int z:=by
    obtain ⟨z,_,e⟩:=aDB.mp (aGI (aFS hy));exact ⟨z,e.symm⟩
   have hilt:i<ns.length-m:=by
    have h1:=(aA7.mp hy).1;have h2:=aGN (aZ ns) m 63;simp [aZ] at h2;exact aEG h1 h2
   have hcl:cs.length=m:=by rw [hc,aMI];omega
   have em:((i:Int)%(m:Int))=((i%m:Nat):Int):=rfl;have hj:i%m<cs.length:=by rw [hcl];exact aTQ _ (by omega)
   have hat:e8 (aZ cs) ((i:Int)%(m:Int))=some (T.int cs[i%m]):=by
    rw [em];exact pF (by rw [aZ,aDF,aAX hj];rfl)
   have hix:xQ (aZ cs).length ((i:Int)%(m:Int))=some (i%m):=by
    rw [em];unfold xQ;rw [if_pos (by omega),if_pos (by simp [aZ];omega),aQ8]
   have hmp:(λ(_ j:Int)=>0<j) (i:Int) (m:Int):=by show (0:Int)<(m:Int);omega
   refine ⟨hmp,?_⟩;show o1 (e8 (aZ cs) ((i:Int)%(m:Int))) _;rw [hat];refine ⟨t5 (by omega),hmp,?_⟩;show o1 (xQ (aZ cs).length ((i:Int)%(m:Int))) _;rw [hix];have e:aZ (cs.set (i%m) (cs[i%m]+z*((i:Int)+2)))=(aZ cs).set (i%m) (.int (cs[i%m]+z*((i:Int)+2))):=by rw [aZ,aZ,List.map_set]
   exact K _ ⟨cs.set (i%m) (cs[i%m]+z*((i:Int)+2)),some (.p (.int (i:Int))),some (.p (.int z)),by rw [e];rfl,by rw [aT8];exact hc⟩
  ·rintro E ⟨cs,v3,v4,rfl,hc⟩;have hcm:cs.length<=m:=by rw [hc,aMI];omega
   exact ⟨wF _,q cs hcm⟩
end
end My
namespace My
open PySem L2 PyProof.Rows
section
variable {P:aVD} {w:aVH} {K:W.Frag} {mg:Str->Option Value} {base:Heap}
def lG (x y:Fr):Int:=if x.1*y.2<y.1*x.2 then -1 else if y.1*x.2<x.1*y.2 then 1 else 0
def gY:gW:=λas Q=>∃x y:Fr,as=[.v (fr x),.v (fr y)]/\sz x+sz y<=7900/\Q (.v (.int (lG x y))) []
abbrev lE:aVK:=top 2
theorem kE:aN ["one","other","first","second"] ["one","other"] (aH lE):=⟨rfl,rfl,rfl,by decide +kernel,rfl,by decide +kernel,by decide +kernel⟩
theorem wV {f:aVA} {fd:aVF} (F:fO K "compared" "compared" lE f fd) (TX:Txt mg)    : bL P w K mg base fP 1 f fd ["one","other"] (aI K gY):=by
 refine F.okT kE ?len (λcdv A outer s H E hr=>(aE (aX (i:=2) kE.nd rfl (aDC rfl) (aP aV (aG rfl (fv 0) aB (λ_ _=>rfl)) (aG rfl (fv 1) aB (λ_ _=>rfl))))
 (aE (aX (i:=3) kE.nd rfl (aDC rfl) (aP aV (aG rfl (fv 1) aB (λ_ _=>rfl)) (aG rfl (fv 0) aB (λ_ _=>rfl))))
 (aE (dG (cY fR (fv 2) (fv 3) (aS _)) (aJ (aO (uY aB))) cJ)
 (aE (dG (cY oJ (fv 2) (fv 3) (aS _)) (aJ (aO aB)) cJ)
 (aJ (aO aB))))))) ?rd
 case len=>rintro as Q ⟨x,y,rfl,_⟩;rfl
 case rd=>
  rintro as Q ⟨x,y,rfl,hs,q⟩;refine ⟨gN (e:=7900) (pl (iX x) (by omega)) (pl (dZ y) (by omega)) (by decide),gN (e:=7900) (pl (iX y) (by omega)) (pl (dZ x) (by omega)) (by decide),?_⟩;unfold lG at q;show if decide (x.1*y.2<y.1*x.2)=true then _ else _
  by_cases h:x.1*y.2<y.1*x.2
  ·rw [decide_eq_true h,if_pos rfl];rw [if_pos h] at q;exact ⟨rfl,q⟩
  ·rw [decide_eq_false h,if_neg (by decide)];rw [if_neg h] at q;show if decide (y.1*x.2<x.1*y.2)=true then _ else _
   by_cases k:y.1*x.2<x.1*y.2
   ·rw [decide_eq_true k,if_pos rfl];rw [if_pos k] at q;exact ⟨rfl,q⟩
   ·rw [decide_eq_false k,if_neg (by decide)];rw [if_neg k] at q;exact ⟨rfl,q⟩
def oW:gW:=λas Q=>∃(x y b:Fr) (e:Nat),as=[.v (vc x y),.v (fr b)]/\Nv x y e/\cH b/\e+sz b<=7900/\Q (.v (vc (fS x b) (fS y b))) []
def vN:gW:=λas Q=>∃(x y p q:Fr) (e f:Nat),as=[.v (vc x y),.v (vc p q)]/\Nv x y e/\Nv p q f/\e+f<=7000/\Q (.v (vc (iC x p) (iC y q))) []
def lR:gW:=λas Q=>∃(x y p q:Fr) (e f:Nat),as=[.v (vc x y),.v (vc p q)]/\Nv x y e/\Nv p q f/\e+f<=7000/\Q (.v (vc (bK x p) (bK y q))) []
abbrev Pt:=Fr×Fr
def pt (p:Pt):T:=vc p.1 p.2
abbrev I3:=Int×Int×Int
def t3 (s:I3):T:=.tup [.int s.1,.int s.2.1,.int s.2.2]
abbrev I4:=Int×Int×Int×Int
def t4 (b:I4):T:=.tup [.int b.1,.int b.2.1,.int b.2.2.1,.int b.2.2.2]
structure B3 (e:Nat) (s:I3):Prop where
 a:s.1.natAbs<2^e
 b:s.2.1.natAbs<2^e
 c:s.2.2.natAbs<2^e
theorem B3.up {e f:Nat} {s:I3} (h:B3 e s) (k:e<=f):B3 f s:=⟨pl h.a k,pl h.b k,pl h.c k⟩
def fX (a b:Int):Int:=((aOM a.natAbs b.natAbs:Nat):Int)
def aF (p:Pt):I3:=(p.1.1*(p.2.2.fdiv (fX p.1.2 p.2.2)),p.2.1*(p.1.2.fdiv (fX p.1.2 p.2.2)),p.1.2.fdiv (fX p.1.2 p.2.2)*p.2.2)
def jU (s t:I3):I3:=(s.2.1*t.2.2-s.2.2*t.2.1,s.2.2*t.1-s.1*t.2.2,s.1*t.2.1-s.2.1*t.1)
def g3 (l:I3):Int:=fX (fX l.1 l.2.1) l.2.2
def dN (l:I3):I3:=(l.1.fdiv (g3 l),l.2.1.fdiv (g3 l),l.2.2.fdiv (g3 l))
def cQ (l s:I3):Int:=l.1*s.1+l.2.1*s.2.1+l.2.2*s.2.2
theorem iB (i:Int) (n:Nat):(i.fdiv (n:Int)).natAbs<=i.natAbs:=by
 rw [qQ];exact Int.natAbs_ediv_le_natAbs i n
theorem aGS {a b:Int} (h:b≠0):0<fX a b:=by
 unfold fX;have:=aS9 a.natAbs (show 0<b.natAbs by omega);omega
structure Pb (p:Pt):Prop where
 v:Nv p.1 p.2 20
theorem g9 {p:Pt} (h:Pb p):B3 40 (aF p):=by
 have d1:=iB p.2.2 (aOM p.1.2.natAbs p.2.2.natAbs);have d2:=iB p.1.2 (aOM p.1.2.natAbs p.2.2.natAbs);have x1:=pl (iX p.1) h.v.sx;have x2:=pl (dZ p.1) h.v.sx;have y1:=pl (iX p.2) h.v.sy;have y2:=pl (dZ p.2) h.v.sy;exact ⟨bM (e:=20) (f:=20) x1 (aOL d1 y2),bM (e:=20) (f:=20) y1 (aOL d2 x2),bM (e:=20) (f:=20) (aOL d2 x2) y2⟩
def pJ:gW:=λas Q=>∃p:Pt,as=[.v (pt p)]/\Pb p/\Q (.v (t3 (aF p))) []
abbrev oA:aVK:=top 7
theorem fV:aN ["point","divisor","x","low","y","other"] ["point"] (aH oA):=⟨rfl,rfl,rfl,by decide +kernel,rfl,by decide +kernel,by decide +kernel⟩
theorem y0 {f:aVA} {fd:aVF} (F:fO K "spot_of" "spot_of" oA f fd) (TX:Txt mg) (g_common_divisor:Fn P w K mg base 1 "common_divisor" ["one","other"] (aI K oX))   : bL P w K mg base fP 2 f fd ["point"] (aI K pJ):=by
 refine F.okT fV ?len (λcdv A outer s H E hr=>(aE (jB (fv 0) (cZ (n:=2) rfl rfl (aM (cZ (n:=2) rfl rfl (aM (aK (i:=2) fV.nd rfl (aDC rfl)) (aM (aK (i:=3) fV.nd rfl (aDC rfl)) b9))) (aM (cZ (n:=2) rfl rfl (aM (aK (i:=4) fV.nd rfl (aDC rfl)) (aM (aK (i:=5) fV.nd rfl (aDC rfl)) b9))) b9))))
 (aE (aX (i:=1) fV.nd rfl (aDC rfl) (aC g_common_divisor hr (by omega) rfl (fc (fv 3) (fc (fv 5) aA))))
 (aJ (aO (aQ (fc (aP aV (fv 2) (aP dL (fv 5) (fv 1))) (fc (aP aV (fv 4) (aP dL (fv 3) (fv 1))) (fc (aP aV (aP dL (fv 3) (fv 1)) (fv 5)) aA))))))))) ?rd
 case len=>rintro as Q ⟨p,rfl,_⟩;rfl
 case rd=>
  rintro as Q ⟨p,rfl,h,q⟩;have x1:=pl (iX p.1) h.v.sx;have x2:=pl (dZ p.1) h.v.sx;have y1:=pl (iX p.2) h.v.sy;have y2:=pl (dZ p.2) h.v.sy;have d1:=iB p.2.2 (aOM p.1.2.natAbs p.2.2.natAbs);have d2:=iB p.1.2 (aOM p.1.2.natAbs p.2.2.natAbs);have cz:∀i,pQ i ((aOM p.1.2.natAbs p.2.2.natAbs:Nat):Int):=λi=>wW (n:=p.1.2) (d:=p.2.2) (by have:=h.v.y.d;omega) (sP y2 (by decide));refine ⟨_,_,rfl,?_⟩;exact ⟨cz _,gN (e:=20) x1 (aOL d1 y2) (by decide),cz _,gN (e:=20) y1 (aOL d2 x2) (by decide),cz _,gN (e:=20) (aOL d2 x2) y2 (by decide),rfl,q⟩
def aBG:gW:=λas Q=>∃s t:I3,as=[.v (t3 s),.v (t3 t)]/\B3 3000 s/\B3 3000 t/\Q (.v (t3 (jU s t))) []
abbrev iA:aVK:=top 8
theorem bW:aN ["begin","end","x","y","w","to_x","to_y","to_w"] ["begin","end"] (aH iA):=⟨rfl,rfl,rfl,by decide +kernel,rfl,by decide +kernel,by decide +kernel⟩
theorem oS {f:aVA} {fd:aVF} (F:fO K "line_through" "line_through" iA f fd) (TX:Txt mg)    : bL P w K mg base fP 1 f fd ["begin","end"] (aI K aBG):=by
 refine F.okT bW ?len (λcdv A outer s H E hr=>(aE (jB (aQ (fc (fv 0) (fc (fv 1) aA))) (cZ (n:=2) rfl rfl (aM (cZ (n:=3) rfl rfl (aM (aK (i:=2) bW.nd rfl (aDC rfl)) (aM (aK (i:=3) bW.nd rfl (aDC rfl)) (aM (aK (i:=4) bW.nd rfl (aDC rfl)) b9)))) (aM (cZ (n:=3) rfl rfl (aM (aK (i:=5) bW.nd rfl (aDC rfl)) (aM (aK (i:=6) bW.nd rfl (aDC rfl)) (aM (aK (i:=7) bW.nd rfl (aDC rfl)) b9)))) b9))))
 (aJ (aO (aQ (fc (aU dW (aP aV (fv 3) (fv 7)) (aP aV (fv 4) (fv 6))) (fc (aU dW (aP aV (fv 4) (fv 5)) (aP aV (fv 2) (fv 7))) (fc (aU dW (aP aV (fv 2) (fv 6)) (aP aV (fv 3) (fv 5))) aA)))))))) ?rd
 case len=>rintro as Q ⟨s,t,rfl,_⟩;rfl
 case rd=>
  rintro as Q ⟨s,t,rfl,h,k,q⟩;exact ⟨gN h.b k.c (by decide),gN h.c k.b (by decide),gN h.c k.a (by decide),gN h.a k.c (by decide),gN h.a k.b (by decide),gN h.b k.a (by decide),rfl,q⟩
theorem zW {s t:I3} {e:Nat} (h:B3 e s) (k:B3 e t):B3 (e+e+1) (jU s t):=
 ⟨iK (bM h.b k.c) (bM h.c k.b),iK (bM h.c k.a) (bM h.a k.c),iK (bM h.a k.b) (bM h.b k.a)⟩
theorem aKZ {l:I3} {e:Nat} (h:B3 e l):B3 e (dN l):=⟨aOL (iB _ _) h.a,aOL (iB _ _) h.b,aOL (iB _ _) h.c⟩
def zY:gW:=λas Q=>∃l:I3,as=[.v (t3 l)]/\B3 7000 l/\g3 l≠0/\Q (.v (t3 (dN l))) []
theorem aFL {a b:Int} {e:Nat} (h:a.natAbs<2^e) (k:b.natAbs<2^e):(fX a b).natAbs<2^e:=by
 unfold fX;rw [Int.natAbs_natCast];rcases Nat.eq_zero_or_pos a.natAbs with z | z
 ·rw [z,Nat.gcd_zero_left];exact k
 ·exact aOL (Nat.gcd_le_left _ z) h
abbrev fB:aVK:=top 9
theorem cD:aN ["line","divisor","a","b","c"] ["line"] (aH fB):=⟨rfl,rfl,rfl,by decide +kernel,rfl,by decide +kernel,by decide +kernel⟩
theorem lD {f:aVA} {fd:aVF} (F:fO K "in_lowest_terms" "in_lowest_terms" fB f fd) (TX:Txt mg) (g_common_divisor:Fn P w K mg base 1 "common_divisor" ["one","other"] (aI K oX))   : bL P w K mg base fP 2 f fd ["line"] (aI K zY):=by
 refine F.okT cD ?len (λcdv A outer s H E hr=>(aE (jB (fv 0) (cZ (n:=3) rfl rfl (aM (aK (i:=2) cD.nd rfl (aDC rfl)) (aM (aK (i:=3) cD.nd rfl (aDC rfl)) (aM (aK (i:=4) cD.nd rfl (aDC rfl)) b9)))))
 (aE (aX (i:=1) cD.nd rfl (aDC rfl) (aC g_common_divisor hr (by omega) rfl (fc (aC g_common_divisor hr (by omega) rfl (fc (fv 2) (fc (fv 3) aA))) (fc (fv 4) aA))))
 (aJ (aO (aQ (fc (aP dL (fv 2) (fv 1)) (fc (aP dL (fv 3) (fv 1)) (fc (aP dL (fv 4) (fv 1)) aA))))))))) ?rd
 case len=>rintro as Q ⟨l,rfl,_⟩;rfl
 case rd=>
  rintro as Q ⟨l,rfl,h,h0,q⟩;have cz:∀i,pQ i (g3 l):=λi=>⟨h0,sP (aFL (aFL h.a h.b) h.c) (by decide)⟩;refine ⟨_,_,rfl,_,_,rfl,?_⟩;exact ⟨cz _,cz _,cz _,rfl,q⟩
def vW:gW:=λas Q=>∃l s:I3,as=[.v (t3 l),.v (t3 s)]/\B3 3000 l/\B3 3000 s/\Q (.v (.int (cQ l s))) []
abbrev lP:aVK:=top 10
theorem vY:aN ["line","spot"] ["line","spot"] (aH lP):=⟨rfl,rfl,rfl,by decide +kernel,rfl,by decide +kernel,by decide +kernel⟩
theorem wS {f:aVA} {fd:aVF} (F:fO K "off_line" "off_line" lP f fd) (TX:Txt mg)    : bL P w K mg base fP 1 f fd ["line","spot"] (aI K vW):=by
 refine F.okT vY ?len (λcdv A outer s H E hr=>(aJ (aO (aU bU (aU bU (aP aV (aG rfl (fv 0) aB (λ_ _=>rfl)) (aG rfl (fv 1) aB (λ_ _=>rfl))) (aP aV (aG rfl (fv 0) aB (λ_ _=>rfl)) (aG rfl (fv 1) aB (λ_ _=>rfl)))) (aP aV (aG rfl (fv 0) aB (λ_ _=>rfl)) (aG rfl (fv 1) aB (λ_ _=>rfl))))))) ?rd
 case len=>rintro as Q ⟨l,s,rfl,_⟩;rfl
 case rd=>
  rintro as Q ⟨l,s,rfl,h,k,q⟩;exact ⟨gN h.a k.a (by decide),gN h.b k.b (by decide),gN h.c k.c (by decide),rfl,q⟩
theorem aE5 {l s:I3} {e f:Nat} (h:B3 e l) (k:B3 f s):(cQ l s).natAbs<2^(e+f+2):=
 o0 (o0 (bM h.a k.a) (bM h.b k.b)) (pl (bM h.c k.c) (by omega))
end
end My
namespace My
open PySem L2 PyProof.Rows
section
variable {P:aVD} {w:aVH} {K:W.Frag} {mg:Str->Option Value} {base:Heap}
theorem cB {α β:Type} {g:FG} {Fe:FE} {f h:α->L2.T} (mk:β->List L2.T->En) {Q:En->Prop}:∀(xs:List α) (b:β) (acc:List L2.T),acc.length+xs.length<=1000->
  (∀x∈xs,∀b acc rest,acc.length<1000->(∀b',gZ g Fe rest (mk b' (acc++[h x])) Q)->gZ g Fe (f x::rest) (mk b acc) Q)->(∀b,Q (mk b (acc++xs.map h)))->gZ g Fe (xs.map f) (mk b acc) Q
 | [],b,acc,_,_,hd=>by have:=hd b;rw [aT9,aKE] at this;exact this
 | x::xs,b,acc,hn,hs,hd=>by
  rw [aKX] at hn;refine hs x (by simp) b acc _ (by omega) λb'=>?_;refine cB mk xs b' (acc++[h x]) (by rw [aIG,aSN];omega) (λy hy=>hs y (by simp [hy])) λb2=>?_;have:=hd b2;rw [aDE];exact this
theorem nL {α β:Type} {g:FG} {Fb:FB} {Fe:FE} {f h:α->L2.T} (p:α->Bool) (mk:β->List L2.T->En) {Q:En->Prop}:∀(xs:List α) (b:β) (acc:List L2.T),acc.length+xs.length<=1000->
  (∀x∈xs,∀b acc rest,acc.length<1000->(∀b',iO g Fb Fe rest (mk b' (if p x=true then acc++[h x] else acc)) Q)->iO g Fb Fe (f x::rest) (mk b acc) Q)->(∀b,Q (mk b (acc++(xs.filter p).map h)))->iO g Fb Fe (xs.map f) (mk b acc) Q
 | [],b,acc,_,_,hd=>by have:=hd b;rw [List.filter_nil,aT9,aKE] at this;exact this
 | x::xs,b,acc,hn,hs,hd=>by
  rw [aKX] at hn;refine hs x (by simp) b acc _ (by omega) λb'=>?_;refine nL p mk xs b' _ (by split<;>(try rw [aIG,aSN])<;>omega) (λy hy=>hs y (by simp [hy])) λb2=>?_;have:=hd b2
  by_cases c:p x=true
  ·rw [if_pos c,aDE];rw [aT2 c] at this;exact this
  ·rw [if_neg c];rw [aUZ c] at this;exact this
theorem d9 {α σ:Type} {g:FG} {F:FS} {D:ET} {f:α->L2.T} (mk:σ->En) (R:List α->σ->Prop) (hs:∀x xs s rest,R (x::xs) s->(∀s',R xs s'->cO g F D rest (mk s'))->cO g F D (f x::rest) (mk s)) (hd:∀s,R [] s->D.nx (mk s)):∀xs s,R xs s->cO g F D (xs.map f) (mk s)
 | [],s,h=>hd s h
 | x::xs,s,h=>hs x xs s _ h λs' h'=>d9 mk R hs hd xs s' h'
theorem bB {α:Type} {f:α->L2.T} (h:∀x,noL (f x)=true):∀xs:List α,iR (xs.map f)=true
 | []=>rfl
 | x::xs=>by rw [aPB,iR,h x,bB h xs];rfl
def xsP (ss:List I3):List Int:=ss.map λs=>(s.1*65536).fdiv s.2.2
def ysP (ss:List I3):List Int:=ss.map λs=>(s.2.1*65536).fdiv s.2.2
def qW (ss:List I3):I4:=(dX (xsP ss),dX (ysP ss),m8 (xsP ss),m8 (ysP ss))
def aA5:gW:=λas Q=>∃(t:L2.T) (ss:List I3),as=[.v t]/\(t = .lst (ss.map t3)\/t = .tup (ss.map t3))/\0<ss.length/\ss.length<=900/\(∀s∈ss,B3 3000 s/\s.2.2≠0)/\Q (.v (t4 (qW ss))) []
abbrev pW:aVK:=top 11
theorem nX:aN ["spots","across","up"] ["spots"] (aH pW):=⟨rfl,rfl,rfl,by decide +kernel,rfl,by decide +kernel,by decide +kernel⟩
theorem aCV {f:aVA} {fd:aVF} (F:fO K "box_of" "box_of" pW f fd) (TX:Txt mg)  (c_GRID:yA mg "GRID" 65536)  : bL P w K mg base fP 1 f fd ["spots"] (aI K aA5):=by
 refine F.okT nX ?len (λcdv A outer s H E hr=>(aE (kJ (i:=1) (N':=["spot"]) (t:=1) (cap:=[]) nX.nd rfl (aDC rfl) rfl rfl (bN.of rfl) rfl (by decide) (aED rfl (fv 0)) (λ_ _ _ _=>(aK (i:=0) (show aQ2 (["spot"]:List Str) by decide +kernel) rfl (aDC rfl) (aN3 rfl))) (λ_ _ _ _=>(aP dL (aP aV (aG rfl (fv 0) aB (λ_ _=>rfl)) (wC rfl c_GRID)) (aG rfl (fv 0) aB (λ_ _=>rfl)))))
 (aE (kJ (i:=2) (N':=["spot"]) (t:=1) (cap:=[]) nX.nd rfl (aDC rfl) rfl rfl (bN.of rfl) rfl (by decide) (aED rfl (fv 0)) (λ_ _ _ _=>(aK (i:=0) (show aQ2 (["spot"]:List Str) by decide +kernel) rfl (aDC rfl) (aN3 rfl))) (λ_ _ _ _=>(aP dL (aP aV (aG rfl (fv 0) aB (λ_ _=>rfl)) (wC rfl c_GRID)) (aG rfl (fv 0) aB (λ_ _=>rfl)))))
 (aJ (aO (aQ (fc (mF rfl rfl rfl TX.n_min (fc (fv 1) aA)) (fc (mF rfl rfl rfl TX.n_min (fc (fv 2) aA)) (fc (uL rfl rfl rfl TX.n_max (fc (fv 1) aA)) (fc (uL rfl rfl rfl TX.n_max (fc (fv 2) aA)) aA)))))))))) ?rd
 case len=>rintro as Q ⟨t,ss,rfl,_⟩;rfl
 case rd=>
  rintro as Q ⟨t,ss,rfl,ht,h0,hl,hs,q⟩;have cz:∀s∈ss,∀i,pQ i s.2.2:=λs m i=>⟨(hs s m).2,sP (hs s m).1.c (by decide)⟩;have e1:(ss.map λs=>L2.T.int ((s.1*65536).fdiv s.2.2))=(xsP ss).map L2.T.int:=by rw [xsP,aN1];rfl
  have e2:(ss.map λs=>L2.T.int ((s.2.1*65536).fdiv s.2.2))=(ysP ss).map L2.T.int:=by rw [ysP,aN1];rfl
  have l1:0<(xsP ss).length:=by rw [xsP,aBC];exact h0
  have l2:0<(ysP ss).length:=by rw [ysP,aBC];exact h0
  rcases ht with rfl | rfl
  all_goals
   refine ⟨rfl,rfl,cB (f:=t3) (h:=λs=>.int ((s.1*65536).fdiv s.2.2)) (λ(w:Option U) acc=>[w,some (.o false acc)]) ss none [] (by simp;omega) (λs m w acc rest ha K=>⟨t5 (by decide),cz s m _,ha,K _⟩) λw=>?_⟩;refine ⟨bB (λ_=>rfl) _,rfl,rfl,cB (f:=t3) (h:=λs=>.int ((s.2.1*65536).fdiv s.2.2)) (λ(w:Option U) acc=>[w,some (.o false acc)]) ss none [] (by simp;omega) (λs m w acc rest ha K=>⟨t5 (by decide),cz s m _,ha,K _⟩) λw=>?_⟩;refine ⟨bB (λ_=>rfl) _,?_⟩;rw [aQY,aQY,e1,e2];exact ⟨_,rfl,l1,_,rfl,l2,_,rfl,l1,_,rfl,l2,rfl,q⟩
def lU (a b:I4):Bool:=decide (a.2.2.1<b.1)||decide (b.2.2.1<a.1)||decide (a.2.2.2<b.2.1)||decide (b.2.2.2<a.2.1)
def t7:gW:=λas Q=>∃a b:I4,as=[.v (t4 a),.v (t4 b)]/\Q (.v (.bl (lU a b))) []
abbrev j4:aVK:=top 12
theorem uS:aN ["one","other"] ["one","other"] (aH j4):=⟨rfl,rfl,rfl,by decide +kernel,rfl,by decide +kernel,by decide +kernel⟩
theorem uC {f:aVA} {fd:aVF} (F:fO K "are_apart" "are_apart" j4 f fd) (TX:Txt mg)    : bL P w K mg base fP 1 f fd ["one","other"] (aI K t7):=by
 refine F.okT uS ?len (λcdv A outer s H E hr=>(aJ (aO (z8 (mU fR (aG rfl (fv 0) aB (λ_ _=>rfl)) (aG rfl (fv 1) aB (λ_ _=>rfl)) (aS _)) (z8 (mU fR (aG rfl (fv 1) aB (λ_ _=>rfl)) (aG rfl (fv 0) aB (λ_ _=>rfl)) (aS _)) (z8 (mU fR (aG rfl (fv 0) aB (λ_ _=>rfl)) (aG rfl (fv 1) aB (λ_ _=>rfl)) (aS _)) (zH (mU fR (aG rfl (fv 1) aB (λ_ _=>rfl)) (aG rfl (fv 0) aB (λ_ _=>rfl)) (aS _))))))))) ?rd
 case len=>rintro as Q ⟨a,b,rfl,_⟩;rfl
 case rd=>
  rintro as Q ⟨a,b,rfl,q⟩;unfold lU at q;show if decide (a.2.2.1<b.1)=true then _ else _
  by_cases c1:a.2.2.1<b.1
  ·rw [decide_eq_true c1] at q ⊢;rw [if_pos rfl];exact ⟨rfl,q⟩
  rw [decide_eq_false c1] at q ⊢;rw [if_neg (by decide)];show if decide (b.2.2.1<a.1)=true then _ else _
  by_cases c2:b.2.2.1<a.1
  ·rw [decide_eq_true c2] at q ⊢;rw [if_pos rfl];exact ⟨rfl,q⟩
  rw [decide_eq_false c2] at q ⊢;rw [if_neg (by decide)];show if decide (a.2.2.2<b.2.1)=true then _ else _
  by_cases c3:a.2.2.2<b.2.1
  ·rw [decide_eq_true c3] at q ⊢;rw [if_pos rfl];exact ⟨rfl,q⟩
  rw [decide_eq_false c3] at q ⊢;rw [if_neg (by decide)];exact ⟨rfl,q⟩
theorem aDS (xs:List L2.T):iN xs (some 1) none=xs.tail:=by
 unfold iN;have e:HT.sIx xs.length 0 (some (1:Int))=min 1 xs.length:=HT.sIx_nat _ _ 1;rw [HT.sIx_none,e];cases xs with
 | nil=>rfl
 | cons x xs=>
  rw [aU0 (by simp),List.drop_succ_cons,aU5,List.tail_cons];exact aS2 (by simp)
theorem aAA (xs:List L2.T):iN xs none (some 1)=xs.take 1:=by
 unfold iN;have e:HT.sIx xs.length xs.length (some (1:Int))=min 1 xs.length:=HT.sIx_nat _ _ 1;rw [HT.sIx_none,e,aU5,Nat.sub_zero];cases xs with
 | nil=>rfl
 | cons x xs=>rw [aU0 (by simp)]
theorem zip_map {α β:Type} (f:α->L2.T) (g:β->L2.T):∀(xs:List α) (ys:List β),dP (xs.map f) (ys.map g)=(xs.zip ys).map λp=>L2.T.tup [f p.1,g p.2]
 | [],ys=>by simp [dP]
 | x::xs,[]=>by simp [dP]
 | x::xs,y::ys=>by
  show L2.T.tup [f x,g y]::dP (xs.map f) (ys.map g)=_;rw [zip_map f g xs ys];rfl
structure e9 where
 w:Str
 n:Int
 o:List Pt
 m:Str
def cW (b:e9):L2.T:=.tup [.str b.w,.int b.n,.tup (b.o.map pt),.str b.m]
def lQ {α:Type} (xs:List α):List α:=xs.tail++xs.take 1
def bY (o:List Pt):List I3:=((o.map aF).zip (lQ (o.map aF))).map λp=>jU p.1 p.2
def pU:gW:=λas Q=>∃b:e9,as=[.v (cW b)]/\b.o.length<=900/\(∀p∈b.o,Pb p)/\Q (.l ((bY b.o).map t3)) []
abbrev jH:aVK:=top 13
theorem lC:aN ["block","spots"] ["block"] (aH jH):=⟨rfl,rfl,rfl,by decide +kernel,rfl,by decide +kernel,by decide +kernel⟩
theorem rN {f:aVA} {fd:aVF} (F:fO K "edge_lines" "edge_lines" jH f fd) (TX:Txt mg) (g_spot_of:Fn P w K mg base 2 "spot_of" ["point"] (aI K pJ)) (g_line_through:Fn P w K mg base 1 "line_through" ["begin","end"] (aI K aBG))   : bL P w K mg base fP 3 f fd ["block"] (aI K pU):=by
 refine F.okT lC ?len (λcdv A outer s H E hr=>(aE (kJ (i:=1) (N':=["corner"]) (t:=1) (cap:=[]) lC.nd rfl (aDC rfl) rfl rfl (bN.of rfl) rfl (by decide) (tP rfl (aG rfl (fv 0) aB (λ_ _=>rfl))) (λ_ _ _ _=>(aK (i:=0) (show aQ2 (["corner"]:List Str) by decide +kernel) rfl (aDC rfl) (aN3 rfl))) (λ_ _ _ _=>(aC g_spot_of hr (by omega) rfl (fc (fv 0) aA))))
 (aJ (aO (gV (N':=["begin","end"]) (t:=2) (cap:=[]) rfl (bN.of rfl) rfl (by decide) (uF rfl rfl TX.n_zip (fc (fv 1) (fc (aFI (iW rfl (fv 1) (iH aB) kG) (iW rfl (fv 1) kG (iH aB))) aA))) (λ_ _ _ _=>(cZ (n:=2) rfl rfl (aM (aK (i:=0) (show aQ2 (["begin","end"]:List Str) by decide +kernel) rfl (aDC rfl) (aN3 rfl)) (aM (aK (i:=1) (show aQ2 (["begin","end"]:List Str) by decide +kernel) rfl (aDC rfl) (aN3 rfl)) b9)))) (λ_ _ _ _=>(aC g_line_through hr (by omega) rfl (fc (fv 0) (fc (fv 1) aA))))))))) ?rd
 case len=>rintro as Q ⟨b,rfl,_⟩;rfl
 case rd=>
  rintro as Q ⟨b,rfl,hl,hb,q⟩;refine ⟨rfl,cB (f:=pt) (h:=λp=>t3 (aF p)) (λ(w:Option U) acc=>[w,some (.o false acc)]) b.o none [] (by simp;omega) (λp m w acc rest ha K=>?_) λw=>?_⟩
  ·exact ⟨p,rfl,hb p m,ha,K _⟩
  refine ⟨bB (λ_=>rfl) _,?_⟩;rw [aQY,show (b.o.map λp=>t3 (aF p))=(b.o.map aF).map t3 by rw [aN1];rfl];have hs:∀s∈b.o.map aF,B3 3000 s:=λs m=>by
   obtain ⟨p,mp,rfl⟩:=aDB.mp m;exact (g9 (hb p mp)).up (by decide)
  have hle:(b.o.map aF).length<=900:=by rw [aBC];exact hl
  unfold bY at q;generalize b.o.map aF=ss at hs hle q;refine (?_:kF [some (.p (cW b)),some (.o false (ss.map t3))] _);have e1:iN (ss.map t3) (some 1) none++iN (ss.map t3) none (some 1)=(lQ ss).map t3:=by rw [aDS,aAA,lQ,aQ9,aU7,aUO]
  refine ⟨?_,?_⟩
  ·show (iN (ss.map t3) (some 1) none).length+(iN (ss.map t3) none (some 1)).length<=1000;rw [aDS,aAA,aSI,aMI,aBC];omega
  ·refine ⟨rfl,?_⟩;show gZ _ _ (dP (ss.map t3) (iN (ss.map t3) (some 1) none++iN (ss.map t3) none (some 1))) _ _;rw [e1,zip_map];have hz:∀p∈ss.zip (lQ ss),B3 3000 p.1/\B3 3000 p.2:=λp m=>by
    obtain ⟨m1,m2⟩:=aS4 (a:=p.1) (b:=p.2) m;refine ⟨hs _ m1,hs _ ?_⟩;rcases aM3.mp m2 with m2 | m2
    ·exact aTR m2
    ·exact aS8 m2
   refine cB (f:=λp:I3×I3=>.tup [t3 p.1,t3 p.2]) (h:=λp=>t3 (jU p.1 p.2)) (λ(w:Option U×Option U) acc=>[w.1,w.2,some (.o false acc)]) _ (none,none) [] (by simp;omega) (λp m w acc rest ha K=>?_) λw=>?_
   ·exact ⟨p.1,p.2,rfl,(hz p m).1,(hz p m).2,ha,K (_,_)⟩
   ·refine ⟨bB (λ_=>rfl) _,bB (λ_=>rfl) _,?_⟩;rw [aN1] at q;exact q
structure Sh where
 b:I4
 ls:List I3
def xS (s:Sh):L2.T:=.tup [t4 s.b,.tup (s.ls.map t3)]
theorem yY (s:Sh):noL (xS s)=true:=by
 have:=bB (f:=t3) (λ_=>rfl) s.ls;simp [xS,t4,noL,iR,this]
theorem aF3 (b:e9):noL (cW b)=true:=by
 have:=bB (f:=pt) (λ_=>rfl) b.o;simp [cW,noL,iR,this]
def cI (b:e9):Sh:=⟨qW (b.o.map aF),(bY b.o).map dN⟩
structure aEN (b:e9):Prop where
 len:b.o.length<=900
 pos:0<b.o.length
 pb:∀p∈b.o,Pb p
 ne:∀l∈bY b.o,g3 l≠0
theorem o9 {o:List Pt} (h:∀p∈o,Pb p):∀l∈bY o,B3 81 l:=λl m=>by
 obtain ⟨p,mp,rfl⟩:=aDB.mp m;obtain ⟨m1,m2⟩:=aS4 (a:=p.1) (b:=p.2) mp;have hs:∀s∈o.map aF,B3 40 s:=λs m=>by
  obtain ⟨p,mp,rfl⟩:=aDB.mp m;exact g9 (h p mp)
 refine zW (hs _ m1) (hs _ ?_);rcases aM3.mp m2 with m2 | m2
 ·exact aTR m2
 ·exact aS8 m2
theorem uV {p:Pt} (h:Pb p):(aF p).2.2≠0:=by
 have hx:=h.v.x.d;have hy:=h.v.y.d;show p.1.2.fdiv (fX p.1.2 p.2.2)*p.2.2≠0;refine Int.mul_ne_zero ?_ (by omega);unfold fX;rw [qQ];have dn:((aOM p.1.2.natAbs p.2.2.natAbs:Nat):Int)∣p.1.2:=aPM.mpr (aR8 _ _);intro z;have:=Int.ediv_mul_cancel dn;rw [z,Int.zero_mul] at this;omega
def zE:gW:=λas Q=>∃b:e9,as=[.v (cW b)]/\aEN b/\Q (.v (xS (cI b))) []
abbrev lK:aVK:=top 14
theorem oI:aN ["block","lines"] ["block"] (aH lK):=⟨rfl,rfl,rfl,by decide +kernel,rfl,by decide +kernel,by decide +kernel⟩
theorem vQ {f:aVA} {fd:aVF} (F:fO K "shape_of" "shape_of" lK f fd) (TX:Txt mg) (g_edge_lines:Fn P w K mg base 3 "edge_lines" ["block"] (aI K pU)) (g_in_lowest_terms:Fn P w K mg base 2 "in_lowest_terms" ["line"] (aI K zY)) (g_box_of:Fn P w K mg base 1 "box_of" ["spots"] (aI K aA5)) (g_spot_of:Fn P w K mg base 2 "spot_of" ["point"] (aI K pJ))   : bL P w K mg base fP 4 f fd ["block"] (aI K zE):=by
 refine F.okT oI ?len (λcdv A outer s H E hr=>(aE (kJ (i:=1) (N':=["line"]) (t:=1) (cap:=[]) oI.nd rfl (aDC rfl) rfl rfl (bN.of rfl) rfl (by decide) (eF rfl (aC g_edge_lines hr (by omega) rfl (fc (fv 0) aA))) (λ_ _ _ _=>(aK (i:=0) (show aQ2 (["line"]:List Str) by decide +kernel) rfl (aDC rfl) (aN3 rfl))) (λ_ _ _ _=>(aC g_in_lowest_terms hr (by omega) rfl (fc (fv 0) aA))))
 (aJ (aO (aQ (fc (aC g_box_of hr (by omega) rfl (fc (gV (N':=["corner"]) (t:=1) (cap:=[]) rfl (bN.of rfl) rfl (by decide) (tP rfl (aG rfl (fv 0) aB (λ_ _=>rfl))) (λ_ _ _ _=>(aK (i:=0) (show aQ2 (["corner"]:List Str) by decide +kernel) rfl (aDC rfl) (aN3 rfl))) (λ_ _ _ _=>(aC g_spot_of hr (by omega) rfl (fc (fv 0) aA)))) aA)) (fc (qF rfl rfl TX.n_tuple (fc (fv 1) aA)) aA))))))) ?rd
 case len=>rintro as Q ⟨b,rfl,_⟩;rfl
 case rd=>
  rintro as Q ⟨b,rfl,h,q⟩;refine ⟨b,rfl,h.len,h.pb,rfl,?_⟩;have hle:(bY b.o).length<=900:=by
   have:=h.len;simp only [bY,aBC,aUD];omega
  refine cB (f:=t3) (h:=λl=>t3 (dN l)) (λ(w:Option U) acc=>[w,some (.o false acc)]) _ none [] (by simp;omega) (λl m w acc rest ha K=>?_) λw=>?_
  ·exact ⟨l,rfl,(o9 h.pb l m).up (by decide),h.ne l m,ha,K _⟩
  refine ⟨bB (λ_=>rfl) _,?_⟩;refine ⟨rfl,cB (f:=pt) (h:=λp=>t3 (aF p)) (λ(w:Option U) acc=>[w,some (.o false acc)]) b.o none [] (by have:=h.len;simp;omega) (λp m w acc rest ha K=>?_) λw=>?_⟩
  ·exact ⟨p,rfl,h.pb p m,ha,K _⟩
  refine ⟨bB (λ_=>rfl) _,?_⟩;refine ⟨_,b.o.map aF,rfl,.inl (by rw [aN1];rfl),by rw [aBC];exact h.pos,by rw [aBC];exact h.len,λs m=>?_,?_⟩
  ·obtain ⟨p,mp,rfl⟩:=aDB.mp m;exact ⟨(g9 (h.pb p mp)).up (by decide),uV (h.pb p mp)⟩
  ·have e:([]++(bY b.o).map λl=>t3 (dN l))=(((bY b.o).map dN).map t3):=by rw [aN1];rfl
   rw [e];exact ⟨yY (cI b),q⟩
def uX:gW:=λas Q=>∃bs:List e9,as=[.v (.lst (bs.map cW))]/\bs.length<=900/\(∀b∈bs,aEN b)/\Q (.l ((bs.map cI).map xS)) []
abbrev jT:aVK:=top 15
theorem sX:aN ["laid"] ["laid"] (aH jT):=⟨rfl,rfl,rfl,by decide +kernel,rfl,by decide +kernel,by decide +kernel⟩
theorem tG {f:aVA} {fd:aVF} (F:fO K "shapes_of" "shapes_of" jT f fd) (TX:Txt mg) (g_shape_of:Fn P w K mg base 4 "shape_of" ["block"] (aI K zE))   : bL P w K mg base fP 5 f fd ["laid"] (aI K uX):=by
 refine F.okT sX ?len (λcdv A outer s H E hr=>(aJ (aO (gV (N':=["block"]) (t:=1) (cap:=[]) rfl (bN.of rfl) rfl (by decide) (eF rfl (fv 0)) (λ_ _ _ _=>(aK (i:=0) (show aQ2 (["block"]:List Str) by decide +kernel) rfl (aDC rfl) (aN3 rfl))) (λ_ _ _ _=>(aC g_shape_of hr (by omega) rfl (fc (fv 0) aA))))))) ?rd
 case len=>rintro as Q ⟨bs,rfl,_⟩;rfl
 case rd=>
  rintro as Q ⟨bs,rfl,hl,h,q⟩;refine ⟨rfl,cB (f:=cW) (h:=λb=>xS (cI b)) (λ(w:Option U) acc=>[w,some (.o false acc)]) bs none [] (by simp;omega) (λb m w acc rest ha K=>?_) λw=>?_⟩
  ·exact ⟨b,rfl,h b m,ha,K _⟩
  ·rw [aN1] at q;exact ⟨bB (λ_=>yY _) _,bB (λ_=>yY _) _,q⟩
structure Sg where
 b:I4
 p:I3
 q:I3
 l:I3
def sgT (s:Sg):L2.T:=.tup [t4 s.b,.tup [t3 s.p,t3 s.q],t3 s.l]
def jI (p q:Pt):Sg:=⟨qW [aF p,aF q],aF p,aF q,dN (jU (aF p) (aF q))⟩
def aNL:gW:=λas Q=>∃p q:Pt,as=[.v (pt p),.v (pt q)]/\Pb p/\Pb q/\g3 (jU (aF p) (aF q))≠0/\Q (.v (sgT (jI p q))) []
abbrev i6:aVK:=top 16
theorem kW:aN ["begin","end","spots"] ["begin","end"] (aH i6):=⟨rfl,rfl,rfl,by decide +kernel,rfl,by decide +kernel,by decide +kernel⟩
theorem rO {f:aVA} {fd:aVF} (F:fO K "segment_of" "segment_of" i6 f fd) (TX:Txt mg) (g_spot_of:Fn P w K mg base 2 "spot_of" ["point"] (aI K pJ)) (g_box_of:Fn P w K mg base 1 "box_of" ["spots"] (aI K aA5)) (g_in_lowest_terms:Fn P w K mg base 2 "in_lowest_terms" ["line"] (aI K zY)) (g_line_through:Fn P w K mg base 1 "line_through" ["begin","end"] (aI K aBG))   : bL P w K mg base fP 3 f fd ["begin","end"] (aI K aNL):=by
 refine F.okT kW ?len (λcdv A outer s H E hr=>(aE (aX (i:=2) kW.nd rfl (aDC rfl) (aQ (fc (aC g_spot_of hr (by omega) rfl (fc (fv 0) aA)) (fc (aC g_spot_of hr (by omega) rfl (fc (fv 1) aA)) aA))))
 (aJ (aO (aQ (fc (aC g_box_of hr (by omega) rfl (fc (fv 2) aA)) (fc (fv 2) (fc (aC g_in_lowest_terms hr (by omega) rfl (fc (aC g_line_through hr (by omega) rfl (fc (aG rfl (fv 2) aB (λ_ _=>rfl)) (fc (aG rfl (fv 2) aB (λ_ _=>rfl)) aA))) aA)) aA)))))))) ?rd
 case len=>rintro as Q ⟨p,q,rfl,_⟩;rfl
 case rd=>
  rintro as Q ⟨p,q,rfl,hp,hq,h0,z⟩;have bp:=(g9 hp).up (show 40<=3000 by decide);have bq:=(g9 hq).up (show 40<=3000 by decide);refine ⟨p,rfl,hp,q,rfl,hq,_,[aF p,aF q],rfl,.inr rfl,(show 0<2 by decide),(show 2<=900 by decide),λs m=>?_,_,_,rfl,bp,bq,_,rfl,(zW bp bq).up (by decide),h0,rfl,z⟩;rcases aB1.mp m with rfl | m
  ·exact ⟨bp,uV hp⟩
  ·have e:s=aF q:=by simpa using m
   subst e;exact ⟨bq,uV hq⟩
end
end My
namespace My
open PySem L2 PyProof.Rows
section
variable {P:aVD} {w:aVH} {K:W.Frag} {mg:Str->Option Value} {base:Heap}
def cS (x y:Fr):Fr:=if lG x y<0 then y else x
def bI (x y:Fr):Fr:=if lG x y<0 then x else y
def vZ (op:Fr->Fr->Fr):gW:=λas Q=>∃x y:Fr,as=[.v (fr x),.v (fr y)]/\sz x+sz y<=7900/\Q (.v (fr (op x y))) []
abbrev uD:aVK:=top 18
theorem aE9:aN ["one","other"] ["one","other"] (aH uD):=⟨rfl,rfl,rfl,by decide +kernel,rfl,by decide +kernel,by decide +kernel⟩
theorem aDT {f:aVA} {fd:aVF} (F:fO K "later" "later" uD f fd) (TX:Txt mg) (g_compared:Fn P w K mg base 1 "compared" ["one","other"] (aI K gY))   : bL P w K mg base fP 2 f fd ["one","other"] (aI K (vZ cS)):=by
 refine F.okT aE9 ?len (λcdv A outer s H E hr=>(aJ (aO (mH (cY fR (aC g_compared hr (by omega) rfl (fc (fv 0) (fc (fv 1) aA))) aB (aS _)) (fv 1) (fv 0))))) ?rd
 case len=>rintro as Q ⟨x,y,rfl,_⟩;rfl
 case rd=>
  rintro as Q ⟨x,y,rfl,hs,q⟩;refine ⟨x,y,rfl,hs,?_⟩;unfold cS at q;show if decide (lG x y<0)=true then _ else _
  by_cases c:lG x y<0
  ·rw [decide_eq_true c,if_pos rfl];rw [if_pos c] at q;exact ⟨rfl,q⟩
  ·rw [decide_eq_false c,if_neg (by decide)];rw [if_neg c] at q;exact ⟨rfl,q⟩
abbrev nK:aVK:=top 19
theorem zI:aN ["one","other"] ["one","other"] (aH nK):=⟨rfl,rfl,rfl,by decide +kernel,rfl,by decide +kernel,by decide +kernel⟩
theorem yQ {f:aVA} {fd:aVF} (F:fO K "earlier" "earlier" nK f fd) (TX:Txt mg) (g_compared:Fn P w K mg base 1 "compared" ["one","other"] (aI K gY))   : bL P w K mg base fP 2 f fd ["one","other"] (aI K (vZ bI)):=by
 refine F.okT zI ?len (λcdv A outer s H E hr=>(aJ (aO (mH (cY fR (aC g_compared hr (by omega) rfl (fc (fv 0) (fc (fv 1) aA))) aB (aS _)) (fv 0) (fv 1))))) ?rd
 case len=>rintro as Q ⟨x,y,rfl,_⟩;rfl
 case rd=>
  rintro as Q ⟨x,y,rfl,hs,q⟩;refine ⟨x,y,rfl,hs,?_⟩;unfold bI at q;show if decide (lG x y<0)=true then _ else _
  by_cases c:lG x y<0
  ·rw [decide_eq_true c,if_pos rfl];rw [if_pos c] at q;exact ⟨rfl,q⟩
  ·rw [decide_eq_false c,if_neg (by decide)];rw [if_neg c] at q;exact ⟨rfl,q⟩
structure F2 (p:Fr):Prop where
 s:sz p<=300
 d:1<=p.2
theorem F2.later {x y:Fr} (h:F2 x) (k:F2 y):F2 (cS x y):=by unfold cS;split<;>assumption
theorem F2.earlier {x y:Fr} (h:F2 x) (k:F2 y):F2 (bI x y):=by unfold bI;split<;>assumption
theorem F2.of {n d:Int} (h:n.natAbs<2^300) (k:d.natAbs<2^300) (hd:1<=d):F2 (n,d):=⟨j8 (p:=(n,d)) h k (by decide),hd⟩
theorem F2.c {x y:Fr} (h:F2 x) (k:F2 y):sz x+sz y<=7900:=by have:=h.s;have:=k.s;omega
theorem aP3:F2 (0,1):=F2.of (by decide) (by decide) (by decide)
theorem aO0:F2 (1,1):=F2.of (by decide) (by decide) (by decide)
def hdS:Nat->Str
 | 0=>"in"
 | 1=>"left"
 | _=>"right"
def kA (b e own:I3):List I3->Fr->Fr->Nat->Option (Fr×Fr×Nat)
 | [],lo,hi,h=>some (lo,hi,h)
 | l::ls,lo,hi,h=>
  if cQ l b*e.2.2<=0/\cQ l e*b.2.2<=0 then
   if cQ l b*e.2.2<0\/cQ l e*b.2.2<0 then none else kA b e own ls lo hi (if l=own then 1 else 2)
  else if cQ l b*e.2.2<0 then kA b e own ls (cS lo (-(cQ l b*e.2.2),cQ l e*b.2.2-cQ l b*e.2.2)) hi h
  else if cQ l e*b.2.2<0 then kA b e own ls lo (bI hi (cQ l b*e.2.2,cQ l b*e.2.2-cQ l e*b.2.2)) h
  else kA b e own ls lo hi h
def sL:Option (Fr×Fr×Nat)->Option (Fr×Fr×Nat)
 | none=>none
 | some r=>if lG r.1 r.2.1<0 then some r else none
def bS (s:Sh) (g:Sg):Option (Fr×Fr×Nat):=if lU s.b g.b=true then none else sL (kA g.p g.q g.l s.ls (0,1) (1,1) 0)
def ovT:Option (Fr×Fr×Nat)->L2.T
 | none=>.non
 | some r=>.tup [fr r.1,fr r.2.1,.str (hdS r.2.2)]
def aPL (r:Option (Fr×Fr×Nat)):Prop:=∀x,r=some x->F2 x.1/\F2 x.2.1
theorem aIJ {l b e:I3} (hl:B3 81 l) (hb:B3 40 b) (he:B3 40 e):(cQ l b*e.2.2).natAbs<2^163:=bM (aE5 hl hb) he.c
theorem aBI {b e own:I3} (hb:B3 40 b) (he:B3 40 e):∀(ls:List I3) (lo hi:Fr) (h:Nat),(∀l∈ls,B3 81 l)->F2 lo->F2 hi->aPL (kA b e own ls lo hi h)
 | [],lo,hi,h,_,f1,f2=>λx e=>by cases e;exact ⟨f1,f2⟩
 | l::ls,lo,hi,h,hl,f1,f2=>by
  have k1:=aIJ (hl l (by simp)) hb he;have k2:=aIJ (hl l (by simp)) he hb;have rest:=λlo hi h f1 f2=>aBI hb he ls lo hi h (λl m=>hl l (by simp [m])) f1 f2 (own:=own);unfold kA
  split
  ·split
   ·intro x e;cases e
   ·exact rest _ _ _ f1 f2
  ·split
   ·exact rest _ _ _ (f1.later (F2.of (by rw [aTM];exact pl k1 (by decide)) (pl (iK k2 k1) (by decide)) (by omega))) f2
   ·split
    ·exact rest _ _ _ f1 (f2.earlier (F2.of (pl k1 (by decide)) (pl (iK k1 k2) (by decide)) (by omega)))
    ·exact rest _ _ _ f1 f2
theorem aO7 {s:Sh} {g:Sg} (hs:∀l∈s.ls,B3 81 l) (hp:B3 40 g.p) (hq:B3 40 g.q):aPL (bS s g):=by
 unfold bS
 split
 ·intro x e;cases e
 ·have:=aBI (own:=g.l) hp hq s.ls (0,1) (1,1) 0 hs aP3 aO0;intro x e;cases q:kA g.p g.q g.l s.ls (0,1) (1,1) 0 with
  | none=>rw [q] at e;cases e
  | some r=>
   rw [q] at e;unfold sL at e;simp only at e;split at e
   ·cases e;exact this _ q
   ·cases e
theorem aN9 (a b:I3):eH (t3 a) (t3 b)=decide (a=b):=by
 rw [aP4];simp [t3,L2.eH,L2.oP,Prod.ext_iff]
def qM:gW:=λas Q=>∃(s:Sh) (g:Sg),as=[.v (xS s),.v (sgT g)]/\(∀l∈s.ls,B3 81 l)/\B3 40 g.p/\B3 40 g.q/\B3 3000 g.l/\Q (.v (ovT (bS s g))) []
abbrev nN:aVK:=top 17
theorem cE:aN ["shape","segment","line","box","own","low","high","hand","begin","end","first","last"] ["shape","segment"] (aH nN):=⟨rfl,rfl,rfl,by decide +kernel,rfl,by decide +kernel,by decide +kernel⟩
theorem zX {f:aVA} {fd:aVF} (F:fO K "overlap" "overlap" nN f fd) (TX:Txt mg) (g_are_apart:Fn P w K mg base 1 "are_apart" ["one","other"] (aI K t7)) (g_off_line:Fn P w K mg base 1 "off_line" ["line","spot"] (aI K vW)) (g_later:Fn P w K mg base 2 "later" ["one","other"] (aI K (vZ cS))) (g_earlier:Fn P w K mg base 2 "earlier" ["one","other"] (aI K (vZ bI))) (g_compared:Fn P w K mg base 1 "compared" ["one","other"] (aI K gY)) (c_NOUGHT:wA mg K "NOUGHT" (.tup [.int 0,.int 1])) (c_ONE:wA mg K "ONE" (.tup [.int 1,.int 1]))  : bL P w K mg base fP 3 f fd ["shape","segment"] (aI K qM):=by
 refine F.okT cE ?len (λcdv A outer s H E hr=>(aE (jB (fv 1) (cZ (n:=3) rfl rfl (aM (aK (i:=3) cE.nd rfl (aDC rfl)) (aM (cZ (n:=2) rfl rfl (aM (aK (i:=8) cE.nd rfl (aDC rfl)) (aM (aK (i:=9) cE.nd rfl (aDC rfl)) b9))) (aM (aK (i:=4) cE.nd rfl (aDC rfl)) b9)))))
 (aE (dG (sS (aC g_are_apart hr (by omega) rfl (fc (aG rfl (fv 0) aB (λ_ _=>rfl)) (fc (fv 3) aA)))) (aJ (aO pN)) cJ)
 (aE (aAJ (i:=5) (j:=6) (k:=7) rfl cE.nd rfl rfl rfl (by decide) (by decide) (by decide) rfl rfl rfl (fc (aBA rfl c_NOUGHT) (fc (aBA rfl c_ONE) (fc dC aA))) rfl)
 (aE (eM PassesOwn.never rfl (tP rfl (aG rfl (fv 0) aB (λ_ _=>rfl))) (aK (i:=2) cE.nd rfl (aDC rfl))
  (aE (eS (i:=10) (j:=11) rfl cE.nd rfl rfl (by decide) rfl rfl (fc (aP aV (aC g_off_line hr (by omega) rfl (fc (fv 2) (fc (fv 8) aA))) (aG rfl (fv 9) aB (λ_ _=>rfl))) (fc (aP aV (aC g_off_line hr (by omega) rfl (fc (fv 2) (fc (fv 9) aA))) (aG rfl (fv 8) aB (λ_ _=>rfl))) aA)) rfl)
 (aJ (dG (rF (i9 (cY aEC (fv 10) aB (aS _)) (iI (cY aEC (fv 11) aB (aS _))))) (aE (dG (rF (aKC (cY fR (fv 10) aB (aS _)) (aEZ (cY fR (fv 11) aB (aS _))))) (aJ (aO pN)) cJ)
 (aJ (aX (i:=7) cE.nd rfl (aDC rfl) (mH (wP rfl hr (fv 2) (fv 4) (aS _)) dC dC)))) (aJ (dG (cY fR (fv 10) aB (aS _)) (aJ (aX (i:=5) cE.nd rfl (aDC rfl) (aC g_later hr (by omega) rfl (fc (fv 5) (fc (aQ (fc (uY (fv 10)) (fc (aU dW (fv 11) (fv 10)) aA))) aA))))) (aJ (dG (cY fR (fv 11) aB (aS _)) (aJ (aX (i:=6) cE.nd rfl (aDC rfl) (aC g_earlier hr (by omega) rfl (fc (fv 6) (fc (aQ (fc (fv 10) (fc (aU dW (fv 10) (fv 11)) aA))) aA))))) cJ))))))))
 (aJ (aO (mH (cY fR (aC g_compared hr (by omega) rfl (fc (fv 5) (fc (fv 6) aA))) aB (aS _)) (aQ (fc (fv 5) (fc (fv 6) (fc (fv 7) aA)))) pN)))))))) ?rd
 case len=>rintro as Q ⟨s,g,rfl,_⟩;rfl
 case rd=>
  rintro as Q ⟨s,g,rfl,hs,hp,hq,hl,q⟩;refine ⟨_,_,rfl,?_⟩;unfold bS at q;show if lU s.b g.b=true then _ else _
  by_cases c:lU s.b g.b=true
  ·rw [if_pos c];rw [if_pos c] at q;exact ⟨rfl,q⟩
  rw [if_neg c];rw [if_neg c] at q;refine d9 (f:=t3) (λs':Fr×Fr×Nat×Option U×Option U×Option U=>[some (.p (xS s)),some (.p (sgT g)),s'.2.2.2.1,some (.p (t4 g.b)),some (.p (t3 g.l)),some (.p (fr s'.1)),some (.p (fr s'.2.1)),some (.p (.str (hdS s'.2.2.1))),some (.p (t3 g.p)),some (.p (t3 g.q)),s'.2.2.2.2.1,s'.2.2.2.2.2])
   (λls s'=>(∀l∈ls,B3 81 l)/\F2 s'.1/\F2 s'.2.1/\Q (.v (ovT (sL (kA g.p g.q g.l ls s'.1 s'.2.1 s'.2.2.1)))) []) ?_ ?_ s.ls ((0,1),(1,1),0,none,none,none) ⟨hs,aP3,aO0,q⟩
  ·rintro l ls ⟨lo,hi,h,v2,v10,v11⟩ rest ⟨hls,f1,f2,z⟩ K;have hl':=(hls l (by simp)).up (show 81<=3000 by decide);have hp':=hp.up (show 40<=3000 by decide);have hq':=hq.up (show 40<=3000 by decide);have k1:=aIJ (hls l (by simp)) hp hq;have k2:=aIJ (hls l (by simp)) hq hp;have hrest:∀m∈ls,B3 81 m:=λm hm=>hls m (by simp [hm]);refine ⟨l,g.p,rfl,hl',hp',gN (e:=123) (aE5 (hls l (by simp)) hp) (pl hq.c (by decide)) (by decide),l,g.q,rfl,hl',hq',gN (e:=123) (aE5 (hls l (by simp)) hq) (pl hp.c (by decide)) (by decide),?_⟩;simp only [kA] at z;generalize ef:cQ l g.p*g.q.2.2=a at z k1 k2 ⊢;generalize eg:cQ l g.q*g.p.2.2=b at z k1 k2 ⊢;have fa:1<=b-a->F2 (-a,b-a):=F2.of (by rw [aTM];exact pl k1 (by decide)) (pl (iK k2 k1) (by decide));have fb:1<=a-b->F2 (a,a-b):=F2.of (pl k1 (by decide)) (pl (iK k1 k2) (by decide));show if decide (a<=0)=true then _ else _
   by_cases c1:a<=0
   ·rw [decide_eq_true c1,if_pos rfl];show if decide (b<=0)=true then _ else _
    by_cases c2:b<=0
    ·rw [decide_eq_true c2,if_pos rfl];rw [if_pos ⟨c1,c2⟩] at z;show if decide (a<0)=true then _ else _
     by_cases c3:a<0
     ·rw [decide_eq_true c3,if_pos rfl,if_pos rfl];rw [if_pos (.inl c3)] at z;exact ⟨rfl,z⟩
     ·rw [decide_eq_false c3,if_neg (by decide)];show if decide (b<0)=true then _ else _
      by_cases c4:b<0
      ·rw [decide_eq_true c4,if_pos rfl];rw [if_pos (.inr c4)] at z;exact ⟨rfl,z⟩
      ·rw [decide_eq_false c4,if_neg (by decide)];rw [if_neg (λw=>w.elim c3 c4)] at z;refine ⟨eV rfl,?_⟩;show if eH (t3 l) (t3 g.l)=true then _ else _;rw [aN9]
       by_cases c5:l=g.l
       ·rw [decide_eq_true c5,if_pos rfl];rw [if_pos c5] at z;exact K (lo,hi,1,some (.p (t3 l)),some (.p (.int a)),some (.p (.int b))) ⟨hrest,f1,f2,z⟩
       ·rw [decide_eq_false c5,if_neg (by decide)];rw [if_neg c5] at z;exact K (lo,hi,2,some (.p (t3 l)),some (.p (.int a)),some (.p (.int b))) ⟨hrest,f1,f2,z⟩
    ·rw [decide_eq_false c2,if_neg (by decide)];rw [if_neg (λw=>c2 w.2)] at z;show if decide (a<0)=true then _ else _
     by_cases c3:a<0
     ·rw [decide_eq_true c3,if_pos rfl];rw [if_pos c3] at z;exact ⟨_,_,rfl,f1.c (fa (by omega)),K (_,hi,h,_,_,_) ⟨hrest,f1.later (fa (by omega)),f2,z⟩⟩
     ·rw [decide_eq_false c3,if_neg (by decide)];rw [if_neg c3] at z;show if decide (b<0)=true then _ else _;rw [decide_eq_false (by omega),if_neg (by decide)];rw [if_neg (by omega)] at z;exact K (lo,hi,h,_,_,_) ⟨hrest,f1,f2,z⟩
   ·rw [decide_eq_false c1,if_neg (by decide),if_neg (by decide)];rw [if_neg (λw=>c1 w.1),if_neg (by omega)] at z;show if decide (a<0)=true then _ else _;rw [decide_eq_false (by omega),if_neg (by decide)];show if decide (b<0)=true then _ else _
    by_cases c3:b<0
    ·rw [decide_eq_true c3,if_pos rfl];rw [if_pos c3] at z;exact ⟨_,_,rfl,f2.c (fb (by omega)),K (lo,_,h,_,_,_) ⟨hrest,f1,f2.earlier (fb (by omega)),z⟩⟩
    ·rw [decide_eq_false c3,if_neg (by decide)];rw [if_neg c3] at z;exact K (lo,hi,h,_,_,_) ⟨hrest,f1,f2,z⟩
  ·rintro ⟨lo,hi,h,v2,v10,v11⟩ ⟨_,f1,f2,z⟩;refine ⟨lo,hi,rfl,f1.c f2,?_⟩;simp only [kA,sL] at z;show if decide (lG lo hi<0)=true then _ else _
   by_cases c:lG lo hi<0
   ·rw [decide_eq_true c,if_pos rfl];rw [if_pos c] at z;exact ⟨rfl,z⟩
   ·rw [decide_eq_false c,if_neg (by decide)];rw [if_neg c] at z;exact ⟨rfl,z⟩
end
end My
namespace My
open PySem L2 PyProof.Rows
end My
namespace My
open PySem L2 PyProof.Rows
section
variable {P:aVD} {w:aVH} {K:W.Frag} {mg:Str->Option Value} {base:Heap}
def gG (p q:Pt) (f:Fr):Pt:=(iC p.1 (fS (bK q.1 p.1) f),iC p.2 (fS (bK q.2 p.2) f))
theorem dY {x y p q:Fr} {e f:Nat} (h:Nv x y e) (k:Nv p q f):Nv (bK x p) (bK y q) (e+f+1):=by
 have:=h.sx;have:=h.sy;have:=k.sx;have:=k.sy;have s1:=yB h.x k.x;have s2:=yB h.y k.y;exact ⟨cU h.x k.x,cU h.y k.y,by omega,by omega⟩
theorem aEW {x y b:Fr} {e:Nat} (h:Nv x y e) (hb:cH b):Nv (fS x b) (fS y b) (e+sz b):=by
 have:=h.sx;have:=h.sy;have s1:=gK h.x hb;have s2:=gK h.y hb;exact ⟨bC h.x hb,bC h.y hb,by omega,by omega⟩
theorem aME {x y p q:Fr} {e f:Nat} (h:Nv x y e) (k:Nv p q f):Nv (iC x p) (iC y q) (e+f+1):=by
 have:=h.sx;have:=h.sy;have:=k.sx;have:=k.sy;have s1:=t8 h.x k.x;have s2:=t8 h.y k.y;exact ⟨eD h.x k.x,eD h.y k.y,by omega,by omega⟩
theorem fW {α:Type} {f:α->L2.T} {xs:List α} {k:Nat} {x:α} (h:xs[k]? = some x):e8 (xs.map f) (k:Int)=some (f x):=pF (by rw [aDF,h];rfl)
abbrev Ov:=Option (Fr×Fr×Nat)
def ffT (x:Fr×Fr):L2.T:=.tup [fr x.1,fr x.2]
structure aHI (s:Sh):Prop where
 b:∀l∈s.ls,B3 81 l
structure aJN (p q:Pt):Prop where
 hp:Pb p
 hq:Pb q
 ne:p≠q
 l:g3 (jU (aF p) (aF q))≠0
theorem aO9 {p q:Pt} (h:aJN p q):B3 40 (jI p q).p/\B3 40 (jI p q).q/\B3 3000 (jI p q).l:=⟨g9 h.hp,g9 h.hq,(aKZ (zW (g9 h.hp) (g9 h.hq))).up (by decide)⟩
end
end My
namespace My
open PySem L2 PyProof.Rows
section
variable {P:aVD} {w:aVH} {K:W.Frag} {mg:Str->Option Value} {base:Heap}
theorem r8 {α σ:Type} {g:FG} {F:yW} {D:ETD} {f:α->L2.T} (mk:σ->En) (mm:σ->MD) (R:List α->σ->Prop) (hs:∀x xs s rest,R (x::xs) s->(∀s',R xs s'->qB g F D rest (mm s') (mk s'))->qB g F D (f x::rest) (mm s) (mk s)) (hd:∀s,R [] s->D.nx (mm s) (mk s)):∀xs s,R xs s->qB g F D (xs.map f) (mm s) (mk s)
 | [],s,h=>hd s h
 | x::xs,s,h=>hs x xs s _ h λs' h'=>r8 mk mm R hs hd xs s' h'
theorem aE3 {b:e9} (h:aEN b):aHI (cI b):=⟨λl m=>by
 obtain ⟨x,mx,rfl⟩:=aDB.mp m;exact aKZ (o9 h.pb x mx)⟩
end
end My
namespace My
open PySem L2 PyProof.Rows
section
variable {P:aVD} {w:aVH} {K:W.Frag} {mg:Str->Option Value} {base:Heap}
def oF (a b:Fr×Fr):Bool:=decide (lG (cS a.1 b.1) (bI a.2 b.2)<0)
def nY (L R:List (Fr×Fr)):Bool:=L.all λa=>R.all λb=>!oF a b
def kD:List Ov->List (Fr×Fr)->List (Fr×Fr)->Bool
 | [],L,R=>nY L R
 | none::os,L,R=>kD os L R
 | some r::os,L,R=>if r.2.2=0 then false else if r.2.2=1 then kD os (L++[(r.1,r.2.1)]) R else kD os L (R++[(r.1,r.2.1)])
def nI (shs:List Sh) (p q:Pt):Bool:=kD (shs.map λs=>bS s (jI p q)) [] []
def cM (L R:List (Fr×Fr)):MD:=[([Sum.inr ("left":Str)],L.map ffT),([Sum.inr ("right":Str)],R.map ffT)]
theorem aPO (h:Nat):eH (.str (hdS h)) (.str "in")=decide (h=0):=by
 match h with
 | 0=>decide
 | 1=>decide
 | n+2=>
  have:eH (.str (hdS (n+2))) (.str "in")=false:=by show eH (.str "right") (.str "in")=false;decide
  rw [this,decide_eq_false (by omega)]
theorem aOW (L R:List (Fr×Fr)) (x:Fr×Fr):tX (cM L R) "left" (ffT x)=cM (L++[x]) R:=by
 unfold cM tX;rw [if_pos rfl,aQ9];rfl
theorem aQK (L R:List (Fr×Fr)) (x:Fr×Fr):tX (cM L R) "right" (ffT x)=cM L (R++[x]):=by
 unfold cM tX tX;rw [if_neg (by decide),if_pos rfl,aQ9];rfl
theorem aPI (L R:List (Fr×Fr)):xM (cM L R) "left" = true:=by unfold xM cM;rw [aTD,decide_eq_true rfl];rfl
theorem aOZ (L R:List (Fr×Fr)):xM (cM L R) "right" = true:=by
 unfold xM cM;simp
theorem aLP (L R:List (Fr×Fr)):k9 (cM L R) "left" = some (L.map ffT):=by unfold cM k9;rw [if_pos rfl]
theorem aMX (L R:List (Fr×Fr)):k9 (cM L R) "right" = some (R.map ffT):=by unfold cM k9 k9;rw [if_neg (by decide),if_pos rfl]
def aIR (L:List (Fr×Fr)):Prop:=∀x∈L,F2 x.1/\F2 x.2
def qO:gW:=λas Q=>∃(shs:List Sh) (p q:Pt),as=[.v (.lst (shs.map xS)),.v (pt p),.v (pt q)]/\(∀s∈shs,aHI s)/\aJN p q/\shs.length<=300/\Q (.v (.bl (nI shs p q))) []
abbrev iP:aVK:=top 24
theorem bP:aN ["shapes","begin","end","segment","beside","shape","laid","low","high","other_low","other_high"] ["shapes","begin","end"] (aH iP):=⟨rfl,rfl,rfl,by decide +kernel,rfl,by decide +kernel,by decide +kernel⟩
theorem pP {f:aVA} {fd:aVF} (F:fO K "is_clear_of" "is_clear_of" iP f fd) (TX:Txt mg) (g_segment_of:Fn P w K mg base 3 "segment_of" ["begin","end"] (aI K aNL)) (g_overlap:Fn P w K mg base 3 "overlap" ["shape","segment"] (aI K qM)) (g_compared:Fn P w K mg base 1 "compared" ["one","other"] (aI K gY)) (g_later:Fn P w K mg base 2 "later" ["one","other"] (aI K (vZ cS))) (g_earlier:Fn P w K mg base 2 "earlier" ["one","other"] (aI K (vZ bI)))   : bL P w K mg base fP 5 f fd ["shapes","begin","end"] (aI K qO):=by
 refine F.okT bP ?len (λcdv A outer s H E hr=>(aE (aX (i:=3) bP.nd rfl (aDC rfl) (aC g_segment_of hr (by omega) rfl (fc (fv 1) (fc (fv 2) aA))))
 (aH1 (i:=4) (by decide) bP.nd rfl (aDC rfl) (pE (aMG (p:=0) rfl PassesOwn.never rfl rfl (by first | exact aDC rfl | exact aN3 (aDC rfl) | exact aN3 (aN3 rfl)) (lZ (j:=5) bP.nd rfl (aDC rfl) (by decide))
  (pE (tK (aMO (j:=6) bP.nd rfl (aDC rfl) (aC g_overlap hr (by omega) rfl (fc (fv 5) (fc (fv 3) aA))) (by decide)))
 (pE (tK (aDH (aNC (fv 6) (aS _)) (yN aJA) zN))
 (pE (tK (aDH (wP rfl hr (aG rfl (fv 6) aB (λ_ _=>rfl)) dC (aS _)) (yN (zF kC)) zN))
 (aML (aK8 hr rfl (by first | exact aDC rfl | exact aN3 (aDC rfl) | exact aN3 (aN3 rfl)) (aG rfl (fv 6) aB (λ_ _=>rfl)) (aC5 rfl (fv 6) kG (iH aB)) (λ_ _=>rfl)))))))
 (aIX (λM=>(aIO (aGJ hr rfl PassesOwn.never rfl rfl (by first | exact aDC rfl | exact aN3 (aDC rfl) | exact aN3 (aN3 rfl)) (aE0 (n:=2) rfl rfl (mZ (lZ (j:=7) bP.nd rfl (aDC rfl) (by decide)) (mZ (lZ (j:=8) bP.nd rfl (aDC rfl) (by decide)) aAO)))
  (yP (aGJ hr rfl PassesOwn.never rfl rfl (by first | exact aDC rfl | exact aN3 (aDC rfl) | exact aN3 (aN3 rfl)) (aE0 (n:=2) rfl rfl (mZ (lZ (j:=9) bP.nd rfl (aDC rfl) (by decide)) (mZ (lZ (j:=10) bP.nd rfl (aDC rfl) (by decide)) aAO)))
  (yP (aAE (aDH (cY fR (aC g_compared hr (by omega) rfl (fc (aC g_later hr (by omega) rfl (fc (fv 7) (fc (fv 9) aA))) (fc (aC g_earlier hr (by omega) rfl (fc (fv 8) (fc (fv 10) aA))) aA))) aB (aS _)) (yN (zF kC)) zN))) (λ_ _=>rfl))) (λ_ _=>rfl))
 (yP (aAE (zF kC)))))))))) ?rd
 case len=>rintro as Q ⟨shs,p,q,rfl,_⟩;rfl
 case rd=>
  rintro as Q ⟨shs,p,q,rfl,hsh,en,hn,z⟩;refine ⟨p,q,rfl,en.hp,en.hq,en.l,?_⟩;obtain ⟨g1,g2,g3'⟩:=aO9 en;unfold nI at z;generalize jI p q=sg at z g1 g2 g3' ⊢;refine r8 (f:=xS) (λs':List (Fr×Fr)×List (Fr×Fr)×Option U×Option U=>[some (.p (.lst (shs.map xS))),some (.p (pt p)),some (.p (pt q)),some (.p (sgT sg)),none,s'.2.2.1,s'.2.2.2,none,none,none,none]) (λs'=>cM s'.1 s'.2.1)
   (λss s'=>(∀s∈ss,aHI s)/\aIR s'.1/\aIR s'.2.1/\s'.1.length+ss.length<=300/\s'.2.1.length+ss.length<=300/\Q (.v (.bl (kD (ss.map λs=>bS s sg) s'.1 s'.2.1))) []) ?_ ?_ shs ([],[],none,none) ⟨hsh,λx m=>absurd m (by simp),λx m=>absurd m (by simp),by simp;omega,by simp;omega,z⟩
  ·rintro s ss ⟨L,R,v5,v6⟩ rest ⟨hss,hL,hR,l1,l2,z⟩ K;have hs1:=hss s (by simp);have hrest:∀s∈ss,aHI s:=λx m=>hss x (by simp [m]);simp only [aKX] at l1 l2;refine ⟨s,sg,rfl,hs1.b,g1,g2,g3',?_⟩;have ok:=aO7 hs1.b g1 g2;replace z:Q (.v (.bl (kD (bS s sg::ss.map λs=>bS s sg) L R))) []:=z;generalize bS s sg=r at z ok ⊢;cases r with
   | none=>exact K (L,R,some (.p (xS s)),some (.p .non)) ⟨hrest,hL,hR,by simp only;omega,by simp only;omega,z⟩
   | some r=>
    obtain ⟨lo,hi,h⟩:=r;obtain ⟨f1,f2⟩:=ok _ rfl;simp only at f1 f2;simp only [kD] at z;refine ⟨eV rfl,?_⟩;show if eH (.str (hdS h)) (.str "in")=true then _ else _;rw [aPO]
    by_cases c:h=0
    ·rw [decide_eq_true c,if_pos rfl];rw [if_pos c] at z;exact ⟨rfl,z⟩
    ·rw [decide_eq_false c,if_neg (by decide)];rw [if_neg c] at z;have kk:kOk (cM L R)=true:=rfl;have ll:∀x∈cM L R,x.2.length<1000:=λx m=>by
      simp only [cM,aB1,aRO,or_false] at m;rcases m with rfl | rfl
      ·simp only [aBC];omega
      ·simp only [aBC];omega
     by_cases c1:h=1
     ·rw [if_pos c1] at z;subst c1;refine ⟨rfl,aPI L R,kk,ll,(show ¬(HT.sIx 3 0 none=0/\HT.sIx 3 3 (some 2)=3) by decide),rfl,rfl,?_⟩;have fin:=K (L++[(lo,hi)],R,some (.p (xS s)),some (.p (ovT (some (lo,hi,1))))) ⟨hrest,λx m=>(aM3.mp m).elim (hL x) λm=>by
       have e:x=(lo,hi):=by simpa using m
       subst e;exact ⟨f1,f2⟩,hR,by simp only [aIG,aSN];omega,by simp only;omega,z⟩
      simp only at fin;rw [<-aOW] at fin;exact fin
     ·rw [if_neg c1] at z;obtain ⟨n,rfl⟩:∃n,h=n+2:=⟨h-2,by omega⟩;refine ⟨rfl,aOZ L R,kk,ll,(show ¬(HT.sIx 3 0 none=0/\HT.sIx 3 3 (some 2)=3) by decide),rfl,rfl,?_⟩;have fin:=K (L,R++[(lo,hi)],some (.p (xS s)),some (.p (ovT (some (lo,hi,n+2))))) ⟨hrest,hL,λx m=>(aM3.mp m).elim (hR x) λm=>by
       have e:x=(lo,hi):=by simpa using m
       subst e;exact ⟨f1,f2⟩,by simp only;omega,by simp only [aIG,aSN];omega,z⟩
      simp only at fin;rw [<-aQK] at fin;exact fin
  ·rintro ⟨L,R,v5,v6⟩ ⟨_,hL,hR,l1,l2,z⟩;replace z:Q (.v (.bl (nY L R))) []:=z;refine ⟨rfl,?_⟩;have eR:aAG (cM L R) "right" = λg F D E=>kF E (cO g F D (R.map ffT)):=by
    funext g F D E
    simp only [aAG,aMX];rfl
   simp only [aM0];rw [eR];simp only [aAG];rw [aLP];refine d9 (f:=ffT) (λs':Option U×Option U×Option U×Option U=>[some (.p (.lst (shs.map xS))),some (.p (pt p)),some (.p (pt q)),some (.p (sgT sg)),none,v5,v6,s'.1,s'.2.1,s'.2.2.1,s'.2.2.2])
    (λL' s'=>aIR L'/\Q (.v (.bl (nY L' R))) []) ?_ ?_ L (none,none,none,none) ⟨hL,z⟩
   ·rintro a L' ⟨v7,v8,v9,v10⟩ rest ⟨hL',z⟩ K;obtain ⟨f1,f2⟩:=hL' a (by simp);replace z:Q (.v (.bl ((R.all λb=>!oF a b)&&nY L' R))) []:=z;refine d9 (f:=ffT) (λs':Option U×Option U=>[some (.p (.lst (shs.map xS))),some (.p (pt p)),some (.p (pt q)),some (.p (sgT sg)),none,v5,v6,some (.p (fr a.1)),some (.p (fr a.2)),s'.1,s'.2])
     (λR' s'=>aIR R'/\Q (.v (.bl ((R'.all λb=>!oF a b)&&nY L' R))) []) ?_ ?_ R (v9,v10) ⟨hR,z⟩
    ·rintro b R' ⟨v9,v10⟩ rest' ⟨hR',z⟩ K';obtain ⟨k1,k2⟩:=hR' b (by simp);refine ⟨_,_,rfl,f1.c k1,_,_,rfl,f2.c k2,_,_,rfl,(f1.later k1).c (f2.earlier k2),?_⟩;show if oF a b=true then _ else _;simp only [aU6] at z
     by_cases c:oF a b=true
     ·rw [c] at z ⊢;rw [if_pos rfl];exact ⟨rfl,z⟩
     ·rw [if_neg c];rw [aRG.mpr c] at z;exact K' (some (.p (fr b.1)),some (.p (fr b.2))) ⟨λx m=>hR' x (by simp [m]),z⟩
    ·rintro ⟨v9,v10⟩ ⟨_,z⟩;exact K (some (.p (fr a.1)),some (.p (fr a.2)),v9,v10) ⟨λx m=>hL' x (by simp [m]),z⟩
   ·rintro ⟨v7,v8,v9,v10⟩ ⟨_,z⟩;exact ⟨rfl,z⟩
def xV:gW:=λas Q=>∃(bs:List e9) (p q:Pt),as=[.v (.lst (bs.map cW)),.v (pt p),.v (pt q)]/\(∀b∈bs,aEN b)/\aJN p q/\bs.length<=300/\Q (.v (.bl (nI (bs.map cI) p q))) []
abbrev lI:aVK:=top 25
theorem vA:aN ["blocks","begin","end"] ["blocks","begin","end"] (aH lI):=⟨rfl,rfl,rfl,by decide +kernel,rfl,by decide +kernel,by decide +kernel⟩
theorem wT {f:aVA} {fd:aVF} (F:fO K "is_clear" "is_clear" lI f fd) (TX:Txt mg) (g_shapes_of:Fn P w K mg base 5 "shapes_of" ["laid"] (aI K uX)) (g_is_clear_of:Fn P w K mg base 5 "is_clear_of" ["shapes","begin","end"] (aI K qO))   : bL P w K mg base fP 6 f fd ["blocks","begin","end"] (aI K xV):=by
 refine F.okT vA ?len (λcdv A outer s H E hr=>(aJ (aO (aC g_is_clear_of hr (by omega) rfl (fc (aC g_shapes_of hr (by omega) rfl (fc (fv 0) aA)) (fc (fv 1) (fc (fv 2) aA))))))) ?rd
 case len=>rintro as Q ⟨bs,p,q,rfl,_⟩;rfl
 case rd=>
  rintro as Q ⟨bs,p,q,rfl,hb,en,hn,z⟩;refine ⟨bs,rfl,by omega,hb,bs.map cI,p,q,rfl,λs m=>?_,en,by rw [aBC];exact hn,rfl,z⟩;obtain ⟨b,mb,rfl⟩:=aDB.mp m;exact aE3 (hb b mb)
end
end My
namespace My
open PySem L2 PyProof.Rows
section
variable {P:aVD} {w:aVH} {K:W.Frag} {mg:Str->Option Value} {base:Heap}
abbrev Q2:=Rat×Rat
abbrev Eg:=Q2×Q2
def bV (u v:Q2):Rat:=u.1*v.2-u.2*v.1
def bE (u v:Q2):Rat:=u.1*v.1+u.2*v.2
def bH (p q:Q2):Q2:=(p.1-q.1,p.2-q.2)
def aW (e:Eg):Q2:=bH e.2 e.1
def fE (e:Eg) (x:Q2):Rat:=bV (aW e) (bH x e.1)
def jR (p q:Q2) (t:Rat):Q2:=(p.1+(q.1-p.1)*t,p.2+(q.2-p.2)*t)
theorem nA (e:Eg) (p q:Q2) (t:Rat):fE e (jR p q t)=fE e p+(fE e q-fE e p)*t:=by
 unfold fE bV aW bH jR;grind
def xR (es:List Eg) (x:Q2):Prop:=∀e∈es,0<=fE e x
structure OnE (e:Eg) (x:Q2):Prop where
 z:fE e x=0
 a:0<=bE (aW e) (bH x e.1)
 b:0<=bE (aW e) (bH e.2 x)
structure Cx (es:List Eg):Prop where
 inn:∀e∈es,∀g∈es,0<=fE e g.1
 thick:∀e∈es,∃g∈es,0<fE e g.1
 ne:∀e∈es,0<bE (aW e) (aW e)
 nx:∀e∈es,∃g∈es,g.1=e.2/\(0<bV (aW e) (aW g)\/(bV (aW e) (aW g)=0/\0<bE (aW e) (aW g)/\∃h∈es,h.1=g.2/\0<bV (aW g) (aW h)))
 pv:∀e∈es,∃g∈es,g.2=e.1/\(0<bV (aW g) (aW e)\/(bV (aW g) (aW e)=0/\0<bE (aW g) (aW e)/\∃h∈es,h.2=g.1/\0<bV (aW h) (aW g)))
theorem uN {a b:Rat} (h:0<b):0<a*b↔0<a:=⟨cT h,λk=>Rat.mul_pos k h⟩
theorem yL {a b:Rat} (h:0<b):0<=a*b↔0<=a:=⟨cA h,λk=>Rat.mul_nonneg k (Rat.le_of_lt h)⟩
theorem aI9 {a b:Rat} (h:a<0) (k:0<b):a*b<0:=by
 have:=Rat.mul_pos (a:=-a) (b:=b) (by grind) k;grind
theorem par {u d:Q2} (hu:0<bE u u) (h:bV u d=0):d.1*bE u u=bE u d*u.1/\d.2*bE u u=bE u d*u.2:=by
 unfold bV at h;unfold bE;constructor
 ·have:u.2*(u.1*d.2-u.2*d.1)=0:=by rw [h];grind
  grind
 ·have:u.1*(u.1*d.2-u.2*d.1)=0:=by rw [h];grind
  grind
theorem aBK {u d w:Q2} (hu:0<bE u u) (h:bV u d=0):bV w d*bE u u=bE u d*bV w u:=by
 obtain ⟨a,b⟩:=par hu h;unfold bV;grind
theorem zV {u d w:Q2} (hu:0<bE u u) (h:bV u d=0):bE w d*bE u u=bE u d*bE w u:=by
 obtain ⟨a,b⟩:=par hu h;unfold bE at a b ⊢;grind
theorem aF9 {u w d:Q2} (hu:0<bE u u) (h:bV u d=0) (k:0<bE u d) (t:0<bV u w):bV w d<0:=by
 have e:=aBK (w:=w) hu h;have s:bV w u = - bV u w:=by unfold bV;grind
 rw [s] at e;have m:=Rat.mul_pos k t;have:0 < -(bV w d)*bE u u:=by grind
 have:=cT hu this;grind
theorem aFA {u w d:Q2} (hu:0<bE u u) (h:bV u d=0) (k:bE u d<0) (t:0<bV w u):bV w d<0:=by
 have e:=aBK (w:=w) hu h;have m:=aI9 k t;have:0 < -(bV w d)*bE u u:=by grind
 have:=cT hu this;grind
theorem aGG {e g:Eg} (hu:0<bE (aW e) (aW e)) (c:bV (aW e) (aW g)=0) (d:0<bE (aW e) (aW g)) (z:fE e g.1=0):∃r:Rat,0<r/\∀y,fE g y=r*fE e y:=by
 obtain ⟨a,b⟩:=par hu c;have n0:bE (aW e) (aW e)≠0:=by grind
 refine ⟨bE (aW e) (aW g)/bE (aW e) (aW e),by rw [Rat.div_def];exact Rat.mul_pos d (Rat.inv_pos.mpr hu),λy=>?_⟩;have k1:fE e y-fE e g.1=bV (aW e) (bH y g.1):=by unfold fE bV bH;grind
 rw [z] at k1;have k2:fE g y*bE (aW e) (aW e)=bE (aW e) (aW g)*bV (aW e) (bH y g.1):=by unfold fE bV;grind
 rw [<-k1] at k2;grind
theorem Cx.on {es:List Eg} (h:Cx es) {e:Eg} {x:Q2} (he:e∈es) (h0:fE e x=0) (hx:xR es x):∃g∈es,OnE g x/\∃r:Rat,0<r/\∀y,fE g y=r*fE e y:=by
 have ne:=h.ne e he;have z2:bV (aW e) (bH x e.2)=0:=by rw [<-h0];unfold fE bV aW bH;grind
 by_cases hb:0<=bE (aW e) (bH e.2 x)
 ·by_cases ha:0<=bE (aW e) (bH x e.1)
  ·exact ⟨e,he,⟨h0,ha,hb⟩,1,by decide,λy=>by grind⟩
  ·obtain ⟨g,hg,eg,c⟩:=h.pv e he;have ka:bE (aW e) (bH x e.1)<0:=by grind
   have fg:fE g x=bV (aW g) (bH x e.1):=by rw [<-eg];unfold fE bV aW bH;grind
   rcases c with c | ⟨c,d,k,hk,ek,t⟩
   ·have:=aFA ne (show bV (aW e) (bH x e.1)=0 from h0) ka c;have:=hx g hg;grind
   ·have c':bV (aW e) (aW g)=0:=by unfold bV at c ⊢;grind
    have d':0<bE (aW e) (aW g):=by unfold bE at d ⊢;grind
    have zg:fE e g.1=0:=by
     have:fE e g.1 = - bV (aW e) (aW g):=by unfold fE bV aW bH;rw [eg];grind
     rw [this,c'];rfl
    obtain ⟨r,r0,hr⟩:=aGG ne c' d' zg;have ng:=h.ne g hg;have zx:fE g x=0:=by rw [hr,h0];grind
    have e1:=zV (u:=aW e) (d:=aW g) (w:=bH e.1 x) ne c';have kb:0<bE (aW g) (bH g.2 x):=by
     have s1:bE (aW g) (bH g.2 x)=bE (bH e.1 x) (aW g):=by rw [eg];unfold bE;grind
     have s2:bE (bH e.1 x) (aW e) = -bE (aW e) (bH x e.1):=by unfold bE bH;grind
     rw [s2] at e1;have:=Rat.mul_pos d' (show 0 < -bE (aW e) (bH x e.1) by grind);rw [s1];exact cT ne (by grind)
    refine ⟨g,hg,⟨zx,?_,Rat.le_of_lt kb⟩,r,r0,hr⟩
    by_cases hc:0<=bE (aW g) (bH x g.1)
    ·exact hc
    ·have kk:=aFA ng (show bV (aW g) (bH x g.1)=0 from zx) (by grind) t;have fk:fE k x=bV (aW k) (bH x g.1):=by rw [<-ek];unfold fE bV aW bH;grind
     have:=hx k hk;grind
 ·obtain ⟨g,hg,eg,c⟩:=h.nx e he;have kb:0<bE (aW e) (bH x e.2):=by
   have:bE (aW e) (bH x e.2) = - bE (aW e) (bH e.2 x):=by unfold bE bH;grind
   grind
  have fg:fE g x=bV (aW g) (bH x e.2):=by rw [<-eg];rfl
  rcases c with c | ⟨c,d,k,hk,ek,t⟩
  ·have:=aF9 ne z2 kb c;have:=hx g hg;grind
  ·have zg:fE e g.1=0:=by
    rw [eg];unfold fE bV aW bH;grind
   obtain ⟨r,r0,hr⟩:=aGG ne c d zg;have ng:=h.ne g hg;have zx:fE g x=0:=by rw [hr,h0];grind
   have e1:=zV (u:=aW e) (d:=aW g) (w:=bH x e.2) ne c;have ka:0<bE (aW g) (bH x g.1):=by
    have s1:bE (aW g) (bH x g.1)=bE (bH x e.2) (aW g):=by rw [eg];unfold bE;grind
    have s2:bE (bH x e.2) (aW e)=bE (aW e) (bH x e.2):=by unfold bE;grind
    rw [s2] at e1;have:=Rat.mul_pos d kb;rw [s1];exact cT ne (by grind)
   refine ⟨g,hg,⟨zx,Rat.le_of_lt ka,?_⟩,r,r0,hr⟩
   by_cases hc:0<=bE (aW g) (bH g.2 x)
   ·exact hc
   ·have z3:bV (aW g) (bH x g.2)=0:=by rw [<-zx];unfold fE bV aW bH;grind
    have k3:0<bE (aW g) (bH x g.2):=by
     have:bE (aW g) (bH x g.2) = - bE (aW g) (bH g.2 x):=by unfold bE bH;grind
     grind
    have kk:=aF9 ng z3 k3 t;have fk:fE k x=bV (aW k) (bH x g.2):=by rw [<-ek];rfl
    have:=hx k hk;grind
theorem aD9 {α:Type} (f:α->Rat):∀(xs:List α),xs≠[]->∃x∈xs,∀y∈xs,f y<=f x
 | [],h=>absurd rfl h
 | [x],_=>⟨x,by simp,λy m=>by rw [aPD] at m;rw [m];grind⟩
 | x::z::r,_=>by
  obtain ⟨m,hm,k⟩:=aD9 f (z::r) (by simp)
  by_cases c:f x<=f m
  ·exact ⟨m,by simp [hm],λy hy=>by
    rcases aB1.mp hy with rfl | hy
    ·exact c
    ·exact k y hy⟩
  ·exact ⟨x,by simp,λy hy=>by
    rcases aB1.mp hy with rfl | hy
    ·grind
    ·have:=k y hy;grind⟩
theorem Cx.far {es:List Eg} (h:Cx es) (n0:es≠[]) (w:Q2):∃e∈es,∃g∈es,e.2=g.1/\0<bV (aW e) (aW g)/\∀k∈es,bE w k.1<=bE w g.1:=by
 obtain ⟨g,hg,mx⟩:=aD9 (λe:Eg=>bE w e.1) es n0;obtain ⟨e,he,eg,c⟩:=h.pv g hg;rcases c with c | ⟨c,d,k,hk,ek,t⟩
 ·exact ⟨e,he,g,hg,eg,c,mx⟩
 ·refine ⟨k,hk,e,he,ek,t,λy hy=>?_⟩;obtain ⟨n,hn,en,_⟩:=h.nx g hg;have a1:bE w e.1<=bE w g.1:=mx e he;have a2:bE w n.1<=bE w g.1:=mx n hn;rw [en] at a2;have c':bV (aW e) (aW g)=0:=c;have e1:=zV (u:=aW e) (d:=aW g) (w:=w) (h.ne e he) c';have b1:bE w (aW e)=bE w g.1-bE w e.1:=by rw [<-eg];unfold bE aW bH;grind
  have b2:bE w (aW g)=bE w g.2-bE w g.1:=by unfold bE aW bH;grind
  have b3:bE w (aW e)<=0:=by
   refine Rat.not_lt.mp λq=>?_;have:=Rat.mul_pos d q;rw [<-e1] at this;have:=cT (h.ne e he) this;grind
  have:bE w y.1<=bE w g.1:=mx y hy;grind
theorem Cx.box {es:List Eg} (h:Cx es) (n0:es≠[]) (w:Q2) {x:Q2} (hx:xR es x):∃g∈es,bE w x<=bE w g.1:=by
 obtain ⟨e,he,g,hg,eg,t,mx⟩:=h.far n0 w;refine ⟨g,hg,?_⟩;have f1:=hx e he;have f2:=hx g hg;obtain ⟨n,hn,en,_⟩:=h.nx g hg;have a1:=mx e he;have a2:=mx n hn;rw [en] at a2;have k1:fE e x=bV (aW e) (bH x g.1):=by rw [<-eg];unfold fE bV aW bH;grind
 have k2:fE g x=bV (aW g) (bH x g.1):=rfl;rw [k1] at f1;rw [k2] at f2;have id1:(bE w x-bE w g.1)*bV (aW e) (aW g) = -((bE w g.1-bE w e.1)*bV (aW g) (bH x g.1))+(bE w g.2-bE w g.1)*bV (aW e) (bH x g.1):=by
  rw [show g.1=e.2 from eg.symm];unfold bE bV aW bH;grind
 have m1:=Rat.mul_nonneg (show 0<=bE w g.1-bE w e.1 by grind) f2;have m2:=Rat.mul_nonneg (show 0<=bE w g.1-bE w g.2 by grind) f1;refine Rat.not_lt.mp λq=>?_;have:=Rat.mul_pos (show 0<bE w x-bE w g.1 by grind) t;grind
theorem Cx.orient {es:List Eg} (h:Cx es) {p q:Q2} {e g:Eg} (he:e∈es) (hg:g∈es) (e1:fE e p=0) (e2:fE e q=0) (g1:fE g p=0) (g2:fE g q=0) (hp:0<bE (bH q p) (bH q p)) (k:0<bE (aW e) (bH q p)):0<bE (aW g) (bH q p):=by
 have key:∀e:Eg,fE e p=0->fE e q=0->∀y,fE e y*bE (bH q p) (bH q p)=bE (aW e) (bH q p)*bV (bH q p) (bH y p):=λe z1 z2 y=>by
  have c:bV (bH q p) (aW e)=0:=by
   have:bV (bH q p) (aW e)=fE e p-fE e q:=by unfold fE bV aW bH;grind
   rw [this,z1,z2];grind
  obtain ⟨a,b⟩:=par hp c;have s:fE e y=fE e y-fE e p:=by rw [z1];grind
  have s2:fE e y-fE e p=bV (aW e) (bH y p):=by unfold fE bV bH;grind
  rw [s,s2];have s3:bE (bH q p) (aW e)=bE (aW e) (bH q p):=by unfold bE;grind
  rw [s3] at a b;unfold bV at *;grind
 obtain ⟨y,hy,fy⟩:=h.thick e he;obtain ⟨y',hy',fy'⟩:=h.thick g hg;have a1:=key e e1 e2 y.1;have b1:=key g g1 g2 y.1;have b2:=key g g1 g2 y'.1;have i1:=h.inn g hg y hy;have m1:=Rat.mul_pos fy hp;rw [a1] at m1;have c0:0<bV (bH q p) (bH y.1 p):=by
  refine cT k ?_;grind
 have m2:=Rat.mul_nonneg i1 (Rat.le_of_lt hp);rw [b1] at m2;have d0:=cA c0 m2;have m3:=Rat.mul_pos fy' hp;rw [b2] at m3
 by_cases z:bE (aW g) (bH q p)=0
 ·rw [z] at m3;grind
 ·grind
end
end My
namespace My
open PySem L2 PyProof.Rows
section
variable {P:aVD} {w:aVH} {K:W.Frag} {mg:Str->Option Value} {base:Heap}
theorem dR {p:Fr} (h:1<=p.2):(0:Rat)<(p.2:Rat):=by exact_mod_cast (show (0:Int)<p.2 by omega)
theorem vd {p:Fr} (h:1<=p.2):val p*(p.2:Rat)=(p.1:Rat):=by have:=dR h;unfold val;grind
theorem vle {p:Fr} {t:Rat} (h:1<=p.2):val p<=t↔(p.1:Rat)<=t*(p.2:Rat):=by
 have d:=dR h;have e:=vd h;have:0<=(t-val p)*(p.2:Rat)↔0<=t-val p:=yL d;grind
theorem vge {p:Fr} {t:Rat} (h:1<=p.2):t<=val p↔t*(p.2:Rat)<=(p.1:Rat):=by
 have d:=dR h;have e:=vd h;have:0<=(val p-t)*(p.2:Rat)↔0<=val p-t:=yL d;grind
theorem lM {x y:Fr} (hx:1<=x.2) (hy:1<=y.2):lG x y<0↔val x<val y:=by
 have d1:=dR hx;have d2:=dR hy;have e1:=vd hx;have e2:=vd hy;have k:val x<val y↔x.1*y.2<y.1*x.2:=by
  have m:=Rat.mul_pos d1 d2;have i1:(val y-val x)*((x.2:Rat)*(y.2:Rat))=(y.1:Rat)*x.2-(x.1:Rat)*y.2:=by grind
  have i2:=uN (a:=val y-val x) m;rw [i1] at i2;have i3:(x.1:Rat)*y.2<(y.1:Rat)*x.2↔x.1*y.2<y.1*x.2:=by norm_cast
  rw [<-i3];grind
 rw [k];unfold lG
 split
 ·simp [*]
 ·split<;>simp [*]
theorem qA (x y:Fr):cS x y=x\/cS x y=y:=by unfold cS;split<;>simp
theorem qV (x y:Fr):bI x y=x\/bI x y=y:=by unfold bI;split<;>simp
theorem aA6 {x y:Fr} (hx:1<=x.2) (hy:1<=y.2):1<=(cS x y).2:=by unfold cS;split<;>assumption
theorem rV {x y:Fr} (hx:1<=x.2) (hy:1<=y.2):1<=(bI x y).2:=by unfold bI;split<;>assumption
theorem j5 {x y:Fr} {t:Rat} (hx:1<=x.2) (hy:1<=y.2):val (cS x y)<=t↔val x<=t/\val y<=t:=by
 have c:=lM hx hy;unfold cS
 split<;>grind
theorem jC {x y:Fr} {t:Rat} (hx:1<=x.2) (hy:1<=y.2):t<=val (bI x y)↔t<=val x/\t<=val y:=by
 have c:=lM hx hy;unfold bI
 split<;>grind
def u9 (a b:Int) (t:Rat):Rat:=(a:Rat)+((b:Rat)-(a:Rat))*t
theorem aSJ {a b:Int} {t1 t2:Rat} (h1:a<=0) (h2:b<=0) (h:a<0\/b<0) (k0:0<=t1) (k:t1<t2) (k1:t2<=1) (z1:0<=u9 a b t1) (z2:0<=u9 a b t2):False:=by
 have q1:(a:Rat)<=0:=by exact_mod_cast h1
 have q2:(b:Rat)<=0:=by exact_mod_cast h2
 unfold u9 at z1 z2;have e1:=Rat.mul_nonneg (show 0<=-(a:Rat) by grind) (show 0<=1-t1 by grind);have e2:=Rat.mul_nonneg (show 0<=-(b:Rat) by grind) k0;have e3:=Rat.mul_nonneg (show 0<=-(a:Rat) by grind) (show 0<=1-t2 by grind);have e4:=Rat.mul_nonneg (show 0<=-(b:Rat) by grind) (show 0<=t2 by grind);rcases h with h | h
 ·have q:(a:Rat)<0:=by exact_mod_cast h
  have:=Rat.mul_pos (show 0 < -(a:Rat) by grind) (show 0<1-t1 by grind);grind
 ·have q:(b:Rat)<0:=by exact_mod_cast h
  have:=Rat.mul_pos (show 0 < -(b:Rat) by grind) (show 0<t2 by grind);grind
theorem aSL {a b:Int} {t:Rat} (h:a<0) (k:0<b):0<=u9 a b t↔val (-a,b-a)<=t:=by
 rw [vle (show (1:Int)<=b-a by omega)];unfold u9
 push_cast
 grind
theorem aR1 {a b:Int} {t:Rat} (h:0<a) (k:b<0):0<=u9 a b t↔t<=val (a,a-b):=by
 rw [vge (show (1:Int)<=a-b by omega)];unfold u9
 push_cast
 grind
theorem aSU {a b:Int} {t:Rat} (h:0<=a) (k:0<=b) (t0:0<=t) (t1:t<=1):0<=u9 a b t:=by
 have q1:(0:Rat)<=a:=by exact_mod_cast h
 have q2:(0:Rat)<=b:=by exact_mod_cast k
 have e1:=Rat.mul_nonneg q1 (show 0<=1-t by grind);have e2:=Rat.mul_nonneg q2 t0;unfold u9;grind
theorem aR0 {a b:Int} {t:Rat} (h:a=0) (k:b=0):u9 a b t=0:=by subst h;subst k;unfold u9;push_cast;grind
theorem aQP {a b:Int} (h:a<0) (k:0<b):u9 a b (val (-a,b-a))=0:=by
 have:=vd (p:=(-a,b-a)) (show (1:Int)<=b-a by omega);simp only at this
 push_cast at this
 unfold u9;grind
theorem aO3 {a b:Int} (h:0<a) (k:b<0):u9 a b (val (a,a-b))=0:=by
 have:=vd (p:=(a,a-b)) (show (1:Int)<=a-b by omega);simp only at this
 push_cast at this
 unfold u9;grind
def lA (b e l:I3):Int:=cQ l b*e.2.2
def lB (b e l:I3):Int:=cQ l e*b.2.2
def lF (b e l:I3) (t:Rat):Rat:=u9 (lA b e l) (lB b e l) t
structure OvG (b e own:I3) (ls:List I3) (lo hi:Fr) (h:Nat) (r:Fr×Fr×Nat):Prop where
 d1:1<=r.1.2
 d2:1<=r.2.1.2
 s:∀t,0<=t->t<=1->((val lo<=t/\t<=val hi/\∀l∈ls,0<=lF b e l t)↔(val r.1<=t/\t<=val r.2.1))
 lo:r.1=lo\/(val lo<val r.1/\∃l∈ls,lA b e l<0/\0<lB b e l/\lF b e l (val r.1)=0)
 hi:r.2.1=hi\/(val r.2.1<=val hi/\∃l∈ls,0<lA b e l/\lB b e l<0/\lF b e l (val r.2.1)=0)
 h:(r.2.2=h/\∀l∈ls,¬(lA b e l=0/\lB b e l=0))\/∃l∈ls,lA b e l=0/\lB b e l=0/\r.2.2=if l=own then 1 else 2
theorem kN {b e own:I3}:∀(ls:List I3) (lo hi:Fr) (h:Nat) (r:Fr×Fr×Nat),kA b e own ls lo hi h=some r->1<=lo.2->1<=hi.2->OvG b e own ls lo hi h r
 | [],lo,hi,h,r,e1,d1,d2=>by cases e1;exact ⟨d1,d2,λt _ _=>by simp,.inl rfl,.inl rfl,.inl ⟨rfl,by simp⟩⟩
 | l::ls,lo,hi,h,r,e1,d1,d2=>by
  unfold kA at e1;simp only [<-show lA b e l=cQ l b*e.2.2 from rfl,<-show lB b e l=cQ l e*b.2.2 from rfl] at e1;split at e1
  ·split at e1
   ·cases e1
   ·rename_i c1 c2;obtain ⟨o1,o2,o3,o4,o5,o6⟩:=kN ls _ _ _ r e1 d1 d2;have za:lA b e l=0:=by omega
    have zb:lB b e l=0:=by omega
    refine ⟨o1,o2,λt t0 t1=>?_,o4.imp id λ⟨q,m,hm,k⟩=>⟨q,m,by simp [hm],k⟩,o5.imp id λ⟨q,m,hm,k⟩=>⟨q,m,by simp [hm],k⟩,?_⟩
    ·rw [<-o3 t t0 t1];have:0<=lF b e l t:=by unfold lF;rw [aR0 za zb];grind
     simp [this]
    ·rcases o6 with ⟨k1,k2⟩ | ⟨m,hm,k⟩
     ·exact .inr ⟨l,by simp,za,zb,k1⟩
     ·exact .inr ⟨m,by simp [hm],k⟩
  ·split at e1
   ·rename_i c1 c2;have hb:0<lB b e l:=by omega
    have dn:1<=(-lA b e l,lB b e l-lA b e l).2:=by show 1<=lB b e l-lA b e l;omega
    obtain ⟨o1,o2,o3,o4,o5,o6⟩:=kN ls _ _ _ r e1 (aA6 d1 dn) d2;have f3:=λt=>aSL (t:=t) c2 hb;refine ⟨o1,o2,λt t0 t1=>?_,?_,o5.imp id λ⟨q,m,hm,k⟩=>⟨q,m,by simp [hm],k⟩,?_⟩
    ·rw [<-o3 t t0 t1,j5 d1 dn,<-f3 t];simp only [aB1,forall_eq_or_imp];unfold lF;grind
    ·rcases o4 with o4 | ⟨q,m,hm,k⟩
     ·rcases qA lo (-lA b e l,lB b e l-lA b e l) with q | q
      ·rw [q] at o4;exact .inl o4
      ·by_cases c:val lo<val (-lA b e l,lB b e l-lA b e l)
       ·rw [o4,q];exact .inr ⟨c,l,by simp,c2,hb,aQP c2 hb⟩
       ·have n:=mt (lM d1 dn).mp c;unfold cS at o4;rw [if_neg n] at o4;exact .inl o4
     ·have:=(j5 d1 dn (t:=val r.1)).mp (Rat.le_of_lt q);have w:val lo<=val (cS lo (-lA b e l,lB b e l-lA b e l)):=((j5 d1 dn).mp (Rat.le_refl)).1;exact .inr ⟨by grind,m,by simp [hm],k⟩
    ·rcases o6 with ⟨k1,k2⟩ | ⟨m,hm,k⟩
     ·refine .inl ⟨k1,λm hm=>?_⟩;rcases aB1.mp hm with rfl | hm
      ·omega
      ·exact k2 m hm
     ·exact .inr ⟨m,by simp [hm],k⟩
   ·split at e1
    ·rename_i c1 c2 c3;have ha:0<lA b e l:=by omega
     have dn:1<=(lA b e l,lA b e l-lB b e l).2:=by show 1<=lA b e l-lB b e l;omega
     obtain ⟨o1,o2,o3,o4,o5,o6⟩:=kN ls _ _ _ r e1 d1 (rV d2 dn);have f4:=λt=>aR1 (t:=t) ha c3;refine ⟨o1,o2,λt t0 t1=>?_,o4.imp id λ⟨q,m,hm,k⟩=>⟨q,m,by simp [hm],k⟩,?_,?_⟩
     ·rw [<-o3 t t0 t1,jC d2 dn,<-f4 t];simp only [aB1,forall_eq_or_imp];unfold lF;grind
     ·rcases o5 with o5 | ⟨q,m,hm,k⟩
      ·by_cases n:lG hi (lA b e l,lA b e l-lB b e l)<0
       ·unfold bI at o5;rw [if_pos n] at o5;exact .inl o5
       ·unfold bI at o5;rw [if_neg n] at o5;have n':=mt (lM d2 dn).mpr n;rw [o5];exact .inr ⟨by grind,l,by simp,ha,c3,aO3 ha c3⟩
      ·have w:val (bI hi (lA b e l,lA b e l-lB b e l))<=val hi:=((jC d2 dn).mp (Rat.le_refl)).1;exact .inr ⟨by grind,m,by simp [hm],k⟩
     ·rcases o6 with ⟨k1,k2⟩ | ⟨m,hm,k⟩
      ·refine .inl ⟨k1,λm hm=>?_⟩;rcases aB1.mp hm with rfl | hm
       ·omega
       ·exact k2 m hm
      ·exact .inr ⟨m,by simp [hm],k⟩
    ·rename_i c1 c2 c3;obtain ⟨o1,o2,o3,o4,o5,o6⟩:=kN ls _ _ _ r e1 d1 d2;refine ⟨o1,o2,λt t0 t1=>?_,o4.imp id λ⟨q,m,hm,k⟩=>⟨q,m,by simp [hm],k⟩,o5.imp id λ⟨q,m,hm,k⟩=>⟨q,m,by simp [hm],k⟩,?_⟩
     ·rw [<-o3 t t0 t1];have:0<=lF b e l t:=aSU (by omega) (by omega) t0 t1;simp [this]
     ·rcases o6 with ⟨k1,k2⟩ | ⟨m,hm,k⟩
      ·refine .inl ⟨k1,λm hm=>?_⟩;rcases aB1.mp hm with rfl | hm
       ·omega
       ·exact k2 m hm
      ·exact .inr ⟨m,by simp [hm],k⟩
theorem mR {b e own:I3}:∀(ls:List I3) (lo hi:Fr) (h:Nat),kA b e own ls lo hi h=none->∀t1 t2:Rat,0<=t1->t1<t2->t2<=1->(∀l∈ls,0<=lF b e l t1)->(∀l∈ls,0<=lF b e l t2)->False
 | [],lo,hi,h,e1=>by cases e1
 | l::ls,lo,hi,h,e1=>by
  intro t1 t2 k0 k k1 z1 z2;have r1:=λm hm=>z1 m (aJV l hm);have r2:=λm hm=>z2 m (aJV l hm);have y1:=z1 l (by simp);have y2:=z2 l (by simp);unfold kA at e1;simp only [<-show lA b e l=cQ l b*e.2.2 from rfl,<-show lB b e l=cQ l e*b.2.2 from rfl] at e1;split at e1
  ·rename_i c1;split at e1
   ·rename_i c2;exact aSJ c1.1 c1.2 c2 k0 k k1 y1 y2
   ·exact mR ls _ _ _ e1 t1 t2 k0 k k1 r1 r2
  ·split at e1
   ·exact mR ls _ _ _ e1 t1 t2 k0 k k1 r1 r2
   ·split at e1
    ·exact mR ls _ _ _ e1 t1 t2 k0 k k1 r1 r2
    ·exact mR ls _ _ _ e1 t1 t2 k0 k k1 r1 r2
end
end My
namespace My
open PySem L2 PyProof.Rows
section
variable {P:aVD} {w:aVH} {K:W.Frag} {mg:Str->Option Value} {base:Heap}
theorem qY {x:Rat} (h:x≠0):0<x*x:=by
 by_cases c:0<x
 ·exact Rat.mul_pos c c
 ·have:=Rat.mul_pos (a:=-x) (b:=-x) (by grind) (by grind);grind
theorem sq0 (x:Rat):0<=x*x:=by
 by_cases c:x=0
 ·rw [c];grind
 ·exact Rat.le_of_lt (qY c)
theorem aKN {A:Rat} (h:0<A):0<A.num:=by
 have h1:0<=A.num:=Rat.num_nonneg.mpr (Rat.le_of_lt h);have h2:A.num≠0:=λz=>by have:=Rat.num_eq_zero.mp z;grind
 omega
theorem aBE (A:Rat):A*(A.den:Rat)=(A.num:Rat):=by
 have e:=Rat.num_divInt_den A;rw [Rat.divInt_eq_div] at e;have n:((A.den:Int):Rat)≠0:=by have:=A.den_pos;exact_mod_cast (show A.den≠0 by omega)
 have n':(A.den:Rat)=((A.den:Int):Rat):=by push_cast;rfl
 rw [n'];grind
def vq (p:Pt):Q2:=(val p.1,val p.2)
structure jO (p:Pt):Prop where
 w:1<=(aF p).2.2
 x:((aF p).1:Rat)=val p.1*((aF p).2.2:Rat)
 y:((aF p).2.1:Rat)=val p.2*((aF p).2.2:Rat)
theorem spt {p:Pt} (hx:cH p.1) (hy:cH p.2):jO p:=by
 have dx:=hx.d;have dy:=hy.d;have g0:0<fX p.1.2 p.2.2:=aGS (by omega);have d1:fX p.1.2 p.2.2∣p.1.2:=aPM.mpr (aR8 _ _);have d2:fX p.1.2 p.2.2∣p.2.2:=aPM.mpr (aSS _ _);have e1:p.1.2.fdiv (fX p.1.2 p.2.2)=p.1.2/fX p.1.2 p.2.2:=qQ _ _;have e2:p.2.2.fdiv (fX p.1.2 p.2.2)=p.2.2/fX p.1.2 p.2.2:=qQ _ _;obtain ⟨a,ha⟩:=d1;obtain ⟨b,hb⟩:=d2;have f1:p.1.2.fdiv (fX p.1.2 p.2.2)=a:=by rw [e1];exact aUM (by omega) ha
 have f2:p.2.2.fdiv (fX p.1.2 p.2.2)=b:=by rw [e2];exact aUM (by omega) hb
 have es:aF p=(p.1.1*b,p.2.1*a,a*p.2.2):=by unfold aF;rw [f1,f2]
 have ap:0<a:=by
  rcases Int.lt_or_le 0 a with h | h
  ·exact h
  ·have:=aT3 (Int.le_of_lt g0) h;omega
 have c:a*p.2.2=p.1.2*b:=by
  have t1:a*p.2.2=a*(fX p.1.2 p.2.2*b):=by rw [<-hb]
  have t2:p.1.2*b=fX p.1.2 p.2.2*a*b:=by rw [<-ha]
  rw [t1,t2];grind
 have c':(a:Rat)*(p.2.2:Rat)=(p.1.2:Rat)*(b:Rat):=by exact_mod_cast c
 have v1:=aBQ hx;have v2:=aBQ hy;refine ⟨?_,?_,?_⟩
 ·rw [es];show 1<=a*p.2.2;have:=aUK ap (show 0<p.2.2 by omega);omega
 ·rw [es];show ((p.1.1*b:Int):Rat)=val p.1*((a*p.2.2:Int):Rat)
  push_cast
  rw [c'];grind
 ·rw [es];show ((p.2.1*a:Int):Rat)=val p.2*((a*p.2.2:Int):Rat)
  push_cast
  grind
theorem jO.p {p:Pt} (h:jO p):(0:Rat)<((aF p).2.2:Rat):=by have:=h.w;exact_mod_cast (show (0:Int)<(aF p).2.2 by omega)
def fN (c d:Pt):I3:=jU (aF c) (aF d)
theorem qD {c d x:Pt} (hc:jO c) (hd:jO d) (hx:jO x):((cQ (fN c d) (aF x):Int):Rat)=((aF c).2.2:Rat)*((aF d).2.2:Rat)*((aF x).2.2:Rat)*fE (vq c,vq d) (vq x):=by
 unfold cQ fN jU fE bV aW bH vq
 push_cast
 rw [hc.x,hc.y,hd.x,hd.y,hx.x,hx.y];grind
theorem oC {l:I3} (h:g3 l≠0):0<g3 l:=by
 have:0<=g3 l:=by unfold g3 fX;omega
 omega
theorem aGP (l:I3):g3 l∣l.1/\g3 l∣l.2.1/\g3 l∣l.2.2:=by
 have d1:fX l.1 l.2.1∣l.1:=aPM.mpr (aR8 _ _);have d2:fX l.1 l.2.1∣l.2.1:=aPM.mpr (aSS _ _);have d3:g3 l∣fX l.1 l.2.1:=aPM.mpr (aR8 _ _);have d4:g3 l∣l.2.2:=aPM.mpr (aSS _ _);exact ⟨Int.dvd_trans d3 d1,Int.dvd_trans d3 d2,d4⟩
theorem kH {l:I3} (h:g3 l≠0):l.1=g3 l*(dN l).1/\l.2.1=g3 l*(dN l).2.1/\l.2.2=g3 l*(dN l).2.2:=by
 obtain ⟨d1,d2,d3⟩:=aGP l;have k:∀i,g3 l∣i->i=g3 l*i.fdiv (g3 l):=λi di=>by
  have:i.fdiv (g3 l)=i/g3 l:=qQ _ _;rw [this];exact (Int.mul_ediv_cancel' di).symm
 exact ⟨k _ d1,k _ d2,k _ d3⟩
theorem x8 (n:Nat) (l:I3):g3 ((n:Int)*l.1,(n:Int)*l.2.1,(n:Int)*l.2.2)=(n:Int)*g3 l:=by
 unfold g3 fX;simp only [aRF,Int.natAbs_natCast,Nat.gcd_mul_left]
 push_cast;rfl
theorem aBL {l:I3} (h:g3 l≠0):g3 (dN l)=1:=by
 obtain ⟨e1,e2,e3⟩:=kH h;have p:=oC h;obtain ⟨n,hn⟩:∃n:Nat,g3 l=(n:Int):=⟨(g3 l).toNat,by omega⟩;have k:=x8 n (dN l);rw [<-hn,<-e1,<-e2,<-e3] at k;have k':g3 l*g3 (dN l)=g3 l*1:=by rw [Int.mul_one];exact k.symm
 exact aUR h k'
theorem aEY {l o:I3} {m n:Int} (hl:g3 l≠0) (ho:g3 o≠0) (hm:0<m) (hn:0<n) (e1:n*l.1=m*o.1) (e2:n*l.2.1=m*o.2.1) (e3:n*l.2.2=m*o.2.2):dN l=dN o:=by
 obtain ⟨a1,a2,a3⟩:=kH hl;obtain ⟨b1,b2,b3⟩:=kH ho;have pl:=oC hl;have po:=oC ho;have ol:=aBL hl;have oo:=aBL ho;generalize dN l=A at *;generalize dN o=B at *;rw [a1,b1,<-aTT,<-aTT] at e1;rw [a2,b2,<-aTT,<-aTT] at e2;rw [a3,b3,<-aTT,<-aTT] at e3;have p1:=aUK hn pl;have p2:=aUK hm po;generalize n*g3 l=α at *;generalize m*g3 o=β at *;obtain ⟨x,hx⟩:∃n:Nat,α=(n:Int):=⟨α.toNat,by omega⟩;obtain ⟨y,hy⟩:∃n:Nat,β=(n:Int):=⟨β.toNat,by omega⟩;have k1:=x8 x A;have k2:=x8 y B;rw [<-hx,ol,e1,e2,e3] at k1;rw [<-hy,oo,k1] at k2;have:α=β:=by omega
 subst this;have c:∀{u v:Int},α*u=α*v->u=v:=λh=>aUR (by omega) h;exact Prod.ext (c e1) (Prod.ext (c e2) (c e3))
theorem aFU {c d p q:Pt} (hc:jO c) (hd:jO d) (hp:jO p) (hq:jO q) (h:g3 (fN c d)≠0):∃k:Rat,0<k/\(lA (aF p) (aF q) (dN (fN c d)):Rat)=k*fE (vq c,vq d) (vq p)/\(lB (aF p) (aF q) (dN (fN c d)):Rat)=k*fE (vq c,vq d) (vq q):=by
 obtain ⟨e1,e2,e3⟩:=kH h;have gp:=oC h;have gp':(0:Rat)<(g3 (fN c d):Rat):=by exact_mod_cast gp
 have k:∀x:I3,cQ (fN c d) x=g3 (fN c d)*cQ (dN (fN c d)) x:=λx=>by unfold cQ;grind
 have ox:=qD hc hd hp;have oy:=qD hc hd hq;rw [k] at ox oy
 push_cast at ox oy
 have wc:=hc.p;have wd:=hd.p;have wp:=hp.p;have wq:=hq.p;have m1:=Rat.mul_pos (Rat.mul_pos wc wd) (Rat.mul_pos wp wq);refine ⟨((aF c).2.2:Rat)*((aF d).2.2:Rat)*(((aF p).2.2:Rat)*((aF q).2.2:Rat))/(g3 (fN c d):Rat),by rw [Rat.div_def];exact Rat.mul_pos m1 (Rat.inv_pos.mpr gp'),?_,?_⟩
 ·unfold lA;push_cast;grind
 ·unfold lB;push_cast;grind
theorem aJ3 {c d p q:Pt} (hc:jO c) (hd:jO d) (hp:jO p) (hq:jO q) (h:g3 (fN c d)≠0):∃k:Rat,0<k/\∀t,lF (aF p) (aF q) (dN (fN c d)) t=fE (vq c,vq d) (jR (vq p) (vq q) t)*k:=by
 obtain ⟨k,k0,h1,h2⟩:=aFU hc hd hp hq h;refine ⟨k,k0,λt=>?_⟩;rw [nA];unfold lF u9;rw [h1,h2];grind
theorem aHU {c d p q:Pt} (hc:jO c) (hd:jO d) (hp:jO p) (hq:jO q) (h:g3 (fN c d)≠0) (h':g3 (fN p q)≠0) (ne:0<bE (aW (vq c,vq d)) (aW (vq c,vq d))) (z1:fE (vq c,vq d) (vq p)=0) (z2:fE (vq c,vq d) (vq q)=0) :
  dN (fN c d)=dN (fN p q)↔0<bE (aW (vq c,vq d)) (bH (vq q) (vq p)):=by
 have comp:∀{c d:Pt},jO c->jO d->((fN c d).1:Rat) = -(((aF c).2.2:Rat)*((aF d).2.2:Rat)*(aW (vq c,vq d)).2)/\((fN c d).2.1:Rat)=((aF c).2.2:Rat)*((aF d).2.2:Rat)*(aW (vq c,vq d)).1/\((fN c d).2.2:Rat)=((aF c).2.2:Rat)*((aF d).2.2:Rat)*bV (vq c) (vq d):=λ{c d} hc hd=>by
  unfold fN jU aW bH bV vq
  push_cast
  rw [hc.x,hc.y,hd.x,hd.y];exact ⟨by grind,by grind,by grind⟩
 obtain ⟨a1,a2,a3⟩:=comp hc hd;obtain ⟨b1,b2,b3⟩:=comp hp hq;have wc:=hc.p;have wd:=hd.p;have wp:=hp.p;have wq:=hq.p;have m1:=Rat.mul_pos wc wd;have m2:=Rat.mul_pos wp wq;have vE:bH (vq q) (vq p)=aW (vq p,vq q):=rfl;rw [vE];constructor
 ·intro e;obtain ⟨l1,l2,_⟩:=kH h;obtain ⟨o1,o2,_⟩:=kH h';rw [<-e] at o1 o2;have g1:(0:Rat)<(g3 (fN c d):Rat):=by exact_mod_cast oC h
  have g2:(0:Rat)<(g3 (fN p q):Rat):=by exact_mod_cast oC h'
  have l1':((fN c d).1:Rat)=(g3 (fN c d):Rat)*((dN (fN c d)).1:Rat):=by exact_mod_cast l1
  have l2':((fN c d).2.1:Rat)=(g3 (fN c d):Rat)*((dN (fN c d)).2.1:Rat):=by exact_mod_cast l2
  have o1':((fN p q).1:Rat)=(g3 (fN p q):Rat)*((dN (fN c d)).1:Rat):=by exact_mod_cast o1
  have o2':((fN p q).2.1:Rat)=(g3 (fN p q):Rat)*((dN (fN c d)).2.1:Rat):=by exact_mod_cast o2
  generalize ((dN (fN c d)).1:Rat)=M at *;generalize ((dN (fN c d)).2.1:Rat)=N at *;generalize (g3 (fN c d):Rat)=g at *;generalize (g3 (fN p q):Rat)=g' at *;generalize ((aF c).2.2:Rat)*((aF d).2.2:Rat)=s at *;generalize ((aF p).2.2:Rat)*((aF q).2.2:Rat)=s' at *;generalize aW (vq c,vq d)=u at *;generalize aW (vq p,vq q)=v at *;have i1:bE u v*(s*s'*g)=bE u u*(s*s*g'):=by
   unfold bE;have x1:s*u.1*g'=s'*v.1*g:=by grind
   have x2:s*u.2*g'=s'*v.2*g:=by grind
   grind
  refine cT (Rat.mul_pos (Rat.mul_pos m1 m2) g1) ?_;rw [i1];exact Rat.mul_pos ne (Rat.mul_pos (Rat.mul_pos m1 m1) g2)
 ·intro dp
  -- the line is so many times the other
  have vne:0<bE (aW (vq p,vq q)) (aW (vq p,vq q)):=by
   unfold bE;have s1:=sq0 (aW (vq p,vq q)).1;have s2:=sq0 (aW (vq p,vq q)).2
   by_cases y1:(aW (vq p,vq q)).1=0
   ·by_cases y2:(aW (vq p,vq q)).2=0
    ·unfold bE at dp;rw [y1,y2] at dp;grind
    ·have:=qY y2;grind
   ·have:=qY y1;grind
  have cz:bV (aW (vq p,vq q)) (aW (vq c,vq d))=0:=by
   have:bV (aW (vq p,vq q)) (aW (vq c,vq d))=fE (vq c,vq d) (vq p)-fE (vq c,vq d) (vq q):=by unfold fE bV aW bH;grind
   rw [this,z1,z2];grind
  obtain ⟨p1,p2⟩:=par vne cz;have c3:bV (vq c) (vq d)*bE (aW (vq p,vq q)) (aW (vq p,vq q))=bE (aW (vq p,vq q)) (aW (vq c,vq d))*bV (vq p) (vq q):=by
   have t1:bV (vq c) (vq d)=bV (vq p) (aW (vq c,vq d)):=by
    have:bV (vq c) (vq d)-bV (vq p) (aW (vq c,vq d))=fE (vq c,vq d) (vq p):=by unfold fE bV aW bH;grind
    rw [z1] at this;grind
   have t2:bV (vq p) (vq q)=bV (vq p) (aW (vq p,vq q)):=by unfold bV aW bH;grind
   rw [t1,t2];unfold bV;grind
  have dp':0<bE (aW (vq p,vq q)) (aW (vq c,vq d)):=by unfold bE at dp ⊢;grind
  generalize hr:bE (aW (vq p,vq q)) (aW (vq c,vq d))=r at *;generalize hv:bE (aW (vq p,vq q)) (aW (vq p,vq q))=v at *
  -- n*L=m*O over numbers
  have key:∀(A B:Rat),0<A->0<B->∃m n:Int,0<m/\0<n/\(n:Rat)*A=(m:Rat)*B:=λA B hA hB=>by
   refine ⟨A.num*B.den,B.num*A.den,aUK (aKN hA) (by have:=B.den_pos;omega),aUK (aKN hB) (by have:=A.den_pos;omega),?_⟩;have eA:=aBE A;have eB:=aBE B
   push_cast
   rw [<-eA,<-eB];grind
  obtain ⟨m,n,m0,n0,e⟩:=key (r*(((aF c).2.2:Rat)*((aF d).2.2:Rat))) (v*(((aF p).2.2:Rat)*((aF q).2.2:Rat))) (Rat.mul_pos dp' m1) (Rat.mul_pos vne m2);have vn0:v≠0:=by grind
  have fin:∀{x y:Int},(n:Rat)*(x:Rat)*v=(m:Rat)*(y:Rat)*v->n*x=m*y:=λ{x y} h=>by
   have:(n:Rat)*(x:Rat)=(m:Rat)*(y:Rat):=by grind
   exact_mod_cast this
  refine aEY h h' m0 n0 (fin ?_) (fin ?_) (fin ?_)
  ·rw [a1,b1];grind
  ·rw [a2,b2];grind
  ·rw [a3,b3];grind
end
end My
namespace My
open PySem L2 PyProof.Rows
section
variable {P:aVD} {w:aVH} {K:W.Frag} {mg:Str->Option Value} {base:Heap}
def zr (o:List Pt):List (Pt×Pt):=o.zip (lQ o)
def jQ (o:List Pt):List Eg:=(zr o).map λx=>(vq x.1,vq x.2)
theorem wO {α β:Type} (f:α->β) (xs:List α):lQ (xs.map f)=(lQ xs).map f:=by unfold lQ;rw [aQ9,aU7,aUO]
theorem nH (o:List Pt):bY o=(zr o).map λx=>fN x.1 x.2:=by
 unfold bY zr;rw [wO,List.zip_map,aN1];rfl
theorem eO {o:List Pt} {x:Pt×Pt} (h:x∈zr o):x.1∈o/\x.2∈o:=by
 obtain ⟨m1,m2⟩:=aS4 (a:=x.1) (b:=x.2) h;refine ⟨m1,?_⟩;rcases aM3.mp m2 with m2 | m2
 ·exact aTR m2
 ·exact aS8 m2
structure GB (o:List Pt):Prop where
 sp:∀p∈o,jO p
 cx:Cx (jQ o)
 ne:o≠[]
theorem aDM {o:List Pt} (h:o≠[]):zr o≠[]:=by
 cases o with
 | nil=>exact absurd rfl h
 | cons p o=>cases o<;>simp [zr,lQ]
theorem GB.es {o:List Pt} (h:GB o):jQ o≠[]:=by
 have:=aDM h.ne;unfold jQ
 simpa using this
theorem aI2 {c d:Pt} (hc:jO c) (hd:jO d):((fN c d).1:Rat) = -(((aF c).2.2:Rat)*((aF d).2.2:Rat)*(aW (vq c,vq d)).2)/\((fN c d).2.1:Rat)=((aF c).2.2:Rat)*((aF d).2.2:Rat)*(aW (vq c,vq d)).1:=by
 unfold fN jU aW bH vq
 push_cast
 rw [hc.x,hc.y,hd.x,hd.y];exact ⟨by grind,by grind⟩
theorem qC {c d:Pt} (hc:jO c) (hd:jO d) (h:0<bE (aW (vq c,vq d)) (aW (vq c,vq d))):g3 (fN c d)≠0:=λz=>by
 obtain ⟨d1,d2,_⟩:=aGP (fN c d);rw [z] at d1 d2;have z1:=Int.zero_dvd.mp d1;have z2:=Int.zero_dvd.mp d2;obtain ⟨c1,c2⟩:=aI2 hc hd;rw [z1] at c1;rw [z2] at c2;have m:=Rat.mul_pos hc.p hd.p;have n0:((aF c).2.2:Rat)*((aF d).2.2:Rat)≠0:=by grind
 have e1:(aW (vq c,vq d)).2=0:=by
  have:((aF c).2.2:Rat)*((aF d).2.2:Rat)*(aW (vq c,vq d)).2=0:=by push_cast at c1;grind
  exact (Rat.mul_eq_zero.mp this).resolve_left n0
 have e2:(aW (vq c,vq d)).1=0:=by
  have:((aF c).2.2:Rat)*((aF d).2.2:Rat)*(aW (vq c,vq d)).1=0:=by push_cast at c2;grind
  exact (Rat.mul_eq_zero.mp this).resolve_left n0
 unfold bE at h;rw [e1,e2] at h;grind
theorem mX {ns:List Int} {x:Int} (h:x∈ns):x<=m8 ns:=by
 cases ns with
 | nil=>simp at h
 | cons n ns=>
  obtain ⟨_,h2,h3⟩:=L2.mI ns n;rcases aB1.mp h with rfl | h
  ·exact h2
  ·exact h3 x h
theorem kP {ns:List Int} {x:Int} (h:x∈ns):dX ns<=x:=by
 cases ns with
 | nil=>simp at h
 | cons n ns=>
  obtain ⟨_,h2,h3⟩:=L2.mL ns n;rcases aB1.mp h with rfl | h
  ·exact h2
  ·exact h3 x h
theorem aPN {N a w a' w':Int} {x y:Rat} (hN:0<N) (hw:1<=w) (hw':1<=w') (ha:(a:Rat)=x*(w:Rat)) (ha':(a':Rat)=y*(w':Rat)) (h:(a*N).fdiv w<(a'*N).fdiv w'):x<y:=by
 rw [aS5 _ (by omega),aS5 _ (by omega)] at h;have h1:a*N<(a*N/w+1)*w:=Int.lt_ediv_add_one_mul_self _ (by omega);have h2:a'*N/w'*w'<=a'*N:=Int.ediv_mul_le _ (by omega);generalize a*N/w=F at h h1;generalize a'*N/w'=G at h h2;have p1:(0:Rat)<(w:Rat):=by exact_mod_cast (show (0:Int)<w by omega)
 have p2:(0:Rat)<(w':Rat):=by exact_mod_cast (show (0:Int)<w' by omega)
 have q1:(a:Rat)*(N:Rat)<((F:Rat)+1)*(w:Rat):=by exact_mod_cast h1
 have q2:(G:Rat)*(w':Rat)<=(a':Rat)*(N:Rat):=by exact_mod_cast h2
 have q3:(F:Rat)+1<=(G:Rat):=by exact_mod_cast (show F+1<=G by omega)
 rw [ha] at q1;rw [ha'] at q2;have r1:0<((F:Rat)+1-x*(N:Rat))*(w:Rat):=by grind
 have r2:0<=(y*(N:Rat)-(G:Rat))*(w':Rat):=by grind
 have s1:=cT p1 r1;have s2:=cA p2 r2;have n0:(0:Rat)<(N:Rat):=by exact_mod_cast hN
 have:0<(y-x)*(N:Rat):=by grind
 have:=cT n0 this;grind
theorem aHP {a w a' w':Int} {x y:Rat} (hw:1<=w) (hw':1<=w') (ha:(a:Rat)=x*(w:Rat)) (ha':(a':Rat)=y*(w':Rat)) (h:(a*65536).fdiv w<(a'*65536).fdiv w'):x<y:=aPN (N:=65536) (by decide) hw hw' ha ha' h
theorem aDU {a b c t:Rat} (h:c<a) (k:c<b) (t0:0<=t) (t1:t<=1):c<a+(b-a)*t:=by
 rcases Rat.le_total (a:=a) (b:=b) with q | q
 ·have:=Rat.mul_nonneg (show 0<=b-a by grind) t0;grind
 ·have:=Rat.mul_nonneg (show 0<=a-b by grind) (show 0<=1-t by grind);grind
theorem aJ5 {a b c t:Rat} (h:a<c) (k:b<c) (t0:0<=t) (t1:t<=1):a+(b-a)*t<c:=by
 have:=aDU (a:=-a) (b:=-b) (c:=-c) (t:=t) (by grind) (by grind) t0 t1;grind
theorem aB5 {b:e9} (hb:GB b.o) {p q:Pt} (hp:jO p) (hq:jO q) (h:lU (cI b).b (jI p q).b=true) {t:Rat} (t0:0<=t) (t1:t<=1) (k:xR (jQ b.o) (jR (vq p) (vq q) t)):False:=by
 have box:=λw=>hb.cx.box hb.es w k;have cor:∀g∈jQ b.o,∃c∈b.o,g.1=vq c:=λg m=>by
  obtain ⟨x,mx,rfl⟩:=aDB.mp m;exact ⟨x.1,(eO mx).1,rfl⟩
 have bx:∀c∈b.o,(qW (b.o.map aF)).1<=((aF c).1*65536).fdiv (aF c).2.2/\((aF c).1*65536).fdiv (aF c).2.2<=(qW (b.o.map aF)).2.2.1/\(qW (b.o.map aF)).2.1<=((aF c).2.1*65536).fdiv (aF c).2.2/\((aF c).2.1*65536).fdiv (aF c).2.2<=(qW (b.o.map aF)).2.2.2:=λc m=>by
  have mx:((aF c).1*65536).fdiv (aF c).2.2∈xsP (b.o.map aF):=by unfold xsP;rw [aN1];exact aDB.mpr ⟨c,m,rfl⟩
  have my:((aF c).2.1*65536).fdiv (aF c).2.2∈ysP (b.o.map aF):=by unfold ysP;rw [aN1];exact aDB.mpr ⟨c,m,rfl⟩
  exact ⟨kP mx,mX mx,kP my,mX my⟩
 have sx:∀r,(r=p\/r=q)->((aF r).1*65536).fdiv (aF r).2.2∈xsP [aF p,aF q]:=λr hr=>by
  unfold xsP;rcases hr with rfl | rfl<;>simp
 have sy:∀r,(r=p\/r=q)->((aF r).2.1*65536).fdiv (aF r).2.2∈ysP [aF p,aF q]:=λr hr=>by
  unfold ysP;rcases hr with rfl | rfl<;>simp
 have spr:∀r,(r=p\/r=q)->jO r:=λr hr=>by rcases hr with rfl | rfl<;>assumption
 unfold lU at h;simp only [aUE,decide_eq_true_eq] at h;have h':(qW (b.o.map aF)).2.2.1<dX (xsP [aF p,aF q])\/m8 (xsP [aF p,aF q])<(qW (b.o.map aF)).1\/(qW (b.o.map aF)).2.2.2<dX (ysP [aF p,aF q])\/m8 (ysP [aF p,aF q])<(qW (b.o.map aF)).2.1:=by
  rcases h with ((h | h) | h) | h
  ·exact .inl h
  ·exact .inr (.inl h)
  ·exact .inr (.inr (.inl h))
  ·exact .inr (.inr (.inr h))
 rcases h' with h | h | h | h
 ·obtain ⟨g,mg,le⟩:=box (1,0);obtain ⟨c,mc,ec⟩:=cor g mg;rw [ec] at le;have hc:=hb.sp c mc;have lt:∀r,(r=p\/r=q)->val c.1<val r.1:=λr hr=>aHP hc.w (spr r hr).w hc.x (spr r hr).x (by have:=(bx c mc).2.1;have:=kP (sx r hr);omega);have:=aDU (lt p (.inl rfl)) (lt q (.inr rfl)) t0 t1;unfold bE jR vq at le;grind
 ·obtain ⟨g,mg,le⟩:=box (-1,0);obtain ⟨c,mc,ec⟩:=cor g mg;rw [ec] at le;have hc:=hb.sp c mc;have lt:∀r,(r=p\/r=q)->val r.1<val c.1:=λr hr=>aHP (spr r hr).w hc.w (spr r hr).x hc.x (by have:=(bx c mc).1;have:=mX (sx r hr);omega);have:=aJ5 (lt p (.inl rfl)) (lt q (.inr rfl)) t0 t1;unfold bE jR vq at le;grind
 ·obtain ⟨g,mg,le⟩:=box (0,1);obtain ⟨c,mc,ec⟩:=cor g mg;rw [ec] at le;have hc:=hb.sp c mc;have lt:∀r,(r=p\/r=q)->val c.2<val r.2:=λr hr=>aHP hc.w (spr r hr).w hc.y (spr r hr).y (by have:=(bx c mc).2.2.2;have:=kP (sy r hr);omega);have:=aDU (lt p (.inl rfl)) (lt q (.inr rfl)) t0 t1;unfold bE jR vq at le;grind
 ·obtain ⟨g,mg,le⟩:=box (0,-1);obtain ⟨c,mc,ec⟩:=cor g mg;rw [ec] at le;have hc:=hb.sp c mc;have lt:∀r,(r=p\/r=q)->val r.2<val c.2:=λr hr=>aHP (spr r hr).w hc.w (spr r hr).y hc.y (by have:=(bx c mc).2.2.1;have:=mX (sy r hr);omega);have:=aJ5 (lt p (.inl rfl)) (lt q (.inr rfl)) t0 t1;unfold bE jR vq at le;grind
structure Ov2 (es:List Eg) (p q:Q2) (r:Fr×Fr×Nat):Prop where
 d1:1<=r.1.2
 d2:1<=r.2.1.2
 lt:val r.1<val r.2.1
 l0:0<=val r.1
 h1:val r.2.1<=1
 s:∀t,0<=t->t<=1->(xR es (jR p q t)↔val r.1<=t/\t<=val r.2.1)
 lo:r.1=(0,1)\/(0<val r.1/\∃e∈es,fE e p<0/\0<fE e q/\fE e (jR p q (val r.1))=0)
 hi:r.2.1=(1,1)\/(val r.2.1<1/\∃e∈es,0<fE e p/\fE e q<0/\fE e (jR p q (val r.2.1))=0)
 h:(r.2.2=0/\∀e∈es,¬(fE e p=0/\fE e q=0))\/((∃e∈es,fE e p=0/\fE e q=0)/\(r.2.2=1\/r.2.2=2)/\∀e∈es,fE e p=0->fE e q=0->(r.2.2=1↔0<bE (aW e) (bH q p)))
theorem aFR (b:e9):(cI b).ls=(zr b.o).map λx=>dN (fN x.1 x.2):=by
 show (bY b.o).map dN=_;rw [nH,aN1];rfl
theorem aEX {b:e9} (hb:GB b.o) {p q:Pt} (hp:jO p) (hq:jO q) (t:Rat):(∀l∈(cI b).ls,0<=lF (aF p) (aF q) l t)↔xR (jQ b.o) (jR (vq p) (vq q) t):=by
 rw [aFR];unfold xR jQ;constructor
 ·intro h e m;obtain ⟨x,mx,rfl⟩:=aDB.mp m;obtain ⟨m1,m2⟩:=eO mx;obtain ⟨k,k0,hk⟩:=aJ3 (hb.sp _ m1) (hb.sp _ m2) hp hq (qC (hb.sp _ m1) (hb.sp _ m2) (hb.cx.ne _ (aDB.mpr ⟨x,mx,rfl⟩)));have:=h _ (aDB.mpr ⟨x,mx,rfl⟩);rw [hk] at this;exact cA k0 this
 ·intro h l m;obtain ⟨x,mx,rfl⟩:=aDB.mp m;obtain ⟨m1,m2⟩:=eO mx;obtain ⟨k,k0,hk⟩:=aJ3 (hb.sp _ m1) (hb.sp _ m2) hp hq (qC (hb.sp _ m1) (hb.sp _ m2) (hb.cx.ne _ (aDB.mpr ⟨x,mx,rfl⟩)));rw [hk];exact Rat.mul_nonneg (h _ (aDB.mpr ⟨x,mx,rfl⟩)) (Rat.le_of_lt k0)
theorem aCE {b:e9} (hb:GB b.o) {p q:Pt} (hp:jO p) (hq:jO q) (h:bS (cI b) (jI p q)=none) {t1 t2:Rat} (k0:0<=t1) (k:t1<t2) (k1:t2<=1) (i1:xR (jQ b.o) (jR (vq p) (vq q) t1)) (i2:xR (jQ b.o) (jR (vq p) (vq q) t2)):False:=by
 unfold bS at h;split at h
 ·rename_i c;exact aB5 hb hp hq c k0 (by grind) i1
 ·have j1:=(aEX hb hp hq t1).mpr i1;have j2:=(aEX hb hp hq t2).mpr i2;cases g:kA (jI p q).p (jI p q).q (jI p q).l (cI b).ls (0,1) (1,1) 0 with
  | none=>exact mR _ _ _ _ g t1 t2 k0 k k1 j1 j2
  | some r=>
   rw [g] at h;have o:=kN _ _ _ _ r g (by decide) (by decide);unfold sL at h;simp only at h;split at h
   ·cases h
   ·rename_i c;have c':=mt (lM o.d1 o.d2).mpr c;have a1:=(o.s t1 k0 (by grind)).mp ⟨by rw [qX];exact k0,by rw [m4];grind,j1⟩;have a2:=(o.s t2 (by grind) k1).mp ⟨by rw [qX];grind,by rw [m4];exact k1,j2⟩;grind
theorem kR {b:e9} (hb:GB b.o) {p q:Pt} (hp:jO p) (hq:jO q) (ne:0<bE (bH (vq q) (vq p)) (bH (vq q) (vq p))) {r:Fr×Fr×Nat} (h:bS (cI b) (jI p q)=some r):Ov2 (jQ b.o) (vq p) (vq q) r:=by
 unfold bS at h;split at h
 ·cases h
 cases g:kA (jI p q).p (jI p q).q (jI p q).l (cI b).ls (0,1) (1,1) 0 with
 | none=>rw [g] at h;cases h
 | some r'=>
  rw [g] at h;have o:=kN _ _ _ _ r' g (by decide) (by decide);unfold sL at h;simp only at h;split at h
  ·rename_i c;cases h;have lt:=(lM o.d1 o.d2).mp c;have hpq:g3 (fN p q)≠0:=qC hp hq ne
   -- a line and its edge
   have edge:∀l∈(cI b).ls,∃x∈zr b.o,l=dN (fN x.1 x.2)/\(vq x.1,vq x.2)∈jQ b.o/\jO x.1/\jO x.2/\g3 (fN x.1 x.2)≠0/\∃k:Rat,0<k/\(lA (aF p) (aF q) l:Rat)=k*fE (vq x.1,vq x.2) (vq p)/\(lB (aF p) (aF q) l:Rat)=k*fE (vq x.1,vq x.2) (vq q):=λl m=>by
    rw [aFR] at m;obtain ⟨x,mx,rfl⟩:=aDB.mp m;obtain ⟨m1,m2⟩:=eO mx;have me:(vq x.1,vq x.2)∈jQ b.o:=aDB.mpr ⟨x,mx,rfl⟩;have gn:=qC (hb.sp _ m1) (hb.sp _ m2) (hb.cx.ne _ me);exact ⟨x,mx,rfl,me,hb.sp _ m1,hb.sp _ m2,gn,aFU (hb.sp _ m1) (hb.sp _ m2) hp hq gn⟩
   have l0:0<=val r.1:=by
    rcases o.lo with e | ⟨e,_⟩
    ·rw [e,qX];grind
    ·rw [qX] at e;grind
   have h1:val r.2.1<=1:=by
    rcases o.hi with e | ⟨e,_⟩
    ·rw [e,m4];grind
    ·rw [m4] at e;grind
   have sgn:∀{k f:Rat} {i:Int},0<k->(i:Rat)=k*f->(i<0↔f<0)/\(0<i↔0<f)/\(i=0↔f=0):=λ{k f i} k0 e=>by
    have p1:=uN (a:=f) k0;have p2:=uN (a:=-f) k0;have i1:(0:Rat)<(i:Rat)↔0<i:=by norm_cast
    have i2:(i:Rat)<0↔i<0:=by norm_cast
    have c1:0<i↔0<f:=by rw [<-i1,e];grind
    have c2:i<0↔f<0:=by rw [<-i2,e];grind
    refine ⟨c2,c1,?_⟩;constructor
    ·intro z;have:=mt c1.mpr (by omega);have:=mt c2.mpr (by omega);grind
    ·intro z;have:=mt c1.mp (by grind);have:=mt c2.mp (by grind);omega
   have zro:∀{k:Rat} {x:Pt×Pt} {l:I3} {t:Rat},0<k->(lA (aF p) (aF q) l:Rat)=k*fE (vq x.1,vq x.2) (vq p)->(lB (aF p) (aF q) l:Rat)=k*fE (vq x.1,vq x.2) (vq q)->lF (aF p) (aF q) l t=0->fE (vq x.1,vq x.2) (jR (vq p) (vq q) t)=0:=λ{k x l t} k0 a1 a2 z=>by
    unfold lF u9 at z;rw [a1,a2] at z;rw [nA];have:k*(fE (vq x.1,vq x.2) (vq p)+(fE (vq x.1,vq x.2) (vq q)-fE (vq x.1,vq x.2) (vq p))*t)=0:=by grind
    exact (Rat.mul_eq_zero.mp this).resolve_left (by grind)
   refine ⟨o.d1,o.d2,lt,l0,h1,λt t0 t1=>?_,?_,?_,?_⟩
   ·rw [<-aEX hb hp hq t,<-o.s t t0 t1,qX,m4];exact ⟨λz=>⟨t0,t1,z⟩,λz=>z.2.2⟩
   ·rcases o.lo with e | ⟨e,l,ml,z1,z2,z3⟩
    ·exact .inl e
    ·rw [qX] at e;obtain ⟨x,_,_,me,_,_,_,k,k0,a1,a2⟩:=edge l ml;exact .inr ⟨e,_,me,(sgn k0 a1).1.mp z1,(sgn k0 a2).2.1.mp z2,zro k0 a1 a2 z3⟩
   ·rcases o.hi with e | ⟨e,l,ml,z1,z2,z3⟩
    ·exact .inl e
    ·rw [m4] at e;obtain ⟨x,_,_,me,_,_,_,k,k0,a1,a2⟩:=edge l ml;have s1:=(sgn k0 a1).2.1.mp z1;have s2:=(sgn k0 a2).1.mp z2;have s3:=zro k0 a1 a2 z3;refine .inr ⟨?_,_,me,s1,s2,s3⟩;rw [nA] at s3
     by_cases c:val r.2.1=1
     ·rw [c] at s3;grind
     ·grind
   ·rcases o.h with ⟨e,hz⟩ | ⟨l,ml,z1,z2,e⟩
    ·refine .inl ⟨e,λg mg zz=>?_⟩;obtain ⟨x,mx,rfl⟩:=aDB.mp mg;have ml:dN (fN x.1 x.2)∈(cI b).ls:=by rw [aFR];exact aDB.mpr ⟨x,mx,rfl⟩
     obtain ⟨m1,m2⟩:=eO mx;obtain ⟨k,k0,a1,a2⟩:=aFU (hb.sp _ m1) (hb.sp _ m2) hp hq (qC (hb.sp _ m1) (hb.sp _ m2) (hb.cx.ne _ mg));exact hz _ ml ⟨(sgn k0 a1).2.2.mpr zz.1,(sgn k0 a2).2.2.mpr zz.2⟩
    ·obtain ⟨x,mx,el,me,sc,sd,gn,k,k0,a1,a2⟩:=edge l ml;have f1:=(sgn k0 a1).2.2.mp z1;have f2:=(sgn k0 a2).2.2.mp z2;have le:=aHU sc sd hp hq gn hpq (hb.cx.ne _ me) f1 f2;rw [el] at e;have e':r.2.2=if dN (fN x.1 x.2)=dN (fN p q) then 1 else 2:=e;refine .inr ⟨⟨_,me,f1,f2⟩,by rw [e'];split<;>simp,λg mg g1 g2=>?_⟩;have or1:=hb.cx.orient me mg f1 f2 g1 g2 ne;have or2:=hb.cx.orient mg me g1 g2 f1 f2 ne;rw [e']
     split
     ·rename_i c;exact ⟨λ_=>or1 (le.mp c),λ_=>rfl⟩
     ·rename_i c;exact ⟨λz=>absurd z (by decide),λz=>absurd (le.mpr (or2 z)) c⟩
  ·cases h
end
end My
namespace My
open PySem L2 PyProof.Rows
section
variable {P:aVD} {w:aVH} {K:W.Frag} {mg:Str->Option Value} {base:Heap}
def NmL (fs:List Fr):Prop:=∀f∈fs,cH f
structure NP (p:Pt):Prop where
 x:cH p.1
 y:cH p.2
theorem NP.spt {p:Pt} (h:NP p):jO p:=My.spt h.x h.y
def sR (f s:Fr):Bool:=decide ((bK f s).1<0)
theorem aK7 {f s:Fr} (hf:cH f) (hs:cH s):sR f s=true↔val f<val s:=by
 unfold sR;rw [decide_eq_true_eq,<-uJ (cU hf hs),gP hf hs];grind
def jW (found:List Fr) (s:Fr):List Fr:=if s∈found then found else found.take (found.filter (sR · s)).length++s::found.drop (found.filter (sR · s)).length
def tZ (s:Fr):List Fr->List Fr
 | []=>[s]
 | x::xs=>if val x<val s then x::tZ s xs else s::x::xs
def Srt (xs:List Fr):Prop:=xs.Pairwise λa b=>val a<val b
theorem uQ {s:Fr} (hs:cH s):∀{xs:List Fr},NmL xs->Srt xs->xs.take (xs.filter (sR · s)).length++s::xs.drop (xs.filter (sR · s)).length=tZ s xs
 | [],_,_=>rfl
 | x::xs,hn,hp=>by
  have hx:=hn x (by simp);have hn':NmL xs:=λf m=>hn f (by simp [m]);obtain ⟨p1,p2⟩:=aSR.mp hp
  by_cases c:val x<val s
  ·have e:(x::xs).filter (sR · s)=x::xs.filter (sR · s):=aT2 ((aK7 hx hs).mpr c);rw [e,aKX,List.take_succ_cons,List.drop_succ_cons,List.cons_append,uQ hs hn' p2,tZ,if_pos c]
  ·have e:(x::xs).filter (sR · s)=[]:=by
    rw [List.filter_eq_nil_iff];intro y m z;rcases aB1.mp m with rfl | m
    ·exact c ((aK7 hx hs).mp z)
    ·have:=(aK7 (hn' y m) hs).mp z;have:=p1 y m;grind
   rw [e,tZ,if_neg c];rfl
theorem mG {s y:Fr}:∀{xs:List Fr},y∈tZ s xs↔y=s\/y∈xs
 | []=>by simp [tZ]
 | x::xs=>by
  unfold tZ
  split
  ·rw [aB1,mG,aB1];grind
  ·simp [aB1]
theorem vO {s:Fr}:∀{xs:List Fr},Srt xs->(∀x∈xs,val x≠val s)->Srt (tZ s xs)
 | [],_,_=>List.pairwise_singleton _ _
 | x::xs,h,hn=>by
  obtain ⟨p1,p2⟩:=aSR.mp h;unfold tZ
  split
  ·rename_i c;refine aSR.mpr ⟨λy m=>?_,vO p2 λy m=>hn y (by simp [m])⟩;rcases mG.mp m with rfl | m
   ·exact c
   ·exact p1 y m
  ·rename_i c;have:=hn x (by simp);refine aSR.mpr ⟨λy m=>?_,h⟩;rcases aB1.mp m with rfl | m
   ·grind
   ·have:=p1 y m;grind
theorem pV {s:Fr} {xs:List Fr} (hs:cH s) (hn:NmL xs) (h:Srt xs):NmL (jW xs s)/\Srt (jW xs s)/\(∀y,y∈jW xs s↔y=s\/y∈xs)/\(jW xs s).length<=xs.length+1:=by
 unfold jW
 split
 ·rename_i m;exact ⟨hn,h,λy=>⟨.inr,λk=>k.elim (λe=>by rw [e];exact m) id⟩,by omega⟩
 ·rename_i m;refine ⟨?_,?_,?_,?_⟩
  ·rw [uQ hs hn h];intro y k;rcases mG.mp k with rfl | k
   ·exact hs
   ·exact hn y k
  ·rw [uQ hs hn h];exact vO h λx mx e=>m (by rw [<-iJ (hn x mx) hs e];exact mx)
  ·rw [uQ hs hn h];exact λy=>mG
  ·simp only [aIG,aKX,aMI,aTO];omega
def mO (s:Fr):Bool:=decide (0<s.1)&&decide ((bK s (1,1)).1<0)
def t6 (shares:List Fr):List Fr:=((0,1)::(1,1)::shares.filter mO).foldl jW []
theorem xA:∀(ss xs:List Fr),NmL ss->NmL xs->Srt xs->NmL (ss.foldl jW xs)/\Srt (ss.foldl jW xs)/\(∀y,y∈ss.foldl jW xs↔y∈ss\/y∈xs)/\(ss.foldl jW xs).length<=xs.length+ss.length
 | [],xs,_,hn,h=>⟨hn,h,λy=>by simp,by simp⟩
 | s::ss,xs,hs,hn,h=>by
  obtain ⟨a,b,c,d⟩:=pV (hs s (by simp)) hn h;obtain ⟨a',b',c',d'⟩:=xA ss (jW xs s) (λf m=>hs f (by simp [m])) a b;refine ⟨a',b',λy=>?_,by rw [aTV,aKX];omega⟩;rw [aTV,c',c,aB1];grind
theorem aJ4 {s:Fr} (h:cH s):mO s=true↔0<val s/\val s<1:=by
 unfold mO;rw [aLI,decide_eq_true_eq,decide_eq_true_eq,<-tN h,<-uJ (cU h (b8 1)),gP h (b8 1),m4];grind
structure aON (shares C:List Fr):Prop where
 n:NmL C
 s:Srt C
 z:(0,1)∈C
 o:(1,1)∈C
 b:∀c∈C,0<=val c/\val c<=1
 m:∀c∈shares,0<val c->val c<1->c∈C
 k:∀c∈C,c=(0,1)\/c=(1,1)\/c∈shares
 l:C.length<=shares.length+2
theorem rA {shares:List Fr} (h:NmL shares):aON shares (t6 shares):=by
 have hn:NmL ((0,1)::(1,1)::shares.filter mO):=λf m=>by
  rcases aB1.mp m with rfl | m
  ·exact b8 0
  ·rcases aB1.mp m with rfl | m
   ·exact b8 1
   ·exact h f (aTE.mp m).1
 obtain ⟨a,b,c,d⟩:=xA _ [] hn (λf m=>absurd m (by simp)) List.Pairwise.nil;have mem:∀y,y∈t6 shares↔y=(0,1)\/y=(1,1)\/(y∈shares/\mO y=true):=λy=>by
  unfold t6;rw [c];simp [aTE]
 refine ⟨a,b,(mem _).mpr (.inl rfl),(mem _).mpr (.inr (.inl rfl)),λy m=>?_,λy m k1 k2=>?_,λy m=>?_,?_⟩
 ·rcases (mem y).mp m with rfl | rfl | ⟨m,k⟩
  ·rw [qX];exact ⟨by grind,by grind⟩
  ·rw [m4];exact ⟨by grind,by grind⟩
  ·have:=(aJ4 (h y m)).mp k;exact ⟨by grind,by grind⟩
 ·exact (mem y).mpr (.inr (.inr ⟨m,(aJ4 (h y m)).mpr ⟨k1,k2⟩⟩))
 ·rcases (mem y).mp m with e | e | ⟨m,k⟩
  ·exact .inl e
  ·exact .inr (.inl e)
  ·exact .inr (.inr m)
 ·have:=aT6 mO shares;unfold t6;simp only [aKX,aTG] at d;omega
theorem mN:∀{C:List Fr} {c d:Fr},Srt C->(c,d)∈C.zip C.tail->val c<val d/\c∈C/\d∈C/\∀x∈C,val x<=val c\/val d<=val x
 | [],c,d,_,m=>by simp at m
 | [x],c,d,_,m=>by simp at m
 | x::y::r,c,d,h,m=>by
  obtain ⟨p1,p2⟩:=aSR.mp h;obtain ⟨q1,q2⟩:=aSR.mp p2;rcases aB1.mp (show (c,d)∈(x,y)::(y::r).zip (y::r).tail from m) with e | m
  ·cases e;refine ⟨p1 y (by simp),by simp,by simp,λz hz=>?_⟩;rcases aB1.mp hz with rfl | hz
   ·exact .inl (by grind)
   ·rcases aB1.mp hz with rfl | hz
    ·exact .inr (by grind)
    ·have:=q1 z hz;exact .inr (by grind)
  ·obtain ⟨a,b1,b2,k⟩:=mN p2 m;refine ⟨a,by simp [b1],by simp [b2],λz hz=>?_⟩;rcases aB1.mp hz with rfl | hz
   ·have:=p1 c b1;exact .inl (by grind)
   ·exact k z hz
theorem vM:∀{C:List Fr} {c y:Fr},Srt C->c∈C->y∈C->val c<val y->∃d,(c,d)∈C.zip C.tail
 | [],c,y,_,m,_,_=>by simp at m
 | [x],c,y,_,m,m',k=>by
  rw [aPD] at m m';rw [m,m'] at k;grind
 | x::z::r,c,y,h,m,m',k=>by
  obtain ⟨p1,p2⟩:=aSR.mp h;rcases aB1.mp m with rfl | m2
  ·exact ⟨z,by simp⟩
  ·have my:y∈z::r:=by
    rcases aB1.mp m' with e | m3
    ·have:=p1 c m2;rw [e] at k;grind
    ·exact m3
   obtain ⟨d,hd⟩:=vM p2 m2 my k;exact ⟨d,aJV _ hd⟩
end
end My
namespace My
open PySem L2 PyProof.Rows
section
variable {P:aVD} {w:aVH} {K:W.Frag} {mg:Str->Option Value} {base:Heap}
def dA (p q:Pt):Pt:=(bK p.1 q.1,bK p.2 q.2)
def iQ (u v:Pt):Fr:=d5 u.1 u.2 v.1 v.2
def pH (u v:Pt):Fr:=oR u.1 u.2 v.1 v.2
def ovF (x y:Fr):Fr:=fS x (low y.2 y.1)
theorem cK {p q:Pt} (h:NP p) (k:NP q):NP (dA p q):=⟨cU h.x k.x,cU h.y k.y⟩
theorem bZ {p q:Pt} (h:NP p) (k:NP q):vq (dA p q)=bH (vq p) (vq q):=by
 unfold vq dA bH;rw [gP h.x k.x,gP h.y k.y]
theorem eQ {u v:Pt} (h:NP u) (k:NP v):cH (iQ u v):=cU (bC h.x k.y) (bC h.y k.x)
theorem kB {u v:Pt} (h:NP u) (k:NP v):cH (pH u v):=eD (bC h.x k.x) (bC h.y k.y)
theorem rB {u v:Pt} (h:NP u) (k:NP v):val (iQ u v)=bV (vq u) (vq v):=by
 unfold iQ d5 bV vq;rw [gP (bC h.x k.y) (bC h.y k.x),gF h.x k.y,gF h.y k.x]
theorem tY {u v:Pt} (h:NP u) (k:NP v):val (pH u v)=bE (vq u) (vq v):=by
 unfold pH oR bE vq;rw [jK (bC h.x k.x) (bC h.y k.y),gF h.x k.x,gF h.y k.y]
theorem oD {p:Fr} (h:cH p):p.1=0↔val p=0:=by
 have a:=uJ h;have b:=tN h;constructor
 ·intro z;have:=mt a.mp (by omega);have:=mt b.mp (by omega);grind
 ·intro z;have:=mt a.mpr (by grind);have:=mt b.mpr (by grind);omega
theorem sA {x y:Fr} (h:cH x) (z:y.1≠0):cH (ovF x y):=bC h (gU z)
theorem aHO {x y:Fr} (h:cH x) (k:cH y) (z:y.1≠0):val (ovF x y)*val y=val x:=by
 unfold ovF;rw [gF h (gU z),kS z];have d:=k.neR;have n:(y.1:Rat)≠0:=by exact_mod_cast z
 unfold val;grind
def hV (a b c d:Pt):List Fr:=
 if (iQ (dA b a) (dA d c)).1≠0 then
  if 0<=(ovF (iQ (dA c a) (dA b a)) (iQ (dA b a) (dA d c))).1/\(bK (ovF (iQ (dA c a) (dA b a)) (iQ (dA b a) (dA d c))) (1,1)).1<=0 then [ovF (iQ (dA c a) (dA d c)) (iQ (dA b a) (dA d c))] else []
 else if (iQ (dA b a) (dA c a)).1≠0 then []
 else [ovF (pH (dA b a) (dA c a)) (pH (dA b a) (dA b a)),ovF (pH (dA b a) (dA d a)) (pH (dA b a) (dA b a))]
theorem oZ {a b c d:Pt} (ha:NP a) (hb:NP b) (hc:NP c) (hd:NP d) (ne:0<bE (bH (vq b) (vq a)) (bH (vq b) (vq a))):NmL (hV a b c d):=by
 have n1:=cK hb ha;have n2:=cK hd hc;have n3:=cK hc ha;have n4:=cK hd ha;intro f m;unfold hV at m;split at m
 ·rename_i z;split at m
  ·rw [aPD] at m;rw [m];exact sA (eQ n3 n2) z
  ·simp at m
 ·split at m
  ·simp at m
  ·have z:(pH (dA b a) (dA b a)).1≠0:=λz=>by
    have:=(oD (kB n1 n1)).mp z;rw [tY n1 n1,bZ hb ha] at this;grind
   rcases aB1.mp m with rfl | m
   ·exact sA (kB n1 n3) z
   ·rw [aPD] at m;rw [m];exact sA (kB n1 n4) z
theorem uW (a b c d:Pt):(hV a b c d).length<=2:=by
 unfold hV
 split
 ·split<;>simp
 ·split<;>simp
theorem aNU {a b c d:Pt} (ha:NP a) (hb:NP b) (hc:NP c) (hd:NP d) {t:Rat} (o:OnE (vq c,vq d) (jR (vq a) (vq b) t)) (ne:0<bE (aW (vq c,vq d)) (aW (vq c,vq d))) (nz:fE (vq c,vq d) (vq a)≠fE (vq c,vq d) (vq b)):∃s∈hV a b c d,val s=t:=by
 have n1:=cK hb ha;have n2:=cK hd hc;have n3:=cK hc ha;have B:=rB n1 n2;rw [bZ hb ha,bZ hd hc] at B;have S:=rB n3 n2;rw [bZ hc ha,bZ hd hc] at S;have R:=rB n3 n1;rw [bZ hc ha,bZ hb ha] at R;have bz:(iQ (dA b a) (dA d c)).1≠0:=λz=>by
  have:=(oD (eQ n1 n2)).mp z;rw [B] at this;apply nz;have e:bV (bH (vq b) (vq a)) (bH (vq d) (vq c))=fE (vq c,vq d) (vq a)-fE (vq c,vq d) (vq b):=by unfold fE bV aW bH;grind
  rw [e] at this;grind
 have bz':bV (bH (vq b) (vq a)) (bH (vq d) (vq c))≠0:=λz=>bz ((oD (eQ n1 n2)).mpr (by rw [B];exact z));have vS:=aHO (eQ n3 n2) (eQ n1 n2) bz;have vR:=aHO (eQ n3 n1) (eQ n1 n2) bz;rw [B,S] at vS;rw [B,R] at vR;have nS:=sA (eQ n3 n2) bz;have nR:=sA (eQ n3 n1) bz;unfold hV;rw [if_pos bz];generalize ovF (iQ (dA c a) (dA d c)) (iQ (dA b a) (dA d c))=s at *;generalize ovF (iQ (dA c a) (dA b a)) (iQ (dA b a) (dA d c))=r at *;have oz:=o.z;have oa:=o.a;have ob:=o.b
 -- the share
 have es:val s=t:=by
  have e1:bV (bH (vq c) (vq a)) (bH (vq d) (vq c))=t*bV (bH (vq b) (vq a)) (bH (vq d) (vq c)):=by
   have:fE (vq c,vq d) (jR (vq a) (vq b) t)=bV (bH (vq c) (vq a)) (bH (vq d) (vq c))-t*bV (bH (vq b) (vq a)) (bH (vq d) (vq c)):=by unfold fE bV aW bH jR;grind
   rw [oz] at this;grind
  rw [e1] at vS;have:(val s-t)*bV (bH (vq b) (vq a)) (bH (vq d) (vq c))=0:=by grind
  have:=(Rat.mul_eq_zero.mp this).resolve_right bz';grind
 -- how far along the edge
 have er:val r*bE (aW (vq c,vq d)) (aW (vq c,vq d))=bE (aW (vq c,vq d)) (bH (jR (vq a) (vq b) t) (vq c)):=by
  obtain ⟨q1,q2⟩:=par ne (show bV (aW (vq c,vq d)) (bH (jR (vq a) (vq b) t) (vq c))=0 from oz);generalize hW:bE (aW (vq c,vq d)) (aW (vq c,vq d))=W at *;generalize hD:bE (aW (vq c,vq d)) (bH (jR (vq a) (vq b) t) (vq c))=D at *;have x1:((vq a).1+((vq b).1-(vq a).1)*t-(vq c).1)*W=D*((vq d).1-(vq c).1):=q1;have x2:((vq a).2+((vq b).2-(vq a).2)*t-(vq c).2)*W=D*((vq d).2-(vq c).2):=q2;have e2:bV (bH (vq c) (vq a)) (bH (vq b) (vq a))*W=D*bV (bH (vq b) (vq a)) (bH (vq d) (vq c)):=by
   unfold bV bH;simp only;grind
  have:(val r*W-D)*bV (bH (vq b) (vq a)) (bH (vq d) (vq c))=0:=by grind
  have:=(Rat.mul_eq_zero.mp this).resolve_right bz';grind
 have r0:0<=val r:=by
  refine cA ne ?_;rw [er];exact oa
 have r1:val r<=1:=by
  have:0<=(1-val r)*bE (aW (vq c,vq d)) (aW (vq c,vq d)):=by
   have:(1-val r)*bE (aW (vq c,vq d)) (aW (vq c,vq d))=bE (aW (vq c,vq d)) (bH (vq d) (jR (vq a) (vq b) t)):=by
    have:bE (aW (vq c,vq d)) (bH (vq d) (jR (vq a) (vq b) t))=bE (aW (vq c,vq d)) (aW (vq c,vq d))-bE (aW (vq c,vq d)) (bH (jR (vq a) (vq b) t) (vq c)):=by unfold bE aW bH;grind
    rw [this,<-er];grind
   rw [this];exact ob
  have:=cA ne this;grind
 rw [if_pos ⟨(h9 nR).mp r0,(aE4 (cU nR (b8 1))).mp (by rw [gP nR (b8 1),m4];grind)⟩];exact ⟨s,by simp,es⟩
def o00:Pt:=((0,1),(0,1))
def ej (o:List Pt):List (Pt×Pt):=(aS1 o.length).map λj=>(o.getD ((j+o.length-1)%o.length) o00,o.getD j o00)
theorem aNG {o:List Pt} {x:Pt×Pt} (h:x∈zr o):∃k,k<o.length/\o[k]? = some x.1/\o[(k+1)%o.length]? = some x.2:=by
 obtain ⟨k,hk⟩:=aRE h;unfold zr at hk;rw [aUS] at hk;obtain ⟨h1,h2⟩:=hk;have hl:k<o.length:=(aA7.mp h1).1;refine ⟨k,hl,h1,?_⟩;unfold lQ at h2
 by_cases c:k+1<o.length
 ·rw [aRD c];rw [aG6 (by rw [aSI];omega),List.getElem?_tail] at h2;exact h2
 ·have e:k+1=o.length:=by omega
  rw [e,aUW];rw [aLZ (by rw [aSI];omega),aSI,show k-(o.length-1)=0 by omega] at h2;cases o with
  | nil=>simp at hl
  | cons p o=>simpa using h2
theorem aOE {o:List Pt} {x:Pt×Pt} (h:x∈zr o):x∈ej o:=by
 obtain ⟨k,hl,h1,h2⟩:=aNG h;refine aDB.mpr ⟨(k+1)%o.length,aQ7.mpr (aTQ _ (by omega)),?_⟩;have e:((k+1)%o.length+o.length-1)%o.length=k:=by
  by_cases c:k+1<o.length
  ·rw [aRD c,show k+1+o.length-1=k+o.length by omega,aUQ,aRD hl]
  ·have e:k+1=o.length:=by omega
   rw [e,aUW,show 0+o.length-1=k by omega,aRD hl]
 rw [e];refine Prod.ext ?_ ?_
 ·show o.getD k o00=x.1;rw [aG5,h1];rfl
 ·show o.getD ((k+1)%o.length) o00=x.2;rw [aG5,h2];rfl
theorem aDQ {o:List Pt} {x:Pt×Pt} (h:x∈ej o):x.1∈o/\x.2∈o:=by
 obtain ⟨j,hj,rfl⟩:=aDB.mp h;have hj:=aQ7.mp hj;have k:∀i,i<o.length->o.getD i o00∈o:=λi hi=>by
  rw [aG5,aAX hi];exact aQI hi
 exact ⟨k _ (aTQ _ (by omega)),k _ hj⟩
def sM (a b:Pt) (o:List Pt):List Fr:=(ej o).flatMap λx=>hV a b x.1 x.2
def iG (bs:List e9) (a b:Pt):List Fr:=bs.flatMap λk=>sM a b k.o
def d8 (bs:List e9) (a b:Pt):List Fr:=t6 (iG bs a b)
def uR (x:Pt) (e:Pt×Pt):Int:=(iQ (dA e.2 e.1) (dA x e.1)).1
def dI (o:List Pt) (x:Pt):List Int:=(zr o).map (uR x)
theorem aL2 {x:Pt} {e:Pt×Pt} (hx:NP x) (h1:NP e.1) (h2:NP e.2):(uR x e<0↔fE (vq e.1,vq e.2) (vq x)<0)/\(0<uR x e↔0<fE (vq e.1,vq e.2) (vq x))/\(uR x e=0↔fE (vq e.1,vq e.2) (vq x)=0):=by
 have n1:=cK h2 h1;have n2:=cK hx h1;have v:val (iQ (dA e.2 e.1) (dA x e.1))=fE (vq e.1,vq e.2) (vq x):=by rw [rB n1 n2,bZ h2 h1,bZ hx h1];rfl
 unfold uR;rw [<-v,uJ (eQ n1 n2),tN (eQ n1 n2),oD (eQ n1 n2)];exact ⟨Iff.rfl,Iff.rfl,Iff.rfl⟩
def onB (x:Pt) (e:Pt×Pt):Bool:=decide (uR x e=0)&&(decide (0<=(pH (dA e.2 e.1) (dA x e.1)).1)&&decide (0<=(pH (dA e.2 e.1) (dA e.2 x)).1))
theorem aQR {x:Pt} {e:Pt×Pt} (hx:NP x) (h1:NP e.1) (h2:NP e.2):onB x e=true↔OnE (vq e.1,vq e.2) (vq x):=by
 have n1:=cK h2 h1;have n2:=cK hx h1;have n3:=cK h2 hx;unfold onB;rw [aLI,aLI,decide_eq_true_eq,decide_eq_true_eq,decide_eq_true_eq,(aL2 hx h1 h2).2.2,<-h9 (kB n1 n2),<-h9 (kB n1 n3),tY n1 n2,tY n1 n3,bZ h2 h1,bZ hx h1,bZ h2 hx];exact ⟨λ⟨a,b,c⟩=>⟨a,b,c⟩,λ⟨a,b,c⟩=>⟨a,b,c⟩⟩
def qK (a b x:Pt):List (Pt×Pt)->Nat->Nat×Nat
 | [],_=>(0,0)
 | e::r,i=>if onB x e=true then (if 0<(pH (dA e.2 e.1) (dA b a)).1 then 2 else 3,i) else qK a b x r (i+1)
def fU (o:List Pt) (a b x:Pt):Nat×Nat:=if dX (dI o x)≠0 then (if dX (dI o x)<0 then 0 else 1,0) else qK a b x (zr o) 0
theorem wN {ns:List Int} (h:ns≠[]):dX ns∈ns:=by
 cases ns with
 | nil=>exact absurd rfl h
 | cons n ns=>
  obtain ⟨h1,_,_⟩:=L2.mL ns n;show ns.foldl _ n∈_;rcases h1 with h1 | h1
  ·rw [h1];simp
  ·exact aJV _ h1
theorem rY {a b x:Pt}:∀(es:List (Pt×Pt)) (i:Nat),(∃e∈es,onB x e=true)->∃(k:Nat) (e:Pt×Pt),es[k]? = some e/\e∈es/\onB x e=true/\(∀j<k,∀e',es[j]? = some e'->onB x e'=false)/\qK a b x es i=(if 0<(pH (dA e.2 e.1) (dA b a)).1 then 2 else 3,i+k)
 | [],i,⟨e,m,_⟩=>by simp at m
 | e::es,i,⟨e',m,h⟩=>by
  unfold qK
  by_cases c:onB x e=true
  ·rw [if_pos c];exact ⟨0,e,rfl,by simp,c,λj hj=>by omega,by simp⟩
  ·rw [if_neg c];rcases aB1.mp m with rfl | m
   ·exact absurd h c
   ·obtain ⟨k,g,h1,h2,h3,h4,h5⟩:=rY es (i+1) ⟨e',m,h⟩;refine ⟨k+1,g,by simpa using h1,by simp [h2],h3,λj hj g' hg'=>?_,by rw [h5];congr 1;omega⟩;cases j with
    | zero=>simp at hg';rw [<-hg'];simpa using c
    | succ j=>exact h4 j (by omega) g' (by simpa using hg')
structure aJY (o:List Pt) (a b x:Pt) (c:Nat):Prop where
 one:c=1↔∀e∈jQ o,0<fE e (vq x)
 two:c=2->xR (jQ o) (vq x)/\∃e∈jQ o,OnE e (vq x)/\0<bE (aW e) (bH (vq b) (vq a))
 three:c=3->xR (jQ o) (vq x)/\∃e∈jQ o,OnE e (vq x)/\¬0<bE (aW e) (bH (vq b) (vq a))
 some:xR (jQ o) (vq x)->(∃e∈jQ o,fE e (vq x)=0)->c=2\/c=3
theorem aFV {o:List Pt} {a b x:Pt} (hb:GB o) (no:∀p∈o,NP p) (ha:NP a) (hb':NP b) (hx:NP x):aJY o a b x (fU o a b x).1:=by
 have sv:∀e∈zr o,_:=λe m=>aL2 hx (no _ (eO m).1) (no _ (eO m).2);have mi:dX (dI o x)∈dI o x:=wN (by unfold dI;simpa using aDM hb.ne);have le:∀e∈zr o,dX (dI o x)<=uR x e:=λe m=>kP (aDB.mpr ⟨e,m,rfl⟩);obtain ⟨e0,m0,q0⟩:=aDB.mp mi;unfold fU
 by_cases c:dX (dI o x)≠0
 ·rw [if_pos c]
  by_cases d:dX (dI o x)<0
  ·rw [if_pos d];have bad:fE (vq e0.1,vq e0.2) (vq x)<0:=(sv e0 m0).1.mp (by omega);have me:(vq e0.1,vq e0.2)∈jQ o:=aDB.mpr ⟨e0,m0,rfl⟩;refine ⟨⟨λz=>absurd z (by decide),λz=>?_⟩,λz=>absurd z (by decide),λz=>absurd z (by decide),λz=>?_⟩
   ·have:=z _ me;grind
   ·have:=z _ me;grind
  ·rw [if_neg d];have all:∀e∈jQ o,0<fE e (vq x):=λe m=>by
    obtain ⟨y,my,rfl⟩:=aDB.mp m;exact (sv y my).2.1.mp (by have:=le y my;omega)
   refine ⟨⟨λ_=>all,λ_=>rfl⟩,λz=>absurd z (by decide),λz=>absurd z (by decide),λ_ ⟨e,m,z⟩=>?_⟩;have:=all e m;grind
 ·rw [if_neg c];have all:xR (jQ o) (vq x):=λe m=>by
   obtain ⟨y,my,rfl⟩:=aDB.mp m;have h1:=le y my;have:=mt (sv y my).1.mpr (by omega);grind
  have me:(vq e0.1,vq e0.2)∈jQ o:=aDB.mpr ⟨e0,m0,rfl⟩;have z0:fE (vq e0.1,vq e0.2) (vq x)=0:=(sv e0 m0).2.2.mp (by omega);obtain ⟨g,mg,og,_⟩:=hb.cx.on me z0 all;obtain ⟨y,my,rfl⟩:=aDB.mp mg;have oy:=(aQR hx (no _ (eO my).1) (no _ (eO my).2)).mpr og;obtain ⟨k,e,_,h2,h3,_,h5⟩:=rY (a:=a) (b:=b) (zr o) 0 ⟨y,my,oy⟩;rw [h5];have n1:=no _ (eO h2).1;have n2:=no _ (eO h2).2;have oe:=(aQR hx n1 n2).mp h3;have me2:(vq e.1,vq e.2)∈jQ o:=aDB.mpr ⟨e,h2,rfl⟩;have dv:0<(pH (dA e.2 e.1) (dA b a)).1↔0<bE (aW (vq e.1,vq e.2)) (bH (vq b) (vq a)):=by
   rw [<-tN (kB (cK n2 n1) (cK hb' ha)),tY (cK n2 n1) (cK hb' ha),bZ n2 n1,bZ hb' ha];rfl
  have one:¬∀e∈jQ o,0<fE e (vq x):=λz=>by have:=z _ me;grind
  by_cases d:0<(pH (dA e.2 e.1) (dA b a)).1
  ·rw [if_pos d];show aJY o a b x 2;exact ⟨⟨λz=>absurd z (by decide),λz=>absurd z one⟩,λ_=>⟨all,_,me2,oe,dv.mp d⟩,λz=>absurd z (by decide),λ_ _=>.inl rfl⟩
  ·rw [if_neg d];show aJY o a b x 3;exact ⟨⟨λz=>absurd z (by decide),λz=>absurd z one⟩,λz=>absurd z (by decide),λ_=>⟨all,_,me2,oe,λz=>d (dv.mpr z)⟩,λ_ _=>.inr rfl⟩
end
end My
namespace My
open PySem L2 PyProof.Rows
section
variable {P:aVD} {w:aVH} {K:W.Frag} {mg:Str->Option Value} {base:Heap}
theorem eps:∀(fs:List (Rat×Rat)) (B:Rat),0<B->(∀f∈fs,0<f.1\/(f.1=0/\f.2=0))->∃d,0<d/\d<=B/\∀f∈fs,0<=f.1+f.2*d/\0<=f.1-f.2*d
 | [],B,hB,_=>⟨B,hB,by grind,λf m=>absurd m (by simp)⟩
 | f::fs,B,hB,h=>by
  obtain ⟨d,d0,dB,hd⟩:=eps fs B hB λg m=>h g (by simp [m]);have small:∀{u:Rat×Rat} {d':Rat},0<=u.1+u.2*d/\0<=u.1-u.2*d->0<d'->d'<=d->0<=u.1+u.2*d'/\0<=u.1-u.2*d':=λ{u d'} k p0 pd=>by
   rcases Rat.le_total (a:=0) (b:=u.2) with c | c
   ·have m1:=Rat.mul_nonneg c (show 0<=d-d' by grind);have m2:=Rat.mul_nonneg c (Rat.le_of_lt p0);exact ⟨by grind,by grind⟩
   ·have m1:=Rat.mul_nonneg (show 0<=-u.2 by grind) (show 0<=d-d' by grind);have m2:=Rat.mul_nonneg (show 0<=-u.2 by grind) (Rat.le_of_lt p0);exact ⟨by grind,by grind⟩
  rcases h f (by simp) with p | ⟨z1,z2⟩
  ·-- so small that it fits
   have ex:∃d',0<d'/\d'<=d/\0<=f.1+f.2*d'/\0<=f.1-f.2*d':=by
    have key:∀s:Rat,0<=s->∃d',0<d'/\d'<=d/\s*d'<=f.1:=λs hs=>by
     by_cases c:s*d<=f.1
     ·exact ⟨d,d0,by grind,c⟩
     ·have s0:0<s:=by
       by_cases z:s=0
       ·rw [z] at c;grind
       ·grind
      have i0:=Rat.inv_pos.mpr s0;have e1:s*(f.1*s⁻¹)=f.1:=by grind
      refine ⟨f.1*s⁻¹,Rat.mul_pos p i0,?_,by rw [e1];grind⟩;refine Rat.not_lt.mp λq=>?_;have:=Rat.mul_pos s0 (show 0<f.1*s⁻¹-d by grind);grind
    rcases Rat.le_total (a:=0) (b:=f.2) with c | c
    ·obtain ⟨d',a1,a2,a3⟩:=key f.2 c;have:=Rat.mul_nonneg c (Rat.le_of_lt a1);exact ⟨d',a1,a2,by grind,by grind⟩
    ·obtain ⟨d',a1,a2,a3⟩:=key (-f.2) (by grind);have:=Rat.mul_nonneg (show 0<=-f.2 by grind) (Rat.le_of_lt a1);exact ⟨d',a1,a2,by grind,by grind⟩
   obtain ⟨d',a1,a2,a3⟩:=ex;refine ⟨d',a1,by grind,λg m=>?_⟩;rcases aB1.mp m with rfl | m
   ·exact a3
   ·exact small (hd g m) a1 a2
  ·refine ⟨d,d0,dB,λg m=>?_⟩;rcases aB1.mp m with rfl | m
   ·rw [z1,z2];exact ⟨by grind,by grind⟩
   ·exact hd g m
theorem pC:∀(os:List Ov) (L R:List (Fr×Fr)),kD os L R=true↔(∀r,some r∈os->r.2.2≠0)/\∀a b,(a∈L\/∃r,some r∈os/\r.2.2=1/\a=(r.1,r.2.1))->(b∈R\/∃r,some r∈os/\r.2.2≠0/\r.2.2≠1/\b=(r.1,r.2.1))->oF a b=false
 | [],L,R=>by
  unfold kD nY;simp only [aN7,aS7];constructor
  ·exact λh=>⟨λr m=>absurd m (by simp),λa b ha hb=>h a (ha.resolve_right (by simp)) b (hb.resolve_right (by simp))⟩
  ·exact λh a ha b hb=>h.2 a b (.inl ha) (.inl hb)
 | none::os,L,R=>by
  unfold kD;rw [pC os L R];simp only [aB1,reduceCtorEq,false_or]
 | some x::os,L,R=>by
  unfold kD
  by_cases c0:x.2.2=0
  ·rw [if_pos c0];constructor
   ·intro h;cases h
   ·intro h;exact absurd c0 (h.1 x (by simp))
  ·rw [if_neg c0]
   by_cases c1:x.2.2=1
   ·rw [if_pos c1,pC os _ R];constructor
    ·rintro ⟨h1,h2⟩;refine ⟨λr m=>?_,λa b ha hb=>h2 a b ?_ ?_⟩
     ·rcases aB1.mp m with e | m
      ·cases e;exact c0
      ·exact h1 r m
     ·rcases ha with ha | ⟨r,m,k,e⟩
      ·exact .inl (by simp [ha])
      ·rcases aB1.mp m with q | m
       ·cases q;exact .inl (by simp [e])
       ·exact .inr ⟨r,m,k,e⟩
     ·rcases hb with hb | ⟨r,m,k,k',e⟩
      ·exact .inl hb
      ·rcases aB1.mp m with q | m
       ·cases q;exact absurd c1 k'
       ·exact .inr ⟨r,m,k,k',e⟩
    ·rintro ⟨h1,h2⟩;refine ⟨λr m=>h1 r (by simp [m]),λa b ha hb=>h2 a b ?_ ?_⟩
     ·rcases ha with ha | ⟨r,m,k,e⟩
      ·rcases aM3.mp ha with ha | ha
       ·exact .inl ha
       ·exact .inr ⟨x,by simp,c1,by simpa using ha⟩
      ·exact .inr ⟨r,by simp [m],k,e⟩
     ·exact hb.imp id λ⟨r,m,k⟩=>⟨r,by simp [m],k⟩
   ·rw [if_neg c1,pC os L _];constructor
    ·rintro ⟨h1,h2⟩;refine ⟨λr m=>?_,λa b ha hb=>h2 a b ?_ ?_⟩
     ·rcases aB1.mp m with e | m
      ·cases e;exact c0
      ·exact h1 r m
     ·rcases ha with ha | ⟨r,m,k,e⟩
      ·exact .inl ha
      ·rcases aB1.mp m with q | m
       ·cases q;exact absurd k c1
       ·exact .inr ⟨r,m,k,e⟩
     ·rcases hb with hb | ⟨r,m,k,k',e⟩
      ·exact .inl (by simp [hb])
      ·rcases aB1.mp m with q | m
       ·cases q;exact .inl (by simp [e])
       ·exact .inr ⟨r,m,k,k',e⟩
    ·rintro ⟨h1,h2⟩;refine ⟨λr m=>h1 r (by simp [m]),λa b ha hb=>h2 a b ?_ ?_⟩
     ·exact ha.imp id λ⟨r,m,k⟩=>⟨r,by simp [m],k⟩
     ·rcases hb with hb | ⟨r,m,k,k',e⟩
      ·rcases aM3.mp hb with hb | hb
       ·exact .inl hb
       ·exact .inr ⟨x,by simp,c0,c1,by simpa using hb⟩
      ·exact .inr ⟨r,by simp [m],k,k',e⟩
def dH (x:Fr×Fr):Fr:=fS (iC x.1 x.2) (1,2)
theorem aF8 {x:Fr×Fr} (h1:cH x.1) (h2:cH x.2):cH (dH x)/\val (dH x)=(val x.1+val x.2)*(1/2):=by
 have n12:cH (1,2):=⟨by decide,by decide⟩;have e:val (1,2)=1/2:=by show ((1:Int):Rat)/((2:Int):Rat)=1/2;push_cast;rfl
 refine ⟨bC (eD h1 h2) n12,?_⟩;unfold dH;rw [gF (eD h1 h2) n12,jK h1 h2,e]
def fY (bs:List e9) (a b x:Pt):List Nat:=bs.map λk=>(fU k.o a b x).1
def pL (bs:List e9) (a b:Pt):Bool:=((d8 bs a b).zip (d8 bs a b).tail).all λx=>!((fY bs a b (gG a b (dH x))).contains 1||((fY bs a b (gG a b (dH x))).contains 2&&(fY bs a b (gG a b (dH x))).contains 3))
theorem aQL {a b:Pt} {f:Fr} (ha:NP a) (hb:NP b) (hf:cH f):NP (gG a b f)/\vq (gG a b f)=jR (vq a) (vq b) (val f):=by
 refine ⟨⟨eD ha.x (bC (cU hb.x ha.x) hf),eD ha.y (bC (cU hb.y ha.y) hf)⟩,?_⟩;unfold vq gG jR;simp only;rw [jK ha.x (bC (cU hb.x ha.x) hf),gF (cU hb.x ha.x) hf,gP hb.x ha.x,jK ha.y (bC (cU hb.y ha.y) hf),gF (cU hb.y ha.y) hf,gP hb.y ha.y]
structure GBs (bs:List e9):Prop where
 g:∀b∈bs,GB b.o
 n:∀b∈bs,∀p∈b.o,NP p
theorem jA {bs:List e9} (h:GBs bs) {a b:Pt} (ha:NP a) (hb:NP b) (ne:0<bE (bH (vq b) (vq a)) (bH (vq b) (vq a))):NmL (iG bs a b):=λf m=>by
 obtain ⟨k,mk,m⟩:=aTB.mp m;obtain ⟨x,mx,m⟩:=aTB.mp m;obtain ⟨m1,m2⟩:=aDQ mx;exact oZ ha hb (h.n k mk _ m1) (h.n k mk _ m2) ne f m
theorem y8 {bs:List e9} (h:GBs bs) {a b:Pt} (ha:NP a) (hb:NP b) (ne:0<bE (bH (vq b) (vq a)) (bH (vq b) (vq a))) {k:e9} (mk:k∈bs) {e:Eg} (me:e∈jQ k.o) {t:Rat} (t0:0<t) (t1:t<1) (z:fE e (jR (vq a) (vq b) t)=0) (nz:¬(fE e (vq a)=0/\fE e (vq b)=0)) (ib:xR (jQ k.o) (jR (vq a) (vq b) t)):∃c∈d8 bs a b,val c=t:=by
 obtain ⟨g,mg,og,r,r0,hr⟩:=(h.g k mk).cx.on me z ib;obtain ⟨x,mx,rfl⟩:=aDB.mp mg;obtain ⟨m1,m2⟩:=eO mx;have nz':fE (vq x.1,vq x.2) (vq a)≠fE (vq x.1,vq x.2) (vq b):=λq=>by
  have oz:=og.z;rw [nA] at oz;have z1:fE (vq x.1,vq x.2) (vq a)=0:=by grind
  have z2:fE (vq x.1,vq x.2) (vq b)=0:=by grind
  rw [hr] at z1 z2;have rn:r≠0:=by grind
  exact nz ⟨(Rat.mul_eq_zero.mp z1).resolve_left rn,(Rat.mul_eq_zero.mp z2).resolve_left rn⟩
 obtain ⟨s,ms,vs⟩:=aNU ha hb (h.n k mk _ m1) (h.n k mk _ m2) og ((h.g k mk).cx.ne _ mg) nz';have msh:s∈iG bs a b:=aTB.mpr ⟨k,mk,aTB.mpr ⟨x,aOE mx,ms⟩⟩;exact ⟨s,(rA (jA h ha hb ne)).m s msh (by rw [vs];exact t0) (by rw [vs];exact t1),vs⟩
theorem qI {es:List Eg} {p q:Q2} {r:Fr×Fr×Nat} (o:Ov2 es p q r) {t:Rat} (h1:val r.1<t) (h2:t<val r.2.1) {e:Eg} (me:e∈es) (z:fE e (jR p q t)=0):fE e p=0/\fE e q=0:=by
 have l0:=o.l0;have l1:=o.h1;have a1:=(o.s _ l0 (by grind)).mpr ⟨by grind,Rat.le_of_lt o.lt⟩ e me;have a2:=(o.s _ (by grind) l1).mpr ⟨Rat.le_of_lt o.lt,by grind⟩ e me;rw [nA] at a1 a2 z;generalize fE e p=x at *;generalize fE e q=y at *;have d1:0<=-((y-x)*(t-val r.1)):=by grind
 have d2:0<=(y-x)*(val r.2.1-t):=by grind
 have e1:0<=-(y-x):=cA (k:=t-val r.1) (by grind) (by grind);have e2:0<=y-x:=cA (k:=val r.2.1-t) (by grind) d2;have:y=x:=by grind
 subst this;exact ⟨by grind,by grind⟩
theorem zU {bs:List e9} (h:GBs bs) {a b:Pt} (ha:NP a) (hb:NP b) (ne:0<bE (bH (vq b) (vq a)) (bH (vq b) (vq a))) {k:e9} (mk:k∈bs) {r:Fr×Fr×Nat} (o:Ov2 (jQ k.o) (vq a) (vq b) r):(∃c∈d8 bs a b,val c=val r.1)/\∃c∈d8 bs a b,val c=val r.2.1:=by
 have ro:=rA (jA h ha hb ne);have l0:=o.l0;have l1:=o.h1;have lt:=o.lt;constructor
 ·rcases o.lo with e | ⟨e,g,mg,z1,z2,z3⟩
  ·exact ⟨(0,1),ro.z,by rw [e]⟩
  ·exact y8 h ha hb ne mk mg e (by grind) z3 (λw=>by grind) ((o.s _ l0 (by grind)).mpr ⟨by grind,Rat.le_of_lt lt⟩)
 ·rcases o.hi with e | ⟨e,g,mg,z1,z2,z3⟩
  ·exact ⟨(1,1),ro.o,by rw [e]⟩
  ·exact y8 h ha hb ne mk mg (by grind) e z3 (λw=>by grind) ((o.s _ (by grind) l1).mpr ⟨Rat.le_of_lt lt,by grind⟩)
theorem y9 {bs:List e9} (h:GBs bs) {a b:Pt} (ha:NP a) (hb:NP b) (ne:0<bE (bH (vq b) (vq a)) (bH (vq b) (vq a))) {x:Fr×Fr} (mx:x∈(d8 bs a b).zip (d8 bs a b).tail) {k:e9} (mk:k∈bs) (ib:xR (jQ k.o) (jR (vq a) (vq b) (val (dH x)))):∃r,bS (cI k) (jI a b)=some r/\Ov2 (jQ k.o) (vq a) (vq b) r/\val r.1<val (dH x)/\val (dH x)<val r.2.1:=by
 have ro:=rA (jA h ha hb ne);obtain ⟨c,d⟩:=x;obtain ⟨lt,mc,md,nb⟩:=mN ro.s mx;obtain ⟨_,vm⟩:=aF8 (x:=(c,d)) (ro.n c mc) (ro.n d md);simp only at vm;have b1:=ro.b c mc;have b2:=ro.b d md;generalize val (dH (c,d))=m at *;have m0:0<m:=by grind
 have m1:m<1:=by grind
 have fs:∀f∈(jQ k.o).map (λe=>(fE e (jR (vq a) (vq b) m),fE e (vq b)-fE e (vq a))),0<f.1\/(f.1=0/\f.2=0):=λf mf=>by
  obtain ⟨e,me,rfl⟩:=aDB.mp mf;have:=ib e me
  by_cases z:fE e (jR (vq a) (vq b) m)=0
  ·by_cases w:fE e (vq a)=0/\fE e (vq b)=0
   ·exact .inr ⟨z,by simp only;grind⟩
   ·obtain ⟨c',mc',vc'⟩:=y8 h ha hb ne mk me m0 m1 z w ib;have:=nb c' mc';grind
  ·exact .inl (by simp only;grind)
 obtain ⟨ε,e0,eB,he⟩:=eps _ (if m<=1-m then m else 1-m) (by split<;>grind) fs;have e1:ε<=m/\ε<=1-m:=by
  by_cases c:m<=1-m
  ·rw [if_pos c] at eB;exact ⟨eB,by grind⟩
  ·rw [if_neg c] at eB;exact ⟨by grind,eB⟩
 have i1:xR (jQ k.o) (jR (vq a) (vq b) (m-ε)):=λe me=>by
  have:=(he _ (aDB.mpr ⟨e,me,rfl⟩)).2;simp only at this;rw [nA] at this ⊢;grind
 have i2:xR (jQ k.o) (jR (vq a) (vq b) (m+ε)):=λe me=>by
  have:=(he _ (aDB.mpr ⟨e,me,rfl⟩)).1;simp only at this;rw [nA] at this ⊢;grind
 cases q:bS (cI k) (jI a b) with
 | none=>exact (aCE (h.g k mk) ha.spt hb.spt q (t1:=m-ε) (t2:=m+ε) (by grind) (by grind) (by grind) i1 i2).elim
 | some r=>
  have o:=kR (h.g k mk) ha.spt hb.spt ne q;have s1:=(o.s (m-ε) (by grind) (by grind)).mp i1;have s2:=(o.s (m+ε) (by grind) (by grind)).mp i2;exact ⟨r,rfl,o,by grind,by grind⟩
theorem xI {a b:Fr×Fr} (h1:1<=a.1.2) (h2:1<=a.2.2) (h3:1<=b.1.2) (h4:1<=b.2.2):oF a b=true↔val (cS a.1 b.1)<val (bI a.2 b.2):=by
 unfold oF;rw [decide_eq_true_eq,lM (aA6 h1 h3) (rV h2 h4)]
theorem aG1 {bs:List e9} (h:GBs bs) {a b:Pt} (ha:NP a) (hb:NP b) (ne:0<bE (bH (vq b) (vq a)) (bH (vq b) (vq a))):pL bs a b=nI (bs.map cI) a b:=by
 have ro:=rA (jA h ha hb ne);have th:∀x∈(d8 bs a b).zip (d8 bs a b).tail,∀k∈bs,aJY k.o a b (gG a b (dH x)) (fU k.o a b (gG a b (dH x))).1/\vq (gG a b (dH x))=jR (vq a) (vq b) (val (dH x)):=λx mx k mk=>by
  obtain ⟨c,d⟩:=x;obtain ⟨_,mc,md,_⟩:=mN ro.s mx;obtain ⟨nm,_⟩:=aF8 (x:=(c,d)) (ro.n c mc) (ro.n d md);obtain ⟨n1,n2⟩:=aQL ha hb nm;exact ⟨aFV (h.g k mk) (h.n k mk) ha hb n1,n2⟩
 have mem:∀(x:Pt) (n:Nat),(fY bs a b x).contains n=true↔∃k∈bs,(fU k.o a b x).1=n:=λx n=>by
  rw [List.contains_iff_mem];unfold fY;rw [aDB]
 have ovm:∀r,some r∈(bs.map cI).map (λs=>bS s (jI a b))↔∃k∈bs,bS (cI k) (jI a b)=some r:=λr=>by
  rw [aN1,aDB];rfl
 -- a place of cuts that starts an open part
 have iF:∀u v:Rat,(∃c∈d8 bs a b,val c=u)->(∃c∈d8 bs a b,val c=v)->u<v->∃x∈(d8 bs a b).zip (d8 bs a b).tail,u<val (dH x)/\val (dH x)<v:=λu v ⟨c,mc,vc⟩ ⟨d,md,vd'⟩ lt=>by
  obtain ⟨y,my⟩:=vM ro.s mc md (by rw [vc,vd'];exact lt);obtain ⟨l1,_,m2,nb⟩:=mN ro.s my;obtain ⟨_,vm⟩:=aF8 (x:=(c,y)) (ro.n c mc) (ro.n y m2);simp only at vm;refine ⟨(c,y),my,?_,?_⟩
  ·rw [vm];grind
  ·rw [vm];have:=nb d md;grind
 rw [aP4];unfold nI;rw [pC];simp only [aRO,false_or];unfold pL;rw [aN7];constructor
 ·intro hL;refine ⟨λr mr z=>?_,λu v hu hv=>?_⟩
  ·obtain ⟨k,mk,ek⟩:=(ovm r).mp mr;have o:=kR (h.g k mk) ha.spt hb.spt ne ek;obtain ⟨c1,c2⟩:=zU h ha hb ne mk o;obtain ⟨x,mx,lt1,lt2⟩:=iF _ _ c1 c2 o.lt;obtain ⟨t1,t2⟩:=th x mx k mk;have all:(fU k.o a b (gG a b (dH x))).1=1:=t1.one.mpr λe me=>by
    rw [t2];have l0:=o.l0;have l1:=o.h1;have ge:=(o.s (val (dH x)) (by grind) (by grind)).mpr ⟨Rat.le_of_lt lt1,Rat.le_of_lt lt2⟩ e me
    by_cases zz:fE e (jR (vq a) (vq b) (val (dH x)))=0
    ·rcases o.h with ⟨_,no⟩ | ⟨_,w,_⟩
     ·exact absurd (qI o lt1 lt2 me zz) (no e me)
     ·omega
    ·grind
   have:=hL x mx;rw [(mem _ 1).mpr ⟨k,mk,all⟩] at this;simp at this
  ·obtain ⟨r1,mr1,z1,rfl⟩:=hu;obtain ⟨r2,mr2,z2,z3,rfl⟩:=hv;obtain ⟨k1,mk1,ek1⟩:=(ovm r1).mp mr1;obtain ⟨k2,mk2,ek2⟩:=(ovm r2).mp mr2;have o1:=kR (h.g k1 mk1) ha.spt hb.spt ne ek1;have o2:=kR (h.g k2 mk2) ha.spt hb.spt ne ek2;rw [aRG];intro me;rw [xI o1.d1 o1.d2 o2.d1 o2.d2] at me;simp only at me;obtain ⟨a1,a2⟩:=zU h ha hb ne mk1 o1;obtain ⟨a3,a4⟩:=zU h ha hb ne mk2 o2;have c1:∃c∈d8 bs a b,val c=val (cS r1.1 r2.1):=by
    rcases qA r1.1 r2.1 with e | e<;>rw [e]<;>assumption
   have c2:∃c∈d8 bs a b,val c=val (bI r1.2.1 r2.2.1):=by
    rcases qV r1.2.1 r2.2.1 with e | e<;>rw [e]<;>assumption
   obtain ⟨x,mx,lt1,lt2⟩:=iF _ _ c1 c2 me;have q1:=(j5 o1.d1 o2.d1 (t:=val (cS r1.1 r2.1))).mp Rat.le_refl;have q2:=(jC o1.d2 o2.d2 (t:=val (bI r1.2.1 r2.2.1))).mp Rat.le_refl
   -- how a block with an overlap along the way stands at the midst
   have st:∀(k:e9) (mk:k∈bs) (r:Fr×Fr×Nat),Ov2 (jQ k.o) (vq a) (vq b) r->r.2.2≠0->val r.1<val (dH x)->val (dH x)<val r.2.1->(fU k.o a b (gG a b (dH x))).1=if r.2.2=1 then 2 else 3:=λk mk r o n0 w1 w2=>by
    obtain ⟨t1,t2⟩:=th x mx k mk;have l0:=o.l0;have l1:=o.h1;have ib:=(o.s (val (dH x)) (by grind) (by grind)).mpr ⟨Rat.le_of_lt w1,Rat.le_of_lt w2⟩;rcases o.h with ⟨z,_⟩ | ⟨⟨e,me,f1,f2⟩,_,or⟩
    ·exact absurd z n0
    ·have ex:∃e∈jQ k.o,fE e (vq (gG a b (dH x)))=0:=⟨e,me,by rw [t2,nA,f1,f2];grind⟩;rcases t1.some (by rw [t2];exact ib) ex with c | c
     ·obtain ⟨_,g,mg,og,dg⟩:=t1.two c;have gz:=og.z;rw [t2] at gz;obtain ⟨g1,g2⟩:=qI o w1 w2 mg gz;rw [c,if_pos ((or g mg g1 g2).mpr dg)]
     ·obtain ⟨_,g,mg,og,dg⟩:=t1.three c;have gz:=og.z;rw [t2] at gz;obtain ⟨g1,g2⟩:=qI o w1 w2 mg gz;rw [c,if_neg λw=>dg ((or g mg g1 g2).mp w)]
   have s1:=st k1 mk1 r1 o1 (by omega) (by grind) (by grind);have s2:=st k2 mk2 r2 o2 z2 (by grind) (by grind);rw [if_pos z1] at s1;rw [if_neg z3] at s2;have:=hL x mx;rw [(mem _ 2).mpr ⟨k1,mk1,s1⟩,(mem _ 3).mpr ⟨k2,mk2,s2⟩] at this;simp at this
 ·rintro ⟨h0,hm⟩ x mx;rw [aS7,Bool.or_eq_false_iff,Bool.and_eq_false_iff];constructor
  ·rw [aRG];intro c;obtain ⟨k,mk,ck⟩:=(mem _ 1).mp c;obtain ⟨t1,t2⟩:=th x mx k mk;have al:=t1.one.mp ck;rw [t2] at al;obtain ⟨r,er,o,_,_⟩:=y9 h ha hb ne mx mk λe me=>Rat.le_of_lt (al e me);refine h0 r ((ovm r).mpr ⟨k,mk,er⟩) ?_;rcases o.h with ⟨z,_⟩ | ⟨⟨e,me,f1,f2⟩,_,_⟩
   ·exact z
   ·have:=al e me;rw [nA,f1,f2] at this;grind
  ·by_cases c2:(fY bs a b (gG a b (dH x))).contains 2=true
   ·refine .inr ?_;rw [aRG];intro c3;obtain ⟨k1,mk1,ck1⟩:=(mem _ 2).mp c2;obtain ⟨k2,mk2,ck2⟩:=(mem _ 3).mp c3;obtain ⟨t1,t2⟩:=th x mx k1 mk1;obtain ⟨t3,t4⟩:=th x mx k2 mk2;obtain ⟨i1,g1,mg1,og1,d1⟩:=t1.two ck1;obtain ⟨i2,g2,mg2,og2,d2⟩:=t3.three ck2;rw [t2] at i1 og1;rw [t4] at i2 og2;obtain ⟨r1,er1,o1,u1,u2⟩:=y9 h ha hb ne mx mk1 i1;obtain ⟨r2,er2,o2,v1,v2⟩:=y9 h ha hb ne mx mk2 i2;obtain ⟨x1,x2⟩:=qI o1 u1 u2 mg1 og1.z;obtain ⟨y1,y2⟩:=qI o2 v1 v2 mg2 og2.z;have w1:r1.2.2=1:=by
     rcases o1.h with ⟨_,no⟩ | ⟨_,_,or⟩
     ·exact absurd ⟨x1,x2⟩ (no _ mg1)
     ·exact (or _ mg1 x1 x2).mpr d1
    have w2:r2.2.2≠0/\r2.2.2≠1:=by
     rcases o2.h with ⟨_,no⟩ | ⟨_,w,or⟩
     ·exact absurd ⟨y1,y2⟩ (no _ mg2)
     ·exact ⟨by omega,λz=>d2 ((or _ mg2 y1 y2).mp z)⟩
    have mf:=hm (r1.1,r1.2.1) (r2.1,r2.2.1) ⟨r1,(ovm r1).mpr ⟨k1,mk1,er1⟩,w1,rfl⟩ ⟨r2,(ovm r2).mpr ⟨k2,mk2,er2⟩,w2.1,w2.2,rfl⟩;rw [aRG] at mf;refine mf ((xI o1.d1 o1.d2 o2.d1 o2.d2).mpr ?_);have q1:=(j5 o1.d1 o2.d1 (t:=val (dH x))).mpr ⟨Rat.le_of_lt u1,Rat.le_of_lt v1⟩;have q2:=(jC o1.d2 o2.d2 (t:=val (dH x))).mpr ⟨Rat.le_of_lt u2,Rat.le_of_lt v2⟩;simp only;rcases qA r1.1 r2.1 with e | e<;>rcases qV r1.2.1 r2.2.1 with e' | e'<;>rw [e,e']<;>rw [e] at q1<;>rw [e'] at q2<;>grind
   ·exact .inl (by simpa using c2)
end
end My
namespace My
open PySem L2 PyProof.Rows
section
variable {P:aVD} {w:aVH} {K:W.Frag} {mg:Str->Option Value} {base:Heap}
abbrev tE:aVK:=top 30
theorem mM:aN ["_law_n","_law_d","_law_one","_law_other"] ["_law_n","_law_d"] (aH tE):=⟨rfl,rfl,rfl,by decide +kernel,rfl,by decide +kernel,by decide +kernel⟩
theorem aEM {f:aVA} {fd:aVF} (F:fO K "_law_frac" "_law_frac" tE f fd) (TX:Txt mg)    : bL P w K mg base fP 1 f fd ["_law_n","_law_d"] (aI K yH):=by
 refine F.okT mM ?len (λcdv A outer s H E hr=>(aE (eS (i:=2) (j:=3) rfl mM.nd rfl rfl (by decide) rfl rfl (fc (n9 rfl TX.n_abs (fc (fv 0) aA)) (fc (n9 rfl TX.n_abs (fc (fv 1) aA)) aA)) rfl)
 (aE (wH PassesOwn.never (cY oJ (fv 3) aB (aS _)) (aJ (eS (i:=2) (j:=3) rfl mM.nd rfl rfl (by decide) rfl rfl (fc (fv 3) (fc (aP jV (fv 2) (fv 3)) aA)) rfl)))
 (aE (aX (i:=2) mM.nd rfl (aDC rfl) (aP aV (fv 2) (mH (cY oJ (fv 1) aB (aS _)) aB (uY aB))))
 (aJ (aO (aQ (fc (aP dL (fv 0) (fv 2)) (fc (aP dL (fv 1) (fv 2)) aA))))))))) ?rd
 case len=>rintro as Q ⟨n,d,rfl,_⟩;rfl
 case rd=>
  rintro as Q ⟨n,d,rfl,hd,hb,q⟩;refine ⟨λm E=>∃(x y:Nat),E=[some (.p (.int n)),some (.p (.int d)),some (.p (.int x)),some (.p (.int y))]/\m=y/\aOM x y=aOM n.natAbs d.natAbs,⟨_,_,_,rfl,rfl,rfl⟩,?_⟩;rintro m E ⟨x,y,rfl,rfl,hg⟩;show if decide ((0:Int)<(m:Int))=true then _ else _
  by_cases hy:(0:Int)<(m:Int)
  ·rw [decide_eq_true hy,if_pos rfl];exact ⟨hy,x%m,aTQ _ (by omega),m,x%m,rfl,rfl,by rw [vX];exact hg⟩
  ·rw [decide_eq_false hy,if_neg (by decide)];obtain rfl:m=0:=by omega
   rw [Nat.gcd_zero_right] at hg;subst hg;have dn:((aOM n.natAbs d.natAbs:Nat):Int)∣n:=aPM.mpr (aR8 _ _);have dd:((aOM n.natAbs d.natAbs:Nat):Int)∣d:=aPM.mpr (aSS _ _);have g0:((aOM n.natAbs d.natAbs:Nat):Int)≠0:=(wW (i:=0) (n:=n) hd hb).1;have aCP:∀{g m:Int},g≠0->g∣m->m.fdiv (-g)=(-m)/g:=λ{g m} h0 hm=>by
    obtain ⟨k,rfl⟩:=hm;have e1:g*k=(-g)*(-k):=by grind
    have e2:-(g*k)=g*(-k):=by grind
    rw [e2,aRC _ h0,e1,Int.mul_fdiv_cancel_left _ (by omega)]
   show if decide (0<d)=true then _ else _
   by_cases h:0<d
   ·rw [decide_eq_true h,if_pos rfl];have e1:((aOM n.natAbs d.natAbs:Nat):Int)*1=((aOM n.natAbs d.natAbs:Nat):Int):=Int.mul_one _;refine ⟨t5 (by decide),?_⟩;rw [e1];refine ⟨wW hd hb,wW hd hb,rfl,?_⟩;unfold low rK mS at q;rw [if_pos h,if_pos h,<-qQ,<-qQ] at q;exact q
   ·rw [decide_eq_false h,if_neg (by decide)];have e1:((aOM n.natAbs d.natAbs:Nat):Int) * -1 = -((aOM n.natAbs d.natAbs:Nat):Int):=by omega
    refine ⟨t5 (by decide),?_⟩;rw [e1];have cz:∀i:Int,pQ i (-((aOM n.natAbs d.natAbs:Nat):Int)):=λi=>⟨by omega,by rw [aTM];exact (wW (i:=i) (n:=n) hd hb).2⟩;refine ⟨cz _,cz _,rfl,?_⟩;unfold low rK mS at q;rw [if_neg h,if_neg h,<-aCP g0 dn,<-aCP g0 dd] at q;exact q
abbrev zM:aVK:=top 31
theorem aH3:aN ["_law_one","_law_other"] ["_law_one","_law_other"] (aH zM):=⟨rfl,rfl,rfl,by decide +kernel,rfl,by decide +kernel,by decide +kernel⟩
theorem aH5 {f:aVA} {fd:aVF} (F:fO K "_law_sum" "_law_sum" zM f fd) (TX:Txt mg) (g_mfrac:Fn P w K mg base 1 "_law_frac" ["_law_n","_law_d"] (aI K yH))   : bL P w K mg base fP 2 f fd ["_law_one","_law_other"] (aI K (jN iC)):=by
 refine F.okT aH3 ?len (λcdv A outer s H E hr=>(aJ (aO (aC g_mfrac hr (by omega) rfl (fc (aU bU (aP aV (aG rfl (fv 0) aB (λ_ _=>rfl)) (aG rfl (fv 1) aB (λ_ _=>rfl))) (aP aV (aG rfl (fv 1) aB (λ_ _=>rfl)) (aG rfl (fv 0) aB (λ_ _=>rfl)))) (fc (aP aV (aG rfl (fv 0) aB (λ_ _=>rfl)) (aG rfl (fv 1) aB (λ_ _=>rfl))) aA)))))) ?rd
 case len=>rintro as Q ⟨x,y,rfl,_⟩;rfl
 case rd=>
  rintro as Q ⟨x,y,rfl,hx,hy,hs,q⟩;have hd:(x.2*y.2).natAbs<2^8000:=sP (bM (dZ x) (dZ y)) (by omega);exact ⟨gN (e:=7900) (pl (iX x) (by omega)) (pl (dZ y) (by omega)) (by decide),gN (e:=7900) (pl (iX y) (by omega)) (pl (dZ x) (by omega)) (by decide),gN (e:=7900) (pl (dZ x) (by omega)) (pl (dZ y) (by omega)) (by decide),_,_,rfl,gJ hx hy,hd,rfl,q⟩
abbrev sZ:aVK:=top 33
theorem aDZ:aN ["_law_one","_law_other"] ["_law_one","_law_other"] (aH sZ):=⟨rfl,rfl,rfl,by decide +kernel,rfl,by decide +kernel,by decide +kernel⟩
theorem aFX {f:aVA} {fd:aVF} (F:fO K "_law_less" "_law_less" sZ f fd) (TX:Txt mg) (g_mfrac:Fn P w K mg base 1 "_law_frac" ["_law_n","_law_d"] (aI K yH))   : bL P w K mg base fP 2 f fd ["_law_one","_law_other"] (aI K (jN bK)):=by
 refine F.okT aDZ ?len (λcdv A outer s H E hr=>(aJ (aO (aC g_mfrac hr (by omega) rfl (fc (aU dW (aP aV (aG rfl (fv 0) aB (λ_ _=>rfl)) (aG rfl (fv 1) aB (λ_ _=>rfl))) (aP aV (aG rfl (fv 1) aB (λ_ _=>rfl)) (aG rfl (fv 0) aB (λ_ _=>rfl)))) (fc (aP aV (aG rfl (fv 0) aB (λ_ _=>rfl)) (aG rfl (fv 1) aB (λ_ _=>rfl))) aA)))))) ?rd
 case len=>rintro as Q ⟨x,y,rfl,_⟩;rfl
 case rd=>
  rintro as Q ⟨x,y,rfl,hx,hy,hs,q⟩;have hd:(x.2*y.2).natAbs<2^8000:=sP (bM (dZ x) (dZ y)) (by omega);exact ⟨gN (e:=7900) (pl (iX x) (by omega)) (pl (dZ y) (by omega)) (by decide),gN (e:=7900) (pl (iX y) (by omega)) (pl (dZ x) (by omega)) (by decide),gN (e:=7900) (pl (dZ x) (by omega)) (pl (dZ y) (by omega)) (by decide),_,_,rfl,gJ hx hy,hd,rfl,q⟩
abbrev lT:aVK:=top 32
theorem xE:aN ["_law_one","_law_other"] ["_law_one","_law_other"] (aH lT):=⟨rfl,rfl,rfl,by decide +kernel,rfl,by decide +kernel,by decide +kernel⟩
theorem wL {f:aVA} {fd:aVF} (F:fO K "_law_product" "_law_product" lT f fd) (TX:Txt mg) (g_mfrac:Fn P w K mg base 1 "_law_frac" ["_law_n","_law_d"] (aI K yH))   : bL P w K mg base fP 2 f fd ["_law_one","_law_other"] (aI K (jN fS)):=by
 refine F.okT xE ?len (λcdv A outer s H E hr=>(aJ (aO (aC g_mfrac hr (by omega) rfl (fc (aP aV (aG rfl (fv 0) aB (λ_ _=>rfl)) (aG rfl (fv 1) aB (λ_ _=>rfl))) (fc (aP aV (aG rfl (fv 0) aB (λ_ _=>rfl)) (aG rfl (fv 1) aB (λ_ _=>rfl))) aA)))))) ?rd
 case len=>rintro as Q ⟨x,y,rfl,_⟩;rfl
 case rd=>
  rintro as Q ⟨x,y,rfl,hx,hy,hs,q⟩;have hd:(x.2*y.2).natAbs<2^8000:=sP (bM (dZ x) (dZ y)) (by omega);exact ⟨gN (e:=7900) (pl (iX x) (by omega)) (pl (iX y) (by omega)) (by decide),gN (e:=7900) (pl (dZ x) (by omega)) (pl (dZ y) (by omega)) (by decide),_,_,rfl,gJ hx hy,hd,rfl,q⟩
abbrev yD:aVK:=top 34
theorem aHD:aN ["_law_one","_law_other"] ["_law_one","_law_other"] (aH yD):=⟨rfl,rfl,rfl,by decide +kernel,rfl,by decide +kernel,by decide +kernel⟩
theorem aHS {f:aVA} {fd:aVF} (F:fO K "_law_add" "_law_add" yD f fd) (TX:Txt mg) (g_msum:Fn P w K mg base 2 "_law_sum" ["_law_one","_law_other"] (aI K (jN iC)))   : bL P w K mg base fP 3 f fd ["_law_one","_law_other"] (aI K vN):=by
 refine F.okT aHD ?len (λcdv A outer s H E hr=>(aJ (aO (aQ (fc (aC g_msum hr (by omega) rfl (fc (aG rfl (fv 0) aB (λ_ _=>rfl)) (fc (aG rfl (fv 1) aB (λ_ _=>rfl)) aA))) (fc (aC g_msum hr (by omega) rfl (fc (aG rfl (fv 0) aB (λ_ _=>rfl)) (fc (aG rfl (fv 1) aB (λ_ _=>rfl)) aA))) aA)))))) ?rd
 case len=>rintro as Q ⟨x,y,p,q,e,f,rfl,_⟩;rfl
 case rd=>
  rintro as Q ⟨x,y,p,q,e,f,rfl,h,k,hs,z⟩;have:=h.sx;have:=h.sy;have:=k.sx;have:=k.sy;exact ⟨_,_,rfl,h.x,k.x,by omega,_,_,rfl,h.y,k.y,by omega,rfl,z⟩
abbrev zQ:aVK:=top 35
theorem aJU:aN ["_law_one","_law_other"] ["_law_one","_law_other"] (aH zQ):=⟨rfl,rfl,rfl,by decide +kernel,rfl,by decide +kernel,by decide +kernel⟩
theorem aH4 {f:aVA} {fd:aVF} (F:fO K "_law_sub" "_law_sub" zQ f fd) (TX:Txt mg) (g_mless:Fn P w K mg base 2 "_law_less" ["_law_one","_law_other"] (aI K (jN bK)))   : bL P w K mg base fP 3 f fd ["_law_one","_law_other"] (aI K lR):=by
 refine F.okT aJU ?len (λcdv A outer s H E hr=>(aJ (aO (aQ (fc (aC g_mless hr (by omega) rfl (fc (aG rfl (fv 0) aB (λ_ _=>rfl)) (fc (aG rfl (fv 1) aB (λ_ _=>rfl)) aA))) (fc (aC g_mless hr (by omega) rfl (fc (aG rfl (fv 0) aB (λ_ _=>rfl)) (fc (aG rfl (fv 1) aB (λ_ _=>rfl)) aA))) aA)))))) ?rd
 case len=>rintro as Q ⟨x,y,p,q,e,f,rfl,_⟩;rfl
 case rd=>
  rintro as Q ⟨x,y,p,q,e,f,rfl,h,k,hs,z⟩;have:=h.sx;have:=h.sy;have:=k.sx;have:=k.sy;exact ⟨_,_,rfl,h.x,k.x,by omega,_,_,rfl,h.y,k.y,by omega,rfl,z⟩
abbrev i7:aVK:=top 36
theorem rJ:aN ["_law_vector","_law_share"] ["_law_vector","_law_share"] (aH i7):=⟨rfl,rfl,rfl,by decide +kernel,rfl,by decide +kernel,by decide +kernel⟩
theorem rP {f:aVA} {fd:aVF} (F:fO K "_law_scaled_by" "_law_scaled_by" i7 f fd) (TX:Txt mg) (g_mproduct:Fn P w K mg base 2 "_law_product" ["_law_one","_law_other"] (aI K (jN fS)))   : bL P w K mg base fP 3 f fd ["_law_vector","_law_share"] (aI K oW):=by
 refine F.okT rJ ?len (λcdv A outer s H E hr=>(aJ (aO (aQ (fc (aC g_mproduct hr (by omega) rfl (fc (aG rfl (fv 0) aB (λ_ _=>rfl)) (fc (fv 1) aA))) (fc (aC g_mproduct hr (by omega) rfl (fc (aG rfl (fv 0) aB (λ_ _=>rfl)) (fc (fv 1) aA))) aA)))))) ?rd
 case len=>rintro as Q ⟨x,y,b,e,rfl,_⟩;rfl
 case rd=>
  rintro as Q ⟨x,y,b,e,rfl,h,hb,hs,q⟩;have:=h.sx;have:=h.sy;exact ⟨_,_,rfl,h.x,hb,by omega,_,_,rfl,h.y,hb,by omega,rfl,q⟩
abbrev pT:aVK:=top 37
theorem aCJ:aN ["_law_one","_law_other"] ["_law_one","_law_other"] (aH pT):=⟨rfl,rfl,rfl,by decide +kernel,rfl,by decide +kernel,by decide +kernel⟩
theorem aCS {f:aVA} {fd:aVF} (F:fO K "_law_cross" "_law_cross" pT f fd) (TX:Txt mg) (g_mless:Fn P w K mg base 2 "_law_less" ["_law_one","_law_other"] (aI K (jN bK))) (g_mproduct:Fn P w K mg base 2 "_law_product" ["_law_one","_law_other"] (aI K (jN fS)))   : bL P w K mg base fP 3 f fd ["_law_one","_law_other"] (aI K (tVV d5)):=by
 refine F.okT aCJ ?len (λcdv A outer s H E hr=>(aJ (aO (aC g_mless hr (by omega) rfl (fc (aC g_mproduct hr (by omega) rfl (fc (aG rfl (fv 0) aB (λ_ _=>rfl)) (fc (aG rfl (fv 1) aB (λ_ _=>rfl)) aA))) (fc (aC g_mproduct hr (by omega) rfl (fc (aG rfl (fv 0) aB (λ_ _=>rfl)) (fc (aG rfl (fv 1) aB (λ_ _=>rfl)) aA))) aA)))))) ?rd
 case len=>rintro as Q ⟨x,y,x',y',e,f,rfl,_⟩;rfl
 case rd=>
  rintro as Q ⟨x,y,x',y',e,f,rfl,h,k,he,q⟩;have:=h.sx;have:=h.sy;have:=k.sx;have:=k.sy;have n1:=bC h.x k.y;have n2:=bC h.y k.x;have s1:=gK h.x k.y;have s2:=gK h.y k.x;exact ⟨_,_,rfl,h.x,k.y,by omega,_,_,rfl,h.y,k.x,by omega,_,_,rfl,n1,n2,by omega,rfl,q⟩
abbrev x9:aVK:=top 38
theorem aIA:aN ["_law_one","_law_other"] ["_law_one","_law_other"] (aH x9):=⟨rfl,rfl,rfl,by decide +kernel,rfl,by decide +kernel,by decide +kernel⟩
theorem aI0 {f:aVA} {fd:aVF} (F:fO K "_law_dot" "_law_dot" x9 f fd) (TX:Txt mg) (g_msum:Fn P w K mg base 2 "_law_sum" ["_law_one","_law_other"] (aI K (jN iC))) (g_mproduct:Fn P w K mg base 2 "_law_product" ["_law_one","_law_other"] (aI K (jN fS)))   : bL P w K mg base fP 3 f fd ["_law_one","_law_other"] (aI K (tVV oR)):=by
 refine F.okT aIA ?len (λcdv A outer s H E hr=>(aJ (aO (aC g_msum hr (by omega) rfl (fc (aC g_mproduct hr (by omega) rfl (fc (aG rfl (fv 0) aB (λ_ _=>rfl)) (fc (aG rfl (fv 1) aB (λ_ _=>rfl)) aA))) (fc (aC g_mproduct hr (by omega) rfl (fc (aG rfl (fv 0) aB (λ_ _=>rfl)) (fc (aG rfl (fv 1) aB (λ_ _=>rfl)) aA))) aA)))))) ?rd
 case len=>rintro as Q ⟨x,y,x',y',e,f,rfl,_⟩;rfl
 case rd=>
  rintro as Q ⟨x,y,x',y',e,f,rfl,h,k,he,q⟩;have:=h.sx;have:=h.sy;have:=k.sx;have:=k.sy;have n1:=bC h.x k.x;have n2:=bC h.y k.y;have s1:=gK h.x k.x;have s2:=gK h.y k.y;exact ⟨_,_,rfl,h.x,k.x,by omega,_,_,rfl,h.y,k.y,by omega,_,_,rfl,n1,n2,by omega,rfl,q⟩
end
end My
namespace My
open PySem L2 PyProof.Rows
section
variable {P:aVD} {w:aVH} {K:W.Frag} {mg:Str->Option Value} {base:Heap}
def hf (n:Int):Fr:=low n 2
theorem iY (n:Int):cH (hf n):=gU (by decide)
theorem mW (n:Int):val (hf n)=(n:Rat)*(1/2):=by
 unfold hf;rw [kS (by decide)]
 push_cast
 grind
theorem aF4 {n:Int} {e:Nat} (h:n.natAbs<2^e) (he:2<=e):sz (hf n)<=e:=nG (by decide) h (aEG (show (2:Int).natAbs<2^2 by decide) (aQ6 (by decide) he)) (by omega)
theorem aGF (n a:Int):iC (hf n) (a,1)=hf (n+2*a):=by
 refine iJ (eD (iY n) (b8 a)) (iY _) ?_;rw [jK (iY n) (b8 a),mW,mW,kM]
 push_cast
 grind
def pA:gW:=λas Q=>∃(xs:List L2.T) (w n:Int),as=[.b xs,.v (.int w)]/\Bx xs n/\n<=900000/\1<=w/\w<=10/\∀X Y ys,-(2*w)<=X->X<2*w->-(2*w)<=Y->Y<2*w->Bx ys (n+2)->Q (.v (pt (hf X,hf Y))) ys
abbrev lX:aVK:=top 40
theorem xO:aN ["_law_box_here","_law_wide"] ["_law_box_here","_law_wide"] (aH lX):=⟨rfl,rfl,rfl,by decide +kernel,rfl,by decide +kernel,by decide +kernel⟩
theorem wQ {f:aVA} {fd:aVF} (F:fO K "_law_spot_at" "_law_spot_at" lX f fd) (TX:Txt mg) (g_take:Fn P w K mg base 1 "_law_take" ["_law_box_here","_law_many"] (aI K pZ)) (g_mfrac:Fn P w K mg base 1 "_law_frac" ["_law_n","_law_d"] (aI K yH))   : bL P w K mg base fP 2 f fd ["_law_box_here","_law_wide"] (aI K pA):=by
 refine F.okT xO ?len (λcdv A outer s H E hr=>(aJ (aO (aQ (fc (aC g_mfrac hr (by omega) rfl (fc (aU dW (bD g_take hr (by omega) rfl (fc (fv 0) (fc (aP aV aB (fv 1)) aA))) (aP aV aB (fv 1))) (fc aB aA))) (fc (aC g_mfrac hr (by omega) rfl (fc (aU dW (bD g_take hr (by omega) rfl (fc (fv 0) (fc (aP aV aB (fv 1)) aA))) (aP aV aB (fv 1))) (fc aB aA))) aA)))))) ?rd
 case len=>rintro as Q ⟨xs,w,n,rfl,_⟩;rfl
 case rd=>
  rintro as Q ⟨xs,w,n,rfl,bx,hn,w1,w2,q⟩;obtain ⟨A0,B0,c0,rfl,_⟩:=id bx;refine ⟨rM (by decide),_,4*w,n,rfl,bx,by omega,by omega,by omega,λr1 y1 a1 a2 b1=>?_⟩;obtain ⟨A1,B1,c1,rfl,_⟩:=id b1;refine ⟨rM (by decide),_,_,rfl,by decide,by decide,?_⟩;refine ⟨rM (by decide),_,4*w,n+1,rfl,b1,by omega,by omega,by omega,λr2 y2 a3 a4 b2=>?_⟩;obtain ⟨A2,B2,c2,rfl,_⟩:=id b2;refine ⟨rM (by decide),_,_,rfl,by decide,by decide,?_⟩;exact ⟨rfl,q (r1-2*w) (r2-2*w) _ (by omega) (by omega) (by omega) (by omega) (b2.mono (by omega))⟩
def e7 (x y:Int):Nat->List (Int×Int)
 | 0=>[(0,0),(x,0),(x,y),(0,y)]
 | 1=>[(0,0),(x,1),(x+1,y+2),(1,y+1)]
 | 2=>[(0,0),(x,0),(0,y)]
 | 3=>[(0,0),(x,0),(x+1,0),(x+1,y),(0,y)]
 | _=>[(1,0),(x+1,0),(x+2,1),(x+2,y+1),(x+1,y+2),(0,1)]
def eN (X Y:Int) (cs:List (Int×Int)):List Pt:=cs.map λc=>(hf (X+2*c.1),hf (Y+2*c.2))
structure aSV (m:Str) (n:Nat):Prop where
 len:m.cps.size=n
 all:∀c∈m.cps.toList,c∈("lrbe-":Str).cps.toList
structure LB (M:Int) (b:e9):Prop where
 ex:∃(w:Nat) (x y X Y:Int),w<5/\1<=x/\x<=6/\1<=y/\y<=6/\X.natAbs<=M/\Y.natAbs<=M/\b.o=eN X Y (e7 x y w)
 m:aSV b.m b.o.length
 w:b.w.length<=1000
theorem vV {x y:Int} (hx:1<=x) (hx':x<=6) (hy:1<=y) (hy':y<=6) (w:Nat):∀c∈e7 x y w,0<=c.1/\c.1<=8/\0<=c.2/\c.2<=8:=by
 intro c m
 match w with
 | 0 | 1 | 2 | 3 | _+4=>
  simp only [e7,aB1,aRO,or_false,Prod.ext_iff] at m;omega
theorem uM (x y:Int) (w:Nat):3<=(e7 x y w).length/\(e7 x y w).length<=6:=by
 match w with
 | 0 | 1 | 2 | 3 | _+4=>simp only [e7,aKX,aTG];omega
def pzT (c:Int×Int):L2.T:=.tup [.int c.1,.int c.2]
def lsZ (x y:Int):List L2.T:=[L2.T.lst ((e7 x y 0).map pzT),.lst ((e7 x y 1).map pzT),.lst ((e7 x y 2).map pzT),.lst ((e7 x y 3).map pzT),.lst ((e7 x y 4).map pzT)]
theorem aO2 {r:Int} (h:0<=r) (k:r<5):∃c∈("lrbe-":Str).cps.toList,e8 ("lrbe-":Str).cps.toList r=some c:=by
 have:r=0\/r=1\/r=2\/r=3\/r=4:=by omega
 rcases this with rfl | rfl | rfl | rfl | rfl
 ·exact ⟨_,by decide,rfl⟩
 ·exact ⟨_,by decide,rfl⟩
 ·exact ⟨_,by decide,rfl⟩
 ·exact ⟨_,by decide,rfl⟩
 ·exact ⟨_,by decide,rfl⟩
theorem mJ {X Y:Int} (h:X.natAbs<2^15) (k:Y.natAbs<2^15):Nv (hf X) (hf Y) 15:=⟨iY _,iY _,aF4 h (by decide),aF4 k (by decide)⟩
theorem aFD {a b:Int} (h:a.natAbs<2^15) (k:b.natAbs<2^15):Nv (a,1) (b,1) 15:=⟨b8 _,b8 _,j8 h (show (1:Int).natAbs<2^15 by decide) (by decide),j8 k (show (1:Int).natAbs<2^15 by decide) (by decide)⟩
def rE (cs:List Nat):List Str:=cs.map λc=>⟨#[c]⟩
theorem aLJ:∀cs:List Nat,cs.length=6->JoinOk (aTK "") (rE cs)=true/\∃m:Str,Txt.join (aTK "") (rE cs)=m/\m.length<=big/\∀n:Nat,3<=n->n<=6->(aTZ m none (some (n:Int))).cps.toList=cs.take n
 | [a,b,c,d,e,f],_=>by
  refine ⟨rfl,⟨#[a,b,c,d,e,f]⟩,rfl,(show 6<=big by decide),λn h1 h2=>?_⟩;have:n=3\/n=4\/n=5\/n=6:=by omega
  rcases this with rfl | rfl | rfl | rfl
  ·rfl
  ·rfl
  ·rfl
  ·rfl
def tL:gW:=λas Q=>∃(xs:List L2.T) (n:Int),as=[.b xs,.v (.int 3)]/\Bx xs n/\n<=800000/\∀b ys,LB 6 b->Bx ys (n+13)->Q (.v (cW b)) ys
abbrev qU:aVK:=top 41
theorem fT:aN ["_law_box_here","_law_wide","_law_some","_law_spots","_law_way","_law_x","_law_y","_law_at","_law_marks","_law_word","_law_number"] ["_law_box_here","_law_wide"] (aH qU):=⟨rfl,rfl,rfl,by decide +kernel,rfl,by decide +kernel,by decide +kernel⟩
theorem aCI {f:aVA} {fd:aVF} (F:fO K "_law_shape" "_law_shape" qU f fd) (TX:Txt mg) (g_take:Fn P w K mg base 1 "_law_take" ["_law_box_here","_law_many"] (aI K pZ)) (g_mspot_at:Fn P w K mg base 2 "_law_spot_at" ["_law_box_here","_law_wide"] (aI K pA)) (g_madd:Fn P w K mg base 3 "_law_add" ["_law_one","_law_other"] (aI K vN))   : bL P w K mg base fP 4 f fd ["_law_box_here","_law_wide"] (aI K tL):=by
 refine F.okT fT ?len (λcdv A outer s H E hr=>(aE (aAJ (i:=4) (j:=5) (k:=6) rfl fT.nd rfl rfl rfl (by decide) (by decide) (by decide) rfl rfl rfl (fc (bD g_take hr (by omega) rfl (fc (fv 0) (fc aB aA))) (fc (aU bU aB (bD g_take hr (by omega) rfl (fc (fv 0) (fc aB aA)))) (fc (aU bU aB (bD g_take hr (by omega) rfl (fc (fv 0) (fc aB aA)))) aA))) rfl)
 (aE (jB (aQ (fc (bD g_mspot_at hr (by omega) rfl (fc (fv 0) (fc (fv 1) aA))) (fc (aHY rfl dC (fc (gV (N':=["_law_k","_law_box_here"]) (t:=1) (cap:=[(0,true)]) rfl (bN.of rfl) rfl (by decide) (eZ rfl TX.n_range (fc aB aA)) (λ_ _ _ _=>(aK (i:=0) (show aQ2 (["_law_k","_law_box_here"]:List Str) by decide +kernel) rfl (aDC rfl) (aN3 rfl))) (λ_ _ _ _=>(aGZ rfl dC (bD g_take hr (by omega) rfl (fc (fv 1) (fc aB aA))) (λ_ _=>rfl)))) aA)) aA))) (cZ (n:=2) rfl rfl (aM (aK (i:=7) fT.nd rfl (aN3 rfl)) (aM (aK (i:=8) fT.nd rfl (aDC rfl)) b9))))
 (aE (aX (i:=2) fT.nd rfl (aDC rfl) (aJR (fc (cC (fc (aQ (fc aB (fc aB aA))) (fc (aQ (fc (fv 5) (fc aB aA))) (fc (aQ (fc (fv 5) (fc (fv 6) aA))) (fc (aQ (fc aB (fc (fv 6) aA))) aA))))) (fc (cC (fc (aQ (fc aB (fc aB aA))) (fc (aQ (fc (fv 5) (fc aB aA))) (fc (aQ (fc (aU bU (fv 5) aB) (fc (aU bU (fv 6) aB) aA))) (fc (aQ (fc aB (fc (aU bU (fv 6) aB) aA))) aA))))) aA))))
 (aE (iD (lO rfl (fv 2) (fc (cC (fc (aQ (fc aB (fc aB aA))) (fc (aQ (fc (fv 5) (fc aB aA))) (fc (aQ (fc aB (fc (fv 6) aA))) aA)))) aA)))
 (aE (iD (lO rfl (fv 2) (fc (cC (fc (aQ (fc aB (fc aB aA))) (fc (aQ (fc (fv 5) (fc aB aA))) (fc (aQ (fc (aU bU (fv 5) aB) (fc aB aA))) (fc (aQ (fc (aU bU (fv 5) aB) (fc (fv 6) aA))) (fc (aQ (fc aB (fc (fv 6) aA))) aA)))))) aA)))
 (aE (iD (lO rfl (fv 2) (fc (cC (fc (aQ (fc aB (fc aB aA))) (fc (aQ (fc (aU bU (fv 5) aB) (fc aB aA))) (fc (aQ (fc (aU bU (fv 5) aB) (fc aB aA))) (fc (aQ (fc (aU bU (fv 5) aB) (fc (aU bU (fv 6) aB) aA))) (fc (aQ (fc (aU bU (fv 5) aB) (fc (aU bU (fv 6) aB) aA))) (fc (aQ (fc aB (fc aB aA))) aA))))))) aA)))
 (aE (aX (i:=3) fT.nd rfl (aDC rfl) (qF rfl rfl TX.n_tuple (fc (gV (N':=["_law_a","_law_b","_law_at"]) (t:=2) (cap:=[(7,false)]) rfl (bN.of rfl) rfl (by decide) (eF rfl (aG rfl (fv 2) (fv 4) (λ_ _=>rfl))) (λ_ _ _ _=>(cZ (n:=2) rfl rfl (aM (aK (i:=0) (show aQ2 (["_law_a","_law_b","_law_at"]:List Str) by decide +kernel) rfl (aDC rfl) (aN3 rfl)) (aM (aK (i:=1) (show aQ2 (["_law_a","_law_b","_law_at"]:List Str) by decide +kernel) rfl (aDC rfl) (aN3 rfl)) b9)))) (λ_ _ _ _=>(aC g_madd hr (by omega) rfl (fc (fv 2) (fc (aQ (fc (aQ (fc (fv 0) (fc aB aA))) (fc (aQ (fc (fv 1) (fc aB aA))) aA))) aA))))) aA)))
 (aE (eS (i:=9) (j:=10) rfl fT.nd rfl rfl (by decide) rfl rfl (fc (aG rfl (cC (fc dC (fc dC (fc dC (fc dC aA))))) (bD g_take hr (by omega) rfl (fc (fv 0) (fc aB aA))) (λ_ _=>rfl)) (fc (bD g_take hr (by omega) rfl (fc (fv 0) (fc aB aA))) aA)) rfl)
 (aJ (aO (aQ (fc (fv 9) (fc (fv 10) (fc (fv 3) (fc (aCL (fv 8) kG (iH (fJ rfl rfl TX.n_len (fc (fv 3) aA)))) aA)))))))))))))))) ?rd
 case len=>rintro as Q ⟨xs,n,rfl,_⟩;rfl
 case rd=>
  rintro as Q ⟨xs,n,rfl,bx,hn,q⟩;obtain ⟨A0,B0,c0,rfl,_⟩:=id bx;refine ⟨_,5,n,rfl,bx,by omega,by decide,by decide,λr1 y1 a1 a2 b1=>?_⟩;obtain ⟨A1,B1,c1,rfl,_⟩:=id b1;refine ⟨_,6,n+1,rfl,b1,by omega,by decide,by decide,λr2 y2 a3 a4 b2=>?_⟩;obtain ⟨A2,B2,c2,rfl,_⟩:=id b2;refine ⟨_,6,n+1+1,rfl,b2,by omega,by decide,by decide,λr3 y3 a5 a6 b3=>?_⟩;obtain ⟨A3,B3',c3,rfl,_⟩:=id b3;refine ⟨_,3,n+1+1+1,rfl,b3,by omega,by decide,by decide,λX Y y4 x1 x2 x3 x4 b4=>?_⟩;obtain ⟨A4,B4,c4,rfl,_⟩:=id b4;obtain ⟨w,hw,rfl⟩:∃w:Nat,w<5/\r1=(w:Int):=⟨r1.toNat,by omega,by omega⟩;refine ⟨by decide,rfl,?_⟩;show gZ _ _ (gT 0 6) _ _;refine aCA (λi E=>∃(w0:Option U) (ys:List L2.T) (cs:List Nat),E=[w0,some (.o true ys),some (.o false (jL (rE cs)))]/\Bx ys (n+5+i)/\cs.length=i/\∀c∈cs,c∈("lrbe-":Str).cps.toList) ⟨none,_,[],rfl,b4.mono (by simp;omega),rfl,λc m=>absurd m (by simp)⟩ ?_ ?_
  ·rintro i t rest E hi ⟨w0,ys,cs,rfl,bi,hc,hm⟩ KK;obtain ⟨hin,rfl⟩:=j6 hi;obtain ⟨A5,B5,c5,rfl,_⟩:=id bi;refine ⟨_,5,_,rfl,bi,by omega,by decide,by decide,λr y5 u1 u2 b5=>?_⟩;obtain ⟨A6,B6,c6,rfl,_⟩:=id b5;obtain ⟨c,mc,hc'⟩:=aO2 u1 u2;refine ⟨(show 5<=big by decide),?_⟩;show o1 (e8 ("lrbe-":Str).cps.toList r) _;rw [hc'];refine ⟨(show (jL (rE cs)).length<1000 by simp [jL,rE];omega),KK _ ⟨some (.p (.int (0+(i:Int)))),[.int A6,.int B6,.int c6],cs++[c],?_,b5.mono (by push_cast;omega),by simp [hc],λz mz=>?_⟩⟩
   ·show [_,_,some (U.o false (jL (rE cs)++[L2.T.str ⟨#[c]⟩]))]=_;rw [show jL (rE cs)++[L2.T.str ⟨#[c]⟩]=jL (rE (cs++[c])) by simp [jL,rE]]
   ·rcases aM3.mp mz with mz | mz
    ·exact hm z mz
    ·rw [aPD] at mz;rw [mz];exact mc
  ·rintro E ⟨w0,ys,cs,rfl,bi,hc,hm⟩;have hc6:cs.length=6:=by rw [hc];rfl
   obtain ⟨A5,B5,c5,rfl,_⟩:=id bi;obtain ⟨jo,ms,ej,lj,sl⟩:=aLJ cs hc6;refine ⟨bB (λ_=>rfl) _,?_⟩;show o1 (jE (jL (rE cs))) _;rw [vH];refine ⟨jo,λz ez=>?_⟩;rw [ej] at ez;subst ez;refine ⟨(show 2<1000 by decide),(show 3<1000 by decide),(show 4<1000 by decide),?_⟩;have hat:e8 (lsZ (1+r2) (1+r3)) (w:Int)=some (L2.T.lst ((e7 (1+r2) (1+r3) w).map pzT)):=by
    match w,hw with
    | 0,_ | 1,_ | 2,_ | 3,_ | 4,_=>rfl
   show o1 (e8 (lsZ (1+r2) (1+r3)) (w:Int)) _;rw [hat];have bs:=vV (x:=1+r2) (y:=1+r3) (by omega) (by omega) (by omega) (by omega) w;have ls:=uM (1+r2) (1+r3) w;refine ⟨rfl,cB (f:=pzT) (h:=λc=>pt (hf (X+2*c.1),hf (Y+2*c.2))) (λ(v:Option U×Option U) acc=>[v.1,v.2,some (.p (pt (hf X,hf Y))),some (.o false acc)]) (e7 (1+r2) (1+r3) w) (none,none) [] (by simp;omega) (λc m v acc rest ha K=>?_) λv=>?_⟩
   ·have:=bs c m;refine ⟨hf X,hf Y,(c.1,1),(c.2,1),15,15,rfl,mJ (by omega) (by omega),aFD (by omega) (by omega),by decide,?_⟩;rw [aGF,aGF];exact ⟨ha,K (some (.p (.int c.1)),some (.p (.int c.2)))⟩
   ·refine ⟨bB (λ_=>rfl) _,?_⟩;have eo:([]++(e7 (1+r2) (1+r3) w).map λc=>pt (hf (X+2*c.1),hf (Y+2*c.2)))=(eN X Y (e7 (1+r2) (1+r3) w)).map pt:=by rw [aQY,eN,aN1];rfl
    rw [eo];have lo:(eN X Y (e7 (1+r2) (1+r3) w)).length=(e7 (1+r2) (1+r3) w).length:=by rw [eN,aBC]
    have hb:∀(s:Str) (k:Int),s.length<=1000->LB 6 ⟨s,k,eN X Y (e7 (1+r2) (1+r3) w),aTZ z none (some ((e7 (1+r2) (1+r3) w).length:Int))⟩:=λs k hs=>by
     refine ⟨⟨w,1+r2,1+r3,X,Y,hw,by omega,by omega,by omega,by omega,by omega,by omega,rfl⟩,⟨?_,?_⟩,hs⟩
     ·show (aTZ z none (some ((e7 (1+r2) (1+r3) w).length:Int))).cps.size=(eN X Y (e7 (1+r2) (1+r3) w)).length;rw [lo,<-aTC,sl _ ls.1 ls.2,aMI,hc6];omega
     ·show ∀c∈(aTZ z none (some ((e7 (1+r2) (1+r3) w).length:Int))).cps.toList,_;rw [sl _ ls.1 ls.2];exact λc m=>hm c (aS8 m)
    generalize eN X Y (e7 (1+r2) (1+r3) w)=O at *;refine (?_:kF [some (.o true [.int A5,.int B5,.int c5]),some (.p (.int 3)),some (.o false (lsZ (1+r2) (1+r3))),some (.p (.tup (O.map pt))),some (.p (.int (w:Int))),some (.p (.int (1+r2))),some (.p (.int (1+r3))),some (.p (pt (hf X,hf Y))),some (.p (.str z)),none,none] _);refine ⟨_,4,_,rfl,bi,by omega,by decide,by decide,λr6 y6 u1 u2 b6=>?_⟩;obtain ⟨A6,B6,c6,rfl,_⟩:=id b6;obtain ⟨s,hs,hsl⟩:∃s:Str,e8 [L2.T.str "strip",.str "fan",.str "cap",.str "sector"] r6=some (L2.T.str s)/\s.length<=1000:=by
     have:r6=0\/r6=1\/r6=2\/r6=3:=by omega
     rcases this with rfl | rfl | rfl | rfl
     ·exact ⟨_,rfl,by decide⟩
     ·exact ⟨_,rfl,by decide⟩
     ·exact ⟨_,rfl,by decide⟩
     ·exact ⟨_,rfl,by decide⟩
    show o1 (e8 [L2.T.str "strip",.str "fan",.str "cap",.str "sector"] r6) _;rw [hs];refine ⟨_,4,_,rfl,b6,by omega,by decide,by decide,λr7 y7 u3 u4 b7=>?_⟩;obtain ⟨A7,B7,c7,rfl,_⟩:=id b7;refine ⟨lj,λy ey=>?_⟩;have el:((O.map pt).length:Int)=((e7 (1+r2) (1+r3) w).length:Int):=by rw [aBC,lo]
    have ey':y=aTZ z none (some ((O.map pt).length:Int)):=ey;rw [el] at ey';subst ey';exact ⟨aF3 ⟨s,r7,O,aTZ z none (some ((e7 (1+r2) (1+r3) w).length:Int))⟩,q _ _ (hb s r7 hsl) (b7.mono (by omega))⟩
end
end My
namespace My
open PySem L2 PyProof.Rows
section
variable {P:aVD} {w:aVH} {K:W.Frag} {mg:Str->Option Value} {base:Heap}
theorem pD {α:Type} {f:α->L2.T} {xs:List α} {j:Nat} (h:j<xs.length):∃x,xs[(j+xs.length-1)%xs.length]? = some x/\e8 (xs.map f) ((j:Int)-1)=some (f x):=by
 have hk:(j+xs.length-1)%xs.length<xs.length:=aTQ _ (by omega);refine ⟨_,aAX hk,?_⟩;unfold e8;have e:xQ (xs.map f).length ((j:Int)-1)=some ((j+xs.length-1)%xs.length):=by
  unfold xQ;rw [aBC];cases j with
  | zero=>
   rw [if_neg (by omega),if_pos (by omega)]
   congr 1
   rw [show 0+xs.length-1=xs.length-1 by omega,aRD (by omega)];omega
  | succ j=>
   rw [if_pos (by omega),if_pos (by omega)]
   congr 1
   rw [show j+1+xs.length-1=j+xs.length by omega,aUQ,aRD (by omega)];omega
 rw [e];simp [aAX hk]
theorem zK {p q d:Int} (h:p-q=2*d):bK (hf p) (hf q)=(d,1):=by
 refine iJ (cU (iY p) (iY q)) (b8 d) ?_;have:(p:Rat)-(q:Rat)=2*(d:Rat):=by exact_mod_cast h
 rw [gP (iY p) (iY q),mW,mW,kM];grind
theorem aBD (p q:Int):iC (hf p) (hf q)=hf (p+q):=by
 refine iJ (eD (iY p) (iY q)) (iY _) ?_;rw [jK (iY p) (iY q),mW,mW,mW]
 push_cast
 grind
theorem aGM (d s:Int):fS (d,1) (hf s)=hf (s*d):=by
 refine iJ (bC (b8 d) (iY s)) (iY _) ?_;rw [gF (b8 d) (iY s),mW,mW,kM]
 push_cast
 grind
theorem LB.mono {M N:Int} {b:e9} (h:LB M b) (k:M<=N):LB N b:=by
 obtain ⟨⟨w,x,y,X,Y,h1,h2,h3,h4,h5,h6,h7,h8⟩,hm,hw⟩:=h;exact ⟨⟨w,x,y,X,Y,h1,h2,h3,h4,h5,by omega,by omega,h8⟩,hm,hw⟩
theorem aFJ {X Y:Int} {zs:List (Int×Int)} {j:Nat} {p:Pt} (h:(eN X Y zs)[j]? = some p):∃c∈zs,p=(hf (X+2*c.1),hf (Y+2*c.2)):=by
 obtain ⟨c,m,e⟩:=aDB.mp (aFS h);exact ⟨c,m,e.symm⟩
theorem kI {α:Type} {f:α->L2.T} {n:Nat} (h:∀x,L2.dT (f x)<=n):∀xs:List α,L2.zZ (xs.map f)<=n
 | []=>aQ5 _
 | x::xs=>by rw [aPB,L2.zZ];exact aUB.mpr ⟨h x,kI h xs⟩
theorem aOY (b:e9):L2.dT (cW b)<=5:=by
 have h:=kI (f:=pt) (n:=2) (λ_=>eV rfl) b.o;unfold cW;simp only [L2.dT,L2.zZ];have:aUT 0 (aUT 0 (aUT (L2.zZ (b.o.map pt)+1) (aUT 0 0)))<=4:=aUB.mpr ⟨by omega,aUB.mpr ⟨by omega,aUB.mpr ⟨by omega,aUB.mpr ⟨by omega,by omega⟩⟩⟩⟩;omega
theorem sh4 {r:Int} (h:0<=r) (k:r<4):∃s:Int,0<=s/\s<=4/\e8 [L2.T.tup [.int 0,.int 1],.tup [.int 1,.int 1],.tup [.int 1,.int 2],.tup [.int 2,.int 1]] r=some (fr (hf s)):=by
 have:r=0\/r=1\/r=2\/r=3:=by omega
 rcases this with rfl | rfl | rfl | rfl
 ·exact ⟨0,by decide,by decide,rfl⟩
 ·exact ⟨2,by decide,by decide,rfl⟩
 ·exact ⟨1,by decide,by decide,rfl⟩
 ·exact ⟨4,by decide,by decide,rfl⟩
def aM7:gW:=λas Q=>∃(xs:List L2.T) (M n:Int),as=[.b xs,.v (.int M)]/\Bx xs n/\n<=700000/\1<=M/\M<=10/\∀(bs:List e9) (ys:List L2.T),1<=bs.length->(bs.length:Int)<=M->(∀b∈bs,LB 400 b)->Bx ys (n+300)->Q (.l (bs.map cW)) ys
abbrev xY:aVK:=top 42
theorem eC:aN ["_law_box_here","_law_most","_law_found","_law_k","_law_way","_law_block","_law_at","_law_share","_law_step","_law_word","_law_number","_law_spots","_law_marks"] ["_law_box_here","_law_most"] (aH xY):=⟨rfl,rfl,rfl,by decide +kernel,rfl,by decide +kernel,by decide +kernel⟩
theorem aG9 {f:aVA} {fd:aVF} (F:fO K "_law_lot" "_law_lot" xY f fd) (TX:Txt mg) (g_take:Fn P w K mg base 1 "_law_take" ["_law_box_here","_law_many"] (aI K pZ)) (g_mshape:Fn P w K mg base 4 "_law_shape" ["_law_box_here","_law_wide"] (aI K tL)) (g_madd:Fn P w K mg base 3 "_law_add" ["_law_one","_law_other"] (aI K vN)) (g_mscaled_by:Fn P w K mg base 3 "_law_scaled_by" ["_law_vector","_law_share"] (aI K oW)) (g_msub:Fn P w K mg base 3 "_law_sub" ["_law_one","_law_other"] (aI K lR))   : bL P w K mg base fP 5 f fd ["_law_box_here","_law_most"] (aI K aM7):=by
 refine F.okT eC ?len (λcdv A outer s H E hr=>(aE (aX (i:=2) eC.nd rfl (aDC rfl) (cC aA))
 (aE (eM PassesOwn.never rfl (eZ rfl TX.n_range (fc (aU bU aB (bD g_take hr (by omega) rfl (fc (fv 0) (fc (fv 1) aA)))) aA)) (aK (i:=3) eC.nd rfl (aDC rfl))
  (aE (eS (i:=4) (j:=5) rfl eC.nd rfl rfl (by decide) rfl rfl (fc (bD g_take hr (by omega) rfl (fc (fv 0) (fc aB aA))) (fc (bD g_mshape hr (by omega) rfl (fc (fv 0) (fc aB aA))) aA)) rfl)
 (aE (dG (rF (i9 (cY fR (fv 4) aB (aS _)) (iI (l9 rfl hr (fv 2) (cC aA) (aS _))))) (aE (jB (aG rfl (fv 2) (bD g_take hr (by omega) rfl (fc (fv 0) (fc (fJ rfl rfl TX.n_len (fc (fv 2) aA)) aA))) (λ_ _=>rfl)) (cZ (n:=4) rfl rfl (aM (aK (i:=9) eC.nd rfl (aDC rfl)) (aM (aK (i:=10) eC.nd rfl (aDC rfl)) (aM (aK (i:=11) eC.nd rfl (aDC rfl)) (aM (aK (i:=12) eC.nd rfl (aDC rfl)) b9))))))
 (aE (aX (i:=6) eC.nd rfl (aDC rfl) (bD g_take hr (by omega) rfl (fc (fv 0) (fc (fJ rfl rfl TX.n_len (fc (fv 11) aA)) aA))))
 (aE (aX (i:=7) eC.nd rfl (aDC rfl) (aG rfl (cC (fc (aQ (fc aB (fc aB aA))) (fc (aQ (fc aB (fc aB aA))) (fc (aQ (fc aB (fc aB aA))) (fc (aQ (fc aB (fc aB aA))) aA))))) (bD g_take hr (by omega) rfl (fc (fv 0) (fc aB aA))) (λ_ _=>rfl)))
 (aE (aX (i:=8) eC.nd rfl (aN3 rfl) (aC g_mscaled_by hr (by omega) rfl (fc (aC g_msub hr (by omega) rfl (fc (aG rfl (fv 11) (fv 6) (λ_ _=>rfl)) (fc (aG rfl (fv 11) (aU dW (fv 6) aB) (λ_ _=>rfl)) aA))) (fc (fv 7) aA))))
 (aJ (aX (i:=5) eC.nd rfl (aDC rfl) (aQ (fc (fv 9) (fc (fv 10) (fc (qF rfl rfl TX.n_tuple (fc (gV (N':=["_law_spot","_law_step"]) (t:=1) (cap:=[(8,false)]) rfl (bN.of rfl) rfl (by decide) (tP rfl (fv 11)) (λ_ _ _ _=>(aK (i:=0) (show aQ2 (["_law_spot","_law_step"]:List Str) by decide +kernel) rfl (aDC rfl) (aN3 rfl))) (λ_ _ _ _=>(aC g_madd hr (by omega) rfl (fc (fv 0) (fc (fv 1) aA))))) aA)) (fc (fv 12) aA))))))))))) cJ)
 (aJ (iD (nP rfl (fv 2) (fc (fv 5) aA)))))))
 (aJ (aO (fv 2)))))) ?rd
 case len=>rintro as Q ⟨xs,M,n,rfl,_⟩;rfl
 case rd=>
  rintro as Q ⟨xs,M,n,rfl,bx,hn,m1,m2,q⟩;obtain ⟨A0,B0,c0,rfl,_⟩:=id bx;refine ⟨_,M,n,rfl,bx,by omega,m1,by omega,λr1 y1 a1 a2 b1=>?_⟩;obtain ⟨A1,B1,c1,rfl,_⟩:=id b1;obtain ⟨m,hm,em⟩:∃m:Nat,(m:Int)<=M/\1+r1=(m:Int):=⟨(1+r1).toNat,by omega,by omega⟩;refine ⟨⟨by show -(2^62:Int)<=1+r1;omega,by show 1+r1<2^62;omega⟩,?_⟩;show kF _ (cO _ _ _ (gT 0 (1+r1).toNat));rw [em,aQ8];refine eY (λi E=>∃(ys:List L2.T) (bs:List e9) (v3 v4 v5 v6 v7 v8 v9 v10 v11 v12:Option U),E=[some (.o true ys),some (.p (.int M)),some (.o false (bs.map cW)),v3,v4,v5,v6,v7,v8,v9,v10,v11,v12]/\Bx ys (n+1+20*i)/\bs.length=i/\∀b∈bs,LB (6+32*i) b) ⟨_,[],_,_,_,_,_,_,_,_,_,_,rfl,b1.mono (by simp),rfl,λb m=>absurd m (by simp)⟩ ?_ ?_
  ·rintro i t rest E hi ⟨ys,bs,v3,v4,v5,v6,v7,v8,v9,v10,v11,v12,rfl,bi,hl,hb⟩ KK;obtain ⟨hin,rfl⟩:=j6 hi;obtain ⟨A2,B2,c2,rfl,_⟩:=id bi;refine ⟨_,5,_,rfl,bi,by omega,by decide,by decide,λr2 y2 a3 a4 b2=>?_⟩;obtain ⟨A3,B3',c3,rfl,_⟩:=id b2;refine ⟨_,_,rfl,b2,by omega,λb y3 lb b3=>?_⟩;obtain ⟨A4,B4,c4,rfl,_⟩:=id b3;have lb1:LB (6+32*((i+1:Nat):Int)) b:=lb.mono (by omega);have hb1:∀b∈bs,LB (6+32*((i+1:Nat):Int)) b:=λb m=>(hb b m).mono (by push_cast;omega);have snoc:∀b,LB (6+32*((i+1:Nat):Int)) b->∀b'∈bs++[b],LB (6+32*((i+1:Nat):Int)) b':=λb l b' m=>by
    rcases aM3.mp m with m | m
    ·exact hb1 b' m
    ·rw [aPD] at m;rw [m];exact l
   have app:∀b,bs.map cW++[cW b]=(bs++[b]).map cW:=λb=>by rw [aQ9];rfl
   have ln:∀b,(bs.map cW++[cW b]).length<=1000:=λb=>by rw [aIG,aBC,hl];simp;omega
   show if decide (r2<2)=true then _ else _
   by_cases c:r2<2
   ·rw [decide_eq_true c,if_pos rfl];have dm:L2.dT (.lst (bs.map cW))<=60:=by
     have:=kI aOY bs;simp only [L2.dT];omega
    refine ⟨dm,?_⟩
    by_cases e0:bs=[]
    ·subst e0;refine ⟨ln b,?_⟩;exact KK [some (.o true [.int A4,.int B4,.int c4]),some (.p (.int M)),some (.o false ([b].map cW)),some (.p (.int (0+(i:Int)))),some (.p (.int r2)),some (.p (cW b)),v6,v7,v8,v9,v10,v11,v12] ⟨_,[b],_,_,_,_,_,_,_,_,_,_,rfl,b3.mono (by push_cast;omega),by simp at hl ⊢;omega,snoc b lb1⟩
    ·have ee:eH (.lst (bs.map cW)) (.lst [])=false:=by
      cases bs with
      | nil=>exact absurd rfl e0
      | cons x r=>rfl
     have el:(0:Nat)<bs.length:=List.length_pos_iff.mpr e0;show if (!(eH (.lst (bs.map cW)) (.lst [])))=true then _ else _;rw [ee,if_pos (by decide)];refine ⟨_,((bs.map cW).length:Int),_,rfl,b3,by omega,by rw [aBC];omega,by rw [aBC,hl];omega,λr5 y5 u1 u2 b5=>?_⟩;obtain ⟨A5,B5,c5,rfl,_⟩:=id b5;rw [aBC] at u2;obtain ⟨k,hk,rfl⟩:∃k:Nat,k<bs.length/\r5=(k:Int):=⟨r5.toNat,by omega,by omega⟩;show o1 (e8 (bs.map cW) (k:Int)) _;rw [fW (aAX hk)];have lk:=hb _ (aQI hk);generalize bs[k]=g at lk;obtain ⟨⟨w,x,y,X,Y,h1,h2,h3,h4,h5,h6,h7,h8⟩,hm',hw'⟩:=lk;obtain ⟨gw,gn,go,gm⟩:=g;simp only at h8 hm' hw';subst h8;have hz:=vV h2 h3 h4 h5 w;have lz:=uM x y w;have lz':(eN X Y (e7 x y w)).length=(e7 x y w).length:=by rw [eN,aBC]
     generalize hzs:e7 x y w=zs at *;refine ⟨_,(((eN X Y zs).map pt).length:Int),_,rfl,b5,by omega,by rw [aBC];omega,by rw [aBC];omega,λr6 y6 u3 u4 b6=>?_⟩;obtain ⟨A6,B6,c6,rfl,_⟩:=id b6;rw [aBC] at u4;obtain ⟨j,hj,rfl⟩:∃j:Nat,j<(eN X Y zs).length/\r6=(j:Int):=⟨r6.toNat,by omega,by omega⟩;refine ⟨_,4,_,rfl,b6,by omega,by decide,by decide,λr7 y7 u5 u6 b7=>?_⟩;obtain ⟨A7,B7,c7,rfl,_⟩:=id b7;obtain ⟨s,s0,s4,hs⟩:=sh4 u5 u6;show o1 (e8 [L2.T.tup [.int 0,.int 1],.tup [.int 1,.int 1],.tup [.int 1,.int 2],.tup [.int 2,.int 1]] r7) _;rw [hs];refine (?_:kF [some (.o true [.int A7,.int B7,.int c7]),some (.p (.int M)),some (.o false (bs.map cW)),some (.p (.int (0+(i:Int)))),some (.p (.int r2)),some (.p (cW b)),some (.p (.int (j:Int))),some (.p (fr (hf s))),v8,some (.p (.str gw)),some (.p (.int gn)),some (.p (.tup ((eN X Y zs).map pt))),some (.p (.str gm))] _);obtain ⟨p1,hp1⟩:∃p,(eN X Y zs)[j]? = some p:=⟨_,aAX hj⟩;obtain ⟨p2,hp2,at2⟩:=pD (f:=pt) hj;show o1 (e8 ((eN X Y zs).map pt) (j:Int)) _;rw [fW hp1];show o1 (e8 ((eN X Y zs).map pt) ((j:Int)-1)) _;rw [at2];obtain ⟨z1,mz1,rfl⟩:=aFJ hp1;obtain ⟨z2,mz2,rfl⟩:=aFJ hp2;have q1:=hz z1 mz1;have q2:=hz z2 mz2;have hX:X.natAbs<=400:=by omega
     have hY:Y.natAbs<=400:=by omega
     refine ⟨_,_,_,_,15,15,rfl,mJ (by omega) (by omega),mJ (by omega) (by omega),by decide,?_⟩;rw [zK (d:=z1.1-z2.1) (by omega),zK (d:=z1.2-z2.2) (by omega)];refine ⟨_,_,_,15,rfl,aFD (by omega) (by omega),iY s,by have:=aF4 (n:=s) (e:=5) (by omega) (by decide);omega,?_⟩;rw [aGM,aGM];have e1:(s*(z1.1-z2.1)).natAbs<=32:=by
      rw [aRF];exact aPW (aTN (show s.natAbs<=4 by omega) (show (z1.1-z2.1).natAbs<=8 by omega)) (by decide)
     have e2:(s*(z1.2-z2.2)).natAbs<=32:=by
      rw [aRF];exact aPW (aTN (show s.natAbs<=4 by omega) (show (z1.2-z2.2).natAbs<=8 by omega)) (by decide)
     generalize s*(z1.1-z2.1)=dx at *;generalize s*(z1.2-z2.2)=dy at *;refine ⟨rfl,?_⟩;show gZ _ _ ((eN X Y zs).map pt) _ _;have mv:LB (6+32*((i+1:Nat):Int)) ⟨gw,gn,eN (X+dx) (Y+dy) zs,gm⟩:=⟨⟨w,x,y,X+dx,Y+dy,h1,h2,h3,h4,h5,by push_cast;omega,by push_cast;omega,by rw [hzs]⟩,⟨by rw [hm'.len,eN,eN,aBC,aBC],hm'.all⟩,hw'⟩;rw [show (eN X Y zs).map pt=zs.map (λc=>pt (hf (X+2*c.1),hf (Y+2*c.2))) by rw [eN,aN1];rfl];refine cB (f:=λc=>pt (hf (X+2*c.1),hf (Y+2*c.2))) (h:=λc=>pt (hf (X+dx+2*c.1),hf (Y+dy+2*c.2))) (λ(v:Option U) acc=>[v,some (.p (pt (hf dx,hf dy))),some (.o false acc)]) zs none [] (by simp;omega) (λc m v acc rest ha K=>?_) λv=>?_
     ·have:=hz c m;refine ⟨_,_,_,_,15,15,rfl,mJ (by omega) (by omega),mJ (by omega) (by omega),by decide,?_⟩;rw [aBD,aBD,show X+2*c.1+dx=X+dx+2*c.1 by omega,show Y+2*c.2+dy=Y+dy+2*c.2 by omega];exact ⟨ha,K (some (.p (pt (hf (X+2*c.1),hf (Y+2*c.2)))))⟩
     ·refine ⟨bB (λ_=>rfl) _,?_⟩;have eo:([]++zs.map λc=>pt (hf (X+dx+2*c.1),hf (Y+dy+2*c.2)))=(eN (X+dx) (Y+dy) zs).map pt:=by rw [aQY,eN,aN1];rfl
      rw [eo];refine ⟨ln ⟨gw,gn,eN (X+dx) (Y+dy) zs,gm⟩,?_⟩;have:=KK [some (.o true [.int A7,.int B7,.int c7]),some (.p (.int M)),some (.o false ((bs++[(⟨gw,gn,eN (X+dx) (Y+dy) zs,gm⟩:e9)]).map cW)),some (.p (.int (0+(i:Int)))),some (.p (.int r2)),some (.p (cW ⟨gw,gn,eN (X+dx) (Y+dy) zs,gm⟩)),some (.p (.int (j:Int))),some (.p (fr (hf s))),some (.p (pt (hf dx,hf dy))),some (.p (.str gw)),some (.p (.int gn)),some (.p (.tup (zs.map λc=>pt (hf (X+2*c.1),hf (Y+2*c.2))))),some (.p (.str gm))] ⟨_,_,_,_,_,_,_,_,_,_,_,_,rfl,b7.mono (by push_cast;omega),by simp [hl],snoc _ mv⟩;rw [<-app] at this;exact this
   ·rw [decide_eq_false c,if_neg (by decide)];refine ⟨ln b,?_⟩;have:=KK [some (.o true [.int A4,.int B4,.int c4]),some (.p (.int M)),some (.o false ((bs++[b]).map cW)),some (.p (.int (0+(i:Int)))),some (.p (.int r2)),some (.p (cW b)),v6,v7,v8,v9,v10,v11,v12] ⟨_,bs++[b],_,_,_,_,_,_,_,_,_,_,rfl,b3.mono (by push_cast;omega),by simp [hl],snoc b lb1⟩;rw [<-app] at this;exact this
  ·rintro E ⟨ys,bs,v3,v4,v5,v6,v7,v8,v9,v10,v11,v12,rfl,bi,hl,hb⟩;have hl':bs.length=m:=by rw [hl];simp [gT]
   have hrl:((gT 0 m).length:Int)=m:=by simp [gT]
   obtain ⟨A2,B2,c2,rfl,_⟩:=id bi;exact ⟨bB aF3 _,q bs _ (by omega) (by omega) (λb mb=>(hb b mb).mono (by omega)) (bi.mono (by omega))⟩
end
end My
namespace My
open PySem L2 PyProof.Rows
section
variable {P:aVD} {w:aVH} {K:W.Frag} {mg:Str->Option Value} {base:Heap}
def zP:gW:=λas Q=>∃x y:Fr,as=[.v (fr x),.v (fr y)]/\cH x/\cH y/\y.1≠0/\sz x+sz y<=7900/\Q (.v (fr (ovF x y))) []
theorem aBO {y:Fr} (z:y.1≠0):sz (low y.2 y.1)<=sz y:=nG z (dZ y) (iX y) (aF1 y)
abbrev tQ:aVK:=top 45
theorem aGA:aN ["_law_one","_law_other"] ["_law_one","_law_other"] (aH tQ):=⟨rfl,rfl,rfl,by decide +kernel,rfl,by decide +kernel,by decide +kernel⟩
theorem aEQ {f:aVA} {fd:aVF} (F:fO K "_law_over" "_law_over" tQ f fd) (TX:Txt mg) (g_mproduct:Fn P w K mg base 2 "_law_product" ["_law_one","_law_other"] (aI K (jN fS))) (g_mfrac:Fn P w K mg base 1 "_law_frac" ["_law_n","_law_d"] (aI K yH))   : bL P w K mg base fP 3 f fd ["_law_one","_law_other"] (aI K zP):=by
 refine F.okT aGA ?len (λcdv A outer s H E hr=>(aJ (aO (aC g_mproduct hr (by omega) rfl (fc (fv 0) (fc (aC g_mfrac hr (by omega) rfl (fc (aG rfl (fv 1) aB (λ_ _=>rfl)) (fc (aG rfl (fv 1) aB (λ_ _=>rfl)) aA))) aA)))))) ?rd
 case len=>rintro as Q ⟨x,y,rfl,_⟩;rfl
 case rd=>
  rintro as Q ⟨x,y,rfl,hx,hy,hz,hs,q⟩;have:=aBO hz;exact ⟨y.2,y.1,rfl,hz,sP (iX y) (by omega),x,low y.2 y.1,rfl,hx,gU hz,by omega,rfl,q⟩
theorem aA4 {x y:Fr} (h:cH x) (z:y.1≠0):sz (ovF x y)<=sz x+sz y:=by
 have:=gK h (gU (n:=y.2) z);have:=aBO z;unfold ovF;omega
theorem Pb.np {p:Pt} (h:Pb p):NP p:=⟨h.v.x,h.v.y⟩
def aIZ:gW:=λas Q=>∃(a b:Pt) (f:Fr),as=[.v (pt a),.v (pt b),.v (fr f)]/\Pb a/\Pb b/\cH f/\sz f<=1000/\Q (.v (pt (gG a b f))) []
abbrev aFM:aVK:=top 49
theorem aLF:aN ["_law_a","_law_b","_law_share"] ["_law_a","_law_b","_law_share"] (aH aFM):=⟨rfl,rfl,rfl,by decide +kernel,rfl,by decide +kernel,by decide +kernel⟩
theorem aNJ {f:aVA} {fd:aVF} (F:fO K "_law_on" "_law_on" aFM f fd) (TX:Txt mg) (g_madd:Fn P w K mg base 3 "_law_add" ["_law_one","_law_other"] (aI K vN)) (g_mscaled_by:Fn P w K mg base 3 "_law_scaled_by" ["_law_vector","_law_share"] (aI K oW)) (g_msub:Fn P w K mg base 3 "_law_sub" ["_law_one","_law_other"] (aI K lR))   : bL P w K mg base fP 4 f fd ["_law_a","_law_b","_law_share"] (aI K aIZ):=by
 refine F.okT aLF ?len (λcdv A outer s H E hr=>(aJ (aO (aC g_madd hr (by omega) rfl (fc (fv 0) (fc (aC g_mscaled_by hr (by omega) rfl (fc (aC g_msub hr (by omega) rfl (fc (fv 1) (fc (fv 0) aA))) (fc (fv 2) aA))) aA)))))) ?rd
 case len=>rintro as Q ⟨p,q,f,rfl,_⟩;rfl
 case rd=>
  rintro as Q ⟨p,q,f,rfl,hp,hq,hf,hs,z⟩;have n1:=dY hq.v hp.v;exact ⟨_,_,_,_,_,_,rfl,hq.v,hp.v,by decide,_,_,_,_,rfl,n1,hf,by omega,_,_,_,_,_,_,rfl,hp.v,aEW n1 hf,by omega,rfl,z⟩
theorem oB {x y x' y':Fr} {e f:Nat} (h:Nv x y e) (k:Nv x' y' f):cH (d5 x y x' y')/\sz (d5 x y x' y')<=2*(e+f)+1:=by
 have:=h.sx;have:=h.sy;have:=k.sx;have:=k.sy;have s1:=gK h.x k.y;have s2:=gK h.y k.x;have s3:=yB (bC h.x k.y) (bC h.y k.x);exact ⟨aCU h k,by unfold d5;omega⟩
theorem nQ {x y x' y':Fr} {e f:Nat} (h:Nv x y e) (k:Nv x' y' f):cH (oR x y x' y')/\sz (oR x y x' y')<=2*(e+f)+1:=by
 have:=h.sx;have:=h.sy;have:=k.sx;have:=k.sy;have s1:=gK h.x k.x;have s2:=gK h.y k.y;have s3:=t8 (bC h.x k.x) (bC h.y k.y);exact ⟨aJM h k,by unfold oR;omega⟩
theorem aAN (n:Int):eH (.int n) (.int 0)=decide (n=0):=by
 rw [aP4];simp [L2.eH]
def aG7:gW:=λas Q=>∃a b c d:Pt,as=[.v (pt a),.v (pt b),.v (pt c),.v (pt d)]/\Pb a/\Pb b/\Pb c/\Pb d/\a≠b/\Q (.l ((hV a b c d).map fr)) []
theorem mV {a b:Pt} (ha:NP a) (hb:NP b) (h:a≠b):0<bE (bH (vq b) (vq a)) (bH (vq b) (vq a)):=by
 unfold bE;have s1:=sq0 (bH (vq b) (vq a)).1;have s2:=sq0 (bH (vq b) (vq a)).2
 by_cases y1:(bH (vq b) (vq a)).1=0
 ·by_cases y2:(bH (vq b) (vq a)).2=0
  ·have e1:val b.1-val a.1=0:=y1;have e2:val b.2-val a.2=0:=y2;exact absurd (Prod.ext (iJ ha.x hb.x (by grind)) (iJ ha.y hb.y (by grind))) h
  ·have:=qY y2;grind
 ·have:=qY y1;grind
abbrev zJ:aVK:=top 44
theorem jD:aN ["_law_a","_law_b","_law_c","_law_d","_law_whole","_law_behind","_law_along","_law_other","_law_bottom","_law_ahead","_law_share","_law_back"] ["_law_a","_law_b","_law_c","_law_d"] (aH zJ):=⟨rfl,rfl,rfl,by decide +kernel,rfl,by decide +kernel,by decide +kernel⟩
theorem aHJ {f:aVA} {fd:aVF} (F:fO K "_law_met" "_law_met" zJ f fd) (TX:Txt mg) (g_msub:Fn P w K mg base 3 "_law_sub" ["_law_one","_law_other"] (aI K lR)) (g_mcross:Fn P w K mg base 3 "_law_cross" ["_law_one","_law_other"] (aI K (tVV d5))) (g_mover:Fn P w K mg base 3 "_law_over" ["_law_one","_law_other"] (aI K zP)) (g_mless:Fn P w K mg base 2 "_law_less" ["_law_one","_law_other"] (aI K (jN bK))) (g_mdot:Fn P w K mg base 3 "_law_dot" ["_law_one","_law_other"] (aI K (tVV oR)))   : bL P w K mg base fP 4 f fd ["_law_a","_law_b","_law_c","_law_d"] (aI K aG7):=by
 refine F.okT jD ?len (λcdv A outer s H E hr=>(aE (eS (i:=6) (j:=7) rfl jD.nd rfl rfl (by decide) rfl rfl (fc (aC g_msub hr (by omega) rfl (fc (fv 1) (fc (fv 0) aA))) (fc (aC g_msub hr (by omega) rfl (fc (fv 3) (fc (fv 2) aA))) aA)) rfl)
 (aE (eS (i:=8) (j:=9) rfl jD.nd rfl rfl (by decide) rfl rfl (fc (aC g_mcross hr (by omega) rfl (fc (fv 6) (fc (fv 7) aA))) (fc (aC g_msub hr (by omega) rfl (fc (fv 2) (fc (fv 0) aA))) aA)) rfl)
 (aE (dG (l9 rfl hr (aG rfl (fv 8) aB (λ_ _=>rfl)) aB (aS _)) (aE (aX (i:=10) jD.nd rfl (aDC rfl) (aC g_mover hr (by omega) rfl (fc (aC g_mcross hr (by omega) rfl (fc (fv 9) (fc (fv 7) aA))) (fc (fv 8) aA))))
 (aE (aX (i:=11) jD.nd rfl (aDC rfl) (aC g_mover hr (by omega) rfl (fc (aC g_mcross hr (by omega) rfl (fc (fv 9) (fc (fv 6) aA))) (fc (fv 8) aA))))
 (aJ (aO (mH (rF (i9 (cY sC (aG rfl (fv 11) aB (λ_ _=>rfl)) aB (aS _)) (iI (cY aEC (aG rfl (aC g_mless hr (by omega) rfl (fc (fv 11) (fc (aQ (fc aB (fc aB aA))) aA))) aB (λ_ _=>rfl)) aB (aS _))))) (cC (fc (fv 10) aA)) (cC aA)))))) cJ)
 (aE (dG (l9 rfl hr (aG rfl (aC g_mcross hr (by omega) rfl (fc (fv 6) (fc (fv 9) aA))) aB (λ_ _=>rfl)) aB (aS _)) (aJ (aO (cC aA))) cJ)
 (aE (aX (i:=4) jD.nd rfl (aDC rfl) (aC g_mdot hr (by omega) rfl (fc (fv 6) (fc (fv 6) aA))))
 (aE (aX (i:=5) jD.nd rfl (aDC rfl) (aC g_msub hr (by omega) rfl (fc (fv 3) (fc (fv 0) aA))))
 (aJ (aO (cC (fc (aC g_mover hr (by omega) rfl (fc (aC g_mdot hr (by omega) rfl (fc (fv 6) (fc (fv 9) aA))) (fc (fv 4) aA))) (fc (aC g_mover hr (by omega) rfl (fc (aC g_mdot hr (by omega) rfl (fc (fv 6) (fc (fv 5) aA))) (fc (fv 4) aA))) aA)))))))))))) ?rd
 case len=>rintro as Q ⟨a,b,c,d,rfl,_⟩;rfl
 case rd=>
  rintro as Q ⟨a,b,c,d,rfl,ha,hb,hc,hd,ne,q⟩;have n1:=dY hb.v ha.v;have n2:=dY hd.v hc.v;have n3:=dY hc.v ha.v;have n4:=dY hd.v ha.v;have k1:=oB n1 n2;have k2:=oB n3 n2;have k3:=oB n3 n1;have k4:=oB n1 n3;have k5:=nQ n1 n1;have k6:=nQ n1 n3;have k7:=nQ n1 n4;refine ⟨_,_,_,_,_,_,rfl,hb.v,ha.v,by decide,_,_,_,_,_,_,rfl,hd.v,hc.v,by decide,?_⟩;refine ⟨_,_,_,_,_,_,rfl,n1,n2,by decide,_,_,_,_,_,_,rfl,hc.v,ha.v,by decide,?_⟩;unfold hV iQ pH dA at q;simp only at q;refine ⟨eV rfl,?_⟩;show if (!(eH (.int (d5 (bK b.1 a.1) (bK b.2 a.2) (bK d.1 c.1) (bK d.2 c.2)).1) (.int 0)))=true then _ else _;rw [aAN]
  by_cases c1:(d5 (bK b.1 a.1) (bK b.2 a.2) (bK d.1 c.1) (bK d.2 c.2)).1=0
  ·rw [decide_eq_true c1,if_neg (by decide)];rw [if_neg (by rw [c1];simp)] at q;refine ⟨_,_,_,_,_,_,rfl,n1,n3,by decide,eV rfl,?_⟩;show if (!(eH (.int (d5 (bK b.1 a.1) (bK b.2 a.2) (bK c.1 a.1) (bK c.2 a.2)).1) (.int 0)))=true then _ else _;rw [aAN]
   by_cases c2:(d5 (bK b.1 a.1) (bK b.2 a.2) (bK c.1 a.1) (bK c.2 a.2)).1=0
   ·rw [decide_eq_true c2,if_neg (by decide)];rw [if_neg (by rw [c2];simp)] at q;have z:(oR (bK b.1 a.1) (bK b.2 a.2) (bK b.1 a.1) (bK b.2 a.2)).1≠0:=λz=>by
     have m1:=cK hb.np ha.np;have:=(oD (kB m1 m1)).mp z;rw [tY m1 m1,bZ hb.np ha.np] at this;have:=mV ha.np hb.np ne;grind
    refine ⟨_,_,_,_,_,_,rfl,n1,n1,by decide,_,_,_,_,_,_,rfl,hd.v,ha.v,by decide,?_⟩;exact ⟨_,_,_,_,_,_,rfl,n1,n3,by decide,_,_,rfl,k6.1,k5.1,z,by omega,_,_,_,_,_,_,rfl,n1,n4,by decide,_,_,rfl,k7.1,k5.1,z,by omega,rfl,q⟩
   ·rw [decide_eq_false c2,if_pos (by decide)];rw [if_pos c2] at q;exact ⟨rfl,q⟩
  ·rw [decide_eq_false c1,if_pos (by decide)];rw [if_pos c1] at q;refine ⟨_,_,_,_,_,_,rfl,n3,n2,by decide,_,_,rfl,k2.1,k1.1,c1,by omega,?_⟩;refine ⟨_,_,_,_,_,_,rfl,n3,n1,by decide,_,_,rfl,k3.1,k1.1,c1,by omega,?_⟩;have nr:=sA k3.1 c1;have sr:=aA4 k3.1 c1;generalize ovF (d5 (bK c.1 a.1) (bK c.2 a.2) (bK b.1 a.1) (bK b.2 a.2)) (d5 (bK b.1 a.1) (bK b.2 a.2) (bK d.1 c.1) (bK d.2 c.2))=r at *;show if decide (0<=r.1)=true then _ else _
   by_cases c2:0<=r.1
   ·rw [decide_eq_true c2,if_pos rfl];refine ⟨_,(1,1),rfl,nr,b8 1,by have:=j8 (p:=((1,1):Fr)) (e:=2) (by decide) (by decide) (by decide);omega,?_⟩;show if decide ((bK r (1,1)).1<=0)=true then _ else _
    by_cases c3:(bK r (1,1)).1<=0
    ·rw [decide_eq_true c3,if_pos rfl];rw [if_pos ⟨c2,c3⟩] at q;exact ⟨rfl,q⟩
    ·rw [decide_eq_false c3,if_neg (by decide)];rw [if_neg (λz=>c3 z.2)] at q;exact ⟨rfl,q⟩
   ·rw [decide_eq_false c2,if_neg (by decide)];rw [if_neg (λz=>c2 z.1)] at q;exact ⟨rfl,q⟩
theorem aDO {a b c d:Pt} (ha:Pb a) (hb:Pb b) (hc:Pb c) (hd:Pb d) (ne:a≠b):∀f∈hV a b c d,sz f<=400:=by
 have n1:=dY hb.v ha.v;have n2:=dY hd.v hc.v;have n3:=dY hc.v ha.v;have n4:=dY hd.v ha.v;have k1:=oB n1 n2;have k2:=oB n3 n2;have k5:=nQ n1 n1;have k6:=nQ n1 n3;have k7:=nQ n1 n4;intro f m;unfold hV iQ pH dA at m;simp only at m;split at m
 ·rename_i z;split at m
  ·rw [aPD] at m;have:=aA4 k2.1 z;rw [m];omega
  ·simp at m
 ·split at m
  ·simp at m
  ·have z:(oR (bK b.1 a.1) (bK b.2 a.2) (bK b.1 a.1) (bK b.2 a.2)).1≠0:=λz=>by
    have m1:=cK hb.np ha.np;have:=(oD (kB m1 m1)).mp z;rw [tY m1 m1,bZ hb.np ha.np] at this;have:=mV ha.np hb.np ne;grind
   rcases aB1.mp m with rfl | m
   ·have:=aA4 k6.1 z;omega
   ·rw [aPD] at m;have:=aA4 k7.1 z;rw [m];omega
theorem aBF {α:Type} {f:α->L2.T} {xs:List α} {k:Nat} {x:α} (hk:k<xs.length) (h:xs[(k+1)%xs.length]? = some x):e8 (xs.map f) ((k:Int)-((xs.map f).length:Int)+1)=some (f x):=by
 unfold e8;have e:xQ (xs.map f).length ((k:Int)-((xs.map f).length:Int)+1)=some ((k+1)%xs.length):=by
  unfold xQ;rw [aBC]
  by_cases c:k+1<xs.length
  ·rw [if_neg (by omega),if_pos (by omega),aRD c]
   congr 1
   omega
  ·have e:k+1=xs.length:=by omega
   rw [if_pos (by omega),if_pos (by omega),e,aUW]
   congr 1
   omega
 rw [e];simp [h]
theorem uH {o:List Pt}:(zr o).length=o.length:=by
 unfold zr lQ;rw [aUD,aIG,aSI,aMI];omega
theorem aDK {o:List Pt} {k:Nat} (hk:k<o.length):∃p q,o[k]? = some p/\o[(k+1)%o.length]? = some q/\(zr o)[k]? = some (p,q):=by
 have hz:k<(zr o).length:=by rw [uH];exact hk
 have hm:(k+1)%o.length<o.length:=aTQ _ (by omega);refine ⟨o[k],o[(k+1)%o.length],aAX hk,aAX hm,?_⟩;unfold zr;rw [aUS];refine ⟨aAX hk,?_⟩;unfold lQ
 by_cases c:k+1<o.length
 ·rw [aG6 (by rw [aSI];omega),List.getElem?_tail,aAX c]
  congr 2
  exact (aRD c).symm
 ·have e:k+1=o.length:=by omega
  rw [aLZ (by rw [aSI];omega),aSI,show k-(o.length-1)=0 by omega];have e0:(k+1)%o.length=0:=by rw [e,aUW]
  rw [<-aAX hm,e0];cases o with
  | nil=>simp at hk
  | cons p o=>rfl
theorem rX {α:Type} {xs:List α} {i:Nat} {x:α} (h:xs[i]? = some x):xs.take i++[x]=xs.take (i+1):=by
 rw [List.take_succ,h];rfl
def tD:gW:=λas Q=>∃(b:e9) (x:Pt),as=[.v (cW b),.v (pt x)]/\b.o.length<=100/\(∀p∈b.o,Pb p)/\Nv x.1 x.2 1000/\Q (.l ((dI b.o x).map L2.T.int)) []
abbrev jS:aVK:=top 43
theorem gR:aN ["_law_block","_law_point","_law_k","_law_found","_law_spots","_law_along"] ["_law_block","_law_point"] (aH jS):=⟨rfl,rfl,rfl,by decide +kernel,rfl,by decide +kernel,by decide +kernel⟩
theorem uA {f:aVA} {fd:aVF} (F:fO K "_law_signs_of" "_law_signs_of" jS f fd) (TX:Txt mg) (g_msub:Fn P w K mg base 3 "_law_sub" ["_law_one","_law_other"] (aI K lR)) (g_mcross:Fn P w K mg base 3 "_law_cross" ["_law_one","_law_other"] (aI K (tVV d5)))   : bL P w K mg base fP 4 f fd ["_law_block","_law_point"] (aI K tD):=by
 refine F.okT gR ?len (λcdv A outer s H E hr=>(aE (eS (i:=3) (j:=4) rfl gR.nd rfl rfl (by decide) rfl rfl (fc (cC aA) (fc (aG rfl (fv 0) aB (λ_ _=>rfl)) aA)) rfl)
 (aE (eM PassesOwn.never rfl (eZ rfl TX.n_range (fc (fJ rfl rfl TX.n_len (fc (fv 4) aA)) aA)) (aK (i:=2) gR.nd rfl (aDC rfl))
  (aE (aX (i:=5) gR.nd rfl (aDC rfl) (aC g_msub hr (by omega) rfl (fc (aG rfl (fv 4) (aU bU (aU dW (fv 2) (fJ rfl rfl TX.n_len (fc (fv 4) aA))) aB) (λ_ _=>rfl)) (fc (aG rfl (fv 4) (fv 2) (λ_ _=>rfl)) aA))))
 (aJ (iD (nP rfl (fv 3) (fc (aG rfl (aC g_mcross hr (by omega) rfl (fc (fv 5) (fc (aC g_msub hr (by omega) rfl (fc (fv 1) (fc (aG rfl (fv 4) (fv 2) (λ_ _=>rfl)) aA))) aA))) aB (λ_ _=>rfl)) aA))))))
 (aJ (aO (fv 3)))))) ?rd
 case len=>rintro as Q ⟨b,x,rfl,_⟩;rfl
 case rd=>
  rintro as Q ⟨b,x,rfl,hl,hb,hx,q⟩;have el:(((b.o.map pt).length:Nat):Int)=(b.o.length:Int):=by rw [aBC]
  refine ⟨?_,?_⟩
  ·show -(2^62)<=(((b.o.map pt).length:Nat):Int)/\(((b.o.map pt).length:Nat):Int)<2^62;rw [el];omega
  ·show kF _ (cO _ _ _ (gT 0 (((b.o.map pt).length:Nat):Int).toNat));rw [aQ8,aBC];refine eY (λi E=>∃v2 v5:Option U,E=[some (.p (cW b)),some (.p (pt x)),v2,some (.o false ((((zr b.o).take i).map (uR x)).map L2.T.int)),some (.p (.tup (b.o.map pt))),v5]) ⟨_,_,rfl⟩ ?_ ?_
   ·rintro i t rest E hi ⟨v2,v5,rfl⟩ KK;obtain ⟨hin,rfl⟩:=j6 hi;obtain ⟨p,r,h1,h2,h3⟩:=aDK hin;have hp:=hb p (aFS h1);have hr':=hb r (aFS h2);have n1:=dY hr'.v hp.v;have n2:=dY hx hp.v;have e0:(0:Int)+(i:Int)=(i:Int):=by omega
    show o1 (e8 (b.o.map pt) ((0:Int)+(i:Int)-((b.o.map pt).length:Int)+1)) _;rw [e0,aBF hin h2];show o1 (e8 (b.o.map pt) (i:Int)) _;rw [fW h1];refine ⟨_,_,_,_,_,_,rfl,hr'.v,hp.v,by decide,?_⟩;show o1 (e8 (b.o.map pt) (i:Int)) _;rw [fW h1];refine ⟨_,_,_,_,_,_,rfl,hx,hp.v,by decide,_,_,_,_,_,_,rfl,n1,n2,by decide,?_,?_⟩
    ·show ((((zr b.o).take i).map (uR x)).map L2.T.int++_).length<=1000;simp only [aIG,aBC,aMI,aSN];omega
    ·have:=KK [some (.p (cW b)),some (.p (pt x)),some (.p (.int (i:Int))),some (.o false ((((zr b.o).take (i+1)).map (uR x)).map L2.T.int)),some (.p (.tup (b.o.map pt))),some (.p (pt (dA r p)))] ⟨_,_,rfl⟩;rw [<-rX h3,aQ9,aQ9] at this;exact this
   ·rintro E ⟨v2,v5,rfl⟩;have e:(zr b.o).take (gT 0 b.o.length).length=zr b.o:=aS2 (by rw [uH];simp [gT]);rw [e];exact ⟨bB (λ_=>rfl) _,q⟩
end
end My
namespace My
open PySem L2 PyProof.Rows
section
variable {P:aVD} {w:aVH} {K:W.Frag} {mg:Str->Option Value} {base:Heap}
theorem aK4 (s:Fr):∀xs:List Fr,xX (fr s) (xs.map fr)=decide (s∈xs)
 | []=>by simp [xX]
 | x::xs=>by
  have ih:=aK4 s xs;unfold xX at ih ⊢;rw [aPB,aTD,ih,aJ2,aP4];simp only [aUE,decide_eq_true_eq,aB1];constructor
  ·rintro (h | h)
   ·exact .inl h.symm
   ·exact .inr h
  ·rintro (h | h)
   ·exact .inl h.symm
   ·exact .inr h
theorem aGE {α:Type} (f:α->L2.T) (xs:List α):((xs.map f).zipIdx.map λq=>L2.T.tup [.int (q.2:Int),q.1])=xs.zipIdx.map λq=>L2.T.tup [.int (q.2:Int),f q.1]:=by
 rw [List.zipIdx_map,aN1];rfl
theorem aMM:sz ((1,1):Fr)<=2:=j8 (by decide) (by decide) (by decide)
theorem aO1:sz ((0,1):Fr)<=2:=j8 (by decide) (by decide) (by decide)
def sO:gW:=λas Q=>∃shares:List Fr,as=[.v (.lst (shares.map fr))]/\shares.length<=500/\(∀f∈shares,cH f/\sz f<=400)/\Q (.l ((t6 shares).map fr)) []
abbrev nJ:aVK:=top 46
theorem jG:aN ["_law_shares","_law_found","_law_share","_law_at"] ["_law_shares"] (aH nJ):=⟨rfl,rfl,rfl,by decide +kernel,rfl,by decide +kernel,by decide +kernel⟩
theorem yT {f:aVA} {fd:aVF} (F:fO K "_law_rising" "_law_rising" nJ f fd) (TX:Txt mg) (g_mless:Fn P w K mg base 2 "_law_less" ["_law_one","_law_other"] (aI K (jN bK)))   : bL P w K mg base fP 4 f fd ["_law_shares"] (aI K sO):=by
 refine F.okT jG ?len (λcdv A outer s H E hr=>(aE (aX (i:=1) jG.nd rfl (aDC rfl) (cC aA))
 (aE (eM PassesOwn.never rfl (eF rfl (aFI (cC (fc (aQ (fc aB (fc aB aA))) (fc (aQ (fc aB (fc aB aA))) aA))) (sE (N':=["_law_share"]) (t:=1) (cap:=[]) rfl (bN.of rfl) rfl (by decide) (eF rfl (fv 0)) (λ_ _ _ _=>(aK (i:=0) (show aQ2 (["_law_share"]:List Str) by decide +kernel) rfl (aDC rfl) (aN3 rfl))) (λ_ _ _ _=>(rF (i9 (cY oJ (aG rfl (fv 0) aB (λ_ _=>rfl)) aB (aS _)) (iI (cY fR (aG rfl (aC g_mless hr (by omega) rfl (fc (fv 0) (fc (aQ (fc aB (fc aB aA))) aA))) aB (λ_ _=>rfl)) aB (aS _)))))) (λ_ _ _ _=>(fv 0))))) (aK (i:=2) jG.nd rfl (aN3 rfl))
  (aJ (dG (aLD rfl hr (fv 2) (fv 1) rfl) (aE (aX (i:=3) jG.nd rfl (aDC rfl) (fJ rfl rfl TX.n_len (fc (sE (N':=["_law_one","_law_share"]) (t:=1) (cap:=[(2,false)]) rfl (bN.of rfl) rfl (by decide) (eF rfl (fv 1)) (λ_ _ _ _=>(aK (i:=0) (show aQ2 (["_law_one","_law_share"]:List Str) by decide +kernel) rfl (aDC rfl) (aN3 rfl))) (λ_ _ _ _=>(cY fR (aG rfl (aC g_mless hr (by omega) rfl (fc (fv 0) (fc (fv 1) aA))) aB (λ_ _=>rfl)) aB (aS _))) (λ_ _ _ _=>(fv 0))) aA)))
 (aJ (iD (aBT rfl (fv 1) (fc (fv 3) (fc (fv 2) aA)))))) cJ)))
 (aJ (aO (fv 1)))))) ?rd
 case len=>rintro as Q ⟨shares,rfl,_⟩;rfl
 case rd=>
  rintro as Q ⟨shares,rfl,hl,hs,q⟩;refine ⟨rfl,?_⟩;show iO _ _ _ (shares.map fr) _ _;refine nL (f:=fr) (h:=fr) mO (λ(v:Option U) acc=>[v,some (.o false acc)]) shares none [] (by simp;omega) (λs m v acc rest ha K=>?_) λv=>?_
  ·obtain ⟨h1,h2⟩:=hs s m;have kk:=K (some (.p (fr s)));unfold mO at kk;show if decide (0<s.1)=true then _ else _
   by_cases c1:0<s.1
   ·rw [decide_eq_true c1,if_pos rfl];rw [decide_eq_true c1,aU8] at kk;refine ⟨_,(1,1),rfl,h1,b8 1,by have:=aMM;omega,?_⟩;show if decide ((bK s (1,1)).1<0)=true then _ else _
    by_cases c2:(bK s (1,1)).1<0
    ·rw [decide_eq_true c2,if_pos rfl];rw [decide_eq_true c2,if_pos rfl] at kk;exact ⟨ha,kk⟩
    ·rw [decide_eq_false c2,if_neg (by decide)];rw [decide_eq_false c2,if_neg (by decide)] at kk;exact kk
   ·rw [decide_eq_false c1,if_neg (by decide)];rw [decide_eq_false c1,aUI,if_neg (by decide)] at kk;exact kk
  ·refine ⟨bB (λ_=>rfl) _,?_⟩;have lf:=aT6 mO shares;refine ⟨?_,?_⟩
   ·show ([L2.T.tup [.int 0,.int 1],.tup [.int 1,.int 1]]:List L2.T).length+([]++(shares.filter mO).map fr).length<=1000;rw [aQY,aBC];simp;omega
   ·have hfs:∀f∈(0,1)::(1,1)::shares.filter mO,cH f/\sz f<=400:=λf m=>by
     rcases aB1.mp m with rfl | m
     ·exact ⟨b8 0,by have:=aO1;omega⟩
     ·rcases aB1.mp m with rfl | m
      ·exact ⟨b8 1,by have:=aMM;omega⟩
      ·exact hs f (aTE.mp m).1
    have hll:((0,1)::(1,1)::shares.filter mO).length<=502:=by simp only [aKX];omega
    show kF _ (cO _ _ _ (((0,1)::(1,1)::shares.filter mO).map fr));unfold t6 at q;generalize (((0,1)::(1,1)::shares.filter mO):List Fr)=L at q hfs hll ⊢;refine d9 (f:=fr) (λs':List Fr×Option U×Option U=>[some (.p (.lst (shares.map fr))),some (.o false (s'.1.map fr)),s'.2.1,s'.2.2])
     (λL' s'=>(∀f∈L',cH f/\sz f<=400)/\(∀f∈s'.1,cH f/\sz f<=400)/\Srt s'.1/\s'.1.length+L'.length<=502/\Q (.l ((L'.foldl jW s'.1).map fr)) []) ?_ ?_ L ([],none,none) ⟨hfs,λf m=>absurd m (by simp),List.Pairwise.nil,by simp only [aTG];omega,q⟩
    ·rintro s L' ⟨acc,v2,v3⟩ rest ⟨h1,h2,h3,h4,z⟩ K;obtain ⟨s1,s2⟩:=h1 s (by simp);have hrest:∀f∈L',cH f/\sz f<=400:=λf m=>h1 f (by simp [m]);simp only [aKX] at h4;obtain ⟨i1,i2,i3,i4⟩:=pV (xs:=acc) s1 (λf m=>(h2 f m).1) h3;have dd:L2.zZ (acc.map fr)<=50:=aPW (kI (n:=1) (λ_=>eV rfl) acc) (by decide);rw [aTV] at z;refine ⟨dd,?_⟩;show if (!(xX (fr s) (acc.map fr)))=true then _ else _;rw [aK4]
     by_cases c:s∈acc
     ·rw [decide_eq_true c,if_neg (by decide)];have e:jW acc s=acc:=by unfold jW;rw [if_pos c]
      rw [e] at z;exact K (acc,some (.p (fr s)),v3) ⟨hrest,h2,h3,by simp only;omega,z⟩
     ·rw [decide_eq_false c,if_pos (by decide)];refine ⟨rfl,?_⟩;show iO _ _ _ (acc.map fr) _ _;refine nL (f:=fr) (h:=fr) (sR · s) (λ(v:Option U) a'=>[v,some (.p (fr s)),some (.o false a')]) acc none [] (by simp;omega) (λx m v a' rest' ha K'=>?_) λv=>?_
      ·obtain ⟨x1,x2⟩:=h2 x m;have kk:=K' (some (.p (fr x)));unfold sR at kk;refine ⟨_,_,rfl,x1,s1,by omega,?_⟩;show if decide ((bK x s).1<0)=true then _ else _
       by_cases c2:(bK x s).1<0
       ·rw [decide_eq_true c2,if_pos rfl];rw [decide_eq_true c2,if_pos rfl] at kk;exact ⟨ha,kk⟩
       ·rw [decide_eq_false c2,if_neg (by decide)];rw [decide_eq_false c2,if_neg (by decide)] at kk;exact kk
      ·refine ⟨bB (λ_=>rfl) _,?_⟩;have le:=aT6 (sR · s) acc;have ec:(([]++(acc.filter (sR · s)).map fr).length:Int)=((acc.filter (sR · s)).length:Int):=by rw [aQY,aBC]
       refine (?_:0<=(([]++(acc.filter (sR · s)).map fr).length:Int)/\(([]++(acc.filter (sR · s)).map fr).length:Int)<=((acc.map fr).length:Int)/\(acc.map fr).length<1000/\_);refine ⟨by omega,by rw [ec,aBC];omega,by rw [aBC];omega,?_⟩;have ei:(acc.map fr).take (([]++(acc.filter (sR · s)).map fr).length:Int).toNat++fr s::(acc.map fr).drop (([]++(acc.filter (sR · s)).map fr).length:Int).toNat=(jW acc s).map fr:=by
        rw [ec,aQ8];unfold jW;rw [if_neg c,aQ9,aPB,aUO,List.map_drop]
       have fin:=K (jW acc s,some (.p (fr s)),some (.p (.int (([]++(acc.filter (sR · s)).map fr).length:Int)))) ⟨hrest,λf m=>by
        rcases (i3 f).mp m with rfl | m
        ·exact ⟨s1,s2⟩
        ·exact h2 f m,i2,by simp only;omega,z⟩
       simp only at fin;rw [<-ei] at fin;exact fin
    ·rintro ⟨acc,v2,v3⟩ ⟨_,_,_,_,z⟩;exact ⟨bB (λ_=>rfl) _,z⟩
def fD (k:Int) (a b:Pt) (xs:List (e9×Nat)):List Fr:=xs.flatMap λx=>if (x.2:Int)=k then [] else sM a b x.1.o
def aBH (bs:List e9) (k:Int) (a b:Pt):List Fr:=t6 (fD k a b bs.zipIdx)
def aET:gW:=λas Q=>∃(bs:List e9) (k:Int) (a b:Pt),as=[.v (.lst (bs.map cW)),.v (.int k),.v (pt a),.v (pt b)]/\bs.length<=20/\(∀x∈bs,x.o.length<=6/\∀p∈x.o,Pb p)/\Pb a/\Pb b/\a≠b/\Q (.l ((aBH bs k a b).map fr)) []
theorem mD {α β:Type} {f:α->List β} {m:Nat}:∀{xs:List α},(∀x∈xs,(f x).length<=m)->(xs.flatMap f).length<=m*xs.length
 | [],_=>by simp
 | x::xs,h=>by
  have h1:=h x (by simp);have h2:=mD (xs:=xs) λy m=>h y (by simp [m]);rw [aTI,aIG,aKX,Nat.mul_succ];omega
theorem xU (o:List Pt):(ej o).length=o.length:=by unfold ej;simp
theorem aAK {a b:Pt} {o:List Pt} (h:o.length<=6):(sM a b o).length<=12:=by
 have:=mD (f:=λx:Pt×Pt=>hV a b x.1 x.2) (m:=2) (xs:=ej o) λx _=>uW a b x.1 x.2;rw [xU] at this;unfold sM;omega
theorem aGQ {a b:Pt} {o:List Pt} (ha:Pb a) (hb:Pb b) (ne:a≠b) (ho:∀p∈o,Pb p):∀f∈sM a b o,cH f/\sz f<=400:=λf m=>by
 obtain ⟨x,mx,m⟩:=aTB.mp m;obtain ⟨m1,m2⟩:=aDQ mx;exact ⟨oZ ha.np hb.np (ho _ m1).np (ho _ m2).np (mV ha.np hb.np ne) f m,aDO ha hb (ho _ m1) (ho _ m2) ne f m⟩
theorem aHA (i k:Int):eH (.int i) (.int k)=decide (i=k):=by
 rw [aP4];simp [L2.eH]
abbrev t9:aVK:=top 47
theorem iZ:aN ["_law_some","_law_k","_law_a","_law_b","_law_shares","_law_other","_law_block","_law_spots","_law_j"] ["_law_some","_law_k","_law_a","_law_b"] (aH t9):=⟨rfl,rfl,rfl,by decide +kernel,rfl,by decide +kernel,by decide +kernel⟩
theorem aDJ {f:aVA} {fd:aVF} (F:fO K "_law_cuts" "_law_cuts" t9 f fd) (TX:Txt mg) (g_mmet:Fn P w K mg base 4 "_law_met" ["_law_a","_law_b","_law_c","_law_d"] (aI K aG7)) (g_mrising:Fn P w K mg base 4 "_law_rising" ["_law_shares"] (aI K sO))   : bL P w K mg base fP 5 f fd ["_law_some","_law_k","_law_a","_law_b"] (aI K aET):=by
 refine F.okT iZ ?len (λcdv A outer s H E hr=>(aE (aX (i:=4) iZ.nd rfl (aDC rfl) (cC aA))
 (aE (eM PassesOwn.never rfl (uI rfl rfl TX.n_enumerate (fc (fv 0) aA)) (cZ (n:=2) rfl rfl (aM (aK (i:=5) iZ.nd rfl (aDC rfl)) (aM (aK (i:=6) iZ.nd rfl (aDC rfl)) b9)))
  (aJ (dG (l9 rfl hr (fv 5) (fv 1) (aS _)) (aE (aX (i:=7) iZ.nd rfl (aDC rfl) (aG rfl (fv 6) aB (λ_ _=>rfl)))
 (aJ (eM PassesOwn.never rfl (eZ rfl TX.n_range (fc (fJ rfl rfl TX.n_len (fc (fv 7) aA)) aA)) (aK (i:=8) iZ.nd rfl (aDC rfl))
  (aJ (iD (aCN rfl (fv 4) (fc (aC g_mmet hr (by omega) rfl (fc (fv 2) (fc (fv 3) (fc (aG rfl (fv 7) (aU dW (fv 8) aB) (λ_ _=>rfl)) (fc (aG rfl (fv 7) (fv 8) (λ_ _=>rfl)) aA))))) aA))))))) cJ)))
 (aJ (aO (aC g_mrising hr (by omega) rfl (fc (fv 4) aA))))))) ?rd
 case len=>rintro as Q ⟨bs,k,a,b,rfl,_⟩;rfl
 case rd=>
  rintro as Q ⟨bs,k,a,b,rfl,hl,hb,ha,hb',ne,q⟩;show cO _ _ _ ((bs.map cW).zipIdx.map λq=>L2.T.tup [.int (q.2:Int),q.1]) _;rw [aGE];unfold aBH at q;refine d9 (f:=λq:e9×Nat=>L2.T.tup [.int (q.2:Int),cW q.1]) (λs':List Fr×Option U×Option U×Option U×Option U=>[some (.p (.lst (bs.map cW))),some (.p (.int k)),some (.p (pt a)),some (.p (pt b)),some (.o false (s'.1.map fr)),s'.2.1,s'.2.2.1,s'.2.2.2.1,s'.2.2.2.2])
   (λxs s'=>(∀x∈xs,x.1∈bs)/\s'.1.length+12*xs.length<=500/\(∀f∈s'.1,cH f/\sz f<=400)/\Q (.l ((t6 (s'.1++fD k a b xs)).map fr)) []) ?_ ?_ bs.zipIdx ([],none,none,none,none) ⟨λx m=>aFS (aUJ.mp m),by simp;omega,λf m=>absurd m (by simp),q⟩
  ·rintro x xs ⟨acc,v5,v6,v7,v8⟩ rest ⟨hx,hn,hf,z⟩ K;obtain ⟨g,n⟩:=x;have hg:=hb g (hx (g,n) (by simp));have hrest:∀x∈xs,x.1∈bs:=λy m=>hx y (by simp [m]);simp only [aKX] at hn;refine ⟨eV rfl,?_⟩;show if (!(eH (.int (n:Int)) (.int k)))=true then _ else _;rw [aHA]
   by_cases c:(n:Int)=k
   ·rw [decide_eq_true c,if_neg (by decide)];have e:fD k a b ((g,n)::xs)=fD k a b xs:=by unfold fD;rw [aTI,if_pos c,aQY]
    rw [e] at z;exact K (acc,some (.p (.int (n:Int))),some (.p (cW g)),v7,v8) ⟨hrest,by simp only;omega,hf,z⟩
   ·rw [decide_eq_false c,if_pos (by decide)];have e:fD k a b ((g,n)::xs)=sM a b g.o++fD k a b xs:=by unfold fD;rw [aTI,if_neg c]
    rw [e,<-aDE] at z;have sl:=aAK (a:=a) (b:=b) hg.1;have so:=aGQ ha hb' ne hg.2;have el:(((g.o.map pt).length:Nat):Int)=(g.o.length:Int):=by rw [aBC]
    refine ⟨?_,?_⟩
    ·show -(2^62)<=(((g.o.map pt).length:Nat):Int)/\(((g.o.map pt).length:Nat):Int)<2^62;rw [el];omega
    ·show kF _ (cO _ _ _ (gT 0 (((g.o.map pt).length:Nat):Int).toNat));rw [aQ8,aBC];refine eY (λi E=>∃v8:Option U,E=[some (.p (.lst (bs.map cW))),some (.p (.int k)),some (.p (pt a)),some (.p (pt b)),some (.o false ((acc++((ej g.o).take i).flatMap λx=>hV a b x.1 x.2).map fr)),some (.p (.int (n:Int))),some (.p (cW g)),some (.p (.tup (g.o.map pt))),v8]) ⟨_,by rw [List.take_zero,List.flatMap_nil,aKE]⟩ ?_ ?_
     ·rintro i t rest' E hi ⟨v8,rfl⟩ KK;obtain ⟨hin,rfl⟩:=j6 hi;obtain ⟨p,hp,ap⟩:=pD (f:=pt) hin;have hq:g.o[i]? = some g.o[i]:=aAX hin;have h3:(ej g.o)[i]? = some (p,g.o[i]):=by
       unfold ej;rw [aDF,aUG hin];show some _=some _
       congr 1
       refine Prod.ext ?_ ?_
       ·show g.o.getD _ o00=p;rw [aG5,hp];rfl
       ·show g.o.getD i o00=g.o[i];rw [aG5,hq];rfl
      have e0:(0:Int)+(i:Int)=(i:Int):=by omega
      show o1 (e8 (g.o.map pt) ((0:Int)+(i:Int)-1)) _;rw [e0,ap];show o1 (e8 (g.o.map pt) (i:Int)) _;rw [fW hq];refine ⟨a,b,p,g.o[i],rfl,ha,hb',hg.2 _ (aFS hp),hg.2 _ (aQI hin),ne,?_,?_⟩
      ·show ((acc++((ej g.o).take i).flatMap λx=>hV a b x.1 x.2).map fr++(hV a b p g.o[i]).map fr).length<=1000;have:=mD (f:=λx:Pt×Pt=>hV a b x.1 x.2) (m:=2) (xs:=(ej g.o).take i) λx _=>uW a b x.1 x.2;have:=uW a b p g.o[i];have:=hg.1;simp only [aIG,aBC,aMI,xU] at *;omega
      ·have:=KK [some (.p (.lst (bs.map cW))),some (.p (.int k)),some (.p (pt a)),some (.p (pt b)),some (.o false ((acc++((ej g.o).take (i+1)).flatMap λx=>hV a b x.1 x.2).map fr)),some (.p (.int (n:Int))),some (.p (cW g)),some (.p (.tup (g.o.map pt))),some (.p (.int (i:Int)))] ⟨_,rfl⟩;rw [<-rX h3,List.flatMap_append,<-aDE,aQ9,show ([(p,g.o[i])].flatMap λx=>hV a b x.1 x.2)=hV a b p g.o[i] by simp] at this;exact this
     ·rintro E ⟨v8,rfl⟩;have e:(ej g.o).take (gT 0 g.o.length).length=ej g.o:=aS2 (by rw [xU];simp [gT]);rw [e];exact K (acc++sM a b g.o,some (.p (.int (n:Int))),some (.p (cW g)),some (.p (.tup (g.o.map pt))),v8) ⟨hrest,by simp only [aIG];omega,λf m=>(aM3.mp m).elim (hf f) (so f),z⟩
  ·rintro ⟨acc,v5,v6,v7,v8⟩ ⟨_,hn,hf,z⟩;rw [show fD k a b []=[] from rfl,aKE] at z;simp only [aTG] at hn;exact ⟨acc,rfl,by omega,hf,bB (λ_=>rfl) _,z⟩
theorem aBY (bs:List e9) (a b:Pt):fD (-1) a b bs.zipIdx=iG bs a b:=by
 unfold fD iG;have key:∀(bs:List e9) (n:Nat),(bs.zipIdx n).flatMap (λx:e9×Nat=>if (x.2:Int) = -1 then [] else sM a b x.1.o)=bs.flatMap λk=>sM a b k.o:=λbs=>by
  induction bs with
  | nil=>intro n;rfl
  | cons x bs ih=>
   intro n;rw [List.zipIdx_cons,aTI,aTI,if_neg (by simp only;omega),ih]
 exact key bs 0
end
end My
namespace My
open PySem L2 PyProof.Rows
section
variable {P:aVD} {w:aVH} {K:W.Frag} {mg:Str->Option Value} {base:Heap}
def u8:Nat->L2.T
 | 0=>.non
 | 1=>.str "over"
 | 2=>.str "beside"
 | _=>.str "beyond"
def aSE (m:Str) (k:Nat):Str:=⟨#[m.cps.toList.getD k 0]⟩
def thT (m:Str) (r:Nat×Nat):L2.T:=.tup [u8 r.1,.str (if r.1<=1 then "" else aSE m r.2)]
theorem aQU {m:Str} {k:Nat} (h:k<m.cps.size):e8 m.cps.toList (k:Int)=some (m.cps.toList.getD k 0):=by
 refine pF ?_;have h':k<m.cps.toList.length:=by simpa using h
 rw [aG5,aAX h'];rfl
def x6:gW:=λas Q=>∃(g:e9) (a b x:Pt),as=[.v (cW g),.v (pt a),.v (pt b),.v (pt x)]/\0<g.o.length/\g.o.length<=100/\g.m.cps.size=g.o.length/\(∀p∈g.o,Pb p)/\Pb a/\Pb b/\Nv x.1 x.2 1000/\Q (.v (thT g.m (fU g.o a b x))) []
abbrev pI:aVK:=top 48
theorem gX:aN ["_law_block","_law_a","_law_b","_law_point","_law_sides","_law_spots","_law_at","_law_side","_law_other","_law_along","_law_ahead"] ["_law_block","_law_a","_law_b","_law_point"] (aH pI):=⟨rfl,rfl,rfl,by decide +kernel,rfl,by decide +kernel,by decide +kernel⟩
theorem aB9 {f:aVA} {fd:aVF} (F:fO K "_law_there" "_law_there" pI f fd) (TX:Txt mg) (g_msigns_of:Fn P w K mg base 4 "_law_signs_of" ["_law_block","_law_point"] (aI K tD)) (g_msub:Fn P w K mg base 3 "_law_sub" ["_law_one","_law_other"] (aI K lR)) (g_mdot:Fn P w K mg base 3 "_law_dot" ["_law_one","_law_other"] (aI K (tVV oR)))   : bL P w K mg base fP 5 f fd ["_law_block","_law_a","_law_b","_law_point"] (aI K x6):=by
 refine F.okT gX ?len (λcdv A outer s H E hr=>(aE (eS (i:=4) (j:=5) rfl gX.nd rfl rfl (by decide) rfl rfl (fc (aC g_msigns_of hr (by omega) rfl (fc (fv 0) (fc (fv 3) aA))) (fc (aG rfl (fv 0) aB (λ_ _=>rfl)) aA)) rfl)
 (aE (dG (l9 rfl hr (mF rfl rfl rfl TX.n_min (fc (fv 4) aA)) aB (aS _)) (aJ (aO (aQ (fc (mH (cY fR (mF rfl rfl rfl TX.n_min (fc (fv 4) aA)) aB (aS _)) pN dC) (fc dC aA))))) cJ)
 (aE (eM PassesOwn.never rfl (uI rfl rfl TX.n_enumerate (fc (fv 4) aA)) (cZ (n:=2) rfl rfl (aM (aK (i:=6) gX.nd rfl (aDC rfl)) (aM (aK (i:=7) gX.nd rfl (aDC rfl)) b9)))
  (aE (aX (i:=8) gX.nd rfl (aDC rfl) (aG rfl (fv 5) (aU bU (aU dW (fv 6) (fJ rfl rfl TX.n_len (fc (fv 5) aA))) aB) (λ_ _=>rfl)))
 (aE (eS (i:=9) (j:=10) rfl gX.nd rfl rfl (by decide) rfl rfl (fc (aC g_msub hr (by omega) rfl (fc (fv 8) (fc (aG rfl (fv 5) (fv 6) (λ_ _=>rfl)) aA))) (fc (aC g_msub hr (by omega) rfl (fc (fv 3) (fc (aG rfl (fv 5) (fv 6) (λ_ _=>rfl)) aA))) aA)) rfl)
 (aJ (dG (rF (i9 (wP rfl hr (fv 7) aB (aS _)) (i9 (cY sC (aG rfl (aC g_mdot hr (by omega) rfl (fc (fv 9) (fc (fv 10) aA))) aB (λ_ _=>rfl)) aB (aS _)) (iI (cY sC (aG rfl (aC g_mdot hr (by omega) rfl (fc (fv 9) (fc (aC g_msub hr (by omega) rfl (fc (fv 8) (fc (fv 3) aA))) aA))) aB (λ_ _=>rfl)) aB (aS _)))))) (aJ (aO (aQ (fc (mH (cY oJ (aG rfl (aC g_mdot hr (by omega) rfl (fc (fv 9) (fc (aC g_msub hr (by omega) rfl (fc (fv 2) (fc (fv 1) aA))) aA))) aB (λ_ _=>rfl)) aB (aS _)) dC dC) (fc (aGZ rfl (aG rfl (fv 0) aB (λ_ _=>rfl)) (fv 6) (λ_ _=>rfl)) aA))))) cJ)))))
 (aJ (aO (aQ (fc pN (fc dC aA))))))))) ?rd
 case len=>rintro as Q ⟨g,a,b,x,rfl,_⟩;rfl
 case rd=>
  rintro as Q ⟨g,a,b,x,rfl,h0,hl,hm,hg,ha,hb,hx,q⟩;refine ⟨g,x,rfl,hl,hg,hx,?_⟩;have zl:=uH (o:=g.o);have ln:0<(dI g.o x).length:=by unfold dI;rw [aBC];omega
  unfold fU at q;refine ⟨_,rfl,ln,eV rfl,?_⟩;show if (!(eH (.int (dX (dI g.o x))) (.int 0)))=true then _ else _;rw [aAN]
  by_cases c:dX (dI g.o x)=0
  ·rw [decide_eq_true c,if_neg (by decide)];rw [if_neg (by rw [c];simp)] at q;show kF _ (cO _ _ _ (((dI g.o x).map L2.T.int).zipIdx.map λq=>L2.T.tup [.int (q.2:Int),q.1]));have ez:(((dI g.o x).map L2.T.int).zipIdx.map λq=>L2.T.tup [.int (q.2:Int),q.1])=((zr g.o).zipIdx).map λy:(Pt×Pt)×Nat=>L2.T.tup [.int (y.2:Int),.int (uR x y.1)]:=by
    rw [aGE];unfold dI;rw [List.zipIdx_map,aN1];rfl
   rw [ez];have hzi:∀y∈(zr g.o).zipIdx,(zr g.o)[y.2]? = some y.1:=λy m=>aUJ.mp m;have hgo:qK a b x (zr g.o) 0=qK a b x ((zr g.o).zipIdx.map Prod.fst) 0:=by simp
   refine d9 (f:=λy:(Pt×Pt)×Nat=>L2.T.tup [.int (y.2:Int),.int (uR x y.1)]) (λs:Option U×Option U×Option U×Option U×Option U=>[some (.p (cW g)),some (.p (pt a)),some (.p (pt b)),some (.p (pt x)),some (.p (.lst ((dI g.o x).map L2.T.int))),some (.p (.tup (g.o.map pt))),s.1,s.2.1,s.2.2.1,s.2.2.2.1,s.2.2.2.2])
    (λys _=>∃i,ys=((zr g.o).zipIdx).drop i/\Q (.v (thT g.m (qK a b x (ys.map Prod.fst) i))) []) ?_ ?_ _ (none,none,none,none,none) ⟨0,rfl,by rw [hgo] at q;exact q⟩
   ·rintro y ys ⟨s1,s2,s3,s4,s5⟩ rest ⟨i,ei,z⟩ KK;have hy:((zr g.o).zipIdx)[i]? = some y:=by
     have:=congrArg (·[0]?) ei
     simpa using this.symm
    have ei':ys=((zr g.o).zipIdx).drop (i+1):=by
     have:=congrArg List.tail ei
     simpa using this
    obtain ⟨e,k⟩:=y;have hk:k=i/\(zr g.o)[i]? = some e:=by
     rw [aTP] at hy;cases q':(zr g.o)[i]? with
     | none=>rw [q'] at hy;simp at hy
     | some w=>rw [q'] at hy;simp at hy;obtain ⟨h1,h2⟩:=hy;exact ⟨h2.symm,by rw [h1]⟩
    obtain ⟨rfl,he⟩:=hk;have hin:k<g.o.length:=by rw [<-zl];exact (aA7.mp he).1
    obtain ⟨p,r,h1,h2,h3⟩:=aDK hin;rw [h3] at he;cases he;have hp:=hg p (aFS h1);have hr':=hg r (aFS h2);have n1:=dY hr'.v hp.v;have n2:=dY hx hp.v;have n3:=dY hr'.v hx;have n4:=dY hb.v ha.v;have next:=λz' s=>KK s ⟨k+1,ei',z'⟩;have z':Q (.v (thT g.m (if onB x (p,r)=true then (if 0<(pH (dA r p) (dA b a)).1 then 2 else 3,k) else qK a b x (ys.map Prod.fst) (k+1)))) []:=z;unfold onB at z';show o1 (e8 (g.o.map pt) ((k:Int)-((g.o.map pt).length:Int)+1)) _;rw [aBF hin h2];show o1 (e8 (g.o.map pt) (k:Int)) _;rw [fW h1];refine ⟨_,_,_,_,_,_,rfl,hr'.v,hp.v,by decide,?_⟩;show o1 (e8 (g.o.map pt) (k:Int)) _;rw [fW h1];refine ⟨_,_,_,_,_,_,rfl,hx,hp.v,by decide,eV rfl,?_⟩;show if (eH (.int (uR x (p,r))) (.int 0))=true then _ else _;rw [aAN]
    by_cases c1:uR x (p,r)=0
    ·rw [decide_eq_true c1,if_pos rfl];rw [decide_eq_true c1,aU8] at z';refine ⟨_,_,_,_,_,_,rfl,n1,n2,by decide,?_⟩;show if decide (0<=(pH (dA r p) (dA x p)).1)=true then _ else _
     by_cases c2:0<=(pH (dA r p) (dA x p)).1
     ·rw [decide_eq_true c2,if_pos rfl];rw [decide_eq_true c2,aU8] at z';refine ⟨_,_,_,_,_,_,rfl,hr'.v,hx,by decide,_,_,_,_,_,_,rfl,n1,n3,by decide,?_⟩;show if decide (0<=(pH (dA r p) (dA r x)).1)=true then _ else _
      by_cases c3:0<=(pH (dA r p) (dA r x)).1
      ·rw [decide_eq_true c3,if_pos rfl];rw [decide_eq_true c3,if_pos rfl] at z';refine ⟨_,_,_,_,_,_,rfl,hb.v,ha.v,by decide,_,_,_,_,_,_,rfl,n1,n4,by decide,?_⟩;show if decide (0<(pH (dA r p) (dA b a)).1)=true then _ else _;have hmk:=aQU (m:=g.m) (k:=k) (by omega);have lb:g.m.length<=big:=by
        show g.m.cps.size<=big;rw [hm];exact aPW hl (by decide)
       by_cases c4:0<(pH (dA r p) (dA b a)).1
       ·rw [decide_eq_true c4,if_pos rfl];rw [if_pos c4] at z';refine ⟨lb,?_⟩;show o1 (e8 g.m.cps.toList (k:Int)) _;rw [hmk];exact ⟨rfl,z'⟩
       ·rw [decide_eq_false c4,if_neg (by decide)];rw [if_neg c4] at z';refine ⟨lb,?_⟩;show o1 (e8 g.m.cps.toList (k:Int)) _;rw [hmk];exact ⟨rfl,z'⟩
      ·rw [decide_eq_false c3,if_neg (by decide)];rw [decide_eq_false c3,if_neg (by decide)] at z';exact next z' (_,_,_,_,_)
     ·rw [decide_eq_false c2,if_neg (by decide)];rw [decide_eq_false c2,aUI,if_neg (by decide)] at z';exact next z' (_,_,_,_,_)
    ·rw [decide_eq_false c1,if_neg (by decide)];rw [decide_eq_false c1,aUI,if_neg (by decide)] at z';exact next z' (_,_,_,_,_)
   ·rintro s ⟨i,_,z⟩;exact ⟨rfl,z⟩
  ·rw [decide_eq_false c,if_pos (by decide)];rw [if_pos c] at q;refine ⟨_,rfl,ln,?_⟩;show if decide (dX (dI g.o x)<0)=true then _ else _
   by_cases d:dX (dI g.o x)<0
   ·rw [decide_eq_true d,if_pos rfl];rw [if_pos d] at q;exact ⟨rfl,q⟩
   ·rw [decide_eq_false d,if_neg (by decide)];rw [if_neg d] at q;exact ⟨rfl,q⟩
end
end My
namespace My
open PySem L2 PyProof.Rows
section
variable {P:aVD} {w:aVH} {K:W.Frag} {mg:Str->Option Value} {base:Heap}
theorem aAW (n:Nat) (h1:1<=n) (h3:n<=3):∀ws:List Nat,(∀w∈ws,w<=3)->xX (u8 n) (ws.map u8)=ws.contains n
 | [],_=>rfl
 | w::ws,hw=>by
  have ih:=aAW n h1 h3 ws λx m=>hw x (by simp [m]);have w3:=hw w (by simp);unfold xX at ih ⊢;rw [aPB,aTD,ih];have e:eH (u8 w) (u8 n)=decide (w=n):=by
   have:w=0\/w=1\/w=2\/w=3:=by omega
   have:n=1\/n=2\/n=3:=by omega
   rcases ‹w=0\/_› with rfl | rfl | rfl | rfl<;>rcases ‹n=1\/_› with rfl | rfl | rfl<;>decide
  rw [e,List.contains_cons]
  congr 1
  rw [aP4,decide_eq_true_eq,beq_iff_eq];exact ⟨λz=>z.symm,λz=>z.symm⟩
theorem aAR (a b x:Pt):∀(es:List (Pt×Pt)) (i:Nat),(qK a b x es i).1<=3
 | [],i=>by simp [qK]
 | e::es,i=>by
  unfold qK
  split
  ·split<;>simp
  ·exact aAR a b x es (i+1)
theorem aGD (o:List Pt) (a b x:Pt):(fU o a b x).1<=3:=by
 unfold fU
 split
 ·split<;>simp
 ·exact aAR a b x _ _
structure BkS (b:e9):Prop where
 l0:0<b.o.length
 l6:b.o.length<=6
 m:b.m.cps.size=b.o.length
 pb:∀p∈b.o,Pb p
def tO:gW:=λas Q=>∃(bs:List e9) (a b:Pt),as=[.v (.lst (bs.map cW)),.v (pt a),.v (pt b)]/\bs.length<=20/\(∀x∈bs,BkS x)/\Pb a/\Pb b/\a≠b/\Q (.v (.bl (pL bs a b))) []
theorem aPJ (n:Nat):L2.dT (u8 n)<=1:=by
 match n with
 | 0 | 1 | 2 | _+3=>exact eV rfl
theorem aMD (n:Nat):noL (u8 n)=true:=by
 match n with
 | 0 | 1 | 2 | _+3=>rfl
abbrev j7:aVK:=top 51
theorem dS:aN ["_law_some","_law_a","_law_b","_law_cuts_here","_law_low","_law_high","_law_point","_law_words"] ["_law_some","_law_a","_law_b"] (aH j7):=⟨rfl,rfl,rfl,by decide +kernel,rfl,by decide +kernel,by decide +kernel⟩
theorem sU {f:aVA} {fd:aVF} (F:fO K "_law_is_clear" "_law_is_clear" j7 f fd) (TX:Txt mg) (g_mcuts:Fn P w K mg base 5 "_law_cuts" ["_law_some","_law_k","_law_a","_law_b"] (aI K aET)) (g_mon:Fn P w K mg base 4 "_law_on" ["_law_a","_law_b","_law_share"] (aI K aIZ)) (g_mproduct:Fn P w K mg base 2 "_law_product" ["_law_one","_law_other"] (aI K (jN fS))) (g_msum:Fn P w K mg base 2 "_law_sum" ["_law_one","_law_other"] (aI K (jN iC))) (g_mthere:Fn P w K mg base 5 "_law_there" ["_law_block","_law_a","_law_b","_law_point"] (aI K x6))   : bL P w K mg base fP 6 f fd ["_law_some","_law_a","_law_b"] (aI K tO):=by
 refine F.okT dS ?len (λcdv A outer s H E hr=>(aE (aX (i:=3) dS.nd rfl (aDC rfl) (aC g_mcuts hr (by omega) rfl (fc (fv 0) (fc (uY aB) (fc (fv 1) (fc (fv 2) aA))))))
 (aE (eM PassesOwn.never rfl (uF rfl rfl TX.n_zip (fc (fv 3) (fc (iW rfl (fv 3) (iH aB) kG) aA))) (cZ (n:=2) rfl rfl (aM (aK (i:=4) dS.nd rfl (aDC rfl)) (aM (aK (i:=5) dS.nd rfl (aDC rfl)) b9)))
  (aE (aX (i:=6) dS.nd rfl (aN3 rfl) (aC g_mon hr (by omega) rfl (fc (fv 1) (fc (fv 2) (fc (aC g_mproduct hr (by omega) rfl (fc (aC g_msum hr (by omega) rfl (fc (fv 4) (fc (fv 5) aA))) (fc (aQ (fc aB (fc aB aA))) aA))) aA)))))
 (aE (kJ (i:=7) (N':=["_law_block","_law_a","_law_b","_law_point"]) (t:=1) (cap:=[(1,false),(2,false),(6,false)]) dS.nd rfl (aDC rfl) rfl rfl (bN.of rfl) rfl (by decide) (eF rfl (fv 0)) (λ_ _ _ _=>(aK (i:=0) (show aQ2 (["_law_block","_law_a","_law_b","_law_point"]:List Str) by decide +kernel) rfl (aDC rfl) (aN3 rfl))) (λ_ _ _ _=>(aG rfl (aC g_mthere hr (by omega) rfl (fc (fv 0) (fc (fv 1) (fc (fv 2) (fc (fv 3) aA))))) aB (λ_ _=>rfl))))
 (aJ (dG (rF (aKC (aGW rfl hr dC (fv 7) rfl) (aEZ (rF (i9 (aGW rfl hr dC (fv 7) rfl) (iI (aGW rfl hr dC (fv 7) rfl))))))) (aJ (aO kC)) cJ)))))
 (aJ (aO kC))))) ?rd
 case len=>rintro as Q ⟨bs,a,b,rfl,_⟩;rfl
 case rd=>
  rintro as Q ⟨bs,a,b,rfl,hl,hb,ha,hb',ne,q⟩;refine ⟨bs,-1,a,b,rfl,hl,λx m=>⟨(hb x m).l6,(hb x m).pb⟩,ha,hb',ne,?_⟩;have ec:aBH bs (-1) a b=d8 bs a b:=by unfold aBH d8;rw [aBY]
  rw [ec];have nS:∀f∈iG bs a b,cH f/\sz f<=400:=λf m=>by
   obtain ⟨k,mk,m⟩:=aTB.mp m;exact aGQ ha hb' ne (hb k mk).pb f m
  have ro:=rA (shares:=iG bs a b) λf m=>(nS f m).1;have cz:∀c∈d8 bs a b,cH c/\sz c<=400:=λc m=>⟨ro.n c m,by
   rcases ro.k c m with rfl | rfl | m
   ·have:=aO1;omega
   ·have:=aMM;omega
   ·exact (nS c m).2⟩
  have sl:(iG bs a b).length<=12*bs.length:=mD λk mk=>aAK (hb k mk).l6;have cl:(d8 bs a b).length<=300:=by have:=ro.l;unfold d8 at *;omega
  unfold pL at q;generalize d8 bs a b=C at q cz cl ⊢;have ez:dP (C.map fr) (iN (C.map fr) (some 1) none)=(C.zip C.tail).map λp=>L2.T.tup [fr p.1,fr p.2]:=by rw [aDS,<-aU7,zip_map]
  show kF _ (cO _ _ _ (dP (C.map fr) (iN (C.map fr) (some 1) none)));rw [ez];have hz:∀x∈C.zip C.tail,x.1∈C/\x.2∈C:=λx m=>by
   obtain ⟨m1,m2⟩:=aS4 (a:=x.1) (b:=x.2) m;exact ⟨m1,aTR m2⟩
  generalize C.zip C.tail=Z at q hz ⊢;refine d9 (f:=λp:Fr×Fr=>L2.T.tup [fr p.1,fr p.2]) (λs:Option U×Option U×Option U×Option U=>[some (.p (.lst (bs.map cW))),some (.p (pt a)),some (.p (pt b)),some (.p (.lst (C.map fr))),s.1,s.2.1,s.2.2.1,s.2.2.2])
   (λZ' _=>(∀x∈Z',x.1∈C/\x.2∈C)/\Q (.v (.bl (Z'.all λx=>!((fY bs a b (gG a b (dH x))).contains 1||((fY bs a b (gG a b (dH x))).contains 2&&(fY bs a b (gG a b (dH x))).contains 3))))) []) ?_ ?_ Z (none,none,none,none) ⟨hz,q⟩
  ·rintro x Z' ⟨s1,s2,s3,s4⟩ rest ⟨hx,z⟩ K;obtain ⟨m1,m2⟩:=hx x (by simp);obtain ⟨c1,z1⟩:=cz _ m1;obtain ⟨c2,z2⟩:=cz _ m2;have hrest:∀y∈Z',y.1∈C/\y.2∈C:=λy m=>hx y (by simp [m]);have sa:=t8 c1 c2;have na:=eD c1 c2;have h12:cH ((1,2):Fr):=⟨by decide,by decide⟩;have s12:sz ((1,2):Fr)<=2:=j8 (by decide) (by decide) (by decide);have sm:=gK na h12;refine ⟨_,_,rfl,c1,c2,by omega,_,(1,2),rfl,na,h12,by omega,?_⟩;refine ⟨a,b,dH x,rfl,ha,hb',bC na h12,by unfold dH;omega,?_⟩;have nx:Nv (gG a b (dH x)).1 (gG a b (dH x)).2 1000:=by
    have n1:=dY hb'.v ha.v;have n2:=aEW n1 (bC na h12);exact (aME ha.v n2).up (by unfold dH at *;omega)
   simp only [aU6] at z;generalize gG a b (dH x)=X at *;refine ⟨rfl,?_⟩;show gZ _ _ (bs.map cW) _ _;refine cB (f:=cW) (h:=λg=>u8 (fU g.o a b X).1) (λ(v:Option U) acc=>[v,some (.p (pt a)),some (.p (pt b)),some (.p (pt X)),some (.o false acc)]) bs none [] (by simp;omega) (λg m v acc rest' hacc K'=>?_) λv=>?_
   ·have hg:=hb g m;refine ⟨g,a,b,X,rfl,hg.l0,by have:=hg.l6;omega,hg.m,hg.pb,ha,hb',nx,?_⟩;exact ⟨hacc,K' _⟩
   ·have ew:(bs.map λg=>u8 (fU g.o a b X).1)=(fY bs a b X).map u8:=by unfold fY;rw [aN1];rfl
    have wl:∀w∈fY bs a b X,w<=3:=λw m=>by
     obtain ⟨g,_,rfl⟩:=aDB.mp m;exact aGD _ _ _ _
    refine ⟨bB (λ_=>aMD _) _,?_⟩;rw [aQY,ew];generalize fY bs a b X=W at *;have dw:L2.zZ (W.map u8)<=50:=aPW (kI aPJ W) (by decide);refine (?_:kF [some (.p (.lst (bs.map cW))),some (.p (pt a)),some (.p (pt b)),some (.p (.lst (C.map fr))),some (.p (fr x.1)),some (.p (fr x.2)),some (.p (pt X)),some (.o false (W.map u8))] _);refine ⟨dw,?_⟩;show if (xX (u8 1) (W.map u8))=true then _ else _;rw [aAW 1 (by decide) (by decide) W wl]
    by_cases c1:W.contains 1=true
    ·rw [c1] at z ⊢;rw [if_pos rfl];exact ⟨rfl,z⟩
    ·rw [if_neg c1];rw [aRG.mpr c1] at z;refine ⟨dw,?_⟩;show if (xX (u8 2) (W.map u8))=true then _ else _;rw [aAW 2 (by decide) (by decide) W wl]
     by_cases c2:W.contains 2=true
     ·rw [c2] at z ⊢;rw [if_pos rfl];refine ⟨dw,?_⟩;show if (xX (u8 3) (W.map u8))=true then _ else _;rw [aAW 3 (by decide) (by decide) W wl]
      by_cases c3:W.contains 3=true
      ·rw [c3] at z ⊢;rw [if_pos rfl];exact ⟨rfl,z⟩
      ·rw [if_neg c3];rw [aRG.mpr c3] at z;exact K (_,_,_,_) ⟨hrest,z⟩
     ·rw [if_neg c2];rw [aRG.mpr c2] at z;exact K (_,_,_,_) ⟨hrest,z⟩
  ·rintro s ⟨_,z⟩;exact ⟨rfl,z⟩
def aD1:gW:=λas Q=>∃x y:Bool,as=[.v (.bl x),.v (.bl y)]/\Q (.v (.bl (x==y))) []
abbrev pK:aVK:=top 52
theorem aB6:aN ["_law_found","_law_due"] ["_law_found","_law_due"] (aH pK):=⟨rfl,rfl,rfl,by decide +kernel,rfl,by decide +kernel,by decide +kernel⟩
theorem aBS {f:aVA} {fd:aVF} (F:fO K "_law_is_so" "_law_is_so" pK f fd) (TX:Txt mg)    : bL P w K mg base fP 1 f fd ["_law_found","_law_due"] (aI K aD1):=by
 refine F.okT aB6 ?len (λcdv A outer s H E hr=>(aJ (aO (aNZ (aNA aNO rfl rfl TX.n_isinstance (fv 0) rfl TX.n_bool aI7 (by decide)) (zH (aJ1 rfl hr (fv 0) (fv 1) (aS _))))))) ?rd
 case len=>rintro as Q ⟨x,y,rfl,_⟩;rfl
 case rd=>
  rintro as Q ⟨x,y,rfl,q⟩;exact ⟨eV rfl,rfl,q⟩
def tR (o:List Pt) (p:Pt):Bool:=(bY o).all λl=>decide (0<=cQ l (aF p))
def aFO (o:List Pt) (p:Pt):Bool:=(bY o).all λl=>decide (0<cQ l (aF p))
def vF (bs:List e9) (p:Pt):Bool:=bs.any λb=>tR b.o p
theorem pB:∀bs:List Bool,jM (bs.map L2.T.bl)=some bs
 | []=>rfl
 | b::bs=>by show (jM (bs.map L2.T.bl)).map (b::·)=_;rw [pB bs];rfl
def xZ:gW:=λas Q=>∃(b:e9) (p:Pt),as=[.v (cW b),.v (t3 (aF p))]/\b.o.length<=900/\(∀p∈b.o,Pb p)/\Pb p/\Q (.v (.bl (tR b.o p))) []
abbrev iM:aVK:=top 21
theorem qJ:aN ["block","spot"] ["block","spot"] (aH iM):=⟨rfl,rfl,rfl,by decide +kernel,rfl,by decide +kernel,by decide +kernel⟩
theorem qR {f:aVA} {fd:aVF} (F:fO K "is_in_block" "is_in_block" iM f fd) (TX:Txt mg) (g_edge_lines:Fn P w K mg base 3 "edge_lines" ["block"] (aI K pU)) (g_off_line:Fn P w K mg base 1 "off_line" ["line","spot"] (aI K vW))   : bL P w K mg base fP 4 f fd ["block","spot"] (aI K xZ):=by
 refine F.okT qJ ?len (λcdv A outer s H E hr=>(aJ (aO (aGR rfl rfl rfl TX.n_all (fc (gV (N':=["line","spot"]) (t:=1) (cap:=[(1,false)]) rfl (bN.of rfl) rfl (by decide) (eF rfl (aC g_edge_lines hr (by omega) rfl (fc (fv 0) aA))) (λ_ _ _ _=>(aK (i:=0) (show aQ2 (["line","spot"]:List Str) by decide +kernel) rfl (aDC rfl) (aN3 rfl))) (λ_ _ _ _=>(mU sC (aC g_off_line hr (by omega) rfl (fc (fv 0) (fc (fv 1) aA))) aB (aS _)))) aA))))) ?rd
 case len=>rintro as Q ⟨b,p,rfl,_⟩;rfl
 case rd=>
  rintro as Q ⟨b,p,rfl,hl,hb,hp,q⟩;refine ⟨b,rfl,hl,hb,rfl,?_⟩;have le:(bY b.o).length<=900:=by simp only [bY,lQ,aBC,aUD];omega
  refine cB (f:=t3) (h:=λl=>.bl (decide (0<=cQ l (aF p)))) (λ(v:Option U) acc=>[v,some (.p (t3 (aF p))),some (.o false acc)]) (bY b.o) none [] (by simp;omega) (λl m v acc rest ha K=>?_) λv=>?_
  ·exact ⟨l,aF p,rfl,(o9 hb l m).up (by decide),(g9 hp).up (by decide),ha,K _⟩
  ·refine ⟨bB (λ_=>rfl) _,?_⟩;have e:((bY b.o).map λl=>L2.T.bl (decide (0<=cQ l (aF p))))=((bY b.o).map λl=>decide (0<=cQ l (aF p))).map L2.T.bl:=by rw [aN1];rfl
   rw [aQY,e];show o1 (jM _) _;rw [pB];refine ⟨rfl,?_⟩;unfold tR at q;rw [List.all_map];exact q
def aGX:gW:=λas Q=>∃(bs:List e9) (p:Pt),as=[.v (.lst (bs.map cW)),.v (pt p)]/\bs.length<=900/\(∀b∈bs,b.o.length<=900/\∀p∈b.o,Pb p)/\Pb p/\Q (.v (.bl (vF bs p))) []
abbrev uZ:aVK:=top 22
theorem xD:aN ["blocks","point","spot"] ["blocks","point"] (aH uZ):=⟨rfl,rfl,rfl,by decide +kernel,rfl,by decide +kernel,by decide +kernel⟩
theorem aD0 {f:aVA} {fd:aVF} (F:fO K "is_in" "is_in" uZ f fd) (TX:Txt mg) (g_spot_of:Fn P w K mg base 2 "spot_of" ["point"] (aI K pJ)) (g_is_in_block:Fn P w K mg base 4 "is_in_block" ["block","spot"] (aI K xZ))  (n_any:mg "any" = none):bL P w K mg base fP 5 f fd ["blocks","point"] (aI K aGX):=by
 refine F.okT xD ?len (λcdv A outer s H E hr=>(aE (aX (i:=2) xD.nd rfl (aN3 rfl) (aC g_spot_of hr (by omega) rfl (fc (fv 1) aA)))
 (aJ (aO (aL9 rfl rfl rfl n_any (fc (gV (N':=["block","spot"]) (t:=1) (cap:=[(2,false)]) rfl (bN.of rfl) rfl (by decide) (eF rfl (fv 0)) (λ_ _ _ _=>(aK (i:=0) (show aQ2 (["block","spot"]:List Str) by decide +kernel) rfl (aDC rfl) (aN3 rfl))) (λ_ _ _ _=>(aC g_is_in_block hr (by omega) rfl (fc (fv 0) (fc (fv 1) aA))))) aA)))))) ?rd
 case len=>rintro as Q ⟨bs,p,rfl,_⟩;rfl
 case rd=>
  rintro as Q ⟨bs,p,rfl,hl,hb,hp,q⟩;refine ⟨p,rfl,hp,rfl,?_⟩;refine cB (f:=cW) (h:=λb=>.bl (tR b.o p)) (λ(v:Option U) acc=>[v,some (.p (t3 (aF p))),some (.o false acc)]) bs none [] (by simp;omega) (λb m v acc rest ha K=>?_) λv=>?_
  ·exact ⟨b,p,rfl,(hb b m).1,(hb b m).2,hp,ha,K _⟩
  ·refine ⟨bB (λ_=>rfl) _,?_⟩;have e:(bs.map λb=>L2.T.bl (tR b.o p))=(bs.map λb=>tR b.o p).map L2.T.bl:=by rw [aN1];rfl
   rw [aQY,e];show o1 (jM _) _;rw [pB];refine ⟨rfl,?_⟩;unfold vF at q;rw [List.any_map];exact q
def aE7:gW:=λas Q=>∃(b:e9) (p:Pt),as=[.v (cW b),.v (pt p)]/\b.o.length<=900/\(∀p∈b.o,Pb p)/\Pb p/\Q (.v (.bl (aFO b.o p))) []
abbrev j0:aVK:=top 23
theorem mE:aN ["block","point","spot"] ["block","point"] (aH j0):=⟨rfl,rfl,rfl,by decide +kernel,rfl,by decide +kernel,by decide +kernel⟩
theorem uK {f:aVA} {fd:aVF} (F:fO K "is_within" "is_within" j0 f fd) (TX:Txt mg) (g_spot_of:Fn P w K mg base 2 "spot_of" ["point"] (aI K pJ)) (g_edge_lines:Fn P w K mg base 3 "edge_lines" ["block"] (aI K pU)) (g_off_line:Fn P w K mg base 1 "off_line" ["line","spot"] (aI K vW))   : bL P w K mg base fP 4 f fd ["block","point"] (aI K aE7):=by
 refine F.okT mE ?len (λcdv A outer s H E hr=>(aE (aX (i:=2) mE.nd rfl (aN3 rfl) (aC g_spot_of hr (by omega) rfl (fc (fv 1) aA)))
 (aJ (aO (aGR rfl rfl rfl TX.n_all (fc (gV (N':=["line","spot"]) (t:=1) (cap:=[(2,false)]) rfl (bN.of rfl) rfl (by decide) (eF rfl (aC g_edge_lines hr (by omega) rfl (fc (fv 0) aA))) (λ_ _ _ _=>(aK (i:=0) (show aQ2 (["line","spot"]:List Str) by decide +kernel) rfl (aDC rfl) (aN3 rfl))) (λ_ _ _ _=>(mU oJ (aC g_off_line hr (by omega) rfl (fc (fv 0) (fc (fv 1) aA))) aB (aS _)))) aA)))))) ?rd
 case len=>rintro as Q ⟨b,p,rfl,_⟩;rfl
 case rd=>
  rintro as Q ⟨b,p,rfl,hl,hb,hp,q⟩;refine ⟨p,rfl,hp,b,rfl,hl,hb,rfl,?_⟩;have le:(bY b.o).length<=900:=by simp only [bY,lQ,aBC,aUD];omega
  refine cB (f:=t3) (h:=λl=>.bl (decide (0<cQ l (aF p)))) (λ(v:Option U) acc=>[v,some (.p (t3 (aF p))),some (.o false acc)]) (bY b.o) none [] (by simp;omega) (λl m v acc rest ha K=>?_) λv=>?_
  ·exact ⟨l,aF p,rfl,(o9 hb l m).up (by decide),(g9 hp).up (by decide),ha,K _⟩
  ·refine ⟨bB (λ_=>rfl) _,?_⟩;have e:((bY b.o).map λl=>L2.T.bl (decide (0<cQ l (aF p))))=((bY b.o).map λl=>decide (0<cQ l (aF p))).map L2.T.bl:=by rw [aN1];rfl
   rw [aQY,e];show o1 (jM _) _;rw [pB];refine ⟨rfl,?_⟩;unfold aFO at q;rw [List.all_map];exact q
end
end My
namespace My
open PySem L2 PyProof.Rows
section
variable {P:aVD} {w:aVH} {K:W.Frag} {mg:Str->Option Value} {base:Heap}
abbrev Z2:=Int×Int
abbrev Ez:=Z2×Z2
def cz2 (u v:Z2):Int:=u.1*v.2-u.2*v.1
def dz2 (u v:Z2):Int:=u.1*v.1+u.2*v.2
def sz2 (p q:Z2):Z2:=(p.1-q.1,p.2-q.2)
def vz (e:Ez):Z2:=sz2 e.2 e.1
def fz (e:Ez) (x:Z2):Int:=cz2 (vz e) (sz2 x e.1)
def zrZ (cs:List Z2):List Ez:=cs.zip (lQ cs)
def okZ (es:List Ez):Bool:=
 (es.all λe=>es.all λg=>decide (0<=fz e g.1))&&((es.all λe=>es.any λg=>decide (0<fz e g.1))&&((es.all λe=>decide (0<dz2 (vz e) (vz e))) &&
 ((es.all λe=>es.any λg=>decide (g.1=e.2)&&(decide (0<cz2 (vz e) (vz g))||(decide (cz2 (vz e) (vz g)=0)&&(decide (0<dz2 (vz e) (vz g))&&es.any λh=>decide (h.1=g.2)&&decide (0<cz2 (vz g) (vz h)))))) &&
 (es.all λe=>es.any λg=>decide (g.2=e.1)&&(decide (0<cz2 (vz g) (vz e))||(decide (cz2 (vz g) (vz e)=0)&&(decide (0<dz2 (vz g) (vz e))&&es.any λh=>decide (h.2=g.1)&&decide (0<cz2 (vz h) (vz g)))))))))
theorem aIP:((aS1 5).all λw=>(aS1 6).all λx=>(aS1 6).all λy=>okZ (zrZ (e7 ((x:Int)+1) ((y:Int)+1) w)))=true:=by decide +kernel
theorem aH8 {x y:Int} {w:Nat} (hx:1<=x) (hx':x<=6) (hy:1<=y) (hy':y<=6) (hw:w<5):okZ (zrZ (e7 x y w))=true:=by
 have h:=aIP;rw [aN7] at h;have h1:=h w (aQ7.mpr hw);rw [aN7] at h1;have h2:=h1 (x-1).toNat (aQ7.mpr (by omega));rw [aN7] at h2;have h3:=h2 (y-1).toNat (aQ7.mpr (by omega));rw [show (((x-1).toNat:Nat):Int)+1=x by omega,show (((y-1).toNat:Nat):Int)+1=y by omega] at h3;exact h3
def pq (X Y:Int) (c:Z2):Q2:=(((X:Rat)+2*(c.1:Rat))*(1/2),((Y:Rat)+2*(c.2:Rat))*(1/2))
def vT (X Y:Int) (e:Ez):Eg:=(pq X Y e.1,pq X Y e.2)
theorem aGU (X Y:Int) (c:Z2):vq (hf (X+2*c.1),hf (Y+2*c.2))=pq X Y c:=by
 unfold vq pq;rw [mW,mW]
 push_cast
 rfl
theorem aHT (X Y:Int) (cs:List Z2):jQ (eN X Y cs)=(zrZ cs).map (vT X Y):=by
 unfold jQ zr zrZ eN;rw [wO,List.zip_map,aN1];refine List.map_congr_left λe _=>?_;show (vq _,vq _)=vT X Y e;unfold vT;rw [<-aGU,<-aGU];rfl
theorem xJ (X Y:Int) (e:Ez):aW (vT X Y e)=(((vz e).1:Rat),((vz e).2:Rat)):=by
 unfold aW vT bH pq vz sz2
 push_cast
 exact Prod.ext (by simp only;grind) (by simp only;grind)
theorem aO6 {X Y:Int} {es:List Ez} (h:okZ es=true):Cx (es.map (vT X Y)):=by
 have cc:∀e g:Ez,bV (aW (vT X Y e)) (aW (vT X Y g))=((cz2 (vz e) (vz g):Int):Rat):=λe g=>by
  rw [xJ,xJ];unfold bV cz2;push_cast;rfl
 have dd:∀e g:Ez,bE (aW (vT X Y e)) (aW (vT X Y g))=((dz2 (vz e) (vz g):Int):Rat):=λe g=>by
  rw [xJ,xJ];unfold bE dz2;push_cast;rfl
 have ff:∀e g:Ez,fE (vT X Y e) (vT X Y g).1=((fz e g.1:Int):Rat):=λe g=>by
  unfold fE fz bV cz2;rw [xJ];unfold bH vT pq sz2
  push_cast
  grind
 have le:∀{i:Int},0<=i->(0:Rat)<=(i:Rat):=λh=>by exact_mod_cast h
 have lt:∀{i:Int},0<i->(0:Rat)<(i:Rat):=λh=>by exact_mod_cast h
 unfold okZ at h;simp only [aLI] at h;obtain ⟨h1,h2,h3,h4,h5⟩:=h;rw [aN7] at h1 h2 h3 h4 h5;refine ⟨λe0 me0 g0 mg0=>?_,λe0 me0=>?_,λe0 me0=>?_,λe0 me0=>?_,λe0 me0=>?_⟩
 ·obtain ⟨e,me,rfl⟩:=aDB.mp me0;obtain ⟨g,mg,rfl⟩:=aDB.mp mg0;rw [ff];have:=h1 e me;rw [aN7] at this;exact le (by simpa using this g mg)
 ·obtain ⟨e,me,rfl⟩:=aDB.mp me0;have:=h2 e me;rw [aSA] at this;obtain ⟨g,mg,k⟩:=this;exact ⟨_,aDB.mpr ⟨g,mg,rfl⟩,by rw [ff];exact lt (by simpa using k)⟩
 ·obtain ⟨e,me,rfl⟩:=aDB.mp me0;rw [dd];exact lt (by simpa using h3 e me)
 ·obtain ⟨e,me,rfl⟩:=aDB.mp me0;have:=h4 e me;rw [aSA] at this;obtain ⟨g,mg,k⟩:=this;simp only [aLI,aUE,decide_eq_true_eq] at k;obtain ⟨k1,k2⟩:=k;refine ⟨_,aDB.mpr ⟨g,mg,rfl⟩,by unfold vT;rw [k1],?_⟩;rcases k2 with k2 | ⟨k2,k3,k4⟩
  ·exact .inl (by rw [cc];exact lt k2)
  ·rw [aSA] at k4;obtain ⟨f,mf,k5⟩:=k4;simp only [aLI,decide_eq_true_eq] at k5;refine .inr ⟨by rw [cc,k2];rfl,by rw [dd];exact lt k3,_,aDB.mpr ⟨f,mf,rfl⟩,by unfold vT;rw [k5.1],by rw [cc];exact lt k5.2⟩
 ·obtain ⟨e,me,rfl⟩:=aDB.mp me0;have:=h5 e me;rw [aSA] at this;obtain ⟨g,mg,k⟩:=this;simp only [aLI,aUE,decide_eq_true_eq] at k;obtain ⟨k1,k2⟩:=k;refine ⟨_,aDB.mpr ⟨g,mg,rfl⟩,by unfold vT;rw [k1],?_⟩;rcases k2 with k2 | ⟨k2,k3,k4⟩
  ·exact .inl (by rw [cc];exact lt k2)
  ·rw [aSA] at k4;obtain ⟨f,mf,k5⟩:=k4;simp only [aLI,decide_eq_true_eq] at k5;refine .inr ⟨by rw [cc,k2];rfl,by rw [dd];exact lt k3,_,aDB.mpr ⟨f,mf,rfl⟩,by unfold vT;rw [k5.1],by rw [cc];exact lt k5.2⟩
theorem LB.pb {b:e9} (h:LB 400 b):∀p∈b.o,Pb p:=λp m=>by
 obtain ⟨w,x,y,X,Y,h1,h2,h3,h4,h5,h6,h7,h8⟩:=h.ex;rw [h8] at m;obtain ⟨c,mc,rfl⟩:=aDB.mp m;have:=vV h2 h3 h4 h5 w c mc;exact ⟨(mJ (by omega) (by omega)).up (by decide)⟩
theorem LB.len {M:Int} {b:e9} (h:LB M b):3<=b.o.length/\b.o.length<=6:=by
 obtain ⟨w,x,y,X,Y,h1,h2,h3,h4,h5,h6,h7,h8⟩:=h.ex;rw [h8,eN,aBC];exact uM x y w
theorem LB.s {b:e9} (h:LB 400 b):BkS b:=⟨by have:=h.len;omega,h.len.2,h.m.len,h.pb⟩
theorem LB.gb {b:e9} (h:LB 400 b):GB b.o:=by
 refine ⟨λp m=>(h.pb p m).np.spt,?_,λz=>by have:=h.len;rw [z] at this;simp at this⟩;obtain ⟨w,x,y,X,Y,h1,h2,h3,h4,h5,h6,h7,h8⟩:=h.ex;rw [h8,aHT];exact aO6 (aH8 h2 h3 h4 h5 h1)
theorem LB.ok {b:e9} (h:LB 400 b):aEN b:=by
 refine ⟨by have:=h.len;omega,by have:=h.len;omega,h.pb,λl m=>?_⟩;rw [nH] at m;obtain ⟨x,mx,rfl⟩:=aDB.mp m;obtain ⟨m1,m2⟩:=eO mx;exact qC (h.gb.sp _ m1) (h.gb.sp _ m2) (h.gb.cx.ne _ (aDB.mpr ⟨x,mx,rfl⟩))
theorem aM4 {bs:List e9} (h:∀b∈bs,LB 400 b):GBs bs:=⟨λb m=>(h b m).gb,λb m p mp=>((h b m).pb p mp).np⟩
theorem aN4 {p q:Pt} (hp:Pb p) (hq:Pb q) (ne:p≠q):aJN p q:=⟨hp,hq,ne,qC hp.np.spt hq.np.spt (mV hp.np hq.np ne)⟩
theorem aNX {c d x:Pt} (hc:NP c) (hd:NP d) (hx:NP x):(0<=cQ (fN c d) (aF x)↔0<=uR x (c,d))/\(0<cQ (fN c d) (aF x)↔0<uR x (c,d)):=by
 have o:=qD hc.spt hd.spt hx.spt;have s:=aL2 (e:=(c,d)) hx hc hd;have w:=Rat.mul_pos (Rat.mul_pos hc.spt.p hd.spt.p) hx.spt.p;have e:((cQ (fN c d) (aF x):Int):Rat)=fE (vq c,vq d) (vq x)*(((aF c).2.2:Rat)*((aF d).2.2:Rat)*((aF x).2.2:Rat)):=by rw [o];grind
 have i1:(0:Rat)<((cQ (fN c d) (aF x):Int):Rat)↔0<cQ (fN c d) (aF x):=by norm_cast
 have i2:(0:Rat)<=((cQ (fN c d) (aF x):Int):Rat)↔0<=cQ (fN c d) (aF x):=by norm_cast
 rw [<-i1,<-i2,e,yL w,uN w];refine ⟨?_,s.2.1.symm⟩;constructor
 ·intro h;have:=mt s.1.mp (by grind);omega
 ·intro h;have:=mt s.1.mpr (by omega);grind
theorem aAL {o:List Pt} {x:Pt} (ho:∀p∈o,NP p) (hx:NP x) (ne:o≠[]):tR o x=decide (0<=dX (dI o x))/\aFO o x=decide (0<dX (dI o x)):=by
 have mi:dX (dI o x)∈dI o x:=wN (by unfold dI;simpa using aDM ne);obtain ⟨e0,m0,q0⟩:=aDB.mp mi;have le:∀e∈zr o,dX (dI o x)<=uR x e:=λe m=>kP (aDB.mpr ⟨e,m,rfl⟩);have sg:∀e∈zr o,_:=λe m=>aNX (ho _ (eO m).1) (ho _ (eO m).2) hx;unfold tR aFO;rw [nH];constructor
 ·rw [aP4,aN7,decide_eq_true_eq];constructor
  ·intro h;have:=h _ (aDB.mpr ⟨e0,m0,rfl⟩);rw [decide_eq_true_eq] at this;rw [<-q0];exact (sg e0 m0).1.mp this
  ·intro h l m;obtain ⟨e,me,rfl⟩:=aDB.mp m;rw [decide_eq_true_eq];exact (sg e me).1.mpr (by have:=le e me;show 0<=uR x e;omega)
 ·rw [aP4,aN7,decide_eq_true_eq];constructor
  ·intro h;have:=h _ (aDB.mpr ⟨e0,m0,rfl⟩);rw [decide_eq_true_eq] at this;rw [<-q0];exact (sg e0 m0).2.mp this
  ·intro h l m;obtain ⟨e,me,rfl⟩:=aDB.mp m;rw [decide_eq_true_eq];exact (sg e me).2.mpr (by have:=le e me;show 0<uR x e;omega)
theorem aE6 {ns:List Int} (h:ns≠[]):m8 ns∈ns:=by
 cases ns with
 | nil=>exact absurd rfl h
 | cons n ns=>
  obtain ⟨h1,_,_⟩:=L2.mI ns n;show ns.foldl _ n∈_;rcases h1 with h1 | h1
  ·rw [h1];simp
  ·exact aJV _ h1
def fL (bs:List e9) (x:Pt):List Int:=bs.map λb=>dX (dI b.o x)
theorem aJG {bs:List e9} {x:Pt} (h:∀b∈bs,LB 400 b) (hx:NP x) (ne:bs≠[]):vF bs x=decide (0<=m8 (fL bs x)):=by
 have mi:m8 (fL bs x)∈fL bs x:=aE6 (by unfold fL;simpa using ne);obtain ⟨b0,m0,q0⟩:=aDB.mp mi;have k:∀b∈bs,tR b.o x=decide (0<=dX (dI b.o x)):=λb m=>(aAL (λp mp=>((h b m).pb p mp).np) hx (h b m).gb.ne).1;unfold vF;rw [aP4,aSA,decide_eq_true_eq];constructor
 ·rintro ⟨b,m,z⟩;rw [k b m,decide_eq_true_eq] at z;have:dX (dI b.o x)<=m8 (fL bs x):=mX (aDB.mpr ⟨b,m,rfl⟩);omega
 ·intro z;exact ⟨b0,m0,by rw [k b0 m0,decide_eq_true_eq];rw [q0];exact z⟩
end
end My
namespace My
open PySem L2 PyProof.Rows
section
variable {P:aVD} {w:aVH} {K:W.Frag} {mg:Str->Option Value} {base:Heap}
structure Hp2 (a b:Pt) (p1 p2 d1 d2:Int):Prop where
 a:a=(hf p1,hf p2)
 b:b=(hf (p1+2*d1),hf (p2+2*d2))
 h1:p1.natAbs<=416
 h2:p2.natAbs<=416
 k1:d1.natAbs<=8
 k2:d2.natAbs<=8
theorem wK {p d N D:Int} {f:Fr} (hp:p.natAbs<=416) (hd:d.natAbs<=8) (hf':cH f) (D0:D≠0) (hD:D.natAbs<=256) (hN:N.natAbs<=14000) (e:val f*(D:Rat)=(N:Rat)) :
  cH (iC (hf p) (fS (bK (hf (p+2*d)) (hf p)) f))/\sz (iC (hf p) (fS (bK (hf (p+2*d)) (hf p)) f))<=20:=by
 rw [zK (p:=p+2*d) (q:=p) (d:=d) (by omega)];have n1:=bC (b8 d) hf';have n2:=eD (iY p) n1;refine ⟨n2,?_⟩;have D2:2*D≠0:=by omega
 have Dr:(D:Rat)≠0:=by exact_mod_cast D0
 have ev:iC (hf p) (fS (d,1) f)=low (p*D+2*d*N) (2*D):=by
  refine iJ n2 (gU D2) ?_;rw [jK (iY p) n1,mW,gF (b8 d) hf',kM,kS D2]
  push_cast
  grind
 rw [ev];refine nG D2 ?_ (by omega) (by decide);have e1:(p*D).natAbs<=416*256:=by rw [aRF];exact aTN hp hD
 have e2:(2*d*N).natAbs<=16*14000:=by rw [aRF];exact aTN (by omega) hN
 omega
theorem aD6 {a b:Pt} {p1 p2 d1 d2 N D:Int} {f:Fr} (h:Hp2 a b p1 p2 d1 d2) (hf':cH f) (D0:D≠0) (hD:D.natAbs<=256) (hN:N.natAbs<=14000) (e:val f*(D:Rat)=(N:Rat)):Pb (gG a b f):=by
 have x:=wK h.h1 h.k1 hf' D0 hD hN e;have y:=wK h.h2 h.k2 hf' D0 hD hN e;rw [h.a,h.b];exact ⟨⟨x.1,y.1,x.2,y.2⟩⟩
theorem Hp2.pb {a b:Pt} {p1 p2 d1 d2:Int} (h:Hp2 a b p1 p2 d1 d2):Pb a/\Pb b:=by
 have:=h.h1;have:=h.h2;have:=h.k1;have:=h.k2;rw [h.a,h.b];exact ⟨⟨(mJ (by omega) (by omega)).up (by decide)⟩,⟨(mJ (by omega) (by omega)).up (by decide)⟩⟩
theorem Hp2.v {a b:Pt} {p1 p2 d1 d2:Int} (h:Hp2 a b p1 p2 d1 d2):vq a=((p1:Rat)*(1/2),(p2:Rat)*(1/2))/\bH (vq b) (vq a)=((d1:Rat),(d2:Rat)):=by
 rw [h.a,h.b];unfold bH vq;refine ⟨by simp only [mW],?_⟩;simp only [mW]
 push_cast
 exact Prod.ext (by simp only;grind) (by simp only;grind)
theorem aIF {a b c d:Int} {A B:Nat} (h1:a.natAbs<=A) (h2:b.natAbs<=B) (h3:c.natAbs<=A) (h4:d.natAbs<=B):(a*b-c*d).natAbs<=2*(A*B)/\(a*b+c*d).natAbs<=2*(A*B):=by
 have e1:(a*b).natAbs<=A*B:=by rw [aRF];exact aTN h1 h2
 have e2:(c*d).natAbs<=A*B:=by rw [aRF];exact aTN h3 h4
 omega
theorem aDY {a b c d:Pt} {p1 p2 d1 d2 r1 r2 e1 e2:Int} (h:Hp2 a b p1 p2 d1 d2) (k:Hp2 c d r1 r2 e1 e2) (ne:a≠b) {f:Fr} {fs:List Fr} (hm:hV a b c d=f::fs):Pb (gG a b f):=by
 obtain ⟨pa,pb⟩:=h.pb;obtain ⟨pc,pd⟩:=k.pb;obtain ⟨va,vab⟩:=h.v;obtain ⟨vc,vcd⟩:=k.v;have n1:=cK pb.np pa.np;have n2:=cK pd.np pc.np;have n3:=cK pc.np pa.np;have n4:=cK pd.np pa.np;have hc:bH (vq c) (vq a)=(((r1:Rat)-(p1:Rat))*(1/2),((r2:Rat)-(p2:Rat))*(1/2)):=by
  rw [va,vc];unfold bH;exact Prod.ext (by simp only;grind) (by simp only;grind)
 have q1:=h.h1;have q2:=h.h2;have q3:=h.k1;have q4:=h.k2;have q5:=k.h1;have q6:=k.h2;have q7:=k.k1;have q8:=k.k2;have fm:=oZ pa.np pb.np pc.np pd.np (mV pa.np pb.np ne) f (by rw [hm];simp);unfold hV at hm
 by_cases c1:(iQ (dA b a) (dA d c)).1≠0
 ·rw [if_pos c1] at hm;split at hm
  ·cases hm;have vo:=aHO (eQ n3 n2) (eQ n1 n2) c1;have bz:bV (bH (vq b) (vq a)) (bH (vq d) (vq c))≠0:=λz=>c1 ((oD (eQ n1 n2)).mpr (by rw [rB n1 n2,bZ pb.np pa.np,bZ pd.np pc.np];exact z));rw [rB n1 n2,rB n3 n2,bZ pb.np pa.np,bZ pd.np pc.np,bZ pc.np pa.np,vab,vcd,hc] at vo;rw [vab,vcd] at bz;unfold bV at vo bz;simp only at vo bz;have D0:2*(d1*e2-d2*e1)≠0:=λz=>by
    apply bz;have:d1*e2-d2*e1=0:=by omega
    exact_mod_cast this
   refine aD6 h fm D0 (N:=(r1-p1)*e2-(r2-p2)*e1) ?_ ?_ ?_
   ·have:=(aIF q3 q8 q4 q7).1;omega
   ·have:=(aIF (a:=r1-p1) (b:=e2) (c:=r2-p2) (d:=e1) (A:=832) (B:=8) (by omega) q8 (by omega) q7).1;omega
   ·push_cast;grind
  ·cases hm
 ·rw [if_neg c1] at hm;split at hm
  ·cases hm
  ·cases hm;have z:(pH (dA b a) (dA b a)).1≠0:=λz=>by
    have:=(oD (kB n1 n1)).mp z;rw [tY n1 n1,bZ pb.np pa.np] at this;have:=mV pa.np pb.np ne;grind
   have vo:=aHO (kB n1 n3) (kB n1 n1) z;have pz:=mV pa.np pb.np ne;rw [tY n1 n3,tY n1 n1,bZ pb.np pa.np,bZ pc.np pa.np,vab,hc] at vo;rw [vab] at pz;unfold bE at vo pz;simp only at vo pz;have D0:2*(d1*d1+d2*d2)≠0:=λz=>by
    have:d1*d1+d2*d2=0:=by omega
    have:(d1:Rat)*(d1:Rat)+(d2:Rat)*(d2:Rat)=0:=by exact_mod_cast this
    grind
   refine aD6 h fm D0 (N:=d1*(r1-p1)+d2*(r2-p2)) ?_ ?_ ?_
   ·have:=(aIF q3 q3 q4 q4).2;omega
   ·have:=(aIF (a:=d1) (b:=r1-p1) (c:=d2) (d:=r2-p2) (A:=8) (B:=832) q3 (by omega) q4 (by omega)).2;omega
   ·push_cast;grind
theorem LB.hp {b:e9} (h:LB 400 b) {j:Nat} (hj:j<b.o.length) {p q:Pt} (h1:b.o[(j+b.o.length-1)%b.o.length]? = some p) (h2:b.o[j]? = some q):(∃p1 p2 d1 d2,Hp2 p q p1 p2 d1 d2)/\p≠q:=by
 have hz:(p,q)∈zr b.o:=by
  have hk:(j+b.o.length-1)%b.o.length<b.o.length:=aTQ _ (by omega);obtain ⟨p',q',g1,g2,g3'⟩:=aDK hk;have e:((j+b.o.length-1)%b.o.length+1)%b.o.length=j:=by
   rw [Nat.mod_add_mod,show j+b.o.length-1+1=j+b.o.length by omega,aUQ,aRD hj]
  rw [e,h2] at g2;rw [h1] at g1;cases g1;cases g2;exact aFS g3'
 refine ⟨?_,λe=>?_⟩
 ·obtain ⟨w,x,y,X,Y,k1,k2,k3,k4,k5,k6,k7,k8⟩:=h.ex;have m1:=aFS h1;have m2:=aFS h2;rw [k8] at m1 m2;obtain ⟨c,mc,rfl⟩:=aDB.mp m1;obtain ⟨d,md,rfl⟩:=aDB.mp m2;have b1:=vV k2 k3 k4 k5 w c mc;have b2:=vV k2 k3 k4 k5 w d md;exact ⟨X+2*c.1,Y+2*c.2,d.1-c.1,d.2-c.2,rfl,by rw [show X+2*c.1+2*(d.1-c.1)=X+2*d.1 by omega,show Y+2*c.2+2*(d.2-c.2)=Y+2*d.2 by omega],by omega,by omega,by omega,by omega⟩
 ·have:=h.gb.cx.ne _ (aDB.mpr ⟨_,hz,rfl⟩);rw [e] at this;unfold bE aW bH at this;grind
theorem sh3 {r:Int} (h:0<=r) (k:r<3):∃f:Fr,e8 [L2.T.tup [.int 0,.int 1],.tup [.int 1,.int 2],.tup [.int 1,.int 3]] r=some (fr f)/\cH f/\sz f<=2/\∃N D:Int,D≠0/\D.natAbs<=256/\N.natAbs<=14000/\val f*(D:Rat)=(N:Rat):=by
 have key:∀f:Fr,cH f->val f*(f.2:Rat)=(f.1:Rat):=λf h=>aBQ h;have:r=0\/r=1\/r=2:=by omega
 rcases this with rfl | rfl | rfl
 ·exact ⟨(0,1),rfl,⟨by decide,by decide⟩,j8 (by decide) (by decide) (by decide),0,1,by decide,by decide,by decide,key (0,1) ⟨by decide,by decide⟩⟩
 ·exact ⟨(1,2),rfl,⟨by decide,by decide⟩,j8 (by decide) (by decide) (by decide),1,2,by decide,by decide,by decide,key (1,2) ⟨by decide,by decide⟩⟩
 ·exact ⟨(1,3),rfl,⟨by decide,by decide⟩,j8 (by decide) (by decide) (by decide),1,3,by decide,by decide,by decide,key (1,3) ⟨by decide,by decide⟩⟩
theorem aOO {X Y:Int} (h:X.natAbs<=400) (k:Y.natAbs<=400):Pb (hf X,hf Y):=⟨(mJ (by omega) (by omega)).up (by decide)⟩
def zA:gW:=λas Q=>∃(xs:List L2.T) (bs:List e9) (n:Int),as=[.b xs,.v (.lst (bs.map cW))]/\Bx xs n/\n<=600000/\1<=bs.length/\bs.length<=10/\(∀b∈bs,LB 400 b)/\∀(ps:List Pt) (ys:List L2.T),ps.length=12->(∀p∈ps,Pb p)->Bx ys (n+120)->Q (.l (ps.map pt)) ys
abbrev gH:aVK:=top 50
theorem bA:aN ["_law_box_here","_law_some","_law_found","_law_turn","_law_spot","_law_way","_law_block","_law_at","_law_share","_law_other","_law_to","_law_met_here"] ["_law_box_here","_law_some"] (aH gH):=⟨rfl,rfl,rfl,by decide +kernel,rfl,by decide +kernel,by decide +kernel⟩
theorem nV {f:aVA} {fd:aVF} (F:fO K "_law_drawn_points" "_law_drawn_points" gH f fd) (TX:Txt mg) (g_take:Fn P w K mg base 1 "_law_take" ["_law_box_here","_law_many"] (aI K pZ)) (g_mon:Fn P w K mg base 4 "_law_on" ["_law_a","_law_b","_law_share"] (aI K aIZ)) (g_mspot_at:Fn P w K mg base 2 "_law_spot_at" ["_law_box_here","_law_wide"] (aI K pA)) (g_mmet:Fn P w K mg base 4 "_law_met" ["_law_a","_law_b","_law_c","_law_d"] (aI K aG7))   : bL P w K mg base fP 5 f fd ["_law_box_here","_law_some"] (aI K zA):=by
 refine F.okT bA ?len (λcdv A outer s H E hr=>(aE (aX (i:=2) bA.nd rfl (aDC rfl) (cC aA))
 (aE (eM PassesOwn.never rfl (eZ rfl TX.n_range (fc aB aA)) (aK (i:=3) bA.nd rfl (aDC rfl))
  (aE (eS (i:=5) (j:=6) rfl bA.nd rfl rfl (by decide) rfl rfl (fc (bD g_take hr (by omega) rfl (fc (fv 0) (fc aB aA))) (fc (aG rfl (fv 1) (bD g_take hr (by omega) rfl (fc (fv 0) (fc (fJ rfl rfl TX.n_len (fc (fv 1) aA)) aA))) (λ_ _=>rfl)) aA)) rfl)
 (aE (eS (i:=7) (j:=8) rfl bA.nd rfl rfl (by decide) rfl rfl (fc (bD g_take hr (by omega) rfl (fc (fv 0) (fc (fJ rfl rfl TX.n_len (fc (aG rfl (fv 6) aB (λ_ _=>rfl)) aA)) aA))) (fc (aG rfl (cC (fc (aQ (fc aB (fc aB aA))) (fc (aQ (fc aB (fc aB aA))) (fc (aQ (fc aB (fc aB aA))) aA)))) (bD g_take hr (by omega) rfl (fc (fv 0) (fc aB aA))) (λ_ _=>rfl)) aA)) rfl)
 (aE (aX (i:=4) bA.nd rfl (aDC rfl) (aC g_mon hr (by omega) rfl (fc (aG rfl (aG rfl (fv 6) aB (λ_ _=>rfl)) (aU dW (fv 7) aB) (λ_ _=>rfl)) (fc (aG rfl (aG rfl (fv 6) aB (λ_ _=>rfl)) (fv 7) (λ_ _=>rfl)) (fc (fv 8) aA)))))
 (aE (dG (wP rfl hr (fv 5) aB (aS _)) (aJ (aX (i:=4) bA.nd rfl (aDC rfl) (bD g_mspot_at hr (by omega) rfl (fc (fv 0) (fc aB aA))))) cJ)
 (aE (dG (wP rfl hr (fv 5) aB (aS _)) (aE (aX (i:=9) bA.nd rfl (aDC rfl) (aG rfl (aG rfl (fv 1) (bD g_take hr (by omega) rfl (fc (fv 0) (fc (fJ rfl rfl TX.n_len (fc (fv 1) aA)) aA))) (λ_ _=>rfl)) aB (λ_ _=>rfl)))
 (aE (aX (i:=10) bA.nd rfl (aDC rfl) (bD g_take hr (by omega) rfl (fc (fv 0) (fc (fJ rfl rfl TX.n_len (fc (fv 9) aA)) aA))))
 (aE (aX (i:=11) bA.nd rfl (aDC rfl) (aC g_mmet hr (by omega) rfl (fc (aG rfl (aG rfl (fv 6) aB (λ_ _=>rfl)) (aU dW (fv 7) aB) (λ_ _=>rfl)) (fc (aG rfl (aG rfl (fv 6) aB (λ_ _=>rfl)) (fv 7) (λ_ _=>rfl)) (fc (aG rfl (fv 9) (aU dW (fv 10) aB) (λ_ _=>rfl)) (fc (aG rfl (fv 9) (fv 10) (λ_ _=>rfl)) aA))))))
 (aJ (aX (i:=4) bA.nd rfl (aDC rfl) (mH (l9 rfl hr (fv 11) (cC aA) (aS _)) (aC g_mon hr (by omega) rfl (fc (aG rfl (aG rfl (fv 6) aB (λ_ _=>rfl)) (aU dW (fv 7) aB) (λ_ _=>rfl)) (fc (aG rfl (aG rfl (fv 6) aB (λ_ _=>rfl)) (fv 7) (λ_ _=>rfl)) (fc (aG rfl (fv 11) aB (λ_ _=>rfl)) aA)))) (fv 4))))))) cJ)
 (aJ (iD (nP rfl (fv 2) (fc (fv 4) aA))))))))))
 (aJ (aO (fv 2)))))) ?rd
 case len=>rintro as Q ⟨xs,bs,n,rfl,_⟩;rfl
 case rd=>
  rintro as Q ⟨xs,bs,n,rfl,bx,hn,l1,l2,hb,q⟩;refine ⟨by decide,?_⟩;show kF _ (cO _ _ _ (gT 0 12));refine eY (λi E=>∃(ys:List L2.T) (ps:List Pt) (v3 v4 v5 v6 v7 v8 v9 v10 v11:Option U),E=[some (.o true ys),some (.p (.lst (bs.map cW))),some (.o false (ps.map pt)),v3,v4,v5,v6,v7,v8,v9,v10,v11]/\Bx ys (n+10*i)/\ps.length=i/\∀p∈ps,Pb p) ⟨_,[],_,_,_,_,_,_,_,_,_,rfl,bx.mono (by simp),rfl,λb m=>absurd m (by simp)⟩ ?_ ?_
  ·rintro i t rest E hi ⟨ys,ps,v3,v4,v5,v6,v7,v8,v9,v10,v11,rfl,bi,hl,hp⟩ KK;obtain ⟨hin,rfl⟩:=j6 hi;obtain ⟨A1,B1,c1,rfl,_⟩:=id bi;refine ⟨_,4,_,rfl,bi,by omega,by decide,by decide,λr2 y2 a3 a4 b2=>?_⟩;obtain ⟨A2,B2,c2,rfl,_⟩:=id b2;refine ⟨_,((bs.map cW).length:Int),_,rfl,b2,by omega,by rw [aBC];omega,by rw [aBC];omega,λr3 y3 a5 a6 b3=>?_⟩;obtain ⟨A3,B3',c3,rfl,_⟩:=id b3;rw [aBC] at a6;obtain ⟨k,hk,rfl⟩:∃k:Nat,k<bs.length/\r3=(k:Int):=⟨r3.toNat,by omega,by omega⟩;show o1 (e8 (bs.map cW) (k:Int)) _;rw [fW (aAX hk)];have lg:=hb _ (aQI hk);generalize bs[k]=g at lg;have lgl:=lg.len;refine ⟨_,((g.o.map pt).length:Int),_,rfl,b3,by omega,by rw [aBC];omega,by rw [aBC];omega,λr4 y4 a7 a8 b4=>?_⟩;obtain ⟨A4,B4,c4,rfl,_⟩:=id b4;rw [aBC] at a8;obtain ⟨j,hj,rfl⟩:∃j:Nat,j<g.o.length/\r4=(j:Int):=⟨r4.toNat,by omega,by omega⟩;refine ⟨_,3,_,rfl,b4,by omega,by decide,by decide,λr5 y5 a9 a10 b5=>?_⟩;obtain ⟨A5,B5,c5,rfl,_⟩:=id b5;obtain ⟨f,hf1,hf2,hf3,N,D,hf4,hf5,hf6,hf7⟩:=sh3 a9 a10;show o1 (e8 [L2.T.tup [.int 0,.int 1],.tup [.int 1,.int 2],.tup [.int 1,.int 3]] r5) _;rw [hf1];refine (?_:kF [some (.o true [.int A5,.int B5,.int c5]),some (.p (.lst (bs.map cW))),some (.o false (ps.map pt)),some (.p (.int (0+(i:Int)))),v4,some (.p (.int r2)),some (.p (cW g)),some (.p (.int (j:Int))),some (.p (fr f)),v9,v10,v11] _);obtain ⟨p,hp1,at1⟩:=pD (f:=pt) hj;obtain ⟨r,hr1⟩:∃r,g.o[j]? = some r:=⟨_,aAX hj⟩;have at2:=fW (f:=pt) hr1;obtain ⟨⟨p1,p2,d1,d2,hh⟩,npr⟩:=lg.hp hj hp1 hr1;obtain ⟨pbp,pbr⟩:=hh.pb;show o1 (e8 (g.o.map pt) ((j:Int)-1)) _;rw [at1];show o1 (e8 (g.o.map pt) (j:Int)) _;rw [at2];refine ⟨p,r,f,rfl,pbp,pbr,hf2,by omega,?_⟩;have pb0:=aD6 hh hf2 hf4 hf5 hf6 hf7;generalize gG p r f=s0 at *;have app:∀s,ps.map pt++[pt s]=(ps++[s]).map pt:=λs=>by rw [aQ9];rfl
   have ln:∀s,(ps.map pt++[pt s]).length<=1000:=λs=>by rw [aIG,aBC,hl];simp;omega
   have snoc:∀s,Pb s->∀z∈ps++[s],Pb z:=λs hs z m=>by
    rcases aM3.mp m with m | m
    ·exact hp z m
    ·rw [aPD] at m;rw [m];exact hs
   refine ⟨eV rfl,?_⟩;show if (eH (.int r2) (.int 0))=true then _ else _;rw [aHA]
   by_cases w0:r2=0
   ·rw [decide_eq_true w0,if_pos rfl];refine ⟨_,5,_,rfl,b5,by omega,by decide,by decide,λX Y y6 x1 x2 x3 x4 b6=>?_⟩;obtain ⟨A6,B6,c6,rfl,_⟩:=id b6;refine ⟨eV rfl,?_⟩;show if (eH (.int r2) (.int 1))=true then _ else _;rw [aHA,decide_eq_false (by omega),if_neg (by decide)];refine ⟨ln (hf X,hf Y),?_⟩;have:=KK [some (.o true [.int A6,.int B6,.int c6]),some (.p (.lst (bs.map cW))),some (.o false ((ps++[(hf X,hf Y)]).map pt)),some (.p (.int (0+(i:Int)))),some (.p (pt (hf X,hf Y))),some (.p (.int r2)),some (.p (cW g)),some (.p (.int (j:Int))),some (.p (fr f)),v9,v10,v11] ⟨_,_,_,_,_,_,_,_,_,_,_,rfl,b6.mono (by push_cast;omega),by simp [hl],snoc _ (aOO (by omega) (by omega))⟩;rw [<-app] at this;exact this
   ·rw [decide_eq_false w0,if_neg (by decide)];refine ⟨eV rfl,?_⟩;show if (eH (.int r2) (.int 1))=true then _ else _;rw [aHA]
    by_cases w1:r2=1
    ·rw [decide_eq_true w1,if_pos rfl];refine ⟨_,((bs.map cW).length:Int),_,rfl,b5,by omega,by rw [aBC];omega,by rw [aBC];omega,λr6 y6 u1 u2 b6=>?_⟩;obtain ⟨A6,B6,c6,rfl,_⟩:=id b6;rw [aBC] at u2;obtain ⟨k',hk',rfl⟩:∃k':Nat,k'<bs.length/\r6=(k':Int):=⟨r6.toNat,by omega,by omega⟩;show o1 (e8 (bs.map cW) (k':Int)) _;rw [fW (aAX hk')];have lo:=hb _ (aQI hk');generalize bs[k']=g' at lo;have lol:=lo.len;refine ⟨_,((g'.o.map pt).length:Int),_,rfl,b6,by omega,by rw [aBC];omega,by rw [aBC];omega,λr7 y7 u3 u4 b7=>?_⟩;obtain ⟨A7,B7,c7,rfl,_⟩:=id b7;rw [aBC] at u4;obtain ⟨j',hj',rfl⟩:∃j':Nat,j'<g'.o.length/\r7=(j':Int):=⟨r7.toNat,by omega,by omega⟩;obtain ⟨p',hp1',at1'⟩:=pD (f:=pt) hj';obtain ⟨r',hr1'⟩:∃r',g'.o[j']? = some r':=⟨_,aAX hj'⟩;have at2':=fW (f:=pt) hr1';obtain ⟨⟨p1',p2',d1',d2',hh'⟩,npr'⟩:=lo.hp hj' hp1' hr1';obtain ⟨pbp',pbr'⟩:=hh'.pb;show o1 (e8 (g.o.map pt) ((j:Int)-1)) _;rw [at1];show o1 (e8 (g.o.map pt) (j:Int)) _;rw [at2];show o1 (e8 (g'.o.map pt) ((j':Int)-1)) _;rw [at1'];show o1 (e8 (g'.o.map pt) (j':Int)) _;rw [at2'];refine ⟨p,r,p',r',rfl,pbp,pbr,pbp',pbr',npr,?_⟩;have mh:=λ(f:Fr) (fs:List Fr) (e:hV p r p' r'=f::fs)=>aDY hh hh' npr e;have mn:=oZ pbp.np pbr.np pbp'.np pbr'.np (mV pbp.np pbr.np npr);have ms:=aDO pbp pbr pbp' pbr' npr;generalize hV p r p' r'=M at mh mn ms ⊢;have dM:L2.dT (.lst (M.map fr))<=60:=by
      have:=kI (f:=fr) (n:=1) (λ_=>eV rfl) M;simp only [L2.dT];omega
     refine ⟨dM,?_⟩;cases M with
     | nil=>
      refine ⟨ln s0,?_⟩;have:=KK [some (.o true [.int A7,.int B7,.int c7]),some (.p (.lst (bs.map cW))),some (.o false ((ps++[s0]).map pt)),some (.p (.int (0+(i:Int)))),some (.p (pt s0)),some (.p (.int r2)),some (.p (cW g)),some (.p (.int (j:Int))),some (.p (fr f)),some (.p (.tup (g'.o.map pt))),some (.p (.int (j':Int))),some (.o false [])] ⟨_,_,_,_,_,_,_,_,_,_,_,rfl,b7.mono (by push_cast;omega),by simp [hl],snoc _ pb0⟩;rw [<-app] at this;exact this
     | cons m M=>
      have pm:=mh m M rfl;have n0:=mn m (by simp);have s0':=ms m (by simp);show o1 (e8 (g.o.map pt) ((j:Int)-1)) _;rw [at1];show o1 (e8 (g.o.map pt) (j:Int)) _;rw [at2];have e0:e8 ((m::M).map fr) (0:Int)=some (fr m):=fW (k:=0) rfl;show o1 (e8 ((m::M).map fr) (0:Int)) _;rw [e0];refine ⟨p,r,m,rfl,pbp,pbr,n0,by omega,?_⟩;refine ⟨ln (gG p r m),?_⟩;have:=KK [some (.o true [.int A7,.int B7,.int c7]),some (.p (.lst (bs.map cW))),some (.o false ((ps++[gG p r m]).map pt)),some (.p (.int (0+(i:Int)))),some (.p (pt (gG p r m))),some (.p (.int r2)),some (.p (cW g)),some (.p (.int (j:Int))),some (.p (fr f)),some (.p (.tup (g'.o.map pt))),some (.p (.int (j':Int))),some (.o false ((m::M).map fr))] ⟨_,_,_,_,_,_,_,_,_,_,_,rfl,b7.mono (by push_cast;omega),by simp [hl],snoc _ pm⟩;rw [<-app] at this;exact this
    ·rw [decide_eq_false w1,if_neg (by decide)];refine ⟨ln s0,?_⟩;have:=KK [some (.o true [.int A5,.int B5,.int c5]),some (.p (.lst (bs.map cW))),some (.o false ((ps++[s0]).map pt)),some (.p (.int (0+(i:Int)))),some (.p (pt s0)),some (.p (.int r2)),some (.p (cW g)),some (.p (.int (j:Int))),some (.p (fr f)),v9,v10,v11] ⟨_,_,_,_,_,_,_,_,_,_,_,rfl,b5.mono (by push_cast;omega),by simp [hl],snoc _ pb0⟩;rw [<-app] at this;exact this
  ·rintro E ⟨ys,ps,v3,v4,v5,v6,v7,v8,v9,v10,v11,rfl,bi,hl,hp⟩;have hl':ps.length=12:=by rw [hl];rfl
   have e12:((gT 0 12).length:Int)=12:=rfl;obtain ⟨A2,B2,c2,rfl,_⟩:=id bi;exact ⟨bB (λ_=>rfl) _,q ps _ hl' hp (bi.mono (by omega))⟩
end
end My
namespace My
open PySem L2 PyProof.Rows
section
variable {P:aVD} {w:aVH} {K:W.Frag} {mg:Str->Option Value} {base:Heap}
def aQF:gW:=λas Q=>∃ns:List Int,as=[.v (.lst (aZ ns))]/\ns.length<=63/\Q (.v (.bl true)) []
theorem aFZ {ps:List Pt} {r:Int} (hl:ps.length=12) (h:0<=r) (k:r<12):∃p∈ps,e8 (ps.map pt) r=some (pt p):=by
 obtain ⟨j,hj,rfl⟩:∃j:Nat,j<ps.length/\r=(j:Int):=⟨r.toNat,by omega,by omega⟩;exact ⟨_,aQI hj,fW (aAX hj)⟩
theorem wG (p q:Pt):eH (pt p) (pt q)=decide (p=q):=by
 unfold pt;rw [aQD,aP4,decide_eq_true_eq,decide_eq_true_eq];exact ⟨λh=>Prod.ext h.1 h.2,λh=>by rw [h];exact ⟨rfl,rfl⟩⟩
theorem aCR (bs:List e9) (p:Pt):dP (bs.map cW) ((fL bs p).map L2.T.int)=bs.map λb=>L2.T.tup [cW b,.int (dX (dI b.o p))]:=by
 unfold fL
 induction bs with
 | nil=>rfl
 | cons b bs ih=>
  show L2.T.tup [cW b,.int (dX (dI b.o p))]::dP _ _=_;rw [ih];rfl
abbrev qT:aVK:=top 53
theorem fK:aN ["_law_script","_law_cells","_law_k","_law_box_here","_law_turn","_law_some","_law_spots","_law_spot","_law_more","_law_sides","_law_due","_law_block","_law_side","_law_one","_law_other"] ["_law_script"] (aH qT):=⟨rfl,rfl,rfl,by decide +kernel,rfl,by decide +kernel,by decide +kernel⟩
theorem aNI {f:aVA} {fd:aVF} (F:fO K "law" "law" qT f fd) (TX:Txt mg) (g_folded:Fn P w K mg base 1 "_law_folded" ["_law_script","_law_many"] (aI K sW)) (g_box:Fn P w K mg base 1 "_law_box" ["_law_script","_law_k"] (aI K yR)) (g_mlot:Fn P w K mg base 5 "_law_lot" ["_law_box_here","_law_most"] (aI K aM7)) (g_mdrawn_points:Fn P w K mg base 5 "_law_drawn_points" ["_law_box_here","_law_some"] (aI K zA)) (g_is_in:Fn P w K mg base 5 "is_in" ["blocks","point"] (aI K aGX)) (g_msigns_of:Fn P w K mg base 4 "_law_signs_of" ["_law_block","_law_point"] (aI K tD)) (g_mis_so:Fn P w K mg base 1 "_law_is_so" ["_law_found","_law_due"] (aI K aD1)) (g_is_within:Fn P w K mg base 4 "is_within" ["block","point"] (aI K aE7)) (g_take:Fn P w K mg base 1 "_law_take" ["_law_box_here","_law_many"] (aI K pZ)) (g_mis_clear:Fn P w K mg base 6 "_law_is_clear" ["_law_some","_law_a","_law_b"] (aI K tO)) (g_is_clear:Fn P w K mg base 6 "is_clear" ["blocks","begin","end"] (aI K xV))   : bL P w K mg base fP 8 f fd ["_law_script"] (aI K aQF):=by
 refine F.okT fK ?len (λcdv A outer s H E hr=>(aE (aX (i:=1) fK.nd rfl (aDC rfl) (aC g_folded hr (by omega) rfl (fc (fv 0) (fc aB aA))))
 (aE (eM PassesOwn.never rfl (eZ rfl TX.n_range (fc (aMU rfl rfl TX.n_max (fc aB (fc (fJ rfl rfl TX.n_len (fc (fv 1) aA)) aA))) aA)) (aK (i:=2) fK.nd rfl (aDC rfl))
  (aE (aX (i:=3) fK.nd rfl (aDC rfl) (aC g_box hr (by omega) rfl (fc (fv 1) (fc (fv 2) aA))))
 (aJ (eM PassesOwn.never rfl (eZ rfl TX.n_range (fc aB aA)) (aK (i:=4) fK.nd rfl (aDC rfl))
  (aE (aX (i:=5) fK.nd rfl (aDC rfl) (bD g_mlot hr (by omega) rfl (fc (fv 3) (fc aB aA))))
 (aE (aX (i:=6) fK.nd rfl (aDC rfl) (bD g_mdrawn_points hr (by omega) rfl (fc (fv 3) (fc (fv 5) aA))))
 (aE (eM PassesOwn.never rfl (eF rfl (fv 6)) (aK (i:=7) fK.nd rfl (aN3 rfl))
  (aE (dG (aAC (aC g_is_in hr (by omega) rfl (fc (cC aA) (fc (fv 7) aA))) (aS _)) (aJ (aO kC)) cJ)
 (aE (kJ (i:=9) (N':=["_law_block","_law_spot"]) (t:=1) (cap:=[(7,false)]) fK.nd rfl (aDC rfl) rfl rfl (bN.of rfl) rfl (by decide) (eF rfl (fv 5)) (λ_ _ _ _=>(aK (i:=0) (show aQ2 (["_law_block","_law_spot"]:List Str) by decide +kernel) rfl (aDC rfl) (aN3 rfl))) (λ_ _ _ _=>(mF rfl rfl rfl TX.n_min (fc (aC g_msigns_of hr (by omega) rfl (fc (fv 0) (fc (fv 1) aA))) aA))))
 (aE (dG (yF (sS (aC g_mis_so hr (by omega) rfl (fc (aC g_is_in hr (by omega) rfl (fc (fv 5) (fc (fv 7) aA))) (fc (mU sC (uL rfl rfl rfl TX.n_max (fc (fv 9) aA)) aB (aS _)) aA))))) (aJ (aO kC)) cJ)
 (aJ (eM PassesOwn.never rfl (uF rfl rfl TX.n_zip (fc (fv 5) (fc (fv 9) aA))) (cZ (n:=2) rfl rfl (aM (aK (i:=11) fK.nd rfl (aDC rfl)) (aM (aK (i:=12) fK.nd rfl (aDC rfl)) b9)))
  (aJ (dG (yF (sS (aC g_mis_so hr (by omega) rfl (fc (aC g_is_within hr (by omega) rfl (fc (fv 11) (fc (fv 7) aA))) (fc (mU oJ (fv 12) aB (aS _)) aA))))) (aJ (aO kC)) cJ))))))))
 (aJ (eM PassesOwn.never rfl (eZ rfl TX.n_range (fc aB aA)) (aK (i:=8) fK.nd rfl (aDC rfl))
  (aE (eS (i:=13) (j:=14) rfl fK.nd rfl rfl (by decide) rfl rfl (fc (aG rfl (fv 6) (bD g_take hr (by omega) rfl (fc (fv 3) (fc aB aA))) (λ_ _=>rfl)) (fc (aG rfl (fv 6) (bD g_take hr (by omega) rfl (fc (fv 3) (fc aB aA))) (λ_ _=>rfl)) aA)) rfl)
 (aE (aX (i:=10) fK.nd rfl (aDC rfl) (z8 (aJ1 rfl hr (fv 13) (fv 14) (aS _)) (zH (aC g_mis_clear hr (by omega) rfl (fc (fv 5) (fc (fv 13) (fc (fv 14) aA)))))))
 (aE (dG (rF (i9 (l9 rfl hr (fv 13) (fv 14) (aS _)) (iI (yF (sS (aC g_mis_so hr (by omega) rfl (fc (aC g_is_clear hr (by omega) rfl (fc (fv 5) (fc (fv 13) (fc (fv 14) aA)))) (fc (fv 10) aA)))))))) (aJ (aO kC)) cJ)
 (aJ (dG (rF (i9 (l9 rfl hr (fv 13) (fv 14) (aS _)) (iI (aAC (aC g_is_clear hr (by omega) rfl (fc (cC aA) (fc (fv 13) (fc (fv 14) aA)))) (aS _))))) (aJ (aO kC)) cJ))))))))))))))
 (aJ (aO kC))))) ?rd
 case len=>rintro as Q ⟨ns,rfl,_⟩;rfl
 case rd=>
  rintro as Q ⟨ns,rfl,hl,q⟩;refine ⟨ns,3,rfl,hl,by decide,by decide,λcs l6=>?_⟩;have lc:((aZ cs).length:Int)=cs.length:=by simp [aZ]
  obtain ⟨m,hm⟩:∃m:Int,m=(if (2:Int)<((aZ cs).length:Int) then ((aZ cs).length:Int) else 2):=⟨_,rfl⟩;have m5:m<=3/\0<=m:=by rw [hm];split<;>omega
  refine ⟨⟨by show -(2^62:Int)<=(if (2:Int)<((aZ cs).length:Int) then ((aZ cs).length:Int) else 2);rw [<-hm];omega,by show (if (2:Int)<((aZ cs).length:Int) then ((aZ cs).length:Int) else 2)<2^62;rw [<-hm];omega⟩,?_⟩;show kF _ (cO _ _ _ (gT 0 (if (2:Int)<((aZ cs).length:Int) then ((aZ cs).length:Int) else 2).toNat));rw [<-hm];refine eY (λi E=>∃v2 v3 v4 v5 v6 v7 v8 v9 v10 v11 v12 v13 v14:Option U,E=[some (.p (.lst (aZ ns))),some (.o false (aZ cs)),v2,v3,v4,v5,v6,v7,v8,v9,v10,v11,v12,v13,v14]) ⟨_,_,_,_,_,_,_,_,_,_,_,_,_,rfl⟩ ?_ ?_
  ·rintro i t rest E hi ⟨v2,v3,v4,v5,v6,v7,v8,v9,v10,v11,v12,v13,v14,rfl⟩ KK;obtain ⟨hin,rfl⟩:=j6 hi;refine ⟨cs,_,rfl,by omega,by omega,λxs bx nl=>?_⟩;obtain ⟨A0,B0,c0,rfl,_⟩:=id bx;refine ⟨by decide,?_⟩;show kF _ (cO _ _ _ (gT 0 2));refine eY (λj E=>∃(ys:List L2.T) (v4 v5 v6 v7 v8 v9 v10 v11 v12 v13 v14:Option U),E=[some (.p (.lst (aZ ns))),some (.o false (aZ cs)),some (.p (.int (0+(i:Int)))),some (.o false ys),v4,v5,v6,v7,v8,v9,v10,v11,v12,v13,v14]/\Bx ys (500*j)) ⟨_,_,_,_,_,_,_,_,_,_,_,_,rfl,bx.mono (by simp)⟩ ?_ ?_
   ·rintro j t rest' E hj ⟨ys,v4,v5,v6,v7,v8,v9,v10,v11,v12,v13,v14,rfl,bj⟩ KJ;obtain ⟨hjn,rfl⟩:=j6 hj;obtain ⟨A1,B1,c1,rfl,_⟩:=id bj;refine ⟨_,5,_,rfl,bj,by omega,by decide,by decide,λbs y2 l1 l2 hb b2=>?_⟩;obtain ⟨A2,B2,c2,rfl,_⟩:=id b2;refine ⟨_,bs,_,rfl,b2,by omega,l1,by omega,hb,λps y3 pl hp b3=>?_⟩;obtain ⟨A3,B3',c3,rfl,_⟩:=id b3;have nb:bs≠[]:=λz=>by rw [z] at l1;simp at l1
    have bO:∀b∈bs,b.o.length<=900/\∀p∈b.o,Pb p:=λb m=>⟨by have:=(hb b m).len;omega,(hb b m).pb⟩;show kF _ (cO _ _ _ (ps.map pt));refine d9 (f:=pt) (λs:U×Option U×Option U×Option U×Option U×Option U×Option U×Option U×Option U=>[some (.p (.lst (aZ ns))),some (.o false (aZ cs)),some (.p (.int (0+(i:Int)))),some (.o false [.int A3,.int B3',.int c3]),some (.p (.int (0+(j:Int)))),some s.1,some (.p (.lst (ps.map pt))),s.2.1,s.2.2.1,s.2.2.2.1,s.2.2.2.2.1,s.2.2.2.2.2.1,s.2.2.2.2.2.2.1,s.2.2.2.2.2.2.2.1,s.2.2.2.2.2.2.2.2])
     (λps' s=>(∀p∈ps',Pb p)/\(s.1 = .o false (bs.map cW)\/s.1 = .p (.lst (bs.map cW)))) ?_ ?_ ps (.o false (bs.map cW),v7,v8,v9,v10,v11,v12,v13,v14) ⟨hp,.inl rfl⟩
    ·rintro p ps' ⟨u,w7,w8,w9,w10,w11,w12,w13,w14⟩ rest2 ⟨hp',hu⟩ K;have pb:=hp' p (by simp);have hrest:∀p∈ps',Pb p:=λx m=>hp' x (by simp [m]);simp only at hu;rcases hu with rfl | rfl
     all_goals
      refine ⟨[],p,rfl,by simp,λb m=>absurd m (by simp),pb,?_⟩;refine ⟨rfl,?_⟩;show gZ _ _ (bs.map cW) _ _;refine cB (f:=cW) (h:=λb=>.int (dX (dI b.o p))) (λ(v:Option U) acc=>[v,some (.p (pt p)),some (.o false acc)]) bs none [] (by simp;omega) (λb m v acc rest3 ha K'=>?_) λv=>?_
      ·have lb:=hb b m;have ll:=lb.len;refine ⟨b,p,rfl,by omega,lb.pb,pb.v.up (by decide),_,rfl,by unfold dI;rw [aBC,uH];omega,ha,K' _⟩
      ·have es:([]++bs.map λb=>L2.T.int (dX (dI b.o p)))=(fL bs p).map L2.T.int:=by unfold fL;rw [aQY,aN1];rfl
       rw [es];refine ⟨bB (λ_=>rfl) _,?_⟩;have sl:0<(fL bs p).length:=by unfold fL;rw [aBC];omega
       refine ⟨bs,p,rfl,by omega,bO,pb,_,rfl,sl,_,_,rfl,?_⟩;show if (!(vF bs p==decide (0<=m8 (fL bs p))))=true then _ else _;rw [aJG hb pb.np nb,BEq.rfl,if_neg (by decide)];show kF _ (cO _ _ _ (dP (bs.map cW) ((fL bs p).map L2.T.int)));rw [aCR];refine d9 (f:=λb=>L2.T.tup [cW b,.int (dX (dI b.o p))]) (λs:Option U×Option U=>[some (.p (.lst (aZ ns))),some (.o false (aZ cs)),some (.p (.int (0+(i:Int)))),some (.o false [.int A3,.int B3',.int c3]),some (.p (.int (0+(j:Int)))),some (.p (.lst (bs.map cW))),some (.p (.lst (ps.map pt))),some (.p (pt p)),w8,some (.p (.lst ((fL bs p).map L2.T.int))),w10,s.1,s.2,w13,w14])
        (λbs' _=>∀b∈bs',LB 400 b) ?_ ?_ bs (w11,w12) hb
       ·rintro b bs' ⟨s1,s2⟩ rest4 hb' K2;have lb:=hb' b (by simp);refine ⟨b,p,rfl,by have:=lb.len;omega,lb.pb,pb,_,_,rfl,?_⟩;show if (!(aFO b.o p==decide (0<dX (dI b.o p))))=true then _ else _;rw [(aAL (λx m=>(lb.pb x m).np) pb.np lb.gb.ne).2,BEq.rfl,if_neg (by decide)];exact K2 (_,_) λx m=>hb' x (by simp [m])
       ·rintro ⟨s1,s2⟩ _;exact K (.p (.lst (bs.map cW)),_,_,_,_,_,_,_,_) ⟨hrest,.inr rfl⟩
    ·rintro ⟨u,w7,w8,w9,w10,w11,w12,w13,w14⟩ ⟨_,hu⟩;simp only at hu;refine ⟨by decide,?_⟩;show kF _ (cO _ _ _ (gT 0 10));refine eY (λk E=>∃(ys:List L2.T) (v8 v10 v13 v14:Option U),E=[some (.p (.lst (aZ ns))),some (.o false (aZ cs)),some (.p (.int (0+(i:Int)))),some (.o false ys),some (.p (.int (0+(j:Int)))),some u,some (.p (.lst (ps.map pt))),w7,v8,w9,v10,w11,w12,v13,v14]/\Bx ys (500*j+420+2*k)) ⟨_,_,_,_,_,rfl,b3.mono (by simp;omega)⟩ ?_ ?_
     ·rintro k t rest2 E hk ⟨ys,v8,v10,v13,v14,rfl,bk⟩ K;obtain ⟨hkn,rfl⟩:=j6 hk;obtain ⟨A4,B4,c4,rfl,_⟩:=id bk;refine ⟨_,12,_,rfl,bk,by omega,by decide,by decide,λr1 y4 a1 a2 b4=>?_⟩;obtain ⟨A5,B5,c5,rfl,_⟩:=id b4;obtain ⟨p,mp,at1⟩:=aFZ pl a1 a2;show o1 (e8 (ps.map pt) r1) _;rw [at1];refine ⟨_,12,_,rfl,b4,by omega,by decide,by decide,λr2 y5 a3 a4 b5=>?_⟩;obtain ⟨A6,B6,c6,rfl,_⟩:=id b5;obtain ⟨r,mr,at2⟩:=aFZ pl a3 a4;show o1 (e8 (ps.map pt) r2) _;rw [at2];have hp1:=hp p mp;have hr1:=hp r mr;have fin:∀(v10:Option U),cO _ _ _ rest2 [some (.p (.lst (aZ ns))),some (.o false (aZ cs)),some (.p (.int (0+(i:Int)))),some (.o false [.int A6,.int B6,.int c6]),some (.p (.int (0+(j:Int)))),some u,some (.p (.lst (ps.map pt))),w7,some (.p (.int (0+(k:Int)))),w9,v10,w11,w12,some (.p (pt p)),some (.p (pt r))]:=λv10=>K _ ⟨_,_,_,_,_,rfl,b5.mono (by push_cast;omega)⟩;rcases hu with rfl | rfl
      all_goals
       refine ⟨eV rfl,?_⟩;show if (eH (pt p) (pt r))=true then _ else _;rw [wG]
       by_cases c:p=r
       ·rw [decide_eq_true c,if_pos rfl];refine ⟨eV rfl,?_⟩;show if (!(eH (pt p) (pt r)))=true then _ else _;rw [wG,decide_eq_true c,if_neg (by decide),if_neg (by decide)];refine ⟨eV rfl,?_⟩;show if (!(eH (pt p) (pt r)))=true then _ else _;rw [wG,decide_eq_true c,if_neg (by decide),if_neg (by decide)];exact fin _
       ·rw [decide_eq_false c,if_neg (by decide)];refine ⟨bs,p,r,rfl,by omega,λb m=>(hb b m).s,hp1,hr1,c,?_⟩;refine ⟨eV rfl,?_⟩;show if (!(eH (pt p) (pt r)))=true then _ else _;rw [wG,decide_eq_false c,if_pos (by decide)];have en:=aN4 hp1 hr1 c;refine ⟨bs,p,r,rfl,λb m=>(hb b m).ok,en,by omega,_,_,rfl,?_⟩;show if (!(nI (bs.map cI) p r==pL bs p r))=true then _ else _;rw [aG1 (aM4 hb) hp1.np hr1.np (mV hp1.np hr1.np c),BEq.rfl,if_neg (by decide)];refine ⟨eV rfl,?_⟩;show if (!(eH (pt p) (pt r)))=true then _ else _;rw [wG,decide_eq_false c,if_pos (by decide)];refine ⟨[],p,r,rfl,λb m=>absurd m (by simp),en,by simp,?_⟩;exact fin _
     ·rintro E ⟨ys,v8,v10,v13,v14,rfl,bk⟩;exact KJ _ ⟨_,_,_,_,_,_,_,_,_,_,_,_,rfl,bk.mono (by have:((gT 0 10).length:Int)=10:=rfl;push_cast;omega)⟩
   ·rintro E ⟨ys,v4,v5,v6,v7,v8,v9,v10,v11,v12,v13,v14,rfl,bj⟩;exact KK _ ⟨_,_,_,_,_,_,_,_,_,_,_,_,_,rfl⟩
  ·rintro E ⟨v2,v3,v4,v5,v6,v7,v8,v9,v10,v11,v12,v13,v14,rfl⟩;exact ⟨rfl,q⟩
end
end My
namespace My
open PySem L2 PyProof.Rows
theorem yK {α:Type} {us:List α} (h:us.length=1):∃a0,us=[a0]:=by
 cases us with
 | nil=>simp at h
 | cons a0 us=>
 replace h:us.length=0:=by simpa using h
 cases us with
 | nil=>exact ⟨a0,rfl⟩
 | cons a us=>simp at h
theorem eL {α:Type} {us:List α} (h:us.length=2):∃a0 a1,us=[a0,a1]:=by
 cases us with
 | nil=>simp at h
 | cons a0 us=>
 replace h:us.length=1:=by simpa using h
 cases us with
 | nil=>simp at h
 | cons a1 us=>
 replace h:us.length=0:=by simpa using h
 cases us with
 | nil=>exact ⟨a0,a1,rfl⟩
 | cons a us=>simp at h
theorem aJX {α:Type} {us:List α} (h:us.length=3):∃a0 a1 a2,us=[a0,a1,a2]:=by
 cases us with
 | nil=>simp at h
 | cons a0 us=>
 replace h:us.length=2:=by simpa using h
 cases us with
 | nil=>simp at h
 | cons a1 us=>
 replace h:us.length=1:=by simpa using h
 cases us with
 | nil=>simp at h
 | cons a2 us=>
 replace h:us.length=0:=by simpa using h
 cases us with
 | nil=>exact ⟨a0,a1,a2,rfl⟩
 | cons a us=>simp at h
theorem aK9 {α:Type} {us:List α} (h:us.length=4):∃a0 a1 a2 a3,us=[a0,a1,a2,a3]:=by
 cases us with
 | nil=>simp at h
 | cons a0 us=>
 replace h:us.length=3:=by simpa using h
 cases us with
 | nil=>simp at h
 | cons a1 us=>
 replace h:us.length=2:=by simpa using h
 cases us with
 | nil=>simp at h
 | cons a2 us=>
 replace h:us.length=1:=by simpa using h
 cases us with
 | nil=>simp at h
 | cons a3 us=>
 replace h:us.length=0:=by simpa using h
 cases us with
 | nil=>exact ⟨a0,a1,a2,a3,rfl⟩
 | cons a us=>simp at h
def aA1 (K:W.Frag):Sp:=λvs H Q _=>∃(a:aVA) (ns:List Int),vs=[.ref a]/\iU K H a (ns.map V.int)/\ns.length<=63/\∀H',Q (.bl true) H'
theorem aMZ {K:W.Frag} (vs:List V) (H:Hp) (Q:VK) (E:XK) (h:aA1 K vs H Q E):aI K aQF vs H Q E:=by
 obtain ⟨a,ns,rfl,hs,hl,q⟩:=h;have no:∀b,¬Ow (λa=>(none:Option aVA)=some a) [some (V.ref a)] [some (.p (.lst (aZ ns)))] b:=λb z=>by
  rcases z with z | ⟨i,k,xs,h1,_⟩
  ·cases z
  ·match i,h1 with
   | 0,h1=>simp at h1
   | _+1,h1=>simp at h1
 have ii:∀ns:List Int,cG K H (Ow (λa=>(none:Option aVA)=some a) [some (V.ref a)] [some (.p (.lst (aZ ns)))]) (aZ ns) (ns.map V.int):=λns=>by
  have key:∀(O:aVA->Prop) (ms:List Int),cG K H O (aZ ms) (ms.map V.int):=λO ms=>by
   induction ms with
   | nil=>rfl
   | cons m ms ih=>exact ⟨_,_,rfl,rfl,ih⟩
  exact key _ ns
 refine ⟨[.v (.lst (aZ ns))],λr _=>r = .v (.bl true),none,⟨rfl,λi t h=>?_,λi k xs h=>?_,λi j k l xs ys b h=>?_,λb z=>by cases z⟩,λ_=>rfl,⟨ns,rfl,hl,rfl⟩,λr xs v H' e _ _ rr=>?_⟩
 ·match i,h with
  | 0,h=>
   simp [oG] at h;subst h;exact ⟨_,rfl,a,_,rfl,hs.imp (λh=>⟨no a,h⟩) id,ii ns⟩
  | _+1,h=>simp [oG] at h
 ·match i,h with
  | 0,h=>simp [oG] at h
  | _+1,h=>simp [oG] at h
 ·match i,h with
  | 0,h=>simp [oG] at h
  | _+1,h=>simp [oG] at h
 ·subst e;cases rr;exact q H'
def Fc (K:W.Frag) (nm:Str) (st:aVK) (f:aVA):Prop:=∃(oc:Value) (od:Option aVA) (kV dc pm:Value) (an:Option aVA) (cd ct:Value) (sl:Array (Option Value)),
 W.nsIn K aVJ nm=some (some (.ref f))/\K.lookup f=some ⟨oc,od,.func (W.fnOf nm nm (i8 st) (gC st) (aH st) .none kV dc pm an cd ct),sl⟩/\W.codeIn K cd nm=true/\W.keepIn K (.ref f)=true
theorem fc {K:W.Frag} {nm:Str} {st:aVK} {f:aVA} {oc:Value} {od:Option aVA} {kV dc pm:Value} {an:Option aVA} {cd ct:Value} {sl:Array (Option Value)} (a:W.nsIn K aVJ nm=some (some (.ref f))) (l:K.lookup f=some ⟨oc,od,.func (W.fnOf nm nm (i8 st) (gC st) (aH st) .none kV dc pm an cd ct),sl⟩) (c:W.codeIn K cd nm=true) (k:W.keepIn K (.ref f)=true):Fc K nm st f:=⟨_,_,_,_,_,_,_,_,_,a,l,c,k⟩
theorem gm {P:aVD} {w:aVH} {K:W.Frag} {h base:Heap} {mg:Str->Option Value} {nm:Str} {st:aVK} {f:aVA} {CX:CXT} {k:Nat} {ps:List Str} {sp:Sp} (X:K.In h) (G:h.Ns aVJ mg) (p:Fc K nm st f) (ok:∀{fd:aVF},fO K nm nm st f fd->bL P w K mg base CX k f fd ps sp)
  (bd:∀{fd:aVF},fO K nm nm st f fd->oE K fd ps []):∃f fd,bL P w K mg base CX k f fd ps sp/\mg nm=some (.ref f)/\W.keepIn K (.ref f)=true/\oE K fd ps []:=by
 obtain ⟨_,_,_,_,_,_,_,_,_,a,l,c,k⟩:=p;have F:=aDN (st:=st) l c k;exact ⟨f,_,ok F,W.mg_of X G a,k,bd F⟩
theorem aMC {l:W.OpenLaw} {w:aVH} {K:W.Frag} {h:Heap} {mg:Str->Option Value} {fa f0 f1 f2 f3 f4 f5 f6 f7 f8 f9 f10 f11 f12 f13 f14 f15 f16 f17 f18 f19 f20 f21 f22 f23 f24 f25 f26 f27 f28 f29 f30 f31 f32 f33 f34 f35 f36 f37 f38 f39 f40 f41 f42 f43 f44 f45:aVA} (X:K.In h) (G:h.Ns aVJ mg) (hfa:mg "law" = some (.ref fa))
  (p0:Fc K "_law_take" zT f0)
  (p1:Fc K "common_divisor" fZ f1)
  (p2:Fc K "_law_box" aFF f2)
  (p3:Fc K "_law_folded" pY f3)
  (p4:Fc K "compared" lE f4)
  (p5:Fc K "spot_of" oA f5)
  (p6:Fc K "line_through" iA f6)
  (p7:Fc K "in_lowest_terms" fB f7)
  (p8:Fc K "off_line" lP f8)
  (p9:Fc K "box_of" pW f9)
  (p10:Fc K "are_apart" j4 f10)
  (p11:Fc K "edge_lines" jH f11)
  (p12:Fc K "shape_of" lK f12)
  (p13:Fc K "shapes_of" jT f13)
  (p14:Fc K "segment_of" i6 f14)
  (p15:Fc K "later" uD f15)
  (p16:Fc K "earlier" nK f16)
  (p17:Fc K "overlap" nN f17)
  (p18:Fc K "is_clear_of" iP f18)
  (p19:Fc K "is_clear" lI f19)
  (p20:Fc K "_law_frac" tE f20)
  (p21:Fc K "_law_sum" zM f21)
  (p22:Fc K "_law_less" sZ f22)
  (p23:Fc K "_law_product" lT f23)
  (p24:Fc K "_law_add" yD f24)
  (p25:Fc K "_law_sub" zQ f25)
  (p26:Fc K "_law_scaled_by" i7 f26)
  (p27:Fc K "_law_cross" pT f27)
  (p28:Fc K "_law_dot" x9 f28)
  (p29:Fc K "_law_spot_at" lX f29)
  (p30:Fc K "_law_shape" qU f30)
  (p31:Fc K "_law_lot" xY f31)
  (p32:Fc K "_law_over" tQ f32)
  (p33:Fc K "_law_on" aFM f33)
  (p34:Fc K "_law_met" zJ f34)
  (p35:Fc K "_law_signs_of" jS f35)
  (p36:Fc K "_law_rising" nJ f36)
  (p37:Fc K "_law_cuts" t9 f37)
  (p38:Fc K "_law_there" pI f38)
  (p39:Fc K "_law_is_clear" j7 f39)
  (p40:Fc K "_law_is_so" pK f40)
  (p41:Fc K "is_in_block" iM f41)
  (p42:Fc K "is_in" uZ f42)
  (p43:Fc K "is_within" j0 f43)
  (p44:Fc K "_law_drawn_points" gH f44)
  (p45:Fc K "law" qT f45)
  {ti_GRID:Tok} (q_GRID:W.nsIn K aVJ "GRID" = some (some (.int 65536 ti_GRID)))
  {C_NOUGHT:aVA} {odc_NOUGHT:Option aVA} {tc_NOUGHT uc_NOUGHT:Tok} {nc_NOUGHT:Nat} {slc_NOUGHT:Array (Option Value)} (q_NOUGHT:W.nsIn K aVJ "NOUGHT" = some (some (.ref C_NOUGHT))) (r_NOUGHT:K.lookup C_NOUGHT=some ⟨.type "tuple",odc_NOUGHT,.seq #[.int 0 tc_NOUGHT,.int 1 uc_NOUGHT] nc_NOUGHT,slc_NOUGHT⟩)
  {C_ONE:aVA} {odc_ONE:Option aVA} {tc_ONE uc_ONE:Tok} {nc_ONE:Nat} {slc_ONE:Array (Option Value)} (q_ONE:W.nsIn K aVJ "ONE" = some (some (.ref C_ONE))) (r_ONE:K.lookup C_ONE=some ⟨.type "tuple",odc_ONE,.seq #[.int 1 tc_ONE,.int 1 uc_ONE] nc_ONE,slc_ONE⟩)
  (z_isinstance:W.nsIn K aVJ "isinstance" = some none) (z_abs:W.nsIn K aVJ "abs" = some none) (z_divmod:W.nsIn K aVJ "divmod" = some none) (z_min:W.nsIn K aVJ "min" = some none) (z_max:W.nsIn K aVJ "max" = some none) (z_all:W.nsIn K aVJ "all" = some none) (z_len:W.nsIn K aVJ "len" = some none) (z_int:W.nsIn K aVJ "int" = some none) (z_bool:W.nsIn K aVJ "bool" = some none) (z_tuple:W.nsIn K aVJ "tuple" = some none) (z_list:W.nsIn K aVJ "list" = some none) (z_str:W.nsIn K aVJ "str" = some none) (z_range:W.nsIn K aVJ "range" = some none) (z_enumerate:W.nsIn K aVJ "enumerate" = some none) (z_zip:W.nsIn K aVJ "zip" = some none) (z_any:W.nsIn K aVJ "any" = some none) :
  ∃fd:aVF,(∀(s:Shared) (v:Value),BindsTo s fd ⟨[v],[]⟩ [("_law_script",v)])/\∀base:Heap,K.In base->base.Ns aVJ mg->bL l.prog w K mg base fP 8 fa fd ["_law_script"] (aA1 K):=by
 obtain ⟨oc,od,kV,dc,pm,an,cd,ct,sl,a45,l45,c45,k45⟩:=p45;have e:=hfa.symm.trans (W.mg_of X G a45);cases e;have T:Txt mg:=⟨W.mg_none_of X G z_isinstance,W.mg_none_of X G z_abs,W.mg_none_of X G z_divmod,W.mg_none_of X G z_min,W.mg_none_of X G z_max,W.mg_none_of X G z_all,W.mg_none_of X G z_len,W.mg_none_of X G z_int,W.mg_none_of X G z_bool,W.mg_none_of X G z_tuple,W.mg_none_of X G z_list,W.mg_none_of X G z_str,W.mg_none_of X G z_range,W.mg_none_of X G z_enumerate,W.mg_none_of X G z_zip⟩;have c_GRID:yA mg "GRID" 65536:=⟨_,W.mg_of X G q_GRID⟩;have c_NOUGHT:wA mg K "NOUGHT" (.tup [.int 0,.int 1]):=⟨_,W.mg_of X G q_NOUGHT,pM r_NOUGHT⟩;have c_ONE:wA mg K "ONE" (.tup [.int 1,.int 1]):=⟨_,W.mg_of X G q_ONE,pM r_ONE⟩;have F45:=aDN (st:=qT) l45 c45 k45;refine ⟨W.fnOf "law" "law" (i8 qT) (gC qT) (aH qT) .none kV dc pm an cd ct,λs v=>.of_eq rfl,λbase _ _=>?_⟩;have g_take:Fn l.prog w K mg base 1 "_law_take" ["_law_box_here","_law_many"] (aI K pZ):=⟨gm X G p0 (aJH · T ) (·.binds λ_ _ _ _ _ _ us hl=>by obtain ⟨_,_,rfl⟩:=eL hl;rfl)⟩;have g_common_divisor:Fn l.prog w K mg base 1 "common_divisor" ["one","other"] (aI K oX):=⟨gm X G p1 (m7 · T ) (·.binds λ_ _ _ _ _ _ us hl=>by obtain ⟨_,_,rfl⟩:=eL hl;rfl)⟩;have g_box:Fn l.prog w K mg base 1 "_law_box" ["_law_script","_law_k"] (aI K yR):=⟨gm X G p2 (aNB · T ) (·.binds λ_ _ _ _ _ _ us hl=>by obtain ⟨_,_,rfl⟩:=eL hl;rfl)⟩;have g_folded:Fn l.prog w K mg base 1 "_law_folded" ["_law_script","_law_many"] (aI K sW):=⟨gm X G p3 (aBZ · T ) (·.binds λ_ _ _ _ _ _ us hl=>by obtain ⟨_,_,rfl⟩:=eL hl;rfl)⟩;have g_compared:Fn l.prog w K mg base 1 "compared" ["one","other"] (aI K gY):=⟨gm X G p4 (wV · T ) (·.binds λ_ _ _ _ _ _ us hl=>by obtain ⟨_,_,rfl⟩:=eL hl;rfl)⟩;have g_spot_of:Fn l.prog w K mg base 2 "spot_of" ["point"] (aI K pJ):=⟨gm X G p5 (y0 · T g_common_divisor) (·.binds λ_ _ _ _ _ _ us hl=>by obtain ⟨_,rfl⟩:=yK hl;rfl)⟩;have g_line_through:Fn l.prog w K mg base 1 "line_through" ["begin","end"] (aI K aBG):=⟨gm X G p6 (oS · T ) (·.binds λ_ _ _ _ _ _ us hl=>by obtain ⟨_,_,rfl⟩:=eL hl;rfl)⟩;have g_in_lowest_terms:Fn l.prog w K mg base 2 "in_lowest_terms" ["line"] (aI K zY):=⟨gm X G p7 (lD · T g_common_divisor) (·.binds λ_ _ _ _ _ _ us hl=>by obtain ⟨_,rfl⟩:=yK hl;rfl)⟩;have g_off_line:Fn l.prog w K mg base 1 "off_line" ["line","spot"] (aI K vW):=⟨gm X G p8 (wS · T ) (·.binds λ_ _ _ _ _ _ us hl=>by obtain ⟨_,_,rfl⟩:=eL hl;rfl)⟩;have g_box_of:Fn l.prog w K mg base 1 "box_of" ["spots"] (aI K aA5):=⟨gm X G p9 (aCV · T c_GRID) (·.binds λ_ _ _ _ _ _ us hl=>by obtain ⟨_,rfl⟩:=yK hl;rfl)⟩;have g_are_apart:Fn l.prog w K mg base 1 "are_apart" ["one","other"] (aI K t7):=⟨gm X G p10 (uC · T ) (·.binds λ_ _ _ _ _ _ us hl=>by obtain ⟨_,_,rfl⟩:=eL hl;rfl)⟩;have g_edge_lines:Fn l.prog w K mg base 3 "edge_lines" ["block"] (aI K pU):=⟨gm X G p11 (rN · T g_spot_of g_line_through) (·.binds λ_ _ _ _ _ _ us hl=>by obtain ⟨_,rfl⟩:=yK hl;rfl)⟩;have g_shape_of:Fn l.prog w K mg base 4 "shape_of" ["block"] (aI K zE):=⟨gm X G p12 (vQ · T g_edge_lines g_in_lowest_terms g_box_of g_spot_of) (·.binds λ_ _ _ _ _ _ us hl=>by obtain ⟨_,rfl⟩:=yK hl;rfl)⟩;have g_shapes_of:Fn l.prog w K mg base 5 "shapes_of" ["laid"] (aI K uX):=⟨gm X G p13 (tG · T g_shape_of) (·.binds λ_ _ _ _ _ _ us hl=>by obtain ⟨_,rfl⟩:=yK hl;rfl)⟩;have g_segment_of:Fn l.prog w K mg base 3 "segment_of" ["begin","end"] (aI K aNL):=⟨gm X G p14 (rO · T g_spot_of g_box_of g_in_lowest_terms g_line_through) (·.binds λ_ _ _ _ _ _ us hl=>by obtain ⟨_,_,rfl⟩:=eL hl;rfl)⟩;have g_later:Fn l.prog w K mg base 2 "later" ["one","other"] (aI K (vZ cS)):=⟨gm X G p15 (aDT · T g_compared) (·.binds λ_ _ _ _ _ _ us hl=>by obtain ⟨_,_,rfl⟩:=eL hl;rfl)⟩;have g_earlier:Fn l.prog w K mg base 2 "earlier" ["one","other"] (aI K (vZ bI)):=⟨gm X G p16 (yQ · T g_compared) (·.binds λ_ _ _ _ _ _ us hl=>by obtain ⟨_,_,rfl⟩:=eL hl;rfl)⟩;have g_overlap:Fn l.prog w K mg base 3 "overlap" ["shape","segment"] (aI K qM):=⟨gm X G p17 (zX · T g_are_apart g_off_line g_later g_earlier g_compared c_NOUGHT c_ONE) (·.binds λ_ _ _ _ _ _ us hl=>by obtain ⟨_,_,rfl⟩:=eL hl;rfl)⟩;have g_is_clear_of:Fn l.prog w K mg base 5 "is_clear_of" ["shapes","begin","end"] (aI K qO):=⟨gm X G p18 (pP · T g_segment_of g_overlap g_compared g_later g_earlier) (·.binds λ_ _ _ _ _ _ us hl=>by obtain ⟨_,_,_,rfl⟩:=aJX hl;rfl)⟩;have g_is_clear:Fn l.prog w K mg base 6 "is_clear" ["blocks","begin","end"] (aI K xV):=⟨gm X G p19 (wT · T g_shapes_of g_is_clear_of) (·.binds λ_ _ _ _ _ _ us hl=>by obtain ⟨_,_,_,rfl⟩:=aJX hl;rfl)⟩;have g_mfrac:Fn l.prog w K mg base 1 "_law_frac" ["_law_n","_law_d"] (aI K yH):=⟨gm X G p20 (aEM · T ) (·.binds λ_ _ _ _ _ _ us hl=>by obtain ⟨_,_,rfl⟩:=eL hl;rfl)⟩;have g_msum:Fn l.prog w K mg base 2 "_law_sum" ["_law_one","_law_other"] (aI K (jN iC)):=⟨gm X G p21 (aH5 · T g_mfrac) (·.binds λ_ _ _ _ _ _ us hl=>by obtain ⟨_,_,rfl⟩:=eL hl;rfl)⟩;have g_mless:Fn l.prog w K mg base 2 "_law_less" ["_law_one","_law_other"] (aI K (jN bK)):=⟨gm X G p22 (aFX · T g_mfrac) (·.binds λ_ _ _ _ _ _ us hl=>by obtain ⟨_,_,rfl⟩:=eL hl;rfl)⟩;have g_mproduct:Fn l.prog w K mg base 2 "_law_product" ["_law_one","_law_other"] (aI K (jN fS)):=⟨gm X G p23 (wL · T g_mfrac) (·.binds λ_ _ _ _ _ _ us hl=>by obtain ⟨_,_,rfl⟩:=eL hl;rfl)⟩;have g_madd:Fn l.prog w K mg base 3 "_law_add" ["_law_one","_law_other"] (aI K vN):=⟨gm X G p24 (aHS · T g_msum) (·.binds λ_ _ _ _ _ _ us hl=>by obtain ⟨_,_,rfl⟩:=eL hl;rfl)⟩;have g_msub:Fn l.prog w K mg base 3 "_law_sub" ["_law_one","_law_other"] (aI K lR):=⟨gm X G p25 (aH4 · T g_mless) (·.binds λ_ _ _ _ _ _ us hl=>by obtain ⟨_,_,rfl⟩:=eL hl;rfl)⟩;have g_mscaled_by:Fn l.prog w K mg base 3 "_law_scaled_by" ["_law_vector","_law_share"] (aI K oW):=⟨gm X G p26 (rP · T g_mproduct) (·.binds λ_ _ _ _ _ _ us hl=>by obtain ⟨_,_,rfl⟩:=eL hl;rfl)⟩;have g_mcross:Fn l.prog w K mg base 3 "_law_cross" ["_law_one","_law_other"] (aI K (tVV d5)):=⟨gm X G p27 (aCS · T g_mless g_mproduct) (·.binds λ_ _ _ _ _ _ us hl=>by obtain ⟨_,_,rfl⟩:=eL hl;rfl)⟩;have g_mdot:Fn l.prog w K mg base 3 "_law_dot" ["_law_one","_law_other"] (aI K (tVV oR)):=⟨gm X G p28 (aI0 · T g_msum g_mproduct) (·.binds λ_ _ _ _ _ _ us hl=>by obtain ⟨_,_,rfl⟩:=eL hl;rfl)⟩;have g_mspot_at:Fn l.prog w K mg base 2 "_law_spot_at" ["_law_box_here","_law_wide"] (aI K pA):=⟨gm X G p29 (wQ · T g_take g_mfrac) (·.binds λ_ _ _ _ _ _ us hl=>by obtain ⟨_,_,rfl⟩:=eL hl;rfl)⟩;have g_mshape:Fn l.prog w K mg base 4 "_law_shape" ["_law_box_here","_law_wide"] (aI K tL):=⟨gm X G p30 (aCI · T g_take g_mspot_at g_madd) (·.binds λ_ _ _ _ _ _ us hl=>by obtain ⟨_,_,rfl⟩:=eL hl;rfl)⟩;have g_mlot:Fn l.prog w K mg base 5 "_law_lot" ["_law_box_here","_law_most"] (aI K aM7):=⟨gm X G p31 (aG9 · T g_take g_mshape g_madd g_mscaled_by g_msub) (·.binds λ_ _ _ _ _ _ us hl=>by obtain ⟨_,_,rfl⟩:=eL hl;rfl)⟩;have g_mover:Fn l.prog w K mg base 3 "_law_over" ["_law_one","_law_other"] (aI K zP):=⟨gm X G p32 (aEQ · T g_mproduct g_mfrac) (·.binds λ_ _ _ _ _ _ us hl=>by obtain ⟨_,_,rfl⟩:=eL hl;rfl)⟩;have g_mon:Fn l.prog w K mg base 4 "_law_on" ["_law_a","_law_b","_law_share"] (aI K aIZ):=⟨gm X G p33 (aNJ · T g_madd g_mscaled_by g_msub) (·.binds λ_ _ _ _ _ _ us hl=>by obtain ⟨_,_,_,rfl⟩:=aJX hl;rfl)⟩;have g_mmet:Fn l.prog w K mg base 4 "_law_met" ["_law_a","_law_b","_law_c","_law_d"] (aI K aG7):=⟨gm X G p34 (aHJ · T g_msub g_mcross g_mover g_mless g_mdot) (·.binds λ_ _ _ _ _ _ us hl=>by obtain ⟨_,_,_,_,rfl⟩:=aK9 hl;rfl)⟩;have g_msigns_of:Fn l.prog w K mg base 4 "_law_signs_of" ["_law_block","_law_point"] (aI K tD):=⟨gm X G p35 (uA · T g_msub g_mcross) (·.binds λ_ _ _ _ _ _ us hl=>by obtain ⟨_,_,rfl⟩:=eL hl;rfl)⟩;have g_mrising:Fn l.prog w K mg base 4 "_law_rising" ["_law_shares"] (aI K sO):=⟨gm X G p36 (yT · T g_mless) (·.binds λ_ _ _ _ _ _ us hl=>by obtain ⟨_,rfl⟩:=yK hl;rfl)⟩;have g_mcuts:Fn l.prog w K mg base 5 "_law_cuts" ["_law_some","_law_k","_law_a","_law_b"] (aI K aET):=⟨gm X G p37 (aDJ · T g_mmet g_mrising) (·.binds λ_ _ _ _ _ _ us hl=>by obtain ⟨_,_,_,_,rfl⟩:=aK9 hl;rfl)⟩;have g_mthere:Fn l.prog w K mg base 5 "_law_there" ["_law_block","_law_a","_law_b","_law_point"] (aI K x6):=⟨gm X G p38 (aB9 · T g_msigns_of g_msub g_mdot) (·.binds λ_ _ _ _ _ _ us hl=>by obtain ⟨_,_,_,_,rfl⟩:=aK9 hl;rfl)⟩;have g_mis_clear:Fn l.prog w K mg base 6 "_law_is_clear" ["_law_some","_law_a","_law_b"] (aI K tO):=⟨gm X G p39 (sU · T g_mcuts g_mon g_mproduct g_msum g_mthere) (·.binds λ_ _ _ _ _ _ us hl=>by obtain ⟨_,_,_,rfl⟩:=aJX hl;rfl)⟩;have g_mis_so:Fn l.prog w K mg base 1 "_law_is_so" ["_law_found","_law_due"] (aI K aD1):=⟨gm X G p40 (aBS · T ) (·.binds λ_ _ _ _ _ _ us hl=>by obtain ⟨_,_,rfl⟩:=eL hl;rfl)⟩;have g_is_in_block:Fn l.prog w K mg base 4 "is_in_block" ["block","spot"] (aI K xZ):=⟨gm X G p41 (qR · T g_edge_lines g_off_line) (·.binds λ_ _ _ _ _ _ us hl=>by obtain ⟨_,_,rfl⟩:=eL hl;rfl)⟩;have g_is_in:Fn l.prog w K mg base 5 "is_in" ["blocks","point"] (aI K aGX):=⟨gm X G p42 (aD0 · T g_spot_of g_is_in_block (W.mg_none_of X G z_any)) (·.binds λ_ _ _ _ _ _ us hl=>by obtain ⟨_,_,rfl⟩:=eL hl;rfl)⟩;have g_is_within:Fn l.prog w K mg base 4 "is_within" ["block","point"] (aI K aE7):=⟨gm X G p43 (uK · T g_spot_of g_edge_lines g_off_line) (·.binds λ_ _ _ _ _ _ us hl=>by obtain ⟨_,_,rfl⟩:=eL hl;rfl)⟩;have g_mdrawn_points:Fn l.prog w K mg base 5 "_law_drawn_points" ["_law_box_here","_law_some"] (aI K zA):=⟨gm X G p44 (nV · T g_take g_mon g_mspot_at g_mmet) (·.binds λ_ _ _ _ _ _ us hl=>by obtain ⟨_,_,rfl⟩:=eL hl;rfl)⟩;exact (aNI F45 T g_folded g_box g_mlot g_mdrawn_points g_is_in g_msigns_of g_mis_so g_is_within g_take g_mis_clear g_is_clear).imp aMZ
theorem aSB {l:W.OpenLaw} {q:aVD} {loose:List Str} {XP:(Str->Option Value)->Heap->Prop} {YP:aVH->Heap->Prop} {d:DefRec} {K:Params->W.Frag} (hn:l.most=some 63) (hdf:d.params.defaults=[])
  (hY:∀(w:aVH) (h:Heap),YP w h->(K w.params).In h)
  (F:∀(w:aVH) (mg:Str->Option Value) (fa:aVA) (h:Heap),(K w.params).In h->h.Ns aVJ mg->mg d.name=some (.ref fa)->
   ∃fd:aVF,(∀(s:Shared) (u:Value),BindsTo s fd ⟨[u],[]⟩ [("_law_script",u)])/\∀base:Heap,(K w.params).In base->base.Ns aVJ mg->bL l.prog w (K w.params) mg base fP 8 fa fd ["_law_script"] (aA1 (K w.params))) :
  W.WalkO q loose XP YP l.row.toRowW d [] (λf vs=>PySem.call f vs):=
 L2.aJZ (n:=63) (k:=8) (x:="_law_script") (CX:=λ_=>fP) (sp:=λw=>aA1 (K w.params)) hn (by decide) hdf ⟨rfl,by decide,by decide,rfl⟩ hY F (λ_ _ a ns hl _ hS=>⟨a,ns,rfl,hS,hl,λ_=>rfl⟩) λ_ _ _ _ _ z=>z
end My
-- Names taken, so that the last steps make no twins of these constants: their equations are of square size.
def PySem.W.Fast.tw7312569405394770082 : Nat := 0
def PySem.W.Fast.tw14976928612894287014 : Nat := 0
def PySem.W.Fast.tw13565226575383520391 : Nat := 0
def PySem.W.Fast.tw7921737058697027971 : Nat := 0
def PySem.W.Fast.tw7816115056145935046 : Nat := 0
def PySem.W.Fast.tw18004743734382863988 : Nat := 0
def PySem.W.Fast.tw10666865360173564957 : Nat := 0
def PySem.W.Fast.tw1113723524296122744 : Nat := 0
def PySem.W.Fast.tw18031785023839544528 : Nat := 0
def PySem.W.Fast.tw7219254190736993046 : Nat := 0
def PySem.W.Fast.tw5166709992922124171 : Nat := 0
def PySem.W.Fast.tw18186519196452766035 : Nat := 0
def PySem.W.Fast.tw10180718627641931606 : Nat := 0
def PySem.W.Fast.tw9172184173378121915 : Nat := 0
def PySem.W.Fast.tw2985977160745061873 : Nat := 0
def PySem.W.Fast.tw10094173152389735403 : Nat := 0
def PySem.W.Fast.tw16641209347020603665 : Nat := 0
def PySem.W.Fast.tw15343751007390165916 : Nat := 0
def PySem.W.Fast.tw255543118321738486 : Nat := 0
def PySem.W.Fast.tw17148843770714181715 : Nat := 0
def PySem.W.Fast.tw2889902957293512422 : Nat := 0
def PySem.W.Fast.tw704336134568080741 : Nat := 0
def PySem.W.Fast.tw9517092004131262225 : Nat := 0
def PySem.W.Fast.tw4309657112091815826 : Nat := 0
def PySem.W.Fast.tw3534328604402269452 : Nat := 0
def PySem.W.Fast.tw6246459970126839967 : Nat := 0
def PySem.W.Fast.tw16140645902861192434 : Nat := 0
def PySem.W.Fast.tw390422290358949930 : Nat := 0
def PySem.W.Fast.tw17361402616139817796 : Nat := 0
def PySem.W.Fast.tw9469549360993924305 : Nat := 0
def PySem.W.Fast.tw17420619658783468393 : Nat := 0
def PySem.W.Fast.tw17097483671644280934 : Nat := 0
def PySem.W.Fast.tw2655664326993544929 : Nat := 0
def PySem.W.Fast.tw5206171034376669229 : Nat := 0
def PySem.W.Fast.tw11083441896221638086 : Nat := 0
def PySem.W.Fast.tw11899221967419894310 : Nat := 0
def PySem.W.Fast.tw7734405044023649132 : Nat := 0
def PySem.W.Fast.tw8340965755417155526 : Nat := 0
open PySem PySem.W PyProof.Rows
set_option maxRecDepth 100000 in
set_option maxHeartbeats 0 in
theorem PySem.Challenge.cw_sidecut_k27_points_and_ways_in_patches_holds : PySem.Challenge.rw_sidecut_k27_points_and_ways_in_patches.Holds := by
 w_on; o_law; k_head; (case hw => w_witness2)
 k_fill
 refine My.aSB (l := PySem.Challenge.rw_sidecut_k27_points_and_ways_in_patches) rfl rfl (λw h Y => PySem.W.kIn_of Y) ?F
 case F =>
  intro w mg fa h KX G hmg
  refine' My.aMC KX G hmg ?p0 ?p1 ?p2 ?p3 ?p4 ?p5 ?p6 ?p7 ?p8 ?p9 ?p10 ?p11 ?p12 ?p13 ?p14 ?p15 ?p16 ?p17 ?p18 ?p19 ?p20 ?p21 ?p22 ?p23 ?p24 ?p25 ?p26 ?p27 ?p28 ?p29 ?p30 ?p31 ?p32 ?p33 ?p34 ?p35 ?p36 ?p37 ?p38 ?p39 ?p40 ?p41 ?p42 ?p43 ?p44 ?p45 ?q_NOUGHT ?r_NOUGHT ?q_ONE ?r_ONE ?q_GRID ?z_isinstance ?z_abs ?z_divmod ?z_min ?z_max ?z_all ?z_len ?z_int ?z_bool ?z_tuple ?z_list ?z_str ?z_range ?z_enumerate ?z_zip ?z_any
  any_goals exact My.fc rfl rfl rfl rfl
  (case q_NOUGHT => k_is)
  (case r_NOUGHT => k_is)
  (case q_ONE => k_is)
  (case r_ONE => k_is)
  (case q_GRID => k_is)
  (case z_isinstance => k_is)
  (case z_abs => k_is)
  (case z_divmod => k_is)
  (case z_min => k_is)
  (case z_max => k_is)
  (case z_all => k_is)
  (case z_len => k_is)
  (case z_int => k_is)
  (case z_bool => k_is)
  (case z_tuple => k_is)
  (case z_list => k_is)
  (case z_str => k_is)
  (case z_range => k_is)
  (case z_enumerate => k_is)
  (case z_zip => k_is)
  (case z_any => k_is)
#print axioms PySem.Challenge.cw_sidecut_k27_points_and_ways_in_patches_holds
