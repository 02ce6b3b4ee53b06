import PyProof.Rows.All
import Wide.All
import OpenK.AllK
import Wide.FinOn
import Lean
import PyProof.EqAt
import PyProof.EqKinds
import PyProof.TupleCall
import PyProof.NeKinds
import PyProof.ExcInit
import PyProof.Rows.SortStr
import PyProof.Rows.SortWalk
import PyProof.Rows.RuleB_bool
import PyProof.Rows.SortShellK
import KE.KIntText
import KE.KIsAll
import PyProof.AttrMissHeap
import PyProof.CompUse
import PyProof.Rows.CountFlat
import PySem.Challenge.RW_sidecut_k49_texts_of_paths_spoilt_anywhe
set_option Elab.async false
set_option linter.all false
set_option maxRecDepth 100000
set_option maxHeartbeats 4000000
open PySem.Str renaming ofString -> aA7, join -> aYO, length -> bAL
open List renaming getElem?_eq_some_iff -> aA8, length_append -> aBN, getElem?_eq_getElem -> aCP, append_assoc -> aEE, replicate -> aEH, getElem?_map -> aEO, getElem?_append_left -> aE9, length_map -> aG5, mem_cons -> aH1, mem_of_getElem? -> aIR, mem_cons_of_mem -> aJF, length_drop -> aLJ, getElem?_set_ne -> aLL, length_take -> aNQ, length_cons -> aOW, size_toArray -> aOX, map_cons -> aQA, flatten_cons -> aSX, take_of_length_le -> aT2, mem_append_right -> aUM, getElem?_append_right -> aUO, append_nil -> aU7, getElem?_set_self -> aVH, drop_eq_nil_of_le -> aVP, eq_nil_of_length_eq_zero -> aVQ, drop_eq_getElem_cons -> aVT, getElem?_take_of_lt -> aVV, replicate_succ -> aVW, not_mem_nil -> aVX, filterMap_cons -> aVZ, length_replicate -> aV2, mem_cons_self -> aWI, all_eq_true -> aWN, mem_append -> aW2, map_append -> aW5, mem_singleton -> aXB, length_reverse -> aXG, nodup_cons -> aXH, drop_drop -> aXL, length_set -> aXN, lookup_cons -> aXQ, take_append_drop -> aXU, forIn_cons -> aXW, getElem?_of_mem -> aXX, mem_of_mem_drop -> aXY, mem_of_mem_take -> aXZ, reverse_cons -> aX0, getElem?_set -> aX2, set_comm -> aX6, getElem?_take_eq_none -> aX7, reverse_reverse -> aX9, length -> aYA, drop_length -> aYD, mem_map -> aYF, range -> aYH, find?_cons -> aYI, Nodup -> aYK, length_singleton -> aYS, mem_append_left -> aYW, getElem_mem -> aYX, getD_eq_getElem?_getD -> aY1, map_take -> aY3, getLast?_cons -> aY6, getElem?_inj -> aY8, reverse_singleton -> aY9, any_cons -> aZA, getElem?_eq_none -> aZD, eraseIdx_eq_take_drop_succ -> aZF, set_append_left -> aZH, getElem?_zipIdx -> aZI, replicate_succ' -> aZK, mem_map_of_mem -> aZM, mem_range -> aZN, forIn_nil -> aZO, drop_zero -> aZP, map_drop -> aZR, length_range -> aZS, take_add_one -> aZT, cons_append -> aZY, map_map -> aZZ, take_length -> aZ6, getElem?_replicate -> aZ8, mem_filter -> bAC, of_mem_zip -> bAD, length_nil -> bAE, take_succ -> bAK
open Nat renaming zero_le -> aB7, le_refl -> aFI, lt_of_lt_of_le -> aG3, gcd -> aPV, ne_of_lt -> aTV, le_trans -> aVD, lt_or_ge -> aVS, pow_le_pow_right -> aVU, le_of_lt -> aVY, lt_of_le_of_lt -> aWL, lt_succ_self -> aXF, not_lt_zero -> aXI, le_total -> aXK, min_eq_left -> aXO, min_eq_right -> aXR, eq_zero_or_pos -> aXT, max -> aX3, gcd_pos_of_pos_right -> aYE, log2_lt -> aYL, gcd_dvd_right -> aYQ, le_of_ble_eq_true -> aYT, pow_succ -> aYV, le_max_right -> aYY, gcd_dvd_left -> aYZ, mod_lt -> aY0, le_max_left -> aY5, succ_le_succ -> aZB, max_le -> aZJ, ne_of_gt -> aZV, mul_comm -> aZX, gcd_comm -> aZ0, mul_lt_mul'' -> aZ1, log2 -> aZ2, lt_log2_self -> aZ3, toDigits -> aZ5, toDigits_of_lt_base -> aZ9, exists_eq_add_of_le -> bAA, Coprime -> bAG, mul_le_mul -> bAJ, max_lt -> bAM
open PySem.Heap renaming get?_push_of_some -> aDZ, lt_size -> aG4, get?_update_other -> aLK, get?_push_size -> aLS, get?_update_self -> aQU, size_push -> aYB, SameBut -> aYR
open PySem.NumText renaming digitsVal -> aEW
open Or renaming inl -> aIW, inr -> aX8
open PySem.Txt renaming split -> aQV, partition -> aVR, slice -> aXV, startswith -> aX4, isascii -> aYM, isdigit -> aYN, removeprefix -> aZC, slice_le -> aZ4
open PySem.Obj renaming data_mapFields -> aRH, isFreed_of_fields -> aVG, mapFields -> aWA, mapSeq -> aXP
open Int renaming natAbs_natCast -> aSV, fdiv_eq_ediv_of_nonneg -> aV9, mul_ediv_cancel_left -> aWX, ofNat_dvd_left -> aXJ, toNat_natCast -> aXM, natAbs_mul -> aYC, natAbs_mul_self -> aYG, emod_lt_of_pos -> aYJ, natAbs_neg -> aYU, emod_nonneg -> aZL, fmod_eq_emod_of_nonneg -> aZQ, mul_fdiv_cancel_left -> aZ7
open PySem.Value renaming ref -> aSW, none -> aTX, bool -> aZU, str -> bAB, builtin -> bAN
open Array renaming getElem?_eq_some_iff -> aTQ, getElem?_setIfInBounds_self_of_lt -> aY2, getElem?_setIfInBounds_ne -> aZE, getElem?_toList -> bAH
open Bool renaming and_eq_true -> aUN, false_ne_true -> aXS, not_eq_true' -> aX1, false_eq_true -> aX5, eq_iff_iff -> aY4, or_eq_true -> bAF, and_false -> bAI
open Option renaming map_eq_some_iff -> aYP, bind_eq_some_iff -> aY7, map_some -> aZG, isSome_iff_exists -> aZW
open PyProof.Rows renaming envOfC -> bAZ, assignInOrder_cons -> bBP, AllBare -> bBT, boot_isinstance -> bB5, assignInOrder_nil -> bCO
open PySem renaming Addr -> bAO, wpAny_bind -> bAP, wpAny -> bAQ, Program -> bAR, FuncData -> bAS, wpAny_pure -> bAT, World -> bAU, model -> bAV, sizeLine -> bAW, mainGlobals -> bAX, Stmt -> bAY, starEach -> bA0, wpAny_field -> bA1, eval -> bA2, bootBuiltins -> bA3, attributeBase -> bA4, behindInMarks -> bA5, rawInt -> bA6, compareOp -> bA7, wpAny_mono -> bA8, Scope -> bA9, backTo -> bBA, assignEach -> bBB, wpAny_truthy_bool -> bBC, foldedSetIterable -> bBD, wpAny_holding -> bBE, wpAny_setField -> bBF, binaryOp -> bBG, swapsWithSole -> bBH, swappedStores -> bBI, wpAny_Call_Name_kw -> bBJ, noteFrame -> bBK, wpAny_execs_nil -> bBL, wpAny_newObj_type -> bBM, swapsWith -> bBN, wpAny_standAt -> bBO, wpAny_passesOwn -> bBQ, sizeLine_eq -> bBR, wpAny_seqItems -> bBS, holding -> bBU, sysModules -> bBV, wpAny_setField_rec -> bBW, bindName -> bBX, leaving -> bBY, typeIs_str -> bBZ, call_meets -> bB0, wpAny_setFlight_none -> bB1, assign -> bB2, sliceBounds -> bB3, letOwnedTupleGo -> bB4, wpAny_bindName -> bB6, cLine -> bB7, IsZip -> bB8, subscripted -> bB9, assignInOrder -> bCA, wpAny_execs_cons -> bCB, wpAny_call_entry -> bCC, getItem -> bCD, setFlight -> bCE, codeAny_handlers_test -> bCF, wpAny_rule -> bCG, codeAny_mono -> bCH, wpAny_handleBy_cons -> bCI, Operator -> bCJ, codeAny -> bCK, wpAny_pyIter_tuple -> bCL, evalPart_none -> bCM, wpAny_attempt -> bCN, wpAny_call -> bCP, callerA -> bCQ, tupleKind -> bCR
namespace L2
open PySem PySem.Spec PyProof.Rows
abbrev Key:=Sum Int Str
def uX:Key->Value->Bool
 | .inl k,v=>Value.isInt k v
 | .inr x,v=>Value.isStrOf x v
def aWC (w:bAU):Key->Int
 | .inl k=>hashInt k
 | .inr x=>hashStr w x
theorem cI:∀{k:Key} {v:Value},uX k v=true->(∃i t,k=Sum.inl i/\v=Value.int i t)\/(∃x t,k=Sum.inr x/\v=bAB x t)
 | .inl i,v,h=>by
  obtain ⟨t,e⟩:=Value.isInt_shape (k:=i) (v:=v) h;exact .inl ⟨i,t,rfl,e⟩
 | .inr x,v,h=>by
  obtain ⟨t,e⟩:=Value.isStrOf_shape (x:=x) (v:=v) h;exact .inr ⟨x,t,rfl,e⟩
theorem aFE (i:Int) (t:Tok):uX (.inl i) (.int i t)=true:=by simp [uX,Value.isInt]
theorem aF2 (x:Str) (t:Tok):uX (.inr x) (.str x t)=true:=by simp [uX,Value.isStrOf]
theorem aR2 (a b:Int):decide ((Sum.inl a:Key)=Sum.inl b)=(a==b):=by
 by_cases e:a=b
 ·subst e;simp
 ·have h:¬(Sum.inl a:Key)=Sum.inl b:=λq=>e (Sum.inl.inj q);rw [decide_eq_false h];exact (beq_eq_false_iff_ne.mpr e).symm
theorem aP4 (a b:Str):decide ((Sum.inr a:Key)=Sum.inr b)=decide (a=b):=by
 by_cases e:a=b
 ·subst e;simp
 ·have h:¬(Sum.inr a:Key)=Sum.inr b:=λq=>e (Sum.inr.inj q);rw [decide_eq_false h,decide_eq_false e]
theorem aQB (a:Int) (b:Str):decide ((Sum.inl a:Key)=Sum.inr b)=false:=decide_eq_false (λq=>nomatch q)
theorem aRF (a:Str) (b:Int):decide ((Sum.inr a:Key)=Sum.inl b)=false:=decide_eq_false (λq=>nomatch q)
def cN (prog:bAR) (w:bAU):PySem.KeyKind prog w Key where
 is:=uX
 hash:=aWC w
 inj:=λv a b ha hb=>by
  rcases cI ha with ⟨i,t,rfl,rfl⟩ | ⟨x,t,rfl,rfl⟩
  ·rcases cI hb with ⟨j,u,rfl,e⟩ | ⟨y,u,rfl,e⟩
   ·injection e with e1 _;rw [e1]
   ·exact nomatch e
  ·rcases cI hb with ⟨j,u,rfl,e⟩ | ⟨y,u,rfl,e⟩
   ·exact nomatch e
   ·injection e with e1 _;rw [e1]
 byValue:=λk v h=>by
  rcases cI h with ⟨i,t,rfl,rfl⟩ | ⟨x,t,rfl,rfl⟩<;>rfl
 pyHash:=λhv h=>by
  rcases cI hv with ⟨i,t,rfl,rfl⟩ | ⟨x,t,rfl,rfl⟩
  ·exact wpAny_pyHash_int h
  ·exact wpAny_pyHash_str h
 eqBool:=λhu hv h=>by
  rcases cI hu with ⟨i,t,rfl,rfl⟩ | ⟨x,t,rfl,rfl⟩
  ·rcases cI hv with ⟨j,u,rfl,rfl⟩ | ⟨y,u,rfl,rfl⟩
   ·rw [aR2] at h;exact wpAny_eqBool_int h
   ·rw [aQB] at h;exact SeqAt.EqAt.int_str i t y u _ _ _ _ h
  ·rcases cI hv with ⟨j,u,rfl,rfl⟩ | ⟨y,u,rfl,rfl⟩
   ·rw [aRF] at h;exact SeqAt.EqAt.str_int x t j u _ _ _ _ h
   ·rw [aP4] at h;exact wpAny_eqBool_str h
 «strs»:=λk x t v h=>by
  rcases cI h with ⟨i,u,rfl,e⟩ | ⟨y,u,rfl,e⟩
  ·exact nomatch e
  ·injection e with e1 _;subst e1;cases v<;>rfl
theorem zG (prog:bAR) (w:bAU) (i:Int) (t:Tok):(cN prog w).is (.inl i) (.int i t)=true:=aFE i t
theorem zX (prog:bAR) (w:bAU) (x:Str) (t:Tok):(cN prog w).is (.inr x) (.str x t)=true:=aF2 x t
inductive V where
 | non | bl (b:Bool) | int (i:Int) | str (x:Str) | byt (b:Array UInt8) | flt (b:UInt64) | ref (a:bAO) | ty (n:String)
 deriving DecidableEq
def bC:V->Value->Prop
 | .non,u=>u=aTX
 | .bl b,u=>u=aZU b
 | .int i,u=>∃t,u=Value.int i t
 | .str x,u=>∃t,u=bAB x t
 | .byt b,u=>∃t,u=Value.bytes b t
 | .flt b,u=>∃t,u=Value.float b t
 | .ref a,u=>u=aSW a
 | .ty n,u=>u=Value.type n
abbrev bA:List V->List Value->Prop:=Paired bC
theorem bA.length {xs:List V} {us:List Value} (r:bA xs us):xs.length=us.length:=Paired.length r
theorem bA.get:∀{xs:List V} {us:List Value} {i:Nat} {x:V},bA xs us->xs[i]? = some x->∃u,us[i]? = some u/\bC x u
 | _,_,_,_,.nil,e=>by simp at e
 | _,_,0,_,.cons r _,e=>by simp at e;subst e;exact ⟨_,rfl,r⟩
 | _,_,i+1,x,.cons _ t,e=>by
  obtain ⟨u,h1,h2⟩:=bA.get (i:=i) (x:=x) t (by simpa using e);exact ⟨u,by simpa using h1,h2⟩
theorem bA.set {x:V} {u:Value} (r:bC x u):∀{xs:List V} {us:List Value} (i:Nat),bA xs us->bA (xs.set i x) (us.set i u)
 | _,_,_,.nil=>.nil
 | _,_,0,.cons _ t=>.cons r t
 | _,_,i+1,.cons q t=>.cons q (bA.set r i t)
theorem bA.append:∀{xs ys:List V} {us ws:List Value},bA xs us->bA ys ws->bA (xs++ys) (us++ws)
 | _,_,_,_,.nil,s=>s
 | _,_,_,_,.cons r t,s=>.cons r (bA.append t s)
theorem bA.take:∀{xs:List V} {us:List Value} (n:Nat),bA xs us->bA (xs.take n) (us.take n)
 | _,_,0,_=>.nil
 | _,_,_+1,.nil=>.nil
 | _,_,n+1,.cons r t=>.cons r (bA.take n t)
theorem bA.drop:∀{xs:List V} {us:List Value} (n:Nat),bA xs us->bA (xs.drop n) (us.drop n)
 | _,_,0,r=>r
 | _,_,_+1,.nil=>.nil
 | _,_,n+1,.cons _ t=>bA.drop n t
def aFZ:Option V->Option Value->Prop
 | some v,some u=>bC v u
 | none,none=>True
 | _,_=>False
def KV {κ:Type}:List (κ×V)->List (κ×Value)->Prop:=Paired λ(p:κ×V) (q:κ×Value)=>p.1=q.1/\bC p.2 q.2
def kV:Key->V
 | .inl i=>.int i
 | .inr x=>.str x
inductive HO where
 | lst (xs:List V)
 | tup (xs:List V)
 | dK (kvs:List (Key×V)) | dT (kvs:List (List Key×V))
 | set (S:Int->Bool) (n:Nat)
 | ins (C dx:bAO) (fs:List (Str×V))
 | own (x:bAO)
 | xd (fs:List (Str×V))
 | met (f x:bAO)
 | rng (lo hi:Int)
 | frz (o:Obj) (u:HO)
 | tbl (ps:Array Value)
 | ext (φ:Heap->Prop)
abbrev Hp:=bAO->Option HO
def upd (H:Hp) (a:bAO) (o:HO):Hp:=λb=>if b=a then some o else H b
theorem bY {H:Hp} {a:bAO} {o:HO}:upd H a o a=some o:=by unfold upd;rw [if_pos rfl]
theorem aS {H:Hp} {a b:bAO} {o:HO} (h:b≠a):upd H a o b=H b:=by unfold upd;rw [if_neg h]
theorem aQ {H:Hp} {a b:bAO} {o:HO} (h:H a=some o) (h':H b=none):a≠b:=by
 intro e;subst e;rw [h] at h';cases h'
section
variable (P:bAR) (w:bAU)
def cP (H:Hp) (h:Heap) (a:bAO):HO->Prop
 | .lst xs=>xs.length<=bAW/\∃(its:List Value) (n:Nat),bA xs its/\h.get? a=some { cls:=.type "list",data:=.seq its.toArray n }
 | .tup xs=>xs.length<=bAW/\∃its:List Value,bA xs its/\IsTup h a its.toArray
 | .dK kvs=>kvs.length<=bAW/\(a==bBV)=false/\∃vs,KV kvs vs/\h.DictOf (cN P w) a vs
 | .dT kvs=>kvs.length<=bAW/\(a==bBV)=false/\∃xs:List (List Key×bAO×Value),
   Paired (λ(p:List Key×V) (q:List Key×bAO×Value)=>p.1=q.1/\H q.2.1=some (.tup (p.1.map kV))/\bC p.2 q.2.2) kvs xs/\
   ∃o es ep,h.get? a=some o/\o.ExactDict/\o.data = .dict es ep/\es.toList=xs.map (entryOfKey (bCR (cN P w)))/\(xs.map (·.1)).Nodup
 | .set S n=>h.SetOf (intKind P w) a S n
 | .ins C dx fs=>H dx=some (.own a)/\fs.length<=1000/\dx≠a/\h.get? a=some (W.instObj C dx)/\
   ∃mA,h.Ns1 dx mA/\(∀f,aFZ (fs.lookup f) (mA f))/\PySem.Within mA (fs.map (·.1))
 | .own _=>∃o,h.get? a=some o
 | .xd fs=>∃mA,h.Ns1 a mA/\∀f,aFZ (fs.lookup f) (mA f)
 | .rng lo hi=>∃t u v,h.get? a=some { cls:=.type "range",data:=.fields #[.int lo t,.int hi u,.int 1 v] }
 | .frz o u=>h.get? a=some o/\cP H h a u
 | .tbl ps=>h.get? a=some { cls:=.none,data:=.fields ps }
 | .met f x=>h.get? a=some (W.methodObj (.ref f) (.ref x))
 | .ext φ=>φ h/\(∃o,h.get? a=some o)/\∀h1 h2:Heap,φ h1->(∀o,h1.get? a=some o->h2.get? a=some o)->φ h2
def iO (H:Hp) (h:Heap):Prop:=∀a o,H a=some o->cP P w H h a o
end
section
variable {P:bAR} {w:bAU} {H H':Hp} {h h':Heap} {a:bAO} {o:HO}
theorem cP.lt (x:cP P w H h a o):a<h.objs.size:=by
 cases o with
 | lst xs=>obtain ⟨_,_,_,_,e⟩:=x;exact aG4 e
 | tup xs=>obtain ⟨_,_,_,p⟩:=x;exact p.lt
 | dK kvs=>obtain ⟨_,_,_,_,o,_,_,e,_⟩:=x;exact aG4 e
 | dT kvs=>obtain ⟨_,_,_,_,o,_,_,e,_⟩:=x;exact aG4 e
 | set S n=>obtain ⟨o,_,_,_,e,_⟩:=x;exact aG4 e
 | ins C dx fs=>obtain ⟨_,_,_,e,_⟩:=x;exact aG4 e
 | own y=>obtain ⟨_,e⟩:=x;exact aG4 e
 | xd fs=>obtain ⟨_,⟨_,_,_,e,_⟩,_⟩:=x;exact aG4 e
 | rng lo hi=>obtain ⟨_,_,_,e⟩:=x;exact aG4 e
 | frz ob u=>obtain ⟨e,_⟩:=x;exact aG4 e
 | tbl ps=>exact aG4 (show h.get? a=some _ from x)
 | met f y=>exact aG4 (show h.get? a=some _ from x)
 | ext φ=>obtain ⟨_,⟨_,e⟩,_⟩:=x;exact aG4 e
theorem Paired.mapP {α β:Type} {F G:α->β->Prop}:∀{l₁:List α} {l₂:List β},Paired F l₁ l₂->(∀a b,F a b->G a b)->Paired G l₁ l₂
 | _,_,.nil,_=>.nil
 | _,_,.cons r t,f=>.cons (f _ _ r) (Paired.mapP t f)
theorem cP.stay (x:cP P w H h a o) (k:∀b u,(b=a\/H b=some (.own a))->h.get? b=some u->h'.get? b=some u)
  (ho:∀b,H b=some (.own a)->H' b=some (.own a)) (ht:∀b xs,H b=some (.tup xs)->H' b=some (.tup xs)):cP P w H' h' a o:=by
 induction o with
 | lst xs=>obtain ⟨z,its,n,r,e⟩:=x;exact ⟨z,its,n,r,k _ _ (.inl rfl) e⟩
 | tup xs=>obtain ⟨z,its,r,ob,e,c⟩:=x;exact ⟨z,its,r,ob,k _ _ (.inl rfl) e,c⟩
 | dK kvs=>obtain ⟨z,y,vs,r,ob,es,ep,e,c⟩:=x;exact ⟨z,y,vs,r,ob,es,ep,k _ _ (.inl rfl) e,c⟩
 | dT kvs=>
  obtain ⟨z,y,xs,r,ob,es,ep,e,c⟩:=x;exact ⟨z,y,xs,Paired.mapP r λp q z=>⟨z.1,ht _ _ z.2.1,z.2.2⟩,ob,es,ep,k _ _ (.inl rfl) e,c⟩
 | set S n=>obtain ⟨ob,es,ep,t,e,c⟩:=x;exact ⟨ob,es,ep,t,k _ _ (.inl rfl) e,c⟩
 | ins C dx fs=>
  obtain ⟨d,z,ne,e,mA,⟨od,es,ep,e2,c⟩,r⟩:=x;exact ⟨ho _ d,z,ne,k _ _ (.inl rfl) e,mA,⟨od,es,ep,k _ _ (.inr d) e2,c⟩,r⟩
 | own y=>obtain ⟨ob,e⟩:=x;exact ⟨ob,k _ _ (.inl rfl) e⟩
 | xd fs=>obtain ⟨mA,⟨od,es,ep,e,c⟩,r⟩:=x;exact ⟨mA,⟨od,es,ep,k _ _ (.inl rfl) e,c⟩,r⟩
 | rng lo hi=>obtain ⟨t,u,v,e⟩:=x;exact ⟨t,u,v,k _ _ (.inl rfl) e⟩
 | frz ob u ih=>obtain ⟨e,q⟩:=x;exact ⟨k _ _ (.inl rfl) e,ih q⟩
 | tbl ps=>
  have e:h.get? a=some { cls:=.none,data:=.fields ps }:=x;show h'.get? a=some { cls:=.none,data:=.fields ps };exact k a _ (.inl rfl) e
 | met f y=>
  have e:h.get? a=some (W.methodObj (.ref f) (.ref y)):=x;show h'.get? a=some (W.methodObj (.ref f) (.ref y));exact k a _ (.inl rfl) e
 | ext φ=>obtain ⟨p,⟨o,e⟩,st⟩:=x;exact ⟨st _ _ p λo q=>k _ _ (.inl rfl) q,⟨o,k _ _ (.inl rfl) e⟩,st⟩
theorem iO.lt (x:iO P w H h) (e:H a=some o):a<h.objs.size:=(x a o e).lt
theorem iO.fresh (x:iO P w H h) (e:h.objs.size<=a):H a=none:=by
 cases q:H a with
 | none=>rfl
 | some u=>exact absurd (aG3 (x.lt q) e) (Nat.lt_irrefl _)
theorem iO.kept (x:iO P w H h) (k:∀b u,h.get? b=some u->h'.get? b=some u):iO P w H h':=λa o e=>
 (x a o e).stay (λb u _ q=>k b u q) (λ_ q=>q) λ_ _ q=>q
theorem iO.laid (x:iO P w H h) (k:∀b u,h.get? b=some u->h'.get? b=some u) (hp:h.objs.size<=a) (new:cP P w (upd H a o) h' a o):iO P w (upd H a o) h':=λb u e=>by
 have hn:=x.fresh hp
 by_cases hb:b=a
 ·subst hb;rw [bY] at e;cases e;exact new
 ·rw [aS hb] at e;exact (x b u e).stay (λc v _ q=>k c v q) (λc q=>by rw [aS (aQ q hn)];exact q) λc xs q=>by rw [aS (aQ q hn)];exact q
end
def Rd (H:Hp) (a:bAO) (u:HO):Prop:=H a=some u\/∃o,H a=some (.frz o u)
theorem Rd.ok {P:bAR} {w:bAU} {H:Hp} {h:Heap} {a:bAO} {u:HO} (r:Rd H a u) (x:iO P w H h):cP P w H h a u:=by
 rcases r with r | ⟨o,r⟩
 ·exact x a u r
 ·obtain ⟨_,q⟩:=x a _ r;exact q
def Mut:Option HO->Prop
 | some (.lst _)=>True
 | some (.dK _)=>True
 | some (.dT _)=>True
 | some (.set _ _)=>True
 | some (.ins _ _ _)=>True
 | some (.ext _)=>True
 | _=>False
section
variable {P:bAR} {w:bAU} {H:Hp} {h h':Heap} {x e:bAO} {o':HO}
theorem iO.write (ok:iO P w H h) (mu:Mut (H x)) (he:e=x\/H e=some (.own x)) (k:∀b u,b≠e->h.get? b=some u->h'.get? b=some u) (heo:∃u,h'.get? e=some u)
  (new:cP P w (upd H x o') h' x o'):iO P w (upd H x o') h':=λb u q=>by
 have nown:∀c y,H c=some (.own y)->c≠x:=λc y r z=>by subst z;rw [r] at mu;exact mu
 have ntup:∀c xs,H c=some (.tup xs)->c≠x:=λc xs r z=>by subst z;rw [r] at mu;exact mu
 by_cases hb:b=x
 ·subst hb;rw [bY] at q;cases q;exact new
 ·rw [aS hb] at q
  by_cases hbe:b=e
  ·have q':H b=some (.own x):=by
    rcases he with z | z
    ·exact absurd (hbe.trans z) hb
    ·rw [hbe];exact z
   rw [q] at q';cases q';obtain ⟨v,hv⟩:=heo;exact ⟨v,by rw [hbe];exact hv⟩
  ·refine (ok b u q).stay (λc v hc r=>k c v ?_ r) (λc r=>by rw [aS (nown c b r)];exact r) λc xs r=>by rw [aS (ntup c xs r)];exact r
   rcases hc with rfl | hc
   ·exact hbe
   ·rintro rfl;rcases he with z | z
    ·exact nown c b hc z
    ·rw [hc] at z;cases z;exact hb rfl
end
structure Un (fs ex:List bAO) (H H':Hp) (h h':Heap):Prop where
 keep:∀b o,h.get? b=some o->H b=none->b∉fs->b∉ex->h'.get? b=some o
 slot:∀b o,h.get? b=some o->H b=none->b∈fs->b∉ex->∃sl,h'.get? b=some { o with slots:=sl }
 free:∀b o,h.get? b=some o->H b=none->b∉ex->H' b=none
 there:∀b o,h.get? b=some o->b∉ex->∃o',h'.get? b=some o'
 tups:∀b xs,H b=some (.tup xs)->H' b=some (.tup xs)
 frzs:∀b o u,H b=some (.frz o u)->H' b=some (.frz o u)
 tbls:∀b ps,H b=some (.tbl ps)->∃more,H' b=some (.tbl (ps++more))
section
variable {fs fs' ex ex':List bAO} {H H1 H2:Hp} {h h1 h2 h':Heap} {a x e:bAO} {o:HO}
theorem Un.any (u:Un fs ex H H1 h h1) {b:bAO} {ob:Obj} (q:h.get? b=some ob) (n:H b=none) (hx:b∉ex):∃sl,h1.get? b=some { ob with slots:=sl }:=by
 by_cases hb:b∈fs
 ·exact u.slot b ob q n hb hx
 ·exact ⟨ob.slots,u.keep b ob q n hb hx⟩
theorem Un.kept (k:∀b u,h.get? b=some u->h'.get? b=some u):Un fs ex H H h h':=
 ⟨λb ob q _ _ _=>k b ob q,λb ob q _ _ _=>⟨ob.slots,k b ob q⟩,λ_ _ _ n _=>n,λb ob q _=>⟨ob,k b ob q⟩,λ_ _ q=>q,λ_ _ _ q=>q,λ_ ps q=>⟨#[],by rw [q];simp⟩⟩
theorem Un.refl:Un fs ex H H h h:=Un.kept λ_ _ q=>q
theorem Un.laid (k:∀b u,h.get? b=some u->h'.get? b=some u) (hp:h.objs.size<=a) (hn:H a=none):Un fs ex H (upd H a o) h h' where
 keep:=λb u q _ _ _=>k b u q
 slot:=λb u q _ _ _=>⟨u.slots,k b u q⟩
 free:=λb u q n _=>by rw [aS (aTV (aG3 (aG4 q) hp))];exact n
 there:=λb u q _=>⟨u,k b u q⟩
 tups:=λb xs q=>by rw [aS (aQ q hn)];exact q
 frzs:=λb u xs q=>by rw [aS (aQ q hn)];exact q
 tbls:=λb ps q=>⟨#[],by rw [aS (aQ q hn),q];simp⟩
theorem Un.write (mu:Mut (H x)) (he:e=x\/H e=some (.own x)) (k:∀b u,b≠e->h.get? b=some u->h'.get? b=some u) (heo:∃u,h'.get? e=some u):Un fs ex H (upd H x o) h h':=by
 have hx:∀b,H b=none->b≠x:=λb n z=>by subst z;rw [n] at mu;exact mu
 have hb:∀b,H b=none->b≠e:=λb n z=>by
  subst z;rcases he with r | r
  ·exact hx b n r
  ·rw [n] at r;cases r
 have hm:∀b u,H b=some u->¬Mut (some u)->b≠x:=λb u q nm z=>by subst z;rw [q] at mu;exact nm mu
 refine ⟨λb u q n _ _=>k b u (hb b n) q,λb u q n _ _=>⟨u.slots,k b u (hb b n) q⟩,λb u q n _=>by rw [aS (hx b n)];exact n,λb u q _=>?_,
  λb xs q=>by rw [aS (hm b _ q λz=>z)];exact q,λb u xs q=>by rw [aS (hm b _ q λz=>z)];exact q,λb ps q=>⟨#[],by rw [aS (hm b _ q λz=>z),q];simp⟩⟩
 by_cases hbe:b=e
 ·subst hbe;exact heo
 ·exact ⟨u,k b u hbe q⟩
end
def trk (h:Heap) (H:Hp):List bAO:=(aYH h.objs.size).filter λa=>(H a).isSome
def wI (h:Heap) (H:Hp):Heap:=W.hideAll h (trk h H)
theorem aF9 (h:Heap) (H:Hp):(wI h H).objs.size=h.objs.size:=W.hideAll_size _ _
theorem aKZ {h:Heap} {H:Hp} {b:bAO} {o:Obj} (e:h.get? b=some o) (n:H b=none):(wI h H).get? b=some o:=
 W.hideAll_get _ e λhm=>by
  have q:(H b).isSome=true:=(bAC.mp hm).2;rw [n] at q;simp at q
theorem aOD {h:Heap} {H:Hp} {b:bAO} {o:Obj} (e:(wI h H).get? b=some o):h.get? b=some o/\H b=none:=by
 have e':h.get? b=some o:=W.of_hideAll (trk h H) e;refine ⟨e',?_⟩;cases q:H b with
 | none=>rfl
 | some x=>
  have hm:b∈trk h H:=bAC.mpr ⟨aZN.mpr (aG4 e'),by simp [q]⟩;have z:(wI h H).get? b=none:=W.hideAll_none (trk h H) hm;rw [z] at e;cases e
structure Mod (K:W.Frag) (mg:Str->Option Value) (base:Heap):Prop where
 kin:K.In base
 glob:base.Ns bAX mg
 blt:∃mb,base.Ns builtinsNs mb/\∀x:Str,x≠"__name__"->mb x=bA3 x
 nolimit:base.NoLimit
structure Cx where
 prog:bAR
 w:bAU
 K:W.Frag
 mg:Str->Option Value
 base:Heap
 A:Around
 N:List Str
 s₀:Shared
 H₀:Hp
 env:Env
 outer:List Env
 stack:List Env
 ex:List bAO
 fn:Str->Bool
 calm:Bool
 pn:List (bAO×Obj)
 xe:Value->Shared->Prop
def cS (l:List Env):List bAO:=l.filterMap (·.frame)
abbrev Cx.fs (X:Cx):List bAO:=cS X.outer
def Vis (sc:bA9) (x:Str):Prop:=sc.names.lookup x=some .local\/sc.names.lookup x=some .cell\/sc.names.lookup x=some .free
def yT (sc:bA9) (x:Str):Prop:=sc.names.lookup x=some .local\/sc.names.lookup x=some .cell
def aWW (env:Env) (h:Heap) (m:Str->Option Value) (x:Str) (u:Value):Prop:=
 (env.kindOf x=some .local/\m x=some u)\/((env.kindOf x=some .cell\/env.kindOf x=some .free)/\∃c,env.cells.lookup x=some c/\h.IsCell c (some u))
structure Cx.Ok (X:Cx):Prop where
 mod:Mod X.K X.mg X.base
 kind:X.env.scope.kind = .function
 glob:X.env.globals=bAX
 blt:X.env.builtins=builtinsNs
 above:X.s₀.heap.objs.size<=X.env.locals
 inj:∀x y c,X.env.cells.lookup x=some c->X.env.cells.lookup y=some c->x=y
 has:∀x,(X.env.kindOf x=some .cell\/X.env.kindOf x=some .free)->∃c,X.env.cells.lookup x=some c
 cab:∀x c,X.fn x=true->X.env.cells.lookup x=some c->X.s₀.heap.objs.size<=c
 hd:X.calm=true->X.A.handled=none
 frames:X.A.frames=some X.stack
 stk:X.stack=X.outer\/(X.stack=X.env::X.outer/\X.env.frame=some X.env.locals)
 exf:∀b∈X.ex,b≠X.env.locals/\∀x c,X.env.cells.lookup x=some c->c≠b
 bs:∀b o,X.base.get? b=some o->X.s₀.heap.get? b=some o/\X.H₀ b=none
 bsz:X.base.objs.size<=X.s₀.heap.objs.size
 noex:∀b o,X.base.get? b=some o->b∉X.ex
 exfs:∀b∈X.ex,b∉X.fs
 funs:X.s₀.heap.FunFrames X.base X.outer
 frf:∀b∈X.fs,X.H₀ b=none
structure aR (X:Cx) (pins:List (bAO×Obj)) (σ:List (Option V)) (H:Hp) (s:Shared):Prop where
 ok:X.Ok
 os:s.os=X.s₀.os
 bare:bBT s.gens
 base:Un X.fs X.ex X.H₀ H X.s₀.heap s.heap
 loc:∃m,s.heap.Ns X.env.locals m/\∀(i:Nat) (x:Str) (v:V),X.N[i]? = some x->σ[i]? = some (some v)->Vis X.env.scope x->∃u,bC v u/\aWW X.env s.heap m x u
 cell:∀x c,X.env.cells.lookup x=some c->∃v,s.heap.IsCell c v
 free:H X.env.locals=none
 freeC:∀x c,X.env.cells.lookup x=some c->H c=none
 pin:∀p∈X.pn++pins,s.heap.get? p.1=some p.2/\H p.1=none/\p.1≠X.env.locals/\p.1∉X.fs/\∀v,p.2.data≠.cell v
 hok:iO X.prog X.w H s.heap
 len:σ.length=X.N.length
section
variable {X:Cx} {pins:List (bAO×Obj)} {σ:List (Option V)} {H H':Hp} {s:Shared} {h':Heap}
theorem Cx.Ok.nofr (ok:X.Ok) {b:bAO} {o:Obj} (e:X.base.get? b=some o):b∉X.fs:=λhb=>by
 have:=(ok.funs.mem hb).1;rw [e] at this;cases this
theorem aR.bs (I:aR X pins σ H s):∀b o,X.base.get? b=some o->s.heap.get? b=some o/\H b=none:=λb o e=>
 ⟨I.base.keep b o (I.ok.bs b o e).1 (I.ok.bs b o e).2 (I.ok.nofr e) (I.ok.noex b o e),I.base.free b o (I.ok.bs b o e).1 (I.ok.bs b o e).2 (I.ok.noex b o e)⟩
theorem aR.bk (I:aR X pins σ H s):∀b o,X.base.get? b=some o->s.heap.get? b=some o:=λb o e=>(I.bs b o e).1
theorem aR.mod (I:aR X pins σ H s):Mod X.K X.mg X.base:=I.ok.mod
theorem aR.kIn (I:aR X pins σ H s):X.K.In s.heap:=I.ok.mod.kin.keeps I.bk
theorem aR.lt (I:aR X pins σ H s):X.env.locals<s.heap.objs.size:=let ⟨_,hn,_⟩:=I.loc;hn.lt
theorem aR.sz (I:aR X pins σ H s):X.s₀.heap.objs.size<=s.heap.objs.size:=aVD I.ok.above (aVY I.lt)
theorem aR.nofs (I:aR X pins σ H s) {a:bAO} (h:s.heap.objs.size<=a):a∉X.fs:=λhb=>by
 obtain ⟨_,o,ho,_⟩:=I.ok.funs.mem hb;exact absurd (aG3 (aG4 ho) (aVD I.sz h)) (Nat.lt_irrefl _)
theorem aR.cne (I:aR X pins σ H s):∀x c,X.env.cells.lookup x=some c->c≠X.env.locals:=λx c e z=>by
 obtain ⟨v,o,ho,hd⟩:=I.cell x c e;obtain ⟨m,⟨o',es,ep,ho',hd',_⟩,_⟩:=I.loc;rw [z,ho'] at ho;cases ho;rw [hd'] at hd;cases hd
theorem aR.funs (I:aR X pins σ H s):s.heap.FunFrames X.base X.outer:=by
 have all:∀(l:List Env),(∀b∈cS l,b∈X.fs)->X.s₀.heap.FunFrames X.base l->s.heap.FunFrames X.base l:=by
  intro l
  induction l with
  | nil=>intro _ _;trivial
  | cons env r ih=>
   intro hs hl;obtain ⟨hk,⟨L,o,hf,hn,ho,hd⟩,hr⟩:=hl;have hL:L∈X.fs:=hs L (by unfold cS;rw [aVZ,hf];exact aWI);obtain ⟨sl,e⟩:=I.base.slot L o ho (I.ok.frf L hL) hL λz=>I.ok.exfs L z hL;exact ⟨hk,⟨L,_,hf,hn,e,hd⟩,ih (λb hb=>hs b (by unfold cS;rw [aVZ,hf];exact aJF _ hb)) hr⟩
 exact all X.outer (λ_ hb=>hb) I.ok.funs
theorem aR.stack (I:aR X pins σ H s):s.heap.FunFrames X.base X.stack:=by
 rcases I.ok.stk with e | ⟨e,hf⟩
 ·rw [e];exact I.funs
 ·rw [e];obtain ⟨m,hn,_⟩:=I.loc;refine .cons (by rw [I.ok.kind];decide) hf hn ?_ I.funs;exact Heap.get?_none_of_le (aVD I.ok.bsz I.ok.above)
theorem aR.stkSub (I:aR X pins σ H s):∀b∈cS X.stack,b∈X.env.locals::X.fs:=λb hb=>by
 rcases I.ok.stk with e | ⟨e,hf⟩
 ·rw [e] at hb;exact aJF _ hb
 ·rw [e] at hb;unfold cS at hb;rw [aVZ,hf] at hb;exact hb
theorem aR.stkFree (I:aR X pins σ H s):∀b∈cS X.stack,H b=none:=λb hb=>by
 rcases aH1.mp (I.stkSub b hb) with e | hb
 ·rw [e];exact I.free
 ·obtain ⟨_,o,ho,_⟩:=I.ok.funs.mem hb;exact I.base.free b o ho (I.ok.frf b hb) λz=>I.ok.exfs b z hb
theorem aR.step {g':Array GenState} {t':Nat} {d':Drawn} {ch:List bAO} (I:aR X pins σ H s)
  (hch:∀b∈ch,(b∈X.ex\/X.s₀.heap.objs.size<=b)/\b≠X.env.locals/\(∀x c,X.env.cells.lookup x=some c->c≠b)/\∀p∈X.pn++pins,p.1≠b)
  (keep:∀b o,b≠X.env.locals->b∉X.fs->b∉ch->s.heap.get? b=some o->H b=none->h'.get? b=some o)
  (slot:∀b o,b≠X.env.locals->b∈X.fs->b∉ch->s.heap.get? b=some o->H b=none->∃sl,h'.get? b=some { o with slots:=sl }) (free:∀b o,b∉ch->s.heap.get? b=some o->H b=none->H' b=none)
  (there:∀b o,b∉ch->s.heap.get? b=some o->∃o',h'.get? b=some o')
  (tups:∀b xs,H b=some (.tup xs)->H' b=some (.tup xs)) (frzs:∀b o u,H b=some (.frz o u)->H' b=some (.frz o u)) (tbls:∀b ps,H b=some (.tbl ps)->∃more,H' b=some (.tbl (ps++more)))
  (ns:∀m,s.heap.Ns X.env.locals m->h'.Ns X.env.locals m) (hok:iO X.prog X.w H' h') (hg:bBT g') :
  aR X pins σ H' { s with heap:=h',gens:=g',drawn:=d',toks:=t' }:=by
 have neL:∀b o,X.s₀.heap.get? b=some o->b≠X.env.locals:=λb o e=>aTV (aG3 (aG4 e) I.ok.above);have neC:∀b o,X.s₀.heap.get? b=some o->b∉X.ex->b∉ch:=λb o e hx hb=>by
  rcases (hch b hb).1 with z | z
  ·exact hx z
  ·exact absurd (aG3 (aG4 e) z) (Nat.lt_irrefl _)
 have cellK:∀x c,X.env.cells.lookup x=some c->∀v,s.heap.IsCell c v->h'.IsCell c v:=λx c e v ⟨o,ho,hd⟩=>by
  have nch:c∉ch:=λz=>(hch c z).2.2.1 x c e rfl
  by_cases hc:c∈X.fs
  ·obtain ⟨sl,q⟩:=slot c o (I.cne x c e) hc nch ho (I.freeC x c e);exact ⟨_,q,hd⟩
  ·exact ⟨o,keep c o (I.cne x c e) hc nch ho (I.freeC x c e),hd⟩
 refine ⟨I.ok,I.os,hg,⟨λb o e n hb hx=>?_,λb o e n hb hx=>?_,λb o e n hx=>?_,λb o e hx=>?_,λb xs e=>tups b xs (I.base.tups b xs e),λb o xs e=>frzs b o xs (I.base.frzs b o xs e),λb ps e=>?_⟩,?_,λx c e=>?_,?_,λx c e=>?_,λp hp=>?_,hok,I.len⟩
 ·exact keep b o (neL b o e) hb (neC b o e hx) (I.base.keep b o e n hb hx) (I.base.free b o e n hx)
 ·obtain ⟨sl,e1⟩:=I.base.slot b o e n hb hx;obtain ⟨sl',e2⟩:=slot b _ (neL b o e) hb (neC b o e hx) e1 (I.base.free b o e n hx);exact ⟨sl',e2⟩
 ·obtain ⟨o',e1⟩:=I.base.there b o e hx;exact free b o' (neC b o e hx) e1 (I.base.free b o e n hx)
 ·obtain ⟨o',e1⟩:=I.base.there b o e hx;exact there b o' (neC b o e hx) e1
 ·obtain ⟨m1,e1⟩:=I.base.tbls b ps e;obtain ⟨m2,e2⟩:=tbls b _ e1;exact ⟨m1++m2,by rw [e2,Array.append_assoc]⟩
 ·obtain ⟨m,hn,hl⟩:=I.loc;refine ⟨m,ns m hn,λi x v e1 e2 e3=>?_⟩;obtain ⟨u,r,l⟩:=hl i x v e1 e2 e3;refine ⟨u,r,?_⟩;rcases l with l | ⟨k,c,e,z⟩
  ·exact .inl l
  ·exact .inr ⟨k,c,e,cellK x c e _ z⟩
 ·obtain ⟨v,z⟩:=I.cell x c e;exact ⟨v,cellK x c e v z⟩
 ·obtain ⟨m,⟨o,_,_,ho,_⟩,_⟩:=I.loc;exact free _ o (λz=>(hch _ z).2.1 rfl) ho I.free
 ·obtain ⟨v,o,ho,hd⟩:=I.cell x c e;exact free c o (λz=>(hch c z).2.2.1 x c e rfl) ho (I.freeC x c e)
 ·obtain ⟨e,n,ne,nf,d⟩:=I.pin p hp;have nch:p.1∉ch:=λz=>(hch p.1 z).2.2.2 p hp rfl;exact ⟨keep p.1 p.2 ne nf nch e n,free p.1 p.2 nch e n,ne,nf,d⟩
theorem aR.un {t':Nat} (I:aR X pins σ H s) (u:Un X.fs [] H H' s.heap h') (hok:iO X.prog X.w H' h'):aR X pins σ H' { s with heap:=h',toks:=t' }:=by
 obtain ⟨m,⟨o,es,ep,ho,r⟩,_⟩:=id I.loc;obtain ⟨sl,hL⟩:=u.any ho I.free (by simp);exact I.step (g':=s.gens) (d':=s.drawn) (ch:=[]) (λ_ z=>nomatch z) (λb o _ hb _ e n=>u.keep b o e n hb (by simp)) (λb o _ hb _ e n=>u.slot b o e n hb (by simp)) (λb o _ e n=>u.free b o e n (by simp)) (λb o _ e=>u.there b o e (by simp)) u.tups u.frzs u.tbls (λm' hm=>by
  obtain ⟨o',es',ep',ho',r'⟩:=hm;rw [ho] at ho';cases ho';exact ⟨_,es',ep',hL,r'⟩) hok I.bare
theorem aR.call {g':Array GenState} {t':Nat} {d':Drawn} {ch:List bAO} (I:aR X pins σ H s) (u:Un (cS X.stack) ch H H' s.heap h') (hok:iO X.prog X.w H' h') (hg:bBT g')
  (hch:∀b∈ch,(b∈X.ex\/X.s₀.heap.objs.size<=b)/\b≠X.env.locals/\(∀x c,X.env.cells.lookup x=some c->c≠b)/\∀p∈X.pn++pins,p.1≠b) :
  aR X pins σ H' { s with heap:=h',gens:=g',drawn:=d',toks:=t' }:=by
 obtain ⟨m,⟨o,es,ep,ho,r⟩,_⟩:=id I.loc;obtain ⟨sl,hL⟩:=u.any ho I.free λz=>(hch _ z).2.1 rfl;exact I.step (ch:=ch) hch (λb o hL hb hc e n=>u.keep b o e n (λz=>(aH1.mp (I.stkSub b z)).elim hL hb) hc) (λb o _ _ hc e n=>u.any e n hc) (λb o hc e n=>u.free b o e n hc) (λb o hc e=>u.there b o e hc) u.tups u.frzs u.tbls (λm' hm=>by
  obtain ⟨o',es',ep',ho',r'⟩:=hm;rw [ho] at ho';cases ho';exact ⟨_,es',ep',hL,r'⟩) hok hg
theorem aR.turned {t':Nat} {it:bAO} (I:aR X pins σ H s) (k:∀b o,b≠it->s.heap.get? b=some o->h'.get? b=some o) (hn:H it=none) (hL:it≠X.env.locals)
  (h1:it∈X.ex\/X.s₀.heap.objs.size<=it) (h2:∀x c,X.env.cells.lookup x=some c->c≠it) (h3:∀p∈X.pn++pins,p.1≠it):aR X pins σ H { s with heap:=h',toks:=t' }:=by
 have nit:∀b u,H b=some u->b≠it:=λb u e z=>by rw [z,hn] at e;cases e
 refine I.step (g':=s.gens) (d':=s.drawn) (ch:=[it]) (λb hb=>?_) (λb o _ _ hc e _=>k b o (λz=>hc (by simp [z])) e) (λb o _ _ hc e _=>⟨o.slots,k b o (λz=>hc (by simp [z])) e⟩) (λ_ _ _ _ n=>n)
  (λb o hc e=>⟨o,k b o (λz=>hc (by simp [z])) e⟩) (λ_ _ e=>e) (λ_ _ _ e=>e) (λb ps e=>⟨#[],by rw [e];simp⟩) (λm hm=>?_) (λb u e=>?_) I.bare
 ·have e:b=it:=by simpa using hb
  subst e;exact ⟨h1,hL,h2,h3⟩
 ·obtain ⟨o,es,ep,ho,r⟩:=hm;exact ⟨o,es,ep,k _ o (Ne.symm hL) ho,r⟩
 ·refine (I.hok b u e).stay (λc v hc q=>k c v ?_ q) (λ_ q=>q) λ_ _ q=>q;rcases hc with z | z
  ·rw [z];exact nit b u e
  ·exact nit c _ z
theorem aR.tok (I:aR X pins σ H s) (t:Nat):aR X pins σ H { s with toks:=t }:=I.un (h':=s.heap) (t':=t) Un.refl I.hok
theorem aR.kept {t':Nat} (I:aR X pins σ H s) (k:∀b u,s.heap.get? b=some u->h'.get? b=some u):aR X pins σ H { s with heap:=h',toks:=t' }:=I.un (Un.kept k) (I.hok.kept k)
theorem aR.laid {a:bAO} {o:HO} {t':Nat} (I:aR X pins σ H s) (k:∀b u,s.heap.get? b=some u->h'.get? b=some u) (hp:s.heap.objs.size<=a) (new:cP X.prog X.w (upd H a o) h' a o) :
  aR X pins σ (upd H a o) { s with heap:=h',toks:=t' }:=I.un (Un.laid k hp (I.hok.fresh hp)) (I.hok.laid k hp new)
theorem aR.write {x e:bAO} {o:HO} {t':Nat} (I:aR X pins σ H s) (mu:Mut (H x)) (he:e=x\/H e=some (.own x)) (k:∀b u,b≠e->s.heap.get? b=some u->h'.get? b=some u) (heo:∃u,h'.get? e=some u)
  (new:cP X.prog X.w (upd H x o) h' x o):aR X pins σ (upd H x o) { s with heap:=h',toks:=t' }:=I.un (Un.write mu he k heo) (I.hok.write mu he k heo new)
theorem aR.pins_of {pins':List (bAO×Obj)} (I:aR X pins σ H s) (h:∀p∈pins',s.heap.get? p.1=some p.2/\H p.1=none/\p.1≠X.env.locals/\p.1∉X.fs/\∀v,p.2.data≠.cell v):aR X pins' σ H s:=
 ⟨I.ok,I.os,I.bare,I.base,I.loc,I.cell,I.free,I.freeC,λp hp=>(aW2.mp hp).elim (λz=>I.pin p (aYW _ z)) (h p),I.hok,I.len⟩
theorem tM {N:List Str} (hN:N.Nodup) {i j:Nat} {x:Str} (a:N[i]? = some x) (b:N[j]? = some x):i=j:=by
 obtain ⟨h1,e1⟩:=aA8.mp a;obtain ⟨h2,e2⟩:=aA8.mp b;exact (List.getElem_inj hN).mp (e1.trans e2.symm)
theorem vL {M:Model} {A:Around} {E:Value->Shared->Prop} {i:Nat} {x:Str} {v:V} {u:Value} {Q:Unit->Shared->Prop} (I:aR X pins σ H s) (hN:X.N.Nodup) (hi:X.N[i]? = some x) (hx:yT X.env.scope x) (r:bC v u)
  (h:∀s',aR X pins (σ.set i (some v)) H s'->(∃a,aYR a s.heap s'.heap/\(a=X.env.locals\/X.env.cells.lookup x=some a))->Q () s') (hf:X.fn x=true\/X.env.scope.names.lookup x=some .local:=by first | exact .inl rfl | exact .inr rfl | assumption):bAQ M A (storeName X.env x u) Q E s:=by
 obtain ⟨m,hn,hl⟩:=id I.loc;have hcls:(X.env.scope.kind==.class||(X.env.scope.kind==.module&&X.env.locals != X.env.globals))=false:=by rw [I.ok.kind];rfl
 have hiσ:i<σ.length:=by rw [I.len];exact (aA8.mp hi).1
 have cne:=I.cne;have tracked:∀{a:bAO} {h':Heap},(∃o,s.heap.get? a=some o/\H a=none)->aYR a s.heap h'->iO X.prog X.w H h':=λ{a h'} ha hs b ob e=>by
  obtain ⟨_,_,hfree⟩:=ha;refine (I.hok b ob e).stay (λc w' hc q=>(hs.2 c ?_).trans q) (λ_ q=>q) λ_ _ q=>q;rintro rfl;rcases hc with rfl | hc
  ·rw [hfree] at e;cases e
  ·rw [hfree] at hc;cases hc
 rcases hx with hk | hk
 ·refine wpAny_storeName_local hk hn (λh' hn' hs=>?_) hcls;obtain ⟨oL,_,_,hoL,_⟩:=id hn;refine h _ ⟨I.ok,I.os,I.bare,⟨λb o e n hb hx=>?_,λb o e n hb hx=>?_,I.base.free,λb o e hx=>?_,I.base.tups,I.base.frzs,I.base.tbls⟩,⟨_,hn',λj y v' e1 e2 e3=>?_⟩,λy c e=>?_,I.free,I.freeC,λp hp=>?_,tracked ⟨oL,hoL,I.free⟩ hs,by simpa using I.len⟩ ⟨_,hs,.inl rfl⟩
  ·exact (hs.2 b (aTV (aG3 (aG4 e) I.ok.above))).trans (I.base.keep b o e n hb hx)
  ·obtain ⟨sl,e1⟩:=I.base.slot b o e n hb hx;exact ⟨sl,(hs.2 b (aTV (aG3 (aG4 e) I.ok.above))).trans e1⟩
  ·obtain ⟨o',e1⟩:=I.base.there b o e hx;exact ⟨o',(hs.2 b (aTV (aG3 (aG4 e) I.ok.above))).trans e1⟩
  ·by_cases hj:j=i
   ·subst hj;rw [hi] at e1;cases e1;rw [aVH hiσ] at e2;cases e2;exact ⟨u,r,.inl ⟨hk,by simp⟩⟩
   ·rw [aLL (Ne.symm hj)] at e2;obtain ⟨u',r',q⟩:=hl j y v' e1 e2 e3;refine ⟨u',r',?_⟩;rcases q with ⟨k,e⟩ | ⟨k,c,e,z⟩
    ·refine .inl ⟨k,?_⟩;have:y≠x:=λe=>hj (tM hN e1 (e ▸ hi));simp [this,e]
    ·exact .inr ⟨k,c,e,z.sameBut hs (cne y c e)⟩
  ·obtain ⟨w',z⟩:=I.cell y c e;exact ⟨w',z.sameBut hs (cne y c e)⟩
  ·obtain ⟨e,n,ne,nf,d⟩:=I.pin p hp;exact ⟨(hs.2 p.1 ne).trans e,n,ne,nf,d⟩
 ·have hfn:X.fn x=true:=by
   rcases hf with z | z
   ·exact z
   ·rw [z] at hk;cases hk
  obtain ⟨c,hc⟩:=I.ok.has x (.inl hk);obtain ⟨w',z⟩:=I.cell x c hc;refine wpAny_storeName_cell I.ok.kind hk hc z (λh' hc' hs=>?_);obtain ⟨oc,hoc,hocd⟩:=id z;refine h { s with heap:=h' } ⟨I.ok,I.os,I.bare,⟨λb o e n hb hx=>?_,λb o e n hb hx=>?_,I.base.free,λb o e hx=>?_,I.base.tups,I.base.frzs,I.base.tbls⟩,⟨m,hn.sameBut hs (Ne.symm (cne x c hc)),λj y v' e1 e2 e3=>?_⟩,λy c' e=>?_,I.free,I.freeC,λp hp=>?_,tracked ⟨oc,hoc,I.freeC x c hc⟩ hs,by simpa using I.len⟩ ⟨c,hs,.inr hc⟩
  ·exact (hs.2 b (aTV (aG3 (aG4 e) (I.ok.cab x c hfn hc)))).trans (I.base.keep b o e n hb hx)
  ·obtain ⟨sl,e1⟩:=I.base.slot b o e n hb hx;exact ⟨sl,(hs.2 b (aTV (aG3 (aG4 e) (I.ok.cab x c hfn hc)))).trans e1⟩
  ·obtain ⟨o',e1⟩:=I.base.there b o e hx;exact ⟨o',(hs.2 b (aTV (aG3 (aG4 e) (I.ok.cab x c hfn hc)))).trans e1⟩
  ·by_cases hj:j=i
   ·subst hj;rw [hi] at e1;cases e1;rw [aVH hiσ] at e2;cases e2;exact ⟨u,r,.inr ⟨.inl hk,c,hc,hc'⟩⟩
   ·rw [aLL (Ne.symm hj)] at e2;obtain ⟨u',r',q⟩:=hl j y v' e1 e2 e3;refine ⟨u',r',?_⟩;rcases q with q | ⟨k,c',e,z'⟩
    ·exact .inl q
    ·refine .inr ⟨k,c',e,z'.sameBut hs ?_⟩;rintro rfl;exact hj (tM hN e1 (I.ok.inj _ _ _ e hc ▸ hi))
  ·by_cases hcc:c'=c
   ·subst hcc;exact ⟨_,hc'⟩
   ·obtain ⟨w2,z2⟩:=I.cell y c' e;exact ⟨w2,z2.sameBut hs hcc⟩
  ·obtain ⟨e,n,ne,nf,d⟩:=I.pin p hp;refine ⟨(hs.2 p.1 ?_).trans e,n,ne,nf,d⟩;intro q;rw [q,hoc] at e;have q':oc=p.2:=Option.some.inj e;exact d w' (by rw [<-q'];exact hocd)
theorem dY {M:Model} {A:Around} {E:Value->Shared->Prop} {i:Nat} {x:Str} {v:V} {u:Value} {Q:Unit->Shared->Prop} (I:aR X pins σ H s) (hN:X.N.Nodup) (hi:X.N[i]? = some x) (hx:yT X.env.scope x) (r:bC v u)
  (h:∀s',aR X pins (σ.set i (some v)) H s'->Q () s') (hf:X.fn x=true\/X.env.scope.names.lookup x=some .local:=by first | exact .inl rfl | exact .inr rfl | assumption):bAQ M A (storeName X.env x u) Q E s:=
 vL I hN hi hx r (λs' I' _=>h s' I') hf
theorem aR.call' {s':Shared} {ch:List bAO} (I:aR X pins σ H s) (ho:s'.os=s.os) (u:Un (cS X.stack) ch H H' s.heap s'.heap) (hok:iO X.prog X.w H' s'.heap) (hg:bBT s'.gens)
  (hch:∀b∈ch,(b∈X.ex\/X.s₀.heap.objs.size<=b)/\b≠X.env.locals/\(∀x c,X.env.cells.lookup x=some c->c≠b)/\∀p∈X.pn++pins,p.1≠b):aR X pins σ H' s':=by
 obtain ⟨h',g',d',t',o'⟩:=s';have e:o'=s.os:=ho;subst e;exact I.call (g':=g') (t':=t') (d':=d') u hok hg hch
end
abbrev XK:=Value->Option bAO->Hp->Prop
abbrev St:=List (Option V)
abbrev VK:=V->Hp->Prop
abbrev TE:=St->Hp->VK->Prop
abbrev TT:=St->Hp->(Bool->Hp->Prop)->Prop
abbrev TA:=St->Hp->(List V->Hp->Prop)->Prop
structure aA0 where
 nx:St->Hp->Prop
 rt:VK
 bk:St->Hp->Prop:=λ_ _=>False
 ct:St->Hp->Prop:=λ_ _=>False
abbrev TS:=aA0->St->Hp->Prop
def EP (X:Cx) (pins:List (bAO×Obj)) (σ:St) (Q:VK) (u:Value) (s':Shared):Prop:=∃v H',aR X pins σ H' s'/\bC v u/\Q v H'
def TP (X:Cx) (pins:List (bAO×Obj)) (σ:St) (Q:Bool->Hp->Prop) (b:Bool) (s':Shared):Prop:=∃H',aR X pins σ H' s'/\Q b H'
def AP (X:Cx) (pins:List (bAO×Obj)) (σ:St) (Q:List V->Hp->Prop) (us:List Value) (s':Shared):Prop:=∃vs H',aR X pins σ H' s'/\bA vs us/\Q vs H'
def SP (X:Cx) (pins:List (bAO×Obj)) (D:aA0) (f:Flow) (s':Shared):Prop:=
 match f with
 | .next=>∃σ' H',aR X pins σ' H' s'/\D.nx σ' H'
 | .brk=>∃σ' H',aR X pins σ' H' s'/\D.bk σ' H'
 | .cont=>∃σ' H',aR X pins σ' H' s'/\D.ct σ' H'
 | .ret u=>∃v σ' H',aR X pins σ' H' s'/\bC v u/\D.rt v H'
def PE (X:Cx) (e:Expr) (t:TE):Prop:=
 ∀(pins:List (bAO×Obj)) (s:Shared) (σ:St) (H:Hp) (Q:VK),aR X pins σ H s->t σ H Q->bAQ (bAV X.prog X.w) X.A (bA2 e X.env) (EP X pins σ Q) X.xe s
def PT (X:Cx) (e:Expr) (t:TT):Prop:=
 ∀(pins:List (bAO×Obj)) (s:Shared) (σ:St) (H:Hp) (Q:Bool->Hp->Prop),aR X pins σ H s->t σ H Q->bAQ (bAV X.prog X.w) X.A (isTrue e X.env (bA2 e X.env)) (TP X pins σ Q) X.xe s
def PW (X:Cx) (e:Expr) (t:TT):Prop:=
 ∀(whole:Sem Value) (pins:List (bAO×Obj)) (s:Shared) (σ:St) (H:Hp) (Q:Bool->Hp->Prop),aR X pins σ H s->t σ H Q->bAQ (bAV X.prog X.w) X.A (isTrue e X.env whole) (TP X pins σ Q) X.xe s
theorem PW.pt {X:Cx} {e:Expr} {t:TT} (h:PW X e t):PT X e t:=h _
def PA (X:Cx) (es:List Expr) (t:TA):Prop:=
 ∀(pos:Pos) (pins:List (bAO×Obj)) (s:Shared) (σ:St) (H:Hp) (Q:List V->Hp->Prop),aR X pins σ H s->t σ H Q->bAQ (bAV X.prog X.w) X.A (spliced (bBA pos (bA0 es X.env))) (AP X pins σ Q) X.xe s
def PS (X:Cx) (st:bAY) (t:TS):Prop:=
 ∀(pins:List (bAO×Obj)) (s:Shared) (σ:St) (H:Hp) (D:aA0),aR X pins σ H s->t D σ H->bAQ (bAV X.prog X.w) X.A (exec st X.env) (SP X pins D) X.xe s
def PSs (X:Cx) (st:List bAY) (t:TS):Prop:=
 ∀(pins:List (bAO×Obj)) (s:Shared) (σ:St) (H:Hp) (D:aA0),aR X pins σ H s->t D σ H->bAQ (bAV X.prog X.w) X.A (execs st X.env) (SP X pins D) X.xe s
theorem b9 {α:Type} {t:Sem α} {Q Q':α->Shared->Prop} {M:Model} {A:Around} {E:Value->Shared->Prop} {s:Shared} (h:bAQ M A t Q E s) (hQ:∀a s,Q a s->Q' a s):bAQ M A t Q' E s:=bA8 h hQ λ_ _ x=>x
section
variable {X:Cx}
def aVL (i:Nat):TE:=λσ H Q=>∃v,σ[i]? = some (some v)/\Q v H
def tC (v:V):TE:=λ_ H Q=>Q v H
theorem aR7 {i:Nat} {x:Str} {pos:Pos} (hN:X.N[i]? = some x) (hv:Vis X.env.scope x) (hd:(x==("__debug__":Str))=false:=by decide) (hcd:(x==("__classdict__":Str))=false:=by decide):PE X (.Name x pos) (aVL i):=by
 intro pins s σ H Q I h;obtain ⟨v,e,h⟩:=h;obtain ⟨m,hn,hl⟩:=I.loc;obtain ⟨u,r,l⟩:=hl i x v hN e hv;have fin:EP X pins σ Q u s:=⟨v,H,I,r,h⟩;rcases l with ⟨hk,hm⟩ | ⟨hk,c,hc,hcell⟩
 ·exact wpAny_Name (wpAny_loadName_local I.ok.kind hk hn hm fin) hd
 ·rcases hk with hk | hk
  ·exact wpAny_Name (wpAny_loadName_cell I.ok.kind hk hc hcell fin) hd
  ·exact wpAny_Name (wpAny_loadName_free I.ok.kind hk hc hcell fin hcd) hd
theorem aPW {i j pos}:PE X (.Constant (.int i) j pos) (tC (.int i)):=λ_ _ _ H _ I h=>wpAny_Constant_int ⟨.int i,H,I.tok _,⟨_,rfl⟩,h⟩
theorem aUI {b j pos}:PE X (.Constant (.bool b) j pos) (tC (.bl b)):=λ_ _ _ H _ I h=>Constant_bool ⟨.bl b,H,I,rfl,h⟩
theorem aSN {j pos}:PE X (.Constant .none j pos) (tC .non):=λ_ _ _ H _ I h=>Constant_none ⟨.non,H,I,rfl,h⟩
theorem aJ0 {x j pos}:PE X (.Constant (.str x) j pos) (tC (.str x)):=λ_ _ _ H _ I h=>Calls.Constant_str ⟨.str x,H,I.tok _,⟨_,rfl⟩,h⟩
def Gl (X:Cx) (x:Str):Prop:=X.env.kindOf x=some .globalImplicit
theorem fG {E:Value->Shared->Prop} {pins:List (bAO×Obj)} {s:Shared} {σ:St} {H:Hp} {x:Str} {u:Value} {pos:Pos} {Q:Value->Shared->Prop} (I:aR X pins σ H s) (hg:Gl X x) (hm:X.mg x=some u) (h:Q u s)
  (hd:(x==("__debug__":Str))=false:=by decide):bAQ (bAV X.prog X.w) X.A (bA2 (.Name x pos) X.env) Q E s:=
 Calls.Name_function_global I.ok.kind hg (Calls.loadGlobal_global (by rw [I.ok.glob];exact I.mod.glob.keeps I.bk) hm h) hd
theorem mH {E:Value->Shared->Prop} {pins:List (bAO×Obj)} {s:Shared} {σ:St} {H:Hp} {x:Str} {u:Value} {pos:Pos} {Q:Value->Shared->Prop} (I:aR X pins σ H s) (hg:Gl X x) (hm:X.mg x=none) (hv:bA3 x=some u) (h:Q u s)
  (hn:x≠"__name__":=by decide) (hd:(x==("__debug__":Str))=false:=by decide):bAQ (bAV X.prog X.w) X.A (bA2 (.Name x pos) X.env) Q E s:=by
 obtain ⟨mb,h1,h2⟩:=I.mod.blt;exact Calls.Name_function_global I.ok.kind hg (Calls.loadGlobal_builtin (by rw [I.ok.glob];exact I.mod.glob.keeps I.bk) hm (by rw [I.ok.blt];exact h1.keeps I.bk) ((h2 x hn).trans hv) h) hd
theorem aEF {x:Str} {v:V} {u:Value} {pos:Pos} (hg:Gl X x) (hm:X.mg x=some u) (r:bC v u) (hd:(x==("__debug__":Str))=false:=by decide):PE X (.Name x pos) (tC v):=
 λ_ _ _ H _ I h=>fG I hg hm ⟨v,H,I,r,h⟩ hd
theorem xT {x:Str} {v:V} {u:Value} {pos:Pos} (hg:Gl X x) (hm:X.mg x=none) (hv:bA3 x=some u) (r:bC v u) (hn:x≠"__name__":=by decide) (hd:(x==("__debug__":Str))=false:=by decide):PE X (.Name x pos) (tC v):=
 λ_ _ _ H _ I h=>mH I hg hm hv ⟨v,H,I,r,h⟩ hn hd
variable {a b:Expr} {ta tb:TE} {pos:Pos}
def tB (t:TE):TT:=λσ H Q=>t σ H λx H1=>∃c,x = .bl c/\Q c H1
theorem aR1 {e:Expr} {t:TE} (h:PE X e t) (he:∀whole,isTrue e X.env whole=(do let v <-whole;standAt e.pos;bBU [v] (truthy v)):=by intro _;rfl):PT X e (tB t):=by
 intro pins s σ H Q I hw;refine isTrue_plain (b9 (h pins s σ H _ I hw) λv s1 ⟨x,H1,I1,r1,q1⟩=>?_) (he _);obtain ⟨d,rfl,q⟩:=q1;cases r1;exact bBC ⟨H1,I1,q⟩
variable {tA tB':TT} {rest:List Expr}
def aVE (t u:TT):TT:=λσ H Q=>t σ H λc H1=>if c=true then u σ H1 Q else Q false H1
def tOr (t u:TT):TT:=λσ H Q=>t σ H λc H1=>if c=true then Q true H1 else u σ H1 Q
def aT8 (t:TT):TT:=λσ H Q=>t σ H λc H1=>Q (!c) H1
theorem aM7 (ha:PT X a tA):PW X (.BoolOp .And [a] pos) tA:=by
 intro wh pins s σ H Q I h;refine isTrue_and (b9 (ha pins s σ H Q I h) λc s1 e=>?_);cases c with
 | true=>exact isTrue_and_nil e
 | false=>exact e
theorem aPY (ha:PT X a tA):PW X (.BoolOp .Or [a] pos) tA:=by
 intro wh pins s σ H Q I h;refine isTrue_or (b9 (ha pins s σ H Q I h) λc s1 e=>?_);cases c with
 | false=>exact isTrue_or_nil e
 | true=>exact e
theorem aRA (ha:PT X a tA) (hb:PW X (.BoolOp .And (b::rest) pos) tB'):PW X (.BoolOp .And (a::b::rest) pos) (aVE tA tB'):=by
 intro wh pins s σ H Q I h;refine isTrue_and (b9 (ha pins s σ H _ I h) λc s1 ⟨H1,I1,q1⟩=>?_);cases c with
 | true=>exact hb wh pins s1 σ H1 Q I1 q1
 | false=>exact ⟨H1,I1,q1⟩
theorem aTR (ha:PT X a tA) (hb:PW X (.BoolOp .Or (b::rest) pos) tB'):PW X (.BoolOp .Or (a::b::rest) pos) (tOr tA tB'):=by
 intro wh pins s σ H Q I h;refine isTrue_or (b9 (ha pins s σ H _ I h) λc s1 ⟨H1,I1,q1⟩=>?_);cases c with
 | true=>exact ⟨H1,I1,q1⟩
 | false=>exact hb wh pins s1 σ H1 Q I1 q1
theorem aP7 (ha:PT X a tA):PT X (.UnaryOp .Not a pos) (aT8 tA):=by
 intro pins s σ H Q I h;exact isTrue_not (ha pins s σ H (λc H1=>Q (!c) H1) I h)
def aPA (ta tb:TE):TE:=λσ H Q=>ta σ H λx H1=>∃c,x = .bl c/\if c=true then tb σ H1 Q else Q (.bl false) H1
def aVO (ta tb:TE):TE:=λσ H Q=>ta σ H λx H1=>∃c,x = .bl c/\if c=true then Q (.bl true) H1 else tb σ H1 Q
def aOY (ta:TE):TE:=λσ H Q=>ta σ H λx H1=>∃c,x = .bl c/\Q (.bl (!c)) H1
theorem aPR {op} {t:TE} (h:PE X a t):PE X (.BoolOp op [a] pos) t:=λpins s σ H Q I hw=>BoolOp_one (h pins s σ H Q I hw)
theorem aQ7 (ha:PE X a ta) (hb:PE X (.BoolOp .And (b::rest) pos) tb):PE X (.BoolOp .And (a::b::rest) pos) (aPA ta tb):=by
 intro pins s σ H Q I h;refine BoolOp_and (b9 (ha pins s σ H _ I h) λv s1 ⟨x,H1,I1,r1,q1⟩=>?_);obtain ⟨c,rfl,q1⟩:=q1;cases r1;refine bBC ?_;cases c with
 | true=>exact hb pins s1 σ H1 Q I1 q1
 | false=>exact ⟨.bl false,H1,I1,rfl,q1⟩
theorem aSZ (ha:PE X a ta) (hb:PE X (.BoolOp .Or (b::rest) pos) tb):PE X (.BoolOp .Or (a::b::rest) pos) (aVO ta tb):=by
 intro pins s σ H Q I h;refine BoolOp_or (b9 (ha pins s σ H _ I h) λv s1 ⟨x,H1,I1,r1,q1⟩=>?_);obtain ⟨c,rfl,q1⟩:=q1;cases r1;refine bBC ?_;cases c with
 | false=>exact hb pins s1 σ H1 Q I1 q1
 | true=>exact ⟨.bl true,H1,I1,rfl,q1⟩
theorem aP2 (ha:PE X a ta):PE X (.UnaryOp .Not a pos) (aOY ta):=by
 intro pins s σ H Q I h;refine UnaryOp_ (b9 (ha pins s σ H _ I h) λv s1 ⟨x,H1,I1,r1,q1⟩=>?_);obtain ⟨c,rfl,q1⟩:=q1;cases r1;exact not_of (bBC ⟨.bl (!c),H1,I1,rfl,q1⟩)
def tIf (t:TT) (ta tb:TE):TE:=λσ H Q=>t σ H λc H1=>if c=true then ta σ H1 Q else tb σ H1 Q
theorem aKK {c:Expr} (hc:PT X c tA) (ha:PE X a ta) (hb:PE X b tb):PE X (.IfExp c a b pos) (tIf tA ta tb):=by
 intro pins s σ H Q I h;refine wpAny_IfExp (b9 (hc pins s σ H _ I h) λd s1 ⟨H1,I1,q1⟩=>?_);cases d with
 | true=>exact ha pins s1 σ H1 Q I1 q1
 | false=>exact hb pins s1 σ H1 Q I1 q1
end
def kF (K:W.Frag) (H:Hp) (a:bAO) (xs:List V):Prop:=
 Rd H a (.lst xs)\/
  ∃(o:Obj) (its:Array Value) (n:Nat),K.lookup a=some o/\o.cls = .type "list"/\o.dict=none/\o.data = .seq its n/\its.size<=bAW/\bA xs its.toList
def tP (K:W.Frag) (H:Hp) (a:bAO) (xs:List V):Prop:=
 Rd H a (.tup xs)\/
  ∃(o:Obj) (its:Array Value) (n:Nat),K.lookup a=some o/\o.cls = .type "tuple"/\o.data = .seq its n/\its.size<=bAW/\bA xs its.toList
def aWR:Value->Option V
 | .none=>some .non
 | .bool b=>some (.bl b)
 | .int i _=>some (.int i)
 | .str x _=>some (.str x)
 | .bytes b _=>some (.byt b)
 | .float b _=>some (.flt b)
 | .ref a=>some (.ref a)
 | .type n=>some (.ty n)
 | _=>none
theorem bC.abs {x:V} {u:Value} (r:bC x u):aWR u=some x:=by
 cases x with
 | non=>cases r;rfl
 | bl _=>cases r;rfl
 | int _=>obtain ⟨t,rfl⟩:=r;rfl
 | str _=>obtain ⟨t,rfl⟩:=r;rfl
 | byt _=>obtain ⟨t,rfl⟩:=r;rfl
 | flt _=>obtain ⟨t,rfl⟩:=r;rfl
 | ref _=>cases r;rfl
 | ty _=>cases r;rfl
theorem bC.inj {x y:V} {u:Value} (r:bC x u) (q:bC y u):x=y:=Option.some.inj (r.abs.symm.trans q.abs)
theorem bA.inj:∀{xs ys:List V} {us:List Value},bA xs us->bA ys us->xs=ys
 | _,_,_,.nil,.nil=>rfl
 | _,_,_,.cons r t,.cons r' t'=>by rw [r.inj r',bA.inj t t']
section
variable {X:Cx} {pins:List (bAO×Obj)} {σ:St} {H:Hp} {s:Shared} {a:bAO} {xs ys:List V}
theorem kF.of {K:W.Frag} (h:H a=some (.lst xs)):kF K H a xs:=.inl (.inl h)
theorem tP.of {K:W.Frag} (h:H a=some (.tup xs)):tP K H a xs:=.inl (.inl h)
theorem aR.list (I:aR X pins σ H s) (h:kF X.K H a xs):∃its:List Value,bA xs its/\PlainL s.heap a its.toArray/\xs.length<=bAW:=by
 rcases h with h | ⟨o,its,n,hk,hc,hd,hs,hz,r⟩
 ·obtain ⟨z,its,n,r,e⟩:=h.ok I.hok;exact ⟨its,r,⟨_,n,e,rfl,rfl,rfl⟩,z⟩
 ·refine ⟨its.toList,r,⟨o,n,I.kIn a o hk,hc,hd,by simpa using hs⟩,?_⟩;have e:=r.length;simp only [Array.length_toList] at e;omega
theorem aR.tuple (I:aR X pins σ H s) (h:tP X.K H a xs):∃its:List Value,bA xs its/\IsTup s.heap a its.toArray/\xs.length<=bAW:=by
 rcases h with h | ⟨o,its,n,hk,hc,hs,hz,r⟩
 ·obtain ⟨z,its,r,p⟩:=h.ok I.hok;exact ⟨its,r,p,z⟩
 ·refine ⟨its.toList,r,⟨o,I.kIn a o hk,hc,n,by simpa using hs⟩,?_⟩;have e:=r.length;simp only [Array.length_toList] at e;omega
theorem aR.list_inj (I:aR X pins σ H s) (h:kF X.K H a xs) (h':kF X.K H a ys):xs=ys:=by
 obtain ⟨its,r,⟨o,n,e,_,_,d⟩,_⟩:=I.list h;obtain ⟨its',r',⟨o',n',e',_,_,d'⟩,_⟩:=I.list h';rw [e] at e';cases e';rw [d] at d';injection d' with d1 _;have:its=its':=by simpa using congrArg Array.toList d1
 subst this;exact r.inj r'
theorem aR.tuple_inj (I:aR X pins σ H s) (h:tP X.K H a xs) (h':tP X.K H a ys):xs=ys:=by
 obtain ⟨its,r,⟨o,e,_,n,d⟩,_⟩:=I.tuple h;obtain ⟨its',r',⟨o',e',_,n',d'⟩,_⟩:=I.tuple h';rw [e] at e';cases e';rw [d] at d';injection d' with d1 _;have:its=its':=by simpa using congrArg Array.toList d1
 subst this;exact r.inj r'
end
abbrev Cx.wish (X:Cx) (E:Value->Shared->Prop):Cx:={ X with xe:=E }
abbrev Cx.nox (X:Cx):Cx:=X.wish λ_ _=>False
theorem Cx.Ok.wish {X:Cx} (ok:X.Ok) (E:Value->Shared->Prop):(X.wish E).Ok:=
 ⟨ok.mod,ok.kind,ok.glob,ok.blt,ok.above,ok.inj,ok.has,ok.cab,ok.hd,ok.frames,ok.stk,ok.exf,ok.bs,ok.bsz,ok.noex,ok.exfs,ok.funs,ok.frf⟩
theorem Cx.Ok.unwish {X:Cx} {E:Value->Shared->Prop} (ok:(X.wish E).Ok):X.Ok:=
 ⟨ok.mod,ok.kind,ok.glob,ok.blt,ok.above,ok.inj,ok.has,ok.cab,ok.hd,ok.frames,ok.stk,ok.exf,ok.bs,ok.bsz,ok.noex,ok.exfs,ok.funs,ok.frf⟩
section
variable {X:Cx} {pins:List (bAO×Obj)} {σ:St} {H:Hp} {s:Shared} {E:Value->Shared->Prop}
theorem aR.wish (I:aR X pins σ H s) (E:Value->Shared->Prop):aR (X.wish E) pins σ H s:=⟨I.ok.wish E,I.os,I.bare,I.base,I.loc,I.cell,I.free,I.freeC,I.pin,I.hok,I.len⟩
theorem aR.unwish (I:aR (X.wish E) pins σ H s):aR X pins σ H s:=⟨I.ok.unwish,I.os,I.bare,I.base,I.loc,I.cell,I.free,I.freeC,I.pin,I.hok,I.len⟩
theorem SP.unwish {D:aA0} {f:Flow} {s':Shared} (h:SP (X.wish E) pins D f s'):SP X pins D f s':=by
 cases f with
 | next=>obtain ⟨σ',H',I,q⟩:=h;exact ⟨σ',H',I.unwish,q⟩
 | brk=>obtain ⟨σ',H',I,q⟩:=h;exact ⟨σ',H',I.unwish,q⟩
 | cont=>obtain ⟨σ',H',I,q⟩:=h;exact ⟨σ',H',I.unwish,q⟩
 | ret u=>obtain ⟨v,σ',H',I,r,q⟩:=h;exact ⟨v,σ',H',I.unwish,r,q⟩
theorem PSs.nox {st:List bAY} {t:TS} (h:PSs X.nox st t):PSs X st t:=λpins s σ H D I hw=>
 bA8 (h pins s σ H D (I.wish _) hw) (λ_ _ q=>q.unwish) λ_ _ z=>False.elim z
end
section
variable {X:Cx} {st:bAY} {rest:List bAY} {t u:TS} {e:Expr} {te:TE} {pos:Pos}
def aPJ:TS:=λD σ H=>D.nx σ H
def aU9 (t u:TS):TS:=λD σ H=>t { D with nx:=u D } σ H
theorem aLY:PSs X [] aPJ:=λ_ _ σ H _ I h=>bBL ⟨σ,H,I,h⟩
theorem aK8 (h1:PS X st t) (h2:PSs X rest u):PSs X (st::rest) (aU9 t u):=by
 intro pins s σ H D I h;refine bCB (b9 (h1 pins s σ H { D with nx:=u D } I h) λf s1 q=>?_);cases f with
 | next=>
  obtain ⟨σ',H',I',q⟩:=q;exact h2 pins s1 σ' H' D I' q
 | ret v=>exact q
 | brk=>exact q
 | cont=>exact q
theorem aOA (h1:PS X st t):PSs X [st] t:=by
 intro pins s σ H D I h;refine bCB (b9 (h1 pins s σ H D I h) λf s1 q=>?_);cases f with
 | next=>exact bBL q
 | ret v=>exact q
 | brk=>exact q
 | cont=>exact q
theorem aR.quiet {pins:List (bAO×Obj)} {σ:St} {H:Hp} {s:Shared} (I:aR X pins σ H s):interactive X.env=false:=by simp [interactive,I.ok.kind]
def aOZ (te:TE):TS:=λD σ H=>te σ H λ_ H1=>D.nx σ H1
theorem aNS (he:PE X e te) (hs:bBN e none pos.line X.env=pure false:=by rfl):PS X (.Expr e pos) (aOZ te):=by
 intro pins s σ H D I h;exact wpAny_Expr_any (b9 (he pins s σ H _ I h) λv s1 ⟨x,H1,I1,r1,q1⟩=>⟨σ,H1,I1,q1⟩) I.quiet hs
def aTF (te:TE):TS:=λD σ H=>te σ H D.rt
theorem aRG (he:PE X e te):PS X (.Return (some e) pos) (aTF te):=by
 intro pins s σ H D I h;exact wpAny_Return_some (b9 (he pins s σ H _ I h) λv s1 ⟨x,H1,I1,r1,q1⟩=>⟨x,σ,H1,I1,r1,q1⟩)
def aT9 (c:TT) (t u:TS):TS:=λD σ H=>c σ H λb H1=>if b=true then t D σ H1 else u D σ H1
theorem aUE {c:Expr} {a b:List bAY} {tc:TT} (hc:PT X c tc) (ha:PSs X a t) (hb:PSs X b u):PS X (.If c a b pos) (aT9 tc t u):=by
 intro pins s σ H D I h;refine wpAny_If (b9 (hc pins s σ H _ I h) λd s1 ⟨H1,I1,q1⟩=>?_);cases d with
 | true=>exact ha pins s1 σ H1 D I1 q1
 | false=>exact hb pins s1 σ H1 D I1 q1
end
abbrev TG:=V->St->Hp->(St->Hp->Prop)->Prop
abbrev TGs:=List V->St->Hp->(St->Hp->Prop)->Prop
def PG (X:Cx) (target:Expr) (t:TG):Prop:=
 ∀(pins:List (bAO×Obj)) (s:Shared) (σ:St) (H:Hp) (v:V) (u:Value) (Q:St->Hp->Prop),aR X pins σ H s->bC v u->t v σ H Q->
  bAQ (bAV X.prog X.w) X.A (bB2 target X.env u) (λ_ s'=>∃σ' H',aR X pins σ' H' s'/\Q σ' H') X.xe s
def PGs (X:Cx) (ts:List Expr) (t:TGs):Prop:=
 ∀(pins:List (bAO×Obj)) (s:Shared) (σ:St) (H:Hp) (vs:List V) (us:List Value) (Q:St->Hp->Prop),aR X pins σ H s->bA vs us->t vs σ H Q->
  bAQ (bAV X.prog X.w) X.A (bCA ((bBB ts X.env).map (·.2)) us) (λ_ s'=>∃σ' H',aR X pins σ' H' s'/\Q σ' H') X.xe s
abbrev aNY:=V->V->V->Hp->(Hp->Prop)->Prop
def aPS (X:Cx) (t:aNY):Prop:=
 ∀(pins:List (bAO×Obj)) (s:Shared) (σ:St) (H:Hp) (o i v:V) (ov iv u:Value) (Q:Hp->Prop),aR X pins σ H s->bC o ov->bC i iv->bC v u->t o i v H Q->
  bAQ (bAV X.prog X.w) X.A (setItem ov iv u) (λ_ s'=>∃H',aR X pins σ H' s'/\Q H') X.xe s
abbrev TIp:=V->V->Hp->VK->Prop
def PIp (X:Cx) (op:bCJ) (t:TIp):Prop:=
 ∀(pins:List (bAO×Obj)) (s:Shared) (σ:St) (H:Hp) (x y:V) (v u:Value) (Q:VK),aR X pins σ H s->bC x v->bC y u->t x y H Q->
  bAQ (bAV X.prog X.w) X.A (inplaceOp op v u) (EP X pins σ Q) X.xe s
section
variable {X:Cx} {pos:Pos}
def zR (i:Nat):TG:=λv σ H Q=>Q (σ.set i (some v)) H
theorem aNF {i:Nat} {x:Str} (hN:X.N.Nodup) (hi:X.N[i]? = some x) (hx:yT X.env.scope x) (hf:X.fn x=true\/X.env.scope.names.lookup x=some .local:=by first | exact .inl rfl | exact .inr rfl | assumption):PG X (.Name x pos) (zR i):=by
 intro pins s σ H v u Q I r h;exact wpAny_assign_Name (dY I hN hi hx r (λs' I'=>⟨_,H,I',h⟩) hf)
def aU8:TGs:=λvs σ H Q=>vs=[]/\Q σ H
def aPH (t:TG) (u:TGs):TGs:=λvs σ H Q=>∃v r,vs=v::r/\t v σ H λσ' H'=>u r σ' H' Q
theorem aMC:PGs X [] aU8:=by
 intro pins s σ H vs us Q I r h;obtain ⟨e,h⟩:=h;subst e;cases r;exact bCO ⟨σ,H,I,h⟩
theorem aIV {e:Expr} {es:List Expr} {t:TG} {u:TGs} (h1:PG X e t) (h2:PGs X es u)
  (hs:(bBB (e::es) X.env).map (·.2)=bB2 e X.env::(bBB es X.env).map (·.2):=by rfl):PGs X (e::es) (aPH t u):=by
 intro pins s σ H vs us Q I r h;obtain ⟨v,vr,e1,h⟩:=h;subst e1;cases r with
 | cons r rr=>
  rw [hs];refine bBP (b9 (h1 pins s σ H _ _ _ I r h) λ_ s1 ⟨σ1,H1,I1,q1⟩=>?_);exact h2 pins s1 σ1 H1 _ _ Q I1 rr q1
def aU0 (K:W.Frag) (n:Nat) (t:TGs):TG:=λv σ H Q=>∃a xs,v = .ref a/\tP K H a xs/\xs.length=n/\t xs σ H Q
theorem aQZ {es:List Expr} {k:Nat} {t:TGs} {n:Nat} (hc:X.calm=true) (h:PGs X es t)
  (hn:(bBB es X.env).length=n:=by rfl) (hst:(bBB es X.env).findIdx? (·.1)=none:=by rfl):PG X (.Tuple es k pos) (aU0 X.K n t):=by
 intro pins s σ H v u Q I r hw;obtain ⟨a,xs,e1,hq,hl,hw⟩:=hw;subst e1;cases r;obtain ⟨its,rv,ht,hz⟩:=I.tuple hq;refine assign_Tuple_tuple (I.ok.hd hc) ht (by simp [hn,<-hl,rv.length]) hst λh' hx=>?_;have I1:aR X pins σ H { s with heap:=h' }:=I.kept (t':=s.toks) λb o e=>hx b o (aTV (aG4 e)) e;exact h pins _ σ H xs _ Q I1 (by simpa using rv) hw
def aUF (to ti:TE) (t:aNY):TG:=λv σ H Q=>to σ H λo H1=>ti σ H1 λi H2=>t o i v H2 λH3=>Q σ H3
theorem aQK {o i:Expr} {to ti:TE} {t:aNY} (ho:PE X o to) (hi:PE X i ti) (hs:aPS X t)
  (ha:∀v,bB2 (.Subscript o i pos) X.env v=(do
   let ov <-bBU [v] (bA2 o X.env)
   let iv <-bBU [v,ov] (bA2 i X.env)
   standAt pos
   bBU [v,ov,iv] (setItem ov iv v)
   release [v,ov,iv] []):=by intro _;rfl):PG X (.Subscript o i pos) (aUF to ti t):=by
 intro pins s σ H v u Q I r h;rw [ha];refine bAP (bBE (b9 (ho pins s σ H _ I h) λov s1 ⟨x,H1,I1,r1,q1⟩=>?_));refine bAP (bBE (b9 (hi pins s1 σ H1 _ I1 q1) λiv s2 ⟨y,H2,I2,r2,q2⟩=>?_));refine bAP (bBO (bAP (bBE (b9 (hs pins s2 σ H2 x y v ov iv u _ I2 r1 r2 r q2) λ_ s3 ⟨H3,I3,q3⟩=>?_))));exact wpAny_release ⟨σ,H3,I3,q3⟩
def aJK (te:TE) (g:TG):TS:=λD σ H=>te σ H λx H1=>g x σ H1 D.nx
theorem aPU {tg e:Expr} {te:TE} {g:TG} (he:PE X e te) (hg:PG X tg g) (hs:bBH [tg] e pos.line X.env=pure false:=by rfl) (hw:bBI [tg] e X.env=pure none:=by rfl)
  (h1:(bBB [tg] X.env).map (·.2)=[bB2 tg X.env]:=by rfl):PS X (.Assign [tg] e pos) (aJK te g):=by
 intro pins s σ H D I h;refine wpAny_Assign_stores (b9 (he pins s σ H _ I h) λv s1 ⟨x,H1,I1,r1,q1⟩=>?_) hs hw;rw [h1];exact b9 (hg pins s1 σ H1 x v _ I1 r1 q1) λ_ s2 q=>q
theorem aSH {i:Nat} {x:Str} {e:Expr} {te:TE} {pos':Pos} (hN:X.N.Nodup) (hi:X.N[i]? = some x) (hx:yT X.env.scope x) (he:PE X e te) (hs:bBN e (some (.Name x pos')) pos.line X.env=pure false:=by rfl) (hf:X.fn x=true\/X.env.scope.names.lookup x=some .local:=by first | exact .inl rfl | exact .inr rfl | assumption) :
  PS X (.Assign [.Name x pos'] e pos) (aJK te (zR i)):=by
 intro pins s σ H D I h;refine wpAny_Assign_Name (b9 (he pins s σ H _ I h) λv s1 ⟨y,H1,I1,r1,q1⟩=>?_) hs;exact dY I1 hN hi hx r1 (λs2 I2=>⟨_,H1,I2,q1⟩) hf
def aVM (i j:Nat) (ta:TA):TS:=λD σ H=>ta σ H λvs H1=>∃v w,vs=[v,w]/\D.nx ((σ.set i (some v)).set j (some w)) H1
theorem aP5 {i j:Nat} {x y:Str} {a b:Expr} {ta:TA} {px py pt:Pos} {kt k2 pt2} (hc:X.calm=true) (hN:X.N.Nodup) (hi:X.N[i]? = some x) (hj:X.N[j]? = some y) (hij:i≠j)
  (hx:X.env.scope.names.lookup x=some .local) (hy:X.env.scope.names.lookup y=some .local) (ha:PA X [a,b] ta)
  (hw:bBI [.Tuple [.Name x px,.Name y py] kt pt] (.Tuple [a,b] k2 pt2) X.env=pure (some [x,y]))
  (hs:bBH [.Tuple [.Name x px,.Name y py] kt pt] (.Tuple [a,b] k2 pt2) pos.line X.env=pure false:=by rfl) :
  PS X (.Assign [.Tuple [.Name x px,.Name y py] kt pt] (.Tuple [a,b] k2 pt2) pos) (aVM i j ta):=by
 intro pins s σ H D I h;rw [exec_Assign_arm];refine bAP (bBO ?_);rw [hs];refine bAP (bAT ?_);rw [if_neg (by decide)];refine bAP (Tuple_ (b9 (ha _ pins s σ H _ I h) λus s1 ⟨vs,H1,I1,r1,q1⟩=>?_));obtain ⟨v,w,e1,q1⟩:=q1;subst e1;obtain ⟨u1,u2,rfl,rv,rw'⟩:∃u1 u2,us=[u1,u2]/\bC v u1/\bC w u2:=by
  cases r1 with
  | cons p q=>
   cases q with
   | cons p' q'=>
    cases q';exact ⟨_,_,rfl,p,p'⟩
 refine bBM ?_ (by show 2<=bAW;decide);have I2:aR X pins σ H1 { s1 with heap:=s1.heap.push { cls:=.type "tuple",data:=.seq [u1,u2].toArray } }:=I1.kept (t':=s1.toks) λb o e=>aDZ _ e;rw [hw];refine bAP (bAT ?_);show bAQ (bAV X.prog X.w) X.A (do rule "assign.swapped-stores";let items <-unpackItems (.ref s1.heap.objs.size) 2 none;bCA [λv=>bBX X.env y v,λv=>bBX X.env x v] items.reverse;pure Flow.next) _ _ _;refine bAP (bCG (bAP (unpackItems_tuple (items:=#[u1,u2]) (I.ok.hd hc) (IsTup.new s1.heap _) λh' hx'=>?_)));have I3:=I2.kept (h':=h') (t':=s1.toks) λb o e=>hx' b o (aTV (aG4 e)) e;show bAQ _ _ (bCA [λv=>bBX X.env y v,λv=>bBX X.env x v] [u2,u1] >>= λ_=>pure Flow.next) _ _ _;refine bAP (bBP (bB6 (dY I3 hN hj (.inl hy) rw' (λs2 I4=>?_) (.inr hy))));refine bBP (bB6 (dY I4 hN hi (.inl hx) rv (λs3 I5=>bCO (bAT ?_)) (.inr hx)));rw [aX6 _ _ (Ne.symm hij)] at I5;exact ⟨_,H1,I5,q1⟩
def aXA (i:Nat) (te:TE) (ti:TIp):TS:=λD σ H=>∃x,σ[i]? = some (some x)/\te σ H λy H1=>ti x y H1 λz H2=>D.nx (σ.set i (some z)) H2
theorem aSA {i:Nat} {x:Str} {e:Expr} {te:TE} {op:bCJ} {ti:TIp} {pos':Pos} (hN:X.N.Nodup) (hi:X.N[i]? = some x) (hx:yT X.env.scope x) (he:PE X e te) (ho:PIp X op ti) (hf:X.fn x=true\/X.env.scope.names.lookup x=some .local:=by first | exact .inl rfl | exact .inr rfl | assumption) :
  PS X (.AugAssign (.Name x pos') op e pos) (aXA i te ti):=by
 intro pins s σ H D I h;obtain ⟨v,e1,h⟩:=h;obtain ⟨m,hn,hl⟩:=I.loc;have vis:Vis X.env.scope x:=by rcases hx with k | k;exact .inl k;exact .inr (.inl k)
 obtain ⟨u,r,l⟩:=hl i x v hi e1 vis;refine wpAny_AugAssign_Name ?_;have go:bAQ (bAV X.prog X.w) X.A (bA2 e X.env) (λw s₂=>bAQ (bAV X.prog X.w) X.A (inplaceOp op u w) (λr s₃=>bAQ (bAV X.prog X.w) X.A (storeName X.env x r) (λ_=>SP X pins D .next) X.xe s₃) X.xe s₂) X.xe s:=by
  refine b9 (he pins s σ H _ I h) λw s1 ⟨y,H1,I1,r1,q1⟩=>?_;refine b9 (ho pins s1 σ H1 v y u w _ I1 r r1 q1) λz s2 ⟨zv,H2,I2,r2,q2⟩=>?_;exact dY I2 hN hi hx r2 (λs3 I3=>⟨_,H2,I3,q2⟩) hf
 rcases l with ⟨hk,hm⟩ | ⟨hk,c,hc,hcell⟩
 ·exact wpAny_loadName_local I.ok.kind hk hn hm go
 ·rcases hk with hk | hk
  ·exact wpAny_loadName_cell I.ok.kind hk hc hcell go
  ·rcases hx with k | k
   ·have:X.env.scope.names.lookup x=some .free:=hk;rw [k] at this;cases this
   ·have:X.env.scope.names.lookup x=some .free:=hk;rw [k] at this;cases this
def ipI (f:Int->Int->Int):TIp:=λx y H Q=>∃i j,x = .int i/\y = .int j/\Q (.int (f i j)) H
theorem aIG:PIp X .Add (ipI λi j=>i+j):=by
 intro pins s σ H x y v u Q I r1 r2 h;obtain ⟨i,j,e1,e2,q⟩:=h;subst e1;subst e2;obtain ⟨t,rfl⟩:=r1;obtain ⟨t',rfl⟩:=r2;exact iadd_int ⟨.int _,H,I.tok _,⟨_,rfl⟩,q⟩
end
section
variable {X:Cx} {pos:Pos}
def x8 (c:TT) (tb:TS):TS:=λD σ H=>∃W:Nat->St->Hp->Prop,(∃m,W m σ H)/\∀m σ H,W m σ H->
 c σ H λb H1=>if b=true then ∃N:St->Hp->Prop,(∀σ' H',N σ' H'->∃m',m'<m/\W m' σ' H')/\tb { D with nx:=N,ct:=N,bk:=D.nx } σ H1 else D.nx σ H1
theorem aLC {c:Expr} {body:List bAY} {tc:TT} {tb:TS} (hp:PassesOwn (bAV X.prog X.w) X.A X.env X.xe) (hc:PT X c tc) (hb:PSs X body tb):PS X (.While c body [] pos) (x8 tc tb):=by
 intro pins s σ H D I h;obtain ⟨W,⟨m0,w0⟩,turn⟩:=h;refine wpAny_While (codeAny_whileLoop (λn s'=>∃σ' H',aR X pins σ' H' s'/\W n σ' H') ?_ m0 ⟨σ,H,I,w0⟩);rintro n s1 ⟨σ1,H1,I1,w1⟩;refine bBQ hp (b9 (hc pins s1 σ1 H1 _ I1 (turn n σ1 H1 w1)) λb s2 ⟨H2,I2,q2⟩=>?_);cases b with
 | true=>
  obtain ⟨N,hN,q2⟩:=q2;rw [if_pos rfl];refine bBQ hp (b9 (hb pins s2 σ1 H2 _ I2 q2) λf s3 q3=>?_);cases f with
  | next=>
   obtain ⟨σ3,H3,I3,n3⟩:=q3;obtain ⟨m',hm,w3⟩:=hN σ3 H3 n3;exact ⟨m',hm,σ3,H3,I3,w3⟩
  | cont=>
   obtain ⟨σ3,H3,I3,n3⟩:=q3;obtain ⟨m',hm,w3⟩:=hN σ3 H3 n3;exact ⟨m',hm,σ3,H3,I3,w3⟩
  | brk=>exact q3
  | ret v=>exact q3
 | false=>
  rw [if_neg aXS];exact bBL ⟨σ1,H2,I2,q2⟩
end
structure It where
 go:Nat->Hp->Prop
 yld:Nat->Hp->V->Hp->Prop
 stop:Nat->Hp->Prop
def lP (X:Cx) (pins:List (bAO×Obj)) (H:Hp) (b:bAO):Prop:=
 H b=none/\b≠X.env.locals/\b∉X.fs/\(b∈X.ex\/X.s₀.heap.objs.size<=b)/\(∀x c,X.env.cells.lookup x=some c->c≠b)/\∀p∈X.pn++pins,p.1≠b
theorem aR.fpOk {X:Cx} {pins:List (bAO×Obj)} {σ:St} {H H':Hp} {s:Shared} {b:bAO} (I:aR X pins σ H s) (hb:s.heap.objs.size<=b) (hn:H' b=none):lP X pins H' b:=by
 refine ⟨hn,aZV (aG3 I.lt hb),I.nofs hb,.inr (aVD I.sz hb),λx c e z=>?_,λp hp z=>?_⟩
 ·obtain ⟨v,q⟩:=I.cell x c e;exact absurd (aG3 q.lt (by rw [z];exact hb)) (Nat.lt_irrefl _)
 ·exact absurd (aG3 (aG4 (I.pin p hp).1) (by rw [z];exact hb)) (Nat.lt_irrefl _)
structure aCT (P:bAR) (w:bAU) (K:W.Frag) (tg:Expr) (J:It) (fp:List bAO) (it:bAO) (tn:Nat->Heap->Prop):Prop where
 mem:it∈fp
 obj:∀i h,tn i h->∀b∈fp,∃o,h.get? b=some o/\∀v,o.data≠.cell v
 keep:∀i h h',tn i h->(∀b∈fp,∀o,h.get? b=some o->h'.get? b=some o)->tn i h'
 item:∀(X:Cx),X.prog=P->X.w=w->X.K=K->X.calm=true->∀(i:Nat) (pins:List (bAO×Obj)) (s:Shared) (σ:St) (H:Hp) (E:Value->Shared->Prop),aR X pins σ H s->(∀b∈fp,lP X pins H b)->tn i s.heap->J.go i H->
  bAQ (bAV P w) X.A (pyNext (.ref it)) (λr s1=>∃u,r=some u/\
   bAQ (bAV P w) X.A (bB4 tg (.ref it) u) (λ_ s2=>∃x H',aR X pins σ H' s2/\bC x u/\J.yld i H x H'/\tn (i+1) s2.heap/\∀b∈fp,H' b=none) E s1) E s
 done:∀(X:Cx),X.prog=P->X.w=w->X.K=K->X.calm=true->∀(i:Nat) (pins:List (bAO×Obj)) (s:Shared) (σ:St) (H:Hp) (E:Value->Shared->Prop),aR X pins σ H s->(∀b∈fp,lP X pins H b)->tn i s.heap->J.stop i H->
  bAQ (bAV P w) X.A (pyNext (.ref it)) (λr s1=>r=none/\aR X pins σ H s1) E s
 self:∀(A:Around) (i:Nat) (s:Shared) (Q:Value->Shared->Prop) (E:Value->Shared->Prop),tn i s.heap->Q (.ref it) s->bAQ (bAV P w) A (pyIter (.ref it)) Q E s
abbrev TI:=St->Hp->(It->Hp->Prop)->Prop
def PIE (X:Cx) (pins:List (bAO×Obj)) (σ:St) (tg:Expr) (R:It->Hp->Prop) (itv:Value) (s2:Shared):Prop:=
 ∃(it:bAO) (fp:List bAO) (tn:Nat->Heap->Prop) (J:It) (H':Hp),itv = .ref it/\aR X pins σ H' s2/\aCT X.prog X.w X.K tg J fp it tn/\tn 0 s2.heap/\(∀b∈fp,lP X pins H' b)/\R J H'
def PI (X:Cx) (tg iter:Expr) (wi:TI):Prop:=
 ∀(pins:List (bAO×Obj)) (s:Shared) (σ:St) (H:Hp) (R:It->Hp->Prop),aR X pins σ H s->wi σ H R->
  bAQ (bAV X.prog X.w) X.A (bA2 iter X.env) (λv s1=>bAQ (bAV X.prog X.w) X.A (pyIter v) (PIE X pins σ tg R) X.xe s1) X.xe s
theorem aET {M:Model} {A:Around} {E:Value->Shared->Prop} {s:Shared} {tg:Expr} {it:bAO} {u:Value} {o:Obj} {n:String} {vs:Array Value} {Q:Unit->Shared->Prop} (ho:s.heap.get? it=some o) (hc:o.cls = .type n) (hd:o.data = .fields vs)
    (hn:["enumerate","zip","dict_itemiterator","dict_reverseitemiterator","odict_iterator","itertools.zip_longest","itertools.pairwise"].contains n=false) (hQ:Q () s):bAQ M A (bB4 tg (.ref it) u) Q E s:=by
  unfold bB4;cases tg<;>first
    | exact bAT hQ
    | (cases u<;>first
        | exact bAT hQ
        | (refine bAP (wpAny_load ho ?_)
           rw [hc,hd];show bAQ M A (if (["enumerate","zip","dict_itemiterator","dict_reverseitemiterator","odict_iterator","itertools.zip_longest","itertools.pairwise"].contains n&&vs[0]?==some (bA6 _))=true then _ else _) Q E s;rw [if_neg (by intro h;rw [hn,Bool.false_and] at h;cases h)];exact bAT hQ))
def Itl (K:W.Frag) (a:bAO):It:=
 ⟨λi H=>∃xs x,kF K H a xs/\xs[i]? = some x,λi H x H'=>H'=H/\∀xs,kF K H a xs->xs[i]? = some x,λi H=>∃xs,kF K H a xs/\xs.length<=i⟩
def Itt (K:W.Frag) (a:bAO):It:=
 ⟨λi H=>∃xs x,tP K H a xs/\xs[i]? = some x,λi H x H'=>H'=H/\∀xs,tP K H a xs->xs[i]? = some x,λi H=>∃xs,tP K H a xs/\xs.length<=i⟩
def Itr (lo:Int) (n:Nat):It:=⟨λi _=>i<n,λi H x H'=>H'=H/\x = .int (lo+i),λi _=>n<=i⟩
theorem aFS {P:bAR} {w:bAU} {K:W.Frag} {tg:Expr} (a it:bAO):aCT P w K tg (Itl K a) [it] it (λi h=>h.IsListIter it a i) where
 mem:=by simp
 obj:=λi h st b hb=>by
  have e:b=it:=by simpa using hb
  subst e;obtain ⟨o,e,c,d⟩:=st;exact ⟨o,e,λv z=>by rw [d] at z;cases z⟩
 keep:=λi h h' st k=>st.at λo e=>k it (by simp) o e
 item:=by
  intro X hP hw hK hc i pins s σ H E I hf st hg;subst hP hw hK;obtain ⟨xs,x,hq,hx⟩:=hg;obtain ⟨its,rv,p,hz⟩:=I.list hq;obtain ⟨u,hu,ru⟩:=rv.get hx;obtain ⟨f0,f1,f2,f3,f4,f5⟩:=hf it (by simp);refine wpAny_pyNext_list_item st p.isList (x:=u) (by simpa using hu) λh' st' sb=>?_;have I1:aR X pins σ H { s with heap:=h' }:=I.turned (t':=s.toks) (λb o hb e=>(sb.2 b hb).trans e) f0 f1 f3 f4 f5;obtain ⟨o,e,c,d⟩:=id st';exact ⟨u,rfl,aET (s:={ s with heap:=h' }) e c d (by decide) ⟨x,H,I1,ru,⟨rfl,λys hy=>by rw [I.list_inj hy hq];exact hx⟩,st',λb hb=>(hf b hb).1⟩⟩
 done:=by
  intro X hP hw hK hc i pins s σ H E I hf st hg;subst hP hw hK;obtain ⟨xs,hq,hx⟩:=hg;obtain ⟨its,rv,p,hz⟩:=I.list hq;obtain ⟨f0,f1,f2,f3,f4,f5⟩:=hf it (by simp);have hl:=rv.length;exact wpAny_pyNext_list_end (I.ok.hd hc) st p.isList (by simp;omega) λh' eb=>⟨rfl,I.turned (t':=s.toks) (λb o hb e=>eb b o hb e) f0 f1 f3 f4 f5⟩
 self:=λ_ _ _ _ _ st h=>wpAny_pyIter_listiter st h
theorem aBM {P:bAR} {w:bAU} {K:W.Frag} {tg:Expr} (a it:bAO):aCT P w K tg (Itt K a) [it] it (λi h=>h.IsTupleIter it a i) where
 mem:=by simp
 obj:=λi h st b hb=>by
  have e:b=it:=by simpa using hb
  subst e;obtain ⟨o,e,c,d⟩:=st;exact ⟨o,e,λv z=>by rw [d] at z;cases z⟩
 keep:=λi h h' st k=>st.at λo e=>k it (by simp) o e
 item:=by
  intro X hP hw hK hc i pins s σ H E I hf st hg;subst hP hw hK;obtain ⟨xs,x,hq,hx⟩:=hg;obtain ⟨its,rv,p,hz⟩:=I.tuple hq;obtain ⟨u,hu,ru⟩:=rv.get hx;obtain ⟨f0,f1,f2,f3,f4,f5⟩:=hf it (by simp);refine wpAny_pyNext_tuple_item st (show s.heap.IsTuple a its.toArray from p) (x:=u) (by simpa using hu) λh' st' sb=>?_;have I1:aR X pins σ H { s with heap:=h' }:=I.turned (t':=s.toks) (λb o hb e=>(sb.2 b hb).trans e) f0 f1 f3 f4 f5;obtain ⟨o,e,c,d⟩:=id st';exact ⟨u,rfl,aET (s:={ s with heap:=h' }) e c d (by decide) ⟨x,H,I1,ru,⟨rfl,λys hy=>by rw [I.tuple_inj hy hq];exact hx⟩,st',λb hb=>(hf b hb).1⟩⟩
 done:=by
  intro X hP hw hK hc i pins s σ H E I hf st hg;subst hP hw hK;obtain ⟨xs,hq,hx⟩:=hg;obtain ⟨its,rv,p,hz⟩:=I.tuple hq;obtain ⟨f0,f1,f2,f3,f4,f5⟩:=hf it (by simp);have hl:=rv.length;exact wpAny_pyNext_tuple_end (I.ok.hd hc) st (show s.heap.IsTuple a its.toArray from p) (by simp;omega) λh' eb=>⟨rfl,I.turned (t':=s.toks) (λb o hb e=>eb b o hb e) f0 f1 f3 f4 f5⟩
 self:=λ_ _ _ _ _ st h=>wpAny_pyIter_tupleiter st h
theorem aCD {P:bAR} {w:bAU} {K:W.Frag} {tg:Expr} (it:bAO) (lo:Int) (n:Nat):aCT P w K tg (Itr lo n) [it] it (λi h=>IsRangeIter h it (lo+(i:Nat)*1) ((n:Int)-(i:Nat)) 1) where
 mem:=by simp
 obj:=λi h st b hb=>by
  have e:b=it:=by simpa using hb
  subst e;exact ⟨_,st,λv z=>by
   have z':Data.fields _=Data.cell v:=z;cases z'⟩
 keep:=λi h h' st k=>k it (by simp) _ st
 item:=by
  intro X hP hw hK hc i pins s σ H E I hf st hg;subst hP hw hK;obtain ⟨f0,f1,f2,f3,f4,f5⟩:=hf it (by simp);have W:=Walks.range (prog:=X.prog) (w:=X.w) (I.ok.hd hc) it lo 1 n;refine W.item i s _ _ hg st λv h' tk hv st' kk=>?_;obtain ⟨t,rfl⟩:=hv;have I1:aR X pins σ H { s with heap:=h',toks:=tk }:=I.turned (λb o hb e=>kk b o (by simpa using hb) e) f0 f1 f3 f4 f5;refine ⟨_,rfl,aET (s:={ s with heap:=h',toks:=tk }) (n:="range_iterator") st' rfl rfl (by decide) ⟨.int (lo+i),H,I1,⟨t,?_⟩,⟨rfl,rfl⟩,st',λb hb=>(hf b hb).1⟩⟩;rw [Int.mul_one]
 done:=by
  intro X hP hw hK hc i pins s σ H E I hf st hg;subst hP hw hK;obtain ⟨f0,f1,f2,f3,f4,f5⟩:=hf it (by simp);exact wpAny_pyNext_range_end (I.ok.hd hc) st (by have:n<=i:=hg;omega) λh' eb=>⟨rfl,I.turned (t':=s.toks) (λb o hb e=>eb b o hb e) f0 f1 f3 f4 f5⟩
 self:=λ_ _ _ _ _ st h=>wpAny_pyIter_rangeiter st h
section
variable {X:Cx} {tg:Expr}
def aOV (K:W.Frag) (tl:TE):TI:=λσ H R=>tl σ H λx H1=>∃a,x = .ref a/\(∃xs,kF K H1 a xs)/\R (Itl K a) H1
def aUC (K:W.Frag) (tl:TE):TI:=λσ H R=>tl σ H λx H1=>∃a,x = .ref a/\(∃xs,tP K H1 a xs)/\R (Itt K a) H1
theorem aMP {l:Expr} {tl:TE} (hl:PE X l tl):PI X tg l (aOV X.K tl):=by
 intro pins s σ H R I h;refine b9 (hl pins s σ H _ I h) λv s1 ⟨x,H1,I1,r1,q1⟩=>?_;obtain ⟨a,e,⟨xs,hq⟩,q⟩:=q1;subst e;cases r1;obtain ⟨its,rv,p,hz⟩:=I1.list hq;refine wpAny_pyIter_list p.isList ?_;refine ⟨s1.heap.objs.size,[s1.heap.objs.size],_,_,H1,rfl,I1.kept (t':=s1.toks) λb o e=>aDZ _ e,aFS a _,⟨_,aLS _ rfl,rfl,rfl⟩,λb hb=>?_,q⟩;have e:b=s1.heap.objs.size:=by simpa using hb
 subst e;exact I1.fpOk (aFI _) (I1.hok.fresh (aFI _))
theorem aP0 {l:Expr} {tl:TE} (hl:PE X l tl):PI X tg l (aUC X.K tl):=by
 intro pins s σ H R I h;refine b9 (hl pins s σ H _ I h) λv s1 ⟨x,H1,I1,r1,q1⟩=>?_;obtain ⟨a,e,⟨xs,hq⟩,q⟩:=q1;subst e;cases r1;obtain ⟨its,rv,p,hz⟩:=I1.tuple hq;refine bCL (show s1.heap.IsTuple a its.toArray from p) ?_;refine ⟨s1.heap.objs.size,[s1.heap.objs.size],_,_,H1,rfl,I1.kept (t':=s1.toks) λb o e=>aDZ _ e,aBM a _,⟨_,aLS _ rfl,rfl,rfl⟩,λb hb=>?_,q⟩;have e:b=s1.heap.objs.size:=by simpa using hb
 subst e;exact I1.fpOk (aFI _) (I1.hok.fresh (aFI _))
theorem aKQ {pins:List (bAO×Obj)} {σ:St} {H:Hp} {s:Shared} {R:It->Hp->Prop} {E:Value->Shared->Prop} {lo hi:Int} {t u v:Tok} {tk:Nat} (I:aR X pins σ H s) (h1:-(2^62)<=lo) (h2:lo<2^62) (h3:-(2^62)<=hi) (h4:hi<2^62)
  (q:R (Itr lo (hi-lo).toNat) H):bAQ (bAV X.prog X.w) X.A (pyIter (.ref s.heap.objs.size)) (PIE X pins σ tg R) E { s with heap:=s.heap.push { cls:=.type "range",data:=.fields #[.int lo t,.int hi u,.int 1 v] },toks:=tk }:=by
 refine wpAny_pyIter_range (IsRange.new ..) (small_one h1 h2 h3 h4) ?_;have I1:aR X pins σ H { s with heap:=s.heap.push { cls:=.type "range",data:=.fields #[.int lo t,.int hi u,.int 1 v] },toks:=tk }:=I.kept λb o e=>aDZ _ e;refine ⟨(s.heap.push { cls:=.type "range",data:=.fields #[.int lo t,.int hi u,.int 1 v] }).objs.size,[(s.heap.push { cls:=.type "range",data:=.fields #[.int lo t,.int hi u,.int 1 v] }).objs.size],_,_,H,rfl,
  I1.kept (t':=tk) λb o e=>aDZ _ e,aCD _ lo (hi-lo).toNat,?_,λb hb=>?_,q⟩
 ·have e1:lo+((0:Nat):Int)*1=lo:=by simp
  have e2:(((hi-lo).toNat:Nat):Int)-((0:Nat):Int)=Builtin.Range.rangeSize lo hi 1:=by rw [rangeSize_one];split<;>omega
  show IsRangeIter _ _ (lo+((0:Nat):Int)*1) ((((hi-lo).toNat:Nat):Int)-((0:Nat):Int)) 1;rw [e1,e2];exact aLS _ rfl
 ·have e:b=(s.heap.push { cls:=.type "range",data:=.fields #[.int lo t,.int hi u,.int 1 v] }).objs.size:=by simpa using hb
  subst e;exact I1.fpOk (aFI _) (I1.hok.fresh (aFI _))
def aPC (ta:TA):TI:=λσ H R=>ta σ H λvs H1=>∃j:Int,vs=[.int j]/\-(2^62)<=j/\j<2^62/\R (Itr 0 j.toNat) H1
theorem aFA {a:Expr} {ta:TA} {p pos:Pos} (hg:Gl X "range") (hm:X.mg "range" = none) (ha:PA X [a] ta) (hs:bA0 [a] X.env=[(false,bA2 a X.env)]:=by rfl):PI X tg (.Call (.Name "range" p) [a] [] pos) (aPC ta):=by
 intro pins s σ H R I h;refine Call_ (mH I hg hm boot_range (PyProof.Rows.callWith_type1 (b9 (ha pos pins s σ H _ I h) λus s1 ⟨vs,H1,I1,r1,q1⟩=>?_) hs rfl));obtain ⟨j,e,q1,q2,q⟩:=q1;subst e;cases r1 with
 | cons r rr=>
  cases rr;obtain ⟨t,rfl⟩:=r;exact call_range_1 (aKQ I1 (by omega) (by omega) q1 q2 (by simpa using q))
def aTI (wi:TI) (g:TG) (tb:TS):TS:=λD σ H=>wi σ H λJ H1=>∃W:Nat->Nat->St->Hp->Prop,(∃m,W 0 m σ H1)/\∀i m σ H,W i m σ H->
 (J.stop i H/\D.nx σ H)\/(J.go i H/\∃N:St->Hp->Prop,(∀σ' H',N σ' H'->∃m',m'<m/\W (i+1) m' σ' H')/\∀x H',J.yld i H x H'->g x σ H' λσ2 H2=>tb { D with nx:=N,ct:=N,bk:=D.nx } σ2 H2)
def xQ (fp:List bAO) (h:Heap):List (bAO×Obj):=fp.filterMap λb=>(h.get? b).map λo=>(b,o)
theorem fL {fp:List bAO} {h:Heap} {b:bAO} {o:Obj} (hb:b∈fp) (e:h.get? b=some o):(b,o)∈xQ fp h:=List.mem_filterMap.mpr ⟨b,hb,by rw [e];rfl⟩
theorem aFH {fp:List bAO} {h:Heap} {p:bAO×Obj} (hp:p∈xQ fp h):p.1∈fp/\h.get? p.1=some p.2:=by
 obtain ⟨b,hb,e⟩:=List.mem_filterMap.mp hp;cases q:h.get? b with
 | none=>rw [q] at e;cases e
 | some o=>
  rw [q] at e;have e':(b,o)=p:=Option.some.inj e;subst e';exact ⟨hb,q⟩
theorem aR.pinned {pins:List (bAO×Obj)} {σ:St} {H:Hp} {s:Shared} {fp:List bAO} (I:aR X pins σ H s) (hf:∀b∈fp,lP X pins H b) (ho:∀b∈fp,∃o,s.heap.get? b=some o/\∀v,o.data≠.cell v):aR X (pins++xQ fp s.heap) σ H s:=
 I.pins_of λp hp=>(aW2.mp hp).elim (λz=>I.pin p (aUM _ z)) λz=>by
  obtain ⟨hb,e⟩:=aFH z;obtain ⟨f0,f1,f2,_⟩:=hf p.1 hb;obtain ⟨o,e',d⟩:=ho p.1 hb;rw [e] at e';cases e';exact ⟨e,f0,f1,f2,d⟩
theorem aR.unpinned {pins pl:List (bAO×Obj)} {σ:St} {H:Hp} {s:Shared} (I:aR X (pins++pl) σ H s):aR X pins σ H s:=I.pins_of λp hp=>I.pin p (aUM _ (aYW _ hp))
theorem aRK {iter:Expr} {body:List bAY} {wi:TI} {g:TG} {tb:TS} {pos:Pos} (hp:PassesOwn (bAV X.prog X.w) X.A X.env X.xe) (hc:X.calm=true) (hi:PI X tg iter wi) (hg:PG X tg g) (hb:PSs X body tb)
  (hs:∀x,bBD iter X.env x=pure x:=by intro _;rfl):PS X (.For tg iter body [] pos) (aTI wi g tb):=by
 intro pins s σ H D I h;refine wpAny_For (b9 (hi pins s σ H _ I h) λv s1 h1=>b9 h1 λitv s2 h2=>?_) hs;obtain ⟨it,fp,tn,J,H2,e,I2,T,st2,f2,W,⟨m0,w0⟩,turn⟩:=h2;subst e
 -- what stays true of the iterator's objects through the loop
 have stat:∀{H':Hp},(∀b∈fp,H' b=none)->∀b∈fp,lP X pins H' b:=λhn b hb=>⟨hn b hb,(f2 b hb).2⟩;refine codeAny_forLoop_any (λn s'=>∃i σ' H',aR X pins σ' H' s'/\tn i s'.heap/\(∀b∈fp,H' b=none)/\W i n σ' H') ?_ m0 ⟨0,σ,H2,I2,st2,λb hb=>(f2 b hb).1,w0⟩;rintro n s3 ⟨i,σ3,H3,I3,st3,fr3,w3⟩;rcases turn i n σ3 H3 w3 with ⟨stop,qn⟩ | ⟨go,N,hN,step⟩
 ·refine bBQ hp (b9 (T.done X rfl rfl rfl hc i pins s3 σ3 H3 X.xe I3 (stat fr3) st3 stop) λr s4 ⟨hr,I4⟩=>?_);subst hr;exact bBL ⟨σ3,H3,I4,qn⟩
 ·refine bBQ hp (b9 (T.item X rfl rfl rfl hc i pins s3 σ3 H3 X.xe I3 (stat fr3) st3 go) λr s4 ⟨u,hr,h4⟩=>?_);subst hr;refine bBQ hp (b9 h4 λ_ s5 ⟨x,H5,I5,r5,y5,st5,fr5⟩=>?_);have I5':=I5.pinned (stat fr5) (T.obj _ _ st5);refine bBQ hp (b9 (hg _ s5 σ3 H5 x u _ I5' r5 (step x H5 y5)) λ_ s6 ⟨σ6,H6,I6,q6⟩=>?_);refine bBQ hp (b9 (hb _ s6 σ6 H6 _ I6 q6) λf s7 q7=>?_);have aDP:∀{σ7:St} {H7:Hp},aR X (pins++xQ fp s5.heap) σ7 H7 s7->N σ7 H7->∃m,m<n/\∃i σ' H',aR X pins σ' H' s7/\tn i s7.heap/\(∀b∈fp,H' b=none)/\W i m σ' H':=λ{σ7 H7} I7 n7=>by
   obtain ⟨m',hm,w7⟩:=hN σ7 H7 n7;refine ⟨m',hm,i+1,σ7,H7,I7.unpinned,T.keep _ _ _ st5 λb hb o e=>(I7.pin (b,o) (aUM _ (aUM _ (fL hb e)))).1,λb hb=>?_,w7⟩;obtain ⟨o,e,d⟩:=T.obj _ _ st5 b hb;exact (I7.pin (b,o) (aUM _ (aUM _ (fL hb e)))).2.1
  cases f with
  | next=>obtain ⟨σ7,H7,I7,n7⟩:=q7;exact aDP I7 n7
  | cont=>obtain ⟨σ7,H7,I7,n7⟩:=q7;exact aDP I7 n7
  | brk=>obtain ⟨σ7,H7,I7,q7⟩:=q7;exact ⟨σ7,H7,I7.unpinned,q7⟩
  | ret v=>obtain ⟨x7,σ7,H7,I7,r7,q7⟩:=q7;exact ⟨x7,σ7,H7,I7.unpinned,r7,q7⟩
end
abbrev R2:=V->V->Hp->VK->Prop
def jP (X:Cx) (f:Value->Value->Sem Value) (r:R2):Prop:=
 ∀(pins:List (bAO×Obj)) (s:Shared) (σ:St) (H:Hp) (x y:V) (v u:Value) (Q:VK),aR X pins σ H s->bC x v->bC y u->r x y H Q->
  bAQ (bAV X.prog X.w) X.A (f v u) (EP X pins σ Q) X.xe s
def UnR (X:Cx) (f:Value->Sem Value) (r:V->Hp->VK->Prop):Prop:=
 ∀(pins:List (bAO×Obj)) (s:Shared) (σ:St) (H:Hp) (x:V) (v:Value) (Q:VK),aR X pins σ H s->bC x v->r x H Q->
  bAQ (bAV X.prog X.w) X.A (f v) (EP X pins σ Q) X.xe s
def fA (X:Cx) (f:Value) (r:List V->Hp->VK->Prop):Prop:=
 ∀(pins:List (bAO×Obj)) (s:Shared) (σ:St) (H:Hp) (xs:List V) (us:List Value) (Q:VK),aR X pins σ H s->bA xs us->r xs H Q->
  bAQ (bAV X.prog X.w) X.A (call f us) (EP X pins σ Q) X.xe s
def tOp (r:R2) (ta tb:TE):TE:=λσ H Q=>ta σ H λx H1=>tb σ H1 λy H2=>r x y H2 Q
def tUn (r:V->Hp->VK->Prop) (ta:TE):TE:=λσ H Q=>ta σ H λx H1=>r x H1 Q
def rI (C:Int->Int->Prop) (g:Int->Int->V):R2:=λx y H Q=>∃i j,x = .int i/\y = .int j/\C i j/\Q (g i j) H
def rI0 (g:Int->Int->V):R2:=λx y H Q=>∃i j,x = .int i/\y = .int j/\Q (g i j) H
def rU (g:Int->V):V->Hp->VK->Prop:=λx H Q=>∃i,x = .int i/\Q (g i) H
section
variable {X:Cx} {a b c:Expr} {ta tb tc:TE} {pos:Pos}
theorem aRN (ha:PE X a ta) (hb:PE X b tb) {pins:List (bAO×Obj)} {s:Shared} {σ:St} {H:Hp} {R:V->V->Hp->Prop} (I:aR X pins σ H s)
  (h:ta σ H λx H1=>tb σ H1 λy H2=>R x y H2) {Q:Value->Shared->Prop} {f:Value->Value->Sem Value}
  (hf:∀v u s2 x y H2,aR X pins σ H2 s2->bC x v->bC y u->R x y H2->bAQ (bAV X.prog X.w) X.A (f v u) Q X.xe s2) :
  bAQ (bAV X.prog X.w) X.A (bA2 a X.env) (λv s₁=>bAQ (bAV X.prog X.w) X.A (bA2 b X.env) (λu s₂=>bAQ (bAV X.prog X.w) X.A (f v u) Q X.xe s₂) X.xe s₁) X.xe s:=by
 refine b9 (ha pins s σ H _ I h) λv s1 ⟨x,H1,I1,r1,q1⟩=>?_;refine b9 (hb pins s1 σ H1 _ I1 q1) λu s2 ⟨y,H2,I2,r2,q2⟩=>?_;exact hf v u s2 x y H2 I2 r1 r2 q2
theorem aU5 {op:bCJ} {r:R2} (ho:jP X (bBG op) r) (ha:PE X a ta) (hb:PE X b tb):PE X (.BinOp a op b pos) (tOp r ta tb):=by
 intro pins s σ H Q I h;exact wpAny_BinOp (aRN ha hb I h λv u s2 x y H2 I2 rx ry q=>ho pins s2 σ H2 x y v u Q I2 rx ry q)
theorem aT0 {op:UnaryOp} {r:V->Hp->VK->Prop} (ho:UnR X (unaryOp op) r) (ha:PE X a ta):PE X (.UnaryOp op a pos) (tUn r ta):=by
 intro pins s σ H Q I h;exact UnaryOp_ (b9 (ha pins s σ H _ I h) λv s1 ⟨x,H1,I1,r1,q1⟩=>ho pins s1 σ H1 x v Q I1 r1 q1)
theorem opI {f:Value->Value->Sem Value} {C:Int->Int->Prop} {g:Int->Int->Int}
  (rule:∀(i j:Int) (t u:Tok) (s:Shared) (Q:Value->Shared->Prop) (E:Value->Shared->Prop),C i j->Q (.int (g i j) s.toks) { s with toks:=s.toks+1 }->bAQ (bAV X.prog X.w) X.A (f (.int i t) (.int j u)) Q E s) :
  jP X f (rI C λi j=>.int (g i j)):=by
 intro pins s σ H x y v u Q I rx ry h;obtain ⟨i,j,rfl,rfl,hc,q⟩:=h;obtain ⟨t,rfl⟩:=rx;obtain ⟨t',rfl⟩:=ry;exact rule i j t t' s _ _ hc ⟨.int (g i j),H,I.tok _,⟨_,rfl⟩,q⟩
theorem aVB {f:Value->Value->Sem Value} {g:Int->Int->Int}
  (rule:∀(i j:Int) (t u:Tok) (s:Shared) (Q:Value->Shared->Prop) (E:Value->Shared->Prop),Q (.int (g i j) s.toks) { s with toks:=s.toks+1 }->bAQ (bAV X.prog X.w) X.A (f (.int i t) (.int j u)) Q E s) :
  jP X f (rI0 λi j=>.int (g i j)):=by
 intro pins s σ H x y v u Q I rx ry h;obtain ⟨i,j,rfl,rfl,q⟩:=h;obtain ⟨t,rfl⟩:=rx;obtain ⟨t',rfl⟩:=ry;exact rule i j t t' s _ _ ⟨.int (g i j),H,I.tok _,⟨_,rfl⟩,q⟩
theorem aSI {f:Value->Value->Sem Value} {g:Int->Int->Bool}
  (rule:∀(i j:Int) (t u:Tok) (s:Shared) (Q:Value->Shared->Prop) (E:Value->Shared->Prop),Q (.bool (g i j)) s->bAQ (bAV X.prog X.w) X.A (f (.int i t) (.int j u)) Q E s) :
  jP X f (rI0 λi j=>.bl (g i j)):=by
 intro pins s σ H x y v u Q I rx ry h;obtain ⟨i,j,rfl,rfl,q⟩:=h;obtain ⟨t,rfl⟩:=rx;obtain ⟨t',rfl⟩:=ry;exact rule i j t t' s _ _ ⟨.bl (g i j),H,I,rfl,q⟩
def aN0 (i j:Int):Prop:=0<=j/\j<=1000000/\i.natAbs<2^64
def aM5 (i j:Int):Prop:=(-(2^64)<i/\i<2^64)\/(-(2^64)<j/\j<2^64)
theorem aM5.ok {i j:Int} (h:aM5 i j):IntMulOk i j:=by
 rcases h with ⟨h1,h2⟩ | ⟨h1,h2⟩
 ·exact .of_left (intBits_le_64 h1 h2)
 ·exact .of_right (intBits_le_64 h1 h2)
theorem bK:jP X (bBG .Add) (rI0 λi j=>.int (i+j)):=aVB λ_ _ _ _ _ _ _ q=>add_int q
theorem pL:jP X (bBG .Sub) (rI0 λi j=>.int (i-j)):=aVB λ_ _ _ _ _ _ _ q=>sub_int q
theorem aSS:jP X (bBG .Mult) (rI aM5 λi j=>.int (i*j)):=opI λ_ _ _ _ _ _ _ hc q=>mul_int q hc.ok
theorem gM:jP X (bBG .Mod) (rI (λ_ j=>0<j) λi j=>.int (i%j)):=opI λi j _ _ _ _ _ hc q=>by
 have h1:(0:Int)<j:=hc;exact mod_int' (by omega) (by rw [aZQ i (by omega)];exact q)
theorem aJ7:jP X (bBG .Pow) (rI aN0 λi j=>.int (i^j.toNat)):=opI λ_ _ _ _ _ _ _ hc q=>pow_int_small hc.1 hc.2.1 hc.2.2 q
theorem aQ0:jP X (bBG .LShift) (rI aN0 λi j=>.int (i*2^j.toNat)):=opI λ_ _ _ _ _ _ _ hc q=>lshift_int_small hc.1 hc.2.1 hc.2.2 q
theorem unI {f:Value->Sem Value} {g:Int->Int}
  (rule:∀(i:Int) (t:Tok) (s:Shared) (Q:Value->Shared->Prop) (E:Value->Shared->Prop),Q (.int (g i) s.toks) { s with toks:=s.toks+1 }->bAQ (bAV X.prog X.w) X.A (f (.int i t)) Q E s) :
  UnR X f (rU λi=>.int (g i)):=by
 intro pins s σ H x v Q I rx h;obtain ⟨i,rfl,q⟩:=h;obtain ⟨t,rfl⟩:=rx;exact rule i t s _ _ ⟨.int (g i),H,I.tok _,⟨_,rfl⟩,q⟩
theorem aQN:UnR X (unaryOp .USub) (rU λi=>.int (-i)):=unI λ_ _ _ _ _ q=>neg_int q
end
section
variable {X:Cx} {a b c:Expr} {ta tb tc:TE} {pos:Pos}
theorem rP {pins:List (bAO×Obj)} {σ:St} {H:Hp} {s:Shared} {Q:VK} {k k':Bool} (I:aR X pins σ H s) (q:Q (.bl k) H) (e:k=k'):EP X pins σ Q (.bool k') s:=by
 subst e;exact ⟨.bl k,H,I,rfl,q⟩
theorem iU:jP X (bA7 .Lt) (rI0 λi j=>.bl (decide (i<j))):=aSI λ_ _ _ _ _ _ _ q=>lt_int q
theorem mU:jP X (bA7 .Gt) (rI0 λi j=>.bl (decide (j<i))):=aSI λ_ _ _ _ _ _ _ q=>gt_int q
theorem aO5:jP X (bA7 .GtE) (rI0 λi j=>.bl (decide (j<=i))):=aSI λ_ _ _ _ _ _ _ q=>ge_int q
theorem aGL:jP X (bA7 .In) (λx y H Q=>∃i j,x = .str i/\y = .str j/\Q (.bl (!(Builtin.Str.occurrences j i 0 j.length 1).isEmpty)) H):=by
 intro pins s σ H x y v u Q I rx ry h;obtain ⟨i,j,rfl,rfl,q⟩:=h;obtain ⟨t,rfl⟩:=rx;obtain ⟨t',rfl⟩:=ry;exact in_str (rP I q rfl)
theorem aKV:jP X (bA7 .Is) (λx y H Q=>y = .non/\Q (.bl (decide (x = .non))) H):=by
 intro pins s σ H x y v u Q I rx ry h;obtain ⟨rfl,q⟩:=h;cases ry;refine is_none_gen (rP I q ?_);cases x<;>first
  | (cases rx;rfl)
  | (obtain ⟨t,rfl⟩:=rx;rfl)
theorem aMS:jP X (bA7 .IsNot) (λx y H Q=>y = .non/\Q (.bl (!decide (x = .non))) H):=by
 intro pins s σ H x y v u Q I rx ry h;obtain ⟨rfl,q⟩:=h;cases ry;refine isnot_none_gen (rP I q ?_);cases x<;>first
  | (cases rx;rfl)
  | (obtain ⟨t,rfl⟩:=rx;rfl)
theorem aN (b:Expr) {op:CmpOp} (h:op≠.In:=by decide) (h2:op≠.NotIn:=by decide):bA5 op b=false:=by
 have e1:(op==CmpOp.In)=false:=by cases op<;>first | rfl | exact absurd rfl h
 have e2:(op==CmpOp.NotIn)=false:=by cases op<;>first | rfl | exact absurd rfl h2
 cases b<;>simp [bA5,e1,e2]
theorem aNP {op:CmpOp} {r:R2} (ho:jP X (bA7 op) r) (ha:PE X a ta) (hb:PE X b tb) (hm:bA5 op b=false):PE X (.Compare a [op] [b] pos) (tOp r ta tb):=by
 intro pins s σ H Q I h;exact wpAny_Compare1 (aRN ha hb I h λv u s2 x y H2 I2 rx ry q=>ho pins s2 σ H2 x y v u Q I2 rx ry q) hm
def aHK (t:TE):TT:=λσ H Q=>t σ H λx H'=>∃k,x = .bl k/\Q k H'
theorem aN9 {op:CmpOp} {r:R2} (ho:jP X (bA7 op) r) (ha:PE X a ta) (hb:PE X b tb) (hm:bA5 op b=false):PT X (.Compare a [op] [b] pos) (aHK (tOp r ta tb)):=by
 intro pins s σ H Q I h;refine wpAny_isTrue_Compare1 (b9 (ha pins s σ H _ I h) λv s1 ⟨x,H1,I1,r1,q1⟩=>b9 (hb pins s1 σ H1 _ I1 q1) λu s2 ⟨y,H2,I2,r2,q2⟩=>
  b9 (ho pins s2 σ H2 x y v u _ I2 r1 r2 q2) λc s3 ⟨z,H3,I3,r3,k,e,q3⟩=>?_) hm
 subst e;cases r3;exact bBC ⟨H3,I3,q3⟩
def aIJ (r r':R2) (ta tb tc:TE):TE:=λσ H Q=>ta σ H λx H1=>tb σ H1 λy H2=>r x y H2 λz H3=>∃k,z = .bl k/\
 (if k=true then tc σ H3 λw' H4=>r' y w' H4 Q else Q (.bl false) H3)
theorem aHJ {op op':CmpOp} {r r':R2} (ho:jP X (bA7 op) r) (ho':jP X (bA7 op') r') (ha:PE X a ta) (hb:PE X b tb) (hc:PE X c tc)
  (hm:lastMarks [op,op'] [b,c]=false:=by with_unfolding_all rfl):PT X (.Compare a [op,op'] [b,c] pos) (aHK (aIJ r r' ta tb tc)):=by
 intro pins s σ H Q I h;refine isTrue_chain (b9 (ha pins s σ H _ I h) λv s1 ⟨x,H1,I1,r1,q1⟩=>test_link (b9 (hb pins s1 σ H1 _ I1 q1) λu s2 ⟨y,H2,I2,r2,q2⟩=>
  b9 (ho pins s2 σ H2 x y v u _ I2 r1 r2 q2) λd s3 ⟨z,H3,I3,r3,k,e,q3⟩=>?_)) hm
 subst e;cases r3;refine bBC ?_;cases k with
 | false=>
  obtain ⟨k',e',q'⟩:=q3;cases e';exact ite_ff ⟨H3,I3,q'⟩
 | true=>
  refine ite_tt (test_last (b9 (hc pins s3 σ H3 _ I3 q3) λw' s4 ⟨z',H4,I4,r4,q4⟩=>b9 (ho' pins s4 σ H4 y z' u w' _ I4 r2 r4 q4) λd' s5 ⟨z2,H5,I5,r5,k2,e2,q5⟩=>?_));subst e2;cases r5;exact bBC ⟨H5,I5,q5⟩
theorem pE:(bAW:Nat)<2^63:=by rw [bBR];decide
theorem aCI:jP X (bBG .Add) (λx y H Q=>∃i j,x = .str i/\y = .str j/\i.length+j.length<=bAW/\Q (.str (i++j)) H):=by
 intro pins s σ H x y v u Q I rx ry h;obtain ⟨i,j,rfl,rfl,hz,q⟩:=h;obtain ⟨t,rfl⟩:=rx;obtain ⟨t',rfl⟩:=ry;exact add_str (λt' tk=>⟨.str (i++j),H,I.tok _,⟨_,rfl⟩,q⟩) hz
theorem iF {x:V} {us:List Value} (r:bA [x] us):∃u,us=[u]/\bC x u:=by
 cases r with
 | cons r1 r2=>cases r2;exact ⟨_,rfl,r1⟩
theorem yE:fA X (.type "str") (λxs H Q=>∃i,xs=[.int i]/\i.natAbs.log2<1920/\Q (.str (toString i)) H):=by
 intro pins s σ H xs us Q I r h;obtain ⟨i,rfl,hz,q⟩:=h;obtain ⟨u,rfl,t,rfl⟩:=iF r;exact PySem.P.str_of_int hz ⟨.str _,H,I.tok _,⟨_,rfl⟩,q⟩
end
structure cU (k:Nat) (A:Around):Prop where
 hd:A.handled=none
 dp:A.depth+3*k+5<recursionLimit
 un:A.units+16*k+200<bB7
 gd:A.guards=some []
theorem cU.mono {j k:Nat} {A:Around} (r:cU k A) (h:j<=k):cU j A:=⟨r.hd,by have:=r.dp;omega,by have:=r.un;omega,r.gd⟩
theorem cU.deeper {k:Nat} {A:Around} (r:cU (k+1) A) (env:Env):cU k (A.deeper env):=
 ⟨r.hd,by have:=r.dp;show A.depth+1+3*k+5<_;omega,by have:=r.un;show A.units+3+16*k+200<_;omega,r.gd⟩
theorem cU.depth {k:Nat} {A:Around} (r:cU k A):A.depth<recursionLimit:=by have:=r.dp;omega
theorem cU.units {k:Nat} {A:Around} (r:cU k A):A.units+64<bB7:=by have:=r.un;omega
def aM0:TA:=λ_ H Q=>Q [] H
def aA3 (ta:TE) (tr:TA):TA:=λσ H Q=>ta σ H λx H1=>tr σ H1 λxs H2=>Q (x::xs) H2
section
variable {X:Cx} {e:Expr} {es:List Expr} {te:TE} {t:TA} {pos:Pos}
theorem aKP:PA X [] aM0:=λ_ _ _ _ H Q I h=>Calls.spliced_nil ⟨[],H,I,.nil,h⟩
theorem aMJ (ha:PE X e te) (hr:PA X es t) (hs:bA0 (e::es) X.env=(false,bA2 e X.env)::bA0 es X.env:=by rfl):PA X (e::es) (aA3 te t):=by
 intro pos pins s σ H Q I h;rw [hs];show bAQ _ _ (spliced ((false,bA2 e X.env)::bBA pos (bA0 es X.env))) _ _ s;refine Calls.spliced_cons (b9 (ha pins s σ H _ I h) λu s1 ⟨x,H1,I1,r1,q1⟩=>?_);exact b9 (hr pos pins s1 σ H1 _ I1 q1) λus s2 ⟨xs,H2,I2,r2,q2⟩=>⟨x::xs,H2,I2,.cons r1 r2,q2⟩
def aTZ (t:TA):TE:=λσ H Q=>t σ H λxs H1=>xs.length<=bAW/\∀p,H1 p=none->Q (.ref p) (upd H1 p (.tup xs))
def aS8 (t:TA):TE:=λσ H Q=>t σ H λxs H1=>xs.length<=bAW/\∀p,H1 p=none->Q (.ref p) (upd H1 p (.lst xs))
theorem aQE {x1} (h:PA X es t):PE X (.Tuple es x1 pos) (aTZ t):=by
 intro pins s σ H Q I hq;refine wpAny_Tuple_spliced (b9 (h pos pins s σ H _ I hq) λus s1 ⟨xs,H1,I1,r,z,q⟩=>⟨by rw [<-r.length];exact z,?_⟩);have hf:H1 s1.heap.objs.size=none:=I1.hok.fresh (aFI _);refine ⟨.ref s1.heap.objs.size,upd H1 s1.heap.objs.size (.tup xs),I1.laid (t':=s1.toks) (λb u e=>aDZ _ e) (aFI _) ?_,rfl,q _ hf⟩;exact ⟨z,us,r,⟨_,aLS _ rfl,rfl,_,rfl⟩⟩
theorem aQF (h:PA X es t):PE X (.List es pos) (aS8 t):=by
 intro pins s σ H Q I hq;refine wpAny_List_spliced (b9 (h pos pins s σ H _ I hq) λus s1 ⟨xs,H1,I1,r,z,q⟩=>⟨by rw [<-r.length];exact z,?_⟩);have hf:H1 s1.heap.objs.size=none:=I1.hok.fresh (aFI _);refine ⟨.ref s1.heap.objs.size,upd H1 s1.heap.objs.size (.lst xs),I1.laid (t':=s1.toks) (λb u e=>aDZ _ e) (aFI _) ?_,rfl,q _ hf⟩;exact ⟨z,us,0,r,aLS _ rfl⟩
end
abbrev Sp:=List V->Hp->VK->XK->Prop
abbrev CXT:=List Env->Hp->Shared->XK->Value->Shared->Prop
structure aE6 (P:bAR) (w:bAU) (K:W.Frag) (mg:Str->Option Value) (base:Heap) (A:Around) (outer:List Env) (s:Shared) (H:Hp):Prop where
 frames:A.frames=some outer
 mod:Mod K mg base
 bs:∀b o,base.get? b=some o->s.heap.get? b=some o/\H b=none
 bsz:base.objs.size<=s.heap.objs.size
 funs:s.heap.FunFrames base outer
 frf:∀b∈cS outer,H b=none
 hok:iO P w H s.heap
 bare:bBT s.gens
def CE (outer:List Env) (P:bAR) (w:bAU) (H:Hp) (s:Shared) (Q:VK) (u:Value) (s':Shared):Prop:=
 ∃v H',s'.os=s.os/\bBT s'.gens/\Un (cS outer) [] H H' s.heap s'.heap/\iO P w H' s'.heap/\bC v u/\Q v H'
def CR (CX:CXT) (outer:List Env) (P:bAR) (w:bAU) (H:Hp) (s:Shared) (Q:VK) (E:XK) (r:Result) (s':Shared):Prop:=
 match r with
 | .ok (.ret u)=>CE outer P w H s Q u s'
 | .ok _=>False
 | .error e=>CX outer H s E e s'
structure bI (P:bAR) (w:bAU) (K:W.Frag) (mg:Str->Option Value) (base:Heap) (CX:CXT) (k:Nat) (f:bAO) (fd:bAS) (ps:List Str) (sp:Sp):Prop where
 len:∀vs H Q E,sp vs H Q E->vs.length=ps.length
 run:∀(A:Around) (outer:List Env) (s:Shared) (H:Hp) (args:Args) (us:List Value) (vs:List V) (Q:VK) (E:XK),cU k A->aE6 P w K mg base A outer s H->BindsTo s fd args (ps.zip us)->bA vs us->sp vs H Q E->
  bCK (bAV P w) A (.call (.ref f) args) (CR CX outer P w H s Q E) s
theorem bI.imp {P:bAR} {w:bAU} {K:W.Frag} {mg:Str->Option Value} {base:Heap} {CX:CXT} {k:Nat} {f:bAO} {fd:bAS} {ps:List Str} {sp sp':Sp} (F:bI P w K mg base CX k f fd ps sp)
  (h:∀vs H Q E,sp' vs H Q E->sp vs H Q E):bI P w K mg base CX k f fd ps sp':=
 ⟨λvs H Q E q=>F.len vs H Q E (h _ _ _ _ q),λA outer s H args us vs Q E hr he hb hv hs=>F.run A outer s H args us vs Q E hr he hb hv (h _ _ _ _ hs)⟩
section
variable {X:Cx} {pins:List (bAO×Obj)} {σ:St} {H:Hp} {s s':Shared}
theorem aR.env0 (I:aR X pins σ H s):aE6 X.prog X.w X.K X.mg X.base X.A X.stack s H:=
 ⟨I.ok.frames,I.ok.mod,I.bs,aVD I.ok.bsz I.sz,I.stack,I.stkFree,I.hok,I.bare⟩
theorem aR.after {Q:VK} {u:Value} (I:aR X pins σ H s) (h:CE X.stack X.prog X.w H s Q u s'):EP X pins σ Q u s':=by
 obtain ⟨v,H',os,bare,un,hok,r,q⟩:=h;obtain ⟨hh,g,d,t,os'⟩:=s';obtain rfl:os'=s.os:=os;exact ⟨v,H',I.call (h':=hh) (g':=g) (d':=d) (t':=t) (ch:=[]) un hok bare (λb z=>absurd z (by simp)),r,q⟩
end
def uH (sp:Sp) (dvs:List V) (E:XK) (t:TA):TE:=λσ H Q=>t σ H λvs H1=>sp (vs++dvs) H1 Q E
def kC (K:W.Frag) (fd:bAS) (ps:List Str) (ds:List Value):Prop:=
 ∀(s:Shared) (us:List Value),K.In s.heap->(us++ds).length=ps.length->BindsTo s fd ⟨us,[]⟩ (ps.zip (us++ds))
theorem kC.all {K:W.Frag} {fd:bAS} {ps:List Str} (h:∀us:List Value,us.length=ps.length->bindArgs fd ⟨us,[]⟩=pure (ps.zip us)):kC K fd ps []:=λs us _ hl=>by
 rw [aU7] at hl ⊢;exact .of_eq (h us hl)
def wF (CX:CXT) (X:Cx) (E:XK):Prop:=∀(pins:List (bAO×Obj)) (σ:St) (H:Hp) (s:Shared) (e:Value) (s':Shared),aR X pins σ H s->CX X.stack H s E e s'->X.xe e s'
section
variable {X:Cx} {CX:CXT} {k:Nat} {f C:bAO} {fd:bAS} {ps:List Str} {sp:Sp} {dvs:List V} {ds:List Value} {E:XK} {x m:Str} {p pos apos:Pos} {e o:Expr} {es:List Expr} {ta:TE} {t:TA}
theorem aHX {pins:List (bAO×Obj)} {σ:St} {H:Hp} {s:Shared} {Q:VK} {us:List Value} {vs:List V} (F:bI X.prog X.w X.K X.mg X.base CX k f fd ps sp) (hr:cU k X.A) (hb:kC X.K fd ps ds) (hd:bA dvs ds) (hx:wF CX X E)
  (I:aR X pins σ H s) (r:bA vs us) (h:sp (vs++dvs) H Q E):bAQ (bAV X.prog X.w) X.A (call (.ref f) us) (EP X pins σ Q) X.xe s:=by
 have r2:bA (vs++dvs) (us++ds):=r.append hd;have hl:(us++ds).length=ps.length:=by rw [<-r2.length];exact F.len _ _ _ _ h
 refine bCP (bCH (F.run X.A X.stack s H ⟨us,[]⟩ (us++ds) (vs++dvs) Q E hr I.env0 (hb s us I.kIn hl) r2 h) λr s' hq=>?_);cases r with
 | error e=>exact hx pins σ H s e s' I hq
 | ok fl=>
  cases fl with
  | ret u=>exact I.after hq
  | next=>exact False.elim hq
  | brk=>exact False.elim hq
  | cont=>exact False.elim hq
theorem aMQ (F:bI X.prog X.w X.K X.mg X.base CX k f fd ps sp) (hr:cU k X.A) (hg:Gl X x) (hm:X.mg x=some (.ref f)) (hk:W.keepIn X.K (.ref f)=true) (hb:kC X.K fd ps ds) (hd:bA dvs ds) (hx:wF CX X E)
  (ha:PA X (e::es) t) (hdb:(x==("__debug__":Str))=false:=by decide) (he:bA0 (e::es) X.env=(false,bA2 e X.env)::bA0 es X.env:=by rfl) (hpl:(bBA pos (bA0 es X.env)).any (·.1)=false:=by rfl) :
  PE X (.Call (.Name x p) (e::es) [] pos) (uH sp dvs E t):=by
 intro pins s σ H Q I h;refine bBJ (fG I hg hm ?_ hdb);refine PySem.W.callWith_K (h₀:=X.base) I.ok.mod.kin hk (b9 (ha pos pins s σ H _ I h) λus s1 ⟨vs,H1,I1,r,q⟩=>⟨I1.kIn,?_⟩) he hpl;exact aHX F hr hb hd hx I1 r q
theorem aJX (F:bI X.prog X.w X.K X.mg X.base CX k f fd ps sp) (hr:cU k X.A) (hg:Gl X x) (hm:X.mg x=some (.ref f)) (hk:W.keepIn X.K (.ref f)=true) (hb:kC X.K fd ps ds) (hd:bA dvs ds) (hx:wF CX X E)
  (hdb:(x==("__debug__":Str))=false:=by decide):PE X (.Call (.Name x p) [] [] pos) (uH sp dvs E aM0):=by
 intro pins s σ H Q I h;refine bBJ (fG I hg hm ?_ hdb);exact PySem.W.callWith_K0 I.kIn hk (aHX (us:=[]) F hr hb hd hx I .nil h)
end
structure aP (N P:List Str) (sc:bA9):Prop where
 kind:sc.kind = .function
 co:sc.isCoroutine=false
 gen:sc.isGenerator=false
 nd:N.Nodup
 pre:N.take P.length=P
 par:∀x∈P,sc.names.lookup x=some .local\/sc.names.lookup x=some .cell
 nofree:∀y∈sc.names,y.2≠.free
theorem uK {kindOf:Str->Option NameKind} {x:Str}:∀{binds:List (Str×Value)} {m:Str->Option Value},(∀v,(x,v)∉binds)->bindL kindOf binds m x=m x
 | [],_,_=>rfl
 | (n,v)::r,m,h=>by
  unfold bindL;rw [uK λw hw=>h w (aJF _ hw)]
  split
  ·have:x≠n:=by rintro rfl;exact h v aWI
   simp [this]
  ·rfl
theorem uU {kindOf:Str->Option NameKind} {x:Str}:∀{binds:List (Str×Value)} {m:Str->Option Value},(∀v,(x,v)∉binds)->bindC kindOf binds m x=m x
 | [],_,_=>rfl
 | (n,v)::r,m,h=>by
  unfold bindC;rw [uU λw hw=>h w (aJF _ hw)]
  split
  ·rfl
  ·have:x≠n:=by rintro rfl;exact h v aWI
   simp [this]
theorem vA {kindOf:Str->Option NameKind} {x:Str} {v:Value}:∀{P:List Str} {vs:List Value} {i:Nat} {m:Str->Option Value},P.Nodup->P[i]? = some x->vs[i]? = some v->kindOf x=some .local->
  bindL kindOf (P.zip vs) m x=some v
 | [],_,_,_,_,h,_,_=>by simp at h
 | _::_,[],_,_,_,_,h,_=>by simp at h
 | p::P,w::vs,0,m,nd,h1,h2,hk=>by
  simp at h1 h2;subst h1;subst h2;show bindL kindOf ((p,w)::P.zip vs) m p=_;unfold bindL;rw [uK λv hv=>(aXH.mp nd).1 (bAD hv).1,if_pos hk];simp
 | p::P,w::vs,i+1,m,nd,h1,h2,hk=>by
  show bindL kindOf ((p,w)::P.zip vs) m x=_;unfold bindL;exact vA (i:=i) (aXH.mp nd).2 (by simpa using h1) (by simpa using h2) hk
theorem vJ {kindOf:Str->Option NameKind} {x:Str} {v:Value}:∀{P:List Str} {vs:List Value} {i:Nat} {m:Str->Option Value},P.Nodup->P[i]? = some x->vs[i]? = some v->kindOf x≠some .local->
  bindC kindOf (P.zip vs) m x=some v
 | [],_,_,_,_,h,_,_=>by simp at h
 | _::_,[],_,_,_,_,h,_=>by simp at h
 | p::P,w::vs,0,m,nd,h1,h2,hk=>by
  simp at h1 h2;subst h1;subst h2;show bindC kindOf ((p,w)::P.zip vs) m p=_;unfold bindC;rw [uU λv hv=>(aXH.mp nd).1 (bAD hv).1,if_neg hk];simp
 | p::P,w::vs,i+1,m,nd,h1,h2,hk=>by
  show bindC kindOf ((p,w)::P.zip vs) m x=_;unfold bindC;exact vJ (i:=i) (aXH.mp nd).2 (by simpa using h1) (by simpa using h2) hk
def jJ (N:List Str) (vs:List V):St:=vs.map some++aEH (N.length-vs.length) none
def dE (CX:CXT) (P:bAR) (w:bAU) (K:W.Frag) (mg:Str->Option Value) (base:Heap) (N:List Str) (qual:Str) (scope:bA9) (f:bAO) (cd:Value) (A:Around) (outer:List Env) (s:Shared) (H:Hp) (E:XK):Cx where
 prog:=P
 w:=w
 K:=K
 mg:=mg
 base:=base
 A:=A.deeper (bAZ qual scope s.heap.objs.size f cd)
 N:=N
 s₀:=s
 H₀:=H
 env:=bAZ qual scope s.heap.objs.size f cd
 outer:=outer
 stack:=bAZ qual scope s.heap.objs.size f cd::outer
 ex:=[]
 calm:=true
 fn:=λ_=>true
 pn:=[]
 xe:=λe s'=>bAQ (bAV P w) (A.deeper (bAZ qual scope s.heap.objs.size f cd)) (bBY (bAZ qual scope s.heap.objs.size f cd) e) (λ_ s''=>CX outer H s E e s'') (λe' s''=>CX outer H s E e' s'') s'
theorem y6 {sc:bA9} {n:Nat} {x:Str} (h:sc.names.lookup x=some .cell):∃c,(cellsFrom n sc.names []).lookup x=some c:=by
 have q:=W.cellsFrom_some sc.names n [] (.inl h);exact aZW.mp q
theorem aGF {CX:CXT} {P:bAR} {w:bAU} {K:W.Frag} {mg:Str->Option Value} {base:Heap} {N ps:List Str} {qual:Str} {scope:bA9} {f:bAO} {cd:Value} {A:Around} {outer:List Env} {s s1:Shared} {H:Hp} {E:XK} {us:List Value} {vs:List V}
  (S:aP N ps scope) (hd:A.handled=none) (e0:aE6 P w K mg base A outer s H) (hl:vs.length=ps.length) (r:bA vs us)
  (x:InCallC s s.heap.objs.size (bindL (bAZ qual scope s.heap.objs.size f cd).kindOf (ps.zip us) λ_=>none) (cellsFrom (s.heap.objs.size+1) scope.names []) (bindC (bAZ qual scope s.heap.objs.size f cd).kindOf (ps.zip us) λ_=>none) s1) :
  aR (dE CX P w K mg base N qual scope f cd A outer s H E) [] (jJ N vs) H s1:=by
 have hpl:ps.length<=N.length:=by have:=congrArg aYA S.pre;rw [aNQ] at this;omega
 obtain ⟨h1,tk,rfl,hk⟩:=x.done;have noA:∀b:bAO,b∉(dE CX P w K mg base N qual scope f cd A outer s H E).ex:=λb z=>absurd (show b∈([]:List bAO) from z) (by simp);refine ⟨⟨e0.mod,S.kind,rfl,rfl,aFI _,λy z c h1 h2=>?_,λy hy=>?_,λy c _ h=>?_,λ_=>hd,Around.frames_deeper e0.frames,.inr ⟨rfl,rfl⟩,λb z=>absurd z (noA b),e0.bs,e0.bsz,λb _ _=>noA b,λb z=>absurd z (noA b),e0.funs,e0.frf⟩,
  rfl,e0.bare,Un.kept hk,⟨_,x.toInCall.ns,λi y v h1 h2 h3=>?_⟩,λy c h=>⟨_,x.cell y c h⟩,e0.hok.fresh (aFI _),λy c h=>?_,λp hp=>absurd (show p∈([]:List (bAO×Obj)) from hp) (by simp),e0.hok.kept hk,?_⟩
 ·exact name_of_addr x.apart (PySem.mem_of_lookup h1) (PySem.mem_of_lookup h2)
 ·have hy:scope.names.lookup y=some .cell\/scope.names.lookup y=some .free:=hy;rcases hy with hy | hy
  ·exact y6 hy
  ·exact absurd rfl (S.nofree _ (PySem.mem_of_lookup hy))
 ·exact aVY (x.above y c (PySem.mem_of_lookup h))
 ·have hi:i<vs.length:=by
   unfold jJ at h2
   by_cases hi:i<vs.length
   ·exact hi
   ·rw [aUO (by simpa using hi)] at h2;rw [aZ8] at h2;split at h2<;>cases h2
  have ha:vs[i]? = some v:=by
   unfold jJ at h2;rw [aE9 (by simpa using hi),aEO] at h2;cases e:vs[i]? with
   | none=>rw [e] at h2;cases h2
   | some a=>rw [e] at h2;cases h2;rfl
  obtain ⟨u,hu,rv⟩:=r.get ha;have hp:ps[i]? = some y:=by
   rw [<-S.pre,aVV (by omega)];exact h1
  have ndP:ps.Nodup:=by rw [<-S.pre];exact S.nd.sublist (List.take_sublist _ _)
  refine ⟨u,rv,?_⟩;rcases S.par y (aIR hp) with k | k
  ·exact .inl ⟨k,vA ndP hp hu k⟩
  ·obtain ⟨c,e⟩:=y6 (n:=s.heap.objs.size+1) k;refine .inr ⟨.inl k,c,e,?_⟩;have q:=x.cell y c e;rw [vJ ndP hp hu (by show scope.names.lookup y≠_;rw [k];decide)] at q;exact q
 ·exact e0.hok.fresh (aVY (x.above y c (PySem.mem_of_lookup h)))
 ·unfold jJ;show _=N.length;rw [aBN,aG5,aV2];omega
theorem aPK {CX:CXT} {P:bAR} {w:bAU} {K:W.Frag} {mg:Str->Option Value} {base:Heap} {k:Nat} {f:bAO} {name qual:Str} {params:Arguments} {body:List bAY} {scope:bA9} {dV kV doc pm cdv ct oc:Value} {an od:Option bAO}
  {osl:Array (Option Value)} {N ps:List Str} {sp:Sp} (lk:K.lookup f=some ⟨oc,od,.func (W.fnOf name qual params body scope dV kV doc pm an cdv ct),osl⟩) (hcd:W.codeIn K cdv qual=true) (S:aP N ps scope)
  (len:∀vs H Q E,sp vs H Q E->vs.length=ps.length)
  (hbody:∀(A:Around) (outer:List Env) (s:Shared) (H:Hp) (vs:List V) (Q:VK) (E:XK),cU k (A.deeper (bAZ qual scope s.heap.objs.size f cdv))->sp vs H Q E->
   ∃t,PSs (dE CX P w K mg base N qual scope f cdv A outer s H E) body t/\t { nx:=λ_ H'=>Q .non H',rt:=Q } (jJ N vs) H) :
  bI P w K mg base CX (k+1) f (W.fnOf name qual params body scope dV kV doc pm an cdv ct) ps sp:=by
 refine ⟨len,λA outer s H args us vs Q E hr e0 hb r hsp=>?_⟩;have hl:=len _ _ _ _ hsp;have KX:K.In s.heap:=e0.mod.kin.keeps λb o e=>(e0.bs b o e).1;have lim:s.heap.NoLimit:=e0.mod.nolimit.keeps λb o e=>(e0.bs b o e).1;have hkind:∀y∈ps.zip us,scope.names.lookup y.1=some .local\/(scope.names.lookup y.1=some .cell/\((cellsFrom (s.heap.objs.size+1) scope.names []).lookup y.1).isSome=true):=λ⟨n,v⟩ hy=>by
  rcases S.par n (bAD hy).1 with q | q
  ·exact .inl q
  ·exact .inr ⟨q,W.cellsFrom_some _ _ _ (.inl q)⟩
 refine codeAny_call_function hr.depth (KX _ _ lk) rfl S.co S.gen rfl (W.codeRec_of KX hcd) (hb _ _ _ _ ?_);refine wpAny_newFunctionEnv_cells S.kind hkind λenv he s1 x=>?_;subst he;refine ⟨lim.keeps x.toInCall.keep,codeAny_func ?_⟩;obtain ⟨t,ht,hq⟩:=hbody A outer s H vs Q E (hr.deeper _) hsp;have I:aR (dE CX P w K mg base N qual scope f cdv A outer s H E) [] (jJ N vs) H s1:=aGF S hr.hd e0 hl r x;refine bA8 (ht [] s1 (jJ N vs) H _ I hq) (λfl s' hs=>?_) λe s' hs=>hs;have fin:∀{σ':St} {H':Hp} {v:V} {u:Value},aR (dE CX P w K mg base N qual scope f cdv A outer s H E) [] σ' H' s'->bC v u->Q v H'->CE outer P w H s Q u s':=
  λ{σ' H' v u} J rv q=>⟨v,H',J.os,J.bare,J.base,J.hok,rv,q⟩
 cases fl with
 | ret u=>
  obtain ⟨v,σ',H',J,rv,q⟩:=hs;exact fin J rv q
 | next=>
  obtain ⟨σ',H',J,q⟩:=hs;exact fin (v:=V.non) (u:=aTX) J rfl q
 | brk=>
  obtain ⟨_,_,_,q⟩:=hs;exact False.elim q
 | cont=>
  obtain ⟨_,_,_,q⟩:=hs;exact False.elim q
section
variable {X:Cx} {x:Str} {p pos:Pos} {e:Expr} {es:List Expr} {t:TA} {id T:String} {r:List V->Hp->VK->Prop}
def tCB (r:List V->Hp->VK->Prop) (t:TA):TE:=λσ H Q=>t σ H λvs H1=>r vs H1 Q
theorem aIS (hc:fA X (.builtin id) r) (hg:Gl X x) (hm:X.mg x=none) (hv:bA3 x=some (.builtin id)) (ha:PA X (e::es) t) (hn:x≠"__name__":=by decide) (hdb:(x==("__debug__":Str))=false:=by decide)
  (he:bA0 (e::es) X.env=(false,bA2 e X.env)::bA0 es X.env:=by rfl) (hpl:(bBA pos (bA0 es X.env)).any (·.1)=false:=by rfl):PE X (.Call (.Name x p) (e::es) [] pos) (tCB r t):=by
 intro pins s σ H Q I h;refine bBJ (mH I hg hm hv ?_ hn hdb);exact PyProof.Rows.callWith_builtin1 (b9 (ha pos pins s σ H _ I h) λus s1 ⟨vs,H1,I1,r1,q1⟩=>hc pins s1 σ H1 vs us Q I1 r1 q1) he hpl
theorem aGJ (hc:fA X (.type T) r) (hg:Gl X x) (hm:X.mg x=none) (hv:bA3 x=some (.type T)) (ha:PA X (e::es) t) (hn:x≠"__name__":=by decide) (hdb:(x==("__debug__":Str))=false:=by decide)
  (he:bA0 (e::es) X.env=(false,bA2 e X.env)::bA0 es X.env:=by rfl) (hpl:(bBA pos (bA0 es X.env)).any (·.1)=false:=by rfl):PE X (.Call (.Name x p) (e::es) [] pos) (tCB r t):=by
 intro pins s σ H Q I h;refine bBJ (mH I hg hm hv ?_ hn hdb);exact PyProof.Rows.callWith_type1 (b9 (ha pos pins s σ H _ I h) λus s1 ⟨vs,H1,I1,r1,q1⟩=>hc pins s1 σ H1 vs us Q I1 r1 q1) he hpl
end
end L2
namespace HT
open PySem PyProof.Rows
section
open PySem.SeqAt
open PySem.AutoSeq1 (wpAny_loadPart')
open PySem.MeetsSeq PySem.MeetsSeq2 PySem.MeetsSeq3
end
section
variable {prog:bAR} {w:bAU} {A:Around} {E:Value->Shared->Prop} {s:Shared}
def sIx (n d:Nat):Option Int->Nat
 | none=>d
 | some v=>if v<0 then (v+(n:Int)).toNat else min v.toNat n
theorem sIx_none (n d:Nat):sIx n d none=d:=rfl
theorem sIx_nat (n d k:Nat):sIx n d (some (k:Int))=min k n:=by
 show (if (k:Int)<0 then ((k:Int)+(n:Int)).toNat else min (k:Int).toNat n)=min k n;rw [if_neg (by omega),aXM]
end
end HT
namespace L2
open PySem PySem.Spec PyProof.Rows
abbrev TO:=St->Hp->(Option Int->Hp->Prop)->Prop
def PO (X:Cx) (e:Option Expr) (t:TO):Prop:=
 ∀(pins:List (bAO×Obj)) (s:Shared) (σ:St) (H:Hp) (Q:Option Int->Hp->Prop),aR X pins σ H s->t σ H Q->
  bAQ (bAV X.prog X.w) X.A (evalPart e X.env) (λu s'=>∃o H',aR X pins σ H' s'/\IsPart u o/\Q o H') X.xe s
def aEL:TO:=λ_ H Q=>Q none H
def aOK (t:TE):TO:=λσ H Q=>t σ H λx H1=>∃i,x = .int i/\Q (some i) H1
section
variable {X:Cx} {e:Expr} {te:TE} {lo hi:Option Expr} {tl th:TO} {pos p2:Pos}
theorem aMG:PO X none aEL:=by
 intro pins s σ H Q I h;rw [bCM];exact bAT ⟨none,H,I,.none,h⟩
theorem aNM (h:PE X e te):PO X (some e) (aOK te):=by
 intro pins s σ H Q I hw;rw [evalPart_some];refine b9 (h pins s σ H _ I hw) λu s1 ⟨x,H1,I1,r1,q1⟩=>?_;obtain ⟨i,rfl,q⟩:=q1;obtain ⟨t,rfl⟩:=r1;exact ⟨some i,H1,I1,.int i t,q⟩
def SlR (X:Cx) (r:V->Option Int->Option Int->Hp->VK->Prop):Prop:=
 ∀(pins:List (bAO×Obj)) (s:Shared) (σ:St) (H:Hp) (x:V) (v vl vu:Value) (lo hi:Option Int) (sl:bAO) (Q:VK),aR X pins σ H s->bC x v->s.heap.IsSliceOf sl vl vu .none->IsPart vl lo->IsPart vu hi->r x lo hi H Q->
  ∃T id,typeLookup (.type T) "__getitem__" = pure (some (.builtin id))/\s.TypeIs v T/\bAQ (bAV X.prog X.w) X.A (bCD v (.ref sl)) (EP X pins σ Q) X.xe s
def tSl (r:V->Option Int->Option Int->Hp->VK->Prop) (te:TE) (tl th:TO):TE:=λσ H Q=>te σ H λx H1=>tl σ H1 λl H2=>th σ H2 λu H3=>r x l u H3 Q
theorem aHR {r:V->Option Int->Option Int->Hp->VK->Prop} (hr:SlR X r) (he:PE X e te) (hl:PO X lo tl) (hu:PO X hi th):PE X (.Subscript e (.Slice lo hi none p2) pos) (tSl r te tl th):=by
 intro pins s σ H Q I h;refine Subscript_ (b9 (he pins s σ H _ I h) λv s1 ⟨x,H1,I1,r1,q1⟩=>?_);refine wpAny_Slice (b9 (hl pins s1 σ H1 _ I1 q1) λvl s2 ⟨l,H2,I2,pl,q2⟩=>b9 (hu pins s2 σ H2 _ I2 q2) λvu s3 ⟨u,H3,I3,pu,q3⟩=>?_);rw [bCM];refine bAT ?_;have I4:aR X pins σ H3 { s3 with heap:=s3.heap.push { cls:=.type "slice",data:=.fields #[vl,vu,.none] } }:=I3.kept (t':=s3.toks) λb ob q=>aDZ _ q;obtain ⟨T,id,hT,ht,hg⟩:=hr pins { s3 with heap:=s3.heap.push { cls:=.type "slice",data:=.fields #[vl,vu,.none] } } σ H3 x v vl vu l u s3.heap.objs.size Q I4 r1 (Heap.IsSliceOf.new ..) pl pu q3;show bAQ (bAV X.prog X.w) X.A (subscriptTail e (.Slice lo hi none p2) v (.ref s3.heap.objs.size)) (EP X pins σ Q) X.xe { s3 with heap:=s3.heap.push { cls:=.type "slice",data:=.fields #[vl,vu,.none] } };exact tail_any (ops:=[.ref s3.heap.objs.size,v]) ht hT hg (by with_unfolding_all rfl)
def aF7 (xs:List V) (lo hi:Option Int):List V:=(xs.drop (HT.sIx xs.length 0 lo)).take (HT.sIx xs.length xs.length hi-HT.sIx xs.length 0 lo)
theorem aAZ (xs:List V) (lo hi:Option Int):(aF7 xs lo hi).length<=xs.length:=by
 unfold aF7;rw [aNQ,aLJ];omega
end
def ixN (n:Nat) (i:Int):Option Nat:=if 0<=i then (if i<n then some i.toNat else none) else if -(n:Int)<=i then some (i+n).toNat else none
def c8 {α:Type} (xs:List α) (i:Int):Option α:=(ixN xs.length i).bind λj=>xs[j]?
theorem aEM {n:Nat} {i:Int} {j:Nat} (h:ixN n i=some j):seqIndex? i n=some j/\j<n/\-(n:Int)<=i/\i<n:=by
 unfold ixN at h
 by_cases h0:0<=i
 ·rw [if_pos h0] at h
  by_cases h1:i<n
  ·rw [if_pos h1] at h;have e:i.toNat=j:=Option.some.inj h;exact ⟨by rw [seqIndex_of h0 h1,e],by omega,by omega,h1⟩
  ·rw [if_neg h1] at h;cases h
 ·rw [if_neg h0] at h
  by_cases h1:-(n:Int)<=i
  ·rw [if_pos h1] at h;have e:(i+n).toNat=j:=Option.some.inj h;exact ⟨by rw [seqIndex_neg (by omega) h1,e],by omega,h1,by omega⟩
  ·rw [if_neg h1] at h;cases h
theorem vX {α:Type} {xs:List α} {i:Int} {v:α} (h:c8 xs i=some v):∃j,seqIndex? i xs.length=some j/\xs[j]? = some v/\j<xs.length/\-(xs.length:Int)<=i/\i<xs.length:=by
 unfold c8 at h;cases e:ixN xs.length i with
 | none=>rw [e] at h;cases h
 | some j=>
  rw [e] at h;obtain ⟨h1,h2,h3,h4⟩:=aEM e;exact ⟨j,h1,h,h2,h3,h4⟩
theorem cM {α:Type} {xs:List α} {j:Nat} {v:α} (h:xs[j]? = some v):c8 xs (j:Int)=some v:=by
 have hj:j<xs.length:=(aA8.mp h).1;have e:ixN xs.length (j:Int)=some j:=by
  unfold ixN;rw [if_pos (by omega),if_pos (by omega)];simp
 unfold c8;rw [e];exact h
def qV (b:Expr):Prop:=∀o i,bB9 b false o i=operate [o,i] (bCD o i)
def IxR (X:Cx) (r:R2):Prop:=
 ∀(value slice:Expr) (pins:List (bAO×Obj)) (s:Shared) (σ:St) (H:Hp) (x y:V) (v u:Value) (Q:VK),aR X pins σ H s->bC x v->bC y u->r x y H Q->
  bB9 slice false v u=operate [v,u] (bCD v u)->bAQ (bAV X.prog X.w) X.A (subscriptTail value slice v u) (EP X pins σ Q) X.xe s
def MtR (X:Cx) (id:String) (r:V->List V->Hp->VK->Prop):Prop:=
 ∀(pins:List (bAO×Obj)) (s:Shared) (σ:St) (H:Hp) (x:V) (xs:List V) (v:Value) (us:List Value) (Q:VK),aR X pins σ H s->bC x v->bA xs us->r x xs H Q->
  bAQ (bAV X.prog X.w) X.A (call (.builtin id) (v::us)) (EP X pins σ Q) X.xe s
section
variable {X:Cx} {a b:Expr} {ta tb:TE} {pos:Pos}
theorem IxR.or {r r':R2} (h:IxR X r) (h':IxR X r'):IxR X (λx y H Q=>r x y H Q\/r' x y H Q):=by
 intro value slice pins s σ H x y v u Q I rx ry q hs;rcases q with q | q
 ·exact h value slice pins s σ H x y v u Q I rx ry q hs
 ·exact h' value slice pins s σ H x y v u Q I rx ry q hs
theorem aU2 {r:R2} (hr:IxR X r) (ha:PE X a ta) (hb:PE X b tb) (hs:qV b):PE X (.Subscript a b pos) (tOp r ta tb):=by
 intro pins s σ H Q I h;exact Subscript_ (aRN ha hb I h λv u s2 x y H2 I2 rx ry q=>hr a b pins s2 σ H2 x y v u Q I2 rx ry q (hs _ _))
def aVJ (K:W.Frag):R2:=λx y H Q=>∃p xs i v,x = .ref p/\y = .int i/\kF K H p xs/\c8 xs i=some v/\Q v H
def aTP (K:W.Frag):R2:=λx y H Q=>∃p xs i v,x = .ref p/\y = .int i/\tP K H p xs/\c8 xs i=some v/\Q v H
def aTT:R2:=λx y H Q=>∃z i c,x = .str z/\y = .int i/\z.length<=bAW/\c8 z.cps.toList i=some c/\Q (.str ⟨#[c]⟩) H
theorem aL9:IxR X (aVJ X.K):=by
 intro value slice pins s σ H x y v u Q I rx ry h hs;obtain ⟨p,xs,i,z,rfl,rfl,hq,he,q⟩:=h;cases rx;obtain ⟨t,rfl⟩:=ry;obtain ⟨its,r,pl,hz⟩:=I.list hq;obtain ⟨j,h1,h2,h3,h4,h5⟩:=vX he;obtain ⟨w,ew,rw'⟩:=r.get h2;have hl:=r.length;have hn:=pE;have fin:EP X pins σ Q w s:=⟨z,H,I,rw',q⟩
 by_cases h0:0<=i
 ·have hj:i.toNat=j:=by
   rw [seqIndex_of h0 h5] at h1;exact Option.some.inj h1
  exact item_listR pl.isList h0 (by omega) (by rw [hj];simpa using ew) fin hs
 ·have hj:(i+(its.toArray.size:Int)).toNat=j:=by
   rw [seqIndex_neg (by omega) h4] at h1;rw [aOX,<-hl];exact Option.some.inj h1
  exact subscriptTail_builtinR (x:=w) pl.isList.typeIs slot_list_getitem.lookup
   (wpAny_getItem_list_neg (Q:=λr s'=>r=w/\EP X pins σ Q r s') pl.isList (by omega) (by rw [aOX]<;>omega) (by omega) (by rw [hj];simpa using ew) ⟨rfl,fin⟩) hs
theorem aR9:IxR X (aTP X.K):=by
 intro value slice pins s σ H x y v u Q I rx ry h hs;obtain ⟨p,xs,i,z,rfl,rfl,hq,he,q⟩:=h;cases rx;obtain ⟨t,rfl⟩:=ry;obtain ⟨its,r,pl,hz⟩:=I.tuple hq;obtain ⟨j,h1,h2,h3,h4,h5⟩:=vX he;obtain ⟨w,ew,rw'⟩:=r.get h2;have hl:=r.length;have hn:=pE;have fin:EP X pins σ Q w s:=⟨z,H,I,rw',q⟩;exact subscriptTail_builtinR (x:=w) pl.typeIs slot_tuple_getitem.lookup
  (getItem_tuple (j:=j) (Q:=λr s'=>r=w/\EP X pins σ Q r s') pl (by omega) (by omega) (by rw [aOX,<-hl];exact h1) (by simpa using ew) ⟨rfl,fin⟩) hs
theorem aPP:IxR X aTT:=by
 intro value slice pins s σ H x y v u Q I rx ry h hs;obtain ⟨z,i,c,rfl,rfl,hz,he,q⟩:=h;obtain ⟨t,rfl⟩:=rx;obtain ⟨t',rfl⟩:=ry;obtain ⟨j,h1,h2,h3,h4,h5⟩:=vX he;have hl:z.cps.toList.length=z.length:=by simp [bAL]
 rw [hl] at h1 h4 h5;have hn:=pE;exact tail_any (bBZ s z t) slot_str_getitem.lookup (getItem_str (c:=c) (by
  have e1:decide (i < -(2^63:Int))=false:=decide_eq_false (by omega);have e2:decide (i>=2^63)=false:=decide_eq_false (by omega);rw [e1,e2,Bool.or_false]) (by rw [h1];simpa using h2) ⟨.str ⟨#[c]⟩,H,I.tok _,⟨_,rfl⟩,q⟩) hs
def rIx (K:W.Frag):R2:=λx y H Q=>aVJ K x y H Q\/aTP K x y H Q\/aTT x y H Q
theorem aJP:IxR X (rIx X.K):=aL9.or (aR9.or aPP)
theorem aC6 (its:List Value) (n j:Nat) (u:Value):aXP (·.setIfInBounds j u) { cls:=.type "list",data:=.seq its.toArray n } = { cls:=.type "list",data:=.seq (its.set j u).toArray n }:=by
 simp [aXP]
theorem aR.lst {pins:List (bAO×Obj)} {σ:St} {H:Hp} {s:Shared} {p:bAO} {xs:List V} (I:aR X pins σ H s) (h:H p=some (.lst xs)) :
  ∃(its:List Value) (n:Nat),bA xs its/\s.heap.get? p=some { cls:=.type "list",data:=.seq its.toArray n }/\xs.length<=bAW:=by
 obtain ⟨z,its,n,r,e⟩:=I.hok p _ h;exact ⟨its,n,r,e,z⟩
theorem aR.lstUpd {pins:List (bAO×Obj)} {σ:St} {H:Hp} {s:Shared} {p:bAO} {xs ys:List V} {its its':List Value} {n n':Nat} {f:Obj->Obj} (I:aR X pins σ H s) (h:H p=some (.lst xs))
  (ho:s.heap.get? p=some { cls:=.type "list",data:=.seq its.toArray n }) (hf:f { cls:=.type "list",data:=.seq its.toArray n } = { cls:=.type "list",data:=.seq its'.toArray n' }) (r:bA ys its') (hz:ys.length<=bAW) (t:Nat) :
  aR X pins σ (upd H p (.lst ys)) { s with heap:=s.heap.update p f,toks:=t }:=by
 have e:(s.heap.update p f).get? p=some { cls:=.type "list",data:=.seq its'.toArray n' }:=by
  rw [aQU f ho (by rw [hf]<;>rfl),hf]
 refine I.write (x:=p) (e:=p) (by rw [h];trivial) (.inl rfl) (λb u hb q=>(aLK _ _ (Ne.symm hb)).trans q) ⟨_,e⟩ ?_;exact ⟨hz,its',n',r,e⟩
def aUX:V->V->V->Hp->(Hp->Prop)->Prop:=λo i v H Q=>∃p xs k j,o = .ref p/\i = .int k/\H p=some (.lst xs)/\ixN xs.length k=some j/\Q (upd H p (.lst (xs.set j v)))
theorem aJ5:aPS X aUX:=by
 intro pins s σ H o i v ov iv u Q I ro ri rv h;obtain ⟨p,xs,k,j,rfl,rfl,hp,hj,q⟩:=h;cases ro;obtain ⟨t,rfl⟩:=ri;obtain ⟨its,n,r,ho,hz⟩:=I.lst hp;obtain ⟨h1,h2,h3,h4⟩:=aEM hj;have hl:=r.length;have hn:=pE;have I':aR X pins σ (upd H p (.lst (xs.set j v))) { s with heap:=s.heap.update p (aXP (·.setIfInBounds j u)) }:=
  I.lstUpd hp ho (aC6 its n j u) (r.set rv j) (by rw [aXN];exact hz) s.toks
 by_cases h0:0<=k
 ·have hk:k.toNat=j:=by
   rw [seqIndex_of h0 h4] at h1;exact Option.some.inj h1
  exact W.ki_setAt ho h0 (by omega) (by rw [aOX,<-hl];exact h4) (by rw [hk];exact ⟨_,I',q⟩)
 ·have hk:(k+(its.toArray.size:Int)).toNat=j:=by
   rw [seqIndex_neg (by omega) h3] at h1;rw [aOX,<-hl];exact Option.some.inj h1
  exact W.ki_setBack ho (by omega) (by rw [aOX,<-hl];exact h3) (by omega) (by rw [hk];exact ⟨_,I',q⟩)
theorem yK (lo hi:Option Int) (n:Nat):(bB3 lo hi none n).1=((HT.sIx n 0 lo:Nat):Int)/\(bB3 lo hi none n).2.1=((HT.sIx n n hi:Nat):Int)/\(bB3 lo hi none n).2.2=1:=by
 refine ⟨?_,?_,rfl⟩
 ·cases lo with
  | none=>simp [bB3,HT.sIx]
  | some i=>
   simp only [bB3,HT.sIx,Option.getD_none,show (1:Int)>0 by decide,if_true]
   by_cases h:i<0
   ·simp only [h,if_true]<;>omega
   ·simp only [h,if_false]<;>omega
 ·cases hi with
  | none=>simp [bB3,HT.sIx]
  | some i=>
   simp only [bB3,HT.sIx,Option.getD_none,show (1:Int)>0 by decide,if_true]
   by_cases h:i<0
   ·simp only [h,if_true]<;>omega
   ·simp only [h,if_false]<;>omega
theorem tS (its:List Value) (lo hi:Option Int):slicePick its.toArray lo hi none=((its.drop (HT.sIx its.length 0 lo)).take (HT.sIx its.length its.length hi-HT.sIx its.length 0 lo)).toArray:=by
 obtain ⟨h1,h2,h3⟩:=yK lo hi its.toArray.size;unfold slicePick;rw [h1,h2,h3];simp only [sliceRange_one,pick_run,aOX]<;>rfl
def aW0 (K:W.Frag):V->Option Int->Option Int->Hp->VK->Prop:=λx lo hi H Q=>∃a xs,x = .ref a/\kF K H a xs/\∀p,H p=none->Q (.ref p) (upd H p (.lst (aF7 xs lo hi)))
theorem aL6:SlR X (aW0 X.K):=by
 intro pins s σ H x v vl vu lo hi sl Q I rx hs pl pu h;obtain ⟨a,xs,rfl,hx,q⟩:=h;cases rx;obtain ⟨its,r,ht,hz⟩:=I.list hx;have hlen:=r.length;refine ⟨"list",_,slot_list_getitem.lookup,ht.isList.typeIs,?_⟩;refine wpAny_getItem_list_slice ht.isList hs pl pu .none (by simp) ?_ (by rw [aOX]<;>omega);rw [tS,<-hlen];refine ⟨.ref s.heap.objs.size,_,I.laid (t':=s.toks) (o:=.lst (aF7 xs lo hi)) (λb ob q=>aDZ _ q) (aFI _) ?_,rfl,q _ (I.hok.fresh (aFI _))⟩;exact ⟨aVD (aAZ xs lo hi) hz,_,0,(r.drop (HT.sIx xs.length 0 lo)).take (HT.sIx xs.length xs.length hi-HT.sIx xs.length 0 lo),aLS _ rfl⟩
theorem vW:fA X (.builtin "len") (λxs H Q=>∃p ys,xs=[.ref p]/\(kF X.K H p ys\/tP X.K H p ys)/\Q (.int ys.length) H):=by
 intro pins s σ H xs us Q I r h;obtain ⟨p,ys,rfl,hq,q⟩:=h;obtain ⟨u,rfl,rx⟩:=iF r;cases rx;have hn:=pE;rcases hq with hq | hq
 ·obtain ⟨its,r',pl,hz⟩:=I.list hq;have hlen:=r'.length;exact Calls.call_len_list pl.isList (by simp only [aOX]<;>omega) ⟨.int ys.length,H,I.tok _,⟨s.toks+1,by rw [aOX,hlen]⟩,q⟩
 ·obtain ⟨its,r',pl,hz⟩:=I.tuple hq;have hlen:=r'.length;exact len_tuple pl (by simp only [aOX]<;>omega) ⟨.int ys.length,H,I.tok _,⟨s.toks+1,by rw [aOX,hlen]⟩,q⟩
theorem xH:fA X (.builtin "len") (λxs H Q=>∃z,xs=[.str z]/\z.length<=bAW/\Q (.int z.length) H):=by
 intro pins s σ H xs us Q I r h;obtain ⟨z,rfl,hz,q⟩:=h;obtain ⟨u,rfl,t,rfl⟩:=iF r;have hn:=pE;exact len_str (by omega) ⟨.int z.length,H,I.tok _,⟨_,rfl⟩,q⟩
theorem xZ:fA X (.type "list") (λxs H Q=>∃p ys,xs=[.ref p]/\(kF X.K H p ys\/tP X.K H p ys)/\∀l,H l=none->Q (.ref l) (upd H l (.lst ys))):=by
 intro pins s σ H xs us Q I r h;obtain ⟨p,ys,rfl,hq,q⟩:=h;obtain ⟨u,rfl,rx⟩:=iF r;cases rx;have fin:∀(its:List Value),bA ys its->ys.length<=bAW->∀(h':Heap) (c':Nat),(∀b o',s.heap.get? b=some o'->h'.get? b=some o')->
   h'.get? s.heap.objs.size=some { cls:=.type "list",dict:=none,data:=.seq its.toArray c',slots:=#[] }->EP X pins σ Q (.ref s.heap.objs.size) { s with heap:=h' }:=λits r' hz h' c' kp e=>
  ⟨.ref s.heap.objs.size,_,I.laid (t':=s.toks) kp (aFI _) (show cP X.prog X.w _ h' _ (.lst ys) from ⟨hz,its,c',r',e⟩),rfl,q _ (I.hok.fresh (aFI _))⟩
 rcases hq with hq | hq
 ·obtain ⟨its,r',pl,hz⟩:=I.list hq;have hlen:=r'.length;obtain ⟨o,ho,hc,n,hd⟩:=pl.isList;exact call_list_seq p (.inl rfl) ho hc hd (λh' c' kp e=>fin its r' hz h' c' kp e) (by simp only [aOX]<;>omega)
 ·obtain ⟨its,r',pl,hz⟩:=I.tuple hq;have hlen:=r'.length;obtain ⟨o,ho,hc,n,hd⟩:=pl;exact call_list_seq p (.inr rfl) ho hc hd (λh' c' kp e=>fin its r' hz h' c' kp e) (by simp only [aOX]<;>omega)
theorem tX:fA X (.type "tuple") (λxs H Q=>∃p ys,xs=[.ref p]/\((kF X.K H p ys/\∀l,H l=none->Q (.ref l) (upd H l (.tup ys)))\/(tP X.K H p ys/\Q (.ref p) H))):=by
 intro pins s σ H xs us Q I r h;obtain ⟨p,ys,rfl,h⟩:=h;obtain ⟨u,rfl,rx⟩:=iF r;cases rx;rcases h with ⟨hq,q⟩ | ⟨hq,q⟩
 ·obtain ⟨its,r',pl,hz⟩:=I.list hq;have hlen:=r'.length;refine call_tuple_list pl.isList (λh' kp=>?_) (by simp only [aOX]<;>omega);have I1:aR X pins σ H { s with heap:=h' }:=I.kept (t':=s.toks) kp;have I2:aR X pins σ (upd H h'.objs.size (.tup ys)) { s with heap:=h'.push { cls:=.type "tuple",data:=.seq its.toArray } }:=
   I1.laid (t':=s.toks) (λb o e=>aDZ _ e) (aFI _) (show cP X.prog X.w _ _ _ (.tup ys) from ⟨hz,its,r',IsTup.new _ _⟩)
  exact ⟨.ref h'.objs.size,_,I2,rfl,q _ (I1.hok.fresh (aFI _))⟩
 ·obtain ⟨its,r',pl,hz⟩:=I.tuple hq;exact call_tuple_same pl ⟨.ref p,H,I,rfl,q⟩
def tyV (K:W.Frag) (T:String) (x:V) (H:Hp):Prop:=match x with
 | .str _=>T = "str"
 | .int _=>T = "int"
 | .ref p=>(T = "list"/\∃xs,kF K H p xs)\/(T = "tuple"/\∃o,K.lookup p=some o/\o.cls = .type "tuple"/\o.dict=none)\/
   (T = "dict"/\((∃kvs,H p=some (.dK kvs))\/∃kvs,H p=some (.dT kvs)))\/(T = "set"/\∃S n,H p=some (.set S n))
 | _=>False
theorem aI3 {pins:List (bAO×Obj)} {σ:St} {H:Hp} {s:Shared} {T:String} {x:V} {v:Value} (I:aR X pins σ H s) (r:bC x v) (ty:tyV X.K T x H) :
  s.TypeIs v T/\∀a,v = .ref a->∃ob,s.heap.get? a=some ob/\ob.dict=none:=by
 cases x with
 | str z=>
  obtain ⟨t,rfl⟩:=r;cases (show T = "str" from ty);exact ⟨bBZ s z t,λ_ e=>nomatch e⟩
 | int i=>
  obtain ⟨t,rfl⟩:=r;cases (show T = "int" from ty);exact ⟨typeIs_int s i t,λ_ e=>nomatch e⟩
 | ref p=>
  cases r;rcases ty with ⟨rfl,xs,hq⟩ | ⟨rfl,o,hk,hc,hd⟩ | ⟨rfl,hk⟩ | ⟨rfl,S,n,hk⟩
  ·obtain ⟨its,_,pl,_⟩:=I.list hq;refine ⟨pl.isList.typeIs,λa e=>?_⟩;cases e;obtain ⟨o,n,e,c,hd,_⟩:=pl;exact ⟨o,e,hd⟩
  ·refine ⟨⟨o,I.kIn p o hk,hc⟩,λa e=>?_⟩;cases e;exact ⟨o,I.kIn _ o hk,hd⟩
  ·have z:∃o,s.heap.get? p=some o/\o.ExactDict:=by
    rcases hk with ⟨kvs,hk⟩ | ⟨kvs,hk⟩
    ·obtain ⟨_,_,_,_,o,_,_,e,ex,_⟩:=I.hok p _ hk;exact ⟨o,e,ex⟩
    ·obtain ⟨_,_,_,_,o,_,_,e,ex,_⟩:=I.hok p _ hk;exact ⟨o,e,ex⟩
   obtain ⟨o,e,ex⟩:=z;refine ⟨⟨o,e,ex.1⟩,λa e2=>?_⟩;cases e2;exact ⟨o,e,ex.2.1⟩
  ·obtain ⟨o,_,_,_,e,ex,_⟩:=I.hok p _ hk;refine ⟨⟨o,e,ex.1⟩,λa e2=>?_⟩;cases e2;exact ⟨o,e,ex.2.1⟩
 | _=>exact False.elim ty
def aU6 (K:W.Frag) (T:String) (r:V->List V->Hp->VK->Prop) (to:TE):TE:=λσ H Q=>to σ H λx H1=>tyV K T x H1/\r x [] H1 Q
def tBM (K:W.Frag) (T:String) (r:V->List V->Hp->VK->Prop) (to:TE) (t:TA):TE:=λσ H Q=>to σ H λx H1=>tyV K T x H1/\t σ H1 λxs H2=>r x xs H2 Q
variable {o e:Expr} {es:List Expr} {to:TE} {t:TA} {name:Str} {apos cpos:Pos} {T id:String} {r:V->List V->Hp->VK->Prop}
theorem aK9 (pa:PlainAttrs T) (slot:Slot T name id) (hty:typeOf (.builtin id)=pure (.type "method_descriptor")) (hm:MtR X id r) (ho:PE X o to)
  (hbase:bA4 o name X.env (bA2 o X.env)=bA2 o X.env:=by rfl) (hline:(apos.endLine==cpos.line)=true:=by rfl):PE X (.Call (.Attribute o name apos) [] [] cpos) (aU6 X.K T r to):=by
 intro pins s σ H Q I h;refine wpAny_Call_method0_late hbase hline (b9 (ho pins s σ H _ I h) λv s1 ⟨x,H1,I1,r1,ty,q1⟩=>?_);obtain ⟨h1,h2⟩:=aI3 I1 r1 ty;exact ⟨T,id,pa,slot,hty,h1,h2,Calls.callWith_builtin rfl (PySem.evalArgs_none (hm pins s1 σ H1 x [] v [] Q I1 r1 .nil q1))⟩
theorem aLB (pa:PlainAttrs T) (slot:Slot T name id) (hty:typeOf (.builtin id)=pure (.type "method_descriptor")) (hm:MtR X id r) (ho:PE X o to) (ha:PA X (e::es) t)
  (hbase:bA4 o name X.env (bA2 o X.env)=bA2 o X.env:=by rfl)
  (hfew:((bBA cpos (bA0 (e::es) X.env)).all (λx=>!x.1)&&(backToKw cpos (keywordEach [] X.env)).all (λx=>x.1.isSome)
  &&decide ((e::es).length+([]:List Keyword).length+(if ([]:List Keyword).isEmpty then 0 else 1)<30))=true:=by rfl)
  (hline:(apos.endLine==cpos.line)=true:=by rfl) (hs:bA0 (e::es) X.env=(false,bA2 e X.env)::bA0 es X.env:=by rfl) (hplain:(bBA cpos (bA0 es X.env)).any (·.1)=false:=by rfl) :
  PE X (.Call (.Attribute o name apos) (e::es) [] cpos) (tBM X.K T r to t):=by
 intro pins s σ H Q I h;refine wpAny_Call_method_late hbase hfew hline rfl (b9 (ho pins s σ H _ I h) λv s1 ⟨x,H1,I1,r1,ty,q1⟩=>?_);obtain ⟨h1,h2⟩:=aI3 I1 r1 ty;refine ⟨T,id,pa,slot,hty,h1,h2,?_⟩;have hA:=ha cpos pins s1 σ H1 _ I1 q1;rw [hs] at hA ⊢;refine Calls.callWith_builtin (by show (false||(bBA cpos (bA0 es X.env)).any (·.1))=false;rw [hplain]<;>rfl) (Calls.evalArgs_plain ?_);exact b9 hA λus s2 ⟨vs,H2,I2,r2,q2⟩=>hm pins s2 σ H2 x vs v us Q I2 r1 r2 q2
/- xs.append(e),list.index on a module's tuple .. are MtR facts of 06m -/
end
def MtM (X:Cx) (id:String) (r:V->List V->Hp->VK->Prop):Prop:=
 ∀(pins:List (bAO×Obj)) (s:Shared) (σ:St) (H:Hp) (x:V) (xs:List V) (v:Value) (us:List Value) (Q:VK),aR X pins σ H s->bC x v->bA xs us->r x xs H Q->
  bAQ (bAV X.prog X.w) X.A (call (.builtin id) (v::us)) (EP X pins σ Q) X.xe s
theorem bA.one:∀{x:V} {us:List Value},bA [x] us->∃u,us=[u]/\bC x u
 | _,_,.cons r .nil=>⟨_,rfl,r⟩
theorem bA.two:∀{x y:V} {us:List Value},bA [x,y] us->∃u v,us=[u,v]/\bC x u/\bC y v
 | _,_,_,.cons r (.cons q .nil)=>⟨_,_,rfl,r,q⟩
theorem bA.eraseIdx:∀{xs:List V} {us:List Value} (i:Nat),bA xs us->bA (xs.eraseIdx i) (us.eraseIdx i)
 | _,_,_,.nil=>.nil
 | _,_,0,.cons _ t=>t
 | _,_,i+1,.cons r t=>.cons r (bA.eraseIdx i t)
theorem bA.reverse {xs:List V} {us:List Value} (h:bA xs us):bA xs.reverse us.reverse:=by
 induction h with
 | nil=>exact .nil
 | cons r t ih=>rw [aX0,aX0];exact bA.append ih (.cons r .nil)
theorem bA.rep {xs:List V} {us:List Value} (h:bA xs us):∀k:Nat,bA (aEH k xs).flatten (aEH k us).flatten
 | 0=>.nil
 | k+1=>by
  rw [aVW,aVW,aSX,aSX];exact bA.append h (bA.rep h k)
theorem uS {α:Type}:∀(l:List α) (i:Nat),(l.eraseIdx i).length<=l.length
 | [],_=>aFI _
 | _::_,0=>Nat.le_succ _
 | _::r,i+1=>aZB (uS r i)
theorem uN (its:List Value):∀(k:Nat) (acc:List Value),
  List.foldl (λx1 x2=>x1++x2) acc.toArray (aEH k its.toArray)=(acc++(aEH k its).flatten).toArray
 | 0,acc=>by simp
 | k+1,acc=>by
  have e:acc.toArray++its.toArray=(acc++its).toArray:=by simp
  have e2:(acc++its)++(aEH k its).flatten=acc++(aEH (k+1) its).flatten:=by
   rw [aVW,aSX,aEE]
  rw [<-e2,<-uN its k (acc++its),<-e,aVW,List.foldl_cons]
section
variable {X:Cx} {pins:List (bAO×Obj)} {σ:St} {H:Hp} {s:Shared} {l b:bAO} {xs ys zs:List V}
theorem aR.lset {its its':List Value} {n:Nat} {f:Array Value->Array Value} {t':Nat} (I:aR X pins σ H s) (hH:H l=some (.lst xs))
  (e:s.heap.get? l=some { cls:=.type "list",data:=.seq its.toArray n }) (hf:f its.toArray=its'.toArray) (hv:bA ys its') (hz:ys.length<=bAW) :
  aR X pins σ (upd H l (.lst ys)) { s with heap:=s.heap.update l (aXP f),toks:=t' }:=by
 have q:=PySem.IsL.update e f;rw [hf] at q;refine I.write (x:=l) (e:=l) (by rw [hH];exact trivial) (.inl rfl) (λb' u hb hu=>(aLK s.heap (aXP f) (Ne.symm hb)).trans hu) ⟨_,q⟩ ?_;exact ⟨hz,its',_,hv,q⟩
theorem aR.lnew {its:List Value} {t':Nat} (I:aR X pins σ H s) (hv:bA ys its) (hz:ys.length<=bAW) :
  aR X pins σ (upd H s.heap.objs.size (.lst ys)) { s with heap:=s.heap.push { cls:=.type "list",data:=.seq its.toArray },toks:=t' }:=
 I.laid (λ_ _ q=>aDZ _ q) (aFI _) ⟨hz,its,0,hv,aLS _ rfl⟩
theorem aR.fresh (I:aR X pins σ H s):H s.heap.objs.size=none:=I.hok.fresh (aFI _)
theorem aR.lstM (I:aR X pins σ H s) (hH:H l=some (.lst xs)):xs.length<=bAW/\∃(its:List Value) (n:Nat),bA xs its/\xs.length=its.length/\s.heap.get? l=some { cls:=.type "list",data:=.seq its.toArray n }:=by
 obtain ⟨z,its,n,r,e⟩:=I.hok l _ hH;exact ⟨z,its,n,r,r.length,e⟩
theorem aI2 {n:Nat} (h:n<=bAW):Builtin.List.listTooLong n=false:=by
 unfold Builtin.List.listTooLong;exact decide_eq_false (by omega)
end
section
variable {X:Cx}
def aEC:V->List V->Hp->VK->Prop:=λx vs H Q=>∃l xs y,x = .ref l/\vs=[y]/\H l=some (.lst xs)/\xs.length<bAW/\Q .non (upd H l (.lst (xs++[y])))
theorem oU:MtM X "list.append" aEC:=by
 intro pins s σ H x vs v us Q I rx rv h;obtain ⟨l,xs,y,rfl,rfl,hH,hz,q⟩:=h;cases rx;obtain ⟨u,rfl,ru⟩:=rv.one;obtain ⟨z,its,n,r,hl,e⟩:=I.lstM hH;refine bB0 F.slot_list_append ⟨_,e,rfl⟩ F.entry_list_append (F.args_list_append_2 _ _) (PySem.list_append l its.toArray n u (by rw [aOX];omega)) ⟨e,?_⟩;refine ⟨.non,_,I.lset (its':=its++[u]) hH e (by simp) (r.append (.cons ru .nil)) ?_,rfl,q⟩;rw [aBN,aYS];omega
def aHL:V->List V->Hp->VK->Prop:=λx vs H Q=>∃l xs i k y,x = .ref l/\vs=[.int i]/\H l=some (.lst xs)/\-(2^63)<=i/\i<2^63/\seqIndex? i xs.length=some k/\xs[k]? = some y/\Q y (upd H l (.lst (xs.eraseIdx k)))
theorem aHP:MtM X "list.pop" aHL:=by
 intro pins s σ H x vs v us Q I rx rv h;obtain ⟨l,xs,i,k,y,rfl,rfl,hH,h1,h2,hk,hy,q⟩:=h;cases rx;obtain ⟨u,rfl,ru⟩:=rv.one;obtain ⟨t,rfl⟩:=ru;obtain ⟨z,its,n,r,hl,e⟩:=I.lstM hH;obtain ⟨w,hw,rw'⟩:=r.get hy;refine bB0 F.slot_list_pop ⟨_,e,rfl⟩ F.entry_list_pop (F.args_list_pop_2 _ _)
  (MeetsSeq.list_pop_at l its.toArray n i t k w (fitsIndex_both h1 h2) (by rw [aOX,<-hl];exact hk) (by rw [<-bAH];exact hw) (by rw [aOX];omega)) ⟨e,?_⟩
 refine ⟨y,_,I.lset (its':=its.eraseIdx k) hH e ?_ (r.eraseIdx k) ?_,rw',q⟩
 ·show its.toArray.eraseIdxIfInBounds k=(its.eraseIdx k).toArray;rw [List.eraseIdxIfInBounds_toArray]
 ·have:=uS xs k;omega
def aWE:R2:=λx y H Q=>∃l b xs zs,x = .ref l/\y = .ref b/\H l=some (.lst xs)/\H b=some (.lst zs)/\xs.length+zs.length<=bAW/\∀p,H p=none->Q (.ref p) (upd H p (.lst (xs++zs)))
theorem aSB:jP X (bBG .Add) aWE:=by
 intro pins s σ H x y v u Q I rx ry h;obtain ⟨l,b,xs,zs,rfl,rfl,hH,hB,hz,q⟩:=h;cases rx;cases ry;obtain ⟨z,its,n,r,hl,e⟩:=I.lstM hH;obtain ⟨z2,its2,n2,r2,hl2,e2⟩:=I.lstM hB;refine PySem.P.add_list e e2 ?_ (by rw [aOX,aOX];omega);have ea:its.toArray++its2.toArray=(its++its2).toArray:=by simp
 rw [ea];exact ⟨.ref _,_,I.lnew (t':=s.toks) (r.append r2) (by rw [aBN];omega),rfl,q _ I.fresh⟩
def aWQ:R2:=λx y H Q=>∃l k xs,x = .ref l/\y = .int k/\H l=some (.lst xs)/\-(2^63)<=k/\k<2^63/\xs.length*k.toNat<=bAW/\
 ∀p,H p=none->Q (.ref p) (upd H p (.lst (aEH k.toNat xs).flatten))
theorem aL2 {α:Type} (xs:List α) (k:Nat):(aEH k xs).flatten.length=k*xs.length:=by
 induction k with
 | zero=>simp
 | succ k ih=>rw [aVW,aSX,aBN,ih,Nat.succ_mul,Nat.add_comm]
theorem aQJ:jP X (bBG .Mult) aWQ:=by
 intro pins s σ H x y v u Q I rx ry h;obtain ⟨l,k,xs,rfl,rfl,hH,h1,h2,hz,q⟩:=h;cases rx;obtain ⟨t,rfl⟩:=ry;obtain ⟨z,its,n,r,hl,e⟩:=I.lstM hH;have hlen:its.toArray.size*k.toNat<=bAW:=by rw [aOX,<-hl];exact hz
 have hcap:¬its.toArray.size*k.toNat>(2^63-1)/8:=by
  have:(bAW:Nat)<=(2^63-1)/8:=by decide
  omega
 have hfit:¬(!Builtin.List.listFitsIndex k)=true:=by
  rw [fitsIndex_both h1 h2];exact aXS
 have hlong:¬Builtin.List.listTooLong (its.toArray.size*k.toNat)=true:=by
  rw [aI2 hlen];exact aXS
 have hnew:List.foldl (λx1 x2=>x1++x2) #[] (aEH (if its.toArray.isEmpty=true then 0 else k.toNat) its.toArray)=(aEH k.toNat its).flatten.toArray:=by
  have f0:∀m:Nat,List.foldl (λx1 x2=>x1++x2) #[] (aEH m its.toArray)=(aEH m its).flatten.toArray:=λm=>by
   have:=uN its m [];rw [List.nil_append] at this;exact this
  rw [f0];cases its with
  | nil=>simp
  | cons a r'=>rw [if_neg (by simp)]
 refine wpAny_binaryOp_repeat_ref (T:="list") (U:="int") (by decide) ⟨_,e,rfl⟩ (λs'=>typeIs_int s' k t) noFill_list_mul F.fills_int_mul F.slot_int_rmul repeat_list F.slot_int_index.lookup
  (bB0 F.slot_int_rmul (typeIs_int s k t) F.entry_int_rmul (F.args_int_rmul_2 _ _) (int___rmul___int_list k t l its.toArray n)
   ⟨e,rfl,⟨_,e,rfl⟩,bB0 F.slot_list_mul ⟨_,e,rfl⟩ F.entry_list_mul (F.args_list_mul_2 _ _) (AutoListH.list___mul___list_int_3 l its.toArray n k t hfit hcap hlong) ⟨e,?_⟩⟩)
 rw [hnew];exact ⟨.ref _,_,I.lnew (t':=s.toks) (r.rep k.toNat) (by rw [aL2,aZX];exact hz),rfl,q _ I.fresh⟩
end
section
variable {prog:bAR} {w:bAU} {A:Around} {E:Value->Shared->Prop} {s:Shared}
set_option maxRecDepth 100000 in
end
end L2
namespace Att
open PySem PySem.W PySem.Calls PyProof.Rows
theorem qF {P:Params} {h:Heap}:∀(ns:List Int) (vs:List Value),WellAll P h vs (ns.map WData.int)->IntsAre vs ns:=by
 intro ns
 induction ns with
 | nil=>
  intro vs w;rw [List.map_nil] at w;cases w;exact .nil
 | cons n ns ih=>
  intro vs w;rw [aQA] at w;cases w with
  | cons a b=>
   cases a;exact .cons _ _ (ih _ b)
theorem aGP {l:OpenLaw} {n:Nat} (hn:l.most=some n) {P:Params} {h:Heap} {args:List WData} {vals:List Value}
  (hpre:l.row.toRowW.claim.pre args=true) (hwl:WellAll P h vals args) :
  ∃a vs ns,vals=[aSW a]/\args=[WData.list (ns.map WData.int)]/\h.get? a=some { cls:=.type "list",data:=.seq vs.toArray }/\IntsAre vs ns/\ns.length<=n:=by
 have hsh:WShape.hasAll [] args [.list .int]=true:=(pre_splitW hpre).1;have hc:l.pre.holds [] { args:=args } = true:=(pre_splitW hpre).2;obtain ⟨d,r,rfl,h1,h2⟩:=hasAllW_cons hsh;obtain rfl:=hasAllW_nil h2;obtain ⟨xs,rfl,h3⟩:=hasW_list h1;obtain ⟨ns,rfl⟩:=items_int h3;have hlen:ns.length<=n:=by
  unfold OpenLaw.pre at hc;have h4:(WTm.not (.lt (.lit (.int (n:Int))) (.len (.arg 0)))).holds [] { args:=[.list (ns.map .int)] } = true:=by
   have h4:=(holds_andW hc).1;rw [hn] at h4;exact h4
  have h5:=condW_of h4 (w_not (w_lt w_lit (w_len_list (w_arg rfl))));rw [aG5] at h5;refine Nat.le_of_not_lt λq=>?_;have q':(n:Int)<((ns.length:Nat):Int):=by omega
  first
   | (rw [decide_eq_true q'] at h5;exact absurd h5 (by decide))
   | (simp at h5;omega)
 cases hwl with
 | cons w1 w2=>
  cases w2;cases w1 with
  | list ho hall=>exact ⟨_,_,ns,rfl,rfl,ho,qF ns _ hall,hlen⟩
theorem aGW (l:OpenLaw) (args:List WData):l.row.toRowW.claim.post args (.bool true) args=true:=
 postW_of (r:=l.row.toRowW) (X:=(true==true))
  (show WShape.has [] (.bool true) .bool=true by first | rfl | decide | simp [WShape.has,WShape.arms,WShape.armsAll])
  (show (WTm.eq .res (.lit (.bool true))).value [] { args:=args,res:=some (.bool true),after:=args } = some (.bool (true==true)) from w_eq_bool (w_res rfl) w_lit) rfl
theorem attach_call {l:OpenLaw} {n:Nat} {q:bAR} {loose:List Str} {XP:(Str->Option Value)->Heap->Prop} {YP:bAU->Heap->Prop} {d:DefRec}
  (hn:l.most=some n) (hdf:d.params.defaults=[])
  (call:∀(w:bAU) (s₀ s₁:Shared) (mg mb:Str->Option Value) (fa:bAO) (o:Obj) (pm cd doc:Value) (a:bAO) (vs:List Value) (ns:List Int),
   Ground q loose [] XP w s₀ mg mb s₁.heap->YP w s₁.heap->
   s₁.heap.get? fa=some o->o.data = .func (docDef d.name d.params d.body d.scope pm cd doc)->s₁.heap.CodeRec cd d.name->mg d.name=some (.ref fa)->
   s₁.heap.get? a=some { cls:=.type "list",data:=.seq vs.toArray }->IntsAre vs ns->ns.length<=n->s₁.gens = #[]->
   bCK (bAV l.prog w) bCQ (.call (.ref fa) ⟨[.ref a],[]⟩) (λr s'=>r = .ok (.ret (.bool true))/\OldK s₁.heap s'.heap/\s'.os=s₁.os/\bBT s'.gens) s₁) :
  WalkO q loose XP YP l.row.toRowW d [] (λf vs=>PySem.call f vs):=by
 intro w s₀ s₁ mg mb G Y fa o pm cd doc dV kV ho hd hcd hD hmg hg args vals as hpre hlay hrd hwl hlo;obtain rfl:dV = .none:=Dflts.none hD hdf;obtain rfl:kV = .none:=Dflts.noKw hD;obtain ⟨a,vs,ns,rfl,rfl,hobj,hints,hlen⟩:=aGP hn hpre hwl;refine enter_call (bCH (call w s₀ s₁ mg mb fa o pm cd doc a vs ns G Y ho (fd_plain hd) hcd hmg hobj hints hlen hg) λr s' hq=>?_);obtain ⟨rfl,h2,h3,h4⟩:=hq;exact ⟨.inl ⟨.bool true,.bool true,[],rfl,λ_=>rfl,.bool true,aGW l _,λ_=>⟨List.Pairwise.nil,λ_ hm=>(nomatch hm)⟩⟩,h2,h3,h4⟩
end Att
namespace L2
open PySem PySem.Spec PyProof.Rows
theorem uW:∀{vs:List Value} {ns:List Int},IntsAre vs ns->bA (ns.map V.int) vs
 | _,_,.nil=>.nil
 | _,_,.cons n t h=>.cons ⟨t,rfl⟩ (uW h)
def aPT (H:Hp):Prop:=∀b,H b=none\/∃o xs,H b=some (.frz o (.lst xs))
theorem aH9 {P:bAR} {w:bAU} {K:W.Frag} {mg mb:Str->Option Value} {CX:CXT} {k:Nat} {fa a:bAO} {fd:bAS} {x:Str} {sp:Sp} {s₁:Shared} {vs:List Value} {ns:List Int}
  (KX:K.In s₁.heap) (hns:s₁.heap.Ns bAX mg) (hb:s₁.heap.Ns builtinsNs mb) (hbb:∀x:Str,x≠"__name__"->mb x=bA3 x) (hlim:s₁.heap.NoLimit) (hg:s₁.gens = #[])
  (ha:s₁.heap.get? a=some { cls:=.type "list",data:=.seq vs.toArray }) (hi:IntsAre vs ns) (hl:ns.length<=bAW) (hr:cU k bCQ)
  (F:∀base:Heap,K.In base->base.Ns bAX mg->bI P w K mg base CX k fa fd [x] sp) (hbind:∀(s:Shared) (u:Value),BindsTo s fd ⟨[u],[]⟩ [(x,u)])
  (hsp:∀H:Hp,aPT H->kF K H a (ns.map V.int)->sp [.ref a] H (λv _=>v = .bl true) λ_ _ _=>False)
  (hCX:∀H e s',CX [] H s₁ (λ_ _ _=>False) e s'->False) :
  bCK (bAV P w) bCQ (.call (.ref fa) ⟨[.ref a],[]⟩) (λr s'=>r = .ok (.ret (.bool true))/\OldK s₁.heap s'.heap/\s'.os=s₁.os/\bBT s'.gens) s₁:=by
 have rv:=uW hi;have lenV:=hi.length
 -- from an abstract heap in which nothing but the script may be tracked
 have gL:∀H:Hp,aPT H->kF K H a (ns.map V.int)->iO P w H s₁.heap->(∀b,H b≠none->b=a)->(H a≠none->K.lookup a=none)->
   bCK (bAV P w) bCQ (.call (.ref fa) ⟨[.ref a],[]⟩) (λr s'=>r = .ok (.ret (.bool true))/\OldK s₁.heap s'.heap/\s'.os=s₁.os/\bBT s'.gens) s₁:=by
  intro H hO hS hok hA hK;have base_of:∀{b:bAO} {o:Obj},s₁.heap.get? b=some o->H b=none->(wI s₁.heap H).get? b=some o:=λe n=>aKZ e n;have noA:∀{b:bAO} {o:Obj} {es:Array DictEntry} {ep:Nat},s₁.heap.get? b=some o->o.data = .dict es ep->H b=none:=λ{b o es ep} e d=>by
   cases q:H b with
   | none=>rfl
   | some u=>
    have e':b=a:=hA b (by rw [q];simp);subst e';rw [ha] at e;cases e;have d':Data.seq vs.toArray _=Data.dict es ep:=d;cases d'
  have nsK:∀{b:bAO} {m:Str->Option Value},s₁.heap.Ns b m->(wI s₁.heap H).Ns b m:=λ{b m} ⟨o,es,ep,e,d,r⟩=>⟨o,es,ep,base_of e (noA e d),d,r⟩;have hKb:K.In (wI s₁.heap H):=λb o e=>base_of (KX b o e) (by
   cases q:H b with
   | none=>rfl
   | some u=>
    have e':b=a:=hA b (by rw [q];simp);subst e';rw [hK (by rw [q];simp)] at e;cases e)
  have hM:Mod K mg (wI s₁.heap H):=⟨hKb,nsK hns,⟨mb,nsK hb,hbb⟩,let ⟨mc,h1,h2⟩:=hlim;⟨mc,nsK h1,h2⟩⟩;have e0:aE6 P w K mg (wI s₁.heap H) bCQ [] s₁ H:=⟨rfl,hM,λb o e=>aOD e,Nat.le_of_eq (aF9 _ _),trivial,λb hb=>absurd (show b∈([]:List bAO) from hb) (by simp),hok,.of_eq hg⟩;refine bCH ((F _ hKb (nsK hns)).run bCQ [] s₁ H ⟨[.ref a],[]⟩ [.ref a] [.ref a] _ _ hr e0 (hbind s₁ (.ref a)) (.cons rfl .nil) (hsp H hO hS)) λr s' h=>?_;cases r with
  | error e=>exact (hCX H e s' h).elim
  | ok fl=>
   cases fl with
   | next=>exact False.elim h
   | brk=>exact False.elim h
   | cont=>exact False.elim h
   | ret u=>
    obtain ⟨v,H',os,bare,un,hok',r',q⟩:=h;have q':v = .bl true:=q;subst q';obtain rfl:u=aZU true:=r';refine ⟨rfl,OldK.of_keep λb o e=>?_,os,bare⟩;cases q:H b with
    | none=>exact un.keep b o e q (by intro z;exact absurd (show b∈([]:List bAO) from z) (by simp)) (by simp)
    | some u=>
     rcases hO b with z | ⟨ob,xs,z⟩
     ·rw [q] at z;cases z
     ·have z2:=un.frzs b ob _ z;obtain ⟨e1,_⟩:=hok b _ z;obtain ⟨e2,_⟩:=hok' b _ z2;rw [e] at e1;cases e1;exact e2
 cases hk:K.lookup a with
 | some o=>
  -- the script is one of the module's own objects
  have e:=KX a o hk;rw [ha] at e;cases e;refine gL (λ_=>none) (λ_=>.inl rfl) (.inr ⟨_,vs.toArray,_,hk,rfl,rfl,rfl,by rw [aOX,lenV];exact hl,by simpa using rv⟩) (λb u z=>by have z':(none:Option HO)=some u:=z;cases z') (λb z=>absurd rfl z) λz=>absurd rfl z
 | none=>
  refine gL (λb=>if b=a then some (.frz { cls:=.type "list",data:=.seq vs.toArray } (.lst (ns.map V.int))) else none) (λb=>?_) (.inl (.inr ⟨{ cls:=.type "list",data:=.seq vs.toArray },if_pos rfl⟩)) (λb u z=>?_) (λb z=>?_) λ_=>hk
  ·by_cases hb:b=a
   ·exact .inr ⟨_,_,if_pos hb⟩
   ·exact .inl (if_neg hb)
  ·by_cases hb:b=a
   ·have z':=(if_pos hb).symm.trans z;cases z';subst hb;exact ⟨ha,by rw [aG5];exact hl,vs,_,rv,ha⟩
   ·have z':=(if_neg hb).symm.trans z;cases z'
  ·by_cases hb:b=a
   ·exact hb
   ·exact absurd (if_neg hb) z
theorem aMX {l:W.OpenLaw} {n k:Nat} {q:bAR} {loose:List Str} {XP:(Str->Option Value)->Heap->Prop} {YP:bAU->Heap->Prop} {d:DefRec} {K:Params->W.Frag} {CX:bAU->CXT} {sp:bAU->Sp} {x:Str}
  (hn:l.most=some n) (hn2:n<=bAW) (hdf:d.params.defaults=[]) (hr:cU k bCQ)
  (hY:∀(w:bAU) (h:Heap),YP w h->(K w.params).In h)
  (F:∀(w:bAU) (mg:Str->Option Value) (fa:bAO) (h:Heap),(K w.params).In h->h.Ns bAX mg->mg d.name=some (.ref fa)->
   ∃fd:bAS,(∀(s:Shared) (u:Value),BindsTo s fd ⟨[u],[]⟩ [(x,u)])/\
    ∀base:Heap,(K w.params).In base->base.Ns bAX mg->bI l.prog w (K w.params) mg base (CX w) k fa fd [x] (sp w))
  (hsp:∀(w:bAU) (H:Hp) (a:bAO) (ns:List Int),ns.length<=n->aPT H->kF (K w.params) H a (ns.map V.int)->sp w [.ref a] H (λv _=>v = .bl true) λ_ _ _=>False)
  (hCX:∀(w:bAU) (H:Hp) (s:Shared) (e:Value) (s':Shared),CX w [] H s (λ_ _ _=>False) e s'->False) :
  W.WalkO q loose XP YP l.row.toRowW d [] (λf vs=>PySem.call f vs):=by
 refine Att.attach_call hn hdf λw s₀ s₁ mg mb fa o pm cd doc a vs ns G Y ho hd hcd hmg hobj hints hlen hg=>?_;have KX:=hY w _ Y;obtain ⟨fd,hb,hF⟩:=F w mg fa _ KX G.T.g hmg;exact aH9 KX G.T.g G.T.b G.T.builtins G.T.nolimit hg hobj hints (aVD hlen hn2) hr hF hb (λH hO hS=>hsp w H a ns hlen hO hS) λH e s'=>hCX w H s₁ e s'
end L2
/- THE LAST THEOREM (shape;LID,My.* are yours):
   My.Adr: a structure of the addresses that your layer names (classes,functions);My.Txt K t: a structure (Prop) of the equations over K;
   My.txt_mk:{K} {implicit addresses ..} (e1:nsIn K bAX "law" = some (some (.ref f))) (e2:K.lookup f=some ⟨oc,od,.func (fnOf "law" "law" params body scope dV kV doc pm an cdv ct),sl⟩) (e3:codeIn K cdv "law" = true) .. : ∃t,My.Txt K t
set_option maxRecDepth 100000 in
set_option maxHeartbeats 0 in
(the tactic k_is has no namespace: write k_is) -/
namespace L2
open PySem PySem.Spec PyProof.Rows
def j5 (s:bAY):Arguments:=match s with
 | .FunctionDef _ a _ _ _ _ _ _ _ _=>a
 | _=>{ posonlyargs:=[],args:=[],vararg:=none,kwonlyargs:=[],kw_defaults:=[],kwarg:=none,defaults:=[] }
def fD (s:bAY):List bAY:=match s with
 | .FunctionDef _ _ b _ _ _ _ _ _ _=>b
 | _=>[]
def aH (s:bAY):bA9:=match s with
 | .FunctionDef _ _ _ _ _ _ sc _ _ _=>sc
 | _=>{ kind:=.function,names:=[],isGenerator:=false,isCoroutine:=false }
abbrev dQ:CXT:=λ_ _ _ _ _ _=>False
abbrev E0:XK:=λ_ _ _=>False
theorem aPM {X:Cx}:wF dQ X E0:=λ_ _ _ _ _ _ _ h=>h.elim
structure dA (K:W.Frag) (x qual:Str) (st:bAY) (f:bAO) (fd:bAS):Prop where
 ex:∃(oc:Value) (od:Option bAO) (kV doc pm:Value) (an:Option bAO) (cdv ct:Value) (osl:Array (Option Value)),
  fd=W.fnOf x qual (j5 st) (fD st) (aH st) .none kV doc pm an cdv ct/\K.lookup f=some ⟨oc,od,.func fd,osl⟩/\W.codeIn K cdv qual=true
 kp:W.keepIn K (.ref f)=true
section
variable {P:bAR} {w:bAU} {K:W.Frag} {mg:Str->Option Value} {base:Heap}
theorem dA.ok {x qual:Str} {st:bAY} {f:bAO} {fd:bAS} {N ps:List Str} {k:Nat} {sp:Sp} (F:dA K x qual st f fd) (S:aP N ps (aH st)) (len:∀vs H Q E,sp vs H Q E->vs.length=ps.length)
  (hbody:∀(cdv:Value) (A:Around) (outer:List Env) (s:Shared) (H:Hp) (vs:List V) (Q:VK) (E:XK),cU k (A.deeper (bAZ qual (aH st) s.heap.objs.size f cdv))->sp vs H Q E->
   ∃t,PSs (dE dQ P w K mg base N qual (aH st) f cdv A outer s H E).nox (fD st) t/\t { nx:=λ_ H'=>Q .non H',rt:=Q } (jJ N vs) H):bI P w K mg base dQ (k+1) f fd ps sp:=by
 obtain ⟨oc,od,kV,doc,pm,an,cdv,ct,osl,rfl,lk,hcd⟩:=F.ex;refine aPK lk hcd S len λA outer s H vs Q E hr hsp=>?_;obtain ⟨t,h,q⟩:=hbody cdv A outer s H vs Q E hr hsp;exact ⟨t,h.nox,q⟩
theorem dA.binds {x qual:Str} {st:bAY} {f:bAO} {fd:bAS} {ps:List Str} (F:dA K x qual st f fd)
  (h:∀(kV doc pm:Value) (an:Option bAO) (cdv ct:Value) (us:List Value),us.length=ps.length->bindArgs (W.fnOf x qual (j5 st) (fD st) (aH st) .none kV doc pm an cdv ct) ⟨us,[]⟩=pure (ps.zip us)):kC K fd ps []:=by
 obtain ⟨oc,od,kV,doc,pm,an,cdv,ct,osl,rfl,lk,hcd⟩:=F.ex;exact .all (h kV doc pm an cdv ct)
theorem vQ {x qual:Str} {st:bAY} {f:bAO} {oc:Value} {od an:Option bAO} {osl:Array (Option Value)} {kV doc pm cdv ct:Value} (l:K.lookup f=some ⟨oc,od,.func (W.fnOf x qual (j5 st) (fD st) (aH st) .none kV doc pm an cdv ct),osl⟩)
  (c:W.codeIn K cdv qual=true) (k:W.keepIn K (.ref f)=true):dA K x qual st f (W.fnOf x qual (j5 st) (fD st) (aH st) .none kV doc pm an cdv ct):=⟨⟨oc,od,kV,doc,pm,an,cdv,ct,osl,rfl,l,c⟩,k⟩
end
theorem aUT {A:Around} {k:Nat} (hr:cU k A):A.units+1<bB7:=aWL (Nat.add_le_add_left (by decide:1<=64) _) hr.units
theorem b8 {n:Nat} (h:n<=1000):n<bAW:=aWL h (by decide)
theorem aW4 {A B:Prop} (h:B):if false=true then A else B:=by
 rw [if_neg aXS];exact h
theorem aTU {A B:Prop} (h:A):if true=true then A else B:=by
 rw [if_pos rfl];exact h
end L2
namespace L2
open PySem PySem.Spec PyProof.Rows
section
variable {X:Cx}
theorem aG0:fA X (.builtin "abs") (λxs H Q=>∃i:Int,xs=[.int i]/\Q (.int (i.natAbs:Int)) H):=by
 intro pins s σ H xs us Q I r h;obtain ⟨i,rfl,q⟩:=h;obtain ⟨u,rfl,rx⟩:=iF r;obtain ⟨t,rfl⟩:=rx;have e:(if i<0 then -i else i)=(i.natAbs:Int):=by split<;>omega
 exact call_abs_int λu tk=>⟨.int (i.natAbs:Int),H,I.tok _,⟨u,by rw [e]⟩,q⟩
theorem aFT:fA X (.type "int") (λxs H Q=>∃b:Bool,xs=[.bl b]/\Q (.int (if b then 1 else 0)) H):=by
 intro pins s σ H xs us Q I r h;obtain ⟨b,rfl,q⟩:=h;obtain ⟨u,rfl,rx⟩:=iF r;cases rx;exact PySem.call_int_bool ⟨.int _,H,I.tok _,⟨_,rfl⟩,q⟩
inductive Kd (K:W.Frag) (H:Hp):V->String->Prop
 | non:Kd K H .non "NoneType"
 | bl (b):Kd K H (.bl b) "bool"
 | int (i):Kd K H (.int i) "int"
 | str (x):Kd K H (.str x) "str"
 | tup {a xs}:tP K H a xs->Kd K H (.ref a) "tuple"
 | lst {a xs}:kF K H a xs->Kd K H (.ref a) "list"
def qC (k T:String):Bool:=k==T||(k=="bool"&&T=="int")
def tys:List String:=["int","bool","tuple","list","str"]
theorem aKO:fA X (.builtin "isinstance") (λxs H Q=>∃x k T,xs=[x,.ty T]/\Kd X.K H x k/\T∈tys/\Q (.bl (qC k T)) H):=by
 intro pins s σ H xs us Q I r h;obtain ⟨x,k,T,rfl,hk,hT,q⟩:=h;obtain ⟨u,v,rfl,rx,ry⟩:=bA.two r;cases ry;have f0:∀b t,Q (.bl b) H->EP X pins σ Q (.bool b) { s with toks:=t }:=λb t q=>⟨.bl b,H,I.tok _,rfl,q⟩;have f1:∀b,Q (.bl b) H->EP X pins σ Q (.bool b) s:=λb q=>⟨.bl b,H,I,rfl,q⟩;simp only [tys,aH1,aVX,or_false] at hT;cases hk with
 | non=>
  cases rx;rcases hT with rfl | rfl | rfl | rfl | rfl
  ·exact IsiPair.NoneType_int (f0 _ _ q)
  ·exact IsiPair.NoneType_bool (f0 _ _ q)
  ·exact IsiPair.NoneType_tuple (f0 _ _ q)
  ·exact IsiPair.NoneType_list (f0 _ _ q)
  ·exact IsiPair.NoneType_str (f0 _ _ q)
 | bl b=>
  cases rx;rcases hT with rfl | rfl | rfl | rfl | rfl
  ·exact IsiPair.bool_int (f1 _ q)
  ·exact IsiPair.bool_bool (f1 _ q)
  ·exact IsiPair.bool_tuple (f0 _ _ q)
  ·exact IsiPair.bool_list (f0 _ _ q)
  ·exact IsiPair.bool_str (f0 _ _ q)
 | int i=>
  obtain ⟨t,rfl⟩:=rx;rcases hT with rfl | rfl | rfl | rfl | rfl
  ·exact IsiPair.int_int (f1 _ q)
  ·exact IsiPair.int_bool (f0 _ _ q)
  ·exact IsiPair.int_tuple (f0 _ _ q)
  ·exact IsiPair.int_list (f0 _ _ q)
  ·exact IsiPair.int_str (f0 _ _ q)
 | str z=>
  obtain ⟨t,rfl⟩:=rx;rcases hT with rfl | rfl | rfl | rfl | rfl
  ·exact IsiPair.str_int (f0 _ _ q)
  ·exact IsiPair.str_bool (f0 _ _ q)
  ·exact IsiPair.str_tuple (f0 _ _ q)
  ·exact IsiPair.str_list (f0 _ _ q)
  ·exact IsiPair.str_str (f1 _ q)
 | tup hq=>
  cases rx;obtain ⟨its,rv,⟨o,ho,hc,_⟩,_⟩:=I.tuple hq;rcases hT with rfl | rfl | rfl | rfl | rfl
  ·exact IsiPair.tuple_int ho hc (f0 _ _ q)
  ·exact IsiPair.tuple_bool ho hc (f0 _ _ q)
  ·exact IsiPair.tuple_tuple ho hc (f1 _ q)
  ·exact IsiPair.tuple_list ho hc (f0 _ _ q)
  ·exact IsiPair.tuple_str ho hc (f0 _ _ q)
 | lst hq=>
  cases rx;obtain ⟨its,rv,⟨o,n,ho,hc,_⟩,_⟩:=I.list hq;rcases hT with rfl | rfl | rfl | rfl | rfl
  ·exact IsiPair.list_int ho hc (f0 _ _ q)
  ·exact IsiPair.list_bool ho hc (f0 _ _ q)
  ·exact IsiPair.list_tuple ho hc (f0 _ _ q)
  ·exact IsiPair.list_list ho hc (f1 _ q)
  ·exact IsiPair.list_str ho hc (f0 _ _ q)
theorem aFC (hc:X.calm=true):fA X (.builtin "all") (λxs H Q=>∃(p:bAO) (bs:List Bool),xs=[.ref p]/\kF X.K H p (bs.map V.bl)/\Q (.bl (bs.all id)) H):=by
 intro pins s σ H xs us Q I r h;obtain ⟨p,bs,rfl,hq,q⟩:=h;obtain ⟨u,rfl,rx⟩:=iF r;cases rx;obtain ⟨its,rv,pl,hz⟩:=I.list hq;have hne:p≠s.heap.objs.size:=by
  obtain ⟨o,n,ho,_⟩:=pl;exact aTV (aG4 ho)
 have hl:=rv.length;rw [aG5] at hl;have hA:X.A.in1.handled=none:=I.ok.hd hc;refine call_all_walk (wpAny_pyIter_list pl.isList ?_);refine ⟨s.heap.objs.size,_,_,_,_,_,(λi=>bs.getD i true),rfl,Walks.list hA s.heap.objs.size p hne its.toArray,⟨⟨_,aLS _ rfl,rfl,rfl⟩,pl.isList.at λo e=>aDZ _ e⟩,?_,?_⟩
 ·intro i v s' Q' E' hv hQ';have hv':its[i]? = some v:=by simpa using hv
  have hi:i<its.length:=(aA8.mp hv').1;have hb:(bs.map V.bl)[i]? = some (V.bl bs[i]):=by
   rw [aEO,aCP (by omega)];rfl
  obtain ⟨u,hu,ru⟩:=rv.get hb;rw [hv'] at hu;cases hu;cases ru;have e:bs.getD i true=bs[i]:=by rw [aY1,aCP (by omega)];rfl
  simp only [e] at hQ';exact bBC hQ'
 ·intro h' tk hk;have e:(aYH its.toArray.size).all (λi=>bs.getD i true)=bs.all id:=by
   rw [aOX,<-hl];clear hl hz rv q hq pl hne;rw [aY4,aWN,aWN];constructor
   ·intro h b hb;obtain ⟨i,hi,rfl⟩:=List.mem_iff_getElem.mp hb;have:=h i (aZN.mpr hi);rw [aY1,aCP hi] at this;exact this
   ·intro h i hi;have hi:=aZN.mp hi;rw [aY1,aCP hi];exact h _ (aYX hi)
  rw [e];refine ⟨.bl _,H,?_,rfl,q⟩;exact I.kept λb o e=>hk b o (by simp;exact aTV (aG4 e)) (aDZ _ e)
end
section
variable {X:Cx} {pins:List (bAO×Obj)} {σ:St} {H:Hp} {s:Shared} {h':Heap}
theorem aR.turnedLaid {t':Nat} {ch:List bAO} {a:bAO} {o:HO} (I:aR X pins σ H s) (k:∀b u,b∉ch->s.heap.get? b=some u->h'.get? b=some u) (hf:∀b∈ch,lP X pins H b) (hp:s.heap.objs.size<=a)
  (new:cP X.prog X.w (upd H a o) h' a o):aR X pins σ (upd H a o) { s with heap:=h',toks:=t' }:=by
 have hn:=I.hok.fresh hp;have nit:∀b u,H b=some u->b∉ch:=λb u e z=>by rw [(hf b z).1] at e;cases e
 refine I.step (g':=s.gens) (d':=s.drawn) (ch:=ch) (λb hb=>⟨(hf b hb).2.2.2.1,(hf b hb).2.1,(hf b hb).2.2.2.2.1,(hf b hb).2.2.2.2.2⟩) (λb u _ _ hc e _=>k b u hc e) (λb u _ _ hc e _=>⟨u.slots,k b u hc e⟩)
  (λb u hc e n=>by rw [aS (aTV (aG3 (aG4 e) hp))];exact n) (λb u hc e=>⟨u,k b u hc e⟩) (λb xs e=>by rw [aS (aQ e hn)];exact e) (λb u xs e=>by rw [aS (aQ e hn)];exact e)
  (λb ps e=>⟨#[],by rw [aS (aQ e hn),e];simp⟩) (λm hm=>?_) (λb u e=>?_) I.bare
 ·obtain ⟨ob,es,ep,ho,r⟩:=hm;exact ⟨ob,es,ep,k _ ob (λz=>(hf _ z).2.1 rfl) ho,r⟩
 ·by_cases hb:b=a
  ·subst hb;rw [bY] at e;cases e;exact new
  ·rw [aS hb] at e;refine (I.hok b u e).stay (λc v hc q=>k c v ?_ q) (λc q=>by rw [aS (aQ q hn)];exact q) λc xs q=>by rw [aS (aQ q hn)];exact q
   rcases hc with z | z
   ·rw [z];exact nit b u e
   ·exact nit c _ z
theorem aR.turnedL {t':Nat} {ch:List bAO} (I:aR X pins σ H s) (k:∀b u,b∉ch->s.heap.get? b=some u->h'.get? b=some u) (hf:∀b∈ch,lP X pins H b):aR X pins σ H { s with heap:=h',toks:=t' }:=by
 have nit:∀b u,H b=some u->b∉ch:=λb u e z=>by rw [(hf b z).1] at e;cases e
 refine I.step (g':=s.gens) (d':=s.drawn) (ch:=ch) (λb hb=>⟨(hf b hb).2.2.2.1,(hf b hb).2.1,(hf b hb).2.2.2.2.1,(hf b hb).2.2.2.2.2⟩) (λb u _ _ hc e _=>k b u hc e) (λb u _ _ hc e _=>⟨u.slots,k b u hc e⟩)
  (λb u hc e n=>n) (λb u hc e=>⟨u,k b u hc e⟩) (λb xs e=>e) (λb u xs e=>e) (λb ps e=>⟨#[],by rw [e];simp⟩) (λm hm=>?_) (λb u e=>?_) I.bare
 ·obtain ⟨ob,es,ep,ho,r⟩:=hm;exact ⟨ob,es,ep,k _ ob (λz=>(hf _ z).2.1 rfl) ho,r⟩
 ·refine (I.hok b u e).stay (λc v hc q=>k c v ?_ q) (λc q=>q) λc xs q=>q;rcases hc with z | z
  ·rw [z];exact nit b u e
  ·exact nit c _ z
end
def Ite (K:W.Frag) (a:bAO):It:=
 ⟨λi H=>∃xs x,kF K H a xs/\xs[i]? = some x,λi H x H'=>∃p y,x = .ref p/\H p=none/\H'=upd H p (.tup [.int (i:Int),y])/\∀xs,kF K H a xs->xs[i]? = some y,λi H=>∃xs,kF K H a xs/\xs.length<=i⟩
theorem aGM {P:bAR} {w:bAU} {K:W.Frag} {elts:List Expr} {x1} {tpos:Pos} (a e it:bAO) (hne:e≠it) :
  aCT P w K (.Tuple elts x1 tpos) (Ite K a) [e,it] e (λi h=>(∃old,IsEnum h e it (i:Nat) old)/\h.IsListIter it a i) where
 mem:=by simp
 obj:=λi h st b hb=>by
  obtain ⟨⟨old,he⟩,⟨o,ho,hc,hd⟩⟩:=st;rcases aH1.mp hb with rfl | hb
  ·exact ⟨_,he,λv z=>by cases z⟩
  ·rw [aXB.mp hb];exact ⟨o,ho,λv z=>by rw [hd] at z;cases z⟩
 keep:=λi h h' st k=>⟨let ⟨old,he⟩:=st.1;⟨old,k e (by simp) _ he⟩,st.2.at λo x=>k it (by simp) o x⟩
 item:=by
  intro X hP hw hK hc i pins s σ H E I hf st hg;subst hP hw hK;obtain ⟨xs,x,hq,hx⟩:=hg;obtain ⟨its,rv,p,hz⟩:=I.list hq;obtain ⟨u,hu,ru⟩:=rv.get hx;obtain ⟨⟨old,he⟩,hit⟩:=st;refine wpAny_pyNext_enum_item he hit p.isList (x:=u) (by simpa using hu) hne λh1 ho hit1 ht hsz hk=>⟨_,rfl,?_⟩;refine wpAny_letOwnedTupleGo_enum ho λh2 he2 hs2=>?_;have hen:e≠s.heap.objs.size:=aTV (aG4 he);have kk:∀b o,b∉[e,it]->s.heap.get? b=some o->h2.get? b=some o:=λb o hb q=>by
   have h1':b≠e:=λz=>hb (by simp [z]);have h2':b≠it:=λz=>hb (by simp [z]);exact hs2.extBut b o h1' (hk b o h1' h2' q)
  have new:cP X.prog X.w (upd H s.heap.objs.size (.tup [.int (i:Int),x])) h2 s.heap.objs.size (.tup [.int (i:Int),x]):=
   ⟨by show 2<=bAW;decide,[.int i s.toks,u],.cons ⟨_,rfl⟩ (.cons ru .nil),⟨_,hs2.extBut _ _ (Ne.symm hen) ht,rfl,_,rfl⟩⟩
  refine ⟨.ref s.heap.objs.size,upd H s.heap.objs.size (.tup [.int (i:Int),x]),I.turnedLaid (t':=s.toks+1) (ch:=[e,it]) kk hf (aFI _) new,rfl,
   ⟨_,x,rfl,I.hok.fresh (aFI _),rfl,λys hy=>by rw [I.list_inj hy hq];exact hx⟩,⟨⟨_,by simpa using he2⟩,hit1.extBut hs2.extBut (Ne.symm hne)⟩,λb hb=>?_⟩
  have hlt:b<s.heap.objs.size:=by
   rcases aH1.mp hb with rfl | hb
   ·exact aG4 he
   ·rw [aXB.mp hb];obtain ⟨o,ho',_⟩:=hit;exact aG4 ho'
  rw [aS (aTV hlt)];exact (hf b hb).1
 done:=by
  intro X hP hw hK hc i pins s σ H E I hf st hg;subst hP hw hK;obtain ⟨xs,hq,hx⟩:=hg;obtain ⟨its,rv,p,hz⟩:=I.list hq;have hl:=rv.length;obtain ⟨⟨old,he⟩,hit⟩:=st;refine wpAny_pyNext_enum_end (I.ok.hd hc) he hit p.isList (by simp;omega) λh1 eb=>⟨rfl,?_⟩;exact I.turnedL (t':=s.toks) (ch:=[e,it]) (λb o hb q=>eb b o (λz=>hb (by simp [z])) q) hf
 self:=λ_ _ _ _ _ st h=>let ⟨old,he⟩:=st.1;wpAny_pyIter_enum he h
section
variable {X:Cx}
def aO6 (K:W.Frag) (ta:TA):TI:=λσ H R=>ta σ H λvs H1=>∃a,vs=[.ref a]/\(∃xs,kF K H1 a xs)/\R (Ite K a) H1
theorem aL0 {a:Expr} {ta:TA} {p pos tpos:Pos} {elts:List Expr} {x1} (hg:Gl X "enumerate") (hm:X.mg "enumerate" = none) (ha:PA X [a] ta) (hs:bA0 [a] X.env=[(false,bA2 a X.env)]:=by rfl) :
  PI X (.Tuple elts x1 tpos) (.Call (.Name "enumerate" p) [a] [] pos) (aO6 X.K ta):=by
 intro pins s σ H R I h;refine Call_ (mH I hg hm boot_enumerate (PyProof.Rows.callWith_type1 (b9 (ha pos pins s σ H _ I h) λus s1 ⟨vs,H1,I1,r1,q1⟩=>?_) hs rfl));obtain ⟨l,rfl,⟨xs,hq⟩,q⟩:=q1;obtain ⟨u,rfl,ru⟩:=bA.one r1;cases ru;obtain ⟨its,rv,pl,hz⟩:=I1.list hq;refine call_enumerate_list pl.isList λh' he hit hsz hk=>?_;refine wpAny_pyIter_enum he ?_;refine ⟨s1.heap.objs.size+1,[s1.heap.objs.size+1,s1.heap.objs.size],_,_,H1,rfl,I1.kept (t':=s1.toks) hk,aGM l _ _ (Nat.succ_ne_self _),⟨⟨_,he⟩,hit⟩,λb hb=>?_,q⟩;have hle:s1.heap.objs.size<=b:=by
  rcases aH1.mp hb with rfl | hb
  ·exact Nat.le_succ _
  ·rw [aXB.mp hb];exact aFI _
 exact I1.fpOk hle (I1.hok.fresh hle)
end
theorem gV {prog:bAR} {w:bAU} {A:Around} {R:Result->Shared->Prop} {s:Shared} {elt target iter:Expr} {scope:bA9} {pos:Pos} {it acc:Value} {env:Env} (I:Nat->Shared->Prop)
  (turn:∀n s,I n s->bAQ (bAV prog w) A (pyNext it) (λr s₁=>match r with
   | none=>R (.ok .next) s₁
   | some v=>bAQ (bAV prog w) A (bB4 target it v) (λ_ s₂=>bAQ (bAV prog w) A (bB2 target env v) (λ_ s₃=>bAQ (bAV prog w) A (bA2 elt env) (λx s₄=>
     bAQ (bAV prog w) A (call (.builtin "list.append") [acc,x]) (λ_ s₅=>∃m,m<n/\I m s₅) (λ_ _=>False) s₄) (λ_ _=>False) s₃) (λ_ _=>False) s₂) (λ_ _=>False) s₁) (λ_ _=>False) s)
  (n:Nat) (h:I n s):bCK (bAV prog w) A (.compLoop (.ListComp elt [⟨target,iter,[],0⟩] scope pos) 0 it acc env) R s:=by
 refine codeAny_loop rfl I (λn s hI=>?_) n h;show bAQ _ A ((compTurn (.ListComp elt [⟨target,iter,[],0⟩] scope pos) 0 it acc env).onRaise (λx=>do bBK x env;theTreesLotGoes x)) _ _ s;refine wpAny_noted ?_;rw [compTurn_list1];refine bAP (bBO (bAP (bA8 (turn n s hI) (λr s₁ h₁=>?_) λ_ _ h'=>h'.elim)));cases r with
 | none=>exact bAT h₁
 | some v=>
  exact bAP (bA8 h₁ (λ_ s₂ h₂=>bAP (bA8 h₂ (λ_ s₃ h₃=>bAP (bAP (bA8 h₃ (λx s₄ h₄=>bAP (bA8 h₄ (λ_ s₅ h₅=>bAT (bAT ⟨rfl,h₅⟩)) λ_ _ h'=>h'.elim))
   λ_ _ h'=>h'.elim))) λ_ _ h'=>h'.elim)) λ_ _ h'=>h'.elim)
def aBD (env:Env):List (Str×NameKind)->List (Str×bAO)->List (Str×bAO)
 | [],cs=>cs
 | (n,k)::r,cs=>aBD env r (if k==.free then (match env.cells.lookup n with | some c=>(n,c)::cs | none=>cs) else cs)
def qG (scope:bA9) (env:Env):List (Str×bAO):=aBD env scope.names []
theorem wE (env:Env):∀(ns:List (Str×NameKind)) (cs:List (Str×bAO)),(∀y∈ns,y.2 = .free->∃c,env.cells.lookup y.1=some c)->
  (forIn ns cs (λx r=>do
   if x.2==.free then
    let a <-cellOf env x.1
    pure (ForInStep.yield ((x.1,a)::r))
   else pure (ForInStep.yield r)):Sem (List (Str×bAO)))=pure (aBD env ns cs)
 | [],cs,_=>rfl
 | (n,k)::r,cs,h=>by
  rw [aXW]
  by_cases hk:k = .free
  ·subst hk;obtain ⟨c,hc⟩:=h (n,.free) aWI rfl;have hc':env.cells.lookup n=some c:=hc;have e:cellOf env n=pure c:=by unfold cellOf;rw [hc']
   simp only [beq_self_eq_true,if_true,e,pure_bind,aBD,hc'];exact wE env r _ λy hy=>h y (aJF _ hy)
  ·have hb:(k==NameKind.free)=false:=by simpa using hk
   simp only [hb,aX5,if_false,pure_bind,aBD];exact wE env r _ λy hy=>h y (aJF _ hy)
theorem lW {scope:bA9} {env:Env} (h:∀y∈scope.names,y.2 = .free->∃c,env.cells.lookup y.1=some c):closureFor scope env=pure (qG scope env):=by
 have e:=wE env scope.names [] h;unfold qG;rw [<-e];unfold closureFor;simp only [bind_pure]
theorem aAD (env:Env):∀(ns:List (Str×NameKind)) (cs:List (Str×bAO)) (x:Str) (c:bAO),(∀x c,cs.lookup x=some c->env.cells.lookup x=some c)->(aBD env ns cs).lookup x=some c->env.cells.lookup x=some c
 | [],_,x,c,h,e=>h x c e
 | (n,k)::r,cs,x,c,h,e=>by
  refine aAD env r _ x c (λy d hd=>?_) e
  by_cases hk:(k==NameKind.free)=true
  ·rw [if_pos hk] at hd;cases q:env.cells.lookup n with
   | none=>rw [q] at hd;exact h y d hd
   | some a=>
    rw [q] at hd;simp only [aXQ] at hd;cases b:y==n with
    | true=>rw [b] at hd;cases hd;rw [eq_of_beq b];exact q
    | false=>rw [b] at hd;exact h y d hd
  ·rw [if_neg hk] at hd;exact h y d hd
theorem rH {scope:bA9} {env:Env} {x:Str} {c:bAO} (e:(qG scope env).lookup x=some c):env.cells.lookup x=some c:=aAD env _ _ x c (λ_ _ h=>by simp at h) e
theorem aAI (env:Env):∀(ns:List (Str×NameKind)) (cs:List (Str×bAO)) (x:Str) (c:bAO),(cs.lookup x=some c\/(x,NameKind.free)∈ns)->env.cells.lookup x=some c->(aBD env ns cs).lookup x=some c
 | [],_,x,c,h,_=>h.elim (λz=>z) (λz=>by simp at z)
 | (n,k)::r,cs,x,c,h,e=>by
  refine aAI env r _ x c ?_ e;rcases h with h | h
  ·refine .inl ?_
   split
   ·cases q:env.cells.lookup n with
    | none=>exact h
    | some a=>
     simp only [aXQ];cases b:x==n with
     | true=>rw [<-eq_of_beq b,e] at q;exact q.symm
     | false=>exact h
   ·exact h
  ·rcases aH1.mp h with z | z
   ·injection z with z1 z2;subst z1 z2;refine .inl ?_;simp only [beq_self_eq_true,if_true,e,aXQ]
   ·exact .inr z
theorem aAU {scope:bA9} {env:Env} {x:Str} {c:bAO} (h:(x,NameKind.free)∈scope.names) (e:env.cells.lookup x=some c):(qG scope env).lookup x=some c:=aAI env _ _ x c (.inr h) e
theorem nZ {env:Env}:∀{names:List (Str×NameKind)} {x:Str},(∀y∈names,y.2≠.cell)->
    ((names.map λ(n,k)=>if (k==NameKind.free&&env.scope.kind==.function&&env.kindOf n==some .cell) then (n,NameKind.cell) else (n,k)).lookup x=some .cell\/
     (names.map λ(n,k)=>if (k==NameKind.free&&env.scope.kind==.function&&env.kindOf n==some .cell) then (n,NameKind.cell) else (n,k)).lookup x=some .free)->(x,NameKind.free)∈names
  | [],_,_,h=>by simp at h
  | (n,k)::r,x,hc,h=>by
    have ih:=@nZ env r x λy hy=>hc y (aJF _ hy);have hk:k≠.cell:=hc (n,k) aWI;simp only [aQA] at h
    by_cases q:(k==NameKind.free&&env.scope.kind==.function&&env.kindOf n==some .cell)=true
    . rw [if_pos q] at h
      simp only [aXQ] at h;cases b:x==n with
      | true=>
        have:k = .free:=by simp only [aUN] at q;exact eq_of_beq q.1.1
        subst this;rw [eq_of_beq b];exact aWI
      | false=>rw [b] at h;exact aJF _ (ih h)
    . rw [if_neg q] at h
      simp only [aXQ] at h;cases b:x==n with
      | true=>
        rw [b] at h;rcases h with h | h
        . exact absurd (Option.some.inj h) hk
        . have:k = .free:=Option.some.inj h
          subst this;rw [eq_of_beq b];exact aWI
      | false=>rw [b] at h;exact aJF _ (ih h)
theorem pS {env:Env}:∀{names:List (Str×NameKind)} {x:Str},names.lookup x=some .free->
    ((names.map λ(n,k)=>if (k==NameKind.free&&env.scope.kind==.function&&env.kindOf n==some .cell) then (n,NameKind.cell) else (n,k)).lookup x=some .cell\/
     (names.map λ(n,k)=>if (k==NameKind.free&&env.scope.kind==.function&&env.kindOf n==some .cell) then (n,NameKind.cell) else (n,k)).lookup x=some .free)
  | [],_,h=>by simp at h
  | (n,k)::r,x,h=>by
    have ih:=@pS env r x;simp only [aQA];simp only [aXQ] at h
    by_cases q:(k==NameKind.free&&env.scope.kind==.function&&env.kindOf n==some .cell)=true
    . rw [if_pos q]
      simp only [aXQ];cases b:x==n with
      | true=>exact .inl rfl
      | false=>rw [b] at h;exact ih h
    . rw [if_neg q]
      simp only [aXQ];cases b:x==n with
      | true=>rw [b] at h;exact .inr h
      | false=>rw [b] at h;exact ih h
def eJ (X:Cx) (N':List Str) (scope:bA9) (C:bAO) (s3:Shared) (H3:Hp) (fp:List bAO):Cx:=
 { X with N:=N',s₀:=s3,H₀:=H3,env:=compEnvC scope (qG scope X.env) C X.env,outer:=X.stack,stack:=X.stack,ex:=fp,fn:=λ_=>false,pn:=[],xe:=λ_ _=>False }
def dH (t:Nat) (cap:List Nat) (σ:St):St:=aEH t none++cap.map λk=>(σ[k]?).join
def aT6 (J:It) (D:bAO) (g:TG) (te:TE) (Q:VK) (σ:St) (H:Hp):Prop:=∃W:Nat->Nat->St->Hp->Prop,(∃m,W 0 m σ H)/\∀i m σ' H',W i m σ' H'->
 (J.stop i H'/\Q (.ref D) H')\/(J.go i H'/\∀x H2,J.yld i H' x H2->g x σ' H2 λσ3 H3=>te σ3 H3 λy H4=>∃ys,H4 D=some (.lst ys)/\ys.length<bAW/\∃m',m'<m/\W (i+1) m' σ3 (upd H4 D (.lst (ys++[y]))))
def yW (t:Nat) (cap:List Nat) (wi:TI) (g:TG) (te:TE):TE:=λσ H Q=>wi σ H λJ H1=>∀D,H1 D=none->aT6 J D g te Q (dH t cap σ) (upd H1 D (.lst []))
structure cW (X:Cx) (N':List Str) (scope:bA9) (t:Nat) (cap:List Nat):Prop where
 kind:scope.kind = .function
 cell:∀y∈scope.names,y.2≠.cell
 names:∀y∈scope.names,y.2 = .local->scope.names.lookup y.1=some .local
 free:∀y∈scope.names,y.2 = .free->(X.env.kindOf y.1=some .cell\/X.env.kindOf y.1=some .free)
 len:N'.length=t+cap.length
 caps:∀(j k:Nat),cap[j]? = some k->∃x,N'[t+j]? = some x/\X.N[k]? = some x/\scope.names.lookup x=some .free
section
variable {X:Cx}
theorem sX {pins:List (bAO×Obj)} {σ:St} {H3:Hp} {s3:Shared} {N':List Str} {scope:bA9} {t:Nat} {cap:List Nat} {fp:List bAO} {h₁:Heap} {tk:Nat} (S:cW X N' scope t cap) (I3:aR X pins σ H3 s3)
  (hf:∀b∈fp,lP X pins H3 b) (hob:∀b∈fp,∃o,s3.heap.get? b=some o) (hns:h₁.Ns s3.heap.objs.size λ_=>none) (k:∀b o,s3.heap.get? b=some o->h₁.get? b=some o) :
  aR (eJ X N' scope s3.heap.objs.size s3 H3 fp) [] (dH t cap σ) H3 { s3 with heap:=h₁,toks:=tk }:=by
 have cellOld:∀{x:Str} {c:bAO},(qG scope X.env).lookup x=some c->X.env.cells.lookup x=some c:=λe=>rH e;have isCellK:∀{c:bAO} {v:Option Value},s3.heap.IsCell c v->h₁.IsCell c v:=λ⟨o,e,d⟩=>⟨o,k _ _ e,d⟩;have memOf:∀{x:Str},scope.names.lookup x=some .free->(x,NameKind.free)∈scope.names:=λe=>PySem.mem_of_lookup e;refine ⟨⟨I3.mod,S.kind,I3.ok.glob,I3.ok.blt,aFI _,?_,?_,?_,I3.ok.hd,I3.ok.frames,.inl rfl,?_,I3.bs,aVD I3.ok.bsz I3.sz,?_,?_,I3.stack,I3.stkFree⟩,
  rfl,I3.bare,Un.kept k,⟨_,hns,?_⟩,?_,?_,?_,?_,I3.hok.kept k,?_⟩
 ·intro x y c h1 h2;exact I3.ok.inj x y c (cellOld h1) (cellOld h2)
 ·intro x hx;have hm:(x,NameKind.free)∈scope.names:=nZ S.cell hx;obtain ⟨c,hc⟩:=I3.ok.has x (S.free _ hm rfl);exact ⟨c,aAU hm hc⟩
 ·intro x c h;cases h
 ·intro b hb;obtain ⟨o,ho⟩:=hob b hb;exact ⟨aTV (aG4 ho),λx c e=>(hf b hb).2.2.2.2.1 x c (cellOld e)⟩
 ·intro b o e hb;rcases (hf b hb).2.2.2.1 with z | z
  ·exact I3.ok.noex b o e z
  ·exact absurd (aG3 (aG3 (aG4 e) I3.ok.bsz) z) (Nat.lt_irrefl _)
 ·intro b hb hz;rcases aH1.mp (I3.stkSub b hz) with z | z
  ·exact (hf b hb).2.1 z
  ·exact (hf b hb).2.2.1 z
 ·intro i x v e1 e2 e3;have ht:t<=i:=by
   rcases aVS i t with q | q
   ·unfold dH at e2;rw [aE9 (by simpa using q),aZ8] at e2;split at e2<;>cases e2
   ·exact q
  obtain ⟨j,rfl⟩:∃j,i=t+j:=⟨i-t,by omega⟩;unfold dH at e2;rw [aUO (by simp),aV2,Nat.add_sub_cancel_left,aEO] at e2;cases q:cap[j]? with
  | none=>rw [q] at e2;cases e2
  | some m=>
   rw [q] at e2;have e2':(σ[m]?).join=some v:=Option.some.inj e2;have e2'':σ[m]? = some (some v):=by
    cases z:σ[m]? with
    | none=>rw [z] at e2';cases e2'
    | some w=>rw [z] at e2';have:w=some v:=e2';rw [this]
   obtain ⟨x',c1,c2,c3⟩:=S.caps j m q;have ex:x'=x:=by
    have e1':N'[t+j]? = some x:=e1;rw [c1] at e1';exact Option.some.inj e1'
   subst ex;have hk:=S.free _ (memOf c3) rfl;obtain ⟨mm,hn,hl⟩:=I3.loc;obtain ⟨u,r,L⟩:=hl m x' v c2 e2'' (by rcases hk with z | z;exact .inr (.inl z);exact .inr (.inr z));refine ⟨u,r,?_⟩;rcases L with ⟨z,_⟩ | ⟨_,c,hc,hcell⟩
   ·rcases hk with y | y<;>(have y':X.env.kindOf x'=_:=y;rw [z] at y';cases y')
   ·exact .inr ⟨pS c3,c,aAU (memOf c3) hc,isCellK hcell⟩
 ·intro x c e;obtain ⟨v,z⟩:=I3.cell x c (cellOld e);exact ⟨v,isCellK z⟩
 ·exact I3.hok.fresh (aFI _)
 ·intro x c e;exact I3.freeC x c (cellOld e)
 ·intro p hp;exact absurd (show p∈([]:List (bAO×Obj)) from hp) (by simp)
 ·show (dH t cap σ).length=N'.length;unfold dH;rw [S.len,aBN,aV2,aG5]
theorem aOC {target elt iter:Expr} {scope:bA9} {pos:Pos} {N':List Str} {cap:List Nat} {t:Nat} {wi:TI} {g:TG} {te:TE} (hc:X.calm=true) (S:cW X N' scope t cap) (hi:PI X target iter wi)
  (hg:∀C s3 H3 fp,PG (eJ X N' scope C s3 H3 fp) target g) (he:∀C s3 H3 fp,PE (eJ X N' scope C s3 H3 fp) elt te) (hs:∀x,bBD iter X.env x=pure x:=by intro _;rfl) :
  PE X (.ListComp elt [⟨target,iter,[],0⟩] scope pos) (yW t cap wi g te):=by
 intro pins s σ H Q I h;rw [eval_ListComp];refine wpAny_comprehension_free (use:=none) (cl:=qG scope X.env) rfl hs (lW λy hy hf=>I.ok.has y.1 (S.free y hy hf)) S.kind S.names (b9 (hi pins s σ H _ I h) λv s1 h1=>b9 h1 λitv s2 h2=>?_);obtain ⟨it,fp,tn,J,H2,e,I2,T,st2,f2,h2⟩:=h2;subst e;refine bBM (wpAny_newFunctionEnv S.cell (by intro y hy;simp at hy) (λh₁ hns₁ hsb₁=>?_) S.kind)
 dsimp only at hns₁ hsb₁ ⊢
 obtain ⟨s3,hs3⟩:∃s3:Shared,s3 = { s2 with heap:=s2.heap.push { cls:=.type "list",dict:=none,data:=.seq ([]:List Value).toArray } }:=⟨_,rfl⟩;have hD:H2 s2.heap.objs.size=none:=I2.hok.fresh (aFI _);have I3:aR X pins σ (upd H2 s2.heap.objs.size (.lst [])) s3:=by
  rw [hs3];exact I2.laid (t':=s2.toks) (λb u e=>aDZ _ e) (aFI _) ⟨aB7 _,[],0,.nil,aLS _ rfl⟩
 have hsz3:s3.heap.objs.size=s2.heap.objs.size+1:=by rw [hs3];exact aYB ..
 have old3:∀b o,s2.heap.get? b=some o->s3.heap.get? b=some o:=λb o e=>by rw [hs3];exact aDZ _ e
 have hC:(s2.heap.push { cls:=.type "list",dict:=none,data:=.seq ([]:List Value).toArray }).objs.size=s3.heap.objs.size:=by rw [hs3]
 have f3:∀b∈fp,lP X pins (upd H2 s2.heap.objs.size (.lst [])) b:=λb hb=>by
  obtain ⟨o,ho,_⟩:=T.obj _ _ st2 b hb;refine ⟨?_,(f2 b hb).2⟩;rw [aS (aTV (aG4 ho))];exact (f2 b hb).1
 have ob3:∀b∈fp,∃o,s3.heap.get? b=some o:=λb hb=>by
  obtain ⟨o,ho,_⟩:=T.obj _ _ st2 b hb;exact ⟨o,old3 b o ho⟩
 have k1:∀b o,s3.heap.get? b=some o->h₁.get? b=some o:=λb o e=>by
  refine hsb₁.extBut b o ?_ ?_
  ·rw [hC];exact aTV (aG4 e)
  ·rw [hs3] at e;exact aDZ _ e
 have hns:h₁.Ns s3.heap.objs.size λ_=>none:=by
  rw [<-hC];exact hns₁
 have I4:=sX (tk:=s2.toks+([]:List (Str×Value)).length) S I3 f3 ob3 hns k1;have st4:tn 0 h₁:=T.keep _ _ _ st2 λb hb o e=>k1 b o (old3 b o e);obtain ⟨W,⟨m0,w0⟩,turn⟩:=h2 _ hD
 -- the block's context
 obtain ⟨X',hX'⟩:∃X':Cx,X'=eJ X N' scope s3.heap.objs.size s3 (upd H2 s2.heap.objs.size (.lst [])) fp:=⟨_,rfl⟩;have hg':PG X' target g:=by rw [hX'];exact hg _ _ _ _
 have he':PE X' elt te:=by rw [hX'];exact he _ _ _ _
 have stat:∀{H':Hp},(∀b∈fp,H' b=none)->∀b∈fp,lP X' [] H' b:=λhn b hb=>by
  obtain ⟨o,ho⟩:=ob3 b hb;rw [hX'];refine ⟨hn b hb,aTV (aG4 ho),?_,.inl hb,λx c e=>(f3 b hb).2.2.2.2.1 x c (rH e),λp hp=>absurd (show p∈([]:List (bAO×Obj)) from hp) (by simp)⟩;intro hz;rcases aH1.mp (I3.stkSub b hz) with z | z
  ·exact (f3 b hb).2.1 z
  ·exact (f3 b hb).2.2.1 z
 have hcalm:X'.calm=true:=by rw [hX'];exact hc
 have loop:bCK (bAV X.prog X.w) X.A (.compLoop (.ListComp elt [⟨target,iter,[],0⟩] scope pos) 0 (.ref it) (.ref s2.heap.objs.size) (compEnvC scope (qG scope X.env) s3.heap.objs.size X.env))
   (compPost (bAV X.prog X.w) X.A X.xe none (EP X pins σ Q) (.ref s2.heap.objs.size) s3.heap.objs.size) { s3 with heap:=h₁,toks:=s2.toks+([]:List (Str×Value)).length }:=by
  refine gV (λn s'=>∃i σ' H',aR X' [] σ' H' s'/\tn i s'.heap/\(∀b∈fp,H' b=none)/\W i n σ' H') ?_ m0 ⟨0,dH t cap σ,_,by rw [hX'];exact I4,st4,λb hb=>(f3 b hb).1,w0⟩;rintro n s5 ⟨i,σ5,H5,I5,st5,fr5,w5⟩;rcases turn i n σ5 H5 w5 with ⟨stop,qn⟩ | ⟨go,step⟩
  ·have q:=T.done X' (by rw [hX'];rfl) (by rw [hX'];rfl) (by rw [hX'];rfl) hcalm i [] s5 σ5 H5 (λ_ _=>False) I5 (stat fr5) st5 stop;have eA:X'.A=X.A:=by rw [hX'];rfl
   rw [eA] at q;refine b9 q λr s6 ⟨hr,I6⟩=>?_;subst hr;obtain ⟨m,hn,_⟩:=I6.loc;have hn':s6.heap.Ns s3.heap.objs.size m:=by rw [hX'] at hn;exact hn
   refine ⟨m,hn',λh' hs'=>?_⟩;have un6:Un (cS X.stack) fp (upd H2 s2.heap.objs.size (.lst [])) H5 s3.heap s6.heap:=by have:=I6.base;rw [hX'] at this;exact this
   have hok6:iO X.prog X.w H5 s6.heap:=by have:=I6.hok;rw [hX'] at this;exact this
   have free6:H5 s3.heap.objs.size=none:=by have:=I6.free;rw [hX'] at this;exact this
   have kp:∀b o,b≠s3.heap.objs.size->s6.heap.get? b=some o->h'.get? b=some o:=λb o hb e=>hs'.extBut b o hb e;have neC:∀{b:bAO} {o:Obj},s3.heap.get? b=some o->b≠s3.heap.objs.size:=λe=>aTV (aG4 e);have un7:Un (cS X.stack) fp (upd H2 s2.heap.objs.size (.lst [])) H5 s3.heap h':=
    ⟨λb o e n1 n2 n3=>kp b o (neC e) (un6.keep b o e n1 n2 n3),λb o e n1 n2 n3=>by obtain ⟨sl,z⟩:=un6.slot b o e n1 n2 n3;exact ⟨sl,kp b _ (neC e) z⟩,un6.free,
     λb o e n3=>by obtain ⟨o',z⟩:=un6.there b o e n3;exact ⟨o',kp b _ (neC e) z⟩,un6.tups,un6.frzs,un6.tbls⟩
   have hok7:iO X.prog X.w H5 h':=λb ob e=>by
    refine (hok6 b ob e).stay (λc w' hc' q=>kp c w' ?_ q) (λ_ q=>q) λ_ _ q=>q;rintro rfl;rcases hc' with rfl | hc'
    ·rw [free6] at e;cases e
    ·rw [free6] at hc';cases hc'
   refine ⟨.ref s2.heap.objs.size,H5,I3.call' (s':={ s6 with heap:=h' }) (ch:=fp) ?_ un7 hok7 I6.bare (λb hb=>⟨(f3 b hb).2.2.2.1,(f3 b hb).2.1,(f3 b hb).2.2.2.2.1,(f3 b hb).2.2.2.2.2⟩),rfl,qn⟩;show s6.os=s3.os;have:=I6.os;rw [hX'] at this;exact this
  ·have q:=T.item X' (by rw [hX'];rfl) (by rw [hX'];rfl) (by rw [hX'];rfl) hcalm i [] s5 σ5 H5 (λ_ _=>False) I5 (stat fr5) st5 go;have eA:X'.A=X.A:=by rw [hX'];rfl
   have eP:X'.prog=X.prog:=by rw [hX'];rfl
   have eW:X'.w=X.w:=by rw [hX'];rfl
   have eE:X'.env=compEnvC scope (qG scope X.env) s3.heap.objs.size X.env:=by rw [hX'];rfl
   have eX:X'.xe=λ_ _=>False:=by rw [hX'];rfl
   rw [eA] at q;refine b9 q λr s6 ⟨u,hr,h6⟩=>?_;subst hr;refine b9 h6 λ_ s7 ⟨x,H7,I7,r7,y7,st7,fr7⟩=>?_;have I7':=I7.pinned (stat fr7) (T.obj _ _ st7);have q8:=hg' _ s7 σ5 H7 x u _ I7' r7 (step x H7 y7);rw [eA,eP,eW,eE,eX] at q8;refine b9 q8 λ_ s8 ⟨σ8,H8,I8,w8⟩=>?_;have q9:=he' _ s8 σ8 H8 _ I8 w8;rw [eA,eP,eW,eE,eX] at q9;refine b9 q9 λy s9 ⟨v9,H9,I9,r9,ys,hD9,hlt,m',hm,w9⟩=>?_;have q10:=oU (X:=X') _ s9 σ8 H9 (.ref s2.heap.objs.size) [v9] (.ref s2.heap.objs.size) [y] (λ_ H10=>H10=upd H9 s2.heap.objs.size (.lst (ys++[v9]))) I9 rfl (.cons r9 .nil) ⟨_,ys,v9,rfl,rfl,hD9,hlt,rfl⟩;rw [eA,eP,eW,eX] at q10;refine b9 q10 λ_ s10 ⟨v10,H10,I10,r10,e10⟩=>?_;subst e10;refine ⟨m',hm,i+1,σ8,_,I10.unpinned,T.keep _ _ _ st7 λb hb o e=>(I10.pin (b,o) (aUM _ (aUM _ (fL hb e)))).1,λb hb=>?_,w9⟩;obtain ⟨o,e,d⟩:=T.obj _ _ st7 b hb;exact (I10.pin (b,o) (aUM _ (aUM _ (fL hb e)))).2.1
 have es:({ s2 with heap:=h₁,toks:=s2.toks+([]:List (Str×Value)).length }:Shared) = { s3 with heap:=h₁,toks:=s2.toks+([]:List (Str×Value)).length }:=by rw [hs3]
 rw [es,hC];exact codeAny_compStart_list loop (T.self _ 0 _ _ _ st4 loop)
end
section
variable {X:Cx} {pos:Pos}
def aPI (i j k:Nat) (ta:TA):TS:=λD σ H=>ta σ H λvs H1=>∃v w z,vs=[v,w,z]/\D.nx (((σ.set i (some v)).set j (some w)).set k (some z)) H1
theorem aNV {i j k:Nat} {x y z:Str} {a b c:Expr} {ta:TA} {px py pz pt:Pos} {kt k2 pt2} (hc:X.calm=true) (hN:X.N.Nodup) (hi:X.N[i]? = some x) (hj:X.N[j]? = some y) (hk:X.N[k]? = some z) (hij:i≠j) (hik:i≠k) (hjk:j≠k)
  (hx:X.env.scope.names.lookup x=some .local) (hy:X.env.scope.names.lookup y=some .local) (hz:X.env.scope.names.lookup z=some .local) (ha:PA X [a,b,c] ta)
  (hw:bBI [.Tuple [.Name x px,.Name y py,.Name z pz] kt pt] (.Tuple [a,b,c] k2 pt2) X.env=pure (some [x,y,z]))
  (hs:bBH [.Tuple [.Name x px,.Name y py,.Name z pz] kt pt] (.Tuple [a,b,c] k2 pt2) pos.line X.env=pure false:=by rfl) :
  PS X (.Assign [.Tuple [.Name x px,.Name y py,.Name z pz] kt pt] (.Tuple [a,b,c] k2 pt2) pos) (aPI i j k ta):=by
 intro pins s σ H D I h;rw [exec_Assign_arm];refine bAP (bBO ?_);rw [hs];refine bAP (bAT ?_);rw [if_neg (by decide)];refine bAP (Tuple_ (b9 (ha _ pins s σ H _ I h) λus s1 ⟨vs,H1,I1,r1,q1⟩=>?_));obtain ⟨v,w,zz,e1,q1⟩:=q1;subst e1;obtain ⟨u1,u2,u3,rfl,rv,rw',rz⟩:∃u1 u2 u3,us=[u1,u2,u3]/\bC v u1/\bC w u2/\bC zz u3:=by
  cases r1 with
  | cons p q=>
   cases q with
   | cons p' q'=>
    cases q' with
    | cons p'' q''=>
     cases q'';exact ⟨_,_,_,rfl,p,p',p''⟩
 refine bBM ?_ (by show 3<=bAW;decide);have I2:aR X pins σ H1 { s1 with heap:=s1.heap.push { cls:=.type "tuple",data:=.seq [u1,u2,u3].toArray } }:=I1.kept (t':=s1.toks) λb o e=>aDZ _ e;rw [hw];refine bAP (bAT ?_);show bAQ (bAV X.prog X.w) X.A (do rule "assign.swapped-stores";let items <-unpackItems (.ref s1.heap.objs.size) 3 none;bCA [λv=>bBX X.env z v,λv=>bBX X.env y v,λv=>bBX X.env x v] items.reverse;pure Flow.next) _ _ _;refine bAP (bCG (bAP (unpackItems_tuple (items:=#[u1,u2,u3]) (I.ok.hd hc) (IsTup.new s1.heap _) λh' hx'=>?_)));have I3:=I2.kept (h':=h') (t':=s1.toks) λb o e=>hx' b o (aTV (aG4 e)) e;show bAQ _ _ (bCA [λv=>bBX X.env z v,λv=>bBX X.env y v,λv=>bBX X.env x v] [u3,u2,u1] >>= λ_=>pure Flow.next) _ _ _;refine bAP (bBP (bB6 (dY I3 hN hk (.inl hz) rz (λs2 I4=>?_) (.inr hz))));refine bBP (bB6 (dY I4 hN hj (.inl hy) rw' (λs3 I5=>?_) (.inr hy)));refine bBP (bB6 (dY I5 hN hi (.inl hx) rv (λs4 I6=>bCO (bAT ?_)) (.inr hx)));rw [aX6 _ _ (Ne.symm hij),aX6 _ _ (Ne.symm hik),aX6 _ _ (Ne.symm hjk)] at I6;exact ⟨_,H1,I6,q1⟩
structure Fn (P:bAR) (w:bAU) (K:W.Frag) (mg:Str->Option Value) (base:Heap) (k:Nat) (x:Str) (ps:List Str) (sp:Sp):Prop where
 ex:∃f fd,bI P w K mg base dQ k f fd ps sp/\mg x=some (.ref f)/\W.keepIn K (.ref f)=true/\kC K fd ps []
theorem aUZ {k j:Nat} {x:Str} {ps:List Str} {sp:Sp} {e:Expr} {es:List Expr} {t:TA} {p:Pos} (F:Fn X.prog X.w X.K X.mg X.base k x ps sp) (hr:cU j X.A) (hk:k<=j) (hg:Gl X x) (ha:PA X (e::es) t) (hdb:(x==("__debug__":Str))=false:=by decide)
  (he:bA0 (e::es) X.env=(false,bA2 e X.env)::bA0 es X.env:=by rfl) (hpl:(bBA pos (bA0 es X.env)).any (·.1)=false:=by rfl):PE X (.Call (.Name x p) (e::es) [] pos) (uH sp [] E0 t):=by
 obtain ⟨f,fd,F,hm,hkp,hb⟩:=F.ex;exact aMQ F (hr.mono hk) hg hm hkp hb .nil aPM ha hdb he hpl
end
def bR:Expr->Bool
 | .Starred _ _=>true
 | _=>false
theorem bX {e:Expr} {es:List Expr} {env:Env} (h:bR e=false):bA0 (e::es) env=(false,bA2 e env)::bA0 es env:=by
 cases e<;>first | rfl | (simp [bR] at h)
def bB:List Expr->Bool
 | []=>true
 | e::es=>!bR e&&bB es
theorem cO {pos:Pos} {env:Env}:∀{es:List Expr},bB es=true->(bBA pos (bA0 es env)).any (·.1)=false
 | [],_=>rfl
 | e::es,h=>by
  have h1:bR e=false:=by simp only [bB,aUN,aX1] at h;exact h.1
  have h2:bB es=true:=by simp only [bB,aUN] at h;exact h.2
  have ih:=cO (pos:=pos) (env:=env) h2;rw [bX h1];simp only [bBA,aQA,aZA,Bool.false_or] at ih ⊢;exact ih
section
variable {X:Cx} {pos:Pos} {e:Expr} {es:List Expr} {te:TE} {t:TA}
theorem pc (ha:PE X e te) (hr:PA X es t) (hs:bR e=false:=by rfl):PA X (e::es) (aA3 te t):=aMJ ha hr (bX hs)
theorem aRT {k j:Nat} {x:Str} {ps:List Str} {sp:Sp} {p:Pos} (F:Fn X.prog X.w X.K X.mg X.base k x ps sp) (hr:cU j X.A) (hk:k<=j) (hg:Gl X x) (ha:PA X (e::es) t) (hdb:(x==("__debug__":Str))=false:=by decide)
  (hs:bB (e::es)=true:=by rfl):PE X (.Call (.Name x p) (e::es) [] pos) (uH sp [] E0 t):=
 aUZ F hr hk hg ha hdb (bX (by simp only [bB,aUN,aX1] at hs;exact hs.1)) (cO (by simp only [bB,aUN] at hs;exact hs.2))
theorem aF0 {x:Str} {p:Pos} {id:String} {r:List V->Hp->VK->Prop} (hc:fA X (.builtin id) r) (hg:Gl X x) (hm:X.mg x=none) (hv:bA3 x=some (.builtin id)) (ha:PA X (e::es) t) (hn:x≠"__name__":=by decide) (hdb:(x==("__debug__":Str))=false:=by decide)
  (hs:bB (e::es)=true:=by rfl):PE X (.Call (.Name x p) (e::es) [] pos) (tCB r t):=
 aIS hc hg hm hv ha hn hdb (bX (by simp only [bB,aUN,aX1] at hs;exact hs.1)) (cO (by simp only [bB,aUN] at hs;exact hs.2))
theorem aCG {x:Str} {p:Pos} {T:String} {r:List V->Hp->VK->Prop} (hc:fA X (.type T) r) (hg:Gl X x) (hm:X.mg x=none) (hv:bA3 x=some (.type T)) (ha:PA X (e::es) t) (hn:x≠"__name__":=by decide) (hdb:(x==("__debug__":Str))=false:=by decide)
  (hs:bB (e::es)=true:=by rfl):PE X (.Call (.Name x p) (e::es) [] pos) (tCB r t):=
 aGJ hc hg hm hv ha hn hdb (bX (by simp only [bB,aUN,aX1] at hs;exact hs.1)) (cO (by simp only [bB,aUN] at hs;exact hs.2))
end
structure QE (X:Cx) (e:Expr) (t:TE):Prop where
 h:PE X e t
structure QT (X:Cx) (e:Expr) (t:TT):Prop where
 h:PT X e t
structure QW (X:Cx) (e:Expr) (t:TT):Prop where
 h:PW X e t
structure QA (X:Cx) (es:List Expr) (t:TA):Prop where
 h:PA X es t
structure QS (X:Cx) (st:bAY) (t:TS):Prop where
 h:PS X st t
structure QB (X:Cx) (st:List bAY) (t:TS):Prop where
 h:PSs X st t
structure QG (X:Cx) (e:Expr) (t:TG):Prop where
 h:PG X e t
structure QGs (X:Cx) (es:List Expr) (t:TGs):Prop where
 h:PGs X es t
structure QI (X:Cx) (tg e:Expr) (t:TI):Prop where
 h:PI X tg e t
structure QO (X:Cx) (e:Option Expr) (t:TO):Prop where
 h:PO X e t
def aDD (sc scope:bA9) (N N':List Str) (t:Nat) (cap:List Nat):Bool:=
 decide (scope.kind = .function)&&scope.names.all (λy=>decide (y.2≠.cell))&&scope.names.all (λy=>decide (y.2 = .local->scope.names.lookup y.1=some .local)) &&
 scope.names.all (λy=>decide (y.2 = .free->(sc.names.lookup y.1=some .cell\/sc.names.lookup y.1=some .free)))&&decide (N'.length=t+cap.length) &&
 (aYH cap.length).all (λj=>match cap[j]?,N'[t+j]? with | some k,some x=>decide (N[k]? = some x/\scope.names.lookup x=some .free) | _,_=>false)
theorem cW.of {X:Cx} {N':List Str} {scope:bA9} {t:Nat} {cap:List Nat} (h:aDD X.env.scope scope X.N N' t cap=true):cW X N' scope t cap:=by
 simp only [aDD,aUN,aWN,decide_eq_true_eq] at h;obtain ⟨⟨⟨⟨⟨h1,h2⟩,h3⟩,h4⟩,h5⟩,h6⟩:=h;refine ⟨h1,h2,h3,h4,h5,λj k e=>?_⟩;have hj:j<cap.length:=(aA8.mp e).1;have h:=h6 j (aZN.mpr hj);rw [e] at h;cases q:N'[t+j]? with
 | none=>rw [q] at h;cases h
 | some x=>
  rw [q] at h;have h':=of_decide_eq_true h;exact ⟨x,rfl,h'.1,h'.2⟩
section
variable {X:Cx} {pos:Pos} {a b c e l o i value:Expr} {es:List Expr} {ta tb te to ti tl:TE} {tc tA tB':TT} {t u tbd:TS} {tr:TA} {g:TG} {gs:TGs} {wi:TI} {st:bAY} {sts body b1 b2:List bAY} {rest:List Expr}
theorem aQY:QB X [] aPJ:=⟨aLY⟩
theorem aDQ (h1:QS X st t) (h2:QB X sts u):QB X (st::sts) (aU9 t u):=⟨aK8 h1.h h2.h⟩
theorem aHD (h1:QS X st t):QB X [st] t:=⟨aOA h1.h⟩
theorem aSC (h:QE X e te):QS X (.Return (some e) pos) (aTF te):=⟨aRG h.h⟩
theorem aVI (hc:QT X c tc) (ha:QB X b1 t) (hb:QB X b2 u):QS X (.If c b1 b2 pos) (aT9 tc t u):=⟨aUE hc.h ha.h hb.h⟩
theorem aG9 (hp:PassesOwn (bAV X.prog X.w) X.A X.env X.xe) (hc:QT X c tc) (hb:QB X body tbd):QS X (.While c body [] pos) (x8 tc tbd):=⟨aLC hp hc.h hb.h⟩
theorem aQD {tg iter:Expr} (hp:PassesOwn (bAV X.prog X.w) X.A X.env X.xe) (hc:X.calm=true) (hi:QI X tg iter wi) (hg:QG X tg g) (hb:QB X body tbd) (hs:∀x,bBD iter X.env x=pure x:=by intro _;rfl) :
  QS X (.For tg iter body [] pos) (aTI wi g tbd):=⟨aRK hp hc hi.h hg.h hb.h hs⟩
theorem aMU (he:QE X e te) (hs:bBN e none pos.line X.env=pure false:=by rfl):QS X (.Expr e pos) (aOZ te):=⟨aNS he.h hs⟩
theorem xD {i:Nat} {x:Str} {pos':Pos} (hN:X.N.Nodup) (hi:X.N[i]? = some x) (hx:yT X.env.scope x) (he:QE X e te) (hs:bBN e (some (.Name x pos')) pos.line X.env=pure false:=by rfl)
  (hf:X.fn x=true\/X.env.scope.names.lookup x=some .local:=by first | exact .inl rfl | exact .inr rfl | assumption):QS X (.Assign [.Name x pos'] e pos) (aJK te (zR i)):=⟨aSH hN hi hx he.h hs hf⟩
theorem aPZ {tg:Expr} (he:QE X e te) (hg:QG X tg g) (hs:bBH [tg] e pos.line X.env=pure false:=by rfl) (hw:bBI [tg] e X.env=pure none:=by rfl)
  (h1:(bBB [tg] X.env).map (·.2)=[bB2 tg X.env]:=by rfl):QS X (.Assign [tg] e pos) (aJK te g):=⟨aPU he.h hg.h hs hw h1⟩
theorem aJS {i j:Nat} {x y:Str} {px py pt:Pos} {kt k2 pt2} (hc:X.calm=true) (hN:X.N.Nodup) (hi:X.N[i]? = some x) (hj:X.N[j]? = some y) (hij:i≠j)
  (hx:X.env.scope.names.lookup x=some .local) (hy:X.env.scope.names.lookup y=some .local) (ha:QA X [a,b] tr)
  (hw:bBI [.Tuple [.Name x px,.Name y py] kt pt] (.Tuple [a,b] k2 pt2) X.env=pure (some [x,y]))
  (hs:bBH [.Tuple [.Name x px,.Name y py] kt pt] (.Tuple [a,b] k2 pt2) pos.line X.env=pure false:=by rfl) :
  QS X (.Assign [.Tuple [.Name x px,.Name y py] kt pt] (.Tuple [a,b] k2 pt2) pos) (aVM i j tr):=⟨aP5 hc hN hi hj hij hx hy ha.h hw hs⟩
theorem aM1 {i j k:Nat} {x y z:Str} {px py pz pt:Pos} {kt k2 pt2} (hc:X.calm=true) (hN:X.N.Nodup) (hi:X.N[i]? = some x) (hj:X.N[j]? = some y) (hk:X.N[k]? = some z) (hij:i≠j) (hik:i≠k) (hjk:j≠k)
  (hx:X.env.scope.names.lookup x=some .local) (hy:X.env.scope.names.lookup y=some .local) (hz:X.env.scope.names.lookup z=some .local) (ha:QA X [a,b,c] tr)
  (hw:bBI [.Tuple [.Name x px,.Name y py,.Name z pz] kt pt] (.Tuple [a,b,c] k2 pt2) X.env=pure (some [x,y,z]))
  (hs:bBH [.Tuple [.Name x px,.Name y py,.Name z pz] kt pt] (.Tuple [a,b,c] k2 pt2) pos.line X.env=pure false:=by rfl) :
  QS X (.Assign [.Tuple [.Name x px,.Name y py,.Name z pz] kt pt] (.Tuple [a,b,c] k2 pt2) pos) (aPI i j k tr):=⟨aNV hc hN hi hj hk hij hik hjk hx hy hz ha.h hw hs⟩
theorem aEK {i:Nat} {x:Str} (hN:X.N.Nodup) (hi:X.N[i]? = some x) (hx:yT X.env.scope x) (hf:X.fn x=true\/X.env.scope.names.lookup x=some .local:=by first | exact .inl rfl | exact .inr rfl | assumption):QG X (.Name x pos) (zR i):=⟨aNF hN hi hx hf⟩
theorem aLX:QGs X [] aU8:=⟨aMC⟩
theorem aHH (h1:QG X e g) (h2:QGs X es gs) (hs:(bBB (e::es) X.env).map (·.2)=bB2 e X.env::(bBB es X.env).map (·.2):=by rfl):QGs X (e::es) (aPH g gs):=⟨aIV h1.h h2.h hs⟩
theorem aRI {k n:Nat} (hc:X.calm=true) (h:QGs X es gs) (hn:(bBB es X.env).length=n:=by rfl) (hst:(bBB es X.env).findIdx? (·.1)=none:=by rfl):QG X (.Tuple es k pos) (aU0 X.K n gs):=⟨aQZ hc h.h hn hst⟩
theorem aR0 {ts:aNY} (ho:QE X o to) (hi:QE X i ti) (hs:aPS X ts)
  (ha:∀v,bB2 (.Subscript o i pos) X.env v=(do
   let ov <-bBU [v] (bA2 o X.env)
   let iv <-bBU [v,ov] (bA2 i X.env)
   standAt pos
   bBU [v,ov,iv] (setItem ov iv v)
   release [v,ov,iv] []):=by intro _;rfl):QG X (.Subscript o i pos) (aUF to ti ts):=⟨aQK ho.h hi.h hs ha⟩
theorem aFR {tg:Expr} {p:Pos} (hg:Gl X "range") (hm:X.mg "range" = none) (ha:QA X [a] tr) (hs:bR a=false:=by rfl):QI X tg (.Call (.Name "range" p) [a] [] pos) (aPC tr):=⟨aFA hg hm ha.h (bX hs)⟩
theorem aN5 {p tpos:Pos} {elts:List Expr} {x1} (hg:Gl X "enumerate") (hm:X.mg "enumerate" = none) (ha:QA X [a] tr) (hs:bR a=false:=by rfl):QI X (.Tuple elts x1 tpos) (.Call (.Name "enumerate" p) [a] [] pos) (aO6 X.K tr):=⟨aL0 hg hm ha.h (bX hs)⟩
theorem aMB {tg:Expr} (hl:QE X l tl):QI X tg l (aOV X.K tl):=⟨aMP hl.h⟩
theorem aQ2 {tg:Expr} (hl:QE X l tl):QI X tg l (aUC X.K tl):=⟨aP0 hl.h⟩
theorem oI:QA X [] aM0:=⟨aKP⟩
theorem qc (ha:QE X e te) (hr:QA X es tr) (hs:bR e=false:=by rfl):QA X (e::es) (aA3 te tr):=⟨pc ha.h hr.h hs⟩
theorem aR3 {i j pos}:QE X (.Constant (.int i) j pos) (tC (.int i)):=⟨aPW⟩
theorem aO8 {b j pos}:QE X (.Constant (.bool b) j pos) (tC (.bl b)):=⟨aUI⟩
theorem sR {j pos}:QE X (.Constant .none j pos) (tC .non):=⟨aSN⟩
theorem aQ8 {x j pos}:QE X (.Constant (.str x) j pos) (tC (.str x)):=⟨aJ0⟩
theorem aDY {x:Str} {v:V} {u:Value} (hg:Gl X x) (hm:X.mg x=none) (hv:bA3 x=some u) (r:bC v u) (hn:x≠"__name__":=by decide) (hd:(x==("__debug__":Str))=false:=by decide):QE X (.Name x pos) (tC v):=⟨xT hg hm hv r hn hd⟩
theorem qv (i:Nat) {x:Str} (hN:X.N[i]? = some x:=by rfl) (hv:Vis X.env.scope x:=by first | exact aIW rfl | exact aX8 (aIW rfl) | exact aX8 (aX8 rfl)) (hd:(x==("__debug__":Str))=false:=by decide)
  (hcd:(x==("__classdict__":Str))=false:=by decide):QE X (.Name x pos) (aVL i):=⟨aR7 hN hv hd hcd⟩
theorem uZ {op:bCJ} {r:R2} (ho:jP X (bBG op) r) (ha:QE X a ta) (hb:QE X b tb):QE X (.BinOp a op b pos) (tOp r ta tb):=⟨aU5 ho ha.h hb.h⟩
theorem aU3 {op:UnaryOp} {r:V->Hp->VK->Prop} (ho:UnR X (unaryOp op) r) (ha:QE X a ta):QE X (.UnaryOp op a pos) (tUn r ta):=⟨aT0 ho ha.h⟩
theorem aHZ (ha:QE X a ta):QE X (.UnaryOp .Not a pos) (aOY ta):=⟨aP2 ha.h⟩
theorem nH {op:CmpOp} {r:R2} (ho:jP X (bA7 op) r) (ha:QE X a ta) (hb:QE X b tb) (hm:bA5 op b=false):QE X (.Compare a [op] [b] pos) (tOp r ta tb):=⟨aNP ho ha.h hb.h hm⟩
theorem aPX (ha:QE X a ta) (hb:QE X (.BoolOp .And (b::rest) pos) tb):QE X (.BoolOp .And (a::b::rest) pos) (aPA ta tb):=⟨aQ7 ha.h hb.h⟩
theorem aO0 (ha:QE X a ta) (hb:QE X (.BoolOp .Or (b::rest) pos) tb):QE X (.BoolOp .Or (a::b::rest) pos) (aVO ta tb):=⟨aSZ ha.h hb.h⟩
theorem aH8 {op} (h:QE X a ta):QE X (.BoolOp op [a] pos) ta:=⟨aPR h.h⟩
theorem aAB (hc:QT X c tA) (ha:QE X a ta) (hb:QE X b tb):QE X (.IfExp c a b pos) (tIf tA ta tb):=⟨aKK hc.h ha.h hb.h⟩
theorem aK6 {x1} (h:QA X es tr):QE X (.Tuple es x1 pos) (aTZ tr):=⟨aQE h.h⟩
theorem aJY (h:QA X es tr):QE X (.List es pos) (aS8 tr):=⟨aQF h.h⟩
theorem aOI {r:R2} (hr:IxR X r) (ha:QE X a ta) (hb:QE X b tb) (hs:qV b):QE X (.Subscript a b pos) (tOp r ta tb):=⟨aU2 hr ha.h hb.h hs⟩
theorem aLV:QO X none aEL:=⟨aMG⟩
theorem aNK (h:QE X e te):QO X (some e) (aOK te):=⟨aNM h.h⟩
theorem yX {r:V->Option Int->Option Int->Hp->VK->Prop} {lo hi:Option Expr} {tlo thi:TO} {p2:Pos} (hr:SlR X r) (he:QE X e te) (hl:QO X lo tlo) (hu:QO X hi thi):QE X (.Subscript e (.Slice lo hi none p2) pos) (tSl r te tlo thi):=⟨aHR hr he.h hl.h hu.h⟩
theorem aH5 {k j:Nat} {x:Str} {ps:List Str} {sp:Sp} {p:Pos} (F:Fn X.prog X.w X.K X.mg X.base k x ps sp) (hr:cU j X.A) (hk:k<=j) (hg:Gl X x) (ha:QA X (e::es) tr) (hdb:(x==("__debug__":Str))=false:=by decide)
  (hs:bB (e::es)=true:=by rfl):QE X (.Call (.Name x p) (e::es) [] pos) (uH sp [] E0 tr):=⟨aRT F hr hk hg ha.h hdb hs⟩
theorem dI {x:Str} {p:Pos} {id:String} {r:List V->Hp->VK->Prop} (hc:fA X (.builtin id) r) (hg:Gl X x) (hm:X.mg x=none) (hv:bA3 x=some (.builtin id)) (ha:QA X (e::es) tr) (hn:x≠"__name__":=by decide) (hdb:(x==("__debug__":Str))=false:=by decide)
  (hs:bB (e::es)=true:=by rfl):QE X (.Call (.Name x p) (e::es) [] pos) (tCB r tr):=⟨aF0 hc hg hm hv ha.h hn hdb hs⟩
theorem iA {x:Str} {p:Pos} {T:String} {r:List V->Hp->VK->Prop} (hc:fA X (.type T) r) (hg:Gl X x) (hm:X.mg x=none) (hv:bA3 x=some (.type T)) (ha:QA X (e::es) tr) (hn:x≠"__name__":=by decide) (hdb:(x==("__debug__":Str))=false:=by decide)
  (hs:bB (e::es)=true:=by rfl):QE X (.Call (.Name x p) (e::es) [] pos) (tCB r tr):=⟨aCG hc hg hm hv ha.h hn hdb hs⟩
theorem aMZ {target elt iter:Expr} {scope:bA9} {N':List Str} {cap:List Nat} {t:Nat} (hc:X.calm=true) (S:cW X N' scope t cap) (hi:QI X target iter wi)
  (hg:∀C s3 H3 fp,QG (eJ X N' scope C s3 H3 fp) target g) (he:∀C s3 H3 fp,QE (eJ X N' scope C s3 H3 fp) elt te) (hs:∀x,bBD iter X.env x=pure x:=by intro _;rfl) :
  QE X (.ListComp elt [⟨target,iter,[],0⟩] scope pos) (yW t cap wi g te):=⟨aOC hc S hi.h (λC s3 H3 fp=>(hg C s3 H3 fp).h) (λC s3 H3 fp=>(he C s3 H3 fp).h) hs⟩
theorem aD3 {op:CmpOp} {r:R2} (ho:jP X (bA7 op) r) (ha:QE X a ta) (hb:QE X b tb) (hm:bA5 op b=false):QT X (.Compare a [op] [b] pos) (aHK (tOp r ta tb)):=⟨aN9 ho ha.h hb.h hm⟩
theorem aJH (ha:QT X a tA):QT X (.UnaryOp .Not a pos) (aT8 tA):=⟨aP7 ha.h⟩
theorem aBX (h:QE X e te) (he:∀whole,isTrue e X.env whole=(do let v <-whole;standAt e.pos;bBU [v] (truthy v)):=by intro _;rfl):QT X e (tB te):=⟨aR1 h.h he⟩
theorem aDC (ha:QT X a tA):QW X (.BoolOp .And [a] pos) tA:=⟨aM7 ha.h⟩
theorem aSG (ha:QT X a tA):QW X (.BoolOp .Or [a] pos) tA:=⟨aPY ha.h⟩
theorem aJ3 (ha:QT X a tA) (hb:QW X (.BoolOp .And (b::rest) pos) tB'):QW X (.BoolOp .And (a::b::rest) pos) (aVE tA tB'):=⟨aRA ha.h hb.h⟩
theorem aS1 (ha:QT X a tA) (hb:QW X (.BoolOp .Or (b::rest) pos) tB'):QW X (.BoolOp .Or (a::b::rest) pos) (tOr tA tB'):=⟨aTR ha.h hb.h⟩
theorem aTG (h:QW X e tA):QT X e tA:=⟨h.h.pt⟩
end
section
variable {P:bAR} {w:bAU} {K:W.Frag} {mg:Str->Option Value} {base:Heap}
theorem dA.okQ {x qual:Str} {st:bAY} {f:bAO} {fd:bAS} {N ps:List Str} {k:Nat} {sp:Sp} (F:dA K x qual st f fd) (S:aP N ps (aH st)) (len:∀vs H Q E,sp vs H Q E->vs.length=ps.length)
  (hbody:∀(cdv:Value) (A:Around) (outer:List Env) (s:Shared) (H:Hp) (vs:List V) (Q:VK) (E:XK),cU k (A.deeper (bAZ qual (aH st) s.heap.objs.size f cdv))->sp vs H Q E->
   ∃t,QB (dE dQ P w K mg base N qual (aH st) f cdv A outer s H E).nox (fD st) t/\t { nx:=λ_ H'=>Q .non H',rt:=Q } (jJ N vs) H):bI P w K mg base dQ (k+1) f fd ps sp:=
 F.ok S len λcdv A outer s H vs Q E hr h=>let ⟨t,h1,h2⟩:=hbody cdv A outer s H vs Q E hr h;⟨t,h1.h,h2⟩
end
section
variable {prog:bAR} {w:bAU} {A:Around} {E:Value->Shared->Prop} {s:Shared}
theorem xY {it t:bAO} {k:Nat} {items:Array Value} {x:Value} {Q:Value->Shared->Prop} (gi:s.heap.IsTupleIter it t k) (gt:s.heap.IsTuple t items) (gx:items[k]? = some x)
  (gq:∀h',h'.IsTupleIter it t (k+1)->aYR it s.heap h'->Q x { s with heap:=h' }):bAQ (bAV prog w) A (Builtin.SmallTypes.nextOf (.ref it)) Q E s:=by
 obtain ⟨ob,eo,ec,ed⟩:=id gi;obtain ⟨ot,et,_,nt,edt⟩:=gt;unfold Builtin.SmallTypes.nextOf;refine bAP (wpAny_callSpecial?_slot (name:=aA7 "__next__") gi.typeIs F.slot_tuple_iterator_next (bCC F.slot_tuple_iterator_next gi.typeIs F.entry_tuple_iterator_next ?_ (F.args_tuple_iterator_next_1 _)));show bAQ _ _ (field (.ref it) 0 >>= _) _ _ _;refine bAP (bA1 eo ed (x:=.ref t) rfl ?_);show bAQ _ _ (if (aSW t==aTX)=true then _ else _) _ _ _;rw [if_neg (λhq:(aSW t==aTX)=true=>aXS hq)];show bAQ _ _ (field (.ref it) 1 >>= _) _ _ _;refine bAP (bA1 eo ed (x:=.int k 0) rfl ?_);show bAQ _ _ (seqItems? (.ref t) >>= _) _ _ _;refine bAP (bBS et edt ?_);simp only [aXM,gx];refine bAP (bBF eo ed (by simp) (bAT ⟨x,rfl,bAT (gq _ ?_ (Heap.SameBut.update ..))⟩));exact ⟨_,aQU _ eo (aVG (aRH ed _)),(Obj.cls_mapFields ..).trans ec,by rw [aRH ed];simp [bA6]⟩
theorem aAQ {it t:bAO} {k:Nat} {items:Array Value} {Q:Value->Shared->Prop} (gh:A.handled=none) (gi:s.heap.IsTupleIter it t k) (gt:s.heap.IsTuple t items) (gx:items[k]? = none)
  (ge:∀h' e,Heap.ExtBut it s.heap h'->(∃o,h'.get? e=some o/\o.cls = .type "StopIteration")->E (.ref e) { s with heap:=h' }):bAQ (bAV prog w) A (Builtin.SmallTypes.nextOf (.ref it)) Q E s:=by
 obtain ⟨ob,eo,ec,ed⟩:=id gi;obtain ⟨ot,et,_,nt,edt⟩:=gt;unfold Builtin.SmallTypes.nextOf;refine bAP (wpAny_callSpecial?_slot (name:=aA7 "__next__") gi.typeIs F.slot_tuple_iterator_next (bCC F.slot_tuple_iterator_next gi.typeIs F.entry_tuple_iterator_next ?_ (F.args_tuple_iterator_next_1 _)));show bAQ _ _ (field (.ref it) 0 >>= _) _ _ _;refine bAP (bA1 eo ed (x:=.ref t) rfl ?_);show bAQ _ _ (if (aSW t==aTX)=true then _ else _) _ _ _;rw [if_neg (λhq:(aSW t==aTX)=true=>aXS hq)];show bAQ _ _ (field (.ref it) 1 >>= _) _ _ _;refine bAP (bA1 eo ed (x:=.int k 0) rfl ?_);show bAQ _ _ (seqItems? (.ref t) >>= _) _ _ _;refine bAP (bBS et edt ?_);simp only [aXM,gx];refine bAP (bCG (bAP (bBF eo ed (by simp) ?_)));show bAQ _ _ (newExc (.type "StopIteration") [] >>= _) _ _ _;refine bAP ?_;simp only [newExc,newTuple];refine bAP (bBM ?_ (by size_fits));refine bAP (m:=firstArgMember _ _) (wpAny_of_eq (a:=aTX) (by first | rfl | (simp only [firstArgMember];rfl)) (bBM ?_ (by size_fits)));simp only [raiseNew];refine bAP (wpAny_handled ?_)
 first | rw [show A.in1.handled=none from gh] | rw [gh]
 refine bAP (bAT (wpAny_throw ?_));exact ge _ _ (((Heap.SameBut.update ..).extBut.push _).push _) ⟨_,aLS _ rfl,rfl⟩
theorem aGI (gh:A.handled=none) (it t:bAO) (hne:t≠it) (items:Array Value) :
  Draws prog w A it [it,t] items.size (λi v=>items[i]? = some v) (λi h=>h.IsTupleIter it t i/\h.IsTuple t items) where
 live:=λ_ _ st=>let ⟨o,ho,_⟩:=st.1;⟨o,ho⟩
 frame:=λ_ _ _ st hk=>⟨st.1.at λo e=>hk it (by simp) o e,st.2.at λo e=>hk t (by simp) o e⟩
 item:=λi s Q E hi st hQ=>xY st.1 st.2 (x:=items[i]) (by simp [hi]) λh' hit' hs'=>hQ _ h' s.toks (by simp [hi]) ⟨hit',st.2.extBut hs'.extBut hne⟩ hs'
 done:=λs Q E st hE=>aAQ gh st.1 st.2 (by simp) hE
end
def gW (κ:Bool) (h:Heap) (it a:bAO) (i:Nat):Prop:=match κ with | true=>h.IsTupleIter it a i | false=>h.IsListIter it a i
def qL (κ:Bool) (h:Heap) (a:bAO) (items:Array Value):Prop:=match κ with | true=>h.IsTuple a items | false=>h.IsList a items
theorem gW.at {κ:Bool} {h h':Heap} {it a:bAO} {i:Nat} (x:gW κ h it a i) (e:∀o,h.get? it=some o->h'.get? it=some o):gW κ h' it a i:=by
 cases κ
 ·exact Heap.IsListIter.at x e
 ·exact Heap.IsTupleIter.at x e
theorem gW.obj {κ:Bool} {h:Heap} {it a:bAO} {i:Nat} (x:gW κ h it a i):∃o,h.get? it=some o/\∀v,o.data≠.cell v:=by
 cases κ
 ·obtain ⟨o,e,c,d⟩:=x;exact ⟨o,e,λv z=>by rw [d] at z;cases z⟩
 ·obtain ⟨o,e,c,d⟩:=x;exact ⟨o,e,λv z=>by rw [d] at z;cases z⟩
theorem aHY {prog:bAR} {w:bAU} {A:Around} (κ:Bool) (hh:A.handled=none) (it a:bAO) (hne:a≠it) (items:Array Value) :
  Draws prog w A it [it,a] items.size (λi v=>items[i]? = some v) (λi h=>gW κ h it a i/\qL κ h a items):=by
 cases κ
 ·exact Draws.list hh it a hne items
 ·exact aGI hh it a hne items
abbrev zq1 (h:Heap) (a:bAO):Heap:=h.push { cls:=.type "tuple_iterator",data:=.fields #[.ref a,.int 0 0] }
abbrev zq2 (h:Heap) (a b:bAO):Heap:=(zq1 h a).push { cls:=.type "tuple_iterator",data:=.fields #[.ref b,.int 0 0] }
abbrev zq3 (h:Heap) (a b:bAO):Heap:=(zq2 h a b).push { cls:=.type "tuple",data:=.seq #[.ref h.objs.size,.ref (zq1 h a).objs.size] }
abbrev zq4 (h:Heap) (a b:bAO):Heap:=(zq3 h a b).push { cls:=.type "tuple",data:=.seq #[.none,.none] }
abbrev zq5 (h:Heap) (a b:bAO):Heap:=(zq4 h a b).push { cls:=.type "zip",data:=.fields #[.none,.bool false,.bool false,.ref (zq2 h a b).objs.size,.ref (zq3 h a b).objs.size] }
theorem aKR (a b:bAO) (xs ys:Array Value) :
  Meets (Builtin.«zip.__new__» ⟨[.type "zip",.ref a,.ref b],[]⟩) (λ_ R s=>s.heap.IsTuple a xs/\s.heap.IsTuple b ys/\R (.ok (.ret (.ref (zq4 s.heap a b).objs.size))) { s with heap:=zq5 s.heap a b }):=
 .of_wp λprog w A R s h=>by
  obtain ⟨hp,g,d,tk,os⟩:=s;obtain ⟨ga,gb,h⟩:=h;have hsub:=sub_zip;have gA:Heap.IsTuple (Shared.heap ⟨hp,g,d,tk,os⟩) a xs:=ga;have gB:Heap.IsTuple (Shared.heap ⟨hp.push { cls:=.type "tuple_iterator",data:=.fields #[.ref a,.int 0 0] },g,d,tk,os⟩) b ys:=Heap.IsTuple.push gb _
  wp_walk using bCL gA,bCL gB
  exact ⟨_,rfl,h⟩
theorem aGB {prog:bAR} {w:bAU} {A:Around} {E:Value->Shared->Prop} {s:Shared} {a b:bAO} {xs ys:Array Value} {Q:Value->Shared->Prop} (ga:s.heap.IsTuple a xs) (gb:s.heap.IsTuple b ys)
  (g:∀h',bB8 h' (s.heap.objs.size+4) (s.heap.objs.size+2) (s.heap.objs.size+3) .none->IsPair h' (s.heap.objs.size+2) (.ref s.heap.objs.size) (.ref (s.heap.objs.size+1))->IsPair h' (s.heap.objs.size+3) .none .none->
   h'.IsTupleIter s.heap.objs.size a 0->h'.IsTupleIter (s.heap.objs.size+1) b 0->(∀c o,s.heap.get? c=some o->h'.get? c=some o)->Q (.ref (s.heap.objs.size+4)) { s with heap:=h' }) :
  bAQ (bAV prog w) A (call (.type "zip") [.ref a,.ref b]) Q E s:=by
 refine callType_new F.called_zip (by decide) (F.typeCall_zip_2 _ _) (F.newCall_zip_2 _ _) (λobj=>F.args_object_init_3 obj _ _) F.entry_zip_new (aKR a b xs ys) ⟨ga,gb,?_⟩;have y1:(zq1 s.heap a).objs.size=s.heap.objs.size+1:=aYB ..;have y2:(zq2 s.heap a b).objs.size=s.heap.objs.size+2:=by rw [aYB,y1]
 have y3:(zq3 s.heap a b).objs.size=s.heap.objs.size+3:=by rw [aYB,y2]
 have y4:(zq4 s.heap a b).objs.size=s.heap.objs.size+4:=by rw [aYB,y3]
 have p4:∀{c:bAO} {o:Obj},(zq4 s.heap a b).get? c=some o->(zq5 s.heap a b).get? c=some o:=λe=>aDZ _ e;have p3:∀{c:bAO} {o:Obj},(zq3 s.heap a b).get? c=some o->(zq5 s.heap a b).get? c=some o:=λe=>p4 (aDZ _ e);have p2:∀{c:bAO} {o:Obj},(zq2 s.heap a b).get? c=some o->(zq5 s.heap a b).get? c=some o:=λe=>p3 (aDZ _ e);have p1:∀{c:bAO} {o:Obj},(zq1 s.heap a).get? c=some o->(zq5 s.heap a b).get? c=some o:=λe=>p2 (aDZ _ e);have p0:∀{c:bAO} {o:Obj},s.heap.get? c=some o->(zq5 s.heap a b).get? c=some o:=λe=>p1 (aDZ _ e);have x5:(zq5 s.heap a b).get? (zq4 s.heap a b).objs.size=some _:=aLS _ rfl;have x4:(zq5 s.heap a b).get? (zq3 s.heap a b).objs.size=some _:=p4 (aLS _ rfl);have x3:(zq5 s.heap a b).get? (zq2 s.heap a b).objs.size=some _:=p3 (aLS _ rfl);have x2:(zq5 s.heap a b).get? (zq1 s.heap a).objs.size=some _:=p2 (aLS _ rfl);have x1:(zq5 s.heap a b).get? s.heap.objs.size=some _:=p1 (aLS _ rfl);show _/\_;rw [y2,y3,y4] at x5;rw [y1,y2] at x3;rw [y3] at x4;rw [y1] at x2;rw [y4];exact ⟨⟨_,x5,rfl⟩,g _ x5 x3 x4 ⟨_,x1,rfl,rfl⟩ ⟨_,x2,rfl,rfl⟩ λc o e=>p0 e⟩
theorem nd5 (n:Nat):[n+4,n+2,n+3,n,n+1].Nodup:=by
 simp only [aXH,aH1,aVX,or_false,not_or,List.nodup_nil,and_true,not_false_eq_true];omega
theorem ge5 {n c:Nat} (h:c∈[n+4,n+2,n+3,n,n+1]):n<=c:=by
 simp only [aH1,aVX,or_false] at h;omega
section
variable {X:Cx} {pos:Pos} {a b e:Expr} {ta tb te:TE} {tc:TT}
def aL1 (c:TT):TS:=λD σ H=>c σ H λb H1=>b=true/\D.nx σ H1
theorem aFN {c:Expr} {m:Option Expr} (hc:QT X c tc):QS X (.Assert c m pos) (aL1 tc):=⟨by
 intro pins s σ H D I h;exact wpAny_Assert_holds (b9 (hc.h pins s σ H _ I h) λb s1 ⟨H1,I1,q1⟩=>⟨q1.1,σ,H1,I1,q1.2⟩)⟩
def aT4 (K:W.Frag) (te:TE) (T1 T2:String):TE:=λσ H Q=>te σ H λx H1=>∃k,Kd K H1 x k/\T1∈tys/\T2∈tys/\∀p,H1 p=none->Q (.bl (qC k T1||qC k T2)) (upd H1 p (.tup [.ty T1,.ty T2]))
theorem sV {H:Hp} {pins:List (bAO×Obj)} {σ:St} {s:Shared} {x:V} {u:Value} {k T:String} (I:aR X pins σ H s) (r:bC x u) (hk:Kd X.K H x k) (hT:T∈tys):s.TypeIs u k/\Answers (λs=>s.TypeIs u k) u (.type T) (qC k T):=by
 simp only [tys,aH1,aVX,or_false] at hT;cases hk with
 | non=>
  cases r;refine ⟨rfl,?_⟩;rcases hT with rfl | rfl | rfl | rfl | rfl
  ·exact Answers.of_false_none (by decide +kernel) F.isi_meta_int F.sub_NoneType_int
  ·exact Answers.of_false_none (by decide +kernel) F.isi_meta_bool F.sub_NoneType_bool
  ·exact Answers.of_false_none (by decide +kernel) F.isi_meta_tuple F.sub_NoneType_tuple
  ·exact Answers.of_false_none (by decide +kernel) F.isi_meta_list F.sub_NoneType_list
  ·exact Answers.of_false_none (by decide +kernel) F.isi_meta_str F.sub_NoneType_str
 | bl b=>
  cases r;refine ⟨rfl,?_⟩;rcases hT with rfl | rfl | rfl | rfl | rfl
  ·exact Answers.of_true F.isi_meta_int F.sub_bool_int
  ·exact Answers.of_true F.isi_meta_bool F.sub_bool_bool
  ·exact Answers.of_false_bool (by decide +kernel) F.isi_meta_tuple F.sub_bool_tuple
  ·exact Answers.of_false_bool (by decide +kernel) F.isi_meta_list F.sub_bool_list
  ·exact Answers.of_false_bool (by decide +kernel) F.isi_meta_str F.sub_bool_str
 | int i=>
  obtain ⟨t,rfl⟩:=r;refine ⟨rfl,?_⟩;rcases hT with rfl | rfl | rfl | rfl | rfl
  ·exact Answers.of_true F.isi_meta_int F.sub_int_int
  ·exact Answers.of_false_int (by decide +kernel) F.isi_meta_bool F.sub_int_bool
  ·exact Answers.of_false_int (by decide +kernel) F.isi_meta_tuple F.sub_int_tuple
  ·exact Answers.of_false_int (by decide +kernel) F.isi_meta_list F.sub_int_list
  ·exact Answers.of_false_int (by decide +kernel) F.isi_meta_str F.sub_int_str
 | str z=>
  obtain ⟨t,rfl⟩:=r;refine ⟨rfl,?_⟩;rcases hT with rfl | rfl | rfl | rfl | rfl
  ·exact Answers.of_false_str (by decide +kernel) F.isi_meta_int F.sub_str_int
  ·exact Answers.of_false_str (by decide +kernel) F.isi_meta_bool F.sub_str_bool
  ·exact Answers.of_false_str (by decide +kernel) F.isi_meta_tuple F.sub_str_tuple
  ·exact Answers.of_false_str (by decide +kernel) F.isi_meta_list F.sub_str_list
  ·exact Answers.of_true F.isi_meta_str F.sub_str_str
 | tup hq=>
  cases r;obtain ⟨its,rv,⟨o,ho,hc,_⟩,_⟩:=I.tuple hq;refine ⟨⟨o,ho,hc⟩,?_⟩;rcases hT with rfl | rfl | rfl | rfl | rfl
  ·exact Answers.of_false_tuple (by decide +kernel) F.isi_meta_int F.sub_tuple_int
  ·exact Answers.of_false_tuple (by decide +kernel) F.isi_meta_bool F.sub_tuple_bool
  ·exact Answers.of_true F.isi_meta_tuple F.sub_tuple_tuple
  ·exact Answers.of_false_tuple (by decide +kernel) F.isi_meta_list F.sub_tuple_list
  ·exact Answers.of_false_tuple (by decide +kernel) F.isi_meta_str F.sub_tuple_str
 | lst hq=>
  cases r;obtain ⟨its,rv,⟨o,n,ho,hc,_⟩,_⟩:=I.list hq;refine ⟨⟨o,ho,hc⟩,?_⟩;rcases hT with rfl | rfl | rfl | rfl | rfl
  ·exact Answers.of_false_list (by decide +kernel) F.isi_meta_int F.sub_list_int
  ·exact Answers.of_false_list (by decide +kernel) F.isi_meta_bool F.sub_list_bool
  ·exact Answers.of_false_list (by decide +kernel) F.isi_meta_tuple F.sub_list_tuple
  ·exact Answers.of_true F.isi_meta_list F.sub_list_list
  ·exact Answers.of_false_list (by decide +kernel) F.isi_meta_str F.sub_list_str
theorem aOG {x1 x2:Str} {T1 T2:String} {p p1 p2 p3:Pos} {k:Nat} (hg:Gl X "isinstance") (hm:X.mg "isinstance" = none) (he:QE X e te) (h1:Gl X x1) (m1:X.mg x1=none) (b1:bA3 x1=some (.type T1)) (h2:Gl X x2) (m2:X.mg x2=none) (b2:bA3 x2=some (.type T2))
  (hs:bR e=false:=by rfl) (n1:x1≠"__name__":=by decide) (d1:(x1==("__debug__":Str))=false:=by decide) (n2:x2≠"__name__":=by decide) (d2:(x2==("__debug__":Str))=false:=by decide) :
  QE X (.Call (.Name "isinstance" p) [e,.Tuple [.Name x1 p1,.Name x2 p2] k p3] [] pos) (aT4 X.K te T1 T2):=⟨by
 intro pins s σ H Q I h;refine bBJ (mH I hg hm bB5 ?_);refine PyProof.Rows.callWith_builtin1 ?_ (bX hs) (cO rfl);rw [bX hs];show bAQ _ _ (spliced ((false,bA2 e X.env)::bBA pos (bA0 [.Tuple [.Name x1 p1,.Name x2 p2] k p3] X.env))) _ _ s;refine Calls.spliced_cons (b9 (he.h pins s σ H _ I h) λu s1 ⟨x,H1,I1,r1,kk,hk,t1,t2,q⟩=>?_);rw [bX (e:=.Tuple [.Name x1 p1,.Name x2 p2] k p3) rfl];show bAQ _ _ (spliced ((false,bA2 (.Tuple [.Name x1 p1,.Name x2 p2] k p3) X.env)::bBA pos (bA0 [] X.env))) _ _ s1;have both:PA X [.Name x1 p1,.Name x2 p2] (aA3 (tC (.ty T1)) (aA3 (tC (.ty T2)) aM0)):=pc (xT (v:=.ty T1) h1 m1 b1 rfl n1 d1) (pc (xT (v:=.ty T2) h2 m2 b2 rfl n2 d2) aKP);refine Calls.spliced_cons (wpAny_Tuple_spliced (b9 (both p3 pins s1 σ H1 (λvs H2=>vs=[.ty T1,.ty T2]/\H2=H1) I1 ⟨rfl,rfl⟩) λus s2 ⟨vs,H2,I2,r2,ev,eh⟩=>?_));subst ev eh;obtain ⟨v1,v2,rfl,w1,w2⟩:=bA.two r2;cases w1;cases w2;refine ⟨by show 2<=bAW;decide,?_⟩;refine Calls.spliced_nil ?_;have hf:H2 s2.heap.objs.size=none:=I2.hok.fresh (aFI _);have I3:aR X pins σ (upd H2 s2.heap.objs.size (.tup [.ty T1,.ty T2])) { s2 with heap:=s2.heap.push { cls:=.type "tuple",data:=.seq [Value.type T1,Value.type T2].toArray } }:=
  I2.laid (t':=s2.toks) (λb u e=>aDZ _ e) (aFI _) ⟨by show 2<=bAW;decide,[.type T1,.type T2],.cons rfl (.cons rfl .nil),⟨_,aLS _ rfl,rfl,_,rfl⟩⟩
 have hk3:Kd X.K (upd H2 s2.heap.objs.size (.tup [.ty T1,.ty T2])) x kk:=by
  have up:∀b o,H2 b=some o->upd H2 s2.heap.objs.size (.tup [.ty T1,.ty T2]) b=some o:=λb o e=>by rw [aS (aQ e hf)];exact e
  cases hk with
  | non=>exact .non
  | bl b=>exact .bl b
  | int i=>exact .int i
  | str z=>exact .str z
  | tup hq=>
   rcases hq with (hq | ⟨o,hq⟩) | hq
   ·exact .tup (.inl (.inl (up _ _ hq)))
   ·exact .tup (.inl (.inr ⟨o,up _ _ hq⟩))
   ·exact .tup (.inr hq)
  | lst hq=>
   rcases hq with (hq | ⟨o,hq⟩) | hq
   ·exact .lst (.inl (.inl (up _ _ hq)))
   ·exact .lst (.inl (.inr ⟨o,up _ _ hq⟩))
   ·exact .lst (.inr hq)
 obtain ⟨g0,g1⟩:=sV I3 r1 hk3 t1;obtain ⟨_,g2⟩:=sV I3 r1 hk3 t2;refine IsiPair.tupleOf (cs:=[.type T1,.type T2]) (vs:=[qC kk T1,qC kk T2]) ⟨g1,g2,trivial⟩ g0 (aLS _ rfl) λtk=>?_;refine ⟨.bl (qC kk T1||qC kk T2),_,I3.tok _,?_,q _ hf⟩;show aZU ([qC kk T1,qC kk T2].any id)=aZU (qC kk T1||qC kk T2);simp⟩
end
section
variable {X:Cx} {K:W.Frag} {pos:Pos}
def aD0 (i j:Int):Prop:=i.natAbs<2^8000/\j.natAbs<2^8000
theorem aDH {a:Int} (h:a.natAbs<2^8000):Builtin.Int.intBits a<=8001:=by
 unfold Builtin.Int.intBits
 split
 ·omega
 ·rename_i h0;have hne:a.natAbs≠0:=by
   intro z;apply h0
   first | exact Int.natAbs_eq_zero.mp z | simp [Int.natAbs_eq_zero.mp z] | omega
  have:=(aYL hne).mpr h;omega
theorem aD0.ok {i j:Int} (h:aD0 i j):IntMulOk i j:=by
 have h1:=aDH h.1;have h2:=aDH h.2;unfold IntMulOk;have:Builtin.Int.intTooBig (Builtin.Int.intBits i+Builtin.Int.intBits j)=false:=by
  unfold Builtin.Int.intTooBig;simp only [decide_eq_false_iff_not];have:(16002:Int)<=bitsLine:=by decide
  omega
 rw [this];simp
theorem aNC:jP X (bBG .Mult) (rI aD0 λi j=>.int (i*j)):=opI λ_ _ _ _ _ _ _ hc q=>mul_int q hc.ok
end
section
variable {X:Cx}
def sI (i j:Int):Prop:=j≠0/\j.natAbs<2^8000
theorem cJ:jP X (bBG .FloorDiv) (rI sI λi j=>.int (i.fdiv j)):=opI λi j _ _ _ _ _ hc q=>by
 obtain ⟨h0,h1⟩:=hc;have hl:j.natAbs.log2<9000:=by
  have:=(aYL (show j.natAbs≠0 by omega)).mpr h1;omega
 exact floordiv_int h0 q (.inl (PyProof.noPylong_of_log2 hl))
end
section
variable {X:Cx} {pos:Pos} {o e:Expr} {to:TE} {tr:TA}
theorem aF5 {ap:Pos} (ho:QE X o to) (ha:QA X [e] tr) (hbase:bA4 o "append" X.env (bA2 o X.env)=bA2 o X.env:=by rfl) (hline:(ap.endLine==pos.line)=true:=by rfl) (hs:bR e=false:=by rfl) :
  QE X (.Call (.Attribute o "append" ap) [e] [] pos) (tBM X.K "list" aEC to tr):=
 ⟨aLB PySem.F.plainAttrs_list PySem.F.slot_list_append PySem.F.type_list_append oU ho.h ha.h hbase (by rw [bX hs];rfl) hline (bX hs) (cO rfl)⟩
end
section
variable {X:Cx}
theorem vT:fA X (.builtin "divmod") (λxs H Q=>∃a b:Int,xs=[.int a,.int b]/\0<b/\b<2^200/\∀p,H p=none->Q (.ref p) (upd H p (.tup [.int (a/b),.int (a%b)]))):=by
 intro pins s σ H xs us Q I r h;obtain ⟨a,b,rfl,h0,h1,q⟩:=h;obtain ⟨u,v,rfl,rx,ry⟩:=bA.two r;obtain ⟨t,rfl⟩:=rx;obtain ⟨t',rfl⟩:=ry;have e1:a.fdiv b=a/b:=aV9 _ (by omega);have e2:a.fmod b=a%b:=aZQ _ (by omega);have hl:b.natAbs.log2<9000:=by
  have hb:b.natAbs<2^200:=by omega
  have:=(aYL (show b.natAbs≠0 by omega)).mpr hb;omega
 refine divmod_int (by omega) ?_ (.inl (PyProof.noPylong_of_log2 hl));refine ⟨.ref s.heap.objs.size,_,I.laid (o:=.tup [.int (a/b),.int (a%b)]) (t':=s.toks+1+1) (λb u e=>aDZ _ e) (aFI _) ?_,rfl,q _ (I.hok.fresh (aFI _))⟩;refine ⟨by show 2<=bAW;decide,[.int (a.fdiv b) s.toks,.int (a.fmod b) (s.toks+1)],.cons ⟨_,by rw [e1]⟩ (.cons ⟨_,by rw [e2]⟩ .nil),⟨_,aLS _ rfl,rfl,_,rfl⟩⟩
end
section
variable {X:Cx} {pos:Pos} {o e:Expr} {to:TE} {tr:TA}
def aO4:V->List V->Hp->VK->Prop:=λx vs H Q=>∃i:Int,x = .int i/\vs=[]/\Q (.int ((Builtin.Int.intBits i:Nat):Int)) H
theorem aM6:MtR X "int.bit_length" aO4:=by
 intro pins s σ H x vs v us Q I rx rv h;obtain ⟨i,rfl,rfl,q⟩:=h;obtain ⟨t,rfl⟩:=rx;cases rv;exact call_int_bit_length ⟨.int _,H,I.tok _,⟨_,rfl⟩,q⟩
theorem aL7 {ap:Pos} (ho:QE X o to) (hbase:bA4 o "bit_length" X.env (bA2 o X.env)=bA2 o X.env:=by rfl) (hline:(ap.endLine==pos.line)=true:=by rfl) :
  QE X (.Call (.Attribute o "bit_length" ap) [] [] pos) (aU6 X.K "int" aO4 to):=
 ⟨aK9 PySem.F.plainAttrs_int PySem.F.slot_int_bit_length PySem.F.type_int_bit_length aM6 ho.h hbase hline⟩
end
section
variable {κ:Type} [DecidableEq κ]
def fZ (kvs:List (κ×V)) (k:κ):Option V:=(kvs.find? λkv=>decide (kv.1=k)).map (·.2)
def qK (kvs:List (κ×V)) (k:κ) (v:V):List (κ×V):=
 if (kvs.any λkv=>decide (kv.1=k))=true then kvs.map (λkv=>if kv.1=k then (kv.1,v) else kv) else kvs++[(k,v)]
theorem dG {p:κ×V} {r:List (κ×V)} {k:κ} (e:p.1=k):fZ (p::r) k=some p.2:=by simp [fZ,aYI,e]
theorem dB {p:κ×V} {r:List (κ×V)} {k:κ} (e:¬p.1=k):fZ (p::r) k=fZ r k:=by simp [fZ,aYI,e]
theorem tG (k:κ):∀kvs:List (κ×V),(kvs.any λkv=>decide (kv.1=k))=(fZ kvs k).isSome
 | []=>rfl
 | p::r=>by
  rw [aZA]
  by_cases e:p.1=k
  ·simp only [dG e,decide_eq_true e,Bool.true_or,Option.isSome_some]
  ·rw [dB e,decide_eq_false e,Bool.false_or];exact tG k r
theorem aAP (k j:κ) (y:V):∀kvs:List (κ×V),fZ (kvs.map λkv=>if kv.1=k then (kv.1,y) else kv) j=(fZ kvs j).map λx=>if j=k then y else x
 | []=>rfl
 | p::r=>by
  have ih:=aAP k j y r;rw [aQA]
  by_cases h:p.1=k
  ·rw [if_pos h]
   by_cases e:p.1=j
   ·rw [dG (p:=(p.1,y)) e,dG e,aZG,if_pos (e.symm.trans h)]
   ·rw [dB (p:=(p.1,y)) e,dB e,ih]
  ·rw [if_neg h]
   by_cases e:p.1=j
   ·rw [dG (p:=p) e,dG e,aZG,if_neg (λz=>h (e.trans z))]
   ·rw [dB (p:=p) e,dB e,ih]
theorem vP (k j:κ) (y:V):∀kvs:List (κ×V),fZ kvs k=none->fZ (kvs++[(k,y)]) j=if j=k then some y else fZ kvs j
 | [],_=>by
  by_cases e:k=j
  ·rw [if_pos e.symm];exact dG (p:=(k,y)) e
  ·rw [if_neg (λz=>e z.symm)];exact dB (p:=(k,y)) e
 | p::r,hn=>by
  rw [aZY];have hk:¬p.1=k:=λz=>by rw [dG z] at hn;cases hn
  rw [dB hk] at hn;have ih:=vP k j y r hn
  by_cases e:p.1=j
  ·rw [dG e,dG e,if_neg (λz=>hk (e.trans z))]
  ·rw [dB e,dB e,ih]
theorem zQ (kvs:List (κ×V)) (k j:κ) (y:V):fZ (qK kvs k y) j=if j=k then some y else fZ kvs j:=by
 unfold qK
 by_cases a:(kvs.any λkv=>decide (kv.1=k))=true
 ·rw [if_pos a,aAP];rw [tG] at a
  by_cases e:j=k
  ·obtain ⟨x,hx⟩:=aZW.mp a;rw [if_pos e,e,hx,aZG,if_pos rfl]
  ·rw [if_neg e];cases fZ kvs j with
   | none=>rfl
   | some x=>rw [aZG,if_neg e]
 ·rw [if_neg a];refine vP k j y kvs ?_;rw [tG] at a;cases q:fZ kvs k with
  | none=>rfl
  | some x=>rw [q] at a;exact (a rfl).elim
theorem aAW (kvs:List (κ×V)) (k:κ) (v:V):(qK kvs k v).length<=kvs.length+1:=by
 unfold qK
 split
 ·rw [aG5];omega
 ·rw [aBN,aOW,bAE];omega
theorem aFZ.getD {o:Option V} {u:Option Value} {d:V} {d':Value} (r:aFZ o u) (rd:bC d d'):bC (o.getD d) (u.getD d'):=by
 cases o with
 | none=>cases u with
  | none=>exact rd
  | some _=>exact (show False from r).elim
 | some _=>cases u with
  | none=>exact (show False from r).elim
  | some _=>exact r
theorem KV.val {kvs:List (κ×V)} {vs:List (κ×Value)} (r:KV kvs vs) (k:κ):aFZ (fZ kvs k) (valueAt vs k):=by
 unfold KV at r
 induction r with
 | nil=>exact True.intro
 | @cons p q ps qs h t ih=>
  obtain ⟨h1,h2⟩:=h
  by_cases e:p.1=k
  ·have e':q.1=k:=h1.symm.trans e;have b:valueAt (q::qs) k=some q.2:=by simp [valueAt,aYI,e']
   rw [dG e,b];exact h2
  ·have e':¬q.1=k:=λz=>e (h1.trans z);have b:valueAt (q::qs) k=valueAt qs k:=by simp [valueAt,aYI,e']
   rw [dB e,b];exact ih
theorem KV.any {kvs:List (κ×V)} {vs:List (κ×Value)} (r:KV kvs vs) (k:κ):(kvs.any λkv=>decide (kv.1=k))=vs.any λkv=>decide (kv.1=k):=by
 unfold KV at r
 induction r with
 | nil=>rfl
 | cons h t ih=>rw [aZA,aZA,ih,h.1]
theorem KV.repl {kvs:List (κ×V)} {vs:List (κ×Value)} (r:KV kvs vs) (k:κ) {y:V} {u:Value} (ry:bC y u) :
  KV (kvs.map λkv=>if kv.1=k then (kv.1,y) else kv) (vs.map λkv=>if kv.1=k then (kv.1,u) else kv):=by
 unfold KV at r ⊢
 induction r with
 | nil=>exact .nil
 | @cons p q ps qs h t ih=>
  rw [aQA,aQA];refine .cons ?_ ih;obtain ⟨h1,h2⟩:=h
  by_cases e:p.1=k
  ·rw [if_pos e,if_pos (h1.symm.trans e)];exact ⟨h1,ry⟩
  ·rw [if_neg e,if_neg (λz=>e (h1.trans z))];exact ⟨h1,h2⟩
theorem KV.put {kvs:List (κ×V)} {vs:List (κ×Value)} (r:KV kvs vs) (k:κ) {y:V} {u:Value} (ry:bC y u):KV (qK kvs k y) (stored vs k u):=by
 unfold qK stored;rw [r.any k]
 by_cases e:(vs.any λkv=>decide (kv.1=k))=true
 ·rw [if_pos e,if_pos e];exact r.repl k ry
 ·rw [if_neg e,if_neg e];exact Paired.snoc r ⟨rfl,ry⟩
end
theorem aK4 {P:bAR} {w:bAU} {k:Key} {u:Value} (r:bC (kV k) u):(cN P w).is k u=true:=by
 cases k with
 | inl i=>obtain ⟨t,e⟩:=(show ∃t,u=Value.int i t from r);subst e;exact zG P w i t
 | inr x=>obtain ⟨t,e⟩:=(show ∃t,u=bAB x t from r);subst e;exact zX P w x t
theorem vH {P:bAR} {w:bAU}:∀{ks:List Key} {us:List Value},bA (ks.map kV) us->ItemsAre (cN P w) ks us
 | [],_,r=>by rw [List.map_nil] at r;cases r;exact .nil
 | k::ks,_,r=>by
  rw [aQA] at r;cases r with
  | cons h t=>exact .cons (aK4 h) (vH t)
abbrev KTd (H:Hp):List (List Key×V)->List (List Key×bAO×Value)->Prop:=Paired λp q=>p.1=q.1/\H q.2.1=some (.tup (p.1.map kV))/\bC p.2 q.2.2
theorem KTd.val {H:Hp} {kvs:List (List Key×V)} {xs:List (List Key×bAO×Value)} (r:KTd H kvs xs) (k:List Key):aFZ (fZ kvs k) ((atKey xs k).map (·.2)):=by
 induction r with
 | nil=>exact True.intro
 | @cons p q ps qs h t ih=>
  obtain ⟨h1,_,h2⟩:=h
  by_cases e:p.1=k
  ·have e':q.1=k:=h1.symm.trans e;have b:atKey (q::qs) k=some q.2:=by simp [atKey,aYI,e']
   rw [dG e,b];exact h2
  ·have e':¬q.1=k:=λz=>e (h1.trans z);have b:atKey (q::qs) k=atKey qs k:=by simp [atKey,aYI,e']
   rw [dB e,b];exact ih
section
variable {P:bAR} {w:bAU} {H:Hp} {h:Heap} {a:bAO}
theorem aKB {u:HO} (ok:iO P w H h) (e:Rd H a u):cP P w H h a u:=e.ok ok
theorem aKI {kvs:List (Key×V)} (ok:iO P w H h) (e:Rd H a (.dK kvs)):kvs.length<=bAW/\(a==bBV)=false/\∃vs,KV kvs vs/\h.DictOf (cN P w) a vs:=
 show cP P w H h a (.dK kvs) from aKB ok e
theorem aU4 {kvs:List (Key×V)} (ok:iO P w H h) (e:H a=some (.dK kvs)):kvs.length<=bAW/\(a==bBV)=false/\∃vs,KV kvs vs/\h.DictOf (cN P w) a vs:=aKI ok (.inl e)
theorem aKC {ks:List Key} (ok:iO P w H h) (e:H a=some (.tup (ks.map kV))):(bCR (cN P w)).is h ks a:=by
 obtain ⟨_,its,r,o,h1,h2,n,h3⟩:=(show cP P w H h a (.tup (ks.map kV)) from ok a _ e);exact ⟨o,its.toArray,n,h1,h2,h3,by simpa using vH r⟩
theorem aPB {kvs:List (List Key×V)} (ok:iO P w H h) (e:Rd H a (.dT kvs)):kvs.length<=bAW/\(a==bBV)=false/\
  ∃xs,KTd H kvs xs/\h.DictOfH (bCR (cN P w)) a xs:=by
 obtain ⟨z,y,xs,r,o,es,ep,h1,h2,h3,h4,h5⟩:=(show cP P w H h a (.dT kvs) from aKB ok e);refine ⟨z,y,xs,r,o,es,ep,h1,h2,h3,h4,λx hx=>?_,h5⟩;have all:∀{l:List (List Key×V)} {m:List (List Key×bAO×Value)},KTd H l m->∀x∈m,(bCR (cN P w)).is h x.1 x.2.1:=by
  intro l m q
  induction q with
  | nil=>intro x hx;exact nomatch hx
  | @cons p q ps qs hq t ih=>
   intro x hx;rcases aH1.mp hx with e | hx
   ·subst e;exact aKC ok (by rw [<-hq.1];exact hq.2.1)
   ·exact ih x hx
 exact all r x hx
end
def aI7 (H:Hp) (a:bAO) (y:V) (r:Option V):Prop:=
 (∃kvs k,Rd H a (.dK kvs)/\y=kV k/\r=fZ kvs k)\/∃kvs k b,Rd H a (.dT kvs)/\y = .ref b/\H b=some (.tup (k.map kV))/\r=fZ kvs k
theorem aI7.k {H:Hp} {a:bAO} {kvs:List (Key×V)} {k:Key} (e:H a=some (.dK kvs)):aI7 H a (kV k) (fZ kvs k):=.inl ⟨kvs,k,.inl e,rfl,rfl⟩
section
variable {X:Cx} {pins:List (bAO×Obj)} {σ:St} {H:Hp} {s:Shared} {a:bAO} {y v:V} {u r:Value} {o:Option V} {A:Around} {E:Value->Shared->Prop}
theorem aR.big (I:aR X pins σ H s):bBV<s.heap.objs.size:=by
 have h:bAX<s.heap.objs.size:=(I.mod.glob.keeps I.bk).lt;exact Nat.lt_trans (by decide) h
theorem aNZ {h':Heap} {t':Nat} {ob:HO} (I:aR X pins σ H s) (mu:Mut (H a)) (hs:aYR a s.heap h') (he:∃q,h'.get? a=some q) (new:cP X.prog X.w (upd H a ob) h' a ob) :
  aR X pins σ (upd H a ob) { s with heap:=h',toks:=t' }:=
 I.write (x:=a) (e:=a) mu (.inl rfl) (λb q hb z=>(hs.2 b hb).trans z) he new
theorem aQW {P:bAR} {w:bAU} {H':Hp} {h':Heap} {kvs:List (Key×V)} {vs:List (Key×Value)} (z:kvs.length<=bAW) (hd:(a==bBV)=false) (rel:KV kvs vs) (dd:h'.DictOf (cN P w) a vs) :
  cP P w H' h' a (.dK kvs):=⟨z,hd,vs,rel,dd⟩
end
theorem aKE {P:bAR} {w:bAU} {H:Hp} (h:Heap) (hb:bBV<h.objs.size):cP P w H (h.push { cls:=.type "dict",data:=.dict #[] }) h.objs.size (.dK []):=
 ⟨aB7 _,beq_eq_false_iff_ne.mpr (Ne.symm (aTV hb)),[],.nil,Heap.DictOf.new h⟩
def yB:List (TE×TE)->St->Hp->(List (V×V)->Hp->Prop)->Prop
 | [],_,H,Q=>Q [] H
 | (tk,tv)::r,σ,H,Q=>tk σ H λx H1=>tv σ H1 λy H2=>yB r σ H2 λps H3=>Q ((x,y)::ps) H3
abbrev VV:List (V×V)->List (Value×Value)->Prop:=Paired λp q=>bC p.1 q.1/\bC p.2 q.2
def PPs (X:Cx) (pos:Pos) (keys:List (Option Expr)) (values:List Expr) (trs:List (TE×TE)):Prop:=
 ∀(pins:List (bAO×Obj)) (s:Shared) (σ:St) (H:Hp) (Q:List (V×V)->Hp->Prop),aR X pins σ H s->yB trs σ H Q->
  bAQ (bAV X.prog X.w) X.A (evalPairs (pairTrees keys values X.env pos)) (λvs s'=>∃ps H',aR X pins σ H' s'/\VV ps vs/\Q ps H') X.xe s
theorem aMA {X:Cx} {pos:Pos}:PPs X pos [] [] []:=λpins s σ H Q I h=>pairTrees_nil_walk ⟨[],H,I,.nil,h⟩
theorem aJL {X:Cx} {pos:Pos} {k v:Expr} {ks:List (Option Expr)} {vs:List Expr} {tk tv:TE} {trs:List (TE×TE)} (hk:PE X k tk) (hv:PE X v tv) (hr:PPs X pos ks vs trs) :
  PPs X pos (some k::ks) (v::vs) ((tk,tv)::trs):=λpins s σ H Q I h=>
 pairTrees_cons_walk (b9 (hk pins s σ H _ I h) λu s1 ⟨x,H1,I1,rx,q1⟩=>b9 (hv pins s1 σ H1 _ I1 q1) λw2 s2 ⟨y,H2,I2,ry,q2⟩=>
  b9 (hr pins s2 σ H2 _ I2 q2) λws s3 ⟨ps,H3,I3,rel,q3⟩=>⟨(x,y)::ps,H3,I3,.cons ⟨rx,ry⟩ rel,q3⟩)
def eR (kvs more:List (Key×V)):List (Key×V):=more.foldl (λacc kv=>qK acc kv.1 kv.2) kvs
theorem KV.merge:∀{more:List (Key×V)} {rs:List (Key×Value)} {kvs:List (Key×V)} {vs:List (Key×Value)},KV more rs->KV kvs vs->KV (eR kvs more) (merged vs rs):=by
 intro more rs kvs vs r;unfold KV at r
 induction r generalizing kvs vs with
 | nil=>intro q;exact q
 | @cons p q ps qs h t ih=>
  intro r0;have e:KV (qK kvs p.1 p.2) (stored vs q.1 q.2):=by
   have:=r0.put p.1 h.2;rw [<-h.1];exact this
  exact ih e
theorem lU:∀(more kvs:List (Key×V)),(eR kvs more).length<=kvs.length+more.length
 | [],kvs=>by show kvs.length<=kvs.length+0;omega
 | p::r,kvs=>by
  have h1:=lU r (qK kvs p.1 p.2);have h2:=aAW kvs p.1 p.2;show (eR (qK kvs p.1 p.2) r).length<=_;rw [aOW];omega
theorem tO {P:bAR} {w:bAU}:∀{kvs:List (Key×V)} {ws:List (Value×Value)},VV (kvs.map λkv=>(kV kv.1,kv.2)) ws->∃rs,Carries (cN P w) ws rs/\KV kvs rs
 | [],_,r=>by rw [List.map_nil] at r;cases r;exact ⟨[],True.intro,.nil⟩
 | p::kvs,_,r=>by
  rw [aQA] at r;cases r with
  | @cons a b as bs h t=>
   obtain ⟨rs,c,q⟩:=tO (P:=P) (w:=w) t;obtain ⟨b1,b2⟩:=b;exact ⟨(p.1,b2)::rs,⟨aK4 h.1,rfl,c⟩,.cons ⟨rfl,h.2⟩ q⟩
def aOJ (trs:List (TE×TE)):TE:=λσ H Q=>∀p,H p=none->yB trs σ (upd H p (.dK [])) λps H2=>H2 p=some (.dK [])/\∃kvs:List (Key×V),ps=kvs.map (λkv=>(kV kv.1,kv.2))/\kvs.length<=15/\Q (.ref p) (upd H2 p (.dK (eR [] kvs)))
theorem aN6 {X:Cx} {pos:Pos} {keys:List (Option Expr)} {values:List Expr} {trs:List (TE×TE)} (h:PPs X pos keys values trs) (hall:keys.all (·.isSome)=true) (hl:keys.length=values.length) (h0:keys≠[])
  (h15:keys.length<=15):PE X (.Dict keys values pos) (aOJ trs):=by
 intro pins s σ H Q I q;have hn:=I.hok.fresh (aFI s.heap.objs.size);have I1:=I.laid (a:=s.heap.objs.size) (o:=.dK []) (h':=s.heap.push { cls:=.type "dict",data:=.dict #[] }) (t':=s.toks) (λ_ _ q=>aDZ _ q) (aFI _) (aKE s.heap I.big);refine wpAny_Dict_walk (knd:=cN X.prog X.w) hall hl h0 h15 (b9 (h pins _ σ _ _ I1 (q _ hn)) λws s2 ⟨ps,H2,I2,rel,e,kvs,ep,lk,q2⟩=>?_);subst ep;obtain ⟨rs,c,rk⟩:=tO (P:=X.prog) (w:=X.w) rel;obtain ⟨z,hd,vs0,r0,dd⟩:=aU4 I2.hok e;cases r0;refine ⟨rs,c,dd,λh' dd' hs=>⟨.ref s.heap.objs.size,_,?_,rfl,q2⟩⟩;have hz:(eR [] kvs).length<=bAW:=by
  have h1:=lU kvs [];rw [bAE] at h1;rw [bBR];omega
 have he:∃q,h'.get? s.heap.objs.size=some q:=let ⟨q,_,_,hq,_⟩:=dd';⟨q,hq⟩;exact aNZ I2 (by rw [e];exact True.intro) hs he (aQW hz hd (rk.merge .nil) dd')
inductive T where
 | non | bl (b:Bool) | int (i:Int) | str (x:Str) | tup (xs:List T) | lst (xs:List T)
inductive U where
 | p (t:T) | o (k:Bool) (xs:List T)
abbrev En:=List (Option U)
inductive R where
 | p (t:T) | s (i:Nat)
def KT (K:W.Frag) (a:bAO) (xs:List V):Prop:=∃(o:Obj) (its:Array Value) (n:Nat),K.lookup a=some o/\o.cls = .type "tuple"/\o.data = .seq its n/\its.size<=bAW/\bA xs its.toList
def KL (K:W.Frag) (a:bAO) (xs:List V):Prop:=∃(o:Obj) (its:Array Value) (n:Nat),K.lookup a=some o/\o.cls = .type "list"/\o.dict=none/\o.data = .seq its n/\its.size<=bAW/\bA xs its.toList
mutual
def Rp (K:W.Frag) (H:Hp) (O:bAO->Prop):T->V->Prop
 | .non,v=>v = .non
 | .bl b,v=>v = .bl b
 | .int i,v=>v = .int i
 | .str x,v=>v = .str x
 | .tup xs,v=>∃a vs,v = .ref a/\((¬O a/\Rd H a (.tup vs))\/KT K a vs)/\bW K H O xs vs
 | .lst xs,v=>∃a vs,v = .ref a/\((¬O a/\Rd H a (.lst vs))\/KL K a vs)/\bW K H O xs vs
def bW (K:W.Frag) (H:Hp) (O:bAO->Prop):List T->List V->Prop
 | [],vs=>vs=[]
 | x::xs,vs=>∃v r,vs=v::r/\Rp K H O x v/\bW K H O xs r
end
structure Kp (O O':bAO->Prop) (H H':Hp):Prop where
 keep:∀b o,H b=some o->¬O b->H' b=some o
 new:∀b,O' b->O b\/H b=none
theorem Rd.step {H H':Hp} {a:bAO} {u:HO} {O O':bAO->Prop} (k:Kp O O' H H') (h:¬O a/\Rd H a u):¬O' a/\Rd H' a u:=by
 obtain ⟨n,h⟩:=h;rcases h with h | ⟨o,h⟩
 ·refine ⟨λz=>?_,.inl (k.keep _ _ h n)⟩;rcases k.new a z with z | z
  ·exact n z
  ·rw [h] at z;cases z
 ·refine ⟨λz=>?_,.inr ⟨o,k.keep _ _ h n⟩⟩;rcases k.new a z with z | z
  ·exact n z
  ·rw [h] at z;cases z
section
variable {K:W.Frag} {H H':Hp} {O O':bAO->Prop}
mutual
theorem Rp.step (k:Kp O O' H H'):∀{t:T} {v:V},Rp K H O t v->Rp K H' O' t v
 | .non,_,h=>h
 | .bl _,_,h=>h
 | .int _,_,h=>h
 | .str _,_,h=>h
 | .tup xs,v,h=>by
  obtain ⟨a,vs,e,h1,h2⟩:=h;exact ⟨a,vs,e,h1.imp (Rd.step k) id,bW.step k h2⟩
 | .lst xs,v,h=>by
  obtain ⟨a,vs,e,h1,h2⟩:=h;exact ⟨a,vs,e,h1.imp (Rd.step k) id,bW.step k h2⟩
theorem bW.step (k:Kp O O' H H'):∀{xs:List T} {vs:List V},bW K H O xs vs->bW K H' O' xs vs
 | [],_,h=>h
 | x::xs,vs,h=>by
  obtain ⟨v,r,e,h1,h2⟩:=h;exact ⟨v,r,e,Rp.step k h1,bW.step k h2⟩
end
theorem Kp.refl (O:bAO->Prop) (H:Hp):Kp O O H H:=⟨λ_ _ h _=>h,λ_ h=>.inl h⟩
theorem Kp.less (h:∀b,O' b->O b):Kp O O' H H:=⟨λ_ _ h _=>h,λ_ z=>.inl (h _ z)⟩
theorem Kp.trans {O'':bAO->Prop} {H'':Hp} (a:Kp O O' H H') (b:Kp O' O'' H' H''):Kp O O'' H H'':=by
 refine ⟨λc o h n=>b.keep c o (a.keep c o h n) λz=>?_,λc h=>?_⟩
 ·rcases a.new c z with z | z
  ·exact n z
  ·rw [h] at z;cases z
 ·rcases b.new c h with z | z
  ·exact a.new c z
  ·by_cases n:O c
   ·exact .inl n
   ·right
    cases q:H c with
    | none=>rfl
    | some o=>rw [a.keep c o q n] at z;cases z
theorem Kp.upd {a:bAO} {o:HO} (h:H a=none):Kp O O H (upd H a o):=⟨λb u e _=>by rw [aS (aQ e h)];exact e,λ_ z=>.inl z⟩
theorem bW.length:∀{xs:List T} {vs:List V},bW K H O xs vs->vs.length=xs.length
 | [],_,h=>by cases h;rfl
 | _::_,_,h=>by
  obtain ⟨v,r,e,_,h2⟩:=h;rw [e,aOW,aOW,bW.length h2]
theorem bW.get:∀{xs:List T} {vs:List V} {i:Nat} {x:T},bW K H O xs vs->xs[i]? = some x->∃v,vs[i]? = some v/\Rp K H O x v
 | [],_,_,_,_,e=>by simp at e
 | _::_,_,0,_,⟨v,r,e,h1,_⟩,q=>by simp at q;subst q;subst e;exact ⟨v,rfl,h1⟩
 | _::_,_,i+1,x,⟨v,r,e,_,h2⟩,q=>by
  obtain ⟨w,q1,q2⟩:=bW.get (i:=i) (x:=x) h2 (by simpa using q);subst e;exact ⟨w,by simpa using q1,q2⟩
theorem bW.append:∀{xs ys:List T} {vs ws:List V},bW K H O xs vs->bW K H O ys ws->bW K H O (xs++ys) (vs++ws)
 | [],_,_,_,h,k=>by cases h;exact k
 | _::_,_,_,_,⟨v,r,e,h1,h2⟩,k=>by subst e;exact ⟨v,_,rfl,h1,bW.append h2 k⟩
theorem bW.set {x:T} {v:V} (h:Rp K H O x v):∀{xs:List T} {vs:List V} (i:Nat),bW K H O xs vs->bW K H O (xs.set i x) (vs.set i v)
 | [],_,_,k=>by cases k;exact rfl
 | _::_,_,0,⟨u,r,e,h1,h2⟩=>by subst e;exact ⟨v,_,rfl,h,h2⟩
 | _::_,_,i+1,⟨u,r,e,h1,h2⟩=>by subst e;exact ⟨u,_,rfl,h1,bW.set h i h2⟩
theorem bW.take:∀{xs:List T} {vs:List V} (n:Nat),bW K H O xs vs->bW K H O (xs.take n) (vs.take n)
 | _,_,0,_=>by simp [bW]
 | [],_,_+1,h=>by cases h;exact rfl
 | _::_,_,n+1,⟨v,r,e,h1,h2⟩=>by subst e;exact ⟨v,_,rfl,h1,bW.take n h2⟩
theorem bW.drop:∀{xs:List T} {vs:List V} (n:Nat),bW K H O xs vs->bW K H O (xs.drop n) (vs.drop n)
 | _,_,0,h=>h
 | [],_,_+1,h=>by cases h;exact rfl
 | _::_,_,n+1,⟨v,r,e,h1,h2⟩=>by subst e;exact bW.drop n h2
theorem bW.reverse:∀{xs:List T} {vs:List V},bW K H O xs vs->bW K H O xs.reverse vs.reverse
 | [],_,h=>by cases h;exact rfl
 | _::_,_,⟨v,r,e,h1,h2⟩=>by
  subst e;rw [aX0,aX0];exact (bW.reverse h2).append ⟨v,[],rfl,h1,rfl⟩
theorem Rp.sqT {xs:List T} {v:V} (h:Rp K H O (.tup xs) v):∃a vs,v = .ref a/\tP K H a vs/\bW K H O xs vs:=by
 obtain ⟨a,vs,e,h1,h2⟩:=h;exact ⟨a,vs,e,h1.imp And.right id,h2⟩
theorem Rp.sqL {xs:List T} {v:V} (h:Rp K H O (.lst xs) v):∃a vs,v = .ref a/\kF K H a vs/\bW K H O xs vs:=by
 obtain ⟨a,vs,e,h1,h2⟩:=h;exact ⟨a,vs,e,h1.imp And.right id,h2⟩
end
def Ow (B:bAO->Prop) (S:St) (E:En) (a:bAO):Prop:=B a\/∃(i:Nat) (k:Bool) (xs:List T),E[i]? = some (some (.o k xs))/\S[i]? = some (some (.ref a))
structure RE (K:W.Frag) (B:bAO->Prop) (H:Hp) (S:St) (E:En):Prop where
 len:S.length=E.length
 pure:∀(i:Nat) (t:T),E[i]? = some (some (.p t))->∃v,S[i]? = some (some v)/\Rp K H (Ow B S E) t v
 own:∀(i:Nat) (k:Bool) (xs:List T),E[i]? = some (some (.o k xs))->∃a vs,S[i]? = some (some (.ref a))/\H a=some (.lst vs)/\bW K H (Ow B S E) xs vs/\(k=true↔B a)
 inj:∀(i j:Nat) (k l:Bool) (xs ys:List T) (a:bAO),E[i]? = some (some (.o k xs))->E[j]? = some (some (.o l ys))->S[i]? = some (some (.ref a))->S[j]? = some (some (.ref a))->i=j
 bd:∀a,B a->∃vs,H a=some (.lst vs)
section
variable {K:W.Frag} {B:bAO->Prop} {H H':Hp} {S S':St} {E E':En}
theorem RE.ow (r:RE K B H S E) {a:bAO} (h:Ow B S E a):∃vs,H a=some (.lst vs):=by
 rcases h with h | ⟨i,k,xs,h1,h2⟩
 ·exact r.bd a h
 obtain ⟨a',vs,h3,h4,_⟩:=r.own i k xs h1;rw [h2] at h3;cases h3;exact ⟨vs,h4⟩
theorem RE.nn (r:RE K B H S E) {a:bAO} (h:H a=none):¬Ow B S E a:=λz=>by
 obtain ⟨ws,e⟩:=r.ow z;rw [h] at e;cases e
theorem RE.step (r:RE K B H S E) (k:∀b o,H b=some o->¬Ow B S E b->H' b=some o) (hl:E'.length=E.length)
  (hp:∀(i:Nat) (t:T),E'[i]? = some (some (.p t))->E[i]? = some (some (.p t)))
  (ho:∀(i:Nat) (k:Bool) (xs':List T),E'[i]? = some (some (.o k xs'))->∃xs,E[i]? = some (some (.o k xs))/\∀a,S[i]? = some (some (.ref a))->∃vs,H' a=some (.lst vs)/\bW K H' (Ow B S E) xs' vs) (hb:∀a,B a->∃vs,H' a=some (.lst vs)):RE K B H' S E':=by
 have ow:∀b,Ow B S E' b->Ow B S E b:=λb z=>by
  rcases z with z | ⟨i,k,xs,h1,h2⟩
  ·exact .inl z
  obtain ⟨ys,h3,_⟩:=ho i k xs h1;exact .inr ⟨i,k,ys,h3,h2⟩
 have kp:Kp (Ow B S E) (Ow B S E') H H':=⟨k,λb z=>.inl (ow b z)⟩;refine ⟨by rw [hl];exact r.len,λi t h=>?_,λi k xs h=>?_,λi j k l xs ys a h1 h2 h3 h4=>?_,hb⟩
 ·obtain ⟨v,h1,h2⟩:=r.pure i t (hp i t h);exact ⟨v,h1,h2.step kp⟩
 ·obtain ⟨ys,h1,h2⟩:=ho i k xs h;obtain ⟨a,vs,h3,_,_,h6⟩:=r.own i k ys h1;obtain ⟨ws,h7,h8⟩:=h2 a h3;exact ⟨a,ws,h3,h7,h8.step (Kp.less ow),h6⟩
 ·obtain ⟨_,q1,_⟩:=ho i k xs h1;obtain ⟨_,q2,_⟩:=ho j l ys h2;exact r.inj i j k l _ _ a q1 q2 h3 h4
theorem RE.kept (r:RE K B H S E) (k:∀b o,H b=some o->H' b=some o):RE K B H' S E:=
 r.step (λb o h _=>k b o h) rfl (λ_ _ h=>h) (λi l xs h=>⟨xs,h,λa ha=>by
  obtain ⟨a',vs,h1,h2,h3,_⟩:=r.own i l xs h;rw [ha] at h1;cases h1;exact ⟨vs,k _ _ h2,h3.step ⟨λb o e _=>k b o e,λb z=>.inl z⟩⟩⟩) (λa h=>let ⟨vs,q⟩:=r.bd a h;⟨vs,k _ _ q⟩)
theorem RE.take (r:RE K B H S E) (n:Nat):RE K B H (S.take n) (E.take n):=by
 have gE:∀{i:Nat} {x:Option U},(E.take n)[i]? = some x->E[i]? = some x/\i<n:=λ{i x} h=>by
  by_cases c:i<n
  ·rw [aVV c] at h;exact ⟨h,c⟩
  ·rw [aX7 (by omega)] at h;cases h
 have gS:∀{i:Nat} {x:Option V},i<n->S[i]? = some x->(S.take n)[i]? = some x:=λ{i x} c h=>by rw [aVV c];exact h
 have gS':∀{i:Nat} {x:Option V},(S.take n)[i]? = some x->S[i]? = some x:=λ{i x} h=>by
  by_cases c:i<n
  ·rw [aVV c] at h;exact h
  ·rw [aX7 (by omega)] at h;cases h
 have ow:∀b,Ow B (S.take n) (E.take n) b->Ow B S E b:=λb z=>z.imp id λ⟨i,k,xs,h1,h2⟩=>⟨i,k,xs,(gE h1).1,gS' h2⟩;refine ⟨by rw [aNQ,aNQ,r.len],λi t h=>?_,λi k xs h=>?_,λi j k l xs ys a h1 h2 h3 h4=>?_,r.bd⟩
 ·obtain ⟨v,h1,h2⟩:=r.pure i t (gE h).1;exact ⟨v,gS (gE h).2 h1,h2.step (Kp.less ow)⟩
 ·obtain ⟨a,vs,h1,h2,h3,h4⟩:=r.own i k xs (gE h).1;exact ⟨a,vs,gS (gE h).2 h1,h2,h3.step (Kp.less ow),h4⟩
 ·exact r.inj i j k l xs ys a (gE h1).1 (gE h2).1 (gS' h3) (gS' h4)
end
end L2
namespace L2
open PySem PySem.Spec PyProof.Rows
def RR (K:W.Frag) (B:bAO->Prop) (H:Hp) (S:St) (E:En):R->V->Prop
 | .p t,v=>Rp K H (Ow B S E) t v
 | .s i,v=>S[i]? = some (some v)
def RRs (K:W.Frag) (B:bAO->Prop) (H:Hp) (S:St) (E:En):List R->List V->Prop
 | [],vs=>vs=[]
 | r::rs,vs=>∃v ws,vs=v::ws/\RR K B H S E r v/\RRs K B H S E rs ws
structure Gr (B:bAO->Prop) (H:Hp) (S:St) (E:En) (H':Hp) (S':St) (E':En):Prop where
 kp:Kp (Ow B S E) (Ow B S' E') H H'
 pre:∃τ,S'=S++τ
theorem Gr.refl {B:bAO->Prop} {H:Hp} {S:St} {E:En}:Gr B H S E H S E:=⟨Kp.refl _ _,[],by simp⟩
theorem Gr.trans {B:bAO->Prop} {H H1 H2:Hp} {S S1 S2:St} {E E1 E2:En} (a:Gr B H S E H1 S1 E1) (b:Gr B H1 S1 E1 H2 S2 E2):Gr B H S E H2 S2 E2:=by
 obtain ⟨t,e⟩:=a.pre;obtain ⟨u,f⟩:=b.pre;exact ⟨a.kp.trans b.kp,t++u,by rw [f,e,aEE]⟩
theorem dM {S S':St} (h:∃τ,S'=S++τ) {i:Nat} {x:Option V} (e:S[i]? = some x):S'[i]? = some x:=by
 obtain ⟨t,rfl⟩:=h;rw [aE9 (aA8.mp e).1];exact e
section
variable {K:W.Frag} {B:bAO->Prop} {H H':Hp} {S S':St} {E E':En} {σ:St}
theorem RR.step (g:Gr B H S E H' S' E') {r:R} {v:V} (h:RR K B H S E r v):RR K B H' S' E' r v:=by
 cases r with
 | p t=>exact Rp.step g.kp h
 | s i=>exact dM g.pre h
theorem RRs.step (g:Gr B H S E H' S' E'):∀{rs:List R} {vs:List V},RRs K B H S E rs vs->RRs K B H' S' E' rs vs
 | [],_,h=>h
 | _::_,_,⟨v,ws,e,h1,h2⟩=>⟨v,ws,e,h1.step g,RRs.step g h2⟩
def Lk (K:W.Frag) (B:bAO->Prop) (H:Hp) (S:St) (E:En) (Q':R->En->Prop) (Q:VK):Prop:=∀r E' v H' S',Q' r E'->Gr B H S E H' S' E'->RE K B H' S' E'->RR K B H' S' E' r v->Q v H'
def LkA (K:W.Frag) (n:Nat) (B:bAO->Prop) (H:Hp) (S:St) (E:En) (Q':List R->En->Prop) (Q:List V->Hp->Prop):Prop:=∀rs E' vs H' S',Q' rs E'->Gr B H S E H' S' E'->RE K B H' S' E'->RRs K B H' S' E' rs vs->vs.length=n->Q vs H'
theorem Lk.step {Q':R->En->Prop} {Q:VK} (l:Lk K B H S E Q' Q) (g:Gr B H S E H' S' E'):Lk K B H' S' E' Q' Q:=λr E2 v H2 S2 q g2=>l r E2 v H2 S2 q (g.trans g2)
end
abbrev FE:=En->(R->En->Prop)->Prop
abbrev FA:=En->(List R->En->Prop)->Prop
abbrev FB:=En->(Bool->En->Prop)->Prop
def aL (K:W.Frag) (F:FE):TE:=λσ H Q=>∃B S E Q',(∃τ,S=σ++τ)/\RE K B H S E/\F E Q'/\Lk K B H S E Q' Q
def cQ (K:W.Frag) (n:Nat) (F:FA):TA:=λσ H Q=>∃B S E Q',(∃τ,S=σ++τ)/\RE K B H S E/\F E Q'/\LkA K n B H S E Q' Q
def d9 (K:W.Frag) (F:FB):TT:=λσ H Q=>∃B S E Q',(∃τ,S=σ++τ)/\RE K B H S E/\F E Q'/\∀b E' H' S',Q' b E'->Gr B H S E H' S' E'->RE K B H' S' E'->Q b H'
section
variable {X:Cx} {e:Expr} {es:List Expr}
theorem QE.le {t t':TE} (h:QE X e t) (m:∀σ H Q,σ.length=X.N.length->t' σ H Q->t σ H Q):QE X e t':=⟨λpins s σ H Q I z=>h.h pins s σ H Q I (m σ H Q I.len z)⟩
theorem QA.le {t t':TA} (h:QA X es t) (m:∀σ H Q,t' σ H Q->t σ H Q):QA X es t':=⟨λpos pins s σ H Q I z=>h.h pos pins s σ H Q I (m σ H Q z)⟩
theorem QT.le {t t':TT} (h:QT X e t) (m:∀σ H Q,t' σ H Q->t σ H Q):QT X e t':=⟨λpins s σ H Q I z=>h.h pins s σ H Q I (m σ H Q z)⟩
theorem QW.le {t t':TT} (h:QW X e t) (m:∀σ H Q,t' σ H Q->t σ H Q):QW X e t':=⟨λwh pins s σ H Q I z=>h.h wh pins s σ H Q I (m σ H Q z)⟩
end
def vl (E:En):R->Option T
 | .p t=>some t
 | .s i=>match E[i]? with
  | some (some (.o _ xs))=>some (.lst xs)
  | some (some (.p t))=>some t
  | _=>none
def Rt (K:W.Frag) (H:Hp) (O:bAO->Prop):T->V->Prop
 | .tup xs,v=>∃a vs,v = .ref a/\tP K H a vs/\bW K H O xs vs
 | .lst xs,v=>∃a vs,v = .ref a/\kF K H a vs/\bW K H O xs vs
 | t,v=>Rp K H O t v
theorem Rp.rt {K:W.Frag} {H:Hp} {O:bAO->Prop} {t:T} {v:V} (h:Rp K H O t v):Rt K H O t v:=by
 cases t with
 | tup xs=>exact h.sqT
 | lst xs=>exact h.sqL
 | non=>exact h
 | bl _=>exact h
 | int _=>exact h
 | str _=>exact h
section
variable {K:W.Frag} {B:bAO->Prop} {H H':Hp} {S S':St} {E E':En} {σ:St}
theorem RE.vl (re:RE K B H S E) {r:R} {v:V} {t:T} (h:RR K B H S E r v) (e:vl E r=some t):Rt K H (Ow B S E) t v:=by
 cases r with
 | p u=>cases e;exact Rp.rt h
 | s i=>
  cases q:E[i]? with
  | none=>simp only [L2.vl,q] at e;cases e
  | some u=>
   cases u with
   | none=>simp only [L2.vl,q] at e;cases e
   | some u=>
    cases u with
    | p u=>
     simp only [L2.vl,q] at e;cases e;obtain ⟨w,h1,h2⟩:=re.pure i _ q;have h':S[i]? = some (some v):=h;rw [h'] at h1;cases h1;exact h2.rt
    | o k xs=>
     simp only [L2.vl,q] at e;cases e;obtain ⟨a,vs,h1,h2,h3,_⟩:=re.own i k xs q;have h':S[i]? = some (some v):=h;rw [h'] at h1;cases h1;exact ⟨a,vs,rfl,kF.of h2,h3⟩
theorem RE.int (re:RE K B H S E) {r:R} {v:V} {i:Int} (h:RR K B H S E r v) (e:L2.vl E r=some (.int i)):v = .int i:=re.vl h e
theorem RE.bl (re:RE K B H S E) {r:R} {v:V} {b:Bool} (h:RR K B H S E r v) (e:L2.vl E r=some (.bl b)):v = .bl b:=re.vl h e
theorem RE.tup (re:RE K B H S E) {p:bAO} {ts:List T} {vs:List V} (hp:H p=none) (h:bW K H (Ow B S E) ts vs) :
  Gr B H S E (upd H p (.tup vs)) S E/\RE K B (upd H p (.tup vs)) S E/\Rp K (upd H p (.tup vs)) (Ow B S E) (.tup ts) (.ref p):=by
 have k:Kp (Ow B S E) (Ow B S E) H (upd H p (.tup vs)):=Kp.upd hp;exact ⟨⟨k,[],by simp⟩,re.kept λb o e=>by rw [aS (aQ e hp)];exact e,p,vs,rfl,.inl ⟨re.nn hp,.inl bY⟩,h.step k⟩
theorem zP {α:Type} {xs:List α} {x:α} {i:Nat} {y:α} (h:(xs++[x])[i]? = some y):(i<xs.length/\xs[i]? = some y)\/(i=xs.length/\y=x):=by
 rcases aVS i xs.length with c | c
 ·rw [aE9 c] at h;exact .inl ⟨c,h⟩
 ·rw [aUO c] at h;have:i-xs.length=0:=by
   rcases aXT (i-xs.length) with z | z
   ·exact z
   ·rw [aZD (by simp;omega)] at h;cases h
  rw [this] at h;simp at h;exact .inr ⟨by omega,h.symm⟩
theorem fX {α:Type} {xs:List α} {x:α}:(xs++[x])[xs.length]? = some x:=by simp
theorem RE.lst (re:RE K B H S E) {p:bAO} {ts:List T} {vs:List V} (hp:H p=none) (h:bW K H (Ow B S E) ts vs) :
  Gr B H S E (upd H p (.lst vs)) (S++[some (.ref p)]) (E++[some (.o false ts)])/\RE K B (upd H p (.lst vs)) (S++[some (.ref p)]) (E++[some (.o false ts)]):=by
 have gE:∀{i:Nat} {u:U},(E++[some (.o false ts)])[i]? = some (some u)->(E[i]? = some (some u)/\i<E.length)\/(i=E.length/\u = .o false ts):=λ{i u} h=>by
  rcases zP h with ⟨c,h⟩ | ⟨c,h⟩
  ·exact .inl ⟨h,c⟩
  ·exact .inr ⟨c,Option.some.inj h⟩
 have gS:∀{i:Nat} {x:Option V},S[i]? = some x->(S++[some (.ref p)])[i]? = some x:=λ{i x} h=>dM ⟨_,rfl⟩ h;have gS':∀{i:Nat} {x:Option V},i<E.length->(S++[some (.ref p)])[i]? = some x->S[i]? = some x:=λ{i x} c h=>by
  rw [aE9 (by rw [re.len];exact c)] at h;exact h
 have lS:(S++[some (.ref p)])[E.length]? = some (some (.ref p)):=by rw [<-re.len];simp
 have ow:∀b,Ow B (S++[some (.ref p)]) (E++[some (.o false ts)]) b->Ow B S E b\/H b=none:=λb z=>by
  rcases z with z | ⟨i,k,xs,h1,h2⟩
  ·exact .inl (.inl z)
  rcases gE h1 with ⟨h1,c⟩ | ⟨c,h1⟩
  ·exact .inl (.inr ⟨i,k,xs,h1,gS' c h2⟩)
  ·subst c;rw [lS] at h2;cases h2;exact .inr hp
 have k:Kp (Ow B S E) (Ow B (S++[some (.ref p)]) (E++[some (.o false ts)])) H (upd H p (.lst vs)):=⟨λb o e _=>by rw [aS (aQ e hp)];exact e,ow⟩;refine ⟨⟨k,_,rfl⟩,⟨by simp [re.len],λi t h=>?_,λi l xs h=>?_,λi j l m xs ys a h1 h2 h3 h4=>?_,λa h=>?_⟩⟩
 ·rcases gE h with ⟨h,c⟩ | ⟨c,h⟩
  ·obtain ⟨v,h1,h2⟩:=re.pure i t h;exact ⟨v,gS h1,h2.step k⟩
  ·cases h
 ·rcases gE h with ⟨h,c⟩ | ⟨c,h⟩
  ·obtain ⟨a,ws,h1,h2,h3,h4⟩:=re.own i l xs h;exact ⟨a,ws,gS h1,by rw [aS (aQ h2 hp)];exact h2,h3.step k,h4⟩
  ·cases h;subst c;refine ⟨p,vs,lS,bY,?_,⟨λz=>absurd z (by decide),λz=>absurd (.inl z) (re.nn hp)⟩⟩;exact bW.step k (by assumption)
 ·rcases gE h1 with ⟨h1,c1⟩ | ⟨c1,h1⟩
  ·rcases gE h2 with ⟨h2,c2⟩ | ⟨c2,h2⟩
   ·exact re.inj i j l m xs ys a h1 h2 (gS' c1 h3) (gS' c2 h4)
   ·subst c2;rw [lS] at h4;cases h4;exact absurd (.inr ⟨i,l,xs,h1,gS' c1 h3⟩) (re.nn hp)
  ·rcases gE h2 with ⟨h2,c2⟩ | ⟨c2,h2⟩
   ·subst c1;rw [lS] at h3;cases h3;exact absurd (.inr ⟨j,m,ys,h2,gS' c2 h4⟩) (re.nn hp)
   ·rw [c1,c2]
 ·obtain ⟨us,q⟩:=re.bd a h;exact ⟨us,by rw [aS (aQ q hp)];exact q⟩
end
section
variable {X:Cx} {K:W.Frag} {pos:Pos} {a b c e:Expr} {es rest:List Expr} {Fa Fb Fc:FE} {Fr:FA} {Fp Fq:FB}
def kX (i:Nat):FE:=λE Q=>match E[i]? with
 | some (some (.p t))=>Q (.p t) E
 | some (some (.o _ _))=>Q (.s i) E
 | _=>False
def fC (t:T):FE:=λE Q=>Q (.p t) E
theorem fv (i:Nat) {x:Str} (hN:X.N[i]? = some x:=by rfl) (hv:Vis X.env.scope x:=by first | exact aIW rfl | exact aX8 (aIW rfl) | exact aX8 (aX8 rfl)) (hd:(x==("__debug__":Str))=false:=by decide)
  (hcd:(x==("__classdict__":Str))=false:=by decide):QE X (.Name x pos) (aL K (kX i)):=by
 refine (qv i hN hv hd hcd).le λσ H Q hl ⟨B,S,E,Q',hS,re,hF,lk⟩=>?_;have hi:i<σ.length:=by rw [hl];exact (aA8.mp hN).1
 obtain ⟨τ,rfl⟩:=hS;have back:∀{v},(σ++τ)[i]? = some (some v)->σ[i]? = some (some v):=λh=>by rw [aE9 hi] at h;exact h
 unfold kX at hF;split at hF
 ·rename_i t q;obtain ⟨v,h1,h2⟩:=re.pure i t q;exact ⟨v,back h1,lk _ _ _ _ _ hF .refl re h2⟩
 ·rename_i k xs q;obtain ⟨p,vs,h1,_⟩:=re.own i k xs q;exact ⟨_,back h1,lk _ _ _ _ _ hF .refl re h1⟩
 ·exact hF.elim
theorem aIU {v:V} {t:T} (h:QE X e (tC v)) (hv:∀K H O,Rp K H O t v):QE X e (aL K (fC t)):=h.le λσ H Q hl ⟨B,S,E,Q',hS,re,hF,lk⟩=>lk _ _ _ _ _ hF .refl re (hv _ _ _)
theorem aB {i j pos}:QE X (.Constant (.int i) j pos) (aL K (fC (.int i))):=aIU aR3 λ_ _ _=>rfl
theorem gU {b j pos}:QE X (.Constant (.bool b) j pos) (aL K (fC (.bl b))):=aIU aO8 λ_ _ _=>rfl
theorem h9 {j pos}:QE X (.Constant .none j pos) (aL K (fC .non)):=aIU sR λ_ _ _=>rfl
theorem aJ {x j pos}:QE X (.Constant (.str x) j pos) (aL K (fC (.str x))):=aIU aQ8 λ_ _ _=>rfl
theorem two {G:R->R->En->(R->En->Prop)->Prop} {σ:St} {H:Hp} {Q:VK} (h:aL K (λE Q=>Fa E λx E1=>Fb E1 λy E2=>G x y E2 Q) σ H Q) {P:V->V->Hp->Prop}
  (k:∀B S E x y v w H2 Q',(∃τ,S=σ++τ)->RE K B H2 S E->RR K B H2 S E x v->RR K B H2 S E y w->G x y E Q'->Lk K B H2 S E Q' Q->P v w H2):aL K Fa σ H λv H1=>aL K Fb σ H1 λw H2=>P v w H2:=by
 obtain ⟨B,S,E,Q',⟨τ,hS⟩,re,hF,lk⟩:=h;refine ⟨B,S,E,_,⟨τ,hS⟩,re,hF,λr E1 v H1 S1 q g re1 rr=>?_⟩;obtain ⟨τ1,hS1⟩:=g.pre;refine ⟨B,S1,E1,_,⟨τ++τ1,by rw [hS1,hS,aEE]⟩,re1,q,λr2 E2 w H2 S2 q2 g2 re2 rr2=>?_⟩;obtain ⟨τ2,hS2⟩:=g2.pre;exact k B S2 E2 r r2 v w H2 Q' ⟨τ++τ1++τ2,by rw [hS2,hS1,hS,aEE,aEE,aEE]⟩ re2 (rr.step g2) rr2 q2 (lk.step (g.trans g2))
theorem one {G:R->En->(R->En->Prop)->Prop} {σ:St} {H:Hp} {Q:VK} (h:aL K (λE Q=>Fa E λx E1=>G x E1 Q) σ H Q) {P:V->Hp->Prop}
  (k:∀B S E x v H2 Q',(∃τ,S=σ++τ)->RE K B H2 S E->RR K B H2 S E x v->G x E Q'->Lk K B H2 S E Q' Q->P v H2):aL K Fa σ H λv H1=>P v H1:=by
 obtain ⟨B,S,E,Q',⟨τ,hS⟩,re,hF,lk⟩:=h;refine ⟨B,S,E,_,⟨τ,hS⟩,re,hF,λr E1 v H1 S1 q g re1 rr=>?_⟩;obtain ⟨τ1,hS1⟩:=g.pre;exact k B S1 E1 r v H1 Q' ⟨τ++τ1,by rw [hS1,hS,aEE]⟩ re1 rr q (lk.step g)
def i2 (x y:Option T) (k:Int->Int->Prop):Prop:=match x,y with
 | some (.int i),some (.int j)=>k i j
 | _,_=>False
theorem i2.ex {x y:Option T} {k:Int->Int->Prop} (h:i2 x y k):∃i j,x=some (.int i)/\y=some (.int j)/\k i j:=by
 unfold i2 at h;split at h
 ·exact ⟨_,_,rfl,rfl,h⟩
 ·exact h.elim
def fI (C:Int->Int->Prop) (g:Int->Int->Int) (Fa Fb:FE):FE:=λE Q=>Fa E λx E1=>Fb E1 λy E2=>i2 (vl E2 x) (vl E2 y) λi j=>C i j/\Q (.p (.int (g i j))) E2
def fI0 (g:Int->Int->Int) (Fa Fb:FE):FE:=λE Q=>Fa E λx E1=>Fb E1 λy E2=>i2 (vl E2 x) (vl E2 y) λi j=>Q (.p (.int (g i j))) E2
def fCp (g:Int->Int->Bool) (Fa Fb:FE):FE:=λE Q=>Fa E λx E1=>Fb E1 λy E2=>i2 (vl E2 x) (vl E2 y) λi j=>Q (.p (.bl (g i j))) E2
theorem aW {op:bCJ} {C:Int->Int->Prop} {g:Int->Int->Int} (ho:jP X (bBG op) (rI C λi j=>.int (g i j))) (ha:QE X a (aL K Fa)) (hb:QE X b (aL K Fb)):QE X (.BinOp a op b pos) (aL K (fI C g Fa Fb)):=by
 refine (uZ ho ha hb).le λσ H Q hl h=>two h λB S E x y v w H2 Q' hS re rx ry q lk=>?_;obtain ⟨i,j,e1,e2,c,q⟩:=q.ex;exact ⟨i,j,re.int rx e1,re.int ry e2,c,lk _ _ _ _ _ q .refl re rfl⟩
theorem aY {op:bCJ} {g:Int->Int->Int} (ho:jP X (bBG op) (rI0 λi j=>.int (g i j))) (ha:QE X a (aL K Fa)) (hb:QE X b (aL K Fb)):QE X (.BinOp a op b pos) (aL K (fI0 g Fa Fb)):=by
 refine (uZ ho ha hb).le λσ H Q hl h=>two h λB S E x y v w H2 Q' hS re rx ry q lk=>?_;obtain ⟨i,j,e1,e2,q⟩:=q.ex;exact ⟨i,j,re.int rx e1,re.int ry e2,lk _ _ _ _ _ q .refl re rfl⟩
theorem aOP {op:CmpOp} {g:Int->Int->Bool} (ho:jP X (bA7 op) (rI0 λi j=>.bl (g i j))) (ha:QE X a (aL K Fa)) (hb:QE X b (aL K Fb)) (hm:bA5 op b=false):QE X (.Compare a [op] [b] pos) (aL K (fCp g Fa Fb)):=by
 refine (nH ho ha hb hm).le λσ H Q hl h=>two h λB S E x y v w H2 Q' hS re rx ry q lk=>?_;obtain ⟨i,j,e1,e2,q⟩:=q.ex;exact ⟨i,j,re.int rx e1,re.int ry e2,lk _ _ _ _ _ q .refl re rfl⟩
def i1 (x:Option T) (k:Int->Prop):Prop:=match x with
 | some (.int i)=>k i
 | _=>False
theorem i1.ex {x:Option T} {k:Int->Prop} (h:i1 x k):∃i,x=some (.int i)/\k i:=by
 unfold i1 at h;split at h
 ·exact ⟨_,rfl,h⟩
 ·exact h.elim
def b1 (x:Option T) (k:Bool->Prop):Prop:=match x with
 | some (.bl i)=>k i
 | _=>False
theorem b1.ex {x:Option T} {k:Bool->Prop} (h:b1 x k):∃i,x=some (.bl i)/\k i:=by
 unfold b1 at h;split at h
 ·exact ⟨_,rfl,h⟩
 ·exact h.elim
def aS3 (Fa:FE):FE:=λE Q=>Fa E λx E1=>i1 (vl E1 x) λi=>Q (.p (.int (-i))) E1
theorem gF (ha:QE X a (aL K Fa)):QE X (.UnaryOp .USub a pos) (aL K (aS3 Fa)):=by
 refine (aU3 aQN ha).le λσ H Q hl h=>one (Fa:=Fa) h λB S E x v H2 Q' hS re rx q lk=>?_;obtain ⟨i,e1,q⟩:=q.ex;exact ⟨i,re.int rx e1,lk _ _ _ _ _ q .refl re rfl⟩
def aWD (Fa:FE):FE:=λE Q=>Fa E λx E1=>b1 (vl E1 x) λi=>Q (.p (.bl (!i))) E1
theorem aBW (ha:QE X a (aL K Fa)):QE X (.UnaryOp .Not a pos) (aL K (aWD Fa)):=by
 refine (aHZ ha).le λσ H Q hl h=>one (Fa:=Fa) h λB S E x v H2 Q' hS re rx q lk=>?_;obtain ⟨i,e1,q⟩:=q.ex;exact ⟨i,re.bl rx e1,lk _ _ _ _ _ q .refl re rfl⟩
theorem aHQ {G:Bool->En->(Bool->En->Prop)->Prop} {σ:St} {H:Hp} {Q:Bool->Hp->Prop} (h:d9 K (λE Q=>Fp E λx E1=>G x E1 Q) σ H Q) {P:Bool->Hp->Prop}
  (k:∀B S E x H2 Q',(∃τ,S=σ++τ)->RE K B H2 S E->G x E Q'->(∀b E' H' S',Q' b E'->Gr B H2 S E H' S' E'->RE K B H' S' E'->Q b H')->P x H2):d9 K Fp σ H P:=by
 obtain ⟨B,S,E,Q',⟨τ,hS⟩,re,hF,lk⟩:=h;refine ⟨B,S,E,_,⟨τ,hS⟩,re,hF,λr E1 H1 S1 q g re1=>?_⟩;obtain ⟨τ1,hS1⟩:=g.pre;exact k B S1 E1 r H1 Q' ⟨τ++τ1,by rw [hS1,hS,aEE]⟩ re1 q λb E2 H2 S2 q2 g2 re2=>lk b E2 H2 S2 q2 (g.trans g2) re2
def wR (Fa:FE):FB:=λE Q=>Fa E λx E1=>b1 (vl E1 x) λi=>Q i E1
def aV8 (Fp:FB):FB:=λE Q=>Fp E λx E1=>Q (!x) E1
def aWU (Fp Fq:FB):FB:=λE Q=>Fp E λx E1=>if x=true then Fq E1 Q else Q false E1
def bOr (Fp Fq:FB):FB:=λE Q=>Fp E λx E1=>if x=true then Q true E1 else Fq E1 Q
theorem aMV {σ:St} {H:Hp} {Q:Bool->Hp->Prop} (h:d9 K (wR Fa) σ H Q):aL K Fa σ H λv H1=>∃c,v = .bl c/\Q c H1:=by
 obtain ⟨B,S,E,Q',⟨τ,hS⟩,re,hF,lk⟩:=h;refine ⟨B,S,E,_,⟨τ,hS⟩,re,hF,λr E1 v H1 S1 q g re1 rr=>?_⟩;obtain ⟨i,e1,q⟩:=q.ex;exact ⟨i,re1.bl rr e1,lk _ _ _ _ q g re1⟩
theorem bQ (h:QE X e (aL K Fa)) (he:∀whole,isTrue e X.env whole=(do let v <-whole;standAt e.pos;bBU [v] (truthy v)):=by intro _;rfl):QT X e (d9 K (wR Fa)):=(aBX h he).le λσ H Q z=>aMV z
theorem cD (ha:QT X a (d9 K Fp)):QT X (.UnaryOp .Not a pos) (d9 K (aV8 Fp)):=(aJH ha).le λσ H Q h=>aHQ (Fp:=Fp) h λB S E x H2 Q' hS re q lk=>lk _ _ _ _ q .refl re
theorem yJ (ha:QT X a (d9 K Fp)):QW X (.BoolOp .And [a] pos) (d9 K Fp):=aDC ha
theorem cG (ha:QT X a (d9 K Fp)):QW X (.BoolOp .Or [a] pos) (d9 K Fp):=aSG ha
theorem aCB (ha:QT X a (d9 K Fp)) (hb:QW X (.BoolOp .And (b::rest) pos) (d9 K Fq)):QW X (.BoolOp .And (a::b::rest) pos) (d9 K (aWU Fp Fq)):=by
 refine (aJ3 ha hb).le λσ H Q h=>aHQ (Fp:=Fp) h λB S E x H2 Q' hS re q lk=>?_;cases x
 ·exact lk _ _ _ _ q .refl re
 ·exact ⟨B,S,E,Q',hS,re,q,lk⟩
theorem cF (ha:QT X a (d9 K Fp)) (hb:QW X (.BoolOp .Or (b::rest) pos) (d9 K Fq)):QW X (.BoolOp .Or (a::b::rest) pos) (d9 K (bOr Fp Fq)):=by
 refine (aS1 ha hb).le λσ H Q h=>aHQ (Fp:=Fp) h λB S E x H2 Q' hS re q lk=>?_;cases x
 ·exact ⟨B,S,E,Q',hS,re,q,lk⟩
 ·exact lk _ _ _ _ q .refl re
theorem gH (h:QW X e (d9 K Fp)):QT X e (d9 K Fp):=aTG h
def aV4 (Fa Fb:FE):FE:=λE Q=>Fa E λx E1=>b1 (vl E1 x) λi=>if i=true then Fb E1 Q else Q (.p (.bl false)) E1
def fOr (Fa Fb:FE):FE:=λE Q=>Fa E λx E1=>b1 (vl E1 x) λi=>if i=true then Q (.p (.bl true)) E1 else Fb E1 Q
theorem fQ (ha:QE X a (aL K Fa)) (hb:QE X (.BoolOp .And (b::rest) pos) (aL K Fb)):QE X (.BoolOp .And (a::b::rest) pos) (aL K (aV4 Fa Fb)):=by
 refine (aPX ha hb).le λσ H Q hl h=>one (Fa:=Fa) h λB S E x v H2 Q' hS re rx q lk=>?_;obtain ⟨i,e1,q⟩:=q.ex;refine ⟨i,re.bl rx e1,?_⟩;cases i
 ·exact lk _ _ _ _ _ q .refl re rfl
 ·exact ⟨B,S,E,Q',hS,re,q,lk⟩
theorem aI8 (ha:QE X a (aL K Fa)) (hb:QE X (.BoolOp .Or (b::rest) pos) (aL K Fb)):QE X (.BoolOp .Or (a::b::rest) pos) (aL K (fOr Fa Fb)):=by
 refine (aO0 ha hb).le λσ H Q hl h=>one (Fa:=Fa) h λB S E x v H2 Q' hS re rx q lk=>?_;obtain ⟨i,e1,q⟩:=q.ex;refine ⟨i,re.bl rx e1,?_⟩;cases i
 ·exact ⟨B,S,E,Q',hS,re,q,lk⟩
 ·exact lk _ _ _ _ _ q .refl re rfl
theorem fO {op} (h:QE X a (aL K Fa)):QE X (.BoolOp op [a] pos) (aL K Fa):=aH8 h
def fIf (Fp:FB) (Fa Fb:FE):FE:=λE Q=>Fp E λx E1=>if x=true then Fa E1 Q else Fb E1 Q
theorem kE (hc:QT X c (d9 K Fp)) (ha:QE X a (aL K Fa)) (hb:QE X b (aL K Fb)):QE X (.IfExp c a b pos) (aL K (fIf Fp Fa Fb)):=by
 refine (aAB hc ha hb).le λσ H Q hl ⟨B,S,E,Q',⟨τ,hS⟩,re,hF,lk⟩=>?_;refine ⟨B,S,E,_,⟨τ,hS⟩,re,hF,λr E1 H1 S1 q g re1=>?_⟩;obtain ⟨τ1,hS1⟩:=g.pre;have hp:∃t,S1=σ++t:=⟨τ++τ1,by rw [hS1,hS,aEE]⟩;cases r
 ·exact ⟨B,S1,E1,Q',hp,re1,q,lk.step g⟩
 ·exact ⟨B,S1,E1,Q',hp,re1,q,lk.step g⟩
def yY:FA:=λE Q=>Q [] E
def kM (Fa:FE) (Fr:FA):FA:=λE Q=>Fa E λr E1=>Fr E1 λrs E2=>Q (r::rs) E2
theorem aA:QA X [] (cQ K 0 yY):=oI.le λσ H Q ⟨B,S,E,Q',hS,re,hF,lk⟩=>lk _ _ _ _ _ hF .refl re rfl rfl
theorem fc {n:Nat} (ha:QE X e (aL K Fa)) (hr:QA X es (cQ K n Fr)) (hs:bR e=false:=by rfl):QA X (e::es) (cQ K (n+1) (kM Fa Fr)):=by
 refine (qc ha hr hs).le λσ H Q ⟨B,S,E,Q',⟨τ,hS⟩,re,hF,lk⟩=>?_;refine ⟨B,S,E,_,⟨τ,hS⟩,re,hF,λr E1 v H1 S1 q g re1 rr=>?_⟩;obtain ⟨τ1,hS1⟩:=g.pre;exact ⟨B,S1,E1,_,⟨τ++τ1,by rw [hS1,hS,aEE]⟩,re1,q,λrs E2 vs H2 S2 q2 g2 re2 rr2 hn=>lk _ _ _ _ _ q2 (g.trans g2) re2 ⟨v,vs,rfl,rr.step g2,rr2⟩ (by rw [aOW,hn])⟩
theorem args {n:Nat} {G:List R->En->(R->En->Prop)->Prop} {σ:St} {H:Hp} {Q:VK} (h:aL K (λE Q=>Fr E λrs E1=>G rs E1 Q) σ H Q) {P:List V->Hp->Prop}
  (k:∀B S E rs vs H2 Q',(∃τ,S=σ++τ)->RE K B H2 S E->RRs K B H2 S E rs vs->vs.length=n->G rs E Q'->Lk K B H2 S E Q' Q->P vs H2):cQ K n Fr σ H P:=by
 obtain ⟨B,S,E,Q',⟨τ,hS⟩,re,hF,lk⟩:=h;refine ⟨B,S,E,_,⟨τ,hS⟩,re,hF,λr E1 v H1 S1 q g re1 rr hn=>?_⟩;obtain ⟨τ1,hS1⟩:=g.pre;exact k B S1 E1 r v H1 Q' ⟨τ++τ1,by rw [hS1,hS,aEE]⟩ re1 rr hn q (lk.step g)
def pU:List R->Option (List T)
 | []=>some []
 | .p t::rs=>(pU rs).map (t::·)
 | _=>none
theorem rM {B:bAO->Prop} {H:Hp} {S:St} {E:En}:∀{rs:List R} {vs:List V} {ts:List T},RRs K B H S E rs vs->pU rs=some ts->bW K H (Ow B S E) ts vs
 | [],_,_,h,e=>by cases e;exact h
 | .p t::rs,_,ts,⟨v,ws,e1,h1,h2⟩,e=>by
  cases q:pU rs with
  | none=>rw [pU,q] at e;cases e
  | some us=>
   rw [pU,q] at e;cases e;exact ⟨v,ws,e1,h1,rM h2 q⟩
 | .s _::_,_,_,_,e=>by cases e
def o1 {α:Type} (x:Option α) (k:α->Prop):Prop:=match x with
 | some y=>k y
 | none=>False
theorem o1.ex {α:Type} {x:Option α} {k:α->Prop} (h:o1 x k):∃y,x=some y/\k y:=by
 cases x with
 | none=>exact h.elim
 | some y=>exact ⟨y,rfl,h⟩
def aW9 (Fr:FA):FE:=λE Q=>Fr E λrs E1=>o1 (pU rs) λts=>Q (.p (.tup ts)) E1
def aS7 (Fr:FA):FE:=λE Q=>Fr E λrs E1=>o1 (pU rs) λts=>Q (.s E1.length) (E1++[some (.o false ts)])
theorem aT {x1} {n:Nat} (h:QA X es (cQ K n Fr)) (hz:n<=1000:=by decide):QE X (.Tuple es x1 pos) (aL K (aW9 Fr)):=by
 refine (aK6 h).le λσ H Q hl h=>args (Fr:=Fr) h λB S E rs vs H2 Q' hS re rr hn q lk=>⟨by rw [hn];exact aVY (b8 hz),λp hp=>?_⟩;obtain ⟨ts,e,q⟩:=q.ex;obtain ⟨g,re',rp⟩:=re.tup hp (rM rr e);exact lk _ _ _ _ _ q g re' rp
theorem eU {n:Nat} (h:QA X es (cQ K n Fr)) (hz:n<=1000:=by decide):QE X (.List es pos) (aL K (aS7 Fr)):=by
 refine (aJY h).le λσ H Q hl h=>args (Fr:=Fr) h λB S E rs vs H2 Q' hS re rr hn q lk=>⟨by rw [hn];exact aVY (b8 hz),λp hp=>?_⟩;obtain ⟨ts,e,q⟩:=q.ex;obtain ⟨g,re'⟩:=re.lst hp (rM rr e);exact lk _ _ _ _ _ q g re' (by rw [<-re.len];exact fX)
def aTE:T->Option (List T)
 | .tup xs=>some xs
 | .lst xs=>some xs
 | _=>none
def ix2 (x y:Option T) (k:T->Prop):Prop:=match x,y with
 | some (.tup xs),some (.int i)=>o1 (c8 xs i) k
 | some (.lst xs),some (.int i)=>o1 (c8 xs i) k
 | _,_=>False
theorem aK5 {H:Hp} {O:bAO->Prop} {xs:List T} {vs:List V} {i:Int} {t:T} (h:bW K H O xs vs) (e:c8 xs i=some t):∃v,c8 vs i=some v/\Rp K H O t v:=by
 unfold c8 at e ⊢;rw [h.length];cases q:ixN xs.length i with
 | none=>rw [q] at e;cases e
 | some j=>rw [q] at e;exact h.get e
def fIx (Fa Fb:FE):FE:=λE Q=>Fa E λx E1=>Fb E1 λy E2=>ix2 (vl E2 x) (vl E2 y) λt=>Q (.p t) E2
theorem aI (eK:X.K=K) (ha:QE X a (aL K Fa)) (hb:QE X b (aL K Fb)) (hs:qV b):QE X (.Subscript a b pos) (aL K (fIx Fa Fb)):=by
 subst eK;refine (aOI aJP ha hb hs).le λσ H Q hl h=>two (Fa:=Fa) (Fb:=Fb) h λB S E x y v w H2 Q' hS re rx ry q lk=>?_;unfold ix2 at q;split at q
 ·rename_i xs i e1 e2;obtain ⟨t,e3,q⟩:=q.ex;obtain ⟨p,vs,rfl,sq,rs⟩:=re.vl rx e1;obtain ⟨u,h1,h2⟩:=aK5 rs e3;exact .inr (.inl ⟨p,vs,i,u,rfl,re.int ry e2,sq,h1,lk _ _ _ _ _ q .refl re h2⟩)
 ·rename_i xs i e1 e2;obtain ⟨t,e3,q⟩:=q.ex;obtain ⟨p,vs,rfl,sq,rs⟩:=re.vl rx e1;obtain ⟨u,h1,h2⟩:=aK5 rs e3;exact .inl ⟨p,vs,i,u,rfl,re.int ry e2,sq,h1,lk _ _ _ _ _ q .refl re h2⟩
 ·exact q.elim
def aWG (Fr:FA):FE:=λE Q=>Fr E λrs E1=>match rs with
 | [x]=>o1 ((vl E1 x).bind aTE) λxs=>Q (.p (.int xs.length)) E1
 | _=>False
theorem cL {n:Nat} {p:Pos} (eK:X.K=K) (hg:Gl X "len") (hm:X.mg "len" = none) (ha:QA X (e::es) (cQ K n Fr)) (hs:bB (e::es)=true:=by rfl):QE X (.Call (.Name "len" p) (e::es) [] pos) (aL K (aWG Fr)):=by
 subst eK;refine (dI vW hg hm PySem.boot_len ha (by decide) (by decide) hs).le λσ H Q hl h=>args (Fr:=Fr) h λB S E rs vs H2 Q' hS re rr hn q lk=>?_
 match rs,rr,q with
 | [x],⟨v,ws,e1,h1,h2⟩,q=>
  cases h2;subst e1;obtain ⟨xs,e2,q⟩:=o1.ex q;obtain ⟨t,e3,e2⟩:=aY7.mp e2;have rt:=re.vl h1 e3;cases t with
  | tup ys=>
   cases e2;obtain ⟨p,us,rfl,sq,rs⟩:=rt;exact ⟨p,us,rfl,.inr sq,by rw [rs.length];exact lk _ _ _ _ _ q .refl re rfl⟩
  | lst ys=>
   cases e2;obtain ⟨p,us,rfl,sq,rs⟩:=rt;exact ⟨p,us,rfl,.inl sq,by rw [rs.length];exact lk _ _ _ _ _ q .refl re rfl⟩
  | _=>cases e2
 | [],_,q=>exact q.elim
 | _::_::_,_,q=>exact q.elim
def aWM (Fr:FA):FE:=λE Q=>Fr E λrs E1=>match rs with
 | [x]=>i1 (vl E1 x) λi=>Q (.p (.int (i.natAbs:Int))) E1
 | _=>False
theorem lB {n:Nat} {p:Pos} (hg:Gl X "abs") (hm:X.mg "abs" = none) (ha:QA X (e::es) (cQ K n Fr)) (hs:bB (e::es)=true:=by rfl):QE X (.Call (.Name "abs" p) (e::es) [] pos) (aL K (aWM Fr)):=by
 refine (dI aG0 hg hm boot_abs ha (by decide) (by decide) hs).le λσ H Q hl h=>args (Fr:=Fr) h λB S E rs vs H2 Q' hS re rr hn q lk=>?_
 match rs,rr,q with
 | [x],⟨v,ws,e1,h1,h2⟩,q=>
  cases h2;subst e1;obtain ⟨i,e2,q⟩:=i1.ex q;exact ⟨i,by rw [re.int h1 e2],lk _ _ _ _ _ q .refl re rfl⟩
 | [],_,q=>exact q.elim
 | _::_::_,_,q=>exact q.elim
def aTO (Fr:FA):FE:=λE Q=>Fr E λrs E1=>match rs with
 | [x]=>b1 (vl E1 x) λi=>Q (.p (.int (if i then 1 else 0))) E1
 | _=>False
theorem qN {n:Nat} {p:Pos} (hg:Gl X "int") (hm:X.mg "int" = none) (ha:QA X (e::es) (cQ K n Fr)) (hs:bB (e::es)=true:=by rfl):QE X (.Call (.Name "int" p) (e::es) [] pos) (aL K (aTO Fr)):=by
 refine (iA aFT hg hm (by decide +kernel) ha (by decide) (by decide) hs).le λσ H Q hl h=>args (Fr:=Fr) h λB S E rs vs H2 Q' hS re rr hn q lk=>?_
 match rs,rr,q with
 | [x],⟨v,ws,e1,h1,h2⟩,q=>
  cases h2;subst e1;obtain ⟨i,e2,q⟩:=b1.ex q;exact ⟨i,by rw [re.bl h1 e2],lk _ _ _ _ _ q .refl re rfl⟩
 | [],_,q=>exact q.elim
 | _::_::_,_,q=>exact q.elim
def aM2 (Fr:FA):FE:=λE Q=>Fr E λrs E1=>match rs with
 | [x,y]=>i2 (vl E1 x) (vl E1 y) λi j=>(0<j/\j<2^200)/\Q (.p (.tup [.int (i/j),.int (i%j)])) E1
 | _=>False
theorem uL {n:Nat} {p:Pos} (hg:Gl X "divmod") (hm:X.mg "divmod" = none) (ha:QA X (e::es) (cQ K n Fr)) (hs:bB (e::es)=true:=by rfl):QE X (.Call (.Name "divmod" p) (e::es) [] pos) (aL K (aM2 Fr)):=by
 refine (dI vT hg hm boot_divmod ha (by decide) (by decide) hs).le λσ H Q hl h=>args (Fr:=Fr) h λB S E rs vs H2 Q' hS re rr hn q lk=>?_
 match rs,rr,q with
 | [x,y],⟨v,ws,e1,h1,w,ws',e2,h2,h3⟩,q=>
  cases h3;subst e2;subst e1;obtain ⟨i,j,e3,e4,⟨c1,c2⟩,q⟩:=i2.ex q;refine ⟨i,j,by rw [re.int h1 e3,re.int h2 e4],c1,c2,λp hp=>?_⟩;obtain ⟨g,re',rp⟩:=re.tup (ts:=[.int (i/j),.int (i%j)]) (vs:=[.int (i/j),.int (i%j)]) hp ⟨_,_,rfl,rfl,_,_,rfl,rfl,rfl⟩;exact lk _ _ _ _ _ q g re' rp
 | [],_,q=>exact q.elim
 | [_],_,q=>exact q.elim
 | _::_::_::_,_,q=>exact q.elim
end
end L2
namespace L2
open PySem PySem.Spec PyProof.Rows
structure ET where
 nx:En->Prop
 rt:R->En->Prop
 bk:En->Prop:=λ_=>False
 ct:En->Prop:=λ_=>False
abbrev FS:=ET->En->Prop
abbrev Gs (B:bAO->Prop) (H:Hp) (S:St) (E:En) (H':Hp) (S':St) (E':En):Prop:=Kp (Ow B S E) (Ow B S' E') H H'
structure LS (K:W.Frag) (B:bAO->Prop) (H:Hp) (σ:St) (E:En) (DT:ET) (D:aA0):Prop where
 nx:∀σ' H' E',DT.nx E'->Gs B H σ E H' σ' E'->RE K B H' σ' E'->D.nx σ' H'
 rt:∀r E' v H' S',DT.rt r E'->Gs B H σ E H' S' E'->RE K B H' S' E'->RR K B H' S' E' r v->D.rt v H'
 bk:∀σ' H' E',DT.bk E'->Gs B H σ E H' σ' E'->RE K B H' σ' E'->D.bk σ' H'
 ct:∀σ' H' E',DT.ct E'->Gs B H σ E H' σ' E'->RE K B H' σ' E'->D.ct σ' H'
theorem LS.step {K:W.Frag} {B:bAO->Prop} {H H':Hp} {σ σ':St} {E E':En} {DT:ET} {D:aA0} (l:LS K B H σ E DT D) (g:Gs B H σ E H' σ' E'):LS K B H' σ' E' DT D:=
 ⟨λa b c d e=>l.nx a b c d (g.trans e),λa b c d e f h=>l.rt a b c d e f (g.trans h),λa b c d e=>l.bk a b c d (g.trans e),λa b c d e=>l.ct a b c d (g.trans e)⟩
def dJ (K:W.Frag) (F:FS):TS:=λD σ H=>∃B E DT,RE K B H σ E/\F DT E/\LS K B H σ E DT D
section
variable {X:Cx} {st:bAY} {sts:List bAY}
theorem QS.le {t t':TS} (h:QS X st t) (m:∀D σ H,σ.length=X.N.length->t' D σ H->t D σ H):QS X st t':=⟨λpins s σ H D I z=>h.h pins s σ H D I (m D σ H I.len z)⟩
theorem QB.le {t t':TS} (h:QB X sts t) (m:∀D σ H,t' D σ H->t D σ H):QB X sts t':=⟨λpins s σ H D I z=>h.h pins s σ H D I (m D σ H z)⟩
theorem QG.le {e:Expr} {t t':TG} (h:QG X e t) (m:∀v σ H Q,σ.length=X.N.length->t' v σ H Q->t v σ H Q):QG X e t':=⟨λpins s σ H v u Q I r z=>h.h pins s σ H v u Q I r (m v σ H Q I.len z)⟩
theorem QGs.le {es:List Expr} {t t':TGs} (h:QGs X es t) (m:∀v σ H Q,t' v σ H Q->t v σ H Q):QGs X es t':=⟨λpins s σ H v u Q I r z=>h.h pins s σ H v u Q I r (m v σ H Q z)⟩
theorem QI.le {tg e:Expr} {t t':TI} (h:QI X tg e t) (m:∀σ H Q,σ.length=X.N.length->t' σ H Q->t σ H Q):QI X tg e t':=⟨λpins s σ H R I z=>h.h pins s σ H R I (m σ H R I.len z)⟩
end
section
variable {K:W.Frag} {B:bAO->Prop} {H H':Hp} {S S':St} {E E':En} {σ:St}
theorem RE.map (re:RE K B H S E) (hl:S'.length=E'.length) (hp:∀(i:Nat) (t:T),E'[i]? = some (some (.p t))->∃v,S'[i]? = some (some v)/\Rp K H (Ow B S E) t v)
  (f:Nat->Nat) (ho:∀(i:Nat) (k:Bool) (xs:List T),E'[i]? = some (some (.o k xs))->E[f i]? = some (some (.o k xs))/\∃a,S[f i]? = some (some (.ref a))/\S'[i]? = some (some (.ref a)))
  (hf:∀(i j:Nat) (k l:Bool) (xs ys:List T),E'[i]? = some (some (.o k xs))->E'[j]? = some (some (.o l ys))->f i=f j->i=j):RE K B H S' E'/\∀b,Ow B S' E' b->Ow B S E b:=by
 have ow:∀b,Ow B S' E' b->Ow B S E b:=λb z=>by
  rcases z with z | ⟨i,k,xs,h1,h2⟩
  ·exact .inl z
  obtain ⟨h3,a,h4,h5⟩:=ho i k xs h1;rw [h2] at h5;cases h5;exact .inr ⟨f i,k,xs,h3,h4⟩
 refine ⟨⟨hl,λi t h=>?_,λi k xs h=>?_,λi j k l xs ys a h1 h2 h3 h4=>?_,re.bd⟩,ow⟩
 ·obtain ⟨v,h1,h2⟩:=hp i t h;exact ⟨v,h1,h2.step (Kp.less ow)⟩
 ·obtain ⟨h3,a,h4,h5⟩:=ho i k xs h;obtain ⟨a',vs,q1,q2,q3,q4⟩:=re.own _ k xs h3;rw [h4] at q1;cases q1;exact ⟨a,vs,h5,q2,q3.step (Kp.less ow),q4⟩
 ·obtain ⟨p1,a1,p2,p3⟩:=ho i k xs h1;obtain ⟨r1,a2,r2,r3⟩:=ho j l ys h2;rw [h3] at p3;cases p3;rw [h4] at r3;cases r3;exact hf i j k l xs ys h1 h2 (re.inj _ _ k l xs ys _ p1 r1 p2 r2)
theorem RE.cut (re:RE K B H' S' E') (hS:∃τ,S'=σ++τ) (hl:σ.length=E.length):RE K B H' σ (E'.take E.length)/\∀b,Ow B σ (E'.take E.length) b->Ow B S' E' b:=by
 obtain ⟨τ,rfl⟩:=hS;have e:(σ++τ).take E.length=σ:=by rw [<-hl];simp
 have:=re.take E.length;rw [e] at this;refine ⟨this,λb z=>?_⟩;rcases z with z | ⟨i,k,xs,h1,h2⟩
 ·exact .inl z
 have hi:i<E.length:=by
  rcases aVS i E.length with c | c
  ·exact c
  ·rw [aX7 (by omega)] at h1;cases h1
 exact .inr ⟨i,k,xs,by rw [aVV hi] at h1;exact h1,dM ⟨τ,rfl⟩ h2⟩
theorem RE.setP (re:RE K B H S E) {i:Nat} {t:T} {v:V} (h:Rp K H (Ow B S E) t v):RE K B H (S.set i (some v)) (E.set i (some (.p t)))/\∀b,Ow B (S.set i (some v)) (E.set i (some (.p t))) b->Ow B S E b:=by
 refine re.map (by simp [re.len]) (λj u hj=>?_) id (λj k xs hj=>?_) (λ_ _ _ _ _ _ _ _ h=>h)
 ·rw [aX2] at hj
  by_cases c:i=j
  ·subst c;rw [if_pos rfl] at hj;split at hj
   ·cases hj;rename_i hi;exact ⟨v,by rw [aVH (by rw [re.len];exact hi)],h⟩
   ·cases hj
  ·rw [if_neg c] at hj;obtain ⟨w,h1,h2⟩:=re.pure j u hj;exact ⟨w,by rw [aLL c];exact h1,h2⟩
 ·rw [aX2] at hj
  by_cases c:i=j
  ·subst c;rw [if_pos rfl] at hj;split at hj<;>cases hj
  ·rw [if_neg c] at hj;obtain ⟨a,vs,h1,_⟩:=re.own j k xs hj;exact ⟨hj,a,h1,by rw [aLL c];exact h1⟩
theorem RE.setO (re:RE K B H S E) (hS:∃τ,S=σ++τ) {i j:Nat} {k:Bool} {xs:List T} (hj:σ.length<=j) (hE:E[j]? = some (some (.o k xs))) {v:V} (hv:S[j]? = some (some v)) :
  RE K B H (σ.set i (some v)) ((E.take σ.length).set i (some (.o k xs)))/\∀b,Ow B (σ.set i (some v)) ((E.take σ.length).set i (some (.o k xs))) b->Ow B S E b:=by
 obtain ⟨τ,rfl⟩:=hS;have hle:σ.length<=E.length:=by rw [<-re.len];simp
 have gt:∀{m:Nat} {x:Option U},(E.take σ.length)[m]? = some x->E[m]? = some x/\m<σ.length:=λ{m x} h=>by
  by_cases c:m<σ.length
  ·rw [aVV c] at h;exact ⟨h,c⟩
  ·rw [aX7 (by omega)] at h;cases h
 refine re.map (by simp;omega) (λm u hm=>?_) (λm=>if m=i then j else m) (λm l ys hm=>?_) (λm n l l' ys zs h1 h2 h=>?_)
 ·rw [aX2] at hm
  by_cases c:i=m
  ·subst c;rw [if_pos rfl] at hm;split at hm<;>cases hm
  ·rw [if_neg c] at hm;obtain ⟨hm,lt⟩:=gt hm;obtain ⟨w,h1,h2⟩:=re.pure m u hm;rw [aE9 lt] at h1;exact ⟨w,by rw [aLL c];exact h1,h2⟩
 ·rw [aX2] at hm
  by_cases c:i=m
  ·subst c;rw [if_pos rfl] at hm;split at hm
   ·cases hm;rename_i hi;obtain ⟨a,vs,h1,_⟩:=re.own j k xs hE;rw [hv] at h1;cases h1;rw [if_pos rfl];refine ⟨hE,a,hv,?_⟩;rw [aVH (by rw [aNQ] at hi;omega)]
   ·cases hm
  ·rw [if_neg c] at hm;obtain ⟨hm,lt⟩:=gt hm;obtain ⟨a,vs,h1,_⟩:=re.own m l ys hm;rw [if_neg (λz=>c z.symm)];refine ⟨hm,a,h1,?_⟩;rw [aE9 lt] at h1;rw [aLL c];exact h1
 ·have lt:∀{m:Nat} {l:Bool} {ys:List T},((E.take σ.length).set i (some (.o k xs)))[m]? = some (some (.o l ys))->m≠i->m<σ.length:=λ{m l ys} h1 c=>by
   rw [aLL (λz=>c z.symm)] at h1;exact (gt h1).2
  by_cases c1:m=i
  ·by_cases c2:n=i
   ·rw [c1,c2]
   ·simp only [if_pos c1,if_neg c2] at h;have:=lt h2 c2;omega
  ·by_cases c2:n=i
   ·simp only [if_neg c1,if_pos c2] at h;have:=lt h1 c1;omega
   ·simp only [if_neg c1,if_neg c2] at h;exact h
theorem RE.frz (re:RE K B H S E) {i:Nat} {xs:List T} (h:E[i]? = some (some (.o false xs))):RE K B H S (E.set i (some (.p (.lst xs))))/\∀b,Ow B S (E.set i (some (.p (.lst xs)))) b->Ow B S E b/\S[i]?≠some (some (.ref b)):=by
 have hi:i<E.length:=(aA8.mp h).1;obtain ⟨a,vs,h1,h2,h3,h4⟩:=re.own i false xs h;have get:∀{j:Nat} {u:U},(E.set i (some (.p (.lst xs))))[j]? = some (some u)->(j=i/\u = .p (.lst xs))\/(j≠i/\E[j]? = some (some u)):=λ{j u} hj=>by
  by_cases c:j=i
  ·subst c;rw [aVH hi] at hj;cases hj;exact .inl ⟨rfl,rfl⟩
  ·rw [aLL (λz=>c z.symm)] at hj;exact .inr ⟨c,hj⟩
 have ow:∀b,Ow B S (E.set i (some (.p (.lst xs)))) b->Ow B S E b/\S[i]?≠some (some (.ref b)):=λb z=>by
  rcases z with z | ⟨j,k,ys,q1,q2⟩
  ·refine ⟨.inl z,λw=>?_⟩;rw [h1] at w;cases w;exact absurd (h4.mpr z) (by decide)
  rcases get q1 with ⟨_,z⟩ | ⟨c,q1⟩
  ·cases z
  ·exact ⟨.inr ⟨j,k,ys,q1,q2⟩,λz=>c (re.inj j i k false ys xs b q1 h q2 z)⟩
 have kl:Kp (Ow B S E) (Ow B S (E.set i (some (.p (.lst xs))))) H H:=Kp.less λb z=>(ow b z).1;refine ⟨⟨by simp [re.len],λj t hj=>?_,λj k ys hj=>?_,λj m k l ys zs b q1 q2 q3 q4=>?_,re.bd⟩,ow⟩
 ·rcases get hj with ⟨c,z⟩ | ⟨c,hj⟩
  ·cases z;subst c;exact ⟨_,h1,a,vs,rfl,.inl ⟨λz=>(ow a z).2 h1,.inl h2⟩,h3.step kl⟩
  ·obtain ⟨w,q1,q2⟩:=re.pure j t hj;exact ⟨w,q1,q2.step kl⟩
 ·rcases get hj with ⟨_,z⟩ | ⟨c,hj⟩
  ·cases z
  ·obtain ⟨b,ws,q1,q2,q3,q4⟩:=re.own j k ys hj;exact ⟨b,ws,q1,q2,q3.step kl,q4⟩
 ·rcases get q1 with ⟨_,z⟩ | ⟨_,q1⟩
  ·cases z
  rcases get q2 with ⟨_,z⟩ | ⟨_,q2⟩
  ·cases z
  exact re.inj j m k l ys zs b q1 q2 q3 q4
theorem RE.put (re:RE K B H S E) {i:Nat} {k:Bool} {xs ys:List T} {a:bAO} {ws:List V} (h:E[i]? = some (some (.o k xs))) (hS:S[i]? = some (some (.ref a))) (hw:bW K H (Ow B S E) ys ws) :
  Gr B H S E (upd H a (.lst ws)) S (E.set i (some (.o k ys)))/\RE K B (upd H a (.lst ws)) S (E.set i (some (.o k ys))):=by
 have hi:i<E.length:=(aA8.mp h).1;have get:∀{j:Nat} {u:U},(E.set i (some (.o k ys)))[j]? = some (some u)->(j=i/\u = .o k ys)\/(j≠i/\E[j]? = some (some u)):=λ{j u} hj=>by
  by_cases c:j=i
  ·subst c;rw [aVH hi] at hj;cases hj;exact .inl ⟨rfl,rfl⟩
  ·rw [aLL (λz=>c z.symm)] at hj;exact .inr ⟨c,hj⟩
 have ow:∀b,Ow B S (E.set i (some (.o k ys))) b->Ow B S E b:=λb z=>by
  rcases z with z | ⟨j,l,zs,q1,q2⟩
  ·exact .inl z
  rcases get q1 with ⟨c,z⟩ | ⟨c,q1⟩
  ·subst c;exact .inr ⟨j,k,xs,h,q2⟩
  ·exact .inr ⟨j,l,zs,q1,q2⟩
 have oa:Ow B S E a:=.inr ⟨i,k,xs,h,hS⟩;have kk:∀b o,H b=some o->¬Ow B S E b->(upd H a (.lst ws)) b=some o:=λb o e n=>by rw [aS (λz=>n (by rw [z];exact oa))];exact e
 have kp:Kp (Ow B S E) (Ow B S E) H (upd H a (.lst ws)):=⟨kk,λb z=>.inl z⟩;refine ⟨⟨⟨kk,λb z=>.inl (ow b z)⟩,[],by simp⟩,re.step kk (by simp) (λj t hj=>?_) (λj l zs hj=>?_) (λb hb=>?_)⟩
 ·rcases get hj with ⟨_,z⟩ | ⟨_,hj⟩
  ·cases z
  ·exact hj
 ·rcases get hj with ⟨c,z⟩ | ⟨c,hj⟩
  ·cases z;subst c;refine ⟨xs,h,λb hb=>?_⟩;rw [hS] at hb;cases hb;exact ⟨ws,bY,hw.step kp⟩
  ·refine ⟨zs,hj,λb hb=>?_⟩;obtain ⟨b',us,q1,q2,q3,_⟩:=re.own j l zs hj;rw [hb] at q1;cases q1;have nb:b≠a:=λz=>c (re.inj j i l k zs xs a hj h (by rw [<-z];exact hb) hS);exact ⟨us,by rw [aS nb];exact q2,q3.step kp⟩
 ·by_cases c:b=a
  ·subst c;exact ⟨ws,bY⟩
  ·rw [aS c];exact re.bd b hb
end
section
variable {X:Cx} {K:W.Frag} {pos:Pos} {a b c e o i:Expr} {es rest:List Expr} {Fa Fb Fc Fe Fo Fi:FE} {Fr:FA} {Fp Fq:FB} {F G:FS} {st:bAY} {sts body b1' b2':List bAY}
def nfS:En->(En->Prop)->Prop
 | [],k=>k []
 | x::r,k=>nfS r λr'=>k (x::r')
theorem oQ:∀{E:En} {k:En->Prop},nfS E k->k E
 | [],_,h=>h
 | x::r,k,h=>oQ (E:=r) (k:=λr'=>k (x::r')) h
theorem aCQ:∀{E:En} {k:En->Prop},k E->nfS E k
 | [],_,h=>h
 | x::r,k,h=>aCQ (E:=r) (k:=λr'=>k (x::r')) h
def aTL:FS:=λD E=>D.nx E
def aWP (F G:FS):FS:=λD E=>F { D with nx:=λE'=>nfS E' (G D) } E
theorem bH:QB X [] (dJ K aTL):=aQY.le λD σ H ⟨B,E,DT,re,hF,l⟩=>l.nx _ _ _ hF (Kp.refl _ _) re
theorem aC (h1:QS X st (dJ K F)) (h2:QB X sts (dJ K G)):QB X (st::sts) (dJ K (aWP F G)):=
 (aDQ h1 h2).le λD σ H ⟨B,E,DT,re,hF,l⟩=>⟨B,E,_,re,hF,⟨λσ' H' E' hG g re'=>⟨B,E',DT,re',oQ hG,l.step g⟩,l.rt,l.bk,l.ct⟩⟩
theorem aG (h1:QS X st (dJ K F)):QB X [st] (dJ K F):=aHD h1
def aTK (Fa:FE):FS:=λD E=>Fa E D.rt
theorem aM (h:QE X e (aL K Fa)):QS X (.Return (some e) pos) (dJ K (aTK Fa)):=
 (aSC h).le λD σ H hl ⟨B,E,DT,re,hF,l⟩=>⟨B,σ,E,_,⟨[],by simp⟩,re,hF,λr E' v H' S' q g re' rr=>l.rt r E' v H' S' q g.kp re' rr⟩
theorem xU {D:Bool->Hp->Prop} {B:bAO->Prop} {σ:St} {H:Hp} {E:En} {P:Bool->En->Prop} (re:RE K B H σ E) (hF:Fp E λb E'=>P b (E'.take E.length)) (k:∀b H' E',P b E'->Gs B H σ E H' σ E'->RE K B H' σ E'->D b H'):d9 K Fp σ H D:=
 ⟨B,σ,E,_,⟨[],by simp⟩,re,hF,λb E' H' S' q g re'=>by
  obtain ⟨r,ow⟩:=re'.cut (E:=E) g.pre re.len;exact k b H' _ q (g.kp.trans (Kp.less ow)) r⟩
theorem aCF {P:R->En->En->Prop} {Q:VK} {B:bAO->Prop} {σ:St} {H:Hp} {E:En} (re:RE K B H σ E) (hF:Fa E λr E'=>P r E' (E'.take E.length))
  (k:∀r E' v H' S',P r E' (E'.take E.length)->Gr B H σ E H' S' E'->RE K B H' S' E'->RR K B H' S' E' r v->RE K B H' σ (E'.take E.length)->(∀b,Ow B σ (E'.take E.length) b->Ow B S' E' b)->Q v H'):aL K Fa σ H Q:=
 ⟨B,σ,E,_,⟨[],by simp⟩,re,hF,λr E' v H' S' q g re' rr=>by
  obtain ⟨r2,ow⟩:=re'.cut (E:=E) g.pre re.len;exact k r E' v H' S' q g re' rr r2 ow⟩
def sIf (Fp:FB) (F G:FS):FS:=λD E=>Fp E λb E'=>if b=true then nfS (E'.take E.length) (F D) else nfS (E'.take E.length) (G D)
theorem bP (hc:QT X c (d9 K Fp)) (ha:QB X b1' (dJ K F)) (hb:QB X b2' (dJ K G)):QS X (.If c b1' b2' pos) (dJ K (sIf Fp F G)):=
 (aVI hc ha hb).le λD σ H hl ⟨B,E,DT,re,hF,l⟩=>xU (P:=λb E'=>if b=true then nfS E' (F DT) else nfS E' (G DT)) re hF λb H' E' q g re'=>by
  cases b
  ·exact ⟨B,E',DT,re',oQ q,l.step g⟩
  ·exact ⟨B,E',DT,re',oQ q,l.step g⟩
def aUJ (Fa:FE):FS:=λD E=>Fa E λ_ E'=>D.nx (E'.take E.length)
theorem iW (he:QE X e (aL K Fa)) (hs:bBN e none pos.line X.env=pure false:=by rfl):QS X (.Expr e pos) (dJ K (aUJ Fa)):=
 (aMU he hs).le λD σ H hl ⟨B,E,DT,re,hF,l⟩=>aCF (P:=λ_ _ E'=>DT.nx E') re hF λr E' v H' S' q g re' rr re2 ow=>l.nx _ _ _ q (g.kp.trans (Kp.less ow)) re2
def aOH (Fp:FB):FS:=λD E=>Fp E λb E'=>b=true/\D.nx (E'.take E.length)
theorem aFX {m:Option Expr} (hc:QT X c (d9 K Fp)):QS X (.Assert c m pos) (dJ K (aOH Fp)):=
 (aFN hc).le λD σ H hl ⟨B,E,DT,re,hF,l⟩=>xU (P:=λb E'=>b=true/\DT.nx E') re hF λb H' E' q g re'=>⟨q.1,l.nx _ _ _ q.2 g re'⟩
def tT (n:Nat) (E:En):R->Option U
 | .p t=>some (.p t)
 | .s j=>match E[j]? with
  | some (some (.p t))=>some (.p t)
  | some (some (.o k xs))=>if n<=j then some (.o k xs) else none
  | _=>none
theorem jX {B:bAO->Prop} {σ S:St} {H:Hp} {E:En} {r:R} {v:V} {u:U} {i:Nat} (re:RE K B H S E) (hS:∃τ,S=σ++τ) (rr:RR K B H S E r v) (h:tT σ.length E r=some u) :
  RE K B H (σ.set i (some v)) ((E.take σ.length).set i (some u))/\∀b,Ow B (σ.set i (some v)) ((E.take σ.length).set i (some u)) b->Ow B S E b:=by
 have cutP:∀{t:T},Rp K H (Ow B S E) t v->RE K B H (σ.set i (some v)) ((E.take σ.length).set i (some (.p t)))/\∀b,Ow B (σ.set i (some v)) ((E.take σ.length).set i (some (.p t))) b->Ow B S E b:=λ{t} hp=>by
  obtain ⟨τ,rfl⟩:=hS;have re2:=re.take σ.length;rw [show (σ++τ).take σ.length=σ by simp] at re2;have ow:∀b,Ow B σ (E.take σ.length) b->Ow B (σ++τ) E b:=λb z=>by
   rcases z with z | ⟨j,k,xs,h1,h2⟩
   ·exact .inl z
   have hj:j<σ.length:=(aA8.mp h2).1;exact .inr ⟨j,k,xs,by rw [aVV hj] at h1;exact h1,dM ⟨τ,rfl⟩ h2⟩
  obtain ⟨q1,q2⟩:=re2.setP (i:=i) (hp.step (Kp.less ow));exact ⟨q1,λb z=>ow b (q2 b z)⟩
 cases r with
 | p t=>cases h;exact cutP rr
 | s j=>
  cases q:E[j]? with
  | none=>simp only [tT,q] at h;cases h
  | some w=>
   cases w with
   | none=>simp only [tT,q] at h;cases h
   | some w=>
    cases w with
    | p t=>
     simp only [tT,q] at h;cases h;obtain ⟨v',h1,h2⟩:=re.pure j t q;have rr':S[j]? = some (some v):=rr;rw [rr'] at h1;cases h1;exact cutP h2
    | o k xs=>
     simp only [tT,q] at h;split at h
     ·cases h;rename_i c;exact re.setO hS c q rr
     ·cases h
def aSP (i:Nat) (Fa:FE):FS:=λD E=>Fa E λr E'=>o1 (tT E.length E' r) λu=>D.nx ((E'.take E.length).set i (some u))
theorem aV {i:Nat} {x:Str} {pos':Pos} (hN:X.N.Nodup) (hi:X.N[i]? = some x) (hx:yT X.env.scope x) (he:QE X e (aL K Fa)) (hs:bBN e (some (.Name x pos')) pos.line X.env=pure false:=by rfl)
  (hf:X.fn x=true\/X.env.scope.names.lookup x=some .local:=by first | exact .inl rfl | exact .inr rfl | assumption):QS X (.Assign [.Name x pos'] e pos) (dJ K (aSP i Fa)):=
 (xD hN hi hx he hs hf).le λD σ H hl ⟨B,E,DT,re,hF,l⟩=>⟨B,σ,E,_,⟨[],by simp⟩,re,hF,λr E' v H' S' q g re' rr=>by
  obtain ⟨u,e1,q⟩:=q.ex;rw [<-re.len] at e1 q;obtain ⟨r1,ow⟩:=jX (i:=i) re' g.pre rr e1;exact l.nx _ _ _ q (g.kp.trans (Kp.less ow)) r1⟩
end
end L2
namespace L2
open PySem PySem.Spec PyProof.Rows
abbrev FG:=T->En->(En->Prop)->Prop
abbrev FGs:=List T->En->(En->Prop)->Prop
def sK (K:W.Frag) (G:FG):TG:=λv σ H Q=>∃B τ E t Q',RE K B H (σ++τ) E/\Rp K H (Ow B (σ++τ) E) t v/\G t E Q'/\∀σ' H' E',Q' E'->Gs B H (σ++τ) E H' (σ'++τ) E'->RE K B H' (σ'++τ) E'->σ'.length=σ.length->Q σ' H'
def aDM (K:W.Frag) (G:FGs):TGs:=λvs σ H Q=>∃B τ E ts Q',RE K B H (σ++τ) E/\bW K H (Ow B (σ++τ) E) ts vs/\G ts E Q'/\∀σ' H' E',Q' E'->Gs B H (σ++τ) E H' (σ'++τ) E'->RE K B H' (σ'++τ) E'->σ'.length=σ.length->Q σ' H'
def zA (i:Nat):FG:=λt E Q=>Q (E.set i (some (.p t)))
def aTW:FGs:=λts E Q=>match ts with
 | []=>Q E
 | _=>False
def aIQ (g:FG) (gs:FGs):FGs:=λts E Q=>match ts with
 | t::r=>g t E λE'=>gs r E' Q
 | []=>False
def aS5 (n:Nat) (gs:FGs):FG:=λt E Q=>match t with
 | .tup ts=>cond (Nat.beq ts.length n) (gs ts E Q) False
 | _=>False
def aWH (Fo Fi:FE):FG:=λt E Q=>Fo E λr E1=>Fi E1 λz E2=>match r with
 | .s j=>match E2[j]? with
  | some (some (.o k xs))=>i1 (vl E2 z) λm=>o1 (ixN xs.length m) λl=>Q ((E2.set j (some (.o k (xs.set l t)))).take E.length)
  | _=>False
 | _=>False
section
variable {X:Cx} {K:W.Frag} {pos:Pos} {a b c e o i:Expr} {es rest:List Expr} {Fa Fb Fc Fe Fo Fi:FE} {Fr:FA} {Fp Fq:FB} {F G:FS} {st:bAY} {sts body:List bAY} {g:FG} {gs:FGs}
theorem bG {i:Nat} {x:Str} (hN:X.N.Nodup) (hi:X.N[i]? = some x) (hx:yT X.env.scope x) (hf:X.fn x=true\/X.env.scope.names.lookup x=some .local:=by first | exact .inl rfl | exact .inr rfl | assumption):QG X (.Name x pos) (sK K (zA i)):=
 (aEK hN hi hx hf).le λv σ H Q hl ⟨B,τ,E,t,Q',re,rp,hF,l⟩=>by
  have hlt:i<σ.length:=by rw [hl];exact (aA8.mp hi).1
  obtain ⟨r1,ow⟩:=re.setP (i:=i) rp;rw [aZH _ _ hlt] at r1 ow;exact l _ _ _ hF (Kp.less ow) r1 (by simp)
theorem g9:QGs X [] (aDM K aTW):=aLX.le λvs σ H Q ⟨B,τ,E,ts,Q',re,rp,hF,l⟩=>by
 cases ts with
 | nil=>exact ⟨rp,l _ _ _ hF (Kp.refl _ _) re rfl⟩
 | cons _ _=>exact hF.elim
theorem bT (h1:QG X e (sK K g)) (h2:QGs X es (aDM K gs)) (hs:(bBB (e::es) X.env).map (·.2)=bB2 e X.env::(bBB es X.env).map (·.2):=by rfl):QGs X (e::es) (aDM K (aIQ g gs)):=
 (aHH h1 h2 hs).le λvs σ H Q ⟨B,τ,E,ts,Q',re,rp,hF,l⟩=>by
  cases ts with
  | nil=>exact hF.elim
  | cons t ts=>
   obtain ⟨v,r,e1,h1,h2⟩:=rp;exact ⟨v,r,e1,B,τ,E,t,_,re,h1,hF,λσ' H' E' q g re' hl=>⟨B,τ,E',ts,Q',re',h2.step g,q,λσ2 H2 E2 q2 g2 re2 hl2=>l _ _ _ q2 (g.trans g2) re2 (hl2.trans hl)⟩⟩
theorem jY {k n:Nat} (eK:X.K=K) (hc:X.calm=true) (h:QGs X es (aDM K gs)) (hn:(bBB es X.env).length=n:=by rfl) (hst:(bBB es X.env).findIdx? (·.1)=none:=by rfl):QG X (.Tuple es k pos) (sK K (aS5 n gs)):=by
 subst eK;refine (aRI hc h hn hst).le λv σ H Q hl ⟨B,τ,E,t,Q',re,rp,hF,l⟩=>?_;cases t with
 | tup ts=>
  have hF':cond (Nat.beq ts.length n) (gs ts E Q') False:=hF;cases q:Nat.beq ts.length n with
  | false=>rw [q] at hF';exact hF'.elim
  | true=>
   rw [q] at hF';obtain ⟨p,vs,e1,sq,rs⟩:=rp.sqT;exact ⟨p,vs,e1,sq,by rw [rs.length];exact Nat.eq_of_beq_eq_true q,B,τ,E,ts,Q',re,rs,hF',l⟩
 | _=>exact hF.elim
theorem aCM (ho:QE X o (aL K Fo)) (hi:QE X i (aL K Fi))
  (ha:∀v,bB2 (.Subscript o i pos) X.env v=(do
   let ov <-bBU [v] (bA2 o X.env)
   let iv <-bBU [v,ov] (bA2 i X.env)
   standAt pos
   bBU [v,ov,iv] (setItem ov iv v)
   release [v,ov,iv] []):=by intro _;rfl):QG X (.Subscript o i pos) (sK K (aWH Fo Fi)):=by
 refine (aR0 ho hi aJ5 ha).le λv σ H Q hl ⟨B,τ,E,t,Q',re,rp,hF,l⟩=>?_;refine ⟨B,σ++τ,E,_,⟨τ,rfl⟩,re,hF,λr E1 w H1 S1 q g1 re1 rr=>?_⟩;obtain ⟨τ1,hS1⟩:=g1.pre;refine ⟨B,S1,E1,_,⟨τ++τ1,by rw [hS1,aEE]⟩,re1,q,λz E2 y H2 S2 q2 g2 re2 rr2=>?_⟩;have g12:=g1.trans g2;cases r with
 | p _=>exact q2.elim
 | s j=>
  have rj:S2[j]? = some (some w):=dM g2.pre rr;cases hE:E2[j]? with
  | none=>simp only [hE] at q2
  | some u=>
   cases u with
   | none=>simp only [hE] at q2
   | some u=>
    cases u with
    | p _=>simp only [hE] at q2
    | o k xs=>
     simp only [hE] at q2;obtain ⟨m,e1,q2⟩:=q2.ex;obtain ⟨n,e2,q2⟩:=q2.ex;obtain ⟨p,vs,h1,h2,h3,h4⟩:=re2.own j k xs hE;rw [rj] at h1;cases h1;refine ⟨p,vs,m,n,rfl,re2.int rr2 e1,h2,by rw [h3.length];exact e2,?_⟩;obtain ⟨g3,re3⟩:=re2.put (ys:=xs.set n t) (ws:=vs.set n v) hE rj (h3.set (rp.step g12.kp) n);obtain ⟨re4,ow⟩:=re3.cut (E:=E) (g12.trans g3).pre re.len;exact l _ _ _ q2 ((g12.trans g3).kp.trans (Kp.less ow)) re4 rfl
def aWZ (Fa:FE) (g:FG):FS:=λD E=>Fa E λr E'=>match r with
 | .p t=>g t (E'.take E.length) D.nx
 | .s _=>False
theorem j8 {tg:Expr} (he:QE X e (aL K Fa)) (hg:QG X tg (sK K g)) (hs:bBH [tg] e pos.line X.env=pure false:=by rfl) (hw:bBI [tg] e X.env=pure none:=by rfl)
  (h1:(bBB [tg] X.env).map (·.2)=[bB2 tg X.env]:=by rfl):QS X (.Assign [tg] e pos) (dJ K (aWZ Fa g)):=
 (aPZ he hg hs hw h1).le λD σ H hl ⟨B,E,DT,re,hF,l⟩=>aCF (P:=λr _ E'=>match r with | .p t=>g t E' DT.nx | .s _=>False) re hF λr E' v H' S' q g' re' rr re2 ow=>by
  cases r with
  | s _=>exact q.elim
  | p t=>exact ⟨B,[],_,t,_,by rw [aU7];exact re2,by rw [aU7];exact Rp.step (Kp.less ow) rr,q,λσ2 H2 E2 q2 g2 re3 _=>by rw [aU7] at g2 re3;rw [aU7] at g2;exact l.nx _ _ _ q2 ((g'.kp.trans (Kp.less ow)).trans g2) re3⟩
def aWS (i j:Nat) (Fr:FA):FS:=λD E=>Fr E λrs E'=>match rs with
 | [.p t,r]=>o1 (tT E.length E' r) λu=>D.nx (((E'.take E.length).set j (some u)).set i (some (.p t)))
 | [r,.p t]=>o1 (tT E.length E' r) λu=>D.nx (((E'.take E.length).set i (some u)).set j (some (.p t)))
 | _=>False
theorem eB {n i j:Nat} {x y:Str} {px py pt:Pos} {kt k2 pt2} (hc:X.calm=true) (hN:X.N.Nodup) (hi:X.N[i]? = some x) (hj:X.N[j]? = some y) (hij:i≠j)
  (hx:X.env.scope.names.lookup x=some .local) (hy:X.env.scope.names.lookup y=some .local) (ha:QA X [a,b] (cQ K n Fr))
  (hw:bBI [.Tuple [.Name x px,.Name y py] kt pt] (.Tuple [a,b] k2 pt2) X.env=pure (some [x,y]))
  (hs:bBH [.Tuple [.Name x px,.Name y py] kt pt] (.Tuple [a,b] k2 pt2) pos.line X.env=pure false:=by rfl) :
  QS X (.Assign [.Tuple [.Name x px,.Name y py] kt pt] (.Tuple [a,b] k2 pt2) pos) (dJ K (aWS i j Fr)):=by
 refine (aJS hc hN hi hj hij hx hy ha hw hs).le λD σ H hl ⟨B,E,DT,re,hF,l⟩=>⟨B,σ,E,_,⟨[],by simp⟩,re,hF,λrs E' vs H' S' q g re' rr hn=>?_⟩;split at q
 ·rename_i t r;obtain ⟨v,ws,e1,h1,w,ws',e2,h2,h3⟩:=rr;cases h3;subst e2;subst e1;obtain ⟨u,e3,q⟩:=q.ex;rw [<-re.len] at e3 q;obtain ⟨r1,ow⟩:=jX (i:=j) re' g.pre h2 e3;obtain ⟨r2,ow2⟩:=r1.setP (i:=i) (Rp.step (Kp.less ow) h1);refine ⟨v,w,rfl,?_⟩;rw [aX6 _ _ hij];exact l.nx _ _ _ q (g.kp.trans (Kp.less λb z=>ow b (ow2 b z))) r2
 ·rename_i r t _;obtain ⟨v,ws,e1,h1,w,ws',e2,h2,h3⟩:=rr;cases h3;subst e2;subst e1;obtain ⟨u,e3,q⟩:=q.ex;rw [<-re.len] at e3 q;obtain ⟨r1,ow⟩:=jX (i:=i) re' g.pre h1 e3;obtain ⟨r2,ow2⟩:=r1.setP (i:=j) (Rp.step (Kp.less ow) h2);exact ⟨v,w,rfl,l.nx _ _ _ q (g.kp.trans (Kp.less λb z=>ow b (ow2 b z))) r2⟩
 ·exact q.elim
def aS4 (i j k:Nat) (Fr:FA):FS:=λD E=>Fr E λrs E'=>match rs with
 | [r,.p t,.p w]=>o1 (tT E.length E' r) λu=>D.nx ((((E'.take E.length).set i (some u)).set j (some (.p t))).set k (some (.p w)))
 | _=>False
theorem aEJ {n i j k:Nat} {x y z:Str} {px py pz pt:Pos} {kt k2 pt2} (hc:X.calm=true) (hN:X.N.Nodup) (hi:X.N[i]? = some x) (hj:X.N[j]? = some y) (hk:X.N[k]? = some z) (hij:i≠j) (hik:i≠k) (hjk:j≠k)
  (hx:X.env.scope.names.lookup x=some .local) (hy:X.env.scope.names.lookup y=some .local) (hz:X.env.scope.names.lookup z=some .local) (ha:QA X [a,b,c] (cQ K n Fr))
  (hw:bBI [.Tuple [.Name x px,.Name y py,.Name z pz] kt pt] (.Tuple [a,b,c] k2 pt2) X.env=pure (some [x,y,z]))
  (hs:bBH [.Tuple [.Name x px,.Name y py,.Name z pz] kt pt] (.Tuple [a,b,c] k2 pt2) pos.line X.env=pure false:=by rfl) :
  QS X (.Assign [.Tuple [.Name x px,.Name y py,.Name z pz] kt pt] (.Tuple [a,b,c] k2 pt2) pos) (dJ K (aS4 i j k Fr)):=by
 refine (aM1 hc hN hi hj hk hij hik hjk hx hy hz ha hw hs).le λD σ H hl ⟨B,E,DT,re,hF,l⟩=>⟨B,σ,E,_,⟨[],by simp⟩,re,hF,λrs E' vs H' S' q g re' rr hn=>?_⟩;split at q
 ·rename_i r t w;obtain ⟨v1,ws1,e1,h1,v2,ws2,e2,h2,v3,ws3,e3,h3,h4⟩:=rr;cases h4;subst e3;subst e2;subst e1;obtain ⟨u,e4,q⟩:=q.ex;rw [<-re.len] at e4 q;obtain ⟨r1,ow⟩:=jX (i:=i) re' g.pre h1 e4;obtain ⟨r2,ow2⟩:=r1.setP (i:=j) (Rp.step (Kp.less ow) h2);obtain ⟨r3,ow3⟩:=r2.setP (i:=k) (Rp.step (Kp.less λb z=>ow b (ow2 b z)) h3);exact ⟨v1,v2,v3,rfl,l.nx _ _ _ q (g.kp.trans (Kp.less λb z=>ow b (ow2 b (ow3 b z)))) r3⟩
 ·exact q.elim
def aUL (f:Int->Int->Int) (i:Nat) (Fa:FE):FS:=λD E=>match E[i]? with
 | some (some (.p (.int x)))=>Fa E λr E'=>i1 (vl E' r) λy=>D.nx ((E'.take E.length).set i (some (.p (.int (f x y)))))
 | _=>False
theorem aJR {i:Nat} {x:Str} {op:bCJ} {f:Int->Int->Int} {pos':Pos} (hN:X.N.Nodup) (hi:X.N[i]? = some x) (hx:yT X.env.scope x) (he:QE X e (aL K Fa)) (ho:PIp X op (ipI f)) (hf:X.fn x=true\/X.env.scope.names.lookup x=some .local:=by first | exact .inl rfl | exact .inr rfl | assumption) :
  QS X (.AugAssign (.Name x pos') op e pos) (dJ K (aUL f i Fa)):=by
 refine QS.le ⟨aSA hN hi hx he.h ho hf⟩ λD σ H hl ⟨B,E,DT,re,hF,l⟩=>?_;unfold aUL at hF;split at hF
 ·rename_i y hE;obtain ⟨v,h1,h2⟩:=re.pure i _ hE;cases h2;refine ⟨_,h1,aCF (P:=λr E' E2=>i1 (vl E' r) λz=>DT.nx (E2.set i (some (.p (.int (f y z)))))) re hF λr E' v H' S' q g' re' rr re2 ow=>?_⟩;obtain ⟨z,e1,q⟩:=q.ex;obtain ⟨r1,ow2⟩:=re2.setP (i:=i) (t:=.int (f y z)) (v:=.int (f y z)) rfl;exact ⟨y,z,rfl,re'.int rr e1,l.nx _ _ _ q (g'.kp.trans (Kp.less λb z=>ow b (ow2 b z))) r1⟩
 ·exact hF.elim
def aJQ (Fp:FB) (F:FS):FS:=λD E=>∃W:Nat->En->Prop,(∃m,W m E)/\∀m E,W m E->Fp E λb E'=>if b=true then F { D with nx:=λE2=>∃m',m'<m/\W m' E2,ct:=λE2=>∃m',m'<m/\W m' E2,bk:=D.nx } (E'.take E.length) else D.nx (E'.take E.length)
theorem jK (hp:PassesOwn (bAV X.prog X.w) X.A X.env X.xe) (hc:QT X c (d9 K Fp)) (hb:QB X body (dJ K F)):QS X (.While c body [] pos) (dJ K (aJQ Fp F)):=by
 refine (aG9 hp hc hb).le λD σ H hl ⟨B,E,DT,re,⟨W,⟨m0,w0⟩,hF⟩,l⟩=>?_;refine ⟨λm σ' H'=>∃E',W m E'/\Gs B H σ E H' σ' E'/\RE K B H' σ' E',⟨m0,E,w0,Kp.refl _ _,re⟩,?_⟩;rintro m σ1 H1 ⟨E1,w1,g1,re1⟩;refine xU (P:=λb E'=>if b=true then F { DT with nx:=λE2=>∃m',m'<m/\W m' E2,ct:=λE2=>∃m',m'<m/\W m' E2,bk:=DT.nx } E' else DT.nx E') re1 (hF m E1 w1) λb H2 E2 q g2 re2=>?_;cases b
 ·exact l.nx _ _ _ q (g1.trans g2) re2
 ·refine ⟨λσ' H'=>∃m',m'<m/\∃E',W m' E'/\Gs B H σ E H' σ' E'/\RE K B H' σ' E',λσ' H' z=>z,B,E2,_,re2,q,?_⟩;have l2:=l.step (g1.trans g2);exact ⟨λσ' H' E' ⟨m',hm,w⟩ g re'=>⟨m',hm,E',w,(g1.trans g2).trans g,re'⟩,l2.rt,λσ' H' E' z g re'=>l2.nx _ _ _ z g re',λσ' H' E' ⟨m',hm,w⟩ g re'=>⟨m',hm,E',w,(g1.trans g2).trans g,re'⟩⟩
structure aC8 (K:W.Frag) (J:It) (items:List T) (gd:Hp->(bAO->Prop)->Prop):Prop where
 keep:∀H H' O O',Kp O O' H H'->gd H O->gd H' O'
 go:∀i H O,gd H O->i<items.length->J.go i H
 yld:∀i H O x H' t,gd H O->items[i]? = some t->(∀a,O a->H a≠none)->J.yld i H x H'->Kp O O H H'/\(∀b o,H b=some o->H' b=some o)/\Rp K H' O t x
 stop:∀H O,gd H O->J.stop items.length H
abbrev FI:=En->(List T->List Nat->En->Prop)->Prop
def qH (K:W.Frag) (F:FI):TI:=λσ H R=>∃B S E Q',(∃τ,S=σ++τ)/\RE K B H S E/\F E Q'/\∀J items us E' H' S' gd,Q' items us E'->Gr B H S E H' S' E'->RE K B H' S' E'->aC8 K J items gd->(∀j∈us,∃k xs,E'[j]? = some (some (U.o k xs)))->
 (∀O:bAO->Prop,(∀b,O b->Ow B S' E' b)->(∀j∈us,∀a,S'[j]? = some (some (.ref a))->¬O a)->gd H' O)->R J H'
def frzs:List Nat->En->Option En
 | [],E=>some E
 | j::us,E=>match E[j]? with
  | some (some (.o false xs))=>frzs us (E.set j (some (.p (.lst xs))))
  | _=>none
theorem wN {B:bAO->Prop} {H:Hp} {S:St}:∀{us:List Nat} {E E':En},RE K B H S E->frzs us E=some E'->RE K B H S E'/\(∀b,Ow B S E' b->Ow B S E b)/\(∀j∈us,∀a,S[j]? = some (some (.ref a))->¬Ow B S E' a)/\E'.length=E.length
 | [],E,E',re,h=>by cases h;exact ⟨re,λb z=>z,λj hj=>absurd hj (by simp),rfl⟩
 | j::us,E,E',re,h=>by
  cases q:E[j]? with
  | none=>simp only [frzs,q] at h;cases h
  | some u=>
   cases u with
   | none=>simp only [frzs,q] at h;cases h
   | some u=>
    cases u with
    | p t=>simp only [frzs,q] at h;cases h
    | o k xs=>
     cases k
     ·simp only [frzs,q] at h;obtain ⟨s1,s2⟩:=re.frz q;obtain ⟨r1,r2,r3,r4⟩:=wN s1 h;refine ⟨r1,λb z=>(s2 b (r2 b z)).1,λm hm a ha z=>?_,by rw [r4];simp⟩;rcases aH1.mp hm with rfl | hm
      ·exact (s2 a (r2 a z)).2 ha
      ·exact r3 m hm a ha z
     ·simp only [frzs,q] at h;cases h
def kI (g:FG) (F:FS) (D:ET):List T->En->Prop
 | [],E=>D.nx E
 | x::xs,E=>g x E λE'=>nfS E' (F { D with nx:=kI g F D xs,ct:=kI g F D xs,bk:=D.nx })
def aW8 (I:FI) (g:FG) (F:FS):FS:=λD E=>I E λitems us E'=>o1 (frzs us E') λE2=>nfS (E2.take E.length) (kI g F D items)
theorem j6 {tg iter:Expr} {I:FI} (hp:PassesOwn (bAV X.prog X.w) X.A X.env X.xe) (hc:X.calm=true) (hi:QI X tg iter (qH K I)) (hg:QG X tg (sK K g)) (hb:QB X body (dJ K F)) (hs:∀x,bBD iter X.env x=pure x:=by intro _;rfl) :
  QS X (.For tg iter body [] pos) (dJ K (aW8 I g F)):=by
 refine (aQD hp hc hi hg hb hs).le λD σ H hl ⟨B,E,DT,re,hF,l⟩=>?_;refine ⟨B,σ,E,_,⟨[],by simp⟩,re,hF,λJ items us E1 H1 S1 gd q g1 re1 ok _ hgd=>?_⟩;obtain ⟨E2,e2,q⟩:=q.ex;replace q:=oQ q;obtain ⟨f1,f2,f3,f4⟩:=wN re1 e2;obtain ⟨c1,c2⟩:=f1.cut (E:=E) g1.pre re.len;have gs:Gs B H σ E H1 σ (E2.take E.length):=g1.kp.trans ((Kp.less f2).trans (Kp.less c2));have gd1:gd H1 (Ow B σ (E2.take E.length)):=hgd _ (λb z=>f2 b (c2 b z)) λj hj a ha z=>f3 j hj a ha (c2 a z);refine ⟨λi m σ' H'=>m=items.length-i/\i<=items.length/\∃E',kI g F DT (items.drop i) E'/\Gs B H σ E H' σ' E'/\RE K B H' σ' E'/\gd H' (Ow B σ' E'),⟨_,rfl,aB7 _,_,q,gs,c1,gd1⟩,?_⟩;rintro i m σ2 H2 ⟨rfl,hi',E3,q3,g3,re3,gd3⟩;rcases aVS i items.length with hlt | hge
 ·have hd:items.drop i=items[i]::items.drop (i+1):=aVT hlt;rw [hd] at q3;refine .inr ⟨ok.go i H2 _ gd3 hlt,λσ' H'=>∃E',kI g F DT (items.drop (i+1)) E'/\Gs B H σ E H' σ' E'/\RE K B H' σ' E'/\gd H' (Ow B σ' E'),λσ' H' ⟨E',z⟩=>⟨items.length-(i+1),by omega,rfl,hlt,E',z⟩,λx H4 y=>?_⟩;obtain ⟨k4,s4,rp⟩:=ok.yld i H2 _ x H4 _ gd3 (aCP hlt) (λa z=>by obtain ⟨vs,e⟩:=re3.ow z;rw [e];intro z;cases z) y;have re4:=re3.kept s4;have gd4:=ok.keep _ _ _ _ k4 gd3;refine ⟨B,[],E3,_,_,by rw [aU7];exact re4,by rw [aU7];exact rp,q3,λσ5 H5 E5 q5 g5 re5 hl5=>?_⟩;rw [aU7] at g5 re5;rw [aU7] at g5;have gd5:=ok.keep _ _ _ _ g5 gd4;have gg:=(g3.trans k4).trans g5;have l5:=l.step gg;refine ⟨B,E5,_,re5,oQ q5,?_⟩;exact ⟨λσ' H' E' z g re'=>⟨E',z,gg.trans g,re',ok.keep _ _ _ _ g gd5⟩,l5.rt,λσ' H' E' z g re'=>l5.nx _ _ _ z g re',λσ' H' E' z g re'=>⟨E',z,gg.trans g,re',ok.keep _ _ _ _ g gd5⟩⟩
 ·have ei:i=items.length:=by omega
  subst ei;rw [aYD] at q3;exact .inl ⟨ok.stop H2 _ gd3,l.nx _ _ _ q3 g3 re3⟩
def oG (E:En):R->List Nat
 | .p _=>[]
 | .s j=>match E[j]? with
  | some (some (.o _ _))=>[j]
  | _=>[]
theorem qP {E:En} {r:R}:∀j∈oG E r,∃k xs,E[j]? = some (some (U.o k xs)):=λj hj=>by
 cases r with
 | p _=>simp [oG] at hj
 | s m=>
  cases q:E[m]? with
  | none=>simp [oG,q] at hj
  | some u=>
   cases u with
   | none=>simp [oG,q] at hj
   | some u=>
    cases u with
    | p _=>simp [oG,q] at hj
    | o k xs=>simp [oG,q] at hj;subst hj;exact ⟨k,xs,q⟩
theorem pQ {B:bAO->Prop} {H:Hp} {S:St} {E:En} {r:R} {v:V} {t:T} (re:RE K B H S E) (rr:RR K B H S E r v) (e:vl E r=some t) (O:bAO->Prop) (hO:∀b,O b->Ow B S E b) (hu:∀j∈oG E r,∀a,S[j]? = some (some (.ref a))->¬O a):Rp K H O t v:=by
 cases r with
 | p u=>cases e;exact Rp.step (Kp.less hO) rr
 | s j=>
  have rr':S[j]? = some (some v):=rr;cases q:E[j]? with
  | none=>simp only [vl,q] at e;cases e
  | some u=>
   cases u with
   | none=>simp only [vl,q] at e;cases e
   | some u=>
    cases u with
    | p u=>
     simp only [vl,q] at e;cases e;obtain ⟨w,h1,h2⟩:=re.pure j _ q;rw [rr'] at h1;cases h1;exact h2.step (Kp.less hO)
    | o k xs=>
     simp only [vl,q] at e;cases e;obtain ⟨a,vs,h1,h2,h3,_⟩:=re.own j k xs q;rw [rr'] at h1;cases h1;exact ⟨a,vs,rfl,.inl ⟨hu j (by simp [oG,q]) a rr',.inl h2⟩,h3.step (Kp.less hO)⟩
theorem aRV {p:bAO} {xs:List T}:aC8 K (Itl K p) xs (λH O=>Rp K H O (.lst xs) (.ref p)):=by
 refine ⟨λH H' O O' k h=>Rp.step k h,λi H O h hi=>?_,λi H O x H' t h e _ y=>?_,λH O h=>?_⟩
 ·obtain ⟨a,vs,e,sq,rs⟩:=h.sqL;cases e;exact ⟨vs,vs[i]'(by rw [rs.length];exact hi),sq,aCP _⟩
 ·obtain ⟨e1,y⟩:=y;subst e1;obtain ⟨a,vs,e2,sq,rs⟩:=h.sqL;cases e2;obtain ⟨v,h1,h2⟩:=rs.get e;rw [y vs sq] at h1;cases h1;exact ⟨Kp.refl _ _,λ_ _ z=>z,h2⟩
 ·obtain ⟨a,vs,e,sq,rs⟩:=h.sqL;cases e;exact ⟨vs,sq,by rw [rs.length];exact aFI _⟩
theorem aRU {p:bAO} {xs:List T}:aC8 K (Itt K p) xs (λH O=>Rp K H O (.tup xs) (.ref p)):=by
 refine ⟨λH H' O O' k h=>Rp.step k h,λi H O h hi=>?_,λi H O x H' t h e _ y=>?_,λH O h=>?_⟩
 ·obtain ⟨a,vs,e,sq,rs⟩:=h.sqT;cases e;exact ⟨vs,vs[i]'(by rw [rs.length];exact hi),sq,aCP _⟩
 ·obtain ⟨e1,y⟩:=y;subst e1;obtain ⟨a,vs,e2,sq,rs⟩:=h.sqT;cases e2;obtain ⟨v,h1,h2⟩:=rs.get e;rw [y vs sq] at h1;cases h1;exact ⟨Kp.refl _ _,λ_ _ z=>z,h2⟩
 ·obtain ⟨a,vs,e,sq,rs⟩:=h.sqT;cases e;exact ⟨vs,sq,by rw [rs.length];exact aFI _⟩
def sJ (lo:Int) (n:Nat):List T:=(aYH n).map λ(i:Nat)=>T.int (lo+(i:Int))
theorem aQ4 {lo:Int} {n:Nat}:aC8 K (Itr lo n) (sJ lo n) (λ_ _=>True):=by
 refine ⟨λ_ _ _ _ _ h=>h,λi H O _ hi=>by show i<n;simpa [sJ] using hi,λi H O x H' t _ e _ y=>?_,λH O _=>by simp [Itr,sJ]⟩;obtain ⟨e1,y⟩:=y;subst e1;subst y;unfold sJ at e;rw [aEO] at e;have hi:i<n:=by
  rcases aVS i n with c | c
  ·exact c
  ·rw [aZD (by simpa using c)] at e;cases e
 rw [List.getElem?_range hi] at e;cases e;exact ⟨Kp.refl _ _,λ_ _ z=>z,rfl⟩
theorem aP8 {p:bAO} {xs:List T}:aC8 K (Ite K p) (xs.zipIdx.map λq=>T.tup [.int (q.2:Int),q.1]) (λH O=>Rp K H O (.lst xs) (.ref p)):=by
 refine ⟨λH H' O O' k h=>Rp.step k h,λi H O h hi=>?_,λi H O x H' t h e hO y=>?_,λH O h=>?_⟩
 ·obtain ⟨a,vs,e,sq,rs⟩:=h.sqL;cases e;have hi':i<xs.length:=by simpa using hi
  exact ⟨vs,vs[i]'(by rw [rs.length];exact hi'),sq,aCP _⟩
 ·obtain ⟨pp,w,e1,hp,e2,y⟩:=y;subst e1;subst e2;obtain ⟨a,vs,e3,sq,rs⟩:=h.sqL;cases e3;rw [aEO] at e;cases q:xs.zipIdx[i]? with
  | none=>rw [q] at e;cases e
  | some z=>
   rw [q] at e;cases e;obtain ⟨q1,q2⟩:=aA8.mp q;have q1':i<xs.length:=by simpa using q1
   rw [List.getElem_zipIdx] at q2;subst q2;obtain ⟨v,h1,h2⟩:=rs.get (aCP q1');rw [y vs sq] at h1;cases h1;have k:Kp O O H (upd H pp (.tup [.int (i:Int),w])):=Kp.upd hp;refine ⟨k,λb o z=>by rw [aS (aQ z hp)];exact z,pp,_,rfl,.inl ⟨λz=>hO pp z hp,.inl bY⟩,_,_,rfl,?_,w,[],rfl,h2.step k,rfl⟩;simp [Rp]
 ·obtain ⟨a,vs,e,sq,rs⟩:=h.sqL;cases e;exact ⟨vs,sq,by simp [rs.length]⟩
def iL (Fa:FE):FI:=λE Q=>Fa E λr E1=>match vl E1 r with
 | some (.lst xs)=>Q xs (oG E1 r) E1
 | _=>False
def iT (Fa:FE):FI:=λE Q=>Fa E λr E1=>match vl E1 r with
 | some (.tup xs)=>Q xs [] E1
 | _=>False
theorem vZ {tg l:Expr} (eK:X.K=K) (hl:QE X l (aL K Fa)):QI X tg l (qH K (iL Fa)):=by
 subst eK;refine (aMB hl).le λσ H R hn ⟨B,S,E,Q',hS,re,hF,lk⟩=>⟨B,S,E,_,hS,re,hF,λr E1 v H1 S1 q g re1 rr=>?_⟩;split at q
 ·rename_i xs e1;obtain ⟨a,vs,e2,sq,rs⟩:=re1.vl rr e1;exact ⟨a,e2,⟨vs,sq⟩,lk _ _ _ _ _ _ _ q g re1 aRV qP λO h1 h2=>by rw [<-e2];exact pQ re1 rr e1 O h1 h2⟩
 ·exact q.elim
theorem oJ {tg l:Expr} (eK:X.K=K) (hl:QE X l (aL K Fa)):QI X tg l (qH K (iT Fa)):=by
 subst eK;refine (aQ2 hl).le λσ H R hn ⟨B,S,E,Q',hS,re,hF,lk⟩=>⟨B,S,E,_,hS,re,hF,λr E1 v H1 S1 q g re1 rr=>?_⟩;split at q
 ·rename_i xs e1;obtain ⟨a,vs,e2,sq,rs⟩:=re1.vl rr e1;refine ⟨a,e2,⟨vs,sq⟩,lk _ _ _ _ _ _ _ q g re1 aRU (λj hj=>absurd hj (by simp)) λO h1 h2=>?_⟩;rw [<-e2];refine pQ re1 rr e1 O h1 λj hj=>?_;cases r with
  | p _=>simp [oG] at hj
  | s m=>
   cases q2:E1[m]? with
   | none=>simp only [vl,q2] at e1;cases e1
   | some u=>
    cases u with
    | none=>simp only [vl,q2] at e1;cases e1
    | some u=>
     cases u with
     | p u=>simp [oG,q2] at hj
     | o k ys=>simp only [vl,q2] at e1;cases e1
 ·exact q.elim
def iR1 (Fr:FA):FI:=λE Q=>Fr E λrs E1=>match rs with
 | [x]=>i1 (vl E1 x) λj=>(-(2^62)<=j/\j<2^62)/\Q (sJ 0 j.toNat) [] E1
 | _=>False
theorem jL {n:Nat} {tg:Expr} {p:Pos} (hg:Gl X "range") (hm:X.mg "range" = none) (ha:QA X [a] (cQ K n Fr)) (hs:bR a=false:=by rfl):QI X tg (.Call (.Name "range" p) [a] [] pos) (qH K (iR1 Fr)):=by
 refine (aFR hg hm ha hs).le λσ H R hn ⟨B,S,E,Q',hS,re,hF,lk⟩=>⟨B,S,E,_,hS,re,hF,λrs E1 vs H1 S1 q g re1 rr hn=>?_⟩
 match rs,rr,q with
 | [x],⟨v,ws,e1,h1,h2⟩,q=>
  cases h2;subst e1;obtain ⟨j,e2,c,q⟩:=i1.ex q;exact ⟨j,by rw [re1.int h1 e2],c.1,c.2,lk _ _ _ _ _ _ _ q g re1 aQ4 (λj hj=>absurd hj (by simp)) λ_ _ _=>trivial⟩
 | [],_,q=>exact q.elim
 | _::_::_,_,q=>exact q.elim
def iE (Fr:FA):FI:=λE Q=>Fr E λrs E1=>match rs with
 | [r]=>(match vl E1 r with
  | some (.lst xs)=>Q (xs.zipIdx.map λq=>T.tup [.int (q.2:Int),q.1]) (oG E1 r) E1
  | _=>False)
 | _=>False
theorem aLQ {n:Nat} {p tpos:Pos} {elts:List Expr} {x1} (eK:X.K=K) (hg:Gl X "enumerate") (hm:X.mg "enumerate" = none) (ha:QA X [a] (cQ K n Fr)) (hs:bR a=false:=by rfl):QI X (.Tuple elts x1 tpos) (.Call (.Name "enumerate" p) [a] [] pos) (qH K (iE Fr)):=by
 subst eK;refine (aN5 hg hm ha hs).le λσ H R hn ⟨B,S,E,Q',hS,re,hF,lk⟩=>⟨B,S,E,_,hS,re,hF,λrs E1 vs H1 S1 q g re1 rr hn=>?_⟩
 match rs,rr,q with
 | [r],⟨v,ws,e1,h1,h2⟩,q=>
  cases h2;subst e1;simp only at q;split at q
  ·rename_i xs e1;obtain ⟨a,vs,e2,sq,rs⟩:=re1.vl h1 e1;exact ⟨a,by rw [e2],⟨vs,sq⟩,lk _ _ _ _ _ _ _ q g re1 aP8 qP λO k1 k2=>by rw [<-e2];exact pQ re1 h1 e1 O k1 k2⟩
  ·exact q.elim
 | [],_,q=>exact q.elim
 | _::_::_,_,q=>exact q.elim
end
end L2
namespace L2
open PySem PySem.Spec PyProof.Rows
mutual
def noL:T->Bool
 | .lst _=>false
 | .tup xs=>cC xs
 | _=>true
def cC:List T->Bool
 | []=>true
 | x::xs=>noL x&&cC xs
end
def fF (H:Hp) (a:bAO):Prop:=∃ws,H a=some (.lst ws)
section
variable {K:W.Frag} {H:Hp} {O O':bAO->Prop}
mutual
theorem Rp.noL (hO:∀a,O' a->fF H a):∀{t:T} {v:V},L2.noL t=true->Rp K H O t v->Rp K H O' t v
 | .non,_,_,h=>h
 | .bl _,_,_,h=>h
 | .int _,_,_,h=>h
 | .str _,_,_,h=>h
 | .lst _,_,e,_=>by simp [L2.noL] at e
 | .tup xs,v,e,h=>by
  obtain ⟨a,vs,e1,h1,h2⟩:=h;refine ⟨a,vs,e1,h1.imp (λ⟨_,h⟩=>⟨λz=>?_,h⟩) id,bW.noL hO (by simpa [L2.noL] using e) h2⟩;obtain ⟨ws,q⟩:=hO a z;rcases h with h | ⟨o,h⟩
  ·rw [h] at q;cases q
  ·rw [h] at q;cases q
theorem bW.noL (hO:∀a,O' a->fF H a):∀{xs:List T} {vs:List V},cC xs=true->bW K H O xs vs->bW K H O' xs vs
 | [],_,_,h=>h
 | x::xs,vs,e,h=>by
  obtain ⟨v,r,e1,h1,h2⟩:=h;have e':L2.noL x=true/\cC xs=true:=by simpa [cC] using e
  exact ⟨v,r,e1,Rp.noL hO e'.1 h1,bW.noL hO e'.2 h2⟩
end
end
section
variable {K:W.Frag} {B:bAO->Prop} {H H':Hp} {S S':St} {E E':En} {σ:St}
theorem RE.push (re:RE K B H' S E) {a:bAO} {ts:List T} {vs:List V} (ha:H' a=some (.lst vs)) (hn:¬Ow B S E a) (hb:¬B a)
  (hp:∀(i:Nat) (t:T),E[i]? = some (some (.p t))->∃v,S[i]? = some (some v)/\Rp K H' (λb=>Ow B S E b\/b=a) t v)
  (ho:∀(i:Nat) (k:Bool) (xs:List T),E[i]? = some (some (.o k xs))->∃b ws,S[i]? = some (some (.ref b))/\H' b=some (.lst ws)/\bW K H' (λb=>Ow B S E b\/b=a) xs ws)
  (h:bW K H' (λb=>Ow B S E b\/b=a) ts vs) :
  RE K B H' (S++[some (.ref a)]) (E++[some (.o false ts)])/\∀b,Ow B (S++[some (.ref a)]) (E++[some (.o false ts)]) b->Ow B S E b\/b=a:=by
 have gE:∀{i:Nat} {u:U},(E++[some (.o false ts)])[i]? = some (some u)->(E[i]? = some (some u)/\i<E.length)\/(i=E.length/\u = .o false ts):=λ{i u} h=>by
  rcases zP h with ⟨c,h⟩ | ⟨c,h⟩
  ·exact .inl ⟨h,c⟩
  ·exact .inr ⟨c,Option.some.inj h⟩
 have gS:∀{i:Nat} {x:Option V},S[i]? = some x->(S++[some (.ref a)])[i]? = some x:=λ{i x} h=>dM ⟨_,rfl⟩ h;have gS':∀{i:Nat} {x:Option V},i<E.length->(S++[some (.ref a)])[i]? = some x->S[i]? = some x:=λ{i x} c h=>by
  rw [aE9 (by rw [re.len];exact c)] at h;exact h
 have lS:(S++[some (.ref a)])[E.length]? = some (some (.ref a)):=by rw [<-re.len];simp
 have ow:∀b,Ow B (S++[some (.ref a)]) (E++[some (.o false ts)]) b->Ow B S E b\/b=a:=λb z=>by
  rcases z with z | ⟨i,k,xs,h1,h2⟩
  ·exact .inl (.inl z)
  rcases gE h1 with ⟨h1,c⟩ | ⟨c,h1⟩
  ·exact .inl (.inr ⟨i,k,xs,h1,gS' c h2⟩)
  ·subst c;rw [lS] at h2;cases h2;exact .inr rfl
 have kl:Kp (λb=>Ow B S E b\/b=a) (Ow B (S++[some (.ref a)]) (E++[some (.o false ts)])) H' H':=Kp.less ow;refine ⟨⟨by simp [re.len],λi t h=>?_,λi l xs h=>?_,λi j l m xs ys b h1 h2 h3 h4=>?_,re.bd⟩,ow⟩
 ·rcases gE h with ⟨h,c⟩ | ⟨c,h⟩
  ·obtain ⟨v,h1,h2⟩:=hp i t h;exact ⟨v,gS h1,h2.step kl⟩
  ·cases h
 ·rcases gE h with ⟨h,c⟩ | ⟨c,h⟩
  ·obtain ⟨b,ws,h1,h2,h3⟩:=ho i l xs h;obtain ⟨b',_,q1,_,_,q4⟩:=re.own i l xs h;rw [h1] at q1;cases q1;exact ⟨b,ws,gS h1,h2,h3.step kl,q4⟩
  ·cases h;subst c;exact ⟨a,vs,lS,ha,bW.step kl (by assumption),⟨λz=>absurd z (by decide),λz=>absurd z hb⟩⟩
 ·rcases gE h1 with ⟨h1,c1⟩ | ⟨c1,h1⟩
  ·rcases gE h2 with ⟨h2,c2⟩ | ⟨c2,h2⟩
   ·exact re.inj i j l m xs ys b h1 h2 (gS' c1 h3) (gS' c2 h4)
   ·subst c2;rw [lS] at h4;cases h4;exact absurd (.inr ⟨i,l,xs,h1,gS' c1 h3⟩) hn
  ·rcases gE h2 with ⟨h2,c2⟩ | ⟨c2,h2⟩
   ·subst c1;rw [lS] at h3;cases h3;exact absurd (.inr ⟨j,m,ys,h2,gS' c2 h4⟩) hn
   ·rw [c1,c2]
theorem RE.pad (re:RE K B H S E) (n:Nat):RE K B H (S++aEH n none) (E++aEH n none)/\(∀b,Ow B (S++aEH n none) (E++aEH n none) b->Ow B S E b):=by
 have gE:∀{i:Nat} {u:U},(E++aEH n none)[i]? = some (some u)->E[i]? = some (some u)/\i<E.length:=λ{i u} h=>by
  rcases aVS i E.length with c | c
  ·rw [aE9 c] at h;exact ⟨h,c⟩
  ·rw [aUO c] at h;have:=aIR h;rw [List.mem_replicate] at this;cases this.2
 have gS:∀{i:Nat} {x:Option V},S[i]? = some x->(S++aEH n none)[i]? = some x:=λ{i x} h=>dM ⟨_,rfl⟩ h;have gS':∀{i:Nat} {x:Option V},i<E.length->(S++aEH n none)[i]? = some x->S[i]? = some x:=λ{i x} c h=>by
  rw [aE9 (by rw [re.len];exact c)] at h;exact h
 have ow:∀b,Ow B (S++aEH n none) (E++aEH n none) b->Ow B S E b:=λb z=>z.imp id λ⟨i,k,xs,h1,h2⟩=>⟨i,k,xs,(gE h1).1,gS' (gE h1).2 h2⟩;have kl:Kp (Ow B S E) (Ow B (S++aEH n none) (E++aEH n none)) H H:=Kp.less ow;refine ⟨⟨by simp [re.len],λi t h=>?_,λi l xs h=>?_,λi j l m xs ys b h1 h2 h3 h4=>?_,re.bd⟩,ow⟩
 ·obtain ⟨v,h1,h2⟩:=re.pure i t (gE h).1;exact ⟨v,gS h1,h2.step kl⟩
 ·obtain ⟨b,ws,h1,h2,h3,h4⟩:=re.own i l xs (gE h).1;exact ⟨b,ws,gS h1,h2,h3.step kl,h4⟩
 ·exact re.inj i j l m xs ys b (gE h1).1 (gE h2).1 (gS' (gE h1).2 h3) (gS' (gE h2).2 h4)
end
inductive A where
 | v (t:T) | b (xs:List T)
inductive RV where
 | v (t:T) | l (xs:List T)
abbrev fR:=List A->(RV->List T->Prop)->Prop
def pV:List A->En
 | []=>[]
 | .v t::r=>some (.p t)::pV r
 | .b xs::r=>some (.o true xs)::pV r
theorem j3:∀{as:List A},(pV as).length=as.length
 | []=>rfl
 | .v t::r=>by simp [pV,j3 (as:=r)]
 | .b t::r=>by simp [pV,j3 (as:=r)]
def aA6:List A->Option Nat
 | []=>none
 | .b _::_=>some 0
 | .v _::r=>(aA6 r).map (· + 1)
def RRv (K:W.Frag) (H H':Hp):RV->V->Prop
 | .v t,v=>Rp K H' (fF H) t v
 | .l xs,v=>∃a ws,v = .ref a/\H a=none/\H' a=some (.lst ws)/\bW K H' (λb=>fF H b\/b=a) xs ws
def aK (K:W.Frag) (S:fR):Sp:=λvs H Q _=>∃(as:List A) (Q':RV->List T->Prop) (bx:Option bAO),RE K (λa=>bx=some a) H (vs.map some) (pV as)/\(aA6 as=none->bx=none)/\S as Q'/\
 ∀r xs v H',Q' r xs->(∀b o,H b=some o->bx≠some b->H' b=some o)->(∀a,bx=some a->∃ws,H' a=some (.lst ws)/\bW K H' (fF H') xs ws)->RRv K H H' r v->Q v H'
def vI (as:List A) (E:En):Option (List T):=match aA6 as with
 | none=>some []
 | some j=>match E[j]? with
  | some (some (.o true xs))=>if cC xs=true then some xs else none
  | _=>none
def aW1 (as:List A) (Q:RV->List T->Prop):ET where
 nx:=λE=>o1 (vI as E) λxs=>Q (.v .non) xs
 rt:=λr E=>o1 (vI as E) λxs=>match r with
  | .p t=>noL t=true/\Q (.v t) xs
  | .s i=>match E[i]? with
   | some (some (.o false ys))=>cC ys=true/\Q (.l ys) xs
   | some (some (.p t))=>noL t=true/\Q (.v t) xs
   | _=>False
theorem aK0:∀{as:List A} {j:Nat} {k:Bool} {xs:List T},(pV as)[j]? = some (some (.o k xs))->k=true
 | [],j,_,_,h=>by simp [pV] at h
 | .b _::_,0,_,_,h=>by simp [pV] at h;exact h.1
 | .v _::_,0,_,_,h=>by simp [pV] at h
 | .b _::r,j+1,_,_,h=>aK0 (as:=r) (j:=j) (by simpa [pV] using h)
 | .v _::r,j+1,_,_,h=>aK0 (as:=r) (j:=j) (by simpa [pV] using h)
section
variable {P:bAR} {w:bAU} {K:W.Frag} {mg:Str->Option Value} {base:Heap}
theorem dA.okT {x qual:Str} {st:bAY} {f:bAO} {fd:bAS} {N ps:List Str} {k:Nat} {S:fR} {F:FS} (Fn:dA K x qual st f fd) (Sc:aP N ps (aH st)) (len:∀as Q,S as Q->as.length=ps.length)
  (hb:∀(cdv:Value) (A:Around) (outer:List Env) (s:Shared) (H:Hp) (E:XK),cU k (A.deeper (bAZ qual (aH st) s.heap.objs.size f cdv))->QB (dE dQ P w K mg base N qual (aH st) f cdv A outer s H E).nox (fD st) (dJ K F))
  (hF:∀as Q,S as Q->F (aW1 as Q) (pV as++aEH (N.length-as.length) none)):bI P w K mg base dQ (k+1) f fd ps (aK K S):=by
 refine Fn.okQ Sc (λvs H Q E ⟨as,Q',bx,re,hbn,hS,l⟩=>?_) (λcdv A outer s H vs Q E hr ⟨as,Q',bx,re,hbn,hS,l⟩=>?_)
 ·have:=re.len;rw [aG5,j3] at this;rw [this];exact len as Q' hS
 have hl:vs.length=as.length:=by have:=re.len;rwa [aG5,j3] at this
 refine ⟨_,hb cdv A outer s H E hr,?_⟩;obtain ⟨re0,ow0⟩:=re.pad (N.length-as.length);have hst:jJ N vs=vs.map some++aEH (N.length-as.length) none:=by unfold jJ;rw [hl]
 rw [hst]
 -- the box's address
 have own0:∀b,Ow (λa=>bx=some a) (vs.map some) (pV as) b->bx=some b:=λb z=>by
  rcases z with z | ⟨i,kk,xs,h1,h2⟩
  ·exact z
  obtain ⟨a,ws,q1,_,_,q4⟩:=re.own i kk xs h1;rw [h2] at q1;cases q1;exact q4.mp (aK0 h1)
 have fr:∀{H':Hp} {S':St} {E':En},Gs (λa=>bx=some a) H (vs.map some++aEH (N.length-as.length) none) (pV as++aEH (N.length-as.length) none) H' S' E'->∀b o,H b=some o->bx≠some b->H' b=some o:=λg b o h n=>g.keep b o h λz=>n (own0 b (ow0 b z));have fin:∀{r:RV} {xs:List T} {v:V} {H':Hp} {S':St} {E':En},vI as E'=some xs->Q' r xs->Gs (λa=>bx=some a) H (vs.map some++aEH (N.length-as.length) none) (pV as++aEH (N.length-as.length) none) H' S' E'->RE K (λa=>bx=some a) H' S' E'->
   ((∀a,fF H a->fF H' a)->RRv K H H' r v)->Q v H':=λ{r xs v H' S' E'} e q g re' hr=>by
  have hbx:∀a,bx=some a->∃ws,H' a=some (.lst ws)/\bW K H' (fF H') xs ws:=λa ha=>by
   unfold vI at e;cases qb:aA6 as with
   | none=>
    rw [qb] at e;cases e;rw [hbn qb] at ha;cases ha
   | some j=>
    rw [qb] at e;simp only at e;split at e
    ·rename_i ys hE;split at e
     ·cases e;rename_i hnl;obtain ⟨b,ws,h1,h2,h3,h4⟩:=re'.own j true xs hE;have:bx=some b:=h4.mp rfl;rw [ha] at this;cases this;exact ⟨ws,h2,bW.noL (λ_ z=>z) hnl h3⟩
     ·cases e
    ·cases e
  refine l r xs v H' q (fr g) hbx (hr λa ⟨ws,ha⟩=>?_)
  by_cases c:bx=some a
  ·obtain ⟨ws',h,_⟩:=hbx a c;exact ⟨ws',h⟩
  ·exact ⟨ws,fr g a _ ha c⟩
 refine ⟨_,_,_,re0,hF as Q' hS,⟨λσ' H' E' q g re'=>?_,λr E' v H' S' q g re' rr=>?_,λ_ _ _ z=>z.elim,λ_ _ _ z=>z.elim⟩⟩
 ·obtain ⟨xs,e,q⟩:=q.ex;exact fin e q g re' λ_=>rfl
 ·obtain ⟨xs,e,q⟩:=q.ex;cases r with
  | p t=>exact fin e q.2 g re' λh=>Rp.noL h q.1 rr
  | s i=>
   simp only at q;split at q
   ·rename_i ys hE;refine fin e q.2 g re' λh=>?_;obtain ⟨b,ws,h1,h2,h3,h4⟩:=re'.own i false ys hE;have rr':S'[i]? = some (some v):=rr;rw [rr'] at h1;cases h1;refine ⟨b,ws,rfl,?_,h2,bW.noL (λa z=>?_) q.1 h3⟩
    ·rcases g.new b (.inr ⟨i,false,ys,hE,rr'⟩) with z | z
     ·have:=h4.mpr (own0 b (ow0 b z));cases this
     ·exact z
    ·rcases z with z | z
     ·exact h a z
     ·exact ⟨ws,by rw [z];exact h2⟩
   ·rename_i t hE;obtain ⟨w,h1,h2⟩:=re'.pure i t hE;have rr':S'[i]? = some (some v):=rr;rw [rr'] at h1;cases h1;exact fin e q.2 g re' λh=>Rp.noL h q.1 h2
   ·exact q.elim
end
def mkV (E:En):List R->Option (List T)
 | []=>some []
 | r::rs=>match vl E r,mkV E rs with
  | some t,some ts=>some (t::ts)
  | _,_=>none
def aHO (E:En) (Q:R->En->Prop):RV->Prop
 | .v t=>Q (.p t) E
 | .l xs=>Q (.s E.length) (E++[some (.o false xs)])
def aAH (S:fR) (Fr:FA):FE:=λE Q=>Fr E λrs E1=>o1 (mkV E1 rs) λts=>S (ts.map A.v) λr _=>aHO E1 Q r
def aR4 (S:fR) (Fr:FA):FE:=λE Q=>Fr E λrs E1=>match rs with
 | .s j::rs=>(match E1[j]? with
  | some (some (.o k xs))=>cond (rs.all λr=>!(oG E1 r).contains j) (o1 (mkV E1 rs) λts=>S (.b xs::ts.map A.v) λr ys=>aHO (E1.set j (some (.o k ys))) Q r) False
  | _=>False)
 | _=>False
section
variable {K:W.Frag} {B:bAO->Prop} {H H':Hp} {S S':St} {E E':En} {σ:St}
theorem yD (re:RE K B H S E):∀{rs:List R} {vs:List V} {ts:List T},RRs K B H S E rs vs->mkV E rs=some ts->∀(O:bAO->Prop),(∀b,O b->Ow B S E b)->(∀r∈rs,∀j∈oG E r,∀a,S[j]? = some (some (.ref a))->¬O a)->bW K H O ts vs
 | [],_,_,h,e,_,_,_=>by cases e;exact h
 | r::rs,_,ts,⟨v,ws,e1,h1,h2⟩,e,O,hO,hu=>by
  cases q1:vl E r with
  | none=>simp only [mkV,q1] at e;cases e
  | some t=>
   cases q2:mkV E rs with
   | none=>simp only [mkV,q1,q2] at e;cases e
   | some us=>
    simp only [mkV,q1,q2] at e;cases e;exact ⟨v,ws,e1,pQ re h1 q1 O hO (hu r (by simp)),yD re h2 q2 O hO λr' hr=>hu r' (by simp [hr])⟩
theorem aKA:∀{ts:List T},pV (ts.map A.v)=ts.map λt=>some (U.p t)
 | []=>rfl
 | t::ts=>by simp [pV,aKA (ts:=ts)]
theorem rA (re:RE K B H S E) (re':RE K B H' S E') (hk:∀b o,H b=some o->¬Ow B S E b->H' b=some o) (hw:∀b,Ow B S E' b->Ow B S E b)
  (hE:∀(i:Nat) (k:Bool) (xs:List T),E'[i]? = some (some (.o k xs))->(E[i]? = some (some (.o k xs))/\∀a,S[i]? = some (some (.ref a))->H' a=H a)\/∀a ws,S[i]? = some (some (.ref a))->H' a=some (.lst ws)->bW K H' (fF H') xs ws)
  (hP:∀(i:Nat) (t:T),E'[i]? = some (some (.p t))->E[i]? = some (some (.p t)))
  {r:RV} {v:V} (rv:RRv K H H' r v) {Q:R->En->Prop} (q:aHO E' Q r) {Qv:VK} (lk:Lk K B H S E Q Qv):Qv v H':=by
 have kp:Kp (Ow B S E) (Ow B S E') H H':=⟨hk,λb z=>.inl (hw b z)⟩;cases r with
 | v t=>exact lk _ _ _ _ _ q ⟨kp,[],by simp⟩ re' (Rp.step (Kp.less λb z=>re.ow (hw b z)) rv)
 | l xs=>
  obtain ⟨a,ws,rfl,h1,h2,h3⟩:=rv;have nOw:¬Ow B S E' a:=λz=>re.nn h1 (hw a z);have nB:¬B a:=λz=>re.nn h1 (.inl z);have kp2:Kp (Ow B S E) (λb=>Ow B S E' b\/b=a) H H':=⟨hk,λb z=>by
   rcases z with z | z
   ·exact .inl (hw b z)
   ·exact .inr (by rw [z];exact h1)⟩
  obtain ⟨r1,r2⟩:=re'.push h2 nOw nB (λi t h=>by
    obtain ⟨w,q1,q2⟩:=re.pure i t (hP i t h);exact ⟨w,q1,q2.step kp2⟩) (λi k ys h=>by
    obtain ⟨b,us,q1,q2,q3,_⟩:=re'.own i k ys h;refine ⟨b,us,q1,q2,?_⟩;rcases hE i k ys h with ⟨z,zz⟩ | z
    ·obtain ⟨b',us',p1,p2,p3,_⟩:=re.own i k ys z;rw [q1] at p1;cases p1;have e:=zz b q1;rw [q2,p2] at e;cases e;exact p3.step kp2
    ·exact (z b us q1 q2).step (Kp.less λc hc=>by
      rcases hc with hc | hc
      ·exact re'.ow hc
      ·exact ⟨ws,by rw [hc];exact h2⟩)) (h3.step (Kp.less λb z=>by
    rcases z with z | z
    ·exact .inl (re.ow (hw b z))
    ·exact .inr z))
  refine lk _ _ _ _ _ q ⟨⟨hk,λb z=>?_⟩,[some (.ref a)],rfl⟩ r1 ?_
  ·rcases r2 b z with z | z
   ·exact .inl (hw b z)
   ·exact .inr (by rw [z];exact h1)
  ·show (S++[some (V.ref a)])[E'.length]? = _;rw [<-re'.len];simp
end
section
variable {X:Cx} {K:W.Frag} {pos:Pos} {e:Expr} {es:List Expr} {Fr:FA}
theorem zF {n:Nat} {S:fR} {σ:St} {H:Hp} {Q:VK} (h:aL K (aAH S Fr) σ H Q):uH (aK K S) [] E0 (cQ K n Fr) σ H Q:=by
 refine args (Fr:=Fr) h λB S' E rs vs H2 Q' hS re rr hn q lk=>?_;obtain ⟨ts,e1,q⟩:=q.ex;rw [aU7];have rp:=yD re rr e1 (λ_=>False) (λ_ z=>z.elim) (λ_ _ _ _ _ _ z=>z);have no:∀b,¬Ow (λa=>(none:Option bAO)=some a) (vs.map some) (ts.map λt=>some (U.p t)) b:=λb z=>by
  rcases z with z | ⟨i,k,xs,h1,_⟩
  ·cases z
  rw [aEO] at h1;cases q:ts[i]? with
  | none=>rw [q] at h1;cases h1
  | some t=>rw [q] at h1;cases h1
 refine ⟨ts.map A.v,_,none,?_,λ_=>rfl,q,λr xs v H' q2 fr _ rv=>?_⟩
 ·rw [aKA];refine ⟨by simp [rp.length],λi t h=>?_,λi k xs h=>?_,λi j k l xs ys a h _ _ _=>?_,λa z=>by cases z⟩
  ·rw [aEO] at h;cases q:ts[i]? with
   | none=>rw [q] at h;cases h
   | some u=>
    rw [q] at h;cases h;obtain ⟨v,h1,h2⟩:=rp.get q;exact ⟨v,by rw [aEO,h1];rfl,h2.step (Kp.less λb z=>no b z)⟩
  ·rw [aEO] at h;cases q:ts[i]? with
   | none=>rw [q] at h;cases h
   | some t=>rw [q] at h;cases h
  ·rw [aEO] at h;cases q:ts[i]? with
   | none=>rw [q] at h;cases h
   | some t=>rw [q] at h;cases h
 ·have same:∀b o,H2 b=some o->H' b=some o:=λb o z=>fr b o z (by intro z;cases z);exact rA re (re.kept same) (λb o z _=>same b o z) (λb z=>z) (λi k xs h=>.inl ⟨h,λa ha=>by
   obtain ⟨a',ws,h1,h2,_⟩:=re.own i k xs h;rw [ha] at h1;cases h1;rw [h2];exact same _ _ h2⟩) (λi t h=>h) rv q2 lk
theorem aF {n k j:Nat} {x:Str} {ps:List Str} {S:fR} {p:Pos} (F:Fn X.prog X.w X.K X.mg X.base k x ps (aK K S)) (hr:cU j X.A) (hk:k<=j) (hg:Gl X x) (ha:QA X (e::es) (cQ K n Fr)) (hdb:(x==("__debug__":Str))=false:=by decide)
  (hs:bB (e::es)=true:=by rfl):QE X (.Call (.Name x p) (e::es) [] pos) (aL K (aAH S Fr)):=(aH5 F hr hk hg ha hdb hs).le λ_ _ _ _ h=>zF h
theorem bL {n k j:Nat} {x:Str} {ps:List Str} {S:fR} {p:Pos} (F:Fn X.prog X.w X.K X.mg X.base k x ps (aK K S)) (hr:cU j X.A) (hk:k<=j) (hg:Gl X x) (ha:QA X (e::es) (cQ K n Fr)) (hdb:(x==("__debug__":Str))=false:=by decide)
  (hs:bB (e::es)=true:=by rfl):QE X (.Call (.Name x p) (e::es) [] pos) (aL K (aR4 S Fr)):=by
 refine (aH5 F hr hk hg ha hdb hs).le λσ H Q hl h=>args (Fr:=Fr) h λB S' E rs vs H2 Q' hS re rr hn q lk=>?_;rw [aU7];split at q
 ·rename_i jb rs';split at q
  ·rename_i kb xs hE;cases qc:(rs'.all λr=>!(oG E r).contains jb) with
   | false=>rw [qc] at q;exact q.elim
   | true=>
    rw [qc] at q;obtain ⟨ts,e1,q⟩:=o1.ex q;obtain ⟨v0,ws,e2,h0,h2⟩:=rr;subst e2;have h0':S'[jb]? = some (some v0):=h0;obtain ⟨a0,us,k1,k2,k3,k4⟩:=re.own jb kb xs hE;rw [h0'] at k1;cases k1;have ow0:Ow B S' E a0:=.inr ⟨jb,kb,xs,hE,h0'⟩;have rp:=yD re h2 e1 (λb=>b=a0) (λb z=>by rw [z];exact ow0) (λr hr m hm a hma z=>by
     subst z;have c:=aWN.mp qc r hr;have:m=jb:=by
      cases r with
      | p _=>simp [oG] at hm
      | s l=>
       cases ql:E[l]? with
       | none=>simp [oG,ql] at hm
       | some u=>
        cases u with
        | none=>simp [oG,ql] at hm
        | some u=>
         cases u with
         | p _=>simp [oG,ql] at hm
         | o kk zs=>
          simp [oG,ql] at hm;subst hm;exact re.inj _ _ kk kb zs xs a ql hE hma h0'
     subst this;have hc:(oG E r).contains m=true:=by simpa using hm
     rw [hc] at c;cases c)
    have get:∀{i:Nat} {u:U},(some (U.o true xs)::ts.map λt=>some (U.p t))[i]? = some (some u)->(i=0/\u = .o true xs)\/∃m t,i=m+1/\ts[m]? = some t/\u = .p t:=λ{i u} h=>by
     cases i with
     | zero=>simp at h;exact .inl ⟨rfl,h.symm⟩
     | succ m=>
      rw [List.getElem?_cons_succ,aEO] at h;cases q:ts[m]? with
      | none=>rw [q] at h;cases h
      | some t=>rw [q] at h;cases h;exact .inr ⟨m,t,rfl,q,rfl⟩
    have ow:∀b,Ow (λa=>some a0=some a) ((V.ref a0::ws).map some) (some (U.o true xs)::ts.map λt=>some (U.p t)) b->b=a0:=λb z=>by
     rcases z with z | ⟨i,k,ys,h1,h3⟩
     ·cases z;rfl
     rcases get h1 with ⟨c,z⟩ | ⟨m,t,_,_,z⟩
     ·subst c;simp at h3;exact h3.symm
     ·cases z
    have nb:aA6 (A.b xs::ts.map A.v)≠none:=by intro z;cases z
    refine ⟨A.b xs::ts.map A.v,_,some a0,?_,λz=>absurd z nb,q,λr ys v H' q2 fr bxk rv=>?_⟩
    ·have ee:pV (A.b xs::ts.map A.v)=some (U.o true xs)::ts.map λt=>some (U.p t):=by simp [pV,aKA]
     rw [ee];refine ⟨by simp [rp.length],λi t h=>?_,λi k zs h=>?_,λi j k l zs ys a h1 h3 _ _=>?_,λa z=>by cases z;exact ⟨us,k2⟩⟩
     ·rcases get h with ⟨_,z⟩ | ⟨m,t',e,q3,z⟩
      ·cases z
      ·cases z;subst e;obtain ⟨v,h1,h2⟩:=rp.get q3;exact ⟨v,by simp [h1],h2.step (Kp.less λb z=>ow b z)⟩
     ·rcases get h with ⟨c,z⟩ | ⟨m,t',e,q3,z⟩
      ·cases z;subst c;exact ⟨a0,us,by simp,k2,k3.step (Kp.less λb z=>by rw [ow b z];exact ow0),⟨λ_=>rfl,λ_=>rfl⟩⟩
      ·cases z
     ·rcases get h1 with ⟨c,z⟩ | ⟨m,t',e,q3,z⟩
      ·rcases get h3 with ⟨c',z'⟩ | ⟨m,t',e,q3,z'⟩
       ·rw [c,c']
       ·cases z'
      ·cases z
    ·obtain ⟨ws',b1,b2⟩:=bxk a0 rfl;have hk:∀b o,H2 b=some o->¬Ow B S' E b->H' b=some o:=λb o z n=>fr b o z (by intro c;cases c;exact n ow0);have lts:∀b,Ow B S' E b->fF H' b:=λb z=>by
      by_cases c:b=a0
      ·subst c;exact ⟨ws',b1⟩
      ·obtain ⟨us',e⟩:=re.ow z;exact ⟨us',fr b _ e (by intro z;cases z;exact c rfl)⟩
     have getE:∀{i:Nat} {u:U},(E.set jb (some (.o kb ys)))[i]? = some (some u)->(i=jb/\u = .o kb ys)\/(i≠jb/\E[i]? = some (some u)):=λ{i u} h=>by
      by_cases c:i=jb
      ·subst c;rw [aVH (aA8.mp hE).1] at h;cases h;exact .inl ⟨rfl,rfl⟩
      ·rw [aLL (λz=>c z.symm)] at h;exact .inr ⟨c,h⟩
     have kp:Kp (Ow B S' E) (Ow B S' E) H2 H':=⟨hk,λb z=>.inl z⟩;have owE:∀b,Ow B S' (E.set jb (some (.o kb ys))) b->Ow B S' E b:=λb z=>by
      rcases z with z | ⟨i,k,zs,z1,z2⟩
      ·exact .inl z
      rcases getE z1 with ⟨c,z⟩ | ⟨c,z⟩
      ·subst c;exact .inr ⟨_,kb,xs,hE,z2⟩
      ·exact .inr ⟨i,k,zs,z,z2⟩
     have re':RE K B H' S' (E.set jb (some (.o kb ys))):=by
      refine re.step hk (by simp) (λi t h=>?_) (λi k zs h=>?_) (λa z=>?_)
      ·rcases getE h with ⟨_,z⟩ | ⟨_,z⟩
       ·cases z
       ·exact z
      ·rcases getE h with ⟨c,z⟩ | ⟨c,z⟩
       ·cases z;subst c;refine ⟨xs,hE,λa ha=>?_⟩;rw [h0'] at ha;cases ha;exact ⟨ws',b1,b2.step (Kp.less lts)⟩
       ·refine ⟨zs,z,λa ha=>?_⟩;obtain ⟨a',us',p1,p2,p3,_⟩:=re.own i k zs z;rw [ha] at p1;cases p1;have na:a≠a0:=λw=>c (re.inj i jb k kb zs xs a0 z hE (by rw [<-w];exact ha) h0');exact ⟨us',fr a _ p2 (by intro w;cases w;exact na rfl),p3.step kp⟩
      ·exact lts a (.inl z)
     refine rA re re' hk owE (λi k zs h=>?_) (λi t h=>?_) rv q2 lk
     ·rcases getE h with ⟨c,z⟩ | ⟨c,z⟩
      ·cases z
       right
       intro a us2 ha hu;subst c;rw [h0'] at ha;cases ha;rw [b1] at hu;cases hu;exact b2
      ·left
       refine ⟨z,λa ha=>?_⟩;obtain ⟨a',us',p1,p2,p3,_⟩:=re.own i k zs z;rw [ha] at p1;cases p1;have na:a≠a0:=λw=>c (re.inj i jb k kb zs xs a0 z hE (by rw [<-w];exact ha) h0');rw [p2];exact fr a _ p2 (by intro w;cases w;exact na rfl)
     ·rcases getE h with ⟨_,z⟩ | ⟨_,z⟩
      ·cases z
      ·exact z
  ·exact q.elim
 ·exact q.elim
end
end L2
namespace L2
open PySem PySem.Spec PyProof.Rows
def tR (bk:Bool):Option (Option U)->Option U
 | some (some (.p t))=>some (.p t)
 | some (some (.o _ xs))=>if bk=true then some (.o true xs) else some (.p (.lst xs))
 | _=>none
def gY (t:Nat) (cap:List (Nat×Bool)) (E:En):En:=aEH t none++cap.map λk=>tR k.2 E[k.1]?
def mZ:List (Nat×Bool)->Option (Nat×Nat)
 | []=>none
 | (k,true)::_=>some (0,k)
 | (_,false)::r=>(mZ r).map λx=>(x.1+1,x.2)
def l8 (cap:List (Nat×Bool)):Bool:=Nat.ble (cap.filter (·.2)).length 1
def aEN (t:Nat) (cap:List (Nat×Bool)) (Ein E:En):Option En:=match mZ cap with
 | none=>some E
 | some (j,k)=>match E[k]?,Ein[t+j]? with
  | some (some (.o b _)),some (some (.o true ys))=>if cC ys=true then some (E.set k (some (.o b ys))) else none
  | some (some (.p _)),_=>some E
  | _,_=>none
def jO (g:FG) (Fe:FE):List T->En->(En->Prop)->Prop
 | [],E,Q=>Q E
 | x::xs,E,Q=>g x E λE2=>Fe E2 λr E3=>match r with
  | .p t=>(match E3[E.length-1]? with
   | some (some (.o false acc))=>acc.length<1000/\jO g Fe xs ((E3.set (E.length-1) (some (.o false (acc++[t])))).take E.length) Q
   | _=>False)
  | .s _=>False
def aH2 (t:Nat) (cap:List (Nat×Bool)) (I:FI) (g:FG) (Fe:FE):FE:=λE Q=>I E λitems us E1=>cap.all (λk=>!(k.2&&us.contains k.1))=true/\
 jO g Fe items (gY t cap E1++[some (.o false [])]) λEin=>match Ein[t+cap.length]? with
  | some (some (.o false zs))=>cC zs=true/\o1 (aEN t cap Ein E1) λE2=>Q (.s E2.length) (E2++[some (.o false zs)])
  | _=>False
section
variable {K:W.Frag} {B:bAO->Prop} {H H':Hp} {S S':St} {E E':En} {σ:St}
theorem nP {t:Nat} {cap:List (Nat×Bool)} {i:Nat} {u:U} (h:(gY t cap E)[i]? = some (some u)):∃j k b,i=t+j/\cap[j]? = some (k,b)/\tR b E[k]? = some u:=by
 unfold gY at h;rcases aVS i t with c | c
 ·rw [aE9 (by simpa using c)] at h;have:=aIR h;rw [List.mem_replicate] at this;cases this.2
 ·rw [aUO (by simpa using c),aV2,aEO] at h;cases q:cap[i-t]? with
  | none=>rw [q] at h;cases h
  | some x=>
   rw [q] at h;exact ⟨i-t,x.1,x.2,by omega,q,by simpa using h⟩
theorem nK {t:Nat} {cap:List (Nat×Bool)} {j k:Nat} {b:Bool} (h:cap[j]? = some (k,b)):(dH t (cap.map (·.1)) σ)[t+j]? = some ((σ[k]?).join):=by
 unfold dH;rw [aUO (by simp)];simp [h]
theorem sS:∀{cap:List (Nat×Bool)} {j k:Nat},mZ cap=some (j,k)->cap[j]? = some (k,true)
 | (k,true)::r,_,_,h=>by cases h;rfl
 | (m,false)::r,j,k,h=>by
  cases q:mZ r with
  | none=>rw [mZ,q] at h;cases h
  | some x=>
   rw [mZ,q] at h;cases h
   simpa using sS (j:=x.1) (k:=x.2) q
theorem eF:∀{cap:List (Nat×Bool)} {j k:Nat},l8 cap=true->cap[j]? = some (k,true)->mZ cap=some (j,k)
 | [],j,k,_,h=>by simp at h
 | (m,true)::r,0,k,_,h=>by simp at h;subst h;rfl
 | (m,true)::r,j+1,k,ho,h=>by
  have h':r[j]? = some (k,true):=by simpa using h
  have:(k,true)∈r.filter (·.2):=bAC.mpr ⟨aIR h',rfl⟩;have hl:0<(r.filter (·.2)).length:=List.length_pos_of_mem this;unfold l8 at ho;rw [List.filter_cons_of_pos (by rfl)] at ho;have:=aYT ho;simp only [aOW] at this;omega
 | (m,false)::r,0,k,_,h=>by simp at h
 | (m,false)::r,j+1,k,ho,h=>by
  have h':r[j]? = some (k,true):=by simpa using h
  have ho':l8 r=true:=by
   unfold l8 at ho ⊢;rw [List.filter_cons_of_neg (by simp)] at ho;exact ho
  rw [mZ,eF ho' h'];rfl
end
def Dat (i:Nat) (kvs:List (Key×V)) (σ:St) (H:Hp):Prop:=∃p,σ[i]? = some (some (.ref p))/\H p=some (.dK kvs)
abbrev DD:=Option (Nat×List (Key×V))
def qA (d:DD) (σ:St) (H:Hp):Prop:=∀x,d=some x->Dat x.1 x.2 σ H
theorem qA.same {d:DD} {σ:St} {H H':Hp} (h:qA d σ H) (k:∀b o,H b=some o->H' b=some o):qA d σ H':=λx e=>let ⟨p,h1,h2⟩:=h x e;⟨p,h1,k _ _ h2⟩
theorem qA.kp {d:DD} {K:W.Frag} {B O:bAO->Prop} {S σ:St} {E:En} {H H':Hp} (h:qA d σ H) (re:RE K B H S E) (k:Kp (Ow B S E) O H H'):qA d σ H':=λx e=>
 let ⟨p,h1,h2⟩:=h x e;⟨p,h1,k.keep _ _ h2 λz=>by obtain ⟨vs,e⟩:=re.ow z;rw [h2] at e;cases e⟩
def aH4 (d:DD) (K:W.Frag) (F:FE):TE:=λσ H Q=>qA d σ H/\aL K F σ H Q
def aO2 (d:DD) (K:W.Frag) (g:FG):TG:=λv σ H Q=>qA d σ H/\sK K g v σ H λσ' H'=>qA d σ' H'->Q σ' H'
section
variable {X:Cx} {K:W.Frag} {pos:Pos} {Fe:FE} {g:FG} {I:FI}
theorem QG.gd {e:Expr} (h:QG X e (sK K g)):QG X e (aO2 none K g):=h.le λv σ H Q _ ⟨_,B,τ,E,t,Q',re,rp,hF,l⟩=>⟨B,τ,E,t,Q',re,rp,hF,λσ' H' E' a b c d=>l σ' H' E' a b c d λ_ z=>by cases z⟩
theorem QE.ed {e:Expr} (h:QE X e (aL K Fe)):QE X e (aH4 none K Fe):=h.le λ_ _ _ _ z=>z.2
theorem aAK {d d':DD} {scope:bA9} {N':List Str} {cap:List (Nat×Bool)} {t:Nat} (S:cW X N' scope t (cap.map (·.1))) (ho:l8 cap=true) (iP:(cap.map (·.1)).Nodup) {σ:St} {H:Hp} {Q:VK} (hl:σ.length=X.N.length) (hdd:∀H,qA d σ H->qA d' (dH t (cap.map (·.1)) σ) H)
  (h:aH4 d K (aH2 t cap I g Fe) σ H Q):yW t (cap.map (·.1)) (qH K I) (aO2 d' K g) (aH4 d' K Fe) σ H Q:=by
 obtain ⟨dt,B,S0,E,Q',hS,re,hF,lk⟩:=h;refine ⟨B,S0,E,_,hS,re,hF,λJ items us E1 H1 S1 gd q g1 re1 ok husO hgd D hD=>?_⟩;obtain ⟨hus,q⟩:=q;obtain ⟨τ0,hS0⟩:=hS;obtain ⟨τ1,hS1⟩:=g1.pre;have hS1':∃τ,S1=σ++τ:=⟨τ0++τ1,by rw [hS1,hS0,aEE]⟩;have atσ:∀{j k:Nat} {b:Bool} {v:V},cap[j]? = some (k,b)->S1[k]? = some (some v)->σ[k]? = some (some v):=λ{j k b v} hj hv=>by
  obtain ⟨x,_,hx,_⟩:=S.caps j k (by rw [aEO,hj];rfl);have hk:k<σ.length:=by rw [hl];exact (aA8.mp hx).1
  obtain ⟨τ,rfl⟩:=hS1';rw [aE9 hk] at hv;exact hv
 have atC:∀{j k:Nat} {b:Bool} {v:V},cap[j]? = some (k,b)->S1[k]? = some (some v)->(dH t (cap.map (·.1)) σ)[t+j]? = some (some v):=λ{j k b v} hj hv=>by rw [nK hj,atσ hj hv];rfl
 have backC:∀{j k:Nat} {b:Bool} {v:V},cap[j]? = some (k,b)->(dH t (cap.map (·.1)) σ)[t+j]? = some (some v)->S1[k]? = some (some v):=λ{j k b v} hj hv=>by
  rw [nK hj] at hv;have:σ[k]? = some (some v):=by
   cases z:σ[k]? with
   | none=>rw [z] at hv;cases hv
   | some y=>rw [z] at hv;simpa using hv
  exact dM hS1' this
 obtain ⟨bx,hbx⟩:∃bx:Option bAO,∀a:bAO,bx=some a↔∃(j k:Nat) (kk:Bool) (xs:List T),cap[j]? = some (k,true)/\E1[k]? = some (some (.o kk xs))/\S1[k]? = some (some (.ref a)):=by
  by_cases hex:∃(a:bAO) (j k:Nat) (kk:Bool) (xs:List T),cap[j]? = some (k,true)/\E1[k]? = some (some (.o kk xs))/\S1[k]? = some (some (.ref a))
  ·obtain ⟨a,j,k,kk,xs,h1,h2,h3⟩:=hex;refine ⟨some a,λa'=>⟨λz=>(by cases z;exact ⟨j,k,kk,xs,h1,h2,h3⟩),λ⟨j',k',kk',xs',p1,p2,p3⟩=>?_⟩⟩;have e1:=eF ho h1;have e2:=eF ho p1;rw [e1] at e2;cases e2;rw [h3] at p3;cases p3;rfl
  ·exact ⟨none,λa=>⟨λz=>(by cases z),λz=>absurd ⟨a,z⟩ hex⟩⟩
 have bxOw:∀a,bx=some a->Ow B S1 E1 a:=λa z=>by
  obtain ⟨j,k,kk,xs,_,h2,h3⟩:=(hbx a).mp z;exact .inr ⟨k,kk,xs,h2,h3⟩
 -- an own list of the block is the box
 have capO:∀{i:Nat} {k:Bool} {xs:List T},(gY t cap E1)[i]? = some (some (.o k xs))->∃j m kk,i=t+j/\cap[j]? = some (m,true)/\E1[m]? = some (some (.o kk xs))/\k=true:=λ{i k xs} h=>by
  obtain ⟨j,m,c,e1,e2,e3⟩:=nP h;refine ⟨j,m,?_⟩;cases qE:E1[m]? with
  | none=>rw [qE] at e3;cases e3
  | some u=>
   cases u with
   | none=>rw [qE] at e3;cases e3
   | some u=>
    cases u with
    | p _=>rw [qE] at e3;cases e3
    | o kk ys=>
     rw [qE] at e3;cases c
     ·simp [tR] at e3
     ·simp [tR] at e3;obtain ⟨e4,e5⟩:=e3;exact ⟨kk,e1,e2,by rw [e5],e4⟩
 have owIn:∀b,Ow (λa=>bx=some a) (dH t (cap.map (·.1)) σ) (gY t cap E1) b->bx=some b:=λb z=>by
  rcases z with z | ⟨i,k,xs,h1,h2⟩
  ·exact z
  obtain ⟨j,m,kk,e1,e2,e3,_⟩:=capO h1;subst e1;exact (hbx b).mpr ⟨j,m,kk,xs,e2,e3,backC e2 h2⟩
 have kl:Kp (Ow B S1 E1) (Ow (λa=>bx=some a) (dH t (cap.map (·.1)) σ) (gY t cap E1)) H1 H1:=Kp.less λb z=>bxOw b (owIn b z);have reIn:RE K (λa=>bx=some a) H1 (dH t (cap.map (·.1)) σ) (gY t cap E1):=by
  refine ⟨by simp [dH,gY],λi u h=>?_,λi k xs h=>?_,λi j k l xs ys a h1 h2 h3 h4=>?_,λa z=>re1.ow (bxOw a z)⟩
  ·obtain ⟨j,m,c,e1,e2,e3⟩:=nP h;subst e1;cases qE:E1[m]? with
   | none=>rw [qE] at e3;cases e3
   | some w=>
    cases w with
    | none=>rw [qE] at e3;cases e3
    | some w=>
     cases w with
     | p w=>
      rw [qE] at e3;cases e3;obtain ⟨v,h1,h2⟩:=re1.pure m _ qE;exact ⟨v,atC e2 h1,h2.step kl⟩
     | o kk ys=>
      rw [qE] at e3;cases c
      ·simp [tR] at e3;subst e3;obtain ⟨a,vs,h1,h2,h3,h4⟩:=re1.own m kk ys qE;refine ⟨_,atC e2 h1,a,vs,rfl,.inl ⟨λz=>?_,.inl h2⟩,h3.step kl⟩;obtain ⟨j',k',kk',xs',p1,p2,p3⟩:=(hbx a).mp (owIn a z);have e4:=re1.inj m k' kk kk' ys xs' a qE p2 h1 p3;subst e4;have lt1:j<(cap.map (·.1)).length:=by rw [aG5];exact (aA8.mp e2).1
       have lt2:j'<(cap.map (·.1)).length:=by rw [aG5];exact (aA8.mp p1).1
       have:j=j':=(aY8 lt1 iP).mp (by rw [aEO,aEO,e2,p1];rfl);subst this;rw [e2] at p1;cases p1
      ·simp [tR] at e3
  ·obtain ⟨j,m,kk,e1,e2,e3,e4⟩:=capO h;subst e1;subst e4;obtain ⟨a,vs,h1,h2,h3,h4⟩:=re1.own m kk _ e3;exact ⟨a,vs,atC e2 h1,h2,h3.step kl,⟨λ_=>(hbx a).mpr ⟨j,m,kk,_,e2,e3,h1⟩,λ_=>rfl⟩⟩
  ·obtain ⟨j1,m1,k1,e1,e2,_,_⟩:=capO h1;obtain ⟨j2,m2,k2,e3,e4,_,_⟩:=capO h2;have z1:=eF ho e2;have z2:=eF ho e4;rw [z1] at z2;cases z2;rw [e1,e3]
 -- the accumulator gets a place
 obtain ⟨gD,reD⟩:=reIn.lst (ts:=[]) (vs:=[]) hD rfl;have gd0:gd (upd H1 D (.lst [])) (Ow (λa=>bx=some a) (dH t (cap.map (·.1)) σ++[some (.ref D)]) (gY t cap E1++[some (.o false [])])):=by
  refine ok.keep _ _ _ _ gD.kp (hgd _ (λb z=>bxOw b (owIn b z)) λj hj a ha z=>?_);obtain ⟨j',k',kk',xs',p1,p2,p3⟩:=(hbx a).mp (owIn a z);obtain ⟨kj,xj,qj⟩:=husO j hj;have ej:=re1.inj j k' kj kk' xj xs' a qj p2 ha p3;subst ej;have:=aWN.mp hus (j,true) (aIR p1);simp [hj] at this
 have hn:(dH t (cap.map (·.1)) σ).length=t+cap.length:=by simp [dH]
 have hnE:(gY t cap E1++[some (U.o false [])]).length=t+cap.length+1:=by simp [gY];omega
 -- the turns
 refine ⟨λi m σ' H'=>m=items.length-i/\i<=items.length/\∃E',jO g Fe (items.drop i) E' (λEin=>match Ein[t+cap.length]? with
   | some (some (.o false zs))=>cC zs=true/\o1 (aEN t cap Ein E1) λE2=>Q' (.s E2.length) (E2++[some (.o false zs)])
   | _=>False)/\σ'.length=t+cap.length/\E'.length=t+cap.length+1/\RE K (λa=>bx=some a) H' (σ'++[some (.ref D)]) E'/\
   Gs (λa=>bx=some a) (upd H1 D (.lst [])) (dH t (cap.map (·.1)) σ++[some (.ref D)]) (gY t cap E1++[some (.o false [])]) H' (σ'++[some (.ref D)]) E'/\gd H' (Ow (λa=>bx=some a) (σ'++[some (.ref D)]) E')/\qA d' σ' H',
  ⟨_,rfl,aB7 _,_,q,hn,hnE,reD,Kp.refl _ _,gd0,(hdd _ (dt.kp re g1.kp)).kp reIn gD.kp⟩,?_⟩
 rintro i m σ2 H2 ⟨rfl,hi',E3,q3,hl3,hE3,re3,g3,gd3,dt3⟩;rcases aVS i items.length with hlt | hge
 ·have hd:items.drop i=items[i]::items.drop (i+1):=aVT hlt;rw [hd] at q3;refine .inr ⟨ok.go i H2 _ gd3 hlt,λx H4 y=>?_⟩;obtain ⟨k4,s4,rp⟩:=ok.yld i H2 _ x H4 _ gd3 (aCP hlt) (λa z=>by obtain ⟨vs,e⟩:=re3.ow z;rw [e];intro z;cases z) y;have re4:=re3.kept s4;have gd4:=ok.keep _ _ _ _ k4 gd3;refine ⟨dt3.same s4,_,[some (.ref D)],E3,_,_,re4,rp,q3,λσ5 H5 E5 q5 g5 re5 hl5 dt5=>?_⟩;have hE5:E5.length=t+cap.length+1:=by rw [<-re5.len];simp [hl5,hl3]
  refine ⟨dt5,_,σ5++[some (.ref D)],E5,_,⟨_,rfl⟩,re5,q5,λr E6 v H6 S6 q6 g6 re6 rr6=>?_⟩;cases r with
  | s _=>exact q6.elim
  | p u=>
   simp only at q6;have hlast:E3.length-1=t+cap.length:=by omega
   rw [hlast] at q6;split at q6
   ·rename_i acc hacc;obtain ⟨hlen,q6⟩:=q6;obtain ⟨a6,ws,p1,p2,p3,p4⟩:=re6.own _ _ _ hacc;have hS6:S6[t+cap.length]? = some (some (.ref D)):=dM g6.pre (by rw [aUO (by omega)];simp [hl5,hl3]);rw [hS6] at p1;cases p1;obtain ⟨g7,re7⟩:=re6.put (ys:=acc++[u]) (ws:=ws++[v]) hacc hS6 (p3.append ⟨v,[],rfl,rr6,rfl⟩);obtain ⟨re8,ow8⟩:=re7.cut (E:=E5) (σ:=σ5++[some (.ref D)]) (g6.trans g7).pre re5.len;have eE:E5.length=E3.length:=by omega
    rw [eE] at re8 ow8;have gg:Gs (λa=>bx=some a) H4 (σ2++[some (.ref D)]) E3 (upd H6 D (.lst (ws++[v]))) (σ5++[some (.ref D)]) ((E6.set (t+cap.length) (some (.o false (acc++[u])))).take E3.length):=(g5.trans (g6.trans g7).kp).trans (Kp.less ow8);refine ⟨ws,p2,by rw [p3.length];exact b8 (aVY hlen),items.length-(i+1),by omega,rfl,hlt,_,q6,by omega,?_,re8,(g3.trans k4).trans gg,ok.keep _ _ _ _ gg gd4,(dt5.kp re5 g6.kp).kp re6 g7.kp⟩;rw [aNQ,aXN];have:E5.length<=E6.length:=by
     obtain ⟨τ6,e6⟩:=g6.pre;rw [<-re5.len,<-re6.len,e6];simp
    omega
   ·exact q6.elim
 ·have ei:i=items.length:=by omega
  subst ei;rw [aYD] at q3;refine .inl ⟨ok.stop H2 _ gd3,?_⟩;have q3':(match E3[t+cap.length]? with
   | some (some (.o false zs))=>cC zs=true/\o1 (aEN t cap E3 E1) λE2=>Q' (.s E2.length) (E2++[some (.o false zs)])
   | _=>False):=q3
  split at q3'
  ·rename_i zs hzs;obtain ⟨hnl,q3'⟩:=q3';obtain ⟨E2,e2,q3'⟩:=q3'.ex;obtain ⟨aD,ws,p1,p2,p3,p4⟩:=re3.own _ _ _ hzs;have hSD:(σ2++[some (V.ref D)])[t+cap.length]? = some (some (.ref D)):=by rw [aUO (by omega)];simp [hl3]
   rw [hSD] at p1;cases p1
   -- what is kept of the heap around
   have ow0:∀b,Ow (λa=>bx=some a) (dH t (cap.map (·.1)) σ++[some (.ref D)]) (gY t cap E1++[some (.o false [])]) b->bx=some b\/b=D:=λb z=>by
    rcases gD.kp.new b z with z | z
    ·exact .inl (owIn b z)
    ·rcases reD.ow (by assumption) with ⟨us',hu⟩
     by_cases c:b=D
     ·exact .inr c
     ·rw [aS c,z] at hu;cases hu
   have kept:∀b o,H1 b=some o->bx≠some b->H2 b=some o:=λb o e n=>by
    refine g3.keep b o (by rw [aS (aQ e hD)];exact e) λz=>?_;rcases ow0 b z with z | z
    ·exact n z
    ·exact aQ e hD z
   have hk:∀b o,H1 b=some o->¬Ow B S1 E1 b->H2 b=some o:=λb o e n=>kept b o e λz=>n (bxOw b z);have nD:H1 D=none:=hD;have lk1:=lk.step g1
   -- the names around
   have fin:∀{E2:En},RE K B H2 S1 E2->(∀b,Ow B S1 E2 b->Ow B S1 E1 b)->
     (∀(i:Nat) (k:Bool) (xs:List T),E2[i]? = some (some (.o k xs))->(E1[i]? = some (some (.o k xs))/\∀a,S1[i]? = some (some (.ref a))->H2 a=H1 a)\/∀a ws,S1[i]? = some (some (.ref a))->H2 a=some (.lst ws)->bW K H2 (fF H2) xs ws)->
     (∀(i:Nat) (u:T),E2[i]? = some (some (.p u))->E1[i]? = some (some (.p u)))->Q' (.s E2.length) (E2++[some (.o false zs)])->Q (.ref D) H2:=λ{E2} re' hw hE hP q=>by
    refine rA re1 re' hk hw hE hP (r:=.l zs) ⟨D,ws,rfl,hD,p2,bW.noL (λa z=>?_) hnl p3⟩ q lk1;rcases z with ⟨us',z⟩ | z
    ·by_cases c:bx=some a
     ·exact re3.ow (.inl c)
     ·exact ⟨us',kept a _ z c⟩
    ·exact ⟨ws,by rw [z];exact p2⟩
   unfold aEN at e2;cases qb:mZ cap with
   | none=>
    rw [qb] at e2;cases e2;have nb:∀b,bx≠some b:=λb z=>by
     obtain ⟨j,k,kk,xs,h1,_⟩:=(hbx b).mp z;rw [eF ho h1] at qb;cases qb
    have same:∀b o,H1 b=some o->H2 b=some o:=λb o e=>kept b o e (nb b);exact fin (re1.kept same) (λb z=>z) (λi k xs h=>.inl ⟨h,λa ha=>by
     obtain ⟨a',us',h1,h2,_⟩:=re1.own i k xs h;rw [ha] at h1;cases h1;rw [h2];exact same _ _ h2⟩) (λi u h=>h) q3'
   | some jk=>
    obtain ⟨j,k⟩:=jk;rw [qb] at e2;have hj:=sS qb;simp only at e2;split at e2
    ·rename_i kb xs0 ys hE1 hEi;split at e2
     ·cases e2;rename_i hny;obtain ⟨a0,us0,h1,h2,h3,h4⟩:=re1.own k kb xs0 hE1;have hbx0:bx=some a0:=(hbx a0).mpr ⟨j,k,kb,xs0,hj,hE1,h1⟩;obtain ⟨a',us1,r1,r2,r3,r4⟩:=re3.own _ true ys hEi;have:bx=some a':=r4.mp rfl;rw [hbx0] at this;cases this;have ow1:Ow B S1 E1 a0:=.inr ⟨k,kb,xs0,hE1,h1⟩;have lts:∀b,Ow B S1 E1 b->fF H2 b:=λb z=>by
       by_cases c:bx=some b
       ·rw [hbx0] at c;cases c;exact ⟨us1,r2⟩
       ·obtain ⟨us',e⟩:=re1.ow z;exact ⟨us',kept b _ e c⟩
      have cont:bW K H2 (fF H2) ys us1:=bW.noL (λ_ z=>z) hny r3;have getE:∀{i:Nat} {u:U},(E1.set k (some (.o kb ys)))[i]? = some (some u)->(i=k/\u = .o kb ys)\/(i≠k/\E1[i]? = some (some u)):=λ{i u} h=>by
       by_cases c:i=k
       ·subst c;rw [aVH (aA8.mp hE1).1] at h;cases h;exact .inl ⟨rfl,rfl⟩
       ·rw [aLL (λz=>c z.symm)] at h;exact .inr ⟨c,h⟩
      have nk:∀{i:Nat} {l:Bool} {zs':List T} {a:bAO},i≠k->E1[i]? = some (some (.o l zs'))->S1[i]? = some (some (.ref a))->bx≠some a:=λ{i l zs' a} c z ha w=>by
       rw [hbx0] at w;cases w;exact c (re1.inj i k l kb zs' xs0 _ z hE1 ha h1)
      have owE:∀b,Ow B S1 (E1.set k (some (.o kb ys))) b->Ow B S1 E1 b:=λb z=>by
       rcases z with z | ⟨i,l,zs',z1,z2⟩
       ·exact .inl z
       rcases getE z1 with ⟨c,z⟩ | ⟨c,z⟩
       ·subst c;exact .inr ⟨_,kb,xs0,hE1,z2⟩
       ·exact .inr ⟨i,l,zs',z,z2⟩
      have kp:Kp (Ow B S1 E1) (Ow B S1 E1) H1 H2:=⟨hk,λb z=>.inl z⟩;refine fin (re1.step hk (by simp) (λi u h=>?_) (λi l zs' h=>?_) (λa z=>lts a (.inl z))) owE (λi l zs' h=>?_) (λi u h=>?_) q3'
      ·rcases getE h with ⟨_,z⟩ | ⟨_,z⟩
       ·cases z
       ·exact z
      ·rcases getE h with ⟨c,z⟩ | ⟨c,z⟩
       ·cases z;subst c;refine ⟨xs0,hE1,λa ha=>?_⟩;rw [h1] at ha;cases ha;exact ⟨us1,r2,cont.step (Kp.less lts)⟩
       ·refine ⟨zs',z,λa ha=>?_⟩;obtain ⟨a',us',p1',p2',p3',_⟩:=re1.own i l zs' z;rw [ha] at p1';cases p1';exact ⟨us',kept a _ p2' (nk c z ha),p3'.step kp⟩
      ·rcases getE h with ⟨c,z⟩ | ⟨c,z⟩
       ·cases z;subst c
        right
        intro a us2 ha hu;rw [h1] at ha;cases ha;rw [r2] at hu;cases hu;exact cont
       ·left
        refine ⟨z,λa ha=>?_⟩;obtain ⟨a',us',p1',p2',p3',_⟩:=re1.own i l zs' z;rw [ha] at p1';cases p1';rw [p2'];exact kept a _ p2' (nk c z ha)
      ·rcases getE h with ⟨_,z⟩ | ⟨_,z⟩
       ·cases z
       ·exact z
     ·cases e2
    ·rename_i tp hE1;cases e2;have nb:∀b,bx≠some b:=λb z=>by
      obtain ⟨j',k',kk,xs,h1,h2,_⟩:=(hbx b).mp z;rw [eF ho h1] at qb;cases qb;rw [hE1] at h2;cases h2
     have same:∀b o,H1 b=some o->H2 b=some o:=λb o e=>kept b o e (nb b);exact fin (re1.kept same) (λb z=>z) (λi k xs h=>.inl ⟨h,λa ha=>by
      obtain ⟨a',us',h1,h2,_⟩:=re1.own i k xs h;rw [ha] at h1;cases h1;rw [h2];exact same _ _ h2⟩) (λi u h=>h) q3'
    ·cases e2
  ·exact q3'.elim
theorem nL {target elt iter:Expr} {scope:bA9} {N':List Str} {cap:List (Nat×Bool)} {t:Nat} (hc:X.calm=true) (S:cW X N' scope t (cap.map (·.1))) (ho:l8 cap=true) (iP:(cap.map (·.1)).Nodup) (hi:QI X target iter (qH K I))
  (hg:∀C s3 H3 fp,QG (eJ X N' scope C s3 H3 fp) target (sK K g)) (he:∀C s3 H3 fp,QE (eJ X N' scope C s3 H3 fp) elt (aL K Fe)) (hs:∀x,bBD iter X.env x=pure x:=by intro _;rfl) :
  QE X (.ListComp elt [⟨target,iter,[],0⟩] scope pos) (aL K (aH2 t cap I g Fe)):=
 (aMZ hc S hi (λC s H f=>(hg C s H f).gd) (λC s H f=>(he C s H f).ed) hs).le λσ H Q hl h=>aAK (d:=none) (d':=none) S ho iP hl (λ_ _ _ z=>by cases z) ⟨(λ_ z=>by cases z),h⟩
end
end L2
namespace L2
open PySem PySem.Spec PyProof.Rows
section
variable {X:Cx}
theorem aD8 {target elt iter:Expr} {scope:bA9} {pos pos' spos:Pos} {N':List Str} {cap:List Nat} {t ix:Nat} {xn:Str} {wi:TI} {g:TG} {te:TE} (hNn:X.N.Nodup) (hin:X.N[ix]? = some xn) (hxn:yT X.env.scope xn) (hfn:X.fn xn=true\/X.env.scope.names.lookup xn=some .local)
  (hsw:bBN (.ListComp elt [⟨target,iter,[],0⟩] scope pos) (some (.Name xn pos')) spos.line X.env=pure true) (hc:X.calm=true) (S:cW X N' scope t cap) (hi:PI X target iter wi)
  (hg:∀C s3 H3 fp,PG (eJ X N' scope C s3 H3 fp) target g) (he:∀C s3 H3 fp,PE (eJ X N' scope C s3 H3 fp) elt te) (hs:∀x,bBD iter X.env x=pure x:=by intro _;rfl) :
  PS X (.Assign [.Name xn pos'] (.ListComp elt [⟨target,iter,[],0⟩] scope pos) spos) (aJK (yW t cap wi g te) (zR ix)):=by
 intro pins s σ H DD I h;rw [exec_Assign_Name_used _ _ _ _ hsw];refine bAP (bBO (bAP ?_));unfold evalThenUse;refine bAP ?_;obtain ⟨QQ,hQQ⟩:∃QQ:Value->Shared->Prop,QQ=λ_ s'=>∃σ' H',aR X pins σ' H' s'/\DD.nx σ' H':=⟨_,rfl⟩;refine b9 (Q:=QQ) ?_ (λ_ s' h'=>bAT (bAT (by rw [hQQ] at h';exact h')));refine wpAny_comprehension_free (use:=some (bB2 (.Name xn pos') X.env)) (cl:=qG scope X.env) rfl hs (lW λy hy hf=>I.ok.has y.1 (S.free y hy hf)) S.kind S.names (b9 (hi pins s σ H _ I h) λv s1 h1=>b9 h1 λitv s2 h2=>?_);obtain ⟨it,fp,tn,J,H2,e,I2,T,st2,f2,h2⟩:=h2;subst e;refine bBM (wpAny_newFunctionEnv S.cell (by intro y hy;simp at hy) (λh₁ hns₁ hsb₁=>?_) S.kind)
 dsimp only at hns₁ hsb₁ ⊢
 obtain ⟨s3,hs3⟩:∃s3:Shared,s3 = { s2 with heap:=s2.heap.push { cls:=.type "list",dict:=none,data:=.seq ([]:List Value).toArray } }:=⟨_,rfl⟩;have hD:H2 s2.heap.objs.size=none:=I2.hok.fresh (aFI _);have I3:aR X pins σ (upd H2 s2.heap.objs.size (.lst [])) s3:=by
  rw [hs3];exact I2.laid (t':=s2.toks) (λb u e=>aDZ _ e) (aFI _) ⟨aB7 _,[],0,.nil,aLS _ rfl⟩
 have hsz3:s3.heap.objs.size=s2.heap.objs.size+1:=by rw [hs3];exact aYB ..
 have old3:∀b o,s2.heap.get? b=some o->s3.heap.get? b=some o:=λb o e=>by rw [hs3];exact aDZ _ e
 have hC:(s2.heap.push { cls:=.type "list",dict:=none,data:=.seq ([]:List Value).toArray }).objs.size=s3.heap.objs.size:=by rw [hs3]
 have f3:∀b∈fp,lP X pins (upd H2 s2.heap.objs.size (.lst [])) b:=λb hb=>by
  obtain ⟨o,ho,_⟩:=T.obj _ _ st2 b hb;refine ⟨?_,(f2 b hb).2⟩;rw [aS (aTV (aG4 ho))];exact (f2 b hb).1
 have ob3:∀b∈fp,∃o,s3.heap.get? b=some o:=λb hb=>by
  obtain ⟨o,ho,_⟩:=T.obj _ _ st2 b hb;exact ⟨o,old3 b o ho⟩
 have k1:∀b o,s3.heap.get? b=some o->h₁.get? b=some o:=λb o e=>by
  refine hsb₁.extBut b o ?_ ?_
  ·rw [hC];exact aTV (aG4 e)
  ·rw [hs3] at e;exact aDZ _ e
 have hns:h₁.Ns s3.heap.objs.size λ_=>none:=by
  rw [<-hC];exact hns₁
 have I4:=sX (tk:=s2.toks+([]:List (Str×Value)).length) S I3 f3 ob3 hns k1;have st4:tn 0 h₁:=T.keep _ _ _ st2 λb hb o e=>k1 b o (old3 b o e);obtain ⟨W,⟨m0,w0⟩,turn⟩:=h2 _ hD
 -- the block's context
 obtain ⟨X',hX'⟩:∃X':Cx,X'=eJ X N' scope s3.heap.objs.size s3 (upd H2 s2.heap.objs.size (.lst [])) fp:=⟨_,rfl⟩;have hg':PG X' target g:=by rw [hX'];exact hg _ _ _ _
 have he':PE X' elt te:=by rw [hX'];exact he _ _ _ _
 have stat:∀{H':Hp},(∀b∈fp,H' b=none)->∀b∈fp,lP X' [] H' b:=λhn b hb=>by
  obtain ⟨o,ho⟩:=ob3 b hb;rw [hX'];refine ⟨hn b hb,aTV (aG4 ho),?_,.inl hb,λx c e=>(f3 b hb).2.2.2.2.1 x c (rH e),λp hp=>absurd (show p∈([]:List (bAO×Obj)) from hp) (by simp)⟩;intro hz;rcases aH1.mp (I3.stkSub b hz) with z | z
  ·exact (f3 b hb).2.1 z
  ·exact (f3 b hb).2.2.1 z
 have hcalm:X'.calm=true:=by rw [hX'];exact hc
 have loop:bCK (bAV X.prog X.w) X.A (.compLoop (.ListComp elt [⟨target,iter,[],0⟩] scope pos) 0 (.ref it) (.ref s2.heap.objs.size) (compEnvC scope (qG scope X.env) s3.heap.objs.size X.env))
   (compPost (bAV X.prog X.w) X.A X.xe (some (bB2 (.Name xn pos') X.env)) QQ (.ref s2.heap.objs.size) s3.heap.objs.size) { s3 with heap:=h₁,toks:=s2.toks+([]:List (Str×Value)).length }:=by
  refine gV (λn s'=>∃i σ' H',aR X' [] σ' H' s'/\tn i s'.heap/\(∀b∈fp,H' b=none)/\W i n σ' H') ?_ m0 ⟨0,dH t cap σ,_,by rw [hX'];exact I4,st4,λb hb=>(f3 b hb).1,w0⟩;rintro n s5 ⟨i,σ5,H5,I5,st5,fr5,w5⟩;rcases turn i n σ5 H5 w5 with ⟨stop,qn⟩ | ⟨go,step⟩
  ·have q:=T.done X' (by rw [hX'];rfl) (by rw [hX'];rfl) (by rw [hX'];rfl) hcalm i [] s5 σ5 H5 (λ_ _=>False) I5 (stat fr5) st5 stop;have eA:X'.A=X.A:=by rw [hX'];rfl
   rw [eA] at q;refine b9 q λr s6 ⟨hr,I6⟩=>?_;subst hr;obtain ⟨m,hn,_⟩:=I6.loc;have hn':s6.heap.Ns s3.heap.objs.size m:=by rw [hX'] at hn;exact hn
   have un6:Un (cS X.stack) fp (upd H2 s2.heap.objs.size (.lst [])) H5 s3.heap s6.heap:=by have:=I6.base;rw [hX'] at this;exact this
   have hok6:iO X.prog X.w H5 s6.heap:=by have:=I6.hok;rw [hX'] at this;exact this
   have free6:H5 s3.heap.objs.size=none:=by have:=I6.free;rw [hX'] at this;exact this
   have os6:s6.os=s3.os:=by have:=I6.os;rw [hX'] at this;exact this
   have I7:aR X pins σ H5 s6:=I3.call' (ch:=fp) os6 un6 hok6 I6.bare (λb hb=>⟨(f3 b hb).2.2.2.1,(f3 b hb).2.1,(f3 b hb).2.2.2.2.1,(f3 b hb).2.2.2.2.2⟩);have fC:lP X pins H5 s3.heap.objs.size:=I3.fpOk (aFI _) free6;refine wpAny_assign_Name (vL I7 hNn hin hxn (v:=.ref s2.heap.objs.size) rfl (λs8 I8 ⟨a,sa,ha⟩=>?_) hfn);have nC:s3.heap.objs.size≠a:=by
    rcases ha with rfl | ha
    ·exact fC.2.1
    ·exact λz=>fC.2.2.2.2.1 _ _ ha z.symm
   obtain ⟨mC,hnC⟩:∃m',s8.heap.Ns s3.heap.objs.size m':=⟨m,hn'.at λo e=>sa.extBut _ _ nC e⟩;refine ⟨mC,hnC,λh' hs'=>?_⟩;rw [hQQ];refine ⟨_,H5,I8.turnedL (t':=s8.toks) (ch:=[s3.heap.objs.size]) (λb u hb e=>hs'.extBut _ _ (by simpa using hb) e) (λb hb=>by rw [aXB.mp hb];exact fC),qn⟩
  ·have q:=T.item X' (by rw [hX'];rfl) (by rw [hX'];rfl) (by rw [hX'];rfl) hcalm i [] s5 σ5 H5 (λ_ _=>False) I5 (stat fr5) st5 go;have eA:X'.A=X.A:=by rw [hX'];rfl
   have eP:X'.prog=X.prog:=by rw [hX'];rfl
   have eW:X'.w=X.w:=by rw [hX'];rfl
   have eE:X'.env=compEnvC scope (qG scope X.env) s3.heap.objs.size X.env:=by rw [hX'];rfl
   have eX:X'.xe=λ_ _=>False:=by rw [hX'];rfl
   rw [eA] at q;refine b9 q λr s6 ⟨u,hr,h6⟩=>?_;subst hr;refine b9 h6 λ_ s7 ⟨x,H7,I7,r7,y7,st7,fr7⟩=>?_;have I7':=I7.pinned (stat fr7) (T.obj _ _ st7);have q8:=hg' _ s7 σ5 H7 x u _ I7' r7 (step x H7 y7);rw [eA,eP,eW,eE,eX] at q8;refine b9 q8 λ_ s8 ⟨σ8,H8,I8,w8⟩=>?_;have q9:=he' _ s8 σ8 H8 _ I8 w8;rw [eA,eP,eW,eE,eX] at q9;refine b9 q9 λy s9 ⟨v9,H9,I9,r9,ys,hD9,hlt,m',hm,w9⟩=>?_;have q10:=oU (X:=X') _ s9 σ8 H9 (.ref s2.heap.objs.size) [v9] (.ref s2.heap.objs.size) [y] (λ_ H10=>H10=upd H9 s2.heap.objs.size (.lst (ys++[v9]))) I9 rfl (.cons r9 .nil) ⟨_,ys,v9,rfl,rfl,hD9,hlt,rfl⟩;rw [eA,eP,eW,eX] at q10;refine b9 q10 λ_ s10 ⟨v10,H10,I10,r10,e10⟩=>?_;subst e10;refine ⟨m',hm,i+1,σ8,_,I10.unpinned,T.keep _ _ _ st7 λb hb o e=>(I10.pin (b,o) (aUM _ (aUM _ (fL hb e)))).1,λb hb=>?_,w9⟩;obtain ⟨o,e,d⟩:=T.obj _ _ st7 b hb;exact (I10.pin (b,o) (aUM _ (aUM _ (fL hb e)))).2.1
 have es:({ s2 with heap:=h₁,toks:=s2.toks+([]:List (Str×Value)).length }:Shared) = { s3 with heap:=h₁,toks:=s2.toks+([]:List (Str×Value)).length }:=by rw [hs3]
 rw [es,hC];exact codeAny_compStart_list loop (T.self _ 0 _ _ _ st4 loop)
end
section
variable {X:Cx} {K:W.Frag} {Fe:FE} {g:FG} {I:FI}
theorem aDE {target elt iter:Expr} {scope:bA9} {pos pos' spos:Pos} {N':List Str} {cap:List (Nat×Bool)} {t i:Nat} {x:Str} (hN:X.N.Nodup) (hi:X.N[i]? = some x) (hx:yT X.env.scope x)
  (hsw:bBN (.ListComp elt [⟨target,iter,[],0⟩] scope pos) (some (.Name x pos')) spos.line X.env=pure true) (hc:X.calm=true) (S:cW X N' scope t (cap.map (·.1))) (ho:l8 cap=true) (iP:(cap.map (·.1)).Nodup) (hit:QI X target iter (qH K I))
  (hg:∀C s3 H3 fp,QG (eJ X N' scope C s3 H3 fp) target (sK K g)) (he:∀C s3 H3 fp,QE (eJ X N' scope C s3 H3 fp) elt (aL K Fe)) (hs:∀x,bBD iter X.env x=pure x:=by intro _;rfl)
  (hf:X.fn x=true\/X.env.scope.names.lookup x=some .local:=by first | exact .inl rfl | exact .inr rfl | assumption) :
  QS X (.Assign [.Name x pos'] (.ListComp elt [⟨target,iter,[],0⟩] scope pos) spos) (dJ K (aSP i (aH2 t cap I g Fe))):=
 QS.le ⟨aD8 hN hi hx hf hsw hc S hit.h (λC s3 H3 fp=>(hg C s3 H3 fp).gd.h) (λC s3 H3 fp=>(he C s3 H3 fp).ed.h) hs⟩ λD σ H hl ⟨B,E,DT,re,hF,l⟩=>aAK (d:=none) (d':=none) S ho iP hl (λ_ _ _ z=>by cases z) ⟨(λ_ z=>by cases z),B,σ,E,_,⟨[],by simp⟩,re,hF,λr E' v H' S' q g re' rr=>by
  obtain ⟨u,e1,q⟩:=q.ex;rw [<-re.len] at e1 q;obtain ⟨r1,ow⟩:=jX (i:=i) re' g.pre rr e1;exact l.nx _ _ _ q (g.kp.trans (Kp.less ow)) r1⟩
end
end L2
namespace L2
open PySem PySem.Spec PyProof.Rows
mutual
def dZ:T->T->Bool
 | .non,.non=>true
 | .bl a,.bl b=>a==b
 | .int a,.int b=>a==b
 | .bl a,.int b=>(if a then 1 else 0)==b
 | .int a,.bl b=>a==(if b then 1 else 0)
 | .str a,.str b=>a==b
 | .tup xs,.tup ys=>sQ xs ys
 | .lst xs,.lst ys=>sQ xs ys
 | _,_=>false
def sQ:List T->List T->Bool
 | [],[]=>true
 | x::xs,y::ys=>dZ x y&&sQ xs ys
 | _,_=>false
end
mutual
def dT:T->Nat
 | .tup xs=>uT xs+1
 | .lst xs=>uT xs+1
 | _=>0
def uT:List T->Nat
 | []=>0
 | x::xs=>aX3 (dT x) (uT xs)
end
mutual
theorem dX:∀x:T,dZ x x=true
 | .non=>rfl
 | .bl a=>by simp [dZ]
 | .int a=>by simp [dZ]
 | .str a=>by simp [dZ]
 | .tup xs=>by rw [dZ];exact oE xs
 | .lst xs=>by rw [dZ];exact oE xs
theorem oE:∀xs:List T,sQ xs xs=true
 | []=>rfl
 | x::xs=>by rw [sQ,dX x,oE xs];rfl
end
theorem iD:∀xs ys:List T,sQ xs ys=((aYH (min xs.length ys.length)).all (λj=>dZ (xs.getD j .non) (ys.getD j .non))&&xs.length==ys.length)
 | [],[]=>rfl
 | [],_::_=>by simp [sQ]
 | _::_,[]=>by simp [sQ]
 | x::xs,y::ys=>by
  rw [sQ,iD xs ys];simp only [aOW,Nat.succ_min_succ,List.range_succ_eq_map,List.all_cons,List.all_map];simp [Function.comp_def,Bool.and_assoc]
theorem mG:∀{xs:List T} {x:T},x∈xs->dT x<=uT xs
 | y::xs,x,h=>by
  rw [uT];rcases aH1.mp h with rfl | h
  ·exact aY5 _ _
  ·exact aVD (mG h) (aYY _ _)
mutual
def Rq (K:W.Frag) (H:Hp):T->V->Prop
 | .non,v=>v = .non
 | .bl b,v=>v = .bl b
 | .int i,v=>v = .int i
 | .str x,v=>v = .str x
 | .tup xs,v=>∃a vs,v = .ref a/\tP K H a vs/\tY K H xs vs
 | .lst xs,v=>∃a vs,v = .ref a/\kF K H a vs/\tY K H xs vs
def tY (K:W.Frag) (H:Hp):List T->List V->Prop
 | [],vs=>vs=[]
 | x::xs,vs=>∃v r,vs=v::r/\Rq K H x v/\tY K H xs r
end
section
variable {K:W.Frag} {H:Hp} {O:bAO->Prop}
mutual
theorem Rp.rq:∀{t:T} {v:V},Rp K H O t v->Rq K H t v
 | .non,_,h=>h
 | .bl _,_,h=>h
 | .int _,_,h=>h
 | .str _,_,h=>h
 | .tup xs,v,h=>by
  obtain ⟨a,vs,e,h1,h2⟩:=h;exact ⟨a,vs,e,h1.imp And.right id,bW.rq h2⟩
 | .lst xs,v,h=>by
  obtain ⟨a,vs,e,h1,h2⟩:=h;exact ⟨a,vs,e,h1.imp And.right id,bW.rq h2⟩
theorem bW.rq:∀{xs:List T} {vs:List V},bW K H O xs vs->tY K H xs vs
 | [],_,h=>h
 | x::xs,vs,h=>by
  obtain ⟨v,r,e,h1,h2⟩:=h;exact ⟨v,r,e,Rp.rq h1,bW.rq h2⟩
end
theorem Rt.rq {t:T} {v:V} (h:Rt K H O t v):Rq K H t v:=by
 cases t with
 | tup xs=>obtain ⟨a,vs,e,h1,h2⟩:=h;exact ⟨a,vs,e,h1,h2.rq⟩
 | lst xs=>obtain ⟨a,vs,e,h1,h2⟩:=h;exact ⟨a,vs,e,h1,h2.rq⟩
 | non=>exact h
 | bl _=>exact h
 | int _=>exact h
 | str _=>exact h
theorem tY.length:∀{xs:List T} {vs:List V},tY K H xs vs->vs.length=xs.length
 | [],_,h=>by cases h;rfl
 | _::_,_,⟨v,r,e,_,h2⟩=>by rw [e,aOW,aOW,tY.length h2]
theorem tY.get:∀{xs:List T} {vs:List V} {i:Nat} {x:T},tY K H xs vs->xs[i]? = some x->∃v,vs[i]? = some v/\Rq K H x v
 | [],_,_,_,_,e=>by simp at e
 | _::_,_,0,_,⟨v,r,e,h1,_⟩,q=>by simp at q;subst q;subst e;exact ⟨v,rfl,h1⟩
 | _::_,_,i+1,x,⟨v,r,e,_,h2⟩,q=>by
  obtain ⟨w,q1,q2⟩:=tY.get (i:=i) (x:=x) h2 (by simpa using q);subst e;exact ⟨w,by simpa using q1,q2⟩
end
section
variable {X:Cx} {pins:List (bAO×Obj)} {σ:St} {H:Hp} {s:Shared}
theorem aR.nolt (I:aR X pins σ H s) {a:bAO} {vs ws:List V} (h1:kF X.K H a vs) (h2:tP X.K H a ws):False:=by
 obtain ⟨_,_,p1,_⟩:=I.list h1;obtain ⟨_,_,p2,_⟩:=I.tuple h2;exact SeqAt.ne_of_list_tuple p1.isList p2 rfl
mutual
theorem Rq.inj (I:aR X pins σ H s):∀{x y:T} {v:V},Rq X.K H x v->Rq X.K H y v->x=y
 | .non,.non,_,_,_=>rfl
 | .bl a,.bl b,_,h,k=>by cases h;cases k;rfl
 | .int a,.int b,_,h,k=>by cases h;cases k;rfl
 | .str a,.str b,_,h,k=>by cases h;cases k;rfl
 | .tup xs,.tup ys,v,⟨a,vs,e,h1,h2⟩,⟨b,ws,f,k1,k2⟩=>by
  rw [e] at f;cases f;rw [I.tuple_inj h1 k1] at h2;rw [tY.inj I h2 k2]
 | .lst xs,.lst ys,v,⟨a,vs,e,h1,h2⟩,⟨b,ws,f,k1,k2⟩=>by
  rw [e] at f;cases f;rw [I.list_inj h1 k1] at h2;rw [tY.inj I h2 k2]
 | .tup xs,.lst ys,v,⟨a,vs,e,h1,h2⟩,⟨b,ws,f,k1,k2⟩=>by rw [e] at f;cases f;exact (I.nolt k1 h1).elim
 | .lst xs,.tup ys,v,⟨a,vs,e,h1,h2⟩,⟨b,ws,f,k1,k2⟩=>by rw [e] at f;cases f;exact (I.nolt h1 k1).elim
 | .non,.bl _,_,h,k=>by cases h;cases k
 | .non,.int _,_,h,k=>by cases h;cases k
 | .non,.str _,_,h,k=>by cases h;cases k
 | .non,.tup _,_,h,⟨_,_,k,_⟩=>by cases h;cases k
 | .non,.lst _,_,h,⟨_,_,k,_⟩=>by cases h;cases k
 | .bl _,.non,_,h,k=>by cases h;cases k
 | .bl _,.int _,_,h,k=>by cases h;cases k
 | .bl _,.str _,_,h,k=>by cases h;cases k
 | .bl _,.tup _,_,h,⟨_,_,k,_⟩=>by cases h;cases k
 | .bl _,.lst _,_,h,⟨_,_,k,_⟩=>by cases h;cases k
 | .int _,.non,_,h,k=>by cases h;cases k
 | .int _,.bl _,_,h,k=>by cases h;cases k
 | .int _,.str _,_,h,k=>by cases h;cases k
 | .int _,.tup _,_,h,⟨_,_,k,_⟩=>by cases h;cases k
 | .int _,.lst _,_,h,⟨_,_,k,_⟩=>by cases h;cases k
 | .str _,.non,_,h,k=>by cases h;cases k
 | .str _,.bl _,_,h,k=>by cases h;cases k
 | .str _,.int _,_,h,k=>by cases h;cases k
 | .str _,.tup _,_,h,⟨_,_,k,_⟩=>by cases h;cases k
 | .str _,.lst _,_,h,⟨_,_,k,_⟩=>by cases h;cases k
 | .tup _,.non,_,⟨_,_,h,_⟩,k=>by cases h;cases k
 | .tup _,.bl _,_,⟨_,_,h,_⟩,k=>by cases h;cases k
 | .tup _,.int _,_,⟨_,_,h,_⟩,k=>by cases h;cases k
 | .tup _,.str _,_,⟨_,_,h,_⟩,k=>by cases h;cases k
 | .lst _,.non,_,⟨_,_,h,_⟩,k=>by cases h;cases k
 | .lst _,.bl _,_,⟨_,_,h,_⟩,k=>by cases h;cases k
 | .lst _,.int _,_,⟨_,_,h,_⟩,k=>by cases h;cases k
 | .lst _,.str _,_,⟨_,_,h,_⟩,k=>by cases h;cases k
theorem tY.inj (I:aR X pins σ H s):∀{xs ys:List T} {vs:List V},tY X.K H xs vs->tY X.K H ys vs->xs=ys
 | [],[],_,_,_=>rfl
 | [],_::_,_,h,⟨_,_,k,_⟩=>by cases h;cases k
 | _::_,[],_,⟨_,_,h,_⟩,k=>by cases k;cases h
 | x::xs,y::ys,_,⟨v,r,e,h1,h2⟩,⟨w,r',f,k1,k2⟩=>by
  rw [e] at f;cases f;rw [Rq.inj I h1 k1,tY.inj I h2 k2]
end
theorem aB3 {A:Around} {u v:Value} {k:Bool} (h:SeqAt.RcAt A s u v k) (hk:u=v->k=true) (hf:∀b t,u≠.float b t):SeqAt.EqAt A s u v k:=λprog w E Q hq=>by
 unfold eqBool;refine bBE ?_;refine wpAny_ite_split (λhab=>?_) (λ_=>?_)
 ·rw [hk (eq_of_beq hab)] at hq;exact bAP (bCG (bAT hq))
 ·cases u with
  | float b t=>exact absurd rfl (hf b t)
  | _=>exact bAP (h prog w E _ (bBC hq))
theorem aED {x y:V} {u:Value} (h:bC x u) (k:bC y u):x=y:=h.inj k
theorem nF (A:Around) {xs ys:List T} {vs ws:List V} {its js:List Value} (rx:bA vs its) (ry:bA ws js) (hx:tY X.K H xs vs) (hy:tY X.K H ys ws)
  (ih:∀(j:Nat) (x y:T) (v w:V) (u u':Value),xs[j]? = some x->ys[j]? = some y->Rq X.K H x v->Rq X.K H y w->bC v u->bC w u'->SeqAt.EqAt A s u u' (dZ x y)) :
  ∀j (h1:j<its.toArray.size) (h2:j<js.toArray.size),SeqAt.EqAt A s its.toArray[j] js.toArray[j] (dZ (xs.getD j .non) (ys.getD j .non)):=λj h1 h2=>by
 have l1:=rx.length;have l2:=ry.length;have l3:=hx.length;have l4:=hy.length;have h1':j<its.length:=by simpa using h1
 have h2':j<js.length:=by simpa using h2
 have e1:xs[j]? = some xs[j]:=aCP (by omega);have e2:ys[j]? = some ys[j]:=aCP (by omega);obtain ⟨v,q1,q2⟩:=hx.get e1;obtain ⟨w,q3,q4⟩:=hy.get e2;obtain ⟨u1,z1,r1⟩:=rx.get q1;obtain ⟨v1,z2,r2⟩:=ry.get q3;have y1:its.toArray[j]=u1:=by
  rw [aCP h1'] at z1
  simpa using Option.some.inj z1
 have y2:js.toArray[j]=v1:=by
  rw [aCP h2'] at z2
  simpa using Option.some.inj z2
 rw [y1,y2];have g1:xs.getD j .non=xs[j]:=by simp [List.getD,e1]
 have g2:ys.getD j .non=ys[j]:=by simp [List.getD,e2]
 rw [g1,g2];exact ih j _ _ v w u1 v1 e1 e2 q2 q4 r1 r2
theorem aAA (I:aR X pins σ H s) {A:Around} (hu:A.units<bB7):∀{x y:T} {v w:V} {u u':Value},(∀xs ys,¬(x = .tup xs/\y = .tup ys))->(∀xs ys,¬(x = .lst xs/\y = .lst ys))->Rq X.K H x v->Rq X.K H y w->bC v u->bC w u'->SeqAt.RcAt A s u u' ((dZ x y)):=by
 intro x y v w u u' nt nl hx hy rx ry;cases x with
 | non=>
  cases y with
  | non=>
   cases hx;cases rx;cases hy;cases ry;exact SeqAt.RcAt.none_none
  | bl ay=>
   cases hx;cases rx;cases hy;cases ry;exact SeqAt.RcAt.none_bool _
  | int ay=>
   cases hx;cases rx;cases hy;obtain ⟨t_hy,rfl⟩:=ry;exact SeqAt.RcAt.none_int _ t_hy
  | str ay=>
   cases hx;cases rx;cases hy;obtain ⟨t_hy,rfl⟩:=ry;exact SeqAt.RcAt.none_str _ t_hy
  | tup ay=>
   cases hx;cases rx;obtain ⟨a_hy,vs_hy,e_hy,q_hy,_⟩:=hy;subst e_hy;cases ry;obtain ⟨its_hy,_,p_hy,_⟩:=I.tuple q_hy;exact SeqAt.RcAt.none_tuple p_hy hu
  | lst ay=>
   cases hx;cases rx;obtain ⟨a_hy,vs_hy,e_hy,q_hy,_⟩:=hy;subst e_hy;cases ry;obtain ⟨its_hy,_,p_hy,_⟩:=I.list q_hy;exact SeqAt.RcAt.none_list p_hy.isList hu
 | bl ax=>
  cases y with
  | non=>
   cases hx;cases rx;cases hy;cases ry;exact SeqAt.RcAt.bool_none _
  | bl ay=>
   cases hx;cases rx;cases hy;cases ry;exact SeqAt.RcAt.bool_bool _ _
  | int ay=>
   cases hx;cases rx;cases hy;obtain ⟨t_hy,rfl⟩:=ry;exact SeqAt.RcAt.bool_int _ _ t_hy
  | str ay=>
   cases hx;cases rx;cases hy;obtain ⟨t_hy,rfl⟩:=ry;exact SeqAt.RcAt.bool_str _ _ t_hy
  | tup ay=>
   cases hx;cases rx;obtain ⟨a_hy,vs_hy,e_hy,q_hy,_⟩:=hy;subst e_hy;cases ry;obtain ⟨its_hy,_,p_hy,_⟩:=I.tuple q_hy;exact SeqAt.RcAt.bool_tuple _ p_hy hu
  | lst ay=>
   cases hx;cases rx;obtain ⟨a_hy,vs_hy,e_hy,q_hy,_⟩:=hy;subst e_hy;cases ry;obtain ⟨its_hy,_,p_hy,_⟩:=I.list q_hy;exact SeqAt.RcAt.bool_list _ p_hy.isList hu
 | int ax=>
  cases y with
  | non=>
   cases hx;obtain ⟨t_hx,rfl⟩:=rx;cases hy;cases ry;exact SeqAt.RcAt.int_none _ t_hx
  | bl ay=>
   cases hx;obtain ⟨t_hx,rfl⟩:=rx;cases hy;cases ry;exact SeqAt.RcAt.int_bool _ t_hx _
  | int ay=>
   cases hx;obtain ⟨t_hx,rfl⟩:=rx;cases hy;obtain ⟨t_hy,rfl⟩:=ry;exact SeqAt.RcAt.int_int _ t_hx _ t_hy
  | str ay=>
   cases hx;obtain ⟨t_hx,rfl⟩:=rx;cases hy;obtain ⟨t_hy,rfl⟩:=ry;exact SeqAt.RcAt.int_str _ t_hx _ t_hy
  | tup ay=>
   cases hx;obtain ⟨t_hx,rfl⟩:=rx;obtain ⟨a_hy,vs_hy,e_hy,q_hy,_⟩:=hy;subst e_hy;cases ry;obtain ⟨its_hy,_,p_hy,_⟩:=I.tuple q_hy;exact SeqAt.RcAt.int_tuple _ t_hx p_hy hu
  | lst ay=>
   cases hx;obtain ⟨t_hx,rfl⟩:=rx;obtain ⟨a_hy,vs_hy,e_hy,q_hy,_⟩:=hy;subst e_hy;cases ry;obtain ⟨its_hy,_,p_hy,_⟩:=I.list q_hy;exact SeqAt.RcAt.int_list _ t_hx p_hy.isList hu
 | str ax=>
  cases y with
  | non=>
   cases hx;obtain ⟨t_hx,rfl⟩:=rx;cases hy;cases ry;exact SeqAt.RcAt.str_none _ t_hx
  | bl ay=>
   cases hx;obtain ⟨t_hx,rfl⟩:=rx;cases hy;cases ry;exact SeqAt.RcAt.str_bool _ t_hx _
  | int ay=>
   cases hx;obtain ⟨t_hx,rfl⟩:=rx;cases hy;obtain ⟨t_hy,rfl⟩:=ry;exact SeqAt.RcAt.str_int _ t_hx _ t_hy
  | str ay=>
   cases hx;obtain ⟨t_hx,rfl⟩:=rx;cases hy;obtain ⟨t_hy,rfl⟩:=ry;exact SeqAt.RcAt.str_str _ t_hx _ t_hy
  | tup ay=>
   cases hx;obtain ⟨t_hx,rfl⟩:=rx;obtain ⟨a_hy,vs_hy,e_hy,q_hy,_⟩:=hy;subst e_hy;cases ry;obtain ⟨its_hy,_,p_hy,_⟩:=I.tuple q_hy;exact SeqAt.RcAt.str_tuple _ t_hx p_hy hu
  | lst ay=>
   cases hx;obtain ⟨t_hx,rfl⟩:=rx;obtain ⟨a_hy,vs_hy,e_hy,q_hy,_⟩:=hy;subst e_hy;cases ry;obtain ⟨its_hy,_,p_hy,_⟩:=I.list q_hy;exact SeqAt.RcAt.str_list _ t_hx p_hy.isList hu
 | tup ax=>
  cases y with
  | non=>
   obtain ⟨a_hx,vs_hx,e_hx,q_hx,_⟩:=hx;subst e_hx;cases rx;obtain ⟨its_hx,_,p_hx,_⟩:=I.tuple q_hx;cases hy;cases ry;exact SeqAt.RcAt.tuple_none p_hx hu
  | bl ay=>
   obtain ⟨a_hx,vs_hx,e_hx,q_hx,_⟩:=hx;subst e_hx;cases rx;obtain ⟨its_hx,_,p_hx,_⟩:=I.tuple q_hx;cases hy;cases ry;exact SeqAt.RcAt.tuple_bool _ p_hx hu
  | int ay=>
   obtain ⟨a_hx,vs_hx,e_hx,q_hx,_⟩:=hx;subst e_hx;cases rx;obtain ⟨its_hx,_,p_hx,_⟩:=I.tuple q_hx;cases hy;obtain ⟨t_hy,rfl⟩:=ry;exact SeqAt.RcAt.tuple_int _ t_hy p_hx hu
  | str ay=>
   obtain ⟨a_hx,vs_hx,e_hx,q_hx,_⟩:=hx;subst e_hx;cases rx;obtain ⟨its_hx,_,p_hx,_⟩:=I.tuple q_hx;cases hy;obtain ⟨t_hy,rfl⟩:=ry;exact SeqAt.RcAt.tuple_str _ t_hy p_hx hu
  | tup ay=>
   exact absurd ⟨rfl,rfl⟩ (nt ax ay)
  | lst ay=>
   obtain ⟨a_hx,vs_hx,e_hx,q_hx,_⟩:=hx;subst e_hx;cases rx;obtain ⟨its_hx,_,p_hx,_⟩:=I.tuple q_hx;obtain ⟨a_hy,vs_hy,e_hy,q_hy,_⟩:=hy;subst e_hy;cases ry;obtain ⟨its_hy,_,p_hy,_⟩:=I.list q_hy;exact SeqAt.RcAt.tuple_list p_hx p_hy.isList hu
 | lst ax=>
  cases y with
  | non=>
   obtain ⟨a_hx,vs_hx,e_hx,q_hx,_⟩:=hx;subst e_hx;cases rx;obtain ⟨its_hx,_,p_hx,_⟩:=I.list q_hx;cases hy;cases ry;exact SeqAt.RcAt.list_none p_hx.isList hu
  | bl ay=>
   obtain ⟨a_hx,vs_hx,e_hx,q_hx,_⟩:=hx;subst e_hx;cases rx;obtain ⟨its_hx,_,p_hx,_⟩:=I.list q_hx;cases hy;cases ry;exact SeqAt.RcAt.list_bool _ p_hx.isList hu
  | int ay=>
   obtain ⟨a_hx,vs_hx,e_hx,q_hx,_⟩:=hx;subst e_hx;cases rx;obtain ⟨its_hx,_,p_hx,_⟩:=I.list q_hx;cases hy;obtain ⟨t_hy,rfl⟩:=ry;exact SeqAt.RcAt.list_int _ t_hy p_hx.isList hu
  | str ay=>
   obtain ⟨a_hx,vs_hx,e_hx,q_hx,_⟩:=hx;subst e_hx;cases rx;obtain ⟨its_hx,_,p_hx,_⟩:=I.list q_hx;cases hy;obtain ⟨t_hy,rfl⟩:=ry;exact SeqAt.RcAt.list_str _ t_hy p_hx.isList hu
  | tup ay=>
   obtain ⟨a_hx,vs_hx,e_hx,q_hx,_⟩:=hx;subst e_hx;cases rx;obtain ⟨its_hx,_,p_hx,_⟩:=I.list q_hx;obtain ⟨a_hy,vs_hy,e_hy,q_hy,_⟩:=hy;subst e_hy;cases ry;obtain ⟨its_hy,_,p_hy,_⟩:=I.tuple q_hy;exact SeqAt.RcAt.list_tuple p_hx.isList p_hy hu
  | lst ay=>
   exact absurd ⟨rfl,rfl⟩ (nl ax ay)
theorem aFL (I:aR X pins σ H s) {A:Around} (hu:A.units<bB7):∀{x y:T} {v w:V} {u u':Value},(∀xs ys,¬(x = .tup xs/\y = .tup ys))->(∀xs ys,¬(x = .lst xs/\y = .lst ys))->Rq X.K H x v->Rq X.K H y w->bC v u->bC w u'->SeqAt.RcNeAt A s u u' (!(dZ x y)):=by
 intro x y v w u u' nt nl hx hy rx ry;cases x with
 | non=>
  cases y with
  | non=>
   cases hx;cases rx;cases hy;cases ry;exact SeqAt.RcNeAt.none_none
  | bl ay=>
   cases hx;cases rx;cases hy;cases ry;exact SeqAt.RcNeAt.none_bool _
  | int ay=>
   cases hx;cases rx;cases hy;obtain ⟨t_hy,rfl⟩:=ry;exact SeqAt.RcNeAt.none_int _ t_hy
  | str ay=>
   cases hx;cases rx;cases hy;obtain ⟨t_hy,rfl⟩:=ry;exact SeqAt.RcNeAt.none_str _ t_hy
  | tup ay=>
   cases hx;cases rx;obtain ⟨a_hy,vs_hy,e_hy,q_hy,_⟩:=hy;subst e_hy;cases ry;obtain ⟨its_hy,_,p_hy,_⟩:=I.tuple q_hy;exact SeqAt.RcNeAt.none_tuple p_hy hu
  | lst ay=>
   cases hx;cases rx;obtain ⟨a_hy,vs_hy,e_hy,q_hy,_⟩:=hy;subst e_hy;cases ry;obtain ⟨its_hy,_,p_hy,_⟩:=I.list q_hy;exact SeqAt.RcNeAt.none_list p_hy.isList hu
 | bl ax=>
  cases y with
  | non=>
   cases hx;cases rx;cases hy;cases ry;exact SeqAt.RcNeAt.bool_none _
  | bl ay=>
   cases hx;cases rx;cases hy;cases ry;exact SeqAt.RcNeAt.bool_bool _ _
  | int ay=>
   cases hx;cases rx;cases hy;obtain ⟨t_hy,rfl⟩:=ry;exact SeqAt.RcNeAt.bool_int _ _ t_hy
  | str ay=>
   cases hx;cases rx;cases hy;obtain ⟨t_hy,rfl⟩:=ry;exact SeqAt.RcNeAt.bool_str _ _ t_hy
  | tup ay=>
   cases hx;cases rx;obtain ⟨a_hy,vs_hy,e_hy,q_hy,_⟩:=hy;subst e_hy;cases ry;obtain ⟨its_hy,_,p_hy,_⟩:=I.tuple q_hy;exact SeqAt.RcNeAt.bool_tuple _ p_hy hu
  | lst ay=>
   cases hx;cases rx;obtain ⟨a_hy,vs_hy,e_hy,q_hy,_⟩:=hy;subst e_hy;cases ry;obtain ⟨its_hy,_,p_hy,_⟩:=I.list q_hy;exact SeqAt.RcNeAt.bool_list _ p_hy.isList hu
 | int ax=>
  cases y with
  | non=>
   cases hx;obtain ⟨t_hx,rfl⟩:=rx;cases hy;cases ry;exact SeqAt.RcNeAt.int_none _ t_hx
  | bl ay=>
   cases hx;obtain ⟨t_hx,rfl⟩:=rx;cases hy;cases ry;exact SeqAt.RcNeAt.int_bool _ t_hx _
  | int ay=>
   cases hx;obtain ⟨t_hx,rfl⟩:=rx;cases hy;obtain ⟨t_hy,rfl⟩:=ry;exact SeqAt.RcNeAt.int_int _ t_hx _ t_hy
  | str ay=>
   cases hx;obtain ⟨t_hx,rfl⟩:=rx;cases hy;obtain ⟨t_hy,rfl⟩:=ry;exact SeqAt.RcNeAt.int_str _ t_hx _ t_hy
  | tup ay=>
   cases hx;obtain ⟨t_hx,rfl⟩:=rx;obtain ⟨a_hy,vs_hy,e_hy,q_hy,_⟩:=hy;subst e_hy;cases ry;obtain ⟨its_hy,_,p_hy,_⟩:=I.tuple q_hy;exact SeqAt.RcNeAt.int_tuple _ t_hx p_hy hu
  | lst ay=>
   cases hx;obtain ⟨t_hx,rfl⟩:=rx;obtain ⟨a_hy,vs_hy,e_hy,q_hy,_⟩:=hy;subst e_hy;cases ry;obtain ⟨its_hy,_,p_hy,_⟩:=I.list q_hy;exact SeqAt.RcNeAt.int_list _ t_hx p_hy.isList hu
 | str ax=>
  cases y with
  | non=>
   cases hx;obtain ⟨t_hx,rfl⟩:=rx;cases hy;cases ry;exact SeqAt.RcNeAt.str_none _ t_hx
  | bl ay=>
   cases hx;obtain ⟨t_hx,rfl⟩:=rx;cases hy;cases ry;exact SeqAt.RcNeAt.str_bool _ t_hx _
  | int ay=>
   cases hx;obtain ⟨t_hx,rfl⟩:=rx;cases hy;obtain ⟨t_hy,rfl⟩:=ry;exact SeqAt.RcNeAt.str_int _ t_hx _ t_hy
  | str ay=>
   cases hx;obtain ⟨t_hx,rfl⟩:=rx;cases hy;obtain ⟨t_hy,rfl⟩:=ry;exact SeqAt.RcNeAt.str_str _ t_hx _ t_hy
  | tup ay=>
   cases hx;obtain ⟨t_hx,rfl⟩:=rx;obtain ⟨a_hy,vs_hy,e_hy,q_hy,_⟩:=hy;subst e_hy;cases ry;obtain ⟨its_hy,_,p_hy,_⟩:=I.tuple q_hy;exact SeqAt.RcNeAt.str_tuple _ t_hx p_hy hu
  | lst ay=>
   cases hx;obtain ⟨t_hx,rfl⟩:=rx;obtain ⟨a_hy,vs_hy,e_hy,q_hy,_⟩:=hy;subst e_hy;cases ry;obtain ⟨its_hy,_,p_hy,_⟩:=I.list q_hy;exact SeqAt.RcNeAt.str_list _ t_hx p_hy.isList hu
 | tup ax=>
  cases y with
  | non=>
   obtain ⟨a_hx,vs_hx,e_hx,q_hx,_⟩:=hx;subst e_hx;cases rx;obtain ⟨its_hx,_,p_hx,_⟩:=I.tuple q_hx;cases hy;cases ry;exact SeqAt.RcNeAt.tuple_none p_hx hu
  | bl ay=>
   obtain ⟨a_hx,vs_hx,e_hx,q_hx,_⟩:=hx;subst e_hx;cases rx;obtain ⟨its_hx,_,p_hx,_⟩:=I.tuple q_hx;cases hy;cases ry;exact SeqAt.RcNeAt.tuple_bool _ p_hx hu
  | int ay=>
   obtain ⟨a_hx,vs_hx,e_hx,q_hx,_⟩:=hx;subst e_hx;cases rx;obtain ⟨its_hx,_,p_hx,_⟩:=I.tuple q_hx;cases hy;obtain ⟨t_hy,rfl⟩:=ry;exact SeqAt.RcNeAt.tuple_int _ t_hy p_hx hu
  | str ay=>
   obtain ⟨a_hx,vs_hx,e_hx,q_hx,_⟩:=hx;subst e_hx;cases rx;obtain ⟨its_hx,_,p_hx,_⟩:=I.tuple q_hx;cases hy;obtain ⟨t_hy,rfl⟩:=ry;exact SeqAt.RcNeAt.tuple_str _ t_hy p_hx hu
  | tup ay=>
   exact absurd ⟨rfl,rfl⟩ (nt ax ay)
  | lst ay=>
   obtain ⟨a_hx,vs_hx,e_hx,q_hx,_⟩:=hx;subst e_hx;cases rx;obtain ⟨its_hx,_,p_hx,_⟩:=I.tuple q_hx;obtain ⟨a_hy,vs_hy,e_hy,q_hy,_⟩:=hy;subst e_hy;cases ry;obtain ⟨its_hy,_,p_hy,_⟩:=I.list q_hy;exact SeqAt.RcNeAt.tuple_list p_hx p_hy.isList hu
 | lst ax=>
  cases y with
  | non=>
   obtain ⟨a_hx,vs_hx,e_hx,q_hx,_⟩:=hx;subst e_hx;cases rx;obtain ⟨its_hx,_,p_hx,_⟩:=I.list q_hx;cases hy;cases ry;exact SeqAt.RcNeAt.list_none p_hx.isList hu
  | bl ay=>
   obtain ⟨a_hx,vs_hx,e_hx,q_hx,_⟩:=hx;subst e_hx;cases rx;obtain ⟨its_hx,_,p_hx,_⟩:=I.list q_hx;cases hy;cases ry;exact SeqAt.RcNeAt.list_bool _ p_hx.isList hu
  | int ay=>
   obtain ⟨a_hx,vs_hx,e_hx,q_hx,_⟩:=hx;subst e_hx;cases rx;obtain ⟨its_hx,_,p_hx,_⟩:=I.list q_hx;cases hy;obtain ⟨t_hy,rfl⟩:=ry;exact SeqAt.RcNeAt.list_int _ t_hy p_hx.isList hu
  | str ay=>
   obtain ⟨a_hx,vs_hx,e_hx,q_hx,_⟩:=hx;subst e_hx;cases rx;obtain ⟨its_hx,_,p_hx,_⟩:=I.list q_hx;cases hy;obtain ⟨t_hy,rfl⟩:=ry;exact SeqAt.RcNeAt.list_str _ t_hy p_hx.isList hu
  | tup ay=>
   obtain ⟨a_hx,vs_hx,e_hx,q_hx,_⟩:=hx;subst e_hx;cases rx;obtain ⟨its_hx,_,p_hx,_⟩:=I.list q_hx;obtain ⟨a_hy,vs_hy,e_hy,q_hy,_⟩:=hy;subst e_hy;cases ry;obtain ⟨its_hy,_,p_hy,_⟩:=I.tuple q_hy;exact SeqAt.RcNeAt.list_tuple p_hx.isList p_hy hu
  | lst ay=>
   exact absurd ⟨rfl,rfl⟩ (nl ax ay)
theorem aKM {K:W.Frag} {x:T} {v:V} {u:Value} (h:Rq K H x v) (r:bC v u):∀b t,u≠.float b t:=λb t e=>by
 subst e;cases x with
 | tup _=>obtain ⟨_,_,e,_⟩:=h;subst e;cases r
 | lst _=>obtain ⟨_,_,e,_⟩:=h;subst e;cases r
 | non=>cases h;cases r
 | bl _=>cases h;cases r
 | int _=>cases h;obtain ⟨_,r⟩:=r;cases r
 | str _=>cases h;obtain ⟨_,r⟩:=r;cases r
theorem w4 (I:aR X pins σ H s):∀(n:Nat) (A:Around) (x y:T) (v w:V) (u u':Value),dT x<=n->Rq X.K H x v->Rq X.K H y w->bC v u->bC w u'->A.units+n<bB7->SeqAt.RcAt A s u u' (dZ x y)/\SeqAt.EqAt A s u u' (dZ x y):=by
 have fin:∀{A:Around} {x y:T} {v w:V} {u u':Value},Rq X.K H x v->Rq X.K H y w->bC v u->bC w u'->SeqAt.RcAt A s u u' (dZ x y)->SeqAt.RcAt A s u u' (dZ x y)/\SeqAt.EqAt A s u u' (dZ x y):=λ{A x y v w u u'} hx hy rx ry h=>⟨h,aB3 h (λe=>by
   subst e;rw [Rq.inj I hx (by rw [aED rx ry];exact hy)];exact dX y) (aKM hx rx)⟩
 intro n
 induction n with
 | zero=>
  intro A x y v w u u' hd hx hy rx ry hu;refine fin hx hy rx ry (aAA I (by omega) (λxs ys z=>?_) (λxs ys z=>?_) hx hy rx ry)
  ·rw [z.1] at hd;simp [dT] at hd
  ·rw [z.1] at hd;simp [dT] at hd
 | succ n ih=>
  intro A x y v w u u' hd hx hy rx ry hu;refine fin hx hy rx ry ?_
  by_cases c1:∃xs ys,x = .tup xs/\y = .tup ys
  ·obtain ⟨xs,ys,rfl,rfl⟩:=c1;obtain ⟨a,vs,rfl,q1,h1⟩:=hx;obtain ⟨b,ws,rfl,q2,h2⟩:=hy;cases rx;cases ry;obtain ⟨its,r1,p1,_⟩:=I.tuple q1;obtain ⟨js,r2,p2,_⟩:=I.tuple q2;have:=SeqAt.RcAt.tuples p1 p2 (A:=A) (by omega) (nF A.in1 r1 r2 h1 h2 λj x y v w u u' e1 e2 k1 k2 k3 k4=>(ih A.in1 x y v w u u' (by
    have:=mG (aIR e1);simp only [dT] at hd;omega) k1 k2 k3 k4 (by show A.units+1+n<bB7;omega)).2)
   rw [dZ,iD];have l1:=r1.length;have l2:=r2.length;have l3:=h1.length;have l4:=h2.length;have s1:its.toArray.size=xs.length:=by simp;omega
   have s2:js.toArray.size=ys.length:=by simp;omega
   rw [s1,s2] at this;exact this
  ·by_cases c2:∃xs ys,x = .lst xs/\y = .lst ys
   ·obtain ⟨xs,ys,rfl,rfl⟩:=c2;obtain ⟨a,vs,rfl,q1,h1⟩:=hx;obtain ⟨b,ws,rfl,q2,h2⟩:=hy;cases rx;cases ry;obtain ⟨its,r1,p1,_⟩:=I.list q1;obtain ⟨js,r2,p2,_⟩:=I.list q2;have l1:=r1.length;have l2:=r2.length;have l3:=h1.length;have l4:=h2.length;have s1:its.toArray.size=xs.length:=by simp;omega
    have s2:js.toArray.size=ys.length:=by simp;omega
    rw [dZ,iD]
    by_cases hl:xs.length=ys.length
    ·have:=SeqAt.RcAt.lists p1.isList p2.isList (A:=A) (by rw [s1,s2];exact hl) (by omega) (nF A.in1 r1 r2 h1 h2 λj x y v w u u' e1 e2 k1 k2 k3 k4=>(ih A.in1 x y v w u u' (by
      have:=mG (aIR e1);simp only [dT] at hd;omega) k1 k2 k3 k4 (by show A.units+1+n<bB7;omega)).2)
     rw [s1] at this;rw [<-hl,Nat.min_self,beq_self_eq_true,Bool.and_true];exact this
    ·have:=SeqAt.RcAt.lists_lengths p1.isList p2.isList (A:=A) (by rw [s1,s2];simpa using hl) (by omega);rw [show (xs.length==ys.length)=false by simpa using hl,bAI];exact this
   ·exact aAA I (by omega) (λxs ys z=>c1 ⟨xs,ys,z⟩) (λxs ys z=>c2 ⟨xs,ys,z⟩) hx hy rx ry
theorem aLW (I:aR X pins σ H s) {A:Around} {x y:T} {v w:V} {u u':Value} (n:Nat) (hd:dT x<=n) (hx:Rq X.K H x v) (hy:Rq X.K H y w) (rx:bC v u) (ry:bC w u') (hu:A.units+n<bB7):SeqAt.RcNeAt A s u u' (!(dZ x y)):=by
 by_cases c1:∃xs ys,x = .tup xs/\y = .tup ys
 ·obtain ⟨xs,ys,rfl,rfl⟩:=c1;obtain ⟨a,vs,rfl,q1,h1⟩:=hx;obtain ⟨b,ws,rfl,q2,h2⟩:=hy;cases rx;cases ry;obtain ⟨its,r1,p1,_⟩:=I.tuple q1;obtain ⟨js,r2,p2,_⟩:=I.tuple q2;have:=SeqAt.RcNeAt.tuples p1 p2 (A:=A) (by omega) (nF A.in1 r1 r2 h1 h2 λj x y v w u u' e1 e2 k1 k2 k3 k4=>(w4 I (n-1) A.in1 x y v w u u' (by
   have:=mG (aIR e1);simp only [dT] at hd;omega) k1 k2 k3 k4 (by show A.units+1+(n-1)<bB7;simp only [dT] at hd;omega)).2)
  rw [dZ,iD];have l1:=r1.length;have l2:=r2.length;have l3:=h1.length;have l4:=h2.length;have s1:its.toArray.size=xs.length:=by simp;omega
  have s2:js.toArray.size=ys.length:=by simp;omega
  rw [s1,s2] at this;exact this
 ·by_cases c2:∃xs ys,x = .lst xs/\y = .lst ys
  ·obtain ⟨xs,ys,rfl,rfl⟩:=c2;obtain ⟨a,vs,rfl,q1,h1⟩:=hx;obtain ⟨b,ws,rfl,q2,h2⟩:=hy;cases rx;cases ry;obtain ⟨its,r1,p1,_⟩:=I.list q1;obtain ⟨js,r2,p2,_⟩:=I.list q2;have l1:=r1.length;have l2:=r2.length;have l3:=h1.length;have l4:=h2.length;have s1:its.toArray.size=xs.length:=by simp;omega
   have s2:js.toArray.size=ys.length:=by simp;omega
   rw [dZ,iD]
   by_cases hl:xs.length=ys.length
   ·have:=SeqAt.RcNeAt.lists p1.isList p2.isList (A:=A) (by rw [s1,s2];exact hl) (by omega) (nF A.in1 r1 r2 h1 h2 λj x y v w u u' e1 e2 k1 k2 k3 k4=>(w4 I (n-1) A.in1 x y v w u u' (by
     have:=mG (aIR e1);simp only [dT] at hd;omega) k1 k2 k3 k4 (by show A.units+1+(n-1)<bB7;simp only [dT] at hd;omega)).2)
    rw [s1] at this;rw [<-hl,Nat.min_self,beq_self_eq_true,Bool.and_true];exact this
   ·have:=SeqAt.RcNeAt.lists_lengths p1.isList p2.isList (A:=A) (by rw [s1,s2];simpa using hl) (by omega);rw [show (xs.length==ys.length)=false by simpa using hl,bAI];exact this
  ·exact aFL I (by omega) (λxs ys z=>c1 ⟨xs,ys,z⟩) (λxs ys z=>c2 ⟨xs,ys,z⟩) hx hy rx ry
end
section
variable {X:Cx} {K:W.Frag} {pos:Pos} {a b c e o:Expr} {es:List Expr} {Fa Fb Fo:FE} {Fr:FA}
def aTB (K:W.Frag) (ng:Bool):R2:=λx y H Q=>∃t u,Rq K H t x/\Rq K H u y/\dT t<=60/\Q (.bl (if ng then !(dZ t u) else dZ t u)) H
theorem aH7 {k:Nat} (hr:cU k X.A):jP X (bA7 .Eq) (aTB X.K false):=by
 intro pins s σ H x y v u Q I rx ry h;obtain ⟨t,w,h1,h2,hd,q⟩:=h;exact (w4 I 60 X.A t w x y v u hd h1 h2 rx ry (by have:=hr.units;omega)).1 X.prog X.w X.xe _ (rP I q rfl)
theorem aRP {k:Nat} (hr:cU k X.A):jP X (bA7 .NotEq) (aTB X.K true):=by
 intro pins s σ H x y v u Q I rx ry h;obtain ⟨t,w,h1,h2,hd,q⟩:=h;exact aLW I 60 hd h1 h2 rx ry (by have:=hr.units;omega) X.prog X.w X.xe _ (rP I q rfl)
def t2 (x y:Option T) (k:T->T->Prop):Prop:=match x,y with
 | some t,some u=>k t u
 | _,_=>False
theorem t2.ex {x y:Option T} {k:T->T->Prop} (h:t2 x y k):∃t u,x=some t/\y=some u/\k t u:=by
 unfold t2 at h;split at h
 ·exact ⟨_,_,rfl,rfl,h⟩
 ·exact h.elim
def fEq (Fa Fb:FE):FE:=λE Q=>Fa E λx E1=>Fb E1 λy E2=>t2 (vl E2 x) (vl E2 y) λt u=>dT t<=60/\Q (.p (.bl (dZ t u))) E2
def fNe (Fa Fb:FE):FE:=λE Q=>Fa E λx E1=>Fb E1 λy E2=>t2 (vl E2 x) (vl E2 y) λt u=>dT t<=60/\Q (.p (.bl (!(dZ t u)))) E2
theorem gX {k:Nat} (eK:X.K=K) (hr:cU k X.A) (ha:QE X a (aL K Fa)) (hb:QE X b (aL K Fb)) (hm:bA5 .Eq b=false):QE X (.Compare a [.Eq] [b] pos) (aL K (fEq Fa Fb)):=by
 subst eK;refine (nH (aH7 hr) ha hb hm).le λσ H Q hl h=>two (Fa:=Fa) (Fb:=Fb) h λB S E x y v w H2 Q' hS re rx ry q lk=>?_;obtain ⟨t,u,e1,e2,hd,q⟩:=q.ex;exact ⟨t,u,(re.vl rx e1).rq,(re.vl ry e2).rq,hd,lk _ _ _ _ _ q .refl re rfl⟩
end
end L2
namespace L2
open PySem PySem.Spec PyProof.Rows
section
variable {X:Cx} {K:W.Frag} {pos:Pos} {a b c e o:Expr} {es:List Expr} {Fa Fb Fc Fo:FE} {Fr:FA}
theorem wQ {op:CmpOp} {r:R2} {F:FE} (ho:jP X (bA7 op) r) (ha:QE X a (aL K Fa)) (hb:QE X b (aL K Fb)) (hm:bA5 op b=false) (k:∀σ H Q,aL K F σ H Q->tOp r (aL K Fa) (aL K Fb) σ H Q):QT X (.Compare a [op] [b] pos) (d9 K (wR F)):=
 (aD3 ho ha hb hm).le λσ H Q z=>k _ _ _ (aMV z)
theorem dU {op:CmpOp} {g:Int->Int->Bool} (ho:jP X (bA7 op) (rI0 λi j=>.bl (g i j))) (ha:QE X a (aL K Fa)) (hb:QE X b (aL K Fb)) (hm:bA5 op b=false):QT X (.Compare a [op] [b] pos) (d9 K (wR (fCp g Fa Fb))):=
 wQ ho ha hb hm λσ H Q h=>two (Fa:=Fa) (Fb:=Fb) h λB S E x y v w H2 Q' hS re rx ry q lk=>by
  obtain ⟨i,j,e1,e2,q⟩:=i2.ex q;exact ⟨i,j,re.int rx e1,re.int ry e2,lk _ _ _ _ _ q .refl re rfl⟩
theorem dP {k:Nat} (eK:X.K=K) (hr:cU k X.A) (ha:QE X a (aL K Fa)) (hb:QE X b (aL K Fb)) (hm:bA5 .Eq b=false):QT X (.Compare a [.Eq] [b] pos) (d9 K (wR (fEq Fa Fb))):=by
 subst eK;refine wQ (aH7 hr) ha hb hm λσ H Q h=>two (Fa:=Fa) (Fb:=Fb) h λB S E x y v w H2 Q' hS re rx ry q lk=>?_;obtain ⟨t,u,e1,e2,hd,q⟩:=t2.ex q;exact ⟨t,u,(re.vl rx e1).rq,(re.vl ry e2).rq,hd,lk _ _ _ _ _ q .refl re rfl⟩
theorem iM {k:Nat} (eK:X.K=K) (hr:cU k X.A) (ha:QE X a (aL K Fa)) (hb:QE X b (aL K Fb)) (hm:bA5 .NotEq b=false):QT X (.Compare a [.NotEq] [b] pos) (d9 K (wR (fNe Fa Fb))):=by
 subst eK;refine wQ (aRP hr) ha hb hm λσ H Q h=>two (Fa:=Fa) (Fb:=Fb) h λB S E x y v w H2 Q' hS re rx ry q lk=>?_;obtain ⟨t,u,e1,e2,hd,q⟩:=t2.ex q;exact ⟨t,u,(re.vl rx e1).rq,(re.vl ry e2).rq,hd,lk _ _ _ _ _ q .refl re rfl⟩
def aLH:T->Bool
 | .non=>true
 | _=>false
theorem aOM {H:Hp} {t:T} {v:V} (h:Rq K H t v):decide (v = .non)=aLH t:=by
 cases t with
 | non=>cases h;rfl
 | bl _=>cases h;rfl
 | int _=>cases h;rfl
 | str _=>cases h;rfl
 | tup _=>obtain ⟨_,_,e,_⟩:=h;subst e;rfl
 | lst _=>obtain ⟨_,_,e,_⟩:=h;subst e;rfl
def aHV (ng:Bool) (Fa:FE):FE:=λE Q=>Fa E λx E1=>o1 (vl E1 x) λt=>Q (.p (.bl (if ng then !(aLH t) else aLH t))) E1
theorem aER {σ:St} {H:Hp} {Q:VK} (h:aL K (aHV false Fa) σ H Q):tOp (λx y H Q=>y = .non/\Q (.bl (decide (x = .non))) H) (aL K Fa) (tC .non) σ H Q:=
 one (Fa:=Fa) h λB S E x v H2 Q' hS re rx q lk=>by
  obtain ⟨t,e1,q⟩:=o1.ex q;exact ⟨rfl,by rw [aOM (re.vl rx e1).rq];exact lk _ _ _ _ _ q .refl re rfl⟩
theorem aJB {σ:St} {H:Hp} {Q:VK} (h:aL K (aHV true Fa) σ H Q):tOp (λx y H Q=>y = .non/\Q (.bl (!decide (x = .non))) H) (aL K Fa) (tC .non) σ H Q:=
 one (Fa:=Fa) h λB S E x v H2 Q' hS re rx q lk=>by
  obtain ⟨t,e1,q⟩:=o1.ex q;exact ⟨rfl,by rw [aOM (re.vl rx e1).rq];exact lk _ _ _ _ _ q .refl re rfl⟩
theorem aLA {j p2} (ha:QE X a (aL K Fa)) (hm:bA5 .Is (.Constant .none j p2)=false):QE X (.Compare a [.Is] [.Constant .none j p2] pos) (aL K (aHV false Fa)):=(nH aKV ha sR hm).le λ_ _ _ _ h=>aER h
theorem aD1 {j p2} (ha:QE X a (aL K Fa)) (hm:bA5 .IsNot (.Constant .none j p2)=false):QE X (.Compare a [.IsNot] [.Constant .none j p2] pos) (aL K (aHV true Fa)):=(nH aMS ha sR hm).le λ_ _ _ _ h=>aJB h
theorem wG {j p2} (ha:QE X a (aL K Fa)) (hm:bA5 .Is (.Constant .none j p2)=false):QT X (.Compare a [.Is] [.Constant .none j p2] pos) (d9 K (wR (aHV false Fa))):=(aD3 aKV ha sR hm).le λ_ _ _ h=>aER (aMV h)
def kdT:T->String
 | .non=>"NoneType"
 | .bl _=>"bool"
 | .int _=>"int"
 | .str _=>"str"
 | .tup _=>"tuple"
 | .lst _=>"list"
theorem aVK {H:Hp} {t:T} {v:V} (h:Rq K H t v):Kd K H v (kdT t):=by
 cases t with
 | non=>cases h;exact .non
 | bl _=>cases h;exact .bl _
 | int _=>cases h;exact .int _
 | str _=>cases h;exact .str _
 | tup _=>obtain ⟨_,_,e,h,_⟩:=h;subst e;exact .tup h
 | lst _=>obtain ⟨_,_,e,h,_⟩:=h;subst e;exact .lst h
def isL:T->Bool
 | .lst _=>true
 | _=>false
def isT:T->Bool
 | .tup _=>true
 | _=>false
def isS:T->Bool
 | .str _=>true
 | _=>false
def isB:T->Bool
 | .bl _=>true
 | _=>false
def isI:T->Bool
 | .int _=>true
 | .bl _=>true
 | _=>false
theorem aCZ:∀t,isL t=qC (kdT t) "list":=by intro t;cases t<;>simp [isL,qC,kdT]
theorem iY:∀t,isT t=qC (kdT t) "tuple":=by intro t;cases t<;>simp [isT,qC,kdT]
theorem aG6:∀t,isS t=qC (kdT t) "str":=by intro t;cases t<;>simp [isS,qC,kdT]
theorem xB:∀t,isB t=qC (kdT t) "bool":=by intro t;cases t<;>simp [isB,qC,kdT]
theorem aOS:∀t,isI t=qC (kdT t) "int":=by intro t;cases t<;>simp [isI,qC,kdT]
def aV3 (f:T->Bool) (Fa:FE):FE:=λE Q=>Fa E λx E1=>o1 (vl E1 x) λt=>Q (.p (.bl (f t))) E1
def aVC (f g:T->Bool) (Fa:FE):FE:=λE Q=>Fa E λx E1=>o1 (vl E1 x) λt=>Q (.p (.bl (f t||g t))) E1
theorem cZ {x:Str} {T1:String} {f:T->Bool} {p p1:Pos} (kf:∀t,f t=qC (kdT t) T1) (eK:X.K=K) (hg:Gl X "isinstance") (hm:X.mg "isinstance" = none) (ha:QE X a (aL K Fa)) (h1:Gl X x) (m1:X.mg x=none) (b1:bA3 x=some (.type T1)) (hT:T1∈tys) (n1:x≠"__name__":=by decide) (d1:(x==("__debug__":Str))=false:=by decide) (hs:bR a=false:=by rfl) (hns:bB [a,.Name x p1]=true:=by rfl) :
  QE X (.Call (.Name "isinstance" p) [a,.Name x p1] [] pos) (aL K (aV3 f Fa)):=by
 subst eK;refine (dI aKO hg hm bB5 (qc ha (qc (aDY (v:=.ty T1) h1 m1 b1 rfl n1 d1) oI) hs) (by decide) (by decide) hns).le λσ H Q hl h=>one (Fa:=Fa) h λB S E x v H2 Q' hS re rx q lk=>?_;obtain ⟨t,e1,q⟩:=o1.ex q;rw [kf] at q;exact ⟨v,_,T1,rfl,aVK (re.vl rx e1).rq,hT,lk _ _ _ _ _ q .refl re rfl⟩
theorem aM3 {x1 x2:Str} {T1 T2:String} {f g:T->Bool} {p p1 p2 p3:Pos} {k:Nat} (kf:∀t,f t=qC (kdT t) T1) (kg:∀t,g t=qC (kdT t) T2) (eK:X.K=K) (hg:Gl X "isinstance") (hm:X.mg "isinstance" = none) (he:QE X e (aL K Fa)) (h1:Gl X x1) (m1:X.mg x1=none) (b1:bA3 x1=some (.type T1)) (h2:Gl X x2) (m2:X.mg x2=none) (b2:bA3 x2=some (.type T2))
  (hT1:T1∈tys) (hT2:T2∈tys) (hs:bR e=false:=by rfl) (n1:x1≠"__name__":=by decide) (d1:(x1==("__debug__":Str))=false:=by decide) (n2:x2≠"__name__":=by decide) (d2:(x2==("__debug__":Str))=false:=by decide) :
  QE X (.Call (.Name "isinstance" p) [e,.Tuple [.Name x1 p1,.Name x2 p2] k p3] [] pos) (aL K (aVC f g Fa)):=by
 subst eK;refine (aOG hg hm he h1 m1 b1 h2 m2 b2 hs n1 d1 n2 d2).le λσ H Q hl h=>one (Fa:=Fa) h λB S E x v H2 Q' hS re rx q lk=>?_;obtain ⟨t,e1,q⟩:=o1.ex q;rw [kf,kg] at q;refine ⟨_,aVK (re.vl rx e1).rq,hT1,hT2,λp hp=>?_⟩;have s:∀b o,H2 b=some o->(upd H2 p (.tup [.ty T1,.ty T2])) b=some o:=λb o e=>by rw [aS (aQ e hp)];exact e
 exact lk _ _ _ _ _ q ⟨Kp.upd hp,[],by simp⟩ (re.kept s) rfl
def cK (xs:List T) (lo hi:Option Int):List T:=(xs.drop (HT.sIx xs.length 0 lo)).take (HT.sIx xs.length xs.length hi-HT.sIx xs.length 0 lo)
theorem aRD {H:Hp} {O:bAO->Prop} {xs:List T} {vs:List V} {lo hi:Option Int} (h:bW K H O xs vs):bW K H O (cK xs lo hi) (aF7 vs lo hi):=by
 unfold cK aF7;rw [h.length];exact (h.drop _).take _
abbrev FO:=En->(Option Int->En->Prop)->Prop
def tU (K:W.Frag) (F:FO):TO:=λσ H Q=>∃B S E Q',(∃τ,S=σ++τ)/\RE K B H S E/\F E Q'/\∀b E' H' S',Q' b E'->Gr B H S E H' S' E'->RE K B H' S' E'->Q b H'
theorem QO.le {e:Option Expr} {t t':TO} (h:QO X e t) (m:∀σ H Q,t' σ H Q->t σ H Q):QO X e t':=⟨λpins s σ H Q I z=>h.h pins s σ H Q I (m σ H Q z)⟩
def aJG:FO:=λE Q=>Q none E
def aDG (Fa:FE):FO:=λE Q=>Fa E λx E1=>i1 (vl E1 x) λi=>Q (some i) E1
theorem cA:QO X none (tU K aJG):=aLV.le λσ H Q ⟨B,S,E,Q',hS,re,hF,lk⟩=>lk _ _ _ _ hF .refl re
theorem a9 (h:QE X e (aL K Fa)):QO X (some e) (tU K (aDG Fa)):=(aNK h).le λσ H Q ⟨B,S,E,Q',hS,re,hF,lk⟩=>⟨B,S,E,_,hS,re,hF,λr E1 v H1 S1 q g re1 rr=>by
 obtain ⟨i,e1,q⟩:=i1.ex q;exact ⟨i,re1.int rr e1,lk _ _ _ _ q g re1⟩⟩
variable {Gl' Gh:FO}
def aJM (Fa:FE) (Gl' Gh:FO):FE:=λE Q=>Fa E λx E1=>Gl' E1 λlo E2=>Gh E2 λhi E3=>match vl E3 x with
 | some (.lst xs)=>Q (.s E3.length) (E3++[some (.o false (cK xs lo hi))])
 | _=>False
theorem bU {lo hi:Option Expr} {p2:Pos} (eK:X.K=K) (he:QE X e (aL K Fa)) (hl:QO X lo (tU K Gl')) (hu:QO X hi (tU K Gh)):QE X (.Subscript e (.Slice lo hi none p2) pos) (aL K (aJM Fa Gl' Gh)):=by
 subst eK;refine (yX aL6 he hl hu).le λσ H Q _ ⟨B,S,E,Q',⟨τ,hS⟩,re,hF,lk⟩=>⟨B,S,E,_,⟨τ,hS⟩,re,hF,λx E1 v H1 S1 q g1 re1 rx=>?_⟩;obtain ⟨τ1,hS1⟩:=g1.pre;refine ⟨B,S1,E1,_,⟨τ++τ1,by rw [hS1,hS,aEE]⟩,re1,q,λl E2 H2 S2 q2 g2 re2=>?_⟩;obtain ⟨τ2,hS2⟩:=g2.pre;refine ⟨B,S2,E2,_,⟨τ++τ1++τ2,by rw [hS2,hS1,hS,aEE,aEE,aEE]⟩,re2,q2,λh E3 H3 S3 q3 g3 re3=>?_⟩;have rx3:=(rx.step g2).step g3;split at q3
 ·rename_i xs e1;obtain ⟨a,vs,e2,sq,rs⟩:=re3.vl rx3 e1;refine ⟨a,vs,e2,sq,λp hp=>?_⟩;obtain ⟨g,re'⟩:=re3.lst hp (aRD (lo:=l) (hi:=h) rs);exact lk _ _ _ _ _ q3 (((g1.trans g2).trans g3).trans g) re' (by rw [<-re3.len];exact fX)
 ·exact q3.elim
def ownOf (E:En):R->Option (List T)
 | .s j=>match E[j]? with
  | some (some (.o _ xs))=>some xs
  | _=>none
 | _=>none
theorem RE.ownOf {B:bAO->Prop} {H:Hp} {S:St} {E:En} (re:RE K B H S E) {r:R} {v:V} {xs:List T} (h:RR K B H S E r v) (e:L2.ownOf E r=some xs):∃j k a vs,r = .s j/\E[j]? = some (some (.o k xs))/\S[j]? = some (some (.ref a))/\v = .ref a/\H a=some (.lst vs)/\bW K H (Ow B S E) xs vs:=by
 cases r with
 | p _=>cases e
 | s j=>
  cases q:E[j]? with
  | none=>simp only [L2.ownOf,q] at e;cases e
  | some u=>
   cases u with
   | none=>simp only [L2.ownOf,q] at e;cases e
   | some u=>
    cases u with
    | p _=>simp only [L2.ownOf,q] at e;cases e
    | o k ys=>
     simp only [L2.ownOf,q] at e;cases e;obtain ⟨a,vs,h1,h2,h3,_⟩:=re.own j k xs q;have h':S[j]? = some (some v):=h;rw [h'] at h1;cases h1;exact ⟨j,k,a,vs,rfl,q,h',rfl,h2,h3⟩
def l2 (x y:Option (List T)) (k:List T->List T->Prop):Prop:=match x,y with
 | some t,some u=>k t u
 | _,_=>False
theorem l2.ex {x y:Option (List T)} {k:List T->List T->Prop} (h:l2 x y k):∃t u,x=some t/\y=some u/\k t u:=by
 unfold l2 at h;split at h
 ·exact ⟨_,_,rfl,rfl,h⟩
 ·exact h.elim
def aUU (Fa Fb:FE):FE:=λE Q=>Fa E λx E1=>Fb E1 λy E2=>l2 (ownOf E2 x) (ownOf E2 y) λxs ys=>xs.length+ys.length<=1000/\Q (.s E2.length) (E2++[some (.o false (xs++ys))])
theorem gG (ha:QE X a (aL K Fa)) (hb:QE X b (aL K Fb)):QE X (.BinOp a .Add b pos) (aL K (aUU Fa Fb)):=by
 refine (uZ aSB ha hb).le λσ H Q hl h=>two (Fa:=Fa) (Fb:=Fb) h λB S E x y v w H2 Q' hS re rx ry q lk=>?_;obtain ⟨xs,ys,e1,e2,hz,q⟩:=l2.ex q;obtain ⟨j,k,p,vs,_,_,_,rfl,h2,h3⟩:=re.ownOf rx e1;obtain ⟨j',k',p',vs',_,_,_,rfl,h2',h3'⟩:=re.ownOf ry e2;refine ⟨p,p',vs,vs',rfl,rfl,h2,h2',by rw [h3.length,h3'.length];exact aVY (b8 hz),λr hr=>?_⟩;obtain ⟨g,re'⟩:=re.lst hr (h3.append h3');exact lk _ _ _ _ _ q g re' (by rw [<-re.len];exact fX)
def aGU (k:Int) (xs:List T):List T:=(aEH k.toNat xs).flatten
theorem aKJ {H:Hp} {O:bAO->Prop} {xs:List T} {vs:List V} (h:bW K H O xs vs):∀n:Nat,bW K H O (aEH n xs).flatten (aEH n vs).flatten
 | 0=>by simp [bW]
 | n+1=>by rw [aVW,aVW,aSX,aSX];exact h.append (aKJ h n)
def aWO (Fa Fb:FE):FE:=λE Q=>Fa E λx E1=>Fb E1 λy E2=>o1 (ownOf E2 x) λxs=>i1 (vl E2 y) λk=>(-(2^63)<=k/\k<2^63/\xs.length*k.toNat<=1000)/\Q (.s E2.length) (E2++[some (.o false (aGU k xs))])
theorem aRS (ha:QE X a (aL K Fa)) (hb:QE X b (aL K Fb)):QE X (.BinOp a .Mult b pos) (aL K (aWO Fa Fb)):=by
 refine (uZ aQJ ha hb).le λσ H Q hl h=>two (Fa:=Fa) (Fb:=Fb) h λB S E x y v w H2 Q' hS re rx ry q lk=>?_;obtain ⟨xs,e1,q⟩:=o1.ex q;obtain ⟨k,e2,⟨c1,c2,c3⟩,q⟩:=i1.ex q;obtain ⟨j,kk,p,vs,_,_,_,rfl,h2,h3⟩:=re.ownOf rx e1;refine ⟨p,k,vs,rfl,re.int ry e2,h2,c1,c2,by rw [h3.length];exact aVY (b8 c3),λr hr=>?_⟩;obtain ⟨g,re'⟩:=re.lst hr (aKJ h3 k.toNat);exact lk _ _ _ _ _ q g re' (by rw [<-re.len];exact fX)
def aM9 (Fr:FA):FE:=λE Q=>Fr E λrs E1=>match rs with
 | [x]=>o1 ((vl E1 x).bind aTE) λxs=>Q (.s E1.length) (E1++[some (.o false xs)])
 | _=>False
theorem aGH {n:Nat} {p:Pos} (eK:X.K=K) (hg:Gl X "list") (hm:X.mg "list" = none) (ha:QA X (e::es) (cQ K n Fr)) (hs:bB (e::es)=true:=by rfl):QE X (.Call (.Name "list" p) (e::es) [] pos) (aL K (aM9 Fr)):=by
 subst eK;refine (iA xZ hg hm (by decide +kernel) ha (by decide) (by decide) hs).le λσ H Q hl h=>args (Fr:=Fr) h λB S E rs vs H2 Q' hS re rr hn q lk=>?_
 match rs,rr,q with
 | [x],⟨v,ws,e1,h1,h2⟩,q=>
  cases h2;subst e1;obtain ⟨xs,e2,q⟩:=o1.ex q;obtain ⟨t,e3,e2⟩:=aY7.mp e2;have rt:=re.vl h1 e3;have:∃p us,v = .ref p/\(kF X.K H2 p us\/tP X.K H2 p us)/\bW X.K H2 (Ow B S E) xs us:=by
   cases t with
   | tup ys=>cases e2;obtain ⟨p,us,e,sq,rs⟩:=rt;exact ⟨p,us,e,.inr sq,rs⟩
   | lst ys=>cases e2;obtain ⟨p,us,e,sq,rs⟩:=rt;exact ⟨p,us,e,.inl sq,rs⟩
   | _=>cases e2
  obtain ⟨p,us,rfl,sq,rs⟩:=this;refine ⟨p,us,rfl,sq,λr hr=>?_⟩;obtain ⟨g,re'⟩:=re.lst hr rs;exact lk _ _ _ _ _ q g re' (by rw [<-re.len];exact fX)
 | [],_,q=>exact q.elim
 | _::_::_,_,q=>exact q.elim
def aQP (Fr:FA):FE:=λE Q=>Fr E λrs E1=>match rs with
 | [x]=>(match vl E1 x with
  | some (.lst xs)=>Q (.p (.tup xs)) E1
  | _=>False)
 | _=>False
theorem sW {n:Nat} {p:Pos} (eK:X.K=K) (hg:Gl X "tuple") (hm:X.mg "tuple" = none) (ha:QA X (e::es) (cQ K n Fr)) (hs:bB (e::es)=true:=by rfl):QE X (.Call (.Name "tuple" p) (e::es) [] pos) (aL K (aQP Fr)):=by
 subst eK;refine (iA tX hg hm (by decide +kernel) ha (by decide) (by decide) hs).le λσ H Q hl h=>args (Fr:=Fr) h λB S E rs vs H2 Q' hS re rr hn q lk=>?_
 match rs,rr,q with
 | [x],⟨v,ws,e1,h1,h2⟩,q=>
  cases h2;subst e1;simp only at q;split at q
  ·rename_i xs e2;obtain ⟨p,us,rfl,sq,rs⟩:=re.vl h1 e2;refine ⟨p,us,rfl,.inl ⟨sq,λr hr=>?_⟩⟩;obtain ⟨g,re',rp⟩:=re.tup hr rs;exact lk _ _ _ _ _ q g re' rp
  ·exact q.elim
 | [],_,q=>exact q.elim
 | _::_::_,_,q=>exact q.elim
def iX:List T->Option (List Bool)
 | []=>some []
 | .bl b::xs=>(iX xs).map (b::·)
 | _=>none
theorem aJC {H:Hp} {O:bAO->Prop}:∀{xs:List T} {vs:List V} {bs:List Bool},bW K H O xs vs->iX xs=some bs->vs=bs.map V.bl
 | [],_,_,h,e=>by cases e;exact h
 | .bl b::xs,_,bs,⟨v,r,e1,h1,h2⟩,e=>by
  cases q:iX xs with
  | none=>rw [iX,q] at e;cases e
  | some cs=>
   rw [iX,q] at e;cases e;cases h1;rw [e1,aJC h2 q];rfl
 | .non::_,_,_,_,e=>by cases e
 | .int _::_,_,_,_,e=>by cases e
 | .str _::_,_,_,_,e=>by cases e
 | .tup _::_,_,_,_,e=>by cases e
 | .lst _::_,_,_,_,e=>by cases e
def aXE (Fr:FA):FE:=λE Q=>Fr E λrs E1=>match rs with
 | [x]=>(match vl E1 x with
  | some (.lst xs)=>o1 (iX xs) λbs=>Q (.p (.bl (bs.all id))) E1
  | _=>False)
 | _=>False
theorem aCK {n:Nat} {p:Pos} (eK:X.K=K) (hc:X.calm=true) (hg:Gl X "all") (hm:X.mg "all" = none) (ha:QA X (e::es) (cQ K n Fr)) (hs:bB (e::es)=true:=by rfl):QE X (.Call (.Name "all" p) (e::es) [] pos) (aL K (aXE Fr)):=by
 subst eK;refine (dI (aFC hc) hg hm boot_all ha (by decide) (by decide) hs).le λσ H Q hl h=>args (Fr:=Fr) h λB S E rs vs H2 Q' hS re rr hn q lk=>?_
 match rs,rr,q with
 | [x],⟨v,ws,e1,h1,h2⟩,q=>
  cases h2;subst e1;simp only at q;split at q
  ·rename_i xs e2;obtain ⟨p,us,rfl,sq,rs⟩:=re.vl h1 e2;obtain ⟨bs,e3,q⟩:=o1.ex q;refine ⟨p,bs,rfl,by rw [<-aJC rs e3];exact sq,lk _ _ _ _ _ q .refl re rfl⟩
  ·exact q.elim
 | [],_,q=>exact q.elim
 | _::_::_,_,q=>exact q.elim
def aIL (f:List T->R->En->Option (List T)) (Fo:FE) (Fr:FA):FE:=λE Q=>Fo E λo E1=>o1 (ownOf E1 o) λ_=>Fr E1 λrs E2=>match o,rs with
 | .s j,[r]=>(match E2[j]? with
  | some (some (.o k xs))=>o1 (f xs r E2) λys=>ys.length<=1000/\Q (.p .non) (E2.set j (some (.o k ys)))
  | _=>False)
 | _,_=>False
def aXC (xs:List T) (r:R) (E:En):Option (List T):=match r with
 | .p t=>some (xs++[t])
 | _=>none
theorem aUB {f:List T->R->En->Option (List T)} {r:V->List V->Hp->VK->Prop} {n:Nat} {σ:St} {H:Hp} {Q:VK} (eK:X.K=K) (h:aL K (aIL f Fo Fr) σ H Q)
  (hr:∀(B:bAO->Prop) (S:St) (E:En) (H2:Hp) (xs ys:List T) (rr:R) (y:V) (p:bAO) (vs:List V) (Q:VK),RE K B H2 S E->RR K B H2 S E rr y->f xs rr E=some ys->H2 p=some (.lst vs)->bW K H2 (Ow B S E) xs vs->ys.length<=1000->
   (∀ws,bW K H2 (Ow B S E) ys ws->Q .non (upd H2 p (.lst ws)))->r (.ref p) [y] H2 Q):tBM X.K "list" r (aL K Fo) (cQ K n Fr) σ H Q:=by
 subst eK;obtain ⟨B,S,E,Q',⟨τ,hS⟩,re,hF,lk⟩:=h;refine ⟨B,S,E,_,⟨τ,hS⟩,re,hF,λoo E1 v H1 S1 q g1 re1 rx=>?_⟩;obtain ⟨τ1,hS1⟩:=g1.pre;obtain ⟨xs0,e0,q⟩:=o1.ex q;obtain ⟨j,k,p,vs,rfl,hE,hSj,rfl,h2,h3⟩:=re1.ownOf rx e0;refine ⟨.inl ⟨rfl,vs,kF.of h2⟩,B,S1,E1,_,⟨τ++τ1,by rw [hS1,hS,aEE]⟩,re1,q,λrs E2 us H2 S2 q2 g2 re2 rr hn=>?_⟩;have hSj2:S2[j]? = some (some (.ref p)):=dM g2.pre hSj
 match rs,rr,q2 with
 | [r'],⟨y,ws,e1,k1,k2⟩,q2=>
  cases k2;subst e1;simp only at q2;split at q2
  ·rename_i k2 xs hE2;obtain ⟨ys,e3,hz,q2⟩:=o1.ex q2;obtain ⟨p',vs2,z1,z2,z3,_⟩:=re2.own j k2 xs hE2;rw [hSj2] at z1;cases z1;refine hr B S2 E2 H2 xs ys r' y p vs2 Q re2 k1 e3 z2 z3 hz λws hw=>?_;obtain ⟨g3,re3⟩:=re2.put hE2 hSj2 hw;exact lk _ _ _ _ _ q2 ((g1.trans g2).trans g3) re3 rfl
  ·exact q2.elim
 | [],_,q2=>exact q2.elim
 | _::_::_,_,q2=>exact q2.elim
theorem eN {n:Nat} {ap:Pos} (eK:X.K=K) (ho:QE X o (aL K Fo)) (ha:QA X [e] (cQ K n Fr)) (hbase:bA4 o "append" X.env (bA2 o X.env)=bA2 o X.env:=by rfl) (hline:(ap.endLine==pos.line)=true:=by rfl) (hs:bR e=false:=by rfl) :
  QE X (.Call (.Attribute o "append" ap) [e] [] pos) (aL K (aIL aXC Fo Fr)):=
 (aF5 ho ha hbase hline hs).le λσ H Q hl h=>aUB eK h λB S E H2 xs ys rr y p vs Q re rx e hp hv hz k=>by
  cases rr with
  | s _=>cases e
  | p t=>
   cases e;refine ⟨p,vs,y,rfl,rfl,hp,?_,k _ (hv.append ⟨y,[],rfl,rx,rfl⟩)⟩;rw [hv.length];rw [aBN] at hz;exact b8 (by simp at hz;omega)
end
end L2
namespace L2
open PySem PySem.Spec PyProof.Rows
abbrev eH (h:Heap) (T:bAO) (xs:Array Value):Prop:=h.get? T=some { cls:=.type "tuple",data:=.seq xs }
end L2
namespace L2
open PySem PySem.Spec PyProof.Rows
structure ZQ where
 κ:Bool
 a:bAO
 it:bAO
 items:Array Value
structure ZA (z TI TO:bAO) (ps:List ZQ):Prop where
 tz:TI≠z
 oz:TO≠z
 to:TI≠TO
 iz:∀p∈ps,p.it≠z/\p.it≠TI/\p.it≠TO
 az:∀p∈ps,p.a≠z/\p.a≠TO
 ai:∀p∈ps,∀q∈ps,p.a≠q.it
 ii:∀(i j:Nat) (p q:ZQ),ps[i]? = some p->ps[j]? = some q->p.it=q.it->i=j
section
variable {prog:bAR} {w:bAU} {A:Around} {E:Value->Shared->Prop} {s:Shared}
theorem zL {α β:Type} {M:Model} {body:α->β->Sem (ForInStep β)} {b0:β}:∀(xs:List α) (W:Nat->Shared->Prop) (s:Shared) (Q:β->Shared->Prop),
  (∀j x s,xs[j]? = some x->W j s->bAQ M A (body x b0) (λr s'=>r = .yield b0/\W (j+1) s') E s)->W 0 s->(∀s',W xs.length s'->Q b0 s')->bAQ M A (forIn xs b0 body) Q E s
 | [],W,s,Q,_,h0,hq=>by
  rw [aZO];exact bAT (hq s h0)
 | x::xs,W,s,Q,hs,h0,hq=>by
  rw [aXW];refine bAP (b9 (hs 0 x s rfl h0) λr s' ⟨e,h1⟩=>?_);subst e;exact zL xs (λj=>W (j+1)) s' Q (λj y s'' hy hw=>hs (j+1) y s'' (by simpa using hy) hw) h1 (λs'' h=>hq s'' (by simpa using h))
theorem pP {α β:Type} {M:Model} {body:α->β->Sem (ForInStep β)} {b0:β}:∀(m:Nat) (xs:List α) (W:Nat->Shared->Prop) (s:Shared) (Q:β->Shared->Prop) (y:α),xs[m]? = some y->
  (∀j x s,j<m->xs[j]? = some x->W j s->bAQ M A (body x b0) (λr s'=>r = .yield b0/\W (j+1) s') E s)->W 0 s->(∀s',W m s'->bAQ M A (body y b0) (λ_ _=>False) E s')->bAQ M A (forIn xs b0 body) Q E s
 | m,[],W,s,Q,y,hy,_,_,_=>by simp at hy
 | 0,x::xs,W,s,Q,y,hy,hs,h0,hm=>by
  rw [aXW];simp at hy;subst hy;exact bAP (b9 (hm s h0) λ_ _ z=>z.elim)
 | m+1,x::xs,W,s,Q,y,hy,hs,h0,hm=>by
  rw [aXW];refine bAP (b9 (hs 0 x s (by omega) rfl h0) λr s' ⟨e,h1⟩=>?_);subst e;exact pP m xs (λj=>W (j+1)) s' Q y (by simpa using hy) (λj z s'' hj hz hw=>hs (j+1) z s'' (by omega) (by simpa using hz) hw) h1 hm
def ZW (s:Shared) (z TI TO:bAO) (ps:List ZQ) (k j:Nat) (s':Shared):Prop:=∃(h:Heap) (tk:Nat),s' = { s with heap:=h,toks:=tk }/\bB8 h z TI TO .ellipsis/\
 (∃cur:Array Value,eH h TO cur/\cur.size=ps.length/\∀(l:Nat) (q:ZQ),l<j->ps[l]? = some q->∃x,q.items[k]? = some x/\cur[l]? = some x)/\
 (∀(l:Nat) (q:ZQ),ps[l]? = some q->gW q.κ h q.it q.a (if l<j then k+1 else k)/\qL q.κ h q.a q.items)/\
 (∀c o,c≠z->c≠TO->(∀q∈ps,c≠q.it)->s.heap.get? c=some o->h.get? c=some o)/\h.objs.size=s.heap.objs.size
theorem qL.at {κ:Bool} {h h':Heap} {a:bAO} {its:Array Value} (x:qL κ h a its) (e:∀o,h.get? a=some o->h'.get? a=some o):qL κ h' a its:=by
 cases κ
 ·exact Heap.IsList.at x e
 ·exact Heap.IsTuple.at x e
theorem d8 {ps:List ZQ} {l:Nat} {q:ZQ} (h:ps[l]? = some q):q∈ps:=aIR h
theorem aPE {z TI TO:bAO} {ps:List ZQ} {k j:Nat} {q:ZQ} (hA:A.handled=none) (ap:ZA z TI TO ps) (hl:ps.length<=1000) (hq:ps[j]? = some q) (hk:k<q.items.size) {s':Shared} (W:ZW s z TI TO ps k j s') {Q:Option Value->Shared->Prop}
  (g:∀x s2,(∃(h:Heap) (tk:Nat),s2 = { s with heap:=h,toks:=tk }/\q.items[k]? = some x/\bB8 h z TI TO .ellipsis/\
    (∃cur:Array Value,eH h TO cur/\cur.size=ps.length/\∀(l:Nat) (q:ZQ),l<j->ps[l]? = some q->∃x,q.items[k]? = some x/\cur[l]? = some x)/\
    (∀(l:Nat) (q:ZQ),ps[l]? = some q->gW q.κ h q.it q.a (if l<j+1 then k+1 else k)/\qL q.κ h q.a q.items)/\
    (∀c o,c≠z->c≠TO->(∀q∈ps,c≠q.it)->s.heap.get? c=some o->h.get? c=some o)/\h.objs.size=s.heap.objs.size)->Q (some x) s2) :
  bAQ (bAV prog w) A (Builtin.SmallTypes.nextOf (.ref q.it) >>= λx=>pure (some x)) Q E s':=by
 obtain ⟨h,tk,rfl,hz,⟨cur,c1,c2,c3⟩,hi,kp,szh⟩:=W;have hqm:=d8 hq;have D:=aHY (prog:=prog) (w:=w) q.κ hA q.it q.a (ap.ai q hqm q hqm) q.items;obtain ⟨i1,i2⟩:=hi j q hq;rw [if_neg (Nat.lt_irrefl j)] at i1;refine bAP (D.item k _ _ _ hk ⟨i1,i2⟩ λx hb tb px gb sb=>bAT (g x _ ⟨hb,tb,rfl,px,?_,⟨cur,?_,c2,c3⟩,λl p hp=>?_,λc o n1 n2 n3 e=>?_,?_⟩))
 ·exact sb.extBut _ _ (Ne.symm (ap.iz q hqm).1) hz
 ·exact sb.extBut _ _ (Ne.symm (ap.iz q hqm).2.2) c1
 ·by_cases e:l=j
  ·subst e;rw [hq] at hp;cases hp;rw [if_pos (aXF _)];exact gb
  ·obtain ⟨a1,a2⟩:=hi l p hp;have ne:p.it≠q.it:=λz=>e (ap.ii l j p q hp hq z);have el:(if l<j+1 then k+1 else k)=(if l<j then k+1 else k):=by
    by_cases c:l<j
    ·rw [if_pos c,if_pos (by omega)]
    ·rw [if_neg c,if_neg (by omega)]
   rw [el];exact ⟨a1.at λo x=>sb.extBut _ _ ne x,a2.at λo x=>sb.extBut _ _ (ap.ai p (d8 hp) q hqm) x⟩
 ·exact sb.extBut _ _ (n3 q hqm) (kp c o n1 n2 n3 e)
 ·rw [sb.1];exact szh
theorem aGT {z TI TO:bAO} {ps:List ZQ} {k:Nat} {old:Array Value} {Q:Value->Shared->Prop} (hA:A.handled=none) (ap:ZA z TI TO ps) (hne:ps≠[]) (hl:ps.length<=1000)
  (gz:bB8 s.heap z TI TO .none) (gI:eH s.heap TI (ps.map λp=>aSW p.it).toArray) (gO:eH s.heap TO old) (ho:old.size=ps.length)
  (gi:∀p∈ps,gW p.κ s.heap p.it p.a k/\qL p.κ s.heap p.a p.items) (gk:∀p∈ps,k<p.items.size)
  (gq:∀(xs:List Value) h' tk,xs.length=ps.length->(∀(l:Nat) (q:ZQ),ps[l]? = some q->∃x,q.items[k]? = some x/\xs[l]? = some x)->bB8 h' z TI TO (bA6 s.heap.objs.size)->(∃cur:Array Value,eH h' TO cur/\cur.size=ps.length)->
   (∀p∈ps,gW p.κ h' p.it p.a (k+1))->eH h' s.heap.objs.size xs.toArray->h'.objs.size=s.heap.objs.size+1->
   (∀c o,c≠z->c≠TO->(∀q∈ps,c≠q.it)->s.heap.get? c=some o->h'.get? c=some o)->Q (.ref s.heap.objs.size) { s with heap:=h',toks:=tk }) :
  bAQ (bAV prog w) A (Builtin.«zip.__next__» ⟨[.ref z],[]⟩) (λfin s'=>∃v,fin = .done (.ret v)/\Q v s') E s:=by
 show bAQ _ _ (field (.ref z) 2 >>= _) _ _ _;refine bAP (bA1 gz rfl (x:=.bool false) rfl ?_);show bAQ _ _ (field (.ref z) 3 >>= _) _ _ _;refine bAP (bA1 gz rfl (x:=.ref TI) rfl (bAP (bBS gI rfl ?_)));have hem:((ps.map λp=>aSW p.it).toArray).isEmpty=false:=by
  cases ps with
  | nil=>exact absurd rfl hne
  | cons p r=>simp
 simp only [hem,aX5,if_false];refine bAP ?_;unfold Builtin.SmallTypes.ownedTupleIsFree;refine bAP (bA1 gz rfl (x:=.none) rfl (bAT ?_));simp only [if_true];refine bAP (bCG (bAP (bA1 gz rfl (x:=.ref TO) rfl (bAP (bBW gz (by simp) λha za sa=>?_)))));have za':bB8 ha z TI TO .ellipsis:=za;refine bAP ?_;have W0:ZW s z TI TO ps k 0 { s with heap:=ha }:=by
  refine ⟨ha,s.toks,rfl,za',⟨old,sa.extBut _ _ ap.oz gO,ho,λl q h=>absurd h (aXI _)⟩,λl q hq=>?_,λc o n1 n2 n3 e=>sa.extBut _ _ n1 e,sa.1⟩;obtain ⟨g1,g2⟩:=gi q (d8 hq);rw [if_neg (aXI _)];exact ⟨g1.at λo e=>sa.extBut _ _ (ap.iz q (d8 hq)).1 e,g2.at λo e=>sa.extBut _ _ (ap.az q (d8 hq)).1 e⟩
 refine zL _ (ZW s z TI TO ps k) _ _ (λj x s' hx hW=>?_) W0 (λs' hW=>?_)
 ·have hxq:∃q,ps[j]? = some q/\x=(aSW q.it,j):=by
   rw [aZI] at hx;simp only [aEO,Option.map_map] at hx;cases q:ps[j]? with
   | none=>simp [q] at hx
   | some p=>simp [q] at hx;exact ⟨p,rfl,hx.symm⟩
  obtain ⟨q,hq,rfl⟩:=hxq;have hj:j<ps.length:=(aA8.mp hq).1;refine bAP (wpAny_onRaise ?_);show bAQ _ _ (Builtin.SmallTypes.nextOf (.ref q.it) >>= _) _ _ _;refine aPE hA ap hl hq (gk q (d8 hq)) hW λx s2 ⟨h,tk,es,px,hz,⟨cur,c1,c2,c3⟩,hi,kp,szh⟩=>?_;subst es;have c1':h.get? TO=some { cls:=.type "tuple",data:=.seq cur }:=c1;refine bAP (bBS c1' rfl (bAP (wpAny_updateSeq c1' rfl ?_ (by rw [c2];exact aVY (b8 hl)) (by simp;rw [c2];exact Nat.le_succ_of_le (aVY (b8 hl))))));refine bAP (wpAny_letGo (bAT ⟨rfl,?_⟩));have su:aYR TO h (h.update TO (aXP (·.setIfInBounds j x))):=Heap.SameBut.update ..;have gu:eH (h.update TO (aXP (·.setIfInBounds j x))) TO (cur.setIfInBounds j x):=by
   show (h.update TO (aXP (·.setIfInBounds j x))).get? TO=_;rw [aQU _ c1' rfl];simp [aXP]
  refine ⟨_,tk,rfl,su.extBut _ _ (Ne.symm ap.oz) hz,⟨_,gu,by simp [c2],λl p hl' hp=>?_⟩,λl p hp=>?_,λc o n1 n2 n3 e=>su.extBut _ _ n2 (kp c o n1 n2 n3 e),by rw [su.1];exact szh⟩
  ·by_cases e:l=j
   ·subst e;rw [hq] at hp;cases hp;exact ⟨x,px,by rw [aY2 (by rw [c2];exact hj)]⟩
   ·obtain ⟨y,y1,y2⟩:=c3 l p (by omega) hp;exact ⟨y,y1,by rw [aZE (λz=>e z.symm)];exact y2⟩
  ·obtain ⟨a1,a2⟩:=hi l p hp;exact ⟨a1.at λo e=>su.extBut _ _ (ap.iz p (d8 hp)).2.2 e,a2.at λo e=>su.extBut _ _ (ap.az p (d8 hp)).2 e⟩
 ·obtain ⟨he,tk,rfl,hz,⟨cur,c1,c2,c3⟩,hi,kp,szh⟩:=hW;have ll:(List.zipIdx (ps.map λp=>aSW p.it).toArray.toList).length=ps.length:=by simp
  have c1':he.get? TO=some { cls:=.type "tuple",data:=.seq cur }:=c1;refine bAP (bBS c1' rfl (bAP (wpAny_newTuple ?_ (by simp;rw [c2];exact aVY (b8 hl)))));have zlt:z<he.objs.size:=aG4 hz;show bAQ _ _ (Builtin.SmallTypes.ownedTupleHandOut (.ref z) (.ref he.objs.size) >>= _) _ _ _;refine bAP ?_;unfold Builtin.SmallTypes.ownedTupleHandOut;have zf:bB8 (he.push { cls:=.type "tuple",data:=.seq cur.toList.toArray }) z TI TO .ellipsis:=aDZ _ hz;refine bAP (bBW zf (by simp) λhg zg sg=>?_);have zg':bB8 hg z TI TO (bA6 he.objs.size):=zg;refine bBW zg' (by simp) λhh zh sh=>?_;have zh':bB8 hh z TI TO (bA6 he.objs.size):=zh;have up:∀c o,c≠z->he.get? c=some o->hh.get? c=some o:=λc o q e=>sh.extBut _ _ q (sg.extBut _ _ q (aDZ _ e));have gTh:eH hh he.objs.size cur.toList.toArray:=sh.extBut _ _ (aZV zlt) (sg.extBut _ _ (aZV zlt) (aLS _ rfl));have szz:hh.objs.size=he.objs.size+1:=by rw [sh.1,sg.1,aYB]
  rw [szh] at zh' gTh szz;refine bAT ⟨_,rfl,?_⟩;show Q (.ref he.objs.size) _;rw [szh];refine gq cur.toList hh tk (by simp [c2]) (λl q hq=>?_) zh' ⟨cur,up _ _ ap.oz c1,c2⟩ (λp hp=>?_) gTh szz λc o n1 n2 n3 e=>up c o n1 (kp c o n1 n2 n3 e)
  ·obtain ⟨x,x1,x2⟩:=c3 l q (by rw [ll];exact (aA8.mp hq).1) hq;exact ⟨x,x1,by simpa using x2⟩
  ·obtain ⟨l,hl'⟩:=aXX hp;obtain ⟨a1,_⟩:=hi l p hl';rw [ll,if_pos (aA8.mp hl').1] at a1;exact a1.at λo e=>up _ _ (ap.iz p hp).1 e
theorem aGS {z TI TO:bAO} {ps:List ZQ} {k m:Nat} {p:ZQ} {old:Array Value} {Q:Fin->Shared->Prop} (hA:A.handled=none) (ap:ZA z TI TO ps) (hl:ps.length<=1000)
  (gz:bB8 s.heap z TI TO .none) (gI:eH s.heap TI (ps.map λp=>aSW p.it).toArray) (gO:eH s.heap TO old) (ho:old.size=ps.length)
  (gi:∀p∈ps,gW p.κ s.heap p.it p.a k/\qL p.κ s.heap p.a p.items) (hm:ps[m]? = some p) (hpk:p.items.size=k) (gk:∀(j:Nat) (q:ZQ),j<m->ps[j]? = some q->k<q.items.size)
  (ge:∀h' tk e,(∀c o,c≠z->c≠TO->(∀q∈ps,c≠q.it)->s.heap.get? c=some o->h'.get? c=some o)->(∃o,h'.get? e=some o/\o.cls = .type "StopIteration")->E (.ref e) { s with heap:=h',toks:=tk }) :
  bAQ (bAV prog w) A (Builtin.«zip.__next__» ⟨[.ref z],[]⟩) Q E s:=by
 show bAQ _ _ (field (.ref z) 2 >>= _) _ _ _;refine bAP (bA1 gz rfl (x:=.bool false) rfl ?_);show bAQ _ _ (field (.ref z) 3 >>= _) _ _ _;refine bAP (bA1 gz rfl (x:=.ref TI) rfl (bAP (bBS gI rfl ?_)));have hem:((ps.map λp=>aSW p.it).toArray).isEmpty=false:=by
  cases ps with
  | nil=>simp at hm
  | cons p r=>simp
 simp only [hem,aX5,if_false];refine bAP ?_;unfold Builtin.SmallTypes.ownedTupleIsFree;refine bAP (bA1 gz rfl (x:=.none) rfl (bAT ?_));simp only [if_true];refine bAP (bCG (bAP (bA1 gz rfl (x:=.ref TO) rfl (bAP (bBW gz (by simp) λha za sa=>?_)))));have za':bB8 ha z TI TO .ellipsis:=za;refine bAP ?_;have W0:ZW s z TI TO ps k 0 { s with heap:=ha }:=by
  refine ⟨ha,s.toks,rfl,za',⟨old,sa.extBut _ _ ap.oz gO,ho,λl q h=>absurd h (aXI _)⟩,λl q hq=>?_,λc o n1 n2 n3 e=>sa.extBut _ _ n1 e,sa.1⟩;obtain ⟨g1,g2⟩:=gi q (d8 hq);rw [if_neg (aXI _)];exact ⟨g1.at λo e=>sa.extBut _ _ (ap.iz q (d8 hq)).1 e,g2.at λo e=>sa.extBut _ _ (ap.az q (d8 hq)).1 e⟩
 have atj:∀{j:Nat} {x:Value×Nat},(List.zipIdx (ps.map λp=>aSW p.it).toArray.toList)[j]? = some x->∃q,ps[j]? = some q/\x=(aSW q.it,j):=λ{j x} hx=>by
  rw [aZI] at hx;simp only [aEO,Option.map_map] at hx;cases q:ps[j]? with
  | none=>simp [q] at hx
  | some p=>simp [q] at hx;exact ⟨p,rfl,hx.symm⟩
 refine pP m _ (ZW s z TI TO ps k) _ _ (aSW p.it,m) (by rw [aZI];simp [hm]) (λj x s' hjm hx hW=>?_) W0 (λs' hW=>?_)
 ·obtain ⟨q,hq,rfl⟩:=atj hx;have hj:j<ps.length:=(aA8.mp hq).1;refine bAP (wpAny_onRaise ?_);show bAQ _ _ (Builtin.SmallTypes.nextOf (.ref q.it) >>= _) _ _ _;refine aPE hA ap hl hq (gk j q hjm hq) hW λx s2 ⟨h,tk,es,px,hz,⟨cur,c1,c2,c3⟩,hi,kp,szh⟩=>?_;subst es;have c1':h.get? TO=some { cls:=.type "tuple",data:=.seq cur }:=c1;refine bAP (bBS c1' rfl (bAP (wpAny_updateSeq c1' rfl ?_ (by rw [c2];exact aVY (b8 hl)) (by simp;rw [c2];exact Nat.le_succ_of_le (aVY (b8 hl))))));refine bAP (wpAny_letGo (bAT ⟨rfl,?_⟩));have su:aYR TO h (h.update TO (aXP (·.setIfInBounds j x))):=Heap.SameBut.update ..;have gu:eH (h.update TO (aXP (·.setIfInBounds j x))) TO (cur.setIfInBounds j x):=by
   show (h.update TO (aXP (·.setIfInBounds j x))).get? TO=_;rw [aQU _ c1' rfl];simp [aXP]
  refine ⟨_,tk,rfl,su.extBut _ _ (Ne.symm ap.oz) hz,⟨_,gu,by simp [c2],λl p hl' hp=>?_⟩,λl p hp=>?_,λc o n1 n2 n3 e=>su.extBut _ _ n2 (kp c o n1 n2 n3 e),by rw [su.1];exact szh⟩
  ·by_cases e:l=j
   ·subst e;rw [hq] at hp;cases hp;exact ⟨x,px,by rw [aY2 (by rw [c2];exact hj)]⟩
   ·obtain ⟨y,y1,y2⟩:=c3 l p (by omega) hp;exact ⟨y,y1,by rw [aZE (λz=>e z.symm)];exact y2⟩
  ·obtain ⟨a1,a2⟩:=hi l p hp;exact ⟨a1.at λo e=>su.extBut _ _ (ap.iz p (d8 hp)).2.2 e,a2.at λo e=>su.extBut _ _ (ap.az p (d8 hp)).2 e⟩
 ·obtain ⟨h,tk,rfl,hz,_,hi,kp,szh⟩:=hW;have hpm:=d8 hm;have D:=aHY (prog:=prog) (w:=w) p.κ hA p.it p.a (ap.ai p hpm p hpm) p.items;obtain ⟨i1,i2⟩:=hi m p hm;rw [if_neg (Nat.lt_irrefl m)] at i1;refine bAP (wpAny_onRaise ?_);show bAQ _ _ (Builtin.SmallTypes.nextOf (.ref p.it) >>= _) _ _ _;refine bAP (D.done _ _ _ (by rw [hpk];exact ⟨i1,i2⟩) λhb e sb he=>?_);obtain ⟨oe,q1,q2⟩:=he;have sb':Heap.ExtBut p.it h hb:=sb;have zb:bB8 hb z TI TO .ellipsis:=sb' _ _ (Ne.symm (ap.iz p hpm).1) hz;have hez:e≠z:=λx=>by subst x;rw [zb] at q1;cases q1;simp at q2
  exact bBW zb (by simp) λhc _ sc=>ge hc tk e (λc o c1 c2 c3 x=>sc.extBut _ _ c1 (sb' _ _ (c3 p hpm) (kp c o c1 c2 c3 x))) ⟨oe,sc.extBut _ _ hez q1,q2⟩
end
def yU (κ:Bool) (K:W.Frag) (H:Hp) (a:bAO) (xs:List V):Prop:=match κ with
 | true=>tP K H a xs
 | false=>kF K H a xs
section
variable {X:Cx} {pins:List (bAO×Obj)} {σ:St} {H:Hp} {s:Shared}
theorem aR.sqK (I:aR X pins σ H s) {κ:Bool} {a:bAO} {xs:List V} (h:yU κ X.K H a xs):∃its:List Value,bA xs its/\qL κ s.heap a its.toArray:=by
 cases κ
 ·obtain ⟨its,r,p,_⟩:=I.list h;exact ⟨its,r,p.isList⟩
 ·obtain ⟨its,r,p,_⟩:=I.tuple h;exact ⟨its,r,p⟩
theorem aR.sqK_inj (I:aR X pins σ H s) {κ:Bool} {a:bAO} {xs ys:List V} (h:yU κ X.K H a xs) (h':yU κ X.K H a ys):xs=ys:=by
 cases κ
 ·exact I.list_inj h h'
 ·exact I.tuple_inj h h'
theorem aR.notfp (I:aR X pins σ H s) {κ:Bool} {a b:bAO} {xs:List V} (h:yU κ X.K H a xs) (f:lP X pins H b):a≠b:=by
 have kk:∀{o:Obj},X.K.lookup a=some o->a≠b:=λ{o} hk z=>by
  have hb:X.base.get? a=some o:=I.mod.kin a o hk;subst z;rcases f.2.2.2.1 with z | z
  ·exact I.ok.noex a o hb z
  ·exact absurd (aG3 (aG3 (aG4 hb) I.ok.bsz) z) (Nat.lt_irrefl _)
 have hh:∀{u:HO},Rd H a u->a≠b:=λ{u} r z=>by
  subst z;have:=f.1;rcases r with r | ⟨o,r⟩
  ·rw [this] at r;cases r
  ·rw [this] at r;cases r
 cases κ
 ·rcases h with h | ⟨o,its,n,hk,_⟩
  ·exact hh h
  ·exact kk hk
 ·rcases h with h | ⟨o,its,n,hk,_⟩
  ·exact hh h
  ·exact kk hk
theorem exQ (I:aR X pins σ H s):∀(ps:List (Bool×bAO)) (its:List bAO),its.length=ps.length->(∀p∈ps,∃xs,yU p.1 X.K H p.2 xs)->
  ∃qs:List ZQ,qs.map (λq=>(q.κ,q.a))=ps/\qs.map (·.it)=its/\∀q∈qs,qL q.κ s.heap q.a q.items/\∃xs,yU q.κ X.K H q.a xs/\bA xs q.items.toList
 | [],[],_,_=>⟨[],rfl,rfl,λq h=>absurd h (by simp)⟩
 | [],_::_,e,_=>by simp at e
 | _::_,[],e,_=>by simp at e
 | p::ps,it::its,e,h=>by
  obtain ⟨qs,h1,h2,h3⟩:=exQ I ps its (by simpa using e) λq hq=>h q (by simp [hq]);obtain ⟨xs,hx⟩:=h p (by simp);obtain ⟨vs,r,sk⟩:=I.sqK hx;refine ⟨⟨p.1,p.2,it,vs.toArray⟩::qs,by simp [h1],by simp [h2],λq hq=>?_⟩;rcases aH1.mp hq with rfl | hq
  ·exact ⟨sk,xs,hx,by simpa using r⟩
  ·exact h3 q hq
end
def Itn (K:W.Frag) (ps:List (Bool×bAO)):It:=
  ⟨λi H=>∀p∈ps,∃xs x,yU p.1 K H p.2 xs/\xs[i]? = some x,
   λi H v H'=>∃(q:bAO) (ys:List V),v = .ref q/\H q=none/\H'=upd H q (.tup ys)/\ys.length=ps.length/\∀(j:Nat) (p:Bool×bAO) (y:V),ps[j]? = some p->ys[j]? = some y->∀xs,yU p.1 K H p.2 xs->xs[i]? = some y,
   λi H=>(∀p∈ps,∃xs,yU p.1 K H p.2 xs)/\∃(m:Nat) (p:Bool×bAO),ps[m]? = some p/\(∃xs,yU p.1 K H p.2 xs/\xs.length=i)/\∀(j:Nat) (q:Bool×bAO),j<m->ps[j]? = some q->∃xs x,yU q.1 K H q.2 xs/\xs[i]? = some x⟩
def ZT (z TI TO:bAO) (ps:List (Bool×bAO)) (its:List bAO) (i:Nat) (h:Heap):Prop:=bB8 h z TI TO .none/\eH h TI (its.map aSW).toArray/\(∃old:Array Value,eH h TO old/\old.size=ps.length)/\
 ∀(j:Nat) (p:Bool×bAO) (it:bAO),ps[j]? = some p->its[j]? = some it->gW p.1 h it p.2 i
theorem aE4 {P:bAR} {w:bAU} {K:W.Frag} {elts:List Expr} {x1} {tpos:Pos} (z TI TO:bAO) (ps:List (Bool×bAO)) (its:List bAO) (hl:its.length=ps.length) (hne:ps≠[]) (hz:ps.length<=1000) (nd:(z::TI::TO::its).Nodup) :
  aCT P w K (.Tuple elts x1 tpos) (Itn K ps) (z::TI::TO::its) z (ZT z TI TO ps its):=by
 simp only [aXH,aH1,not_or] at nd;obtain ⟨⟨n1,n2,n3⟩,⟨n4,n5⟩,n6,n7⟩:=nd;have apart:∀{X:Cx} {pins:List (bAO×Obj)} {σ:St} {H:Hp} {s:Shared} {qs:List ZQ},aR X pins σ H s->(∀c∈z::TI::TO::its,lP X pins H c)->qs.map (·.it)=its->(∀q∈qs,∃xs,yU q.κ X.K H q.a xs)->ZA z TI TO qs:=by
  intro X pins σ H s qs I hf e1 hq;have mi:∀q∈qs,q.it∈its:=λq hq=>by rw [<-e1];exact aZM hq
  refine ⟨λe=>n1 e.symm,λe=>n2 e.symm,n4,λp hp=>⟨λe=>n3 (e ▸ mi p hp),λe=>n5 (e ▸ mi p hp),λe=>n6 (e ▸ mi p hp)⟩,λp hp=>?_,λp hp q hq'=>?_,λi j p q hi hj e=>?_⟩
  ·obtain ⟨xs,hx⟩:=hq p hp;exact ⟨I.notfp hx (hf z (by simp)),I.notfp hx (hf TO (by simp))⟩
  ·obtain ⟨xs,hx⟩:=hq p hp;exact I.notfp hx (hf q.it (by simp [mi q hq']))
  ·have hi':its[i]? = some p.it:=by rw [<-e1,aEO,hi];rfl
   have hj':its[j]? = some q.it:=by rw [<-e1,aEO,hj];rfl
   exact (aY8 (aA8.mp hi').1 n7).mp (by rw [hi',hj',e])
 refine ⟨by simp,λi h st c hc=>?_,λi h h' st k=>?_,?_,?_,λ_ _ _ _ _ st h=>wpAny_pyIter_zip st.1 h⟩
 ·obtain ⟨s1,s2,⟨old,s3,_⟩,s4⟩:=st;simp only [aH1] at hc;rcases hc with rfl | rfl | rfl | hc
  ·exact ⟨_,s1,λv z=>by cases z⟩
  ·exact ⟨_,s2,λv z=>by cases z⟩
  ·exact ⟨_,s3,λv z=>by cases z⟩
  ·obtain ⟨j,hj⟩:=aXX hc;have hjl:j<ps.length:=by rw [<-hl];exact (aA8.mp hj).1
   exact (s4 j _ c (aCP hjl) hj).obj
 ·obtain ⟨s1,s2,⟨old,s3,s3'⟩,s4⟩:=st;exact ⟨k z (by simp) _ s1,k TI (by simp) _ s2,⟨old,k TO (by simp) _ s3,s3'⟩,λj p it hp hit=>(s4 j p it hp hit).at λo e=>k it (by simp [aIR hit]) o e⟩
 ·intro X hP hw hK hc i pins s σ H E I hf st hg;subst hP hw hK;obtain ⟨s1,s2,⟨old,s3,s3'⟩,s4⟩:=st;obtain ⟨qs,e1,e2,h3⟩:=exQ I ps its hl λp hp=>let ⟨xs,_,h,_⟩:=hg p hp;⟨xs,h⟩;have hlq:qs.length=ps.length:=by rw [<-e1,aG5]
  have ap:=apart I hf e2 λq hq=>let ⟨_,xs,h,_⟩:=h3 q hq;⟨xs,h⟩;have hA:X.A.in1.handled=none:=I.ok.hd hc;have hzz:s.TypeIs (.ref z) "zip":=⟨_,s1,rfl⟩;have atp:∀{j:Nat} {q:ZQ},qs[j]? = some q->ps[j]? = some (q.κ,q.a)/\its[j]? = some q.it:=λ{j q} h=>⟨by rw [<-e1,aEO,h];rfl,by rw [<-e2,aEO,h];rfl⟩;have gi:∀q∈qs,gW q.κ s.heap q.it q.a i/\qL q.κ s.heap q.a q.items:=λq hq=>by
   obtain ⟨j,hj⟩:=aXX hq;exact ⟨s4 j _ _ (atp hj).1 (atp hj).2,(h3 q hq).1⟩
  have gk:∀q∈qs,i<q.items.size:=λq hq=>by
   obtain ⟨j,hj⟩:=aXX hq;obtain ⟨xs,x,q1,q2⟩:=hg _ (aIR (atp hj).1);obtain ⟨_,ys,r1,r2⟩:=h3 q hq;rw [I.sqK_inj q1 r1] at q2;have:=(aA8.mp q2).1;have:=r2.length;simp at this;omega
  have gI:eH s.heap TI (qs.map λp=>aSW p.it).toArray:=by
   have:(qs.map λp=>aSW p.it)=its.map aSW:=by rw [<-e2,aZZ];rfl
   rw [this];exact s2
  unfold pyNext;refine bAP (bCN (wpAny_callSpecial?_slot (name:=aA7 "__next__") hzz F.slot_zip_next (bCC F.slot_zip_next hzz F.entry_zip_next
   (aGT hA ap (λz=>by rw [z] at hlq;exact hne (aVQ (by simpa using hlq.symm))) (by omega) s1 gI s3 (by omega) gi gk λvs h' tk lv pv zz zo g1 zt sz kp=>bAT ?_) (F.args_zip_next_1 _))))
  refine ⟨_,rfl,wpAny_letOwnedTupleGo_zip zz λh2 z2 sb=>?_⟩;have hzn:z≠s.heap.objs.size:=aTV (aG4 s1);have kk:∀c o,c∉z::TI::TO::its->s.heap.get? c=some o->h2.get? c=some o:=λc o hc q=>by
   simp only [aH1,not_or] at hc;refine sb.extBut c o hc.1 (kp c o hc.1 hc.2.2.1 (λq' hq' e=>hc.2.2.2 ?_) q);rw [e,<-e2];exact aZM hq'
  -- the items,as they are aHO
  obtain ⟨ys,hys,ry⟩:∃ys:List V,(ys.length=ps.length/\∀(j:Nat) (p:Bool×bAO) (y:V),ps[j]? = some p->ys[j]? = some y->∀xs,yU p.1 X.K H p.2 xs->xs[i]? = some y)/\bA ys vs:=by
   have key:∀(n:Nat) (rs:List ZQ) (us:List Value),rs.length=n->us.length=n->(∀q∈rs,∃xs,yU q.κ X.K H q.a xs/\bA xs q.items.toList)->(∀(l:Nat) (q:ZQ),rs[l]? = some q->∃x,q.items[i]? = some x/\us[l]? = some x)->
     ∃ys:List V,ys.length=n/\bA ys us/\∀(j:Nat) (q:ZQ) (y:V),rs[j]? = some q->ys[j]? = some y->∀xs,yU q.κ X.K H q.a xs->xs[i]? = some y:=by
    intro n
    induction n with
    | zero=>
     intro rs us h1 h2 _ _;refine ⟨[],rfl,?_,λj q y hq=>?_⟩
     ·rw [aVQ h2];exact .nil
     ·rw [aVQ h1] at hq;simp at hq
    | succ n ih=>
     intro rs us h1 h2 h4 h5
     match rs,us,h1,h2 with
     | q::rs,u::us,h1,h2=>
      obtain ⟨ys,l1,l2,l3⟩:=ih rs us (by simpa using h1) (by simpa using h2) (λq' hq'=>h4 q' (by simp [hq'])) (λl q' hq'=>by have:=h5 (l+1) q' (by simpa using hq');simpa using this);obtain ⟨xs,a1,a2⟩:=h4 q (by simp);obtain ⟨x,b1,b2⟩:=h5 0 q rfl;simp at b2;subst b2;have b1':q.items.toList[i]? = some u:=by simpa using b1
      have hi:i<xs.length:=by rw [a2.length];exact (aA8.mp b1').1
      obtain ⟨u',c1,c2⟩:=a2.get (aCP hi);rw [b1'] at c1;cases c1;refine ⟨xs[i]::ys,by simp [l1],.cons c2 l2,λj q' y hq hy zs hz'=>?_⟩;cases j with
      | zero=>
       simp at hq hy;subst hq;subst hy;rw [I.sqK_inj hz' a1];exact aCP hi
      | succ j=>exact l3 j q' y (by simpa using hq) (by simpa using hy) zs hz'
   obtain ⟨ys,l1,l2,l3⟩:=key qs.length qs vs rfl lv (λq hq=>(h3 q hq).2) pv;refine ⟨ys,⟨by omega,λj p y hp hy xs hx=>?_⟩,l2⟩;have hjl:j<qs.length:=by rw [hlq];exact (aA8.mp hp).1
   have hq:=aCP hjl;have:=(atp hq).1;rw [hp] at this;cases this;exact l3 j _ y hq hy xs hx
  have new:cP X.prog X.w (upd H s.heap.objs.size (.tup ys)) h2 s.heap.objs.size (.tup ys):=
   ⟨by rw [hys.1];exact aVY (b8 hz),vs,ry,⟨_,sb.extBut _ _ (Ne.symm hzn) zt,rfl,_,rfl⟩⟩
  have up:∀{c:bAO} {o:Obj},c≠z->h'.get? c=some o->h2.get? c=some o:=λhc q=>sb.extBut _ _ hc q;refine ⟨.ref s.heap.objs.size,upd H s.heap.objs.size (.tup ys),I.turnedLaid (t':=tk) (ch:=z::TI::TO::its) kk hf (aFI _) new,rfl,
   ⟨_,ys,rfl,I.hok.fresh (aFI _),rfl,hys.1,hys.2⟩,⟨z2,up (λe=>n1 e.symm) (kp _ _ (λe=>n1 e.symm) n4 (λq hq=>λe=>(ap.iz q hq).2.1 e.symm) s2),?_,λj p it hp hit=>?_⟩,λc hc=>?_⟩
  ·obtain ⟨cur,u1,u2⟩:=zo;exact ⟨cur,up ap.oz u1,by omega⟩
  ·have hjl:j<qs.length:=by rw [hlq];exact (aA8.mp hp).1
   have hq:=aCP hjl;have q1:=(atp hq).1;have q2:=(atp hq).2;rw [hp] at q1;cases q1;rw [hit] at q2;cases q2;exact (g1 _ (aYX hjl)).at λo e=>up (ap.iz _ (aYX hjl)).1 e
  ·have hlt:c<s.heap.objs.size:=by
    simp only [aH1] at hc;rcases hc with rfl | rfl | rfl | hc
    ·exact aG4 s1
    ·exact aG4 s2
    ·exact aG4 s3
    ·obtain ⟨j,hj⟩:=aXX hc;have hjl:j<ps.length:=by rw [<-hl];exact (aA8.mp hj).1
     obtain ⟨o,e,_⟩:=(s4 j _ c (aCP hjl) hj).obj;exact aG4 e
   rw [aS (aTV hlt)];exact (hf c hc).1
 ·intro X hP hw hK hc i pins s σ H E I hf st hg;subst hP hw hK;obtain ⟨hall,m,pm,hm,⟨xm,hxm,hlm⟩,hb⟩:=hg;obtain ⟨s1,s2,⟨old,s3,s3'⟩,s4⟩:=st;obtain ⟨qs,e1,e2,h3⟩:=exQ I ps its hl hall;have hlq:qs.length=ps.length:=by rw [<-e1,aG5]
  have ap:=apart I hf e2 λq hq=>let ⟨_,xs,h,_⟩:=h3 q hq;⟨xs,h⟩;have hA:X.A.in1.handled=none:=I.ok.hd hc;have hzz:s.TypeIs (.ref z) "zip":=⟨_,s1,rfl⟩;have atp:∀{j:Nat} {q:ZQ},qs[j]? = some q->ps[j]? = some (q.κ,q.a)/\its[j]? = some q.it:=λ{j q} h=>⟨by rw [<-e1,aEO,h];rfl,by rw [<-e2,aEO,h];rfl⟩;have gi:∀q∈qs,gW q.κ s.heap q.it q.a i/\qL q.κ s.heap q.a q.items:=λq hq=>by
   obtain ⟨j,hj⟩:=aXX hq;exact ⟨s4 j _ _ (atp hj).1 (atp hj).2,(h3 q hq).1⟩
  have gI:eH s.heap TI (qs.map λp=>aSW p.it).toArray:=by
   have:(qs.map λp=>aSW p.it)=its.map aSW:=by rw [<-e2,aZZ];rfl
   rw [this];exact s2
  have hml:m<qs.length:=by rw [hlq];exact (aA8.mp hm).1
  have hqm:=aCP hml;have hpm:qs[m].items.size=i:=by
   have q1:=(atp hqm).1;rw [hm] at q1;cases q1;obtain ⟨_,ys,r1,r2⟩:=h3 _ (aYX hml);rw [I.sqK_inj hxm r1] at hlm;have:=r2.length;simp at this;omega
  have gk:∀(j:Nat) (q:ZQ),j<m->qs[j]? = some q->i<q.items.size:=λj q hj hq=>by
   obtain ⟨xs,x,q1,q2⟩:=hb j _ hj (atp hq).1;obtain ⟨_,ys,r1,r2⟩:=h3 q (d8 hq);rw [I.sqK_inj q1 r1] at q2;have:=(aA8.mp q2).1;have:=r2.length;simp at this;omega
  unfold pyNext;refine bAP (bCN (wpAny_callSpecial?_slot (name:=aA7 "__next__") hzz F.slot_zip_next (bCC F.slot_zip_next hzz F.entry_zip_next
   (aGS hA ap (by omega) s1 gI s3 (by omega) gi hqm hpm gk λh' tk e kp he=>?_) (F.args_zip_next_1 _))))
  obtain ⟨o,ho,hco⟩:=he;refine bAP (wpAny_isInstance (T:="StopIteration") (b:=true) ⟨o,ho,hco⟩ isSubtype_stop (bAT ⟨rfl,?_⟩));refine I.turnedL (t':=tk) (ch:=z::TI::TO::its) (λc o hc q=>?_) hf;simp only [aH1,not_or] at hc;refine kp c o hc.1 hc.2.2.1 (λq' hq' e=>hc.2.2.2 ?_) q;rw [e,<-e2];exact aZM hq'
def iG:List T->List T->List T
 | x::xs,y::ys=>.tup [x,y]::iG xs ys
 | _,_=>[]
theorem lK:∀xs ys:List T,(iG xs ys).length=min xs.length ys.length
 | [],_=>by simp [iG]
 | _::_,[]=>by simp [iG]
 | _::xs,_::ys=>by simp [iG,lK xs ys]
theorem sN:∀{xs ys:List T} {i:Nat} {t:T},(iG xs ys)[i]? = some t->∃x y,xs[i]? = some x/\ys[i]? = some y/\t = .tup [x,y]
 | [],_,_,_,h=>by simp [iG] at h
 | _::_,[],_,_,h=>by simp [iG] at h
 | x::_,y::_,0,_,h=>by simp [iG] at h;exact ⟨x,y,rfl,rfl,h.symm⟩
 | _::xs,_::ys,i+1,t,h=>by
  obtain ⟨x,y,h1,h2,h3⟩:=sN (xs:=xs) (ys:=ys) (i:=i) (t:=t) (by simpa [iG] using h);exact ⟨x,y,by simpa using h1,by simpa using h2,h3⟩
def aRR (κ:Bool) (xs:List T):T:=match κ with
 | true=>.tup xs
 | false=>.lst xs
theorem uJ {K:W.Frag} {H:Hp} {O:bAO->Prop} {κ:Bool} {xs:List T} {a:bAO} (h:Rp K H O (aRR κ xs) (.ref a)):∃vs,yU κ K H a vs/\bW K H O xs vs:=by
 cases κ
 ·obtain ⟨a',vs,e,h1,h2⟩:=Rp.sqL h;cases e;exact ⟨vs,h1,h2⟩
 ·obtain ⟨a',vs,e,h1,h2⟩:=Rp.sqT h;cases e;exact ⟨vs,h1,h2⟩
theorem aEV {K:W.Frag} {κ:Bool} {a b:bAO} {xs ys:List T}:aC8 K (Itn K [(κ,a),(κ,b)]) (iG xs ys) (λH O=>Rp K H O (aRR κ xs) (.ref a)/\Rp K H O (aRR κ ys) (.ref b)):=by
 refine ⟨λH H' O O' k h=>⟨Rp.step k h.1,Rp.step k h.2⟩,λi H O h hi=>?_,λi H O x H' t h e hO y=>?_,λH O h=>?_⟩
 ·obtain ⟨vs,s1,r1⟩:=uJ h.1;obtain ⟨ws,s2,r2⟩:=uJ h.2;rw [lK] at hi;intro p hp;simp only [aH1,aVX,or_false] at hp;rcases hp with rfl | rfl
  ·exact ⟨vs,vs[i]'(by rw [r1.length];omega),s1,aCP _⟩
  ·exact ⟨ws,ws[i]'(by rw [r2.length];omega),s2,aCP _⟩
 ·obtain ⟨vs,s1,r1⟩:=uJ h.1;obtain ⟨ws,s2,r2⟩:=uJ h.2;obtain ⟨q,us,e1,hq,e2,lu,hu⟩:=y;subst e1;subst e2;obtain ⟨t1,t2,g1,g2,rfl⟩:=sN e;obtain ⟨v1,a1,b1⟩:=r1.get g1;obtain ⟨v2,a2,b2⟩:=r2.get g2
  match us,lu with
  | [u1,u2],_=>
   have z1:=hu 0 _ u1 rfl rfl vs s1;have z2:=hu 1 _ u2 rfl rfl ws s2;rw [a1] at z1;cases z1;rw [a2] at z2;cases z2;have k:Kp O O H (upd H q (.tup [v1,v2])):=Kp.upd hq;exact ⟨k,λb o z=>by rw [aS (aQ z hq)];exact z,q,_,rfl,.inl ⟨λz=>hO q z hq,.inl bY⟩,v1,_,rfl,b1.step k,v2,_,rfl,b2.step k,rfl⟩
 ·obtain ⟨vs,s1,r1⟩:=uJ h.1;obtain ⟨ws,s2,r2⟩:=uJ h.2;have l1:=r1.length;have l2:=r2.length;refine ⟨λp hp=>?_,?_⟩
  ·simp only [aH1,aVX,or_false] at hp;rcases hp with rfl | rfl
   ·exact ⟨vs,s1⟩
   ·exact ⟨ws,s2⟩
  ·rw [lK]
   by_cases c:xs.length<=ys.length
   ·exact ⟨0,_,rfl,⟨vs,s1,by omega⟩,λj q hj=>absurd hj (aXI _)⟩
   ·refine ⟨1,_,rfl,⟨ws,s2,by omega⟩,λj q hj hq=>?_⟩;obtain rfl:j=0:=by omega
    cases hq;exact ⟨vs,vs[min xs.length ys.length]'(by omega),s1,aCP _⟩
section
variable {X:Cx} {K:W.Frag} {pos:Pos} {Fr:FA}
def iZ2 (K:W.Frag) (ta:TA):TI:=λσ H R=>ta σ H λvs H1=>∃κ a b xs ys,vs=[.ref a,.ref b]/\yU κ K H1 a xs/\yU κ K H1 b ys/\R (Itn K [(κ,a),(κ,b)]) H1
theorem aTA {l r:Expr} {ta:TA} {p tpos:Pos} {elts:List Expr} {x1} (hg:Gl X "zip") (hm:X.mg "zip" = none) (ha:QA X [l,r] ta) (hs:bR l=false:=by rfl) (hs2:bR r=false:=by rfl) :
  QI X (.Tuple elts x1 tpos) (.Call (.Name "zip" p) [l,r] [] pos) (iZ2 X.K ta):=⟨by
 intro pins s σ H R I h;refine Call_ (mH I hg hm boot_zip (PyProof.Rows.callWith_type1 (b9 (ha.h pos pins s σ H _ I h) λus s1 ⟨vs,H1,I1,r1,q1⟩=>?_) (bX hs) (cO (by simp only [bB,hs2];rfl))));obtain ⟨κ,a,b,xs,ys,rfl,ga,gb,q⟩:=q1;obtain ⟨u,v,rfl,ru,rv⟩:=bA.two r1;cases ru;cases rv;obtain ⟨ia,ra,qa⟩:=I1.sqK ga;obtain ⟨ib,rb,qb⟩:=I1.sqK gb;have fin:∀h',bB8 h' (s1.heap.objs.size+4) (s1.heap.objs.size+2) (s1.heap.objs.size+3) .none->IsPair h' (s1.heap.objs.size+2) (.ref s1.heap.objs.size) (.ref (s1.heap.objs.size+1))->IsPair h' (s1.heap.objs.size+3) .none .none->
   gW κ h' s1.heap.objs.size a 0->gW κ h' (s1.heap.objs.size+1) b 0->(∀c o,s1.heap.get? c=some o->h'.get? c=some o)->
   bAQ (bAV X.prog X.w) X.A (pyIter (.ref (s1.heap.objs.size+4))) (PIE X pins σ (.Tuple elts x1 tpos) R) X.xe { s1 with heap:=h' }:=λh' z1 z2 z3 z4 z5 kp=>by
  refine wpAny_pyIter_zip z1 ?_;refine ⟨s1.heap.objs.size+4,_,_,_,H1,rfl,I1.kept (t':=s1.toks) kp,aE4 _ (s1.heap.objs.size+2) (s1.heap.objs.size+3) [(κ,a),(κ,b)] [s1.heap.objs.size,s1.heap.objs.size+1] rfl (by simp) (by simp) (nd5 _),⟨z1,z2,⟨_,z3,rfl⟩,λj pq it hp hit=>?_⟩,λc hc=>?_,q⟩
  ·match j,hp,hit with
   | 0,hp,hit=>cases hp;cases hit;exact z4
   | 1,hp,hit=>cases hp;cases hit;exact z5
  ·have hle:s1.heap.objs.size<=c:=ge5 hc;exact I1.fpOk hle (I1.hok.fresh hle)
 cases κ
 ·exact call_zip_2 qa qb λh' z1 z2 z3 z4 z5 _ kp=>fin h' z1 z2 z3 z4 z5 kp
 ·exact aGB qa qb λh' z1 z2 z3 z4 z5 kp=>fin h' z1 z2 z3 z4 z5 kp⟩
def aVA (Fr:FA):FI:=λE Q=>Fr E λrs E1=>match rs with
 | [x,y]=>(match vl E1 x,vl E1 y with
  | some (.lst xs),some (.lst ys)=>Q (iG xs ys) (oG E1 x++oG E1 y) E1
  | some (.tup xs),some (.tup ys)=>Q (iG xs ys) (oG E1 x++oG E1 y) E1
  | _,_=>False)
 | _=>False
theorem aNX {n:Nat} {l r:Expr} {p tpos:Pos} {elts:List Expr} {x1} (eK:X.K=K) (hg:Gl X "zip") (hm:X.mg "zip" = none) (ha:QA X [l,r] (cQ K n Fr)) (hs:bR l=false:=by rfl) (hs2:bR r=false:=by rfl) :
  QI X (.Tuple elts x1 tpos) (.Call (.Name "zip" p) [l,r] [] pos) (qH K (aVA Fr)):=by
 subst eK;refine (aTA hg hm ha hs hs2).le λσ H R hn ⟨B,S,E,Q',hS,re,hF,lk⟩=>⟨B,S,E,_,hS,re,hF,λrs E1 vs H1 S1 q g re1 rr hn=>?_⟩
 match rs,rr,q with
 | [x,y],⟨v,ws,e1,h1,u,ws',e2,h2,h3⟩,q=>
  cases h3;subst e2;subst e1;have own:∀j∈oG E1 x++oG E1 y,∃k xs,E1[j]? = some (some (U.o k xs)):=λj hj=>by
   rcases aW2.mp hj with h | h
   ·exact qP j h
   ·exact qP j h
  simp only at q;split at q
  ·rename_i xs ys e1 e2;obtain ⟨a,vs,e3,sq1,r1⟩:=re1.vl h1 e1;obtain ⟨b,us,e4,sq2,r2⟩:=re1.vl h2 e2;refine ⟨false,a,b,vs,us,by rw [e3,e4],sq1,sq2,lk _ _ _ _ _ _ _ q g re1 aEV own λO k1 k2=>?_⟩;rw [<-e3,<-e4];exact ⟨pQ re1 h1 e1 O k1 λj hj=>k2 j (by simp [hj]),pQ re1 h2 e2 O k1 λj hj=>k2 j (by simp [hj])⟩
  ·rename_i xs ys e1 e2;obtain ⟨a,vs,e3,sq1,r1⟩:=re1.vl h1 e1;obtain ⟨b,us,e4,sq2,r2⟩:=re1.vl h2 e2;refine ⟨true,a,b,vs,us,by rw [e3,e4],sq1,sq2,lk _ _ _ _ _ _ _ q g re1 aEV own λO k1 k2=>?_⟩;rw [<-e3,<-e4];exact ⟨pQ re1 h1 e1 O k1 λj hj=>k2 j (by simp [hj]),pQ re1 h2 e2 O k1 λj hj=>k2 j (by simp [hj])⟩
  ·exact q.elim
 | [],_,q=>exact q.elim
 | [_],_,q=>exact q.elim
 | _::_::_::_,_,q=>exact q.elim
end
end L2
namespace My
open PySem L2 PyProof.Rows
theorem z8 (x y:Nat):aPV y (x%y)=aPV x y:=by
 rw [aZ0 x y,Nat.gcd_rec y x,aZ0]
def oX (n d:Int):Int:=(if 0<d then n else -n)/((aPV n.natAbs d.natAbs:Nat):Int)
def kN (n d:Int):Int:=(if 0<d then d else -d)/((aPV n.natAbs d.natAbs:Nat):Int)
theorem aAL {n d:Int} {g:Nat} (hd:0<d) (hg:g=aPV n.natAbs d.natAbs):(n/(g:Int)).natAbs<=n.natAbs/\1<=d/(g:Int)/\d/(g:Int)<=d/\aPV (n/(g:Int)).natAbs (d/(g:Int)).natAbs=1:=by
 have g0:0<g:=by rw [hg];exact aYE _ (by omega)
 have dn:(g:Int)∣n:=by rw [hg];exact aXJ.mpr (aYZ _ _)
 have dd:(g:Int)∣d:=by rw [hg];exact aXJ.mpr (aYQ _ _)
 have en:(n/(g:Int)).natAbs=n.natAbs/g:=by rw [Int.natAbs_ediv_of_dvd dn];simp
 have ed:(d/(g:Int)).natAbs=d.natAbs/g:=by rw [Int.natAbs_ediv_of_dvd dd];simp
 refine ⟨by rw [en];exact Nat.div_le_self _ _,?_,?_,?_⟩
 ·obtain ⟨k,hk⟩:=dd;have hg':(0:Int)<g:=by omega
  rw [hk,aWX _ (by omega)];rcases Int.lt_or_le 0 k with h | h
  ·omega
  ·have:(g:Int)*k<=0:=Int.mul_nonpos_of_nonneg_of_nonpos (by omega) h;omega
 ·exact Int.ediv_le_self _ (by omega)
 ·rw [en,ed,Nat.gcd_div (by rw [hg];exact aYZ _ _) (by rw [hg];exact aYQ _ _),<-hg,Nat.div_self g0]
theorem lN {n d:Int} (hd:d≠0):(oX n d).natAbs<=n.natAbs/\1<=kN n d/\kN n d<=d.natAbs/\aPV (oX n d).natAbs (kN n d).natAbs=1:=by
 unfold oX kN
 by_cases h:0<d
 ·rw [if_pos h,if_pos h];have:=aAL (n:=n) (d:=d) h rfl;refine ⟨this.1,this.2.1,?_,this.2.2.2⟩;have:=this.2.2.1;omega
 ·rw [if_neg h,if_neg h];have h':0 < -d:=by omega
  have:=aAL (n:=-n) (d:=-d) h' rfl;simp only [aYU] at this;refine ⟨this.1,this.2.1,?_,this.2.2.2⟩;have:=this.2.2.1;omega
abbrev Fr:=Int×Int
structure dS (p:Fr):Prop where
 d:1<=p.2
 g:aPV p.1.natAbs p.2.natAbs=1
def low (n d:Int):Fr:=(oX n d,kN n d)
def jG (p q:Fr):Fr:=low (p.1*q.2+q.1*p.2) (p.2*q.2)
def hJ (p q:Fr):Fr:=low (p.1*q.2-q.1*p.2) (p.2*q.2)
def fS (p q:Fr):Fr:=low (p.1*q.1) (p.2*q.2)
def gP (p:Fr):Fr:=(-p.1,p.2)
def val (p:Fr):Rat:=(p.1:Rat)/(p.2:Rat)
theorem wL {n d:Int} (hd:d≠0):dS (low n d):=⟨(lN hd).2.1,(lN hd).2.2.2⟩
theorem aG1 {n d:Int} (hd:d≠0):oX n d*d=n*kN n d:=by
 have dn:((aPV n.natAbs d.natAbs:Nat):Int)∣n:=aXJ.mpr (aYZ _ _);have dd:((aPV n.natAbs d.natAbs:Nat):Int)∣d:=aXJ.mpr (aYQ _ _);have g0:((aPV n.natAbs d.natAbs:Nat):Int)≠0:=by
  have:=aYE n.natAbs (show 0<d.natAbs by omega);omega
 unfold oX kN;generalize ((aPV n.natAbs d.natAbs:Nat):Int)=g at dn dd g0;obtain ⟨k,hk⟩:=dn;obtain ⟨m,hm⟩:=dd
 by_cases h:0<d
 ·rw [if_pos h,if_pos h,hk,hm,aWX _ g0,aWX _ g0];grind
 ·rw [if_neg h,if_neg h,hk,hm,<-Int.mul_neg,<-Int.mul_neg,aWX _ g0,aWX _ g0];grind
theorem yF {n d:Int} (hd:d≠0):val (low n d)=(n:Rat)/(d:Rat):=by
 have h:=aG1 (n:=n) hd;have h1:=(lN (n:=n) hd).2.1;have a1:((kN n d:Int):Rat)≠0:=by
  have:kN n d≠0:=by omega
  exact_mod_cast this
 have a2:(d:Rat)≠0:=by exact_mod_cast hd
 have h':((oX n d:Int):Rat)*(d:Rat)=(n:Rat)*((kN n d:Int):Rat):=by exact_mod_cast h
 show ((oX n d:Int):Rat)/((kN n d:Int):Rat)=(n:Rat)/(d:Rat);grind
theorem dS.ne {p:Fr} (h:dS p):p.2≠0:=by have:=h.d;omega
theorem dS.neR {p:Fr} (h:dS p):(p.2:Rat)≠0:=by have:=h.ne;exact_mod_cast this
theorem eI {p q:Fr} (hp:dS p) (hq:dS q):p.2*q.2≠0:=Int.mul_ne_zero hp.ne hq.ne
theorem jZ {p q:Fr} (hp:dS p) (hq:dS q):val (jG p q)=val p+val q:=by
 have h1:=hp.neR;have h2:=hq.neR;unfold jG;rw [yF (eI hp hq)];unfold val
 push_cast
 grind
theorem iV {p q:Fr} (hp:dS p) (hq:dS q):val (hJ p q)=val p-val q:=by
 have h1:=hp.neR;have h2:=hq.neR;unfold hJ;rw [yF (eI hp hq)];unfold val
 push_cast
 grind
theorem cV {p q:Fr} (hp:dS p) (hq:dS q):val (fS p q)=val p*val q:=by
 have h1:=hp.neR;have h2:=hq.neR;unfold fS;rw [yF (eI hp hq)];unfold val
 push_cast
 grind
theorem aDK {p:Fr} (hp:dS p):val (gP p) = - val p:=by
 have h1:=hp.neR;show ((-p.1:Int):Rat)/(p.2:Rat) = - ((p.1:Rat)/(p.2:Rat))
 push_cast
 grind
theorem wX {p q:Fr} (hp:dS p) (hq:dS q):dS (jG p q):=wL (eI hp hq)
theorem rB {p q:Fr} (hp:dS p) (hq:dS q):dS (hJ p q):=wL (eI hp hq)
theorem eV {p q:Fr} (hp:dS p) (hq:dS q):dS (fS p q):=wL (eI hp hq)
theorem aDJ {p:Fr} (hp:dS p):dS (gP p):=⟨hp.d,by show aPV (-p.1).natAbs p.2.natAbs=1;rw [aYU];exact hp.g⟩
theorem nU (n:Int):dS (n,1):=⟨by show (1:Int)<=1;decide,by simp⟩
theorem m8 {p q:Fr} (hp:dS p) (hq:dS q) (h:val p=val q):p=q:=by
 have h1:=hp.neR;have h2:=hq.neR;have e:p.1*q.2=q.1*p.2:=by
  unfold val at h;have h':(p.1:Rat)*q.2=q.1*p.2:=by grind
  exact_mod_cast h'
 have en:p.1.natAbs*q.2.natAbs=q.1.natAbs*p.2.natAbs:=by rw [<-aYC,<-aYC,e]
 have d1:p.2.natAbs∣q.2.natAbs:=by
  have:p.2.natAbs∣p.1.natAbs*q.2.natAbs:=by rw [en];exact Nat.dvd_mul_left _ _
  exact Nat.Coprime.dvd_of_dvd_mul_left (show bAG p.2.natAbs p.1.natAbs by unfold bAG;rw [aZ0];exact hp.g) this
 have d2:q.2.natAbs∣p.2.natAbs:=by
  have:q.2.natAbs∣q.1.natAbs*p.2.natAbs:=by rw [<-en];exact Nat.dvd_mul_left _ _
  exact Nat.Coprime.dvd_of_dvd_mul_left (show bAG q.2.natAbs q.1.natAbs by unfold bAG;rw [aZ0];exact hq.g) this
 have ed:p.2.natAbs=q.2.natAbs:=Nat.dvd_antisymm d1 d2;have ed':p.2=q.2:=by have:=hp.d;have:=hq.d;omega
 have e2:p.1=q.1:=by
  rw [ed'] at e;exact Int.eq_of_mul_eq_mul_right hq.ne e
 exact Prod.ext e2 ed'
theorem wV {x e:Nat} (h:x<2^e) (he:e<=8000):x<2^8000:=aG3 h (aVU (by decide) he)
theorem c7 {x y:Int} {e f:Nat} (hx:x.natAbs<2^e) (hy:y.natAbs<2^f):(x*y).natAbs<2^(e+f):=by
 rw [aYC,Nat.pow_add];exact aZ1 hx hy
theorem aEZ {x y:Int} {e:Nat} (hx:x.natAbs<2^e) (hy:y.natAbs<2^e):(x+y).natAbs<2^(e+1):=by
 have:=Int.natAbs_add_le x y;rw [aYV];omega
theorem aL8 {x y:Int} {e:Nat} (hx:x.natAbs<2^e) (hy:y.natAbs<2^e):(x-y).natAbs<2^(e+1):=by
 rw [Int.sub_eq_add_neg];exact aEZ hx (by rw [aYU];exact hy)
def sz (p:Fr):Nat:=aX3 (aZ2 p.1.natAbs) (aZ2 p.2.natAbs)+1
theorem iN (p:Fr):p.1.natAbs<2^sz p:=aG3 aZ3 (aVU (by decide) (aZB (aY5 _ _)))
theorem cE (p:Fr):p.2.natAbs<2^sz p:=aG3 aZ3 (aVU (by decide) (aZB (aYY _ _)))
theorem aKN {n e:Nat} (h:n<2^e) (he:1<=e):aZ2 n+1<=e:=by
 by_cases c:n=0
 ·subst c;have:aZ2 0=0:=by simp
  omega
 ·exact (aYL c).mpr h
theorem pR {p:Fr} {e:Nat} (h1:p.1.natAbs<2^e) (h2:p.2.natAbs<2^e) (he:1<=e):sz p<=e:=by
 have a:=aKN h1 he;have b:=aKN h2 he;unfold sz;have:aX3 (aZ2 p.1.natAbs) (aZ2 p.2.natAbs)<=e-1:=aZJ.mpr ⟨by omega,by omega⟩;omega
theorem aP1 (p:Fr):1<=sz p:=by unfold sz;omega
theorem aBZ {n d:Int} {e:Nat} (hd:d≠0) (h1:n.natAbs<2^e) (h2:d.natAbs<2^e) (he:1<=e):sz (low n d)<=e:=by
 have lf:=lN (n:=n) hd;refine pR (aWL lf.1 h1) ?_ he;show (kN n d).natAbs<2^e;omega
theorem aBC {p q:Fr} (hp:dS p) (hq:dS q):sz (jG p q)<=sz p+sz q+1:=
 aBZ (eI hp hq) (aEZ (c7 (iN p) (cE q)) (by rw [Nat.add_comm];exact c7 (iN q) (cE p))) (aG3 (c7 (cE p) (cE q)) (aVU (by decide) (by omega))) (by omega)
theorem wH {p q:Fr} (hp:dS p) (hq:dS q):sz (hJ p q)<=sz p+sz q+1:=
 aBZ (eI hp hq) (aL8 (c7 (iN p) (cE q)) (by rw [Nat.add_comm];exact c7 (iN q) (cE p))) (aG3 (c7 (cE p) (cE q)) (aVU (by decide) (by omega))) (by omega)
theorem oY {p q:Fr} (hp:dS p) (hq:dS q):sz (fS p q)<=sz p+sz q:=
 aBZ (eI hp hq) (c7 (iN p) (iN q)) (c7 (cE p) (cE q)) (by have:=aP1 p;omega)
theorem aSE (p:Fr):sz (gP p)=sz p:=by unfold sz gP;simp
theorem dN {g:FG} {F:FS} {D:ET} {items:List T} {E:En} (W:Nat->En->Prop) (h0:W 0 E)
  (hs:∀i x rest E,items[i]? = some x->W i E->(∀E',W (i+1) E'->kI g F D rest E')->kI g F D (x::rest) E) (hd:∀E,W items.length E->D.nx E):kI g F D items E:=by
 have key:∀n i E,items.length-i=n->i<=items.length->W i E->kI g F D (items.drop i) E:=by
  intro n
  induction n with
  | zero=>
   intro i E e hi h;obtain rfl:i=items.length:=by omega
   rw [aYD];exact hd E h
  | succ n ih=>
   intro i E e hi h;have hlt:i<items.length:=by omega
   rw [aVT hlt];exact hs i _ _ E (aCP hlt) h λE' h'=>ih (i+1) E' (by omega) (by omega) h'
 exact key _ 0 E rfl (aB7 _) h0
theorem eO {g:FG} {Fe:FE} {items:List T} {E:En} {Q:En->Prop} (W:Nat->En->Prop) (h0:W 0 E)
  (hs:∀i x rest E,items[i]? = some x->W i E->(∀E',W (i+1) E'->jO g Fe rest E' Q)->jO g Fe (x::rest) E Q) (hd:∀E,W items.length E->Q E):jO g Fe items E Q:=by
 have key:∀n i E,items.length-i=n->i<=items.length->W i E->jO g Fe (items.drop i) E Q:=by
  intro n
  induction n with
  | zero=>
   intro i E e hi h;obtain rfl:i=items.length:=by omega
   rw [aYD];exact hd E h
  | succ n ih=>
   intro i E e hi h;have hlt:i<items.length:=by omega
   rw [aVT hlt];exact hs i _ _ E (aCP hlt) h λE' h'=>ih (i+1) E' (by omega) (by omega) h'
 exact key _ 0 E rfl (aB7 _) h0
mutual
def wT:L2.T->Nat
 | .tup xs=>aX3 xs.length (wTs xs)
 | .lst xs=>aX3 xs.length (wTs xs)
 | _=>0
def wTs:List L2.T->Nat
 | []=>0
 | x::xs=>aX3 (wT x) (wTs xs)
end
theorem aH6:∀{xs:List L2.T} {x:L2.T},x∈xs->wT x<=wTs xs
 | y::xs,x,h=>by
  rw [wTs];rcases aH1.mp h with rfl | h
  ·exact aY5 _ _
  ·exact aVD (aH6 h) (aYY _ _)
def fr (p:Fr):T:=.tup [.int p.1,.int p.2]
def vc (x y:Fr):T:=.tup [fr x,fr y]
theorem aPF (p q:Fr):dZ (fr p) (fr q)=decide (p=q):=by
 rw [aY4];simp [fr,L2.dZ,L2.sQ,Prod.ext_iff]
theorem aTS (x y x' y':Fr):dZ (vc x y) (vc x' y')=decide (x=x'/\y=y'):=by
 rw [aY4];simp [vc,L2.dZ,L2.sQ,aPF]
def zS (i j:Int):Prop:=aD0 i j\/aM5 i j
theorem bO {X:Cx}:jP X (bBG .Mult) (rI zS λi j=>.int (i*j)):=by
 intro pins s σ H x y v u Q I rx ry h;obtain ⟨i,j,e1,e2,hc,q⟩:=h;rcases hc with hc | hc
 ·exact aNC pins s σ H x y v u Q I rx ry ⟨i,j,e1,e2,hc,q⟩
 ·exact aSS pins s σ H x y v u Q I rx ry ⟨i,j,e1,e2,hc,q⟩
theorem kZ {i j:Int} {e:Nat} (h1:i.natAbs<2^e) (h2:j.natAbs<2^e) (he:e<=8000):zS i j:=.inl ⟨wV h1 he,wV h2 he⟩
theorem aFB {i j:Int} (h1:i.natAbs<2^60):zS i j:=.inr (.inl (by omega))
theorem aA9 {i j:Int} (h1:j.natAbs<2^60):zS i j:=.inr (.inr (by omega))
theorem aIZ:bA3 "int" = some (.type "int"):=by decide +kernel
theorem qZ:bA3 "bool" = some (.type "bool"):=by decide +kernel
theorem fY:bA3 "tuple" = some (.type "tuple"):=by decide +kernel
theorem vR:bA3 "list" = some (.type "list"):=by decide +kernel
theorem aB2:bA3 "str" = some (.type "str"):=by decide +kernel
structure Txt (mg:Str->Option Value):Prop where
 n_isinstance:mg "isinstance" = none
 n_abs:mg "abs" = none
 n_divmod:mg "divmod" = none
 n_min:mg "min" = none
 n_max:mg "max" = none
 n_all:mg "all" = none
 n_len:mg "len" = none
 n_int:mg "int" = none
 n_bool:mg "bool" = none
 n_tuple:mg "tuple" = none
 n_list:mg "list" = none
 n_str:mg "str" = none
 n_range:mg "range" = none
 n_enumerate:mg "enumerate" = none
 n_zip:mg "zip" = none
end My
namespace My
open PySem L2 PyProof.Rows
section
variable {X:Cx} {K:W.Frag} {e:Expr} {te:TE} {st:Option Expr} {ts:TO} {pos p2:Pos} {Fa:FE} {G:FO}
def aO9 (K:W.Frag) (te:TE) (ts:TO):TE:=λσ H Q=>te σ H λx H1=>ts σ H1 λk H2=>k=some (-1)/\∃a xs,x = .ref a/\kF K H2 a xs/\∀p,H2 p=none->Q (.ref p) (upd H2 p (.lst xs.reverse))
theorem aMD (he:PE X e te) (hk:PO X st ts) (hop:∀a b,∃ops,bB9 (.Slice none none st p2) false a b=operate ops (bCD a b)):PE X (.Subscript e (.Slice none none st p2) pos) (aO9 X.K te ts):=by
 intro pins s σ H Q I h;refine Subscript_ (b9 (he pins s σ H _ I h) λv s1 ⟨x,H1,I1,r1,q1⟩=>?_);refine wpAny_Slice ?_;rw [bCM];refine bAT ?_;refine bAT ?_;refine b9 (hk pins s1 σ H1 _ I1 q1) λvk s2 ⟨k,H2,I2,pk,q2⟩=>?_;obtain ⟨rfl,a,xs,rfl,hx,q⟩:=q2;have I4:aR X pins σ H2 { s2 with heap:=s2.heap.push { cls:=.type "slice",data:=.fields #[.none,.none,vk] } }:=I2.kept (t':=s2.toks) λb ob q=>aDZ _ q;cases r1;obtain ⟨its,r,ht,hz⟩:=I4.list hx;have hlen:=r.length;have hg:bAQ (bAV X.prog X.w) X.A (bCD (.ref a) (.ref s2.heap.objs.size)) (EP X pins σ Q) X.xe { s2 with heap:=s2.heap.push { cls:=.type "slice",data:=.fields #[.none,.none,vk] } }:=by
  refine wpAny_getItem_list_slice ht.isList (Heap.IsSliceOf.new ..) .none .none pk (by decide) ?_ (by rw [aOX]<;>omega);rw [W.krv_pick];refine ⟨.ref _,_,I4.laid (t':=s2.toks) (o:=.lst xs.reverse) (λb ob q=>aDZ _ q) (aFI _) ?_,rfl,q _ (I4.hok.fresh (aFI _))⟩;exact ⟨by rw [aXG];exact hz,_,0,r.reverse,aLS _ rfl⟩
 obtain ⟨ops,ho⟩:=hop (.ref a) (.ref s2.heap.objs.size);exact tail_any (ops:=ops) ht.isList.typeIs slot_list_getitem.lookup hg ho
def aTY (Fa:FE) (G:FO):FE:=λE Q=>Fa E λx E1=>G E1 λk E2=>k=some (-1)/\match vl E2 x with
 | some (.lst xs)=>Q (.s E2.length) (E2++[some (.o false xs.reverse)])
 | _=>False
theorem aDR (eK:X.K=K) (he:QE X e (aL K Fa)) (hk:QO X st (tU K G)) (hop:∀a b,∃ops,bB9 (.Slice none none st p2) false a b=operate ops (bCD a b):=by exact λ_ _=>⟨_,by with_unfolding_all rfl⟩):QE X (.Subscript e (.Slice none none st p2) pos) (aL K (aTY Fa G)):=by
 subst eK;refine QE.le (t:=aO9 X.K (aL X.K Fa) (tU X.K G)) ⟨aMD he.h hk.h hop⟩ λσ H Q _ ⟨B,S,E,Q',⟨τ,hS⟩,re,hF,lk⟩=>⟨B,S,E,_,⟨τ,hS⟩,re,hF,λx E1 v H1 S1 q g1 re1 rx=>?_⟩;obtain ⟨τ1,hS1⟩:=g1.pre;refine ⟨B,S1,E1,_,⟨τ++τ1,by rw [hS1,hS,aEE]⟩,re1,q,λl E2 H2 S2 q2 g2 re2=>?_⟩;have rx2:=rx.step g2;obtain ⟨hk1,q2⟩:=q2;refine ⟨hk1,?_⟩;split at q2
 ·rename_i xs e1;obtain ⟨a,vs,e2,sq,rs⟩:=re2.vl rx2 e1;refine ⟨a,vs,e2,sq,λp hp=>?_⟩;obtain ⟨g,re'⟩:=re2.lst hp rs.reverse;exact lk _ _ _ _ _ q2 ((g1.trans g2).trans g) re' (by rw [<-re2.len];exact fX)
 ·exact q2.elim
end
end My
namespace L2
open PySem PySem.Spec PyProof.Rows
end L2
namespace L2
open PySem PySem.Spec PyProof.Rows
def inT (t:T) (xs:List T):Bool:=xs.any λy=>dZ y t
section
variable {X:Cx} {K:W.Frag} {pos:Pos} {a b e o:Expr} {Fa Fb Fo:FE} {Fr:FA}
theorem aPO {H:Hp} {t:T} {e:Value->Bool} (he:∀(y:T) (w:V) (z:Value),Rq K H y w->bC w z->e z=dZ y t):∀{xs:List T} {vs:List V} {its:List Value},tY K H xs vs->bA vs its->its.any e=inT t xs/\∀z∈its,∃y∈xs,∃w,Rq K H y w/\bC w z
 | [],_,_,h,r=>by cases h;cases r;exact ⟨rfl,λz hz=>by cases hz⟩
 | y::xs,_,_,h,r=>by
  obtain ⟨v,ws,rfl,h1,h2⟩:=h;cases r with
  | cons r1 r2=>
   obtain ⟨q1,q2⟩:=aPO he h2 r2;refine ⟨?_,λz hz=>?_⟩
   ·rw [aZA,q1,he _ _ _ h1 r1];rfl
   ·rcases aH1.mp hz with rfl | hz
    ·exact ⟨y,aWI ..,v,h1,r1⟩
    ·obtain ⟨y',h3,h4⟩:=q2 z hz;exact ⟨y',aJF _ h3,h4⟩
def aW7 (K:W.Frag) (ng:Bool):R2:=λx y H Q=>∃t xs p vs,Rq K H t x/\y = .ref p/\kF K H p vs/\tY K H xs vs/\uT xs<=50/\Q (.bl (if ng then !(inT t xs) else inT t xs)) H
theorem aLP {k:Nat} (hr:cU k X.A) {pins:List (bAO×Obj)} {s:Shared} {σ:St} {H:Hp} (I:aR X pins σ H s) {x:V} {v:Value} {t:T} {xs:List T} {vs:List V} {its:List Value} (ht:Rq X.K H t x) (rx:bC x v) (hxs:tY X.K H xs vs) (r:bA vs its) (hd:uT xs<=50) :
  ∃e:Value->Bool,its.any e=inT t xs/\∀z∈its,SeqAt.EqAt X.A.in1 s z v (e z):=by
 obtain ⟨e,he⟩:∃e:Value->Bool,∀(y:T) (w:V) (z:Value),Rq X.K H y w->bC w z->e z=dZ y t:=by
  refine ⟨λz=>@dite _ (∃y w,Rq X.K H y w/\bC w z) (Classical.propDecidable _) (λh=>dZ (Classical.choose h) t) (λ_=>false),λy w z h1 h2=>?_⟩;have hex:∃y w,Rq X.K H y w/\bC w z:=⟨y,w,h1,h2⟩;show @dite _ (∃y w,Rq X.K H y w/\bC w z) (Classical.propDecidable _) (λh=>dZ (Classical.choose h) t) (λ_=>false)=_;rw [dif_pos hex];obtain ⟨w',h3,h4⟩:=Classical.choose_spec hex;have:=aED h2 h4;subst this;rw [Rq.inj I h3 h1]
 obtain ⟨q1,q2⟩:=aPO he hxs r;refine ⟨e,q1,λz hz=>?_⟩;obtain ⟨y,hy,w,h1,h2⟩:=q2 z hz;rw [he _ _ _ h1 h2];have:=mG hy;exact (w4 I 50 X.A.in1 y t w x z v (by omega) h1 ht h2 rx (by have:=hr.units;show X.A.units+1+50<bB7;omega)).2
theorem aQM {k:Nat} (hr:cU k X.A):jP X (bA7 .In) (aW7 X.K false):=by
 intro pins s σ H x y v u Q I rx ry h;obtain ⟨t,xs,p,vs,ht,rfl,hq,hxs,hd,q⟩:=h;cases ry;obtain ⟨its,r,pl,hz⟩:=I.list hq;obtain ⟨e,q1,q2⟩:=aLP hr I ht rx hxs r hd;refine SeqAt.in_listAt e pl.isList (λw hw=>q2 w (by simpa using hw)) ⟨.bl _,H,I,rfl,?_⟩;rw [show its.toArray.any e=its.any e by simp,q1];exact q
def fIn (ng:Bool) (Fa Fb:FE):FE:=λE Q=>Fa E λx E1=>Fb E1 λy E2=>t2 (vl E2 x) (vl E2 y) λt u=>match u with
 | .lst xs=>uT xs<=50/\Q (.p (.bl (if ng then !(inT t xs) else inT t xs))) E2
 | _=>False
theorem aPL {k:Nat} (eK:X.K=K) (hr:cU k X.A) (ha:QE X a (aL K Fa)) (hb:QE X b (aL K Fb)) (hm:bA5 .In b=false):QT X (.Compare a [.In] [b] pos) (d9 K (wR (fIn false Fa Fb))):=by
 subst eK;refine wQ (aQM hr) ha hb hm λσ H Q h=>two (Fa:=Fa) (Fb:=Fb) h λB S E x y v w H2 Q' hS re rx ry q lk=>?_;obtain ⟨t,u,e1,e2,q⟩:=t2.ex q;split at q
 ·rename_i xs;obtain ⟨p,vs,e3,sq,rs⟩:=re.vl ry e2;exact ⟨t,xs,p,vs,(re.vl rx e1).rq,e3,sq,rs.rq,q.1,lk _ _ _ _ _ q.2 .refl re rfl⟩
 ·exact q.elim
end
end L2
namespace L2
open PySem PySem.Spec PyProof.Rows
def aV5:En->Bool
 | []=>true
 | some (.o false _)::_=>false
 | _::E=>aV5 E
section
variable {K:W.Frag} {B:bAO->Prop} {H H':Hp} {S S':St} {E E':En} {σ:St}
def lQ (E:En):List R->Option (List T×En)
 | []=>some ([],E)
 | .p t::rs=>(lQ E rs).map λz=>(t::z.1,z.2)
 | .s i::rs=>match E[i]? with
  | some (some (.o false xs))=>(lQ (E.set i (some (.p (.lst xs)))) rs).map λz=>(.lst xs::z.1,z.2)
  | some (some (.p t))=>(lQ E rs).map λz=>(t::z.1,z.2)
  | _=>none
theorem rE:∀{rs:List R} {vs:List V} {E:En} {z:List T×En},RE K B H S E->RRs K B H S E rs vs->lQ E rs=some z->RE K B H S z.2/\(∀b,Ow B S z.2 b->Ow B S E b)/\bW K H (Ow B S z.2) z.1 vs
 | [],vs,E,z,re,h,e=>by cases e;exact ⟨re,λb z=>z,h⟩
 | .p t::rs,_,E,z,re,⟨v,ws,e1,h1,h2⟩,e=>by
  cases q:lQ E rs with
  | none=>rw [lQ,q] at e;cases e
  | some y=>
   rw [lQ,q] at e;cases e;obtain ⟨r1,r2,r3⟩:=rE re h2 q;exact ⟨r1,r2,v,ws,e1,Rp.step (Kp.less r2) h1,r3⟩
 | .s i::rs,_,E,z,re,⟨v,ws,e1,h1,h2⟩,e=>by
  unfold lQ at e;split at e
  ·rename_i xs hE;obtain ⟨ref,of⟩:=re.frz hE;cases q:lQ (E.set i (some (.p (.lst xs)))) rs with
   | none=>rw [q] at e;cases e
   | some y=>
    rw [q] at e;cases e;have h2':RRs K B H S (E.set i (some (.p (.lst xs)))) rs ws:=RRs.step ⟨Kp.less λb z=>(of b z).1,[],by simp⟩ h2;obtain ⟨r1,r2,r3⟩:=rE ref h2' q;have hi:i<E.length:=(aA8.mp hE).1;obtain ⟨w,p1,p2⟩:=ref.pure i (.lst xs) (by rw [aVH hi]);have h1:S[i]? = some (some v):=h1;rw [h1] at p1;cases p1;exact ⟨r1,λb z=>(of b (r2 b z)).1,v,ws,e1,Rp.step (Kp.less r2) p2,r3⟩
  ·rename_i t hE;cases q:lQ E rs with
   | none=>rw [q] at e;cases e
   | some y=>
    rw [q] at e;cases e;obtain ⟨r1,r2,r3⟩:=rE re h2 q;obtain ⟨w,p1,p2⟩:=re.pure i t hE;have h1:S[i]? = some (some v):=h1;rw [h1] at p1;cases p1;exact ⟨r1,r2,v,ws,e1,Rp.step (Kp.less r2) p2,r3⟩
  ·cases e
end
section
variable {X:Cx} {K:W.Frag} {pos:Pos} {es:List Expr} {Fr:FA}
def aOO (Fr:FA):FE:=λE Q=>Fr E λrs E1=>o1 (lQ E1 rs) λz=>Q (.s z.2.length) (z.2++[some (.o false z.1)])
theorem aLN {n:Nat} (h:QA X es (cQ K n Fr)) (hz:n<=1000:=by decide):QE X (.List es pos) (aL K (aOO Fr)):=by
 refine (aJY h).le λσ H Q hl h=>args (Fr:=Fr) h λB S E rs vs H2 Q' hS re rr hn q lk=>⟨by rw [hn];exact aVY (b8 hz),λp hp=>?_⟩;obtain ⟨z,e,q⟩:=q.ex;obtain ⟨re1,ow1,rs1⟩:=rE re rr e;obtain ⟨g,re'⟩:=re1.lst hp rs1;exact lk _ _ _ _ _ q (Gr.trans ⟨Kp.less ow1,[],by simp⟩ g) re' (by rw [<-re1.len];exact fX)
end
end L2
namespace L2
open PySem PySem.Spec PyProof.Rows
end L2
namespace L2
open PySem PySem.Spec PyProof.Rows
end L2
namespace L2
open PySem PySem.Spec PyProof.Rows
def aBB (H:Hp) (a:bAO):Prop:=∃kvs,H a=some (.dK kvs)
section
variable {K:W.Frag} {H:Hp} {O O':bAO->Prop}
mutual
theorem Rp.noD (hO:∀a,O' a->O a\/aBB H a):∀{t:T} {v:V},Rp K H O t v->Rp K H O' t v
 | .non,_,h=>h
 | .bl _,_,h=>h
 | .int _,_,h=>h
 | .str _,_,h=>h
 | .lst xs,v,h=>by
  obtain ⟨a,vs,e1,h1,h2⟩:=h;refine ⟨a,vs,e1,h1.imp (λ⟨n,h⟩=>⟨λz=>?_,h⟩) id,bW.noD hO h2⟩;rcases hO a z with z | ⟨kvs,q⟩
  ·exact n z
  ·rcases h with h | ⟨o,h⟩
   ·rw [h] at q;cases q
   ·rw [h] at q;cases q
 | .tup xs,v,h=>by
  obtain ⟨a,vs,e1,h1,h2⟩:=h;refine ⟨a,vs,e1,h1.imp (λ⟨n,h⟩=>⟨λz=>?_,h⟩) id,bW.noD hO h2⟩;rcases hO a z with z | ⟨kvs,q⟩
  ·exact n z
  ·rcases h with h | ⟨o,h⟩
   ·rw [h] at q;cases q
   ·rw [h] at q;cases q
theorem bW.noD (hO:∀a,O' a->O a\/aBB H a):∀{xs:List T} {vs:List V},bW K H O xs vs->bW K H O' xs vs
 | [],_,h=>h
 | x::xs,vs,h=>by
  obtain ⟨v,r,e1,h1,h2⟩:=h;exact ⟨v,r,e1,Rp.noD hO h1,bW.noD hO h2⟩
end
end
section
variable {K:W.Frag} {B:bAO->Prop} {H H':Hp} {S S':St} {E E':En} {σ:St}
theorem RE.dict (re:RE K B H S E) {p:bAO} {kvs kvs':List (Key×V)} (hp:H p=some (.dK kvs)):RE K B (upd H p (.dK kvs')) S E:=by
 have np:¬Ow B S E p:=λz=>by obtain ⟨vs,e⟩:=re.ow z;rw [hp] at e;cases e
 have hO:∀a,(a=p\/Ow B S E a)->Ow B S E a\/aBB H a:=λa z=>by
  rcases z with z | z
  ·exact .inr ⟨kvs,by rw [z];exact hp⟩
  ·exact .inl z
 have kp:Kp (λb=>b=p\/Ow B S E b) (Ow B S E) H (upd H p (.dK kvs')):=⟨λb o e n=>by rw [aS λz=>n (.inl z)];exact e,λb z=>.inl (.inr z)⟩;refine ⟨re.len,λi t h=>?_,λi k xs h=>?_,re.inj,λa h=>?_⟩
 ·obtain ⟨v,h1,h2⟩:=re.pure i t h;exact ⟨v,h1,(Rp.noD hO h2).step kp⟩
 ·obtain ⟨a,vs,h1,h2,h3,h4⟩:=re.own i k xs h;have na:a≠p:=λz=>nomatch (show some (HO.lst vs)=some (HO.dK kvs) by rw [<-h2,z,hp]);exact ⟨a,vs,h1,by rw [aS na];exact h2,(bW.noD hO h3).step kp,h4⟩
 ·obtain ⟨vs,q⟩:=re.bd a h;have na:a≠p:=λz=>nomatch (show some (HO.lst vs)=some (HO.dK kvs) by rw [<-q,z,hp]);exact ⟨vs,by rw [aS na];exact q⟩
theorem bW.dict (re:RE K B H S E) {p:bAO} {kvs kvs':List (Key×V)} (hp:H p=some (.dK kvs)) {ts:List T} {vs:List V} (h:bW K H (Ow B S E) ts vs):bW K (upd H p (.dK kvs')) (Ow B S E) ts vs:=
 (bW.noD (O':=λb=>b=p\/Ow B S E b) (λa z=>by
  rcases z with z | z
  ·exact .inr ⟨kvs,by rw [z];exact hp⟩
  ·exact .inl z) h).step ⟨λb o e n=>by rw [aS λz=>n (.inl z)];exact e,λb z=>.inl (.inr z)⟩
end
structure QPs (X:Cx) (pos:Pos) (keys:List (Option Expr)) (values:List Expr) (trs:List (TE×TE)):Prop where
 h:PPs X pos keys values trs
end L2
namespace L2
open PySem PySem.Spec PyProof.Rows
end L2
namespace L2
open PySem PySem.Spec PyProof.Rows
end L2
namespace HT
open PySem PySem.Spec PyProof.Rows
end HT
namespace HT
open PySem PySem.Spec PyProof.Rows
end HT
namespace L2
open PySem PySem.Spec PyProof.Rows
end L2
namespace L2
open PySem PySem.Spec PyProof.Rows
end L2
namespace L2
open PySem PySem.Spec PyProof.Rows
end L2
namespace L2
open PySem PySem.Spec PyProof.Rows
section
variable {X:Cx} {K:W.Frag} {o:Expr} {pos ap:Pos} {Fa:FE}
def aU1 (Fa:FE):FE:=λE Q=>Fa E λx E1=>i1 (vl E1 x) λi=>Q (.p (.int (Builtin.Int.intBits i:Int))) E1
theorem aNA (ho:QE X o (aL K Fa)) (hbase:bA4 o "bit_length" X.env (bA2 o X.env)=bA2 o X.env:=by rfl) (hline:(ap.endLine==pos.line)=true:=by rfl) :
  QE X (.Call (.Attribute o "bit_length" ap) [] [] pos) (aL K (aU1 Fa)):=by
 refine (aL7 ho hbase hline).le λσ H Q hl h=>one (Fa:=Fa) h λB S E x v H2 Q' hS re rx q lk=>?_;obtain ⟨i,e1,q⟩:=q.ex;have ev:=re.int rx e1;subst ev;exact ⟨rfl,i,rfl,rfl,lk _ _ _ _ _ q .refl re rfl⟩
end
end L2
namespace L2
open PySem PySem.Spec PyProof.Rows
structure M2 (X:Cx) (o:Expr) (m:Str) (apos:Pos) (e f:Expr) (cpos:Pos):Prop where
 base:bA4 o m X.env (bA2 o X.env)=bA2 o X.env
 few:((bBA cpos (bA0 [e,f] X.env)).all (λx=>!x.1)&&(backToKw cpos (keywordEach [] X.env)).all (λx=>x.1.isSome)
 &&decide (([e,f]:List Expr).length+([]:List Keyword).length+(if ([]:List Keyword).isEmpty then 0 else 1)<30))=true
 line:(apos.endLine==cpos.line)=true
 trees:bBA cpos (bA0 [e,f] X.env)=[(false,bA2 e X.env),(false,bA2 f X.env)]
def IsD (H:Hp) (a:bAO):Prop:=(∃kvs,Rd H a (.dK kvs))\/∃kvs,Rd H a (.dT kvs)
theorem aSR {X:Cx} {pins:List (bAO×Obj)} {σ:St} {H:Hp} {s:Shared} {a:bAO} (I:aR X pins σ H s) (d:IsD H a) :
  s.TypeIs (.ref a) "dict"/\(∀b,aSW a = .ref b->∃ob,s.heap.get? b=some ob/\ob.dict=none)/\(a==bBV)=false:=by
 rcases d with ⟨kvs,e⟩ | ⟨kvs,e⟩
 ·obtain ⟨_,hd,vs,_,dd⟩:=aKI I.hok e;refine ⟨dd.typeIs,λb q=>?_,hd⟩;cases q;obtain ⟨ob,_,_,h1,h2,_⟩:=dd;exact ⟨ob,h1,h2.2.1⟩
 ·obtain ⟨_,hd,xs,_,dd⟩:=aPB I.hok e;refine ⟨dd.typeIs,λb q=>?_,hd⟩;cases q;obtain ⟨ob,_,_,h1,h2,_⟩:=dd;exact ⟨ob,h1,h2.2.1⟩
section
variable {X:Cx} {pins:List (bAO×Obj)} {σ:St} {H:Hp} {s:Shared} {a:bAO} {y d:V} {u r:Value} {o:Option V} {A:Around} {E:Value->Shared->Prop}
theorem aSU {Q:Value->Shared->Prop} (hu:A.units+1<bB7) (I:aR X pins σ H s) (g:aI7 H a y o) (ry:bC y u) (rd:bC d r) (h:∀w' s',aR X pins σ H s'->bC (o.getD d) w'->Q w' s') :
  bAQ (bAV X.prog X.w) A (call (.builtin "dict.get") [.ref a,u,r]) Q E s:=by
 rcases g with ⟨kvs,k,e,ey,l⟩ | ⟨kvs,k,b,e,ey,eb,l⟩
 ·subst ey;obtain ⟨z,hd,vs,rel,dd⟩:=aKI I.hok e;refine call_meetsIn PySem.F.slot_dict_get dd.typeIs PySem.F.entry_dict_get (PySem.F.args_dict_get_3 _ _ _) (meets_dict_get_default (cN X.prog X.w) a (aK4 ry) hd r) ⟨_,dd.mapOf,h _ _ (I.tok _) ?_⟩;rw [l];exact (rel.val k).getD rd
 ·subst ey;cases (show u=aSW b from ry);obtain ⟨z,hd,xs,rel,dd⟩:=aPB I.hok e;refine call_meetsIn PySem.F.slot_dict_get dd.typeIs PySem.F.entry_dict_get (PySem.F.args_dict_get_3 _ _ _) (meetsH_dict_get_default (bCR (cN X.prog X.w)) a b hd r) ⟨tupleKind_room_in1 hu,k,xs,aKC I.hok eb,dd,h _ _ (I.tok _) ?_⟩;rw [l];exact (rel.val k).getD rd
end
def aIC (td ty tx:TE):TE:=λσ H Q=>td σ H λx H1=>∃a,x = .ref a/\IsD H1 a/\ty σ H1 λy H2=>tx σ H2 λz H3=>∃o,aI7 H3 a y o/\Q (o.getD z) H3
section
variable {X:Cx} {o e f:Expr} {apos cpos:Pos} {td ty tx:TE}
theorem aIA (hu:X.A.units+1<bB7) (ho:PE X o td) (he:PE X e ty) (hf:PE X f tx) (m:M2 X o "get" apos e f cpos):PE X (.Call (.Attribute o "get" apos) [e,f] [] cpos) (aIC td ty tx):=by
 intro pins s σ H Q I h;refine wpAny_Call_method m.base m.few m.line PySem.F.plainAttrs_dict PySem.F.slot_dict_get PySem.F.type_dict_get (b9 (ho pins s σ H _ I h) λu s1 ⟨x,H1,I1,rx,a,ex,d,q1⟩=>?_);subst ex;obtain rfl:u=aSW a:=rx;obtain ⟨t1,t2,_⟩:=aSR I1 d;refine ⟨t1,t2,?_⟩;rw [m.trees];refine Calls.callWith_builtin rfl (Calls.evalArgs_plain (Calls.spliced_cons (b9 (he pins s1 σ H1 _ I1 q1) λiv s2 ⟨y,H2,I2,ry,q2⟩=>
  Calls.spliced_cons (b9 (hf pins s2 σ H2 _ I2 q2) λfv s3 ⟨z,H3,I3,rz,ov,g,q3⟩=>Calls.spliced_nil ?_))))
 exact aSU hu I3 g ry rz λw' s4 I4 rw'=>⟨_,H3,I4,rw',q3⟩
end
end L2
namespace L2
open PySem PySem.Spec PyProof.Rows
def z1 (o:Option T) (Q:Str->Prop):Prop:=match o with
 | some (.str z)=>Q z
 | _=>False
theorem z1.ex {o:Option T} {Q:Str->Prop} (h:z1 o Q):∃z,o=some (.str z)/\Q z:=by
 unfold z1 at h;split at h
 ·exact ⟨_,rfl,h⟩
 ·exact h.elim
def wB:List (Str×FE)->En->(List T->En->Prop)->Prop
 | [],E,Q=>Q [] E
 | (_,F)::r,E,Q=>F E λx E1=>match x with
  | .p t=>wB r E1 λts E2=>Q (t::ts) E2
  | .s _=>False
def nN:List (Str×FE)->List T->Option T->Str->Option T
 | (k,_)::r,t::ts,o,i=>nN r ts (if i=k then some t else o) i
 | _,_,o,_=>o
def oO (K:W.Frag) (l:List (Str×FE)):List (TE×TE):=l.map λx=>(tC (.str x.1),aL K x.2)
def aN7:List (Str×FE)->List V->List (V×V)
 | (k,_)::r,v::vs=>(V.str k,v)::aN7 r vs
 | _,_=>[]
def fM:List (Str×FE)->List V->List (Key×V)
 | (k,_)::r,v::vs=>(Sum.inr k,v)::fM r vs
 | _,_=>[]
theorem aAF:∀(l:List (Str×FE)) (vs:List V),aN7 l vs=(fM l vs).map λkv=>(kV kv.1,kv.2)
 | [],_=>rfl
 | (k,_)::r,[]=>rfl
 | (k,_)::r,v::vs=>by
  show (V.str k,v)::aN7 r vs=(V.str k,v)::_;rw [aAF r vs]
theorem aA1:∀(l:List (Str×FE)) (vs:List V),(fM l vs).length<=l.length
 | [],_=>aB7 _
 | (k,_)::r,[]=>aB7 _
 | (k,_)::r,v::vs=>aZB (aA1 r vs)
section
variable {K:W.Frag} {H:Hp} {O:bAO->Prop}
theorem aAT {i:Str}:∀{l:List (Str×FE)} {ts:List T} {vs:List V} {acc:List (Key×V)} {o:Option T} {t:T},bW K H O ts vs->vs.length=l.length->(∀u,o=some u->∃v,fZ acc (Sum.inr i)=some v/\Rp K H O u v)->nN l ts o i=some t->
  ∃v,fZ (eR acc (fM l vs)) (Sum.inr i)=some v/\Rp K H O t v
 | [],ts,vs,acc,o,t,h,hl,ho,e=>by
  have e:o=some t:=by unfold nN at e;exact e
  exact ho t e
 | (k,F)::r,[],vs,acc,o,t,h,hl,ho,e=>by
  cases h;simp at hl
 | (k,F)::r,u::ts,vs,acc,o,t,⟨v,ws,e1,h1,h2⟩,hl,ho,e=>by
  subst e1;show ∃w,fZ (eR (qK acc (Sum.inr k) v) (fM r ws)) (Sum.inr i)=some w/\_;refine aAT h2 (by simpa using hl) (λx hx=>?_) e;rw [zQ]
  by_cases c:i=k
  ·subst c;rw [if_pos rfl] at hx ⊢;cases hx;exact ⟨v,rfl,h1⟩
  ·rw [if_neg c] at hx;rw [if_neg (λz=>c (Sum.inr.inj z))];exact ho x hx
end
section
variable {X:Cx} {K:W.Frag} {pos:Pos} {Fi F:FE} {l:List (Str×FE)}
theorem aH3:QPs X pos [] [] (oO K []):=⟨aMA⟩
theorem vN {k:Str} {j} {p:Pos} {v:Expr} {ks:List (Option Expr)} {vs:List Expr} (hv:QE X v (aL K F)) (hr:QPs X pos ks vs (oO K l)):QPs X pos (some (.Constant (.str k) j p)::ks) (v::vs) (oO K ((k,F)::l)):=⟨aJL aJ0 hv.h hr.h⟩
theorem rJ {p:bAO} {B:bAO->Prop} {σ:St}:∀{l:List (Str×FE)} {S:St} {E:En} {H:Hp} {Qp:List (V×V)->Hp->Prop} {Q':List T->En->Prop},(∃τ,S=σ++τ)->RE K B H S E->H p=some (.dK [])->wB l E Q'->
  (∀ts E2 vs H2 S2,Q' ts E2->Gr B H S E H2 S2 E2->RE K B H2 S2 E2->bW K H2 (Ow B S2 E2) ts vs->vs.length=l.length->H2 p=some (.dK [])->Qp (aN7 l vs) H2)->yB (oO K l) σ H Qp
 | [],S,E,H,Qp,Q',hS,re,hp,hF,k=>k [] E [] H S hF .refl re rfl rfl hp
 | (n,F)::r,S,E,H,Qp,Q',⟨τ,hS⟩,re,hp,hF,k=>by
  show aL K F σ H _;refine ⟨B,S,E,_,⟨τ,hS⟩,re,hF,λx E1 v H1 S1 q g1 re1 rx=>?_⟩;cases x with
  | s _=>exact q.elim
  | p t=>
   obtain ⟨τ1,hS1⟩:=g1.pre;have np:¬Ow B S E p:=λz=>by obtain ⟨vs,e⟩:=re.ow z;rw [hp] at e;cases e
   refine rJ (S:=S1) (E:=E1) ⟨τ++τ1,by rw [hS1,hS,aEE]⟩ re1 (g1.kp.keep p _ hp np) q λts E2 vs H2 S2 q2 g2 re2 rs hl hp2=>?_;exact k (t::ts) E2 (v::vs) H2 S2 q2 (g1.trans g2) re2 ⟨v,vs,rfl,Rp.step g2.kp rx,rs⟩ (by rw [aOW,aOW,hl]) hp2
end
end L2
namespace L2
open PySem PySem.Spec PyProof.Rows
end L2
namespace L2
open PySem PySem.Spec PyProof.Rows
section
variable {K:W.Frag} {B:bAO->Prop} {H:Hp} {S:St} {E:En} {σ:St}
theorem RE.setO2 (re:RE K B H S E) (hS:∃τ,S=σ++τ) {i j a b:Nat} {k l:Bool} {xs ys:List T} (hj:j<σ.length) (ha:σ.length<=a) (hab:a<b) (h1:E[a]? = some (some (.o k xs))) (h2:E[b]? = some (some (.o l ys))) {v w:V} (hv:S[a]? = some (some v)) (hw:S[b]? = some (some w)) :
  RE K B H ((σ.set j (some w)).set i (some v)) (((E.take σ.length).set j (some (.o l ys))).set i (some (.o k xs)))/\∀c,Ow B ((σ.set j (some w)).set i (some v)) (((E.take σ.length).set j (some (.o l ys))).set i (some (.o k xs))) c->Ow B S E c:=by
 have hb:b<S.length:=(aA8.mp hw).1;have lb:(S.take b).length=b:=by rw [aNQ];omega
 obtain ⟨r1,o1⟩:=re.setO (σ:=S.take b) (i:=j) ⟨S.drop b,(aXU b S).symm⟩ (by omega) h2 hw;obtain ⟨τ,rfl⟩:=hS;have eS:((σ++τ).take b).set j (some w)=σ.set j (some w)++τ.take (b-σ.length):=by
  rw [List.take_append,aT2 (by omega),aZH _ _ hj]
 rw [lb] at r1 o1;have e1:((E.take b).set j (some (.o l ys)))[a]? = some (some (.o k xs)):=by
  rw [aLL (by omega),aVV hab];exact h1
 have e2:(((σ++τ).take b).set j (some w))[a]? = some (some v):=by
  rw [aLL (by omega),aVV hab];exact hv
 obtain ⟨r2,o2⟩:=r1.setO (σ:=σ.set j (some w)) (i:=i) ⟨_,eS⟩ (by rw [aXN];exact ha) e1 e2;have e3:((E.take b).set j (some (.o l ys))).take (σ.set j (some w)).length=(E.take σ.length).set j (some (.o l ys)):=by
  rw [aXN,List.take_set,List.take_take,aXO (by omega)]
 rw [e3] at r2 o2;exact ⟨r2,λc z=>o1 c (o2 c z)⟩
end
section
variable {X:Cx} {K:W.Frag} {a b:Expr} {pos:Pos} {Fr:FA}
def aUW (i j:Nat) (Fr:FA):FS:=λD E=>Fr E λrs E'=>match rs with
 | [.s m,.s n]=>E.length<=m/\m<n/\(match E'[m]? with
  | some (some (.o false xs))=>(match E'[n]? with
   | some (some (.o false ys))=>D.nx (((E'.take E.length).set j (some (.o false ys))).set i (some (.o false xs)))
   | _=>False)
  | _=>False)
 | _=>False
theorem aDU {n i j:Nat} {x y:Str} {px py pt:Pos} {kt k2 pt2} (hc:X.calm=true) (hN:X.N.Nodup) (hi:X.N[i]? = some x) (hj:X.N[j]? = some y) (hij:i≠j)
  (hx:X.env.scope.names.lookup x=some .local) (hy:X.env.scope.names.lookup y=some .local) (ha:QA X [a,b] (cQ K n Fr))
  (hw:bBI [.Tuple [.Name x px,.Name y py] kt pt] (.Tuple [a,b] k2 pt2) X.env=pure (some [x,y]))
  (hs:bBH [.Tuple [.Name x px,.Name y py] kt pt] (.Tuple [a,b] k2 pt2) pos.line X.env=pure false:=by rfl) :
  QS X (.Assign [.Tuple [.Name x px,.Name y py] kt pt] (.Tuple [a,b] k2 pt2) pos) (dJ K (aUW i j Fr)):=by
 refine (aJS hc hN hi hj hij hx hy ha hw hs).le λD σ H hl h0=>?_;obtain ⟨B,E,DT,re,hF,l⟩:=h0;refine ⟨B,σ,E,_,⟨[],by simp⟩,re,hF,λrs E' vs H' S' q g re' rr hn=>?_⟩;split at q
 ·rename_i m n;obtain ⟨v,ws,e1,h1,w,ws',e2,h2,h3⟩:=rr;cases h3;subst e2;subst e1;obtain ⟨q1,q2,q⟩:=q;split at q
  ·rename_i xs hm;split at q
   ·rename_i ys hn';rw [<-re.len] at q q1;have hjl:j<σ.length:=by rw [hl];exact (aA8.mp hj).1
    obtain ⟨r2,ow⟩:=re'.setO2 (σ:=σ) (i:=i) (j:=j) g.pre hjl q1 q2 hm hn' h1 h2;refine ⟨v,w,rfl,?_⟩;rw [aX6 _ _ hij];exact l.nx _ _ _ q (g.kp.trans (Kp.less ow)) r2
   ·exact q.elim
  ·exact q.elim
 ·exact q.elim
end
end L2
namespace L2
open PySem PySem.Spec PyProof.Rows
end L2
namespace L2
open PySem PySem.Spec PyProof.Rows
end L2
namespace L2
open PySem PySem.Spec PyProof.Rows
end L2
namespace L2
open PySem PySem.Spec PyProof.Rows
end L2
namespace L2
open PySem PySem.Spec PyProof.Rows
def aS2 (l:List (Str×FE)) (Fi Fd:FE):FE:=λE Q=>wB l E λts E1=>Fi E1 λy E2=>z1 (vl E2 y) λi=>Fd E2 λz E3=>match nN l ts none i with
 | some t=>Q (.p t) E3
 | none=>Q z E3
theorem aAN {i:Str}:∀{l:List (Str×FE)} {ts:List T} {vs:List V} {acc:List (Key×V)} {o:Option T},vs.length=ts.length->vs.length=l.length->(o=none->fZ acc (Sum.inr i)=none)->nN l ts o i=none->fZ (eR acc (fM l vs)) (Sum.inr i)=none
 | [],ts,vs,acc,o,_,hl,ho,e=>by
  have e:o=none:=by unfold nN at e;exact e
  exact ho e
 | (k,F)::r,[],vs,acc,o,h,hl,ho,e=>by
  rw [h] at hl;simp at hl
 | (k,F)::r,u::ts,[],acc,o,h,hl,ho,e=>by simp at h
 | (k,F)::r,u::ts,v::ws,acc,o,h,hl,ho,e=>by
  show fZ (eR (qK acc (Sum.inr k) v) (fM r ws)) (Sum.inr i)=none;refine aAN (ts:=ts) (o:=if i=k then some u else o) (by simpa using h) (by simpa using hl) (λhx=>?_) e;rw [zQ]
  by_cases c:i=k
  ·rw [if_pos c] at hx;cases hx
  ·rw [if_neg c] at hx;rw [if_neg (λz=>c (Sum.inr.inj z))];exact ho hx
section
variable {X:Cx} {K:W.Frag} {pos:Pos} {Fi Fd F:FE} {l:List (Str×FE)}
theorem aN3 {i d:Expr} {ap pos':Pos} {keys:List (Option Expr)} {values:List Expr} {j:Nat} (hr:cU j X.A) (h:QPs X pos keys values (oO K l)) (hi:QE X i (aL K Fi)) (hd:QE X d (aL K Fd)) (hm:M2 X (.Dict keys values pos) "get" ap i d pos') (hz:l.length<=15:=by decide) (hall:keys.all (·.isSome)=true:=by rfl) (hl:keys.length=values.length:=by rfl) (h0:keys≠[]:=by intro z;cases z)
  (h15:keys.length<=15:=by decide):QE X (.Call (.Attribute (.Dict keys values pos) "get" ap) [i,d] [] pos') (aL K (aS2 l Fi Fd)):=by
 refine QE.le (t:=aIC (aOJ (oO K l)) (aL K Fi) (aL K Fd)) ⟨aIA (aUT hr) (aN6 h.h hall hl h0 h15) hi.h hd.h hm⟩ λσ H Q hlen ⟨B,S,E,Q',⟨τ,hS⟩,re,hF,lk⟩=>?_;intro p hp;have re0:RE K B (upd H p (.dK [])) S E:=re.kept λb o e=>by rw [aS (aQ e hp)];exact e
 refine rJ ⟨τ,hS⟩ re0 bY hF λts E2 vs H2 S2 q2 g2 re2 rs hl2 hp2=>⟨hp2,fM l vs,aAF l vs,aVD (aA1 l vs) hz,?_⟩;obtain ⟨τ2,hS2⟩:=g2.pre;have re3:RE K B (upd H2 p (.dK (eR [] (fM l vs)))) S2 E2:=re2.dict hp2;have rs3:bW K (upd H2 p (.dK (eR [] (fM l vs)))) (Ow B S2 E2) ts vs:=bW.dict re2 hp2 rs;have g3:Gr B H S E (upd H2 p (.dK (eR [] (fM l vs)))) S2 E2:=⟨⟨λb o e n=>by
   have nb:=aQ e hp;rw [aS nb];exact g2.kp.keep b o (by rw [aS nb];exact e) n,λb z=>by
   rcases g2.kp.new b z with z | z
   ·exact .inl z
   ·by_cases c:b=p
    ·rw [c,bY] at z;cases z
    ·rw [aS c] at z;exact .inr z⟩,g2.pre⟩
 refine ⟨p,rfl,.inl ⟨_,.inl bY⟩,?_⟩;have hS2':S2=σ++(τ++τ2):=by rw [hS2,hS,aEE]
 refine ⟨B,S2,E2,_,⟨τ++τ2,hS2'⟩,re3,q2,λy E4 w H4 S4 q4 g4 re4 ry=>?_⟩;obtain ⟨n,e1,q4⟩:=z1.ex q4;have ew:_=V.str n:=re4.vl ry e1;subst ew;have np:¬Ow B S2 E2 p:=λz=>by obtain ⟨vs,e⟩:=re3.ow z;rw [bY] at e;cases e
 have hp4:H4 p=some (.dK (eR [] (fM l vs))):=g4.kp.keep p _ bY np;have np4:¬Ow B S4 E4 p:=λz=>by obtain ⟨vs,e⟩:=re4.ow z;rw [hp4] at e;cases e
 obtain ⟨τ4,hS4⟩:=g4.pre;refine ⟨B,S4,E4,_,⟨(τ++τ2)++τ4,by rw [hS4,hS2',aEE]⟩,re4,q4,λz E5 wz H5 S5 q5 g5 re5 rz=>?_⟩;have hp5:H5 p=some (.dK (eR [] (fM l vs))):=g5.kp.keep p _ hp4 np4;refine ⟨_,aI7.k (k:=Sum.inr n) hp5,?_⟩;cases e2:nN l ts none n with
 | some t=>
  rw [e2] at q5;obtain ⟨v,v1,v2⟩:=aAT (acc:=[]) ((rs3.step g4.kp).step g5.kp) hl2 (λu z=>by cases z) e2;rw [v1];exact lk _ _ _ _ _ q5 ((g3.trans g4).trans g5) re5 v2
 | none=>
  rw [e2] at q5;have v1:=aAN (acc:=[]) (ts:=ts) (vs:=vs) (o:=none) rs3.length hl2 (λ_=>rfl) e2;rw [v1];exact lk _ _ _ _ _ q5 ((g3.trans g4).trans g5) re5 rz
end
end L2
namespace L2
open PySem PySem.Spec PyProof.Rows
end L2
namespace L2
open PySem PySem.Spec PyProof.Rows
end L2
namespace L2
open PySem PySem.Spec PyProof.Rows
def s1 (x:Option T) (k:Str->Prop):Prop:=match x with
 | some (.str i)=>k i
 | _=>False
theorem s1.ex {x:Option T} {k:Str->Prop} (h:s1 x k):∃i,x=some (.str i)/\k i:=by
 unfold s1 at h;split at h
 ·exact ⟨_,rfl,h⟩
 ·exact h.elim
def s2 (x y:Option T) (k:Str->Str->Prop):Prop:=match x,y with
 | some (.str i),some (.str j)=>k i j
 | _,_=>False
theorem s2.ex {x y:Option T} {k:Str->Str->Prop} (h:s2 x y k):∃i j,x=some (.str i)/\y=some (.str j)/\k i j:=by
 unfold s2 at h;split at h
 ·exact ⟨_,_,rfl,rfl,h⟩
 ·exact h.elim
def si (x y:Option T) (k:Str->Int->Prop):Prop:=match x,y with
 | some (.str i),some (.int j)=>k i j
 | _,_=>False
theorem si.ex {x y:Option T} {k:Str->Int->Prop} (h:si x y k):∃i j,x=some (.str i)/\y=some (.int j)/\k i j:=by
 unfold si at h;split at h
 ·exact ⟨_,_,rfl,rfl,h⟩
 ·exact h.elim
abbrev big:Nat:=1000000
theorem iZ {n:Nat} (h:n<=big):n<=bAW:=by rw [bBR];unfold big at h;omega
section
variable {K:W.Frag} {B:bAO->Prop} {H:Hp} {S:St} {E:En}
theorem RE.str (re:RE K B H S E) {r:R} {v:V} {i:Str} (h:RR K B H S E r v) (e:L2.vl E r=some (.str i)):v = .str i:=re.vl h e
end
section
variable {X:Cx} {K:W.Frag} {pos:Pos} {a b c e o:Expr} {es:List Expr} {Fa Fb Fc Fo:FE} {Fr:FA}
def aTH (Fa Fb:FE):FE:=λE Q=>Fa E λx E1=>Fb E1 λy E2=>s2 (vl E2 x) (vl E2 y) λi j=>i.length+j.length<=big/\∀z,z=i++j->Q (.p (.str z)) E2
theorem aU (ha:QE X a (aL K Fa)) (hb:QE X b (aL K Fb)):QE X (.BinOp a .Add b pos) (aL K (aTH Fa Fb)):=by
 refine (uZ aCI ha hb).le λσ H Q hl h=>two h λB S E x y v w H2 Q' hS re rx ry q lk=>?_;obtain ⟨i,j,e1,e2,c,q⟩:=q.ex;exact ⟨i,j,re.str rx e1,re.str ry e2,iZ c,lk _ _ _ _ _ (q _ rfl) .refl re rfl⟩
theorem aRL {x:Str} {n:Int} (h0:0<=n) (h:x.length*n.toNat<=big) (hn:n<=big):MulOk x n:=by
 unfold big at h hn;refine ⟨?_,λh1 h2 h3=>?_,λh1 h2=>?_⟩
 ·rw [decide_eq_false (by omega),decide_eq_false (by omega)];rfl
 ·have:(x.length:Int)*n<=1000000:=by
   have e:((x.length*n.toNat:Nat):Int)=(x.length:Int)*n:=by rw [Int.natCast_mul,Int.toNat_of_nonneg h0]
   omega
  have h5:(2^63-1)/n+1<=(x.length:Int):=by omega
  have h6:((2^63-1)/n+1)*n<=(x.length:Int)*n:=Int.mul_le_mul_of_nonneg_right h5 h0;have h7:(2^63-1)/n*n+(2^63-1)%n=2^63-1:=by rw [Int.mul_comm];exact Int.mul_ediv_add_emod _ _
  have h8:(2^63-1)%n<n:=aYJ _ (by omega);rw [Int.add_mul,Int.one_mul] at h6;omega
 ·unfold Builtin.Str.tooLong;exact decide_eq_false (by rw [bBR];omega)
theorem aBY:jP X (bBG .Mult) (λx y H Q=>∃i j,x = .str i/\y = .int j/\MulOk i j/\Q (.str (Txt.mul i j)) H):=by
 intro pins s σ H x y v u Q I rx ry h;obtain ⟨i,j,rfl,rfl,hm,q⟩:=h;obtain ⟨t,rfl⟩:=rx;obtain ⟨t',rfl⟩:=ry;exact SB.mul hm λt' k=>⟨.str _,H,I.tok _,⟨_,rfl⟩,q⟩
def aVN (Fa Fb:FE):FE:=λE Q=>Fa E λx E1=>Fb E1 λy E2=>si (vl E2 x) (vl E2 y) λi j=>(0<=j/\j<=big/\i.length*j.toNat<=big)/\∀z,z=Txt.mul i j->Q (.p (.str z)) E2
theorem yO (ha:QE X a (aL K Fa)) (hb:QE X b (aL K Fb)):QE X (.BinOp a .Mult b pos) (aL K (aVN Fa Fb)):=by
 refine (uZ aBY ha hb).le λσ H Q hl h=>two h λB S E x y v w H2 Q' hS re rx ry q lk=>?_;obtain ⟨i,j,e1,e2,⟨c1,c2,c3⟩,q⟩:=q.ex;exact ⟨i,j,re.str rx e1,re.int ry e2,aRL c1 c3 c2,lk _ _ _ _ _ (q _ rfl) .refl re rfl⟩
def aWK (Fa Fb:FE):FE:=λE Q=>Fa E λx E1=>Fb E1 λy E2=>s2 (vl E2 x) (vl E2 y) λi j=>Q (.p (.bl (!(Builtin.Str.occurrences j i 0 j.length 1).isEmpty))) E2
theorem aQ3 (ha:QE X a (aL K Fa)) (hb:QE X b (aL K Fb)) (hm:bA5 .In b=false:=by rfl):QE X (.Compare a [.In] [b] pos) (aL K (aWK Fa Fb)):=by
 refine (nH aGL ha hb hm).le λσ H Q hl h=>two h λB S E x y v w H2 Q' hS re rx ry q lk=>?_;obtain ⟨i,j,e1,e2,q⟩:=q.ex;exact ⟨i,j,re.str rx e1,re.str ry e2,lk _ _ _ _ _ q .refl re rfl⟩
def aV7 (Fa Fb:FE):FE:=λE Q=>Fa E λx E1=>Fb E1 λy E2=>si (vl E2 x) (vl E2 y) λi j=>i.length<=big/\o1 (c8 i.cps.toList j) λc=>Q (.p (.str ⟨#[c]⟩)) E2
theorem xX (eK:X.K=K) (ha:QE X a (aL K Fa)) (hb:QE X b (aL K Fb)) (hs:qV b):QE X (.Subscript a b pos) (aL K (aV7 Fa Fb)):=by
 subst eK;refine (aOI aJP ha hb hs).le λσ H Q hl h=>two (Fa:=Fa) (Fb:=Fb) h λB S E x y v w H2 Q' hS re rx ry q lk=>?_;obtain ⟨i,j,e1,e2,c,q⟩:=q.ex;obtain ⟨d,e3,q⟩:=o1.ex q;exact .inr (.inr ⟨i,j,d,re.str rx e1,re.int ry e2,iZ c,e3,lk _ _ _ _ _ q .refl re rfl⟩)
def aVF (Fr:FA):FE:=λE Q=>Fr E λrs E1=>match rs with
 | [x]=>s1 (vl E1 x) λi=>i.length<=big/\Q (.p (.int i.length)) E1
 | _=>False
theorem yL {n:Nat} {p:Pos} (hg:Gl X "len") (hm:X.mg "len" = none) (ha:QA X (e::es) (cQ K n Fr)) (hs:bB (e::es)=true:=by rfl):QE X (.Call (.Name "len" p) (e::es) [] pos) (aL K (aVF Fr)):=by
 refine (dI xH hg hm PySem.boot_len ha (by decide) (by decide) hs).le λσ H Q hl h=>args (Fr:=Fr) h λB S E rs vs H2 Q' hS re rr hn q lk=>?_
 match rs,rr,q with
 | [x],⟨v,ws,e1,h1,h2⟩,q=>
  cases h2;subst e1;obtain ⟨i,e2,c,q⟩:=s1.ex q;exact ⟨i,by rw [re.str h1 e2],iZ c,lk _ _ _ _ _ q .refl re rfl⟩
 | [],_,q=>exact q.elim
 | _::_::_,_,q=>exact q.elim
def aUV (Fr:FA):FE:=λE Q=>Fr E λrs E1=>match rs with
 | [x]=>i1 (vl E1 x) λi=>i.natAbs.log2<1920/\∀z:Str,z=aA7 (toString i)->Q (.p (.str z)) E1
 | _=>False
theorem aD4 {n:Nat} {p:Pos} (hg:Gl X "str") (hm:X.mg "str" = none) (ha:QA X (e::es) (cQ K n Fr)) (hs:bB (e::es)=true:=by rfl):QE X (.Call (.Name "str" p) (e::es) [] pos) (aL K (aUV Fr)):=by
 refine (iA yE hg hm (by decide +kernel) ha (by decide) (by decide) hs).le λσ H Q hl h=>args (Fr:=Fr) h λB S E rs vs H2 Q' hS re rr hn q lk=>?_
 match rs,rr,q with
 | [x],⟨v,ws,e1,h1,h2⟩,q=>
  cases h2;subst e1;obtain ⟨i,e2,c,q⟩:=i1.ex q;exact ⟨i,by rw [re.int h1 e2],c,lk _ _ _ _ _ (q _ rfl) .refl re rfl⟩
 | [],_,q=>exact q.elim
 | _::_::_,_,q=>exact q.elim
theorem xP:fA X (.type "int") (λxs H Q=>∃x n,xs=[.str x]/\PySem.intText? x=some n/\x.length<=640/\Q (.int n) H):=by
 intro pins s σ H xs us Q I r h;obtain ⟨x,n,rfl,hn,hl,q⟩:=h;obtain ⟨u,rfl,rx⟩:=iF r;obtain ⟨t,rfl⟩:=rx;exact W.KIN.call_text hn hl ⟨.int n,H,I.tok _,⟨_,rfl⟩,q⟩
def aTD (Fr:FA):FE:=λE Q=>Fr E λrs E1=>match rs with
 | [x]=>s1 (vl E1 x) λi=>i.length<=640/\o1 (PySem.intText? i) λn=>Q (.p (.int n)) E1
 | _=>False
theorem qS {n:Nat} {p:Pos} (hg:Gl X "int") (hm:X.mg "int" = none) (ha:QA X (e::es) (cQ K n Fr)) (hs:bB (e::es)=true:=by rfl):QE X (.Call (.Name "int" p) (e::es) [] pos) (aL K (aTD Fr)):=by
 refine (iA xP hg hm (by decide +kernel) ha (by decide) (by decide) hs).le λσ H Q hl h=>args (Fr:=Fr) h λB S E rs vs H2 Q' hS re rr hn q lk=>?_
 match rs,rr,q with
 | [x],⟨v,ws,e1,h1,h2⟩,q=>
  cases h2;subst e1;obtain ⟨i,e2,c,q⟩:=s1.ex q;obtain ⟨m,e3,q⟩:=o1.ex q;exact ⟨i,m,by rw [re.str h1 e2],e3,c,lk _ _ _ _ _ q .refl re rfl⟩
 | [],_,q=>exact q.elim
 | _::_::_,_,q=>exact q.elim
end
end L2
namespace L2
open PySem PySem.Spec PyProof.Rows
section
variable {X:Cx} {K:W.Frag} {pos ap:Pos} {e o:Expr} {es:List Expr} {Fo:FE} {Fr:FA} {name:Str} {id:String}
def aSK (g:Str->T) (Fo:FE):FE:=λE Q=>Fo E λx E1=>s1 (vl E1 x) λi=>Q (.p (g i)) E1
theorem aJV {g:Str->T} {gv:Str->V} (slot:Slot "str" name id) (hty:typeOf (.builtin id)=pure (.type "method_descriptor")) (hm:MtR X id (λx vs H Q=>∃i,x = .str i/\vs=[]/\Q (gv i) H)) (hg:∀i K H O,Rp K H O (g i) (gv i))
  (ho:QE X o (aL K Fo)) (hbase:bA4 o name X.env (bA2 o X.env)=bA2 o X.env:=by rfl) (hline:(ap.endLine==pos.line)=true:=by rfl):QE X (.Call (.Attribute o name ap) [] [] pos) (aL K (aSK g Fo)):=by
 refine QE.le ⟨aK9 PySem.F.plainAttrs_str slot hty hm ho.h hbase hline⟩ λσ H Q hl h=>one (Fa:=Fo) h λB S E x v H2 Q' hS re rx q lk=>?_;obtain ⟨i,e1,q⟩:=q.ex;have ev:=re.str rx e1;subst ev;exact ⟨rfl,i,rfl,rfl,lk _ _ _ _ _ q .refl re (hg _ _ _ _)⟩
theorem aBO:MtR X "str.isascii" (λx vs H Q=>∃i,x = .str i/\vs=[]/\Q (.bl (aYM i)) H):=by
 intro pins s σ H x vs v us Q I rx rv h;obtain ⟨i,rfl,rfl,q⟩:=h;obtain ⟨t,rfl⟩:=rx;cases rv;exact SC.isascii ⟨.bl _,H,I,rfl,q⟩
theorem aB0:MtR X "str.isdigit" (λx vs H Q=>∃i,x = .str i/\vs=[]/\Q (.bl (aYN i)) H):=by
 intro pins s σ H x vs v us Q I rx rv h;obtain ⟨i,rfl,rfl,q⟩:=h;obtain ⟨t,rfl⟩:=rx;cases rv;exact SC.isdigit ⟨.bl _,H,I,rfl,q⟩
theorem aC2 (ho:QE X o (aL K Fo)) (hbase:bA4 o "isascii" X.env (bA2 o X.env)=bA2 o X.env:=by rfl) (hline:(ap.endLine==pos.line)=true:=by rfl):QE X (.Call (.Attribute o "isascii" ap) [] [] pos) (aL K (aSK (λi=>.bl (aYM i)) Fo)):=
 aJV PySem.F.slot_str_isascii PySem.F.type_str_isascii aBO (λ_ _ _ _=>rfl) ho hbase hline
theorem aBG (ho:QE X o (aL K Fo)) (hbase:bA4 o "isdigit" X.env (bA2 o X.env)=bA2 o X.env:=by rfl) (hline:(ap.endLine==pos.line)=true:=by rfl):QE X (.Call (.Attribute o "isdigit" ap) [] [] pos) (aL K (aSK (λi=>.bl (aYN i)) Fo)):=
 aJV PySem.F.slot_str_isdigit PySem.F.type_str_isdigit aB0 (λ_ _ _ _=>rfl) ho hbase hline
def y8 (G:Str->R->En->(R->En->Prop)->Prop) (Fo:FE) (Fr:FA):FE:=λE Q=>Fo E λx E1=>s1 (vl E1 x) λi=>Fr E1 λrs E2=>match rs with
 | [y]=>G i y E2 Q
 | _=>False
theorem oA {n:Nat} {G:Str->R->En->(R->En->Prop)->Prop} {r:V->List V->Hp->VK->Prop} (slot:Slot "str" name id) (hty:typeOf (.builtin id)=pure (.type "method_descriptor")) (hm:MtR X id r)
  (k:∀B S E i y w H2 Q' Q,RE K B H2 S E->RR K B H2 S E y w->G i y E Q'->Lk K B H2 S E Q' Q->r (.str i) [w] H2 Q)
  (ho:QE X o (aL K Fo)) (ha:QA X [e] (cQ K n Fr)) (hbase:bA4 o name X.env (bA2 o X.env)=bA2 o X.env:=by rfl) (hline:(ap.endLine==pos.line)=true:=by rfl) (hs:bR e=false:=by rfl) :
  QE X (.Call (.Attribute o name ap) [e] [] pos) (aL K (y8 G Fo Fr)):=by
 refine QE.le ⟨aLB PySem.F.plainAttrs_str slot hty hm ho.h ha.h hbase (by rw [bX hs];rfl) hline (bX hs) (cO rfl)⟩ λσ H Q hl h=>one (Fa:=Fo) h λB S E x v H2 Q' hS re rx q lk=>?_;obtain ⟨i,e1,q⟩:=q.ex;have ev:=re.str rx e1;subst ev;refine ⟨rfl,B,S,E,_,hS,re,q,λrs E2 vs H3 S3 q3 g re3 rr hn=>?_⟩
 match rs,rr,q3 with
 | [y],⟨w,ws,e2,h1,h2⟩,q3=>
  cases h2;subst e2;exact k B S3 E2 i y w H3 Q' Q re3 h1 q3 (lk.step g)
 | [],_,q=>exact q.elim
 | _::_::_,_,q=>exact q.elim
def aOB (i:Str) (y:R) (E:En) (Q:R->En->Prop):Prop:=s1 (vl E y) λj=>Q (.p (.bl (aX4 i j))) E
theorem aFY:MtR X "str.startswith" (λx vs H Q=>∃i j,x = .str i/\vs=[.str j]/\Q (.bl (aX4 i j)) H):=by
 intro pins s σ H x vs v us Q I rx rv h;obtain ⟨i,j,rfl,rfl,q⟩:=h;obtain ⟨t,rfl⟩:=rx;obtain ⟨u,rfl,ry⟩:=iF rv;obtain ⟨t',rfl⟩:=ry;exact SC.startswith ⟨.bl _,H,I,rfl,q⟩
theorem lT {n:Nat} (ho:QE X o (aL K Fo)) (ha:QA X [e] (cQ K n Fr)) (hbase:bA4 o "startswith" X.env (bA2 o X.env)=bA2 o X.env:=by rfl) (hline:(ap.endLine==pos.line)=true:=by rfl) (hs:bR e=false:=by rfl):QE X (.Call (.Attribute o "startswith" ap) [e] [] pos) (aL K (y8 aOB Fo Fr)):=
 oA PySem.F.slot_str_startswith PySem.F.type_str_startswith aFY (λB S E i y w H2 Q' Q re rr q lk=>by
  obtain ⟨j,e1,q⟩:=q.ex;exact ⟨i,j,rfl,by rw [re.str rr e1],lk _ _ _ _ _ q .refl re rfl⟩) ho ha hbase hline hs
def aQ5 (i:Str) (y:R) (E:En) (Q:R->En->Prop):Prop:=s1 (vl E y) λj=>i.length<=big/\∀z,z=aZC i j->Q (.p (.str z)) E
theorem aKG:MtR X "str.removeprefix" (λx vs H Q=>∃i j,x = .str i/\vs=[.str j]/\i.length<=bAW/\Q (.str (aZC i j)) H):=by
 intro pins s σ H x vs v us Q I rx rv h;obtain ⟨i,j,rfl,rfl,hz,q⟩:=h;obtain ⟨t,rfl⟩:=rx;obtain ⟨u,rfl,ry⟩:=iF rv;obtain ⟨t',rfl⟩:=ry;exact SC.removeprefix (λt' k=>⟨.str _,H,I.tok _,⟨_,rfl⟩,q⟩) hz
theorem qD {n:Nat} (ho:QE X o (aL K Fo)) (ha:QA X [e] (cQ K n Fr)) (hbase:bA4 o "removeprefix" X.env (bA2 o X.env)=bA2 o X.env:=by rfl) (hline:(ap.endLine==pos.line)=true:=by rfl) (hs:bR e=false:=by rfl):QE X (.Call (.Attribute o "removeprefix" ap) [e] [] pos) (aL K (y8 aQ5 Fo Fr)):=
 oA PySem.F.slot_str_removeprefix PySem.F.type_str_removeprefix aKG (λB S E i y w H2 Q' Q re rr q lk=>by
  obtain ⟨j,e1,c,q⟩:=q.ex;exact ⟨i,j,rfl,by rw [re.str rr e1],iZ c,lk _ _ _ _ _ (q _ rfl) .refl re rfl⟩) ho ha hbase hline hs
def aR5 (i:Str) (y:R) (E:En) (Q:R->En->Prop):Prop:=i1 (vl E y) λj=>(0<=j/\j<=big)/\∀z,z=Txt.zfill i j->Q (.p (.str z)) E
theorem aI0:MtR X "str.zfill" (λx vs H Q=>∃i j,x = .str i/\vs=[.int j]/\PadOk j=true/\Q (.str (Txt.zfill i j)) H):=by
 intro pins s σ H x vs v us Q I rx rv h;obtain ⟨i,j,rfl,rfl,hz,q⟩:=h;obtain ⟨t,rfl⟩:=rx;obtain ⟨u,rfl,ry⟩:=iF rv;obtain ⟨t',rfl⟩:=ry;exact SC.zfill hz λt' k=>⟨.str _,H,I.tok _,⟨_,rfl⟩,q⟩
theorem aSO {j:Int} (h0:0<=j) (h1:j<=big):PadOk j=true:=by
 unfold big at h1;unfold PadOk fitsSsize Builtin.Str.tooLong;rw [decide_eq_false (by omega),decide_eq_false (by omega),decide_eq_false (by rw [bBR];omega)];rfl
theorem aHN {n:Nat} (ho:QE X o (aL K Fo)) (ha:QA X [e] (cQ K n Fr)) (hbase:bA4 o "zfill" X.env (bA2 o X.env)=bA2 o X.env:=by rfl) (hline:(ap.endLine==pos.line)=true:=by rfl) (hs:bR e=false:=by rfl):QE X (.Call (.Attribute o "zfill" ap) [e] [] pos) (aL K (y8 aR5 Fo Fr)):=
 oA PySem.F.slot_str_zfill PySem.F.type_str_zfill aI0 (λB S E i y w H2 Q' Q re rr q lk=>by
  obtain ⟨j,e1,⟨c1,c2⟩,q⟩:=q.ex;exact ⟨i,j,rfl,by rw [re.int rr e1],aSO c1 c2,lk _ _ _ _ _ (q _ rfl) .refl re rfl⟩) ho ha hbase hline hs
def aS9 (i:Str) (y:R) (E:En) (Q:R->En->Prop):Prop:=s1 (vl E y) λj=>((j.length==0)=false/\i.length<=big)/\∀a b c,aVR i j=(a,b,c)->Q (.p (.tup [.str a,.str b,.str c])) E
theorem aLR:MtR X "str.partition" (λx vs H Q=>∃i j,x = .str i/\vs=[.str j]/\(j.length==0)=false/\i.length<=bAW/\∀p,H p=none->Q (.ref p) (upd H p (.tup [.str (aVR i j).1,.str (aVR i j).2.1,.str (aVR i j).2.2]))):=by
 intro pins s σ H x vs v us Q I rx rv h;obtain ⟨i,j,rfl,rfl,hj,hz,q⟩:=h;obtain ⟨t,rfl⟩:=rx;obtain ⟨u,rfl,ry⟩:=iF rv;obtain ⟨t',rfl⟩:=ry;refine bB0 PySem.F.slot_str_partition (bBZ _ _ _) PySem.F.entry_str_partition (PySem.F.args_str_partition_2 _ _) (meets_str_partition i j t t' hj hz) ?_;have fin:∀(ta tb tc:Tok) (k:Nat),EP X pins σ Q (.ref s.heap.objs.size) { s with toks:=k,heap:=s.heap.push { cls:=.type "tuple",data:=.seq [.str (aVR i j).1 ta,.str (aVR i j).2.1 tb,.str (aVR i j).2.2 tc].toArray } }:=λta tb tc k=>by
  refine ⟨.ref s.heap.objs.size,_,I.laid (o:=.tup [.str (aVR i j).1,.str (aVR i j).2.1,.str (aVR i j).2.2]) (t':=k) (λb u e=>aDZ _ e) (aFI _) ?_,rfl,q _ (I.hok.fresh (aFI _))⟩;exact ⟨by show 3<=bAW;decide,_,.cons ⟨_,rfl⟩ (.cons ⟨_,rfl⟩ (.cons ⟨_,rfl⟩ .nil)),⟨_,aLS _ rfl,rfl,_,rfl⟩⟩
 revert fin
 unfold aVR;cases Builtin.Str.occurrences i j 0 i.length 1 with
 | nil=>intro fin;exact fin _ _ _ _
 | cons k r=>intro fin;exact fin _ _ _ _
theorem xC {n:Nat} (ho:QE X o (aL K Fo)) (ha:QA X [e] (cQ K n Fr)) (hbase:bA4 o "partition" X.env (bA2 o X.env)=bA2 o X.env:=by rfl) (hline:(ap.endLine==pos.line)=true:=by rfl) (hs:bR e=false:=by rfl):QE X (.Call (.Attribute o "partition" ap) [e] [] pos) (aL K (y8 aS9 Fo Fr)):=
 oA PySem.F.slot_str_partition PySem.F.type_str_partition aLR (λB S E i y w H2 Q' Q re rr q lk=>by
  obtain ⟨j,e1,⟨c1,c2⟩,q⟩:=q.ex;refine ⟨i,j,rfl,by rw [re.str rr e1],c1,iZ c2,λp hp=>?_⟩;obtain ⟨g,re',rp⟩:=re.tup (ts:=[.str (aVR i j).1,.str (aVR i j).2.1,.str (aVR i j).2.2]) (vs:=[.str (aVR i j).1,.str (aVR i j).2.1,.str (aVR i j).2.2]) hp ⟨_,_,rfl,rfl,_,_,rfl,rfl,_,_,rfl,rfl,rfl⟩;exact lk _ _ _ _ _ (q _ _ _ rfl) g re' rp) ho ha hbase hline hs
def aE (l:List Str):List T:=l.map T.str
theorem aA5 {H:Hp} {O:bAO->Prop}:∀l:List Str,bW K H O (aE l) (l.map V.str)
 | []=>rfl
 | x::l=>⟨_,_,rfl,rfl,aA5 l⟩
theorem vF:∀l:List (Str×Tok),bA ((l.map (·.1)).map V.str) (strValues l)
 | []=>.nil
 | (x,t)::l=>.cons ⟨t,rfl⟩ (vF l)
def aQ1 (i:Str) (y:R) (E:En) (Q:R->En->Prop):Prop:=s1 (vl E y) λj=>((j.length==0)=false/\i.length<=big)/\∀l,l=aQV i j->Q (.s E.length) (E++[some (.o false (aE l))])
theorem aG2 (i j:Str):(aQV i j).length<=i.length+2:=by
 have h:=StrLaws.occ_length_le i j 0 i.length (i.length+1);unfold aQV
 split
 ·simp
 ·split
  ·simp
  ·unfold Builtin.Str.partsBetween;simp only [aG5,List.length_zip,aOW,aBN];omega
theorem aGD (i j:Str):(Builtin.Str.partsBetween i (Builtin.Str.occurrences i j 0 i.length (i.length+1)) j.length).length<=i.length+2:=by
 have h:=StrLaws.occ_length_le i j 0 i.length (i.length+1);unfold Builtin.Str.partsBetween;simp only [aG5,List.length_zip,aOW,aBN];omega
theorem aLF:MtR X "str.split" (λx vs H Q=>∃i j,x = .str i/\vs=[.str j]/\(j.length==0)=false/\i.length<=big/\∀p,H p=none->Q (.ref p) (upd H p (.lst ((aQV i j).map V.str)))):=by
 intro pins s σ H x vs v us Q I rx rv h;obtain ⟨i,j,rfl,rfl,hj,hz,q⟩:=h;obtain ⟨t,rfl⟩:=rx;obtain ⟨u,rfl,ry⟩:=iF rv;obtain ⟨t',rfl⟩:=ry;have z1:(Builtin.Str.partsBetween i (Builtin.Str.occurrences i j 0 i.length (i.length+1)) j.length).length<=bAW:=by
  have:=aGD i j;unfold big at hz;rw [bBR];omega
 have fin:∀(l:List (Str×Tok)) (k:Nat),l.map (·.1)=aQV i j->EP X pins σ Q (.ref s.heap.objs.size) { s with toks:=k,heap:=s.heap.push { cls:=.type "list",data:=.seq (strValues l).toArray } }:=λl k el=>by
  refine ⟨.ref s.heap.objs.size,_,I.laid (o:=.lst ((aQV i j).map V.str)) (t':=k) (λb u e=>aDZ _ e) (aFI _) ?_,rfl,q _ (I.hok.fresh (aFI _))⟩;refine ⟨?_,strValues l,0,by rw [<-el];exact vF l,aLS _ rfl⟩;have:=aG2 i j;unfold big at hz;rw [aG5,bBR];omega
 cases h1:(decide (i.length<j.length)||decide (Builtin.Str.strKind i<Builtin.Str.strKind j))
 ·cases hf:(Builtin.Str.occurrences i j 0 i.length (i.length+1)).isEmpty
  ·refine bB0 PySem.F.slot_str_split (bBZ _ _ _) PySem.F.entry_str_split (PySem.F.args_str_split_2 _ _) (meets_str_split_sep i j t t' h1 hj hf (iZ hz) z1) ?_;show wants _ _ _ { s with toks:=_,heap:=s.heap.push { cls:=.type "list",data:=.seq (strsFrom s.toks (Builtin.Str.partsBetween i (Builtin.Str.occurrences i j 0 i.length (i.length+1)) j.length)).toArray } };rw [strsFrom_eq];exact fin (numbered s.toks _) _ ((numbered_texts _ _).trans ((if_neg (ne_true_of_eq_false h1)).trans (if_neg (ne_true_of_eq_false hf))).symm)
  ·exact bB0 PySem.F.slot_str_split (bBZ _ _ _) PySem.F.entry_str_split (PySem.F.args_str_split_2 _ _) (meets_str_split_not_found i j t t' h1 hj hf) (fin [(i,t)] _ ((if_neg (ne_true_of_eq_false h1)).trans (if_pos hf)).symm)
 ·exact bB0 PySem.F.slot_str_split (bBZ _ _ _) PySem.F.entry_str_split (PySem.F.args_str_split_2 _ _) (meets_str_split_cannot_occur i j t t' h1) (fin [(i,t)] _ (if_pos h1).symm)
theorem nE {n:Nat} (ho:QE X o (aL K Fo)) (ha:QA X [e] (cQ K n Fr)) (hbase:bA4 o "split" X.env (bA2 o X.env)=bA2 o X.env:=by rfl) (hline:(ap.endLine==pos.line)=true:=by rfl) (hs:bR e=false:=by rfl):QE X (.Call (.Attribute o "split" ap) [e] [] pos) (aL K (y8 aQ1 Fo Fr)):=
 oA PySem.F.slot_str_split PySem.F.type_str_split aLF (λB S E i y w H2 Q' Q re rr q lk=>by
  obtain ⟨j,e1,⟨c1,c2⟩,q⟩:=q.ex;refine ⟨i,j,rfl,by rw [re.str rr e1],c1,c2,λp hp=>?_⟩;obtain ⟨g,re'⟩:=re.lst hp (aA5 (aQV i j));exact lk _ _ _ _ _ (q _ rfl) g re' (by rw [<-re.len];exact fX)) ho ha hbase hline hs
def dC:List T->Option (List Str)
 | []=>some []
 | .str x::r=>(dC r).map (x::·)
 | _=>none
theorem uQ:∀{xs:List T} {l:List Str},dC xs=some l->xs=aE l
 | [],_,h=>by cases h;rfl
 | .str x::r,l,h=>by
  cases q:dC r with
  | none=>rw [dC,q] at h;cases h
  | some m=>
   rw [dC,q] at h;cases h;rw [uQ q];rfl
 | .non::_,_,h=>by cases h
 | .bl _::_,_,h=>by cases h
 | .int _::_,_,h=>by cases h
 | .tup _::_,_,h=>by cases h
 | .lst _::_,_,h=>by cases h
theorem kK:∀l:List Str,dC (aE l)=some l
 | []=>rfl
 | x::l=>by show (dC (aE l)).map (x::·)=_;rw [kK l];rfl
def aDX (i:Str) (y:R) (E:En) (Q:R->En->Prop):Prop:=match vl E y with
 | some (.lst xs)=>o1 (dC xs) λl=>JoinOk i l=true/\∀z,z=Txt.join i l->Q (.p (.str z)) E
 | _=>False
theorem u9:∀{l:List Str} {us:List Value},bA (l.map V.str) us->∃m:List (Str×Tok),us=strValues m/\m.map (·.1)=l
 | [],us,h=>by cases h;exact ⟨[],rfl,rfl⟩
 | x::l,us,h=>by
  cases h with
  | cons h1 h2=>
   obtain ⟨t,rfl⟩:=h1;obtain ⟨m,rfl,e⟩:=u9 h2;exact ⟨(x,t)::m,rfl,by rw [aQA,e]⟩
theorem zT {H:Hp} {O:bAO->Prop}:∀{l:List Str} {vs:List V},bW K H O (aE l) vs->vs=l.map V.str
 | [],_,h=>h
 | x::l,_,⟨v,r,e,h1,h2⟩=>by
  have h1:v = .str x:=h1;rw [e,h1,zT h2];rfl
theorem aM4:MtR X "str.join" (λx vs H Q=>∃i a l,x = .str i/\vs=[.ref a]/\kF X.K H a (l.map V.str)/\JoinOk i l=true/\Q (.str (Txt.join i l)) H):=by
 intro pins s σ H x vs v us Q I rx rv h;obtain ⟨i,a,l,rfl,rfl,sq,hj,q⟩:=h;obtain ⟨t,rfl⟩:=rx;obtain ⟨u,rfl,ry⟩:=iF rv;cases ry;obtain ⟨its,r,pl,hz⟩:=I.list sq;obtain ⟨m,rfl,e⟩:=u9 r;exact SC.join pl.isList e hj λt' k=>⟨.str _,H,I.tok _,⟨_,rfl⟩,q⟩
theorem xJ {n:Nat} (eK:X.K=K) (ho:QE X o (aL K Fo)) (ha:QA X [e] (cQ K n Fr)) (hbase:bA4 o "join" X.env (bA2 o X.env)=bA2 o X.env:=by rfl) (hline:(ap.endLine==pos.line)=true:=by rfl) (hs:bR e=false:=by rfl):QE X (.Call (.Attribute o "join" ap) [e] [] pos) (aL K (y8 aDX Fo Fr)):=by
 subst eK;refine oA PySem.F.slot_str_join PySem.F.type_str_join aM4 (λB S E i y w H2 Q' Q re rr q lk=>?_) ho ha hbase hline hs;unfold aDX at q;split at q
 ·rename_i xs e1;obtain ⟨l,e2,c,q⟩:=o1.ex q;rw [uQ e2] at e1;obtain ⟨a,vs,rfl,sq,rs⟩:=re.vl rr e1;rw [zT rs] at sq;exact ⟨i,a,l,rfl,rfl,sq,c,lk _ _ _ _ _ (q _ rfl) .refl re rfl⟩
 ·exact q.elim
end
end L2
namespace L2
open PySem PySem.Spec PyProof.Rows
section
variable {X:Cx} {K:W.Frag} {pos:Pos} {a b c e o:Expr} {es:List Expr} {Fa Fb Fc Fo:FE} {Fr:FA} {Gl' Gh G:FO}
def aWB:V->Option Int->Option Int->Hp->VK->Prop:=λx lo hi H Q=>∃z,x = .str z/\z.length<=bAW/\Q (.str (aXV z lo hi)) H
theorem xF {v:Value} {o:Option Int} (p:IsPart v o):∃q:Option (Int×Tok),v=partValue q/\q.map (·.1)=o:=by
 cases p with
 | none=>exact ⟨none,rfl,rfl⟩
 | int i t=>exact ⟨some (i,t),rfl,rfl⟩
theorem aSD:SlR X aWB:=by
 intro pins s σ H x v vl vu lo hi sl Q I rx hs pl pu h;obtain ⟨z,rfl,hz,q⟩:=h;obtain ⟨t,rfl⟩:=rx;obtain ⟨l,rfl,el⟩:=xF pl;obtain ⟨u,rfl,eu⟩:=xF pu;refine ⟨"str",_,PySem.F.slot_str_getitem.lookup,bBZ _ _ _,wpAny_getItem_str_slice (l:=l) (u:=u) (st:=none) hs rfl ?_⟩;have e:(sliceMade z t l u none)=if ((1:Int)==1&&(Builtin.Str.strSliceIndices lo hi 1 z.length).length==z.length)=true then .val (.str z t) else .str ⟨((Builtin.Str.strSliceIndices lo hi 1 z.length).filterMap (z.cps[·]?)).toArray⟩:=by
  subst el;subst eu;rfl
 rw [e];exact post_val_or_str ⟨aVD (aZ4 z lo hi) hz,λt' k=>⟨.str _,H,I.tok _,⟨_,rfl⟩,q⟩⟩
def aWY (Fa:FE) (Gl' Gh:FO):FE:=λE Q=>Fa E λx E1=>s1 (vl E1 x) λz=>Gl' E1 λlo E2=>Gh E2 λhi E3=>z.length<=big/\∀y,y=aXV z lo hi->Q (.p (.str y)) E3
theorem cY {lo hi:Option Expr} {p2:Pos} (he:QE X e (aL K Fa)) (hl:QO X lo (tU K Gl')) (hu:QO X hi (tU K Gh)):QE X (.Subscript e (.Slice lo hi none p2) pos) (aL K (aWY Fa Gl' Gh)):=by
 refine (yX aSD he hl hu).le λσ H Q _ ⟨B,S,E,Q',⟨τ,hS⟩,re,hF,lk⟩=>⟨B,S,E,_,⟨τ,hS⟩,re,hF,λx E1 v H1 S1 q g1 re1 rx=>?_⟩;obtain ⟨z,ez,q⟩:=s1.ex q;have ev:=re1.str rx ez;obtain ⟨τ1,hS1⟩:=g1.pre;refine ⟨B,S1,E1,_,⟨τ++τ1,by rw [hS1,hS,aEE]⟩,re1,q,λl E2 H2 S2 q2 g2 re2=>?_⟩;obtain ⟨τ2,hS2⟩:=g2.pre;refine ⟨B,S2,E2,_,⟨τ++τ1++τ2,by rw [hS2,hS1,hS,aEE,aEE,aEE]⟩,re2,q2,λh E3 H3 S3 q3 g3 re3=>?_⟩;exact ⟨z,ev,iZ q3.1,lk _ _ _ _ _ (q3.2 _ rfl) ((g1.trans g2).trans g3) re3 rfl⟩
def aIO (x:Str):Str:=⟨x.cps.toList.reverse.toArray⟩
theorem aML (n:Nat):Builtin.Str.strSliceIndices none none (-1) n=(aYH n).reverse:=by
 unfold Builtin.Str.strSliceIndices sliceRange;simp only [show ¬((-1:Int)>0) by decide,if_false];apply List.ext_getElem
 ·simp only [aG5,aZS,aXG];rw [show (- -1:Int)=1 by decide,Int.ediv_one]
  split<;>omega
 ·intro i h1 h2;simp only [List.getElem_map,List.getElem_range,List.getElem_reverse,aZS];simp only [aXG,aZS] at h2;omega
theorem aGR (x:Str):(aYH x.length).filterMap (x.cps[·]?)=x.cps.toList:=by
 have e:(x.cps.toList.length)=x.length:=by simp [bAL]
 rw [<-e];have key:∀(r l:List Nat),(aYH r.length).filterMap ((r.reverse++l)[·]?)=r.reverse:=λr=>by
  induction r with
  | nil=>intro l;rfl
  | cons a r ih=>
   intro l;rw [aOW,List.range_succ,List.filterMap_append,aX0,aEE,ih ([a]++l)]
   congr 1
   have e:(r.reverse++([a]++l))[r.length]? = some a:=by
    rw [aUO (by simp)];simp
   rw [aVZ,e];rfl
 have this:∀l:List Nat,(aYH l.length).filterMap (l[·]?)=l:=λl=>by
  have h:=key l.reverse []
  simpa using h
 have h:=this x.cps.toList
 simpa using h
theorem aCW (x:Str):((Builtin.Str.strSliceIndices none none (-1) x.length).filterMap (x.cps[·]?))=x.cps.toList.reverse:=by
 rw [aML,List.filterMap_reverse,aGR]
def aON (te:TE) (ts:TO):TE:=λσ H Q=>te σ H λx H1=>ts σ H1 λk H2=>k=some (-1)/\∃z,x = .str z/\z.length<=bAW/\Q (.str (aIO z)) H2
theorem aMH {te:TE} {st:Option Expr} {ts:TO} {p2:Pos} (he:PE X e te) (hk:PO X st ts) (hop:∀a b,∃ops,bB9 (.Slice none none st p2) false a b=operate ops (bCD a b)):PE X (.Subscript e (.Slice none none st p2) pos) (aON te ts):=by
 intro pins s σ H Q I h;refine Subscript_ (b9 (he pins s σ H _ I h) λv s1 ⟨x,H1,I1,r1,q1⟩=>?_);refine wpAny_Slice ?_;rw [bCM];refine bAT ?_;refine bAT ?_;refine b9 (hk pins s1 σ H1 _ I1 q1) λvk s2 ⟨k,H2,I2,pk,q2⟩=>?_;obtain ⟨rfl,z,rfl,hz,q⟩:=q2;have I4:aR X pins σ H2 { s2 with heap:=s2.heap.push { cls:=.type "slice",data:=.fields #[.none,.none,vk] } }:=I2.kept (t':=s2.toks) λb ob q=>aDZ _ q;obtain ⟨t,rfl⟩:=r1;obtain ⟨w,rfl,ew⟩:=xF pk;have hg:bAQ (bAV X.prog X.w) X.A (bCD (.str z t) (.ref s2.heap.objs.size)) (EP X pins σ Q) X.xe { s2 with heap:=s2.heap.push { cls:=.type "slice",data:=.fields #[.none,.none,partValue w] } }:=by
  refine wpAny_getItem_str_slice (l:=none) (u:=none) (st:=w) (Heap.IsSliceOf.new ..) (by rw [ew];rfl) ?_;have e:(sliceMade z t none none w) = .str (aIO z):=by
   unfold sliceMade slicePicked aIO;rw [ew];simp only [Option.getD_some,Option.map_none];rw [if_neg (by simp),aCW]
  rw [e];refine ⟨?_,.str _,H2,I4.tok _,⟨_,rfl⟩,q⟩;show (z.cps.toList.reverse.toArray).size<=_
  simpa [bAL] using hz
 obtain ⟨ops,ho⟩:=hop (.str z t) (.ref s2.heap.objs.size);exact tail_any (ops:=ops) (bBZ _ _ _) PySem.F.slot_str_getitem.lookup hg ho
def aUD (Fa:FE) (G:FO):FE:=λE Q=>Fa E λx E1=>s1 (vl E1 x) λz=>G E1 λk E2=>k=some (-1)/\z.length<=big/\∀y,y=aIO z->Q (.p (.str y)) E2
theorem aOF {st:Option Expr} {p2:Pos} (he:QE X e (aL K Fa)) (hk:QO X st (tU K G)) (hop:∀a b,∃ops,bB9 (.Slice none none st p2) false a b=operate ops (bCD a b):=by exact λ_ _=>⟨_,by with_unfolding_all rfl⟩):QE X (.Subscript e (.Slice none none st p2) pos) (aL K (aUD Fa G)):=by
 refine QE.le (t:=aON (aL K Fa) (tU K G)) ⟨aMH he.h hk.h hop⟩ λσ H Q _ ⟨B,S,E,Q',⟨τ,hS⟩,re,hF,lk⟩=>⟨B,S,E,_,⟨τ,hS⟩,re,hF,λx E1 v H1 S1 q g1 re1 rx=>?_⟩;obtain ⟨z,ez,q⟩:=s1.ex q;have ev:=re1.str rx ez;obtain ⟨τ1,hS1⟩:=g1.pre;refine ⟨B,S1,E1,_,⟨τ++τ1,by rw [hS1,hS,aEE]⟩,re1,q,λl E2 H2 S2 q2 g2 re2=>?_⟩;exact ⟨q2.1,z,ev,iZ q2.2.1,lk _ _ _ _ _ (q2.2.2 _ rfl) (g1.trans g2) re2 rfl⟩
def Its (x:Str):It:=⟨λi _=>i<x.cps.size,λi H v H'=>H'=H/\∃c,x.cps[i]? = some c/\v = .str ⟨#[c]⟩,λi _=>i=x.cps.size⟩
theorem aHM {P:bAR} {w:bAU} {tg:Expr} (it:bAO) (ty:String) (hty:ty = "str_ascii_iterator"\/ty = "str_iterator") (x:Str) (t:Tok):aCT P w K tg (Its x) [it] it (λi h=>h.IsStrIter it ty x t i) where
 mem:=by simp
 obj:=λi h st b hb=>by
  have e:b=it:=by simpa using hb
  subst e;obtain ⟨o,e,c,d⟩:=st;exact ⟨o,e,λv z=>by rw [d] at z;cases z⟩
 keep:=λi h h' st k=>let ⟨o,ho,r⟩:=st;⟨o,k it (by simp) o ho,r⟩
 item:=by
  intro X hP hw hK hc i pins s σ H E I hf st hg;subst hP hw hK;have hg:i<x.cps.size:=hg;obtain ⟨f0,f1,f2,f3,f4,f5⟩:=hf it (by simp);have hx:x.cps[i]? = some x.cps[i]:=by simp [hg]
  have fin:∀h',h'.IsStrIter it ty x t (i+1)->aYR it s.heap h'->∃u,(some (bAB ⟨#[x.cps[i]]⟩ s.toks))=some u/\bAQ (bAV X.prog X.w) X.A (bB4 tg (.ref it) u) (λ_ s2=>∃y H',aR X pins σ H' s2/\bC y u/\(Its x).yld i H y H'/\s2.heap.IsStrIter it ty x t (i+1)/\∀b∈[it],H' b=none) E { s with heap:=h',toks:=s.toks+1 }:=λh' st' sb=>by
   have I1:aR X pins σ H { s with heap:=h',toks:=s.toks+1 }:=I.turned (λb o hb e=>(sb.2 b hb).trans e) f0 f1 f3 f4 f5;obtain ⟨o,e,c,d⟩:=id st';exact ⟨_,rfl,aET (s:={ s with heap:=h',toks:=s.toks+1 }) e c d (by rcases hty with rfl | rfl<;>decide) ⟨.str _,H,I1,⟨_,rfl⟩,⟨rfl,_,hx,rfl⟩,st',λb hb=>(hf b hb).1⟩⟩
  rcases hty with rfl | rfl
  ·exact wpAny_pyNext_ascii_item st hx fin
  ·exact wpAny_pyNext_wide_item st hx fin
 done:=by
  intro X hP hw hK hc i pins s σ H E I hf st hg;subst hP hw hK;have hg:i=x.cps.size:=hg;subst hg;obtain ⟨f0,f1,f2,f3,f4,f5⟩:=hf it (by simp);have fin:∀h',Heap.ExtBut it s.heap h'->(none:Option Value)=none/\aR X pins σ H { s with heap:=h' }:=λh' eb=>⟨rfl,I.turned (t':=s.toks) (λb o hb e=>eb b o hb e) f0 f1 f3 f4 f5⟩;rcases hty with rfl | rfl
  ·exact wpAny_pyNext_ascii_end (I.ok.hd hc) st (by simp) fin
  ·exact wpAny_pyNext_wide_end (I.ok.hd hc) st (by simp) fin
 self:=λ_ _ _ _ _ st h=>by
  rcases hty with rfl | rfl
  ·exact wpAny_pyIter_striter_ascii st h
  ·exact wpAny_pyIter_striter_wide st h
def aTN (tl:TE):TI:=λσ H R=>tl σ H λv H1=>∃x,v = .str x/\R (Its x) H1
theorem aQQ {tg l:Expr} {tl:TE} (hl:PE X l tl):PI X tg l (aTN tl):=by
 intro pins s σ H R I h;refine b9 (hl pins s σ H _ I h) λv s1 ⟨y,H1,I1,r1,x,e,q⟩=>?_;subst e;obtain ⟨t,rfl⟩:=r1;have fin:∀ty,(ty = "str_ascii_iterator"\/ty = "str_iterator")->PIE X pins σ tg R (.ref s1.heap.objs.size) { s1 with heap:=s1.heap.push { cls:=.type ty,data:=.fields #[.str x t,.int 0 0] } }:=λty hty=>by
  refine ⟨s1.heap.objs.size,[s1.heap.objs.size],_,_,H1,rfl,I1.kept (t':=s1.toks) λb o e=>aDZ _ e,aHM _ ty hty x t,⟨_,aLS _ rfl,rfl,rfl⟩,λb hb=>?_,q⟩;have e:b=s1.heap.objs.size:=by simpa using hb
  subst e;exact I1.fpOk (aFI _) (I1.hok.fresh (aFI _))
 cases ha:x.cps.all (· < 128)
 ·exact wpAny_pyIter_wide ha (fin _ (.inr rfl))
 ·exact wpAny_pyIter_ascii ha (fin _ (.inl rfl))
def k9 (x:Str):List T:=x.cps.toList.map λc=>T.str ⟨#[c]⟩
theorem aQS {x:Str}:aC8 K (Its x) (k9 x) (λ_ _=>True):=by
 refine ⟨λ_ _ _ _ _ h=>h,λi H O _ hi=>by show i<x.cps.size;simpa [k9] using hi,λi H O v H' t _ e _ y=>?_,λH O _=>by simp [Its,k9]⟩;obtain ⟨e1,c,hc,ev⟩:=y;subst e1;subst ev;unfold k9 at e;rw [aEO,bAH,hc] at e;cases e;exact ⟨Kp.refl _ _,λ_ _ z=>z,rfl⟩
def iS (Fa:FE):FI:=λE Q=>Fa E λr E1=>s1 (vl E1 r) λx=>Q (k9 x) [] E1
theorem aQX {tg l:Expr} (hl:QE X l (aL K Fa)):QI X tg l (qH K (iS Fa)):=by
 refine QI.le (t:=aTN (aL K Fa)) ⟨aQQ hl.h⟩ λσ H R hn ⟨B,S,E,Q',hS,re,hF,lk⟩=>⟨B,S,E,_,hS,re,hF,λr E1 v H1 S1 q g re1 rr=>?_⟩;obtain ⟨x,e1,q⟩:=s1.ex q;exact ⟨x,re1.str rr e1,lk _ _ _ _ _ _ _ q g re1 aQS (λj hj=>absurd hj (by simp)) λ_ _ _=>trivial⟩
def aQH (S:fR):FE:=λE Q=>S [] λr _=>aHO E Q r
theorem aJJ {k j:Nat} {x:Str} {S:fR} {p:Pos} (F:Fn X.prog X.w X.K X.mg X.base k x [] (aK K S)) (hr:cU j X.A) (hk:k<=j) (hg:Gl X x) (hdb:(x==("__debug__":Str))=false:=by decide):QE X (.Call (.Name x p) [] [] pos) (aL K (aQH S)):=by
 obtain ⟨f,fd,F,hm,hkp,hb⟩:=F.ex;refine QE.le ⟨aJX F (hr.mono hk) hg hm hkp hb .nil aPM hdb⟩ λσ H Q hl h=>?_;have h2:aL K (aAH S yY) σ H Q:=by
  obtain ⟨B,S',E,Q',hS,re,hF,lk⟩:=h;exact ⟨B,S',E,Q',hS,re,hF,lk⟩
 obtain ⟨B,S',E,Q',hS,re,hF,lk⟩:=zF (n:=0) h2;exact lk _ _ _ _ _ hF .refl re rfl rfl
def aI5 (g g':Int->Int->Bool) (Fa Fb Fc:FE):FE:=λE Q=>Fa E λx E1=>Fb E1 λy E2=>i2 (vl E2 x) (vl E2 y) λi j=>if g i j=true then Fc E2 λz E3=>i1 (vl E3 z) λk=>Q (.p (.bl (g' j k))) E3 else Q (.p (.bl false)) E2
theorem aGK {g g':Int->Int->Bool} {σ:St} {H:Hp} {Q:VK} (h:aL K (aI5 g g' Fa Fb Fc) σ H Q):aIJ (rI0 λi j=>.bl (g i j)) (rI0 λi j=>.bl (g' i j)) (aL K Fa) (aL K Fb) (aL K Fc) σ H Q:=by
 refine two (Fa:=Fa) (Fb:=Fb) h λB S E x y v w H2 Q' hS re rx ry q lk=>?_;obtain ⟨i,j,e1,e2,q⟩:=i2.ex q;refine ⟨i,j,re.int rx e1,re.int ry e2,_,rfl,?_⟩
 by_cases he:g i j=true
 ·rw [if_pos he] at q ⊢;obtain ⟨τ,hS⟩:=hS;refine ⟨B,S,E,_,⟨τ,hS⟩,re,q,λr E3 z H3 S3 q3 gr re3 rr=>?_⟩;obtain ⟨k,e3,q3⟩:=i1.ex q3;exact ⟨j,k,re.int ry e2,re3.int rr e3,lk _ _ _ _ _ q3 gr re3 rfl⟩
 ·rw [if_neg he] at q ⊢;exact lk _ _ _ _ _ q .refl re rfl
theorem aKX {op op':CmpOp} {g g':Int->Int->Bool} (ho:jP X (bA7 op) (rI0 λi j=>.bl (g i j))) (ho':jP X (bA7 op') (rI0 λi j=>.bl (g' i j))) (ha:QE X a (aL K Fa)) (hb:QE X b (aL K Fb)) (hc:QE X c (aL K Fc))
  (hm:lastMarks [op,op'] [b,c]=false:=by with_unfolding_all rfl):QT X (.Compare a [op,op'] [b,c] pos) (d9 K (wR (aI5 g g' Fa Fb Fc))):=by
 refine QT.le ⟨aHJ ho ho' ha.h hb.h hc.h hm⟩ λσ H Q z=>?_;exact aGK (aMV z)
end
end L2
namespace L2
open PySem PySem.Spec PySem.W PySem.Calls PyProof.Rows PySem.Builtin.ObjectAttr
structure yV (K:W.Frag) (C:bAO):Prop where
 ga:findIn K (.ref C) "__getattribute__" = some (some (.builtin "BaseException.__getattribute__"))
 gt:findIn K (.ref C) "__getattr__" = some none
 sa:findIn K (.ref C) "__setattr__" = some (some (.builtin "object.__setattr__"))
 be:mroIn K C (.type "BaseException")=some true
 ob:mroIn K C (.type "object")=some true
 cl:findIn K (.ref C) "__class__" = some (some (.builtin "object.__class__"))
 gs:specialIn K (.builtin "object.__class__") "__get__" = some (some (.builtin "getset_descriptor.__get__"))
 tk:takesIn K (.builtin "object.__class__")=some true
 hd:hasDictIn K C=true
section
variable {prog:bAR} {w:bAU} {A:Around} {E:Value->Shared->Prop} {s:Shared} {K:W.Frag} {x C:bAO} {ox:Obj} {odo:Option Obj} {name:Str}
theorem aL3 {tk:Tok} {fill expr:Bool} {f:Found} {v:Value} {Q:Value->Shared->Prop} (X:K.In s.heap) (I:InstAt s.heap x ox C odo) (c:yV K C) (L:Looks (bAV prog w) s.heap (find (.ref x) (.ref C) name) f) (hv:handedIn v=true)
  (hf:f = .value v\/∃g a,f = .bind g a/\∀(A':Around) (R:Result->Shared->Prop),R (.ok (.ret v)) s->bCK (bAV prog w) A' (.call g ⟨[a,.ref x,.ref C],[]⟩) R s) (h:Q v s) :
  bAQ (bAV prog w) A (getAttrBy (.ref x) (.str name tk) fill expr) Q E s:=by
 obtain ⟨hp0,gn0,dr0,tk0,os0⟩:=s;have Lty:=I.type (M:=bAV prog w);have Lga:=looks_findIn (M:=bAV prog w) X c.ga;have Lha:=looks_findIn (M:=bAV prog w) X c.gt;have sub:Looks (bAV prog w) hp0 (isInstance (.ref x) (.type "BaseException")) true:=I.type.andThen (looks_mroIn X c.be);unfold getAttrBy;refine bBE (bAP (Lty.at (bAP (Lga.at ?_))));show bAQ _ _ (if (onTheHeap (.ref C)&&bAN "BaseException.__getattribute__"==.builtin "object.__getattribute__")=true then _ else _) _ _ _;have noteq:(bAN "BaseException.__getattribute__"==bAN "object.__getattribute__")=false:=by decide +kernel
 rw [noteq,bAI,if_neg (by decide)];unfold getAttrByItsOwn;refine bAP (Lha.at (bAP (bCN (bBE ?_))));have e1:callGetattribute (.ref x) (.str name tk) (.builtin "BaseException.__getattribute__") expr=boundAndCalled (.builtin "BaseException.__getattribute__") (.ref x) (.str name tk):=by
  unfold callGetattribute;cases expr<;>rfl
 rw [e1];unfold boundAndCalled;refine bAP (wpAny_of_eq (F.attr_ValueError.ga.bind _) ?_);refine bCP (codeAny_call_builtin F.attr_ValueError.ga.plain F.entry_bexc_ga (@check_slot (bAV prog w) _ _ _ "BaseException.__getattribute__" "BaseException" "__getattribute__" (.ref x) [.str name tk] [] _ (by decide +kernel) (by decide +kernel) sub (F.args_bexc_ga _ _) ?_));refine bAP (bAT (a:=(aSW x,[bAB name tk])) ?_);refine bAP (bAT (a:=name) ?_);refine bAP (Lty.at (bAP (L.at ?_)));rcases hf with rfl | ⟨g,a,rfl,hc⟩
 ·refine bAT ?_;exact handed_on hv h
 ·show bAQ _ _ (bBU [a] (call g [a,.ref x,.ref C]) >>= ret) _ _ _;exact bAP (bBE (bCP (hc _ _ (bAT (handed_on hv h)))))
theorem aSL {Q:Option Value->Shared->Prop} (X:K.In s.heap) (I:InstAt s.heap x ox C odo) (c:yV K C) (h:Q (some (.ref C)) { s with toks:=s.toks+1 }):bAQ (bAV prog w) A (getAttr? (.ref x) "__class__") Q E s:=by
 have hf:findObj K C odo "__class__" = some (.bind (.builtin "getset_descriptor.__get__") (.builtin "object.__class__")):=by
  obtain ⟨cd,hc,_⟩:=any_some c.hd;unfold findObj;rw [hc];simp only [Option.bind_some,c.cl,c.gs,c.tk]
 unfold getAttr? getAttrBy?;refine bAP (wpAny_mkText (bAP (bCN (aL3 (v:=.ref C) (s:={ s with toks:=s.toks+1 }) X I c (looks_find X I hf) rfl (.inr ⟨_,_,rfl,λA' R hR=>?_⟩) ?_))))
 ·exact class_get (s:={ s with toks:=s.toks+1 }) X I c.ob hR
 ·exact bAT h
theorem y0 (c:yV K C):KitX K (.ref x) (.ref C) (λh=>InstAt h x ox C odo) where
 ty:=λ_ _ _ I=>I.type
 it:=λ_ _ X _=>by
  obtain ⟨cdD,hcD,_⟩:=any_some c.hd;unfold clsIn at hcD;split at hcD
  ·rename_i ho;intro A' Q' E' s' k q;unfold isType loadHead;exact bAP (wpAny_loadPart (k C _ (X C _ ho)) (bAT q))
  ·cases hcD
 ne:=λh0 t0 d0 ys n0 sl0 X htp=>by
  obtain ⟨cdD,hcD,_⟩:=any_some c.hd;refine Bool.eq_false_iff.mpr λsame=>?_;cases Value.ref.inj (beq_iff_eq.mp same);unfold clsIn at hcD;split at hcD
  ·rename_i ho;cases (X _ _ ho).symm.trans htp
  ·cases hcD
 ca:=λX I k=>aSL X I c k
end
end L2
namespace L2
open PySem PySem.Spec PySem.W PySem.Calls PyProof.Rows PySem.Builtin.ObjectAttr
end L2
namespace L2
open PySem PySem.Spec PySem.W PySem.Calls PyProof.Rows PySem.Builtin.ObjectAttr
abbrev aIT:List Value:=[.type "ValueError",.type "Exception",.type "BaseException",.type "object"]
def fP (K:W.Frag) (C:bAO) (ini:Option Value):Bool:=match K.lookup C with
 | some ⟨.type "type",_,.cls cd,sl⟩=>
  match cd.mro with
  | .ref D::tl=>
   match sl.toList with
   | [_,_,_,_,some (.builtin nw),_]=>nw=="ValueError.__new__"&&D==C&&cd.hasDel==false&&tailIn K aIT tl&&nsIn K cd.ns "__init__"==some ini&&nsOkIn K cd.ns
   | _=>false
  | _=>false
 | _=>false
def XAt (h:Heap) (C:bAO) (ini:Option Value):Prop:=
 ∃(nm q:Str) (N:bAO) (bs tl:List Value) (hdct:Bool) (sn:List Str) (sub:List Value) (ab:Bool) (col:Option Bool) (dd:Option bAO) (k0 k1 k2 k3 k5:Option Value) (mN:Str->Option Value),
  h.get? C=some (excClassObj nm q C N bs tl hdct sn sub ab col dd k0 k1 k2 k3 k5 "ValueError.__new__")/\h.Ns N mN/\mN "__init__" = ini/\OwnTail h aIT tl
theorem aUS {K:W.Frag} {h:Heap} {N:bAO} {m:Str->Option Value} {n:Str} {r:Option Value} (X:K.In h) (G:h.Ns N m) (e:nsIn K N n=some r):m n=r:=by
 cases r with
 | none=>exact ns_none_of X G e
 | some v=>
  obtain ⟨ob,ents,ct,hob,hda,_,look⟩:=G;unfold nsIn at e;split at e
  ·rename_i c1 d1 ents1 ct1 sl1 hk;cases (X _ _ hk).symm.trans hob;cases hda;rw [<-look n,nsFind,findBy,<-Array.find?_toList];split at e
   ·rename_i en hen;cases e;rw [hen];rfl
   ·split at e<;>cases e
  ·cases e
theorem aC4 {K:W.Frag} {h:Heap} {C:bAO} {ini:Option Value} (X:K.In h) (e:fP K C ini=true):XAt h C ini:=by
 unfold fP at e;split at e
 ·rename_i dd cd sl hl;split at e
  ·rename_i D tl hm;split at e
   ·rename_i k0 k1 k2 k3 nw k5 hs;simp only [aUN,beq_iff_eq] at e;obtain ⟨⟨⟨⟨⟨eNew,eC⟩,eDel⟩,eTl⟩,eIn⟩,eNs⟩:=e;have hN:h.Ns cd.ns (h.nsMap cd.ns):=.of_isNs (isNs_of_in X eNs);have hi:=aUS X hN eIn;obtain ⟨nm,bs,mro,nsA,qn,hd,sn,sub,ab,col,del⟩:=cd;obtain ⟨sl⟩:=sl;simp only at hm hs eDel hN hi;subst hm hs eDel eNew eC;exact ⟨nm,qn,nsA,bs,tl,hd,sn,sub,ab,col,dd,k0,k1,k2,k3,k5,_,X _ _ hl,hN,hi,tail_of_in X eTl⟩
   ·cases e
  ·cases e
 ·cases e
end L2
namespace L2
open PySem PySem.Spec PySem.W PySem.Calls PyProof.Rows PySem.Builtin.ObjectAttr
end L2
namespace L2
open PySem PySem.Spec PySem.W PySem.Calls PyProof.Rows PySem.Builtin.ObjectAttr
def sZ (cb:Bool) (h:Heap) (x C T:bAO):Prop:=T≠x/\∃(oe:Obj) (vs:Array Value) (oT:Obj) (ts:Array Value),h.get? x=some oe/\oe.cls = .ref C/\oe.dict=none/\oe.data = .fields vs/\vs[1]? = some (.ref T)/\h.get? T=some oT/\oT.data = .fields ts/\ts[3]? = some .none/\(cb=true->vs[2]? = some .none)
variable {cb:Bool}
theorem aHE (o:Obj) (f:Array Value->Array Value):(o.mapFields f).dict=o.dict:=by
 obtain ⟨c,d,dt,sl⟩:=o;cases dt<;>rfl
structure Kf (fs:List bAO) (x:bAO) (h h':Heap):Prop where
 keep:∀b o,h.get? b=some o->b∉fs->b≠x->h'.get? b=some o
 slot:∀b o,h.get? b=some o->b∈fs->∃sl,h'.get? b=some { o with slots:=sl }
theorem Kf.next {fs:List bAO} {x T:bAO} {h h' h'':Heap} (k:Kf fs x h h') (hT:T∉fs) (hn:h.get? T=none) (k2:∀b o,b≠T->h'.get? b=some o->h''.get? b=some o):Kf fs x h h'':=by
 refine ⟨λb o e nf nx=>k2 b o (λz=>?_) (k.keep b o e nf nx),λb o e mf=>?_⟩
 ·rw [z,hn] at e;cases e
 ·obtain ⟨sl,q⟩:=k.slot b o e mf;exact ⟨sl,k2 b _ (λz=>hT (by rw [<-z];exact mf)) q⟩
section
variable {M:Model} {A:Around} {E:Value->Shared->Prop} {s:Shared} {base:Heap} {env:Env} {outer:List Env} {L x:bAO} {oe:Obj} {vs:Array Value}
theorem jF {hd:Value} {had:Bool} {Q:Unit->Shared->Prop} (hfr:A.frames=some (env::outer)) (hl:s.heap.FunFrames base (env::outer)) (hf:env.frame=some L) (he:s.heap.get? x=some oe) (hdt:oe.data = .fields vs) (hsz:1<vs.size)
  (k:∀(h':Heap) (T:bAO) (oT:Obj) (ts:Array Value),Kf (cS (env::outer)) x s.heap h'->s.heap.get? T=none->T≠x->T∉cS (env::outer)->h'.get? x=some (oe.mapFields (·.setIfInBounds 1 (.ref T)))->h'.get? T=some oT->oT.data = .fields ts->3<ts.size->Q () { s with heap:=h' }) :
  bAQ M A (frameOf env >>= λa=>entryPlaceOf L had >>= λpl=>EntryCells.newEntry hd a .none (bA6 L) .none pl >>= λb=>setField (.ref x) 1 b) Q E s:=by
 have nx:x∉cS (env::outer):=λhm=>by
  obtain ⟨_,o,ho,hnf⟩:=hl.mem hm;rw [he] at ho;cases ho;exact hnf vs hdt
 refine bAP (wpAny_frameOf_fun hfr hl hf λg so=>bAP (wpAny_entryPlaceOf λpl hpl=>?_));obtain ⟨z1,z2,z3⟩:=so;have gx:g.get? x=some oe:=by rw [z2 x nx];exact he
 have Tx:g.objs.size≠x:=aZV (aG4 gx);have sT:s.heap.get? g.objs.size=none:=Heap.get?_none_of_le (by rw [z1];exact aFI _);have Tf:g.objs.size∉cS (env::outer):=λhm=>by
  obtain ⟨_,o,ho,_⟩:=hl.mem hm;rw [sT] at ho;cases ho
 unfold EntryCells.newEntry newFields;refine bAP (bBM ?_ (hpl.sizeOk5 _ _ _ _ _));refine bBF (aDZ _ gx) hdt hsz ?_;refine k _ g.objs.size { cls:=.type "traceback",dict:=none,data:=.fields ([hd,.ref L,.none,bA6 L,.none]++(if pl.isEmpty then aEH 6 aTX else pl)).toArray } _ ⟨λb o e nf nb=>?_,λb o e mf=>?_⟩ sT Tx Tf ?_ ?_ rfl ?_
 ·rw [aLK _ _ (Ne.symm nb)];exact aDZ _ (by show g.get? b=_;rw [z2 b nf];exact e)
 ·obtain ⟨sl,q⟩:=z3 b o e;refine ⟨sl,?_⟩;rw [aLK _ _ (λz=>nx (by rw [z];exact mf))];exact aDZ _ q
 ·exact aQU _ (aDZ _ gx) (aVG (aRH hdt _))
 ·rw [aLK _ _ (Ne.symm Tx)];exact aLS g rfl
 ·simp only [aOX,aBN,aOW,bAE];omega
theorem oK {T:bAO} {h:Heap} (hx:h.get? x=some (oe.mapFields (·.setIfInBounds 1 (.ref T)))) (hdt:oe.data = .fields vs) (hsz:1<vs.size):∃o us,h.get? x=some o/\o.cls=oe.cls/\o.dict=oe.dict/\o.data = .fields us/\us[1]? = some (.ref T)/\us[2]? = vs[2]?:=
 ⟨_,_,hx,Obj.cls_mapFields _ _,aHE _ _,aRH hdt _,by simp [hsz],by simp [Array.getElem?_setIfInBounds]⟩
theorem nV {C T:bAO} {h0:Heap} {fs:List bAO} {o oT:Obj} {us ts:Array Value} {Q:Unit->Shared->Prop} (k0:Kf fs x h0 s.heap) (hn:h0.get? T=none) (nT:T≠x) (fT:T∉fs) (hx:s.heap.get? x=some o) (hc:o.cls = .ref C) (hdc:o.dict=none) (hdt:o.data = .fields us) (h1:us[1]? = some (.ref T)) (hcx:cb=true->us[2]? = some .none)
  (hT:s.heap.get? T=some oT) (hdT:oT.data = .fields ts) (h3:3<ts.size) (k:∀h',Kf fs x h0 h'->sZ cb h' x C T->Q () { s with heap:=h' }):bAQ M A (bCE (.ref x) none) Q E s:=by
 refine bB1 hx hdt h1 hT hdT h3 (k _ (k0.next fT hn λb o' nb e=>?_) ⟨nT,o,us,oT.mapFields (·.setIfInBounds 3 .none),ts.setIfInBounds 3 .none,?_,hc,hdc,hdt,h1,?_,aRH hdT _,by simp [h3],hcx⟩)
 ·rw [aLK _ _ (Ne.symm nb)];exact e
 ·rw [aLK _ _ nT];exact hx
 ·exact aQU _ hT (aVG (aRH hdT _))
theorem aBH {C:bAO} {h0:Heap} {Q:Unit->Shared->Prop} (hfr:A.frames=some (env::outer)) (hl:h0.FunFrames base (env::outer)) (hf:env.frame=some L) (k0:∀b o,h0.get? b=some o->s.heap.get? b=some o) (hn:h0.get? x=none) (hx:s.heap.get? x=some oe) (hc:oe.cls = .ref C) (hdc:oe.dict=none) (hdt:oe.data = .fields vs) (h1:vs[1]? = some .none) (hcx:cb=true->vs[2]? = some .none)
  (k:∀h' T,Kf (cS (env::outer)) x h0 h'->h0.get? T=none->sZ cb h' x C T->Q () { s with heap:=h' }):bAQ M A (bBY env (.ref x)) Q E s:=by
 have hl1:s.heap.FunFrames base (env::outer):=hl.of_keeps λb o e _=>⟨o,k0 b o e,rfl⟩;have hsz:=(aTQ.mp h1).1;unfold bBY bBK;simp only [hf];refine bAP (bAP (bA1 hx hdt h1 ?_));rw [if_neg (by decide)];refine jF hfr hl1 hf hx hdt hsz λh' T oT ts kf sT nT fT ex eT dT h3=>?_;obtain ⟨o,us,e1,e2,e3,e4,e5,e6⟩:=oK ex hdt hsz;have gT:h0.get? T=none:=by
  cases q:h0.get? T with
  | none=>rfl
  | some o'=>rw [k0 T o' q] at sT;cases sT
 have kf0:Kf (cS (env::outer)) x h0 h':=⟨λb o e nf nx=>kf.keep b o (k0 b o e) nf nx,λb o e mf=>kf.slot b o (k0 b o e) mf⟩;exact nV (s:={ s with heap:=h' }) kf0 gT nT fT e1 (by rw [e2,hc]) (by rw [e3,hdc]) e4 e5 (λz=>by rw [e6];exact hcx z) eT dT h3 λh'' kk ee=>k h'' T kk gT ee
theorem aJN {C T0:bAO} {h0:Heap} {Q:Unit->Shared->Prop} (hfr:A.frames=some (env::outer)) (hl:h0.FunFrames base (env::outer)) (hf:env.frame=some L) (k0:Kf (cS (env::outer)) x h0 s.heap) (hn:h0.get? x=none) (hn0:h0.get? T0=none) (hE:sZ cb s.heap x C T0)
  (k:∀h' T,Kf (cS (env::outer)) x h0 h'->h0.get? T=none->sZ cb h' x C T->Q () { s with heap:=h' }):bAQ M A (bBK (.ref x) env) (λ_ s1=>bAQ M A (bCE (.ref x) none) Q E s1) E s:=by
 obtain ⟨n0,oe,vs,oT,ts,hx,hc,hdc,hdt,h1,hT,hdT,h3,hcx⟩:=hE;have hsz:=(aTQ.mp h1).1;have h3z:=(aTQ.mp h3).1;have nf:∀{b:bAO},h0.get? b=none->b∉cS (env::outer):=λ{b} e hm=>by
  obtain ⟨_,o,ho,_⟩:=hl.mem hm;rw [e] at ho;cases ho
 have hl1:s.heap.FunFrames base (env::outer):=hl.of_keeps λb o e hnf=>by
  by_cases m:b∈cS (env::outer)
  ·obtain ⟨sl,q⟩:=k0.slot b o e m;exact ⟨_,q,rfl⟩
  ·exact ⟨o,k0.keep b o e m (λz=>by rw [z,hn] at e;cases e),rfl⟩
 unfold bBK;simp only [hf];refine bAP (bA1 hx hdt h1 ?_);rw [if_pos (show (aSW T0 != aTX)=true from by simp)];refine bAP (bA1 hT hdT h3 ?_);rw [if_neg (show ¬((aTX==bA6 L)=true) from by simp [bA6])];refine bAP (bBF hT hdT h3z ?_);have oth:∀b,b≠T0->(s.heap.update T0 (aWA (·.setIfInBounds 3 aTX))).get? b=s.heap.get? b:=λb nb=>aLK _ _ (Ne.symm nb);have hl2:(s.heap.update T0 (aWA (·.setIfInBounds 3 aTX))).FunFrames base (env::outer):=hl1.of_keeps λb o e hnf=>⟨o,by
  rw [oth b λz=>hnf ts (by rw [z,hT] at e;cases e;exact hdT)];exact e,rfl⟩
 refine jF (s:={ s with heap:=s.heap.update T0 (aWA (·.setIfInBounds 3 aTX)) }) hfr hl2 hf (by rw [oth x (Ne.symm n0)];exact hx) hdt hsz λh' T oT' ts' kf sT nT fT ex eT dT h3'=>?_;obtain ⟨o,us,e1,e2,e3,e4,e5,e6⟩:=oK ex hdt hsz;have up:∀b o,h0.get? b=some o->b≠T0:=λb o e z=>by rw [z,hn0] at e;cases e
 have kf0:Kf (cS (env::outer)) x h0 h':=by
  refine ⟨λb o e nf nx=>kf.keep b o (by rw [oth b (up b o e)];exact k0.keep b o e nf nx) nf nx,λb o e mf=>?_⟩;obtain ⟨sl,q⟩:=k0.slot b o e mf;obtain ⟨sl',q'⟩:=kf.slot b { o with slots:=sl } (by rw [oth b (up b o e)];exact q) mf;exact ⟨sl',q'⟩
 have gT:h0.get? T=none:=by
  cases q:h0.get? T with
  | none=>rfl
  | some o'=>
   have:=k0.keep T o' q fT nT;rw [oth T (up T o' q),this] at sT;cases sT
 exact nV (s:={ s with heap:=h' }) kf0 gT nT fT e1 (by rw [e2,hc]) (by rw [e3,hdc]) e4 e5 (λz=>by rw [e6];exact hcx z) eT dT h3' λh'' kk ee=>k h'' T kk gT ee
theorem aDP {C T:bAO} {h0:Heap} {fs:List bAO} {Q:Unit->Shared->Prop} (k0:Kf fs x h0 s.heap) (hn:h0.get? T=none) (fT:T∉fs) (hE:sZ cb s.heap x C T) (k:∀h',Kf fs x h0 h'->sZ cb h' x C T->Q () { s with heap:=h' }):bAQ M A (bCE (.ref x) none) Q E s:=by
 obtain ⟨n0,oe,vs,oT,ts,hx,hc,hdc,hdt,h1,hT,hdT,h3,hcx⟩:=hE;exact nV k0 hn n0 fT hx hc hdc hdt h1 hcx hT hdT (aTQ.mp h3).1 k
end
end L2
namespace L2
open PySem PySem.Spec PySem.W PySem.Calls PyProof.Rows PySem.Builtin.ObjectAttr
section
variable {prog:bAR} {w:bAU} {A:Around} {E:Value->Shared->Prop} {s:Shared} {K:W.Frag} {x C D:bAO} {oe:Obj}
theorem sL {Q:Bool->Shared->Prop} (X:K.In s.heap) (hx:s.heap.get? x=some oe) (hc:oe.cls = .ref C) (hk:kitCls K (.ref C) (.ref D)=some true) (hb:mroIn K D (.type "BaseException")=some true) (q:Q true s) :
  bAQ (bAV prog w) A (excMatches (.ref x) (.ref D)) Q E s:=by
 obtain ⟨L1,L2,L3⟩:=kit_cls (M:=bAV prog w) X hk;have L4:=looks_mroIn (M:=bAV prog w) X hb;have f:=tc_notTuple;obtain ⟨hh,g,d,tk,os⟩:=s;unfold excMatches isExcClass isInstance;refine bAP (bAP (L1.at ?_));rw [f];refine bAT ?_;simp only [aX5,if_false];refine bAP (bAT ?_);rw [aXW];refine bAP (bAP (bAP (bAP (L2.at ?_))));rw [if_pos rfl];refine L4.at ?_;rw [if_neg (by decide)];refine bAT ?_;show bAQ _ _ (forIn [] _ _) _ _ _;rw [aZO];refine bAT ?_;refine bAP (wpAny_typeOf_ref hx ?_);rw [hc,aXW];refine bAP (bAP (bAP (L3.at ?_)));rw [if_pos rfl];exact bAT (bAT (bAT q))
end
def aT3 (Q:T->Prop):ET where
 nx:=λ_=>False
 rt:=λr E=>match r with
  | .p t=>noL t=true/\Q t
  | .s i=>match E[i]? with
   | some (some (.p t))=>noL t=true/\Q t
   | _=>False
section
variable {P:bAR} {w:bAU} {K:W.Frag} {mg:Str->Option Value} {base:Heap}
section
variable {N:List Str} {qual:Str} {scope:bA9} {f:bAO} {cdv:Value} {A:Around} {outer:List Env} {s0:Shared} {H0:Hp} {Ew:XK} {C:bAO} {n:Str} {e:Expr} {es:List Expr} {np cpos pos:Pos}
def aJW (Fr:FA) (W:Prop):FS:=λ_ E=>Fr E λ_ _=>W
end
end
end L2
namespace L2
open PySem PySem.Spec PySem.W PySem.Calls PyProof.Rows PySem.Builtin.ObjectAttr
def ExX (C x:bAO):HO:=.ext λh=>∃oe vs,h.get? x=some oe/\oe.cls = .ref C/\oe.dict=none/\oe.data = .fields vs
variable {cb:Bool} in
theorem aQC {P:bAR} {w:bAU} {H:Hp} {h:Heap} {C x T:bAO} (e:sZ cb h x C T):cP P w H h x (ExX C x):=by
 obtain ⟨_,oe,vs,_,_,h1,h2,h3,h4,_⟩:=e;exact ⟨⟨oe,vs,h1,h2,h3,h4⟩,⟨_,h1⟩,λ_ _ ⟨oe,vs,q1,q2⟩ k=>⟨oe,vs,k _ q1,q2⟩⟩
section
variable {X:Cx} {pins:List (bAO×Obj)} {σ:St} {H:Hp} {s:Shared}
theorem aJ1 {C x:bAO} (I:aR X pins σ H s) (e:H x=some (ExX C x)):∃oe,W.InstAt s.heap x oe C none:=by
 obtain ⟨oe,vs,h1,h2,h3,h4⟩:=(show cP X.prog X.w H s.heap x (ExX C x) from I.hok x _ e).1;refine ⟨oe,h1,h2,by unfold W.notCls;rw [h4],by rw [h3];trivial⟩
theorem aA4 {c:V} {u:Value} (hu:∀v,bC c v->v=u):fA X (.builtin "isinstance") (λxs H Q=>∃x C b,xs=[.ref x,c]/\H x=some (ExX C x)/\yV X.K C/\kitOne X.K (.ref C) u=some b/\Q (.bl b) H):=by
 intro pins s σ H xs us Q I r h;obtain ⟨x,C,b,rfl,hx,c,hk,q⟩:=h;obtain ⟨u1,u2,rfl,r1,r2⟩:=bA.two r;cases r1;cases hu _ r2;obtain ⟨oe,J⟩:=aJ1 I hx;exact kia_one (y0 (odo:=none) c) I.kIn J hk (λz=>nomatch z) λtk=>⟨.bl b,H,I.tok _,rfl,q⟩
theorem aFG:fA X (.builtin "isinstance") (λxs H Q=>∃x C t C1 C2 b,xs=[.ref x,.ref t]/\H x=some (ExX C x)/\yV X.K C/\H t=some (.tup [.ref C1,.ref C2])/\kitAny X.K (.ref C) [.ref C1,.ref C2]=some b/\Q (.bl b) H):=by
 intro pins s σ H xs us Q I r h;obtain ⟨x,C,t,C1,C2,b,rfl,hx,c,ht,hk,q⟩:=h;obtain ⟨u1,u2,rfl,r1,r2⟩:=bA.two r;cases r1;cases r2;obtain ⟨oe,J⟩:=aJ1 I hx;obtain ⟨its,rv,⟨ot,ho,hc,n,hd⟩,_⟩:=I.tuple (tP.of ht);obtain ⟨v1,v2,rfl,q1,q2⟩:=bA.two rv;cases q1;cases q2;obtain ⟨oc,od,odt,osl⟩:=ot;cases hc;cases hd;exact kia_tup (y0 (odo:=none) c) I.kIn J ho hk (λz=>nomatch z) λtk=>⟨.bl b,H,I.tok _,rfl,q⟩
theorem aFV {M:Model} {A:Around} {E:Value->Shared->Prop} {i:Nat} {n:Str} {pos:Pos} {Q:Unit->Shared->Prop} (I:aR X pins σ H s) (hN:X.N.Nodup) (hi:X.N[i]? = some n) (hk:X.env.kindOf n=some .local) (h:∀s',aR X pins (σ.set i none) H s'->Q () s') :
  bAQ M A (do bBX X.env n .none;unbindBehindTheSuite X.env n pos) Q E s:=by
 obtain ⟨m,hn,hl⟩:=id I.loc;obtain ⟨oL,_,_,hoL,_⟩:=id hn;refine wpAny_nameGoes_keeps hk hn (by rw [I.ok.kind];rfl) λh' v hn' hs=>h _ ?_;have old:∀b o,X.s₀.heap.get? b=some o->b≠X.env.locals:=λb o e=>aTV (aG3 (aG4 e) I.ok.above);refine ⟨I.ok,I.os,I.bare,⟨λb o e n hb hx=>?_,λb o e n hb hx=>?_,I.base.free,λb o e hx=>?_,I.base.tups,I.base.frzs,I.base.tbls⟩,⟨_,hn',λj y v' e1 e2 e3=>?_⟩,λy c e=>?_,I.free,I.freeC,λp hp=>?_,λb ob e=>?_,by rw [aXN];exact I.len⟩
 ·rw [hs.2 b (old b o e)];exact I.base.keep b o e n hb hx
 ·obtain ⟨sl,q⟩:=I.base.slot b o e n hb hx;exact ⟨sl,by rw [hs.2 b (old b o e)];exact q⟩
 ·obtain ⟨o',q⟩:=I.base.there b o e hx;exact ⟨o',by rw [hs.2 b (old b o e)];exact q⟩
 ·by_cases hj:j=i
  ·subst hj;rw [aX2] at e2;simp at e2
  ·rw [aLL (Ne.symm hj)] at e2;obtain ⟨u',r',q⟩:=hl j y v' e1 e2 e3;refine ⟨u',r',?_⟩;rcases q with ⟨k,e⟩ | ⟨k,c,e,z⟩
   ·have ny:y≠n:=λe=>hj (tM hN e1 (by rw [e];exact hi));exact .inl ⟨k,by simp [ny,e]⟩
   ·exact .inr ⟨k,c,e,z.sameBut hs (I.cne y c e)⟩
 ·obtain ⟨w',z⟩:=I.cell y c e;exact ⟨w',z.sameBut hs (I.cne y c e)⟩
 ·obtain ⟨q1,q2,q3,q4,q5⟩:=I.pin p hp;exact ⟨by rw [hs.2 p.1 q3];exact q1,q2,q3,q4,q5⟩
 ·refine (I.hok b ob e).stay (λc w' hc q=>?_) (λ_ q=>q) λ_ _ q=>q;rw [hs.2 c ?_];exact q;rintro rfl;rcases hc with rfl | hc
  ·rw [I.free] at e;cases e
  ·rw [I.free] at hc;cases hc
end
abbrev Cx.inX (X:Cx) (x:bAO):Cx:={ X with A:=X.A.mark (some (.ref x)),calm:=false,xe:=λ_ _=>False }
theorem aR.inX {X:Cx} {pins:List (bAO×Obj)} {σ:St} {H:Hp} {s:Shared} (I:aR X pins σ H s) (x:bAO) (hf:(X.A.mark (some (.ref x))).frames=some X.stack):aR (X.inX x) pins σ H s:=
 ⟨⟨I.ok.mod,I.ok.kind,I.ok.glob,I.ok.blt,I.ok.above,I.ok.inj,I.ok.has,I.ok.cab,(λz=>by cases z),hf,I.ok.stk,I.ok.exf,I.ok.bs,I.ok.bsz,I.ok.noex,I.ok.exfs,I.ok.funs,I.ok.frf⟩,I.os,I.bare,I.base,I.loc,I.cell,I.free,I.freeC,I.pin,I.hok,I.len⟩
theorem aR.outX {X:Cx} {pins:List (bAO×Obj)} {σ:St} {H:Hp} {s:Shared} {x:bAO} (I:aR (X.inX x) pins σ H s) (ok:X.Ok):aR X pins σ H s:=
 ⟨ok,I.os,I.bare,I.base,I.loc,I.cell,I.free,I.freeC,I.pin,I.hok,I.len⟩
theorem aEG {P:bAR} {w:bAU} {H:Hp} {h:Heap} {a:bAO} {o:HO} (x:cP P w H h a o):∃ob,h.get? a=some ob:=by
 cases o with
 | lst xs=>obtain ⟨_,_,_,_,e⟩:=x;exact ⟨_,e⟩
 | tup xs=>obtain ⟨_,_,_,ob,e,_⟩:=x;exact ⟨_,e⟩
 | dK kvs=>obtain ⟨_,_,_,_,o,_,_,e,_⟩:=x;exact ⟨_,e⟩
 | dT kvs=>obtain ⟨_,_,_,_,o,_,_,e,_⟩:=x;exact ⟨_,e⟩
 | set S n=>obtain ⟨o,_,_,_,e,_⟩:=x;exact ⟨_,e⟩
 | ins C dx fs=>obtain ⟨_,_,_,e,_⟩:=x;exact ⟨_,e⟩
 | own y=>exact x
 | xd fs=>obtain ⟨_,⟨_,_,_,e,_⟩,_⟩:=x;exact ⟨_,e⟩
 | rng lo hi=>obtain ⟨_,_,_,e⟩:=x;exact ⟨_,e⟩
 | frz ob u=>obtain ⟨e,_⟩:=x;exact ⟨_,e⟩
 | tbl ps=>exact ⟨_,x⟩
 | met f y=>exact ⟨_,x⟩
 | ext φ=>exact x.2.1
def kH (H H':Hp):Hp:=λb=>match H b with
 | some o=>some o
 | none=>H' b
theorem aIE {P:bAR} {w:bAU} {fs:List bAO} {H H':Hp} {h h':Heap} (x:iO P w H h) (u:Un fs [] (λ_=>none) H' h h') (y:iO P w H' h') (hf:∀b∈fs,H b=none) :
  Un fs [] H (kH H H') h h'/\iO P w (kH H H') h'/\(∀b o,H b=some o->kH H H' b=some o)/\(∀b o,H' b=some o->kH H H' b=some o):=by
 have j1:∀b o,H b=some o->kH H H' b=some o:=λb o e=>by unfold kH;rw [e]
 have kp:∀b o,H b=some o->∀ob,h.get? b=some ob->h'.get? b=some ob:=λb o e ob q=>u.keep b ob q rfl (λz=>by rw [hf b z] at e;cases e) (by simp);have dj:∀b o,H' b=some o->H b=none:=λb o e=>by
  cases q:H b with
  | none=>rfl
  | some o'=>
   have lt:=x.lt q;have:H' b=none:=by
    cases g:h.get? b with
    | some ob=>exact u.free b ob g rfl (by simp)
    | none=>
     have:=(x b o' q);exfalso;obtain ⟨ob,z⟩:=aEG this;rw [g] at z;cases z
   rw [this] at e;cases e
 have j2:∀b o,H' b=some o->kH H H' b=some o:=λb o e=>by unfold kH;rw [dj b o e];exact e
 refine ⟨⟨λb o q n nf _=>u.keep b o q rfl nf (by simp),λb o q n mf _=>u.slot b o q rfl mf (by simp),λb o q n _=>by unfold kH;rw [n];exact u.free b o q rfl (by simp),λb o q _=>u.there b o q (by simp),λb xs e=>j1 b _ e,λb o xs e=>j1 b _ e,λb ps e=>⟨#[],by rw [j1 b _ e];simp⟩⟩,λb o e=>?_,j1,j2⟩;unfold kH at e;cases q:H b with
 | some o'=>
  rw [q] at e;cases e;refine (x b _ q).stay (λc v hc g=>?_) (λc g=>j1 c _ g) λc xs g=>j1 c _ g;rcases hc with rfl | hc
  ·exact kp c _ q v g
  ·exact kp c _ hc v g
 | none=>
  rw [q] at e;exact (y b _ e).stay (λc v _ g=>g) (λc g=>j2 c _ g) λc xs g=>j2 c _ g
def aS6 (E:En) (rs:List R):Option (List Str):=(mkV E rs).bind dC
theorem aAG {K:W.Frag} {B:bAO->Prop} {H:Hp} {S:St} {E:En} (re:RE K B H S E):∀{rs:List R} {vs:List V} {ts:List T} {ss:List Str},RRs K B H S E rs vs->mkV E rs=some ts->dC ts=some ss->vs=ss.map V.str
 | [],_,_,_,h,e,e2=>by cases e;cases e2;exact h
 | r::rs,_,ts,ss,⟨v,ws,e1,h1,h2⟩,e,e2=>by
  cases q1:vl E r with
  | none=>simp only [mkV,q1] at e;cases e
  | some t=>
   cases q2:mkV E rs with
   | none=>simp only [mkV,q1,q2] at e;cases e
   | some us=>
    simp only [mkV,q1,q2] at e;cases e;cases t with
    | str x=>
     cases q3:dC us with
     | none=>rw [dC,q3] at e2;cases e2
     | some m=>
      rw [dC,q3] at e2;cases e2;rw [e1,re.str h1 q1,aAG re h2 q2 q3];rfl
    | non=>cases e2
    | bl _=>cases e2
    | int _=>cases e2
    | tup _=>cases e2
    | lst _=>cases e2
theorem RE.setNN {K:W.Frag} {B:bAO->Prop} {H:Hp} {S:St} {E:En} (re:RE K B H S E) {i:Nat}:RE K B H (S.set i none) (E.set i none)/\∀b,Ow B (S.set i none) (E.set i none) b->Ow B S E b:=by
 have gE:∀{j:Nat} {u:U},(E.set i none)[j]? = some (some u)->i≠j/\E[j]? = some (some u):=λ{j u} h=>by
  by_cases c:i=j
  ·subst c;rw [aX2] at h;simp at h
  ·rw [aLL c] at h;exact ⟨c,h⟩
 refine re.map (by simp [re.len]) (λj t h=>?_) id (λj k xs h=>?_) (λ_ _ _ _ _ _ _ _ h=>h)
 ·obtain ⟨v,h1,h2⟩:=re.pure j t (gE h).2;exact ⟨v,by rw [aLL (gE h).1];exact h1,h2⟩
 ·obtain ⟨a,vs,h1,_⟩:=re.own j k xs (gE h).2;exact ⟨(gE h).2,a,h1,by rw [aLL (gE h).1];exact h1⟩
end L2
namespace L2
open PySem PySem.Spec PySem.NumText PyProof.Rows
abbrev sg (x:Str):List Nat:=x.cps.toList
theorem kR {x y:Str} (h:sg x=sg y):x=y:=by
 obtain ⟨⟨a⟩⟩:=x;obtain ⟨⟨b⟩⟩:=y;simp only [sg] at h;rw [h]
theorem aZ (x y:Str):sg (x++y)=sg x++sg y:=by show (x.cps++y.cps).toList=_;simp
theorem aO (x:Str):(sg x).length=x.length:=by simp [sg,bAL]
theorem zC (l:List Nat):sg ⟨l.toArray⟩=l:=by simp [sg]
def eQ (n:Nat):List Nat:=(aZ5 10 n).map Char.toNat
theorem aT5:∀d:Nat,d<10->(Nat.digitChar d).toNat=48+d:=by decide
theorem mL {n:Nat} (h:n<10):eQ n=[48+n]:=by
 unfold eQ;rw [aZ9 h,List.map_singleton,aT5 n h]
theorem oZ {n:Nat} (h:10<=n):eQ n=eQ (n/10)++[48+n%10]:=by
 have hm:n%10<10:=aY0 n (by decide);have t:aZ5 10 (n/10)++aZ5 10 (n%10)=aZ5 10 (10*(n/10)+n%10):=Nat.toDigits_append_toDigits (by decide) (by omega) hm;rw [Nat.div_add_mod] at t;unfold eQ;rw [<-t,aW5,aZ9 hm,List.map_singleton,aT5 _ hm]
theorem wP (n:Nat):sg (aA7 (toString ((n:Nat):Int)))=eQ n:=W.KIN.signs_num n
theorem yA (n:Nat):digitsVal (eQ n)=n:=W.KIN.val_back n
theorem lH (n:Nat):AllDigits (eQ n):=by
 intro c hc;unfold eQ at hc;obtain ⟨ch,hch,e⟩:=aYF.mp hc;rw [<-e];exact digit_range (Nat.isDigit_of_mem_toDigits (by decide) (by decide) hch)
theorem aLG (n:Nat):eQ n≠[]:=by
 unfold eQ;intro e;have h:=toDigits_len_ge 10 n;rw [List.map_eq_nil_iff.mp e] at h;exact absurd h (by decide)
def yH:Nat->Nat->List Nat
 | 0,_=>[]
 | k+1,r=>yH k (r/10)++[48+r%10]
theorem vK:∀(k m:Nat),0<m/10^k->eQ m=eQ (m/10^k)++yH k (m%10^k)
 | 0,m,h=>by simp [yH]
 | k+1,m,h=>by
  have e:m/10^(k+1)=m/10/10^k:=by rw [Nat.div_div_eq_div_mul,aYV,aZX]
  have g:10<=m:=by
   rcases aVS m 10 with c | c
   ·rw [e,Nat.div_eq_of_lt c] at h;simp at h
   ·exact c
  rw [oZ g,vK k (m/10) (by rw [<-e];exact h),<-e,aEE]
  congr 1
  unfold yH;have e1:m%10^(k+1)/10=m/10%10^k:=by
   rw [aYV,aZX,Nat.mod_mul_right_div_self]
  have e2:m%10^(k+1)%10=m%10:=Nat.mod_mod_of_dvd m ⟨10^k,by rw [aYV,aZX]⟩;rw [e1,e2];cases k<;>rfl
theorem lD {k r:Nat} (hk:0<k) (h:r<10^k):(eQ r).length<=k:=by
 induction k generalizing r with
 | zero=>omega
 | succ k ih=>
  rcases aVS r 10 with c | c
  ·rw [mL c];simp
  ·rw [oZ c,aBN,aYS];have k0:0<k:=by
    rcases aXT k with z | z
    ·subst z;simp at h;omega
    ·exact z
   have:=ih (r:=r/10) k0 (by rw [aYV] at h;omega);omega
theorem aAY:∀{k r:Nat},0<k->r<10^k->yH k r=aEH (k-(eQ r).length) 48++eQ r:=by
 intro k
 induction k with
 | zero=>intro r h;omega
 | succ k ih=>
  intro r _ h;unfold yH;rcases aXT k with z | z
  ·subst z;have hr:r<10:=by simpa using h
   rw [mL hr];simp [yH];omega
  ·have h':r/10<10^k:=by rw [aYV] at h;omega
   rw [ih z h'];rcases aVS r 10 with c | c
   ·have e:r/10=0:=by omega
    rw [e,mL c,mL (show 0<10 by decide)];have e2:aEH (k+1-[48+r].length) 48=aEH (k-1) 48++[48]:=by
     have:k+1-[48+r].length=(k-1)+1:=by simp;omega
     rw [this,aZK]
    rw [e2];simp;omega
   ·rw [oZ c,aEE]
    congr 2
    simp only [aBN,aYS];omega
theorem aSY {x:Str} (hd:AllDigits (sg x)) {k:Nat} (hk:x.length<=k):sg (Txt.zfill x (k:Int))=aEH (k-x.length) 48++sg x:=by
 unfold Txt.zfill
 split
 ·rename_i h;have:k-x.length=0:=by omega
  rw [this];rfl
 ·rename_i h;have e:((k:Int).toNat-x.length)=k-x.length:=by omega
  rw [e];have pe:sg (Builtin.Str.padded x (k-x.length) 0 48)=aEH (k-x.length) 48++sg x:=by
   unfold Builtin.Str.padded;simp [sg]
  unfold zfilled
  split
  ·rename_i q;have m:(43:Nat)∈sg x:=by
    have:=aIR (show (sg x)[0]? = some 43 by simpa [sg] using q);exact this
   have:=hd 43 m;omega
  ·rename_i q;have m:(45:Nat)∈sg x:=by
    have:=aIR (show (sg x)[0]? = some 45 by simpa [sg] using q);exact this
   have:=hd 45 m;omega
  ·exact pe
def vB (c:Nat):Bool:=decide (48<=c)&&decide (c<=57)
def bF (cs:List Nat):Bool:=!cs.isEmpty&&decide (cs.length<=60)&&cs.all vB&&(cs==[48]||!(cs.head?==some 48))
theorem aEP {c:Nat}:vB c=true↔48<=c/\c<=57:=by simp [vB]
theorem aRQ {cs:List Nat}:cs.all vB=true↔AllDigits cs:=by
 rw [aWN];exact ⟨λh c hc=>aEP.mp (h c hc),λh c hc=>aEP.mpr (h c hc)⟩
theorem zM:∀(r:List Nat),AllDigits r.reverse->r≠[]->r.reverse.head?≠some 48->0<digitsVal r.reverse/\eQ (digitsVal r.reverse)=r.reverse
 | [],_,h,_=>absurd rfl h
 | [c],hd,_,hh=>by
  have hc:=hd c (by simp);have nc:c≠48:=λz=>hh (by simp [z]);have e:digitsVal [c]=c-48:=by show 0*10+(c-48)=c-48;omega
  simp only [aY9];rw [e,mL (by omega)];refine ⟨by omega,?_⟩
  congr 1;omega
 | c::d::r,hd,_,hh=>by
  have e:(c::d::r).reverse=(d::r).reverse++[c]:=by simp
  rw [e] at hd hh ⊢;have ne:(d::r).reverse≠[]:=by simp
  obtain ⟨h1,h2⟩:=zM (d::r) (λx hx=>hd x (aYW _ hx)) (by simp) (by
   cases q:(d::r).reverse with
   | nil=>exact absurd q ne
   | cons a l=>rw [q] at hh;simpa using hh)
  have hc:=hd c (by simp);rw [digitsVal_snoc];refine ⟨by omega,?_⟩;rw [oZ (by omega)];have q1:(digitsVal (d::r).reverse*10+(c-48))/10=digitsVal (d::r).reverse:=by omega
  have q2:(digitsVal (d::r).reverse*10+(c-48))%10=c-48:=by omega
  rw [q1,q2,h2]
  congr 2;omega
theorem uV {cs:List Nat} (h:bF cs=true):eQ (digitsVal cs)=cs:=by
 simp only [bF,aUN,bAF,aX1,beq_iff_eq,decide_eq_true_eq] at h;obtain ⟨⟨⟨h1,h2⟩,h3⟩,h4⟩:=h;rcases h4 with h4 | h4
 ·subst h4;decide
 ·have:=zM cs.reverse (by rw [aX9];exact aRQ.mp h3) (by intro z;rw [List.reverse_eq_nil_iff] at z;rw [z] at h1;cases h1) (by rw [aX9];simpa using h4);rw [aX9] at this;exact this.2
theorem jE {cs:List Nat} (h:bF cs=true):cs.length<=60/\cs≠[]/\AllDigits cs:=by
 simp only [bF,aUN,bAF,aX1,beq_iff_eq,decide_eq_true_eq] at h;obtain ⟨⟨⟨h1,h2⟩,h3⟩,h4⟩:=h;exact ⟨h2,(by intro z;rw [z] at h1;cases h1),aRQ.mp h3⟩
theorem aKY:∀(r:List Nat),AllDigits r.reverse->digitsVal r.reverse<10^r.length
 | [],_=>by decide
 | c::r,hd=>by
  rw [aX0] at hd ⊢;have:=aKY r λx hx=>hd x (aYW _ hx);have hc:=hd c (by simp);rw [digitsVal_snoc,aOW,aYV];omega
theorem eZ {cs:List Nat} (h:bF cs=true):digitsVal cs<10^60:=by
 obtain ⟨h1,_,h3⟩:=jE h;have:=aKY cs.reverse (by rw [aX9];exact h3);rw [aX9,aXG] at this;exact aG3 this (aVU (by decide) h1)
def bM (n:Int):List Nat:=(if n<0 then [45] else [])++eQ n.natAbs
def bJ (n d:Int):List Nat:=if d=1 then bM n else bM n++47::bM d
def tZ (h:Bool) (n:Nat):Int:=if h then -(n:Int) else n
def dOf:Option (List Nat)->Int
 | none=>1
 | some b=>(digitsVal b:Int)
def gQ:Option (List Nat)->List Nat
 | none=>[]
 | some b=>47::b
def gL (h:Bool) (p:List Nat) (q:Option (List Nat)):Option (Int×Int):=
 if bF p=false then none else match q with
 | none=>if h=true/\digitsVal p=0 then none else some (tZ h (digitsVal p),1)
 | some b=>if bF b=false\/digitsVal b<2\/aPV (digitsVal p) (digitsVal b)≠1 then none else some (tZ h (digitsVal p),(digitsVal b:Int))
def iP (cs:List Nat):Bool:=cs.head?==some 45
def cX (cs:List Nat):List Nat:=if iP cs then cs.drop 1 else cs
def bS (b:List Nat):List Nat:=b.takeWhile λc=>!(c==47)
def eY (b:List Nat):Option (List Nat):=if 47∈b then some (b.drop ((bS b).length+1)) else none
def bE (cs:List Nat):Option (Int×Int):=gL (iP cs) (bS (cX cs)) (eY (cX cs))
theorem aKH (cs:List Nat):cs=(if iP cs then [45] else [])++cX cs:=by
 unfold cX iP;cases cs with
 | nil=>rfl
 | cons c r=>
  by_cases h:c=45
  ·subst h;simp
  ·simp [h]
theorem aDW:∀{b:List Nat},47∉b->b.takeWhile (λc=>!(c==47))=b
 | [],_=>rfl
 | c::r,h=>by
  have hc:c≠47:=λz=>h (by simp [z]);rw [List.takeWhile_cons,if_pos (by simpa using hc),aDW λz=>h (aJF _ z)]
theorem mY {b:List Nat} (h:47∉b):bS b=b/\eY b=none:=⟨aDW h,by unfold eY;rw [if_neg h]⟩
theorem mW {a b:List Nat} (h:47∉a):bS (a++47::b)=a/\eY (a++47::b)=some b:=by
 have e:bS (a++47::b)=a:=by
  unfold bS
  induction a with
  | nil=>simp
  | cons c r ih=>
   have hc:c≠47:=λz=>h (by simp [z]);rw [aZY,List.takeWhile_cons,if_pos (by simpa using hc),ih λz=>h (aJF _ z)]
 refine ⟨e,?_⟩;unfold eY;rw [if_pos (by simp),e];simp [List.drop_append]
theorem wK (b:List Nat):47∉bS b/\b=bS b++gQ (eY b):=by
 by_cases h:47∈b
 ·obtain ⟨a,c,rfl,ha⟩:=List.eq_append_cons_of_mem h;obtain ⟨e1,e2⟩:=mW (b:=c) ha;rw [e1,e2];exact ⟨ha,rfl⟩
 ·obtain ⟨e1,e2⟩:=mY h;rw [e1,e2];exact ⟨h,by simp [gQ]⟩
theorem aIF (n:Int):47∉bM n:=by
 unfold bM;intro h;rcases aW2.mp h with h | h
 ·split at h<;>simp at h
 ·have:=lH n.natAbs 47 h;omega
theorem aDN {h:Bool} {p:List Nat} (pp:bF p=true):bM (tZ h (digitsVal p))=if h=true/\digitsVal p=0 then p else (if h then [45] else [])++p:=by
 have hp:=uV pp;unfold bM tZ;cases h with
 | false=>
  simp only [aX5,if_false,false_and];rw [if_neg (by omega),aSV,hp]
 | true=>
  simp only [if_true,true_and];rw [aYU,aSV,hp]
  by_cases z:digitsVal p=0
  ·rw [if_pos z,z];rfl
  ·rw [if_neg z,if_pos (by omega)]
theorem aD6 {h:Bool} {p:List Nat} (pp:bF p=true):gL h p none=if h=true/\digitsVal p=0 then none else some (tZ h (digitsVal p),1):=by unfold gL;rw [if_neg (by rw [pp];decide)]
theorem nI {h:Bool} {p b:List Nat} (pp:bF p=true):gL h p (some b)=if bF b=false\/digitsVal b<2\/aPV (digitsVal p) (digitsVal b)≠1 then none else some (tZ h (digitsVal p),(digitsVal b:Int)):=by unfold gL;rw [if_neg (by rw [pp];decide)]
theorem j4 (h:Bool) (n:Nat):(tZ h n).natAbs=n:=by unfold tZ;split<;>omega
def qB (h:Bool) (p cs:List Nat) (q:Option (List Nat)):Prop:=(1<=dOf q/\aPV (tZ h (digitsVal p)).natAbs (dOf q).natAbs=1)/\bJ (tZ h (digitsVal p)) (dOf q)=cs
theorem oS {h:Bool} {p cs:List Nat} {q:Option (List Nat)} (hc:cs=(if h then [45] else [])++(p++gQ q)) (hp:47∉p) (pp:bF p=true) (pq:∀b,q=some b->bF b=true) :
  (qB h p cs q->gL h p q=some (tZ h (digitsVal p),dOf q))/\(¬qB h p cs q->gL h p q=none):=by
 unfold qB;rw [j4];cases q with
 | none=>
  rw [aD6 pp];have hc':cs=(if h then [45] else [])++p:=by simpa [gQ] using hc
  have ft:bJ (tZ h (digitsVal p)) (dOf none)=if h=true/\digitsVal p=0 then p else (if h then [45] else [])++p:=by
   show bJ _ 1=_;unfold bJ;rw [if_pos rfl,aDN pp]
  rw [ft]
  by_cases z:h=true/\digitsVal p=0
  ·rw [if_pos z,if_pos z];refine ⟨λe=>?_,λ_=>rfl⟩;have e:=e.2;rw [hc',z.1] at e;have:=congrArg aYA e;simp at this
  ·rw [if_neg z,if_neg z];refine ⟨λ_=>rfl,λe=>absurd ⟨⟨by decide,?_⟩,hc'.symm⟩ e⟩;show aPV _ 1=1;simp
 | some b=>
  have pb:=pq b rfl;rw [nI pp];have hc':cs=(if h then [45] else [])++(p++47::b):=hc;have dd:dOf (some b)=(digitsVal b:Int):=rfl;rw [dd,aSV]
  by_cases c:bF b=false\/digitsVal b<2\/aPV (digitsVal p) (digitsVal b)≠1
  ·rw [if_pos c];refine ⟨λe=>?_,λ_=>rfl⟩;obtain ⟨⟨e1,e2⟩,e3⟩:=e;exfalso;rcases c with c | c | c
   ·rw [pb] at c;cases c
   ·have ft:bJ (tZ h (digitsVal p)) (digitsVal b:Int)=bM (tZ h (digitsVal p)):=by unfold bJ;rw [if_pos (by omega)]
    rw [ft] at e3;exact aIF _ (by rw [e3,hc'];simp)
   ·exact c e2
  ·rw [if_neg c];have c1:2<=digitsVal b:=by
    rcases aVS (digitsVal b) 2 with z | z
    ·exact absurd (.inr (.inl z)) c
    ·exact z
   have c2:aPV (digitsVal p) (digitsVal b)=1:=by
    by_cases z:aPV (digitsVal p) (digitsVal b)=1
    ·exact z
    ·exact absurd (.inr (.inr z)) c
   refine ⟨λ_=>rfl,λe=>absurd ⟨⟨by omega,c2⟩,?_⟩ e⟩;have nb:bM ((digitsVal b:Nat):Int)=b:=by
    unfold bM;rw [if_neg (by omega),aSV,uV pb];rfl
   unfold bJ;rw [if_neg (by omega),aDN pp,nb,if_neg,hc',aEE];rintro ⟨_,z⟩;rw [z,Nat.gcd_zero_left] at c2;omega
theorem aA2 {cs:List Nat} {n d:Int} (h:bE cs=some (n,d)):bJ n d=cs/\1<=d/\n.natAbs<10^60/\d.natAbs<10^60:=by
 unfold bE at h;obtain ⟨d1,d2⟩:=wK (cX cs);have e0:=aKH cs;rw [d2] at e0;have pp:bF (bS (cX cs))=true:=by
  cases q:bF (bS (cX cs)) with
  | true=>rfl
  | false=>unfold gL at h;rw [if_pos q] at h;cases h
 have pq:∀b,eY (cX cs)=some b->bF b=true:=λb hb=>by
  cases q:bF b with
  | true=>rfl
  | false=>
   unfold gL at h;rw [if_neg (by rw [pp];decide),hb] at h;simp only at h;rw [if_pos (.inl q)] at h;cases h
 obtain ⟨k1,k2⟩:=oS e0 d1 pp pq
 by_cases c:qB (iP cs) (bS (cX cs)) cs (eY (cX cs))
 ·rw [k1 c] at h;cases h;refine ⟨c.2,c.1.1,by rw [j4];exact eZ pp,?_⟩;cases q:eY (cX cs) with
  | none=>show (1:Int).natAbs<10^60;decide
  | some b=>show ((digitsVal b:Nat):Int).natAbs<10^60;rw [aSV];exact eZ (pq b q)
 ·rw [k2 c] at h;cases h
end L2
namespace L2
open PySem PySem.Spec PySem.NumText PyProof.Rows
theorem lL:(aA7 "-")=⟨#[45]⟩:=by decide
theorem lC:(aA7 "/")=⟨#[47]⟩:=by decide
theorem aE0:(aA7 "0")=⟨#[48]⟩:=by decide
theorem vE:(aA7 "")=⟨#[]⟩:=by decide
theorem aO1:sg (aA7 "0123456789")=[48,49,50,51,52,53,54,55,56,57]:=by decide
theorem aUG (x:Str) (c:Nat):Builtin.Str.subAt x ⟨#[c]⟩ 0=((sg x).head?==some c):=by
 have h:=StrLaws.subAt_one x c 0;rw [show x.cps.toList[0]? = (sg x).head? from (by show (sg x)[0]? = _;cases sg x<;>rfl)] at h;have e:(0+(⟨#[c]⟩:Str).length<=x.length/\Builtin.Str.subAt x ⟨#[c]⟩ 0=true)↔(sg x).head? = some c:=h;cases q:((sg x).head?==some c) with
 | true=>exact (e.mpr (by simpa using q)).2
 | false=>
  cases z:Builtin.Str.subAt x ⟨#[c]⟩ 0 with
  | false=>rfl
  | true=>
   exfalso;have:0+(⟨#[c]⟩:Str).length<=x.length:=by
    unfold Builtin.Str.subAt at z;have z2:x.cps.extract 0 (⟨#[c]⟩:Str).length = #[c]:=by simpa using z
    have z3:=congrArg Array.size z2
    change _=1 at z3
    have z4:(⟨#[c]⟩:Str).length=1:=rfl;rw [Array.size_extract] at z3;show 0+1<=x.cps.size;rw [z4] at z3;omega
   have:=e.mp ⟨this,z⟩;rw [this] at q;simp at q
theorem aEI (x:Str) (c:Nat):aX4 x ⟨#[c]⟩=((sg x).head?==some c):=by
 unfold aX4;rw [aUG];cases q:((sg x).head?==some c) with
 | false=>simp
 | true=>
  have:(sg x).head? = some c:=by simpa using q
  have l:1<=x.length:=by
   rw [<-aO];cases h:sg x with
   | nil=>rw [h] at this;cases this
   | cons a r=>simp
  simp;show 1<=x.length;exact l
theorem aP6 (x:Str) (i j:Nat):sg (Builtin.Str.strSub x i j)=((sg x).take j).drop i:=by
 show (x.cps.extract i j).toList=_;rw [Array.toList_extract,List.extract_eq_drop_take,List.take_drop];rcases aXK i j with h | h
 ·rw [Nat.add_sub_cancel' h]
 ·have e:i+(j-i)=i:=by omega
  rw [e,aVP (by rw [aNQ];omega),aVP (by rw [aNQ];omega)]
theorem aSM (x:Str):sg (aZC x ⟨#[45]⟩)=cX (sg x):=by
 unfold aZC cX iP;rw [aUG];cases q:((sg x).head?==some 45) with
 | false=>rfl
 | true=>
  simp only [if_true];unfold Txt.affix;have l:1<=x.length:=by
   rw [<-aO];cases h:sg x with
   | nil=>rw [h] at q;cases q
   | cons a r=>simp
  have e1:(⟨#[45]⟩:Str).length=1:=rfl;simp only [e1];rw [if_neg (by simp;omega),aP6,<-aO,aZ6]
theorem aE2:∀c:Fin 128,Unicode.isDigit c.val=vB c.val:=by decide +kernel
theorem aHB (x:Str):(aYM x=true/\aYN x=true/\x.length<=60/\((sg x==[48])=true\/((sg x).head?==some 48)=false))↔bF (sg x)=true:=by
 unfold bF;simp only [aUN,bAF,aX1,decide_eq_true_eq,aO];have e1:aYM x=true↔∀c∈sg x,c<128:=by
  unfold aYM;rw [<-Array.all_toList,aWN];simp
 have e2:aYN x=true↔(0<x.length/\∀c∈sg x,Unicode.isDigit c=true):=by
  unfold aYN;rw [<-Array.all_toList,aUN,aWN];simp
 rw [e1,e2];have e3:(∀c∈sg x,c<128)->((∀c∈sg x,Unicode.isDigit c=true)↔(sg x).all vB=true):=λh=>by
  rw [aWN];exact ⟨λk c hc=>by rw [<-aE2 ⟨c,h c hc⟩];exact k c hc,λk c hc=>by have:=aE2 ⟨c,h c hc⟩;rw [this];exact k c hc⟩
 have e4:(sg x).isEmpty=false↔0<x.length:=by
  rw [<-aO];cases sg x<;>simp
 rw [e4];constructor
 ·rintro ⟨h1,⟨h2,h3⟩,h4,h5⟩;exact ⟨⟨⟨h2,h4⟩,(e3 h1).mp h3⟩,h5⟩
 ·rintro ⟨⟨⟨h2,h4⟩,h3⟩,h5⟩;have h1:∀c∈sg x,c<128:=λc hc=>by have:=(aRQ.mp h3) c hc;omega
  exact ⟨h1,⟨h2,(e3 h1).mpr h3⟩,h4,h5⟩
theorem aNL (x:Str):sg (aVR x ⟨#[47]⟩).1=bS (sg x)/\(aVR x ⟨#[47]⟩).2.1=(if (eY (sg x)).isSome then ⟨#[47]⟩ else ⟨#[]⟩)/\(∀b,eY (sg x)=some b->sg (aVR x ⟨#[47]⟩).2.2=b):=by
 rcases partition_whole x ⟨#[47]⟩ with ⟨e,hn⟩ | ⟨i,e,hi,hn⟩
 ·have nf:47∉sg x:=λhm=>by
   obtain ⟨i,hi⟩:=(mem_iff_at x 47).mp hm;exact hn i hi
  obtain ⟨e1,e2⟩:=mY nf;rw [e,e1,e2];exact ⟨rfl,rfl,λb hb=>by cases hb⟩
 ·have fr:47∉sg (Builtin.Str.strSub x 0 i):=StrLaws.part_free x 47 0 i (by have:=hi.1;omega) λk _ hk=>hn k hk;have sm:=StrLaws.partition_sum x ⟨#[47]⟩;have es:sg x=sg (Builtin.Str.strSub x 0 i)++47::sg (Builtin.Str.strSub x (i+(⟨#[47]⟩:Str).length) x.length):=by
   rw [e] at sm;have:=congrArg sg sm;rw [aZ,aZ] at this;rw [<-this,aEE];rfl
  obtain ⟨e1,e2⟩:=mW (b:=sg (Builtin.Str.strSub x (i+(⟨#[47]⟩:Str).length) x.length)) fr;rw [<-es] at e1 e2;rw [e,e1,e2];exact ⟨rfl,rfl,λb hb=>by cases hb;rfl⟩
theorem jN (x y:Str):aQV x y≠[]:=by
 unfold aQV
 split
 ·simp
 ·split
  ·simp
  ·rw [StrLaws.partsBetween_eq];obtain ⟨p,r,e⟩:=StrLaws.partsFrom_ne x y.length 0 (Builtin.Str.occurrences x y 0 x.length (x.length+1));rw [e];simp
theorem aKT (x:Str):∃a r,aQV x ⟨#[47]⟩=a::r/\sg a=bS (sg x)/\(r=[]->eY (sg x)=none)/\(∀b,r=[b]->eY (sg x)=some (sg b))/\(∀b c s,r=b::c::s->∃q,eY (sg x)=some q/\47∈q):=by
 have j:=StrLaws.join_split x ⟨#[47]⟩;have f:=StrLaws.split_free x 47;cases e:aQV x ⟨#[47]⟩ with
 | nil=>exact absurd e (jN _ _)
 | cons a r=>
  rw [e] at j f;have fa:47∉sg a:=f a (by simp);refine ⟨a,r,rfl,?_⟩;cases r with
  | nil=>
   have ex:a=x:=j;subst ex;obtain ⟨e1,e2⟩:=mY fa;exact ⟨e1.symm,λ_=>e2,(λb h=>by cases h),(λb c s h=>by cases h)⟩
  | cons b r=>
   have ex:sg x=sg a++47::sg (aYO ⟨#[47]⟩ (b::r)):=by
    have:aYO ⟨#[47]⟩ (a::b::r)=a++⟨#[47]⟩++aYO ⟨#[47]⟩ (b::r):=rfl;rw [this] at j;rw [<-j,aZ,aZ,aEE];rfl
   obtain ⟨e1,e2⟩:=mW (b:=sg (aYO ⟨#[47]⟩ (b::r))) fa;rw [<-ex] at e1 e2;refine ⟨e1.symm,(λh=>by cases h),λb' h=>?_,λb' c s h=>?_⟩
   ·cases h;exact e2
   ·obtain ⟨rfl,rfl⟩:=List.cons.inj h;refine ⟨_,e2,?_⟩;have:aYO ⟨#[47]⟩ (b::c::s)=b++⟨#[47]⟩++aYO ⟨#[47]⟩ (c::s):=rfl;rw [this,aZ,aZ];simp [sg]
theorem t8 {q:List Nat} (h:47∈q):bF q=false:=by
 cases e:bF q with
 | false=>rfl
 | true=>
  have:=(jE e).2.2 47 h;omega
theorem sY (x:Str) (k:Nat):sg (aXV x (some (k:Int)) none)=(sg x).drop k:=by
 rcases aXK k x.length with h | h
 ·have e:=StrLaws.sliceText_from (x:=x) (i:=(k:Int)) ⟨by omega,by rw [aO];omega⟩;have e':aXV x (some (k:Int)) none=⟨(((sg x).drop k).take (((sg x).length:Int)-k).toNat).toArray⟩:=e;rw [e',zC,aT2];rw [aLJ];omega
 ·rw [slice_from_beyond (by omega),aVP (by rw [aO];exact h)]
theorem uO (x:Str):sg (aXV x none (some 1))=(sg x).take 1:=by
 rcases aVS 0 x.length with h | h
 ·have e:=StrLaws.sliceText_to (x:=x) (j:=1) ⟨by decide,by rw [aO];omega⟩;have e':aXV x none (some 1)=⟨(((sg x).drop 0).take (1-0:Int).toNat).toArray⟩:=e;rw [e',zC];rfl
 ·have z:sg x=[]:=by
   apply aVQ;rw [aO];omega
  have l:=aZ4 x none (some 1);have:sg (aXV x none (some 1))=[]:=by
   apply aVQ;rw [aO];omega
  rw [this,z];rfl
theorem aF8 (x:Str):(decide (aXV x none (some 1)=⟨#[45]⟩))=iP (sg x):=by
 unfold iP;cases h:sg x with
 | nil=>
  have:=uO x;rw [h] at this;rw [decide_eq_false]
  ·rfl
  ·intro z;rw [z] at this;cases this
 | cons a r=>
  have e:=uO x;rw [h] at e
  by_cases c:a=45
  ·subst c;rw [decide_eq_true (kR (by rw [e];rfl))];simp
  ·rw [decide_eq_false]
   ·simp [c]
   ·intro z;rw [z] at e;have e2:[45]=[a]:=e;cases e2;exact c rfl
theorem aGX (c:Nat):(!(Builtin.Str.occurrences (aA7 "0123456789") ⟨#[c]⟩ 0 (aA7 "0123456789").length 1).isEmpty)=vB c:=by
 rw [StrLaws.found_one];have e:(aA7 "0123456789").cps.toList=[48,49,50,51,52,53,54,55,56,57]:=aO1;rw [e];unfold vB
 by_cases h:48<=c/\c<=57
 ·rw [decide_eq_true h.1,decide_eq_true h.2,decide_eq_true]
  ·rfl
  ·simp;omega
 ·rw [decide_eq_false]
  ·simp;omega
  ·simp;omega
theorem lM {x:Str} (h:bF (sg x)=true):PySem.intText? x=some ((digitsVal (sg x):Nat):Int):=by
 obtain ⟨h1,h2,h3⟩:=jE h;exact intText_digits h3 h2 (by rw [aO] at h1;omega)
structure mM (mg:Str->Option Value) (x:Str) (i:Int):Prop where
 ex:∃t,mg x=some (.int i t)
theorem m9 {X:Cx} {K:W.Frag} {x:Str} {i:Int} {pos:Pos} (hg:Gl X x) (c:mM X.mg x i) (hd:(x==("__debug__":Str))=false:=by decide):QE X (.Name x pos) (aL K (fC (.int i))):=by
 obtain ⟨t,h⟩:=c.ex;exact aIU ⟨aEF (v:=.int i) hg h ⟨t,rfl⟩ hd⟩ λ_ _ _=>rfl
end L2
namespace L2
open PySem PySem.Spec PyProof.Rows
section
variable {X:Cx} {K:W.Frag} {pos:Pos} {o e:Expr} {Fo:FE} {Fr:FA}
theorem RE.setVN {B:bAO->Prop} {H:Hp} {S:St} {E:En} {v:V} (re:RE K B H S E) {i:Nat}:RE K B H (S.set i (some v)) (E.set i none)/\∀b,Ow B (S.set i (some v)) (E.set i none) b->Ow B S E b:=by
 have gE:∀{j:Nat} {u:U},(E.set i none)[j]? = some (some u)->i≠j/\E[j]? = some (some u):=λ{j u} h=>by
  by_cases c:i=j
  ·subst c;rw [aX2] at h;simp at h
  ·rw [aLL c] at h;exact ⟨c,h⟩
 refine re.map (by simp [re.len]) (λj t h=>?_) id (λj k xs h=>?_) (λ_ _ _ _ _ _ _ _ h=>h)
 ·obtain ⟨v,h1,h2⟩:=re.pure j t (gE h).2;exact ⟨v,by rw [aLL (gE h).1];exact h1,h2⟩
 ·obtain ⟨a,vs,h1,_⟩:=re.own j k xs (gE h).2;exact ⟨(gE h).2,a,h1,by rw [aLL (gE h).1];exact h1⟩
def aUR (i:Nat) (Fa:FE):FS:=λD E=>Fa E λr E1=>match r with
 | .s j=>(match E1[j]? with
  | some (some (.o false xs))=>D.nx ((E1.take E.length).set i none)\/D.nx (((E1.set j (some (.p (.lst xs)))).take E.length).set i (some (.p (.lst xs))))
  | _=>False)
 | _=>False
theorem aN8 {Fa:FE} {i:Nat} {x:Str} {pos':Pos} (hN:X.N.Nodup) (hi:X.N[i]? = some x) (hx:yT X.env.scope x) (he:QE X e (aL K Fa)) (hs:bBN e (some (.Name x pos')) pos.line X.env=pure false:=by rfl)
  (hf:X.fn x=true\/X.env.scope.names.lookup x=some .local:=by first | exact .inl rfl | exact .inr rfl | assumption):QS X (.Assign [.Name x pos'] e pos) (dJ K (aUR i Fa)):=
 (xD hN hi hx he hs hf).le λD σ H hl ⟨B,E,DT,re,hF,l⟩=>⟨B,σ,E,_,⟨[],by simp⟩,re,hF,λr E' v H' S' q g re' rr=>by
  split at q
  ·rename_i j;split at q
   ·rename_i xs hE;rcases q with q | q
    ·obtain ⟨re2,ow2⟩:=re'.cut (E:=E) g.pre re.len;obtain ⟨r1,ow⟩:=re2.setVN (i:=i) (v:=v);exact l.nx _ _ _ q ((g.kp.trans (Kp.less ow2)).trans (Kp.less ow)) r1
    ·obtain ⟨f1,f2,f3,f4⟩:=wN (us:=[j]) (E':=E'.set j (some (.p (.lst xs)))) re' (by simp [frzs,hE]);rw [<-re.len] at q;have hj:j<E'.length:=(aA8.mp hE).1;obtain ⟨r1,ow⟩:=jX (i:=i) (u:=.p (.lst xs)) (r:=.s j) f1 g.pre rr (by simp [tT,hj]);exact l.nx _ _ _ q ((g.kp.trans (Kp.less f2)).trans (Kp.less ow)) r1
   ·exact q.elim
  ·exact q.elim⟩
def aWJ (Fo:FE) (Fr:FA):FE:=λE Q=>Fo E λo E1=>o1 (ownOf E1 o) λ_=>Fr E1 λrs E2=>match o with
 | .s j=>(match E2[j]? with
  | some (some (.o k xs))=>(match rs with
   | [r]=>i1 (vl E2 r) λi=>0<=i/\xs.length<=1000/\o1 (xs[i.toNat]?) λt=>Q (.p t) (E2.set j (some (.o k (xs.eraseIdx i.toNat))))
   | _=>False)
  | _=>False)
 | _=>False
theorem aRJ {n:Nat} {ap:Pos} (eK:X.K=K) (ho:QE X o (aL K Fo)) (ha:QA X [e] (cQ K n Fr)) (hbase:bA4 o "pop" X.env (bA2 o X.env)=bA2 o X.env:=by rfl) (hline:(ap.endLine==pos.line)=true:=by rfl) (hs:bR e=false:=by rfl) :
  QE X (.Call (.Attribute o "pop" ap) [e] [] pos) (aL K (aWJ Fo Fr)):=
 QE.le (t:=tBM X.K "list" aHL (aL K Fo) (cQ K n Fr)) ⟨aLB PySem.F.plainAttrs_list PySem.F.slot_list_pop PySem.F.type_list_pop aHP ho.h ha.h hbase (by rw [bX hs];rfl) hline (bX hs) (cO rfl)⟩ λσ H Q hl h=>by
  subst eK;obtain ⟨B,S,E,Q',⟨τ,hS⟩,re,hF,lk⟩:=h;refine ⟨B,S,E,_,⟨τ,hS⟩,re,hF,λoo E1 v H1 S1 q g1 re1 rx=>?_⟩;obtain ⟨τ1,hS1⟩:=g1.pre;obtain ⟨xs0,e0,q⟩:=o1.ex q;obtain ⟨j,k,p,vs,rfl,hE,hSj,rfl,h2,h3⟩:=re1.ownOf rx e0;refine ⟨.inl ⟨rfl,vs,kF.of h2⟩,B,S1,E1,_,⟨τ++τ1,by rw [hS1,hS,aEE]⟩,re1,q,λrs E2 us H2 S2 q2 g2 re2 rr hn=>?_⟩;have hSj2:S2[j]? = some (some (.ref p)):=dM g2.pre hSj;simp only at q2;split at q2
  ·rename_i k2' xs hE2;split at q2
   ·rename_i r;obtain ⟨y,ws,rfl,k1,rfl⟩:=rr;obtain ⟨i,e1,i0,hz,q3⟩:=q2.ex;obtain ⟨t,ht,q3⟩:=o1.ex q3;have ey:=re2.int k1 e1;subst ey;obtain ⟨p',vs2,z1,z2,z3,_⟩:=re2.own j k2' xs hE2;rw [hSj2] at z1;cases z1;have vl:=z3.length;obtain ⟨g3,re3⟩:=re2.put (ys:=xs.eraseIdx i.toNat) (ws:=vs2.eraseIdx i.toNat) hE2 hSj2 (by rw [aZF,aZF];exact (z3.take _).append (z3.drop _));obtain ⟨v,hv,rp⟩:=z3.get ht;have hil:=(aA8.mp ht).1;have sx:seqIndex? i vs2.length=some i.toNat:=by
     unfold seqIndex?;have h0:¬i<0:=by omega
     have h1:i<(vs2.length:Int):=by omega
     simp [h0,h1]
     try omega
    exact ⟨p,vs2,i,i.toNat,v,rfl,rfl,z2,by omega,by omega,sx,hv,lk _ _ _ _ _ q3 ((g1.trans g2).trans g3) re3 (rp.step g3.kp)⟩
   ·exact q2.elim
  ·exact q2.elim
end
end L2
namespace L2
open PySem PySem.Spec PyProof.Rows
def mF (t:Nat):List (Nat×Bool)->Nat->En->En->Option En
 | [],_,_,E=>some E
 | (_,false)::r,j,Ein,E=>mF t r (j+1) Ein E
 | (k,true)::r,j,Ein,E=>match E[k]?,Ein[t+j]? with
  | some (some (.o b _)),some (some (.o true ys))=>if cC ys=true then mF t r (j+1) Ein (E.set k (some (.o b ys))) else none
  | _,_=>none
def aIM (t:Nat) (cap:List (Nat×Bool)) (I:FI) (g:FG) (Fe:FE):FE:=λE Q=>I E λitems us E1=>cap.all (λk=>!(k.2&&us.contains k.1))=true/\
 jO g Fe items (gY t cap E1++[some (.o false [])]) λEin=>match Ein[t+cap.length]? with
  | some (some (.o false zs))=>cC zs=true/\o1 (mF t cap 0 Ein E1) λE2=>Q (.s E2.length) (E2++[some (.o false zs)])
  | _=>False
def aK3 (t:Nat) (K:W.Frag) (g:FG):TG:=λv σ H Q=>sK K g v σ H λσ' H'=>(∀i,t<=i->σ'[i]? = σ[i]?)->Q σ' H'
theorem mO {t:Nat} {Ein:En} {cap:List (Nat×Bool)}:∀{r:List (Nat×Bool)} {n:Nat} {E E2:En},(r.map (·.1)).Nodup->(∀j k c,r[j]? = some (k,c)->cap[n+j]? = some (k,c))->mF t r n Ein E=some E2->
  E2.length=E.length/\∀(i:Nat) (u:U),E2[i]? = some (some u)->(∃(j:Nat) (b:Bool) (ys xs0:List T),r[j]? = some (i,true)/\E[i]? = some (some (.o b xs0))/\Ein[t+(n+j)]? = some (some (.o true ys))/\cC ys=true/\u = .o b ys)\/(E[i]? = some (some u)/\∀(j:Nat) (b:Bool) (xs:List T),r[j]? = some (i,true)->E[i]?≠some (some (.o b xs)))
 | [],n,E,E2,_,_,h=>by cases h;exact ⟨rfl,λi u h=>.inr ⟨h,λj b xs z=>by simp at z⟩⟩
 | (k,false)::r,n,E,E2,nd,hc,h=>by
  obtain ⟨eL,eG⟩:=mO (cap:=cap) (r:=r) (n:=n+1) (aXH.mp nd).2 (λj k c q=>by have:=hc (j+1) k c (by simpa using q);rwa [show n+(j+1)=n+1+j by omega] at this) h;refine ⟨eL,λi u hu=>?_⟩;rcases eG i u hu with ⟨j,b,ys,xs0,q1,q2,q3,q4,q5⟩ | ⟨q1,q2⟩
  ·exact .inl ⟨j+1,b,ys,xs0,by simpa using q1,q2,by rwa [show n+(j+1)=n+1+j by omega],q4,q5⟩
  ·refine .inr ⟨q1,λj b xs z=>?_⟩;cases j with
   | zero=>simp at z
   | succ j=>exact q2 j b xs (by simpa using z)
 | (k,true)::r,n,E,E2,nd,hc,h=>by
  rw [mF] at h;split at h
  ·rename_i b xs0 ys hE hEi;split at h
   ·rename_i hny;obtain ⟨eL,eG⟩:=mO (cap:=cap) (r:=r) (n:=n+1) (aXH.mp nd).2 (λj k c q=>by have:=hc (j+1) k c (by simpa using q);rwa [show n+(j+1)=n+1+j by omega] at this) h;have nk:∀j c,r[j]?≠some (k,c):=λj c z=>(aXH.mp nd).1 (aYF.mpr ⟨(k,c),aIR z,rfl⟩);have hk:k<E.length:=(aA8.mp hE).1;refine ⟨by rw [eL,aXN],λi u hu=>?_⟩
    by_cases c:i=k
    ·subst c;rcases eG i u hu with ⟨j,b',ys',xs',q1,_⟩ | ⟨q1,q2⟩
     ·exact absurd q1 (nk j true)
     ·rw [aVH hk] at q1;cases q1;exact .inl ⟨0,b,ys,xs0,rfl,hE,hEi,hny,rfl⟩
    ·have hne:(E.set k (some (.o b ys)))[i]? = E[i]?:=aLL (λz=>c z.symm);rcases eG i u hu with ⟨j,b',ys',xs',q1,q2,q3,q4,q5⟩ | ⟨q1,q2⟩
     ·rw [hne] at q2;exact .inl ⟨j+1,b',ys',xs',by simpa using q1,q2,by rwa [show n+(j+1)=n+1+j by omega],q4,q5⟩
     ·rw [hne] at q1;refine .inr ⟨q1,λj b' xs z=>?_⟩;cases j with
      | zero=>simp at z;exact absurd z.symm c
      | succ j=>have:=q2 j b' xs (by simpa using z);rwa [hne] at this
   ·cases h
  ·cases h
section
variable {X:Cx} {K:W.Frag} {pos:Pos} {Fe:FE} {g:FG} {I:FI}
theorem aFK {scope:bA9} {N':List Str} {cap:List (Nat×Bool)} {t:Nat} (S:cW X N' scope t (cap.map (·.1))) (iP:(cap.map (·.1)).Nodup) {σ:St} {H:Hp} {Q:VK} (hl:σ.length=X.N.length)
  (h:aL K (aIM t cap I g Fe) σ H Q):yW t (cap.map (·.1)) (qH K I) (aK3 t K g) (aL K Fe) σ H Q:=by
 obtain ⟨B,S0,E,Q',hS,re,hF,lk⟩:=h;refine ⟨B,S0,E,_,hS,re,hF,λJ items us E1 H1 S1 gd q g1 re1 ok husO hgd D hD=>?_⟩;obtain ⟨hus,q⟩:=q;obtain ⟨τ0,hS0⟩:=hS;obtain ⟨τ1,hS1⟩:=g1.pre;have hS1':∃τ,S1=σ++τ:=⟨τ0++τ1,by rw [hS1,hS0,aEE]⟩;have atσ:∀{j k:Nat} {b:Bool} {v:V},cap[j]? = some (k,b)->S1[k]? = some (some v)->σ[k]? = some (some v):=λ{j k b v} hj hv=>by
  obtain ⟨x,_,hx,_⟩:=S.caps j k (by rw [aEO,hj];rfl);have hk:k<σ.length:=by rw [hl];exact (aA8.mp hx).1
  obtain ⟨τ,rfl⟩:=hS1';rw [aE9 hk] at hv;exact hv
 have atC:∀{j k:Nat} {b:Bool} {v:V},cap[j]? = some (k,b)->S1[k]? = some (some v)->(dH t (cap.map (·.1)) σ)[t+j]? = some (some v):=λ{j k b v} hj hv=>by rw [nK hj,atσ hj hv];rfl
 have backC:∀{j k:Nat} {b:Bool} {v:V},cap[j]? = some (k,b)->(dH t (cap.map (·.1)) σ)[t+j]? = some (some v)->S1[k]? = some (some v):=λ{j k b v} hj hv=>by
  rw [nK hj] at hv;have:σ[k]? = some (some v):=by
   cases z:σ[k]? with
   | none=>rw [z] at hv;cases hv
   | some y=>rw [z] at hv;simpa using hv
  exact dM hS1' this
 obtain ⟨Bp,hBp⟩:∃Bp:bAO->Prop,∀a,Bp a↔∃(j k:Nat) (kk:Bool) (xs:List T),cap[j]? = some (k,true)/\E1[k]? = some (some (.o kk xs))/\S1[k]? = some (some (.ref a)):=⟨_,λ_=>Iff.rfl⟩;have sameJ:∀{j j' m:Nat} {c c':Bool},cap[j]? = some (m,c)->cap[j']? = some (m,c')->j=j':=λ{j j' m c c'} e2 p1=>by
  have lt1:j<(cap.map (·.1)).length:=by rw [aG5];exact (aA8.mp e2).1
  exact (aY8 lt1 iP).mp (by rw [aEO,aEO,e2,p1];rfl)
 have bxOw:∀a,Bp a->Ow B S1 E1 a:=λa z=>by
  obtain ⟨j,k,kk,xs,_,h2,h3⟩:=(hBp a).mp z;exact .inr ⟨k,kk,xs,h2,h3⟩
 -- an own list of the block is the box
 have capO:∀{i:Nat} {k:Bool} {xs:List T},(gY t cap E1)[i]? = some (some (.o k xs))->∃j m kk,i=t+j/\cap[j]? = some (m,true)/\E1[m]? = some (some (.o kk xs))/\k=true:=λ{i k xs} h=>by
  obtain ⟨j,m,c,e1,e2,e3⟩:=nP h;refine ⟨j,m,?_⟩;cases qE:E1[m]? with
  | none=>rw [qE] at e3;cases e3
  | some u=>
   cases u with
   | none=>rw [qE] at e3;cases e3
   | some u=>
    cases u with
    | p _=>rw [qE] at e3;cases e3
    | o kk ys=>
     rw [qE] at e3;cases c
     ·simp [tR] at e3
     ·simp [tR] at e3;obtain ⟨e4,e5⟩:=e3;exact ⟨kk,e1,e2,by rw [e5],e4⟩
 have owIn:∀b,Ow Bp (dH t (cap.map (·.1)) σ) (gY t cap E1) b->Bp b:=λb z=>by
  rcases z with z | ⟨i,k,xs,h1,h2⟩
  ·exact z
  obtain ⟨j,m,kk,e1,e2,e3,_⟩:=capO h1;subst e1;exact (hBp b).mpr ⟨j,m,kk,xs,e2,e3,backC e2 h2⟩
 have kl:Kp (Ow B S1 E1) (Ow Bp (dH t (cap.map (·.1)) σ) (gY t cap E1)) H1 H1:=Kp.less λb z=>bxOw b (owIn b z);have reIn:RE K Bp H1 (dH t (cap.map (·.1)) σ) (gY t cap E1):=by
  refine ⟨by simp [dH,gY],λi u h=>?_,λi k xs h=>?_,λi j k l xs ys a h1 h2 h3 h4=>?_,λa z=>re1.ow (bxOw a z)⟩
  ·obtain ⟨j,m,c,e1,e2,e3⟩:=nP h;subst e1;cases qE:E1[m]? with
   | none=>rw [qE] at e3;cases e3
   | some w=>
    cases w with
    | none=>rw [qE] at e3;cases e3
    | some w=>
     cases w with
     | p w=>
      rw [qE] at e3;cases e3;obtain ⟨v,h1,h2⟩:=re1.pure m _ qE;exact ⟨v,atC e2 h1,h2.step kl⟩
     | o kk ys=>
      rw [qE] at e3;cases c
      ·simp [tR] at e3;subst e3;obtain ⟨a,vs,h1,h2,h3,h4⟩:=re1.own m kk ys qE;refine ⟨_,atC e2 h1,a,vs,rfl,.inl ⟨λz=>?_,.inl h2⟩,h3.step kl⟩;obtain ⟨j',k',kk',xs',p1,p2,p3⟩:=(hBp a).mp (owIn a z);have e4:=re1.inj m k' kk kk' ys xs' a qE p2 h1 p3;subst e4;have lt1:j<(cap.map (·.1)).length:=by rw [aG5];exact (aA8.mp e2).1
       have lt2:j'<(cap.map (·.1)).length:=by rw [aG5];exact (aA8.mp p1).1
       have:j=j':=(aY8 lt1 iP).mp (by rw [aEO,aEO,e2,p1];rfl);subst this;rw [e2] at p1;cases p1
      ·simp [tR] at e3
  ·obtain ⟨j,m,kk,e1,e2,e3,e4⟩:=capO h;subst e1;subst e4;obtain ⟨a,vs,h1,h2,h3,h4⟩:=re1.own m kk _ e3;exact ⟨a,vs,atC e2 h1,h2,h3.step kl,⟨λ_=>(hBp a).mpr ⟨j,m,kk,_,e2,e3,h1⟩,λ_=>rfl⟩⟩
  ·obtain ⟨j1,m1,k1,e1,e2,e5,_⟩:=capO h1;obtain ⟨j2,m2,k2,e3,e4,e6,_⟩:=capO h2;subst e1;subst e3;have em:=re1.inj m1 m2 k1 k2 _ _ a e5 e6 (backC e2 h3) (backC e4 h4);subst em;rw [sameJ e2 e4]
 -- the accumulator gets a place
 obtain ⟨gD,reD⟩:=reIn.lst (ts:=[]) (vs:=[]) hD rfl;have gd0:gd (upd H1 D (.lst [])) (Ow Bp (dH t (cap.map (·.1)) σ++[some (.ref D)]) (gY t cap E1++[some (.o false [])])):=by
  refine ok.keep _ _ _ _ gD.kp (hgd _ (λb z=>bxOw b (owIn b z)) λj hj a ha z=>?_);obtain ⟨j',k',kk',xs',p1,p2,p3⟩:=(hBp a).mp (owIn a z);obtain ⟨kj,xj,qj⟩:=husO j hj;have ej:=re1.inj j k' kj kk' xj xs' a qj p2 ha p3;subst ej;have:=aWN.mp hus (j,true) (aIR p1);simp [hj] at this
 have hn:(dH t (cap.map (·.1)) σ).length=t+cap.length:=by simp [dH]
 have hnE:(gY t cap E1++[some (U.o false [])]).length=t+cap.length+1:=by simp [gY];omega
 -- the turns
 refine ⟨λi m σ' H'=>m=items.length-i/\i<=items.length/\∃E',jO g Fe (items.drop i) E' (λEin=>match Ein[t+cap.length]? with
   | some (some (.o false zs))=>cC zs=true/\o1 (mF t cap 0 Ein E1) λE2=>Q' (.s E2.length) (E2++[some (.o false zs)])
   | _=>False)/\σ'.length=t+cap.length/\E'.length=t+cap.length+1/\RE K Bp H' (σ'++[some (.ref D)]) E'/\
   Gs Bp (upd H1 D (.lst [])) (dH t (cap.map (·.1)) σ++[some (.ref D)]) (gY t cap E1++[some (.o false [])]) H' (σ'++[some (.ref D)]) E'/\gd H' (Ow Bp (σ'++[some (.ref D)]) E')/\∀j k,cap[j]? = some (k,true)->σ'[t+j]? = (dH t (cap.map (·.1)) σ)[t+j]?,
  ⟨_,rfl,aB7 _,_,q,hn,hnE,reD,Kp.refl _ _,gd0,λ_ _ _=>rfl⟩,?_⟩
 rintro i m σ2 H2 ⟨rfl,hi',E3,q3,hl3,hE3,re3,g3,gd3,dt3⟩;rcases aVS i items.length with hlt | hge
 ·have hd:items.drop i=items[i]::items.drop (i+1):=aVT hlt;rw [hd] at q3;refine .inr ⟨ok.go i H2 _ gd3 hlt,λx H4 y=>?_⟩;obtain ⟨k4,s4,rp⟩:=ok.yld i H2 _ x H4 _ gd3 (aCP hlt) (λa z=>by obtain ⟨vs,e⟩:=re3.ow z;rw [e];intro z;cases z) y;have re4:=re3.kept s4;have gd4:=ok.keep _ _ _ _ k4 gd3;refine ⟨_,[some (.ref D)],E3,_,_,re4,rp,q3,λσ5 H5 E5 q5 g5 re5 hl5 dt5=>?_⟩;have hE5:E5.length=t+cap.length+1:=by rw [<-re5.len];simp [hl5,hl3]
  refine ⟨_,σ5++[some (.ref D)],E5,_,⟨_,rfl⟩,re5,q5,λr E6 v H6 S6 q6 g6 re6 rr6=>?_⟩;cases r with
  | s _=>exact q6.elim
  | p u=>
   simp only at q6;have hlast:E3.length-1=t+cap.length:=by omega
   rw [hlast] at q6;split at q6
   ·rename_i acc hacc;obtain ⟨hlen,q6⟩:=q6;obtain ⟨a6,ws,p1,p2,p3,p4⟩:=re6.own _ _ _ hacc;have hS6:S6[t+cap.length]? = some (some (.ref D)):=dM g6.pre (by rw [aUO (by omega)];simp [hl5,hl3]);rw [hS6] at p1;cases p1;obtain ⟨g7,re7⟩:=re6.put (ys:=acc++[u]) (ws:=ws++[v]) hacc hS6 (p3.append ⟨v,[],rfl,rr6,rfl⟩);obtain ⟨re8,ow8⟩:=re7.cut (E:=E5) (σ:=σ5++[some (.ref D)]) (g6.trans g7).pre re5.len;have eE:E5.length=E3.length:=by omega
    rw [eE] at re8 ow8;have gg:Gs Bp H4 (σ2++[some (.ref D)]) E3 (upd H6 D (.lst (ws++[v]))) (σ5++[some (.ref D)]) ((E6.set (t+cap.length) (some (.o false (acc++[u])))).take E3.length):=(g5.trans (g6.trans g7).kp).trans (Kp.less ow8);refine ⟨ws,p2,by rw [p3.length];exact b8 (aVY hlen),items.length-(i+1),by omega,rfl,hlt,_,q6,by omega,?_,re8,(g3.trans k4).trans gg,ok.keep _ _ _ _ gg gd4,λj k hj=>by rw [dt5 (t+j) (Nat.le_add_right _ _)];exact dt3 j k hj⟩;rw [aNQ,aXN];have:E5.length<=E6.length:=by
     obtain ⟨τ6,e6⟩:=g6.pre;rw [<-re5.len,<-re6.len,e6];simp
    omega
   ·exact q6.elim
 ·have ei:i=items.length:=by omega
  subst ei;rw [aYD] at q3;refine .inl ⟨ok.stop H2 _ gd3,?_⟩;have q3':(match E3[t+cap.length]? with
   | some (some (.o false zs))=>cC zs=true/\o1 (mF t cap 0 E3 E1) λE2=>Q' (.s E2.length) (E2++[some (.o false zs)])
   | _=>False):=q3
  split at q3'
  ·rename_i zs hzs;obtain ⟨hnl,q3'⟩:=q3';obtain ⟨E2,e2,q3'⟩:=q3'.ex;obtain ⟨aD,ws,p1,p2,p3,p4⟩:=re3.own _ _ _ hzs;have hSD:(σ2++[some (V.ref D)])[t+cap.length]? = some (some (.ref D)):=by rw [aUO (by omega)];simp [hl3]
   rw [hSD] at p1;cases p1
   -- what is kept of the heap around
   have ow0:∀b,Ow Bp (dH t (cap.map (·.1)) σ++[some (.ref D)]) (gY t cap E1++[some (.o false [])]) b->Bp b\/b=D:=λb z=>by
    rcases gD.kp.new b z with z | z
    ·exact .inl (owIn b z)
    ·rcases reD.ow (by assumption) with ⟨us',hu⟩
     by_cases c:b=D
     ·exact .inr c
     ·rw [aS c,z] at hu;cases hu
   have kept:∀b o,H1 b=some o->¬Bp b->H2 b=some o:=λb o e n=>by
    refine g3.keep b o (by rw [aS (aQ e hD)];exact e) λz=>?_;rcases ow0 b z with z | z
    ·exact n z
    ·exact aQ e hD z
   have hk:∀b o,H1 b=some o->¬Ow B S1 E1 b->H2 b=some o:=λb o e n=>kept b o e λz=>n (bxOw b z);have nD:H1 D=none:=hD;have lk1:=lk.step g1
   -- the names around
   have fin:∀{E2:En},RE K B H2 S1 E2->(∀b,Ow B S1 E2 b->Ow B S1 E1 b)->
     (∀(i:Nat) (k:Bool) (xs:List T),E2[i]? = some (some (.o k xs))->(E1[i]? = some (some (.o k xs))/\∀a,S1[i]? = some (some (.ref a))->H2 a=H1 a)\/∀a ws,S1[i]? = some (some (.ref a))->H2 a=some (.lst ws)->bW K H2 (fF H2) xs ws)->
     (∀(i:Nat) (u:T),E2[i]? = some (some (.p u))->E1[i]? = some (some (.p u)))->Q' (.s E2.length) (E2++[some (.o false zs)])->Q (.ref D) H2:=λ{E2} re' hw hE hP q=>by
    refine rA re1 re' hk hw hE hP (r:=.l zs) ⟨D,ws,rfl,hD,p2,bW.noL (λa z=>?_) hnl p3⟩ q lk1;rcases z with ⟨us',z⟩ | z
    ·by_cases c:Bp a
     ·exact re3.ow (.inl c)
     ·exact ⟨us',kept a _ z c⟩
    ·exact ⟨ws,by rw [z];exact p2⟩
   obtain ⟨eL,eG⟩:=mO iP (λj k c h=>by simpa using h) e2;have eG:=λi u h=>eG i u h;have lts:∀b,Ow B S1 E1 b->fF H2 b:=λb z=>by
    by_cases c:Bp b
    ·exact re3.ow (.inl c)
    ·obtain ⟨us',e⟩:=re1.ow z;exact ⟨us',kept b _ e c⟩
   -- a list that the block changed
   have bxI:∀{i j:Nat} {b:Bool} {xs0 ys:List T},cap[j]? = some (i,true)->E1[i]? = some (some (.o b xs0))->E3[t+j]? = some (some (.o true ys))->cC ys=true->∃a us1,S1[i]? = some (some (.ref a))/\H2 a=some (.lst us1)/\bW K H2 (fF H2) ys us1:=λ{i j b xs0 ys} hj hE hEi hny=>by
    obtain ⟨a',us1,r1,r2,r3,r4⟩:=re3.own _ true ys hEi;have hjl:j<cap.length:=(aA8.mp hj).1;rw [aE9 (by omega),dt3 j i hj] at r1;exact ⟨a',us1,backC hj r1,r2,bW.noL (λ_ z=>z) hny r3⟩
   have nk:∀{i:Nat} {l:Bool} {zs':List T} {a:bAO},(∀j b xs,cap[j]? = some (i,true)->E1[i]?≠some (some (.o b xs)))->E1[i]? = some (some (.o l zs'))->S1[i]? = some (some (.ref a))->¬Bp a:=λ{i l zs' a} c z ha w=>by
    obtain ⟨j',k',kk',xs',p1',p2',p3'⟩:=(hBp a).mp w;have:=re1.inj i k' l kk' zs' xs' a z p2' ha p3';subst this;exact c j' l zs' p1' z
   have owE:∀b,Ow B S1 E2 b->Ow B S1 E1 b:=λb z=>by
    rcases z with z | ⟨i,l,zs',z1,z2⟩
    ·exact .inl z
    rcases eG _ _ z1 with ⟨j,b',ys,xs0,_,h2,_,_,_⟩ | ⟨z,_⟩
    ·exact .inr ⟨_,_,_,h2,z2⟩
    ·exact .inr ⟨i,l,zs',z,z2⟩
   have kp:Kp (Ow B S1 E1) (Ow B S1 E1) H1 H2:=⟨hk,λb z=>.inl z⟩;refine fin (re1.step hk eL (λi u h=>?_) (λi l zs' h=>?_) (λa z=>lts a (.inl z))) owE (λi l zs' h=>?_) (λi u h=>?_) q3'
   ·rcases eG _ _ h with ⟨_,_,_,_,_,_,_,_,z⟩ | ⟨z,_⟩
    ·cases z
    ·exact z
   ·rcases eG _ _ h with ⟨j,b',ys,xs0,h1,h2,h3,h4,z⟩ | ⟨z,nb⟩
    ·cases z;obtain ⟨a0,us1,r1,r2,r3⟩:=bxI h1 h2 (by rwa [Nat.zero_add] at h3) h4;refine ⟨xs0,h2,λa ha=>?_⟩;rw [r1] at ha;cases ha;exact ⟨us1,r2,r3.step (Kp.less lts)⟩
    ·refine ⟨zs',z,λa ha=>?_⟩;obtain ⟨a',us',p1',p2',p3',_⟩:=re1.own i l zs' z;rw [ha] at p1';cases p1';exact ⟨us',kept a _ p2' (nk nb z ha),p3'.step kp⟩
   ·rcases eG _ _ h with ⟨j,b',ys,xs0,h1,h2,h3,h4,z⟩ | ⟨z,nb⟩
    ·cases z
     right
     intro a us2 ha hu;obtain ⟨a0,us1,r1,r2,r3⟩:=bxI h1 h2 (by rwa [Nat.zero_add] at h3) h4;rw [r1] at ha;cases ha;rw [r2] at hu;cases hu;exact r3
    ·left
     refine ⟨z,λa ha=>?_⟩;obtain ⟨a',us',p1',p2',p3',_⟩:=re1.own i l zs' z;rw [ha] at p1';cases p1';rw [p2'];exact kept a _ p2' (nk nb z ha)
   ·rcases eG _ _ h with ⟨_,_,_,_,_,_,_,_,z⟩ | ⟨z,_⟩
    ·cases z
    ·exact z
  ·exact q3'.elim
theorem aIY {t i:Nat} {x:Str} (hN:X.N.Nodup) (hi:X.N[i]? = some x) (hx:yT X.env.scope x) (hf:X.fn x=true\/X.env.scope.names.lookup x=some .local:=by first | exact .inl rfl | exact .inr rfl | assumption) (ht:i<t:=by decide):QG X (.Name x pos) (aK3 t K (zA i)):=
 (aEK hN hi hx hf).le λv σ H Q hl ⟨B,τ,E,u,Q',re,rp,hF,l⟩=>by
  have hlt:i<σ.length:=by rw [hl];exact (aA8.mp hi).1
  obtain ⟨r1,ow⟩:=re.setP (i:=i) rp;rw [aZH _ _ hlt] at r1 ow;exact l _ _ _ hF (Kp.less ow) r1 (by simp) λj hj=>aLL (by omega)
theorem aN2 {target elt iter:Expr} {scope:bA9} {pos pos' spos:Pos} {N':List Str} {cap:List (Nat×Bool)} {t i:Nat} {x:Str} (hN:X.N.Nodup) (hi:X.N[i]? = some x) (hx:yT X.env.scope x)
  (hsw:bBN (.ListComp elt [⟨target,iter,[],0⟩] scope pos) (some (.Name x pos')) spos.line X.env=pure true) (hc:X.calm=true) (S:cW X N' scope t (cap.map (·.1))) (iP:(cap.map (·.1)).Nodup) (hit:QI X target iter (qH K I))
  (hg:∀C s3 H3 fp,QG (eJ X N' scope C s3 H3 fp) target (aK3 t K g)) (he:∀C s3 H3 fp,QE (eJ X N' scope C s3 H3 fp) elt (aL K Fe)) (hs:∀x,bBD iter X.env x=pure x:=by intro _;rfl)
  (hf:X.fn x=true\/X.env.scope.names.lookup x=some .local:=by first | exact .inl rfl | exact .inr rfl | assumption) :
  QS X (.Assign [.Name x pos'] (.ListComp elt [⟨target,iter,[],0⟩] scope pos) spos) (dJ K (aSP i (aIM t cap I g Fe))):=
 QS.le ⟨aD8 hN hi hx hf hsw hc S hit.h (λC s3 H3 fp=>(hg C s3 H3 fp).h) (λC s3 H3 fp=>(he C s3 H3 fp).h) hs⟩ λD σ H hl ⟨B,E,DT,re,hF,l⟩=>aFK S iP hl ⟨B,σ,E,_,⟨[],by simp⟩,re,hF,λr E' v H' S' q g re' rr=>by
  obtain ⟨u,e1,q⟩:=q.ex;rw [<-re.len] at e1 q;obtain ⟨r1,ow⟩:=jX (i:=i) re' g.pre rr e1;exact l.nx _ _ _ q (g.kp.trans (Kp.less ow)) r1⟩
end
end L2
namespace L2
open PySem PySem.Spec PySem.W PyProof.Rows
def dL (cb:Bool) (P:bAR) (w:bAU):CXT:=λouter H s E e s'=>∃(x C T:bAO) (H':Hp),e = .ref x/\s'.os=s.os/\bBT s'.gens/\Un (cS outer) [] H H' s.heap s'.heap/\s.heap.get? x=none/\s.heap.get? T=none/\(H' x=none/\H' T=none/\iO P w H' s'.heap)/\sZ cb s'.heap x C T/\E (.ref C) none H
abbrev CXh (P:bAR) (w:bAU):CXT:=dL true P w
theorem n8 {cb cb':Bool} {h:Heap} {x C T:bAO} (hle:cb'=true->cb=true) (e:sZ cb h x C T):sZ cb' h x C T:=by
 obtain ⟨n0,oe,vs,oT,ts,hx,hc,hdc,hdt,h1,hT,hdT,h3,hcx⟩:=e;exact ⟨n0,oe,vs,oT,ts,hx,hc,hdc,hdt,h1,hT,hdT,h3,λz=>hcx (hle z)⟩
variable {cb cb':Bool}
theorem jI {P:bAR} {w:bAU} {H:Hp} {h h':Heap} (hok:iO P w H h) (k:∀b v,H b≠none->h.get? b=some v->h'.get? b=some v):iO P w H h':=λb o e=>
 (hok b o e).stay (λc v hc q=>k c v (by
  rcases hc with rfl | hc
  ·rw [e];intro z;cases z
  ·rw [hc];intro z;cases z) q) (λ_ q=>q) λ_ _ q=>q
theorem dD {P:bAR} {w:bAU} {H:Hp} {h:Heap} (hok:iO P w H h) {b:bAO} (e:h.get? b=none):H b=none:=by
 cases q:H b with
 | none=>rfl
 | some o=>
  obtain ⟨ob,z⟩:=aEG (hok b o q);rw [e] at z;cases z
abbrev SpG:=List T->(T->Prop)->(bAO->Prop)->Prop
def spG (K:W.Frag) (S:SpG):Sp:=λvs H Q E=>∃(ts:List T) (Q':T->Prop) (W:bAO->Prop),bW K H (λ_=>False) ts vs/\S ts Q' W/\(∀t v H',Q' t->(∀b o,H b=some o->H' b=some o)->Rp K H' (fF H') t v->Q v H')/\∀C,W C->E (.ref C) none H
def enG (ts:List T):En:=ts.map λt=>some (U.p t)
theorem qU {ts:List T} {i:Nat} {u:U} (h:(enG ts)[i]? = some (some u)):∃t,ts[i]? = some t/\u = .p t:=by
 unfold enG at h;rw [aEO] at h;cases q:ts[i]? with
 | none=>rw [q] at h;cases h
 | some t=>rw [q] at h;cases h;exact ⟨t,rfl,rfl⟩
theorem aO3 {S:St} {ts:List T}:∀b,¬Ow (λ_=>False) S (enG ts) b:=λb z=>by
 rcases z with z | ⟨i,k,xs,h1,_⟩
 ·exact z
 ·obtain ⟨t,_,e⟩:=qU h1;cases e
theorem aND {K:W.Frag} {H:Hp} {ts:List T} {vs:List V} (rp:bW K H (λ_=>False) ts vs):RE K (λ_=>False) H (vs.map some) (enG ts):=by
 refine ⟨by simp [enG,rp.length],λi t h=>?_,λi k xs h=>?_,λi j k l xs ys a h=>?_,λa z=>z.elim⟩
 ·obtain ⟨u,q,e⟩:=qU h;cases e;obtain ⟨v,h1,h2⟩:=rp.get q;exact ⟨v,by rw [aEO,h1];rfl,h2.step (Kp.less λb z=>aO3 b z)⟩
 ·obtain ⟨u,_,e⟩:=qU h;cases e
 ·obtain ⟨u,_,e⟩:=qU h;cases e
section
variable {P:bAR} {w:bAU} {K:W.Frag} {mg:Str->Option Value} {base:Heap}
theorem dA.okG {x qual:Str} {st:bAY} {f:bAO} {fd:bAS} {N ps:List Str} {k:Nat} {S:SpG} {F:(bAO->Prop)->FS} (Fn:dA K x qual st f fd) (Sc:aP N ps (aH st)) (len:∀ts Q W,S ts Q W->ts.length=ps.length)
  (hb:∀(W:bAO->Prop) (cdv:Value) (A:Around) (outer:List Env) (s:Shared) (H:Hp) (E:XK),cU k (A.deeper (bAZ qual (aH st) s.heap.objs.size f cdv))->(∀C,W C->E (.ref C) none H)->QB (dE (dL cb P w) P w K mg base N qual (aH st) f cdv A outer s H E) (fD st) (dJ K (F W)))
  (hF:∀ts Q W,S ts Q W->F W (aT3 Q) (enG ts++aEH (N.length-ts.length) none)):bI P w K mg base (dL cb P w) (k+1) f fd ps (spG K S):=by
 obtain ⟨oc,od,kV,doc,pm,an,cdv,ct,osl,rfl,lk,hcd⟩:=Fn.ex;refine aPK lk hcd Sc (λvs H Q E ⟨ts,Q',W,e,hS,_⟩=>?_) λA outer s H vs Q E hr ⟨ts,Q',W,e,hS,hq,hw⟩=>?_
 ·rw [e.length];exact len ts Q' W hS
 refine ⟨_,(hb W cdv A outer s H E hr hw).h,?_⟩;obtain ⟨re0,ow0⟩:=(aND e).pad (N.length-ts.length);have hst:jJ N vs=vs.map some++aEH (N.length-ts.length) none:=by unfold jJ;rw [e.length]
 rw [hst];have same:∀{H':Hp} {O:bAO->Prop},Kp (Ow (λ_=>False) (vs.map some++aEH (N.length-ts.length) none) (enG ts++aEH (N.length-ts.length) none)) O H H'->∀b o,H b=some o->H' b=some o:=λk b o z=>k.keep b o z λy=>aO3 b (ow0 b y);refine ⟨_,_,_,re0,hF ts Q' W hS,⟨λ_ _ _ z=>z.elim,λr E' v H' S' q g re' rr=>?_,λ_ _ _ z=>z.elim,λ_ _ _ z=>z.elim⟩⟩;cases r with
 | p t=>exact hq t v H' q.2 (same g) (Rp.noL (λ_ z=>z) q.1 rr)
 | s i=>
  simp only [aT3] at q;split at q
  ·rename_i t hE;obtain ⟨u,h1,h2⟩:=re'.pure i t hE;have rr':S'[i]? = some (some v):=rr;rw [rr'] at h1;cases h1;exact hq t v H' q.2 (same g) (Rp.noL (λ_ z=>z) q.1 h2)
  ·exact q.elim
end
def fW (cb:Bool) (X:Cx) (W:bAO->Prop):Prop:=∀(pins:List (bAO×Obj)) (σ:St) (H1 H':Hp) (s1 s2:Shared) (x C T:bAO),aR X pins σ H1 s1->s2.os=s1.os->bBT s2.gens->Un (cS X.stack) [] H1 H' s1.heap s2.heap->s1.heap.get? x=none->s1.heap.get? T=none->(H' x=none/\H' T=none/\iO X.prog X.w H' s2.heap)->sZ cb s2.heap x C T->W C->X.xe (.ref x) s2
structure aHG (cb:Bool) (P:bAR) (w:bAU) (K:W.Frag) (mg:Str->Option Value) (base:Heap) (k:Nat) (x:Str) (ps:List Str) (sp:Sp):Prop where
 ex:∃f fd,bI P w K mg base (dL cb P w) k f fd ps sp/\mg x=some (.ref f)/\W.keepIn K (.ref f)=true/\kC K fd ps []
abbrev FnH (P:bAR) (w:bAU) (K:W.Frag) (mg:Str->Option Value) (base:Heap) (k:Nat) (x:Str) (ps:List Str) (sp:Sp):Prop:=aHG true P w K mg base k x ps sp
def aQL (S:SpG) (Fr:FA) (W:bAO->Prop):FE:=λE Q=>Fr E λrs E1=>o1 (mkV E1 rs) λts=>S ts (λt=>noL t=true/\Q (.p t) E1) W
section
variable {X:Cx} {K:W.Frag} {S:SpG} {fn:Str} {ps:List Str} {e:Expr} {es:List Expr} {fp cp:Pos} {n k m:Nat} {Fr:FA} {W:bAO->Prop}
theorem iK (eK:X.K=K) (ro:fW cb X W) (F:aHG cb X.prog X.w X.K X.mg X.base k fn ps (spG K S)) (hr:cU m X.A) (hk:k<=m) (hgf:Gl X fn) (ha:QA X (e::es) (cQ K n Fr)) (hdf:(fn==("__debug__":Str))=false:=by decide) (hs:bB (e::es)=true:=by rfl) :
  QE X (.Call (.Name fn fp) (e::es) [] cp) (aL K (aQL S Fr W)):=by
 subst eK;constructor
 intro pins s σ H QQ I ⟨B,S0,E,Q',hS0,re,hF,lk⟩;obtain ⟨f,fd,FO,hmf,hkp,hbd⟩:=F.ex;have he:bR e=false/\bB es=true:=by simpa [bB] using hs
 refine bBJ (fG I hgf hmf ?_ hdf);refine PySem.W.callWith_K (h₀:=X.base) I.ok.mod.kin hkp (bA8 (ha.h cp pins s σ H (λvs H1=>∃(S1:St) (E1:En) (ts:List T),Gr B H S0 E H1 S1 E1/\RE X.K B H1 S1 E1/\bW X.K H1 (λ_=>False) ts vs/\S ts (λt=>noL t=true/\Q' (.p t) E1) W) I ?_) (λus s1 ⟨vs,H1,I1,r,S1,E1,ts,g1,re1,rp,hS⟩=>⟨I1.kIn,?_⟩) λ_ _ z=>z) (bX he.1) (cO he.2)
 ·refine ⟨B,S0,E,_,hS0,re,hF,λrs E1 vs H1 S1 q g re1 rr hn=>?_⟩;obtain ⟨ts,e1,q⟩:=o1.ex q;exact ⟨S1,E1,ts,g,re1,yD re1 rr e1 (λ_=>False) (λ_ z=>z.elim) (λ_ _ _ _ _ _ z=>z),q⟩
 have env0:aE6 X.prog X.w X.K X.mg X.base X.A X.stack s1 H1:=⟨I1.ok.frames,I1.ok.mod,I1.bs,aVD I1.ok.bsz I1.sz,I1.stack,I1.stkFree,I1.hok,I1.bare⟩;have hlen:(us++[]).length=ps.length:=by
  have h1:=r.length;rw [aU7,<-h1];exact FO.len vs H1 (λ_ _=>True) (λ_ _ _=>True) ⟨ts,_,_,rp,hS,λ_ _ _ _ _ _=>trivial,λ_ _=>trivial⟩
 refine bCP (bCH (FO.run X.A X.stack s1 H1 ⟨us,[]⟩ (us++[]) vs (λv H'=>∃t,noL t=true/\Q' (.p t) E1/\(∀b o,H1 b=some o->H' b=some o)/\Rp X.K H' (fF H') t v) (λv _ _=>∃C,v = .ref C/\W C) (hr.mono hk) env0 (hbd s1 us I1.kIn hlen) (by rw [aU7];exact r) ⟨ts,_,_,rp,hS,λt v H' q sm rp=>⟨t,q.1,q.2,sm,rp⟩,λC q=>⟨C,rfl,q⟩⟩) λres s2 hq=>?_);cases res with
 | ok fl=>
  cases fl with
  | ret u=>
   obtain ⟨v,H',os,bare,un,hok,rv,t,nl,qn,sm,rp'⟩:=hq;have I2:=I1.call' os un hok bare (λb z=>absurd z (by simp));have re3:=re1.kept sm;have rp3:Rp X.K H' (Ow B S1 E1) t v:=Rp.noL (λa z=>re3.ow z) nl rp';have gg:Gr B H1 S1 E1 H' S1 E1:=⟨⟨λb o z _=>sm b o z,λb z=>.inl z⟩,[],by simp⟩;exact ⟨v,H',I2,rv,lk (.p t) E1 v H' S1 qn (g1.trans gg) re3 rp3⟩
  | next=>exact hq.elim
  | brk=>exact hq.elim
  | cont=>exact hq.elim
 | error er=>
  obtain ⟨x,C',T,H',rfl,os,bare,un,nx,nT,hh,ee,C,hC,hw⟩:=hq;cases hC;exact ro pins σ H1 H' s1 s2 x _ T I1 os bare un nx nT hh ee hw
end
section
open PySem.Calls
variable {M:Model} {A:Around} {E:Value->Shared->Prop} {s:Shared} {base:Heap} {env:Env} {outer:List Env} {L x:bAO}
structure Kg (fs:List bAO) (x T0:bAO) (h h':Heap):Prop where
 keep:∀b o,h.get? b=some o->b∉fs->b≠x->b≠T0->h'.get? b=some o
 slot:∀b o,h.get? b=some o->b∈fs->∃sl,h'.get? b=some { o with slots:=sl }
 there:∀b o,h.get? b=some o->∃o',h'.get? b=some o'
theorem aJ6 {C T0:bAO} {Q:Unit->Shared->Prop} (hfr:A.frames=some (env::outer)) (hl:s.heap.FunFrames base (env::outer)) (hf:env.frame=some L) (hE:sZ cb s.heap x C T0)
  (k:∀h' T,Kg (cS (env::outer)) x T0 s.heap h'->s.heap.get? T=none->sZ cb h' x C T->Q () { s with heap:=h' }):bAQ M A (bBY env (.ref x)) Q E s:=by
 obtain ⟨n0,oe,vs,oT,ts,hx,hc,hdc,hdt,h1,hT,hdT,h3,hcx⟩:=hE;have hsz:=(aTQ.mp h1).1;have h3z:=(aTQ.mp h3).1;have fx:T0∉cS (env::outer):=λhm=>by
  obtain ⟨_,o,ho,hnf⟩:=hl.mem hm;rw [hT] at ho;cases ho;exact hnf ts hdT
 unfold bBY bBK;simp only [hf];refine bAP (bAP (bA1 hx hdt h1 ?_));rw [if_pos (show (aSW T0 != aTX)=true from by simp)];refine bAP (bA1 hT hdT h3 ?_);rw [if_neg (show ¬((aTX==bA6 L)=true) from by simp [bA6])];refine bAP (bBF hT hdT h3z ?_);obtain ⟨hU,hhU⟩:∃hU,hU=s.heap.update T0 (aWA (·.setIfInBounds 3 aTX)):=⟨_,rfl⟩;rw [<-hhU];have oth:∀b,b≠T0->hU.get? b=s.heap.get? b:=λb nb=>by rw [hhU];exact aLK _ _ (Ne.symm nb)
 have atT:∃o,hU.get? T0=some o:=⟨_,by rw [hhU];exact aQU _ hT (aVG (aRH hdT _))⟩;have hl2:hU.FunFrames base (env::outer):=hl.of_keeps λb o e hnf=>⟨o,by
  rw [oth b λz=>hnf ts (by rw [z,hT] at e;cases e;exact hdT)];exact e,rfl⟩
 refine jF (s:={ s with heap:=hU }) hfr hl2 hf (by show hU.get? x=_;rw [oth x (Ne.symm n0)];exact hx) hdt hsz λh' T oT' ts' kf sT nT fT ex eT dT h3'=>?_;have sT:hU.get? T=none:=sT;have kf:Kf (cS (env::outer)) x hU h':=kf;obtain ⟨o,us,e1,e2,e3,e4,e5,e6⟩:=oK ex hdt hsz;have nT0:T≠T0:=λz=>by
  obtain ⟨o,e⟩:=atT;rw [z,e] at sT;cases sT
 refine nV (s:={ s with heap:=h' }) (h0:=hU) kf sT nT fT e1 (by rw [e2,hc]) (by rw [e3,hdc]) e4 e5 (λz=>by rw [e6];exact hcx z) eT dT h3' λh'' kk ee=>k h'' T ⟨λb o e nf nx nt=>kk.keep b o (by rw [oth b nt];exact e) nf nx,λb o e mf=>kk.slot b o (by rw [oth b λz=>fx (by rw [<-z];exact mf)];exact e) mf,λb o e=>?_⟩ (by rw [<-oth T nT0];exact sT) ee;obtain ⟨_,ox,_,oT2,_,g1,_,_,_,_,g2,_⟩:=ee
 by_cases bx:b=x
 ·exact ⟨_,by rw [bx];exact g1⟩
 ·obtain ⟨ob,eb⟩:∃ob,hU.get? b=some ob:=by
   by_cases bt:b=T0
   ·rw [bt];exact atT
   ·exact ⟨o,by rw [oth b bt];exact e⟩
  by_cases mf:b∈cS (env::outer)
  ·obtain ⟨sl,q⟩:=kk.slot b ob eb mf;exact ⟨_,q⟩
  ·exact ⟨_,kk.keep b ob eb mf bx⟩
theorem jD {fs:List bAO} {H H':Hp} {h h':Heap} (u:Un fs [] H H' h h'):∀{l:List Env},(∀b∈l.filterMap (·.frame),H b=none/\b∈fs)->h.FunFrames base l->h'.FunFrames base l
 | [],_,_=>trivial
 | e::l,hb,⟨hk,⟨L,o,hf,hn,ho,hd⟩,hr⟩=>by
  have hL:=hb L (by rw [aVZ,hf];exact aWI ..);obtain ⟨sl,q⟩:=u.slot L o ho hL.1 hL.2 (by simp);exact ⟨hk,⟨L,_,hf,hn,q,hd⟩,jD u (λb z=>hb b (by rw [aVZ,hf];exact aJF _ z)) hr⟩
end
section
variable {P:bAR} {w:bAU} {K:W.Frag} {mg:Str->Option Value} {base:Heap} {N:List Str} {qual:Str} {scope:bA9} {f:bAO} {cdv:Value} {A:Around} {outer:List Env} {s0:Shared} {H0:Hp} {Ew:XK}
theorem aB5 {pins:List (bAO×Obj)} {σ:St} {H1 H':Hp} {s1 s2:Shared} {x C T T':bAO} {h':Heap} (I1:aR (dE (dL cb P w) P w K mg base N qual scope f cdv A outer s0 H0 Ew) pins σ H1 s1) (os:s2.os=s1.os) (bare:bBT s2.gens) (un:Un (cS (bAZ qual scope s0.heap.objs.size f cdv::outer)) [] H1 H' s1.heap s2.heap)
  (nx:s1.heap.get? x=none) (nT:s1.heap.get? T=none) (hx0:H' x=none) (hT0:H' T=none) (hok:iO P w H' s2.heap) (kg:Kg (cS (bAZ qual scope s0.heap.objs.size f cdv::outer)) x T s2.heap h') (nT':s2.heap.get? T'=none) (ee':sZ cb h' x C T') (hW:Ew (.ref C) none H0):dL cb P w outer H0 s0 Ew (.ref x) { s2 with heap:=h' }:=by
 have b0:=I1.base;have fre:∀b,s1.heap.get? b=none->s0.heap.get? b=none:=λb e=>by
  cases q:s0.heap.get? b with
  | none=>rfl
  | some o=>
   obtain ⟨o',e'⟩:=b0.there b o q (by intro z;cases z);rw [e] at e';cases e'
 have fre2:∀b,s2.heap.get? b=none->s1.heap.get? b=none:=λb e=>by
  cases q:s1.heap.get? b with
  | none=>rfl
  | some o=>
   obtain ⟨o',e'⟩:=un.there b o q (by intro z;cases z);rw [e] at e';cases e'
 have nfr:∀b o,s0.heap.get? b=some o->b∉cS outer->b∉cS (bAZ qual scope s0.heap.objs.size f cdv::outer):=λb o e nf m=>by
  rcases aH1.mp (I1.stkSub b m) with z | z
  ·exact absurd (aG4 e) (by rw [z];exact Nat.lt_irrefl _)
  ·exact nf z
 have mfr:∀b,b∈cS outer->b∈cS (bAZ qual scope s0.heap.objs.size f cdv::outer):=λb m=>by
  unfold cS at m ⊢;rw [aVZ]
  split
  ·exact m
  ·exact aJF _ m
 have ne:∀b o,s0.heap.get? b=some o->b≠x/\b≠T:=λb o e=>⟨λz=>(by rw [z,fre x nx] at e;cases e),λz=>(by rw [z,fre T nT] at e;cases e)⟩;refine ⟨x,C,T',H',rfl,os.trans I1.os,bare,⟨λb o e n nf _=>?_,λb o e n mf _=>?_,λb o e n _=>?_,λb o e _=>?_,λb xs e=>un.tups b xs (b0.tups b xs e),λb o u e=>un.frzs b o u (b0.frzs b o u e),λb ps e=>?_⟩,fre x nx,fre T' (fre2 T' nT'),⟨hx0,dD hok nT',jI hok λb v hb q=>kg.keep b v q (λm=>hb ?_) (λz=>hb (by rw [z];exact hx0)) λz=>hb (by rw [z];exact hT0)⟩,ee',hW⟩
 ·have q:=b0.keep b o e n nf (by intro z;cases z);have n1:=b0.free b o e n (by intro z;cases z);exact kg.keep b o (un.keep b o q n1 (nfr b o e nf) (by simp)) (nfr b o e nf) (ne b o e).1 (ne b o e).2
 ·obtain ⟨sl,q⟩:=b0.slot b o e n mf (by intro z;cases z);have n1:=b0.free b o e n (by intro z;cases z);obtain ⟨sl1,q1⟩:=un.slot b _ q n1 (mfr b mf) (by simp);obtain ⟨sl',q'⟩:=kg.slot b _ q1 (mfr b mf);exact ⟨sl',q'⟩
 ·obtain ⟨o',q⟩:=b0.there b o e (by intro z;cases z);exact un.free b o' q (b0.free b o e n (by intro z;cases z)) (by simp)
 ·obtain ⟨o',q⟩:=b0.there b o e (by intro z;cases z);obtain ⟨o2,q2⟩:=un.there b o' q (by simp);exact kg.there b o2 q2
 ·obtain ⟨more,q⟩:=b0.tbls b ps e;obtain ⟨more',q'⟩:=un.tbls b _ q;exact ⟨more++more',by rw [q',Array.append_assoc]⟩
 ·obtain ⟨_,o,ho,_⟩:=I1.stack.mem m;exact un.free b o ho (I1.stkFree b m) (by simp)
theorem aAE {W:bAO->Prop} (hle:cb'=true->cb=true) (hW:∀C,W C->Ew (.ref C) none H0):fW cb (dE (dL cb' P w) P w K mg base N qual scope f cdv A outer s0 H0 Ew) W:=by
 intro pins σ H1 H' s1 s2 x C T I1 os bare un nx nT ⟨hx0,hT0,hok⟩ ee hw;have hfs:s2.heap.FunFrames base (bAZ qual scope s0.heap.objs.size f cdv::outer):=jD un (λb hb=>⟨I1.stkFree b hb,hb⟩) I1.stack;show bAQ _ _ (bBY (bAZ qual scope s0.heap.objs.size f cdv) (.ref x)) (λ_ s''=>dL cb' P w outer H0 s0 Ew (.ref x) s'') _ s2;exact aJ6 (s:=s2) I1.ok.frames hfs rfl ee λh' T' kg nT' ee'=>aB5 I1 os bare un nx nT hx0 hT0 hok kg nT' (n8 hle ee') (hW C hw)
end
section
variable {P:bAR} {w:bAU} {K:W.Frag} {mg:Str->Option Value} {base:Heap}
variable {N:List Str} {qual:Str} {scope:bA9} {f:bAO} {cdv:Value} {A:Around} {outer:List Env} {s0:Shared} {H0:Hp} {Ew:XK} {C:bAO} {n:Str} {e:Expr} {es:List Expr} {np cpos pos:Pos}
theorem aFD {t:TA} (hx:fP K C none=true) (hg:Gl (dE (dL cb P w) P w K mg base N qual scope f cdv A outer s0 H0 Ew) n) (hm:mg n=some (.ref C)) (ha:PA (dE (dL cb P w) P w K mg base N qual scope f cdv A outer s0 H0 Ew) (e::es) t) (hdb:(n==("__debug__":Str))=false)
  (he:bA0 (e::es) (bAZ qual scope s0.heap.objs.size f cdv)=(false,bA2 e (bAZ qual scope s0.heap.objs.size f cdv))::bA0 es (bAZ qual scope s0.heap.objs.size f cdv)) (hpl:(bBA cpos (bA0 es (bAZ qual scope s0.heap.objs.size f cdv))).any (·.1)=false) :
  PS (dE (dL cb P w) P w K mg base N qual scope f cdv A outer s0 H0 Ew) (.Raise (some (.Call (.Name n np) (e::es) [] cpos)) none pos) (λD σ H=>t σ H λvs _=>vs.length<=1000/\Ew (.ref C) none H0):=by
 intro pins s σ H D I h;obtain ⟨nm,q,Nn,bs,tl,hdct,sn,sub,ab,col,dd,k0,k1,k2,k3,k5,mN,hC,hN,hi,Tl⟩:=aC4 I.ok.mod.kin hx;refine wpAny_Raise_call_subT (nm:=nm) (q:=q) (N:=Nn) (bs:=bs) (hdct:=hdct) (sn:=sn) (sub:=sub) (ab:=ab) (col:=col) (dd:=dd) (k0:=k0) (k1:=k1) (k2:=k2) (k3:=k3) (k5:=k5) (mN:=mN) (bmB:=aIT) PySem.F.excBase_ValueError (Tl.hasType (by decide)) (I.ok.hd rfl) (by show (bBA cpos (bA0 (e::es) (bAZ qual scope s0.heap.objs.size f cdv))).any (·.1)=false;rw [he];show (false||(bBA cpos (bA0 es (bAZ qual scope s0.heap.objs.size f cdv))).any (·.1))=false;rw [hpl];rfl) hi (fG I hg hm ⟨rfl,?_⟩ hdb);have hA:=ha cpos pins s σ H _ I h
 change bAQ _ _ (spliced (bBA cpos (bA0 (e::es) (bAZ qual scope s0.heap.objs.size f cdv)))) _ _ _ at hA
 change bAQ _ _ (evalArgs _ _ (bBA cpos (bA0 (e::es) (bAZ qual scope s0.heap.objs.size f cdv))) _) _ _ _
 rw [he] at hA ⊢;refine Calls.evalArgs_plain (b9 hA λus s2 ⟨vs,H1,I1,r,hl,hw⟩=>⟨rfl,?_,I1.bk _ _ hC,hN.keeps I1.bk,Tl.keeps I1.bk,λh' x hmk=>?_⟩)
 ·show us.length<=_;have:=r.length;rw [bBR];omega
 obtain ⟨tt,hex,_,_⟩:=hmk.there;refine aBH (cb:=cb) (s:={ s2 with heap:=h' }) (h0:=s2.heap) I1.ok.frames I1.stack rfl hmk.keeps hmk.new hex rfl rfl rfl rfl (λ_=>rfl) λh'' T kf nT ee=>?_;have b0:=I1.base;have fre:∀b,s2.heap.get? b=none->s0.heap.get? b=none:=λb e=>by
  cases q:s0.heap.get? b with
  | none=>rfl
  | some o=>
   obtain ⟨o',e'⟩:=b0.there b o q (by intro z;cases z);rw [e] at e';cases e'
 have nfr:∀b o,s0.heap.get? b=some o->b∉cS outer->b∉cS (bAZ qual scope s0.heap.objs.size f cdv::outer):=λb o e nf m=>by
  rcases aH1.mp (I1.stkSub b m) with z | z
  ·exact absurd (aG4 e) (by rw [z];exact Nat.lt_irrefl _)
  ·exact nf z
 have mfr:∀b,b∈cS outer->b∈cS (bAZ qual scope s0.heap.objs.size f cdv::outer):=λb m=>by
  unfold cS at m ⊢;rw [aVZ]
  split
  ·exact m
  ·exact aJF _ m
 have nx:∀b o,s2.heap.get? b=some o->b≠x:=λb o e z=>by rw [z,hmk.new] at e;cases e
 refine ⟨x,C,T,H1,rfl,I1.os,I1.bare,⟨λb o e n nf _=>?_,λb o e n mf _=>?_,b0.free,λb o e _=>?_,b0.tups,b0.frzs,b0.tbls⟩,fre x hmk.new,fre T nT,⟨dD I1.hok hmk.new,dD I1.hok nT,jI I1.hok λb v hb q=>kf.keep b v q (λm=>hb (I1.stkFree b m)) (nx b v q)⟩,ee,hw⟩
 ·have q:=b0.keep b o e n nf (by intro z;cases z);exact kf.keep b o q (nfr b o e nf) (nx b o q)
 ·obtain ⟨sl,q⟩:=b0.slot b o e n mf (by intro z;cases z);obtain ⟨sl',q'⟩:=kf.slot b _ q (mfr b mf);exact ⟨sl',q'⟩
 ·obtain ⟨o',q⟩:=b0.there b o e (by intro z;cases z)
  by_cases m:b∈cS (bAZ qual scope s0.heap.objs.size f cdv::outer)
  ·obtain ⟨sl,q'⟩:=kf.slot b o' q m;exact ⟨_,q'⟩
  ·exact ⟨o',kf.keep b o' q m (nx b o' q)⟩
theorem lF {W:Prop} {m:Nat} {Fr:FA} (hW:W->Ew (.ref C) none H0) (hx:fP K C none=true) (hg:Gl (dE (dL cb P w) P w K mg base N qual scope f cdv A outer s0 H0 Ew) n) (hm:mg n=some (.ref C)) (ha:QA (dE (dL cb P w) P w K mg base N qual scope f cdv A outer s0 H0 Ew) (e::es) (cQ K m Fr)) (hz:m<=1000:=by decide) (hdb:(n==("__debug__":Str))=false:=by decide)
  (hs:bB (e::es)=true:=by rfl):QS (dE (dL cb P w) P w K mg base N qual scope f cdv A outer s0 H0 Ew) (.Raise (some (.Call (.Name n np) (e::es) [] cpos)) none pos) (dJ K (aJW Fr W)):=by
 have he:bR e=false/\bB es=true:=by simpa [bB] using hs
 refine QS.le ⟨aFD hx hg hm ha.h hdb (bX he.1) (cO he.2)⟩ λD σ H hl ⟨B,E,DT,re,hF,l⟩=>?_;exact ⟨B,σ,E,λ_ _=>W,⟨[],by simp⟩,re,hF,λrs E' vs H' S' q g re' rr hn=>⟨by rw [hn];exact hz,hW q⟩⟩
end
end L2
namespace L2
open PySem PySem.Spec PySem.W PySem.Calls PyProof.Rows
variable {cb cb':Bool}
section
variable {M M':Model} {A A':Around} {E1:Value->Shared->Prop} {s:Shared} {env:Env} {L x:bAO}
theorem aRX {C T:bAO} {what:String} {Qf:Flow->Shared->Prop} {Q:Unit->Shared->Prop} {E2:Value->Shared->Prop} (hf:env.frame=some L) (hE2:∀s4,bAQ M' A' (bBY env (.ref x)) Q E1 s4->E2 (.ref x) s4) (hE:sZ cb s.heap x C T)
  (k:∀h',(∀b o,b≠T->s.heap.get? b=some o->h'.get? b=some o)->(∀b o,s.heap.get? b=some o->∃o',h'.get? b=some o')->sZ cb h' x C T->Q () { s with heap:=h' }) :
  bAQ M A (PySem.passOn what (.ref x) env) Qf E2 s:=by
 obtain ⟨n0,oe,vs,oT,ts,hx,hc,hdc,hdt,h1,hT,hdT,h3,hcx⟩:=hE;have h3z:=(aTQ.mp h3).1;unfold PySem.passOn;refine bAP (bA1 hx hdt h1 ?_);rw [if_neg (show ¬((aSW T==aTX)=true) from by simp)];unfold bCE;refine bAP (bAP (bA1 hx hdt h1 ?_));rw [if_pos (show (aSW T != aTX)=true from by simp),hf];refine bBF hT hdT h3z (wpAny_throw (hE2 _ ?_));show bAQ M' A' (bBY env (.ref x)) Q E1 { s with heap:=s.heap.update T (aWA (·.setIfInBounds 3 (bA6 L))) };obtain ⟨hU,hhU⟩:∃hU,hU=s.heap.update T (aWA (·.setIfInBounds 3 (bA6 L))):=⟨_,rfl⟩;rw [<-hhU];have oth:∀b,b≠T->hU.get? b=s.heap.get? b:=λb nb=>by rw [hhU];exact aLK _ _ (Ne.symm nb)
 have hT':hU.get? T=some (oT.mapFields (·.setIfInBounds 3 (bA6 L))):=by rw [hhU];exact aQU _ hT (aVG (aRH hdT _))
 have hx':hU.get? x=some oe:=by rw [oth x (Ne.symm n0)];exact hx
 have hdT':(oT.mapFields (·.setIfInBounds 3 (bA6 L))).data = .fields (ts.setIfInBounds 3 (bA6 L)):=aRH hdT _;have h3':(ts.setIfInBounds 3 (bA6 L))[3]? = some (bA6 L):=by simp [h3z]
 unfold bBY bBK;simp only [hf];refine bAP (bAP (bA1 (s:={ s with heap:=hU }) hx' hdt h1 ?_));rw [if_pos (show (aSW T != aTX)=true from by simp)];refine bAP (bA1 (s:={ s with heap:=hU }) hT' hdT' h3' ?_);rw [if_pos (show ((bA6 L==bA6 L)=true) from by simp)];refine bAT ?_;refine bB1 (s:={ s with heap:=hU }) hx' hdt h1 hT' hdT' (by simp [h3z]) ?_;refine k _ (λb o nb e=>?_) (λb o e=>?_) ⟨n0,oe,vs,_,_,?_,hc,hdc,hdt,h1,aQU _ hT' (aVG (aRH hdT' _)),aRH hdT' _,by simp [h3z],hcx⟩
 ·rw [aLK _ _ (Ne.symm nb),oth b nb];exact e
 ·by_cases nb:b=T
  ·rw [nb];exact ⟨_,aQU _ hT' (aVG (aRH hdT' _))⟩
  ·exact ⟨o,by rw [aLK _ _ (Ne.symm nb),oth b nb];exact e⟩
 ·rw [aLK _ _ n0];exact hx'
theorem pO {C T:bAO} {Q:Unit->Shared->Prop} {E2:Value->Shared->Prop} {oe oT:Obj} {vs ts:Array Value} (hf:env.frame=some L) (hE2:∀s4,bAQ M' A' (bBY env (.ref x)) Q E1 s4->E2 (.ref x) s4) (n0:T≠x) (hx:s.heap.get? x=some oe) (hc:oe.cls = .ref C) (hdc:oe.dict=none) (hdt:oe.data = .fields vs) (h1:vs[1]? = some (.ref T)) (hcx:cb=true->vs[2]? = some .none) (hT:s.heap.get? T=some oT) (hdT:oT.data = .fields ts) (h3z:3<ts.size)
  (k:∀h',(∀b o,b≠T->s.heap.get? b=some o->h'.get? b=some o)->(∀b o,s.heap.get? b=some o->∃o',h'.get? b=some o')->sZ cb h' x C T->Q () { s with heap:=h' }) :
  cameBackBy M A env E2 (.ref x) s:=by
 unfold cameBackBy;refine bAP (bA1 hx hdt h1 ?_);rw [if_neg (show ¬((aSW T==aTX)=true) from by simp)];unfold bCE;refine bAP (bA1 hx hdt h1 ?_);rw [if_pos (show (aSW T != aTX)=true from by simp),hf];refine bBF hT hdT h3z (hE2 _ ?_);show bAQ M' A' (bBY env (.ref x)) Q E1 { s with heap:=s.heap.update T (aWA (·.setIfInBounds 3 (bA6 L))) };obtain ⟨hU,hhU⟩:∃hU,hU=s.heap.update T (aWA (·.setIfInBounds 3 (bA6 L))):=⟨_,rfl⟩;rw [<-hhU];have oth:∀b,b≠T->hU.get? b=s.heap.get? b:=λb nb=>by rw [hhU];exact aLK _ _ (Ne.symm nb)
 have hT':hU.get? T=some (oT.mapFields (·.setIfInBounds 3 (bA6 L))):=by rw [hhU];exact aQU _ hT (aVG (aRH hdT _))
 have hx':hU.get? x=some oe:=by rw [oth x (Ne.symm n0)];exact hx
 have hdT':(oT.mapFields (·.setIfInBounds 3 (bA6 L))).data = .fields (ts.setIfInBounds 3 (bA6 L)):=aRH hdT _;have h3':(ts.setIfInBounds 3 (bA6 L))[3]? = some (bA6 L):=by simp [h3z]
 unfold bBY bBK;simp only [hf];refine bAP (bAP (bA1 (s:={ s with heap:=hU }) hx' hdt h1 ?_));rw [if_pos (show (aSW T != aTX)=true from by simp)];refine bAP (bA1 (s:={ s with heap:=hU }) hT' hdT' h3' ?_);rw [if_pos (show ((bA6 L==bA6 L)=true) from by simp)];refine bAT ?_;refine bB1 (s:={ s with heap:=hU }) hx' hdt h1 hT' hdT' (by simp [h3z]) ?_;refine k _ (λb o nb e=>?_) (λb o e=>?_) ⟨n0,oe,vs,_,_,?_,hc,hdc,hdt,h1,aQU _ hT' (aVG (aRH hdT' _)),aRH hdT' _,by simp [h3z],hcx⟩
 ·rw [aLK _ _ (Ne.symm nb),oth b nb];exact e
 ·by_cases nb:b=T
  ·rw [nb];exact ⟨_,aQU _ hT' (aVG (aRH hdT' _))⟩
  ·exact ⟨o,by rw [aLK _ _ (Ne.symm nb),oth b nb];exact e⟩
 ·rw [aLK _ _ n0];exact hx'
end
section
variable {prog:bAR} {w:bAU} {A:Around} {E:Value->Shared->Prop} {s:Shared} {K:W.Frag} {oe:Obj} {x C D:bAO}
theorem aBK {Q:Bool->Shared->Prop} (X:K.In s.heap) (hx:s.heap.get? x=some oe) (hc:oe.cls = .ref C) (hk:kitCls K (.ref C) (.ref D)=some false) (hb:mroIn K D (.type "BaseException")=some true) (q:Q false s) :
  bAQ (bAV prog w) A (excMatches (.ref x) (.ref D)) Q E s:=by
 obtain ⟨L1,L2,L3⟩:=kit_cls (M:=bAV prog w) X hk;have L4:=looks_mroIn (M:=bAV prog w) X hb;have f:=tc_notTuple;obtain ⟨hh,g,d,tk,os⟩:=s;unfold excMatches isExcClass isInstance;refine bAP (bAP (L1.at ?_));rw [f];refine bAT ?_;simp only [aX5,if_false];refine bAP (bAT ?_);rw [aXW];refine bAP (bAP (bAP (bAP (L2.at ?_))));rw [if_pos rfl];refine L4.at ?_;rw [if_neg (by decide)];refine bAT ?_;show bAQ _ _ (forIn [] _ _) _ _ _;rw [aZO];refine bAT ?_;refine bAP (wpAny_typeOf_ref hx ?_);rw [hc,aXW];refine bAP (bAP (bAP (L3.at ?_)));rw [if_neg (by decide)];refine bAT ?_;show bAQ _ _ (forIn [] _ _) _ _ _;rw [aZO];exact bAT (bAT q)
end
section
variable {M:Model} {A:Around} {E:Value->Shared->Prop} {s:Shared} {base:Heap} {env:Env} {outer:List Env} {L x:bAO}
theorem rV {C T0:bAO} {Q:Unit->Shared->Prop} (hfr:A.frames=some (env::outer)) (hl:s.heap.FunFrames base (env::outer)) (hf:env.frame=some L) (hE:sZ cb s.heap x C T0)
  (k:∀h' T,Kg (cS (env::outer)) x T0 s.heap h'->s.heap.get? T=none->sZ cb h' x C T->Q () { s with heap:=h' }):bAQ M A (bBK (.ref x) env) (λ_ s1=>bAQ M A (bCE (.ref x) none) Q E s1) E s:=by
 obtain ⟨n0,oe,vs,oT,ts,hx,hc,hdc,hdt,h1,hT,hdT,h3,hcx⟩:=hE;have hsz:=(aTQ.mp h1).1;have h3z:=(aTQ.mp h3).1;have fx:T0∉cS (env::outer):=λhm=>by
  obtain ⟨_,o,ho,hnf⟩:=hl.mem hm;rw [hT] at ho;cases ho;exact hnf ts hdT
 unfold bBK;simp only [hf];refine bAP (bA1 hx hdt h1 ?_);rw [if_pos (show (aSW T0 != aTX)=true from by simp)];refine bAP (bA1 hT hdT h3 ?_);rw [if_neg (show ¬((aTX==bA6 L)=true) from by simp [bA6])];refine bAP (bBF hT hdT h3z ?_);obtain ⟨hU,hhU⟩:∃hU,hU=s.heap.update T0 (aWA (·.setIfInBounds 3 aTX)):=⟨_,rfl⟩;rw [<-hhU];have oth:∀b,b≠T0->hU.get? b=s.heap.get? b:=λb nb=>by rw [hhU];exact aLK _ _ (Ne.symm nb)
 have atT:∃o,hU.get? T0=some o:=⟨_,by rw [hhU];exact aQU _ hT (aVG (aRH hdT _))⟩;have hl2:hU.FunFrames base (env::outer):=hl.of_keeps λb o e hnf=>⟨o,by
  rw [oth b λz=>hnf ts (by rw [z,hT] at e;cases e;exact hdT)];exact e,rfl⟩
 refine jF (s:={ s with heap:=hU }) hfr hl2 hf (by show hU.get? x=_;rw [oth x (Ne.symm n0)];exact hx) hdt hsz λh' T oT' ts' kf sT nT fT ex eT dT h3'=>?_;have sT:hU.get? T=none:=sT;have kf:Kf (cS (env::outer)) x hU h':=kf;obtain ⟨o,us,e1,e2,e3,e4,e5,e6⟩:=oK ex hdt hsz;have nT0:T≠T0:=λz=>by
  obtain ⟨o,e⟩:=atT;rw [z,e] at sT;cases sT
 refine nV (s:={ s with heap:=h' }) (h0:=hU) kf sT nT fT e1 (by rw [e2,hc]) (by rw [e3,hdc]) e4 e5 (λz=>by rw [e6];exact hcx z) eT dT h3' λh'' kk ee=>k h'' T ⟨λb o e nf nx nt=>kk.keep b o (by rw [oth b nt];exact e) nf nx,λb o e mf=>kk.slot b o (by rw [oth b λz=>fx (by rw [<-z];exact mf)];exact e) mf,λb o e=>?_⟩ (by rw [<-oth T nT0];exact sT) ee;obtain ⟨_,ox,_,oT2,_,g1,_,_,_,_,g2,_⟩:=ee
 by_cases bx:b=x
 ·exact ⟨_,by rw [bx];exact g1⟩
 ·obtain ⟨ob,eb⟩:∃ob,hU.get? b=some ob:=by
   by_cases bt:b=T0
   ·rw [bt];exact atT
   ·exact ⟨o,by rw [oth b bt];exact e⟩
  by_cases mf:b∈cS (env::outer)
  ·obtain ⟨sl,q⟩:=kk.slot b ob eb mf;exact ⟨_,q⟩
  ·exact ⟨_,kk.keep b ob eb mf bx⟩
theorem aFU {C T0:bAO} {Q:Unit->Shared->Prop} (hfr:A.frames=some (env::outer)) (hl:s.heap.FunFrames base (env::outer)) (hf:env.frame=some L) (hE:sZ cb s.heap x C T0)
  (k:∀h' T o us oT' ts',Kg (cS (env::outer)) x T0 s.heap h'->s.heap.get? T=none->T≠x->h'.get? x=some o->o.cls = .ref C->o.dict=none->o.data = .fields us->us[1]? = some (.ref T)->(cb=true->us[2]? = some .none)->h'.get? T=some oT'->oT'.data = .fields ts'->3<ts'.size->Q () { s with heap:=h' }):bAQ M A (bBK (.ref x) env) Q E s:=by
 obtain ⟨n0,oe,vs,oT,ts,hx,hc,hdc,hdt,h1,hT,hdT,h3,hcx⟩:=hE;have hsz:=(aTQ.mp h1).1;have h3z:=(aTQ.mp h3).1;have fx:T0∉cS (env::outer):=λhm=>by
  obtain ⟨_,o,ho,hnf⟩:=hl.mem hm;rw [hT] at ho;cases ho;exact hnf ts hdT
 unfold bBK;simp only [hf];refine bAP (bA1 hx hdt h1 ?_);rw [if_pos (show (aSW T0 != aTX)=true from by simp)];refine bAP (bA1 hT hdT h3 ?_);rw [if_neg (show ¬((aTX==bA6 L)=true) from by simp [bA6])];refine bAP (bBF hT hdT h3z ?_);obtain ⟨hU,hhU⟩:∃hU,hU=s.heap.update T0 (aWA (·.setIfInBounds 3 aTX)):=⟨_,rfl⟩;rw [<-hhU];have oth:∀b,b≠T0->hU.get? b=s.heap.get? b:=λb nb=>by rw [hhU];exact aLK _ _ (Ne.symm nb)
 have atT:∃o,hU.get? T0=some o:=⟨_,by rw [hhU];exact aQU _ hT (aVG (aRH hdT _))⟩;have hl2:hU.FunFrames base (env::outer):=hl.of_keeps λb o e hnf=>⟨o,by
  rw [oth b λz=>hnf ts (by rw [z,hT] at e;cases e;exact hdT)];exact e,rfl⟩
 refine jF (s:={ s with heap:=hU }) hfr hl2 hf (by show hU.get? x=_;rw [oth x (Ne.symm n0)];exact hx) hdt hsz λh' T oT' ts' kf sT nT fT ex eT dT h3'=>?_;have sT:hU.get? T=none:=sT;have kf:Kf (cS (env::outer)) x hU h':=kf;obtain ⟨o,us,e1,e2,e3,e4,e5,e6⟩:=oK ex hdt hsz;have nT0:T≠T0:=λz=>by
  obtain ⟨o,e⟩:=atT;rw [z,e] at sT;cases sT
 refine k h' T o us oT' ts' ⟨λb o e nf nx nt=>kf.keep b o (by rw [oth b nt];exact e) nf nx,λb o e mf=>kf.slot b o (by rw [oth b λz=>fx (by rw [<-z];exact mf)];exact e) mf,λb o e=>?_⟩ (by rw [<-oth T nT0];exact sT) nT e1 (by rw [e2,hc]) (by rw [e3,hdc]) e4 e5 (λz=>by rw [e6];exact hcx z) eT dT h3'
 by_cases bx:b=x
 ·exact ⟨_,by rw [bx];exact e1⟩
 ·obtain ⟨ob,eb⟩:∃ob,hU.get? b=some ob:=by
   by_cases bt:b=T0
   ·rw [bt];exact atT
   ·exact ⟨o,by rw [oth b bt];exact e⟩
  by_cases mf:b∈cS (env::outer)
  ·obtain ⟨sl,q⟩:=kf.slot b ob eb mf;exact ⟨_,q⟩
  ·exact ⟨_,kf.keep b ob eb mf bx⟩
end
abbrev Cx.inT (X:Cx) (h0:ExceptHandler) (hs:List ExceptHandler) (Q:Flow->Shared->Prop):Cx:=
 { X with xe:=λe s1=>bAQ (bAV X.prog X.w) X.A (bBK e X.env) (λ_ s2=>bAQ (bAV X.prog X.w) X.A (bCE e none) (λ_ s3=>bAQ (bAV X.prog X.w) X.A (handleBy e X.env (h0::hs)) Q X.xe s3) X.xe s2) X.xe s1 }
theorem okT {X:Cx} {h0:ExceptHandler} {hs:List ExceptHandler} {Q:Flow->Shared->Prop} (k:X.Ok):(X.inT h0 hs Q).Ok:=⟨k.mod,k.kind,k.glob,k.blt,k.above,k.inj,k.has,k.cab,k.hd,k.frames,k.stk,k.exf,k.bs,k.bsz,k.noex,k.exfs,k.funs,k.frf⟩
theorem okT' {X:Cx} {h0:ExceptHandler} {hs:List ExceptHandler} {Q:Flow->Shared->Prop} (k:(X.inT h0 hs Q).Ok):X.Ok:=⟨k.mod,k.kind,k.glob,k.blt,k.above,k.inj,k.has,k.cab,k.hd,k.frames,k.stk,k.exf,k.bs,k.bsz,k.noex,k.exfs,k.funs,k.frf⟩
theorem aR.inT {X:Cx} {h0:ExceptHandler} {hs:List ExceptHandler} {Q:Flow->Shared->Prop} {pins:List (bAO×Obj)} {σ:St} {H:Hp} {s:Shared} (I:aR X pins σ H s):aR (X.inT h0 hs Q) pins σ H s:=
 ⟨okT I.ok,I.os,I.bare,I.base,I.loc,I.cell,I.free,I.freeC,I.pin,I.hok,I.len⟩
theorem aR.outT {X:Cx} {h0:ExceptHandler} {hs:List ExceptHandler} {Q:Flow->Shared->Prop} {pins:List (bAO×Obj)} {σ:St} {H:Hp} {s:Shared} (I:aR (X.inT h0 hs Q) pins σ H s):aR X pins σ H s:=
 ⟨okT' I.ok,I.os,I.bare,I.base,I.loc,I.cell,I.free,I.freeC,I.pin,I.hok,I.len⟩
theorem aNE {X:Cx} {K:W.Frag} {body:List bAY} {h0:ExceptHandler} {hs:List ExceptHandler} {pos:Pos} {F:FS} (hb:∀Q,QB (X.inT h0 hs Q) body (dJ K F)):QS X (.Try body (h0::hs) [] [] pos) (dJ K F):=by
 constructor
 intro pins s σ H DD I h;refine wpAny_Try_except (bA8 ((hb (SP X pins DD)).h pins s σ H DD I.inT h) (λf s1 q=>?_) λ_ _ z=>z);cases f with
 | next=>
  obtain ⟨σ',H',J,q⟩:=q;exact bBL ⟨σ',H',J.outT,q⟩
 | ret v=>
  obtain ⟨u,σ',H',J,r,q⟩:=q;exact ⟨u,σ',H',J.outT,r,q⟩
 | brk=>
  obtain ⟨σ',H',J,q⟩:=q;exact ⟨σ',H',J.outT,q⟩
 | cont=>
  obtain ⟨σ',H',J,q⟩:=q;exact ⟨σ',H',J.outT,q⟩
section
variable {P:bAR} {w:bAU} {K:W.Frag} {mg:Str->Option Value} {base:Heap} {N:List Str} {qual:Str} {scope:bA9} {f:bAO} {cdv:Value} {A:Around} {outer:List Env} {s0:Shared} {H0:Hp} {Ew:XK}
theorem vM {W:bAO->Prop} (hle:cb'=true->cb=true) {Q:Flow->Shared->Prop} {cn:Str} {kp hpos:Pos} {b0:bAY} {bs:List bAY} {D:bAO} (hW:∀C,W C->Ew (.ref C) none H0) (hgD:Gl (dE (dL cb' P w) P w K mg base N qual scope f cdv A outer s0 H0 Ew) cn) (hmD:mg cn=some (.ref D))
  (hno:∀C,W C->kitCls K (.ref C) (.ref D)=some false) (hbD:mroIn K D (.type "BaseException")=some true) (hmk:∀x,((A.deeper (bAZ qual scope s0.heap.objs.size f cdv)).mark (some (.ref x))).frames=(A.deeper (bAZ qual scope s0.heap.objs.size f cdv)).frames:=by intro _;rfl) (hdc:(cn==("__debug__":Str))=false:=by decide) :
  fW cb ((dE (dL cb' P w) P w K mg base N qual scope f cdv A outer s0 H0 Ew).inT (.ExceptHandler (some (.Name cn kp)) none (b0::bs) hpos) [] Q) W:=by
 intro pins σ H1 H' s1 s2 x C T I1' os bare un nx nT ⟨hx0,hT0,hok⟩ ee hw;have I1:=I1'.outT;have un:Un (cS (bAZ qual scope s0.heap.objs.size f cdv::outer)) [] H1 H' s1.heap s2.heap:=un;have hok:iO P w H' s2.heap:=hok;have hfs:s2.heap.FunFrames base (bAZ qual scope s0.heap.objs.size f cdv::outer):=jD un (λb hb=>⟨I1.stkFree b hb,hb⟩) I1.stack;refine rV (s:=s2) (outer:=outer) I1.ok.frames hfs rfl ee λh3 T3 kg nT3 ee3=>?_;have ne:∀b o,s1.heap.get? b=some o->b≠x/\b≠T:=λb o e=>⟨λz=>(by rw [z,nx] at e;cases e),λz=>(by rw [z,nT] at e;cases e)⟩;have nfr:∀b,b∈cS (bAZ qual scope s0.heap.objs.size f cdv::outer)->H' b=none:=λb m=>by
  obtain ⟨_,o,ho,_⟩:=I1.stack.mem m;exact un.free b o ho (I1.stkFree b m) (by simp)
 have hok3:iO P w H' h3:=jI hok λb v hb q=>kg.keep b v q (λm=>hb (nfr b m)) (λz=>hb (by rw [z];exact hx0)) λz=>hb (by rw [z];exact hT0);have un3:Un (cS (bAZ qual scope s0.heap.objs.size f cdv::outer)) [] H1 H' s1.heap h3:=by
  refine ⟨λb o e n nf _=>kg.keep b o (un.keep b o e n nf (by simp)) nf (ne b o e).1 (ne b o e).2,λb o e n mf _=>?_,un.free,λb o e _=>?_,un.tups,un.frzs,un.tbls⟩
  ·obtain ⟨sl,q⟩:=un.slot b o e n mf (by simp);obtain ⟨sl',q'⟩:=kg.slot b _ q mf;exact ⟨sl',q'⟩
  ·obtain ⟨o2,q2⟩:=un.there b o e (by simp);exact kg.there b o2 q2
 have I3:=I1.call' (s':={ s2 with heap:=h3 }) os un3 hok3 bare (λb z=>absurd z (by simp));have I3x:=I3.inX x ((hmk x).trans I1.ok.frames);refine bCI (bCF (fG (X:=(dE (dL cb' P w) P w K mg base N qual scope f cdv A outer s0 H0 Ew).inX x) I3x hgD hmD ?_ hdc)) (by intro q;cases q);obtain ⟨_,oe,_,_,_,g1x,g2x,_⟩:=id ee3;refine aBK (s:={ s2 with heap:=h3 }) I3x.kIn g1x g2x (hno C hw) hbD ?_;refine wpAny_handleBy_nil (aRX (s:={ s2 with heap:=h3 }) rfl (λs4 z=>z) ee3 λh5 k5 t5 ee5=>?_);refine aB5 (s2:=s2) (h':=h5) I1 os bare un nx nT hx0 hT0 hok ⟨λb o e nf n1 n2=>k5 b o (λz=>?_) (kg.keep b o e nf n1 n2),λb o e mf=>?_,λb o e=>?_⟩ nT3 (n8 hle ee5) (hW C hw)
 ·rw [z,nT3] at e;cases e
 ·obtain ⟨sl,q⟩:=kg.slot b o e mf;exact ⟨sl,k5 b _ (λz=>by rw [z,nT3] at e;cases e) q⟩
 ·obtain ⟨o2,q2⟩:=kg.there b o e;exact t5 b o2 q2
end
abbrev Cx.inL (X:Cx):Cx:={ X with xe:=notedBy (bAV X.prog X.w) X.A X.env (cameBackBy (bAV X.prog X.w) X.A X.env X.xe) }
theorem okL {X:Cx} (k:X.Ok):X.inL.Ok:=⟨k.mod,k.kind,k.glob,k.blt,k.above,k.inj,k.has,k.cab,k.hd,k.frames,k.stk,k.exf,k.bs,k.bsz,k.noex,k.exfs,k.funs,k.frf⟩
theorem okL' {X:Cx} (k:X.inL.Ok):X.Ok:=⟨k.mod,k.kind,k.glob,k.blt,k.above,k.inj,k.has,k.cab,k.hd,k.frames,k.stk,k.exf,k.bs,k.bsz,k.noex,k.exfs,k.funs,k.frf⟩
theorem aR.inL {X:Cx} {pins:List (bAO×Obj)} {σ:St} {H:Hp} {s:Shared} (I:aR X pins σ H s):aR X.inL pins σ H s:=⟨okL I.ok,I.os,I.bare,I.base,I.loc,I.cell,I.free,I.freeC,I.pin,I.hok,I.len⟩
theorem aR.outL {X:Cx} {pins:List (bAO×Obj)} {σ:St} {H:Hp} {s:Shared} (I:aR X.inL pins σ H s):aR X pins σ H s:=⟨okL' I.ok,I.os,I.bare,I.base,I.loc,I.cell,I.free,I.freeC,I.pin,I.hok,I.len⟩
section
variable {X:Cx} {pos:Pos}
theorem aFM {c:Expr} {body:List bAY} {tc:TT} {tb:TS} (hc:PT X.inL c tc) (hb:PSs X.inL body tb):PS X (.While c body [] pos) (x8 tc tb):=by
 intro pins s σ H D I h;obtain ⟨W,⟨m0,w0⟩,turn⟩:=h;refine wpAny_While (codeAny_whileLoop (λn s'=>∃σ' H',aR X pins σ' H' s'/\W n σ' H') ?_ m0 ⟨σ,H,I,w0⟩);rintro n s1 ⟨σ1,H1,I1,w1⟩;refine b9 (hc pins s1 σ1 H1 _ I1.inL (turn n σ1 H1 w1)) λb s2 ⟨H2,I2,q2⟩=>?_;cases b with
 | true=>
  obtain ⟨N,hN,q2⟩:=q2;rw [if_pos rfl];refine b9 (hb pins s2 σ1 H2 _ I2 q2) λf s3 q3=>?_;cases f with
  | next=>
   obtain ⟨σ3,H3,I3,n3⟩:=q3;obtain ⟨m',hm,w3⟩:=hN σ3 H3 n3;exact ⟨m',hm,σ3,H3,I3.outL,w3⟩
  | cont=>
   obtain ⟨σ3,H3,I3,n3⟩:=q3;obtain ⟨m',hm,w3⟩:=hN σ3 H3 n3;exact ⟨m',hm,σ3,H3,I3.outL,w3⟩
  | brk=>
   obtain ⟨σ3,H3,I3,n3⟩:=q3;exact ⟨σ3,H3,I3.outL,n3⟩
  | ret v=>
   obtain ⟨u,σ3,H3,I3,r3,n3⟩:=q3;exact ⟨u,σ3,H3,I3.outL,r3,n3⟩
 | false=>
  rw [if_neg aXS];exact bBL ⟨σ1,H2,I2.outL,q2⟩
theorem aF4 {c:Expr} {body:List bAY} {tc:TT} {tbd:TS} (hc:QT X.inL c tc) (hb:QB X.inL body tbd):QS X (.While c body [] pos) (x8 tc tbd):=⟨aFM hc.h hb.h⟩
end
section
variable {X:Cx} {K:W.Frag} {pos:Pos} {c:Expr} {body:List bAY} {Fp:FB} {F:FS}
theorem aGY (hc:QT X.inL c (d9 K Fp)) (hb:QB X.inL body (dJ K F)):QS X (.While c body [] pos) (dJ K (aJQ Fp F)):=by
 refine (aF4 hc hb).le λD σ H hl ⟨B,E,DT,re,⟨W,⟨m0,w0⟩,hF⟩,l⟩=>?_;refine ⟨λm σ' H'=>∃E',W m E'/\Gs B H σ E H' σ' E'/\RE K B H' σ' E',⟨m0,E,w0,Kp.refl _ _,re⟩,?_⟩;rintro m σ1 H1 ⟨E1,w1,g1,re1⟩;refine xU (P:=λb E'=>if b=true then F { DT with nx:=λE2=>∃m',m'<m/\W m' E2,ct:=λE2=>∃m',m'<m/\W m' E2,bk:=DT.nx } E' else DT.nx E') re1 (hF m E1 w1) λb H2 E2 q g2 re2=>?_;cases b
 ·exact l.nx _ _ _ q (g1.trans g2) re2
 ·refine ⟨λσ' H'=>∃m',m'<m/\∃E',W m' E'/\Gs B H σ E H' σ' E'/\RE K B H' σ' E',λσ' H' z=>z,B,E2,_,re2,q,?_⟩;have l2:=l.step (g1.trans g2);exact ⟨λσ' H' E' ⟨m',hm,w⟩ g re'=>⟨m',hm,E',w,(g1.trans g2).trans g,re'⟩,l2.rt,λσ' H' E' z g re'=>l2.nx _ _ _ z g re',λσ' H' E' ⟨m',hm,w⟩ g re'=>⟨m',hm,E',w,(g1.trans g2).trans g,re'⟩⟩
end
section
variable {P:bAR} {w:bAU} {K:W.Frag} {mg:Str->Option Value} {base:Heap} {N:List Str} {qual:Str} {scope:bA9} {f:bAO} {cdv:Value} {A:Around} {outer:List Env} {s0:Shared} {H0:Hp} {Ew:XK}
theorem mB {W:bAO->Prop} (hle:cb'=true->cb=true) (hW:∀C,W C->Ew (.ref C) none H0):fW cb (dE (dL cb' P w) P w K mg base N qual scope f cdv A outer s0 H0 Ew).inL W:=by
 intro pins σ H1 H' s1 s2 x C T I1' os bare un nx nT ⟨hx0,hT0,hok⟩ ee hw;have I1:=I1'.outL;have un:Un (cS (bAZ qual scope s0.heap.objs.size f cdv::outer)) [] H1 H' s1.heap s2.heap:=un;have hok:iO P w H' s2.heap:=hok;have hfs:s2.heap.FunFrames base (bAZ qual scope s0.heap.objs.size f cdv::outer):=jD un (λb hb=>⟨I1.stkFree b hb,hb⟩) I1.stack;refine aFU (s:=s2) (outer:=outer) I1.ok.frames hfs rfl ee λh3 T3 o us oT ts kg nT3 n0 e1 e2 e3 e4 e5 ecx e6 e7 e8=>?_;refine pO (s:={ s2 with heap:=h3 }) rfl (λs4 z=>z) n0 e1 e2 e3 e4 e5 ecx e6 e7 e8 λh5 k5 t5 ee5=>?_;refine aB5 (s2:=s2) (h':=h5) I1 os bare un nx nT hx0 hT0 hok ⟨λb o e nf n1 n2=>k5 b o (λz=>?_) (kg.keep b o e nf n1 n2),λb o e mf=>?_,λb o e=>?_⟩ nT3 (n8 hle ee5) (hW C hw)
 ·rw [z,nT3] at e;cases e
 ·obtain ⟨sl,q⟩:=kg.slot b o e mf;exact ⟨sl,k5 b _ (λz=>by rw [z,nT3] at e;cases e) q⟩
 ·obtain ⟨o2,q2⟩:=kg.there b o e;exact t5 b o2 q2
end
section
variable {M:Model} {A:Around} {E:Value->Shared->Prop} {s:Shared} {base:Heap} {env:Env} {outer:List Env} {L x:bAO} {oe:Obj} {vs:Array Value}
theorem aEA {C:bAO} {h0:Heap} {Q:Unit->Shared->Prop} (hfr:A.frames=some (env::outer)) (hl:h0.FunFrames base (env::outer)) (hf:env.frame=some L) (k0:∀b o,h0.get? b=some o->s.heap.get? b=some o) (hn:h0.get? x=none) (hx:s.heap.get? x=some oe) (hc:oe.cls = .ref C) (hdc:oe.dict=none) (hdt:oe.data = .fields vs) (h1:vs[1]? = some .none) (hcx:cb=true->vs[2]? = some .none)
  (k:∀h' T o us oT' ts',Kf (cS (env::outer)) x h0 h'->h0.get? T=none->T≠x->h'.get? x=some o->o.cls = .ref C->o.dict=none->o.data = .fields us->us[1]? = some (.ref T)->(cb=true->us[2]? = some .none)->h'.get? T=some oT'->oT'.data = .fields ts'->3<ts'.size->Q () { s with heap:=h' }):bAQ M A (bBK (.ref x) env) Q E s:=by
 have hl1:s.heap.FunFrames base (env::outer):=hl.of_keeps λb o e _=>⟨o,k0 b o e,rfl⟩;have hsz:=(aTQ.mp h1).1;unfold bBK;simp only [hf];refine bAP (bA1 hx hdt h1 ?_);rw [if_neg (by decide)];refine jF hfr hl1 hf hx hdt hsz λh' T oT ts kf sT nT fT ex eT dT h3=>?_;obtain ⟨o,us,e1,e2,e3,e4,e5,e6⟩:=oK ex hdt hsz;have gT:h0.get? T=none:=by
  cases q:h0.get? T with
  | none=>rfl
  | some o'=>rw [k0 T o' q] at sT;cases sT
 have kf0:Kf (cS (env::outer)) x h0 h':=⟨λb o e nf nx=>kf.keep b o (k0 b o e) nf nx,λb o e mf=>kf.slot b o (k0 b o e) mf⟩;exact k h' T o us oT ts kf0 gT nT e1 (by rw [e2,hc]) (by rw [e3,hdc]) e4 e5 (λz=>by rw [e6];exact hcx z) eT dT h3
end
section
variable {P:bAR} {w:bAU} {K:W.Frag} {mg:Str->Option Value} {base:Heap}
variable {N:List Str} {qual:Str} {scope:bA9} {f:bAO} {cdv:Value} {A:Around} {outer:List Env} {s0:Shared} {H0:Hp} {Ew:XK} {C:bAO} {n:Str} {e:Expr} {es:List Expr} {np cpos pos:Pos}
theorem aFO {t:TA} (hx:fP K C none=true) (hg:Gl ((dE (dL cb' P w) P w K mg base N qual scope f cdv A outer s0 H0 Ew).inL) n) (hm:mg n=some (.ref C)) (ha:PA ((dE (dL cb' P w) P w K mg base N qual scope f cdv A outer s0 H0 Ew).inL) (e::es) t) (hdb:(n==("__debug__":Str))=false)
  (he:bA0 (e::es) (bAZ qual scope s0.heap.objs.size f cdv)=(false,bA2 e (bAZ qual scope s0.heap.objs.size f cdv))::bA0 es (bAZ qual scope s0.heap.objs.size f cdv)) (hpl:(bBA cpos (bA0 es (bAZ qual scope s0.heap.objs.size f cdv))).any (·.1)=false) :
  PS ((dE (dL cb' P w) P w K mg base N qual scope f cdv A outer s0 H0 Ew).inL) (.Raise (some (.Call (.Name n np) (e::es) [] cpos)) none pos) (λD σ H=>t σ H λvs _=>vs.length<=1000/\Ew (.ref C) none H0):=by
 intro pins s σ H D I h;obtain ⟨nm,q,Nn,bs,tl,hdct,sn,sub,ab,col,dd,k0,k1,k2,k3,k5,mN,hC,hN,hi,Tl⟩:=aC4 I.ok.mod.kin hx;refine wpAny_Raise_call_subT (nm:=nm) (q:=q) (N:=Nn) (bs:=bs) (hdct:=hdct) (sn:=sn) (sub:=sub) (ab:=ab) (col:=col) (dd:=dd) (k0:=k0) (k1:=k1) (k2:=k2) (k3:=k3) (k5:=k5) (mN:=mN) (bmB:=aIT) PySem.F.excBase_ValueError (Tl.hasType (by decide)) (I.ok.hd rfl) (by show (bBA cpos (bA0 (e::es) (bAZ qual scope s0.heap.objs.size f cdv))).any (·.1)=false;rw [he];show (false||(bBA cpos (bA0 es (bAZ qual scope s0.heap.objs.size f cdv))).any (·.1))=false;rw [hpl];rfl) hi (fG I hg hm ⟨rfl,?_⟩ hdb);have hA:=ha cpos pins s σ H _ I h
 change bAQ _ _ (spliced (bBA cpos (bA0 (e::es) (bAZ qual scope s0.heap.objs.size f cdv)))) _ _ _ at hA
 change bAQ _ _ (evalArgs _ _ (bBA cpos (bA0 (e::es) (bAZ qual scope s0.heap.objs.size f cdv))) _) _ _ _
 rw [he] at hA ⊢;refine Calls.evalArgs_plain (b9 hA λus s2 ⟨vs,H1,I1,r,hl,hw⟩=>⟨rfl,?_,I1.bk _ _ hC,hN.keeps I1.bk,Tl.keeps I1.bk,λh' x hmk=>?_⟩)
 ·show us.length<=_;have:=r.length;rw [bBR];omega
 obtain ⟨tt,hex,_,_⟩:=hmk.there;refine aEA (cb:=cb') (s:={ s2 with heap:=h' }) (h0:=s2.heap) (outer:=outer) I1.ok.frames I1.stack rfl hmk.keeps hmk.new hex rfl rfl rfl rfl (λ_=>rfl) λh3 T o us oT ts kf3 nT n0 e1 e2 e3 e4 e5 ecx e6 e7 e8=>?_;refine pO (s:={ s2 with heap:=h3 }) rfl (λs4 z=>z) n0 e1 e2 e3 e4 e5 ecx e6 e7 e8 λh5 k5 t5 ee=>?_;have kf:Kf (cS (bAZ qual scope s0.heap.objs.size f cdv::outer)) x s2.heap h5:=by
  refine ⟨λb o e nf n1=>k5 b o (λz=>by rw [z,nT] at e;cases e) (kf3.keep b o e nf n1),λb o e mf=>?_⟩;obtain ⟨sl,q⟩:=kf3.slot b o e mf;exact ⟨sl,k5 b _ (λz=>by rw [z,nT] at e;cases e) q⟩
 have b0:=I1.base;have fre:∀b,s2.heap.get? b=none->s0.heap.get? b=none:=λb e=>by
  cases q:s0.heap.get? b with
  | none=>rfl
  | some o=>
   obtain ⟨o',e'⟩:=b0.there b o q (by intro z;cases z);rw [e] at e';cases e'
 have nfr:∀b o,s0.heap.get? b=some o->b∉cS outer->b∉cS (bAZ qual scope s0.heap.objs.size f cdv::outer):=λb o e nf m=>by
  rcases aH1.mp (I1.stkSub b m) with z | z
  ·exact absurd (aG4 e) (by rw [z];exact Nat.lt_irrefl _)
  ·exact nf z
 have mfr:∀b,b∈cS outer->b∈cS (bAZ qual scope s0.heap.objs.size f cdv::outer):=λb m=>by
  unfold cS at m ⊢;rw [aVZ]
  split
  ·exact m
  ·exact aJF _ m
 have nx:∀b o,s2.heap.get? b=some o->b≠x:=λb o e z=>by rw [z,hmk.new] at e;cases e
 refine ⟨x,C,T,H1,rfl,I1.os,I1.bare,⟨λb o e n nf _=>?_,λb o e n mf _=>?_,b0.free,λb o e _=>?_,b0.tups,b0.frzs,b0.tbls⟩,fre x hmk.new,fre T nT,⟨dD I1.hok hmk.new,dD I1.hok nT,jI I1.hok λb v hb q=>kf.keep b v q (λm=>hb (I1.stkFree b m)) (nx b v q)⟩,ee,hw⟩
 ·have q:=b0.keep b o e n nf (by intro z;cases z);exact kf.keep b o q (nfr b o e nf) (nx b o q)
 ·obtain ⟨sl,q⟩:=b0.slot b o e n mf (by intro z;cases z);obtain ⟨sl',q'⟩:=kf.slot b _ q (mfr b mf);exact ⟨sl',q'⟩
 ·obtain ⟨o',q⟩:=b0.there b o e (by intro z;cases z)
  by_cases m:b∈cS (bAZ qual scope s0.heap.objs.size f cdv::outer)
  ·obtain ⟨sl,q'⟩:=kf.slot b o' q m;exact ⟨_,q'⟩
  ·exact ⟨o',kf.keep b o' q m (nx b o' q)⟩
theorem aGQ {W:Prop} {m:Nat} {Fr:FA} (hW:W->Ew (.ref C) none H0) (hx:fP K C none=true) (hg:Gl ((dE (dL cb' P w) P w K mg base N qual scope f cdv A outer s0 H0 Ew).inL) n) (hm:mg n=some (.ref C)) (ha:QA ((dE (dL cb' P w) P w K mg base N qual scope f cdv A outer s0 H0 Ew).inL) (e::es) (cQ K m Fr)) (hz:m<=1000:=by decide) (hdb:(n==("__debug__":Str))=false:=by decide)
  (hs:bB (e::es)=true:=by rfl):QS ((dE (dL cb' P w) P w K mg base N qual scope f cdv A outer s0 H0 Ew).inL) (.Raise (some (.Call (.Name n np) (e::es) [] cpos)) none pos) (dJ K (aJW Fr W)):=by
 have he:bR e=false/\bB es=true:=by simpa [bB] using hs
 refine QS.le ⟨aFO hx hg hm ha.h hdb (bX he.1) (cO he.2)⟩ λD σ H hl ⟨B,E,DT,re,hF,l⟩=>?_;exact ⟨B,σ,E,λ_ _=>W,⟨[],by simp⟩,re,hF,λrs E' vs H' S' q g re' rr hn=>⟨by rw [hn];exact hz,hW q⟩⟩
end
end L2
namespace L2
open PySem PySem.Spec PySem.W PySem.Calls PyProof.Rows PySem.SeqAt
abbrev FX:=En->(T->Prop)->(bAO->Prop)->Prop
structure QX (X:Cx) (K:W.Frag) (e:Expr) (F:FX):Prop where
 h:∀(pins:List (bAO×Obj)) (s:Shared) (σ:St) (H:Hp) (B:bAO->Prop) (E:En) (Q:T->Prop) (W:bAO->Prop),aR X pins σ H s->RE K B H σ E->F E Q W->
  bAQ (bAV X.prog X.w) X.A (bA2 e X.env)
   (λu s2=>∃v H2 t,aR X pins σ H2 s2/\bC v u/\noL t=true/\Q t/\Gs B H σ E H2 σ E/\RE K B H2 σ E/\Rp K H2 (Ow B σ E) t v)
   (λer s2=>∃x C T s1 H1,er = .ref x/\W C/\aR X pins σ H1 s1/\Gs B H σ E H1 σ E/\RE K B H1 σ E/\s2.os=s1.os/\bBT s2.gens/\Kf (cS (X.env::X.outer)) x s1.heap s2.heap/\s1.heap.get? x=none/\s1.heap.get? T=none/\sZ false s2.heap x C T) s
def aRE (S:SpG) (Fr:FA):FX:=λE Q W=>Fr E λrs E1=>E1=E/\o1 (aS6 E1 rs) λss=>S (ss.map T.str) (λt=>noL t=true/\Q t) W
theorem pG {K:W.Frag} {H:Hp} {O:bAO->Prop}:∀ss:List Str,bW K H O (ss.map T.str) (ss.map V.str)
 | []=>rfl
 | x::ss=>⟨_,_,rfl,rfl,pG ss⟩
section
variable {X:Cx} {K:W.Frag} {S:SpG} {fn:Str} {ps:List Str} {c a b e:Expr} {es:List Expr} {fp cp pos:Pos} {n k m:Nat} {Fr:FA} {Fp:FB} {F G:FX}
theorem aNR {cb:Bool} (hnx:∀e s,¬X.xe e s) (hst:X.stack=X.env::X.outer) (eK:X.K=K) (F:aHG cb X.prog X.w X.K X.mg X.base k fn ps (spG K S)) (hr:cU m X.A) (hk:k<=m) (hgf:Gl X fn) (ha:QA X (e::es) (cQ K n Fr)) (hdf:(fn==("__debug__":Str))=false:=by decide) (hs:bB (e::es)=true:=by rfl) :
  QX X K (.Call (.Name fn fp) (e::es) [] cp) (aRE S Fr):=by
 subst eK;constructor
 intro pins s σ H B E Q W I re hF;obtain ⟨f,fd,FO,hmf,hkp,hbd⟩:=F.ex;have he:bR e=false/\bB es=true:=by simpa [bB] using hs
 refine bBJ (fG I hgf hmf ?_ hdf);refine PySem.W.callWith_K (h₀:=X.base) I.ok.mod.kin hkp (bA8 (ha.h cp pins s σ H (λvs H1=>∃(ss:List Str),Gs B H σ E H1 σ E/\RE X.K B H1 σ E/\vs=ss.map V.str/\S (ss.map T.str) (λt=>noL t=true/\Q t) W) I ?_) (λus s1 ⟨vs,H1,I1,r,ss,g1,re1,ev,hS⟩=>⟨I1.kIn,?_⟩) λ_ _ z=>(hnx _ _ z).elim) (bX he.1) (cO he.2)
 ·refine ⟨B,σ,E,_,⟨[],by simp⟩,re,hF,λrs E1 vs H1 S1 q g re1 rr hn=>?_⟩;obtain ⟨rfl,q⟩:=q;obtain ⟨ss,e1,q⟩:=o1.ex q;obtain ⟨ts,e2,e3⟩:=aY7.mp e1;obtain ⟨τ,hτ⟩:=g.pre;have hl:S1.length=σ.length:=re1.len.trans re.len.symm;have hτ0:τ=[]:=by
   have:=congrArg aYA hτ;rw [aBN] at this;exact aVQ (by omega)
  subst hτ0;rw [aU7] at hτ;subst hτ;exact ⟨ss,g.kp,re1,aAG re1 rr e2 e3,q⟩
 subst ev;have env0:aE6 X.prog X.w X.K X.mg X.base X.A X.stack s1 (λ_=>none):=⟨I1.ok.frames,I1.ok.mod,λb o e=>⟨(I1.bs b o e).1,rfl⟩,aVD I1.ok.bsz I1.sz,I1.stack,λ_ _=>rfl,λ_ _ e=>by (cases e),I1.bare⟩;have hlen:(us++[]).length=ps.length:=by
  have h1:=r.length;rw [aU7,<-h1];exact FO.len (ss.map V.str) (λ_=>none) (λ_ _=>True) (λ_ _ _=>True) ⟨ss.map T.str,_,_,pG ss,hS,λ_ _ _ _ _ _=>trivial,λ_ _=>trivial⟩
 refine bCP (bCH (FO.run X.A X.stack s1 (λ_=>none) ⟨us,[]⟩ (us++[]) (ss.map V.str) (λv H'=>∃t,noL t=true/\Q t/\Rp X.K H' (fF H') t v) (λv _ _=>∃C,v = .ref C/\W C) (hr.mono hk) env0 (hbd s1 us I1.kIn hlen) (by rw [aU7];exact r) ⟨ss.map T.str,_,_,pG ss,hS,λt v H' q sm rp=>⟨t,q.1,q.2,rp⟩,λC q=>⟨C,rfl,q⟩⟩) λres s2 hq=>?_);cases res with
 | ok fl=>
  cases fl with
  | ret u=>
   obtain ⟨v,H',os,bare,un,hok,rv,t,nl,qn,rp⟩:=hq;obtain ⟨un2,hok2,j1,j2⟩:=aIE I1.hok un hok I1.stkFree;have I2:=I1.call' os un2 hok2 bare (λb z=>absurd z (by simp));have re3:=re1.kept j1;have rp3:Rp X.K (kH H1 H') (Ow B σ E) t v:=Rp.noL (λa z=>re3.ow z) nl (Rp.step (Kp.mk (λb o e _=>j2 b o e) (λb z=>.inl z)) rp);exact ⟨v,_,t,I2,rv,nl,qn,g1.trans (Kp.mk (λb o e _=>j1 b o e) (λb z=>.inl z)),re3,rp3⟩
  | next=>exact hq.elim
  | brk=>exact hq.elim
  | cont=>exact hq.elim
 | error er=>
  obtain ⟨x,C',T,H',rfl,os,bare,un,nx,nT,hh,ee,C,hC,hw⟩:=hq;cases hC;exact ⟨x,_,T,s1,H1,rfl,hw,I1,g1,re1,os,bare,⟨λb o e nf nb=>un.keep b o e rfl (by rw [hst];exact nf) (by simp),λb o e mf=>un.slot b o e rfl (by rw [hst];exact mf) (by simp)⟩,nx,nT,n8 (λz=>nomatch z) ee⟩
end
end L2
namespace L2
open PySem PySem.Spec PySem.W PySem.Calls PyProof.Rows
theorem tV:entryFor table "proto.unchain" = some Builtin.«proto.unchain»:=entryFor_of_tree (by kernel_rfl)
section
variable {prog:bAR} {w:bAU} {A:Around} {E:Value->Shared->Prop} {env:Env}
variable {nm q:Str} {C N y:bAO} {bs bm:List Value} {hdct:Bool} {sn:List Str} {sub:List Value} {ab:Bool} {col:Option Bool} {dd:Option bAO} {k0 k1 k2 k3 k5:Option Value} {newId:String}
theorem aGV {s:Shared} {e:Value} {oy:Obj} {ys:Array Value} {Q:Value->Shared->Prop} (hy:s.heap.get? y=some oy) (hd:oy.data = .fields ys) (h2:ys[2]? = some .none) (h:Q .none s) :
  bAQ (bAV prog w) A (runValue (.builtin "proto.unchain" ⟨[e,.ref y,.ref y,.bool false],[]⟩)) Q E s:=by
 refine wpAny_runValue (codeAny_builtin tV ?_);unfold Builtin.«proto.unchain»;refine bAP (bA1 hy hd h2 ?_);rw [if_pos (show (aTX==aTX)=true from by decide)];exact bAT h
theorem rY {s:Shared} {x c:Sem Value} {Q:Flow->Shared->Prop} (hbase:bm.contains (.type "BaseException")=true) (hh:A.handled=some (.ref y)) (hc:∀(s:Shared) (Q:Value->Shared->Prop),Q .none s->bAQ (bAV prog w) A c Q E s)
  (h:bAQ (bAV prog w) A x (λv s₁=>∃e t oy ys,v = .ref e/\s₁.heap.get? C=some (excClassObj nm q C N bs bm hdct sn sub ab col dd k0 k1 k2 k3 k5 newId)/\
   s₁.heap.get? e=some { cls:=.ref C,data:=.fields #[.ref t,.none,.none,.none,.bool false,.none] }/\e≠y/\e≠C/\s₁.heap.get? y=some oy/\oy.data = .fields ys/\ys[2]? = some .none/\
   ∀h' o' us,(∀b,b≠e->h'.get? b=s₁.heap.get? b)->h'.get? e=some o'->o'.cls = .ref C->o'.dict=none->o'.data = .fields us->us[1]? = some .none->E (.ref e) { s₁ with heap:=h' }) E s) :
  bAQ (bAV prog w) A (raiseStmt env (some x) (some c)) Q E s:=by
 have hcB:(aSW C::bm).contains (.type "BaseException")=true:=by rw [List.contains_cons,hbase,Bool.or_true]
 unfold raiseStmt;refine bAP (bA8 h (λv s₁ h₁=>?_) λ_ _ x=>x);obtain ⟨e,t,oy,ys,rfl,hC,he,ney,neC,hy,hdy,h2y,hE⟩:=h₁;obtain ⟨hp,g,d,tk,os⟩:=s₁;refine bAP (bBE (hc _ _ ?_))
 repeat (first | with_reducible refine wpAny_loadPart_at he ?_ | with_reducible refine wpAny_loadPart_at hC ?_ | (with_reducible refine wpAny_isSubtype_exc hC ?_;rw [hcB]) | wp_step)
 obtain ⟨h2,hh2⟩:∃h2,h2=(hp.update e (aWA λx=>x.setIfInBounds 3 aTX)).update e (aWA λx=>x.setIfInBounds 4 (aZU true)):=⟨_,rfl⟩;rw [<-hh2];have oth:∀b,b≠e->h2.get? b=hp.get? b:=λb nb=>by rw [hh2,aLK _ _ (Ne.symm nb),aLK _ _ (Ne.symm nb)]
 have he2:h2.get? e=some { cls:=.ref C,data:=.fields #[.ref t,.none,.none,.none,.bool true,.none] }:=by
  rw [hh2,aQU _ (aQU _ he (by rfl)) (by rfl)];rfl
 unfold raiseNew;refine bAP (wpAny_handled ?_);rw [hh];show bAQ _ _ (if (aSW y != aSW e)=true then _ else _) _ _ _;rw [if_pos (by simp;exact λz=>ney z.symm)];refine bAP (bBE (aGV (by show h2.get? y=some oy;rw [oth y (Ne.symm ney)];exact hy) hdy h2y ?_));refine bAP (bBF (a:=e) he2 rfl (by show 2<6;decide) (wpAny_throw ?_));refine hE (h2.update e (aWA (·.setIfInBounds 2 (.ref y)))) _ _ (λb nb=>?_) (aQU _ he2 (by rfl)) rfl rfl rfl rfl;rw [aLK _ _ (Ne.symm nb)];exact oth b nb
variable {bmB:List Value} {B initId:String}
theorem aCY {s:Shared} (F:ExcBaseFacts B newId initId bmB) {mN:Str->Option Value} {x:Str} {np cpos pos kp:Pos} {j:Nat} {args:List Expr} {Q:Flow->Shared->Prop}
  (hbase:bm.contains (.type "BaseException")=true) (hh:A.handled=some (.ref y)) (hplain:(bBA cpos (bA0 args env)).any (·.1)=false) (hni:mN "__init__" = none)
  (h:bAQ (bAV prog w) A (bA2 (.Name x np) env) (λf s₁=>f = .ref C/\bAQ (bAV prog w) A (evalArgs (.ref C) true (bBA cpos (bA0 args env)) [])
   (λa s₂=>a.kw=[]/\a.pos.length<=bAW/\s₂.heap.get? C=some (excClassObj nm q C N bs bm hdct sn sub ab col dd k0 k1 k2 k3 k5 newId)/\s₂.heap.Ns N mN/\OwnTail s₂.heap bmB bm/\
    ∀h1 e t,Heap.MadeExcOf s₂.heap h1 e (.ref C) a.pos->h1.get? e=some { cls:=.ref C,data:=.fields #[.ref t,.none,.none,.none,.bool false,.none] }->∃oy ys,e≠y/\e≠C/\h1.get? y=some oy/\oy.data = .fields ys/\ys[2]? = some .none/\
    ∀h' o' us,(∀b,b≠e->h'.get? b=h1.get? b)->h'.get? e=some o'->o'.cls = .ref C->o'.dict=none->o'.data = .fields us->us[1]? = some .none->E (.ref e) { s₂ with heap:=h' }) E s₁) E s) :
  bAQ (bAV prog w) A (exec (.Raise (some (.Call (.Name x np) args [] cpos)) (some (.Constant .none j kp)) pos) env) Q E s:=by
 rw [arm_exec_Raise];simp only [evalOpt,Option.map];refine bAP (bBO (rY (C:=C) (nm:=nm) (q:=q) (N:=N) (bs:=bs) (bm:=bm) (hdct:=hdct) (sn:=sn) (sub:=sub) (ab:=ab) (col:=col) (dd:=dd) (k0:=k0) (k1:=k1) (k2:=k2) (k3:=k3) (k5:=k5) (newId:=newId) hbase hh (λs' Q' hq=>?_) ?_))
 ·refine bAP ?_;exact Constant_none (bAP (bBO (bAT hq)))
 refine bAP (bA8 (wpAny_Call_ofName (bA8 h (λf s₁ h₁=>?_) λ_ _ x=>x)) (λv s₃ h₃=>bAP (bBO (bAT h₃))) λ_ _ x=>x);obtain ⟨rfl,h₁⟩:=h₁;unfold callWith;refine bAP (bBE (bA8 h₁ (λa s₂ h₂=>bAP (bBO ?_)) λ_ _ x=>x));obtain ⟨apos,akw⟩:=a;obtain ⟨hkw,hlen,hC,hn,T,h₂⟩:=h₂;obtain rfl:akw=[]:=hkw;obtain ⟨hp,g,d,tk,os⟩:=s₂;simp only [hplain];refine bAP (wpAny_keeperOf_exc hC ?_);refine bAP (wpAny_call_exc_subT (hrest:=hlen) F T hC hn hni λh' e hm=>bAP (bBE (wpAny_point (bAT ?_))));obtain ⟨t,ht,_,_⟩:=hm.there;obtain ⟨oy,ys,z1,z2,z3,z4,z5,z6⟩:=h₂ h' e t hm ht;exact ⟨e,t,oy,ys,rfl,hm.keeps _ _ hC,ht,z1,z2,z3,z4,z5,z6⟩
end
section
variable {cb cb':Bool} {P:bAR} {w:bAU} {K:W.Frag} {mg:Str->Option Value} {base:Heap} {N:List Str} {qual:Str} {scope:bA9} {f:bAO} {cdv:Value} {A:Around} {outer:List Env} {s0:Shared} {H0:Hp} {Ew:XK}
theorem aNJ {pins:List (bAO×Obj)} {σ:St} {H1:Hp} {s2:Shared} {x C T:bAO} {h5:Heap} (I1:aR (dE (dL cb P w) P w K mg base N qual scope f cdv A outer s0 H0 Ew) pins σ H1 s2) (new:s2.heap.get? x=none) (nT:s2.heap.get? T=none)
  (kf:Kf (cS (bAZ qual scope s0.heap.objs.size f cdv::outer)) x s2.heap h5) (ee:sZ cb h5 x C T) (hw:Ew (.ref C) none H0):dL cb P w outer H0 s0 Ew (.ref x) { s2 with heap:=h5 }:=by
 have b0:=I1.base;have fre:∀b,s2.heap.get? b=none->s0.heap.get? b=none:=λb e=>by
  cases q:s0.heap.get? b with
  | none=>rfl
  | some o=>
   obtain ⟨o',e'⟩:=b0.there b o q (by intro z;cases z);rw [e] at e';cases e'
 have nfr:∀b o,s0.heap.get? b=some o->b∉cS outer->b∉cS (bAZ qual scope s0.heap.objs.size f cdv::outer):=λb o e nf m=>by
  rcases aH1.mp (I1.stkSub b m) with z | z
  ·exact absurd (aG4 e) (by rw [z];exact Nat.lt_irrefl _)
  ·exact nf z
 have mfr:∀b,b∈cS outer->b∈cS (bAZ qual scope s0.heap.objs.size f cdv::outer):=λb m=>by
  unfold cS at m ⊢;rw [aVZ]
  split
  ·exact m
  ·exact aJF _ m
 have nx:∀b o,s2.heap.get? b=some o->b≠x:=λb o e z=>by rw [z,new] at e;cases e
 refine ⟨x,C,T,H1,rfl,I1.os,I1.bare,⟨λb o e n nf _=>?_,λb o e n mf _=>?_,b0.free,λb o e _=>?_,b0.tups,b0.frzs,b0.tbls⟩,fre x new,fre T nT,⟨dD I1.hok new,dD I1.hok nT,jI I1.hok λb v hb q=>kf.keep b v q (λm=>hb (I1.stkFree b m)) (nx b v q)⟩,ee,hw⟩
 ·have q:=b0.keep b o e n nf (by intro z;cases z);exact kf.keep b o q (nfr b o e nf) (nx b o q)
 ·obtain ⟨sl,q⟩:=b0.slot b o e n mf (by intro z;cases z);obtain ⟨sl',q'⟩:=kf.slot b _ q (mfr b mf);exact ⟨sl',q'⟩
 ·obtain ⟨o',q⟩:=b0.there b o e (by intro z;cases z)
  by_cases m:b∈cS (bAZ qual scope s0.heap.objs.size f cdv::outer)
  ·obtain ⟨sl,q'⟩:=kf.slot b o' q m;exact ⟨_,q'⟩
  ·exact ⟨o',kf.keep b o' q m (nx b o' q)⟩
theorem aAO {X:Cx} {W1 W2:bAO->Prop} (a:fW cb X W1) (b:fW cb X W2):fW cb X (λC=>W1 C\/W2 C):=λpins σ H1 H' s1 s2 x C T I os ba un nx nT hh ee hw=>hw.elim (a pins σ H1 H' s1 s2 x C T I os ba un nx nT hh ee) (b pins σ H1 H' s1 s2 x C T I os ba un nx nT hh ee)
theorem tJ {W:bAO->Prop} {Q:Flow->Shared->Prop} {cn n z:Str} {kp hpos np cpos pos k2 sp:Pos} {j j2:Nat} {D CP:bAO} (hW:∀C,W C->Ew (.ref CP) none H0) (hgD:Gl (dE (dL false P w) P w K mg base N qual scope f cdv A outer s0 H0 Ew) cn) (hmD:mg cn=some (.ref D))
  (hk:∀C,W C->kitCls K (.ref C) (.ref D)=some true) (hbD:mroIn K D (.type "BaseException")=some true) (hx:fP K CP none=true) (hg:Gl (dE (dL false P w) P w K mg base N qual scope f cdv A outer s0 H0 Ew) n) (hm:mg n=some (.ref CP))
  (hmk:∀x,((A.deeper (bAZ qual scope s0.heap.objs.size f cdv)).mark (some (.ref x))).frames=(A.deeper (bAZ qual scope s0.heap.objs.size f cdv)).frames:=by intro _;rfl) (hhd:∀x,((A.deeper (bAZ qual scope s0.heap.objs.size f cdv)).mark (some (.ref x))).handled=some (.ref x):=by intro _;rfl) (hdc:(cn==("__debug__":Str))=false:=by decide) (hdb:(n==("__debug__":Str))=false:=by decide) :
  fW true ((dE (dL false P w) P w K mg base N qual scope f cdv A outer s0 H0 Ew).inT (.ExceptHandler (some (.Name cn kp)) none [.Raise (some (.Call (.Name n np) [.Constant (.str z) j2 sp] [] cpos)) (some (.Constant .none j k2)) pos] hpos) [] Q) W:=by
 intro pins σ H1 H' s1 s2 x C T I1' os bare un nx nT ⟨hx0,hT0,hok⟩ ee hw;have I1:=I1'.outT;have un:Un (cS (bAZ qual scope s0.heap.objs.size f cdv::outer)) [] H1 H' s1.heap s2.heap:=un;have hok:iO P w H' s2.heap:=hok;have hfs:s2.heap.FunFrames base (bAZ qual scope s0.heap.objs.size f cdv::outer):=jD un (λb hb=>⟨I1.stkFree b hb,hb⟩) I1.stack;refine rV (s:=s2) (outer:=outer) I1.ok.frames hfs rfl ee λh3 T3 kg nT3 ee3=>?_;have ne:∀b o,s1.heap.get? b=some o->b≠x/\b≠T:=λb o e=>⟨λz=>(by rw [z,nx] at e;cases e),λz=>(by rw [z,nT] at e;cases e)⟩;have nfr:∀b,b∈cS (bAZ qual scope s0.heap.objs.size f cdv::outer)->H' b=none:=λb m=>by
  obtain ⟨_,o,ho,_⟩:=I1.stack.mem m;exact un.free b o ho (I1.stkFree b m) (by simp)
 have inv:∀h,Kg (cS (bAZ qual scope s0.heap.objs.size f cdv::outer)) x T s2.heap h->aR (dE (dL false P w) P w K mg base N qual scope f cdv A outer s0 H0 Ew) pins σ H' { s2 with heap:=h }:=λh kg=>by
  have hok3:iO P w H' h:=jI hok λb v hb q=>kg.keep b v q (λm=>hb (nfr b m)) (λz=>hb (by rw [z];exact hx0)) λz=>hb (by rw [z];exact hT0);have un3:Un (cS (bAZ qual scope s0.heap.objs.size f cdv::outer)) [] H1 H' s1.heap h:=by
   refine ⟨λb o e n nf _=>kg.keep b o (un.keep b o e n nf (by simp)) nf (ne b o e).1 (ne b o e).2,λb o e n mf _=>?_,un.free,λb o e _=>?_,un.tups,un.frzs,un.tbls⟩
   ·obtain ⟨sl,q⟩:=un.slot b o e n mf (by simp);obtain ⟨sl',q'⟩:=kg.slot b _ q mf;exact ⟨sl',q'⟩
   ·obtain ⟨o2,q2⟩:=un.there b o e (by simp);exact kg.there b o2 q2
  exact I1.call' (s':={ s2 with heap:=h }) os un3 hok3 bare (λb z=>absurd z (by simp))
 have I3x:=(inv h3 kg).inX x ((hmk x).trans I1.ok.frames);refine bCI (bCF (fG (X:=(dE (dL false P w) P w K mg base N qual scope f cdv A outer s0 H0 Ew).inX x) I3x hgD hmD ?_ hdc)) (by intro q;cases q);obtain ⟨n0,oe,vs,oT,ts,g1,g2,g3,g4,g5,g6,g7,g8,hcx⟩:=id ee3;refine sL (s:={ s2 with heap:=h3 }) I3x.kIn g1 g2 (hk C hw) hbD ?_;refine codeAny_handlers_suite (bB1 (s:={ s2 with heap:=h3 }) g1 g4 g5 g6 g7 (aTQ.mp g8).1 ?_);obtain ⟨h4,hh4⟩:∃h4,h4=h3.update T3 (aWA (·.setIfInBounds 3 .none)):=⟨_,rfl⟩;rw [<-hh4];have oth:∀b,b≠T3->h4.get? b=h3.get? b:=λb nb=>by rw [hh4];exact aLK _ _ (Ne.symm nb)
 have atT:∃o,h4.get? T3=some o:=⟨_,by rw [hh4];exact aQU _ g6 (aVG (aRH g7 _))⟩;have nb3:∀b o,s2.heap.get? b=some o->b≠T3:=λb o e z=>by rw [z,nT3] at e;cases e
 have kg4:Kg (cS (bAZ qual scope s0.heap.objs.size f cdv::outer)) x T s2.heap h4:=by
  refine ⟨λb o e nf n1 n2=>by rw [oth b (nb3 b o e)];exact kg.keep b o e nf n1 n2,λb o e mf=>?_,λb o e=>?_⟩
  ·obtain ⟨sl,q⟩:=kg.slot b o e mf;exact ⟨sl,by rw [oth b (nb3 b o e)];exact q⟩
  ·obtain ⟨o',q⟩:=kg.there b o e;exact ⟨o',by rw [oth b (nb3 b o e)];exact q⟩
 have I4:=inv h4 kg4;have I4x:=I4.inX x ((hmk x).trans I1.ok.frames);have x4:h4.get? x=some oe:=by rw [oth x (Ne.symm n0)];exact g1
 obtain ⟨nm,q,Nn,bs,tl,hdct,sn,sub,ab,col,dd,k0,k1,k2',k3,k5,mN,hC,hN,hi,Tl⟩:=aC4 I4.ok.mod.kin hx;refine bCB (aCY (y:=x) (C:=CP) (bm:=tl) (nm:=nm) (q:=q) (N:=Nn) (bs:=bs) (hdct:=hdct) (sn:=sn) (sub:=sub) (ab:=ab) (col:=col) (dd:=dd) (k0:=k0) (k1:=k1) (k2:=k2') (k3:=k3) (k5:=k5) (mN:=mN) (bmB:=aIT) PySem.F.excBase_ValueError (Tl.hasType (by decide)) (hhd x) rfl hi ?_);refine fG (X:=(dE (dL false P w) P w K mg base N qual scope f cdv A outer s0 H0 Ew).inX x) (s:={ s2 with heap:=h4 }) I4x hg hm ?_ hdb;refine ⟨rfl,?_⟩;refine Calls.evalArgs_plain (Calls.spliced_cons (Calls.Constant_str (pos:=sp) (k:=j2) (Calls.spliced_nil ?_)));have I5:aR (dE (dL false P w) P w K mg base N qual scope f cdv A outer s0 H0 Ew) pins σ H' { s2 with heap:=h4,toks:=s2.toks+1 }:=I4.tok _;refine ⟨rfl,by show 1<=bAW;decide,I5.bk _ _ hC,hN.keeps I5.bk,Tl.keeps I5.bk,λh1 e t hmk1 he1=>?_⟩;have ne4:h4.get? e=none:=hmk1.new;have nex:e≠x:=λz=>by rw [z,x4] at ne4;cases ne4
 have neC:e≠CP:=λz=>by
  have:=I5.bk _ _ hC;rw [z] at ne4;have this:h4.get? CP=some _:=this;rw [ne4] at this;cases this
 refine ⟨oe,vs,nex,neC,hmk1.keeps _ _ x4,g4,hcx rfl,λh' o' us oth' e1 e2 e3 e4 e5=>?_⟩;have k0:∀b o,h4.get? b=some o->h'.get? b=some o:=λb o q=>by
  rw [oth' b (λz=>by rw [z,ne4] at q;cases q)];exact hmk1.keeps _ _ q
 refine aEA (cb:=false) (s:={ s2 with heap:=h',toks:=s2.toks+1 }) (h0:=h4) (outer:=outer) ((hmk x).trans I1.ok.frames) I5.stack rfl k0 ne4 e1 e2 e3 e4 e5 (λz=>nomatch z) λh6 T6 o6 us6 oT6 ts6 kf6 nT6 n06 a1 a2 a3 a4 a5 acx a6 a7 a8=>?_;refine pO (cb:=false) (s:={ s2 with heap:=h6,toks:=s2.toks+1 }) rfl (λs4 z=>z) n06 a1 a2 a3 a4 a5 acx a6 a7 a8 λh7 k7 t7 ee7=>?_;have kf:Kf (cS (bAZ qual scope s0.heap.objs.size f cdv::outer)) e h4 h7:=by
  refine ⟨λb o q nf n1=>k7 b o (λz=>by rw [z,nT6] at q;cases q) (kf6.keep b o q nf n1),λb o q mf=>?_⟩;obtain ⟨sl,q'⟩:=kf6.slot b o q mf;exact ⟨sl,k7 b _ (λz=>by rw [z,nT6] at q;cases q) q'⟩
 exact aNJ (s2:={ s2 with heap:=h4,toks:=s2.toks+1 }) I5 ne4 nT6 kf ee7 (hW C hw)
end
end L2
namespace L2
open PySem PySem.Spec PySem.W PySem.Calls PyProof.Rows PySem.SeqAt
def aW3 (i j ie:Nat) (E:En):En:=((E.set j none).set i (some (.p .non))).set ie none
def aTJ (F:FX) (W0:bAO->Prop) (i j ie:Nat):FS:=λD E=>F E (λt=>D.nx (E.set i (some (.p t)))) λC=>W0 C/\D.nx (aW3 i j ie E)
section
variable {X:Cx} {K:W.Frag} {D:bAO} {y en cn:Str} {e:Expr} {b0:bAY} {bs:List bAY} {yp ap kp hpos pos:Pos} {i j ie:Nat} {F:FX} {W0:bAO->Prop} {th:bAO->TS}
theorem aMM (hnx:∀e s,¬X.xe e s) (hst:X.stack=X.env::X.outer) (hfr:X.env.frame=some X.env.locals) (hmk:∀x,(X.A.mark (some (.ref x))).frames=X.A.frames) (eK:X.K=K) (he:QX X K e F)
  (hN:X.N.Nodup) (hi:X.N[i]? = some y) (hy:yT X.env.scope y) (hfy:X.fn y=true\/X.env.scope.names.lookup y=some .local)
  (hie:X.N[ie]? = some en) (hen:X.env.kindOf en=some .local) (hgD:Gl X cn) (hmD:X.mg cn=some (.ref D)) (hkD:∀C,W0 C->kitCls X.K (.ref C) (.ref D)=some true) (hbD:mroIn X.K D (.type "BaseException")=some true) (n1:ie≠i) (n2:ie≠j)
  (hb:∀x,QB (X.inX x) (b0::bs) (th x)) (hth:∀x C (D:aA0) (σ:St) (H:Hp),W0 C->σ.length=X.N.length->H x=some (ExX C x)->σ[ie]? = some (some (.ref x))->(∀v H',(∀b o,H b=some o->H' b=some o)->D.nx ((σ.set j (some v)).set i (some .non)) H')->th x D σ H)
  (hsw:bBN e (some (.Name y yp)) ap.line X.env=pure false:=by rfl) (hdc:(cn==("__debug__":Str))=false:=by decide) :
  QS X (.Try [.Assign [.Name y yp] e ap] [.ExceptHandler (some (.Name cn kp)) (some en) (b0::bs) hpos] [] [] pos) (dJ K (aTJ F W0 i j ie)):=by
 subst eK;constructor
 intro pins s σ H DD I ⟨B,E,DT,re,hF,l⟩;refine wpAny_Try_except (bCB (wpAny_Assign_Name (bA8 (he.h pins s σ H B E _ _ I re hF) (λu s2 hq=>?_) λer s2 hq=>?_) hsw))
 ·obtain ⟨v,H2,t,I2,rv,nl,qn,g2,re2,rp2⟩:=hq;refine dY I2 hN hi hy rv (λs3 I3=>bBL (bBL ?_)) hfy;obtain ⟨re4,ow4⟩:=re2.setP (i:=i) rp2;exact ⟨_,_,I3,l.nx _ _ _ qn (g2.trans (Kp.less ow4)) re4⟩
 ·obtain ⟨x,C,T,s1,H1,rfl,hw,I1,g1,re1,os,bare,k0,nx,nT,ee⟩:=hq;obtain ⟨hz,qn⟩:=hw;have fun0:s1.heap.FunFrames X.base (X.env::X.outer):=by rw [<-hst];exact I1.stack
  refine aJN (by rw [I1.ok.frames,hst]) fun0 hfr k0 nx nT ee λh3 T3 k3 n3 e3=>?_;have nf:∀{b:bAO},s1.heap.get? b=none->b∉cS (X.env::X.outer):=λ{b} e hm=>by
   obtain ⟨_,o,ho,_⟩:=fun0.mem hm;rw [e] at ho;cases ho
  have hx1:H1 x=none:=dD I1.hok nx;have hin:∀h5,Kf (cS (X.env::X.outer)) x s1.heap h5->∀T5,sZ false h5 x C T5->aR X pins σ (upd H1 x (ExX C x)) { s2 with heap:=h5 }:=λh5 k5 T5 e5=>by
   have ne:∀b o,s1.heap.get? b=some o->b≠x:=λb o e z=>by rw [z,nx] at e;cases e
   refine I1.call' (ch:=[]) (s':={ s2 with heap:=h5 }) os ⟨λb o e n nfb _=>k5.keep b o e (by rw [<-hst];exact nfb) (ne b o e),λb o e n mf _=>k5.slot b o e (by rw [<-hst];exact mf),λb o e n _=>by rw [aS (ne b o e)];exact n,λb o e _=>?_,λb xs e=>by rw [aS (aQ e hx1)];exact e,λb o xs e=>by rw [aS (aQ e hx1)];exact e,λb qs e=>⟨#[],by rw [aS (aQ e hx1),e];simp⟩⟩ (λb o e=>?_) bare (λb z=>absurd z (by simp))
   ·by_cases mf:b∈cS (X.env::X.outer)
    ·obtain ⟨sl,q⟩:=k5.slot b o e mf;exact ⟨_,q⟩
    ·exact ⟨o,k5.keep b o e mf (ne b o e)⟩
   ·by_cases hb':b=x
    ·subst hb';rw [bY] at e;cases e;exact aQC e5
    ·rw [aS hb'] at e;refine (I1.hok b o e).stay (λc v hc q=>?_) (λc q=>by rw [aS (aQ q hx1)];exact q) λc xs q=>by rw [aS (aQ q hx1)];exact q
     refine k5.keep c v q (λmf=>?_) (ne c v q);have hc0:=I1.stkFree c (by rw [hst];exact mf);rcases hc with rfl | hc
     ·rw [hc0] at e;cases e
     ·rw [hc0] at hc;cases hc
  have hmk':∀x,(X.A.mark (some (.ref x))).frames=some X.stack:=λx=>by rw [hmk x];exact I1.ok.frames
  have I3:=(hin h3 k3 T3 e3).inX x (hmk' x);refine bCI (bCF (fG (X:=X.inX x) I3 hgD hmD ?_ hdc)) (by intro q;cases q);obtain ⟨_,oe,_,_,_,g1x,g2x,_⟩:=id e3;refine sL (s:={ s2 with heap:=h3 }) I3.kIn g1x g2x (hkD C hz) hbD ?_;refine codeAny_handlers_suite_as (aDP k3 n3 (nf n3) e3 λh4 k4 e4=>?_);have I4:=hin h4 k4 T3 e4;refine dY I4 hN hie (.inl hen) (v:=.ref x) rfl (λs5 I5=>?_) (.inr hen);have keepH:∀b o,H1 b=some o->upd H1 x (ExX C x) b=some o:=λb o e=>by rw [aS (aQ e hx1)];exact e
  refine bA8 ((hb x).h pins s5 _ _ { nx:=λσ' H'=>DD.nx (σ'.set ie none) H',rt:=λ_ _=>False } (I5.inX x (hmk' x)) (hth x C _ _ _ hz I5.len bY ?_ λa H5 k5=>?_)) (λfl s6 q6=>?_) λ_ _ z=>z.elim
  ·rw [aVH];rw [I4.len];exact (aA8.mp hie).1
  ·show DD.nx _ H5;have up:∀b o,H1 b=some o->H5 b=some o:=λb o e=>k5 b o (keepH b o e);have r3:=re1.kept up;obtain ⟨r4,o4⟩:=r3.setVN (i:=j) (v:=a);obtain ⟨r5,o5⟩:=r4.setP (i:=i) (t:=.non) (v:=.non) rfl;obtain ⟨r6,o6⟩:=r5.setNN (i:=ie);have eσ:(((σ.set ie (some (V.ref x))).set j (some a)).set i (some .non)).set ie none=((σ.set j (some a)).set i (some .non)).set ie none:=by
    rw [aX6 _ _ n2,aX6 _ _ n1,List.set_set]
   rw [eσ];refine l.nx _ _ _ qn ?_ r6;exact g1.trans ((Kp.mk (λb o e _=>up b o e) (λb z=>.inl z):Kp (Ow B σ E) (Ow B σ E) H1 H5).trans (Kp.less λb z=>o4 b (o5 b (o6 b z))))
  ·cases fl with
   | next=>
    obtain ⟨σ6,H6,I6,q6⟩:=q6;exact aFV (I6.outX I.ok) hN hie hen λs7 I7=>⟨_,_,I7,q6⟩
   | brk=>obtain ⟨_,_,_,z⟩:=q6;exact z.elim
   | cont=>obtain ⟨_,_,_,z⟩:=q6;exact z.elim
   | ret u=>obtain ⟨_,_,_,_,_,z⟩:=q6;exact z.elim
end
end L2
namespace My
open PySem L2 PyProof.Rows
def top (i:Nat):bAY:=PySem.Challenge.pw_sidecut_k49_texts_of_paths_spoilt_anywhe.main.body.getD i (.Pass ⟨0,0,0,0⟩)
section
variable {P:bAR} {w:bAU} {K:W.Frag} {mg:Str->Option Value} {base:Heap}
structure Bx (xs:List T) (n:Int):Prop where
 ex:∃A B c:Int,xs=[.int A,.int B,.int c]/\0<=A/\0<=B/\B<2147483647/\0<=c/\c<=n
theorem Bx.mono {xs:List T} {n m:Int} (b:Bx xs n) (h:n<=m):Bx xs m:=let ⟨A,B,c,h1,h2,h3,h4,h5,h6⟩:=b;⟨A,B,c,h1,h2,h3,h4,h5,by omega⟩
def tL:fR:=λas Q=>∃(xs:List T) (m n:Int),as=[.b xs,.v (.int m)]/\Bx xs n/\n<=1000000/\1<=m/\m<2^200/\∀r ys,0<=r->r<m->Bx ys (n+1)->Q (.v (.int r)) ys
abbrev aB9:bAY:=top 42
theorem xE:aP ["_law_box","_law_many","_law_once","_law_found"] ["_law_box","_law_many"] (aH aB9):=⟨rfl,rfl,rfl,by decide +kernel,rfl,by decide +kernel,by decide +kernel⟩
theorem aNT {f:bAO} {fd:bAS} (F:dA K "_law_take" "_law_take" aB9 f fd) (TX:Txt mg)    : bI P w K mg base dQ 1 f fd ["_law_box","_law_many"] (aK K tL):=by
 refine F.okT xE ?len (λcdv A outer s H E hr=>(aC (bP (dU mU (aI rfl (fv 0) aB (λ_ _=>rfl)) aB (aN _)) (aC (j8 (uL rfl TX.n_divmod (fc (aI rfl (fv 0) aB (λ_ _=>rfl)) (fc (fv 1) aA))) (jY (n:=2) rfl rfl (bT (aCM (fv 0) aB) (bT (bG (i:=3) xE.nd rfl (aIW rfl)) g9))))
 (aG (aM (fv 3)))) bH)
 (aC (j8 (aY bK (aI rfl (fv 0) aB (λ_ _=>rfl)) aB) (aCM (fv 0) aB))
 (aC (aV (i:=2) xE.nd rfl (aIW rfl) (aW gM (aW aJ7 (aY bK (aI rfl (fv 0) aB (λ_ _=>rfl)) (aW bO aB (aI rfl (fv 0) aB (λ_ _=>rfl)))) aB) aB))
 (aG (aM (aW gM (aW cJ (aW gM (aY bK (aW bO (fv 2) aB) (aW bO (aW bO (aI rfl (fv 0) aB (λ_ _=>rfl)) (aI rfl (fv 0) aB (λ_ _=>rfl))) aB)) aB) aB) (fv 1)))))))) ?rd
 case len=>rintro as Q ⟨xs,m,n,rfl,_⟩;rfl
 case rd=>
  rintro as Q ⟨xs,m,n,rfl,⟨A,B,c,rfl,hA,hB,hB2,hc,hcn⟩,hn,h1,h2,k⟩;show if decide (0<A)=true then _ else _
  by_cases hA0:0<A
  ·rw [decide_eq_true hA0,if_pos rfl];refine ⟨⟨by omega,h2⟩,⟨rfl,k _ _ (aZL _ (by omega)) (aYJ _ (by omega)) ⟨_,_,_,rfl,Int.ediv_nonneg hA (by omega),hB,hB2,hc,by omega⟩⟩⟩
  ·rw [decide_eq_false hA0,if_neg (by decide)];have p5:aN0 (B+39373*(c+1)) 5:=⟨by decide,by decide,by omega⟩;have o1:0<=(B+39373*(c+1))^(5:Int).toNat%2147483647:=aZL _ (by decide);have o2:(B+39373*(c+1))^(5:Int).toNat%2147483647<2147483647:=aYJ _ (by decide);have d64:sI (((B+39373*(c+1))^(5:Int).toNat%2147483647*48271+(c+1)*(c+1)*7919)%2147483629) 64:=⟨by decide,aG3 (show (64:Int).natAbs<2^7 by decide) (aVU (by decide) (by decide))⟩;refine ⟨aFB (by decide),p5,(by show (0:Int)<2147483647;decide),?_⟩;refine ⟨aA9 (by decide),aFB (by omega),aA9 (by decide),?_⟩;refine ⟨(by show (0:Int)<2147483629;decide),d64,(by show (0:Int)<m;omega),⟨rfl,?_⟩⟩;exact k _ _ (aZL _ (by omega)) (aYJ _ (by omega)) ⟨_,_,_,rfl,hA,hB,hB2,by omega,by omega⟩
def aX (ns:List Int):List T:=ns.map T.int
theorem aG7 {ns:List Int} {k:Int} (h0:0<=k) (h1:k<(ns.length:Int)):∃z,c8 (aX ns) k=some (.int z):=by
 have hk:k.toNat<ns.length:=by omega
 refine ⟨ns[k.toNat],?_⟩;have e3:k=((k.toNat:Nat):Int):=by omega
 have z:=cM (xs:=aX ns) (j:=k.toNat) (v:=T.int ns[k.toNat]) (by rw [aX,aEO,aCP hk];rfl);rw [<-e3] at z;exact z
def aCJ:fR:=λas Q=>∃(ns:List Int) (k:Int),as=[.v (.lst (aX ns)),.v (.int k)]/\0<=k/\k<=1000/\∀xs,Bx xs 0->cC xs=true->Q (.l xs) []
abbrev sU:bAY:=top 41
theorem oH:aP ["_law_script","_law_k","_law_cell"] ["_law_script","_law_k"] (aH sU):=⟨rfl,rfl,rfl,by decide +kernel,rfl,by decide +kernel,by decide +kernel⟩
theorem aE8 {f:bAO} {fd:bAS} (F:dA K "_law_box_of" "_law_box_of" sU f fd) (TX:Txt mg)    : bI P w K mg base dQ 1 f fd ["_law_script","_law_k"] (aK K aCJ):=by
 refine F.okT oH ?len (λcdv A outer s H E hr=>(aC (aV (i:=2) oH.nd rfl (aIW rfl) aB)
 (aC (bP (dU iU (fv 1) (cL rfl rfl TX.n_len (fc (fv 0) aA)) (aN _)) (aG (aV (i:=2) oH.nd rfl (aIW rfl) (aI rfl (fv 0) (fv 1) (λ_ _=>rfl)))) bH)
 (aG (aM (eU (fc (aW bO (lB rfl TX.n_abs (fc (fv 2) aA)) (qN rfl TX.n_int (fc (aOP aO5 (lB rfl TX.n_abs (fc (fv 2) aA)) (aW aJ7 aB aB) (aN _)) aA))) (fc (aW gM (aY bK (fv 2) (aW bO (aW bO aB (fv 1)) (fv 1))) aB) (fc aB aA))))))))) ?rd
 case len=>rintro as Q ⟨ns,k,rfl,_⟩;rfl
 case rd=>
  rintro as Q ⟨ns,k,rfl,h0,h1,q⟩;have p10:aN0 10 18:=⟨by decide,by decide,by decide⟩;have bx:∀z:Int,Bx [.int ((z.natAbs:Int)*(if decide ((10:Int)^(18:Int).toNat<=(z.natAbs:Int))=true then 1 else 0)),.int ((z+7919*k*k)%2147483647),.int 0] 0:=λz=>
   ⟨_,_,_,rfl,Int.mul_nonneg (by omega) (by split<;>decide),aZL _ (by decide),aYJ _ (by decide),by decide,by decide⟩
  have k2:(7919*k).natAbs<2^60:=by omega
  have one:∀z:Int,(if decide ((10:Int)^(18:Int).toNat<=(z.natAbs:Int))=true then (1:Int) else 0).natAbs<2^60:=λz=>by split<;>decide
  have pm:(λ(_ j:Int)=>0<j) 0 2147483647:=by show (0:Int)<2147483647;decide
  show if decide (k<((aX ns).length:Int))=true then _ else _
  by_cases hk:k<((aX ns).length:Int)
  ·rw [decide_eq_true hk,if_pos rfl];obtain ⟨z,hz⟩:=aG7 (ns:=ns) h0 (by simpa [aX] using hk);show o1 (c8 (aX ns) k) _;rw [hz];exact ⟨p10,aA9 (one z),aFB (by decide),aFB k2,pm,⟨rfl,q _ (bx z) rfl⟩⟩
  ·rw [decide_eq_false hk,if_neg (by decide)];exact ⟨p10,aA9 (one 0),aFB (by decide),aFB k2,pm,⟨rfl,q _ (bx 0) rfl⟩⟩
def sG:fR:=λas Q=>∃(n d:Int),as=[.v (.int n),.v (.int d)]/\d≠0/\d.natAbs<2^8000/\Q (.v (fr (low n d))) []
theorem pZ {i:Int} {n d:Int} (hd:d≠0) (hb:d.natAbs<2^8000):sI i ((aPV n.natAbs d.natAbs:Nat):Int):=by
 have h1:0<aPV n.natAbs d.natAbs:=aYE _ (by omega);have h2:aPV n.natAbs d.natAbs<=d.natAbs:=Nat.gcd_le_right _ (by omega);exact ⟨by omega,aWL (by omega) hb⟩
theorem aEX (i:Int) (n:Nat):i.fdiv (n:Int)=i/(n:Int):=aV9 _ (by omega)
def qQ:fR:=λas Q=>∃(n d:Int),as=[.v (.int n),.v (.int d)]/\Q (.v (.int ((aPV n.natAbs d.natAbs:Nat):Int))) []
abbrev fV:bAY:=top 7
theorem fE:aP ["one","other"] ["one","other"] (aH fV):=⟨rfl,rfl,rfl,by decide +kernel,rfl,by decide +kernel,by decide +kernel⟩
theorem m7 {f:bAO} {fd:bAS} (F:dA K "common_divisor" "common_divisor" fV f fd) (TX:Txt mg)    : bI P w K mg base dQ 1 f fd ["one","other"] (aK K qQ):=by
 refine F.okT fE ?len (λcdv A outer s H E hr=>(aC (eB (i:=0) (j:=1) rfl fE.nd rfl rfl (by decide) rfl rfl (fc (lB rfl TX.n_abs (fc (fv 0) aA)) (fc (lB rfl TX.n_abs (fc (fv 1) aA)) aA)) rfl)
 (aC (jK PassesOwn.never (iM rfl hr (fv 1) aB (aN _)) (aG (eB (i:=0) (j:=1) rfl fE.nd rfl rfl (by decide) rfl rfl (fc (fv 1) (fc (aW gM (fv 0) (fv 1)) aA)) rfl)))
 (aG (aM (fv 0)))))) ?rd
 case len=>rintro as Q ⟨n,d,rfl,_⟩;rfl
 case rd=>
  rintro as Q ⟨n,d,rfl,q⟩;refine ⟨λm E=>∃x y:Nat,E=[some (.p (.int x)),some (.p (.int y))]/\m=y/\aPV x y=aPV n.natAbs d.natAbs,⟨_,_,_,rfl,rfl,rfl⟩,?_⟩;rintro m E ⟨x,y,rfl,rfl,hg⟩;refine ⟨aB7 _,?_⟩;show if (!((m:Int)==0))=true then _ else _
  by_cases hy:m=0
  ·subst hy;rw [if_neg (by decide)];rw [Nat.gcd_zero_right] at hg;subst hg;exact ⟨rfl,q⟩
  ·rw [if_pos (by simpa using hy)];exact ⟨(by show (0:Int)<(m:Int);omega),x%m,aY0 _ (by omega),m,x%m,rfl,rfl,by rw [z8];exact hg⟩
abbrev mR:bAY:=top 9
theorem kW:aP ["n","d","divisor"] ["n","d"] (aH mR):=⟨rfl,rfl,rfl,by decide +kernel,rfl,by decide +kernel,by decide +kernel⟩
theorem z0 {f:bAO} {fd:bAS} (F:dA K "fraction" "fraction" mR f fd) (TX:Txt mg) (g_common_divisor:Fn P w K mg base 1 "common_divisor" ["one","other"] (aK K qQ))   : bI P w K mg base dQ 2 f fd ["n","d"] (aK K sG):=by
 refine F.okT kW ?len (λcdv A outer s H E hr=>(aC (aFX (iM rfl hr (fv 1) aB (aN _)))
 (aC (aV (i:=2) kW.nd rfl (aIW rfl) (aF g_common_divisor hr (by omega) rfl (fc (fv 0) (fc (fv 1) aA))))
 (aC (bP (dU iU (fv 1) aB (aN _)) (aG (aV (i:=2) kW.nd rfl (aIW rfl) (gF (fv 2)))) bH)
 (aG (aM (aT (fc (aW cJ (fv 0) (fv 2)) (fc (aW cJ (fv 1) (fv 2)) aA))))))))) ?rd
 case len=>rintro as Q ⟨n,d,rfl,_⟩;rfl
 case rd=>
  rintro as Q ⟨n,d,rfl,hd,hb,q⟩;have hd':(!(d==0))=true:=by simpa using hd
  refine ⟨aB7 _,hd',n,d,rfl,?_⟩;have dn:((aPV n.natAbs d.natAbs:Nat):Int)∣n:=aXJ.mpr (aYZ _ _);have dd:((aPV n.natAbs d.natAbs:Nat):Int)∣d:=aXJ.mpr (aYQ _ _);have g0:((aPV n.natAbs d.natAbs:Nat):Int)≠0:=(pZ (i:=0) (n:=n) hd hb).1;have gP:∀{g m:Int},g≠0->g∣m->m.fdiv (-g)=(-m)/g:=λ{g m} h0 hm=>by
   obtain ⟨k,rfl⟩:=hm;have e1:g*k=(-g)*(-k):=by grind
   have e2:-(g*k)=g*(-k):=by grind
   rw [e2,aWX _ h0,e1,aZ7 _ (by omega)]
  show if decide (d<0)=true then _ else _
  by_cases h:d<0
  ·rw [decide_eq_true h,if_pos rfl];have cz:∀i:Int,sI i (-((aPV n.natAbs d.natAbs:Nat):Int)):=λi=>⟨by omega,by rw [aYU];exact (pZ (i:=i) (n:=n) hd hb).2⟩;refine ⟨cz _,cz _,rfl,?_⟩;unfold low oX kN at q;rw [if_neg (by omega),if_neg (by omega),<-gP g0 dn,<-gP g0 dd] at q;exact q
  ·rw [decide_eq_false h,if_neg (by decide)];refine ⟨pZ hd hb,pZ hd hb,rfl,?_⟩;unfold low oX kN at q;rw [if_pos (by omega),if_pos (by omega),<-aEX,<-aEX] at q;exact q
end
end My
namespace My
open PySem L2 PyProof.Rows
section
variable {P:bAR} {w:bAU} {K:W.Frag} {mg:Str->Option Value} {base:Heap}
theorem pl {x e f:Nat} (h:x<2^e) (k:e<=f):x<2^f:=aG3 h (aVU (by decide) k)
def kG (op:Fr->Fr->Fr):fR:=λas Q=>∃x y:Fr,as=[.v (fr x),.v (fr y)]/\dS x/\dS y/\sz x+sz y<=7900/\Q (.v (fr (op x y))) []
abbrev xR:bAY:=top 10
theorem aJZ:aP ["one","other"] ["one","other"] (aH xR):=⟨rfl,rfl,rfl,by decide +kernel,rfl,by decide +kernel,by decide +kernel⟩
theorem aK2 {f:bAO} {fd:bAS} (F:dA K "added" "added" xR f fd) (TX:Txt mg) (g_fraction:Fn P w K mg base 2 "fraction" ["n","d"] (aK K sG))   : bI P w K mg base dQ 3 f fd ["one","other"] (aK K (kG jG)):=by
 refine F.okT aJZ ?len (λcdv A outer s H E hr=>(aG (aM (aF g_fraction hr (by omega) rfl (fc (aY bK (aW bO (aI rfl (fv 0) aB (λ_ _=>rfl)) (aI rfl (fv 1) aB (λ_ _=>rfl))) (aW bO (aI rfl (fv 1) aB (λ_ _=>rfl)) (aI rfl (fv 0) aB (λ_ _=>rfl)))) (fc (aW bO (aI rfl (fv 0) aB (λ_ _=>rfl)) (aI rfl (fv 1) aB (λ_ _=>rfl))) aA)))))) ?rd
 case len=>rintro as Q ⟨x,y,rfl,_⟩;rfl
 case rd=>
  rintro as Q ⟨x,y,rfl,hx,hy,hs,q⟩;have hd:(x.2*y.2).natAbs<2^8000:=wV (c7 (cE x) (cE y)) (by omega);exact ⟨kZ (e:=7900) (pl (iN x) (by omega)) (pl (cE y) (by omega)) (by decide),kZ (e:=7900) (pl (iN y) (by omega)) (pl (cE x) (by omega)) (by decide),kZ (e:=7900) (pl (cE x) (by omega)) (pl (cE y) (by omega)) (by decide),_,_,rfl,eI hx hy,hd,rfl,q⟩
abbrev wC:bAY:=top 11
theorem aI4:aP ["one","other"] ["one","other"] (aH wC):=⟨rfl,rfl,rfl,by decide +kernel,rfl,by decide +kernel,by decide +kernel⟩
theorem aJU {f:bAO} {fd:bAS} (F:dA K "taken" "taken" wC f fd) (TX:Txt mg) (g_fraction:Fn P w K mg base 2 "fraction" ["n","d"] (aK K sG))   : bI P w K mg base dQ 3 f fd ["one","other"] (aK K (kG hJ)):=by
 refine F.okT aI4 ?len (λcdv A outer s H E hr=>(aG (aM (aF g_fraction hr (by omega) rfl (fc (aY pL (aW bO (aI rfl (fv 0) aB (λ_ _=>rfl)) (aI rfl (fv 1) aB (λ_ _=>rfl))) (aW bO (aI rfl (fv 1) aB (λ_ _=>rfl)) (aI rfl (fv 0) aB (λ_ _=>rfl)))) (fc (aW bO (aI rfl (fv 0) aB (λ_ _=>rfl)) (aI rfl (fv 1) aB (λ_ _=>rfl))) aA)))))) ?rd
 case len=>rintro as Q ⟨x,y,rfl,_⟩;rfl
 case rd=>
  rintro as Q ⟨x,y,rfl,hx,hy,hs,q⟩;have hd:(x.2*y.2).natAbs<2^8000:=wV (c7 (cE x) (cE y)) (by omega);exact ⟨kZ (e:=7900) (pl (iN x) (by omega)) (pl (cE y) (by omega)) (by decide),kZ (e:=7900) (pl (iN y) (by omega)) (pl (cE x) (by omega)) (by decide),kZ (e:=7900) (pl (cE x) (by omega)) (pl (cE y) (by omega)) (by decide),_,_,rfl,eI hx hy,hd,rfl,q⟩
abbrev xV:bAY:=top 12
theorem aLD:aP ["one","other"] ["one","other"] (aH xV):=⟨rfl,rfl,rfl,by decide +kernel,rfl,by decide +kernel,by decide +kernel⟩
theorem aHA {f:bAO} {fd:bAS} (F:dA K "times" "times" xV f fd) (TX:Txt mg) (g_fraction:Fn P w K mg base 2 "fraction" ["n","d"] (aK K sG))   : bI P w K mg base dQ 3 f fd ["one","other"] (aK K (kG fS)):=by
 refine F.okT aLD ?len (λcdv A outer s H E hr=>(aG (aM (aF g_fraction hr (by omega) rfl (fc (aW bO (aI rfl (fv 0) aB (λ_ _=>rfl)) (aI rfl (fv 1) aB (λ_ _=>rfl))) (fc (aW bO (aI rfl (fv 0) aB (λ_ _=>rfl)) (aI rfl (fv 1) aB (λ_ _=>rfl))) aA)))))) ?rd
 case len=>rintro as Q ⟨x,y,rfl,_⟩;rfl
 case rd=>
  rintro as Q ⟨x,y,rfl,hx,hy,hs,q⟩;have hd:(x.2*y.2).natAbs<2^8000:=wV (c7 (cE x) (cE y)) (by omega);exact ⟨kZ (e:=7900) (pl (iN x) (by omega)) (pl (iN y) (by omega)) (by decide),kZ (e:=7900) (pl (cE x) (by omega)) (pl (cE y) (by omega)) (by decide),_,_,rfl,eI hx hy,hd,rfl,q⟩
def aB4 (x y x' y':Fr):Fr:=jG (fS x x') (fS y y')
structure Nv (a b:Fr) (e:Nat):Prop where
 x:dS a
 y:dS b
 sx:sz a<=e
 sy:sz b<=e
def tVV (op:Fr->Fr->Fr->Fr->Fr):fR:=λas Q=>∃(x y x' y':Fr) (e f:Nat),as=[.v (vc x y),.v (vc x' y')]/\Nv x y e/\Nv x' y' f/\e+f<=3900/\Q (.v (fr (op x y x' y'))) []
abbrev aJD:bAY:=top 17
theorem aST:aP ["one","other"] ["one","other"] (aH aJD):=⟨rfl,rfl,rfl,by decide +kernel,rfl,by decide +kernel,by decide +kernel⟩
theorem aQ6 {f:bAO} {fd:bAS} (F:dA K "dot" "dot" aJD f fd) (TX:Txt mg) (g_times:Fn P w K mg base 3 "times" ["one","other"] (aK K (kG fS))) (g_added:Fn P w K mg base 3 "added" ["one","other"] (aK K (kG jG)))   : bI P w K mg base dQ 4 f fd ["one","other"] (aK K (tVV aB4)):=by
 refine F.okT aST ?len (λcdv A outer s H E hr=>(aG (aM (aF g_added hr (by omega) rfl (fc (aF g_times hr (by omega) rfl (fc (aI rfl (fv 0) aB (λ_ _=>rfl)) (fc (aI rfl (fv 1) aB (λ_ _=>rfl)) aA))) (fc (aF g_times hr (by omega) rfl (fc (aI rfl (fv 0) aB (λ_ _=>rfl)) (fc (aI rfl (fv 1) aB (λ_ _=>rfl)) aA))) aA)))))) ?rd
 case len=>rintro as Q ⟨x,y,x',y',e,f,rfl,_⟩;rfl
 case rd=>
  rintro as Q ⟨x,y,x',y',e,f,rfl,h,k,he,q⟩;have:=h.sx;have:=h.sy;have:=k.sx;have:=k.sy;have n1:=eV h.x k.x;have n2:=eV h.y k.y;have s1:=oY h.x k.x;have s2:=oY h.y k.y;exact ⟨_,_,rfl,h.x,k.x,by omega,_,_,rfl,h.y,k.y,by omega,_,_,rfl,n1,n2,by omega,rfl,q⟩
def aHS:fR:=λas Q=>∃x y:Fr,as=[.v (vc x y)]/\Q (.v (vc (gP y) x)) []
theorem lV {a b:Nat} (h:Nat.ble a b=true):a<=b:=aYT h
theorem aNW {x y c s:Fr} {e f:Nat} (h:Nv x y e) (k:Nv c s f):val (aB4 x y c s)=val x*val c+val y*val s:=by
 unfold aB4;rw [jZ (eV h.x k.x) (eV h.y k.y),cV h.x k.x,cV h.y k.y]
theorem aNN {x y c s:Fr} {e f:Nat} (h:Nv x y e) (k:Nv c s f):dS (aB4 x y c s):=wX (eV h.x k.x) (eV h.y k.y)
theorem Nv.up {x y:Fr} {e f:Nat} (h:Nv x y e) (k:e<=f):Nv x y f:=⟨h.x,h.y,aVD h.sx k,aVD h.sy k⟩
theorem aEY (n:Int):val (n,1)=(n:Rat):=by
 show (n:Rat)/((1:Int):Rat)=n
 push_cast
 grind
structure UnE (x y:Fr) (e:Nat):Prop where
 nv:Nv x y e
 one:val x*val x+val y*val y=1
theorem UnE.left {x y:Fr} {e:Nat} (h:UnE x y e):UnE (gP y) x e:=⟨⟨aDJ h.nv.y,h.nv.x,by rw [aSE];exact h.nv.sy,h.nv.sx⟩,by rw [aDK h.nv.y,<-h.one];grind⟩
theorem aS0 {p:Fr} (h:dS p):val p*(p.2:Rat)=(p.1:Rat):=by have:=h.neR;unfold val;grind
theorem aUY {p:Fr} (h:dS p):(0:Rat)<(p.2:Rat):=by have:=h.d;exact_mod_cast (show (0:Int)<p.2 by omega)
theorem aC1 {p:Fr} (h:dS p):0<=val p↔0<=p.1:=by
 have e:=aS0 h;have d:=aUY h;constructor
 ·intro k;have:=Rat.mul_nonneg k (Rat.le_of_lt d);rw [e] at this
  exact_mod_cast this
 ·intro k;have k':(0:Rat)<=(p.1:Rat):=by exact_mod_cast k
  rcases Rat.le_total (a:=0) (b:=val p) with c | c
  ·exact c
  ·by_cases z:val p=0
   ·grind
   ·have:=Rat.mul_pos (a:=-val p) (b:=p.2) (by grind) d;grind
theorem yP {lo:Int} {n i:Nat} {t:L2.T} (h:(sJ lo n)[i]? = some t):i<n/\t = .int (lo+(i:Int)):=by
 unfold sJ at h;rw [aEO] at h;rcases aVS i n with c | c
 ·rw [List.getElem?_range c] at h;cases h;exact ⟨c,rfl⟩
 ·rw [aZD (by simpa using c)] at h;cases h
end
end My
namespace My
open PySem L2 PyProof.Rows
section
variable {P:bAR} {w:bAU} {K:W.Frag} {mg:Str->Option Value} {base:Heap}
theorem aMN (ns:List Int) (m:Nat):cK (aX ns) none (some (m:Int))=aX (ns.take m):=by
 unfold cK aX;rw [HT.sIx_none,HT.sIx_nat,aZP,Nat.sub_zero,aY3];rcases aXK m (ns.map T.int).length with h | h
 ·rw [aXO h]
 ·rw [aXR h,aT2 (aFI _),aT2 h]
theorem aHT {xs:List T} {lo hi:Option Int} {y:T} (h:y∈cK xs lo hi):y∈xs:=aXY (aXZ h)
theorem aHC (xs:List T) (m k:Nat):(cK xs (some (m:Int)) (some (k:Int))).length<=xs.length-m:=by
 unfold cK;rw [HT.sIx_nat,HT.sIx_nat,aNQ,aLJ];omega
theorem aN4 {xs:List T} {i:Nat} {x:T} (h:(xs.zipIdx.map λq=>T.tup [.int (q.2:Int),q.1])[i]? = some x):∃y,xs[i]? = some y/\x = .tup [.int (i:Int),y]:=by
 rw [aEO] at h;cases q:xs.zipIdx[i]? with
 | none=>rw [q] at h;cases h
 | some z=>
  rw [q] at h;cases h;obtain ⟨q1,q2⟩:=aA8.mp q;rw [List.getElem_zipIdx] at q2;subst q2;exact ⟨_,aCP (by simpa using q1),by simp⟩
def aFF:fR:=λas Q=>∃(x y p q:Fr) (e f:Nat),as=[.v (vc x y),.v (vc p q)]/\Nv x y e/\Nv p q f/\e+f<=7000/\Q (.v (vc (hJ x p) (hJ y q))) []
end
end My
namespace My
open PySem L2 PyProof.Rows
section
variable {P:bAR} {w:bAU} {K:W.Frag} {mg:Str->Option Value} {base:Heap}
inductive Pc where
 | side (x y:Fr) | arc (m n x y:Fr) (l:Bool)
def iR (l:Bool):Str:=if l then "left" else "right"
def pY:Pc->L2.T
 | .side x y=>.tup [.str "side",vc x y]
 | .arc m n x y l=>.tup [.str "arc",vc m n,vc x y,.str (iR l)]
def Pc.px:Pc->Fr
 | .side x _=>x
 | .arc _ _ x _ _=>x
def Pc.py:Pc->Fr
 | .side _ y=>y
 | .arc _ _ _ y _=>y
def mX (a b c d:Fr):Rat:=(val a-val c)*(val a-val c)+(val b-val d)*(val b-val d)
def sH (e:Nat) (a b:Fr):Pc->Prop
 | .side x y=>Nv x y e/\∃r:Rat,0<r/\mX x y a b=r*r
 | .arc m n x y _=>Nv m n e/\Nv x y e/\¬(x=a/\y=b)/\∃r:Rat,0<r/\mX a b m n=r*r/\mX x y m n=r*r
theorem UnE.neg {x y:Fr} {e:Nat} (h:UnE x y e):UnE (gP x) (gP y) e:=h.left.left
end
end My
namespace My
open PySem L2 PyProof.Rows
section
variable {P:bAR} {w:bAU} {K:W.Frag} {mg:Str->Option Value} {base:Heap}
def i6 (e:Nat):Fr->Fr->List Pc->Prop
 | _,_,[]=>True
 | a,b,p::ps=>sH e a b p/\i6 e p.px p.py ps
def uI:Fr->List Pc->Fr
 | a,[]=>a
 | _,p::ps=>uI p.px ps
def vO:Fr->List Pc->Fr
 | b,[]=>b
 | _,p::ps=>vO p.py ps
theorem rK {e:Nat}:∀{ps:List Pc} {a b:Fr} {p:Pc},i6 e a b ps->sH e (uI a ps) (vO b ps) p->i6 e a b (ps++[p])
 | [],_,_,_,_,h=>⟨h,trivial⟩
 | _::ps,_,_,_,h,k=>⟨h.1,rK (ps:=ps) h.2 k⟩
theorem rQ:∀(ps:List Pc) (a:Fr) (p:Pc),uI a (ps++[p])=p.px
 | [],_,_=>rfl
 | q::ps,_,p=>rQ ps q.px p
theorem sA:∀(ps:List Pc) (a:Fr) (p:Pc),vO a (ps++[p])=p.py
 | [],_,_=>rfl
 | q::ps,_,p=>sA ps q.py p
theorem sH.up {e f:Nat} {a b:Fr} (k:e<=f):∀{p:Pc},sH e a b p->sH f a b p
 | .side _ _,h=>⟨h.1.up k,h.2⟩
 | .arc _ _ _ _ _,h=>⟨h.1.up k,h.2.1.up k,h.2.2⟩
theorem sH.nv {e:Nat} {a b:Fr}:∀{p:Pc},sH e a b p->Nv p.px p.py e
 | .side _ _,h=>h.1
 | .arc _ _ _ _ _,h=>h.2.1
def lZ (a b:Fr) (ps:List Pc):L2.T:=.tup [vc a b,.tup (ps.map pY)]
theorem aQG:∀p:Pc,noL (pY p)=true
 | .side _ _=>rfl
 | .arc _ _ _ _ _=>rfl
theorem nA (a b:Fr) (ps:List Pc) (h:cC (ps.map pY)=true):noL (lZ a b ps)=true:=by
 show (true&&(cC (ps.map pY)&&true))=true;rw [h];rfl
theorem kL:∀ps:List Pc,cC (ps.map pY)=true
 | []=>rfl
 | p::ps=>by show (noL (pY p)&&cC (ps.map pY))=true;rw [aQG,kL ps];rfl
end
end My
namespace My
open PySem L2 PyProof.Rows
section
variable {P:bAR} {w:bAU} {K:W.Frag} {mg:Str->Option Value} {base:Heap}
def aFJ (n r:Nat):Prop:=r*r<=n/\n<(r+1)*(r+1)
theorem aFJ.uniq {n r s:Nat} (h:aFJ n r) (k:aFJ n s):r=s:=by
 rcases Nat.lt_trichotomy r s with z | z | z
 ·have:=bAJ (show r+1<=s from z) (show r+1<=s from z);have:=h.2;have:=k.1;omega
 ·exact z
 ·have:=bAJ (show s+1<=r from z) (show s+1<=r from z);have:=k.2;have:=h.1;omega
theorem aTC (x y:Nat):4*(x*y)<=(x+y)*(x+y):=by
 rcases aXK x y with h | h
 ·obtain ⟨k,rfl⟩:=bAA h;have:(x+(x+k))*(x+(x+k))=4*(x*(x+k))+k*k:=by grind
  omega
 ·obtain ⟨k,rfl⟩:=bAA h;have:(y+k+y)*(y+k+y)=4*((y+k)*y)+k*k:=by grind
  omega
theorem sO {g s:Nat} (h:0<g):s<((g+s/g)/2+1)*((g+s/g)/2+1):=by
 have h1:s<g*(s/g+1):=Nat.lt_mul_div_succ s h;have h2:=aTC g (s/g+1);generalize s/g=q at h1 h2 ⊢;have h3:g+(q+1)<=2*((g+q)/2+1):=by omega
 generalize (g+q)/2+1=b at h3 ⊢;have h4:=bAJ h3 h3;have h5:2*b*(2*b)=4*(b*b):=by grind
 omega
theorem aB6 {g s:Nat} (h:0<g) (k:¬(g+s/g)/2<g):g*g<=s:=by
 have:g<=s/g:=by omega
 exact (Nat.le_div_iff_mul_le h).mp this
theorem tE (a b:Nat):((a:Int)).fdiv (b:Int)=((a/b:Nat):Int):=by
 rw [aV9 _ (by omega)];rfl
theorem tK (g s:Nat):((g:Int)+((s:Int)).fdiv (g:Int)).fdiv 2=(((g+s/g)/2:Nat):Int):=by
 rw [tE,<-Int.natCast_add];exact tE _ 2
theorem zO {s:Nat} (h:s≠0):∃g:Nat,(1:Int)*2^((((Builtin.Int.intBits (s:Int):Nat):Int)+1).fdiv 2).toNat=(g:Int)/\0<g/\s<g*g/\(∀e:Nat,s<2^e->g<=2^e)/\(0<=(((Builtin.Int.intBits (s:Int):Nat):Int)+1).fdiv 2)/\∀e:Nat,s<2^e->(((Builtin.Int.intBits (s:Int):Nat):Int)+1).fdiv 2<=e:=by
 have hb:Builtin.Int.intBits (s:Int)=s.log2+1:=by
  unfold Builtin.Int.intBits;rw [if_neg (by simpa using h)];rfl
 rw [hb];have e1:((((s.log2+1:Nat):Int)+1)).fdiv 2=(((s.log2+1+1)/2:Nat):Int):=tE (s.log2+1+1) 2;rw [e1,aXM];have hl:=aZ3 (n:=s);refine ⟨2^((s.log2+1+1)/2),by rw [Int.one_mul];exact (Int.natCast_pow 2 _).symm,Nat.pow_pos (by decide),?_,λe he=>?_,by omega,λe he=>?_⟩
 ·rw [<-Nat.pow_add];exact aG3 hl (aVU (by decide) (by omega))
 ·have:=(aYL h).mpr he;exact aVU (by decide) (by omega)
 ·have:=(aYL h).mpr he;omega
theorem aFQ (a:Int):0<=a*a:=by
 have:=aYG (a:=a);omega
def aBU:fR:=λas Q=>∃n:Nat,as=[.v (.int (n:Int))]/\n<2^3000/\∀r:Nat,aFJ n r->Q (.v (.int (r:Int))) []
abbrev jS:bAY:=top 13
theorem dW:aP ["square","guess","better"] ["square"] (aH jS):=⟨rfl,rfl,rfl,by decide +kernel,rfl,by decide +kernel,by decide +kernel⟩
theorem uB {f:bAO} {fd:bAS} (F:dA K "whole_root" "whole_root" jS f fd) (TX:Txt mg)    : bI P w K mg base dQ 1 f fd ["square"] (aK K aBU):=by
 refine F.okT dW ?len (λcdv A outer s H E hr=>(aC (bP (dP rfl hr (fv 0) aB (aN _)) (aG (aM aB)) bH)
 (aC (aV (i:=1) dW.nd rfl (aIW rfl) (aW aQ0 aB (aW cJ (aY bK (aNA (fv 0)) aB) aB)))
 (aC (aV (i:=2) dW.nd rfl (aIW rfl) (aW cJ (aY bK (fv 1) (aW cJ (fv 0) (fv 1))) aB))
 (aC (jK PassesOwn.never (dU iU (fv 2) (fv 1) (aN _)) (aC (aV (i:=1) dW.nd rfl (aIW rfl) (fv 2))
 (aG (aV (i:=2) dW.nd rfl (aIW rfl) (aW cJ (aY bK (fv 1) (aW cJ (fv 0) (fv 1))) aB)))))
 (aG (aM (fv 1)))))))) ?rd
 case len=>rintro as Q ⟨n,rfl,_⟩;rfl
 case rd=>
  rintro as Q ⟨n,rfl,hb,q⟩;refine ⟨aB7 _,?_⟩;show if L2.dZ (.int (n:Int)) (.int 0)=true then _ else _
  by_cases hn:n=0
  ·subst hn;rw [if_pos (show L2.dZ (.int ((0:Nat):Int)) (.int 0)=true by decide)];exact ⟨rfl,q 0 ⟨by decide,by decide⟩⟩
  ·rw [if_neg (by simp [L2.dZ];omega)];obtain ⟨g0,eg,gp,gs,gb,c0,cb⟩:=zO hn;have big:∀g:Nat,g<=2^3000->((g:Int)).natAbs<2^8000:=λg h=>by
    rw [aSV];exact aWL h (Nat.pow_lt_pow_right (by decide) (by decide))
   have hc2:∀i:Int,sI i 2:=λi=>⟨by decide,wV (e:=2) (by decide) (by decide)⟩;refine ⟨hc2 _,⟨c0,Int.le_trans (cb 3000 hb) (by decide),by decide⟩,?_⟩;have eg':(λi j:Int=>i*2^j.toNat) 1 ((((Builtin.Int.intBits (n:Int):Nat):Int)+1).fdiv 2)=(g0:Int):=eg;rw [eg'];refine ⟨⟨by omega,big g0 (gb _ hb)⟩,hc2 _,?_⟩;rw [tK];refine ⟨λm E=>∃g:Nat,E=[some (.p (.int (n:Int))),some (.p (.int (g:Int))),some (.p (.int (((g+n/g)/2:Nat):Int)))]/\m=g/\0<g/\g<=2^3000/\n<(g+1)*(g+1),⟨_,g0,rfl,rfl,gp,gb _ hb,Nat.lt_trans gs (aZ1 (aXF _) (aXF _))⟩,?_⟩;rintro m E ⟨g,rfl,rfl,hg,hgb,hgn⟩;show if decide ((((m+n/m)/2:Nat):Int)<(m:Int))=true then _ else _
   by_cases hlt:(m+n/m)/2<m
   ·rw [decide_eq_true (by omega),if_pos rfl];have hp:0<(m+n/m)/2:=by
     rcases aXT ((m+n/m)/2) with z | z
     ·have:=sO (s:=n) hg;rw [z] at this;omega
     ·exact z
    refine ⟨⟨by omega,big _ (by omega)⟩,hc2 _,?_⟩;rw [tK];exact ⟨_,hlt,_,rfl,rfl,hp,by omega,sO hg⟩
   ·rw [decide_eq_false (by omega),if_neg (by decide)];exact ⟨rfl,q m ⟨aB6 hg hlt,hgn⟩⟩
theorem aQ9 (r:Rat):∃f:Fr,dS f/\val f=r:=by
 refine ⟨(r.num,(r.den:Int)),⟨by have:=r.den_pos;show (1:Int)<=(r.den:Int);omega,?_⟩,?_⟩
 ·show aPV r.num.natAbs ((r.den:Int)).natAbs=1;rw [aSV];exact r.reduced
 ·show (r.num:Rat)/((r.den:Int):Rat)=r;rw [<-Rat.divInt_eq_div];exact Rat.num_divInt_den r
theorem aMY {p f:Fr} (hp:dS p) (hf:dS f) (h:val p=val f*val f):f.1*f.1=p.1/\f.2*f.2=p.2:=by
 have n:dS (f.1*f.1,f.2*f.2):=by
  refine ⟨?_,?_⟩
  ·have h1:1*1<=f.2*f.2:=Int.mul_le_mul hf.d hf.d (by decide) (by have:=hf.d;omega);exact h1
  ·show aPV (f.1*f.1).natAbs (f.2*f.2).natAbs=1;rw [aYC,aYC,<-Nat.pow_two,<-Nat.pow_two];exact Nat.Coprime.pow 2 2 hf.g
 have e:(f.1*f.1,f.2*f.2)=p:=by
  refine m8 n hp ?_;rw [h];have:=hf.neR;show ((f.1*f.1:Int):Rat)/((f.2*f.2:Int):Rat)=_;unfold val
  push_cast
  grind
 rw [<-e];exact ⟨rfl,rfl⟩
theorem aPG {f:Int} {n:Nat} (h0:0<=f) (h:f*f=(n:Int)):aFJ n f.natAbs:=by
 have h1:f.natAbs*f.natAbs=n:=by
  have:=aYG (a:=f);omega
 exact ⟨by omega,by rw [<-h1];exact aZ1 (aXF _) (aXF _)⟩
def aBV:fR:=λas Q=>∃p:Fr,as=[.v (fr p)]/\dS p/\sz p<=2900/\(∀f,dS f->0<=val f->val p=val f*val f->Q (.v (fr f)) [])/\((∀r:Rat,val p≠r*r)->Q (.v .non) [])
theorem xW {p:Fr} (hp:dS p) {a b:Nat} (ha:(∀f:Int,0<=f->f*f=p.1->False)\/∀f:Int,0<=f->f*f=p.2->False):∀r:Rat,val p≠r*r:=λr e=>by
 obtain ⟨f,hf,hv⟩:=aQ9 r;rw [<-hv] at e;obtain ⟨h1,h2⟩:=aMY hp hf e;have ab:∀x y:Int,x*x=y->((x.natAbs:Nat):Int)*((x.natAbs:Nat):Int)=y:=λx y h=>by
  rw [<-h];exact aYG (a:=x)
 rcases ha with ha | ha
 ·exact ha f.1.natAbs (by omega) (ab _ _ h1)
 ·exact ha f.2.natAbs (by omega) (ab _ _ h2)
abbrev n9:bAY:=top 14
theorem kA:aP ["one","n","d","top","bottom"] ["one"] (aH n9):=⟨rfl,rfl,rfl,by decide +kernel,rfl,by decide +kernel,by decide +kernel⟩
theorem aC5 {f:bAO} {fd:bAS} (F:dA K "root_of" "root_of" n9 f fd) (TX:Txt mg) (g_whole_root:Fn P w K mg base 1 "whole_root" ["square"] (aK K aBU))   : bI P w K mg base dQ 2 f fd ["one"] (aK K aBV):=by
 refine F.okT kA ?len (λcdv A outer s H E hr=>(aC (j8 (fv 0) (jY (n:=2) rfl rfl (bT (bG (i:=1) kA.nd rfl (aIW rfl)) (bT (bG (i:=2) kA.nd rfl (aIW rfl)) g9))))
 (aC (bP (dU iU (fv 1) aB (aN _)) (aG (aM h9)) bH)
 (aC (eB (i:=3) (j:=4) rfl kA.nd rfl rfl (by decide) rfl rfl (fc (aF g_whole_root hr (by omega) rfl (fc (fv 1) aA)) (fc (aF g_whole_root hr (by omega) rfl (fc (fv 2) aA)) aA)) rfl)
 (aC (bP (gH (cF (iM rfl hr (aW bO (fv 3) (fv 3)) (fv 1) (aN _)) (cG (iM rfl hr (aW bO (fv 4) (fv 4)) (fv 2) (aN _))))) (aG (aM h9)) bH)
 (aG (aM (aT (fc (fv 3) (fc (fv 4) aA)))))))))) ?rd
 case len=>rintro as Q ⟨p,rfl,_⟩;rfl
 case rd=>
  rintro as Q ⟨p,rfl,hp,hs,q,w⟩;have pd:=hp.d;have e2:p.2=((p.2.natAbs:Nat):Int):=by omega
  have bb:∀x:Nat,x<2^sz p->x<2^3000:=λx h=>pl h (by omega);show if decide (p.1<0)=true then _ else _
  by_cases c:p.1<0
  ·rw [decide_eq_true c,if_pos rfl];exact ⟨rfl,w (xW hp (a:=0) (b:=0) (.inl λf _ h=>by have:=aFQ f;omega))⟩
  ·have e1:p.1=((p.1.natAbs:Nat):Int):=by omega
   rw [decide_eq_false c,if_neg (by decide)];refine ⟨p.1.natAbs,by rw [<-e1];rfl,bb _ (iN p),λr hr=>?_⟩;refine ⟨p.2.natAbs,by rw [<-e2];rfl,bb _ (cE p),λt ht=>?_⟩;have small:∀{n r:Nat},aFJ n r->n<2^sz p->((r:Int)).natAbs<2^3000:=λ{n r} h hn=>by
    rw [aSV];have h1:=h.1;have:r<=n\/r=0:=by
     rcases aXT r with z | z
     ·exact .inr z
     ·exact .inl (aVD (Nat.le_mul_of_pos_left _ z) h1)
    rcases this with h2 | h2
    ·exact aWL h2 (bb _ hn)
    ·rw [h2];exact Nat.pow_pos (by decide)
   have m1:∀{i:Int},i.natAbs<2^3000->zS i i:=λh=>kZ (e:=3000) h h (by decide);refine ⟨m1 (small hr (iN p)),aB7 _,?_⟩;show if (!L2.dZ (.int ((r:Int)*r)) (.int p.1))=true then _ else _;have eqi:∀x y:Int,L2.dZ (.int x) (.int y)=decide (x=y):=λx y=>by rw [aY4];simp [L2.dZ]
   by_cases c1:(r:Int)*r=p.1
   ·rw [eqi,decide_eq_true c1,if_neg (by decide)];refine ⟨m1 (small ht (cE p)),aB7 _,?_⟩;show if (!L2.dZ (.int ((t:Int)*t)) (.int p.2))=true then _ else _
    by_cases c2:(t:Int)*t=p.2
    ·rw [eqi,decide_eq_true c2,if_neg (by decide)];have t0:1<=(t:Int):=by
      rcases aXT t with z | z
      ·rw [z] at c2;simp at c2;omega
      ·omega
     have hn:dS ((r:Int),(t:Int)):=by
      refine ⟨t0,?_⟩;show aPV ((r:Int)).natAbs ((t:Int)).natAbs=1;rw [aSV,aSV];have hg:=hp.g;rw [<-c1,<-c2,aYC,aYC,aSV,aSV] at hg;exact Nat.Coprime.coprime_mul_right (Nat.Coprime.coprime_mul_right_right hg)
     refine ⟨rfl,q _ hn ((aC1 hn).2 (by show (0:Int)<=r;omega)) ?_⟩;have:=hn.neR;show (p.1:Rat)/(p.2:Rat)=((r:Int):Rat)/((t:Int):Rat)*(((r:Int):Rat)/((t:Int):Rat));rw [<-c1,<-c2]
     push_cast
     have t2:((t:Int):Rat)≠0:=by exact_mod_cast (show (t:Int)≠0 by omega)
     push_cast at t2
     grind
    ·rw [eqi,decide_eq_false c2,if_pos (by decide)];refine ⟨rfl,w (xW hp (a:=0) (b:=0) (.inr λf f0 h=>c2 ?_))⟩;have:=ht.uniq (aPG f0 (h.trans e2));rw [this,<-h];exact aYG (a:=f)
   ·rw [eqi,decide_eq_false c1,if_pos (by decide)];refine ⟨rfl,w (xW hp (a:=0) (b:=0) (.inl λf f0 h=>c1 ?_))⟩;have:=hr.uniq (aPG f0 (h.trans e1));rw [this,<-h];exact aYG (a:=f)
abbrev xI:bAY:=top 16
theorem aG8:aP ["one","other"] ["one","other"] (aH xI):=⟨rfl,rfl,rfl,by decide +kernel,rfl,by decide +kernel,by decide +kernel⟩
theorem aKS {f:bAO} {fd:bAS} (F:dA K "minus" "minus" xI f fd) (TX:Txt mg) (g_taken:Fn P w K mg base 3 "taken" ["one","other"] (aK K (kG hJ)))   : bI P w K mg base dQ 4 f fd ["one","other"] (aK K aFF):=by
 refine F.okT aG8 ?len (λcdv A outer s H E hr=>(aG (aM (aT (fc (aF g_taken hr (by omega) rfl (fc (aI rfl (fv 0) aB (λ_ _=>rfl)) (fc (aI rfl (fv 1) aB (λ_ _=>rfl)) aA))) (fc (aF g_taken hr (by omega) rfl (fc (aI rfl (fv 0) aB (λ_ _=>rfl)) (fc (aI rfl (fv 1) aB (λ_ _=>rfl)) aA))) aA)))))) ?rd
 case len=>rintro as Q ⟨x,y,p,q,e,f,rfl,_⟩;rfl
 case rd=>
  rintro as Q ⟨x,y,p,q,e,f,rfl,h,k,hs,z⟩;have:=h.sx;have:=h.sy;have:=k.sx;have:=k.sy;exact ⟨_,_,rfl,h.x,k.x,by omega,_,_,rfl,h.y,k.y,by omega,rfl,z⟩
theorem aRM {x y p q:Fr} {e f:Nat} (h:Nv x y e) (k:Nv p q f):sz (aB4 x y p q)<=2*(e+f)+1:=by
 have:=h.sx;have:=h.sy;have:=k.sx;have:=k.sy;have s1:=oY h.x k.x;have s2:=oY h.y k.y;have s6:=aBC (eV h.x k.x) (eV h.y k.y);show sz (jG (fS x p) (fS y q))<=_;omega
def aJI:fR:=λas Q=>∃x y:Fr,as=[.v (vc x y)]/\Nv x y 610/\(∀f,dS f->0<=val f->val x*val x+val y*val y=val f*val f->Q (.v (fr f)) [])/\((∀r:Rat,val x*val x+val y*val y≠r*r)->Q (.v .non) [])
abbrev kT:bAY:=top 18
theorem vU:aP ["vector"] ["vector"] (aH kT):=⟨rfl,rfl,rfl,by decide +kernel,rfl,by decide +kernel,by decide +kernel⟩
theorem xM {f:bAO} {fd:bAS} (F:dA K "length_of" "length_of" kT f fd) (TX:Txt mg) (g_root_of:Fn P w K mg base 2 "root_of" ["one"] (aK K aBV)) (g_dot:Fn P w K mg base 4 "dot" ["one","other"] (aK K (tVV aB4)))   : bI P w K mg base dQ 5 f fd ["vector"] (aK K aJI):=by
 refine F.okT vU ?len (λcdv A outer s H E hr=>(aG (aM (aF g_root_of hr (by omega) rfl (fc (aF g_dot hr (by omega) rfl (fc (fv 0) (fc (fv 0) aA))) aA))))) ?rd
 case len=>rintro as Q ⟨x,y,rfl,_⟩;rfl
 case rd=>
  rintro as Q ⟨x,y,rfl,h,q,w⟩;have s:=aRM h h;have v:=aNW h h;exact ⟨x,y,x,y,610,610,rfl,h,h,by decide,_,rfl,aNN h h,by omega,λf hf f0 e=>⟨rfl,q f hf f0 (v.symm.trans e)⟩,λe=>⟨rfl,w λr z=>e r (v.trans z)⟩⟩
end
end My
namespace My
open PySem L2 PyProof.Rows
section
variable {P:bAR} {w:bAU} {K:W.Frag} {mg:Str->Option Value} {base:Heap}
theorem yI:(1000000000000000000000000000000000000000000000000000000000000:Nat)=10^60:=by decide
theorem uY:∀l:List Str,sg (Txt.join ⟨#[]⟩ l)=(l.map sg).flatten:=λl=>by
 show sg (Builtin.Str.glued ⟨#[]⟩ l)=_;rw [StrLaws.glued_eq_join]
 induction l with
 | nil=>rfl
 | cons a r ih=>
  cases r with
  | nil=>simp [aYO,sg]
  | cons b r=>
   have:aYO ⟨#[]⟩ (a::b::r)=a++⟨#[]⟩++aYO ⟨#[]⟩ (b::r):=rfl;rw [this,aZ,aZ,ih];simp [sg]
theorem z9 {l:List Str} (h:(l.map sg).flatten.length<=big):JoinOk ⟨#[]⟩ l=true:=by
 have e:∀l:List Str,(l.map (·.length)).sum=(l.map sg).flatten.length:=λl=>by
  induction l with
  | nil=>rfl
  | cons a r ih=>rw [aQA,List.sum_cons,ih,aQA,aSX,aBN,aO]
 have z:(⟨#[]⟩:Str).length=0:=rfl;have tl:Builtin.Str.tooLong ((l.map (·.length)).sum+l.length*(⟨#[]⟩:Str).length)=false:=by
  unfold Builtin.Str.tooLong;rw [e,z,Nat.mul_zero,Nat.add_zero];exact decide_eq_false (by have:=iZ h;omega)
 unfold JoinOk;rw [StrLaws.joinTotal,tl];rfl
def tH:fR:=λas Q=>∃(n:Int),as=[.v (.int n)]/\(eQ n.natAbs).length<=5000/\∀x:Str,sg x=bM n->Q (.v (.str x)) []
abbrev jA:bAY:=top 30
theorem fH:aP ["number","rest","parts","part"] ["number"] (aH jA):=⟨rfl,rfl,rfl,by decide +kernel,rfl,by decide +kernel,by decide +kernel⟩
theorem rN {f:bAO} {fd:bAS} (F:dA K "number_text" "number_text" jA f fd) (TX:Txt mg)  (c_PART:mM mg "PART" 1000000000000000000000000000000000000000000000000000000000000) (c_PART_FIGURES:mM mg "PART_FIGURES" 60)  : bI P w K mg base dQ 1 f fd ["number"] (aK K tH):=by
 refine F.okT fH ?len (λcdv A outer s H E hr=>(aC (eB (i:=1) (j:=2) rfl fH.nd rfl rfl (by decide) rfl rfl (fc (lB rfl TX.n_abs (fc (fv 0) aA)) (fc (eU aA) aA)) rfl)
 (aC (jK PassesOwn.never (dU aO5 (fv 1) (m9 rfl c_PART) (aN _)) (aC (j8 (uL rfl TX.n_divmod (fc (fv 1) (fc (m9 rfl c_PART) aA))) (jY (n:=2) rfl rfl (bT (bG (i:=1) fH.nd rfl (aIW rfl)) (bT (bG (i:=3) fH.nd rfl (aIW rfl)) g9))))
 (aG (iW (eN rfl (fv 2) (fc (aHN (aD4 rfl TX.n_str (fc (fv 3) aA)) (fc (m9 rfl c_PART_FIGURES) aA)) aA))))))
 (aC (iW (eN rfl (fv 2) (fc (aD4 rfl TX.n_str (fc (fv 1) aA)) aA)))
 (aG (aM (aU (kE (dU iU (fv 0) aB (aN _)) aJ aJ) (xJ rfl aJ (fc (aDR rfl (fv 2) (a9 (gF aB))) aA))))))))) ?rd
 case len=>rintro as Q ⟨n,rfl,_⟩;rfl
 case rd=>
  rintro as Q ⟨n,rfl,hl,q⟩;refine ⟨λm E=>∃(ps:List Str) (v3:Option U),E=[some (.p (.int n)),some (.p (.int (m:Int))),some (.o false (aE ps)),v3]/\eQ n.natAbs=eQ m++(ps.reverse.map sg).flatten/\((ps.reverse.map sg).flatten).length=60*ps.length,⟨n.natAbs,[],none,rfl,by simp,rfl⟩,?_⟩;rintro m E ⟨ps,v3,rfl,hd,hz⟩;have hz2:60*ps.length<=5000:=by
   rw [<-hz];rw [hd,aBN] at hl;omega
  show if decide ((1000000000000000000000000000000000000000000000000000000000000:Int)<=(m:Int))=true then _ else _
  by_cases hm:1000000000000000000000000000000000000000000000000000000000000<=m
  ·rw [decide_eq_true (by omega),if_pos rfl];obtain ⟨k,hk⟩:∃k,k=m/1000000000000000000000000000000000000000000000000000000000000:=⟨_,rfl⟩;obtain ⟨r,hr'⟩:∃r,r=m%1000000000000000000000000000000000000000000000000000000000000:=⟨_,rfl⟩;have rl:r<10^60:=by rw [hr',<-yI];exact aY0 _ (by decide)
   have e1:(m:Int)/1000000000000000000000000000000000000000000000000000000000000=(k:Int):=by omega
   have e2:(m:Int)%1000000000000000000000000000000000000000000000000000000000000=(r:Int):=by omega
   have k0:0<k:=by omega
   refine ⟨⟨by decide,by decide⟩,?_⟩;rw [e1,e2];have lg:(r:Int).natAbs.log2<1920:=by
    rw [aSV]
    by_cases z:r=0
    ·rw [z];decide
    ·exact (aYL z).mpr (aG3 rl (by decide))
   refine ⟨lg,λy hy=>⟨⟨by decide,by decide⟩,λz hz'=>?_⟩⟩;have rd:NumText.AllDigits (sg y):=by rw [hy,wP];exact lH r
   have ey:y.length=(eQ r).length:=by rw [<-aO,hy,wP]
   have rlen:y.length<=60:=by rw [ey];exact lD (by decide) rl
   have zf:sg z=yH 60 r:=by
    have w:=aSY rd rlen;rw [aAY (by decide) rl,hz'];rw [ey,show sg y=eQ r by rw [hy,wP]] at w;exact w
   have pl60:(yH 60 r).length=60:=by
    rw [aAY (by decide) rl,aBN,aV2];have:=lD (k:=60) (by decide) rl;omega
   have es:aE (ps++[z])=aE ps++[T.str z]:=by simp [aE]
   have q1:(aE ps++[T.str z]).length<=1000:=by rw [aBN,aE,aG5];simp;omega
   have q2:k<m:=by rw [hk];exact Nat.div_lt_self (by omega) (by decide)
   have s:=vK 60 m (by rw [<-yI,<-hk];exact k0);rw [<-yI,<-hk,<-hr'] at s;refine ⟨q1,k,q2,ps++[z],some (.p (.int r)),by rw [es];rfl,?_,?_⟩
   ·rw [hd,List.reverse_append,aY9,List.singleton_append,aQA,aSX,zf,<-aEE];rw [s]
   ·rw [List.reverse_append,aY9,List.singleton_append,aQA,aSX,zf,aBN,pl60,hz,aBN,aYS];omega
  ·rw [decide_eq_false (by omega),if_neg (by decide)];have lg:(m:Int).natAbs.log2<1920:=by
    rw [aSV]
    by_cases z:m=0
    ·rw [z];decide
    ·exact (aYL z).mpr (aG3 (show m<10^60 by rw [<-yI];omega) (by decide))
   refine ⟨lg,λy hy=>?_⟩;have sy:sg y=eQ m:=by rw [hy,wP]
   have es:aE (ps++[y])=aE ps++[T.str y]:=by simp [aE]
   have el:(aE ps++[T.str y]).reverse=aE (y::ps.reverse):=by simp [aE]
   have jf:((y::ps.reverse).map sg).flatten=eQ n.natAbs:=by
    rw [aQA,aSX,sy,hd]
   have q1:(aE ps++[T.str y]).length<=1000:=by rw [aBN,aE,aG5];simp;omega
   refine ⟨q1,?_⟩;show if decide (n<0)=true then _ else _;have lm:(aA7 "-").length=1:=by decide
   have l0:(aA7 "").length=0:=by decide
   by_cases hn:n<0
   ·rw [decide_eq_true hn,if_pos rfl];refine ⟨rfl,?_⟩;show o1 (dC (aE ps++[T.str y]).reverse) _;rw [el,kK];refine ⟨by rw [vE];exact z9 (by rw [jf];unfold big;omega),λz hz'=>?_⟩;have sz:sg z=eQ n.natAbs:=by rw [hz',vE,uY,jf]
    have lz:z.length<=5000:=by rw [<-aO,sz];exact hl
    refine ⟨by unfold big;omega,λu hu=>⟨rfl,q u ?_⟩⟩;rw [hu,aZ,sz,lL];unfold bM;rw [if_pos hn]
   ·rw [decide_eq_false hn,if_neg (by decide)];refine ⟨rfl,?_⟩;show o1 (dC (aE ps++[T.str y]).reverse) _;rw [el,kK];refine ⟨by rw [vE];exact z9 (by rw [jf];unfold big;omega),λz hz'=>?_⟩;have sz:sg z=eQ n.natAbs:=by rw [hz',vE,uY,jf]
    have lz:z.length<=5000:=by rw [<-aO,sz];exact hl
    refine ⟨by unfold big;omega,λu hu=>⟨rfl,q u ?_⟩⟩;rw [hu,aZ,sz,vE];unfold bM;rw [if_neg hn]
def fT (n d:Int):L2.T:=.tup [.int n,.int d]
def rD:fR:=λas Q=>∃(n d:Int),as=[.v (fT n d)]/\(eQ n.natAbs).length<=5000/\(eQ d.natAbs).length<=5000/\∀x:Str,sg x=bJ n d->Q (.v (.str x)) []
abbrev gC:bAY:=top 31
theorem fU:aP ["one","n","d"] ["one"] (aH gC):=⟨rfl,rfl,rfl,by decide +kernel,rfl,by decide +kernel,by decide +kernel⟩
theorem pK {f:bAO} {fd:bAS} (F:dA K "fraction_text" "fraction_text" gC f fd) (TX:Txt mg) (g_number_text:Fn P w K mg base 1 "number_text" ["number"] (aK K tH))   : bI P w K mg base dQ 2 f fd ["one"] (aK K rD):=by
 refine F.okT fU ?len (λcdv A outer s H E hr=>(aC (j8 (fv 0) (jY (n:=2) rfl rfl (bT (bG (i:=1) fU.nd rfl (aIW rfl)) (bT (bG (i:=2) fU.nd rfl (aIW rfl)) g9))))
 (aG (aM (kE (dP rfl hr (fv 2) aB (aN _)) (aF g_number_text hr (by omega) rfl (fc (fv 1) aA)) (aU (aU (aF g_number_text hr (by omega) rfl (fc (fv 1) aA)) aJ) (aF g_number_text hr (by omega) rfl (fc (fv 2) aA)))))))) ?rd
 case len=>rintro as Q ⟨n,d,rfl,_⟩;rfl
 case rd=>
  rintro as Q ⟨n,d,rfl,h1,h2,q⟩;refine ⟨aB7 _,?_⟩;show if (d==1)=true then _ else _
  by_cases hd:d=1
  ·rw [if_pos (by simpa using hd)];refine ⟨n,rfl,h1,λx hx=>⟨rfl,q x ?_⟩⟩;unfold bJ;rw [if_pos hd];exact hx
  ·rw [if_neg (by simpa using hd)];refine ⟨n,rfl,h1,λx hx=>?_⟩;have lx:x.length<=5001:=by
    rw [<-aO,hx];unfold bM;rw [aBN];split<;>simp<;>omega
   have ls:(aA7 "/").length=1:=by decide
   refine ⟨by unfold big;omega,λu hu=>⟨d,rfl,h2,λy hy=>?_⟩⟩;have ly:y.length<=5001:=by
    rw [<-aO,hy];unfold bM;rw [aBN];split<;>simp<;>omega
   have lc:u.length<=5002:=by rw [<-aO,hu,aZ,aBN,aO,aO];omega
   refine ⟨by unfold big;omega,λv hv=>⟨rfl,q v ?_⟩⟩;rw [hv,hu,aZ,aZ,hx,hy,lC];unfold bJ;rw [if_neg hd,aEE];rfl
def aBS:fR:=λas Q=>∃i:Int,as=[.v (.int i)]/\Q (.v (.bl true)) []
abbrev kY:bAY:=top 6
theorem x0:aP ["thing"] ["thing"] (aH kY):=⟨rfl,rfl,rfl,by decide +kernel,rfl,by decide +kernel,by decide +kernel⟩
theorem wU {f:bAO} {fd:bAS} (F:dA K "is_number" "is_number" kY f fd) (TX:Txt mg)    : bI P w K mg base dQ 1 f fd ["thing"] (aK K aBS):=by
 refine F.okT x0 ?len (λcdv A outer s H E hr=>(aG (aM (fQ (cZ aOS rfl rfl TX.n_isinstance (fv 0) rfl TX.n_int aIZ (by decide)) (fO (aBW (cZ xB rfl rfl TX.n_isinstance (fv 0) rfl TX.n_bool qZ (by decide)))))))) ?rd
 case len=>rintro as Q ⟨i,rfl,_⟩;rfl
 case rd=>
  rintro as Q ⟨i,rfl,q⟩;exact ⟨rfl,q⟩
def aEB:fR:=λas Q=>∃n d:Int,as=[.v (fT n d)]/\∀b:Bool,(b=true↔1<=d/\aPV n.natAbs d.natAbs=1)->Q (.v (.bl b)) []
abbrev i3:bAY:=top 8
theorem iI:aP ["thing","n","d"] ["thing"] (aH i3):=⟨rfl,rfl,rfl,by decide +kernel,rfl,by decide +kernel,by decide +kernel⟩
theorem sF {f:bAO} {fd:bAS} (F:dA K "is_fraction" "is_fraction" i3 f fd) (TX:Txt mg) (g_is_number:Fn P w K mg base 1 "is_number" ["thing"] (aK K aBS)) (g_common_divisor:Fn P w K mg base 1 "common_divisor" ["one","other"] (aK K qQ))   : bI P w K mg base dQ 2 f fd ["thing"] (aK K aEB):=by
 refine F.okT iI ?len (λcdv A outer s H E hr=>(aC (bP (gH (cF (cD (bQ (cZ iY rfl rfl TX.n_isinstance (fv 0) rfl TX.n_tuple fY (by decide)))) (cG (iM rfl hr (cL rfl rfl TX.n_len (fc (fv 0) aA)) aB (aN _))))) (aG (aM gU)) bH)
 (aC (j8 (fv 0) (jY (n:=2) rfl rfl (bT (bG (i:=1) iI.nd rfl (aIW rfl)) (bT (bG (i:=2) iI.nd rfl (aIW rfl)) g9))))
 (aC (bP (gH (cF (cD (bQ (aF g_is_number hr (by omega) rfl (fc (fv 1) aA)))) (cF (cD (bQ (aF g_is_number hr (by omega) rfl (fc (fv 2) aA)))) (cG (dU iU (fv 2) aB (aN _)))))) (aG (aM gU)) bH)
 (aG (aM (gX rfl hr (aF g_common_divisor hr (by omega) rfl (fc (fv 1) (fc (fv 2) aA))) aB (aN _)))))))) ?rd
 case len=>rintro as Q ⟨n,d,rfl,_⟩;rfl
 case rd=>
  rintro as Q ⟨n,d,rfl,q⟩;refine ⟨aB7 _,?_⟩;refine ⟨n,rfl,d,rfl,?_⟩;show if decide (d<1)=true then _ else _
  by_cases h:d<1
  ·rw [decide_eq_true h,if_pos rfl];exact ⟨rfl,q false ⟨(λz=>by cases z),(λz=>by omega)⟩⟩
  ·rw [decide_eq_false h,if_neg (by decide)];refine ⟨n,d,rfl,aB7 _,rfl,q _ ?_⟩;constructor
   ·intro z;refine ⟨by omega,?_⟩;have:((aPV n.natAbs d.natAbs:Nat):Int)=1:=by simpa [L2.dZ] using z
    omega
   ·rintro ⟨_,z⟩;rw [z];rfl
def aCX:fR:=λas Q=>∃x:Str,as=[.v (.str x)]/\x.length<=big/\Q (.v (.bl (bF (sg x)))) []
theorem wD (x y:Str):(x==y)=(sg x==sg y):=by
 by_cases h:x=y
 ·subst h;simp
 ·rw [show (x==y)=false by simpa using h];have:sg x≠sg y:=λz=>h (kR z);rw [show (sg x==sg y)=false by simpa using this]
abbrev mQ:bAY:=top 33
theorem zV:aP ["text"] ["text"] (aH mQ):=⟨rfl,rfl,rfl,by decide +kernel,rfl,by decide +kernel,by decide +kernel⟩
theorem zZ {f:bAO} {fd:bAS} (F:dA K "is_plain" "is_plain" mQ f fd) (TX:Txt mg)  (c_MOST_FIGURES:mM mg "MOST_FIGURES" 60)  : bI P w K mg base dQ 1 f fd ["text"] (aK K aCX):=by
 refine F.okT zV ?len (λcdv A outer s H E hr=>(aC (bP (gH (cF (cD (bQ (aC2 (fv 0)))) (cF (cD (bQ (aBG (fv 0)))) (cG (dU mU (yL rfl TX.n_len (fc (fv 0) aA)) (m9 rfl c_MOST_FIGURES) (aN _)))))) (aG (aM gU)) bH)
 (aG (aM (aI8 (gX rfl hr (fv 0) aJ (aN _)) (fO (aBW (lT (fv 0) (fc aJ aA))))))))) ?rd
 case len=>rintro as Q ⟨x,rfl,_⟩;rfl
 case rd=>
  rintro as Q ⟨x,rfl,hl,q⟩;have key:=aHB x;have no:(¬(aYM x=true/\aYN x=true/\x.length<=60/\((sg x==[48])=true\/((sg x).head?==some 48)=false)))->bF (sg x)=false:=λz=>by
   cases e:bF (sg x) with
   | false=>rfl
   | true=>exact absurd (key.mpr e) z
  show if (!(aYM x))=true then _ else _;cases a1:aYM x with
  | false=>
   rw [if_pos (by decide)];rw [no (by rw [a1];rintro ⟨z,_⟩;cases z)] at q;exact ⟨rfl,q⟩
  | true=>
   rw [if_neg (by decide)];show if (!(aYN x))=true then _ else _;cases a2:aYN x with
   | false=>
    rw [if_pos (by decide)];rw [no (by rw [a2];rintro ⟨_,z,_⟩;cases z)] at q;exact ⟨rfl,q⟩
   | true=>
    rw [if_neg (by decide)];refine ⟨hl,?_⟩;show if decide ((60:Int)<(x.length:Int))=true then _ else _
    by_cases a3:60<x.length
    ·rw [decide_eq_true (by omega),if_pos rfl];rw [no (by rintro ⟨_,_,z,_⟩;omega)] at q;exact ⟨rfl,q⟩
    ·rw [decide_eq_false (by omega),if_neg (by decide)];refine ⟨aB7 _,?_⟩;show if (x==aA7 "0")=true then _ else _;have e0:(x==aA7 "0")=(sg x==[48]):=by rw [wD,aE0]
     rw [e0];cases a4:(sg x==[48]) with
     | true=>
      rw [if_pos rfl];rw [key.mp ⟨a1,a2,by omega,.inl a4⟩] at q;exact ⟨rfl,q⟩
     | false=>
      rw [if_neg (by decide)];refine ⟨rfl,?_⟩;have e1:aX4 x (aA7 "0")=((sg x).head?==some 48):=by rw [aE0];exact aEI x 48
      rw [e1];cases a5:((sg x).head?==some 48) with
      | false=>
       rw [key.mp ⟨a1,a2,by omega,.inr a5⟩] at q;exact q
      | true=>
       rw [no (by rw [a4,a5];rintro ⟨_,_,_,z | z⟩<;>cases z)] at q;exact q
end
end My
namespace My
open PySem L2 PyProof.Rows
section
variable {P:bAR} {w:bAU} {K:W.Frag} {mg:Str->Option Value} {base:Heap}
inductive Rw where
 | side (x y:Fr) | arc (m n x y:Fr) (t:Str)
def wA:Rw->L2.T
 | .side x y=>.tup [.str "side",vc x y]
 | .arc m n x y t=>.tup [.str "arc",vc m n,vc x y,.str t]
def Rw.px:Rw->Fr
 | .side x _=>x
 | .arc _ _ x _ _=>x
def Rw.py:Rw->Fr
 | .side _ y=>y
 | .arc _ _ _ y _=>y
def nvR:Rw->Prop
 | .side x y=>Nv x y 200
 | .arc m n x y _=>Nv m n 200/\Nv x y 200
theorem nvR.end' {p:Rw} (h:nvR p):Nv p.px p.py 200:=by
 cases p with
 | side x y=>exact h
 | arc m n x y t=>exact h.2
def nR (a b:Fr) (rs:List Rw):L2.T:=.tup [vc a b,.tup (rs.map wA)]
def zW (a b:Fr):Rw->Prop
 | .side x y=>¬(x=a/\y=b)/\∃r:Rat,mX x y a b=r*r
 | .arc m n x y t=>(t = "left"\/t = "right")/\¬(x=a/\y=b)/\∃r:Rat,0<=r/\mX a b m n=r*r/\mX x y m n=r*r
def i7:Fr->Fr->List Rw->Prop
 | _,_,[]=>True
 | a,b,p::ps=>zW a b p/\i7 p.px p.py ps
def aUA:Rw->Bool
 | .side _ _=>true
 | .arc _ _ _ _ _=>false
theorem aCN {x y p q:Fr} {e f:Nat} (h:Nv x y e) (k:Nv p q f):Nv (hJ x p) (hJ y q) (e+f+1):=by
 have:=h.sx;have:=h.sy;have:=k.sx;have:=k.sy;have s1:=wH h.x k.x;have s2:=wH h.y k.y;exact ⟨rB h.x k.x,rB h.y k.y,by omega,by omega⟩
theorem aUQ:L2.dZ (.str "side") (.str "side")=true:=dX _
theorem aT1:L2.dZ (.str "arc") (.str "side")=false:=by decide
def nM:fR:=λas Q=>∃p:Rw,as=[.v (wA p)]/\Q (.v (.bl (aUA p))) []
abbrev pB:bAY:=top 22
theorem aBA:aP ["piece"] ["piece"] (aH pB):=⟨rfl,rfl,rfl,by decide +kernel,rfl,by decide +kernel,by decide +kernel⟩
theorem aCE {f:bAO} {fd:bAS} (F:dA K "is_side" "is_side" pB f fd) (TX:Txt mg)    : bI P w K mg base dQ 1 f fd ["piece"] (aK K nM):=by
 refine F.okT aBA ?len (λcdv A outer s H E hr=>(aG (aM (gX rfl hr (aI rfl (fv 0) aB (λ_ _=>rfl)) aJ (aN _))))) ?rd
 case len=>rintro as Q ⟨p,rfl,_⟩;rfl
 case rd=>
  rintro as Q ⟨p,rfl,q⟩;cases p with
  | side x y=>
   refine ⟨aB7 _,rfl,?_⟩;rw [aUQ];exact q
  | arc m n x y l=>
   refine ⟨aB7 _,rfl,?_⟩;rw [aT1];exact q
def vY:fR:=λas Q=>∃p:Rw,as=[.v (wA p)]/\Q (.v (vc p.px p.py)) []
abbrev sM:bAY:=top 23
theorem aF3:aP ["piece"] ["piece"] (aH sM):=⟨rfl,rfl,rfl,by decide +kernel,rfl,by decide +kernel,by decide +kernel⟩
theorem aFP {f:bAO} {fd:bAS} (F:dA K "end_of" "end_of" sM f fd) (TX:Txt mg) (g_is_side:Fn P w K mg base 1 "is_side" ["piece"] (aK K nM))   : bI P w K mg base dQ 2 f fd ["piece"] (aK K vY):=by
 refine F.okT aF3 ?len (λcdv A outer s H E hr=>(aG (aM (kE (bQ (aF g_is_side hr (by omega) rfl (fc (fv 0) aA))) (aI rfl (fv 0) aB (λ_ _=>rfl)) (aI rfl (fv 0) aB (λ_ _=>rfl)))))) ?rd
 case len=>rintro as Q ⟨p,rfl,_⟩;rfl
 case rd=>
  rintro as Q ⟨p,rfl,q⟩;refine ⟨p,rfl,?_⟩;cases p with
  | side x y=>exact ⟨rfl,q⟩
  | arc m n x y l=>exact ⟨rfl,q⟩
def nO:fR:=λas Q=>∃x y:Fr,as=[.v (vc x y)]/\dS x/\dS y/\Q (.v (.bl true)) []
abbrev mK:bAY:=top 20
theorem zN:aP ["thing"] ["thing"] (aH mK):=⟨rfl,rfl,rfl,by decide +kernel,rfl,by decide +kernel,by decide +kernel⟩
theorem zU {f:bAO} {fd:bAS} (F:dA K "is_point" "is_point" mK f fd) (TX:Txt mg) (g_is_fraction:Fn P w K mg base 2 "is_fraction" ["thing"] (aK K aEB))   : bI P w K mg base dQ 3 f fd ["thing"] (aK K nO):=by
 refine F.okT zN ?len (λcdv A outer s H E hr=>(aC (bP (gH (cF (cD (bQ (cZ iY rfl rfl TX.n_isinstance (fv 0) rfl TX.n_tuple fY (by decide)))) (cG (iM rfl hr (cL rfl rfl TX.n_len (fc (fv 0) aA)) aB (aN _))))) (aG (aM gU)) bH)
 (aG (aM (fQ (aF g_is_fraction hr (by omega) rfl (fc (aI rfl (fv 0) aB (λ_ _=>rfl)) aA)) (fO (aF g_is_fraction hr (by omega) rfl (fc (aI rfl (fv 0) aB (λ_ _=>rfl)) aA)))))))) ?rd
 case len=>rintro as Q ⟨x,y,rfl,_⟩;rfl
 case rd=>
  rintro as Q ⟨x,y,rfl,hx,hy,q⟩;refine ⟨aB7 _,?_⟩;refine ⟨x.1,x.2,rfl,λk hk=>?_⟩;obtain rfl:k=true:=hk.mpr ⟨hx.d,hx.g⟩;refine ⟨y.1,y.2,rfl,λk hk=>?_⟩;obtain rfl:k=true:=hk.mpr ⟨hy.d,hy.g⟩;exact ⟨rfl,q⟩
def o7:Rw->Prop
 | .side _ _=>True
 | .arc _ _ _ _ t=>t = "left"\/t = "right"
theorem eqS (x y:Str):L2.dZ (.str x) (.str y)=decide (x=y):=by rw [aY4];simp [L2.dZ]
def rR:fR:=λas Q=>∃p:Rw,as=[.v (wA p)]/\nvR p/\∀k:Bool,(k=true↔o7 p)->Q (.v (.bl k)) []
abbrev l9:bAY:=top 21
theorem pW:aP ["thing","has_turn"] ["thing"] (aH l9):=⟨rfl,rfl,rfl,by decide +kernel,rfl,by decide +kernel,by decide +kernel⟩
theorem zJ {f:bAO} {fd:bAS} (F:dA K "is_piece" "is_piece" l9 f fd) (TX:Txt mg) (g_is_point:Fn P w K mg base 3 "is_point" ["thing"] (aK K nO))   : bI P w K mg base dQ 4 f fd ["thing"] (aK K rR):=by
 refine F.okT pW ?len (λcdv A outer s H E hr=>(aC (bP (cD (bQ (cZ iY rfl rfl TX.n_isinstance (fv 0) rfl TX.n_tuple fY (by decide)))) (aG (aM gU)) bH)
 (aC (bP (dP rfl hr (cL rfl rfl TX.n_len (fc (fv 0) aA)) aB (aN _)) (aG (aM (fQ (gX rfl hr (aI rfl (fv 0) aB (λ_ _=>rfl)) aJ (aN _)) (fO (aF g_is_point hr (by omega) rfl (fc (aI rfl (fv 0) aB (λ_ _=>rfl)) aA)))))) bH)
 (aC (bP (dP rfl hr (cL rfl rfl TX.n_len (fc (fv 0) aA)) aB (aN _)) (aC (aV (i:=1) pW.nd rfl (aIW rfl) (aI8 (gX rfl hr (aI rfl (fv 0) aB (λ_ _=>rfl)) aJ (aN _)) (fO (gX rfl hr (aI rfl (fv 0) aB (λ_ _=>rfl)) aJ (aN _)))))
 (aG (aM (fQ (gX rfl hr (aI rfl (fv 0) aB (λ_ _=>rfl)) aJ (aN _)) (fQ (aF g_is_point hr (by omega) rfl (fc (aI rfl (fv 0) aB (λ_ _=>rfl)) aA)) (fQ (aF g_is_point hr (by omega) rfl (fc (aI rfl (fv 0) aB (λ_ _=>rfl)) aA)) (fO (fv 1)))))))) bH)
 (aG (aM gU)))))) ?rd
 case len=>rintro as Q ⟨p,rfl,_⟩;rfl
 case rd=>
  rintro as Q ⟨p,rfl,h,q⟩;cases p with
  | side x y=>
   refine ⟨aB7 _,aB7 _,?_⟩;exact ⟨x,y,rfl,h.x,h.y,rfl,q true (by simp [o7])⟩
  | arc m n x y t=>
   refine ⟨aB7 _,aB7 _,aB7 _,?_⟩;show if L2.dZ (.str t) (.str (aA7 "left"))=true then _ else _;rw [eqS]
   by_cases c:t=aA7 "left"
   ·rw [decide_eq_true c,if_pos rfl];refine ⟨aB7 _,?_⟩;refine ⟨m,n,rfl,h.1.x,h.1.y,x,y,rfl,h.2.x,h.2.y,rfl,?_⟩;exact q true (by simp [o7,show t=("left":Str) from c])
   ·rw [decide_eq_false c,if_neg (by decide)];refine ⟨aB7 _,aB7 _,?_⟩;refine ⟨m,n,rfl,h.1.x,h.1.y,x,y,rfl,h.2.x,h.2.y,rfl,?_⟩;rw [eqS];exact q _ (by rw [decide_eq_true_eq];exact ⟨λe=>.inr e,λe=>e.resolve_left c⟩)
def aME (a b:Fr):Rw->Prop
 | .side x y=>¬(x=a/\y=b)/\∃r:Rat,mX x y a b=r*r
 | .arc m n x y _=>¬(x=a/\y=b)/\∃r:Rat,0<=r/\mX a b m n=r*r/\mX x y m n=r*r
theorem tF {a b:Fr} {p:Rw}:zW a b p↔o7 p/\aME a b p:=by
 cases p with
 | side x y=>simp [zW,o7,aME]
 | arc m n x y t=>simp [zW,o7,aME]
theorem xA {x y p q:Fr} {e f:Nat} (h:Nv x y e) (k:Nv p q f):val (hJ x p)*val (hJ x p)+val (hJ y q)*val (hJ y q)=mX x y p q:=by
 rw [iV h.x k.x,iV h.y k.y];rfl
theorem uM {r s:Rat} (hr:0<=r) (hs:0<=s) (h:r*r=s*s):r=s:=by
 have e:(r-s)*(r+s)=0:=by grind
 rcases Rat.mul_eq_zero.mp e with z | z
 ·grind
 ·have:r=0:=by grind
  have:s=0:=by grind
  grind
def pH:fR:=λas Q=>∃(a b:Fr) (p:Rw),as=[.v (wA p),.v (vc a b)]/\Nv a b 200/\nvR p/\∀k:Bool,(k=true↔aME a b p)->Q (.v (.bl k)) []
abbrev hZ:bAY:=top 24
theorem gK:aP ["piece","begin","to","radius"] ["piece","begin"] (aH hZ):=⟨rfl,rfl,rfl,by decide +kernel,rfl,by decide +kernel,by decide +kernel⟩
theorem qI {f:bAO} {fd:bAS} (F:dA K "can_begin_at" "can_begin_at" hZ f fd) (TX:Txt mg) (g_end_of:Fn P w K mg base 2 "end_of" ["piece"] (aK K vY)) (g_is_side:Fn P w K mg base 1 "is_side" ["piece"] (aK K nM)) (g_length_of:Fn P w K mg base 5 "length_of" ["vector"] (aK K aJI)) (g_minus:Fn P w K mg base 4 "minus" ["one","other"] (aK K aFF))   : bI P w K mg base dQ 6 f fd ["piece","begin"] (aK K pH):=by
 refine F.okT gK ?len (λcdv A outer s H E hr=>(aC (aV (i:=2) gK.nd rfl (aIW rfl) (aF g_end_of hr (by omega) rfl (fc (fv 0) aA)))
 (aC (bP (dP rfl hr (fv 2) (fv 1) (aN _)) (aG (aM gU)) bH)
 (aC (bP (bQ (aF g_is_side hr (by omega) rfl (fc (fv 0) aA))) (aG (aM (aD1 (aF g_length_of hr (by omega) rfl (fc (aF g_minus hr (by omega) rfl (fc (fv 2) (fc (fv 1) aA))) aA)) (aN _)))) bH)
 (aC (aV (i:=3) gK.nd rfl (aIW rfl) (aF g_length_of hr (by omega) rfl (fc (aF g_minus hr (by omega) rfl (fc (fv 1) (fc (aI rfl (fv 0) aB (λ_ _=>rfl)) aA))) aA)))
 (aG (aM (fQ (aD1 (fv 3) (aN _)) (fO (gX rfl hr (fv 3) (aF g_length_of hr (by omega) rfl (fc (aF g_minus hr (by omega) rfl (fc (fv 2) (fc (aI rfl (fv 0) aB (λ_ _=>rfl)) aA))) aA)) (aN _))))))))))) ?rd
 case len=>rintro as Q ⟨a,b,p,rfl,_⟩;rfl
 case rd=>
  rintro as Q ⟨a,b,p,rfl,h,hp,q⟩;refine ⟨p,rfl,lV rfl,?_⟩;show if L2.dZ (vc p.px p.py) (vc a b)=true then _ else _;rw [aTS]
  by_cases c:p.px=a/\p.py=b
  ·rw [decide_eq_true c,if_pos rfl];refine ⟨rfl,q false ?_⟩;cases p with
   | side x y=>exact ⟨λz=>(by cases z),λz=>absurd c z.1⟩
   | arc m n x y t=>exact ⟨λz=>(by cases z),λz=>absurd c z.1⟩
  ·rw [decide_eq_false c,if_neg (by decide)];refine ⟨p,rfl,?_⟩;cases p with
   | side x y=>
    have nv:=aCN hp h;have fs:=xA hp h;refine ⟨x,y,a,b,200,200,rfl,hp,h,by decide,_,_,rfl,nv.up (by decide),λf hf f0 e=>?_,λe=>?_⟩
    ·exact ⟨rfl,q true ⟨λ_=>⟨c,val f,by rw [<-fs];exact e⟩,λ_=>rfl⟩⟩
    ·exact ⟨rfl,q false ⟨λz=>(by cases z),λ⟨_,r,z⟩=>absurd (fs.trans z) (e r)⟩⟩
   | arc m n x y t=>
    have nv:=aCN h hp.1;have fs:=xA h hp.1;have nv2:=aCN hp.2 hp.1;have fs2:=xA hp.2 hp.1;refine ⟨a,b,m,n,200,200,rfl,h,hp.1,by decide,_,_,rfl,nv.up (by decide),λf hf f0 e=>?_,λe=>?_⟩
    ·refine ⟨x,y,m,n,200,200,rfl,hp.2,hp.1,by decide,_,_,rfl,nv2.up (by decide),λg hg g0 e2=>?_,λe2=>?_⟩
     ·refine ⟨lV rfl,rfl,?_⟩;rw [aPF];refine q _ ?_;rw [decide_eq_true_eq];constructor
      ·rintro rfl;exact ⟨c,val f,f0,by rw [<-fs];exact e,by rw [<-fs2];exact e2⟩
      ·rintro ⟨_,r,r0,z1,z2⟩;have a1:=uM f0 r0 ((e.symm.trans fs).trans z1);have a2:=uM g0 r0 ((e2.symm.trans fs2).trans z2);exact m8 hf hg (a1.trans a2.symm)
     ·exact ⟨lV rfl,rfl,q false ⟨λz=>(by cases z),λ⟨_,r,_,_,z⟩=>absurd (fs2.trans z) (e2 r)⟩⟩
    ·exact ⟨rfl,q false ⟨λz=>(by cases z),λ⟨_,r,_,z,_⟩=>absurd (fs.trans z) (e r)⟩⟩
def lX (a:Fr) (rs:List Rw):Fr:=(rs.map Rw.px).getLast?.getD a
def lY (b:Fr) (rs:List Rw):Fr:=(rs.map Rw.py).getLast?.getD b
def rC:fR:=λas Q=>∃(a b:Fr) (rs:List Rw),as=[.v (nR a b rs)]/\Nv a b 200/\(∀r∈rs,nvR r)/\rs.length<=900/\∀k:Bool,(k=true↔rs≠[]/\i7 a b rs)->Q (.v (.bl k)) []
theorem mE:∀{rs:List Rw} {a b:Fr},i7 a b rs↔∀i p,rs[i]? = some p->zW (lX a (rs.take i)) (lY b (rs.take i)) p
 | [],a,b=>by simp [i7]
 | q::rs,a,b=>by
  have ih:=mE (rs:=rs) (a:=q.px) (b:=q.py);unfold i7;rw [ih];constructor
  ·rintro ⟨h0,h⟩ i p hi;cases i with
   | zero=>cases hi;exact h0
   | succ i=>
    have:=h i p (by simpa using hi);rw [List.take_succ_cons];unfold lX lY at this ⊢;rw [aQA,aQA,aY6,aY6];exact this
  ·intro h;refine ⟨h 0 q rfl,λi p hi=>?_⟩;have:=h (i+1) p (by simpa using hi);rw [List.take_succ_cons] at this;unfold lX lY at this ⊢;rw [aQA,aQA,aY6,aY6] at this;exact this
theorem aDF {rs:List Rw} {a b:Fr} {i:Nat} {p:Rw} (h:rs[i]? = some p):lX a (rs.take (i+1))=p.px/\lY b (rs.take (i+1))=p.py:=by
 have e:rs.take (i+1)=rs.take i++[p]:=by rw [aZT,h];rfl
 unfold lX lY;rw [e,aW5,aW5];simp
theorem aDO {rs:List Rw} {a b:Fr} (nv:Nv a b 200) (hr:∀r∈rs,nvR r) (i:Nat):Nv (lX a (rs.take i)) (lY b (rs.take i)) 200:=by
 cases i with
 | zero=>simpa [lX,lY] using nv
 | succ i=>
  cases h:rs[i]? with
  | some p=>
   obtain ⟨e1,e2⟩:=aDF (a:=a) (b:=b) h;rw [e1,e2];exact (hr p (aIR h)).end'
  | none=>
   have e:rs.take (i+1)=rs.take i:=by rw [aZT,h];simp
   rw [e];exact aDO nv hr i
abbrev oB:bAY:=top 25
theorem iB:aP ["thing","piece","begin","pieces"] ["thing"] (aH oB):=⟨rfl,rfl,rfl,by decide +kernel,rfl,by decide +kernel,by decide +kernel⟩
theorem aBR {f:bAO} {fd:bAS} (F:dA K "is_path" "is_path" oB f fd) (TX:Txt mg) (g_is_point:Fn P w K mg base 3 "is_point" ["thing"] (aK K nO)) (g_is_piece:Fn P w K mg base 4 "is_piece" ["thing"] (aK K rR)) (g_can_begin_at:Fn P w K mg base 6 "can_begin_at" ["piece","begin"] (aK K pH)) (g_end_of:Fn P w K mg base 2 "end_of" ["piece"] (aK K vY))   : bI P w K mg base dQ 7 f fd ["thing"] (aK K rC):=by
 refine F.okT iB ?len (λcdv A outer s H E hr=>(aC (bP (gH (cF (cD (bQ (cZ iY rfl rfl TX.n_isinstance (fv 0) rfl TX.n_tuple fY (by decide)))) (cG (iM rfl hr (cL rfl rfl TX.n_len (fc (fv 0) aA)) aB (aN _))))) (aG (aM gU)) bH)
 (aC (j8 (fv 0) (jY (n:=2) rfl rfl (bT (bG (i:=2) iB.nd rfl (aIW rfl)) (bT (bG (i:=3) iB.nd rfl (aIW rfl)) g9))))
 (aC (bP (gH (cF (cD (bQ (aF g_is_point hr (by omega) rfl (fc (fv 2) aA)))) (cF (cD (bQ (cZ iY rfl rfl TX.n_isinstance (fv 3) rfl TX.n_tuple fY (by decide)))) (cG (dP rfl hr (cL rfl rfl TX.n_len (fc (fv 3) aA)) aB (aN _)))))) (aG (aM gU)) bH)
 (aC (j6 PassesOwn.never rfl (oJ rfl (fv 3)) (bG (i:=1) iB.nd rfl (aIW rfl))
  (aC (bP (gH (cF (cD (bQ (aF g_is_piece hr (by omega) rfl (fc (fv 1) aA)))) (cG (cD (bQ (aF g_can_begin_at hr (by omega) rfl (fc (fv 1) (fc (fv 2) aA)))))))) (aG (aM gU)) bH)
 (aG (aV (i:=2) iB.nd rfl (aIW rfl) (aF g_end_of hr (by omega) rfl (fc (fv 1) aA))))))
 (aG (aM gU))))))) ?rd
 case len=>rintro as Q ⟨a,b,rs,rfl,_⟩;rfl
 case rd=>
  rintro as Q ⟨a,b,rs,rfl,nv,hr,hl,q⟩;refine ⟨aB7 _,?_⟩;refine ⟨a,b,rfl,nv.x,nv.y,aB7 _,?_⟩;show if L2.dZ (.int (((rs.map wA).length:Nat):Int)) (.int 0)=true then _ else _
  by_cases hn:rs=[]
  ·subst hn;rw [if_pos (by decide)];exact ⟨rfl,q false (by simp)⟩
  ·have l0:0<rs.length:=List.length_pos_iff.mpr hn;have e0:L2.dZ (.int (((rs.map wA).length:Nat):Int)) (.int 0)=false:=by rw [aG5];simp [L2.dZ];omega
   rw [e0,if_neg (by decide)];refine (?_:kI _ _ _ (rs.map wA) _);refine dN (λi E=>∃v1 v3:Option U,E=[some (.p (nR a b rs)),v1,some (.p (vc (lX a (rs.take i)) (lY b (rs.take i)))),v3]/\∀j p,j<i->rs[j]? = some p->zW (lX a (rs.take j)) (lY b (rs.take j)) p) ⟨_,_,rfl,λj p hj=>absurd hj (aXI _)⟩ ?_ ?_
   ·rintro i t rest E hi ⟨v1,v3,rfl,hj⟩ KK;rw [aEO] at hi;cases hp:rs[i]? with
    | none=>rw [hp] at hi;cases hi
    | some p=>
     rw [hp] at hi;cases hi;have np:=hr p (aIR hp);have no:¬zW (lX a (rs.take i)) (lY b (rs.take i)) p->(false=true↔rs≠[]/\i7 a b rs):=λz=>⟨λh=>(by cases h),λh=>absurd (mE.mp h.2 i p hp) z⟩;refine ⟨p,rfl,np,λk hk=>?_⟩;show if (!k)=true then _ else _;cases k with
     | false=>
      rw [if_pos (by decide)];exact ⟨rfl,q false (no λz=>by have:=hk.mpr (tF.mp z).1;cases this)⟩
     | true=>
      rw [if_neg (by decide)];refine ⟨_,_,p,rfl,aDO nv hr i,np,λk2 hk2=>?_⟩;show if (!k2)=true then _ else _;cases k2 with
      | false=>
       rw [if_pos (by decide)];exact ⟨rfl,q false (no λz=>by have:=hk2.mpr (tF.mp z).2;cases this)⟩
      | true=>
       rw [if_neg (by decide)];refine ⟨p,rfl,KK _ ⟨some (.p (wA p)),v3,?_,λj p' hj' hp'=>?_⟩⟩
       ·obtain ⟨e1,e2⟩:=aDF (a:=a) (b:=b) hp;rw [e1,e2];rfl
       ·rcases Nat.lt_succ_iff_lt_or_eq.mp hj' with h | rfl
        ·exact hj j p' h hp'
        ·rw [hp] at hp';cases hp';exact tF.mpr ⟨hk.mp rfl,hk2.mp rfl⟩
   ·rintro E ⟨v1,v3,rfl,hj⟩;refine ⟨rfl,q true ⟨λ_=>⟨hn,mE.mpr λi p hi=>hj i p ?_ hi⟩,λ_=>rfl⟩⟩;rw [aG5];exact (aA8.mp hi).1
end
end My
namespace My
open PySem L2 PyProof.Rows
section
variable {P:bAR} {w:bAU} {K:W.Frag} {mg:Str->Option Value} {base:Heap}
abbrev tD:bAY:=top 45
theorem lE:aP ["_law_n","_law_d","_law_one","_law_other"] ["_law_n","_law_d"] (aH tD):=⟨rfl,rfl,rfl,by decide +kernel,rfl,by decide +kernel,by decide +kernel⟩
theorem aGG {f:bAO} {fd:bAS} (F:dA K "_law_lowest" "_law_lowest" tD f fd) (TX:Txt mg)    : bI P w K mg base dQ 1 f fd ["_law_n","_law_d"] (aK K sG):=by
 refine F.okT lE ?len (λcdv A outer s H E hr=>(aC (eB (i:=2) (j:=3) rfl lE.nd rfl rfl (by decide) rfl rfl (fc (lB rfl TX.n_abs (fc (fv 0) aA)) (fc (lB rfl TX.n_abs (fc (fv 1) aA)) aA)) rfl)
 (aC (jK PassesOwn.never (dU mU (fv 3) aB (aN _)) (aG (eB (i:=2) (j:=3) rfl lE.nd rfl rfl (by decide) rfl rfl (fc (fv 3) (fc (aW gM (fv 2) (fv 3)) aA)) rfl)))
 (aC (aV (i:=2) lE.nd rfl (aIW rfl) (aW bO (fv 2) (kE (dU mU (fv 1) aB (aN _)) aB (gF aB))))
 (aG (aM (aT (fc (aW cJ (fv 0) (fv 2)) (fc (aW cJ (fv 1) (fv 2)) aA))))))))) ?rd
 case len=>rintro as Q ⟨n,d,rfl,_⟩;rfl
 case rd=>
  rintro as Q ⟨n,d,rfl,hd,hb,q⟩;refine ⟨λm E=>∃(x y:Nat),E=[some (.p (.int n)),some (.p (.int d)),some (.p (.int x)),some (.p (.int y))]/\m=y/\aPV x y=aPV n.natAbs d.natAbs,⟨_,_,_,rfl,rfl,rfl⟩,?_⟩;rintro m E ⟨x,y,rfl,rfl,hg⟩;show if decide ((0:Int)<(m:Int))=true then _ else _
  by_cases hy:(0:Int)<(m:Int)
  ·rw [decide_eq_true hy,if_pos rfl];exact ⟨hy,x%m,aY0 _ (by omega),m,x%m,rfl,rfl,by rw [z8];exact hg⟩
  ·rw [decide_eq_false hy,if_neg (by decide)];obtain rfl:m=0:=by omega
   rw [Nat.gcd_zero_right] at hg;subst hg;have dn:((aPV n.natAbs d.natAbs:Nat):Int)∣n:=aXJ.mpr (aYZ _ _);have dd:((aPV n.natAbs d.natAbs:Nat):Int)∣d:=aXJ.mpr (aYQ _ _);have g0:((aPV n.natAbs d.natAbs:Nat):Int)≠0:=(pZ (i:=0) (n:=n) hd hb).1;have gP:∀{g m:Int},g≠0->g∣m->m.fdiv (-g)=(-m)/g:=λ{g m} h0 hm=>by
    obtain ⟨k,rfl⟩:=hm;have e1:g*k=(-g)*(-k):=by grind
    have e2:-(g*k)=g*(-k):=by grind
    rw [e2,aWX _ h0,e1,aZ7 _ (by omega)]
   show if decide (0<d)=true then _ else _
   by_cases h:0<d
   ·rw [decide_eq_true h,if_pos rfl];refine ⟨aA9 (by decide),?_⟩;rw [Int.mul_one];refine ⟨pZ hd hb,pZ hd hb,rfl,?_⟩;unfold low oX kN at q;rw [if_pos h,if_pos h,<-aEX,<-aEX] at q;exact q
   ·rw [decide_eq_false h,if_neg (by decide)];have cz:∀i:Int,sI i (-((aPV n.natAbs d.natAbs:Nat):Int)):=λi=>⟨by omega,by rw [aYU];exact (pZ (i:=i) (n:=n) hd hb).2⟩;refine ⟨aA9 (by decide),?_⟩;rw [Int.mul_neg_one];refine ⟨cz _,cz _,rfl,?_⟩;unfold low oX kN at q;rw [if_neg h,if_neg h,<-gP g0 dn,<-gP g0 dd] at q;exact q
abbrev aLI:bAY:=top 46
theorem aQO:aP ["_law_one","_law_other"] ["_law_one","_law_other"] (aH aLI):=⟨rfl,rfl,rfl,by decide +kernel,rfl,by decide +kernel,by decide +kernel⟩
theorem aP3 {f:bAO} {fd:bAS} (F:dA K "_law_sum" "_law_sum" aLI f fd) (TX:Txt mg) (g_lowest:Fn P w K mg base 1 "_law_lowest" ["_law_n","_law_d"] (aK K sG))   : bI P w K mg base dQ 2 f fd ["_law_one","_law_other"] (aK K (kG jG)):=by
 refine F.okT aQO ?len (λcdv A outer s H E hr=>(aG (aM (aF g_lowest hr (by omega) rfl (fc (aY bK (aW bO (aI rfl (fv 0) aB (λ_ _=>rfl)) (aI rfl (fv 1) aB (λ_ _=>rfl))) (aW bO (aI rfl (fv 1) aB (λ_ _=>rfl)) (aI rfl (fv 0) aB (λ_ _=>rfl)))) (fc (aW bO (aI rfl (fv 0) aB (λ_ _=>rfl)) (aI rfl (fv 1) aB (λ_ _=>rfl))) aA)))))) ?rd
 case len=>rintro as Q ⟨x,y,rfl,_⟩;rfl
 case rd=>
  rintro as Q ⟨x,y,rfl,hx,hy,hs,q⟩;have hd:(x.2*y.2).natAbs<2^8000:=wV (c7 (cE x) (cE y)) (by omega);exact ⟨kZ (e:=7900) (pl (iN x) (by omega)) (pl (cE y) (by omega)) (by decide),kZ (e:=7900) (pl (iN y) (by omega)) (pl (cE x) (by omega)) (by decide),kZ (e:=7900) (pl (cE x) (by omega)) (pl (cE y) (by omega)) (by decide),_,_,rfl,eI hx hy,hd,rfl,q⟩
abbrev aCH:bAY:=top 48
theorem aMI:aP ["_law_one","_law_other"] ["_law_one","_law_other"] (aH aCH):=⟨rfl,rfl,rfl,by decide +kernel,rfl,by decide +kernel,by decide +kernel⟩
theorem aMT {f:bAO} {fd:bAS} (F:dA K "_law_less" "_law_less" aCH f fd) (TX:Txt mg) (g_lowest:Fn P w K mg base 1 "_law_lowest" ["_law_n","_law_d"] (aK K sG))   : bI P w K mg base dQ 2 f fd ["_law_one","_law_other"] (aK K (kG hJ)):=by
 refine F.okT aMI ?len (λcdv A outer s H E hr=>(aG (aM (aF g_lowest hr (by omega) rfl (fc (aY pL (aW bO (aI rfl (fv 0) aB (λ_ _=>rfl)) (aI rfl (fv 1) aB (λ_ _=>rfl))) (aW bO (aI rfl (fv 1) aB (λ_ _=>rfl)) (aI rfl (fv 0) aB (λ_ _=>rfl)))) (fc (aW bO (aI rfl (fv 0) aB (λ_ _=>rfl)) (aI rfl (fv 1) aB (λ_ _=>rfl))) aA)))))) ?rd
 case len=>rintro as Q ⟨x,y,rfl,_⟩;rfl
 case rd=>
  rintro as Q ⟨x,y,rfl,hx,hy,hs,q⟩;have hd:(x.2*y.2).natAbs<2^8000:=wV (c7 (cE x) (cE y)) (by omega);exact ⟨kZ (e:=7900) (pl (iN x) (by omega)) (pl (cE y) (by omega)) (by decide),kZ (e:=7900) (pl (iN y) (by omega)) (pl (cE x) (by omega)) (by decide),kZ (e:=7900) (pl (cE x) (by omega)) (pl (cE y) (by omega)) (by decide),_,_,rfl,eI hx hy,hd,rfl,q⟩
abbrev oD:bAY:=top 47
theorem aBL:aP ["_law_one","_law_other"] ["_law_one","_law_other"] (aH oD):=⟨rfl,rfl,rfl,by decide +kernel,rfl,by decide +kernel,by decide +kernel⟩
theorem aCV {f:bAO} {fd:bAS} (F:dA K "_law_product" "_law_product" oD f fd) (TX:Txt mg) (g_lowest:Fn P w K mg base 1 "_law_lowest" ["_law_n","_law_d"] (aK K sG))   : bI P w K mg base dQ 2 f fd ["_law_one","_law_other"] (aK K (kG fS)):=by
 refine F.okT aBL ?len (λcdv A outer s H E hr=>(aG (aM (aF g_lowest hr (by omega) rfl (fc (aW bO (aI rfl (fv 0) aB (λ_ _=>rfl)) (aI rfl (fv 1) aB (λ_ _=>rfl))) (fc (aW bO (aI rfl (fv 0) aB (λ_ _=>rfl)) (aI rfl (fv 1) aB (λ_ _=>rfl))) aA)))))) ?rd
 case len=>rintro as Q ⟨x,y,rfl,_⟩;rfl
 case rd=>
  rintro as Q ⟨x,y,rfl,hx,hy,hs,q⟩;have hd:(x.2*y.2).natAbs<2^8000:=wV (c7 (cE x) (cE y)) (by omega);exact ⟨kZ (e:=7900) (pl (iN x) (by omega)) (pl (iN y) (by omega)) (by decide),kZ (e:=7900) (pl (cE x) (by omega)) (pl (cE y) (by omega)) (by decide),_,_,rfl,eI hx hy,hd,rfl,q⟩
def aKU:fR:=λas Q=>∃(x y p q:Fr) (e f:Nat),as=[.v (vc x y),.v (vc p q)]/\Nv x y e/\Nv p q f/\e+f<=7000/\Q (.v (vc (jG x p) (jG y q))) []
abbrev tI:bAY:=top 49
theorem aGE:aP ["_law_one","_law_other"] ["_law_one","_law_other"] (aH tI):=⟨rfl,rfl,rfl,by decide +kernel,rfl,by decide +kernel,by decide +kernel⟩
theorem aGC {f:bAO} {fd:bAS} (F:dA K "_law_joined" "_law_joined" tI f fd) (TX:Txt mg) (g_sum:Fn P w K mg base 2 "_law_sum" ["_law_one","_law_other"] (aK K (kG jG)))   : bI P w K mg base dQ 3 f fd ["_law_one","_law_other"] (aK K aKU):=by
 refine F.okT aGE ?len (λcdv A outer s H E hr=>(aG (aM (aT (fc (aF g_sum hr (by omega) rfl (fc (aI rfl (fv 0) aB (λ_ _=>rfl)) (fc (aI rfl (fv 1) aB (λ_ _=>rfl)) aA))) (fc (aF g_sum hr (by omega) rfl (fc (aI rfl (fv 0) aB (λ_ _=>rfl)) (fc (aI rfl (fv 1) aB (λ_ _=>rfl)) aA))) aA)))))) ?rd
 case len=>rintro as Q ⟨x,y,p,q,e,f,rfl,_⟩;rfl
 case rd=>
  rintro as Q ⟨x,y,p,q,e,f,rfl,h,k,hs,z⟩;have:=h.sx;have:=h.sy;have:=k.sx;have:=k.sy;exact ⟨_,_,rfl,h.x,k.x,by omega,_,_,rfl,h.y,k.y,by omega,rfl,z⟩
abbrev aID:bAY:=top 50
theorem aSQ:aP ["_law_one","_law_other"] ["_law_one","_law_other"] (aH aID):=⟨rfl,rfl,rfl,by decide +kernel,rfl,by decide +kernel,by decide +kernel⟩
theorem aRW {f:bAO} {fd:bAS} (F:dA K "_law_off" "_law_off" aID f fd) (TX:Txt mg) (g_less:Fn P w K mg base 2 "_law_less" ["_law_one","_law_other"] (aK K (kG hJ)))   : bI P w K mg base dQ 3 f fd ["_law_one","_law_other"] (aK K aFF):=by
 refine F.okT aSQ ?len (λcdv A outer s H E hr=>(aG (aM (aT (fc (aF g_less hr (by omega) rfl (fc (aI rfl (fv 0) aB (λ_ _=>rfl)) (fc (aI rfl (fv 1) aB (λ_ _=>rfl)) aA))) (fc (aF g_less hr (by omega) rfl (fc (aI rfl (fv 0) aB (λ_ _=>rfl)) (fc (aI rfl (fv 1) aB (λ_ _=>rfl)) aA))) aA)))))) ?rd
 case len=>rintro as Q ⟨x,y,p,q,e,f,rfl,_⟩;rfl
 case rd=>
  rintro as Q ⟨x,y,p,q,e,f,rfl,h,k,hs,z⟩;have:=h.sx;have:=h.sy;have:=k.sx;have:=k.sy;exact ⟨_,_,rfl,h.x,k.x,by omega,_,_,rfl,h.y,k.y,by omega,rfl,z⟩
def aDI:fR:=λas Q=>∃(x y b:Fr) (e:Nat),as=[.v (vc x y),.v (fr b)]/\Nv x y e/\dS b/\e+sz b<=7000/\Q (.v (vc (fS x b) (fS y b))) []
abbrev kJ:bAY:=top 51
theorem wJ:aP ["_law_vector","_law_share"] ["_law_vector","_law_share"] (aH kJ):=⟨rfl,rfl,rfl,by decide +kernel,rfl,by decide +kernel,by decide +kernel⟩
theorem vS {f:bAO} {fd:bAS} (F:dA K "_law_scaled_by" "_law_scaled_by" kJ f fd) (TX:Txt mg) (g_product:Fn P w K mg base 2 "_law_product" ["_law_one","_law_other"] (aK K (kG fS)))   : bI P w K mg base dQ 3 f fd ["_law_vector","_law_share"] (aK K aDI):=by
 refine F.okT wJ ?len (λcdv A outer s H E hr=>(aG (aM (aT (fc (aF g_product hr (by omega) rfl (fc (aI rfl (fv 0) aB (λ_ _=>rfl)) (fc (fv 1) aA))) (fc (aF g_product hr (by omega) rfl (fc (aI rfl (fv 0) aB (λ_ _=>rfl)) (fc (fv 1) aA))) aA)))))) ?rd
 case len=>rintro as Q ⟨x,y,b,e,rfl,_⟩;rfl
 case rd=>
  rintro as Q ⟨x,y,b,e,rfl,h,hb,hs,z⟩;have:=h.sx;have:=h.sy;exact ⟨_,_,rfl,h.x,hb,by omega,_,_,rfl,h.y,hb,by omega,rfl,z⟩
abbrev pC:bAY:=top 54
theorem aCL:aP ["_law_vector"] ["_law_vector"] (aH pC):=⟨rfl,rfl,rfl,by decide +kernel,rfl,by decide +kernel,by decide +kernel⟩
theorem aCC {f:bAO} {fd:bAS} (F:dA K "_law_to_left" "_law_to_left" pC f fd) (TX:Txt mg)    : bI P w K mg base dQ 1 f fd ["_law_vector"] (aK K aHS):=by
 refine F.okT aCL ?len (λcdv A outer s H E hr=>(aG (aM (aT (fc (aT (fc (gF (aI rfl (aI rfl (fv 0) aB (λ_ _=>rfl)) aB (λ_ _=>rfl))) (fc (aI rfl (aI rfl (fv 0) aB (λ_ _=>rfl)) aB (λ_ _=>rfl)) aA))) (fc (aI rfl (fv 0) aB (λ_ _=>rfl)) aA)))))) ?rd
 case len=>rintro as Q ⟨x,y,rfl,_⟩;rfl
 case rd=>
  rintro as Q ⟨x,y,rfl,q⟩;exact ⟨rfl,q⟩
def un0 (k:Nat):Fr×Fr:=match k with
 | 0=>((1,1),(0,1)) | 1=>((4,5),(3,5)) | 2=>((3,5),(4,5)) | 3=>((12,13),(5,13)) | _=>((5,13),(12,13))
def aE3:Nat->Fr×Fr->Fr×Fr
 | 0,p=>p
 | n+1,p=>let q:=aE3 n p;(gP q.2,q.1)
def un (k:Nat):Fr×Fr:=aE3 (k/5%4) (un0 (k%5))
def unT (k:Nat):L2.T:=vc (un k).1 (un k).2
theorem aKF (k:Nat) (h:k<20):UnE (un k).1 (un k).2 4:=by
 have n0:∀j,j<5->UnE (un0 j).1 (un0 j).2 4:=λj hj=>by
  have:j=0\/j=1\/j=2\/j=3\/j=4:=by omega
  have mk:∀a b c:Int,0<c->aPV a.natAbs c.natAbs=1->aPV b.natAbs c.natAbs=1->a.natAbs<2^4->b.natAbs<2^4->c.natAbs<2^4->a*a+b*b=c*c->UnE (a,c) (b,c) 4:=λa b c c0 g1 g2 a4 b4 c4 e=>by
   refine ⟨⟨⟨c0,g1⟩,⟨c0,g2⟩,pR a4 c4 (by decide),pR b4 c4 (by decide)⟩,?_⟩;show (a:Rat)/(c:Rat)*((a:Rat)/(c:Rat))+(b:Rat)/(c:Rat)*((b:Rat)/(c:Rat))=1;have nz:(c:Rat)≠0:=by exact_mod_cast (show c≠0 by omega)
   have e':(a:Rat)*a+b*b=c*c:=by exact_mod_cast e
   grind
  rcases this with rfl | rfl | rfl | rfl | rfl
  ·exact mk 1 0 1 (by decide) (by decide) (by decide) (by decide) (by decide) (by decide) (by decide)
  ·exact mk 4 3 5 (by decide) (by decide) (by decide) (by decide) (by decide) (by decide) (by decide)
  ·exact mk 3 4 5 (by decide) (by decide) (by decide) (by decide) (by decide) (by decide) (by decide)
  ·exact mk 12 5 13 (by decide) (by decide) (by decide) (by decide) (by decide) (by decide) (by decide)
  ·exact mk 5 12 13 (by decide) (by decide) (by decide) (by decide) (by decide) (by decide) (by decide)
 have nr:∀n p,UnE p.1 p.2 4->UnE (aE3 n p).1 (aE3 n p).2 4:=λn p hp=>by
  induction n with
  | zero=>exact hp
  | succ n ih=>exact ih.left
 exact nr _ _ (n0 _ (aY0 _ (by decide)))
theorem aT7:∀j k:Fin 20,j≠k->un j.1≠un k.1:=by decide +kernel
def tUnitOf':fR:=λas Q=>∃k:Nat,as=[.v (.int (k:Int))]/\k<20/\Q (.v (unT k)) []
abbrev oP:bAY:=top 55
theorem iC:aP ["_law_k","_law_some","_law_found","_law_turn"] ["_law_k"] (aH oP):=⟨rfl,rfl,rfl,by decide +kernel,rfl,by decide +kernel,by decide +kernel⟩
theorem aCR {f:bAO} {fd:bAS} (F:dA K "_law_unit_of" "_law_unit_of" oP f fd) (TX:Txt mg) (g_to_left:Fn P w K mg base 1 "_law_to_left" ["_law_vector"] (aK K aHS))   : bI P w K mg base dQ 2 f fd ["_law_k"] (aK K tUnitOf'):=by
 refine F.okT iC ?len (λcdv A outer s H E hr=>(aC (aV (i:=1) iC.nd rfl (aIW rfl) (eU (fc (aT (fc (aT (fc aB (fc aB aA))) (fc (aT (fc aB (fc aB aA))) aA))) (fc (aT (fc (aT (fc aB (fc aB aA))) (fc (aT (fc aB (fc aB aA))) aA))) (fc (aT (fc (aT (fc aB (fc aB aA))) (fc (aT (fc aB (fc aB aA))) aA))) (fc (aT (fc (aT (fc aB (fc aB aA))) (fc (aT (fc aB (fc aB aA))) aA))) (fc (aT (fc (aT (fc aB (fc aB aA))) (fc (aT (fc aB (fc aB aA))) aA))) aA)))))))
 (aC (aV (i:=2) iC.nd rfl (aIW rfl) (aI rfl (fv 1) (aW gM (fv 0) aB) (λ_ _=>rfl)))
 (aC (j6 PassesOwn.never rfl (jL rfl TX.n_range (fc (aW gM (aW cJ (fv 0) aB) aB) aA)) (bG (i:=3) iC.nd rfl (aIW rfl))
  (aG (aV (i:=2) iC.nd rfl (aIW rfl) (aF g_to_left hr (by omega) rfl (fc (fv 2) aA)))))
 (aG (aM (fv 2))))))) ?rd
 case len=>rintro as Q ⟨k,rfl,_⟩;rfl
 case rd=>
  rintro as Q ⟨k,rfl,hk,q⟩;refine ⟨by show (0:Int)<5;decide,?_⟩;have at0:∀j:Nat,j<5->c8 [L2.T.tup [.tup [.int 1,.int 1],.tup [.int 0,.int 1]],.tup [.tup [.int 4,.int 5],.tup [.int 3,.int 5]],.tup [.tup [.int 3,.int 5],.tup [.int 4,.int 5]],.tup [.tup [.int 12,.int 13],.tup [.int 5,.int 13]],.tup [.tup [.int 5,.int 13],.tup [.int 12,.int 13]]] (j:Int)=some (vc (un0 j).1 (un0 j).2):=λj hj=>by
   have:j=0\/j=1\/j=2\/j=3\/j=4:=by omega
   rcases this with rfl | rfl | rfl | rfl | rfl<;>rfl
  have em:((k:Int)%5)=((k%5:Nat):Int):=rfl;show o1 (c8 [L2.T.tup [.tup [.int 1,.int 1],.tup [.int 0,.int 1]],.tup [.tup [.int 4,.int 5],.tup [.int 3,.int 5]],.tup [.tup [.int 3,.int 5],.tup [.int 4,.int 5]],.tup [.tup [.int 12,.int 13],.tup [.int 5,.int 13]],.tup [.tup [.int 5,.int 13],.tup [.int 12,.int 13]]] ((k:Int)%5)) _;rw [em,at0 _ (aY0 _ (by decide))];have ek:((k:Int).fdiv 5%4)=((k/5%4:Nat):Int):=by
   rw [aV9 _ (by decide)];omega
  refine ⟨⟨by decide,by decide⟩,by show (0:Int)<4;decide,?_⟩;rw [ek];refine ⟨⟨by omega,by omega⟩,?_⟩;rw [aXM];refine dN (λi E=>∃v1 v3:Option U,E=[some (.p (.int (k:Int))),v1,some (.p (vc (aE3 i (un0 (k%5))).1 (aE3 i (un0 (k%5))).2)),v3]) ⟨_,_,rfl⟩ ?_ ?_
  ·rintro i t rest E hi ⟨v1,v3,rfl⟩ KK;exact ⟨_,_,rfl,KK _ ⟨_,_,rfl⟩⟩
  ·rintro E ⟨v1,v3,rfl⟩;have el:(sJ 0 (k/5%4)).length=k/5%4:=by simp [sJ]
   rw [el];exact ⟨rfl,q⟩
end
end My
namespace My
open PySem L2 PyProof.Rows
section
variable {P:bAR} {w:bAU} {K:W.Frag} {mg:Str->Option Value} {base:Heap}
inductive Mv where
 | side (x y m:Fr) | arc (x y u v r:Fr) (l:Bool)
def uE:Mv->L2.T
 | .side x y m=>.tup [.str "side",vc x y,fr m]
 | .arc x y u v r l=>.tup [.str "arc",vc x y,vc u v,fr r,.str (iR l)]
def mJ:Mv->Prop
 | .side x y m=>UnE x y 4/\dS m/\sz m<=4/\0<val m
 | .arc x y u v r _=>UnE x y 4/\UnE u v 4/\¬(x=u/\y=v)/\dS r/\sz r<=3/\0<val r
theorem aRZ:∀m:Mv,noL (uE m)=true
 | .side _ _ _=>rfl
 | .arc _ _ _ _ _ _=>rfl
theorem zB:∀ms:List Mv,cC (ms.map uE)=true
 | []=>rfl
 | m::ms=>by show (noL (uE m)&&cC (ms.map uE))=true;rw [aRZ,zB ms];rfl
theorem aAX {k:Int} {e:Nat} (h1:1<=k) (he:k.natAbs<2^e) (e0:0<e):dS (k,1)/\sz (k,1)<=e/\0<val (k,1):=by
 refine ⟨nU k,pR he (show (1:Int).natAbs<2^e from Nat.one_lt_two_pow (by omega)) e0,?_⟩;rw [aEY]
 exact_mod_cast (show 0<k by omega)
def aJ8:fR:=λas Q=>∃(xs:List L2.T) (n:Int),as=[.b xs,.v (.bl true)]/\Bx xs n/\n<=900000/\∀m ys,mJ m->Bx ys (n+5)->cC ys=true->Q (.v (uE m)) ys
abbrev pF:bAY:=top 56
theorem jW:aP ["_law_box","_law_arcs","_law_turn","_law_kind","_law_many","_law_first","_law_more"] ["_law_box","_law_arcs"] (aH pF):=⟨rfl,rfl,rfl,by decide +kernel,rfl,by decide +kernel,by decide +kernel⟩
theorem aBP {f:bAO} {fd:bAS} (F:dA K "_law_move_by" "_law_move_by" pF f fd) (TX:Txt mg) (g_take:Fn P w K mg base 1 "_law_take" ["_law_box","_law_many"] (aK K tL)) (g_unit_of:Fn P w K mg base 2 "_law_unit_of" ["_law_k"] (aK K tUnitOf'))   : bI P w K mg base dQ 3 f fd ["_law_box","_law_arcs"] (aK K aJ8):=by
 refine F.okT jW ?len (λcdv A outer s H E hr=>(aC (eB (i:=3) (j:=4) rfl jW.nd rfl rfl (by decide) rfl rfl (fc (bL g_take hr (by omega) rfl (fc (fv 0) (fc aB aA))) (fc (aY bK aB (bL g_take hr (by omega) rfl (fc (fv 0) (fc aB aA)))) aA)) rfl)
 (aC (eB (i:=5) (j:=6) rfl jW.nd rfl rfl (by decide) rfl rfl (fc (bL g_take hr (by omega) rfl (fc (fv 0) (fc aB aA))) (fc (aY bK aB (bL g_take hr (by omega) rfl (fc (fv 0) (fc aB aA)))) aA)) rfl)
 (aC (bP (gH (cF (cD (bQ (fv 1))) (cG (dU mU (fv 3) aB (aN _))))) (aG (aM (aT (fc aJ (fc (aF g_unit_of hr (by omega) rfl (fc (fv 5) aA)) (fc (aT (fc (fv 4) (fc aB aA))) aA)))))) bH)
 (aC (aV (i:=2) jW.nd rfl (aIW rfl) (aI rfl (eU (fc aJ (fc aJ aA))) (bL g_take hr (by omega) rfl (fc (fv 0) (fc aB aA))) (λ_ _=>rfl)))
 (aG (aM (aT (fc aJ (fc (aF g_unit_of hr (by omega) rfl (fc (fv 5) aA)) (fc (aF g_unit_of hr (by omega) rfl (fc (aW gM (aY bK (fv 5) (fv 6)) aB) aA)) (fc (aT (fc (aY bK aB (aW cJ (fv 4) aB)) (fc aB aA))) (fc (fv 2) aA))))))))))))) ?rd
 case len=>rintro as Q ⟨xs,n,rfl,_⟩;rfl
 case rd=>
  rintro as Q ⟨xs,n,rfl,hB,hn,q⟩;refine ⟨xs,3,n,rfl,hB,by omega,by decide,by decide,λkd y1 k0 k1 b1=>?_⟩;refine ⟨y1,11,n+1,rfl,b1,by omega,by decide,by decide,λmn y2 m0 m1 b2=>?_⟩;refine ⟨y2,20,n+1+1,rfl,b2,by omega,by decide,by decide,λfs y3 f0 f1 b3=>?_⟩;refine ⟨y3,19,n+1+1+1,rfl,b3,by omega,by decide,by decide,λmo y4 o0 o1' b4=>?_⟩;obtain ⟨f,rfl⟩:∃f:Nat,fs=(f:Int):=⟨fs.toNat,by omega⟩;have hf:f<20:=by omega
  obtain ⟨w1,w2,w3⟩:=aAX (k:=1+mn) (e:=4) (by omega) (by omega) (by decide);show if decide (0<kd)=true then _ else _
  by_cases c:0<kd
  ·rw [decide_eq_true c,if_pos rfl];obtain ⟨A,B,C,rfl,_⟩:=id b4;exact ⟨f,rfl,hf,rfl,q (.side (un f).1 (un f).2 (1+mn,1)) _ ⟨aKF f hf,w1,w2,w3⟩ (b4.mono (by omega)) rfl⟩
  ·rw [decide_eq_false c,if_neg (by decide)];refine ⟨y4,2,n+1+1+1+1,rfl,b4,by omega,by decide,by decide,λtn y5 t0 t1 b5=>?_⟩;obtain ⟨A,B,C,rfl,_⟩:=id b5;obtain ⟨l,hl⟩:∃l,c8 [L2.T.str (aA7 "left"),.str (aA7 "right")] tn=some (.str (iR l)):=by
    have:tn=0\/tn=1:=by omega
    rcases this with rfl | rfl
    ·exact ⟨true,rfl⟩
    ·exact ⟨false,rfl⟩
   show o1 (c8 [L2.T.str (aA7 "left"),.str (aA7 "right")] tn) _;rw [hl];refine ⟨f,rfl,hf,by show (0:Int)<20;decide,?_⟩;obtain ⟨g,hg⟩:∃g:Nat,((f:Int)+(1+mo))%20=(g:Int):=⟨(((f:Int)+(1+mo))%20).toNat,by omega⟩;have hg20:g<20:=by omega
   have hgf:f≠g:=by omega
   rw [hg];refine ⟨g,rfl,hg20,⟨by decide,by decide⟩,?_⟩;have er:(1+mn).fdiv 2=(1+mn)/2:=aV9 _ (by decide);rw [er];obtain ⟨r1,r2,r3⟩:=aAX (k:=1+(1+mn)/2) (e:=3) (by omega) (by omega) (by decide);exact ⟨rfl,q (.arc (un f).1 (un f).2 (un g).1 (un g).2 (1+(1+mn)/2,1) l) _ ⟨aKF f hf,aKF g hg20,λz=>aT7 ⟨f,hf⟩ ⟨g,hg20⟩ (by simpa using hgf) (Prod.ext z.1 z.2),r1,r2,r3⟩ (b5.mono (by omega)) rfl⟩
theorem oN {x:Fr} (h:dS x):fS x (-1,1)=gP x:=by
 have n1:dS ((-1,1):Fr):=nU (-1);refine m8 (eV h n1) (aDJ h) ?_;rw [cV h n1,aDK h,aEY];grind
def mvB:Mv->Mv
 | .side x y m=>.side (gP x) (gP y) m
 | .arc x y u v r l=>.arc (gP x) (gP y) (gP u) (gP v) r l
theorem aAM {x y:Fr} (h:gP x=gP y):x=y:=by
 have h1:=congrArg Prod.fst h;have h2:=congrArg Prod.snd h;simp only [gP] at h1 h2;exact Prod.ext (by omega) h2
theorem mJ.back:∀{m:Mv},mJ m->mJ (mvB m)
 | .side _ _ _,⟨u,h⟩=>⟨u.neg,h⟩
 | .arc _ _ _ _ _ _,⟨u,v,ne,h⟩=>⟨u.neg,v.neg,λz=>ne ⟨aAM z.1,aAM z.2⟩,h⟩
def xK:fR:=λas Q=>∃m:Mv,as=[.v (uE m)]/\mJ m/\Q (.v (uE (mvB m))) []
abbrev kO:bAY:=top 58
theorem xN:aP ["_law_move"] ["_law_move"] (aH kO):=⟨rfl,rfl,rfl,by decide +kernel,rfl,by decide +kernel,by decide +kernel⟩
theorem wY {f:bAO} {fd:bAS} (F:dA K "_law_move_back" "_law_move_back" kO f fd) (TX:Txt mg) (g_scaled_by:Fn P w K mg base 3 "_law_scaled_by" ["_law_vector","_law_share"] (aK K aDI))   : bI P w K mg base dQ 4 f fd ["_law_move"] (aK K xK):=by
 refine F.okT xN ?len (λcdv A outer s H E hr=>(aC (bP (dP rfl hr (aI rfl (fv 0) aB (λ_ _=>rfl)) aJ (aN _)) (aG (aM (aT (fc aJ (fc (aF g_scaled_by hr (by omega) rfl (fc (aI rfl (fv 0) aB (λ_ _=>rfl)) (fc (aT (fc (gF aB) (fc aB aA))) aA))) (fc (aI rfl (fv 0) aB (λ_ _=>rfl)) aA)))))) bH)
 (aG (aM (aT (fc aJ (fc (aF g_scaled_by hr (by omega) rfl (fc (aI rfl (fv 0) aB (λ_ _=>rfl)) (fc (aT (fc (gF aB) (fc aB aA))) aA))) (fc (aF g_scaled_by hr (by omega) rfl (fc (aI rfl (fv 0) aB (λ_ _=>rfl)) (fc (aT (fc (gF aB) (fc aB aA))) aA))) (fc (aI rfl (fv 0) aB (λ_ _=>rfl)) (fc (aI rfl (fv 0) aB (λ_ _=>rfl)) aA)))))))))) ?rd
 case len=>rintro as Q ⟨m,rfl,_⟩;rfl
 case rd=>
  rintro as Q ⟨m,rfl,h,q⟩;have n1:dS ((-1,1):Fr):=nU (-1);have s1:sz ((-1,1):Fr)<=1:=pR (e:=1) (by decide) (by decide) (by decide);cases m with
  | side x y m=>
   refine ⟨aB7 _,?_⟩;refine ⟨x,y,(-1,1),4,rfl,h.1.nv,n1,by omega,rfl,?_⟩;rw [oN h.1.nv.x,oN h.1.nv.y];exact q
  | arc x y u v r l=>
   refine ⟨aB7 _,?_⟩;refine ⟨x,y,(-1,1),4,rfl,h.1.nv,n1,by omega,u,v,(-1,1),4,rfl,h.2.1.nv,n1,by omega,rfl,?_⟩;rw [oN h.1.nv.x,oN h.1.nv.y,oN h.2.1.nv.x,oN h.2.1.nv.y];exact q
end
end My
namespace My
open PySem L2 PyProof.Rows
section
variable {P:bAR} {w:bAU} {K:W.Frag} {mg:Str->Option Value} {base:Heap}
theorem vG {x y b:Fr} {e f:Nat} (k:Nv x y f) (hb:dS b) (hs:sz b<=e):Nv (fS x b) (fS y b) (f+e):=by
 have:=k.sx;have:=k.sy;have m1:=oY k.x hb;have m2:=oY k.y hb;exact ⟨eV k.x hb,eV k.y hb,by omega,by omega⟩
theorem aK7 {p q x y:Fr} {e f:Nat} (h:Nv p q e) (k:Nv x y f):Nv (hJ p x) (hJ q y) (e+f+1):=by
 have:=h.sx;have:=h.sy;have:=k.sx;have:=k.sy;have m1:=wH h.x k.x;have m2:=wH h.y k.y;exact ⟨rB h.x k.x,rB h.y k.y,by omega,by omega⟩
theorem aHI {p q x y:Fr} {e f:Nat} (h:Nv p q e) (k:Nv x y f):Nv (jG p x) (jG q y) (e+f+1):=by
 have:=h.sx;have:=h.sy;have:=k.sx;have:=k.sy;have m1:=aBC h.x k.x;have m2:=aBC h.y k.y;exact ⟨wX h.x k.x,wX h.y k.y,by omega,by omega⟩
def mvP (a b:Fr):Mv->Pc
 | .side x y m=>.side (jG a (fS x m)) (jG b (fS y m))
 | .arc x y u v r l=>.arc (hJ a (fS x r)) (hJ b (fS y r)) (jG (hJ a (fS x r)) (fS u r)) (jG (hJ b (fS y r)) (fS v r)) l
theorem aQT {a b:Fr} {e:Nat} (h:Nv a b e):∀{m:Mv},mJ m->sH (e+16) a b (mvP a b m)
 | .side x y m,⟨u,nm,sm,pm⟩=>by
  have s:=vG u.nv nm sm;refine ⟨(aHI h s).up (by omega),val m,pm,?_⟩;unfold mX;rw [jZ h.x s.x,jZ h.y s.y,cV u.nv.x nm,cV u.nv.y nm];have:=u.one;have e1:(val a+val x*val m-val a)*(val a+val x*val m-val a)+(val b+val y*val m-val b)*(val b+val y*val m-val b)=(val x*val x+val y*val y)*(val m*val m):=by grind
  rw [e1,this];grind
 | .arc x y u v r l,⟨uu,uv,ne,nr,sr,pr⟩=>by
  have s:=vG uu.nv nr sr;have t:=vG uv.nv nr sr;have m:=aK7 h s;have z:=aHI m t;have o1:=uu.one;have o2:=uv.one;refine ⟨m.up (by omega),z.up (by omega),λc=>?_,val r,pr,?_,?_⟩
  ·have c1:=congrArg val c.1;have c2:=congrArg val c.2;rw [jZ m.x t.x,iV h.x s.x,cV uu.nv.x nr,cV uv.nv.x nr] at c1;rw [jZ m.y t.y,iV h.y s.y,cV uu.nv.y nr,cV uv.nv.y nr] at c2;have r0:val r≠0:=by grind
   have e1:val x=val u:=by
    have:(val u-val x)*val r=0:=by grind
    rcases Rat.mul_eq_zero.mp this with q | q<;>grind
   have e2:val y=val v:=by
    have:(val v-val y)*val r=0:=by grind
    rcases Rat.mul_eq_zero.mp this with q | q<;>grind
   exact ne ⟨m8 uu.nv.x uv.nv.x e1,m8 uu.nv.y uv.nv.y e2⟩
  ·unfold mX;rw [iV h.x s.x,iV h.y s.y,cV uu.nv.x nr,cV uu.nv.y nr];have e1:(val a-(val a-val x*val r))*(val a-(val a-val x*val r))+(val b-(val b-val y*val r))*(val b-(val b-val y*val r))=(val x*val x+val y*val y)*(val r*val r):=by grind
   rw [e1,o1];grind
  ·unfold mX;rw [jZ m.x t.x,jZ m.y t.y,iV h.x s.x,iV h.y s.y,cV uu.nv.x nr,cV uu.nv.y nr,cV uv.nv.x nr,cV uv.nv.y nr];have e1:(val a-val x*val r+val u*val r-(val a-val x*val r))*(val a-val x*val r+val u*val r-(val a-val x*val r))+(val b-val y*val r+val v*val r-(val b-val y*val r))*(val b-val y*val r+val v*val r-(val b-val y*val r))=(val u*val u+val v*val v)*(val r*val r):=by grind
   rw [e1,o2];grind
def rT:fR:=λas Q=>∃(a b:Fr) (ms:List Mv),as=[.v (vc a b),.v (.lst (ms.map uE))]/\Nv a b 3/\(∀m∈ms,mJ m)/\ms≠[]/\ms.length<=10/\∀ps,ps≠[]->ps.length<=10->i6 163 a b ps->Q (.v (lZ a b ps)) []
abbrev pI:bAY:=top 57
theorem fN:aP ["_law_start","_law_moves","_law_move","_law_at","_law_pieces","_law_middle"] ["_law_start","_law_moves"] (aH pI):=⟨rfl,rfl,rfl,by decide +kernel,rfl,by decide +kernel,by decide +kernel⟩
theorem aC7 {f:bAO} {fd:bAS} (F:dA K "_law_path_of" "_law_path_of" pI f fd) (TX:Txt mg) (g_joined:Fn P w K mg base 3 "_law_joined" ["_law_one","_law_other"] (aK K aKU)) (g_off:Fn P w K mg base 3 "_law_off" ["_law_one","_law_other"] (aK K aFF)) (g_scaled_by:Fn P w K mg base 3 "_law_scaled_by" ["_law_vector","_law_share"] (aK K aDI))   : bI P w K mg base dQ 4 f fd ["_law_start","_law_moves"] (aK K rT):=by
 refine F.okT fN ?len (λcdv A outer s H E hr=>(aC (eB (i:=3) (j:=4) rfl fN.nd rfl rfl (by decide) rfl rfl (fc (fv 0) (fc (eU aA) aA)) rfl)
 (aC (j6 PassesOwn.never rfl (vZ rfl (fv 1)) (bG (i:=2) fN.nd rfl (aIW rfl))
  (aG (bP (dP rfl hr (aI rfl (fv 2) aB (λ_ _=>rfl)) aJ (aN _)) (aC (aV (i:=3) fN.nd rfl (aIW rfl) (aF g_joined hr (by omega) rfl (fc (fv 3) (fc (aF g_scaled_by hr (by omega) rfl (fc (aI rfl (fv 2) aB (λ_ _=>rfl)) (fc (aI rfl (fv 2) aB (λ_ _=>rfl)) aA))) aA))))
 (aG (iW (eN rfl (fv 4) (fc (aT (fc aJ (fc (fv 3) aA))) aA))))) (aC (aV (i:=5) fN.nd rfl (aIW rfl) (aF g_off hr (by omega) rfl (fc (fv 3) (fc (aF g_scaled_by hr (by omega) rfl (fc (aI rfl (fv 2) aB (λ_ _=>rfl)) (fc (aI rfl (fv 2) aB (λ_ _=>rfl)) aA))) aA))))
 (aC (aV (i:=3) fN.nd rfl (aIW rfl) (aF g_joined hr (by omega) rfl (fc (fv 5) (fc (aF g_scaled_by hr (by omega) rfl (fc (aI rfl (fv 2) aB (λ_ _=>rfl)) (fc (aI rfl (fv 2) aB (λ_ _=>rfl)) aA))) aA))))
 (aG (iW (eN rfl (fv 4) (fc (aT (fc aJ (fc (fv 5) (fc (fv 3) (fc (aI rfl (fv 2) aB (λ_ _=>rfl)) aA))))) aA)))))))))
 (aG (aM (aT (fc (fv 0) (fc (sW rfl rfl TX.n_tuple (fc (fv 4) aA)) aA)))))))) ?rd
 case len=>rintro as Q ⟨a,b,ms,rfl,_⟩;rfl
 case rd=>
  rintro as Q ⟨a,b,ms,rfl,nv,hm,hn,hl,q⟩;refine dN (λi E=>∃(v2 v5:Option U) (ps:List Pc) (hx hy:Fr),E=[some (.p (vc a b)),some (.p (.lst (ms.map uE))),v2,some (.p (vc hx hy)),some (.o false (ps.map pY)),v5]/\ps.length=i/\i6 163 a b ps/\hx=uI a ps/\hy=vO b ps/\Nv hx hy (3+16*i)) ⟨_,_,[],a,b,rfl,rfl,trivial,rfl,rfl,nv⟩ ?_ ?_
  ·rintro i t rest E hi ⟨v2,v5,ps,hx,hy,rfl,hp,ch,ex,ey,hv⟩ KK;rw [aEO] at hi;cases hq:ms[i]? with
   | none=>rw [hq] at hi;cases hi
   | some m=>
    rw [hq] at hi;cases hi;have hi10:i<ms.length:=(aA8.mp hq).1;have ok:=hm m (aIR hq);have op:=aQT hv ok;have op':sH 163 (uI a ps) (vO b ps) (mvP hx hy m):=by rw [<-ex,<-ey];exact op.up (by omega)
    have nx:=(sH.nv op).up (show 3+16*i+16<=3+16*(i+1) by omega);have done:∀v2 v5,∃(v2' v5':Option U) (ps':List Pc) (hx' hy':Fr),[some (.p (vc a b)),some (.p (.lst (ms.map uE))),v2,some (.p (vc (mvP hx hy m).px (mvP hx hy m).py)),some (.o false (ps.map pY++[pY (mvP hx hy m)])),v5]=[some (.p (vc a b)),some (.p (.lst (ms.map uE))),v2',some (.p (vc hx' hy')),some (U.o false (ps'.map pY)),v5']/\ps'.length=i+1/\i6 163 a b ps'/\hx'=uI a ps'/\hy'=vO b ps'/\Nv hx' hy' (3+16*(i+1)):=λv2 v5=>
     ⟨v2,v5,ps++[mvP hx hy m],_,_,by rw [aW5];rfl,by simp [hp],rK ch op',(rQ ps a _).symm,(sA ps b _).symm,nx⟩
    have lp:(ps.map pY++[pY (mvP hx hy m)]).length<=1000:=by simp;omega
    cases m with
    | side x y m=>
     refine ⟨aB7 _,?_⟩;have s:=vG ok.1.nv ok.2.1 ok.2.2.1;have sm:=ok.2.2.1;refine ⟨x,y,m,4,rfl,ok.1.nv,ok.2.1,by omega,?_⟩;refine ⟨hx,hy,_,_,3+16*i,4+4,rfl,hv,s,by omega,?_⟩;exact ⟨lp,KK _ (done _ _)⟩
    | arc x y u v r l=>
     obtain ⟨o1,o2,o3,o4,o5,o6⟩:=id ok;refine ⟨aB7 _,?_⟩;have s:=vG o1.nv o4 o5;have t:=vG o2.nv o4 o5;refine ⟨x,y,r,4,rfl,o1.nv,o4,by omega,?_⟩;refine ⟨hx,hy,_,_,3+16*i,4+3,rfl,hv,s,by omega,?_⟩;refine ⟨u,v,r,4,rfl,o2.nv,o4,by omega,?_⟩;refine ⟨_,_,_,_,3+16*i+(4+3)+1,4+3,rfl,aK7 hv s,t,by omega,?_⟩;exact ⟨lp,KK _ (done _ _)⟩
  ·rintro E ⟨v2,v5,ps,hx,hy,rfl,hp,ch,ex,ey,hv⟩;rw [aG5] at hp;exact ⟨nA a b ps (kL ps),q ps (by intro z;rw [z] at hp;exact hn (aVQ hp.symm)) (by omega) ch⟩
end
end My
namespace My
open PySem L2 PyProof.Rows
section
variable {P:bAR} {w:bAU} {K:W.Frag} {mg:Str->Option Value} {base:Heap}
theorem aNB {c:Bool} {Fa Fb:FE} {E:En} {κ:L2.R->En->Prop} (R:L2.R->Prop) (ha:c=true->∀κ',(∀u,R u->κ' u E)->Fa E κ') (hb:c=false->∀κ',(∀u,R u->κ' u E)->Fb E κ') (hk:∀u,R u->κ u E):if c=true then Fa E κ else Fb E κ:=by
 cases c with
 | true=>exact ha rfl κ hk
 | false=>exact hb rfl κ hk
def wM:fR:=λas Q=>∃(xs:List L2.T) (n k:Int),as=[.b xs,.v (.int k)]/\Bx xs n/\n<=800000/\1<=k/\k<=9/\∀a b ps ys,Nv a b 3->ps≠[]->ps.length<=10->i6 163 a b ps->Bx ys (n+70)->cC ys=true->Q (.v (lZ a b ps)) ys
theorem aD9 {L:List L2.T} (h:∀t∈L,∃m,t=uE m/\mJ m):∃ms:List Mv,L=ms.map uE/\∀m∈ms,mJ m:=by
 induction L with
 | nil=>exact ⟨[],rfl,by simp⟩
 | cons t L ih=>
  obtain ⟨m,e,ok⟩:=h t (by simp);obtain ⟨ms,e2,ok2⟩:=ih λt ht=>h t (aJF _ ht);refine ⟨m::ms,by rw [e,e2];rfl,λm' hm'=>?_⟩;rcases aH1.mp hm' with rfl | hm'
  ·exact ok
  ·exact ok2 m' hm'
theorem xS {L:List L2.T} (h:∀t∈L,∃m,t=uE m/\mJ m):cC L=true:=by
 obtain ⟨ms,rfl,_⟩:=aD9 h;exact zB ms
theorem aHU {s t:Int} (s0:0<=s) (s1:s<9) (t0:0<=t) (t1:t<9):Nv (s-4,1) (t-4,1) 3:=
 ⟨nU _,nU _,pR (show (s-4).natAbs<2^3 by omega) (show (1:Int).natAbs<2^3 by decide) (by decide),pR (show (t-4).natAbs<2^3 by omega) (show (1:Int).natAbs<2^3 by decide) (by decide)⟩
abbrev o9:bAY:=top 59
theorem eM:aP ["_law_box","_law_most","_law_start","_law_moves","_law_way","_law_many","_law_left"] ["_law_box","_law_most"] (aH o9):=⟨rfl,rfl,rfl,by decide +kernel,rfl,by decide +kernel,by decide +kernel⟩
theorem aBE {f:bAO} {fd:bAS} (F:dA K "_law_path_by" "_law_path_by" o9 f fd) (TX:Txt mg) (g_take:Fn P w K mg base 1 "_law_take" ["_law_box","_law_many"] (aK K tL)) (g_move_by:Fn P w K mg base 3 "_law_move_by" ["_law_box","_law_arcs"] (aK K aJ8)) (g_move_back:Fn P w K mg base 4 "_law_move_back" ["_law_move"] (aK K xK)) (g_path_of:Fn P w K mg base 4 "_law_path_of" ["_law_start","_law_moves"] (aK K rT))   : bI P w K mg base dQ 5 f fd ["_law_box","_law_most"] (aK K wM):=by
 refine F.okT eM ?len (λcdv A outer s H E hr=>(aC (eB (i:=4) (j:=5) rfl eM.nd rfl rfl (by decide) rfl rfl (fc (bL g_take hr (by omega) rfl (fc (fv 0) (fc aB aA))) (fc (aY bK aB (bL g_take hr (by omega) rfl (fc (fv 0) (fc (fv 1) aA)))) aA)) rfl)
 (aC (aV (i:=2) eM.nd rfl (aIW rfl) (aT (fc (aT (fc (aY pL (bL g_take hr (by omega) rfl (fc (fv 0) (fc aB aA))) aB) (fc aB aA))) (fc (aT (fc (aY pL (bL g_take hr (by omega) rfl (fc (fv 0) (fc aB aA))) aB) (fc aB aA))) aA))))
 (aC (aDE (i:=3) (N':=["_law_turn","_law_box"]) (t:=1) (cap:=[(0,true)]) eM.nd rfl (aIW rfl) rfl rfl (cW.of rfl) rfl (by decide) (jL rfl TX.n_range (fc (kE (dU iU (fv 4) aB (aN _)) (fv 5) (aY bK aB (aW cJ (fv 5) aB))) aA)) (λ_ _ _ _=>(bG (i:=0) (show aYK (["_law_turn","_law_box"]:List Str) by decide +kernel) rfl (aIW rfl) (aX8 rfl))) (λ_ _ _ _=>(bL g_move_by hr (by omega) rfl (fc (fv 1) (fc gU aA)))))
 (aC (bP (dU mU (fv 4) aB (aN _)) (aC (aV (i:=6) eM.nd rfl (aX8 rfl) (gG (fv 3) (nL (N':=["_law_move"]) (t:=1) (cap:=[]) rfl (cW.of rfl) rfl (by decide) (vZ rfl (fv 3)) (λ_ _ _ _=>(bG (i:=0) (show aYK (["_law_move"]:List Str) by decide +kernel) rfl (aIW rfl) (aX8 rfl))) (λ_ _ _ _=>(aF g_move_back hr (by omega) rfl (fc (fv 0) aA))))))
 (aC (aN8 (i:=3) eM.nd rfl (aIW rfl) (fv 6))
 (aG (bP (dP rfl hr (fv 4) aB (aN _)) (aG (aN2 (i:=3) (N':=["_law_turn","_law_left","_law_box"]) (t:=1) (cap:=[(6,true),(0,true)]) eM.nd rfl (aIW rfl) rfl rfl (cW.of rfl) (by decide) (jL rfl TX.n_range (fc (cL rfl rfl TX.n_len (fc (fv 6) aA)) aA)) (λ_ _ _ _=>(aIY (i:=0) (show aYK (["_law_turn","_law_left","_law_box"]:List Str) by decide +kernel) rfl (aIW rfl) (aX8 rfl))) (λ_ _ _ _=>(aRJ rfl (fv 1) (fc (bL g_take hr (by omega) rfl (fc (fv 2) (fc (cL rfl rfl TX.n_len (fc (fv 1) aA)) aA))) aA))))) bH)))) bH)
 (aG (aM (aF g_path_of hr (by omega) rfl (fc (fv 2) (fc (fv 3) aA)))))))))) ?rd
 case len=>rintro as Q ⟨xs,n,k,rfl,_⟩;rfl
 case rd=>
  rintro as Q ⟨xs,n,k,rfl,hB,hn,hk1,hk9,q⟩;refine ⟨xs,4,n,rfl,hB,by omega,by decide,by decide,λway y1 w0 w1 b1=>?_⟩;refine ⟨y1,k,n+1,rfl,b1,by omega,by omega,by omega,λmn y2 m0 m1 b2=>?_⟩;refine ⟨y2,9,n+1+1,rfl,b2,by omega,by decide,by decide,λsx y3 s0 s1 b3=>?_⟩;refine ⟨y3,9,n+1+1+1,rfl,b3,by omega,by decide,by decide,λsy y4 t0 t1 b4=>?_⟩;have nvs:=aHU s0 s1 t0 t1;obtain ⟨A0,B0,c0,rfl,_⟩:=id b4;have ef:(1+mn).fdiv 2=(1+mn)/2:=aV9 _ (by decide);have rng_len:∀m:Nat,(sJ 0 m).length=m:=λm=>by simp [sJ]
  show if decide (way<2)=true then _ else _;refine aNB (λu=>∃c:Int,vl [some (U.o true [L2.T.int A0,.int B0,.int c0]),some (.p (.int k)),some (.p (vc (sx-4,1) (sy-4,1))),none,some (.p (.int way)),some (.p (.int (1+mn))),none] u=some (.int c)/\1<=c/\c<=9/\(¬way<2->c<=5)) ?_ ?_ ?_
  ·intro hw κ' J;exact J (.p (.int (1+mn))) ⟨1+mn,rfl,by omega,by omega,λz=>absurd (of_decide_eq_true hw) z⟩
  ·intro hw κ' J;refine ⟨⟨by decide,by decide⟩,?_⟩;rw [ef];exact J _ ⟨1+(1+mn)/2,rfl,by omega,by omega,λ_=>by omega⟩
  rintro u ⟨c,hu,c1,c9,c5⟩;show i1 (vl [some (U.o true [L2.T.int A0,.int B0,.int c0]),some (.p (.int k)),some (.p (vc (sx-4,1) (sy-4,1))),none,some (.p (.int way)),some (.p (.int (1+mn))),none] u) _;rw [hu];refine ⟨⟨by omega,by omega⟩,rfl,?_⟩;refine eO (λi E=>∃(w0:Option U) (A B c:Int) (L:List L2.T),E=[w0,some (.o true [.int A,.int B,.int c]),some (.o false L)]/\Bx [.int A,.int B,.int c] (n+4+5*i)/\L.length=i/\∀t∈L,∃m,t=uE m/\mJ m) ⟨none,A0,B0,c0,[],rfl,b4.mono (by omega),rfl,by simp⟩ ?_ ?_
  ·rintro i t rest E hi ⟨w0,A,B,c',L,rfl,hb,hL,hU⟩ KK;obtain ⟨hin,rfl⟩:=yP hi;refine ⟨_,_,rfl,hb,by omega,λm ys om b' nl'=>?_⟩;obtain ⟨A',B',c'',rfl,_⟩:=id b';refine ⟨by show L.length<1000;omega,KK _ ⟨_,A',B',c'',L++[uE m],rfl,b'.mono (by omega),by rw [aBN,hL];rfl,λt ht=>?_⟩⟩;rcases aW2.mp ht with ht | ht
   ·exact hU t ht
   ·rw [aXB] at ht;exact ⟨m,ht,om⟩
  rintro E ⟨w0,A,B,cc,L,rfl,hb,hL,hU⟩;rw [rng_len] at hL hb;have hLc:(L.length:Int)=c:=by omega
  replace hb:=hb.mono (show n+4+5*(c.toNat:Int)<=n+50 by omega);refine ⟨xS hU,?_⟩;show if decide (1<way)=true then _ else _
  by_cases hw:1<way
  ·rw [decide_eq_true hw,if_pos rfl];refine ⟨rfl,?_⟩;refine eO (λi E=>∃(w0:Option U) (M:List L2.T),E=[w0,some (.o false M)]/\M.length=i/\∀t∈M,∃m,t=uE m/\mJ m) ⟨none,[],rfl,rfl,by simp⟩ ?_ ?_
   ·rintro i t rest E hi ⟨w0,M,rfl,hM,hV⟩ KK;obtain ⟨m,rfl,om⟩:=hU t (aIR hi);have hlt:=(aA8.mp hi).1;refine ⟨m,rfl,om,by show M.length<1000;omega,KK _ ⟨_,M++[uE (mvB m)],rfl,by rw [aBN,hM];rfl,λt ht=>?_⟩⟩;rcases aW2.mp ht with ht | ht
    ·exact hV t ht
    ·rw [aXB] at ht;exact ⟨mvB m,ht,om.back⟩
   rintro E ⟨w0,M,rfl,hM,hV⟩;refine ⟨xS hV,by show L.length+M.length<=1000;omega,?_⟩;have hW:∀t∈L++M,∃m,t=uE m/\mJ m:=λt ht=>(aW2.mp ht).elim (hU t) (hV t);have hN:(L++M).length<=10:=by rw [aBN];have:=c5 (by omega);omega
   have hN1:1<=(L++M).length:=by rw [aBN];omega
   by_cases h2:way=2
   ·refine .inl ?_;refine ⟨aB7 _,?_⟩;show if (way==2)=true then _ else _;rw [if_pos (by simpa using h2)];generalize L++M=W at hW hN hN1 ⊢;refine ⟨⟨by omega,by omega⟩,rfl,?_⟩;refine eO (λi E=>∃(w0:Option U) (A B c:Int) (Lf R:List L2.T),E=[w0,some (.o true Lf),some (.o true [.int A,.int B,.int c]),some (.o false R)]/\Bx [.int A,.int B,.int c] (n+50+i)/\Lf.length+i=W.length/\R.length=i/\(∀t∈Lf,∃m,t=uE m/\mJ m)/\∀t∈R,∃m,t=uE m/\mJ m) ⟨none,A,B,cc,W,[],rfl,by simpa using hb,rfl,rfl,hW,by simp⟩ ?_ ?_
    ·rintro i t rest E hi ⟨w0,A,B,c',Lf,R,rfl,hb,hl,hR,hU,hV⟩ KK;obtain ⟨hin,rfl⟩:=yP hi;rw [aXM] at hin;refine ⟨_,(Lf.length:Int),_,rfl,hb,by omega,by omega,by omega,λr ys r0 r1 b'=>?_⟩;obtain ⟨A',B',c'',rfl,_⟩:=id b';have hr:r.toNat<Lf.length:=by omega
     refine ⟨r0,by show Lf.length<=1000;omega,?_⟩;show o1 (Lf[r.toNat]?) _;rw [aCP hr];have he:(Lf.eraseIdx r.toNat).length+1=Lf.length:=by rw [List.length_eraseIdx_of_lt hr];omega
     refine ⟨by show R.length<1000;omega,KK _ ⟨_,A',B',c'',Lf.eraseIdx r.toNat,R++[Lf[r.toNat]],rfl,b'.mono (by omega),by omega,by rw [aBN,hR];rfl,λt ht=>hU t (List.mem_of_mem_eraseIdx ht),λt ht=>?_⟩⟩;rcases aW2.mp ht with ht | ht
     ·exact hV t ht
     ·rw [aXB] at ht;rw [ht];exact hU _ (aYX hr)
    rintro E ⟨w0,A,B,c',Lf,R,rfl,hb,hl,hR,hU,hV⟩;rw [aXM,rng_len] at hl hR hb;obtain rfl:Lf=[]:=aVQ (by omega);refine ⟨xS hV,?_⟩;obtain ⟨ms,rfl,om⟩:=aD9 hV;rw [aG5] at hR;exact ⟨_,_,ms,rfl,nvs,om,by intro z;rw [z] at hR;simp at hR;omega,by omega,λps p1 p2 p3=>⟨nA _ _ ps (kL ps),q _ _ ps _ nvs p1 p2 p3 (hb.mono (by omega)) rfl⟩⟩
   ·refine .inr ?_;refine ⟨aB7 _,?_⟩;show if (way==2)=true then _ else _;rw [if_neg (by simpa using h2)];obtain ⟨ms,em,om⟩:=aD9 hW;rw [em] at hN hN1 ⊢;rw [aG5] at hN hN1;exact ⟨_,_,ms,rfl,nvs,om,by intro z;rw [z] at hN1;simp at hN1,by omega,λps p1 p2 p3=>⟨nA _ _ ps (kL ps),q _ _ ps _ nvs p1 p2 p3 (hb.mono (by omega)) rfl⟩⟩
  ·rw [decide_eq_false hw,if_neg (by decide)];obtain ⟨ms,rfl,om⟩:=aD9 hU;rw [aG5] at hLc;exact ⟨_,_,ms,rfl,nvs,om,by intro z;rw [z] at hLc;simp at hLc;omega,by omega,λps p1 p2 p3=>⟨nA _ _ ps (kL ps),q _ _ ps _ nvs p1 p2 p3 (hb.mono (by omega)) rfl⟩⟩
end
end My
namespace My
open PySem L2 PyProof.Rows
section
variable {P:bAR} {w:bAU} {K:W.Frag} {mg:Str->Option Value} {base:Heap}
abbrev gN:bAY:=top 34
theorem cB:aP ["text","n","found","top","slash","bottom"] ["text"] (aH gN):=⟨rfl,rfl,rfl,by decide +kernel,rfl,by decide +kernel,by decide +kernel⟩
def aB1 (CN:bAO):SpG:=λts Q W=>∃x:Str,ts=[.str x]/\x.length<=500000/\(∀n d,bE (sg x)=some (n,d)->Q (fT n d))/\(bE (sg x)=none->W CN)
theorem qY (cs:List Nat):(cX cs).length<=cs.length:=by unfold cX;split<;>simp
theorem wW (b:List Nat):(bS b).length<=b.length:=by
 have e:=congrArg aYA (wK b).2;rw [aBN] at e;omega
theorem aD7 {b c:List Nat} (h:eY b=some c):c.length<=b.length:=by
 have e:=congrArg aYA (wK b).2;rw [h,aBN] at e;simp [gQ] at e;omega
theorem jM {n:Nat} (h:n<10^60):(eQ n).length<=5000:=aVD (lD (by decide) h) (by decide)
theorem oF {f:bAO} {fd:bAS} {C_BadNumber:bAO} (F:dA K "fraction_from" "fraction_from" gN f fd) (TX:Txt mg) (g_is_plain:Fn P w K mg base 1 "is_plain" ["text"] (aK K aCX)) (g_is_fraction:Fn P w K mg base 2 "is_fraction" ["thing"] (aK K aEB)) (g_fraction_text:Fn P w K mg base 2 "fraction_text" ["one"] (aK K rD)) (hx_BadNumber:fP K C_BadNumber none=true) (hm_BadNumber:mg "BadNumber" = some (.ref C_BadNumber)):bI P w K mg base (CXh P w) 3 f fd ["text"] (spG K (aB1 C_BadNumber)):=by
 refine F.okG cB ?len (λW cdv A outer s H E hr hW=>(aC (j8 (xC (qD (fv 0) (fc aJ aA)) (fc aJ aA)) (jY (n:=3) rfl rfl (bT (bG (i:=3) cB.nd rfl (aIW rfl)) (bT (bG (i:=4) cB.nd rfl (aIW rfl)) (bT (bG (i:=5) cB.nd rfl (aIW rfl)) g9)))))
 (aC (bP (gH (cF (cD (bQ (aF g_is_plain hr (by omega) rfl (fc (fv 3) aA)))) (cG (gH (aCB (dP rfl hr (fv 4) aJ (aN _)) (yJ (cD (bQ (aF g_is_plain hr (by omega) rfl (fc (fv 5) aA)))))))))) (aG (lF (hW C_BadNumber) hx_BadNumber rfl hm_BadNumber (fc aJ aA))) bH)
 (aC (aV (i:=1) cB.nd rfl (aIW rfl) (kE (bQ (lT (fv 0) (fc aJ aA))) (gF (qS rfl TX.n_int (fc (fv 3) aA))) (qS rfl TX.n_int (fc (fv 3) aA))))
 (aC (aV (i:=2) cB.nd rfl (aIW rfl) (aT (fc (fv 1) (fc (kE (dP rfl hr (fv 4) aJ (aN _)) (qS rfl TX.n_int (fc (fv 5) aA)) aB) aA))))
 (aC (bP (gH (cF (cD (bQ (aF g_is_fraction hr (by omega) rfl (fc (fv 2) aA)))) (cG (iM rfl hr (aF g_fraction_text hr (by omega) rfl (fc (fv 2) aA)) (fv 0) (aN _))))) (aG (lF (hW C_BadNumber) hx_BadNumber rfl hm_BadNumber (fc aJ aA))) bH)
 (aG (aM (fv 2))))))))) ?rd
 case len=>rintro ts Q W ⟨x,rfl,_⟩;rfl
 case rd=>
  rintro ts Q W ⟨x,rfl,hl,q,w⟩;refine ⟨by unfold big;omega,λz hz=>?_⟩;have sz:sg z=cX (sg x):=by rw [hz,lL];exact aSM x
  have lz:z.length<=500000:=by rw [<-aO,sz];have:=qY (sg x);rw [aO] at this;omega
  refine ⟨⟨by decide,by unfold big;omega⟩,λa b c hp=>?_⟩;obtain ⟨p1,p2,p3⟩:=aNL z;rw [<-lC,hp] at p1 p2 p3;rw [sz] at p1 p2 p3;simp only at p1 p2 p3;obtain ⟨d1,d2⟩:=wK (cX (sg x));have e0:=aKH (sg x);rw [d2] at e0;have la:a.length<=500000:=by
   rw [<-aO,p1];have h1:=wW (cX (sg x));have h2:=qY (sg x);rw [aO] at h2;omega
  have wn:∀{z:Option (Int×Int)},gL (iP (sg x)) (bS (cX (sg x))) (eY (cX (sg x)))=z->bE (sg x)=z:=λh=>h;replace w:gL (iP (sg x)) (bS (cX (sg x))) (eY (cX (sg x)))=none->W C_BadNumber:=λh=>w h;refine ⟨a,rfl,by unfold big;omega,?_⟩;show if (!(bF (sg a)))=true then _ else _;rw [p1];cases pp:bF (bS (cX (sg x))) with
  | false=>
   rw [if_pos (by decide)];exact w (by unfold gL;rw [if_pos pp])
  | true=>
   rw [if_neg (by decide)];have ia:PySem.intText? a=some ((aEW (bS (cX (sg x))):Nat):Int):=by
    have:=lM (x:=a) (by rw [p1];exact pp);rw [p1] at this;exact this
   have l6:a.length<=640:=by rw [<-aO,p1];have:=(jE pp).1;omega
   refine ⟨aB7 _,?_⟩;show if (b==aA7 "/")=true then _ else _;have st:aX4 x (aA7 "-")=iP (sg x):=by rw [lL];exact aEI x 45
   cases hs:eY (cX (sg x)) with
   | none=>
    rw [hs] at p2;have hb:(b==aA7 "/")=false:=by rw [p2];decide
    rw [hb,if_neg (by decide)];have hdd:(1:Int)=dOf (eY (cX (sg x))):=by rw [hs];rfl
    obtain ⟨k1,k2⟩:=oS e0 d1 pp (λc hc=>by rw [hs] at hc;cases hc);show if aX4 x (aA7 "-")=true then _ else _;rw [st];cases hh:iP (sg x) with
    | true=>
     rw [if_pos rfl];refine ⟨l6,?_⟩;show o1 (PySem.intText? a) _;rw [ia];refine ⟨aB7 _,?_⟩;show if (b==aA7 "/")=true then _ else _;rw [hb,if_neg (by decide)];have hn:(-(aEW (bS (cX (sg x))):Int))=tZ (iP (sg x)) (aEW (bS (cX (sg x)))):=by rw [hh];rfl
     have na:((-(aEW (bS (cX (sg x))):Int)):Int).natAbs=aEW (bS (cX (sg x))):=by rw [hn,j4]
     refine ⟨(-(aEW (bS (cX (sg x))):Int)),(1:Int),rfl,λk hk=>?_⟩;show if (!k)=true then _ else _;have bk:L2.qB (iP (sg x)) (bS (cX (sg x))) (sg x) (eY (cX (sg x)))↔(k=true/\bJ (-(aEW (bS (cX (sg x))):Int)) (1:Int)=sg x):=by
      unfold L2.qB;rw [<-hn,<-hdd,hk]
     cases k with
     | false=>
      rw [if_pos (by decide)];exact w (k2 (by rw [bk];rintro ⟨z,_⟩;cases z))
     | true=>
      rw [if_neg (by decide)];refine ⟨(-(aEW (bS (cX (sg x))):Int)),(1:Int),rfl,by rw [na];exact jM (eZ pp),(by decide),λu hu=>⟨aB7 _,?_⟩⟩;show if (!(u==x))=true then _ else _
      by_cases eu:u=x
      ·rw [if_neg (by simpa using eu)];refine ⟨rfl,q _ _ ?_⟩;show gL _ _ _=_;rw [k1 (bk.mpr ⟨rfl,by rw [<-hu,eu]⟩),<-hn,<-hdd]
      ·rw [if_pos (by simpa using eu)];exact w (k2 (by rw [bk];rintro ⟨_,z⟩;exact eu (kR (hu.trans z))))
    | false=>
     rw [if_neg (by decide)];refine ⟨l6,?_⟩;show o1 (PySem.intText? a) _;rw [ia];refine ⟨aB7 _,?_⟩;show if (b==aA7 "/")=true then _ else _;rw [hb,if_neg (by decide)];have hn:(aEW (bS (cX (sg x))):Int)=tZ (iP (sg x)) (aEW (bS (cX (sg x)))):=by rw [hh];rfl
     have na:((aEW (bS (cX (sg x))):Int):Int).natAbs=aEW (bS (cX (sg x))):=by rw [hn,j4]
     refine ⟨(aEW (bS (cX (sg x))):Int),(1:Int),rfl,λk hk=>?_⟩;show if (!k)=true then _ else _;have bk:L2.qB (iP (sg x)) (bS (cX (sg x))) (sg x) (eY (cX (sg x)))↔(k=true/\bJ (aEW (bS (cX (sg x))):Int) (1:Int)=sg x):=by
      unfold L2.qB;rw [<-hn,<-hdd,hk]
     cases k with
     | false=>
      rw [if_pos (by decide)];exact w (k2 (by rw [bk];rintro ⟨z,_⟩;cases z))
     | true=>
      rw [if_neg (by decide)];refine ⟨(aEW (bS (cX (sg x))):Int),(1:Int),rfl,by rw [na];exact jM (eZ pp),(by decide),λu hu=>⟨aB7 _,?_⟩⟩;show if (!(u==x))=true then _ else _
      by_cases eu:u=x
      ·rw [if_neg (by simpa using eu)];refine ⟨rfl,q _ _ ?_⟩;show gL _ _ _=_;rw [k1 (bk.mpr ⟨rfl,by rw [<-hu,eu]⟩),<-hn,<-hdd]
      ·rw [if_pos (by simpa using eu)];exact w (k2 (by rw [bk];rintro ⟨_,z⟩;exact eu (kR (hu.trans z))))
   | some cc=>
    rw [hs] at p2;have hb:(b==aA7 "/")=true:=by rw [p2];rfl
    rw [hb,if_pos rfl];have pc:=p3 cc hs;have lc:c.length<=500000:=by
     rw [<-aO,pc];have h1:=aD7 hs;have h2:=qY (sg x);rw [aO] at h2;omega
    refine ⟨c,rfl,by unfold big;omega,?_⟩;show if (!(bF (sg c)))=true then _ else _;rw [pc];cases pq:bF cc with
    | false=>
     rw [if_pos (by decide)];exact w (by rw [hs,nI pp,if_pos (.inl pq)])
    | true=>
     rw [if_neg (by decide)];have ic:PySem.intText? c=some ((aEW cc:Nat):Int):=by
      have:=lM (x:=c) (by rw [pc];exact pq);rw [pc] at this;exact this
     have l7:c.length<=640:=by rw [<-aO,pc];have:=(jE pq).1;omega
     have hdd:(aEW cc:Int)=dOf (eY (cX (sg x))):=by rw [hs];rfl
     obtain ⟨k1,k2⟩:=oS e0 d1 pp (λc hc=>by rw [hs] at hc;cases hc;exact pq);have dl:(eQ (aEW cc:Int).natAbs).length<=5000:=by rw [aSV];exact jM (eZ pq)
     show if aX4 x (aA7 "-")=true then _ else _;rw [st];cases hh:iP (sg x) with
     | true=>
      rw [if_pos rfl];refine ⟨l6,?_⟩;show o1 (PySem.intText? a) _;rw [ia];refine ⟨aB7 _,?_⟩;show if (b==aA7 "/")=true then _ else _;rw [hb,if_pos rfl];refine ⟨l7,?_⟩;show o1 (PySem.intText? c) _;rw [ic];have hn:(-(aEW (bS (cX (sg x))):Int))=tZ (iP (sg x)) (aEW (bS (cX (sg x)))):=by rw [hh];rfl
      have na:((-(aEW (bS (cX (sg x))):Int)):Int).natAbs=aEW (bS (cX (sg x))):=by rw [hn,j4]
      refine ⟨(-(aEW (bS (cX (sg x))):Int)),(aEW cc:Int),rfl,λk hk=>?_⟩;show if (!k)=true then _ else _;have bk:L2.qB (iP (sg x)) (bS (cX (sg x))) (sg x) (eY (cX (sg x)))↔(k=true/\bJ (-(aEW (bS (cX (sg x))):Int)) (aEW cc:Int)=sg x):=by
       unfold L2.qB;rw [<-hn,<-hdd,hk]
      cases k with
      | false=>
       rw [if_pos (by decide)];exact w (k2 (by rw [bk];rintro ⟨z,_⟩;cases z))
      | true=>
       rw [if_neg (by decide)];refine ⟨(-(aEW (bS (cX (sg x))):Int)),(aEW cc:Int),rfl,by rw [na];exact jM (eZ pp),dl,λu hu=>⟨aB7 _,?_⟩⟩;show if (!(u==x))=true then _ else _
       by_cases eu:u=x
       ·rw [if_neg (by simpa using eu)];refine ⟨rfl,q _ _ ?_⟩;show gL _ _ _=_;rw [k1 (bk.mpr ⟨rfl,by rw [<-hu,eu]⟩),<-hn,<-hdd]
       ·rw [if_pos (by simpa using eu)];exact w (k2 (by rw [bk];rintro ⟨_,z⟩;exact eu (kR (hu.trans z))))
     | false=>
      rw [if_neg (by decide)];refine ⟨l6,?_⟩;show o1 (PySem.intText? a) _;rw [ia];refine ⟨aB7 _,?_⟩;show if (b==aA7 "/")=true then _ else _;rw [hb,if_pos rfl];refine ⟨l7,?_⟩;show o1 (PySem.intText? c) _;rw [ic];have hn:(aEW (bS (cX (sg x))):Int)=tZ (iP (sg x)) (aEW (bS (cX (sg x)))):=by rw [hh];rfl
      have na:((aEW (bS (cX (sg x))):Int):Int).natAbs=aEW (bS (cX (sg x))):=by rw [hn,j4]
      refine ⟨(aEW (bS (cX (sg x))):Int),(aEW cc:Int),rfl,λk hk=>?_⟩;show if (!k)=true then _ else _;have bk:L2.qB (iP (sg x)) (bS (cX (sg x))) (sg x) (eY (cX (sg x)))↔(k=true/\bJ (aEW (bS (cX (sg x))):Int) (aEW cc:Int)=sg x):=by
       unfold L2.qB;rw [<-hn,<-hdd,hk]
      cases k with
      | false=>
       rw [if_pos (by decide)];exact w (k2 (by rw [bk];rintro ⟨z,_⟩;cases z))
      | true=>
       rw [if_neg (by decide)];refine ⟨(aEW (bS (cX (sg x))):Int),(aEW cc:Int),rfl,by rw [na];exact jM (eZ pp),dl,λu hu=>⟨aB7 _,?_⟩⟩;show if (!(u==x))=true then _ else _
       by_cases eu:u=x
       ·rw [if_neg (by simpa using eu)];refine ⟨rfl,q _ _ ?_⟩;show gL _ _ _=_;rw [k1 (bk.mpr ⟨rfl,by rw [<-hu,eu]⟩),<-hn,<-hdd]
       ·rw [if_pos (by simpa using eu)];exact w (k2 (by rw [bk];rintro ⟨_,z⟩;exact eu (kR (hu.trans z))))
abbrev jT:bAY:=top 37
theorem tW:aP ["words"] ["words"] (aH jT):=⟨rfl,rfl,rfl,by decide +kernel,rfl,by decide +kernel,by decide +kernel⟩
def aLM (CN CP:bAO):SpG:=λts Q W=>∃ws:List Str,ts=[.lst (aE ws)]/\ws.length<=5000/\(∀x∈ws,x.length<=500000)/\(ws.length≠2->W CP)/\∀u v,ws=[u,v]->(bE (sg u)=none->W CN)/\∀n d,bE (sg u)=some (n,d)->(bE (sg v)=none->W CN)/\∀m e,bE (sg v)=some (m,e)->Q (.tup [fT n d,fT m e])
theorem t6 {f:bAO} {fd:bAS} {C_BadNumber C_BadPath:bAO} (F:dA K "point_from" "point_from" jT f fd) (TX:Txt mg) (g_fraction_from:FnH P w K mg base 3 "fraction_from" ["text"] (spG K (aB1 C_BadNumber))) (hx_BadPath:fP K C_BadPath none=true) (hm_BadPath:mg "BadPath" = some (.ref C_BadPath)):bI P w K mg base (CXh P w) 4 f fd ["words"] (spG K (aLM C_BadNumber C_BadPath)):=by
 refine F.okG tW ?len (λW cdv A outer s H E hr hW=>(aC (bP (iM rfl hr (cL rfl rfl TX.n_len (fc (fv 0) aA)) aB (aN _)) (aG (lF (hW C_BadPath) hx_BadPath rfl hm_BadPath (fc aJ aA))) bH)
 (aG (aM (aT (fc (iK rfl (aAE (λz=>z) hW) g_fraction_from hr (by omega) rfl (fc (aI rfl (fv 0) aB (λ_ _=>rfl)) aA)) (fc (iK rfl (aAE (λz=>z) hW) g_fraction_from hr (by omega) rfl (fc (aI rfl (fv 0) aB (λ_ _=>rfl)) aA)) aA))))))) ?rd
 case len=>rintro ts Q W ⟨x,rfl,_⟩;rfl
 case rd=>
  rintro ts Q W ⟨ws,rfl,hl,hx,w2,hq⟩;refine ⟨aB7 _,?_⟩;show if (!(((aE ws).length:Int)==2))=true then _ else _
  by_cases c:ws.length=2
  ·match ws,c with
   | [u,v],_=>
    obtain ⟨q1,q2⟩:=hq u v rfl;refine ⟨u,rfl,hx u (by simp),λn d e=>⟨rfl,?_⟩,q1⟩;obtain ⟨q3,q4⟩:=q2 n d e;exact ⟨v,rfl,hx v (by simp),λm k e=>⟨rfl,rfl,q4 m k e⟩,q3⟩
  ·have:¬((aE ws).length:Int)=2:=by simp [aE];omega
   rw [if_pos (by simpa using this)];exact w2 c
end
end My
namespace My
open PySem L2 PyProof.Rows
section
variable {P:bAR} {w:bAU} {K:W.Frag} {mg:Str->Option Value} {base:Heap}
def ptR (CN CP:bAO) (ws:List Str) (Q:L2.T->Prop) (W:bAO->Prop):Prop:=(ws.length≠2->W CP)/\∀u v,ws=[u,v]->(bE (sg u)=none->W CN)/\∀n d,bE (sg u)=some (n,d)->(bE (sg v)=none->W CN)/\∀m e,bE (sg v)=some (m,e)->Q (.tup [fT n d,fT m e])
def aAS (CN CP:bAO) (Q:List L2.T->Prop) (W:bAO->Prop):Nat->List Str->List L2.T->Prop
 | 0,_,_=>False
 | _+1,[],acc=>Q acc
 | n+1,w::r,acc=>if w=aA7 "side" then ptR CN CP (r.take 2) (λt=>noL t=true/\aAS CN CP Q W n (r.drop 2) (acc++[.tup [.str (aA7 "side"),t]])) W
  else if w=aA7 "arc" then ptR CN CP ((r.drop 1).take 2) (λm=>noL m=true/\ptR CN CP ((r.drop 3).take 2) (λt=>noL t=true/\∀l,r.head? = some l->aAS CN CP Q W n (r.drop 5) (acc++[.tup [.str (aA7 "arc"),m,t,.str l]])) W) W
  else W CP
def aIB (CN CP:bAO):SpG:=λts Q W=>∃ws:List Str,ts=[.lst (aE ws)]/\ws.length<=900/\(∀x∈ws,x.length<=500000)/\aAS CN CP (λl=>cC l=true/\Q (.tup l)) W (ws.length+1) ws []
abbrev i8:bAY:=top 38
theorem cR:aP ["words","pieces","at","middle","to"] ["words"] (aH i8):=⟨rfl,rfl,rfl,by decide +kernel,rfl,by decide +kernel,by decide +kernel⟩
theorem mV (ws:List Str) (a b:Nat) (h:a<=b):cK (aE ws) (some (a:Int)) (some (b:Int))=aE ((ws.drop a).take (b-a)):=by
 unfold cK aE;rw [HT.sIx_nat,HT.sIx_nat,aG5,<-aZR,<-aY3]
 congr 1
 rcases aXK a ws.length with c | c
 ·rw [aXO c];rcases aXK b ws.length with d | d
  ·rw [aXO d]
  ·rw [aXR d,aT2 (by rw [aLJ];omega),aT2 (by rw [aLJ];omega)]
 ·rw [aXR c,aVP (aFI _),aVP c];simp
theorem tN {f:bAO} {fd:bAS} {C_BadNumber C_BadPath:bAO} (F:dA K "pieces_from" "pieces_from" i8 f fd) (TX:Txt mg) (g_point_from:FnH P w K mg base 4 "point_from" ["words"] (spG K (aLM C_BadNumber C_BadPath))) (hx_BadPath:fP K C_BadPath none=true) (hm_BadPath:mg "BadPath" = some (.ref C_BadPath)):bI P w K mg base (CXh P w) 5 f fd ["words"] (spG K (aIB C_BadNumber C_BadPath)):=by
 refine F.okG cR ?len (λW cdv A outer s H E hr hW=>(aC (aV (i:=1) cR.nd rfl (aIW rfl) (eU aA))
 (aC (aV (i:=2) cR.nd rfl (aIW rfl) aB)
 (aC (aGY (dU iU (fv 2) (cL rfl rfl TX.n_len (fc (fv 0) aA)) (aN _)) (aG (bP (dP rfl hr (aI rfl (fv 0) (fv 2) (λ_ _=>rfl)) aJ (aN _)) (aC (iW (eN rfl (fv 1) (fc (aT (fc aJ (fc (iK rfl (mB (λz=>z) hW) g_point_from hr (by omega) rfl (fc (bU rfl (fv 0) (a9 (aY bK (fv 2) aB)) (a9 (aY bK (fv 2) aB))) aA)) aA))) aA)))
 (aG (aJR (i:=2) cR.nd rfl (aIW rfl) aB aIG))) (aG (bP (dP rfl hr (aI rfl (fv 0) (fv 2) (λ_ _=>rfl)) aJ (aN _)) (aC (eB (i:=3) (j:=4) rfl cR.nd rfl rfl (by decide) rfl rfl (fc (iK rfl (mB (λz=>z) hW) g_point_from hr (by omega) rfl (fc (bU rfl (fv 0) (a9 (aY bK (fv 2) aB)) (a9 (aY bK (fv 2) aB))) aA)) (fc (iK rfl (mB (λz=>z) hW) g_point_from hr (by omega) rfl (fc (bU rfl (fv 0) (a9 (aY bK (fv 2) aB)) (a9 (aY bK (fv 2) aB))) aA)) aA)) rfl)
 (aC (iW (eN rfl (fv 1) (fc (aT (fc aJ (fc (fv 3) (fc (fv 4) (fc (aI rfl (fv 0) (aY bK (fv 2) aB) (λ_ _=>rfl)) aA))))) aA)))
 (aG (aJR (i:=2) cR.nd rfl (aIW rfl) aB aIG)))) (aG (aGQ (hW C_BadPath) hx_BadPath rfl hm_BadPath (fc aJ aA))))))))
 (aG (aM (sW rfl rfl TX.n_tuple (fc (fv 1) aA)))))))) ?rd
 case len=>rintro ts Q W ⟨x,rfl,_⟩;rfl
 case rd=>
  rintro ts Q W ⟨ws,rfl,hl,hx,hq⟩;refine ⟨λm E=>∃(a:Nat) (acc:List L2.T) (v3 v4:Option U),E=[some (.p (.lst (aE ws))),some (.o false acc),some (.p (.int (a:Int))),v3,v4]/\a<=ws.length/\acc.length<=a/\aAS C_BadNumber C_BadPath (λl=>cC l=true/\Q (.tup l)) W m (ws.drop a) acc,⟨ws.length+1,0,[],none,none,rfl,aB7 _,aFI _,hq⟩,?_⟩;rintro m E ⟨a,acc,v3,v4,rfl,ha,hacc,hp⟩;show if decide ((a:Int)<((aE ws).length:Int))=true then _ else _;have ls:(aE ws).length=ws.length:=by simp [aE]
  have sub:∀(b k:Nat),(∀x∈(ws.drop b).take k,x.length<=500000):=λb k x hx'=>hx x (aXY (aXZ hx'));have sl:∀(b k:Nat),((ws.drop b).take k).length<=5000:=λb k=>by rw [aNQ,aLJ];omega
  rcases aVS a ws.length with c | c
  ·rw [ls,decide_eq_true (by omega),if_pos rfl];have ed:ws.drop a=ws[a]::ws.drop (a+1):=aVT c;rw [ed] at hp;cases m with
   | zero=>exact hp.elim
   | succ m=>
    have a0:c8 (aE ws) (a:Int)=some (.str ws[a]):=cM (by unfold aE;rw [aEO,aCP c];rfl);rw [aAS] at hp;show o1 (c8 (aE ws) (a:Int)) _;rw [a0];refine ⟨aB7 _,?_⟩;show if (ws[a]==aA7 "side")=true then _ else _
    by_cases h1:ws[a]=aA7 "side"
    ·rw [if_pos (by simpa using h1)];rw [if_pos h1] at hp;have ct:cK (aE ws) (some ((a:Int)+1)) (some ((a:Int)+3))=aE ((ws.drop (a+1)).take 2):=by
      have:=mV ws (a+1) (a+3) (by omega);rw [show a+3-(a+1)=2 by omega] at this;exact this
     refine ⟨(ws.drop (a+1)).take 2,by show [L2.T.lst (cK (aE ws) (some ((a:Int)+1)) (some ((a:Int)+3)))]=_;rw [ct],sl _ _,sub _ _,hp.1,λu v e=>?_⟩;obtain ⟨q1,q2⟩:=hp.2 u v e;refine ⟨q1,λn d e1=>⟨(q2 n d e1).1,λk j e2=>?_⟩⟩;obtain ⟨nl,q3⟩:=(q2 n d e1).2 k j e2;have l2:a+3<=ws.length:=by
      have:=congrArg aYA e;rw [aNQ,aLJ] at this;simp at this;omega
     rw [aXL] at q3;refine ⟨nl,by show (acc++[_]).length<=1000;simp;omega,m,by omega,a+3,_,_,_,rfl,l2,by simp;omega,by rwa [show a+1+2=a+3 by omega] at q3⟩
    ·rw [if_neg (by simpa using h1)];rw [if_neg h1] at hp;show o1 (c8 (aE ws) (a:Int)) _;rw [a0];refine ⟨aB7 _,?_⟩;show if (ws[a]==aA7 "arc")=true then _ else _
     by_cases h2:ws[a]=aA7 "arc"
     ·rw [if_pos (by simpa using h2)];rw [if_pos h2,aXL,aXL,aXL] at hp;have c1:cK (aE ws) (some ((a:Int)+2)) (some ((a:Int)+4))=aE ((ws.drop (a+1+1)).take 2):=by
       have:=mV ws (a+2) (a+4) (by omega);rw [show a+4-(a+2)=2 by omega] at this;exact this
      have c2:cK (aE ws) (some ((a:Int)+4)) (some ((a:Int)+6))=aE ((ws.drop (a+1+3)).take 2):=by
       have:=mV ws (a+4) (a+6) (by omega);rw [show a+6-(a+4)=2 by omega] at this;exact this
      refine ⟨(ws.drop (a+1+1)).take 2,by show [L2.T.lst (cK (aE ws) (some ((a:Int)+2)) (some ((a:Int)+4)))]=_;rw [c1],sl _ _,sub _ _,hp.1,λu v e=>?_⟩;obtain ⟨q1,q2⟩:=hp.2 u v e;refine ⟨q1,λn d e1=>⟨(q2 n d e1).1,λk j e2=>?_⟩⟩;obtain ⟨nl,q3⟩:=(q2 n d e1).2 k j e2;refine ⟨nl,(ws.drop (a+1+3)).take 2,by show [L2.T.lst (cK (aE ws) (some ((a:Int)+4)) (some ((a:Int)+6)))]=_;rw [c2],sl _ _,sub _ _,q3.1,λu' v' e'=>?_⟩;obtain ⟨q4,q5⟩:=q3.2 u' v' e';refine ⟨q4,λn' d' e3=>⟨(q5 n' d' e3).1,λk' j' e4=>?_⟩⟩;obtain ⟨nl',q6⟩:=(q5 n' d' e3).2 k' j' e4;have l2:a+6<=ws.length:=by
       have:=congrArg aYA e';rw [aNQ,aLJ] at this;simp at this;omega
      have c1':a+1<ws.length:=by omega
      have a1:c8 (aE ws) ((a:Int)+1)=some (.str ws[a+1]):=cM (j:=a+1) (by unfold aE;rw [aEO,aCP c1'];rfl);have q7:=q6 ws[a+1] (by rw [List.head?_drop,aCP c1']);refine ⟨nl',?_⟩;show o1 (c8 (aE ws) ((a:Int)+1)) _;rw [a1];exact ⟨by show (acc++[_]).length<=1000;simp;omega,m,by omega,a+6,_,_,_,rfl,l2,by simp;omega,by rwa [show a+1+5=a+6 by omega] at q7⟩
     ·rw [if_neg (by simpa using h2)];rw [if_neg h2] at hp;exact hp
  ·rw [ls,decide_eq_false (by omega),if_neg (by decide)];rw [aVP c] at hp;cases m with
   | zero=>exact hp.elim
   | succ m=>exact hp
end
end My
namespace My
open PySem L2 PyProof.Rows
section
variable {P:bAR} {w:bAU} {K:W.Frag} {mg:Str->Option Value} {base:Heap}
theorem aJ9:∀{n:Nat},0<n->∃c r,eQ n=c::r/\c≠48:=λ{n}=>by
 induction n using Nat.strongRecOn with
 | ind n ih=>
  intro h;rcases aVS n 10 with c | c
  ·exact ⟨48+n,[],mL c,by omega⟩
  ·obtain ⟨d,r,e,ne⟩:=ih (n/10) (by omega) (by omega);exact ⟨d,r++[48+n%10],by rw [oZ c,e];rfl,ne⟩
theorem pA {n:Nat} (h:n<10^60):bF (eQ n)=true:=by
 have hl:=lD (by decide) h;have hd:=lH n;have ne:=aLG n;have h4:(eQ n==[48]||!((eQ n).head?==some 48))=true:=by
  rcases aXT n with z | z
  ·subst z;rfl
  ·obtain ⟨c,r,e,nc⟩:=aJ9 z;rw [e];simp [nc]
 have h3:(eQ n).all vB=true:=by
  rw [aWN];intro c hc;have:=hd c hc;unfold vB;simp;omega
 unfold bF;rw [h4,h3];simp [ne,hl]
theorem zE (n:Nat):47∉eQ n:=λh=>by have:=lH n 47 h;omega
theorem aMW {n:Int} (h:0<=n):bM n=eQ n.natAbs:=by unfold bM;rw [if_neg (by omega)];rfl
theorem aMK {n d:Int} (hd:1<=d):bJ n d=(if n<0 then [45] else [])++(eQ n.natAbs++gQ (if d=1 then none else some (eQ d.natAbs))):=by
 unfold bJ
 by_cases h:d=1
 ·rw [if_pos h,if_pos h];unfold bM gQ;simp
 ·rw [if_neg h,if_neg h,aMW (n:=d) (by omega)];unfold bM gQ;simp
theorem aGZ {n d:Int} (hd:1<=d) (hg:aPV n.natAbs d.natAbs=1) (a:n.natAbs<10^60) (b:d.natAbs<10^60):bE (bJ n d)=some (n,d):=by
 have e:=aMK (n:=n) hd;have hB:∀(h:Bool) (t:List Nat),t≠[]->(∀c,t.head? = some c->c≠45)->iP ((if h then [45] else [])++t)=h/\cX ((if h then [45] else [])++t)=t:=λh t ne nh=>by
  cases h with
  | true=>exact ⟨rfl,rfl⟩
  | false=>
   have hn:iP t=false:=by
    cases t with
    | nil=>exact absurd rfl ne
    | cons c r=>have:=nh c rfl;unfold iP;simpa using this
   refine ⟨hn,?_⟩;show cX t=t;unfold cX;rw [hn];rfl
 have en:(if n<0 then [45] else ([]:List Nat))=(if decide (n<0)=true then [45] else []):=by by_cases c:n<0<;>simp [c]
 rw [en] at e;obtain ⟨c0,r0,ed⟩:∃c r,eQ n.natAbs=c::r:=by
  cases q:eQ n.natAbs with
  | nil=>exact absurd q (aLG _)
  | cons c r=>exact ⟨c,r,rfl⟩
 have hc0:c0≠45:=by have:=lH n.natAbs c0 (by rw [ed];simp);omega
 obtain ⟨h1,h2⟩:=hB (decide (n<0)) (eQ n.natAbs++gQ (if d=1 then none else some (eQ d.natAbs))) (by rw [ed];simp) (λc hc=>by rw [ed] at hc;simp at hc;omega);unfold bE;rw [e,h1,h2];have sg1:tZ (decide (n<0)) n.natAbs=n:=by unfold tZ;by_cases c:n<0<;>simp [c]<;>omega
 by_cases hd1:d=1
 ·rw [if_pos hd1];have e0:eQ n.natAbs++gQ none=eQ n.natAbs:=by simp [gQ]
  rw [e0];obtain ⟨f1,f2⟩:=mY (zE n.natAbs);rw [f1,f2,aD6 (pA a),yA,if_neg (by rintro ⟨z1,z2⟩;have:=of_decide_eq_true z1;omega),sg1,hd1]
 ·rw [if_neg hd1];obtain ⟨f1,f2⟩:=mW (b:=eQ d.natAbs) (zE n.natAbs);have e0:eQ n.natAbs++gQ (some (eQ d.natAbs))=eQ n.natAbs++47::eQ d.natAbs:=rfl;rw [e0,f1,f2,nI (pA a),yA,yA,if_neg (by
   rintro (z | z | z)
   ·rw [pA b] at z;cases z
   ·omega
   ·exact z hg),sg1]
  congr 2
  omega
def jw:List (List Nat)->List Nat
 | []=>[]
 | [w]=>w
 | w::v::r=>w++32::jw (v::r)
theorem aNI {w:List Nat} {r:List (List Nat)} (h:r≠[]):jw (w::r)=w++32::jw r:=by
 cases r with
 | nil=>exact absurd rfl h
 | cons v r=>rfl
theorem aJT {a b:List (List Nat)} (ha:a≠[]) (hb:b≠[]):jw (a++b)=jw a++32::jw b:=by
 induction a with
 | nil=>exact absurd rfl ha
 | cons w r ih=>
  cases r with
  | nil=>exact aNI hb
  | cons v r=>
   show w++32::jw (v::r++b)=(w++32::jw (v::r))++32::jw b;rw [ih (by simp)];simp
theorem aRY {a b:List Nat} {x y:List Nat} (ha:32∉a) (hb:32∉b) (h:a++32::x=b++32::y):a=b/\x=y:=by
 induction a generalizing b with
 | nil=>
  cases b with
  | nil=>simp at h;exact ⟨rfl,h⟩
  | cons c b=>simp at h;exact absurd (by simp [<-h.1]) hb
 | cons c a ih=>
  cases b with
  | nil=>simp at h;exact absurd (by simp [h.1]) ha
  | cons e b=>
   simp only [aZY,List.cons.injEq] at h;obtain ⟨h1,h2⟩:=ih (λz=>ha (aJF _ z)) (λz=>hb (aJF _ z)) h.2;exact ⟨by rw [h.1,h1],h2⟩
theorem aJ2:∀{a b:List (List Nat)},a≠[]->b≠[]->(∀w∈a,32∉w)->(∀w∈b,32∉w)->jw a=jw b->a=b
 | [],_,ha,_,_,_,_=>absurd rfl ha
 | _,[],_,hb,_,_,_=>absurd rfl hb
 | [w],[v],_,_,_,_,h=>by rw [show w=v from h]
 | [w],v::u::r,_,_,fa,_,h=>by
  have h:w=v++32::jw (u::r):=h;exact absurd (by rw [h];simp) (fa w (by simp))
 | w::u::r,[v],_,_,_,fb,h=>by
  have h:w++32::jw (u::r)=v:=h;exact absurd (by rw [<-h];simp) (fb v (by simp))
 | w::u::r,v::x::s,_,_,fa,fb,h=>by
  have h:w++32::jw (u::r)=v++32::jw (x::s):=h;obtain ⟨h1,h2⟩:=aRY (fa w (by simp)) (fb v (by simp)) h;rw [h1,aJ2 (by simp) (by simp) (λy hy=>fa y (aJF _ hy)) (λy hy=>fb y (aJF _ hy)) h2]
theorem nS:∀l:List Str,sg (Txt.join ⟨#[32]⟩ l)=jw (l.map sg):=λl=>by
 show sg (Builtin.Str.glued ⟨#[32]⟩ l)=_;rw [StrLaws.glued_eq_join]
 induction l with
 | nil=>rfl
 | cons a r ih=>
  cases r with
  | nil=>rfl
  | cons b r=>
   have:aYO ⟨#[32]⟩ (a::b::r)=a++⟨#[32]⟩++aYO ⟨#[32]⟩ (b::r):=rfl;rw [this,aZ,aZ,ih];simp [sg,jw]
theorem aDL {l:List Str} (h:(l.map sg).flatten.length+l.length<=big):JoinOk ⟨#[32]⟩ l=true:=by
 have e:∀l:List Str,(l.map (·.length)).sum=(l.map sg).flatten.length:=λl=>by
  induction l with
  | nil=>rfl
  | cons a r ih=>rw [aQA,List.sum_cons,ih,aQA,aSX,aBN,aO]
 have z:(⟨#[32]⟩:Str).length=1:=rfl;have tl:Builtin.Str.tooLong ((l.map (·.length)).sum+l.length*(⟨#[32]⟩:Str).length)=false:=by
  unfold Builtin.Str.tooLong;rw [e,z,Nat.mul_one];exact decide_eq_false (by have:=iZ h;omega)
 unfold JoinOk;rw [StrLaws.joinTotal,tl];rfl
def wd (w:List Nat):Str:=⟨w.toArray⟩
theorem aOU (w:List Nat):sg (wd w)=w:=zC w
theorem aUP {x:Str} {w:List Nat} (h:sg x=w):x=wd w:=kR (by rw [h,aOU])
theorem pT {x:Str} {W:List (List Nat)} (hx:sg x=jw W) (hW:W≠[]) (hf:∀w∈W,32∉w):aQV x ⟨#[32]⟩=W.map wd:=by
 have j:=StrLaws.join_split x ⟨#[32]⟩;have f:=StrLaws.split_free x 32;have hn:aQV x ⟨#[32]⟩≠[]:=jN _ _;generalize aQV x ⟨#[32]⟩=l at j f hn ⊢;have e:jw (l.map sg)=jw W:=by
  rw [<-hx,<-nS];show sg (Builtin.Str.glued ⟨#[32]⟩ l)=_;rw [StrLaws.glued_eq_join,j]
 have:=aJ2 (by simpa using hn) hW (λw hw=>by obtain ⟨p,hp,rfl⟩:=aYF.mp hw;exact f p hp) hf e;rw [<-this,aZZ];have:∀l:List Str,l=l.map (wd∘sg):=λl=>by
  induction l with
  | nil=>rfl
  | cons a r ih=>rw [aQA,<-ih];congr 1
 exact this l
def fw (p:Fr):List Nat:=bJ p.1 p.2
def lO:Pc->List (List Nat)
 | .side x y=>[sg (aA7 "side"),fw x,fw y]
 | .arc m n x y l=>[sg (aA7 "arc"),sg (iR l),fw m,fw n,fw x,fw y]
def dO (a b:Fr) (ps:List Pc):List (List Nat):=sg (aA7 "from")::fw a::fw b::(ps.map lO).flatten
theorem aE1 {n:Int} (h:n.natAbs<10^60):(bM n).length<=61:=by
 have:=lD (by decide) h;unfold bM;rw [aBN]
 split<;>simp<;>omega
theorem o8 {p:Fr} (a:p.1.natAbs<10^60) (b:p.2.natAbs<10^60):(fw p).length<=123:=by
 have:=aE1 a;have:=aE1 b;unfold fw bJ
 split
 ·omega
 ·rw [aBN,aOW];omega
theorem aCA (n:Int):32∉bM n:=λh=>by
 unfold bM at h;rcases aW2.mp h with h | h
 ·split at h<;>simp at h
 ·have:=lH n.natAbs 32 h;omega
theorem pX (p:Fr):32∉fw p:=λh=>by
 unfold fw bJ at h;split at h
 ·exact aCA _ h
 ·rcases aW2.mp h with h | h
  ·exact aCA _ h
  ·rcases aH1.mp h with h | h
   ·cases h
   ·exact aCA _ h
theorem aSF:∀p:Pc,∀w∈lO p,32∉w
 | .side x y,w,h=>by
  simp only [lO,aH1,aVX,or_false] at h;rcases h with rfl | rfl | rfl
  ·decide
  ·exact pX _
  ·exact pX _
 | .arc m n x y l,w,h=>by
  simp only [lO,aH1,aVX,or_false] at h;rcases h with rfl | rfl | rfl | rfl | rfl | rfl
  ·decide
  ·cases l<;>decide
  ·exact pX _
  ·exact pX _
  ·exact pX _
  ·exact pX _
theorem y9 {a b:Fr} {ps:List Pc}:∀w∈dO a b ps,32∉w:=λw h=>by
 unfold dO at h;simp only [aH1] at h;rcases h with rfl | rfl | rfl | h
 ·decide
 ·exact pX _
 ·exact pX _
 ·obtain ⟨l,hl,hw⟩:=List.mem_flatten.mp h;obtain ⟨p,_,rfl⟩:=aYF.mp hl;exact aSF p w hw
theorem aMO {n:Int} {e:Nat} (h:n.natAbs<2^e) (he:e<=199):n.natAbs<10^60:=aG3 (pl h he) (by decide)
theorem Nv.b60 {x y:Fr} (h:Nv x y 199):(x.1.natAbs<10^60/\x.2.natAbs<10^60)/\y.1.natAbs<10^60/\y.2.natAbs<10^60:=
 ⟨⟨aMO (iN x) h.sx,aMO (cE x) h.sx⟩,aMO (iN y) h.sy,aMO (cE y) h.sy⟩
end
end My
namespace My
open PySem L2 PyProof.Rows
section
variable {P:bAR} {w:bAU} {K:W.Frag} {mg:Str->Option Value} {base:Heap}
theorem aBI {cs:List Nat} {n d:Int} (h:bE cs=some (n,d)):aPV n.natAbs d.natAbs=1:=by
 unfold bE gL at h;split at h
 ·cases h
 ·split at h
  ·split at h
   ·cases h
   ·cases h;exact Nat.gcd_one_right _
  ·split at h
   ·cases h
   ·rename_i b _ c;cases h;rw [j4,aSV]
    by_cases z:aPV (aEW (bS (cX cs))) (aEW b)=1
    ·exact z
    ·exact absurd (.inr (.inr z)) c
theorem qW {x:Str} {p:Fr} (h:bE (sg x)=some p):dS p/\p.1.natAbs<10^60/\p.2.natAbs<10^60/\fw p=sg x/\sz p<=200:=by
 obtain ⟨e1,e2,e3,e4⟩:=aA2 (n:=p.1) (d:=p.2) h;have hg:=aBI (n:=p.1) (d:=p.2) h;exact ⟨⟨e2,hg⟩,e3,e4,e1,pR (aG3 e3 (by decide)) (aG3 e4 (by decide)) (by decide)⟩
def kB:List Str->Option (Fr×Fr)
 | [u,v]=>match bE (sg u),bE (sg v) with
  | some p,some q=>some (p,q)
  | _,_=>none
 | _=>none
def mT:Nat->List Str->Option (List Rw)
 | 0,_=>none
 | _+1,[]=>some []
 | n+1,w::r=>if w=aA7 "side" then (match kB (r.take 2) with
   | some q=>(mT n (r.drop 2)).map (Rw.side q.1 q.2::·)
   | none=>none)
  else if w=aA7 "arc" then (match kB ((r.drop 1).take 2),kB ((r.drop 3).take 2),r.head? with
   | some m,some q,some l=>(mT n (r.drop 5)).map (Rw.arc m.1 m.2 q.1 q.2 l::·)
   | _,_,_=>none)
  else none
theorem wZ {CN CP:bAO} {ws:List Str} {Q:L2.T->Prop} {W:bAO->Prop} (hs:∀q,kB ws=some q->Q (vc q.1 q.2)) (hn:kB ws=none->W CN/\W CP):ptR CN CP ws Q W:=by
 refine ⟨λz=>(hn ?_).2,λu v e=>?_⟩
 ·match ws,z with
  | [],_=>rfl
  | [_],_=>rfl
  | [_,_],z=>exact absurd rfl z
  | _::_::_::_,_=>rfl
 ·subst e;refine ⟨λz=>(hn (by simp [kB,z])).1,λn d e1=>⟨λz=>(hn (by simp [kB,z,e1])).1,λm e e2=>?_⟩⟩;exact hs ((n,d),(m,e)) (by simp [kB,e1,e2])
theorem yN {CN CP:bAO} {Q:List L2.T->Prop} {W:bAO->Prop}:∀{n:Nat} {ws:List Str} {acc:List L2.T},ws.length<n->(∀rs,mT n ws=some rs->Q (acc++rs.map wA))->(mT n ws=none->W CN/\W CP)->aAS CN CP Q W n ws acc
 | 0,ws,acc,h,_,_=>absurd h (aXI _)
 | n+1,[],acc,_,hs,_=>by have:=hs [] rfl;simpa [aAS] using this
 | n+1,w::r,acc,h,hs,hn=>by
  have hl:r.length<n:=by simp at h;omega
  have hd:∀k,(r.drop k).length<n:=λk=>by rw [aLJ];omega
  unfold aAS;unfold mT at hs hn
  by_cases c:w=aA7 "side"
  ·rw [if_pos c] at hs hn ⊢;refine wZ (λq e=>⟨rfl,?_⟩) λe=>hn (by rw [e]);rw [e] at hs hn;simp only at hs hn;refine yN (hd 2) (λrs er=>?_) λer=>hn (by rw [er];rfl);have:=hs _ (by rw [er];rfl)
   simpa [wA] using this
  ·rw [if_neg c] at hs hn ⊢
   by_cases c2:w=aA7 "arc"
   ·rw [if_pos c2] at hs hn ⊢;refine wZ (λm e=>⟨rfl,?_⟩) λe=>hn (by rw [e]);rw [e] at hs hn;refine wZ (λq e2=>⟨rfl,λl hl'=>?_⟩) λe2=>hn (by rw [e2]);rw [e2,hl'] at hs hn;simp only at hs hn;refine yN (hd 5) (λrs er=>?_) λer=>hn (by rw [er];rfl);have:=hs _ (by rw [er];rfl)
    simpa [wA] using this
   ·rw [if_neg c2] at hs hn ⊢;exact (hn rfl).2
theorem mI {ws:List Str} {q:Fr×Fr} (h:kB ws=some q):Nv q.1 q.2 200/\∃u v,ws=[u,v]/\sg u=fw q.1/\sg v=fw q.2/\bE (sg u)=some q.1/\bE (sg v)=some q.2:=by
 match ws,h with
 | [u,v],h=>
  cases e1:bE (sg u) with
  | none=>simp [kB,e1] at h
  | some p=>
   cases e2:bE (sg v) with
   | none=>simp [kB,e1,e2] at h
   | some r=>
    have h':some (p,r)=some q:=by rw [<-h];simp [kB,e1,e2]
    cases h';obtain ⟨a1,a2,a3,a4,a5⟩:=qW e1;obtain ⟨b1,b2,b3,b4,b5⟩:=qW e2;exact ⟨⟨a1,b1,a5,b5⟩,u,v,rfl,a4.symm,b4.symm,e1,e2⟩
theorem rO:∀{n:Nat} {ws:List Str} {rs:List Rw},mT n ws=some rs->(∀r∈rs,nvR r)/\3*rs.length<=ws.length
 | 0,_,_,h=>by cases h
 | n+1,[],rs,h=>by cases h;exact ⟨by simp,by simp⟩
 | n+1,w::r,rs,h=>by
  unfold mT at h;split at h
  ·split at h
   ·rename_i q e;obtain ⟨rs',e',rfl⟩:=aYP.mp h;obtain ⟨h1,h2⟩:=rO e';obtain ⟨nv,u,v,e3,_⟩:=mI e;have hl:2<=r.length:=by
     have:=congrArg aYA e3;rw [aNQ] at this;simp at this;omega
    refine ⟨λp hp=>?_,by rw [aLJ] at h2;simp;omega⟩;rcases aH1.mp hp with rfl | hp
    ·exact nv
    ·exact h1 p hp
   ·cases h
  ·split at h
   ·split at h
    ·rename_i m q l e1 e2 e3;obtain ⟨rs',e',rfl⟩:=aYP.mp h;obtain ⟨h1,h2⟩:=rO e';obtain ⟨nv,u,v,e4,_⟩:=mI e2;have hl:5<=r.length:=by
      have:=congrArg aYA e4;rw [aNQ,aLJ] at this;simp at this;omega
     refine ⟨λp hp=>?_,by rw [aLJ] at h2;simp;omega⟩;rcases aH1.mp hp with rfl | hp
     ·exact ⟨(mI e1).1,nv⟩
     ·exact h1 p hp
    ·cases h
   ·cases h
def fB (ws:List Str) (a b:Fr) (rs:List Rw):Prop:=ws.head? = some (aA7 "from")/\kB ((ws.drop 1).take 2)=some (a,b)/\mT ((ws.drop 3).length+1) (ws.drop 3)=some rs/\rs≠[]/\i7 a b rs
end
end My
namespace My
open PySem L2 PyProof.Rows
section
variable {P:bAR} {w:bAU} {K:W.Frag} {mg:Str->Option Value} {base:Heap}
def nW (x:Str):Nat:=(aQV x ⟨#[32]⟩).length
def aCU (CP:bAO):SpG:=λts Q W=>∃x:Str,ts=[.str x]/\x.length<=300000/\nW x<=320/\(∀a b rs,fB (aQV x ⟨#[32]⟩) a b rs->Q (nR a b rs))/\((∀a b rs,¬fB (aQV x ⟨#[32]⟩) a b rs)->W CP)
theorem aGN (ws:List Str):cK (aE ws) (some 3) none=aE (ws.drop 3):=by
 unfold cK aE;have e:HT.sIx (ws.map L2.T.str).length 0 (some 3)=min 3 ws.length:=by have:=HT.sIx_nat (ws.map L2.T.str).length 0 3;rw [aG5] at this ⊢;exact this
 rw [e,HT.sIx_none,aG5,<-aZR,<-aY3]
 congr 1
 rcases aXK 3 ws.length with c | c
 ·rw [aXO c,aT2 (by rw [aLJ];omega)]
 ·rw [aXR c,aVP (aFI _),aVP c];simp
theorem aDV:∀{W:List (List Nat)} {w:List Nat},w∈W->w.length<=(jw W).length
 | [v],w,h=>by rw [aXB] at h;rw [h];exact aFI _
 | v::u::r,w,h=>by
  show w.length<=(v++32::jw (u::r)).length;rw [aBN,aOW];rcases aH1.mp h with rfl | h
  ·omega
  ·have:=aDV h;omega
theorem uR {x y:Str} (h:y∈aQV x ⟨#[32]⟩):y.length<=x.length:=by
 have j:=StrLaws.join_split x ⟨#[32]⟩;generalize aQV x ⟨#[32]⟩=l at j h;have e:jw (l.map sg)=sg x:=by
  rw [<-nS];show sg (Builtin.Str.glued ⟨#[32]⟩ l)=_;rw [StrLaws.glued_eq_join,j]
 rw [<-aO y,<-aO x,<-e];exact aDV (aYF.mpr ⟨y,h,rfl⟩)
theorem qX:∀rs:List Rw,cC (rs.map wA)=true
 | []=>rfl
 | p::rs=>by
  show (noL (wA p)&&cC (rs.map wA))=true;rw [qX rs];cases p<;>rfl
theorem nG (a b:Fr) (rs:List Rw):noL (nR a b rs)=true:=by
 show (noL (vc a b)&&(cC (rs.map wA)&&true))=true;rw [qX];rfl
abbrev lA:bAY:=top 39
theorem j0:aP ["text","words","path"] ["text"] (aH lA):=⟨rfl,rfl,rfl,by decide +kernel,rfl,by decide +kernel,by decide +kernel⟩
theorem vV {f:bAO} {fd:bAS} {C_BadNumber C_BadPath:bAO} (F:dA K "path_from" "path_from" lA f fd) (TX:Txt mg) (g_point_from:FnH P w K mg base 4 "point_from" ["words"] (spG K (aLM C_BadNumber C_BadPath))) (g_pieces_from:FnH P w K mg base 5 "pieces_from" ["words"] (spG K (aIB C_BadNumber C_BadPath))) (g_is_path:Fn P w K mg base 7 "is_path" ["thing"] (aK K rC)) (hx_BadPath:fP K C_BadPath none=true) (hm_BadPath:mg "BadPath" = some (.ref C_BadPath)) (hm_BadNumber:mg "BadNumber" = some (.ref C_BadNumber)) (hno:W.kitCls K (.ref C_BadPath) (.ref C_BadNumber)=some false) (hyes:W.kitCls K (.ref C_BadNumber) (.ref C_BadNumber)=some true) (hbD:W.mroIn K C_BadNumber (.type "BaseException")=some true):bI P w K mg base (dL false P w) 8 f fd ["text"] (spG K (aCU C_BadPath)):=by
 refine F.okG j0 ?len (λW cdv A outer s H E hr hW=>(aC (aV (i:=1) j0.nd rfl (aIW rfl) (nE (fv 0) (fc aJ aA)))
 (aC (aNE λ_=>(aG (aV (i:=2) j0.nd rfl (aIW rfl) (aT (fc (iK rfl (aAO (tJ (W:=λC=>C=C_BadNumber/\W C_BadPath) (λC h=>hW C_BadPath h.2) rfl hm_BadNumber (λC h=>by rw [h.1];exact hyes) hbD hx_BadPath rfl hm_BadPath) (vM (cb:=true) (cb':=false) (λz=>nomatch z) (W:=λC=>C=C_BadPath/\W C) (λC h=>hW C h.2) rfl hm_BadNumber (λC h=>by rw [h.1];exact hno) hbD)) g_point_from hr (by omega) rfl (fc (bU rfl (fv 1) (a9 aB) (a9 aB)) aA)) (fc (iK rfl (aAO (tJ (W:=λC=>C=C_BadNumber/\W C_BadPath) (λC h=>hW C_BadPath h.2) rfl hm_BadNumber (λC h=>by rw [h.1];exact hyes) hbD hx_BadPath rfl hm_BadPath) (vM (cb:=true) (cb':=false) (λz=>nomatch z) (W:=λC=>C=C_BadPath/\W C) (λC h=>hW C h.2) rfl hm_BadNumber (λC h=>by rw [h.1];exact hno) hbD)) g_pieces_from hr (by omega) rfl (fc (bU rfl (fv 1) (a9 aB) cA) aA)) aA))))))
 (aC (bP (gH (cF (iM rfl hr (aI rfl (fv 1) aB (λ_ _=>rfl)) aJ (aN _)) (cG (cD (bQ (aF g_is_path hr (by omega) rfl (fc (fv 2) aA))))))) (aG (lF (hW C_BadPath) hx_BadPath rfl hm_BadPath (fc aJ aA))) bH)
 (aG (aM (fv 2))))))) ?rd
 case len=>rintro ts Q W ⟨x,rfl,_⟩;rfl
 case rd=>
  rintro ts Q W ⟨x,rfl,hl,hn,hq,hw⟩;refine ⟨⟨by decide,by unfold big;omega⟩,λl hl'=>?_⟩;have hl':l=aQV x ⟨#[32]⟩:=hl';rw [<-hl'] at hq hw;have nl:l.length<=320:=by rw [hl'];exact hn
  have ky:∀y∈l,y.length<=500000:=λy hy=>by rw [hl'] at hy;have:=uR hy;omega
  have c13:cK (aE l) (some 1) (some 3)=aE ((l.drop 1).take 2):=mV l 1 3 (by decide);have c3:=aGN l;have bad:(∀a b rs,¬fB l a b rs)->∀C,C=C_BadNumber\/C=C_BadPath->(C=C_BadNumber/\W C_BadPath)\/(C=C_BadPath/\W C):=λz C h=>by
   rcases h with h | h
   ·exact .inl ⟨h,hw z⟩
   ·exact .inr ⟨h,by rw [h];exact hw z⟩
  have p1:ptR C_BadNumber C_BadPath ((l.drop 1).take 2) (λt=>∃q,kB ((l.drop 1).take 2)=some q/\t=vc q.1 q.2) (λC=>(C=C_BadNumber/\W C_BadPath)\/(C=C_BadPath/\W C)):=by
   refine wZ (λq e=>⟨q,e,rfl⟩) λe=>?_;have z:∀a b rs,¬fB l a b rs:=λa b rs g=>by have:=g.2.1;rw [e] at this;cases this
   exact ⟨bad z _ (.inl rfl),bad z _ (.inr rfl)⟩
  refine ⟨(l.drop 1).take 2,by show [L2.T.lst (cK (aE l) (some 1) (some 3))]=_;rw [c13],by rw [aNQ];omega,λy hy=>ky y (aXY (aXZ hy)),p1.1,λu v e=>?_⟩;obtain ⟨q1,q2⟩:=p1.2 u v e;refine ⟨q1,λn d z1=>⟨(q2 n d z1).1,λm k z2=>?_⟩⟩;obtain ⟨q,eq,et⟩:=(q2 n d z1).2 m k z2;rw [et];have nv:=(mI eq).1;clear p1 q1 q2 z1 z2 et e n d m k u v;refine ⟨rfl,l.drop 3,by show [L2.T.lst (cK (aE l) (some 3) none)]=_;rw [c3],by rw [aLJ];omega,λy hy=>ky y (aXY hy),?_⟩;refine yN (aXF _) (λrs er=>?_) λer=>?_
  ·obtain ⟨nr,l3⟩:=rO er;have lr:rs.length<=900:=by rw [aLJ] at l3;omega
   refine ⟨qX rs,qX rs,?_⟩;obtain ⟨w0,r0,hl0⟩:∃w0 r0,l=w0::r0:=by
    cases l with
    | nil=>exact absurd hl'.symm (jN _ _)
    | cons w0 r0=>exact ⟨w0,r0,rfl⟩
   have at0:c8 (aE l) 0=some (.str w0):=by rw [hl0];exact cM (j:=0) rfl
   show o1 (c8 (aE l) 0) _;rw [at0];refine ⟨aB7 _,?_⟩;show if (!(L2.dZ (.str w0) (.str (aA7 "from"))))=true then _ else _;rw [eqS]
   by_cases c:w0=aA7 "from"
   ·rw [decide_eq_true c,if_neg (by decide)];refine ⟨q.1,q.2,rs,rfl,nv,nr,lr,λk hk=>?_⟩;show if (!k)=true then _ else _;cases k with
    | true=>
     rw [if_neg (by decide)];obtain ⟨z1,z2⟩:=hk.mp rfl;exact ⟨nG _ _ _,hq q.1 q.2 rs ⟨by rw [hl0,c];rfl,eq,er,z1,z2⟩⟩
    | false=>
     rw [if_pos (by decide)];refine hw λa b rs' g=>?_;have e1:=g.2.1;have e2:=g.2.2.1;rw [eq] at e1;rw [er] at e2;cases e1;cases e2;have:=hk.mpr g.2.2.2;cases this
   ·rw [decide_eq_false c,if_pos (by decide)];refine hw λa b rs' g=>c ?_;have e1:=g.1;rw [hl0] at e1;exact Option.some.inj e1
  ·have z:∀a b rs,¬fB l a b rs:=λa b rs g=>by have:=g.2.2.1;rw [er] at this;cases this
   exact ⟨bad z _ (.inl rfl),bad z _ (.inr rfl)⟩
end
end My
namespace My
open PySem L2 PyProof.Rows
section
variable {P:bAR} {w:bAU} {K:W.Frag} {mg:Str->Option Value} {base:Heap}
def aBJ:fR:=λas Q=>∃x:Str,as=[.v (.str x)]/\x.length<=500000/\(bF (sg x)=true->Q (.v (.int ((aEW (sg x):Nat):Int))) [])/\(bF (sg x)=false->Q (.v .non) [])
def uG (cs:List Nat):List L2.T:=cs.map λc=>.bl (vB c)
theorem aOL:∀cs:List Nat,iX (uG cs)=some (cs.map vB)
 | []=>rfl
 | c::r=>by show iX (.bl (vB c)::uG r)=_;rw [iX,aOL r];rfl
theorem aPN:∀cs:List Nat,cC (uG cs)=true
 | []=>rfl
 | c::r=>by show cC (.bl (vB c)::uG r)=true;rw [cC,aPN r];rfl
theorem kS (cs:List Nat):bF cs=(!cs.isEmpty&&decide (cs.length<=60)&&cs.all vB&&(cs==[48]||!(cs.head?==some 48))):=rfl
abbrev k6:bAY:=top 61
theorem yQ:aP ["_law_text"] ["_law_text"] (aH k6):=⟨rfl,rfl,rfl,by decide +kernel,rfl,by decide +kernel,by decide +kernel⟩
theorem yS {f:bAO} {fd:bAS} (F:dA K "_law_number_in" "_law_number_in" k6 f fd) (TX:Txt mg)    : bI P w K mg base dQ 1 f fd ["_law_text"] (aK K aBJ):=by
 refine F.okT yQ ?len (λcdv A outer s H E hr=>(aC (bP (gH (cF (cD (aKX iU iU aB (yL rfl TX.n_len (fc (fv 0) aA)) aB)) (cF (cD (bQ (aCK rfl rfl rfl TX.n_all (fc (nL (N':=["_law_sign"]) (t:=1) (cap:=[]) rfl (cW.of rfl) rfl (by decide) (aQX (fv 0)) (λ_ _ _ _=>(bG (i:=0) (show aYK (["_law_sign"]:List Str) by decide +kernel) rfl (aIW rfl) (aX8 rfl))) (λ_ _ _ _=>(aQ3 (fv 0) aJ))) aA)))) (cG (gH (aCB (dP rfl hr (xX rfl (fv 0) aB (λ_ _=>rfl)) aJ (aN _)) (yJ (iM rfl hr (fv 0) aJ (aN _))))))))) (aG (aM h9)) bH)
 (aG (aM (qS rfl TX.n_int (fc (fv 0) aA)))))) ?rd
 case len=>rintro as Q ⟨x,rfl,_⟩;rfl
 case rd=>
  rintro as Q ⟨x,rfl,hl,q1,q2⟩;have ne:x.length=0↔sg x=[]:=by rw [<-aO];exact List.length_eq_zero_iff
  refine ⟨by unfold big;omega,?_⟩;show if decide ((0:Int)<(x.length:Int))=true then _ else _
  by_cases h0:0<x.length
  ·rw [decide_eq_true (by omega),if_pos rfl];show if (!(decide ((x.length:Int)<61)))=true then _ else _
   by_cases h1:x.length<61
   ·rw [decide_eq_true (by omega),if_neg (by decide)];have h60:decide ((sg x).length<=60)=true:=decide_eq_true (by rw [aO];omega);have hne:(!(sg x).isEmpty)=true:=by
     cases z:sg x with
     | nil=>rw [<-aO,z] at h0;simp at h0
     | cons a r=>rfl
    refine ⟨rfl,eO (λi E=>∃v0,E=[v0,some (.o false (uG ((sg x).take i)))]) ⟨none,rfl⟩ ?_ ?_⟩
    ·rintro i t rest E hi ⟨v0,rfl⟩ KK;unfold k9 at hi;rw [aEO] at hi;cases hc:(sg x)[i]? with
     | none=>rw [show x.cps.toList[i]? = none from hc] at hi;cases hi
     | some c=>
      rw [show x.cps.toList[i]? = some c from hc] at hi;cases hi;have hil:=(aA8.mp hc).1;rw [aO] at hil;refine ⟨by simp [uG];omega,KK _ ⟨some (.p (.str ⟨#[c]⟩)),?_⟩⟩;rw [aGX c];have e:uG ((sg x).take (i+1))=uG ((sg x).take i)++[.bl (vB c)]:=by
       unfold uG;rw [bAK,hc];simp
      rw [e];rfl
    ·rintro E ⟨v0,rfl⟩;have e:(sg x).take (k9 x).length=sg x:=by
      unfold k9;rw [aG5];exact aZ6
     rw [e];refine ⟨aPN _,?_⟩;show o1 (iX (uG (sg x))) _;rw [aOL];show if (!((List.map vB (sg x)).all id))=true then _ else _;have ea:(List.map vB (sg x)).all id=(sg x).all vB:=by simp [List.all_map]
     rw [ea];cases ad:(sg x).all vB with
     | false=>
      rw [if_pos (by decide)];refine ⟨rfl,q2 ?_⟩;rw [kS,ad];simp
     | true=>
      rw [if_neg (by decide)];obtain ⟨c,r,hcr⟩:∃c r,sg x=c::r:=by
       cases z:sg x with
       | nil=>rw [z] at hne;cases hne
       | cons c r=>exact ⟨c,r,rfl⟩
      have hat:c8 (sg x) 0=some c:=by rw [hcr];exact cM (xs:=c::r) (j:=0) (v:=c) rfl
      refine ⟨by unfold big;omega,?_⟩;show o1 (c8 (sg x) 0) _;rw [hat];refine ⟨aB7 _,?_⟩;show if ((⟨#[c]⟩:Str)==aA7 "0")=true then _ else _;have hc0:((⟨#[c]⟩:Str)==aA7 "0")=((sg x).head?==some 48):=by
       rw [hcr,wD,aE0];show ([c]==[48])=(some c==some 48)
       by_cases z:c=48
       ·subst z;rfl
       ·rw [show ([c]==[48])=false by simpa using z,show (some c==some 48)=false by simpa using z]
      have fin:bF (sg x)=(sg x==[48]||!((sg x).head?==some 48)):=by rw [kS,hne,h60,ad];simp
      have ok:bF (sg x)=true->_:=λz=>q1 z;rw [hc0];cases hh:((sg x).head?==some 48) with
      | true=>
       rw [if_pos rfl];refine ⟨aB7 _,?_⟩;show if (!(x==aA7 "0"))=true then _ else _;have e0:(x==aA7 "0")=(sg x==[48]):=by rw [wD,aE0]
       rw [e0];cases h8:(sg x==[48]) with
       | true=>
        rw [if_neg (by decide)];have pl:bF (sg x)=true:=by rw [fin,h8];rfl
        refine ⟨by omega,?_⟩;show o1 (PySem.intText? x) _;rw [lM pl];exact ⟨rfl,q1 pl⟩
       | false=>
        rw [if_pos (by decide)];exact ⟨rfl,q2 (by rw [fin,h8,hh];rfl)⟩
      | false=>
       rw [if_neg (by decide)];have pl:bF (sg x)=true:=by rw [fin,hh];simp
       refine ⟨by omega,?_⟩;show o1 (PySem.intText? x) _;rw [lM pl];exact ⟨rfl,q1 pl⟩
   ·rw [decide_eq_false (by omega),if_pos (by decide)];refine ⟨rfl,q2 ?_⟩;rw [kS,decide_eq_false (by rw [aO];omega)];simp
  ·rw [decide_eq_false (by omega),if_neg (by decide)];refine ⟨rfl,q2 ?_⟩;have z:sg x=[]:=ne.mp (by omega);rw [z];rfl
def qR:fR:=λas Q=>∃x:Str,as=[.v (.str x)]/\x.length<=500000/\(∀n d,bE (sg x)=some (n,d)->Q (.v (fT n d)) [])/\(bE (sg x)=none->Q (.v .non) [])
theorem aKD (cs:List Nat):(bS cs).drop (if iP cs then 1 else 0)=bS (cX cs):=by
 unfold cX iP;cases cs with
 | nil=>rfl
 | cons c r=>
  by_cases h:c=45
  ·subst h;simp [bS]
  ·simp [h]
theorem aI1 (cs:List Nat):eY (cX cs)=eY cs:=by
 unfold cX iP;cases cs with
 | nil=>rfl
 | cons c r=>
  by_cases h:c=45
  ·subst h;simp only [List.head?_cons,beq_self_eq_true,if_true,List.drop_succ_cons,aZP];unfold eY bS;simp
  ·simp [h]
theorem aAJ {n d:Nat} (hd:2<=d):L2.dZ (fr (low (n:Int) (d:Int))) (fT (n:Int) (d:Int))=decide (aPV n d=1):=by
 have hd0:(0:Int)<(d:Int):=by omega
 have e:low (n:Int) (d:Int)=((n:Int)/(aPV n d:Nat),(d:Int)/(aPV n d:Nat)):=by
  unfold low oX kN;rw [if_pos hd0,if_pos hd0,aSV,aSV]
 by_cases g:aPV n d=1
 ·rw [decide_eq_true g,e,g];have z:∀m:Int,m/((1:Nat):Int)=m:=λm=>by simp
  rw [z,z];exact dX _
 ·rw [decide_eq_false g,e];have g0:0<aPV n d:=aYE _ (by omega);have lt:d/aPV n d<d:=Nat.div_lt_self (by omega) (by omega);have ne:((d:Int)/(aPV n d:Nat)==(d:Int))=false:=by
   have:(d:Int)/(aPV n d:Nat)≠(d:Int):=by
    have:((d/aPV n d:Nat):Int)=(d:Int)/(aPV n d:Nat):=rfl;rw [<-this];omega
   simpa using this
  show (((n:Int)/(aPV n d:Nat)==(n:Int))&&(((d:Int)/(aPV n d:Nat)==(d:Int))&&true))=false;rw [ne];simp
theorem aE5 {h:Bool} {p:List Nat} {b:List Nat} (pp:bF p=true) (z:aEW p=0):gL h p (some b)=none:=by
 rw [nI pp,if_pos];rw [z,Nat.gcd_zero_left]
 by_cases c:aEW b<2
 ·exact .inr (.inl c)
 ·exact .inr (.inr (by omega))
theorem aL5 {h:Bool} {p:List Nat} {q:Option (List Nat)} (pp:bF p=false):gL h p q=none:=by unfold gL;rw [if_pos pp]
abbrev i9:bAY:=top 62
theorem dF:aP ["_law_text","_law_parts","_law_hand","_law_n","_law_d"] ["_law_text"] (aH i9):=⟨rfl,rfl,rfl,by decide +kernel,rfl,by decide +kernel,by decide +kernel⟩
theorem rX {f:bAO} {fd:bAS} (F:dA K "_law_fraction_in" "_law_fraction_in" i9 f fd) (TX:Txt mg) (g_number_in:Fn P w K mg base 1 "_law_number_in" ["_law_text"] (aK K aBJ)) (g_lowest:Fn P w K mg base 1 "_law_lowest" ["_law_n","_law_d"] (aK K sG))   : bI P w K mg base dQ 2 f fd ["_law_text"] (aK K qR):=by
 refine F.okT dF ?len (λcdv A outer s H E hr=>(aC (aV (i:=1) dF.nd rfl (aIW rfl) (nE (fv 0) (fc aJ aA)))
 (aC (aV (i:=2) dF.nd rfl (aIW rfl) (gX rfl hr (cY (fv 0) cA (a9 aB)) aJ (aN _)))
 (aC (aV (i:=3) dF.nd rfl (aIW rfl) (aF g_number_in hr (by omega) rfl (fc (cY (aI rfl (fv 1) aB (λ_ _=>rfl)) (a9 (qN rfl TX.n_int (fc (fv 2) aA))) cA) aA)))
 (aC (bP (gH (cF (wG (fv 3) (aN _)) (cF (dU mU (cL rfl rfl TX.n_len (fc (fv 1) aA)) aB (aN _)) (cG (gH (aCB (bQ (fv 2)) (yJ (dP rfl hr (fv 3) aB (aN _))))))))) (aG (aM h9)) bH)
 (aC (bP (dP rfl hr (cL rfl rfl TX.n_len (fc (fv 1) aA)) aB (aN _)) (aG (aM (aT (fc (kE (bQ (fv 2)) (gF (fv 3)) (fv 3)) (fc aB aA))))) bH)
 (aC (aV (i:=4) dF.nd rfl (aIW rfl) (aF g_number_in hr (by omega) rfl (fc (aI rfl (fv 1) aB (λ_ _=>rfl)) aA)))
 (aC (bP (gH (cF (wG (fv 4) (aN _)) (cF (dU iU (fv 4) aB (aN _)) (cG (iM rfl hr (aF g_lowest hr (by omega) rfl (fc (fv 3) (fc (fv 4) aA))) (aT (fc (fv 3) (fc (fv 4) aA))) (aN _)))))) (aG (aM h9)) bH)
 (aG (aM (aT (fc (kE (bQ (fv 2)) (gF (fv 3)) (fv 3)) (fc (fv 4) aA))))))))))))) ?rd
 case len=>rintro as Q ⟨x,rfl,_⟩;rfl
 case rd=>
  rintro as Q ⟨x,rfl,hl,q1,q2⟩;replace q1:∀n d,gL (iP (sg x)) (bS (cX (sg x))) (eY (cX (sg x)))=some (n,d)->_:=q1;replace q2:gL (iP (sg x)) (bS (cX (sg x))) (eY (cX (sg x)))=none->_:=q2;rw [aI1] at q1 q2;refine ⟨⟨by decide,by unfold big;omega⟩,λl hlx=>?_⟩;obtain ⟨a,r,er,sa,r0,r1,r2⟩:=aKT x;rw [<-lC,<-hlx] at er;refine ⟨by unfold big;omega,λy hy=>⟨aB7 _,?_⟩⟩;have hh:L2.dZ (.str y) (.str (aA7 "-"))=iP (sg x):=by
   rw [<-aF8 x];show (y==aA7 "-")=_;rw [hy,lL];rfl
  rw [hh];obtain ⟨h,hhd⟩:∃h,h=iP (sg x):=⟨_,rfl⟩;rw [<-hhd] at q1 q2 ⊢;have la:a.length<=500000:=by
   rw [<-aO,sa];have h1:=wW (sg x);rw [aO] at h1;omega
  have at0:c8 (aE l) 0=some (.str a):=by rw [er];exact cM (xs:=aE (a::r)) (j:=0) (v:=.str a) rfl
  show o1 (c8 (aE l) 0) _;rw [at0];refine ⟨by unfold big;omega,λy2 hy2=>?_⟩;have sy2:sg y2=bS (cX (sg x)):=by
   rw [<-aKD,<-hhd,hy2];have e1:(if h then (1:Int) else 0)=(((if h then 1 else 0):Nat):Int):=by cases h<;>rfl
   rw [e1,sY,sa]
  have ly2:y2.length<=500000:=by
   rw [<-aO,sy2];have h1:=wW (cX (sg x));have h2:=qY (sg x);rw [aO] at h2;omega
  refine ⟨y2,rfl,ly2,λpl=>?_,λpl=>?_⟩
  ·rw [sy2] at pl;rw [sy2];obtain ⟨N,hN⟩:∃N,N=aEW (bS (cX (sg x))):=⟨_,rfl⟩;rw [<-hN];show if decide ((2:Int)<((aE l).length:Int))=true then _ else _;have ll:(aE l).length=r.length+1:=by rw [er];simp [aE]
   rw [ll]
   match r,er,r0,r1,r2,ll with
   | b::c::s,er,r0,r1,r2,ll=>
    rw [decide_eq_true (by simp;omega),if_pos rfl];obtain ⟨q,e1,e2⟩:=r2 b c s rfl;exact ⟨rfl,q2 (by rw [e1,nI pl,if_pos (.inl (t8 e2))])⟩
   | [],er,r0,r1,r2,ll=>
    rw [decide_eq_false (by simp),if_neg (by decide)];have e0:=r0 rfl;rw [e0,aD6 pl,<-hN] at q2;rw [e0,aD6 pl,<-hN] at q1;show if h=true then _ else _;have ret:¬(h=true/\N=0)->Q (.v (fT (tZ h N) 1)) []:=λz=>q1 _ _ (by rw [if_neg z]);cases h with
    | true=>
     rw [if_pos rfl];refine ⟨aB7 _,?_⟩;show if ((N:Int)==0)=true then _ else _
     by_cases z:N=0
     ·rw [if_pos (by simpa using z)];exact ⟨rfl,q2 (by rw [if_pos ⟨rfl,z⟩])⟩
     ·rw [if_neg (by simpa using z)];refine ⟨aB7 _,?_⟩;show if (((aE l).length:Int)==1)=true then _ else _;rw [ll,if_pos (by rfl)];exact ⟨rfl,ret (λy=>z y.2)⟩
    | false=>
     rw [if_neg (by decide)];refine ⟨aB7 _,?_⟩;show if (((aE l).length:Int)==1)=true then _ else _;rw [ll,if_pos (by rfl)];exact ⟨rfl,ret (λy=>by cases y.1)⟩
   | [b],er,r0,r1,r2,ll=>
    rw [decide_eq_false (by simp),if_neg (by decide)];have e0:=r1 b rfl;rw [e0] at q1 q2;have lb:b.length<=500000:=by
     rw [<-aO];have h1:=aD7 e0;rw [aO x] at h1;omega
    show if h=true then _ else _;cases h with
    | true=>
     rw [if_pos rfl];refine ⟨aB7 _,?_⟩;show if ((N:Int)==0)=true then _ else _
     by_cases z:N=0
     ·rw [if_pos (by simpa using z)];exact ⟨rfl,q2 (aE5 pl (hN ▸ z))⟩
     ·rw [if_neg (by simpa using z)];have at1:c8 (aE l) 1=some (.str b):=by rw [er];exact cM (xs:=aE [a,b]) (j:=1) (v:=.str b) rfl
      refine ⟨aB7 _,?_⟩;show if (((aE l).length:Int)==1)=true then _ else _;rw [ll,if_neg (by simp)];show o1 (c8 (aE l) 1) _;rw [at1];refine ⟨b,rfl,lb,λpb=>?_,λpb=>?_⟩
      ·obtain ⟨M,hM⟩:∃M,M=aEW (sg b):=⟨_,rfl⟩;rw [<-hM];have cs:=nI (h:=iP (sg x)) (b:=sg b) pl;rw [<-hN,<-hM] at cs;show if decide ((M:Int)<2)=true then _ else _
       by_cases m2:M<2
       ·rw [decide_eq_true (by omega),if_pos rfl];exact ⟨rfl,q2 (by rw [hhd,cs,if_pos (.inr (.inl m2))])⟩
       ·rw [decide_eq_false (by omega),if_neg (by decide)];have ml:(M:Int).natAbs<2^8000:=by
         rw [aSV,hM];exact aG3 (eZ pb) (by decide)
        refine ⟨(N:Int),(M:Int),rfl,by omega,ml,?_⟩;refine ⟨aYT rfl,?_⟩;show if (!(L2.dZ (fr (low (N:Int) (M:Int))) (fT (N:Int) (M:Int))))=true then _ else _;rw [aAJ (by omega)]
        by_cases g:aPV N M=1
        ·rw [decide_eq_true g,if_neg (by decide)];refine ⟨rfl,q1 _ _ ?_⟩;rw [hhd,cs,if_neg]
         ·rw [<-hhd];rfl
         ·rintro (y | y | y)
          ·rw [pb] at y;cases y
          ·exact m2 y
          ·exact y g
        ·rw [decide_eq_false g,if_pos (by decide)];exact ⟨rfl,q2 (by rw [hhd,cs,if_pos (.inr (.inr g))])⟩
      ·exact ⟨rfl,q2 (by rw [nI pl,if_pos (.inl pb)])⟩
    | false=>
     rw [if_neg (by decide)];have at1:c8 (aE l) 1=some (.str b):=by rw [er];exact cM (xs:=aE [a,b]) (j:=1) (v:=.str b) rfl
     refine ⟨aB7 _,?_⟩;show if (((aE l).length:Int)==1)=true then _ else _;rw [ll,if_neg (by simp)];show o1 (c8 (aE l) 1) _;rw [at1];refine ⟨b,rfl,lb,λpb=>?_,λpb=>?_⟩
     ·obtain ⟨M,hM⟩:∃M,M=aEW (sg b):=⟨_,rfl⟩;rw [<-hM];have cs:=nI (h:=iP (sg x)) (b:=sg b) pl;rw [<-hN,<-hM] at cs;show if decide ((M:Int)<2)=true then _ else _
      by_cases m2:M<2
      ·rw [decide_eq_true (by omega),if_pos rfl];exact ⟨rfl,q2 (by rw [hhd,cs,if_pos (.inr (.inl m2))])⟩
      ·rw [decide_eq_false (by omega),if_neg (by decide)];have ml:(M:Int).natAbs<2^8000:=by
        rw [aSV,hM];exact aG3 (eZ pb) (by decide)
       refine ⟨(N:Int),(M:Int),rfl,by omega,ml,?_⟩;refine ⟨aYT rfl,?_⟩;show if (!(L2.dZ (fr (low (N:Int) (M:Int))) (fT (N:Int) (M:Int))))=true then _ else _;rw [aAJ (by omega)]
       by_cases g:aPV N M=1
       ·rw [decide_eq_true g,if_neg (by decide)];refine ⟨rfl,q1 _ _ ?_⟩;rw [hhd,cs,if_neg]
        ·rw [<-hhd];rfl
        ·rintro (y | y | y)
         ·rw [pb] at y;cases y
         ·exact m2 y
         ·exact y g
       ·rw [decide_eq_false g,if_pos (by decide)];exact ⟨rfl,q2 (by rw [hhd,cs,if_pos (.inr (.inr g))])⟩
     ·exact ⟨rfl,q2 (by rw [nI pl,if_pos (.inl pb)])⟩
  ·rw [sy2] at pl;exact ⟨rfl,q2 (aL5 pl)⟩
end
end My
namespace My
open PySem L2 PyProof.Rows
section
variable {P:bAR} {w:bAU} {K:W.Frag} {mg:Str->Option Value} {base:Heap}
abbrev jH:bAY:=top 63
theorem iH:aP ["_law_one","_law_text","_law_left"] ["_law_one"] (aH jH):=⟨rfl,rfl,rfl,by decide +kernel,rfl,by decide +kernel,by decide +kernel⟩
def tWr (n:Nat):fR:=λas Q=>∃N D:Int,as=[.v (fT N D)]/\(eQ N.natAbs).length<=5000/\(D=1\/(0<n/\0<=D/\(eQ D.natAbs).length<=5000))/\∀x:Str,sg x=bJ N D->Q (.v (.str x)) []
def aM8:Nat->fR
 | 0=>λ_ _=>False
 | n+1=>tWr n
theorem aII (k:Nat):c8 (sg (aA7 "0123456789")) (((k%10:Nat)):Int)=some (48+k%10):=by
 have h:k%10<10:=aY0 _ (by decide);refine cM ?_;rw [aO1];generalize k%10=j at h;have:j=0\/j=1\/j=2\/j=3\/j=4\/j=5\/j=6\/j=7\/j=8\/j=9:=by omega
 rcases this with rfl | rfl | rfl | rfl | rfl | rfl | rfl | rfl | rfl | rfl<;>rfl
def vD (N m:Nat) (t:List Nat):Prop:=(t=[]/\m=N)\/(t≠[]/\eQ N=(if m=0 then [] else eQ m)++t)
theorem vD.step {N m:Nat} {t:List Nat} (h:vD N m t) (hm:0<m\/t=[]):vD N (m/10) ((48+m%10)::t):=by
 refine .inr ⟨by simp,?_⟩;have key:eQ m=(if m/10=0 then [] else eQ (m/10))++[48+m%10]:=by
  rcases aVS m 10 with c | c
  ·rw [mL c,if_pos (by omega),Nat.mod_eq_of_lt c];rfl
  ·rw [oZ c,if_neg (by omega)]
 rcases h with ⟨e,rfl⟩ | ⟨ne,e⟩
 ·rw [e,key]
 ·have m0:0<m:=by
   rcases hm with z | z
   ·exact z
   ·exact absurd z ne
  rw [e,if_neg (by omega),key,aEE];rfl
theorem vD.len {N m:Nat} {t:List Nat} (h:vD N m t):t.length<=(eQ N).length:=by
 rcases h with ⟨rfl,_⟩ | ⟨_,e⟩
 ·simp
 ·rw [e,aBN];omega
theorem zI {f:bAO} {fd:bAS} {n:Nat} (F:dA K "_law_written" "_law_written" jH f fd) (TX:Txt mg) (g_written:Fn P w K mg base n "_law_written" ["_law_one"] (aK K (aM8 n))):bI P w K mg base dQ (n+1) f fd ["_law_one"] (aK K (tWr n)):=by
 refine F.okT iH ?len (λcdv A outer s H E hr=>(aC (eB (i:=1) (j:=2) rfl iH.nd rfl rfl (by decide) rfl rfl (fc aJ (fc (lB rfl TX.n_abs (fc (aI rfl (fv 0) aB (λ_ _=>rfl)) aA)) aA)) rfl)
 (aC (jK PassesOwn.never (gH (cF (dU mU (fv 2) aB (aN _)) (cG (dP rfl hr (fv 1) aJ (aN _))))) (aC (aV (i:=1) iH.nd rfl (aIW rfl) (aU (xX rfl aJ (aW gM (fv 2) aB) (λ_ _=>rfl)) (fv 1)))
 (aG (aV (i:=2) iH.nd rfl (aIW rfl) (aW cJ (fv 2) aB)))))
 (aC (aV (i:=1) iH.nd rfl (aIW rfl) (aU (yO aJ (qN rfl TX.n_int (fc (aOP iU (aI rfl (fv 0) aB (λ_ _=>rfl)) aB (aN _)) aA))) (fv 1)))
 (aG (aM (kE (dP rfl hr (aI rfl (fv 0) aB (λ_ _=>rfl)) aB (aN _)) (fv 1) (aU (aU (fv 1) aJ) (aF g_written hr (by omega) rfl (fc (aT (fc (aI rfl (fv 0) aB (λ_ _=>rfl)) (fc aB aA))) aA)))))))))) ?rd
 case len=>rintro as Q ⟨N,D,rfl,_⟩;rfl
 case rd=>
  rintro as Q ⟨N,D,rfl,hl,hD,q⟩;refine ⟨λμ E=>∃(m:Nat) (t:Str),E=[some (.p (fT N D)),some (.p (.str t)),some (.p (.int (m:Int)))]/\vD N.natAbs m (sg t)/\μ=2*m+(if sg t=[] then 1 else 0),⟨_,N.natAbs,⟨#[]⟩,rfl,.inl ⟨rfl,rfl⟩,rfl⟩,?_⟩;rintro μ E ⟨m,t,rfl,hL,rfl⟩;have tl:=hL.len;have et:(t==aA7 "")=decide (sg t=[]):=by
   rw [wD,vE];show (sg t==[])=_;cases sg t<;>rfl
  have lt10:(aA7 "0123456789").length<=big:=by decide
  have c10:sI (m:Int) 10:=⟨by decide,aG3 (show (10:Int).natAbs<2^7 by decide) (aVU (by decide) (by decide))⟩;have ef:(m:Int).fdiv 10=((m/10:Nat):Int):=aV9 _ (by decide);have t5:t.length<=5000:=by rw [<-aO];omega
  show if decide ((0:Int)<(m:Int))=true then _ else _
  by_cases h0:0<m
  ·rw [decide_eq_true (by omega),if_pos rfl];refine ⟨(by show (0:Int)<10;decide),lt10,?_⟩;show o1 (c8 (sg (aA7 "0123456789")) ((m%10:Nat):Int)) _;rw [aII];refine ⟨by show 1+t.length<=big;unfold big;omega,λu hu=>?_⟩;have su:sg u=(48+m%10)::sg t:=by rw [hu,aZ];rfl
   refine ⟨c10,_,?_,m/10,u,by rw [<-ef];rfl,by rw [su];exact hL.step (.inl h0),rfl⟩;rw [su,if_neg (by simp)];omega
  ·rw [decide_eq_false (by omega),if_neg (by decide)];obtain rfl:m=0:=by omega
   refine ⟨aB7 _,?_⟩;show if (t==aA7 "")=true then _ else _;rw [et]
   by_cases h1:sg t=[]
   ·rw [decide_eq_true h1,if_pos rfl];refine ⟨(by show (0:Int)<10;decide),lt10,?_⟩;show o1 (c8 (sg (aA7 "0123456789")) ((0%10:Nat):Int)) _;rw [aII];refine ⟨by show 1+t.length<=big;unfold big;omega,λu hu=>?_⟩;have su:sg u=(48+0%10)::sg t:=by rw [hu,aZ];rfl
    refine ⟨c10,_,?_,0/10,u,by rw [<-ef];rfl,by rw [su];exact hL.step (.inr h1),rfl⟩;rw [su,if_neg (by simp),if_pos h1];omega
   ·rw [decide_eq_false h1,if_neg (by decide)];have st:sg t=eQ N.natAbs:=by
     rcases hL with ⟨z,_⟩ | ⟨_,e⟩
     ·exact absurd z h1
     ·rw [e,if_pos rfl];rfl
    have lm:(aA7 "-").length=1:=by decide
    have ls:(aA7 "/").length=1:=by decide
    have rest:∀z:Str,sg z=(if N<0 then [45] else [])->z.length+t.length<=big/\∀u,u=z++t->u.length<=5001/\sg u=bM N:=λz hz=>by
     have lz:z.length<=1:=by rw [<-aO,hz];split<;>simp
     refine ⟨by unfold big;omega,λu hu=>?_⟩;have su:sg u=bM N:=by rw [hu,aZ,hz,st];rfl
     refine ⟨?_,su⟩;rw [<-aO,hu,aZ,aBN,aO,aO];omega
    have m1:∀j:Int,(j=1/\N<0)\/(j=0/\¬N<0)->sg (Txt.mul (aA7 "-") j)=(if N<0 then [45] else []):=λj hj=>by
     rcases hj with ⟨rfl,h⟩ | ⟨rfl,h⟩
     ·rw [if_pos h];decide
     ·rw [if_neg h];decide
    have ji:((if decide (N<0)=true then (1:Int) else 0)=1/\N<0)\/((if decide (N<0)=true then (1:Int) else 0)=0/\¬N<0):=by
     by_cases h:N<0
     ·exact .inl ⟨by rw [decide_eq_true h];rfl,h⟩
     ·exact .inr ⟨by rw [decide_eq_false h];rfl,h⟩
    have jb:(0:Int)<=(if decide (N<0)=true then (1:Int) else 0)/\(if decide (N<0)=true then (1:Int) else 0)<=(big:Int)/\(aA7 "-").length*((if decide (N<0)=true then (1:Int) else 0)).toNat<=big:=by
     by_cases h:N<0
     ·rw [decide_eq_true h];decide
     ·rw [decide_eq_false h];decide
    refine ⟨jb,λz hz=>?_⟩;have sz:=m1 _ ji;rw [<-hz] at sz;obtain ⟨r1,r2⟩:=rest z sz;refine ⟨r1,λu hu=>⟨aB7 _,?_⟩⟩;obtain ⟨lu,su⟩:=r2 u hu;show if (D==1)=true then _ else _
    by_cases d1:D=1
    ·rw [if_pos (by simpa using d1)];refine ⟨rfl,q u ?_⟩;unfold bJ;rw [if_pos d1];exact su
    ·rw [if_neg (by simpa using d1)];rcases hD with hD | ⟨hn,hD0,hDl⟩
     ·exact absurd hD d1
     obtain ⟨k,rfl⟩:∃k,n=k+1:=⟨n-1,by omega⟩;refine ⟨by unfold big;omega,λv hv=>⟨D,1,rfl,hDl,.inl rfl,λy hy=>?_⟩⟩;have sy:sg y=bM D:=by rw [hy];unfold bJ;rw [if_pos rfl]
     have ly:y.length<=5001:=by
      rw [<-aO,sy];unfold bM;rw [aBN];split<;>simp<;>omega
     have lv:v.length<=5002:=by rw [<-aO,hv,aZ,aBN,aO,aO];omega
     refine ⟨by unfold big;omega,λo ho=>⟨rfl,q o ?_⟩⟩;rw [ho,hv,aZ,aZ,su,sy,lC];unfold bJ;rw [if_neg d1,aEE];rfl
theorem sE {f:bAO} {fd:bAS} (F:dA K "_law_written" "_law_written" jH f fd) (TX:Txt mg) (hm:mg "_law_written" = some (.ref f)) (hk:W.keepIn K (.ref f)=true) (hb:kC K fd ["_law_one"] []) :
  ∀n,bI P w K mg base dQ n f fd ["_law_one"] (aK K (aM8 n))
 | 0=>⟨λ_ _ _ _ ⟨_,_,_,_,_,h,_⟩=>h.elim,λ_ _ _ _ _ _ _ _ _ _ _ _ _ ⟨_,_,_,_,_,h,_⟩=>h.elim⟩
 | n+1=>zI F TX ⟨⟨f,fd,sE F TX hm hk hb n,hm,hk,hb⟩⟩
end
end My
namespace My
open PySem L2 PyProof.Rows
section
variable {P:bAR} {w:bAU} {K:W.Frag} {mg:Str->Option Value} {base:Heap}
theorem bZ {u v w:Str} (e:w=u++v):w.length=u.length+v.length:=by rw [<-aO,e,aZ,aBN,aO,aO]
theorem zH {n:Nat} (h:n<10^60):(eQ n).length<=5000:=aVD (lD (by decide) h) (by decide)
theorem jw2 (a b:List Nat):jw [a,b]=a++32::b:=rfl
theorem xO:sg (aA7 " ")=[32]:=by decide
theorem aC3:∀W:List (List Nat),(jw W).length<=W.flatten.length+W.length
 | []=>by simp [jw]
 | [w]=>by simp [jw]
 | w::v::r=>by
  have:=aC3 (v::r);show (w++32::jw (v::r)).length<=_;rw [aSX,aBN,aBN,aOW,aOW];omega
structure Nw (p q:Fr):Prop where
 x:dS p
 y:dS q
 b60:(p.1.natAbs<10^60/\p.2.natAbs<10^60)/\q.1.natAbs<10^60/\q.2.natAbs<10^60
theorem Nv.nw {x y:Fr} (h:Nv x y 199):Nw x y:=⟨h.x,h.y,h.b60⟩
def pcR:Pc->Rw
 | .side x y=>.side x y
 | .arc m n x y l=>.arc m n x y (iR l)
theorem aHF:∀p:Pc,wA (pcR p)=pY p
 | .side _ _=>rfl
 | .arc _ _ _ _ _=>rfl
theorem aN1 (a b:Fr) (ps:List Pc):nR a b (ps.map pcR)=lZ a b ps:=by
 unfold nR lZ;rw [aZZ];have e:(wA∘pcR)=pY:=funext aHF;rw [e]
def aC0:fR:=λas Q=>∃x y:Fr,as=[.v (vc x y)]/\Nw x y/\∀t:Str,sg t=jw [fw x,fw y]->t.length<=300->Q (.v (.str t)) []
abbrev jU:bAY:=top 32
theorem uA:aP ["point"] ["point"] (aH jU):=⟨rfl,rfl,rfl,by decide +kernel,rfl,by decide +kernel,by decide +kernel⟩
theorem t9 {f:bAO} {fd:bAS} (F:dA K "point_text" "point_text" jU f fd) (TX:Txt mg) (g_fraction_text:Fn P w K mg base 2 "fraction_text" ["one"] (aK K rD))   : bI P w K mg base dQ 3 f fd ["point"] (aK K aC0):=by
 refine F.okT uA ?len (λcdv A outer s H E hr=>(aG (aM (aU (aU (aF g_fraction_text hr (by omega) rfl (fc (aI rfl (fv 0) aB (λ_ _=>rfl)) aA)) aJ) (aF g_fraction_text hr (by omega) rfl (fc (aI rfl (fv 0) aB (λ_ _=>rfl)) aA)))))) ?rd
 case len=>rintro as Q ⟨x,y,rfl,_⟩;rfl
 case rd=>
  rintro as Q ⟨x,y,rfl,h,q⟩;obtain ⟨⟨a1,a2⟩,b1,b2⟩:=h.b60;refine ⟨x.1,x.2,rfl,zH a1,zH a2,λu hu=>?_⟩;have lu:u.length<=123:=by rw [<-aO,hu];exact o8 a1 a2
  refine ⟨by show u.length+1<=big;unfold big;omega,λv hv=>?_⟩;have lv:=bZ hv;have l1:(aA7 " ").length=1:=rfl;refine ⟨y.1,y.2,rfl,zH b1,zH b2,λw hw=>?_⟩;have lw:w.length<=123:=by rw [<-aO,hw];exact o8 b1 b2
  refine ⟨by unfold big;omega,λt ht=>?_⟩;have lt:=bZ ht;refine ⟨rfl,q t ?_ (by omega)⟩;rw [ht,aZ,hv,aZ,hu,hw,xO,jw2];show fw x++[32]++fw y=_;simp
abbrev gR:bAY:=top 64
theorem oR:aP ["_law_point"] ["_law_point"] (aH gR):=⟨rfl,rfl,rfl,by decide +kernel,rfl,by decide +kernel,by decide +kernel⟩
theorem oM {f:bAO} {fd:bAS} (F:dA K "_law_point_written" "_law_point_written" gR f fd) (TX:Txt mg) (g_written:Fn P w K mg base 2 "_law_written" ["_law_one"] (aK K (aM8 2)))   : bI P w K mg base dQ 3 f fd ["_law_point"] (aK K aC0):=by
 refine F.okT oR ?len (λcdv A outer s H E hr=>(aG (aM (aU (aU (aF g_written hr (by omega) rfl (fc (aI rfl (fv 0) aB (λ_ _=>rfl)) aA)) aJ) (aF g_written hr (by omega) rfl (fc (aI rfl (fv 0) aB (λ_ _=>rfl)) aA)))))) ?rd
 case len=>rintro as Q ⟨x,y,rfl,_⟩;rfl
 case rd=>
  rintro as Q ⟨x,y,rfl,h,q⟩;obtain ⟨⟨a1,a2⟩,b1,b2⟩:=h.b60;have dx:=h.x.d;have dy:=h.y.d;refine ⟨x.1,x.2,rfl,zH a1,.inr ⟨by decide,by omega,zH a2⟩,λu hu=>?_⟩;have lu:u.length<=123:=by rw [<-aO,hu];exact o8 a1 a2
  refine ⟨by show u.length+1<=big;unfold big;omega,λv hv=>?_⟩;have lv:=bZ hv;have l1:(aA7 " ").length=1:=rfl;refine ⟨y.1,y.2,rfl,zH b1,.inr ⟨by decide,by omega,zH b2⟩,λw hw=>?_⟩;have lw:w.length<=123:=by rw [<-aO,hw];exact o8 b1 b2
  refine ⟨by unfold big;omega,λt ht=>?_⟩;have lt:=bZ ht;refine ⟨rfl,q t ?_ (by omega)⟩;rw [ht,aZ,hv,aZ,hu,hw,xO,jw2];show fw x++[32]++fw y=_;simp
def nvP:Pc->Prop
 | .side x y=>Nw x y
 | .arc m n x y _=>Nw m n/\Nw x y
theorem aIK:∀p:Pc,lO p≠[]
 | .side _ _=>by simp [lO]
 | .arc _ _ _ _ _=>by simp [lO]
theorem aLE:sg (aA7 "side ")=sg (aA7 "side")++[32]:=by decide
theorem aNG:sg (aA7 "arc ")=sg (aA7 "arc")++[32]:=by decide
theorem zY (l:Bool):(iR l).length<=5:=by cases l<;>decide
def aQI:fR:=λas Q=>∃p:Pc,as=[.v (pY p)]/\nvP p/\∀t:Str,sg t=jw (lO p)->t.length<=700->Q (.v (.str t)) []
abbrev j7:bAY:=top 35
theorem uD:aP ["piece"] ["piece"] (aH j7):=⟨rfl,rfl,rfl,by decide +kernel,rfl,by decide +kernel,by decide +kernel⟩
theorem tQ {f:bAO} {fd:bAS} (F:dA K "piece_text" "piece_text" j7 f fd) (TX:Txt mg) (g_is_side:Fn P w K mg base 1 "is_side" ["piece"] (aK K nM)) (g_point_text:Fn P w K mg base 3 "point_text" ["point"] (aK K aC0))   : bI P w K mg base dQ 4 f fd ["piece"] (aK K aQI):=by
 refine F.okT uD ?len (λcdv A outer s H E hr=>(aC (bP (bQ (aF g_is_side hr (by omega) rfl (fc (fv 0) aA))) (aG (aM (aU aJ (aF g_point_text hr (by omega) rfl (fc (aI rfl (fv 0) aB (λ_ _=>rfl)) aA))))) bH)
 (aG (aM (aU (aU (aU (aU (aU aJ (aI rfl (fv 0) aB (λ_ _=>rfl))) aJ) (aF g_point_text hr (by omega) rfl (fc (aI rfl (fv 0) aB (λ_ _=>rfl)) aA))) aJ) (aF g_point_text hr (by omega) rfl (fc (aI rfl (fv 0) aB (λ_ _=>rfl)) aA))))))) ?rd
 case len=>rintro as Q ⟨p,rfl,_⟩;rfl
 case rd=>
  rintro as Q ⟨p,rfl,h,q⟩;refine ⟨pcR p,by rw [aHF];rfl,?_⟩;cases p with
  | side x y=>
   refine ⟨x,y,rfl,h,λu hu lu=>⟨by show (aA7 "side ").length+u.length<=big;have:(aA7 "side ").length=5:=rfl;unfold big;omega,λt ht=>⟨rfl,q t ?_ ?_⟩⟩⟩
   ·rw [ht,aZ,hu,aLE];show sg (aA7 "side")++[32]++(fw x++32::fw y)=sg (aA7 "side")++32::(fw x++32::fw y);simp
   ·have:=bZ ht;have:(aA7 "side ").length=5:=rfl;omega
  | arc m n x y l=>
   have lt:=zY l;have l4:(aA7 "arc ").length=4:=rfl;have l1:(aA7 " ").length=1:=rfl;refine ⟨by unfold big;omega,λu1 e1=>?_⟩;have g1:=bZ e1;refine ⟨by unfold big;omega,λu2 e2=>?_⟩;have g2:=bZ e2;refine ⟨m,n,rfl,h.1,λu3 h3 b3=>?_⟩;refine ⟨by unfold big;omega,λu4 e4=>?_⟩;have g4:=bZ e4;refine ⟨by unfold big;omega,λu5 e5=>?_⟩;have g5:=bZ e5;refine ⟨x,y,rfl,h.2,λu6 h6 b6=>?_⟩;refine ⟨by unfold big;omega,λt ht=>?_⟩;have g7:=bZ ht;refine ⟨rfl,q t ?_ (by omega)⟩;rw [ht,aZ,e5,aZ,e4,aZ,e2,aZ,e1,aZ,h3,h6,aNG,xO];show sg (aA7 "arc")++[32]++sg (iR l)++[32]++(fw m++32::fw n)++[32]++(fw x++32::fw y)=sg (aA7 "arc")++32::(sg (iR l)++32::(fw m++32::(fw n++32::(fw x++32::fw y))));simp
theorem aO7:∀{Bs:List (List (List Nat))},(∀B∈Bs,B≠[])->jw (Bs.map jw)=jw Bs.flatten
 | [],_=>rfl
 | [B],_=>by simp [jw]
 | B::C::r,h=>by
  have hB:=h B (by simp);have hC:=h C (by simp);have ih:=aO7 (Bs:=C::r) λX hX=>h X (aJF _ hX);show jw B++32::jw ((C::r).map jw)=_;rw [ih];show _=jw (B++(C::r).flatten);rw [aJT hB (by rw [aSX];intro z;exact hC (List.append_eq_nil_iff.mp z).1)]
theorem rW (a b:Fr) (ps:List Pc):dO a b ps=([sg (aA7 "from"),fw a,fw b]::ps.map lO).flatten:=rfl
theorem aAV:sg (aA7 "from ")=sg (aA7 "from")++[32]:=by decide
def oC:fR:=λas Q=>∃(a b:Fr) (ps:List Pc),as=[.v (lZ a b ps)]/\Nw a b/\(∀p∈ps,nvP p)/\ps.length<=110/\∀t:Str,sg t=jw (dO a b ps)->t.length<=100000->Q (.v (.str t)) []
theorem aDB {B:Nat}:∀{us:List Str},(∀u∈us,u.length<=B)->(us.map sg).flatten.length<=B*us.length
 | [],_=>by simp
 | u::us,h=>by
  have ih:=aDB λv hv=>h v (aJF _ hv);have hu:=h u (by simp);rw [aQA,aSX,aBN,aO,aOW,Nat.mul_succ];omega
abbrev kU:bAY:=top 36
theorem x6:aP ["path"] ["path"] (aH kU):=⟨rfl,rfl,rfl,by decide +kernel,rfl,by decide +kernel,by decide +kernel⟩
theorem yC {f:bAO} {fd:bAS} (F:dA K "path_text" "path_text" kU f fd) (TX:Txt mg) (g_point_text:Fn P w K mg base 3 "point_text" ["point"] (aK K aC0)) (g_piece_text:Fn P w K mg base 4 "piece_text" ["piece"] (aK K aQI))   : bI P w K mg base dQ 5 f fd ["path"] (aK K oC):=by
 refine F.okT x6 ?len (λcdv A outer s H E hr=>(aG (aM (xJ rfl aJ (fc (gG (eU (fc (aU aJ (aF g_point_text hr (by omega) rfl (fc (aI rfl (fv 0) aB (λ_ _=>rfl)) aA))) aA)) (nL (N':=["piece"]) (t:=1) (cap:=[]) rfl (cW.of rfl) rfl (by decide) (oJ rfl (aI rfl (fv 0) aB (λ_ _=>rfl))) (λ_ _ _ _=>(bG (i:=0) (show aYK (["piece"]:List Str) by decide +kernel) rfl (aIW rfl) (aX8 rfl))) (λ_ _ _ _=>(aF g_piece_text hr (by omega) rfl (fc (fv 0) aA))))) aA))))) ?rd
 case len=>rintro as Q ⟨a,b,ps,rfl,_⟩;rfl
 case rd=>
  rintro as Q ⟨a,b,ps,rfl,nv,hp,hl,q⟩;refine ⟨a,b,rfl,nv,λu hu lu=>⟨by show (aA7 "from ").length+u.length<=big;have:(aA7 "from ").length=5:=rfl;unfold big;omega,λu0 h0=>?_⟩⟩;have l0:=bZ h0;have l5:(aA7 "from ").length=5:=rfl;have s0:sg u0=jw [sg (aA7 "from"),fw a,fw b]:=by
   rw [h0,aZ,hu,aAV];show sg (aA7 "from")++[32]++(fw a++32::fw b)=sg (aA7 "from")++32::(fw a++32::fw b);simp
  refine ⟨rfl,?_⟩;refine (?_:jO _ _ (ps.map pY) _ _);refine eO (λi E=>∃(w0:Option U) (us:List Str),E=[w0,some (.o false (aE us))]/\us.length=i/\us.map sg=((ps.take i).map lO).map jw/\∀u∈us,u.length<=700) ⟨none,[],rfl,rfl,rfl,by simp⟩ ?_ ?_
  ·rintro i t rest E hi ⟨w0,us,rfl,hn,hs,hb⟩ KK;rw [aEO] at hi;cases hq:ps[i]? with
   | none=>rw [hq] at hi;cases hi
   | some p=>
    rw [hq] at hi;cases hi;have hlt:=(aA8.mp hq).1;refine ⟨p,rfl,hp p (aIR hq),λv hv lv=>?_⟩;refine ⟨by show (aE us).length<1000;simp [aE];omega,KK _ ⟨_,us++[v],by unfold aE;rw [aW5];rfl,by simp [hn],?_,λw hw=>?_⟩⟩
    ·rw [bAK,hq,aW5,hs];simp [hv]
    ·rcases aW2.mp hw with hw | hw
     ·exact hb w hw
     ·rw [aXB] at hw;rw [hw];exact lv
  ·rintro E ⟨w0,us,rfl,hn,hs,hb⟩;rw [aG5] at hn hs;rw [aT2 (aFI _)] at hs;have nl:∀us:List Str,cC (aE us)=true:=λus=>by
    induction us with
    | nil=>rfl
    | cons u us ih=>show (true&&cC (aE us))=true;rw [ih];rfl
   refine ⟨nl us,by show 1+(aE us).length<=1000;simp [aE];omega,?_⟩;show o1 (dC (aE (u0::us))) _;rw [kK];have sl:=aDB (B:=700) hb;have fit:((u0::us).map sg).flatten.length+(u0::us).length<=90000:=by
    rw [aQA,aSX,aBN,aO,aOW];have:700*us.length<=700*110:=Nat.mul_le_mul_left _ (by omega);omega
   refine ⟨aDL (by unfold big;omega),λz hz=>?_⟩;have sz:sg z=jw ((u0::us).map sg):=by rw [hz];exact nS _
   refine ⟨rfl,q z ?_ ?_⟩
   ·rw [sz,aQA,hs,s0,rW,<-aQA (f:=jw),aO7];intro B hB;rcases aH1.mp hB with rfl | hB
    ·simp
    ·obtain ⟨p,_,rfl⟩:=aYF.mp hB;exact aIK p
   ·rw [<-aO,sz];have:=aC3 ((u0::us).map sg);rw [aG5] at this;omega
theorem aFW:sg (aA7 " side ")=32::(sg (aA7 "side")++[32]):=by decide
theorem aKW:sg (aA7 " arc ")=32::(sg (aA7 "arc")++[32]):=by decide
abbrev iJ:bAY:=top 65
theorem cH:aP ["_law_path","_law_text","_law_piece"] ["_law_path"] (aH iJ):=⟨rfl,rfl,rfl,by decide +kernel,rfl,by decide +kernel,by decide +kernel⟩
theorem qJ {f:bAO} {fd:bAS} (F:dA K "_law_path_written" "_law_path_written" iJ f fd) (TX:Txt mg) (g_point_written:Fn P w K mg base 3 "_law_point_written" ["_law_point"] (aK K aC0))   : bI P w K mg base dQ 4 f fd ["_law_path"] (aK K oC):=by
 refine F.okT cH ?len (λcdv A outer s H E hr=>(aC (aV (i:=1) cH.nd rfl (aIW rfl) (aU aJ (aF g_point_written hr (by omega) rfl (fc (aI rfl (fv 0) aB (λ_ _=>rfl)) aA))))
 (aC (j6 PassesOwn.never rfl (oJ rfl (aI rfl (fv 0) aB (λ_ _=>rfl))) (bG (i:=2) cH.nd rfl (aIW rfl))
  (aG (bP (dP rfl hr (aI rfl (fv 2) aB (λ_ _=>rfl)) aJ (aN _)) (aG (aV (i:=1) cH.nd rfl (aIW rfl) (aU (aU (fv 1) aJ) (aF g_point_written hr (by omega) rfl (fc (aI rfl (fv 2) aB (λ_ _=>rfl)) aA))))) (aC (aV (i:=1) cH.nd rfl (aIW rfl) (aU (aU (aU (aU (fv 1) aJ) (aI rfl (fv 2) aB (λ_ _=>rfl))) aJ) (aF g_point_written hr (by omega) rfl (fc (aI rfl (fv 2) aB (λ_ _=>rfl)) aA))))
 (aG (aV (i:=1) cH.nd rfl (aIW rfl) (aU (aU (fv 1) aJ) (aF g_point_written hr (by omega) rfl (fc (aI rfl (fv 2) aB (λ_ _=>rfl)) aA)))))))))
 (aG (aM (fv 1)))))) ?rd
 case len=>rintro as Q ⟨a,b,ps,rfl,_⟩;rfl
 case rd=>
  rintro as Q ⟨a,b,ps,rfl,nv,hp,hl,q⟩;refine ⟨a,b,rfl,nv,λu hu lu=>⟨by show (aA7 "from ").length+u.length<=big;have:(aA7 "from ").length=5:=rfl;unfold big;omega,λu0 h0=>?_⟩⟩;have l0:=bZ h0;have l5:(aA7 "from ").length=5:=rfl;have s0:sg u0=jw [sg (aA7 "from"),fw a,fw b]:=by
   rw [h0,aZ,hu,aAV];show sg (aA7 "from")++[32]++(fw a++32::fw b)=sg (aA7 "from")++32::(fw a++32::fw b);simp
  refine (?_:kI _ _ _ (ps.map pY) _);refine dN (λi E=>∃(v2:Option U) (x:Str),E=[some (.p (lZ a b ps)),some (.p (.str x)),v2]/\sg x=jw (dO a b (ps.take i))/\x.length<=400+800*i) ⟨_,u0,rfl,s0,by omega⟩ ?_ ?_
  ·rintro i t rest E hi ⟨v2,x,rfl,hx,lx⟩ KK;rw [aEO] at hi;cases hq:ps[i]? with
   | none=>rw [hq] at hi;cases hi
   | some p=>
    rw [hq] at hi;cases hi;have hlt:=(aA8.mp hq).1;have nvp:=hp p (aIR hq);have nx:jw (dO a b (ps.take (i+1)))=jw (dO a b (ps.take i))++32::jw (lO p):=by
     rw [bAK,hq,rW,rW,aW5];show jw ([sg (aA7 "from"),fw a,fw b]++((ps.take i).map lO++[lO p]).flatten)=_;rw [List.flatten_append,<-aEE];show jw (_++(lO p++[]))=_;rw [aU7,aJT (by simp) (aIK p)];rfl
    cases p with
    | side px py=>
     have l6:(aA7 " side ").length=6:=rfl;refine ⟨aB7 _,?_⟩;refine ⟨by unfold big;omega,λu1 e1=>?_⟩;have g1:=bZ e1;refine ⟨px,py,rfl,nvp,λu2 h2 b2=>?_⟩;refine ⟨by unfold big;omega,λu3 e3=>?_⟩;have g3:=bZ e3;refine KK _ ⟨_,u3,rfl,?_,by omega⟩;rw [nx,e3,aZ,e1,aZ,h2,hx,aFW];show jw (dO a b (ps.take i))++32::(sg (aA7 "side")++[32])++(fw px++32::fw py)=jw (dO a b (ps.take i))++32::(sg (aA7 "side")++32::(fw px++32::fw py));simp
    | arc m n px py l=>
     have lt:=zY l;have l6:(aA7 " arc ").length=5:=rfl;have l1:(aA7 " ").length=1:=rfl;refine ⟨aB7 _,?_⟩;refine ⟨by unfold big;omega,λu1 e1=>?_⟩;have g1:=bZ e1;refine ⟨by unfold big;omega,λu2 e2=>?_⟩;have g2:=bZ e2;refine ⟨by unfold big;omega,λu3 e3=>?_⟩;have g3:=bZ e3;refine ⟨m,n,rfl,nvp.1,λu4 h4 b4=>?_⟩;refine ⟨by unfold big;omega,λu5 e5=>?_⟩;have g5:=bZ e5;refine ⟨by unfold big;omega,λu6 e6=>?_⟩;have g6:=bZ e6;refine ⟨px,py,rfl,nvp.2,λu7 h7 b7=>?_⟩;refine ⟨by unfold big;omega,λu8 e8=>?_⟩;have g8:=bZ e8;refine KK _ ⟨_,u8,rfl,?_,by omega⟩;rw [nx,e8,aZ,e6,aZ,e5,aZ,e3,aZ,e2,aZ,e1,aZ,h4,h7,hx,aKW,xO];show jw (dO a b (ps.take i))++32::(sg (aA7 "arc")++[32])++sg (iR l)++[32]++(fw m++32::fw n)++[32]++(fw px++32::fw py)=jw (dO a b (ps.take i))++32::(sg (aA7 "arc")++32::(sg (iR l)++32::(fw m++32::(fw n++32::(fw px++32::fw py)))));simp
  ·rintro E ⟨v2,x,rfl,hx,lx⟩;rw [aG5] at hx lx;rw [aT2 (aFI _)] at hx;exact ⟨rfl,q x hx (by omega)⟩
end
end My
namespace My
open PySem L2 PyProof.Rows
section
variable {P:bAR} {w:bAU} {K:W.Frag} {mg:Str->Option Value} {base:Heap}
def nQ (x:Str):Nat:=(sg x).count 32
theorem nX (x:Str):nQ x<=x.length:=by rw [<-aO];exact List.count_le_length
theorem fJ {u v w:Str} (e:w=u++v):nQ w=nQ u+nQ v:=by unfold nQ;rw [e,aZ,List.count_append]
theorem zD {x:Str} {k:Nat} (h:k<=x.length):sg (aXV x none (some (k:Int)))=(sg x).take k:=by
 have e:=StrLaws.sliceText_to (x:=x) (j:=(k:Int)) ⟨by omega,by rw [aO];omega⟩;have e':aXV x none (some (k:Int))=⟨(((sg x).drop 0).take ((k:Int)-0:Int).toNat).toArray⟩:=e;rw [e',zC,aZP]
 congr 1
theorem pM {x y:Str} {k:Nat} (h:y=aXV x none (some (k:Int))):y.length<=k:=by
 rcases aXK k x.length with c | c
 ·rw [<-aO,h,zD c,aNQ];omega
 ·rw [h];exact aVD (aZ4 _ _ _) c
theorem nY {x y:Str} {k:Nat} (h:y=aXV x (some (k:Int)) none):nQ y<=nQ x:=by
 unfold nQ;rw [h,sY];exact (List.drop_sublist k (sg x)).count_le 32
theorem aPQ {x y:Str} {k:Nat} (hk:k<=x.length) (h:y=aXV x none (some (k:Int))):nQ y<=nQ x:=by
 unfold nQ;rw [h,zD hk];exact (List.take_sublist k (sg x)).count_le 32
def aCO:fR:=λas Q=>as=[]/\∀x:Str,94<=x.length->x.length<=100->Q (.v (.str x)) []
abbrev x9:bAY:=top 44
theorem aI6:aP [] [] (aH x9):=⟨rfl,rfl,rfl,by decide +kernel,rfl,by decide +kernel,by decide +kernel⟩
theorem aIX {f:bAO} {fd:bAS} (F:dA K "_law_signs" "_law_signs" x9 f fd) (TX:Txt mg)    : bI P w K mg base dQ 1 f fd [] (aK K aCO):=by
 refine F.okT aI6 ?len (λcdv A outer s H E hr=>(aG (aM aJ))) ?rd
 case len=>rintro as Q ⟨rfl,_⟩;rfl
 case rd=>
  rintro as Q ⟨rfl,q⟩;exact ⟨rfl,q _ (by decide) (by decide)⟩
theorem aEU {x:Str} {k:Int} (h0:0<=k) (h1:k<(x.length:Int)):∃c,c8 (sg x) k=some c:=by
 have hk:k.toNat<(sg x).length:=by rw [aO];omega
 refine ⟨(sg x)[k.toNat],?_⟩;have z:=cM (xs:=sg x) (j:=k.toNat) (v:=(sg x)[k.toNat]) (aCP hk)
 rwa [show ((k.toNat:Nat):Int)=k by omega] at z
def aIN:fR:=λas Q=>∃(xs:List L2.T) (x:Str) (n:Int),as=[.b xs,.v (.str x)]/\Bx xs n/\n<=900000/\x.length<=100000/\∀y ys,y.length<=3*x.length+3->nQ y<=2*nQ x+3->Bx ys (n+5)->cC ys=true->Q (.v (.str y)) ys
abbrev kP:bAY:=top 67
theorem fK:aP ["_law_box","_law_text","_law_sign","_law_some","_law_way","_law_kind","_law_at","_law_a","_law_b"] ["_law_box","_law_text"] (aH kP):=⟨rfl,rfl,rfl,by decide +kernel,rfl,by decide +kernel,by decide +kernel⟩
theorem xG {f:bAO} {fd:bAS} (F:dA K "_law_bent_text" "_law_bent_text" kP f fd) (TX:Txt mg) (g_take:Fn P w K mg base 1 "_law_take" ["_law_box","_law_many"] (aK K tL)) (g_signs:Fn P w K mg base 1 "_law_signs" [] (aK K aCO))   : bI P w K mg base dQ 2 f fd ["_law_box","_law_text"] (aK K aIN):=by
 refine F.okT fK ?len (λcdv A outer s H E hr=>(aC (aEJ (i:=4) (j:=5) (k:=6) rfl fK.nd rfl rfl rfl (by decide) (by decide) (by decide) rfl rfl rfl (fc (bL g_take hr (by omega) rfl (fc (fv 0) (fc aB aA))) (fc (bL g_take hr (by omega) rfl (fc (fv 0) (fc aB aA))) (fc (bL g_take hr (by omega) rfl (fc (fv 0) (fc (aY bK (yL rfl TX.n_len (fc (fv 1) aA)) aB) aA))) aA))) rfl)
 (aC (aV (i:=2) fK.nd rfl (aIW rfl) (aI rfl (eU (fc (xX rfl (aJJ g_signs hr (by omega) rfl) (bL g_take hr (by omega) rfl (fc (fv 0) (fc aB aA))) (λ_ _=>rfl)) (fc (xX rfl aJ (bL g_take hr (by omega) rfl (fc (fv 0) (fc aB aA))) (λ_ _=>rfl)) (fc aJ aA)))) (fv 5) (λ_ _=>rfl)))
 (aC (eB (i:=7) (j:=8) rfl fK.nd rfl rfl (by decide) rfl rfl (fc (cY (fv 1) cA (a9 (fv 6))) (fc (cY (fv 1) (a9 (fv 6)) cA) aA)) rfl)
 (aC (aV (i:=3) fK.nd rfl (aIW rfl) (eU (fc (aU (aU (fv 7) (fv 2)) (fv 8)) (fc (aU (fv 7) (cY (fv 8) (a9 aB) cA)) (fc (aU (aU (fv 7) (fv 2)) (cY (fv 8) (a9 aB) cA)) (fc (aU (aU (fv 7) (cY (fv 8) cA (a9 aB))) (fv 8)) (fc (aU (aU (fv 7) (aOF (cY (fv 8) cA (a9 aB)) (a9 (gF aB)))) (cY (fv 8) (a9 aB) cA)) (fc (aU (aU (fv 7) (cY (fv 8) cA (a9 aB))) (fv 8)) (fc (fv 7) aA)))))))))
 (aG (aM (aI rfl (fv 3) (fv 4) (λ_ _=>rfl))))))))) ?rd
 case len=>rintro as Q ⟨xs,x,n,rfl,_⟩;rfl
 case rd=>
  rintro as Q ⟨xs,x,n,rfl,hB,hn,hl,q⟩;refine ⟨xs,7,n,rfl,hB,by omega,by decide,by decide,λway y1 w0 w1 b1=>?_⟩;refine ⟨y1,3,n+1,rfl,b1,by omega,by decide,by decide,λkind y2 k0 k1 b2=>?_⟩;refine ⟨by unfold big;omega,?_⟩;refine ⟨y2,(x.length:Int)+1,n+1+1,rfl,b2,by omega,by omega,by omega,λat' y3 a0 a1 b3=>?_⟩;refine ⟨rfl,λsx h1 h2=>?_⟩;refine ⟨y3,94,n+1+1+1,rfl,b3,by omega,by decide,by decide,λi4 y4 i40 i41 b4=>?_⟩;obtain ⟨c4,hc4⟩:=aEU (x:=sx) (k:=i4) i40 (by omega);refine ⟨by unfold big;omega,?_⟩;show o1 (c8 (sg sx) i4) _;rw [hc4];refine ⟨y4,13,n+1+1+1+1,rfl,b4,by omega,by decide,by decide,λi5 y5 i50 i51 b5=>?_⟩;have l13:(aA7 "0123456789/- ").length=13:=by decide
  obtain ⟨c5,hc5⟩:=aEU (x:=aA7 "0123456789/- ") (k:=i5) i50 (by omega);refine ⟨by decide,?_⟩;show o1 (c8 (sg (aA7 "0123456789/- ")) i5) _;rw [hc5];have b5':=b5;obtain ⟨A0,B0,c0,rfl,_⟩:=b5;obtain ⟨sn,hsn,lsn⟩:∃sn:Str,c8 [L2.T.str ⟨#[c4]⟩,.str ⟨#[c5]⟩,.str (aA7 "\n")] kind=some (.str sn)/\sn.length=1:=by
   have:kind=0\/kind=1\/kind=2:=by omega
   rcases this with rfl | rfl | rfl
   ·exact ⟨_,rfl,rfl⟩
   ·exact ⟨_,rfl,rfl⟩
   ·exact ⟨_,rfl,by decide⟩
  show o1 (c8 [L2.T.str ⟨#[c4]⟩,.str ⟨#[c5]⟩,.str (aA7 "\n")] kind) _;rw [hsn];have cat:∀{u v w:Str},w=u++v->w.length=u.length+v.length:=λ{u v w} e=>by rw [<-aO,e,aZ,aBN,aO,aO]
  have cut:∀{u v:Str} {lo hi:Option Int},v=aXV u lo hi->v.length<=u.length:=λ{u v lo hi} e=>by rw [e];exact aZ4 u lo hi
  refine ⟨by unfold big;omega,λa ha=>⟨by unfold big;omega,λb hb=>?_⟩⟩;have la:=cut ha;have lb:=cut hb;have ei:at'=((at'.toNat:Nat):Int):=by omega
  rw [ei] at ha hb;have ca:=aPQ (by omega) ha;have cb:=nY hb;have cn:=nX sn;clear ha hb ei;refine ⟨by unfold big;omega,λu1 e1=>?_⟩;have l1:=cat e1;have cl1:=fJ e1;refine ⟨by unfold big;omega,λv1 f1=>?_⟩;have m1:=cat f1;have cm1:=fJ f1;refine ⟨by unfold big;omega,λs2 g2=>?_⟩;have n2:=cut g2;have cn2:=nY (k:=1) g2;refine ⟨by unfold big;omega,λv2 f2=>?_⟩;have m2:=cat f2;have cm2:=fJ f2;refine ⟨by unfold big;omega,λu3 e3=>?_⟩;have l3:=cat e3;have cl3:=fJ e3;refine ⟨by unfold big;omega,λs3 g3=>?_⟩;have n3:=cut g3;have cn3:=nY (k:=1) g3;refine ⟨by unfold big;omega,λv3 f3=>?_⟩;have m3:=cat f3;have cm3:=fJ f3;refine ⟨by unfold big;omega,λs4 g4=>?_⟩;have n4:=cut g4;have cn4:=pM (k:=1) g4;have dn4:=nX s4;refine ⟨by unfold big;omega,λu4 e4=>?_⟩;have l4:=cat e4;have cl4:=fJ e4;refine ⟨by unfold big;omega,λv4 f4=>?_⟩;have m4:=cat f4;have cm4:=fJ f4;refine ⟨by unfold big;omega,λs5 g5=>?_⟩;have n5:=cut g5;have cn5:=pM (k:=2) g5;refine ⟨rfl,by unfold big;omega,λr5 h5=>?_⟩;have dr5:=nX r5;have o5:r5.length=s5.length:=by rw [h5,<-aO,<-aO];unfold aIO;rw [zC,aXG]
  refine ⟨by unfold big;omega,λu5 e5=>?_⟩;have l5:=cat e5;have cl5:=fJ e5;refine ⟨by unfold big;omega,λt5 g5'=>?_⟩;have n5':=cut g5';have cn5':=nY (k:=2) g5';refine ⟨by unfold big;omega,λv5 f5=>?_⟩;have m5:=cat f5;have cm5:=fJ f5;refine ⟨by unfold big;omega,λs6 g6=>?_⟩;have n6:=cut g6;have cn6:=pM (k:=3) g6;have dn6:=nX s6;refine ⟨by unfold big;omega,λu6 e6=>?_⟩;have l6:=cat e6;have cl6:=fJ e6;refine ⟨by unfold big;omega,λv6 f6=>?_⟩;have m6:=cat f6;have cm6:=fJ f6;obtain ⟨y,hy,ly,cy⟩:∃y:Str,c8 [L2.T.str v1,.str v2,.str v3,.str v4,.str v5,.str v6,.str a] way=some (.str y)/\y.length<=3*x.length+3/\nQ y<=2*nQ x+3:=by
   have:way=0\/way=1\/way=2\/way=3\/way=4\/way=5\/way=6:=by omega
   rcases this with rfl | rfl | rfl | rfl | rfl | rfl | rfl
   ·exact ⟨v1,rfl,by omega,by omega⟩
   ·exact ⟨v2,rfl,by omega,by omega⟩
   ·exact ⟨v3,rfl,by omega,by omega⟩
   ·exact ⟨v4,rfl,by omega,by omega⟩
   ·exact ⟨v5,rfl,by omega,by omega⟩
   ·exact ⟨v6,rfl,by omega,by omega⟩
   ·exact ⟨a,rfl,by omega,by omega⟩
  show o1 (c8 [L2.T.str v1,.str v2,.str v3,.str v4,.str v5,.str v6,.str a] way) _;rw [hy];exact ⟨rfl,q y _ ly cy (b5'.mono (by omega)) rfl⟩
end
end My
namespace My
open PySem L2 PyProof.Rows
section
variable {P:bAR} {w:bAU} {K:W.Frag} {mg:Str->Option Value} {base:Heap}
def bV (w:Str):L2.T:=match bE (sg w) with
 | some p=>fr p
 | none=>.non
theorem oW {w:Str} {p:Fr} (h:bE (sg w)=some p):bV w=fr p:=by unfold bV;rw [h]
theorem aGA {w:Str} (h:bE (sg w)=none):bV w = .non:=by unfold bV;rw [h]
theorem aRB (w:Str):dT (bV w)<=2:=by
 unfold bV
 split
 ·exact lV rfl
 ·exact lV rfl
theorem rF:∀l:List Str,uT (l.map bV)<=2
 | []=>by decide
 | w::l=>aZJ.mpr ⟨aRB w,rF l⟩
theorem z7:∀l:List Str,cC (l.map bV)=true
 | []=>rfl
 | w::l=>by
  show (noL (bV w)&&cC (l.map bV))=true;rw [z7 l];unfold bV
  split<;>rfl
theorem rL (l:List Str):inT .non (l.map bV)=l.any λw=>(bE (sg w)).isNone:=by
 unfold inT;rw [List.any_map]
 congr 1
 funext w
 show L2.dZ (bV w) .non=_;unfold bV
 split
 ·rename_i e;rw [e];rfl
 ·rename_i e;rw [e];rfl
theorem wS {α:Type} (f:α->L2.T) (ws:List α) (a b:Nat) (h:a<=b):cK (ws.map f) (some (a:Int)) (some (b:Int))=((ws.drop a).take (b-a)).map f:=by
 unfold cK;rw [HT.sIx_nat,HT.sIx_nat,aG5,<-aZR,<-aY3]
 congr 1
 rcases aXK a ws.length with c | c
 ·rw [aXO c];rcases aXK b ws.length with d | d
  ·rw [aXO d]
  ·rw [aXR d,aT2 (by rw [aLJ];omega),aT2 (by rw [aLJ];omega)]
 ·rw [aXR c,aVP (aFI _),aVP c];simp
theorem k8 {ws:List Str} {i:Nat} {w:Str} (h:ws[i]? = some w):c8 (ws.map bV) (i:Int)=some (bV w):=cM (by rw [aEO,h];rfl)
theorem lJ {ws:List Str} {a:Nat} (h:a+2<=ws.length):∃u v,ws[a]? = some u/\ws[a+1]? = some v/\(ws.drop a).take 2=[u,v]:=by
 refine ⟨ws[a],ws[a+1],aCP (by omega),aCP (by omega),?_⟩;rw [aVT (by omega),aVT (i:=a+1) (by omega)];rfl
theorem iQ {u v:Str}:([u,v].any λw=>(bE (sg w)).isNone)=true↔kB [u,v]=none:=by
 cases e1:bE (sg u) with
 | none=>simp [kB,e1]
 | some p=>
  cases e2:bE (sg v) with
  | none=>simp [kB,e1,e2]
  | some q=>simp [kB,e1,e2]
theorem pD {ws:List Str} (h:ws.length≠2):kB ws=none:=by
 match ws,h with
 | [],_=>rfl
 | [_],_=>rfl
 | [_,_],z=>exact absurd rfl z
 | _::_::_::_,_=>rfl
theorem nJ {u v:Str} {q:Fr×Fr} (h:kB [u,v]=some q):bV u=fr q.1/\bV v=fr q.2:=by
 obtain ⟨_,u',v',e,_,_,h1,h2⟩:=mI h;cases e;exact ⟨oW h1,oW h2⟩
def qT:fR:=λas Q=>∃x:Str,as=[.v (.str x)]/\x.length<=300000/\nW x<=320/\(∀a b rs,fB (aQV x ⟨#[32]⟩) a b rs->Q (.v (nR a b rs)) [])/\((∀a b rs,¬fB (aQV x ⟨#[32]⟩) a b rs)->Q (.v .non) [])
abbrev oV:bAY:=top 66
theorem cT:aP ["_law_text","_law_numbers","_law_at","_law_path","_law_words","_law_pieces","_law_many","_law_first","_law_middle","_law_to"] ["_law_text"] (aH oV):=⟨rfl,rfl,rfl,by decide +kernel,rfl,by decide +kernel,by decide +kernel⟩
theorem aCS {f:bAO} {fd:bAS} (F:dA K "_law_path_in" "_law_path_in" oV f fd) (TX:Txt mg) (g_fraction_in:Fn P w K mg base 2 "_law_fraction_in" ["_law_text"] (aK K qR)) (g_is_path:Fn P w K mg base 7 "is_path" ["thing"] (aK K rC))   : bI P w K mg base dQ 8 f fd ["_law_text"] (aK K qT):=by
 refine F.okT cT ?len (λcdv A outer s H E hr=>(aC (aDU (i:=4) (j:=5) rfl cT.nd rfl rfl (by decide) rfl rfl (fc (nE (fv 0) (fc aJ aA)) (fc (eU aA) aA)) rfl)
 (aC (aDE (i:=1) (N':=["_law_word"]) (t:=1) (cap:=[]) cT.nd rfl (aIW rfl) rfl rfl (cW.of rfl) rfl (by decide) (vZ rfl (fv 4)) (λ_ _ _ _=>(bG (i:=0) (show aYK (["_law_word"]:List Str) by decide +kernel) rfl (aIW rfl) (aX8 rfl))) (λ_ _ _ _=>(aF g_fraction_in hr (by omega) rfl (fc (fv 0) aA))))
 (aC (bP (gH (cF (iM rfl hr (aI rfl (fv 4) aB (λ_ _=>rfl)) aJ (aN _)) (cF (dU iU (cL rfl rfl TX.n_len (fc (fv 4) aA)) aB (aN _)) (cG (aPL rfl hr h9 (bU rfl (fv 1) (a9 aB) (a9 aB)) rfl))))) (aG (aM h9)) bH)
 (aC (aV (i:=2) cT.nd rfl (aIW rfl) aB)
 (aC (jK PassesOwn.never (dU iU (fv 2) (cL rfl rfl TX.n_len (fc (fv 4) aA)) (aN _)) (aC (aV (i:=6) cT.nd rfl (aIW rfl) (aN3 hr (vN aB (vN aB aH3)) (aI rfl (fv 4) (fv 2) (λ_ _=>rfl)) aB ⟨rfl,rfl,rfl,rfl⟩))
 (aC (aV (i:=7) cT.nd rfl (aIW rfl) (aY bK (aY bK (fv 2) aB) (qN rfl TX.n_int (fc (gX rfl hr (fv 6) aB (aN _)) aA))))
 (aC (bP (gH (cF (dP rfl hr (fv 6) aB (aN _)) (cF (dU mU (aY bK (fv 2) (fv 6)) (cL rfl rfl TX.n_len (fc (fv 4) aA)) (aN _)) (cG (aPL rfl hr h9 (bU rfl (fv 1) (a9 (fv 7)) (a9 (aY bK (fv 2) (fv 6)))) rfl))))) (aG (aM h9)) bH)
 (aC (bP (dP rfl hr (fv 6) aB (aN _)) (aG (iW (eN rfl (fv 5) (fc (aT (fc aJ (fc (aT (fc (aI rfl (fv 1) (aY bK (fv 2) aB) (λ_ _=>rfl)) (fc (aI rfl (fv 1) (aY bK (fv 2) aB) (λ_ _=>rfl)) aA))) aA))) aA)))) (aC (eB (i:=8) (j:=9) rfl cT.nd rfl rfl (by decide) rfl rfl (fc (aT (fc (aI rfl (fv 1) (aY bK (fv 2) aB) (λ_ _=>rfl)) (fc (aI rfl (fv 1) (aY bK (fv 2) aB) (λ_ _=>rfl)) aA))) (fc (aT (fc (aI rfl (fv 1) (aY bK (fv 2) aB) (λ_ _=>rfl)) (fc (aI rfl (fv 1) (aY bK (fv 2) aB) (λ_ _=>rfl)) aA))) aA)) rfl)
 (aG (iW (eN rfl (fv 5) (fc (aT (fc aJ (fc (fv 8) (fc (fv 9) (fc (aI rfl (fv 4) (aY bK (fv 2) aB) (λ_ _=>rfl)) aA))))) aA))))))
 (aG (aV (i:=2) cT.nd rfl (aIW rfl) (aY bK (fv 2) (fv 6)))))))))
 (aC (aV (i:=3) cT.nd rfl (aIW rfl) (aT (fc (aT (fc (aI rfl (fv 1) aB (λ_ _=>rfl)) (fc (aI rfl (fv 1) aB (λ_ _=>rfl)) aA))) (fc (sW rfl rfl TX.n_tuple (fc (fv 5) aA)) aA))))
 (aG (aM (kE (bQ (aF g_is_path hr (by omega) rfl (fc (fv 3) aA))) (fv 3) h9)))))))))) ?rd
 case len=>rintro as Q ⟨x,rfl,_⟩;rfl
 case rd=>
  rintro as Q ⟨x,rfl,hl,hn,q,w⟩;refine ⟨⟨by decide,by unfold big;omega⟩,λl hl'=>?_⟩;have hl':l=aQV x ⟨#[32]⟩:=hl';have nl:l.length<=320:=by rw [hl'];exact hn
  have ky:∀y∈l,y.length<=500000:=λy hy=>by rw [hl'] at hy;have:=uR hy;omega
  have ln:l≠[]:=by rw [hl'];exact jN _ _
  rw [<-hl'] at q w;clear hn hl';refine ⟨aFI _,by show 10<11;decide,?_⟩;refine (?_:nfS [some (.p (.str x)),none,none,none,some (.o false (aE l)),some (.o false []),none,none,none,none] _);have ls:(aE l).length=l.length:=by simp [aE]
  refine ⟨rfl,eO (λi E=>∃w0,E=[w0,some (.o false ((l.take i).map bV))]) ⟨none,rfl⟩ ?_ ?_⟩
  ·rintro i t rest E hi ⟨w0,rfl⟩ KK;unfold aE at hi;rw [aEO] at hi;cases hw:l[i]? with
   | none=>rw [hw] at hi;cases hi
   | some wd=>
    rw [hw] at hi;cases hi;have hlt:=(aA8.mp hw).1;have nx:(l.take (i+1)).map bV=(l.take i).map bV++[bV wd]:=by rw [aZT,hw,aW5];rfl
    have fin:jO (zA 0) (aAH qR (kM (kX 0) yY)) rest [some (.p (.str wd)),some (.o false ((l.take i).map bV++[bV wd]))] _:=KK _ ⟨_,by rw [nx]⟩;have lt:((l.take i).map bV).length<1000:=by rw [aG5,aNQ];omega
    refine ⟨wd,rfl,ky wd (aIR hw),λn d e=>?_,λe=>?_⟩
    ·rw [oW (p:=(n,d)) e] at fin;exact ⟨lt,fin⟩
    ·rw [aGA e] at fin;exact ⟨lt,fin⟩
  rintro E ⟨w0,rfl⟩;rw [ls,aZ6];refine ⟨z7 l,?_⟩;refine (?_:nfS [some (.p (.str x)),some (.o false (l.map bV)),none,none,some (.o false (aE l)),some (.o false []),none,none,none,none] _);obtain ⟨w0,r0,hl0⟩:∃w0 r0,l=w0::r0:=by
   cases l with
   | nil=>exact absurd rfl ln
   | cons w0 r0=>exact ⟨w0,r0,rfl⟩
  have at0:c8 (aE l) 0=some (.str w0):=by rw [hl0];exact cM (j:=0) rfl
  show o1 (c8 (aE l) 0) _;rw [at0];refine ⟨aB7 _,?_⟩;show if (!(L2.dZ (.str w0) (.str (aA7 "from"))))=true then _ else _;rw [eqS]
  by_cases c:w0=aA7 "from"
  ·rw [decide_eq_true c,if_neg (by decide)];show if decide (((aE l).length:Int)<3)=true then _ else _;rw [ls]
   by_cases c3:l.length<3
   ·rw [decide_eq_true (by omega),if_pos rfl];refine ⟨rfl,w λa b rs g=>?_⟩;have:=g.2.1;rw [pD (by rw [aNQ,aLJ];omega)] at this;cases this
   ·rw [decide_eq_false (by omega),if_neg (by decide)];have ec:cK (l.map bV) (some 1) (some 3)=((l.drop 1).take 2).map bV:=wS bV l 1 3 (by decide);obtain ⟨u,v,hu,hv,huv⟩:=lJ (ws:=l) (a:=1) (by omega);refine ⟨by rw [ec];exact aVD (rF _) (by decide),?_⟩;show if inT .non (cK (l.map bV) (some 1) (some 3))=true then _ else _;rw [ec,rL,huv];cases e0:kB [u,v] with
    | none=>
     rw [if_pos (iQ.mpr e0)];refine ⟨rfl,w λa b rs g=>?_⟩;have:=g.2.1;rw [huv,e0] at this;cases this
    | some q0=>
     rw [if_neg (λz=>by rw [iQ] at z;rw [z] at e0;cases e0)];obtain ⟨n1,n2⟩:=nJ e0;have nv0:=(mI e0).1;have bad:mT ((l.drop 3).length+1) (l.drop 3)=none->Q (.v .non) []:=λe=>w λa b rs g=>by
      have:=g.2.2.1;rw [e] at this;cases this
     have fin:∀rs,mT ((l.drop 3).length+1) (l.drop 3)=some rs->∀k:Bool,(k=true↔rs≠[]/\i7 q0.1 q0.2 rs)->Q (.v (if k then nR q0.1 q0.2 rs else .non)) []:=λrs er k hk=>by
      cases k with
      | true=>
       obtain ⟨z1,z2⟩:=hk.mp rfl;exact q q0.1 q0.2 rs ⟨by rw [hl0,c];rfl,by rw [huv];exact e0,er,z1,z2⟩
      | false=>
       refine w λa b rs' g=>?_;have e1:=g.2.1;have e2:=g.2.2.1;rw [huv,e0] at e1;rw [er] at e2;cases e1;cases e2;have:=hk.mpr g.2.2.2;cases this
     have nvt:∀rs,mT ((l.drop 3).length+1) (l.drop 3)=some rs->(∀r∈rs,nvR r)/\rs.length<=900:=λrs er=>by
      obtain ⟨z1,z2⟩:=rO er;rw [aLJ] at z2;exact ⟨z1,by omega⟩
     refine ⟨λm E=>∃(a:Nat) (rs0:List Rw) (v3 v6 v7 v8 v9:Option U),E=[some (.p (.str x)),some (.o false (l.map bV)),some (.p (.int (a:Int))),v3,some (.o false (aE l)),some (.o false (rs0.map wA)),v6,v7,v8,v9]/\a<=l.length/\rs0.length<=a/\(l.drop a).length<m/\mT ((l.drop 3).length+1) (l.drop 3)=(mT m (l.drop a)).map (rs0++·),⟨(l.drop 3).length+1,3,[],_,_,_,_,_,rfl,by omega,by simp,aXF _,by simp⟩,?_⟩;generalize mT ((l.drop 3).length+1) (l.drop 3)=tot at bad fin nvt ⊢;rintro m E ⟨a,rs0,v3,v6,v7,v8,v9,rfl,ha,hr0,hm,hR⟩;show if decide ((a:Int)<((aE l).length:Int))=true then _ else _;rw [ls];rcases aVS a l.length with ca | ca
     ·rw [decide_eq_true (by omega),if_pos rfl];have ed:l.drop a=l[a]::l.drop (a+1):=aVT ca;have at1:c8 (aE l) (a:Int)=some (.str l[a]):=cM (by unfold aE;rw [aEO,aCP ca];rfl);cases m with
      | zero=>exact absurd hm (aXI _)
      | succ m=>
       rw [ed] at hR hm;rw [mT] at hR;show o1 (c8 (aE l) (a:Int)) _;rw [at1];generalize l[a]=w1 at hR hm at1 ed;have lk:nN [(aA7 "side",fC (.int 3)),(aA7 "arc",fC (.int 6))] [.int 3,.int 6] none w1=(if w1=aA7 "arc" then some (L2.T.int 6) else if w1=aA7 "side" then some (.int 3) else none):=rfl;show (match nN [(aA7 "side",fC (.int 3)),(aA7 "arc",fC (.int 6))] [.int 3,.int 6] none w1 with | some t=>_ | none=>_);rw [lk]
       by_cases cs:w1=aA7 "side"
       ·rw [if_pos cs] at hR;rw [if_neg (by rw [cs];decide),if_pos cs];refine ⟨aB7 _,aB7 _,?_⟩;show if decide (((aE l).length:Int)<(a:Int)+3)=true then _ else _;rw [ls]
        by_cases cl:l.length<a+3
        ·rw [decide_eq_true (by omega),if_pos rfl];rw [pD (by rw [aNQ,aLJ];omega)] at hR;exact ⟨rfl,bad hR⟩
        ·rw [decide_eq_false (by omega),if_neg (by decide)];obtain ⟨u1,v1,hu1,hv1,huv1⟩:=lJ (ws:=l) (a:=a+1) (by omega);have ec1:cK (l.map bV) (some ((a:Int)+1+0)) (some ((a:Int)+3))=[u1,v1].map bV:=by
          have:=wS bV l (a+1) (a+3) (by omega);rw [show a+3-(a+1)=2 by omega,huv1] at this;exact this
         rw [huv1] at hR;refine ⟨by show uT (cK (l.map bV) (some ((a:Int)+1+0)) (some ((a:Int)+3)))<=50;rw [ec1];exact aVD (rF _) (by decide),?_⟩;show if inT .non (cK (l.map bV) (some ((a:Int)+1+0)) (some ((a:Int)+3)))=true then _ else _;rw [ec1,rL];cases e1:kB [u1,v1] with
         | none=>
          rw [if_pos (iQ.mpr e1)];rw [e1] at hR;exact ⟨rfl,bad hR⟩
         | some q1=>
          rw [if_neg (λz=>by rw [iQ] at z;rw [z] at e1;cases e1)];rw [e1] at hR;obtain ⟨x1,x2⟩:=nJ e1;have a1:c8 (l.map bV) ((a:Int)+1)=some (fr q1.1):=by rw [<-x1];exact k8 hu1
          have a2:c8 (l.map bV) ((a:Int)+2)=some (fr q1.2):=by rw [<-x2];exact k8 hv1
          refine ⟨aB7 _,?_⟩;show o1 (c8 (l.map bV) ((a:Int)+1)) _;rw [a1];show o1 (c8 (l.map bV) ((a:Int)+2)) _;rw [a2];refine ⟨by rw [aBN,aG5];show rs0.length+1<=1000;omega,?_⟩;refine ⟨m,aXF _,a+3,rs0++[Rw.side q1.1 q1.2],v3,_,_,v8,v9,by rw [aW5];rfl,by omega,by rw [aBN];show _+1<=_;omega,by rw [aLJ];rw [aOW,aLJ] at hm;omega,?_⟩;rw [hR,aXL,show a+1+2=a+3 by omega];cases mT m (l.drop (a+3))<;>simp
       ·rw [if_neg cs] at hR;rw [if_neg (c:=w1=aA7 "side") cs]
        by_cases c6:w1=aA7 "arc"
        ·rw [if_pos c6] at hR;rw [if_pos c6];refine ⟨aB7 _,aB7 _,?_⟩;show if decide (((aE l).length:Int)<(a:Int)+6)=true then _ else _;rw [ls]
         by_cases cl:l.length<a+6
         ·rw [decide_eq_true (by omega),if_pos rfl];rw [pD (ws:=List.take 2 (List.drop 3 (List.drop (a+1) l))) (by rw [aNQ,aLJ,aLJ];omega)] at hR;refine ⟨rfl,bad ?_⟩;rw [hR];cases kB (List.take 2 (List.drop 1 (List.drop (a+1) l)))<;>rfl
         ·rw [decide_eq_false (by omega),if_neg (by decide)];obtain ⟨u1,v1,hu1,hv1,huv1⟩:=lJ (ws:=l) (a:=a+2) (by omega);obtain ⟨u2,v2,hu2,hv2,huv2⟩:=lJ (ws:=l) (a:=a+4) (by omega);obtain ⟨tw,htw⟩:∃tw,l[a+1]? = some tw:=⟨_,aCP (by omega)⟩;have hd:(l.drop (a+1)).head? = some tw:=by rw [List.head?_drop];exact htw
          have ec1:cK (l.map bV) (some ((a:Int)+1+1)) (some ((a:Int)+6))=[u1,v1,u2,v2].map bV:=by
           have:=wS bV l (a+2) (a+6) (by omega);have e4:(l.drop (a+2)).take (a+6-(a+2))=[u1,v1]++[u2,v2]:=by
            rw [<-huv1,<-huv2,show a+6-(a+2)=2+2 by omega,List.take_add,aXL]
           rw [e4] at this;rw [show ((a:Int)+1+1)=((a+2:Nat):Int) by omega];exact this
          rw [aXL,aXL,show a+1+1=a+2 by omega,show a+1+3=a+4 by omega,huv1,huv2,hd] at hR;refine ⟨by show uT (cK (l.map bV) (some ((a:Int)+1+1)) (some ((a:Int)+6)))<=50;rw [ec1];exact aVD (rF _) (by decide),?_⟩;show if inT .non (cK (l.map bV) (some ((a:Int)+1+1)) (some ((a:Int)+6)))=true then _ else _;rw [ec1,rL];have any4:([u1,v1,u2,v2].any λw=>(bE (sg w)).isNone)=(([u1,v1].any λw=>(bE (sg w)).isNone)||([u2,v2].any λw=>(bE (sg w)).isNone)):=by simp [Bool.or_assoc]
          rw [any4];cases e1:kB [u1,v1] with
          | none=>
           rw [iQ.mpr e1,if_pos (by simp)];rw [e1] at hR;exact ⟨rfl,bad hR⟩
          | some q1=>
           have f1:([u1,v1].any λw=>(bE (sg w)).isNone)=false:=by
            cases z:([u1,v1].any λw=>(bE (sg w)).isNone) with
            | false=>rfl
            | true=>rw [iQ] at z;rw [z] at e1;cases e1
           rw [e1] at hR;cases e2:kB [u2,v2] with
           | none=>
            rw [iQ.mpr e2,if_pos (by simp)];rw [e2] at hR;exact ⟨rfl,bad hR⟩
           | some q2=>
            have f2:([u2,v2].any λw=>(bE (sg w)).isNone)=false:=by
             cases z:([u2,v2].any λw=>(bE (sg w)).isNone) with
             | false=>rfl
             | true=>rw [iQ] at z;rw [z] at e2;cases e2
            rw [f1,f2,if_neg (by decide)];rw [e2] at hR;obtain ⟨x1,x2⟩:=nJ e1;obtain ⟨y1,y2⟩:=nJ e2;have a1:c8 (l.map bV) ((a:Int)+2)=some (fr q1.1):=by rw [<-x1];exact k8 hu1
            have a2:c8 (l.map bV) ((a:Int)+3)=some (fr q1.2):=by rw [<-x2];exact k8 hv1
            have a3:c8 (l.map bV) ((a:Int)+4)=some (fr q2.1):=by rw [<-y1];exact k8 hu2
            have a4:c8 (l.map bV) ((a:Int)+5)=some (fr q2.2):=by rw [<-y2];exact k8 hv2
            have a5:c8 (aE l) ((a:Int)+1)=some (.str tw):=cM (j:=a+1) (by unfold aE;rw [aEO,htw];rfl);refine ⟨aB7 _,?_⟩;show o1 (c8 (l.map bV) ((a:Int)+2)) _;rw [a1];show o1 (c8 (l.map bV) ((a:Int)+3)) _;rw [a2];show o1 (c8 (l.map bV) ((a:Int)+4)) _;rw [a3];show o1 (c8 (l.map bV) ((a:Int)+5)) _;rw [a4];show o1 (c8 (aE l) ((a:Int)+1)) _;rw [a5];refine ⟨by rw [aBN,aG5];show rs0.length+1<=1000;omega,?_⟩;refine ⟨m,aXF _,a+6,rs0++[Rw.arc q1.1 q1.2 q2.1 q2.2 tw],v3,_,_,_,_,by rw [aW5];rfl,by omega,by rw [aBN];show _+1<=_;omega,by rw [aLJ];rw [aOW,aLJ] at hm;omega,?_⟩;rw [hR];simp only;rw [aXL,show a+1+5=a+6 by omega];cases mT m (l.drop (a+6))<;>simp
        ·rw [if_neg c6] at hR;rw [if_neg c6];exact ⟨aB7 _,aB7 _,rfl,bad hR⟩
     ·rw [decide_eq_false (by omega),if_neg (by decide)];obtain rfl:a=l.length:=by omega
      rw [aYD] at hR;have hm':m=(m-1)+1:=by omega
      rw [hm',mT] at hR;have hR':tot=some rs0:=by rw [hR];simp
      obtain ⟨nr,lr⟩:=nvt rs0 hR';have a1:c8 (l.map bV) 1=some (fr q0.1):=by rw [<-n1];exact k8 (i:=1) hu
      have a2:c8 (l.map bV) 2=some (fr q0.2):=by rw [<-n2];exact k8 (i:=2) hv
      show o1 (c8 (l.map bV) 1) _;rw [a1];show o1 (c8 (l.map bV) 2) _;rw [a2];refine ⟨q0.1,q0.2,rs0,rfl,nv0,nr,lr,λk hk=>?_⟩;have f:=fin rs0 hR' k hk;show if k=true then _ else _;cases k with
      | true=>rw [if_pos rfl];exact ⟨nG _ _ _,f⟩
      | false=>rw [if_neg (by decide)];exact ⟨rfl,f⟩
  ·rw [decide_eq_false c,if_pos (by decide)];refine ⟨rfl,w λa b rs g=>c ?_⟩;have e1:=g.1;rw [hl0] at e1;exact Option.some.inj e1
end
end My
namespace My
open PySem L2 PyProof.Rows
section
variable {P:bAR} {w:bAU} {K:W.Frag} {mg:Str->Option Value} {base:Heap}
theorem w6 (ws:List Str) (k:Nat):cK (aE ws) none (some (k:Int))=aE (ws.take k):=by
 unfold cK aE;rw [HT.sIx_none,HT.sIx_nat,aG5,aZP,<-aY3]
 congr 1
 rcases aXK k ws.length with c | c
 ·rw [aXO c,Nat.sub_zero]
 ·rw [aXR c,Nat.sub_zero,aT2 (aFI _),aT2 c]
theorem xL (ws:List Str) (k:Nat):cK (aE ws) (some (k:Int)) none=aE (ws.drop k):=by
 unfold cK aE;rw [HT.sIx_nat,HT.sIx_none,aG5,<-aZR,<-aY3]
 congr 1
 rcases aXK k ws.length with c | c
 ·rw [aXO c,aT2 (by rw [aLJ];omega)]
 ·rw [aXR c,aVP (aFI _),aVP c];simp
def tl:List Str->Nat
 | []=>0
 | x::r=>x.length+1+tl r
def cs:List Str->Nat
 | []=>0
 | x::r=>nQ x+cs r
theorem gJ:∀a b:List Str,tl (a++b)=tl a+tl b
 | [],b=>by simp [tl]
 | x::a,b=>by simp [tl,gJ a b];omega
theorem jB:∀a b:List Str,cs (a++b)=cs a+cs b
 | [],b=>by simp [cs]
 | x::a,b=>by simp [cs,jB a b];omega
theorem jQ:∀{a:List Str},(∀x∈a,nQ x=0)->cs a=0
 | [],_=>rfl
 | x::a,h=>by simp [cs,h x (by simp),jQ (a:=a) λy hy=>h y (by simp [hy])]
theorem aPD:∀L:List Str,(jw (L.map sg)).length<=tl L
 | []=>by simp [jw]
 | [x]=>by show (sg x).length<=_;rw [aO];simp [tl]
 | x::y::r=>by
  have:=aPD (y::r);show (sg x++32::jw ((y::r).map sg)).length<=x.length+1+tl (y::r);rw [aBN,aOW,aO];omega
theorem aOR:∀L:List Str,tl L<=(jw (L.map sg)).length+1
 | []=>by simp [tl]
 | [x]=>by show x.length+1+0<=(sg x).length+1;rw [aO];omega
 | x::y::r=>by
  have:=aOR (y::r);show x.length+1+tl (y::r)<=(sg x++32::jw ((y::r).map sg)).length+1;rw [aBN,aOW,aO];omega
theorem aJ4:∀L:List Str,L≠[]->(jw (L.map sg)).count 32+1=cs L+L.length
 | [],h=>absurd rfl h
 | [x],_=>by show (sg x).count 32+1=nQ x+0+1;unfold nQ;omega
 | x::y::r,_=>by
  have:=aJ4 (y::r) (by simp);show (sg x++32::jw ((y::r).map sg)).count 32+1=nQ x+cs (y::r)+((y::r).length+1);rw [List.count_append,List.count_cons_self];unfold nQ;omega
theorem rG (x:Str):jw ((aQV x ⟨#[32]⟩).map sg)=sg x:=by
 have j:=StrLaws.join_split x ⟨#[32]⟩;rw [<-nS];show sg (Builtin.Str.glued ⟨#[32]⟩ (aQV x ⟨#[32]⟩))=_;rw [StrLaws.glued_eq_join,j]
theorem pJ {x y:Str} (h:y∈aQV x ⟨#[32]⟩):nQ y=0:=by
 unfold nQ;exact List.count_eq_zero.mpr (StrLaws.split_free x 32 y h)
theorem aBF (x:Str):nW x=nQ x+1:=by
 have h:=aJ4 (aQV x ⟨#[32]⟩) (jN _ _);rw [rG,jQ λy hy=>pJ hy] at h;unfold nW nQ;omega
theorem aH0 (ws:List Str) (k:Nat):tl (ws.take k)+tl (ws.drop k)=tl ws:=by rw [<-gJ,aXU]
theorem aK1:∀a:List Str,tl a.reverse=tl a
 | []=>rfl
 | x::a=>by rw [aX0,gJ,aK1 a];simp [tl];omega
theorem aEQ:∀L:List Str,(L.map sg).flatten.length+L.length=tl L
 | []=>rfl
 | x::L=>by
  have:=aEQ L;rw [aQA,aSX,aBN,aOW,aO];show _=x.length+1+tl L;omega
def sD:List Str:=["from","side","arc","left","right","0","1","-1","3/5","2/4","","side 0 0","arc left 0 0 1 0"]
theorem aLU:∀x∈sD,x.length<=16/\nQ x<=5:=by decide
section
variable {G:En->Prop} {Fa Fb:FE} {A B:List L2.T}
def ElV (Fe:FE) (L:List L2.T) (G:En->Prop):Prop:=∀E Q,G E->(∀τ n,(E++τ)[n]? = some (some (.o false L))->Q (.s n) (E++τ))->Fe E Q
def ElN (Fe:FE) (L:List L2.T) (G:En->Prop):Prop:=∀E Q,G E->(∀τ n,(E++τ)[n]? = some (some (.o false L))->E.length<=n->Q (.s n) (E++τ))->Fe E Q
theorem ElN.v (h:ElN Fa A G):ElV Fa A G:=λE Q g k=>h E Q g λτ n e _=>k τ n e
theorem aJO {i:Nat} (h:∀E,G E->E[i]? = some (some (.o false A))):ElV (kX i) A G:=λE Q g k=>by
 have e:=h E g;unfold kX;rw [e];have:=k [] i (by rw [aU7];exact e)
 rwa [aU7] at this
theorem lG (E:En) (u:Option U):(E++[u])[E.length]? = some u:=by simp
theorem aJA {i:Nat} {k:Int} (h:∀E,G E->E[i]? = some (some (.o false A))):ElN (aJM (kX i) (aDG (fC (.int k))) aJG) (cK A (some k) none) G:=λE Q g q=>by
 have e:=h E g;unfold aJM kX;rw [e];show (match vl E (.s i) with | some (.lst xs)=>Q (.s E.length) (E++[some (.o false (cK xs (some k) none))]) | _=>False);have ev:vl E (.s i)=some (.lst A):=by simp only [vl,e]
 rw [ev];exact q _ _ (lG _ _) (aFI _)
theorem aHW {i:Nat} {k:Int} (h:∀E,G E->E[i]? = some (some (.o false A))):ElN (aJM (kX i) aJG (aDG (fC (.int k)))) (cK A none (some k)) G:=λE Q g q=>by
 have e:=h E g;unfold aJM kX;rw [e];show (match vl E (.s i) with | some (.lst xs)=>Q (.s E.length) (E++[some (.o false (cK xs none (some k)))]) | _=>False);have ev:vl E (.s i)=some (.lst A):=by simp only [vl,e]
 rw [ev];exact q _ _ (lG _ _) (aFI _)
theorem aP9 {i:Nat} {t:L2.T} (h:∀E,G E->E[i]? = some (some (.p t))):ElN (aS7 (kM (kX i) yY)) [t] G:=λE Q g q=>by
 have e:=h E g;show kX i E λr E1=>yY E1 λrs E2=>o1 (pU (r::rs)) λts=>Q (.s E2.length) (E2++[some (.o false ts)]);unfold kX;rw [e];exact q _ _ (lG _ _) (aFI _)
theorem aR6 (ha:ElV Fa A G):ElN (aTY Fa (aDG (aS3 (fC (.int 1))))) A.reverse G:=λE Q g q=>by
 refine ha E _ g λτ n e=>⟨rfl,?_⟩;have ev:vl (E++τ) (.s n)=some (.lst A):=by simp only [vl,e]
 show (match vl (E++τ) (.s n) with | some (.lst xs)=>Q (.s (E++τ).length) ((E++τ)++[some (.o false xs.reverse)]) | _=>False);rw [ev];have:=q (τ++[some (.o false A.reverse)]) (E++τ).length (by rw [<-aEE];exact lG _ _) (by rw [aBN];omega);rw [<-aEE] at this;exact this
theorem kQ (hG:∀E τ,G E->G (E++τ)) (ha:ElV Fa A G) (hb:ElV Fb B G) (hl:A.length+B.length<=1000):ElN (aUU Fa Fb) (A++B) G:=λE Q g q=>by
 refine ha E _ g λτ n e=>hb (E++τ) _ (hG E τ g) λτ2 m e2=>?_;have hn:=(aA8.mp e).1;have e1:L2.ownOf (E++τ++τ2) (.s n)=some A:=by
  simp only [L2.ownOf,aE9 hn,e]
 have e3:L2.ownOf (E++τ++τ2) (.s m)=some B:=by
  simp only [L2.ownOf,e2]
 show L2.l2 (L2.ownOf (E++τ++τ2) (.s n)) (L2.ownOf (E++τ++τ2) (.s m)) _;rw [e1,e3];refine ⟨hl,?_⟩;have:=q (τ++τ2++[some (.o false (A++B))]) (E++τ++τ2).length (by rw [<-aEE,<-aEE];exact lG _ _) (by rw [aBN,aBN];omega);rw [<-aEE,<-aEE] at this;exact this
theorem aES:∀(ns:List Nat) (Ls:List (List L2.T)) (E:En),ns.Nodup->ns.length=Ls.length->(∀(k n:Nat) (L:List L2.T),ns[k]? = some n->Ls[k]? = some L->E[n]? = some (some (.o false L)))->∃E',lQ E (ns.map R.s)=some (Ls.map .lst,E')/\E'.length=E.length/\∀i,i∉ns->E'[i]? = E[i]?
 | [],[],E,_,_,_=>⟨E,rfl,rfl,λ_ _=>rfl⟩
 | n::ns,L::Ls,E,hd,hl,h=>by
  obtain ⟨h1,h2⟩:=aXH.mp hd;have e:=h 0 n L rfl rfl;obtain ⟨E',k1,k2,k3⟩:=aES ns Ls (E.set n (some (.p (.lst L)))) h2 (by simpa using hl) λk m M hk hM=>by
   have nm:n≠m:=λz=>h1 (by rw [z];exact aIR hk);rw [aLL nm];exact h (k+1) m M (by simpa using hk) (by simpa using hM)
  refine ⟨E',?_,by rw [k2,aXN],λi hi=>?_⟩
  ·show lQ E (.s n::ns.map R.s)=_;unfold lQ;rw [e];simp only;rw [k1];rfl
  ·rw [k3 i λz=>hi (aJF _ z),aLL λz=>hi (by rw [z];exact aWI ..)]
 | [],_::_,_,_,hl,_=>by cases hl
 | _::_,[],_,_,hl,_=>by cases hl
theorem aNU {F1 F2 F3 F4 F5:FE} {M1 M2 M3 M4 M5:List L2.T} (hG:∀E τ,G E->G (E++τ)) (h1:ElN F1 M1 G) (h2:ElN F2 M2 G) (h3:ElN F3 M3 G) (h4:ElN F4 M4 G) (h5:ElN F5 M5 G) {E:En} {Q:L2.R->En->Prop} (g:G E)
  (q:∀(E':En) (n:Nat),E'[n]? = some (some (.o false [.lst M1,.lst M2,.lst M3,.lst M4,.lst M5]))->(∀i,i<E.length->E'[i]? = E[i]?)->Q (.s n) E'):aOO (kM F1 (kM F2 (kM F3 (kM F4 (kM F5 yY))))) E Q:=by
 refine h1 E _ g λt1 n1 e1 b1=>?_;have g1:=hG E t1 g;have c1:=(aA8.mp e1).1;generalize hE1:E++t1=E1 at e1 g1 c1 ⊢;refine h2 E1 _ g1 λt2 n2 e2 b2=>?_;have g2:=hG E1 t2 g1;have c2:=(aA8.mp e2).1;replace e1:(E1++t2)[n1]? = some (some (U.o false M1)):=by rw [aE9 c1];exact e1
 generalize hE2:E1++t2=E2 at e1 e2 g2 c2 ⊢;refine h3 E2 _ g2 λt3 n3 e3 b3=>?_;have g3:=hG E2 t3 g2;have c3:=(aA8.mp e3).1;replace e1:(E2++t3)[n1]? = some (some (U.o false M1)):=by rw [aE9 (aA8.mp e1).1];exact e1
 replace e2:(E2++t3)[n2]? = some (some (U.o false M2)):=by rw [aE9 c2];exact e2
 generalize hE3:E2++t3=E3 at e1 e2 e3 g3 c3 ⊢;refine h4 E3 _ g3 λt4 n4 e4 b4=>?_;have g4:=hG E3 t4 g3;have c4:=(aA8.mp e4).1;replace e1:(E3++t4)[n1]? = some (some (U.o false M1)):=by rw [aE9 (aA8.mp e1).1];exact e1
 replace e2:(E3++t4)[n2]? = some (some (U.o false M2)):=by rw [aE9 (aA8.mp e2).1];exact e2
 replace e3:(E3++t4)[n3]? = some (some (U.o false M3)):=by rw [aE9 c3];exact e3
 generalize hE4:E3++t4=E4 at e1 e2 e3 e4 g4 c4 ⊢;refine h5 E4 _ g4 λt5 n5 e5 b5=>?_;have c5:=(aA8.mp e5).1;replace e1:(E4++t5)[n1]? = some (some (U.o false M1)):=by rw [aE9 (aA8.mp e1).1];exact e1
 replace e2:(E4++t5)[n2]? = some (some (U.o false M2)):=by rw [aE9 (aA8.mp e2).1];exact e2
 replace e3:(E4++t5)[n3]? = some (some (U.o false M3)):=by rw [aE9 (aA8.mp e3).1];exact e3
 replace e4:(E4++t5)[n4]? = some (some (U.o false M4)):=by rw [aE9 c4];exact e4
 have pre:∀i,i<E.length->(E4++t5)[i]? = E[i]?:=λi hi=>by
  rw [<-hE4,<-hE3,<-hE2,<-hE1,aEE,aEE,aEE,aEE,aE9 hi]
 have l1:E1.length<=E2.length:=by rw [<-hE2,aBN];omega
 have l2:E2.length<=E3.length:=by rw [<-hE3,aBN];omega
 have l3:E3.length<=E4.length:=by rw [<-hE4,aBN];omega
 have l0:E.length<=E1.length:=by rw [<-hE1,aBN];omega
 generalize E4++t5=E5 at e1 e2 e3 e4 e5 pre ⊢;obtain ⟨E',k1,k2,k3⟩:=aES [n1,n2,n3,n4,n5] [M1,M2,M3,M4,M5] E5 (by simp;omega) rfl (λk n L hk hL=>by
  match k,hk,hL with
  | 0,hk,hL=>cases hk;cases hL;exact e1
  | 1,hk,hL=>cases hk;cases hL;exact e2
  | 2,hk,hL=>cases hk;cases hL;exact e3
  | 3,hk,hL=>cases hk;cases hL;exact e4
  | 4,hk,hL=>cases hk;cases hL;exact e5
  | k+5,hk,hL=>simp at hk)
 show o1 (lQ E5 [.s n1,.s n2,.s n3,.s n4,.s n5]) _;rw [show lQ E5 [.s n1,.s n2,.s n3,.s n4,.s n5]=some ([.lst M1,.lst M2,.lst M3,.lst M4,.lst M5],E') from k1];refine q (E'++[some (.o false [.lst M1,.lst M2,.lst M3,.lst M4,.lst M5])]) E'.length (lG _ _) λi hi=>?_;rw [aE9 (by rw [k2];have:=(aA8.mp e5).1;omega),k3 i (by simp;omega)];exact pre i hi
end
theorem aLO {sp:Str} {Fl:FE} {i:Nat} {E:En} {D:ET} (h:Fl E λx E1=>kX i E1 λy E2=>ix2 (vl E2 x) (vl E2 y) λt=>aDX sp (.p t) E2 D.rt):aTK (y8 aDX (fC (.str sp)) (kM (fIx Fl (kX i)) yY)) D E:=h
def aBT:fR:=λas Q=>∃(xs:List L2.T) (x:Str) (n:Int),as=[.b xs,.v (.str x)]/\Bx xs n/\n<=900000/\x.length<=100000/\nW x<=200/\∀y ys,y.length<=2*x.length+20->nW y<=nW x+6->Bx ys (n+3)->cC ys=true->Q (.v (.str y)) ys
abbrev jR:bAY:=top 68
theorem dR:aP ["_law_box","_law_text","_law_some","_law_at","_law_words","_law_way","_law_more","_law_a","_law_b"] ["_law_box","_law_text"] (aH jR):=⟨rfl,rfl,rfl,by decide +kernel,rfl,by decide +kernel,by decide +kernel⟩
theorem uC {f:bAO} {fd:bAS} (F:dA K "_law_bent_words" "_law_bent_words" jR f fd) (TX:Txt mg) (g_take:Fn P w K mg base 1 "_law_take" ["_law_box","_law_many"] (aK K tL))   : bI P w K mg base dQ 2 f fd ["_law_box","_law_text"] (aK K aBT):=by
 refine F.okT dR ?len (λcdv A outer s H E hr=>(aC (aV (i:=2) dR.nd rfl (aIW rfl) (eU (fc aJ (fc aJ (fc aJ (fc aJ (fc aJ (fc aJ (fc aJ (fc aJ (fc aJ (fc aJ (fc aJ (fc aJ (fc aJ aA)))))))))))))))
 (aC (aEJ (i:=4) (j:=5) (k:=6) rfl dR.nd rfl rfl rfl (by decide) (by decide) (by decide) rfl rfl rfl (fc (nE (fv 1) (fc aJ aA)) (fc (bL g_take hr (by omega) rfl (fc (fv 0) (fc aB aA))) (fc (aI rfl (fv 2) (bL g_take hr (by omega) rfl (fc (fv 0) (fc aB aA))) (λ_ _=>rfl)) aA))) rfl)
 (aC (aV (i:=3) dR.nd rfl (aIW rfl) (bL g_take hr (by omega) rfl (fc (fv 0) (fc (cL rfl rfl TX.n_len (fc (fv 4) aA)) aA))))
 (aC (aDU (i:=7) (j:=8) rfl dR.nd rfl rfl (by decide) rfl rfl (fc (bU rfl (fv 4) cA (a9 (fv 3))) (fc (bU rfl (fv 4) (a9 (fv 3)) cA) aA)) rfl)
 (aG (aM (xJ rfl aJ (fc (aI rfl (aLN (fc (gG (fv 7) (bU rfl (fv 8) (a9 aB) cA)) (fc (gG (gG (fv 7) (bU rfl (fv 8) cA (a9 aB))) (fv 8)) (fc (gG (gG (fv 7) (aDR rfl (bU rfl (fv 8) cA (a9 aB)) (a9 (gF aB)))) (bU rfl (fv 8) (a9 aB) cA)) (fc (gG (gG (fv 7) (eU (fc (fv 6) aA))) (bU rfl (fv 8) (a9 aB) cA)) (fc (gG (gG (fv 7) (eU (fc (fv 6) aA))) (fv 8)) aA)))))) (fv 5) (λ_ _=>rfl)) aA))))))))) ?rd
 case len=>rintro as Q ⟨xs,x,n,rfl,_⟩;rfl
 case rd=>
  rintro as Q ⟨xs,x,n,rfl,hB,hn,hl,hw,q⟩;refine ⟨⟨by decide,by unfold big;omega⟩,λl hl'=>?_⟩;have hl':l=aQV x ⟨#[32]⟩:=hl';refine ⟨xs,5,n,rfl,hB,by omega,by decide,by decide,λway y1 w0 w1 b1=>?_⟩;refine ⟨y1,13,n+1,rfl,b1,by omega,by decide,by decide,λmo y2 m0 m1 b2=>?_⟩;obtain ⟨more,hm⟩:∃more,sD[mo.toNat]? = some more:=⟨_,aCP (show mo.toNat<sD.length by show mo.toNat<13;omega)⟩;have ha:c8 (sD.map L2.T.str) mo=some (.str more):=by
   have:=cM (xs:=sD.map L2.T.str) (j:=mo.toNat) (v:=.str more) (by rw [aEO,hm];rfl)
   rwa [show ((mo.toNat:Nat):Int)=mo by omega] at this
  show o1 (c8 (sD.map L2.T.str) mo) _;rw [ha];have ls:(aE l).length=l.length:=by simp [aE]
  have ln:0<l.length:=List.length_pos_iff.mpr (by rw [hl'];exact jN _ _);have lw:l.length=nW x:=by rw [hl'];rfl
  obtain ⟨A0,B0,c0,rfl,_⟩:=id b2;refine ⟨_,((aE l).length:Int),n+1+1,rfl,b2,by omega,by rw [ls];omega,by rw [ls];omega,λat' y3 t0 t1 b3=>?_⟩;obtain ⟨A1,B1,c1,rfl,_⟩:=id b3;obtain ⟨k,rfl⟩:=Int.eq_ofNat_of_zero_le t0;refine ⟨aFI _,by show 9<10;decide,?_⟩;rw [w6,xL];refine (?_:nfS [some (.o true [.int A1,.int B1,.int c1]),some (.p (.str x)),some (.o false (sD.map L2.T.str)),some (.p (.int (k:Int))),some (.o false (aE l)),some (.p (.int way)),some (.p (.str more)),some (.o false (aE (l.take k))),some (.o false (aE (l.drop k)))] _);have tk:=aH0 l k;have ca:cs (l.take k)=0:=jQ λy hy=>by rw [hl'] at hy;exact pJ (aXZ hy)
  have fb:∀y∈l.drop k,nQ y=0:=λy hy=>by rw [hl'] at hy;exact pJ (aXY hy)
  have la:(l.take k).length+(l.drop k).length=l.length:=by rw [aNQ,aLJ];omega
  have tx:tl l<=x.length+1:=by have:=aOR l;rw [hl',rG,aO] at this;rw [hl'];exact this
  obtain ⟨mo1,mo2⟩:=aLU more (aIR hm);generalize l.take k=a at tk ca la ⊢;generalize l.drop k=b at tk fb la ⊢;have e1:cK (aE b) (some 1) none=aE (b.drop 1):=xL b 1;have e2:cK (aE b) (some 2) none=aE (b.drop 2):=xL b 2;have e3:cK (aE b) none (some 1)=aE (b.take 1):=w6 b 1;have e4:cK (aE b) none (some 2)=aE (b.take 2):=w6 b 2;have sl:∀c:List Str,(aE c).length=c.length:=λc=>by simp [aE]
  have d1:(b.drop 1).length<=b.length:=by rw [aLJ];omega
  have d2:(b.drop 2).length<=b.length:=by rw [aLJ];omega
  have d3:(b.take 1).length<=b.length:=by rw [aNQ];omega
  have d4:(b.take 2).length<=b.length:=by rw [aNQ];omega
  refine aCQ (aCQ (aLO ?_));have hG:∀(E τ:En),(E[6]? = some (some (.p (.str more)))/\E[7]? = some (some (.o false (aE a)))/\E[8]? = some (some (.o false (aE b))))->((E++τ)[6]? = some (some (.p (.str more)))/\(E++τ)[7]? = some (some (.o false (aE a)))/\(E++τ)[8]? = some (some (.o false (aE b)))):=λE τ ⟨z1,z2,z3⟩=>by
   have l:=(aA8.mp z3).1;rw [aE9 (by omega),aE9 (by omega),aE9 (by omega)];exact ⟨z1,z2,z3⟩
  have v7:=aJO (i:=7) (A:=aE a) (G:=λE:En=>E[6]? = some (some (.p (.str more)))/\E[7]? = some (some (.o false (aE a)))/\E[8]? = some (some (.o false (aE b)))) λE z=>z.2.1;have v8:=aJO (i:=8) (A:=aE b) (G:=λE:En=>E[6]? = some (some (.p (.str more)))/\E[7]? = some (some (.o false (aE a)))/\E[8]? = some (some (.o false (aE b)))) λE z=>z.2.2;have s1:=aJA (i:=8) (k:=1) (A:=aE b) (G:=λE:En=>E[6]? = some (some (.p (.str more)))/\E[7]? = some (some (.o false (aE a)))/\E[8]? = some (some (.o false (aE b)))) λE z=>z.2.2;have s2:=aJA (i:=8) (k:=2) (A:=aE b) (G:=λE:En=>E[6]? = some (some (.p (.str more)))/\E[7]? = some (some (.o false (aE a)))/\E[8]? = some (some (.o false (aE b)))) λE z=>z.2.2;have p1:=aHW (i:=8) (k:=1) (A:=aE b) (G:=λE:En=>E[6]? = some (some (.p (.str more)))/\E[7]? = some (some (.o false (aE a)))/\E[8]? = some (some (.o false (aE b)))) λE z=>z.2.2;have p2:=aHW (i:=8) (k:=2) (A:=aE b) (G:=λE:En=>E[6]? = some (some (.p (.str more)))/\E[7]? = some (some (.o false (aE a)))/\E[8]? = some (some (.o false (aE b)))) λE z=>z.2.2;have o6:=aP9 (i:=6) (t:=.str more) (G:=λE:En=>E[6]? = some (some (.p (.str more)))/\E[7]? = some (some (.o false (aE a)))/\E[8]? = some (some (.o false (aE b)))) λE z=>z.1;rw [e1] at s1;rw [e2] at s2;rw [e3] at p1;rw [e4] at p2;have r2:=aR6 p2.v;have ct:∀c d:List Str,aE c++aE d=aE (c++d):=λc d=>by simp [aE]
  have rv:(aE (b.take 2)).reverse=aE (b.take 2).reverse:=by simp [aE]
  have mo:[L2.T.str more]=aE [more]:=rfl;rw [rv] at r2;rw [mo] at o6;have f1:=kQ hG v7 s1.v (by rw [sl,sl];omega);have f2a:=kQ hG v7 p1.v (by rw [sl,sl];omega);have f3a:=kQ hG v7 r2.v (by rw [sl,sl,aXG];omega);have f4a:=kQ hG v7 o6.v (by rw [sl,sl];show _+1<=_;omega);rw [ct] at f1 f2a f3a f4a;have f2:=kQ hG f2a.v v8 (by rw [sl,sl,aBN];omega);have f3:=kQ hG f3a.v s2.v (by rw [sl,sl,aBN,aXG];omega);have f4:=kQ hG f4a.v s1.v (by rw [sl,sl,aBN];show _+1+_<=_;omega);have f5:=kQ hG f4a.v v8 (by rw [sl,sl,aBN];show _+1+_<=_;omega);rw [ct] at f2 f3 f4 f5;refine aNU hG f1 f2 f3 f4 f5 ⟨rfl,rfl,rfl⟩ λE' n' en pre=>?_;have p5:E'[5]? = some (some (.p (.int way))):=pre 5 (by show 5<9;decide);have p0:E'[0]? = some (some (.o true [.int A1,.int B1,.int c1])):=pre 0 (by show 0<9;decide);have p1':E'[1]? = some (some (.p (.str x))):=pre 1 (by show 1<9;decide);have ev:vl E' (.s n')=some (.lst [.lst (aE (a++b.drop 1)),.lst (aE (a++b.take 1++b)),.lst (aE (a++(b.take 2).reverse++b.drop 2)),.lst (aE (a++[more]++b.drop 1)),.lst (aE (a++[more]++b))]):=by simp only [vl,en]
  unfold kX;rw [p5];show ix2 (vl E' (.s n')) (some (.int way)) _;rw [ev];have tb:∀k,tl (b.drop k)<=tl b/\tl (b.take k)<=tl b:=λk=>by have:=aH0 b k;omega
  have cb0:∀k,cs (b.drop k)=0/\cs (b.take k)=0/\cs (b.take k).reverse=0:=λk=>⟨jQ λy hy=>fb y (aXY hy),jQ λy hy=>fb y (aXZ hy),jQ λy hy=>fb y (aXZ (List.mem_reverse.mp hy))⟩;have cbb:cs b=0:=jQ fb;have b1l:(b.take 1).length<=1:=by rw [aNQ];omega
  have b2l:(b.take 2).length+(b.drop 2).length=b.length:=by rw [aNQ,aLJ];omega
  obtain ⟨L,hL,hT,hC,hN⟩:∃L:List Str,c8 [L2.T.lst (aE (a++b.drop 1)),.lst (aE (a++b.take 1++b)),.lst (aE (a++(b.take 2).reverse++b.drop 2)),.lst (aE (a++[more]++b.drop 1)),.lst (aE (a++[more]++b))] way=some (.lst (aE L))/\tl L<=2*tl l+17/\cs L<=5/\L.length<=l.length+1:=by
   have:way=0\/way=1\/way=2\/way=3\/way=4:=by omega
   have t1:tl [more]<=17:=by show more.length+1+0<=17;omega
   have t2:cs [more]<=5:=by show nQ more+0<=5;omega
   have q1:=tb 1;have q2:=tb 2;have z1:=cb0 1;have z2:=cb0 2;have r2':=aK1 (b.take 2);rcases this with rfl | rfl | rfl | rfl | rfl
   ·exact ⟨_,rfl,by rw [gJ];omega,by rw [jB];omega,by rw [aBN];omega⟩
   ·exact ⟨_,rfl,by rw [gJ,gJ];omega,by rw [jB,jB];omega,by rw [aBN,aBN];omega⟩
   ·exact ⟨_,rfl,by rw [gJ,gJ];omega,by rw [jB,jB];omega,by rw [aBN,aBN,aXG];omega⟩
   ·exact ⟨_,rfl,by rw [gJ,gJ];omega,by rw [jB,jB];omega,by rw [aBN,aBN];show _+1+_<=_;omega⟩
   ·exact ⟨_,rfl,by rw [gJ,gJ];omega,by rw [jB,jB];omega,by rw [aBN,aBN];show _+1+_<=_;omega⟩
  show o1 (c8 [L2.T.lst (aE (a++b.drop 1)),.lst (aE (a++b.take 1++b)),.lst (aE (a++(b.take 2).reverse++b.drop 2)),.lst (aE (a++[more]++b.drop 1)),.lst (aE (a++[more]++b))] way) _;rw [hL];show o1 (dC (aE L)) _;rw [kK];refine ⟨aDL (by rw [aEQ];unfold big;omega),λz hz=>?_⟩;have sz:sg z=jw (L.map sg):=by rw [hz];exact nS _
  have lz:z.length<=2*x.length+20:=by
   have:=aPD L;rw [<-aO,sz];omega
  have wz:nW z<=nW x+6:=by
   rw [aBF];unfold nQ;rw [sz]
   by_cases c:L=[]
   ·rw [c];show ([]:List Nat).count 32+1<=_;simp
   ·rw [aJ4 L c];omega
  have eb:vI [L2.A.b xs,.v (.str x)] E'=some [.int A1,.int B1,.int c1]:=by
   show (match E'[0]? with | some (some (.o true xs))=>if cC xs=true then some xs else none | _=>none)=_;rw [p0];rfl
  show o1 (vI [L2.A.b xs,.v (.str x)] E') _;rw [eb];exact ⟨rfl,q z _ lz wz (b3.mono (by omega)) rfl⟩
end
end My
namespace My
open PySem L2 PyProof.Rows
section
variable {P:bAR} {w:bAU} {K:W.Frag} {mg:Str->Option Value} {base:Heap}
theorem aSJ (k:Int):aGU k [.int 0]=aX (aEH k.toNat 0):=by
 unfold aGU aX;generalize k.toNat=n
 induction n with
 | zero=>rfl
 | succ n ih=>rw [aVW,aSX,ih,aVW,aQA];rfl
theorem aAC:∀ns:List Int,cC (aX ns)=true
 | []=>rfl
 | _::ns=>by simp [aX,cC,noL];exact aAC ns
def wO:fR:=λas Q=>∃(ns:List Int) (m:Nat),as=[.v (.lst (aX ns)),.v (.int (m:Int))]/\ns.length<=63/\2<=m/\m<=63/\∀cs:List Int,2<=cs.length->cs.length<=m->Q (.l (aX cs)) []
abbrev sC:bAY:=top 43
theorem lI:aP ["_law_script","_law_many","_law_cells","_law_k","_law_cell"] ["_law_script","_law_many"] (aH sC):=⟨rfl,rfl,rfl,by decide +kernel,rfl,by decide +kernel,by decide +kernel⟩
theorem aF6 {f:bAO} {fd:bAS} (F:dA K "_law_folded" "_law_folded" sC f fd) (TX:Txt mg)    : bI P w K mg base dQ 1 f fd ["_law_script","_law_many"] (aK K wO):=by
 refine F.okT lI ?len (λcdv A outer s H E hr=>(aC (aV (i:=2) lI.nd rfl (aIW rfl) (aGH rfl rfl TX.n_list (fc (bU rfl (fv 0) cA (a9 (fv 1))) aA)))
 (aC (j6 PassesOwn.never rfl (aLQ rfl rfl TX.n_enumerate (fc (bU rfl (fv 0) (a9 (fv 1)) (a9 aB)) aA)) (jY (n:=2) rfl rfl (bT (bG (i:=3) lI.nd rfl (aIW rfl)) (bT (bG (i:=4) lI.nd rfl (aIW rfl)) g9)))
  (aG (j8 (aY bK (aI rfl (fv 2) (aW gM (fv 3) (fv 1)) (λ_ _=>rfl)) (aW bO (fv 4) (aY bK (fv 3) aB))) (aCM (fv 2) (aW gM (fv 3) (fv 1))))))
 (aG (aM (gG (fv 2) (aRS (eU (fc aB aA)) (aY pL aB (cL rfl rfl TX.n_len (fc (fv 2) aA)))))))))) ?rd
 case len=>rintro as Q ⟨ns,m,rfl,_⟩;rfl
 case rd=>
  rintro as Q ⟨ns,m,rfl,hl,hm2,hm,q⟩;refine dN (λi E=>∃(cs:List Int) (v3 v4:Option U),E=[some (.p (.lst (aX ns))),some (.p (.int (m:Int))),some (.o false (aX cs)),v3,v4]/\cs.length=(ns.take m).length)
   ⟨ns.take m,none,none,by rw [<-aMN],rfl⟩ ?_ ?_
  ·rintro i x rest E hi ⟨cs,v3,v4,rfl,hc⟩ K;obtain ⟨y,hy,rfl⟩:=aN4 hi;obtain ⟨z,rfl⟩:∃z,y=T.int z:=by
    obtain ⟨z,_,e⟩:=aYF.mp (aHT (aIR hy));exact ⟨z,e.symm⟩
   have hilt:i<ns.length-m:=by
    have h1:=(aA8.mp hy).1;have h2:=aHC (aX ns) m 63;simp [aX] at h2;exact aG3 h1 h2
   have hcl:cs.length=m:=by rw [hc,aNQ];omega
   have em:((i:Int)%(m:Int))=((i%m:Nat):Int):=rfl;have hj:i%m<cs.length:=by rw [hcl];exact aY0 _ (by omega)
   have hat:c8 (aX cs) ((i:Int)%(m:Int))=some (T.int cs[i%m]):=by
    rw [em];exact cM (by rw [aX,aEO,aCP hj];rfl)
   have hix:ixN (aX cs).length ((i:Int)%(m:Int))=some (i%m):=by
    rw [em];unfold ixN;rw [if_pos (by omega),if_pos (by simp [aX];omega),aXM]
   have hmp:(λ(_ j:Int)=>0<j) (i:Int) (m:Int):=by show (0:Int)<(m:Int);omega
   refine ⟨hmp,?_⟩;show o1 (c8 (aX cs) ((i:Int)%(m:Int))) _;rw [hat];refine ⟨aA9 (by omega),hmp,?_⟩;show o1 (ixN (aX cs).length ((i:Int)%(m:Int))) _;rw [hix];have e:aX (cs.set (i%m) (cs[i%m]+z*((i:Int)+2)))=(aX cs).set (i%m) (.int (cs[i%m]+z*((i:Int)+2))):=by rw [aX,aX,List.map_set]
   exact K _ ⟨cs.set (i%m) (cs[i%m]+z*((i:Int)+2)),some (.p (.int (i:Int))),some (.p (.int z)),by rw [e];rfl,by rw [aXN];exact hc⟩
  ·rintro E ⟨cs,v3,v4,rfl,hc⟩;have hcm:cs.length<=m:=by rw [hc,aNQ];omega
   have lc:((aX cs).length:Int)=cs.length:=by simp [aX]
   refine ⟨⟨?_,?_,?_⟩,?_,?_,?_⟩
   ·show -(2^63:Int)<=2-((aX cs).length:Int);omega
   ·show 2-((aX cs).length:Int)<2^63;omega
   ·show 1*(2-((aX cs).length:Int)).toNat<=1000;omega
   ·show (aX cs).length+(aGU (2-((aX cs).length:Int)) [.int 0]).length<=1000;rw [aSJ];simp [aX];omega
   ·show cC (aX cs++aGU (2-((aX cs).length:Int)) [.int 0])=true;rw [aSJ,show aX cs++aX (aEH (2-((aX cs).length:Int)).toNat 0)=aX (cs++aEH (2-((aX cs).length:Int)).toNat 0) by simp [aX]];exact aAC _
   ·show Q (.l (aX cs++aGU (2-((aX cs).length:Int)) [.int 0])) [];rw [aSJ,show aX cs++aX (aEH (2-((aX cs).length:Int)).toNat 0)=aX (cs++aEH (2-((aX cs).length:Int)).toNat 0) by simp [aX]];refine q _ ?_ ?_
    ·rw [aBN,aV2];omega
    ·rw [aBN,aV2];omega
def aOQ (n:Nat):fR:=λas Q=>∃x:L2.T,as=[.v x,.v x]/\dT x<=n/\dT x<=50/\wT x<900/\Q (.v (.bl true)) []
def r8:Nat->fR
 | 0=>λ_ _=>False
 | n+1=>aOQ n
end
end My
namespace My
open PySem L2 PyProof.Rows
section
variable {P:bAR} {w:bAU} {K:W.Frag} {mg:Str->Option Value} {base:Heap}
abbrev rS:bAY:=top 69
theorem aOE:aP ["_law_found","_law_due"] ["_law_found","_law_due"] (aH rS):=⟨rfl,rfl,rfl,by decide +kernel,rfl,by decide +kernel,by decide +kernel⟩
theorem aNH:∀{xs:List L2.T} {i:Nat} {t:L2.T},(iG xs xs)[i]? = some t->∃x,xs[i]? = some x/\t = .tup [x,x]:=λh=>by
 obtain ⟨x,y,h1,h2,h3⟩:=sN h;rw [h1] at h2;cases h2;exact ⟨x,h1,h3⟩
theorem sP:∀n:Nat,iX (aEH n (.bl true))=some (aEH n true)
 | 0=>rfl
 | n+1=>by rw [aVW,iX,sP n];rfl
theorem qM:∀n:Nat,cC (aEH n (.bl true))=true
 | 0=>rfl
 | n+1=>by rw [aVW,cC,qM n];rfl
theorem aJE {f:bAO} {fd:bAS} {n:Nat} (F:dA K "_law_like" "_law_like" rS f fd) (TX:Txt mg) (g_like:Fn P w K mg base n "_law_like" ["_law_found","_law_due"] (aK K (r8 n))):bI P w K mg base dQ (n+1) f fd ["_law_found","_law_due"] (aK K (aOQ n)):=by
 refine F.okT aOE ?len (λcdv A outer s H E hr=>(aC (bP (bQ (aM3 aCZ iY rfl rfl TX.n_isinstance (fv 1) rfl TX.n_list vR rfl TX.n_tuple fY (by decide) (by decide))) (aC (bP (gH (cF (iM rfl hr (cZ aCZ rfl rfl TX.n_isinstance (fv 0) rfl TX.n_list vR (by decide)) (cZ aCZ rfl rfl TX.n_isinstance (fv 1) rfl TX.n_list vR (by decide)) (aN _)) (cG (iM rfl hr (cZ iY rfl rfl TX.n_isinstance (fv 0) rfl TX.n_tuple fY (by decide)) (cZ iY rfl rfl TX.n_isinstance (fv 1) rfl TX.n_tuple fY (by decide)) (aN _))))) (aG (aM gU)) bH)
 (aG (aM (fQ (gX rfl hr (cL rfl rfl TX.n_len (fc (fv 0) aA)) (cL rfl rfl TX.n_len (fc (fv 1) aA)) (aN _)) (fO (aCK rfl rfl rfl TX.n_all (fc (nL (N':=["_law_one","_law_other"]) (t:=2) (cap:=[]) rfl (cW.of rfl) rfl (by decide) (aNX rfl rfl TX.n_zip (fc (fv 0) (fc (fv 1) aA))) (λ_ _ _ _=>(jY (n:=2) rfl rfl (bT (bG (i:=0) (show aYK (["_law_one","_law_other"]:List Str) by decide +kernel) rfl (aIW rfl) (aX8 rfl)) (bT (bG (i:=1) (show aYK (["_law_one","_law_other"]:List Str) by decide +kernel) rfl (aIW rfl) (aX8 rfl)) g9)))) (λ_ _ _ _=>(aF g_like hr (by omega) rfl (fc (fv 0) (fc (fv 1) aA))))) aA))))))) bH)
 (aC (bP (gH (cF (wG (fv 1) (aN _)) (cG (bQ (cZ aG6 rfl rfl TX.n_isinstance (fv 1) rfl TX.n_str aB2 (by decide)))))) (aG (aM (fQ (gX rfl hr (fv 0) (fv 1) (aN _)) (fO (gX rfl hr (cZ aG6 rfl rfl TX.n_isinstance (fv 0) rfl TX.n_str aB2 (by decide)) (cZ aG6 rfl rfl TX.n_isinstance (fv 1) rfl TX.n_str aB2 (by decide)) (aN _)))))) bH)
 (aC (bP (bQ (cZ xB rfl rfl TX.n_isinstance (fv 1) rfl TX.n_bool qZ (by decide))) (aG (aM (fQ (cZ xB rfl rfl TX.n_isinstance (fv 0) rfl TX.n_bool qZ (by decide)) (fO (gX rfl hr (fv 0) (fv 1) (aN _)))))) bH)
 (aG (aM (fQ (cZ aOS rfl rfl TX.n_isinstance (fv 0) rfl TX.n_int aIZ (by decide)) (fQ (aBW (cZ xB rfl rfl TX.n_isinstance (fv 0) rfl TX.n_bool qZ (by decide))) (fO (gX rfl hr (fv 0) (fv 1) (aN _))))))))))) ?rd
 case len=>rintro as Q ⟨x,rfl,_⟩;rfl
 case rd=>
  rintro as Q ⟨x,rfl,hd,hd2,hw,q⟩;have seq:∀(xs:List L2.T) (Q:En->Prop),xs.length<900->wTs xs<900->uT xs+1<=n->uT xs+1<=50->(∀v0 v1,Q [v0,v1,some (.o false (aEH xs.length (.bl true)))])->
    jO (aS5 2 (aIQ (zA 0) (aIQ (zA 1) aTW))) (aAH (r8 n) (kM (kX 0) (kM (kX 1) yY))) (iG xs xs) [none,none,some (.o false [])] Q:=λxs Q hl hw h1 h2 hQ=>by
   refine eO (λi E=>∃v0 v1,E=[v0,v1,some (.o false (aEH i (.bl true)))]/\i<=xs.length) ⟨none,none,rfl,aB7 _⟩ ?_ ?_
   ·rintro i t rest E hi ⟨v0,v1,rfl,hil⟩ KK;obtain ⟨x,hx,rfl⟩:=aNH hi;have hlt:i<xs.length:=(aA8.mp hx).1;have hm:=mG (aIR hx);obtain ⟨m,rfl⟩:∃m,n=m+1:=⟨n-1,by omega⟩;have hm2:=aH6 (aIR hx);refine ⟨x,rfl,by omega,by omega,by omega,?_⟩;refine ⟨by rw [aV2];omega,KK _ ⟨some (.p x),some (.p x),?_,hlt⟩⟩;rw [aZK];rfl
   ·rintro E ⟨v0,v1,rfl,_⟩;rw [lK,Nat.min_self];exact hQ v0 v1
  have fin:∀k:Nat,(aEH k true).all id=true:=λk=>by simp
  cases x with
  | int i=>exact ⟨aB7 _,rfl,by rw [dX];exact q⟩
  | bl c=>exact ⟨aB7 _,rfl,by rw [dX];exact q⟩
  | non=>exact ⟨aB7 _,aB7 _,rfl,q⟩
  | str z=>
   refine ⟨aB7 _,?_⟩;show if L2.dZ (.str z) (.str z)=true then _ else _;rw [dX,if_pos rfl];exact ⟨aB7 _,rfl,q⟩
  | tup xs=>
   have e1:L2.dZ (.int (xs.length:Int)) (.int (xs.length:Int))=true:=dX _;have hd':uT xs+1<=n/\uT xs+1<=50:=⟨hd,hd2⟩;have hw':aX3 xs.length (wTs xs)<900:=hw;have hw1:xs.length<900:=aWL (aY5 _ _) hw';have hw2:wTs xs<900:=aWL (aYY _ _) hw';refine ⟨aB7 _,aB7 _,aB7 _,?_⟩;show if L2.dZ (.int (xs.length:Int)) (.int (xs.length:Int))=true then _ else _;rw [e1,if_pos rfl];refine ⟨rfl,seq xs _ hw1 hw2 hd'.1 hd'.2 λv0 v1=>⟨qM _,?_⟩⟩;show o1 (iX (aEH xs.length (.bl true))) _;rw [sP];refine ⟨rfl,?_⟩;rw [fin];exact q
  | lst xs=>
   have e1:L2.dZ (.int (xs.length:Int)) (.int (xs.length:Int))=true:=dX _;have hd':uT xs+1<=n/\uT xs+1<=50:=⟨hd,hd2⟩;have hw':aX3 xs.length (wTs xs)<900:=hw;have hw1:xs.length<900:=aWL (aY5 _ _) hw';have hw2:wTs xs<900:=aWL (aYY _ _) hw';refine ⟨aB7 _,aB7 _,aB7 _,?_⟩;show if L2.dZ (.int (xs.length:Int)) (.int (xs.length:Int))=true then _ else _;rw [e1,if_pos rfl];refine ⟨rfl,seq xs _ hw1 hw2 hd'.1 hd'.2 λv0 v1=>⟨qM _,?_⟩⟩;show o1 (iX (aEH xs.length (.bl true))) _;rw [sP];refine ⟨rfl,?_⟩;rw [fin];exact q
theorem aD5 {f:bAO} {fd:bAS} (F:dA K "_law_like" "_law_like" rS f fd) (TX:Txt mg) (hm:mg "_law_like" = some (.ref f)) (hk:W.keepIn K (.ref f)=true) (hb:kC K fd ["_law_found","_law_due"] []) :
  ∀n,bI P w K mg base dQ n f fd ["_law_found","_law_due"] (aK K (r8 n))
 | 0=>⟨λ_ _ _ _ ⟨_,_,_,_,_,h,_⟩=>h.elim,λ_ _ _ _ _ _ _ _ _ _ _ _ _ ⟨_,_,_,_,_,h,_⟩=>h.elim⟩
 | n+1=>aJE F TX ⟨⟨f,fd,aD5 F TX hm hk hb n,hm,hk,hb⟩⟩
end
end My
namespace My
open PySem L2 PyProof.Rows
section
variable {P:bAR} {w:bAU} {K:W.Frag} {mg:Str->Option Value} {base:Heap}
def thX (C x:bAO) (n i j ie:Nat):TS:=λD σ H=>σ.length=n/\H x=some (ExX C x)/\σ[ie]? = some (some (.ref x))/\∀H',(∀b o,H b=some o->H' b=some o)->D.nx ((σ.set j (some (.bl false))).set i (some .non)) H'
theorem aUK {X:Cx} {x C CA CB CN:bAO} {n i j ie:Nat} {so sf se sa sb sn:Str} {p1 p2 p3 p4 p5 p6 p7 p8 p9 p10 p11 p12 p13 p14 p15 p16 p17 p18 p19 p20 p21 p22 p23 p24 p25 p26:Pos} {x1} {j1 j2:Nat}
  (hN:X.N.Nodup) (hj:X.N[j]? = some so) (lo:yT X.env.scope so) (ho:X.env.scope.names.lookup so=some .local) (hi:X.N[i]? = some sf) (lf:yT X.env.scope sf) (hf:X.env.scope.names.lookup sf=some .local) (he:X.N[ie]? = some se) (ve:Vis X.env.scope se) (vo:Vis X.env.scope so)
  (gi:Gl X "isinstance") (ni:X.mg "isinstance" = none) (ga:Gl X sa) (ma:X.mg sa=some (.ref CA)) (gb:Gl X sb) (mb:X.mg sb=some (.ref CB)) (gn:Gl X sn) (mn:X.mg sn=some (.ref CN)) (gv:Gl X "ValueError") (nv:X.mg "ValueError" = none)
  (hcl:yV X.K C) (k1:W.kitAny X.K (.ref C) [.ref CA,.ref CB]=some false) (k2:W.kitOne X.K (.ref C) (.type "ValueError")=some true) (k3:W.kitOne X.K (.ref C) (.ref CN)=some true) (hjn:j<n) (hij:ie≠j)
  (d1:(so==("__debug__":Str))=false) (d2:(se==("__debug__":Str))=false) (d3:(so==("__classdict__":Str))=false) (d4:(se==("__classdict__":Str))=false) (d5:(sa==("__debug__":Str))=false) (d6:(sb==("__debug__":Str))=false) (d7:(sn==("__debug__":Str))=false)
  (w1:bBN (.BoolOp .Or [.Call (.Name "isinstance" p2) [.Name se p3,.Tuple [.Name sa p4,.Name sb p5] x1 p6] [] p7,.UnaryOp .Not (.Call (.Name "isinstance" p8) [.Name se p9,.Name "ValueError" p10] [] p11) p12] p13) (some (.Name so p1)) p14.line X.env=pure false)
  (w2:bBN (.IfExp (.BoolOp .And [.Call (.Name "isinstance" p16) [.Name se p17,.Name sn p18] [] p19,.UnaryOp .Not (.Name so p20) p21] p22) (.Constant .none j1 p23) (.Constant (.bool false) j2 p24) p25) (some (.Name sf p15)) p26.line X.env=pure false) :
  QB X [.Assign [.Name so p1] (.BoolOp .Or [.Call (.Name "isinstance" p2) [.Name se p3,.Tuple [.Name sa p4,.Name sb p5] x1 p6] [] p7,.UnaryOp .Not (.Call (.Name "isinstance" p8) [.Name se p9,.Name "ValueError" p10] [] p11) p12] p13) p14,
   .Assign [.Name sf p15] (.IfExp (.BoolOp .And [.Call (.Name "isinstance" p16) [.Name se p17,.Name sn p18] [] p19,.UnaryOp .Not (.Name so p20) p21] p22) (.Constant .none j1 p23) (.Constant (.bool false) j2 p24) p25) p26] (thX C x n i j ie):=by
 have glob:∀{y:Str} {a:bAO} {p:Pos},Gl X y->X.mg y=some (.ref a)->(y==("__debug__":Str))=false->QE X (.Name y p) (tC (.ref a)):=λg m d=>⟨aEF g m rfl d⟩;refine QB.le (aDQ (xD hN hj lo (aO0 (dI aFG gi ni bB5 (qc (qv ie he ve d2 d4) (qc (aK6 (qc (glob ga ma d5) (qc (glob gb mb d6) oI))) oI)) (by decide) (by decide) rfl) (aH8 (aHZ (dI (aA4 (c:=.ty "ValueError") (u:=.type "ValueError") (λv r=>r)) gi ni bB5 (qc (qv ie he ve d2 d4) (qc (aDY (v:=.ty "ValueError") (u:=.type "ValueError") gv nv (by decide +kernel) rfl) oI)) (by decide) (by decide) rfl)))) w1 (.inr ho))
  (aHD (xD hN hi lf (aAB (aTG (aJ3 (aBX (dI (aA4 (c:=.ref CN) (u:=.ref CN) (λv r=>r)) gi ni bB5 (qc (qv ie he ve d2 d4) (qc (glob gn mn d7) oI)) (by decide) (by decide) rfl)) (aDC (aJH (aBX (qv j hj vo d1 d3)))))) sR aO8) w2 (.inr hf)))) λD σ H h=>?_
 obtain ⟨hl,hx,hs,k⟩:=h;refine ⟨.ref x,hs,by show 2<=bAW;decide,λp hp=>?_⟩;have hx':(upd H p (.tup [.ref CA,.ref CB])) x=some (ExX C x):=by rw [aS (aQ hx hp)];exact hx
 have kk:∀b o,H b=some o->(upd H p (.tup [.ref CA,.ref CB])) b=some o:=λb o e=>by rw [aS (aQ e hp)];exact e
 refine ⟨x,C,p,CA,CB,false,rfl,hx',hcl,bY,k1,false,rfl,aW4 ?_⟩;refine ⟨.ref x,hs,x,C,true,rfl,hx',hcl,k2,true,rfl,?_⟩;have hsj:(σ.set j (some (V.bl (!true))))[j]? = some (some (.bl false)):=by rw [aVH (by rw [hl];exact hjn)];rfl
 have hse:(σ.set j (some (V.bl (!true))))[ie]? = some (some (.ref x)):=by rw [aLL (Ne.symm hij)];exact hs
 refine ⟨.ref x,hse,x,C,true,rfl,hx',hcl,k3,true,rfl,aTU ?_⟩;exact ⟨_,hsj,false,rfl,aTU (k _ kk)⟩
abbrev aC9:bAY:=top 70
theorem qO:aP ["_law_text","_law_found","error","_law_others"] ["_law_text"] (aH aC9):=⟨rfl,rfl,rfl,by decide +kernel,rfl,by decide +kernel,by decide +kernel⟩
structure DueP (K:W.Frag) (mg:Str->Option Value) (CN CP CS D:bAO):Prop where
 mN:mg "BadNumber" = some (.ref CN)
 mP:mg "BadPath" = some (.ref CP)
 mS:mg "BadSheet" = some (.ref CS)
 mD:mg "SideError" = some (.ref D)
 cl:yV K CP
 k1:W.kitAny K (.ref CP) [.ref CN,.ref CS]=some false
 k2:W.kitOne K (.ref CP) (.type "ValueError")=some true
 k3:W.kitOne K (.ref CP) (.ref CP)=some true
 kD:W.kitCls K (.ref CP) (.ref D)=some true
 bD:W.mroIn K D (.type "BaseException")=some true
def aDT:fR:=λas Q=>∃x:Str,as=[.v (.str x)]/\x.length<=300000/\nW x<=320/\(∀a b rs,fB (aQV x ⟨#[32]⟩) a b rs->Q (.v (nR a b rs)) [])/\((∀a b rs,¬fB (aQV x ⟨#[32]⟩) a b rs)->Q (.v .non) [])
theorem aMR {f:bAO} {fd:bAS} {CN CP CS D:bAO} (F:dA K "_law_told" "_law_told" aC9 f fd) (TX:Txt mg) (g_path_from:aHG false P w K mg base 8 "path_from" ["text"] (spG K (aCU CP))) (du:DueP K mg CN CP CS D) (n_ValueError:mg "ValueError" = none):bI P w K mg base dQ 9 f fd ["_law_text"] (aK K aDT):=by
 have hm_SideError:=du.mD;have kD:∀C,C=CP->W.kitCls K (.ref C) (.ref D)=some true:=λC h=>by rw [h];exact du.kD
 have bD:=du.bD;refine F.okT qO ?len (λcdv A outer s H E hr=>(aC (aV (i:=1) qO.nd rfl (aIW rfl) h9)
 (aC (aMM (i:=1) (j:=3) (ie:=2) (W0:=λC=>C=CP) (λ_ _ z=>z) rfl rfl (λ_=>rfl) rfl (aNR (λ_ _ z=>z) rfl rfl g_path_from hr (by omega) rfl (fc (fv 0) aA)) qO.nd rfl (aIW rfl) (aX8 rfl) rfl rfl rfl hm_SideError kD bD (by decide) (by decide) (λx=>aUK (C:=CP) (n:=4) (j:=3) (i:=1) (ie:=2) qO.nd rfl (aIW rfl) rfl rfl (aIW rfl) rfl rfl (aIW rfl) (aIW rfl) rfl TX.n_isinstance rfl du.mN rfl du.mS rfl du.mP rfl n_ValueError du.cl du.k1 du.k2 du.k3 (by decide) (by decide) (by decide) (by decide) (by decide) (by decide) (by decide) (by decide) (by decide) rfl rfl) (λx C D σ H hC hl hx he k=>by cases hC;exact ⟨hl,hx,he,λH' k'=>k (.bl false) H' k'⟩))
 (aG (aM (fv 1)))))) ?rd
 case len=>rintro as Q ⟨x,rfl,_⟩;rfl
 case rd=>
  rintro as Q ⟨x,rfl,hl,hn,q,w⟩;refine ⟨rfl,x,rfl,hl,hn,λa b rs g=>⟨nG _ _ _,nG _ _ _,q a b rs g⟩,λg=>⟨rfl,rfl,w g⟩⟩
theorem yR {ws:List Str} {q:Fr×Fr} (h:kB ws=some q):Nw q.1 q.2/\∃u v,ws=[u,v]/\sg u=fw q.1/\sg v=fw q.2:=by
 obtain ⟨nv,u,v,e,e1,e2,h1,h2⟩:=mI h;obtain ⟨a1,a2,a3,_⟩:=qW h1;obtain ⟨b1,b2,b3,_⟩:=qW h2;exact ⟨⟨a1,b1,⟨a2,a3⟩,b2,b3⟩,u,v,e,e1,e2⟩
theorem pN:∀{n:Nat} {ws:List Str} {ps:List Pc},mT n ws=some (ps.map pcR)->ws.map sg=(ps.map lO).flatten/\∀p∈ps,nvP p
 | 0,_,_,h=>by cases h
 | n+1,[],ps,h=>by
  have h':some ([]:List Rw)=some (ps.map pcR):=h;cases ps with
  | nil=>exact ⟨rfl,by simp⟩
  | cons p ps=>cases h'
 | n+1,w::r,ps,h=>by
  rw [mT] at h
  by_cases c:w=aA7 "side"
  ·rw [if_pos c] at h;cases e:kB (r.take 2) with
   | none=>rw [e] at h;cases h
   | some q=>
    rw [e] at h;obtain ⟨rs',e',e2⟩:=aYP.mp h;cases ps with
    | nil=>cases e2
    | cons p ps=>
     rw [aQA] at e2;injection e2 with e3 e4;rw [e4] at e';obtain ⟨i1,i2⟩:=pN e';obtain ⟨nw,u,v,e5,e6,e7⟩:=yR e;have er:r=u::v::r.drop 2:=by
      conv=>lhs;rw [<-aXU 2 r,e5]
      rfl
     cases p with
     | arc m k x y l=>cases e3
     | side x y=>
      cases e3;refine ⟨?_,λp hp=>?_⟩
      ·rw [er];show sg w::sg u::sg v::(r.drop 2).map sg=[sg (aA7 "side"),fw q.1,fw q.2]++(ps.map lO).flatten;rw [i1,c,e6,e7];rfl
      ·rcases aH1.mp hp with rfl | hp
       ·exact nw
       ·exact i2 p hp
  ·rw [if_neg c] at h
   by_cases c2:w=aA7 "arc"
   ·rw [if_pos c2] at h;cases e:kB ((r.drop 1).take 2) with
    | none=>rw [e] at h;cases h
    | some q1=>
     cases f:kB ((r.drop 3).take 2) with
     | none=>rw [e,f] at h;cases h
     | some q2=>
      cases hl:r.head? with
      | none=>rw [e,f,hl] at h;cases h
      | some tw=>
       rw [e,f,hl] at h;simp only at h;obtain ⟨rs',e',e2⟩:=aYP.mp h;cases ps with
       | nil=>cases e2
       | cons p ps=>
        rw [aQA] at e2;injection e2 with e3 e4;rw [e4] at e';obtain ⟨i1,i2⟩:=pN e';obtain ⟨nw,u,v,e5,e6,e7⟩:=yR e;obtain ⟨nw2,u2,v2,f5,f6,f7⟩:=yR f;have er:r=tw::u::v::u2::v2::r.drop 5:=by
         cases r with
         | nil=>cases hl
         | cons t0 r=>
          cases hl;have a1:r.take 2=[u,v]:=e5;have a2:(r.drop 2).take 2=[u2,v2]:=f5;show tw::r=tw::u::v::u2::v2::r.drop 4;have b1:r=[u,v]++r.drop 2:=by rw [<-a1,aXU]
          have b2:r.drop 2=[u2,v2]++(r.drop 2).drop 2:=by rw [<-a2,aXU]
          rw [aXL] at b2
          conv=>lhs;rw [b1,b2]
          rfl
        cases p with
        | side x y=>cases e3
        | arc m k x y l=>
         cases e3;refine ⟨?_,λp hp=>?_⟩
         ·rw [er];show sg w::sg (iR l)::sg u::sg v::sg u2::sg v2::(r.drop 5).map sg=[sg (aA7 "arc"),sg (iR l),fw q1.1,fw q1.2,fw q2.1,fw q2.2]++(ps.map lO).flatten;rw [i1,c2,e6,e7,f6,f7];rfl
         ·rcases aH1.mp hp with rfl | hp
          ·exact ⟨nw,nw2⟩
          ·exact i2 p hp
   ·rw [if_neg c2] at h;cases h
theorem aAR:∀{rs:List Rw} {a b:Fr},i7 a b rs->∃ps:List Pc,rs=ps.map pcR
 | [],_,_,_=>⟨[],rfl⟩
 | p::rs,a,b,h=>by
  obtain ⟨ps,rfl⟩:=aAR h.2;cases p with
  | side x y=>exact ⟨.side x y::ps,rfl⟩
  | arc m n x y t=>
   rcases h.1.1 with rfl | rfl
   ·exact ⟨.arc m n x y true::ps,rfl⟩
   ·exact ⟨.arc m n x y false::ps,rfl⟩
theorem aGO {ws:List Str} {a b a' b':Fr} {rs rs':List Rw} (g:fB ws a b rs) (h:fB ws a' b' rs'):a'=a/\b'=b/\rs'=rs:=by
 have e1:=g.2.1;rw [h.2.1] at e1;have e2:=g.2.2.1;rw [h.2.2.1] at e2;cases e1;cases e2;exact ⟨rfl,rfl,rfl⟩
theorem aE7 {ws:List Str} {a b:Fr} {ps:List Pc} (g:fB ws a b (ps.map pcR)):ws.map sg=dO a b ps/\Nw a b/\(∀p∈ps,nvP p):=by
 obtain ⟨h0,h1,h2,_⟩:=g;obtain ⟨i1,i2⟩:=pN h2;obtain ⟨nw,u,v,e5,e6,e7⟩:=yR h1;have er:ws=aA7 "from"::u::v::ws.drop 3:=by
  cases ws with
  | nil=>cases h0
  | cons t0 r=>
   cases h0;have a1:r.take 2=[u,v]:=e5;show _::r=_::u::v::r.drop 2;have b1:r=[u,v]++r.drop 2:=by rw [<-a1,aXU]
   conv=>lhs;rw [b1]
   rfl
 refine ⟨?_,nw,i2⟩;rw [er];show sg (aA7 "from")::sg u::sg v::(ws.drop 3).map sg=dO a b ps;rw [i1,e6,e7];rfl
theorem aTM (p:Pc):dT (pY p)<=3:=by cases p<;>exact lV rfl
theorem aKL:∀ps:List Pc,uT (ps.map pY)<=3
 | []=>by decide
 | p::ps=>aZJ.mpr ⟨aTM p,aKL ps⟩
theorem aMF (a b:Fr) (ps:List Pc):dT (lZ a b ps)<=6:=by
 have:=aKL ps;show aX3 (dT (vc a b)) (aX3 (uT (ps.map pY)+1) 0)+1<=6;have e:dT (vc a b)=2:=rfl;have:aX3 (dT (vc a b)) (aX3 (uT (ps.map pY)+1) 0)<=5:=aZJ.mpr ⟨by omega,aZJ.mpr ⟨by omega,by omega⟩⟩;omega
theorem aDS:∀ps:List Pc,wTs (ps.map pY)<=4
 | []=>by decide
 | p::ps=>aZJ.mpr ⟨by cases p<;>exact lV rfl,aDS ps⟩
theorem aNO (a b:Fr) {ps:List Pc} (h:ps.length<=110):wT (lZ a b ps)<900:=by
 have:=aDS ps;have l:(ps.map pY).length<=110:=by rw [aG5];exact h
 show aX3 2 (aX3 (wT (vc a b)) (aX3 (aX3 (ps.map pY).length (wTs (ps.map pY))) 0))<900;have e:wT (vc a b)=2:=rfl;exact bAM.mpr ⟨by decide,bAM.mpr ⟨by omega,bAM.mpr ⟨bAM.mpr ⟨by omega,by omega⟩,by decide⟩⟩⟩
def aBQ:fR:=λas Q=>∃x:Str,as=[.v (.str x)]/\x.length<=300000/\nW x<=320/\Q (.v (.bl true)) []
abbrev jV:bAY:=top 71
theorem lR:aP ["_law_text","_law_due"] ["_law_text"] (aH jV):=⟨rfl,rfl,rfl,by decide +kernel,rfl,by decide +kernel,by decide +kernel⟩
theorem uF {f:bAO} {fd:bAS} (F:dA K "_law_text_right" "_law_text_right" jV f fd) (TX:Txt mg) (g_path_in:Fn P w K mg base 8 "_law_path_in" ["_law_text"] (aK K qT)) (g_told:Fn P w K mg base 9 "_law_told" ["_law_text"] (aK K aDT)) (g_like:Fn P w K mg base 7 "_law_like" ["_law_found","_law_due"] (aK K (r8 7))) (g_path_text:Fn P w K mg base 5 "path_text" ["path"] (aK K oC))   : bI P w K mg base dQ 10 f fd ["_law_text"] (aK K aBQ):=by
 refine F.okT lR ?len (λcdv A outer s H E hr=>(aC (aV (i:=1) lR.nd rfl (aIW rfl) (aF g_path_in hr (by omega) rfl (fc (fv 0) aA)))
 (aG (aM (fQ (aF g_like hr (by omega) rfl (fc (aF g_told hr (by omega) rfl (fc (fv 0) aA)) (fc (fv 1) aA))) (fO (aI8 (aLA (fv 1) (aN _)) (fO (gX rfl hr (aF g_path_text hr (by omega) rfl (fc (fv 1) aA)) (fv 0) (aN _)))))))))) ?rd
 case len=>rintro as Q ⟨x,rfl,_⟩;rfl
 case rd=>
  rintro as Q ⟨x,rfl,hl,hn,q⟩;refine ⟨x,rfl,hl,hn,λa b rs g=>?_,λg=>?_⟩
  ·refine ⟨x,rfl,hl,hn,λa' b' rs' g'=>?_,λg'=>absurd g (g' a b rs)⟩;obtain ⟨rfl,rfl,rfl⟩:=aGO g g';obtain ⟨ps,rfl⟩:=aAR g.2.2.2.2;have lp:ps.length<=110:=by
    have h3:=(rO g.2.2.1).2;rw [aG5,aLJ] at h3;have hn':(aQV x ⟨#[32]⟩).length<=320:=hn;omega
   obtain ⟨wq,nw,np⟩:=aE7 g;rw [aN1];have d1:=aMF a' b' ps;have w1:=aNO a' b' lp;refine ⟨lZ a' b' ps,rfl,d1,by omega,w1,?_⟩;refine ⟨a',b',ps,rfl,nw,np,lp,λu hu lu=>?_⟩;have eu:u=x:=kR (by rw [hu,<-wq,rG]);subst eu;refine ⟨aB7 _,rfl,?_⟩;rw [dX];exact q
  ·refine ⟨x,rfl,hl,hn,λa' b' rs' g'=>absurd g' (g a' b' rs'),λg'=>?_⟩;exact ⟨.non,rfl,lV rfl,lV rfl,lV rfl,rfl,q⟩
end
end My
namespace My
open PySem L2 PyProof.Rows
section
variable {P:bAR} {w:bAU} {K:W.Frag} {mg:Str->Option Value} {base:Heap}
theorem aL4 {e:Nat} {a b:Fr}:∀{p:Pc},sH e a b p->zW a b (pcR p)
 | .side x y,⟨_,r,r0,h⟩=>by
  refine ⟨λz=>?_,r,h⟩;obtain ⟨z1,z2⟩:=z;subst z1;subst z2;have:=Rat.mul_pos r0 r0;unfold mX at h;grind
 | .arc m n x y l,⟨_,_,hne,r,r0,h1,h2⟩=>by
  refine ⟨?_,hne,r,Rat.le_of_lt r0,h1,h2⟩;cases l
  ·exact .inr rfl
  ·exact .inl rfl
theorem aOT:∀p:Pc,(pcR p).px=p.px/\(pcR p).py=p.py
 | .side _ _=>⟨rfl,rfl⟩
 | .arc _ _ _ _ _=>⟨rfl,rfl⟩
theorem yZ {e:Nat}:∀{ps:List Pc} {a b:Fr},i6 e a b ps->i7 a b (ps.map pcR)
 | [],_,_,_=>trivial
 | p::ps,a,b,h=>by
  refine ⟨aL4 h.1,?_⟩;rw [(aOT p).1,(aOT p).2];exact yZ h.2
theorem aDA {p:Fr} (h:dS p) (a:p.1.natAbs<10^60) (b:p.2.natAbs<10^60):bE (sg (wd (fw p)))=some p:=by rw [aOU];exact aGZ h.d h.g a b
theorem yG {x y:Fr} (h:Nw x y):kB [wd (fw x),wd (fw y)]=some (x,y):=by
 obtain ⟨⟨a1,a2⟩,b1,b2⟩:=h.b60;simp [kB,aDA h.x a1 a2,aDA h.y b1 b2]
theorem yM (x:Str):wd (sg x)=x:=(aUP rfl).symm
theorem aIH:∀{ps:List Pc} {n:Nat},(∀p∈ps,nvP p)->((ps.map lO).flatten.map wd).length<n->mT n ((ps.map lO).flatten.map wd)=some (ps.map pcR)
 | [],n,_,h=>by
  cases n with
  | zero=>exact absurd h (aXI _)
  | succ n=>rfl
 | p::ps,n,hp,h=>by
  have hpp:=hp p (by simp);cases n with
  | zero=>exact absurd h (aXI _)
  | succ n=>
   have ih:∀{m:Nat},((ps.map lO).flatten.map wd).length<m->mT m ((ps.map lO).flatten.map wd)=some (ps.map pcR):=λ{m} hm=>aIH (ps:=ps) (n:=m) (λq hq=>hp q (aJF _ hq)) hm;rw [aQA,aSX,aW5,aBN] at h;cases p with
   | side x y=>
    have hl:((lO (.side x y)).map wd).length=3:=rfl;rw [hl] at h;show mT (n+1) (wd (sg (aA7 "side"))::wd (fw x)::wd (fw y)::(ps.map lO).flatten.map wd)=_;rw [mT,yM,if_pos rfl];show (match kB [wd (fw x),wd (fw y)] with | some q=>(mT n ((ps.map lO).flatten.map wd)).map (Rw.side q.1 q.2::·) | none=>none)=_;rw [yG hpp,ih (by omega)];rfl
   | arc m k x y l=>
    have hl:((lO (.arc m k x y l)).map wd).length=6:=rfl;rw [hl] at h;show mT (n+1) (wd (sg (aA7 "arc"))::wd (sg (iR l))::wd (fw m)::wd (fw k)::wd (fw x)::wd (fw y)::(ps.map lO).flatten.map wd)=_;rw [mT,yM,if_neg (by decide),if_pos rfl];show (match kB [wd (fw m),wd (fw k)],kB [wd (fw x),wd (fw y)],some (wd (sg (iR l))) with | some m,some q,some l=>(mT n ((ps.map lO).flatten.map wd)).map (Rw.arc m.1 m.2 q.1 q.2 l::·) | _,_,_=>none)=_;rw [yG hpp.1,yG hpp.2,ih (by omega),yM];rfl
theorem aLZ {x:Str} {a b:Fr} {ps:List Pc} {e:Nat} (hx:sg x=jw (dO a b ps)) (nw:Nw a b) (np:∀p∈ps,nvP p) (hn:ps≠[]) (ch:i6 e a b ps):fB (aQV x ⟨#[32]⟩) a b (ps.map pcR):=by
 rw [pT hx (by simp [dO]) y9];have e0:(dO a b ps).map wd=wd (sg (aA7 "from"))::wd (fw a)::wd (fw b)::(ps.map lO).flatten.map wd:=rfl;rw [e0];refine ⟨by rw [yM];rfl,yG nw,?_,by simpa using hn,yZ ch⟩;exact aIH np (aXF _)
theorem uP:∀ps:List Pc,(ps.map lO).flatten.length<=6*ps.length
 | []=>by simp
 | p::ps=>by
  have:=uP ps;have h:(lO p).length<=6:=by cases p<;>simp [lO]
  rw [aQA,aSX,aBN,aOW];omega
theorem aI9 {a b:Fr} {ps:List Pc} (nw:Nw a b) (np:∀p∈ps,nvP p):∀w∈dO a b ps,w.length<=123:=λw h=>by
 have f:∀{x y:Fr},Nw x y->(fw x).length<=123/\(fw y).length<=123:=λh=>⟨o8 h.b60.1.1 h.b60.1.2,o8 h.b60.2.1 h.b60.2.2⟩;unfold dO at h;simp only [aH1] at h;rcases h with rfl | rfl | rfl | h
 ·decide
 ·exact (f nw).1
 ·exact (f nw).2
 ·obtain ⟨l,hl,hw⟩:=List.mem_flatten.mp h;obtain ⟨p,hp,rfl⟩:=aYF.mp hl;have:=np p hp;cases p with
  | side x y=>
   simp only [lO,aH1,aVX,or_false] at hw;rcases hw with rfl | rfl | rfl
   ·decide
   ·exact (f this).1
   ·exact (f this).2
  | arc m k x y l=>
   simp only [lO,aH1,aVX,or_false] at hw;rcases hw with rfl | rfl | rfl | rfl | rfl | rfl
   ·decide
   ·cases l<;>decide
   ·exact (f this.1).1
   ·exact (f this.1).2
   ·exact (f this.2).1
   ·exact (f this.2).2
theorem zK:∀{W:List (List Nat)},(∀w∈W,w.length<=123)->W.flatten.length<=123*W.length
 | [],_=>by simp
 | w::W,h=>by
  have:=zK (W:=W) λv hv=>h v (aJF _ hv);have:=h w (by simp);rw [aSX,aBN,aOW];omega
theorem aF1 {x:Str} {a b:Fr} {ps:List Pc} (hx:sg x=jw (dO a b ps)) (nw:Nw a b) (np:∀p∈ps,nvP p) (hl:ps.length<=10):x.length<=7900/\nW x<=63:=by
 have h1:=aC3 (dO a b ps);have h2:=zK (aI9 nw np);have h3:(dO a b ps).length<=63:=by
  have:=uP ps;show (ps.map lO).flatten.length+1+1+1<=63;omega
 refine ⟨by rw [<-aO,hx];omega,?_⟩;unfold nW;rw [pT hx (by simp [dO]) y9,aG5];exact h3
theorem vC {e:Nat} (he:e<=199):∀{ps:List Pc} {a b:Fr},i6 e a b ps->∀p∈ps,nvP p
 | [],_,_,_=>by simp
 | p::ps,a,b,h=>λq hq=>by
  rcases aH1.mp hq with rfl | hq
  ·cases q with
   | side x y=>exact (h.1.1.up he).nw
   | arc m n x y l=>exact ⟨(h.1.1.up he).nw,(h.1.2.1.up he).nw⟩
  ·exact vC he h.2 q hq
theorem aV1:∀a b rs,¬fB (aQV (aA7 "") ⟨#[32]⟩) a b rs:=λa b rs g=>by
 have e:(aQV (aA7 "") ⟨#[32]⟩).head?≠some (aA7 "from"):=by decide +kernel
 exact e g.1
theorem aWV:∀a b rs,¬fB (aQV (aA7 "from") ⟨#[32]⟩) a b rs:=λa b rs g=>by
 have e:kB (((aQV (aA7 "from") ⟨#[32]⟩).drop 1).take 2)=none:=by decide +kernel
 have h:=g.2.1;rw [e] at h;cases h
theorem aW6:∀a b rs,¬fB (aQV (aA7 "from 0 0") ⟨#[32]⟩) a b rs:=λa b rs g=>by
 have e:(aQV (aA7 "from 0 0") ⟨#[32]⟩).drop 3=[]:=by decide +kernel
 have:=g.2.2.1;rw [e] at this;cases this;exact g.2.2.2.1 rfl
theorem aWF:∀a b rs,¬fB (aQV (aA7 " ") ⟨#[32]⟩) a b rs:=λa b rs g=>by
 have e:(aQV (aA7 " ") ⟨#[32]⟩).head?≠some (aA7 "from"):=by decide +kernel
 exact e g.1
theorem aWT:∀a b rs,¬fB (aQV (aA7 "from 0 0 side 0 0") ⟨#[32]⟩) a b rs:=λa b rs g=>by
 have e:kB (((aQV (aA7 "from 0 0 side 0 0") ⟨#[32]⟩).drop 1).take 2)=some ((0,1),(0,1)):=by decide +kernel
 have f:(aQV (aA7 "from 0 0 side 0 0") ⟨#[32]⟩).drop 3=[aA7 "side",aA7 "0",aA7 "0"]:=by decide +kernel
 have z:bE (sg (aA7 "0"))=some (0,1):=by decide +kernel
 have h1:=g.2.1;rw [e] at h1;cases h1;have h2:=g.2.2.1;rw [f] at h2;have h3:mT (3+1) [aA7 "side",aA7 "0",aA7 "0"]=some [Rw.side (0,1) (0,1)]:=by
  rw [mT,if_pos rfl];have:kB (List.take 2 [aA7 "0",aA7 "0"])=some ((0,1),(0,1)):=by simp [kB,z]
  rw [this];rfl
 have h4:some [Rw.side (0,1) (0,1)]=some rs:=h3.symm.trans h2;cases h4;exact g.2.2.2.2.1.1 ⟨rfl,rfl⟩
end
end My
namespace My
open PySem L2 PyProof.Rows
section
variable {P:bAR} {w:bAU} {K:W.Frag} {mg:Str->Option Value} {base:Heap}
def aUH:fR:=λas Q=>∃ns:List Int,as=[.v (.lst (aX ns))]/\ns.length<=63/\Q (.v (.bl true)) []
theorem aIP (x:Str):nW x<=x.length+1:=by rw [aBF];have:=nX x;omega
theorem aV0:∀m:Int,m=59\/m=60\/m=61->(Txt.mul (aA7 "9") m).length<=61/\(Txt.mul (aA7 "0") (m-1)).length<=61:=by
 rintro m (rfl | rfl | rfl)
 ·exact ⟨by decide +kernel,by decide +kernel⟩
 ·exact ⟨by decide +kernel,by decide +kernel⟩
 ·exact ⟨by decide +kernel,by decide +kernel⟩
theorem j9 {u v w:Str} (e:w=u++v):w.length=u.length+v.length:=by rw [<-aO,e,aZ,aBN,aO,aO]
abbrev rZ:bAY:=top 72
theorem jC:aP ["_law_script","_law_cells","_law_k","_law_many","_law_box","_law_text","_law_turn","_law_bent","_law_far","_law_under"] ["_law_script"] (aH rZ):=⟨rfl,rfl,rfl,by decide +kernel,rfl,by decide +kernel,by decide +kernel⟩
theorem aR8 {f:bAO} {fd:bAS} (F:dA K "law" "law" rZ f fd) (TX:Txt mg) (g_folded:Fn P w K mg base 1 "_law_folded" ["_law_script","_law_many"] (aK K wO)) (g_box_of:Fn P w K mg base 1 "_law_box_of" ["_law_script","_law_k"] (aK K aCJ)) (g_take:Fn P w K mg base 1 "_law_take" ["_law_box","_law_many"] (aK K tL)) (g_path_by:Fn P w K mg base 5 "_law_path_by" ["_law_box","_law_most"] (aK K wM)) (g_path_written:Fn P w K mg base 4 "_law_path_written" ["_law_path"] (aK K oC)) (g_path_in:Fn P w K mg base 8 "_law_path_in" ["_law_text"] (aK K qT)) (g_text_right:Fn P w K mg base 10 "_law_text_right" ["_law_text"] (aK K aBQ)) (g_bent_text:Fn P w K mg base 2 "_law_bent_text" ["_law_box","_law_text"] (aK K aIN)) (g_bent_words:Fn P w K mg base 2 "_law_bent_words" ["_law_box","_law_text"] (aK K aBT)) (g_told:Fn P w K mg base 9 "_law_told" ["_law_text"] (aK K aDT))   : bI P w K mg base dQ 11 f fd ["_law_script"] (aK K aUH):=by
 refine F.okT jC ?len (λcdv A outer s H E hr=>(aC (aV (i:=1) jC.nd rfl (aIW rfl) (aF g_folded hr (by omega) rfl (fc (fv 0) (fc aB aA))))
 (aC (j6 PassesOwn.never rfl (jL rfl TX.n_range (fc (cL rfl rfl TX.n_len (fc (fv 1) aA)) aA)) (bG (i:=2) jC.nd rfl (aIW rfl))
  (aC (aV (i:=4) jC.nd rfl (aIW rfl) (aF g_box_of hr (by omega) rfl (fc (fv 1) (fc (fv 2) aA))))
 (aC (aV (i:=5) jC.nd rfl (aIW rfl) (aF g_path_written hr (by omega) rfl (fc (bL g_path_by hr (by omega) rfl (fc (fv 4) (fc aB aA))) aA)))
 (aC (bP (gH (cF (wG (aF g_path_in hr (by omega) rfl (fc (fv 5) aA)) (aN _)) (cG (cD (bQ (aF g_text_right hr (by omega) rfl (fc (fv 5) aA))))))) (aG (aM gU)) bH)
 (aG (j6 PassesOwn.never rfl (jL rfl TX.n_range (fc aB aA)) (bG (i:=6) jC.nd rfl (aIW rfl))
  (aC (aV (i:=7) jC.nd rfl (aIW rfl) (kE (dP rfl hr (bL g_take hr (by omega) rfl (fc (fv 4) (fc aB aA))) aB (aN _)) (bL g_bent_text hr (by omega) rfl (fc (fv 4) (fc (fv 5) aA))) (bL g_bent_words hr (by omega) rfl (fc (fv 4) (fc (fv 5) aA)))))
 (aG (bP (gH (cF (cD (bQ (aF g_text_right hr (by omega) rfl (fc (fv 7) aA)))) (cG (cD (bQ (aF g_text_right hr (by omega) rfl (fc (bL g_bent_words hr (by omega) rfl (fc (fv 4) (fc (fv 7) aA))) aA))))))) (aG (aM gU)) bH)))))))))
 (aC (j6 PassesOwn.never rfl (oJ rfl (aT (fc aB (fc aB (fc aB aA))))) (bG (i:=3) jC.nd rfl (aIW rfl))
  (aC (eB (i:=8) (j:=9) rfl jC.nd rfl rfl (by decide) rfl rfl (fc (yO aJ (fv 3)) (fc (aU aJ (yO aJ (aY pL (fv 3) aB))) aA)) rfl)
 (aG (j6 PassesOwn.never rfl (oJ rfl (aT (fc (aU (aU aJ (fv 8)) aJ) (fc (aU (aU aJ (fv 8)) aJ) (fc (aU (aU aJ (fv 9)) aJ) aA))))) (bG (i:=5) jC.nd rfl (aIW rfl))
  (aG (bP (cD (bQ (aF g_text_right hr (by omega) rfl (fc (fv 5) aA)))) (aG (aM gU)) bH))))))
 (aG (aM (aCK rfl rfl rfl TX.n_all (fc (nL (N':=["_law_text"]) (t:=1) (cap:=[]) rfl (cW.of rfl) rfl (by decide) (oJ rfl (aT (fc aJ (fc aJ (fc aJ (fc aJ (fc aJ aA))))))) (λ_ _ _ _=>(bG (i:=0) (show aYK (["_law_text"]:List Str) by decide +kernel) rfl (aIW rfl) (aX8 rfl))) (λ_ _ _ _=>(aLA (aF g_told hr (by omega) rfl (fc (fv 0) aA)) (aN _)))) aA)))))))) ?rd
 case len=>rintro as Q ⟨ns,rfl,_⟩;rfl
 case rd=>
  rintro as Q ⟨ns,rfl,hl,q⟩;refine ⟨ns,4,rfl,hl,by decide,by decide,λcs l2 l6=>?_⟩;have lc:((aX cs).length:Int)=cs.length:=by simp [aX]
  refine ⟨⟨by show -(2^62:Int)<=((aX cs).length:Int);omega,by show ((aX cs).length:Int)<2^62;omega⟩,?_⟩;refine dN (λi E=>∃v2 v3 v4 v5 v6 v7 v8 v9:Option U,E=[some (.p (.lst (aX ns))),some (.o false (aX cs)),v2,v3,v4,v5,v6,v7,v8,v9]) ⟨_,_,_,_,_,_,_,_,rfl⟩ ?_ ?_
  ·rintro i t rest E hi ⟨v2,v3,v4,v5,v6,v7,v8,v9,rfl⟩ KK;obtain ⟨hin,rfl⟩:=yP hi;refine ⟨cs,_,rfl,by omega,by omega,λxs bx nl=>?_⟩;obtain ⟨A0,B0,c0,rfl,_⟩:=id bx;refine ⟨_,_,4,rfl,bx,by decide,by decide,by decide,λa b ps ys nv hn hl ch b' nl'=>?_⟩;obtain ⟨A1,B1,c1,rfl,_⟩:=id b';have nw:=(nv.up (show 3<=199 by decide)).nw;have np:=vC (by decide) ch;refine ⟨a,b,ps,rfl,nw,np,by omega,λx hx lx=>?_⟩;obtain ⟨x1,x2⟩:=aF1 hx nw np hl;have gd:=aLZ hx nw np hn ch;refine ⟨x,rfl,by omega,by omega,λa' b2 rs' g'=>?_,λg'=>absurd gd (g' _ _ _)⟩;refine ⟨x,rfl,by omega,by omega,?_⟩;refine ⟨⟨by decide,by decide⟩,?_⟩;refine dN (λj E=>∃(A B c:Int) (w2 v3 v6 v7 v8 v9:Option U),E=[some (.p (.lst (aX ns))),some (.o false (aX cs)),w2,v3,some (.o false [.int A,.int B,.int c]),some (.p (.str x)),v6,v7,v8,v9]/\Bx [.int A,.int B,.int c] (70+10*j)) ⟨A1,B1,c1,_,_,_,_,_,_,rfl,by simpa using b'⟩ ?_ ?_
   ·rintro j t rest' E hj ⟨A,B,c,w2,v3,v6,v7,v8,v9,rfl,hb⟩ KK';obtain ⟨hjn,rfl⟩:=yP hj;have hj14:j<14:=hjn;refine ⟨_,2,_,rfl,hb,by omega,by decide,by decide,λr y1 r0 r1 b1=>⟨aB7 _,?_⟩⟩;obtain ⟨A2,B2,c2,rfl,_⟩:=id b1;show if (r==0)=true then _ else _
    by_cases cr:r=0
    ·rw [if_pos (by simpa using cr)];refine ⟨_,x,_,rfl,b1,by omega,by omega,λy ys ly cy b2' nl2=>?_⟩;obtain ⟨A3,B3,c3,rfl,_⟩:=id b2';have wy:nW y<=130:=by rw [aBF] at x2 ⊢;omega
     refine ⟨y,rfl,by omega,by omega,?_⟩;refine ⟨_,y,_,rfl,b2',by omega,by omega,by omega,λz zs lz wz b3' nl3=>?_⟩;obtain ⟨A4,B4,c4,rfl,_⟩:=id b3';refine ⟨z,rfl,by omega,by omega,?_⟩;exact KK' _ ⟨A4,B4,c4,_,_,_,_,_,_,rfl,b3'.mono (by omega)⟩
    ·rw [if_neg (by simpa using cr)];refine ⟨_,x,_,rfl,b1,by omega,by omega,by omega,λy ys ly wy b2' nl2=>?_⟩;obtain ⟨A3,B3,c3,rfl,_⟩:=id b2';refine ⟨y,rfl,by omega,by omega,?_⟩;refine ⟨_,y,_,rfl,b2',by omega,by omega,by omega,λz zs lz wz b3' nl3=>?_⟩;obtain ⟨A4,B4,c4,rfl,_⟩:=id b3';refine ⟨z,rfl,by omega,by omega,?_⟩;exact KK' _ ⟨A4,B4,c4,_,_,_,_,_,_,rfl,b3'.mono (by omega)⟩
   ·rintro E ⟨A,B,c,w2,v3,v6,v7,v8,v9,rfl,hb⟩;exact KK _ ⟨_,_,_,_,_,_,_,_,rfl⟩
  ·rintro E ⟨v2,v3,v4,v5,v6,v7,v8,v9,rfl⟩;refine dN (λi E=>∃v2 v3 v4 v5 v6 v7 v8 v9:Option U,E=[some (.p (.lst (aX ns))),some (.o false (aX cs)),v2,v3,v4,v5,v6,v7,v8,v9]) ⟨_,_,_,_,_,_,_,_,rfl⟩ ?_ ?_
   ·rintro i t rest E hi ⟨v2,v3,v4,v5,v6,v7,v8,v9,rfl⟩ KK;obtain ⟨m,rfl,hm⟩:∃m:Int,t = .int m/\(m=59\/m=60\/m=61):=by
     have ht:=aIR hi;have ht':t∈[L2.T.int 59,.int 60,.int 61]:=ht;simp only [aH1,aVX,or_false] at ht';rcases ht' with rfl | rfl | rfl
     ·exact ⟨59,rfl,.inl rfl⟩
     ·exact ⟨60,rfl,.inr (.inl rfl)⟩
     ·exact ⟨61,rfl,.inr (.inr rfl)⟩
    obtain ⟨q9,q0⟩:=aV0 m hm;have one9:(aA7 "9").length=1:=rfl;have one0:(aA7 "0").length=1:=rfl;have one1:(aA7 "1").length=1:=rfl;have la:(aA7 "from 0 0 side ").length=14:=rfl;have lb:(aA7 "from 0 0 side -").length=15:=rfl;have ld:(aA7 "from 0 0 side 1/").length=16:=rfl;have le':(aA7 " 0").length=2:=rfl;refine ⟨⟨by omega,by unfold big;omega,by rw [one9];unfold big;omega⟩,λfar hf=>?_⟩;refine ⟨⟨by omega,by unfold big;omega,by rw [one0];unfold big;omega⟩,λu0 h0=>⟨?_,λund hu=>?_⟩⟩
    ·rw [<-h0] at q0;unfold big;omega
    rw [<-hf] at q9;rw [<-h0] at q0;have lu:=j9 hu;clear hf h0 hu;refine ⟨by unfold big;omega,λs1 e1=>?_⟩;have l1:=j9 e1;refine ⟨by unfold big;omega,λs2 e2=>?_⟩;have l2':=j9 e2;refine ⟨by unfold big;omega,λs3 e3=>?_⟩;have l3:=j9 e3;refine ⟨by unfold big;omega,λs4 e4=>?_⟩;have l4:=j9 e4;refine ⟨by unfold big;omega,λs5 e5=>?_⟩;have l5:=j9 e5;refine ⟨by unfold big;omega,λs6 e6=>?_⟩;have l6':=j9 e6;clear e1 e2 e3 e4 e5 e6;refine dN (λi E=>∃v2 v3 v4 v5 v6 v7 v8 v9:Option U,E=[some (.p (.lst (aX ns))),some (.o false (aX cs)),v2,v3,v4,v5,v6,v7,v8,v9]) ⟨_,_,_,_,_,_,_,_,rfl⟩ ?_ ?_
    ·rintro i' t' rest' E hi' ⟨v2,v3,v4,v5,v6,v7,v8,v9,rfl⟩ KK';obtain ⟨y,rfl,ly⟩:∃y:Str,t' = .str y/\y.length<=100:=by
      have ht:=aIR hi';have ht':t'∈[L2.T.str s2,.str s4,.str s6]:=ht;simp only [aH1,aVX,or_false] at ht';rcases ht' with rfl | rfl | rfl
      ·exact ⟨_,rfl,by omega⟩
      ·exact ⟨_,rfl,by omega⟩
      ·exact ⟨_,rfl,by omega⟩
     have:=aIP y;exact ⟨y,rfl,by omega,by omega,KK' _ ⟨_,_,_,_,_,_,_,_,rfl⟩⟩
    ·rintro E ⟨v2,v3,v4,v5,v6,v7,v8,v9,rfl⟩;exact KK _ ⟨_,_,_,_,_,_,_,_,rfl⟩
   ·rintro E ⟨v2,v3,v4,v5,v6,v7,v8,v9,rfl⟩;have sm:∀{y:Str},y.length<=100->nW y<=320:=λ{y} h=>by have:=aIP y;omega
    refine ⟨rfl,?_⟩;refine (?_:jO _ _ [L2.T.str (aA7 ""),.str (aA7 "from"),.str (aA7 "from 0 0"),.str (aA7 " "),.str (aA7 "from 0 0 side 0 0")] _ _);refine eO (λi E=>∃w0,E=[w0,some (.o false (aEH i (.bl true)))]/\i<=5) ⟨none,rfl,by decide⟩ ?_ ?_
    ·rintro i t rest E hi ⟨w0,rfl,hi5⟩ KK;have hlt:=(aA8.mp hi).1;have hlt':i<5:=hlt;obtain ⟨y,rfl,ly,no⟩:∃y:Str,t = .str y/\y.length<=100/\∀a b rs,¬fB (aQV y ⟨#[32]⟩) a b rs:=by
      have ht:=aIR hi;simp only [aH1,aVX,or_false] at ht;rcases ht with rfl | rfl | rfl | rfl | rfl
      ·exact ⟨_,rfl,by decide,aV1⟩
      ·exact ⟨_,rfl,by decide,aWV⟩
      ·exact ⟨_,rfl,by decide,aW6⟩
      ·exact ⟨_,rfl,by decide,aWF⟩
      ·exact ⟨_,rfl,by decide,aWT⟩
     refine ⟨y,rfl,by omega,sm ly,λa b rs g=>absurd g (no a b rs),λ_=>⟨by rw [aV2];omega,KK _ ⟨some (.p (.str y)),?_,by omega⟩⟩⟩;rw [aZK];rfl
    ·rintro E ⟨w0,rfl,_⟩;refine ⟨qM _,?_⟩;exact ⟨rfl,q⟩
end
end My
namespace My
open PySem L2 PyProof.Rows
theorem len0 {α:Type} {us:List α} (h:us.length=0):us=[]:=aVQ h
theorem eD {α:Type} {us:List α} (h:us.length=1):∃a0,us=[a0]:=by
 cases us with
 | nil=>simp at h
 | cons a0 us=>
 replace h:us.length=0:=by simpa using h
 cases us with
 | nil=>exact ⟨a0,rfl⟩
 | cons a us=>simp at h
theorem gZ {α:Type} {us:List α} (h:us.length=2):∃a0 a1,us=[a0,a1]:=by
 cases us with
 | nil=>simp at h
 | cons a0 us=>
 replace h:us.length=1:=by simpa using h
 cases us with
 | nil=>simp at h
 | cons a1 us=>
 replace h:us.length=0:=by simpa using h
 cases us with
 | nil=>exact ⟨a0,a1,rfl⟩
 | cons a us=>simp at h
def sB (K:W.Frag) (C:bAO):Bool:=
 W.findIn K (.ref C) "__getattribute__"==some (some (.builtin "BaseException.__getattribute__"))&&W.findIn K (.ref C) "__getattr__"==some none&&W.findIn K (.ref C) "__setattr__"==some (some (.builtin "object.__setattr__"))
&&W.mroIn K C (.type "BaseException")==some true&&W.mroIn K C (.type "object")==some true&&W.findIn K (.ref C) "__class__"==some (some (.builtin "object.__class__"))
&&W.specialIn K (.builtin "object.__class__") "__get__"==some (some (.builtin "getset_descriptor.__get__"))&&W.takesIn K (.builtin "object.__class__")==some true&&W.hasDictIn K C
theorem aRC {K:W.Frag} {C:bAO} (e:sB K C=true):yV K C:=by
 simp only [sB,aUN,beq_iff_eq] at e;obtain ⟨⟨⟨⟨⟨⟨⟨⟨e1,e2⟩,e3⟩,e4⟩,e5⟩,e6⟩,e7⟩,e8⟩,e9⟩:=e;exact ⟨e1,e2,e3,e4,e5,e6,e7,e8,e9⟩
def aB8 (K:W.Frag) (CN CP CS D:bAO):Bool:=W.kitAny K (.ref CP) [.ref CN,.ref CS]==some false&&W.kitOne K (.ref CP) (.type "ValueError")==some true&&W.kitOne K (.ref CP) (.ref CP)==some true&&W.kitCls K (.ref CP) (.ref D)==some true&&W.mroIn K D (.type "BaseException")==some true&&W.kitCls K (.ref CP) (.ref CN)==some false&&W.kitCls K (.ref CN) (.ref CN)==some true
structure aV6 (K:W.Frag) (mg:Str->Option Value) (CN CP CS D:bAO):Prop extends DueP K mg CN CP CS D where
 pnC:W.kitCls K (.ref CP) (.ref CN)=some false
 nnC:W.kitCls K (.ref CN) (.ref CN)=some true
 bN:W.mroIn K CN (.type "BaseException")=some true
theorem aLT {K:W.Frag} {mg:Str->Option Value} {C CP CS D:bAO} (e:aB8 K C CP CS D=true) (x:sB K C=true) (y:sB K CP=true) (a:mg "BadNumber" = some (.ref C)) (b:mg "BadPath" = some (.ref CP)) (c:mg "BadSheet" = some (.ref CS)) (d:mg "SideError" = some (.ref D)):aV6 K mg C CP CS D:=by
 simp only [aB8,aUN,beq_iff_eq] at e;obtain ⟨⟨⟨⟨⟨⟨e1,e2⟩,e3⟩,e4⟩,e5⟩,e6⟩,e7⟩:=e;have hb:=x;simp only [sB,aUN,beq_iff_eq] at hb;exact ⟨⟨a,b,c,d,aRC y,e1,e2,e3,e4,e5⟩,e6,e7,hb.1.1.1.1.1.2⟩
def aD2 (K:W.Frag):Sp:=λvs H Q _=>∃(a:bAO) (ns:List Int),vs=[.ref a]/\kF K H a (ns.map V.int)/\ns.length<=63/\∀H',Q (.bl true) H'
theorem aQR {K:W.Frag} (vs:List V) (H:Hp) (Q:VK) (E:XK) (h:aD2 K vs H Q E):aK K aUH vs H Q E:=by
 obtain ⟨a,ns,rfl,hs,hl,q⟩:=h;have no:∀b,¬Ow (λa=>(none:Option bAO)=some a) [some (V.ref a)] [some (.p (.lst (aX ns)))] b:=λb z=>by
  rcases z with z | ⟨i,k,xs,h1,_⟩
  ·cases z
  ·match i,h1 with
   | 0,h1=>simp at h1
   | _+1,h1=>simp at h1
 have ii:∀ns:List Int,bW K H (Ow (λa=>(none:Option bAO)=some a) [some (V.ref a)] [some (.p (.lst (aX ns)))]) (aX ns) (ns.map V.int):=λns=>by
  have key:∀(O:bAO->Prop) (ms:List Int),bW K H O (aX ms) (ms.map V.int):=λO ms=>by
   induction ms with
   | nil=>rfl
   | cons m ms ih=>exact ⟨_,_,rfl,rfl,ih⟩
  exact key _ ns
 refine ⟨[.v (.lst (aX ns))],λr _=>r = .v (.bl true),none,⟨rfl,λi t h=>?_,λi k xs h=>?_,λi j k l xs ys b h=>?_,λb z=>by cases z⟩,λ_=>rfl,⟨ns,rfl,hl,rfl⟩,λr xs v H' e _ _ rr=>?_⟩
 ·match i,h with
  | 0,h=>
   simp [pV] at h;subst h;exact ⟨_,rfl,a,_,rfl,hs.imp (λh=>⟨no a,h⟩) id,ii ns⟩
  | _+1,h=>simp [pV] at h
 ·match i,h with
  | 0,h=>simp [pV] at h
  | _+1,h=>simp [pV] at h
 ·match i,h with
  | 0,h=>simp [pV] at h
  | _+1,h=>simp [pV] at h
 ·subst e;cases rr;exact q H'
def Fc (K:W.Frag) (nm:Str) (st:bAY) (f:bAO):Prop:=∃(oc:Value) (od:Option bAO) (kV dc pm:Value) (an:Option bAO) (cd ct:Value) (sl:Array (Option Value)),
 W.nsIn K bAX nm=some (some (.ref f))/\K.lookup f=some ⟨oc,od,.func (W.fnOf nm nm (j5 st) (fD st) (aH st) .none kV dc pm an cd ct),sl⟩/\W.codeIn K cd nm=true/\W.keepIn K (.ref f)=true
theorem fc {K:W.Frag} {nm:Str} {st:bAY} {f:bAO} {oc:Value} {od:Option bAO} {kV dc pm:Value} {an:Option bAO} {cd ct:Value} {sl:Array (Option Value)} (a:W.nsIn K bAX nm=some (some (.ref f))) (l:K.lookup f=some ⟨oc,od,.func (W.fnOf nm nm (j5 st) (fD st) (aH st) .none kV dc pm an cd ct),sl⟩) (c:W.codeIn K cd nm=true) (k:W.keepIn K (.ref f)=true):Fc K nm st f:=⟨_,_,_,_,_,_,_,_,_,a,l,c,k⟩
theorem gm {P:bAR} {w:bAU} {K:W.Frag} {h base:Heap} {mg:Str->Option Value} {nm:Str} {st:bAY} {f:bAO} {CX:CXT} {k:Nat} {ps:List Str} {sp:Sp} (X:K.In h) (G:h.Ns bAX mg) (p:Fc K nm st f) (ok:∀{fd:bAS},dA K nm nm st f fd->bI P w K mg base CX k f fd ps sp)
  (bd:∀{fd:bAS},dA K nm nm st f fd->kC K fd ps []):∃f fd,bI P w K mg base CX k f fd ps sp/\mg nm=some (.ref f)/\W.keepIn K (.ref f)=true/\kC K fd ps []:=by
 obtain ⟨_,_,_,_,_,_,_,_,_,a,l,c,k⟩:=p;have F:=vQ (st:=st) l c k;exact ⟨f,_,ok F,W.mg_of X G a,k,bd F⟩
theorem aRO {l:W.OpenLaw} {w:bAU} {K:W.Frag} {h:Heap} {mg:Str->Option Value} {fa f0 f1 f2 f3 f4 f5 f6 f7 f8 f9 f10 f11 f12 f13 f14 f15 f16 f17 f18 f19 f20 f21 f22 f23 f24 f25 f26 f27 f28 f29 f30 f31 f32 f33 f34 f35 f36 f37 f38 f39 f40 f41 f42 f43 f44 f45 f46 f47 f48 f49 f50 f51 f52 f53 f54 f55 f56:bAO} (X:K.In h) (G:h.Ns bAX mg) (hfa:mg "law" = some (.ref fa))
  (p0:Fc K "_law_take" aB9 f0)
  (p1:Fc K "_law_box_of" sU f1)
  (p2:Fc K "common_divisor" fV f2)
  (p3:Fc K "fraction" mR f3)
  (p4:Fc K "added" xR f4)
  (p5:Fc K "taken" wC f5)
  (p6:Fc K "times" xV f6)
  (p7:Fc K "dot" aJD f7)
  (p8:Fc K "whole_root" jS f8)
  (p9:Fc K "root_of" n9 f9)
  (p10:Fc K "minus" xI f10)
  (p11:Fc K "length_of" kT f11)
  (p12:Fc K "number_text" jA f12)
  (p13:Fc K "fraction_text" gC f13)
  (p14:Fc K "is_number" kY f14)
  (p15:Fc K "is_fraction" i3 f15)
  (p16:Fc K "is_plain" mQ f16)
  (p17:Fc K "is_side" pB f17)
  (p18:Fc K "end_of" sM f18)
  (p19:Fc K "is_point" mK f19)
  (p20:Fc K "is_piece" l9 f20)
  (p21:Fc K "can_begin_at" hZ f21)
  (p22:Fc K "is_path" oB f22)
  (p23:Fc K "_law_lowest" tD f23)
  (p24:Fc K "_law_sum" aLI f24)
  (p25:Fc K "_law_less" aCH f25)
  (p26:Fc K "_law_product" oD f26)
  (p27:Fc K "_law_joined" tI f27)
  (p28:Fc K "_law_off" aID f28)
  (p29:Fc K "_law_scaled_by" kJ f29)
  (p30:Fc K "_law_to_left" pC f30)
  (p31:Fc K "_law_unit_of" oP f31)
  (p32:Fc K "_law_move_by" pF f32)
  (p33:Fc K "_law_move_back" kO f33)
  (p34:Fc K "_law_path_of" pI f34)
  (p35:Fc K "_law_path_by" o9 f35)
  (p36:Fc K "fraction_from" gN f36)
  (p37:Fc K "point_from" jT f37)
  (p38:Fc K "pieces_from" i8 f38)
  (p39:Fc K "path_from" lA f39)
  (p40:Fc K "_law_number_in" k6 f40)
  (p41:Fc K "_law_fraction_in" i9 f41)
  (p42:Fc K "_law_written" jH f42)
  (p43:Fc K "point_text" jU f43)
  (p44:Fc K "_law_point_written" gR f44)
  (p45:Fc K "piece_text" j7 f45)
  (p46:Fc K "path_text" kU f46)
  (p47:Fc K "_law_path_written" iJ f47)
  (p48:Fc K "_law_signs" x9 f48)
  (p49:Fc K "_law_bent_text" kP f49)
  (p50:Fc K "_law_path_in" oV f50)
  (p51:Fc K "_law_bent_words" jR f51)
  (p52:Fc K "_law_folded" sC f52)
  (p53:Fc K "_law_like" rS f53)
  (p54:Fc K "_law_told" aC9 f54)
  (p55:Fc K "_law_text_right" jV f55)
  (p56:Fc K "law" rZ f56)
  {ti_MOST_FIGURES:Tok} (q_MOST_FIGURES:W.nsIn K bAX "MOST_FIGURES" = some (some (.int 60 ti_MOST_FIGURES)))
  {ti_PART:Tok} (q_PART:W.nsIn K bAX "PART" = some (some (.int 1000000000000000000000000000000000000000000000000000000000000 ti_PART)))
  {ti_PART_FIGURES:Tok} (q_PART_FIGURES:W.nsIn K bAX "PART_FIGURES" = some (some (.int 60 ti_PART_FIGURES)))
  {C_BadNumber C_BadPath C_BadSheet C_SideError:bAO}
  (a_BadNumber:W.nsIn K bAX "BadNumber" = some (some (.ref C_BadNumber)))
  (a_BadPath:W.nsIn K bAX "BadPath" = some (some (.ref C_BadPath)))
  (a_BadSheet:W.nsIn K bAX "BadSheet" = some (some (.ref C_BadSheet)))
  (a_SideError:W.nsIn K bAX "SideError" = some (some (.ref C_SideError)))
  (x_N:fP K C_BadNumber none=true) (o_N:sB K C_BadNumber=true) (x_P:fP K C_BadPath none=true) (o_P:sB K C_BadPath=true) (u_A:aB8 K C_BadNumber C_BadPath C_BadSheet C_SideError=true)
  (z_isinstance:W.nsIn K bAX "isinstance" = some none) (z_abs:W.nsIn K bAX "abs" = some none) (z_divmod:W.nsIn K bAX "divmod" = some none) (z_min:W.nsIn K bAX "min" = some none) (z_max:W.nsIn K bAX "max" = some none) (z_all:W.nsIn K bAX "all" = some none) (z_len:W.nsIn K bAX "len" = some none) (z_int:W.nsIn K bAX "int" = some none) (z_bool:W.nsIn K bAX "bool" = some none) (z_tuple:W.nsIn K bAX "tuple" = some none) (z_list:W.nsIn K bAX "list" = some none) (z_str:W.nsIn K bAX "str" = some none) (z_range:W.nsIn K bAX "range" = some none) (z_enumerate:W.nsIn K bAX "enumerate" = some none) (z_zip:W.nsIn K bAX "zip" = some none) (z_ValueError:W.nsIn K bAX "ValueError" = some none) :
  ∃fd:bAS,(∀(s:Shared) (v:Value),BindsTo s fd ⟨[v],[]⟩ [("_law_script",v)])/\∀base:Heap,K.In base->base.Ns bAX mg->bI l.prog w K mg base dQ 11 fa fd ["_law_script"] (aD2 K):=by
 obtain ⟨_,_,_,_,_,_,_,_,_,a42,l42,c42,k42⟩:=p42;obtain ⟨_,_,_,_,_,_,_,_,_,a53,l53,c53,k53⟩:=p53;obtain ⟨oc,od,kV,dc,pm,an,cd,ct,sl,a56,l56,c56,k56⟩:=p56;have e:=hfa.symm.trans (W.mg_of X G a56);cases e;have T:Txt mg:=⟨W.mg_none_of X G z_isinstance,W.mg_none_of X G z_abs,W.mg_none_of X G z_divmod,W.mg_none_of X G z_min,W.mg_none_of X G z_max,W.mg_none_of X G z_all,W.mg_none_of X G z_len,W.mg_none_of X G z_int,W.mg_none_of X G z_bool,W.mg_none_of X G z_tuple,W.mg_none_of X G z_list,W.mg_none_of X G z_str,W.mg_none_of X G z_range,W.mg_none_of X G z_enumerate,W.mg_none_of X G z_zip⟩;have c_MOST_FIGURES:mM mg "MOST_FIGURES" 60:=⟨_,W.mg_of X G q_MOST_FIGURES⟩;have c_PART:mM mg "PART" 1000000000000000000000000000000000000000000000000000000000000:=⟨_,W.mg_of X G q_PART⟩;have c_PART_FIGURES:mM mg "PART_FIGURES" 60:=⟨_,W.mg_of X G q_PART_FIGURES⟩;have du:=aLT u_A o_N o_P (W.mg_of X G a_BadNumber) (W.mg_of X G a_BadPath) (W.mg_of X G a_BadSheet) (W.mg_of X G a_SideError);have F42:=vQ (st:=jH) l42 c42 k42;have b42:=F42.binds (ps:=["_law_one"]) λ_ _ _ _ _ _ us hl=>by obtain ⟨_,rfl⟩:=eD hl;rfl
 have F53:=vQ (st:=rS) l53 c53 k53;have b53:=F53.binds (ps:=["_law_found","_law_due"]) λ_ _ _ _ _ _ us hl=>by obtain ⟨_,_,rfl⟩:=gZ hl;rfl
 have F56:=vQ (st:=rZ) l56 c56 k56;refine ⟨W.fnOf "law" "law" (j5 rZ) (fD rZ) (aH rZ) .none kV dc pm an cd ct,λs v=>.of_eq rfl,λbase _ _=>?_⟩;have g_take:Fn l.prog w K mg base 1 "_law_take" ["_law_box","_law_many"] (aK K tL):=⟨gm X G p0 (aNT · T ) (·.binds λ_ _ _ _ _ _ us hl=>by obtain ⟨_,_,rfl⟩:=gZ hl;rfl)⟩;have g_box_of:Fn l.prog w K mg base 1 "_law_box_of" ["_law_script","_law_k"] (aK K aCJ):=⟨gm X G p1 (aE8 · T ) (·.binds λ_ _ _ _ _ _ us hl=>by obtain ⟨_,_,rfl⟩:=gZ hl;rfl)⟩;have g_common_divisor:Fn l.prog w K mg base 1 "common_divisor" ["one","other"] (aK K qQ):=⟨gm X G p2 (m7 · T ) (·.binds λ_ _ _ _ _ _ us hl=>by obtain ⟨_,_,rfl⟩:=gZ hl;rfl)⟩;have g_fraction:Fn l.prog w K mg base 2 "fraction" ["n","d"] (aK K sG):=⟨gm X G p3 (z0 · T g_common_divisor) (·.binds λ_ _ _ _ _ _ us hl=>by obtain ⟨_,_,rfl⟩:=gZ hl;rfl)⟩;have g_added:Fn l.prog w K mg base 3 "added" ["one","other"] (aK K (kG jG)):=⟨gm X G p4 (aK2 · T g_fraction) (·.binds λ_ _ _ _ _ _ us hl=>by obtain ⟨_,_,rfl⟩:=gZ hl;rfl)⟩;have g_taken:Fn l.prog w K mg base 3 "taken" ["one","other"] (aK K (kG hJ)):=⟨gm X G p5 (aJU · T g_fraction) (·.binds λ_ _ _ _ _ _ us hl=>by obtain ⟨_,_,rfl⟩:=gZ hl;rfl)⟩;have g_times:Fn l.prog w K mg base 3 "times" ["one","other"] (aK K (kG fS)):=⟨gm X G p6 (aHA · T g_fraction) (·.binds λ_ _ _ _ _ _ us hl=>by obtain ⟨_,_,rfl⟩:=gZ hl;rfl)⟩;have g_dot:Fn l.prog w K mg base 4 "dot" ["one","other"] (aK K (tVV aB4)):=⟨gm X G p7 (aQ6 · T g_times g_added) (·.binds λ_ _ _ _ _ _ us hl=>by obtain ⟨_,_,rfl⟩:=gZ hl;rfl)⟩;have g_whole_root:Fn l.prog w K mg base 1 "whole_root" ["square"] (aK K aBU):=⟨gm X G p8 (uB · T ) (·.binds λ_ _ _ _ _ _ us hl=>by obtain ⟨_,rfl⟩:=eD hl;rfl)⟩;have g_root_of:Fn l.prog w K mg base 2 "root_of" ["one"] (aK K aBV):=⟨gm X G p9 (aC5 · T g_whole_root) (·.binds λ_ _ _ _ _ _ us hl=>by obtain ⟨_,rfl⟩:=eD hl;rfl)⟩;have g_minus:Fn l.prog w K mg base 4 "minus" ["one","other"] (aK K aFF):=⟨gm X G p10 (aKS · T g_taken) (·.binds λ_ _ _ _ _ _ us hl=>by obtain ⟨_,_,rfl⟩:=gZ hl;rfl)⟩;have g_length_of:Fn l.prog w K mg base 5 "length_of" ["vector"] (aK K aJI):=⟨gm X G p11 (xM · T g_root_of g_dot) (·.binds λ_ _ _ _ _ _ us hl=>by obtain ⟨_,rfl⟩:=eD hl;rfl)⟩;have g_number_text:Fn l.prog w K mg base 1 "number_text" ["number"] (aK K tH):=⟨gm X G p12 (rN · T c_PART c_PART_FIGURES) (·.binds λ_ _ _ _ _ _ us hl=>by obtain ⟨_,rfl⟩:=eD hl;rfl)⟩;have g_fraction_text:Fn l.prog w K mg base 2 "fraction_text" ["one"] (aK K rD):=⟨gm X G p13 (pK · T g_number_text) (·.binds λ_ _ _ _ _ _ us hl=>by obtain ⟨_,rfl⟩:=eD hl;rfl)⟩;have g_is_number:Fn l.prog w K mg base 1 "is_number" ["thing"] (aK K aBS):=⟨gm X G p14 (wU · T ) (·.binds λ_ _ _ _ _ _ us hl=>by obtain ⟨_,rfl⟩:=eD hl;rfl)⟩;have g_is_fraction:Fn l.prog w K mg base 2 "is_fraction" ["thing"] (aK K aEB):=⟨gm X G p15 (sF · T g_is_number g_common_divisor) (·.binds λ_ _ _ _ _ _ us hl=>by obtain ⟨_,rfl⟩:=eD hl;rfl)⟩;have g_is_plain:Fn l.prog w K mg base 1 "is_plain" ["text"] (aK K aCX):=⟨gm X G p16 (zZ · T c_MOST_FIGURES) (·.binds λ_ _ _ _ _ _ us hl=>by obtain ⟨_,rfl⟩:=eD hl;rfl)⟩;have g_is_side:Fn l.prog w K mg base 1 "is_side" ["piece"] (aK K nM):=⟨gm X G p17 (aCE · T ) (·.binds λ_ _ _ _ _ _ us hl=>by obtain ⟨_,rfl⟩:=eD hl;rfl)⟩;have g_end_of:Fn l.prog w K mg base 2 "end_of" ["piece"] (aK K vY):=⟨gm X G p18 (aFP · T g_is_side) (·.binds λ_ _ _ _ _ _ us hl=>by obtain ⟨_,rfl⟩:=eD hl;rfl)⟩;have g_is_point:Fn l.prog w K mg base 3 "is_point" ["thing"] (aK K nO):=⟨gm X G p19 (zU · T g_is_fraction) (·.binds λ_ _ _ _ _ _ us hl=>by obtain ⟨_,rfl⟩:=eD hl;rfl)⟩;have g_is_piece:Fn l.prog w K mg base 4 "is_piece" ["thing"] (aK K rR):=⟨gm X G p20 (zJ · T g_is_point) (·.binds λ_ _ _ _ _ _ us hl=>by obtain ⟨_,rfl⟩:=eD hl;rfl)⟩;have g_can_begin_at:Fn l.prog w K mg base 6 "can_begin_at" ["piece","begin"] (aK K pH):=⟨gm X G p21 (qI · T g_end_of g_is_side g_length_of g_minus) (·.binds λ_ _ _ _ _ _ us hl=>by obtain ⟨_,_,rfl⟩:=gZ hl;rfl)⟩;have g_is_path:Fn l.prog w K mg base 7 "is_path" ["thing"] (aK K rC):=⟨gm X G p22 (aBR · T g_is_point g_is_piece g_can_begin_at g_end_of) (·.binds λ_ _ _ _ _ _ us hl=>by obtain ⟨_,rfl⟩:=eD hl;rfl)⟩;have g_lowest:Fn l.prog w K mg base 1 "_law_lowest" ["_law_n","_law_d"] (aK K sG):=⟨gm X G p23 (aGG · T ) (·.binds λ_ _ _ _ _ _ us hl=>by obtain ⟨_,_,rfl⟩:=gZ hl;rfl)⟩;have g_sum:Fn l.prog w K mg base 2 "_law_sum" ["_law_one","_law_other"] (aK K (kG jG)):=⟨gm X G p24 (aP3 · T g_lowest) (·.binds λ_ _ _ _ _ _ us hl=>by obtain ⟨_,_,rfl⟩:=gZ hl;rfl)⟩;have g_less:Fn l.prog w K mg base 2 "_law_less" ["_law_one","_law_other"] (aK K (kG hJ)):=⟨gm X G p25 (aMT · T g_lowest) (·.binds λ_ _ _ _ _ _ us hl=>by obtain ⟨_,_,rfl⟩:=gZ hl;rfl)⟩;have g_product:Fn l.prog w K mg base 2 "_law_product" ["_law_one","_law_other"] (aK K (kG fS)):=⟨gm X G p26 (aCV · T g_lowest) (·.binds λ_ _ _ _ _ _ us hl=>by obtain ⟨_,_,rfl⟩:=gZ hl;rfl)⟩;have g_joined:Fn l.prog w K mg base 3 "_law_joined" ["_law_one","_law_other"] (aK K aKU):=⟨gm X G p27 (aGC · T g_sum) (·.binds λ_ _ _ _ _ _ us hl=>by obtain ⟨_,_,rfl⟩:=gZ hl;rfl)⟩;have g_off:Fn l.prog w K mg base 3 "_law_off" ["_law_one","_law_other"] (aK K aFF):=⟨gm X G p28 (aRW · T g_less) (·.binds λ_ _ _ _ _ _ us hl=>by obtain ⟨_,_,rfl⟩:=gZ hl;rfl)⟩;have g_scaled_by:Fn l.prog w K mg base 3 "_law_scaled_by" ["_law_vector","_law_share"] (aK K aDI):=⟨gm X G p29 (vS · T g_product) (·.binds λ_ _ _ _ _ _ us hl=>by obtain ⟨_,_,rfl⟩:=gZ hl;rfl)⟩;have g_to_left:Fn l.prog w K mg base 1 "_law_to_left" ["_law_vector"] (aK K aHS):=⟨gm X G p30 (aCC · T ) (·.binds λ_ _ _ _ _ _ us hl=>by obtain ⟨_,rfl⟩:=eD hl;rfl)⟩;have g_unit_of:Fn l.prog w K mg base 2 "_law_unit_of" ["_law_k"] (aK K tUnitOf'):=⟨gm X G p31 (aCR · T g_to_left) (·.binds λ_ _ _ _ _ _ us hl=>by obtain ⟨_,rfl⟩:=eD hl;rfl)⟩;have g_move_by:Fn l.prog w K mg base 3 "_law_move_by" ["_law_box","_law_arcs"] (aK K aJ8):=⟨gm X G p32 (aBP · T g_take g_unit_of) (·.binds λ_ _ _ _ _ _ us hl=>by obtain ⟨_,_,rfl⟩:=gZ hl;rfl)⟩;have g_move_back:Fn l.prog w K mg base 4 "_law_move_back" ["_law_move"] (aK K xK):=⟨gm X G p33 (wY · T g_scaled_by) (·.binds λ_ _ _ _ _ _ us hl=>by obtain ⟨_,rfl⟩:=eD hl;rfl)⟩;have g_path_of:Fn l.prog w K mg base 4 "_law_path_of" ["_law_start","_law_moves"] (aK K rT):=⟨gm X G p34 (aC7 · T g_joined g_off g_scaled_by) (·.binds λ_ _ _ _ _ _ us hl=>by obtain ⟨_,_,rfl⟩:=gZ hl;rfl)⟩;have g_path_by:Fn l.prog w K mg base 5 "_law_path_by" ["_law_box","_law_most"] (aK K wM):=⟨gm X G p35 (aBE · T g_take g_move_by g_move_back g_path_of) (·.binds λ_ _ _ _ _ _ us hl=>by obtain ⟨_,_,rfl⟩:=gZ hl;rfl)⟩;have g_fraction_from:FnH l.prog w K mg base 3 "fraction_from" ["text"] (spG K (aB1 C_BadNumber)):=⟨gm X G p36 (oF · T g_is_plain g_is_fraction g_fraction_text x_N (W.mg_of X G a_BadNumber)) (·.binds λ_ _ _ _ _ _ us hl=>by obtain ⟨_,rfl⟩:=eD hl;rfl)⟩;have g_point_from:FnH l.prog w K mg base 4 "point_from" ["words"] (spG K (aLM C_BadNumber C_BadPath)):=⟨gm X G p37 (t6 · T g_fraction_from x_P (W.mg_of X G a_BadPath)) (·.binds λ_ _ _ _ _ _ us hl=>by obtain ⟨_,rfl⟩:=eD hl;rfl)⟩;have g_pieces_from:FnH l.prog w K mg base 5 "pieces_from" ["words"] (spG K (aIB C_BadNumber C_BadPath)):=⟨gm X G p38 (tN · T g_point_from x_P (W.mg_of X G a_BadPath)) (·.binds λ_ _ _ _ _ _ us hl=>by obtain ⟨_,rfl⟩:=eD hl;rfl)⟩;have g_path_from:aHG false l.prog w K mg base 8 "path_from" ["text"] (spG K (aCU C_BadPath)):=⟨gm X G p39 (vV · T g_point_from g_pieces_from g_is_path x_P (W.mg_of X G a_BadPath) (W.mg_of X G a_BadNumber) du.pnC du.nnC du.bN) (·.binds λ_ _ _ _ _ _ us hl=>by obtain ⟨_,rfl⟩:=eD hl;rfl)⟩;have g_number_in:Fn l.prog w K mg base 1 "_law_number_in" ["_law_text"] (aK K aBJ):=⟨gm X G p40 (yS · T ) (·.binds λ_ _ _ _ _ _ us hl=>by obtain ⟨_,rfl⟩:=eD hl;rfl)⟩;have g_fraction_in:Fn l.prog w K mg base 2 "_law_fraction_in" ["_law_text"] (aK K qR):=⟨gm X G p41 (rX · T g_number_in g_lowest) (·.binds λ_ _ _ _ _ _ us hl=>by obtain ⟨_,rfl⟩:=eD hl;rfl)⟩;have g_written:Fn l.prog w K mg base 2 "_law_written" ["_law_one"] (aK K (aM8 2)):=⟨⟨_,_,sE F42 T (W.mg_of X G a42) k42 b42 2,W.mg_of X G a42,k42,b42⟩⟩;have g_point_text:Fn l.prog w K mg base 3 "point_text" ["point"] (aK K aC0):=⟨gm X G p43 (t9 · T g_fraction_text) (·.binds λ_ _ _ _ _ _ us hl=>by obtain ⟨_,rfl⟩:=eD hl;rfl)⟩;have g_point_written:Fn l.prog w K mg base 3 "_law_point_written" ["_law_point"] (aK K aC0):=⟨gm X G p44 (oM · T g_written) (·.binds λ_ _ _ _ _ _ us hl=>by obtain ⟨_,rfl⟩:=eD hl;rfl)⟩;have g_piece_text:Fn l.prog w K mg base 4 "piece_text" ["piece"] (aK K aQI):=⟨gm X G p45 (tQ · T g_is_side g_point_text) (·.binds λ_ _ _ _ _ _ us hl=>by obtain ⟨_,rfl⟩:=eD hl;rfl)⟩;have g_path_text:Fn l.prog w K mg base 5 "path_text" ["path"] (aK K oC):=⟨gm X G p46 (yC · T g_point_text g_piece_text) (·.binds λ_ _ _ _ _ _ us hl=>by obtain ⟨_,rfl⟩:=eD hl;rfl)⟩;have g_path_written:Fn l.prog w K mg base 4 "_law_path_written" ["_law_path"] (aK K oC):=⟨gm X G p47 (qJ · T g_point_written) (·.binds λ_ _ _ _ _ _ us hl=>by obtain ⟨_,rfl⟩:=eD hl;rfl)⟩;have g_signs:Fn l.prog w K mg base 1 "_law_signs" [] (aK K aCO):=⟨gm X G p48 (aIX · T ) (·.binds λ_ _ _ _ _ _ us hl=>by obtain rfl:=len0 hl;rfl)⟩;have g_bent_text:Fn l.prog w K mg base 2 "_law_bent_text" ["_law_box","_law_text"] (aK K aIN):=⟨gm X G p49 (xG · T g_take g_signs) (·.binds λ_ _ _ _ _ _ us hl=>by obtain ⟨_,_,rfl⟩:=gZ hl;rfl)⟩;have g_path_in:Fn l.prog w K mg base 8 "_law_path_in" ["_law_text"] (aK K qT):=⟨gm X G p50 (aCS · T g_fraction_in g_is_path) (·.binds λ_ _ _ _ _ _ us hl=>by obtain ⟨_,rfl⟩:=eD hl;rfl)⟩;have g_bent_words:Fn l.prog w K mg base 2 "_law_bent_words" ["_law_box","_law_text"] (aK K aBT):=⟨gm X G p51 (uC · T g_take) (·.binds λ_ _ _ _ _ _ us hl=>by obtain ⟨_,_,rfl⟩:=gZ hl;rfl)⟩;have g_folded:Fn l.prog w K mg base 1 "_law_folded" ["_law_script","_law_many"] (aK K wO):=⟨gm X G p52 (aF6 · T ) (·.binds λ_ _ _ _ _ _ us hl=>by obtain ⟨_,_,rfl⟩:=gZ hl;rfl)⟩;have g_like:Fn l.prog w K mg base 7 "_law_like" ["_law_found","_law_due"] (aK K (r8 7)):=⟨⟨_,_,aD5 F53 T (W.mg_of X G a53) k53 b53 7,W.mg_of X G a53,k53,b53⟩⟩;have g_told:Fn l.prog w K mg base 9 "_law_told" ["_law_text"] (aK K aDT):=⟨gm X G p54 (aMR · T g_path_from du.toDueP (W.mg_none_of X G z_ValueError)) (·.binds λ_ _ _ _ _ _ us hl=>by obtain ⟨_,rfl⟩:=eD hl;rfl)⟩;have g_text_right:Fn l.prog w K mg base 10 "_law_text_right" ["_law_text"] (aK K aBQ):=⟨gm X G p55 (uF · T g_path_in g_told g_like g_path_text) (·.binds λ_ _ _ _ _ _ us hl=>by obtain ⟨_,rfl⟩:=eD hl;rfl)⟩;exact (aR8 F56 T g_folded g_box_of g_take g_path_by g_path_written g_path_in g_text_right g_bent_text g_bent_words g_told).imp aQR
theorem aXD {l:W.OpenLaw} {q:bAR} {loose:List Str} {XP:(Str->Option Value)->Heap->Prop} {YP:bAU->Heap->Prop} {d:DefRec} {K:Params->W.Frag} (hn:l.most=some 63) (hdf:d.params.defaults=[])
  (hY:∀(w:bAU) (h:Heap),YP w h->(K w.params).In h)
  (F:∀(w:bAU) (mg:Str->Option Value) (fa:bAO) (h:Heap),(K w.params).In h->h.Ns bAX mg->mg d.name=some (.ref fa)->
   ∃fd:bAS,(∀(s:Shared) (u:Value),BindsTo s fd ⟨[u],[]⟩ [("_law_script",u)])/\∀base:Heap,(K w.params).In base->base.Ns bAX mg->bI l.prog w (K w.params) mg base dQ 11 fa fd ["_law_script"] (aD2 (K w.params))) :
  W.WalkO q loose XP YP l.row.toRowW d [] (λf vs=>PySem.call f vs):=
 L2.aMX (n:=63) (k:=11) (x:="_law_script") (CX:=λ_=>dQ) (sp:=λw=>aD2 (K w.params)) hn (by decide) hdf ⟨rfl,by decide,by decide,rfl⟩ hY F (λ_ _ a ns hl _ hS=>⟨a,ns,rfl,hS,hl,λ_=>rfl⟩) λ_ _ _ _ _ z=>z
end My
-- Names taken, so that the last steps make no twins of these constants: their equations are of square size.
def PySem.W.Fast.tw1499747902885054449 : Nat := 0
def PySem.W.Fast.tw5935622370631346700 : Nat := 0
def PySem.W.Fast.tw1103217917044167586 : Nat := 0
def PySem.W.Fast.tw10593794629779678193 : Nat := 0
def PySem.W.Fast.tw12413688342742516946 : Nat := 0
def PySem.W.Fast.tw2121992004245631256 : Nat := 0
def PySem.W.Fast.tw6526957941458964225 : Nat := 0
def PySem.W.Fast.tw178299847065656241 : Nat := 0
def PySem.W.Fast.tw16555677390996202500 : Nat := 0
def PySem.W.Fast.tw5302741368252929077 : Nat := 0
def PySem.W.Fast.tw10566314790012583623 : Nat := 0
def PySem.W.Fast.tw17319167744079902987 : Nat := 0
def PySem.W.Fast.tw12979312715647035878 : Nat := 0
def PySem.W.Fast.tw15441047521312587462 : Nat := 0
def PySem.W.Fast.tw6760552053622758256 : Nat := 0
def PySem.W.Fast.tw7725451327683974112 : Nat := 0
def PySem.W.Fast.tw9215628387461848358 : Nat := 0
def PySem.W.Fast.tw10581108630988224857 : Nat := 0
def PySem.W.Fast.tw7971589024454123078 : Nat := 0
def PySem.W.Fast.tw11935887251905162917 : Nat := 0
def PySem.W.Fast.tw13369482691146891102 : Nat := 0
def PySem.W.Fast.tw4462003017790337244 : Nat := 0
def PySem.W.Fast.tw4495072979167951212 : Nat := 0
def PySem.W.Fast.tw12115154995731768984 : Nat := 0
def PySem.W.Fast.tw16966779840407449237 : Nat := 0
def PySem.W.Fast.tw14950681164420412201 : Nat := 0
def PySem.W.Fast.tw18383406212080607982 : Nat := 0
def PySem.W.Fast.tw5029651627951547208 : Nat := 0
def PySem.W.Fast.tw15099985670489726104 : Nat := 0
def PySem.W.Fast.tw5384996456801284309 : Nat := 0
def PySem.W.Fast.tw4036813566546337136 : Nat := 0
def PySem.W.Fast.tw12953969819082800179 : Nat := 0
def PySem.W.Fast.tw955636396454626192 : Nat := 0
def PySem.W.Fast.tw9856467473363490265 : Nat := 0
def PySem.W.Fast.tw1177409238930262420 : Nat := 0
def PySem.W.Fast.tw13949300286516980011 : Nat := 0
def PySem.W.Fast.tw16375046499335050657 : Nat := 0
def PySem.W.Fast.tw4644933485227255386 : Nat := 0
def PySem.W.Fast.tw110096019217208035 : Nat := 0
def PySem.W.Fast.tw15512959879663008239 : Nat := 0
def PySem.W.Fast.tw6023518773402550606 : Nat := 0
def PySem.W.Fast.tw15526207000300964065 : Nat := 0
def PySem.W.Fast.tw2675777047521704791 : Nat := 0
def PySem.W.Fast.tw3395034923703691498 : Nat := 0
def PySem.W.Fast.tw6351812054853188480 : Nat := 0
def PySem.W.Fast.tw5851217534075142282 : Nat := 0
def PySem.W.Fast.tw8921203545987023687 : Nat := 0
def PySem.W.Fast.tw8845179138149726855 : Nat := 0
def PySem.W.Fast.tw7765614535346432627 : Nat := 0
def PySem.W.Fast.tw9617508840212915303 : Nat := 0
def PySem.W.Fast.tw6824483661373497775 : Nat := 0
def PySem.W.Fast.tw17816838283538176091 : Nat := 0
def PySem.W.Fast.tw9141084945275705900 : Nat := 0
def PySem.W.Fast.tw12094201727551237759 : Nat := 0
def PySem.W.Fast.tw9721515719388559763 : Nat := 0
def PySem.W.Fast.tw3121873633075154079 : Nat := 0
def PySem.W.Fast.tw8252217581935247335 : Nat := 0
def PySem.W.Fast.tw18353803523750923853 : Nat := 0
def PySem.W.Fast.tw8718770806568493784 : Nat := 0
def PySem.W.Fast.tw4044301198226474162 : Nat := 0
def PySem.W.Fast.tw1217495350897842511 : Nat := 0
def PySem.W.Fast.tw1038282061296310768 : Nat := 0
def PySem.W.Fast.tw12254891229611748746 : Nat := 0
def PySem.W.Fast.tw11221553842887560414 : Nat := 0
def PySem.W.Fast.tw8601239646167196173 : Nat := 0
def PySem.W.Fast.tw10353254184368104356 : Nat := 0
def PySem.W.Fast.tw8670092272838734878 : Nat := 0
def PySem.W.Fast.tw6848786539550302207 : Nat := 0
def PySem.W.Fast.tw14918184849164693992 : Nat := 0
def PySem.W.Fast.tw9266916856385126777 : Nat := 0
def PySem.W.Fast.tw15713538936721051623 : Nat := 0
def PySem.W.Fast.tw7997229700164372369 : Nat := 0
def PySem.W.Fast.tw11174705160158610146 : Nat := 0
def PySem.W.Fast.tw13991015407985230698 : Nat := 0
def PySem.W.Fast.tw627015885175393193 : Nat := 0
def PySem.W.Fast.tw6568073503718597633 : Nat := 0
def PySem.W.Fast.tw7987903047946220770 : Nat := 0
def PySem.W.Fast.tw13106345556467218629 : Nat := 0
def PySem.W.Fast.tw3082806912190361600 : Nat := 0
def PySem.W.Fast.tw10025810087615505785 : Nat := 0
def PySem.W.Fast.tw4369406035555609347 : Nat := 0
def PySem.W.Fast.tw16278146636260495956 : Nat := 0
def PySem.W.Fast.tw7115048519218101187 : Nat := 0
def PySem.W.Fast.tw13226600070979480865 : Nat := 0
def PySem.W.Fast.tw14382290662072052740 : Nat := 0
def PySem.W.Fast.tw6181173539424630691 : Nat := 0
def PySem.W.Fast.tw4832940941710268145 : Nat := 0
def PySem.W.Fast.tw5115752283193171902 : Nat := 0
def PySem.W.Fast.tw10912754974517980671 : Nat := 0
def PySem.W.Fast.tw6533565231622096035 : Nat := 0
def PySem.W.Fast.tw6871982437611412306 : Nat := 0
def PySem.W.Fast.tw7379978600737028949 : Nat := 0
open PySem PySem.W PyProof.Rows
set_option maxRecDepth 100000 in
set_option maxHeartbeats 0 in
theorem PySem.Challenge.cw_sidecut_k49_texts_of_paths_spoilt_anywhe_holds : PySem.Challenge.rw_sidecut_k49_texts_of_paths_spoilt_anywhe.Holds := by
 w_on; o_law; k_head; (case hw => w_witness2)
 k_fill
 refine My.aXD (l := PySem.Challenge.rw_sidecut_k49_texts_of_paths_spoilt_anywhe) rfl rfl (λw h Y => PySem.W.kIn_of Y) ?F
 case F =>
  intro w mg fa h KX G hmg
  refine' My.aRO KX G hmg ?p0 ?p1 ?p2 ?p3 ?p4 ?p5 ?p6 ?p7 ?p8 ?p9 ?p10 ?p11 ?p12 ?p13 ?p14 ?p15 ?p16 ?p17 ?p18 ?p19 ?p20 ?p21 ?p22 ?p23 ?p24 ?p25 ?p26 ?p27 ?p28 ?p29 ?p30 ?p31 ?p32 ?p33 ?p34 ?p35 ?p36 ?p37 ?p38 ?p39 ?p40 ?p41 ?p42 ?p43 ?p44 ?p45 ?p46 ?p47 ?p48 ?p49 ?p50 ?p51 ?p52 ?p53 ?p54 ?p55 ?p56 ?q_MOST_FIGURES ?q_PART ?q_PART_FIGURES ?a_BadNumber ?a_BadPath ?a_BadSheet ?a_SideError ?x_N ?o_N ?x_P ?o_P ?u_A ?z_isinstance ?z_abs ?z_divmod ?z_min ?z_max ?z_all ?z_len ?z_int ?z_bool ?z_tuple ?z_list ?z_str ?z_range ?z_enumerate ?z_zip ?z_ValueError
  any_goals exact My.fc rfl rfl rfl rfl
  (case q_MOST_FIGURES => k_is)
  (case q_PART => k_is)
  (case q_PART_FIGURES => k_is)
  (case a_BadNumber => k_is)
  (case a_BadPath => k_is)
  (case a_BadSheet => k_is)
  (case a_SideError => k_is)
  (case x_N => kernel_rfl)
  (case o_N => kernel_rfl)
  (case x_P => kernel_rfl)
  (case o_P => kernel_rfl)
  (case u_A => kernel_rfl)
  (case z_isinstance => k_is)
  (case z_abs => k_is)
  (case z_divmod => k_is)
  (case z_min => k_is)
  (case z_max => k_is)
  (case z_all => k_is)
  (case z_len => k_is)
  (case z_int => k_is)
  (case z_bool => k_is)
  (case z_tuple => k_is)
  (case z_list => k_is)
  (case z_str => k_is)
  (case z_range => k_is)
  (case z_enumerate => k_is)
  (case z_zip => k_is)
  (case z_ValueError => k_is)
#print axioms PySem.Challenge.cw_sidecut_k49_texts_of_paths_spoilt_anywhe_holds
