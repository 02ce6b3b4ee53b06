import PyProof.Rows.All
import Wide.All
import OpenK.AllK
import Wide.FinOn
import Lean
import PyProof.EqAt
import PyProof.EqKinds
import PyProof.TupleCall
import PyProof.NeKinds
import PyProof.ExcInit
import PyProof.Rows.SortStr
import PyProof.Rows.SortWalk
import PyProof.Rows.RuleB_bool
import PyProof.Rows.SortShellK
import KE.KIntText
import KE.KIsAll
import PyProof.AttrMissHeap
import PyProof.CompUse
import PyProof.Rows.CountFlat
import PyProof.DictCompW
import PyProof.StrCalls6
import PyProof.DictItemsLoops
import PySem.Challenge.RW_sidecut_k22_how_far_off_at_most
set_option Elab.async false
set_option linter.all false
set_option bootstrap.genMatcherCode false
set_option compiler.extract_closed false
set_option maxRecDepth 100000
set_option genSizeOf false
local macro_rules|`(def $a:declId $b:optDeclSig $c:declVal)=>`(noncomputable def $a:declId $b:optDeclSig $c:declVal)
local macro_rules|`(abbrev $a:declId $b:optDeclSig $c:declVal)=>`(noncomputable abbrev $a:declId $b:optDeclSig $c:declVal)
set_option maxHeartbeats 4000000
open List renaming getElem?_eq_some_iff -> WE, getElem?_eq_getElem -> WG, getElem?_map -> WH, mem_of_getElem? -> WI, length_map -> WJ, length_append -> WK, mem_cons -> WM, replicate -> WN, mem_cons_of_mem -> WQ, mem_singleton -> WT, map_append -> WU, mem_cons_self -> WW, size_toArray -> WX, length_singleton -> WY, mem_append_right -> XA, append_assoc -> XB, getD_eq_getElem?_getD -> XC, getElem?_set_ne -> XD, mem_append -> XF, length_cons -> XG, range -> XH, getElem?_append_left -> XJ, getElem?_set_self -> XN, getElem?_append_right -> XO, length_take -> XT, append_nil -> XW, getElem?_take_of_lt -> YC, replicate_succ -> YE, not_mem_nil -> YF, map_cons -> YH, mem_map -> YI, getElem?_eq_none -> YJ, mem_append_left -> YL, pairwise_cons -> YM, drop_eq_getElem_cons -> YN, eq_nil_of_length_eq_zero -> YO, nodup_cons -> YS, getElem?_of_mem -> YT, flatten_cons -> YV, getElem?_range -> YW, range_succ -> YX, length_drop -> YY, take -> ZC, mem_range -> ZD, mem_singleton_self -> ZE, take_add_one -> ZF, length_pos_iff -> ZG, take_of_length_le -> ZH, lookup_cons -> ZI, take_length -> ZJ, all_eq_true -> ZK, getElem_mem -> ZL, map_singleton -> ZN, length_replicate -> ZO, getElem?_take_eq_none -> ZP, reverse_cons -> ZR, drop_length -> ZU, getElem?_replicate -> ZX, getElem?_cons_succ -> ZY, filter_cons_of_pos -> ZZ, filter_cons_of_neg -> aa, length_set -> ag, find?_cons -> ah, getElem?_drop -> ak, dropLast_concat_getLast -> ar, foldl -> bc, set_comm -> bg, mem_map_of_mem -> bq, mem_filter -> br, pairwise_iff_getElem -> cf, getElem?_set -> dm, mem_reverse -> dr, eraseIdx_eq_take_drop_succ -> fb, length_nil -> ff, set_append_left -> fg, filterMap_cons -> fi, getElem_zipIdx -> fk, filter_append -> fu, any_cons -> gf, getElem?_inj -> gn, length_range -> gv, eq_of_mem_replicate -> iy, of_mem_zip -> je, drop_of_length_le -> jn, nodup_nil -> ju, map -> jx, Nodup -> jy
open PySem.Heap renaming get?_push_of_some -> WL, lt_size -> WR, get?_push_size -> WV, size_push -> YK, SameBut -> cg, get?_update_self -> dz, get?_update_other -> jj
open Nat renaming le_refl -> WO, zero_le -> WS, lt_of_lt_of_le -> WZ, ne_of_lt -> XM, lt_or_ge -> XQ, le_trans -> XR, gcd -> XX, lt_of_le_of_lt -> XY, le_of_lt -> YA, pow_le_pow_right -> YG, add_comm -> ZS, lt_succ_self -> ZV, mod_lt -> aj, gcd_dvd_right -> aq, succ_le_succ -> aw, gcd_dvd_left -> bf, Coprime -> bh, two_mul -> bj, gcd_comm -> cj, gcd_pos_of_pos_right -> cm, mul_le_mul -> dj, log2_lt -> dq, mod_eq_of_lt -> dw, not_lt_zero -> fh, le_succ -> fm, pow_two -> fq, eq_zero_or_pos -> ft, mul_lt_mul'' -> ip, log2 -> iq, lt_log2_self -> ir, exists_eq_add_of_le -> jd, min_eq_left -> jg
open Option renaming map_eq_some_iff -> XE, toList_some -> ao, map_some -> fe, isSome_iff_exists -> ij, bind_eq_some_iff -> jc
open PySem.Str renaming ofString -> XI
open Bool renaming and_eq_true -> XS, false_ne_true -> ZM, not_eq_true' -> dk, false_or -> gj, eq_iff_iff -> jf, or_eq_true -> ji, false_and -> jq, and_false -> jr
open Int renaming toNat_natCast -> XU, natAbs_mul -> XZ, mul_ediv_cancel_left -> YR, fdiv_eq_ediv_of_nonneg -> YU, ofNat_dvd_left -> YZ, mul_ne_zero -> bz, emod_lt_of_pos -> cy, natAbs_neg -> df, mul_nonneg -> dh, fmod_eq_emod_of_nonneg -> fz, mul_neg_of_neg_of_pos -> ie, lt_or_le -> ik, mul_fdiv_cancel_left -> iw, zero_add -> ja, emod_nonneg -> jh, mul_le_mul -> jv
open PySem.Value renaming ref -> YB, str -> ae, none -> de, type -> jw
open Or renaming inl -> YD, inr -> YQ
open PySem.Obj renaming mapSeq -> af
open PySem.Txt renaming mul -> eh, join -> iu
open Array renaming length_toList -> fj, toList -> ig, getElem?_toList -> jt
open PyProof.Rows renaming assignInOrder_cons -> oh, AllBare -> pg, envOfC -> ph, assignInOrder_nil -> rf
open PySem renaming Addr -> jz, wpAny_bind -> kc, Program -> kg, wpAny -> kh, Stmt -> ki, model -> km, World -> ko, wpAny_pure -> kq, mainGlobals -> kr, sizeLine -> ky, foldedSetIterable -> lh, eval -> lq, behindInMarks -> ma, starEach -> md, FuncData -> mf, assignEach -> mh, attributeBase -> mj, compareOp -> ml, wpAny_newObj_type -> mq, binaryOp -> mr, wpAny_truthy_bool -> mw, swapsWith -> my, swapsWithSole -> mz, swappedStores -> ni, wpAny_field -> nj, wpAny_mono -> nq, bootBuiltins -> og, wpAny_pyIter_tuple -> oi, wpAny_passesOwn -> oj, holding -> oq, wpAny_call_entry -> oy, wpAny_holding -> pe, letOwnedTupleGo -> pf, sysModules -> pj, bindName -> qd, assign -> qf, wpAny_standAt -> qg, getItem -> qh, sliceBounds -> qi, Scope -> qk, wpAny_setField_rec -> qm, wpAny_bindName -> qo, cLine -> qp, wpAny_seqItems -> qq, backTo -> qr, subscripted -> qt, assignInOrder -> qu, IsZip -> qw, codeAny -> qx, wpAny_execs_nil -> qy, wpAny_Call_Name_kw -> qz, wpAny_rule -> rg, call_meets -> rh, callerA -> rk, codeAny_mono -> rn
open Option renaming some -> oZ
set_option hygiene false in
local macro_rules|`(~~~$x)=>`($x P w K mg base)
local macro_rules|`(↑$x)=>`(some (.p (.int $x)))
local macro_rules|`(↥$x)=>`(some (.o false $x))
local macro_rules|`(⇑$x)=>`(some (.p $x))
local macro_rules|`(⋯)=>`(by lia)
local macro_rules|`(∅)=>`(by decide)
theorem oY{p:Prop}[Decidable p](h:p):decide p=true:=decide_eq_true h
theorem oX{p:Prop}[Decidable p](h:¬p):decide p=false:=decide_eq_false h
theorem oV{c:Prop}{_:Decidable c}(h:c){α:Sort u}{t e:α}:ite c t e=t:=if_pos h
theorem oW{c:Prop}{_:Decidable c}(h:¬c){α:Sort u}{t e:α}:ite c t e=e:=if_neg h
open PySem renaming Value -> oA, Shared -> oB, Expr -> oC, Around -> oD, Heap -> oE
namespace L2
open PySem PySem.Spec PyProof.Rows
abbrev Key:=Sum Int Str
def zN:Key->oA->Bool
 |.inl k,v=>Value.isInt k v
 |.inr x,v=>Value.isStrOf x v
def TB(w:ko):Key->Int
 |.inl k=>hashInt k
 |.inr x=>hashStr w x
theorem dC:∀{k:Key}{v:oA},zN k v=true->(∃i t,k=Sum.inl i/\v=Value.int i t)\/(∃x t,k=Sum.inr x/\v=ae x t)
 |.inl i,v,h=>by
  obtain⟨t,e⟩:=Value.isInt_shape (k:=i) (v:=v) h;exact .inl ⟨i,t,rfl,e⟩
 |.inr x,v,h=>by
  obtain⟨t,e⟩:=Value.isStrOf_shape (x:=x) (v:=v) h;exact .inr ⟨x,t,rfl,e⟩
theorem Vr(i:Int)(t:Tok):zN (.inl i) (.int i t)=true:=by simp[zN,Value.isInt]
theorem Vs(x:Str)(t:Tok):zN (.inr x) (.str x t)=true:=by simp[zN,Value.isStrOf]
theorem GL(a b:Int):decide ((Sum.inl a:Key)=Sum.inl b)=(a==b):=by
 by_cases e:a=b
 ·subst e;simp
 ·have h:¬(Sum.inl a:Key)=Sum.inl b:=λq=>e (Sum.inl.inj q);rw[oX h];exact(beq_eq_false_iff_ne.mpr e).symm
theorem GP(a b:Str):decide ((Sum.inr a:Key)=Sum.inr b)=decide (a=b):=by
 by_cases e:a=b
 ·subst e;simp
 ·have h:¬(Sum.inr a:Key)=Sum.inr b:=λq=>e (Sum.inr.inj q);rw[oX h,oX e]
theorem GN(a:Int)(b:Str):decide ((Sum.inl a:Key)=Sum.inr b)=false:=oX (λq=>nomatch q)
theorem GO(a:Str)(b:Int):decide ((Sum.inr a:Key)=Sum.inl b)=false:=oX (λq=>nomatch q)
def dM(prog:kg)(w:ko):PySem.KeyKind prog w Key where
 is:=zN
 hash:=TB w
 inj:=λv a b ha hb=>by
  obtain⟨i,t,rfl,rfl⟩|⟨x,t,rfl,rfl⟩:=dC ha
  ·obtain⟨j,u,rfl,e⟩|⟨y,u,rfl,e⟩:=dC hb
   ·injection e with e1 _;rw[e1]
   ·exact nomatch e
  ·obtain⟨j,u,rfl,e⟩|⟨y,u,rfl,e⟩:=dC hb
   ·exact nomatch e
   ·injection e with e1 _;rw[e1]
 byValue:=λk v h=>by
  rcases dC h with⟨i,t,rfl,rfl⟩|⟨x,t,rfl,rfl⟩<;>rfl
 pyHash:=λhv h=>by
  obtain⟨i,t,rfl,rfl⟩|⟨x,t,rfl,rfl⟩:=dC hv
  ·exact wpAny_pyHash_int h
  ·exact wpAny_pyHash_str h
 eqBool:=λhu hv h=>by
  obtain⟨i,t,rfl,rfl⟩|⟨x,t,rfl,rfl⟩:=dC hu
  ·obtain⟨j,u,rfl,rfl⟩|⟨y,u,rfl,rfl⟩:=dC hv
   ·rw[GL]at h;exact wpAny_eqBool_int h
   ·rw[GN]at h;exact SeqAt.EqAt.int_str i t y u _ _ _ _ h
  ·obtain⟨j,u,rfl,rfl⟩|⟨y,u,rfl,rfl⟩:=dC hv
   ·rw[GO]at h;exact SeqAt.EqAt.str_int x t j u _ _ _ _ h
   ·rw[GP]at h;exact wpAny_eqBool_str h
 «strs»:=λk x t v h=>by
  obtain⟨i,u,rfl,e⟩|⟨y,u,rfl,e⟩:=dC h
  ·exact nomatch e
  ·injection e with e1 _;subst e1;cases v<;>rfl
theorem Kf(prog:kg)(w:ko)(i:Int)(t:Tok):(dM prog w).is (.inl i) (.int i t)=true:=Vr i t
theorem fL(prog:kg)(w:ko)(x:Str)(t:Tok):(dM prog w).is (.inr x) (.str x t)=true:=Vs x t
inductive V where
 |non|bl (b:Bool)|int (i:Int)|str (x:Str)|byt (b:Array UInt8)|flt (b:UInt64)|ref (a:jz)|ty (n:String)
 deriving DecidableEq
def bS:V->oA->Prop
 |.non,u=>u=de
 |.bl b,u=>u=Value.bool b
 |.int i,u=>∃t,u=Value.int i t
 |.str x,u=>∃t,u=ae x t
 |.byt b,u=>∃t,u=Value.bytes b t
 |.flt b,u=>∃t,u=Value.float b t
 |.ref a,u=>u=YB a
 |.ty n,u=>u=jw n
abbrev bI:List V->List oA->Prop:=Paired bS
theorem bI.length(r:bI xs us):xs.length=us.length:=Paired.length r
theorem bI.get:∀{xs:List V}{us:List oA}{i:Nat}{x:V},bI xs us->xs[i]?=oZ x->∃u,us[i]?=oZ u/\bS x u
 |_,_,_,_,.nil,e=>by simp at e
 |_,_,0,_,.cons r _,e=>by simp at e;subst e;exact⟨_,rfl,r⟩
 |_,_,i+1,x,.cons _ t,e=>by
  obtain⟨u,h1,h2⟩:=bI.get (i:=i) (x:=x) t (by simpa using e);exact⟨u,by simpa using h1,h2⟩
theorem bI.set(r:bS x u):∀{xs:List V}{us:List oA}(i:Nat),bI xs us->bI (xs.set i x) (us.set i u)
 |_,_,_,.nil=>.nil
 |_,_,0,.cons _ t=>.cons r t
 |_,_,i+1,.cons q t=>.cons q (bI.set r i t)
theorem bI.append:∀{xs ys:List V}{us ws:List oA},bI xs us->bI ys ws->bI (xs++ys) (us++ws):=by
 intro xs ys us ws h s
 induction h with
 |nil=>exact s
 |cons r t ih=>exact .cons r ih
theorem bI.take:∀{xs:List V}{us:List oA}(n:Nat),bI xs us->bI (xs.take n) (us.take n)
 |_,_,0,_=>.nil
 |_,_,_+1,.nil=>.nil
 |_,_,n+1,.cons r t=>.cons r (bI.take n t)
theorem bI.drop:∀{xs:List V}{us:List oA}(n:Nat),bI xs us->bI (xs.drop n) (us.drop n)
 |_,_,0,r=>r
 |_,_,_+1,.nil=>.nil
 |_,_,n+1,.cons _ t=>bI.drop n t
def Bh:Option V->Option oA->Prop
 |some v,oZ u=>bS v u
 |none,none=>True
 |_,_=>False
def KV{κ:Type}:List (κ×V)->List (κ×oA)->Prop:=Paired λ(p:κ×V)(q:κ×oA)=>p.1=q.1/\bS p.2 q.2
def kV:Key->V
 |.inl i=>.int i
 |.inr x=>.str x
inductive HO where
 |lst (xs:List V)
 |tup (xs:List V)
 |dK (so:List (Key×V))|dT (so:List (List Key×V))
 |set (S:Int->Bool) (n:Nat)
 |ins (C dx:jz) (fs:List (Str×V))
 |own (x:jz)
 |xd (fs:List (Str×V))
 |met (f x:jz)
 |rng (lo hi:Int)
 |frz (o:Obj) (u:HO)
 |tbl (ps:Array oA)
 |ext (φ:oE->Prop)
abbrev Hp:=jz->Option HO
def upd(H:Hp)(a:jz)(o:HO):Hp:=λb=>if b=a then oZ o else H b
theorem cZ:upd H a o a=oZ o:=by unfold upd;rw[oV rfl]
theorem bH(h:b≠a):upd H a o b=H b:=by unfold upd;rw[oW h]
theorem BE:upd (upd H a o) a u=upd H a u:=by
 funext b;unfold upd;split<;>rfl
theorem bB{H:Hp}(h:H a=oZ o)(h':H b=none):a≠b:=by
 intro e;subst e;rw[h]at h';cases h'
section
variable(P:kg)(w:ko)
def eD(H:Hp)(h:oE)(a:jz):HO->Prop
 |.lst xs=>xs.length<=ky/\∃(sf:List oA)(n:Nat),bI xs sf/\h.get? a=oZ { cls:=.type "list",data:=.seq sf.toArray n }
 |.tup xs=>xs.length<=ky/\∃sf:List oA,bI xs sf/\IsTup h a sf.toArray
 |.dK so=>so.length<=ky/\(a==pj)=false/\∃vs,KV so vs/\h.DictOf (dM P w) a vs
 |.dT so=>so.length<=ky/\(a==pj)=false/\∃xs:List (List Key×jz×oA),
   Paired (λ(p:List Key×V)(q:List Key×jz×oA)=>p.1=q.1/\H q.2.1=oZ (.tup (p.1.map kV))/\bS p.2 q.2.2) so xs/\
   ∃o es ep,h.get? a=oZ o/\o.ExactDict/\o.data = .dict es ep/\es.toList=xs.map (entryOfKey (tupleKind (dM P w)))/\(xs.map (·.1)).Nodup
 |.set S n=>h.SetOf (intKind P w) a S n
 |.ins C dx fs=>H dx=oZ (.own a)/\fs.length<=1000/\dx≠a/\h.get? a=oZ (W.instObj C dx)/\
   ∃mA,h.Ns1 dx mA/\(∀f,Bh (fs.lookup f) (mA f))/\PySem.Within mA (fs.map (·.1))
 |.own _=>∃o,h.get? a=oZ o
 |.xd fs=>∃mA,h.Ns1 a mA/\∀f,Bh (fs.lookup f) (mA f)
 |.rng lo hi=>∃t u v,h.get? a=oZ { cls:=.type "range",data:=.fields #[.int lo t,.int hi u,.int 1 v] }
 |.frz o u=>h.get? a=oZ o/\eD H h a u
 |.tbl ps=>h.get? a=oZ { cls:=.none,data:=.fields ps }
 |.met f x=>h.get? a=oZ (W.methodObj (.ref f) (.ref x))
 |.ext φ=>φ h/\(∃o,h.get? a=oZ o)/\∀h1 h2:oE,φ h1->(∀o,h1.get? a=oZ o->h2.get? a=oZ o)->φ h2
def rK(H:Hp)(h:oE):Prop:=∀a o,H a=oZ o->eD P w H h a o
end
theorem eD.lt(x:eD P w H h a o):a<h.objs.size:=by
 cases o with
 |lst xs=>obtain⟨_,_,_,_,e⟩:=x;exact WR e
 |tup xs=>obtain⟨_,_,_,p⟩:=x;exact p.lt
 |dK so=>obtain⟨_,_,_,_,o,_,_,e,_⟩:=x;exact WR e
 |dT so=>obtain⟨_,_,_,_,o,_,_,e,_⟩:=x;exact WR e
 |set S n=>obtain⟨o,_,_,_,e,_⟩:=x;exact WR e
 |ins C dx fs=>obtain⟨_,_,_,e,_⟩:=x;exact WR e
 |own y=>obtain⟨_,e⟩:=x;exact WR e
 |xd fs=>obtain⟨_,⟨_,_,_,e,_⟩,_⟩:=x;exact WR e
 |rng lo hi=>obtain⟨_,_,_,e⟩:=x;exact WR e
 |frz ob u=>obtain⟨e,_⟩:=x;exact WR e
 |tbl ps=>exact WR (show h.get? a=oZ _ from x)
 |met f y=>exact WR (show h.get? a=oZ _ from x)
 |ext φ=>obtain⟨_,⟨_,e⟩,_⟩:=x;exact WR e
theorem Paired.mapP{α β:Type}{F G:α->β->Prop}:∀{l₁:List α}{l₂:List β},Paired F l₁ l₂->(∀a b,F a b->G a b)->Paired G l₁ l₂:=by
 intro l₁ l₂ h f
 induction h with
 |nil=>exact .nil
 |cons r t ih=>exact .cons (f _ _ r) ih
theorem eD.stay(x:eD P w H h a o)(k:∀b u,(b=a\/H b=oZ (.own a))->h.get? b=oZ u->h'.get? b=oZ u)(ho:∀b,H b=oZ (.own a)->H' b=oZ (.own a))(ht:∀b xs,H b=oZ (.tup xs)->H' b=oZ (.tup xs)):eD P w H' h' a o:=by
 induction o with
 |lst xs=>obtain⟨z,sf,n,r,e⟩:=x;exact⟨z,sf,n,r,k _ _ (.inl rfl) e⟩
 |tup xs=>obtain⟨z,sf,r,ob,e,c⟩:=x;exact⟨z,sf,r,ob,k _ _ (.inl rfl) e,c⟩
 |dK so=>obtain⟨z,y,vs,r,ob,es,ep,e,c⟩:=x;exact⟨z,y,vs,r,ob,es,ep,k _ _ (.inl rfl) e,c⟩
 |dT so=>
  obtain⟨z,y,xs,r,ob,es,ep,e,c⟩:=x;exact⟨z,y,xs,Paired.mapP r λp q z=>⟨z.1,ht _ _ z.2.1,z.2.2⟩,ob,es,ep,k _ _ (.inl rfl) e,c⟩
 |set S n=>obtain⟨ob,es,ep,t,e,c⟩:=x;exact⟨ob,es,ep,t,k _ _ (.inl rfl) e,c⟩
 |ins C dx fs=>
  obtain⟨d,z,ne,e,mA,⟨od,es,ep,e2,c⟩,r⟩:=x;exact⟨ho _ d,z,ne,k _ _ (.inl rfl) e,mA,⟨od,es,ep,k _ _ (.inr d) e2,c⟩,r⟩
 |own y=>obtain⟨ob,e⟩:=x;exact⟨ob,k _ _ (.inl rfl) e⟩
 |xd fs=>obtain⟨mA,⟨od,es,ep,e,c⟩,r⟩:=x;exact⟨mA,⟨od,es,ep,k _ _ (.inl rfl) e,c⟩,r⟩
 |rng lo hi=>obtain⟨t,u,v,e⟩:=x;exact⟨t,u,v,k _ _ (.inl rfl) e⟩
 |frz ob u ih=>obtain⟨e,q⟩:=x;exact⟨k _ _ (.inl rfl) e,ih q⟩
 |tbl ps=>
  have e:h.get? a=oZ { cls:=.none,data:=.fields ps }:=x;show h'.get? a=oZ { cls:=.none,data:=.fields ps };exact k a _ (.inl rfl) e
 |met f y=>
  have e:h.get? a=oZ (W.methodObj (.ref f) (.ref y)):=x;show h'.get? a=oZ (W.methodObj (.ref f) (.ref y));exact k a _ (.inl rfl) e
 |ext φ=>obtain⟨p,⟨o,e⟩,st⟩:=x;exact⟨st _ _ p λo q=>k _ _ (.inl rfl) q,⟨o,k _ _ (.inl rfl) e⟩,st⟩
theorem rK.lt(x:rK P w H h)(e:H a=oZ o):a<h.objs.size:=(x a o e).lt
theorem rK.fresh(x:rK P w H h)(e:h.objs.size<=a):H a=none:=by
 cases q:H a with
 |none=>rfl
 |some u=>exact absurd (WZ (x.lt q) e) (Nat.lt_irrefl _)
theorem rK.kept(x:rK P w H h)(k:∀b u,h.get? b=oZ u->h'.get? b=oZ u):rK P w H h':=λa o e=>
 (x a o e).stay (λb u _ q=>k b u q) (λ_ q=>q) λ_ _ q=>q
theorem rK.laid(x:rK P w H h)(k:∀b u,h.get? b=oZ u->h'.get? b=oZ u)(hp:h.objs.size<=a)(new:eD P w (upd H a o) h' a o):rK P w (upd H a o) h':=λb u e=>by
 have hn:=x.fresh hp
 by_cases hb:b=a
 ·subst hb;rw[cZ]at e;cases e;exact new
 ·rw[bH hb]at e;exact(x b u e).stay (λc v _ q=>k c v q) (λc q=>by rw[bH (bB q hn)];exact q) λc xs q=>by rw[bH (bB q hn)];exact q
def Rd(H:Hp)(a:jz)(u:HO):Prop:=H a=oZ u\/∃o,H a=oZ (.frz o u)
theorem Rd.ok(r:Rd H a u)(x:rK P w H h):eD P w H h a u:=by
 obtain r|⟨o,r⟩:=r
 ·exact x a u r
 ·obtain⟨_,q⟩:=x a _ r;exact q
def KU:Option HO->Prop
 |some (.lst _)=>True
 |some (.dK _)=>True
 |some (.dT _)=>True
 |some (.set _ _)=>True
 |some (.ins _ _ _)=>True
 |some (.ext _)=>True
 |_=>False
theorem rK.write(ok:rK P w H h)(mu:KU (H x))(he:e=x\/H e=oZ (.own x))(k:∀b u,b≠e->h.get? b=oZ u->h'.get? b=oZ u)(heo:∃u,h'.get? e=oZ u)(new:eD P w (upd H x o') h' x o'):rK P w (upd H x o') h':=λb u q=>by
 have aGA:∀c y,H c=oZ (.own y)->c≠x:=λc y r z=>by subst z;rw[r]at mu;exact mu
 have aII:∀c xs,H c=oZ (.tup xs)->c≠x:=λc xs r z=>by subst z;rw[r]at mu;exact mu
 by_cases hb:b=x
 ·subst hb;rw[cZ]at q;cases q;exact new
 ·rw[bH hb]at q
  by_cases hbe:b=e
  ·have q':H b=oZ (.own x):=by
    obtain z|z:=he
    ·exact absurd (hbe.trans z) hb
    ·rw[hbe];exact z
   rw[q]at q';cases q';obtain⟨v,hv⟩:=heo;exact⟨v,by rw[hbe];exact hv⟩
  ·refine(ok b u q).stay (λc v hc r=>k c v ?_ r) (λc r=>by rw[bH (aGA c b r)];exact r) λc xs r=>by rw[bH (aII c xs r)];exact r
   obtain rfl|hc:=hc
   ·exact hbe
   ·rintro rfl;obtain z|z:=he
    ·exact aGA c b hc z
    ·rw[hc]at z;cases z;exact hb rfl
structure Un(fs ex:List jz)(H H':Hp)(h h':oE):Prop where
 keep:∀b o,h.get? b=oZ o->H b=none->b∉fs->b∉ex->h'.get? b=oZ o
 slot:∀b o,h.get? b=oZ o->H b=none->b∈fs->b∉ex->∃sl,h'.get? b=oZ { o with slots:=sl }
 free:∀b o,h.get? b=oZ o->H b=none->b∉ex->H' b=none
 there:∀b o,h.get? b=oZ o->b∉ex->∃o',h'.get? b=oZ o'
 tups:∀b xs,H b=oZ (.tup xs)->H' b=oZ (.tup xs)
 frzs:∀b o u,H b=oZ (.frz o u)->H' b=oZ (.frz o u)
 tbls:∀b ps,H b=oZ (.tbl ps)->∃more,H' b=oZ (.tbl (ps++more))
theorem Un.any(u:Un fs ex H H1 h h1)(q:h.get? b=oZ ob)(n:H b=none)(hx:b∉ex):∃sl,h1.get? b=oZ { ob with slots:=sl }:=by
 by_cases hb:b∈fs
 ·exact u.slot b ob q n hb hx
 ·exact⟨ob.slots,u.keep b ob q n hb hx⟩
theorem Un.kept(k:∀b u,h.get? b=oZ u->h'.get? b=oZ u):Un fs ex H H h h':=
 ⟨λb ob q _ _ _=>k b ob q,λb ob q _ _ _=>⟨ob.slots,k b ob q⟩,λ_ _ _ n _=>n,λb ob q _=>⟨ob,k b ob q⟩,λ_ _ q=>q,λ_ _ _ q=>q,λ_ ps q=>⟨#[],by rw[q];simp⟩⟩
theorem Un.refl:Un fs ex H H h h:=Un.kept λ_ _ q=>q
theorem Un.laid{fs:List jz}{ex:List jz}{H:Hp}{h:oE}{h':oE}{a:jz}{o:HO}(k:∀b u,h.get? b=oZ u->h'.get? b=oZ u)(hp:h.objs.size<=a)(hn:H a=none):Un fs ex H (upd H a o) h h' where
 keep:=λb u q _ _ _=>k b u q
 slot:=λb u q _ _ _=>⟨u.slots,k b u q⟩
 free:=λb u q n _=>by rw[bH (XM (WZ (WR q) hp))];exact n
 there:=λb u q _=>⟨u,k b u q⟩
 tups:=λb xs q=>by rw[bH (bB q hn)];exact q
 frzs:=λb u xs q=>by rw[bH (bB q hn)];exact q
 tbls:=λb ps q=>⟨#[],by rw[bH (bB q hn),q];simp⟩
theorem Un.write(mu:KU (H x))(he:e=x\/H e=oZ (.own x))(k:∀b u,b≠e->h.get? b=oZ u->h'.get? b=oZ u)(heo:∃u,h'.get? e=oZ u):Un fs ex H (upd H x o) h h':=by
 have hx:∀b,H b=none->b≠x:=λb n z=>by subst z;rw[n]at mu;exact mu
 have hb:∀b,H b=none->b≠e:=λb n z=>by
  subst z;obtain r|r:=he
  ·exact hx b n r
  ·rw[n]at r;cases r
 have hm:∀b u,H b=oZ u->¬KU (oZ u)->b≠x:=λb u q nm z=>by subst z;rw[q]at mu;exact nm mu
 refine⟨λb u q n _ _=>k b u (hb b n) q,λb u q n _ _=>⟨u.slots,k b u (hb b n) q⟩,λb u q n _=>by rw[bH (hx b n)];exact n,λb u q _=>?_,
  λb xs q=>by rw[bH (hm b _ q λz=>z)];exact q,λb u xs q=>by rw[bH (hm b _ q λz=>z)];exact q,λb ps q=>⟨#[],by rw[bH (hm b _ q λz=>z),q];simp⟩⟩
 by_cases hbe:b=e
 ·subst hbe;exact heo
 ·exact⟨u,k b u hbe q⟩
def RB(h:oE)(H:Hp):List jz:=(XH h.objs.size).filter λa=>(H a).isSome
def Gb(h:oE)(H:Hp):oE:=W.hideAll h (RB h H)
theorem Vo(h:oE)(H:Hp):(Gb h H).objs.size=h.objs.size:=W.hideAll_size _ _
theorem Zb(e:h.get? b=oZ o)(n:H b=none):(Gb h H).get? b=oZ o:=
 W.hideAll_get _ e λhm=>by
  have q:(H b).isSome=true:=(br.mp hm).2;rw[n]at q;simp at q
theorem W2(e:(Gb h H).get? b=oZ o):h.get? b=oZ o/\H b=none:=by
 have e':h.get? b=oZ o:=W.of_hideAll (RB h H) e;refine⟨e',?_⟩;cases q:H b with
 |none=>rfl
 |some x=>
  have hm:b∈RB h H:=br.mpr ⟨ZD.mpr (WR e'),by simp[q]⟩;have z:(Gb h H).get? b=none:=W.hideAll_none (RB h H) hm;rw[z]at e;cases e
structure Mod(K:W.Frag)(mg:Str->Option oA)(base:oE):Prop where
 kin:K.In base
 glob:base.Ns kr mg
 blt:∃mb,base.Ns builtinsNs mb/\∀x:Str,x≠"__name__"->mb x=og x
 nolimit:base.NoLimit
structure Cx where
 prog:kg
 w:ko
 K:W.Frag
 mg:Str->Option oA
 base:oE
 A:oD
 N:List Str
 s₀:oB
 H₀:Hp
 env:Env
 outer:List Env
 stack:List Env
 ex:List jz
 fn:Str->Bool
 calm:Bool
 pn:List (jz×Obj)
 xe:oA->oB->Prop
def Ml(l:List Env):List jz:=l.filterMap (·.frame)
abbrev Cx.fs(X:Cx):List jz:=Ml X.outer
def BK(sc:qk)(x:Str):Prop:=sc.names.lookup x=oZ .local\/sc.names.lookup x=oZ .cell\/sc.names.lookup x=oZ .free
def Bg(sc:qk)(x:Str):Prop:=sc.names.lookup x=oZ .local\/sc.names.lookup x=oZ .cell
def RH(env:Env)(h:oE)(m:Str->Option oA)(x:Str)(u:oA):Prop:=
 (env.kindOf x=oZ .local/\m x=oZ u)\/((env.kindOf x=oZ .cell\/env.kindOf x=oZ .free)/\∃c,env.cells.lookup x=oZ c/\h.IsCell c (oZ u))
structure Cx.Ok(X:Cx):Prop where
 mod:Mod X.K X.mg X.base
 kind:X.env.scope.kind = .function
 glob:X.env.globals=kr
 blt:X.env.builtins=builtinsNs
 above:X.s₀.heap.objs.size<=X.env.locals
 inj:∀x y c,X.env.cells.lookup x=oZ c->X.env.cells.lookup y=oZ c->x=y
 has:∀x,(X.env.kindOf x=oZ .cell\/X.env.kindOf x=oZ .free)->∃c,X.env.cells.lookup x=oZ c
 cab:∀x c,X.fn x=true->X.env.cells.lookup x=oZ c->X.s₀.heap.objs.size<=c
 hd:X.calm=true->X.A.handled=none
 frames:X.A.frames=oZ X.stack
 stk:X.stack=X.outer\/(X.stack=X.env::X.outer/\X.env.frame=oZ X.env.locals)
 exf:∀b∈X.ex,b≠X.env.locals/\∀x c,X.env.cells.lookup x=oZ c->c≠b
 bs:∀b o,X.base.get? b=oZ o->X.s₀.heap.get? b=oZ o/\X.H₀ b=none
 bsz:X.base.objs.size<=X.s₀.heap.objs.size
 noex:∀b o,X.base.get? b=oZ o->b∉X.ex
 exfs:∀b∈X.ex,b∉X.fs
 funs:X.s₀.heap.FunFrames X.base X.outer
 frf:∀b∈X.fs,X.H₀ b=none
structure aZ(X:Cx)(pins:List (jz×Obj))(σ:List (Option V))(H:Hp)(s:oB):Prop where
 ok:X.Ok
 os:s.os=X.s₀.os
 bare:pg s.gens
 base:Un X.fs X.ex X.H₀ H X.s₀.heap s.heap
 loc:∃m,s.heap.Ns X.env.locals m/\∀(i:Nat)(x:Str)(v:V),X.N[i]?=oZ x->σ[i]?=oZ (oZ v)->BK X.env.scope x->∃u,bS v u/\RH X.env s.heap m x u
 cell:∀x c,X.env.cells.lookup x=oZ c->∃v,s.heap.IsCell c v
 free:H X.env.locals=none
 freeC:∀x c,X.env.cells.lookup x=oZ c->H c=none
 pin:∀p∈X.pn++pins,s.heap.get? p.1=oZ p.2/\H p.1=none/\p.1≠X.env.locals/\p.1∉X.fs/\∀v,p.2.data≠.cell v
 hok:rK X.prog X.w H s.heap
 len:σ.length=X.N.length
theorem Cx.Ok.nofr{X:Cx}(ok:X.Ok)(e:X.base.get? b=oZ o):b∉X.fs:=λhb=>by
 have:=(ok.funs.mem hb).1;rw[e]at this;cases this
theorem aZ.bs(I:aZ X pins σ H s):∀b o,X.base.get? b=oZ o->s.heap.get? b=oZ o/\H b=none:=λb o e=>
 ⟨I.base.keep b o (I.ok.bs b o e).1 (I.ok.bs b o e).2 (I.ok.nofr e) (I.ok.noex b o e),I.base.free b o (I.ok.bs b o e).1 (I.ok.bs b o e).2 (I.ok.noex b o e)⟩
theorem aZ.bk(I:aZ X pins σ H s):∀b o,X.base.get? b=oZ o->s.heap.get? b=oZ o:=λb o e=>(I.bs b o e).1
theorem aZ.mod(I:aZ X pins σ H s):Mod X.K X.mg X.base:=I.ok.mod
theorem aZ.kIn(I:aZ X pins σ H s):X.K.In s.heap:=I.ok.mod.kin.keeps I.bk
theorem aZ.lt(I:aZ X pins σ H s):X.env.locals<s.heap.objs.size:=let⟨_,hn,_⟩:=I.loc;hn.lt
theorem aZ.sz(I:aZ X pins σ H s):X.s₀.heap.objs.size<=s.heap.objs.size:=XR I.ok.above (YA I.lt)
theorem aZ.nofs(I:aZ X pins σ H s)(h:s.heap.objs.size<=a):a∉X.fs:=λhb=>by
 obtain⟨_,o,ho,_⟩:=I.ok.funs.mem hb;exact absurd (WZ (WR ho) (XR I.sz h)) (Nat.lt_irrefl _)
theorem aZ.cne(I:aZ X pins σ H s):∀x c,X.env.cells.lookup x=oZ c->c≠X.env.locals:=λx c e z=>by
 obtain⟨v,o,ho,hd⟩:=I.cell x c e;obtain⟨m,⟨o',es,ep,ho',hd',_⟩,_⟩:=I.loc;rw[z,ho']at ho;cases ho;rw[hd']at hd;cases hd
theorem aZ.funs(I:aZ X pins σ H s):s.heap.FunFrames X.base X.outer:=by
 have all:∀(l:List Env),(∀b∈Ml l,b∈X.fs)->X.s₀.heap.FunFrames X.base l->s.heap.FunFrames X.base l:=by
  intro l
  induction l with
  |nil=>intro _ _;trivial
  |cons env r ih=>
   intro hs hl;obtain⟨hk,⟨L,o,hf,hn,ho,hd⟩,hr⟩:=hl;have hL:L∈X.fs:=hs L (by unfold Ml;rw[fi,hf];exact WW);obtain⟨sl,e⟩:=I.base.slot L o ho (I.ok.frf L hL) hL λz=>I.ok.exfs L z hL;exact⟨hk,⟨L,_,hf,hn,e,hd⟩,ih (λb hb=>hs b (by unfold Ml;rw[fi,hf];exact WQ _ hb)) hr⟩
 exact all X.outer (λ_ hb=>hb) I.ok.funs
theorem aZ.stack(I:aZ X pins σ H s):s.heap.FunFrames X.base X.stack:=by
 obtain e|⟨e,hf⟩:=I.ok.stk
 ·rw[e];exact I.funs
 ·rw[e];obtain⟨m,hn,_⟩:=I.loc;refine .cons (by rw[I.ok.kind];decide) hf hn ?_ I.funs;exact Heap.get?_none_of_le (XR I.ok.bsz I.ok.above)
theorem aZ.stkSub(I:aZ X pins σ H s):∀b∈Ml X.stack,b∈X.env.locals::X.fs:=λb hb=>by
 obtain e|⟨e,hf⟩:=I.ok.stk
 ·rw[e]at hb;exact WQ _ hb
 ·rw[e]at hb;unfold Ml at hb;rw[fi,hf]at hb;exact hb
theorem aZ.stkFree(I:aZ X pins σ H s):∀b∈Ml X.stack,H b=none:=λb hb=>by
 obtain e|hb:=WM.mp (I.stkSub b hb)
 ·rw[e];exact I.free
 ·obtain⟨_,o,ho,_⟩:=I.ok.funs.mem hb;exact I.base.free b o ho (I.ok.frf b hb) λz=>I.ok.exfs b z hb
theorem aZ.step{X:Cx}{pins:List (jz×Obj)}{σ:List (Option V)}{H:Hp}{H':Hp}{s:oB}{h':oE}{g':Array GenState}{t':Nat}{ch:List jz}(I:aZ X pins σ H s)(hch:∀b∈ch,(b∈X.ex\/X.s₀.heap.objs.size<=b)/\b≠X.env.locals/\(∀x c,X.env.cells.lookup x=oZ c->c≠b)/\∀p∈X.pn++pins,p.1≠b)(keep:∀b o,b≠X.env.locals->b∉X.fs->b∉ch->s.heap.get? b=oZ o->H b=none->h'.get? b=oZ o)(slot:∀b o,b≠X.env.locals->b∈X.fs->b∉ch->s.heap.get? b=oZ o->H b=none->∃sl,h'.get? b=oZ { o with slots:=sl })(free:∀b o,b∉ch->s.heap.get? b=oZ o->H b=none->H' b=none)(there:∀b o,b∉ch->s.heap.get? b=oZ o->∃o',h'.get? b=oZ o')(tups:∀b xs,H b=oZ (.tup xs)->H' b=oZ (.tup xs))(frzs:∀b o u,H b=oZ (.frz o u)->H' b=oZ (.frz o u))(tbls:∀b ps,H b=oZ (.tbl ps)->∃more,H' b=oZ (.tbl (ps++more)))(ns:∀m,s.heap.Ns X.env.locals m->h'.Ns X.env.locals m)(hok:rK X.prog X.w H' h')(hg:pg g'):
  aZ X pins σ H' { s with heap:=h',gens:=g',drawn:=d',toks:=t' }:=by
 have neL:∀b o,X.s₀.heap.get? b=oZ o->b≠X.env.locals:=λb o e=>XM (WZ (WR e) I.ok.above);have neC:∀b o,X.s₀.heap.get? b=oZ o->b∉X.ex->b∉ch:=λb o e hx hb=>by
  rcases(hch b hb).1 with z|z
  ·exact hx z
  ·exact absurd (WZ (WR e) z) (Nat.lt_irrefl _)
 have cellK:∀x c,X.env.cells.lookup x=oZ c->∀v,s.heap.IsCell c v->h'.IsCell c v:=λx c e v zZ=>by
  obtain⟨o,ho,hd⟩:=zZ;have nch:c∉ch:=λz=>(hch c z).2.2.1 x c e rfl
  by_cases hc:c∈X.fs
  ·obtain⟨sl,q⟩:=slot c o (I.cne x c e) hc nch ho (I.freeC x c e);exact⟨_,q,hd⟩
  ·exact⟨o,keep c o (I.cne x c e) hc nch ho (I.freeC x c e),hd⟩
 refine⟨I.ok,I.os,hg,⟨λb o e n hb hx=>?_,λb o e n hb hx=>?_,λb o e n hx=>?_,λb o e hx=>?_,λb xs e=>tups b xs (I.base.tups b xs e),λb o xs e=>frzs b o xs (I.base.frzs b o xs e),λb ps e=>?_⟩,?_,λx c e=>?_,?_,λx c e=>?_,λp hp=>?_,hok,I.len⟩
 ·exact keep b o (neL b o e) hb (neC b o e hx) (I.base.keep b o e n hb hx) (I.base.free b o e n hx)
 ·obtain⟨sl,e1⟩:=I.base.slot b o e n hb hx;obtain⟨sl',e2⟩:=slot b _ (neL b o e) hb (neC b o e hx) e1 (I.base.free b o e n hx);exact⟨sl',e2⟩
 ·obtain⟨o',e1⟩:=I.base.there b o e hx;exact free b o' (neC b o e hx) e1 (I.base.free b o e n hx)
 ·obtain⟨o',e1⟩:=I.base.there b o e hx;exact there b o' (neC b o e hx) e1
 ·obtain⟨m1,e1⟩:=I.base.tbls b ps e;obtain⟨m2,e2⟩:=tbls b _ e1;exact⟨m1++m2,by rw[e2,Array.append_assoc]⟩
 ·obtain⟨m,hn,hl⟩:=I.loc;refine⟨m,ns m hn,λi x v e1 e2 e3=>?_⟩;obtain⟨u,r,l⟩:=hl i x v e1 e2 e3;refine⟨u,r,?_⟩;obtain l|⟨k,c,e,z⟩:=l
  ·exact .inl l
  ·exact .inr ⟨k,c,e,cellK x c e _ z⟩
 ·obtain⟨v,z⟩:=I.cell x c e;exact⟨v,cellK x c e v z⟩
 ·obtain⟨m,⟨o,_,_,ho,_⟩,_⟩:=I.loc;exact free _ o (λz=>(hch _ z).2.1 rfl) ho I.free
 ·obtain⟨v,o,ho,hd⟩:=I.cell x c e;exact free c o (λz=>(hch c z).2.2.1 x c e rfl) ho (I.freeC x c e)
 ·obtain⟨e,n,ne,nf,d⟩:=I.pin p hp;have nch:p.1∉ch:=λz=>(hch p.1 z).2.2.2 p hp rfl;exact⟨keep p.1 p.2 ne nf nch e n,free p.1 p.2 nch e n,ne,nf,d⟩
theorem aZ.un(I:aZ X pins σ H s)(u:Un X.fs [] H H' s.heap h')(hok:rK X.prog X.w H' h'):aZ X pins σ H' { s with heap:=h',toks:=t' }:=by
 obtain⟨m,⟨o,es,ep,ho,r⟩,_⟩:=id I.loc;obtain⟨sl,hL⟩:=u.any ho I.free (by simp);exact I.step (g':=s.gens) (d':=s.drawn) (ch:=[]) (λ_ z=>nomatch z) (λb o _ hb _ e n=>u.keep b o e n hb (by simp)) (λb o _ hb _ e n=>u.slot b o e n hb (by simp)) (λb o _ e n=>u.free b o e n (by simp)) (λb o _ e=>u.there b o e (by simp)) u.tups u.frzs u.tbls (λm' hm=>by
  obtain⟨o',es',ep',ho',r'⟩:=hm;rw[ho]at ho';cases ho';exact⟨_,es',ep',hL,r'⟩) hok I.bare
theorem aZ.call(I:aZ X pins σ H s)(u:Un (Ml X.stack) ch H H' s.heap h')(hok:rK X.prog X.w H' h')(hg:pg g')(hch:∀b∈ch,(b∈X.ex\/X.s₀.heap.objs.size<=b)/\b≠X.env.locals/\(∀x c,X.env.cells.lookup x=oZ c->c≠b)/\∀p∈X.pn++pins,p.1≠b):
  aZ X pins σ H' { s with heap:=h',gens:=g',drawn:=d',toks:=t' }:=by
 obtain⟨m,⟨o,es,ep,ho,r⟩,_⟩:=id I.loc;obtain⟨sl,hL⟩:=u.any ho I.free λz=>(hch _ z).2.1 rfl;exact I.step (ch:=ch) hch (λb o hL hb hc e n=>u.keep b o e n (λz=>(WM.mp (I.stkSub b z)).elim hL hb) hc) (λb o _ _ hc e n=>u.any e n hc) (λb o hc e n=>u.free b o e n hc) (λb o hc e=>u.there b o e hc) u.tups u.frzs u.tbls (λm' hm=>by
  obtain⟨o',es',ep',ho',r'⟩:=hm;rw[ho]at ho';cases ho';exact⟨_,es',ep',hL,r'⟩) hok hg
theorem aZ.turned(I:aZ X pins σ H s)(k:∀b o,b≠it->s.heap.get? b=oZ o->h'.get? b=oZ o)(hn:H it=none)(hL:it≠X.env.locals)(h1:it∈X.ex\/X.s₀.heap.objs.size<=it)(h2:∀x c,X.env.cells.lookup x=oZ c->c≠it)(h3:∀p∈X.pn++pins,p.1≠it):aZ X pins σ H { s with heap:=h',toks:=t' }:=by
 have nit:∀b u,H b=oZ u->b≠it:=λb u e z=>by rw[z,hn]at e;cases e
 refine I.step (g':=s.gens) (d':=s.drawn) (ch:=[it]) (λb hb=>?_) (λb o _ _ hc e _=>k b o (λz=>hc (by simp[z])) e) (λb o _ _ hc e _=>⟨o.slots,k b o (λz=>hc (by simp[z])) e⟩) (λ_ _ _ _ n=>n)
  (λb o hc e=>⟨o,k b o (λz=>hc (by simp[z])) e⟩) (λ_ _ e=>e) (λ_ _ _ e=>e) (λb ps e=>⟨#[],by rw[e];simp⟩) (λm hm=>?_) (λb u e=>?_) I.bare
 ·have e:b=it:=by simpa using hb
  subst e;exact⟨h1,hL,h2,h3⟩
 ·obtain⟨o,es,ep,ho,r⟩:=hm;exact⟨o,es,ep,k _ o (Ne.symm hL) ho,r⟩
 ·refine(I.hok b u e).stay (λc v hc q=>k c v ?_ q) (λ_ q=>q) λ_ _ q=>q;obtain z|z:=hc
  ·rw[z];exact nit b u e
  ·exact nit c _ z
theorem aZ.tok(I:aZ X pins σ H s)(t:Nat):aZ X pins σ H { s with toks:=t }:=I.un (h':=s.heap) (t':=t) Un.refl I.hok
theorem aZ.kept(I:aZ X pins σ H s)(k:∀b u,s.heap.get? b=oZ u->h'.get? b=oZ u):aZ X pins σ H { s with heap:=h',toks:=t' }:=I.un (Un.kept k) (I.hok.kept k)
theorem aZ.laid(I:aZ X pins σ H s)(k:∀b u,s.heap.get? b=oZ u->h'.get? b=oZ u)(hp:s.heap.objs.size<=a)(new:eD X.prog X.w (upd H a o) h' a o):
  aZ X pins σ (upd H a o) { s with heap:=h',toks:=t' }:=I.un (Un.laid k hp (I.hok.fresh hp)) (I.hok.laid k hp new)
theorem aZ.write(I:aZ X pins σ H s)(mu:KU (H x))(he:e=x\/H e=oZ (.own x))(k:∀b u,b≠e->s.heap.get? b=oZ u->h'.get? b=oZ u)(heo:∃u,h'.get? e=oZ u)(new:eD X.prog X.w (upd H x o) h' x o):aZ X pins σ (upd H x o) { s with heap:=h',toks:=t' }:=I.un (Un.write mu he k heo) (I.hok.write mu he k heo new)
theorem aZ.pins_of(I:aZ X pins σ H s)(h:∀p∈pins',s.heap.get? p.1=oZ p.2/\H p.1=none/\p.1≠X.env.locals/\p.1∉X.fs/\∀v,p.2.data≠.cell v):aZ X pins' σ H s:=
 ⟨I.ok,I.os,I.bare,I.base,I.loc,I.cell,I.free,I.freeC,λp hp=>(XF.mp hp).elim (λz=>I.pin p (YL _ z)) (h p),I.hok,I.len⟩
theorem Km{N:List Str}(hN:N.Nodup){i j:Nat}{x:Str}(a:N[i]?=oZ x)(b:N[j]?=oZ x):i=j:=by
 obtain⟨h1,e1⟩:=WE.mp a;obtain⟨h2,e2⟩:=WE.mp b;exact(List.getElem_inj hN).mp (e1.trans e2.symm)
theorem Dy{E:oA->oB->Prop}{Q:Unit->oB->Prop}(I:aZ X pins σ H s)(hN:X.N.Nodup)(hi:X.N[i]?=oZ x)(hx:Bg X.env.scope x)(r:bS v u)(h:∀s',aZ X pins (σ.set i (oZ v)) H s'->(∃a,cg a s.heap s'.heap/\(a=X.env.locals\/X.env.cells.lookup x=oZ a))->Q () s')(hf:X.fn x=true\/X.env.scope.names.lookup x=oZ .local:=by first|exact .inl rfl|exact .inr rfl|assumption):kh M A (storeName X.env x u) Q E s:=by
 obtain⟨m,hn,hl⟩:=id I.loc;have aIL:(X.env.scope.kind==.class||(X.env.scope.kind==.module&&X.env.locals != X.env.globals))=false:=by rw[I.ok.kind];rfl
 have hiσ:i<σ.length:=by rw[I.len];exact(WE.mp hi).1
 have cne:=I.cne;have tracked:∀{a:jz}{h':oE},(∃o,s.heap.get? a=oZ o/\H a=none)->cg a s.heap h'->rK X.prog X.w H h':=λ{a h'}ha hs b ob e=>by
  obtain⟨_,_,aEI⟩:=ha;refine(I.hok b ob e).stay (λc w' hc q=>(hs.2 c ?_).trans q) (λ_ q=>q) λ_ _ q=>q;rintro rfl;obtain rfl|hc:=hc
  ·rw[aEI]at e;cases e
  ·rw[aEI]at hc;cases hc
 obtain hk|hk:=hx
 ·refine wpAny_storeName_local hk hn (λh' hn' hs=>?_) aIL;obtain⟨oL,_,_,hoL,_⟩:=id hn;refine h _ ⟨I.ok,I.os,I.bare,⟨λb o e n hb hx=>?_,λb o e n hb hx=>?_,I.base.free,λb o e hx=>?_,I.base.tups,I.base.frzs,I.base.tbls⟩,⟨_,hn',λj y v' e1 e2 e3=>?_⟩,λy c e=>?_,I.free,I.freeC,λp hp=>?_,tracked ⟨oL,hoL,I.free⟩ hs,by simpa using I.len⟩ ⟨_,hs,.inl rfl⟩
  ·exact(hs.2 b (XM (WZ (WR e) I.ok.above))).trans (I.base.keep b o e n hb hx)
  ·obtain⟨sl,e1⟩:=I.base.slot b o e n hb hx;exact⟨sl,(hs.2 b (XM (WZ (WR e) I.ok.above))).trans e1⟩
  ·obtain⟨o',e1⟩:=I.base.there b o e hx;exact⟨o',(hs.2 b (XM (WZ (WR e) I.ok.above))).trans e1⟩
  ·by_cases hj:j=i
   ·subst hj;rw[hi]at e1;cases e1;rw[XN hiσ]at e2;cases e2;exact⟨u,r,.inl ⟨hk,by simp⟩⟩
   ·rw[XD (Ne.symm hj)]at e2;obtain⟨u',r',q⟩:=hl j y v' e1 e2 e3;refine⟨u',r',?_⟩;obtain⟨k,e⟩|⟨k,c,e,z⟩:=q
    ·refine .inl ⟨k,?_⟩;have:y≠x:=λe=>hj (Km hN e1 (e ▸ hi));simp[this,e]
    ·exact .inr ⟨k,c,e,z.sameBut hs (cne y c e)⟩
  ·obtain⟨w',z⟩:=I.cell y c e;exact⟨w',z.sameBut hs (cne y c e)⟩
  ·obtain⟨e,n,ne,nf,d⟩:=I.pin p hp;exact⟨(hs.2 p.1 ne).trans e,n,ne,nf,d⟩
 ·have hfn:X.fn x=true:=by
   obtain z|z:=hf
   ·exact z
   ·rw[z]at hk;cases hk
  obtain⟨c,hc⟩:=I.ok.has x (.inl hk);obtain⟨w',z⟩:=I.cell x c hc;refine wpAny_storeName_cell I.ok.kind hk hc z (λh' zl hs=>?_);obtain⟨oc,hoc,aIM⟩:=id z;refine h { s with heap:=h' } ⟨I.ok,I.os,I.bare,⟨λb o e n hb hx=>?_,λb o e n hb hx=>?_,I.base.free,λb o e hx=>?_,I.base.tups,I.base.frzs,I.base.tbls⟩,⟨m,hn.sameBut hs (Ne.symm (cne x c hc)),λj y v' e1 e2 e3=>?_⟩,λy c' e=>?_,I.free,I.freeC,λp hp=>?_,tracked ⟨oc,hoc,I.freeC x c hc⟩ hs,by simpa using I.len⟩ ⟨c,hs,.inr hc⟩
  ·exact(hs.2 b (XM (WZ (WR e) (I.ok.cab x c hfn hc)))).trans (I.base.keep b o e n hb hx)
  ·obtain⟨sl,e1⟩:=I.base.slot b o e n hb hx;exact⟨sl,(hs.2 b (XM (WZ (WR e) (I.ok.cab x c hfn hc)))).trans e1⟩
  ·obtain⟨o',e1⟩:=I.base.there b o e hx;exact⟨o',(hs.2 b (XM (WZ (WR e) (I.ok.cab x c hfn hc)))).trans e1⟩
  ·by_cases hj:j=i
   ·subst hj;rw[hi]at e1;cases e1;rw[XN hiσ]at e2;cases e2;exact⟨u,r,.inr ⟨.inl hk,c,hc,zl⟩⟩
   ·rw[XD (Ne.symm hj)]at e2;obtain⟨u',r',q⟩:=hl j y v' e1 e2 e3;refine⟨u',r',?_⟩;obtain q|⟨k,c',e,z'⟩:=q
    ·exact .inl q
    ·refine .inr ⟨k,c',e,z'.sameBut hs ?_⟩;rintro rfl;exact hj (Km hN e1 (I.ok.inj _ _ _ e hc ▸ hi))
  ·by_cases hcc:c'=c
   ·subst hcc;exact⟨_,zl⟩
   ·obtain⟨w2,z2⟩:=I.cell y c' e;exact⟨w2,z2.sameBut hs hcc⟩
  ·obtain⟨e,n,ne,nf,d⟩:=I.pin p hp;refine⟨(hs.2 p.1 ?_).trans e,n,ne,nf,d⟩;intro q;rw[q,hoc]at e;have q':oc=p.2:=Option.some.inj e;exact d w' (by rw[<-q'];exact aIM)
theorem jX{E:oA->oB->Prop}{Q:Unit->oB->Prop}(I:aZ X pins σ H s)(hN:X.N.Nodup)(hi:X.N[i]?=oZ x)(hx:Bg X.env.scope x)(r:bS v u)(h:∀s',aZ X pins (σ.set i (oZ v)) H s'->Q () s')(hf:X.fn x=true\/X.env.scope.names.lookup x=oZ .local:=by first|exact .inl rfl|exact .inr rfl|assumption):kh M A (storeName X.env x u) Q E s:=
 Dy I hN hi hx r (λs' I' _=>h s' I') hf
theorem aZ.call'(I:aZ X pins σ H s)(ho:s'.os=s.os)(u:Un (Ml X.stack) ch H H' s.heap s'.heap)(hok:rK X.prog X.w H' s'.heap)(hg:pg s'.gens)(hch:∀b∈ch,(b∈X.ex\/X.s₀.heap.objs.size<=b)/\b≠X.env.locals/\(∀x c,X.env.cells.lookup x=oZ c->c≠b)/\∀p∈X.pn++pins,p.1≠b):aZ X pins σ H' s':=by
 obtain⟨h',g',d',t',o'⟩:=s';have e:o'=s.os:=ho;subst e;exact I.call (g':=g') (t':=t') (d':=d') u hok hg hch
abbrev XK:=oA->Option jz->Hp->Prop
abbrev St:=List (Option V)
abbrev VK:=V->Hp->Prop
abbrev TE:=St->Hp->VK->Prop
abbrev TT:=St->Hp->(Bool->Hp->Prop)->Prop
abbrev TA:=St->Hp->(List V->Hp->Prop)->Prop
structure dD where
 nx:St->Hp->Prop
 rt:VK
 bk:St->Hp->Prop:=λ_ _=>False
 ct:St->Hp->Prop:=λ_ _=>False
abbrev TS:=dD->St->Hp->Prop
def EP(X:Cx)(pins:List (jz×Obj))(σ:St)(Q:VK)(u:oA)(s':oB):Prop:=∃v H',aZ X pins σ H' s'/\bS v u/\Q v H'
def TP(X:Cx)(pins:List (jz×Obj))(σ:St)(Q:Bool->Hp->Prop)(b:Bool)(s':oB):Prop:=∃H',aZ X pins σ H' s'/\Q b H'
def AP(X:Cx)(pins:List (jz×Obj))(σ:St)(Q:List V->Hp->Prop)(us:List oA)(s':oB):Prop:=∃vs H',aZ X pins σ H' s'/\bI vs us/\Q vs H'
def SP(X:Cx)(pins:List (jz×Obj))(D:dD)(f:Flow)(s':oB):Prop:=
 match f with
 |.next=>∃σ' H',aZ X pins σ' H' s'/\D.nx σ' H'
 |.brk=>∃σ' H',aZ X pins σ' H' s'/\D.bk σ' H'
 |.cont=>∃σ' H',aZ X pins σ' H' s'/\D.ct σ' H'
 |.ret u=>∃v σ' H',aZ X pins σ' H' s'/\bS v u/\D.rt v H'
def PE(X:Cx)(e:oC)(t:TE):Prop:=
 ∀(pins:List (jz×Obj))(s:oB)(σ:St)(H:Hp)(Q:VK),aZ X pins σ H s->t σ H Q->kh (km X.prog X.w) X.A (lq e X.env) (EP X pins σ Q) X.xe s
def PT(X:Cx)(e:oC)(t:TT):Prop:=
 ∀(pins:List (jz×Obj))(s:oB)(σ:St)(H:Hp)(Q:Bool->Hp->Prop),aZ X pins σ H s->t σ H Q->kh (km X.prog X.w) X.A (isTrue e X.env (lq e X.env)) (TP X pins σ Q) X.xe s
def PW(X:Cx)(e:oC)(t:TT):Prop:=
 ∀(whole:Sem oA)(pins:List (jz×Obj))(s:oB)(σ:St)(H:Hp)(Q:Bool->Hp->Prop),aZ X pins σ H s->t σ H Q->kh (km X.prog X.w) X.A (isTrue e X.env whole) (TP X pins σ Q) X.xe s
theorem PW.pt(h:PW X e t):PT X e t:=h _
def PA(X:Cx)(es:List oC)(t:TA):Prop:=
 ∀(pos:Pos)(pins:List (jz×Obj))(s:oB)(σ:St)(H:Hp)(Q:List V->Hp->Prop),aZ X pins σ H s->t σ H Q->kh (km X.prog X.w) X.A (spliced (qr pos (md es X.env))) (AP X pins σ Q) X.xe s
def PS(X:Cx)(st:ki)(t:TS):Prop:=
 ∀(pins:List (jz×Obj))(s:oB)(σ:St)(H:Hp)(D:dD),aZ X pins σ H s->t D σ H->kh (km X.prog X.w) X.A (exec st X.env) (SP X pins D) X.xe s
def Qx(X:Cx)(st:List ki)(t:TS):Prop:=
 ∀(pins:List (jz×Obj))(s:oB)(σ:St)(H:Hp)(D:dD),aZ X pins σ H s->t D σ H->kh (km X.prog X.w) X.A (execs st X.env) (SP X pins D) X.xe s
theorem eC{α:Type}{t:Sem α}{Q Q':α->oB->Prop}{M:Model}{A:oD}{E:oA->oB->Prop}{s:oB}(h:kh M A t Q E s)(hQ:∀a s,Q a s->Q' a s):kh M A t Q' E s:=nq h hQ λ_ _ x=>x
section
variable{X:Cx}
def Cd(i:Nat):TE:=λσ H Q=>∃v,σ[i]?=oZ (oZ v)/\Q v H
def tC(v:V):TE:=λ_ H Q=>Q v H
theorem vT(hN:X.N[i]?=oZ x)(hv:BK X.env.scope x)(hd:(x==("__debug__":Str))=false:=by decide)(hcd:(x==("__classdict__":Str))=false:=by decide):PE X (.Name x pos) (Cd i):=by
 intro pins s σ H Q I h;obtain⟨v,e,h⟩:=h;obtain⟨m,hn,hl⟩:=I.loc;obtain⟨u,r,l⟩:=hl i x v hN e hv;have fin:EP X pins σ Q u s:=⟨v,H,I,r,h⟩;obtain⟨hk,hm⟩|⟨hk,c,hc,aBH⟩:=l
 ·exact wpAny_Name (wpAny_loadName_local I.ok.kind hk hn hm fin) hd
 ·obtain hk|hk:=hk
  ·exact wpAny_Name (wpAny_loadName_cell I.ok.kind hk hc aBH fin) hd
  ·exact wpAny_Name (wpAny_loadName_free I.ok.kind hk hc aBH fin hcd) hd
theorem HQ{i j pos}:PE X (.Constant (.int i) j pos) (tC (.int i)):=λ_ _ _ H _ I h=>wpAny_Constant_int ⟨.int i,H,I.tok _,⟨_,rfl⟩,h⟩
theorem MU{b j pos}:PE X (.Constant (.bool b) j pos) (tC (.bl b)):=λ_ _ _ H _ I h=>Constant_bool ⟨.bl b,H,I,rfl,h⟩
theorem HS{j pos}:PE X (.Constant .none j pos) (tC .non):=λ_ _ _ H _ I h=>Constant_none ⟨.non,H,I,rfl,h⟩
theorem D4{x j pos}:PE X (.Constant (.str x) j pos) (tC (.str x)):=λ_ _ _ H _ I h=>Calls.Constant_str ⟨.str x,H,I.tok _,⟨_,rfl⟩,h⟩
def Gl(X:Cx)(x:Str):Prop:=X.env.kindOf x=oZ .globalImplicit
theorem Sf{E:oA->oB->Prop}{Q:oA->oB->Prop}(I:aZ X pins σ H s)(hg:Gl X x)(hm:X.mg x=oZ u)(h:Q u s)(hd:(x==("__debug__":Str))=false:=by decide):kh (km X.prog X.w) X.A (lq (.Name x pos) X.env) Q E s:=
 Calls.Name_function_global I.ok.kind hg (Calls.loadGlobal_global (by rw[I.ok.glob];exact I.mod.glob.keeps I.bk) hm h) hd
theorem pV{E:oA->oB->Prop}{Q:oA->oB->Prop}(I:aZ X pins σ H s)(hg:Gl X x)(hm:X.mg x=none)(hv:og x=oZ u)(h:Q u s)(hn:x≠"__name__":=by decide)(hd:(x==("__debug__":Str))=false:=by decide):kh (km X.prog X.w) X.A (lq (.Name x pos) X.env) Q E s:=by
 obtain⟨mb,h1,h2⟩:=I.mod.blt;exact Calls.Name_function_global I.ok.kind hg (Calls.loadGlobal_builtin (by rw[I.ok.glob];exact I.mod.glob.keeps I.bk) hm (by rw[I.ok.blt];exact h1.keeps I.bk) ((h2 x hn).trans hv) h) hd
theorem So(hg:Gl X x)(hm:X.mg x=oZ u)(r:bS v u)(hd:(x==("__debug__":Str))=false:=by decide):PE X (.Name x pos) (tC v):=
 λ_ _ _ H _ I h=>Sf I hg hm ⟨v,H,I,r,h⟩ hd
variable{a b:oC}{ta tb:TE}{pos:Pos}
def PC(X:Cx)(op:CmpOp)(a b:oC)(t:TE):Prop:=
 ∀(pins:List (jz×Obj))(s:oB)(σ:St)(H:Hp)(Q:VK),aZ X pins σ H s->t σ H Q->
  kh (km X.prog X.w) X.A (lq a X.env) (λv s₁=>kh (km X.prog X.w) X.A (lq b X.env) (λu s₂=>kh (km X.prog X.w) X.A (ml op v u) (EP X pins σ Q) X.xe s₂) X.xe s₁) X.xe s
def tB(t:TE):TT:=λσ H Q=>t σ H λx H1=>∃c,x = .bl c/\Q c H1
theorem IH(h:PC X op a b t)(h1:ma op b=false:=by first|exact nobehind _ ∅ ∅|rfl):PT X (.Compare a [op] [b] pos) (tB t):=by
 intro pins s σ H Q I hw;refine wpAny_isTrue_Compare1 (eC (h pins s σ H _ I hw) λv s1 h1=>eC h1 λu s2 h2=>eC h2 λc s3⟨x,H1,I1,r1,q1⟩=>?_) h1;obtain⟨d,rfl,q⟩:=q1;cases r1;exact mw ⟨H1,I1,q⟩
theorem IJ(h:PE X e t)(he:∀whole,isTrue e X.env whole=(do let v <-whole;standAt e.pos;oq [v] (truthy v)):=by intro _;rfl):PT X e (tB t):=by
 intro pins s σ H Q I hw;refine isTrue_plain (eC (h pins s σ H _ I hw) λv s1⟨x,H1,I1,r1,q1⟩=>?_) (he _);obtain⟨d,rfl,q⟩:=q1;cases r1;exact mw ⟨H1,I1,q⟩
variable{tA tB':TT}{rest:List oC}
def OD(t u:TT):TT:=λσ H Q=>t σ H λc H1=>if c=true then u σ H1 Q else Q false H1
def VB(t u:TT):TT:=λσ H Q=>t σ H λc H1=>if c=true then Q true H1 else u σ H1 Q
def OT(t:TT):TT:=λσ H Q=>t σ H λc H1=>Q (!c) H1
theorem Z2(ha:PT X a tA):PW X (.BoolOp .And [a] pos) tA:=by
 intro wh pins s σ H Q I h;refine isTrue_and (eC (ha pins s σ H Q I h) λc s1 e=>?_);cases c with
 |true=>exact isTrue_and_nil e
 |false=>exact e
theorem IM(ha:PT X a tA):PW X (.BoolOp .Or [a] pos) tA:=by
 intro wh pins s σ H Q I h;refine isTrue_or (eC (ha pins s σ H Q I h) λc s1 e=>?_);cases c with
 |false=>exact isTrue_or_nil e
 |true=>exact e
theorem IL(ha:PT X a tA)(hb:PW X (.BoolOp .And (b::rest) pos) tB'):PW X (.BoolOp .And (a::b::rest) pos) (OD tA tB'):=by
 intro wh pins s σ H Q I h;refine isTrue_and (eC (ha pins s σ H _ I h) λc s1 zZ=>?_);obtain⟨H1,I1,q1⟩:=zZ;cases c with
 |true=>exact hb wh pins s1 σ H1 Q I1 q1
 |false=>exact⟨H1,I1,q1⟩
theorem NB(ha:PT X a tA)(hb:PW X (.BoolOp .Or (b::rest) pos) tB'):PW X (.BoolOp .Or (a::b::rest) pos) (VB tA tB'):=by
 intro wh pins s σ H Q I h;refine isTrue_or (eC (ha pins s σ H _ I h) λc s1 zZ=>?_);obtain⟨H1,I1,q1⟩:=zZ;cases c with
 |true=>exact⟨H1,I1,q1⟩
 |false=>exact hb wh pins s1 σ H1 Q I1 q1
theorem II(ha:PT X a tA):PT X (.UnaryOp .Not a pos) (OT tA):=by
 intro pins s σ H Q I h;exact isTrue_not (ha pins s σ H (λc H1=>Q (!c) H1) I h)
def CN(ta tb:TE):TE:=λσ H Q=>ta σ H λx H1=>∃c,x = .bl c/\if c=true then tb σ H1 Q else Q (.bl false) H1
def OU(ta tb:TE):TE:=λσ H Q=>ta σ H λx H1=>∃c,x = .bl c/\if c=true then Q (.bl true) H1 else tb σ H1 Q
def DH(ta:TE):TE:=λσ H Q=>ta σ H λx H1=>∃c,x = .bl c/\Q (.bl (!c)) H1
theorem HV{op}(h:PE X a t):PE X (.BoolOp op [a] pos) t:=λpins s σ H Q I hw=>BoolOp_one (h pins s σ H Q I hw)
theorem HM(ha:PE X a ta)(hb:PE X (.BoolOp .And (b::rest) pos) tb):PE X (.BoolOp .And (a::b::rest) pos) (CN ta tb):=by
 intro pins s σ H Q I h;refine BoolOp_and (eC (ha pins s σ H _ I h) λv s1 zZ=>?_);obtain⟨x,H1,I1,r1,q1⟩:=zZ;obtain⟨c,rfl,q1⟩:=q1;cases r1;refine mw ?_;cases c with
 |true=>exact hb pins s1 σ H1 Q I1 q1
 |false=>exact⟨.bl false,H1,I1,rfl,q1⟩
theorem MY(ha:PE X a ta)(hb:PE X (.BoolOp .Or (b::rest) pos) tb):PE X (.BoolOp .Or (a::b::rest) pos) (OU ta tb):=by
 intro pins s σ H Q I h;refine BoolOp_or (eC (ha pins s σ H _ I h) λv s1 zZ=>?_);obtain⟨x,H1,I1,r1,q1⟩:=zZ;obtain⟨c,rfl,q1⟩:=q1;cases r1;refine mw ?_;cases c with
 |false=>exact hb pins s1 σ H1 Q I1 q1
 |true=>exact⟨.bl true,H1,I1,rfl,q1⟩
theorem HU(ha:PE X a ta):PE X (.UnaryOp .Not a pos) (DH ta):=by
 intro pins s σ H Q I h;refine UnaryOp_ (eC (ha pins s σ H _ I h) λv s1 zZ=>?_);obtain⟨x,H1,I1,r1,q1⟩:=zZ;obtain⟨c,rfl,q1⟩:=q1;cases r1;exact not_of (mw ⟨.bl (!c),H1,I1,rfl,q1⟩)
def UZ(t:TT)(ta tb:TE):TE:=λσ H Q=>t σ H λc H1=>if c=true then ta σ H1 Q else tb σ H1 Q
theorem D0(hc:PT X c tA)(ha:PE X a ta)(hb:PE X b tb):PE X (.IfExp c a b pos) (UZ tA ta tb):=by
 intro pins s σ H Q I h;refine wpAny_IfExp (eC (hc pins s σ H _ I h) λd s1 zZ=>?_);obtain⟨H1,I1,q1⟩:=zZ;cases d with
 |true=>exact ha pins s1 σ H1 Q I1 q1
 |false=>exact hb pins s1 σ H1 Q I1 q1
end
def m7(K:W.Frag)(H:Hp)(a:jz)(xs:List V):Prop:=
 Rd H a (.lst xs)\/
  ∃(o:Obj)(sf:Array oA)(n:Nat),K.lookup a=oZ o/\o.cls = .type "list"/\o.dict=none/\o.data = .seq sf n/\sf.size<=ky/\bI xs sf.toList
def xD(K:W.Frag)(H:Hp)(a:jz)(xs:List V):Prop:=
 Rd H a (.tup xs)\/
  ∃(o:Obj)(sf:Array oA)(n:Nat),K.lookup a=oZ o/\o.cls = .type "tuple"/\o.data = .seq sf n/\sf.size<=ky/\bI xs sf.toList
def RO:oA->Option V
 |.none=>oZ .non
 |.bool b=>oZ (.bl b)
 |.int i _=>oZ (.int i)
 |.str x _=>oZ (.str x)
 |.bytes b _=>oZ (.byt b)
 |.float b _=>oZ (.flt b)
 |.ref a=>oZ (.ref a)
 |.type n=>oZ (.ty n)
 |_=>none
theorem bS.abs(r:bS x u):RO u=oZ x:=by
 cases x with
 |non=>cases r;rfl
 |bl _=>cases r;rfl
 |int _=>obtain⟨t,rfl⟩:=r;rfl
 |str _=>obtain⟨t,rfl⟩:=r;rfl
 |byt _=>obtain⟨t,rfl⟩:=r;rfl
 |flt _=>obtain⟨t,rfl⟩:=r;rfl
 |ref _=>cases r;rfl
 |ty _=>cases r;rfl
theorem bS.inj(r:bS x u)(q:bS y u):x=y:=Option.some.inj (r.abs.symm.trans q.abs)
theorem bI.inj:∀{xs ys:List V}{us:List oA},bI xs us->bI ys us->xs=ys:=by
 intro xs ys us h
 induction h generalizing ys with
 |nil=>intro k;cases k;rfl
 |cons r t ih=>
  intro k;cases k with
  |cons r' t'=>rw[r.inj r',ih t']
theorem m7.of{H:Hp}{a:jz}{xs:List V}{K:W.Frag}(h:H a=oZ (.lst xs)):m7 K H a xs:=.inl (.inl h)
theorem aZ.list(I:aZ X pins σ H s)(h:m7 X.K H a xs):∃sf:List oA,bI xs sf/\PlainL s.heap a sf.toArray/\xs.length<=ky:=by
 obtain h|⟨o,sf,n,hk,hc,hd,hs,hz,r⟩:=h
 ·obtain⟨z,sf,n,r,e⟩:=h.ok I.hok;exact⟨sf,r,⟨_,n,e,rfl,rfl,rfl⟩,z⟩
 ·refine⟨sf.toList,r,⟨o,n,I.kIn a o hk,hc,hd,by simpa using hs⟩,?_⟩;have e:=r.length;simp only[fj]at e
  lia
theorem aZ.tuple(I:aZ X pins σ H s)(h:xD X.K H a xs):∃sf:List oA,bI xs sf/\IsTup s.heap a sf.toArray/\xs.length<=ky:=by
 obtain h|⟨o,sf,n,hk,hc,hs,hz,r⟩:=h
 ·obtain⟨z,sf,r,p⟩:=h.ok I.hok;exact⟨sf,r,p,z⟩
 ·refine⟨sf.toList,r,⟨o,I.kIn a o hk,hc,n,by simpa using hs⟩,?_⟩;have e:=r.length;simp only[fj]at e
  lia
theorem aZ.list_inj(I:aZ X pins σ H s)(h:m7 X.K H a xs)(h':m7 X.K H a ys):xs=ys:=by
 obtain⟨sf,r,⟨o,n,e,_,_,d⟩,_⟩:=I.list h;obtain⟨its',r',⟨o',n',e',_,_,d'⟩,_⟩:=I.list h';rw[e]at e';cases e';rw[d]at d';injection d' with d1 _;have:sf=its':=by simpa using congrArg ig d1
 subst this;exact r.inj r'
theorem aZ.tuple_inj(I:aZ X pins σ H s)(h:xD X.K H a xs)(h':xD X.K H a ys):xs=ys:=by
 obtain⟨sf,r,⟨o,e,_,n,d⟩,_⟩:=I.tuple h;obtain⟨its',r',⟨o',e',_,n',d'⟩,_⟩:=I.tuple h';rw[e]at e';cases e';rw[d]at d';injection d' with d1 _;have:sf=its':=by simpa using congrArg ig d1
 subst this;exact r.inj r'
abbrev Cx.wish(X:Cx)(E:oA->oB->Prop):Cx:={ X with xe:=E }
abbrev Cx.nox(X:Cx):Cx:=X.wish λ_ _=>False
theorem Cx.Ok.wish{X:Cx}(ok:X.Ok)(E:oA->oB->Prop):(X.wish E).Ok:=
 ⟨ok.mod,ok.kind,ok.glob,ok.blt,ok.above,ok.inj,ok.has,ok.cab,ok.hd,ok.frames,ok.stk,ok.exf,ok.bs,ok.bsz,ok.noex,ok.exfs,ok.funs,ok.frf⟩
theorem Cx.Ok.unwish{X:Cx}{E:oA->oB->Prop}(ok:(X.wish E).Ok):X.Ok:=
 ⟨ok.mod,ok.kind,ok.glob,ok.blt,ok.above,ok.inj,ok.has,ok.cab,ok.hd,ok.frames,ok.stk,ok.exf,ok.bs,ok.bsz,ok.noex,ok.exfs,ok.funs,ok.frf⟩
theorem aZ.wish(I:aZ X pins σ H s)(E:oA->oB->Prop):aZ (X.wish E) pins σ H s:=⟨I.ok.wish E,I.os,I.bare,I.base,I.loc,I.cell,I.free,I.freeC,I.pin,I.hok,I.len⟩
theorem aZ.unwish{E:oA->oB->Prop}(I:aZ (X.wish E) pins σ H s):aZ X pins σ H s:=⟨I.ok.unwish,I.os,I.bare,I.base,I.loc,I.cell,I.free,I.freeC,I.pin,I.hok,I.len⟩
theorem SP.unwish{E:oA->oB->Prop}(h:SP (X.wish E) pins D f s'):SP X pins D f s':=by
 cases f with
 |next=>obtain⟨σ',H',I,q⟩:=h;exact⟨σ',H',I.unwish,q⟩
 |brk=>obtain⟨σ',H',I,q⟩:=h;exact⟨σ',H',I.unwish,q⟩
 |cont=>obtain⟨σ',H',I,q⟩:=h;exact⟨σ',H',I.unwish,q⟩
 |ret u=>obtain⟨v,σ',H',I,r,q⟩:=h;exact⟨v,σ',H',I.unwish,r,q⟩
theorem Qx.nox{X:Cx}{st:List ki}(h:Qx X.nox st t):Qx X st t:=λpins s σ H D I hw=>
 nq (h pins s σ H D (I.wish _) hw) (λ_ _ q=>q.unwish) λ_ _ z=>False.elim z
section
variable{X:Cx}{st:ki}{rest:List ki}{t u:TS}{e:oC}{te:TE}{pos:Pos}
def DG:TS:=λD σ H=>D.nx σ H
def OY(t u:TS):TS:=λD σ H=>t { D with nx:=u D } σ H
theorem Z0:Qx X [] DG:=λ_ _ σ H _ I h=>qy ⟨σ,H,I,h⟩
theorem E9(h1:PS X st t)(h2:Qx X rest u):Qx X (st::rest) (OY t u):=by
 intro pins s σ H D I h;refine wpAny_execs_cons (eC (h1 pins s σ H { D with nx:=u D } I h) λf s1 q=>?_);cases f with
 |next=>
  obtain⟨σ',H',I',q⟩:=q;exact h2 pins s1 σ' H' D I' q
 |ret v=>exact q
 |brk=>exact q
 |cont=>exact q
theorem Z1(h1:PS X st t):Qx X [st] t:=by
 intro pins s σ H D I h;refine wpAny_execs_cons (eC (h1 pins s σ H D I h) λf s1 q=>?_);cases f with
 |next=>exact qy q
 |ret v=>exact q
 |brk=>exact q
 |cont=>exact q
theorem aZ.quiet(I:aZ X pins σ H s):interactive X.env=false:=by simp[interactive,I.ok.kind]
def CV(te:TE):TS:=λD σ H=>te σ H λ_ H1=>D.nx σ H1
theorem Y7(he:PE X e te)(hs:my e none pos.line X.env=pure false:=by rfl):PS X (.Expr e pos) (CV te):=by
 intro pins s σ H D I h;exact wpAny_Expr_any (eC (he pins s σ H _ I h) λv s1 zZ=>by obtain⟨x,H1,I1,r1,q1⟩:=zZ;exact⟨σ,H1,I1,q1⟩) I.quiet hs
def OW(te:TE):TS:=λD σ H=>te σ H D.rt
theorem IF(he:PE X e te):PS X (.Return (oZ e) pos) (OW te):=by
 intro pins s σ H D I h;exact wpAny_Return_some (eC (he pins s σ H _ I h) λv s1 zZ=>by obtain⟨x,H1,I1,r1,q1⟩:=zZ;exact⟨x,σ,H1,I1,r1,q1⟩)
def OM(c:TT)(t u:TS):TS:=λD σ H=>c σ H λb H1=>if b=true then t D σ H1 else u D σ H1
theorem NA(hc:PT X c tc)(ha:Qx X a t)(hb:Qx X b u):PS X (.If c a b pos) (OM tc t u):=by
 intro pins s σ H D I h;refine wpAny_If (eC (hc pins s σ H _ I h) λd s1 zZ=>?_);obtain⟨H1,I1,q1⟩:=zZ;cases d with
 |true=>exact ha pins s1 σ H1 D I1 q1
 |false=>exact hb pins s1 σ H1 D I1 q1
end
abbrev TG:=V->St->Hp->(St->Hp->Prop)->Prop
abbrev ED:=List V->St->Hp->(St->Hp->Prop)->Prop
def PG(X:Cx)(target:oC)(t:TG):Prop:=
 ∀(pins:List (jz×Obj))(s:oB)(σ:St)(H:Hp)(v:V)(u:oA)(Q:St->Hp->Prop),aZ X pins σ H s->bS v u->t v σ H Q->
  kh (km X.prog X.w) X.A (qf target X.env u) (λ_ s'=>∃σ' H',aZ X pins σ' H' s'/\Q σ' H') X.xe s
def KY(X:Cx)(ts:List oC)(t:ED):Prop:=
 ∀(pins:List (jz×Obj))(s:oB)(σ:St)(H:Hp)(vs:List V)(us:List oA)(Q:St->Hp->Prop),aZ X pins σ H s->bI vs us->t vs σ H Q->
  kh (km X.prog X.w) X.A (qu ((mh ts X.env).map (·.2)) us) (λ_ s'=>∃σ' H',aZ X pins σ' H' s'/\Q σ' H') X.xe s
abbrev KZ:=V->V->V->Hp->(Hp->Prop)->Prop
def EA(X:Cx)(t:KZ):Prop:=
 ∀(pins:List (jz×Obj))(s:oB)(σ:St)(H:Hp)(o i v:V)(ov iv u:oA)(Q:Hp->Prop),aZ X pins σ H s->bS o ov->bS i iv->bS v u->t o i v H Q->
  kh (km X.prog X.w) X.A (setItem ov iv u) (λ_ s'=>∃H',aZ X pins σ H' s'/\Q H') X.xe s
abbrev RN:=V->V->Hp->VK->Prop
def RM(X:Cx)(op:Operator)(t:RN):Prop:=
 ∀(pins:List (jz×Obj))(s:oB)(σ:St)(H:Hp)(x y:V)(v u:oA)(Q:VK),aZ X pins σ H s->bS x v->bS y u->t x y H Q->
  kh (km X.prog X.w) X.A (inplaceOp op v u) (EP X pins σ Q) X.xe s
def pT(i:Nat):TG:=λv σ H Q=>Q (σ.set i (oZ v)) H
theorem Y2(hN:X.N.Nodup)(hi:X.N[i]?=oZ x)(hx:Bg X.env.scope x)(hf:X.fn x=true\/X.env.scope.names.lookup x=oZ .local:=by first|exact .inl rfl|exact .inr rfl|assumption):PG X (.Name x pos) (pT i):=by
 intro pins s σ H v u Q I r h;exact wpAny_assign_Name (jX I hN hi hx r (λs' I'=>⟨_,H,I',h⟩) hf)
def U2:ED:=λvs σ H Q=>vs=[]/\Q σ H
def Dj(t:TG)(u:ED):ED:=λvs σ H Q=>∃v r,vs=v::r/\t v σ H λσ' H'=>u r σ' H' Q
theorem Y3:KY X [] U2:=by
 intro pins s σ H vs us Q I r h;obtain⟨e,h⟩:=h;subst e;cases r;exact rf ⟨σ,H,I,h⟩
theorem D5(h1:PG X e t)(h2:KY X es u)(hs:(mh (e::es) X.env).map (·.2)=qf e X.env::(mh es X.env).map (·.2):=by rfl):KY X (e::es) (Dj t u):=by
 intro pins s σ H vs us Q I r h;obtain⟨v,vr,e1,h⟩:=h;subst e1;cases r with
 |cons r rr=>
  rw[hs];refine oh (eC (h1 pins s σ H _ _ _ I r h) λ_ s1 zZ=>?_);obtain⟨σ1,H1,I1,q1⟩:=zZ;exact h2 pins s1 σ1 H1 _ _ Q I1 rr q1
def FZ(K:W.Frag)(n:Nat)(t:ED):TG:=λv σ H Q=>∃a xs,v = .ref a/\xD K H a xs/\xs.length=n/\t xs σ H Q
theorem HY(hc:X.calm=true)(h:KY X es t)(hn:(mh es X.env).length=n:=by rfl)(hst:(mh es X.env).findIdx? (·.1)=none:=by rfl):PG X (.Tuple es k pos) (FZ X.K n t):=by
 intro pins s σ H v u Q I r hw;obtain⟨a,xs,e1,hq,hl,hw⟩:=hw;subst e1;cases r;obtain⟨sf,rv,ht,hz⟩:=I.tuple hq;refine assign_Tuple_tuple (I.ok.hd hc) ht (by simp[hn,<-hl,rv.length]) hst λh' hx=>?_;have I1:aZ X pins σ H { s with heap:=h' }:=I.kept (t':=s.toks) λb o e=>hx b o (XM (WR e)) e;exact h pins _ σ H xs _ Q I1 (by simpa using rv) hw
def MA(to ti:TE)(t:KZ):TG:=λv σ H Q=>to σ H λo H1=>ti σ H1 λi H2=>t o i v H2 λH3=>Q σ H3
theorem HX(ho:PE X o to)(hi:PE X i ti)(hs:EA X t)(ha:∀v,qf (.Subscript o i pos) X.env v=(do
   let ov <-oq [v] (lq o X.env)
   let iv <-oq [v,ov] (lq i X.env)
   standAt pos
   oq [v,ov,iv] (setItem ov iv v)
   release [v,ov,iv] []):=by intro _;rfl):PG X (.Subscript o i pos) (MA to ti t):=by
 intro pins s σ H v u Q I r h;rw[ha];refine kc (pe (eC (ho pins s σ H _ I h) λov s1 zZ=>?_));obtain⟨x,H1,I1,r1,q1⟩:=zZ;refine kc (pe (eC (hi pins s1 σ H1 _ I1 q1) λiv s2 zZ=>?_));obtain⟨y,H2,I2,r2,q2⟩:=zZ;refine kc (qg (kc (pe (eC (hs pins s2 σ H2 x y v ov iv u _ I2 r1 r2 r q2) λ_ s3 zZ=>?_))));obtain⟨H3,I3,q3⟩:=zZ;exact wpAny_release ⟨σ,H3,I3,q3⟩
def Qk(te:TE)(g:TG):TS:=λD σ H=>te σ H λx H1=>g x σ H1 D.nx
theorem IB(he:PE X e te)(hg:PG X tg g)(hs:mz [tg] e pos.line X.env=pure false:=by rfl)(hw:ni [tg] e X.env=pure none:=by rfl)(h1:(mh [tg] X.env).map (·.2)=[qf tg X.env]:=by rfl):PS X (.Assign [tg] e pos) (Qk te g):=by
 intro pins s σ H D I h;refine wpAny_Assign_stores (eC (he pins s σ H _ I h) λv s1⟨x,H1,I1,r1,q1⟩=>?_) hs hw;rw[h1];exact eC (hg pins s1 σ H1 x v _ I1 r1 q1) λ_ s2 q=>q
theorem IG(hN:X.N.Nodup)(hi:X.N[i]?=oZ x)(hx:Bg X.env.scope x)(he:PE X e te)(hs:my e (oZ (.Name x pos')) pos.line X.env=pure false:=by rfl)(hf:X.fn x=true\/X.env.scope.names.lookup x=oZ .local:=by first|exact .inl rfl|exact .inr rfl|assumption):
  PS X (.Assign [.Name x pos'] e pos) (Qk te (pT i)):=by
 intro pins s σ H D I h;refine wpAny_Assign_Name (eC (he pins s σ H _ I h) λv s1⟨y,H1,I1,r1,q1⟩=>?_) hs;exact jX I1 hN hi hx r1 (λs2 I2=>⟨_,H1,I2,q1⟩) hf
def OV(i j:Nat)(ta:TA):TS:=λD σ H=>ta σ H λvs H1=>∃v w,vs=[v,w]/\D.nx ((σ.set i (oZ v)).set j (oZ w)) H1
theorem IE{kt k2 pt2}(hc:X.calm=true)(hN:X.N.Nodup)(hi:X.N[i]?=oZ x)(hj:X.N[j]?=oZ y)(hij:i≠j)(hx:X.env.scope.names.lookup x=oZ .local)(hy:X.env.scope.names.lookup y=oZ .local)(ha:PA X [a,b] ta)(hw:ni [.Tuple [.Name x px,.Name y py] kt pt] (.Tuple [a,b] k2 pt2) X.env=pure (oZ [x,y]))(hs:mz [.Tuple [.Name x px,.Name y py] kt pt] (.Tuple [a,b] k2 pt2) pos.line X.env=pure false:=by rfl):
  PS X (.Assign [.Tuple [.Name x px,.Name y py] kt pt] (.Tuple [a,b] k2 pt2) pos) (OV i j ta):=by
 intro pins s σ H D I h;rw[exec_Assign_arm];refine kc (qg ?_);rw[hs];refine kc (kq ?_);rw[oW ∅];refine kc (Tuple_ (eC (ha _ pins s σ H _ I h) λus s1 zZ=>?_));obtain⟨vs,H1,I1,r1,q1⟩:=zZ;obtain⟨v,w,e1,q1⟩:=q1;subst e1;obtain⟨u1,u2,rfl,rv,rw'⟩:∃u1 u2,us=[u1,u2]/\bS v u1/\bS w u2:=by
  cases r1 with
  |cons p q=>
   cases q with
   |cons p' q'=>
    cases q';exact⟨_,_,rfl,p,p'⟩
 refine mq ?_ (by show 2<=ky;decide);have I2:aZ X pins σ H1 { s1 with heap:=s1.heap.push { cls:=.type "tuple",data:=.seq [u1,u2].toArray } }:=I1.kept (t':=s1.toks) λb o e=>WL _ e;rw[hw];refine kc (kq ?_);show kh (km X.prog X.w) X.A (do rule "assign.swapped-stores";let items <-unpackItems (.ref s1.heap.objs.size) 2 none;qu [λv=>qd X.env y v,λv=>qd X.env x v] items.reverse;pure Flow.next) _ _ _;refine kc (rg (kc (unpackItems_tuple (items:=#[u1,u2]) (I.ok.hd hc) (IsTup.new s1.heap _) λh' hx'=>?_)));have I3:=I2.kept (h':=h') (t':=s1.toks) λb o e=>hx' b o (XM (WR e)) e;show kh _ _ (qu [λv=>qd X.env y v,λv=>qd X.env x v] [u2,u1] >>= λ_=>pure Flow.next) _ _ _;refine kc (oh (qo (jX I3 hN hj (.inl hy) rw' (λs2 I4=>?_) (.inr hy))));refine oh (qo (jX I4 hN hi (.inl hx) rv (λs3 I5=>rf (kq ?_)) (.inr hx)));rw[bg _ _ (Ne.symm hij)]at I5;exact⟨_,H1,I5,q1⟩
def UE(i:Nat)(te:TE)(ti:RN):TS:=λD σ H=>∃x,σ[i]?=oZ (oZ x)/\te σ H λy H1=>ti x y H1 λz H2=>D.nx (σ.set i (oZ z)) H2
theorem IC(hN:X.N.Nodup)(hi:X.N[i]?=oZ x)(hx:Bg X.env.scope x)(he:PE X e te)(ho:RM X op ti)(hf:X.fn x=true\/X.env.scope.names.lookup x=oZ .local:=by first|exact .inl rfl|exact .inr rfl|assumption):
  PS X (.AugAssign (.Name x pos') op e pos) (UE i te ti):=by
 intro pins s σ H D I h;obtain⟨v,e1,h⟩:=h;obtain⟨m,hn,hl⟩:=I.loc;have vis:BK X.env.scope x:=by obtain k|k:=hx;exact .inl k;exact .inr (.inl k)
 obtain⟨u,r,l⟩:=hl i x v hi e1 vis;refine wpAny_AugAssign_Name ?_;have go:kh (km X.prog X.w) X.A (lq e X.env) (λw s₂=>kh (km X.prog X.w) X.A (inplaceOp op u w) (λr s₃=>kh (km X.prog X.w) X.A (storeName X.env x r) (λ_=>SP X pins D .next) X.xe s₃) X.xe s₂) X.xe s:=by
  refine eC (he pins s σ H _ I h) λw s1 zZ=>?_;obtain⟨y,H1,I1,r1,q1⟩:=zZ;refine eC (ho pins s1 σ H1 v y u w _ I1 r r1 q1) λz s2 zZ=>?_;obtain⟨zv,H2,I2,r2,q2⟩:=zZ;exact jX I2 hN hi hx r2 (λs3 I3=>⟨_,H2,I3,q2⟩) hf
 obtain⟨hk,hm⟩|⟨hk,c,hc,aBH⟩:=l
 ·exact wpAny_loadName_local I.ok.kind hk hn hm go
 ·obtain hk|hk:=hk
  ·exact wpAny_loadName_cell I.ok.kind hk hc aBH go
  ·obtain k|k:=hx
   ·have:X.env.scope.names.lookup x=oZ .free:=hk;rw[k]at this;cases this
   ·have:X.env.scope.names.lookup x=oZ .free:=hk;rw[k]at this;cases this
def UQ(f:Int->Int->Int):RN:=λx y H Q=>∃i j,x = .int i/\y = .int j/\Q (.int (f i j)) H
theorem Zh:RM X .Add (UQ λi j=>i+j):=by
 intro pins s σ H x y v u Q I r1 r2 h;obtain⟨i,j,e1,e2,q⟩:=h;subst e1;subst e2;obtain⟨t,rfl⟩:=r1;obtain⟨t',rfl⟩:=r2;exact iadd_int ⟨.int _,H,I.tok _,⟨_,rfl⟩,q⟩
def N3(c:TT)(tb:TS):TS:=λD σ H=>∃W:Nat->St->Hp->Prop,(∃m,W m σ H)/\∀m σ H,W m σ H->
 c σ H λb H1=>if b=true then ∃N:St->Hp->Prop,(∀σ' H',N σ' H'->∃m',m'<m/\W m' σ' H')/\tb { D with nx:=N,ct:=N,bk:=D.nx } σ H1 else D.nx σ H1
theorem E8(hp:PassesOwn (km X.prog X.w) X.A X.env X.xe)(hc:PT X c tc)(hb:Qx X body tb):PS X (.While c body [] pos) (N3 tc tb):=by
 intro pins s σ H D I h;obtain⟨W,⟨m0,w0⟩,turn⟩:=h;refine wpAny_While (codeAny_whileLoop (λn s'=>∃σ' H',aZ X pins σ' H' s'/\W n σ' H') ?_ m0 ⟨σ,H,I,w0⟩);rintro n s1 ⟨σ1,H1,I1,w1⟩;refine oj hp (eC (hc pins s1 σ1 H1 _ I1 (turn n σ1 H1 w1)) λb s2 zZ=>?_);obtain⟨H2,I2,q2⟩:=zZ;cases b with
 |true=>
  obtain⟨N,hN,q2⟩:=q2;rw[oV rfl];refine oj hp (eC (hb pins s2 σ1 H2 _ I2 q2) λf s3 q3=>?_);cases f with
  |next=>
   obtain⟨σ3,H3,I3,n3⟩:=q3;obtain⟨m',hm,w3⟩:=hN σ3 H3 n3;exact⟨m',hm,σ3,H3,I3,w3⟩
  |cont=>
   obtain⟨σ3,H3,I3,n3⟩:=q3;obtain⟨m',hm,w3⟩:=hN σ3 H3 n3;exact⟨m',hm,σ3,H3,I3,w3⟩
  |brk=>exact q3
  |ret v=>exact q3
 |false=>
  rw[oW ZM];exact qy ⟨σ1,H2,I2,q2⟩
structure It where
 go:Nat->Hp->Prop
 yld:Nat->Hp->V->Hp->Prop
 stop:Nat->Hp->Prop
def tX(X:Cx)(pins:List (jz×Obj))(H:Hp)(b:jz):Prop:=
 H b=none/\b≠X.env.locals/\b∉X.fs/\(b∈X.ex\/X.s₀.heap.objs.size<=b)/\(∀x c,X.env.cells.lookup x=oZ c->c≠b)/\∀p∈X.pn++pins,p.1≠b
theorem aZ.fpOk(I:aZ X pins σ H s)(hb:s.heap.objs.size<=b)(hn:H' b=none):tX X pins H' b:=by
 refine⟨hn,Nat.ne_of_gt (WZ I.lt hb),I.nofs hb,.inr (XR I.sz hb),λx c e z=>?_,λp hp z=>?_⟩
 ·obtain⟨v,q⟩:=I.cell x c e;exact absurd (WZ q.lt (by rw[z];exact hb)) (Nat.lt_irrefl _)
 ·exact absurd (WZ (WR (I.pin p hp).1) (by rw[z];exact hb)) (Nat.lt_irrefl _)
structure Em(P:kg)(w:ko)(K:W.Frag)(tg:oC)(J:It)(fp:List jz)(it:jz)(tn:Nat->oE->Prop):Prop where
 mem:it∈fp
 obj:∀i h,tn i h->∀b∈fp,∃o,h.get? b=oZ o/\∀v,o.data≠.cell v
 keep:∀i h h',tn i h->(∀b∈fp,∀o,h.get? b=oZ o->h'.get? b=oZ o)->tn i h'
 item:∀(X:Cx),X.prog=P->X.w=w->X.K=K->X.calm=true->∀(i:Nat)(pins:List (jz×Obj))(s:oB)(σ:St)(H:Hp)(E:oA->oB->Prop),aZ X pins σ H s->(∀b∈fp,tX X pins H b)->tn i s.heap->J.go i H->
  kh (km P w) X.A (pyNext (.ref it)) (λr s1=>∃u,r=oZ u/\
   kh (km P w) X.A (pf tg (.ref it) u) (λ_ s2=>∃x H',aZ X pins σ H' s2/\bS x u/\J.yld i H x H'/\tn (i+1) s2.heap/\∀b∈fp,H' b=none) E s1) E s
 done:∀(X:Cx),X.prog=P->X.w=w->X.K=K->X.calm=true->∀(i:Nat)(pins:List (jz×Obj))(s:oB)(σ:St)(H:Hp)(E:oA->oB->Prop),aZ X pins σ H s->(∀b∈fp,tX X pins H b)->tn i s.heap->J.stop i H->
  kh (km P w) X.A (pyNext (.ref it)) (λr s1=>r=none/\aZ X pins σ H s1) E s
 self:∀(A:oD)(i:Nat)(s:oB)(Q:oA->oB->Prop)(E:oA->oB->Prop),tn i s.heap->Q (.ref it) s->kh (km P w) A (pyIter (.ref it)) Q E s
abbrev TI:=St->Hp->(It->Hp->Prop)->Prop
def QN(X:Cx)(pins:List (jz×Obj))(σ:St)(tg:oC)(R:It->Hp->Prop)(itv:oA)(s2:oB):Prop:=
 ∃(it:jz)(fp:List jz)(tn:Nat->oE->Prop)(J:It)(H':Hp),itv = .ref it/\aZ X pins σ H' s2/\Em X.prog X.w X.K tg J fp it tn/\tn 0 s2.heap/\(∀b∈fp,tX X pins H' b)/\R J H'
def PI(X:Cx)(tg iter:oC)(wi:TI):Prop:=
 ∀(pins:List (jz×Obj))(s:oB)(σ:St)(H:Hp)(R:It->Hp->Prop),aZ X pins σ H s->wi σ H R->
  kh (km X.prog X.w) X.A (lq iter X.env) (λv s1=>kh (km X.prog X.w) X.A (pyIter v) (QN X pins σ tg R) X.xe s1) X.xe s
theorem Rz {E:oA->oB->Prop} {Q:Unit->oB->Prop} (ho:s.heap.get? it=oZ o) (hc:o.cls = .type n) (hd:o.data = .fields vs) (hn:["enumerate","zip","dict_itemiterator","dict_reverseitemiterator","odict_iterator","itertools.zip_longest","itertools.pairwise"].contains n=false) (hQ:Q () s):kh M A (pf tg (.ref it) u) Q E s:=by
  unfold pf;cases tg<;>first
    | exact kq hQ
    | (cases u<;>first
        | exact kq hQ
        | (refine kc (wpAny_load ho ?_)
           rw [hc,hd];show kh M A (if (["enumerate","zip","dict_itemiterator","dict_reverseitemiterator","odict_iterator","itertools.zip_longest","itertools.pairwise"].contains n&&vs[0]?==oZ (rawInt _))=true then _ else _) Q E s;rw [oW (by intro h;rw [hn,jq] at h;cases h)];exact kq hQ))
def RF(K:W.Frag)(a:jz):It:=
 ⟨λi H=>∃xs x,m7 K H a xs/\xs[i]?=oZ x,λi H x H'=>H'=H/\∀xs,m7 K H a xs->xs[i]?=oZ x,λi H=>∃xs,m7 K H a xs/\xs.length<=i⟩
def RG(K:W.Frag)(a:jz):It:=
 ⟨λi H=>∃xs x,xD K H a xs/\xs[i]?=oZ x,λi H x H'=>H'=H/\∀xs,xD K H a xs->xs[i]?=oZ x,λi H=>∃xs,xD K H a xs/\xs.length<=i⟩
def JW(lo:Int)(n:Nat):It:=⟨λi _=>i<n,λi H x H'=>H'=H/\x = .int (lo+i),λi _=>n<=i⟩
theorem Xc{P:kg}{w:ko}{K:W.Frag}{tg:oC}(a it:jz):Em P w K tg (RF K a) [it] it (λi h=>h.IsListIter it a i) where
 mem:=by simp
 obj:=λi h st b hb=>by
  have e:b=it:=by simpa using hb
  subst e;obtain⟨o,e,c,d⟩:=st;exact⟨o,e,λv z=>by rw[d]at z;cases z⟩
 keep:=λi h h' st k=>st.at λo e=>k it (by simp) o e
 item:=by
  intro X hP hw hK hc i pins s σ H E I hf st hg;subst hP hw hK;obtain⟨xs,x,hq,hx⟩:=hg;obtain⟨sf,rv,p,hz⟩:=I.list hq;obtain⟨u,hu,ru⟩:=rv.get hx;obtain⟨f0,f1,f2,f3,f4,f5⟩:=hf it (by simp);refine wpAny_pyNext_list_item st p.isList (x:=u) (by simpa using hu) λh' st' sb=>?_;have I1:aZ X pins σ H { s with heap:=h' }:=I.turned (t':=s.toks) (λb o hb e=>(sb.2 b hb).trans e) f0 f1 f3 f4 f5;obtain⟨o,e,c,d⟩:=id st';exact⟨u,rfl,Rz (s:={ s with heap:=h' }) e c d ∅ ⟨x,H,I1,ru,⟨rfl,λys hy=>by rw[I.list_inj hy hq];exact hx⟩,st',λb hb=>(hf b hb).1⟩⟩
 done:=by
  intro X hP hw hK hc i pins s σ H E I hf st hg;subst hP hw hK;obtain⟨xs,hq,hx⟩:=hg;obtain⟨sf,rv,p,hz⟩:=I.list hq;obtain⟨f0,f1,f2,f3,f4,f5⟩:=hf it (by simp);have hl:=rv.length;exact wpAny_pyNext_list_end (I.ok.hd hc) st p.isList (by simp;lia) λh' eb=>⟨rfl,I.turned (t':=s.toks) (λb o hb e=>eb b o hb e) f0 f1 f3 f4 f5⟩
 self:=λ_ _ _ _ _ st h=>wpAny_pyIter_listiter st h
theorem Qp{P:kg}{w:ko}{K:W.Frag}{tg:oC}(a it:jz):Em P w K tg (RG K a) [it] it (λi h=>h.IsTupleIter it a i) where
 mem:=by simp
 obj:=λi h st b hb=>by
  have e:b=it:=by simpa using hb
  subst e;obtain⟨o,e,c,d⟩:=st;exact⟨o,e,λv z=>by rw[d]at z;cases z⟩
 keep:=λi h h' st k=>st.at λo e=>k it (by simp) o e
 item:=by
  intro X hP hw hK hc i pins s σ H E I hf st hg;subst hP hw hK;obtain⟨xs,x,hq,hx⟩:=hg;obtain⟨sf,rv,p,hz⟩:=I.tuple hq;obtain⟨u,hu,ru⟩:=rv.get hx;obtain⟨f0,f1,f2,f3,f4,f5⟩:=hf it (by simp);refine wpAny_pyNext_tuple_item st (show s.heap.IsTuple a sf.toArray from p) (x:=u) (by simpa using hu) λh' st' sb=>?_;have I1:aZ X pins σ H { s with heap:=h' }:=I.turned (t':=s.toks) (λb o hb e=>(sb.2 b hb).trans e) f0 f1 f3 f4 f5;obtain⟨o,e,c,d⟩:=id st';exact⟨u,rfl,Rz (s:={ s with heap:=h' }) e c d ∅ ⟨x,H,I1,ru,⟨rfl,λys hy=>by rw[I.tuple_inj hy hq];exact hx⟩,st',λb hb=>(hf b hb).1⟩⟩
 done:=by
  intro X hP hw hK hc i pins s σ H E I hf st hg;subst hP hw hK;obtain⟨xs,hq,hx⟩:=hg;obtain⟨sf,rv,p,hz⟩:=I.tuple hq;obtain⟨f0,f1,f2,f3,f4,f5⟩:=hf it (by simp);have hl:=rv.length;exact wpAny_pyNext_tuple_end (I.ok.hd hc) st (show s.heap.IsTuple a sf.toArray from p) (by simp;lia) λh' eb=>⟨rfl,I.turned (t':=s.toks) (λb o hb e=>eb b o hb e) f0 f1 f3 f4 f5⟩
 self:=λ_ _ _ _ _ st h=>wpAny_pyIter_tupleiter st h
theorem Qo{P:kg}{w:ko}{K:W.Frag}{tg:oC}(it:jz)(lo:Int)(n:Nat):Em P w K tg (JW lo n) [it] it (λi h=>IsRangeIter h it (lo+(i:Nat)*1) ((n:Int)-(i:Nat)) 1) where
 mem:=by simp
 obj:=λi h st b hb=>by
  have e:b=it:=by simpa using hb
  subst e;exact⟨_,st,λv z=>by
   have z':Data.fields _=Data.cell v:=z;cases z'⟩
 keep:=λi h h' st k=>k it (by simp) _ st
 item:=by
  intro X hP hw hK hc i pins s σ H E I hf st hg;subst hP hw hK;obtain⟨f0,f1,f2,f3,f4,f5⟩:=hf it (by simp);have W:=Walks.range (prog:=X.prog) (w:=X.w) (I.ok.hd hc) it lo 1 n;refine W.item i s _ _ hg st λv h' tk hv st' kk=>?_;obtain⟨t,rfl⟩:=hv;have I1:aZ X pins σ H { s with heap:=h',toks:=tk }:=I.turned (λb o hb e=>kk b o (by simpa using hb) e) f0 f1 f3 f4 f5;refine⟨_,rfl,Rz (s:={ s with heap:=h',toks:=tk }) (n:="range_iterator") st' rfl rfl ∅ ⟨.int (lo+i),H,I1,⟨t,?_⟩,⟨rfl,rfl⟩,st',λb hb=>(hf b hb).1⟩⟩;rw[Int.mul_one]
 done:=by
  intro X hP hw hK hc i pins s σ H E I hf st hg;subst hP hw hK;obtain⟨f0,f1,f2,f3,f4,f5⟩:=hf it (by simp);exact wpAny_pyNext_range_end (I.ok.hd hc) st (by have:n<=i:=hg;lia) λh' eb=>⟨rfl,I.turned (t':=s.toks) (λb o hb e=>eb b o hb e) f0 f1 f3 f4 f5⟩
 self:=λ_ _ _ _ _ st h=>wpAny_pyIter_rangeiter st h
def Ze(K:W.Frag)(tl:TE):TI:=λσ H R=>tl σ H λx H1=>∃a,x = .ref a/\(∃xs,m7 K H1 a xs)/\R (RF K a) H1
def MC(K:W.Frag)(tl:TE):TI:=λσ H R=>tl σ H λx H1=>∃a,x = .ref a/\(∃xs,xD K H1 a xs)/\R (RG K a) H1
theorem Sq(hl:PE X l tl):PI X tg l (Ze X.K tl):=by
 intro pins s σ H R I h;refine eC (hl pins s σ H _ I h) λv s1 zZ=>?_;obtain⟨x,H1,I1,r1,q1⟩:=zZ;obtain⟨a,e,⟨xs,hq⟩,q⟩:=q1;subst e;cases r1;obtain⟨sf,rv,p,hz⟩:=I1.list hq;refine wpAny_pyIter_list p.isList ?_;refine⟨s1.heap.objs.size,[s1.heap.objs.size],_,_,H1,rfl,I1.kept (t':=s1.toks) λb o e=>WL _ e,Xc a _,⟨_,WV _ rfl,rfl,rfl⟩,λb hb=>?_,q⟩;have e:b=s1.heap.objs.size:=by simpa using hb
 subst e;exact I1.fpOk (WO _) (I1.hok.fresh (WO _))
theorem IA(hl:PE X l tl):PI X tg l (MC X.K tl):=by
 intro pins s σ H R I h;refine eC (hl pins s σ H _ I h) λv s1 zZ=>?_;obtain⟨x,H1,I1,r1,q1⟩:=zZ;obtain⟨a,e,⟨xs,hq⟩,q⟩:=q1;subst e;cases r1;obtain⟨sf,rv,p,hz⟩:=I1.tuple hq;refine oi (show s1.heap.IsTuple a sf.toArray from p) ?_;refine⟨s1.heap.objs.size,[s1.heap.objs.size],_,_,H1,rfl,I1.kept (t':=s1.toks) λb o e=>WL _ e,Qp a _,⟨_,WV _ rfl,rfl,rfl⟩,λb hb=>?_,q⟩;have e:b=s1.heap.objs.size:=by simpa using hb
 subst e;exact I1.fpOk (WO _) (I1.hok.fresh (WO _))
theorem Ld{R:It->Hp->Prop}{E:oA->oB->Prop}{lo hi:Int}(I:aZ X pins σ H s)(h1:-(2^62)<=lo)(h2:lo<2^62)(h3:-(2^62)<=hi)(h4:hi<2^62)(q:R (JW lo (hi-lo).toNat) H):kh (km X.prog X.w) X.A (pyIter (.ref s.heap.objs.size)) (QN X pins σ tg R) E { s with heap:=s.heap.push { cls:=.type "range",data:=.fields #[.int lo t,.int hi u,.int 1 v] },toks:=tk }:=by
 refine wpAny_pyIter_range (IsRange.new ..) (small_one h1 h2 h3 h4) ?_;have I1:aZ X pins σ H { s with heap:=s.heap.push { cls:=.type "range",data:=.fields #[.int lo t,.int hi u,.int 1 v] },toks:=tk }:=I.kept λb o e=>WL _ e;refine⟨(s.heap.push { cls:=.type "range",data:=.fields #[.int lo t,.int hi u,.int 1 v] }).objs.size,[(s.heap.push { cls:=.type "range",data:=.fields #[.int lo t,.int hi u,.int 1 v] }).objs.size],_,_,H,rfl,
  I1.kept (t':=tk) λb o e=>WL _ e,Qo _ lo (hi-lo).toNat,?_,λb hb=>?_,q⟩
 ·have e1:lo+((0:Nat):Int)*1=lo:=by simp
  have e2:(((hi-lo).toNat:Nat):Int)-((0:Nat):Int)=Builtin.Range.rangeSize lo hi 1:=by rw[rangeSize_one];split<;>lia
  show IsRangeIter _ _ (lo+((0:Nat):Int)*1) ((((hi-lo).toNat:Nat):Int)-((0:Nat):Int)) 1;rw[e1,e2];exact WV _ rfl
 ·have e:b=(s.heap.push { cls:=.type "range",data:=.fields #[.int lo t,.int hi u,.int 1 v] }).objs.size:=by simpa using hb
  subst e;exact I1.fpOk (WO _) (I1.hok.fresh (WO _))
def BY(ta:TA):TI:=λσ H R=>ta σ H λvs H1=>∃j:Int,vs=[.int j]/\-(2^62)<=j/\j<2^62/\R (JW 0 j.toNat) H1
def BZ(ta:TA):TI:=λσ H R=>ta σ H λvs H1=>∃i j:Int,vs=[.int i,.int j]/\(-(2^62)<=i/\i<2^62/\-(2^62)<=j/\j<2^62)/\R (JW i (j-i).toNat) H1
theorem Wm(hg:Gl X "range")(hm:X.mg "range" = none)(ha:PA X [a] ta)(hs:md [a] X.env=[(false,lq a X.env)]:=by rfl):PI X tg (.Call (.Name "range" p) [a] [] pos) (BY ta):=by
 intro pins s σ H R I h;refine Call_ (pV I hg hm boot_range (PyProof.Rows.callWith_type1 (eC (ha pos pins s σ H _ I h) λus s1⟨vs,H1,I1,r1,q1⟩=>?_) hs rfl));obtain⟨j,e,q1,q2,q⟩:=q1;subst e;cases r1 with
 |cons r rr=>
  cases rr;obtain⟨t,rfl⟩:=r;exact call_range_1 (Ld I1 ⋯ ⋯ q1 q2 (by simpa using q))
theorem Wn(hg:Gl X "range")(hm:X.mg "range" = none)(ha:PA X [a,b] ta)(hs:md [a,b] X.env=[(false,lq a X.env),(false,lq b X.env)]:=by rfl)(hs2:md [b] X.env=[(false,lq b X.env)]:=by rfl):
  PI X tg (.Call (.Name "range" p) [a,b] [] pos) (BZ ta):=by
 intro pins s σ H R I h;refine Call_ (pV I hg hm boot_range (PyProof.Rows.callWith_type1 (eC (ha pos pins s σ H _ I h) λus s1⟨vs,H1,I1,r1,q1⟩=>?_) (by rw[hs,hs2]) (by rw[hs2];rfl)));obtain⟨i,j,e,⟨q1,q2,q3,q4⟩,q⟩:=q1;subst e;cases r1 with
 |cons r rr=>
  cases rr with
  |cons r' rr=>
   cases rr;obtain⟨t,rfl⟩:=r;obtain⟨t',rfl⟩:=r';exact call_range_2 (Ld I1 q1 q2 q3 q4 q)
def OL(wi:TI)(g:TG)(tb:TS):TS:=λD σ H=>wi σ H λJ H1=>∃W:Nat->Nat->St->Hp->Prop,(∃m,W 0 m σ H1)/\∀i m σ H,W i m σ H->
 (J.stop i H/\D.nx σ H)\/(J.go i H/\∃N:St->Hp->Prop,(∀σ' H',N σ' H'->∃m',m'<m/\W (i+1) m' σ' H')/\∀x H',J.yld i H x H'->g x σ H' λσ2 H2=>tb { D with nx:=N,ct:=N,bk:=D.nx } σ2 H2)
def Hg(fp:List jz)(h:oE):List (jz×Obj):=fp.filterMap λb=>(h.get? b).map λo=>(b,o)
theorem jG(hb:b∈fp)(e:h.get? b=oZ o):(b,o)∈Hg fp h:=List.mem_filterMap.mpr ⟨b,hb,by rw[e];rfl⟩
theorem Vw(hp:p∈Hg fp h):p.1∈fp/\h.get? p.1=oZ p.2:=by
 obtain⟨b,hb,e⟩:=List.mem_filterMap.mp hp;cases q:h.get? b with
 |none=>rw[q]at e;cases e
 |some o=>
  rw[q]at e;have e':(b,o)=p:=Option.some.inj e;subst e';exact⟨hb,q⟩
theorem aZ.pinned(I:aZ X pins σ H s)(hf:∀b∈fp,tX X pins H b)(ho:∀b∈fp,∃o,s.heap.get? b=oZ o/\∀v,o.data≠.cell v):aZ X (pins++Hg fp s.heap) σ H s:=
 I.pins_of λp hp=>(XF.mp hp).elim (λz=>I.pin p (XA _ z)) λz=>by
  obtain⟨hb,e⟩:=Vw z;obtain⟨f0,f1,f2,_⟩:=hf p.1 hb;obtain⟨o,e',d⟩:=ho p.1 hb;rw[e]at e';cases e';exact⟨e,f0,f1,f2,d⟩
theorem aZ.unpinned(I:aZ X (pins++pl) σ H s):aZ X pins σ H s:=I.pins_of λp hp=>I.pin p (XA _ (YL _ hp))
theorem ID(hp:PassesOwn (km X.prog X.w) X.A X.env X.xe)(hc:X.calm=true)(hi:PI X tg iter wi)(hg:PG X tg g)(hb:Qx X body tb)(hs:∀x,lh iter X.env x=pure x:=by intro _;rfl):PS X (.For tg iter body [] pos) (OL wi g tb):=by
 intro pins s σ H D I h;refine wpAny_For (eC (hi pins s σ H _ I h) λv s1 h1=>eC h1 λitv s2 h2=>?_) hs;obtain⟨it,fp,tn,J,H2,e,I2,T,st2,f2,W,⟨m0,w0⟩,turn⟩:=h2;subst e
 -- what stays true of the iterator's objects through the loop
 have aCS:∀{H':Hp},(∀b∈fp,H' b=none)->∀b∈fp,tX X pins H' b:=λhn b hb=>⟨hn b hb,(f2 b hb).2⟩;refine codeAny_forLoop_any (λn s'=>∃i σ' H',aZ X pins σ' H' s'/\tn i s'.heap/\(∀b∈fp,H' b=none)/\W i n σ' H') ?_ m0 ⟨0,σ,H2,I2,st2,λb hb=>(f2 b hb).1,w0⟩;rintro n s3 ⟨i,σ3,H3,I3,st3,fr3,w3⟩;obtain⟨stop,qn⟩|⟨go,N,hN,step⟩:=turn i n σ3 H3 w3
 ·refine oj hp (eC (T.done X rfl rfl rfl hc i pins s3 σ3 H3 X.xe I3 (aCS fr3) st3 stop) λr s4 zZ=>?_);obtain⟨hr,I4⟩:=zZ;subst hr;exact qy ⟨σ3,H3,I4,qn⟩
 ·refine oj hp (eC (T.item X rfl rfl rfl hc i pins s3 σ3 H3 X.xe I3 (aCS fr3) st3 go) λr s4 zZ=>?_);obtain⟨u,hr,h4⟩:=zZ;subst hr;refine oj hp (eC h4 λ_ s5 zZ=>?_);obtain⟨x,H5,I5,r5,y5,st5,fr5⟩:=zZ;have I5':=I5.pinned (aCS fr5) (T.obj _ _ st5);refine oj hp (eC (hg _ s5 σ3 H5 x u _ I5' r5 (step x H5 y5)) λ_ s6 zZ=>?_);obtain⟨σ6,H6,I6,q6⟩:=zZ;refine oj hp (eC (hb _ s6 σ6 H6 _ I6 q6) λf s7 q7=>?_);have again:∀{σ7:St}{H7:Hp},aZ X (pins++Hg fp s5.heap) σ7 H7 s7->N σ7 H7->∃m,m<n/\∃i σ' H',aZ X pins σ' H' s7/\tn i s7.heap/\(∀b∈fp,H' b=none)/\W i m σ' H':=λ{σ7 H7}I7 n7=>by
   obtain⟨m',hm,w7⟩:=hN σ7 H7 n7;refine⟨m',hm,i+1,σ7,H7,I7.unpinned,T.keep _ _ _ st5 λb hb o e=>(I7.pin (b,o) (XA _ (XA _ (jG hb e)))).1,λb hb=>?_,w7⟩;obtain⟨o,e,d⟩:=T.obj _ _ st5 b hb;exact(I7.pin (b,o) (XA _ (XA _ (jG hb e)))).2.1
  cases f with
  |next=>obtain⟨σ7,H7,I7,n7⟩:=q7;exact again I7 n7
  |cont=>obtain⟨σ7,H7,I7,n7⟩:=q7;exact again I7 n7
  |brk=>obtain⟨σ7,H7,I7,q7⟩:=q7;exact⟨σ7,H7,I7.unpinned,q7⟩
  |ret v=>obtain⟨x7,σ7,H7,I7,r7,q7⟩:=q7;exact⟨x7,σ7,H7,I7.unpinned,r7,q7⟩
abbrev R2:=V->V->Hp->VK->Prop
def o8(X:Cx)(f:oA->oA->Sem oA)(r:R2):Prop:=
 ∀(pins:List (jz×Obj))(s:oB)(σ:St)(H:Hp)(x y:V)(v u:oA)(Q:VK),aZ X pins σ H s->bS x v->bS y u->r x y H Q->
  kh (km X.prog X.w) X.A (f v u) (EP X pins σ Q) X.xe s
def QU(X:Cx)(f:oA->Sem oA)(r:V->Hp->VK->Prop):Prop:=
 ∀(pins:List (jz×Obj))(s:oB)(σ:St)(H:Hp)(x:V)(v:oA)(Q:VK),aZ X pins σ H s->bS x v->r x H Q->
  kh (km X.prog X.w) X.A (f v) (EP X pins σ Q) X.xe s
def kN(X:Cx)(f:oA)(r:List V->Hp->VK->Prop):Prop:=
 ∀(pins:List (jz×Obj))(s:oB)(σ:St)(H:Hp)(xs:List V)(us:List oA)(Q:VK),aZ X pins σ H s->bI xs us->r xs H Q->
  kh (km X.prog X.w) X.A (call f us) (EP X pins σ Q) X.xe s
def M8(r:R2)(ta tb:TE):TE:=λσ H Q=>ta σ H λx H1=>tb σ H1 λy H2=>r x y H2 Q
def VG(r:V->Hp->VK->Prop)(ta:TE):TE:=λσ H Q=>ta σ H λx H1=>r x H1 Q
def rI(C:Int->Int->Prop)(g:Int->Int->V):R2:=λx y H Q=>∃i j,x = .int i/\y = .int j/\C i j/\Q (g i j) H
def Xg(g:Int->Int->V):R2:=λx y H Q=>∃i j,x = .int i/\y = .int j/\Q (g i j) H
def rU(g:Int->V):V->Hp->VK->Prop:=λx H Q=>∃i,x = .int i/\Q (g i) H
theorem EH{X:Cx}{ta:TE}(ha:PE X a ta)(hb:PE X b tb){R:V->V->Hp->Prop}(I:aZ X pins σ H s)(h:ta σ H λx H1=>tb σ H1 λy H2=>R x y H2){Q:oA->oB->Prop}{f:oA->oA->Sem oA}(hf:∀v u s2 x y H2,aZ X pins σ H2 s2->bS x v->bS y u->R x y H2->kh (km X.prog X.w) X.A (f v u) Q X.xe s2):
  kh (km X.prog X.w) X.A (lq a X.env) (λv s₁=>kh (km X.prog X.w) X.A (lq b X.env) (λu s₂=>kh (km X.prog X.w) X.A (f v u) Q X.xe s₂) X.xe s₁) X.xe s:=by
 refine eC (ha pins s σ H _ I h) λv s1 zZ=>?_;obtain⟨x,H1,I1,r1,q1⟩:=zZ;refine eC (hb pins s1 σ H1 _ I1 q1) λu s2 zZ=>?_;obtain⟨y,H2,I2,r2,q2⟩:=zZ;exact hf v u s2 x y H2 I2 r1 r2 q2
theorem MX(ho:o8 X (mr op) r)(ha:PE X a ta)(hb:PE X b tb):PE X (.BinOp a op b pos) (M8 r ta tb):=by
 intro pins s σ H Q I h;exact wpAny_BinOp (EH ha hb I h λv u s2 x y H2 I2 rx ry q=>ho pins s2 σ H2 x y v u Q I2 rx ry q)
theorem MZ{r:V->Hp->VK->Prop}(ho:QU X (unaryOp op) r)(ha:PE X a ta):PE X (.UnaryOp op a pos) (VG r ta):=by
 intro pins s σ H Q I h;exact UnaryOp_ (eC (ha pins s σ H _ I h) λv s1 zZ=>by obtain⟨x,H1,I1,r1,q1⟩:=zZ;exact ho pins s1 σ H1 x v Q I1 r1 q1)
theorem KH{C:Int->Int->Prop}{g:Int->Int->Int}(rule:∀(i j:Int)(t u:Tok)(s:oB)(Q:oA->oB->Prop)(E:oA->oB->Prop),C i j->Q (.int (g i j) s.toks) { s with toks:=s.toks+1 }->kh (km X.prog X.w) X.A (f (.int i t) (.int j u)) Q E s):
  o8 X f (rI C λi j=>.int (g i j)):=by
 intro pins s σ H x y v u Q I rx ry h;obtain⟨i,j,rfl,rfl,hc,q⟩:=h;obtain⟨t,rfl⟩:=rx;obtain⟨t',rfl⟩:=ry;exact rule i j t t' s _ _ hc ⟨.int (g i j),H,I.tok _,⟨_,rfl⟩,q⟩
theorem MR{g:Int->Int->Int}(rule:∀(i j:Int)(t u:Tok)(s:oB)(Q:oA->oB->Prop)(E:oA->oB->Prop),Q (.int (g i j) s.toks) { s with toks:=s.toks+1 }->kh (km X.prog X.w) X.A (f (.int i t) (.int j u)) Q E s):
  o8 X f (Xg λi j=>.int (g i j)):=by
 intro pins s σ H x y v u Q I rx ry h;obtain⟨i,j,rfl,rfl,q⟩:=h;obtain⟨t,rfl⟩:=rx;obtain⟨t',rfl⟩:=ry;exact rule i j t t' s _ _ ⟨.int (g i j),H,I.tok _,⟨_,rfl⟩,q⟩
theorem X0{g:Int->Int->Bool}(rule:∀(i j:Int)(t u:Tok)(s:oB)(Q:oA->oB->Prop)(E:oA->oB->Prop),Q (.bool (g i j)) s->kh (km X.prog X.w) X.A (f (.int i t) (.int j u)) Q E s):
  o8 X f (Xg λi j=>.bl (g i j)):=by
 intro pins s σ H x y v u Q I rx ry h;obtain⟨i,j,rfl,rfl,q⟩:=h;obtain⟨t,rfl⟩:=rx;obtain⟨t',rfl⟩:=ry;exact rule i j t t' s _ _ ⟨.bl (g i j),H,I,rfl,q⟩
def Q3(i j:Int):Prop:=0<=j/\j<=1000000/\i.natAbs<2^64
def Q1(i j:Int):Prop:=(-(2^64)<i/\i<2^64)\/(-(2^64)<j/\j<2^64)
theorem Q1.ok{i j:Int}(h:Q1 i j):IntMulOk i j:=by
 obtain⟨h1,h2⟩|⟨h1,h2⟩:=h
 ·exact .of_left (intBits_le_64 h1 h2)
 ·exact .of_right (intBits_le_64 h1 h2)
theorem cO:o8 X (mr .Add) (Xg λi j=>.int (i+j)):=MR λ_ _ _ _ _ _ _ q=>add_int q
theorem jZ:o8 X (mr .Sub) (Xg λi j=>.int (i-j)):=MR λ_ _ _ _ _ _ _ q=>sub_int q
theorem HH:o8 X (mr .Mult) (rI Q1 λi j=>.int (i*j)):=KH λ_ _ _ _ _ _ _ hc q=>mul_int q hc.ok
theorem iD:o8 X (mr .Mod) (rI (λ_ j=>0<j) λi j=>.int (i%j)):=KH λi j _ _ _ _ _ hc q=>by
 have h1:(0:Int)<j:=hc;exact mod_int' ⋯ (by rw[fz i ⋯];exact q)
theorem C6:o8 X (mr .Pow) (rI Q3 λi j=>.int (i^j.toNat)):=KH λ_ _ _ _ _ _ _ hc q=>pow_int_small hc.1 hc.2.1 hc.2.2 q
theorem HJ:o8 X (mr .LShift) (rI Q3 λi j=>.int (i*2^j.toNat)):=KH λ_ _ _ _ _ _ _ hc q=>lshift_int_small hc.1 hc.2.1 hc.2.2 q
theorem VZ{g:Int->Int}(rule:∀(i:Int)(t:Tok)(s:oB)(Q:oA->oB->Prop)(E:oA->oB->Prop),Q (.int (g i) s.toks) { s with toks:=s.toks+1 }->kh (km X.prog X.w) X.A (f (.int i t)) Q E s):
  QU X f (rU λi=>.int (g i)):=by
 intro pins s σ H x v Q I rx h;obtain⟨i,rfl,q⟩:=h;obtain⟨t,rfl⟩:=rx;exact rule i t s _ _ ⟨.int (g i),H,I.tok _,⟨_,rfl⟩,q⟩
theorem JQ:QU X (unaryOp .USub) (rU λi=>.int (-i)):=VZ λ_ _ _ _ _ q=>neg_int q
theorem Fu(I:aZ X pins σ H s)(q:Q (.bl k) H)(e:k=k'):EP X pins σ Q (.bool k') s:=by
 subst e;exact⟨.bl k,H,I,rfl,q⟩
theorem iK:o8 X (ml .Lt) (Xg λi j=>.bl (decide (i<j))):=X0 λ_ _ _ _ _ _ _ q=>lt_int q
theorem C4:o8 X (ml .LtE) (Xg λi j=>.bl (decide (i<=j))):=X0 λ_ _ _ _ _ _ _ q=>le_int q
theorem qD:o8 X (ml .Gt) (Xg λi j=>.bl (decide (j<i))):=X0 λ_ _ _ _ _ _ _ q=>gt_int q
theorem Ds:o8 X (ml .GtE) (Xg λi j=>.bl (decide (j<=i))):=X0 λ_ _ _ _ _ _ _ q=>ge_int q
theorem Wi:o8 X (ml .In) (λx y H Q=>∃i j,x = .str i/\y = .str j/\Q (.bl (!(Builtin.Str.occurrences j i 0 j.length 1).isEmpty)) H):=by
 intro pins s σ H x y v u Q I rx ry h;obtain⟨i,j,rfl,rfl,q⟩:=h;obtain⟨t,rfl⟩:=rx;obtain⟨t',rfl⟩:=ry;exact in_str (Fu I q rfl)
theorem HG:o8 X (ml .Is) (λx y H Q=>y = .non/\Q (.bl (decide (x = .non))) H):=by
 intro pins s σ H x y v u Q I rx ry h;obtain⟨rfl,q⟩:=h;cases ry;refine is_none_gen (Fu I q ?_);cases x<;>first
  |(cases rx;rfl)
  |(obtain⟨t,rfl⟩:=rx;rfl)
theorem a9(b:oC)(h:op≠.In:=by decide)(h2:op≠.NotIn:=by decide):ma op b=false:=by
 have e1:(op==CmpOp.In)=false:=by cases op<;>first|rfl|exact absurd rfl h
 have e2:(op==CmpOp.NotIn)=false:=by cases op<;>first|rfl|exact absurd rfl h2
 cases b<;>simp[ma,e1,e2]
theorem X7(ho:o8 X (ml op) r)(ha:PE X a ta)(hb:PE X b tb)(hm:ma op b=false):PE X (.Compare a [op] [b] pos) (M8 r ta tb):=by
 intro pins s σ H Q I h;exact wpAny_Compare1 (EH ha hb I h λv u s2 x y H2 I2 rx ry q=>ho pins s2 σ H2 x y v u Q I2 rx ry q) hm
def N2(t:TE):TT:=λσ H Q=>t σ H λx H'=>∃k,x = .bl k/\Q k H'
theorem Sr(ho:o8 X (ml op) r)(ha:PE X a ta)(hb:PE X b tb)(hm:ma op b=false):PT X (.Compare a [op] [b] pos) (N2 (M8 r ta tb)):=by
 intro pins s σ H Q I h;refine wpAny_isTrue_Compare1 (eC (ha pins s σ H _ I h) λv s1⟨x,H1,I1,r1,q1⟩=>eC (hb pins s1 σ H1 _ I1 q1) λu s2⟨y,H2,I2,r2,q2⟩=>
  eC (ho pins s2 σ H2 x y v u _ I2 r1 r2 q2) λc s3⟨z,H3,I3,r3,k,e,q3⟩=>?_) hm
 subst e;cases r3;exact mw ⟨H3,I3,q3⟩
theorem zO:(ky:Nat)<2^63:=by rw[sizeLine_eq];decide
theorem Pe:o8 X (mr .Add) (λx y H Q=>∃i j,x = .str i/\y = .str j/\i.length+j.length<=ky/\Q (.str (i++j)) H):=by
 intro pins s σ H x y v u Q I rx ry h;obtain⟨i,j,rfl,rfl,hz,q⟩:=h;obtain⟨t,rfl⟩:=rx;obtain⟨t',rfl⟩:=ry;exact add_str (λt' tk=>⟨.str (i++j),H,I.tok _,⟨_,rfl⟩,q⟩) hz
theorem Bc(r:bI [x] us):∃u,us=[u]/\bS x u:=by
 cases r with
 |cons r1 r2=>cases r2;exact⟨_,rfl,r1⟩
theorem Bh.some_of(r:Bh (oZ v) o):∃u,o=oZ u/\bS v u:=by
 cases o with
 |none=>exact(show False from r).elim
 |some u=>exact⟨u,rfl,r⟩
structure d5(k:Nat)(A:oD):Prop where
 hd:A.handled=none
 dp:A.depth+3*k+5<recursionLimit
 un:A.units+16*k+200<qp
 gd:A.guards=oZ []
theorem d5.mono(r:d5 k A)(h:j<=k):d5 j A:=⟨r.hd,by have:=r.dp;lia,by have:=r.un;lia,r.gd⟩
theorem d5.deeper(r:d5 (k+1) A)(env:Env):d5 k (A.deeper env):=
 ⟨r.hd,by have:=r.dp;show A.depth+1+3*k+5<_;lia,by have:=r.un;show A.units+3+16*k+200<_;lia,r.gd⟩
theorem d5.depth(r:d5 k A):A.depth<recursionLimit:=by have:=r.dp;lia
theorem d5.units(r:d5 k A):A.units+64<qp:=by have:=r.un;lia
def OS:TA:=λ_ H Q=>Q [] H
def L8(ta:TE)(tr:TA):TA:=λσ H Q=>ta σ H λx H1=>tr σ H1 λxs H2=>Q (x::xs) H2
section
variable{X:Cx}{e:oC}{es:List oC}{te:TE}{t:TA}{pos:Pos}
theorem HK:PA X [] OS:=λ_ _ _ _ H Q I h=>Calls.spliced_nil ⟨[],H,I,.nil,h⟩
theorem X3(ha:PE X e te)(hr:PA X es t)(hs:md (e::es) X.env=(false,lq e X.env)::md es X.env:=by rfl):PA X (e::es) (L8 te t):=by
 intro pos pins s σ H Q I h;rw[hs];show kh _ _ (spliced ((false,lq e X.env)::qr pos (md es X.env))) _ _ s;refine Calls.spliced_cons (eC (ha pins s σ H _ I h) λu s1 zZ=>?_);obtain⟨x,H1,I1,r1,q1⟩:=zZ;exact eC (hr pos pins s1 σ H1 _ I1 q1) λus s2 zZ=>by obtain⟨xs,H2,I2,r2,q2⟩:=zZ;exact⟨x::xs,H2,I2,.cons r1 r2,q2⟩
def PB(t:TA):TE:=λσ H Q=>t σ H λxs H1=>xs.length<=ky/\∀p,H1 p=none->Q (.ref p) (upd H1 p (.tup xs))
def OP(t:TA):TE:=λσ H Q=>t σ H λxs H1=>xs.length<=ky/\∀p,H1 p=none->Q (.ref p) (upd H1 p (.lst xs))
theorem HW{x1}(h:PA X es t):PE X (.Tuple es x1 pos) (PB t):=by
 intro pins s σ H Q I hq;refine wpAny_Tuple_spliced (eC (h pos pins s σ H _ I hq) λus s1⟨xs,H1,I1,r,z,q⟩=>⟨by rw[<-r.length];exact z,?_⟩);have hf:H1 s1.heap.objs.size=none:=I1.hok.fresh (WO _);refine⟨.ref s1.heap.objs.size,upd H1 s1.heap.objs.size (.tup xs),I1.laid (t':=s1.toks) (λb u e=>WL _ e) (WO _) ?_,rfl,q _ hf⟩;exact⟨z,us,r,⟨_,WV _ rfl,rfl,_,rfl⟩⟩
theorem HR(h:PA X es t):PE X (.List es pos) (OP t):=by
 intro pins s σ H Q I hq;refine wpAny_List_spliced (eC (h pos pins s σ H _ I hq) λus s1⟨xs,H1,I1,r,z,q⟩=>⟨by rw[<-r.length];exact z,?_⟩);have hf:H1 s1.heap.objs.size=none:=I1.hok.fresh (WO _);refine⟨.ref s1.heap.objs.size,upd H1 s1.heap.objs.size (.lst xs),I1.laid (t':=s1.toks) (λb u e=>WL _ e) (WO _) ?_,rfl,q _ hf⟩;exact⟨z,us,0,r,WV _ rfl⟩
end
abbrev Sp:=List V->Hp->VK->XK->Prop
abbrev Iw:=List Env->Hp->oB->XK->oA->oB->Prop
structure Xi(P:kg)(w:ko)(K:W.Frag)(mg:Str->Option oA)(base:oE)(A:oD)(outer:List Env)(s:oB)(H:Hp):Prop where
 frames:A.frames=oZ outer
 mod:Mod K mg base
 bs:∀b o,base.get? b=oZ o->s.heap.get? b=oZ o/\H b=none
 bsz:base.objs.size<=s.heap.objs.size
 funs:s.heap.FunFrames base outer
 frf:∀b∈Ml outer,H b=none
 hok:rK P w H s.heap
 bare:pg s.gens
def CE(outer:List Env)(P:kg)(w:ko)(H:Hp)(s:oB)(Q:VK)(u:oA)(s':oB):Prop:=
 ∃v H',s'.os=s.os/\pg s'.gens/\Un (Ml outer) [] H H' s.heap s'.heap/\rK P w H' s'.heap/\bS v u/\Q v H'
def CR(CX:Iw)(outer:List Env)(P:kg)(w:ko)(H:Hp)(s:oB)(Q:VK)(E:XK)(r:Result)(s':oB):Prop:=
 match r with
 |.ok (.ret u)=>CE outer P w H s Q u s'
 |.ok _=>False
 |.error e=>CX outer H s E e s'
structure aV(P:kg)(w:ko)(K:W.Frag)(mg:Str->Option oA)(base:oE)(CX:Iw)(k:Nat)(f:jz)(fd:mf)(ps:List Str)(sp:Sp):Prop where
 len:∀vs H Q E,sp vs H Q E->vs.length=ps.length
 run:∀(A:oD)(outer:List Env)(s:oB)(H:Hp)(args:Args)(us:List oA)(vs:List V)(Q:VK)(E:XK),d5 k A->Xi P w K mg base A outer s H->BindsTo s fd args (ps.zip us)->bI vs us->sp vs H Q E->
  qx (km P w) A (.call (.ref f) args) (CR CX outer P w H s Q E) s
theorem aV.imp{P:kg}{w:ko}{K:W.Frag}{mg:Str->Option oA}{base:oE}{CX:Iw}{k:Nat}{f:jz}{fd:mf}{ps:List Str}{sp sp':Sp}(F:aV P w K mg base CX k f fd ps sp)
  (h:∀vs H Q E,sp' vs H Q E->sp vs H Q E):(~~~aV) CX k f fd ps sp':=
 ⟨λvs H Q E q=>F.len vs H Q E (h _ _ _ _ q),λA outer s H args us vs Q E hr he hb hv hs=>F.run A outer s H args us vs Q E hr he hb hv (h _ _ _ _ hs)⟩
theorem aZ.env0(I:aZ X pins σ H s):Xi X.prog X.w X.K X.mg X.base X.A X.stack s H:=
 ⟨I.ok.frames,I.ok.mod,I.bs,XR I.ok.bsz I.sz,I.stack,I.stkFree,I.hok,I.bare⟩
theorem aZ.after(I:aZ X pins σ H s)(h:CE X.stack X.prog X.w H s Q u s'):EP X pins σ Q u s':=by
 obtain⟨v,H',os,bare,un,hok,r,q⟩:=h;obtain⟨hh,g,d,t,os'⟩:=s';obtain rfl:os'=s.os:=os;exact⟨v,H',I.call (h':=hh) (g':=g) (d':=d) (t':=t) (ch:=[]) un hok bare (λb z=>absurd z (by simp)),r,q⟩
def Ly(sp:Sp)(dvs:List V)(E:XK)(t:TA):TE:=λσ H Q=>t σ H λvs H1=>sp (vs++dvs) H1 Q E
def lG(K:W.Frag)(fd:mf)(ps:List Str)(ds:List oA):Prop:=
 ∀(s:oB)(us:List oA),K.In s.heap->(us++ds).length=ps.length->BindsTo s fd ⟨us,[]⟩ (ps.zip (us++ds))
theorem lG.all{K:W.Frag}{fd:mf}{ps:List Str}(h:∀us:List oA,us.length=ps.length->bindArgs fd ⟨us,[]⟩=pure (ps.zip us)):lG K fd ps []:=λs us _ hl=>by
 rw[XW]at hl⊢;exact .of_eq (h us hl)
def Mo(CX:Iw)(X:Cx)(E:XK):Prop:=∀(pins:List (jz×Obj))(σ:St)(H:Hp)(s:oB)(e:oA)(s':oB),aZ X pins σ H s->CX X.stack H s E e s'->X.xe e s'
theorem JG(F:aV X.prog X.w X.K X.mg X.base CX k f fd ps sp)(hr:d5 k X.A)(hb:lG X.K fd ps ds)(hd:bI dvs ds)(hx:Mo CX X E)(I:aZ X pins σ H s)(r:bI vs us)(h:sp (vs++dvs) H Q E):kh (km X.prog X.w) X.A (call (.ref f) us) (EP X pins σ Q) X.xe s:=by
 have r2:bI (vs++dvs) (us++ds):=r.append hd;have hl:(us++ds).length=ps.length:=by rw[<-r2.length];exact F.len _ _ _ _ h
 refine wpAny_call (rn (F.run X.A X.stack s H ⟨us,[]⟩ (us++ds) (vs++dvs) Q E hr I.env0 (hb s us I.kIn hl) r2 h) λr s' hq=>?_);cases r with
 |error e=>exact hx pins σ H s e s' I hq
 |ok fl=>
  cases fl with
  |ret u=>exact I.after hq
  |next=>exact False.elim hq
  |brk=>exact False.elim hq
  |cont=>exact False.elim hq
theorem X6(F:aV X.prog X.w X.K X.mg X.base CX k f fd ps sp)(hr:d5 k X.A)(hg:Gl X x)(hm:X.mg x=oZ (.ref f))(hk:W.keepIn X.K (.ref f)=true)(hb:lG X.K fd ps ds)(hd:bI dvs ds)(hx:Mo CX X E)(ha:PA X (e::es) t)(yt:(x==("__debug__":Str))=false:=by decide)(he:md (e::es) X.env=(false,lq e X.env)::md es X.env:=by rfl)(hpl:(qr pos (md es X.env)).any (·.1)=false:=by rfl):
  PE X (.Call (.Name x p) (e::es) [] pos) (Ly sp dvs E t):=by
 intro pins s σ H Q I h;refine qz (Sf I hg hm ?_ yt);refine PySem.W.callWith_K (h₀:=X.base) I.ok.mod.kin hk (eC (ha pos pins s σ H _ I h) λus s1⟨vs,H1,I1,r,q⟩=>⟨I1.kIn,?_⟩) he hpl;exact JG F hr hb hd hx I1 r q
structure aF(N P:List Str)(sc:qk):Prop where
 kind:sc.kind = .function
 co:sc.isCoroutine=false
 gen:sc.isGenerator=false
 nd:N.Nodup
 pre:N.take P.length=P
 par:∀x∈P,sc.names.lookup x=oZ .local\/sc.names.lookup x=oZ .cell
 nofree:∀y∈sc.names,y.2≠.free
theorem Ct{kindOf:Str->Option NameKind}{x:Str}:∀{binds:List (Str×oA)}{m:Str->Option oA},(∀v,(x,v)∉binds)->bindL kindOf binds m x=m x
 |[],_,_=>rfl
 |(n,v)::r,m,h=>by
  unfold bindL;rw[Ct λw hw=>h w (WQ _ hw)]
  split
  ·have:x≠n:=by rintro rfl;exact h v WW
   simp[this]
  ·rfl
theorem Cr{kindOf:Str->Option NameKind}{x:Str}:∀{binds:List (Str×oA)}{m:Str->Option oA},(∀v,(x,v)∉binds)->bindC kindOf binds m x=m x
 |[],_,_=>rfl
 |(n,v)::r,m,h=>by
  unfold bindC;rw[Cr λw hw=>h w (WQ _ hw)]
  split
  ·rfl
  ·have:x≠n:=by rintro rfl;exact h v WW
   simp[this]
theorem Cs{kindOf:Str->Option NameKind}:∀{P:List Str}{vs:List oA}{i:Nat}{m:Str->Option oA},P.Nodup->P[i]?=oZ x->vs[i]?=oZ v->kindOf x=oZ .local->
  bindL kindOf (P.zip vs) m x=oZ v
 |[],_,_,_,_,h,_,_=>by simp at h
 |_::_,[],_,_,_,_,h,_=>by simp at h
 |p::P,w::vs,0,m,nd,h1,h2,hk=>by
  simp at h1 h2;subst h1;subst h2;show bindL kindOf ((p,w)::P.zip vs) m p=_;unfold bindL;rw[Ct λv hv=>(YS.mp nd).1 (je hv).1,oV hk];simp
 |p::P,w::vs,i+1,m,nd,h1,h2,hk=>by
  show bindL kindOf ((p,w)::P.zip vs) m x=_;unfold bindL;exact Cs (i:=i) (YS.mp nd).2 (by simpa using h1) (by simpa using h2) hk
theorem Cq{kindOf:Str->Option NameKind}:∀{P:List Str}{vs:List oA}{i:Nat}{m:Str->Option oA},P.Nodup->P[i]?=oZ x->vs[i]?=oZ v->kindOf x≠oZ .local->
  bindC kindOf (P.zip vs) m x=oZ v
 |[],_,_,_,_,h,_,_=>by simp at h
 |_::_,[],_,_,_,_,h,_=>by simp at h
 |p::P,w::vs,0,m,nd,h1,h2,hk=>by
  simp at h1 h2;subst h1;subst h2;show bindC kindOf ((p,w)::P.zip vs) m p=_;unfold bindC;rw[Cr λv hv=>(YS.mp nd).1 (je hv).1,oW hk];simp
 |p::P,w::vs,i+1,m,nd,h1,h2,hk=>by
  show bindC kindOf ((p,w)::P.zip vs) m x=_;unfold bindC;exact Cq (i:=i) (YS.mp nd).2 (by simpa using h1) (by simpa using h2) hk
def lC(N:List Str)(vs:List V):St:=vs.map oZ++WN (N.length-vs.length) none
def zE(CX:Iw)(P:kg)(w:ko)(K:W.Frag)(mg:Str->Option oA)(base:oE)(N:List Str)(qual:Str)(scope:qk)(f:jz)(cd:oA)(A:oD)(outer:List Env)(s:oB)(H:Hp)(E:XK):Cx where
 prog:=P
 w:=w
 K:=K
 mg:=mg
 base:=base
 A:=A.deeper (ph qual scope s.heap.objs.size f cd)
 N:=N
 s₀:=s
 H₀:=H
 env:=ph qual scope s.heap.objs.size f cd
 outer:=outer
 stack:=ph qual scope s.heap.objs.size f cd::outer
 ex:=[]
 calm:=true
 fn:=λ_=>true
 pn:=[]
 xe:=λe s'=>kh (km P w) (A.deeper (ph qual scope s.heap.objs.size f cd)) (leaving (ph qual scope s.heap.objs.size f cd) e) (λ_ s''=>CX outer H s E e s'') (λe' s''=>CX outer H s E e' s'') s'
theorem Ji{sc:qk}(h:sc.names.lookup x=oZ .cell):∃c,(cellsFrom n sc.names []).lookup x=oZ c:=by
 have q:=W.cellsFrom_some sc.names n [] (.inl h);exact ij.mp q
theorem Vq{CX:Iw}{P:kg}{w:ko}{K:W.Frag}{mg:Str->Option oA}{base:oE}{N ps:List Str}{qual:Str}{scope:qk}{f:jz}{cd:oA}{A:oD}{outer:List Env}{s s1:oB}{H:Hp}{E:XK}{us:List oA}{vs:List V}
  (S:aF N ps scope) (hd:A.handled=none) (e0:Xi P w K mg base A outer s H) (hl:vs.length=ps.length) (r:bI vs us)
  (x:InCallC s s.heap.objs.size (bindL (ph qual scope s.heap.objs.size f cd).kindOf (ps.zip us) λ_=>none) (cellsFrom (s.heap.objs.size+1) scope.names []) (bindC (ph qual scope s.heap.objs.size f cd).kindOf (ps.zip us) λ_=>none) s1) :
  aZ (zE CX P w K mg base N qual scope f cd A outer s H E) [] (lC N vs) H s1:=by
 have hpl:ps.length<=N.length:=by have:=congrArg List.length S.pre;rw[XT]at this;lia
 obtain⟨h1,tk,rfl,hk⟩:=x.done;have noA:∀b:jz,b∉(zE CX P w K mg base N qual scope f cd A outer s H E).ex:=λb z=>absurd (show b∈([]:List jz)from z) (by simp);refine⟨⟨e0.mod,S.kind,rfl,rfl,WO _,λy z c h1 h2=>?_,λy hy=>?_,λy c _ h=>?_,λ_=>hd,Around.frames_deeper e0.frames,.inr ⟨rfl,rfl⟩,λb z=>absurd z (noA b),e0.bs,e0.bsz,λb _ _=>noA b,λb z=>absurd z (noA b),e0.funs,e0.frf⟩,
  rfl,e0.bare,Un.kept hk,⟨_,x.toInCall.ns,λi y v h1 h2 h3=>?_⟩,λy c h=>⟨_,x.cell y c h⟩,e0.hok.fresh (WO _),λy c h=>?_,λp hp=>absurd (show p∈([]:List (jz×Obj))from hp) (by simp),e0.hok.kept hk,?_⟩
 ·exact name_of_addr x.apart (PySem.mem_of_lookup h1) (PySem.mem_of_lookup h2)
 ·have hy:scope.names.lookup y=oZ .cell\/scope.names.lookup y=oZ .free:=hy;obtain hy|hy:=hy
  ·exact Ji hy
  ·exact absurd rfl (S.nofree _ (PySem.mem_of_lookup hy))
 ·exact YA (x.above y c (PySem.mem_of_lookup h))
 ·have hi:i<vs.length:=by
   unfold lC at h2
   by_cases hi:i<vs.length
   ·exact hi
   ·rw[XO (by simpa using hi)]at h2;rw[ZX]at h2;split at h2<;>cases h2
  have ha:vs[i]?=oZ v:=by
   unfold lC at h2;rw[XJ (by simpa using hi),WH]at h2;cases e:vs[i]? with
   |none=>rw[e]at h2;cases h2
   |some a=>rw[e]at h2;cases h2;rfl
  obtain⟨u,hu,rv⟩:=r.get ha;have hp:ps[i]?=oZ y:=by
   rw[<-S.pre,YC ⋯];exact h1
  have ndP:ps.Nodup:=by rw[<-S.pre];exact S.nd.sublist (List.take_sublist _ _)
  refine⟨u,rv,?_⟩;obtain k|k:=S.par y (WI hp)
  ·exact .inl ⟨k,Cs ndP hp hu k⟩
  ·obtain⟨c,e⟩:=Ji (n:=s.heap.objs.size+1) k;refine .inr ⟨.inl k,c,e,?_⟩;have q:=x.cell y c e;rw[Cq ndP hp hu (by show scope.names.lookup y≠_;rw[k];decide)]at q;exact q
 ·exact e0.hok.fresh (YA (x.above y c (PySem.mem_of_lookup h)))
 ·unfold lC;show _=N.length;rw[WK,WJ,ZO]
  lia
theorem LZ{CX:Iw}{P:kg}{w:ko}{K:W.Frag}{mg:Str->Option oA}{base:oE}{k:Nat}{f:jz}{name qual:Str}{params:Arguments}{body:List ki}{scope:qk}{dV kV doc pm wj ct oc:oA}{an od:Option jz}
  {osl:Array (Option oA)} {N ps:List Str} {sp:Sp} (lk:K.lookup f=oZ ⟨oc,od,.func (W.fnOf name qual params body scope dV kV doc pm an wj ct),osl⟩) (hcd:W.codeIn K wj qual=true) (S:aF N ps scope)
  (len:∀vs H Q E,sp vs H Q E->vs.length=ps.length)
  (aCB:∀(A:oD)(outer:List Env)(s:oB)(H:Hp)(vs:List V)(Q:VK)(E:XK),d5 k (A.deeper (ph qual scope s.heap.objs.size f wj))->sp vs H Q E->
   ∃t,Qx (zE CX P w K mg base N qual scope f wj A outer s H E) body t/\t { nx:=λ_ H'=>Q .non H',rt:=Q } (lC N vs) H) :
  aV P w K mg base CX (k+1) f (W.fnOf name qual params body scope dV kV doc pm an wj ct) ps sp:=by
 refine⟨len,λA outer s H args us vs Q E hr e0 hb r hsp=>?_⟩;have hl:=len _ _ _ _ hsp;have KX:K.In s.heap:=e0.mod.kin.keeps λb o e=>(e0.bs b o e).1;have lim:s.heap.NoLimit:=e0.mod.nolimit.keeps λb o e=>(e0.bs b o e).1;have aGF:∀y∈ps.zip us,scope.names.lookup y.1=oZ .local\/(scope.names.lookup y.1=oZ .cell/\((cellsFrom (s.heap.objs.size+1) scope.names []).lookup y.1).isSome=true):=λzZ hy=>by
  obtain⟨n,v⟩:=zZ;obtain q|q:=S.par n (je hy).1
  ·exact .inl q
  ·exact .inr ⟨q,W.cellsFrom_some _ _ _ (.inl q)⟩
 refine codeAny_call_function hr.depth (KX _ _ lk) rfl S.co S.gen rfl (W.codeRec_of KX hcd) (hb _ _ _ _ ?_);refine wpAny_newFunctionEnv_cells S.kind aGF λenv he s1 x=>?_;subst he;refine⟨lim.keeps x.toInCall.keep,codeAny_func ?_⟩;obtain⟨t,ht,hq⟩:=aCB A outer s H vs Q E (hr.deeper _) hsp;have I:aZ (zE CX P w K mg base N qual scope f wj A outer s H E) [] (lC N vs) H s1:=Vq S hr.hd e0 hl r x;refine nq (ht [] s1 (lC N vs) H _ I hq) (λfl s' hs=>?_) λe s' hs=>hs;have fin:∀{σ':St}{H':Hp}{v:V}{u:oA},aZ (zE CX P w K mg base N qual scope f wj A outer s H E) [] σ' H' s'->bS v u->Q v H'->CE outer P w H s Q u s':=
  λ{σ' H' v u}J rv q=>⟨v,H',J.os,J.bare,J.base,J.hok,rv,q⟩
 cases fl with
 |ret u=>
  obtain⟨v,σ',H',J,rv,q⟩:=hs;exact fin J rv q
 |next=>
  obtain⟨σ',H',J,q⟩:=hs;exact fin (v:=V.non) (u:=de) J rfl q
 |brk=>
  obtain⟨_,_,_,q⟩:=hs;exact False.elim q
 |cont=>
  obtain⟨_,_,_,q⟩:=hs;exact False.elim q
section
variable{X:Cx}{x:Str}{p pos:Pos}{e:oC}{es:List oC}{t:TA}{id T:String}{r:List V->Hp->VK->Prop}
def KP(r:List V->Hp->VK->Prop)(t:TA):TE:=λσ H Q=>t σ H λvs H1=>r vs H1 Q
theorem C7(hc:kN X (.builtin id) r)(hg:Gl X x)(hm:X.mg x=none)(hv:og x=oZ (.builtin id))(ha:PA X (e::es) t)(hn:x≠"__name__":=by decide)(yt:(x==("__debug__":Str))=false:=by decide)(he:md (e::es) X.env=(false,lq e X.env)::md es X.env:=by rfl)(hpl:(qr pos (md es X.env)).any (·.1)=false:=by rfl):PE X (.Call (.Name x p) (e::es) [] pos) (KP r t):=by
 intro pins s σ H Q I h;refine qz (pV I hg hm hv ?_ hn yt);exact PyProof.Rows.callWith_builtin1 (eC (ha pos pins s σ H _ I h) λus s1 zZ=>by obtain⟨vs,H1,I1,r1,q1⟩:=zZ;exact hc pins s1 σ H1 vs us Q I1 r1 q1) he hpl
theorem Wl(hc:kN X (.type T) r)(hg:Gl X x)(hm:X.mg x=none)(hv:og x=oZ (.type T))(ha:PA X (e::es) t)(hn:x≠"__name__":=by decide)(yt:(x==("__debug__":Str))=false:=by decide)(he:md (e::es) X.env=(false,lq e X.env)::md es X.env:=by rfl)(hpl:(qr pos (md es X.env)).any (·.1)=false:=by rfl):PE X (.Call (.Name x p) (e::es) [] pos) (KP r t):=by
 intro pins s σ H Q I h;refine qz (pV I hg hm hv ?_ hn yt);exact PyProof.Rows.callWith_type1 (eC (ha pos pins s σ H _ I h) λus s1 zZ=>by obtain⟨vs,H1,I1,r1,q1⟩:=zZ;exact hc pins s1 σ H1 vs us Q I1 r1 q1) he hpl
end
end L2
namespace HT
open PySem PyProof.Rows
section
open PySem.SeqAt
open PySem.AutoSeq1 (wpAny_loadPart')
open PySem.MeetsSeq PySem.MeetsSeq2 PySem.MeetsSeq3
end
theorem cat_tup{E:oA->oB->Prop}{Q:oA->oB->Prop}(ht:IsTup s.heap t vs.toArray)(hb:IsTup s.heap b ws.toArray)(hv:vs≠[])(h1:ws=[]->Q (.ref t) s)(h2:ws≠[]->Q (.ref s.heap.objs.size) { s with heap:=s.heap.push { cls:=.type "tuple",data:=.seq (vs++ws).toArray } })(hsz:vs.length+ws.length<=ky):kh (km prog w) A (mr .Add (.ref t) (.ref b)) Q E s:=by
 obtain⟨⟨cls,dd,data,sl⟩,ho,hc,n,hd⟩:=id ht;obtain⟨⟨aMB,dd2,data2,sl2⟩,ho2,hc2,n2,hd2⟩:=id hb;simp only at hc hd hc2 hd2;subst hc hd hc2 hd2;have e:vs.toArray++ws.toArray=(vs++ws).toArray:=by simp
 by_cases hw:ws=[]
 ·exact concat_meets ⟨_,ho,rfl⟩ ⟨_,ho2,rfl⟩ noFill_tuple_add seq_tuple_add PySem.F.slot_tuple_add PySem.F.entry_tuple_add (PySem.F.args_tuple_add_2 _ _)
   (tuple_addW1 t b vs.toArray ws.toArray n n2 dd dd2 sl sl2 (by simpa using hv) (by simp[hw])) ⟨ho,ho2,h1 hw⟩
 ·refine concat_meets ⟨_,ho,rfl⟩ ⟨_,ho2,rfl⟩ noFill_tuple_add seq_tuple_add PySem.F.slot_tuple_add PySem.F.entry_tuple_add (PySem.F.args_tuple_add_2 _ _)
   (tuple_addW2 t b vs.toArray ws.toArray n n2 dd dd2 sl sl2 (by simpa using hv) (by simpa using hw) (by rw[WX,WX];exact hsz)) ⟨ho,ho2,?_⟩
  rw[e];exact h2 hw
def sIx(n d:Nat):Option Int->Nat
 |none=>d
 |some v=>if v<0 then(v+(n:Int)).toNat else min v.toNat n
theorem sIx_none(n d:Nat):sIx n d none=d:=rfl
theorem sIx_nat(n d k:Nat):sIx n d (oZ (k:Int))=min k n:=by
 show(if(k:Int)<0 then((k:Int)+(n:Int)).toNat else min (k:Int).toNat n)=min k n;rw[oW ⋯,XU]
theorem JI(n d:Nat)(hd:d<=n)(o:Option Int):sIx n d o<=n:=by
 cases o with
 |none=>exact hd
 |some v=>
  show(if v<0 then(v+(n:Int)).toNat else min v.toNat n)<=n
  by_cases hv:v<0
  ·rw[oV hv];lia
  ·rw[oW hv];exact Nat.min_le_right _ _
theorem Rb(v:Int)(n d:Nat):(if v<0 then max (v+(n:Int)) 0 else min v (n:Int))=((sIx n d (oZ v):Nat):Int):=by
 show(if v<0 then max (v+(n:Int)) 0 else min v (n:Int))=(((if v<0 then(v+(n:Int)).toNat else min v.toNat n):Nat):Int)
 by_cases hv:v<0
 ·simp only[oV hv];lia
 ·simp only[oW hv];lia
theorem Mq(lo hi:Option Int)(n:Nat):Builtin.Slice.sliceAdjust lo hi 1 (n:Int)=(((sIx n 0 lo:Nat):Int),((sIx n n hi:Nat):Int)):=by
 have h1:¬((1:Int)<0):=⋯
 unfold Builtin.Slice.sliceAdjust;simp only[h1,if_false];refine Prod.ext ?_ ?_
 ·cases lo with
  |none=>rfl
  |some v=>exact Rb v n 0
 ·cases hi with
  |none=>rfl
  |some v=>exact Rb v n n
theorem Ph(i j:Nat):Builtin.Slice.slicePlaces (i:Int) (j:Int) 1=j-i:=by
 unfold Builtin.Slice.slicePlaces;have h1:(1:Int)>0:=⋯
 simp only[h1,if_true,Int.ediv_one]
 split<;>lia
theorem Ax{E:oA->oB->Prop}{o:Option Int}{Q:Option Int->oB->Prop}(p:IsPart v o)(h:Q o s):kh (km prog w) A (Builtin.Slice.slicePartIndex v) Q E s:=by
 cases p with
 |none=>exact slicePart_none h
 |int i t=>exact slicePart_int h
theorem wX{E:oA->oB->Prop}{lo hi:Option Int}{Q:Int×Int×Nat->oB->Prop}(hs:s.heap.IsSliceOf sl vl vu .none)(pl:IsPart vl lo)(pu:IsPart vu hi)(h:Q (((sIx n 0 lo:Nat):Int),1,sIx n n hi-sIx n 0 lo) s):kh (km prog w) A (Builtin.Slice.sliceApplied (.ref sl) (pure (n:Int))) Q E s:=by
 obtain⟨os,hos,hcs,hds⟩:=id hs;unfold Builtin.Slice.sliceApplied Builtin.Slice.sliceFields;refine kc (kc (nj hos hds (x:=vl) rfl (kc (nj hos hds (x:=vu) rfl (kc (nj hos hds (x:=.none) rfl (kq ?_)))))));refine kc (slicePart_none ?_);show kh _ _ (if((1:Int)==0)=true then _ else _) _ _ s;rw[oW ∅];refine kc (Ax pl (kc (Ax pu (kc (kq ?_)))));show kh _ _ (match Builtin.Slice.sliceAdjust lo hi 1 (n:Int)with|(lo,hi)=>pure (lo,(1:Int),Builtin.Slice.slicePlaces lo hi 1)) _ _ s;rw[Mq lo hi n];show kh _ _ (pure (((sIx n 0 lo:Nat):Int),(1:Int),Builtin.Slice.slicePlaces ((sIx n 0 lo:Nat):Int) ((sIx n n hi:Nat):Int) 1)) _ _ s;rw[Ph];exact kq h
theorem D8(xs:Array oA)(i k:Nat):((XH k).filterMap λ(m:Nat)=>xs[((i:Int)+(m:Int)*1).toNat]?).toArray=((xs.toList.drop i).take k).toArray:=by
 have e:(λ(m:Nat)=>xs[((i:Int)+(m:Int)*1).toNat]?)=λm=>xs[i+m]?:=by
  funext m
  have:((i:Int)+(m:Int)*1).toNat=i+m:=⋯
  rw[this]
 rw[e];have:=pick_run xs i k;rw[List.filterMap_map]at this;have e2:((λx=>xs[x]?)∘λx=>i+x)=λm=>xs[i+m]?:=rfl;rw[e2]at this;rw[this]
theorem getItem_tuple_cut{E:oA->oB->Prop}{lo hi:Option Int}{Q:oA->oB->Prop}(ht:IsTup s.heap t items)(hs:s.heap.IsSliceOf sl vl vu .none)(pl:IsPart vl lo)(pu:IsPart vu hi)(hw:¬(sIx items.size 0 lo=0/\sIx items.size items.size hi=items.size))(h:Q (.ref s.heap.objs.size) { s with heap:=s.heap.push { cls:=.type "tuple",data:=.seq ((items.toList.drop (sIx items.size 0 lo)).take (sIx items.size items.size hi-sIx items.size 0 lo)).toArray } })(hsz:items.size<=ky):kh (km prog w) A (qh (.ref t) (.ref sl)) Q E s:=by
 have aC1:sizeOk (.seq ((items.toList.drop (sIx items.size 0 lo)).take (sIx items.size items.size hi-sIx items.size 0 lo)).toArray):=by
  show((items.toList.drop (sIx items.size 0 lo)).take (sIx items.size items.size hi-sIx items.size 0 lo)).toArray.size<=ky;rw[WX,XT,YY,fj];omega
 have hj:sIx items.size items.size hi<=items.size:=JI _ _ (WO _) hi;obtain⟨os,hos,hcs,hds⟩:=id hs;have hTs:s.TypeIs (.ref sl) "slice":=⟨os,hos,hcs⟩;unfold qh
 try with_reducible refine pe ?_
 first|refine kc (kq ?_)|skip
 refine kc (wpAny_sequenceKey ht.typeIs ∅ ?_);refine kc (wpAny_callSpecial?_slot (name:=XI "__getitem__") ht.typeIs PyProof.Rows.slot_tuple_getitem
  (oy PyProof.Rows.slot_tuple_getitem ht.typeIs entry_tuple_getitem ?_ (args_tuple_getitem _ _)))
 show kh _ _ (Builtin.Tuple.tupleItemsOf (.ref t) >>= _) _ _ s;refine kc (tupleItemsOf_ ht ?_);refine kc (wpAny_typeOf hTs ?_);rw[oV ∅];refine kc (wX hs pl pu ?_);have hno:¬((((sIx items.size 0 lo:Nat):Int)==0&&(1:Int)==1&&(sIx items.size items.size hi-sIx items.size 0 lo)==items.size)=true):=by
  intro q;rw[XS,XS]at q;have q1:((sIx items.size 0 lo:Nat):Int)=0:=eq_of_beq q.1.1;have q2:sIx items.size items.size hi-sIx items.size 0 lo=items.size:=eq_of_beq q.2;exact hw ⟨by omega,by omega⟩
 show kh _ _ (if(((sIx items.size 0 lo:Nat):Int)==0&&(1:Int)==1&&(sIx items.size items.size hi-sIx items.size 0 lo)==items.size)=true then _ else _) _ _ s;rw[oW hno,D8]
 first
  |exact kc (m:=Builtin.Tuple.tupleExact _) (mq (kq ⟨_,rfl,kq h⟩) aC1)
  |exact kc (m:=Builtin.Tuple.tupleExact _) (mq (kc (kq (kq ⟨_,rfl,kq h⟩))) aC1)
  |exact kc (kc (m:=Builtin.Tuple.tupleExact _) (mq (kq (kq ⟨_,rfl,kq h⟩)) aC1))
  |exact kc (kc (m:=Builtin.Tuple.tupleExact _) (mq (kq ⟨_,rfl,kq h⟩) aC1))
end HT
namespace L2
open PySem PySem.Spec PyProof.Rows
abbrev TO:=St->Hp->(Option Int->Hp->Prop)->Prop
def PO(X:Cx)(e:Option oC)(t:TO):Prop:=
 ∀(pins:List (jz×Obj))(s:oB)(σ:St)(H:Hp)(Q:Option Int->Hp->Prop),aZ X pins σ H s->t σ H Q->
  kh (km X.prog X.w) X.A (evalPart e X.env) (λu s'=>∃o H',aZ X pins σ H' s'/\IsPart u o/\Q o H') X.xe s
def Tt:TO:=λ_ H Q=>Q none H
def Mc(t:TE):TO:=λσ H Q=>t σ H λx H1=>∃i,x = .int i/\Q (oZ i) H1
section
variable{X:Cx}{e:oC}{te:TE}{lo hi:Option oC}{tl th:TO}{pos p2:Pos}
theorem Y5:PO X none Tt:=by
 intro pins s σ H Q I h;rw[evalPart_none];exact kq ⟨none,H,I,.none,h⟩
theorem Y6(h:PE X e te):PO X (oZ e) (Mc te):=by
 intro pins s σ H Q I hw;rw[evalPart_some];refine eC (h pins s σ H _ I hw) λu s1 zZ=>?_;obtain⟨x,H1,I1,r1,q1⟩:=zZ;obtain⟨i,rfl,q⟩:=q1;obtain⟨t,rfl⟩:=r1;exact⟨oZ i,H1,I1,.int i t,q⟩
def QR(X:Cx)(r:V->Option Int->Option Int->Hp->VK->Prop):Prop:=
 ∀(pins:List (jz×Obj))(s:oB)(σ:St)(H:Hp)(x:V)(v vl vu:oA)(lo hi:Option Int)(sl:jz)(Q:VK),aZ X pins σ H s->bS x v->s.heap.IsSliceOf sl vl vu .none->IsPart vl lo->IsPart vu hi->r x lo hi H Q->
  ∃T id,typeLookup (.type T) "__getitem__" = pure (oZ (.builtin id))/\s.TypeIs v T/\kh (km X.prog X.w) X.A (qh v (.ref sl)) (EP X pins σ Q) X.xe s
def VD(r:V->Option Int->Option Int->Hp->VK->Prop)(te:TE)(tl th:TO):TE:=λσ H Q=>te σ H λx H1=>tl σ H1 λl H2=>th σ H2 λu H3=>r x l u H3 Q
theorem D3{r:V->Option Int->Option Int->Hp->VK->Prop}(hr:QR X r)(he:PE X e te)(hl:PO X lo tl)(hu:PO X hi th):PE X (.Subscript e (.Slice lo hi none p2) pos) (VD r te tl th):=by
 intro pins s σ H Q I h;refine Subscript_ (eC (he pins s σ H _ I h) λv s1 zZ=>?_);obtain⟨x,H1,I1,r1,q1⟩:=zZ;refine wpAny_Slice (eC (hl pins s1 σ H1 _ I1 q1) λvl s2⟨l,H2,I2,pl,q2⟩=>eC (hu pins s2 σ H2 _ I2 q2) λvu s3 zZ=>?_);obtain⟨u,H3,I3,pu,q3⟩:=zZ;rw[evalPart_none];refine kq ?_;have I4:aZ X pins σ H3 { s3 with heap:=s3.heap.push { cls:=.type "slice",data:=.fields #[vl,vu,.none] } }:=I3.kept (t':=s3.toks) λb ob q=>WL _ q;obtain⟨T,id,hT,ht,hg⟩:=hr pins { s3 with heap:=s3.heap.push { cls:=.type "slice",data:=.fields #[vl,vu,.none] } } σ H3 x v vl vu l u s3.heap.objs.size Q I4 r1 (Heap.IsSliceOf.new ..) pl pu q3;show kh (km X.prog X.w) X.A (subscriptTail e (.Slice lo hi none p2) v (.ref s3.heap.objs.size)) (EP X pins σ Q) X.xe { s3 with heap:=s3.heap.push { cls:=.type "slice",data:=.fields #[vl,vu,.none] } };exact tail_any (ops:=[.ref s3.heap.objs.size,v]) ht hT hg (by with_unfolding_all rfl)
def Jr(xs:List V)(lo hi:Option Int):List V:=(xs.drop (HT.sIx xs.length 0 lo)).take (HT.sIx xs.length xs.length hi-HT.sIx xs.length 0 lo)
theorem xF(xs:List V)(lo hi:Option Int):(Jr xs lo hi).length<=xs.length:=by
 unfold Jr;rw[XT,YY]
 lia
def TY(K:W.Frag):V->Option Int->Option Int->Hp->VK->Prop:=λx lo hi H Q=>∃a xs,x = .ref a/\xD K H a xs/\
 ¬(HT.sIx xs.length 0 lo=0/\HT.sIx xs.length xs.length hi=xs.length)/\∀p,H p=none->Q (.ref p) (upd H p (.tup (Jr xs lo hi)))
theorem JM:QR X (TY X.K):=by
 intro pins s σ H x v vl vu lo hi sl Q I rx hs pl pu h;obtain⟨a,xs,rfl,hx,hw,q⟩:=h;cases rx;obtain⟨sf,r,ht,hz⟩:=I.tuple hx;have hlen:sf.toArray.size=xs.length:=by rw[WX];exact r.length.symm
 refine⟨"tuple",_,PyProof.Rows.slot_tuple_getitem.lookup,ht.typeIs,?_⟩;refine HT.getItem_tuple_cut ht hs pl pu (by rw[hlen];exact hw) ?_ (by rw[hlen];exact hz);rw[hlen];refine⟨.ref s.heap.objs.size,_,I.laid (t':=s.toks) (o:=.tup (Jr xs lo hi)) (λb ob q=>WL _ q) (WO _) ?_,rfl,q _ (I.hok.fresh (WO _))⟩;exact⟨XR (xF xs lo hi) hz,_,(r.drop (HT.sIx xs.length 0 lo)).take (HT.sIx xs.length xs.length hi-HT.sIx xs.length 0 lo),IsTup.new _ _⟩
def NK(K:W.Frag):R2:=λx y H Q=>∃a b xs ys,x = .ref a/\y = .ref b/\xD K H a xs/\xD K H b ys/\xs≠[]/\xs.length+ys.length<=ky/\
 (ys=[]->Q (.ref a) H)/\(ys≠[]->∀p,H p=none->Q (.ref p) (upd H p (.tup (xs++ys))))
theorem bI.nil_iff(r:bI xs us):us=[]↔xs=[]:=by
 cases r with
 |nil=>simp
 |cons _ _=>simp
theorem X1:o8 X (mr .Add) (NK X.K):=by
 intro pins s σ H x y v u Q I rx ry h;obtain⟨a,b,xs,ys,rfl,rfl,ha,hb,hx,hz,q1,q2⟩:=h;cases rx;cases ry;obtain⟨sf,r1,p1,_⟩:=I.tuple ha;obtain⟨aCC,r2,p2,_⟩:=I.tuple hb;refine HT.cat_tup p1 p2 (λz=>hx (r1.nil_iff.mp z)) (λz=>⟨.ref a,H,I,rfl,q1 (r2.nil_iff.mp z)⟩) (λz=>?_) (by rw[<-r1.length,<-r2.length];exact hz);refine⟨.ref s.heap.objs.size,_,I.laid (t':=s.toks) (o:=.tup (xs++ys)) (λb ob q=>WL _ q) (WO _) ?_,rfl,q2 (λw=>z (r2.nil_iff.mpr w)) _ (I.hok.fresh (WO _))⟩;exact⟨by rw[WK];exact hz,_,r1.append r2,IsTup.new _ _⟩
end
def Sb(n:Nat)(i:Int):Option Nat:=if 0<=i then(if i<n then oZ i.toNat else none)else if -(n:Int)<=i then oZ (i+n).toNat else none
def eZ{α:Type}(xs:List α)(i:Int):Option α:=(Sb xs.length i).bind λj=>xs[j]?
theorem Sd{i:Int}(h:Sb n i=oZ j):seqIndex? i n=oZ j/\j<n/\-(n:Int)<=i/\i<n:=by
 unfold Sb at h
 by_cases h0:0<=i
 ·rw[oV h0]at h
  by_cases h1:i<n
  ·rw[oV h1]at h;have e:i.toNat=j:=Option.some.inj h;exact⟨by rw[seqIndex_of h0 h1,e],⋯,⋯,h1⟩
  ·rw[oW h1]at h;cases h
 ·rw[oW h0]at h
  by_cases h1:-(n:Int)<=i
  ·rw[oV h1]at h;have e:(i+n).toNat=j:=Option.some.inj h;exact⟨by rw[seqIndex_neg ⋯ h1,e],⋯,h1,⋯⟩
  ·rw[oW h1]at h;cases h
theorem Er{α:Type}{xs:List α}{i:Int}{v:α}(h:eZ xs i=oZ v):∃j,seqIndex? i xs.length=oZ j/\xs[j]?=oZ v/\j<xs.length/\-(xs.length:Int)<=i/\i<xs.length:=by
 unfold eZ at h;cases e:Sb xs.length i with
 |none=>rw[e]at h;cases h
 |some j=>
  rw[e]at h;obtain⟨h1,h2,h3,h4⟩:=Sd e;exact⟨j,h1,h,h2,h3,h4⟩
theorem iO{α:Type}{xs:List α}{j:Nat}{v:α}(h:xs[j]?=oZ v):eZ xs (j:Int)=oZ v:=by
 have hj:j<xs.length:=(WE.mp h).1;have e:Sb xs.length (j:Int)=oZ j:=by
  unfold Sb;rw[oV ⋯,oV ⋯];simp
 unfold eZ;rw[e];exact h
def uJ(b:oC):Prop:=∀o i,qt b false o i=operate [o,i] (qh o i)
def P7(X:Cx)(r:R2):Prop:=
 ∀(value slice:oC)(pins:List (jz×Obj))(s:oB)(σ:St)(H:Hp)(x y:V)(v u:oA)(Q:VK),aZ X pins σ H s->bS x v->bS y u->r x y H Q->
  qt slice false v u=operate [v,u] (qh v u)->kh (km X.prog X.w) X.A (subscriptTail value slice v u) (EP X pins σ Q) X.xe s
def JX(X:Cx)(id:String)(r:V->List V->Hp->VK->Prop):Prop:=
 ∀(pins:List (jz×Obj))(s:oB)(σ:St)(H:Hp)(x:V)(xs:List V)(v:oA)(us:List oA)(Q:VK),aZ X pins σ H s->bS x v->bI xs us->r x xs H Q->
  kh (km X.prog X.w) X.A (call (.builtin id) (v::us)) (EP X pins σ Q) X.xe s
section
variable{X:Cx}{a b:oC}{ta tb:TE}{pos:Pos}
theorem P7.or(h:P7 X r)(h':P7 X r'):P7 X (λx y H Q=>r x y H Q\/r' x y H Q):=by
 intro value slice pins s σ H x y v u Q I rx ry q hs;obtain q|q:=q
 ·exact h value slice pins s σ H x y v u Q I rx ry q hs
 ·exact h' value slice pins s σ H x y v u Q I rx ry q hs
theorem MW(hr:P7 X r)(ha:PE X a ta)(hb:PE X b tb)(hs:uJ b):PE X (.Subscript a b pos) (M8 r ta tb):=by
 intro pins s σ H Q I h;exact Subscript_ (EH ha hb I h λv u s2 x y H2 I2 rx ry q=>hr a b pins s2 σ H2 x y v u Q I2 rx ry q (hs _ _))
def NL(K:W.Frag):R2:=λx y H Q=>∃p xs i v,x = .ref p/\y = .int i/\m7 K H p xs/\eZ xs i=oZ v/\Q v H
def NN(K:W.Frag):R2:=λx y H Q=>∃p xs i v,x = .ref p/\y = .int i/\xD K H p xs/\eZ xs i=oZ v/\Q v H
def NM:R2:=λx y H Q=>∃z i c,x = .str z/\y = .int i/\z.length<=ky/\eZ z.cps.toList i=oZ c/\Q (.str ⟨#[c]⟩) H
theorem U9:P7 X (NL X.K):=by
 intro value slice pins s σ H x y v u Q I rx ry h hs;obtain⟨p,xs,i,z,rfl,rfl,hq,he,q⟩:=h;cases rx;obtain⟨t,rfl⟩:=ry;obtain⟨sf,r,pl,hz⟩:=I.list hq;obtain⟨j,h1,h2,h3,h4,h5⟩:=Er he;obtain⟨w,ew,rw'⟩:=r.get h2;have hl:=r.length;have hn:=zO;have fin:EP X pins σ Q w s:=⟨z,H,I,rw',q⟩
 by_cases h0:0<=i
 ·have hj:i.toNat=j:=by
   rw[seqIndex_of h0 h5]at h1;exact Option.some.inj h1
  exact item_listR pl.isList h0 ⋯ (by rw[hj];simpa using ew) fin hs
 ·have hj:(i+(sf.toArray.size:Int)).toNat=j:=by
   rw[seqIndex_neg ⋯ h4]at h1;rw[WX,<-hl];exact Option.some.inj h1
  exact subscriptTail_builtinR (x:=w) pl.isList.typeIs slot_list_getitem.lookup
   (wpAny_getItem_list_neg (Q:=λr s'=>r=w/\EP X pins σ Q r s') pl.isList ⋯ (by rw[WX]<;>lia) ⋯ (by rw[hj];simpa using ew) ⟨rfl,fin⟩) hs
theorem GJ:P7 X (NN X.K):=by
 intro value slice pins s σ H x y v u Q I rx ry h hs;obtain⟨p,xs,i,z,rfl,rfl,hq,he,q⟩:=h;cases rx;obtain⟨t,rfl⟩:=ry;obtain⟨sf,r,pl,hz⟩:=I.tuple hq;obtain⟨j,h1,h2,h3,h4,h5⟩:=Er he;obtain⟨w,ew,rw'⟩:=r.get h2;have hl:=r.length;have hn:=zO;have fin:EP X pins σ Q w s:=⟨z,H,I,rw',q⟩;exact subscriptTail_builtinR (x:=w) pl.typeIs slot_tuple_getitem.lookup
  (getItem_tuple (j:=j) (Q:=λr s'=>r=w/\EP X pins σ Q r s') pl ⋯ ⋯ (by rw[WX,<-hl];exact h1) (by simpa using ew) ⟨rfl,fin⟩) hs
theorem GI:P7 X NM:=by
 intro value slice pins s σ H x y v u Q I rx ry h hs;obtain⟨z,i,c,rfl,rfl,hz,he,q⟩:=h;obtain⟨t,rfl⟩:=rx;obtain⟨t',rfl⟩:=ry;obtain⟨j,h1,h2,h3,h4,h5⟩:=Er he;have hl:z.cps.toList.length=z.length:=by simp[Str.length]
 rw[hl]at h1 h4 h5;have hn:=zO;exact tail_any (typeIs_str s z t) slot_str_getitem.lookup (getItem_str (c:=c) (by
  have e1:decide (i < -(2^63:Int))=false:=oX ⋯;have e2:decide (i>=2^63)=false:=oX ⋯;rw[e1,e2,Bool.or_false]) (by rw[h1];simpa using h2) ⟨.str ⟨#[c]⟩,H,I.tok _,⟨_,rfl⟩,q⟩) hs
def VY(K:W.Frag):R2:=λx y H Q=>NL K x y H Q\/NN K x y H Q\/NM x y H Q
theorem Zk:P7 X (VY X.K):=U9.or (GJ.or GI)
theorem Nw(sf:List oA)(n j:Nat)(u:oA):af (·.setIfInBounds j u) { cls:=.type "list",data:=.seq sf.toArray n } = { cls:=.type "list",data:=.seq (sf.set j u).toArray n }:=by
 simp[af]
theorem aZ.lst(I:aZ X pins σ H s)(h:H p=oZ (.lst xs)):
  ∃(sf:List oA)(n:Nat),bI xs sf/\s.heap.get? p=oZ { cls:=.type "list",data:=.seq sf.toArray n }/\xs.length<=ky:=by
 obtain⟨z,sf,n,r,e⟩:=I.hok p _ h;exact⟨sf,n,r,e,z⟩
theorem aZ.lstUpd{H:Hp}{s:oB}{ys:List V}{sf its':List oA}{f:Obj->Obj}(I:aZ X pins σ H s)(h:H p=oZ (.lst xs))(ho:s.heap.get? p=oZ { cls:=.type "list",data:=.seq sf.toArray n })(hf:f { cls:=.type "list",data:=.seq sf.toArray n } = { cls:=.type "list",data:=.seq its'.toArray n' })(r:bI ys its')(hz:ys.length<=ky)(t:Nat):
  aZ X pins σ (upd H p (.lst ys)) { s with heap:=s.heap.update p f,toks:=t }:=by
 have e:(s.heap.update p f).get? p=oZ { cls:=.type "list",data:=.seq its'.toArray n' }:=by
  rw[dz f ho (by rw[hf]<;>rfl),hf]
 refine I.write (x:=p) (e:=p) (by rw[h];trivial) (.inl rfl) (λb u hb q=>(jj _ _ (Ne.symm hb)).trans q) ⟨_,e⟩ ?_;exact⟨hz,its',n',r,e⟩
def NO:V->V->V->Hp->(Hp->Prop)->Prop:=λo i v H Q=>∃p xs k j,o = .ref p/\i = .int k/\H p=oZ (.lst xs)/\Sb xs.length k=oZ j/\Q (upd H p (.lst (xs.set j v)))
theorem K3:EA X NO:=by
 intro pins s σ H o i v ov iv u Q I ro ri rv h;obtain⟨p,xs,k,j,rfl,rfl,hp,hj,q⟩:=h;cases ro;obtain⟨t,rfl⟩:=ri;obtain⟨sf,n,r,ho,hz⟩:=I.lst hp;obtain⟨h1,h2,h3,h4⟩:=Sd hj;have hl:=r.length;have hn:=zO;have I':aZ X pins σ (upd H p (.lst (xs.set j v))) { s with heap:=s.heap.update p (af (·.setIfInBounds j u)) }:=
  I.lstUpd hp ho (Nw sf n j u) (r.set rv j) (by rw[ag];exact hz) s.toks
 by_cases h0:0<=k
 ·have hk:k.toNat=j:=by
   rw[seqIndex_of h0 h4]at h1;exact Option.some.inj h1
  exact W.ki_setAt ho h0 ⋯ (by rw[WX,<-hl];exact h4) (by rw[hk];exact⟨_,I',q⟩)
 ·have hk:(k+(sf.toArray.size:Int)).toNat=j:=by
   rw[seqIndex_neg ⋯ h3]at h1;rw[WX,<-hl];exact Option.some.inj h1
  exact W.ki_setBack ho ⋯ (by rw[WX,<-hl];exact h3) ⋯ (by rw[hk];exact⟨_,I',q⟩)
theorem Ie(lo hi:Option Int)(n:Nat):(qi lo hi none n).1=((HT.sIx n 0 lo:Nat):Int)/\(qi lo hi none n).2.1=((HT.sIx n n hi:Nat):Int)/\(qi lo hi none n).2.2=1:=by
 refine⟨?_,?_,rfl⟩
 ·cases lo with
  |none=>simp[qi,HT.sIx]
  |some i=>
   simp only[qi,HT.sIx,Option.getD_none,show(1:Int)>0 by decide,if_true]
   by_cases h:i<0
   ·simp only[h,if_true]<;>lia
   ·simp only[h,if_false]<;>lia
 ·cases hi with
  |none=>simp[qi,HT.sIx]
  |some i=>
   simp only[qi,HT.sIx,Option.getD_none,show(1:Int)>0 by decide,if_true]
   by_cases h:i<0
   ·simp only[h,if_true]<;>lia
   ·simp only[h,if_false]<;>lia
theorem Cb(sf:List oA)(lo hi:Option Int):slicePick sf.toArray lo hi none=((sf.drop (HT.sIx sf.length 0 lo)).take (HT.sIx sf.length sf.length hi-HT.sIx sf.length 0 lo)).toArray:=by
 obtain⟨h1,h2,h3⟩:=Ie lo hi sf.toArray.size;unfold slicePick;rw[h1,h2,h3];simp only[sliceRange_one,pick_run,WX]<;>rfl
def TV(K:W.Frag):V->Option Int->Option Int->Hp->VK->Prop:=λx lo hi H Q=>∃a xs,x = .ref a/\m7 K H a xs/\∀p,H p=none->Q (.ref p) (upd H p (.lst (Jr xs lo hi)))
theorem AQ:QR X (TV X.K):=by
 intro pins s σ H x v vl vu lo hi sl Q I rx hs pl pu h;obtain⟨a,xs,rfl,hx,q⟩:=h;cases rx;obtain⟨sf,r,ht,hz⟩:=I.list hx;have hlen:=r.length;refine⟨"list",_,slot_list_getitem.lookup,ht.isList.typeIs,?_⟩;refine wpAny_getItem_list_slice ht.isList hs pl pu .none (by simp) ?_ (by rw[WX]<;>lia);rw[Cb,<-hlen];refine⟨.ref s.heap.objs.size,_,I.laid (t':=s.toks) (o:=.lst (Jr xs lo hi)) (λb ob q=>WL _ q) (WO _) ?_,rfl,q _ (I.hok.fresh (WO _))⟩;exact⟨XR (xF xs lo hi) hz,_,0,(r.drop (HT.sIx xs.length 0 lo)).take (HT.sIx xs.length xs.length hi-HT.sIx xs.length 0 lo),WV _ rfl⟩
theorem Ex:kN X (.builtin "len") (λxs H Q=>∃p ys,xs=[.ref p]/\(m7 X.K H p ys\/xD X.K H p ys)/\Q (.int ys.length) H):=by
 intro pins s σ H xs us Q I r h;obtain⟨p,ys,rfl,hq,q⟩:=h;obtain⟨u,rfl,rx⟩:=Bc r;cases rx;have hn:=zO;obtain hq|hq:=hq
 ·obtain⟨sf,r',pl,hz⟩:=I.list hq;have hlen:=r'.length;exact Calls.call_len_list pl.isList (by simp only[WX]<;>lia) ⟨.int ys.length,H,I.tok _,⟨s.toks+1,by rw[WX,hlen]⟩,q⟩
 ·obtain⟨sf,r',pl,hz⟩:=I.tuple hq;have hlen:=r'.length;exact len_tuple pl (by simp only[WX]<;>lia) ⟨.int ys.length,H,I.tok _,⟨s.toks+1,by rw[WX,hlen]⟩,q⟩
theorem Ey:kN X (.type "list") (λxs H Q=>∃p ys,xs=[.ref p]/\(m7 X.K H p ys\/xD X.K H p ys)/\∀l,H l=none->Q (.ref l) (upd H l (.lst ys))):=by
 intro pins s σ H xs us Q I r h;obtain⟨p,ys,rfl,hq,q⟩:=h;obtain⟨u,rfl,rx⟩:=Bc r;cases rx;have fin:∀(sf:List oA),bI ys sf->ys.length<=ky->∀(h':oE)(c':Nat),(∀b o',s.heap.get? b=oZ o'->h'.get? b=oZ o')->
   h'.get? s.heap.objs.size=oZ { cls:=.type "list",dict:=none,data:=.seq sf.toArray c',slots:=#[] }->EP X pins σ Q (.ref s.heap.objs.size) { s with heap:=h' }:=λsf r' hz h' c' kp e=>
  ⟨.ref s.heap.objs.size,_,I.laid (t':=s.toks) kp (WO _) (show eD X.prog X.w _ h' _ (.lst ys)from⟨hz,sf,c',r',e⟩),rfl,q _ (I.hok.fresh (WO _))⟩
 obtain hq|hq:=hq
 ·obtain⟨sf,r',pl,hz⟩:=I.list hq;have hlen:=r'.length;obtain⟨o,ho,hc,n,hd⟩:=pl.isList;exact call_list_seq p (.inl rfl) ho hc hd (λh' c' kp e=>fin sf r' hz h' c' kp e) (by simp only[WX]<;>lia)
 ·obtain⟨sf,r',pl,hz⟩:=I.tuple hq;have hlen:=r'.length;obtain⟨o,ho,hc,n,hd⟩:=pl;exact call_list_seq p (.inr rfl) ho hc hd (λh' c' kp e=>fin sf r' hz h' c' kp e) (by simp only[WX]<;>lia)
theorem Bi:kN X (.type "tuple") (λxs H Q=>∃p ys,xs=[.ref p]/\((m7 X.K H p ys/\∀l,H l=none->Q (.ref l) (upd H l (.tup ys)))\/(xD X.K H p ys/\Q (.ref p) H))):=by
 intro pins s σ H xs us Q I r h;obtain⟨p,ys,rfl,h⟩:=h;obtain⟨u,rfl,rx⟩:=Bc r;cases rx;obtain⟨hq,q⟩|⟨hq,q⟩:=h
 ·obtain⟨sf,r',pl,hz⟩:=I.list hq;have hlen:=r'.length;refine call_tuple_list pl.isList (λh' kp=>?_) (by simp only[WX]<;>lia);have I1:aZ X pins σ H { s with heap:=h' }:=I.kept (t':=s.toks) kp;have I2:aZ X pins σ (upd H h'.objs.size (.tup ys)) { s with heap:=h'.push { cls:=.type "tuple",data:=.seq sf.toArray } }:=
   I1.laid (t':=s.toks) (λb o e=>WL _ e) (WO _) (show eD X.prog X.w _ _ _ (.tup ys)from⟨hz,sf,r',IsTup.new _ _⟩)
  exact⟨.ref h'.objs.size,_,I2,rfl,q _ (I1.hok.fresh (WO _))⟩
 ·obtain⟨sf,r',pl,hz⟩:=I.tuple hq;exact call_tuple_same pl ⟨.ref p,H,I,rfl,q⟩
def UG(K:W.Frag)(T:String)(x:V)(H:Hp):Prop:=match x with
 |.str _=>T = "str"
 |.int _=>T = "int"
 |.ref p=>(T = "list"/\∃xs,m7 K H p xs)\/(T = "tuple"/\∃o,K.lookup p=oZ o/\o.cls = .type "tuple"/\o.dict=none)\/
   (T = "dict"/\((∃so,H p=oZ (.dK so))\/∃so,H p=oZ (.dT so)))\/(T = "set"/\∃S n,H p=oZ (.set S n))
 |_=>False
theorem O3(I:aZ X pins σ H s)(r:bS x v)(ty:UG X.K T x H):
  s.TypeIs v T/\∀a,v = .ref a->∃ob,s.heap.get? a=oZ ob/\ob.dict=none:=by
 cases x with
 |str z=>
  obtain⟨t,rfl⟩:=r;cases(show T = "str" from ty);exact⟨typeIs_str s z t,λ_ e=>nomatch e⟩
 |int i=>
  obtain⟨t,rfl⟩:=r;cases(show T = "int" from ty);exact⟨typeIs_int s i t,λ_ e=>nomatch e⟩
 |ref p=>
  cases r;obtain⟨rfl,xs,hq⟩|⟨rfl,o,hk,hc,hd⟩|⟨rfl,hk⟩|⟨rfl,S,n,hk⟩:=ty
  ·obtain⟨sf,_,pl,_⟩:=I.list hq;refine⟨pl.isList.typeIs,λa e=>?_⟩;cases e;obtain⟨o,n,e,c,hd,_⟩:=pl;exact⟨o,e,hd⟩
  ·refine⟨⟨o,I.kIn p o hk,hc⟩,λa e=>?_⟩;cases e;exact⟨o,I.kIn _ o hk,hd⟩
  ·have z:∃o,s.heap.get? p=oZ o/\o.ExactDict:=by
    obtain⟨so,hk⟩|⟨so,hk⟩:=hk
    ·obtain⟨_,_,_,_,o,_,_,e,ex,_⟩:=I.hok p _ hk;exact⟨o,e,ex⟩
    ·obtain⟨_,_,_,_,o,_,_,e,ex,_⟩:=I.hok p _ hk;exact⟨o,e,ex⟩
   obtain⟨o,e,ex⟩:=z;refine⟨⟨o,e,ex.1⟩,λa e2=>?_⟩;cases e2;exact⟨o,e,ex.2.1⟩
  ·obtain⟨o,_,_,_,e,ex,_⟩:=I.hok p _ hk;refine⟨⟨o,e,ex.1⟩,λa e2=>?_⟩;cases e2;exact⟨o,e,ex.2.1⟩
 |_=>exact False.elim ty
def OE(K:W.Frag)(T:String)(r:V->List V->Hp->VK->Prop)(to:TE):TE:=λσ H Q=>to σ H λx H1=>UG K T x H1/\r x [] H1 Q
def KO(K:W.Frag)(T:String)(r:V->List V->Hp->VK->Prop)(to:TE)(t:TA):TE:=λσ H Q=>to σ H λx H1=>UG K T x H1/\t σ H1 λxs H2=>r x xs H2 Q
variable{o e:oC}{es:List oC}{to:TE}{t:TA}{name:Str}{apos aBL:Pos}{T id:String}{r:V->List V->Hp->VK->Prop}
theorem HN(pa:PlainAttrs T)(slot:Slot T name id)(hty:typeOf (.builtin id)=pure (.type "method_descriptor"))(hm:JX X id r)(ho:PE X o to)(wb:mj o name X.env (lq o X.env)=lq o X.env:=by rfl)(wc:(apos.endLine==aBL.line)=true:=by rfl):PE X (.Call (.Attribute o name apos) [] [] aBL) (OE X.K T r to):=by
 intro pins s σ H Q I h;refine wpAny_Call_method0_late wb wc (eC (ho pins s σ H _ I h) λv s1 zZ=>?_);obtain⟨x,H1,I1,r1,ty,q1⟩:=zZ;obtain⟨h1,h2⟩:=O3 I1 r1 ty;exact⟨T,id,pa,slot,hty,h1,h2,Calls.callWith_builtin rfl (PySem.evalArgs_none (hm pins s1 σ H1 x [] v [] Q I1 r1 .nil q1))⟩
theorem Sn(pa:PlainAttrs T)(slot:Slot T name id)(hty:typeOf (.builtin id)=pure (.type "method_descriptor"))(hm:JX X id r)(ho:PE X o to)(ha:PA X (e::es) t)(wb:mj o name X.env (lq o X.env)=lq o X.env:=by rfl)(aIP:((qr aBL (md (e::es) X.env)).all (λx=>!x.1)&&(backToKw aBL (keywordEach [] X.env)).all (λx=>x.1.isSome)
  &&decide ((e::es).length+([]:List Keyword).length+(if([]:List Keyword).isEmpty then 0 else 1)<30))=true:=by rfl)(wc:(apos.endLine==aBL.line)=true:=by rfl)(hs:md (e::es) X.env=(false,lq e X.env)::md es X.env:=by rfl)(aE4:(qr aBL (md es X.env)).any (·.1)=false:=by rfl):
  PE X (.Call (.Attribute o name apos) (e::es) [] aBL) (KO X.K T r to t):=by
 intro pins s σ H Q I h;refine wpAny_Call_method_late wb aIP wc rfl (eC (ho pins s σ H _ I h) λv s1 zZ=>?_);obtain⟨x,H1,I1,r1,ty,q1⟩:=zZ;obtain⟨h1,h2⟩:=O3 I1 r1 ty;refine⟨T,id,pa,slot,hty,h1,h2,?_⟩;have hA:=ha aBL pins s1 σ H1 _ I1 q1;rw[hs]at hA⊢;refine Calls.callWith_builtin (by show(false||(qr aBL (md es X.env)).any (·.1))=false;rw[aE4]<;>rfl) (Calls.evalArgs_plain ?_);exact eC hA λus s2 zZ=>by obtain⟨vs,H2,I2,r2,q2⟩:=zZ;exact hm pins s2 σ H2 x vs v us Q I2 r1 r2 q2
/- xs.append(e),list.index on a module's tuple .. are JX facts of 06m -/
end
def RI(X:Cx)(id:String)(r:V->List V->Hp->VK->Prop):Prop:=
 ∀(pins:List (jz×Obj))(s:oB)(σ:St)(H:Hp)(x:V)(xs:List V)(v:oA)(us:List oA)(Q:VK),aZ X pins σ H s->bS x v->bI xs us->r x xs H Q->
  kh (km X.prog X.w) X.A (call (.builtin id) (v::us)) (EP X pins σ Q) X.xe s
theorem bI.one:∀{x:V}{us:List oA},bI [x] us->∃u,us=[u]/\bS x u:=by
 intro x us h;cases h with
 |cons r t=>cases t;exact⟨_,rfl,r⟩
theorem bI.two:∀{x y:V}{us:List oA},bI [x,y] us->∃u v,us=[u,v]/\bS x u/\bS y v:=by
 intro x y us h;cases h with
 |cons r t=>
  obtain⟨v,rfl,q⟩:=bI.one t;exact⟨_,_,rfl,r,q⟩
theorem bI.eraseIdx:∀{xs:List V}{us:List oA}(i:Nat),bI xs us->bI (xs.eraseIdx i) (us.eraseIdx i)
 |_,_,_,.nil=>.nil
 |_,_,0,.cons _ t=>t
 |_,_,i+1,.cons r t=>.cons r (bI.eraseIdx i t)
theorem bI.reverse(h:bI xs us):bI xs.reverse us.reverse:=by
 induction h with
 |nil=>exact .nil
 |cons r t ih=>rw[ZR,ZR];exact bI.append ih (.cons r .nil)
theorem bI.rep(h:bI xs us):∀k:Nat,bI (WN k xs).flatten (WN k us).flatten
 |0=>.nil
 |k+1=>by
  rw[YE,YE,YV,YV];exact bI.append h (bI.rep h k)
theorem Dl{α:Type}:∀(l:List α)(i:Nat),(l.eraseIdx i).length<=l.length
 |[],_=>WO _
 |_::_,0=>fm _
 |_::r,i+1=>aw (Dl r i)
theorem Dh(sf:List oA):∀(k:Nat)(acc:List oA),
  bc (λx1 x2=>x1++x2) acc.toArray (WN k sf.toArray)=(acc++(WN k sf).flatten).toArray
 |0,acc=>by simp
 |k+1,acc=>by
  have e:acc.toArray++sf.toArray=(acc++sf).toArray:=by simp
  have e2:(acc++sf)++(WN k sf).flatten=acc++(WN (k+1) sf).flatten:=by
   rw[YE,YV,XB]
  rw[<-e2,<-Dh sf k (acc++sf),<-e,YE,List.foldl_cons]
theorem aZ.lset{H:Hp}{s:oB}{ys:List V}{sf its':List oA}{f:Array oA->Array oA}(I:aZ X pins σ H s)(hH:H l=oZ (.lst xs))(e:s.heap.get? l=oZ { cls:=.type "list",data:=.seq sf.toArray n })(hf:f sf.toArray=its'.toArray)(hv:bI ys its')(hz:ys.length<=ky):
  aZ X pins σ (upd H l (.lst ys)) { s with heap:=s.heap.update l (af f),toks:=t' }:=by
 have q:=PySem.IsL.update e f;rw[hf]at q;refine I.write (x:=l) (e:=l) (by rw[hH];exact trivial) (.inl rfl) (λb' u hb hu=>(jj s.heap (af f) (Ne.symm hb)).trans hu) ⟨_,q⟩ ?_;exact⟨hz,its',_,hv,q⟩
theorem aZ.lnew(I:aZ X pins σ H s)(hv:bI ys sf)(hz:ys.length<=ky):
  aZ X pins σ (upd H s.heap.objs.size (.lst ys)) { s with heap:=s.heap.push { cls:=.type "list",data:=.seq sf.toArray },toks:=t' }:=
 I.laid (λ_ _ q=>WL _ q) (WO _) ⟨hz,sf,0,hv,WV _ rfl⟩
theorem aZ.fresh(I:aZ X pins σ H s):H s.heap.objs.size=none:=I.hok.fresh (WO _)
theorem aZ.lstM(I:aZ X pins σ H s)(hH:H l=oZ (.lst xs)):xs.length<=ky/\∃(sf:List oA)(n:Nat),bI xs sf/\xs.length=sf.length/\s.heap.get? l=oZ { cls:=.type "list",data:=.seq sf.toArray n }:=by
 obtain⟨z,sf,n,r,e⟩:=I.hok l _ hH;exact⟨z,sf,n,r,r.length,e⟩
theorem Kn(h:n<=ky):Builtin.List.listTooLong n=false:=by
 unfold Builtin.List.listTooLong;exact oX ⋯
def Hj:V->List V->Hp->VK->Prop:=λx vs H Q=>∃l xs y,x = .ref l/\vs=[y]/\H l=oZ (.lst xs)/\xs.length<ky/\Q .non (upd H l (.lst (xs++[y])))
theorem Dn:RI X "list.append" Hj:=by
 intro pins s σ H x vs v us Q I rx rv h;obtain⟨l,xs,y,rfl,rfl,hH,hz,q⟩:=h;cases rx;obtain⟨u,rfl,ru⟩:=rv.one;obtain⟨z,sf,n,r,hl,e⟩:=I.lstM hH;refine rh F.slot_list_append ⟨_,e,rfl⟩ F.entry_list_append (F.args_list_append_2 _ _) (PySem.list_append l sf.toArray n u (by rw[WX];lia)) ⟨e,?_⟩;refine⟨.non,_,I.lset (its':=sf++[u]) hH e (by simp) (r.append (.cons ru .nil)) ?_,rfl,q⟩;rw[WK,WY]
 lia
def Sy:V->List V->Hp->VK->Prop:=λx vs H Q=>∃l b xs zs,x = .ref l/\vs=[.ref b]/\H l=oZ (.lst xs)/\H b=oZ (.lst zs)/\xs.length+zs.length<=ky/\Q .non (upd H l (.lst (xs++zs)))
theorem Vu:RI X "list.extend" Sy:=by
 intro pins s σ H x vs v us Q I rx rv h;obtain⟨l,b,xs,zs,rfl,rfl,hH,hB,hz,q⟩:=h;cases rx;obtain⟨u,rfl,ru⟩:=rv.one;cases ru;obtain⟨z,sf,n,r,hl,e⟩:=I.lstM hH;obtain⟨z2,aCC,n2,r2,hl2,e2⟩:=I.lstM hB;have hsz:sf.toArray.size+aCC.toArray.size<=ky:=by rw[WX,WX];lia
 have aDI:¬(!sf.toArray.isEmpty&&Builtin.List.listTooLong (sf.toArray.size+aCC.toArray.size))=true:=by
  rw[Kn hsz,jr];exact ZM
 refine rh F.slot_list_extend ⟨_,e,rfl⟩ F.entry_list_extend (F.args_list_extend_2 _ _)
  (AutoSeq1.list_extend_list_list_0 l sf.toArray n b aCC.toArray n2 aDI (by rw[WX];lia) ⋯) ⟨e,e2,?_⟩
 refine⟨.non,_,I.lset (its':=sf++aCC) hH e (by simp) (r.append r2) ?_,rfl,q⟩;rw[WK]
 lia
def G0:V->List V->Hp->VK->Prop:=λx vs H Q=>∃l xs i k y,x = .ref l/\vs=[.int i]/\H l=oZ (.lst xs)/\-(2^63)<=i/\i<2^63/\seqIndex? i xs.length=oZ k/\xs[k]?=oZ y/\Q y (upd H l (.lst (xs.eraseIdx k)))
theorem Zy:RI X "list.pop" G0:=by
 intro pins s σ H x vs v us Q I rx rv h;obtain⟨l,xs,i,k,y,rfl,rfl,hH,h1,h2,hk,hy,q⟩:=h;cases rx;obtain⟨u,rfl,ru⟩:=rv.one;obtain⟨t,rfl⟩:=ru;obtain⟨z,sf,n,r,hl,e⟩:=I.lstM hH;obtain⟨w,hw,rw'⟩:=r.get hy;refine rh F.slot_list_pop ⟨_,e,rfl⟩ F.entry_list_pop (F.args_list_pop_2 _ _)
  (MeetsSeq.list_pop_at l sf.toArray n i t k w (fitsIndex_both h1 h2) (by rw[WX,<-hl];exact hk) (by rw[<-jt];exact hw) (by rw[WX];lia)) ⟨e,?_⟩
 refine⟨y,_,I.lset (its':=sf.eraseIdx k) hH e ?_ (r.eraseIdx k) ?_,rw',q⟩
 ·show sf.toArray.eraseIdxIfInBounds k=(sf.eraseIdx k).toArray;rw[List.eraseIdxIfInBounds_toArray]
 ·have:=Dl xs k
  lia
def TR:R2:=λx y H Q=>∃l b xs zs,x = .ref l/\y = .ref b/\H l=oZ (.lst xs)/\H b=oZ (.lst zs)/\xs.length+zs.length<=ky/\∀p,H p=none->Q (.ref p) (upd H p (.lst (xs++zs)))
theorem HF:o8 X (mr .Add) TR:=by
 intro pins s σ H x y v u Q I rx ry h;obtain⟨l,b,xs,zs,rfl,rfl,hH,hB,hz,q⟩:=h;cases rx;cases ry;obtain⟨z,sf,n,r,hl,e⟩:=I.lstM hH;obtain⟨z2,aCC,n2,r2,hl2,e2⟩:=I.lstM hB;refine PySem.P.add_list e e2 ?_ (by rw[WX,WX];lia);have ea:sf.toArray++aCC.toArray=(sf++aCC).toArray:=by simp
 rw[ea];exact⟨.ref _,_,I.lnew (t':=s.toks) (r.append r2) (by rw[WK];lia),rfl,q _ I.fresh⟩
def TU:R2:=λx y H Q=>∃l k xs,x = .ref l/\y = .int k/\H l=oZ (.lst xs)/\-(2^63)<=k/\k<2^63/\xs.length*k.toNat<=ky/\
 ∀p,H p=none->Q (.ref p) (upd H p (.lst (WN k.toNat xs).flatten))
theorem V4{α:Type}(xs:List α)(k:Nat):(WN k xs).flatten.length=k*xs.length:=by
 induction k with
 |zero=>simp
 |succ k ih=>rw[YE,YV,WK,ih,Nat.succ_mul,ZS]
theorem HI:o8 X (mr .Mult) TU:=by
 intro pins s σ H x y v u Q I rx ry h;obtain⟨l,k,xs,rfl,rfl,hH,h1,h2,hz,q⟩:=h;cases rx;obtain⟨t,rfl⟩:=ry;obtain⟨z,sf,n,r,hl,e⟩:=I.lstM hH;have hlen:sf.toArray.size*k.toNat<=ky:=by rw[WX,<-hl];exact hz
 have aIR:¬sf.toArray.size*k.toNat>(2^63-1)/8:=by
  have:(ky:Nat)<=(2^63-1)/8:=∅
  lia
 have aIS:¬(!Builtin.List.listFitsIndex k)=true:=by
  rw[fitsIndex_both h1 h2];exact ZM
 have aDI:¬Builtin.List.listTooLong (sf.toArray.size*k.toNat)=true:=by
  rw[Kn hlen];exact ZM
 have aIT:bc (λx1 x2=>x1++x2) #[] (WN (if sf.toArray.isEmpty=true then 0 else k.toNat) sf.toArray)=(WN k.toNat sf).flatten.toArray:=by
  have f0:∀m:Nat,bc (λx1 x2=>x1++x2) #[] (WN m sf.toArray)=(WN m sf).flatten.toArray:=λm=>by
   have:=Dh sf m [];rw[List.nil_append]at this;exact this
  rw[f0];cases sf with
  |nil=>simp
  |cons a r'=>rw[oW (by simp)]
 refine wpAny_binaryOp_repeat_ref (T:="list") (U:="int") ∅ ⟨_,e,rfl⟩ (λs'=>typeIs_int s' k t) noFill_list_mul F.fills_int_mul F.slot_int_rmul repeat_list F.slot_int_index.lookup
  (rh F.slot_int_rmul (typeIs_int s k t) F.entry_int_rmul (F.args_int_rmul_2 _ _) (int___rmul___int_list k t l sf.toArray n)
   ⟨e,rfl,⟨_,e,rfl⟩,rh F.slot_list_mul ⟨_,e,rfl⟩ F.entry_list_mul (F.args_list_mul_2 _ _) (AutoListH.list___mul___list_int_3 l sf.toArray n k t aIS aIR aDI) ⟨e,?_⟩⟩)
 rw[aIT];exact⟨.ref _,_,I.lnew (t':=s.toks) (r.rep k.toNat) (by rw[V4,Nat.mul_comm];exact hz),rfl,q _ I.fresh⟩
end L2
namespace Att
open PySem PySem.W PySem.Calls PyProof.Rows
theorem xQ:∀(ns:List Int)(vs:List oA),WellAll P h vs (ns.map WData.int)->IntsAre vs ns:=by
 intro ns
 induction ns with
 |nil=>
  intro vs w;rw[List.map_nil]at w;cases w;exact .nil
 |cons n ns ih=>
  intro vs w;rw[YH]at w;cases w with
  |cons a b=>
   cases a;exact .cons _ _ (ih _ b)
theorem Wz{l:OpenLaw}(hn:l.most=oZ n){h:oE}(aD0:l.row.toRowW.claim.pre args=true)(hwl:WellAll P h vals args):
  ∃a vs ns,vals=[YB a]/\args=[WData.list (ns.map WData.int)]/\h.get? a=oZ { cls:=.type "list",data:=.seq vs.toArray }/\IntsAre vs ns/\ns.length<=n:=by
 have hsh:WShape.hasAll [] args [.list .int]=true:=(pre_splitW aD0).1;have hc:l.pre.holds [] { args:=args } = true:=(pre_splitW aD0).2;obtain⟨d,r,rfl,h1,h2⟩:=hasAllW_cons hsh;obtain rfl:=hasAllW_nil h2;obtain⟨xs,rfl,h3⟩:=hasW_list h1;obtain⟨ns,rfl⟩:=items_int h3;have hlen:ns.length<=n:=by
  unfold OpenLaw.pre at hc;have h4:(WTm.not (.lt (.lit (.int (n:Int))) (.len (.arg 0)))).holds [] { args:=[.list (ns.map .int)] } = true:=by
   have h4:=(holds_andW hc).1;rw[hn]at h4;exact h4
  have h5:=condW_of h4 (w_not (w_lt w_lit (w_len_list (w_arg rfl))));rw[WJ]at h5;refine Nat.le_of_not_lt λq=>?_;have q':(n:Int)<((ns.length:Nat):Int):=⋯
  first
   |(rw[oY q']at h5;exact absurd h5 ∅)
   |(simp at h5;lia)
 cases hwl with
 |cons w1 w2=>
  cases w2;cases w1 with
  |list ho aE5=>exact⟨_,_,ns,rfl,rfl,ho,xQ ns _ aE5,hlen⟩
theorem Wo(l:OpenLaw)(args:List WData):l.row.toRowW.claim.post args (.bool true) args=true:=
 postW_of (r:=l.row.toRowW) (X:=(true==true))
  (show WShape.has [] (.bool true) .bool=true by first|rfl|decide|simp[WShape.has,WShape.arms,WShape.armsAll])
  (show(WTm.eq .res (.lit (.bool true))).value [] { args:=args,res:=oZ (.bool true),after:=args } = oZ (.bool (true==true))from w_eq_bool (w_res rfl) w_lit) rfl
theorem attach_call{l:OpenLaw}{XP:(Str->Option oA)->oE->Prop}{YP:ko->oE->Prop}{d:DefRec}(hn:l.most=oZ n)(hdf:d.params.defaults=[])(call:∀(w:ko)(s₀ s₁:oB)(mg mb:Str->Option oA)(fa:jz)(o:Obj)(pm cd doc:oA)(a:jz)(vs:List oA)(ns:List Int),
   Ground q loose [] XP w s₀ mg mb s₁.heap->YP w s₁.heap->
   s₁.heap.get? fa=oZ o->o.data = .func (docDef d.name d.params d.body d.scope pm cd doc)->s₁.heap.CodeRec cd d.name->mg d.name=oZ (.ref fa)->
   s₁.heap.get? a=oZ { cls:=.type "list",data:=.seq vs.toArray }->IntsAre vs ns->ns.length<=n->s₁.gens = #[]->
   qx (km l.prog w) rk (.call (.ref fa) ⟨[.ref a],[]⟩) (λr s'=>r = .ok (.ret (.bool true))/\OldK s₁.heap s'.heap/\s'.os=s₁.os/\pg s'.gens) s₁):
  WalkO q loose XP YP l.row.toRowW d [] (λf vs=>PySem.call f vs):=by
 intro w s₀ s₁ mg mb G Y fa o pm cd doc dV kV ho hd hcd hD hmg hg args vals as aD0 aMF hrd hwl hlo;obtain rfl:dV = .none:=Dflts.none hD hdf;obtain rfl:kV = .none:=Dflts.noKw hD;obtain⟨a,vs,ns,rfl,rfl,aE6,hints,hlen⟩:=Wz hn aD0 hwl;refine enter_call (rn (call w s₀ s₁ mg mb fa o pm cd doc a vs ns G Y ho (fd_plain hd) hcd hmg aE6 hints hlen hg) λr s' hq=>?_);obtain⟨rfl,h2,h3,h4⟩:=hq;exact⟨.inl ⟨.bool true,.bool true,[],rfl,λ_=>rfl,.bool true,Wo l _,λ_=>⟨List.Pairwise.nil,λ_ hm=>(nomatch hm)⟩⟩,h2,h3,h4⟩
end Att
namespace L2
open PySem PySem.Spec PyProof.Rows
theorem Ei:∀{vs:List oA}{ns:List Int},IntsAre vs ns->bI (ns.map V.int) vs
 |_,_,.nil=>.nil
 |_,_,.cons n t h=>.cons ⟨t,rfl⟩ (Ei h)
def DZ(H:Hp):Prop:=∀b,H b=none\/∃o xs,H b=oZ (.frz o (.lst xs))
theorem Zq{K:W.Frag}{mb:Str->Option oA}{CX:Iw}{sp:Sp}{s₁:oB}{vs:List oA}{ns:List Int}(KX:K.In s₁.heap)(hns:s₁.heap.Ns kr mg)(hb:s₁.heap.Ns builtinsNs mb)(hbb:∀x:Str,x≠"__name__"->mb x=og x)(aIV:s₁.heap.NoLimit)(hg:s₁.gens = #[])(ha:s₁.heap.get? a=oZ { cls:=.type "list",data:=.seq vs.toArray })(hi:IntsAre vs ns)(hl:ns.length<=ky)(hr:d5 k rk)(F:∀base:oE,K.In base->base.Ns kr mg->aV P w K mg base CX k fa fd [x] sp)(aGI:∀(s:oB)(u:oA),BindsTo s fd ⟨[u],[]⟩ [(x,u)])(hsp:∀H:Hp,DZ H->m7 K H a (ns.map V.int)->sp [.ref a] H (λv _=>v = .bl true) λ_ _ _=>False)(hCX:∀H e s',CX [] H s₁ (λ_ _ _=>False) e s'->False):
  qx (km P w) rk (.call (.ref fa) ⟨[.ref a],[]⟩) (λr s'=>r = .ok (.ret (.bool true))/\OldK s₁.heap s'.heap/\s'.os=s₁.os/\pg s'.gens) s₁:=by
 have rv:=Ei hi;have aIX:=hi.length
 -- from an abstract heap in which nothing but the script may be tracked
 have core:∀H:Hp,DZ H->m7 K H a (ns.map V.int)->rK P w H s₁.heap->(∀b,H b≠none->b=a)->(H a≠none->K.lookup a=none)->
   qx (km P w) rk (.call (.ref fa) ⟨[.ref a],[]⟩) (λr s'=>r = .ok (.ret (.bool true))/\OldK s₁.heap s'.heap/\s'.os=s₁.os/\pg s'.gens) s₁:=by
  intro H hO hS hok hA hK;have aC2:∀{b:jz}{o:Obj},s₁.heap.get? b=oZ o->H b=none->(Gb s₁.heap H).get? b=oZ o:=λe n=>Zb e n;have noA:∀{b:jz}{o:Obj}{es:Array DictEntry}{ep:Nat},s₁.heap.get? b=oZ o->o.data = .dict es ep->H b=none:=λ{b o es ep}e d=>by
   cases q:H b with
   |none=>rfl
   |some u=>
    have e':b=a:=hA b (by rw[q];simp);subst e';rw[ha]at e;cases e;have d':Data.seq vs.toArray _=Data.dict es ep:=d;cases d'
  have nsK:∀{b:jz}{m:Str->Option oA},s₁.heap.Ns b m->(Gb s₁.heap H).Ns b m:=λ{b m}zZ=>by obtain⟨o,es,ep,e,d,r⟩:=zZ;exact⟨o,es,ep,aC2 e (noA e d),d,r⟩
  have hKb:K.In (Gb s₁.heap H):=λb o e=>aC2 (KX b o e) (by
   cases q:H b with
   |none=>rfl
   |some u=>
    have e':b=a:=hA b (by rw[q];simp);subst e';rw[hK (by rw[q];simp)]at e;cases e)
  have hM:Mod K mg (Gb s₁.heap H):=⟨hKb,nsK hns,⟨mb,nsK hb,hbb⟩,let⟨mc,h1,h2⟩:=aIV;⟨mc,nsK h1,h2⟩⟩;have e0:Xi P w K mg (Gb s₁.heap H) rk [] s₁ H:=⟨rfl,hM,λb o e=>W2 e,Nat.le_of_eq (Vo _ _),trivial,λb hb=>absurd (show b∈([]:List jz)from hb) (by simp),hok,.of_eq hg⟩;refine rn ((F _ hKb (nsK hns)).run rk [] s₁ H ⟨[.ref a],[]⟩ [.ref a] [.ref a] _ _ hr e0 (aGI s₁ (.ref a)) (.cons rfl .nil) (hsp H hO hS)) λr s' h=>?_;cases r with
  |error e=>exact(hCX H e s' h).elim
  |ok fl=>
   cases fl with
   |next=>exact False.elim h
   |brk=>exact False.elim h
   |cont=>exact False.elim h
   |ret u=>
    obtain⟨v,H',os,bare,un,aIY,r',q⟩:=h;have q':v = .bl true:=q;subst q';obtain rfl:u=Value.bool true:=r';refine⟨rfl,OldK.of_keep λb o e=>?_,os,bare⟩;cases q:H b with
    |none=>exact un.keep b o e q (by intro z;exact absurd (show b∈([]:List jz)from z) (by simp)) (by simp)
    |some u=>
     obtain z|⟨ob,xs,z⟩:=hO b
     ·rw[q]at z;cases z
     ·have z2:=un.frzs b ob _ z;obtain⟨e1,_⟩:=hok b _ z;obtain⟨e2,_⟩:=aIY b _ z2;rw[e]at e1;cases e1;exact e2
 cases hk:K.lookup a with
 |some o=>
  -- the script is one of the module's own objects
  have e:=KX a o hk;rw[ha]at e;cases e;refine core (λ_=>none) (λ_=>.inl rfl) (.inr ⟨_,vs.toArray,_,hk,rfl,rfl,rfl,by rw[WX,aIX];exact hl,by simpa using rv⟩) (λb u z=>by have z':(none:Option HO)=oZ u:=z;cases z') (λb z=>absurd rfl z) λz=>absurd rfl z
 |none=>
  refine core (λb=>if b=a then oZ (.frz { cls:=.type "list",data:=.seq vs.toArray } (.lst (ns.map V.int)))else none) (λb=>?_) (.inl (.inr ⟨{ cls:=.type "list",data:=.seq vs.toArray },oV rfl⟩)) (λb u z=>?_) (λb z=>?_) λ_=>hk
  ·by_cases hb:b=a
   ·exact .inr ⟨_,_,oV hb⟩
   ·exact .inl (oW hb)
  ·by_cases hb:b=a
   ·have z':=(oV hb).symm.trans z;cases z';subst hb;exact⟨ha,by rw[WJ];exact hl,vs,_,rv,ha⟩
   ·have z':=(oW hb).symm.trans z;cases z'
  ·by_cases hb:b=a
   ·exact hb
   ·exact absurd (oW hb) z
theorem BF{l:W.OpenLaw}{XP:(Str->Option oA)->oE->Prop}{YP:ko->oE->Prop}{d:DefRec}{K:Params->W.Frag}{CX:ko->Iw}{sp:ko->Sp}(hn:l.most=oZ n)(hn2:n<=ky)(hdf:d.params.defaults=[])(hr:d5 k rk)(hY:∀(w:ko)(h:oE),YP w h->(K w.params).In h)(F:∀(w:ko)(mg:Str->Option oA)(fa:jz)(h:oE),(K w.params).In h->h.Ns kr mg->mg d.name=oZ (.ref fa)->
   ∃fd:mf,(∀(s:oB)(u:oA),BindsTo s fd ⟨[u],[]⟩ [(x,u)])/\
    ∀base:oE,(K w.params).In base->base.Ns kr mg->aV l.prog w (K w.params) mg base (CX w) k fa fd [x] (sp w))(hsp:∀(w:ko)(H:Hp)(a:jz)(ns:List Int),ns.length<=n->DZ H->m7 (K w.params) H a (ns.map V.int)->sp w [.ref a] H (λv _=>v = .bl true) λ_ _ _=>False)(hCX:∀(w:ko)(H:Hp)(s:oB)(e:oA)(s':oB),CX w [] H s (λ_ _ _=>False) e s'->False):
  W.WalkO q loose XP YP l.row.toRowW d [] (λf vs=>PySem.call f vs):=by
 refine Att.attach_call hn hdf λw s₀ s₁ mg mb fa o pm cd doc a vs ns G Y ho hd hcd hmg aE6 hints hlen hg=>?_;have KX:=hY w _ Y;obtain⟨fd,hb,hF⟩:=F w mg fa _ KX G.T.g hmg;exact Zq KX G.T.g G.T.b G.T.builtins G.T.nolimit hg aE6 hints (XR hlen hn2) hr hF hb (λH hO hS=>hsp w H a ns hlen hO hS) λH e s'=>hCX w H s₁ e s'
end L2
/- THE LAST THEOREM (shape;LID,My.* are yours):
   My.Adr: a structure of the addresses that your layer names (classes,functions);My.Txt K t: a structure (Prop) of the equations over K;
   My.txt_mk:{K} {implicit addresses ..} (e1:nsIn K kr "law" = oZ (oZ (.ref f))) (e2:K.lookup f=oZ ⟨oc,od,.func (fnOf "law" "law" params body scope dV kV doc pm an wj ct),sl⟩) (e3:codeIn K wj "law" = true) .. : ∃t,My.Txt K t
set_option maxRecDepth 100000 in
set_option maxHeartbeats 0 in
(the tactic k_is has no namespace: write k_is) -/
namespace L2
open PySem PySem.Spec PyProof.Rows
def fY(s:ki):Arguments:=match s with
 |.FunctionDef _ a _ _ _ _ _ _ _ _=>a
 |_=>{ posonlyargs:=[],args:=[],vararg:=none,kwonlyargs:=[],kw_defaults:=[],kwarg:=none,defaults:=[] }
def c7(s:ki):List ki:=match s with
 |.FunctionDef _ _ b _ _ _ _ _ _ _=>b
 |_=>[]
def aC(s:ki):qk:=match s with
 |.FunctionDef _ _ _ _ _ _ sc _ _ _=>sc
 |_=>{ kind:=.function,names:=[],isGenerator:=false,isCoroutine:=false }
abbrev cM:Iw:=λ_ _ _ _ _ _=>False
abbrev E0:XK:=λ_ _ _=>False
theorem MS:Mo cM X E0:=λ_ _ _ _ _ _ _ h=>h.elim
structure cK(K:W.Frag)(x qual:Str)(st:ki)(f:jz)(fd:mf):Prop where
 ex:∃(oc:oA)(od:Option jz)(kV doc pm:oA)(an:Option jz)(wj ct:oA)(osl:Array (Option oA)),
  fd=W.fnOf x qual (fY st) (c7 st) (aC st) .none kV doc pm an wj ct/\K.lookup f=oZ ⟨oc,od,.func fd,osl⟩/\W.codeIn K wj qual=true
 kp:W.keepIn K (.ref f)=true
theorem cK.ok{P:kg}{w:ko}{K:W.Frag}{mg:Str->Option oA}{base:oE}{x qual:Str}{st:ki}{f:jz}{fd:mf}{N ps:List Str}{k:Nat}{sp:Sp}(F:cK K x qual st f fd)(S:aF N ps (aC st))(len:∀vs H Q E,sp vs H Q E->vs.length=ps.length)(aCB:∀(wj:oA)(A:oD)(outer:List Env)(s:oB)(H:Hp)(vs:List V)(Q:VK)(E:XK),d5 k (A.deeper (ph qual (aC st) s.heap.objs.size f wj))->sp vs H Q E->
   ∃t,Qx (zE cM P w K mg base N qual (aC st) f wj A outer s H E).nox (c7 st) t/\t { nx:=λ_ H'=>Q .non H',rt:=Q } (lC N vs) H):(~~~aV) cM (k+1) f fd ps sp:=by
 obtain⟨oc,od,kV,doc,pm,an,wj,ct,osl,rfl,lk,hcd⟩:=F.ex;refine LZ lk hcd S len λA outer s H vs Q E hr hsp=>?_;obtain⟨t,h,q⟩:=aCB wj A outer s H vs Q E hr hsp;exact⟨t,h.nox,q⟩
theorem cK.binds{K:W.Frag}{x qual:Str}{st:ki}{f:jz}{fd:mf}{ps:List Str}(F:cK K x qual st f fd)(h:∀(kV doc pm:oA)(an:Option jz)(wj ct:oA)(us:List oA),us.length=ps.length->bindArgs (W.fnOf x qual (fY st) (c7 st) (aC st) .none kV doc pm an wj ct) ⟨us,[]⟩=pure (ps.zip us)):lG K fd ps []:=by
 obtain⟨oc,od,kV,doc,pm,an,wj,ct,osl,rfl,lk,hcd⟩:=F.ex;exact .all (h kV doc pm an wj ct)
theorem Yw{K:W.Frag}{x qual:Str}{st:ki}{f:jz}{oc:oA}{od an:Option jz}{osl:Array (Option oA)}{kV doc pm wj ct:oA}(l:K.lookup f=oZ ⟨oc,od,.func (W.fnOf x qual (fY st) (c7 st) (aC st) .none kV doc pm an wj ct),osl⟩)(c:W.codeIn K wj qual=true)(k:W.keepIn K (.ref f)=true):cK K x qual st f (W.fnOf x qual (fY st) (c7 st) (aC st) .none kV doc pm an wj ct):=⟨⟨oc,od,kV,doc,pm,an,wj,ct,osl,rfl,l,c⟩,k⟩
theorem BW(hr:d5 k A):A.units+1<qp:=XY (Nat.add_le_add_left (by decide:1<=64) _) hr.units
theorem cL(h:n<=9000):n<ky:=XY h ∅
theorem Uq:kN X (.builtin "abs") (λxs H Q=>∃i:Int,xs=[.int i]/\Q (.int (i.natAbs:Int)) H):=by
 intro pins s σ H xs us Q I r h;obtain⟨i,rfl,q⟩:=h;obtain⟨u,rfl,rx⟩:=Bc r;obtain⟨t,rfl⟩:=rx;have e:(if i<0 then -i else i)=(i.natAbs:Int):=by split<;>lia
 exact call_abs_int λu tk=>⟨.int (i.natAbs:Int),H,I.tok _,⟨u,by rw[e]⟩,q⟩
theorem Uu:kN X (.type "int") (λxs H Q=>∃b:Bool,xs=[.bl b]/\Q (.int (if b then 1 else 0)) H):=by
 intro pins s σ H xs us Q I r h;obtain⟨b,rfl,q⟩:=h;obtain⟨u,rfl,rx⟩:=Bc r;cases rx;exact PySem.call_int_bool ⟨.int _,H,I.tok _,⟨_,rfl⟩,q⟩
theorem Ux(hc:X.calm=true):kN X (.builtin "min") (λxs H Q=>∃a b:Int,xs=[.int a,.int b]/\Q (.int (if b<a then b else a)) H):=by
 intro pins s σ H xs us Q I r h;obtain⟨a,b,rfl,q⟩:=h;obtain⟨u,v,rfl,rx,ry⟩:=bI.two r;obtain⟨t,rfl⟩:=rx;obtain⟨t',rfl⟩:=ry;refine min_two_ints (I.ok.hd hc) λh' tk hk=>?_
 by_cases c:b<a
 ·simp only[oV c]at q⊢;exact⟨.int b,H,I.kept hk,⟨_,rfl⟩,q⟩
 ·simp only[oW c]at q⊢;exact⟨.int a,H,I.kept hk,⟨_,rfl⟩,q⟩
theorem Ur(hc:X.calm=true):kN X (.builtin "all") (λxs H Q=>∃(p:jz)(bs:List Bool),xs=[.ref p]/\m7 X.K H p (bs.map V.bl)/\Q (.bl (bs.all id)) H):=by
 intro pins s σ H xs us Q I r h;obtain⟨p,bs,rfl,hq,q⟩:=h;obtain⟨u,rfl,rx⟩:=Bc r;cases rx;obtain⟨sf,rv,pl,hz⟩:=I.list hq;have zw:p≠s.heap.objs.size:=by
  obtain⟨o,n,ho,_⟩:=pl;exact XM (WR ho)
 have hl:=rv.length;rw[WJ]at hl;have hA:X.A.in1.handled=none:=I.ok.hd hc;refine call_all_walk (wpAny_pyIter_list pl.isList ?_);refine⟨s.heap.objs.size,_,_,_,_,_,(λi=>bs.getD i true),rfl,Walks.list hA s.heap.objs.size p zw sf.toArray,⟨⟨_,WV _ rfl,rfl,rfl⟩,pl.isList.at λo e=>WL _ e⟩,?_,?_⟩
 ·intro i v s' Q' E' hv hQ';have hv':sf[i]?=oZ v:=by simpa using hv
  have hi:i<sf.length:=(WE.mp hv').1;have hb:(bs.map V.bl)[i]?=oZ (V.bl bs[i]):=by
   rw[WH,WG ⋯];rfl
  obtain⟨u,hu,ru⟩:=rv.get hb;rw[hv']at hu;cases hu;cases ru;have e:bs.getD i true=bs[i]:=by rw[XC,WG ⋯];rfl
  simp only[e]at hQ';exact mw hQ'
 ·intro h' tk hk;have e:(XH sf.toArray.size).all (λi=>bs.getD i true)=bs.all id:=by
   rw[WX,<-hl];clear hl hz rv q hq pl zw;rw[jf,ZK,ZK];constructor
   ·intro h b hb;obtain⟨i,hi,rfl⟩:=List.mem_iff_getElem.mp hb;have:=h i (ZD.mpr hi);rw[XC,WG hi]at this;exact this
   ·intro h i hi;have hi:=ZD.mp hi;rw[XC,WG hi];exact h _ (ZL hi)
  rw[e];refine⟨.bl _,H,?_,rfl,q⟩;exact I.kept λb o e=>hk b o (by simp;exact XM (WR e)) (WL _ e)
theorem aZ.turnedLaid{X:Cx}{pins:List (jz×Obj)}{σ:St}{H:Hp}{s:oB}{h':oE}{t':Nat}{ch:List jz}{a:jz}{o:HO}(I:aZ X pins σ H s)(k:∀b u,b∉ch->s.heap.get? b=oZ u->h'.get? b=oZ u)(hf:∀b∈ch,tX X pins H b)(hp:s.heap.objs.size<=a)(new:eD X.prog X.w (upd H a o) h' a o):aZ X pins σ (upd H a o) { s with heap:=h',toks:=t' }:=by
 have hn:=I.hok.fresh hp;have nit:∀b u,H b=oZ u->b∉ch:=λb u e z=>by rw[(hf b z).1]at e;cases e
 refine I.step (g':=s.gens) (d':=s.drawn) (ch:=ch) (λb hb=>⟨(hf b hb).2.2.2.1,(hf b hb).2.1,(hf b hb).2.2.2.2.1,(hf b hb).2.2.2.2.2⟩) (λb u _ _ hc e _=>k b u hc e) (λb u _ _ hc e _=>⟨u.slots,k b u hc e⟩)
  (λb u hc e n=>by rw[bH (XM (WZ (WR e) hp))];exact n) (λb u hc e=>⟨u,k b u hc e⟩) (λb xs e=>by rw[bH (bB e hn)];exact e) (λb u xs e=>by rw[bH (bB e hn)];exact e)
  (λb ps e=>⟨#[],by rw[bH (bB e hn),e];simp⟩) (λm hm=>?_) (λb u e=>?_) I.bare
 ·obtain⟨ob,es,ep,ho,r⟩:=hm;exact⟨ob,es,ep,k _ ob (λz=>(hf _ z).2.1 rfl) ho,r⟩
 ·by_cases hb:b=a
  ·subst hb;rw[cZ]at e;cases e;exact new
  ·rw[bH hb]at e;refine(I.hok b u e).stay (λc v hc q=>k c v ?_ q) (λc q=>by rw[bH (bB q hn)];exact q) λc xs q=>by rw[bH (bB q hn)];exact q
   obtain z|z:=hc
   ·rw[z];exact nit b u e
   ·exact nit c _ z
theorem aZ.turnedL{X:Cx}{pins:List (jz×Obj)}{σ:St}{H:Hp}{s:oB}{h':oE}{t':Nat}{ch:List jz}(I:aZ X pins σ H s)(k:∀b u,b∉ch->s.heap.get? b=oZ u->h'.get? b=oZ u)(hf:∀b∈ch,tX X pins H b):aZ X pins σ H { s with heap:=h',toks:=t' }:=by
 have nit:∀b u,H b=oZ u->b∉ch:=λb u e z=>by rw[(hf b z).1]at e;cases e
 refine I.step (g':=s.gens) (d':=s.drawn) (ch:=ch) (λb hb=>⟨(hf b hb).2.2.2.1,(hf b hb).2.1,(hf b hb).2.2.2.2.1,(hf b hb).2.2.2.2.2⟩) (λb u _ _ hc e _=>k b u hc e) (λb u _ _ hc e _=>⟨u.slots,k b u hc e⟩)
  (λb u hc e n=>n) (λb u hc e=>⟨u,k b u hc e⟩) (λb xs e=>e) (λb u xs e=>e) (λb ps e=>⟨#[],by rw[e];simp⟩) (λm hm=>?_) (λb u e=>?_) I.bare
 ·obtain⟨ob,es,ep,ho,r⟩:=hm;exact⟨ob,es,ep,k _ ob (λz=>(hf _ z).2.1 rfl) ho,r⟩
 ·refine(I.hok b u e).stay (λc v hc q=>k c v ?_ q) (λc q=>q) λc xs q=>q;obtain z|z:=hc
  ·rw[z];exact nit b u e
  ·exact nit c _ z
def RD(K:W.Frag)(a:jz):It:=
 ⟨λi H=>∃xs x,m7 K H a xs/\xs[i]?=oZ x,λi H x H'=>∃p y,x = .ref p/\H p=none/\H'=upd H p (.tup [.int (i:Int),y])/\∀xs,m7 K H a xs->xs[i]?=oZ y,λi H=>∃xs,m7 K H a xs/\xs.length<=i⟩
theorem Xb{P:kg}{w:ko}{K:W.Frag}{elts:List oC}{x1}{yg:Pos}(a e it:jz)(zw:e≠it):
  Em P w K (.Tuple elts x1 yg) (RD K a) [e,it] e (λi h=>(∃old,IsEnum h e it (i:Nat) old)/\h.IsListIter it a i) where
 mem:=by simp
 obj:=λi h st b hb=>by
  obtain⟨⟨old,he⟩,⟨o,ho,hc,hd⟩⟩:=st;obtain rfl|hb:=WM.mp hb
  ·exact⟨_,he,λv z=>by cases z⟩
  ·rw[WT.mp hb];exact⟨o,ho,λv z=>by rw[hd]at z;cases z⟩
 keep:=λi h h' st k=>⟨let⟨old,he⟩:=st.1;⟨old,k e (by simp) _ he⟩,st.2.at λo x=>k it (by simp) o x⟩
 item:=by
  intro X hP hw hK hc i pins s σ H E I hf st hg;subst hP hw hK;obtain⟨xs,x,hq,hx⟩:=hg;obtain⟨sf,rv,p,hz⟩:=I.list hq;obtain⟨u,hu,ru⟩:=rv.get hx;obtain⟨⟨old,he⟩,hit⟩:=st;refine wpAny_pyNext_enum_item he hit p.isList (x:=u) (by simpa using hu) zw λh1 ho aIZ ht hsz hk=>⟨_,rfl,?_⟩;refine wpAny_letOwnedTupleGo_enum ho λh2 he2 hs2=>?_;have hen:e≠s.heap.objs.size:=XM (WR he);have kk:∀b o,b∉[e,it]->s.heap.get? b=oZ o->h2.get? b=oZ o:=λb o hb q=>by
   have h1':b≠e:=λz=>hb (by simp[z]);have h2':b≠it:=λz=>hb (by simp[z]);exact hs2.extBut b o h1' (hk b o h1' h2' q)
  have new:eD X.prog X.w (upd H s.heap.objs.size (.tup [.int (i:Int),x])) h2 s.heap.objs.size (.tup [.int (i:Int),x]):=
   ⟨by show 2<=ky;decide,[.int i s.toks,u],.cons ⟨_,rfl⟩ (.cons ru .nil),⟨_,hs2.extBut _ _ (Ne.symm hen) ht,rfl,_,rfl⟩⟩
  refine⟨.ref s.heap.objs.size,upd H s.heap.objs.size (.tup [.int (i:Int),x]),I.turnedLaid (t':=s.toks+1) (ch:=[e,it]) kk hf (WO _) new,rfl,
   ⟨_,x,rfl,I.hok.fresh (WO _),rfl,λys hy=>by rw[I.list_inj hy hq];exact hx⟩,⟨⟨_,by simpa using he2⟩,aIZ.extBut hs2.extBut (Ne.symm zw)⟩,λb hb=>?_⟩
  have yc:b<s.heap.objs.size:=by
   obtain rfl|hb:=WM.mp hb
   ·exact WR he
   ·rw[WT.mp hb];obtain⟨o,ho',_⟩:=hit;exact WR ho'
  rw[bH (XM yc)];exact(hf b hb).1
 done:=by
  intro X hP hw hK hc i pins s σ H E I hf st hg;subst hP hw hK;obtain⟨xs,hq,hx⟩:=hg;obtain⟨sf,rv,p,hz⟩:=I.list hq;have hl:=rv.length;obtain⟨⟨old,he⟩,hit⟩:=st;refine wpAny_pyNext_enum_end (I.ok.hd hc) he hit p.isList (by simp;lia) λh1 eb=>⟨rfl,?_⟩;exact I.turnedL (t':=s.toks) (ch:=[e,it]) (λb o hb q=>eb b o (λz=>hb (by simp[z])) q) hf
 self:=λ_ _ _ _ _ st h=>let⟨old,he⟩:=st.1;wpAny_pyIter_enum he h
def BX(K:W.Frag)(ta:TA):TI:=λσ H R=>ta σ H λvs H1=>∃a,vs=[.ref a]/\(∃xs,m7 K H1 a xs)/\R (RD K a) H1
theorem Y4{x1}(hg:Gl X "enumerate")(hm:X.mg "enumerate" = none)(ha:PA X [a] ta)(hs:md [a] X.env=[(false,lq a X.env)]:=by rfl):
  PI X (.Tuple elts x1 yg) (.Call (.Name "enumerate" p) [a] [] pos) (BX X.K ta):=by
 intro pins s σ H R I h;refine Call_ (pV I hg hm boot_enumerate (PyProof.Rows.callWith_type1 (eC (ha pos pins s σ H _ I h) λus s1⟨vs,H1,I1,r1,q1⟩=>?_) hs rfl));obtain⟨l,rfl,⟨xs,hq⟩,q⟩:=q1;obtain⟨u,rfl,ru⟩:=bI.one r1;cases ru;obtain⟨sf,rv,pl,hz⟩:=I1.list hq;refine call_enumerate_list pl.isList λh' he hit hsz hk=>?_;refine wpAny_pyIter_enum he ?_;refine⟨s1.heap.objs.size+1,[s1.heap.objs.size+1,s1.heap.objs.size],_,_,H1,rfl,I1.kept (t':=s1.toks) hk,Xb l _ _ (Nat.succ_ne_self _),⟨⟨_,he⟩,hit⟩,λb hb=>?_,q⟩;have hle:s1.heap.objs.size<=b:=by
  obtain rfl|hb:=WM.mp hb
  ·exact fm _
  ·rw[WT.mp hb];exact WO _
 exact I1.fpOk hle (I1.hok.fresh hle)
theorem Dw(h:Runs M Γ p t fs s e s'):s.toks<=s'.toks:=by
 induction h with
 |fresh _ ih=>exact XR (fm _) ih
 |_=>first|exact WO _|assumption|(rename_i i1 i2;exact XR i1 i2)
theorem Qq(h:Wakes M Γ p g r s res s'):s.toks<=s'.toks:=by
 have:=Dw ((Sem.runs_resume_iff M Γ (l:=[]) (k:=λ_=>Sem.pure (.done .next))).mpr ⟨res,s',h,.done⟩);exact this
theorem BH{α:Type}(t:Sem α):∀{Q:α->Pos->oB->Prop}{E:oA->Pos->oB->Prop}{p:Pos}{s:oB},Sem.wp M Γ t Q E p s->Sem.wp M Γ t (λa p' s'=>Q a p' s'/\s.toks<=s'.toks) E p s:=by
 have up:∀{t:Sem α}{Q:α->Pos->oB->Prop}{E:oA->Pos->oB->Prop}{p:Pos}{s:oB}{a b:Nat},a<=b->Sem.wp M Γ t (λa p' s'=>Q a p' s'/\b<=s'.toks) E p s->Sem.wp M Γ t (λx p' s'=>Q x p' s'/\a<=s'.toks) E p s:=λ{t Q E p s a b}l h=>Sem.wp_mono M Γ t (λ_ _ _ h=>⟨h.1,XR l h.2⟩) (λ_ _ _ h=>h) p s h
 induction t with
 |pure x=>exactλh=>⟨h,WO _⟩
 |raise v=>exact id
 |unsupported|finish|yield|fork|await|register=>exactλh=>h
 |fresh k ih=>exactλh=>up (fm _) (ih _ h)
 |rule _ k ih|«at» _ k ih|alloc _ k ih|loadIfAlive _ k ih|point _ k ih|ask k ih|os _ _ k ih|handled _ k ih|newGen _ k ih|stack k ih|thread k ih=>exactλh=>ih _ h
 |load a _ k ih|genState a k ih=>exactλzZ=>by obtain⟨o,ho,h⟩:=zZ;exact⟨o,ho,ih _ h⟩
 |update a _ f k ih|choose _ _ k ih=>exactλzZ=>by obtain⟨ha,h⟩:=zZ;exact⟨ha,ih _ h⟩
 |call c h g l k ih=>exactλzZ=>by obtain⟨r,s',hr,h⟩:=zZ;exact⟨r,s',hr,up (Dw hr) (ih _ h)⟩
 |resume g r l k ih=>exactλzZ=>by obtain⟨res,s',hw,h⟩:=zZ;exact⟨res,s',hw,up (Qq hw) (ih _ h)⟩
theorem Qr{α:Type}{t:Sem α}{Q:α->oB->Prop}{E:oA->oB->Prop}(h:kh M A t Q E s):kh M A t (λa s'=>Q a s'/\s.toks<=s'.toks) E s:=λΓ p hA=>BH t (h Γ p hA)
theorem Me{α:Type}{t:Sem α}{Q Q':α->oB->Prop}{E:oA->oB->Prop}(h:kh M A t Q E s)(hQ:∀a s',Q a s'->s.toks<=s'.toks->Q' a s'):kh M A t Q' E s:=eC (Qr h) λa s' z=>hQ a s' z.1 z.2
def DS(e target iter:oC)(ifs:List oC)(EC:Sem Unit)(it acc:oA)(env:Env):Sem Fin:=do
 standAt iter.pos
 match <-pyNext it with
 |none=>pure (.done .next)
 |some v=>
  pf target it v
  qf target env v
  let mut ok:=true
  for c in ifs do
   if ok then ok <-isTrue c env (lq c env)
  if ok then EC
  again (.compLoop e 0 it acc env)
theorem rM {R:Result->oB->Prop} (ht:(km prog w).den (.compLoop e 0 it acc env)=(DS e target iter ifs EC it acc env).onRaise λx=>do noteFrame x env;theTreesLotGoes x) (hA:A.under (.compLoop e 0 it acc env)=A) (I:Nat->oB->Prop) (turn:∀n s,I n s->kh (km prog w) A (pyNext it) (λr s₁=>match r with
   | none=>R (.ok .next) s₁
   | some v=>kh (km prog w) A (pf target it v) (λ_ s₂=>kh (km prog w) A (qf target env v) (λ_ s₃=>kh (km prog w) A (forIn ifs true λc r=>if r=true then do let ok <-isTrue c env (lq c env);pure (ForInStep.yield ok) else pure (ForInStep.yield r)) (λok s₃'=>if ok=true then kh (km prog w) A EC (λ_ s₅=>∃m,m<n/\I m s₅) (λ_ _=>False) s₃' else ∃m,m<n/\I m s₃') (λ_ _=>False) s₃) (λ_ _=>False) s₂) (λ_ _=>False) s₁) (λ_ _=>False) s) (n:Nat) (h:I n s):qx (km prog w) A (.compLoop e 0 it acc env) R s:=by
 refine codeAny_loop rfl I (λn s hI=>?_) n h;rw [ht,hA];refine wpAny_noted ?_;refine kc (qg (kc (nq (turn n s hI) (λr s₁ h₁=>?_) λ_ _ h'=>h'.elim)));cases r with
 | none=>exact kq h₁
 | some v=>
  refine kc (nq h₁ (λ_ s₂ h₂=>kc (nq h₂ (λ_ s₃ h₃=>kc (nq h₃ (λok s₃' h₃'=>?_) λ_ _ h'=>h'.elim)) λ_ _ h'=>h'.elim)) λ_ _ h'=>h'.elim);cases ok with
  | false=>exact kq ⟨rfl,h₃'⟩
  | true=>exact kc (nq h₃' (λ_ s₅ h₅=>kq ⟨rfl,h₅⟩) λ_ _ h'=>h'.elim)
def Nc(env:Env):List (Str×NameKind)->List (Str×jz)->List (Str×jz)
 |[],cs=>cs
 |(n,k)::r,cs=>Nc env r (if k==.free then(match env.cells.lookup n with|some c=>(n,c)::cs|none=>cs)else cs)
def Fg(scope:qk)(env:Env):List (Str×jz):=Nc env scope.names []
theorem Ff(env:Env):∀(ns:List (Str×NameKind))(cs:List (Str×jz)),(∀y∈ns,y.2 = .free->∃c,env.cells.lookup y.1=oZ c)->
  (forIn ns cs (λx r=>do
   if x.2==.free then
    let a <-cellOf env x.1
    pure (ForInStep.yield ((x.1,a)::r))
   else pure (ForInStep.yield r)):Sem (List (Str×jz)))=pure (Nc env ns cs)
 |[],cs,_=>rfl
 |(n,k)::r,cs,h=>by
  rw[List.forIn_cons]
  by_cases hk:k = .free
  ·subst hk;obtain⟨c,hc⟩:=h (n,.free) WW rfl;have zl:env.cells.lookup n=oZ c:=hc;have e:cellOf env n=pure c:=by unfold cellOf;rw[zl]
   simp only[beq_self_eq_true,if_true,e,pure_bind,Nc,zl];exact Ff env r _ λy hy=>h y (WQ _ hy)
  ·have hb:(k==NameKind.free)=false:=by simpa using hk
   simp only[hb,Bool.false_eq_true,if_false,pure_bind,Nc];exact Ff env r _ λy hy=>h y (WQ _ hy)
theorem Bj(h:∀y∈scope.names,y.2 = .free->∃c,env.cells.lookup y.1=oZ c):closureFor scope env=pure (Fg scope env):=by
 have e:=Ff env scope.names [] h;unfold Fg;rw[<-e];unfold closureFor;simp only[bind_pure]
theorem Jk(env:Env):∀(ns:List (Str×NameKind))(cs:List (Str×jz))(x:Str)(c:jz),(∀x c,cs.lookup x=oZ c->env.cells.lookup x=oZ c)->(Nc env ns cs).lookup x=oZ c->env.cells.lookup x=oZ c
 |[],_,x,c,h,e=>h x c e
 |(n,k)::r,cs,x,c,h,e=>by
  refine Jk env r _ x c (λy d hd=>?_) e
  by_cases hk:(k==NameKind.free)=true
  ·rw[oV hk]at hd;cases q:env.cells.lookup n with
   |none=>rw[q]at hd;exact h y d hd
   |some a=>
    rw[q]at hd;simp only[ZI]at hd;cases b:y==n with
    |true=>rw[b]at hd;cases hd;rw[eq_of_beq b];exact q
    |false=>rw[b]at hd;exact h y d hd
  ·rw[oW hk]at hd;exact h y d hd
theorem Jm(e:(Fg scope env).lookup x=oZ c):env.cells.lookup x=oZ c:=Jk env _ _ x c (λ_ _ h=>by simp at h) e
theorem Jj(env:Env):∀(ns:List (Str×NameKind))(cs:List (Str×jz))(x:Str)(c:jz),(cs.lookup x=oZ c\/(x,NameKind.free)∈ns)->env.cells.lookup x=oZ c->(Nc env ns cs).lookup x=oZ c
 |[],_,x,c,h,_=>h.elim (λz=>z) (λz=>by simp at z)
 |(n,k)::r,cs,x,c,h,e=>by
  refine Jj env r _ x c ?_ e;obtain h|h:=h
  ·refine .inl ?_
   split
   ·cases q:env.cells.lookup n with
    |none=>exact h
    |some a=>
     simp only[ZI];cases b:x==n with
     |true=>rw[<-eq_of_beq b,e]at q;exact q.symm
     |false=>exact h
   ·exact h
  ·obtain z|z:=WM.mp h
   ·injection z with z1 z2;subst z1 z2;refine .inl ?_;simp only[beq_self_eq_true,if_true,e,ZI]
   ·exact .inr z
theorem Jl(h:(x,NameKind.free)∈scope.names)(e:env.cells.lookup x=oZ c):(Fg scope env).lookup x=oZ c:=Jj env _ _ x c (.inr h) e
theorem u5{env:Env}:∀{names:List (Str×NameKind)}{x:Str},(∀y∈names,y.2≠.cell)->
    ((names.map λ(n,k)=>if(k==NameKind.free&&env.scope.kind==.function&&env.kindOf n==oZ .cell)then(n,NameKind.cell)else(n,k)).lookup x=oZ .cell\/
     (names.map λ(n,k)=>if(k==NameKind.free&&env.scope.kind==.function&&env.kindOf n==oZ .cell)then(n,NameKind.cell)else(n,k)).lookup x=oZ .free)->(x,NameKind.free)∈names
  |[],_,_,h=>by simp at h
  |(n,k)::r,x,hc,h=>by
    have ih:=@u5 env r x λy hy=>hc y (WQ _ hy);have hk:k≠.cell:=hc (n,k) WW;simp only[YH]at h
    by_cases q:(k==NameKind.free&&env.scope.kind==.function&&env.kindOf n==oZ .cell)=true
    . rw[oV q]at h
      simp only[ZI]at h;cases b:x==n with
      |true=>
        have:k = .free:=by simp only[XS]at q;exact eq_of_beq q.1.1
        subst this;rw[eq_of_beq b];exact WW
      |false=>rw[b]at h;exact WQ _ (ih h)
    . rw[oW q]at h
      simp only[ZI]at h;cases b:x==n with
      |true=>
        rw[b]at h;obtain h|h:=h
        . exact absurd (Option.some.inj h) hk
        . have:k = .free:=Option.some.inj h
          subst this;rw[eq_of_beq b];exact WW
      |false=>rw[b]at h;exact WQ _ (ih h)
theorem xI{env:Env}:∀{names:List (Str×NameKind)}{x:Str},names.lookup x=oZ .free->
    ((names.map λ(n,k)=>if(k==NameKind.free&&env.scope.kind==.function&&env.kindOf n==oZ .cell)then(n,NameKind.cell)else(n,k)).lookup x=oZ .cell\/
     (names.map λ(n,k)=>if(k==NameKind.free&&env.scope.kind==.function&&env.kindOf n==oZ .cell)then(n,NameKind.cell)else(n,k)).lookup x=oZ .free)
  |[],_,h=>by simp at h
  |(n,k)::r,x,h=>by
    have ih:=@xI env r x;simp only[YH];simp only[ZI]at h
    by_cases q:(k==NameKind.free&&env.scope.kind==.function&&env.kindOf n==oZ .cell)=true
    . rw[oV q]
      simp only[ZI];cases b:x==n with
      |true=>exact .inl rfl
      |false=>rw[b]at h;exact ih h
    . rw[oW q]
      simp only[ZI];cases b:x==n with
      |true=>rw[b]at h;exact .inr h
      |false=>rw[b]at h;exact ih h
def bA(X:Cx)(N':List Str)(scope:qk)(C:jz)(s3:oB)(H3:Hp)(fp:List jz):Cx:=
 { X with N:=N',s₀:=s3,H₀:=H3,env:=compEnvC scope (Fg scope X.env) C X.env,outer:=X.stack,stack:=X.stack,ex:=fp,fn:=λ_=>false,pn:=[],xe:=λ_ _=>False }
def jB(t:Nat)(cap:List Nat)(σ:St):St:=WN t none++cap.map λk=>(σ[k]?).join
def LI(J:It)(D:jz)(g:TG)(te:TE)(Q:VK)(σ:St)(H:Hp):Prop:=∃W:Nat->Nat->St->Hp->Prop,(∃m,W 0 m σ H)/\∀i m σ' H',W i m σ' H'->
 (J.stop i H'/\Q (.ref D) H')\/(J.go i H'/\∀x H2,J.yld i H' x H2->g x σ' H2 λσ3 H3=>te σ3 H3 λy H4=>∃ys,H4 D=oZ (.lst ys)/\ys.length<ky/\∃m',m'<m/\W (i+1) m' σ3 (upd H4 D (.lst (ys++[y]))))
def Eb(t:Nat)(cap:List Nat)(wi:TI)(g:TG)(te:TE):TE:=λσ H Q=>wi σ H λJ H1=>∀D,H1 D=none->LI J D g te Q (jB t cap σ) (upd H1 D (.lst []))
def EM(J:It)(D:jz)(g:TG)(tb:TT)(tel:St->Hp->(Hp->Prop)->Prop)(Q:VK)(σ:St)(H:Hp):Prop:=∃W:Nat->Nat->St->Hp->Prop,(∃m,W 0 m σ H)/\∀i m σ' H',W i m σ' H'->
 (J.stop i H'/\Q (.ref D) H')\/(J.go i H'/\∀x H2,J.yld i H' x H2->g x σ' H2 λσ3 H3=>tb σ3 H3 λok H3'=>if ok=true then tel σ3 H3' λH4=>∃m',m'<m/\W (i+1) m' σ3 H4 else ∃m',m'<m/\W (i+1) m' σ3 H3')
def EL(J:It)(D:jz)(g:TG)(tb:TT)(te:TE)(Q:VK)(σ:St)(H:Hp):Prop:=∃W:Nat->Nat->St->Hp->Prop,(∃m,W 0 m σ H)/\∀i m σ' H',W i m σ' H'->
 (J.stop i H'/\Q (.ref D) H')\/(J.go i H'/\∀x H2,J.yld i H' x H2->g x σ' H2 λσ3 H3=>tb σ3 H3 λok H3'=>if ok=true then te σ3 H3' λy H4=>∃ys,H4 D=oZ (.lst ys)/\ys.length<ky/\∃m',m'<m/\W (i+1) m' σ3 (upd H4 D (.lst (ys++[y])))else ∃m',m'<m/\W (i+1) m' σ3 H3')
def tR(t:Nat)(cap:List Nat)(wi:TI)(g:TG)(tb:TT)(te:TE):TE:=λσ H Q=>wi σ H λJ H1=>∀D,H1 D=none->EL J D g tb te Q (jB t cap σ) (upd H1 D (.lst []))
def BJ(X:Cx)(ifs:List oC)(t:TT):Prop:=
 ∀(pins:List (jz×Obj))(s:oB)(σ:St)(H:Hp)(Q:Bool->Hp->Prop),aZ X pins σ H s->t σ H Q->kh (km X.prog X.w) X.A (forIn ifs true λc r=>if r=true then do let ok <-isTrue c X.env (lq c X.env);pure (ForInStep.yield ok)else pure (ForInStep.yield r)) (TP X pins σ Q) X.xe s
theorem PT.one(h:PT X c t):BJ X [c] t:=λ_ _ _ _ _ I z=>wpAny_tests_one (h _ _ _ _ _ I z)
structure bV(X:Cx)(N':List Str)(scope:qk)(t:Nat)(cap:List Nat):Prop where
 kind:scope.kind = .function
 cell:∀y∈scope.names,y.2≠.cell
 names:∀y∈scope.names,y.2 = .local->scope.names.lookup y.1=oZ .local
 free:∀y∈scope.names,y.2 = .free->(X.env.kindOf y.1=oZ .cell\/X.env.kindOf y.1=oZ .free)
 len:N'.length=t+cap.length
 caps:∀(j k:Nat),cap[j]?=oZ k->∃x,N'[t+j]?=oZ x/\X.N[k]?=oZ x/\scope.names.lookup x=oZ .free
section
variable{X:Cx}
theorem Nd(S:bV X N' scope t cap)(I3:aZ X pins σ H3 s3)(hf:∀b∈fp,tX X pins H3 b)(hob:∀b∈fp,∃o,s3.heap.get? b=oZ o)(hns:h₁.Ns s3.heap.objs.size λ_=>none)(k:∀b o,s3.heap.get? b=oZ o->h₁.get? b=oZ o):
  aZ (bA X N' scope s3.heap.objs.size s3 H3 fp) [] (jB t cap σ) H3 { s3 with heap:=h₁,toks:=tk }:=by
 have zp:∀{x:Str}{c:jz},(Fg scope X.env).lookup x=oZ c->X.env.cells.lookup x=oZ c:=λe=>Jm e;have aC3:∀{c:jz}{v:Option oA},s3.heap.IsCell c v->h₁.IsCell c v:=λzZ=>by obtain⟨o,e,d⟩:=zZ;exact⟨o,k _ _ e,d⟩
 have aEO:∀{x:Str},scope.names.lookup x=oZ .free->(x,NameKind.free)∈scope.names:=λe=>PySem.mem_of_lookup e;refine⟨⟨I3.mod,S.kind,I3.ok.glob,I3.ok.blt,WO _,?_,?_,?_,I3.ok.hd,I3.ok.frames,.inl rfl,?_,I3.bs,XR I3.ok.bsz I3.sz,?_,?_,I3.stack,I3.stkFree⟩,
  rfl,I3.bare,Un.kept k,⟨_,hns,?_⟩,?_,?_,?_,?_,I3.hok.kept k,?_⟩
 ·intro x y c h1 h2;exact I3.ok.inj x y c (zp h1) (zp h2)
 ·intro x hx;have hm:(x,NameKind.free)∈scope.names:=u5 S.cell hx;obtain⟨c,hc⟩:=I3.ok.has x (S.free _ hm rfl);exact⟨c,Jl hm hc⟩
 ·intro x c h;cases h
 ·intro b hb;obtain⟨o,ho⟩:=hob b hb;exact⟨XM (WR ho),λx c e=>(hf b hb).2.2.2.2.1 x c (zp e)⟩
 ·intro b o e hb;rcases(hf b hb).2.2.2.1 with z|z
  ·exact I3.ok.noex b o e z
  ·exact absurd (WZ (WZ (WR e) I3.ok.bsz) z) (Nat.lt_irrefl _)
 ·intro b hb hz;obtain z|z:=WM.mp (I3.stkSub b hz)
  ·exact(hf b hb).2.1 z
  ·exact(hf b hb).2.2.1 z
 ·intro i x v e1 e2 e3;have ht:t<=i:=by
   obtain q|q:=XQ i t
   ·unfold jB at e2;rw[XJ (by simpa using q),ZX]at e2;split at e2<;>cases e2
   ·exact q
  obtain⟨j,rfl⟩:∃j,i=t+j:=⟨i-t,⋯⟩;unfold jB at e2;rw[XO (by simp),ZO,Nat.add_sub_cancel_left,WH]at e2;cases q:cap[j]? with
  |none=>rw[q]at e2;cases e2
  |some m=>
   rw[q]at e2;have e2':(σ[m]?).join=oZ v:=Option.some.inj e2;have aI2:σ[m]?=oZ (oZ v):=by
    cases z:σ[m]? with
    |none=>rw[z]at e2';cases e2'
    |some w=>rw[z]at e2';have:w=oZ v:=e2';rw[this]
   obtain⟨x',c1,c2,c3⟩:=S.caps j m q;have ex:x'=x:=by
    have e1':N'[t+j]?=oZ x:=e1;rw[c1]at e1';exact Option.some.inj e1'
   subst ex;have hk:=S.free _ (aEO c3) rfl;obtain⟨mm,hn,hl⟩:=I3.loc;obtain⟨u,r,L⟩:=hl m x' v c2 aI2 (by obtain z|z:=hk;exact .inr (.inl z);exact .inr (.inr z));refine⟨u,r,?_⟩;obtain⟨z,_⟩|⟨_,c,hc,aBH⟩:=L
   ·rcases hk with y|y<;>(have y':X.env.kindOf x'=_:=y;rw[z]at y';cases y')
   ·exact .inr ⟨xI c3,c,Jl (aEO c3) hc,aC3 aBH⟩
 ·intro x c e;obtain⟨v,z⟩:=I3.cell x c (zp e);exact⟨v,aC3 z⟩
 ·exact I3.hok.fresh (WO _)
 ·intro x c e;exact I3.freeC x c (zp e)
 ·intro p hp;exact absurd (show p∈([]:List (jz×Obj))from hp) (by simp)
 ·show(jB t cap σ).length=N'.length;unfold jB;rw[S.len,WK,ZO,WJ]
theorem Cv{EC:jz->Env->Sem Unit}{tel:jz->St->Hp->(Hp->Prop)->Prop}{wi:TI}{QQ:oA->oB->Prop}{s:oB}{Q:VK}(hc:X.calm=true)(S:bV X N' scope t cap)(hi:PI X target iter wi)(hg:∀C s3 H3 fp,PG (bA X N' scope C s3 H3 fp) target g)(hb:∀C s3 H3 fp,BJ (bA X N' scope C s3 H3 fp) ifs tb)(hs:∀x,lh iter X.env x=pure x)(I:aZ X pins σ H s)(ht0:n0<=s.toks)(hcl:clausesOf e=[⟨target,iter,ifs,0⟩])(hsz:sizeOk data)(hob:∀{s H},aZ X pins σ H s->aZ X pins σ (upd H s.heap.objs.size ho) { s with heap:=s.heap.push { cls:=.type ty,dict:=none,data:=data } })(hel:∀C s3 H3 fp D pins s σ H(R:Hp->Prop)(Q:oB->Prop),aZ (bA X N' scope C s3 H3 fp) pins σ H s->n0<=s.toks->tel D σ H R->(∀s' H',aZ (bA X N' scope C s3 H3 fp) pins σ H' s'->n0<=s'.toks->R H'->Q s')->kh (km X.prog X.w) X.A (EC D (bA X N' scope C s3 H3 fp).env) (λ_=>Q) (λ_ _=>False) s)(ht:∀it D env,(km X.prog X.w).den (.compLoop e 0 it (.ref D) env)=(DS e target iter ifs (EC D env) it (.ref D) env).onRaise λx=>do noteFrame x env;theTreesLotGoes x)(hA:∀it D env,X.A.under (.compLoop e 0 it (.ref D) env)=X.A)(hst:∀{it acc:oA}{env:Env}{R:Result->oB->Prop}{s:oB},qx (km X.prog X.w) X.A (.compLoop e 0 it acc env) R s->kh (km X.prog X.w) X.A (pyIter it) (λit' s'=>qx (km X.prog X.w) X.A (.compLoop e 0 it' acc env) R s') (notedBy (km X.prog X.w) X.A env λx s'=>R (.error x) s') s->qx (km X.prog X.w) X.A (.compStart e 0 it acc env) R s)(h:wi σ H λJ H1=>∀D,H1 D=none->EM J D g tb (tel D) Q (jB t cap σ) (upd H1 D ho))(fin:∀(s3 s6:oB)(H3 H5:Hp)(fp:List jz)(D:jz)(m:Str->Option oA),aZ X pins σ H3 s3->(∀b∈fp,(b∈X.ex\/X.s₀.heap.objs.size<=b)/\b≠X.env.locals/\(∀x c,X.env.cells.lookup x=oZ c->c≠b)/\∀p∈X.pn++pins,p.1≠b)->s6.heap.Ns s3.heap.objs.size m->Un (Ml X.stack) fp H3 H5 s3.heap s6.heap->rK X.prog X.w H5 s6.heap->H5 s3.heap.objs.size=none->s6.os=s3.os->pg s6.gens->Q (.ref D) H5->compPost (km X.prog X.w) X.A X.xe use QQ (.ref D) s3.heap.objs.size (.ok .next) s6):
  kh (km X.prog X.w) X.A (comprehension e scope X.env (firstIterPos [⟨target,iter,ifs,0⟩] pos) (newObj (.type ty) data) (firstAsync [⟨target,iter,ifs,0⟩]) (firstIter [⟨target,iter,ifs,0⟩] X.env) use) QQ X.xe s:=by
 refine wpAny_comprehension_free (cl:=Fg scope X.env) hcl hs (Bj λy hy hf=>I.ok.has y.1 (S.free y hy hf)) S.kind S.names (Me (hi pins s σ H _ I h) λv s1 h1 t1=>Me h1 λitv s2 h2 t2=>?_);obtain⟨it,fp,tn,J,H2,e,I2,T,st2,f2,h2⟩:=h2;subst e;refine mq (wpAny_newFunctionEnv S.cell (by intro y hy;simp at hy) (λh₁ hns₁ hsb₁=>?_) S.kind) hsz
 dsimp only at hns₁ hsb₁⊢
 obtain⟨s3,hs3⟩:∃s3:oB,s3 = { s2 with heap:=s2.heap.push { cls:=.type ty,dict:=none,data:=data } }:=⟨_,rfl⟩;have hD:H2 s2.heap.objs.size=none:=I2.hok.fresh (WO _);have I3:aZ X pins σ (upd H2 s2.heap.objs.size ho) s3:=by
  rw[hs3];exact hob I2
 have aMK:s3.heap.objs.size=s2.heap.objs.size+1:=by rw[hs3];exact YK ..
 have aGK:∀b o,s2.heap.get? b=oZ o->s3.heap.get? b=oZ o:=λb o e=>by rw[hs3];exact WL _ e
 have hC:(s2.heap.push { cls:=.type ty,dict:=none,data:=data }).objs.size=s3.heap.objs.size:=by rw[hs3]
 have f3:∀b∈fp,tX X pins (upd H2 s2.heap.objs.size ho) b:=λb hb=>by
  obtain⟨o,ho,_⟩:=T.obj _ _ st2 b hb;refine⟨?_,(f2 b hb).2⟩;rw[bH (XM (WR ho))];exact(f2 b hb).1
 have ob3:∀b∈fp,∃o,s3.heap.get? b=oZ o:=λb hb=>by
  obtain⟨o,ho,_⟩:=T.obj _ _ st2 b hb;exact⟨o,aGK b o ho⟩
 have k1:∀b o,s3.heap.get? b=oZ o->h₁.get? b=oZ o:=λb o e=>by
  refine hsb₁.extBut b o ?_ ?_
  ·rw[hC];exact XM (WR e)
  ·rw[hs3]at e;exact WL _ e
 have hns:h₁.Ns s3.heap.objs.size λ_=>none:=by
  rw[<-hC];exact hns₁
 have I4:=Nd (tk:=s2.toks+([]:List (Str×oA)).length) S I3 f3 ob3 hns k1;have st4:tn 0 h₁:=T.keep _ _ _ st2 λb hb o e=>k1 b o (aGK b o e);obtain⟨W,⟨m0,w0⟩,turn⟩:=h2 _ hD
 -- the block's context
 obtain⟨X',hX'⟩:∃X':Cx,X'=bA X N' scope s3.heap.objs.size s3 (upd H2 s2.heap.objs.size ho) fp:=⟨_,rfl⟩;have hg':PG X' target g:=by rw[hX'];exact hg _ _ _ _
 have hb':BJ X' ifs tb:=by rw[hX'];exact hb _ _ _ _
 have aCS:∀{H':Hp},(∀b∈fp,H' b=none)->∀b∈fp,tX X' [] H' b:=λhn b hb=>by
  obtain⟨o,ho⟩:=ob3 b hb;rw[hX'];refine⟨hn b hb,XM (WR ho),?_,.inl hb,λx c e=>(f3 b hb).2.2.2.2.1 x c (Jm e),λp hp=>absurd (show p∈([]:List (jz×Obj))from hp) (by simp)⟩;intro hz;obtain z|z:=WM.mp (I3.stkSub b hz)
  ·exact(f3 b hb).2.1 z
  ·exact(f3 b hb).2.2.1 z
 have aEP:X'.calm=true:=by rw[hX'];exact hc
 have loop:qx (km X.prog X.w) X.A (.compLoop e 0 (.ref it) (.ref s2.heap.objs.size) (compEnvC scope (Fg scope X.env) s3.heap.objs.size X.env))
   (compPost (km X.prog X.w) X.A X.xe use QQ (.ref s2.heap.objs.size) s3.heap.objs.size) { s3 with heap:=h₁,toks:=s2.toks+([]:List (Str×oA)).length }:=by
  refine rM (ht _ _ _) (hA _ _ _) (λn s'=>n0<=s'.toks/\∃i σ' H',aZ X' [] σ' H' s'/\tn i s'.heap/\(∀b∈fp,H' b=none)/\W i n σ' H') ?_ m0 ⟨by show n0<=s2.toks+0;lia,0,jB t cap σ,_,by rw[hX'];exact I4,st4,λb hb=>(f3 b hb).1,w0⟩;rintro n s5 ⟨t5,i,σ5,H5,I5,st5,fr5,w5⟩;obtain⟨stop,qn⟩|⟨go,step⟩:=turn i n σ5 H5 w5
  ·have q:=T.done X' (by rw[hX'];rfl) (by rw[hX'];rfl) (by rw[hX'];rfl) aEP i [] s5 σ5 H5 (λ_ _=>False) I5 (aCS fr5) st5 stop;have eA:X'.A=X.A:=by rw[hX'];rfl
   rw[eA]at q;refine eC q λr s6 zZ=>?_;obtain⟨hr,I6⟩:=zZ;subst hr;obtain⟨m,hn,_⟩:=I6.loc;have hn':s6.heap.Ns s3.heap.objs.size m:=by rw[hX']at hn;exact hn
   have un6:Un (Ml X.stack) fp (upd H2 s2.heap.objs.size ho) H5 s3.heap s6.heap:=by have:=I6.base;rw[hX']at this;exact this
   have aBM:rK X.prog X.w H5 s6.heap:=by have:=I6.hok;rw[hX']at this;exact this
   have ze:H5 s3.heap.objs.size=none:=by have:=I6.free;rw[hX']at this;exact this
   have os6:s6.os=s3.os:=by have:=I6.os;rw[hX']at this;exact this
   exact fin _ _ _ _ _ _ _ I3 (λb hb=>⟨(f3 b hb).2.2.2.1,(f3 b hb).2.1,(f3 b hb).2.2.2.2.1,(f3 b hb).2.2.2.2.2⟩) hn' un6 aBM ze os6 I6.bare qn
  ·have q:=T.item X' (by rw[hX'];rfl) (by rw[hX'];rfl) (by rw[hX'];rfl) aEP i [] s5 σ5 H5 (λ_ _=>False) I5 (aCS fr5) st5 go;have eA:X'.A=X.A:=by rw[hX'];rfl
   have eP:X'.prog=X.prog:=by rw[hX'];rfl
   have eW:X'.w=X.w:=by rw[hX'];rfl
   have eE:X'.env=compEnvC scope (Fg scope X.env) s3.heap.objs.size X.env:=by rw[hX'];rfl
   have eX:X'.xe=λ_ _=>False:=by rw[hX'];rfl
   rw[eA]at q;refine Me q λr s6 zZ t6=>?_;obtain⟨u,hr,h6⟩:=zZ;subst hr;refine Me h6 λ_ s7 zZ t7=>?_;obtain⟨x,H7,I7,r7,y7,st7,fr7⟩:=zZ;have I7':=I7.pinned (aCS fr7) (T.obj _ _ st7);have q8:=hg' _ s7 σ5 H7 x u _ I7' r7 (step x H7 y7);rw[eA,eP,eW,eE,eX]at q8;refine Me q8 λ_ s8 zZ t8=>?_;obtain⟨σ8,H8,I8,w8⟩:=zZ;have q8b:=hb' _ s8 σ8 H8 _ I8 w8;rw[eA,eP,eW,eE,eX]at q8b;refine Me q8b λok s8 zZ t8b=>?_;obtain⟨H8,I8,w8⟩:=zZ;cases ok with
   |false=>
    obtain⟨m',hm,w9⟩:=w8;refine⟨m',hm,⋯,i+1,σ8,_,I8.unpinned,T.keep _ _ _ st7 λb hb o e=>(I8.pin (b,o) (XA _ (XA _ (jG hb e)))).1,λb hb=>?_,w9⟩;obtain⟨o,e,d⟩:=T.obj _ _ st7 b hb;exact(I8.pin (b,o) (XA _ (XA _ (jG hb e)))).2.1
   |true=>
    have aGM:=hel s3.heap.objs.size s3 (upd H2 s2.heap.objs.size ho) fp s2.heap.objs.size _ s8 σ8 H8 _ (λs'=>∃m,m<n/\n0<=s'.toks/\∃i σ' H',aZ X' [] σ' H' s'/\tn i s'.heap/\(∀b∈fp,H' b=none)/\W i m σ' H') (by rw[hX']at I8;exact I8) ⋯ w8 λs10 H10 I10 t10⟨m',hm,w9⟩=>?_
    ·rw[<-hX',eE]at aGM;exact aGM
    rw[<-hX']at I10;refine⟨m',hm,t10,i+1,σ8,_,I10.unpinned,T.keep _ _ _ st7 λb hb o e=>(I10.pin (b,o) (XA _ (XA _ (jG hb e)))).1,λb hb=>?_,w9⟩;obtain⟨o,e,d⟩:=T.obj _ _ st7 b hb;exact(I10.pin (b,o) (XA _ (XA _ (jG hb e)))).2.1
 have es:({ s2 with heap:=h₁,toks:=s2.toks+([]:List (Str×oA)).length }:oB) = { s3 with heap:=h₁,toks:=s2.toks+([]:List (Str×oA)).length }:=by rw[hs3]
 rw[es,hC];exact hst loop (T.self _ 0 _ _ _ st4 loop)
def UJ(n:Nat)(X:Cx)(e:oC)(t:TE):Prop:=
 ∀(pins:List (jz×Obj))(s:oB)(σ:St)(H:Hp)(Q:VK),aZ X pins σ H s->n<=s.toks->t σ H Q->kh (km X.prog X.w) X.A (lq e X.env) (EP X pins σ Q) X.xe s
theorem zD{QQ:oA->oB->Prop}(hc:X.calm=true)(S:bV X N' scope t cap)(hi:PI X target iter wi)(hg:∀C s3 H3 fp,PG (bA X N' scope C s3 H3 fp) target g)(hb:∀C s3 H3 fp,BJ (bA X N' scope C s3 H3 fp) ifs tb)(he:∀C s3 H3 fp,UJ n0 (bA X N' scope C s3 H3 fp) elt te)(hs:∀x,lh iter X.env x=pure x)(I:aZ X pins σ H s)(ht0:n0<=s.toks)(h:tR t cap wi g tb te σ H Q)(fin:∀(s3 s6:oB)(H3 H5:Hp)(fp:List jz)(D:jz)(m:Str->Option oA),aZ X pins σ H3 s3->(∀b∈fp,(b∈X.ex\/X.s₀.heap.objs.size<=b)/\b≠X.env.locals/\(∀x c,X.env.cells.lookup x=oZ c->c≠b)/\∀p∈X.pn++pins,p.1≠b)->s6.heap.Ns s3.heap.objs.size m->Un (Ml X.stack) fp H3 H5 s3.heap s6.heap->rK X.prog X.w H5 s6.heap->H5 s3.heap.objs.size=none->s6.os=s3.os->pg s6.gens->Q (.ref D) H5->compPost (km X.prog X.w) X.A X.xe use QQ (.ref D) s3.heap.objs.size (.ok .next) s6):
  kh (km X.prog X.w) X.A (comprehension (.ListComp elt [⟨target,iter,ifs,0⟩] scope pos) scope X.env (firstIterPos [⟨target,iter,ifs,0⟩] pos) (newList []) (firstAsync [⟨target,iter,ifs,0⟩]) (firstIter [⟨target,iter,ifs,0⟩] X.env) use) QQ X.xe s:=
 Cv (ty:="list") (data:=.seq #[]) (ho:=.lst []) (EC:=λD env=>do let _ <-call (.builtin "list.append") [.ref D,<-lq elt env]) (tel:=λD σ H R=>te σ H λy H4=>∃ys,H4 D=oZ (.lst ys)/\ys.length<ky/\R (upd H4 D (.lst (ys++[y])))) hc S hi hg hb hs I ht0 rfl (WS _)
  (λI2=>I2.laid (t':=_) (λb u e=>WL _ e) (WO _) ⟨WS _,[],0,.nil,WV _ rfl⟩)
  (λC s3 H3 fp D pins s σ H R Q I p z k=>kc (Me (he C s3 H3 fp pins s σ H _ I p z) λy s9 z9 t9=>by
   obtain⟨v9,H9,I9,r9,ys,hD9,yc,hr⟩:=z9;refine kc (Me (Dn (X:=bA X N' scope C s3 H3 fp) _ s9 σ H9 (.ref D) [v9] (.ref D) [y] (λ_ H10=>H10=upd H9 D (.lst (ys++[v9]))) I9 rfl (.cons r9 .nil) ⟨_,ys,v9,rfl,rfl,hD9,yc,rfl⟩) λ_ s10 z10 t10=>?_);obtain⟨v10,H10,I10,r10,e10⟩:=z10;subst e10;exact kq (k _ _ I10 ⋯ hr)))
  (λ_ _ _=>rfl) (λ_ _ _=>rfl) codeAny_compStart_list h fin
theorem Jn(I3:aZ X pins σ H3 s3)(f3:∀b∈fp,(b∈X.ex\/X.s₀.heap.objs.size<=b)/\b≠X.env.locals/\(∀x c,X.env.cells.lookup x=oZ c->c≠b)/\∀p∈X.pn++pins,p.1≠b)(hn':s6.heap.Ns s3.heap.objs.size m)(un6:Un (Ml X.stack) fp H3 H5 s3.heap s6.heap)(aBM:rK X.prog X.w H5 s6.heap)(ze:H5 s3.heap.objs.size=none)(os6:s6.os=s3.os)(ba:pg s6.gens)(qn:QQ (.ref D) H5):compPost (km X.prog X.w) X.A X.xe none (EP X pins σ QQ) (.ref D) s3.heap.objs.size (.ok .next) s6:=by
 refine⟨m,hn',λh' hs'=>?_⟩;have kp:∀b o,b≠s3.heap.objs.size->s6.heap.get? b=oZ o->h'.get? b=oZ o:=λb o hb e=>hs'.extBut b o hb e;have neC:∀{b:jz}{o:Obj},s3.heap.get? b=oZ o->b≠s3.heap.objs.size:=λe=>XM (WR e);have un7:Un (Ml X.stack) fp (H3) H5 s3.heap h':=
  ⟨λb o e n1 n2 n3=>kp b o (neC e) (un6.keep b o e n1 n2 n3),λb o e n1 n2 n3=>by obtain⟨sl,z⟩:=un6.slot b o e n1 n2 n3;exact⟨sl,kp b _ (neC e) z⟩,un6.free,
   λb o e n3=>by obtain⟨o',z⟩:=un6.there b o e n3;exact⟨o',kp b _ (neC e) z⟩,un6.tups,un6.frzs,un6.tbls⟩
 have aI4:rK X.prog X.w H5 h':=λb ob e=>by
  refine(aBM b ob e).stay (λc w' zl q=>kp c w' ?_ q) (λ_ q=>q) λ_ _ q=>q;rintro rfl;obtain rfl|zl:=zl
  ·rw[ze]at e;cases e
  ·rw[ze]at zl;cases zl
 exact⟨.ref D,H5,I3.call' (s':={ s6 with heap:=h' }) (ch:=fp) os6 un7 aI4 ba f3,rfl,qn⟩
theorem C8(hc:X.calm=true)(S:bV X N' scope t cap)(hi:PI X target iter wi)(hg:∀C s3 H3 fp,PG (bA X N' scope C s3 H3 fp) target g)(hb:∀C s3 H3 fp,BJ (bA X N' scope C s3 H3 fp) ifs tb)(he:∀C s3 H3 fp,PE (bA X N' scope C s3 H3 fp) elt te)(hs:∀x,lh iter X.env x=pure x:=by intro _;rfl):
  PE X (.ListComp elt [⟨target,iter,ifs,0⟩] scope pos) (tR t cap wi g tb te):=by
 intro pins s σ H Q I h;rw[eval_ListComp];exact zD (n0:=0) hc S hi hg hb (λC s3 H3 fp pins s σ H Q I _ z=>he C s3 H3 fp pins s σ H Q I z) hs I (WS _) h λs3 s6 H3 H5 fp D m I3 f3 hn' un6 aBM ze os6 ba qn=>Jn I3 f3 hn' un6 aBM ze os6 ba qn
theorem X8(hc:X.calm=true)(S:bV X N' scope t cap)(hi:PI X target iter wi)(hg:∀C s3 H3 fp,PG (bA X N' scope C s3 H3 fp) target g)(he:∀C s3 H3 fp,PE (bA X N' scope C s3 H3 fp) elt te)(hs:∀x,lh iter X.env x=pure x:=by intro _;rfl):
  PE X (.ListComp elt [⟨target,iter,[],0⟩] scope pos) (Eb t cap wi g te):=λpins s σ H Q I h=>C8 (tb:=λ_ H Q=>Q true H) hc S hi hg (λ_ _ _ _ _ _ _ _ _ I z=>wpAny_tests_nil ⟨_,I,z⟩) he hs pins s σ H Q I h
end
def DJ(i j k:Nat)(ta:TA):TS:=λD σ H=>ta σ H λvs H1=>∃v w z,vs=[v,w,z]/\D.nx (((σ.set i (oZ v)).set j (oZ w)).set k (oZ z)) H1
theorem Y8{kt k2 pt2}(hc:X.calm=true)(hN:X.N.Nodup)(hi:X.N[i]?=oZ x)(hj:X.N[j]?=oZ y)(hk:X.N[k]?=oZ z)(hij:i≠j)(hik:i≠k)(hjk:j≠k)(hx:X.env.scope.names.lookup x=oZ .local)(hy:X.env.scope.names.lookup y=oZ .local)(hz:X.env.scope.names.lookup z=oZ .local)(ha:PA X [a,b,c] ta)(hw:ni [.Tuple [.Name x px,.Name y py,.Name z pz] kt pt] (.Tuple [a,b,c] k2 pt2) X.env=pure (oZ [x,y,z]))(hs:mz [.Tuple [.Name x px,.Name y py,.Name z pz] kt pt] (.Tuple [a,b,c] k2 pt2) pos.line X.env=pure false:=by rfl):
  PS X (.Assign [.Tuple [.Name x px,.Name y py,.Name z pz] kt pt] (.Tuple [a,b,c] k2 pt2) pos) (DJ i j k ta):=by
 intro pins s σ H D I h;rw[exec_Assign_arm];refine kc (qg ?_);rw[hs];refine kc (kq ?_);rw[oW ∅];refine kc (Tuple_ (eC (ha _ pins s σ H _ I h) λus s1 zZ=>?_));obtain⟨vs,H1,I1,r1,q1⟩:=zZ;obtain⟨v,w,zz,e1,q1⟩:=q1;subst e1;obtain⟨u1,u2,u3,rfl,rv,rw',rz⟩:∃u1 u2 u3,us=[u1,u2,u3]/\bS v u1/\bS w u2/\bS zz u3:=by
  cases r1 with
  |cons p q=>
   cases q with
   |cons p' q'=>
    cases q' with
    |cons p'' q''=>
     cases q'';exact⟨_,_,_,rfl,p,p',p''⟩
 refine mq ?_ (by show 3<=ky;decide);have I2:aZ X pins σ H1 { s1 with heap:=s1.heap.push { cls:=.type "tuple",data:=.seq [u1,u2,u3].toArray } }:=I1.kept (t':=s1.toks) λb o e=>WL _ e;rw[hw];refine kc (kq ?_);show kh (km X.prog X.w) X.A (do rule "assign.swapped-stores";let items <-unpackItems (.ref s1.heap.objs.size) 3 none;qu [λv=>qd X.env z v,λv=>qd X.env y v,λv=>qd X.env x v] items.reverse;pure Flow.next) _ _ _;refine kc (rg (kc (unpackItems_tuple (items:=#[u1,u2,u3]) (I.ok.hd hc) (IsTup.new s1.heap _) λh' hx'=>?_)));have I3:=I2.kept (h':=h') (t':=s1.toks) λb o e=>hx' b o (XM (WR e)) e;show kh _ _ (qu [λv=>qd X.env z v,λv=>qd X.env y v,λv=>qd X.env x v] [u3,u2,u1] >>= λ_=>pure Flow.next) _ _ _;refine kc (oh (qo (jX I3 hN hk (.inl hz) rz (λs2 I4=>?_) (.inr hz))));refine oh (qo (jX I4 hN hj (.inl hy) rw' (λs3 I5=>?_) (.inr hy)));refine oh (qo (jX I5 hN hi (.inl hx) rv (λs4 I6=>rf (kq ?_)) (.inr hx)));rw[bg _ _ (Ne.symm hij),bg _ _ (Ne.symm hik),bg _ _ (Ne.symm hjk)]at I6;exact⟨_,H1,I6,q1⟩
structure Fn(P:kg)(w:ko)(K:W.Frag)(mg:Str->Option oA)(base:oE)(k:Nat)(x:Str)(ps:List Str)(sp:Sp):Prop where
 ex:∃f fd,aV P w K mg base cM k f fd ps sp/\mg x=oZ (.ref f)/\W.keepIn K (.ref f)=true/\lG K fd ps []
theorem MV(F:Fn X.prog X.w X.K X.mg X.base k x ps sp)(hr:d5 j X.A)(hk:k<=j)(hg:Gl X x)(ha:PA X (e::es) t)(yt:(x==("__debug__":Str))=false:=by decide)(he:md (e::es) X.env=(false,lq e X.env)::md es X.env:=by rfl)(hpl:(qr pos (md es X.env)).any (·.1)=false:=by rfl):PE X (.Call (.Name x p) (e::es) [] pos) (Ly sp [] E0 t):=by
 obtain⟨f,fd,F,hm,hkp,hb⟩:=F.ex;exact X6 F (hr.mono hk) hg hm hkp hb .nil MS ha yt he hpl
def bG:oC->Bool
 |.Starred _ _=>true
 |_=>false
theorem cW(h:bG e=false):md (e::es) env=(false,lq e env)::md es env:=by
 cases e<;>first|rfl|(simp[bG]at h)
def b8:List oC->Bool
 |[]=>true
 |e::es=>!bG e&&b8 es
theorem gZ:∀{es:List oC},b8 es=true->(qr pos (md es env)).any (·.1)=false
 |[],_=>rfl
 |e::es,h=>by
  have h1:bG e=false:=by simp only[b8,XS,dk]at h;exact h.1
  have h2:b8 es=true:=by simp only[b8,XS]at h;exact h.2
  have ih:=gZ (pos:=pos) (env:=env) h2;rw[cW h1];simp only[qr,YH,gf,gj]at ih⊢;exact ih
theorem pc(ha:PE X e te)(hr:PA X es t)(hs:bG e=false:=by rfl):PA X (e::es) (L8 te t):=X3 ha hr (cW hs)
theorem HP(F:Fn X.prog X.w X.K X.mg X.base k x ps sp)(hr:d5 j X.A)(hk:k<=j)(hg:Gl X x)(ha:PA X (e::es) t)(yt:(x==("__debug__":Str))=false:=by decide)(hs:b8 (e::es)=true:=by rfl):PE X (.Call (.Name x p) (e::es) [] pos) (Ly sp [] E0 t):=
 MV F hr hk hg ha yt (cW (by simp only[b8,XS,dk]at hs;exact hs.1)) (gZ (by simp only[b8,XS]at hs;exact hs.2))
theorem Wj{X:Cx}{pos:Pos}{e:oC}{es:List oC}{t:TA}{x:Str}{p:Pos}{id:String}{r:List V->Hp->VK->Prop}(hc:kN X (.builtin id) r)(hg:Gl X x)(hm:X.mg x=none)(hv:og x=oZ (.builtin id))(ha:PA X (e::es) t)(hn:x≠"__name__":=by decide)(yt:(x==("__debug__":Str))=false:=by decide)(hs:b8 (e::es)=true:=by rfl):PE X (.Call (.Name x p) (e::es) [] pos) (KP r t):=
 C7 hc hg hm hv ha hn yt (cW (by simp only[b8,XS,dk]at hs;exact hs.1)) (gZ (by simp only[b8,XS]at hs;exact hs.2))
theorem Pg{r:List V->Hp->VK->Prop}(hc:kN X (.type T) r)(hg:Gl X x)(hm:X.mg x=none)(hv:og x=oZ (.type T))(ha:PA X (e::es) t)(hn:x≠"__name__":=by decide)(yt:(x==("__debug__":Str))=false:=by decide)(hs:b8 (e::es)=true:=by rfl):PE X (.Call (.Name x p) (e::es) [] pos) (KP r t):=
 Wl hc hg hm hv ha hn yt (cW (by simp only[b8,XS,dk]at hs;exact hs.1)) (gZ (by simp only[b8,XS]at hs;exact hs.2))
structure QE(X:Cx)(e:oC)(t:TE):Prop where
 h:PE X e t
structure QT(X:Cx)(e:oC)(t:TT):Prop where
 h:PT X e t
structure QW(X:Cx)(e:oC)(t:TT):Prop where
 h:PW X e t
structure QA(X:Cx)(es:List oC)(t:TA):Prop where
 h:PA X es t
structure QS(X:Cx)(st:ki)(t:TS):Prop where
 h:PS X st t
structure QB(X:Cx)(st:List ki)(t:TS):Prop where
 h:Qx X st t
structure QG(X:Cx)(e:oC)(t:TG):Prop where
 h:PG X e t
structure Xf(X:Cx)(es:List oC)(t:ED):Prop where
 h:KY X es t
structure QI(X:Cx)(tg e:oC)(t:TI):Prop where
 h:PI X tg e t
structure QO(X:Cx)(e:Option oC)(t:TO):Prop where
 h:PO X e t
def Rf(sc scope:qk)(N N':List Str)(t:Nat)(cap:List Nat):Bool:=
 decide (scope.kind = .function)&&scope.names.all (λy=>decide (y.2≠.cell))&&scope.names.all (λy=>decide (y.2 = .local->scope.names.lookup y.1=oZ .local)) &&
 scope.names.all (λy=>decide (y.2 = .free->(sc.names.lookup y.1=oZ .cell\/sc.names.lookup y.1=oZ .free)))&&decide (N'.length=t+cap.length) &&
 (XH cap.length).all (λj=>match cap[j]?,N'[t+j]? with|some k,oZ x=>decide (N[k]?=oZ x/\scope.names.lookup x=oZ .free)|_,_=>false)
theorem bV.of(h:Rf X.env.scope scope X.N N' t cap=true):bV X N' scope t cap:=by
 simp only[Rf,XS,ZK,decide_eq_true_eq]at h;obtain⟨⟨⟨⟨⟨h1,h2⟩,h3⟩,h4⟩,h5⟩,h6⟩:=h;refine⟨h1,h2,h3,h4,h5,λj k e=>?_⟩;have hj:j<cap.length:=(WE.mp e).1;have h:=h6 j (ZD.mpr hj);rw[e]at h;cases q:N'[t+j]? with
 |none=>rw[q]at h;cases h
 |some x=>
  rw[q]at h;have h':=of_decide_eq_true h;exact⟨x,rfl,h'.1,h'.2⟩
theorem F2:QB X [] DG:=⟨Z0⟩
theorem Hh{X:Cx}{t:TS}{u:TS}{st:ki}{sts:List ki}(h1:QS X st t)(h2:QB X sts u):QB X (st::sts) (OY t u):=⟨E9 h1.h h2.h⟩
theorem Pj{X:Cx}{t:TS}{st:ki}(h1:QS X st t):QB X [st] t:=⟨Z1 h1.h⟩
theorem Pk(h:QE X e te):QS X (.Return (oZ e) pos) (OW te):=⟨IF h.h⟩
theorem CG(hc:QT X c tc)(ha:QB X b1 t)(hb:QB X b2 u):QS X (.If c b1 b2 pos) (OM tc t u):=⟨NA hc.h ha.h hb.h⟩
theorem F9(hp:PassesOwn (km X.prog X.w) X.A X.env X.xe)(hc:QT X c tc)(hb:QB X body tbd):QS X (.While c body [] pos) (N3 tc tbd):=⟨E8 hp hc.h hb.h⟩
theorem F7(hp:PassesOwn (km X.prog X.w) X.A X.env X.xe)(hc:X.calm=true)(hi:QI X tg iter wi)(hg:QG X tg g)(hb:QB X body tbd)(hs:∀x,lh iter X.env x=pure x:=by intro _;rfl):
  QS X (.For tg iter body [] pos) (OL wi g tbd):=⟨ID hp hc hi.h hg.h hb.h hs⟩
theorem Hi(he:QE X e te)(hs:my e none pos.line X.env=pure false:=by rfl):QS X (.Expr e pos) (CV te):=⟨Y7 he.h hs⟩
theorem Pl(hN:X.N.Nodup)(hi:X.N[i]?=oZ x)(hx:Bg X.env.scope x)(he:QE X e te)(hs:my e (oZ (.Name x pos')) pos.line X.env=pure false:=by rfl)(hf:X.fn x=true\/X.env.scope.names.lookup x=oZ .local:=by first|exact .inl rfl|exact .inr rfl|assumption):QS X (.Assign [.Name x pos'] e pos) (Qk te (pT i)):=⟨IG hN hi hx he.h hs hf⟩
theorem IZ(he:QE X e te)(hg:QG X tg g)(hs:mz [tg] e pos.line X.env=pure false:=by rfl)(hw:ni [tg] e X.env=pure none:=by rfl)(h1:(mh [tg] X.env).map (·.2)=[qf tg X.env]:=by rfl):QS X (.Assign [tg] e pos) (Qk te g):=⟨IB he.h hg.h hs hw h1⟩
theorem F8{kt k2 pt2}(hc:X.calm=true)(hN:X.N.Nodup)(hi:X.N[i]?=oZ x)(hj:X.N[j]?=oZ y)(hij:i≠j)(hx:X.env.scope.names.lookup x=oZ .local)(hy:X.env.scope.names.lookup y=oZ .local)(ha:QA X [a,b] tr)(hw:ni [.Tuple [.Name x px,.Name y py] kt pt] (.Tuple [a,b] k2 pt2) X.env=pure (oZ [x,y]))(hs:mz [.Tuple [.Name x px,.Name y py] kt pt] (.Tuple [a,b] k2 pt2) pos.line X.env=pure false:=by rfl):
  QS X (.Assign [.Tuple [.Name x px,.Name y py] kt pt] (.Tuple [a,b] k2 pt2) pos) (OV i j tr):=⟨IE hc hN hi hj hij hx hy ha.h hw hs⟩
theorem Z8{kt k2 pt2}(hc:X.calm=true)(hN:X.N.Nodup)(hi:X.N[i]?=oZ x)(hj:X.N[j]?=oZ y)(hk:X.N[k]?=oZ z)(hij:i≠j)(hik:i≠k)(hjk:j≠k)(hx:X.env.scope.names.lookup x=oZ .local)(hy:X.env.scope.names.lookup y=oZ .local)(hz:X.env.scope.names.lookup z=oZ .local)(ha:QA X [a,b,c] tr)(hw:ni [.Tuple [.Name x px,.Name y py,.Name z pz] kt pt] (.Tuple [a,b,c] k2 pt2) X.env=pure (oZ [x,y,z]))(hs:mz [.Tuple [.Name x px,.Name y py,.Name z pz] kt pt] (.Tuple [a,b,c] k2 pt2) pos.line X.env=pure false:=by rfl):
  QS X (.Assign [.Tuple [.Name x px,.Name y py,.Name z pz] kt pt] (.Tuple [a,b,c] k2 pt2) pos) (DJ i j k tr):=⟨Y8 hc hN hi hj hk hij hik hjk hx hy hz ha.h hw hs⟩
theorem u4(hN:X.N.Nodup)(hi:X.N[i]?=oZ x)(hx:Bg X.env.scope x)(hf:X.fn x=true\/X.env.scope.names.lookup x=oZ .local:=by first|exact .inl rfl|exact .inr rfl|assumption):QG X (.Name x pos) (pT i):=⟨Y2 hN hi hx hf⟩
theorem Sw:Xf X [] U2:=⟨Y3⟩
theorem Ac(h1:QG X e g)(h2:Xf X es gs)(hs:(mh (e::es) X.env).map (·.2)=qf e X.env::(mh es X.env).map (·.2):=by rfl):Xf X (e::es) (Dj g gs):=⟨D5 h1.h h2.h hs⟩
theorem F6(hc:X.calm=true)(h:Xf X es gs)(hn:(mh es X.env).length=n:=by rfl)(hst:(mh es X.env).findIdx? (·.1)=none:=by rfl):QG X (.Tuple es k pos) (FZ X.K n gs):=⟨HY hc h.h hn hst⟩
theorem IX(ho:QE X o to)(hi:QE X i ti)(hs:EA X ts)(ha:∀v,qf (.Subscript o i pos) X.env v=(do
   let ov <-oq [v] (lq o X.env)
   let iv <-oq [v,ov] (lq i X.env)
   standAt pos
   oq [v,ov,iv] (setItem ov iv v)
   release [v,ov,iv] []):=by intro _;rfl):QG X (.Subscript o i pos) (MA to ti ts):=⟨HX ho.h hi.h hs ha⟩
theorem Wq(hg:Gl X "range")(hm:X.mg "range" = none)(ha:QA X [a] tr)(hs:bG a=false:=by rfl):QI X tg (.Call (.Name "range" p) [a] [] pos) (BY tr):=⟨Wm hg hm ha.h (cW hs)⟩
theorem Wr(hg:Gl X "range")(hm:X.mg "range" = none)(ha:QA X [a,b] tr)(hs:bG a=false:=by rfl)(hs2:bG b=false:=by rfl):QI X tg (.Call (.Name "range" p) [a,b] [] pos) (BZ tr):=
 ⟨Wn hg hm ha.h (by rw[cW hs,cW hs2];rfl) (by rw[cW hs2];rfl)⟩
theorem Z4{x1}(hg:Gl X "enumerate")(hm:X.mg "enumerate" = none)(ha:QA X [a] tr)(hs:bG a=false:=by rfl):QI X (.Tuple elts x1 yg) (.Call (.Name "enumerate" p) [a] [] pos) (BX X.K tr):=⟨Y4 hg hm ha.h (cW hs)⟩
theorem Z5(hl:QE X l tl):QI X tg l (Ze X.K tl):=⟨Sq hl.h⟩
theorem IY(hl:QE X l tl):QI X tg l (MC X.K tl):=⟨IA hl.h⟩
theorem IP:QA X [] OS:=⟨HK⟩
theorem qc(ha:QE X e te)(hr:QA X es tr)(hs:bG e=false:=by rfl):QA X (e::es) (L8 te tr):=⟨pc ha.h hr.h hs⟩
theorem IS{i j pos}:QE X (.Constant (.int i) j pos) (tC (.int i)):=⟨HQ⟩
theorem NC{b j pos}:QE X (.Constant (.bool b) j pos) (tC (.bl b)):=⟨MU⟩
theorem F4{j pos}:QE X (.Constant .none j pos) (tC .non):=⟨HS⟩
theorem IW{x j pos}:QE X (.Constant (.str x) j pos) (tC (.str x)):=⟨D4⟩
theorem qv(i:Nat)(hN:X.N[i]?=oZ x:=by rfl)(hv:BK X.env.scope x:=by first|exact YD rfl|exact YQ (YD rfl)|exact YQ (YQ rfl))(hd:(x==("__debug__":Str))=false:=by decide)(hcd:(x==("__classdict__":Str))=false:=by decide):QE X (.Name x pos) (Cd i):=⟨vT hN hv hd hcd⟩
theorem Ab(ho:o8 X (mr op) r)(ha:QE X a ta)(hb:QE X b tb):QE X (.BinOp a op b pos) (M8 r ta tb):=⟨MX ho ha.h hb.h⟩
theorem NG{r:V->Hp->VK->Prop}(ho:QU X (unaryOp op) r)(ha:QE X a ta):QE X (.UnaryOp op a pos) (VG r ta):=⟨MZ ho ha.h⟩
theorem IU(ha:QE X a ta):QE X (.UnaryOp .Not a pos) (DH ta):=⟨HU ha.h⟩
theorem Su(ho:o8 X (ml op) r)(ha:QE X a ta)(hb:QE X b tb)(hm:ma op b=false):QE X (.Compare a [op] [b] pos) (M8 r ta tb):=⟨X7 ho ha.h hb.h hm⟩
theorem IQ(ha:QE X a ta)(hb:QE X (.BoolOp .And (b::rest) pos) tb):QE X (.BoolOp .And (a::b::rest) pos) (CN ta tb):=⟨HM ha.h hb.h⟩
theorem NF(ha:QE X a ta)(hb:QE X (.BoolOp .Or (b::rest) pos) tb):QE X (.BoolOp .Or (a::b::rest) pos) (OU ta tb):=⟨MY ha.h hb.h⟩
theorem IV{op}(h:QE X a ta):QE X (.BoolOp op [a] pos) ta:=⟨HV h.h⟩
theorem F3(hc:QT X c tA)(ha:QE X a ta)(hb:QE X b tb):QE X (.IfExp c a b pos) (UZ tA ta tb):=⟨D0 hc.h ha.h hb.h⟩
theorem F5{x1}(h:QA X es tr):QE X (.Tuple es x1 pos) (PB tr):=⟨HW h.h⟩
theorem IT(h:QA X es tr):QE X (.List es pos) (OP tr):=⟨HR h.h⟩
theorem CF(hr:P7 X r)(ha:QE X a ta)(hb:QE X b tb)(hs:uJ b):QE X (.Subscript a b pos) (M8 r ta tb):=⟨MW hr ha.h hb.h hs⟩
theorem Z6{X:Cx}:QO X none Tt:=⟨Y5⟩
theorem Z7(h:QE X e te):QO X (oZ e) (Mc te):=⟨Y6 h.h⟩
theorem Lc{r:V->Option Int->Option Int->Hp->VK->Prop}{lo hi:Option oC}(hr:QR X r)(he:QE X e te)(hl:QO X lo tlo)(hu:QO X hi thi):QE X (.Subscript e (.Slice lo hi none p2) pos) (VD r te tlo thi):=⟨D3 hr he.h hl.h hu.h⟩
theorem vV(F:Fn X.prog X.w X.K X.mg X.base k x ps sp)(hr:d5 j X.A)(hk:k<=j)(hg:Gl X x)(ha:QA X (e::es) tr)(yt:(x==("__debug__":Str))=false:=by decide)(hs:b8 (e::es)=true:=by rfl):QE X (.Call (.Name x p) (e::es) [] pos) (Ly sp [] E0 tr):=⟨HP F hr hk hg ha.h yt hs⟩
theorem kK{X:Cx}{pos:Pos}{e:oC}{es:List oC}{tr:TA}{x:Str}{p:Pos}{id:String}{r:List V->Hp->VK->Prop}(hc:kN X (.builtin id) r)(hg:Gl X x)(hm:X.mg x=none)(hv:og x=oZ (.builtin id))(ha:QA X (e::es) tr)(hn:x≠"__name__":=by decide)(yt:(x==("__debug__":Str))=false:=by decide)(hs:b8 (e::es)=true:=by rfl):QE X (.Call (.Name x p) (e::es) [] pos) (KP r tr):=⟨Wj hc hg hm hv ha.h hn yt hs⟩
theorem sZ{r:List V->Hp->VK->Prop}(hc:kN X (.type T) r)(hg:Gl X x)(hm:X.mg x=none)(hv:og x=oZ (.type T))(ha:QA X (e::es) tr)(hn:x≠"__name__":=by decide)(yt:(x==("__debug__":Str))=false:=by decide)(hs:b8 (e::es)=true:=by rfl):QE X (.Call (.Name x p) (e::es) [] pos) (KP r tr):=⟨Pg hc hg hm hv ha.h hn yt hs⟩
theorem Sv(hc:X.calm=true)(S:bV X N' scope t cap)(hi:QI X target iter wi)(hg:∀C s3 H3 fp,QG (bA X N' scope C s3 H3 fp) target g)(he:∀C s3 H3 fp,QE (bA X N' scope C s3 H3 fp) elt te)(hs:∀x,lh iter X.env x=pure x:=by intro _;rfl):
  QE X (.ListComp elt [⟨target,iter,[],0⟩] scope pos) (Eb t cap wi g te):=⟨X8 hc S hi.h (λC s3 H3 fp=>(hg C s3 H3 fp).h) (λC s3 H3 fp=>(he C s3 H3 fp).h) hs⟩
theorem Sx(ho:o8 X (ml op) r)(ha:QE X a ta)(hb:QE X b tb)(hm:ma op b=false):QT X (.Compare a [op] [b] pos) (N2 (M8 r ta tb)):=⟨Sr ho ha.h hb.h hm⟩
theorem JA(ha:QT X a tA):QT X (.UnaryOp .Not a pos) (OT tA):=⟨II ha.h⟩
theorem JB(h:QE X e te)(he:∀whole,isTrue e X.env whole=(do let v <-whole;standAt e.pos;oq [v] (truthy v)):=by intro _;rfl):QT X e (tB te):=⟨IJ h.h he⟩
theorem AA(ha:QT X a tA):QW X (.BoolOp .And [a] pos) tA:=⟨Z2 ha.h⟩
theorem JD(ha:QT X a tA):QW X (.BoolOp .Or [a] pos) tA:=⟨IM ha.h⟩
theorem JC(ha:QT X a tA)(hb:QW X (.BoolOp .And (b::rest) pos) tB'):QW X (.BoolOp .And (a::b::rest) pos) (OD tA tB'):=⟨IL ha.h hb.h⟩
theorem NJ(ha:QT X a tA)(hb:QW X (.BoolOp .Or (b::rest) pos) tB'):QW X (.BoolOp .Or (a::b::rest) pos) (VB tA tB'):=⟨NB ha.h hb.h⟩
theorem TQ(h:QW X e tA):QT X e tA:=⟨h.h.pt⟩
theorem cK.okQ{P:kg}{w:ko}{K:W.Frag}{mg:Str->Option oA}{base:oE}{x qual:Str}{st:ki}{f:jz}{fd:mf}{N ps:List Str}{k:Nat}{sp:Sp}(F:cK K x qual st f fd)(S:aF N ps (aC st))(len:∀vs H Q E,sp vs H Q E->vs.length=ps.length)(aCB:∀(wj:oA)(A:oD)(outer:List Env)(s:oB)(H:Hp)(vs:List V)(Q:VK)(E:XK),d5 k (A.deeper (ph qual (aC st) s.heap.objs.size f wj))->sp vs H Q E->
   ∃t,QB (zE cM P w K mg base N qual (aC st) f wj A outer s H E).nox (c7 st) t/\t { nx:=λ_ H'=>Q .non H',rt:=Q } (lC N vs) H):(~~~aV) cM (k+1) f fd ps sp:=
 F.ok S len λwj A outer s H vs Q E hr h=>let⟨t,h1,h2⟩:=aCB wj A outer s H vs Q E hr h;⟨t,h1.h,h2⟩
theorem Im{E:oA->oB->Prop}{Q:oA->oB->Prop}(gi:s.heap.IsTupleIter it t k)(gt:s.heap.IsTuple t items)(gx:items[k]?=oZ x)(gq:∀h',h'.IsTupleIter it t (k+1)->cg it s.heap h'->Q x { s with heap:=h' }):kh (km prog w) A (Builtin.SmallTypes.nextOf (.ref it)) Q E s:=by
 obtain⟨ob,eo,ec,ed⟩:=id gi;obtain⟨ot,et,_,nt,edt⟩:=gt;unfold Builtin.SmallTypes.nextOf;refine kc (wpAny_callSpecial?_slot (name:=XI "__next__") gi.typeIs F.slot_tuple_iterator_next (oy F.slot_tuple_iterator_next gi.typeIs F.entry_tuple_iterator_next ?_ (F.args_tuple_iterator_next_1 _)));show kh _ _ (field (.ref it) 0 >>= _) _ _ _;refine kc (nj eo ed (x:=.ref t) rfl ?_);show kh _ _ (if(YB t==de)=true then _ else _) _ _ _;rw[oW (λhq:(YB t==de)=true=>ZM hq)];show kh _ _ (field (.ref it) 1 >>= _) _ _ _;refine kc (nj eo ed (x:=.int k 0) rfl ?_);show kh _ _ (seqItems? (.ref t) >>= _) _ _ _;refine kc (qq et edt ?_);simp only[XU,gx];refine kc (wpAny_setField eo ed (by simp) (kq ⟨x,rfl,kq (gq _ ?_ (Heap.SameBut.update ..))⟩));exact⟨_,dz _ eo (Obj.isFreed_of_fields (Obj.data_mapFields ed _)),(Obj.cls_mapFields ..).trans ec,by rw[Obj.data_mapFields ed];simp[rawInt]⟩
theorem xK{E:oA->oB->Prop}{Q:oA->oB->Prop}(gh:A.handled=none)(gi:s.heap.IsTupleIter it t k)(gt:s.heap.IsTuple t items)(gx:items[k]?=none)(ge:∀h' e,Heap.ExtBut it s.heap h'->(∃o,h'.get? e=oZ o/\o.cls = .type "StopIteration")->E (.ref e) { s with heap:=h' }):kh (km prog w) A (Builtin.SmallTypes.nextOf (.ref it)) Q E s:=by
 obtain⟨ob,eo,ec,ed⟩:=id gi;obtain⟨ot,et,_,nt,edt⟩:=gt;unfold Builtin.SmallTypes.nextOf;refine kc (wpAny_callSpecial?_slot (name:=XI "__next__") gi.typeIs F.slot_tuple_iterator_next (oy F.slot_tuple_iterator_next gi.typeIs F.entry_tuple_iterator_next ?_ (F.args_tuple_iterator_next_1 _)));show kh _ _ (field (.ref it) 0 >>= _) _ _ _;refine kc (nj eo ed (x:=.ref t) rfl ?_);show kh _ _ (if(YB t==de)=true then _ else _) _ _ _;rw[oW (λhq:(YB t==de)=true=>ZM hq)];show kh _ _ (field (.ref it) 1 >>= _) _ _ _;refine kc (nj eo ed (x:=.int k 0) rfl ?_);show kh _ _ (seqItems? (.ref t) >>= _) _ _ _;refine kc (qq et edt ?_);simp only[XU,gx];refine kc (rg (kc (wpAny_setField eo ed (by simp) ?_)));show kh _ _ (newExc (.type "StopIteration") [] >>= _) _ _ _;refine kc ?_;simp only[newExc,newTuple];refine kc (mq ?_ (by size_fits));refine kc (m:=firstArgMember _ _) (wpAny_of_eq (a:=de) (by first|rfl|(simp only[firstArgMember];rfl)) (mq ?_ (by size_fits)));simp only[raiseNew];refine kc (wpAny_handled ?_)
 first|rw[show A.in1.handled=none from gh]|rw[gh]
 refine kc (kq (wpAny_throw ?_));exact ge _ _ (((Heap.SameBut.update ..).extBut.push _).push _) ⟨_,WV _ rfl,rfl⟩
theorem Cz{prog:kg}{w:ko}{A:oD}(gh:A.handled=none)(it t:jz)(zw:t≠it)(items:Array oA):
  Draws prog w A it [it,t] items.size (λi v=>items[i]?=oZ v) (λi h=>h.IsTupleIter it t i/\h.IsTuple t items) where
 live:=λ_ _ st=>let⟨o,ho,_⟩:=st.1;⟨o,ho⟩
 frame:=λ_ _ _ st hk=>⟨st.1.at λo e=>hk it (by simp) o e,st.2.at λo e=>hk t (by simp) o e⟩
 item:=λi s Q E hi st hQ=>Im st.1 st.2 (x:=items[i]) (by simp[hi]) λh' aI6 hs'=>hQ _ h' s.toks (by simp[hi]) ⟨aI6,st.2.extBut hs'.extBut zw⟩ hs'
 done:=λs Q E st hE=>xK gh st.1 st.2 (by simp) hE
def kP(κ:Bool)(h:oE)(it a:jz)(i:Nat):Prop:=match κ with|true=>h.IsTupleIter it a i|false=>h.IsListIter it a i
def yW(κ:Bool)(h:oE)(a:jz)(items:Array oA):Prop:=match κ with|true=>h.IsTuple a items|false=>h.IsList a items
theorem kP.at(x:kP κ h it a i)(e:∀o,h.get? it=oZ o->h'.get? it=oZ o):kP κ h' it a i:=by
 cases κ
 ·exact Heap.IsListIter.at x e
 ·exact Heap.IsTupleIter.at x e
theorem kP.obj(x:kP κ h it a i):∃o,h.get? it=oZ o/\∀v,o.data≠.cell v:=by
 cases κ
 ·obtain⟨o,e,c,d⟩:=x;exact⟨o,e,λv z=>by rw[d]at z;cases z⟩
 ·obtain⟨o,e,c,d⟩:=x;exact⟨o,e,λv z=>by rw[d]at z;cases z⟩
theorem Ya(κ:Bool)(hh:A.handled=none)(it a:jz)(zw:a≠it)(items:Array oA):
  Draws prog w A it [it,a] items.size (λi v=>items[i]?=oZ v) (λi h=>kP κ h it a i/\yW κ h a items):=by
 cases κ
 ·exact Draws.list hh it a zw items
 ·exact Cz hh it a zw items
abbrev PU(h:oE)(a:jz):oE:=h.push { cls:=.type "tuple_iterator",data:=.fields #[.ref a,.int 0 0] }
abbrev PV(h:oE)(a b:jz):oE:=(PU h a).push { cls:=.type "tuple_iterator",data:=.fields #[.ref b,.int 0 0] }
abbrev PX(h:oE)(a b:jz):oE:=(PV h a b).push { cls:=.type "tuple",data:=.seq #[.ref h.objs.size,.ref (PU h a).objs.size] }
abbrev PY(h:oE)(a b:jz):oE:=(PX h a b).push { cls:=.type "tuple",data:=.seq #[.none,.none] }
abbrev P6(h:oE)(a b:jz):oE:=(PY h a b).push { cls:=.type "zip",data:=.fields #[.none,.bool false,.bool false,.ref (PV h a b).objs.size,.ref (PX h a b).objs.size] }
theorem P4(a b:jz)(xs ys:Array oA):
  Meets (Builtin.«zip.__new__» ⟨[.type "zip",.ref a,.ref b],[]⟩) (λ_ R s=>s.heap.IsTuple a xs/\s.heap.IsTuple b ys/\R (.ok (.ret (.ref (PY s.heap a b).objs.size))) { s with heap:=P6 s.heap a b }):=
 .of_wp λprog w A R s h=>by
  obtain⟨hp,g,d,tk,os⟩:=s;obtain⟨ga,gb,h⟩:=h;have aI7:=sub_zip;have gA:Heap.IsTuple (Shared.heap ⟨hp,g,d,tk,os⟩) a xs:=ga;have gB:Heap.IsTuple (Shared.heap ⟨hp.push { cls:=.type "tuple_iterator",data:=.fields #[.ref a,.int 0 0] },g,d,tk,os⟩) b ys:=Heap.IsTuple.push gb _
  wp_walk using oi gA,oi gB
  exact⟨_,rfl,h⟩
theorem Uz{E:oA->oB->Prop}{Q:oA->oB->Prop}(ga:s.heap.IsTuple a xs)(gb:s.heap.IsTuple b ys)(g:∀h',qw h' (s.heap.objs.size+4) (s.heap.objs.size+2) (s.heap.objs.size+3) .none->IsPair h' (s.heap.objs.size+2) (.ref s.heap.objs.size) (.ref (s.heap.objs.size+1))->IsPair h' (s.heap.objs.size+3) .none .none->
   h'.IsTupleIter s.heap.objs.size a 0->h'.IsTupleIter (s.heap.objs.size+1) b 0->(∀c o,s.heap.get? c=oZ o->h'.get? c=oZ o)->Q (.ref (s.heap.objs.size+4)) { s with heap:=h' }):
  kh (km prog w) A (call (.type "zip") [.ref a,.ref b]) Q E s:=by
 refine callType_new F.called_zip ∅ (F.typeCall_zip_2 _ _) (F.newCall_zip_2 _ _) (λobj=>F.args_object_init_3 obj _ _) F.entry_zip_new (P4 a b xs ys) ⟨ga,gb,?_⟩;have y1:(PU s.heap a).objs.size=s.heap.objs.size+1:=YK ..;have y2:(PV s.heap a b).objs.size=s.heap.objs.size+2:=by rw[YK,y1]
 have y3:(PX s.heap a b).objs.size=s.heap.objs.size+3:=by rw[YK,y2]
 have y4:(PY s.heap a b).objs.size=s.heap.objs.size+4:=by rw[YK,y3]
 have p4:∀{c:jz}{o:Obj},(PY s.heap a b).get? c=oZ o->(P6 s.heap a b).get? c=oZ o:=λe=>WL _ e;have p3:∀{c:jz}{o:Obj},(PX s.heap a b).get? c=oZ o->(P6 s.heap a b).get? c=oZ o:=λe=>p4 (WL _ e);have p2:∀{c:jz}{o:Obj},(PV s.heap a b).get? c=oZ o->(P6 s.heap a b).get? c=oZ o:=λe=>p3 (WL _ e);have p1:∀{c:jz}{o:Obj},(PU s.heap a).get? c=oZ o->(P6 s.heap a b).get? c=oZ o:=λe=>p2 (WL _ e);have p0:∀{c:jz}{o:Obj},s.heap.get? c=oZ o->(P6 s.heap a b).get? c=oZ o:=λe=>p1 (WL _ e);have x5:(P6 s.heap a b).get? (PY s.heap a b).objs.size=oZ _:=WV _ rfl;have x4:(P6 s.heap a b).get? (PX s.heap a b).objs.size=oZ _:=p4 (WV _ rfl);have x3:(P6 s.heap a b).get? (PV s.heap a b).objs.size=oZ _:=p3 (WV _ rfl);have x2:(P6 s.heap a b).get? (PU s.heap a).objs.size=oZ _:=p2 (WV _ rfl);have x1:(P6 s.heap a b).get? s.heap.objs.size=oZ _:=p1 (WV _ rfl);show _/\_;rw[y2,y3,y4]at x5;rw[y1,y2]at x3;rw[y3]at x4;rw[y1]at x2;rw[y4];exact⟨⟨_,x5,rfl⟩,g _ x5 x3 x4 ⟨_,x1,rfl,rfl⟩ ⟨_,x2,rfl,rfl⟩ λc o e=>p0 e⟩
theorem VX(n:Nat):[n+4,n+2,n+3,n,n+1].Nodup:=by
 simp only[YS,WM,YF,or_false,not_or,ju,and_true,not_false_eq_true]
 lia
theorem VO(h:c∈[n+4,n+2,n+3,n,n+1]):n<=c:=by
 simp only[WM,YF,or_false]at h
 lia
section
variable{X:Cx}{pos:Pos}{a b e:oC}{ta tb te:TE}{tc:TT}
def AY(c:TT):TS:=λD σ H=>c σ H λb H1=>b=true/\D.nx σ H1
theorem Ws(hc:QT X c tc):QS X (.Assert c m pos) (AY tc):=⟨by
 intro pins s σ H D I h;exact wpAny_Assert_holds (eC (hc.h pins s σ H _ I h) λb s1 zZ=>by obtain⟨H1,I1,q1⟩:=zZ;exact⟨q1.1,σ,H1,I1,q1.2⟩)⟩
end
def Qs(i j:Int):Prop:=i.natAbs<2^8000/\j.natAbs<2^8000
theorem Qz{a:Int}(h:a.natAbs<2^8000):Builtin.Int.intBits a<=8001:=by
 unfold Builtin.Int.intBits
 split
 ·lia
 ·rename_i h0;have zw:a.natAbs≠0:=by
   intro z;apply h0
   first|exact Int.natAbs_eq_zero.mp z|simp[Int.natAbs_eq_zero.mp z]|lia
  have:=(dq zw).mpr h
  lia
theorem Qs.ok{i j:Int}(h:Qs i j):IntMulOk i j:=by
 have h1:=Qz h.1;have h2:=Qz h.2;unfold IntMulOk;have:Builtin.Int.intTooBig (Builtin.Int.intBits i+Builtin.Int.intBits j)=false:=by
  unfold Builtin.Int.intTooBig;simp only[decide_eq_false_iff_not];have:(16002:Int)<=bitsLine:=∅
  lia
 rw[this];simp
theorem X2:o8 X (mr .Mult) (rI Qs λi j=>.int (i*j)):=KH λ_ _ _ _ _ _ _ hc q=>mul_int q hc.ok
def Ce(i j:Int):Prop:=j≠0/\j.natAbs<2^8000
theorem eB:o8 X (mr .FloorDiv) (rI Ce λi j=>.int (i.fdiv j)):=KH λi j _ _ _ _ _ hc q=>by
 obtain⟨h0,h1⟩:=hc;have hl:j.natAbs.log2<9000:=by
  have:=(dq (show j.natAbs≠0 by lia)).mpr h1
  lia
 exact floordiv_int h0 q (.inl (PyProof.noPylong_of_log2 hl))
theorem Du(ho:QE X o to)(ha:QA X [e] tr)(wb:mj o "append" X.env (lq o X.env)=lq o X.env:=by rfl)(wc:(ap.endLine==pos.line)=true:=by rfl)(hs:bG e=false:=by rfl):
  QE X (.Call (.Attribute o "append" ap) [e] [] pos) (KO X.K "list" Hj to tr):=
 ⟨Sn PySem.F.plainAttrs_list PySem.F.slot_list_append PySem.F.type_list_append Dn ho.h ha.h wb (by rw[cW hs];rfl) wc (cW hs) (gZ rfl)⟩
theorem Ew:kN X (.builtin "divmod") (λxs H Q=>∃a b:Int,xs=[.int a,.int b]/\0<b/\b<2^200/\∀p,H p=none->Q (.ref p) (upd H p (.tup [.int (a/b),.int (a%b)]))):=by
 intro pins s σ H xs us Q I r h;obtain⟨a,b,rfl,h0,h1,q⟩:=h;obtain⟨u,v,rfl,rx,ry⟩:=bI.two r;obtain⟨t,rfl⟩:=rx;obtain⟨t',rfl⟩:=ry;have e1:a.fdiv b=a/b:=YU _ ⋯;have e2:a.fmod b=a%b:=fz _ ⋯;have hl:b.natAbs.log2<9000:=by
  have hb:b.natAbs<2^200:=⋯
  have:=(dq (show b.natAbs≠0 by lia)).mpr hb
  lia
 refine divmod_int ⋯ ?_ (.inl (PyProof.noPylong_of_log2 hl));refine⟨.ref s.heap.objs.size,_,I.laid (o:=.tup [.int (a/b),.int (a%b)]) (t':=s.toks+1+1) (λb u e=>WL _ e) (WO _) ?_,rfl,q _ (I.hok.fresh (WO _))⟩;refine⟨by show 2<=ky;decide,[.int (a.fdiv b) s.toks,.int (a.fmod b) (s.toks+1)],.cons ⟨_,by rw[e1]⟩ (.cons ⟨_,by rw[e2]⟩ .nil),⟨_,WV _ rfl,rfl,_,rfl⟩⟩
def CH:V->List V->Hp->VK->Prop:=λx vs H Q=>∃i:Int,x = .int i/\vs=[]/\Q (.int ((Builtin.Int.intBits i:Nat):Int)) H
theorem V5:JX X "int.bit_length" CH:=by
 intro pins s σ H x vs v us Q I rx rv h;obtain⟨i,rfl,rfl,q⟩:=h;obtain⟨t,rfl⟩:=rx;cases rv;exact call_int_bit_length ⟨.int _,H,I.tok _,⟨_,rfl⟩,q⟩
theorem Z3(ho:QE X o to)(wb:mj o "bit_length" X.env (lq o X.env)=lq o X.env:=by rfl)(wc:(ap.endLine==pos.line)=true:=by rfl):
  QE X (.Call (.Attribute o "bit_length" ap) [] [] pos) (OE X.K "int" CH to):=
 ⟨HN PySem.F.plainAttrs_int PySem.F.slot_int_bit_length PySem.F.type_int_bit_length V5 ho.h wb wc⟩
section
variable{κ:Type}[DecidableEq κ]
def j7(so:List (κ×V))(k:κ):Option V:=(so.find? λkv=>decide (kv.1=k)).map (·.2)
def sY(so:List (κ×V))(k:κ)(v:V):List (κ×V):=
 if(so.any λkv=>decide (kv.1=k))=true then so.map (λkv=>if kv.1=k then(kv.1,v)else kv)else so++[(k,v)]
theorem fV{p:κ×V}(e:p.1=k):j7 (p::r) k=oZ p.2:=by simp[j7,ah,e]
theorem fU{p:κ×V}(e:¬p.1=k):j7 (p::r) k=j7 r k:=by simp[j7,ah,e]
theorem Bb(k:κ):∀so:List (κ×V),(so.any λkv=>decide (kv.1=k))=(j7 so k).isSome
 |[]=>rfl
 |p::r=>by
  rw[gf]
  by_cases e:p.1=k
  ·simp only[fV e,oY e,Bool.true_or,Option.isSome_some]
  ·rw[fU e,oX e,gj];exact Bb k r
theorem Mh(k j:κ)(y:V):∀so:List (κ×V),j7 (so.map λkv=>if kv.1=k then(kv.1,y)else kv) j=(j7 so j).map λx=>if j=k then y else x
 |[]=>rfl
 |p::r=>by
  have ih:=Mh k j y r;rw[YH]
  by_cases h:p.1=k
  ·rw[oV h]
   by_cases e:p.1=j
   ·rw[fV (p:=(p.1,y)) e,fV e,fe,oV (e.symm.trans h)]
   ·rw[fU (p:=(p.1,y)) e,fU e,ih]
  ·rw[oW h]
   by_cases e:p.1=j
   ·rw[fV (p:=p) e,fV e,fe,oW (λz=>h (e.trans z))]
   ·rw[fU (p:=p) e,fU e,ih]
theorem Eh(k j:κ)(y:V):∀so:List (κ×V),j7 so k=none->j7 (so++[(k,y)]) j=if j=k then oZ y else j7 so j
 |[],_=>by
  by_cases e:k=j
  ·rw[oV e.symm];exact fV (p:=(k,y)) e
  ·rw[oW (λz=>e z.symm)];exact fU (p:=(k,y)) e
 |p::r,hn=>by
  rw[List.cons_append];have hk:¬p.1=k:=λz=>by rw[fV z]at hn;cases hn
  rw[fU hk]at hn;have ih:=Eh k j y r hn
  by_cases e:p.1=j
  ·rw[fV e,fV e,oW (λz=>hk (e.trans z))]
  ·rw[fU e,fU e,ih]
theorem O7(so:List (κ×V))(k j:κ)(y:V):j7 (sY so k y) j=if j=k then oZ y else j7 so j:=by
 unfold sY
 by_cases a:(so.any λkv=>decide (kv.1=k))=true
 ·rw[oV a,Mh];rw[Bb]at a
  by_cases e:j=k
  ·obtain⟨x,hx⟩:=ij.mp a;rw[oV e,e,hx,fe,oV rfl]
  ·rw[oW e];cases j7 so j with
   |none=>rfl
   |some x=>rw[fe,oW e]
 ·rw[oW a];refine Eh k j y so ?_;rw[Bb]at a;cases q:j7 so k with
  |none=>rfl
  |some x=>rw[q]at a;exact(a rfl).elim
theorem xG(so:List (κ×V))(k:κ)(v:V):(sY so k v).length<=so.length+1:=by
 unfold sY
 split
 ·rw[WJ];lia
 ·rw[WK,XG,ff];lia
theorem Bh.isSome_eq(r:Bh o u):o.isSome=u.isSome:=by
 cases o with
 |none=>cases u with
  |none=>rfl
  |some _=>exact(show False from r).elim
 |some _=>cases u with
  |none=>exact(show False from r).elim
  |some _=>rfl
theorem KV.val(r:KV so vs)(k:κ):Bh (j7 so k) (valueAt vs k):=by
 unfold KV at r
 induction r with
 |nil=>exact True.intro
 |@cons p q ps qs h t ih=>
  obtain⟨h1,h2⟩:=h
  by_cases e:p.1=k
  ·have e':q.1=k:=h1.symm.trans e;have b:valueAt (q::qs) k=oZ q.2:=by simp[valueAt,ah,e']
   rw[fV e,b];exact h2
  ·have e':¬q.1=k:=λz=>e (h1.trans z);have b:valueAt (q::qs) k=valueAt qs k:=by simp[valueAt,ah,e']
   rw[fU e,b];exact ih
theorem KV.any(r:KV so vs)(k:κ):(so.any λkv=>decide (kv.1=k))=vs.any λkv=>decide (kv.1=k):=by
 unfold KV at r
 induction r with
 |nil=>rfl
 |cons h t ih=>rw[gf,gf,ih,h.1]
theorem KV.repl(r:KV so vs)(k:κ)(ry:bS y u):
  KV (so.map λkv=>if kv.1=k then(kv.1,y)else kv) (vs.map λkv=>if kv.1=k then(kv.1,u)else kv):=by
 unfold KV at r⊢
 induction r with
 |nil=>exact .nil
 |@cons p q ps qs h t ih=>
  rw[YH,YH];refine .cons ?_ ih;obtain⟨h1,h2⟩:=h
  by_cases e:p.1=k
  ·rw[oV e,oV (h1.symm.trans e)];exact⟨h1,ry⟩
  ·rw[oW e,oW (λz=>e (h1.trans z))];exact⟨h1,h2⟩
theorem KV.put(r:KV so vs)(k:κ)(ry:bS y u):KV (sY so k y) (stored vs k u):=by
 unfold sY stored;rw[r.any k]
 by_cases e:(vs.any λkv=>decide (kv.1=k))=true
 ·rw[oV e,oV e];exact r.repl k ry
 ·rw[oW e,oW e];exact Paired.snoc r ⟨rfl,ry⟩
theorem KV.length(r:KV so vs):so.length=vs.length:=Paired.length r
end
theorem Kd(r:bS (kV k) u):(dM P w).is k u=true:=by
 cases k with
 |inl i=>obtain⟨t,e⟩:=(show ∃t,u=Value.int i t from r);subst e;exact Kf P w i t
 |inr x=>obtain⟨t,e⟩:=(show ∃t,u=ae x t from r);subst e;exact fL P w x t
theorem Dk:∀{ks:List Key}{us:List oA},bI (ks.map kV) us->ItemsAre (dM P w) ks us
 |[],_,r=>by rw[List.map_nil]at r;cases r;exact .nil
 |k::ks,_,r=>by
  rw[YH]at r;cases r with
  |cons h t=>exact .cons (Kd h) (Dk t)
abbrev QL(H:Hp):List (List Key×V)->List (List Key×jz×oA)->Prop:=Paired λp q=>p.1=q.1/\H q.2.1=oZ (.tup (p.1.map kV))/\bS p.2 q.2.2
theorem QL.val(r:QL H so xs)(k:List Key):Bh (j7 so k) ((atKey xs k).map (·.2)):=by
 induction r with
 |nil=>exact True.intro
 |@cons p q ps qs h t ih=>
  obtain⟨h1,_,h2⟩:=h
  by_cases e:p.1=k
  ·have e':q.1=k:=h1.symm.trans e;have b:atKey (q::qs) k=oZ q.2:=by simp[atKey,ah,e']
   rw[fV e,b];exact h2
  ·have e':¬q.1=k:=λz=>e (h1.trans z);have b:atKey (q::qs) k=atKey qs k:=by simp[atKey,ah,e']
   rw[fU e,b];exact ih
theorem G2(ok:rK P w H h)(e:Rd H a u):eD P w H h a u:=e.ok ok
theorem Rk(ok:rK P w H h)(e:Rd H a (.dK so)):so.length<=ky/\(a==pj)=false/\∃vs,KV so vs/\h.DictOf (dM P w) a vs:=
 show eD P w H h a (.dK so)from G2 ok e
theorem BN(ok:rK P w H h)(e:H a=oZ (.dK so)):so.length<=ky/\(a==pj)=false/\∃vs,KV so vs/\h.DictOf (dM P w) a vs:=Rk ok (.inl e)
theorem Nr(ok:rK P w H h)(e:H a=oZ (.tup (ks.map kV))):(tupleKind (dM P w)).is h ks a:=by
 obtain⟨_,sf,r,o,h1,h2,n,h3⟩:=(show eD P w H h a (.tup (ks.map kV))from ok a _ e);exact⟨o,sf.toArray,n,h1,h2,h3,by simpa using Dk r⟩
theorem Yf(ok:rK P w H h)(e:Rd H a (.dT so)):so.length<=ky/\(a==pj)=false/\
  ∃xs,QL H so xs/\h.DictOfH (tupleKind (dM P w)) a xs:=by
 obtain⟨z,y,xs,r,o,es,ep,h1,h2,h3,h4,h5⟩:=(show eD P w H h a (.dT so)from G2 ok e);refine⟨z,y,xs,r,o,es,ep,h1,h2,h3,h4,λx hx=>?_,h5⟩;have all:∀{l:List (List Key×V)}{m:List (List Key×jz×oA)},QL H l m->∀x∈m,(tupleKind (dM P w)).is h x.1 x.2.1:=by
  intro l m q
  induction q with
  |nil=>intro x hx;exact nomatch hx
  |@cons p q ps qs hq t ih=>
   intro x hx;obtain e|hx:=WM.mp hx
   ·subst e;exact Nr ok (by rw[<-hq.1];exact hq.2.1)
   ·exact ih x hx
 exact all r x hx
def Ej(H:Hp)(a:jz)(y:V)(r:Option V):Prop:=
 (∃so k,Rd H a (.dK so)/\y=kV k/\r=j7 so k)\/∃so k b,Rd H a (.dT so)/\y = .ref b/\H b=oZ (.tup (k.map kV))/\r=j7 so k
theorem Ej.k{H:Hp}{a:jz}{so:List (Key×V)}{k:Key}(e:H a=oZ (.dK so)):Ej H a (kV k) (j7 so k):=.inl ⟨so,k,.inl e,rfl,rfl⟩
theorem aZ.big(I:aZ X pins σ H s):pj<s.heap.objs.size:=by
 have h:kr<s.heap.objs.size:=(I.mod.glob.keeps I.bk).lt;exact Nat.lt_trans ∅ h
theorem Ve{E:oA->oB->Prop}{Q:oA->oB->Prop}(hu:A.units+1<qp)(I:aZ X pins σ H s)(g:Ej H a y (oZ v))(ry:bS y u)(h:∀w' s',aZ X pins σ H s'->bS v w'->Q w' s'):
  kh (km X.prog X.w) A (qh (.ref a) u) Q E s:=by
 obtain⟨so,k,e,ey,l⟩|⟨so,k,b,e,ey,eb,l⟩:=g
 ·subst ey;obtain⟨z,hd,vs,rel,dd⟩:=Rk I.hok e;obtain⟨w',hw,rw'⟩:=Bh.some_of (v:=v) (o:=valueAt vs k) (by rw[l];exact rel.val k);exact wpAny_getItem_of (Kd ry) dd.mapOf hw (h w' _ (I.tok _) rw')
 ·subst ey;cases(show u=YB b from ry);obtain⟨z,hd,xs,rel,dd⟩:=Yf I.hok e;obtain⟨w',hw,rw'⟩:=Bh.some_of (v:=v) (o:=(atKey xs k).map (·.2)) (by rw[l];exact rel.val k);obtain⟨p,hp,hp2⟩:=XE.mp hw;refine wpAny_getItem_heap (tupleKind_room_in1 hu) (Nr I.hok eb) dd hp ?_;rw[hp2];exact h w' _ (I.tok _) rw'
theorem RT{E:oA->oB->Prop}{Q:oA->oB->Prop}(hu:A.units+1<qp)(I:aZ X pins σ H s)(g:Ej H a y o)(ry:bS y u)(h:∀s',aZ X pins σ H s'->Q (.bool o.isSome) s'):
  kh (km X.prog X.w) A (ml .In u (.ref a)) Q E s:=by
 obtain⟨so,k,e,ey,l⟩|⟨so,k,b,e,ey,eb,l⟩:=g
 ·subst ey;obtain⟨z,hd,vs,rel,dd⟩:=Rk I.hok e;refine wpAny_in_of (Kd ry) hd dd.mapOf ?_;rw[<-(rel.val k).isSome_eq,<-l];exact h _ (I.tok _)
 ·subst ey;cases(show u=YB b from ry);obtain⟨z,hd,xs,rel,dd⟩:=Yf I.hok e;refine wpAny_in_heap (tupleKind_room_in1 hu) (Nr I.hok eb) hd dd ?_;have q:=(rel.val k).isSome_eq;rw[Option.isSome_map]at q;rw[<-q,<-l];exact h _ (I.tok _)
theorem Ri(I:aZ X pins σ H s)(mu:KU (H a))(hs:cg a s.heap h')(he:∃q,h'.get? a=oZ q)(new:eD X.prog X.w (upd H a ob) h' a ob):
  aZ X pins σ (upd H a ob) { s with heap:=h',toks:=t' }:=
 I.write (x:=a) (e:=a) mu (.inl rfl) (λb q hb z=>(hs.2 b hb).trans z) he new
theorem ER(z:so.length<=ky)(hd:(a==pj)=false)(rel:KV so vs)(dd:h'.DictOf (dM P w) a vs):
  eD P w H' h' a (.dK so):=⟨z,hd,vs,rel,dd⟩
def Xl(i:oC):Prop:=∀ov iv,qt i false ov iv=operate [ov,iv] (qh ov iv)
theorem Th{prog:kg}{w:ko}{A:oD}{E:oA->oB->Prop}{s:oB}{env:Env}{value slice:oC}{pos:Pos}{T id:String}{Q:oA->oB->Prop}
  (hl:typeLookup (.type T) "__getitem__" = pure (oZ (.builtin id))) (hs:Xl slice)
  (h:kh (km prog w) A (lq value env) (λo s₁=>kh (km prog w) A (lq slice env) (λi s₂=>s₂.TypeIs o T/\kh (km prog w) A (qh o i) Q E s₂) E s₁) E s) :
  kh (km prog w) A (lq (.Subscript value slice pos) env) Q E s:=by
 refine Subscript_ (nq h (λo s₁ h₁=>nq h₁ (λi s₂ h₂=>?_) λ_ _ x=>x) λ_ _ x=>x);obtain⟨hT,h₂⟩:=h₂;unfold subscriptTail;refine kc ?_;rw[getitemInPython_of_ne hT.not_modules];refine kc (wpAny_specialOf hT hl ?_);have fin:kh (km prog w) A (qt slice false o i) (λr s₃=>kh (km prog w) A (letTemporaryGo value o r >>= λ_=>pure r) Q E s₃) E s₂:=by
  rw[hs o i];exact wpAny_operating (nq h₂ (λr s₃ h₃=>kc (wpAny_letTemporaryGo (kq h₃))) λ_ _ x=>x)
 first
  |exact kq (kc fin)
  |exact kc (kq (kc fin))
  |exact kc fin
theorem Js(I:aZ X pins σ H s)(g:Ej H a y o):s.TypeIs (.ref a) "dict":=by
 obtain⟨so,k,e,_,_⟩|⟨so,k,b,e,_,_,_⟩:=g
 ·obtain⟨_,_,vs,_,dd⟩:=Rk I.hok e;exact dd.typeIs
 ·obtain⟨_,_,xs,_,dd⟩:=Yf I.hok e;exact dd.typeIs
def CU(td ty:TE):TE:=λσ H Q=>td σ H λx H1=>ty σ H1 λy H2=>∃a v,x = .ref a/\Ej H2 a y (oZ v)/\Q v H2
def OH(ty td:TE):TE:=λσ H Q=>ty σ H λy H1=>td σ H1 λx H2=>∃a o,x = .ref a/\Ej H2 a y o/\Q (.bl o.isSome) H2
theorem X9(hu:X.A.units+1<qp)(ho:PE X o td)(hi:PE X i ty)(hs:Xl i):PE X (.Subscript o i pos) (CU td ty):=by
 intro pins s σ H Q I h;refine Th PySem.F.slot_dict_getitem.lookup hs (eC (ho pins s σ H _ I h) λu s1⟨x,H1,I1,rx,q1⟩=>eC (hi pins s1 σ H1 _ I1 q1) λiv s2 zZ=>?_);obtain⟨y,H2,I2,ry,a,v,ex,g,q2⟩:=zZ;subst ex;obtain rfl:u=YB a:=rx;exact⟨Js I2 g,Ve hu I2 g ry λw' s3 I3 rw'=>⟨v,H2,I3,rw',q2⟩⟩
theorem HL(hu:X.A.units+1<qp)(hi:PE X i ty)(ho:PE X o td):PC X .In i o (OH ty td):=by
 intro pins s σ H Q I h;refine eC (hi pins s σ H _ I h) λiv s1⟨y,H1,I1,ry,q1⟩=>eC (ho pins s1 σ H1 _ I1 q1) λu s2 zZ=>?_;obtain⟨x,H2,I2,rx,a,ov,ex,g,q2⟩:=zZ;subst ex;obtain rfl:u=YB a:=rx;exact RT hu I2 g ry λs3 I3=>⟨.bl ov.isSome,H2,I3,rfl,q2⟩
theorem Xy(h:oE)(hb:pj<h.objs.size):eD P w H (h.push { cls:=.type "dict",data:=.dict #[] }) h.objs.size (.dK []):=
 ⟨WS _,beq_eq_false_iff_ne.mpr (Ne.symm (XM hb)),[],.nil,Heap.DictOf.new h⟩
inductive T where
 |non|bl (b:Bool)|int (i:Int)|str (x:Str)|tup (xs:List T)|lst (xs:List T)
inductive U where
 |p (t:T)|o (k:Bool) (xs:List T)
abbrev En:=List (Option U)
inductive R where
 |p (t:T)|s (i:Nat)
def KT(K:W.Frag)(a:jz)(xs:List V):Prop:=∃(o:Obj)(sf:Array oA)(n:Nat),K.lookup a=oZ o/\o.cls = .type "tuple"/\o.data = .seq sf n/\sf.size<=ky/\bI xs sf.toList
def KL(K:W.Frag)(a:jz)(xs:List V):Prop:=∃(o:Obj)(sf:Array oA)(n:Nat),K.lookup a=oZ o/\o.cls = .type "list"/\o.dict=none/\o.data = .seq sf n/\sf.size<=ky/\bI xs sf.toList
mutual
def Rp(K:W.Frag)(H:Hp)(O:jz->Prop):T->V->Prop
 |.non,v=>v = .non
 |.bl b,v=>v = .bl b
 |.int i,v=>v = .int i
 |.str x,v=>v = .str x
 |.tup xs,v=>∃a vs,v = .ref a/\((¬O a/\H a=oZ (.tup vs))\/KT K a vs)/\dN K H O xs vs
 |.lst xs,v=>∃a vs,v = .ref a/\((¬O a/\Rd H a (.lst vs))\/KL K a vs)/\dN K H O xs vs
def dN(K:W.Frag)(H:Hp)(O:jz->Prop):List T->List V->Prop
 |[],vs=>vs=[]
 |x::xs,vs=>∃v r,vs=v::r/\Rp K H O x v/\dN K H O xs r
end
structure Kp(O O':jz->Prop)(H H':Hp):Prop where
 keep:∀b o,H b=oZ o->¬O b->H' b=oZ o
 new:∀b,O' b->O b\/H b=none
theorem Kp.tup{O O':jz->Prop}(k:Kp O O' H H')(h:¬O a/\H a=oZ u):¬O' a/\H' a=oZ u:=by
 obtain⟨n,h⟩:=h;refine⟨λz=>?_,k.keep _ _ h n⟩;obtain z|z:=k.new a z
 ·exact n z
 ·rw[h]at z;cases z
theorem Rd.step{O O':jz->Prop}(k:Kp O O' H H')(h:¬O a/\Rd H a u):¬O' a/\Rd H' a u:=by
 obtain⟨n,h⟩:=h;obtain h|⟨o,h⟩:=h
 ·refine⟨λz=>?_,.inl (k.keep _ _ h n)⟩;obtain z|z:=k.new a z
  ·exact n z
  ·rw[h]at z;cases z
 ·refine⟨λz=>?_,.inr ⟨o,k.keep _ _ h n⟩⟩;obtain z|z:=k.new a z
  ·exact n z
  ·rw[h]at z;cases z
section
variable{K:W.Frag}{H H':Hp}{O O':jz->Prop}
mutual
theorem Rp.step(k:Kp O O' H H'):∀{t:T}{v:V},Rp K H O t v->Rp K H' O' t v
 |.non,_,h=>h
 |.bl _,_,h=>h
 |.int _,_,h=>h
 |.str _,_,h=>h
 |.tup xs,v,h=>by
  obtain⟨a,vs,e,h1,h2⟩:=h;exact⟨a,vs,e,h1.imp (Kp.tup k) id,dN.step k h2⟩
 |.lst xs,v,h=>by
  obtain⟨a,vs,e,h1,h2⟩:=h;exact⟨a,vs,e,h1.imp (Rd.step k) id,dN.step k h2⟩
theorem dN.step(k:Kp O O' H H'):∀{xs:List T}{vs:List V},dN K H O xs vs->dN K H' O' xs vs
 |[],_,h=>h
 |x::xs,vs,h=>by
  obtain⟨v,r,e,h1,h2⟩:=h;exact⟨v,r,e,Rp.step k h1,dN.step k h2⟩
end
theorem Kp.refl(O:jz->Prop)(H:Hp):Kp O O H H:=⟨λ_ _ h _=>h,λ_ h=>.inl h⟩
theorem Kp.less(h:∀b,O' b->O b):Kp O O' H H:=⟨λ_ _ h _=>h,λ_ z=>.inl (h _ z)⟩
theorem Kp.trans{O'':jz->Prop}(a:Kp O O' H H')(b:Kp O' O'' H' H''):Kp O O'' H H'':=by
 refine⟨λc o h n=>b.keep c o (a.keep c o h n) λz=>?_,λc h=>?_⟩
 ·obtain z|z:=a.new c z
  ·exact n z
  ·rw[h]at z;cases z
 ·obtain z|z:=b.new c h
  ·exact a.new c z
  ·by_cases n:O c
   ·exact .inl n
   ·right
    cases q:H c with
    |none=>rfl
    |some o=>rw[a.keep c o q n]at z;cases z
theorem Kp.upd(h:H a=none):Kp O O H (upd H a o):=⟨λb u e _=>by rw[bH (bB e h)];exact e,λ_ z=>.inl z⟩
theorem dN.length:∀{xs:List T}{vs:List V},dN K H O xs vs->vs.length=xs.length
 |[],_,h=>by cases h;rfl
 |_::_,_,h=>by
  obtain⟨v,r,e,_,h2⟩:=h;rw[e,XG,XG,dN.length h2]
theorem dN.get:∀{xs:List T}{vs:List V}{i:Nat}{x:T},dN K H O xs vs->xs[i]?=oZ x->∃v,vs[i]?=oZ v/\Rp K H O x v
 |[],_,_,_,_,e=>by simp at e
 |_::_,_,0,_,⟨v,r,e,h1,_⟩,q=>by simp at q;subst q;subst e;exact⟨v,rfl,h1⟩
 |_::_,_,i+1,x,⟨v,r,e,_,h2⟩,q=>by
  obtain⟨w,q1,q2⟩:=dN.get (i:=i) (x:=x) h2 (by simpa using q);subst e;exact⟨w,by simpa using q1,q2⟩
theorem dN.append:∀{xs ys:List T}{vs ws:List V},dN K H O xs vs->dN K H O ys ws->dN K H O (xs++ys) (vs++ws)
 |[],_,_,_,h,k=>by cases h;exact k
 |_::_,_,_,_,⟨v,r,e,h1,h2⟩,k=>by subst e;exact⟨v,_,rfl,h1,dN.append h2 k⟩
theorem dN.set(h:Rp K H O x v):∀{xs:List T}{vs:List V}(i:Nat),dN K H O xs vs->dN K H O (xs.set i x) (vs.set i v)
 |[],_,_,k=>by cases k;exact rfl
 |_::_,_,0,⟨u,r,e,h1,h2⟩=>by subst e;exact⟨v,_,rfl,h,h2⟩
 |_::_,_,i+1,⟨u,r,e,h1,h2⟩=>by subst e;exact⟨u,_,rfl,h1,dN.set h i h2⟩
theorem dN.take:∀{xs:List T}{vs:List V}(n:Nat),dN K H O xs vs->dN K H O (xs.take n) (vs.take n)
 |_,_,0,_=>by simp[dN]
 |[],_,_+1,h=>by cases h;exact rfl
 |_::_,_,n+1,⟨v,r,e,h1,h2⟩=>by subst e;exact⟨v,_,rfl,h1,dN.take n h2⟩
theorem dN.drop:∀{xs:List T}{vs:List V}(n:Nat),dN K H O xs vs->dN K H O (xs.drop n) (vs.drop n)
 |_,_,0,h=>h
 |[],_,_+1,h=>by cases h;exact rfl
 |_::_,_,n+1,⟨v,r,e,h1,h2⟩=>by subst e;exact dN.drop n h2
theorem dN.reverse:∀{xs:List T}{vs:List V},dN K H O xs vs->dN K H O xs.reverse vs.reverse
 |[],_,h=>by cases h;exact rfl
 |_::_,_,⟨v,r,e,h1,h2⟩=>by
  subst e;rw[ZR,ZR];exact(dN.reverse h2).append ⟨v,[],rfl,h1,rfl⟩
theorem Rp.sqT(h:Rp K H O (.tup xs) v):∃a vs,v = .ref a/\xD K H a vs/\dN K H O xs vs:=by
 obtain⟨a,vs,e,h1,h2⟩:=h;exact⟨a,vs,e,h1.imp (λh=>.inl h.2) id,h2⟩
theorem Rp.sqL(h:Rp K H O (.lst xs) v):∃a vs,v = .ref a/\m7 K H a vs/\dN K H O xs vs:=by
 obtain⟨a,vs,e,h1,h2⟩:=h;exact⟨a,vs,e,h1.imp And.right id,h2⟩
end
def Ow(B:jz->Prop)(S:St)(E:En)(a:jz):Prop:=B a\/∃(i:Nat)(k:Bool)(xs:List T),E[i]?=oZ (oZ (.o k xs))/\S[i]?=oZ (oZ (.ref a))
structure RE(K:W.Frag)(B:jz->Prop)(H:Hp)(S:St)(E:En):Prop where
 len:S.length=E.length
 pure:∀(i:Nat)(t:T),E[i]?=oZ (oZ (.p t))->∃v,S[i]?=oZ (oZ v)/\Rp K H (Ow B S E) t v
 own:∀(i:Nat)(k:Bool)(xs:List T),E[i]?=oZ (oZ (.o k xs))->∃a vs,S[i]?=oZ (oZ (.ref a))/\H a=oZ (.lst vs)/\dN K H (Ow B S E) xs vs/\(k=true↔B a)
 inj:∀(i j:Nat)(k l:Bool)(xs ys:List T)(a:jz),E[i]?=oZ (oZ (.o k xs))->E[j]?=oZ (oZ (.o l ys))->S[i]?=oZ (oZ (.ref a))->S[j]?=oZ (oZ (.ref a))->i=j
 bd:∀a,B a->∃vs,H a=oZ (.lst vs)
theorem RE.ow{K:W.Frag}{B:jz->Prop}{H:Hp}{S:St}{E:En}(r:RE K B H S E){a:jz}(h:Ow B S E a):∃vs,H a=oZ (.lst vs):=by
 obtain h|⟨i,k,xs,h1,h2⟩:=h
 ·exact r.bd a h
 obtain⟨a',vs,h3,h4,_⟩:=r.own i k xs h1;rw[h2]at h3;cases h3;exact⟨vs,h4⟩
theorem RE.nn{K:W.Frag}{B:jz->Prop}{H:Hp}{S:St}{E:En}(r:RE K B H S E){a:jz}(h:H a=none):¬Ow B S E a:=λz=>by
 obtain⟨ws,e⟩:=r.ow z;rw[h]at e;cases e
theorem RE.step{K:W.Frag}{B:jz->Prop}{H:Hp}{H':Hp}{S:St}{E:En}{E':En}(r:RE K B H S E)(k:∀b o,H b=oZ o->¬Ow B S E b->H' b=oZ o)(hl:E'.length=E.length)(hp:∀(i:Nat)(t:T),E'[i]?=oZ (oZ (.p t))->E[i]?=oZ (oZ (.p t)))(ho:∀(i:Nat)(k:Bool)(xs':List T),E'[i]?=oZ (oZ (.o k xs'))->∃xs,E[i]?=oZ (oZ (.o k xs))/\∀a,S[i]?=oZ (oZ (.ref a))->∃vs,H' a=oZ (.lst vs)/\dN K H' (Ow B S E) xs' vs)(hb:∀a,B a->∃vs,H' a=oZ (.lst vs)):RE K B H' S E':=by
 have ow:∀b,Ow B S E' b->Ow B S E b:=λb z=>by
  obtain z|⟨i,k,xs,h1,h2⟩:=z
  ·exact .inl z
  obtain⟨ys,h3,_⟩:=ho i k xs h1;exact .inr ⟨i,k,ys,h3,h2⟩
 have kp:Kp (Ow B S E) (Ow B S E') H H':=⟨k,λb z=>.inl (ow b z)⟩;refine⟨by rw[hl];exact r.len,λi t h=>?_,λi k xs h=>?_,λi j k l xs ys a h1 h2 h3 h4=>?_,hb⟩
 ·obtain⟨v,h1,h2⟩:=r.pure i t (hp i t h);exact⟨v,h1,h2.step kp⟩
 ·obtain⟨ys,h1,h2⟩:=ho i k xs h;obtain⟨a,vs,h3,_,_,h6⟩:=r.own i k ys h1;obtain⟨ws,h7,h8⟩:=h2 a h3;exact⟨a,ws,h3,h7,h8.step (Kp.less ow),h6⟩
 ·obtain⟨_,q1,_⟩:=ho i k xs h1;obtain⟨_,q2,_⟩:=ho j l ys h2;exact r.inj i j k l _ _ a q1 q2 h3 h4
theorem RE.kept{K:W.Frag}{B:jz->Prop}{H:Hp}{H':Hp}{S:St}{E:En}(r:RE K B H S E)(k:∀b o,H b=oZ o->H' b=oZ o):RE K B H' S E:=
 r.step (λb o h _=>k b o h) rfl (λ_ _ h=>h) (λi l xs h=>⟨xs,h,λa ha=>by
  obtain⟨a',vs,h1,h2,h3,_⟩:=r.own i l xs h;rw[ha]at h1;cases h1;exact⟨vs,k _ _ h2,h3.step ⟨λb o e _=>k b o e,λb z=>.inl z⟩⟩⟩) (λa h=>let⟨vs,q⟩:=r.bd a h;⟨vs,k _ _ q⟩)
theorem RE.take{K:W.Frag}{B:jz->Prop}{H:Hp}{S:St}{E:En}(r:RE K B H S E)(n:Nat):RE K B H (S.take n) (E.take n):=by
 have gE:∀{i:Nat}{x:Option U},(E.take n)[i]?=oZ x->E[i]?=oZ x/\i<n:=λ{i x}h=>by
  by_cases c:i<n
  ·rw[YC c]at h;exact⟨h,c⟩
  ·rw[ZP ⋯]at h;cases h
 have gS:∀{i:Nat}{x:Option V},i<n->S[i]?=oZ x->(S.take n)[i]?=oZ x:=λ{i x}c h=>by rw[YC c];exact h
 have gS':∀{i:Nat}{x:Option V},(S.take n)[i]?=oZ x->S[i]?=oZ x:=λ{i x}h=>by
  by_cases c:i<n
  ·rw[YC c]at h;exact h
  ·rw[ZP ⋯]at h;cases h
 have ow:∀b,Ow B (S.take n) (E.take n) b->Ow B S E b:=λb z=>z.imp id λzZ=>by obtain⟨i,k,xs,h1,h2⟩:=zZ;exact⟨i,k,xs,(gE h1).1,gS' h2⟩
 refine⟨by rw[XT,XT,r.len],λi t h=>?_,λi k xs h=>?_,λi j k l xs ys a h1 h2 h3 h4=>?_,r.bd⟩
 ·obtain⟨v,h1,h2⟩:=r.pure i t (gE h).1;exact⟨v,gS (gE h).2 h1,h2.step (Kp.less ow)⟩
 ·obtain⟨a,vs,h1,h2,h3,h4⟩:=r.own i k xs (gE h).1;exact⟨a,vs,gS (gE h).2 h1,h2,h3.step (Kp.less ow),h4⟩
 ·exact r.inj i j k l xs ys a (gE h1).1 (gE h2).1 (gS' h3) (gS' h4)
def RR(K:W.Frag)(B:jz->Prop)(H:Hp)(S:St)(E:En):R->V->Prop
 |.p t,v=>Rp K H (Ow B S E) t v
 |.s i,v=>S[i]?=oZ (oZ v)
def Ul(K:W.Frag)(B:jz->Prop)(H:Hp)(S:St)(E:En):List R->List V->Prop
 |[],vs=>vs=[]
 |r::rs,vs=>∃v ws,vs=v::ws/\RR K B H S E r v/\Ul K B H S E rs ws
structure Gr(B:jz->Prop)(H:Hp)(S:St)(E:En)(H':Hp)(S':St)(E':En):Prop where
 kp:Kp (Ow B S E) (Ow B S' E') H H'
 pre:∃τ,S'=S++τ
theorem Gr.refl{B:jz->Prop}:Gr B H S E H S E:=⟨Kp.refl _ _,[],by simp⟩
theorem Gr.trans{B:jz->Prop}(a:Gr B H S E H1 S1 E1)(b:Gr B H1 S1 E1 H2 S2 E2):Gr B H S E H2 S2 E2:=by
 obtain⟨t,e⟩:=a.pre;obtain⟨u,f⟩:=b.pre;exact⟨a.kp.trans b.kp,t++u,by rw[f,e,XB]⟩
theorem iX{S S':St}(h:∃τ,S'=S++τ){i:Nat}{x:Option V}(e:S[i]?=oZ x):S'[i]?=oZ x:=by
 obtain⟨t,rfl⟩:=h;rw[XJ (WE.mp e).1];exact e
section
variable{K:W.Frag}{B:jz->Prop}{H H':Hp}{S S':St}{E E':En}{σ:St}
theorem RR.step(g:Gr B H S E H' S' E')(h:RR K B H S E r v):RR K B H' S' E' r v:=by
 cases r with
 |p t=>exact Rp.step g.kp h
 |s i=>exact iX g.pre h
theorem Ul.step(g:Gr B H S E H' S' E'):∀{rs:List R}{vs:List V},Ul K B H S E rs vs->Ul K B H' S' E' rs vs
 |[],_,h=>h
 |_::_,_,⟨v,ws,e,h1,h2⟩=>⟨v,ws,e,h1.step g,Ul.step g h2⟩
def Lk(K:W.Frag)(B:jz->Prop)(H:Hp)(S:St)(E:En)(Q':R->En->Prop)(Q:VK):Prop:=∀r E' v H' S',Q' r E'->Gr B H S E H' S' E'->RE K B H' S' E'->RR K B H' S' E' r v->Q v H'
def VH(K:W.Frag)(n:Nat)(B:jz->Prop)(H:Hp)(S:St)(E:En)(Q':List R->En->Prop)(Q:List V->Hp->Prop):Prop:=∀rs E' vs H' S',Q' rs E'->Gr B H S E H' S' E'->RE K B H' S' E'->Ul K B H' S' E' rs vs->vs.length=n->Q vs H'
theorem Lk.step{Q':R->En->Prop}(l:Lk K B H S E Q' Q)(g:Gr B H S E H' S' E'):Lk K B H' S' E' Q' Q:=λr E2 v H2 S2 q g2=>l r E2 v H2 S2 q (g.trans g2)
end
abbrev FE:=En->(R->En->Prop)->Prop
abbrev FA:=En->(List R->En->Prop)->Prop
abbrev FB:=En->(Bool->En->Prop)->Prop
def aO(K:W.Frag)(F:FE):TE:=λσ H Q=>∃B S E Q',(∃τ,S=σ++τ)/\RE K B H S E/\F E Q'/\Lk K B H S E Q' Q
def dB(K:W.Frag)(n:Nat)(F:FA):TA:=λσ H Q=>∃B S E Q',(∃τ,S=σ++τ)/\RE K B H S E/\F E Q'/\VH K n B H S E Q' Q
def gY(K:W.Frag)(F:FB):TT:=λσ H Q=>∃B S E Q',(∃τ,S=σ++τ)/\RE K B H S E/\F E Q'/\∀b E' H' S',Q' b E'->Gr B H S E H' S' E'->RE K B H' S' E'->Q b H'
theorem QE.le(h:QE X e t)(m:∀σ H Q,σ.length=X.N.length->t' σ H Q->t σ H Q):QE X e t':=⟨λpins s σ H Q I z=>h.h pins s σ H Q I (m σ H Q I.len z)⟩
theorem QA.le(h:QA X es t)(m:∀σ H Q,t' σ H Q->t σ H Q):QA X es t':=⟨λpos pins s σ H Q I z=>h.h pos pins s σ H Q I (m σ H Q z)⟩
theorem QT.le(h:QT X e t)(m:∀σ H Q,t' σ H Q->t σ H Q):QT X e t':=⟨λpins s σ H Q I z=>h.h pins s σ H Q I (m σ H Q z)⟩
theorem QW.le(h:QW X e t)(m:∀σ H Q,t' σ H Q->t σ H Q):QW X e t':=⟨λwh pins s σ H Q I z=>h.h wh pins s σ H Q I (m σ H Q z)⟩
def vl(E:En):R->Option T
 |.p t=>oZ t
 |.s i=>match E[i]? with
  |some (oZ (.o _ xs))=>oZ (.lst xs)
  |some (oZ (.p t))=>oZ t
  |_=>none
def Rt(K:W.Frag)(H:Hp)(O:jz->Prop):T->V->Prop
 |.tup xs,v=>∃a vs,v = .ref a/\xD K H a vs/\dN K H O xs vs
 |.lst xs,v=>∃a vs,v = .ref a/\m7 K H a vs/\dN K H O xs vs
 |t,v=>Rp K H O t v
theorem Rp.rt{K:W.Frag}{H:Hp}{O:jz->Prop}{t:T}{v:V}(h:Rp K H O t v):Rt K H O t v:=by
 cases t with
 |tup xs=>exact h.sqT
 |lst xs=>exact h.sqL
 |non=>exact h
 |bl _=>exact h
 |int _=>exact h
 |str _=>exact h
theorem RE.vl{K:W.Frag}{B:jz->Prop}{H:Hp}{S:St}{E:En}(re:RE K B H S E){r:R}{v:V}{t:T}(h:RR K B H S E r v)(e:vl E r=oZ t):Rt K H (Ow B S E) t v:=by
 cases r with
 |p u=>cases e;exact Rp.rt h
 |s i=>
  cases q:E[i]? with
  |none=>simp only[L2.vl,q]at e;cases e
  |some u=>
   cases u with
   |none=>simp only[L2.vl,q]at e;cases e
   |some u=>
    cases u with
    |p u=>
     simp only[L2.vl,q]at e;cases e;obtain⟨w,h1,h2⟩:=re.pure i _ q;have h':S[i]?=oZ (oZ v):=h;rw[h']at h1;cases h1;exact h2.rt
    |o k xs=>
     simp only[L2.vl,q]at e;cases e;obtain⟨a,vs,h1,h2,h3,_⟩:=re.own i k xs q;have h':S[i]?=oZ (oZ v):=h;rw[h']at h1;cases h1;exact⟨a,vs,rfl,m7.of h2,h3⟩
theorem RE.int{K:W.Frag}{B:jz->Prop}{H:Hp}{S:St}{E:En}(re:RE K B H S E){r:R}{v:V}{i:Int}(h:RR K B H S E r v)(e:L2.vl E r=oZ (.int i)):v = .int i:=re.vl h e
theorem RE.bl{K:W.Frag}{B:jz->Prop}{H:Hp}{S:St}{E:En}(re:RE K B H S E){r:R}{v:V}{b:Bool}(h:RR K B H S E r v)(e:L2.vl E r=oZ (.bl b)):v = .bl b:=re.vl h e
theorem RE.tup{K:W.Frag}{B:jz->Prop}{H:Hp}{S:St}{E:En}(re:RE K B H S E){p:jz}{ts:List T}{vs:List V}(hp:H p=none)(h:dN K H (Ow B S E) ts vs):
  Gr B H S E (upd H p (.tup vs)) S E/\RE K B (upd H p (.tup vs)) S E/\Rp K (upd H p (.tup vs)) (Ow B S E) (.tup ts) (.ref p):=by
 have k:Kp (Ow B S E) (Ow B S E) H (upd H p (.tup vs)):=Kp.upd hp;exact⟨⟨k,[],by simp⟩,re.kept λb o e=>by rw[bH (bB e hp)];exact e,p,vs,rfl,.inl ⟨re.nn hp,cZ⟩,h.step k⟩
theorem Kb{α:Type}{xs:List α}{x:α}{y:α}(h:(xs++[x])[i]?=oZ y):(i<xs.length/\xs[i]?=oZ y)\/(i=xs.length/\y=x):=by
 obtain c|c:=XQ i xs.length
 ·rw[XJ c]at h;exact .inl ⟨c,h⟩
 ·rw[XO c]at h;have:i-xs.length=0:=by
   obtain z|z:=ft (i-xs.length)
   ·exact z
   ·rw[YJ (by simp;lia)]at h;cases h
  rw[this]at h;simp at h;exact .inr ⟨⋯,h.symm⟩
theorem mI{α:Type}{xs:List α}{x:α}:(xs++[x])[xs.length]?=oZ x:=by simp
theorem RE.lst{K:W.Frag}{B:jz->Prop}{H:Hp}{S:St}{E:En}(re:RE K B H S E){p:jz}{ts:List T}{vs:List V}(hp:H p=none)(h:dN K H (Ow B S E) ts vs):
  Gr B H S E (upd H p (.lst vs)) (S++[oZ (.ref p)]) (E++[oZ (.o false ts)])/\RE K B (upd H p (.lst vs)) (S++[oZ (.ref p)]) (E++[oZ (.o false ts)]):=by
 have gE:∀{i:Nat}{u:U},(E++[oZ (.o false ts)])[i]?=oZ (oZ u)->(E[i]?=oZ (oZ u)/\i<E.length)\/(i=E.length/\u = .o false ts):=λ{i u}h=>by
  obtain⟨c,h⟩|⟨c,h⟩:=Kb h
  ·exact .inl ⟨h,c⟩
  ·exact .inr ⟨c,Option.some.inj h⟩
 have gS:∀{i:Nat}{x:Option V},S[i]?=oZ x->(S++[oZ (.ref p)])[i]?=oZ x:=λ{i x}h=>iX ⟨_,rfl⟩ h;have gS':∀{i:Nat}{x:Option V},i<E.length->(S++[oZ (.ref p)])[i]?=oZ x->S[i]?=oZ x:=λ{i x}c h=>by
  rw[XJ (by rw[re.len];exact c)]at h;exact h
 have lS:(S++[oZ (.ref p)])[E.length]?=oZ (oZ (.ref p)):=by rw[<-re.len];simp
 have ow:∀b,Ow B (S++[oZ (.ref p)]) (E++[oZ (.o false ts)]) b->Ow B S E b\/H b=none:=λb z=>by
  obtain z|⟨i,k,xs,h1,h2⟩:=z
  ·exact .inl (.inl z)
  obtain⟨h1,c⟩|⟨c,h1⟩:=gE h1
  ·exact .inl (.inr ⟨i,k,xs,h1,gS' c h2⟩)
  ·subst c;rw[lS]at h2;cases h2;exact .inr hp
 have k:Kp (Ow B S E) (Ow B (S++[oZ (.ref p)]) (E++[oZ (.o false ts)])) H (upd H p (.lst vs)):=⟨λb o e _=>by rw[bH (bB e hp)];exact e,ow⟩;refine⟨⟨k,_,rfl⟩,⟨by simp[re.len],λi t h=>?_,λi l xs h=>?_,λi j l m xs ys a h1 h2 h3 h4=>?_,λa h=>?_⟩⟩
 ·obtain⟨h,c⟩|⟨c,h⟩:=gE h
  ·obtain⟨v,h1,h2⟩:=re.pure i t h;exact⟨v,gS h1,h2.step k⟩
  ·cases h
 ·obtain⟨h,c⟩|⟨c,h⟩:=gE h
  ·obtain⟨a,ws,h1,h2,h3,h4⟩:=re.own i l xs h;exact⟨a,ws,gS h1,by rw[bH (bB h2 hp)];exact h2,h3.step k,h4⟩
  ·cases h;subst c;refine⟨p,vs,lS,cZ,?_,⟨λz=>absurd z ∅,λz=>absurd (.inl z) (re.nn hp)⟩⟩;exact dN.step k (by assumption)
 ·obtain⟨h1,c1⟩|⟨c1,h1⟩:=gE h1
  ·obtain⟨h2,c2⟩|⟨c2,h2⟩:=gE h2
   ·exact re.inj i j l m xs ys a h1 h2 (gS' c1 h3) (gS' c2 h4)
   ·subst c2;rw[lS]at h4;cases h4;exact absurd (.inr ⟨i,l,xs,h1,gS' c1 h3⟩) (re.nn hp)
  ·obtain⟨h2,c2⟩|⟨c2,h2⟩:=gE h2
   ·subst c1;rw[lS]at h3;cases h3;exact absurd (.inr ⟨j,m,ys,h2,gS' c2 h4⟩) (re.nn hp)
   ·rw[c1,c2]
 ·obtain⟨us,q⟩:=re.bd a h;exact⟨us,by rw[bH (bB q hp)];exact q⟩
section
variable{X:Cx}{K:W.Frag}{pos:Pos}{a b c e:oC}{es rest:List oC}{Fa Fb Fc:FE}{Fr:FA}{Fp Fq:FB}
def Vi(i:Nat):FE:=λE Q=>match E[i]? with
 |some (oZ (.p t))=>Q (.p t) E
 |some (oZ (.o _ _))=>Q (.s i) E
 |_=>False
def fC(t:T):FE:=λE Q=>Q (.p t) E
theorem fv(i:Nat)(hN:X.N[i]?=oZ x:=by rfl)(hv:BK X.env.scope x:=by first|exact YD rfl|exact YQ (YD rfl)|exact YQ (YQ rfl))(hd:(x==("__debug__":Str))=false:=by decide)(hcd:(x==("__classdict__":Str))=false:=by decide):QE X (.Name x pos) (aO K (Vi i)):=by
 refine(qv i hN hv hd hcd).le λσ H Q hl zZ=>?_;obtain⟨B,S,E,Q',hS,re,hF,lk⟩:=zZ;have hi:i<σ.length:=by rw[hl];exact(WE.mp hN).1
 obtain⟨τ,rfl⟩:=hS;have back:∀{v},(σ++τ)[i]?=oZ (oZ v)->σ[i]?=oZ (oZ v):=λh=>by rw[XJ hi]at h;exact h
 unfold Vi at hF;split at hF
 ·rename_i t q;obtain⟨v,h1,h2⟩:=re.pure i t q;exact⟨v,back h1,lk _ _ _ _ _ hF .refl re h2⟩
 ·rename_i k xs q;obtain⟨p,vs,h1,_⟩:=re.own i k xs q;exact⟨_,back h1,lk _ _ _ _ _ hF .refl re h1⟩
 ·exact hF.elim
theorem S8(h:QE X e (tC v))(hv:∀K H O,Rp K H O t v):QE X e (aO K (fC t)):=h.le λσ H Q hl zZ=>by obtain⟨B,S,E,Q',hS,re,hF,lk⟩:=zZ;exact lk _ _ _ _ _ hF .refl re (hv _ _ _)
theorem aA{i j pos}:QE X (.Constant (.int i) j pos) (aO K (fC (.int i))):=S8 IS λ_ _ _=>rfl
theorem uQ{b j pos}:QE X (.Constant (.bool b) j pos) (aO K (fC (.bl b))):=S8 NC λ_ _ _=>rfl
theorem Fs{j pos}:QE X (.Constant .none j pos) (aO K (fC .non)):=S8 F4 λ_ _ _=>rfl
theorem bK{x j pos}:QE X (.Constant (.str x) j pos) (aO K (fC (.str x))):=S8 IW λ_ _ _=>rfl
theorem two{G:R->R->En->(R->En->Prop)->Prop}(h:aO K (λE Q=>Fa E λx E1=>Fb E1 λy E2=>G x y E2 Q) σ H Q){P:V->V->Hp->Prop}(k:∀B S E x y v w H2 Q',(∃τ,S=σ++τ)->RE K B H2 S E->RR K B H2 S E x v->RR K B H2 S E y w->G x y E Q'->Lk K B H2 S E Q' Q->P v w H2):aO K Fa σ H λv H1=>aO K Fb σ H1 λw H2=>P v w H2:=by
 obtain⟨B,S,E,Q',⟨τ,hS⟩,re,hF,lk⟩:=h;refine⟨B,S,E,_,⟨τ,hS⟩,re,hF,λr E1 v H1 S1 q g uk rr=>?_⟩;obtain⟨τ1,zm⟩:=g.pre;refine⟨B,S1,E1,_,⟨τ++τ1,by rw[zm,hS,XB]⟩,uk,q,λr2 E2 w H2 S2 q2 g2 xu rr2=>?_⟩;obtain⟨τ2,hS2⟩:=g2.pre;exact k B S2 E2 r r2 v w H2 Q' ⟨τ++τ1++τ2,by rw[hS2,zm,hS,XB,XB,XB]⟩ xu (rr.step g2) rr2 q2 (lk.step (g.trans g2))
theorem one{G:R->En->(R->En->Prop)->Prop}(h:aO K (λE Q=>Fa E λx E1=>G x E1 Q) σ H Q){P:V->Hp->Prop}(k:∀B S E x v H2 Q',(∃τ,S=σ++τ)->RE K B H2 S E->RR K B H2 S E x v->G x E Q'->Lk K B H2 S E Q' Q->P v H2):aO K Fa σ H λv H1=>P v H1:=by
 obtain⟨B,S,E,Q',⟨τ,hS⟩,re,hF,lk⟩:=h;refine⟨B,S,E,_,⟨τ,hS⟩,re,hF,λr E1 v H1 S1 q g uk rr=>?_⟩;obtain⟨τ1,zm⟩:=g.pre;exact k B S1 E1 r v H1 Q' ⟨τ++τ1,by rw[zm,hS,XB]⟩ uk rr q (lk.step g)
def i2(x y:Option T)(k:Int->Int->Prop):Prop:=match x,y with
 |some (.int i),oZ (.int j)=>k i j
 |_,_=>False
theorem i2.ex{k:Int->Int->Prop}(h:i2 x y k):∃i j,x=oZ (.int i)/\y=oZ (.int j)/\k i j:=by
 unfold i2 at h;split at h
 ·exact⟨_,_,rfl,rfl,h⟩
 ·exact h.elim
def fI(C:Int->Int->Prop)(g:Int->Int->Int)(Fa Fb:FE):FE:=λE Q=>Fa E λx E1=>Fb E1 λy E2=>i2 (vl E2 x) (vl E2 y) λi j=>C i j/\Q (.p (.int (g i j))) E2
def VJ(g:Int->Int->Int)(Fa Fb:FE):FE:=λE Q=>Fa E λx E1=>Fb E1 λy E2=>i2 (vl E2 x) (vl E2 y) λi j=>Q (.p (.int (g i j))) E2
def SE(g:Int->Int->Bool)(Fa Fb:FE):FE:=λE Q=>Fa E λx E1=>Fb E1 λy E2=>i2 (vl E2 x) (vl E2 y) λi j=>Q (.p (.bl (g i j))) E2
theorem aS{C:Int->Int->Prop}{g:Int->Int->Int}(ho:o8 X (mr op) (rI C λi j=>.int (g i j)))(ha:QE X a (aO K Fa))(hb:QE X b (aO K Fb)):QE X (.BinOp a op b pos) (aO K (fI C g Fa Fb)):=by
 refine(Ab ho ha hb).le λσ H Q hl h=>two h λB S E x y v w H2 Q' hS re rx ry q lk=>?_;obtain⟨i,j,e1,e2,c,q⟩:=q.ex;exact⟨i,j,re.int rx e1,re.int ry e2,c,lk _ _ _ _ _ q .refl re rfl⟩
theorem a7{g:Int->Int->Int}(ho:o8 X (mr op) (Xg λi j=>.int (g i j)))(ha:QE X a (aO K Fa))(hb:QE X b (aO K Fb)):QE X (.BinOp a op b pos) (aO K (VJ g Fa Fb)):=by
 refine(Ab ho ha hb).le λσ H Q hl h=>two h λB S E x y v w H2 Q' hS re rx ry q lk=>?_;obtain⟨i,j,e1,e2,q⟩:=q.ex;exact⟨i,j,re.int rx e1,re.int ry e2,lk _ _ _ _ _ q .refl re rfl⟩
theorem sA{g:Int->Int->Bool}(ho:o8 X (ml op) (Xg λi j=>.bl (g i j)))(ha:QE X a (aO K Fa))(hb:QE X b (aO K Fb))(hm:ma op b=false):QE X (.Compare a [op] [b] pos) (aO K (SE g Fa Fb)):=by
 refine(Su ho ha hb hm).le λσ H Q hl h=>two h λB S E x y v w H2 Q' hS re rx ry q lk=>?_;obtain⟨i,j,e1,e2,q⟩:=q.ex;exact⟨i,j,re.int rx e1,re.int ry e2,lk _ _ _ _ _ q .refl re rfl⟩
def i1(x:Option T)(k:Int->Prop):Prop:=match x with
 |some (.int i)=>k i
 |_=>False
theorem i1.ex{k:Int->Prop}(h:i1 x k):∃i,x=oZ (.int i)/\k i:=by
 unfold i1 at h;split at h
 ·exact⟨_,rfl,h⟩
 ·exact h.elim
def b1(x:Option T)(k:Bool->Prop):Prop:=match x with
 |some (.bl i)=>k i
 |_=>False
theorem b1.ex{k:Bool->Prop}(h:b1 x k):∃i,x=oZ (.bl i)/\k i:=by
 unfold b1 at h;split at h
 ·exact⟨_,rfl,h⟩
 ·exact h.elim
def SM(Fa:FE):FE:=λE Q=>Fa E λx E1=>i1 (vl E1 x) λi=>Q (.p (.int (-i))) E1
theorem c8(ha:QE X a (aO K Fa)):QE X (.UnaryOp .USub a pos) (aO K (SM Fa)):=by
 refine(NG JQ ha).le λσ H Q hl h=>one (Fa:=Fa) h λB S E x v H2 Q' hS re rx q lk=>?_;obtain⟨i,e1,q⟩:=q.ex;exact⟨i,re.int rx e1,lk _ _ _ _ _ q .refl re rfl⟩
def SN(Fa:FE):FE:=λE Q=>Fa E λx E1=>b1 (vl E1 x) λi=>Q (.p (.bl (!i))) E1
theorem FL(ha:QE X a (aO K Fa)):QE X (.UnaryOp .Not a pos) (aO K (SN Fa)):=by
 refine(IU ha).le λσ H Q hl h=>one (Fa:=Fa) h λB S E x v H2 Q' hS re rx q lk=>?_;obtain⟨i,e1,q⟩:=q.ex;exact⟨i,re.bl rx e1,lk _ _ _ _ _ q .refl re rfl⟩
theorem N7{G:Bool->En->(Bool->En->Prop)->Prop}{Q:Bool->Hp->Prop}(h:gY K (λE Q=>Fp E λx E1=>G x E1 Q) σ H Q){P:Bool->Hp->Prop}(k:∀B S E x H2 Q',(∃τ,S=σ++τ)->RE K B H2 S E->G x E Q'->(∀b E' H' S',Q' b E'->Gr B H2 S E H' S' E'->RE K B H' S' E'->Q b H')->P x H2):gY K Fp σ H P:=by
 obtain⟨B,S,E,Q',⟨τ,hS⟩,re,hF,lk⟩:=h;refine⟨B,S,E,_,⟨τ,hS⟩,re,hF,λr E1 H1 S1 q g uk=>?_⟩;obtain⟨τ1,zm⟩:=g.pre;exact k B S1 E1 r H1 Q' ⟨τ++τ1,by rw[zm,hS,XB]⟩ uk q λb E2 H2 S2 q2 g2 xu=>lk b E2 H2 S2 q2 (g.trans g2) xu
def Es(Fa:FE):FB:=λE Q=>Fa E λx E1=>b1 (vl E1 x) λi=>Q i E1
def RS(Fp:FB):FB:=λE Q=>Fp E λx E1=>Q (!x) E1
def RP(Fp Fq:FB):FB:=λE Q=>Fp E λx E1=>if x=true then Fq E1 Q else Q false E1
def VI(Fp Fq:FB):FB:=λE Q=>Fp E λx E1=>if x=true then Q true E1 else Fq E1 Q
theorem EG{Q:Bool->Hp->Prop}(h:gY K (Es Fa) σ H Q):aO K Fa σ H λv H1=>∃c,v = .bl c/\Q c H1:=by
 obtain⟨B,S,E,Q',⟨τ,hS⟩,re,hF,lk⟩:=h;refine⟨B,S,E,_,⟨τ,hS⟩,re,hF,λr E1 v H1 S1 q g uk rr=>?_⟩;obtain⟨i,e1,q⟩:=q.ex;exact⟨i,uk.bl rr e1,lk _ _ _ _ q g uk⟩
theorem iB(h:QE X e (aO K Fa))(he:∀whole,isTrue e X.env whole=(do let v <-whole;standAt e.pos;oq [v] (truthy v)):=by intro _;rfl):QT X e (gY K (Es Fa)):=(JB h he).le λσ H Q z=>EG z
theorem Nm(ha:QT X a (gY K Fp)):QT X (.UnaryOp .Not a pos) (gY K (RS Fp)):=(JA ha).le λσ H Q h=>N7 (Fp:=Fp) h λB S E x H2 Q' hS re q lk=>lk _ _ _ _ q .refl re
theorem U1(ha:QT X a (gY K Fp)):QW X (.BoolOp .And [a] pos) (gY K Fp):=AA ha
theorem Fz(ha:QT X a (gY K Fp)):QW X (.BoolOp .Or [a] pos) (gY K Fp):=JD ha
theorem FY(ha:QT X a (gY K Fp))(hb:QW X (.BoolOp .And (b::rest) pos) (gY K Fq)):QW X (.BoolOp .And (a::b::rest) pos) (gY K (RP Fp Fq)):=by
 refine(JC ha hb).le λσ H Q h=>N7 (Fp:=Fp) h λB S E x H2 Q' hS re q lk=>?_;cases x
 ·exact lk _ _ _ _ q .refl re
 ·exact⟨B,S,E,Q',hS,re,q,lk⟩
theorem Rx(ha:QT X a (gY K Fp))(hb:QW X (.BoolOp .Or (b::rest) pos) (gY K Fq)):QW X (.BoolOp .Or (a::b::rest) pos) (gY K (VI Fp Fq)):=by
 refine(NJ ha hb).le λσ H Q h=>N7 (Fp:=Fp) h λB S E x H2 Q' hS re q lk=>?_;cases x
 ·exact⟨B,S,E,Q',hS,re,q,lk⟩
 ·exact lk _ _ _ _ q .refl re
theorem Yv(h:QW X e (gY K Fp)):QT X e (gY K Fp):=TQ h
def SA(Fa Fb:FE):FE:=λE Q=>Fa E λx E1=>b1 (vl E1 x) λi=>if i=true then Fb E1 Q else Q (.p (.bl false)) E1
def VN(Fa Fb:FE):FE:=λE Q=>Fa E λx E1=>b1 (vl E1 x) λi=>if i=true then Q (.p (.bl true)) E1 else Fb E1 Q
theorem Yk(ha:QE X a (aO K Fa))(hb:QE X (.BoolOp .And (b::rest) pos) (aO K Fb)):QE X (.BoolOp .And (a::b::rest) pos) (aO K (SA Fa Fb)):=by
 refine(IQ ha hb).le λσ H Q hl h=>one (Fa:=Fa) h λB S E x v H2 Q' hS re rx q lk=>?_;obtain⟨i,e1,q⟩:=q.ex;refine⟨i,re.bl rx e1,?_⟩;cases i
 ·exact lk _ _ _ _ _ q .refl re rfl
 ·exact⟨B,S,E,Q',hS,re,q,lk⟩
theorem Yo(ha:QE X a (aO K Fa))(hb:QE X (.BoolOp .Or (b::rest) pos) (aO K Fb)):QE X (.BoolOp .Or (a::b::rest) pos) (aO K (VN Fa Fb)):=by
 refine(NF ha hb).le λσ H Q hl h=>one (Fa:=Fa) h λB S E x v H2 Q' hS re rx q lk=>?_;obtain⟨i,e1,q⟩:=q.ex;refine⟨i,re.bl rx e1,?_⟩;cases i
 ·exact⟨B,S,E,Q',hS,re,q,lk⟩
 ·exact lk _ _ _ _ _ q .refl re rfl
theorem zM{op}(h:QE X a (aO K Fa)):QE X (.BoolOp op [a] pos) (aO K Fa):=IV h
def VL(Fp:FB)(Fa Fb:FE):FE:=λE Q=>Fp E λx E1=>if x=true then Fa E1 Q else Fb E1 Q
theorem mH(hc:QT X c (gY K Fp))(ha:QE X a (aO K Fa))(hb:QE X b (aO K Fb)):QE X (.IfExp c a b pos) (aO K (VL Fp Fa Fb)):=by
 refine(F3 hc ha hb).le λσ H Q hl zZ=>?_;obtain⟨B,S,E,Q',⟨τ,hS⟩,re,hF,lk⟩:=zZ;refine⟨B,S,E,_,⟨τ,hS⟩,re,hF,λr E1 H1 S1 q g uk=>?_⟩;obtain⟨τ1,zm⟩:=g.pre;have hp:∃t,S1=σ++t:=⟨τ++τ1,by rw[zm,hS,XB]⟩;cases r
 ·exact⟨B,S1,E1,Q',hp,uk,q,lk.step g⟩
 ·exact⟨B,S1,E1,Q',hp,uk,q,lk.step g⟩
def Mp:FA:=λE Q=>Q [] E
def kA(Fa:FE)(Fr:FA):FA:=λE Q=>Fa E λr E1=>Fr E1 λrs E2=>Q (r::rs) E2
theorem cB:QA X [] (dB K 0 Mp):=IP.le λσ H Q zZ=>by obtain⟨B,S,E,Q',hS,re,hF,lk⟩:=zZ;exact lk _ _ _ _ _ hF .refl re rfl rfl
theorem fc{n:Nat}(ha:QE X e (aO K Fa))(hr:QA X es (dB K n Fr))(hs:bG e=false:=by rfl):QA X (e::es) (dB K (n+1) (kA Fa Fr)):=by
 refine(qc ha hr hs).le λσ H Q zZ=>?_;obtain⟨B,S,E,Q',⟨τ,hS⟩,re,hF,lk⟩:=zZ;refine⟨B,S,E,_,⟨τ,hS⟩,re,hF,λr E1 v H1 S1 q g uk rr=>?_⟩;obtain⟨τ1,zm⟩:=g.pre;exact⟨B,S1,E1,_,⟨τ++τ1,by rw[zm,hS,XB]⟩,uk,q,λrs E2 vs H2 S2 q2 g2 xu rr2 hn=>lk _ _ _ _ _ q2 (g.trans g2) xu ⟨v,vs,rfl,rr.step g2,rr2⟩ (by rw[XG,hn])⟩
theorem args{G:List R->En->(R->En->Prop)->Prop}(h:aO K (λE Q=>Fr E λrs E1=>G rs E1 Q) σ H Q){P:List V->Hp->Prop}(k:∀B S E rs vs H2 Q',(∃τ,S=σ++τ)->RE K B H2 S E->Ul K B H2 S E rs vs->vs.length=n->G rs E Q'->Lk K B H2 S E Q' Q->P vs H2):dB K n Fr σ H P:=by
 obtain⟨B,S,E,Q',⟨τ,hS⟩,re,hF,lk⟩:=h;refine⟨B,S,E,_,⟨τ,hS⟩,re,hF,λr E1 v H1 S1 q g uk rr hn=>?_⟩;obtain⟨τ1,zm⟩:=g.pre;exact k B S1 E1 r v H1 Q' ⟨τ++τ1,by rw[zm,hS,XB]⟩ uk rr hn q (lk.step g)
def z7:List R->Option (List T)
 |[]=>oZ []
 |.p t::rs=>(z7 rs).map (t::·)
 |_=>none
theorem Aa{B:jz->Prop}:∀{rs:List R}{vs:List V}{ts:List T},Ul K B H S E rs vs->z7 rs=oZ ts->dN K H (Ow B S E) ts vs
 |[],_,_,h,e=>by cases e;exact h
 |.p t::rs,_,ts,⟨v,ws,e1,h1,h2⟩,e=>by
  cases q:z7 rs with
  |none=>rw[z7,q]at e;cases e
  |some us=>
   rw[z7,q]at e;cases e;exact⟨v,ws,e1,h1,Aa h2 q⟩
 |.s _::_,_,_,_,e=>by cases e
def o1{α:Type}(x:Option α)(k:α->Prop):Prop:=match x with
 |some y=>k y
 |none=>False
theorem o1.ex{α:Type}{x:Option α}{k:α->Prop}(h:o1 x k):∃y,x=oZ y/\k y:=by
 cases x with
 |none=>exact h.elim
 |some y=>exact⟨y,rfl,h⟩
def LX(Fr:FA):FE:=λE Q=>Fr E λrs E1=>o1 (z7 rs) λts=>Q (.p (.tup ts)) E1
def SI(Fr:FA):FE:=λE Q=>Fr E λrs E1=>o1 (z7 rs) λts=>Q (.s E1.length) (E1++[oZ (.o false ts)])
theorem aN{x1}(h:QA X es (dB K n Fr))(hz:n<=9000:=by decide):QE X (.Tuple es x1 pos) (aO K (LX Fr)):=by
 refine(F5 h).le λσ H Q hl h=>args (Fr:=Fr) h λB S E rs vs H2 Q' hS re rr hn q lk=>⟨by rw[hn];exact YA (cL hz),λp hp=>?_⟩;obtain⟨ts,e,q⟩:=q.ex;obtain⟨g,ui,rp⟩:=re.tup hp (Aa rr e);exact lk _ _ _ _ _ q g ui rp
theorem cN(h:QA X es (dB K n Fr))(hz:n<=9000:=by decide):QE X (.List es pos) (aO K (SI Fr)):=by
 refine(IT h).le λσ H Q hl h=>args (Fr:=Fr) h λB S E rs vs H2 Q' hS re rr hn q lk=>⟨by rw[hn];exact YA (cL hz),λp hp=>?_⟩;obtain⟨ts,e,q⟩:=q.ex;obtain⟨g,ui⟩:=re.lst hp (Aa rr e);exact lk _ _ _ _ _ q g ui (by rw[<-re.len];exact mI)
def NX:T->Option (List T)
 |.tup xs=>oZ xs
 |.lst xs=>oZ xs
 |_=>none
def UR(x y:Option T)(k:T->Prop):Prop:=match x,y with
 |some (.tup xs),oZ (.int i)=>o1 (eZ xs i) k
 |some (.lst xs),oZ (.int i)=>o1 (eZ xs i) k
 |_,_=>False
theorem Xo{O:jz->Prop}{i:Int}(h:dN K H O xs vs)(e:eZ xs i=oZ t):∃v,eZ vs i=oZ v/\Rp K H O t v:=by
 unfold eZ at e⊢;rw[h.length];cases q:Sb xs.length i with
 |none=>rw[q]at e;cases e
 |some j=>rw[q]at e;exact h.get e
def SG(Fa Fb:FE):FE:=λE Q=>Fa E λx E1=>Fb E1 λy E2=>UR (vl E2 x) (vl E2 y) λt=>Q (.p t) E2
theorem BP(eK:X.K=K)(ha:QE X a (aO K Fa))(hb:QE X b (aO K Fb))(hs:uJ b):QE X (.Subscript a b pos) (aO K (SG Fa Fb)):=by
 subst eK;refine(CF Zk ha hb hs).le λσ H Q hl h=>two (Fa:=Fa) (Fb:=Fb) h λB S E x y v w H2 Q' hS re rx ry q lk=>?_;unfold UR at q;split at q
 ·rename_i xs i e1 e2;obtain⟨t,e3,q⟩:=q.ex;obtain⟨p,vs,rfl,sq,rs⟩:=re.vl rx e1;obtain⟨u,h1,h2⟩:=Xo rs e3;exact .inr (.inl ⟨p,vs,i,u,rfl,re.int ry e2,sq,h1,lk _ _ _ _ _ q .refl re h2⟩)
 ·rename_i xs i e1 e2;obtain⟨t,e3,q⟩:=q.ex;obtain⟨p,vs,rfl,sq,rs⟩:=re.vl rx e1;obtain⟨u,h1,h2⟩:=Xo rs e3;exact .inl ⟨p,vs,i,u,rfl,re.int ry e2,sq,h1,lk _ _ _ _ _ q .refl re h2⟩
 ·exact q.elim
def Yi(Fr:FA):FE:=λE Q=>Fr E λrs E1=>match rs with
 |[x]=>o1 ((vl E1 x).bind NX) λxs=>Q (.p (.int xs.length)) E1
 |_=>False
theorem fE(eK:X.K=K)(hg:Gl X "len")(hm:X.mg "len" = none)(ha:QA X (e::es) (dB K n Fr))(hs:b8 (e::es)=true:=by rfl):QE X (.Call (.Name "len" p) (e::es) [] pos) (aO K (Yi Fr)):=by
 subst eK;refine(kK Ex hg hm PySem.boot_len ha ∅ ∅ hs).le λσ H Q hl h=>args (Fr:=Fr) h λB S E rs vs H2 Q' hS re rr hn q lk=>?_;obtain _|⟨x,_|⟨_,_⟩⟩:=rs
 ·exact False.elim q
 ·obtain⟨v,ws,e1,h1,h2⟩:=rr;cases h2;subst e1;obtain⟨xs,e2,q⟩:=o1.ex q;obtain⟨t,e3,e2⟩:=jc.mp e2;have rt:=re.vl h1 e3;cases t with
  |tup ys=>
   cases e2;obtain⟨p,us,rfl,sq,rs⟩:=rt;exact⟨p,us,rfl,.inr sq,by rw[rs.length];exact lk _ _ _ _ _ q .refl re rfl⟩
  |lst ys=>
   cases e2;obtain⟨p,us,rfl,sq,rs⟩:=rt;exact⟨p,us,rfl,.inl sq,by rw[rs.length];exact lk _ _ _ _ _ q .refl re rfl⟩
  |_=>cases e2
 ·exact False.elim q
def RY(Fr:FA):FE:=λE Q=>Fr E λrs E1=>match rs with
 |[x]=>i1 (vl E1 x) λi=>Q (.p (.int (i.natAbs:Int))) E1
 |_=>False
theorem vH(hg:Gl X "abs")(hm:X.mg "abs" = none)(ha:QA X (e::es) (dB K n Fr))(hs:b8 (e::es)=true:=by rfl):QE X (.Call (.Name "abs" p) (e::es) [] pos) (aO K (RY Fr)):=by
 refine(kK Uq hg hm boot_abs ha ∅ ∅ hs).le λσ H Q hl h=>args (Fr:=Fr) h λB S E rs vs H2 Q' hS re rr hn q lk=>?_;obtain _|⟨x,_|⟨_,_⟩⟩:=rs
 ·exact False.elim q
 ·obtain⟨v,ws,e1,h1,h2⟩:=rr;cases h2;subst e1;obtain⟨i,e2,q⟩:=i1.ex q;exact⟨i,by rw[re.int h1 e2],lk _ _ _ _ _ q .refl re rfl⟩
 ·exact False.elim q
def LR(Fr:FA):FE:=λE Q=>Fr E λrs E1=>match rs with
 |[x]=>b1 (vl E1 x) λi=>Q (.p (.int (if i then 1 else 0))) E1
 |_=>False
theorem Rv(hg:Gl X "int")(hm:X.mg "int" = none)(ha:QA X (e::es) (dB K n Fr))(hs:b8 (e::es)=true:=by rfl):QE X (.Call (.Name "int" p) (e::es) [] pos) (aO K (LR Fr)):=by
 refine(sZ Uu hg hm (by decide +kernel) ha ∅ ∅ hs).le λσ H Q hl h=>args (Fr:=Fr) h λB S E rs vs H2 Q' hS re rr hn q lk=>?_;obtain _|⟨x,_|⟨_,_⟩⟩:=rs
 ·exact False.elim q
 ·obtain⟨v,ws,e1,h1,h2⟩:=rr;cases h2;subst e1;obtain⟨i,e2,q⟩:=b1.ex q;exact⟨i,by rw[re.bl h1 e2],lk _ _ _ _ _ q .refl re rfl⟩
 ·exact False.elim q
def R9(Fr:FA):FE:=λE Q=>Fr E λrs E1=>match rs with
 |[x,y]=>i2 (vl E1 x) (vl E1 y) λi j=>(0<j/\j<2^200)/\Q (.p (.tup [.int (i/j),.int (i%j)])) E1
 |_=>False
theorem Vk(hg:Gl X "divmod")(hm:X.mg "divmod" = none)(ha:QA X (e::es) (dB K n Fr))(hs:b8 (e::es)=true:=by rfl):QE X (.Call (.Name "divmod" p) (e::es) [] pos) (aO K (R9 Fr)):=by
 refine(kK Ew hg hm boot_divmod ha ∅ ∅ hs).le λσ H Q hl h=>args (Fr:=Fr) h λB S E rs vs H2 Q' hS re rr hn q lk=>?_;obtain _|⟨x,_|⟨y,_|⟨_,_⟩⟩⟩:=rs
 ·exact False.elim q
 ·exact False.elim q
 ·obtain⟨v,ws,e1,h1,w,ws',e2,h2,h3⟩:=rr;cases h3;subst e2;subst e1;obtain⟨i,j,e3,e4,⟨c1,c2⟩,q⟩:=i2.ex q;refine⟨i,j,by rw[re.int h1 e3,re.int h2 e4],c1,c2,λp hp=>?_⟩;obtain⟨g,ui,rp⟩:=re.tup (ts:=[.int (i/j),.int (i%j)]) (vs:=[.int (i/j),.int (i%j)]) hp ⟨_,_,rfl,rfl,_,_,rfl,rfl,rfl⟩;exact lk _ _ _ _ _ q g ui rp
 ·exact False.elim q
end
structure ET where
 nx:En->Prop
 rt:R->En->Prop
 bk:En->Prop:=λ_=>False
 ct:En->Prop:=λ_=>False
abbrev FS:=ET->En->Prop
abbrev Gs(B:jz->Prop)(H:Hp)(S:St)(E:En)(H':Hp)(S':St)(E':En):Prop:=Kp (Ow B S E) (Ow B S' E') H H'
structure LS(K:W.Frag)(B:jz->Prop)(H:Hp)(σ:St)(E:En)(DT:ET)(D:dD):Prop where
 nx:∀σ' H' E',DT.nx E'->Gs B H σ E H' σ' E'->RE K B H' σ' E'->D.nx σ' H'
 rt:∀r E' v H' S',DT.rt r E'->Gs B H σ E H' S' E'->RE K B H' S' E'->RR K B H' S' E' r v->D.rt v H'
 bk:∀σ' H' E',DT.bk E'->Gs B H σ E H' σ' E'->RE K B H' σ' E'->D.bk σ' H'
 ct:∀σ' H' E',DT.ct E'->Gs B H σ E H' σ' E'->RE K B H' σ' E'->D.ct σ' H'
theorem LS.step{K:W.Frag}{B:jz->Prop}{H H':Hp}{σ σ':St}{E E':En}{DT:ET}{D:dD}(l:LS K B H σ E DT D)(g:Gs B H σ E H' σ' E'):LS K B H' σ' E' DT D:=
 ⟨λa b c d e=>l.nx a b c d (g.trans e),λa b c d e f h=>l.rt a b c d e f (g.trans h),λa b c d e=>l.bk a b c d (g.trans e),λa b c d e=>l.ct a b c d (g.trans e)⟩
def jD(K:W.Frag)(F:FS):TS:=λD σ H=>∃B E DT,RE K B H σ E/\F DT E/\LS K B H σ E DT D
theorem QS.le{X:Cx}{st:ki}{t t':TS}(h:QS X st t)(m:∀D σ H,σ.length=X.N.length->t' D σ H->t D σ H):QS X st t':=⟨λpins s σ H D I z=>h.h pins s σ H D I (m D σ H I.len z)⟩
theorem QB.le(h:QB X sts t)(m:∀D σ H,t' D σ H->t D σ H):QB X sts t':=⟨λpins s σ H D I z=>h.h pins s σ H D I (m D σ H z)⟩
theorem QG.le(h:QG X e t)(m:∀v σ H Q,σ.length=X.N.length->t' v σ H Q->t v σ H Q):QG X e t':=⟨λpins s σ H v u Q I r z=>h.h pins s σ H v u Q I r (m v σ H Q I.len z)⟩
theorem Xf.le(h:Xf X es t)(m:∀v σ H Q,t' v σ H Q->t v σ H Q):Xf X es t':=⟨λpins s σ H v u Q I r z=>h.h pins s σ H v u Q I r (m v σ H Q z)⟩
theorem QI.le(h:QI X tg e t)(m:∀σ H Q,σ.length=X.N.length->t' σ H Q->t σ H Q):QI X tg e t':=⟨λpins s σ H R I z=>h.h pins s σ H R I (m σ H R I.len z)⟩
theorem RE.map{K:W.Frag}{B:jz->Prop}{H:Hp}{S:St}{S':St}{E:En}{E':En}(re:RE K B H S E)(hl:S'.length=E'.length)(hp:∀(i:Nat)(t:T),E'[i]?=oZ (oZ (.p t))->∃v,S'[i]?=oZ (oZ v)/\Rp K H (Ow B S E) t v)(f:Nat->Nat)(ho:∀(i:Nat)(k:Bool)(xs:List T),E'[i]?=oZ (oZ (.o k xs))->E[f i]?=oZ (oZ (.o k xs))/\∃a,S[f i]?=oZ (oZ (.ref a))/\S'[i]?=oZ (oZ (.ref a)))(hf:∀(i j:Nat)(k l:Bool)(xs ys:List T),E'[i]?=oZ (oZ (.o k xs))->E'[j]?=oZ (oZ (.o l ys))->f i=f j->i=j):RE K B H S' E'/\∀b,Ow B S' E' b->Ow B S E b:=by
 have ow:∀b,Ow B S' E' b->Ow B S E b:=λb z=>by
  obtain z|⟨i,k,xs,h1,h2⟩:=z
  ·exact .inl z
  obtain⟨h3,a,h4,h5⟩:=ho i k xs h1;rw[h2]at h5;cases h5;exact .inr ⟨f i,k,xs,h3,h4⟩
 refine⟨⟨hl,λi t h=>?_,λi k xs h=>?_,λi j k l xs ys a h1 h2 h3 h4=>?_,re.bd⟩,ow⟩
 ·obtain⟨v,h1,h2⟩:=hp i t h;exact⟨v,h1,h2.step (Kp.less ow)⟩
 ·obtain⟨h3,a,h4,h5⟩:=ho i k xs h;obtain⟨a',vs,q1,q2,q3,q4⟩:=re.own _ k xs h3;rw[h4]at q1;cases q1;exact⟨a,vs,h5,q2,q3.step (Kp.less ow),q4⟩
 ·obtain⟨p1,a1,p2,p3⟩:=ho i k xs h1;obtain⟨r1,a2,r2,r3⟩:=ho j l ys h2;rw[h3]at p3;cases p3;rw[h4]at r3;cases r3;exact hf i j k l xs ys h1 h2 (re.inj _ _ k l xs ys _ p1 r1 p2 r2)
theorem RE.cut{K:W.Frag}{B:jz->Prop}{H':Hp}{S':St}{E:En}{E':En}{σ:St}(re:RE K B H' S' E')(hS:∃τ,S'=σ++τ)(hl:σ.length=E.length):RE K B H' σ (E'.take E.length)/\∀b,Ow B σ (E'.take E.length) b->Ow B S' E' b:=by
 obtain⟨τ,rfl⟩:=hS;have e:(σ++τ).take E.length=σ:=by rw[<-hl];simp
 have:=re.take E.length;rw[e]at this;refine⟨this,λb z=>?_⟩;obtain z|⟨i,k,xs,h1,h2⟩:=z
 ·exact .inl z
 have hi:i<E.length:=by
  obtain c|c:=XQ i E.length
  ·exact c
  ·rw[ZP ⋯]at h1;cases h1
 exact .inr ⟨i,k,xs,by rw[YC hi]at h1;exact h1,iX ⟨τ,rfl⟩ h2⟩
theorem RE.setP{K:W.Frag}{B:jz->Prop}{H:Hp}{S:St}{E:En}(re:RE K B H S E){i:Nat}{t:T}{v:V}(h:Rp K H (Ow B S E) t v):RE K B H (S.set i (oZ v)) (E.set i (oZ (.p t)))/\∀b,Ow B (S.set i (oZ v)) (E.set i (oZ (.p t))) b->Ow B S E b:=by
 refine re.map (by simp[re.len]) (λj u hj=>?_) id (λj k xs hj=>?_) (λ_ _ _ _ _ _ _ _ h=>h)
 ·rw[dm]at hj
  by_cases c:i=j
  ·subst c;rw[oV rfl]at hj;split at hj
   ·cases hj;rename_i hi;exact⟨v,by rw[XN (by rw[re.len];exact hi)],h⟩
   ·cases hj
  ·rw[oW c]at hj;obtain⟨w,h1,h2⟩:=re.pure j u hj;exact⟨w,by rw[XD c];exact h1,h2⟩
 ·rw[dm]at hj
  by_cases c:i=j
  ·subst c;rw[oV rfl]at hj;split at hj<;>cases hj
  ·rw[oW c]at hj;obtain⟨a,vs,h1,_⟩:=re.own j k xs hj;exact⟨hj,a,h1,by rw[XD c];exact h1⟩
theorem RE.setO{K:W.Frag}{B:jz->Prop}{H:Hp}{S:St}{E:En}{σ:St}(re:RE K B H S E)(hS:∃τ,S=σ++τ){i j:Nat}{k:Bool}{xs:List T}(hj:σ.length<=j)(hE:E[j]?=oZ (oZ (.o k xs))){v:V}(hv:S[j]?=oZ (oZ v)):
  RE K B H (σ.set i (oZ v)) ((E.take σ.length).set i (oZ (.o k xs)))/\∀b,Ow B (σ.set i (oZ v)) ((E.take σ.length).set i (oZ (.o k xs))) b->Ow B S E b:=by
 obtain⟨τ,rfl⟩:=hS;have hle:σ.length<=E.length:=by rw[<-re.len];simp
 have gt:∀{m:Nat}{x:Option U},(E.take σ.length)[m]?=oZ x->E[m]?=oZ x/\m<σ.length:=λ{m x}h=>by
  by_cases c:m<σ.length
  ·rw[YC c]at h;exact⟨h,c⟩
  ·rw[ZP ⋯]at h;cases h
 refine re.map (by simp;lia) (λm u hm=>?_) (λm=>if m=i then j else m) (λm l ys hm=>?_) (λm n l l' ys zs h1 h2 h=>?_)
 ·rw[dm]at hm
  by_cases c:i=m
  ·subst c;rw[oV rfl]at hm;split at hm<;>cases hm
  ·rw[oW c]at hm;obtain⟨hm,lt⟩:=gt hm;obtain⟨w,h1,h2⟩:=re.pure m u hm;rw[XJ lt]at h1;exact⟨w,by rw[XD c];exact h1,h2⟩
 ·rw[dm]at hm
  by_cases c:i=m
  ·subst c;rw[oV rfl]at hm;split at hm
   ·cases hm;rename_i hi;obtain⟨a,vs,h1,_⟩:=re.own j k xs hE;rw[hv]at h1;cases h1;rw[oV rfl];refine⟨hE,a,hv,?_⟩;rw[XN (by rw[XT]at hi;lia)]
   ·cases hm
  ·rw[oW c]at hm;obtain⟨hm,lt⟩:=gt hm;obtain⟨a,vs,h1,_⟩:=re.own m l ys hm;rw[oW (λz=>c z.symm)];refine⟨hm,a,h1,?_⟩;rw[XJ lt]at h1;rw[XD c];exact h1
 ·have lt:∀{m:Nat}{l:Bool}{ys:List T},((E.take σ.length).set i (oZ (.o k xs)))[m]?=oZ (oZ (.o l ys))->m≠i->m<σ.length:=λ{m l ys}h1 c=>by
   rw[XD (λz=>c z.symm)]at h1;exact(gt h1).2
  by_cases c1:m=i
  ·by_cases c2:n=i
   ·rw[c1,c2]
   ·simp only[oV c1,oW c2]at h;have:=lt h2 c2
    lia
  ·by_cases c2:n=i
   ·simp only[oW c1,oV c2]at h;have:=lt h1 c1
    lia
   ·simp only[oW c1,oW c2]at h;exact h
theorem RE.frz{K:W.Frag}{B:jz->Prop}{H:Hp}{S:St}{E:En}(re:RE K B H S E){i:Nat}{xs:List T}(h:E[i]?=oZ (oZ (.o false xs))):RE K B H S (E.set i (oZ (.p (.lst xs))))/\∀b,Ow B S (E.set i (oZ (.p (.lst xs)))) b->Ow B S E b/\S[i]?≠oZ (oZ (.ref b)):=by
 have hi:i<E.length:=(WE.mp h).1;obtain⟨a,vs,h1,h2,h3,h4⟩:=re.own i false xs h;have get:∀{j:Nat}{u:U},(E.set i (oZ (.p (.lst xs))))[j]?=oZ (oZ u)->(j=i/\u = .p (.lst xs))\/(j≠i/\E[j]?=oZ (oZ u)):=λ{j u}hj=>by
  by_cases c:j=i
  ·subst c;rw[XN hi]at hj;cases hj;exact .inl ⟨rfl,rfl⟩
  ·rw[XD (λz=>c z.symm)]at hj;exact .inr ⟨c,hj⟩
 have ow:∀b,Ow B S (E.set i (oZ (.p (.lst xs)))) b->Ow B S E b/\S[i]?≠oZ (oZ (.ref b)):=λb z=>by
  obtain z|⟨j,k,ys,q1,q2⟩:=z
  ·refine⟨.inl z,λw=>?_⟩;rw[h1]at w;cases w;exact absurd (h4.mpr z) ∅
  obtain⟨_,z⟩|⟨c,q1⟩:=get q1
  ·cases z
  ·exact⟨.inr ⟨j,k,ys,q1,q2⟩,λz=>c (re.inj j i k false ys xs b q1 h q2 z)⟩
 have kl:Kp (Ow B S E) (Ow B S (E.set i (oZ (.p (.lst xs))))) H H:=Kp.less λb z=>(ow b z).1;refine⟨⟨by simp[re.len],λj t hj=>?_,λj k ys hj=>?_,λj m k l ys zs b q1 q2 q3 q4=>?_,re.bd⟩,ow⟩
 ·obtain⟨c,z⟩|⟨c,hj⟩:=get hj
  ·cases z;subst c;exact⟨_,h1,a,vs,rfl,.inl ⟨λz=>(ow a z).2 h1,.inl h2⟩,h3.step kl⟩
  ·obtain⟨w,q1,q2⟩:=re.pure j t hj;exact⟨w,q1,q2.step kl⟩
 ·obtain⟨_,z⟩|⟨c,hj⟩:=get hj
  ·cases z
  ·obtain⟨b,ws,q1,q2,q3,q4⟩:=re.own j k ys hj;exact⟨b,ws,q1,q2,q3.step kl,q4⟩
 ·obtain⟨_,z⟩|⟨_,q1⟩:=get q1
  ·cases z
  obtain⟨_,z⟩|⟨_,q2⟩:=get q2
  ·cases z
  exact re.inj j m k l ys zs b q1 q2 q3 q4
theorem RE.put{K:W.Frag}{B:jz->Prop}{H:Hp}{S:St}{E:En}(re:RE K B H S E){i:Nat}{k:Bool}{xs ys:List T}{a:jz}{ws:List V}(h:E[i]?=oZ (oZ (.o k xs)))(hS:S[i]?=oZ (oZ (.ref a)))(hw:dN K H (Ow B S E) ys ws):
  Gr B H S E (upd H a (.lst ws)) S (E.set i (oZ (.o k ys)))/\RE K B (upd H a (.lst ws)) S (E.set i (oZ (.o k ys))):=by
 have hi:i<E.length:=(WE.mp h).1;have get:∀{j:Nat}{u:U},(E.set i (oZ (.o k ys)))[j]?=oZ (oZ u)->(j=i/\u = .o k ys)\/(j≠i/\E[j]?=oZ (oZ u)):=λ{j u}hj=>by
  by_cases c:j=i
  ·subst c;rw[XN hi]at hj;cases hj;exact .inl ⟨rfl,rfl⟩
  ·rw[XD (λz=>c z.symm)]at hj;exact .inr ⟨c,hj⟩
 have ow:∀b,Ow B S (E.set i (oZ (.o k ys))) b->Ow B S E b:=λb z=>by
  obtain z|⟨j,l,zs,q1,q2⟩:=z
  ·exact .inl z
  obtain⟨c,z⟩|⟨c,q1⟩:=get q1
  ·subst c;exact .inr ⟨j,k,xs,h,q2⟩
  ·exact .inr ⟨j,l,zs,q1,q2⟩
 have oa:Ow B S E a:=.inr ⟨i,k,xs,h,hS⟩;have kk:∀b o,H b=oZ o->¬Ow B S E b->(upd H a (.lst ws)) b=oZ o:=λb o e n=>by rw[bH (λz=>n (by rw[z];exact oa))];exact e
 have kp:Kp (Ow B S E) (Ow B S E) H (upd H a (.lst ws)):=⟨kk,λb z=>.inl z⟩;refine⟨⟨⟨kk,λb z=>.inl (ow b z)⟩,[],by simp⟩,re.step kk (by simp) (λj t hj=>?_) (λj l zs hj=>?_) (λb hb=>?_)⟩
 ·obtain⟨_,z⟩|⟨_,hj⟩:=get hj
  ·cases z
  ·exact hj
 ·obtain⟨c,z⟩|⟨c,hj⟩:=get hj
  ·cases z;subst c;refine⟨xs,h,λb hb=>?_⟩;rw[hS]at hb;cases hb;exact⟨ws,cZ,hw.step kp⟩
  ·refine⟨zs,hj,λb hb=>?_⟩;obtain⟨b',us,q1,q2,q3,_⟩:=re.own j l zs hj;rw[hb]at q1;cases q1;have nb:b≠a:=λz=>c (re.inj j i l k zs xs a hj h (by rw[<-z];exact hb) hS);exact⟨us,by rw[bH nb];exact q2,q3.step kp⟩
 ·by_cases c:b=a
  ·subst c;exact⟨ws,cZ⟩
  ·rw[bH c];exact re.bd b hb
section
variable{X:Cx}{K:W.Frag}{pos:Pos}{a b c e o i:oC}{es rest:List oC}{Fa Fb Fc Fe Fo Fi:FE}{Fr:FA}{Fp Fq:FB}{F G:FS}{st:ki}{sts body b1' b2':List ki}
def xS:En->(En->Prop)->Prop
 |[],k=>k []
 |x::r,k=>xS r λr'=>k (x::r')
theorem k6:∀{E:En}{k:En->Prop},xS E k->k E
 |[],_,h=>h
 |x::r,k,h=>k6 (E:=r) (k:=λr'=>k (x::r')) h
def CJ:FS:=λD E=>D.nx E
def AH(F G:FS):FS:=λD E=>F { D with nx:=λE'=>xS E' (G D) } E
theorem a8:QB X [] (jD K CJ):=F2.le λD σ H zZ=>by obtain⟨B,E,DT,re,hF,l⟩:=zZ;exact l.nx _ _ _ hF (Kp.refl _ _) re
theorem aB(h1:QS X st (jD K F))(h2:QB X sts (jD K G)):QB X (st::sts) (jD K (AH F G)):=
 (Hh h1 h2).le λD σ H zZ=>by obtain⟨B,E,DT,re,hF,l⟩:=zZ;exact⟨B,E,_,re,hF,⟨λσ' H' E' hG g ui=>⟨B,E',DT,ui,k6 hG,l.step g⟩,l.rt,l.bk,l.ct⟩⟩
theorem aE(h1:QS X st (jD K F)):QB X [st] (jD K F):=Pj h1
def NW(Fa:FE):FS:=λD E=>Fa E D.rt
theorem aG(h:QE X e (aO K Fa)):QS X (.Return (oZ e) pos) (jD K (NW Fa)):=
 (Pk h).le λD σ H hl zZ=>by obtain⟨B,E,DT,re,hF,l⟩:=zZ;exact⟨B,σ,E,_,⟨[],by simp⟩,re,hF,λr E' v H' S' q g ui rr=>l.rt r E' v H' S' q g.kp ui rr⟩
theorem Eo{D:Bool->Hp->Prop}{B:jz->Prop}{P:Bool->En->Prop}(re:RE K B H σ E)(hF:Fp E λb E'=>P b (E'.take E.length))(k:∀b H' E',P b E'->Gs B H σ E H' σ E'->RE K B H' σ E'->D b H'):gY K Fp σ H D:=
 ⟨B,σ,E,_,⟨[],by simp⟩,re,hF,λb E' H' S' q g ui=>by
  obtain⟨r,ow⟩:=ui.cut (E:=E) g.pre re.len;exact k b H' _ q (g.kp.trans (Kp.less ow)) r⟩
theorem yX{P:R->En->En->Prop}{B:jz->Prop}(re:RE K B H σ E)(hF:Fa E λr E'=>P r E' (E'.take E.length))(k:∀r E' v H' S',P r E' (E'.take E.length)->Gr B H σ E H' S' E'->RE K B H' S' E'->RR K B H' S' E' r v->RE K B H' σ (E'.take E.length)->(∀b,Ow B σ (E'.take E.length) b->Ow B S' E' b)->Q v H'):aO K Fa σ H Q:=
 ⟨B,σ,E,_,⟨[],by simp⟩,re,hF,λr E' v H' S' q g ui rr=>by
  obtain⟨r2,ow⟩:=ui.cut (E:=E) g.pre re.len;exact k r E' v H' S' q g ui rr r2 ow⟩
def UT(Fp:FB)(F G:FS):FS:=λD E=>Fp E λb E'=>if b=true then xS (E'.take E.length) (F D)else xS (E'.take E.length) (G D)
theorem bN(hc:QT X c (gY K Fp))(ha:QB X b1' (jD K F))(hb:QB X b2' (jD K G)):QS X (.If c b1' b2' pos) (jD K (UT Fp F G)):=
 (CG hc ha hb).le λD σ H hl⟨B,E,DT,re,hF,l⟩=>Eo (P:=λb E'=>if b=true then xS E' (F DT)else xS E' (G DT)) re hF λb H' E' q g ui=>by
  cases b
  ·exact⟨B,E',DT,ui,k6 q,l.step g⟩
  ·exact⟨B,E',DT,ui,k6 q,l.step g⟩
def G8(Fa:FE):FS:=λD E=>Fa E λ_ E'=>D.nx (E'.take E.length)
theorem eH(he:QE X e (aO K Fa))(hs:my e none pos.line X.env=pure false:=by rfl):QS X (.Expr e pos) (jD K (G8 Fa)):=
 (Hi he hs).le λD σ H hl zZ=>by obtain⟨B,E,DT,re,hF,l⟩:=zZ;exact yX (P:=λ_ _ E'=>DT.nx E') re hF λr E' v H' S' q g ui rr xu ow=>l.nx _ _ _ q (g.kp.trans (Kp.less ow)) xu
def AG(Fp:FB):FS:=λD E=>Fp E λb E'=>b=true/\D.nx (E'.take E.length)
theorem Vn(hc:QT X c (gY K Fp)):QS X (.Assert c m pos) (jD K (AG Fp)):=
 (Ws hc).le λD σ H hl zZ=>by obtain⟨B,E,DT,re,hF,l⟩:=zZ;exact Eo (P:=λb E'=>b=true/\DT.nx E') re hF λb H' E' q g ui=>⟨q.1,l.nx _ _ _ q.2 g ui⟩
def Hf(n:Nat)(E:En):R->Option U
 |.p t=>oZ (.p t)
 |.s j=>match E[j]? with
  |some (oZ (.p t))=>oZ (.p t)
  |some (oZ (.o k xs))=>if n<=j then oZ (.o k xs)else none
  |_=>none
theorem rF{B:jz->Prop}{σ:St}{E:En}{i:Nat}(re:RE K B H S E)(hS:∃τ,S=σ++τ)(rr:RR K B H S E r v)(h:Hf σ.length E r=oZ u):
  RE K B H (σ.set i (oZ v)) ((E.take σ.length).set i (oZ u))/\∀b,Ow B (σ.set i (oZ v)) ((E.take σ.length).set i (oZ u)) b->Ow B S E b:=by
 have aGQ:∀{t:T},Rp K H (Ow B S E) t v->RE K B H (σ.set i (oZ v)) ((E.take σ.length).set i (oZ (.p t)))/\∀b,Ow B (σ.set i (oZ v)) ((E.take σ.length).set i (oZ (.p t))) b->Ow B S E b:=λ{t}hp=>by
  obtain⟨τ,rfl⟩:=hS;have xu:=re.take σ.length;rw[show(σ++τ).take σ.length=σ by simp]at xu;have ow:∀b,Ow B σ (E.take σ.length) b->Ow B (σ++τ) E b:=λb z=>by
   obtain z|⟨j,k,xs,h1,h2⟩:=z
   ·exact .inl z
   have hj:j<σ.length:=(WE.mp h2).1;exact .inr ⟨j,k,xs,by rw[YC hj]at h1;exact h1,iX ⟨τ,rfl⟩ h2⟩
  obtain⟨q1,q2⟩:=xu.setP (i:=i) (hp.step (Kp.less ow));exact⟨q1,λb z=>ow b (q2 b z)⟩
 cases r with
 |p t=>cases h;exact aGQ rr
 |s j=>
  cases q:E[j]? with
  |none=>simp only[Hf,q]at h;cases h
  |some w=>
   cases w with
   |none=>simp only[Hf,q]at h;cases h
   |some w=>
    cases w with
    |p t=>
     simp only[Hf,q]at h;cases h;obtain⟨v',h1,h2⟩:=re.pure j t q;have rr':S[j]?=oZ (oZ v):=rr;rw[rr']at h1;cases h1;exact aGQ h2
    |o k xs=>
     simp only[Hf,q]at h;split at h
     ·cases h;rename_i c;exact re.setO hS c q rr
     ·cases h
def AI(i:Nat)(Fa:FE):FS:=λD E=>Fa E λr E'=>o1 (Hf E.length E' r) λu=>D.nx ((E'.take E.length).set i (oZ u))
theorem Fx{i:Nat}{x:Str}(hN:X.N.Nodup)(hi:X.N[i]?=oZ x)(hx:Bg X.env.scope x)(he:QE X e (aO K Fa))(hs:my e (oZ (.Name x pos')) pos.line X.env=pure false:=by rfl)(hf:X.fn x=true\/X.env.scope.names.lookup x=oZ .local:=by first|exact .inl rfl|exact .inr rfl|assumption):QS X (.Assign [.Name x pos'] e pos) (jD K (AI i Fa)):=
 (Pl hN hi hx he hs hf).le λD σ H hl⟨B,E,DT,re,hF,l⟩=>⟨B,σ,E,_,⟨[],by simp⟩,re,hF,λr E' v H' S' q g ui rr=>by
  obtain⟨u,e1,q⟩:=q.ex;rw[<-re.len]at e1 q;obtain⟨r1,ow⟩:=rF (i:=i) ui g.pre rr e1;exact l.nx _ _ _ q (g.kp.trans (Kp.less ow)) r1⟩
end
abbrev FG:=T->En->(En->Prop)->Prop
abbrev JV:=List T->En->(En->Prop)->Prop
def xX(K:W.Frag)(G:FG):TG:=λv σ H Q=>∃B τ E t Q',RE K B H (σ++τ) E/\Rp K H (Ow B (σ++τ) E) t v/\G t E Q'/\∀σ' H' E',Q' E'->Gs B H (σ++τ) E H' (σ'++τ) E'->RE K B H' (σ'++τ) E'->σ'.length=σ.length->Q σ' H'
def Tb(K:W.Frag)(G:JV):ED:=λvs σ H Q=>∃B τ E ts Q',RE K B H (σ++τ) E/\dN K H (Ow B (σ++τ) E) ts vs/\G ts E Q'/\∀σ' H' E',Q' E'->Gs B H (σ++τ) E H' (σ'++τ) E'->RE K B H' (σ'++τ) E'->σ'.length=σ.length->Q σ' H'
def sD(i:Nat):FG:=λt E Q=>Q (E.set i (oZ (.p t)))
def SW:JV:=λts E Q=>match ts with
 |[]=>Q E
 |_=>False
def MG(g:FG)(gs:JV):JV:=λts E Q=>match ts with
 |t::r=>g t E λE'=>gs r E' Q
 |[]=>False
def SY(n:Nat)(gs:JV):FG:=λt E Q=>match t with
 |.tup ts=>cond (Nat.beq ts.length n) (gs ts E Q) False
 |_=>False
def SX(Fo Fi:FE):FG:=λt E Q=>Fo E λr E1=>Fi E1 λz E2=>match r with
 |.s j=>match E2[j]? with
  |some (oZ (.o k xs))=>i1 (vl E2 z) λm=>o1 (Sb xs.length m) λl=>Q ((E2.set j (oZ (.o k (xs.set l t)))).take E.length)
  |_=>False
 |_=>False
section
variable{X:Cx}{K:W.Frag}{pos:Pos}{a b c e o i:oC}{es rest:List oC}{Fa Fb Fc Fe Fo Fi:FE}{Fr:FA}{Fp Fq:FB}{F G:FS}{st:ki}{sts body:List ki}{g:FG}{gs:JV}
theorem uR{i:Nat}{x:Str}(hN:X.N.Nodup)(hi:X.N[i]?=oZ x)(hx:Bg X.env.scope x)(hf:X.fn x=true\/X.env.scope.names.lookup x=oZ .local:=by first|exact .inl rfl|exact .inr rfl|assumption):QG X (.Name x pos) (xX K (sD i)):=
 (u4 hN hi hx hf).le λv σ H Q hl zZ=>by
  obtain⟨B,τ,E,t,Q',re,rp,hF,l⟩:=zZ;have yc:i<σ.length:=by rw[hl];exact(WE.mp hi).1
  obtain⟨r1,ow⟩:=re.setP (i:=i) rp;rw[fg _ _ yc]at r1 ow;exact l _ _ _ hF (Kp.less ow) r1 (by simp)
theorem cJ:Xf X [] (Tb K SW):=Sw.le λvs σ H Q zZ=>by
 obtain⟨B,τ,E,ts,Q',re,rp,hF,l⟩:=zZ;cases ts with
 |nil=>exact⟨rp,l _ _ _ hF (Kp.refl _ _) re rfl⟩
 |cons _ _=>exact hF.elim
theorem aP(h1:QG X e (xX K g))(h2:Xf X es (Tb K gs))(hs:(mh (e::es) X.env).map (·.2)=qf e X.env::(mh es X.env).map (·.2):=by rfl):Xf X (e::es) (Tb K (MG g gs)):=
 (Ac h1 h2 hs).le λvs σ H Q zZ=>by
  obtain⟨B,τ,E,ts,Q',re,rp,hF,l⟩:=zZ;cases ts with
  |nil=>exact hF.elim
  |cons t ts=>
   obtain⟨v,r,e1,h1,h2⟩:=rp;exact⟨v,r,e1,B,τ,E,t,_,re,h1,hF,λσ' H' E' q g ui hl=>⟨B,τ,E',ts,Q',ui,h2.step g,q,λσ2 H2 E2 q2 g2 xu hl2=>l _ _ _ q2 (g.trans g2) xu (hl2.trans hl)⟩⟩
theorem dA(eK:X.K=K)(hc:X.calm=true)(h:Xf X es (Tb K gs))(hn:(mh es X.env).length=n:=by rfl)(hst:(mh es X.env).findIdx? (·.1)=none:=by rfl):QG X (.Tuple es k pos) (xX K (SY n gs)):=by
 subst eK;refine(F6 hc h hn hst).le λv σ H Q hl zZ=>?_;obtain⟨B,τ,E,t,Q',re,rp,hF,l⟩:=zZ;cases t with
 |tup ts=>
  have hF':cond (Nat.beq ts.length n) (gs ts E Q') False:=hF;cases q:Nat.beq ts.length n with
  |false=>rw[q]at hF';exact hF'.elim
  |true=>
   rw[q]at hF';obtain⟨p,vs,e1,sq,rs⟩:=rp.sqT;exact⟨p,vs,e1,sq,by rw[rs.length];exact Nat.eq_of_beq_eq_true q,B,τ,E,ts,Q',re,rs,hF',l⟩
 |_=>exact hF.elim
theorem Nl(ho:QE X o (aO K Fo))(hi:QE X i (aO K Fi))(ha:∀v,qf (.Subscript o i pos) X.env v=(do
   let ov <-oq [v] (lq o X.env)
   let iv <-oq [v,ov] (lq i X.env)
   standAt pos
   oq [v,ov,iv] (setItem ov iv v)
   release [v,ov,iv] []):=by intro _;rfl):QG X (.Subscript o i pos) (xX K (SX Fo Fi)):=by
 refine(IX ho hi K3 ha).le λv σ H Q hl zZ=>?_;obtain⟨B,τ,E,t,Q',re,rp,hF,l⟩:=zZ;refine⟨B,σ++τ,E,_,⟨τ,rfl⟩,re,hF,λr E1 w H1 S1 q g1 uk rr=>?_⟩;obtain⟨τ1,zm⟩:=g1.pre;refine⟨B,S1,E1,_,⟨τ++τ1,by rw[zm,XB]⟩,uk,q,λz E2 y H2 S2 q2 g2 xu rr2=>?_⟩;have g12:=g1.trans g2;cases r with
 |p _=>exact q2.elim
 |s j=>
  have rj:S2[j]?=oZ (oZ w):=iX g2.pre rr;cases hE:E2[j]? with
  |none=>simp only[hE]at q2
  |some u=>
   cases u with
   |none=>simp only[hE]at q2
   |some u=>
    cases u with
    |p _=>simp only[hE]at q2
    |o k xs=>
     simp only[hE]at q2;obtain⟨m,e1,q2⟩:=q2.ex;obtain⟨n,e2,q2⟩:=q2.ex;obtain⟨p,vs,h1,h2,h3,h4⟩:=xu.own j k xs hE;rw[rj]at h1;cases h1;refine⟨p,vs,m,n,rfl,xu.int rr2 e1,h2,by rw[h3.length];exact e2,?_⟩;obtain⟨g3,zd⟩:=xu.put (ys:=xs.set n t) (ws:=vs.set n v) hE rj (h3.set (rp.step g12.kp) n);obtain⟨re4,ow⟩:=zd.cut (E:=E) (g12.trans g3).pre re.len;exact l _ _ _ q2 ((g12.trans g3).kp.trans (Kp.less ow)) re4 rfl
def UA(Fa:FE)(g:FG):FS:=λD E=>Fa E λr E'=>match r with
 |.p t=>g t (E'.take E.length) D.nx
 |.s _=>False
theorem fF(he:QE X e (aO K Fa))(hg:QG X tg (xX K g))(hs:mz [tg] e pos.line X.env=pure false:=by rfl)(hw:ni [tg] e X.env=pure none:=by rfl)(h1:(mh [tg] X.env).map (·.2)=[qf tg X.env]:=by rfl):QS X (.Assign [tg] e pos) (jD K (UA Fa g)):=
 (IZ he hg hs hw h1).le λD σ H hl⟨B,E,DT,re,hF,l⟩=>yX (P:=λr _ E'=>match r with|.p t=>g t E' DT.nx|.s _=>False) re hF λr E' v H' S' q g' ui rr xu ow=>by
  cases r with
  |s _=>exact q.elim
  |p t=>exact⟨B,[],_,t,_,by rw[XW];exact xu,by rw[XW];exact Rp.step (Kp.less ow) rr,q,λσ2 H2 E2 q2 g2 zd _=>by rw[XW]at g2 zd;rw[XW]at g2;exact l.nx _ _ _ q2 ((g'.kp.trans (Kp.less ow)).trans g2) zd⟩
def UC(i j:Nat)(Fr:FA):FS:=λD E=>Fr E λrs E'=>match rs with
 |[.p t,r]=>o1 (Hf E.length E' r) λu=>D.nx (((E'.take E.length).set j (oZ u)).set i (oZ (.p t)))
 |[r,.p t]=>o1 (Hf E.length E' r) λu=>D.nx (((E'.take E.length).set i (oZ u)).set j (oZ (.p t)))
 |_=>False
theorem gH{n i j:Nat}{x y:Str}{kt k2 pt2}(hc:X.calm=true)(hN:X.N.Nodup)(hi:X.N[i]?=oZ x)(hj:X.N[j]?=oZ y)(hij:i≠j)(hx:X.env.scope.names.lookup x=oZ .local)(hy:X.env.scope.names.lookup y=oZ .local)(ha:QA X [a,b] (dB K n Fr))(hw:ni [.Tuple [.Name x px,.Name y py] kt pt] (.Tuple [a,b] k2 pt2) X.env=pure (oZ [x,y]))(hs:mz [.Tuple [.Name x px,.Name y py] kt pt] (.Tuple [a,b] k2 pt2) pos.line X.env=pure false:=by rfl):
  QS X (.Assign [.Tuple [.Name x px,.Name y py] kt pt] (.Tuple [a,b] k2 pt2) pos) (jD K (UC i j Fr)):=by
 refine(F8 hc hN hi hj hij hx hy ha hw hs).le λD σ H hl⟨B,E,DT,re,hF,l⟩=>⟨B,σ,E,_,⟨[],by simp⟩,re,hF,λrs E' vs H' S' q g ui rr hn=>?_⟩;split at q
 ·rename_i t r;obtain⟨v,ws,e1,h1,w,ws',e2,h2,h3⟩:=rr;cases h3;subst e2;subst e1;obtain⟨u,e3,q⟩:=q.ex;rw[<-re.len]at e3 q;obtain⟨r1,ow⟩:=rF (i:=j) ui g.pre h2 e3;obtain⟨r2,ow2⟩:=r1.setP (i:=i) (Rp.step (Kp.less ow) h1);refine⟨v,w,rfl,?_⟩;rw[bg _ _ hij];exact l.nx _ _ _ q (g.kp.trans (Kp.less λb z=>ow b (ow2 b z))) r2
 ·rename_i r t _;obtain⟨v,ws,e1,h1,w,ws',e2,h2,h3⟩:=rr;cases h3;subst e2;subst e1;obtain⟨u,e3,q⟩:=q.ex;rw[<-re.len]at e3 q;obtain⟨r1,ow⟩:=rF (i:=i) ui g.pre h1 e3;obtain⟨r2,ow2⟩:=r1.setP (i:=j) (Rp.step (Kp.less ow) h2);exact⟨v,w,rfl,l.nx _ _ _ q (g.kp.trans (Kp.less λb z=>ow b (ow2 b z))) r2⟩
 ·exact q.elim
def NU(i j k:Nat)(Fr:FA):FS:=λD E=>Fr E λrs E'=>match rs with
 |[r,.p t,.p w]=>o1 (Hf E.length E' r) λu=>D.nx ((((E'.take E.length).set i (oZ u)).set j (oZ (.p t))).set k (oZ (.p w)))
 |_=>False
theorem T8{n i j k:Nat}{x y z:Str}{kt k2 pt2}(hc:X.calm=true)(hN:X.N.Nodup)(hi:X.N[i]?=oZ x)(hj:X.N[j]?=oZ y)(hk:X.N[k]?=oZ z)(hij:i≠j)(hik:i≠k)(hjk:j≠k)(hx:X.env.scope.names.lookup x=oZ .local)(hy:X.env.scope.names.lookup y=oZ .local)(hz:X.env.scope.names.lookup z=oZ .local)(ha:QA X [a,b,c] (dB K n Fr))(hw:ni [.Tuple [.Name x px,.Name y py,.Name z pz] kt pt] (.Tuple [a,b,c] k2 pt2) X.env=pure (oZ [x,y,z]))(hs:mz [.Tuple [.Name x px,.Name y py,.Name z pz] kt pt] (.Tuple [a,b,c] k2 pt2) pos.line X.env=pure false:=by rfl):
  QS X (.Assign [.Tuple [.Name x px,.Name y py,.Name z pz] kt pt] (.Tuple [a,b,c] k2 pt2) pos) (jD K (NU i j k Fr)):=by
 refine(Z8 hc hN hi hj hk hij hik hjk hx hy hz ha hw hs).le λD σ H hl⟨B,E,DT,re,hF,l⟩=>⟨B,σ,E,_,⟨[],by simp⟩,re,hF,λrs E' vs H' S' q g ui rr hn=>?_⟩;split at q
 ·rename_i r t w;obtain⟨v1,ws1,e1,h1,v2,ws2,e2,h2,v3,ws3,e3,h3,h4⟩:=rr;cases h4;subst e3;subst e2;subst e1;obtain⟨u,e4,q⟩:=q.ex;rw[<-re.len]at e4 q;obtain⟨r1,ow⟩:=rF (i:=i) ui g.pre h1 e4;obtain⟨r2,ow2⟩:=r1.setP (i:=j) (Rp.step (Kp.less ow) h2);obtain⟨r3,ow3⟩:=r2.setP (i:=k) (Rp.step (Kp.less λb z=>ow b (ow2 b z)) h3);exact⟨v1,v2,v3,rfl,l.nx _ _ _ q (g.kp.trans (Kp.less λb z=>ow b (ow2 b (ow3 b z)))) r3⟩
 ·exact q.elim
def NS(f:Int->Int->Int)(i:Nat)(Fa:FE):FS:=λD E=>match E[i]? with
 |some (oZ (.p (.int x)))=>Fa E λr E'=>i1 (vl E' r) λy=>D.nx ((E'.take E.length).set i (oZ (.p (.int (f x y)))))
 |_=>False
theorem Yu{i:Nat}{x:Str}{f:Int->Int->Int}(hN:X.N.Nodup)(hi:X.N[i]?=oZ x)(hx:Bg X.env.scope x)(he:QE X e (aO K Fa))(ho:RM X op (UQ f))(hf:X.fn x=true\/X.env.scope.names.lookup x=oZ .local:=by first|exact .inl rfl|exact .inr rfl|assumption):
  QS X (.AugAssign (.Name x pos') op e pos) (jD K (NS f i Fa)):=by
 refine QS.le ⟨IC hN hi hx he.h ho hf⟩ λD σ H hl zZ=>?_;obtain⟨B,E,DT,re,hF,l⟩:=zZ;unfold NS at hF;split at hF
 ·rename_i y hE;obtain⟨v,h1,h2⟩:=re.pure i _ hE;cases h2;refine⟨_,h1,yX (P:=λr E' E2=>i1 (vl E' r) λz=>DT.nx (E2.set i (oZ (.p (.int (f y z)))))) re hF λr E' v H' S' q g' ui rr xu ow=>?_⟩;obtain⟨z,e1,q⟩:=q.ex;obtain⟨r1,ow2⟩:=xu.setP (i:=i) (t:=.int (f y z)) (v:=.int (f y z)) rfl;exact⟨y,z,rfl,ui.int rr e1,l.nx _ _ _ q (g'.kp.trans (Kp.less λb z=>ow b (ow2 b z))) r1⟩
 ·exact hF.elim
def JJ(Fp:FB)(F:FS):FS:=λD E=>∃W:Nat->En->Prop,(∃m,W m E)/\∀m E,W m E->Fp E λb E'=>if b=true then F { D with nx:=λE2=>∃m',m'<m/\W m' E2,ct:=λE2=>∃m',m'<m/\W m' E2,bk:=D.nx } (E'.take E.length)else D.nx (E'.take E.length)
theorem pS(hp:PassesOwn (km X.prog X.w) X.A X.env X.xe)(hc:QT X c (gY K Fp))(hb:QB X body (jD K F)):QS X (.While c body [] pos) (jD K (JJ Fp F)):=by
 refine(F9 hp hc hb).le λD σ H hl zZ=>?_;obtain⟨B,E,DT,re,⟨W,⟨m0,w0⟩,hF⟩,l⟩:=zZ;refine⟨λm σ' H'=>∃E',W m E'/\Gs B H σ E H' σ' E'/\RE K B H' σ' E',⟨m0,E,w0,Kp.refl _ _,re⟩,?_⟩;rintro m σ1 H1 ⟨E1,w1,g1,uk⟩;refine Eo (P:=λb E'=>if b=true then F { DT with nx:=λE2=>∃m',m'<m/\W m' E2,ct:=λE2=>∃m',m'<m/\W m' E2,bk:=DT.nx } E' else DT.nx E') uk (hF m E1 w1) λb H2 E2 q g2 xu=>?_;cases b
 ·exact l.nx _ _ _ q (g1.trans g2) xu
 ·refine⟨λσ' H'=>∃m',m'<m/\∃E',W m' E'/\Gs B H σ E H' σ' E'/\RE K B H' σ' E',λσ' H' z=>z,B,E2,_,xu,q,?_⟩;have l2:=l.step (g1.trans g2);exact⟨λσ' H' E' zZ g ui=>by obtain⟨m',hm,w⟩:=zZ;exact⟨m',hm,E',w,(g1.trans g2).trans g,ui⟩,l2.rt,λσ' H' E' z g ui=>l2.nx _ _ _ z g ui,λσ' H' E' zZ g ui=>by obtain⟨m',hm,w⟩:=zZ;exact⟨m',hm,E',w,(g1.trans g2).trans g,ui⟩⟩
structure Bf(K:W.Frag)(J:It)(items:List T)(gd:Hp->(jz->Prop)->Prop):Prop where
 keep:∀H H' O O',Kp O O' H H'->gd H O->gd H' O'
 go:∀i H O,gd H O->i<items.length->J.go i H
 yld:∀i H O x H' t,gd H O->items[i]?=oZ t->(∀a,O a->H a≠none)->J.yld i H x H'->Kp O O H H'/\(∀b o,H b=oZ o->H' b=oZ o)/\Rp K H' O t x
 stop:∀H O,gd H O->J.stop items.length H
abbrev FI:=En->(List T->List Nat->En->Prop)->Prop
def mD(K:W.Frag)(F:FI):TI:=λσ H R=>∃B S E Q',(∃τ,S=σ++τ)/\RE K B H S E/\F E Q'/\∀J items us E' H' S' gd,Q' items us E'->Gr B H S E H' S' E'->RE K B H' S' E'->Bf K J items gd->(∀j∈us,∃k xs,E'[j]?=oZ (oZ (U.o k xs)))->
 (∀O:jz->Prop,(∀b,O b->Ow B S' E' b)->(∀j∈us,∀a,S'[j]?=oZ (oZ (.ref a))->¬O a)->gd H' O)->R J H'
def frzs:List Nat->En->Option En
 |[],E=>oZ E
 |j::us,E=>match E[j]? with
  |some (oZ (.o false xs))=>frzs us (E.set j (oZ (.p (.lst xs))))
  |_=>none
theorem Fv{B:jz->Prop}:∀{us:List Nat}{E E':En},RE K B H S E->frzs us E=oZ E'->RE K B H S E'/\(∀b,Ow B S E' b->Ow B S E b)/\(∀j∈us,∀a,S[j]?=oZ (oZ (.ref a))->¬Ow B S E' a)/\E'.length=E.length
 |[],E,E',re,h=>by cases h;exact⟨re,λb z=>z,λj hj=>absurd hj (by simp),rfl⟩
 |j::us,E,E',re,h=>by
  cases q:E[j]? with
  |none=>simp only[frzs,q]at h;cases h
  |some u=>
   cases u with
   |none=>simp only[frzs,q]at h;cases h
   |some u=>
    cases u with
    |p t=>simp only[frzs,q]at h;cases h
    |o k xs=>
     cases k
     ·simp only[frzs,q]at h;obtain⟨s1,s2⟩:=re.frz q;obtain⟨r1,r2,r3,r4⟩:=Fv s1 h;refine⟨r1,λb z=>(s2 b (r2 b z)).1,λm hm a ha z=>?_,by rw[r4];simp⟩;obtain rfl|hm:=WM.mp hm
      ·exact(s2 a (r2 a z)).2 ha
      ·exact r3 m hm a ha z
     ·simp only[frzs,q]at h;cases h
def fJ(g:FG)(F:FS)(D:ET):List T->En->Prop
 |[],E=>D.nx E
 |x::xs,E=>g x E λE'=>xS E' (F { D with nx:=fJ g F D xs,ct:=fJ g F D xs,bk:=D.nx })
def NT(I:FI)(g:FG)(F:FS):FS:=λD E=>I E λitems us E'=>o1 (frzs us E') λE2=>xS (E2.take E.length) (fJ g F D items)
theorem eI(hp:PassesOwn (km X.prog X.w) X.A X.env X.xe)(hc:X.calm=true)(hi:QI X tg iter (mD K I))(hg:QG X tg (xX K g))(hb:QB X body (jD K F))(hs:∀x,lh iter X.env x=pure x:=by intro _;rfl):
  QS X (.For tg iter body [] pos) (jD K (NT I g F)):=by
 refine(F7 hp hc hi hg hb hs).le λD σ H hl zZ=>?_;obtain⟨B,E,DT,re,hF,l⟩:=zZ;refine⟨B,σ,E,_,⟨[],by simp⟩,re,hF,λJ items us E1 H1 S1 gd q g1 uk ok _ hgd=>?_⟩;obtain⟨E2,e2,q⟩:=q.ex;replace q:=k6 q;obtain⟨f1,f2,f3,f4⟩:=Fv uk e2;obtain⟨c1,c2⟩:=f1.cut (E:=E) g1.pre re.len;have gs:Gs B H σ E H1 σ (E2.take E.length):=g1.kp.trans ((Kp.less f2).trans (Kp.less c2));have gd1:gd H1 (Ow B σ (E2.take E.length)):=hgd _ (λb z=>f2 b (c2 b z)) λj hj a ha z=>f3 j hj a ha (c2 a z);refine⟨λi m σ' H'=>m=items.length-i/\i<=items.length/\∃E',fJ g F DT (items.drop i) E'/\Gs B H σ E H' σ' E'/\RE K B H' σ' E'/\gd H' (Ow B σ' E'),⟨_,rfl,WS _,_,q,gs,c1,gd1⟩,?_⟩;rintro i m σ2 H2 ⟨rfl,zx,E3,q3,g3,zd,gd3⟩;obtain yc|hge:=XQ i items.length
 ·have hd:items.drop i=items[i]::items.drop (i+1):=YN yc;rw[hd]at q3;refine .inr ⟨ok.go i H2 _ gd3 yc,λσ' H'=>∃E',fJ g F DT (items.drop (i+1)) E'/\Gs B H σ E H' σ' E'/\RE K B H' σ' E'/\gd H' (Ow B σ' E'),λσ' H' zZ=>by obtain⟨E',z⟩:=zZ;exact⟨items.length-(i+1),⋯,rfl,yc,E',z⟩,λx H4 y=>?_⟩;obtain⟨k4,s4,rp⟩:=ok.yld i H2 _ x H4 _ gd3 (WG yc) (λa z=>by obtain⟨vs,e⟩:=zd.ow z;rw[e];intro z;cases z) y;have re4:=zd.kept s4;have gd4:=ok.keep _ _ _ _ k4 gd3;refine⟨B,[],E3,_,_,by rw[XW];exact re4,by rw[XW];exact rp,q3,λσ5 H5 E5 q5 g5 re5 hl5=>?_⟩;rw[XW]at g5 re5;rw[XW]at g5;have gd5:=ok.keep _ _ _ _ g5 gd4;have gg:=(g3.trans k4).trans g5;have l5:=l.step gg;refine⟨B,E5,_,re5,k6 q5,?_⟩;exact⟨λσ' H' E' z g ui=>⟨E',z,gg.trans g,ui,ok.keep _ _ _ _ g gd5⟩,l5.rt,λσ' H' E' z g ui=>l5.nx _ _ _ z g ui,λσ' H' E' z g ui=>⟨E',z,gg.trans g,ui,ok.keep _ _ _ _ g gd5⟩⟩
 ·have ei:i=items.length:=⋯
  subst ei;rw[ZU]at q3;exact .inl ⟨ok.stop H2 _ gd3,l.nx _ _ _ q3 g3 zd⟩
def q9(E:En):R->List Nat
 |.p _=>[]
 |.s j=>match E[j]? with
  |some (oZ (.o _ _))=>[j]
  |_=>[]
theorem oS:∀j∈q9 E r,∃k xs,E[j]?=oZ (oZ (U.o k xs)):=λj hj=>by
 cases r with
 |p _=>simp[q9]at hj
 |s m=>
  cases q:E[m]? with
  |none=>simp[q9,q]at hj
  |some u=>
   cases u with
   |none=>simp[q9,q]at hj
   |some u=>
    cases u with
    |p _=>simp[q9,q]at hj
    |o k xs=>simp[q9,q]at hj;subst hj;exact⟨k,xs,q⟩
theorem o7{B:jz->Prop}(re:RE K B H S E)(rr:RR K B H S E r v)(e:vl E r=oZ t)(O:jz->Prop)(hO:∀b,O b->Ow B S E b)(hu:∀j∈q9 E r,∀a,S[j]?=oZ (oZ (.ref a))->¬O a):Rp K H O t v:=by
 cases r with
 |p u=>cases e;exact Rp.step (Kp.less hO) rr
 |s j=>
  have rr':S[j]?=oZ (oZ v):=rr;cases q:E[j]? with
  |none=>simp only[vl,q]at e;cases e
  |some u=>
   cases u with
   |none=>simp only[vl,q]at e;cases e
   |some u=>
    cases u with
    |p u=>
     simp only[vl,q]at e;cases e;obtain⟨w,h1,h2⟩:=re.pure j _ q;rw[rr']at h1;cases h1;exact h2.step (Kp.less hO)
    |o k xs=>
     simp only[vl,q]at e;cases e;obtain⟨a,vs,h1,h2,h3,_⟩:=re.own j k xs q;rw[rr']at h1;cases h1;exact⟨a,vs,rfl,.inl ⟨hu j (by simp[q9,q]) a rr',.inl h2⟩,h3.step (Kp.less hO)⟩
theorem GD:Bf K (RF K p) xs (λH O=>Rp K H O (.lst xs) (.ref p)):=by
 refine⟨λH H' O O' k h=>Rp.step k h,λi H O h hi=>?_,λi H O x H' t h e _ y=>?_,λH O h=>?_⟩
 ·obtain⟨a,vs,e,sq,rs⟩:=h.sqL;cases e;exact⟨vs,vs[i]'(by rw[rs.length];exact hi),sq,WG _⟩
 ·obtain⟨e1,y⟩:=y;subst e1;obtain⟨a,vs,e2,sq,rs⟩:=h.sqL;cases e2;obtain⟨v,h1,h2⟩:=rs.get e;rw[y vs sq]at h1;cases h1;exact⟨Kp.refl _ _,λ_ _ z=>z,h2⟩
 ·obtain⟨a,vs,e,sq,rs⟩:=h.sqL;cases e;exact⟨vs,sq,by rw[rs.length];exact WO _⟩
theorem GH:Bf K (RG K p) xs (λH O=>Rp K H O (.tup xs) (.ref p)):=by
 refine⟨λH H' O O' k h=>Rp.step k h,λi H O h hi=>?_,λi H O x H' t h e _ y=>?_,λH O h=>?_⟩
 ·obtain⟨a,vs,e,sq,rs⟩:=h.sqT;cases e;exact⟨vs,vs[i]'(by rw[rs.length];exact hi),sq,WG _⟩
 ·obtain⟨e1,y⟩:=y;subst e1;obtain⟨a,vs,e2,sq,rs⟩:=h.sqT;cases e2;obtain⟨v,h1,h2⟩:=rs.get e;rw[y vs sq]at h1;cases h1;exact⟨Kp.refl _ _,λ_ _ z=>z,h2⟩
 ·obtain⟨a,vs,e,sq,rs⟩:=h.sqT;cases e;exact⟨vs,sq,by rw[rs.length];exact WO _⟩
def iY(lo:Int)(n:Nat):List T:=(XH n).map λ(i:Nat)=>T.int (lo+(i:Int))
theorem Lg{lo:Int}:(iY lo n).length=n:=by simp[iY]
theorem Zj{lo:Int}:Bf K (JW lo n) (iY lo n) (λ_ _=>True):=by
 refine⟨λ_ _ _ _ _ h=>h,λi H O _ hi=>by show i<n;simpa[iY]using hi,λi H O x H' t _ e _ y=>?_,λH O _=>by simp[JW,iY]⟩;obtain⟨e1,y⟩:=y;subst e1;subst y;unfold iY at e;rw[WH]at e;have hi:i<n:=by
  obtain c|c:=XQ i n
  ·exact c
  ·rw[YJ (by simpa using c)]at e;cases e
 rw[YW hi]at e;cases e;exact⟨Kp.refl _ _,λ_ _ z=>z,rfl⟩
theorem GC:Bf K (RD K p) (xs.zipIdx.map λq=>T.tup [.int (q.2:Int),q.1]) (λH O=>Rp K H O (.lst xs) (.ref p)):=by
 refine⟨λH H' O O' k h=>Rp.step k h,λi H O h hi=>?_,λi H O x H' t h e hO y=>?_,λH O h=>?_⟩
 ·obtain⟨a,vs,e,sq,rs⟩:=h.sqL;cases e;have zx:i<xs.length:=by simpa using hi
  exact⟨vs,vs[i]'(by rw[rs.length];exact zx),sq,WG _⟩
 ·obtain⟨pp,w,e1,hp,e2,y⟩:=y;subst e1;subst e2;obtain⟨a,vs,e3,sq,rs⟩:=h.sqL;cases e3;rw[WH]at e;cases q:xs.zipIdx[i]? with
  |none=>rw[q]at e;cases e
  |some z=>
   rw[q]at e;cases e;obtain⟨q1,q2⟩:=WE.mp q;have q1':i<xs.length:=by simpa using q1
   rw[fk]at q2;subst q2;obtain⟨v,h1,h2⟩:=rs.get (WG q1');rw[y vs sq]at h1;cases h1;have k:Kp O O H (upd H pp (.tup [.int (i:Int),w])):=Kp.upd hp;refine⟨k,λb o z=>by rw[bH (bB z hp)];exact z,pp,_,rfl,.inl ⟨λz=>hO pp z hp,cZ⟩,_,_,rfl,?_,w,[],rfl,h2.step k,rfl⟩;simp[Rp]
 ·obtain⟨a,vs,e,sq,rs⟩:=h.sqL;cases e;exact⟨vs,sq,by simp[rs.length]⟩
def iL(Fa:FE):FI:=λE Q=>Fa E λr E1=>match vl E1 r with
 |some (.lst xs)=>Q xs (q9 E1 r) E1
 |_=>False
def iT(Fa:FE):FI:=λE Q=>Fa E λr E1=>match vl E1 r with
 |some (.tup xs)=>Q xs [] E1
 |_=>False
theorem eF(eK:X.K=K)(hl:QE X l (aO K Fa)):QI X tg l (mD K (iL Fa)):=by
 subst eK;refine(Z5 hl).le λσ H R hn⟨B,S,E,Q',hS,re,hF,lk⟩=>⟨B,S,E,_,hS,re,hF,λr E1 v H1 S1 q g uk rr=>?_⟩;split at q
 ·rename_i xs e1;obtain⟨a,vs,e2,sq,rs⟩:=uk.vl rr e1;exact⟨a,e2,⟨vs,sq⟩,lk _ _ _ _ _ _ _ q g uk GD oS λO h1 h2=>by rw[<-e2];exact o7 uk rr e1 O h1 h2⟩
 ·exact q.elim
theorem FR(eK:X.K=K)(hl:QE X l (aO K Fa)):QI X tg l (mD K (iT Fa)):=by
 subst eK;refine(IY hl).le λσ H R hn⟨B,S,E,Q',hS,re,hF,lk⟩=>⟨B,S,E,_,hS,re,hF,λr E1 v H1 S1 q g uk rr=>?_⟩;split at q
 ·rename_i xs e1;obtain⟨a,vs,e2,sq,rs⟩:=uk.vl rr e1;refine⟨a,e2,⟨vs,sq⟩,lk _ _ _ _ _ _ _ q g uk GH (λj hj=>absurd hj (by simp)) λO h1 h2=>?_⟩;rw[<-e2];refine o7 uk rr e1 O h1 λj hj=>?_;cases r with
  |p _=>simp[q9]at hj
  |s m=>
   cases q2:E1[m]? with
   |none=>simp only[vl,q2]at e1;cases e1
   |some u=>
    cases u with
    |none=>simp only[vl,q2]at e1;cases e1
    |some u=>
     cases u with
     |p u=>simp[q9,q2]at hj
     |o k ys=>simp only[vl,q2]at e1;cases e1
 ·exact q.elim
def VR(Fr:FA):FI:=λE Q=>Fr E λrs E1=>match rs with
 |[x]=>i1 (vl E1 x) λj=>(-(2^62)<=j/\j<2^62)/\Q (iY 0 j.toNat) [] E1
 |_=>False
def VS(Fr:FA):FI:=λE Q=>Fr E λrs E1=>match rs with
 |[x,y]=>i2 (vl E1 x) (vl E1 y) λi j=>(-(2^62)<=i/\i<2^62/\-(2^62)<=j/\j<2^62)/\Q (iY i (j-i).toNat) [] E1
 |_=>False
theorem gF(hg:Gl X "range")(hm:X.mg "range" = none)(ha:QA X [a] (dB K n Fr))(hs:bG a=false:=by rfl):QI X tg (.Call (.Name "range" p) [a] [] pos) (mD K (VR Fr)):=by
 refine(Wq hg hm ha hs).le λσ H R hn⟨B,S,E,Q',hS,re,hF,lk⟩=>⟨B,S,E,_,hS,re,hF,λrs E1 vs H1 S1 q g uk rr hn=>?_⟩;obtain _|⟨x,_|⟨_,_⟩⟩:=rs
 ·exact False.elim q
 ·obtain⟨v,ws,e1,h1,h2⟩:=rr;cases h2;subst e1;obtain⟨j,e2,c,q⟩:=i1.ex q;exact⟨j,by rw[uk.int h1 e2],c.1,c.2,lk _ _ _ _ _ _ _ q g uk Zj (λj hj=>absurd hj (by simp)) λ_ _ _=>trivial⟩
 ·exact False.elim q
theorem Df(hg:Gl X "range")(hm:X.mg "range" = none)(ha:QA X [a,b] (dB K n Fr))(hs:bG a=false:=by rfl)(hs2:bG b=false:=by rfl):QI X tg (.Call (.Name "range" p) [a,b] [] pos) (mD K (VS Fr)):=by
 refine(Wr hg hm ha hs hs2).le λσ H R hn⟨B,S,E,Q',hS,re,hF,lk⟩=>⟨B,S,E,_,hS,re,hF,λrs E1 vs H1 S1 q g uk rr hn=>?_⟩;obtain _|⟨x,_|⟨y,_|⟨_,_⟩⟩⟩:=rs
 ·exact False.elim q
 ·exact False.elim q
 ·obtain⟨v,ws,e1,h1,w,ws',e2,h2,h3⟩:=rr;cases h3;subst e2;subst e1;obtain⟨i,j,e3,e4,c,q⟩:=i2.ex q;exact⟨i,j,by rw[uk.int h1 e3,uk.int h2 e4],c,lk _ _ _ _ _ _ _ q g uk Zj (λj hj=>absurd hj (by simp)) λ_ _ _=>trivial⟩
 ·exact False.elim q
def iE(Fr:FA):FI:=λE Q=>Fr E λrs E1=>match rs with
 |[r]=>(match vl E1 r with
  |some (.lst xs)=>Q (xs.zipIdx.map λq=>T.tup [.int (q.2:Int),q.1]) (q9 E1 r) E1
  |_=>False)
 |_=>False
theorem T6{x1}(eK:X.K=K)(hg:Gl X "enumerate")(hm:X.mg "enumerate" = none)(ha:QA X [a] (dB K n Fr))(hs:bG a=false:=by rfl):QI X (.Tuple elts x1 yg) (.Call (.Name "enumerate" p) [a] [] pos) (mD K (iE Fr)):=by
 subst eK;refine(Z4 hg hm ha hs).le λσ H R hn⟨B,S,E,Q',hS,re,hF,lk⟩=>⟨B,S,E,_,hS,re,hF,λrs E1 vs H1 S1 q g uk rr hn=>?_⟩;obtain _|⟨r,_|⟨_,_⟩⟩:=rs
 ·exact False.elim q
 ·obtain⟨v,ws,e1,h1,h2⟩:=rr;cases h2;subst e1;simp only at q;split at q
  ·rename_i xs e1;obtain⟨a,vs,e2,sq,rs⟩:=uk.vl h1 e1;exact⟨a,by rw[e2],⟨vs,sq⟩,lk _ _ _ _ _ _ _ q g uk GC oS λO k1 k2=>by rw[<-e2];exact o7 uk h1 e1 O k1 k2⟩
  ·exact q.elim
 ·exact False.elim q
end
mutual
def noL:T->Bool
 |.lst _=>false
 |.tup xs=>bX xs
 |_=>true
def bX:List T->Bool
 |[]=>true
 |x::xs=>noL x&&bX xs
end
def j9(H:Hp)(a:jz):Prop:=∃ws,H a=oZ (.lst ws)
section
variable{K:W.Frag}{H:Hp}{O O':jz->Prop}
mutual
theorem Rp.noL(hO:∀a,O' a->j9 H a):∀{t:T}{v:V},L2.noL t=true->Rp K H O t v->Rp K H O' t v
 |.non,_,_,h=>h
 |.bl _,_,_,h=>h
 |.int _,_,_,h=>h
 |.str _,_,_,h=>h
 |.lst _,_,e,_=>by simp[L2.noL]at e
 |.tup xs,v,e,h=>by
  obtain⟨a,vs,e1,h1,h2⟩:=h;refine⟨a,vs,e1,h1.imp (λ⟨_,h⟩=>⟨λz=>?_,h⟩) id,dN.noL hO (by simpa[L2.noL]using e) h2⟩;obtain⟨ws,q⟩:=hO a z;rw[h]at q;cases q
theorem dN.noL(hO:∀a,O' a->j9 H a):∀{xs:List T}{vs:List V},bX xs=true->dN K H O xs vs->dN K H O' xs vs
 |[],_,_,h=>h
 |x::xs,vs,e,h=>by
  obtain⟨v,r,e1,h1,h2⟩:=h;have e':L2.noL x=true/\bX xs=true:=by simpa[bX]using e
  exact⟨v,r,e1,Rp.noL hO e'.1 h1,dN.noL hO e'.2 h2⟩
end
end
theorem RE.push{K:W.Frag}{B:jz->Prop}{H':Hp}{S:St}{E:En}(re:RE K B H' S E){a:jz}{ts:List T}{vs:List V}(ha:H' a=oZ (.lst vs))(hn:¬Ow B S E a)(hb:¬B a)(hp:∀(i:Nat)(t:T),E[i]?=oZ (oZ (.p t))->∃v,S[i]?=oZ (oZ v)/\Rp K H' (λb=>Ow B S E b\/b=a) t v)(ho:∀(i:Nat)(k:Bool)(xs:List T),E[i]?=oZ (oZ (.o k xs))->∃b ws,S[i]?=oZ (oZ (.ref b))/\H' b=oZ (.lst ws)/\dN K H' (λb=>Ow B S E b\/b=a) xs ws)(h:dN K H' (λb=>Ow B S E b\/b=a) ts vs):
  RE K B H' (S++[oZ (.ref a)]) (E++[oZ (.o false ts)])/\∀b,Ow B (S++[oZ (.ref a)]) (E++[oZ (.o false ts)]) b->Ow B S E b\/b=a:=by
 have gE:∀{i:Nat}{u:U},(E++[oZ (.o false ts)])[i]?=oZ (oZ u)->(E[i]?=oZ (oZ u)/\i<E.length)\/(i=E.length/\u = .o false ts):=λ{i u}h=>by
  obtain⟨c,h⟩|⟨c,h⟩:=Kb h
  ·exact .inl ⟨h,c⟩
  ·exact .inr ⟨c,Option.some.inj h⟩
 have gS:∀{i:Nat}{x:Option V},S[i]?=oZ x->(S++[oZ (.ref a)])[i]?=oZ x:=λ{i x}h=>iX ⟨_,rfl⟩ h;have gS':∀{i:Nat}{x:Option V},i<E.length->(S++[oZ (.ref a)])[i]?=oZ x->S[i]?=oZ x:=λ{i x}c h=>by
  rw[XJ (by rw[re.len];exact c)]at h;exact h
 have lS:(S++[oZ (.ref a)])[E.length]?=oZ (oZ (.ref a)):=by rw[<-re.len];simp
 have ow:∀b,Ow B (S++[oZ (.ref a)]) (E++[oZ (.o false ts)]) b->Ow B S E b\/b=a:=λb z=>by
  obtain z|⟨i,k,xs,h1,h2⟩:=z
  ·exact .inl (.inl z)
  obtain⟨h1,c⟩|⟨c,h1⟩:=gE h1
  ·exact .inl (.inr ⟨i,k,xs,h1,gS' c h2⟩)
  ·subst c;rw[lS]at h2;cases h2;exact .inr rfl
 have kl:Kp (λb=>Ow B S E b\/b=a) (Ow B (S++[oZ (.ref a)]) (E++[oZ (.o false ts)])) H' H':=Kp.less ow;refine⟨⟨by simp[re.len],λi t h=>?_,λi l xs h=>?_,λi j l m xs ys b h1 h2 h3 h4=>?_,re.bd⟩,ow⟩
 ·obtain⟨h,c⟩|⟨c,h⟩:=gE h
  ·obtain⟨v,h1,h2⟩:=hp i t h;exact⟨v,gS h1,h2.step kl⟩
  ·cases h
 ·obtain⟨h,c⟩|⟨c,h⟩:=gE h
  ·obtain⟨b,ws,h1,h2,h3⟩:=ho i l xs h;obtain⟨b',_,q1,_,_,q4⟩:=re.own i l xs h;rw[h1]at q1;cases q1;exact⟨b,ws,gS h1,h2,h3.step kl,q4⟩
  ·cases h;subst c;exact⟨a,vs,lS,ha,dN.step kl (by assumption),⟨λz=>absurd z ∅,λz=>absurd z hb⟩⟩
 ·obtain⟨h1,c1⟩|⟨c1,h1⟩:=gE h1
  ·obtain⟨h2,c2⟩|⟨c2,h2⟩:=gE h2
   ·exact re.inj i j l m xs ys b h1 h2 (gS' c1 h3) (gS' c2 h4)
   ·subst c2;rw[lS]at h4;cases h4;exact absurd (.inr ⟨i,l,xs,h1,gS' c1 h3⟩) hn
  ·obtain⟨h2,c2⟩|⟨c2,h2⟩:=gE h2
   ·subst c1;rw[lS]at h3;cases h3;exact absurd (.inr ⟨j,m,ys,h2,gS' c2 h4⟩) hn
   ·rw[c1,c2]
theorem RE.pad{K:W.Frag}{B:jz->Prop}{H:Hp}{S:St}{E:En}(re:RE K B H S E)(n:Nat):RE K B H (S++WN n none) (E++WN n none)/\(∀b,Ow B (S++WN n none) (E++WN n none) b->Ow B S E b):=by
 have gE:∀{i:Nat}{u:U},(E++WN n none)[i]?=oZ (oZ u)->E[i]?=oZ (oZ u)/\i<E.length:=λ{i u}h=>by
  obtain c|c:=XQ i E.length
  ·rw[XJ c]at h;exact⟨h,c⟩
  ·rw[XO c]at h;have:=WI h;rw[List.mem_replicate]at this;cases this.2
 have gS:∀{i:Nat}{x:Option V},S[i]?=oZ x->(S++WN n none)[i]?=oZ x:=λ{i x}h=>iX ⟨_,rfl⟩ h;have gS':∀{i:Nat}{x:Option V},i<E.length->(S++WN n none)[i]?=oZ x->S[i]?=oZ x:=λ{i x}c h=>by
  rw[XJ (by rw[re.len];exact c)]at h;exact h
 have ow:∀b,Ow B (S++WN n none) (E++WN n none) b->Ow B S E b:=λb z=>z.imp id λzZ=>by obtain⟨i,k,xs,h1,h2⟩:=zZ;exact⟨i,k,xs,(gE h1).1,gS' (gE h1).2 h2⟩
 have kl:Kp (Ow B S E) (Ow B (S++WN n none) (E++WN n none)) H H:=Kp.less ow;refine⟨⟨by simp[re.len],λi t h=>?_,λi l xs h=>?_,λi j l m xs ys b h1 h2 h3 h4=>?_,re.bd⟩,ow⟩
 ·obtain⟨v,h1,h2⟩:=re.pure i t (gE h).1;exact⟨v,gS h1,h2.step kl⟩
 ·obtain⟨b,ws,h1,h2,h3,h4⟩:=re.own i l xs (gE h).1;exact⟨b,ws,gS h1,h2,h3.step kl,h4⟩
 ·exact re.inj i j l m xs ys b (gE h1).1 (gE h2).1 (gS' (gE h1).2 h3) (gS' (gE h2).2 h4)
inductive A where
 |v (t:T)|b (xs:List T)
inductive RV where
 |v (t:T)|l (xs:List T)
abbrev dG:=List A->(RV->List T->Prop)->Prop
def lD:List A->En
 |[]=>[]
 |.v t::r=>oZ (.p t)::lD r
 |.b xs::r=>oZ (.o true xs)::lD r
theorem fD:∀{as:List A},(lD as).length=as.length
 |[]=>rfl
 |.v t::r=>by simp[lD,fD (as:=r)]
 |.b t::r=>by simp[lD,fD (as:=r)]
def kW:List A->Option Nat
 |[]=>none
 |.b _::_=>oZ 0
 |.v _::r=>(kW r).map (· + 1)
def QP(K:W.Frag)(H H':Hp):RV->V->Prop
 |.v t,v=>Rp K H' (j9 H) t v
 |.l xs,v=>∃a ws,v = .ref a/\H a=none/\H' a=oZ (.lst ws)/\dN K H' (λb=>j9 H b\/b=a) xs ws
def aJ(K:W.Frag)(S:dG):Sp:=λvs H Q _=>∃(as:List A)(Q':RV->List T->Prop)(bx:Option jz),RE K (λa=>bx=oZ a) H (vs.map oZ) (lD as)/\(kW as=none->bx=none)/\S as Q'/\
 ∀r xs v H',Q' r xs->(∀b o,H b=oZ o->bx≠oZ b->H' b=oZ o)->(∀a,bx=oZ a->∃ws,H' a=oZ (.lst ws)/\dN K H' (j9 H') xs ws)->QP K H H' r v->Q v H'
def zB(as:List A)(E:En):Option (List T):=match kW as with
 |none=>oZ []
 |some j=>match E[j]? with
  |some (oZ (.o true xs))=>if bX xs=true then oZ xs else none
  |_=>none
def LK(as:List A)(Q:RV->List T->Prop):ET where
 nx:=λE=>o1 (zB as E) λxs=>Q (.v .non) xs
 rt:=λr E=>o1 (zB as E) λxs=>match r with
  |.p t=>noL t=true/\Q (.v t) xs
  |.s i=>match E[i]? with
   |some (oZ (.o false ys))=>bX ys=true/\Q (.l ys) xs
   |some (oZ (.p t))=>noL t=true/\Q (.v t) xs
   |_=>False
theorem y9:∀{as:List A}{j:Nat}{k:Bool}{xs:List T},kW as=none->(lD as)[j]?≠oZ (oZ (.o k xs))
 |[],j,_,_,_,h=>by simp[lD]at h
 |.b _::_,_,_,_,e,_=>by cases e
 |.v _::r,j,k,xs,e,h=>by
  have e':kW r=none:=by
   cases q:kW r with
   |none=>rfl
   |some m=>rw[kW,q]at e;cases e
  cases j with
  |zero=>simp[lD]at h
  |succ m=>exact y9 (j:=m) e' (by simpa[lD]using h)
theorem Rl:∀{as:List A}{j:Nat}{k:Bool}{xs:List T},(lD as)[j]?=oZ (oZ (.o k xs))->k=true
 |[],j,_,_,h=>by simp[lD]at h
 |.b _::_,0,_,_,h=>by simp[lD]at h;exact h.1
 |.v _::_,0,_,_,h=>by simp[lD]at h
 |.b _::r,j+1,_,_,h=>Rl (as:=r) (j:=j) (by simpa[lD]using h)
 |.v _::r,j+1,_,_,h=>Rl (as:=r) (j:=j) (by simpa[lD]using h)
theorem cK.okT{P:kg}{w:ko}{K:W.Frag}{mg:Str->Option oA}{base:oE}{x qual:Str}{st:ki}{f:jz}{fd:mf}{N ps:List Str}{k:Nat}{S:dG}{F:FS}(Fn:cK K x qual st f fd)(Sc:aF N ps (aC st))(len:∀as Q,S as Q->as.length=ps.length)(hb:∀(wj:oA)(A:oD)(outer:List Env)(s:oB)(H:Hp)(E:XK),d5 k (A.deeper (ph qual (aC st) s.heap.objs.size f wj))->QB (zE cM P w K mg base N qual (aC st) f wj A outer s H E).nox (c7 st) (jD K F))(hF:∀as Q,S as Q->F (LK as Q) (lD as++WN (N.length-as.length) none)):(~~~aV) cM (k+1) f fd ps (aJ K S):=by
 refine Fn.okQ Sc (λvs H Q E⟨as,Q',bx,re,hbn,hS,l⟩=>?_) (λwj A outer s H vs Q E hr⟨as,Q',bx,re,hbn,hS,l⟩=>?_)
 ·have:=re.len;rw[WJ,fD]at this;rw[this];exact len as Q' hS
 have hl:vs.length=as.length:=by have:=re.len;rwa [WJ,fD]at this
 refine⟨_,hb wj A outer s H E hr,?_⟩;obtain⟨re0,ow0⟩:=re.pad (N.length-as.length);have hst:lC N vs=vs.map oZ++WN (N.length-as.length) none:=by unfold lC;rw[hl]
 rw[hst]
 -- the box's address
 have aD4:∀b,Ow (λa=>bx=oZ a) (vs.map oZ) (lD as) b->bx=oZ b:=λb z=>by
  obtain z|⟨i,kk,xs,h1,h2⟩:=z
  ·exact z
  obtain⟨a,ws,q1,_,_,q4⟩:=re.own i kk xs h1;rw[h2]at q1;cases q1;exact q4.mp (Rl h1)
 have fr:∀{H':Hp}{S':St}{E':En},Gs (λa=>bx=oZ a) H (vs.map oZ++WN (N.length-as.length) none) (lD as++WN (N.length-as.length) none) H' S' E'->∀b o,H b=oZ o->bx≠oZ b->H' b=oZ o:=λg b o h n=>g.keep b o h λz=>n (aD4 b (ow0 b z));have fin:∀{r:RV}{xs:List T}{v:V}{H':Hp}{S':St}{E':En},zB as E'=oZ xs->Q' r xs->Gs (λa=>bx=oZ a) H (vs.map oZ++WN (N.length-as.length) none) (lD as++WN (N.length-as.length) none) H' S' E'->RE K (λa=>bx=oZ a) H' S' E'->
   ((∀a,j9 H a->j9 H' a)->QP K H H' r v)->Q v H':=λ{r xs v H' S' E'}e q g ui hr=>by
  have hbx:∀a,bx=oZ a->∃ws,H' a=oZ (.lst ws)/\dN K H' (j9 H') xs ws:=λa ha=>by
   unfold zB at e;cases qb:kW as with
   |none=>
    rw[qb]at e;cases e;rw[hbn qb]at ha;cases ha
   |some j=>
    rw[qb]at e;simp only at e;split at e
    ·rename_i ys hE;split at e
     ·cases e;rename_i hnl;obtain⟨b,ws,h1,h2,h3,h4⟩:=ui.own j true xs hE;have:bx=oZ b:=h4.mp rfl;rw[ha]at this;cases this;exact⟨ws,h2,dN.noL (λ_ z=>z) hnl h3⟩
     ·cases e
    ·cases e
  refine l r xs v H' q (fr g) hbx (hr λa zZ=>?_);obtain⟨ws,ha⟩:=zZ
  by_cases c:bx=oZ a
  ·obtain⟨ws',h,_⟩:=hbx a c;exact⟨ws',h⟩
  ·exact⟨ws,fr g a _ ha c⟩
 refine⟨_,_,_,re0,hF as Q' hS,⟨λσ' H' E' q g ui=>?_,λr E' v H' S' q g ui rr=>?_,λ_ _ _ z=>z.elim,λ_ _ _ z=>z.elim⟩⟩
 ·obtain⟨xs,e,q⟩:=q.ex;exact fin e q g ui λ_=>rfl
 ·obtain⟨xs,e,q⟩:=q.ex;cases r with
  |p t=>exact fin e q.2 g ui λh=>Rp.noL h q.1 rr
  |s i=>
   simp only at q;split at q
   ·rename_i ys hE;refine fin e q.2 g ui λh=>?_;obtain⟨b,ws,h1,h2,h3,h4⟩:=ui.own i false ys hE;have rr':S'[i]?=oZ (oZ v):=rr;rw[rr']at h1;cases h1;refine⟨b,ws,rfl,?_,h2,dN.noL (λa z=>?_) q.1 h3⟩
    ·obtain z|z:=g.new b (.inr ⟨i,false,ys,hE,rr'⟩)
     ·have:=h4.mpr (aD4 b (ow0 b z));cases this
     ·exact z
    ·obtain z|z:=z
     ·exact h a z
     ·exact⟨ws,by rw[z];exact h2⟩
   ·rename_i t hE;obtain⟨w,h1,h2⟩:=ui.pure i t hE;have rr':S'[i]?=oZ (oZ v):=rr;rw[rr']at h1;cases h1;exact fin e q.2 g ui λh=>Rp.noL h q.1 h2
   ·exact q.elim
def Zw(E:En):List R->Option (List T)
 |[]=>oZ []
 |r::rs=>match vl E r,Zw E rs with
  |some t,oZ ts=>oZ (t::ts)
  |_,_=>none
def told(E:En)(Q:R->En->Prop):RV->Prop
 |.v t=>Q (.p t) E
 |.l xs=>Q (.s E.length) (E++[oZ (.o false xs)])
def Ju(S:dG)(Fr:FA):FE:=λE Q=>Fr E λrs E1=>o1 (Zw E1 rs) λts=>S (ts.map A.v) λr _=>told E1 Q r
def Yh(S:dG)(Fr:FA):FE:=λE Q=>Fr E λrs E1=>match rs with
 |.s j::rs=>(match E1[j]? with
  |some (oZ (.o k xs))=>cond (rs.all λr=>!(q9 E1 r).contains j) (o1 (Zw E1 rs) λts=>S (.b xs::ts.map A.v) λr ys=>told (E1.set j (oZ (.o k ys))) Q r) False
  |_=>False)
 |_=>False
theorem Gj{K:W.Frag}{B:jz->Prop}{H:Hp}{S:St}{E:En}(re:RE K B H S E):∀{rs:List R}{vs:List V}{ts:List T},Ul K B H S E rs vs->Zw E rs=oZ ts->∀(O:jz->Prop),(∀b,O b->Ow B S E b)->(∀r∈rs,∀j∈q9 E r,∀a,S[j]?=oZ (oZ (.ref a))->¬O a)->dN K H O ts vs
 |[],_,_,h,e,_,_,_=>by cases e;exact h
 |r::rs,_,ts,⟨v,ws,e1,h1,h2⟩,e,O,hO,hu=>by
  cases q1:vl E r with
  |none=>simp only[Zw,q1]at e;cases e
  |some t=>
   cases q2:Zw E rs with
   |none=>simp only[Zw,q1,q2]at e;cases e
   |some us=>
    simp only[Zw,q1,q2]at e;cases e;exact⟨v,ws,e1,o7 re h1 q1 O hO (hu r (by simp)),Gj re h2 q2 O hO λr' hr=>hu r' (by simp[hr])⟩
theorem zG:∀{ts:List T},lD (ts.map A.v)=ts.map λt=>oZ (U.p t)
 |[]=>rfl
 |t::ts=>by simp[lD,zG (ts:=ts)]
theorem Et:∀{ts:List T},kW (ts.map A.v)=none
 |[]=>rfl
 |t::ts=>by simp[kW,Et (ts:=ts)]
theorem Il{K:W.Frag}{B:jz->Prop}{H:Hp}{H':Hp}{S:St}{E:En}{E':En}(re:RE K B H S E)(ui:RE K B H' S E')(hk:∀b o,H b=oZ o->¬Ow B S E b->H' b=oZ o)(hw:∀b,Ow B S E' b->Ow B S E b)(hE:∀(i:Nat)(k:Bool)(xs:List T),E'[i]?=oZ (oZ (.o k xs))->(E[i]?=oZ (oZ (.o k xs))/\∀a,S[i]?=oZ (oZ (.ref a))->H' a=H a)\/∀a ws,S[i]?=oZ (oZ (.ref a))->H' a=oZ (.lst ws)->dN K H' (j9 H') xs ws)(hP:∀(i:Nat)(t:T),E'[i]?=oZ (oZ (.p t))->E[i]?=oZ (oZ (.p t))){r:RV}{v:V}(rv:QP K H H' r v){Q:R->En->Prop}(q:told E' Q r){Qv:VK}(lk:Lk K B H S E Q Qv):Qv v H':=by
 have kp:Kp (Ow B S E) (Ow B S E') H H':=⟨hk,λb z=>.inl (hw b z)⟩;cases r with
 |v t=>exact lk _ _ _ _ _ q ⟨kp,[],by simp⟩ ui (Rp.step (Kp.less λb z=>re.ow (hw b z)) rv)
 |l xs=>
  obtain⟨a,ws,rfl,h1,h2,h3⟩:=rv;have nOw:¬Ow B S E' a:=λz=>re.nn h1 (hw a z);have nB:¬B a:=λz=>re.nn h1 (.inl z);have kp2:Kp (Ow B S E) (λb=>Ow B S E' b\/b=a) H H':=⟨hk,λb z=>by
   obtain z|z:=z
   ·exact .inl (hw b z)
   ·exact .inr (by rw[z];exact h1)⟩
  obtain⟨r1,r2⟩:=ui.push h2 nOw nB (λi t h=>by
    obtain⟨w,q1,q2⟩:=re.pure i t (hP i t h);exact⟨w,q1,q2.step kp2⟩) (λi k ys h=>by
    obtain⟨b,us,q1,q2,q3,_⟩:=ui.own i k ys h;refine⟨b,us,q1,q2,?_⟩;obtain⟨z,zz⟩|z:=hE i k ys h
    ·obtain⟨b',us',p1,p2,p3,_⟩:=re.own i k ys z;rw[q1]at p1;cases p1;have e:=zz b q1;rw[q2,p2]at e;cases e;exact p3.step kp2
    ·exact(z b us q1 q2).step (Kp.less λc hc=>by
      obtain hc|hc:=hc
      ·exact ui.ow hc
      ·exact⟨ws,by rw[hc];exact h2⟩)) (h3.step (Kp.less λb z=>by
    obtain z|z:=z
    ·exact .inl (re.ow (hw b z))
    ·exact .inr z))
  refine lk _ _ _ _ _ q ⟨⟨hk,λb z=>?_⟩,[oZ (.ref a)],rfl⟩ r1 ?_
  ·obtain z|z:=r2 b z
   ·exact .inl (hw b z)
   ·exact .inr (by rw[z];exact h1)
  ·show(S++[oZ (V.ref a)])[E'.length]?=_;rw[<-ui.len];simp
theorem Jf{K:W.Frag}{Fr:FA}{n:Nat}{S:dG}{σ:St}{H:Hp}{Q:VK}(h:aO K (Ju S Fr) σ H Q):Ly (aJ K S) [] E0 (dB K n Fr) σ H Q:=by
 refine args (Fr:=Fr) h λB S' E rs vs H2 Q' hS re rr hn q lk=>?_;obtain⟨ts,e1,q⟩:=q.ex;rw[XW];have rp:=Gj re rr e1 (λ_=>False) (λ_ z=>z.elim) (λ_ _ _ _ _ _ z=>z);have no:∀b,¬Ow (λa=>(none:Option jz)=oZ a) (vs.map oZ) (ts.map λt=>oZ (U.p t)) b:=λb z=>by
  obtain z|⟨i,k,xs,h1,_⟩:=z
  ·cases z
  rw[WH]at h1;cases q:ts[i]? with
  |none=>rw[q]at h1;cases h1
  |some t=>rw[q]at h1;cases h1
 refine⟨ts.map A.v,_,none,?_,λ_=>rfl,q,λr xs v H' q2 fr _ rv=>?_⟩
 ·rw[zG];refine⟨by simp[rp.length],λi t h=>?_,λi k xs h=>?_,λi j k l xs ys a h _ _ _=>?_,λa z=>by cases z⟩
  ·rw[WH]at h;cases q:ts[i]? with
   |none=>rw[q]at h;cases h
   |some u=>
    rw[q]at h;cases h;obtain⟨v,h1,h2⟩:=rp.get q;exact⟨v,by rw[WH,h1];rfl,h2.step (Kp.less λb z=>no b z)⟩
  ·rw[WH]at h;cases q:ts[i]? with
   |none=>rw[q]at h;cases h
   |some t=>rw[q]at h;cases h
  ·rw[WH]at h;cases q:ts[i]? with
   |none=>rw[q]at h;cases h
   |some t=>rw[q]at h;cases h
 ·have same:∀b o,H2 b=oZ o->H' b=oZ o:=λb o z=>fr b o z (by intro z;cases z);exact Il re (re.kept same) (λb o z _=>same b o z) (λb z=>z) (λi k xs h=>.inl ⟨h,λa ha=>by
   obtain⟨a',ws,h1,h2,_⟩:=re.own i k xs h;rw[ha]at h1;cases h1;rw[h2];exact same _ _ h2⟩) (λi t h=>h) rv q2 lk
theorem yB{X:Cx}{K:W.Frag}{pos:Pos}{e:oC}{es:List oC}{Fr:FA}{n k j:Nat}{x:Str}{ps:List Str}{S:dG}{p:Pos}(F:Fn X.prog X.w X.K X.mg X.base k x ps (aJ K S))(hr:d5 j X.A)(hk:k<=j)(hg:Gl X x)(ha:QA X (e::es) (dB K n Fr))(yt:(x==("__debug__":Str))=false:=by decide)(hs:b8 (e::es)=true:=by rfl):QE X (.Call (.Name x p) (e::es) [] pos) (aO K (Ju S Fr)):=(vV F hr hk hg ha yt hs).le λ_ _ _ _ h=>Jf h
theorem iQ{X:Cx}{K:W.Frag}{pos:Pos}{e:oC}{es:List oC}{Fr:FA}{n k j:Nat}{x:Str}{ps:List Str}{S:dG}{p:Pos}(F:Fn X.prog X.w X.K X.mg X.base k x ps (aJ K S))(hr:d5 j X.A)(hk:k<=j)(hg:Gl X x)(ha:QA X (e::es) (dB K n Fr))(yt:(x==("__debug__":Str))=false:=by decide)(hs:b8 (e::es)=true:=by rfl):QE X (.Call (.Name x p) (e::es) [] pos) (aO K (Yh S Fr)):=by
 refine(vV F hr hk hg ha yt hs).le λσ H Q hl h=>args (Fr:=Fr) h λB S' E rs vs H2 Q' hS re rr hn q lk=>?_;rw[XW];split at q
 ·rename_i jb rs';split at q
  ·rename_i kb xs hE;cases qc:(rs'.all λr=>!(q9 E r).contains jb)with
   |false=>rw[qc]at q;exact q.elim
   |true=>
    rw[qc]at q;obtain⟨ts,e1,q⟩:=o1.ex q;obtain⟨v0,ws,e2,h0,h2⟩:=rr;subst e2;have h0':S'[jb]?=oZ (oZ v0):=h0;obtain⟨a0,us,k1,k2,k3,k4⟩:=re.own jb kb xs hE;rw[h0']at k1;cases k1;have ow0:Ow B S' E a0:=.inr ⟨jb,kb,xs,hE,h0'⟩;have rp:=Gj re h2 e1 (λb=>b=a0) (λb z=>by rw[z];exact ow0) (λr hr m hm a hma z=>by
     subst z;have c:=ZK.mp qc r hr;have:m=jb:=by
      cases r with
      |p _=>simp[q9]at hm
      |s l=>
       cases ql:E[l]? with
       |none=>simp[q9,ql]at hm
       |some u=>
        cases u with
        |none=>simp[q9,ql]at hm
        |some u=>
         cases u with
         |p _=>simp[q9,ql]at hm
         |o kk zs=>
          simp[q9,ql]at hm;subst hm;exact re.inj _ _ kk kb zs xs a ql hE hma h0'
     subst this;have hc:(q9 E r).contains m=true:=by simpa using hm
     rw[hc]at c;cases c)
    have get:∀{i:Nat}{u:U},(oZ (U.o true xs)::ts.map λt=>oZ (U.p t))[i]?=oZ (oZ u)->(i=0/\u = .o true xs)\/∃m t,i=m+1/\ts[m]?=oZ t/\u = .p t:=λ{i u}h=>by
     cases i with
     |zero=>simp at h;exact .inl ⟨rfl,h.symm⟩
     |succ m=>
      rw[ZY,WH]at h;cases q:ts[m]? with
      |none=>rw[q]at h;cases h
      |some t=>rw[q]at h;cases h;exact .inr ⟨m,t,rfl,q,rfl⟩
    have ow:∀b,Ow (λa=>oZ a0=oZ a) ((V.ref a0::ws).map oZ) (oZ (U.o true xs)::ts.map λt=>oZ (U.p t)) b->b=a0:=λb z=>by
     obtain z|⟨i,k,ys,h1,h3⟩:=z
     ·cases z;rfl
     obtain⟨c,z⟩|⟨m,t,_,_,z⟩:=get h1
     ·subst c;simp at h3;exact h3.symm
     ·cases z
    have nb:kW (A.b xs::ts.map A.v)≠none:=by intro z;cases z
    refine⟨A.b xs::ts.map A.v,_,oZ a0,?_,λz=>absurd z nb,q,λr ys v H' q2 fr bxk rv=>?_⟩
    ·have ee:lD (A.b xs::ts.map A.v)=oZ (U.o true xs)::ts.map λt=>oZ (U.p t):=by simp[lD,zG]
     rw[ee];refine⟨by simp[rp.length],λi t h=>?_,λi k zs h=>?_,λi j k l zs ys a h1 h3 _ _=>?_,λa z=>by cases z;exact⟨us,k2⟩⟩
     ·obtain⟨_,z⟩|⟨m,t',e,q3,z⟩:=get h
      ·cases z
      ·cases z;subst e;obtain⟨v,h1,h2⟩:=rp.get q3;exact⟨v,by simp[h1],h2.step (Kp.less λb z=>ow b z)⟩
     ·obtain⟨c,z⟩|⟨m,t',e,q3,z⟩:=get h
      ·cases z;subst c;exact⟨a0,us,by simp,k2,k3.step (Kp.less λb z=>by rw[ow b z];exact ow0),⟨λ_=>rfl,λ_=>rfl⟩⟩
      ·cases z
     ·obtain⟨c,z⟩|⟨m,t',e,q3,z⟩:=get h1
      ·obtain⟨c',z'⟩|⟨m,t',e,q3,z'⟩:=get h3
       ·rw[c,c']
       ·cases z'
      ·cases z
    ·obtain⟨ws',b1,b2⟩:=bxk a0 rfl;have hk:∀b o,H2 b=oZ o->¬Ow B S' E b->H' b=oZ o:=λb o z n=>fr b o z (by intro c;cases c;exact n ow0);have lts:∀b,Ow B S' E b->j9 H' b:=λb z=>by
      by_cases c:b=a0
      ·subst c;exact⟨ws',b1⟩
      ·obtain⟨us',e⟩:=re.ow z;exact⟨us',fr b _ e (by intro z;cases z;exact c rfl)⟩
     have aBO:∀{i:Nat}{u:U},(E.set jb (oZ (.o kb ys)))[i]?=oZ (oZ u)->(i=jb/\u = .o kb ys)\/(i≠jb/\E[i]?=oZ (oZ u)):=λ{i u}h=>by
      by_cases c:i=jb
      ·subst c;rw[XN (WE.mp hE).1]at h;cases h;exact .inl ⟨rfl,rfl⟩
      ·rw[XD (λz=>c z.symm)]at h;exact .inr ⟨c,h⟩
     have kp:Kp (Ow B S' E) (Ow B S' E) H2 H':=⟨hk,λb z=>.inl z⟩;have owE:∀b,Ow B S' (E.set jb (oZ (.o kb ys))) b->Ow B S' E b:=λb z=>by
      obtain z|⟨i,k,zs,z1,z2⟩:=z
      ·exact .inl z
      obtain⟨c,z⟩|⟨c,z⟩:=aBO z1
      ·subst c;exact .inr ⟨_,kb,xs,hE,z2⟩
      ·exact .inr ⟨i,k,zs,z,z2⟩
     have ui:RE K B H' S' (E.set jb (oZ (.o kb ys))):=by
      refine re.step hk (by simp) (λi t h=>?_) (λi k zs h=>?_) (λa z=>?_)
      ·obtain⟨_,z⟩|⟨_,z⟩:=aBO h
       ·cases z
       ·exact z
      ·obtain⟨c,z⟩|⟨c,z⟩:=aBO h
       ·cases z;subst c;refine⟨xs,hE,λa ha=>?_⟩;rw[h0']at ha;cases ha;exact⟨ws',b1,b2.step (Kp.less lts)⟩
       ·refine⟨zs,z,λa ha=>?_⟩;obtain⟨a',us',p1,p2,p3,_⟩:=re.own i k zs z;rw[ha]at p1;cases p1;have na:a≠a0:=λw=>c (re.inj i jb k kb zs xs a0 z hE (by rw[<-w];exact ha) h0');exact⟨us',fr a _ p2 (by intro w;cases w;exact na rfl),p3.step kp⟩
      ·exact lts a (.inl z)
     refine Il re ui hk owE (λi k zs h=>?_) (λi t h=>?_) rv q2 lk
     ·obtain⟨c,z⟩|⟨c,z⟩:=aBO h
      ·cases z
       right
       intro a us2 ha hu;subst c;rw[h0']at ha;cases ha;rw[b1]at hu;cases hu;exact b2
      ·left
       refine⟨z,λa ha=>?_⟩;obtain⟨a',us',p1,p2,p3,_⟩:=re.own i k zs z;rw[ha]at p1;cases p1;have na:a≠a0:=λw=>c (re.inj i jb k kb zs xs a0 z hE (by rw[<-w];exact ha) h0');rw[p2];exact fr a _ p2 (by intro w;cases w;exact na rfl)
     ·obtain⟨_,z⟩|⟨_,z⟩:=aBO h
      ·cases z
      ·exact z
  ·exact q.elim
 ·exact q.elim
def Va(bk:Bool):Option (Option U)->Option U
 |some (oZ (.p t))=>oZ (.p t)
 |some (oZ (.o _ xs))=>if bk=true then oZ (.o true xs)else oZ (.p (.lst xs))
 |_=>none
def rL(t:Nat)(cap:List (Nat×Bool))(E:En):En:=WN t none++cap.map λk=>Va k.2 E[k.1]?
def uL:List (Nat×Bool)->Option (Nat×Nat)
 |[]=>none
 |(k,true)::_=>oZ (0,k)
 |(_,false)::r=>(uL r).map λx=>(x.1+1,x.2)
def lY(cap:List (Nat×Bool)):Bool:=Nat.ble (cap.filter (·.2)).length 1
def Mi(t:Nat)(cap:List (Nat×Bool))(zi E:En):Option En:=match uL cap with
 |none=>oZ E
 |some (j,k)=>match E[k]?,zi[t+j]? with
  |some (oZ (.o b _)),oZ (oZ (.o true ys))=>if bX ys=true then oZ (E.set k (oZ (.o b ys)))else none
  |some (oZ (.p _)),_=>oZ E
  |_,_=>none
def lK(g:FG)(Fe:FE):List T->En->(En->Prop)->Prop
 |[],E,Q=>Q E
 |x::xs,E,Q=>g x E λE2=>Fe E2 λr E3=>match r with
  |.p t=>(match E3[E.length-1]? with
   |some (oZ (.o false acc))=>acc.length<9000/\lK g Fe xs ((E3.set (E.length-1) (oZ (.o false (acc++[t])))).take E.length) Q
   |_=>False)
  |.s _=>False
def Jv(t:Nat)(cap:List (Nat×Bool))(I:FI)(g:FG)(Fe:FE):FE:=λE Q=>I E λitems us E1=>cap.all (λk=>!(k.2&&us.contains k.1))=true/\
 lK g Fe items (rL t cap E1++[oZ (.o false [])]) λzi=>match zi[t+cap.length]? with
  |some (oZ (.o false zs))=>bX zs=true/\o1 (Mi t cap zi E1) λE2=>Q (.s E2.length) (E2++[oZ (.o false zs)])
  |_=>False
theorem Jg(h:(rL t cap E)[i]?=oZ (oZ u)):∃j k b,i=t+j/\cap[j]?=oZ (k,b)/\Va b E[k]?=oZ u:=by
 unfold rL at h;obtain c|c:=XQ i t
 ·rw[XJ (by simpa using c)]at h;have:=WI h;rw[List.mem_replicate]at this;cases this.2
 ·rw[XO (by simpa using c),ZO,WH]at h;cases q:cap[i-t]? with
  |none=>rw[q]at h;cases h
  |some x=>
   rw[q]at h;exact⟨i-t,x.1,x.2,⋯,q,by simpa using h⟩
theorem Jh{σ:St}{cap:List (Nat×Bool)}(h:cap[j]?=oZ (k,b)):(jB t (cap.map (·.1)) σ)[t+j]?=oZ ((σ[k]?).join):=by
 unfold jB;rw[XO (by simp)];simp[h]
theorem zA:∀{cap:List (Nat×Bool)}{j k:Nat},uL cap=oZ (j,k)->cap[j]?=oZ (k,true)
 |(k,true)::r,_,_,h=>by cases h;rfl
 |(m,false)::r,j,k,h=>by
  cases q:uL r with
  |none=>rw[uL,q]at h;cases h
  |some x=>
   rw[uL,q]at h;cases h
   simpa using zA (j:=x.1) (k:=x.2) q
theorem kX:∀{cap:List (Nat×Bool)}{j k:Nat},lY cap=true->cap[j]?=oZ (k,true)->uL cap=oZ (j,k)
 |[],j,k,_,h=>by simp at h
 |(m,true)::r,0,k,_,h=>by simp at h;subst h;rfl
 |(m,true)::r,j+1,k,ho,h=>by
  have h':r[j]?=oZ (k,true):=by simpa using h
  have:(k,true)∈r.filter (·.2):=br.mpr ⟨WI h',rfl⟩;have hl:0<(r.filter (·.2)).length:=List.length_pos_of_mem this;unfold lY at ho;rw[ZZ (by rfl)]at ho;have:=Nat.le_of_ble_eq_true ho;simp only[XG]at this
  lia
 |(m,false)::r,0,k,_,h=>by simp at h
 |(m,false)::r,j+1,k,ho,h=>by
  have h':r[j]?=oZ (k,true):=by simpa using h
  have ho':lY r=true:=by
   unfold lY at ho⊢;rw[aa (by simp)]at ho;exact ho
  rw[uL,kX ho' h'];rfl
def Iy(i:Nat)(so:List (Key×V))(σ:St)(H:Hp):Prop:=∃p,σ[i]?=oZ (oZ (.ref p))/\H p=oZ (.dK so)
abbrev DD:=Option (Nat×List (Key×V))
def mR(d:DD)(σ:St)(H:Hp):Prop:=∀x,d=oZ x->Iy x.1 x.2 σ H
theorem mR.same(h:mR d σ H)(k:∀b o,H b=oZ o->H' b=oZ o):mR d σ H':=λx e=>let⟨p,h1,h2⟩:=h x e;⟨p,h1,k _ _ h2⟩
theorem mR.kp{d:DD}{K:W.Frag}{B O:jz->Prop}{S σ:St}{E:En}{H H':Hp}(h:mR d σ H)(re:RE K B H S E)(k:Kp (Ow B S E) O H H'):mR d σ H':=λx e=>
 let⟨p,h1,h2⟩:=h x e;⟨p,h1,k.keep _ _ h2 λz=>by obtain⟨vs,e⟩:=re.ow z;rw[h2]at e;cases e⟩
def lO(d:DD)(K:W.Frag)(F:FE):TE:=λσ H Q=>mR d σ H/\aO K F σ H Q
def Lp(m:Bool)(t:Nat)(d:DD)(K:W.Frag)(g:FG):TG:=λv σ H Q=>mR d σ H/\xX K g v σ H λσ' H'=>mR d σ' H'->(m=true->∀i,t<=i->σ'[i]?= σ[i]?)->Q σ' H'
abbrev K5(d:DD)(K:W.Frag)(g:FG):TG:=Lp false 0 d K g
theorem QG.gd{X:Cx}{K:W.Frag}{g:FG}{e:oC}(h:QG X e (xX K g)):QG X e (K5 none K g):=h.le λv σ H Q _ zZ=>by obtain⟨_,B,τ,E,t,Q',re,rp,hF,l⟩:=zZ;exact⟨B,τ,E,t,Q',re,rp,hF,λσ' H' E' a b c d=>l σ' H' E' a b c d (λ_ z=>by cases z) λz=>by cases z⟩
theorem QE.ed{X:Cx}{K:W.Frag}{Fe:FE}{e:oC}(h:QE X e (aO K Fe)):QE X e (lO none K Fe):=h.le λ_ _ _ _ z=>z.2
def Dx(d:DD)(K:W.Frag)(F:FB):TT:=λσ H Q=>mR d σ H/\gY K F σ H Q
section
variable{X:Cx}{K:W.Frag}{pos:Pos}{Fb:FB}{Fe:FE}{g:FG}{I:FI}
def pO(g:FG)(Fb:FB)(Fe:FE):List T->En->(En->Prop)->Prop
 |[],E,Q=>Q E
 |x::xs,E,Q=>g x E λE2=>Fb E2 λb E2'=>if b=true then Fe E2' λr E3=>match r with
  |.p t=>(match E3[E.length-1]? with
   |some (oZ (.o false acc))=>acc.length<9000/\pO g Fb Fe xs ((E3.set (E.length-1) (oZ (.o false (acc++[t])))).take E.length) Q
   |_=>False)
  |.s _=>False
  else pO g Fb Fe xs (E2'.take E.length) Q
def Nh(t:Nat)(cap:List (Nat×Bool))(I:FI)(g:FG)(Fb:FB)(Fe:FE):FE:=λE Q=>I E λitems us E1=>cap.all (λk=>!(k.2&&us.contains k.1))=true/\
 pO g Fb Fe items (rL t cap E1++[oZ (.o false [])]) λzi=>match zi[t+cap.length]? with
  |some (oZ (.o false zs))=>bX zs=true/\o1 (Mi t cap zi E1) λE2=>Q (.s E2.length) (E2++[oZ (.o false zs)])
  |_=>False
def WB(t:Nat)(cap:List (Nat×Bool))(zi E E2:En):Prop:=E2.length=E.length/\∀(i:Nat)(u:U),E2[i]?=oZ (oZ u)->(∃(j:Nat)(b:Bool)(ys xs0:List T),cap[j]?=oZ (i,true)/\E[i]?=oZ (oZ (.o b xs0))/\zi[t+j]?=oZ (oZ (.o true ys))/\bX ys=true/\u = .o b ys)\/(E[i]?=oZ (oZ u)/\∀(j:Nat)(b:Bool)(xs:List T),cap[j]?=oZ (i,true)->E[i]?≠oZ (oZ (.o b xs)))
theorem Xd(ho:lY cap=true)(h:Mi t cap zi E=oZ E2):WB t cap zi E E2:=by
 unfold Mi at h;cases qb:uL cap with
 |none=>
  rw[qb]at h;cases h;exact⟨rfl,λi u q=>.inr ⟨q,λj b xs z=>by rw[kX ho z]at qb;cases qb⟩⟩
 |some jk=>
  obtain⟨j,k⟩:=jk;rw[qb]at h;simp only at h;have only:∀{i j'},cap[j']?=oZ (i,true)->i=k:=λz=>by rw[kX ho z]at qb;cases qb;rfl
  split at h
  ·rename_i kb xs0 ys hE1 hEi;split at h
   ·rename_i hny;cases h;refine⟨by simp,λi u q=>?_⟩
    by_cases c:i=k
    ·subst c;rw[XN (WE.mp hE1).1]at q;cases q;exact .inl ⟨j,kb,ys,xs0,zA qb,hE1,hEi,hny,rfl⟩
    ·rw[XD (λz=>c z.symm)]at q;exact .inr ⟨q,λj' b xs z=>absurd (only z) c⟩
   ·cases h
  ·rename_i tp hE1;cases h;exact⟨rfl,λi u q=>.inr ⟨q,λj' b xs z y=>by rw[only z,hE1]at y;cases y⟩⟩
  ·cases h
theorem Cw {cap:List (Nat×Bool)} (S:bV X N' scope t (cap.map (·.1))) (hm:lY cap=true\/m=true/\tm=t) (hnd:(cap.map (·.1)).Nodup) {W:En->En->Option En} (hW:∀zi E E2,W zi E=oZ E2->WB t cap zi E E2) {FC:List T->Prop->Prop} (hC:∀zs p,FC zs p->p) {rr:List T->RV} {σ:St} {Q Qv:VK} (hl:σ.length=X.N.length) (hdd:∀H,mR d σ H->mR d' (jB t (cap.map (·.1)) σ) H) (out:∀(zs:List T) (D:jz) (ws:List V) (H1 H2:Hp) (p:Prop),FC zs p->H1 D=none->H2 D=oZ (.lst ws)->ws.length=zs.length->(bX zs=true->dN K H2 (λa=>j9 H1 a\/a=D) zs ws)->∃v,QP K H1 H2 (rr zs) v/\(Qv v H2->Q (.ref D) H2)) (h:lO d K (λE Q'=>I E λitems us E1=>cap.all (λk=>!(k.2&&us.contains k.1))=true/\pO g Fb Fe items (rL t cap E1++[oZ (.o false [])]) λzi=>match zi[t+cap.length]? with
   | some (oZ (.o false zs))=>FC zs (o1 (W zi E1) λE2=>told E2 Q' (rr zs))
   | _=>False) σ H Qv):tR t (cap.map (·.1)) (mD K I) (Lp m tm d' K g) (Dx d' K Fb) (lO d' K Fe) σ H Q:=by
 obtain ⟨dt,B,S0,E,Q',hS,re,hF,lk⟩:=h;refine ⟨B,S0,E,_,hS,re,hF,λJ items us E1 H1 S1 gd q g1 uk ok' aFC hgd D hD=>?_⟩;obtain ⟨hus,q⟩:=q;obtain ⟨τ0,hS0⟩:=hS;obtain ⟨τ1,zm⟩:=g1.pre;have aGY:∃τ,S1=σ++τ:=⟨τ0++τ1,by rw [zm,hS0,XB]⟩;have atσ:∀{j k:Nat} {b:Bool} {v:V},cap[j]? = oZ (k,b)->S1[k]? = oZ (oZ v)->σ[k]? = oZ (oZ v):=λ{j k b v} hj hv=>by
  obtain ⟨x,_,hx,_⟩:=S.caps j k (by rw [WH,hj];rfl);have hk:k<σ.length:=by rw [hl];exact (WE.mp hx).1
  obtain ⟨τ,rfl⟩:=aGY;rw [XJ hk] at hv;exact hv
 have atC:∀{j k:Nat} {b:Bool} {v:V},cap[j]? = oZ (k,b)->S1[k]? = oZ (oZ v)->(jB t (cap.map (·.1)) σ)[t+j]? = oZ (oZ v):=λ{j k b v} hj hv=>by rw [Jh hj,atσ hj hv];rfl
 have aC7:∀{j k:Nat} {b:Bool} {v:V},cap[j]? = oZ (k,b)->(jB t (cap.map (·.1)) σ)[t+j]? = oZ (oZ v)->S1[k]? = oZ (oZ v):=λ{j k b v} hj hv=>by
  rw [Jh hj] at hv;have:σ[k]? = oZ (oZ v):=by
   cases z:σ[k]? with
   | none=>rw [z] at hv;cases hv
   | some y=>rw [z] at hv;simpa using hv
  exact iX aGY this
 obtain ⟨Bp,hBp⟩:∃Bp:jz->Prop,∀a,Bp a↔∃(j k:Nat) (kk:Bool) (xs:List T),cap[j]? = oZ (k,true)/\E1[k]? = oZ (oZ (.o kk xs))/\S1[k]? = oZ (oZ (.ref a)):=⟨_,λ_=>Iff.rfl⟩;have aGZ:∀{j j' m:Nat} {c c':Bool},cap[j]? = oZ (m,c)->cap[j']? = oZ (m,c')->j=j':=λ{j j' m c c'} e2 p1=>by
  have lt1:j<(cap.map (·.1)).length:=by rw [WJ];exact (WE.mp e2).1
  exact (gn lt1 hnd).mp (by rw [WH,WH,e2,p1];rfl)
 have aD5:∀a,Bp a->Ow B S1 E1 a:=λa z=>by
  obtain ⟨j,k,kk,xs,_,h2,h3⟩:=(hBp a).mp z;exact .inr ⟨k,kk,xs,h2,h3⟩
 -- an own list of the block is the box
 have aD6:∀{i:Nat} {k:Bool} {xs:List T},(rL t cap E1)[i]? = oZ (oZ (.o k xs))->∃j m kk,i=t+j/\cap[j]? = oZ (m,true)/\E1[m]? = oZ (oZ (.o kk xs))/\k=true:=λ{i k xs} h=>by
  obtain ⟨j,m,c,e1,e2,e3⟩:=Jg h;refine ⟨j,m,?_⟩;cases qE:E1[m]? with
  | none=>rw [qE] at e3;cases e3
  | some u=>
   cases u with
   | none=>rw [qE] at e3;cases e3
   | some u=>
    cases u with
    | p _=>rw [qE] at e3;cases e3
    | o kk ys=>
     rw [qE] at e3;cases c
     ·simp [Va] at e3
     ·simp [Va] at e3;obtain ⟨e4,e5⟩:=e3;exact ⟨kk,e1,e2,by rw [e5],e4⟩
 have aDK:∀b,Ow Bp (jB t (cap.map (·.1)) σ) (rL t cap E1) b->Bp b:=λb z=>by
  obtain z | ⟨i,k,xs,h1,h2⟩:=z
  ·exact z
  obtain ⟨j,m,kk,e1,e2,e3,_⟩:=aD6 h1;subst e1;exact (hBp b).mpr ⟨j,m,kk,xs,e2,e3,aC7 e2 h2⟩
 have kl:Kp (Ow B S1 E1) (Ow Bp (jB t (cap.map (·.1)) σ) (rL t cap E1)) H1 H1:=Kp.less λb z=>aD5 b (aDK b z);have aG0:RE K Bp H1 (jB t (cap.map (·.1)) σ) (rL t cap E1):=by
  refine ⟨by simp [jB,rL],λi u h=>?_,λi k xs h=>?_,λi j k l xs ys a h1 h2 h3 h4=>?_,λa z=>uk.ow (aD5 a z)⟩
  ·obtain ⟨j,m,c,e1,e2,e3⟩:=Jg h;subst e1;cases qE:E1[m]? with
   | none=>rw [qE] at e3;cases e3
   | some w=>
    cases w with
    | none=>rw [qE] at e3;cases e3
    | some w=>
     cases w with
     | p w=>
      rw [qE] at e3;cases e3;obtain ⟨v,h1,h2⟩:=uk.pure m _ qE;exact ⟨v,atC e2 h1,h2.step kl⟩
     | o kk ys=>
      rw [qE] at e3;cases c
      ·simp [Va] at e3;subst e3;obtain ⟨a,vs,h1,h2,h3,h4⟩:=uk.own m kk ys qE;refine ⟨_,atC e2 h1,a,vs,rfl,.inl ⟨λz=>?_,.inl h2⟩,h3.step kl⟩;obtain ⟨j',k',kk',xs',p1,p2,p3⟩:=(hBp a).mp (aDK a z);have e4:=uk.inj m k' kk kk' ys xs' a qE p2 h1 p3;subst e4;have lt1:j<(cap.map (·.1)).length:=by rw [WJ];exact (WE.mp e2).1
       have lt2:j'<(cap.map (·.1)).length:=by rw [WJ];exact (WE.mp p1).1
       have:j=j':=(gn lt1 hnd).mp (by rw [WH,WH,e2,p1];rfl);subst this;rw [e2] at p1;cases p1
      ·simp [Va] at e3
  ·obtain ⟨j,m,kk,e1,e2,e3,e4⟩:=aD6 h;subst e1;subst e4;obtain ⟨a,vs,h1,h2,h3,h4⟩:=uk.own m kk _ e3;exact ⟨a,vs,atC e2 h1,h2,h3.step kl,⟨λ_=>(hBp a).mpr ⟨j,m,kk,_,e2,e3,h1⟩,λ_=>rfl⟩⟩
  ·obtain ⟨j1,m1,k1,e1,e2,e5,_⟩:=aD6 h1;obtain ⟨j2,m2,k2,e3,e4,e6,_⟩:=aD6 h2;subst e1;subst e3;have em:=uk.inj m1 m2 k1 k2 _ _ a e5 e6 (aC7 e2 h3) (aC7 e4 h4);subst em;rw [aGZ e2 e4]
 -- the accumulator gets a place
 obtain ⟨gD,reD⟩:=aG0.lst (ts:=[]) (vs:=[]) hD rfl;have gd0:gd (upd H1 D (.lst [])) (Ow Bp (jB t (cap.map (·.1)) σ++[oZ (.ref D)]) (rL t cap E1++[oZ (.o false [])])):=by
  refine ok'.keep _ _ _ _ gD.kp (hgd _ (λb z=>aD5 b (aDK b z)) λj hj a ha z=>?_);obtain ⟨j',k',kk',xs',p1,p2,p3⟩:=(hBp a).mp (aDK a z);obtain ⟨kj,xj,qj⟩:=aFC j hj;have ej:=uk.inj j k' kj kk' xj xs' a qj p2 ha p3;subst ej;have:=ZK.mp hus (j,true) (WI p1);simp [hj] at this
 have hn:(jB t (cap.map (·.1)) σ).length=t+cap.length:=by simp [jB]
 have hnE:(rL t cap E1++[oZ (U.o false [])]).length=t+cap.length+1:=by simp [rL];lia
 -- the turns
 refine ⟨λi m' σ' H'=>m'=items.length-i/\i<=items.length/\∃E',pO g Fb Fe (items.drop i) E' (λzi=>match zi[t+cap.length]? with
   | some (oZ (.o false zs))=>FC zs (o1 (W zi E1) λE2=>told E2 Q' (rr zs))
   | _=>False)/\σ'.length=t+cap.length/\E'.length=t+cap.length+1/\RE K Bp H' (σ'++[oZ (.ref D)]) E'/\
   Gs Bp (upd H1 D (.lst [])) (jB t (cap.map (·.1)) σ++[oZ (.ref D)]) (rL t cap E1++[oZ (.o false [])]) H' (σ'++[oZ (.ref D)]) E'/\gd H' (Ow Bp (σ'++[oZ (.ref D)]) E')/\mR d' σ' H'/\(m=true->∀i,tm<=i->σ'[i]? = (jB t (cap.map (·.1)) σ)[i]?),
  ⟨_,rfl,WS _,_,q,hn,hnE,reD,Kp.refl _ _,gd0,(hdd _ (dt.kp re g1.kp)).kp aG0 gD.kp,λ_ _ _=>rfl⟩,?_⟩
 rintro i m' σ2 H2 ⟨rfl,zx,E3,q3,hl3,hE3,zd,g3,gd3,dt3,st3⟩;obtain yc | hge:=XQ i items.length
 ·have hd:items.drop i=items[i]::items.drop (i+1):=YN yc;rw [hd] at q3;refine .inr ⟨ok'.go i H2 _ gd3 yc,λx H4 y=>?_⟩;obtain ⟨k4,s4,rp⟩:=ok'.yld i H2 _ x H4 _ gd3 (WG yc) (λa z=>by obtain ⟨vs,e⟩:=zd.ow z;rw [e];intro z;cases z) y;have re4:=zd.kept s4;have gd4:=ok'.keep _ _ _ _ k4 gd3;refine ⟨dt3.same s4,_,[oZ (.ref D)],E3,_,_,re4,rp,q3,λσ5 H5 E5 q5 g5 re5 hl5 dt5 s5=>?_⟩;have st5:m=true->∀i,tm<=i->σ5[i]? = (jB t (cap.map (·.1)) σ)[i]?:=λa i b=>(s5 a i b).trans (st3 a i b);have hE5:E5.length=t+cap.length+1:=by rw [<-re5.len];simp [hl5,hl3]
  refine ⟨dt5,_,σ5++[oZ (.ref D)],E5,_,⟨_,rfl⟩,re5,q5,λok E5' H5' S5' q5' g5' aFF=>?_⟩;have ll:E5.length<=E5'.length:=by
   obtain ⟨τ6,e6⟩:=g5'.pre;rw [<-re5.len,<-aFF.len,e6];simp
  cases ok with
  | false=>
   have q5':pO g Fb Fe (items.drop (i+1)) (E5'.take E3.length) _:=q5';obtain ⟨re8,ow8⟩:=aFF.cut (E:=E5) (σ:=σ5++[oZ (.ref D)]) g5'.pre re5.len;have eE:E5.length=E3.length:=⋯
   rw [eE] at re8 ow8;have gg:Gs Bp H4 (σ2++[oZ (.ref D)]) E3 H5' (σ5++[oZ (.ref D)]) (E5'.take E3.length):=(g5.trans g5'.kp).trans (Kp.less ow8);refine ⟨items.length-(i+1),⋯,rfl,yc,_,q5',⋯,?_,re8,(g3.trans k4).trans gg,ok'.keep _ _ _ _ gg gd4,dt5.kp re5 g5'.kp,st5⟩;rw [XT]
   lia
  | true=>
   obtain ⟨τ5,hτ5⟩:=g5'.pre;refine ⟨dt5.kp re5 g5'.kp,_,S5',E5',_,⟨oZ (.ref D)::τ5,by rw [hτ5];simp⟩,aFF,q5',λr E6 v H6 S6 q6 g6 re6 rr6=>?_⟩;have g6:=g5'.trans g6;cases r with
   | s _=>exact q6.elim
   | p u=>
    simp only at q6;have aG4:E3.length-1=t+cap.length:=⋯
    rw [aG4] at q6;split at q6
    ·rename_i acc aCV;obtain ⟨hlen,q6⟩:=q6;obtain ⟨a6,ws,p1,p2,p3,p4⟩:=re6.own _ _ _ aCV;have hS6:S6[t+cap.length]? = oZ (oZ (.ref D)):=iX g6.pre (by rw [XO ⋯];simp [hl5,hl3]);rw [hS6] at p1;cases p1;obtain ⟨g7,re7⟩:=re6.put (ys:=acc++[u]) (ws:=ws++[v]) aCV hS6 (p3.append ⟨v,[],rfl,rr6,rfl⟩);obtain ⟨re8,ow8⟩:=re7.cut (E:=E5) (σ:=σ5++[oZ (.ref D)]) (g6.trans g7).pre re5.len;have eE:E5.length=E3.length:=⋯
     rw [eE] at re8 ow8;have gg:Gs Bp H4 (σ2++[oZ (.ref D)]) E3 (upd H6 D (.lst (ws++[v]))) (σ5++[oZ (.ref D)]) ((E6.set (t+cap.length) (oZ (.o false (acc++[u])))).take E3.length):=(g5.trans (g6.trans g7).kp).trans (Kp.less ow8);refine ⟨ws,p2,by rw [p3.length];exact cL (YA hlen),items.length-(i+1),⋯,rfl,yc,_,q6,⋯,?_,re8,(g3.trans k4).trans gg,ok'.keep _ _ _ _ gg gd4,(dt5.kp re5 g6.kp).kp re6 g7.kp,st5⟩;rw [XT,ag];have:E5.length<=E6.length:=by
      obtain ⟨τ6,e6⟩:=g6.pre;rw [<-re5.len,<-re6.len,e6];simp
     lia
    ·exact q6.elim
 ·have ei:i=items.length:=⋯
  subst ei;rw [ZU] at q3;refine .inl ⟨ok'.stop H2 _ gd3,?_⟩;have q3':(match E3[t+cap.length]? with
   | some (oZ (.o false zs))=>FC zs (o1 (W E3 E1) λE2=>told E2 Q' (rr zs))
   | _=>False):=q3
  split at q3'
  ·rename_i zs hzs;have q4:=q3';obtain ⟨E2,e2,q3'⟩:=(hC _ _ q3').ex;obtain ⟨aD,ws,p1,p2,p3,p4⟩:=zd.own _ _ _ hzs;have hSD:(σ2++[oZ (V.ref D)])[t+cap.length]? = oZ (oZ (.ref D)):=by rw [XO ⋯];simp [hl3]
   rw [hSD] at p1;cases p1
   -- what is kept of the heap around
   have ow0:∀b,Ow Bp (jB t (cap.map (·.1)) σ++[oZ (.ref D)]) (rL t cap E1++[oZ (.o false [])]) b->Bp b\/b=D:=λb z=>by
    obtain z | z:=gD.kp.new b z
    ·exact .inl (aDK b z)
    ·obtain⟨us',hu⟩:=reD.ow (by assumption)
     by_cases c:b=D
     ·exact .inr c
     ·rw [bH c,z] at hu;cases hu
   have kept:∀b o,H1 b=oZ o->¬Bp b->H2 b=oZ o:=λb o e n=>by
    refine g3.keep b o (by rw [bH (bB e hD)];exact e) λz=>?_;obtain z | z:=ow0 b z
    ·exact n z
    ·exact bB e hD z
   have hk:∀b o,H1 b=oZ o->¬Ow B S1 E1 b->H2 b=oZ o:=λb o e n=>kept b o e λz=>n (aD5 b z);obtain ⟨v0,rv0,aJG⟩:=out zs D ws H1 H2 _ q4 hD p2 p3.length λhnl=>dN.noL (λa z=>by
    obtain⟨us',z⟩ | z:=z
    ·by_cases c:Bp a
     ·exact zd.ow (.inl c)
     ·exact ⟨us',kept a _ z c⟩
    ·exact ⟨ws,by rw [z];exact p2⟩) hnl p3
   obtain ⟨eL,eG⟩:=hW _ _ _ e2;have lts:∀b,Ow B S1 E1 b->j9 H2 b:=λb z=>by
    by_cases c:Bp b
    ·exact zd.ow (.inl c)
    ·obtain ⟨us',e⟩:=uk.ow z;exact ⟨us',kept b _ e c⟩
   -- a list that the block changed
   have bxI:∀{i j:Nat} {b:Bool} {xs0 ys:List T},cap[j]? = oZ (i,true)->E1[i]? = oZ (oZ (.o b xs0))->E3[t+j]? = oZ (oZ (.o true ys))->bX ys=true->∃a us1,S1[i]? = oZ (oZ (.ref a))/\H2 a=oZ (.lst us1)/\dN K H2 (j9 H2) ys us1:=λ{i j b xs0 ys} hj hE hEi hny=>by
    obtain ⟨a',us1,r1,r2,r3,r4⟩:=zd.own _ true ys hEi;refine ⟨a',us1,?_,r2,dN.noL (λ_ z=>z) hny r3⟩;obtain ho | ⟨hm,rfl⟩:=hm
    ·obtain ⟨j',k',kk,xs,h1,h2,h3⟩:=(hBp a').mp (r4.mp rfl);have e:=kX ho hj;rw [kX ho h1] at e;cases e;exact h3
    ·have hjl:j<cap.length:=(WE.mp hj).1;rw [XJ ⋯,st3 hm _ (Nat.le_add_right _ _)] at r1;exact aC7 hj r1
   have nk:∀{i:Nat} {l:Bool} {zs':List T} {a:jz},(∀j b xs,cap[j]? = oZ (i,true)->E1[i]?≠oZ (oZ (.o b xs)))->E1[i]? = oZ (oZ (.o l zs'))->S1[i]? = oZ (oZ (.ref a))->¬Bp a:=λ{i l zs' a} c z ha w=>by
    obtain ⟨j',k',kk',xs',p1',p2',p3'⟩:=(hBp a).mp w;have:=uk.inj i k' l kk' zs' xs' a z p2' ha p3';subst this;exact c j' l zs' p1' z
   have owE:∀b,Ow B S1 E2 b->Ow B S1 E1 b:=λb z=>by
    obtain z | ⟨i,l,zs',z1,z2⟩:=z
    ·exact .inl z
    obtain⟨j,b',ys,xs0,_,h2,_,_,_⟩ | ⟨z,_⟩:=eG _ _ z1
    ·exact .inr ⟨_,_,_,h2,z2⟩
    ·exact .inr ⟨i,l,zs',z,z2⟩
   have kp:Kp (Ow B S1 E1) (Ow B S1 E1) H1 H2:=⟨hk,λb z=>.inl z⟩;refine aJG (Il uk (uk.step hk eL (λi u h=>?_) (λi l zs' h=>?_) (λa z=>lts a (.inl z))) hk owE (λi l zs' h=>?_) (λi u h=>?_) rv0 q3' (lk.step g1))
   ·obtain⟨_,_,_,_,_,_,_,_,z⟩ | ⟨z,_⟩:=eG _ _ h
    ·cases z
    ·exact z
   ·obtain⟨j,b',ys,xs0,h1,h2,h3,h4,z⟩ | ⟨z,nb⟩:=eG _ _ h
    ·cases z;obtain ⟨a0,us1,r1,r2,r3⟩:=bxI h1 h2 h3 h4;refine ⟨xs0,h2,λa ha=>?_⟩;rw [r1] at ha;cases ha;exact ⟨us1,r2,r3.step (Kp.less lts)⟩
    ·refine ⟨zs',z,λa ha=>?_⟩;obtain ⟨a',us',p1',p2',p3',_⟩:=uk.own i l zs' z;rw [ha] at p1';cases p1';exact ⟨us',kept a _ p2' (nk nb z ha),p3'.step kp⟩
   ·obtain⟨j,b',ys,xs0,h1,h2,h3,h4,z⟩ | ⟨z,nb⟩:=eG _ _ h
    ·cases z
     right
     intro a us2 ha hu;obtain ⟨a0,us1,r1,r2,r3⟩:=bxI h1 h2 h3 h4;rw [r1] at ha;cases ha;rw [r2] at hu;cases hu;exact r3
    ·left
     refine ⟨z,λa ha=>?_⟩;obtain ⟨a',us',p1',p2',p3',_⟩:=uk.own i l zs' z;rw [ha] at p1';cases p1';rw [p2'];exact kept a _ p2' (nk nb z ha)
   ·obtain⟨_,_,_,_,_,_,_,_,z⟩ | ⟨z,_⟩:=eG _ _ h
    ·cases z
    ·exact z
  ·exact q3'.elim
theorem Vb(S:bV X N' scope t (cap.map (·.1)))(ho:lY cap=true)(hnd:(cap.map (·.1)).Nodup)(hl:σ.length=X.N.length)(hdd:∀H,mR d σ H->mR d' (jB t (cap.map (·.1)) σ) H)(h:lO d K (Nh t cap I g Fb Fe) σ H Q):tR t (cap.map (·.1)) (mD K I) (K5 d' K g) (Dx d' K Fb) (lO d' K Fe) σ H Q:=
 Cw (W:=Mi t cap) (FC:=λzs p=>bX zs=true/\p) (rr:=.l) (Qv:=Q) S (.inl ho) hnd (λ_ _ _=>Xd ho) (λ_ _ z=>z.2) hl hdd (λzs D ws H1 H2 p hc hD h2 _ hn=>⟨_,⟨D,ws,rfl,hD,h2,hn hc.1⟩,id⟩) h
def bT:FB:=λE Q=>Q true E
theorem Fh(g:FG)(Fe:FE):∀xs,pO g bT Fe xs=lK g Fe xs
 |[]=>rfl
 |x::xs=>by
  funext E Q
  simp only[pO,lK,bT,if_true,Fh g Fe xs]
theorem Lz(h:tR t cap (mD K I) (Lp m tm d K g) (Dx d K bT) te σ H Q):Eb t cap (mD K I) (Lp m tm d K g) te σ H Q:=by
 obtain⟨B,S0,E,Q',hS,re,hF,lk⟩:=h;refine⟨B,S0,E,Q',hS,re,hF,λJ items us E1 H1 S1 gd q g1 uk ok aFC hgd D hD=>?_⟩;obtain⟨W,w0,tn⟩:=lk J items us E1 H1 S1 gd q g1 uk ok aFC hgd D hD;refine⟨W,w0,λi m σ' H' z=>(tn i m σ' H' z).imp id λ⟨go,st⟩=>⟨go,λx H2 y=>?_⟩⟩;obtain⟨dt,B',τ,E',u,Q2,ui,rp,hF',l⟩:=st x H2 y;refine⟨dt,B',τ,E',u,Q2,ui,rp,hF',λσ3 H3 E3 a b c e dt3 s3=>?_⟩;obtain⟨_,B3,S3,E4,Q4,_,re4,z,k⟩:=l σ3 H3 E3 a b c e dt3 s3;exact k true E4 H3 S3 z .refl re4
theorem Jo(S:bV X N' scope t (cap.map (·.1)))(ho:lY cap=true)(hnd:(cap.map (·.1)).Nodup)(hl:σ.length=X.N.length)(hdd:∀H,mR d σ H->mR d' (jB t (cap.map (·.1)) σ) H)(h:lO d K (Jv t cap I g Fe) σ H Q):Eb t (cap.map (·.1)) (mD K I) (K5 d' K g) (lO d' K Fe) σ H Q:=by
 have e:Nh t cap I g bT Fe=Jv t cap I g Fe:=by unfold Nh Jv;simp only[Fh]
 rw[<-e]at h;exact Lz (Vb S ho hnd hl hdd h)
theorem iR(hc:X.calm=true)(S:bV X N' scope t (cap.map (·.1)))(ho:lY cap=true)(hnd:(cap.map (·.1)).Nodup)(hi:QI X target iter (mD K I))(hg:∀C s3 H3 fp,QG (bA X N' scope C s3 H3 fp) target (xX K g))(he:∀C s3 H3 fp,QE (bA X N' scope C s3 H3 fp) elt (aO K Fe))(hs:∀x,lh iter X.env x=pure x:=by intro _;rfl):
  QE X (.ListComp elt [⟨target,iter,[],0⟩] scope pos) (aO K (Jv t cap I g Fe)):=
 (Sv hc S hi (λC s H f=>(hg C s H f).gd) (λC s H f=>(he C s H f).ed) hs).le λσ H Q hl h=>Jo (d:=none) (d':=none) S ho hnd hl (λ_ _ _ z=>by cases z) ⟨(λ_ z=>by cases z),h⟩
end
theorem E7(hNn:X.N.Nodup)(hin:X.N[ix]?=oZ xn)(hxn:Bg X.env.scope xn)(hfn:X.fn xn=true\/X.env.scope.names.lookup xn=oZ .local)(hsw:my (.ListComp elt [⟨target,iter,ifs,0⟩] scope pos) (oZ (.Name xn pos')) aCE.line X.env=pure true)(hc:X.calm=true)(S:bV X N' scope t cap)(hi:PI X target iter wi)(hg:∀C s3 H3 fp,PG (bA X N' scope C s3 H3 fp) target g)(hb:∀C s3 H3 fp,BJ (bA X N' scope C s3 H3 fp) ifs tb)(he:∀C s3 H3 fp,UJ n0 (bA X N' scope C s3 H3 fp) elt te)(hs:∀x,lh iter X.env x=pure x)(pins:List (jz×Obj))(s:oB)(σ:St)(H:Hp)(DD:dD)(I:aZ X pins σ H s)(ht0:n0<=s.toks)(h:Qk (tR t cap wi g tb te) (pT ix) DD σ H):
  kh (km X.prog X.w) X.A (exec (.Assign [.Name xn pos'] (.ListComp elt [⟨target,iter,ifs,0⟩] scope pos) aCE) X.env) (SP X pins DD) X.xe s:=by
 rw[exec_Assign_Name_used _ _ _ _ hsw];refine kc (qg (kc ?_));unfold evalThenUse;refine kc ?_;obtain⟨QQ,hQQ⟩:∃QQ:oA->oB->Prop,QQ=λ_ s'=>∃σ' H',aZ X pins σ' H' s'/\DD.nx σ' H':=⟨_,rfl⟩;refine eC (Q:=QQ) ?_ (λ_ s' h'=>kq (kq (by rw[hQQ]at h';exact h')));refine zD (use:=oZ (qf (.Name xn pos') X.env)) hc S hi hg hb he hs I ht0 h λs3 s6 H3 H5 fp D m I3 f3 hn' un6 aBM ze os6 ba qn=>?_;have I7:aZ X pins σ H5 s6:=I3.call' (ch:=fp) os6 un6 aBM ba f3;have fC:tX X pins H5 s3.heap.objs.size:=I3.fpOk (WO _) ze;refine wpAny_assign_Name (Dy I7 hNn hin hxn (v:=.ref D) rfl (λs8 I8⟨a,sa,ha⟩=>?_) hfn);have nC:s3.heap.objs.size≠a:=by
  obtain rfl|ha:=ha
  ·exact fC.2.1
  ·exactλz=>fC.2.2.2.2.1 _ _ ha z.symm
 obtain⟨mC,hnC⟩:∃m',s8.heap.Ns s3.heap.objs.size m':=⟨m,hn'.at λo e=>sa.extBut _ _ nC e⟩;refine⟨mC,hnC,λh' hs'=>?_⟩;rw[hQQ];refine⟨_,H5,I8.turnedL (t':=s8.toks) (ch:=[s3.heap.objs.size]) (λb u hb e=>hs'.extBut _ _ (by simpa using hb) e) (λb hb=>by rw[WT.mp hb];exact fC),qn⟩
theorem D9(hNn:X.N.Nodup)(hin:X.N[ix]?=oZ xn)(hxn:Bg X.env.scope xn)(hfn:X.fn xn=true\/X.env.scope.names.lookup xn=oZ .local)(hsw:my (.ListComp elt [⟨target,iter,ifs,0⟩] scope pos) (oZ (.Name xn pos')) aCE.line X.env=pure true)(hc:X.calm=true)(S:bV X N' scope t cap)(hi:PI X target iter wi)(hg:∀C s3 H3 fp,PG (bA X N' scope C s3 H3 fp) target g)(hb:∀C s3 H3 fp,BJ (bA X N' scope C s3 H3 fp) ifs tb)(he:∀C s3 H3 fp,PE (bA X N' scope C s3 H3 fp) elt te)(hs:∀x,lh iter X.env x=pure x:=by intro _;rfl):
  PS X (.Assign [.Name xn pos'] (.ListComp elt [⟨target,iter,ifs,0⟩] scope pos) aCE) (Qk (tR t cap wi g tb te) (pT ix)):=
 λpins s σ H DD I h=>E7 (n0:=0) hNn hin hxn hfn hsw hc S hi hg hb (λC s3 H3 fp pins s σ H Q I _ z=>he C s3 H3 fp pins s σ H Q I z) hs pins s σ H DD I (WS _) h
theorem Y9(hNn:X.N.Nodup)(hin:X.N[ix]?=oZ xn)(hxn:Bg X.env.scope xn)(hfn:X.fn xn=true\/X.env.scope.names.lookup xn=oZ .local)(hsw:my (.ListComp elt [⟨target,iter,[],0⟩] scope pos) (oZ (.Name xn pos')) aCE.line X.env=pure true)(hc:X.calm=true)(S:bV X N' scope t cap)(hi:PI X target iter wi)(hg:∀C s3 H3 fp,PG (bA X N' scope C s3 H3 fp) target g)(he:∀C s3 H3 fp,PE (bA X N' scope C s3 H3 fp) elt te)(hs:∀x,lh iter X.env x=pure x:=by intro _;rfl):
  PS X (.Assign [.Name xn pos'] (.ListComp elt [⟨target,iter,[],0⟩] scope pos) aCE) (Qk (Eb t cap wi g te) (pT ix)):=
 λpins s σ H DD I h=>D9 (tb:=λ_ H Q=>Q true H) hNn hin hxn hfn hsw hc S hi hg (λ_ _ _ _ _ _ _ _ _ I z=>wpAny_tests_nil ⟨_,I,z⟩) he hs pins s σ H DD I h
theorem yD{X:Cx}{K:W.Frag}{Fe:FE}{g:FG}{I:FI}{target elt iter:oC}{scope:qk}{pos pos' aCE:Pos}{N':List Str}{cap:List (Nat×Bool)}{t i:Nat}{x:Str}(hN:X.N.Nodup)(hi:X.N[i]?=oZ x)(hx:Bg X.env.scope x)(hsw:my (.ListComp elt [⟨target,iter,[],0⟩] scope pos) (oZ (.Name x pos')) aCE.line X.env=pure true)(hc:X.calm=true)(S:bV X N' scope t (cap.map (·.1)))(ho:lY cap=true)(hnd:(cap.map (·.1)).Nodup)(hit:QI X target iter (mD K I))(hg:∀C s3 H3 fp,QG (bA X N' scope C s3 H3 fp) target (xX K g))(he:∀C s3 H3 fp,QE (bA X N' scope C s3 H3 fp) elt (aO K Fe))(hs:∀x,lh iter X.env x=pure x:=by intro _;rfl)(hf:X.fn x=true\/X.env.scope.names.lookup x=oZ .local:=by first|exact .inl rfl|exact .inr rfl|assumption):
  QS X (.Assign [.Name x pos'] (.ListComp elt [⟨target,iter,[],0⟩] scope pos) aCE) (jD K (AI i (Jv t cap I g Fe))):=
 QS.le ⟨Y9 hN hi hx hf hsw hc S hit.h (λC s3 H3 fp=>(hg C s3 H3 fp).gd.h) (λC s3 H3 fp=>(he C s3 H3 fp).ed.h) hs⟩ λD σ H hl⟨B,E,DT,re,hF,l⟩=>Jo (d:=none) (d':=none) S ho hnd hl (λ_ _ _ z=>by cases z) ⟨(λ_ z=>by cases z),B,σ,E,_,⟨[],by simp⟩,re,hF,λr E' v H' S' q g ui rr=>by
  obtain⟨u,e1,q⟩:=q.ex;rw[<-re.len]at e1 q;obtain⟨r1,ow⟩:=rF (i:=i) ui g.pre rr e1;exact l.nx _ _ _ q (g.kp.trans (Kp.less ow)) r1⟩
mutual
def d6:T->T->Bool
 |.non,.non=>true
 |.bl a,.bl b=>a==b
 |.int a,.int b=>a==b
 |.bl a,.int b=>(if a then 1 else 0)==b
 |.int a,.bl b=>a==(if b then 1 else 0)
 |.str a,.str b=>a==b
 |.tup xs,.tup ys=>zI xs ys
 |.lst xs,.lst ys=>zI xs ys
 |_,_=>false
def zI:List T->List T->Bool
 |[],[]=>true
 |x::xs,y::ys=>d6 x y&&zI xs ys
 |_,_=>false
end
mutual
def dT:T->Nat
 |.tup xs=>JZ xs+1
 |.lst xs=>JZ xs+1
 |_=>0
def JZ:List T->Nat
 |[]=>0
 |x::xs=>Nat.max (dT x) (JZ xs)
end
mutual
theorem jS:∀x:T,d6 x x=true
 |.non=>rfl
 |.bl a=>by simp[d6]
 |.int a=>by simp[d6]
 |.str a=>by simp[d6]
 |.tup xs=>by rw[d6];exact vF xs
 |.lst xs=>by rw[d6];exact vF xs
theorem vF:∀xs:List T,zI xs xs=true
 |[]=>rfl
 |x::xs=>by rw[zI,jS x,vF xs];rfl
end
theorem kZ:∀xs ys:List T,zI xs ys=((XH (min xs.length ys.length)).all (λj=>d6 (xs.getD j .non) (ys.getD j .non))&&xs.length==ys.length)
 |[],[]=>rfl
 |[],_::_=>by simp[zI]
 |_::_,[]=>by simp[zI]
 |x::xs,y::ys=>by
  rw[zI,kZ xs ys];simp only[XG,Nat.succ_min_succ,List.range_succ_eq_map,List.all_cons,List.all_map];simp[Function.comp_def,Bool.and_assoc]
theorem zF:∀{xs:List T}{x:T},x∈xs->dT x<=JZ xs
 |y::xs,x,h=>by
  rw[JZ];obtain rfl|h:=WM.mp h
  ·exact Nat.le_max_left _ _
  ·exact XR (zF h) (Nat.le_max_right _ _)
mutual
def Rq(K:W.Frag)(H:Hp):T->V->Prop
 |.non,v=>v = .non
 |.bl b,v=>v = .bl b
 |.int i,v=>v = .int i
 |.str x,v=>v = .str x
 |.tup xs,v=>∃a vs,v = .ref a/\xD K H a vs/\Iq K H xs vs
 |.lst xs,v=>∃a vs,v = .ref a/\m7 K H a vs/\Iq K H xs vs
def Iq(K:W.Frag)(H:Hp):List T->List V->Prop
 |[],vs=>vs=[]
 |x::xs,vs=>∃v r,vs=v::r/\Rq K H x v/\Iq K H xs r
end
section
variable{K:W.Frag}{H:Hp}{O:jz->Prop}
mutual
theorem Rp.rq:∀{t:T}{v:V},Rp K H O t v->Rq K H t v
 |.non,_,h=>h
 |.bl _,_,h=>h
 |.int _,_,h=>h
 |.str _,_,h=>h
 |.tup xs,v,h=>by
  obtain⟨a,vs,e,h1,h2⟩:=h;exact⟨a,vs,e,h1.imp (λh=>.inl h.2) id,dN.rq h2⟩
 |.lst xs,v,h=>by
  obtain⟨a,vs,e,h1,h2⟩:=h;exact⟨a,vs,e,h1.imp And.right id,dN.rq h2⟩
theorem dN.rq:∀{xs:List T}{vs:List V},dN K H O xs vs->Iq K H xs vs
 |[],_,h=>h
 |x::xs,vs,h=>by
  obtain⟨v,r,e,h1,h2⟩:=h;exact⟨v,r,e,Rp.rq h1,dN.rq h2⟩
end
theorem Rt.rq(h:Rt K H O t v):Rq K H t v:=by
 cases t with
 |tup xs=>obtain⟨a,vs,e,h1,h2⟩:=h;exact⟨a,vs,e,h1,h2.rq⟩
 |lst xs=>obtain⟨a,vs,e,h1,h2⟩:=h;exact⟨a,vs,e,h1,h2.rq⟩
 |non=>exact h
 |bl _=>exact h
 |int _=>exact h
 |str _=>exact h
theorem Iq.length:∀{xs:List T}{vs:List V},Iq K H xs vs->vs.length=xs.length
 |[],_,h=>by cases h;rfl
 |_::_,_,⟨v,r,e,_,h2⟩=>by rw[e,XG,XG,Iq.length h2]
theorem Iq.get:∀{xs:List T}{vs:List V}{i:Nat}{x:T},Iq K H xs vs->xs[i]?=oZ x->∃v,vs[i]?=oZ v/\Rq K H x v
 |[],_,_,_,_,e=>by simp at e
 |_::_,_,0,_,⟨v,r,e,h1,_⟩,q=>by simp at q;subst q;subst e;exact⟨v,rfl,h1⟩
 |_::_,_,i+1,x,⟨v,r,e,_,h2⟩,q=>by
  obtain⟨w,q1,q2⟩:=Iq.get (i:=i) (x:=x) h2 (by simpa using q);subst e;exact⟨w,by simpa using q1,q2⟩
end
section
variable{X:Cx}{pins:List (jz×Obj)}{σ:St}{H:Hp}{s:oB}
theorem aZ.nolt(I:aZ X pins σ H s)(h1:m7 X.K H a vs)(h2:xD X.K H a ws):False:=by
 obtain⟨_,_,p1,_⟩:=I.list h1;obtain⟨_,_,p2,_⟩:=I.tuple h2;exact SeqAt.ne_of_list_tuple p1.isList p2 rfl
mutual
theorem Rq.inj(I:aZ X pins σ H s):∀{x y:T}{v:V},Rq X.K H x v->Rq X.K H y v->x=y
 |.tup xs,y,v,h,k=>by
  obtain⟨a,vs,e,h1,h2⟩:=h;subst e;cases y with
  |tup ys=>
   obtain⟨b,ws,f,k1,k2⟩:=k;cases f;rw[I.tuple_inj h1 k1]at h2;rw[Iq.inj I h2 k2]
  |lst ys=>
   obtain⟨b,ws,f,k1,k2⟩:=k;cases f;exact(I.nolt k1 h1).elim
  |_=>cases k
 |.lst xs,y,v,h,k=>by
  obtain⟨a,vs,e,h1,h2⟩:=h;subst e;cases y with
  |lst ys=>
   obtain⟨b,ws,f,k1,k2⟩:=k;cases f;rw[I.list_inj h1 k1]at h2;rw[Iq.inj I h2 k2]
  |tup ys=>
   obtain⟨b,ws,f,k1,k2⟩:=k;cases f;exact(I.nolt h1 k1).elim
  |_=>cases k
 |.non,y,v,h,k=>by
  cases h;cases y with
  |tup ys=>obtain⟨_,_,k,_⟩:=k;cases k
  |lst ys=>obtain⟨_,_,k,_⟩:=k;cases k
  |_=>cases k<;>rfl
 |.bl a,y,v,h,k=>by
  cases h;cases y with
  |tup ys=>obtain⟨_,_,k,_⟩:=k;cases k
  |lst ys=>obtain⟨_,_,k,_⟩:=k;cases k
  |_=>cases k<;>rfl
 |.int a,y,v,h,k=>by
  cases h;cases y with
  |tup ys=>obtain⟨_,_,k,_⟩:=k;cases k
  |lst ys=>obtain⟨_,_,k,_⟩:=k;cases k
  |_=>cases k<;>rfl
 |.str a,y,v,h,k=>by
  cases h;cases y with
  |tup ys=>obtain⟨_,_,k,_⟩:=k;cases k
  |lst ys=>obtain⟨_,_,k,_⟩:=k;cases k
  |_=>cases k<;>rfl
theorem Iq.inj(I:aZ X pins σ H s):∀{xs ys:List T}{vs:List V},Iq X.K H xs vs->Iq X.K H ys vs->xs=ys
 |[],ys,_,h,k=>by
  cases h;cases ys with
  |nil=>rfl
  |cons y ys=>obtain⟨_,_,k,_⟩:=k;cases k
 |x::xs,ys,_,h,k=>by
  obtain⟨v,r,e,h1,h2⟩:=h;subst e;cases ys with
  |nil=>cases k
  |cons y ys=>
   obtain⟨w,r',f,k1,k2⟩:=k;cases f;rw[Rq.inj I h1 k1,Iq.inj I h2 k2]
end
theorem Mn{A:oD}{u v:oA}{k:Bool}(h:SeqAt.RcAt A s u v k)(hk:u=v->k=true)(hf:∀b t,u≠.float b t):SeqAt.EqAt A s u v k:=λprog w E Q hq=>by
 unfold eqBool;refine pe ?_;refine wpAny_ite_split (λhab=>?_) (λ_=>?_)
 ·rw[hk (eq_of_beq hab)]at hq;exact kc (rg (kq hq))
 ·cases u with
  |float b t=>exact absurd rfl (hf b t)
  |_=>exact kc (h prog w E _ (mw hq))
theorem AE(h:bS x u)(k:bS y u):x=y:=h.inj k
theorem uT(A:oD)(rx:bI vs sf)(ry:bI ws js)(hx:Iq X.K H xs vs)(hy:Iq X.K H ys ws)(ih:∀(j:Nat)(x y:T)(v w:V)(u u':oA),xs[j]?=oZ x->ys[j]?=oZ y->Rq X.K H x v->Rq X.K H y w->bS v u->bS w u'->SeqAt.EqAt A s u u' (d6 x y)):
  ∀j(h1:j<sf.toArray.size)(h2:j<js.toArray.size),SeqAt.EqAt A s sf.toArray[j] js.toArray[j] (d6 (xs.getD j .non) (ys.getD j .non)):=λj h1 h2=>by
 have l1:=rx.length;have l2:=ry.length;have l3:=hx.length;have l4:=hy.length;have h1':j<sf.length:=by simpa using h1
 have h2':j<js.length:=by simpa using h2
 have e1:xs[j]?=oZ xs[j]:=WG (by omega);have e2:ys[j]?=oZ ys[j]:=WG (by omega);obtain⟨v,q1,q2⟩:=hx.get e1;obtain⟨w,q3,q4⟩:=hy.get e2;obtain⟨u1,z1,r1⟩:=rx.get q1;obtain⟨v1,z2,r2⟩:=ry.get q3;have y1:sf.toArray[j]=u1:=by
  rw[WG h1']at z1
  simpa using Option.some.inj z1
 have y2:js.toArray[j]=v1:=by
  rw[WG h2']at z2
  simpa using Option.some.inj z2
 rw[y1,y2];have g1:xs.getD j .non=xs[j]:=by simp[List.getD,e1]
 have g2:ys.getD j .non=ys[j]:=by simp[List.getD,e2]
 rw[g1,g2];exact ih j _ _ v w u1 v1 e1 e2 q2 q4 r1 r2
theorem nH(I:aZ X pins σ H s)(hx:Rq X.K H x v)(rx:bS v u):(x = .non/\u = .none)\/(∃b,x = .bl b/\u = .bool b)\/(∃i t,x = .int i/\u = .int i t)\/(∃c t,x = .str c/\u = .str c t)\/(∃xs a sf,x = .tup xs/\u = .ref a/\s.heap.IsTuple a sf)\/∃xs a sf,x = .lst xs/\u = .ref a/\s.heap.IsList a sf:=by
 cases x with
 |non=>cases hx;cases rx;exact .inl ⟨rfl,rfl⟩
 |bl b=>cases hx;cases rx;exact .inr (.inl ⟨_,rfl,rfl⟩)
 |int i=>cases hx;obtain⟨t,rfl⟩:=rx;exact .inr (.inr (.inl ⟨_,t,rfl,rfl⟩))
 |str c=>cases hx;obtain⟨t,rfl⟩:=rx;exact .inr (.inr (.inr (.inl ⟨_,t,rfl,rfl⟩)))
 |tup xs=>
  obtain⟨a,vs,e,q,_⟩:=hx;subst e;cases rx;obtain⟨sf,_,p,_⟩:=I.tuple q;exact .inr (.inr (.inr (.inr (.inl ⟨xs,a,_,rfl,rfl,p⟩))))
 |lst xs=>
  obtain⟨a,vs,e,q,_⟩:=hx;subst e;cases rx;obtain⟨sf,_,p,_⟩:=I.list q;exact .inr (.inr (.inr (.inr (.inr ⟨xs,a,_,rfl,rfl,p.isList⟩))))
theorem Ae(I:aZ X pins σ H s){A:oD}(hu:A.units<qp)(nt:∀xs ys,¬(x = .tup xs/\y = .tup ys))(nl:∀xs ys,¬(x = .lst xs/\y = .lst ys))(hx:Rq X.K H x v)(hy:Rq X.K H y w)(rx:bS v u)(ry:bS w u'):SeqAt.RcAt A s u u' (d6 x y)/\SeqAt.RcNeAt A s u u' (!(d6 x y)):=by
 obtain⟨rfl,rfl⟩|⟨_,rfl,rfl⟩|⟨_,_,rfl,rfl⟩|⟨_,_,rfl,rfl⟩|⟨xs,_,_,rfl,rfl,p⟩|⟨xs,_,_,rfl,rfl,p⟩:=nH I hx rx
 ·obtain⟨rfl,rfl⟩|⟨_,rfl,rfl⟩|⟨_,_,rfl,rfl⟩|⟨_,_,rfl,rfl⟩|⟨ys,_,_,rfl,rfl,q⟩|⟨ys,_,_,rfl,rfl,q⟩:=nH I hy ry
  ·exact⟨SeqAt.RcAt.none_none,SeqAt.RcNeAt.none_none⟩
  ·exact⟨SeqAt.RcAt.none_bool _,SeqAt.RcNeAt.none_bool _⟩
  ·exact⟨SeqAt.RcAt.none_int _ _,SeqAt.RcNeAt.none_int _ _⟩
  ·exact⟨SeqAt.RcAt.none_str _ _,SeqAt.RcNeAt.none_str _ _⟩
  ·exact⟨SeqAt.RcAt.none_tuple q hu,SeqAt.RcNeAt.none_tuple q hu⟩
  ·exact⟨SeqAt.RcAt.none_list q hu,SeqAt.RcNeAt.none_list q hu⟩
 ·obtain⟨rfl,rfl⟩|⟨_,rfl,rfl⟩|⟨_,_,rfl,rfl⟩|⟨_,_,rfl,rfl⟩|⟨ys,_,_,rfl,rfl,q⟩|⟨ys,_,_,rfl,rfl,q⟩:=nH I hy ry
  ·exact⟨SeqAt.RcAt.bool_none _,SeqAt.RcNeAt.bool_none _⟩
  ·exact⟨SeqAt.RcAt.bool_bool _ _,SeqAt.RcNeAt.bool_bool _ _⟩
  ·exact⟨SeqAt.RcAt.bool_int _ _ _,SeqAt.RcNeAt.bool_int _ _ _⟩
  ·exact⟨SeqAt.RcAt.bool_str _ _ _,SeqAt.RcNeAt.bool_str _ _ _⟩
  ·exact⟨SeqAt.RcAt.bool_tuple _ q hu,SeqAt.RcNeAt.bool_tuple _ q hu⟩
  ·exact⟨SeqAt.RcAt.bool_list _ q hu,SeqAt.RcNeAt.bool_list _ q hu⟩
 ·obtain⟨rfl,rfl⟩|⟨_,rfl,rfl⟩|⟨_,_,rfl,rfl⟩|⟨_,_,rfl,rfl⟩|⟨ys,_,_,rfl,rfl,q⟩|⟨ys,_,_,rfl,rfl,q⟩:=nH I hy ry
  ·exact⟨SeqAt.RcAt.int_none _ _,SeqAt.RcNeAt.int_none _ _⟩
  ·exact⟨SeqAt.RcAt.int_bool _ _ _,SeqAt.RcNeAt.int_bool _ _ _⟩
  ·exact⟨SeqAt.RcAt.int_int _ _ _ _,SeqAt.RcNeAt.int_int _ _ _ _⟩
  ·exact⟨SeqAt.RcAt.int_str _ _ _ _,SeqAt.RcNeAt.int_str _ _ _ _⟩
  ·exact⟨SeqAt.RcAt.int_tuple _ _ q hu,SeqAt.RcNeAt.int_tuple _ _ q hu⟩
  ·exact⟨SeqAt.RcAt.int_list _ _ q hu,SeqAt.RcNeAt.int_list _ _ q hu⟩
 ·obtain⟨rfl,rfl⟩|⟨_,rfl,rfl⟩|⟨_,_,rfl,rfl⟩|⟨_,_,rfl,rfl⟩|⟨ys,_,_,rfl,rfl,q⟩|⟨ys,_,_,rfl,rfl,q⟩:=nH I hy ry
  ·exact⟨SeqAt.RcAt.str_none _ _,SeqAt.RcNeAt.str_none _ _⟩
  ·exact⟨SeqAt.RcAt.str_bool _ _ _,SeqAt.RcNeAt.str_bool _ _ _⟩
  ·exact⟨SeqAt.RcAt.str_int _ _ _ _,SeqAt.RcNeAt.str_int _ _ _ _⟩
  ·exact⟨SeqAt.RcAt.str_str _ _ _ _,SeqAt.RcNeAt.str_str _ _ _ _⟩
  ·exact⟨SeqAt.RcAt.str_tuple _ _ q hu,SeqAt.RcNeAt.str_tuple _ _ q hu⟩
  ·exact⟨SeqAt.RcAt.str_list _ _ q hu,SeqAt.RcNeAt.str_list _ _ q hu⟩
 ·obtain⟨rfl,rfl⟩|⟨_,rfl,rfl⟩|⟨_,_,rfl,rfl⟩|⟨_,_,rfl,rfl⟩|⟨ys,_,_,rfl,rfl,q⟩|⟨ys,_,_,rfl,rfl,q⟩:=nH I hy ry
  ·exact⟨SeqAt.RcAt.tuple_none p hu,SeqAt.RcNeAt.tuple_none p hu⟩
  ·exact⟨SeqAt.RcAt.tuple_bool _ p hu,SeqAt.RcNeAt.tuple_bool _ p hu⟩
  ·exact⟨SeqAt.RcAt.tuple_int _ _ p hu,SeqAt.RcNeAt.tuple_int _ _ p hu⟩
  ·exact⟨SeqAt.RcAt.tuple_str _ _ p hu,SeqAt.RcNeAt.tuple_str _ _ p hu⟩
  ·exact absurd ⟨rfl,rfl⟩ (nt xs ys)
  ·exact⟨SeqAt.RcAt.tuple_list p q hu,SeqAt.RcNeAt.tuple_list p q hu⟩
 ·obtain⟨rfl,rfl⟩|⟨_,rfl,rfl⟩|⟨_,_,rfl,rfl⟩|⟨_,_,rfl,rfl⟩|⟨ys,_,_,rfl,rfl,q⟩|⟨ys,_,_,rfl,rfl,q⟩:=nH I hy ry
  ·exact⟨SeqAt.RcAt.list_none p hu,SeqAt.RcNeAt.list_none p hu⟩
  ·exact⟨SeqAt.RcAt.list_bool _ p hu,SeqAt.RcNeAt.list_bool _ p hu⟩
  ·exact⟨SeqAt.RcAt.list_int _ _ p hu,SeqAt.RcNeAt.list_int _ _ p hu⟩
  ·exact⟨SeqAt.RcAt.list_str _ _ p hu,SeqAt.RcNeAt.list_str _ _ p hu⟩
  ·exact⟨SeqAt.RcAt.list_tuple p q hu,SeqAt.RcNeAt.list_tuple p q hu⟩
  ·exact absurd ⟨rfl,rfl⟩ (nl xs ys)
theorem A4{K:W.Frag}{x:T}{v:V}{u:oA}(h:Rq K H x v)(r:bS v u):∀b t,u≠.float b t:=λb t e=>by
 subst e;cases x with
 |tup _=>obtain⟨_,_,e,_⟩:=h;subst e;cases r
 |lst _=>obtain⟨_,_,e,_⟩:=h;subst e;cases r
 |non=>cases h;cases r
 |bl _=>cases h;cases r
 |int _=>cases h;obtain⟨_,r⟩:=r;cases r
 |str _=>cases h;obtain⟨_,r⟩:=r;cases r
theorem Pp(I:aZ X pins σ H s):∀(n:Nat)(A:oD)(x y:T)(v w:V)(u u':oA),dT x<=n->Rq X.K H x v->Rq X.K H y w->bS v u->bS w u'->A.units+n<qp->SeqAt.RcAt A s u u' (d6 x y)/\SeqAt.EqAt A s u u' (d6 x y):=by
 have fin:∀{A:oD}{x y:T}{v w:V}{u u':oA},Rq X.K H x v->Rq X.K H y w->bS v u->bS w u'->SeqAt.RcAt A s u u' (d6 x y)->SeqAt.RcAt A s u u' (d6 x y)/\SeqAt.EqAt A s u u' (d6 x y):=λ{A x y v w u u'}hx hy rx ry h=>⟨h,Mn h (λe=>by
   subst e;rw[Rq.inj I hx (by rw[AE rx ry];exact hy)];exact jS y) (A4 hx rx)⟩
 intro n
 induction n with
 |zero=>
  intro A x y v w u u' hd hx hy rx ry hu;refine fin hx hy rx ry ((Ae I ⋯ (λxs ys z=>?_) (λxs ys z=>?_) hx hy rx ry).1)
  ·rw[z.1]at hd;simp[dT]at hd
  ·rw[z.1]at hd;simp[dT]at hd
 |succ n ih=>
  intro A x y v w u u' hd hx hy rx ry hu;refine fin hx hy rx ry ?_
  by_cases c1:∃xs ys,x = .tup xs/\y = .tup ys
  ·obtain⟨xs,ys,rfl,rfl⟩:=c1;obtain⟨a,vs,rfl,q1,h1⟩:=hx;obtain⟨b,ws,rfl,q2,h2⟩:=hy;cases rx;cases ry;obtain⟨sf,r1,p1,_⟩:=I.tuple q1;obtain⟨js,r2,p2,_⟩:=I.tuple q2;have:=SeqAt.RcAt.tuples p1 p2 (A:=A) ⋯ (uT A.in1 r1 r2 h1 h2 λj x y v w u u' e1 e2 k1 k2 k3 k4=>(ih A.in1 x y v w u u' (by
    have:=zF (WI e1);simp only[dT]at hd;lia) k1 k2 k3 k4 (by show A.units+1+n<qp;lia)).2)
   rw[d6,kZ];have l1:=r1.length;have l2:=r2.length;have l3:=h1.length;have l4:=h2.length;have s1:sf.toArray.size=xs.length:=by simp;lia
   have s2:js.toArray.size=ys.length:=by simp;lia
   rw[s1,s2]at this;exact this
  ·by_cases c2:∃xs ys,x = .lst xs/\y = .lst ys
   ·obtain⟨xs,ys,rfl,rfl⟩:=c2;obtain⟨a,vs,rfl,q1,h1⟩:=hx;obtain⟨b,ws,rfl,q2,h2⟩:=hy;cases rx;cases ry;obtain⟨sf,r1,p1,_⟩:=I.list q1;obtain⟨js,r2,p2,_⟩:=I.list q2;have l1:=r1.length;have l2:=r2.length;have l3:=h1.length;have l4:=h2.length;have s1:sf.toArray.size=xs.length:=by simp;lia
    have s2:js.toArray.size=ys.length:=by simp;lia
    rw[d6,kZ]
    by_cases hl:xs.length=ys.length
    ·have:=SeqAt.RcAt.lists p1.isList p2.isList (A:=A) (by rw[s1,s2];exact hl) ⋯ (uT A.in1 r1 r2 h1 h2 λj x y v w u u' e1 e2 k1 k2 k3 k4=>(ih A.in1 x y v w u u' (by
      have:=zF (WI e1);simp only[dT]at hd;lia) k1 k2 k3 k4 (by show A.units+1+n<qp;lia)).2)
     rw[s1]at this;rw[<-hl,Nat.min_self,beq_self_eq_true,Bool.and_true];exact this
    ·have:=SeqAt.RcAt.lists_lengths p1.isList p2.isList (A:=A) (by rw[s1,s2];simpa using hl) ⋯;rw[show(xs.length==ys.length)=false by simpa using hl,jr];exact this
   ·exact(Ae I ⋯ (λxs ys z=>c1 ⟨xs,ys,z⟩) (λxs ys z=>c2 ⟨xs,ys,z⟩) hx hy rx ry).1
theorem AD(I:aZ X pins σ H s){A:oD}(n:Nat)(hd:dT x<=n)(hx:Rq X.K H x v)(hy:Rq X.K H y w)(rx:bS v u)(ry:bS w u')(hu:A.units+n<qp):SeqAt.RcNeAt A s u u' (!(d6 x y)):=by
 by_cases c1:∃xs ys,x = .tup xs/\y = .tup ys
 ·obtain⟨xs,ys,rfl,rfl⟩:=c1;obtain⟨a,vs,rfl,q1,h1⟩:=hx;obtain⟨b,ws,rfl,q2,h2⟩:=hy;cases rx;cases ry;obtain⟨sf,r1,p1,_⟩:=I.tuple q1;obtain⟨js,r2,p2,_⟩:=I.tuple q2;have:=SeqAt.RcNeAt.tuples p1 p2 (A:=A) ⋯ (uT A.in1 r1 r2 h1 h2 λj x y v w u u' e1 e2 k1 k2 k3 k4=>(Pp I (n-1) A.in1 x y v w u u' (by
   have:=zF (WI e1);simp only[dT]at hd;lia) k1 k2 k3 k4 (by show A.units+1+(n-1)<qp;simp only[dT]at hd;lia)).2)
  rw[d6,kZ];have l1:=r1.length;have l2:=r2.length;have l3:=h1.length;have l4:=h2.length;have s1:sf.toArray.size=xs.length:=by simp;lia
  have s2:js.toArray.size=ys.length:=by simp;lia
  rw[s1,s2]at this;exact this
 ·by_cases c2:∃xs ys,x = .lst xs/\y = .lst ys
  ·obtain⟨xs,ys,rfl,rfl⟩:=c2;obtain⟨a,vs,rfl,q1,h1⟩:=hx;obtain⟨b,ws,rfl,q2,h2⟩:=hy;cases rx;cases ry;obtain⟨sf,r1,p1,_⟩:=I.list q1;obtain⟨js,r2,p2,_⟩:=I.list q2;have l1:=r1.length;have l2:=r2.length;have l3:=h1.length;have l4:=h2.length;have s1:sf.toArray.size=xs.length:=by simp;lia
   have s2:js.toArray.size=ys.length:=by simp;lia
   rw[d6,kZ]
   by_cases hl:xs.length=ys.length
   ·have:=SeqAt.RcNeAt.lists p1.isList p2.isList (A:=A) (by rw[s1,s2];exact hl) ⋯ (uT A.in1 r1 r2 h1 h2 λj x y v w u u' e1 e2 k1 k2 k3 k4=>(Pp I (n-1) A.in1 x y v w u u' (by
     have:=zF (WI e1);simp only[dT]at hd;lia) k1 k2 k3 k4 (by show A.units+1+(n-1)<qp;simp only[dT]at hd;lia)).2)
    rw[s1]at this;rw[<-hl,Nat.min_self,beq_self_eq_true,Bool.and_true];exact this
   ·have:=SeqAt.RcNeAt.lists_lengths p1.isList p2.isList (A:=A) (by rw[s1,s2];simpa using hl) ⋯;rw[show(xs.length==ys.length)=false by simpa using hl,jr];exact this
  ·exact(Ae I ⋯ (λxs ys z=>c1 ⟨xs,ys,z⟩) (λxs ys z=>c2 ⟨xs,ys,z⟩) hx hy rx ry).2
end
section
variable{X:Cx}{K:W.Frag}{pos:Pos}{a b c e o:oC}{es:List oC}{Fa Fb Fo:FE}{Fr:FA}
def JE(K:W.Frag)(ng:Bool):R2:=λx y H Q=>∃t u,Rq K H t x/\Rq K H u y/\dT t<=60/\Q (.bl (if ng then !(d6 t u)else d6 t u)) H
theorem C3(hr:d5 k X.A):o8 X (ml .Eq) (JE X.K false):=by
 intro pins s σ H x y v u Q I rx ry h;obtain⟨t,w,h1,h2,hd,q⟩:=h;exact(Pp I 60 X.A t w x y v u hd h1 h2 rx ry (by have:=hr.units;lia)).1 X.prog X.w X.xe _ (Fu I q rfl)
theorem C5(hr:d5 k X.A):o8 X (ml .NotEq) (JE X.K true):=by
 intro pins s σ H x y v u Q I rx ry h;obtain⟨t,w,h1,h2,hd,q⟩:=h;exact AD I 60 hd h1 h2 rx ry (by have:=hr.units;lia) X.prog X.w X.xe _ (Fu I q rfl)
def t2(x y:Option T)(k:T->T->Prop):Prop:=match x,y with
 |some t,oZ u=>k t u
 |_,_=>False
theorem t2.ex{k:T->T->Prop}(h:t2 x y k):∃t u,x=oZ t/\y=oZ u/\k t u:=by
 unfold t2 at h;split at h
 ·exact⟨_,_,rfl,rfl,h⟩
 ·exact h.elim
def UM(Fa Fb:FE):FE:=λE Q=>Fa E λx E1=>Fb E1 λy E2=>t2 (vl E2 x) (vl E2 y) λt u=>dT t<=60/\Q (.p (.bl (d6 t u))) E2
def VM(Fa Fb:FE):FE:=λE Q=>Fa E λx E1=>Fb E1 λy E2=>t2 (vl E2 x) (vl E2 y) λt u=>dT t<=60/\Q (.p (.bl (!(d6 t u)))) E2
theorem De(eK:X.K=K)(hr:d5 k X.A)(ha:QE X a (aO K Fa))(hb:QE X b (aO K Fb))(hm:ma .Eq b=false):QE X (.Compare a [.Eq] [b] pos) (aO K (UM Fa Fb)):=by
 subst eK;refine(Su (C3 hr) ha hb hm).le λσ H Q hl h=>two (Fa:=Fa) (Fb:=Fb) h λB S E x y v w H2 Q' hS re rx ry q lk=>?_;obtain⟨t,u,e1,e2,hd,q⟩:=q.ex;exact⟨t,u,(re.vl rx e1).rq,(re.vl ry e2).rq,hd,lk _ _ _ _ _ q .refl re rfl⟩
end
section
variable{X:Cx}{K:W.Frag}{pos:Pos}{a b c e o:oC}{es:List oC}{Fa Fb Fc Fo:FE}{Fr:FA}
theorem Fy(ho:o8 X (ml op) r)(ha:QE X a (aO K Fa))(hb:QE X b (aO K Fb))(hm:ma op b=false)(k:∀σ H Q,aO K F σ H Q->M8 r (aO K Fa) (aO K Fb) σ H Q):QT X (.Compare a [op] [b] pos) (gY K (Es F)):=
 (Sx ho ha hb hm).le λσ H Q z=>k _ _ _ (EG z)
theorem BQ{g:Int->Int->Bool}(ho:o8 X (ml op) (Xg λi j=>.bl (g i j)))(ha:QE X a (aO K Fa))(hb:QE X b (aO K Fb))(hm:ma op b=false):QT X (.Compare a [op] [b] pos) (gY K (Es (SE g Fa Fb))):=
 Fy ho ha hb hm λσ H Q h=>two (Fa:=Fa) (Fb:=Fb) h λB S E x y v w H2 Q' hS re rx ry q lk=>by
  obtain⟨i,j,e1,e2,q⟩:=i2.ex q;exact⟨i,j,re.int rx e1,re.int ry e2,lk _ _ _ _ _ q .refl re rfl⟩
theorem gQ(eK:X.K=K)(hr:d5 k X.A)(ha:QE X a (aO K Fa))(hb:QE X b (aO K Fb))(hm:ma .Eq b=false):QT X (.Compare a [.Eq] [b] pos) (gY K (Es (UM Fa Fb))):=by
 subst eK;refine Fy (C3 hr) ha hb hm λσ H Q h=>two (Fa:=Fa) (Fb:=Fb) h λB S E x y v w H2 Q' hS re rx ry q lk=>?_;obtain⟨t,u,e1,e2,hd,q⟩:=t2.ex q;exact⟨t,u,(re.vl rx e1).rq,(re.vl ry e2).rq,hd,lk _ _ _ _ _ q .refl re rfl⟩
theorem sC(eK:X.K=K)(hr:d5 k X.A)(ha:QE X a (aO K Fa))(hb:QE X b (aO K Fb))(hm:ma .NotEq b=false):QT X (.Compare a [.NotEq] [b] pos) (gY K (Es (VM Fa Fb))):=by
 subst eK;refine Fy (C5 hr) ha hb hm λσ H Q h=>two (Fa:=Fa) (Fb:=Fb) h λB S E x y v w H2 Q' hS re rx ry q lk=>?_;obtain⟨t,u,e1,e2,hd,q⟩:=t2.ex q;exact⟨t,u,(re.vl rx e1).rq,(re.vl ry e2).rq,hd,lk _ _ _ _ _ q .refl re rfl⟩
def Zi:T->Bool
 |.non=>true
 |_=>false
theorem ML(h:Rq K H t v):decide (v = .non)=Zi t:=by
 cases t with
 |non=>cases h;rfl
 |bl _=>cases h;rfl
 |int _=>cases h;rfl
 |str _=>cases h;rfl
 |tup _=>obtain⟨_,_,e,_⟩:=h;subst e;rfl
 |lst _=>obtain⟨_,_,e,_⟩:=h;subst e;rfl
def LU(ng:Bool)(Fa:FE):FE:=λE Q=>Fa E λx E1=>o1 (vl E1 x) λt=>Q (.p (.bl (if ng then !(Zi t)else Zi t))) E1
theorem U6(h:aO K (LU false Fa) σ H Q):M8 (λx y H Q=>y = .non/\Q (.bl (decide (x = .non))) H) (aO K Fa) (tC .non) σ H Q:=
 one (Fa:=Fa) h λB S E x v H2 Q' hS re rx q lk=>by
  obtain⟨t,e1,q⟩:=o1.ex q;exact⟨rfl,by rw[ML (re.vl rx e1).rq];exact lk _ _ _ _ _ q .refl re rfl⟩
theorem FX{j p2}(ha:QE X a (aO K Fa))(hm:ma .Is (.Constant .none j p2)=false):QT X (.Compare a [.Is] [.Constant .none j p2] pos) (gY K (Es (LU false Fa))):=(Sx HG ha F4 hm).le λ_ _ _ h=>U6 (EG h)
def WD:T->Bool
 |.lst _=>true
 |_=>false
def WC:T->Bool
 |.bl _=>true
 |_=>false
def iA(xs:List T)(lo hi:Option Int):List T:=(xs.drop (HT.sIx xs.length 0 lo)).take (HT.sIx xs.length xs.length hi-HT.sIx xs.length 0 lo)
theorem Xu{O:jz->Prop}{lo hi:Option Int}(h:dN K H O xs vs):dN K H O (iA xs lo hi) (Jr vs lo hi):=by
 unfold iA Jr;rw[h.length];exact(h.drop _).take _
abbrev FO:=En->(Option Int->En->Prop)->Prop
def Lq(K:W.Frag)(F:FO):TO:=λσ H Q=>∃B S E Q',(∃τ,S=σ++τ)/\RE K B H S E/\F E Q'/\∀b E' H' S',Q' b E'->Gr B H S E H' S' E'->RE K B H' S' E'->Q b H'
theorem QO.le{e:Option oC}{t t':TO}(h:QO X e t)(m:∀σ H Q,t' σ H Q->t σ H Q):QO X e t':=⟨λpins s σ H Q I z=>h.h pins s σ H Q I (m σ H Q z)⟩
def MP:FO:=λE Q=>Q none E
def MQ(Fa:FE):FO:=λE Q=>Fa E λx E1=>i1 (vl E1 x) λi=>Q (oZ i) E1
theorem nA:QO X none (Lq K MP):=Z6.le λσ H Q⟨B,S,E,Q',hS,re,hF,lk⟩=>lk _ _ _ _ hF .refl re
theorem g8(h:QE X e (aO K Fa)):QO X (oZ e) (Lq K (MQ Fa)):=(Z7 h).le λσ H Q⟨B,S,E,Q',hS,re,hF,lk⟩=>⟨B,S,E,_,hS,re,hF,λr E1 v H1 S1 q g uk rr=>by
 obtain⟨i,e1,q⟩:=i1.ex q;exact⟨i,uk.int rr e1,lk _ _ _ _ q g uk⟩⟩
variable{Gl' Gh:FO}
def SU(Fa:FE)(Gl' Gh:FO):FE:=λE Q=>Fa E λx E1=>Gl' E1 λlo E2=>Gh E2 λhi E3=>match vl E3 x with
 |some (.lst xs)=>Q (.s E3.length) (E3++[oZ (.o false (iA xs lo hi))])
 |_=>False
theorem iJ{lo hi:Option oC}(eK:X.K=K)(he:QE X e (aO K Fa))(hl:QO X lo (Lq K Gl'))(hu:QO X hi (Lq K Gh)):QE X (.Subscript e (.Slice lo hi none p2) pos) (aO K (SU Fa Gl' Gh)):=by
 subst eK;refine(Lc AQ he hl hu).le λσ H Q _⟨B,S,E,Q',⟨τ,hS⟩,re,hF,lk⟩=>⟨B,S,E,_,⟨τ,hS⟩,re,hF,λx E1 v H1 S1 q g1 uk rx=>?_⟩;obtain⟨τ1,zm⟩:=g1.pre;refine⟨B,S1,E1,_,⟨τ++τ1,by rw[zm,hS,XB]⟩,uk,q,λl E2 H2 S2 q2 g2 xu=>?_⟩;obtain⟨τ2,hS2⟩:=g2.pre;refine⟨B,S2,E2,_,⟨τ++τ1++τ2,by rw[hS2,zm,hS,XB,XB,XB]⟩,xu,q2,λh E3 H3 S3 q3 g3 zd=>?_⟩;have rx3:=(rx.step g2).step g3;split at q3
 ·rename_i xs e1;obtain⟨a,vs,e2,sq,rs⟩:=zd.vl rx3 e1;refine⟨a,vs,e2,sq,λp hp=>?_⟩;obtain⟨g,ui⟩:=zd.lst hp (Xu (lo:=l) (hi:=h) rs);exact lk _ _ _ _ _ q3 (((g1.trans g2).trans g3).trans g) ui (by rw[<-zd.len];exact mI)
 ·exact q3.elim
def ownOf(E:En):R->Option (List T)
 |.s j=>match E[j]? with
  |some (oZ (.o _ xs))=>oZ xs
  |_=>none
 |_=>none
theorem RE.ownOf{B:jz->Prop}(re:RE K B H S E)(h:RR K B H S E r v)(e:L2.ownOf E r=oZ xs):∃j k a vs,r = .s j/\E[j]?=oZ (oZ (.o k xs))/\S[j]?=oZ (oZ (.ref a))/\v = .ref a/\H a=oZ (.lst vs)/\dN K H (Ow B S E) xs vs:=by
 cases r with
 |p _=>cases e
 |s j=>
  cases q:E[j]? with
  |none=>simp only[L2.ownOf,q]at e;cases e
  |some u=>
   cases u with
   |none=>simp only[L2.ownOf,q]at e;cases e
   |some u=>
    cases u with
    |p _=>simp only[L2.ownOf,q]at e;cases e
    |o k ys=>
     simp only[L2.ownOf,q]at e;cases e;obtain⟨a,vs,h1,h2,h3,_⟩:=re.own j k xs q;have h':S[j]?=oZ (oZ v):=h;rw[h']at h1;cases h1;exact⟨j,k,a,vs,rfl,q,h',rfl,h2,h3⟩
def l2(x y:Option (List T))(k:List T->List T->Prop):Prop:=match x,y with
 |some t,oZ u=>k t u
 |_,_=>False
theorem l2.ex{k:List T->List T->Prop}(h:l2 x y k):∃t u,x=oZ t/\y=oZ u/\k t u:=by
 unfold l2 at h;split at h
 ·exact⟨_,_,rfl,rfl,h⟩
 ·exact h.elim
def SD(Fa Fb:FE):FE:=λE Q=>Fa E λx E1=>Fb E1 λy E2=>l2 (ownOf E2 x) (ownOf E2 y) λxs ys=>xs.length+ys.length<=9000/\Q (.s E2.length) (E2++[oZ (.o false (xs++ys))])
theorem m9(ha:QE X a (aO K Fa))(hb:QE X b (aO K Fb)):QE X (.BinOp a .Add b pos) (aO K (SD Fa Fb)):=by
 refine(Ab HF ha hb).le λσ H Q hl h=>two (Fa:=Fa) (Fb:=Fb) h λB S E x y v w H2 Q' hS re rx ry q lk=>?_;obtain⟨xs,ys,e1,e2,hz,q⟩:=l2.ex q;obtain⟨j,k,p,vs,_,_,_,rfl,h2,h3⟩:=re.ownOf rx e1;obtain⟨j',k',p',vs',_,_,_,rfl,h2',h3'⟩:=re.ownOf ry e2;refine⟨p,p',vs,vs',rfl,rfl,h2,h2',by rw[h3.length,h3'.length];exact YA (cL hz),λr hr=>?_⟩;obtain⟨g,ui⟩:=re.lst hr (h3.append h3');exact lk _ _ _ _ _ q g ui (by rw[<-re.len];exact mI)
def G3(k:Int)(xs:List T):List T:=(WN k.toNat xs).flatten
theorem G4{O:jz->Prop}(h:dN K H O xs vs):∀n:Nat,dN K H O (WN n xs).flatten (WN n vs).flatten
 |0=>by simp[dN]
 |n+1=>by rw[YE,YE,YV,YV];exact h.append (G4 h n)
def SQ(Fa Fb:FE):FE:=λE Q=>Fa E λx E1=>Fb E1 λy E2=>o1 (ownOf E2 x) λxs=>i1 (vl E2 y) λk=>(-(2^63)<=k/\k<2^63/\xs.length*k.toNat<=9000)/\Q (.s E2.length) (E2++[oZ (.o false (G3 k xs))])
theorem Yp(ha:QE X a (aO K Fa))(hb:QE X b (aO K Fb)):QE X (.BinOp a .Mult b pos) (aO K (SQ Fa Fb)):=by
 refine(Ab HI ha hb).le λσ H Q hl h=>two (Fa:=Fa) (Fb:=Fb) h λB S E x y v w H2 Q' hS re rx ry q lk=>?_;obtain⟨xs,e1,q⟩:=o1.ex q;obtain⟨k,e2,⟨c1,c2,c3⟩,q⟩:=i1.ex q;obtain⟨j,kk,p,vs,_,_,_,rfl,h2,h3⟩:=re.ownOf rx e1;refine⟨p,k,vs,rfl,re.int ry e2,h2,c1,c2,by rw[h3.length];exact YA (cL c3),λr hr=>?_⟩;obtain⟨g,ui⟩:=re.lst hr (G4 h3 k.toNat);exact lk _ _ _ _ _ q g ui (by rw[<-re.len];exact mI)
def S5(Fr:FA):FE:=λE Q=>Fr E λrs E1=>match rs with
 |[x]=>o1 ((vl E1 x).bind NX) λxs=>Q (.s E1.length) (E1++[oZ (.o false xs)])
 |_=>False
theorem Vl(eK:X.K=K)(hg:Gl X "list")(hm:X.mg "list" = none)(ha:QA X (e::es) (dB K n Fr))(hs:b8 (e::es)=true:=by rfl):QE X (.Call (.Name "list" p) (e::es) [] pos) (aO K (S5 Fr)):=by
 subst eK;refine(sZ Ey hg hm (by decide +kernel) ha ∅ ∅ hs).le λσ H Q hl h=>args (Fr:=Fr) h λB S E rs vs H2 Q' hS re rr hn q lk=>?_;obtain _|⟨x,_|⟨_,_⟩⟩:=rs
 ·exact False.elim q
 ·obtain⟨v,ws,e1,h1,h2⟩:=rr;cases h2;subst e1;obtain⟨xs,e2,q⟩:=o1.ex q;obtain⟨t,e3,e2⟩:=jc.mp e2;have rt:=re.vl h1 e3;have:∃p us,v = .ref p/\(m7 X.K H2 p us\/xD X.K H2 p us)/\dN X.K H2 (Ow B S E) xs us:=by
   cases t with
   |tup ys=>cases e2;obtain⟨p,us,e,sq,rs⟩:=rt;exact⟨p,us,e,.inr sq,rs⟩
   |lst ys=>cases e2;obtain⟨p,us,e,sq,rs⟩:=rt;exact⟨p,us,e,.inl sq,rs⟩
   |_=>cases e2
  obtain⟨p,us,rfl,sq,rs⟩:=this;refine⟨p,us,rfl,sq,λr hr=>?_⟩;obtain⟨g,ui⟩:=re.lst hr rs;exact lk _ _ _ _ _ q g ui (by rw[<-re.len];exact mI)
 ·exact False.elim q
def EX(Fr:FA):FE:=λE Q=>Fr E λrs E1=>match rs with
 |[x]=>(match vl E1 x with
  |some (.lst xs)=>Q (.p (.tup xs)) E1
  |_=>False)
 |_=>False
theorem Jx(eK:X.K=K)(hg:Gl X "tuple")(hm:X.mg "tuple" = none)(ha:QA X (e::es) (dB K n Fr))(hs:b8 (e::es)=true:=by rfl):QE X (.Call (.Name "tuple" p) (e::es) [] pos) (aO K (EX Fr)):=by
 subst eK;refine(sZ Bi hg hm (by decide +kernel) ha ∅ ∅ hs).le λσ H Q hl h=>args (Fr:=Fr) h λB S E rs vs H2 Q' hS re rr hn q lk=>?_;obtain _|⟨x,_|⟨_,_⟩⟩:=rs
 ·exact False.elim q
 ·obtain⟨v,ws,e1,h1,h2⟩:=rr;cases h2;subst e1;simp only at q;split at q
  ·rename_i xs e2;obtain⟨p,us,rfl,sq,rs⟩:=re.vl h1 e2;refine⟨p,us,rfl,.inl ⟨sq,λr hr=>?_⟩⟩;obtain⟨g,ui,rp⟩:=re.tup hr rs;exact lk _ _ _ _ _ q g ui rp
  ·exact q.elim
 ·exact False.elim q
def Cu:List T->Option (List Bool)
 |[]=>oZ []
 |.bl b::xs=>(Cu xs).map (b::·)
 |_=>none
theorem Xp{O:jz->Prop}:∀{xs:List T}{vs:List V}{bs:List Bool},dN K H O xs vs->Cu xs=oZ bs->vs=bs.map V.bl
 |[],_,_,h,e=>by cases e;exact h
 |.bl b::xs,_,bs,⟨v,r,e1,h1,h2⟩,e=>by
  cases q:Cu xs with
  |none=>rw[Cu,q]at e;cases e
  |some cs=>
   rw[Cu,q]at e;cases e;cases h1;rw[e1,Xp h2 q];rfl
 |.non::_,_,_,_,e=>by cases e
 |.int _::_,_,_,_,e=>by cases e
 |.str _::_,_,_,_,e=>by cases e
 |.tup _::_,_,_,_,e=>by cases e
 |.lst _::_,_,_,_,e=>by cases e
def RZ(Fr:FA):FE:=λE Q=>Fr E λrs E1=>match rs with
 |[x]=>(match vl E1 x with
  |some (.lst xs)=>o1 (Cu xs) λbs=>Q (.p (.bl (bs.all id))) E1
  |_=>False)
 |_=>False
theorem FF(eK:X.K=K)(hc:X.calm=true)(hg:Gl X "all")(hm:X.mg "all" = none)(ha:QA X (e::es) (dB K n Fr))(hs:b8 (e::es)=true:=by rfl):QE X (.Call (.Name "all" p) (e::es) [] pos) (aO K (RZ Fr)):=by
 subst eK;refine(kK (Ur hc) hg hm boot_all ha ∅ ∅ hs).le λσ H Q hl h=>args (Fr:=Fr) h λB S E rs vs H2 Q' hS re rr hn q lk=>?_;obtain _|⟨x,_|⟨_,_⟩⟩:=rs
 ·exact False.elim q
 ·obtain⟨v,ws,e1,h1,h2⟩:=rr;cases h2;subst e1;simp only at q;split at q
  ·rename_i xs e2;obtain⟨p,us,rfl,sq,rs⟩:=re.vl h1 e2;obtain⟨bs,e3,q⟩:=o1.ex q;refine⟨p,bs,rfl,by rw[<-Xp rs e3];exact sq,lk _ _ _ _ _ q .refl re rfl⟩
  ·exact q.elim
 ·exact False.elim q
def Fl(f:List T->R->En->Option (List T))(Fo:FE)(Fr:FA):FE:=λE Q=>Fo E λo E1=>o1 (ownOf E1 o) λ_=>Fr E1 λrs E2=>match o,rs with
 |.s j,[r]=>(match E2[j]? with
  |some (oZ (.o k xs))=>o1 (f xs r E2) λys=>ys.length<=9000/\Q (.p .non) (E2.set j (oZ (.o k ys)))
  |_=>False)
 |_,_=>False
def LC(xs:List T)(r:R)(E:En):Option (List T):=match r with
 |.p t=>oZ (xs++[t])
 |_=>none
def LL(xs:List T)(r:R)(E:En):Option (List T):=(ownOf E r).map (xs++·)
theorem Zv{r:V->List V->Hp->VK->Prop}(eK:X.K=K)(h:aO K (Fl f Fo Fr) σ H Q)(hr:∀(B:jz->Prop)(S:St)(E:En)(H2:Hp)(xs ys:List T)(rr:R)(y:V)(p:jz)(vs:List V)(Q:VK),RE K B H2 S E->RR K B H2 S E rr y->f xs rr E=oZ ys->H2 p=oZ (.lst vs)->dN K H2 (Ow B S E) xs vs->ys.length<=9000->
   (∀ws,dN K H2 (Ow B S E) ys ws->Q .non (upd H2 p (.lst ws)))->r (.ref p) [y] H2 Q):KO X.K "list" r (aO K Fo) (dB K n Fr) σ H Q:=by
 subst eK;obtain⟨B,S,E,Q',⟨τ,hS⟩,re,hF,lk⟩:=h;refine⟨B,S,E,_,⟨τ,hS⟩,re,hF,λoo E1 v H1 S1 q g1 uk rx=>?_⟩;obtain⟨τ1,zm⟩:=g1.pre;obtain⟨xs0,e0,q⟩:=o1.ex q;obtain⟨j,k,p,vs,rfl,hE,hSj,rfl,h2,h3⟩:=uk.ownOf rx e0;refine⟨.inl ⟨rfl,vs,m7.of h2⟩,B,S1,E1,_,⟨τ++τ1,by rw[zm,hS,XB]⟩,uk,q,λrs E2 us H2 S2 q2 g2 xu rr hn=>?_⟩;have aDM:S2[j]?=oZ (oZ (.ref p)):=iX g2.pre hSj;obtain _|⟨r',_|⟨_,_⟩⟩:=rs
 ·exact False.elim q2
 ·obtain⟨y,ws,e1,k1,k2⟩:=rr;cases k2;subst e1;simp only at q2;split at q2
  ·rename_i k2 xs hE2;obtain⟨ys,e3,hz,q2⟩:=o1.ex q2;obtain⟨p',vs2,z1,z2,z3,_⟩:=xu.own j k2 xs hE2;rw[aDM]at z1;cases z1;refine hr B S2 E2 H2 xs ys r' y p vs2 Q xu k1 e3 z2 z3 hz λws hw=>?_;obtain⟨g3,zd⟩:=xu.put hE2 aDM hw;exact lk _ _ _ _ _ q2 ((g1.trans g2).trans g3) zd rfl
  ·exact q2.elim
 ·exact False.elim q2
theorem dP(eK:X.K=K)(ho:QE X o (aO K Fo))(ha:QA X [e] (dB K n Fr))(wb:mj o "append" X.env (lq o X.env)=lq o X.env:=by rfl)(wc:(ap.endLine==pos.line)=true:=by rfl)(hs:bG e=false:=by rfl):
  QE X (.Call (.Attribute o "append" ap) [e] [] pos) (aO K (Fl LC Fo Fr)):=
 (Du ho ha wb wc hs).le λσ H Q hl h=>Zv eK h λB S E H2 xs ys rr y p vs Q re rx e hp hv hz k=>by
  cases rr with
  |s _=>cases e
  |p t=>
   cases e;refine⟨p,vs,y,rfl,rfl,hp,?_,k _ (hv.append ⟨y,[],rfl,rx,rfl⟩)⟩;rw[hv.length];rw[WK]at hz;exact cL (by simp at hz;lia)
theorem rD(eK:X.K=K)(ho:QE X o (aO K Fo))(ha:QA X [e] (dB K n Fr))(wb:mj o "extend" X.env (lq o X.env)=lq o X.env:=by rfl)(wc:(ap.endLine==pos.line)=true:=by rfl)(hs:bG e=false:=by rfl):
  QE X (.Call (.Attribute o "extend" ap) [e] [] pos) (aO K (Fl LL Fo Fr)):=
 QE.le (t:=KO X.K "list" Sy (aO K Fo) (dB K n Fr)) ⟨Sn PySem.F.plainAttrs_list PySem.F.slot_list_extend PySem.F.type_list_extend Vu ho.h ha.h wb (by rw[cW hs];rfl) wc (cW hs) (gZ rfl)⟩ λσ H Q hl h=>Zv eK h λB S E H2 xs ys rr y p vs Q re rx e hp hv hz k=>by
  unfold LL at e;cases q:ownOf E rr with
  |none=>rw[q]at e;cases e
  |some zs=>
   rw[q]at e;cases e;obtain⟨j,kk,p',vs',_,_,_,rfl,h2,h3⟩:=re.ownOf rx q;refine⟨p,p',vs,vs',rfl,rfl,hp,h2,?_,k _ (hv.append h3)⟩;rw[hv.length,h3.length];rw[WK]at hz;exact YA (cL hz)
end
abbrev iN(h:oE)(T:jz)(xs:Array oA):Prop:=h.get? T=oZ { cls:=.type "tuple",data:=.seq xs }
theorem Ba(a b c:oA):checkTypeCall "zip" ⟨[a,b,c],[]⟩=pure ():=by kernel_rfl
theorem Bm(a b c:oA):checkBuiltinCall "zip.__new__" ⟨[.type "zip",a,b,c],[]⟩=pure ():=by kernel_rfl
theorem sM(a b c d:oA):argsOk "object.__init__" ⟨[a,b,c,d],[]⟩:=by
 unfold argsOk;rw[signature?_of (id:="object.__init__") (n:=['_','_','t','i','n','i','_','_']) (o:=['t','c','e','j','b','o']) (by kernel_rfl) PySem.F.owner_object];kernel_rfl
abbrev PZ(h:oE)(a:jz):oE:=h.push { cls:=.type "list_iterator",data:=.fields #[.ref a,.int 0 0] }
abbrev QC(h:oE)(a b:jz):oE:=(PZ h a).push { cls:=.type "list_iterator",data:=.fields #[.ref b,.int 0 0] }
abbrev QD(h:oE)(a b c:jz):oE:=(QC h a b).push { cls:=.type "list_iterator",data:=.fields #[.ref c,.int 0 0] }
abbrev QF(h:oE)(a b c:jz):oE:=(QD h a b c).push { cls:=.type "tuple",data:=.seq #[.ref h.objs.size,.ref (PZ h a).objs.size,.ref (QC h a b).objs.size] }
abbrev QH(h:oE)(a b c:jz):oE:=(QF h a b c).push { cls:=.type "tuple",data:=.seq #[.none,.none,.none] }
abbrev Xe(h:oE)(a b c:jz):oE:=(QH h a b c).push { cls:=.type "zip",data:=.fields #[.none,.bool false,.bool false,.ref (QD h a b c).objs.size,.ref (QF h a b c).objs.size] }
theorem P2(a b c:jz)(xs ys zs:Array oA):
  Meets (Builtin.«zip.__new__» ⟨[.type "zip",.ref a,.ref b,.ref c],[]⟩) (λ_ R s=>s.heap.IsList a xs/\s.heap.IsList b ys/\s.heap.IsList c zs/\R (.ok (.ret (.ref (QH s.heap a b c).objs.size))) { s with heap:=Xe s.heap a b c }):=
 .of_wp λprog w A R s h=>by
  obtain⟨hp,g,d,tk,os⟩:=s;obtain⟨ga,gb,gc,h⟩:=h;have aI7:=sub_zip;have gA:Heap.IsList (Shared.heap ⟨hp,g,d,tk,os⟩) a xs:=ga;have gB:Heap.IsList (Shared.heap ⟨hp.push { cls:=.type "list_iterator",data:=.fields #[.ref a,.int 0 0] },g,d,tk,os⟩) b ys:=Heap.IsList.push gb _;have gC:Heap.IsList (Shared.heap ⟨(hp.push { cls:=.type "list_iterator",data:=.fields #[.ref a,.int 0 0] }).push { cls:=.type "list_iterator",data:=.fields #[.ref b,.int 0 0] },g,d,tk,os⟩) c zs:=Heap.IsList.push (Heap.IsList.push gc _) _
  wp_walk using wpAny_pyIter_list gA,wpAny_pyIter_list gB,wpAny_pyIter_list gC
  exact⟨_,rfl,h⟩
theorem Uy{prog:kg}{w:ko}{A:oD}{E:oA->oB->Prop}{s:oB}{a b c:jz}{xs ys zs:Array oA}{Q:oA->oB->Prop}(ga:s.heap.IsList a xs)(gb:s.heap.IsList b ys)(gc:s.heap.IsList c zs)
  (g:∀h',qw h' (s.heap.objs.size+5) (s.heap.objs.size+3) (s.heap.objs.size+4) .none->iN h' (s.heap.objs.size+3) #[.ref s.heap.objs.size,.ref (s.heap.objs.size+1),.ref (s.heap.objs.size+2)]->iN h' (s.heap.objs.size+4) #[.none,.none,.none]->
   h'.IsListIter s.heap.objs.size a 0->h'.IsListIter (s.heap.objs.size+1) b 0->h'.IsListIter (s.heap.objs.size+2) c 0->(∀c o,s.heap.get? c=oZ o->h'.get? c=oZ o)->Q (.ref (s.heap.objs.size+5)) { s with heap:=h' }) :
  kh (km prog w) A (call (.type "zip") [.ref a,.ref b,.ref c]) Q E s:=by
 refine callType_new F.called_zip ∅ (Ba _ _ _) (Bm _ _ _) (λobj=>sM obj _ _ _) F.entry_zip_new (P2 a b c xs ys zs) ⟨ga,gb,gc,?_⟩;have y1:(PZ s.heap a).objs.size=s.heap.objs.size+1:=YK ..;have y2:(QC s.heap a b).objs.size=s.heap.objs.size+2:=by rw[YK,y1]
 have y3:(QD s.heap a b c).objs.size=s.heap.objs.size+3:=by rw[YK,y2]
 have y4:(QF s.heap a b c).objs.size=s.heap.objs.size+4:=by rw[YK,y3]
 have y5:(QH s.heap a b c).objs.size=s.heap.objs.size+5:=by rw[YK,y4]
 have p5:∀{d:jz}{o:Obj},(QH s.heap a b c).get? d=oZ o->(Xe s.heap a b c).get? d=oZ o:=λe=>WL _ e;have p4:∀{d:jz}{o:Obj},(QF s.heap a b c).get? d=oZ o->(Xe s.heap a b c).get? d=oZ o:=λe=>p5 (WL _ e);have p3:∀{d:jz}{o:Obj},(QD s.heap a b c).get? d=oZ o->(Xe s.heap a b c).get? d=oZ o:=λe=>p4 (WL _ e);have p2:∀{d:jz}{o:Obj},(QC s.heap a b).get? d=oZ o->(Xe s.heap a b c).get? d=oZ o:=λe=>p3 (WL _ e);have p1:∀{d:jz}{o:Obj},(PZ s.heap a).get? d=oZ o->(Xe s.heap a b c).get? d=oZ o:=λe=>p2 (WL _ e);have p0:∀{d:jz}{o:Obj},s.heap.get? d=oZ o->(Xe s.heap a b c).get? d=oZ o:=λe=>p1 (WL _ e);have x6:(Xe s.heap a b c).get? (QH s.heap a b c).objs.size=oZ _:=WV _ rfl;have x5:(Xe s.heap a b c).get? (QF s.heap a b c).objs.size=oZ _:=p5 (WV _ rfl);have x4:(Xe s.heap a b c).get? (QD s.heap a b c).objs.size=oZ _:=p4 (WV _ rfl);have x3:(Xe s.heap a b c).get? (QC s.heap a b).objs.size=oZ _:=p3 (WV _ rfl);have x2:(Xe s.heap a b c).get? (PZ s.heap a).objs.size=oZ _:=p2 (WV _ rfl);have x1:(Xe s.heap a b c).get? s.heap.objs.size=oZ _:=p1 (WV _ rfl);show _/\_;rw[y3,y4,y5]at x6;rw[y1,y2,y3]at x4;rw[y4]at x5;rw[y2]at x3;rw[y1]at x2;rw[y5];exact⟨⟨_,x6,rfl⟩,g _ x6 x4 x5 ⟨_,x1,rfl,rfl⟩ ⟨_,x2,rfl,rfl⟩ ⟨_,x3,rfl,rfl⟩ λc o e=>p0 e⟩
structure ZQ where
 κ:Bool
 a:jz
 it:jz
 items:Array oA
structure ZA(z TI TO:jz)(ps:List ZQ):Prop where
 tz:TI≠z
 oz:TO≠z
 to:TI≠TO
 iz:∀p∈ps,p.it≠z/\p.it≠TI/\p.it≠TO
 az:∀p∈ps,p.a≠z/\p.a≠TO
 ai:∀p∈ps,∀q∈ps,p.a≠q.it
 ii:∀(i j:Nat)(p q:ZQ),ps[i]?=oZ p->ps[j]?=oZ q->p.it=q.it->i=j
section
variable{prog:kg}{w:ko}{A:oD}{E:oA->oB->Prop}{s:oB}
theorem Yt{α β:Type}{M:Model}{body:α->β->Sem (ForInStep β)}{b0:β}(xs:List α):∀(m:Nat)(W:Nat->oB->Prop)(s:oB)(Q:β->oB->Prop),m<=xs.length->
  (∀j x s,j<m->xs[j]?=oZ x->W j s->kh M A (body x b0) (λr s'=>r = .yield b0/\W (j+1) s') E s)->W 0 s->(m=xs.length->∀s',W m s'->Q b0 s')->(∀y s',xs[m]?=oZ y->W m s'->kh M A (body y b0) (λ_ _=>False) E s')->kh M A (forIn xs b0 body) Q E s:=by
 induction xs with
 |nil=>
  intro m W s Q hl hs h0 hq hm;rw[List.forIn_nil];have e:m=0:=Nat.le_zero.mp hl;subst e;exact kq (hq rfl s h0)
 |cons x xs ih=>
  intro m W s Q hl hs h0 hq hm;rw[List.forIn_cons];cases m with
  |zero=>exact kc (eC (hm x s rfl h0) λ_ _ z=>z.elim)
  |succ m=>
   refine kc (eC (hs 0 x s ⋯ rfl h0) λr s' zz=>?_);obtain⟨e,h1⟩:=zz;subst e;exact ih m (λj=>W (j+1)) s' Q (by simpa using hl) (λj z s'' hj hz hw=>hs (j+1) z s'' ⋯ (by simpa using hz) hw) h1 (λe=>hq (by simp[e])) (λy s'' h=>hm y s'' (by simpa using h))
def ZW(s:oB)(z TI TO:jz)(ps:List ZQ)(k j:Nat)(s':oB):Prop:=∃(h:oE)(tk:Nat),s' = { s with heap:=h,toks:=tk }/\qw h z TI TO .ellipsis/\
 (∃cur:Array oA,iN h TO cur/\cur.size=ps.length/\∀(l:Nat)(q:ZQ),l<j->ps[l]?=oZ q->∃x,q.items[k]?=oZ x/\cur[l]?=oZ x)/\
 (∀(l:Nat)(q:ZQ),ps[l]?=oZ q->kP q.κ h q.it q.a (if l<j then k+1 else k)/\yW q.κ h q.a q.items)/\
 (∀c o,c≠z->c≠TO->(∀q∈ps,c≠q.it)->s.heap.get? c=oZ o->h.get? c=oZ o)/\h.objs.size=s.heap.objs.size
theorem yW.at(x:yW κ h a sf)(e:∀o,h.get? a=oZ o->h'.get? a=oZ o):yW κ h' a sf:=by
 cases κ
 ·exact Heap.IsList.at x e
 ·exact Heap.IsTuple.at x e
theorem lX{ps:List ZQ}{l:Nat}(h:ps[l]?=oZ q):q∈ps:=WI h
theorem QJ{z TI TO:jz}{ps:List ZQ}{k j:Nat}{q:ZQ}(hA:A.handled=none)(ap:ZA z TI TO ps)(hl:ps.length<=9000)(hq:ps[j]?=oZ q)(hk:k<q.items.size){s':oB}(W:ZW s z TI TO ps k j s'){Q:Option oA->oB->Prop}
  (g:∀x s2,(∃(h:oE)(tk:Nat),s2 = { s with heap:=h,toks:=tk }/\q.items[k]?=oZ x/\qw h z TI TO .ellipsis/\
    (∃cur:Array oA,iN h TO cur/\cur.size=ps.length/\∀(l:Nat)(q:ZQ),l<j->ps[l]?=oZ q->∃x,q.items[k]?=oZ x/\cur[l]?=oZ x)/\
    (∀(l:Nat)(q:ZQ),ps[l]?=oZ q->kP q.κ h q.it q.a (if l<j+1 then k+1 else k)/\yW q.κ h q.a q.items)/\
    (∀c o,c≠z->c≠TO->(∀q∈ps,c≠q.it)->s.heap.get? c=oZ o->h.get? c=oZ o)/\h.objs.size=s.heap.objs.size)->Q (oZ x) s2) :
  kh (km prog w) A (Builtin.SmallTypes.nextOf (.ref q.it) >>= λx=>pure (oZ x)) Q E s':=by
 obtain⟨h,tk,rfl,hz,⟨cur,c1,c2,c3⟩,hi,kp,szh⟩:=W;have hqm:=lX hq;have D:=Ya (prog:=prog) (w:=w) q.κ hA q.it q.a (ap.ai q hqm q hqm) q.items;obtain⟨i1,i2⟩:=hi j q hq;rw[oW (Nat.lt_irrefl j)]at i1;refine kc (D.item k _ _ _ hk ⟨i1,i2⟩ λx hb tb px gb sb=>kq (g x _ ⟨hb,tb,rfl,px,?_,⟨cur,?_,c2,c3⟩,λl p hp=>?_,λc o n1 n2 n3 e=>?_,?_⟩))
 ·exact sb.extBut _ _ (Ne.symm (ap.iz q hqm).1) hz
 ·exact sb.extBut _ _ (Ne.symm (ap.iz q hqm).2.2) c1
 ·by_cases e:l=j
  ·subst e;rw[hq]at hp;cases hp;rw[oV (ZV _)];exact gb
  ·obtain⟨a1,a2⟩:=hi l p hp;have ne:p.it≠q.it:=λz=>e (ap.ii l j p q hp hq z);have el:(if l<j+1 then k+1 else k)=(if l<j then k+1 else k):=by
    by_cases c:l<j
    ·rw[oV c,oV ⋯]
    ·rw[oW c,oW ⋯]
   rw[el];exact⟨a1.at λo x=>sb.extBut _ _ ne x,a2.at λo x=>sb.extBut _ _ (ap.ai p (lX hp) q hqm) x⟩
 ·exact sb.extBut _ _ (n3 q hqm) (kp c o n1 n2 n3 e)
 ·rw[sb.1];exact szh
theorem Uk{z TI TO:jz}{ps:List ZQ}{k m:Nat}{old:Array oA}{Q:Fin->oB->Prop}(hA:A.handled=none)(ap:ZA z TI TO ps)(zw:ps≠[])(hl:ps.length<=9000)
  (gz:qw s.heap z TI TO .none) (gI:iN s.heap TI (ps.map λp=>YB p.it).toArray) (gO:iN s.heap TO old) (ho:old.size=ps.length)
  (gi:∀p∈ps,kP p.κ s.heap p.it p.a k/\yW p.κ s.heap p.a p.items) (hml:m<=ps.length) (gk:∀(j:Nat)(q:ZQ),j<m->ps[j]?=oZ q->k<q.items.size) (hpk:∀p,ps[m]?=oZ p->p.items.size=k)
  (gq:m=ps.length->∀(xs:List oA)h' tk,xs.length=ps.length->(∀(l:Nat)(q:ZQ),ps[l]?=oZ q->∃x,q.items[k]?=oZ x/\xs[l]?=oZ x)->qw h' z TI TO (rawInt s.heap.objs.size)->(∃cur:Array oA,iN h' TO cur/\cur.size=ps.length)->
   (∀p∈ps,kP p.κ h' p.it p.a (k+1))->iN h' s.heap.objs.size xs.toArray->h'.objs.size=s.heap.objs.size+1->
   (∀c o,c≠z->c≠TO->(∀q∈ps,c≠q.it)->s.heap.get? c=oZ o->h'.get? c=oZ o)->Q (.done (.ret (.ref s.heap.objs.size))) { s with heap:=h',toks:=tk })
  (ge:m<ps.length->∀h' tk e,(∀c o,c≠z->c≠TO->(∀q∈ps,c≠q.it)->s.heap.get? c=oZ o->h'.get? c=oZ o)->(∃o,h'.get? e=oZ o/\o.cls = .type "StopIteration")->E (.ref e) { s with heap:=h',toks:=tk }) :
  kh (km prog w) A (Builtin.«zip.__next__» ⟨[.ref z],[]⟩) Q E s:=by
 show kh _ _ (field (.ref z) 2 >>= _) _ _ _;refine kc (nj gz rfl (x:=.bool false) rfl ?_);show kh _ _ (field (.ref z) 3 >>= _) _ _ _;refine kc (nj gz rfl (x:=.ref TI) rfl (kc (qq gI rfl ?_)));have hem:((ps.map λp=>YB p.it).toArray).isEmpty=false:=by
  cases ps with
  |nil=>exact absurd rfl zw
  |cons p r=>simp
 simp only[hem,Bool.false_eq_true,if_false];refine kc ?_;unfold Builtin.SmallTypes.ownedTupleIsFree;refine kc (nj gz rfl (x:=.none) rfl (kq ?_));simp only[if_true];refine kc (rg (kc (nj gz rfl (x:=.ref TO) rfl (kc (qm gz (by simp) λha za sa=>?_)))));have za':qw ha z TI TO .ellipsis:=za;refine kc ?_;have W0:ZW s z TI TO ps k 0 { s with heap:=ha }:=by
  refine⟨ha,s.toks,rfl,za',⟨old,sa.extBut _ _ ap.oz gO,ho,λl q h=>absurd h (fh _)⟩,λl q hq=>?_,λc o n1 n2 n3 e=>sa.extBut _ _ n1 e,sa.1⟩;obtain⟨g1,g2⟩:=gi q (lX hq);rw[oW (fh _)];exact⟨g1.at λo e=>sa.extBut _ _ (ap.iz q (lX hq)).1 e,g2.at λo e=>sa.extBut _ _ (ap.az q (lX hq)).1 e⟩
 have atj:∀{j:Nat}{x:oA×Nat},(List.zipIdx (ps.map λp=>YB p.it).toArray.toList)[j]?=oZ x->∃q,ps[j]?=oZ q/\x=(YB q.it,j):=λ{j x}hx=>by
  rw[List.getElem?_zipIdx]at hx;simp only[WH,Option.map_map]at hx;cases q:ps[j]? with
  |none=>simp[q]at hx
  |some p=>simp[q]at hx;exact⟨p,rfl,hx.symm⟩
 have ll:(List.zipIdx (ps.map λp=>YB p.it).toArray.toList).length=ps.length:=by simp
 refine Yt _ m (ZW s z TI TO ps k) _ _ (by rw[ll];exact hml) (λj x s' hjm hx hW=>?_) W0 (λem s' hW=>?_) (λy s' hy hW=>?_)
 ·obtain⟨q,hq,rfl⟩:=atj hx;have hj:j<ps.length:=(WE.mp hq).1;refine kc (wpAny_onRaise ?_);show kh _ _ (Builtin.SmallTypes.nextOf (.ref q.it) >>= _) _ _ _;refine QJ hA ap hl hq (gk j q hjm hq) hW λx s2 zZ=>?_;obtain⟨h,tk,es,px,hz,⟨cur,c1,c2,c3⟩,hi,kp,szh⟩:=zZ;subst es;have c1':h.get? TO=oZ { cls:=.type "tuple",data:=.seq cur }:=c1;refine kc (qq c1' rfl (kc (wpAny_updateSeq c1' rfl ?_ (by rw[c2];exact YA (cL hl)) (by simp;rw[c2];exact Nat.le_succ_of_le (YA (cL hl))))));refine kc (wpAny_letGo (kq ⟨rfl,?_⟩));have su:cg TO h (h.update TO (af (·.setIfInBounds j x))):=Heap.SameBut.update ..;have gu:iN (h.update TO (af (·.setIfInBounds j x))) TO (cur.setIfInBounds j x):=by
   show(h.update TO (af (·.setIfInBounds j x))).get? TO=_;rw[dz _ c1' rfl];simp[af]
  refine⟨_,tk,rfl,su.extBut _ _ (Ne.symm ap.oz) hz,⟨_,gu,by simp[c2],λl p hl' hp=>?_⟩,λl p hp=>?_,λc o n1 n2 n3 e=>su.extBut _ _ n2 (kp c o n1 n2 n3 e),by rw[su.1];exact szh⟩
  ·by_cases e:l=j
   ·subst e;rw[hq]at hp;cases hp;exact⟨x,px,by rw[Array.getElem?_setIfInBounds_self_of_lt (by rw[c2];exact hj)]⟩
   ·obtain⟨y,y1,y2⟩:=c3 l p ⋯ hp;exact⟨y,y1,by rw[Array.getElem?_setIfInBounds_ne (λz=>e z.symm)];exact y2⟩
  ·obtain⟨a1,a2⟩:=hi l p hp;exact⟨a1.at λo e=>su.extBut _ _ (ap.iz p (lX hp)).2.2 e,a2.at λo e=>su.extBut _ _ (ap.az p (lX hp)).2 e⟩
 ·rw[ll]at em;obtain⟨he,tk,rfl,hz,⟨cur,c1,c2,c3⟩,hi,kp,szh⟩:=hW;have c1':he.get? TO=oZ { cls:=.type "tuple",data:=.seq cur }:=c1;refine kc (qq c1' rfl (kc (wpAny_newTuple ?_ (by simp;rw[c2];exact YA (cL hl)))));have zlt:z<he.objs.size:=WR hz;show kh _ _ (Builtin.SmallTypes.ownedTupleHandOut (.ref z) (.ref he.objs.size) >>= _) _ _ _;refine kc ?_;unfold Builtin.SmallTypes.ownedTupleHandOut;have zf:qw (he.push { cls:=.type "tuple",data:=.seq cur.toList.toArray }) z TI TO .ellipsis:=WL _ hz;refine kc (qm zf (by simp) λhg zg sg=>?_);have zg':qw hg z TI TO (rawInt he.objs.size):=zg;refine qm zg' (by simp) λhh zh sh=>?_;have zh':qw hh z TI TO (rawInt he.objs.size):=zh;have up:∀c o,c≠z->he.get? c=oZ o->hh.get? c=oZ o:=λc o q e=>sh.extBut _ _ q (sg.extBut _ _ q (WL _ e));have gTh:iN hh he.objs.size cur.toList.toArray:=sh.extBut _ _ (Nat.ne_of_gt zlt) (sg.extBut _ _ (Nat.ne_of_gt zlt) (WV _ rfl));have szz:hh.objs.size=he.objs.size+1:=by rw[sh.1,sg.1,YK]
  rw[szh]at zh' gTh szz;refine kq ?_;show Q (.done (.ret (.ref he.objs.size))) _;rw[szh];refine gq em cur.toList hh tk (by simp[c2]) (λl q hq=>?_) zh' ⟨cur,up _ _ ap.oz c1,c2⟩ (λp hp=>?_) gTh szz λc o n1 n2 n3 e=>up c o n1 (kp c o n1 n2 n3 e)
  ·obtain⟨x,x1,x2⟩:=c3 l q (by rw[em];exact(WE.mp hq).1) hq;exact⟨x,x1,by simpa using x2⟩
  ·obtain⟨l,hl'⟩:=YT hp;obtain⟨a1,_⟩:=hi l p hl';rw[em,oV (WE.mp hl').1]at a1;exact a1.at λo e=>up _ _ (ap.iz p hp).1 e
 ·obtain⟨h,tk,rfl,hz,_,hi,kp,szh⟩:=hW;obtain⟨p,hm,rfl⟩:=atj hy;have hpm:=lX hm;have hpk:=hpk p hm;have D:=Ya (prog:=prog) (w:=w) p.κ hA p.it p.a (ap.ai p hpm p hpm) p.items;obtain⟨i1,i2⟩:=hi m p hm;rw[oW (Nat.lt_irrefl m)]at i1;refine kc (wpAny_onRaise ?_);show kh _ _ (Builtin.SmallTypes.nextOf (.ref p.it) >>= _) _ _ _;refine kc (D.done _ _ _ (by rw[hpk];exact⟨i1,i2⟩) λhb e sb he=>?_);obtain⟨oe,q1,q2⟩:=he;have sb':Heap.ExtBut p.it h hb:=sb;have zb:qw hb z TI TO .ellipsis:=sb' _ _ (Ne.symm (ap.iz p hpm).1) hz;have hez:e≠z:=λx=>by subst x;rw[zb]at q1;cases q1;simp at q2
  exact qm zb (by simp) λhc _ sc=>ge (WE.mp hm).1 hc tk e (λc o c1 c2 c3 x=>sc.extBut _ _ c1 (sb' _ _ (c3 p hpm) (kp c o c1 c2 c3 x))) ⟨oe,sc.extBut _ _ hez q1,q2⟩
end
def Ir(κ:Bool)(K:W.Frag)(H:Hp)(a:jz)(xs:List V):Prop:=match κ with
 |true=>xD K H a xs
 |false=>m7 K H a xs
theorem aZ.sqK(I:aZ X pins σ H s)(h:Ir κ X.K H a xs):∃sf:List oA,bI xs sf/\yW κ s.heap a sf.toArray:=by
 cases κ
 ·obtain⟨sf,r,p,_⟩:=I.list h;exact⟨sf,r,p.isList⟩
 ·obtain⟨sf,r,p,_⟩:=I.tuple h;exact⟨sf,r,p⟩
theorem aZ.sqK_inj(I:aZ X pins σ H s)(h:Ir κ X.K H a xs)(h':Ir κ X.K H a ys):xs=ys:=by
 cases κ
 ·exact I.list_inj h h'
 ·exact I.tuple_inj h h'
theorem aZ.notfp(I:aZ X pins σ H s)(h:Ir κ X.K H a xs)(f:tX X pins H b):a≠b:=by
 have kk:∀{o:Obj},X.K.lookup a=oZ o->a≠b:=λ{o}hk z=>by
  have hb:X.base.get? a=oZ o:=I.mod.kin a o hk;subst z;obtain z|z:=f.2.2.2.1
  ·exact I.ok.noex a o hb z
  ·exact absurd (WZ (WZ (WR hb) I.ok.bsz) z) (Nat.lt_irrefl _)
 have hh:∀{u:HO},Rd H a u->a≠b:=λ{u}r z=>by
  subst z;have:=f.1;obtain r|⟨o,r⟩:=r
  ·rw[this]at r;cases r
  ·rw[this]at r;cases r
 cases κ
 ·obtain h|⟨o,sf,n,hk,_⟩:=h
  ·exact hh h
  ·exact kk hk
 ·obtain h|⟨o,sf,n,hk,_⟩:=h
  ·exact hh h
  ·exact kk hk
theorem RX(I:aZ X pins σ H s):∀(ps:List (Bool×jz))(sf:List jz),sf.length=ps.length->(∀p∈ps,∃xs,Ir p.1 X.K H p.2 xs)->
  ∃qs:List ZQ,qs.map (λq=>(q.κ,q.a))=ps/\qs.map (·.it)=sf/\∀q∈qs,yW q.κ s.heap q.a q.items/\∃xs,Ir q.κ X.K H q.a xs/\bI xs q.items.toList
 |[],[],_,_=>⟨[],rfl,rfl,λq h=>absurd h (by simp)⟩
 |[],_::_,e,_=>by simp at e
 |_::_,[],e,_=>by simp at e
 |p::ps,it::sf,e,h=>by
  obtain⟨qs,h1,h2,h3⟩:=RX I ps sf (by simpa using e) λq hq=>h q (by simp[hq]);obtain⟨xs,hx⟩:=h p (by simp);obtain⟨vs,r,sk⟩:=I.sqK hx;refine⟨⟨p.1,p.2,it,vs.toArray⟩::qs,by simp[h1],by simp[h2],λq hq=>?_⟩;obtain rfl|hq:=WM.mp hq
  ·exact⟨sk,xs,hx,by simpa using r⟩
  ·exact h3 q hq
def KR(K:W.Frag)(ps:List (Bool×jz)):It:=
  ⟨λi H=>∀p∈ps,∃xs x,Ir p.1 K H p.2 xs/\xs[i]?=oZ x,
   λi H v H'=>∃(q:jz)(ys:List V),v = .ref q/\H q=none/\H'=upd H q (.tup ys)/\ys.length=ps.length/\∀(j:Nat)(p:Bool×jz)(y:V),ps[j]?=oZ p->ys[j]?=oZ y->∀xs,Ir p.1 K H p.2 xs->xs[i]?=oZ y,
   λi H=>(∀p∈ps,∃xs,Ir p.1 K H p.2 xs)/\∃(m:Nat)(p:Bool×jz),ps[m]?=oZ p/\(∃xs,Ir p.1 K H p.2 xs/\xs.length=i)/\∀(j:Nat)(q:Bool×jz),j<m->ps[j]?=oZ q->∃xs x,Ir q.1 K H q.2 xs/\xs[i]?=oZ x⟩
def ZT(z TI TO:jz)(ps:List (Bool×jz))(sf:List jz)(i:Nat)(h:oE):Prop:=qw h z TI TO .none/\iN h TI (sf.map YB).toArray/\(∃old:Array oA,iN h TO old/\old.size=ps.length)/\
 ∀(j:Nat)(p:Bool×jz)(it:jz),ps[j]?=oZ p->sf[j]?=oZ it->kP p.1 h it p.2 i
theorem Ef{P:kg}{w:ko}{K:W.Frag}{elts:List oC}{x1}{yg:Pos}(z TI TO:jz)(ps:List (Bool×jz))(sf:List jz)(hl:sf.length=ps.length)(zw:ps≠[])(hz:ps.length<=9000)(nd:(z::TI::TO::sf).Nodup):
  Em P w K (.Tuple elts x1 yg) (KR K ps) (z::TI::TO::sf) z (ZT z TI TO ps sf):=by
 simp only[YS,WM,not_or]at nd;obtain⟨⟨n1,n2,n3⟩,⟨n4,n5⟩,n6,n7⟩:=nd;have apart:∀{X:Cx}{pins:List (jz×Obj)}{σ:St}{H:Hp}{s:oB}{qs:List ZQ},aZ X pins σ H s->(∀c∈z::TI::TO::sf,tX X pins H c)->qs.map (·.it)=sf->(∀q∈qs,∃xs,Ir q.κ X.K H q.a xs)->ZA z TI TO qs:=by
  intro X pins σ H s qs I hf e1 hq;have mi:∀q∈qs,q.it∈sf:=λq hq=>by rw[<-e1];exact bq hq
  refine⟨λe=>n1 e.symm,λe=>n2 e.symm,n4,λp hp=>⟨λe=>n3 (e ▸ mi p hp),λe=>n5 (e ▸ mi p hp),λe=>n6 (e ▸ mi p hp)⟩,λp hp=>?_,λp hp q hq'=>?_,λi j p q hi hj e=>?_⟩
  ·obtain⟨xs,hx⟩:=hq p hp;exact⟨I.notfp hx (hf z (by simp)),I.notfp hx (hf TO (by simp))⟩
  ·obtain⟨xs,hx⟩:=hq p hp;exact I.notfp hx (hf q.it (by simp[mi q hq']))
  ·have zx:sf[i]?=oZ p.it:=by rw[<-e1,WH,hi];rfl
   have hj':sf[j]?=oZ q.it:=by rw[<-e1,WH,hj];rfl
   exact(gn (WE.mp zx).1 n7).mp (by rw[zx,hj',e])
 refine⟨by simp,λi h st c hc=>?_,λi h h' st k=>?_,?_,?_,λ_ _ _ _ _ st h=>wpAny_pyIter_zip st.1 h⟩
 ·obtain⟨s1,s2,⟨old,s3,_⟩,s4⟩:=st;simp only[WM]at hc;obtain rfl|rfl|rfl|hc:=hc
  ·exact⟨_,s1,λv z=>by cases z⟩
  ·exact⟨_,s2,λv z=>by cases z⟩
  ·exact⟨_,s3,λv z=>by cases z⟩
  ·obtain⟨j,hj⟩:=YT hc;have hjl:j<ps.length:=by rw[<-hl];exact(WE.mp hj).1
   exact(s4 j _ c (WG hjl) hj).obj
 ·obtain⟨s1,s2,⟨old,s3,s3'⟩,s4⟩:=st;exact⟨k z (by simp) _ s1,k TI (by simp) _ s2,⟨old,k TO (by simp) _ s3,s3'⟩,λj p it hp hit=>(s4 j p it hp hit).at λo e=>k it (by simp[WI hit]) o e⟩
 ·intro X hP hw hK hc i pins s σ H E I hf st hg;subst hP hw hK;obtain⟨s1,s2,⟨old,s3,s3'⟩,s4⟩:=st;obtain⟨qs,e1,e2,h3⟩:=RX I ps sf hl λp hp=>let⟨xs,_,h,_⟩:=hg p hp;⟨xs,h⟩;have hlq:qs.length=ps.length:=by rw[<-e1,WJ]
  have ap:=apart I hf e2 λq hq=>let⟨_,xs,h,_⟩:=h3 q hq;⟨xs,h⟩;have hA:X.A.in1.handled=none:=I.ok.hd hc;have hzz:s.TypeIs (.ref z) "zip":=⟨_,s1,rfl⟩;have atp:∀{j:Nat}{q:ZQ},qs[j]?=oZ q->ps[j]?=oZ (q.κ,q.a)/\sf[j]?=oZ q.it:=λ{j q}h=>⟨by rw[<-e1,WH,h];rfl,by rw[<-e2,WH,h];rfl⟩;have gi:∀q∈qs,kP q.κ s.heap q.it q.a i/\yW q.κ s.heap q.a q.items:=λq hq=>by
   obtain⟨j,hj⟩:=YT hq;exact⟨s4 j _ _ (atp hj).1 (atp hj).2,(h3 q hq).1⟩
  have gk:∀q∈qs,i<q.items.size:=λq hq=>by
   obtain⟨j,hj⟩:=YT hq;obtain⟨xs,x,q1,q2⟩:=hg _ (WI (atp hj).1);obtain⟨_,ys,r1,r2⟩:=h3 q hq;rw[I.sqK_inj q1 r1]at q2;have:=(WE.mp q2).1;have:=r2.length;simp at this
   lia
  have gI:iN s.heap TI (qs.map λp=>YB p.it).toArray:=by
   have:(qs.map λp=>YB p.it)=sf.map YB:=by rw[<-e2,List.map_map];rfl
   rw[this];exact s2
  unfold pyNext;refine kc (wpAny_attempt (wpAny_callSpecial?_slot (name:=XI "__next__") hzz F.slot_zip_next (oy F.slot_zip_next hzz F.entry_zip_next
   (Uk hA ap (λz=>by rw[z]at hlq;exact zw (YO (by simpa using hlq.symm))) ⋯ s1 gI s3 ⋯ gi (WO _) (λ_ q _ h=>gk q (lX h)) (λp h=>by simp at h) (λ_ vs h' tk lv pv zz zo g1 zt sz kp=>⟨_,rfl,kq ?_⟩) (λh=>absurd h (Nat.lt_irrefl _))) (F.args_zip_next_1 _))))
  refine⟨_,rfl,wpAny_letOwnedTupleGo_zip zz λh2 z2 sb=>?_⟩;have hzn:z≠s.heap.objs.size:=XM (WR s1);have kk:∀c o,c∉z::TI::TO::sf->s.heap.get? c=oZ o->h2.get? c=oZ o:=λc o hc q=>by
   simp only[WM,not_or]at hc;refine sb.extBut c o hc.1 (kp c o hc.1 hc.2.2.1 (λq' hq' e=>hc.2.2.2 ?_) q);rw[e,<-e2];exact bq hq'
  -- the items,as they are told
  obtain⟨ys,hys,ry⟩:∃ys:List V,(ys.length=ps.length/\∀(j:Nat)(p:Bool×jz)(y:V),ps[j]?=oZ p->ys[j]?=oZ y->∀xs,Ir p.1 X.K H p.2 xs->xs[i]?=oZ y)/\bI ys vs:=by
   have dJ:∀(n:Nat)(rs:List ZQ)(us:List oA),rs.length=n->us.length=n->(∀q∈rs,∃xs,Ir q.κ X.K H q.a xs/\bI xs q.items.toList)->(∀(l:Nat)(q:ZQ),rs[l]?=oZ q->∃x,q.items[i]?=oZ x/\us[l]?=oZ x)->
     ∃ys:List V,ys.length=n/\bI ys us/\∀(j:Nat)(q:ZQ)(y:V),rs[j]?=oZ q->ys[j]?=oZ y->∀xs,Ir q.κ X.K H q.a xs->xs[i]?=oZ y:=by
    intro n
    induction n with
    |zero=>
     intro rs us h1 h2 _ _;refine⟨[],rfl,?_,λj q y hq=>?_⟩
     ·rw[YO h2];exact .nil
     ·rw[YO h1]at hq;simp at hq
    |succ n ih=>
     intro rs us h1 h2 h4 h5
     match rs,us,h1,h2 with
     |q::rs,u::us,h1,h2=>
      obtain⟨ys,l1,l2,l3⟩:=ih rs us (by simpa using h1) (by simpa using h2) (λq' hq'=>h4 q' (by simp[hq'])) (λl q' hq'=>by have:=h5 (l+1) q' (by simpa using hq');simpa using this);obtain⟨xs,a1,a2⟩:=h4 q (by simp);obtain⟨x,b1,b2⟩:=h5 0 q rfl;simp at b2;subst b2;have b1':q.items.toList[i]?=oZ u:=by simpa using b1
      have hi:i<xs.length:=by rw[a2.length];exact(WE.mp b1').1
      obtain⟨u',c1,c2⟩:=a2.get (WG hi);rw[b1']at c1;cases c1;refine⟨xs[i]::ys,by simp[l1],.cons c2 l2,λj q' y hq hy zs hz'=>?_⟩;cases j with
      |zero=>
       simp at hq hy;subst hq;subst hy;rw[I.sqK_inj hz' a1];exact WG hi
      |succ j=>exact l3 j q' y (by simpa using hq) (by simpa using hy) zs hz'
   obtain⟨ys,l1,l2,l3⟩:=dJ qs.length qs vs rfl lv (λq hq=>(h3 q hq).2) pv;refine⟨ys,⟨⋯,λj p y hp hy xs hx=>?_⟩,l2⟩;have hjl:j<qs.length:=by rw[hlq];exact(WE.mp hp).1
   have hq:=WG hjl;have:=(atp hq).1;rw[hp]at this;cases this;exact l3 j _ y hq hy xs hx
  have new:eD X.prog X.w (upd H s.heap.objs.size (.tup ys)) h2 s.heap.objs.size (.tup ys):=
   ⟨by rw[hys.1];exact YA (cL hz),vs,ry,⟨_,sb.extBut _ _ (Ne.symm hzn) zt,rfl,_,rfl⟩⟩
  have up:∀{c:jz}{o:Obj},c≠z->h'.get? c=oZ o->h2.get? c=oZ o:=λhc q=>sb.extBut _ _ hc q;refine⟨.ref s.heap.objs.size,upd H s.heap.objs.size (.tup ys),I.turnedLaid (t':=tk) (ch:=z::TI::TO::sf) kk hf (WO _) new,rfl,
   ⟨_,ys,rfl,I.hok.fresh (WO _),rfl,hys.1,hys.2⟩,⟨z2,up (λe=>n1 e.symm) (kp _ _ (λe=>n1 e.symm) n4 (λq hq=>λe=>(ap.iz q hq).2.1 e.symm) s2),?_,λj p it hp hit=>?_⟩,λc hc=>?_⟩
  ·obtain⟨cur,u1,u2⟩:=zo;exact⟨cur,up ap.oz u1,⋯⟩
  ·have hjl:j<qs.length:=by rw[hlq];exact(WE.mp hp).1
   have hq:=WG hjl;have q1:=(atp hq).1;have q2:=(atp hq).2;rw[hp]at q1;cases q1;rw[hit]at q2;cases q2;exact(g1 _ (ZL hjl)).at λo e=>up (ap.iz _ (ZL hjl)).1 e
  ·have yc:c<s.heap.objs.size:=by
    simp only[WM]at hc;obtain rfl|rfl|rfl|hc:=hc
    ·exact WR s1
    ·exact WR s2
    ·exact WR s3
    ·obtain⟨j,hj⟩:=YT hc;have hjl:j<ps.length:=by rw[<-hl];exact(WE.mp hj).1
     obtain⟨o,e,_⟩:=(s4 j _ c (WG hjl) hj).obj;exact WR e
   rw[bH (XM yc)];exact(hf c hc).1
 ·intro X hP hw hK hc i pins s σ H E I hf st hg;subst hP hw hK;obtain⟨aE5,m,pm,hm,⟨xm,hxm,hlm⟩,hb⟩:=hg;obtain⟨s1,s2,⟨old,s3,s3'⟩,s4⟩:=st;obtain⟨qs,e1,e2,h3⟩:=RX I ps sf hl aE5;have hlq:qs.length=ps.length:=by rw[<-e1,WJ]
  have ap:=apart I hf e2 λq hq=>let⟨_,xs,h,_⟩:=h3 q hq;⟨xs,h⟩;have hA:X.A.in1.handled=none:=I.ok.hd hc;have hzz:s.TypeIs (.ref z) "zip":=⟨_,s1,rfl⟩;have atp:∀{j:Nat}{q:ZQ},qs[j]?=oZ q->ps[j]?=oZ (q.κ,q.a)/\sf[j]?=oZ q.it:=λ{j q}h=>⟨by rw[<-e1,WH,h];rfl,by rw[<-e2,WH,h];rfl⟩;have gi:∀q∈qs,kP q.κ s.heap q.it q.a i/\yW q.κ s.heap q.a q.items:=λq hq=>by
   obtain⟨j,hj⟩:=YT hq;exact⟨s4 j _ _ (atp hj).1 (atp hj).2,(h3 q hq).1⟩
  have gI:iN s.heap TI (qs.map λp=>YB p.it).toArray:=by
   have:(qs.map λp=>YB p.it)=sf.map YB:=by rw[<-e2,List.map_map];rfl
   rw[this];exact s2
  have hml:m<qs.length:=by rw[hlq];exact(WE.mp hm).1
  have hqm:=WG hml;have hpm:qs[m].items.size=i:=by
   have q1:=(atp hqm).1;rw[hm]at q1;cases q1;obtain⟨_,ys,r1,r2⟩:=h3 _ (ZL hml);rw[I.sqK_inj hxm r1]at hlm;have:=r2.length;simp at this
   lia
  have gk:∀(j:Nat)(q:ZQ),j<m->qs[j]?=oZ q->i<q.items.size:=λj q hj hq=>by
   obtain⟨xs,x,q1,q2⟩:=hb j _ hj (atp hq).1;obtain⟨_,ys,r1,r2⟩:=h3 q (lX hq);rw[I.sqK_inj q1 r1]at q2;have:=(WE.mp q2).1;have:=r2.length;simp at this
   lia
  unfold pyNext;refine kc (wpAny_attempt (wpAny_callSpecial?_slot (name:=XI "__next__") hzz F.slot_zip_next (oy F.slot_zip_next hzz F.entry_zip_next
   (Uk hA ap (λz=>by rw[z]at hml;cases hml) ⋯ s1 gI s3 ⋯ gi (YA hml) gk (λp h=>by rw[hqm]at h;cases h;exact hpm) (λe=>absurd e (XM hml)) λ_ h' tk e kp he=>?_) (F.args_zip_next_1 _))))
  obtain⟨o,ho,hco⟩:=he;refine kc (wpAny_isInstance (T:="StopIteration") (b:=true) ⟨o,ho,hco⟩ isSubtype_stop (kq ⟨rfl,?_⟩));refine I.turnedL (t':=tk) (ch:=z::TI::TO::sf) (λc o hc q=>?_) hf;simp only[WM,not_or]at hc;refine kp c o hc.1 hc.2.2.1 (λq' hq' e=>hc.2.2.2 ?_) q;rw[e,<-e2];exact bq hq'
def jA:List T->List T->List T
 |x::xs,y::ys=>.tup [x,y]::jA xs ys
 |_,_=>[]
def kB:List T->List T->List T->List T
 |x::xs,y::ys,z::zs=>.tup [x,y,z]::kB xs ys zs
 |_,_,_=>[]
theorem kM:∀xs ys:List T,(jA xs ys).length=min xs.length ys.length
 |[],_=>by simp[jA]
 |_::_,[]=>by simp[jA]
 |_::xs,_::ys=>by simp[jA,kM xs ys]
theorem rJ:∀xs ys zs:List T,(kB xs ys zs).length=min xs.length (min ys.length zs.length)
 |[],_,_=>by simp[kB]
 |_::_,[],_=>by simp[kB]
 |_::_,_::_,[]=>by simp[kB]
 |_::xs,_::ys,_::zs=>by simp[kB,rJ xs ys zs]
theorem rA:∀{xs ys:List T}{i:Nat}{t:T},(jA xs ys)[i]?=oZ t->∃x y,xs[i]?=oZ x/\ys[i]?=oZ y/\t = .tup [x,y]
 |[],_,_,_,h=>by simp[jA]at h
 |_::_,[],_,_,h=>by simp[jA]at h
 |x::_,y::_,0,_,h=>by simp[jA]at h;exact⟨x,y,rfl,rfl,h.symm⟩
 |_::xs,_::ys,i+1,t,h=>by
  obtain⟨x,y,h1,h2,h3⟩:=rA (xs:=xs) (ys:=ys) (i:=i) (t:=t) (by simpa[jA]using h);exact⟨x,y,by simpa using h1,by simpa using h2,h3⟩
theorem Be:∀{xs ys zs:List T}{i:Nat}{t:T},(kB xs ys zs)[i]?=oZ t->∃x y z,xs[i]?=oZ x/\ys[i]?=oZ y/\zs[i]?=oZ z/\t = .tup [x,y,z]
 |[],_,_,_,_,h=>by simp[kB]at h
 |_::_,[],_,_,_,h=>by simp[kB]at h
 |_::_,_::_,[],_,_,h=>by simp[kB]at h
 |x::_,y::_,z::_,0,_,h=>by simp[kB]at h;exact⟨x,y,z,rfl,rfl,rfl,h.symm⟩
 |_::xs,_::ys,_::zs,i+1,t,h=>by
  obtain⟨x,y,z,h1,h2,h3,h4⟩:=Be (xs:=xs) (ys:=ys) (zs:=zs) (i:=i) (t:=t) (by simpa[kB]using h);exact⟨x,y,z,by simpa using h1,by simpa using h2,by simpa using h3,h4⟩
def Xa(κ:Bool)(xs:List T):T:=match κ with
 |true=>.tup xs
 |false=>.lst xs
theorem lB{K:W.Frag}{H:Hp}{O:jz->Prop}{κ:Bool}{xs:List T}{a:jz}(h:Rp K H O (Xa κ xs) (.ref a)):∃vs,Ir κ K H a vs/\dN K H O xs vs:=by
 cases κ
 ·obtain⟨a',vs,e,h1,h2⟩:=Rp.sqL h;cases e;exact⟨vs,h1,h2⟩
 ·obtain⟨a',vs,e,h1,h2⟩:=Rp.sqT h;cases e;exact⟨vs,h1,h2⟩
theorem Sa{K:W.Frag}{κ:Bool}{a b:jz}{xs ys:List T}:Bf K (KR K [(κ,a),(κ,b)]) (jA xs ys) (λH O=>Rp K H O (Xa κ xs) (.ref a)/\Rp K H O (Xa κ ys) (.ref b)):=by
 refine⟨λH H' O O' k h=>⟨Rp.step k h.1,Rp.step k h.2⟩,λi H O h hi=>?_,λi H O x H' t h e hO y=>?_,λH O h=>?_⟩
 ·obtain⟨vs,s1,r1⟩:=lB h.1;obtain⟨ws,s2,r2⟩:=lB h.2;rw[kM]at hi;intro p hp;simp only[WM,YF,or_false]at hp;obtain rfl|rfl:=hp
  ·exact⟨vs,vs[i]'(by rw[r1.length];lia),s1,WG _⟩
  ·exact⟨ws,ws[i]'(by rw[r2.length];lia),s2,WG _⟩
 ·obtain⟨vs,s1,r1⟩:=lB h.1;obtain⟨ws,s2,r2⟩:=lB h.2;obtain⟨q,us,e1,hq,e2,lu,hu⟩:=y;subst e1;subst e2;obtain⟨t1,t2,g1,g2,rfl⟩:=rA e;obtain⟨v1,a1,b1⟩:=r1.get g1;obtain⟨v2,a2,b2⟩:=r2.get g2;obtain _|⟨u1,_|⟨u2,_|⟨_,_⟩⟩⟩:=us
  ·cases lu
  ·cases lu
  ·have z1:=hu 0 _ u1 rfl rfl vs s1;have z2:=hu 1 _ u2 rfl rfl ws s2;rw[a1]at z1;cases z1;rw[a2]at z2;cases z2;have k:Kp O O H (upd H q (.tup [v1,v2])):=Kp.upd hq;exact⟨k,λb o z=>by rw[bH (bB z hq)];exact z,q,_,rfl,.inl ⟨λz=>hO q z hq,cZ⟩,v1,_,rfl,b1.step k,v2,_,rfl,b2.step k,rfl⟩
  ·cases lu
 ·obtain⟨vs,s1,r1⟩:=lB h.1;obtain⟨ws,s2,r2⟩:=lB h.2;have l1:=r1.length;have l2:=r2.length;refine⟨λp hp=>?_,?_⟩
  ·simp only[WM,YF,or_false]at hp;obtain rfl|rfl:=hp
   ·exact⟨vs,s1⟩
   ·exact⟨ws,s2⟩
  ·rw[kM]
   by_cases c:xs.length<=ys.length
   ·exact⟨0,_,rfl,⟨vs,s1,⋯⟩,λj q hj=>absurd hj (fh _)⟩
   ·refine⟨1,_,rfl,⟨ws,s2,⋯⟩,λj q hj hq=>?_⟩;obtain rfl:j=0:=⋯
    cases hq;exact⟨vs,vs[min xs.length ys.length]'⋯,s1,WG _⟩
theorem U8{K:W.Frag}{κ:Bool}{a b c:jz}{xs ys zs:List T}:Bf K (KR K [(κ,a),(κ,b),(κ,c)]) (kB xs ys zs) (λH O=>Rp K H O (Xa κ xs) (.ref a)/\Rp K H O (Xa κ ys) (.ref b)/\Rp K H O (Xa κ zs) (.ref c)):=by
 refine⟨λH H' O O' k h=>⟨Rp.step k h.1,Rp.step k h.2.1,Rp.step k h.2.2⟩,λi H O h hi=>?_,λi H O x H' t h e hO y=>?_,λH O h=>?_⟩
 ·obtain⟨vs,s1,r1⟩:=lB h.1;obtain⟨ws,s2,r2⟩:=lB h.2.1;obtain⟨us,s3,r3⟩:=lB h.2.2;rw[rJ]at hi;intro p hp;simp only[WM,YF,or_false]at hp;obtain rfl|rfl|rfl:=hp
  ·exact⟨vs,vs[i]'(by rw[r1.length];lia),s1,WG _⟩
  ·exact⟨ws,ws[i]'(by rw[r2.length];lia),s2,WG _⟩
  ·exact⟨us,us[i]'(by rw[r3.length];lia),s3,WG _⟩
 ·obtain⟨vs,s1,r1⟩:=lB h.1;obtain⟨ws,s2,r2⟩:=lB h.2.1;obtain⟨ts,s3,r3⟩:=lB h.2.2;obtain⟨q,us,e1,hq,e2,lu,hu⟩:=y;subst e1;subst e2;obtain⟨t1,t2,t3,g1,g2,g3,rfl⟩:=Be e;obtain⟨v1,a1,b1⟩:=r1.get g1;obtain⟨v2,a2,b2⟩:=r2.get g2;obtain⟨v3,a3,b3⟩:=r3.get g3;obtain _|⟨u1,_|⟨u2,_|⟨u3,_|⟨_,_⟩⟩⟩⟩:=us
  ·cases lu
  ·cases lu
  ·cases lu
  ·have z1:=hu 0 _ u1 rfl rfl vs s1;have z2:=hu 1 _ u2 rfl rfl ws s2;have z3:=hu 2 _ u3 rfl rfl ts s3;rw[a1]at z1;cases z1;rw[a2]at z2;cases z2;rw[a3]at z3;cases z3;have k:Kp O O H (upd H q (.tup [v1,v2,v3])):=Kp.upd hq;exact⟨k,λb o z=>by rw[bH (bB z hq)];exact z,q,_,rfl,.inl ⟨λz=>hO q z hq,cZ⟩,v1,_,rfl,b1.step k,v2,_,rfl,b2.step k,v3,_,rfl,b3.step k,rfl⟩
  ·cases lu
 ·obtain⟨vs,s1,r1⟩:=lB h.1;obtain⟨ws,s2,r2⟩:=lB h.2.1;obtain⟨us,s3,r3⟩:=lB h.2.2;have l1:=r1.length;have l2:=r2.length;have l3:=r3.length;refine⟨λp hp=>?_,?_⟩
  ·simp only[WM,YF,or_false]at hp;obtain rfl|rfl|rfl:=hp
   ·exact⟨vs,s1⟩
   ·exact⟨ws,s2⟩
   ·exact⟨us,s3⟩
  ·rw[rJ]
   by_cases c1:xs.length<=min ys.length zs.length
   ·exact⟨0,_,rfl,⟨vs,s1,⋯⟩,λj q hj=>absurd hj (fh _)⟩
   ·by_cases c2:ys.length<=zs.length
    ·refine⟨1,_,rfl,⟨ws,s2,⋯⟩,λj q hj hq=>?_⟩;obtain rfl:j=0:=⋯
     cases hq;exact⟨vs,vs[min xs.length (min ys.length zs.length)]'⋯,s1,WG _⟩
    ·refine⟨2,_,rfl,⟨us,s3,⋯⟩,λj q hj hq=>?_⟩;have:j=0\/j=1:=⋯
     obtain rfl|rfl:=this
     ·cases hq;exact⟨vs,vs[min xs.length (min ys.length zs.length)]'⋯,s1,WG _⟩
     ·cases hq;exact⟨ws,ws[min xs.length (min ys.length zs.length)]'⋯,s2,WG _⟩
section
variable{X:Cx}{K:W.Frag}{pos:Pos}{Fr:FA}
def VT(K:W.Frag)(ta:TA):TI:=λσ H R=>ta σ H λvs H1=>∃κ a b xs ys,vs=[.ref a,.ref b]/\Ir κ K H1 a xs/\Ir κ K H1 b ys/\R (KR K [(κ,a),(κ,b)]) H1
def VU(K:W.Frag)(ta:TA):TI:=λσ H R=>ta σ H λvs H1=>∃a b c xs ys zs,vs=[.ref a,.ref b,.ref c]/\m7 K H1 a xs/\m7 K H1 b ys/\m7 K H1 c zs/\R (KR K [(false,a),(false,b),(false,c)]) H1
theorem NH{x1}(hg:Gl X "zip")(hm:X.mg "zip" = none)(ha:QA X [l,r] ta)(hs:bG l=false:=by rfl)(hs2:bG r=false:=by rfl):
  QI X (.Tuple elts x1 yg) (.Call (.Name "zip" p) [l,r] [] pos) (VT X.K ta):=⟨by
 intro pins s σ H R I h;refine Call_ (pV I hg hm boot_zip (PyProof.Rows.callWith_type1 (eC (ha.h pos pins s σ H _ I h) λus s1⟨vs,H1,I1,r1,q1⟩=>?_) (cW hs) (gZ (by simp only[b8,hs2];rfl))));obtain⟨κ,a,b,xs,ys,rfl,ga,gb,q⟩:=q1;obtain⟨u,v,rfl,ru,rv⟩:=bI.two r1;cases ru;cases rv;obtain⟨ia,ra,qa⟩:=I1.sqK ga;obtain⟨ib,rb,qb⟩:=I1.sqK gb;have fin:∀h',qw h' (s1.heap.objs.size+4) (s1.heap.objs.size+2) (s1.heap.objs.size+3) .none->IsPair h' (s1.heap.objs.size+2) (.ref s1.heap.objs.size) (.ref (s1.heap.objs.size+1))->IsPair h' (s1.heap.objs.size+3) .none .none->
   kP κ h' s1.heap.objs.size a 0->kP κ h' (s1.heap.objs.size+1) b 0->(∀c o,s1.heap.get? c=oZ o->h'.get? c=oZ o)->
   kh (km X.prog X.w) X.A (pyIter (.ref (s1.heap.objs.size+4))) (QN X pins σ (.Tuple elts x1 yg) R) X.xe { s1 with heap:=h' }:=λh' z1 z2 z3 z4 z5 kp=>by
  refine wpAny_pyIter_zip z1 ?_;refine⟨s1.heap.objs.size+4,_,_,_,H1,rfl,I1.kept (t':=s1.toks) kp,Ef _ (s1.heap.objs.size+2) (s1.heap.objs.size+3) [(κ,a),(κ,b)] [s1.heap.objs.size,s1.heap.objs.size+1] rfl (by simp) (by simp) (VX _),⟨z1,z2,⟨_,z3,rfl⟩,λj pq it hp hit=>?_⟩,λc hc=>?_,q⟩
  ·match j,hp,hit with
   |0,hp,hit=>cases hp;cases hit;exact z4
   |1,hp,hit=>cases hp;cases hit;exact z5
  ·have hle:s1.heap.objs.size<=c:=VO hc;exact I1.fpOk hle (I1.hok.fresh hle)
 cases κ
 ·exact call_zip_2 qa qb λh' z1 z2 z3 z4 z5 _ kp=>fin h' z1 z2 z3 z4 z5 kp
 ·exact Uz qa qb λh' z1 z2 z3 z4 z5 kp=>fin h' z1 z2 z3 z4 z5 kp⟩
theorem PN(r:bI [x,y,z] us):∃u v w,us=[u,v,w]/\bS x u/\bS y v/\bS z w:=by
 cases r with
 |cons a r=>cases r with
  |cons b r=>cases r with
   |cons c r=>cases r;exact⟨_,_,_,rfl,a,b,c⟩
theorem NI{x1}(hg:Gl X "zip")(hm:X.mg "zip" = none)(ha:QA X [l,r,t] ta)(hs:bG l=false:=by rfl)(hs2:bG r=false:=by rfl)(hs3:bG t=false:=by rfl):
  QI X (.Tuple elts x1 yg) (.Call (.Name "zip" p) [l,r,t] [] pos) (VU X.K ta):=⟨by
 intro pins s σ H R I h;refine Call_ (pV I hg hm boot_zip (PyProof.Rows.callWith_type1 (eC (ha.h pos pins s σ H _ I h) λus s1⟨vs,H1,I1,r1,q1⟩=>?_) (cW hs) (gZ (by simp only[b8,hs2,hs3];rfl))));obtain⟨a,b,c,xs,ys,zs,rfl,ga,gb,gc,q⟩:=q1;obtain⟨u,v,w,rfl,ru,rv,rw'⟩:=PN r1;cases ru;cases rv;cases rw';obtain⟨ia,ra,qa,_⟩:=I1.list ga;obtain⟨ib,rb,qb,_⟩:=I1.list gb;obtain⟨ic,rc,qc',_⟩:=I1.list gc;refine Uy qa.isList qb.isList qc'.isList λh' z1 z2 z3 z4 z5 z6 kp=>?_;refine wpAny_pyIter_zip z1 ?_;have ge6:∀{d:jz},d∈[s1.heap.objs.size+5,s1.heap.objs.size+3,s1.heap.objs.size+4,s1.heap.objs.size,s1.heap.objs.size+1,s1.heap.objs.size+2]->s1.heap.objs.size<=d:=λ{d}h=>by
  simp only[WM,YF,or_false]at h;rcases h with h|h|h|h|h|h<;>rw[h]<;>first|exact WO _|exact Nat.le_add_right _ _
 refine⟨s1.heap.objs.size+5,_,_,_,H1,rfl,I1.kept (t':=s1.toks) kp,Ef _ (s1.heap.objs.size+3) (s1.heap.objs.size+4) [(false,a),(false,b),(false,c)] [s1.heap.objs.size,s1.heap.objs.size+1,s1.heap.objs.size+2] rfl (by simp) (by simp) (by
  have nd6:∀n:Nat,[n+5,n+3,n+4,n,n+1,n+2].Nodup:=λn=>by
   simp only[YS,WM,YF,or_false,not_or,ju,and_true,not_false_eq_true]
   lia
  exact nd6 _),⟨z1,z2,⟨_,z3,rfl⟩,λj pq it hp hit=>?_⟩,λd hd=>?_,q⟩
 ·match j,hp,hit with
  |0,hp,hit=>cases hp;cases hit;exact z4
  |1,hp,hit=>cases hp;cases hit;exact z5
  |2,hp,hit=>cases hp;cases hit;exact z6
 ·exact I1.fpOk (ge6 hd) (I1.hok.fresh (ge6 hd))⟩
def MD(Fr:FA):FI:=λE Q=>Fr E λrs E1=>match rs with
 |[x,y]=>(match vl E1 x,vl E1 y with
  |some (.lst xs),oZ (.lst ys)=>Q (jA xs ys) (q9 E1 x++q9 E1 y) E1
  |some (.tup xs),oZ (.tup ys)=>Q (jA xs ys) (q9 E1 x++q9 E1 y) E1
  |_,_=>False)
 |_=>False
def ME(Fr:FA):FI:=λE Q=>Fr E λrs E1=>match rs with
 |[x,y,z]=>(match vl E1 x,vl E1 y,vl E1 z with
  |some (.lst xs),oZ (.lst ys),oZ (.lst zs)=>Q (kB xs ys zs) (q9 E1 x++q9 E1 y++q9 E1 z) E1
  |_,_,_=>False)
 |_=>False
theorem yC{x1}(eK:X.K=K)(hg:Gl X "zip")(hm:X.mg "zip" = none)(ha:QA X [l,r] (dB K n Fr))(hs:bG l=false:=by rfl)(hs2:bG r=false:=by rfl):
  QI X (.Tuple elts x1 yg) (.Call (.Name "zip" p) [l,r] [] pos) (mD K (MD Fr)):=by
 subst eK;refine(NH hg hm ha hs hs2).le λσ H R hn⟨B,S,E,Q',hS,re,hF,lk⟩=>⟨B,S,E,_,hS,re,hF,λrs E1 vs H1 S1 q g uk rr hn=>?_⟩;obtain _|⟨x,_|⟨y,_|⟨_,_⟩⟩⟩:=rs
 ·exact False.elim q
 ·exact False.elim q
 ·obtain⟨v,ws,e1,h1,u,ws',e2,h2,h3⟩:=rr;cases h3;subst e2;subst e1;have own:∀j∈q9 E1 x++q9 E1 y,∃k xs,E1[j]?=oZ (oZ (U.o k xs)):=λj hj=>by
   obtain h|h:=XF.mp hj
   ·exact oS j h
   ·exact oS j h
  simp only at q;split at q
  ·rename_i xs ys e1 e2;obtain⟨a,vs,e3,sq1,r1⟩:=uk.vl h1 e1;obtain⟨b,us,e4,sq2,r2⟩:=uk.vl h2 e2;refine⟨false,a,b,vs,us,by rw[e3,e4],sq1,sq2,lk _ _ _ _ _ _ _ q g uk Sa own λO k1 k2=>?_⟩;rw[<-e3,<-e4];exact⟨o7 uk h1 e1 O k1 λj hj=>k2 j (by simp[hj]),o7 uk h2 e2 O k1 λj hj=>k2 j (by simp[hj])⟩
  ·rename_i xs ys e1 e2;obtain⟨a,vs,e3,sq1,r1⟩:=uk.vl h1 e1;obtain⟨b,us,e4,sq2,r2⟩:=uk.vl h2 e2;refine⟨true,a,b,vs,us,by rw[e3,e4],sq1,sq2,lk _ _ _ _ _ _ _ q g uk Sa own λO k1 k2=>?_⟩;rw[<-e3,<-e4];exact⟨o7 uk h1 e1 O k1 λj hj=>k2 j (by simp[hj]),o7 uk h2 e2 O k1 λj hj=>k2 j (by simp[hj])⟩
  ·exact q.elim
 ·exact False.elim q
theorem T7{x1}(eK:X.K=K)(hg:Gl X "zip")(hm:X.mg "zip" = none)(ha:QA X [l,r,t] (dB K n Fr))(hs:bG l=false:=by rfl)(hs2:bG r=false:=by rfl)(hs3:bG t=false:=by rfl):
  QI X (.Tuple elts x1 yg) (.Call (.Name "zip" p) [l,r,t] [] pos) (mD K (ME Fr)):=by
 subst eK;refine(NI hg hm ha hs hs2 hs3).le λσ H R hn⟨B,S,E,Q',hS,re,hF,lk⟩=>⟨B,S,E,_,hS,re,hF,λrs E1 vs H1 S1 q g uk rr hn=>?_⟩;obtain _|⟨x,_|⟨y,_|⟨z,_|⟨_,_⟩⟩⟩⟩:=rs
 ·exact False.elim q
 ·exact False.elim q
 ·exact False.elim q
 ·obtain⟨v,ws,e1,h1,u,ws',e2,h2,v',aNL,e3,h3,h4⟩:=rr;cases h4;subst e3;subst e2;subst e1;have own:∀j∈q9 E1 x++q9 E1 y++q9 E1 z,∃k xs,E1[j]?=oZ (oZ (U.o k xs)):=λj hj=>by
   obtain h|h:=XF.mp hj
   ·obtain h|h:=XF.mp h
    ·exact oS j h
    ·exact oS j h
   ·exact oS j h
  simp only at q;split at q
  ·rename_i xs ys zs e1 e2 e3;obtain⟨a,vs,f1,sq1,r1⟩:=uk.vl h1 e1;obtain⟨b,us,f2,sq2,r2⟩:=uk.vl h2 e2;obtain⟨c,ts,f3,sq3,r3⟩:=uk.vl h3 e3;refine⟨a,b,c,vs,us,ts,by rw[f1,f2,f3],sq1,sq2,sq3,lk _ _ _ _ _ _ _ q g uk U8 own λO k1 k2=>?_⟩;rw[<-f1,<-f2,<-f3];exact⟨o7 uk h1 e1 O k1 λj hj=>k2 j (by simp[hj]),o7 uk h2 e2 O k1 λj hj=>k2 j (by simp[hj]),o7 uk h3 e3 O k1 λj hj=>k2 j (by simp[hj])⟩
  ·exact q.elim
 ·exact False.elim q
end
end L2
namespace My
open PySem L2 PyProof.Rows
abbrev oG:List Str:=["_law_one","_law_other"]
abbrev oH:List Str:=["one","other"]
abbrev oI:List Str:=["path","number"]
abbrev oJ:List Str:=["path","number","far","steps"]
abbrev oK:List Str:=["path","far","steps","is_least"]
abbrev oM:List Str:=["path","number","point","by","below"]
theorem Ka(x y:Nat):XX y (x%y)=XX x y:=by
 rw[cj x y,Nat.gcd_rec y x,cj]
def uV(n d:Int):Int:=(if 0<d then n else -n)/((XX n.natAbs d.natAbs:Nat):Int)
def pW(n d:Int):Int:=(if 0<d then d else -d)/((XX n.natAbs d.natAbs:Nat):Int)
theorem Ke{n d:Int}(hd:0<d)(hg:g=XX n.natAbs d.natAbs):(n/(g:Int)).natAbs<=n.natAbs/\1<=d/(g:Int)/\d/(g:Int)<=d/\XX (n/(g:Int)).natAbs (d/(g:Int)).natAbs=1:=by
 have g0:0<g:=by rw[hg];exact cm _ ⋯
 have dn:(g:Int)∣n:=by rw[hg];exact YZ.mpr (bf _ _)
 have dd:(g:Int)∣d:=by rw[hg];exact YZ.mpr (aq _ _)
 have en:(n/(g:Int)).natAbs=n.natAbs/g:=by rw[Int.natAbs_ediv_of_dvd dn];simp
 have ed:(d/(g:Int)).natAbs=d.natAbs/g:=by rw[Int.natAbs_ediv_of_dvd dd];simp
 refine⟨by rw[en];exact Nat.div_le_self _ _,?_,?_,?_⟩
 ·obtain⟨k,hk⟩:=dd;have hg':(0:Int)<g:=⋯
  rw[hk,YR _ ⋯];obtain h|h:=ik 0 k
  ·lia
  ·have:(g:Int)*k<=0:=Int.mul_nonpos_of_nonneg_of_nonpos ⋯ h
   lia
 ·exact Int.ediv_le_self _ ⋯
 ·rw[en,ed,Nat.gcd_div (by rw[hg];exact bf _ _) (by rw[hg];exact aq _ _),<-hg,Nat.div_self g0]
theorem mL{n d:Int}(hd:d≠0):(uV n d).natAbs<=n.natAbs/\1<=pW n d/\pW n d<=d.natAbs/\XX (uV n d).natAbs (pW n d).natAbs=1:=by
 unfold uV pW
 by_cases h:0<d
 ·rw[oV h,oV h];have:=Ke (n:=n) (d:=d) h rfl;refine⟨this.1,this.2.1,?_,this.2.2.2⟩;have:=this.2.2.1
  lia
 ·rw[oW h,oW h];have h':0 < -d:=⋯
  have:=Ke (n:=-n) (d:=-d) h' rfl;simp only[df]at this;refine⟨this.1,this.2.1,?_,this.2.2.2⟩;have:=this.2.2.1
  lia
abbrev Fr:=Int×Int
structure bC(p:Fr):Prop where
 d:1<=p.2
 g:XX p.1.natAbs p.2.natAbs=1
def jY(n d:Int):Fr:=(uV n d,pW n d)
def aW(p q:Fr):Fr:=jY (p.1*q.2+q.1*p.2) (p.2*q.2)
def aH(p q:Fr):Fr:=jY (p.1*q.2-q.1*p.2) (p.2*q.2)
def aM(p q:Fr):Fr:=jY (p.1*q.1) (p.2*q.2)
def bO(p q:Fr):Fr:=jY (p.1*q.2) (p.2*q.1)
def aR(p:Fr):Fr:=(-p.1,p.2)
def val(p:Fr):Rat:=(p.1:Rat)/(p.2:Rat)
theorem iW{n d:Int}(hd:d≠0):bC (jY n d):=⟨(mL hd).2.1,(mL hd).2.2.2⟩
theorem Dm{n d:Int}(hd:d≠0):uV n d*d=n*pW n d:=by
 have dn:((XX n.natAbs d.natAbs:Nat):Int)∣n:=YZ.mpr (bf _ _);have dd:((XX n.natAbs d.natAbs:Nat):Int)∣d:=YZ.mpr (aq _ _);have g0:((XX n.natAbs d.natAbs:Nat):Int)≠0:=by
  have:=cm n.natAbs (show 0<d.natAbs by lia)
  lia
 unfold uV pW;generalize((XX n.natAbs d.natAbs:Nat):Int)=g at dn dd g0;obtain⟨k,hk⟩:=dn;obtain⟨m,hm⟩:=dd
 by_cases h:0<d
 ·rw[oV h,oV h,hk,hm,YR _ g0,YR _ g0];grind
 ·rw[oW h,oW h,hk,hm,<-Int.mul_neg,<-Int.mul_neg,YR _ g0,YR _ g0];grind
theorem hJ{n d:Int}(hd:d≠0):val (jY n d)=(n:Rat)/(d:Rat):=by
 have h:=Dm (n:=n) hd;have h1:=(mL (n:=n) hd).2.1;have a1:((pW n d:Int):Rat)≠0:=by
  have:pW n d≠0:=⋯
  exact_mod_cast this
 have a2:(d:Rat)≠0:=by exact_mod_cast hd
 have h':((uV n d:Int):Rat)*(d:Rat)=(n:Rat)*((pW n d:Int):Rat):=by exact_mod_cast h
 show((uV n d:Int):Rat)/((pW n d:Int):Rat)=(n:Rat)/(d:Rat);grind
theorem bC.ne(h:bC p):p.2≠0:=by have:=h.d;lia
theorem bC.neR(h:bC p):(p.2:Rat)≠0:=by have:=h.ne;exact_mod_cast this
theorem fM(hp:bC p)(hq:bC q):p.2*q.2≠0:=bz hp.ne hq.ne
theorem bE(hp:bC p)(hq:bC q):val (aW p q)=val p+val q:=by
 have h1:=hp.neR;have h2:=hq.neR;unfold aW;rw[hJ (fM hp hq)];unfold val
 push_cast
 grind
theorem aT(hp:bC p)(hq:bC q):val (aH p q)=val p-val q:=by
 have h1:=hp.neR;have h2:=hq.neR;unfold aH;rw[hJ (fM hp hq)];unfold val
 push_cast
 grind
theorem aQ(hp:bC p)(hq:bC q):val (aM p q)=val p*val q:=by
 have h1:=hp.neR;have h2:=hq.neR;unfold aM;rw[hJ (fM hp hq)];unfold val
 push_cast
 grind
theorem b7(hp:bC p):val (aR p) = - val p:=by
 have h1:=hp.neR;show((-p.1:Int):Rat)/(p.2:Rat) = - ((p.1:Rat)/(p.2:Rat))
 push_cast
 grind
theorem cE(hp:bC p)(hq:bC q):bC (aW p q):=iW (fM hp hq)
theorem cF(hp:bC p)(hq:bC q):bC (aH p q):=iW (fM hp hq)
theorem aK(hp:bC p)(hq:bC q):bC (aM p q):=iW (fM hp hq)
theorem d7(hp:bC p):bC (aR p):=⟨hp.d,by show XX (-p.1).natAbs p.2.natAbs=1;rw[df];exact hp.g⟩
theorem aI(n:Int):bC (n,1):=⟨by show(1:Int)<=1;decide,by simp⟩
theorem bM(hp:bC p)(hq:bC q)(h:val p=val q):p=q:=by
 have h1:=hp.neR;have h2:=hq.neR;have e:p.1*q.2=q.1*p.2:=by
  unfold val at h;have h':(p.1:Rat)*q.2=q.1*p.2:=by grind
  exact_mod_cast h'
 have en:p.1.natAbs*q.2.natAbs=q.1.natAbs*p.2.natAbs:=by rw[<-XZ,<-XZ,e]
 have d1:p.2.natAbs∣q.2.natAbs:=by
  have:p.2.natAbs∣p.1.natAbs*q.2.natAbs:=by rw[en];exact Nat.dvd_mul_left _ _
  exact Nat.Coprime.dvd_of_dvd_mul_left (show bh p.2.natAbs p.1.natAbs by unfold bh;rw[cj];exact hp.g) this
 have d2:q.2.natAbs∣p.2.natAbs:=by
  have:q.2.natAbs∣q.1.natAbs*p.2.natAbs:=by rw[<-en];exact Nat.dvd_mul_left _ _
  exact Nat.Coprime.dvd_of_dvd_mul_left (show bh q.2.natAbs q.1.natAbs by unfold bh;rw[cj];exact hq.g) this
 have ed:p.2.natAbs=q.2.natAbs:=Nat.dvd_antisymm d1 d2;have ed':p.2=q.2:=by have:=hp.d;have:=hq.d;lia
 have e2:p.1=q.1:=by
  rw[ed']at e;exact Int.eq_of_mul_eq_mul_right hq.ne e
 exact Prod.ext e2 ed'
theorem vU(h:x<2^e)(he:e<=8000):x<2^8000:=WZ h (YG ∅ he)
theorem bR{x y:Int}(hx:x.natAbs<2^e)(hy:y.natAbs<2^f):(x*y).natAbs<2^(e+f):=by
 rw[XZ,Nat.pow_add];exact ip hx hy
theorem rC{x y:Int}(hx:x.natAbs<2^e)(hy:y.natAbs<2^e):(x+y).natAbs<2^(e+1):=by
 have:=Int.natAbs_add_le x y;rw[Nat.pow_succ]
 lia
theorem Ih{x y:Int}(hx:x.natAbs<2^e)(hy:y.natAbs<2^e):(x-y).natAbs<2^(e+1):=by
 rw[Int.sub_eq_add_neg];exact rC hx (by rw[df];exact hy)
theorem i7(hp:bC p)(hq:bC q)(h:q.1≠0):val (bO p q)=val p/val q:=by
 have h1:=hp.neR;have h2:=hq.neR;have h3:(q.1:Rat)≠0:=by exact_mod_cast h
 unfold bO;rw[hJ (bz hp.ne h)];unfold val
 push_cast
 grind
theorem eO(hp:bC p)(h:q.1≠0):bC (bO p q):=iW (bz hp.ne h)
def sz(p:Fr):Nat:=Nat.max (iq p.1.natAbs) (iq p.2.natAbs)+1
theorem eQ(p:Fr):p.1.natAbs<2^sz p:=WZ ir (YG ∅ (aw (Nat.le_max_left _ _)))
theorem cG(p:Fr):p.2.natAbs<2^sz p:=WZ ir (YG ∅ (aw (Nat.le_max_right _ _)))
theorem Zt(h:n<2^e)(he:1<=e):iq n+1<=e:=by
 by_cases c:n=0
 ·subst c;have:iq 0=0:=by simp
  lia
 ·exact(dq c).mpr h
theorem lQ(h1:p.1.natAbs<2^e)(h2:p.2.natAbs<2^e)(he:1<=e):sz p<=e:=by
 have a:=Zt h1 he;have b:=Zt h2 he;unfold sz;have:Nat.max (iq p.1.natAbs) (iq p.2.natAbs)<=e-1:=Nat.max_le.mpr ⟨⋯,⋯⟩
 lia
theorem Ij(p:Fr):1<=sz p:=by unfold sz;lia
theorem oR{n d:Int}(hd:d≠0)(h1:n.natAbs<2^e)(h2:d.natAbs<2^e)(he:1<=e):sz (jY n d)<=e:=by
 have lf:=mL (n:=n) hd;refine lQ (XY lf.1 h1) ?_ he;show(pW n d).natAbs<2^e
 lia
theorem dX(hp:bC p)(hq:bC q):sz (aW p q)<=sz p+sz q+1:=
 oR (fM hp hq) (rC (bR (eQ p) (cG q)) (by rw[ZS];exact bR (eQ q) (cG p))) (WZ (bR (cG p) (cG q)) (YG ∅ ⋯)) ⋯
theorem gK(hp:bC p)(hq:bC q):sz (aH p q)<=sz p+sz q+1:=
 oR (fM hp hq) (Ih (bR (eQ p) (cG q)) (by rw[ZS];exact bR (eQ q) (cG p))) (WZ (bR (cG p) (cG q)) (YG ∅ ⋯)) ⋯
theorem bJ(hp:bC p)(hq:bC q):sz (aM p q)<=sz p+sz q:=
 oR (fM hp hq) (bR (eQ p) (eQ q)) (bR (cG p) (cG q)) (by have:=Ij p;lia)
theorem kI(hp:bC p)(h:q.1≠0):sz (bO p q)<=sz p+sz q:=
 oR (bz hp.ne h) (bR (eQ p) (cG q)) (bR (cG p) (eQ q)) (by have:=Ij p;lia)
theorem qY(p:Fr):sz (aR p)=sz p:=by unfold sz aR;simp
theorem cA(W:Nat->En->Prop)(h0:W 0 E)(hs:∀i x rest E,items[i]?=oZ x->W i E->(∀E',W (i+1) E'->fJ g F D rest E')->fJ g F D (x::rest) E)(hd:∀E,W items.length E->D.nx E):fJ g F D items E:=by
 have dJ:∀n i E,items.length-i=n->i<=items.length->W i E->fJ g F D (items.drop i) E:=by
  intro n
  induction n with
  |zero=>
   intro i E e hi h;obtain rfl:i=items.length:=⋯
   rw[ZU];exact hd E h
  |succ n ih=>
   intro i E e hi h;have yc:i<items.length:=⋯
   rw[YN yc];exact hs i _ _ E (WG yc) h λE' h'=>ih (i+1) E' ⋯ ⋯ h'
 exact dJ _ 0 E rfl (WS _) h0
theorem cX{Q:En->Prop}(W:Nat->En->Prop)(h0:W 0 E)(hs:∀i x rest E,items[i]?=oZ x->W i E->(∀E',W (i+1) E'->lK g Fe rest E' Q)->lK g Fe (x::rest) E Q)(hd:∀E,W items.length E->Q E):lK g Fe items E Q:=by
 have dJ:∀n i E,items.length-i=n->i<=items.length->W i E->lK g Fe (items.drop i) E Q:=by
  intro n
  induction n with
  |zero=>
   intro i E e hi h;obtain rfl:i=items.length:=⋯
   rw[ZU];exact hd E h
  |succ n ih=>
   intro i E e hi h;have yc:i<items.length:=⋯
   rw[YN yc];exact hs i _ _ E (WG yc) h λE' h'=>ih (i+1) E' ⋯ ⋯ h'
 exact dJ _ 0 E rfl (WS _) h0
def fr(p:Fr):T:=.tup [.int p.1,.int p.2]
def vc(x y:Fr):T:=.tup [fr x,fr y]
theorem Jt(p q:Fr):d6 (fr p) (fr q)=decide (p=q):=by
 rw[jf];simp[fr,L2.d6,L2.zI,Prod.ext_iff]
theorem Dd(x y x' y':Fr):d6 (vc x y) (vc x' y')=decide (x=x'/\y=y'):=by
 rw[jf];simp[vc,L2.d6,L2.zI,Jt]
def Cf(i j:Int):Prop:=Qs i j\/Q1 i j
theorem bD:o8 X (mr .Mult) (rI Cf λi j=>.int (i*j)):=by
 intro pins s σ H x y v u Q I rx ry h;obtain⟨i,j,e1,e2,hc,q⟩:=h;obtain hc|hc:=hc
 ·exact X2 pins s σ H x y v u Q I rx ry ⟨i,j,e1,e2,hc,q⟩
 ·exact HH pins s σ H x y v u Q I rx ry ⟨i,j,e1,e2,hc,q⟩
theorem k5{i j:Int}(h1:i.natAbs<2^e)(h2:j.natAbs<2^e)(he:e<=8000):Cf i j:=.inl ⟨vU h1 he,vU h2 he⟩
theorem Ny{i j:Int}(h1:i.natAbs<2^60):Cf i j:=.inr (.inl ⋯)
theorem Kh{i j:Int}(h1:j.natAbs<2^60):Cf i j:=.inr (.inr ⋯)
structure Txt(mg:Str->Option oA):Prop where
 n_isinstance:mg "isinstance" = none
 n_abs:mg "abs" = none
 n_divmod:mg "divmod" = none
 n_min:mg "min" = none
 n_max:mg "max" = none
 n_all:mg "all" = none
 n_len:mg "len" = none
 n_int:mg "int" = none
 n_bool:mg "bool" = none
 n_tuple:mg "tuple" = none
 n_list:mg "list" = none
 n_str:mg "str" = none
 n_range:mg "range" = none
 n_enumerate:mg "enumerate" = none
 n_zip:mg "zip" = none
structure kO(mg:Str->Option oA)(K:W.Frag)(x:Str)(t:L2.T):Prop where
 ex:∃a,mg x=oZ (.ref a)/\∀H O,Rp K H O t (.ref a)
theorem fZ{X:Cx}{K:W.Frag}{x:Str}{t:L2.T}{pos:Pos}(hg:Gl X x)(c:kO X.mg K x t)(hd:(x==("__debug__":Str))=false:=by decide):QE X (.Name x pos) (aO K (fC t)):=by
 obtain⟨a,h1,h2⟩:=c.ex;exact QE.le (t:=tC (.ref a)) ⟨So (v:=.ref a) hg h1 rfl hd⟩ λσ H Q hl zZ=>by obtain⟨B,S,E,Q',hS,re,hF,lk⟩:=zZ;exact lk _ _ _ _ _ hF .refl re (h2 _ _)
theorem m8{K:W.Frag}{i j:Int}(h:K.lookup a=oZ ⟨.type "tuple",od,.seq #[.int i t,.int j u] n,sl⟩)(H:Hp)(O:jz->Prop):Rp K H O (.tup [.int i,.int j]) (.ref a):=
 ⟨a,[.int i,.int j],rfl,.inr ⟨_,_,n,h,rfl,rfl,by show 2<=ky;decide,.cons ⟨t,rfl⟩ (.cons ⟨u,rfl⟩ .nil)⟩,_,_,rfl,rfl,_,_,rfl,rfl,rfl⟩
section
variable{X:Cx}{K:W.Frag}{e:oC}{te:TE}{st:Option oC}{ts:TO}{pos p2:Pos}{Fa:FE}{G:FO}
def DL(K:W.Frag)(te:TE)(ts:TO):TE:=λσ H Q=>te σ H λx H1=>ts σ H1 λk H2=>k=oZ (-1)/\∃a xs,x = .ref a/\m7 K H2 a xs/\∀p,H2 p=none->Q (.ref p) (upd H2 p (.lst xs.reverse))
theorem Y1(he:PE X e te)(hk:PO X st ts)(hop:∀a b,∃ops,qt (.Slice none none st p2) false a b=operate ops (qh a b)):PE X (.Subscript e (.Slice none none st p2) pos) (DL X.K te ts):=by
 intro pins s σ H Q I h;refine Subscript_ (eC (he pins s σ H _ I h) λv s1 zZ=>?_);obtain⟨x,H1,I1,r1,q1⟩:=zZ;refine wpAny_Slice ?_;rw[evalPart_none];refine kq ?_;refine kq ?_;refine eC (hk pins s1 σ H1 _ I1 q1) λvk s2 zZ=>?_;obtain⟨k,H2,I2,pk,q2⟩:=zZ;obtain⟨rfl,a,xs,rfl,hx,q⟩:=q2;have I4:aZ X pins σ H2 { s2 with heap:=s2.heap.push { cls:=.type "slice",data:=.fields #[.none,.none,vk] } }:=I2.kept (t':=s2.toks) λb ob q=>WL _ q;cases r1;obtain⟨sf,r,ht,hz⟩:=I4.list hx;have hlen:=r.length;have hg:kh (km X.prog X.w) X.A (qh (.ref a) (.ref s2.heap.objs.size)) (EP X pins σ Q) X.xe { s2 with heap:=s2.heap.push { cls:=.type "slice",data:=.fields #[.none,.none,vk] } }:=by
  refine wpAny_getItem_list_slice ht.isList (Heap.IsSliceOf.new ..) .none .none pk ∅ ?_ (by rw[WX]<;>lia);rw[W.krv_pick];refine⟨.ref _,_,I4.laid (t':=s2.toks) (o:=.lst xs.reverse) (λb ob q=>WL _ q) (WO _) ?_,rfl,q _ (I4.hok.fresh (WO _))⟩;exact⟨by rw[List.length_reverse];exact hz,_,0,r.reverse,WV _ rfl⟩
 obtain⟨ops,ho⟩:=hop (.ref a) (.ref s2.heap.objs.size);exact tail_any (ops:=ops) ht.isList.typeIs slot_list_getitem.lookup hg ho
def SR(Fa:FE)(G:FO):FE:=λE Q=>Fa E λx E1=>G E1 λk E2=>k=oZ (-1)/\match vl E2 x with
 |some (.lst xs)=>Q (.s E2.length) (E2++[↥xs.reverse])
 |_=>False
theorem T5(eK:X.K=K)(he:QE X e (aO K Fa))(hk:QO X st (Lq K G))(hop:∀a b,∃ops,qt (.Slice none none st p2) false a b=operate ops (qh a b):=by exactλ_ _=>⟨_,by with_unfolding_all rfl⟩):QE X (.Subscript e (.Slice none none st p2) pos) (aO K (SR Fa G)):=by
 subst eK;refine QE.le (t:=DL X.K (aO X.K Fa) (Lq X.K G)) ⟨Y1 he.h hk.h hop⟩ λσ H Q _⟨B,S,E,Q',⟨τ,hS⟩,re,hF,lk⟩=>⟨B,S,E,_,⟨τ,hS⟩,re,hF,λx E1 v H1 S1 q g1 uk rx=>?_⟩;obtain⟨τ1,zm⟩:=g1.pre;refine⟨B,S1,E1,_,⟨τ++τ1,by rw[zm,hS,XB]⟩,uk,q,λl E2 H2 S2 q2 g2 xu=>?_⟩;have rx2:=rx.step g2;obtain⟨hk1,q2⟩:=q2;refine⟨hk1,?_⟩;split at q2
 ·rename_i xs e1;obtain⟨a,vs,e2,sq,rs⟩:=xu.vl rx2 e1;refine⟨a,vs,e2,sq,λp hp=>?_⟩;obtain⟨g,ui⟩:=xu.lst hp rs.reverse;exact lk _ _ _ _ _ q2 ((g1.trans g2).trans g) ui (by rw[<-xu.len];exact mI)
 ·exact q2.elim
end
end My
namespace L2
open PySem PySem.Spec PyProof.Rows
def TN:En->Bool
 |[]=>true
 |some (.o false _)::_=>false
 |_::E=>TN E
section
variable{K:W.Frag}{B:jz->Prop}{H H':Hp}{S S':St}{E E':En}{σ:St}
def xO(E:En):List R->Option (List T×En)
 |[]=>oZ ([],E)
 |.p t::rs=>(xO E rs).map λz=>(t::z.1,z.2)
 |.s i::rs=>match E[i]? with
  |some (↥xs)=>(xO (E.set i (⇑(.lst xs))) rs).map λz=>(.lst xs::z.1,z.2)
  |some (⇑t)=>(xO E rs).map λz=>(t::z.1,z.2)
  |_=>none
theorem uS:∀{rs:List R}{vs:List V}{E:En}{z:List T×En},RE K B H S E->Ul K B H S E rs vs->xO E rs=oZ z->RE K B H S z.2/\(∀b,Ow B S z.2 b->Ow B S E b)/\dN K H (Ow B S z.2) z.1 vs
 |[],vs,E,z,re,h,e=>by cases e;exact⟨re,λb z=>z,h⟩
 |.p t::rs,_,E,z,re,⟨v,ws,e1,h1,h2⟩,e=>by
  cases q:xO E rs with
  |none=>rw[xO,q]at e;cases e
  |some y=>
   rw[xO,q]at e;cases e;obtain⟨r1,r2,r3⟩:=uS re h2 q;exact⟨r1,r2,v,ws,e1,Rp.step (Kp.less r2) h1,r3⟩
 |.s i::rs,_,E,z,re,⟨v,ws,e1,h1,h2⟩,e=>by
  unfold xO at e;split at e
  ·rename_i xs hE;obtain⟨ref,of⟩:=re.frz hE;cases q:xO (E.set i (⇑(.lst xs))) rs with
   |none=>rw[q]at e;cases e
   |some y=>
    rw[q]at e;cases e;have h2':Ul K B H S (E.set i (⇑(.lst xs))) rs ws:=Ul.step ⟨Kp.less λb z=>(of b z).1,[],by simp⟩ h2;obtain⟨r1,r2,r3⟩:=uS ref h2' q;have hi:i<E.length:=(WE.mp hE).1;obtain⟨w,p1,p2⟩:=ref.pure i (.lst xs) (by rw[XN hi]);have h1:S[i]?=oZ (oZ v):=h1;rw[h1]at p1;cases p1;exact⟨r1,λb z=>(of b (r2 b z)).1,v,ws,e1,Rp.step (Kp.less r2) p2,r3⟩
  ·rename_i t hE;cases q:xO E rs with
   |none=>rw[q]at e;cases e
   |some y=>
    rw[q]at e;cases e;obtain⟨r1,r2,r3⟩:=uS re h2 q;obtain⟨w,p1,p2⟩:=re.pure i t hE;have h1:S[i]?=oZ (oZ v):=h1;rw[h1]at p1;cases p1;exact⟨r1,r2,v,ws,e1,Rp.step (Kp.less r2) p2,r3⟩
  ·cases e
end
section
variable{X:Cx}{K:W.Frag}{pos:Pos}{es:List oC}{Fr:FA}
def LY(Fr:FA):FE:=λE Q=>Fr E λrs E1=>o1 (xO E1 rs) λz=>Q (.p (.tup z.1)) z.2
theorem Ft{x1}(h:QA X es (dB K n Fr))(hz:n<=9000:=by decide):QE X (.Tuple es x1 pos) (aO K (LY Fr)):=by
 refine(F5 h).le λσ H Q hl h=>args (Fr:=Fr) h λB S E rs vs H2 Q' hS re rr hn q lk=>⟨by rw[hn];exact YA (cL hz),λp hp=>?_⟩;obtain⟨z,e,q⟩:=q.ex;obtain⟨uk,ow1,rs1⟩:=uS re rr e;obtain⟨g,ui,rp⟩:=uk.tup hp rs1;exact lk _ _ _ _ _ q (Gr.trans ⟨Kp.less ow1,[],by simp⟩ g) ui rp
end
abbrev QX(hp:oE)(a:jz):oE:=hp.push { cls:=.type "tuple_iterator",data:=.fields #[.ref a,.int 0 0] }
abbrev RU(hp:oE)(a:jz):oE:=(QX hp a).push { cls:=.type "enumerate",data:=.fields #[.none,.bool false,.ref hp.objs.size,rawInt 0,.none,.none] }
theorem Vh(a:jz)(xs:Array oA):
  Meets (Builtin.«enumerate.__new__» ⟨[.type "enumerate",.ref a],[]⟩) (λ_ R s=>s.heap.IsTuple a xs/\R (.ok (.ret (.ref (QX s.heap a).objs.size))) { s with heap:=RU s.heap a }):=
 .of_wp λprog w A R s h=>by
  obtain⟨hp,g,d,tk,os⟩:=s;obtain⟨ga,h⟩:=h;have gs:=sub_enumerate;obtain⟨⟨c,dct,dt,sl⟩,hl,hc,n,hd⟩:=id ga;replace hc:c = .type "tuple":=hc;replace hd:dt = .seq xs n:=hd;subst hc hd;have gA:Heap.IsTuple (Shared.heap ⟨hp,g,d,tk,os⟩) a xs:=ga
  wp_walk using AutoSeq1.wpAny_loadPart' hl
  refine wpAny_stack_any λst=>kq ?_
  split
  ·rename_i k _ _ _ _ _;cases(k==jw "enumerate")
   ·wp_walk using AutoSeq1.wpAny_loadPart' hl,oi gA
    exact⟨_,rfl,h⟩
   ·wp_walk using AutoSeq1.wpAny_loadPart' hl,oi gA
    exact⟨_,rfl,h⟩
  ·wp_walk using AutoSeq1.wpAny_loadPart' hl,oi gA
   exact⟨_,rfl,h⟩
theorem Mu{prog:kg}{w:ko}{A:oD}{E:oA->oB->Prop}{s:oB}{a:jz}{xs:Array oA}{Q:oA->oB->Prop}(ga:s.heap.IsTuple a xs)
  (g:∀h',IsEnum h' (s.heap.objs.size+1) s.heap.objs.size 0 .none->h'.IsTupleIter s.heap.objs.size a 0->(∀b o,s.heap.get? b=oZ o->h'.get? b=oZ o)->Q (.ref (s.heap.objs.size+1)) { s with heap:=h' }) :
  kh (km prog w) A (call (.type "enumerate") [.ref a]) Q E s:=by
 refine callType_new F.called_enumerate ∅ (F.typeCall_enumerate_1 _) (F.newCall_enumerate_1 _) (λob=>F.args_object_init_2 ob _) F.entry_enumerate_new (Vh a xs) ⟨ga,?_⟩;have y1:(QX s.heap a).objs.size=s.heap.objs.size+1:=YK ..;have x2:(RU s.heap a).get? (QX s.heap a).objs.size=oZ _:=WV _ rfl;have x1:(RU s.heap a).get? s.heap.objs.size=oZ _:=WL _ (WV _ rfl);show _/\_;rw[y1]at x2⊢;exact⟨⟨_,x2,rfl⟩,g _ x2 ⟨_,x1,rfl,rfl⟩ λc o e=>WL _ (WL _ e)⟩
theorem Vf{prog:kg}{w:ko}{A:oD}(gh:A.handled=none)(it t:jz)(items:Array oA)(n:Nat)(gx:items[n]?=none):
  Draws prog w A it [it,t] n (λ_ _=>True) (λi h=>h.IsTupleIter it t i/\h.IsTuple t items/\i=n) where
 live:=λ_ _ st=>let⟨o,ho,_⟩:=st.1;⟨o,ho⟩
 frame:=λ_ _ _ st hk=>⟨st.1.at λo z=>hk it (by simp) o z,st.2.1.at λo z=>hk t (by simp) o z,st.2.2⟩
 item:=λi s Q E hi st hQ=>absurd st.2.2 (XM hi)
 done:=λs Q E st hE=>xK gh st.1 st.2.1 gx hE
def DY(K:W.Frag)(a:jz):It:=
 ⟨λi H=>∃xs x,xD K H a xs/\xs[i]?=oZ x,λi H x H'=>∃p y,x = .ref p/\H p=none/\H'=upd H p (.tup [.int (i:Int),y])/\∀xs,xD K H a xs->xs[i]?=oZ y,λi H=>∃xs,xD K H a xs/\xs.length<=i⟩
theorem Qm{P:kg}{w:ko}{K:W.Frag}{elts:List oC}{x1}{yg:Pos}(a e it:jz)(zw:e≠it):
  Em P w K (.Tuple elts x1 yg) (DY K a) [e,it] e (λi h=>(∃old,IsEnum h e it (i:Nat) old)/\h.IsTupleIter it a i) where
 mem:=by simp
 obj:=λi h st b hb=>by
  obtain⟨⟨old,he⟩,⟨o,ho,hc,hd⟩⟩:=st;obtain rfl|hb:=WM.mp hb
  ·exact⟨_,he,λv z=>by cases z⟩
  ·rw[WT.mp hb];exact⟨o,ho,λv z=>by rw[hd]at z;cases z⟩
 keep:=λi h h' st k=>⟨let⟨old,he⟩:=st.1;⟨old,k e (by simp) _ he⟩,st.2.at λo x=>k it (by simp) o x⟩
 item:=by
  intro X hP hw hK hc i pins s σ H E I hf st hg;subst hP hw hK;obtain⟨xs,x,hq,hx⟩:=hg;obtain⟨sf,rv,p,hz⟩:=I.tuple hq;obtain⟨u,hu,ru⟩:=rv.get hx;obtain⟨⟨old,he⟩,hit⟩:=st;have hea:e≠a:=λz=>by
   obtain⟨o,ho,zl,_⟩:=p;rw[<-z]at ho;rw[show s.heap.get? e=_ from he]at ho;cases ho;exact absurd zl (show ¬jw "enumerate" = jw "tuple" by decide)
  have hia:a≠it:=λz=>by
   obtain⟨o,ho,zl,_⟩:=p;obtain⟨o',ho',hc2,_⟩:=hit;rw[<-z,ho]at ho';cases ho';rw[zl]at hc2;exact absurd hc2 ∅
  have D:=Cz (prog:=X.prog) (w:=X.w) (A:=X.A.in1) (I.ok.hd hc) it a hia sf.toArray;have hin:i<sf.toArray.size:=by
   have:=(WE.mp hu).1
   simpa using this
  refine wpAny_pyNext_enum_itemD D he ⟨hit,p⟩ hin zw (by simp[zw,hea]) λx' h1 tk hP ho st1 ht hsz hk=>⟨_,rfl,?_⟩;have ex:x'=u:=by
   have:sf.toArray[i]?=oZ u:=by simpa using hu
   rw[this]at hP;exact(Option.some.inj hP).symm
  subst ex;refine wpAny_letOwnedTupleGo_enum ho λh2 he2 hs2=>?_;have hen:e≠s.heap.objs.size:=XM (WR he);have kk:∀b o,b∉[e,it]->s.heap.get? b=oZ o->h2.get? b=oZ o:=λb o hb q=>by
   have b1:b≠e:=λz=>hb (by simp[z]);have b2:b≠it:=λz=>hb (by simp[z]);exact hs2.extBut b o b1 (hk b o b1 b2 q)
  have nw:eD X.prog X.w (upd H s.heap.objs.size (.tup [.int (i:Int),x])) h2 s.heap.objs.size (.tup [.int (i:Int),x]):=
   ⟨by show 2<=ky;decide,[.int i tk,x'],.cons ⟨_,rfl⟩ (.cons ru .nil),⟨_,hs2.extBut _ _ (Ne.symm hen) ht,rfl,_,rfl⟩⟩
  refine⟨.ref s.heap.objs.size,upd H s.heap.objs.size (.tup [.int (i:Int),x]),I.turnedLaid (t':=tk+1) (ch:=[e,it]) kk hf (WO _) nw,rfl,
   ⟨_,x,rfl,I.hok.fresh (WO _),rfl,λys hy=>by rw[I.tuple_inj hy hq];exact hx⟩,⟨⟨_,by simpa using he2⟩,st1.1.at λo z=>hs2.extBut it o (Ne.symm zw) z⟩,λb hb=>?_⟩
  have yc:b<s.heap.objs.size:=by
   obtain rfl|hb:=WM.mp hb
   ·exact WR he
   ·rw[WT.mp hb];obtain⟨o,ho',_⟩:=hit;exact WR ho'
  rw[bH (XM yc)];exact(hf b hb).1
 done:=by
  intro X hP hw hK hc i pins s σ H E I hf st hg;subst hP hw hK;obtain⟨xs,hq,hx⟩:=hg;obtain⟨sf,rv,p,hz⟩:=I.tuple hq;have hl:=rv.length;obtain⟨⟨old,he⟩,hit⟩:=st;have nx:sf.toArray[i]?=none:=by simp;lia
  refine wpAny_pyNext_enum_endD (Vf (A:=X.A.in1) (I.ok.hd hc) it a sf.toArray i nx) he ⟨hit,p,rfl⟩ λh1 eb=>⟨rfl,?_⟩;exact I.turnedL (t':=s.toks) (ch:=[e,it]) (λb o hb q=>eb b o (λz=>hb (by simp[z])) q) hf
 self:=λ_ _ _ _ _ st h=>let⟨old,he⟩:=st.1;wpAny_pyIter_enum he h
section
variable{X:Cx}{a:oC}{pos:Pos}{K:W.Frag}{Fr:FA}
def Zd(K:W.Frag)(ta:TA):TI:=λσ H R=>ta σ H λvs H1=>∃a,vs=[.ref a]/\(∃xs,xD K H1 a xs)/\R (DY K a) H1
theorem D6{x1}(hg:Gl X "enumerate")(hm:X.mg "enumerate" = none)(ha:PA X [a] ta)(hs:md [a] X.env=[(false,lq a X.env)]:=by rfl):
  PI X (.Tuple elts x1 yg) (.Call (.Name "enumerate" p) [a] [] pos) (Zd X.K ta):=by
 intro pins s σ H R I h;refine Call_ (pV I hg hm boot_enumerate (PyProof.Rows.callWith_type1 (eC (ha pos pins s σ H _ I h) λus s1⟨vs,H1,I1,r1,q1⟩=>?_) hs rfl));obtain⟨l,rfl,⟨xs,hq⟩,q⟩:=q1;obtain⟨u,rfl,ru⟩:=bI.one r1;cases ru;obtain⟨sf,rv,pl,hz⟩:=I1.tuple hq;refine Mu pl λh' he hit hk=>?_;refine wpAny_pyIter_enum he ?_;refine⟨s1.heap.objs.size+1,[s1.heap.objs.size+1,s1.heap.objs.size],_,_,H1,rfl,I1.kept (t':=s1.toks) hk,Qm l _ _ (Nat.succ_ne_self _),⟨⟨_,he⟩,hit⟩,λb hb=>?_,q⟩;have hle:s1.heap.objs.size<=b:=by
  obtain rfl|hb:=WM.mp hb
  ·exact fm _
  ·rw[WT.mp hb];exact WO _
 exact I1.fpOk hle (I1.hok.fresh hle)
theorem U7:Bf K (DY K p) (xs.zipIdx.map λq=>T.tup [.int (q.2:Int),q.1]) (λH O=>Rp K H O (.tup xs) (.ref p)):=by
 refine⟨λH H' O O' k h=>Rp.step k h,λi H O h hi=>?_,λi H O x H' t h e hO y=>?_,λH O h=>?_⟩
 ·obtain⟨a,vs,e,sq,rs⟩:=h.sqT;cases e;have zx:i<xs.length:=by simpa using hi
  exact⟨vs,vs[i]'(by rw[rs.length];exact zx),sq,WG _⟩
 ·obtain⟨pp,w,e1,hp,e2,y⟩:=y;subst e1;subst e2;obtain⟨a,vs,e3,sq,rs⟩:=h.sqT;cases e3;rw[WH]at e;cases q:xs.zipIdx[i]? with
  |none=>rw[q]at e;cases e
  |some z=>
   rw[q]at e;cases e;obtain⟨q1,q2⟩:=WE.mp q;have q1':i<xs.length:=by simpa using q1
   rw[fk]at q2;subst q2;obtain⟨v,h1,h2⟩:=rs.get (WG q1');rw[y vs sq]at h1;cases h1;have k:Kp O O H (upd H pp (.tup [.int (i:Int),w])):=Kp.upd hp;refine⟨k,λb o z=>by rw[bH (bB z hp)];exact z,pp,_,rfl,.inl ⟨λz=>hO pp z hp,cZ⟩,_,_,rfl,?_,w,[],rfl,h2.step k,rfl⟩;simp[Rp]
 ·obtain⟨a,vs,e,sq,rs⟩:=h.sqT;cases e;exact⟨vs,sq,by simp[rs.length]⟩
def VQ(Fr:FA):FI:=λE Q=>Fr E λrs E1=>match rs with
 |[r]=>(match vl E1 r with
  |some (.tup xs)=>Q (xs.zipIdx.map λq=>T.tup [.int (q.2:Int),q.1]) [] E1
  |_=>False)
 |_=>False
theorem Yr{x1}(eK:X.K=K)(hg:Gl X "enumerate")(hm:X.mg "enumerate" = none)(ha:QA X [a] (dB K n Fr))(hs:bG a=false:=by rfl):QI X (.Tuple elts x1 yg) (.Call (.Name "enumerate" p) [a] [] pos) (mD K (VQ Fr)):=by
 subst eK;refine QI.le (t:=Zd X.K (dB X.K n Fr)) ⟨D6 hg hm ha.h (cW hs)⟩ λσ H R hn⟨B,S,E,Q',hS,re,hF,lk⟩=>⟨B,S,E,_,hS,re,hF,λrs E1 vs H1 S1 q g uk rr hn=>?_⟩;obtain _|⟨r,_|⟨_,_⟩⟩:=rs
 ·exact False.elim q
 ·obtain⟨v,ws,e1,h1,h2⟩:=rr;cases h2;subst e1;simp only at q;split at q
  ·rename_i xs e1;obtain⟨a,vs,e2,sq,rs⟩:=uk.vl h1 e1;refine⟨a,by rw[e2],⟨vs,sq⟩,lk _ _ _ _ _ _ _ q g uk U7 (λj hj=>absurd hj (by simp)) λO k1 k2=>?_⟩;rw[<-e2];refine o7 uk h1 e1 O k1 λj hj=>?_;cases r with
   |p _=>simp[q9]at hj
   |s m=>
    cases q2:E1[m]? with
    |none=>simp only[vl,q2]at e1;cases e1
    |some u=>
     cases u with
     |none=>simp only[vl,q2]at e1;cases e1
     |some u=>
      cases u with
      |p u=>simp[q9,q2]at hj
      |o k ys=>simp only[vl,q2]at e1;cases e1
  ·exact q.elim
 ·exact False.elim q
end
section
variable{X:Cx}{e:oC}{es:List oC}{pos:Pos}{K:W.Frag}{Fr:FA}
theorem Uw(hc:X.calm=true):kN X (.builtin "max") (λxs H Q=>∃a b:Int,xs=[.int a,.int b]/\Q (.int (if a<b then b else a)) H):=by
 intro pins s σ H xs us Q I r h;obtain⟨a,b,rfl,q⟩:=h;obtain⟨u,v,rfl,rx,ry⟩:=bI.two r;obtain⟨t,rfl⟩:=rx;obtain⟨t',rfl⟩:=ry;refine max_two_ints (I.ok.hd hc) λh' tk hk=>?_
 by_cases c:a<b
 ·simp only[oV c]at q⊢;exact⟨.int b,H,I.kept hk,⟨_,rfl⟩,q⟩
 ·simp only[oW c]at q⊢;exact⟨.int a,H,I.kept hk,⟨_,rfl⟩,q⟩
def SJ(Fr:FA):FE:=λE Q=>Fr E λrs E1=>match rs with
 |[x,y]=>i2 (vl E1 x) (vl E1 y) λi j=>Q (.p (.int (if i<j then j else i))) E1
 |_=>False
theorem FJ(hc:X.calm=true)(hg:Gl X "max")(hm:X.mg "max" = none)(ha:QA X (e::es) (dB K n Fr))(hs:b8 (e::es)=true:=by rfl):QE X (.Call (.Name "max" p) (e::es) [] pos) (aO K (SJ Fr)):=by
 refine(kK (Uw hc) hg hm boot_max ha ∅ ∅ hs).le λσ H Q hl h=>args (Fr:=Fr) h λB S E rs vs H2 Q' hS re rr hn q lk=>?_;obtain _|⟨x,_|⟨y,_|⟨_,_⟩⟩⟩:=rs
 ·exact False.elim q
 ·exact False.elim q
 ·obtain⟨v,ws,e1,h1,u,ws',e2,h2,h3⟩:=rr;cases h3;subst e2;subst e1;obtain⟨i,j,e3,e4,q⟩:=i2.ex q;exact⟨i,j,by rw[re.int h1 e3,re.int h2 e4],lk _ _ _ _ _ q .refl re rfl⟩
 ·exact False.elim q
end
end L2
namespace HT
open PySem PySem.Spec PyProof.Rows
end HT
namespace HT
open PySem PySem.Spec PyProof.Rows
end HT
namespace L2
open PySem PySem.Spec PyProof.Rows
section
variable{X:Cx}{K:W.Frag}{a b e:oC}{te:TE}{st:Option oC}{ts:TO}{pos p2:Pos}{Fa Fb:FE}{G Gl' Gh:FO}
def UN(Fa:FE)(G:FO):FE:=λE Q=>Fa E λx E1=>G E1 λk E2=>k=oZ (-1)/\match vl E2 x with
 |some (.tup xs)=>Q (.p (.tup xs.reverse)) E2
 |_=>False
def SV(Fa:FE)(Gl' Gh:FO):FE:=λE Q=>Fa E λx E1=>Gl' E1 λlo E2=>Gh E2 λhi E3=>match vl E3 x with
 |some (.tup xs)=>¬(HT.sIx xs.length 0 lo=0/\HT.sIx xs.length xs.length hi=xs.length)/\Q (.p (.tup (iA xs lo hi))) E3
 |_=>False
theorem Vm{lo hi:Option oC}(eK:X.K=K)(he:QE X e (aO K Fa))(hl:QO X lo (Lq K Gl'))(hu:QO X hi (Lq K Gh)):QE X (.Subscript e (.Slice lo hi none p2) pos) (aO K (SV Fa Gl' Gh)):=by
 subst eK;refine(Lc JM he hl hu).le λσ H Q _⟨B,S,E,Q',⟨τ,hS⟩,re,hF,lk⟩=>⟨B,S,E,_,⟨τ,hS⟩,re,hF,λx E1 v H1 S1 q g1 uk rx=>?_⟩;obtain⟨τ1,zm⟩:=g1.pre;refine⟨B,S1,E1,_,⟨τ++τ1,by rw[zm,hS,XB]⟩,uk,q,λl E2 H2 S2 q2 g2 xu=>?_⟩;obtain⟨τ2,hS2⟩:=g2.pre;refine⟨B,S2,E2,_,⟨τ++τ1++τ2,by rw[hS2,zm,hS,XB,XB,XB]⟩,xu,q2,λh E3 H3 S3 q3 g3 zd=>?_⟩;have rx3:=(rx.step g2).step g3;split at q3
 ·rename_i xs e1;obtain⟨a,vs,e2,sq,rs⟩:=zd.vl rx3 e1;obtain⟨nw,q3⟩:=q3;refine⟨a,vs,e2,sq,by rw[rs.length];exact nw,λp hp=>?_⟩;obtain⟨g,ui,rp⟩:=zd.tup hp (Xu (lo:=l) (hi:=h) rs);exact lk _ _ _ _ _ q3 (((g1.trans g2).trans g3).trans g) ui rp
 ·exact q3.elim
def LO(Fa Fb:FE):FE:=λE Q=>Fa E λx E1=>Fb E1 λy E2=>match vl E2 x,vl E2 y with
 |some (.tup (t::xs)),oZ (.tup (u::ys))=>xs.length+ys.length<=900/\Q (.p (.tup (t::xs++u::ys))) E2
 |some (.tup (_::xs)),oZ (.tup [])=>xs.length<=900/\Q x E2
 |_,_=>False
theorem Fm(eK:X.K=K)(ha:QE X a (aO K Fa))(hb:QE X b (aO K Fb)):QE X (.BinOp a .Add b pos) (aO K (LO Fa Fb)):=by
 subst eK;refine(Ab X1 ha hb).le λσ H Q hl h=>two (Fa:=Fa) (Fb:=Fb) h λB S E x y v w H2 Q' hS re rx ry q lk=>?_;split at q
 ·rename_i t xs u ys e1 e2;obtain⟨hz,q⟩:=q;obtain⟨p,vs,rfl,sq,rs⟩:=re.vl rx e1;obtain⟨p',vs',rfl,sq',rs'⟩:=re.vl ry e2;have l1:=rs.length;have l2:=rs'.length;rw[XG]at l1 l2;refine⟨p,p',vs,vs',rfl,rfl,sq,sq',λz=>by rw[z]at l1;simp at l1,YA (cL ⋯),λz=>by rw[z]at l2;simp at l2,λ_ r hr=>?_⟩;obtain⟨g,ui,rp⟩:=re.tup hr (rs.append rs');exact lk _ _ _ _ _ q g ui rp
 ·rename_i t xs e1 e2;obtain⟨hz,q⟩:=q;obtain⟨p,vs,rfl,sq,rs⟩:=re.vl rx e1;obtain⟨p',vs',rfl,sq',rs'⟩:=re.vl ry e2;have l1:=rs.length;have l2:=rs'.length;rw[XG]at l1;rw[ff]at l2;exact⟨p,p',vs,vs',rfl,rfl,sq,sq',λz=>by rw[z]at l1;simp at l1,YA (cL ⋯),λ_=>lk _ _ _ _ _ q .refl re rx,λz=>absurd (List.length_eq_zero_iff.mp l2) z⟩
 ·exact q.elim
end
section
variable{X:Cx}{K:W.Frag}{o:oC}{pos ap:Pos}{Fa:FE}
def LM(Fa:FE):FE:=λE Q=>Fa E λx E1=>i1 (vl E1 x) λi=>Q (.p (.int (Builtin.Int.intBits i:Int))) E1
theorem S7(ho:QE X o (aO K Fa))(wb:mj o "bit_length" X.env (lq o X.env)=lq o X.env:=by rfl)(wc:(ap.endLine==pos.line)=true:=by rfl):
  QE X (.Call (.Attribute o "bit_length" ap) [] [] pos) (aO K (LM Fa)):=by
 refine(Z3 ho wb wc).le λσ H Q hl h=>one (Fa:=Fa) h λB S E x v H2 Q' hS re rx q lk=>?_;obtain⟨i,e1,q⟩:=q.ex;have ev:=re.int rx e1;subst ev;exact⟨rfl,i,rfl,rfl,lk _ _ _ _ _ q .refl re rfl⟩
end
def z1(o:Option T)(Q:Str->Prop):Prop:=match o with
 |some (.str z)=>Q z
 |_=>False
theorem z1.ex{Q:Str->Prop}(h:z1 o Q):∃z,o=oZ (.str z)/\Q z:=by
 unfold z1 at h;split at h
 ·exact⟨_,rfl,h⟩
 ·exact h.elim
theorem RE.setO2{K:W.Frag}{B:jz->Prop}{H:Hp}{S:St}{E:En}{σ:St}(re:RE K B H S E)(hS:∃τ,S=σ++τ){i j a b:Nat}{k l:Bool}{xs ys:List T}(hj:j<σ.length)(ha:σ.length<=a)(hab:a<b)(h1:E[a]?=oZ (oZ (.o k xs)))(h2:E[b]?=oZ (oZ (.o l ys))){v w:V}(hv:S[a]?=oZ (oZ v))(hw:S[b]?=oZ (oZ w)):
  RE K B H ((σ.set j (oZ w)).set i (oZ v)) (((E.take σ.length).set j (oZ (.o l ys))).set i (oZ (.o k xs)))/\∀c,Ow B ((σ.set j (oZ w)).set i (oZ v)) (((E.take σ.length).set j (oZ (.o l ys))).set i (oZ (.o k xs))) c->Ow B S E c:=by
 have hb:b<S.length:=(WE.mp hw).1;have lb:(S.take b).length=b:=by rw[XT];lia
 obtain⟨r1,o1⟩:=re.setO (σ:=S.take b) (i:=j) ⟨S.drop b,(List.take_append_drop b S).symm⟩ ⋯ h2 hw;obtain⟨τ,rfl⟩:=hS;have eS:((σ++τ).take b).set j (oZ w)=σ.set j (oZ w)++τ.take (b-σ.length):=by
  rw[List.take_append,ZH ⋯,fg _ _ hj]
 rw[lb]at r1 o1;have e1:((E.take b).set j (oZ (.o l ys)))[a]?=oZ (oZ (.o k xs)):=by
  rw[XD ⋯,YC hab];exact h1
 have e2:(((σ++τ).take b).set j (oZ w))[a]?=oZ (oZ v):=by
  rw[XD ⋯,YC hab];exact hv
 obtain⟨r2,o2⟩:=r1.setO (σ:=σ.set j (oZ w)) (i:=i) ⟨_,eS⟩ (by rw[ag];exact ha) e1 e2;have e3:((E.take b).set j (oZ (.o l ys))).take (σ.set j (oZ w)).length=(E.take σ.length).set j (oZ (.o l ys)):=by
  rw[ag,List.take_set,List.take_take,jg ⋯]
 rw[e3]at r2 o2;exact⟨r2,λc z=>o1 c (o2 c z)⟩
section
variable{X:Cx}{K:W.Frag}{a b:oC}{pos:Pos}{Fr:FA}
def NV(i j:Nat)(Fr:FA):FS:=λD E=>Fr E λrs E'=>match rs with
 |[.s m,.s n]=>E.length<=m/\m<n/\(match E'[m]? with
  |some (↥xs)=>(match E'[n]? with
   |some (↥ys)=>D.nx (((E'.take E.length).set j (↥ys)).set i (↥xs))
   |_=>False)
  |_=>False)
 |_=>False
theorem T9{kt k2 pt2}(hc:X.calm=true)(hN:X.N.Nodup)(hi:X.N[i]?=oZ x)(hj:X.N[j]?=oZ y)(hij:i≠j)(hx:X.env.scope.names.lookup x=oZ .local)(hy:X.env.scope.names.lookup y=oZ .local)(ha:QA X [a,b] (dB K n Fr))(hw:ni [.Tuple [.Name x px,.Name y py] kt pt] (.Tuple [a,b] k2 pt2) X.env=pure (oZ [x,y]))(hs:mz [.Tuple [.Name x px,.Name y py] kt pt] (.Tuple [a,b] k2 pt2) pos.line X.env=pure false:=by rfl):
  QS X (.Assign [.Tuple [.Name x px,.Name y py] kt pt] (.Tuple [a,b] k2 pt2) pos) (jD K (NV i j Fr)):=by
 refine(F8 hc hN hi hj hij hx hy ha hw hs).le λD σ H hl h0=>?_;obtain⟨B,E,DT,re,hF,l⟩:=h0;refine⟨B,σ,E,_,⟨[],by simp⟩,re,hF,λrs E' vs H' S' q g ui rr hn=>?_⟩;split at q
 ·rename_i m n;obtain⟨v,ws,e1,h1,w,ws',e2,h2,h3⟩:=rr;cases h3;subst e2;subst e1;obtain⟨q1,q2,q⟩:=q;split at q
  ·rename_i xs hm;split at q
   ·rename_i ys hn';rw[<-re.len]at q q1;have hjl:j<σ.length:=by rw[hl];exact(WE.mp hj).1
    obtain⟨r2,ow⟩:=ui.setO2 (σ:=σ) (i:=i) (j:=j) g.pre hjl q1 q2 hm hn' h1 h2;refine⟨v,w,rfl,?_⟩;rw[bg _ _ hij];exact l.nx _ _ _ q (g.kp.trans (Kp.less ow)) r2
   ·exact q.elim
  ·exact q.elim
 ·exact q.elim
end
section
variable{X:Cx}{e:oC}{es:List oC}{pos:Pos}{K:W.Frag}{Fr:FA}
def SK(Fr:FA):FE:=λE Q=>Fr E λrs E1=>match rs with
 |[x,y]=>i2 (vl E1 x) (vl E1 y) λi j=>Q (.p (.int (if j<i then j else i))) E1
 |_=>False
theorem FK(hc:X.calm=true)(hg:Gl X "min")(hm:X.mg "min" = none)(ha:QA X (e::es) (dB K n Fr))(hs:b8 (e::es)=true:=by rfl):QE X (.Call (.Name "min" p) (e::es) [] pos) (aO K (SK Fr)):=by
 refine(kK (Ux hc) hg hm boot_min ha ∅ ∅ hs).le λσ H Q hl h=>args (Fr:=Fr) h λB S E rs vs H2 Q' hS re rr hn q lk=>?_;obtain _|⟨x,_|⟨y,_|⟨_,_⟩⟩⟩:=rs
 ·exact False.elim q
 ·exact False.elim q
 ·obtain⟨v,ws,e1,h1,u,ws',e2,h2,h3⟩:=rr;cases h3;subst e2;subst e1;obtain⟨i,j,e3,e4,q⟩:=i2.ex q;exact⟨i,j,by rw[re.int h1 e3,re.int h2 e4],lk _ _ _ _ _ q .refl re rfl⟩
 ·exact False.elim q
end
theorem RE.setN{K:W.Frag}{B:jz->Prop}{H:Hp}{S:St}{E:En}(re:RE K B H S E){i:Nat}{v:V}:RE K B H (S.set i (oZ v)) (E.set i none)/\∀b,Ow B (S.set i (oZ v)) (E.set i none) b->Ow B S E b:=by
 have gE:∀{j:Nat}{u:U},(E.set i none)[j]?=oZ (oZ u)->i≠j/\E[j]?=oZ (oZ u):=λ{j u}h=>by
  by_cases c:i=j
  ·subst c
   by_cases d:i<E.length
   ·rw[XN d]at h;cases h
   ·rw[YJ (by simpa using d)]at h;cases h
  ·rw[XD c]at h;exact⟨c,h⟩
 refine re.map (by simp[re.len]) (λj t h=>?_) id (λj k xs h=>?_) λ_ _ _ _ _ _ _ _ h=>h
 ·obtain⟨c,h⟩:=gE h;obtain⟨v',h1,h2⟩:=re.pure j t h;exact⟨v',by rw[XD c];exact h1,h2⟩
 ·obtain⟨c,h⟩:=gE h;obtain⟨a,vs,h1,_⟩:=re.own j k xs h;exact⟨h,a,h1,by rw[XD c];exact h1⟩
def Lo(d:DD)(K:W.Frag)(n:Nat)(F:FA):TA:=λσ H Q=>mR d σ H/\dB K n F σ H Q
theorem QE.dd{X:Cx}{K:W.Frag}{d:DD}{e:oC}{Fa:FE}(h:QE X e (aO K Fa)):QE X e (lO d K Fa):=h.le λ_ _ _ _ z=>z.2
theorem QA.dd{X:Cx}{K:W.Frag}{d:DD}{es:List oC}{Fr:FA}{n:Nat}(h:QA X es (dB K n Fr)):QA X es (Lo d K n Fr):=h.le λ_ _ _ z=>z.2
theorem FD{X:Cx}{K:W.Frag}{d:DD}{e:oC}{es:List oC}{Fa:FE}{Fr:FA}{n:Nat}(ha:QE X e (lO d K Fa))(hr:QA X es (Lo d K n Fr))(hs:bG e=false:=by rfl):QA X (e::es) (Lo d K (n+1) (kA Fa Fr)):=by
 refine(qc ha hr hs).le λσ H Q zZ=>?_;obtain⟨dt,B,S,E,Q',⟨τ,hS⟩,re,hF,lk⟩:=zZ;refine⟨dt,B,S,E,_,⟨τ,hS⟩,re,hF,λr E1 v H1 S1 q g uk rr=>?_⟩;obtain⟨τ1,zm⟩:=g.pre;exact⟨dt.kp re g.kp,B,S1,E1,_,⟨τ++τ1,by rw[zm,hS,XB]⟩,uk,q,λrs E2 vs H2 S2 q2 g2 xu rr2 hn=>lk _ _ _ _ _ q2 (g.trans g2) xu ⟨v,vs,rfl,rr.step g2,rr2⟩ (by rw[XG,hn])⟩
theorem Yl{X:Cx}{K:W.Frag}{d:DD}{pos:Pos}{e:oC}{es:List oC}{Fr:FA}{n k j:Nat}{x:Str}{ps:List Str}{S:dG}{p:Pos}(F:Fn X.prog X.w X.K X.mg X.base k x ps (aJ K S))(hr:d5 j X.A)(hk:k<=j)(hg:Gl X x)(ha:QA X (e::es) (Lo d K n Fr))(yt:(x==("__debug__":Str))=false:=by decide)(hs:b8 (e::es)=true:=by rfl):QE X (.Call (.Name x p) (e::es) [] pos) (lO d K (Ju S Fr)):=(vV F hr hk hg ha yt hs).le λ_ _ _ _ h=>⟨h.1,Jf h.2⟩
theorem QB.leL(h:QB X sts t)(m:∀D σ H,σ.length=X.N.length->t' D σ H->t D σ H):QB X sts t':=⟨λpins s σ H D I z=>h.h pins s σ H D I (m D σ H I.len z)⟩
end L2
namespace PySem
namespace F
end F
end PySem
namespace L2
open PySem PySem.Spec PyProof.Rows
structure QM(i:Nat)(so:List (Key×V))(K:W.Frag)(B:jz->Prop)(H:Hp)(σ:St)(E:En)(DT:ET)(D:dD):Prop where
 nx:∀σ' H' E',DT.nx E'->Gs B H σ E H' σ' E'->RE K B H' σ' E'->Iy i so σ' H'->D.nx σ' H'
 rt:∀r E' v H' S',DT.rt r E'->Gs B H σ E H' S' E'->RE K B H' S' E'->RR K B H' S' E' r v->D.rt v H'
 bk:∀σ' H' E',DT.bk E'->Gs B H σ E H' σ' E'->RE K B H' σ' E'->Iy i so σ' H'->D.bk σ' H'
 ct:∀σ' H' E',DT.ct E'->Gs B H σ E H' σ' E'->RE K B H' σ' E'->Iy i so σ' H'->D.ct σ' H'
theorem QM.step{i:Nat}{so:List (Key×V)}{K:W.Frag}{B:jz->Prop}{H H':Hp}{σ σ':St}{E E':En}{DT:ET}{D:dD}(l:QM i so K B H σ E DT D)(g:Gs B H σ E H' σ' E'):QM i so K B H' σ' E' DT D:=
 ⟨λa b c d e=>l.nx a b c d (g.trans e),λa b c d e f h=>l.rt a b c d e f (g.trans h),λa b c d e=>l.bk a b c d (g.trans e),λa b c d e=>l.ct a b c d (g.trans e)⟩
def jW(i:Nat)(so:List (Key×V))(K:W.Frag)(F:FS):TS:=λD σ H=>Iy i so σ H/\∃B E DT,RE K B H σ E/\F DT E/\QM i so K B H σ E DT D
theorem Iy.keep{K:W.Frag}{B:jz->Prop}{H:Hp}{H':Hp}{σ:St}{σ':St}{E:En}{i:Nat}{so:List (Key×V)}(d:Iy i so σ H)(re:RE K B H σ E)(k:∀b o,H b=oZ o->¬Ow B σ E b->H' b=oZ o)(h:σ'[i]?= σ[i]?):Iy i so σ' H':=by
 obtain⟨p,h1,h2⟩:=d;exact⟨p,by rw[h];exact h1,k p _ h2 λz=>by obtain⟨vs,e⟩:=re.ow z;rw[h2]at e;cases e⟩
theorem uP{X:Cx}{K:W.Frag}{st:ki}{sts:List ki}{F:FS}{G:FS}{i:Nat}{so:List (Key×V)}(h1:QS X st (jW i so K F))(h2:QB X sts (jW i so K G)):QB X (st::sts) (jW i so K (AH F G)):=
 (Hh h1 h2).le λD σ H zZ=>by obtain⟨dt,B,E,DT,re,hF,l⟩:=zZ;exact⟨dt,B,E,_,re,hF,⟨λσ' H' E' hG g ui d'=>⟨d',B,E',DT,ui,k6 hG,l.step g⟩,l.rt,l.bk,l.ct⟩⟩
theorem Fj{X:Cx}{K:W.Frag}{st:ki}{F:FS}{i:Nat}{so:List (Key×V)}(h1:QS X st (jW i so K F)):QB X [st] (jW i so K F):=Pj h1
theorem Yc{X:Cx}{K:W.Frag}{pos:Pos}{e:oC}{Fa:FE}{i:Nat}{so:List (Key×V)}(h:QE X e (aO K Fa)):QS X (.Return (oZ e) pos) (jW i so K (NW Fa)):=
 (Pk h).le λD σ H hl zZ=>by obtain⟨dt,B,E,DT,re,hF,l⟩:=zZ;exact⟨B,σ,E,_,⟨[],by simp⟩,re,hF,λr E' v H' S' q g ui rr=>l.rt r E' v H' S' q g.kp ui rr⟩
theorem R6{X:Cx}{K:W.Frag}{pos:Pos}{e:oC}{Fa:FE}{i:Nat}{so:List (Key×V)}(he:QE X e (aO K Fa))(hs:my e none pos.line X.env=pure false:=by rfl):QS X (.Expr e pos) (jW i so K (G8 Fa)):=
 (Hi he hs).le λD σ H hl zZ=>by obtain⟨dt,B,E,DT,re,hF,l⟩:=zZ;exact yX (P:=λ_ _ E'=>DT.nx E') re hF λr E' v H' S' q g ui rr xu ow=>l.nx _ _ _ q (g.kp.trans (Kp.less ow)) xu (dt.keep re g.kp.keep rfl)
theorem Yd{X:Cx}{K:W.Frag}{pos:Pos}{e:oC}{Fa:FE}{i:Nat}{so:List (Key×V)}{j:Nat}{x:Str}{pos':Pos}(hN:X.N.Nodup)(hi:X.N[j]?=oZ x)(hx:Bg X.env.scope x)(he:QE X e (aO K Fa))(zw:j≠i)(hs:my e (oZ (.Name x pos')) pos.line X.env=pure false:=by rfl)(hf:X.fn x=true\/X.env.scope.names.lookup x=oZ .local:=by first|exact .inl rfl|exact .inr rfl|assumption):QS X (.Assign [.Name x pos'] e pos) (jW i so K (AI j Fa)):=
 (Pl hN hi hx he hs hf).le λD σ H hl⟨dt,B,E,DT,re,hF,l⟩=>⟨B,σ,E,_,⟨[],by simp⟩,re,hF,λr E' v H' S' q g ui rr=>by
  obtain⟨u,e1,q⟩:=q.ex;rw[<-re.len]at e1 q;obtain⟨r1,ow⟩:=rF (i:=j) ui g.pre rr e1;exact l.nx _ _ _ q (g.kp.trans (Kp.less ow)) r1 (dt.keep re g.kp.keep (XD zw))⟩
theorem ES{X:Cx}{K:W.Frag}{body:List ki}{pos:Pos}{F:FS}{i:Nat}{so:List (Key×V)}{j:Nat}{x:Str}{p1:Pos}{iter:oC}{I:FI}(hp:PassesOwn (km X.prog X.w) X.A X.env X.xe)(hc:X.calm=true)(hi:QI X (.Name x p1) iter (mD K I))(hN:X.N.Nodup)(hj:X.N[j]?=oZ x)(hx:Bg X.env.scope x)(hb:QB X body (jW i so K F))(zw:j≠i)(hs:∀x,lh iter X.env x=pure x:=by intro _;rfl)(hf:X.fn x=true\/X.env.scope.names.lookup x=oZ .local:=by first|exact .inl rfl|exact .inr rfl|assumption):
  QS X (.For (.Name x p1) iter body [] pos) (jW i so K (NT I (sD j) F)):=by
 refine(F7 hp hc hi (u4 hN hj hx hf) hb hs).le λD σ H hl zZ=>?_;obtain⟨dt,B,E,DT,re,hF,l⟩:=zZ;refine⟨B,σ,E,_,⟨[],by simp⟩,re,hF,λJ items us E1 H1 S1 gd q g1 uk ok _ hgd=>?_⟩;obtain⟨E2,e2,q⟩:=q.ex;replace q:=k6 q;obtain⟨f1,f2,f3,f4⟩:=Fv uk e2;obtain⟨c1,c2⟩:=f1.cut (E:=E) g1.pre re.len;have gs:Gs B H σ E H1 σ (E2.take E.length):=g1.kp.trans ((Kp.less f2).trans (Kp.less c2));have gd1:gd H1 (Ow B σ (E2.take E.length)):=hgd _ (λb z=>f2 b (c2 b z)) λj hj a ha z=>f3 j hj a ha (c2 a z);refine⟨λi' m σ' H'=>m=items.length-i'/\i'<=items.length/\∃E',fJ (sD j) F DT (items.drop i') E'/\Gs B H σ E H' σ' E'/\RE K B H' σ' E'/\gd H' (Ow B σ' E')/\Iy i so σ' H',⟨_,rfl,WS _,_,q,gs,c1,gd1,dt.keep re gs.keep rfl⟩,?_⟩;rintro i' m σ2 H2 ⟨rfl,zx,E3,q3,g3,zd,gd3,dt3⟩;obtain yc|hge:=XQ i' items.length
 ·have hd:items.drop i'=items[i']::items.drop (i'+1):=YN yc;rw[hd]at q3;refine .inr ⟨ok.go i' H2 _ gd3 yc,λσ' H'=>∃E',fJ (sD j) F DT (items.drop (i'+1)) E'/\Gs B H σ E H' σ' E'/\RE K B H' σ' E'/\gd H' (Ow B σ' E')/\Iy i so σ' H',λσ' H' zZ=>by obtain⟨E',z⟩:=zZ;exact⟨items.length-(i'+1),⋯,rfl,yc,E',z⟩,λy H4 yl=>?_⟩;obtain⟨k4,s4,rp⟩:=ok.yld i' H2 _ y H4 _ gd3 (WG yc) (λa z=>by obtain⟨vs,e⟩:=zd.ow z;rw[e];intro z;cases z) yl;have re4:=zd.kept s4;have gd4:=ok.keep _ _ _ _ k4 gd3;obtain⟨re5,ow5⟩:=re4.setP (i:=j) rp;have q5:=k6 (show xS (E3.set j (oZ (.p items[i']))) (F { DT with nx:=fJ (sD j) F DT (items.drop (i'+1)),ct:=fJ (sD j) F DT (items.drop (i'+1)),bk:=DT.nx })from q3);have g5:Gs B H4 σ2 E3 H4 (σ2.set j (oZ y)) (E3.set j (oZ (.p items[i']))):=Kp.less ow5;have gd5:=ok.keep _ _ _ _ g5 gd4;have gg:=(g3.trans k4).trans g5;have l5:=l.step gg;have dt5:Iy i so (σ2.set j (oZ y)) H4:=dt3.keep zd (λb o e _=>s4 b o e) (XD zw);refine⟨dt5,B,_,_,re5,q5,?_⟩;exact⟨λσ' H' E' z g ui d'=>⟨E',z,gg.trans g,ui,ok.keep _ _ _ _ g gd5,d'⟩,l5.rt,λσ' H' E' z g ui d'=>l5.nx _ _ _ z g ui d',λσ' H' E' z g ui d'=>⟨E',z,gg.trans g,ui,ok.keep _ _ _ _ g gd5,d'⟩⟩
 ·have ei:i'=items.length:=⋯
  subst ei;rw[ZU]at q3;exact .inl ⟨ok.stop H2 _ gd3,l.nx _ _ _ q3 g3 zd dt3⟩
end L2
namespace HT
open PySem PySem.Spec PyProof.Rows
end HT
namespace L2
open PySem PySem.Spec PyProof.Rows
def s1(x:Option T)(k:Str->Prop):Prop:=match x with
 |some (.str i)=>k i
 |_=>False
theorem s1.ex{k:Str->Prop}(h:s1 x k):∃i,x=oZ (.str i)/\k i:=by
 unfold s1 at h;split at h
 ·exact⟨_,rfl,h⟩
 ·exact h.elim
def s2(x y:Option T)(k:Str->Str->Prop):Prop:=match x,y with
 |some (.str i),oZ (.str j)=>k i j
 |_,_=>False
theorem s2.ex{k:Str->Str->Prop}(h:s2 x y k):∃i j,x=oZ (.str i)/\y=oZ (.str j)/\k i j:=by
 unfold s2 at h;split at h
 ·exact⟨_,_,rfl,rfl,h⟩
 ·exact h.elim
def si(x y:Option T)(k:Str->Int->Prop):Prop:=match x,y with
 |some (.str i),oZ (.int j)=>k i j
 |_,_=>False
theorem si.ex{k:Str->Int->Prop}(h:si x y k):∃i j,x=oZ (.str i)/\y=oZ (.int j)/\k i j:=by
 unfold si at h;split at h
 ·exact⟨_,_,rfl,rfl,h⟩
 ·exact h.elim
abbrev big:Nat:=1000000
theorem Mt(h:n<=big):n<=ky:=by rw[sizeLine_eq];unfold big at h;lia
theorem RE.str{K:W.Frag}{B:jz->Prop}{H:Hp}{S:St}{E:En}(re:RE K B H S E){r:R}{v:V}{i:Str}(h:RR K B H S E r v)(e:L2.vl E r=oZ (.str i)):v = .str i:=re.vl h e
section
variable{X:Cx}{K:W.Frag}{pos:Pos}{a b c e o:oC}{es:List oC}{Fa Fb Fc Fo:FE}{Fr:FA}
def LN(Fa Fb:FE):FE:=λE Q=>Fa E λx E1=>Fb E1 λy E2=>s2 (vl E2 x) (vl E2 y) λi j=>i.length+j.length<=big/\∀z,z=i++j->Q (.p (.str z)) E2
theorem Rr(ha:QE X a (aO K Fa))(hb:QE X b (aO K Fb)):QE X (.BinOp a .Add b pos) (aO K (LN Fa Fb)):=by
 refine(Ab Pe ha hb).le λσ H Q hl h=>two h λB S E x y v w H2 Q' hS re rx ry q lk=>?_;obtain⟨i,j,e1,e2,c,q⟩:=q.ex;exact⟨i,j,re.str rx e1,re.str ry e2,Mt c,lk _ _ _ _ _ (q _ rfl) .refl re rfl⟩
theorem GW{n:Int}(h0:0<=n)(h:x.length*n.toNat<=big)(hn:n<=big):MulOk x n:=by
 unfold big at h hn;refine⟨?_,λh1 h2 h3=>?_,λh1 h2=>?_⟩
 ·rw[oX ⋯,oX ⋯];rfl
 ·have:(x.length:Int)*n<=1000000:=by
   have e:((x.length*n.toNat:Nat):Int)=(x.length:Int)*n:=by rw[Int.natCast_mul,Int.toNat_of_nonneg h0]
   lia
  have h5:(2^63-1)/n+1<=(x.length:Int):=⋯
  have h6:((2^63-1)/n+1)*n<=(x.length:Int)*n:=Int.mul_le_mul_of_nonneg_right h5 h0;have h7:(2^63-1)/n*n+(2^63-1)%n=2^63-1:=by rw[Int.mul_comm];exact Int.mul_ediv_add_emod _ _
  have h8:(2^63-1)%n<n:=cy _ ⋯;rw[Int.add_mul,Int.one_mul]at h6
  lia
 ·unfold Builtin.Str.tooLong;exact oX (by rw[sizeLine_eq];lia)
theorem Pf:o8 X (mr .Mult) (λx y H Q=>∃i j,x = .str i/\y = .int j/\MulOk i j/\Q (.str (eh i j)) H):=by
 intro pins s σ H x y v u Q I rx ry h;obtain⟨i,j,rfl,rfl,hm,q⟩:=h;obtain⟨t,rfl⟩:=rx;obtain⟨t',rfl⟩:=ry;exact SB.mul hm λt' k=>⟨.str _,H,I.tok _,⟨_,rfl⟩,q⟩
def LV(Fa Fb:FE):FE:=λE Q=>Fa E λx E1=>Fb E1 λy E2=>si (vl E2 x) (vl E2 y) λi j=>(0<=j/\j<=big/\i.length*j.toNat<=big)/\∀z,z=eh i j->Q (.p (.str z)) E2
theorem T4(ha:QE X a (aO K Fa))(hb:QE X b (aO K Fb)):QE X (.BinOp a .Mult b pos) (aO K (LV Fa Fb)):=by
 refine(Ab Pf ha hb).le λσ H Q hl h=>two h λB S E x y v w H2 Q' hS re rx ry q lk=>?_;obtain⟨i,j,e1,e2,⟨c1,c2,c3⟩,q⟩:=q.ex;exact⟨i,j,re.str rx e1,re.int ry e2,GW c1 c3 c2,lk _ _ _ _ _ (q _ rfl) .refl re rfl⟩
def SF(Fa Fb:FE):FE:=λE Q=>Fa E λx E1=>Fb E1 λy E2=>s2 (vl E2 x) (vl E2 y) λi j=>Q (.p (.bl (!(Builtin.Str.occurrences j i 0 j.length 1).isEmpty))) E2
def SH(Fa Fb:FE):FE:=λE Q=>Fa E λx E1=>Fb E1 λy E2=>si (vl E2 x) (vl E2 y) λi j=>i.length<=big/\o1 (eZ i.cps.toList j) λc=>Q (.p (.str ⟨#[c]⟩)) E2
theorem FH(eK:X.K=K)(ha:QE X a (aO K Fa))(hb:QE X b (aO K Fb))(hs:uJ b):QE X (.Subscript a b pos) (aO K (SH Fa Fb)):=by
 subst eK;refine(CF Zk ha hb hs).le λσ H Q hl h=>two (Fa:=Fa) (Fb:=Fb) h λB S E x y v w H2 Q' hS re rx ry q lk=>?_;obtain⟨i,j,e1,e2,c,q⟩:=q.ex;obtain⟨d,e3,q⟩:=o1.ex q;exact .inr (.inr ⟨i,j,d,re.str rx e1,re.int ry e2,Mt c,e3,lk _ _ _ _ _ q .refl re rfl⟩)
end
open Classical in
noncomputable def xP (Z:jz->Prop) (H:Hp):Hp:=λb=>if Z b then none else H b
open Classical in
noncomputable def back (Z:jz->Prop) (H H':Hp):Hp:=λb=>if Z b then H b else H' b
theorem Zc{Z:jz->Prop}(h:Z b):xP Z H b=none:=oV h
theorem pU{Z:jz->Prop}(h:¬Z b):xP Z H b=H b:=oW h
theorem mJ{Z:jz->Prop}(h:H b=none):xP Z H b=none:=by unfold xP;split<;>first|rfl|exact h
theorem Vp{Z:jz->Prop}(h:xP Z H b=oZ o):¬Z b/\H b=oZ o:=by
 unfold xP at h;split at h
 ·cases h
 ·rename_i n;exact⟨n,h⟩
theorem Ms{Z:jz->Prop}(h:Z b):back Z H H' b=H b:=oV h
theorem kT{Z:jz->Prop}(h:¬Z b):back Z H H' b=H' b:=oW h
def NZ(sp:Sp):Sp:=λvs H Q E=>∃Z:jz->Prop,(∀c,Z c->∃us,H c=oZ (.lst us))/\sp vs (xP Z H) (λv H'=>(∀c,Z c->H' c=none)->Q v (back Z H H')) E
theorem aV.frame{P:kg}{w:ko}{K:W.Frag}{mg:Str->Option oA}{base:oE}{k:Nat}{f:jz}{fd:mf}{ps:List Str}{sp:Sp}(F:aV P w K mg base cM k f fd ps sp):(~~~aV) cM k f fd ps (NZ sp):=by
 refine⟨λvs H Q E zZ=>by obtain⟨Z,_,h⟩:=zZ;exact F.len _ _ _ _ h,λA outer s H args us vs Q E hr he hb hv⟨Z,hZ,hs⟩=>?_⟩;have nl:∀{b:jz}{o:HO},H b=oZ o->(∀us,o≠.lst us)->¬Z b:=λ{b o}h n z=>by
  obtain⟨us,e⟩:=hZ b z;rw[h]at e;cases e;exact n us rfl
 have he':Xi P w K mg base A outer s (xP Z H):=⟨he.frames,he.mod,λb o q=>⟨(he.bs b o q).1,mJ (he.bs b o q).2⟩,he.bsz,he.funs,λb m=>mJ (he.frf b m),λa o e=>by
   obtain⟨n,e⟩:=Vp e;exact(he.hok a o e).stay (λ_ _ _ q=>q) (λb q=>by rw[pU (nl q λ_ z=>by cases z)];exact q) (λb xs q=>by rw[pU (nl q λ_ z=>by cases z)];exact q),he.bare⟩
 refine rn (F.run A outer s (xP Z H) args us vs _ E hr he' hb hv hs) λr s' h=>?_;cases r with
 |error e=>exact h
 |ok fin=>
  cases fin with
  |ret u=>
   obtain⟨v,H1,h1,h2,un,ok,rv,q⟩:=h;have gone:∀c,Z c->H1 c=none:=λc z=>by
    obtain⟨us,e⟩:=hZ c z;obtain⟨_,sf,n,_,q⟩:=he.hok c _ e;exact un.free c _ q (Zc z) (by simp)
   refine⟨v,back Z H H1,h1,h2,⟨λb o q n=>un.keep b o q (mJ n),λb o q n=>un.slot b o q (mJ n),λb o q n x=>?_,un.there,λb xs q=>?_,λb o u q=>?_,λb ps q=>?_⟩,λa o e=>?_,rv,q gone⟩
   ·by_cases z:Z b
    ·rw[Ms z];exact n
    ·rw[kT z];exact un.free b o q (mJ n) x
   ·have z:=nl q λ_ z=>by cases z
    rw[kT z];exact un.tups b xs (by rw[pU z];exact q)
   ·have z:=nl q λ_ z=>by cases z
    rw[kT z];exact un.frzs b o u (by rw[pU z];exact q)
   ·have z:=nl q λ_ z=>by cases z
    rw[kT z];exact un.tbls b ps (by rw[pU z];exact q)
   ·by_cases z:Z a
    ·rw[Ms z]at e;obtain⟨us,e'⟩:=hZ a z;rw[e]at e';cases e';obtain⟨y,sf,n,r,g⟩:=he.hok a _ e;refine⟨y,sf,n,r,un.keep a _ g (Zc z) (λm=>?_) (by simp)⟩;rw[he.frf a m]at e;cases e
    ·rw[kT z]at e;exact(ok a o e).stay (λ_ _ _ q=>q) (λb q=>by rw[kT λz=>by rw[gone b z]at q;cases q];exact q) (λb xs q=>by rw[kT λz=>by rw[gone b z]at q;cases q];exact q)
  |_=>exact h
theorem Fn.frame{P:kg}{w:ko}{K:W.Frag}{mg:Str->Option oA}{base:oE}{k:Nat}{x:Str}{ps:List Str}{sp:Sp}(F:Fn P w K mg base k x ps sp):(~~~Fn) k x ps (NZ sp):=by
 obtain⟨f,fd,ok,h⟩:=F.ex;exact⟨⟨f,fd,ok.frame,h⟩⟩
def xJ(K:W.Frag)(S:dG):Sp:=λvs H Q _=>∃(as:List A)(Q':RV->List T->Prop)(bx:Option jz),RE K (λa=>bx=oZ a) H (vs.map oZ) (lD as)/\(kW as=none->bx=none)/\S as Q'/\
 ∀t xs v H',Q' (.v t) xs->(∀b o,H b=oZ o->bx≠oZ b->H' b=oZ o)->(∀a,bx=oZ a->∃ws,H' a=oZ (.lst ws)/\dN K H' (j9 H') xs ws)->Rp K H' (λb=>bx=oZ b) t v->Q v H'
def RW(as:List A)(Q:RV->List T->Prop):ET where
 nx:=λ_=>False
 rt:=λr E=>o1 (zB as E) λxs=>match r with
  |.p t=>Q (.v t) xs
  |.s i=>match E[i]? with
   |some (↥ys)=>Q (.v (.lst ys)) xs
   |some (⇑t)=>Q (.v t) xs
   |_=>False
theorem cK.okL{P:kg}{w:ko}{K:W.Frag}{mg:Str->Option oA}{base:oE}{x qual:Str}{st:ki}{f:jz}{fd:mf}{N ps:List Str}{k:Nat}{S:dG}{F:FS}(Fn:cK K x qual st f fd)(Sc:aF N ps (aC st))(len:∀as Q,S as Q->as.length=ps.length)(hb:∀(wj:oA)(A:oD)(outer:List Env)(s:oB)(H:Hp)(E:XK),d5 k (A.deeper (ph qual (aC st) s.heap.objs.size f wj))->QB (zE cM P w K mg base N qual (aC st) f wj A outer s H E).nox (c7 st) (jD K F))(hF:∀as Q,S as Q->F (RW as Q) (lD as++WN (N.length-as.length) none)):(~~~aV) cM (k+1) f fd ps (xJ K S):=by
 refine Fn.okQ Sc (λvs H Q E⟨as,Q',bx,re,hbn,hS,l⟩=>?_) (λwj A outer s H vs Q E hr⟨as,Q',bx,re,hbn,hS,l⟩=>?_)
 ·have:=re.len;rw[WJ,fD]at this;rw[this];exact len as Q' hS
 have hl:vs.length=as.length:=by have:=re.len;rwa [WJ,fD]at this
 refine⟨_,hb wj A outer s H E hr,?_⟩;obtain⟨re0,ow0⟩:=re.pad (N.length-as.length);have hst:lC N vs=vs.map oZ++WN (N.length-as.length) none:=by unfold lC;rw[hl]
 rw[hst]
 -- the box's address
 have aD4:∀b,Ow (λa=>bx=oZ a) (vs.map oZ) (lD as) b->bx=oZ b:=λb z=>by
  obtain z|⟨i,kk,xs,h1,h2⟩:=z
  ·exact z
  obtain⟨a,ws,q1,_,_,q4⟩:=re.own i kk xs h1;rw[h2]at q1;cases q1;exact q4.mp (Rl h1)
 have fr:∀{H':Hp}{S':St}{E':En},Gs (λa=>bx=oZ a) H (vs.map oZ++WN (N.length-as.length) none) (lD as++WN (N.length-as.length) none) H' S' E'->∀b o,H b=oZ o->bx≠oZ b->H' b=oZ o:=λg b o h n=>g.keep b o h λz=>n (aD4 b (ow0 b z));have fin:∀{r:T}{xs:List T}{v:V}{H':Hp}{S':St}{E':En},zB as E'=oZ xs->Q' (.v r) xs->Gs (λa=>bx=oZ a) H (vs.map oZ++WN (N.length-as.length) none) (lD as++WN (N.length-as.length) none) H' S' E'->RE K (λa=>bx=oZ a) H' S' E'->
   Rp K H' (λb=>bx=oZ b) r v->Q v H':=λ{r xs v H' S' E'}e q g ui hr=>by
  have hbx:∀a,bx=oZ a->∃ws,H' a=oZ (.lst ws)/\dN K H' (j9 H') xs ws:=λa ha=>by
   unfold zB at e;cases qb:kW as with
   |none=>
    rw[qb]at e;cases e;rw[hbn qb]at ha;cases ha
   |some j=>
    rw[qb]at e;simp only at e;split at e
    ·rename_i ys hE;split at e
     ·cases e;rename_i hnl;obtain⟨b,ws,h1,h2,h3,h4⟩:=ui.own j true xs hE;have:bx=oZ b:=h4.mp rfl;rw[ha]at this;cases this;exact⟨ws,h2,dN.noL (λ_ z=>z) hnl h3⟩
     ·cases e
    ·cases e
  exact l r xs v H' q (fr g) hbx hr
 refine⟨_,_,_,re0,hF as Q' hS,⟨λ_ _ _ z=>z.elim,λr E' v H' S' q g ui rr=>?_,λ_ _ _ z=>z.elim,λ_ _ _ z=>z.elim⟩⟩;obtain⟨xs,e,q⟩:=q.ex;cases r with
 |p t=>exact fin e q g ui (Rp.step (Kp.less λb z=>.inl z) rr)
 |s i=>
  simp only at q;split at q
  ·rename_i ys hE;obtain⟨b,ws,h1,h2,h3,h4⟩:=ui.own i false ys hE;have rr':S'[i]?=oZ (oZ v):=rr;rw[rr']at h1;cases h1;exact fin e q g ui ⟨b,ws,rfl,.inl ⟨λz=>(by have:=h4.mpr z;cases this),.inl h2⟩,h3.step (Kp.less λb z=>.inl z)⟩
  ·rename_i t hE;obtain⟨w,h1,h2⟩:=ui.pure i t hE;have rr':S'[i]?=oZ (oZ v):=rr;rw[rr']at h1;cases h1;exact fin e q g ui (h2.step (Kp.less λb z=>.inl z))
  ·exact q.elim
def EW(S:dG)(Fr:FA):FE:=λE Q=>Fr E λrs E1=>match rs with
 |.s j::rs=>o1 (xO E1 rs) λz=>match z.2[j]? with
  |some (oZ (.o k xs))=>S (.b xs::z.1.map A.v) λr ys=>match r with
   |.v t=>Q (.p t) (z.2.set j (oZ (.o k ys)))
   |.l _=>False
  |_=>False
 |_=>False
theorem Jw{X:Cx}{K:W.Frag}{pos:Pos}{e:oC}{es:List oC}{Fr:FA}{n k j:Nat}{x:Str}{ps:List Str}{S:dG}{p:Pos}(F:Fn X.prog X.w X.K X.mg X.base k x ps (xJ K S))(hr:d5 j X.A)(hk:k<=j)(hg:Gl X x)(ha:QA X (e::es) (dB K n Fr))(yt:(x==("__debug__":Str))=false:=by decide)(hs:b8 (e::es)=true:=by rfl):QE X (.Call (.Name x p) (e::es) [] pos) (aO K (EW S Fr)):=by
 refine(vV F.frame hr hk hg ha yt hs).le λσ H Q hl h=>args (Fr:=Fr) h λB S' E0 rs vs H2 Q' hS re0 rr hn q lk=>?_;rw[XW];split at q
 ·rename_i jb rs';obtain⟨z,ez,q⟩:=o1.ex q;obtain⟨v0,ws,e2,h0,h2⟩:=rr;subst e2;obtain⟨re,owz,rp⟩:=uS re0 h2 ez;obtain⟨ts,E⟩:=z;simp only at q re owz rp;split at q
  ·rename_i kb xs hE;have h0':S'[jb]?=oZ (oZ v0):=h0;obtain⟨a0,us,k1,k2,k3,k4⟩:=re.own jb kb xs hE;rw[h0']at k1;cases k1;have ow0:Ow B S' E a0:=.inr ⟨jb,kb,xs,hE,h0'⟩;have kpi:Kp (Ow B S' E) (λb=>b=a0) H2 (xP (λb=>Ow B S' E b/\b≠a0) H2):=⟨λb o h n=>by rw[pU λz=>n z.1];exact h,λb z=>.inl (by rw[z];exact ow0)⟩;have get:∀{i:Nat}{u:U},(oZ (U.o true xs)::ts.map λt=>oZ (U.p t))[i]?=oZ (oZ u)->(i=0/\u = .o true xs)\/∃m t,i=m+1/\ts[m]?=oZ t/\u = .p t:=λ{i u}h=>by
    cases i with
    |zero=>simp at h;exact .inl ⟨rfl,h.symm⟩
    |succ m=>
     rw[ZY,WH]at h;cases q:ts[m]? with
     |none=>rw[q]at h;cases h
     |some t=>rw[q]at h;simp at h;exact .inr ⟨m,t,rfl,q,h.symm⟩
   have ow:∀b,Ow (λc=>oZ a0=oZ c) ((V.ref a0::ws).map oZ) (lD (A.b xs::ts.map A.v)) b->b=a0:=λb z=>by
    obtain z|⟨i,kk,ys,h3,h4⟩:=z
    ·cases z;rfl
    ·have h3':(oZ (U.o true xs)::ts.map λt=>oZ (U.p t))[i]?=oZ (oZ (U.o kk ys)):=by
      rw[<-h3];simp[lD,zG]
     obtain⟨c,z⟩|⟨m,t',e,q3,z⟩:=get h3'
     ·subst c;simp at h4;exact h4.symm
     ·cases z
   have enE:lD (A.b xs::ts.map A.v)=oZ (U.o true xs)::ts.map λt=>oZ (U.p t):=by simp[lD,zG]
   have kpa:Kp (Ow B S' E) (Ow (λc=>oZ a0=oZ c) ((V.ref a0::ws).map oZ) (lD (A.b xs::ts.map A.v))) H2 (xP (λb=>Ow B S' E b/\b≠a0) H2):=⟨kpi.keep,λb z=>.inl (by rw[ow b z];exact ow0)⟩;have aHB:xP (λb=>Ow B S' E b/\b≠a0) H2 a0=oZ (.lst us):=by rw[pU λz=>z.2 rfl];exact k2
   refine⟨λb=>Ow B S' E b/\b≠a0,λc z=>re.ow z.1,A.b xs::ts.map A.v,_,oZ a0,⟨by simp[lD,zG,rp.length],λi t h=>?_,λi kk ys h=>?_,λi i' kk l ys zs b h1 h3 _ _=>?_,λc z=>?_⟩,λz=>?_,q,λt ys v H1 q2 fr bxk rv gone=>?_⟩
   ·rw[enE]at h;obtain⟨_,z⟩|⟨m,t',e,q3,z⟩:=get h
    ·cases z
    ·cases z;subst e;obtain⟨v,h1,h3⟩:=rp.get q3;exact⟨v,by simp[h1],h3.step kpa⟩
   ·rw[enE]at h;obtain⟨c,z⟩|⟨m,t',e,q3,z⟩:=get h
    ·cases z;subst c;exact⟨a0,us,by simp,aHB,k3.step kpa,⟨λ_=>rfl,λ_=>rfl⟩⟩
    ·cases z
   ·rw[enE]at h1 h3;obtain⟨c,z⟩|⟨m,t',e,q3,z⟩:=get h1
    ·obtain⟨c',z'⟩|⟨m,t',e,q3,z'⟩:=get h3
     ·rw[c,c']
     ·cases z'
    ·cases z
   ·cases z;exact⟨us,aHB⟩
   ·simp[kW]at z
   ·obtain⟨ws',b1,b2⟩:=bxk a0 rfl;have hk0:∀b o,H2 b=oZ o->b≠a0->back (λb=>Ow B S' E b/\b≠a0) H2 H1 b=oZ o:=λb o z n=>by
     by_cases c:Ow B S' E b
     ·rw[Ms ⟨c,n⟩];exact z
     ·rw[kT λy=>c y.1];exact fr b o (by rw[pU λy=>c y.1];exact z) (by intro y;cases y;exact n rfl)
    have hb0:back (λb=>Ow B S' E b/\b≠a0) H2 H1 a0=oZ (.lst ws'):=by rw[kT λy=>y.2 rfl];exact b1
    have kpo:Kp (λb=>oZ a0=oZ b) (Ow B S' E) H1 (back (λb=>Ow B S' E b/\b≠a0) H2 H1):=⟨λb o z n=>by
      rw[kT λy=>by rw[gone b y]at z;cases z];exact z,λb z=>by
      by_cases c:b=a0
      ·exact .inl (by rw[c])
      ·exact .inr (gone b ⟨z,c⟩)⟩
    have kpb:Kp (j9 H1) (Ow B S' E) H1 (back (λb=>Ow B S' E b/\b≠a0) H2 H1):=⟨λb o z n=>by
      rw[kT λy=>by rw[gone b y]at z;cases z];exact z,λb z=>by
      by_cases c:b=a0
      ·exact .inl (by rw[c];exact⟨_,b1⟩)
      ·exact .inr (gone b ⟨z,c⟩)⟩
    generalize back (λb=>Ow B S' E b/\b≠a0) H2 H1=H' at hk0 hb0 kpo kpb⊢;have hk:∀b o,H2 b=oZ o->¬Ow B S' E b->H' b=oZ o:=λb o z n=>hk0 b o z λc=>n (by rw[c];exact ow0);have aBO:∀{i:Nat}{u:U},(E.set jb (oZ (.o kb ys)))[i]?=oZ (oZ u)->(i=jb/\u = .o kb ys)\/(i≠jb/\E[i]?=oZ (oZ u)):=λ{i u}h=>by
     by_cases c:i=jb
     ·subst c;rw[XN (WE.mp hE).1]at h;cases h;exact .inl ⟨rfl,rfl⟩
     ·rw[XD (λz=>c z.symm)]at h;exact .inr ⟨c,h⟩
    have kp:Kp (Ow B S' E) (Ow B S' E) H2 H':=⟨hk,λb z=>.inl z⟩;have owE:∀b,Ow B S' (E.set jb (oZ (.o kb ys))) b->Ow B S' E b:=λb z=>by
     obtain z|⟨i,k,zs,z1,z2⟩:=z
     ·exact .inl z
     obtain⟨c,z⟩|⟨c,z⟩:=aBO z1
     ·subst c;exact .inr ⟨_,kb,xs,hE,z2⟩
     ·exact .inr ⟨i,k,zs,z,z2⟩
    have ui:RE K B H' S' (E.set jb (oZ (.o kb ys))):=by
     refine re.step hk (by simp) (λi t h=>?_) (λi k zs h=>?_) (λa z=>?_)
     ·obtain⟨_,z⟩|⟨_,z⟩:=aBO h
      ·cases z
      ·exact z
     ·obtain⟨c,z⟩|⟨c,z⟩:=aBO h
      ·cases z;subst c;refine⟨xs,hE,λa ha=>?_⟩;rw[h0']at ha;cases ha;exact⟨ws',hb0,b2.step kpb⟩
      ·refine⟨zs,z,λa ha=>?_⟩;obtain⟨a',us',p1,p2,p3,_⟩:=re.own i k zs z;rw[ha]at p1;cases p1;have na:a≠a0:=λw=>c (re.inj i jb k kb zs xs a0 z hE (by rw[<-w];exact ha) h0');exact⟨us',hk0 a _ p2 na,p3.step kp⟩
     ·by_cases c:a=a0
      ·rw[c];exact⟨_,hb0⟩
      ·obtain⟨us',e⟩:=re.bd a z;exact⟨us',hk0 a _ e c⟩
    exact lk _ _ _ _ _ q2 ⟨⟨λb o z n=>hk b o z λy=>n (owz b y),λb z=>.inl (owz b (owE b z))⟩,[],by simp⟩ ui (Rp.step (Kp.mk (λb o z n=>kpo.keep b o z n) λb z=>kpo.new b (owE b z)) rv)
  ·exact q.elim
 ·exact q.elim
section
variable{X:Cx}{K:W.Frag}{pos ap:Pos}{e o:oC}{es:List oC}{Fo:FE}{Fr:FA}{name:Str}{id:String}
def LW(G:Str->R->En->(R->En->Prop)->Prop)(Fo:FE)(Fr:FA):FE:=λE Q=>Fo E λx E1=>s1 (vl E1 x) λi=>Fr E1 λrs E2=>match rs with
 |[y]=>G i y E2 Q
 |_=>False
theorem FP{G:Str->R->En->(R->En->Prop)->Prop}{r:V->List V->Hp->VK->Prop}(slot:Slot "str" name id)(hty:typeOf (.builtin id)=pure (.type "method_descriptor"))(hm:JX X id r)(k:∀B S E i y w H2 Q' Q,RE K B H2 S E->RR K B H2 S E y w->G i y E Q'->Lk K B H2 S E Q' Q->r (.str i) [w] H2 Q)(ho:QE X o (aO K Fo))(ha:QA X [e] (dB K n Fr))(wb:mj o name X.env (lq o X.env)=lq o X.env:=by rfl)(wc:(ap.endLine==pos.line)=true:=by rfl)(hs:bG e=false:=by rfl):
  QE X (.Call (.Attribute o name ap) [e] [] pos) (aO K (LW G Fo Fr)):=by
 refine QE.le ⟨Sn PySem.F.plainAttrs_str slot hty hm ho.h ha.h wb (by rw[cW hs];rfl) wc (cW hs) (gZ rfl)⟩ λσ H Q hl h=>one (Fa:=Fo) h λB S E x v H2 Q' hS re rx q lk=>?_;obtain⟨i,e1,q⟩:=q.ex;have ev:=re.str rx e1;subst ev;refine⟨rfl,B,S,E,_,hS,re,q,λrs E2 vs H3 S3 q3 g zd rr hn=>?_⟩;obtain _|⟨y,_|⟨_,_⟩⟩:=rs
 ·exact False.elim q3
 ·obtain⟨w,ws,e2,h1,h2⟩:=rr;cases h2;subst e2;exact k B S3 E2 i y w H3 Q' Q zd h1 q3 (lk.step g)
 ·exact False.elim q3
def Tg(l:List Str):List T:=l.map T.str
def mE:List T->Option (List Str)
 |[]=>oZ []
 |.str x::r=>(mE r).map (x::·)
 |_=>none
theorem Dz:∀{xs:List T}{l:List Str},mE xs=oZ l->xs=Tg l
 |[],_,h=>by cases h;rfl
 |.str x::r,l,h=>by
  cases q:mE r with
  |none=>rw[mE,q]at h;cases h
  |some m=>
   rw[mE,q]at h;cases h;rw[Dz q];rfl
 |.non::_,_,h=>by cases h
 |.bl _::_,_,h=>by cases h
 |.int _::_,_,h=>by cases h
 |.tup _::_,_,h=>by cases h
 |.lst _::_,_,h=>by cases h
theorem Lu:∀l:List Str,mE (Tg l)=oZ l
 |[]=>rfl
 |x::l=>by show(mE (Tg l)).map (x::·)=_;rw[Lu l];rfl
def BR(i:Str)(y:R)(E:En)(Q:R->En->Prop):Prop:=match vl E y with
 |some (.lst xs)=>o1 (mE xs) λl=>JoinOk i l=true/\∀z,z=iu i l->Q (.p (.str z)) E
 |_=>False
theorem Ea:∀{l:List Str}{us:List oA},bI (l.map V.str) us->∃m:List (Str×Tok),us=strValues m/\m.map (·.1)=l
 |[],us,h=>by cases h;exact⟨[],rfl,rfl⟩
 |x::l,us,h=>by
  cases h with
  |cons h1 h2=>
   obtain⟨t,rfl⟩:=h1;obtain⟨m,rfl,e⟩:=Ea h2;exact⟨(x,t)::m,rfl,by rw[YH,e]⟩
theorem Lh{O:jz->Prop}:∀{l:List Str}{vs:List V},dN K H O (Tg l) vs->vs=l.map V.str
 |[],_,h=>h
 |x::l,_,⟨v,r,e,h1,h2⟩=>by
  have h1:v = .str x:=h1;rw[e,h1,Lh h2];rfl
theorem V6:JX X "str.join" (λx vs H Q=>∃i a l,x = .str i/\vs=[.ref a]/\m7 X.K H a (l.map V.str)/\JoinOk i l=true/\Q (.str (iu i l)) H):=by
 intro pins s σ H x vs v us Q I rx rv h;obtain⟨i,a,l,rfl,rfl,sq,hj,q⟩:=h;obtain⟨t,rfl⟩:=rx;obtain⟨u,rfl,ry⟩:=Bc rv;cases ry;obtain⟨sf,r,pl,hz⟩:=I.list sq;obtain⟨m,rfl,e⟩:=Ea r;exact SC.join pl.isList e hj λt' k=>⟨.str _,H,I.tok _,⟨_,rfl⟩,q⟩
theorem S9(eK:X.K=K)(ho:QE X o (aO K Fo))(ha:QA X [e] (dB K n Fr))(wb:mj o "join" X.env (lq o X.env)=lq o X.env:=by rfl)(wc:(ap.endLine==pos.line)=true:=by rfl)(hs:bG e=false:=by rfl):QE X (.Call (.Attribute o "join" ap) [e] [] pos) (aO K (LW BR Fo Fr)):=by
 subst eK;refine FP PySem.F.slot_str_join PySem.F.type_str_join V6 (λB S E i y w H2 Q' Q re rr q lk=>?_) ho ha wb wc hs;unfold BR at q;split at q
 ·rename_i xs e1;obtain⟨l,e2,c,q⟩:=o1.ex q;rw[Dz e2]at e1;obtain⟨a,vs,rfl,sq,rs⟩:=re.vl rr e1;rw[Lh rs]at sq;exact⟨i,a,l,rfl,rfl,sq,c,lk _ _ _ _ _ (q _ rfl) .refl re rfl⟩
 ·exact q.elim
end
section
variable{X:Cx}{K:W.Frag}{pos:Pos}{a b c e o:oC}{es:List oC}{Fa Fb Fc Fo:FE}{Fr:FA}{Gl' Gh G:FO}
def KS(x:Str):It:=⟨λi _=>i<x.cps.size,λi H v H'=>H'=H/\∃c,x.cps[i]?=oZ c/\v = .str ⟨#[c]⟩,λi _=>i=x.cps.size⟩
theorem O2{P:kg}{w:ko}{tg:oC}(it:jz)(ty:String)(hty:ty = "str_ascii_iterator"\/ty = "str_iterator")(x:Str)(t:Tok):Em P w K tg (KS x) [it] it (λi h=>h.IsStrIter it ty x t i) where
 mem:=by simp
 obj:=λi h st b hb=>by
  have e:b=it:=by simpa using hb
  subst e;obtain⟨o,e,c,d⟩:=st;exact⟨o,e,λv z=>by rw[d]at z;cases z⟩
 keep:=λi h h' st k=>let⟨o,ho,r⟩:=st;⟨o,k it (by simp) o ho,r⟩
 item:=by
  intro X hP hw hK hc i pins s σ H E I hf st hg;subst hP hw hK;have hg:i<x.cps.size:=hg;obtain⟨f0,f1,f2,f3,f4,f5⟩:=hf it (by simp);have hx:x.cps[i]?=oZ x.cps[i]:=by simp[hg]
  have fin:∀h',h'.IsStrIter it ty x t (i+1)->cg it s.heap h'->∃u,(oZ (ae ⟨#[x.cps[i]]⟩ s.toks))=oZ u/\kh (km X.prog X.w) X.A (pf tg (.ref it) u) (λ_ s2=>∃y H',aZ X pins σ H' s2/\bS y u/\(KS x).yld i H y H'/\s2.heap.IsStrIter it ty x t (i+1)/\∀b∈[it],H' b=none) E { s with heap:=h',toks:=s.toks+1 }:=λh' st' sb=>by
   have I1:aZ X pins σ H { s with heap:=h',toks:=s.toks+1 }:=I.turned (λb o hb e=>(sb.2 b hb).trans e) f0 f1 f3 f4 f5;obtain⟨o,e,c,d⟩:=id st';exact⟨_,rfl,Rz (s:={ s with heap:=h',toks:=s.toks+1 }) e c d (by rcases hty with rfl|rfl<;>decide) ⟨.str _,H,I1,⟨_,rfl⟩,⟨rfl,_,hx,rfl⟩,st',λb hb=>(hf b hb).1⟩⟩
  obtain rfl|rfl:=hty
  ·exact wpAny_pyNext_ascii_item st hx fin
  ·exact wpAny_pyNext_wide_item st hx fin
 done:=by
  intro X hP hw hK hc i pins s σ H E I hf st hg;subst hP hw hK;have hg:i=x.cps.size:=hg;subst hg;obtain⟨f0,f1,f2,f3,f4,f5⟩:=hf it (by simp);have fin:∀h',Heap.ExtBut it s.heap h'->(none:Option oA)=none/\aZ X pins σ H { s with heap:=h' }:=λh' eb=>⟨rfl,I.turned (t':=s.toks) (λb o hb e=>eb b o hb e) f0 f1 f3 f4 f5⟩;obtain rfl|rfl:=hty
  ·exact wpAny_pyNext_ascii_end (I.ok.hd hc) st (by simp) fin
  ·exact wpAny_pyNext_wide_end (I.ok.hd hc) st (by simp) fin
 self:=λ_ _ _ _ _ st h=>by
  obtain rfl|rfl:=hty
  ·exact wpAny_pyIter_striter_ascii st h
  ·exact wpAny_pyIter_striter_wide st h
def MB(tl:TE):TI:=λσ H R=>tl σ H λv H1=>∃x,v = .str x/\R (KS x) H1
theorem HZ(hl:PE X l tl):PI X tg l (MB tl):=by
 intro pins s σ H R I h;refine eC (hl pins s σ H _ I h) λv s1 zZ=>?_;obtain⟨y,H1,I1,r1,x,e,q⟩:=zZ;subst e;obtain⟨t,rfl⟩:=r1;have fin:∀ty,(ty = "str_ascii_iterator"\/ty = "str_iterator")->QN X pins σ tg R (.ref s1.heap.objs.size) { s1 with heap:=s1.heap.push { cls:=.type ty,data:=.fields #[.str x t,.int 0 0] } }:=λty hty=>by
  refine⟨s1.heap.objs.size,[s1.heap.objs.size],_,_,H1,rfl,I1.kept (t':=s1.toks) λb o e=>WL _ e,O2 _ ty hty x t,⟨_,WV _ rfl,rfl,rfl⟩,λb hb=>?_,q⟩;have e:b=s1.heap.objs.size:=by simpa using hb
  subst e;exact I1.fpOk (WO _) (I1.hok.fresh (WO _))
 cases ha:x.cps.all (· < 128)
 ·exact wpAny_pyIter_wide ha (fin _ (.inr rfl))
 ·exact wpAny_pyIter_ascii ha (fin _ (.inl rfl))
def wW(x:Str):List T:=x.cps.toList.map λc=>T.str ⟨#[c]⟩
theorem GG:Bf K (KS x) (wW x) (λ_ _=>True):=by
 refine⟨λ_ _ _ _ _ h=>h,λi H O _ hi=>by show i<x.cps.size;simpa[wW]using hi,λi H O v H' t _ e _ y=>?_,λH O _=>by simp[KS,wW]⟩;obtain⟨e1,c,hc,ev⟩:=y;subst e1;subst ev;unfold wW at e;rw[WH,jt,hc]at e;cases e;exact⟨Kp.refl _ _,λ_ _ z=>z,rfl⟩
def iS(Fa:FE):FI:=λE Q=>Fa E λr E1=>s1 (vl E1 r) λx=>Q (wW x) [] E1
theorem FQ(hl:QE X l (aO K Fa)):QI X tg l (mD K (iS Fa)):=by
 refine QI.le (t:=MB (aO K Fa)) ⟨HZ hl.h⟩ λσ H R hn⟨B,S,E,Q',hS,re,hF,lk⟩=>⟨B,S,E,_,hS,re,hF,λr E1 v H1 S1 q g uk rr=>?_⟩;obtain⟨x,e1,q⟩:=s1.ex q;exact⟨x,uk.str rr e1,lk _ _ _ _ _ _ _ q g uk GG (λj hj=>absurd hj (by simp)) λ_ _ _=>trivial⟩
end
end L2
namespace L2
open PySem PySem.Spec PySem.W PySem.Calls PyProof.Rows PySem.Builtin.ObjectAttr
end L2
namespace L2
open PySem PySem.Spec PySem.W PySem.Calls PyProof.Rows PySem.Builtin.ObjectAttr
end L2
namespace L2
open PySem PySem.Spec PySem.W PySem.Calls PyProof.Rows PySem.Builtin.ObjectAttr
end L2
namespace L2
open PySem PySem.Spec PySem.W PySem.Calls PyProof.Rows PySem.Builtin.ObjectAttr
end L2
namespace L2
open PySem PySem.Spec PySem.W PySem.Calls PyProof.Rows PySem.Builtin.ObjectAttr
variable{cb:Bool}
end L2
namespace L2
open PySem PySem.Spec PySem.W PySem.Calls PyProof.Rows PySem.Builtin.ObjectAttr
end L2
namespace L2
open PySem PySem.Spec PySem.W PySem.Calls PyProof.Rows PySem.Builtin.ObjectAttr
end L2
namespace L2
open PySem PySem.Spec PySem.NumText PyProof.Rows
end L2
namespace L2
open PySem PySem.Spec PySem.NumText PyProof.Rows
section
variable{X:Cx}{K:W.Frag}{pos:Pos}{o e:oC}{Fo:FE}{Fr:FA}
def UU(i:Nat)(Fa:FE):FS:=λD E=>Fa E λr E1=>match r with
 |.s j=>(match E1[j]? with
  |some (↥xs)=>D.nx ((E1.take E.length).set i none)\/D.nx (((E1.set j (⇑(.lst xs))).take E.length).set i (⇑(.lst xs)))
  |_=>False)
 |_=>False
def SO(Fo:FE)(Fr:FA):FE:=λE Q=>Fo E λo E1=>o1 (ownOf E1 o) λ_=>Fr E1 λrs E2=>match o with
 |.s j=>(match E2[j]? with
  |some (oZ (.o k xs))=>(match rs with
   |[r]=>i1 (vl E2 r) λi=>0<=i/\xs.length<=9000/\o1 (xs[i.toNat]?) λt=>Q (.p t) (E2.set j (oZ (.o k (xs.eraseIdx i.toNat))))
   |_=>False)
  |_=>False)
 |_=>False
theorem FN(eK:X.K=K)(ho:QE X o (aO K Fo))(ha:QA X [e] (dB K n Fr))(wb:mj o "pop" X.env (lq o X.env)=lq o X.env:=by rfl)(wc:(ap.endLine==pos.line)=true:=by rfl)(hs:bG e=false:=by rfl):
  QE X (.Call (.Attribute o "pop" ap) [e] [] pos) (aO K (SO Fo Fr)):=
 QE.le (t:=KO X.K "list" G0 (aO K Fo) (dB K n Fr)) ⟨Sn PySem.F.plainAttrs_list PySem.F.slot_list_pop PySem.F.type_list_pop Zy ho.h ha.h wb (by rw[cW hs];rfl) wc (cW hs) (gZ rfl)⟩ λσ H Q hl h=>by
  subst eK;obtain⟨B,S,E,Q',⟨τ,hS⟩,re,hF,lk⟩:=h;refine⟨B,S,E,_,⟨τ,hS⟩,re,hF,λoo E1 v H1 S1 q g1 uk rx=>?_⟩;obtain⟨τ1,zm⟩:=g1.pre;obtain⟨xs0,e0,q⟩:=o1.ex q;obtain⟨j,k,p,vs,rfl,hE,hSj,rfl,h2,h3⟩:=uk.ownOf rx e0;refine⟨.inl ⟨rfl,vs,m7.of h2⟩,B,S1,E1,_,⟨τ++τ1,by rw[zm,hS,XB]⟩,uk,q,λrs E2 us H2 S2 q2 g2 xu rr hn=>?_⟩;have aDM:S2[j]?=oZ (oZ (.ref p)):=iX g2.pre hSj;simp only at q2;split at q2
  ·rename_i k2' xs hE2;split at q2
   ·rename_i r;obtain⟨y,ws,rfl,k1,rfl⟩:=rr;obtain⟨i,e1,i0,hz,q3⟩:=q2.ex;obtain⟨t,ht,q3⟩:=o1.ex q3;have ey:=xu.int k1 e1;subst ey;obtain⟨p',vs2,z1,z2,z3,_⟩:=xu.own j k2' xs hE2;rw[aDM]at z1;cases z1;have vl:=z3.length;obtain⟨g3,zd⟩:=xu.put (ys:=xs.eraseIdx i.toNat) (ws:=vs2.eraseIdx i.toNat) hE2 aDM (by rw[fb,fb];exact(z3.take _).append (z3.drop _));obtain⟨v,hv,rp⟩:=z3.get ht;have hil:=(WE.mp ht).1;have sx:seqIndex? i vs2.length=oZ i.toNat:=by
     unfold seqIndex?;have h0:¬i<0:=⋯
     have h1:i<(vs2.length:Int):=⋯
     simp[h0,h1]
     try lia
    exact⟨p,vs2,i,i.toNat,v,rfl,rfl,z2,⋯,⋯,sx,hv,lk _ _ _ _ _ q3 ((g1.trans g2).trans g3) zd (rp.step g3.kp)⟩
   ·exact q2.elim
  ·exact q2.elim
end
def wZ(t:Nat):List (Nat×Bool)->Nat->En->En->Option En
 |[],_,_,E=>oZ E
 |(_,false)::r,j,zi,E=>wZ t r (j+1) zi E
 |(k,true)::r,j,zi,E=>match E[k]?,zi[t+j]? with
  |some (oZ (.o b _)),oZ (oZ (.o true ys))=>if bX ys=true then wZ t r (j+1) zi (E.set k (oZ (.o b ys)))else none
  |_,_=>none
def Ni(t:Nat)(cap:List (Nat×Bool))(I:FI)(g:FG)(Fe:FE):FE:=λE Q=>I E λitems us E1=>cap.all (λk=>!(k.2&&us.contains k.1))=true/\
 lK g Fe items (rL t cap E1++[↥[]]) λzi=>match zi[t+cap.length]? with
  |some (↥zs)=>bX zs=true/\o1 (wZ t cap 0 zi E1) λE2=>Q (.s E2.length) (E2++[↥zs])
  |_=>False
abbrev K6(t:Nat)(K:W.Frag)(g:FG):TG:=Lp true t none K g
theorem tW{zi:En}{cap:List (Nat×Bool)}:∀{r:List (Nat×Bool)}{n:Nat}{E E2:En},(r.map (·.1)).Nodup->(∀j k c,r[j]?=oZ (k,c)->cap[n+j]?=oZ (k,c))->wZ t r n zi E=oZ E2->
  E2.length=E.length/\∀(i:Nat)(u:U),E2[i]?=oZ (oZ u)->(∃(j:Nat)(b:Bool)(ys xs0:List T),r[j]?=oZ (i,true)/\E[i]?=oZ (oZ (.o b xs0))/\zi[t+(n+j)]?=oZ (oZ (.o true ys))/\bX ys=true/\u = .o b ys)\/(E[i]?=oZ (oZ u)/\∀(j:Nat)(b:Bool)(xs:List T),r[j]?=oZ (i,true)->E[i]?≠oZ (oZ (.o b xs)))
 |[],n,E,E2,_,_,h=>by cases h;exact⟨rfl,λi u h=>.inr ⟨h,λj b xs z=>by simp at z⟩⟩
 |(k,false)::r,n,E,E2,nd,hc,h=>by
  obtain⟨eL,eG⟩:=tW (cap:=cap) (r:=r) (n:=n+1) (YS.mp nd).2 (λj k c q=>by have:=hc (j+1) k c (by simpa using q);rwa [show n+(j+1)=n+1+j by lia]at this) h;refine⟨eL,λi u hu=>?_⟩;obtain⟨j,b,ys,xs0,q1,q2,q3,q4,q5⟩|⟨q1,q2⟩:=eG i u hu
  ·exact .inl ⟨j+1,b,ys,xs0,by simpa using q1,q2,by rwa [show n+(j+1)=n+1+j by lia],q4,q5⟩
  ·refine .inr ⟨q1,λj b xs z=>?_⟩;cases j with
   |zero=>simp at z
   |succ j=>exact q2 j b xs (by simpa using z)
 |(k,true)::r,n,E,E2,nd,hc,h=>by
  rw[wZ]at h;split at h
  ·rename_i b xs0 ys hE hEi;split at h
   ·rename_i hny;obtain⟨eL,eG⟩:=tW (cap:=cap) (r:=r) (n:=n+1) (YS.mp nd).2 (λj k c q=>by have:=hc (j+1) k c (by simpa using q);rwa [show n+(j+1)=n+1+j by lia]at this) h;have nk:∀j c,r[j]?≠oZ (k,c):=λj c z=>(YS.mp nd).1 (YI.mpr ⟨(k,c),WI z,rfl⟩);have hk:k<E.length:=(WE.mp hE).1;refine⟨by rw[eL,ag],λi u hu=>?_⟩
    by_cases c:i=k
    ·subst c;obtain⟨j,b',ys',xs',q1,_⟩|⟨q1,q2⟩:=eG i u hu
     ·exact absurd q1 (nk j true)
     ·rw[XN hk]at q1;cases q1;exact .inl ⟨0,b,ys,xs0,rfl,hE,hEi,hny,rfl⟩
    ·have zw:(E.set k (oZ (.o b ys)))[i]?=E[i]?:=XD (λz=>c z.symm);obtain⟨j,b',ys',xs',q1,q2,q3,q4,q5⟩|⟨q1,q2⟩:=eG i u hu
     ·rw[zw]at q2;exact .inl ⟨j+1,b',ys',xs',by simpa using q1,q2,by rwa [show n+(j+1)=n+1+j by lia],q4,q5⟩
     ·rw[zw]at q1;refine .inr ⟨q1,λj b' xs z=>?_⟩;cases j with
      |zero=>simp at z;exact absurd z.symm c
      |succ j=>have:=q2 j b' xs (by simpa using z);rwa [zw]at this
   ·cases h
  ·cases h
theorem Vc{X:Cx}{K:W.Frag}{Fe:FE}{g:FG}{I:FI}{scope:qk}{N':List Str}{cap:List (Nat×Bool)}{t:Nat}(S:bV X N' scope t (cap.map (·.1)))(hnd:(cap.map (·.1)).Nodup){σ:St}{H:Hp}{Q:VK}(hl:σ.length=X.N.length)(h:aO K (Ni t cap I g Fe) σ H Q):Eb t (cap.map (·.1)) (mD K I) (K6 t K g) (lO none K Fe) σ H Q:=by
 unfold Ni at h;simp only[<-Fh]at h;exact Lz (Cw (W:=wZ t cap 0) (FC:=λzs p=>bX zs=true/\p) (rr:=.l) (Qv:=Q) (d:=none) S (.inr ⟨rfl,rfl⟩) hnd (λ_ _ _ z=>(tW hnd (λj k c h=>by simpa using h) z).imp id λeG i u h=>by simpa using eG i u h) (λ_ _ z=>z.2) hl (λ_ _ _ z=>by cases z) (λzs D ws H1 H2 p hc hD h2 _ hn=>⟨_,⟨D,ws,rfl,hD,h2,hn hc.1⟩,id⟩) ⟨(λ_ z=>by cases z),h⟩)
theorem Yq{X:Cx}{K:W.Frag}{pos:Pos}{t i:Nat}{x:Str}(hN:X.N.Nodup)(hi:X.N[i]?=oZ x)(hx:Bg X.env.scope x)(hf:X.fn x=true\/X.env.scope.names.lookup x=oZ .local:=by first|exact .inl rfl|exact .inr rfl|assumption)(ht:i<t:=by decide):QG X (.Name x pos) (K6 t K (sD i)):=
 (u4 hN hi hx hf).le λv σ H Q hl zZ=>by
  obtain⟨_,B,τ,E,u,Q',re,rp,hF,l⟩:=zZ;have yc:i<σ.length:=by rw[hl];exact(WE.mp hi).1
  obtain⟨r1,ow⟩:=re.setP (i:=i) rp;rw[fg _ _ yc]at r1 ow;exact l _ _ _ hF (Kp.less ow) r1 (by simp) (λ_ z=>by cases z) λ_ j hj=>XD ⋯
theorem dH(a:sc.kind = .function:=by rfl)(b:sc.isCoroutine=false:=by rfl)(c:sc.isGenerator=false:=by rfl)(d:N.Nodup:=by decide +kernel)(e:N.take P.length=P:=by rfl)(f:∀x∈P,sc.names.lookup x=oZ .local\/sc.names.lookup x=oZ .cell:=by decide +kernel)(g:∀y∈sc.names,y.2≠.free:=by decide +kernel):aF N P sc:=⟨a,b,c,d,e,f,g⟩
theorem f1{X:Cx}{K:W.Frag}{Fa:FE}{e:oC}(a:QE X e (aO K Fa))(h:bG e=false:=by rfl):QA X [e] (dB K (0+1) (kA Fa Mp)):=fc a cB h
theorem f2{X:Cx}{K:W.Frag}{Fa:FE}{Fb:FE}{e:oC}{e':oC}(a:QE X e (aO K Fa))(b:QE X e' (aO K Fb))(h:bG e=false:=by rfl)(h':bG e'=false:=by rfl):QA X [e,e'] (dB K (0+1+1) (kA Fa (kA Fb Mp))):=fc a (f1 b h') h
theorem f3{X:Cx}{K:W.Frag}{Fa:FE}{Fb:FE}{Fc:FE}{e:oC}{e':oC}{e1:oC}(a:QE X e (aO K Fa))(b:QE X e' (aO K Fb))(c:QE X e1 (aO K Fc))(h:bG e=false:=by rfl)(h':bG e'=false:=by rfl)(h1:bG e1=false:=by rfl):QA X [e,e',e1] (dB K (0+1+1+1) (kA Fa (kA Fb (kA Fc Mp)))):=fc a (f2 b c h' h1) h
theorem f4{X:Cx}{K:W.Frag}{Fa:FE}{Fb:FE}{Fc:FE}{Fd:FE}{e:oC}{e':oC}{e1:oC}{e2:oC}(a:QE X e (aO K Fa))(b:QE X e' (aO K Fb))(c:QE X e1 (aO K Fc))(d:QE X e2 (aO K Fd))(h:bG e=false:=by rfl)(h':bG e'=false:=by rfl)(h1:bG e1=false:=by rfl)(h2:bG e2=false:=by rfl):QA X [e,e',e1,e2] (dB K (0+1+1+1+1) (kA Fa (kA Fb (kA Fc (kA Fd Mp))))):=fc a (f3 b c d h' h1 h2) h
theorem fX{X:Cx}{K:W.Frag}{pos:Pos}{Fa:FE}{Fb:FE}{e:oC}{e':oC}(a:QE X e (aO K Fa))(b:QE X e' (aO K Fb))(eK:X.K=K:=by rfl)(hs:uJ e':=by exactλ_ _=>rfl):QE X (.Subscript e e' pos) (aO K (SG Fa Fb)):=BP eK a b hs
theorem fQ{X:Cx}{K:W.Frag}{pos:Pos}(i:Nat){x:Str}{n:Int}{j p p'}(hN:X.N[i]?=oZ x:=by rfl)(hv:BK X.env.scope x:=by first|exact YD rfl|exact YQ (YD rfl)|exact YQ (YQ rfl))(hd:(x==("__debug__":Str))=false:=by decide)(hcd:(x==("__classdict__":Str))=false:=by decide)(eK:X.K=K:=by rfl):QE X (.Subscript (.Name x p) (.Constant (.int n) j p') pos) (aO K (SG (Vi i) (fC (.int n)))):=BP eK (fv i hN hv hd hcd) aA λ_ _=>rfl
theorem fK{X:Cx}{K:W.Frag}{pos:Pos}{e:oC}{es:List oC}{n k j:Nat}{x:Str}{ps:List Str}{S:dG}{Fr:FA}{p:Pos}(F:Fn X.prog X.w X.K X.mg X.base k x ps (aJ K S))(ha:QA X (e::es) (dB K n Fr))(hr:d5 j X.A:=by assumption)(hk:k<=j:=by decide)(hg:Gl X x:=by rfl)(yt:(x==("__debug__":Str))=false:=by decide)(hs:b8 (e::es)=true:=by rfl):QE X (.Call (.Name x p) (e::es) [] pos) (aO K (Ju S Fr)):=yB F hr hk hg ha yt hs
theorem fB{X:Cx}{K:W.Frag}{pos:Pos}{e:oC}{es:List oC}{n k j:Nat}{x:Str}{ps:List Str}{S:dG}{Fr:FA}{p:Pos}(F:Fn X.prog X.w X.K X.mg X.base k x ps (aJ K S))(ha:QA X (e::es) (dB K n Fr))(hr:d5 j X.A:=by assumption)(hk:k<=j:=by decide)(hg:Gl X x:=by rfl)(yt:(x==("__debug__":Str))=false:=by decide)(hs:b8 (e::es)=true:=by rfl):QE X (.Call (.Name x p) (e::es) [] pos) (aO K (Yh S Fr)):=iQ F hr hk hg ha yt hs
theorem fS{X:Cx}{K:W.Frag}{pos:Pos}{Fa:FE}{e:oC}(i:Nat){x:Str}{pos':Pos}(hN:X.N.Nodup)(he:QE X e (aO K Fa))(hi:X.N[i]?=oZ x:=by rfl)(hx:Bg X.env.scope x:=by first|exact .inl rfl|exact .inr rfl)(hs:my e (oZ (.Name x pos')) pos.line X.env=pure false:=by rfl)(hf:X.fn x=true\/X.env.scope.names.lookup x=oZ .local:=by first|exact .inl rfl|exact .inr rfl):QS X (.Assign [.Name x pos'] e pos) (jD K (AI i Fa)):=Fx hN hi hx he hs hf
theorem fG{X:Cx}{K:W.Frag}{pos:Pos}(i:Nat){x:Str}(hN:X.N.Nodup)(hi:X.N[i]?=oZ x:=by rfl)(hx:Bg X.env.scope x:=by first|exact .inl rfl|exact .inr rfl)(hf:X.fn x=true\/X.env.scope.names.lookup x=oZ .local:=by first|exact .inl rfl|exact .inr rfl):QG X (.Name x pos) (xX K (sD i)):=uR hN hi hx hf
theorem fH{X:Cx}{K:W.Frag}{pos:Pos}(i:Nat){x:Str}{N':List Str}{scope C s3 H3 fp}(hN:N'.Nodup:=by decide +kernel)(hi:N'[i]?=oZ x:=by rfl)(hx:Bg (bA X N' scope C s3 H3 fp).env.scope x:=by first|exact .inl rfl|exact .inr rfl)(hf:(bA X N' scope C s3 H3 fp).fn x=true\/(bA X N' scope C s3 H3 fp).env.scope.names.lookup x=oZ .local:=by first|exact .inl rfl|exact .inr rfl):QG (bA X N' scope C s3 H3 fp) (.Name x pos) (xX K (sD i)):=uR hN hi hx hf
theorem fP{X:Cx}{K:W.Frag}{pos:Pos}{Fa:FE}{Fb:FE}{e:oC}{e':oC}{op:CmpOp}{g:Int->Int->Bool}(ho:o8 X (ml op) (Xg λi j=>.bl (g i j)))(ha:QE X e (aO K Fa))(hb:QE X e' (aO K Fb))(hm:ma op e'=false:=by exact a9 _):QT X (.Compare e [op] [e'] pos) (gY K (Es (SE g Fa Fb))):=BQ ho ha hb hm
theorem cK.okU{P:kg}{w:ko}{K:W.Frag}{mg:Str->Option oA}{base:oE}{x qual:Str}{st:ki}{f:jz}{fd:mf}{N ps:List Str}{k:Nat}{S:dG}{F:FS}(Fn:cK K x qual st f fd)(Sc:aF N ps (aC st))
  (hb:∀{wj:oA}{A:oD}{outer:List Env}{s:oB}{H:Hp}{E:XK},d5 k (A.deeper (ph qual (aC st) s.heap.objs.size f wj))->QB (zE cM P w K mg base N qual (aC st) f wj A outer s H E).nox (c7 st) (jD K F))
  (hF:∀as Q,S as Q->F (LK as Q) (lD as++WN (N.length-as.length) none)) (len:∀as Q,S as Q->as.length=ps.length:=by intro as Q h;(repeat obtain⟨_,h⟩:=h);all_goals (subst as;rfl)):(~~~aV) cM (k+1) f fd ps (aJ K S):=Fn.okT Sc len (λ_ _ _ _ _ _ h=>hb h) hF
theorem Vd{X:Cx}{pins:List (jz×Obj)}{σ:St}{H:Hp}{s:oB}{a:jz}{v:V}{u:oA}{r:oA}{A:oD}{E:oA->oB->Prop}{so:List (Key×V)}{k:Key}{Q:Unit->oB->Prop}(l:so.length<ky)(I:aZ X pins σ H s)(e:H a=oZ (.dK so))(ry:bS (kV k) u)(rv:bS v r)(h:∀s',aZ X pins σ (upd H a (.dK (sY so k v))) s'->Q () s'):
  kh (km X.prog X.w) A (dictSet a u r) Q E s:=by
 obtain⟨z,hd,vs,rel,dd⟩:=BN I.hok e;have hz:vs.length<=ky:=by rw[<-rel.length];exact z
 have hl:(sY so k v).length<=ky:=by have:=xG so k v;lia
 refine wpAny_dictSet_pairs (hsz:=hz) (Kd ry) dd λh' dd' hs=>h _ ?_;have he:∃q,h'.get? a=oZ q:=let⟨q,_,_,hq,_⟩:=dd';⟨q,hq⟩;exact Ri I (by rw[e];exact True.intro) hs he (ER hl hd (rel.put k rv) dd')
def EK(J:It)(D:jz)(g:TG)(tb:TT)(tk tv:TE)(Q:VK)(σ:St)(H:Hp):Prop:=∃W:Nat->Nat->St->Hp->Prop,(∃m,W 0 m σ H)/\∀i m σ' H',W i m σ' H'->
 (J.stop i H'/\Q (.ref D) H')\/(J.go i H'/\∀x H2,J.yld i H' x H2->g x σ' H2 λσ3 H3=>tb σ3 H3 λok H3'=>if ok=true then tk σ3 H3' λy H4=>tv σ3 H4 λz H5=>∃k so,y=kV k/\H5 D=oZ (.dK so)/\so.length<ky/\∃m',m'<m/\W (i+1) m' σ3 (upd H5 D (.dK (sY so k z)))else ∃m',m'<m/\W (i+1) m' σ3 H3')
def L7(t:Nat)(cap:List Nat)(wi:TI)(g:TG)(tb:TT)(tk tv:TE):TE:=λσ H Q=>wi σ H λJ H1=>∀D,H1 D=none->EK J D g tb tk tv Q (jB t cap σ) (upd H1 D (.dK []))
theorem C9(hc:X.calm=true)(S:bV X N' scope t cap)(hi:PI X target iter wi)(hg:∀C s3 H3 fp,PG (bA X N' scope C s3 H3 fp) target g)(hb:∀C s3 H3 fp,BJ (bA X N' scope C s3 H3 fp) ifs tb)(he:∀C s3 H3 fp,PE (bA X N' scope C s3 H3 fp) kx tk)(hv:∀C s3 H3 fp,PE (bA X N' scope C s3 H3 fp) vx tv)(hs:∀x,lh iter X.env x=pure x:=by intro _;rfl):
  PE X (.DictComp kx vx [⟨target,iter,ifs,0⟩] scope pos) (L7 t cap wi g tb tk tv):=by
 intro pins s σ H Q I h;rw[arm_eval_DictComp];exact Cv (n0:=0) (ty:="dict") (data:=.dict #[]) (ho:=.dK []) (EC:=λD env=>do
   let kv <-lq kx env
   let vv <-oq [kv] (lq vx env)
   standAt { kx.pos with endLine:=vx.pos.endLine,endCol:=vx.pos.endCol }
   oq [kv,vv] (dictSet D kv vv)) (tel:=λD σ H R=>tk σ H λy H4=>tv σ H4 λz H5=>∃k so,y=kV k/\H5 D=oZ (.dK so)/\so.length<ky/\R (upd H5 D (.dK (sY so k z)))) hc S hi hg hb hs I (WS _) rfl (WS _)
  (λI2=>I2.laid (t':=_) (λb u e=>WL _ e) (WO _) (Xy _ I2.big))
  (λC s3 H3 fp D pins s σ H R Q I p z k=>kc (eC (he C s3 H3 fp pins s σ H _ I z) λy s9⟨v9,H9,I9,r9,w9⟩=>kc (pe (eC (hv C s3 H3 fp pins s9 σ H9 _ I9 w9) λy2 s10 zZ=>by
   obtain⟨v10,H10,I10,r10,kk,so,ek,hD,yc,hr⟩:=zZ;subst ek;exact kc (qg (pe (Vd (X:=bA X N' scope C s3 H3 fp) (A:=X.A) (E:=λ_ _=>False) yc I10 hD r9 r10 λs' I'=>k _ _ I' (WS _) hr)))))))
  (λ_ _ _=>rfl) (λ_ _ _=>rfl) codeAny_compStart_dict h λs3 s6 H3 H5 fp D m I3 f3 hn' un6 aBM ze os6 ba qn=>Jn I3 f3 hn' un6 aBM ze os6 ba qn
abbrev di(i:Nat)(so:List (Key×V)):DD:=oZ (i,so)
theorem dO(h:Iy i so σ H):mR (di i so) σ H:=λx e=>by cases e;exact h
theorem Iy.gr{K:W.Frag}{B:jz->Prop}{H:Hp}{H':Hp}{σ:St}{S:St}{S':St}{E:En}{E':En}{i:Nat}{so:List (Key×V)}(d:Iy i so σ H)(re:RE K B H S E)(g:Gr B H S E H' S' E'):Iy i so σ H':=by
 obtain⟨p,h1,h2⟩:=d;exact⟨p,h1,g.kp.keep p _ h2 λz=>by obtain⟨vs,e⟩:=re.ow z;rw[h2]at e;cases e⟩
theorem K4{K:W.Frag}{H:Hp}{σ:St}{i:Nat}{so:List (Key×V)}{Fa:FE}{Q P:VK}(d:Iy i so σ H)(h:aO K Fa σ H Q)(k:∀v J,Iy i so σ J->Q v J->P v J):aO K Fa σ H P:=by
 obtain⟨B,S,E,Q',hS,re,hF,lk⟩:=h;exact⟨B,S,E,Q',hS,re,hF,λr E' v H' S' q g ui rr=>k _ _ (d.gr re g) (lk r E' v H' S' q g ui rr)⟩
section
variable{X:Cx}{K:W.Frag}{pos:Pos}{c e o:oC}{es:List oC}{b1 b2:List ki}{Fa Fo:FE}{Fp:FB}{Fr:FA}{F G:FS}{i n:Nat}{so:List (Key×V)}
theorem bd(h:QT X e (gY K Fp)):QT X e (Dx (di i so) K Fp):=h.le λ_ _ _ z=>z.2
def LQ(so:List (Key×V))(Fa:FE):FE:=λE Q=>Fa E λr E1=>i1 (vl E1 r) λn=>∃z,j7 so (Sum.inl n)=oZ (.str z)/\Q (.p (.str z)) E1
theorem Yn(hr:d5 k X.A)(hiy:X.N[i]?=oZ y)(hvy:BK X.env.scope y)(he:QE X e (aO K Fa))(hsl:Xl e)(hd:(y==("__debug__":Str))=false:=by decide)(hcd:(y==("__classdict__":Str))=false:=by decide):
  QE X (.Subscript (.Name y p1) e pos) (lO (di i so) K (LQ so Fa)):=by
 refine QE.le (t:=CU (Cd i) (aO K Fa)) ⟨X9 (BW hr) (vT hiy hvy hd hcd) he.h hsl⟩ λσ H Q hl zZ=>?_;obtain⟨d',B,S,E,Q',hS,re,hF,lk⟩:=zZ;have d:=d' _ rfl;obtain⟨p,d1,d2⟩:=id d;refine⟨.ref p,d1,B,S,E,_,hS,re,hF,λr E1 v H1 S1 q g uk rr=>?_⟩;obtain⟨n,e1,z,e2,q⟩:=i1.ex q;obtain⟨p',d3,d4⟩:=d.gr re g;rw[d1]at d3;cases d3;have ev:v = .int n:=uk.int rr e1;subst ev;have dg:=Ej.k (k:=Sum.inl n) d4;rw[e2]at dg;exact⟨p,.str z,rfl,dg,lk _ _ _ _ _ q g uk rfl⟩
def RQ(so:List (Key×V))(Fa:FE):FB:=λE Q=>Fa E λr E1=>i1 (vl E1 r) λn=>Q (j7 so (Sum.inl n)).isSome E1
theorem FV(hr:d5 k X.A)(hiy:X.N[i]?=oZ y)(hvy:BK X.env.scope y)(he:QE X e (aO K Fa))(hd:(y==("__debug__":Str))=false:=by decide)(hcd:(y==("__classdict__":Str))=false:=by decide)(h1:ma .In (.Name y p1)=false:=by first|exact nobehind _ ∅ ∅|rfl):QT X (.Compare e [.In] [.Name y p1] pos) (Dx (di i so) K (RQ so Fa)):=by
 refine QT.le (t:=tB (OH (aO K Fa) (Cd i))) ⟨IH (HL (BW hr) he.h (vT hiy hvy hd hcd)) h1⟩ λσ H Q zZ=>?_;obtain⟨d',B,S,E,Q',hS,re,hF,lk⟩:=zZ;have d:=d' _ rfl;refine⟨B,S,E,_,hS,re,hF,λr E1 v H1 S1 q g uk rr=>?_⟩;obtain⟨n,e1,q⟩:=i1.ex q;obtain⟨p,d1,d2⟩:=d.gr re g;have ev:v = .int n:=uk.int rr e1;subst ev;exact⟨.ref p,d1,p,_,rfl,Ej.k (k:=Sum.inl n) d2,_,rfl,lk _ _ _ _ q g uk⟩
theorem Nk(eK:X.K=K)(ho:QE X o (aO K Fo))(ha:QA X [e] (Lo (di i so) K n Fr))(wb:mj o "append" X.env (lq o X.env)=lq o X.env:=by rfl)(wc:(ap.endLine==pos.line)=true:=by rfl)(hs:bG e=false:=by rfl):
  QE X (.Call (.Attribute o "append" ap) [e] [] pos) (lO (di i so) K (Fl LC Fo Fr)):=by
 subst eK;refine(Du ho ha wb wc hs).le λσ H Q hl zZ=>?_;obtain⟨d',h⟩:=zZ;have d:=d' _ rfl;have m:KO X.K "list" Hj (aO X.K Fo) (dB X.K n Fr) σ H Q:=Zv rfl h λB S E H2 xs ys rr y p vs Q re rx e hp hv hz k=>by
  cases rr with
  |s _=>cases e
  |p t=>
   cases e;refine⟨p,vs,y,rfl,rfl,hp,?_,k _ (hv.append ⟨y,[],rfl,rx,rfl⟩)⟩;rw[hv.length];simp only[WK,WY]at hz;exact cL ⋯
 exact K4 d m λv H' d' z=>⟨z.1,dO d',z.2⟩
theorem Yb(he:QE X e (lO (di i so) K Fa))(hs:my e none pos.line X.env=pure false:=by rfl):QS X (.Expr e pos) (jW i so K (G8 Fa)):=
 (Hi he hs).le λD σ H hl zZ=>by obtain⟨dt,B,E,DT,re,hF,l⟩:=zZ;exact⟨dO dt,yX (P:=λ_ _ E'=>DT.nx E') re hF λr E' v H' S' q g ui rr xu ow=>l.nx _ _ _ q (g.kp.trans (Kp.less ow)) xu (dt.keep re g.kp.keep rfl)⟩
theorem BO(hc:QT X c (Dx (di i so) K Fp))(ha:QB X b1 (jW i so K F))(hb:QB X b2 (jW i so K G)):QS X (.If c b1 b2 pos) (jW i so K (UT Fp F G)):=
 (CG hc ha hb).le λD σ H hl⟨dt,B,E,DT,re,hF,l⟩=>⟨dO dt,Eo (P:=λb E'=>if b=true then xS E' (F DT)else xS E' (G DT)) re hF λb H' E' q g ui=>by
  have dt':=dt.keep re g.keep rfl;cases b
  ·exact⟨dt',B,E',DT,ui,k6 q,l.step g⟩
  ·exact⟨dt',B,E',DT,ui,k6 q,l.step g⟩⟩
theorem Xx:QB X [] (jW i so K CJ):=F2.le λD σ H zZ=>by obtain⟨dt,B,E,DT,re,hF,l⟩:=zZ;exact l.nx _ _ _ hF (Kp.refl _ _) re dt
end
abbrev EB:=List A->(List (Key×V)->Prop)->Prop
def Lr(K:W.Frag)(S:EB):Sp:=λvs H Q _=>∃(as:List A)(Q':List (Key×V)->Prop),RE K (λa=>(none:Option jz)=oZ a) H (vs.map oZ) (lD as)/\kW as=none/\S as Q'/\
 ∀so a H',Q' so->H a=none->(∀b o,H b=oZ o->H' b=oZ o)->H' a=oZ (.dK so)->Q (.ref a) H'
def KG(x:Int×Str):T:=.tup [.int x.1,.str x.2]
def Xv(c:Str):List (Int×Str)->List (Key×V)->List (Key×V)
 |[],acc=>acc
 |x::r,acc=>Xv c r (if x.2=c then acc else sY acc (Sum.inl x.1) (.str x.2))
theorem pQ{x:Int×Str}:∀{xs:List (Int×Str)}{acc:List (Key×V)},Xv c (xs++[x]) acc=if x.2=c then Xv c xs acc else sY (Xv c xs acc) (Sum.inl x.1) (.str x.2)
 |[],acc=>rfl
 |y::xs,acc=>pQ (xs:=xs)
theorem Rg:∀{xs:List (Int×Str)}{acc:List (Key×V)},(Xv c xs acc).length<=acc.length+xs.length
 |[],_=>WO _
 |x::xs,acc=>by
  have ih:=Rg (c:=c) (xs:=xs) (acc:=if x.2=c then acc else sY acc (Sum.inl x.1) (.str x.2));have:=xG acc (Sum.inl x.1:Key) (.str x.2);unfold Xv;rw[XG];split at ih<;>(rename_i h;first|rw[oV h]|rw[oW h])<;>lia
section
variable{X:Cx}{K:W.Frag}{pos:Pos}{Fa:FE}
def UX(K:W.Frag)(c:Str)(Fa:FE):TE:=λσ H Q=>∃B S E Q',(∃τ,S=σ++τ)/\RE K B H S E/\Fa E Q'/\∀r E1 v H1 S1,Q' r E1->Gr B H S E H1 S1 E1->RE K B H1 S1 E1->RR K B H1 S1 E1 r v->
 ∃items,vl E1 r=oZ (.lst (items.map KG))/\items.length<=9000/\∀a,H1 a=none->Q (.ref a) (upd H1 a (.dK (Xv c items [])))
theorem ND{x1 c1 p1 p2 pt p3 p4 p5 p6 pcm}(eK:X.K=K)(hc:X.calm=true)(hr:∀C s3 H3 fp,d5 k (bA X [x,y] scope C s3 H3 fp).A)(hi:QE X iter (aO K Fa))(S:bV X [x,y] scope 2 [])(hg:∀C s3 H3 fp,Xf (bA X [x,y] scope C s3 H3 fp) [.Name x p1,.Name y p2] (Dj (pT 0) (Dj (pT 1) U2)))(hg1:∀C s3 H3 fp,(mh [.Name x p1,.Name y p2] (bA X [x,y] scope C s3 H3 fp).env).length=2:=by intros;rfl)(hg2:∀C s3 H3 fp,(mh [.Name x p1,.Name y p2] (bA X [x,y] scope C s3 H3 fp).env).findIdx? (·.1)=none:=by intros;rfl)(h1:∀C s3 H3 fp,QE (bA X [x,y] scope C s3 H3 fp) (.Name x p3) (Cd 0))(h2:∀C s3 H3 fp,QE (bA X [x,y] scope C s3 H3 fp) (.Name y p4) (Cd 1))(h3:∀C s3 H3 fp,QE (bA X [x,y] scope C s3 H3 fp) (.Name y p5) (Cd 1))(hs:∀z,lh iter X.env z=pure z:=by intro _;rfl)(hm:ma .NotEq (.Constant (.str c) c1 p6)=false:=by rfl):
  QE X (.DictComp (.Name x p3) (.Name y p4) [⟨.Tuple [.Name x p1,.Name y p2] x1 pt,iter,[.Compare (.Name y p5) [.NotEq] [.Constant (.str c) c1 p6] pcm],0⟩] scope pos) (UX K c Fa):=by
 subst eK;refine QE.le (t:=L7 2 [] (Ze X.K (aO X.K Fa)) (FZ X.K 2 (Dj (pT 0) (Dj (pT 1) U2))) (N2 (M8 (JE X.K true) (Cd 1) (tC (.str c)))) (Cd 0) (Cd 1))
  ⟨C9 hc S (Sq hi.h) (λC s3 H3 fp=>(F6 (X:=bA X [x,y] scope C s3 H3 fp) (k:=x1) hc (hg C s3 H3 fp) (hg1 C s3 H3 fp) (hg2 C s3 H3 fp)).h) (λC s3 H3 fp=>PT.one (Sr (C5 (hr C s3 H3 fp)) (h3 C s3 H3 fp).h D4 hm)) (λC s3 H3 fp=>(h1 C s3 H3 fp).h) (λC s3 H3 fp=>(h2 C s3 H3 fp).h) hs⟩ λσ H Q hl⟨B,S,E,Q',hS,re,hF,lk⟩=>?_
 refine⟨B,S,E,_,hS,re,hF,λr E1 v H1 S1 q g uk rr=>?_⟩;obtain⟨items,e1,hl,q⟩:=lk r E1 v H1 S1 q g uk rr;obtain⟨a,vs,rfl,sq,rs⟩:=uk.vl rr e1;refine⟨a,rfl,⟨vs,sq⟩,λD hD=>?_⟩;have nd:∀{b:jz}{u:HO}{z},H1 b=oZ u->(upd H1 D z) b=oZ u:=λe=>by rw[bH (bB e hD)];exact e
 have sqL:∀z,m7 X.K (upd H1 D z) a vs:=λz=>sq.imp (λh=>h.imp nd λzZ=>by obtain⟨o,h⟩:=zZ;exact⟨o,nd h⟩) id;refine⟨λi m σ' H'=>m=items.length-i/\i<=items.length/\σ'.length=2/\H'=upd H1 D (.dK (Xv c (items.take i) [])),⟨_,rfl,WS _,rfl,rfl⟩,?_⟩;rintro i m σ' H' ⟨rfl,zx,hσ,rfl⟩;obtain lt|ge:=XQ i items.length
 ·have lv:vs.length=items.length:=by rw[rs.length,WJ]
  refine .inr ⟨⟨vs,vs[i],sqL _,WG _⟩,?_⟩;rintro w H2 ⟨rfl,hw⟩;obtain⟨v',q1,q2⟩:=rs.get (i:=i) (x:=KG items[i]) (by rw[WH,WG lt];rfl);rw[hw vs (sqL _)]at q1;cases q1;obtain⟨b,us,rfl,sq2,⟨_,_,e3,a1,_,_,e4,a2,a3⟩⟩:=q2.sqT;cases a3;cases a2;cases a1;subst e4;subst e3;have sqT:∀z,xD X.K (upd H1 D z) b [.int items[i].1,.str items[i].2]:=λz=>sq2.imp (λh=>h.imp nd λzZ=>by obtain⟨o,h⟩:=zZ;exact⟨o,nd h⟩) id;refine⟨b,_,rfl,sqT _,rfl,_,_,rfl,_,_,rfl,rfl,?_⟩;have g0:((σ'.set 0 (oZ (V.int items[i].1))).set 1 (oZ (V.str items[i].2)))[0]?=oZ (oZ (.int items[i].1)):=by rw[XD ∅];exact XN ⋯
  have g1:((σ'.set 0 (oZ (V.int items[i].1))).set 1 (oZ (V.str items[i].2)))[1]?=oZ (oZ (.str items[i].2)):=XN (by simp;lia);have snoc:items.take (i+1)=items.take i++[items[i]]:=by rw[ZF,WG lt];rfl
  refine⟨_,g1,.str items[i].2,.str c,rfl,rfl,by simp[dT],_,rfl,?_⟩;have ee:d6 (.str items[i].2) (.str c)=decide (items[i].2=c):=by
   show(items[i].2==c)=_;exact Bool.beq_eq_decide_eq _ _
  rw[oV rfl,ee]
  by_cases z:items[i].2=c
  ·rw[oY z];refine⟨items.length-(i+1),⋯,rfl,lt,by simpa using hσ,?_⟩;rw[snoc,pQ,oV z]
  ·rw[oX z];refine⟨_,g0,_,g1,Sum.inl items[i].1,_,rfl,cZ,?_,items.length-(i+1),⋯,rfl,lt,by simpa using hσ,?_⟩
   ·have:=Rg (c:=c) (xs:=items.take i) (acc:=[]);rw[XT]at this;simp only[ff]at this;exact cL ⋯
   ·rw[BE,snoc,pQ,oW z]
 ·refine .inl ⟨⟨vs,sqL _,by rw[rs.length,WJ];exact ge⟩,?_⟩;rw[ZH ge];exact q D hD
end
theorem Sz{K:W.Frag}{B:jz->Prop}{H:Hp}{S:St}{E:En}{rs:List R}{vs:List V}{ts:List T}(re:RE K B H S E)(rr:Ul K B H S E rs vs)(e:Zw E rs=oZ ts):RE K (λa=>(none:Option jz)=oZ a) H (vs.map oZ) (lD (ts.map A.v)):=by
 have rp:=Gj re rr e (λ_=>False) (λ_ z=>z.elim) (λ_ _ _ _ _ _ z=>z);have no:∀b,¬Ow (λa=>(none:Option jz)=oZ a) (vs.map oZ) (ts.map λt=>oZ (U.p t)) b:=λb z=>by
  obtain z|⟨i,k,xs,h1,_⟩:=z
  ·cases z
  rw[WH]at h1;cases q:ts[i]? with
  |none=>rw[q]at h1;cases h1
  |some t=>rw[q]at h1;cases h1
 rw[zG];refine⟨by simp[rp.length],λi t h=>?_,λi k xs h=>?_,λi j k l xs ys a h _ _ _=>?_,λa z=>by cases z⟩
 all_goals
  rw[WH]at h;cases q:ts[i]? with
  |none=>rw[q]at h;cases h
  |some u=>
   rw[q]at h;cases h
   try
    obtain⟨v,h1,h2⟩:=rp.get q;exact⟨v,by rw[WH,h1];rfl,h2.step (Kp.less λb z=>no b z)⟩
section
variable{X:Cx}{K:W.Frag}{sts:List ki}{pos:Pos}{e:oC}{es:List oC}{Fr:FA}{i:Nat}{G:List (Key×V)->FS}
def JH(S:EB)(Fr:FA)(i:Nat)(G:List (Key×V)->FS):FS:=λD E=>Fr E λrs E1=>o1 (Zw E1 rs) λts=>S (ts.map A.v) λso=>G so D ((E1.take E.length).set i none)
theorem Xw{n k j:Nat}{x f:Str}{ps:List Str}{S:EB}{p p' pc:Pos}(F:Fn X.prog X.w X.K X.mg X.base k f ps (Lr K S))(hr:d5 j X.A)(hk:k<=j)(hg:Gl X f)(ha:QA X (e::es) (dB K n Fr))(hN:X.N.Nodup)(hi:X.N[i]?=oZ x)(hx:Bg X.env.scope x)(aHD:∀so,QB X sts (jW i so K (G so)))
  (yt:(f==("__debug__":Str))=false:=by decide) (hst:b8 (e::es)=true:=by rfl) (hs:my (.Call (.Name f p) (e::es) [] pc) (oZ (.Name x p')) pos.line X.env=pure false:=by rfl) (hf:X.fn x=true\/X.env.scope.names.lookup x=oZ .local:=by first|exact .inl rfl|exact .inr rfl|assumption) :
  QB X (.Assign [.Name x p'] (.Call (.Name f p) (e::es) [] pc) pos::sts) (jD K (JH S Fr i G)):=by
 refine(Hh (u:=λD σ H=>∃so,jW i so K (G so) D σ H) (Pl hN hi hx (vV F hr hk hg ha yt hst) hs hf) ⟨λpins s σ H D I zZ=>by obtain⟨so,z⟩:=zZ;exact(aHD so).h pins s σ H D I z⟩).leL λD σ H hl⟨B,E,DT,re,hF,l⟩=>?_;refine⟨B,σ,E,_,⟨[],by simp⟩,re,hF,λrs E1 vs H1 S1 q g uk rr hn=>?_⟩;obtain⟨ts,e1,q⟩:=q.ex;rw[XW];refine⟨ts.map A.v,_,Sz uk rr e1,Et,q,λso a H' q2 _ kp ha=>⟨so,?_⟩⟩;obtain⟨c1,c2⟩:=uk.cut (E:=E) g.pre re.len;have c3:RE K B H' σ (E1.take E.length):=c1.kept kp;obtain⟨c4,c5⟩:=c3.setN (i:=i) (v:=.ref a);have gk:Kp (Ow B σ (E1.take E.length)) (Ow B σ (E1.take E.length)) H1 H':=⟨λb o e _=>kp b o e,λb z=>.inl z⟩;have gg:Gs B H σ E H' (σ.set i (oZ (.ref a))) ((E1.take E.length).set i none):=g.kp.trans ((Kp.less c2).trans (gk.trans (Kp.less c5)));have li:i<σ.length:=by rw[hl];exact(WE.mp hi).1
 refine⟨⟨a,XN li,ha⟩,B,_,DT,c4,q2,?_⟩;exact⟨λσ' H' E' z g' ui _=>l.nx _ _ _ z (gg.trans g') ui,λr E' v H' S' z g' ui rr=>l.rt _ _ _ _ _ z (gg.trans g') ui rr,λσ' H' E' z g' ui _=>l.bk _ _ _ z (gg.trans g') ui,λσ' H' E' z g' ui _=>l.ct _ _ _ z (gg.trans g') ui⟩
end
theorem cK.okD{P:kg}{w:ko}{K:W.Frag}{mg:Str->Option oA}{base:oE}{x qual c:Str}{st:ki}{f:jz}{fd:mf}{N ps:List Str}{k:Nat}{S:EB}{Fa:FE}{e:oC}{pos:Pos}(Fn:cK K x qual st f fd)(Sc:aF N ps (aC st))(hbd:c7 st=[.Return (oZ e) pos])(len:∀as Q,S as Q->as.length=ps.length)(hb:∀(wj:oA)(A:oD)(outer:List Env)(s:oB)(H:Hp)(E:XK),d5 k (A.deeper (ph qual (aC st) s.heap.objs.size f wj))->QE (zE cM P w K mg base N qual (aC st) f wj A outer s H E).nox e (UX K c Fa))(hF:∀as Q,S as Q->Fa (lD as++WN (N.length-as.length) none) λr E1=>∃items,vl E1 r=oZ (.lst (items.map KG))/\items.length<=9000/\Q (Xv c items [])):(~~~aV) cM (k+1) f fd ps (Lr K S):=by
 refine Fn.okQ Sc (λvs H Q E⟨as,Q',re,hbn,hS,l⟩=>?_) (λwj A outer s H vs Q E hr⟨as,Q',re,hbn,hS,l⟩=>?_)
 ·have:=re.len;rw[WJ,fD]at this;rw[this];exact len as Q' hS
 have hl:vs.length=as.length:=by have:=re.len;rwa [WJ,fD]at this
 refine⟨_,by rw[hbd];exact Pj (Pk (hb wj A outer s H E hr)),?_⟩;obtain⟨re0,ow0⟩:=re.pad (N.length-as.length);have hst:lC N vs=vs.map oZ++WN (N.length-as.length) none:=by unfold lC;rw[hl]
 rw[hst];have no:∀b,¬Ow (λa=>(none:Option jz)=oZ a) (vs.map oZ) (lD as) b:=λb z=>by
  obtain z|⟨i,kk,xs,h1,h2⟩:=z
  ·cases z
  ·exact y9 hbn h1
 refine⟨_,_,_,_,⟨[],by simp⟩,re0,hF as Q' hS,λr E1 v H1 S1 q g uk rr=>?_⟩;obtain⟨items,e1,h2,q⟩:=q;refine⟨items,e1,h2,λa ha=>?_⟩;have kp:∀b o,H b=oZ o->H1 b=oZ o:=λb o h=>g.kp.keep b o h λz=>no b (ow0 b z);refine l _ a _ q ?_ (λb o h=>by rw[bH (bB (kp b o h) ha)];exact kp b o h) cZ;cases e:H a with
 |none=>rfl
 |some o=>have:=kp a o e;rw[ha]at this;cases this
end L2
namespace L2
open PySem PySem.Spec PySem.W PySem.Calls PyProof.Rows PySem.SeqAt
theorem Ym{X:Cx}{K:W.Frag}{pos:Pos}{Fe:FE}{g:FG}{I:FI}{target elt iter:oC}{scope:qk}{N':List Str}{cap:List (Nat×Bool)}{t:Nat}(hc:X.calm=true)(S:bV X N' scope t (cap.map (·.1)))(hnd:(cap.map (·.1)).Nodup)(hi:QI X target iter (mD K I))(hg:∀C s3 H3 fp,QG (bA X N' scope C s3 H3 fp) target (K6 t K g))(he:∀C s3 H3 fp,QE (bA X N' scope C s3 H3 fp) elt (aO K Fe))(hs:∀x,lh iter X.env x=pure x:=by intro _;rfl):
  QE X (.ListComp elt [⟨target,iter,[],0⟩] scope pos) (aO K (Ni t cap I g Fe)):=
 (Sv hc S hi hg (λC s H f=>(he C s H f).ed) hs).le λσ H Q hl h=>Vc S hnd hl h
structure vE(mg:Str->Option oA)(w:ko)(K:W.Frag)(x k1 v1 k2 v2 k3 v3:Str):Prop where
 ex:∃(a:jz)(t1 t2 t3 t4 t5 t6:Tok)(n:Nat),mg x=oZ (.ref a)/\K.lookup a=oZ { cls:=.type "dict",data:=.dict #[⟨hashStr w k1,.str k1 t1,.str v1 t2⟩,⟨hashStr w k2,.str k2 t3,.str v2 t4⟩,⟨hashStr w k3,.str k3 t5,.str v3 t6⟩] n }
 ne:k1≠k2/\k1≠k3/\k2≠k3
def xH(k1 v1 k2 v2 k3 v3 z:Str):Option Str:=if z=k1 then oZ v1 else if z=k2 then oZ v2 else if z=k3 then oZ v3 else none
def CW(k1 v1 k2 v2 k3 v3:Str)(ty:TE):TE:=λσ H Q=>ty σ H λy H2=>∃z v,y=V.str z/\xH k1 v1 k2 v2 k3 v3 z=oZ v/\Q (V.str v) H2
section
variable{X:Cx}{K:W.Frag}{pos pos':Pos}{Fi:FE}{x k1 v1 k2 v2 k3 v3:Str}{i:oC}{ty:TE}
theorem Y0(hg:Gl X x)(c:vE X.mg X.w X.K x k1 v1 k2 v2 k3 v3)(hi:PE X i ty)(hs:Xl i)(hd:(x==("__debug__":Str))=false:=by decide):PE X (.Subscript (.Name x pos) i pos') (CW k1 v1 k2 v2 k3 v3 ty):=by
 obtain⟨a,t1,t2,t3,t4,t5,t6,n,h1,h2⟩:=c.ex;obtain⟨n12,n13,n23⟩:=c.ne;intro pins s σ H Q I h;refine Th PySem.F.slot_dict_getitem.lookup hs (eC (So (v:=.ref a) hg h1 rfl hd pins s σ H (λv H1=>v = .ref a/\H1=H) I ⟨rfl,rfl⟩) λu s1 zZ=>?_);obtain⟨x',H1,I1,rx,q1⟩:=zZ;obtain⟨rfl,rfl⟩:=q1;refine eC (hi pins s1 σ H1 _ I1 h) λiv s2 zZ=>?_;obtain⟨y,H2,I2,ry,z,v,ey,ev,q2⟩:=zZ;subst ey;obtain rfl:u=YB a:=rx;have dd:s2.heap.DictOf (dM X.prog X.w) a [((Sum.inr k1:Key),ae v1 t2),(Sum.inr k2,ae v2 t4),(Sum.inr k3,ae v3 t6)]:=by
  refine⟨_,_,_,I2.kIn a _ h2,⟨rfl,rfl,rfl⟩,rfl,λe he=>?_,?_,?_⟩
  ·have he':e∈[(⟨hashStr X.w k1,.str k1 t1,.str v1 t2⟩:DictEntry),⟨hashStr X.w k2,.str k2 t3,.str v2 t4⟩,⟨hashStr X.w k3,.str k3 t5,.str v3 t6⟩]:=by simpa using he
   obtain rfl|he':=WM.mp he'
   ·exact⟨Sum.inr k1,fL _ _ _ _,rfl⟩
   obtain rfl|he':=WM.mp he'
   ·exact⟨Sum.inr k2,fL _ _ _ _,rfl⟩
   ·rw[WT]at he';subst he';exact⟨Sum.inr k3,fL _ _ _ _,rfl⟩
  ·exact .cons (fL _ _ _ _) rfl (.cons (fL _ _ _ _) rfl (.cons (fL _ _ _ _) rfl .nil))
  ·have a12:(Sum.inr k1:Key)≠Sum.inr k2:=λe=>n12 (Sum.inr.inj e);have a13:(Sum.inr k1:Key)≠Sum.inr k3:=λe=>n13 (Sum.inr.inj e);have a23:(Sum.inr k2:Key)≠Sum.inr k3:=λe=>n23 (Sum.inr.inj e);simp only[YH,List.map_nil,YS,WM,YF,or_false,not_false_eq_true,ju,and_true,not_or];exact⟨⟨a12,a13⟩,a23⟩
 refine⟨dd.typeIs,?_⟩;have hv:∃t,valueAt [((Sum.inr k1:Key),ae v1 t2),(Sum.inr k2,ae v2 t4),(Sum.inr k3,ae v3 t6)] (Sum.inr z)=oZ (.str v t):=by
  unfold xH at ev;unfold valueAt
  by_cases e1:z=k1
  ·rw[oV e1]at ev;cases ev;exact⟨t2,by simp[e1]⟩
  ·rw[oW e1]at ev
   by_cases e2:z=k2
   ·rw[oV e2]at ev;cases ev;exact⟨t4,by simp[e2,n12]⟩
   ·rw[oW e2]at ev
    by_cases e3:z=k3
    ·rw[oV e3]at ev;cases ev;exact⟨t6,by simp[e3,n13,n23]⟩
    ·rw[oW e3]at ev;cases ev
 obtain⟨t,hv⟩:=hv;exact wpAny_getItem_of (Kd (k:=Sum.inr z) ry) dd.mapOf hv ⟨V.str v,H2,I2.tok _,⟨t,rfl⟩,q2⟩
def LP(k1 v1 k2 v2 k3 v3:Str)(Fi:FE):FE:=λE Q=>Fi E λy E2=>z1 (vl E2 y) λz=>o1 ((xH k1 v1 k2 v2 k3 v3 z).map T.str) λt=>Q (.p t) E2
theorem Ru(eK:X.K=K)(hg:Gl X x)(c:vE X.mg X.w K x k1 v1 k2 v2 k3 v3)(hi:QE X i (aO K Fi))(hs:Xl i)(hd:(x==("__debug__":Str))=false:=by decide):QE X (.Subscript (.Name x pos) i pos') (aO K (LP k1 v1 k2 v2 k3 v3 Fi)):=by
 subst eK;refine QE.le (t:=CW k1 v1 k2 v2 k3 v3 (aO X.K Fi)) ⟨Y0 hg c hi.h hs hd⟩ λσ H Q hlen zZ=>?_;obtain⟨B,S,E,Q',hS,re,hF,lk⟩:=zZ;refine⟨B,S,E,_,hS,re,hF,λy E4 w H4 S4 q4 g4 re4 ry=>?_⟩;obtain⟨z,e1,q4⟩:=z1.ex q4;obtain⟨t,e2,q4⟩:=o1.ex q4;have ew:_=V.str z:=re4.vl ry e1;subst ew;cases hv:xH k1 v1 k2 v2 k3 v3 z with
 |none=>rw[hv]at e2;cases e2
 |some v=>
  rw[hv]at e2;cases e2;exact⟨z,v,rfl,hv,lk _ _ _ _ _ q4 g4 re4 rfl⟩
end
def Di(P:kg)(w:ko)(a:jz)(vs:List (Key×oA))(ep:Nat):HO:=.ext λh=>h.DictAt (dM P w) a vs ep
def RC(D:HO)(a:jz)(so:List (Key×V)):It:=
 ⟨λi H=>H a=oZ D/\i<so.length,λi H x H'=>∃p k v,so[i]?=oZ (k,v)/\x = .ref p/\H p=none/\H'=upd H p (.tup [kV k,v]),λi H=>H a=oZ D/\so.length<=i⟩
theorem GR(r:KV so vs):∀{i:Nat},i<so.length->∃k v u,so[i]?=oZ (k,v)/\vs[i]?=oZ (k,u)/\bS v u:=by
 unfold KV at r
 induction r with
 |nil=>intro i h;cases h
 |cons h _ ih=>
  rename_i p q _ _ _;intro i hi;cases i with
  |zero=>exact⟨p.1,p.2,q.2,rfl,by rw[h.1];rfl,h.2⟩
  |succ i=>exact ih (by simpa using hi)
theorem GK(h:zN k u=true):bS (kV k) u:=by
 obtain⟨i,t,rfl,rfl⟩|⟨x,t,rfl,rfl⟩:=dC h
 ·exact⟨t,rfl⟩
 ·exact⟨t,rfl⟩
theorem zH:entryFor table "dict_itemiterator.__iter__" = oZ Builtin.«dict_keyiterator.__iter__»:=
 entryFor_alias (id':="dict_keyiterator.__iter__") (by kernel_rfl) rfl (by decide +kernel) (by kernel_rfl)
theorem Qn{P:kg}{w:ko}{K:W.Frag}{elts:List oC}{x1}{yg:Pos}(a it:jz){so:List (Key×V)}{vs:List (Key×oA)}{ep:Nat}(rel:KV so vs):
  Em P w K (.Tuple elts x1 yg) (RC (Di P w a vs ep) a so) [it] it (λi h=>∃ok ov,IsItemIter h it a i vs.length ep ok ov) where
 mem:=by simp
 obj:=λi h st b hb=>by
  have e:b=it:=by simpa using hb
  subst e;obtain⟨ok,ov,st⟩:=st;exact⟨_,st,λv z=>by cases z⟩
 keep:=λi h h' zZ k=>by obtain⟨ok,ov,st⟩:=zZ;exact⟨ok,ov,k it (by simp) _ st⟩
 item:=by
  intro X hP hw hK hc i pins s σ H E I hf ⟨ok,ov,st⟩ ⟨ga,gi⟩;subst hP hw hK;have dd:s.heap.DictAt (dM X.prog X.w) a vs ep:=(I.hok a _ ga).1;obtain⟨k,v,u,h1,h2,h3⟩:=GR rel gi;have e1:it≠s.heap.objs.size:=XM (WR st);refine wpAny_pyNext_items_item st dd h2 λdJ h' hk heo ht hz kp=>⟨_,rfl,?_⟩;refine wpAny_letOwnedTupleGo_items heo λh2' he2 hs2=>?_;have new:eD X.prog X.w (upd H s.heap.objs.size (.tup [kV k,v])) h2' s.heap.objs.size (.tup [kV k,v]):=
   ⟨by show 2<=ky;decide,[dJ,u],.cons (GK hk) (.cons h3 .nil),⟨_,hs2.extBut _ _ (Ne.symm e1) ht,rfl,_,rfl⟩⟩
  refine⟨.ref s.heap.objs.size,upd H s.heap.objs.size (.tup [kV k,v]),I.turnedLaid (t':=s.toks) (ch:=[it]) (λb o hb q=>hs2.extBut b o (by simpa using hb) (kp b o (by simpa using hb) q)) hf (WO _) new,rfl,
   ⟨_,k,v,h1,rfl,I.hok.fresh (WO _),rfl⟩,⟨_,_,he2⟩,λb hb=>?_⟩
  rw[bH (by rw[WT.mp hb];exact e1)];exact(hf b hb).1
 done:=by
  intro X hP hw hK hc i pins s σ H E I hf ⟨ok,ov,st⟩ ⟨ga,gi⟩;subst hP hw hK;have dd:s.heap.DictAt (dM X.prog X.w) a vs ep:=(I.hok a _ ga).1;exact wpAny_pyNext_items_end (I.ok.hd hc) st dd (YJ (by rw[<-rel.length];exact gi)) λh1 eb=>⟨rfl,I.turnedL (t':=s.toks) (ch:=[it]) (λb o hb q=>eb b o (by simpa using hb) q) hf⟩
 self:=λA i s Q E zZ h=>by
  obtain⟨ok,ov,st⟩:=zZ;have ty:s.TypeIs (.ref it) "dict_itemiterator":=⟨_,st,rfl⟩;refine wpAny_pyIter_slot ty F.slot_dict_itemiterator_iter (oy F.slot_dict_itemiterator_iter ty zH ?_ (F.args_dict_itemiterator_iter_1 _));show kh _ _ (ret (.ref it)) _ _ s;exact kq ⟨_,rfl,"dict_itemiterator",_,ty,F.slot_dict_itemiterator_next.lookup,h⟩
section
variable{X:Cx}{K:W.Frag}{o e:oC}{es:List oC}{pos ap:Pos}{td:TE}{Fr:FA}
def GA(X:Cx)(td:TE):TI:=λσ H R=>td σ H λx H1=>∃a so,x = .ref a/\H1 a=oZ (.dK so)/\∀vs ep,R (RC (Di X.prog X.w a vs ep) a so) (upd H1 a (Di X.prog X.w a vs ep))
theorem D7{x1}(ho:PE X o td)(wb:mj o "items" X.env (lq o X.env)=lq o X.env:=by rfl)(wc:(ap.endLine==pos.line)=true:=by rfl):PI X (.Tuple elts x1 yg) (.Call (.Attribute o "items" ap) [] [] pos) (GA X td):=by
 intro pins s σ H R I h;refine wpAny_Call_method0_late wb wc (eC (ho pins s σ H _ I h) λv s1 zZ=>?_);obtain⟨x,H1,I1,r1,a,so,ex,hk,q⟩:=zZ;subst ex;obtain rfl:v=YB a:=r1;obtain⟨z,nm,vs,rel,dd⟩:=BN I1.hok hk;obtain⟨ob,en,ep,gt,ed,r⟩:=id dd;have da:s1.heap.DictAt (dM X.prog X.w) a vs ep:=⟨ob,en,gt,ed,r⟩;have I2:aZ X pins σ (upd H1 a (Di X.prog X.w a vs ep)) s1:=Ri (t':=s1.toks) I1 (by rw[hk];exact True.intro) (Heap.SameBut.refl ..) ⟨ob,gt⟩ ⟨da,⟨ob,gt⟩,λ_ _ p k=>p.at k⟩;have ty:s1.TypeIs (.ref a) "dict":=⟨ob,gt,ed.1⟩;refine⟨"dict","dict.items",PySem.F.plainAttrs_dict,PySem.F.slot_dict_items,PySem.F.type_dict_items,ty,λb e=>by cases e;exact⟨ob,gt,ed.2.1⟩,Calls.callWith_builtin rfl (PySem.evalArgs_none (call_meetsIn PySem.F.slot_dict_items ty PySem.F.entry_dict_items (PySem.F.args_dict_items_1 _) (meets_dict_items (dM X.prog X.w) a nm) ⟨⟨vs,dd⟩,?_⟩))⟩;refine wpAny_pyIter_items (s:={ s1 with heap:=s1.heap.push { cls:=.type "dict_items",data:=.fields #[.ref a] } }) ⟨_,WV _ rfl,rfl,rfl⟩ (da.push _) ?_;refine⟨(s1.heap.push { cls:=.type "dict_items",data:=.fields #[.ref a] }).objs.size,[(s1.heap.push { cls:=.type "dict_items",data:=.fields #[.ref a] }).objs.size],_,_,_,rfl,I2.kept (t':=s1.toks) λb u e=>WL _ (WL _ e),Qn a _ rel,⟨_,_,WV _ rfl⟩,λb hb=>?_,q vs ep⟩;have e:b=(s1.heap.push { cls:=.type "dict_items",data:=.fields #[.ref a] }).objs.size:=by simpa using hb
 subst e;have le:s1.heap.objs.size<=(s1.heap.push { cls:=.type "dict_items",data:=.fields #[.ref a] }).objs.size:=by rw[YK];lia
 exact I2.fpOk le (I2.hok.fresh le)
theorem GF{xs:List (Int×Str)}:Bf K (RC D a (xs.map λx=>(Sum.inl x.1,V.str x.2))) (xs.map KG) (λH O=>H a=oZ D/\¬O a):=by
 refine⟨λH H' O O' kp zZ=>by obtain⟨h,n⟩:=zZ;exact⟨kp.keep a _ h n,λz=>(kp.new a z).elim n λq=>by rw[h]at q;cases q⟩,λi H O zZ hi=>by obtain⟨h,n⟩:=zZ;exact⟨h,by simpa using hi⟩,λi H O x H' t⟨h,n⟩e hO y=>?_,λH O zZ=>by obtain⟨h,n⟩:=zZ;exact⟨h,by simp⟩⟩;obtain⟨p,k,v,hk,rfl,hp,rfl⟩:=y;rw[WH]at e hk;obtain⟨y,hy,e⟩:=XE.mp e;rw[hy]at hk;cases hk;subst e;exact⟨Kp.upd hp,λb o q=>by rw[bH (bB q hp)];exact q,p,_,rfl,.inl ⟨λz=>hO p z hp,cZ⟩,_,_,rfl,rfl,_,_,rfl,rfl,rfl⟩
def VP(S:EB)(Fr:FA):FI:=λE Q=>Fr E λrs E1=>o1 (Zw E1 rs) λts=>S (ts.map A.v) λso=>∃xs:List (Int×Str),so=xs.map (λx=>(Sum.inl x.1,V.str x.2))/\Q (xs.map KG) [] E1
theorem Ys{n k j:Nat}{f:Str}{ps:List Str}{S:EB}{p pc yg:Pos}{elts:List oC}{x1}(F:Fn X.prog X.w X.K X.mg X.base k f ps (Lr K S))(hr:d5 j X.A)(hk:k<=j)(hg:Gl X f)(ha:QA X (e::es) (dB K n Fr))(yt:(f==("__debug__":Str))=false:=by decide)(hst:b8 (e::es)=true:=by rfl)
  (wb:mj (.Call (.Name f p) (e::es) [] pc) "items" X.env (lq (.Call (.Name f p) (e::es) [] pc) X.env)=lq (.Call (.Name f p) (e::es) [] pc) X.env:=by rfl) (wc:(ap.endLine==pos.line)=true:=by rfl) :
  QI X (.Tuple elts x1 yg) (.Call (.Attribute (.Call (.Name f p) (e::es) [] pc) "items" ap) [] [] pos) (mD K (VP S Fr)):=by
 refine QI.le ⟨D7 (vV F hr hk hg ha yt hst).h wb wc⟩ λσ H R hn zZ=>?_;obtain⟨B,S0,E,Q',hS,re,hF,lk⟩:=zZ;refine⟨B,S0,E,_,hS,re,hF,λrs E1 vs H1 S1 q g uk rr hn=>?_⟩;obtain⟨ts,e1,q⟩:=q.ex;rw[XW];refine⟨ts.map A.v,_,Sz uk rr e1,Et,q,λso a H' q2 ha0 kp ha=>⟨a,so,rfl,ha,λvs ep=>?_⟩⟩;obtain⟨xs,rfl,q2⟩:=q2;have kp2:∀b o,H1 b=oZ o->(upd H' a (Di X.prog X.w a vs ep)) b=oZ o:=λb o h=>by
  rw[bH λz=>by rw[z,ha0]at h;cases h];exact kp b o h
 have xu:=uk.kept kp2;refine lk _ _ _ _ _ _ _ q2 (g.trans ⟨⟨λb o h _=>kp2 b o h,λb z=>.inl z⟩,[],by simp⟩) xu GF (λj hj=>absurd hj (by simp)) λO k1 _=>⟨cZ,λz=>?_⟩;obtain⟨ws,h⟩:=xu.ow (k1 a z);rw[cZ]at h;cases h
end
end L2
namespace My
open PySem L2 PyProof.Rows
def top(i:Nat):ki:=PySem.Challenge.pw_sidecut_k22_how_far_off_at_most.main.body.getD i (.Pass ⟨0,0,0,0⟩)
section
variable{P:kg}{w:ko}{K:W.Frag}{mg:Str->Option oA}{base:oE}
structure Bx(xs:List T)(n:Int):Prop where
 ex:∃A B c:Int,xs=[.int A,.int B,.int c]/\0<=A/\0<=B/\B<2147483647/\0<=c/\c<=n
theorem Bx.mono{n m:Int}(b:Bx xs n)(h:n<=m):Bx xs m:=let⟨A,B,c,h1,h2,h3,h4,h5,h6⟩:=b;⟨A,B,c,h1,h2,h3,h4,h5,⋯⟩
def DO:dG:=λas Q=>∃(xs:List T)(m n:Int),as=[.b xs,.v (.int m)]/\Bx xs n/\n<=1000000/\1<=m/\m<2^200/\∀r ys,0<=r->r<m->Bx ys (n+1)->Q (.v (.int r)) ys
abbrev rB(P w K mg base):=(~~~Fn) 1 "_law_take" ["_law_box_here","_law_many"] (aJ K DO)
abbrev Pz:ki:=top 83
theorem Ib:aF ["_law_box_here","_law_many","_law_once","_law_found"] ["_law_box_here","_law_many"] (aC Pz):=dH
theorem W9(F:cK K "_law_take" "_law_take" Pz f fd)(TX:Txt mg):(~~~aV) cM 1 f fd ["_law_box_here","_law_many"] (aJ K DO):=by
 refine F.okU Ib (λhr=>(aB (bN (fP qD (fQ 0) aA) (aB (fF (Vk rfl TX.n_divmod (f2 (fQ 0) (fv 1))) (dA (n:=2) rfl rfl (aP (Nl (fv 0) aA) (aP (fG 3 Ib.nd) cJ)))) (aE (aG (fv 3)))) a8) (aB (fF (a7 cO (fQ 0) aA) (Nl (fv 0) aA)) (aB (fS 2 Ib.nd (aS iD (aS C6 (a7 cO (fQ 0) (aS bD aA (fQ 0))) aA) aA)) (aE (aG (aS iD (aS eB (aS iD (a7 cO (aS bD (fv 2) aA) (aS bD (aS bD (fQ 0) (fQ 0)) aA)) aA) aA) (fv 1)))))))) ?_;rintro as Q ⟨xs,m,n,rfl,⟨A,B,c,rfl,hA,hB,hB2,hc,hcn⟩,hn,h1,h2,k⟩;show if decide (0<A)=true then _ else _
 by_cases hA0:0<A
 ·rw[oY hA0,oV rfl];refine⟨⟨⋯,h2⟩,⟨rfl,k _ _ (jh _ ⋯) (cy _ ⋯) ⟨_,_,_,rfl,Int.ediv_nonneg hA ⋯,hB,hB2,hc,⋯⟩⟩⟩
 ·rw[oX hA0,oW ∅];have p5:Q3 (B+39373*(c+1)) 5:=⟨∅,∅,⋯⟩;have d64:Ce (((B+39373*(c+1))^(5:Int).toNat%2147483647*48271+(c+1)*(c+1)*7919)%2147483629) 64:=⟨∅,WZ (show(64:Int).natAbs<2^7 by decide) (YG ∅ ∅)⟩;refine⟨Ny ∅,p5,(by show(0:Int)<2147483647;decide),?_⟩;refine⟨Kh ∅,Ny ⋯,Kh ∅,?_⟩;refine⟨(by show(0:Int)<2147483629;decide),d64,(by show(0:Int)<m;lia),⟨rfl,?_⟩⟩;exact k _ _ (jh _ ⋯) (cy _ ⋯) ⟨_,_,_,rfl,hA,hB,hB2,⋯,⋯⟩
def bQ(ns:List Int):List T:=ns.map T.int
theorem Zg{ns:List Int}{k:Int}(h0:0<=k)(h1:k<(ns.length:Int)):∃z,eZ (bQ ns) k=oZ (.int z):=by
 have hk:k.toNat<ns.length:=⋯
 refine⟨ns[k.toNat],?_⟩;have e3:k=((k.toNat:Nat):Int):=⋯
 have z:=iO (xs:=bQ ns) (j:=k.toNat) (v:=T.int ns[k.toNat]) (by rw[bQ,WH,WG hk];rfl);rw[<-e3]at z;exact z
def L5:dG:=λas Q=>∃(ns:List Int)(k:Int),as=[.v (.lst (bQ ns)),.v (.int k)]/\0<=k/\k<=1000/\∀xs,Bx xs 0->bX xs=true->Q (.l xs) []
def AZ:dG:=λas Q=>∃(n d:Int),as=[.v (.int n),.v (.int d)]/\d≠0/\d.natAbs<2^8000/\Q (.v (fr (jY n d))) []
theorem xE{i:Int}{n d:Int}(hd:d≠0)(hb:d.natAbs<2^8000):Ce i ((XX n.natAbs d.natAbs:Nat):Int):=by
 have h1:0<XX n.natAbs d.natAbs:=cm _ ⋯;have h2:XX n.natAbs d.natAbs<=d.natAbs:=Nat.gcd_le_right _ ⋯;exact⟨⋯,XY ⋯ hb⟩
theorem Ro(i:Int)(n:Nat):i.fdiv (n:Int)=i/(n:Int):=YU _ ⋯
def To:dG:=λas Q=>∃(n d:Int),as=[.v (.int n),.v (.int d)]/\Q (.v (.int ((XX n.natAbs d.natAbs:Nat):Int))) []
abbrev lH(P w K mg base):=(~~~Fn) 1 "common_divisor" oH (aJ K To)
abbrev jH:ki:=top 1
theorem i5:aF oH oH (aC jH):=dH
theorem uZ(F:cK K "common_divisor" "common_divisor" jH f fd)(TX:Txt mg):(~~~aV) cM 1 f fd oH (aJ K To):=by
 refine F.okU i5 (λhr=>(aB (gH (i:=0) (j:=1) rfl i5.nd rfl rfl ∅ rfl rfl (f2 (vH rfl TX.n_abs (f1 (fv 0))) (vH rfl TX.n_abs (f1 (fv 1)))) rfl) (aB (pS PassesOwn.never (sC rfl hr (fv 1) aA (a9 _)) (aE (gH (i:=0) (j:=1) rfl i5.nd rfl rfl ∅ rfl rfl (f2 (fv 1) (aS iD (fv 0) (fv 1))) rfl))) (aE (aG (fv 0)))))) ?_;rintro as Q ⟨n,d,rfl,q⟩;refine⟨λm E=>∃x y:Nat,E=[↑x,↑y]/\m=y/\XX x y=XX n.natAbs d.natAbs,⟨_,_,_,rfl,rfl,rfl⟩,?_⟩;rintro m E ⟨x,y,rfl,rfl,hg⟩;refine⟨WS _,?_⟩;show if(!((m:Int)==0))=true then _ else _
 by_cases hy:m=0
 ·subst hy;rw[oW ∅];rw[Nat.gcd_zero_right]at hg;subst hg;exact⟨rfl,q⟩
 ·rw[oV (by simpa using hy)];exact⟨(by show(0:Int)<(m:Int);lia),x%m,aj _ ⋯,m,x%m,rfl,rfl,by rw[Ka];exact hg⟩
abbrev e7(P w K mg base):=(~~~Fn) 2 "fraction" ["n","d"] (aJ K AZ)
abbrev tG:ki:=top 2
theorem qW:aF ["n","d","divisor"] ["n","d"] (aC tG):=dH
theorem Ks(F:cK K "fraction" "fraction" tG f fd)(TX:Txt mg)(xi: ~~~lH):(~~~aV) cM 2 f fd ["n","d"] (aJ K AZ):=by
 refine F.okU qW (λhr=>(aB (Vn (sC rfl hr (fv 1) aA (a9 _))) (aB (fS 2 qW.nd (fK xi (f2 (fv 0) (fv 1)))) (aB (bN (fP iK (fv 1) aA) (aE (fS 2 qW.nd (c8 (fv 2)))) a8) (aE (aG (aN (f2 (aS eB (fv 0) (fv 2)) (aS eB (fv 1) (fv 2)))))))))) ?_;rintro as Q ⟨n,d,rfl,hd,hb,q⟩;have hd':(!(d==0))=true:=by simpa using hd
 refine⟨WS _,hd',n,d,rfl,?_⟩;have dn:((XX n.natAbs d.natAbs:Nat):Int)∣n:=YZ.mpr (bf _ _);have dd:((XX n.natAbs d.natAbs:Nat):Int)∣d:=YZ.mpr (aq _ _);have g0:((XX n.natAbs d.natAbs:Nat):Int)≠0:=(xE (i:=0) (n:=n) hd hb).1;have aR:∀{g m:Int},g≠0->g∣m->m.fdiv (-g)=(-m)/g:=λ{g m}h0 hm=>by
  obtain⟨k,rfl⟩:=hm;have e1:g*k=(-g)*(-k):=by grind
  have e2:-(g*k)=g*(-k):=by grind
  rw[e2,YR _ h0,e1,iw _ ⋯]
 show if decide (d<0)=true then _ else _
 by_cases h:d<0
 ·rw[oY h,oV rfl];have cz:∀i:Int,Ce i (-((XX n.natAbs d.natAbs:Nat):Int)):=λi=>⟨⋯,by rw[df];exact(xE (i:=i) (n:=n) hd hb).2⟩;refine⟨cz _,cz _,rfl,?_⟩;unfold jY uV pW at q;rw[oW ⋯,oW ⋯,<-aR g0 dn,<-aR g0 dd]at q;exact q
 ·rw[oX h,oW ∅];refine⟨xE hd hb,xE hd hb,rfl,?_⟩;unfold jY uV pW at q;rw[oV ⋯,oV ⋯,<-Ro,<-Ro]at q;exact q
theorem pl(h:x<2^e)(k:e<=f):x<2^f:=WZ h (YG ∅ k)
def xY(op:Fr->Fr->Fr):dG:=λas Q=>∃x y:Fr,as=[.v (fr x),.v (fr y)]/\bC x/\bC y/\sz x+sz y<=7900/\Q (.v (fr (op x y))) []
abbrev eJ(P w K mg base):=(~~~Fn) 3 "added" oH (aJ K (xY aW))
abbrev Hl:ki:=top 3
theorem J0:aF oH oH (aC Hl):=dH
theorem A7(F:cK K "added" "added" Hl f fd)(TX:Txt mg)(tx: ~~~e7):(~~~aV) cM 3 f fd oH (aJ K (xY aW)):=by
 refine F.okU J0 (λhr=>(aE (aG (fK tx (f2 (a7 cO (aS bD (fQ 0) (fQ 1)) (aS bD (fQ 1) (fQ 0))) (aS bD (fQ 0) (fQ 1))))))) ?_;rintro as Q ⟨x,y,rfl,hx,hy,hs,q⟩;have hd:(x.2*y.2).natAbs<2^8000:=vU (bR (cG x) (cG y)) ⋯;exact⟨k5 (e:=7900) (pl (eQ x) ⋯) (pl (cG y) ⋯) ∅,k5 (e:=7900) (pl (eQ y) ⋯) (pl (cG x) ⋯) ∅,k5 (e:=7900) (pl (cG x) ⋯) (pl (cG y) ⋯) ∅,_,_,rfl,fM hx hy,hd,rfl,q⟩
abbrev jR(P w K mg base):=(~~~Fn) 3 "taken" oH (aJ K (xY aH))
abbrev Hw:ki:=top 4
theorem J8:aF oH oH (aC Hw):=dH
theorem C0(F:cK K "taken" "taken" Hw f fd)(TX:Txt mg)(tx: ~~~e7):(~~~aV) cM 3 f fd oH (aJ K (xY aH)):=by
 refine F.okU J8 (λhr=>(aE (aG (fK tx (f2 (a7 jZ (aS bD (fQ 0) (fQ 1)) (aS bD (fQ 1) (fQ 0))) (aS bD (fQ 0) (fQ 1))))))) ?_;rintro as Q ⟨x,y,rfl,hx,hy,hs,q⟩;have hd:(x.2*y.2).natAbs<2^8000:=vU (bR (cG x) (cG y)) ⋯;exact⟨k5 (e:=7900) (pl (eQ x) ⋯) (pl (cG y) ⋯) ∅,k5 (e:=7900) (pl (eQ y) ⋯) (pl (cG x) ⋯) ∅,k5 (e:=7900) (pl (cG x) ⋯) (pl (cG y) ⋯) ∅,_,_,rfl,fM hx hy,hd,rfl,q⟩
abbrev fA(P w K mg base):=(~~~Fn) 3 "times" oH (aJ K (xY aM))
abbrev Hx:ki:=top 5
theorem J9:aF oH oH (aC Hx):=dH
theorem C2(F:cK K "times" "times" Hx f fd)(TX:Txt mg)(tx: ~~~e7):(~~~aV) cM 3 f fd oH (aJ K (xY aM)):=by
 refine F.okU J9 (λhr=>(aE (aG (fK tx (f2 (aS bD (fQ 0) (fQ 1)) (aS bD (fQ 0) (fQ 1))))))) ?_;rintro as Q ⟨x,y,rfl,hx,hy,hs,q⟩;have hd:(x.2*y.2).natAbs<2^8000:=vU (bR (cG x) (cG y)) ⋯;exact⟨k5 (e:=7900) (pl (eQ x) ⋯) (pl (eQ y) ⋯) ∅,k5 (e:=7900) (pl (cG x) ⋯) (pl (cG y) ⋯) ∅,_,_,rfl,fM hx hy,hd,rfl,q⟩
def bW(x y x' y':Fr):Fr:=aW (aM x x') (aM y y')
def aU(x y x' y':Fr):Fr:=aH (aM x y') (aM y x')
structure Nv(a b:Fr)(e:Nat):Prop where
 x:bC a
 y:bC b
 sx:sz a<=e
 sy:sz b<=e
def DQ(op:Fr->Fr->Fr->Fr->Fr):dG:=λas Q=>∃(x y x' y':Fr)(e f:Nat),as=[.v (vc x y),.v (vc x' y')]/\Nv x y e/\Nv x' y' f/\e+f<=3900/\Q (.v (fr (op x y x' y'))) []
abbrev kR(P w K mg base):=(~~~Fn) 4 "dot" oH (aJ K (DQ bW))
abbrev H0:ki:=top 14
theorem JK:aF oH oH (aC H0):=dH
theorem HC(F:cK K "dot" "dot" H0 f fd)(TX:Txt mg)(tf: ~~~fA)(tu: ~~~eJ):(~~~aV) cM 4 f fd oH (aJ K (DQ bW)):=by
 refine F.okU JK (λhr=>(aE (aG (fK tu (f2 (fK tf (f2 (fQ 0) (fQ 1))) (fK tf (f2 (fQ 0) (fQ 1)))))))) ?_;rintro as Q ⟨x,y,x',y',e,f,rfl,h,k,he,q⟩;have:=h.sx;have:=h.sy;have:=k.sx;have:=k.sy;have n1:=aK h.x k.x;have n2:=aK h.y k.y;have s1:=bJ h.x k.x;have s2:=bJ h.y k.y;exact⟨_,_,rfl,h.x,k.x,⋯,_,_,rfl,h.y,k.y,⋯,_,_,rfl,n1,n2,⋯,rfl,q⟩
def Tr:dG:=λas Q=>∃x y:Fr,as=[.v (vc x y)]/\Q (.v (vc (aR y) x)) []
abbrev jF(P w K mg base):=(~~~Fn) 1 "left_of" ["vector"] (aJ K Tr)
abbrev wF:ki:=top 16
theorem tQ:aF ["vector","x","y"] ["vector"] (aC wF):=dH
theorem Om(F:cK K "left_of" "left_of" wF f fd)(TX:Txt mg):(~~~aV) cM 1 f fd ["vector"] (aJ K Tr):=by
 refine F.okU tQ (λhr=>(aB (fF (fv 0) (dA (n:=2) rfl rfl (aP (fG 1 tQ.nd) (aP (fG 2 tQ.nd) cJ)))) (aE (aG (aN (f2 (aN (f2 (c8 (fQ 2)) (fQ 2))) (fv 1))))))) ?_;rintro as Q ⟨x,y,rfl,q⟩;exact⟨rfl,q⟩
theorem cY(h:Nat.ble a b=true):a<=b:=Nat.le_of_ble_eq_true h
theorem cP(h:Nv x y e)(k:Nv c s f):val (bW x y c s)=val x*val c+val y*val s:=by
 unfold bW;rw[bE (aK h.x k.x) (aK h.y k.y),aQ h.x k.x,aQ h.y k.y]
theorem cV(h:Nv x y e)(k:Nv c s f):val (aU x y c s)=val x*val s-val y*val c:=by
 unfold aU;rw[aT (aK h.x k.y) (aK h.y k.x),aQ h.x k.y,aQ h.y k.x]
theorem aY(h:Nv x y e)(k:Nv c s f):bC (bW x y c s):=cE (aK h.x k.x) (aK h.y k.y)
theorem cC(h:Nv x y e)(k:Nv c s f):bC (aU x y c s):=cF (aK h.x k.y) (aK h.y k.x)
theorem Nv.up{x y:Fr}{e f:Nat}(h:Nv x y e)(k:e<=f):Nv x y f:=⟨h.x,h.y,XR h.sx k,XR h.sy k⟩
theorem eV(n:Int):val (n,1)=(n:Rat):=by
 show(n:Rat)/((1:Int):Rat)=n
 push_cast
 grind
theorem fT:val (1,1)=1:=by rw[eV];rfl
theorem lU:val (0,1)=0:=by rw[eV];rfl
def DI:dG:=λas Q=>∃x y:Fr,as=[.v (fr x),.v (fr y)]/\bC x/\bC y/\y.1≠0/\sz x+sz y<=7900/\Q (.v (fr (bO x y))) []
abbrev mY(P w K mg base):=(~~~Fn) 3 "over" oH (aJ K DI)
abbrev Px:ki:=top 6
theorem AN:aF oH oH (aC Px):=dH
theorem W7(F:cK K "over" "over" Px f fd)(TX:Txt mg)(tx: ~~~e7):(~~~aV) cM 3 f fd oH (aJ K DI):=by
 refine F.okU AN (λhr=>(aE (aG (fK tx (f2 (aS bD (fQ 0) (fQ 1)) (aS bD (fQ 0) (fQ 1))))))) ?_;rintro as Q ⟨x,y,rfl,hx,hy,h0,hs,q⟩;have hd:(x.2*y.1).natAbs<2^8000:=vU (bR (cG x) (eQ y)) ⋯;exact⟨k5 (e:=7900) (pl (eQ x) ⋯) (pl (cG y) ⋯) ∅,k5 (e:=7900) (pl (cG x) ⋯) (pl (eQ y) ⋯) ∅,_,_,rfl,bz hx.ne h0,hd,rfl,q⟩
structure cD(x y:Fr)(e:Nat):Prop where
 nv:Nv x y e
 one:val x*val x+val y*val y=1
theorem cD.left(h:cD x y e):cD (aR y) x e:=⟨⟨d7 h.nv.y,h.nv.x,by rw[qY];exact h.nv.sy,h.nv.sx⟩,by rw[b7 h.nv.y,<-h.one];grind⟩
theorem Uh(h:bC p):val p*(p.2:Rat)=(p.1:Rat):=by have:=h.neR;unfold val;grind
theorem BM(h:bC p):(0:Rat)<(p.2:Rat):=by have:=h.d;exact_mod_cast (show(0:Int)<p.2 by lia)
theorem dY(h:bC p):0<=val p↔0<=p.1:=by
 have e:=Uh h;have d:=BM h;constructor
 ·intro k;have:=Rat.mul_nonneg k (Rat.le_of_lt d);rw[e]at this
  exact_mod_cast this
 ·intro k;have k':(0:Rat)<=(p.1:Rat):=by exact_mod_cast k
  rcases Rat.le_total (a:=0) (b:=val p)with c|c
  ·exact c
  ·by_cases z:val p=0
   ·grind
   ·have:=Rat.mul_pos (a:=-val p) (b:=p.2) (by grind) d;grind
theorem tT(h:bC p):val p<=0↔p.1<=0:=by
 have:=dY (d7 h);rw[b7 h]at this;have e:(aR p).1 = -p.1:=rfl;rw[e]at this;constructor
 ·intro k;have:=this.1 (by grind);lia
 ·intro k;have:=this.2 ⋯;grind
theorem tU(h:bC p):val p<0↔p.1<0:=by
 have:=dY h;constructor
 ·intro k;exact Int.not_le.mp λc=>by have:=this.2 c;grind
 ·intro k;exact Rat.not_le.mp λc=>by have:=this.1 c;lia
theorem fW(h:bC p):0<val p↔0<p.1:=by
 have:=tT h;constructor
 ·intro k;exact Int.not_le.mp λc=>by have:=this.2 c;grind
 ·intro k;exact Rat.not_le.mp λc=>by have:=this.1 c;lia
theorem nG{lo:Int}(h:(iY lo n)[i]?=oZ t):i<n/\t = .int (lo+(i:Int)):=by
 unfold iY at h;rw[WH]at h;obtain c|c:=XQ i n
 ·rw[YW c]at h;cases h;exact⟨c,rfl⟩
 ·rw[YJ (by simpa using c)]at h;cases h
theorem bL{z k:Rat}(hk:0<k)(h:0<z*k):0<z:=by
 rcases Rat.le_total (a:=z) (b:=0)with c|c
 ·have:=Rat.mul_nonneg (a:=-z) (b:=k) (by grind) (Rat.le_of_lt hk);grind
 ·by_cases e:z=0
  ·rw[e]at h;grind
  ·grind
theorem jL{z k:Rat}(hk:0<k)(h:0<=z*k):0<=z:=by
 rcases Rat.le_total (a:=z) (b:=0)with c|c
 ·by_cases e:z=0
  ·grind
  ·have:=Rat.mul_pos (a:=-z) (b:=k) (by grind) hk;grind
 ·exact c
abbrev Xk(P w K mg base):=(~~~Fn) 1 "_law_box" ["_law_script","_law_k"] (aJ K L5)
abbrev G9:ki:=top 82
theorem Qa:aF ["_law_script","_law_k","_law_cell"] ["_law_script","_law_k"] (aC G9):=dH
theorem HB(F:cK K "_law_box" "_law_box" G9 f fd)(TX:Txt mg):(~~~aV) cM 1 f fd ["_law_script","_law_k"] (aJ K L5):=by
 refine F.okU Qa (λhr=>(aB (fS 2 Qa.nd aA) (aB (bN (fP iK (fv 1) (fE rfl rfl TX.n_len (f1 (fv 0)))) (aE (fS 2 Qa.nd (fX (fv 0) (fv 1)))) a8) (aE (aG (cN (f3 (aS bD (vH rfl TX.n_abs (f1 (fv 2))) (Rv rfl TX.n_int (f1 (sA Ds (vH rfl TX.n_abs (f1 (fv 2))) (aS C6 aA aA) (a9 _))))) (aS iD (a7 cO (fv 2) (aS bD (aS bD aA (fv 1)) (fv 1))) aA) aA))))))) ?_;rintro as Q ⟨ns,k,rfl,h0,h1,q⟩;have p10:Q3 10 18:=⟨∅,∅,∅⟩;have bx:∀z:Int,Bx [.int ((z.natAbs:Int)*(if decide ((10:Int)^(18:Int).toNat<=(z.natAbs:Int))=true then 1 else 0)),.int ((z+7919*k*k)%2147483647),.int 0] 0:=λz=>
  ⟨_,_,_,rfl,dh ⋯ (by split<;>decide),jh _ ∅,cy _ ∅,∅,∅⟩
 have k2:(7919*k).natAbs<2^60:=⋯
 have one:∀z:Int,(if decide ((10:Int)^(18:Int).toNat<=(z.natAbs:Int))=true then(1:Int)else 0).natAbs<2^60:=λz=>by split<;>decide
 have pm:(λ(_ j:Int)=>0<j) 0 2147483647:=by show(0:Int)<2147483647;decide
 show if decide (k<((bQ ns).length:Int))=true then _ else _
 by_cases hk:k<((bQ ns).length:Int)
 ·rw[oY hk,oV rfl];obtain⟨z,hz⟩:=Zg (ns:=ns) h0 (by simpa[bQ]using hk);show o1 (eZ (bQ ns) k) _;rw[hz];exact⟨p10,Kh (one z),Ny ∅,Ny k2,pm,⟨rfl,q _ (bx z) rfl⟩⟩
 ·rw[oX hk,oW ∅];exact⟨p10,Kh (one 0),Ny ∅,Ny k2,pm,⟨rfl,q _ (bx 0) rfl⟩⟩
theorem R4(ns:List Int)(m:Nat):iA (bQ ns) none (oZ (m:Int))=bQ (ns.take m):=by
 unfold iA bQ;rw[HT.sIx_none,HT.sIx_nat,List.drop_zero,Nat.sub_zero,List.map_take];obtain h|h:=Nat.le_total m (ns.map T.int).length
 ·rw[jg h]
 ·rw[Nat.min_eq_right h,ZH (WO _),ZH h]
theorem Xt{lo hi:Option Int}(h:y∈iA xs lo hi):y∈xs:=List.mem_of_mem_drop (List.mem_of_mem_take h)
theorem Xs(xs:List T)(m k:Nat):(iA xs (oZ (m:Int)) (oZ (k:Int))).length<=xs.length-m:=by
 unfold iA;rw[HT.sIx_nat,HT.sIx_nat,XT,YY];omega
theorem Rm{xs:List T}{i:Nat}(h:(xs.zipIdx.map λq=>T.tup [.int (q.2:Int),q.1])[i]?=oZ x):∃y,xs[i]?=oZ y/\x = .tup [.int (i:Int),y]:=by
 rw[WH]at h;cases q:xs.zipIdx[i]? with
 |none=>rw[q]at h;cases h
 |some z=>
  rw[q]at h;cases h;obtain⟨q1,q2⟩:=WE.mp q;rw[fk]at q2;subst q2;exact⟨_,WG (by simpa using q1),by simp⟩
def BA:dG:=λas Q=>∃(x y p q:Fr)(e f:Nat),as=[.v (vc x y),.v (vc p q)]/\Nv x y e/\Nv p q f/\e+f<=7000/\Q (.v (vc (aH x p) (aH y q))) []
inductive Pc where
 |side (x y:Fr)|arc (m n x y:Fr) (l:Bool)
def vC(l:Bool):Str:=if l then "left" else "right"
def g9:Pc->L2.T
 |.side x y=>.tup [.str "side",vc x y]
 |.arc m n x y l=>.tup [.str "arc",vc m n,vc x y,.str (vC l)]
def Pc.px:Pc->Fr
 |.side x _=>x
 |.arc _ _ x _ _=>x
def Pc.py:Pc->Fr
 |.side _ y=>y
 |.arc _ _ _ y _=>y
def Bk(a b c d:Fr):Rat:=(val a-val c)*(val a-val c)+(val b-val d)*(val b-val d)
def sW(e:Nat)(a b:Fr):Pc->Prop
 |.side x y=>Nv x y e/\∃r:Rat,0<r/\Bk x y a b=r*r
 |.arc m n x y _=>Nv m n e/\Nv x y e/\¬(x=a/\y=b)/\∃r:Rat,0<r/\Bk a b m n=r*r/\Bk x y m n=r*r
theorem cD.neg(h:cD x y e):cD (aR x) (aR y) e:=h.left.left
theorem cD.up(h:cD x y e)(k:e<=f):cD x y f:=⟨h.nv.up k,h.one⟩
def kY(e:Nat):Fr->Fr->List Pc->Prop
 |_,_,[]=>True
 |a,b,p::ps=>sW e a b p/\kY e p.px p.py ps
def cQ:Fr->List Pc->Fr
 |a,[]=>a
 |_,p::ps=>cQ p.px ps
def cR:Fr->List Pc->Fr
 |b,[]=>b
 |_,p::ps=>cR p.py ps
theorem sP:∀(ps:List Pc)(a:Fr)(p:Pc),cQ a (ps++[p])=p.px
 |[],_,_=>rfl
 |q::ps,_,p=>sP ps q.px p
theorem sU:∀(ps:List Pc)(a:Fr)(p:Pc),cR a (ps++[p])=p.py
 |[],_,_=>rfl
 |q::ps,_,p=>sU ps q.py p
theorem sW.up(k:e<=f):∀{p:Pc},sW e a b p->sW f a b p
 |.side _ _,h=>⟨h.1.up k,h.2⟩
 |.arc _ _ _ _ _,h=>⟨h.1.up k,h.2.1.up k,h.2.2⟩
theorem sW.nv:∀{p:Pc},sW e a b p->Nv p.px p.py e
 |.side _ _,h=>h.1
 |.arc _ _ _ _ _,h=>h.2.1
def bZ(a b:Fr)(ps:List Pc):L2.T:=.tup [vc a b,.tup (ps.map g9)]
theorem HA:∀p:Pc,noL (g9 p)=true
 |.side _ _=>rfl
 |.arc _ _ _ _ _=>rfl
theorem A2(a b:Fr)(ps:List Pc)(h:bX (ps.map g9)=true):noL (bZ a b ps)=true:=by
 show(true&&(bX (ps.map g9)&&true))=true;rw[h];rfl
theorem Kl:∀ps:List Pc,bX (ps.map g9)=true
 |[]=>rfl
 |p::ps=>by show(noL (g9 p)&&bX (ps.map g9))=true;rw[HA,Kl ps];rfl
def Xj(n r:Nat):Prop:=r*r<=n/\n<(r+1)*(r+1)
theorem Xj.uniq(h:Xj n r)(k:Xj n s):r=s:=by
 obtain z|z|z:=Nat.lt_trichotomy r s
 ·have:=dj (show r+1<=s from z) (show r+1<=s from z);have:=h.2;have:=k.1;lia
 ·exact z
 ·have:=dj (show s+1<=r from z) (show s+1<=r from z);have:=k.2;have:=h.1;lia
theorem LA(x y:Nat):4*(x*y)<=(x+y)*(x+y):=by
 obtain h|h:=Nat.le_total x y
 ·obtain⟨k,rfl⟩:=jd h;have:(x+(x+k))*(x+(x+k))=4*(x*(x+k))+k*k:=by grind
  lia
 ·obtain⟨k,rfl⟩:=jd h;have:(y+k+y)*(y+k+y)=4*((y+k)*y)+k*k:=by grind
  lia
theorem zQ(h:0<g):s<((g+s/g)/2+1)*((g+s/g)/2+1):=by
 have h1:s<g*(s/g+1):=Nat.lt_mul_div_succ s h;have h2:=LA g (s/g+1);generalize s/g=q at h1 h2⊢;have h3:g+(q+1)<=2*((g+q)/2+1):=⋯
 generalize(g+q)/2+1=b at h3⊢;have h4:=dj h3 h3;have h5:2*b*(2*b)=4*(b*b):=by grind
 lia
theorem Oc(h:0<g)(k:¬(g+s/g)/2<g):g*g<=s:=by
 have:g<=s/g:=⋯
 exact(Nat.le_div_iff_mul_le h).mp this
theorem zL(a b:Nat):((a:Int)).fdiv (b:Int)=((a/b:Nat):Int):=by
 rw[YU _ ⋯];rfl
theorem y8(g s:Nat):((g:Int)+((s:Int)).fdiv (g:Int)).fdiv 2=(((g+s/g)/2:Nat):Int):=by
 rw[zL,<-Int.natCast_add];exact zL _ 2
theorem Jy{s:Nat}(h:s≠0):∃g:Nat,(1:Int)*2^((((Builtin.Int.intBits (s:Int):Nat):Int)+1).fdiv 2).toNat=(g:Int)/\0<g/\s<g*g/\(∀e:Nat,s<2^e->g<=2^e)/\(0<=(((Builtin.Int.intBits (s:Int):Nat):Int)+1).fdiv 2)/\∀e:Nat,s<2^e->(((Builtin.Int.intBits (s:Int):Nat):Int)+1).fdiv 2<=e:=by
 have hb:Builtin.Int.intBits (s:Int)=s.log2+1:=by
  unfold Builtin.Int.intBits;rw[oW (by simpa using h)];rfl
 rw[hb];have e1:((((s.log2+1:Nat):Int)+1)).fdiv 2=(((s.log2+1+1)/2:Nat):Int):=zL (s.log2+1+1) 2;rw[e1,XU];have hl:=ir (n:=s);refine⟨2^((s.log2+1+1)/2),by rw[Int.one_mul];exact(Int.natCast_pow 2 _).symm,Nat.pow_pos ∅,?_,λe he=>?_,⋯,λe he=>?_⟩
 ·rw[<-Nat.pow_add];exact WZ hl (YG ∅ ⋯)
 ·have:=(dq h).mpr he;exact YG ∅ ⋯
 ·have:=(dq h).mpr he
  lia
def N4:dG:=λas Q=>∃n:Nat,as=[.v (.int (n:Int))]/\n<2^3000/\∀r:Nat,Xj n r->Q (.v (.int (r:Int))) []
abbrev rZ(P w K mg base):=(~~~Fn) 1 "whole_root" ["square"] (aJ K N4)
abbrev nW:ki:=top 8
theorem gX:aF ["square","guess","better"] ["square"] (aC nW):=dH
theorem By(F:cK K "whole_root" "whole_root" nW f fd)(TX:Txt mg):(~~~aV) cM 1 f fd ["square"] (aJ K N4):=by
 refine F.okU gX (λhr=>(aB (bN (gQ rfl hr (fv 0) aA (a9 _)) (aE (aG aA)) a8) (aB (fS 1 gX.nd (aS HJ aA (aS eB (a7 cO (S7 (fv 0)) aA) aA))) (aB (fS 2 gX.nd (aS eB (a7 cO (fv 1) (aS eB (fv 0) (fv 1))) aA)) (aB (pS PassesOwn.never (fP iK (fv 2) (fv 1)) (aB (fS 1 gX.nd (fv 2)) (aE (fS 2 gX.nd (aS eB (a7 cO (fv 1) (aS eB (fv 0) (fv 1))) aA))))) (aE (aG (fv 1)))))))) ?_;rintro as Q ⟨n,rfl,hb,q⟩;refine⟨WS _,?_⟩;show if L2.d6 (.int (n:Int)) (.int 0)=true then _ else _
 by_cases hn:n=0
 ·subst hn;rw[oV (show L2.d6 (.int ((0:Nat):Int)) (.int 0)=true by decide)];exact⟨rfl,q 0 ⟨∅,∅⟩⟩
 ·rw[oW (by simp[L2.d6];lia)];obtain⟨g0,eg,gp,gs,gb,c0,cb⟩:=Jy hn;have big:∀g:Nat,g<=2^3000->((g:Int)).natAbs<2^8000:=λg h=>by
   rw[Int.natAbs_natCast];exact XY h (Nat.pow_lt_pow_right ∅ ∅)
  have hc2:∀i:Int,Ce i 2:=λi=>⟨∅,vU (e:=2) ∅ ∅⟩;refine⟨hc2 _,⟨c0,Int.le_trans (cb 3000 hb) ∅,∅⟩,?_⟩;have eg':(λi j:Int=>i*2^j.toNat) 1 ((((Builtin.Int.intBits (n:Int):Nat):Int)+1).fdiv 2)=(g0:Int):=eg;rw[eg'];refine⟨⟨⋯,big g0 (gb _ hb)⟩,hc2 _,?_⟩;rw[y8];refine⟨λm E=>∃g:Nat,E=[↑(n:Int),↑(g:Int),↑(((g+n/g)/2:Nat):Int)]/\m=g/\0<g/\g<=2^3000/\n<(g+1)*(g+1),⟨_,g0,rfl,rfl,gp,gb _ hb,Nat.lt_trans gs (ip (ZV _) (ZV _))⟩,?_⟩;rintro m E ⟨g,rfl,rfl,hg,hgb,hgn⟩;show if decide ((((m+n/m)/2:Nat):Int)<(m:Int))=true then _ else _
  by_cases yc:(m+n/m)/2<m
  ·rw[oY ⋯,oV rfl];have hp:0<(m+n/m)/2:=by
    obtain z|z:=ft ((m+n/m)/2)
    ·have:=zQ (s:=n) hg;rw[z]at this
     lia
    ·exact z
   refine⟨⟨⋯,big _ ⋯⟩,hc2 _,?_⟩;rw[y8];exact⟨_,yc,_,rfl,rfl,hp,⋯,zQ hg⟩
  ·rw[oX ⋯,oW ∅];exact⟨rfl,q m ⟨Oc hg yc,hgn⟩⟩
theorem Pn(r:Rat):∃f:Fr,bC f/\val f=r:=by
 refine⟨(r.num,(r.den:Int)),⟨by have:=r.den_pos;show(1:Int)<=(r.den:Int);lia,?_⟩,?_⟩
 ·show XX r.num.natAbs ((r.den:Int)).natAbs=1;rw[Int.natAbs_natCast];exact r.reduced
 ·show(r.num:Rat)/((r.den:Int):Rat)=r;rw[<-Rat.divInt_eq_div];exact Rat.num_divInt_den r
theorem Ig(hp:bC p)(hf:bC f)(h:val p=val f*val f):f.1*f.1=p.1/\f.2*f.2=p.2:=by
 have n:bC (f.1*f.1,f.2*f.2):=by
  refine⟨?_,?_⟩
  ·have h1:1*1<=f.2*f.2:=jv hf.d hf.d ∅ (by have:=hf.d;lia);exact h1
  ·show XX (f.1*f.1).natAbs (f.2*f.2).natAbs=1;rw[XZ,XZ,<-fq,<-fq];exact Nat.Coprime.pow 2 2 hf.g
 have e:(f.1*f.1,f.2*f.2)=p:=by
  refine bM n hp ?_;rw[h];have:=hf.neR;show((f.1*f.1:Int):Rat)/((f.2*f.2:Int):Rat)=_;unfold val
  push_cast
  grind
 rw[<-e];exact⟨rfl,rfl⟩
theorem Ti(hf:bC f)(h1:f.1*f.1=p.1)(h2:f.2*f.2=p.2):sz f<=sz p:=by
 have a:∀x y:Int,x*x=y->x.natAbs<=y.natAbs:=λx y h=>by
  have:=Int.natAbs_mul_self (a:=x);rw[<-h,XZ];obtain z|z:=ft x.natAbs
  ·rw[z];exact WS _
  ·exact Nat.le_mul_of_pos_left _ z
 exact lQ (XY (a _ _ h1) (eQ p)) (XY (a _ _ h2) (cG p)) (Ij p)
theorem CI{f:Int}{n:Nat}(h0:0<=f)(h:f*f=(n:Int)):Xj n f.natAbs:=by
 have h1:f.natAbs*f.natAbs=n:=by
  have:=Int.natAbs_mul_self (a:=f)
  lia
 exact⟨⋯,by rw[<-h1];exact ip (ZV _) (ZV _)⟩
def DM:dG:=λas Q=>∃p f:Fr,as=[.v (fr p)]/\bC p/\bC f/\sz p<=2900/\0<=val f/\val p=val f*val f/\Q (.v (fr f)) []
abbrev yR(P w K mg base):=(~~~Fn) 2 "root_of" ["one"] (aJ K DM)
abbrev wI:ki:=top 9
theorem oO:aF ["one","n","d","top","bottom"] ["one"] (aC wI):=dH
theorem Ot(F:cK K "root_of" "root_of" wI f fd)(TX:Txt mg)(xr: ~~~rZ):(~~~aV) cM 2 f fd ["one"] (aJ K DM):=by
 refine F.okU oO (λhr=>(aB (fF (fv 0) (dA (n:=2) rfl rfl (aP (fG 1 oO.nd) (aP (fG 2 oO.nd) cJ)))) (aB (bN (fP iK (fv 1) aA) (aE (aG Fs)) a8) (aB (gH (i:=3) (j:=4) rfl oO.nd rfl rfl ∅ rfl rfl (f2 (fK xr (f1 (fv 1))) (fK xr (f1 (fv 2)))) rfl) (aB (bN (Yv (Rx (sC rfl hr (aS bD (fv 3) (fv 3)) (fv 1) (a9 _)) (Fz (sC rfl hr (aS bD (fv 4) (fv 4)) (fv 2) (a9 _))))) (aE (aG Fs)) a8) (aE (aG (aN (f2 (fv 3) (fv 4)))))))))) ?_;rintro as Q ⟨p,f,rfl,hp,hf,hs,f0,h,q⟩;obtain⟨h1,h2⟩:=Ig hp hf h;have n0:=(dY hf).1 f0;have d0:=hf.d;have p0:0<=p.1:=by rw[<-h1];exact dh n0 n0
 have pd:=hp.d;have e1:p.1=((p.1.natAbs:Nat):Int):=⋯
 have e2:p.2=((p.2.natAbs:Nat):Int):=⋯
 have bb:∀x:Nat,x<2^sz p->x<2^3000:=λx h=>pl h ⋯;show if decide (p.1<0)=true then _ else _;rw[oX ⋯,oW ∅];refine⟨p.1.natAbs,by rw[<-e1];rfl,bb _ (eQ p),λr hr=>?_⟩;refine⟨p.2.natAbs,by rw[<-e2];rfl,bb _ (cG p),λt ht=>?_⟩;have er:r=f.1.natAbs:=hr.uniq (CI n0 (h1.trans e1));have et:t=f.2.natAbs:=ht.uniq (CI ⋯ (h2.trans e2));have r1:(r:Int)=f.1:=⋯
 have t1:(t:Int)=f.2:=⋯
 have zf:=Ti hf h1 h2;have m1:∀{i:Int},i.natAbs<2^sz f->Cf i i:=λh=>k5 (e:=3000) (pl h ⋯) (pl h ⋯) ∅;rw[r1,t1];refine⟨m1 (eQ f),WS _,?_⟩;show if(!L2.d6 (.int (f.1*f.1)) (.int p.1))=true then _ else _;rw[h1,jS,oW ∅];refine⟨m1 (cG f),WS _,?_⟩;show if(!L2.d6 (.int (f.2*f.2)) (.int p.2))=true then _ else _;rw[h2,jS,oW ∅];exact⟨rfl,q⟩
abbrev gN(P w K mg base):=(~~~Fn) 4 "minus" oH (aJ K BA)
abbrev Ht:ki:=top 12
theorem J5:aF oH oH (aC Ht):=dH
theorem B7(F:cK K "minus" "minus" Ht f fd)(TX:Txt mg)(um: ~~~jR):(~~~aV) cM 4 f fd oH (aJ K BA):=by
 refine F.okU J5 (λhr=>(aE (aG (aN (f2 (fK um (f2 (fQ 0) (fQ 1))) (fK um (f2 (fQ 0) (fQ 1)))))))) ?_;rintro as Q ⟨x,y,p,q,e,f,rfl,h,k,hs,z⟩;have:=h.sx;have:=h.sy;have:=k.sx;have:=k.sy;exact⟨_,_,rfl,h.x,k.x,⋯,_,_,rfl,h.y,k.y,⋯,rfl,z⟩
theorem iG(h:Nv x y e)(k:Nv p q f):sz (bW x y p q)<=2*(e+f)+1:=by
 have:=h.sx;have:=h.sy;have:=k.sx;have:=k.sy;have s1:=bJ h.x k.x;have s2:=bJ h.y k.y;have s6:=dX (aK h.x k.x) (aK h.y k.y);show sz (aW (aM x p) (aM y q))<=_
 lia
structure yV(x y f:Fr):Prop where
 nv:Nv x y 610
 nf:bC f
 pos:0<val f
 sq:val x*val x+val y*val y=val f*val f
theorem yV.sz(h:yV x y f):sz f<=2801:=by
 have v:=cP h.nv h.nv;rw[h.sq]at v;obtain⟨h1,h2⟩:=Ig (aY h.nv h.nv) h.nf v;have a:=Ti h.nf h1 h2;have b:=iG h.nv h.nv
 lia
theorem Kc{a:Int}{b:Int}(h:a*a=b)(k:b.natAbs<2^(2*e)):a.natAbs<2^e:=by
 rw[<-h,XZ,bj,Nat.pow_add]at k
 by_cases c:a.natAbs<2^e
 ·exact c
 ·have c:=Nat.le_of_not_lt c;have:=dj c c
  lia
theorem yV.half(h:yV x y f):My.sz f<=1221:=by
 have v:=cP h.nv h.nv;rw[h.sq]at v;obtain⟨h1,h2⟩:=Ig (aY h.nv h.nv) h.nf v;have b:=iG h.nv h.nv;exact lQ (Kc h1 (pl (eQ _) (show My.sz (bW x y x y)<=2*1221 by lia))) (Kc h2 (pl (cG _) (show My.sz (bW x y x y)<=2*1221 by lia))) ∅
theorem yV.unit(h:yV x y f):Nv (bO x f) (bO y f) 1831:=by
 have f1:f.1≠0:=by have:=(fW h.nf).1 h.pos;lia
 have s:=h.half;have:=h.nv.sx;have:=h.nv.sy;have a:=kI h.nv.x f1;have b:=kI h.nv.y f1;exact⟨eO h.nv.x f1,eO h.nv.y f1,⋯,⋯⟩
def OO:dG:=λas Q=>∃x y f:Fr,as=[.v (vc x y)]/\yV x y f/\Q (.v (fr f)) []
abbrev mW(P w K mg base):=(~~~Fn) 5 "length_of" ["vector"] (aJ K OO)
abbrev qM:ki:=top 19
theorem Hz:aF ["vector"] ["vector"] (aC qM):=dH
theorem Gy(F:cK K "length_of" "length_of" qM f fd)(TX:Txt mg)(aAD: ~~~yR)(vi: ~~~kR):(~~~aV) cM 5 f fd ["vector"] (aJ K OO):=by
 refine F.okU Hz (λhr=>(aE (aG (fK aAD (f1 (fK vi (f2 (fv 0) (fv 0)))))))) ?_;rintro as Q ⟨x,y,f,rfl,h,q⟩;have:=iG h.nv h.nv;have v:=cP h.nv h.nv;rw[h.sq]at v;exact⟨x,y,x,y,610,610,rfl,h.nv,h.nv,∅,_,f,rfl,aY h.nv h.nv,h.nf,⋯,Rat.le_of_lt h.pos,v,rfl,q⟩
def Ua:dG:=λas Q=>∃x y f:Fr,as=[.v (vc x y)]/\yV x y f/\Q (.v (vc (bO x f) (bO y f))) []
abbrev m6(P w K mg base):=(~~~Fn) 6 "unit_of" ["vector"] (aJ K Ua)
abbrev wN:ki:=top 20
theorem Av:aF ["vector","length"] ["vector"] (aC wN):=dH
theorem Pb(F:cK K "unit_of" "unit_of" wN f fd)(TX:Txt mg)(xb: ~~~mW)(vq: ~~~mY):(~~~aV) cM 6 f fd ["vector"] (aJ K Ua):=by
 refine F.okU Av (λhr=>(aB (fS 1 Av.nd (fK xb (f1 (fv 0)))) (aB (bN (Yv (Rx (FX (fv 1) (a9 _)) (Fz (gQ rfl hr (fv 1) (aN (f2 aA aA)) (a9 _))))) (aE (aG Fs)) a8) (aE (aG (aN (f2 (fK vq (f2 (fQ 0) (fv 1))) (fK vq (f2 (fQ 0) (fv 1)))))))))) ?_;rintro as Q ⟨x,y,f,rfl,h,q⟩;have f1:f.1≠0:=by have:=(fW h.nf).1 h.pos;lia
 have ne:¬f=((0:Int),(1:Int)):=λz=>f1 (by rw[z]);have s:=h.sz;have:=h.nv.sx;have:=h.nv.sy;refine⟨x,y,f,rfl,h,cY rfl,?_⟩;show if L2.d6 (fr f) (fr (0,1))=true then _ else _;rw[Jt,oX ne,oW ∅];exact⟨_,_,rfl,h.nv.x,h.nf,f1,⋯,_,_,rfl,h.nv.y,h.nf,f1,⋯,rfl,q⟩
def NY:Pc->Bool
 |.side _ _=>true
 |.arc _ _ _ _ _=>false
def Ed:dG:=λas Q=>∃x y:Fr,as=[.v (vc x y)]/\Q (.v (vc y (aR x))) []
abbrev jQ(P w K mg base):=(~~~Fn) 1 "right_of" ["vector"] (aJ K Ed)
abbrev tO:ki:=top 17
theorem qX:aF ["vector","x","y"] ["vector"] (aC tO):=dH
theorem La(F:cK K "right_of" "right_of" tO f fd)(TX:Txt mg):(~~~aV) cM 1 f fd ["vector"] (aJ K Ed):=by
 refine F.okU qX (λhr=>(aB (fF (fv 0) (dA (n:=2) rfl rfl (aP (fG 1 qX.nd) (aP (fG 2 qX.nd) cJ)))) (aE (aG (aN (f2 (fv 2) (aN (f2 (c8 (fQ 1)) (fQ 1))))))))) ?_;rintro as Q ⟨x,y,rfl,q⟩;exact⟨rfl,q⟩
def Tq:dG:=λas Q=>∃p:Pc,as=[.v (g9 p)]/\Q (.v (.bl (NY p))) []
theorem OB:L2.d6 (.str "side") (.str "side")=true:=jS _
theorem LD:L2.d6 (.str "arc") (.str "side")=false:=∅
abbrev h9(P w K mg base):=(~~~Fn) 1 "is_side" ["piece"] (aJ K Tq)
abbrev wD:ki:=top 22
theorem Qd:aF ["piece"] ["piece"] (aC wD):=dH
theorem Ol(F:cK K "is_side" "is_side" wD f fd)(TX:Txt mg):(~~~aV) cM 1 f fd ["piece"] (aJ K Tq):=by
 refine F.okU Qd (λhr=>(aE (aG (De rfl hr (fQ 0) bK (a9 _))))) ?_;rintro as Q ⟨p,rfl,q⟩;cases p with
 |side x y=>
  refine⟨WS _,rfl,?_⟩;rw[OB];exact q
 |arc m n x y l=>
  refine⟨WS _,rfl,?_⟩;rw[LD];exact q
def F0(p:Pc):L2.T:=vc p.px p.py
def L9:dG:=λas Q=>∃p:Pc,as=[.v (g9 p)]/\Q (.v (F0 p)) []
abbrev eR(P w K mg base):=(~~~Fn) 2 "end_of" ["piece"] (aJ K L9)
abbrev Ah:ki:=top 23
theorem Wv:aF ["piece"] ["piece"] (aC Ah):=dH
theorem Vy(F:cK K "end_of" "end_of" Ah f fd)(TX:Txt mg)(uf: ~~~h9):(~~~aV) cM 2 f fd ["piece"] (aJ K L9):=by
 refine F.okU Wv (λhr=>(aE (aG (mH (iB (fK uf (f1 (fv 0)))) (fQ 0) (fQ 0))))) ?_;rintro as Q ⟨p,rfl,q⟩;refine⟨p,rfl,?_⟩;cases p with
 |side x y=>exact⟨rfl,q⟩
 |arc m n x y l=>exact⟨rfl,q⟩
theorem lL{ps:List Pc}{i:Nat}(h:ps[i]?=oZ p):eZ (ps.map g9) (i:Int)=oZ (g9 p):=iO (by rw[WH,h];rfl)
theorem sQ{ps:List Pc}:∀{a:Fr}{i:Nat}{p:Pc},ps[i]?=oZ p->cQ a (ps.take (i+1))=p.px:=by
 induction ps with
 |nil=>intro a i p h;simp at h
 |cons q ps ih=>
  intro a i p h;cases i with
  |zero=>cases h;rfl
  |succ i=>exact ih (a:=q.px) (i:=i) (by simpa using h)
theorem sV{ps:List Pc}:∀{a:Fr}{i:Nat}{p:Pc},ps[i]?=oZ p->cR a (ps.take (i+1))=p.py:=by
 induction ps with
 |nil=>intro a i p h;simp at h
 |cons q ps ih=>
  intro a i p h;cases i with
  |zero=>cases h;rfl
  |succ i=>exact ih (a:=q.py) (i:=i) (by simpa using h)
def L3:dG:=λas Q=>∃(a b:Fr)(ps:List Pc)(i:Nat),as=[.v (bZ a b ps),.v (.int (i:Int))]/\i<ps.length/\Q (.v (vc (cQ a (ps.take i)) (cR b (ps.take i)))) []
abbrev iH(P w K mg base):=(~~~Fn) 3 "begin_of" oI (aJ K L3)
abbrev tE:ki:=top 24
theorem Li:aF oI oI (aC tE):=dH
theorem Kq(F:cK K "begin_of" "begin_of" tE f fd)(TX:Txt mg)(tw: ~~~eR):(~~~aV) cM 3 f fd oI (aJ K L3):=by
 refine F.okU Li (λhr=>(aE (aG (mH (gQ rfl hr (fv 1) aA (a9 _)) (fQ 0) (fK tw (f1 (fX (fQ 0) (a7 jZ (fv 1) aA)))))))) ?_;rintro as Q ⟨a,b,ps,i,rfl,hi,q⟩;refine⟨WS _,?_⟩;show if L2.d6 (.int (i:Int)) (.int 0)=true then _ else _;cases i with
 |zero=>
  rw[oV ∅];exact⟨rfl,q⟩
 |succ i=>
  rw[oW (by simp[L2.d6];lia)];have zx:i<ps.length:=⋯
  have e:((i+1:Nat):Int)-1=(i:Int):=⋯
  show o1 (eZ (ps.map g9) (((i+1:Nat):Int)-1)) _;rw[e,lL (WG zx)];refine⟨ps[i],rfl,rfl,?_⟩;have h:=WG zx;rw[sQ h,sV h]at q;exact q
theorem V3:∀{ps:List Pc},ps≠[]->∃L p,ps=L++[p]:=λ{ps}h=>⟨ps.dropLast,ps.getLast h,(ar h).symm⟩
theorem uK(L:List L2.T)(t:L2.T):eZ (L++[t]) (-1)=oZ t:=by
 have e:Sb (L++[t]).length (-1)=oZ L.length:=by
  unfold Sb;rw[oW ∅,oV (by rw[WK,WY];lia),WK,WY]
  congr 1
  lia
 unfold eZ;rw[e];show(L++[t])[L.length]?=_;simp
def Tn:dG:=λas Q=>∃(a b:Fr)(ps:List Pc),as=[.v (bZ a b ps)]/\ps≠[]/\Q (.v (.bl (decide (cQ a ps=a/\cR b ps=b)))) []
abbrev mV(P w K mg base):=(~~~Fn) 3 "is_closed" ["path"] (aJ K Tn)
abbrev qJ:ki:=top 26
theorem Hy:aF ["path"] ["path"] (aC qJ):=dH
theorem Gv(F:cK K "is_closed" "is_closed" qJ f fd)(TX:Txt mg)(tw: ~~~eR):(~~~aV) cM 3 f fd ["path"] (aJ K Tn):=by
 refine F.okU Hy (λhr=>(aE (aG (De rfl hr (fK tw (f1 (fX (fQ 0) (c8 aA)))) (fQ 0) (a9 _))))) ?_;rintro as Q ⟨a,b,ps,rfl,hn,q⟩;obtain⟨L,p,rfl⟩:=V3 hn;show o1 (eZ ((L++[p]).map g9) (-1)) _;rw[WU,show jx g9 [p]=[g9 p]from rfl,uK];refine⟨p,rfl,cY rfl,rfl,?_⟩;rw[sP,sU,<-Dd]at q;exact q
theorem iC(h:Nv x y e)(k:Nv p q f):Nv (aH x p) (aH y q) (e+f+1):=by
 have:=h.sx;have:=h.sy;have:=k.sx;have:=k.sy;have s1:=gK h.x k.x;have s2:=gK h.y k.y;exact⟨cF h.x k.x,cF h.y k.y,⋯,⋯⟩
def Ln(a b:Fr)(f:Fr):Pc->Prop
 |.side x y=>yV (aH x a) (aH y b) f
 |.arc m n x y _=>yV (aH a m) (aH b n) f/\yV (aH x m) (aH y n) f
theorem Nu{r:Rat}(h:Nv x y 300)(k:Nv p q 300)(hf:bC f)(e:val f=r)(r0:0<r)(hr:Bk x y p q=r*r):yV (aH x p) (aH y q) f:=by
 refine⟨(iC h k).up ∅,hf,by rw[e];exact r0,?_⟩;rw[aT h.x k.x,aT h.y k.y,e,<-hr];rfl
theorem MH(h:Nv a b 300)(k:sW 300 a b p):∃f,Ln a b f p:=by
 cases p with
 |side x y=>
  obtain⟨n,r,r0,hr⟩:=k;obtain⟨f,f1,f2⟩:=Pn r;exact⟨f,Nu n h f1 f2 r0 hr⟩
 |arc m n x y l=>
  obtain⟨n1,n2,_,r,r0,hr1,hr2⟩:=k;obtain⟨f,f1,f2⟩:=Pn r;exact⟨f,Nu h n1 f1 f2 r0 hr1,Nu n2 n1 f1 f2 r0 hr2⟩
theorem iP:∀{a b:Fr}{i:Nat}{p:Pc},kY e a b ps->ps[i]?=oZ p->sW e (cQ a (ps.take i)) (cR b (ps.take i)) p:=by
 induction ps with
 |nil=>intro a b i p h k;simp at k
 |cons q ps ih=>
  intro a b i p h k;cases i with
  |zero=>cases k;exact h.1
  |succ i=>exact ih (i:=i) h.2 (by simpa using k)
theorem pN:∀{ps:List Pc}{a b:Fr}(i:Nat),Nv a b e->kY e a b ps->Nv (cQ a (ps.take i)) (cR b (ps.take i)) e
 |[],_,_,i,h,_=>by rw[List.take_nil];exact h
 |_::_,_,_,0,h,_=>h
 |q::ps,_,_,i+1,h,k=>pN (ps:=ps) i (sW.nv k.1) k.2
def U4(l:Bool)(ux uy:Fr):L2.T:=if l then vc (aR uy) ux else vc uy (aR ux)
def CO:dG:=λas Q=>∃(m n x y px py f:Fr)(l:Bool),as=[.v (g9 (.arc m n x y l)),.v (vc px py)]/\Nv px py 300/\Nv m n 300/\yV (aH px m) (aH py n) f/\Q (.v (U4 l (bO (aH px m) f) (bO (aH py n) f))) []
abbrev pD(P w K mg base):=(~~~Fn) 7 "arc_heading" ["piece","point"] (aJ K CO)
abbrev lZ:ki:=top 29
theorem qU:aF ["piece","point","unit"] ["piece","point"] (aC lZ):=dH
theorem zT(F:cK K "arc_heading" "arc_heading" lZ f fd)(TX:Txt mg)(we: ~~~m6)(ud: ~~~gN)(uh: ~~~jF)(uo: ~~~jQ):(~~~aV) cM 7 f fd ["piece","point"] (aJ K CO):=by
 refine F.okU qU (λhr=>(aB (fS 2 qU.nd (fK we (f1 (fK ud (f2 (fv 1) (fQ 0)))))) (aE (aG (mH (gQ rfl hr (fQ 0) bK (a9 _)) (fK uh (f1 (fv 2))) (fK uo (f1 (fv 2)))))))) ?_;rintro as Q ⟨m,n,x,y,px,py,f,l,rfl,h,k,lg,q⟩;refine⟨px,py,m,n,300,300,rfl,h,k,∅,_,_,f,rfl,lg,WS _,?_⟩;show if L2.d6 (.str (vC l)) (.str "left")=true then _ else _;cases l with
 |true=>
  rw[oV ∅];exact⟨_,_,rfl,rfl,q⟩
 |false=>
  rw[oW ∅];exact⟨_,_,rfl,rfl,q⟩
def Za(a b f:Fr):Pc->L2.T
 |.side x y=>.tup [vc (bO (aH x a) f) (bO (aH y b) f),vc (bO (aH x a) f) (bO (aH y b) f)]
 |.arc m n x y l=>.tup [U4 l (bO (aH a m) f) (bO (aH b n) f),U4 l (bO (aH x m) f) (bO (aH y n) f)]
structure Xn(a b:Fr)(ps:List Pc)(i:Nat)(p:Pc)(f:Fr):Prop where
 at_:ps[i]?=oZ p
 nv:Nv a b 300
 ch:kY 300 a b ps
 ln:Ln (cQ a (ps.take i)) (cR b (ps.take i)) f p
theorem Yz(l:Bool)(x y:Fr):noL (U4 l x y)=true:=by cases l<;>rfl
def Ec:dG:=λas Q=>∃(a b:Fr)(ps:List Pc)(i:Nat)(p:Pc)(f:Fr),as=[.v (bZ a b ps),.v (.int (i:Int))]/\Xn a b ps i p f/\Q (.v (Za (cQ a (ps.take i)) (cR b (ps.take i)) f p)) []
abbrev jP(P w K mg base):=(~~~Fn) 8 "headings" oI (aJ K Ec)
abbrev tH:ki:=top 30
theorem lN:aF ["path","number","piece","begin","to","direction"] oI (aC tH):=dH
theorem Kt(F:cK K "headings" "headings" tH f fd)(TX:Txt mg)(ug: ~~~iH)(tw: ~~~eR)(uf: ~~~h9)(we: ~~~m6)(ud: ~~~gN)(xp: ~~~pD):(~~~aV) cM 8 f fd oI (aJ K Ec):=by
 refine F.okU lN (λhr=>(aB (fS 2 lN.nd (fX (fQ 0) (fv 1))) (aB (gH (i:=3) (j:=4) rfl lN.nd rfl rfl ∅ rfl rfl (f2 (fK ug (f2 (fv 0) (fv 1))) (fK tw (f1 (fv 2)))) rfl) (aB (bN (iB (fK uf (f1 (fv 2)))) (aB (fS 5 lN.nd (fK we (f1 (fK ud (f2 (fv 4) (fv 3)))))) (aE (aG (aN (f2 (fv 5) (fv 5)))))) a8) (aE (aG (aN (f2 (fK xp (f2 (fv 2) (fv 3))) (fK xp (f2 (fv 2) (fv 4))))))))))) ?_;rintro as Q ⟨a,b,ps,i,p,f,rfl,h,q⟩;have hi:=(WE.mp h.at_).1;have nb:=pN i h.nv h.ch;have ok:=iP h.ch h.at_;have ln:=h.ln;show o1 (eZ (ps.map g9) (i:Int)) _;rw[lL h.at_];refine⟨a,b,ps,i,rfl,hi,p,rfl,p,rfl,?_⟩;generalize cQ a (ps.take i)=bx at nb ok ln q⊢;generalize cR b (ps.take i)=by' at nb ok ln q⊢;cases p with
 |side x y=>
  exact⟨x,y,bx,by',300,300,rfl,ok.1,nb,∅,_,_,f,rfl,ln,rfl,q⟩
 |arc m n x y l=>
  refine⟨m,n,x,y,bx,by',f,l,rfl,nb,ok.1,ln.1,m,n,x,y,x,y,f,l,rfl,ok.2.1,ok.1,ln.2,?_,q⟩;show(noL (U4 l _ _)&&(noL (U4 l _ _)&&true))=true;rw[Yz,Yz];rfl
def TZ(f:Fr):Pc->L2.T
 |.side _ _=>.non
 |.arc _ _ _ _ _=>fr f
def Tw:dG:=λas Q=>∃(a b:Fr)(ps:List Pc)(i:Nat)(p:Pc)(f:Fr),as=[.v (bZ a b ps),.v (.int (i:Int))]/\Xn a b ps i p f/\Q (.v (TZ f p)) []
abbrev kE(P w K mg base):=(~~~Fn) 6 "radius_of" oI (aJ K Tw)
abbrev qP:ki:=top 27
theorem u7:aF ["path","number","piece"] oI (aC qP):=dH
theorem Hb(F:cK K "radius_of" "radius_of" qP f fd)(TX:Txt mg)(uf: ~~~h9)(xb: ~~~mW)(ud: ~~~gN)(tw: ~~~eR):(~~~aV) cM 6 f fd oI (aJ K Tw):=by
 refine F.okU u7 (λhr=>(aB (fS 2 u7.nd (fX (fQ 0) (fv 1))) (aB (bN (iB (fK uf (f1 (fv 2)))) (aE (aG Fs)) a8) (aE (aG (fK xb (f1 (fK ud (f2 (fK tw (f1 (fv 2))) (fQ 2)))))))))) ?_;rintro as Q ⟨a,b,ps,i,p,f,rfl,h,q⟩;have ok:=iP h.ch h.at_;have ln:=h.ln;show o1 (eZ (ps.map g9) (i:Int)) _;rw[lL h.at_];refine⟨p,rfl,?_⟩;cases p with
 |side x y=>exact⟨rfl,q⟩
 |arc m n x y l=>exact⟨_,rfl,x,y,m,n,300,300,rfl,ok.2.1,ok.1,∅,_,_,f,rfl,ln.2,rfl,q⟩
def P9(l:Bool)(ux uy:Fr):Fr×Fr:=if l then(aR uy,ux)else(uy,aR ux)
def hB(a b f:Fr):Pc->Fr×Fr
 |.side x y=>(bO (aH x a) f,bO (aH y b) f)
 |.arc m n _ _ l=>P9 l (bO (aH a m) f) (bO (aH b n) f)
def hE(a b f:Fr):Pc->Fr×Fr
 |.side x y=>(bO (aH x a) f,bO (aH y b) f)
 |.arc m n x y l=>P9 l (bO (aH x m) f) (bO (aH y n) f)
def aX(p:Fr×Fr):L2.T:=vc p.1 p.2
theorem BV(l:Bool)(x y:Fr):U4 l x y=aX (P9 l x y):=by cases l<;>rfl
theorem Ga(a b f:Fr)(p:Pc):Za a b f p = .tup [aX (hB a b f p),aX (hE a b f p)]:=by
 cases p with
 |side x y=>rfl
 |arc m n x y l=>show L2.T.tup [U4 l _ _,U4 l _ _]=_;rw[BV,BV];rfl
def KW(p:Fr×Fr):Prop:=Nv p.1 p.2 1831
theorem CC(h:Nv x y 1831):KW (P9 l x y):=by
 cases l with
 |true=>exact⟨d7 h.y,h.x,by show sz (aR y)<=1831;rw[qY];exact h.sy,h.sx⟩
 |false=>exact⟨h.y,d7 h.x,h.sy,by show sz (aR x)<=1831;rw[qY];exact h.sx⟩
theorem MN:∀{p:Pc},Ln a b f p->KW (hB a b f p)
 |.side x y,h=>yV.unit h
 |.arc m n x y l,h=>CC (yV.unit h.1)
theorem MO:∀{p:Pc},Ln a b f p->KW (hE a b f p)
 |.side x y,h=>yV.unit h
 |.arc m n x y l,h=>CC (yV.unit h.2)
def cH(i n:Nat):Nat:=if i=0 then n-1 else i-1
theorem Um{i n:Nat}(h:i<n):((i:Int)-1)%(n:Int)=(cH i n:Int):=by
 unfold cH
 by_cases c:i=0
 ·subst c;rw[oV rfl];have e:(((0:Nat):Int)-1)%(n:Int)=((n:Int)-1)%(n:Int):=by
   rw[show((0:Nat):Int)-1=((n:Int)-1)+(n:Int)*(-1) by lia,Int.add_mul_emod_self_left]
  rw[e,Int.emod_eq_of_lt ⋯ ⋯]
  lia
 ·rw[oW c,Int.emod_eq_of_lt ⋯ ⋯]
  lia
theorem pL(h:i<n):cH i n<n:=by unfold cH;split<;>lia
structure Nb(a b:Fr)(ps:List Pc)(i:Nat)(p q:Pc)(f g:Fr):Prop where
 one:Xn a b ps i p f
 two:Xn a b ps (cH i ps.length) q g
abbrev uE(a b:Fr)(ps:List Pc)(i:Nat)(q:Pc)(g:Fr):Fr×Fr:=hE (cQ a (ps.take (cH i ps.length))) (cR b (ps.take (cH i ps.length))) g q
abbrev uB(a b:Fr)(ps:List Pc)(i:Nat)(p:Pc)(f:Fr):Fr×Fr:=hB (cQ a (ps.take i)) (cR b (ps.take i)) f p
def Ma:dG:=λas Q=>∃(a b:Fr)(ps:List Pc)(i:Nat)(p q:Pc)(f g:Fr),as=[.v (bZ a b ps),.v (.int (i:Int))]/\Nb a b ps i p q f g/\Q (.v (.tup [aX (uE a b ps i q g),aX (uB a b ps i p f)])) []
abbrev mF(P w K mg base):=(~~~Fn) 4 "cross" oH (aJ K (DQ aU))
abbrev Ho:ki:=top 15
theorem J2:aF oH oH (aC Ho):=dH
theorem B2(F:cK K "cross" "cross" Ho f fd)(TX:Txt mg)(tf: ~~~fA)(um: ~~~jR):(~~~aV) cM 4 f fd oH (aJ K (DQ aU)):=by
 refine F.okU J2 (λhr=>(aE (aG (fK um (f2 (fK tf (f2 (fQ 0) (fQ 1))) (fK tf (f2 (fQ 0) (fQ 1)))))))) ?_;rintro as Q ⟨x,y,x',y',e,f,rfl,h,k,he,q⟩;have:=h.sx;have:=h.sy;have:=k.sx;have:=k.sy;have n1:=aK h.x k.y;have n2:=aK h.y k.x;have s1:=bJ h.x k.y;have s2:=bJ h.y k.x;exact⟨_,_,rfl,h.x,k.y,⋯,_,_,rfl,h.y,k.x,⋯,_,_,rfl,n1,n2,⋯,rfl,q⟩
abbrev hX(P w K mg base):=(~~~Fn) 9 "corner_headings" oI (aJ K Ma)
abbrev iZ:ki:=top 31
theorem lA:aF ["path","number","ahead"] oI (aC iZ):=dH
theorem sX(F:cK K "corner_headings" "corner_headings" iZ f fd)(TX:Txt mg)(ur: ~~~jP):(~~~aV) cM 9 f fd oI (aJ K Ma):=by
 refine F.okU lA (λhr=>(aB (fS 2 lA.nd (aS iD (a7 jZ (fv 1) aA) (fE rfl rfl TX.n_len (f1 (fQ 0))))) (aE (aG (aN (f2 (fX (fK ur (f2 (fv 0) (fv 2))) aA) (fX (fK ur (f2 (fv 0) (fv 1))) aA))))))) ?_;rintro as Q ⟨a,b,ps,i,p,q,f,g,rfl,h,hq⟩;have hi:=(WE.mp h.one.at_).1;have e:=Um hi;have em:(((ps.map g9).length:Nat):Int)=(ps.length:Int):=by rw[WJ]
 refine⟨by show(0:Int)<(((ps.map g9).length:Nat):Int);lia,?_⟩;refine⟨a,b,ps,cH i ps.length,q,g,?_,h.two,?_⟩
 ·show[A.v (bZ a b ps),A.v (.int (((i:Int)-1)%(((ps.map g9).length:Nat):Int)))]=_;rw[em,e]
 rw[Ga];refine⟨a,b,ps,i,p,f,rfl,h.one,?_⟩;rw[Ga];exact⟨rfl,hq⟩
def b9(u w:Fr×Fr):Str:=if u=w then "straight" else if 0<(aU u.1 u.2 w.1 w.2).1 then "left" else if(aU u.1 u.2 w.1 w.2).1<0 then "right" else "back"
def N6:dG:=λas Q=>∃(a b:Fr)(ps:List Pc)(i:Nat)(p q:Pc)(f g:Fr),as=[.v (bZ a b ps),.v (.int (i:Int))]/\Nb a b ps i p q f g/\Q (.v (.str (b9 (uE a b ps i q g) (uB a b ps i p f)))) []
theorem EV(u w:Fr×Fr):L2.d6 (aX u) (aX w)=decide (u=w):=by
 show L2.d6 (vc u.1 u.2) (vc w.1 w.2)=_;rw[Dd];simp[Prod.ext_iff]
abbrev pE(P w K mg base):=(~~~Fn) 10 "corner_word" oI (aJ K N6)
abbrev l8:ki:=top 32
theorem i6:aF ["path","number","bend","u","w"] oI (aC l8):=dH
theorem zV(F:cK K "corner_word" "corner_word" l8 f fd)(TX:Txt mg)(vh: ~~~hX)(vj: ~~~mF):(~~~aV) cM 10 f fd oI (aJ K N6):=by
 refine F.okU i6 (λhr=>(aB (fF (fK vh (f2 (fv 0) (fv 1))) (dA (n:=2) rfl rfl (aP (fG 3 i6.nd) (aP (fG 4 i6.nd) cJ)))) (aB (bN (gQ rfl hr (fv 3) (fv 4) (a9 _)) (aE (aG bK)) a8) (aB (fS 2 i6.nd (fX (fK vj (f2 (fv 3) (fv 4))) aA)) (aB (bN (fP qD (fv 2) aA) (aE (aG bK)) a8) (aE (aG (mH (fP iK (fv 2) aA) bK bK)))))))) ?_;rintro as Q ⟨a,b,ps,i,p,q,f,g,rfl,h,hq⟩;refine⟨a,b,ps,i,p,q,f,g,rfl,h,?_⟩;have nu:KW (uE a b ps i q g):=MO h.two.ln;have nw:KW (uB a b ps i p f):=MN h.one.ln;generalize uE a b ps i q g=u at nu hq⊢;generalize uB a b ps i p f=w at nw hq⊢;refine⟨cY rfl,?_⟩;show if L2.d6 (aX u) (aX w)=true then _ else _;rw[EV];unfold b9 at hq
 by_cases c:u=w
 ·rw[oY c,oV rfl];rw[oV c]at hq;exact⟨rfl,hq⟩
 ·rw[oX c,oW ∅];rw[oW c]at hq;refine⟨u.1,u.2,w.1,w.2,1831,1831,rfl,nu,nw,∅,?_⟩;generalize(aU u.1 u.2 w.1 w.2)=z at hq⊢;show if decide (z.1>0)=true then _ else _
  by_cases c1:0<z.1
  ·rw[oY c1,oV rfl];rw[oV c1]at hq;exact⟨rfl,hq⟩
  ·rw[oX c1,oW ∅];rw[oW c1]at hq;show if decide (z.1<0)=true then _ else _
   by_cases c2:z.1<0
   ·rw[oY c2,oV rfl];rw[oV c2]at hq;exact⟨rfl,hq⟩
   ·rw[oX c2,oW ∅];rw[oW c2]at hq;exact⟨rfl,hq⟩
noncomputable def Yi (a b:Fr) (p:Pc):Fr:=@Classical.epsilon Fr ⟨(0,1)⟩ λf=>Ln a b f p
theorem Rn(h:Nv a b 300)(k:sW 300 a b p):Ln a b (Yi a b p) p:=@Classical.epsilon_spec_aux Fr ⟨(0,1)⟩ (λf=>Ln a b f p) (MH h k)
noncomputable def uW (a b:Fr) (ps:List Pc) (i:Nat) (p q:Pc):Str:=
 b9 (uE a b ps i q (Yi (cQ a (ps.take (cH i ps.length))) (cR b (ps.take (cH i ps.length))) q)) (uB a b ps i p (Yi (cQ a (ps.take i)) (cR b (ps.take i)) p))
noncomputable def cw (a b:Fr) (ps:List Pc) (i:Nat):Str:=((ps[i]?).bind λp=>(ps[cH i ps.length]?).map λq=>uW a b ps i p q).getD ""
theorem CB(nv:Nv a b 300)(ch:kY 300 a b ps)(hi:i<ps.length):∃p q f g,Nb a b ps i p q f g/\b9 (uE a b ps i q g) (uB a b ps i p f)=cw a b ps i:=by
 have h1:=WG hi;have h2:=WG (pL hi);refine⟨_,_,_,_,⟨⟨h1,nv,ch,Rn (pN i nv ch) (iP ch h1)⟩,⟨h2,nv,ch,Rn (pN _ nv ch) (iP ch h2)⟩⟩,?_⟩;unfold cw;rw[h1,h2];rfl
noncomputable def UK (a b:Fr) (ps:List Pc) (i:Nat):L2.T:=.tup [.int (i:Int),.str (cw a b ps i)]
noncomputable def P8 (a b:Fr) (ps:List Pc) (k m:Nat):List L2.T:=(XH m).map λj=>UK a b ps (k+j)
theorem Jp(a b:Fr)(ps:List Pc)(k m:Nat):P8 a b ps k (m+1)=P8 a b ps k m++[UK a b ps (k+m)]:=by
 unfold P8;rw[YX,WU];rfl
theorem R3(a b:Fr)(ps:List Pc)(k m:Nat):(P8 a b ps k m).length=m:=by unfold P8;simp
theorem Kj:∀(xs:List L2.T)(t:L2.T),bX xs=true->noL t=true->bX (xs++[t])=true
 |[],t,_,h=>by show(noL t&&true)=true;rw[h];rfl
 |x::xs,t,h1,h=>by
  have h1:(noL x&&bX xs)=true:=h1;rw[XS]at h1;show(noL x&&bX (xs++[t]))=true;rw[h1.1,Kj xs t h1.2 h];rfl
theorem pZ(a b:Fr)(ps:List Pc)(k:Nat):∀m,bX (P8 a b ps k m)=true
 |0=>rfl
 |m+1=>by rw[Jp];exact Kj _ _ (pZ a b ps k m) rfl
def Na(a b:Fr)(ps:List Pc):Bool:=decide (cQ a ps=a/\cR b ps=b)
def fst(a b:Fr)(ps:List Pc):Nat:=if Na a b ps=true then 0 else 1
theorem FU(a b:Fr)(ps:List Pc):fst a b ps<=1:=by unfold fst;split<;>lia
def Mb:dG:=λas Q=>∃(a b:Fr)(ps:List Pc),as=[.v (bZ a b ps)]/\Nv a b 300/\ps≠[]/\ps.length<=12/\kY 300 a b ps/\Q (.l (P8 a b ps (fst a b ps) (ps.length-fst a b ps))) []
theorem uN{Q:En->Prop}(nv:Nv a b 300)(hl:ps.length<=12)(ch:kY 300 a b ps)(hk:k<=ps.length)(hQ:∀v0,Q [v0,⇑(bZ a b ps),↥(P8 a b ps k (ps.length-k))]):
  lK (sD 0) (LX (kA (Vi 0) (kA (Ju N6 (kA (Vi 1) (kA (Vi 0) Mp))) Mp))) (iY (k:Int) (ps.length-k)) [none,⇑(bZ a b ps),↥[]] Q:=by
 refine cX (λi E=>∃v0,E=[v0,⇑(bZ a b ps),↥(P8 a b ps k i)]) ⟨none,rfl⟩ ?_ ?_
 ·rintro i t rest E hi ⟨v0,rfl⟩ KK;obtain⟨hin,rfl⟩:=nG hi;obtain⟨p,q,f,g,nb,e⟩:=CB nv ch (show k+i<ps.length by lia);have ek:(k:Int)+(i:Int)=((k+i:Nat):Int):=⋯
  rw[ek];refine⟨a,b,ps,k+i,p,q,f,g,rfl,nb,?_⟩;rw[e];refine⟨by show(P8 a b ps k i).length<9000;rw[R3];lia,KK _ ⟨↑((k+i:Nat):Int),?_⟩⟩;rw[Jp];rfl
 ·rintro E ⟨v0,rfl⟩;rw[Lg];exact hQ v0
abbrev yL(P w K mg base):=(~~~Fn) 11 "corners" ["path"] (aJ K Mb)
abbrev vY:ki:=top 33
theorem Ar:aF ["path","first"] ["path"] (aC vY):=dH
theorem Of(F:cK K "corners" "corners" vY f fd)(TX:Txt mg)(xc: ~~~mV)(yd: ~~~pE):(~~~aV) cM 11 f fd ["path"] (aJ K Mb):=by
 refine F.okU Ar (λhr=>(aB (fS 1 Ar.nd (mH (iB (fK xc (f1 (fv 0)))) aA aA)) (aE (aG (iR (N':=["number","path"]) (t:=1) (cap:=[(0,false)]) rfl (bV.of rfl) rfl ∅ (Df rfl TX.n_range (f2 (fv 1) (fE rfl rfl TX.n_len (f1 (fQ 0))))) (λ_ _ _ _=>(fH 0)) (λ_ _ _ _=>(aN (f2 (fv 0) (fK yd (f2 (fv 1) (fv 0))))))))))) ?_;rintro as Q ⟨a,b,ps,rfl,nv,hn,hl,ch,q⟩;refine⟨a,b,ps,rfl,hn,?_⟩;have hp:0<ps.length:=ZG.mpr hn;have em:(((ps.map g9).length:Nat):Int)=(ps.length:Int):=by rw[WJ]
 have ed:decide (cQ a ps=a/\cR b ps=b)=Na a b ps:=rfl;show if decide (cQ a ps=a/\cR b ps=b)=true then _ else _;rw[ed];unfold fst at q
 by_cases c:Na a b ps=true
 ·rw[oV c];rw[oV c]at q;refine⟨⟨∅,∅,by show -(2^62:Int)<=(((ps.map g9).length:Nat):Int);lia,by show(((ps.map g9).length:Nat):Int)<2^62;lia⟩,rfl,?_⟩;show lK _ _ (iY 0 ((((ps.map g9).length:Nat):Int)-0).toNat) _ _;rw[em,show((ps.length:Int)-0).toNat=ps.length-0 by lia];refine uN (k:=0) nv hl ch ⋯ λv0=>⟨pZ a b ps 0 _,?_⟩;exact⟨pZ a b ps 0 _,q⟩
 ·rw[oW c];rw[oW c]at q;refine⟨⟨∅,∅,by show -(2^62:Int)<=(((ps.map g9).length:Nat):Int);lia,by show(((ps.map g9).length:Nat):Int)<2^62;lia⟩,rfl,?_⟩;show lK _ _ (iY 1 ((((ps.map g9).length:Nat):Int)-1).toNat) _ _;rw[em,show((ps.length:Int)-1).toNat=ps.length-1 by lia];refine uN (k:=1) nv hl ch ⋯ λv0=>⟨pZ a b ps 1 _,?_⟩;exact⟨pZ a b ps 1 _,q⟩
def O0(x y c s:Fr):Fr:=aH (aM x c) (aM y s)
def N9(x y c s:Fr):Fr:=aW (aM x s) (aM y c)
def Tz:dG:=λas Q=>∃(x y c s:Fr)(e f:Nat),as=[.v (vc x y),.v (vc c s)]/\Nv x y e/\Nv c s f/\e+f<=3900/\Q (.v (vc (O0 x y c s) (N9 x y c s))) []
abbrev Co(P w K mg base):=(~~~Fn) 4 "turned" ["unit","by"] (aJ K Tz)
abbrev Aq:ki:=top 36
theorem mO:aF ["unit","by","x","y","c","s"] ["unit","by"] (aC Aq):=dH
theorem Wg(F:cK K "turned" "turned" Aq f fd)(TX:Txt mg)(tf: ~~~fA)(um: ~~~jR)(tu: ~~~eJ):(~~~aV) cM 4 f fd ["unit","by"] (aJ K Tz):=by
 refine F.okU mO (λhr=>(aB (fF (fv 0) (dA (n:=2) rfl rfl (aP (fG 2 mO.nd) (aP (fG 3 mO.nd) cJ)))) (aB (fF (fv 1) (dA (n:=2) rfl rfl (aP (fG 4 mO.nd) (aP (fG 5 mO.nd) cJ)))) (aE (aG (aN (f2 (fK um (f2 (fK tf (f2 (fv 2) (fv 4))) (fK tf (f2 (fv 3) (fv 5))))) (fK tu (f2 (fK tf (f2 (fv 2) (fv 5))) (fK tf (f2 (fv 3) (fv 4)))))))))))) ?_;rintro as Q ⟨x,y,c,s,e,f,rfl,h,k,he,q⟩;have:=h.sx;have:=h.sy;have:=k.sx;have:=k.sy;have n1:=aK h.x k.x;have n2:=aK h.y k.y;have n3:=aK h.x k.y;have n4:=aK h.y k.x;have s1:=bJ h.x k.x;have s2:=bJ h.y k.y;have s3:=bJ h.x k.y;have s4:=bJ h.y k.x;exact⟨_,_,rfl,h.x,k.x,⋯,_,_,rfl,h.y,k.y,⋯,_,_,rfl,n1,n2,⋯,_,_,rfl,h.x,k.y,⋯,_,_,rfl,h.y,k.x,⋯,_,_,rfl,n3,n4,⋯,rfl,q⟩
theorem i9(h:Nv x y e)(k:Nv c s f):val (O0 x y c s)=val x*val c-val y*val s:=by
 unfold O0;rw[aT (aK h.x k.x) (aK h.y k.y),aQ h.x k.x,aQ h.y k.y]
theorem i8(h:Nv x y e)(k:Nv c s f):val (N9 x y c s)=val x*val s+val y*val c:=by
 unfold N9;rw[bE (aK h.x k.y) (aK h.y k.x),aQ h.x k.y,aQ h.y k.x]
theorem Nv.tr{x y c s:Fr}{e f:Nat}(h:Nv x y e)(k:Nv c s f):Nv (O0 x y c s) (N9 x y c s) (2*(e+f)+1):=by
 have:=h.sx;have:=h.sy;have:=k.sx;have:=k.sy;have n1:=aK h.x k.x;have n2:=aK h.y k.y;have n3:=aK h.x k.y;have n4:=aK h.y k.x;have s1:=bJ h.x k.x;have s2:=bJ h.y k.y;have s3:=bJ h.x k.y;have s4:=bJ h.y k.x;have s5:=gK n1 n2;have s6:=dX n3 n4;exact⟨cF n1 n2,cE n3 n4,by show sz (aH _ _)<=_;lia,by show sz (aW _ _)<=_;lia⟩
theorem V9:Nv (1,1) (0,1) 10:=⟨aI 1,aI 0,∅,∅⟩
theorem V8:Nv (0,1) (1,1) 10:=⟨aI 0,aI 1,∅,∅⟩
def cT(t:Fr):Fr:=jY (t.2*t.2-t.1*t.1) (t.2*t.2+t.1*t.1)
def sT(t:Fr):Fr:=jY (2*t.2*t.1) (t.2*t.2+t.1*t.1)
theorem r8(h:bC t):t.2*t.2+t.1*t.1≠0:=by
 have h1:1*1<=t.2*t.2:=jv h.d h.d ∅ (by have:=h.d;lia);have h2:0<=t.1*t.1:=by
   obtain c|c:=Int.le_total 0 t.1
   ·exact dh c c
   ·exact Int.mul_nonneg_of_nonpos_of_nonpos c c
 lia
theorem Jq(t:Fr):(t.2*t.2+t.1*t.1).natAbs<2^(2*sz t+1):=rC (by rw[bj];exact bR (cG t) (cG t)) (by rw[bj];exact bR (eQ t) (eQ t))
theorem Dr(h:bC t):Nv (cT t) (sT t) (2*sz t+1):=by
 have hb:=Jq t;refine⟨iW (r8 h),iW (r8 h),oR (r8 h) (Ih (by rw[bj];exact bR (cG t) (cG t)) (by rw[bj];exact bR (eQ t) (eQ t))) hb ⋯,oR (r8 h) ?_ hb ⋯⟩;have e:2*t.2*t.1=t.2*t.1+t.2*t.1:=by grind
 rw[e];exact rC (by rw[bj];exact bR (cG t) (eQ t)) (by rw[bj];exact bR (cG t) (eQ t))
theorem u9(r:Rat):1+r*r≠0:=by
 have:0<=r*r:=by
   rcases Rat.le_total (a:=0) (b:=r)with c|c
   ·exact Rat.mul_nonneg c c
   ·have h:=Rat.mul_nonneg (a:=-r) (b:=-r) (by grind) (by grind);grind
 grind
theorem tS(h:bC t):val (cT t)=(1-val t*val t)/(1+val t*val t):=by
 have h1:=h.neR;have h2:=u9 (val t);have h3:((t.2*t.2+t.1*t.1:Int):Rat)≠0:=by exact_mod_cast r8 h
 unfold cT;rw[hJ (r8 h)];unfold val at h2⊢
 push_cast at h3⊢
 grind
theorem tV(h:bC t):val (sT t)=(2*val t)/(1+val t*val t):=by
 have h1:=h.neR;have h2:=u9 (val t);have h3:((t.2*t.2+t.1*t.1:Int):Rat)≠0:=by exact_mod_cast r8 h
 unfold sT;rw[hJ (r8 h)];unfold val at h2⊢
 push_cast at h3⊢
 grind
def Tx:dG:=λas Q=>∃t:Fr,as=[.v (fr t)]/\bC t/\sz t<=1000/\Q (.v (vc (cT t) (sT t))) []
abbrev yU(P w K mg base):=(~~~Fn) 3 "turn_of" ["tangent"] (aJ K Tx)
abbrev wM:ki:=top 37
theorem oQ:aF ["tangent","both","n","d"] ["tangent"] (aC wM):=dH
theorem Pa(F:cK K "turn_of" "turn_of" wM f fd)(TX:Txt mg)(tx: ~~~e7):(~~~aV) cM 3 f fd ["tangent"] (aJ K Tx):=by
 refine F.okU oQ (λhr=>(aB (fF (fv 0) (dA (n:=2) rfl rfl (aP (fG 2 oQ.nd) (aP (fG 3 oQ.nd) cJ)))) (aB (fS 1 oQ.nd (a7 cO (aS bD (fv 3) (fv 3)) (aS bD (fv 2) (fv 2)))) (aE (aG (aN (f2 (fK tx (f2 (a7 jZ (aS bD (fv 3) (fv 3)) (aS bD (fv 2) (fv 2))) (fv 1))) (fK tx (f2 (aS bD (aS bD aA (fv 3)) (fv 2)) (fv 1)))))))))) ?_;rintro as Q ⟨t,rfl,ht,hs,q⟩;have m1:∀i j:Int,i.natAbs<2^1002->j.natAbs<2^1002->Cf i j:=λi j h1 h2=>k5 h1 h2 ∅;have d1:t.2.natAbs<2^1002:=pl (cG t) ⋯;have n1:t.1.natAbs<2^1002:=pl (eQ t) ⋯;have hb:=vU (Jq t) ⋯;refine⟨m1 _ _ d1 d1,m1 _ _ n1 n1,m1 _ _ d1 d1,m1 _ _ n1 n1,_,_,rfl,r8 ht,hb,Ny ∅,k5 (e:=1004) (pl (bR (show(2:Int).natAbs<2^2 by decide) d1) ∅) (pl n1 ∅) ∅,_,_,rfl,r8 ht,hb,rfl,q⟩
def xN(x y t:Fr):L2.T:=vc (O0 x y (cT t) (sT t)) (N9 x y (cT t) (sT t))
def GQ(s:Int):List Int:=if s=1 then[1]else if s=2 then[1,2]else[1,2,3]
def yA(x y t:Fr)(s:Int):List L2.T:=(GQ s).map λk=>xN x y (aM t (jY k s))
theorem Lw{k s:Int}(hk:k.natAbs<=3)(hs:1<=s/\s<=3):bC (jY k s)/\sz (jY k s)<=2:=⟨iW ⋯,oR ⋯ (XY hk ∅) (XY (show s.natAbs<=3 by lia) ∅) ∅⟩
def Md:dG:=λas Q=>∃(x y t:Fr)(s:Int)(e f:Nat),as=[.v (vc x y),.v (fr t),.v (.int s)]/\Nv x y e/\bC t/\sz t<=f/\e+2*f<=1400/\(s=1\/s=2\/s=3)/\Q (.l (yA x y t s)) []
abbrev yT(P w K mg base):=(~~~Fn) 5 "stepped" ["unit","tangent","steps"] (aJ K Md)
abbrev wK:ki:=top 38
theorem Au:aF ["unit","tangent","steps","turns"] ["unit","tangent","steps"] (aC wK):=dH
theorem Oy(F:cK K "stepped" "stepped" wK f fd)(TX:Txt mg)(aAE: ~~~yU)(tf: ~~~fA)(tx: ~~~e7)(aAT: ~~~Co):(~~~aV) cM 5 f fd ["unit","tangent","steps"] (aJ K Md):=by
 refine F.okU Au (λhr=>(aB (yD (i:=3) (N':=["k","tangent","steps"]) (t:=1) (cap:=[(1,false),(2,false)]) Au.nd rfl (YD rfl) rfl rfl (bV.of rfl) rfl ∅ (Df rfl TX.n_range (f2 aA (a7 cO (fv 2) aA))) (λ_ _ _ _=>(fH 0)) (λ_ _ _ _=>(fK aAE (f1 (fK tf (f2 (fv 1) (fK tx (f2 (fv 0) (fv 2))))))))) (aE (aG (iR (N':=["by","unit"]) (t:=1) (cap:=[(0,false)]) rfl (bV.of rfl) rfl ∅ (eF rfl (fv 3)) (λ_ _ _ _=>(fH 0)) (λ_ _ _ _=>(fK aAT (f2 (fv 1) (fv 0))))))))) ?_;rintro as Q ⟨x,y,t,s,e,f,rfl,hv,ht,hf,he,hs,q⟩;have s8:∀{s:Int},s.natAbs<=3->s.natAbs<2^8000:=λh=>vU (e:=2) (XY h ∅) ∅;have st:∀{k s:Int},k.natAbs<=3->1<=s/\s<=3->bC (aM t (jY k s))/\sz (aM t (jY k s))<=f+2:=λh1 h2=>by
  obtain⟨n1,n2⟩:=Lw h1 h2;have:=bJ ht n1;exact⟨aK ht n1,⋯⟩
 have tn:∀{k s:Int},k.natAbs<=3->1<=s/\s<=3->Nv (cT (aM t (jY k s))) (sT (aM t (jY k s))) (2*f+5):=λh1 h2=>by
  obtain⟨n1,n2⟩:=st h1 h2;exact(Dr n1).up ⋯
 have rr:∀{s:Int},1<=s/\s<=3->(-(2^62)<=(1:Int)/\(1:Int)<2^62/\-(2^62)<=s+1/\s+1<2^62):=λh=>⋯
 have lk:∀{k s:Int},k.natAbs<=3->1<=s/\s<=3->bC (jY k s)/\sz t+sz (jY k s)<=7900/\s≠0/\s.natAbs<2^8000/\bC (aM t (jY k s))/\sz (aM t (jY k s))<=1000:=λh1 h2=>by
  obtain⟨n1,n2⟩:=Lw h1 h2;obtain⟨m1,m2⟩:=st h1 h2;exact⟨n1,⋯,⋯,s8 ⋯,m1,⋯⟩
 obtain rfl|rfl|rfl:=hs
 ·obtain⟨a1,a2,a3,a4,a5,a6⟩:=lk (k:=1) (s:=1) ∅ ∅;have m:∀k:Int,k.natAbs<=3->Nv (cT (aM t (jY k 1))) (sT (aM t (jY k 1))) (2*f+5):=λk h=>tn h ∅;refine⟨∅,rfl,_,_,rfl,a3,a4,t,_,rfl,ht,a1,a2,_,rfl,a5,a6,cY rfl,rfl,rfl,x,y,_,_,e,_,rfl,hv,m _ ∅,⋯,cY rfl,rfl,?_⟩;exact⟨rfl,q⟩
 ·obtain⟨a1,a2,a3,a4,a5,a6⟩:=lk (k:=1) (s:=2) ∅ ∅;obtain⟨b1,b2,b3,b4,b5,b6⟩:=lk (k:=2) (s:=2) ∅ ∅;have m:∀k:Int,k.natAbs<=3->Nv (cT (aM t (jY k 2))) (sT (aM t (jY k 2))) (2*f+5):=λk h=>tn h ∅;refine⟨∅,rfl,_,_,rfl,a3,a4,t,_,rfl,ht,a1,a2,_,rfl,a5,a6,cY rfl,_,_,rfl,a3,a4,t,_,rfl,ht,b1,b2,_,rfl,b5,b6,cY rfl,rfl,rfl,x,y,_,_,e,_,rfl,hv,m _ ∅,⋯,cY rfl,x,y,_,_,e,_,rfl,hv,m _ ∅,⋯,cY rfl,rfl,?_⟩;exact⟨rfl,q⟩
 ·obtain⟨a1,a2,a3,a4,a5,a6⟩:=lk (k:=1) (s:=3) ∅ ∅;obtain⟨b1,b2,b3,b4,b5,b6⟩:=lk (k:=2) (s:=3) ∅ ∅;obtain⟨c1,c2,c3,c4,c5,c6⟩:=lk (k:=3) (s:=3) ∅ ∅;have m:∀k:Int,k.natAbs<=3->Nv (cT (aM t (jY k 3))) (sT (aM t (jY k 3))) (2*f+5):=λk h=>tn h ∅;refine⟨∅,rfl,_,_,rfl,a3,a4,t,_,rfl,ht,a1,a2,_,rfl,a5,a6,cY rfl,_,_,rfl,a3,a4,t,_,rfl,ht,b1,b2,_,rfl,b5,b6,cY rfl,_,_,rfl,a3,a4,t,_,rfl,ht,c1,c2,_,rfl,c5,c6,cY rfl,rfl,rfl,x,y,_,_,e,_,rfl,hv,m _ ∅,⋯,cY rfl,x,y,_,_,e,_,rfl,hv,m _ ∅,⋯,cY rfl,x,y,_,_,e,_,rfl,hv,m _ ∅,⋯,cY rfl,rfl,?_⟩;exact⟨rfl,q⟩
def hq(x y p q:Fr):Prop:=(bW x y p q).1<=0\/(aU x y p q).1<0
def xM(p q:Fr):Nat->Fr->Fr->Prop
 |0,x,y=>¬hq x y p q
 |n+1,x,y=>hq x y p q/\xM p q n (aR y) x
theorem Gd(h:Nv x y e)(k:Nv p q f):hq x y p q↔(val x*val p+val y*val q<=0\/val x*val q-val y*val p<0):=by
 unfold hq;rw[<-tT (aY h k),<-tU (cC h k),cP h k,cV h k]
theorem vW(h:cD x y e)(k:cD p q f):∃m,m<=3/\xM p q m x y:=by
 have i0:=Gd h.nv k.nv;have i1:=Gd h.left.nv k.nv;have i2:=Gd h.left.left.nv k.nv;have i3:=Gd h.left.left.left.nv k.nv;rw[b7 h.nv.y]at i1;rw[b7 h.nv.y,b7 h.nv.x]at i2;rw[b7 (d7 h.nv.y),b7 h.nv.y,b7 h.nv.x]at i3;have one:(val x*val p+val y*val q)*(val x*val p+val y*val q)+(val x*val q-val y*val p)*(val x*val q-val y*val p)=1:=by
  have:=h.one;have:=k.one;grind
 generalize hD:val x*val p+val y*val q=D at *;generalize hC:val x*val q-val y*val p=C at *;have j1:hq (aR y) x p q↔(C<=0\/0<D):=by rw[i1];grind
 have j2:hq (aR x) (aR y) p q↔(0<=D\/0<C):=by rw[i2];grind
 have j3:hq (aR (aR y)) (aR x) p q↔(0<=C\/D<0):=by rw[i3];grind
 by_cases c0:hq x y p q
 ·by_cases c1:hq (aR y) x p q
  ·by_cases c2:hq (aR x) (aR y) p q
   ·refine⟨3,∅,c0,c1,c2,?_⟩;show ¬hq (aR (aR y)) (aR x) p q;rw[j3];rw[i0]at c0;rw[j1]at c1;rw[j2]at c2;have nz:D=0->C=0->False:=λa b=>by rw[a,b]at one;grind
    clear i0 i1 i2 i3 j1 j2 j3 one hD hC h k;grind
   ·exact⟨2,∅,c0,c1,c2⟩
  ·exact⟨1,∅,c0,c1⟩
 ·exact⟨0,∅,c0⟩
def pC(x y p q:Fr):Fr:=bO (aU x y p q) (aW (1,1) (bW x y p q))
def jE(p q:Fr)(s:Int)(x y:Fr):List L2.T:=if x=p/\y=q then[]else yA x y (pC x y p q) s
def qb(p q:Fr)(s:Int):Nat->Fr->Fr->List L2.T
 |0,x,y=>jE p q s x y
 |n+1,x,y=>yA x y (1,1) s++qb p q s n (aR y) x
theorem x8(h:Nv x y e):xN x y (1,1)=vc (aR y) x:=by
 have e1:cT (1,1)=(0,1):=∅
 have e2:sT (1,1)=(1,1):=∅
 unfold xN;rw[e1,e2];have e8:O0 x y (0,1) (1,1)=aR y:=bM (h.tr V8).x (d7 h.y) (by rw[i9 h V8,fT,lU,b7 h.y];grind);have e9:N9 x y (0,1) (1,1)=x:=bM (h.tr V8).y h.x (by rw[i8 h V8,fT,lU];grind);rw[e8,e9]
theorem Yg(x y:Fr){s:Int}(ht:bC t)(hs:s=1\/s=2\/s=3):∃L,yA x y t s=L++[xN x y t]/\L.length<=2:=by
 have e:∀{s:Int},s≠0->aM t (jY s s)=t:=λ{s}h=>bM (aK ht (iW h)) ht (by
  rw[aQ ht (iW h),hJ h];have:(s:Rat)≠0:=by exact_mod_cast h
  grind)
 obtain rfl|rfl|rfl:=hs
 ·exact⟨[],by show[xN x y (aM t (jY 1 1))]=_;rw[e ∅];rfl,∅⟩
 ·exact⟨[xN x y (aM t (jY 1 2))],by show[_,xN x y (aM t (jY 2 2))]=_;rw[e ∅];rfl,by simp⟩
 ·exact⟨[xN x y (aM t (jY 1 3)),xN x y (aM t (jY 2 3))],by show[_,_,xN x y (aM t (jY 3 3))]=_;rw[e ∅];rfl,by simp⟩
def UY:dG:=λas Q=>∃(x y p q:Fr)(e f:Nat),as=[.v (vc x y),.v (vc p q)]/\Nv x y e/\Nv p q f/\e+f<=3900/\(∀b,(b=true↔hq x y p q)->Q (.v (.bl b)) [])
abbrev pF(P w K mg base):=(~~~Fn) 5 "has_quarter" oH (aJ K UY)
abbrev l9:ki:=top 39
theorem As:aF oH oH (aC l9):=dH
theorem zW(F:cK K "has_quarter" "has_quarter" l9 f fd)(TX:Txt mg)(vi: ~~~kR)(vj: ~~~mF):(~~~aV) cM 5 f fd oH (aJ K UY):=by
 refine F.okU As (λhr=>(aE (aG (Yo (sA C4 (fX (fK vi (f2 (fv 0) (fv 1))) aA) aA (a9 _)) (zM (sA iK (fX (fK vj (f2 (fv 0) (fv 1))) aA) aA (a9 _))))))) ?_;rintro as Q ⟨x,y,p,q,e,f,rfl,h,k,he,z⟩;refine⟨x,y,p,q,e,f,rfl,h,k,he,?_⟩;show if decide ((bW x y p q).1<=0)=true then _ else _
 by_cases c:(bW x y p q).1<=0
 ·rw[oY c,oV rfl];exact⟨rfl,z true ⟨λ_=>.inl c,λ_=>rfl⟩⟩
 ·rw[oX c,oW ∅];refine⟨x,y,p,q,e,f,rfl,h,k,he,rfl,z _ ?_⟩;show decide ((aU x y p q).1<0)=true↔_;rw[decide_eq_true_iff];exact⟨λr=>.inr r,λr=>r.resolve_left c⟩
theorem Dq:∀(xs ys:List L2.T),bX (xs++ys)=(bX xs&&bX ys)
 |[],ys=>rfl
 |x::xs,ys=>by
  show(noL x&&bX (xs++ys))=_;rw[Dq xs ys,<-Bool.and_assoc];rfl
theorem Kk{s:Int}(x y t:Fr)(hs:s=1\/s=2\/s=3):bX (yA x y t s)=true:=by rcases hs with rfl|rfl|rfl<;>rfl
theorem Sm{s:Int}(p q:Fr)(hs:s=1\/s=2\/s=3):∀(m:Nat)(x y:Fr),bX (qb p q s m x y)=true
 |0,x,y=>by
  show bX (jE p q s x y)=true;unfold jE
  split
  ·rfl
  ·exact Kk _ _ _ hs
 |m+1,x,y=>by
  show bX (yA x y (1,1) s++qb p q s m (aR y) x)=true;rw[Dq,Kk _ _ _ hs,Sm p q hs m];rfl
theorem yF{s:Int}(x y t:Fr)(hs:s=1\/s=2\/s=3):(yA x y t s).length<=3:=by
 obtain rfl|rfl|rfl:=hs
 ·show 1<=3;decide
 ·show 2<=3;decide
 ·show 3<=3;decide
theorem Gn(h:Nv x y e)(k:Nv p q f)(c:¬hq x y p q):0<val (bW x y p q)/\0<=val (aU x y p q):=by
 unfold hq at c;rw[not_or]at c;exact⟨(fW (aY h k)).2 ⋯,(dY (cC h k)).2 ⋯⟩
theorem mQ(h:Nv x y e)(k:Nv p q f)(c:¬hq x y p q):(aW (1,1) (bW x y p q)).1≠0:=by
 have h1:=(Gn h k c).1;have h2:=bE (aI 1) (aY h k);rw[fT]at h2;have h3:=(fW (cE (aI 1) (aY h k))).1 (by rw[h2];grind)
 lia
theorem Lv(h:Nv x y e)(k:Nv p q f):sz (aU x y p q)<=2*(e+f)+1:=by
 have:=h.sx;have:=h.sy;have:=k.sx;have:=k.sy;have s1:=bJ h.x k.y;have s2:=bJ h.y k.x;have s6:=gK (aK h.x k.y) (aK h.y k.x);show sz (aH (aM x q) (aM y p))<=_
 lia
theorem Ay(h:Nv x y e)(k:Nv p q f)(n:(aW (1,1) (bW x y p q)).1≠0):bC (pC x y p q)/\sz (pC x y p q)<=4*(e+f)+4:=by
 have s5:=Lv h k;have s6:=iG h k;have s7:=dX (aI 1) (aY h k);have o:sz (1,1)=1:=∅
 have s8:=kI (cC h k) n;refine⟨eO (cC h k) n,?_⟩;show sz (bO _ _)<=_
 lia
def VC:dG:=λas Q=>∃(x y p q:Fr)(s:Int)(e f m:Nat),as=[.v (vc x y),.v (vc p q),.v (.int s)]/\cD x y e/\cD p q f/\e+f<=140/\(s=1\/s=2\/s=3)/\m<=3/\xM p q m x y/\Q (.l (vc x y::qb p q s m x y)) []
abbrev j8(P w K mg base):=(~~~Fn) 6 "quarters_between" ["one","other","steps"] (aJ K VC)
abbrev iF:ki:=top 40
theorem d8:aF ["one","other","steps","units","last","tangent"] ["one","other","steps"] (aC iF):=dH
theorem rN(F:cK K "quarters_between" "quarters_between" iF f fd)(TX:Txt mg)(ye: ~~~pF)(yz: ~~~yT)(vq: ~~~mY)(vj: ~~~mF)(tu: ~~~eJ)(vi: ~~~kR)(vf:kO mg K "ONE_turns" (.tup [.int 1,.int 1])):(~~~aV) cM 6 f fd ["one","other","steps"] (aJ K VC):=by
 refine F.okU d8 (λhr=>(aB (fS 3 d8.nd (cN (f1 (fv 0)))) (aB (pS PassesOwn.never (iB (fK ye (f2 (fX (fv 3) (c8 aA)) (fv 1)))) (aE (eH (rD rfl (fv 3) (f1 (fK yz (f3 (fX (fv 3) (c8 aA)) (fZ rfl vf) (fv 2)))))))) (aB (fS 4 d8.nd (fX (fv 3) (c8 aA))) (aB (bN (sC rfl hr (fv 4) (fv 1) (a9 _)) (aB (fS 5 d8.nd (fK vq (f2 (fK vj (f2 (fv 4) (fv 1))) (fK tu (f2 (fZ rfl vf) (fK vi (f2 (fv 4) (fv 1)))))))) (aE (eH (rD rfl (fv 3) (f1 (fK yz (f3 (fv 4) (fv 5) (fv 2)))))))) a8) (aE (aG (fv 3)))))))) ?_;rintro as Q ⟨x,y,p,q,s,e,f,m0,rfl,hu,hv,he,hs,hm,hr,z⟩;refine⟨λm' E=>∃(L:List L2.T)(x' y':Fr),E=[⇑(vc x y),⇑(vc p q),↑s,↥(L++[vc x' y']),none,none]/\cD x' y' e/\xM p q m' x' y'/\L.length+3*m'<=9/\L++vc x' y'::qb p q s m' x' y'=vc x y::qb p q s m0 x y,⟨m0,[],x,y,rfl,hu,hr,by show 0+3*m0<=9;lia,rfl⟩,?_⟩;rintro m E ⟨L,x',y',rfl,hu',hr,hl,hL⟩;have hat:=uK L (vc x' y');show o1 (eZ (L++[vc x' y']) (-1)) _;rw[hat];refine⟨x',y',p,q,e,f,rfl,hu'.nv,hv.nv,⋯,λb hb=>?_⟩;show if b=true then _ else _
 by_cases c:hq x' y' p q
 ·rw[oV (hb.2 c)];obtain⟨m,rfl⟩:∃k,m=k+1:=by
   cases m with
   |zero=>exact absurd c hr
   |succ k=>exact⟨k,rfl⟩
  obtain⟨L',hL',l2⟩:=Yg x' y' (aI 1) hs;show o1 (eZ (L++[vc x' y']) (-1)) _;rw[hat];refine⟨x',y',(1,1),s,e,1,rfl,hu'.nv,aI 1,∅,⋯,hs,?_⟩;refine⟨?_,m,ZV m,L++[vc x' y']++L',aR y',x',?_,hu'.left,hr.2,?_,?_⟩
  ·have:=yF x' y' (1,1) hs;show((L++[vc x' y'])++yA x' y' (1,1) s).length<=9000;rw[WK,WK,WY]
   lia
  ·show[_,_,_,oZ (U.o false ((L++[vc x' y'])++yA x' y' (1,1) s)),_,_]=_;rw[hL',x8 hu'.nv,XB (L++[vc x' y'])]
  ·rw[WK,WK,WY]
   lia
  ·rw[<-hL];show _=L++vc x' y'::(yA x' y' (1,1) s++qb p q s m (aR y') x');rw[hL',x8 hu'.nv];simp
 ·rw[oW (λr=>c (hb.1 r))];obtain rfl:m=0:=by
   cases m with
   |zero=>rfl
   |succ k=>exact absurd hr.1 c
  have nl:bX (vc x y::qb p q s m0 x y)=true:=Sm p q hs m0 x y;show o1 (eZ (L++[vc x' y']) (-1)) _;rw[hat];refine⟨cY rfl,?_⟩;show if(!L2.d6 (vc x' y') (vc p q))=true then _ else _;rw[Dd];have e0:qb p q s 0 x' y'=jE p q s x' y':=rfl;rw[e0]at hL;unfold jE at hL
  by_cases d:x'=p/\y'=q
  ·rw[oV d]at hL;rw[oW (by simpa using d)];rw[hL];exact⟨nl,z⟩
  ·rw[oW d]at hL;rw[oV (by rw[oX d];rfl)];have ne:=mQ hu'.nv hv.nv c;obtain⟨t1,t2⟩:=Ay hu'.nv hv.nv ne;have:=(hu'.nv.tr hv.nv);refine⟨x',y',p,q,e,f,rfl,hu'.nv,hv.nv,⋯,x',y',p,q,e,f,rfl,hu'.nv,hv.nv,⋯,(1,1),_,rfl,aI 1,aY hu'.nv hv.nv,?_,_,_,rfl,cC hu'.nv hv.nv,cE (aI 1) (aY hu'.nv hv.nv),ne,?_,?_⟩
   ·have:=iG hu'.nv hv.nv;have o:sz (1,1)=1:=∅
    lia
   ·have:=iG hu'.nv hv.nv;have:=Lv hu'.nv hv.nv;have o:sz (1,1)=1:=∅
    have:=dX (aI 1) (aY hu'.nv hv.nv)
    lia
   refine⟨x',y',_,s,e,_,rfl,hu'.nv,t1,t2,⋯,hs,?_⟩;have ee:(L++[vc x' y'])++yA x' y' (pC x' y' p q) s=vc x y::qb p q s m0 x y:=by rw[<-hL];simp
   refine⟨?_,?_,?_⟩
   ·have:=yF x' y' (pC x' y' p q) hs;show((L++[vc x' y'])++yA x' y' (pC x' y' p q) s).length<=9000;rw[WK,WK,WY]
    lia
   ·show bX ((L++[vc x' y'])++yA x' y' (pC x' y' p q) s)=true;rw[ee];exact nl
   ·show Q (.l ((L++[vc x' y'])++yA x' y' (pC x' y' p q) s)) [];rw[ee];exact z
end
theorem PK(h:cD x y e)(k:cD p q f)(c:¬hq x y p q)(c1:¬0<(aU x y p q).1):x=p/\y=q:=by
 have hh:=Gn h.nv k.nv c;have c3:val (aU x y p q)=0:=by
  have:=(tT (cC h.nv k.nv)).2 ⋯;grind
 have d1:=hh.1;rw[cP h.nv k.nv]at d1;rw[cV h.nv k.nv]at c3;have h1:=h.one;have k1:=k.one;have one:(val x*val p+val y*val q)*(val x*val p+val y*val q)=1:=by
  have:(val x*val p+val y*val q)*(val x*val p+val y*val q)+(val x*val q-val y*val p)*(val x*val q-val y*val p)=1:=by grind
  rw[c3]at this;grind
 have ex:val p=val x*(val x*val p+val y*val q)-val y*(val x*val q-val y*val p):=by grind
 have ey:val q=val y*(val x*val p+val y*val q)+val x*(val x*val q-val y*val p):=by grind
 rw[c3]at ex ey;generalize val x*val p+val y*val q=D at *;have d2:D=1:=by
  have:(D-1)*(D+1)=0:=by grind
  rcases Rat.mul_eq_zero.mp this with a|a<;>grind
 rw[d2]at ex ey;exact⟨bM h.nv.x k.nv.x (by grind),bM h.nv.y k.nv.y (by grind)⟩
theorem cD.tr(h:cD x y e)(k:cD c s f):cD (O0 x y c s) (N9 x y c s) (2*(e+f)+1):=⟨h.nv.tr k.nv,by
 rw[i9 h.nv k.nv,i8 h.nv k.nv];have:=h.one;have:=k.one;grind⟩
theorem zY(r:Rat):0<1+r*r:=by
 have:0<=r*r:=by
   rcases Rat.le_total (a:=0) (b:=r)with c|c
   ·exact Rat.mul_nonneg c c
   ·have h:=Rat.mul_nonneg (a:=-r) (b:=-r) (by grind) (by grind);grind
 grind
theorem O1{a b c1 s1 c2 s2:Rat}(ha:0<=a)(hab:a<b)(hb:b<=1)(e1:c1=(1-a*a)/(1+a*a))(e2:s1=2*a/(1+a*a))(e3:c2=(1-b*b)/(1+b*b))(e4:s2=2*b/(1+b*b)):0<c1*s2-s1*c2/\0<=c1*c2+s1*s2:=by
 have A:=zY a;have B:=zY b;have AB:=Rat.mul_pos A B;have h1:c1*(1+a*a)=1-a*a:=by grind
 have h2:s1*(1+a*a)=2*a:=by grind
 have h3:c2*(1+b*b)=1-b*b:=by grind
 have h4:s2*(1+b*b)=2*b:=by grind
 have p1:0<=a*b:=Rat.mul_nonneg ha (by grind);have p2:0<(b-a)*(1+a*b):=Rat.mul_pos (by grind) (by grind);have p3:0<=(1-a)*(1+a):=Rat.mul_nonneg (by grind) (by grind);have p4:0<=(1-b)*(1+b):=Rat.mul_nonneg (by grind) (by grind);have p5:0<=((1-a)*(1+a))*((1-b)*(1+b)):=Rat.mul_nonneg p3 p4;constructor
 ·apply bL AB;have:(c1*s2-s1*c2)*((1+a*a)*(1+b*b))=(c1*(1+a*a))*(s2*(1+b*b))-(s1*(1+a*a))*(c2*(1+b*b)):=by grind
  rw[this,h1,h2,h3,h4];have:(1-a*a)*(2*b)-2*a*(1-b*b)=2*((b-a)*(1+a*b)):=by grind
  rw[this];grind
 ·apply jL AB;have:(c1*c2+s1*s2)*((1+a*a)*(1+b*b))=(c1*(1+a*a))*(c2*(1+b*b))+(s1*(1+a*a))*(s2*(1+b*b)):=by grind
  rw[this,h1,h2,h3,h4];have:(1-a*a)*(1-b*b)+2*a*(2*b)=((1-a)*(1+a))*((1-b)*(1+b))+4*(a*b):=by grind
  rw[this];grind
structure RJ(u v:L2.T):Prop where
 ex:∃a b c d:Fr,u=vc a b/\v=vc c d/\Nv a b 2500/\Nv c d 2500/\val c*val c+val d*val d=1/\0<val a*val d-val b*val c/\0<=val a*val c+val b*val d
def chn:L2.T->List L2.T->Prop
 |_,[]=>True
 |a,b::l=>RJ a b/\chn b l
def lst:L2.T->List L2.T->L2.T
 |a,[]=>a
 |_,b::l=>lst b l
theorem Ra:∀{a:L2.T}{l m:List L2.T},chn a l->chn (lst a l) m->chn a (l++m)
 |_,[],_,_,h=>h
 |_,_::_,_,h,k=>⟨h.1,Ra h.2 k⟩
theorem Sj:∀(a:L2.T)(l m:List L2.T),lst a (l++m)=lst (lst a l) m
 |_,[],_=>rfl
 |_,b::l,m=>Sj b l m
theorem Gi:∀(a:L2.T)(l:List L2.T),∃L,a::l=L++[lst a l]
 |a,[]=>⟨[],rfl⟩
 |a,b::l=>by obtain⟨L,h⟩:=Gi b l;exact⟨a::L,by show a::(b::l)=a::(L++[lst b l]);rw[h]⟩
theorem Dp{x y t1 t2:Fr}{e:Nat}(h:cD x y e)(he:e<=100)(n1:bC t1)(n2:bC t2)(z1:sz t1<=566)(z2:sz t2<=566)(ha:0<=val t1)(hab:val t1<val t2)(hb:val t2<=1):RJ (xN x y t1) (xN x y t2):=by
 have v1:=(Dr n1).up (show _<=1133 by lia);have v2:=(Dr n2).up (show _<=1133 by lia);obtain⟨p1,p2⟩:=O1 ha hab hb (tS n1) (tV n1) (tS n2) (tV n2);have o2:val (cT t2)*val (cT t2)+val (sT t2)*val (sT t2)=1:=by
  rw[tS n2,tV n2];have:=u9 (val t2);grind
 have o:=h.one;refine⟨_,_,_,_,rfl,rfl,(h.nv.tr v1).up ⋯,(h.nv.tr v2).up ⋯,?_,?_,?_⟩
 ·rw[i9 h.nv v2,i8 h.nv v2];grind
 ·rw[i9 h.nv v2,i8 h.nv v2,i9 h.nv v1,i8 h.nv v1];generalize val (cT t1)=c1 at *;generalize val (sT t1)=s1 at *;generalize val (cT t2)=c2 at *;generalize val (sT t2)=s2 at *;have:(val x*c1-val y*s1)*(val x*s2+val y*c2)-(val x*s1+val y*c1)*(val x*c2-val y*s2)=(val x*val x+val y*val y)*(c1*s2-s1*c2):=by grind
  rw[this,o];grind
 ·rw[i9 h.nv v2,i8 h.nv v2,i9 h.nv v1,i8 h.nv v1];generalize val (cT t1)=c1 at *;generalize val (sT t1)=s1 at *;generalize val (cT t2)=c2 at *;generalize val (sT t2)=s2 at *;have:(val x*c1-val y*s1)*(val x*c2-val y*s2)+(val x*s1+val y*c1)*(val x*s2+val y*c2)=(val x*val x+val y*val y)*(c1*c2+s1*s2):=by grind
  rw[this,o];grind
theorem x9(h:Nv x y e):xN x y (0,1)=vc x y:=by
 have e1:cT (0,1)=(1,1):=∅
 have e2:sT (0,1)=(0,1):=∅
 unfold xN;rw[e1,e2];have e8:O0 x y (1,1) (0,1)=x:=bM (h.tr V9).x h.x (by rw[i9 h V9,fT,lU];grind);have e9:N9 x y (1,1) (0,1)=y:=bM (h.tr V9).y h.y (by rw[i8 h V9,fT,lU];grind);rw[e8,e9]
theorem Ez{s:Int}(h:cD x y e)(he:e<=100)(n:bC t)(z:sz t<=564)(t0:0<val t)(t1:val t<=1)(hs:s=1\/s=2\/s=3):chn (vc x y) (yA x y t s)/\lst (vc x y) (yA x y t s)=xN x y t:=by
 have k:∀{k s:Int},k.natAbs<=3->1<=s/\s<=3->bC (aM t (jY k s))/\sz (aM t (jY k s))<=566/\val (aM t (jY k s))*(s:Rat)=val t*(k:Rat):=λ{k s}h1 h2=>by
  obtain⟨n1,n2⟩:=Lw h1 h2;have:=bJ n n1;have nz:s≠0:=⋯
  refine⟨aK n n1,⋯,?_⟩;rw[aQ n n1,hJ nz];have:(s:Rat)≠0:=by exact_mod_cast nz
  grind
 have b0:bC ((0:Int),1):=aI 0;have z0:sz ((0:Int),1)<=566:=∅
 obtain rfl|rfl|rfl:=hs
 ·obtain⟨a1,a2,a3⟩:=k (k:=1) (s:=1) ∅ ∅;refine⟨⟨?_,trivial⟩,?_⟩
  ·rw[<-x9 h.nv];exact Dp h he b0 a1 z0 a2 (by rw[lU];grind) (by rw[lU];grind) (by grind)
  ·show xN x y (aM t (jY 1 1))=_;rw[bM a1 n (by grind)]
 ·obtain⟨a1,a2,a3⟩:=k (k:=1) (s:=2) ∅ ∅;obtain⟨b1,b2,b3⟩:=k (k:=2) (s:=2) ∅ ∅;refine⟨⟨?_,?_,trivial⟩,?_⟩
  ·rw[<-x9 h.nv];exact Dp h he b0 a1 z0 a2 (by rw[lU];grind) (by rw[lU];grind) (by grind)
  ·exact Dp h he a1 b1 a2 b2 (by grind) (by grind) (by grind)
  ·show xN x y (aM t (jY 2 2))=_;rw[bM b1 n (by grind)]
 ·obtain⟨a1,a2,a3⟩:=k (k:=1) (s:=3) ∅ ∅;obtain⟨b1,b2,b3⟩:=k (k:=2) (s:=3) ∅ ∅;obtain⟨c1,c2,c3⟩:=k (k:=3) (s:=3) ∅ ∅;refine⟨⟨?_,?_,?_,trivial⟩,?_⟩
  ·rw[<-x9 h.nv];exact Dp h he b0 a1 z0 a2 (by rw[lU];grind) (by rw[lU];grind) (by grind)
  ·exact Dp h he a1 b1 a2 b2 (by grind) (by grind) (by grind)
  ·exact Dp h he b1 c1 b2 c2 (by grind) (by grind) (by grind)
  ·show xN x y (aM t (jY 3 3))=_;rw[bM c1 n (by grind)]
theorem Ee(h:cD x y e)(k:cD p q f)(c:¬hq x y p q)(d:¬(x=p/\y=q)):0<val (pC x y p q)/\val (pC x y p q)<=1/\xN x y (pC x y p q)=vc p q:=by
 have hh:=Gn h.nv k.nv c;have ne:=mQ h.nv k.nv c;have c0:0<val (aU x y p q):=(fW (cC h.nv k.nv)).2 (by
  obtain a|a:=ik 0 (aU x y p q).1
  ·exact a
  ·exact absurd (PK h k c ⋯) d)
 have hd:=hh.1;have nt:=(Ay h.nv k.nv ne).1;have vt:val (pC x y p q)=val (aU x y p q)/(1+val (bW x y p q)):=by
  unfold pC;rw[i7 (cC h.nv k.nv) (cE (aI 1) (aY h.nv k.nv)) ne,bE (aI 1) (aY h.nv k.nv),fT]
 have one:val (bW x y p q)*val (bW x y p q)+val (aU x y p q)*val (aU x y p q)=1:=by
  rw[cP h.nv k.nv,cV h.nv k.nv];have:=h.one;have:=k.one;grind
 have hD:=cP h.nv k.nv;have hC:=cV h.nv k.nv;have wt:=Dr nt;have vc1:=tS nt;have vs1:=tV nt;have zz:=u9 (val (pC x y p q));have ex:val p=val x*val (bW x y p q)-val y*val (aU x y p q):=by rw[hD,hC];have:=h.one;grind
 have ey:val q=val x*val (aU x y p q)+val y*val (bW x y p q):=by rw[hD,hC];have:=h.one;grind
 have t1:val (pC x y p q)*(1+val (bW x y p q))=val (aU x y p q):=by
  rw[vt];have n1:1+val (bW x y p q)≠0:=by grind
  clear vt vc1 vs1 zz ex ey hD hC one;exact Rat.div_mul_cancel n1
 have cle:val (aU x y p q)<=1:=by
  rcases Rat.le_total (a:=val (aU x y p q)) (b:=1)with a|a
  ·exact a
  ·have p1:=Rat.mul_nonneg (a:=val (aU x y p q)-1) (b:=val (aU x y p q)+1) (by grind) (by grind);have p2:=Rat.mul_pos hd hd;grind
 have t0:0<val (pC x y p q):=bL (k:=1+val (bW x y p q)) (by grind) (by rw[t1];exact c0);have t2:0<=1-val (pC x y p q):=jL (k:=1+val (bW x y p q)) (by grind) (by
  have:(1-val (pC x y p q))*(1+val (bW x y p q))=1+val (bW x y p q)-val (aU x y p q):=by grind
  rw[this];grind)
 refine⟨t0,by grind,?_⟩;have g1:val (cT (pC x y p q))=val (bW x y p q):=by
  rw[vc1];generalize val (pC x y p q)=t at *;generalize val (bW x y p q)=D at *;generalize val (aU x y p q)=C at *;have:(1-t*t-D*(1+t*t))*((1+D)*(1+D))=0:=by grind
  have nz:(1+D)*(1+D)≠0:=by have:=Rat.mul_pos (a:=1+D) (b:=1+D) (by grind) (by grind);grind
  obtain a|a:=Rat.mul_eq_zero.mp this
  ·grind
  ·exact absurd a nz
 have g2:val (sT (pC x y p q))=val (aU x y p q):=by
  rw[vs1];generalize val (pC x y p q)=t at *;generalize val (bW x y p q)=D at *;generalize val (aU x y p q)=C at *;have:(2*t-C*(1+t*t))*((1+D)*(1+D))=0:=by grind
  have nz:(1+D)*(1+D)≠0:=by have:=Rat.mul_pos (a:=1+D) (b:=1+D) (by grind) (by grind);grind
  obtain a|a:=Rat.mul_eq_zero.mp this
  ·grind
  ·exact absurd a nz
 have f1:O0 x y (cT (pC x y p q)) (sT (pC x y p q))=p:=bM (h.nv.tr wt).x k.nv.x (by rw[i9 h.nv wt,g1,g2,ex]);have f2:N9 x y (cT (pC x y p q)) (sT (pC x y p q))=q:=bM (h.nv.tr wt).y k.nv.y (by rw[i8 h.nv wt,g1,g2,ey]);unfold xN;rw[f1,f2]
theorem zC{s:Int}(k:cD p q f)(hee:e<=100)(he:e+f<=140)(hs:s=1\/s=2\/s=3):∀(m:Nat)(x y:Fr),cD x y e->xM p q m x y->chn (vc x y) (qb p q s m x y)/\lst (vc x y) (qb p q s m x y)=vc p q
 |0,x,y,h,r=>by
  show chn (vc x y) (jE p q s x y)/\lst (vc x y) (jE p q s x y)=vc p q;unfold jE
  by_cases d:x=p/\y=q
  ·rw[oV d];exact⟨trivial,by rw[d.1,d.2];rfl⟩
  ·rw[oW d];obtain⟨t0,t1,te⟩:=Ee h k r d;obtain⟨z1,z2⟩:=Ay h.nv k.nv (mQ h.nv k.nv r);have:=Ez h hee z1 ⋯ t0 t1 hs;rw[te]at this;exact this
 |m+1,x,y,h,r=>by
  obtain⟨a1,a2⟩:=Ez (t:=(1,1)) h hee (aI 1) ∅ (by rw[fT];grind) (by rw[fT];grind) hs;rw[x8 h.nv]at a2;obtain⟨b1,b2⟩:=zC k hee he hs m (aR y) x h.left r.2;rw[<-a2]at b1 b2;exact⟨Ra a1 b1,by rw[<-b2];exact Sj _ _ _⟩
def Mm(l:List L2.T):Prop:=∀t∈l,∃a b,t=vc a b
theorem Jc(x y t:Fr)(s:Int):Mm (yA x y t s):=λz hz=>by
 obtain⟨k,_,rfl⟩:=YI.mp hz;exact⟨_,_,rfl⟩
theorem Qy(p q:Fr)(s:Int):∀(m:Nat)(x y:Fr),Mm (qb p q s m x y)
 |0,x,y=>λz hz=>by
  have hz:z∈jE p q s x y:=hz;unfold jE at hz;split at hz
  ·cases hz
  ·exact Jc _ _ _ _ z hz
 |m+1,x,y=>λz hz=>by
  obtain h|h:=XF.mp hz
  ·exact Jc _ _ _ _ z h
  ·exact Qy p q s m _ _ z h
theorem Gg{s:Int}(p q:Fr)(hs:s=1\/s=2\/s=3):∀(m:Nat)(x y:Fr),(qb p q s m x y).length<=3*m+3
 |0,x,y=>by
  show(jE p q s x y).length<=3;unfold jE
  split
  ·decide
  ·exact yF _ _ _ hs
 |m+1,x,y=>by
  have:=yF x y (1,1) hs;have:=Gg p q hs m (aR y) x;show(yA x y (1,1) s++qb p q s m (aR y) x).length<=_;rw[WK]
  lia
def dJ(D C:Rat):Rat:=if 0<=C then 1-D else 3+D
def cx:L2.T->Fr×Fr
 |.tup [.tup [.int a,.int b],.tup [.int c,.int d]]=>((a,b),(c,d))
 |_=>((0,1),(0,1))
theorem pP(a b:Fr):cx (vc a b)=(a,b):=rfl
def kf(x y:Fr)(t:L2.T):Rat:=dJ (val x*val (cx t).1+val y*val (cx t).2) (val x*val (cx t).2-val y*val (cx t).1)
theorem iV(x y a b:Fr):kf x y (vc a b)=dJ (val x*val a+val y*val b) (val x*val b-val y*val a):=rfl
def srt(k:L2.T->Rat):L2.T->List L2.T->Prop
 |_,[]=>True
 |a,b::l=>k a<k b/\srt k b l
theorem Te{k:L2.T->Rat}:∀{a:L2.T}{l m:List L2.T},srt k a l->srt k (lst a l) m->srt k a (l++m)
 |_,[],_,_,h=>h
 |_,_::_,_,h,g=>⟨h.1,Te h.2 g⟩
theorem vA{k:L2.T->Rat}:∀{a:L2.T}{l:List L2.T},srt k a l->∀{i:Nat}{u:L2.T},(a::l)[i]?=oZ u->i<l.length->k u<k (lst a l)
 |a,[],_,i,u,_,h=>by simp at h
 |a,[b],h,0,u,e,_=>by cases e;exact h.1
 |a,b::c::l,h,0,u,e,_=>by
  cases e;have:=vA (a:=b) (l:=c::l) h.2 (i:=0) rfl (by simp);have h1:=h.1;show k a<k (lst b (c::l));grind
 |a,b::l,h,i+1,u,e,hi=>vA (a:=b) (l:=l) h.2 e (by simpa using hi)
def At(j:Nat)(D C:Rat):Prop:=(j=0/\D=1/\C=0)\/(j=1/\D=0/\C=1)\/(j=2/\D = -1/\C=0)\/(j=3/\D=0/\C = -1)
def part(j:Nat)(a:Rat):Rat:=if j%2=0 then 1-(1-a*a)/(1+a*a)else 2*a/(1+a*a)
theorem X4{a b:Rat}(j:Nat)(ha:0<=a)(hab:a<b)(hb:b<=1):part j a<part j b:=by
 have A:=zY a;have B:=zY b;have AB:=Rat.mul_pos A B;have p0:0<=a*(1-b):=Rat.mul_nonneg ha (by grind);have p00:0<1-a*b:=by
   have:1-a*b=(1-a)+a*(1-b):=by grind
   rw[this];grind
 have p1:0<(b-a)*(1-a*b):=Rat.mul_pos (by grind) p00;have p2:0<(b-a)*(b+a):=Rat.mul_pos (by grind) (by grind);have e1:(1-a*a)/(1+a*a)*(1+a*a)=1-a*a:=Rat.div_mul_cancel (by grind);have e2:(1-b*b)/(1+b*b)*(1+b*b)=1-b*b:=Rat.div_mul_cancel (by grind);have e3:2*a/(1+a*a)*(1+a*a)=2*a:=Rat.div_mul_cancel (by grind);have e4:2*b/(1+b*b)*(1+b*b)=2*b:=Rat.div_mul_cancel (by grind);unfold part;generalize(1-a*a)/(1+a*a)=c1 at *;generalize(1-b*b)/(1+b*b)=c2 at *;generalize 2*a/(1+a*a)=s1 at *;generalize 2*b/(1+b*b)=s2 at *
 split
 ·have:0<(1-c2)-(1-c1):=bL AB (by
   have:((1-c2)-(1-c1))*((1+a*a)*(1+b*b))=(c1*(1+a*a))*(1+b*b)-(c2*(1+b*b))*(1+a*a):=by grind
   rw[this,e1,e2];have:(1-a*a)*(1+b*b)-(1-b*b)*(1+a*a)=2*((b-a)*(b+a)):=by grind
   rw[this];grind)
  grind
 ·have:0<s2-s1:=bL AB (by
   have:(s2-s1)*((1+a*a)*(1+b*b))=(s2*(1+b*b))*(1+a*a)-(s1*(1+a*a))*(1+b*b):=by grind
   rw[this,e3,e4];have:2*b*(1+a*a)-2*a*(1+b*b)=2*((b-a)*(1-a*b)):=by grind
   rw[this];grind)
  grind
theorem Zn(h:cD x y e)(k:cD p q f)(hj:At j (val x*val p+val y*val q) (val x*val q-val y*val p))(n:bC t)(t0:0<=val t)(t1:val t<=1)(t3:j=3->val t<1):kf x y (xN p q t)=(j:Rat)+part j (val t):=by
 have w:=Dr n;have A:=zY (val t);unfold xN;rw[iV,i9 k.nv w,i8 k.nv w];have e1:val (cT t)*(1+val t*val t)=1-val t*val t:=by rw[tS n];exact Rat.div_mul_cancel (by grind)
 have e2:val (sT t)*(1+val t*val t)=2*val t:=by rw[tV n];exact Rat.div_mul_cancel (by grind)
 have p3:0<=(1-val t)*(1+val t):=Rat.mul_nonneg (by grind) (by grind);have c0:0<=val (cT t):=jL A (by rw[e1];grind);have s0:0<=val (sT t):=jL A (by rw[e2];grind);have cc:j=3->0<val (cT t):=λh=>bL A (by
  rw[e1];have:=t3 h;have:=Rat.mul_pos (a:=1-val t) (b:=1+val t) (by grind) (by grind);grind)
 have gD:val x*(val p*val (cT t)-val q*val (sT t))+val y*(val p*val (sT t)+val q*val (cT t))=val (cT t)*(val x*val p+val y*val q)-val (sT t)*(val x*val q-val y*val p):=by grind
 have gC:val x*(val p*val (sT t)+val q*val (cT t))-val y*(val p*val (cT t)-val q*val (sT t))=val (sT t)*(val x*val p+val y*val q)+val (cT t)*(val x*val q-val y*val p):=by grind
 rw[gD,gC];unfold part;rw[<-tS n,<-tV n];generalize val x*val p+val y*val q=D at *;generalize val x*val q-val y*val p=C at *;unfold dJ;obtain⟨rfl,rfl,rfl⟩|⟨rfl,rfl,rfl⟩|⟨rfl,rfl,rfl⟩|⟨rfl,rfl,rfl⟩:=hj
 ·rw[oV (by grind),oV ∅];grind
 ·rw[oV (by grind),oW ∅];grind
 ·by_cases z:val (sT t)=0
  ·have z1:val t=0:=by rw[z]at e2;grind
   rw[z1]at e1;rw[oV (by grind),oV ∅];grind
  ·rw[oW (by grind),oV ∅];grind
 ·have:=cc rfl;rw[oW (by grind),oW ∅];grind
theorem Tf{s:Int}(h:cD x y e)(k:cD p q f)(hj:At j (val x*val p+val y*val q) (val x*val q-val y*val p))(n:bC t)(z:sz t<=564)(t0:0<val t)(t1:val t<=1)(t3:j=3->val t<1)(hs:s=1\/s=2\/s=3):srt (kf x y) (vc p q) (yA p q t s):=by
 have kk:∀{k s:Int},k.natAbs<=3->1<=s/\s<=3->bC (aM t (jY k s))/\val (aM t (jY k s))*(s:Rat)=val t*(k:Rat):=λ{k s}h1 h2=>by
  obtain⟨n1,n2⟩:=Lw h1 h2;have nz:s≠0:=⋯
  refine⟨aK n n1,?_⟩;rw[aQ n n1,hJ nz];have:(s:Rat)≠0:=by exact_mod_cast nz
  grind
 have b0:bC ((0:Int),1):=aI 0;have step:∀{t1 t2:Fr},bC t1->bC t2->0<=val t1->val t1<val t2->val t2<=val t->kf x y (xN p q t1)<kf x y (xN p q t2):=λ{a b}na nb a0 ab bt=>by
  rw[Zn h k hj na a0 (by grind) (λz=>by have:=t3 z;grind),Zn h k hj nb (by grind) (by grind) (λz=>by have:=t3 z;grind)];have:=X4 j a0 ab (by grind);grind
 have zero:∀{t2:Fr},bC t2->0<val t2->val t2<=val t->kf x y (vc p q)<kf x y (xN p q t2):=λ{b}nb ab bt=>by
  rw[<-x9 k.nv];exact step b0 nb (by rw[lU];grind) (by rw[lU];exact ab) bt
 obtain rfl|rfl|rfl:=hs
 ·obtain⟨a1,a3⟩:=kk (k:=1) (s:=1) ∅ ∅;exact⟨zero a1 (by grind) (by grind),trivial⟩
 ·obtain⟨a1,a3⟩:=kk (k:=1) (s:=2) ∅ ∅;obtain⟨b1,b3⟩:=kk (k:=2) (s:=2) ∅ ∅;exact⟨zero a1 (by grind) (by grind),step a1 b1 (by grind) (by grind) (by grind),trivial⟩
 ·obtain⟨a1,a3⟩:=kk (k:=1) (s:=3) ∅ ∅;obtain⟨b1,b3⟩:=kk (k:=2) (s:=3) ∅ ∅;obtain⟨c1,c3⟩:=kk (k:=3) (s:=3) ∅ ∅;exact⟨zero a1 (by grind) (by grind),step a1 b1 (by grind) (by grind) (by grind),step b1 c1 (by grind) (by grind) (by grind),trivial⟩
theorem JO(h:cD x y e)(k:cD p q f)(c:¬hq x y p q)(d:¬(x=p/\y=q)):val (pC x y p q)<1:=by
 have hh:=Gn h.nv k.nv c;have ne:=mQ h.nv k.nv c;have hd:=hh.1;have one:val (bW x y p q)*val (bW x y p q)+val (aU x y p q)*val (aU x y p q)=1:=by
  rw[cP h.nv k.nv,cV h.nv k.nv];have:=h.one;have:=k.one;grind
 have vt:val (pC x y p q)=val (aU x y p q)/(1+val (bW x y p q)):=by
  unfold pC;rw[i7 (cC h.nv k.nv) (cE (aI 1) (aY h.nv k.nv)) ne,bE (aI 1) (aY h.nv k.nv),fT]
 have t1:val (pC x y p q)*(1+val (bW x y p q))=val (aU x y p q):=by
  rw[vt];exact Rat.div_mul_cancel (by grind)
 have cle:val (aU x y p q)<=1:=by
  rcases Rat.le_total (a:=val (aU x y p q)) (b:=1)with a|a
  ·exact a
  ·have p1:=Rat.mul_nonneg (a:=val (aU x y p q)-1) (b:=val (aU x y p q)+1) (by grind) (by grind);have p2:=Rat.mul_pos hd hd;grind
 have:0<1-val (pC x y p q):=bL (k:=1+val (bW x y p q)) (by grind) (by
  have:(1-val (pC x y p q))*(1+val (bW x y p q))=1+val (bW x y p q)-val (aU x y p q):=by grind
  rw[this];grind)
 grind
theorem Q6(h:cD x y e)(k:cD p q f)(hj:At j (val x*val p+val y*val q) (val x*val q-val y*val p))(j2:j<=2):At (j+1) (val x*val (aR q)+val y*val p) (val x*val p-val y*val (aR q)):=by
 rw[b7 k.nv.y];have e1:val x * -val q+val y*val p = -(val x*val q-val y*val p):=by grind
 have e2:val x*val p-val y * -val q=val x*val p+val y*val q:=by grind
 rw[e1,e2];generalize val x*val p+val y*val q=D at *;generalize val x*val q-val y*val p=C at *;obtain⟨rfl,rfl,rfl⟩|⟨rfl,rfl,rfl⟩|⟨rfl,rfl,rfl⟩|⟨rfl,rfl,rfl⟩:=hj
 ·exact .inr (.inl ⟨rfl,by grind,rfl⟩)
 ·exact .inr (.inr (.inl ⟨rfl,by grind,rfl⟩))
 ·exact .inr (.inr (.inr ⟨rfl,by grind,rfl⟩))
 ·lia
theorem Qi{s:Int}(h:cD x y e)(k:cD p q f)(hee:g<=100)(he:g+f<=140)(hs:s=1\/s=2\/s=3):∀(m j:Nat)(a b:Fr),cD a b g->j+m<=3->At j (val x*val a+val y*val b) (val x*val b-val y*val a)->xM p q m a b->srt (kf x y) (vc a b) (qb p q s m a b)
 |0,j,a,b,u,hm,hj,r=>by
  show srt (kf x y) (vc a b) (jE p q s a b);unfold jE
  by_cases d:a=p/\b=q
  ·rw[oV d];trivial
  ·rw[oW d];obtain⟨t0,t1,te⟩:=Ee u k r d;obtain⟨z1,z2⟩:=Ay u.nv k.nv (mQ u.nv k.nv r);exact Tf h u hj z1 ⋯ t0 t1 (λ_=>JO u k r d) hs
 |m+1,j,a,b,u,hm,hj,r=>by
  have s1:=Tf (t:=(1,1)) h u hj (aI 1) ∅ (by rw[fT];grind) (by rw[fT];grind) (λz=>⋯) hs;have a2:=(Ez (t:=(1,1)) u hee (aI 1) ∅ (by rw[fT];grind) (by rw[fT];grind) hs).2;rw[x8 u.nv]at a2;have s2:=Qi h k hee he hs m (j+1) (aR b) a u.left ⋯ (Q6 h u hj ⋯) r.2;rw[<-a2]at s2;exact Te s1 s2
section
variable{P:kg}{w:ko}{K:W.Frag}{mg:Str->Option oA}{base:oE}
structure DX(r:Int)(x y:Fr):Prop where
 lt:r<0->val x<val y
 of:val x<val y->r<0
 ge:val y<val x->0<r
theorem DX.i{r:Int}(h:DX r x y):r<0↔val x<val y:=⟨h.lt,h.of⟩
def OG:dG:=λas Q=>∃x y:Fr,as=[.v (fr x),.v (fr y)]/\bC x/\bC y/\sz x<=7900/\sz y<=7900/\∀r:Int,DX r x y->Q (.v (.int r)) []
theorem Rc(hx:bC x)(hy:bC y):x.1*y.2<y.1*x.2↔val x<val y:=by
 have e:=aT hx hy;have n:=cF hx hy;have l:=tU n;have dd:=fM hx hy;have v:=hJ (n:=x.1*y.2-y.1*x.2) dd;have s:(aH x y).1<0↔x.1*y.2-y.1*x.2<0:=by
  have c:=Dm (n:=x.1*y.2-y.1*x.2) dd;have d1:=(mL (n:=x.1*y.2-y.1*x.2) dd).2.1;have d2:0<x.2*y.2:=by
   have h1:1*1<=x.2*y.2:=jv hx.d hy.d ∅ (by have:=hx.d;lia)
   lia
  show uV _ _<0↔_;generalize uV (x.1*y.2-y.1*x.2) (x.2*y.2)=N at *;generalize pW (x.1*y.2-y.1*x.2) (x.2*y.2)=D at *;generalize x.1*y.2-y.1*x.2=A at *;generalize x.2*y.2=B at *;constructor
  ·intro h;have:N*B<0:=ie h d2;rw[c]at this;obtain a|a:=ik A 0
   ·exact a
   ·have:=dh a (show 0<=D by lia);lia
  ·intro h;have:A*D<0:=ie h ⋯;rw[<-c]at this;obtain a|a:=ik N 0
   ·exact a
   ·have:=dh a (show 0<=B by lia);lia
 rw[e]at l;constructor
 ·intro h;have:=l.2 (s.2 ⋯);grind
 ·intro h;have:=s.1 (l.1 (by grind))
  lia
abbrev dQ(P w K mg base):=(~~~Fn) 1 "compared" oH (aJ K OG)
abbrev tF:ki:=top 7
theorem qV:aF ["one","other","first","second"] oH (aC tF):=dH
theorem Kr(F:cK K "compared" "compared" tF f fd)(TX:Txt mg):(~~~aV) cM 1 f fd oH (aJ K OG):=by
 refine F.okU qV (λhr=>(aB (fS 2 qV.nd (aS bD (fQ 0) (fQ 1))) (aB (fS 3 qV.nd (aS bD (fQ 1) (fQ 0))) (aB (bN (fP iK (fv 2) (fv 3)) (aE (aG (c8 aA))) a8) (aB (bN (fP qD (fv 2) (fv 3)) (aE (aG aA)) a8) (aE (aG aA))))))) ?_;rintro as Q ⟨x,y,rfl,hx,hy,s1,s2,z⟩;have ci:=Rc hx hy;refine⟨k5 (e:=7900) (pl (eQ x) ⋯) (pl (cG y) ⋯) ∅,k5 (e:=7900) (pl (eQ y) ⋯) (pl (cG x) ⋯) ∅,?_⟩;show if decide (x.1*y.2<y.1*x.2)=true then _ else _
 by_cases c:x.1*y.2<y.1*x.2
 ·rw[oY c,oV rfl];exact⟨rfl,z (-1) ⟨λ_=>ci.1 c,λ_=>∅,λh=>by have:=ci.1 c;grind⟩⟩
 ·rw[oX c,oW ∅];have nc:¬val x<val y:=λh=>c (ci.2 h);show if decide (y.1*x.2<x.1*y.2)=true then _ else _
  by_cases c':y.1*x.2<x.1*y.2
  ·rw[oY c',oV rfl];exact⟨rfl,z 1 ⟨λh=>⋯,λh=>absurd h nc,λ_=>∅⟩⟩
  ·rw[oX c',oW ∅];exact⟨rfl,z 0 ⟨λh=>⋯,λh=>absurd h nc,λh=>absurd ((Rc hy hx).2 h) c'⟩⟩
def VE:dG:=λas Q=>∃(x y p q:Fr)(e f:Nat),as=[.v (vc x y),.v (vc p q)]/\Nv x y e/\Nv p q f/\e+f<=3900/\∀r:Fr,bC r->sz r<=2*(e+f)+4->val r=kf x y (vc p q)->Q (.v (fr r)) []
abbrev uH(P w K mg base):=(~~~Fn) 5 "turn_size" oH (aJ K VE)
abbrev qR:ki:=top 41
theorem Ic:aF oH oH (aC qR):=dH
theorem Hd(F:cK K "turn_size" "turn_size" qR f fd)(TX:Txt mg)(vj: ~~~mF)(vi: ~~~kR)(um: ~~~jR)(tu: ~~~eJ)(vf:kO mg K "ONE_turns" (.tup [.int 1,.int 1])):(~~~aV) cM 5 f fd oH (aJ K VE):=by
 refine F.okU Ic (λhr=>(aB (bN (fP Ds (fX (fK vj (f2 (fv 0) (fv 1))) aA) aA) (aE (aG (fK um (f2 (fZ rfl vf) (fK vi (f2 (fv 0) (fv 1))))))) a8) (aE (aG (fK tu (f2 (aN (f2 aA aA)) (fK vi (f2 (fv 0) (fv 1))))))))) ?_;rintro as Q ⟨x,y,p,q,e,f,rfl,h,k,he,z⟩;have sd:=iG h k;have o:sz (1,1)=1:=∅
 have o3:sz (3,1)=2:=∅
 refine⟨x,y,p,q,e,f,rfl,h,k,he,?_⟩;show if decide (0<=(aU x y p q).1)=true then _ else _
 by_cases c:0<=(aU x y p q).1
 ·rw[oY c,oV rfl];have c':=(dY (cC h k)).2 c;rw[cV h k]at c';have ss:=gK (aI 1) (aY h k);refine⟨x,y,p,q,e,f,rfl,h,k,he,(1,1),_,rfl,aI 1,aY h k,⋯,rfl,z _ (cF (aI 1) (aY h k)) ⋯ ?_⟩;rw[aT (aI 1) (aY h k),fT,cP h k,iV];unfold dJ;rw[oV c']
 ·rw[oX c,oW ∅];have c':¬0<=val x*val q-val y*val p:=λhh=>c ((dY (cC h k)).1 (by rw[cV h k];exact hh));have ss:=dX (aI 3) (aY h k);refine⟨x,y,p,q,e,f,rfl,h,k,he,(3,1),_,rfl,aI 3,aY h k,⋯,rfl,z _ (cE (aI 3) (aY h k)) ⋯ ?_⟩;rw[bE (aI 3) (aY h k),eV,cP h k,iV];unfold dJ;rw[oW c'];rfl
def DA:dG:=λas Q=>∃x y:Fr,as=[.v (vc x y)]/\Q (.v (vc (aR x) y)) []
abbrev yO(P w K mg base):=(~~~Fn) 1 "flipped" ["vector"] (aJ K DA)
abbrev wB:ki:=top 18
theorem tP:aF ["vector","x","y"] ["vector"] (aC wB):=dH
theorem Oi(F:cK K "flipped" "flipped" wB f fd)(TX:Txt mg):(~~~aV) cM 1 f fd ["vector"] (aJ K DA):=by
 refine F.okU tP (λhr=>(aB (fF (fv 0) (dA (n:=2) rfl rfl (aP (fG 1 tP.nd) (aP (fG 2 tP.nd) cJ)))) (aE (aG (aN (f2 (aN (f2 (c8 (fQ 1)) (fQ 1))) (fv 2))))))) ?_;rintro as Q ⟨x,y,rfl,q⟩;exact⟨rfl,q⟩
def mU(k:L2.T->Rat)(u:L2.T)(M:List L2.T->List L2.T):List L2.T->List L2.T
 |[]=>u::M []
 |r::R=>if k r<k u then r::mU k u M R else u::M (if L2.d6 r u=true then R else r::R)
def vJ(k:L2.T->Rat):List L2.T->List L2.T->List L2.T
 |[],_=>[]
 |u::A,B=>mU k u (vJ k A) B
def Ut(e:Nat)(t:L2.T):Prop:=∃a b,t=vc a b/\Nv a b e
structure Mg(x y:Fr)(A B:List L2.T)(o:L2.T):Prop where
 k1:∀i u,A[i]?=oZ u->i+1<A.length->kf x y u<kf x y o
 k2:∀i u,A[i]?=oZ u->i+1=A.length->u=o
 k3:∀i u,B[i]?=oZ u->i+1=B.length->u=o
 lb:0<B.length
theorem R5{B:List L2.T}(h:n<B.length):∃r R,B.drop n=r::R/\B[n]?=oZ r/\R=B.drop (n+1):=⟨B[n],B.drop (n+1),YN h,WG h,rfl⟩
def Ts:dG:=λas Q=>∃(x y:Fr)(A B:List L2.T)(o:L2.T)(e f:Nat),as=[.v (.lst A),.v (.lst B),.v (vc x y)]/\Nv x y e/\(∀t∈A,Ut f t)/\(∀t∈B,Ut f t)/\e+f<=3900/\A.length+B.length<=900/\Mg x y A B o/\bX (vJ (kf x y) A B)=true/\Q (.l (vJ (kf x y) A B)) []
abbrev Ck(P w K mg base):=(~~~Fn) 6 "merged" ["ahead","back","one"] (aJ K Ts)
abbrev Am:ki:=top 42
theorem jJ:aF ["ahead","back","one","units","at","unit","size"] ["ahead","back","one"] (aC Am):=dH
theorem Wc(F:cK K "merged" "merged" Am f fd)(TX:Txt mg)(yb: ~~~uH)(sv: ~~~dQ):(~~~aV) cM 6 f fd ["ahead","back","one"] (aJ K Ts):=by
 refine F.okU jJ (λhr=>(aB (fS 3 jJ.nd (cN cB)) (aB (fS 4 jJ.nd aA) (aB (eI PassesOwn.never rfl (eF rfl (fv 0)) (fG 5 jJ.nd) (aB (fS 6 jJ.nd (fK yb (f2 (fv 2) (fv 5)))) (aB (pS PassesOwn.never (fP iK (fK sv (f2 (fK yb (f2 (fv 2) (fX (fv 1) (fv 4)))) (fv 6))) aA) (aB (eH (dP rfl (fv 3) (f1 (fX (fv 1) (fv 4))))) (aE (Yu (i:=4) jJ.nd rfl (YD rfl) aA Zh)))) (aB (bN (gQ rfl hr (fX (fv 1) (fv 4)) (fv 5) (a9 _)) (aE (Yu (i:=4) jJ.nd rfl (YD rfl) aA Zh)) a8) (aE (eH (dP rfl (fv 3) (f1 (fv 5))))))))) (aE (aG (fv 3))))))) ?_;rintro as Q ⟨x,y,A,B,o,e,f,rfl,h,ha,hb,he,hl,mg,nl,z⟩;refine cA (λi E=>∃(acc:List L2.T)(n:Nat)(v5 v6:Option U),E=[⇑(.lst A),⇑(.lst B),⇑(vc x y),↥acc,↑(n:Int),v5,v6]/\acc++vJ (kf x y) (A.drop i) (B.drop n)=vJ (kf x y) A B/\acc.length<=i+n/\n<=B.length/\(i<A.length->n<B.length)) ⟨[],0,none,none,rfl,rfl,WO _,WS _,λ_=>mg.lb⟩ ?_ ?_
 ·rintro i t rest E hi ⟨acc,n,v5,v6,rfl,hm,aCV,hn,hin⟩ KK;have zx:A[i]?=oZ t:=hi;obtain⟨a,b,rfl,na⟩:=ha t (WI zx);have aD9:i<A.length:=(WE.mp zx).1;have hA:A.drop i=vc a b::A.drop (i+1):=by
   rw[YN aD9];rw[WG aD9]at zx;rw[Option.some.inj zx]
  rw[hA]at hm;refine⟨x,y,a,b,e,f,rfl,h,na,he,λsz1 n1 z1 w1=>?_⟩;have ku:kf x y (vc a b)<=kf x y o:=by
   obtain c|c:=XQ (i+1) A.length
   ·exact Rat.le_of_lt (mg.k1 i _ zx c)
   ·rw[mg.k2 i _ zx ⋯];exact Rat.le_refl
  refine⟨λm E=>∃(acc:List L2.T)(n:Nat),E=[⇑(.lst A),⇑(.lst B),⇑(vc x y),↥acc,↑(n:Int),⇑(vc a b),⇑(fr sz1)]/\m=B.length-n/\n<B.length/\acc.length<=i+n/\acc++mU (kf x y) (vc a b) (vJ (kf x y) (A.drop (i+1))) (B.drop n)=vJ (kf x y) A B,⟨_,acc,n,rfl,rfl,hin aD9,aCV,hm⟩,?_⟩;clear hm aCV hn hin;rintro m E ⟨acc,n,rfl,rfl,hn,aCV,hm⟩;obtain⟨r,R,hd,hr,hR⟩:=R5 hn;obtain⟨c,d,rfl,nc⟩:=hb r (WI hr);have hat:eZ B (n:Int)=oZ (vc c d):=iO hr;rw[hd]at hm;show o1 (eZ B (n:Int)) _;rw[hat];refine⟨x,y,c,d,e,f,rfl,h,nc,he,λs2 n2 z2 w2=>?_⟩;refine⟨s2,sz1,rfl,n2,n1,⋯,⋯,λr hr'=>?_⟩;show if decide (r<0)=true then _ else _
  by_cases lt:r<0
  ·rw[oY lt,oV rfl];have kl:kf x y (vc c d)<kf x y (vc a b):=by rw[<-w2,<-w1];exact hr'.1 lt
   show o1 (eZ B (n:Int)) _;rw[hat];refine⟨?_,B.length-(n+1),⋯,acc++[vc c d],n+1,rfl,rfl,?_,?_,?_⟩
   ·show(acc++[vc c d]).length<=9000;rw[WK,WY];lia
   ·obtain c1|c1:=XQ (n+1) B.length
    ·exact c1
    ·have:=mg.k3 n _ hr ⋯;rw[this]at kl;grind
   ·rw[WK,WY];lia
   ·rw[<-hm];show _=acc++(if kf x y (vc c d)<kf x y (vc a b)then _ else _);rw[oV kl,hR];simp
  ·rw[oX lt,oW ∅];have kl:¬kf x y (vc c d)<kf x y (vc a b):=by rw[<-w2,<-w1];exactλh=>lt (hr'.2 h)
   have hm':acc++(if kf x y (vc c d)<kf x y (vc a b)then(vc c d)::mU (kf x y) (vc a b) (vJ (kf x y) (A.drop (i+1))) R else(vc a b)::vJ (kf x y) (A.drop (i+1)) (if L2.d6 (vc c d) (vc a b)=true then R else vc c d::R))=vJ (kf x y) A B:=hm;rw[oW kl]at hm';show o1 (eZ B (n:Int)) _;rw[hat];refine⟨cY rfl,?_⟩;show if L2.d6 (vc c d) (vc a b)=true then _ else _
   by_cases eq:L2.d6 (vc c d) (vc a b)=true
   ·rw[oV eq]at hm'⊢;refine⟨?_,KK _ ⟨acc++[vc a b],n+1,_,_,rfl,?_,?_,?_,?_⟩⟩
    ·show(acc++[vc a b]).length<=9000;rw[WK,WY];lia
    ·rw[<-hm',hR];simp
    ·rw[WK,WY];lia
    ·lia
    ·intro hi2;obtain c1|c1:=XQ (n+1) B.length
     ·exact c1
     ·have t1:=mg.k3 n _ hr ⋯;have t2:=mg.k1 i _ zx hi2;rw[Dd]at eq;have:=of_decide_eq_true eq;rw[this.1,this.2]at t1;rw[t1]at t2;grind
   ·rw[oW eq]at hm'⊢;refine⟨?_,KK _ ⟨acc++[vc a b],n,_,_,rfl,?_,?_,?_,?_⟩⟩
    ·show(acc++[vc a b]).length<=9000;rw[WK,WY];lia
    ·rw[<-hm',hd];simp
    ·rw[WK,WY];lia
    ·lia
    ·intro _;exact hn
 ·rintro E ⟨acc,n,v5,v6,rfl,hm,aCV,hn,hin⟩;have e1:acc=vJ (kf x y) A B:=by
   rw[ZU]at hm;rw[<-hm];simp[vJ]
  subst e1;exact⟨nl,z⟩
def Rw(t:L2.T):L2.T:=vc (aR (cx t).1) (cx t).2
theorem pR(a b:Fr):Rw (vc a b)=vc (aR a) b:=rfl
theorem Dg(a:Fr):aR (aR a)=a:=by unfold aR;simp
theorem cD.flip(h:cD x y e):cD (aR x) y e:=⟨⟨d7 h.nv.x,h.nv.y,by rw[qY];exact h.nv.sx,h.nv.sy⟩,by rw[b7 h.nv.x,<-h.one];grind⟩
theorem Nv.flip{x y:Fr}{e:Nat}(h:Nv x y e):Nv (aR x) y e:=⟨d7 h.x,h.y,by rw[qY];exact h.sx,h.sy⟩
theorem Mw:∀{a:L2.T}{l:List L2.T}{t:L2.T},chn a l->t∈l->Ut 2500 t
 |_,[],_,_,h=>by cases h
 |a,b::l,t,h,m=>by
  obtain rfl|m:=WM.mp m
  ·obtain⟨_,_,c,d,_,e,_,n,_⟩:=h.1;exact⟨c,d,e,n⟩
  ·exact Mw h.2 m
theorem Zu{k:L2.T->Rat}:∀{B:List L2.T},(∀B',(∀z∈B',z∈B)->t∈M B'->t∈M B' )->t∈mU k u M B->t∈B\/t=u\/∃B',(∀z∈B',z∈B)/\t∈M B'
 |[],_,h=>by
  obtain h|h:=WM.mp h
  ·exact .inr (.inl h)
  ·exact .inr (.inr ⟨[],λ_ h=>h,h⟩)
 |r::R,hh,h=>by
  unfold mU at h;split at h
  ·obtain h|h:=WM.mp h
   ·exact .inl (by rw[h];exact WW ..)
   ·rcases Zu (B:=R) (λB' z w=>w) h with h|h|⟨B',h1,h2⟩
    ·exact .inl (WQ _ h)
    ·exact .inr (.inl h)
    ·exact .inr (.inr ⟨B',λz hz=>WQ _ (h1 z hz),h2⟩)
  ·obtain h|h:=WM.mp h
   ·exact .inr (.inl h)
   ·refine .inr (.inr ⟨_,λz hz=>?_,h⟩);split at hz
    ·exact WQ _ hz
    ·exact hz
theorem yG{k:L2.T->Rat}:∀{A B:List L2.T},t∈vJ k A B->t∈A\/t∈B
 |[],B,h=>by cases h
 |u::A,B,h=>by
  rcases Zu (M:=vJ k A) (λB' _ w=>w) h with h|h|⟨B',h1,h2⟩
  ·exact .inr h
  ·exact .inl (by rw[h];exact WW ..)
  ·obtain h|h:=yG h2
   ·exact .inl (WQ _ h)
   ·exact .inr (h1 t h)
theorem Gm:∀{l:List L2.T},Mm l->bX l=true
 |[],_=>rfl
 |t::l,h=>by
  obtain⟨a,b,rfl⟩:=h t (WW ..);have:=Gm (l:=l) λt ht=>h t (WQ _ ht);show(noL (vc a b)&&bX l)=true;rw[this];rfl
theorem Uo(h:Mm l):Mm (vc a b::l):=λt ht=>by
 obtain rfl|h':=WM.mp ht
 ·exact⟨_,_,rfl⟩
 ·exact h t h'
def Jd(x y p q:Fr)(s:Int)(m:Nat):List L2.T:=((vc (aR p) q::qb (aR x) y s m (aR p) q).reverse).map Rw
def rO(x y p q:Fr)(s:Int)(m m':Nat):List L2.T:=vJ (kf x y) (vc x y::qb p q s m x y) (Jd x y p q s m')
theorem LG{s:Int}(h:cD x y e)(k:cD p q f)(he:e+f<=140)(he1:e<=100)(hf:f<=100)(hs:s=1\/s=2\/s=3)(r:xM (aR x) y m (aR p) q):∀t∈Jd x y p q s m,Ut 2500 t:=by
 intro t ht;obtain⟨z,hz,rfl⟩:=YI.mp ht;have hz:=dr.mp hz;have ch:=(zC (s:=s) h.flip hf (show f+e<=140 by lia) hs m (aR p) q k.flip r).1;have uz:Ut 2500 z:=by
  obtain rfl|hz:=WM.mp hz
  ·exact⟨_,_,rfl,k.flip.nv.up ⋯⟩
  ·exact Mw ch hz
 obtain⟨a,b,rfl,n⟩:=uz;exact⟨aR a,b,rfl,n.flip⟩
theorem Ep(h:∀t∈l,Ut e t):Mm l:=λt ht=>by obtain⟨a,b,e,_⟩:=h t ht;exact⟨a,b,e⟩
theorem MJ{s:Int}(h:cD x y e)(k:cD p q f)(he:e+f<=140)(he1:e<=100)(hs:s=1\/s=2\/s=3)(hm:m<=3)(r:xM p q m x y):Mg x y (vc x y::qb p q s m x y) (Jd x y p q s m') (vc p q):=by
 have at0:At 0 (val x*val x+val y*val y) (val x*val y-val y*val x):=.inl ⟨rfl,h.one,by grind⟩;have st:=Qi (s:=s) h k he1 he hs m 0 x y h ⋯ at0 r;have ls:=(zC k he1 he hs m x y h r).2;refine⟨λi u hi hl=>?_,λi u hi hl=>?_,λi u hi hl=>?_,?_⟩
 ·rw[<-ls];exact vA st hi (by simpa using hl)
 ·obtain⟨L,hL⟩:=Gi (vc x y) (qb p q s m x y);rw[hL]at hi hl;rw[WK,WY]at hl;have:i=L.length:=⋯
  subst this;simp at hi;rw[<-hi,ls]
 ·unfold Jd at hi hl;rw[ZR,WU]at hi hl;rw[WK]at hl;simp at hl;have:i=((qb (aR x) y s m' (aR p) q).reverse.map Rw).length:=by simp;lia
  subst this;rw[XO (WO _)]at hi;simp at hi;rw[<-hi,pR,Dg]
 ·simp[Jd]
theorem Zr{s:Int}(x y p q:Fr)(hs:s=1\/s=2\/s=3)(m:Nat):(Jd x y p q s m).length<=3*m+4:=by
 have:=Gg (aR x) y hs m (aR p) q;simp[Jd]
 lia
def VF:dG:=λas Q=>∃(x y p q:Fr)(s:Int)(e f:Nat),as=[.v (vc x y),.v (vc p q),.v (.int s)]/\cD x y e/\cD p q f/\e+f<=140/\e<=100/\f<=100/\(s=1\/s=2\/s=3)/\∀m m',m<=3->m'<=3->xM p q m x y->xM (aR x) y m' (aR p) q->Q (.l (rO x y p q s m m')) []
abbrev cS(P w K mg base):=(~~~Fn) 7 "units_between" ["one","other","steps"] (aJ K VF)
abbrev j5:ki:=top 43
theorem jK:aF ["one","other","steps","ahead","back"] ["one","other","steps"] (aC j5):=dH
theorem vO(F:cK K "units_between" "units_between" j5 f fd)(TX:Txt mg)(vz: ~~~j8)(yh: ~~~yO)(aAU: ~~~Ck):(~~~aV) cM 7 f fd ["one","other","steps"] (aJ K VF):=by
 refine F.okU jK (λhr=>(aB (fS 3 jK.nd (fK vz (f3 (fv 0) (fv 1) (fv 2)))) (aB (fS 4 jK.nd (fK vz (f3 (fK yh (f1 (fv 1))) (fK yh (f1 (fv 0))) (fv 2)))) (aE (aG (fK aAU (f3 (fv 3) (iR (N':=["unit"]) (t:=1) (cap:=[]) rfl (bV.of rfl) rfl ∅ (eF rfl (T5 rfl (fv 4) (g8 (c8 aA)))) (λ_ _ _ _=>(fH 0)) (λ_ _ _ _=>(fK yh (f1 (fv 0))))) (fv 0)))))))) ?_;rintro as Q ⟨x,y,p,q,s,e,f,rfl,hu,hv,he,he1,hf1,hs,z⟩;obtain⟨m,hm,hr⟩:=vW hu hv;obtain⟨m',hm',hr'⟩:=vW hv.flip hu.flip;have z:=z m m' hm hm' hr hr';refine⟨x,y,p,q,s,e,f,m,rfl,hu,hv,he,hs,hm,hr,?_⟩;refine⟨p,q,rfl,x,y,rfl,?_⟩;refine⟨aR p,q,aR x,y,s,f,e,m',rfl,hv.flip,hu.flip,⋯,hs,hm',hr',?_⟩;have au:∀t∈(vc (aR p) q::qb (aR x) y s m' (aR p) q).reverse,∃a b,t=vc a b:=λt ht=>Uo (Qy _ _ _ _ _ _) t (dr.mp ht);have bl:Jd x y p q s m'=((vc (aR p) q::qb (aR x) y s m' (aR p) q).reverse).map Rw:=rfl;have lb:=Zr x y p q hs m';have la:=Gg p q hs m x y;have ub:=LG (s:=s) hu hv he he1 hf1 hs hr';have ua:∀t∈vc x y::qb p q s m x y,Ut 2500 t:=λt ht=>by
  obtain rfl|ht:=WM.mp ht
  ·exact⟨_,_,rfl,hu.nv.up ⋯⟩
  ·exact Mw (zC hv he1 he hs m x y hu hr).1 ht
 have av:Mm (rO x y p q s m m'):=λt ht=>by
  obtain h|h:=yG ht
  ·exact Ep ua t h
  ·exact Ep ub t h
 refine⟨rfl,rfl,?_⟩;show lK _ _ ((vc (aR p) q::qb (aR x) y s m' (aR p) q).reverse) _ _;generalize hR:(vc (aR p) q::qb (aR x) y s m' (aR p) q).reverse=RL at au bl⊢;have ll:RL.length<=13:=by rw[bl,WJ]at lb;lia
 refine cX (λi E=>∃v0,E=[v0,↥((RL.take i).map Rw)]) ⟨none,rfl⟩ ?_ ?_
 ·rintro i t rest E hi ⟨v0,rfl⟩ KK;obtain⟨a,b,rfl⟩:=au t (WI hi);have il:=(WE.mp hi).1;refine⟨a,b,rfl,?_,KK _ ⟨⇑(vc a b),?_⟩⟩
  ·show((RL.take i).map Rw).length<9000;rw[WJ,XT];lia
  ·have e1:RL.take (i+1)=RL.take i++[vc a b]:=by rw[ZF,hi];rfl
   rw[e1,WU];rfl
 ·rintro E ⟨v0,rfl⟩;rw[ZJ,<-bl];refine⟨Gm (Ep ub),?_⟩;refine⟨x,y,_,_,vc p q,e,2500,rfl,hu.nv,ua,ub,⋯,?_,MJ hu hv he he1 hs hm hr,Gm av,?_⟩
  ·rw[XG];lia
  ·exact⟨Gm av,z⟩
theorem bF{d c:Rat}(o:d*d+c*c=1):-1<=d/\d<=1:=by
 have hc:0<=c*c:=by
  rcases Rat.le_total (a:=0) (b:=c)with h|h
  ·exact Rat.mul_nonneg h h
  ·have:=Rat.mul_nonneg (a:=-c) (b:=-c) (by grind) (by grind);grind
 constructor
 ·rcases Rat.le_total (a:=-1) (b:=d)with h|h
  ·exact h
  ·by_cases e:d = -1
   ·grind
   ·have:=Rat.mul_pos (a:=-1-d) (b:=1-d) (by grind) (by grind);grind
 ·rcases Rat.le_total (a:=d) (b:=1)with h|h
  ·exact h
  ·by_cases e:d=1
   ·grind
   ·have:=Rat.mul_pos (a:=d-1) (b:=1+d) (by grind) (by grind);grind
theorem fR{d c:Rat}(o:d*d+c*c=1)(hc:c≠0):-1<d/\d<1:=by
 obtain⟨h1,h2⟩:=bF o;have n1:d≠1:=λe=>by
  rw[e]at o;have:c*c=0:=by grind
  rcases Rat.mul_eq_zero.mp this with a|a<;>exact hc a
 have n2:d≠-1:=λe=>by
  rw[e]at o;have:c*c=0:=by grind
  rcases Rat.mul_eq_zero.mp this with a|a<;>exact hc a
 constructor<;>grind
theorem wY{d:Rat}(o:d*d+0*0=1):d=1\/d = -1:=by
 have:(d-1)*(d+1)=0:=by grind
 obtain a|a:=Rat.mul_eq_zero.mp this
 ·left;grind
 ·right;grind
theorem Uc{d1 c1 d2 c2:Rat}(o1:d1*d1+c1*c1=1)(o2:d2*d2+c2*c2=1):(d1*c2-c1*d2)*(c1+c2)=(d1-d2)*(1+d1*d2+c1*c2):=by grind
theorem Yy{d1 c1 d2 c2:Rat}(o1:d1*d1+c1*c1=1)(o2:d2*d2+c2*c2=1)(h:0<c1*c2):0<1+d1*d2+c1*c2:=by
 obtain⟨a1,a2⟩:=bF o1;obtain⟨b1,b2⟩:=bF o2;have p1:=Rat.mul_nonneg (a:=1-d1) (b:=1-d2) (by grind) (by grind);have p2:=Rat.mul_nonneg (a:=1+d1) (b:=1+d2) (by grind) (by grind);grind
theorem JR{d1 c1 d2 c2:Rat}(o1:d1*d1+c1*c1=1)(o2:d2*d2+c2*c2=1)(h1:0<c1)(h2:0<c2):0<d1*c2-c1*d2↔d2<d1:=by
 have hp:=Yy o1 o2 (Rat.mul_pos h1 h2);have id:=Uc o1 o2;have hs:0<c1+c2:=by grind
 constructor
 ·intro h;have:0<(d1-d2)*(1+d1*d2+c1*c2):=by rw[<-id];exact Rat.mul_pos h hs
  have:=bL hp this;grind
 ·intro h;exact bL hs (by rw[id];exact Rat.mul_pos (by grind) hp)
theorem EN{ca wa cv wv cu wu:Rat}(ha:ca*ca=wa*(2-wa))(hv:cv*cv=wv*(2-wv))(hu:cu*cu=wu*(2-wu)):
  ((ca*wv-cv*wa)+(cv*wu-cu*wv)-(ca*wu-cu*wa))*(2*(wa*wv*wu))=(ca*wv-cv*wa)*(cv*wu-cu*wv)*(ca*wu-cu*wa):=by grind
theorem Cy{ca wa cv wv cu wu:Rat}(ha:ca*ca=wa*(2-wa))(hv:cv*cv=wv*(2-wv))(hu:cu*cu=wu*(2-wu))(pa:0<wa)(pv:0<wv)(pu:0<wu)(h1:0<ca*wv-cv*wa)(h2:0<cv*wu-cu*wv):0<ca*wu-cu*wa/\0<(ca*wv-cv*wa)+(cv*wu-cu*wv)-(ca*wu-cu*wa):=by
 have h3:0<ca*wu-cu*wa:=bL pv (by
  have:(ca*wu-cu*wa)*wv=wu*(ca*wv-cv*wa)+wa*(cv*wu-cu*wv):=by grind
  rw[this];have:=Rat.mul_pos pu h1;have:=Rat.mul_pos pa h2;grind)
 refine⟨h3,?_⟩;have pw:0<2*(wa*wv*wu):=Rat.mul_pos (by grind) (Rat.mul_pos (Rat.mul_pos pa pv) pu);exact bL pw (by rw[EN ha hv hu];exact Rat.mul_pos (Rat.mul_pos h1 h2) h3)
theorem Q5{d1 c1 d2 c2:Rat}(o1:d1*d1+c1*c1=1)(o2:d2*d2+c2*c2=1):(c1*(1-d2)-c2*(1-d1))*(c1*(1-d2)+c2*(1-d1))=2*((1-d1)*(1-d2))*(d1-d2):=by grind
theorem mK{d1 c1 d2 c2:Rat}(o1:d1*d1+c1*c1=1)(o2:d2*d2+c2*c2=1)(n1:d1≠1)(n2:d2≠1):dJ d1 c1<dJ d2 c2↔0<c1*(1-d2)-c2*(1-d1):=by
 obtain⟨a1,a2⟩:=bF o1;obtain⟨b1,b2⟩:=bF o2;have w1:0<1-d1:=by grind
 have w2:0<1-d2:=by grind
 have ww:=Rat.mul_pos w1 w2;have id:=Q5 o1 o2;unfold dJ
 by_cases h1:0<=c1
 ·rw[oV h1];have p1:=Rat.mul_nonneg h1 (Rat.le_of_lt w2)
  by_cases h2:0<=c2
  ·rw[oV h2];have p2:=Rat.mul_nonneg h2 (Rat.le_of_lt w1)
   by_cases s0:0<c1*(1-d2)+c2*(1-d1)
   ·constructor
    ·intro h;exact bL s0 (by rw[id];exact Rat.mul_pos (Rat.mul_pos (by grind) ww) (by grind))
    ·intro h;have q:0<(d1-d2)*(2*((1-d1)*(1-d2))):=by
      have:(d1-d2)*(2*((1-d1)*(1-d2)))=2*((1-d1)*(1-d2))*(d1-d2):=by grind
      rw[this,<-id];exact Rat.mul_pos h s0
     have:=bL (Rat.mul_pos (show(0:Rat)<2 by grind) ww) q;grind
   ·have z:c1*(1-d2)+c2*(1-d1)=0:=by grind
    rw[z]at id;have:(2*((1-d1)*(1-d2)))*(d1-d2)=0:=by grind
    have e:d1-d2=0:=by
     obtain a|a:=Rat.mul_eq_zero.mp this
     ·grind
     ·exact a
    constructor<;>intro h<;>grind
  ·rw[oW h2];have p2:=Rat.mul_pos (a:=-c2) (b:=1-d1) (by grind) w1;obtain⟨e1,e2⟩:=fR o2 (by grind);constructor<;>intro h<;>grind
 ·rw[oW h1];have p1:=Rat.mul_pos (a:=-c1) (b:=1-d2) (by grind) w2;obtain⟨f1,f2⟩:=fR o1 (by grind)
  by_cases h2:0<=c2
  ·rw[oV h2];have p2:=Rat.mul_nonneg h2 (Rat.le_of_lt w1);constructor<;>intro h<;>grind
  ·rw[oW h2];have p2:=Rat.mul_pos (a:=-c2) (b:=1-d1) (by grind) w1;have s0:0 < -(c1*(1-d2)+c2*(1-d1)):=by grind
   constructor
   ·intro h;refine bL s0 ?_;have:(c1*(1-d2)-c2*(1-d1)) * -(c1*(1-d2)+c2*(1-d1))=(2*((1-d1)*(1-d2)))*(d2-d1):=by grind
    rw[this];exact Rat.mul_pos (Rat.mul_pos (by grind) ww) (by grind)
   ·intro h;have q:0<(d2-d1)*(2*((1-d1)*(1-d2))):=by
     have:(d2-d1)*(2*((1-d1)*(1-d2)))=(c1*(1-d2)-c2*(1-d1)) * -(c1*(1-d2)+c2*(1-d1)):=by grind
     rw[this];exact Rat.mul_pos h s0
    have:=bL (Rat.mul_pos (show(0:Rat)<2 by grind) ww) q;grind
def SS(k:L2.T->Rat)(l:List L2.T):Prop:=l.Pairwise λa b=>k a<k b
theorem K7{k:L2.T->Rat}:∀{a:L2.T}{l:List L2.T},srt k a l->SS k (a::l)
 |a,[],_=>List.pairwise_singleton _ _
 |a,b::l,h=>by
  have ih:=K7 h.2;have q:=YM.mp ih;refine YM.mpr ⟨λt ht=>?_,ih⟩;have h1:=h.1;obtain rfl|ht:=WM.mp ht
  ·exact h1
  ·have:=q.1 t ht;grind
theorem Sk{k:L2.T->Rat}:∀{B:List L2.T},SS k B->(∀r∈B,k r=k u->L2.d6 r u=true)->(∀r∈B,L2.d6 r u=true->r=u)->
  (∀R,SS k R->(∀r∈R,r∈B/\k u<k r)->SS k (M R)/\∀t∈M R,k u<k t)->
  SS k (mU k u M B)/\(∀t∈mU k u M B,k t<k u->t∈B)/\(∀c,k c<k u->(∀r∈B,k c<k r)->∀t∈mU k u M B,k c<k t)
 |[],_,_,_,hM=>by
  obtain⟨h1,h2⟩:=hM [] List.Pairwise.nil (λr h=>by cases h);refine⟨YM.mpr ⟨h2,h1⟩,λt ht hk=>?_,λc hc _ t ht=>?_⟩
  ·obtain rfl|ht:=WM.mp ht
   ·grind
   ·have:=h2 t ht;grind
  ·obtain rfl|ht:=WM.mp ht
   ·exact hc
   ·have:=h2 t ht;grind
 |r::R,hB,inj,eqr,hM=>by
  have q:=YM.mp hB;unfold mU
  by_cases lt:k r<k u
  ·rw[oV lt];obtain⟨i1,i2,i3⟩:=Sk (B:=R) (M:=M) q.2 (λs hs=>inj s (WQ _ hs)) (λs hs=>eqr s (WQ _ hs)) (λR' h h'=>hM R' h λs hs=>⟨WQ _ (h' s hs).1,(h' s hs).2⟩);refine⟨YM.mpr ⟨λt ht=>i3 r lt q.1 t ht,i1⟩,λt ht hk=>?_,λc hc hr t ht=>?_⟩
   ·obtain rfl|ht:=WM.mp ht
    ·exact WW ..
    ·exact WQ _ (i2 t ht hk)
   ·obtain rfl|ht:=WM.mp ht
    ·exact hr _ (WW ..)
    ·exact i3 c hc (λs hs=>hr s (WQ _ hs)) t ht
  ·rw[oW lt];have hR:∀s∈(if L2.d6 r u=true then R else r::R),s∈r::R/\k u<k s:=λs hs=>by
    split at hs
    ·rename_i e;have:=q.1 s hs;have e':=eqr r (WW ..) e;exact⟨WQ _ hs,by rw[<-e'];exact this⟩
    ·rename_i e;refine⟨hs,?_⟩;have ne:k r≠k u:=λz=>e (inj r (WW ..) z);obtain rfl|hs:=WM.mp hs
     ·grind
     ·have:=q.1 s hs;grind
   have sR:SS k (if L2.d6 r u=true then R else r::R):=by
    split
    ·exact q.2
    ·exact hB
   obtain⟨h1,h2⟩:=hM _ sR hR;refine⟨YM.mpr ⟨h2,h1⟩,λt ht hk=>?_,λc hc _ t ht=>?_⟩
   ·obtain rfl|ht:=WM.mp ht
    ·grind
    ·have:=h2 t ht;grind
   ·obtain rfl|ht:=WM.mp ht
    ·exact hc
    ·have:=h2 t ht;grind
theorem Zx{k:L2.T->Rat}:∀{A B:List L2.T},SS k A->SS k B->(∀u∈A,∀r∈B,k r=k u->L2.d6 r u=true)->(∀u∈A,∀r∈B,L2.d6 r u=true->r=u)->
  SS k (vJ k A B)/\(∀c,(∀u∈A,k c<k u)->(∀r∈B,k c<k r)->∀t∈vJ k A B,k c<k t)
 |[],B,_,_,_,_=>⟨List.Pairwise.nil,λc _ _ t ht=>by cases ht⟩
 |u::A,B,hA,hB,inj,eqr=>by
  have q:=YM.mp hA;have ih:∀R,SS k R->(∀r∈R,r∈B/\k u<k r)->SS k (vJ k A R)/\∀t∈vJ k A R,k u<k t:=λR hR h'=>by
   obtain⟨h1,h2⟩:=Zx (A:=A) (B:=R) q.2 hR (λv hv r hr=>inj v (WQ _ hv) r (h' r hr).1) (λv hv r hr=>eqr v (WQ _ hv) r (h' r hr).1);exact⟨h1,h2 u q.1 λr hr=>(h' r hr).2⟩
  obtain⟨i1,i2,i3⟩:=Sk (u:=u) (M:=vJ k A) hB (inj u (WW ..)) (eqr u (WW ..)) ih;exact⟨i1,λc hc hr=>i3 c (hc u (WW ..)) hr⟩
def Q0(k:L2.T->Rat)(u:L2.T):List L2.T->List L2.T
 |[]=>[]
 |r::R=>if k r<k u then Q0 k u R else(if L2.d6 r u=true then R else r::R)
def KQ(k:L2.T->Rat)(u:L2.T):List L2.T->List L2.T
 |[]=>[]
 |r::R=>if k r<k u then r::KQ k u R else[]
theorem CA{k:L2.T->Rat}:∀B:List L2.T,mU k u M B=KQ k u B++u::M (Q0 k u B)
 |[]=>rfl
 |r::R=>by
  unfold mU KQ Q0
  split
  ·rw[CA R];rfl
  ·rfl
theorem G7{k:L2.T->Rat}:∀{B:List L2.T}{r:L2.T},r∈B->r∈KQ k u B\/L2.d6 r u=true\/r∈Q0 k u B
 |s::R,r,h=>by
  unfold KQ Q0
  by_cases lt:k s<k u
  ·rw[oV lt,oV lt];obtain rfl|h:=WM.mp h
   ·exact .inl (WW ..)
   ·obtain h|h|h:=G7 h
    ·exact .inl (WQ _ h)
    ·exact .inr (.inl h)
    ·exact .inr (.inr h)
  ·rw[oW lt,oW lt]
   by_cases e:L2.d6 s u=true
   ·rw[oV e];obtain rfl|h:=WM.mp h
    ·exact .inr (.inl e)
    ·exact .inr (.inr h)
   ·rw[oW e];exact .inr (.inr h)
theorem G6{k:L2.T->Rat}:∀{B:List L2.T},SS k B->(∀r∈B,k r=k u->L2.d6 r u=true)->(∀r∈B,L2.d6 r u=true->r=u)->SS k (Q0 k u B)/\∀r∈Q0 k u B,r∈B/\k u<k r
 |[],_,_,_=>⟨List.Pairwise.nil,λr h=>by cases h⟩
 |s::R,hB,inj,eqr=>by
  have q:=YM.mp hB;unfold Q0
  by_cases lt:k s<k u
  ·rw[oV lt];obtain⟨h1,h2⟩:=G6 (B:=R) q.2 (λr hr=>inj r (WQ _ hr)) (λr hr=>eqr r (WQ _ hr));exact⟨h1,λr hr=>⟨WQ _ (h2 r hr).1,(h2 r hr).2⟩⟩
  ·rw[oW lt]
   by_cases e:L2.d6 s u=true
   ·rw[oV e];have e':=eqr s (WW ..) e;exact⟨q.2,λr hr=>⟨WQ _ hr,by rw[<-e'];exact q.1 r hr⟩⟩
   ·rw[oW e];have ne:k s≠k u:=λz=>e (inj s (WW ..) z);refine⟨hB,λr hr=>⟨hr,?_⟩⟩;obtain rfl|hr:=WM.mp hr
    ·grind
    ·have:=q.1 r hr;grind
theorem Sl{k:L2.T->Rat}:∀{A B:List L2.T},SS k B->(∀u∈A,∀r∈B,k r=k u->L2.d6 r u=true)->(∀u∈A,∀r∈B,L2.d6 r u=true->r=u)->(∀r∈B,∃u∈A,k r<=k u)->
  (∀u∈A,u∈vJ k A B)/\∀r∈B,r∈vJ k A B
 |[],B,_,_,_,h=>⟨λu hu=>(by cases hu),λr hr=>(by obtain⟨u,hu,_⟩:=h r hr;cases hu)⟩
 |u::A,B,hB,inj,eqr,h=>by
  have e:vJ k (u::A) B=KQ k u B++u::vJ k A (Q0 k u B):=CA B;obtain⟨g1,g2⟩:=G6 hB (inj u (WW ..)) (eqr u (WW ..));obtain⟨i1,i2⟩:=Sl (A:=A) (B:=Q0 k u B) g1 (λv hv r hr=>inj v (WQ _ hv) r (g2 r hr).1) (λv hv r hr=>eqr v (WQ _ hv) r (g2 r hr).1) (λr hr=>by
   obtain⟨v,hv,le⟩:=h r (g2 r hr).1;obtain rfl|hv:=WM.mp hv
   ·have:=(g2 r hr).2;grind
   ·exact⟨v,hv,le⟩)
  rw[e];refine⟨λv hv=>?_,λr hr=>?_⟩
  ·obtain rfl|hv:=WM.mp hv
   ·simp
   ·exact XA _ (WQ _ (i1 v hv))
  ·rcases G7 (k:=k) (u:=u) hr with h1|h1|h1
   ·exact YL _ h1
   ·have:=eqr u (WW ..) r hr h1;rw[this];simp
   ·exact XA _ (WQ _ (i2 r h1))
theorem Rj(hx:bC x)(hy:bC y)(h:val x*val x+val y*val y=1):y.2.natAbs∣x.2.natAbs:=by
 have h1:=hx.neR;have h2:=hy.neR;have e:(y.1*y.1)*(x.2*x.2)=(y.2*y.2)*(x.2*x.2-x.1*x.1):=by
  unfold val at h;have h':(y.1:Rat)*y.1*(x.2*x.2)=y.2*y.2*(x.2*x.2-x.1*x.1):=by grind
  exact_mod_cast h'
 have d1:y.2.natAbs^2∣y.1.natAbs^2*x.2.natAbs^2:=by
  have:(y.1*y.1*(x.2*x.2)).natAbs=y.1.natAbs^2*x.2.natAbs^2:=by rw[XZ,XZ,XZ,fq,fq]
  rw[<-this,e,XZ,XZ,<-fq];exact Nat.dvd_mul_right _ _
 have cp:bh (y.2.natAbs^2) (y.1.natAbs^2):=Nat.Coprime.pow 2 2 (by unfold bh;rw[cj];exact hy.g);exact(Nat.pow_dvd_pow_iff ∅).mp (cp.dvd_of_dvd_mul_left d1)
theorem EO(hx:bC x)(hy:bC y)(h:val x*val x+val y*val y=1):x.2=y.2:=by
 have a:=Rj hx hy h;have b:=Rj hy hx (by rw[<-h];grind);have c:=Nat.dvd_antisymm a b;have:=hx.d;have:=hy.d
 lia
theorem K9{n d:Int}(hp:bC p)(hd:d≠0)(h:val p=(n:Rat)/(d:Rat))(h1:n.natAbs<2^e)(h2:d.natAbs<2^e)(he:1<=e):sz p<=e:=by
 have:p=jY n d:=bM hp (iW hd) (by rw[hJ hd];exact h);rw[this];exact oR hd h1 h2 he
theorem UD(h:cD x y e)(k:cD p q f)(hr:bC r)(n:Int)(hn:n.natAbs<2^(e+f+1))(hv:val r=(n:Rat)/((x.2*p.2:Int):Rat)):sz r<=e+f+1:=
 K9 hr (fM h.nv.x k.nv.x) hv hn (pl (bR (pl (cG x) h.nv.sx) (pl (cG p) k.nv.sx)) ⋯) ⋯
theorem LF{a b c d:Int}(h1:a.natAbs<2^e)(h2:b.natAbs<2^f)(h3:c.natAbs<2^e)(h4:d.natAbs<2^f):(a*b+c*d).natAbs<2^(e+f+1)/\(a*b-c*d).natAbs<2^(e+f+1):=⟨rC (bR h1 h2) (bR h3 h4),Ih (bR h1 h2) (bR h3 h4)⟩
theorem cD.n1(h:cD x y e):x.1.natAbs<2^e:=pl (eQ x) h.nv.sx
theorem cD.n2(h:cD x y e):y.1.natAbs<2^e:=pl (eQ y) h.nv.sy
theorem cD.eqd(h:cD x y e):x.2=y.2:=EO h.nv.x h.nv.y h.one
theorem vB(h:cD x y e)(k:cD p q f):sz (bW x y p q)<=e+f+1:=by
 refine UD h k (aY h.nv k.nv) (x.1*p.1+y.1*q.1) (LF h.n1 k.n1 h.n2 k.n2).1 ?_;rw[cP h.nv k.nv];have d1:=h.eqd;have d2:=k.eqd;have z1:=h.nv.x.neR;have z2:=k.nv.x.neR;unfold val;rw[<-d1,<-d2]
 push_cast
 grind
theorem cD.trU(h:cD x y e)(k:cD p q f):cD (O0 x y p q) (N9 x y p q) (e+f+1):=by
 have t:=h.tr k;have d1:=h.eqd;have d2:=k.eqd;have z1:=h.nv.x.neR;have z2:=k.nv.x.neR;refine⟨⟨t.nv.x,t.nv.y,UD h k t.nv.x (x.1*p.1-y.1*q.1) (LF h.n1 k.n1 h.n2 k.n2).2 ?_,UD h k t.nv.y (x.1*q.1+y.1*p.1) (LF h.n1 k.n2 h.n2 k.n1).1 ?_⟩,t.one⟩
 ·rw[i9 h.nv k.nv];unfold val;rw[<-d1,<-d2]
  push_cast
  grind
 ·rw[i8 h.nv k.nv];unfold val;rw[<-d1,<-d2]
  push_cast
  grind
theorem AX(h:cD x y e)(k:cD p q f)(n:(aW (1,1) (bW x y p q)).1≠0):bC (pC x y p q)/\sz (pC x y p q)<=e+f+2:=by
 have nn:=(Ay h.nv k.nv n).1;refine⟨nn,?_⟩;have d1:=h.eqd;have d2:=k.eqd;have z1:=h.nv.x.neR;have z2:=k.nv.x.neR;have na:=cE (aI 1) (aY h.nv k.nv);have va:=bE (aI 1) (aY h.nv k.nv);rw[fT,cP h.nv k.nv]at va;have nz:val (aW (1,1) (bW x y p q))≠0:=λz=>by
  have:=(tT na).1 (by grind);have:=(dY na).1 (by grind)
  lia
 have vt:val (pC x y p q)=(val x*val q-val y*val p)/(1+(val x*val p+val y*val q)):=by
  unfold pC;rw[i7 (cC h.nv k.nv) na n,cV h.nv k.nv,va]
 rw[va]at nz;have b1:=(LF h.n1 k.n2 h.n2 k.n1).2;have b2:=(LF h.n1 k.n1 h.n2 k.n2).1;have b3:(x.2*p.2).natAbs<2^(e+f):=bR (pl (cG x) h.nv.sx) (pl (cG p) k.nv.sx);have hd:x.2*p.2+(x.1*p.1+y.1*q.1)≠0:=λz=>by
  apply nz;have z':(x.2:Rat)*p.2+(x.1*p.1+y.1*q.1)=0:=by exact_mod_cast z
  unfold val;rw[<-d1,<-d2];grind
 refine K9 nn hd ?_ (pl b1 ⋯) (rC (pl b3 ⋯) b2) ⋯;rw[vt];have hd':((x.2*p.2+(x.1*p.1+y.1*q.1):Int):Rat)≠0:=by exact_mod_cast hd
 unfold val at nz⊢;rw[<-d1,<-d2]at nz⊢
 push_cast at hd'⊢
 grind
theorem PH(h:bC t)(hg:sz t<=g):cD (cT t) (sT t) (2*g+1):=⟨(Dr h).up ⋯,by
 rw[tS h,tV h];have:=u9 (val t);grind⟩
theorem PJ(h:cD x y e)(n:bC t)(hg:sz t<=g):cD (O0 x y (cT t) (sT t)) (N9 x y (cT t) (sT t)) (e+2*g+2):=(h.trU (PH n hg)).up ⋯
def Uv(e:Nat)(t:L2.T):Prop:=∃a b,t=vc a b/\cD a b e
theorem Uv.up(h:Uv e t)(k:e<=f):Uv f t:=let⟨a,b,h1,h2⟩:=h;⟨a,b,h1,h2.up k⟩
theorem O5{s:Int}(h:cD x y e)(n:bC t)(hg:sz t<=g)(hs:s=1\/s=2\/s=3):∀u∈yA x y t s,Uv (e+2*g+6) u:=by
 intro u hu;obtain⟨k,hk,rfl⟩:=YI.mp hu;have kb:k.natAbs<=3:=by
  unfold GQ at hk;split at hk
  ·simp at hk;lia
  ·split at hk
   ·simp at hk;lia
   ·simp at hk;lia
 obtain⟨n1,n2⟩:=Lw (s:=s) kb ⋯;have:=bJ n n1;exact⟨_,_,rfl,(PJ h (aK n n1) (show _<=g+2 by lia)).up ⋯⟩
theorem Ug{s:Int}(k:cD p q f)(hs:s=1\/s=2\/s=3):∀(m:Nat)(x y:Fr),cD x y e->xM p q m x y->∀u∈qb p q s m x y,Uv (3*e+2*f+10) u
 |0,x,y,h,r,u,hu=>by
  have hu:u∈jE p q s x y:=hu;unfold jE at hu;split at hu
  ·cases hu
  ·obtain⟨t1,t2⟩:=AX h k (mQ h.nv k.nv r);exact(O5 h t1 t2 hs u hu).up ⋯
 |m+1,x,y,h,r,u,hu=>by
  have hu:u∈yA x y (1,1) s++qb p q s m (aR y) x:=hu;obtain hu|hu:=XF.mp hu
  ·exact(O5 h (aI 1) (show sz (1,1)<=1 by decide) hs u hu).up ⋯
  ·exact Ug k hs m (aR y) x h.left r.2 u hu
theorem Zs{k:L2.T->Rat}(h:∀B,a<=(M B).length/\(M B).length<=a+B.length):∀B,a+1<=(mU k u M B).length/\(mU k u M B).length<=a+1+B.length
 |[]=>by
  have:=h [];show a+1<=(M []).length+1/\(M []).length+1<=a+1+0;simp at this
  lia
 |r::R=>by
  unfold mU
  split
  ·have:=Zs (k:=k) (u:=u) h R;simp only[XG]
   lia
  ·have h2:=h (if L2.d6 r u=true then R else r::R);simp only[XG];split at h2
   ·split
    ·lia
    ·contradiction
   ·split
    ·contradiction
    ·simp only[XG]at h2
     lia
theorem Sg(k:L2.T->Rat):∀A B,A.length<=(vJ k A B).length/\(vJ k A B).length<=A.length+B.length
 |[],B=>⟨WS _,WS _⟩
 |u::A,B=>Zs (k:=k) (u:=u) (M:=vJ k A) (a:=A.length) (Sg k A) B
theorem GU{s:Int}(hs:s=1\/s=2\/s=3)(hm:m<=3)(hm':m'<=3)(ne:¬(p=x/\q=y)):2<=(rO x y p q s m m').length/\(rO x y p q s m m').length<=30:=by
 have l:=Sg (kf x y) (vc x y::qb p q s m x y) (Jd x y p q s m');have l1:=Zr x y p q hs m';have l2:=Gg p q hs m x y;have l3:1<=(qb p q s m x y).length:=by
  have le:∀t:Fr,1<=(yA x y t s).length:=λt=>by rcases hs with rfl|rfl|rfl<;>simp[yA,GQ]
  cases m with
  |zero=>
   show 1<=(jE p q s x y).length;unfold jE;rw[oW (λz=>ne ⟨z.1.symm,z.2.symm⟩)];exact le _
  |succ m=>
   show 1<=(yA x y (1,1) s++qb p q s m (aR y) x).length;rw[WK];have:=le (1,1)
   lia
 rw[XG]at l;unfold rO
 lia
theorem sO{d c:Rat}(o:d*d+c*c=1):0<=dJ d c:=by
 obtain⟨h1,h2⟩:=bF o;unfold dJ
 split<;>grind
theorem Gf{d c:Rat}(o:d*d+c*c=1)(n:d≠1):0<dJ d c:=by
 obtain⟨h1,h2⟩:=bF o;unfold dJ
 split
 ·grind
 ·grind
theorem nD{c:Rat}(o:1*1+c*c=1):dJ 1 c=0:=by
 have:c*c=0:=by grind
 have z:c=0:=by rcases Rat.mul_eq_zero.mp this with a|a<;>exact a
 rw[z];unfold dJ;rw[oV (by grind)];grind
theorem Mr{ax ay bx bY ux uy vx vy:Rat}(oa:ax*ax+ay*ay=1)(ob:bx*bx+bY*bY=1)(ou:ux*ux+uy*uy=1)(ov:vx*vx+vy*vy=1)(h:dJ (bx*ux+bY*uy) (-(bx*uy-bY*ux))<dJ (bx*vx+bY*vy) (-(bx*vy-bY*vx)))(hv:dJ (bx*vx+bY*vy) (-(bx*vy-bY*vx))<dJ (bx*ax+bY*ay) (-(bx*ay-bY*ax))):dJ (ax*vx+ay*vy) (ax*vy-ay*vx)<dJ (ax*ux+ay*uy) (ax*uy-ay*ux):=by
 have Ou:(bx*ux+bY*uy)*(bx*ux+bY*uy)+(-(bx*uy-bY*ux))*(-(bx*uy-bY*ux))=1:=by grind
 have Ov:(bx*vx+bY*vy)*(bx*vx+bY*vy)+(-(bx*vy-bY*vx))*(-(bx*vy-bY*vx))=1:=by grind
 have Oa:(bx*ax+bY*ay)*(bx*ax+bY*ay)+(-(bx*ay-bY*ax))*(-(bx*ay-bY*ax))=1:=by grind
 have Pv:(ax*vx+ay*vy)*(ax*vx+ay*vy)+(ax*vy-ay*vx)*(ax*vy-ay*vx)=1:=by grind
 have Pu:(ax*ux+ay*uy)*(ax*ux+ay*uy)+(ax*uy-ay*ux)*(ax*uy-ay*ux)=1:=by grind
 have kU:=sO Ou;have nv:bx*vx+bY*vy≠1:=λe=>by
  have:=nD (c:=-(bx*vy-bY*vx)) (by rw[e]at Ov;exact Ov);rw[e,this]at h;grind
 have kV:=Gf Ov nv;have na:bx*ax+bY*ay≠1:=λe=>by
  have:=nD (c:=-(bx*ay-bY*ax)) (by rw[e]at Oa;exact Oa);rw[e,this]at hv;grind
 obtain⟨_,b2⟩:=bF Ov;obtain⟨_,a2⟩:=bF Oa;obtain⟨_,u2⟩:=bF Ou;have h1:=(mK Ov Oa nv na).1 hv;have aFN:0<(ax*vy-ay*vx)*(1-(ax*ux+ay*uy))-(ax*uy-ay*ux)*(1-(ax*vx+ay*vy)):=by
  have id1:(ax*vy-ay*vx)*(1-(ax*ux+ay*uy))-(ax*uy-ay*ux)*(1-(ax*vx+ay*vy))=(ax*vy-ay*vx)+(vx*uy-vy*ux)+(ux*ay-uy*ax):=by grind
  rw[id1]
  by_cases nu:bx*ux+bY*uy=1
  ·have z:(bx*uy-bY*ux)*(bx*uy-bY*ux)=0:=by rw[nu]at Ou;grind
   have z0:bx*uy-bY*ux=0:=by rcases Rat.mul_eq_zero.mp z with a|a<;>exact a
   have ex:ux=bx:=by
    have:ux=bx*(bx*ux+bY*uy)-bY*(bx*uy-bY*ux):=by grind
    rw[nu,z0]at this;grind
   have ey:uy=bY:=by
    have:uy=bY*(bx*ux+bY*uy)+bx*(bx*uy-bY*ux):=by grind
    rw[nu,z0]at this;grind
   rw[ex,ey];have id2:-(bx*vy-bY*vx)*(1-(bx*ax+bY*ay)) - -(bx*ay-bY*ax)*(1-(bx*vx+bY*vy))=(ax*vy-ay*vx)+(vx*bY-vy*bx)+(bx*ay-bY*ax):=by grind
   rw[<-id2];exact h1
  ·have h2:=(mK Ou Ov nu nv).1 h;have t:=(Cy (ca:=bx*ay-bY*ax) (wa:=1-(bx*ax+bY*ay)) (cv:=bx*vy-bY*vx) (wv:=1-(bx*vx+bY*vy)) (cu:=bx*uy-bY*ux) (wu:=1-(bx*ux+bY*uy))
    (by grind) (by grind) (by grind) (by grind) (by grind) (by grind) (by grind) (by grind)).2
   have id3:((bx*ay-bY*ax)*(1-(bx*vx+bY*vy))-(bx*vy-bY*vx)*(1-(bx*ax+bY*ay)))+((bx*vy-bY*vx)*(1-(bx*ux+bY*uy))-(bx*uy-bY*ux)*(1-(bx*vx+bY*vy)))-((bx*ay-bY*ax)*(1-(bx*ux+bY*uy))-(bx*uy-bY*ux)*(1-(bx*ax+bY*ay)))=(ax*vy-ay*vx)+(vx*uy-vy*ux)+(ux*ay-uy*ax):=by grind
   rw[id3]at t;exact t
 have n1:ax*vx+ay*vy≠1:=λe=>by
  have z:(ax*vy-ay*vx)*(ax*vy-ay*vx)=0:=by rw[e]at Pv;grind
  have z0:ax*vy-ay*vx=0:=by rcases Rat.mul_eq_zero.mp z with a|a<;>exact a
  rw[e,z0]at aFN;grind
 have n2:ax*ux+ay*uy≠1:=λe=>by
  have z:(ax*uy-ay*ux)*(ax*uy-ay*ux)=0:=by rw[e]at Pu;grind
  have z0:ax*uy-ay*ux=0:=by rcases Rat.mul_eq_zero.mp z with a|a<;>exact a
  rw[e,z0]at aFN;grind
 exact(mK Pv Pu n1 n2).2 aFN
theorem Up{ax ay bx bY ux uy:Rat}(oa:ax*ax+ay*ay=1)(ou:ux*ux+uy*uy=1)(h:dJ (bx*ux+bY*uy) (-(bx*uy-bY*ux))<dJ (bx*ax+bY*ay) (-(bx*ay-bY*ax))):dJ (ax*ax+ay*ay) (ax*ay-ay*ax)<dJ (ax*ux+ay*uy) (ax*uy-ay*ux):=by
 have Pu:(ax*ux+ay*uy)*(ax*ux+ay*uy)+(ax*uy-ay*ux)*(ax*uy-ay*ux)=1:=by grind
 have n2:ax*ux+ay*uy≠1:=λe=>by
  have z:(ax*uy-ay*ux)*(ax*uy-ay*ux)=0:=by rw[e]at Pu;grind
  have z0:ax*uy-ay*ux=0:=by rcases Rat.mul_eq_zero.mp z with a|a<;>exact a
  have ex:ux=ax:=by
   have:ux=ax*(ax*ux+ay*uy)-ay*(ax*uy-ay*ux):=by grind
   rw[e,z0]at this;grind
  have ey:uy=ay:=by
   have:uy=ay*(ax*ux+ay*uy)+ax*(ax*uy-ay*ux):=by grind
   rw[e,z0]at this;grind
  rw[ex,ey]at h;grind
 have k1:dJ (ax*ax+ay*ay) (ax*ay-ay*ax)=0:=by
  rw[oa];exact nD (by grind)
 rw[k1];exact Gf Pu n2
theorem AR{k:L2.T->Rat}(h:srt k a l)(ht:t∈a::l):t=lst a l\/k t<k (lst a l):=by
 obtain⟨i,hi⟩:=YT ht;have il:=(WE.mp hi).1;rw[XG]at il;obtain c|c:=XQ i l.length
 ·exact .inr (vA h hi c)
 ·left
  obtain⟨L,hL⟩:=Gi a l;have ll:l.length+1=L.length+1:=by have:=congrArg List.length hL;simpa using this
  rw[hL]at hi;have:i=L.length:=⋯
  subst this;simp at hi;exact hi.symm
theorem AS(h:cD x y e)(k:cD p q f)(ss:SS (kf (aR p) q) L)(uv:∀t∈L,Uv g t)(mx:∀t∈L,t=vc (aR x) y\/kf (aR p) q t<kf (aR p) q (vc (aR x) y)):SS (kf x y) ((L.reverse).map Rw):=by
 unfold SS;rw[List.pairwise_map,List.pairwise_reverse];refine List.Pairwise.imp_of_mem ?_ ss;intro u' v' hu hv huv;obtain⟨ua,ub,rfl,nu⟩:=uv u' hu;have nu1:=nu.nv.x;have nu2:=nu.nv.y;have ou:=nu.one;have vP:=b7 k.nv.x;have vX:=b7 h.nv.x;have vu:=b7 nu1;obtain rfl|yc:=mx v' hv
 ·rw[pR,pR,Dg];rw[iV,iV,vP,vX]at huv;rw[iV,iV,vu];refine Up (bx:=val p) (bY:=val q) h.one (by grind) ?_;have e1:val p * -val ua+val q*val ub = -val p*val ua+val q*val ub:=by grind
  have e2:-(val p*val ub-val q * -val ua) = -val p*val ub-val q*val ua:=by grind
  have e3:val p*val x+val q*val y = -val p * -val x+val q*val y:=by grind
  have e4:-(val p*val y-val q*val x) = -val p*val y-val q * -val x:=by grind
  rw[e1,e2,e3,e4];exact huv
 ·obtain⟨va,vb,rfl,nv⟩:=uv v' hv;have nv1:=nv.nv.x;have nv2:=nv.nv.y;have ov:=nv.one;have vv:=b7 nv1;rw[pR,pR];rw[iV,iV,vP]at huv yc;rw[vX]at yc;rw[iV,iV,vu,vv];have e1:val p * -val ua+val q*val ub = -val p*val ua+val q*val ub:=by grind
  have e2:-(val p*val ub-val q * -val ua) = -val p*val ub-val q*val ua:=by grind
  have e3:val p*val x+val q*val y = -val p * -val x+val q*val y:=by grind
  have e4:-(val p*val y-val q*val x) = -val p*val y-val q * -val x:=by grind
  have e5:val p * -val va+val q*val vb = -val p*val va+val q*val vb:=by grind
  have e6:-(val p*val vb-val q * -val va) = -val p*val vb-val q*val va:=by grind
  refine Mr (bx:=val p) (bY:=val q) h.one k.one (by grind) (by grind) ?_ ?_
  ·rw[e1,e2,e5,e6];exact huv
  ·rw[e3,e4,e5,e6];exact yc
theorem Se{d1 c1 d2 c2:Rat}(o1:d1*d1+c1*c1=1)(o2:d2*d2+c2*c2=1)(h:dJ d1 c1=dJ d2 c2):d1=d2/\c1=c2:=by
 have one:∀{d c d' c':Rat},d'*d'+c'*c'=1->d*d+c*c=1->0<=c->¬0<=c'->1-d=3+d'->False:=λ{d c d' c'}o' o hc zl e=>by
  obtain⟨a1,_⟩:=fR o' (by grind);obtain⟨b1,_⟩:=bF o;grind
 have same:∀{d c c':Rat},d*d+c*c=1->d*d+c'*c'=1->(c-c')*(c+c')=0:=by intros;grind
 unfold dJ at h
 by_cases h1:0<=c1
 ·rw[oV h1]at h
  by_cases h2:0<=c2
  ·rw[oV h2]at h;have e:d1=d2:=by grind
   subst e;obtain z|z:=Rat.mul_eq_zero.mp (same o1 o2)
   ·exact⟨rfl,by grind⟩
   ·exact⟨rfl,by grind⟩
  ·rw[oW h2]at h;exact(one o2 o1 h1 h2 h).elim
 ·rw[oW h1]at h
  by_cases h2:0<=c2
  ·rw[oV h2]at h;exact(one o1 o2 h2 h1 h.symm).elim
  ·rw[oW h2]at h;have e:d1=d2:=by grind
   subst e;obtain z|z:=Rat.mul_eq_zero.mp (same o1 o2)
   ·exact⟨rfl,by grind⟩
   ·exact⟨rfl,by grind⟩
theorem d9{a b c d:Rat}(h:a*a+b*b=1)(k:c*c+d*d=1):(a*c+b*d)*(a*c+b*d)+(a*d-b*c)*(a*d-b*c)=1:=by grind
theorem Zp(h:cD x y e)(hu:Uv f u)(hv:Uv g v)(eq:kf x y u=kf x y v):u=v:=by
 obtain⟨a,b,rfl,ua⟩:=hu;obtain⟨c,d,rfl,uc⟩:=hv;rw[iV,iV]at eq;have o:=h.one;obtain⟨e1,e2⟩:=Se (d9 o ua.one) (d9 o uc.one) eq;have f1:val a=val c:=by
  have g1:val a=val x*(val x*val a+val y*val b)-val y*(val x*val b-val y*val a):=by grind
  have g2:val c=val x*(val x*val c+val y*val d)-val y*(val x*val d-val y*val c):=by grind
  rw[g1,g2,e1,e2]
 have f2:val b=val d:=by
  have g1:val b=val y*(val x*val a+val y*val b)+val x*(val x*val b-val y*val a):=by grind
  have g2:val d=val y*(val x*val c+val y*val d)+val x*(val x*val d-val y*val c):=by grind
  rw[g1,g2,e1,e2]
 rw[bM ua.nv.x uc.nv.x f1,bM ua.nv.y uc.nv.y f2]
theorem Ng(hu:Uv e u)(hv:Uv f v):L2.d6 u v=true↔u=v:=by
 obtain⟨a,b,rfl,ua⟩:=hu;obtain⟨c,d,rfl,uc⟩:=hv;rw[Dd];constructor
 ·intro h;have:=of_decide_eq_true h;rw[this.1,this.2]
 ·intro h;have e:=congrArg cx h;rw[pP,pP]at e;exact oY ⟨congrArg Prod.fst e,congrArg Prod.snd e⟩
theorem qF:∀{m n:Nat}{x y:Fr},xM p q m x y->xM p q n x y->m=n
 |0,0,_,_,_,_=>rfl
 |0,_+1,_,_,h,k=>absurd k.1 h
 |_+1,0,_,_,h,k=>absurd h.1 k
 |m+1,n+1,_,_,h,k=>by rw[qF h.2 k.2]
structure dD(x y p q:Fr)(e f:Nat)(s:Int)(m m':Nat):Prop where
 h:cD x y e
 k:cD p q f
 ef:e+f<=140
 e1:e<=100
 f1:f<=100
 hs:s=1\/s=2\/s=3
 hm:m<=3
 hm':m'<=3
 r:xM p q m x y
 r':xM (aR x) y m' (aR p) q
abbrev aL(x y p q:Fr)(s:Int)(m:Nat):List L2.T:=vc x y::qb p q s m x y
theorem dD.flip{s:Int}(E:dD x y p q e f s m m'):dD (aR p) q (aR x) y f e s m' m:=⟨E.k.flip,E.h.flip,by have:=E.ef;lia,E.f1,E.e1,E.hs,E.hm',E.hm,E.r',by rw[Dg,Dg];exact E.r⟩
theorem dD.auv(E:dD x y p q e f s m m'):∀t∈aL x y p q s m,Uv 400 t:=λt ht=>by
 have:=E.ef;have:=E.e1;have:=E.f1;obtain rfl|ht:=WM.mp ht
 ·exact⟨x,y,rfl,E.h.up ⋯⟩
 ·exact(Ug E.k E.hs m x y E.h E.r t ht).up ⋯
theorem FT(h:Uv g t):Uv g (Rw t)/\Rw (Rw t)=t:=by
 obtain⟨a,b,rfl,u⟩:=h;exact⟨⟨aR a,b,rfl,u.flip⟩,by rw[pR,pR,Dg]⟩
theorem BL{s:Int}:Jd x y p q s m'=((aL (aR p) q (aR x) y s m').reverse).map Rw:=rfl
theorem dD.buv(E:dD x y p q e f s m m'):∀t∈Jd x y p q s m',Uv 400 t:=λt ht=>by
 obtain⟨z,hz,rfl⟩:=YI.mp ht;exact(FT (E.flip.auv z (dr.mp hz))).1
theorem dD.srt{s:Int}(E:dD x y p q e f s m m'):My.srt (kf x y) (vc x y) (qb p q s m x y):=by
 have at0:At 0 (val x*val x+val y*val y) (val x*val y-val y*val x):=.inl ⟨rfl,E.h.one,by grind⟩;exact Qi (s:=s) E.h E.k E.e1 E.ef E.hs m 0 x y E.h (by have:=E.hm;lia) at0 E.r
theorem dD.chn{s:Int}(E:dD x y p q e f s m m'):My.chn (vc x y) (qb p q s m x y)/\lst (vc x y) (qb p q s m x y)=vc p q:=zC E.k E.e1 E.ef E.hs m x y E.h E.r
theorem dD.ass{s:Int}(E:dD x y p q e f s m m'):SS (kf x y) (aL x y p q s m):=K7 E.srt
theorem dD.amax(E:dD x y p q e f s m m'):∀t∈aL x y p q s m,t=vc p q\/kf x y t<kf x y (vc p q):=λt ht=>by
 have:=AR E.srt ht;rw[E.chn.2]at this;exact this
theorem dD.alast{s:Int}(E:dD x y p q e f s m m'):vc p q∈aL x y p q s m:=by
 obtain⟨L,hL⟩:=Gi (vc x y) (qb p q s m x y);rw[E.chn.2]at hL;show vc p q∈vc x y::qb p q s m x y;rw[hL];simp
theorem dD.bss{s:Int}(E:dD x y p q e f s m m'):SS (kf x y) (Jd x y p q s m'):=by
 rw[BL];exact AS E.h E.k E.flip.ass E.flip.auv E.flip.amax
theorem dD.bmax(E:dD x y p q e f s m m'):∀t∈Jd x y p q s m',kf x y t<=kf x y (vc p q):=by
 have ss:=E.bss;have e0:Jd x y p q s m'=((qb (aR x) y s m' (aR p) q).reverse).map Rw++[vc p q]:=by
  rw[BL];show((vc (aR p) q::qb (aR x) y s m' (aR p) q).reverse).map Rw=_;rw[ZR,WU];show _++[Rw (vc (aR p) q)]=_;rw[pR,Dg]
 rw[e0]at ss⊢;have q:=(List.pairwise_append.mp ss).2.2;intro t ht;obtain c|c:=XF.mp ht
 ·exact Rat.le_of_lt (q t c _ (by simp))
 ·rw[WT]at c;rw[c];exact Rat.le_refl
theorem dD.ub{s:Int}(E:dD x y p q e f s m m'):SS (kf x y) (rO x y p q s m m')/\∀t,t∈rO x y p q s m m'↔t∈aL x y p q s m\/t∈Jd x y p q s m':=by
 have inj:∀u∈aL x y p q s m,∀r∈Jd x y p q s m',kf x y r=kf x y u->L2.d6 r u=true:=λu hu r hr z=>by
  have:=Zp E.h (E.buv r hr) (E.auv u hu) z;exact(Ng (E.buv r hr) (E.auv u hu)).2 this
 have eqr:∀u∈aL x y p q s m,∀r∈Jd x y p q s m',L2.d6 r u=true->r=u:=λu hu r hr z=>(Ng (E.buv r hr) (E.auv u hu)).1 z;have has:=Sl (k:=kf x y) (A:=aL x y p q s m) E.bss inj eqr λr hr=>⟨vc p q,E.alast,E.bmax r hr⟩;refine⟨(Zx E.ass E.bss inj eqr).1,λt=>⟨λh=>yG h,λh=>?_⟩⟩;obtain h|h:=h
 ·exact has.1 t h
 ·exact has.2 t h
theorem dD.uuv(E:dD x y p q e f s m m'):∀t∈rO x y p q s m m',Uv 400 t:=λt ht=>by
 rcases(E.ub.2 t).1 ht with h|h
 ·exact E.auv t h
 ·exact E.buv t h
theorem dD.umax(E:dD x y p q e f s m m'):∀t∈rO x y p q s m m',kf x y t<=kf x y (vc p q):=λt ht=>by
 rcases(E.ub.2 t).1 ht with h|h
 ·obtain z|z:=E.amax t h
  ·rw[z];exact Rat.le_refl
  ·exact Rat.le_of_lt z
 ·exact E.bmax t h
theorem V1(h:cD x y e):kf x y (vc x y)=0:=by
 rw[iV,h.one];have:val x*val y-val y*val x=0:=by grind
 rw[this];exact nD (by grind)
theorem dD.umin(E:dD x y p q e f s m m'):∀t∈rO x y p q s m m',kf x y (vc x y)<=kf x y t:=λt ht=>by
 rw[V1 E.h];obtain⟨a,b,rfl,u⟩:=E.uuv t ht;rw[iV];exact sO (d9 E.h.one u.one)
theorem AU{k:L2.T->Rat}(h:SS k l)(hz:z∈l)(mn:∀t∈l,k z<=k t):∃L,l=z::L:=by
 cases l with
 |nil=>cases hz
 |cons a l=>
  obtain rfl|hz:=WM.mp hz
  ·exact⟨l,rfl⟩
  ·have:=(YM.mp h).1 z hz;have:=mn a (WW ..);grind
theorem AV{k:L2.T->Rat}(h:SS k l)(hz:z∈l)(mx:∀t∈l,k t<=k z):∃L,l=L++[z]:=by
 obtain⟨a,b,rfl⟩:=List.append_of_mem hz;cases b with
 |nil=>exact⟨a,rfl⟩
 |cons c b=>
  have h2:=(List.pairwise_append.mp h).2.1;have:=(YM.mp h2).1 c (WW ..);have:=mx c (by simp);grind
theorem dD.first{s:Int}(E:dD x y p q e f s m m'):∃L,rO x y p q s m m'=vc x y::L:=AU E.ub.1 ((E.ub.2 _).2 (.inl (WW ..))) E.umin
theorem dD.last{s:Int}(E:dD x y p q e f s m m'):∃L,rO x y p q s m m'=L++[vc p q]:=AV E.ub.1 ((E.ub.2 _).2 (.inl E.alast)) E.umax
theorem CK{da ca du cu dv cv:Rat}(oa:da*da+ca*ca=1)(ou:du*du+cu*cu=1)(ov:dv*dv+cv*cv=1)(h1:dJ da ca<=dJ du cu)(h2:dJ du cu<dJ dv cv):dJ (da*du+ca*cu) (da*cu-ca*du)<dJ (da*dv+ca*cv) (da*cv-ca*dv):=by
 have Ou:=d9 oa ou;have Ov:=d9 oa ov;have back:∀{t s:Rat},t*t+s*s=1->da*t+ca*s=1->t=da/\s=ca:=λ{t s}o z=>by
  have O:=d9 oa o;rw[z]at O;have z2:(da*s-ca*t)*(da*s-ca*t)=0:=by grind
  have z3:da*s-ca*t=0:=by rcases Rat.mul_eq_zero.mp z2 with a|a<;>exact a
  constructor
  ·have:t=da*(da*t+ca*s)-ca*(da*s-ca*t):=by grind
   rw[z,z3]at this;grind
  ·have:s=ca*(da*t+ca*s)+da*(da*s-ca*t):=by grind
   rw[z,z3]at this;grind
 have nv:da*dv+ca*cv≠1:=λz=>by
  obtain⟨e1,e2⟩:=back ov z;rw[e1,e2]at h2;grind
 by_cases eq:dJ da ca=dJ du cu
 ·obtain⟨e1,e2⟩:=Se oa ou eq;rw[<-e1,<-e2,oa];have:da*ca-ca*da=0:=by grind
  rw[this,nD (by grind)];exact Gf Ov nv
 have lt:dJ da ca<dJ du cu:=by grind
 have nu:da*du+ca*cu≠1:=λz=>by
  obtain⟨e1,e2⟩:=back ou z;rw[e1,e2]at lt;grind
 by_cases base:da=1
 ·have c0:ca=0:=by
   rw[base]at oa;have:ca*ca=0:=by grind
   rcases Rat.mul_eq_zero.mp this with a|a<;>exact a
  rw[base,c0];have e1:1*du+0*cu=du:=by grind
  have e2:1*cu-0*du=cu:=by grind
  have e3:1*dv+0*cv=dv:=by grind
  have e4:1*cv-0*dv=cv:=by grind
  rw[e1,e2,e3,e4];exact h2
 have ka:=sO oa;have n1:du≠1:=λz=>by
  rw[z]at ou;rw[z,nD ou]at lt;grind
 have n2:dv≠1:=λz=>by
  rw[z]at ov;rw[z,nD ov]at h2;grind
 have a1:=(mK oa ou base n1).1 lt;have a2:=(mK ou ov n1 n2).1 h2;obtain⟨_,ba⟩:=bF oa;obtain⟨_,bu⟩:=bF ou;obtain⟨_,bv⟩:=bF ov;have t:=(Cy (ca:=ca) (wa:=1-da) (cv:=cu) (wv:=1-du) (cu:=cv) (wu:=1-dv) (by grind) (by grind) (by grind) (by grind) (by grind) (by grind) a1 a2).2;refine(mK Ou Ov nu nv).2 ?_;have id:(da*cu-ca*du)*(1-(da*dv+ca*cv))-(da*cv-ca*dv)*(1-(da*du+ca*cu))=(ca*(1-du)-cu*(1-da))+(cu*(1-dv)-cv*(1-du))-(ca*(1-dv)-cv*(1-da)):=by grind
 rw[id];exact t
theorem Z9{du cu dv cv db cb:Rat}(ou:du*du+cu*cu=1)(ov:dv*dv+cv*cv=1)(ob:db*db+cb*cb=1)(h1:dJ du cu<dJ dv cv)(h2:dJ dv cv<=dJ db cb)(c0:0<cb)(d0:0<=db):0<du*cv-cu*dv/\0<=du*dv+cu*cv:=by
 have kb:dJ db cb<=1:=by unfold dJ;rw[oV (by grind)];grind
 have jY:∀{d c:Rat},d*d+c*c=1->dJ d c<=1->0<=c/\0<=d/\dJ d c=1-d:=λ{d c}o h=>by
  obtain⟨a,b⟩:=bF o;unfold dJ at h⊢
  by_cases hc:0<=c
  ·rw[oV hc]at h⊢;exact⟨hc,by grind,rfl⟩
  ·rw[oW hc]at h;obtain⟨a',b'⟩:=fR o (by grind);grind
 obtain⟨v1,v2,v3⟩:=jY ov (by grind);obtain⟨u1,u2,u3⟩:=jY ou (by grind);have lt:dv<du:=by grind
 have p1:=Rat.mul_nonneg u2 v2;have p2:=Rat.mul_nonneg u1 v1;refine⟨?_,by grind⟩;have cv0:0<cv:=by
  by_cases z:cv=0
  ·rw[z]at ov;obtain⟨_,b⟩:=bF ou;rcases wY ov with w|w<;>grind
  ·grind
 by_cases z:cu=0
 ·rw[z]at ou⊢;obtain w|w:=wY ou
  ·rw[w];grind
  ·grind
 ·exact(JR ou ov (by grind) cv0).2 lt
theorem Q8{k:L2.T->Rat}{r:Rat}:∀{l:List L2.T}{a:L2.T},srt k a l->chn a l->k a<=r->r<k (lst a l)->∃u v,u∈a::l/\v∈a::l/\RJ u v/\k u<=r/\r<k v:=by
 intro l
 induction l with
 |nil=>intro a _ _ h1 h2;have h2:r<k a:=h2;grind
 |cons b l ih=>
  intro a hs hc h1 h2
  by_cases c:k b<=r
  ·obtain⟨u,v,hu,hv,n,q1,q2⟩:=ih hs.2 hc.2 c h2;exact⟨u,v,WQ _ hu,WQ _ hv,n,q1,q2⟩
  ·exact⟨a,b,by simp,by simp,hc.1,h1,by grind⟩
theorem AW{k:L2.T->Rat}(h:SS k l)(hu:l[i]?=oZ u)(hv:l[i+1]?=oZ v)(hb:b∈l)(lt:k u<k b):k v<=k b:=by
 obtain⟨j,hj⟩:=YT hb;obtain⟨i1,e1⟩:=WE.mp hu;obtain⟨i2,e2⟩:=WE.mp hv;obtain⟨j1,e3⟩:=WE.mp hj;have pw:=cf.mp h;obtain c|c|c:=Nat.lt_trichotomy j (i+1)
 ·obtain z|z:=XQ j i
  ·have:=pw j i j1 i1 z;rw[e1,e3]at this;grind
  ·have:j=i:=⋯
   subst this;rw[e1]at e3;rw[e3]at lt;grind
 ·subst c;rw[e2]at e3;rw[e3];exact Rat.le_refl
 ·have:=pw (i+1) j i2 j1 c;rw[e2,e3]at this;exact Rat.le_of_lt this
theorem dD.nbr{s:Int}(E:dD x y p q e f s m m')(hu:(rO x y p q s m m')[i]?=oZ u)(hv:(rO x y p q s m m')[i+1]?=oZ v):
  ∃a b c d,u=vc a b/\v=vc c d/\cD a b 400/\cD c d 400/\0<val a*val d-val b*val c/\0<=val a*val c+val b*val d:=by
 have mu:=WI hu;have mv:=WI hv;have luv:kf x y u<kf x y v:=by
  obtain⟨i1,e1⟩:=WE.mp hu;obtain⟨i2,e2⟩:=WE.mp hv;have:=cf.mp E.ub.1 i (i+1) i1 i2 ⋯;rw[e1,e2]at this;exact this
 have l2:kf x y u<kf x y (lst (vc x y) (qb p q s m x y)):=by
  rw[E.chn.2];have:=E.umax v mv;grind
 obtain⟨a,b,ha,hb,nb,q1,q2⟩:=Q8 E.srt E.chn.1 (E.umin u mu) l2;have q3:=AW E.ub.1 hu hv ((E.ub.2 b).2 (.inl hb)) q2;obtain⟨u1,u2,rfl,uu⟩:=E.uuv u mu;obtain⟨v1,v2,rfl,uv⟩:=E.uuv v mv;obtain⟨a1,a2,rfl,ua⟩:=E.auv a ha;obtain⟨b1,b2,rfl,ub⟩:=E.auv b hb;obtain⟨a1',a2',b1',b2',z1,z2,_,_,_,c0,d0⟩:=nb.ex;have z1:=congrArg cx z1;have z2:=congrArg cx z2;rw[pP,pP]at z1 z2;cases z1;cases z2;refine⟨u1,u2,v1,v2,rfl,rfl,uu,uv,?_⟩;rw[iV,iV]at q1 luv q3;have o:=E.h.one;have Oa:=d9 o ua.one;have Ou:=d9 o uu.one;have Ov:=d9 o uv.one;have Ob:=d9 o ub.one;have s1:=CK Oa Ou Ov q1 luv;have inv:∀t1 t2 r1 r2:Rat,(val x*t1+val y*t2)*(val x*r1+val y*r2)+(val x*t2-val y*t1)*(val x*r2-val y*r1)=t1*r1+t2*r2:=λt1 t2 r1 r2=>by grind
 have inw:∀t1 t2 r1 r2:Rat,(val x*t1+val y*t2)*(val x*r2-val y*r1)-(val x*t2-val y*t1)*(val x*r1+val y*r2)=t1*r2-t2*r1:=λt1 t2 r1 r2=>by grind
 rw[inv,inw,inv,inw]at s1;have s2:dJ (val a1*val v1+val a2*val v2) (val a1*val v2-val a2*val v1)<=dJ (val a1*val b1+val a2*val b2) (val a1*val b2-val a2*val b1):=by
  by_cases z:dJ (val x*val v1+val y*val v2) (val x*val v2-val y*val v1)=dJ (val x*val b1+val y*val b2) (val x*val b2-val y*val b1)
  ·have:=Zp E.h ⟨v1,v2,rfl,uv⟩ ⟨b1,b2,rfl,ub⟩ z;have:=congrArg cx this;rw[pP,pP]at this;cases this;exact Rat.le_refl
  ·have s3:=CK Oa Ov Ob (by grind) (show _<_ by grind);rw[inv,inw,inv,inw]at s3;exact Rat.le_of_lt s3
 have fin:=Z9 (d9 ua.one uu.one) (d9 ua.one uv.one) (d9 ua.one ub.one) s1 s2 c0 d0;have oa:=ua.one;have i1:(val a1*val u1+val a2*val u2)*(val a1*val v2-val a2*val v1)-(val a1*val u2-val a2*val u1)*(val a1*val v1+val a2*val v2)=val u1*val v2-val u2*val v1:=by grind
 have i2:(val a1*val u1+val a2*val u2)*(val a1*val v1+val a2*val v2)+(val a1*val u2-val a2*val u1)*(val a1*val v2-val a2*val v1)=val u1*val v1+val u2*val v2:=by grind
 rw[i1,i2]at fin;exact fin
def Tv:dG:=λas Q=>∃(x y p q:Fr)(e f:Nat),as=[.v (vc x y),.v (vc p q)]/\Nv x y e/\Nv p q f/\e+f<=3900/\Q (.v (vc (aW x p) (aW y q))) []
abbrev uF(P w K mg base):=(~~~Fn) 4 "plus" oH (aJ K Tv)
abbrev Py:ki:=top 11
theorem AO:aF oH oH (aC Py):=dH
theorem W8(F:cK K "plus" "plus" Py f fd)(TX:Txt mg)(tu: ~~~eJ):(~~~aV) cM 4 f fd oH (aJ K Tv):=by
 refine F.okU AO (λhr=>(aE (aG (aN (f2 (fK tu (f2 (fQ 0) (fQ 1))) (fK tu (f2 (fQ 0) (fQ 1)))))))) ?_;rintro as Q ⟨x,y,p,q,e,f,rfl,h,k,he,z⟩;have:=h.sx;have:=h.sy;have:=k.sx;have:=k.sy;exact⟨_,_,rfl,h.x,k.x,⋯,_,_,rfl,h.y,k.y,⋯,rfl,z⟩
def yI:dG:=λas Q=>∃(x y b:Fr)(e:Nat),as=[.v (vc x y),.v (fr b)]/\Nv x y e/\bC b/\e+sz b<=7000/\Q (.v (vc (aM x b) (aM y b))) []
abbrev kJ(P w K mg base):=(~~~Fn) 4 "scaled" ["vector","by"] (aJ K yI)
abbrev Ao:ki:=top 13
theorem Wx:aF ["vector","by"] ["vector","by"] (aC Ao):=dH
theorem We(F:cK K "scaled" "scaled" Ao f fd)(TX:Txt mg)(tf: ~~~fA):(~~~aV) cM 4 f fd ["vector","by"] (aJ K yI):=by
 refine F.okU Wx (λhr=>(aE (aG (aN (f2 (fK tf (f2 (fQ 0) (fv 1))) (fK tf (f2 (fQ 0) (fv 1)))))))) ?_;rintro as Q ⟨x,y,b,e,rfl,h,k,he,z⟩;have:=h.sx;have:=h.sy;exact⟨_,_,rfl,h.x,k,⋯,_,_,rfl,h.y,k,⋯,rfl,z⟩
def Xh(x y p q:Fr):Fr:=aW (1,1) (bW x y p q)
def BB(x p d:Fr):Fr:=aM (aW x p) (bO (1,1) d)
theorem Cc:sz (1,1)=1:=∅
theorem qC(h:Nv x y e)(k:Nv p q f):Nv (aW x p) (aW y q) (e+f+1):=by
 have:=h.sx;have:=h.sy;have:=k.sx;have:=k.sy;have s1:=dX h.x k.x;have s2:=dX h.y k.y;exact⟨cE h.x k.x,cE h.y k.y,⋯,⋯⟩
theorem nE(h:Nv x y e)(k:bC b):Nv (aM x b) (aM y b) (e+sz b):=by
 have:=h.sx;have:=h.sy;have s1:=bJ h.x k;have s2:=bJ h.y k;exact⟨aK h.x k,aK h.y k,⋯,⋯⟩
theorem Io(h:cD x y e)(k:cD p q f):bC (Xh x y p q)/\sz (Xh x y p q)<=e+f+3/\val (Xh x y p q)=1+(val x*val p+val y*val q):=by
 have s:=vB h k;have s2:=dX (aI 1) (aY h.nv k.nv);have o:=Cc;refine⟨cE (aI 1) (aY h.nv k.nv),?_,?_⟩
 ·show sz (aW (1,1) (bW x y p q))<=_
  lia
 ·show val (aW (1,1) (bW x y p q))=_;rw[bE (aI 1) (aY h.nv k.nv),fT,cP h.nv k.nv]
theorem Ge(h:bC d)(n:d.1≠0):bC (bO (1,1) d)/\sz (bO (1,1) d)<=sz d+1/\val (bO (1,1) d)=1/val d:=by
 have s:=kI (aI 1) n;have o:=Cc;exact⟨eO (aI 1) n,⋯,by rw[i7 (aI 1) h n,fT]⟩
theorem O8(h:bC d)(n:d.1≠0):val d≠0:=λz=>by
 have:=(tT h).1 (by grind);have:=(dY h).1 (by grind)
 lia
def OZ:dG:=λas Q=>∃(x y p q:Fr),as=[.v (vc x y),.v (vc p q)]/\cD x y 150/\cD p q 150/\(Xh x y p q).1≠0/\Q (.v (vc (BB x p (Xh x y p q)) (BB y q (Xh x y p q)))) []
abbrev Cn(P w K mg base):=(~~~Fn) 5 "tip_of" oH (aJ K OZ)
abbrev Ap:ki:=top 45
theorem Wy:aF oH oH (aC Ap):=dH
theorem Wf(F:cK K "tip_of" "tip_of" Ap f fd)(TX:Txt mg)(uq: ~~~kJ)(wq: ~~~uF)(vq: ~~~mY)(tu: ~~~eJ)(vi: ~~~kR)(vf:kO mg K "ONE_turns" (.tup [.int 1,.int 1])):(~~~aV) cM 5 f fd oH (aJ K OZ):=by
 refine F.okU Wy (λhr=>(aE (aG (fK uq (f2 (fK wq (f2 (fv 0) (fv 1))) (fK vq (f2 (fZ rfl vf) (fK tu (f2 (fZ rfl vf) (fK vi (f2 (fv 0) (fv 1)))))))))))) ?_;rintro as Q ⟨x,y,p,q,rfl,h,k,n,z⟩;have s:=vB h k;have o:=Cc;obtain⟨u1,u2,_⟩:=Io h k;obtain⟨i1,i2,_⟩:=Ge u1 n;refine⟨x,y,p,q,150,150,rfl,h.nv,k.nv,∅,?_⟩;refine⟨x,y,p,q,150,150,rfl,h.nv,k.nv,∅,(1,1),_,rfl,aI 1,aY h.nv k.nv,⋯,?_⟩;refine⟨(1,1),Xh x y p q,rfl,aI 1,u1,n,⋯,?_⟩;exact⟨_,_,_,_,rfl,qC h.nv k.nv,i1,⋯,rfl,z⟩
def Iu(u v:L2.T):Fr:=bW (cx u).1 (cx u).2 (cx v).1 (cx v).2
def mn(a b:Fr):Fr:=if val b<val a then b else a
def rE(U:List L2.T):Nat->Fr
 |0=>Iu (U.getD 0 .non) (U.getD 1 .non)
 |i+1=>mn (rE U i) (Iu (U.getD (i+1) .non) (U.getD (i+2) .non))
theorem Ye(h:Uv 150 u)(k:Uv 150 v):bC (Iu u v)/\sz (Iu u v)<=301:=by
 obtain⟨a,b,rfl,h⟩:=h;obtain⟨c,d,rfl,k⟩:=k;exact⟨aY h.nv k.nv,vB h k⟩
theorem Nt{U:List L2.T}(h:∀t∈U,Uv 150 t):∀i,i+2<=U.length->bC (rE U i)/\sz (rE U i)<=301:=by
 have g:∀i,i<U.length->Uv 150 (U.getD i .non):=λi hi=>by
  rw[XC,WG hi];exact h _ (ZL hi)
 intro i
 induction i with
 |zero=>intro hi;exact Ye (g 0 ⋯) (g 1 ⋯)
 |succ i ih=>
  intro hi;show bC (mn _ _)/\sz (mn _ _)<=301;unfold mn
  split
  ·exact Ye (g (i+1) ⋯) (g (i+2) ⋯)
  ·exact ih ⋯
theorem gP(U:List L2.T)(k:Nat):iA U (oZ (k:Int)) none=U.drop k:=by
 unfold iA;rw[HT.sIx_nat,HT.sIx_none];obtain c|c:=Nat.le_total k U.length
 ·rw[jg c];exact ZH (by rw[YY];exact WO _)
 ·rw[Nat.min_eq_right c,jn (WO _),jn c];simp
theorem BD{U:List L2.T}(h:∀t∈U,Uv 150 t)(hi:i<U.length):∃a b,U[i]?=oZ (vc a b)/\U.getD i .non=vc a b/\eZ U (i:Int)=oZ (vc a b)/\cD a b 150:=by
 obtain⟨a,b,e,n⟩:=h _ (ZL hi);have e1:U[i]?=oZ (vc a b):=by rw[WG hi,e]
 exact⟨a,b,e1,by rw[XC,e1];rfl,iO e1,n⟩
theorem UI{U:List L2.T}(h:∀t∈U,Uv 150 t)(hi:(jA (iA U (oZ 1) none) (iA U (oZ 2) none))[i]?=oZ t):∃a b c d,t = .tup [vc a b,vc c d]/\U.getD (i+1) .non=vc a b/\U.getD (i+2) .non=vc c d/\cD a b 150/\cD c d 150/\i+3<=U.length:=by
 obtain⟨u,v,h1,h2,rfl⟩:=rA hi;have e1:=gP U 1;have e2:=gP U 2;rw[show iA U (oZ 1) none=U.drop 1 from e1,ak]at h1;rw[show iA U (oZ 2) none=U.drop 2 from e2,ak]at h2;have l2:=(WE.mp h2).1;obtain⟨a,b,a1,a2,a3,a4⟩:=BD h (i:=i+1) ⋯;obtain⟨c,d,c1,c2,c3,c4⟩:=BD h (i:=i+2) ⋯;rw[ZS 1 i]at h1;rw[ZS 2 i]at h2;rw[a1]at h1;cases h1;rw[c1]at h2;cases h2;exact⟨a,b,c,d,rfl,a2,c2,a4,c4,⋯⟩
theorem P1(U:List L2.T):(jA (iA U (oZ 1) none) (iA U (oZ 2) none)).length=U.length-2:=by
 have e1:=gP U 1;have e2:=gP U 2;rw[kM,show iA U (oZ 1) none=U.drop 1 from e1,show iA U (oZ 2) none=U.drop 2 from e2,YY,YY]
 lia
def VA:dG:=λas Q=>∃U:List L2.T,as=[.v (.lst U)]/\2<=U.length/\U.length<=40/\(∀t∈U,Uv 150 t)/\Q (.v (fr (rE U (U.length-2)))) []
abbrev kC(P w K mg base):=(~~~Fn) 5 "least_dot" ["units"] (aJ K VA)
abbrev qL:ki:=top 44
theorem gG:aF ["units","least","one","other","found"] ["units"] (aC qL):=dH
theorem Gx(F:cK K "least_dot" "least_dot" qL f fd)(TX:Txt mg)(vi: ~~~kR)(sv: ~~~dQ):(~~~aV) cM 5 f fd ["units"] (aJ K VA):=by
 refine F.okU gG (λhr=>(aB (fS 1 gG.nd (fK vi (f2 (fQ 0) (fQ 0)))) (aB (eI PassesOwn.never rfl (yC rfl rfl TX.n_zip (f2 (iJ rfl (fv 0) (g8 aA) nA) (iJ rfl (fv 0) (g8 aA) nA))) (dA (n:=2) rfl rfl (aP (fG 2 gG.nd) (aP (fG 3 gG.nd) cJ))) (aB (fS 4 gG.nd (fK vi (f2 (fv 2) (fv 3)))) (aE (bN (fP iK (fK sv (f2 (fv 4) (fv 1))) aA) (aE (fS 1 gG.nd (fv 4))) a8)))) (aE (aG (fv 1)))))) ?_;rintro as Q ⟨U,rfl,h2,h40,hU,z⟩;obtain⟨a,b,_,a2,a3,a4⟩:=BD hU (i:=0) ⋯;obtain⟨c,d,_,c2,c3,c4⟩:=BD hU (i:=1) ⋯;show o1 (eZ U 0) _;rw[show eZ U 0=_ from a3];show o1 (eZ U 1) _;rw[show eZ U 1=_ from c3];refine⟨a,b,c,d,150,150,rfl,a4.nv,c4.nv,∅,?_⟩;have e0:bW a b c d=rE U 0:=by
  show _=Iu (U.getD 0 .non) (U.getD 1 .non);rw[a2,c2];rfl
 rw[e0];refine cA (λi E=>∃(v2 v3 v4:Option L2.U),E=[⇑(.lst U),⇑(fr (rE U i)),v2,v3,v4]) ⟨none,none,none,rfl⟩ ?_ ?_
 ·rintro i t rest E hi ⟨v2,v3,v4,rfl⟩ KK;obtain⟨a,b,c,d,rfl,a2,c2,a4,c4,hl⟩:=UI hU hi;obtain⟨l1,l2⟩:=Nt hU i ⋯;have sd:=vB a4 c4;refine⟨a,b,c,d,150,150,rfl,a4.nv,c4.nv,∅,?_⟩;refine⟨_,_,rfl,aY a4.nv c4.nv,l1,⋯,⋯,λr hr=>?_⟩;have e1:rE U (i+1)=mn (rE U i) (bW a b c d):=by
   show mn _ (Iu (U.getD (i+1) .non) (U.getD (i+2) .non))=_;rw[a2,c2];rfl
  show if decide (r<0)=true then _ else _
  by_cases cc:r<0
  ·rw[oY cc,oV rfl];have:rE U (i+1)=bW a b c d:=by rw[e1];unfold mn;rw[oV (hr.1 cc)]
   refine KK _ ⟨⇑(vc a b),⇑(vc c d),⇑(fr (bW a b c d)),?_⟩;rw[this];rfl
  ·rw[oX cc,oW ∅];have:rE U (i+1)=rE U i:=by rw[e1];unfold mn;rw[oW (λz=>cc (hr.2 z))]
   refine KK _ ⟨⇑(vc a b),⇑(vc c d),⇑(fr (bW a b c d)),?_⟩;rw[this]
 ·rintro E ⟨v2,v3,v4,rfl⟩;rw[P1];exact⟨rfl,z⟩
theorem Ki:∀ns:List Int,bX (bQ ns)=true
 |[]=>rfl
 |_::ns=>by simp[bQ,bX,noL];exact Ki ns
def Tp:dG:=λas Q=>∃(ns:List Int)(m:Nat),as=[.v (.lst (bQ ns)),.v (.int (m:Int))]/\ns.length<=63/\2<=m/\m<=63/\∀cs:List Int,cs.length<=m->Q (.l (bQ cs)) []
abbrev Ci(P w K mg base):=(~~~Fn) 1 "_law_folded" ["_law_script","_law_many"] (aJ K Tp)
abbrev Ai:ki:=top 84
theorem rG:aF ["_law_script","_law_many","_law_cells","_law_k","_law_cell"] ["_law_script","_law_many"] (aC Ai):=dH
theorem Vz(F:cK K "_law_folded" "_law_folded" Ai f fd)(TX:Txt mg):(~~~aV) cM 1 f fd ["_law_script","_law_many"] (aJ K Tp):=by
 refine F.okU rG (λhr=>(aB (fS 2 rG.nd (Vl rfl rfl TX.n_list (f1 (iJ rfl (fv 0) nA (g8 (fv 1)))))) (aB (eI PassesOwn.never rfl (T6 rfl rfl TX.n_enumerate (f1 (iJ rfl (fv 0) (g8 (fv 1)) (g8 aA)))) (dA (n:=2) rfl rfl (aP (fG 3 rG.nd) (aP (fG 4 rG.nd) cJ))) (aE (fF (a7 cO (fX (fv 2) (aS iD (fv 3) (fv 1))) (aS bD (fv 4) (a7 cO (fv 3) aA))) (Nl (fv 2) (aS iD (fv 3) (fv 1)))))) (aE (aG (fv 2)))))) ?_;rintro as Q ⟨ns,m,rfl,hl,hm2,hm,q⟩;refine cA (λi E=>∃(cs:List Int)(v3 v4:Option U),E=[⇑(.lst (bQ ns)),↑(m:Int),↥(bQ cs),v3,v4]/\cs.length=(ns.take m).length)
  ⟨ns.take m,none,none,by rw[<-R4],rfl⟩ ?_ ?_
 ·rintro i x rest E hi ⟨cs,v3,v4,rfl,hc⟩ K;obtain⟨y,hy,rfl⟩:=Rm hi;obtain⟨z,rfl⟩:∃z,y=T.int z:=by
   obtain⟨z,_,e⟩:=YI.mp (Xt (WI hy));exact⟨z,e.symm⟩
  have aD9:i<ns.length-m:=by
   have h1:=(WE.mp hy).1;have h2:=Xs (bQ ns) m 63;simp[bQ]at h2;exact WZ h1 h2
  have hcl:cs.length=m:=by rw[hc,XT];lia
  have em:((i:Int)%(m:Int))=((i%m:Nat):Int):=rfl;have hj:i%m<cs.length:=by rw[hcl];exact aj _ ⋯
  have hat:eZ (bQ cs) ((i:Int)%(m:Int))=oZ (T.int cs[i%m]):=by
   rw[em];exact iO (by rw[bQ,WH,WG hj];rfl)
  have hix:Sb (bQ cs).length ((i:Int)%(m:Int))=oZ (i%m):=by
   rw[em];unfold Sb;rw[oV ⋯,oV (by simp[bQ];lia),XU]
  have hmp:(λ(_ j:Int)=>0<j) (i:Int) (m:Int):=by show(0:Int)<(m:Int);lia
  refine⟨hmp,?_⟩;show o1 (eZ (bQ cs) ((i:Int)%(m:Int))) _;rw[hat];refine⟨Kh ⋯,hmp,?_⟩;show o1 (Sb (bQ cs).length ((i:Int)%(m:Int))) _;rw[hix];have e:bQ (cs.set (i%m) (cs[i%m]+z*((i:Int)+2)))=(bQ cs).set (i%m) (.int (cs[i%m]+z*((i:Int)+2))):=by rw[bQ,bQ,List.map_set]
  exact K _ ⟨cs.set (i%m) (cs[i%m]+z*((i:Int)+2)),↑(i:Int),↑z,by rw[e];rfl,by rw[ag];exact hc⟩
 ·rintro E ⟨cs,v3,v4,rfl,hc⟩;have hcm:cs.length<=m:=by rw[hc,XT];lia
  exact⟨Ki _,q cs hcm⟩
abbrev pI(P w K mg base):=(~~~Fn) 1 "_law_frac" ["_law_n","_law_d"] (aJ K AZ)
abbrev Hs:ki:=top 85
theorem u6:aF ["_law_n","_law_d","_law_one","_law_other"] ["_law_n","_law_d"] (aC Hs):=dH
theorem B6(F:cK K "_law_frac" "_law_frac" Hs f fd)(TX:Txt mg):(~~~aV) cM 1 f fd ["_law_n","_law_d"] (aJ K AZ):=by
 refine F.okU u6 (λhr=>(aB (gH (i:=2) (j:=3) rfl u6.nd rfl rfl ∅ rfl rfl (f2 (vH rfl TX.n_abs (f1 (fv 0))) (vH rfl TX.n_abs (f1 (fv 1)))) rfl) (aB (pS PassesOwn.never (fP qD (fv 3) aA) (aE (gH (i:=2) (j:=3) rfl u6.nd rfl rfl ∅ rfl rfl (f2 (fv 3) (aS iD (fv 2) (fv 3))) rfl))) (aB (fS 2 u6.nd (aS bD (fv 2) (mH (fP qD (fv 1) aA) aA (c8 aA)))) (aE (aG (aN (f2 (aS eB (fv 0) (fv 2)) (aS eB (fv 1) (fv 2)))))))))) ?_;rintro as Q ⟨n,d,rfl,hd,hb,q⟩;refine⟨λm E=>∃(x y:Nat),E=[↑n,↑d,↑x,↑y]/\m=y/\XX x y=XX n.natAbs d.natAbs,⟨_,_,_,rfl,rfl,rfl⟩,?_⟩;rintro m E ⟨x,y,rfl,rfl,hg⟩;show if decide ((0:Int)<(m:Int))=true then _ else _
 by_cases hy:(0:Int)<(m:Int)
 ·rw[oY hy,oV rfl];exact⟨hy,x%m,aj _ ⋯,m,x%m,rfl,rfl,by rw[Ka];exact hg⟩
 ·rw[oX hy,oW ∅];obtain rfl:m=0:=⋯
  rw[Nat.gcd_zero_right]at hg;subst hg;have dn:((XX n.natAbs d.natAbs:Nat):Int)∣n:=YZ.mpr (bf _ _);have dd:((XX n.natAbs d.natAbs:Nat):Int)∣d:=YZ.mpr (aq _ _);have g0:((XX n.natAbs d.natAbs:Nat):Int)≠0:=(xE (i:=0) (n:=n) hd hb).1;have aR:∀{g m:Int},g≠0->g∣m->m.fdiv (-g)=(-m)/g:=λ{g m}h0 hm=>by
   obtain⟨k,rfl⟩:=hm;have e1:g*k=(-g)*(-k):=by grind
   have e2:-(g*k)=g*(-k):=by grind
   rw[e2,YR _ h0,e1,iw _ ⋯]
  show if decide (0<d)=true then _ else _
  by_cases h:0<d
  ·rw[oY h,oV rfl];have e1:((XX n.natAbs d.natAbs:Nat):Int)*1=((XX n.natAbs d.natAbs:Nat):Int):=Int.mul_one _;refine⟨Kh ∅,?_⟩;rw[e1];refine⟨xE hd hb,xE hd hb,rfl,?_⟩;unfold jY uV pW at q;rw[oV h,oV h,<-Ro,<-Ro]at q;exact q
  ·rw[oX h,oW ∅];have e1:((XX n.natAbs d.natAbs:Nat):Int) * -1 = -((XX n.natAbs d.natAbs:Nat):Int):=⋯
   refine⟨Kh ∅,?_⟩;rw[e1];have cz:∀i:Int,Ce i (-((XX n.natAbs d.natAbs:Nat):Int)):=λi=>⟨⋯,by rw[df];exact(xE (i:=i) (n:=n) hd hb).2⟩;refine⟨cz _,cz _,rfl,?_⟩;unfold jY uV pW at q;rw[oW h,oW h,<-aR g0 dn,<-aR g0 dd]at q;exact q
abbrev uD(P w K mg base):=(~~~Fn) 2 "_law_sum" oG (aJ K (xY aW))
abbrev Pw:ki:=top 86
theorem AM:aF oG oG (aC Pw):=dH
theorem W6(F:cK K "_law_sum" "_law_sum" Pw f fd)(TX:Txt mg)(wk: ~~~pI):(~~~aV) cM 2 f fd oG (aJ K (xY aW)):=by
 refine F.okU AM (λhr=>(aE (aG (fK wk (f2 (a7 cO (aS bD (fQ 0) (fQ 1)) (aS bD (fQ 1) (fQ 0))) (aS bD (fQ 0) (fQ 1))))))) ?_;rintro as Q ⟨x,y,rfl,hx,hy,hs,q⟩;have hd:(x.2*y.2).natAbs<2^8000:=vU (bR (cG x) (cG y)) ⋯;exact⟨k5 (e:=7900) (pl (eQ x) ⋯) (pl (cG y) ⋯) ∅,k5 (e:=7900) (pl (eQ y) ⋯) (pl (cG x) ⋯) ∅,k5 (e:=7900) (pl (cG x) ⋯) (pl (cG y) ⋯) ∅,_,_,rfl,fM hx hy,hd,rfl,q⟩
abbrev pJ(P w K mg base):=(~~~Fn) 2 "_law_less" oG (aJ K (xY aH))
abbrev Hu:ki:=top 88
theorem J6:aF oG oG (aC Hu):=dH
theorem B8(F:cK K "_law_less" "_law_less" Hu f fd)(TX:Txt mg)(wk: ~~~pI):(~~~aV) cM 2 f fd oG (aJ K (xY aH)):=by
 refine F.okU J6 (λhr=>(aE (aG (fK wk (f2 (a7 jZ (aS bD (fQ 0) (fQ 1)) (aS bD (fQ 1) (fQ 0))) (aS bD (fQ 0) (fQ 1))))))) ?_;rintro as Q ⟨x,y,rfl,hx,hy,hs,q⟩;have hd:(x.2*y.2).natAbs<2^8000:=vU (bR (cG x) (cG y)) ⋯;exact⟨k5 (e:=7900) (pl (eQ x) ⋯) (pl (cG y) ⋯) ∅,k5 (e:=7900) (pl (eQ y) ⋯) (pl (cG x) ⋯) ∅,k5 (e:=7900) (pl (cG x) ⋯) (pl (cG y) ⋯) ∅,_,_,rfl,fM hx hy,hd,rfl,q⟩
abbrev iI(P w K mg base):=(~~~Fn) 2 "_law_product" oG (aJ K (xY aM))
abbrev tL:ki:=top 87
theorem Ll:aF oG oG (aC tL):=dH
theorem Kx(F:cK K "_law_product" "_law_product" tL f fd)(TX:Txt mg)(wk: ~~~pI):(~~~aV) cM 2 f fd oG (aJ K (xY aM)):=by
 refine F.okU Ll (λhr=>(aE (aG (fK wk (f2 (aS bD (fQ 0) (fQ 1)) (aS bD (fQ 0) (fQ 1))))))) ?_;rintro as Q ⟨x,y,rfl,hx,hy,hs,q⟩;have hd:(x.2*y.2).natAbs<2^8000:=vU (bR (cG x) (cG y)) ⋯;exact⟨k5 (e:=7900) (pl (eQ x) ⋯) (pl (eQ y) ⋯) ∅,k5 (e:=7900) (pl (cG x) ⋯) (pl (cG y) ⋯) ∅,_,_,rfl,fM hx hy,hd,rfl,q⟩
abbrev El(P w K mg base):=(~~~Fn) 3 "_law_add" oG (aJ K Tv)
abbrev Pq:ki:=top 89
theorem AJ:aF oG oG (aC Pq):=dH
theorem W3(F:cK K "_law_add" "_law_add" Pq f fd)(TX:Txt mg)(xa: ~~~uD):(~~~aV) cM 3 f fd oG (aJ K Tv):=by
 refine F.okU AJ (λhr=>(aE (aG (aN (f2 (fK xa (f2 (fQ 0) (fQ 1))) (fK xa (f2 (fQ 0) (fQ 1)))))))) ?_;rintro as Q ⟨x,y,p,q,e,f,rfl,h,k,hs,z⟩;have:=h.sx;have:=h.sy;have:=k.sx;have:=k.sy;exact⟨_,_,rfl,h.x,k.x,⋯,_,_,rfl,h.y,k.y,⋯,rfl,z⟩
abbrev Qu(P w K mg base):=(~~~Fn) 3 "_law_sub" oG (aJ K BA)
abbrev Pt:ki:=top 90
theorem AL:aF oG oG (aC Pt):=dH
theorem W5(F:cK K "_law_sub" "_law_sub" Pt f fd)(TX:Txt mg)(vp: ~~~pJ):(~~~aV) cM 3 f fd oG (aJ K BA):=by
 refine F.okU AL (λhr=>(aE (aG (aN (f2 (fK vp (f2 (fQ 0) (fQ 1))) (fK vp (f2 (fQ 0) (fQ 1)))))))) ?_;rintro as Q ⟨x,y,p,q,e,f,rfl,h,k,hs,z⟩;have:=h.sx;have:=h.sy;have:=k.sx;have:=k.sy;exact⟨_,_,rfl,h.x,k.x,⋯,_,_,rfl,h.y,k.y,⋯,rfl,z⟩
abbrev eT(P w K mg base):=(~~~Fn) 3 "_law_scaled_by" ["_law_vector","_law_share"] (aJ K yI)
abbrev nQ:ki:=top 91
theorem Ca:aF ["_law_vector","_law_share"] ["_law_vector","_law_share"] (aC nQ):=dH
theorem Bu(F:cK K "_law_scaled_by" "_law_scaled_by" nQ f fd)(TX:Txt mg)(tj: ~~~iI):(~~~aV) cM 3 f fd ["_law_vector","_law_share"] (aJ K yI):=by
 refine F.okU Ca (λhr=>(aE (aG (aN (f2 (fK tj (f2 (fQ 0) (fv 1))) (fK tj (f2 (fQ 0) (fv 1)))))))) ?_;rintro as Q ⟨x,y,b,e,rfl,h,hb,hs,q⟩;have:=h.sx;have:=h.sy;exact⟨_,_,rfl,h.x,hb,⋯,_,_,rfl,h.y,hb,⋯,rfl,q⟩
abbrev Cj(P w K mg base):=(~~~Fn) 3 "_law_cross" oG (aJ K (DQ aU))
abbrev Ak:ki:=top 92
theorem Ww:aF oG oG (aC Ak):=dH
theorem Wa(F:cK K "_law_cross" "_law_cross" Ak f fd)(TX:Txt mg)(vp: ~~~pJ)(tj: ~~~iI):(~~~aV) cM 3 f fd oG (aJ K (DQ aU)):=by
 refine F.okU Ww (λhr=>(aE (aG (fK vp (f2 (fK tj (f2 (fQ 0) (fQ 1))) (fK tj (f2 (fQ 0) (fQ 1)))))))) ?_;rintro as Q ⟨x,y,x',y',e,f,rfl,h,k,he,q⟩;have:=h.sx;have:=h.sy;have:=k.sx;have:=k.sy;have n1:=aK h.x k.y;have n2:=aK h.y k.x;have s1:=bJ h.x k.y;have s2:=bJ h.y k.x;exact⟨_,_,rfl,h.x,k.y,⋯,_,_,rfl,h.y,k.x,⋯,_,_,rfl,n1,n2,⋯,rfl,q⟩
abbrev Qt(P w K mg base):=(~~~Fn) 3 "_law_dot" oG (aJ K (DQ bW))
abbrev Pr:ki:=top 93
theorem AK:aF oG oG (aC Pr):=dH
theorem W4(F:cK K "_law_dot" "_law_dot" Pr f fd)(TX:Txt mg)(xa: ~~~uD)(tj: ~~~iI):(~~~aV) cM 3 f fd oG (aJ K (DQ bW)):=by
 refine F.okU AK (λhr=>(aE (aG (fK xa (f2 (fK tj (f2 (fQ 0) (fQ 1))) (fK tj (f2 (fQ 0) (fQ 1)))))))) ?_;rintro as Q ⟨x,y,x',y',e,f,rfl,h,k,he,q⟩;have:=h.sx;have:=h.sy;have:=k.sx;have:=k.sy;have n1:=aK h.x k.x;have n2:=aK h.y k.y;have s1:=bJ h.x k.x;have s2:=bJ h.y k.y;exact⟨_,_,rfl,h.x,k.x,⋯,_,_,rfl,h.y,k.y,⋯,_,_,rfl,n1,n2,⋯,rfl,q⟩
abbrev lJ(P w K mg base):=(~~~Fn) 1 "_law_quarter" ["_law_vector"] (aJ K Tr)
abbrev tM:ki:=top 94
theorem Lm:aF ["_law_vector"] ["_law_vector"] (aC tM):=dH
theorem Ky(F:cK K "_law_quarter" "_law_quarter" tM f fd)(TX:Txt mg):(~~~aV) cM 1 f fd ["_law_vector"] (aJ K Tr):=by
 refine F.okU Lm (λhr=>(aE (aG (aN (f2 (aN (f2 (c8 (fX (fQ 0) aA)) (fX (fQ 0) aA))) (fQ 0)))))) ?_;rintro as Q ⟨x,y,rfl,q⟩;exact⟨rfl,q⟩
def JP(k:Nat):Fr×Fr:=match k with
 |0=>((1,1),(0,1))|1=>((4,5),(3,5))|2=>((3,5),(4,5))|3=>((12,13),(5,13))|_=>((5,13),(12,13))
def Wt:Nat->Fr×Fr->Fr×Fr
 |0,p=>p
 |n+1,p=>let q:=Wt n p;(aR q.2,q.1)
def un(k:Nat):Fr×Fr:=Wt (k/5%4) (JP (k%5))
def WA(k:Nat):L2.T:=vc (un k).1 (un k).2
theorem O4(k:Nat)(h:k<20):cD (un k).1 (un k).2 4:=by
 have n0:∀j,j<5->cD (JP j).1 (JP j).2 4:=λj hj=>by
  have:j=0\/j=1\/j=2\/j=3\/j=4:=⋯
  have mk:∀a b c:Int,0<c->XX a.natAbs c.natAbs=1->XX b.natAbs c.natAbs=1->a.natAbs<2^4->b.natAbs<2^4->c.natAbs<2^4->a*a+b*b=c*c->cD (a,c) (b,c) 4:=λa b c c0 g1 g2 a4 b4 c4 e=>by
   refine⟨⟨⟨c0,g1⟩,⟨c0,g2⟩,lQ a4 c4 ∅,lQ b4 c4 ∅⟩,?_⟩;show(a:Rat)/(c:Rat)*((a:Rat)/(c:Rat))+(b:Rat)/(c:Rat)*((b:Rat)/(c:Rat))=1;have nz:(c:Rat)≠0:=by exact_mod_cast (show c≠0 by lia)
   have e':(a:Rat)*a+b*b=c*c:=by exact_mod_cast e
   grind
  obtain rfl|rfl|rfl|rfl|rfl:=this
  ·exact mk 1 0 1 ∅ ∅ ∅ ∅ ∅ ∅ ∅
  ·exact mk 4 3 5 ∅ ∅ ∅ ∅ ∅ ∅ ∅
  ·exact mk 3 4 5 ∅ ∅ ∅ ∅ ∅ ∅ ∅
  ·exact mk 12 5 13 ∅ ∅ ∅ ∅ ∅ ∅ ∅
  ·exact mk 5 12 13 ∅ ∅ ∅ ∅ ∅ ∅ ∅
 have nr:∀n p,cD p.1 p.2 4->cD (Wt n p).1 (Wt n p).2 4:=λn p hp=>by
  induction n with
  |zero=>exact hp
  |succ n ih=>exact ih.left
 exact nr _ _ (n0 _ (aj _ ∅))
theorem PL:∀j k:Fin 20,j≠k->un j.1≠un k.1:=by decide +kernel
def tUnitOf':dG:=λas Q=>∃k:Nat,as=[.v (.int (k:Int))]/\k<20/\Q (.v (WA k)) []
abbrev xC(P w K mg base):=(~~~Fn) 2 "_law_unit_at" ["_law_k"] (aJ K tUnitOf')
abbrev tN:ki:=top 95
theorem jV:aF ["_law_k","_law_some","_law_found","_law_turn"] ["_law_k"] (aC tN):=dH
theorem Kz(F:cK K "_law_unit_at" "_law_unit_at" tN f fd)(TX:Txt mg)(ve: ~~~lJ):(~~~aV) cM 2 f fd ["_law_k"] (aJ K tUnitOf'):=by
 refine F.okU jV (λhr=>(aB (fS 1 jV.nd (cN (fc (aN (f2 (aN (f2 aA aA)) (aN (f2 aA aA)))) (f4 (aN (f2 (aN (f2 aA aA)) (aN (f2 aA aA)))) (aN (f2 (aN (f2 aA aA)) (aN (f2 aA aA)))) (aN (f2 (aN (f2 aA aA)) (aN (f2 aA aA)))) (aN (f2 (aN (f2 aA aA)) (aN (f2 aA aA)))))))) (aB (fS 2 jV.nd (fX (fv 1) (aS iD (fv 0) aA))) (aB (eI PassesOwn.never rfl (gF rfl TX.n_range (f1 (aS iD (aS eB (fv 0) aA) aA))) (fG 3 jV.nd) (aE (fS 2 jV.nd (fK ve (f1 (fv 2)))))) (aE (aG (fv 2))))))) ?_;rintro as Q ⟨k,rfl,hk,q⟩;refine⟨by show(0:Int)<5;decide,?_⟩;have at0:∀j:Nat,j<5->eZ [L2.T.tup [.tup [.int 1,.int 1],.tup [.int 0,.int 1]],.tup [.tup [.int 4,.int 5],.tup [.int 3,.int 5]],.tup [.tup [.int 3,.int 5],.tup [.int 4,.int 5]],.tup [.tup [.int 12,.int 13],.tup [.int 5,.int 13]],.tup [.tup [.int 5,.int 13],.tup [.int 12,.int 13]]] (j:Int)=oZ (vc (JP j).1 (JP j).2):=λj hj=>by
  have:j=0\/j=1\/j=2\/j=3\/j=4:=⋯
  rcases this with rfl|rfl|rfl|rfl|rfl<;>rfl
 have em:((k:Int)%5)=((k%5:Nat):Int):=rfl;show o1 (eZ [L2.T.tup [.tup [.int 1,.int 1],.tup [.int 0,.int 1]],.tup [.tup [.int 4,.int 5],.tup [.int 3,.int 5]],.tup [.tup [.int 3,.int 5],.tup [.int 4,.int 5]],.tup [.tup [.int 12,.int 13],.tup [.int 5,.int 13]],.tup [.tup [.int 5,.int 13],.tup [.int 12,.int 13]]] ((k:Int)%5)) _;rw[em,at0 _ (aj _ ∅)];have ek:((k:Int).fdiv 5%4)=((k/5%4:Nat):Int):=by
  rw[YU _ ∅]
  lia
 refine⟨⟨∅,∅⟩,by show(0:Int)<4;decide,?_⟩;rw[ek];refine⟨⟨⋯,⋯⟩,?_⟩;rw[XU];refine cA (λi E=>∃v1 v3:Option U,E=[↑(k:Int),v1,⇑(vc (Wt i (JP (k%5))).1 (Wt i (JP (k%5))).2),v3]) ⟨_,_,rfl⟩ ?_ ?_
 ·rintro i t rest E hi ⟨v1,v3,rfl⟩ KK;exact⟨_,_,rfl,KK _ ⟨_,_,rfl⟩⟩
 ·rintro E ⟨v1,v3,rfl⟩;have el:(iY 0 (k/5%4)).length=k/5%4:=by simp[iY]
  rw[el];exact⟨rfl,q⟩
inductive Mv where
 |side (x y m:Fr)|arc (x y u v r:Fr) (l:Bool)
def kF:Mv->L2.T
 |.side x y m=>.tup [.str "side",vc x y,fr m]
 |.arc x y u v r l=>.tup [.str "arc",vc x y,vc u v,fr r,.str (vC l)]
def Dv(B:Nat)(x:Fr):Prop:=∃k:Int,val x*65=(k:Rat)/\k.natAbs<=B
def Wh(W:Nat)(x:Fr):Prop:=∃k:Int,val x=(k:Rat)/\k.natAbs<=W
theorem Dv.neg(n:bC x)(h:Dv B x):Dv B (aR x):=by
 obtain⟨k,e,b⟩:=h;exact⟨-k,by rw[b7 n];push_cast;grind,⋯⟩
theorem Dv.up(h:Dv B x)(k:B<=C):Dv C x:=let⟨j,e,b⟩:=h;⟨j,e,⋯⟩
theorem Dv.add(nx:bC x)(ny:bC y)(h:Dv B x)(k:Dv C y):Dv (B+C) (aW x y):=by
 obtain⟨i,e1,b1⟩:=h;obtain⟨j,e2,b2⟩:=k;exact⟨i+j,by rw[bE nx ny];push_cast;grind,⋯⟩
theorem Dv.sub(nx:bC x)(ny:bC y)(h:Dv B x)(k:Dv C y):Dv (B+C) (aH x y):=by
 obtain⟨i,e1,b1⟩:=h;obtain⟨j,e2,b2⟩:=k;exact⟨i-j,by rw[aT nx ny];push_cast;grind,⋯⟩
theorem Dv.mul(nx:bC x)(ny:bC y)(h:Dv B x)(k:Wh W y):Dv (B*W) (aM x y):=by
 obtain⟨i,e1,b1⟩:=h;obtain⟨j,e2,b2⟩:=k;refine⟨i*j,by rw[aQ nx ny];push_cast;grind,?_⟩;rw[XZ];exact dj b1 b2
theorem Ue(k:Nat)(h:k<20):Dv 65 (un k).1/\Dv 65 (un k).2:=by
 have dJ:∀k:Fin 20,(65%(un k.1).1.2=0/\(un k.1).1.1.natAbs<=(un k.1).1.2.natAbs/\0<(un k.1).1.2)/\(65%(un k.1).2.2=0/\(un k.1).2.1.natAbs<=(un k.1).2.2.natAbs/\0<(un k.1).2.2):=by decide +kernel
 have mk:∀x:Fr,(65%x.2=0/\x.1.natAbs<=x.2.natAbs/\0<x.2)->Dv 65 x:=λx zZ=>by
  obtain⟨h1,h2,h3⟩:=zZ;obtain⟨c,hc⟩:x.2∣65:=Int.dvd_of_emod_eq_zero h1;have nz:(x.2:Rat)≠0:=by exact_mod_cast (show x.2≠0 by lia)
  have zl:(65:Rat)=(x.2:Rat)*(c:Rat):=by exact_mod_cast hc
  refine⟨x.1*c,?_,?_⟩
  ·show(x.1:Rat)/(x.2:Rat)*65=_;rw[zl];push_cast;grind
  ·rw[XZ];have e:x.2.natAbs*c.natAbs=65:=by rw[<-XZ,<-hc];rfl
   exact XR (Nat.mul_le_mul_right _ h2) ⋯
 exact⟨mk _ (dJ ⟨k,h⟩).1,mk _ (dJ ⟨k,h⟩).2⟩
theorem O9{k:Int}(h:k.natAbs<=W):Wh W (k,1):=⟨k,eV k,h⟩
def gT:Mv->Prop
 |.side x y m=>cD x y 4/\bC m/\sz m<=4/\0<val m/\Dv 65 x/\Dv 65 y/\Wh 11 m
 |.arc x y u v r _=>cD x y 4/\cD u v 4/\¬(x=u/\y=v)/\bC r/\sz r<=3/\0<val r/\(Dv 65 x/\Dv 65 y)/\(Dv 65 u/\Dv 65 v)/\Wh 6 r
theorem GZ:∀m:Mv,noL (kF m)=true
 |.side _ _ _=>rfl
 |.arc _ _ _ _ _ _=>rfl
theorem qA:∀ms:List Mv,bX (ms.map kF)=true
 |[]=>rfl
 |m::ms=>by show(noL (kF m)&&bX (ms.map kF))=true;rw[GZ,qA ms];rfl
theorem Mj{k:Int}(h1:1<=k)(he:k.natAbs<2^e)(e0:0<e):bC (k,1)/\sz (k,1)<=e/\0<val (k,1):=by
 refine⟨aI k,lQ he (show(1:Int).natAbs<2^e from Nat.one_lt_two_pow ⋯) e0,?_⟩;rw[eV]
 exact_mod_cast (show 0<k by lia)
theorem vK(h:bC x):aM x (-1,1)=aR x:=by
 have n1:bC ((-1,1):Fr):=aI (-1);refine bM (aK h n1) (d7 h) ?_;rw[aQ h n1,b7 h,eV];grind
def QY:Mv->Mv
 |.side x y m=>.side (aR x) (aR y) m
 |.arc x y u v r l=>.arc (aR x) (aR y) (aR u) (aR v) r l
theorem Jz(h:aR x=aR y):x=y:=by
 have h1:=congrArg Prod.fst h;have h2:=congrArg Prod.snd h;simp only[aR]at h1 h2;exact Prod.ext ⋯ h2
theorem gT.back:∀{m:Mv},gT m->gT (QY m)
 |.side _ _ _,⟨u,a,b,c,g1,g2,w⟩=>⟨u.neg,a,b,c,g1.neg u.nv.x,g2.neg u.nv.y,w⟩
 |.arc _ _ _ _ _ _,⟨u,v,ne,a,b,c,g,h,w⟩=>⟨u.neg,v.neg,λz=>ne ⟨Jz z.1,Jz z.2⟩,a,b,c,⟨g.1.neg u.nv.x,g.2.neg u.nv.y⟩,⟨h.1.neg v.nv.x,h.2.neg v.nv.y⟩,w⟩
theorem k7(k:Nv x y f)(hb:bC b)(hs:sz b<=e):Nv (aM x b) (aM y b) (f+e):=by
 have:=k.sx;have:=k.sy;have m1:=bJ k.x hb;have m2:=bJ k.y hb;exact⟨aK k.x hb,aK k.y hb,⋯,⋯⟩
theorem Gp(h:Nv p q e)(k:Nv x y f):Nv (aH p x) (aH q y) (e+f+1):=by
 have:=h.sx;have:=h.sy;have:=k.sx;have:=k.sy;have m1:=gK h.x k.x;have m2:=gK h.y k.y;exact⟨cF h.x k.x,cF h.y k.y,⋯,⋯⟩
theorem Oe(h:Nv p q e)(k:Nv x y f):Nv (aW p x) (aW q y) (e+f+1):=by
 have:=h.sx;have:=h.sy;have:=k.sx;have:=k.sy;have m1:=dX h.x k.x;have m2:=dX h.y k.y;exact⟨cE h.x k.x,cE h.y k.y,⋯,⋯⟩
def mM(a b:Fr):Mv->Pc
 |.side x y m=>.side (aW a (aM x m)) (aW b (aM y m))
 |.arc x y u v r l=>.arc (aH a (aM x r)) (aH b (aM y r)) (aW (aH a (aM x r)) (aM u r)) (aW (aH b (aM y r)) (aM v r)) l
theorem Nz(h:Nv a b e):∀{m:Mv},gT m->sW (e+16) a b (mM a b m)
 |.side x y m,⟨u,nm,sm,pm,_⟩=>by
  have s:=k7 u.nv nm sm;refine⟨(Oe h s).up ⋯,val m,pm,?_⟩;unfold Bk;rw[bE h.x s.x,bE h.y s.y,aQ u.nv.x nm,aQ u.nv.y nm];have:=u.one;have e1:(val a+val x*val m-val a)*(val a+val x*val m-val a)+(val b+val y*val m-val b)*(val b+val y*val m-val b)=(val x*val x+val y*val y)*(val m*val m):=by grind
  rw[e1,this];grind
 |.arc x y u v r l,⟨uu,uv,ne,nr,sr,pr,_⟩=>by
  have s:=k7 uu.nv nr sr;have t:=k7 uv.nv nr sr;have m:=Gp h s;have z:=Oe m t;have o1:=uu.one;have o2:=uv.one;refine⟨m.up ⋯,z.up ⋯,λc=>?_,val r,pr,?_,?_⟩
  ·have c1:=congrArg val c.1;have c2:=congrArg val c.2;rw[bE m.x t.x,aT h.x s.x,aQ uu.nv.x nr,aQ uv.nv.x nr]at c1;rw[bE m.y t.y,aT h.y s.y,aQ uu.nv.y nr,aQ uv.nv.y nr]at c2;have r0:val r≠0:=by grind
   have e1:val x=val u:=by
    have:(val u-val x)*val r=0:=by grind
    rcases Rat.mul_eq_zero.mp this with q|q<;>grind
   have e2:val y=val v:=by
    have:(val v-val y)*val r=0:=by grind
    rcases Rat.mul_eq_zero.mp this with q|q<;>grind
   exact ne ⟨bM uu.nv.x uv.nv.x e1,bM uu.nv.y uv.nv.y e2⟩
  ·unfold Bk;rw[aT h.x s.x,aT h.y s.y,aQ uu.nv.x nr,aQ uu.nv.y nr];have e1:(val a-(val a-val x*val r))*(val a-(val a-val x*val r))+(val b-(val b-val y*val r))*(val b-(val b-val y*val r))=(val x*val x+val y*val y)*(val r*val r):=by grind
   rw[e1,o1];grind
  ·unfold Bk;rw[bE m.x t.x,bE m.y t.y,aT h.x s.x,aT h.y s.y,aQ uu.nv.x nr,aQ uu.nv.y nr,aQ uv.nv.x nr,aQ uv.nv.y nr];have e1:(val a-val x*val r+val u*val r-(val a-val x*val r))*(val a-val x*val r+val u*val r-(val a-val x*val r))+(val b-val y*val r+val v*val r-(val b-val y*val r))*(val b-val y*val r+val v*val r-(val b-val y*val r))=(val u*val u+val v*val v)*(val r*val r):=by grind
   rw[e1,o2];grind
theorem OC{D k:Int}(n:bC x)(hD:0<D)(q:val x*(D:Rat)=(k:Rat))(b1:D.natAbs<2^e)(b2:k.natAbs<2^e)(e0:0<e):sz x<=e:=by
 have v:=Uh n;have q:x.1*D=k*x.2:=by
  have:((x.1:Rat))*(D:Rat)=(k:Rat)*(x.2:Rat):=by rw[<-v,<-q];grind
  exact_mod_cast this
 have d1:=n.d;have q':x.1.natAbs*D.natAbs=k.natAbs*x.2.natAbs:=by rw[<-XZ,<-XZ,q]
 have dv:x.2.natAbs∣D.natAbs:=by
  have:x.2.natAbs∣x.1.natAbs*D.natAbs:=⟨k.natAbs,by rw[q'];exact Nat.mul_comm _ _⟩;exact(bh.symm n.g).dvd_of_dvd_mul_left this
 have le:=Nat.le_of_dvd ⋯ dv;have l1:x.1.natAbs<=k.natAbs:=by
  obtain c|c:=XQ k.natAbs x.1.natAbs
  ·have a1:(k.natAbs+1)*D.natAbs<=x.1.natAbs*D.natAbs:=Nat.mul_le_mul_right _ c;have a2:k.natAbs*x.2.natAbs<=k.natAbs*D.natAbs:=Nat.mul_le_mul_left _ le;have a3:(k.natAbs+1)*D.natAbs=k.natAbs*D.natAbs+D.natAbs:=by rw[Nat.add_mul,Nat.one_mul]
   have a4:0<D.natAbs:=⋯
   lia
  ·exact c
 exact lQ (XY l1 b2) (XY le b1) e0
theorem Dv.sz(n:bC x)(h:Dv B x)(hB:B<2^14):sz x<=14:=by
 obtain⟨k,e,b⟩:=h;exact OC (D:=65) (k:=k) n ∅ (by rw[<-e];norm_cast) ∅ ⋯ ∅
def St(a b:Fr):Prop:=Nv a b 3/\Dv 260 a/\Dv 260 b
theorem GY(h:Nv a b e)(da:Dv B a)(db:Dv B b)(hB:B+800<2^14):∀{m:Mv},gT m->sW 14 a b (mM a b m)/\Dv (B+780) (mM a b m).px/\Dv (B+780) (mM a b m).py
 |.side x y m,ok=>by
  obtain⟨u,nm,sm,pm,gx,gy,w⟩:=id ok;have o:=Nz h ok;have s:=k7 u.nv nm sm;have d1:=(da.add h.x s.x (gx.mul u.nv.x nm w)).up (show _<=B+780 by lia);have d2:=(db.add h.y s.y (gy.mul u.nv.y nm w)).up (show _<=B+780 by lia);exact⟨⟨⟨o.1.x,o.1.y,d1.sz o.1.x ⋯,d2.sz o.1.y ⋯⟩,o.2⟩,d1,d2⟩
 |.arc x y u v r l,ok=>by
  obtain⟨uu,uv,ne,nr,sr,pr,gx,gu,w⟩:=id ok;have o:=Nz h ok;have s:=k7 uu.nv nr sr;have t:=k7 uv.nv nr sr;have m:=Gp h s;have c1:=da.sub h.x s.x (gx.1.mul uu.nv.x nr w);have c2:=db.sub h.y s.y (gx.2.mul uu.nv.y nr w);have d1:=(c1.add m.x t.x (gu.1.mul uv.nv.x nr w)).up (show _<=B+780 by lia);have d2:=(c2.add m.y t.y (gu.2.mul uv.nv.y nr w)).up (show _<=B+780 by lia);exact⟨⟨⟨o.1.x,o.1.y,c1.sz o.1.x ⋯,c2.sz o.1.y ⋯⟩,⟨o.2.1.x,o.2.1.y,d1.sz o.2.1.x ⋯,d2.sz o.2.1.y ⋯⟩,o.2.2⟩,d1,d2⟩
def DE:dG:=λas Q=>∃(xs:List L2.T)(n:Int)(w:Bool),as=[.b xs,.v (.bl w)]/\Bx xs n/\n<=900000/\∀m ys,gT m->Bx ys (n+5)->bX ys=true->Q (.v (kF m)) ys
abbrev mX(P w K mg base):=(~~~Fn) 3 "_law_one_move" ["_law_box_here","_law_arcs"] (aJ K DE)
abbrev qO:ki:=top 96
theorem kG:aF ["_law_box_here","_law_arcs","_law_turn","_law_kind","_law_many","_law_first","_law_more"] ["_law_box_here","_law_arcs"] (aC qO):=dH
theorem Ha(F:cK K "_law_one_move" "_law_one_move" qO f fd)(TX:Txt mg)(uj: ~~~rB)(xx: ~~~xC):(~~~aV) cM 3 f fd ["_law_box_here","_law_arcs"] (aJ K DE):=by
 refine F.okU kG (λhr=>(aB (gH (i:=3) (j:=4) rfl kG.nd rfl rfl ∅ rfl rfl (f2 (fB uj (f2 (fv 0) aA)) (a7 cO aA (fB uj (f2 (fv 0) aA)))) rfl) (aB (gH (i:=5) (j:=6) rfl kG.nd rfl rfl ∅ rfl rfl (f2 (fB uj (f2 (fv 0) aA)) (a7 cO aA (fB uj (f2 (fv 0) aA)))) rfl) (aB (bN (Yv (Rx (Nm (iB (fv 1))) (Fz (fP qD (fv 3) aA)))) (aE (aG (aN (f3 bK (fK xx (f1 (fv 5))) (aN (f2 (fv 4) aA)))))) a8) (aB (fS 2 kG.nd (fX (cN (f2 bK bK)) (fB uj (f2 (fv 0) aA)))) (aE (aG (aN (fc bK (f4 (fK xx (f1 (fv 5))) (fK xx (f1 (aS iD (a7 cO (fv 5) (fv 6)) aA))) (aN (f2 (a7 cO aA (aS eB (fv 4) aA)) aA)) (fv 2))))))))))) ?_;rintro as Q ⟨xs,n,w,rfl,hB,hn,q⟩;refine⟨xs,3,n,rfl,hB,⋯,∅,∅,λkd y1 k0 k1 b1=>?_⟩;refine⟨y1,11,n+1,rfl,b1,⋯,∅,∅,λmn y2 m0 m1 b2=>?_⟩;refine⟨y2,20,n+1+1,rfl,b2,⋯,∅,∅,λfs y3 f0 f1 b3=>?_⟩;refine⟨y3,19,n+1+1+1,rfl,b3,⋯,∅,∅,λmo y4 o0 o1' b4=>?_⟩;obtain⟨f,rfl⟩:∃f:Nat,fs=(f:Int):=⟨fs.toNat,⋯⟩;have hf:f<20:=⋯
 obtain⟨w1,w2,w3⟩:=Mj (k:=1+mn) (e:=4) ⋯ ⋯ ∅;obtain⟨A,B,C,rfl,_⟩:=id b4;have one:Q (.v (kF (.side (un f).1 (un f).2 (1+mn,1)))) [.int A,.int B,.int C]:=q (.side (un f).1 (un f).2 (1+mn,1)) _ ⟨O4 f hf,w1,w2,w3,(Ue f hf).1,(Ue f hf).2,O9 ⋯⟩ (b4.mono ⋯) rfl;cases w with
 |false=>
  exact⟨f,rfl,hf,rfl,one⟩
 |true=>
  show if decide (0<kd)=true then _ else _
  by_cases c:0<kd
  ·rw[oY c,oV rfl];exact⟨f,rfl,hf,rfl,one⟩
  ·rw[oX c,oW ∅];refine⟨_,2,n+1+1+1+1,rfl,b4,⋯,∅,∅,λtn y5 t0 t1 b5=>?_⟩;obtain⟨A,B,C,rfl,_⟩:=id b5;obtain⟨l,hl⟩:∃l,eZ [L2.T.str (XI "left"),.str (XI "right")] tn=oZ (.str (vC l)):=by
    have:tn=0\/tn=1:=⋯
    obtain rfl|rfl:=this
    ·exact⟨true,rfl⟩
    ·exact⟨false,rfl⟩
   show o1 (eZ [L2.T.str (XI "left"),.str (XI "right")] tn) _;rw[hl];refine⟨f,rfl,hf,by show(0:Int)<20;decide,?_⟩;obtain⟨g,hg⟩:∃g:Nat,((f:Int)+(1+mo))%20=(g:Int):=⟨(((f:Int)+(1+mo))%20).toNat,⋯⟩;have aEA:g<20:=⋯
   have hgf:f≠g:=⋯
   rw[hg];refine⟨g,rfl,aEA,⟨∅,∅⟩,?_⟩;have er:(1+mn).fdiv 2=(1+mn)/2:=YU _ ∅;rw[er];obtain⟨r1,r2,r3⟩:=Mj (k:=1+(1+mn)/2) (e:=3) ⋯ ⋯ ∅;exact⟨rfl,q (.arc (un f).1 (un f).2 (un g).1 (un g).2 (1+(1+mn)/2,1) l) _ ⟨O4 f hf,O4 g aEA,λz=>PL ⟨f,hf⟩ ⟨g,aEA⟩ (by simpa using hgf) (Prod.ext z.1 z.2),r1,r2,r3,Ue f hf,Ue g aEA,O9 ⋯⟩ (b5.mono ⋯) rfl⟩
def DF:dG:=λas Q=>∃m:Mv,as=[.v (kF m)]/\gT m/\Q (.v (kF (QY m))) []
abbrev Ja(P w K mg base):=(~~~Fn) 4 "_law_back" ["_law_move"] (aJ K DF)
abbrev Hq:ki:=top 98
theorem J4:aF ["_law_move"] ["_law_move"] (aC Hq):=dH
theorem B4(F:cK K "_law_back" "_law_back" Hq f fd)(TX:Txt mg)(sj: ~~~eT):(~~~aV) cM 4 f fd ["_law_move"] (aJ K DF):=by
 refine F.okU J4 (λhr=>(aB (bN (gQ rfl hr (fQ 0) bK (a9 _)) (aE (aG (aN (f3 bK (fK sj (f2 (fQ 0) (aN (f2 (c8 aA) aA)))) (fQ 0))))) a8) (aE (aG (aN (fc bK (f4 (fK sj (f2 (fQ 0) (aN (f2 (c8 aA) aA)))) (fK sj (f2 (fQ 0) (aN (f2 (c8 aA) aA)))) (fQ 0) (fQ 0)))))))) ?_;rintro as Q ⟨m,rfl,h,q⟩;have n1:bC ((-1,1):Fr):=aI (-1);have s1:sz ((-1,1):Fr)<=1:=lQ (e:=1) ∅ ∅ ∅;cases m with
 |side x y m=>
  refine⟨WS _,?_⟩;refine⟨x,y,(-1,1),4,rfl,h.1.nv,n1,⋯,rfl,?_⟩;rw[vK h.1.nv.x,vK h.1.nv.y];exact q
 |arc x y u v r l=>
  refine⟨WS _,?_⟩;refine⟨x,y,(-1,1),4,rfl,h.1.nv,n1,⋯,u,v,(-1,1),4,rfl,h.2.1.nv,n1,⋯,rfl,?_⟩;rw[vK h.1.nv.x,vK h.1.nv.y,vK h.2.1.nv.x,vK h.2.1.nv.y];exact q
def bP:Fr->Fr->List Mv->List Pc
 |_,_,[]=>[]
 |a,b,m::ms=>mM a b m::bP (mM a b m).px (mM a b m).py ms
theorem dS:∀(ms:List Mv)(a b:Fr),(bP a b ms).length=ms.length
 |[],_,_=>rfl
 |m::ms,a,b=>congrArg (· + 1) (dS ms _ _)
theorem Lb:∀(ms:List Mv)(a b:Fr)(m:Mv),bP a b (ms++[m])=bP a b ms++[mM (cQ a (bP a b ms)) (cR b (bP a b ms)) m]
 |[],_,_,_=>rfl
 |n::ms,a,b,m=>congrArg (mM a b n::·) (Lb ms _ _ m)
def xR:Mv->Fr
 |.side _ _ m=>m
 |.arc _ _ _ _ r _=>r
def bU:Mv->Fr×Fr
 |.side x y _=>(x,y)
 |.arc x y _ _ _ l=>P9 l x y
def eU:Mv->Fr×Fr
 |.side x y _=>(x,y)
 |.arc _ _ u v _ l=>P9 l u v
def M9:dG:=λas Q=>∃(a b:Fr)(ms:List Mv),as=[.v (vc a b),.v (.lst (ms.map kF))]/\St a b/\(∀m∈ms,gT m)/\ms.length<=12/\Q (.v (bZ a b (bP a b ms))) []
abbrev pK(P w K mg base):=(~~~Fn) 4 "_law_path_of" ["_law_start","_law_moves"] (aJ K M9)
abbrev tK:ki:=top 97
theorem iM:aF ["_law_start","_law_moves","_law_move","_law_at","_law_pieces","_law_middle"] ["_law_start","_law_moves"] (aC tK):=dH
theorem Kw(F:cK K "_law_path_of" "_law_path_of" tK f fd)(TX:Txt mg)(zj: ~~~El)(aCX: ~~~Qu)(sj: ~~~eT):(~~~aV) cM 4 f fd ["_law_start","_law_moves"] (aJ K M9):=by
 refine F.okU iM (λhr=>(aB (gH (i:=3) (j:=4) rfl iM.nd rfl rfl ∅ rfl rfl (f2 (fv 0) (cN cB)) rfl) (aB (eI PassesOwn.never rfl (eF rfl (fv 1)) (fG 2 iM.nd) (aE (bN (gQ rfl hr (fQ 2) bK (a9 _)) (aB (fS 3 iM.nd (fK zj (f2 (fv 3) (fK sj (f2 (fQ 2) (fQ 2)))))) (aE (eH (dP rfl (fv 4) (f1 (aN (f2 bK (fv 3)))))))) (aB (fS 5 iM.nd (fK aCX (f2 (fv 3) (fK sj (f2 (fQ 2) (fQ 2)))))) (aB (fS 3 iM.nd (fK zj (f2 (fv 5) (fK sj (f2 (fQ 2) (fQ 2)))))) (aE (eH (dP rfl (fv 4) (f1 (aN (f4 bK (fv 5) (fv 3) (fQ 2)))))))))))) (aE (aG (aN (f2 (fv 0) (Jx rfl rfl TX.n_tuple (f1 (fv 4)))))))))) ?_;rintro as Q ⟨a,b,ms,rfl,⟨nv,sa,sb⟩,hm,hl,q⟩;refine cA (λi E=>∃(v2 v5:Option U)(ps:List Pc)(hx hy:Fr),E=[⇑(vc a b),⇑(.lst (ms.map kF)),v2,⇑(vc hx hy),↥(ps.map g9),v5]/\ps=bP a b (ms.take i)/\hx=cQ a ps/\hy=cR b ps/\Nv hx hy (3+16*i)) ⟨_,_,[],a,b,rfl,rfl,rfl,rfl,nv⟩ ?_ ?_
 ·rintro i t rest E hi ⟨v2,v5,ps,hx,hy,rfl,hp,ex,ey,hv⟩ KK;rw[WH]at hi;cases hq:ms[i]? with
  |none=>rw[hq]at hi;cases hi
  |some m=>
   rw[hq]at hi;cases hi;have aOM:i<ms.length:=(WE.mp hq).1;have ok:=hm m (WI hq);have op:=Nz hv ok;have nx:=(sW.nv op).up (show 3+16*i+16<=3+16*(i+1) by lia);have pl:ps.length<=12:=by rw[hp,dS,XT];lia
   have tk:bP a b (ms.take (i+1))=ps++[mM hx hy m]:=by rw[ZF,hq,ao,Lb,<-hp,<-ex,<-ey]
   have done:∀v2 v5,∃(v2' v5':Option U)(ps':List Pc)(hx' hy':Fr),[⇑(vc a b),⇑(.lst (ms.map kF)),v2,⇑(vc (mM hx hy m).px (mM hx hy m).py),↥(ps.map g9++[g9 (mM hx hy m)]),v5]=[⇑(vc a b),⇑(.lst (ms.map kF)),v2',⇑(vc hx' hy'),oZ (U.o false (ps'.map g9)),v5']/\ps'=bP a b (ms.take (i+1))/\hx'=cQ a ps'/\hy'=cR b ps'/\Nv hx' hy' (3+16*(i+1)):=λv2 v5=>
    ⟨v2,v5,ps++[mM hx hy m],_,_,by rw[WU];rfl,tk.symm,(sP ps a _).symm,(sU ps b _).symm,nx⟩
   have lp:(ps.map g9++[g9 (mM hx hy m)]).length<=9000:=by simp;lia
   cases m with
   |side x y m=>
    refine⟨WS _,?_⟩;have s:=k7 ok.1.nv ok.2.1 ok.2.2.1;have sm:=ok.2.2.1;refine⟨x,y,m,4,rfl,ok.1.nv,ok.2.1,⋯,?_⟩;refine⟨hx,hy,_,_,3+16*i,4+4,rfl,hv,s,⋯,?_⟩;exact⟨lp,KK _ (done _ _)⟩
   |arc x y u v r l=>
    obtain⟨o1,o2,o3,o4,o5,o6⟩:=id ok;refine⟨WS _,?_⟩;have s:=k7 o1.nv o4 o5;have t:=k7 o2.nv o4 o5;refine⟨x,y,r,4,rfl,o1.nv,o4,⋯,?_⟩;refine⟨hx,hy,_,_,3+16*i,4+3,rfl,hv,s,⋯,?_⟩;refine⟨u,v,r,4,rfl,o2.nv,o4,⋯,?_⟩;refine⟨_,_,_,_,3+16*i+(4+3)+1,4+3,rfl,Gp hv s,t,⋯,?_⟩;exact⟨lp,KK _ (done _ _)⟩
 ·rintro E ⟨v2,v5,ps,hx,hy,rfl,hp,ex,ey,hv⟩;rw[WJ,ZJ]at hp;rw[<-hp]at q;exact⟨A2 a b ps (Kl ps),q⟩
theorem U5{Fa Fb:FE}{κ:L2.R->En->Prop}(R:L2.R->Prop)(ha:c=true->∀κ',(∀u,R u->κ' u E)->Fa E κ')(hb:c=false->∀κ',(∀u,R u->κ' u E)->Fb E κ')(hk:∀u,R u->κ u E):if c=true then Fa E κ else Fb E κ:=by
 cases c with
 |true=>exact ha rfl κ hk
 |false=>exact hb rfl κ hk
theorem Kg(h:∀t∈L,∃m,t=kF m/\gT m):∃ms:List Mv,L=ms.map kF/\∀m∈ms,gT m:=by
 induction L with
 |nil=>exact⟨[],rfl,by simp⟩
 |cons t L ih=>
  obtain⟨m,e,ok⟩:=h t (by simp);obtain⟨ms,e2,ok2⟩:=ih λt ht=>h t (WQ _ ht);refine⟨m::ms,by rw[e,e2];rfl,λm' hm'=>?_⟩;obtain rfl|hm':=WM.mp hm'
  ·exact ok
  ·exact ok2 m' hm'
theorem yH(h:∀t∈L,∃m,t=kF m/\gT m):bX L=true:=by
 obtain⟨ms,rfl,_⟩:=Kg h;exact qA ms
theorem Ls{s t:Int}(s0:0<=s)(s1:s<9)(t0:0<=t)(t1:t<9):St (s-4,1) (t-4,1):=
  ⟨⟨aI _,aI _,lQ (show(s-4).natAbs<2^3 by lia) (show(1:Int).natAbs<2^3 by decide) ∅,lQ (show(t-4).natAbs<2^3 by lia) (show(1:Int).natAbs<2^3 by decide) ∅⟩,
   ⟨(s-4)*65,by rw[eV];push_cast;grind,⋯⟩,⟨(t-4)*65,by rw[eV];push_cast;grind,⋯⟩⟩
structure Pm(a b:Fr)(ms:List Mv):Prop where
 st:St a b
 ok:∀m∈ms,gT m
 ne:ms≠[]
 len:ms.length<=12
def CM:dG:=λas Q=>∃(xs:List L2.T)(n k:Int),as=[.b xs,.v (.int k)]/\Bx xs n/\n<=800000/\1<=k/\k<=9/\∀ms ys,(∀m∈ms,gT m)->ms≠[]->ms.length<=10->Bx ys (n+70)->bX ys=true->Q (.l (ms.map kF)) ys
abbrev rT(P w K mg base):=(~~~Fn) 5 "_law_all_moves" ["_law_box_here","_law_most"] (aJ K CM)
abbrev nL:ki:=top 99
theorem jN:aF ["_law_box_here","_law_most","_law_found","_law_rest","_law_way","_law_many"] ["_law_box_here","_law_most"] (aC nL):=dH
theorem Br(F:cK K "_law_all_moves" "_law_all_moves" nL f fd)(TX:Txt mg)(uj: ~~~rB)(xf: ~~~mX)(aBP: ~~~Ja):(~~~aV) cM 5 f fd ["_law_box_here","_law_most"] (aJ K CM):=by
 refine F.okU jN (λhr=>(aB (gH (i:=4) (j:=5) rfl jN.nd rfl rfl ∅ rfl rfl (f2 (fB uj (f2 (fv 0) aA)) (a7 cO aA (fB uj (f2 (fv 0) (fv 1))))) rfl) (aB (yD (i:=2) (N':=["_law_turn","_law_box_here"]) (t:=1) (cap:=[(0,true)]) jN.nd rfl (YD rfl) rfl rfl (bV.of rfl) rfl ∅ (gF rfl TX.n_range (f1 (mH (fP iK (fv 4) aA) (fv 5) (a7 cO aA (aS eB (fv 5) aA))))) (λ_ _ _ _=>(fH 0)) (λ_ _ _ _=>(fB xf (f2 (fv 1) (De rfl hr (fv 0) aA (a9 _)))))) (aB (bN (fP iK (fv 4) aA) (aE (aG (fv 2))) a8) (aB (fS 3 jN.nd (m9 (fv 2) (iR (N':=["_law_move"]) (t:=1) (cap:=[]) rfl (bV.of rfl) rfl ∅ (eF rfl (fv 2)) (λ_ _ _ _=>(fH 0)) (λ_ _ _ _=>(fK aBP (f1 (fv 0))))))) (aB (bN (gQ rfl hr (fv 4) aA (a9 _)) (aE (aG (fv 3))) a8) (aE (aG (Ym (N':=["_law_turn","_law_rest","_law_box_here"]) (t:=1) (cap:=[(3,true),(0,true)]) rfl (bV.of rfl) ∅ (gF rfl TX.n_range (f1 (fE rfl rfl TX.n_len (f1 (fv 3))))) (λ_ _ _ _=>(Yq (i:=0) (show jy (["_law_turn","_law_rest","_law_box_here"]:List Str) by decide +kernel) rfl (YD rfl) (YQ rfl))) (λ_ _ _ _=>(FN rfl (fv 1) (f1 (fB uj (f2 (fv 2) (fE rfl rfl TX.n_len (f1 (fv 1))))))))))))))))) ?_;rintro as Q ⟨xs,n,k,rfl,hB,hn,hk1,hk9,q⟩;refine⟨xs,4,n,rfl,hB,⋯,∅,∅,λway y1 w0 w1 b1=>?_⟩;refine⟨y1,k,n+1,rfl,b1,⋯,⋯,⋯,λmn y2 m0 m1 b2=>?_⟩;obtain⟨A0,B0,c0,rfl,_⟩:=id b2;have ef:(1+mn).fdiv 2=(1+mn)/2:=YU _ ∅;have aAR:∀m:Nat,(iY 0 m).length=m:=λm=>by simp[iY]
 show if decide (way<2)=true then _ else _;refine U5 (λu=>∃c:Int,vl [oZ (U.o true [L2.T.int A0,.int B0,.int c0]),↑k,none,none,↑way,↑(1+mn)] u=oZ (.int c)/\1<=c/\c<=9/\(¬way<2->c<=5)) ?_ ?_ ?_
 ·intro hw κ' J;exact J (.p (.int (1+mn))) ⟨1+mn,rfl,⋯,⋯,λz=>absurd (of_decide_eq_true hw) z⟩
 ·intro hw κ' J;refine⟨⟨∅,∅⟩,?_⟩;rw[ef];exact J _ ⟨1+(1+mn)/2,rfl,⋯,⋯,λ_=>⋯⟩
 rintro u ⟨c,hu,c1,c9,c5⟩;show i1 (vl [oZ (U.o true [L2.T.int A0,.int B0,.int c0]),↑k,none,none,↑way,↑(1+mn)] u) _;rw[hu];refine⟨⟨⋯,⋯⟩,rfl,?_⟩;refine cX (λi E=>∃(w0:Option U)(A B c:Int)(L:List L2.T),E=[w0,oZ (.o true [.int A,.int B,.int c]),↥L]/\Bx [.int A,.int B,.int c] (n+4+5*i)/\L.length=i/\∀t∈L,∃m,t=kF m/\gT m) ⟨none,A0,B0,c0,[],rfl,b2.mono ⋯,rfl,by simp⟩ ?_ ?_
 ·rintro i t rest E hi ⟨w0,A,B,c',L,rfl,hb,hL,hU⟩ KK;obtain⟨hin,rfl⟩:=nG hi;refine⟨WS _,_,_,_,rfl,hb,⋯,λm ys om b' nl'=>?_⟩;obtain⟨A',B',c'',rfl,_⟩:=id b';refine⟨by show L.length<9000;lia,KK _ ⟨_,A',B',c'',L++[kF m],rfl,b'.mono ⋯,by rw[WK,hL];rfl,λt ht=>?_⟩⟩;obtain ht|ht:=XF.mp ht
  ·exact hU t ht
  ·rw[WT]at ht;exact⟨m,ht,om⟩
 rintro E ⟨w0,A,B,cc,L,rfl,hb,hL,hU⟩;rw[aAR]at hL hb;have hLc:(L.length:Int)=c:=⋯
 replace hb:=hb.mono (show n+4+5*(c.toNat:Int)<=n+50 by lia);refine⟨yH hU,?_⟩;show if decide (way<2)=true then _ else _
 by_cases hw:way<2
 ·rw[oY hw,oV rfl];obtain⟨ms,rfl,om⟩:=Kg hU;rw[WJ]at hLc;exact⟨qA ms,q ms _ om (by intro z;rw[z]at hLc;simp at hLc;lia) ⋯ (hb.mono ⋯) rfl⟩
 ·rw[oX hw,oW ∅];refine⟨rfl,?_⟩;refine cX (λi E=>∃(w0:Option U)(M:List L2.T),E=[w0,↥M]/\M.length=i/\∀t∈M,∃m,t=kF m/\gT m) ⟨none,[],rfl,rfl,by simp⟩ ?_ ?_
  ·rintro i t rest E hi ⟨w0,M,rfl,hM,hV⟩ KK;obtain⟨m,rfl,om⟩:=hU t (WI hi);have yc:=(WE.mp hi).1;refine⟨m,rfl,om,by show M.length<9000;lia,KK _ ⟨_,M++[kF (QY m)],rfl,by rw[WK,hM];rfl,λt ht=>?_⟩⟩;obtain ht|ht:=XF.mp ht
   ·exact hV t ht
   ·rw[WT]at ht;exact⟨QY m,ht,om.back⟩
  rintro E ⟨w0,M,rfl,hM,hV⟩;refine⟨yH hV,by show L.length+M.length<=9000;lia,?_⟩;have hW:∀t∈L++M,∃m,t=kF m/\gT m:=λt ht=>(XF.mp ht).elim (hU t) (hV t);have hN:(L++M).length<=10:=by rw[WK];have:=c5 hw;lia
  have hN1:1<=(L++M).length:=by rw[WK];lia
  generalize L++M=W at hW hN hN1⊢;refine⟨WS _,?_⟩;show if(way==3)=true then _ else _
  by_cases h3:way=3
  ·rw[oV (by simpa using h3)];obtain⟨ms,rfl,om⟩:=Kg hW;rw[WJ]at hN hN1;exact⟨qA ms,q ms _ om (by intro z;rw[z]at hN1;simp at hN1) hN (hb.mono ⋯) rfl⟩
  ·rw[oW (by simpa using h3)];refine⟨⟨⋯,⋯⟩,rfl,?_⟩;refine cX (λi E=>∃(w0:Option U)(A B c:Int)(Lf R:List L2.T),E=[w0,oZ (.o true Lf),oZ (.o true [.int A,.int B,.int c]),↥R]/\Bx [.int A,.int B,.int c] (n+50+i)/\Lf.length+i=W.length/\R.length=i/\(∀t∈Lf,∃m,t=kF m/\gT m)/\∀t∈R,∃m,t=kF m/\gT m) ⟨none,A,B,cc,W,[],rfl,by simpa using hb,rfl,rfl,hW,by simp⟩ ?_ ?_
   ·rintro i t rest E hi ⟨w0,A,B,c',Lf,R,rfl,hb,hl,hR,hU,hV⟩ KK;obtain⟨hin,rfl⟩:=nG hi;rw[XU]at hin;refine⟨_,(Lf.length:Int),_,rfl,hb,⋯,⋯,⋯,λr ys r0 r1 b'=>?_⟩;obtain⟨A',B',c'',rfl,_⟩:=id b';have hr:r.toNat<Lf.length:=⋯
    refine⟨r0,by show Lf.length<=9000;lia,?_⟩;show o1 (Lf[r.toNat]?) _;rw[WG hr];have he:(Lf.eraseIdx r.toNat).length+1=Lf.length:=by rw[List.length_eraseIdx_of_lt hr];lia
    refine⟨by show R.length<9000;lia,KK _ ⟨_,A',B',c'',Lf.eraseIdx r.toNat,R++[Lf[r.toNat]],rfl,b'.mono ⋯,⋯,by rw[WK,hR];rfl,λt ht=>hU t (List.mem_of_mem_eraseIdx ht),λt ht=>?_⟩⟩;obtain ht|ht:=XF.mp ht
    ·exact hV t ht
    ·rw[WT]at ht;rw[ht];exact hU _ (ZL hr)
   rintro E ⟨w0,A,B,c',Lf,R,rfl,hb,hl,hR,hU,hV⟩;rw[XU,aAR]at hl hR hb;obtain rfl:Lf=[]:=YO ⋯;refine⟨yH hV,?_⟩;obtain⟨ms,rfl,om⟩:=Kg hV;rw[WJ]at hR;exact⟨qA ms,q ms _ om (by intro z;rw[z]at hR;simp at hR;lia) ⋯ (hb.mono ⋯) rfl⟩
def Ql:dG:=λas Q=>∃(xs:List L2.T)(n k:Int),as=[.b xs,.v (.int k)]/\Bx xs n/\n<=700000/\1<=k/\k<=9/\∀a b ms ys,Pm a b ms->Bx ys (n+80)->Q (.v (.tup [bZ a b (bP a b ms),.lst (ms.map kF)])) ys
abbrev Al:ki:=top 100
theorem wR:aF ["_law_box_here","_law_most","_law_start","_law_found"] ["_law_box_here","_law_most"] (aC Al):=dH
theorem Wb(F:cK K "_law_drawn" "_law_drawn" Al f fd)(TX:Txt mg)(uj: ~~~rB)(yi: ~~~rT)(xk: ~~~pK):(~~~aV) cM 6 f fd ["_law_box_here","_law_most"] (xJ K Ql):=by
 refine F.okL wR ?len (λwj A outer s H E hr=>(aB (Fx (i:=2) wR.nd rfl (YD rfl) (aN (fc (aN (fc (a7 jZ (iQ uj hr ⋯ rfl (fc (fv 0) (fc aA cB))) aA) (fc aA cB))) (fc (aN (fc (a7 jZ (iQ uj hr ⋯ rfl (fc (fv 0) (fc aA cB))) aA) (fc aA cB))) cB))))
 (aB (Fx (i:=3) wR.nd rfl (YD rfl) (iQ yi hr ⋯ rfl (fc (fv 0) (fc (fv 1) cB))))
 (aE (aG (Ft (fc (yB xk hr ⋯ rfl (fc (fv 2) (fc (fv 3) cB))) (fc (fv 3) cB)))))))) ?rd
 case len=>rintro as Q ⟨xs,n,k,rfl,_⟩;rfl
 case rd=>
  rintro as Q ⟨xs,n,k,rfl,hB,hn,hk1,hk9,q⟩;refine⟨xs,9,n,rfl,hB,⋯,∅,∅,λsx y1 s0 s1 b1=>?_⟩;refine⟨y1,9,n+1,rfl,b1,⋯,∅,∅,λsy y2 t0 t1 b2=>?_⟩;have nvs:=Ls s0 s1 t0 t1;refine⟨y2,n+1+1,k,rfl,b2,⋯,hk1,hk9,λms ys om nm lm b3 nl=>?_⟩;obtain⟨A,B,C,rfl,_⟩:=id b3;refine⟨_,_,ms,rfl,nvs,om,⋯,?_⟩;exact q _ _ ms _ ⟨nvs,om,nm,⋯⟩ (b3.mono ⋯)
structure Fw(p:Fr):Prop where
 n:bC p
 s:sz p<=14
 pos:0<val p
theorem Nn{n d:Int}(h1:1<=n)(h2:n<=9999)(h3:1<=d)(h4:d<=999):Fw (jY n d)/\d≠0/\d.natAbs<2^8000:=by
 have nz:d≠0:=⋯
 have b:∀{z:Int},z.natAbs<=9999->z.natAbs<2^14:=λh=>XY h ∅;refine⟨⟨iW nz,oR nz (b ⋯) (b ⋯) ∅,?_⟩,nz,vU (e:=14) (b ⋯) ∅⟩;rw[hJ nz];have hn:(0:Rat)<(n:Rat):=by exact_mod_cast (show(0:Int)<n by lia)
 have hd:(0:Rat)<(d:Rat):=by exact_mod_cast (show(0:Int)<d by lia)
 exact bL hd (by
   have:(n:Rat)/(d:Rat)*(d:Rat)=n:=by grind
   rw[this];exact hn)
def N5:dG:=λas Q=>∃(xs:List L2.T)(n:Int),as=[.b xs]/\Bx xs n/\n<=900000/\∀p ys,Fw p->Bx ys (n+5)->bX ys=true->Q (.v (fr p)) ys
abbrev Cm(P w K mg base):=(~~~Fn) 2 "_law_width" ["_law_box_here"] (aJ K N5)
abbrev An:ki:=top 101
theorem wU:aF ["_law_box_here","_law_way","_law_bottom"] ["_law_box_here"] (aC An):=dH
theorem Wd(F:cK K "_law_width" "_law_width" An f fd)(TX:Txt mg)(uj: ~~~rB)(wk: ~~~pI):(~~~aV) cM 2 f fd ["_law_box_here"] (aJ K N5):=by
 refine F.okU wU (λhr=>(aB (fS 1 wU.nd (fB uj (f2 (fv 0) aA))) (aB (bN (gQ rfl hr (fv 1) aA (a9 _)) (aB (fS 2 wU.nd (a7 cO aA (fB uj (f2 (fv 0) aA)))) (aE (aG (fK wk (f2 (a7 cO aA (fB uj (f2 (fv 0) (FK rfl rfl TX.n_min (f2 (aS bD aA (fv 2)) aA))))) (fv 2)))))) a8) (aB (bN (gQ rfl hr (fv 1) aA (a9 _)) (aE (aG (aN (f2 (a7 cO aA (fB uj (f2 (fv 0) aA))) aA)))) a8) (aE (aG (fK wk (f2 (a7 cO aA (fB uj (f2 (fv 0) (fX (cN (f2 aA aA)) (fB uj (f2 (fv 0) aA)))))) (fX (cN (f4 aA aA aA aA)) (fB uj (f2 (fv 0) aA))))))))))) ?_;rintro as Q ⟨xs,n,rfl,hB,hn,q⟩;refine⟨xs,8,n,rfl,hB,⋯,∅,∅,λway y1 w0 w1 b1=>?_⟩;obtain⟨A,B,C,rfl,_⟩:=id b1;refine⟨WS _,?_⟩;show if(way==0)=true then _ else _
 by_cases h0:way=0
 ·rw[oV (by simpa using h0)];refine⟨_,995,n+1,rfl,b1,⋯,∅,∅,λbo y2 o0 o1' b2=>?_⟩;obtain⟨A,B,C,rfl,_⟩:=id b2;refine⟨Kh ⋯,?_⟩;refine⟨_,_,n+1+1,rfl,b2,⋯,?_,?_,λr ys r0 r1 b3=>?_⟩
  ·show 1<=if(9999:Int)<20*(5+bo)then(9999:Int)else 20*(5+bo)
   split<;>lia
  ·show(if(9999:Int)<20*(5+bo)then(9999:Int)else 20*(5+bo))<2^200
   split<;>lia
  replace r1:r<if(9999:Int)<20*(5+bo)then(9999:Int)else 20*(5+bo):=r1;have r2:r<9999:=by revert r1;split<;>lia
  obtain⟨A,B,C,rfl,_⟩:=id b3;obtain⟨f,nz,z8⟩:=Nn (n:=1+r) (d:=5+bo) ⋯ ⋯ ⋯ ⋯;exact⟨_,_,rfl,nz,z8,rfl,q _ _ f (b3.mono ⋯) rfl⟩
 ·rw[oW (by simpa using h0)];refine⟨WS _,?_⟩;show if(way==1)=true then _ else _
  by_cases h1:way=1
  ·rw[oV (by simpa using h1)];refine⟨_,26,n+1,rfl,b1,⋯,∅,∅,λr y2 r0 r1 b2=>?_⟩;obtain⟨A,B,C,rfl,_⟩:=id b2;obtain⟨f,_,_⟩:=Nn (n:=25+r) (d:=1) ⋯ ⋯ ∅ ∅;refine⟨rfl,q (25+r,1) _ ⟨aI _,?_,?_⟩ (b2.mono ⋯) rfl⟩
   ·exact lQ (e:=14) (XY (show(25+r).natAbs<=50 by lia) ∅) (show(1:Int).natAbs<2^14 by decide) ∅
   ·rw[eV];exact_mod_cast (show 0<25+r by lia)
  ·rw[oW (by simpa using h1)];refine⟨_,2,n+1,rfl,b1,⋯,∅,∅,λpk y2 p0 p1 b2=>?_⟩;obtain⟨A,B,C,rfl,_⟩:=id b2;obtain⟨m,hm,m1,m2⟩:∃m:Int,eZ [L2.T.int 4,.int 24] pk=oZ (.int m)/\1<=m/\m<=24:=by
    have:pk=0\/pk=1:=⋯
    obtain rfl|rfl:=this
    ·exact⟨4,rfl,∅,∅⟩
    ·exact⟨24,rfl,∅,∅⟩
   show o1 (eZ [L2.T.int 4,.int 24] pk) _;rw[hm];refine⟨_,m,n+1+1,rfl,b2,⋯,m1,⋯,λr y3 r0 r1 b3=>?_⟩;refine⟨y3,4,n+1+1+1,rfl,b3,⋯,∅,∅,λpk y4 p0 p1 b4=>?_⟩;obtain⟨A,B,C,rfl,_⟩:=id b4;obtain⟨d,hd,d1,d2⟩:∃d:Int,eZ [L2.T.int 1,.int 2,.int 3,.int 4] pk=oZ (.int d)/\1<=d/\d<=4:=by
    have:pk=0\/pk=1\/pk=2\/pk=3:=⋯
    obtain rfl|rfl|rfl|rfl:=this
    ·exact⟨1,rfl,∅,∅⟩
    ·exact⟨2,rfl,∅,∅⟩
    ·exact⟨3,rfl,∅,∅⟩
    ·exact⟨4,rfl,∅,∅⟩
   show o1 (eZ [L2.T.int 1,.int 2,.int 3,.int 4] pk) _;rw[hd];obtain⟨f,nz,z8⟩:=Nn (n:=1+r) (d:=d) ⋯ ⋯ d1 ⋯;exact⟨_,_,rfl,nz,z8,rfl,q _ _ f (b4.mono ⋯) rfl⟩
end
def L6:dG:=λas Q=>∃(xs:List L2.T)(n:Int),as=[.b xs]/\Bx xs n/\n<=600000/\∀a b ms p(s:Int)ys,Pm a b ms->Fw p->(s=1\/s=2\/s=3)->Bx ys (n+100)->Q (.v (.tup [bZ a b (bP a b ms),.lst (ms.map kF),fr p,.int s])) ys
abbrev Hr:ki:=top 102
theorem mN:aF ["_law_box_here","_law_great","_law_far","_law_steps","_law_found","_law_path"] ["_law_box_here"] (aC Hr):=dH
theorem B5{P:kg}{w:ko}{K:W.Frag}{mg:Str->Option oA}{base:oE}{f:jz}{fd:mf}(F:cK K "_law_case" "_law_case" Hr f fd)(TX:Txt mg)(uj: ~~~rB)(aAV: ~~~Cm)(xf: ~~~mX)(xk: ~~~pK)(aAW:Fn P w K mg base 6 "_law_drawn" ["_law_box_here","_law_most"] (xJ K Ql)):(~~~aV) cM 7 f fd ["_law_box_here"] (xJ K L6):=by
 refine F.okL mN ?len (λwj A outer s H E hr=>(aB (Fx (i:=1) mN.nd rfl (YD rfl) (De rfl hr (iQ uj hr ⋯ rfl (fc (fv 0) (fc aA cB))) aA (a9 _)))
 (aB (gH (i:=2) (j:=3) rfl mN.nd rfl rfl ∅ rfl rfl (fc (iQ aAV hr ⋯ rfl (fc (fv 0) cB)) (fc (a7 cO aA (iQ uj hr ⋯ rfl (fc (fv 0) (fc aA cB)))) cB)) rfl)
 (aB (bN (iB (fv 1)) (aB (yD (i:=4) (N':=["_law_turn","_law_box_here"]) (t:=1) (cap:=[(0,true)]) mN.nd rfl (YD rfl) rfl rfl (bV.of rfl) rfl ∅ (gF rfl TX.n_range (fc (a7 cO aA (iQ uj hr ⋯ rfl (fc (fv 0) (fc aA cB)))) cB)) (λ_ _ _ _=>(uR (i:=0) (show jy (["_law_turn","_law_box_here"]:List Str) by decide +kernel) rfl (YD rfl) (YQ rfl))) (λ_ _ _ _=>(iQ xf hr ⋯ rfl (fc (fv 1) (fc uQ cB)))))
 (aE (aG (Ft (fc (yB xk hr ⋯ rfl (fc (aN (fc (aN (fc aA (fc aA cB))) (fc (aN (fc aA (fc aA cB))) cB))) (fc (fv 4) cB))) (fc (fv 4) (fc (fv 2) (fc aA cB)))))))) a8)
 (aB (fF (Jw aAW hr ⋯ rfl (fc (fv 0) (fc aA cB))) (dA (n:=2) rfl rfl (aP (uR (i:=5) mN.nd rfl (YD rfl)) (aP (uR (i:=4) mN.nd rfl (YD rfl)) cJ))))
 (aE (aG (Ft (fc (fv 5) (fc (fv 4) (fc (fv 2) (fc (mH (BQ iK (fE rfl rfl TX.n_len (fc (fv 4) cB)) aA (a9 _)) (fv 3) aA) cB)))))))))))) ?rd
 case len=>rintro as Q ⟨xs,n,rfl,_⟩;rfl
 case rd=>
  rintro as Q ⟨xs,n,rfl,hB,hn,q⟩;refine⟨xs,8,n,rfl,hB,⋯,∅,∅,λgr y1 g0 g1 b1=>?_⟩;refine⟨WS _,?_⟩;refine⟨y1,n+1,rfl,b1,⋯,λp y4 fw b4 nl4=>?_⟩;refine⟨y4,3,n+1+5,rfl,b4,⋯,∅,∅,λst y5 s0 s1 b5=>?_⟩;obtain⟨A,B,C,rfl,_⟩:=id b5;have aAR:∀m:Nat,(iY 0 m).length=m:=λm=>by simp[iY]
  have hs:1+st=1\/1+st=2\/1+st=3:=⋯
  show if(gr==0)=true then _ else _
  by_cases h0:gr=0
  ·rw[oV (by simpa using h0)];refine⟨_,6,n+1+5+1,rfl,b5,⋯,∅,∅,λmany y6 v0 v1 b6=>?_⟩;obtain⟨A1,B1,C1,rfl,_⟩:=id b6;refine⟨⟨⋯,⋯⟩,rfl,?_⟩;refine cX (λi E=>∃(w0:Option U)(A B c:Int)(L:List L2.T),E=[w0,oZ (.o true [.int A,.int B,.int c]),↥L]/\Bx [.int A,.int B,.int c] (n+10+5*i)/\L.length=i/\∀t∈L,∃m,t=kF m/\gT m) ⟨none,A1,B1,C1,[],rfl,b6.mono ⋯,rfl,by simp⟩ ?_ ?_
   ·rintro i t rest E hi ⟨w0,A,B,c',L,rfl,hb,hL,hU⟩ KK;obtain⟨hin,rfl⟩:=nG hi;refine⟨_,_,_,rfl,hb,⋯,λm ys om b' nl'=>?_⟩;obtain⟨A',B',c'',rfl,_⟩:=id b';refine⟨by show L.length<9000;lia,KK _ ⟨_,A',B',c'',L++[kF m],rfl,b'.mono ⋯,by rw[WK,hL];rfl,λt ht=>?_⟩⟩;obtain ht|ht:=XF.mp ht
    ·exact hU t ht
    ·rw[WT]at ht;exact⟨m,ht,om⟩
   rintro E ⟨w0,A,B,cc,L,rfl,hb,hL,hU⟩;rw[aAR]at hL hb;refine⟨yH hU,?_⟩;obtain⟨ms,rfl,om⟩:=Kg hU;rw[WJ]at hL;have st0:St (0,1) (0,1):=Ls (s:=4) (t:=4) ∅ ∅ ∅ ∅;refine⟨_,_,ms,rfl,st0,om,⋯,?_⟩;exact q _ _ ms p 1 _ ⟨st0,om,by intro z;rw[z]at hL;simp at hL;lia,⋯⟩ fw (.inl rfl) (hb.mono ⋯)
  ·rw[oW (by simpa using h0)];refine⟨_,n+1+5+1,4,rfl,b5,⋯,∅,∅,λa b ms y6 pm b6=>?_⟩;obtain⟨A1,B1,C1,rfl,_⟩:=id b6;show if decide ((((ms.map kF).length:Nat):Int)<3)=true then _ else _;have fin:∀s:Int,s=1\/s=2\/s=3->Q (.v (.tup [bZ a b (bP a b ms),.lst (ms.map kF),fr p,.int s])) [.int A1,.int B1,.int C1]:=λs hs=>q _ _ ms p s _ pm fw hs (b6.mono ⋯)
   by_cases c:(((ms.map kF).length:Nat):Int)<3
   ·rw[oV (oY c)];exact fin _ hs
   ·rw[oW (by rw[oX c];decide)];exact fin 1 (.inl rfl)
section
variable{P:kg}{w:ko}{K:W.Frag}{mg:Str->Option oA}{base:oE}
theorem gJ:∀(ms:List Mv)(a b:Fr)(i:Nat)(m:Mv),ms[i]?=oZ m->(bP a b ms)[i]?=oZ (mM (cQ a ((bP a b ms).take i)) (cR b ((bP a b ms).take i)) m)
 |[],_,_,_,_,h=>by simp at h
 |n::ms,a,b,0,m,h=>by cases h;rfl
 |n::ms,a,b,i+1,m,h=>gJ ms _ _ i m (by simpa using h)
theorem Dt:∀(ms:List Mv)(a b:Fr)(B:Nat),Nv a b 14->Dv B a->Dv B b->B+780*ms.length+20<2^14->(∀m∈ms,gT m)->kY 14 a b (bP a b ms)
 |[],_,_,_,_,_,_,_,_=>trivial
 |m::ms,a,b,B,nv,da,db,hB,ok=>by
  rw[XG]at hB;obtain⟨o,dx,dy⟩:=GY nv da db ⋯ (ok m WW);exact⟨o,Dt ms _ _ (B+780) (sW.nv o) dx dy ⋯ λn hn=>ok n (WQ _ hn)⟩
theorem uM(k:e<=f):∀{ps:List Pc}{a b:Fr},kY e a b ps->kY f a b ps
 |[],_,_,_=>trivial
 |_::_,_,_,h=>⟨sW.up k h.1,uM k h.2⟩
theorem Pm.chain(h:Pm a b ms):kY 14 a b (bP a b ms):=
 Dt ms a b 260 (h.st.1.up ∅) h.st.2.1 h.st.2.2 (by have:=h.len;lia) h.ok
def px(a b:Fr)(ms:List Mv)(i:Nat):Fr:=cQ a ((bP a b ms).take i)
def py(a b:Fr)(ms:List Mv)(i:Nat):Fr:=cR b ((bP a b ms).take i)
theorem Pm.nv(h:Pm a b ms)(i:Nat):Nv (px a b ms i) (py a b ms i) 14:=pN i (h.st.1.up ∅) h.chain
theorem rH(na:bC a)(nx:bC x):aH (aW a x) a=x:=bM (cF (cE na nx) na) nx (by rw[aT (cE na nx) na,bE na nx];grind)
theorem sub_sub'(na:bC a)(nx:bC x):aH a (aH a x)=x:=bM (cF na (cF na nx)) nx (by rw[aT na (cF na nx),aT na nx];grind)
theorem gV(nx:bC x)(nm:bC m)(h:0<val m):bO (aM x m) m=x:=by
 have m1:m.1≠0:=by have:=(fW nm).1 h;lia
 refine bM (eO (aK nx nm) m1) nx ?_;rw[i7 (aK nx nm) nm m1,aQ nx nm];have:val m≠0:=by grind
 grind
theorem uU(u:cD x y 4)(nm:bC m)(sm:sz m<=4)(h:0<val m):yV (aM x m) (aM y m) m:=by
 refine⟨(k7 u.nv nm sm).up ∅,nm,h,?_⟩;rw[aQ u.nv.x nm,aQ u.nv.y nm];have:=u.one;have e:val x*val m*(val x*val m)+val y*val m*(val y*val m)=(val x*val x+val y*val y)*(val m*val m):=by grind
 rw[e,this];grind
theorem gT.len(h:gT m):bC (xR m)/\sz (xR m)<=4/\0<val (xR m):=by
 cases m with
 |side x y m=>exact⟨h.2.1,h.2.2.1,h.2.2.2.1⟩
 |arc x y u v r l=>exact⟨h.2.2.2.1,XR h.2.2.2.2.1 ∅,h.2.2.2.2.2.1⟩
theorem gT.bu(h:gT m):cD (bU m).1 (bU m).2 4:=by
 cases m with
 |side x y m=>exact h.1
 |arc x y u v r l=>
  cases l with
  |true=>exact h.1.left
  |false=>
   have:=h.1;refine⟨⟨this.nv.y,d7 this.nv.x,this.nv.sy,by show sz (aR x)<=4;rw[qY];exact this.nv.sx⟩,?_⟩;show val y*val y+val (aR x)*val (aR x)=1;rw[b7 this.nv.x];have:=this.one;grind
theorem gT.eu(h:gT m):cD (eU m).1 (eU m).2 4:=by
 cases m with
 |side x y m=>exact h.1
 |arc x y u v r l=>
  have u':=h.2.1;cases l with
  |true=>exact u'.left
  |false=>
   refine⟨⟨u'.nv.y,d7 u'.nv.x,u'.nv.sy,by show sz (aR u)<=4;rw[qY];exact u'.nv.sx⟩,?_⟩;show val v*val v+val (aR u)*val (aR u)=1;rw[b7 u'.nv.x];have:=u'.one;grind
theorem yY(h:Nv a b e)(ok:gT (.arc x y u v r l)):
  aH a (aH a (aM x r))=aM x r/\aH b (aH b (aM y r))=aM y r/\aH (aW (aH a (aM x r)) (aM u r)) (aH a (aM x r))=aM u r/\aH (aW (aH b (aM y r)) (aM v r)) (aH b (aM y r))=aM v r:=by
 obtain⟨o1,o2,_,nr,_⟩:=ok;have nx:=aK o1.nv.x nr;have ny:=aK o1.nv.y nr;have nu:=aK o2.nv.x nr;have nw:=aK o2.nv.y nr;exact⟨sub_sub' h.x nx,sub_sub' h.y ny,rH (cF h.x nx) nu,rH (cF h.y ny) nw⟩
theorem MI(h:Nv a b e)(ok:gT m):Ln a b (xR m) (mM a b m):=by
 cases m with
 |side x y m=>
  obtain⟨n1,n2,n3⟩:bC m/\sz m<=4/\0<val m:=ok.len;have nx:=aK ok.1.nv.x n1;have ny:=aK ok.1.nv.y n1;show yV (aH (aW a (aM x m)) a) (aH (aW b (aM y m)) b) m;rw[rH h.x nx,rH h.y ny];exact uU ok.1 n1 n2 n3
 |arc x y u v r l=>
  obtain⟨n1,n2,n3⟩:bC r/\sz r<=4/\0<val r:=ok.len;obtain⟨e1,e2,e3,e4⟩:=yY h ok;show yV (aH a (aH a (aM x r))) (aH b (aH b (aM y r))) r/\yV (aH (aW (aH a (aM x r)) (aM u r)) (aH a (aM x r))) (aH (aW (aH b (aM y r)) (aM v r)) (aH b (aM y r))) r;rw[e1,e2,e3,e4];exact⟨uU ok.1 n1 n2 n3,uU ok.2.1 n1 n2 n3⟩
theorem Yx(h:Nv a b e)(ok:gT m):hB a b (xR m) (mM a b m)=bU m/\hE a b (xR m) (mM a b m)=eU m:=by
 cases m with
 |side x y m=>
  obtain⟨n1,n2,n3⟩:bC m/\sz m<=4/\0<val m:=ok.len;have nx:=aK ok.1.nv.x n1;have ny:=aK ok.1.nv.y n1;have e:(bO (aH (aW a (aM x m)) a) m,bO (aH (aW b (aM y m)) b) m)=(x,y):=by
   rw[rH h.x nx,rH h.y ny];exact Prod.ext (gV ok.1.nv.x n1 n3) (gV ok.1.nv.y n1 n3)
  exact⟨e,e⟩
 |arc x y u v r l=>
  obtain⟨n1,n2,n3⟩:bC r/\sz r<=4/\0<val r:=ok.len;obtain⟨e1,e2,e3,e4⟩:=yY h ok;constructor
  ·show P9 l (bO (aH a (aH a (aM x r))) r) (bO (aH b (aH b (aM y r))) r)=P9 l x y;rw[e1,e2];rw[gV ok.1.nv.x n1 n3,gV ok.1.nv.y n1 n3]
  ·show P9 l (bO (aH (aW (aH a (aM x r)) (aM u r)) (aH a (aM x r))) r) (bO (aH (aW (aH b (aM y r)) (aM v r)) (aH b (aM y r))) r)=P9 l u v;rw[e3,e4];rw[gV ok.2.1.nv.x n1 n3,gV ok.2.1.nv.y n1 n3]
theorem Pm.at_(h:Pm a b ms)(hi:ms[i]?=oZ m):Xn a b (bP a b ms) i (mM (px a b ms i) (py a b ms i) m) (xR m):=
 ⟨gJ ms a b i m hi,h.st.1.up ∅,uM ∅ h.chain,MI (h.nv i) (h.ok m (WI hi))⟩
theorem Pm.head(h:Pm a b ms)(hi:ms[i]?=oZ m):Za (cQ a ((bP a b ms).take i)) (cR b ((bP a b ms).take i)) (xR m) (mM (px a b ms i) (py a b ms i) m) = .tup [aX (bU m),aX (eU m)]:=by
 rw[Ga];have:=Yx (h.nv i) (h.ok m (WI hi));unfold px py at this⊢;rw[this.1,this.2]
theorem nF(hi:ms[i]?=oZ m):px a b ms (i+1)=(mM (px a b ms i) (py a b ms i) m).px/\py a b ms (i+1)=(mM (px a b ms i) (py a b ms i) m).py:=
 ⟨sQ (gJ ms a b i m hi),sV (gJ ms a b i m hi)⟩
def Qj(i:Nat)(bx bY ex eY rx ry:Fr):L2.T:=.tup [.str "strip",.int (i:Int),.tup [vc (aH bx rx) (aH bY ry),vc (aH ex rx) (aH eY ry),vc (aW ex rx) (aW eY ry),vc (aW bx rx) (aW bY ry)],.str "r-l-"]
def N1:dG:=λas Q=>∃(a b:Fr)(ms:List Mv)(i:Nat)(x y m p:Fr),as=[.v (bZ a b (bP a b ms)),.v (.int (i:Int)),.v (fr p)]/\Pm a b ms/\ms[i]?=oZ (.side x y m)/\Fw p/\
 Q (.v (Qj i (px a b ms i) (py a b ms i) (px a b ms (i+1)) (py a b ms (i+1)) (aM (aR y) p) (aM x p))) []
abbrev rY(P w K mg base):=(~~~Fn) 9 "side_strip" ["path","number","far"] (aJ K N1)
abbrev nU:ki:=top 52
theorem jO:aF ["path","number","far","reach","outline","begin","to"] ["path","number","far"] (aC nU):=dH
theorem Bw(F:cK K "side_strip" "side_strip" nU f fd)(TX:Txt mg)(ug: ~~~iH)(tw: ~~~eR)(uq: ~~~kJ)(uh: ~~~jF)(ur: ~~~jP)(ud: ~~~gN)(wq: ~~~uF):(~~~aV) cM 9 f fd ["path","number","far"] (aJ K N1):=by
 refine F.okU jO (λhr=>(aB (gH (i:=5) (j:=6) rfl jO.nd rfl rfl ∅ rfl rfl (f2 (fK ug (f2 (fv 0) (fv 1))) (fK tw (f1 (fX (fQ 0) (fv 1))))) rfl) (aB (fS 3 jO.nd (fK uq (f2 (fK uh (f1 (fX (fK ur (f2 (fv 0) (fv 1))) aA))) (fv 2)))) (aB (fS 4 jO.nd (aN (f4 (fK ud (f2 (fv 5) (fv 3))) (fK ud (f2 (fv 6) (fv 3))) (fK wq (f2 (fv 6) (fv 3))) (fK wq (f2 (fv 5) (fv 3)))))) (aE (aG (aN (f4 bK (fv 1) (fv 4) bK)))))))) ?_;rintro as Q ⟨a,b,ms,i,x,y,m,p,rfl,h,hi,fw,q⟩;have hl:=(WE.mp hi).1;have hp:=gJ ms a b i _ hi;have pa:=h.at_ hi;have ok:=h.ok _ (WI hi);have hd:=h.head hi;have n0:=h.nv i;have n1:=h.nv (i+1);obtain⟨ex,ey⟩:=nF (a:=a) (b:=b) hi;refine⟨a,b,_,i,rfl,by rw[dS];exact hl,?_⟩;show o1 (eZ ((bP a b ms).map g9) (i:Int)) _;rw[lL hp];refine⟨_,rfl,?_⟩;refine⟨a,b,_,i,_,_,rfl,pa,?_⟩;rw[hd];refine⟨x,y,rfl,?_⟩;have us:=ok.1.left;refine⟨_,_,p,4,rfl,us.nv,fw.n,by have:=fw.s;lia,?_⟩;have nr:=k7 us.nv fw.n fw.s;have en:Nv (mM (px a b ms i) (py a b ms i) (.side x y m)).px (mM (px a b ms i) (py a b ms i) (.side x y m)).py 14:=by rw[<-ex,<-ey];exact n1
 rw[ex,ey]at q;exact⟨_,_,_,_,14,4+14,rfl,n0,nr,∅,_,_,_,_,14,4+14,rfl,en,nr,∅,_,_,_,_,14,4+14,rfl,en,nr,∅,_,_,_,_,14,4+14,rfl,n0,nr,∅,rfl,q⟩
theorem JS{s:Int}(h:cD x y 4)(k:cD p q 4)(hs:s=1\/s=2\/s=3)(r:xM p q m x y)(r':xM (aR x) y m' (aR p) q):∀u∈rO x y p q s m m',Uv 30 u:=by
 intro u hu;obtain hu|hu:=yG hu
 ·obtain rfl|hu:=WM.mp hu
  ·exact⟨_,_,rfl,h.up ∅⟩
  ·exact(Ug k hs m x y h r u hu).up ∅
 ·obtain⟨z,hz,rfl⟩:=YI.mp hu;have hz:=dr.mp hz;have uz:Uv 30 z:=by
   obtain rfl|hz:=WM.mp hz
   ·exact⟨_,_,rfl,k.flip.up ∅⟩
   ·exact(Ug h.flip hs m' (aR p) q k.flip r' z hz).up ∅
  obtain⟨a,b,rfl,n⟩:=uz;exact⟨aR a,b,rfl,n.flip⟩
def vX(a b:Fr×Fr):Rat:=val a.1*val b.2-val a.2*val b.1
def vD(a b:Fr×Fr):Rat:=val a.1*val b.1+val a.2*val b.2
structure Us(u w:Fr×Fr)(us:List (Fr×Fr)):Prop where
 n2:2<=us.length
 n30:us.length<=30
 uv:∀a∈us,cD a.1 a.2 30
 hd:us[0]?=oZ u
 ls:us[us.length-1]?=oZ w
 nb:∀i a b,us[i]?=oZ a->us[i+1]?=oZ b->0<vX a b/\0<=vD a b
theorem yJ(h:aX a=aX b):a=b:=by
 have h:=congrArg cx h;have e:∀c:Fr×Fr,cx (aX c)=c:=λc=>pP c.1 c.2
 rwa [e,e]at h
theorem IK(h:∀t∈L,Uv e t):∃us:List (Fr×Fr),L=us.map aX/\∀a∈us,cD a.1 a.2 e:=by
 induction L with
 |nil=>exact⟨[],rfl,by simp⟩
 |cons t L ih=>
  obtain⟨us,e1,h1⟩:=ih λt ht=>h t (WQ _ ht);obtain⟨a,b,rfl,n⟩:=h t WW;refine⟨(a,b)::us,by rw[e1];rfl,λc hc=>?_⟩;obtain rfl|hc:=WM.mp hc
  ·exact n
  ·exact h1 c hc
theorem PM{s:Int}(h:cD x y 4)(k:cD p q 4)(ne:¬(p=x/\q=y))(hs:s=1\/s=2\/s=3)(hm:m<=3)(hm':m'<=3)(r:xM p q m x y)(r':xM (aR x) y m' (aR p) q):
  ∃us,rO x y p q s m m'=us.map aX/\Us (x,y) (p,q) us:=by
 have E:dD x y p q 4 4 s m m':=⟨h,k,∅,∅,∅,hs,hm,hm',r,r'⟩;obtain⟨l1,l2⟩:=GU hs hm hm' ne;obtain⟨us,e,uv⟩:=IK (JS h k hs r r');have at_:∀{i a},us[i]?=oZ a->(rO x y p q s m m')[i]?=oZ (aX a):=λ{i a}h=>by rw[e,WH,h];rfl
 have el:(rO x y p q s m m').length=us.length:=by rw[e,WJ]
 have bk:∀{i:Nat}{a:Fr×Fr},(rO x y p q s m m')[i]?=oZ (aX a)->us[i]?=oZ a:=λ{i a}h=>by
  rw[e,WH]at h;obtain⟨z,hz,ez⟩:=XE.mp h;rw[hz,yJ ez]
 refine⟨us,e,⟨⋯,⋯,uv,?_,?_,?_⟩⟩
 ·obtain⟨L,eL⟩:=E.first;refine bk ?_;rw[eL];rfl
 ·obtain⟨L,eL⟩:=E.last;refine bk ?_;rw[<-el,eL];simp[aX]
 ·intro i a b ha hb;obtain⟨a1,a2,b1,b2,ea,eb,_,_,n1,n2⟩:=E.nbr (at_ ha) (at_ hb);have ea:a=(a1,a2):=yJ ea;have eb:b=(b1,b2):=yJ eb;rw[ea,eb];exact⟨n1,n2⟩
def Az(a b:Fr×Fr):Fr×Fr:=(BB a.1 b.1 (Xh a.1 a.2 b.1 b.2),BB a.2 b.2 (Xh a.1 a.2 b.1 b.2))
theorem Ip(h:cD a.1 a.2 30)(k:cD b.1 b.2 30)(d:0<=vD a b):(Xh a.1 a.2 b.1 b.2).1≠0:=by
 obtain⟨u1,u2,u3⟩:=Io h k;have:0<val (Xh a.1 a.2 b.1 b.2):=by rw[u3];unfold vD at d;grind
 have:=(fW u1).1 this
 lia
theorem BC(h:cD a.1 a.2 30)(k:cD b.1 b.2 30)(d:0<=vD a b):Nv (Az a b).1 (Az a b).2 130:=by
 obtain⟨u1,u2,u3⟩:=Io h k;obtain⟨i1,i2,i3⟩:=Ge u1 (Ip h k d);exact(nE (qC h.nv k.nv) i1).up ⋯
theorem Mf(h:cD a.1 a.2 30)(k:cD b.1 b.2 30)(d:0<=vD a b):val (Az a b).1*(1+vD a b)=val a.1+val b.1/\val (Az a b).2*(1+vD a b)=val a.2+val b.2:=by
 obtain⟨u1,u2,u3⟩:=Io h k;have n0:=Ip h k d;obtain⟨i1,i2,i3⟩:=Ge u1 n0;have a':=qC h.nv k.nv;have vn:=O8 u1 n0;have e:1+vD a b=val (Xh a.1 a.2 b.1 b.2):=u3.symm;constructor
 ·show val (aM _ _)*_=_;rw[aQ a'.x i1,i3,bE h.nv.x k.nv.x,e];grind
 ·show val (aM _ _)*_=_;rw[aQ a'.y i1,i3,bE h.nv.y k.nv.y,e];grind
def Vt(a b:Fr×Fr):Rat:=vX a b/(1+vD a b)
theorem V2(x:0<vX a b)(d:0<=vD a b):0<Vt a b:=by
 have h1:0<1+vD a b:=by grind
 have e:Vt a b*(1+vD a b)=vX a b:=by
   unfold Vt;have:(1+vD a b)≠0:=by grind
   grind
 exact bL h1 (by rw[e];exact x)
theorem N8(h:cD a.1 a.2 30)(k:cD b.1 b.2 30)(d:0<=vD a b):
  (val (Az a b).1=val a.1-Vt a b*val a.2/\val (Az a b).2=val a.2+Vt a b*val a.1)/\(val (Az a b).1=val b.1+Vt a b*val b.2/\val (Az a b).2=val b.2-Vt a b*val b.1):=by
 obtain⟨e1,e2⟩:=Mf h k d;have n:(1+vD a b)≠0:=by grind
 have el:Vt a b*(1+vD a b)=vX a b:=by unfold Vt;grind
 have o1:=h.one;have o2:=k.one;generalize val (Az a b).1=t1 at e1⊢;generalize val (Az a b).2=t2 at e2⊢;generalize Vt a b=l at el⊢;have c:∀z w:Rat,(z-w)*(1+vD a b)=0->z=w:=λz w h=>by
  obtain q|q:=Rat.mul_eq_zero.mp h
  ·grind
  ·exact absurd q n
 unfold vX vD at *;refine⟨⟨c _ _ ?_,c _ _ ?_⟩,⟨c _ _ ?_,c _ _ ?_⟩⟩<;>grind
structure UB(u w:Fr×Fr)(s:Int)(us:List (Fr×Fr)):Prop where
 U:Us u w us
 nd:us.Nodup
 ex:∃m m',xM w.1 w.2 m u.1 u.2/\xM (aR u.1) u.2 m' (aR w.1) w.2/\rO u.1 u.2 w.1 w.2 s m m'=us.map aX
theorem PF{u w:Fr×Fr}{s:Int}(h:cD u.1 u.2 4)(k:cD w.1 w.2 4)(ne:w≠u)(hs:s=1\/s=2\/s=3)(hm:m<=3)(hm':m'<=3)(r:xM w.1 w.2 m u.1 u.2)(r':xM (aR u.1) u.2 m' (aR w.1) w.2):
  ∃us,UB u w s us:=by
 have E:dD u.1 u.2 w.1 w.2 4 4 s m m':=⟨h,k,∅,∅,∅,hs,hm,hm',r,r'⟩;obtain⟨us,e,U⟩:=PM h k (λz=>ne (Prod.ext z.1 z.2)) hs hm hm' r r';have ss:=E.ub.1;rw[e]at ss;exact⟨us,U,(List.pairwise_map.mp ss).imp λ{a b}lt z=>by rw[z]at lt;exact absurd lt (Rat.lt_irrefl),m,m',r,r',e⟩
noncomputable def Ud (u w:Fr×Fr) (s:Int):List (Fr×Fr):=Classical.epsilon (UB u w s)
theorem gL{u:Fr×Fr}{w:Fr×Fr}{s:Int}(h:cD u.1 u.2 4)(k:cD w.1 w.2 4)(ne:w≠u)(hs:s=1\/s=2\/s=3):UB u w s (Ud u w s):=by
 obtain⟨m,hm,r⟩:=vW h k;obtain⟨m',hm',r'⟩:=vW k.flip h.flip;exact Classical.epsilon_spec (PF h k ne hs hm hm' r r')
theorem qZ{u:Fr×Fr}{w:Fr×Fr}{s:Int}(h:cD u.1 u.2 4)(k:cD w.1 w.2 4)(ne:w≠u)(hs:s=1\/s=2\/s=3)(r:xM w.1 w.2 m u.1 u.2)(r':xM (aR u.1) u.2 m' (aR w.1) w.2):rO u.1 u.2 w.1 w.2 s m m'=(Ud u w s).map aX:=by
 obtain⟨_,_,n,n',t,t',f⟩:=gL h k ne hs;rw[qF r t,qF r' t',f]
def d0:Fr×Fr:=((0,1),(0,1))
def bp(P:Fr×Fr)(p:Fr)(r:Fr×Fr):Fr×Fr:=(aW P.1 (aM r.1 p),aW P.2 (aM r.2 p))
theorem Xq{P r:Fr×Fr}(nP:Nv P.1 P.2 e)(nr:Nv r.1 r.2 f)(np:bC p)(sp:sz p<=g):Nv (bp P p r).1 (bp P p r).2 (e+f+g+1):=by
 have m:=nE nr np;exact(qC nP m).up ⋯
theorem Eu{P r:Fr×Fr}(nP:Nv P.1 P.2 e)(nr:Nv r.1 r.2 f)(np:bC p):val (bp P p r).1=val P.1+val r.1*val p/\val (bp P p r).2=val P.2+val r.2*val p:=
 ⟨by show val (aW _ _)=_;rw[bE nP.x (aK nr.x np),aQ nr.x np],by show val (aW _ _)=_;rw[bE nP.y (aK nr.y np),aQ nr.y np]⟩
def gU(us:List (Fr×Fr))(i:Nat):Fr×Fr:=us.getD i d0
def sI(us:List (Fr×Fr))(i:Nat):Fr×Fr:=Az (gU us i) (gU us (i+1))
def mP(us:List (Fr×Fr)):List (Fr×Fr):=(XH (us.length-1)).map (sI us)
def dZ(us:List (Fr×Fr)):List (Fr×Fr):=gU us 0::(mP us++[gU us (us.length-1)])
def kL(us:List (Fr×Fr))(j:Nat):Fr×Fr:=if j%2=0 then gU us (j/2)else sI us (j/2)
def Iv(us:List (Fr×Fr)):List (Fr×Fr):=(XH (2*us.length-1)).map (kL us)
theorem Us.at_{u:Fr×Fr}{w:Fr×Fr}{us:List (Fr×Fr)}(U:Us u w us){i:Nat}(h:i<us.length):us[i]?=oZ (gU us i)/\cD (gU us i).1 (gU us i).2 30:=by
 have e:us[i]?=oZ (gU us i):=by unfold gU;rw[XC,WG h];rfl
 exact⟨e,U.uv _ (WI e)⟩
theorem Us.step{u:Fr×Fr}{w:Fr×Fr}{us:List (Fr×Fr)}(U:Us u w us){i:Nat}(h:i+1<us.length):0<=vD (gU us i) (gU us (i+1))/\Nv (sI us i).1 (sI us i).2 130/\0<Vt (gU us i) (gU us (i+1))/\
  (val (sI us i).1=val (gU us i).1-Vt (gU us i) (gU us (i+1))*val (gU us i).2/\val (sI us i).2=val (gU us i).2+Vt (gU us i) (gU us (i+1))*val (gU us i).1):=by
 obtain⟨a1,a2⟩:=U.at_ (i:=i) ⋯;obtain⟨b1,b2⟩:=U.at_ h;obtain⟨x,d⟩:=U.nb i _ _ a1 b1;exact⟨d,BC a2 b2 d,V2 x d,(N8 a2 b2 d).1⟩
theorem Ad:(dZ us).length=us.length-1+2:=by unfold dZ mP;simp
theorem Us.rays{u:Fr×Fr}{w:Fr×Fr}{us:List (Fr×Fr)}(U:Us u w us):3<=(dZ us).length/\(dZ us).length<=40/\∀r∈dZ us,Nv r.1 r.2 130:=by
 have n2:=U.n2;have n30:=U.n30;have len:=Ad (us:=us);refine⟨⋯,⋯,λr hr=>?_⟩;obtain rfl|hr:=WM.mp hr
 ·exact(U.at_ ⋯).2.nv.up ∅
 ·obtain hr|hr:=XF.mp hr
  ·obtain⟨i,hi,rfl⟩:=YI.mp hr;have:=ZD.mp hi;exact(U.step (i:=i) ⋯).2.1
  ·rw[WT.mp hr];exact(U.at_ ⋯).2.nv.up ∅
theorem P0:(Iv us).length=2*us.length-1:=by unfold Iv;simp
theorem DV(h:j<2*us.length-1):(Iv us)[j]?=oZ (kL us j):=by unfold Iv;rw[WH,YW h];rfl
theorem Us.wt{u:Fr×Fr}{w:Fr×Fr}{us:List (Fr×Fr)}(U:Us u w us){j:Nat}(h:j<2*us.length-1):Nv (kL us j).1 (kL us j).2 130:=by
 unfold kL
 split
 ·exact(U.at_ ⋯).2.nv.up ∅
 ·exact(U.step ⋯).2.1
theorem Us.atl{u:Fr×Fr}{w:Fr×Fr}{us:List (Fr×Fr)}(U:Us u w us):eZ (us.map aX) (-1)=oZ (aX (gU us (us.length-1))):=by
 have n2:=U.n2;obtain⟨L,p,e⟩:∃L p,us=L++[p]:=⟨us.dropLast,us.getLast (by intro z;rw[z]at n2;simp at n2),(ar _).symm⟩;have g:gU us (us.length-1)=p:=by rw[e];unfold gU;simp[XC]
 rw[g,e,WU];exact My.uK _ _
end
def jC(z:Str):List Nat:=z.cps.toList
def QZ(c:Nat):Bool:=(XI "lrbe-").cps.contains c
structure Mk(n:Nat)(z:Str):Prop where
 len:z.length=n
 ok:∀c∈jC z,QZ c=true
theorem Aw(z:Str):z.length=(jC z).length:=rfl
theorem Mk.of(h:((jC z).length==n&&(jC z).all QZ)=true):Mk n z:=by
 rw[XS]at h;exact⟨(by simpa using h.1:(jC z).length=n),λc hc=>ZK.mp h.2 c hc⟩
theorem wV(a b:Str):jC (a++b)=jC a++jC b:=by
 show(a.cps++b.cps).toList=_;rw[Array.toList_append];rfl
theorem Mk.app(h:Mk n a)(k:Mk m b):Mk (n+m) (a++b):=
 ⟨by rw[Aw,wV,WK,<-Aw,<-Aw,h.len,k.len],λc hc=>by
  rw[wV]at hc;exact(XF.mp hc).elim (h.ok c) (k.ok c)⟩
theorem vI(z:Array Nat):∀(n:Nat)(acc:Array Nat),(bc (λx y=>x++y) acc (WN n z)).toList=acc.toList++(WN n z.toList).flatten
 |0,acc=>by simp
 |n+1,acc=>by rw[YE,List.foldl_cons,vI z n,Array.toList_append,YE,YV,XB]
theorem Mk.mul(h:Mk 1 c)(k:Nat)(hk:1<=k):Mk k (eh c (k:Int)):=by
 unfold eh;rw[oW ⋯]
 split
 ·rename_i h1;have:k=1:=by
   rw[ji]at h1;obtain h1|h1:=h1
   ·have:(k:Int)=1:=by simpa using h1
    lia
   ·rw[h.len]at h1;cases h1
  rw[this];exact h
 ·have e:jC ⟨bc (λx1 x2=>x1++x2) #[] (WN (k:Int).toNat c.cps)⟩=(WN k (jC c)).flatten:=by
   show ig (bc (λx y=>x++y) #[] (WN (k:Int).toNat c.cps))=_;rw[vI,XU];rfl
  refine⟨?_,λx hx=>?_⟩
  ·rw[Aw,e];have h1:(jC c).length=1:=h.len;simp[h1]
  ·rw[e]at hx;obtain⟨l,hl,hx⟩:=List.mem_flatten.mp hx;rw[iy hl]at hx;exact h.ok x hx
section
variable{P:kg}{w:ko}{K:W.Frag}{mg:Str->Option oA}{base:oE}
theorem DW(h:(jA (us.map aX) (iA (us.map aX) (oZ 1) none))[i]?=oZ t):i+1<us.length/\t = .tup [aX (gU us i),aX (gU us (i+1))]:=by
 obtain⟨u,v,h1,h2,rfl⟩:=rA h;have e1:=gP (us.map aX) 1;rw[show iA (us.map aX) (oZ 1) none=(us.map aX).drop 1 from e1,ak,WH]at h2;rw[WH]at h1;obtain⟨a,ha,rfl⟩:=XE.mp h1;obtain⟨b,hb,rfl⟩:=XE.mp h2;rw[ZS 1 i]at hb;have l:=(WE.mp hb).1;have ga:gU us i=a:=by unfold gU;rw[XC,ha];rfl
 have gb:gU us (i+1)=b:=by unfold gU;rw[XC,hb];rfl
 exact⟨l,by rw[ga,gb]⟩
theorem P5(us:List (Fr×Fr)):(jA (us.map aX) (iA (us.map aX) (oZ 1) none)).length=us.length-1:=by
 have e1:=gP (us.map aX) 1;rw[kM,show iA (us.map aX) (oZ 1) none=(us.map aX).drop 1 from e1,YY,WJ]
 lia
theorem dI:∀l:List (Fr×Fr),bX (l.map aX)=true
 |[]=>rfl
 |a::l=>by show(noL (aX a)&&bX (l.map aX))=true;rw[dI l];rfl
def DP:dG:=λas Q=>∃(u w:Fr×Fr)(us:List (Fr×Fr)),as=[.v (.lst (us.map aX))]/\Us u w us/\Q (.l ((mP us).map aX)) []
abbrev sJ(P w K mg base):=(~~~Fn) 6 "tips_of" ["units"] (aJ K DP)
abbrev wL:ki:=top 53
theorem Qf:aF ["units"] ["units"] (aC wL):=dH
theorem Oz(F:cK K "tips_of" "tips_of" wL f fd)(TX:Txt mg)(aAX: ~~~Cn):(~~~aV) cM 6 f fd ["units"] (aJ K DP):=by
 refine F.okU Qf (λhr=>(aE (aG (iR (N':=oH) (t:=2) (cap:=[]) rfl (bV.of rfl) rfl ∅ (yC rfl rfl TX.n_zip (f2 (fv 0) (iJ rfl (fv 0) (g8 aA) nA))) (λ_ _ _ _=>(dA (n:=2) rfl rfl (aP (fH 0) (aP (fH 1) cJ)))) (λ_ _ _ _=>(fK aAX (f2 (fv 0) (fv 1)))))))) ?_;rintro as Q ⟨u,w,us,rfl,U,q⟩;have n30:=U.n30;refine⟨rfl,?_⟩;refine cX (λi E=>∃v0 v1,E=[v0,v1,↥(((XH i).map (sI us)).map aX)]) ⟨none,none,rfl⟩ ?_ ?_
 ·rintro i t rest E hi ⟨v0,v1,rfl⟩ KK;obtain⟨l,rfl⟩:=DW hi;obtain⟨a1,a2⟩:=U.at_ (i:=i) ⋯;obtain⟨b1,b2⟩:=U.at_ l;obtain⟨_,d⟩:=U.nb i _ _ a1 b1;refine⟨_,_,_,_,rfl,a2.up ∅,b2.up ∅,Ip a2 b2 d,?_⟩;refine⟨by show(jx aX (jx (sI us) (XH i))).length<9000;simp;lia,KK _ ⟨⇑(aX (gU us i)),⇑(aX (gU us (i+1))),?_⟩⟩;rw[YX,WU,WU];rfl
 ·rintro E ⟨v0,v1,rfl⟩;rw[P5];exact⟨dI _,dI _,q⟩
def DK:dG:=λas Q=>∃(u w:Fr×Fr)(us:List (Fr×Fr)),as=[.v (.lst (us.map aX)),.v (.bl false)]/\Us u w us/\Q (.l ((dZ us).map aX)) []
abbrev mZ(P w K mg base):=(~~~Fn) 7 "rays_of" ["units","is_least"] (aJ K DK)
abbrev wH:ki:=top 54
theorem Qe:aF ["units","is_least"] ["units","is_least"] (aC wH):=dH
theorem Oq(F:cK K "rays_of" "rays_of" wH f fd)(TX:Txt mg)(xv: ~~~sJ):(~~~aV) cM 7 f fd ["units","is_least"] (aJ K DK):=by
 refine F.okU Qe (λhr=>(aB (bN (iB (fv 1)) (aE (aG (fv 0))) a8) (aE (aG (m9 (m9 (cN (f1 (fQ 0))) (fK xv (f1 (fv 0)))) (cN (f1 (fX (fv 0) (c8 aA))))))))) ?_;rintro as Q ⟨u,w,us,rfl,U,q⟩;have n30:=U.n30;have n2:=U.n2;show o1 (eZ (us.map aX) ((0:Nat):Int)) _;rw[iO (show(us.map aX)[0]?=oZ (aX (gU us 0)) by rw[WH,(U.at_ (i:=0) ⋯).1];rfl)];refine⟨u,w,us,rfl,U,?_⟩;refine⟨by show 1+((mP us).map aX).length<=9000;unfold mP;simp;lia,?_⟩;show o1 (eZ (us.map aX) (-1)) _;rw[U.atl];refine⟨by show(aX (gU us 0)::(mP us).map aX).length+1<=9000;unfold mP;simp;lia,?_⟩;have e:(aX (gU us 0)::(mP us).map aX)++[aX (gU us (us.length-1))]=(dZ us).map aX:=by
  unfold dZ;rw[YH,WU];rfl
 refine⟨?_,?_⟩
 ·show bX ((aX (gU us 0)::(mP us).map aX)++[aX (gU us (us.length-1))])=true;rw[e];exact dI _
 ·rw[<-e]at q;exact q
def LH(w:Str)(i:Nat)(V:List (Fr×Fr))(mk:Str):L2.T:=.tup [.str w,.int (i:Int),.tup (V.map aX),.str mk]
theorem pX(w:Str)(i:Nat)(V:List (Fr×Fr))(mk:Str):noL (LH w i V mk)=true:=by
 show(true&&(true&&(bX (V.map aX)&&(true&&true))))=true;rw[dI];rfl
def zK(c:Str)(k:Nat):Str:=(XI "-"++eh c (k:Int))++XI "-"
def zJ(wd:Str)(i:Nat)(P:Fr×Fr)(p:Fr)(us:List (Fr×Fr))(c:Str):L2.T:=LH wd i (P::(dZ us).map (bp P p)) (zK c us.length)
theorem EY(hc:Mk 1 c)(h:1<=n):Mk (n+2) (zK c n):=by
 have h1:Mk 1 (XI "-"):=Mk.of (by decide +kernel);have m3:Mk (1+n+1) (zK c n):=(h1.app (hc.mul n h)).app h1
 rwa [show 1+n+1=n+2 by lia]at m3
def OK:dG:=λas Q=>∃(u w:Fr×Fr)(wd:Str)(i:Nat)(P:Fr×Fr)(p:Fr)(us:List (Fr×Fr))(c:Str),as=[.v (.str wd),.v (.int (i:Int)),.v (aX P),.v (fr p),.v (.lst ((dZ us).map aX)),.v (.str c)]/\Nv P.1 P.2 14/\Fw p/\Us u w us/\Mk 1 c/\Q (.v (zJ wd i P p us c)) []
abbrev Ek(P w K mg base):=(~~~Fn) 5 "fan" ["word","number","point","far","rays","mark"] (aJ K OK)
abbrev I0:ki:=top 55
theorem J3:aF ["word","number","point","far","rays","mark","outline"] ["word","number","point","far","rays","mark"] (aC I0):=dH
theorem HD(F:cK K "fan" "fan" I0 f fd)(TX:Txt mg)(wq: ~~~uF)(uq: ~~~kJ):(~~~aV) cM 5 f fd ["word","number","point","far","rays","mark"] (aJ K OK):=by
 refine F.okU J3 (λhr=>(aB (fS 6 J3.nd (m9 (cN (f1 (fv 2))) (iR (N':=["ray","point","far"]) (t:=1) (cap:=[(2,false),(3,false)]) rfl (bV.of rfl) rfl ∅ (eF rfl (fv 4)) (λ_ _ _ _=>(fH 0)) (λ_ _ _ _=>(fK wq (f2 (fv 1) (fK uq (f2 (fv 0) (fv 2))))))))) (aE (aG (aN (f4 (fv 0) (fv 1) (Jx rfl rfl TX.n_tuple (f1 (fv 6))) (Rr (Rr bK (T4 (fv 5) (a7 jZ (fE rfl rfl TX.n_len (f1 (fv 4))) aA))) bK))))))) ?_;rintro as Q ⟨u,w,wd,i,P,p,us,c,rfl,nP,fw,U,hc,q⟩;obtain⟨n3,n40,nv⟩:=U.rays;have rl:=Ad (us:=us);have n2:=U.n2;refine⟨rfl,?_⟩;refine cX (λi E=>∃v0,E=[v0,⇑(aX P),⇑(fr p),↥((((dZ us).take i).map (bp P p)).map aX)]) ⟨none,rfl⟩ ?_ ?_
 ·rintro i t rest E hi ⟨v0,rfl⟩ KK;rw[WH]at hi;obtain⟨r,hr,rfl⟩:=XE.mp hi;have nr:=nv r (WI hr);have il:=(WE.mp hr).1;refine⟨r.1,r.2,p,130,rfl,nr,fw.n,by have:=fw.s;lia,?_⟩;refine⟨P.1,P.2,_,_,14,130+sz p,rfl,nP,nE nr fw.n,by have:=fw.s;lia,?_⟩;refine⟨by show((((dZ us).take i).map (bp P p)).map aX).length<9000;simp;lia,KK _ ⟨⇑(aX r),?_⟩⟩;rw[ZF,hr,ao,WU,WU];rfl
 ·rintro E ⟨v0,rfl⟩;rw[WJ,ZJ];refine⟨dI _,by show 1+(((dZ us).map (bp P p)).map aX).length<=9000;simp;lia,?_⟩;have ej:((((dZ us).map aX).length:Nat):Int)-1=(us.length:Int):=by rw[WJ];lia
  have bb:∀{k:Nat},k<=100->k<=big:=λh=>XR h ∅;have m1:Mk 1 (XI "-"):=Mk.of (by decide +kernel);refine⟨⟨by rw[ej];lia,by rw[ej];exact Int.ofNat_le.mpr (bb ⋯),by rw[ej,XU,hc.len];exact bb ⋯⟩,?_⟩;rw[ej];rintro z1 rfl;have m2:=hc.mul us.length ⋯;refine⟨by rw[m1.len,m2.len];exact bb ⋯,?_⟩;rintro z2 rfl;have m3:=m1.app m2;refine⟨by rw[m3.len,m1.len];exact bb ⋯,?_⟩;rintro z3 rfl;exact⟨pX wd i (P::(dZ us).map (bp P p)) (zK c us.length),q⟩
theorem Pm.nbr(h:Pm a b ms)(hi:ms[i]?=oZ m)(hk:ms[cH i ms.length]?=oZ mb):
  Nb a b (bP a b ms) i (mM (px a b ms i) (py a b ms i) m) (mM (px a b ms (cH i ms.length)) (py a b ms (cH i ms.length)) mb) (xR m) (xR mb)/\
  uE a b (bP a b ms) i (mM (px a b ms (cH i ms.length)) (py a b ms (cH i ms.length)) mb) (xR mb)=eU mb/\uB a b (bP a b ms) i (mM (px a b ms i) (py a b ms i) m) (xR m)=bU m:=by
 refine⟨⟨h.at_ hi,by rw[dS];exact h.at_ hk⟩,?_,?_⟩
 ·show hE _ _ _ _=_;rw[dS];exact(Yx (h.nv _) (h.ok _ (WI hk))).2
 ·exact(Yx (h.nv _) (h.ok _ (WI hi))).1
theorem Bd(u w:Fr×Fr):b9 u w = "straight"\/(b9 u w = "left"/\0<(aU u.1 u.2 w.1 w.2).1)\/(b9 u w = "right"/\(aU u.1 u.2 w.1 w.2).1<0)\/b9 u w = "back":=by
 unfold b9
 split
 ·exact .inl rfl
 ·split
  ·rename_i h;exact .inr (.inl ⟨rfl,h⟩)
  ·split
   ·rename_i h;exact .inr (.inr (.inl ⟨rfl,h⟩))
   ·exact .inr (.inr (.inr rfl))
abbrev Hk(u:Fr×Fr):Fr×Fr:=(u.2,aR u.1)
abbrev Bl(u:Fr×Fr):Fr×Fr:=(aR u.2,u.1)
theorem sE(h:cD u.1 u.2 e):cD (Hk u).1 (Hk u).2 e/\cD (Bl u).1 (Bl u).2 e:=by
 refine⟨⟨⟨h.nv.y,d7 h.nv.x,h.nv.sy,by show sz (aR u.1)<=e;rw[qY];exact h.nv.sx⟩,?_⟩,h.left⟩;show val u.2*val u.2+val (aR u.1)*val (aR u.1)=1;rw[b7 h.nv.x];have:=h.one;grind
theorem NR{u w:Fr×Fr}(h:cD u.1 u.2 e)(k:cD w.1 w.2 f):vX (Hk u) (Hk w)=vX u w/\vX (Bl u) (Bl w)=vX u w/\vX (Hk u) (Bl u)=0/\vX (Bl u) (Hk u)=0:=by
 have a:=b7 h.nv.x;have b:=b7 h.nv.y;have c:=b7 k.nv.x;have d:=b7 k.nv.y;unfold vX Hk Bl;simp only;rw[a,b,c,d];exact⟨by grind,by grind,by grind,by grind⟩
theorem Af(h:cD u.1 u.2 e):¬(Bl u=Hk u):=λz=>by
 have e1:aR u.2=u.2:=congrArg Prod.fst z;have e2:u.1=aR u.1:=congrArg Prod.snd z;have v1:=b7 h.nv.y;rw[e1]at v1;have v2:=b7 h.nv.x;rw[<-e2]at v2;have o:=h.one;have z1:val u.1=0:=by grind
 have z2:val u.2=0:=by grind
 rw[z1,z2]at o;grind
theorem PQ(h:0<vX a b):¬(b=a):=λz=>by subst z;unfold vX at h;grind
noncomputable def pB (u w:Fr×Fr) (s:Int):List (Fr×Fr):=if b9 u w = "left" then Ud (Hk u) (Hk w) s else if b9 u w = "right" then Ud (Bl w) (Bl u) s else Ud (Hk u) (Bl u) s
def Vj(wd:Str):Str:=if wd = "left" then "r" else if wd = "right" then "l" else "b"
theorem vG{u w:Fr×Fr}{s:Int}(ue:cD u.1 u.2 4)(ub:cD w.1 w.2 4){G:Prop}(h1:u=w->b9 u w = "straight"->G)(h2:b9 u w = "left"->Hk w≠Hk u->pB u w s=Ud (Hk u) (Hk w) s->G)(h3:b9 u w = "right"->Bl u≠Bl w->pB u w s=Ud (Bl w) (Bl u) s->G)(h4:b9 u w = "back"->Bl u≠Hk u->pB u w s=Ud (Hk u) (Bl u) s->G):G:=by
 obtain⟨x1,_,_,_⟩:=NR ue ub;have y2:vX (Bl w) (Bl u)=vX w u:=(NR ub ue).2.1;have vx:val (aU u.1 u.2 w.1 w.2)=vX u w:=cV ue.nv ub.nv;have nx:=cC ue.nv ub.nv
 by_cases e:u=w
 ·exact h1 e (by unfold b9;rw[oV e])
 obtain c|⟨c,c0⟩|⟨c,c0⟩|c:=Bd u w
 ·refine absurd c ?_;unfold b9;rw[oW e]
  split
  ·decide
  ·split
   ·decide
   ·decide
 ·have p0:=(fW nx).2 c0;rw[vx,<-x1]at p0;exact h2 c (PQ p0) (by unfold pB;rw[oV c])
 ·have p0:=(tU nx).2 c0;rw[vx]at p0;have p1:0<vX w u:=by unfold vX at *;grind
  rw[<-y2]at p1;exact h3 c (PQ p1) (by unfold pB;rw[c,oW ∅,oV rfl])
 ·exact h4 c (Af ue) (by unfold pB;rw[c,oW ∅,oW ∅])
def CZ:dG:=λas Q=>∃(a b:Fr)(ms:List Mv)(i:Nat)(m mb:Mv)(s:Int),as=[.v (bZ a b (bP a b ms)),.v (.int (i:Int)),.v (.str (b9 (eU mb) (bU m))),.v (.int s)]/\Pm a b ms/\ms[i]?=oZ m/\ms[cH i ms.length]?=oZ mb/\
 b9 (eU mb) (bU m)≠"straight"/\(s=1\/s=2\/s=3)/\∀x y,Us x y (pB (eU mb) (bU m) s)->Q (.l ((pB (eU mb) (bU m) s).map aX)) []
abbrev mT(P w K mg base):=(~~~Fn) 10 "fan_units" ["path","number","word","steps"] (aJ K CZ)
abbrev qI:ki:=top 56
theorem n8:aF ["path","number","word","steps","u","w"] ["path","number","word","steps"] (aC qI):=dH
theorem Gu(F:cK K "fan_units" "fan_units" qI f fd)(TX:Txt mg)(vh: ~~~hX)(se: ~~~cS)(uh: ~~~jF)(uo: ~~~jQ):(~~~aV) cM 10 f fd ["path","number","word","steps"] (aJ K CZ):=by
 refine F.okU n8 (λhr=>(aB (fF (fK vh (f2 (fv 0) (fv 1))) (dA (n:=2) rfl rfl (aP (fG 4 n8.nd) (aP (fG 5 n8.nd) cJ)))) (aB (bN (gQ rfl hr (fv 2) bK (a9 _)) (aE (aG (fK se (f3 (fK uo (f1 (fv 4))) (fK uo (f1 (fv 5))) (fv 3))))) a8) (aB (bN (gQ rfl hr (fv 2) bK (a9 _)) (aE (aG (fK se (f3 (fK uh (f1 (fv 5))) (fK uh (f1 (fv 4))) (fv 3))))) a8) (aE (aG (fK se (f3 (fK uo (f1 (fv 4))) (fK uh (f1 (fv 4))) (fv 3))))))))) ?_;rintro as Q ⟨a,b,ms,i,m,mb,s,rfl,h,hi,hk,ns,hs,q⟩;obtain⟨nb,e1,e2⟩:=h.nbr hi hk;have ue:=(h.ok _ (WI hk)).eu;have ub:=(h.ok _ (WI hi)).bu;refine⟨a,b,_,i,_,_,_,_,rfl,nb,?_⟩;rw[e1,e2];generalize eU mb=u at *;generalize bU m=w at *;obtain⟨r1,l1⟩:=sE ue;obtain⟨r2,l2⟩:=sE ub;refine⟨WS _,?_⟩;refine vG (s:=s) ue ub (λ_ c=>absurd c ns) (λc n e=>?_) (λc n e=>?_) (λc n e=>?_)
 ·rw[c];rw[e]at q;refine⟨u.1,u.2,rfl,w.1,w.2,rfl,_,_,_,_,s,4,4,rfl,r1,r2,∅,∅,∅,hs,λk k' _ _ r r'=>?_⟩;rw[show rO _ _ _ _ s k k'=_ from qZ r1 r2 n hs r r'];exact⟨dI _,q _ _ (gL r1 r2 n hs).U⟩
 ·rw[c];rw[e]at q;refine⟨WS _,w.1,w.2,rfl,u.1,u.2,rfl,_,_,_,_,s,4,4,rfl,l2,l1,∅,∅,∅,hs,λk k' _ _ r r'=>?_⟩;rw[show rO _ _ _ _ s k k'=_ from qZ l2 l1 n hs r r'];exact⟨dI _,q _ _ (gL l2 l1 n hs).U⟩
 ·rw[c];rw[e]at q;refine⟨WS _,u.1,u.2,rfl,u.1,u.2,rfl,_,_,_,_,s,4,4,rfl,r1,l1,∅,∅,∅,hs,λk k' _ _ r r'=>?_⟩;rw[show rO _ _ _ _ s k k'=_ from qZ r1 l1 n hs r r'];exact⟨dI _,q _ _ (gL r1 l1 n hs).U⟩
def CT:dG:=λas Q=>∃(a b:Fr)(ms:List Mv)(i:Nat)(m mb:Mv)(p:Fr)(s:Int),as=[.v (bZ a b (bP a b ms)),.v (.int (i:Int)),.v (.str (b9 (eU mb) (bU m))),.v (fr p),.v (.int s),.v (.bl false)]/\Pm a b ms/\ms[i]?=oZ m/\ms[cH i ms.length]?=oZ mb/\
 b9 (eU mb) (bU m)≠"straight"/\Fw p/\(s=1\/s=2\/s=3)/\Q (.v (zJ "fan" i (px a b ms i,py a b ms i) p (pB (eU mb) (bU m) s) (Vj (b9 (eU mb) (bU m))))) []
abbrev rQ(P w K mg base):=(~~~Fn) 11 "corner_fan" ["path","number","word","far","steps","is_least"] (aJ K CT)
abbrev nI:ki:=top 57
theorem sF:aF ["path","number","word","far","steps","is_least","rays"] ["path","number","word","far","steps","is_least"] (aC nI):=dH
theorem Bn(F:cK K "corner_fan" "corner_fan" nI f fd)(TX:Txt mg)(wm: ~~~mZ)(xg: ~~~mT)(zq: ~~~Ek)(ug: ~~~iH)(yu:vE mg w K "FAN_MARKS" "left" "r" "right" "l" "back" "b"):(~~~aV) cM 11 f fd ["path","number","word","far","steps","is_least"] (aJ K CT):=by
 refine F.okU sF (λhr=>(aB (fS 6 sF.nd (fK wm (f2 (fK xg (f4 (fv 0) (fv 1) (fv 2) (fv 4))) (fv 5)))) (aE (aG (fK zq (fc bK (fc (fv 1) (f4 (fK ug (f2 (fv 0) (fv 1))) (fv 3) (fv 6) (Ru rfl rfl yu (fv 2) (λ_ _=>rfl)))))))))) ?_;rintro as Q ⟨a,b,ms,i,m,mb,p,s,rfl,h,hi,hk,ns,fw,hs,q⟩;have hl:=(WE.mp hi).1;refine⟨a,b,ms,i,m,mb,s,rfl,h,hi,hk,ns,hs,λx y U=>?_⟩;refine⟨x,y,_,rfl,U,?_⟩;refine⟨a,b,_,i,rfl,by rw[dS];exact hl,?_⟩;have mc:xH "left" "r" "right" "l" "back" "b" (b9 (eU mb) (bU m))=oZ (Vj (b9 (eU mb) (bU m)))/\Mk 1 (Vj (b9 (eU mb) (bU m))):=by
  obtain c|⟨c,_⟩|⟨c,_⟩|c:=Bd (eU mb) (bU m)
  ·exact absurd c ns
  all_goals rw[c];exact⟨by decide +kernel,Mk.of (by decide +kernel)⟩
 obtain⟨ec,mc⟩:=mc;show o1 ((xH "left" "r" "right" "l" "back" "b" (b9 (eU mb) (bU m))).map L2.T.str) _;rw[ec];exact⟨x,y,_,i,(px a b ms i,py a b ms i),p,_,_,rfl,h.nv i,fw,U,mc,pX ..,q⟩
noncomputable def Q9 (a b:Fr) (ms:List Mv) (p:Fr) (s:Int) (m:Mv):L2.T:=zJ "cap" 0 (a,b) p (Ud (Bl (bU m)) (Hk (bU m)) s) "e"
noncomputable def EJ (a b:Fr) (ms:List Mv) (p:Fr) (s:Int) (m:Mv):L2.T:=zJ "cap" (ms.length-1) (px a b ms ms.length,py a b ms ms.length) p (Ud (Hk (eU m)) (Bl (eU m)) s) "e"
def N0:dG:=λas Q=>∃(a b:Fr)(ms:List Mv)(m:Mv)(p:Fr)(s:Int),as=[.v (bZ a b (bP a b ms)),.v (fr p),.v (.int s),.v (.bl false)]/\Pm a b ms/\ms[0]?=oZ m/\Fw p/\(s=1\/s=2\/s=3)/\Q (.v (Q9 a b ms p s m)) []
abbrev uG(P w K mg base):=(~~~Fn) 9 "start_cap" oK (aJ K N0)
abbrev qQ:ki:=top 58
theorem oP:aF ["path","far","steps","is_least","u","rays"] oK (aC qQ):=dH
theorem Hc(F:cK K "start_cap" "start_cap" qQ f fd)(TX:Txt mg)(ur: ~~~jP)(wm: ~~~mZ)(se: ~~~cS)(uh: ~~~jF)(uo: ~~~jQ)(zq: ~~~Ek):(~~~aV) cM 9 f fd oK (aJ K N0):=by
 refine F.okU oP (λhr=>(aB (fS 4 oP.nd (fX (fK ur (f2 (fv 0) aA)) aA)) (aB (fS 5 oP.nd (fK wm (f2 (fK se (f3 (fK uh (f1 (fv 4))) (fK uo (f1 (fv 4))) (fv 2))) (fv 3)))) (aE (aG (fK zq (fc bK (fc aA (f4 (fQ 0) (fv 1) (fv 5) bK))))))))) ?_;rintro as Q ⟨a,b,ms,m,p,s,rfl,h,hi,fw,hs,q⟩;have pa:=h.at_ hi;have hd:=h.head hi;have ub:=(h.ok _ (WI hi)).bu;refine⟨a,b,_,0,_,_,rfl,pa,?_⟩;rw[hd];unfold Q9 at q;generalize bU m=u at *;obtain⟨r1,l1⟩:=sE ub;refine⟨u.1,u.2,rfl,u.1,u.2,rfl,_,_,_,_,s,4,4,rfl,l1,r1,∅,∅,∅,hs,λk k' _ _ r r'=>?_⟩;rw[show rO _ _ _ _ s k k'=_ from qZ l1 r1 (λz=>Af ub z.symm) hs r r'];have U:=(gL l1 r1 (λz=>Af ub z.symm) hs).U;exact⟨_,_,_,rfl,U,_,_,_,0,(a,b),p,_,_,rfl,h.nv 0,fw,U,Mk.of (by decide +kernel),pX ..,q⟩
def OJ:dG:=λas Q=>∃(a b:Fr)(ms:List Mv)(m:Mv)(p:Fr)(s:Int),as=[.v (bZ a b (bP a b ms)),.v (fr p),.v (.int s),.v (.bl false)]/\Pm a b ms/\ms[ms.length-1]?=oZ m/\Fw p/\(s=1\/s=2\/s=3)/\Q (.v (EJ a b ms p s m)) []
abbrev yM(P w K mg base):=(~~~Fn) 9 "end_cap" oK (aJ K OJ)
abbrev vZ:ki:=top 59
theorem nY:aF ["path","far","steps","is_least","last","u","rays"] oK (aC vZ):=dH
theorem Og(F:cK K "end_cap" "end_cap" vZ f fd)(TX:Txt mg)(ur: ~~~jP)(wm: ~~~mZ)(se: ~~~cS)(uh: ~~~jF)(uo: ~~~jQ)(zq: ~~~Ek)(tw: ~~~eR):(~~~aV) cM 9 f fd oK (aJ K OJ):=by
 refine F.okU nY (λhr=>(aB (fS 4 nY.nd (a7 jZ (fE rfl rfl TX.n_len (f1 (fQ 0))) aA)) (aB (fS 5 nY.nd (fX (fK ur (f2 (fv 0) (fv 4))) aA)) (aB (fS 6 nY.nd (fK wm (f2 (fK se (f3 (fK uo (f1 (fv 5))) (fK uh (f1 (fv 5))) (fv 2))) (fv 3)))) (aE (aG (fK zq (fc bK (fc (fv 4) (f4 (fK tw (f1 (fX (fQ 0) (fv 4)))) (fv 1) (fv 6) bK)))))))))) ?_;rintro as Q ⟨a,b,ms,m,p,s,rfl,h,hi,fw,hs,q⟩;have pa:=h.at_ hi;have hd:=h.head hi;have hp:=gJ ms a b _ _ hi;have ub:=(h.ok _ (WI hi)).eu;have n1:=ZG.mpr h.ne;obtain⟨ex,ey⟩:=nF (a:=a) (b:=b) hi;have nv:=h.nv (ms.length-1+1);have ej:((((bP a b ms).map g9).length:Nat):Int)-1=((ms.length-1:Nat):Int):=by rw[WJ,dS];lia
 refine⟨a,b,_,ms.length-1,_,_,?_,pa,?_⟩
 ·show[A.v (bZ a b (bP a b ms)),A.v (.int (((((bP a b ms).map g9).length:Nat):Int)-1))]=_;rw[ej]
 rw[hd];unfold EJ at q;generalize eU m=u at *;obtain⟨r1,l1⟩:=sE ub;refine⟨u.1,u.2,rfl,u.1,u.2,rfl,_,_,_,_,s,4,4,rfl,r1,l1,∅,∅,∅,hs,λk k' _ _ r r'=>?_⟩;rw[show rO _ _ _ _ s k k'=_ from qZ r1 l1 (Af ub) hs r r'];have U:=(gL r1 l1 (Af ub) hs).U;refine⟨_,_,_,rfl,U,?_⟩;show o1 (eZ ((bP a b ms).map g9) (((((bP a b ms).map g9).length:Nat):Int)-1)) _;rw[ej,lL hp];refine⟨_,rfl,?_⟩;rw[show ms.length-1+1=ms.length by lia]at ex ey nv;rw[ex,ey]at nv q;exact⟨_,_,_,ms.length-1,(_,_),p,_,XI "e",rfl,nv,fw,U,Mk.of (by decide +kernel),pX ..,q⟩
def CS:dG:=λas Q=>∃(a b:Fr)(ms:List Mv)(i:Nat)(x y u v r:Fr)(l:Bool),as=[.v (bZ a b (bP a b ms)),.v (.int (i:Int))]/\Pm a b ms/\ms[i]?=oZ (.arc x y u v r l)/\
 Q (.v (if l=true then .tup [vc (aM x r) (aM y r),vc (aM u r) (aM v r)]else .tup [vc (aM u r) (aM v r),vc (aM x r) (aM y r)])) []
abbrev kQ(P w K mg base):=(~~~Fn) 5 "arc_vectors" oI (aJ K CS)
abbrev l7:ki:=top 28
theorem i4:aF ["path","number","piece","begin","to"] oI (aC l7):=dH
theorem zU(F:cK K "arc_vectors" "arc_vectors" l7 f fd)(TX:Txt mg)(ud: ~~~gN)(ug: ~~~iH)(tw: ~~~eR):(~~~aV) cM 5 f fd oI (aJ K CS):=by
 refine F.okU i4 (λhr=>(aB (fS 2 i4.nd (fX (fQ 0) (fv 1))) (aB (fS 3 i4.nd (fK ud (f2 (fK ug (f2 (fv 0) (fv 1))) (fQ 2)))) (aB (fS 4 i4.nd (fK ud (f2 (fK tw (f1 (fv 2))) (fQ 2)))) (aE (aG (mH (gQ rfl hr (fQ 2) bK (a9 _)) (aN (f2 (fv 3) (fv 4))) (aN (f2 (fv 4) (fv 3)))))))))) ?_;rintro as Q ⟨a,b,ms,i,x,y,u,v,r,l,rfl,h,hi,q⟩;have hl:=(WE.mp hi).1;have hp:=gJ ms a b _ _ hi;have ok:=h.ok _ (WI hi);have n0:=h.nv i;obtain⟨e1,e2,e3,e4⟩:=yY n0 ok;obtain⟨o1,o2,_,nr,sr,_⟩:=id ok;have sx:=k7 o1.nv nr (show sz r<=4 by lia);have su:=k7 o2.nv nr (show sz r<=4 by lia);have nm:=Gp n0 sx;have ne:=Oe nm su;show L2.o1 (eZ ((bP a b ms).map g9) (i:Int)) _;rw[lL hp]
 change Nv (cQ a (ZC i (bP a b ms))) (cR b (ZC i (bP a b ms))) 14 at n0
 change aH (cQ a (ZC i (bP a b ms))) (aH (cQ a (ZC i (bP a b ms))) (aM x r))=aM x r at e1
 change aH (cR b (ZC i (bP a b ms))) (aH (cR b (ZC i (bP a b ms))) (aM y r))=aM y r at e2
 refine⟨a,b,_,i,rfl,by rw[dS];exact hl,?_⟩;refine⟨_,_,_,_,14,_,rfl,n0,nm,∅,?_⟩;refine⟨_,rfl,?_⟩;refine⟨_,_,_,_,_,_,rfl,ne,nm,∅,?_⟩
 change aH (aW (aH (cQ a (ZC i (bP a b ms))) (aM x r)) (aM u r)) (aH (cQ a (ZC i (bP a b ms))) (aM x r))=aM u r at e3
 change aH (aW (aH (cR b (ZC i (bP a b ms))) (aM y r)) (aM v r)) (aH (cR b (ZC i (bP a b ms))) (aM y r))=aM v r at e4
 rw[e1,e2];show told _ _ (.v (vc (aH (aW (aH (cQ a (ZC i (bP a b ms))) (aM x r)) (aM u r)) (aH (cQ a (ZC i (bP a b ms))) (aM x r))) (aH (aW (aH (cR b (ZC i (bP a b ms))) (aM y r)) (aM v r)) (aH (cR b (ZC i (bP a b ms))) (aM y r)))));rw[e3,e4];refine⟨WS _,?_⟩;cases l with
 |true=>exact⟨rfl,q⟩
 |false=>exact⟨rfl,q⟩
noncomputable def dR (x y u v:Fr) (l:Bool) (s:Int):List (Fr×Fr):=if l=true then Ud (x,y) (u,v) s else Ud (u,v) (x,y) s
theorem yZ{s:Int}(ok:gT (.arc x y u v r l))(hs:s=1\/s=2\/s=3):∃a b,UB a b s (dR x y u v l s):=by
 obtain⟨o1,o2,ne,_⟩:=ok;cases l with
 |true=>exact⟨(x,y),(u,v),gL o1 o2 (λz=>ne ⟨(congrArg Prod.fst z).symm,(congrArg Prod.snd z).symm⟩) hs⟩
 |false=>exact⟨(u,v),(x,y),gL o2 o1 (λz=>ne ⟨congrArg Prod.fst z,congrArg Prod.snd z⟩) hs⟩
def CQ:dG:=λas Q=>∃(a b:Fr)(ms:List Mv)(i:Nat)(x y u v r:Fr)(l:Bool)(s:Int),as=[.v (bZ a b (bP a b ms)),.v (.int (i:Int)),.v (.int s)]/\Pm a b ms/\ms[i]?=oZ (.arc x y u v r l)/\(s=1\/s=2\/s=3)/\Q (.l ((dR x y u v l s).map aX)) []
abbrev mS(P w K mg base):=(~~~Fn) 8 "arc_units" ["path","number","steps"] (aJ K CQ)
abbrev qH:ki:=top 60
theorem nX:aF ["path","number","steps","first","last"] ["path","number","steps"] (aC qH):=dH
theorem Gq(F:cK K "arc_units" "arc_units" qH f fd)(TX:Txt mg)(wg: ~~~kQ)(se: ~~~cS)(we: ~~~m6):(~~~aV) cM 8 f fd ["path","number","steps"] (aJ K CQ):=by
 refine F.okU nX (λhr=>(aB (fF (fK wg (f2 (fv 0) (fv 1))) (dA (n:=2) rfl rfl (aP (fG 3 nX.nd) (aP (fG 4 nX.nd) cJ)))) (aE (aG (fK se (f3 (fK we (f1 (fv 3))) (fK we (f1 (fv 4))) (fv 2))))))) ?_;rintro as Q ⟨a,b,ms,i,x,y,u,v,r,l,s,rfl,h,hi,hs,q⟩;obtain⟨o1,o2,ne,nr,sr,r0,_⟩:=h.ok _ (WI hi);have l1:=uU o1 nr (show sz r<=4 by lia) r0;have l2:=uU o2 nr (show sz r<=4 by lia) r0;have ex:=gV o1.nv.x nr r0;have ey:=gV o1.nv.y nr r0;have eu:=gV o2.nv.x nr r0;have ev:=gV o2.nv.y nr r0;refine⟨a,b,ms,i,x,y,u,v,r,l,rfl,h,hi,?_⟩;cases l with
 |true=>
  refine⟨_,_,r,rfl,l1,_,_,r,rfl,l2,?_⟩;rw[ex,ey,eu,ev];refine⟨x,y,u,v,s,4,4,rfl,o1,o2,∅,∅,∅,hs,λk k' _ _ r1 r2=>?_⟩;rw[show rO _ _ _ _ s k k'=_ from qZ (u:=(x,y)) (w:=(u,v)) o1 o2 (λz=>ne ⟨(congrArg Prod.fst z).symm,(congrArg Prod.snd z).symm⟩) hs r1 r2];exact⟨dI _,q⟩
 |false=>
  refine⟨_,_,r,rfl,l2,_,_,r,rfl,l1,?_⟩;rw[ex,ey,eu,ev];refine⟨u,v,x,y,s,4,4,rfl,o2,o1,∅,∅,∅,hs,λk k' _ _ r1 r2=>?_⟩;rw[show rO _ _ _ _ s k k'=_ from qZ (u:=(u,v)) (w:=(x,y)) o2 o1 (λz=>ne ⟨congrArg Prod.fst z,congrArg Prod.snd z⟩) hs r1 r2];exact⟨dI _,q⟩
def sN(r p ls:Fr):Fr:=if val r<=val p then(0,1)else aM (aH r p) (bO (aW (1,1) ls) (2,1))
theorem Nq(nr:bC r)(sr:sz r<=4)(fw:Fw p)(nl:bC ls)(sl:sz ls<=310)(l0:0<=val ls):bC (sN r p ls)/\sz (sN r p ls)<=340/\
  (sN r p ls=(0,1)↔val r<=val p)/\(val p<val r->val (sN r p ls)=(val r-val p)*((1+val ls)/2)):=by
 have sp:=fw.s;have p0:=fw.pos;have n1:=cF nr fw.n;have n2:=cE (aI 1) nl;have nt:bC ((2,1):Fr):=aI 2;have t0:((2,1):Fr).1≠0:=∅
 have s1:=gK nr fw.n;have s2:=dX (aI 1) nl;have s3:=kI n2 t0;have o:=Cc;have st:sz ((2,1):Fr)=2:=∅
 have n3:=eO n2 t0;have s4:=bJ n1 n3
 by_cases c:val r<=val p
 ·unfold sN;rw[oV c];refine⟨aI 0,∅,by simp[c],λz=>by grind⟩
 ·unfold sN;rw[oW c];have e:val (aM (aH r p) (bO (aW (1,1) ls) (2,1)))=(val r-val p)*((1+val ls)/2):=by
   rw[aQ n1 n3,aT nr fw.n,i7 n2 nt t0,bE (aI 1) nl,fT,eV];rfl
  have h1:0<(1+val ls)/2:=by grind
  have h3:0<val r-val p:=by grind
  have pos:=Rat.mul_pos h3 h1;refine⟨aK n1 n3,⋯,⟨λz=>?_,λz=>absurd z c⟩,λ_=>e⟩;rw[z,lU]at e;grind
def M0:dG:=λas Q=>∃r p ls:Fr,as=[.v (fr r),.v (fr p),.v (fr ls)]/\bC r/\sz r<=4/\Fw p/\bC ls/\sz ls<=310/\Q (.v (fr (sN r p ls))) []
abbrev pG(P w K mg base):=(~~~Fn) 4 "inner_of" ["radius","far","least"] (aJ K M0)
abbrev tI:ki:=top 61
theorem Lj:aF ["radius","far","least"] ["radius","far","least"] (aC tI):=dH
theorem Ku(F:cK K "inner_of" "inner_of" tI f fd)(TX:Txt mg)(sv: ~~~dQ)(tf: ~~~fA)(um: ~~~jR)(vq: ~~~mY)(tu: ~~~eJ)(wz:kO mg K "NOUGHT" (.tup [.int 0,.int 1]))(wo:kO mg K "ONE_blocks" (.tup [.int 1,.int 1]))(aBI:kO mg K "TWO" (.tup [.int 2,.int 1])):(~~~aV) cM 4 f fd ["radius","far","least"] (aJ K M0):=by
 refine F.okU Lj (λhr=>(aB (bN (fP Ds (fK sv (f2 (fv 1) (fv 0))) aA) (aE (aG (fZ rfl wz))) a8) (aE (aG (fK tf (f2 (fK um (f2 (fv 0) (fv 1))) (fK vq (f2 (fK tu (f2 (fZ rfl wo) (fv 2))) (fZ rfl aBI))))))))) ?_;rintro as Q ⟨r,p,ls,rfl,nr,sr,fw,nl,sl,q⟩;have sp:=fw.s;refine⟨p,r,rfl,fw.n,nr,⋯,⋯,λk hk=>?_⟩;show if decide (k>=0)=true then _ else _;unfold sN at q
 by_cases c:0<=k
 ·rw[oV (oY c)];rw[oV (by have:=hk.2;grind)]at q;exact⟨rfl,q⟩
 ·rw[oW (by simpa using c)];have lt:val p<val r:=hk.1 ⋯;rw[oW (by grind)]at q;have n1:=cF nr fw.n;have n2:=cE (aI 1) nl;have nt:bC ((2,1):Fr):=aI 2;have t0:((2,1):Fr).1≠0:=∅
  have s1:=gK nr fw.n;have s2:=dX (aI 1) nl;have s3:=kI n2 t0;have o:=Cc;have st:sz ((2,1):Fr)=2:=∅
  have n3:=eO n2 t0;refine⟨r,p,rfl,nr,fw.n,⋯,?_⟩;refine⟨(1,1),ls,rfl,aI 1,nl,⋯,?_⟩;refine⟨_,(2,1),rfl,n2,nt,t0,⋯,?_⟩;exact⟨_,_,rfl,n1,n3,⋯,rfl,q⟩
theorem QK{u w:Fr×Fr}{us:List (Fr×Fr)}(U:Us u w us){i:Nat}(h:(jA ((mP us).map aX) (iA (us.map aX) (oZ 1) none))[i]?=oZ t):i+1<us.length/\t = .tup [aX (sI us i),aX (gU us (i+1))]:=by
 obtain⟨x,y,h1,h2,rfl⟩:=rA h;have e1:=gP (us.map aX) 1;rw[show iA (us.map aX) (oZ 1) none=(us.map aX).drop 1 from e1,ak,WH,ZS 1 i]at h2;obtain⟨b,hb,rfl⟩:=XE.mp h2;have l:=(WE.mp hb).1;rw[(U.at_ l).1]at hb;cases hb;unfold mP at h1;rw[WH,WH,YW ⋯]at h1;cases h1;exact⟨l,rfl⟩
theorem JU(us:List (Fr×Fr)):(jA ((mP us).map aX) (iA (us.map aX) (oZ 1) none)).length=us.length-1:=by
 have e1:=gP (us.map aX) 1;rw[kM,show iA (us.map aX) (oZ 1) none=(us.map aX).drop 1 from e1,YY,WJ];unfold mP;simp
def DR:dG:=λas Q=>∃(u w:Fr×Fr)(us:List (Fr×Fr)),as=[.v (.lst (us.map aX))]/\Us u w us/\Q (.l ((Iv us).map aX)) []
abbrev uI(P w K mg base):=(~~~Fn) 7 "with_tips" ["units"] (aJ K DR)
abbrev qS:ki:=top 62
theorem kH:aF ["units","rays","tip","unit"] ["units"] (aC qS):=dH
theorem He(F:cK K "with_tips" "with_tips" qS f fd)(TX:Txt mg)(xv: ~~~sJ):(~~~aV) cM 7 f fd ["units"] (aJ K DR):=by
 refine F.okU kH (λhr=>(aB (fS 1 kH.nd (cN (f1 (fQ 0)))) (aB (eI PassesOwn.never rfl (yC rfl rfl TX.n_zip (f2 (fK xv (f1 (fv 0))) (iJ rfl (fv 0) (g8 aA) nA))) (dA (n:=2) rfl rfl (aP (fG 2 kH.nd) (aP (fG 3 kH.nd) cJ))) (aB (eH (dP rfl (fv 1) (f1 (fv 2)))) (aE (eH (dP rfl (fv 1) (f1 (fv 3))))))) (aE (aG (fv 1)))))) ?_;rintro as Q ⟨u,w,us,rfl,U,q⟩;have n30:=U.n30;have n2:=U.n2;show o1 (eZ (us.map aX) ((0:Nat):Int)) _;rw[iO (show(us.map aX)[0]?=oZ (aX (gU us 0)) by rw[WH,(U.at_ (i:=0) ⋯).1];rfl)];refine⟨u,w,us,rfl,U,?_⟩;refine cA (λi E=>∃v2 v3:Option L2.U,E=[⇑(.lst (us.map aX)),↥(((XH (2*i+1)).map (kL us)).map aX),v2,v3]) ⟨none,none,rfl⟩ ?_ ?_
 ·rintro i t rest E hi ⟨v2,v3,rfl⟩ KK;obtain⟨l,rfl⟩:=QK U hi;have e1:kL us (2*i+1)=sI us i:=by unfold kL;rw[oW ⋯,show(2*i+1)/2=i by lia]
  have e2:kL us (2*i+2)=gU us (i+1):=by unfold kL;rw[oV ⋯,show(2*i+2)/2=i+1 by lia]
  refine⟨by simp;lia,by simp;lia,KK _ ⟨⇑(aX (sI us i)),⇑(aX (gU us (i+1))),?_⟩⟩;have e3:((XH (2*(i+1)+1)).map (kL us)).map aX=(((XH (2*i+1)).map (kL us)).map aX++[aX (sI us i)])++[aX (gU us (i+1))]:=by
   rw[show 2*(i+1)+1=2*i+1+1+1 by lia,YX (n:=2*i+1+1),YX (n:=2*i+1),WU,WU,WU,WU,<-e1,<-e2];rfl
  rw[e3];rfl
 ·rintro E ⟨v2,v3,rfl⟩;rw[JU,show 2*(us.length-1)+1=2*us.length-1 by lia];exact⟨dI _,q⟩
theorem MF:∀l:List Str,jC (iu ⟨#[]⟩ l)=(l.map jC).flatten:=λl=>by
 show jC (Builtin.Str.glued ⟨#[]⟩ l)=_;rw[StrLaws.glued_eq_join]
 induction l with
 |nil=>rfl
 |cons a r ih=>
  cases r with
  |nil=>simp[Str.join,jC]
  |cons b r=>
   have:Str.join ⟨#[]⟩ (a::b::r)=a++⟨#[]⟩++Str.join ⟨#[]⟩ (b::r):=rfl;rw[this,wV,wV,ih];simp[jC]
theorem qB:∀l:List Str,bX (l.map L2.T.str)=true
 |[]=>rfl
 |a::l=>by show(true&&bX (l.map L2.T.str))=true;rw[qB l];rfl
theorem Zl{α:Type}{T:Prop}{G R:α->Prop}(h:(∀a,R a->G a)->T)(k:∀a,R a->G a):T:=h k
def NP(n:Nat)(l:Bool):Str:=(if l=true then["-r-","lr-l","-rll","-r-l"]else["-l-","rl-r","-lrr","-l-r"]:List Str).getD n ""
def xV(w:Bool)(k j:Nat):Nat:=if w=true then 0 else if j=0 then 1 else if j+1=k then 2 else 3
theorem NQ(w:Bool)(k j:Nat):xV w k j=0\/xV w k j=1\/xV w k j=2\/xV w k j=3:=by unfold xV;grind
def lF(w l:Bool)(many j:Nat):Str:=NP (xV w many j) l
def jT(w l:Bool)(k:Nat):List Str:=(XH k).map (lF w l k)
def KN(c:Nat):Nat:=if c=108 then 114 else if c=114 then 108 else c
theorem AF(w:Bool)(k j:Nat):(∀c∈jC (lF w true k j),c=45\/c=108\/c=114)/\(jC (lF w true k j)).length<=4/\jC (lF w false k j)=(jC (lF w true k j)).map KN:=by
 have dJ:∀z y:Str,((jC z).all (λc=>c==45||c==108||c==114)&&decide ((jC z).length<=4)&&decide (jC y=(jC z).map KN))=true->(∀c∈jC z,c=45\/c=108\/c=114)/\(jC z).length<=4/\jC y=(jC z).map KN:=λz y h=>by
  rw[XS,XS]at h;refine⟨λc hc=>?_,of_decide_eq_true h.1.2,of_decide_eq_true h.2⟩;have:=ZK.mp h.1.1 c hc
  simpa[or_assoc]using this
 unfold lF;rcases NQ w k j with e|e|e|e<;>rw[e]<;>exact dJ _ _ (by decide +kernel)
def vQ(c:Nat):Str:=⟨#[c]⟩
theorem VV(c:Nat)(h:c=45\/c=108\/c=114):xH "l" "r" "r" "l" "-" "-" ⟨#[c]⟩=oZ (vQ (KN c)):=by
 rcases h with rfl|rfl|rfl<;>decide +kernel
theorem JN(h:jC a=jC b):a=b:=by
 cases a;cases b;exact congrArg Str.mk (Array.toList_inj.mp h)
theorem Zm(l:List Nat)(hl:l.length<=100):JoinOk (XI "") (l.map vQ)=true/\jC (iu (XI "") (l.map vQ))=l:=by
 have fl:∀l:List Nat,((l.map vQ).map (·.length)).sum=l.length/\((l.map vQ).map jC).flatten=l:=λl=>by
  induction l with
  |nil=>exact⟨rfl,rfl⟩
  |cons a r ih=>
   rw[YH,YH,YH,List.sum_cons,YV,ih.1,ih.2,XG];exact⟨show 1+_=_ by lia,rfl⟩
 obtain⟨f1,f2⟩:=fl l;have z:(XI "").length=0:=rfl;have tl:Builtin.Str.tooLong (((l.map vQ).map (·.length)).sum+(l.map vQ).length*(XI "").length)=false:=by
  unfold Builtin.Str.tooLong;rw[f1,z,Nat.mul_zero,Nat.add_zero];exact oX (by have:=Mt (show l.length<=big from XR hl ∅);lia)
 refine⟨?_,?_⟩
 ·unfold JoinOk;rw[StrLaws.joinTotal,tl];rfl
 ·show jC (iu ⟨#[]⟩ (l.map vQ))=_;rw[MF,f2]
theorem qG{w l:Bool}{k j:Nat}(h:j<k):(jT w l k)[j]?=oZ (lF w l k j):=by unfold jT;rw[WH,YW h];rfl
theorem G5(h:2<=k):jT false true k=XI "lr-l"::(WN (k-2) (XI "-r-l")++[XI "-rll"]):=by
 refine List.ext_getElem? λj=>?_;obtain c|c:=XQ j k
 ·rw[qG c];unfold lF xV;rw[oW ∅]
  by_cases z:j=0
  ·subst z;rfl
  ·obtain⟨i,rfl⟩:∃i,j=i+1:=⟨j-1,⋯⟩;rw[oW z,ZY]
   by_cases d:i+1+1=k
   ·rw[oV d,XO (by simp;lia),ZO,show i-(k-2)=0 by lia];rfl
   ·rw[oW d,XJ (by simp;lia),ZX,oV ⋯];rfl
 ·rw[YJ (by unfold jT;simp;lia),YJ (by simp;lia)]
theorem Ta(k:Nat)(z:Str):G3 (k:Int) [L2.T.str z]=(WN k z).map L2.T.str:=by
 unfold G3;rw[XU]
 induction k with
 |zero=>rfl
 |succ k ih=>rw[YE,YV,ih,YE];rfl
def OX:dG:=λas Q=>∃(k:Nat)(w l:Bool),as=[.v (.int (k:Int)),.v (.bl w),.v (.str (vC l))]/\2<=k/\k<=100/\Q (.l ((jT w l k).map L2.T.str)) []
abbrev oU(P w K mg base):=(~~~Fn) 1 "sector_marks" ["many","is_whole","turn"] (aJ K OX)
abbrev k9:ki:=top 63
theorem j6:aF ["many","is_whole","turn","marks"] ["many","is_whole","turn"] (aC k9):=dH
theorem xU(F:cK K "sector_marks" "sector_marks" k9 f fd)(TX:Txt mg)(yj:vE mg w K "OTHER_MARK" "l" "r" "r" "l" "-" "-"):(~~~aV) cM 1 f fd ["many","is_whole","turn"] (aJ K OX):=by
 refine F.okU j6 (λhr=>(aB (bN (iB (fv 1)) (aE (fS 3 j6.nd (Yp (cN (f1 bK)) (fv 0)))) (aE (fS 3 j6.nd (m9 (m9 (cN (f1 bK)) (Yp (cN (f1 bK)) (a7 jZ (fv 0) aA))) (cN (f1 bK)))))) (aB (bN (gQ rfl hr (fv 2) bK (a9 _)) (aE (aG (fv 3))) a8) (aE (aG (iR (N':=["row"]) (t:=1) (cap:=[]) rfl (bV.of rfl) rfl ∅ (eF rfl (fv 3)) (λ_ _ _ _=>(fH 0)) (λ_ _ _ _=>(S9 rfl bK (f1 (iR (N':=["sign"]) (t:=1) (cap:=[]) rfl (bV.of rfl) rfl ∅ (FQ (fv 0)) (λ_ _ _ _=>(fH 0)) (λ_ _ _ _=>(Ru rfl rfl yj (fv 0) (λ_ _=>rfl))))))))))))) ?_;rintro as Q ⟨k,w,l,rfl,k2,aOS,q⟩;apply Zl (R:=λ(L:List L2.T)=>L=(jT w true k).map L2.T.str)
 case h=>
  intro J;show if w=true then _ else _
  by_cases hw:w=true
  ·rw[oV hw];refine⟨⟨⋯,⋯,by show 1*(k:Int).toNat<=9000;lia⟩,?_⟩;generalize hL:G3 (k:Int) _=L;refine J L ?_;rw[<-hL];refine(Ta k _).trans (congrArg _ ?_);refine List.ext_getElem? λj=>?_;rw[hw];obtain c|c:=XQ j k
   ·rw[qG c,ZX,oV c];rfl
   ·rw[YJ (by simp;lia),YJ (by unfold jT;simp;lia)]
  ·rw[oW hw];have ek:(k:Int)-2=((k-2:Nat):Int):=⋯
   have er:=Ta (k-2) "-r-l";refine⟨⟨⋯,⋯,by show 1*((k:Int)-2).toNat<=9000;lia⟩,?_⟩;rw[ek];generalize hM:G3 ((k-2:Nat):Int) _=M;have eM:M=(WN (k-2) (XI "-r-l")).map L2.T.str:=hM.symm.trans er;have lM:M.length=k-2:=by rw[eM];simp
   refine⟨by show 1+M.length<=9000;lia,by show(L2.T.str "lr-l"::M).length+1<=9000;rw[XG];lia,?_⟩;refine J ((L2.T.str "lr-l"::M)++[L2.T.str "-rll"]) ?_;rw[eM,show w=false by simpa using hw,G5 k2,YH,WU];rfl
 rintro L rfl;have lr:∀l,(jT w l k).length=k:=λl=>by unfold jT;simp
 refine⟨WS _,?_⟩;cases l with
 |true=>exact⟨qB _,q⟩
 |false=>
  refine⟨rfl,?_⟩;refine cX (λi E=>∃v0:Option L2.U,E=[v0,↥(((jT w false k).take i).map L2.T.str)]) ⟨none,rfl⟩ ?_ ?_
  ·rintro i t rest E hi ⟨v0,rfl⟩ KK;rw[WH]at hi;obtain⟨z,hz,rfl⟩:=XE.mp hi;have il:=(WE.mp hz).1;rw[lr]at il;rw[qG il]at hz;cases hz;obtain⟨cz,c4,sw⟩:=AF w k i;have tk:((jT w false k).take (i+1)).map L2.T.str=((jT w false k).take i).map L2.T.str++[.str (lF w false k i)]:=by
    rw[ZF,qG il,ao,WU];rfl
   generalize lF w true k i=z at *;refine⟨rfl,?_⟩;refine cX (λj E=>∃v1:Option L2.U,E=[v1,↥(((((jC z).take j).map KN).map vQ).map L2.T.str)]) ⟨none,rfl⟩ ?_ ?_
   ·rintro j t aLT E hj ⟨v1,rfl⟩ KK2;have hj':((jC z).map λc=>L2.T.str ⟨#[c]⟩)[j]?=oZ t:=hj;rw[WH]at hj';obtain⟨c,hc,rfl⟩:=XE.mp hj';show o1 ((xH "l" "r" "r" "l" "-" "-" ⟨#[c]⟩).map L2.T.str) _;rw[VV c (cz c (WI hc))];refine⟨by show(((((jC z).take j).map KN).map vQ).map L2.T.str).length<9000;simp;lia,KK2 _ ⟨⇑(.str ⟨#[c]⟩),?_⟩⟩;rw[ZF,hc,ao,WU,WU,WU];rfl
   ·rintro E ⟨v1,rfl⟩;have e:ZC (wW z).length (jC z)=jC z:=by show ZC ((jC z).map λc=>L2.T.str ⟨#[c]⟩).length _=_;rw[WJ,ZJ]
    rw[e,<-sw];refine⟨qB _,?_⟩;show o1 (mE (((jC (lF w false k i)).map vQ).map L2.T.str)) _;rw[show mE (((jC (lF w false k i)).map vQ).map L2.T.str)=oZ _ from Lu _];obtain⟨jo,jm⟩:=Zm (jC (lF w false k i)) (by rw[sw,WJ];lia);refine⟨jo,?_⟩;rintro m rfl;refine⟨by rw[WJ,XT,lr];lia,KK _ ⟨⇑(.str z),?_⟩⟩;rw[tk];rw[show iu (XI "") ((jC (lF w false k i)).map vQ)=lF w false k i from JN jm];rfl
  ·rintro E ⟨v0,rfl⟩;rw[WJ,lr];have e:(jT w false k).take k=jT w false k:=ZH (by rw[lr];exact WO _);rw[e];exact⟨qB _,qB _,q⟩
theorem Xz(h:cD a.1 a.2 e)(k:cD b.1 b.2 f):vD a b<=1:=by
 have o1:=h.one;have o2:=k.one;have s1:0<=(val a.1-val b.1)*(val a.1-val b.1):=by
  rcases Rat.le_total (a:=0) (b:=val a.1-val b.1)with c|c
  ·exact Rat.mul_nonneg c c
  ·have:=Rat.mul_nonneg (a:=-(val a.1-val b.1)) (b:=-(val a.1-val b.1)) (by grind) (by grind);grind
 have s2:0<=(val a.2-val b.2)*(val a.2-val b.2):=by
  rcases Rat.le_total (a:=0) (b:=val a.2-val b.2)with c|c
  ·exact Rat.mul_nonneg c c
  ·have:=Rat.mul_nonneg (a:=-(val a.2-val b.2)) (b:=-(val a.2-val b.2)) (by grind) (by grind);grind
 unfold vD;grind
theorem Us.ld{u w:Fr×Fr}{us:List (Fr×Fr)}(U:Us u w us):∀i,i+2<=us.length->0<=val (rE (us.map aX) i)/\val (rE (us.map aX) i)<=1:=by
 have two:∀i,i+2<=us.length->0<=val (Iu ((us.map aX).getD i .non) ((us.map aX).getD (i+1) .non))/\val (Iu ((us.map aX).getD i .non) ((us.map aX).getD (i+1) .non))<=1:=λi hi=>by
  obtain⟨a1,a2⟩:=U.at_ (i:=i) ⋯;obtain⟨b1,b2⟩:=U.at_ (i:=i+1) ⋯;have ga:∀{j c},us[j]?=oZ c->(us.map aX).getD j .non=aX c:=λ{j c}h=>by rw[XC,WH,h];rfl
  rw[ga a1,ga b1];have e:val (Iu (aX (gU us i)) (aX (gU us (i+1))))=vD (gU us i) (gU us (i+1)):=by
   unfold Iu;have c:∀c:Fr×Fr,cx (aX c)=c:=λc=>pP c.1 c.2;rw[c,c];exact cP a2.nv b2.nv
  rw[e];exact⟨(U.nb i _ _ a1 b1).2,Xz a2 b2⟩
 intro i
 induction i with
 |zero=>intro hi;exact two 0 hi
 |succ i ih=>
  intro hi;show 0<=val (mn _ _)/\val (mn _ _)<=1;unfold mn
  split
  ·exact two (i+1) ⋯
  ·exact ih ⋯
theorem PR{us:List (Fr×Fr)}{MK:List Str}(h:(kB ((Iv us).map aX) (iA ((Iv us).map aX) (oZ 1) none) (MK.map L2.T.str))[j]?=oZ t):j+1<2*us.length-1/\∃m,MK[j]?=oZ m/\t = .tup [aX (kL us j),aX (kL us (j+1)),.str m]:=by
 obtain⟨x,y,z,h1,h2,h3,rfl⟩:=Be h;have e1:=gP ((Iv us).map aX) 1;rw[show iA ((Iv us).map aX) (oZ 1) none=((Iv us).map aX).drop 1 from e1,ak,WH,ZS 1 j]at h2;rw[WH]at h1 h3;obtain⟨b,hb,rfl⟩:=XE.mp h2;obtain⟨a,ha,rfl⟩:=XE.mp h1;obtain⟨m,hm,rfl⟩:=XE.mp h3;have l:=(WE.mp hb).1;rw[P0]at l;rw[DV l]at hb;cases hb;rw[DV ⋯]at ha;cases ha;exact⟨l,m,hm,rfl⟩
def K1(M:Fr×Fr)(R z:Fr)(a b:Fr×Fr):List (Fr×Fr):=if z=(0,1)then[M,bp M R a,bp M R b]else[bp M z a,bp M R a,bp M R b,bp M z b]
def Qh(i:Nat)(M:Fr×Fr)(R z:Fr)(us:List (Fr×Fr))(l:Bool)(j:Nat):L2.T:=LH "sector" i (K1 M R z (kL us j) (kL us (j+1))) (lF (decide (z=(0,1))) l (2*us.length-2) j)
def K0(i:Nat)(M:Fr×Fr)(r p:Fr)(us:List (Fr×Fr))(l:Bool):List L2.T:=(XH (2*us.length-2)).map (Qh i M (aW r p) (sN r p (rE (us.map aX) (us.length-2))) us l)
def dF(a b:Fr)(ms:List Mv)(i:Nat)(x y r:Fr):Fr×Fr:=(aH (px a b ms i) (aM x r),aH (py a b ms i) (aM y r))
theorem uX(h:∀j,noL (f j)=true):∀n,bX ((XH n).map f)=true:=λn=>by
 have dJ:∀l:List Nat,bX (l.map f)=true:=λl=>by
  induction l with
  |nil=>rfl
  |cons a l ih=>show(noL (f a)&&bX (l.map f))=true;rw[h,ih];rfl
 exact dJ _
theorem A3(i:Nat)(M:Fr×Fr)(r p:Fr)(us:List (Fr×Fr))(l:Bool):bX (K0 i M r p us l)=true:=uX (λ_=>pX ..) _
theorem Us.inn{u w:Fr×Fr}{us:List (Fr×Fr)}(U:Us u w us):(∀t∈us.map aX,Uv 150 t)/\bC (rE (us.map aX) (us.length-2))/\sz (rE (us.map aX) (us.length-2))<=301/\0<=val (rE (us.map aX) (us.length-2)):=by
 have n2:=U.n2;have uv:∀t∈us.map aX,Uv 150 t:=λt ht=>by
  obtain⟨c,hc,rfl⟩:=YI.mp ht;exact⟨_,_,rfl,(U.uv c hc).up ∅⟩
 obtain⟨d1,d2⟩:=Nt uv (us.length-2) (by rw[WJ];lia);exact⟨uv,d1,d2,(U.ld (us.length-2) ⋯).1⟩
def DN:dG:=λas Q=>∃(a b:Fr)(ms:List Mv)(i:Nat)(x y u v r:Fr)(l:Bool)(p:Fr)(s:Int),as=[.v (bZ a b (bP a b ms)),.v (.int (i:Int)),.v (fr p),.v (.int s)]/\Pm a b ms/\ms[i]?=oZ (.arc x y u v r l)/\Fw p/\(s=1\/s=2\/s=3)/\
 Q (.l (K0 i (dF a b ms i x y r) r p (dR x y u v l s) l)) []
abbrev yS(P w K mg base):=(~~~Fn) 9 "sectors" oJ (aJ K DN)
abbrev wJ:ki:=top 64
theorem cI:aF ["path","number","far","steps","radius","units","inner","outer","rays","marks","found","middle","turn","one","other","row","high","outline"] oJ (aC wJ):=dH
theorem Ox(F:cK K "sectors" "sectors" wJ f fd)(TX:Txt mg)(vm: ~~~kE)(xh: ~~~mS)(xl: ~~~pG)(vo: ~~~kC)(tu: ~~~eJ)(yv: ~~~uI)(xy: ~~~oU)(wq: ~~~uF)(uq: ~~~kJ)(wz:kO mg K "NOUGHT" (.tup [.int 0,.int 1])):(~~~aV) cM 9 f fd oJ (aJ K DN):=by
 refine F.okU cI (λhr=>(aB (gH (i:=11) (j:=12) rfl cI.nd rfl rfl ∅ rfl rfl (f2 (fX (fX (fQ 0) (fv 1)) aA) (fX (fX (fQ 0) (fv 1)) aA)) rfl) (aB (fS 4 cI.nd (fK vm (f2 (fv 0) (fv 1)))) (aB (fS 5 cI.nd (fK xh (f3 (fv 0) (fv 1) (fv 3)))) (aB (fS 6 cI.nd (fK xl (f3 (fv 4) (fv 2) (fK vo (f1 (fv 5)))))) (aB (fS 7 cI.nd (fK tu (f2 (fv 4) (fv 2)))) (aB (fS 8 cI.nd (fK yv (f1 (fv 5)))) (aB (fS 9 cI.nd (fK xy (f3 (a7 jZ (fE rfl rfl TX.n_len (f1 (fv 8))) aA) (De rfl hr (fv 6) (fZ rfl wz) (a9 _)) (fv 12)))) (aB (fS 10 cI.nd (cN cB)) (aB (eI PassesOwn.never rfl (T7 rfl rfl TX.n_zip (f3 (fv 8) (iJ rfl (fv 8) (g8 aA) nA) (fv 9))) (dA (n:=3) rfl rfl (aP (fG 13 cI.nd) (aP (fG 14 cI.nd) (aP (fG 15 cI.nd) cJ)))) (aB (fS 16 cI.nd (aN (f2 (fK wq (f2 (fv 11) (fK uq (f2 (fv 13) (fv 7))))) (fK wq (f2 (fv 11) (fK uq (f2 (fv 14) (fv 7)))))))) (aB (bN (gQ rfl hr (fv 6) (fZ rfl wz) (a9 _)) (aE (fS 17 cI.nd (Fm rfl (aN (f1 (fv 11))) (fv 16)))) (aE (fS 17 cI.nd (Fm rfl (Fm rfl (aN (f1 (fK wq (f2 (fv 11) (fK uq (f2 (fv 13) (fv 6))))))) (fv 16)) (aN (f1 (fK wq (f2 (fv 11) (fK uq (f2 (fv 14) (fv 6))))))))))) (aE (eH (dP rfl (fv 10) (f1 (aN (f4 bK (fv 1) (fv 17) (fv 15)))))))))) (aE (aG (fv 10))))))))))))) ?_;rintro as Q ⟨a,b,ms,i,x,y,u,v,r,l,p,s,rfl,h,hi,fw,hs,q⟩;have hp:=gJ ms a b _ _ hi;have pa:=h.at_ hi;have ok:=h.ok _ (WI hi);obtain⟨nr,sr,r0⟩:bC r/\sz r<=4/\0<val r:=ok.len;have oc:=iP h.chain hp;have nM:Nv (dF a b ms i x y r).1 (dF a b ms i x y r).2 14:=oc.1;have sp:=fw.s;have p0:=fw.pos;show o1 (eZ ((bP a b ms).map g9) (i:Int)) _;rw[lL hp];show o1 (eZ ((bP a b ms).map g9) (i:Int)) _;rw[lL hp];refine⟨a,b,_,i,_,_,rfl,pa,?_⟩;refine⟨a,b,ms,i,x,y,u,v,r,l,s,rfl,h,hi,hs,?_⟩;obtain⟨U0,W0,B⟩:=yZ ok hs;have U:=B.U;generalize dR x y u v l s=us at *;have n2:=U.n2;have n30:=U.n30;have lu:(us.map aX).length=us.length:=WJ ..;obtain⟨uv,d1,d2,d3⟩:=U.inn;refine⟨us.map aX,rfl,⋯,⋯,uv,?_⟩;rw[lu];obtain⟨nz,sz',_⟩:=Nq nr sr fw d1 ⋯ d3;unfold K0 at q;refine⟨r,p,_,rfl,nr,sr,fw,d1,⋯,?_⟩;generalize sN r p (rE (us.map aX) (us.length-2))=z at *;refine⟨r,p,rfl,nr,fw.n,⋯,?_⟩;have nR:=cE nr fw.n;have sR:sz (aW r p)<=30:=by have:=dX nr fw.n;lia
 refine⟨U0,W0,us,rfl,U,?_⟩;refine⟨cY rfl,?_⟩;have lw:=P0 (us:=us);have lw':((Iv us).map aX).length=2*us.length-1:=by rw[WJ,lw]
 refine⟨2*us.length-2,decide (z=(0,1)),l,?_,⋯,⋯,?_⟩
 ·show[A.v (.int ((((Iv us).map aX).length:Nat)-1:Int)),A.v (.bl (L2.d6 (fr z) (fr (0,1)))),A.v (.str (vC l))]=_;rw[Jt,lw',show(((2*us.length-1:Nat):Int)-1)=((2*us.length-2:Nat):Int) by lia]
 have vM:vc (aH (px a b ms i) (aM x r)) (aH (py a b ms i) (aM y r))=aX (dF a b ms i x y r):=rfl;show xS _ (fJ _ _ _ _);refine cA (λj E=>∃(v13 zy v15 v16 v17:Option L2.U),E=[⇑(bZ a b (bP a b ms)),↑(i:Int),⇑(fr p),↑s,⇑(fr r),↥(us.map aX),⇑(fr z),⇑(fr (aW r p)),⇑(.lst ((Iv us).map aX)),⇑(.lst ((jT (decide (z=(0,1))) l (2*us.length-2)).map L2.T.str)),↥((XH j).map (Qh i (dF a b ms i x y r) (aW r p) z us l)),⇑(aX (dF a b ms i x y r)),⇑(.str (vC l)),v13,zy,v15,v16,v17]) ⟨none,none,none,none,none,rfl⟩ ?_ ?_
 ·rintro j t rest E hj ⟨v13,zy,v15,v16,v17,rfl⟩ KK;obtain⟨lj,m,hm,rfl⟩:=PR hj;rw[qG ⋯]at hm;cases hm;have na:=U.wt (j:=j) ⋯;have nb:=U.wt lj;have lp:∀t:L2.T,((XH j).map (Qh i (dF a b ms i x y r) (aW r p) z us l)++[t]).length<=9000:=λt=>by simp;lia
  have rj:(XH (j+1)).map (Qh i (dF a b ms i x y r) (aW r p) z us l)=(XH j).map (Qh i (dF a b ms i x y r) (aW r p) z us l)++[LH "sector" i (K1 (dF a b ms i x y r) (aW r p) z (kL us j) (kL us (j+1))) (lF (decide (z=(0,1))) l (2*us.length-2) j)]:=by
   rw[YX,WU];rfl
  refine⟨_,_,aW r p,130,rfl,na,nR,⋯,?_⟩;refine⟨_,_,_,_,14,130+sz (aW r p),rfl,nM,nE na nR,⋯,?_⟩;refine⟨_,_,aW r p,130,rfl,nb,nR,⋯,?_⟩;refine⟨_,_,_,_,14,130+sz (aW r p),rfl,nM,nE nb nR,⋯,?_⟩;refine⟨cY rfl,?_⟩;show if L2.d6 (fr z) (fr (0,1))=true then _ else _;rw[Jt]
  by_cases cz:z=(0,1)
  ·rw[oV (oY cz)];refine⟨cY rfl,lp _,KK _ ⟨⇑(aX (kL us j)),⇑(aX (kL us (j+1))),⇑(.str (lF (decide (z=(0,1))) l (2*us.length-2) j)),⇑(.tup [aX (bp (dF a b ms i x y r) (aW r p) (kL us j)),aX (bp (dF a b ms i x y r) (aW r p) (kL us (j+1)))]),⇑(.tup ([(dF a b ms i x y r),bp (dF a b ms i x y r) (aW r p) (kL us j),bp (dF a b ms i x y r) (aW r p) (kL us (j+1))].map aX)),?_⟩⟩;rw[rj];unfold K1;rw[oV cz];rfl
  ·rw[oW (by simpa using cz)];refine⟨_,_,z,130,rfl,na,nz,⋯,?_⟩;refine⟨_,_,_,_,14,130+sz z,rfl,nM,nE na nz,⋯,?_⟩;refine⟨cY rfl,?_⟩;refine⟨_,_,z,130,rfl,nb,nz,⋯,?_⟩;refine⟨_,_,_,_,14,130+sz z,rfl,nM,nE nb nz,⋯,?_⟩;refine⟨cY rfl,lp _,KK _ ⟨⇑(aX (kL us j)),⇑(aX (kL us (j+1))),⇑(.str (lF (decide (z=(0,1))) l (2*us.length-2) j)),⇑(.tup [aX (bp (dF a b ms i x y r) (aW r p) (kL us j)),aX (bp (dF a b ms i x y r) (aW r p) (kL us (j+1)))]),⇑(.tup ([bp (dF a b ms i x y r) z (kL us j),bp (dF a b ms i x y r) (aW r p) (kL us j),bp (dF a b ms i x y r) (aW r p) (kL us (j+1)),bp (dF a b ms i x y r) z (kL us (j+1))].map aX)),?_⟩⟩;rw[rj];unfold K1;rw[oW cz];rfl
 ·rintro E ⟨v13,zy,v15,v16,v17,rfl⟩;have lz:(kB ((Iv us).map aX) (iA ((Iv us).map aX) (oZ 1) none) ((jT (decide (z=(0,1))) l (2*us.length-2)).map L2.T.str)).length=2*us.length-2:=by
   have e1:=gP ((Iv us).map aX) 1;rw[rJ,show iA ((Iv us).map aX) (oZ 1) none=((Iv us).map aX).drop 1 from e1,YY,lw',WJ];unfold jT;simp
   lia
  rw[lz];exact⟨uX (λ_=>pX ..) _,q⟩
def gM(ms:List Mv)(i:Nat):Mv:=ms.getD i (.side (0,1) (0,1) (0,1))
theorem iU(h:i<ms.length):ms[i]?=oZ (gM ms i):=by unfold gM;rw[XC,WG h];rfl
section
variable(a b:Fr)(ms:List Mv)(p:Fr)(s:Int)
noncomputable def j0 (i:Nat):List L2.T:=match gM ms i with
 |.side x y _=>[Qj i (px a b ms i) (py a b ms i) (px a b ms (i+1)) (py a b ms (i+1)) (aM (aR y) p) (aM x p)]
 |.arc x y u v r l=>K0 i (dF a b ms i x y r) r p (dR x y u v l s) l
def uO(i:Nat):Str:=b9 (eU (gM ms (cH i ms.length))) (bU (gM ms i))
noncomputable def r6 (k:Nat):List L2.T:=if fst a b (bP a b ms)<=k/\uO ms k≠"straight" then[zJ "fan" k (px a b ms k,py a b ms k) p (pB (eU (gM ms (cH k ms.length))) (bU (gM ms k)) s) (Vj (uO ms k))]else[]
noncomputable def lR:Nat->List L2.T
 |0=>[]
 |j+1=>lR j++j0 a b ms p s j++r6 a b ms p s ((j+1)%ms.length)
noncomputable def Je:List L2.T:=if Na a b (bP a b ms)=true then lR a b ms p s ms.length else[Q9 a b ms p s (gM ms 0)]++lR a b ms p s ms.length++[EJ a b ms p s (gM ms (ms.length-1))]
end
theorem Sh(h:Ln a b f p)(k:Ln a b g p):f=g:=by
 have dJ:∀{x y f g:Fr},yV x y f->yV x y g->f=g:=λ{x y f g}h k=>by
  refine bM h.nf k.nf ?_;have e:val f*val f=val g*val g:=by rw[<-h.sq,<-k.sq]
  have f0:=h.pos;have g0:=k.pos;have z:(val f-val g)*(val f+val g)=0:=by grind
  rcases Rat.mul_eq_zero.mp z with q|q<;>grind
 cases p with
 |side x y=>exact dJ h k
 |arc m n x y l=>exact dJ h.1 k.1
theorem Pm.cw(h:Pm a b ms)(hi:ms[i]?=oZ m)(hk:ms[cH i ms.length]?=oZ mb):My.cw a b (bP a b ms) i=b9 (eU mb) (bU m):=by
 obtain⟨nb,e1,e2⟩:=h.nbr hi hk;obtain⟨p,q,f,g,nb',e⟩:=CB (a:=a) (b:=b) (ps:=bP a b ms) (i:=i) (h.st.1.up ∅) (uM ∅ h.chain) (by rw[dS];exact(WE.mp hi).1);have p1:=nb.one.at_;rw[nb'.one.at_]at p1;cases p1;have p2:=nb.two.at_;rw[nb'.two.at_]at p2;cases p2;have f1:=Sh nb'.one.ln nb.one.ln;have f2:=Sh nb'.two.ln nb.two.ln;subst f1;subst f2;rw[<-e,e1,e2]
theorem Pm.cr(h:Pm a b ms)(hi:i<ms.length):My.cw a b (bP a b ms) i=uO ms i:=h.cw (iU hi) (iU (pL hi))
theorem EF(h:Pm a b ms)(hi:i<ms.length)(e:gM ms i = .arc x y u v r l):gT (.arc x y u v r l):=by
 rw[<-e];exact h.ok _ (WI (iU hi))
theorem Pm.piece(h:Pm a b ms){s:Int}(hs:s=1\/s=2\/s=3)(hi:i<ms.length):bX (j0 a b ms p s i)=true/\(j0 a b ms p s i).length<=60:=by
 unfold j0;cases e:gM ms i with
 |side x y m=>exact⟨rfl,cY rfl⟩
 |arc x y u v r l=>
  obtain⟨_,_,B⟩:=yZ (EF h hi e) hs;refine⟨A3 ..,?_⟩;have:=B.U.n30;unfold K0;simp;lia
theorem Q7(a b:Fr)(ms:List Mv)(p:Fr)(s:Int)(k:Nat):bX (r6 a b ms p s k)=true/\(r6 a b ms p s k).length<=1:=by
 unfold r6
 split
 ·refine⟨?_,WO _⟩;show(L2.noL (zJ _ _ _ _ _ _)&&true)=true;rw[show L2.noL (zJ _ _ _ _ _ _)=true from pX ..];rfl
 ·exact⟨rfl,WS _⟩
theorem pY:∀{xs ys:List L2.T},bX xs=true->bX ys=true->bX (xs++ys)=true
 |[],_,_,h=>h
 |x::xs,ys,h1,h2=>by
  have h1:(noL x&&bX xs)=true:=h1;rw[XS]at h1;show(noL x&&bX (xs++ys))=true;rw[h1.1,pY h1.2 h2];rfl
theorem Pm.told(h:Pm a b ms){s:Int}(hs:s=1\/s=2\/s=3):∀{j:Nat},j<=ms.length->bX (lR a b ms p s j)=true/\(lR a b ms p s j).length<=61*j
 |0,_=>⟨rfl,WS _⟩
 |j+1,hj=>by
  obtain⟨i1,i2⟩:=Pm.told h (p:=p) hs (j:=j) ⋯;obtain⟨p1,p2⟩:=h.piece (p:=p) hs (i:=j) ⋯;obtain⟨b1,b2⟩:=Q7 a b ms p s ((j+1)%ms.length);refine⟨pY (pY i1 p1) b1,?_⟩;show(lR a b ms p s j++j0 a b ms p s j++r6 a b ms p s ((j+1)%ms.length)).length<=_;rw[WK,WK];lia
theorem Pm.blk(h:Pm a b ms){s:Int}(hs:s=1\/s=2\/s=3):bX (Je a b ms p s)=true/\(Je a b ms p s).length<=800:=by
 obtain⟨i1,i2⟩:=h.told (p:=p) hs (WO _);have:=h.len;unfold Je
 split
 ·exact⟨i1,⋯⟩
 ·have nb:∀wd i P us c,bX [zJ wd i P p us c]=true:=λwd i P us c=>by
   show(L2.noL (zJ _ _ _ _ _ _)&&true)=true;rw[show L2.noL (zJ _ _ _ _ _ _)=true from pX ..];rfl
  refine⟨pY (pY (nb ..) i1) (nb ..),?_⟩;rw[WK,WK];simp only[WY]
  lia
def Tu:dG:=λas Q=>∃(a b:Fr)(ms:List Mv)(i:Nat)(p:Fr)(s:Int),as=[.v (bZ a b (bP a b ms)),.v (.int (i:Int)),.v (fr p),.v (.int s)]/\Pm a b ms/\i<ms.length/\Fw p/\(s=1\/s=2\/s=3)/\Q (.l (j0 a b ms p s i)) []
abbrev oT(P w K mg base):=(~~~Fn) 10 "piece_blocks" oJ (aJ K Tu)
abbrev k8:ki:=top 65
theorem xW:aF oJ oJ (aC k8):=dH
theorem xT(F:cK K "piece_blocks" "piece_blocks" k8 f fd)(TX:Txt mg)(uf: ~~~h9)(yk: ~~~rY)(aAF: ~~~yS):(~~~aV) cM 10 f fd oJ (aJ K Tu):=by
 refine F.okU xW (λhr=>(aB (bN (iB (fK uf (f1 (fX (fQ 0) (fv 1))))) (aE (aG (cN (f1 (fK yk (f3 (fv 0) (fv 1) (fv 2))))))) a8) (aE (aG (fK aAF (f4 (fv 0) (fv 1) (fv 2) (fv 3))))))) ?_;rintro as Q ⟨a,b,ms,i,p,s,rfl,h,il,fw,hs,q⟩;have hi:=iU il;have hp:=gJ ms a b _ _ hi;have nl:=(h.piece (p:=p) hs il).1;show o1 (eZ ((bP a b ms).map g9) (i:Int)) _;rw[lL hp];refine⟨_,rfl,?_⟩;unfold j0 at q nl;cases e:gM ms i with
 |side x y m=>
  rw[e]at q hi;exact⟨a,b,ms,i,x,y,m,p,rfl,h,hi,fw,rfl,q⟩
 |arc x y u v r l=>
  rw[e]at q hi nl;exact⟨a,b,ms,i,x,y,u,v,r,l,p,s,rfl,h,hi,fw,hs,nl,q⟩
noncomputable def pM (a b:Fr) (ms:List Mv):List Nat:=((XH (ms.length-fst a b (bP a b ms))).map λj=>fst a b (bP a b ms)+j).filter λk=>decide (uO ms k≠"straight")
theorem F1{so:List (Key×V)}(h:∀p∈so,p.1≠k):sY so k v=so++[(k,v)]:=by
 unfold sY;rw[oW (λz=>?_)];obtain⟨p,hp,e⟩:=List.any_eq_true.mp z;exact h p hp (of_decide_eq_true e)
theorem Rh{W:Nat->Str}:∀N:Nat,Xv c ((XH N).map λj=>(((f+j:Nat):Int),W (f+j))) []=((((XH N).map λj=>f+j).filter λk=>decide (W k≠c)).map λk=>(((k:Nat):Int),W k)).map (λx=>(Sum.inl x.1,V.str x.2))
 |0=>rfl
 |N+1=>by
  rw[YX,WU,WU,ZN,ZN,pQ,Rh N,fu]
  by_cases e:W (f+N)=c
  ·rw[oV e,aa (by simp[e])];simp
  ·rw[oW e,ZZ (by simp[e]),F1]
   ·simp
   ·intro p hp z;obtain⟨x,hx,rfl⟩:=YI.mp hp;obtain⟨k,hk,rfl⟩:=YI.mp hx;obtain⟨j,hj,rfl⟩:=YI.mp (br.mp hk).1;have:=ZD.mp hj;have:=Sum.inl.inj z
    lia
def L4:EB:=λas Q=>∃(a b:Fr)(ms:List Mv),as=[.v (bZ a b (bP a b ms))]/\Pm a b ms/\∀so,(∀k:Nat,k<ms.length->j7 so (Sum.inl (k:Int))=if fst a b (bP a b ms)<=k/\uO ms k≠"straight" then oZ (.str (uO ms k))else none)->so=((pM a b ms).map λk=>(((k:Nat):Int),uO ms k)).map (λx=>(Sum.inl x.1,V.str x.2))->Q so
theorem Nf{c:Str}{f:Nat}{W:Nat->Str}{k:Nat}:∀N:Nat,j7 (Xv c ((XH N).map λj=>(((f+j:Nat):Int),W (f+j))) []) (Sum.inl (k:Int))=if f<=k/\k<f+N/\W k≠c then oZ (.str (W k))else none
 |0=>by rw[oW ⋯];rfl
 |N+1=>by
  rw[YX,WU,ZN,pQ]
  by_cases e:W (f+N)=c
  ·rw[oV e,Nf N]
   by_cases z:k=f+N
   ·subst z;rw[oW ⋯,oW (by simp[e])]
   ·have:(f<=k/\k<f+N/\W k≠c)↔(f<=k/\k<f+(N+1)/\W k≠c):=⟨λh=>⟨h.1,⋯,h.2.2⟩,λh=>⟨h.1,⋯,h.2.2⟩⟩;simp only[this]
  ·rw[oW e,O7,Nf N]
   by_cases z:k=f+N
   ·subst z;rw[oV rfl,oV ⟨⋯,⋯,e⟩]
   ·have:(f<=k/\k<f+N/\W k≠c)↔(f<=k/\k<f+(N+1)/\W k≠c):=⟨λh=>⟨h.1,⋯,h.2.2⟩,λh=>⟨h.1,⋯,h.2.2⟩⟩;rw[oW (λq=>z (by have:=Sum.inl.inj q;lia))];simp only[this]
abbrev yK(P w K mg base):=(~~~Fn) 12 "bends" ["path"] (Lr K L4)
abbrev Hn:ki:=top 66
theorem J1:aF ["path"] ["path"] (aC Hn):=dH
theorem A9(F:cK K "bends" "bends" Hn f fd)(TX:Txt mg)(aAG: ~~~yL):(~~~aV) cM 12 f fd ["path"] (Lr K L4):=by
 refine F.okD (c:="straight") (k:=11) J1 rfl (λas Q h=>?_) (λwj A outer s H E hr=>ND rfl rfl (λ_ _ _ _=>hr) (yB aAG hr ⋯ rfl (fc (fv 0) cB)) (bV.of rfl)
  (λ_ _ _ _=>Ac (u4 (i:=0) (show jy (["number","word"]:List Str) by decide +kernel) rfl (YD rfl) (YQ rfl)) (Ac (u4 (i:=1) (show jy (["number","word"]:List Str) by decide +kernel) rfl (YD rfl) (YQ rfl)) Sw))
  (h1:=λ_ _ _ _=>⟨vT rfl (by first|exact YD rfl|exact YQ (YD rfl)|exact YQ (YQ rfl))⟩) (h2:=λ_ _ _ _=>⟨vT rfl (by first|exact YD rfl|exact YQ (YD rfl)|exact YQ (YQ rfl))⟩) (h3:=λ_ _ _ _=>⟨vT rfl (by first|exact YD rfl|exact YQ (YD rfl)|exact YQ (YQ rfl))⟩)) (λas Q h=>?_)
 ·obtain⟨a,b,ms,rfl,_⟩:=h;rfl
 ·obtain⟨a,b,ms,rfl,h,q⟩:=h;have l12:=h.len;have fl:=FU a b (bP a b ms);have pl:=dS ms a b;have l1:=ZG.mpr h.ne;refine⟨a,b,bP a b ms,rfl,h.st.1.up ∅,λz=>h.ne (YO (by rw[<-pl,z];rfl)),by rw[pl];exact l12,uM ∅ h.chain,?_⟩;refine⟨(XH ((bP a b ms).length-fst a b (bP a b ms))).map λj=>(((fst a b (bP a b ms)+j:Nat):Int),My.cw a b (bP a b ms) (fst a b (bP a b ms)+j)),?_,by simp;lia,q _ (λk hk=>?_) ?_⟩
  ·rw[List.map_map];rfl
  ·rw[Nf,h.cr hk,pl];have:(fst a b (bP a b ms)<=k/\k<fst a b (bP a b ms)+(ms.length-fst a b (bP a b ms))/\uO ms k≠XI "straight")↔(fst a b (bP a b ms)<=k/\uO ms k≠XI "straight"):=⟨λh=>⟨h.1,h.2.2⟩,λh=>⟨h.1,⋯,h.2⟩⟩;simp only[this]
  ·rw[Rh,pl];have:∀N,N<=ms.length-fst a b (bP a b ms)->(((XH N).map λj=>fst a b (bP a b ms)+j).filter λk=>decide (My.cw a b (bP a b ms) k≠XI "straight")).map (λk=>(((k:Nat):Int),My.cw a b (bP a b ms) k))=(((XH N).map λj=>fst a b (bP a b ms)+j).filter λk=>decide (uO ms k≠"straight")).map (λk=>(((k:Nat):Int),uO ms k)):=λN=>by
    induction N with
    |zero=>intro _;rfl
    |succ N ih=>
     intro hN;have e:=h.cr (show fst a b (bP a b ms)+N<ms.length by lia);rw[YX,WU,fu,fu,WU,WU,ih ⋯,ZN]
     congr 1
     by_cases z:uO ms (fst a b (bP a b ms)+N) = "straight"
     ·rw[aa (by rw[e];simp;exact z),aa (by simp;exact z)];rfl
     ·rw[ZZ (by rw[e];simp;exact z),ZZ (by simp;exact z),List.filter_nil,List.filter_nil,ZN,ZN,e]
   rw[this _ (WO _)];rfl
theorem Ub(a b:Fr)(ms:List Mv)(p:Fr)(s:Int)(j:Nat):lR a b ms p s (j+1)=lR a b ms p s j++j0 a b ms p s j++r6 a b ms p s ((j+1)%ms.length):=rfl
def DB:dG:=λas Q=>∃(a b:Fr)(ms:List Mv)(p:Fr)(s:Int),as=[.v (bZ a b (bP a b ms)),.v (fr p),.v (.int s),.v (.bl false)]/\Pm a b ms/\Fw p/\(s=1\/s=2\/s=3)/\Q (.l (Je a b ms p s)) []
abbrev pH(P w K mg base):=(~~~Fn) 13 "laid_blocks" oK (aJ K DB)
abbrev mB:ki:=top 67
theorem fN:aF ["path","far","steps","is_least","words","found","number","behind"] oK (aC mB):=dH
theorem zX(F:cK K "laid_blocks" "laid_blocks" mB f fd)(TX:Txt mg)(zc: ~~~yK)(ya: ~~~oT)(ym: ~~~rQ)(xc: ~~~mV)(yw: ~~~uG)(aAH: ~~~yM):(~~~aV) cM 13 f fd oK (aJ K DB):=by
 refine F.okU fN (λhr=>(Xw (i:=4) zc hr ⋯ rfl (f1 (fv 0)) fN.nd rfl (YD rfl) (λso=>(uP (Yd (j:=5) fN.nd rfl (YD rfl) (cN cB) ∅) (uP (ES (j:=6) PassesOwn.never rfl (gF rfl TX.n_range (f1 (fE rfl rfl TX.n_len (f1 (fQ 0))))) fN.nd rfl (YD rfl) (uP (R6 (rD rfl (fv 5) (f1 (fK ya (f4 (fv 0) (fv 6) (fv 1) (fv 2)))))) (uP (Yd (j:=7) fN.nd rfl (YD rfl) (aS iD (a7 cO (fv 6) aA) (fE rfl rfl TX.n_len (f1 (fQ 0)))) ∅) (Fj (BO (FV hr rfl (by first|exact YD rfl|exact YQ (YD rfl)|exact YQ (YQ rfl)) (fv 7)) (Fj (Yb (Nk rfl (fv 5) (FD (Yl ym hr ⋯ rfl (FD (QE.dd (fv 0)) (FD (QE.dd (fv 7)) (FD (Yn hr rfl (by first|exact YD rfl|exact YQ (YD rfl)|exact YQ (YQ rfl)) (fv 7) (λ_ _=>rfl)) (FD (QE.dd (fv 1)) (FD (QE.dd (fv 2)) (FD (QE.dd (fv 3)) (QA.dd cB)))))))) (QA.dd cB))))) Xx)))) ∅) (uP (BO (bd (iB (fK xc (f1 (fv 0))))) (Fj (Yc (fv 5))) Xx) (Fj (Yc (m9 (m9 (cN (f1 (fK yw (f4 (fv 0) (fv 1) (fv 2) (fv 3))))) (fv 5)) (cN (f1 (fK aAH (f4 (fv 0) (fv 1) (fv 2) (fv 3)))))))))))))) ?_;rintro as Q ⟨a,b,ms,p,s,rfl,h,fw,hs,q⟩;have l12:=h.len;have l1:=ZG.mpr h.ne;have pl:=dS ms a b;have em:((((bP a b ms).map g9).length:Nat):Int)=(ms.length:Int):=by rw[WJ,pl]
 have nl:=(h.blk (p:=p) hs).1;unfold Je at q nl;refine⟨a,b,ms,rfl,h,λso hk _=>?_⟩;refine⟨⟨by rw[em];lia,by rw[em];lia⟩,?_⟩;rw[em,XU];refine cA (λj E=>∃(v6 v7:Option L2.U),E=[⇑(bZ a b (bP a b ms)),⇑(fr p),↑s,⇑(.bl false),none,↥(lR a b ms p s j),v6,v7]) ⟨none,none,rfl⟩ ?_ ?_
 ·rintro j t rest E hj ⟨v6,v7,rfl⟩ KK;obtain⟨jl,rfl⟩:=nG hj;rw[ja];have lT:=(h.told (p:=p) hs (YA jl)).2;have lP:=(h.piece (p:=p) hs jl).2;refine⟨a,b,ms,j,p,s,rfl,h,jl,fw,hs,?_⟩;refine⟨by show(lR a b ms p s j++j0 a b ms p s j).length<=9000;rw[WK];lia,?_⟩;refine⟨by show(0:Int)<((((bP a b ms).map g9).length:Nat):Int);rw[em];lia,?_⟩;have hk0:((j:Int)+1)%(ms.length:Int)=(((j+1)%ms.length:Nat):Int):=by push_cast;rfl
  have kl:(j+1)%ms.length<ms.length:=aj _ l1;show if(j7 so (Sum.inl (((j:Int)+1)%((((bP a b ms).map g9).length:Nat):Int)))).isSome=true then _ else _;rw[em,hk0,hk _ kl]
  by_cases c:fst a b (bP a b ms)<=(j+1)%ms.length/\uO ms ((j+1)%ms.length)≠"straight"
  ·have e:r6 a b ms p s ((j+1)%ms.length)=[_]:=oV c;rw[oV c,oV (by rfl)];refine⟨_,by rw[hk _ kl,oV c],?_⟩;refine⟨a,b,ms,(j+1)%ms.length,_,_,p,s,rfl,h,iU kl,iU (pL kl),c.2,fw,hs,?_⟩;refine⟨by show((lR a b ms p s j++j0 a b ms p s j)++[_]).length<=9000;rw[WK,WK,WY];lia,KK _ ⟨↑(j:Int),↑(((j+1)%ms.length:Nat):Int),?_⟩⟩;rw[Ub,e];rfl
  ·have e:r6 a b ms p s ((j+1)%ms.length)=[]:=oW c;rw[oW c,oW ∅];refine KK _ ⟨↑(j:Int),↑(((j+1)%ms.length:Nat):Int),?_⟩;rw[Ub,e,XW]
 ·rintro E ⟨v6,v7,rfl⟩;have lr:(iY 0 ms.length).length=ms.length:=by simp[iY]
  rw[lr];have lT:=(h.told (p:=p) hs (WO _)).2;refine⟨a,b,_,rfl,λz=>h.ne (YO (by rw[<-pl,z];rfl)),?_⟩;show if Na a b (bP a b ms)=true then _ else _
  by_cases c:Na a b (bP a b ms)=true
  ·rw[oV c]at q nl⊢;exact⟨nl,q⟩
  ·rw[oW c]at q nl⊢;refine⟨a,b,ms,_,p,s,rfl,h,iU l1,fw,hs,?_⟩;refine⟨by show 1+(lR a b ms p s ms.length).length<=9000;lia,?_⟩;refine⟨a,b,ms,_,p,s,rfl,h,iU ⋯,fw,hs,?_⟩;refine⟨by show(Q9 a b ms p s (gM ms 0)::lR a b ms p s ms.length).length+1<=9000;rw[XG];lia,?_⟩;exact⟨nl,q⟩
def Tj:dG:=λas Q=>∃(a b:Fr)(ms:List Mv)(p:Fr)(s:Int),as=[.v (bZ a b (bP a b ms)),.v (fr p),.v (.int s)]/\Pm a b ms/\Fw p/\(s=1\/s=2\/s=3)/\Q (.l (Je a b ms p s)) []
abbrev Cg(P w K mg base):=(~~~Fn) 14 "blocks" ["path","far","steps"] (aJ K Tj)
abbrev Ag:ki:=top 68
theorem Wu:aF ["path","far","steps"] ["path","far","steps"] (aC Ag):=dH
theorem Vx(F:cK K "blocks" "blocks" Ag f fd)(TX:Txt mg)(yf: ~~~pH):(~~~aV) cM 14 f fd ["path","far","steps"] (aJ K Tj):=by
 refine F.okU Wu (λhr=>(aE (aG (fK yf (f4 (fv 0) (fv 1) (fv 2) uQ))))) ?_;rintro as Q ⟨a,b,ms,p,s,rfl,h,fw,hs,q⟩;exact⟨a,b,ms,p,s,rfl,h,fw,hs,(h.blk hs).1,q⟩
def Xr(p:Fr):Fr:=if p.1<0 then(0,1)else if p.2<p.1 then(1,1)else p
def QV(t:Rat):Rat:=if t<0 then 0 else if 1<t then 1 else t
theorem MM:bC (0,1):=⟨∅,∅⟩
theorem A5:bC (1,1):=⟨∅,∅⟩
theorem Ui(h:bC p):1<val p↔p.2<p.1:=by
 have e:=Uh h;have d:=BM h;have k:(val p-1)*(p.2:Rat)=(((p.1-p.2:Int)):Rat):=by push_cast;grind
 constructor
 ·intro c;have z:=Rat.mul_pos (a:=val p-1) (b:=(p.2:Rat)) (by grind) d;rw[k]at z;have:(0:Int)<p.1-p.2:=by exact_mod_cast z
  lia
 ·intro c;have z:(0:Rat)<(((p.1-p.2:Int)):Rat):=by exact_mod_cast (show(0:Int)<p.1-p.2 by lia)
  rw[<-k]at z;have:=bL d z;grind
theorem A6(h:bC p):bC (Xr p):=by
 unfold Xr
 by_cases c:p.1<0
 ·rw[oV c];exact MM
 ·rw[oW c]
  by_cases k:p.2<p.1
  ·rw[oV k];exact A5
  ·rw[oW k];exact h
theorem CL(p:Fr):sz (Xr p)<=sz p:=by
 have s:=Ij p;have t:1<2^sz p:=WZ (show 1<2^1 by decide) (YG ∅ s);unfold Xr
 by_cases c:p.1<0
 ·rw[oV c];exact lQ (Nat.lt_trans ∅ t) t s
 ·rw[oW c]
  by_cases k:p.2<p.1
  ·rw[oV k];exact lQ t t s
  ·rw[oW k];exact WO _
theorem JT(h:bC p):val (Xr p)=QV (val p):=by
 unfold Xr QV;have a:=tU h;have b:=Ui h
 by_cases c:p.1<0
 ·rw[oV c,oV (a.2 c)];exact lU
 ·rw[oW c,oW (λz=>c (a.1 z))]
  by_cases k:p.2<p.1
  ·rw[oV k,oV (b.2 k)];exact fT
  ·rw[oW k,oW (λz=>k (b.1 z))]
def Mc:dG:=λas Q=>∃(x y p q:Fr),as=[.v (vc x y),.v (vc p q)]/\Nv x y 29/\Nv p q 490/\(bW x y x y).1≠0/\Q (.v (fr (Xr (bO (bW x y p q) (bW x y x y))))) []
theorem Ii(h:Nv x y 29)(k:Nv p q 490)(n0:(bW x y x y).1≠0):bC (bO (bW x y p q) (bW x y x y))/\sz (bO (bW x y p q) (bW x y x y))<=1156:=by
 have s1:=iG h k;have s2:=iG h h;have s3:=kI (aY h k) n0;exact⟨eO (aY h k) n0,⋯⟩
abbrev rX(P w K mg base):=(~~~Fn) 5 "part_along" ["vector","way"] (aJ K Mc)
abbrev nT:ki:=top 73
theorem sH:aF ["vector","way","part"] ["vector","way"] (aC nT):=dH
theorem Bv(F:cK K "part_along" "part_along" nT f fd)(TX:Txt mg)(vq: ~~~mY)(vi: ~~~kR)(sv: ~~~dQ):(~~~aV) cM 5 f fd ["vector","way"] (aJ K Mc):=by
 refine F.okU sH (λhr=>(aB (fS 2 sH.nd (fK vq (f2 (fK vi (f2 (fv 0) (fv 1))) (fK vi (f2 (fv 0) (fv 0)))))) (aB (bN (fP iK (fQ 2) aA) (aE (aG (aN (f2 aA aA)))) a8) (aE (aG (mH (fP iK (fK sv (f2 (fv 2) (aN (f2 aA aA)))) aA) (fv 2) (aN (f2 aA aA)))))))) ?_;rintro as Q ⟨x,y,p,q,rfl,h,k,n0,z⟩;have s1:=iG h k;have s2:=iG h h;refine⟨x,y,p,q,29,490,rfl,h,k,∅,x,y,x,y,29,29,rfl,h,h,∅,_,_,rfl,aY h k,aY h h,n0,⋯,?_⟩;obtain⟨n,s⟩:=Ii h k n0;generalize bO (bW x y p q) (bW x y x y)=P at n s z⊢;unfold Xr at z;show if decide (P.1<0)=true then _ else _
 by_cases c:P.1<0
 ·rw[oY c,oV rfl];rw[oV c]at z;exact⟨rfl,z⟩
 ·rw[oX c,oW ∅];rw[oW c]at z;have s11:sz (1,1)<=1:=lQ ∅ ∅ ∅;have g1:=Ui n;refine⟨P,(1,1),rfl,n,A5,⋯,⋯,λk hk=>?_⟩;have hk:=hk.i;rw[fT]at hk;show if decide (k<0)=true then _ else _
  by_cases d:k<0
  ·rw[oY d,oV rfl];rw[oW (λy=>by have:=g1.2 y;have:=hk.1 d;grind)]at z;exact⟨rfl,z⟩
  ·rw[oX d,oW ∅];have e:(if P.2<P.1 then((1,1):Fr)else P)=(1,1):=by
    split
    ·rfl
    ·rename_i y;refine bM n A5 ?_;rw[fT];have:¬val P<1:=λy=>d (hk.2 y);have:¬1<val P:=λz=>y (g1.1 z);grind
   rw[e]at z;exact⟨rfl,z⟩
def RA(vx vy wx wy:Rat):Rat:=QV ((vx*wx+vy*wy)/(vx*vx+vy*vy))
def UL(vx vy wx wy t:Rat):Rat:=(wx-vx*t)*(wx-vx*t)+(wy-vy*t)*(wy-vy*t)
def KA(ax ay bx b2 px py:Rat):Rat:=UL (bx-ax) (b2-ay) (px-ax) (py-ay) (RA (bx-ax) (b2-ay) (px-ax) (py-ay))
structure BI(ax ay bx b2 px py g:Fr):Prop where
 a:Nv ax ay 14
 b:Nv bx b2 14
 p:Nv px py 475
 pos:∃r:Rat,0<r/\Bk bx b2 ax ay=r*r
 ng:bC g
 vg:val g=KA (val ax) (val ay) (val bx) (val b2) (val px) (val py)
theorem BI.ne{ax ay bx b2 px py g:Fr}(h:BI ax ay bx b2 px py g):(bW (aH bx ax) (aH b2 ay) (aH bx ax) (aH b2 ay)).1≠0:=by
 have nv:=iC h.b h.a;have v:=cP nv nv;obtain⟨r,r0,e⟩:=h.pos;rw[aT h.b.x h.a.x,aT h.b.y h.a.y]at v;unfold Bk at e;rw[e]at v;have:=(fW (aY nv nv)).1 (by rw[v];exact Rat.mul_pos r0 r0)
 lia
theorem BI.part{ax ay bx b2 px py g:Fr}(h:BI ax ay bx b2 px py g):val (Xr (bO (bW (aH bx ax) (aH b2 ay) (aH px ax) (aH py ay)) (bW (aH bx ax) (aH b2 ay) (aH bx ax) (aH b2 ay))))=RA (val bx-val ax) (val b2-val ay) (val px-val ax) (val py-val ay):=by
 have nv:=iC h.b h.a;have nw:=iC h.p h.a;rw[JT (eO (aY nv nw) h.ne),i7 (aY nv nw) (aY nv nv) h.ne,cP nv nw,cP nv nv,aT h.b.x h.a.x,aT h.b.y h.a.y,aT h.p.x h.a.x,aT h.p.y h.a.y];rfl
def L1:dG:=λas Q=>∃(a b:Fr)(ps:List Pc)(i:Nat)(x y px py g:Fr),as=[.v (bZ a b ps),.v (.int (i:Int)),.v (vc px py)]/\ps[i]?=oZ (.side x y)/\BI (cQ a (ps.take i)) (cR b (ps.take i)) x y px py g/\Q (.v (fr g)) []
abbrev Iz(P w K mg base):=(~~~Fn) 6 "apart" ["path","number","point"] (aJ K L1)
abbrev Hm:ki:=top 74
theorem qT:aF ["path","number","point","begin","along","way","off"] ["path","number","point"] (aC Hm):=dH
theorem A8(F:cK K "apart" "apart" Hm f fd)(TX:Txt mg)(ug: ~~~iH)(ud: ~~~gN)(tw: ~~~eR)(uq: ~~~kJ)(yn: ~~~rX)(vi: ~~~kR):(~~~aV) cM 6 f fd ["path","number","point"] (aJ K L1):=by
 refine F.okU qT (λhr=>(aB (fS 3 qT.nd (fK ug (f2 (fv 0) (fv 1)))) (aB (fS 4 qT.nd (fK ud (f2 (fK tw (f1 (fX (fQ 0) (fv 1)))) (fv 3)))) (aB (fS 5 qT.nd (fK ud (f2 (fv 2) (fv 3)))) (aB (fS 6 qT.nd (fK ud (f2 (fv 5) (fK uq (f2 (fv 4) (fK yn (f2 (fv 4) (fv 5)))))))) (aE (aG (fK vi (f2 (fv 6) (fv 6)))))))))) ?_;rintro as Q ⟨a,b,ps,i,x,y,px,py,g,rfl,hat,ap,q⟩;have hi:=(WE.mp hat).1;refine⟨a,b,ps,i,rfl,hi,?_⟩;show o1 (eZ (ps.map g9) (i:Int)) _;rw[lL hat];generalize cQ a (ps.take i)=bx at ap⊢;generalize cR b (ps.take i)=b2 at ap⊢;have nv:=iC ap.b ap.a;have nw:=iC ap.p ap.a;obtain⟨pn,ps'⟩:=Ii nv nw ap.ne;have cn:=A6 pn;have cs:=CL (bO (bW (aH x bx) (aH y b2) (aH px bx) (aH py b2)) (bW (aH x bx) (aH y b2) (aH x bx) (aH y b2)));have cv:=ap.part;refine⟨.side x y,rfl,x,y,bx,b2,14,14,rfl,ap.b,ap.a,∅,?_⟩;refine⟨px,py,bx,b2,475,14,rfl,ap.p,ap.a,∅,?_⟩;refine⟨_,_,_,_,rfl,nv,nw,ap.ne,?_⟩;generalize Xr (bO (bW (aH x bx) (aH y b2) (aH px bx) (aH py b2)) (bW (aH x bx) (aH y b2) (aH x bx) (aH y b2)))=P at cn cs cv⊢;have n1:=nv.sx;have n2:=nv.sy;have m1:=bJ nv.x cn;have m2:=bJ nv.y cn;have ns:Nv (aM (aH x bx) P) (aM (aH y b2) P) 1185:=⟨aK nv.x cn,aK nv.y cn,⋯,⋯⟩;have no:=iC nw ns;refine⟨_,_,P,29,rfl,nv,cn,⋯,?_⟩;refine⟨_,_,_,_,490,1185,rfl,nw,ns,∅,?_⟩;refine⟨_,_,_,_,1676,1676,rfl,no,no,∅,rfl,?_⟩;have e:bW (aH (aH px bx) (aM (aH x bx) P)) (aH (aH py b2) (aM (aH y b2) P)) (aH (aH px bx) (aM (aH x bx) P)) (aH (aH py b2) (aM (aH y b2) P))=g:=by
  refine bM (aY no no) ap.ng ?_;rw[cP no no,aT nw.x ns.x,aT nw.y ns.y,aQ nv.x cn,aQ nv.y cn,cv,ap.vg,aT ap.p.x ap.a.x,aT ap.p.y ap.a.y,aT ap.b.x ap.a.x,aT ap.b.y ap.a.y];rfl
 rw[e];exact q
def Po(fx fy lx ly wx wy:Rat):Bool:=if 0<fx*ly-fy*lx then(decide (0<=fx*wy-fy*wx)&&decide (0<=wx*ly-wy*lx))else(decide (lx*wy-ly*wx<=0)||decide (wx*fy-wy*fx<=0))
def Mz(sq r b:Rat):Bool:=if sq<(r+b)*(r+b)then(decide (r-b<0)||decide ((r-b)*(r-b)<sq))else false
def Lx:dG:=λas Q=>∃(fx fy lx ly wx wy:Fr),as=[.v (vc fx fy),.v (vc lx ly),.v (vc wx wy)]/\Nv fx fy 29/\Nv lx ly 29/\Nv wx wy 490/\Q (.v (.bl (Po (val fx) (val fy) (val lx) (val ly) (val wx) (val wy)))) []
abbrev rR(P w K mg base):=(~~~Fn) 5 "is_between" ["first","last","way"] (aJ K Lx)
abbrev nJ:ki:=top 75
theorem Bz:aF ["first","last","way"] ["first","last","way"] (aC nJ):=dH
theorem Bo(F:cK K "is_between" "is_between" nJ f fd)(TX:Txt mg)(vj: ~~~mF):(~~~aV) cM 5 f fd ["first","last","way"] (aJ K Lx):=by
 refine F.okU Bz (λhr=>(aB (bN (fP qD (fX (fK vj (f2 (fv 0) (fv 1))) aA) aA) (aE (aG (Yk (sA Ds (fX (fK vj (f2 (fv 0) (fv 2))) aA) aA (a9 _)) (zM (sA Ds (fX (fK vj (f2 (fv 2) (fv 1))) aA) aA (a9 _)))))) a8) (aE (aG (Yo (sA C4 (fX (fK vj (f2 (fv 1) (fv 2))) aA) aA (a9 _)) (zM (sA C4 (fX (fK vj (f2 (fv 2) (fv 0))) aA) aA (a9 _)))))))) ?_;rintro as Q ⟨fx,fy,lx,ly,wx,wy,rfl,hf,hl,hw,q⟩;have g1:=fW (cC hf hl);have g2:=dY (cC hf hw);have g3:=dY (cC hw hl);have g4:=tT (cC hl hw);have g5:=tT (cC hw hf);rw[cV hf hl]at g1;rw[cV hf hw]at g2;rw[cV hw hl]at g3;rw[cV hl hw]at g4;rw[cV hw hf]at g5;unfold Po at q;rw[decide_eq_decide.mpr g2,decide_eq_decide.mpr g3,decide_eq_decide.mpr g4,decide_eq_decide.mpr g5]at q;refine⟨fx,fy,lx,ly,29,29,rfl,hf,hl,∅,?_⟩;show if decide (0<(aU fx fy lx ly).1)=true then _ else _
 by_cases c:0<(aU fx fy lx ly).1
 ·rw[oY c,oV rfl];rw[oV (g1.2 c)]at q;refine⟨fx,fy,wx,wy,29,490,rfl,hf,hw,∅,?_⟩;show if decide (0<=(aU fx fy wx wy).1)=true then _ else _
  by_cases d:0<=(aU fx fy wx wy).1
  ·rw[oY d,oV rfl];rw[oY d,Bool.true_and]at q;exact⟨wx,wy,lx,ly,490,29,rfl,hw,hl,∅,rfl,q⟩
  ·rw[oX d,oW ∅];rw[oX d,jq]at q;exact⟨rfl,q⟩
 ·rw[oX c,oW ∅];rw[oW (λz=>c (g1.1 z))]at q;refine⟨lx,ly,wx,wy,29,490,rfl,hl,hw,∅,?_⟩;show if decide ((aU lx ly wx wy).1<=0)=true then _ else _
  by_cases d:(aU lx ly wx wy).1<=0
  ·rw[oY d,oV rfl];rw[oY d,Bool.true_or]at q;exact⟨rfl,q⟩
  ·rw[oX d,oW ∅];rw[oX d,gj]at q;exact⟨wx,wy,fx,fy,490,29,rfl,hw,hf,∅,rfl,q⟩
def CY:dG:=λas Q=>∃(a b:Fr)(ps:List Pc),as=[.v (bZ a b ps)]/\ps.length<=12/\Q (.l (vc a b::ps.map F0)) []
theorem zS:∀ps:List Pc,bX (ps.map F0)=true
 |[]=>rfl
 |p::ps=>by show(true&&bX (ps.map F0))=true;rw[zS ps];rfl
abbrev yN(P w K mg base):=(~~~Fn) 3 "ends_of" ["path"] (aJ K CY)
abbrev wA:ki:=top 25
theorem Qb:aF ["path"] ["path"] (aC wA):=dH
theorem Oh(F:cK K "ends_of" "ends_of" wA f fd)(TX:Txt mg)(tw: ~~~eR):(~~~aV) cM 3 f fd ["path"] (aJ K CY):=by
 refine F.okU Qb (λhr=>(aE (aG (m9 (cN (f1 (fQ 0))) (iR (N':=["piece"]) (t:=1) (cap:=[]) rfl (bV.of rfl) rfl ∅ (FR rfl (fQ 0)) (λ_ _ _ _=>(fH 0)) (λ_ _ _ _=>(fK tw (f1 (fv 0))))))))) ?_;rintro as Q ⟨a,b,ps,rfl,hl,q⟩;refine⟨rfl,?_⟩;show lK _ _ (ps.map g9) _ _;refine cX (λi E=>∃v0,E=[v0,↥((ps.take i).map F0)]) ⟨none,rfl⟩ ?_ ?_
 ·rintro i t rest E hi ⟨v0,rfl⟩ KK;rw[WH]at hi;cases hp:ps[i]? with
  |none=>rw[hp]at hi;cases hi
  |some p=>
   rw[hp]at hi;cases hi;have il:=(WE.mp hp).1;refine⟨p,rfl,?_,KK _ ⟨⇑(g9 p),?_⟩⟩
   ·show((ps.take i).map F0).length<9000;rw[WJ,XT];lia
   ·have e1:ps.take (i+1)=ps.take i++[p]:=by rw[ZF,hp];rfl
    rw[e1,WU];rfl
 ·rintro E ⟨v0,rfl⟩;have e:ps.take (ps.map g9).length=ps:=by rw[WJ,ZJ]
  rw[e];refine⟨zS ps,?_⟩;refine⟨by show 1+(ps.map F0).length<=9000;rw[WJ];lia,?_,q⟩;show(true&&bX (ps.map F0))=true;rw[zS];rfl
def R7(ex ey px py b:Fr):Bool:=decide ((val px-val ex)*(val px-val ex)+(val py-val ey)*(val py-val ey)<val b*val b)
theorem LB{ax ay bx b2 px py:Fr}(a:Nv ax ay 14)(b:Nv bx b2 14)(p:Nv px py 475)(pos:∃r:Rat,0<r/\Bk bx b2 ax ay=r*r):∃g,BI ax ay bx b2 px py g/\sz g<=6705:=by
 obtain⟨g0,n0,v0⟩:=Pn (KA (val ax) (val ay) (val bx) (val b2) (val px) (val py));have ap:BI ax ay bx b2 px py g0:=⟨a,b,p,pos,n0,v0⟩;refine⟨g0,ap,?_⟩;have nv:=iC b a;have nw:=iC p a;obtain⟨pn,ps'⟩:=Ii nv nw ap.ne;have cn:=A6 pn;have cs:=CL (bO (bW (aH bx ax) (aH b2 ay) (aH px ax) (aH py ay)) (bW (aH bx ax) (aH b2 ay) (aH bx ax) (aH b2 ay)));have cv:=ap.part;generalize Xr (bO (bW (aH bx ax) (aH b2 ay) (aH px ax) (aH py ay)) (bW (aH bx ax) (aH b2 ay) (aH bx ax) (aH b2 ay)))=P at cn cs cv;have n1:=nv.sx;have n2:=nv.sy;have m1:=bJ nv.x cn;have m2:=bJ nv.y cn;have ns:Nv (aM (aH bx ax) P) (aM (aH b2 ay) P) 1185:=⟨aK nv.x cn,aK nv.y cn,⋯,⋯⟩;have no:=iC nw ns;have e:bW (aH (aH px ax) (aM (aH bx ax) P)) (aH (aH py ay) (aM (aH b2 ay) P)) (aH (aH px ax) (aM (aH bx ax) P)) (aH (aH py ay) (aM (aH b2 ay) P))=g0:=by
  refine bM (aY no no) n0 ?_;rw[cP no no,aT nw.x ns.x,aT nw.y ns.y,aQ nv.x cn,aQ nv.y cn,cv,v0,aT p.x a.x,aT p.y a.y,aT b.x a.x,aT b.y a.y];rfl
 rw[<-e];exact iG no no
theorem R8{ps:List Pc}(h:i<=ps.length):(vc a b::ps.map F0)[i]?=oZ (vc (cQ a (ps.take i)) (cR b (ps.take i))):=by
 cases i with
 |zero=>rfl
 |succ i=>
  have hp:=WG (show i<ps.length by lia);show(ps.map F0)[i]?=_;rw[WH,hp,sQ hp,sV hp];rfl
theorem Bool.ne_t(h:¬b=true):b=false:=by cases b<;>simp_all
theorem Pm.ap(h:Pm a b ms)(hi:ms[i]?=oZ (.side x y m))(np:Nv cx' cy' 475):∃g,BI (px a b ms i) (py a b ms i) (px a b ms (i+1)) (py a b ms (i+1)) cx' cy' g/\sz g<=6705:=by
 have ok:=iP h.chain (gJ ms a b _ _ hi);obtain⟨ex,ey⟩:=nF (a:=a) (b:=b) hi;rw[ex,ey];exact LB (h.nv i) ok.1 np ok.2
def Le(l:Bool)(x y u v r:Fr)(wx wy:Rat):Bool:=if l then Po (val x*val r) (val y*val r) (val u*val r) (val v*val r) wx wy else Po (val u*val r) (val v*val r) (val x*val r) (val y*val r) wx wy
def M7:dG:=λas Q=>∃(a b:Fr)(ms:List Mv)(i:Nat)(x y u v r:Fr)(l:Bool)(cx' cy':Fr),as=[.v (bZ a b (bP a b ms)),.v (.int (i:Int)),.v (vc cx' cy')]/\Pm a b ms/\ms[i]?=oZ (.arc x y u v r l)/\Nv cx' cy' 475/\
 Q (.v (.bl (Le l x y u v r (val cx'-val (dF a b ms i x y r).1) (val cy'-val (dF a b ms i x y r).2)))) []
abbrev tY(P w K mg base):=(~~~Fn) 6 "is_on_ray" ["path","number","point"] (aJ K M7)
abbrev qK:ki:=top 76
theorem n9:aF ["path","number","point","first","last"] ["path","number","point"] (aC qK):=dH
theorem Gw(F:cK K "is_on_ray" "is_on_ray" qK f fd)(TX:Txt mg)(wg: ~~~kQ)(yo: ~~~rR)(ud: ~~~gN):(~~~aV) cM 6 f fd ["path","number","point"] (aJ K M7):=by
 refine F.okU n9 (λhr=>(aB (fF (fK wg (f2 (fv 0) (fv 1))) (dA (n:=2) rfl rfl (aP (fG 3 n9.nd) (aP (fG 4 n9.nd) cJ)))) (aE (aG (fK yo (f3 (fv 3) (fv 4) (fK ud (f2 (fv 2) (fX (fX (fQ 0) (fv 1)) aA))))))))) ?_;rintro as Q ⟨a,b,ms,i,x,y,u,v,r,l,px',py',rfl,h,hi,np,q⟩;have hp:=gJ ms a b _ _ hi;obtain⟨o1',o2',_,nr,sr,_⟩:=h.ok _ (WI hi);have nm:Nv (dF a b ms i x y r).1 (dF a b ms i x y r).2 14:=(iP h.chain hp).1;have v1:=(k7 o1'.nv nr (show sz r<=4 by lia)).up (show 4+4<=29 by decide);have v2:=(k7 o2'.nv nr (show sz r<=4 by lia)).up (show 4+4<=29 by decide);have v3:=iC np nm;rw[<-aT np.x nm.x,<-aT np.y nm.y]at q;unfold Le at q;rw[<-aQ o1'.nv.x nr,<-aQ o1'.nv.y nr,<-aQ o2'.nv.x nr,<-aQ o2'.nv.y nr]at q;refine⟨a,b,ms,i,x,y,u,v,r,l,rfl,h,hi,?_⟩;cases l with
 |true=>
  rw[oV rfl]at q⊢;show o1 (eZ ((bP a b ms).map g9) (i:Int)) _;rw[lL hp];exact⟨px',py',_,_,475,14,rfl,np,nm,∅,_,_,_,_,_,_,rfl,v1,v2,v3,rfl,q⟩
 |false=>
  rw[oW ∅]at q⊢;show o1 (eZ ((bP a b ms).map g9) (i:Int)) _;rw[lL hp];exact⟨px',py',_,_,475,14,rfl,np,nm,∅,_,_,_,_,_,_,rfl,v2,v1,v3,rfl,q⟩
def OA(M:Fr×Fr)(cx' cy':Fr):Rat:=(val cx'-val M.1)*(val cx'-val M.1)+(val cy'-val M.2)*(val cy'-val M.2)
def M5:dG:=λas Q=>∃(a b:Fr)(ms:List Mv)(i:Nat)(x y u v r:Fr)(l:Bool)(cx' cy' bb:Fr),as=[.v (bZ a b (bP a b ms)),.v (.int (i:Int)),.v (vc cx' cy'),.v (fr bb),.v (.int 0)]/\Pm a b ms/\ms[i]?=oZ (.arc x y u v r l)/\Nv cx' cy' 475/\bC bb/\sz bb<=840/\
 Q (.v (.bl (Mz (OA (dF a b ms i x y r) cx' cy') (val r) (val bb)))) []
abbrev lI(P w K mg base):=(~~~Fn) 7 "is_near_circle" oM (aJ K M5)
abbrev jI:ki:=top 77
theorem dU:aF ["path","number","point","by","below","way","square","radius","high","low"] oM (aC jI):=dH
theorem u0(F:cK K "is_near_circle" "is_near_circle" jI f fd)(TX:Txt mg)(ud: ~~~gN)(vi: ~~~kR)(vm: ~~~kE)(tu: ~~~eJ)(um: ~~~jR)(sv: ~~~dQ)(tf: ~~~fA):(~~~aV) cM 7 f fd oM (aJ K M5):=by
 refine F.okU dU (λhr=>(aB (fS 5 dU.nd (fK ud (f2 (fv 2) (fX (fX (fQ 0) (fv 1)) aA)))) (aB (fS 6 dU.nd (fK vi (f2 (fv 5) (fv 5)))) (aB (fS 7 dU.nd (fK vm (f2 (fv 0) (fv 1)))) (aB (gH (i:=8) (j:=9) rfl dU.nd rfl rfl ∅ rfl rfl (f2 (fK tu (f2 (fv 7) (fv 3))) (fK um (f2 (fv 7) (fv 3)))) rfl) (aB (bN (fP Ds (fK sv (f2 (fv 6) (fK tf (f2 (fv 8) (fv 8))))) (fv 4)) (aE (aG uQ)) a8) (aE (aG (Yo (sA iK (fQ 9) aA (a9 _)) (zM (sA iK (fK sv (f2 (fK tf (f2 (fv 9) (fv 9))) (fv 6))) (fv 4) (a9 _)))))))))))) ?_;rintro as Q ⟨a,b,ms,i,x,y,u,v,r,l,px',py',bb,rfl,h,hi,np,nb,sb,q⟩;have hp:=gJ ms a b _ _ hi;have pa:=h.at_ hi;obtain⟨_,_,_,nr,sr,_⟩:=h.ok _ (WI hi);obtain⟨M1,M2,eM1,eM2⟩:∃M1 M2,M1=aH (cQ a ((bP a b ms).take i)) (aM x r)/\M2=aH (cR b ((bP a b ms).take i)) (aM y r):=⟨_,_,rfl,rfl⟩;have nm:Nv M1 M2 14:=by rw[eM1,eM2];exact(iP h.chain hp).1
 have q:Q (.v (.bl (Mz ((val px'-val M1)*(val px'-val M1)+(val py'-val M2)*(val py'-val M2)) (val r) (val bb)))) []:=by rw[eM1,eM2];exact q
 have v3:=iC np nm;have nd:=aY v3 v3;have sd:=iG v3 v3;have nh:=cE nr nb;have nl:=cF nr nb;have sh:=dX nr nb;have sl:=gK nr nb;have sh2:=bJ nh nh;have sl2:=bJ nl nl;have vd:=cP v3 v3;rw[aT np.x nm.x,aT np.y nm.y]at vd;have c3:=tU nl;rw[aT nr nb]at c3;show o1 (eZ ((bP a b ms).map g9) (i:Int)) _;rw[lL hp];refine⟨px',py',M1,M2,475,14,by rw[eM1,eM2];rfl,np,nm,∅,?_⟩;refine⟨_,_,_,_,490,490,rfl,v3,v3,∅,?_⟩;refine⟨a,b,_,i,_,_,rfl,pa,?_⟩;refine⟨r,bb,rfl,nr,nb,⋯,r,bb,rfl,nr,nb,⋯,?_⟩;refine⟨_,_,rfl,nh,nh,⋯,_,_,rfl,nd,aK nh nh,⋯,⋯,λk hk=>?_⟩;have hk:=hk.i;rw[aQ nh nh,vd,bE nr nb]at hk;unfold Mz at q;show if decide (k>=0)=true then _ else _
 by_cases c:k<0
 ·rw[oX ⋯,oW ∅];rw[oV (hk.1 c),decide_eq_decide.mpr c3]at q;show if decide ((aH r bb).1<0)=true then _ else _
  by_cases d:(aH r bb).1<0
  ·rw[oY d,oV rfl];rw[oY d,Bool.true_or]at q;exact⟨rfl,q⟩
  ·rw[oX d,oW ∅];rw[oX d,gj]at q;refine⟨_,_,rfl,nl,nl,⋯,_,_,rfl,aK nl nl,nd,⋯,⋯,λk2 hk2=>⟨rfl,?_⟩⟩;have hk2:=hk2.i;rw[aQ nl nl,vd,aT nr nb]at hk2;rw[decide_eq_decide.mpr hk2.symm]at q;exact q
 ·rw[oY ⋯,oV rfl];rw[oW (λz=>c (hk.2 z))]at q;exact⟨rfl,q⟩
def MT(a b:Fr)(ms:List Mv)(i:Nat)(cx' cy' bb:Fr):Mv->Bool
 |.side _ _ _=>decide (KA (val (px a b ms i)) (val (py a b ms i)) (val (px a b ms (i+1))) (val (py a b ms (i+1))) (val cx') (val cy')<val bb*val bb)
 |.arc x y u v r l=>Le l x y u v r (val cx'-val (dF a b ms i x y r).1) (val cy'-val (dF a b ms i x y r).2)&&Mz (OA (dF a b ms i x y r) cx' cy') (val r) (val bb)
def M6:dG:=λas Q=>∃(a b:Fr)(ms:List Mv)(i:Nat)(m:Mv)(cx' cy' bb:Fr),as=[.v (bZ a b (bP a b ms)),.v (.int (i:Int)),.v (vc cx' cy'),.v (fr bb),.v (.int 0)]/\Pm a b ms/\ms[i]?=oZ m/\Nv cx' cy' 475/\bC bb/\sz bb<=840/\Q (.v (.bl (MT a b ms i cx' cy' bb m))) []
abbrev mG(P w K mg base):=(~~~Fn) 8 "is_near_piece" oM (aJ K M6)
abbrev j4:ki:=top 78
theorem wQ:aF oM oM (aC j4):=dH
theorem vN(F:cK K "is_near_piece" "is_near_piece" j4 f fd)(TX:Txt mg)(uf: ~~~h9)(sv: ~~~dQ)(aBQ: ~~~Iz)(tf: ~~~fA)(yx: ~~~tY)(xo: ~~~lI):(~~~aV) cM 8 f fd oM (aJ K M6):=by
 refine F.okU wQ (λhr=>(aB (bN (iB (fK uf (f1 (fX (fQ 0) (fv 1))))) (aE (aG (sA iK (fK sv (f2 (fK aBQ (f3 (fv 0) (fv 1) (fv 2))) (fK tf (f2 (fv 3) (fv 3))))) (fv 4) (a9 _)))) a8) (aE (aG (Yk (fK yx (f3 (fv 0) (fv 1) (fv 2))) (zM (fK xo (fc (fv 0) (f4 (fv 1) (fv 2) (fv 3) (fv 4)))))))))) ?_;rintro as Q ⟨a,b,ms,i,m,px',py',bb,rfl,h,hi,np,nb,sb,q⟩;have hp:=gJ ms a b _ _ hi;show o1 (eZ ((bP a b ms).map g9) (i:Int)) _;rw[lL hp];refine⟨_,rfl,?_⟩;cases m with
 |side x y m=>
  obtain⟨g,ap,sg⟩:=h.ap hi np;have s2:=bJ nb nb;obtain⟨ex,ey⟩:=nF (a:=a) (b:=b) hi;have vg:=ap.vg;have q:Q (.v (.bl (decide (KA (val (px a b ms i)) (val (py a b ms i)) (val (px a b ms (i+1))) (val (py a b ms (i+1))) (val px') (val py')<val bb*val bb)))) []:=q;rw[<-vg]at q;rw[ex,ey]at ap;refine⟨a,b,_,i,_,_,px',py',g,rfl,hp,ap,_,_,rfl,nb,nb,⋯,_,_,rfl,ap.ng,aK nb nb,⋯,⋯,λk hk=>⟨rfl,?_⟩⟩;have hk:=hk.i;rw[aQ nb nb]at hk;rw[decide_eq_decide.mpr hk.symm]at q;exact q
 |arc x y u v r l=>
  refine⟨a,b,ms,i,x,y,u,v,r,l,px',py',rfl,h,hi,np,?_⟩;have q:Q (.v (.bl (Le l x y u v r (val px'-val (dF a b ms i x y r).1) (val py'-val (dF a b ms i x y r).2)&&Mz (OA (dF a b ms i x y r) px' py') (val r) (val bb)))) []:=q;show if Le l x y u v r (val px'-val (dF a b ms i x y r).1) (val py'-val (dF a b ms i x y r).2)=true then _ else _;cases hr:Le l x y u v r (val px'-val (dF a b ms i x y r).1) (val py'-val (dF a b ms i x y r).2)with
  |true=>
   rw[oV rfl];rw[hr,Bool.true_and]at q;exact⟨a,b,ms,i,x,y,u,v,r,l,px',py',bb,rfl,h,hi,np,nb,sb,rfl,q⟩
  |false=>
   rw[oW ∅];rw[hr,jq]at q;exact⟨rfl,q⟩
def kS(a b:Fr)(ms:List Mv)(cx' cy' bb:Fr):Prop:=(∃i m,ms[i]?=oZ m/\MT a b ms i cx' cy' bb m=true)\/∃j,j<=ms.length/\R7 (px a b ms j) (py a b ms j) cx' cy' bb=true
def Ik(below:List A):dG:=λas Q=>∃(a b:Fr)(ms:List Mv)(cx' cy' bb:Fr),as=[.v (bZ a b (bP a b ms)),.v (vc cx' cy'),.v (fr bb)]++below/\Pm a b ms/\Nv cx' cy' 475/\bC bb/\sz bb<=840/\kS a b ms cx' cy' bb/\Q (.v (.bl true)) []
abbrev rS(P w K mg base):=(~~~Fn) 9 "is_so_near" ["path","point","by","below"] (aJ K (Ik [.v (.int 0)]))
abbrev nK:ki:=top 79
theorem jM:aF ["path","point","by","below","number","end","off"] ["path","point","by","below"] (aC nK):=dH
theorem Bq(F:cK K "is_so_near" "is_so_near" nK f fd)(TX:Txt mg)(xq: ~~~mG)(aAK: ~~~yN)(ud: ~~~gN)(sv: ~~~dQ)(vi: ~~~kR)(tf: ~~~fA):(~~~aV) cM 9 f fd ["path","point","by","below"] (aJ K (Ik [.v (.int 0)])):=by
 refine F.okU jM (λhr=>(aB (eI PassesOwn.never rfl (gF rfl TX.n_range (f1 (fE rfl rfl TX.n_len (f1 (fQ 0))))) (fG 4 jM.nd) (aE (bN (iB (fK xq (fc (fv 0) (f4 (fv 4) (fv 1) (fv 2) (fv 3))))) (aE (aG uQ)) a8))) (aB (eI PassesOwn.never rfl (eF rfl (fK aAK (f1 (fv 0)))) (fG 5 jM.nd) (aB (fS 6 jM.nd (fK ud (f2 (fv 1) (fv 5)))) (aE (bN (fP iK (fK sv (f2 (fK vi (f2 (fv 6) (fv 6))) (fK tf (f2 (fv 2) (fv 2))))) (fv 3)) (aE (aG uQ)) a8)))) (aE (aG uQ))))) ?_;rintro as Q ⟨a,b,ms,px',py',bb,rfl,h,np,nb,sb,w,q⟩;have len:=h.len;have pl:=dS ms a b;have lm:((((bP a b ms).map g9).length:Nat):Int)=(ms.length:Int):=by rw[WJ,pl]
 refine⟨⟨by rw[lm];lia,by rw[lm];lia⟩,?_⟩;show xS _ (fJ _ _ _ (iY 0 ((((bP a b ms).map g9).length:Nat):Int).toNat));rw[lm,XU];refine cA (λi E=>∃(v4 v5 v6:Option U),E=[⇑(bZ a b (bP a b ms)),⇑(vc px' py'),⇑(fr bb),↑0,v4,v5,v6]/\∀j m,j<i->ms[j]?=oZ m->MT a b ms j px' py' bb m=false) ⟨_,_,_,rfl,λj m h=>⋯⟩ ?_ ?_
 ·rintro i t rest E hi ⟨v4,v5,v6,rfl,hf⟩ KK;obtain⟨hin,rfl⟩:=nG hi;rw[ja];refine⟨a,b,ms,i,_,px',py',bb,rfl,h,iU hin,np,nb,sb,?_⟩;show if MT a b ms i px' py' bb (gM ms i)=true then _ else _
  by_cases c:MT a b ms i px' py' bb (gM ms i)=true
  ·rw[oV c];exact⟨rfl,q⟩
  ·rw[oW c];refine KK _ ⟨_,_,_,rfl,λj m hj hm=>?_⟩;obtain z|z:=XQ j i
   ·exact hf j m z hm
   ·have:j=i:=⋯
    subst this;rw[iU hin]at hm;cases hm;exact Bool.ne_t c
 ·rintro E ⟨v4,v5,v6,rfl,hf⟩;have lr:(iY 0 ms.length).length=ms.length:=by simp[iY]
  rw[lr]at hf;refine⟨a,b,_,rfl,by rw[pl];exact len,?_⟩;refine(?_:xS _ _);refine cA (λi E=>∃(v4 v5 v6:Option U),E=[⇑(bZ a b (bP a b ms)),⇑(vc px' py'),⇑(fr bb),↑0,v4,v5,v6]/\∀j,j<i->R7 (px a b ms j) (py a b ms j) px' py' bb=false) ⟨_,_,_,rfl,λj h=>⋯⟩ ?_ ?_
  ·rintro i t rest E hi ⟨v4,v5,v6,rfl,he⟩ KK;have il:i<=(bP a b ms).length:=by
    have:=(WE.mp hi).1;rw[XG,WJ]at this
    lia
   have zx:(vc a b::(bP a b ms).map F0)[i]?=oZ t:=hi;rw[R8 il]at zx;cases zx;have ne:Nv (cQ a ((bP a b ms).take i)) (cR b ((bP a b ms).take i)) 14:=h.nv i;have v:=iC np ne;have sd:=iG v v;have s2:=bJ nb nb;refine⟨px',py',_,_,475,14,rfl,np,ne,∅,_,_,_,_,490,490,rfl,v,v,∅,_,_,rfl,nb,nb,⋯,_,_,rfl,aY v v,aK nb nb,⋯,⋯,λk hk=>?_⟩;have hk:=hk.i;rw[aQ nb nb,cP v v,aT np.x ne.x,aT np.y ne.y]at hk;show if decide (k<0)=true then _ else _;rw[decide_eq_decide.mpr hk];show if R7 (px a b ms i) (py a b ms i) px' py' bb=true then _ else _
   by_cases c:R7 (px a b ms i) (py a b ms i) px' py' bb=true
   ·rw[oV c];exact⟨rfl,q⟩
   ·rw[oW c];refine KK _ ⟨_,_,_,rfl,λj hj=>?_⟩;obtain z|z:=XQ j i
    ·exact he j z
    ·have:j=i:=⋯
     subst this;exact Bool.ne_t c
  ·rintro E ⟨v4,v5,v6,rfl,he⟩;exfalso;obtain⟨i,m,hm,k⟩|⟨j,hj,k⟩:=w
   ·rw[hf i m (WE.mp hm).1 hm]at k;cases k
   ·rw[he j (by rw[XG,WJ,pl];lia)]at k;cases k
abbrev yP(P w K mg base):=(~~~Fn) 10 "is_near" ["path","point","by"] (aJ K (Ik []))
abbrev wC:ki:=top 80
theorem Qc:aF ["path","point","by"] ["path","point","by"] (aC wC):=dH
theorem Oj(F:cK K "is_near" "is_near" wC f fd)(TX:Txt mg)(yp: ~~~rS):(~~~aV) cM 10 f fd ["path","point","by"] (aJ K (Ik [])):=by
 refine F.okU Qc (λhr=>(aE (aG (fK yp (f4 (fv 0) (fv 1) (fv 2) aA))))) ?_;rintro as Q ⟨a,b,ms,px',py',bb,rfl,h,np,nb,sb,w,q⟩;exact⟨a,b,ms,px',py',bb,rfl,h,np,nb,sb,w,rfl,q⟩
end
theorem Zo{d c D C:Rat}(o:d*d+c*c=1)(O:D*D+C*C=1)(k:dJ d c<=dJ D C):(0<C->0<=c/\0<=d*C-c*D)/\(C<=0->D≠1->c<0->0<=d*C-c*D):=by
 obtain⟨d1,d2⟩:=bF o;obtain⟨D1,D2⟩:=bF O;have id:=Uc o O;have p:(d*D+c*C)*(d*D+c*C)+(d*C-c*D)*(d*C-c*D)=1:=by grind
 have pb:=(bF p).1;refine⟨λh=>?_,λh n hc=>?_⟩
 ·have kD:dJ D C=1-D:=by unfold dJ;rw[oV (by grind)]
  have c0:0<=c:=by
   by_cases z:0<=c
   ·exact z
   ·exfalso;have kd:dJ d c=3+d:=by unfold dJ;rw[oW z]
    have:=(fR O (by grind)).1;rw[kd,kD]at k;grind
  refine⟨c0,?_⟩;have kd:dJ d c=1-d:=by unfold dJ;rw[oV c0]
  rw[kd,kD]at k;refine Rat.not_lt.mp λz=>?_;have h1:=Rat.mul_pos (show 0 < -(d*C-c*D) by grind) (show 0<c+C by grind);have h2:=Rat.mul_nonneg (show 0<=d-D by grind) (show 0<=1+d*D+c*C by grind);rw[<-id]at h2;grind
 ·have kd:dJ d c=3+d:=by unfold dJ;rw[oW (by grind)]
  by_cases z:C=0
  ·subst z;exfalso;obtain e|e:=wY O
   ·exact n e
   ·have:=(fR o (by grind)).1;have kD:dJ D 0=1-D:=by unfold dJ;rw[oV (by grind)]
    rw[kd,kD,e]at k;grind
  ·have kD:dJ D C=3+D:=by unfold dJ;rw[oW (by grind)]
   rw[kd,kD]at k;refine Rat.not_lt.mp λz=>?_;have h1:=Rat.mul_pos (show 0 < -(d*C-c*D) by grind) (show 0 < -(c+C) by grind);have h2:=Rat.mul_nonneg (show 0<=D-d by grind) (show 0<=1+d*D+c*C by grind);have h3:(D-d)*(1+d*D+c*C) = -((d*C-c*D)*(c+C)):=by rw[id];grind
   rw[h3]at h2;grind
theorem V0{d c e f:Rat}(o:d*d+c*c=1)(p:e*e+f*f=1)(k:dJ d c<dJ e f)(h:c<0):f<0:=by
 refine Rat.not_le.mp λz=>?_;have a:=(fR o (by grind)).1;have b:=(bF p).1;have kd:dJ d c=3+d:=by unfold dJ;rw[oW (by grind)]
 have ke:dJ e f=1-e:=by unfold dJ;rw[oV z]
 rw[kd,ke]at k;grind
theorem R1{d c e f D C s t:Rat}(ks:c<0->f<0)(k:0<d*f-c*e)(z1:(0<C->0<=c/\0<=d*C-c*D)/\(C<=0->c<0->0<=d*C-c*D))(z2:(0<C->0<=f/\0<=e*C-f*D)/\(C<=0->f<0->0<=e*C-f*D))(s0:0<=s)(t0:0<=t):
  if 0<C then 0<=s*c+t*f/\0<=s*(d*C-c*D)+t*(e*C-f*D)else 0<=s*(d*C-c*D)+t*(e*C-f*D)\/0<=s*c+t*f:=by
 by_cases h:0<C
 ·rw[oV h];obtain⟨a1,a2⟩:=z1.1 h;obtain⟨b1,b2⟩:=z2.1 h;have:=Rat.mul_nonneg s0 a1;have:=Rat.mul_nonneg s0 a2;have:=Rat.mul_nonneg t0 b1;have:=Rat.mul_nonneg t0 b2;constructor<;>grind
 rw[oW h];have h0:C<=0:=by grind
 by_cases c0:c<0
 ·left
  have a2:=z1.2 h0 c0;have b2:=z2.2 h0 (ks c0);have:=Rat.mul_nonneg s0 a2;have:=Rat.mul_nonneg t0 b2;grind
 have c1:0<=c:=by grind
 by_cases f0:f<0
 ·by_cases r0:0<=s*c+t*f
  ·exact .inr r0
  left
  have b2:=z2.2 h0 f0;refine Rat.not_lt.mp λz=>?_;generalize hp:d*C-c*D=p at *;generalize hq:e*C-f*D=q at *;have id:c*q-f*p = -(C*(d*f-c*e)):=by rw[<-hp,<-hq];grind
  have pos:=Rat.mul_nonneg (show 0<=-C by grind) (Rat.le_of_lt k);have tq:=Rat.mul_nonneg t0 b2;have p0:s*p<0:=by grind
  have sp:0<s:=by
   refine Rat.not_le.mp λy=>?_;have:s=0:=by grind
   rw[this]at p0;grind
  have pn:p<0:=by
   refine Rat.not_le.mp λy=>?_;have:=Rat.mul_nonneg s0 y;grind
  have cq:=Rat.mul_nonneg c1 b2;have fp:=Rat.mul_pos (show 0 < -f by grind) (show 0 < -p by grind);have cp:0<c:=by
   refine Rat.not_le.mp λy=>?_;have c00:c=0:=by grind
   have e1:c*q=0:=by rw[c00];grind
   have e2:-f * -p=f*p:=by grind
   rw[e2]at fp;have e3:-C*(d*f-c*e) = -(C*(d*f-c*e)):=by grind
   rw[e3]at pos;grind
  have m1:=Rat.mul_nonneg t0 (show 0<=c*q-f*p by rw[id];grind);have m2:=Rat.mul_pos (show 0 < -(s*c+t*f) by grind) (show 0 < -p by grind);have m3:=Rat.mul_pos (show 0 < -(s*p+t*q) by grind) cp;grind
 ·right
  have:=Rat.mul_nonneg s0 c1;have:=Rat.mul_nonneg t0 (show 0<=f by grind);grind
theorem G1{fx fy lx ly r wx wy:Rat}(r0:0<r)(h:if 0<fx*ly-fy*lx then 0<=fx*wy-fy*wx/\0<=wx*ly-wy*lx else 0<=wx*ly-wy*lx\/0<=fx*wy-fy*wx):Po (fx*r) (fy*r) (lx*r) (ly*r) wx wy=true:=by
 have rr:=Rat.mul_pos r0 r0;have e1:fx*r*(ly*r)-fy*r*(lx*r)=(fx*ly-fy*lx)*(r*r):=by grind
 have e2:fx*r*wy-fy*r*wx=(fx*wy-fy*wx)*r:=by grind
 have e3:wx*(ly*r)-wy*(lx*r)=(wx*ly-wy*lx)*r:=by grind
 have e4:lx*r*wy-ly*r*wx = -((wx*ly-wy*lx)*r):=by grind
 have e5:wx*(fy*r)-wy*(fx*r) = -((fx*wy-fy*wx)*r):=by grind
 unfold Po;rw[e1,e2,e3,e4,e5];generalize fx*ly-fy*lx=A at *;generalize fx*wy-fy*wx=B at *;generalize wx*ly-wy*lx=D at *;have mm:∀z:Rat,0<=z->0<=z*r:=λz hz=>Rat.mul_nonneg hz (Rat.le_of_lt r0)
 by_cases c:0<A
 ·rw[oV c]at h;rw[oV (Rat.mul_pos c rr),oY (mm _ h.1),oY (mm _ h.2)];rfl
 ·rw[oW c]at h;have n:¬0<A*(r*r):=λz=>c (bL rr z);rw[oW n,ji];obtain h|h:=h
  ·left;exact oY (by have:=mm _ h;grind)
  ·right;exact oY (by have:=mm _ h;grind)
theorem UB.ray{s:Int}(h:cD u.1 u.2 4)(k:cD w.1 w.2 4)(ne:w≠u)(hs:s=1\/s=2\/s=3)(B:UB u w s us)(hi:i+1<us.length){p q r:Rat}(p0:0<=p)(q0:0<=q)(r0:0<r):
  Po (val u.1*r) (val u.2*r) (val w.1*r) (val w.2*r) (p*val (gU us i).1+q*val (gU us (i+1)).1) (p*val (gU us i).2+q*val (gU us (i+1)).2)=true:=by
 obtain⟨m,hm,r1⟩:=vW h k;obtain⟨m',hm',r2⟩:=vW k.flip h.flip;obtain⟨_,_,n,n',t1,t2,e⟩:=id B;rw[<-qF r1 t1,<-qF r2 t2]at e;have E:dD u.1 u.2 w.1 w.2 4 4 s m m':=⟨h,k,∅,∅,∅,hs,hm,hm',r1,r2⟩;obtain⟨a1,a2⟩:=B.U.at_ (i:=i) ⋯;obtain⟨b1,b2⟩:=B.U.at_ hi;have x1:=(B.U.nb i _ _ a1 b1).1;have mem:∀{j},us[j]?=oZ (gU us j)->aX (gU us j)∈rO u.1 u.2 w.1 w.2 s m m':=λhj=>by rw[e];exact bq (WI hj)
 have mx1:=E.umax _ (mem a1);have mx2:=E.umax _ (mem b1);have ss:=E.ub.1;rw[e]at ss;have lt:kf u.1 u.2 (aX (gU us i))<kf u.1 u.2 (aX (gU us (i+1))):=by
  have pw:=cf.mp ss i (i+1) (by rw[WJ];lia) (by rw[WJ];exact hi) ⋯;rw[List.getElem_map,List.getElem_map]at pw;obtain⟨_,g1⟩:=WE.mp a1;obtain⟨_,g2⟩:=WE.mp b1;rw[g1,g2]at pw;exact pw
 have kz:∀z:Fr×Fr,kf u.1 u.2 (aX z)=dJ (val u.1*val z.1+val u.2*val z.2) (val u.1*val z.2-val u.2*val z.1):=λz=>iV _ _ _ _;have kw:kf u.1 u.2 (vc w.1 w.2)=_:=iV _ _ _ _;rw[kz,kw]at mx1 mx2;rw[kz,kz]at lt;have o:=h.one;have ow:=k.one;have oa:=a2.one;have ob:=b2.one;unfold vX at x1;generalize gU us i=z at *;generalize gU us (i+1)=y at *;have n1:val u.1*val w.1+val u.2*val w.2≠1:=λz1=>by
  have zz:=d9 o ow;rw[z1]at zz;have:(val u.1*val w.2-val u.2*val w.1)*(val u.1*val w.2-val u.2*val w.1)=0:=by grind
  have c0:val u.1*val w.2-val u.2*val w.1=0:=by rcases Rat.mul_eq_zero.mp this with a|a<;>exact a
  have e1:val w.1=val u.1:=by
   have:val w.1=val u.1*(val u.1*val w.1+val u.2*val w.2)-val u.2*(val u.1*val w.2-val u.2*val w.1):=by grind
   rw[z1,c0]at this;grind
  have e2:val w.2=val u.2:=by
   have:val w.2=val u.2*(val u.1*val w.1+val u.2*val w.2)+val u.1*(val u.1*val w.2-val u.2*val w.1):=by grind
   rw[z1,c0]at this;grind
  exact ne (Prod.ext (bM k.nv.x h.nv.x e1) (bM k.nv.y h.nv.y e2))
 have i1:=Zo (d9 o oa) (d9 o ow) mx1;have i2:=Zo (d9 o ob) (d9 o ow) mx2;have lw:=V0 (d9 o oa) (d9 o ob) lt;have kk:0<(val u.1*val z.1+val u.2*val z.2)*(val u.1*val y.2-val u.2*val y.1)-(val u.1*val z.2-val u.2*val z.1)*(val u.1*val y.1+val u.2*val y.2):=by
  have:(val u.1*val z.1+val u.2*val z.2)*(val u.1*val y.2-val u.2*val y.1)-(val u.1*val z.2-val u.2*val z.1)*(val u.1*val y.1+val u.2*val y.2)=(val u.1*val u.1+val u.2*val u.2)*(val z.1*val y.2-val z.2*val y.1):=by grind
  rw[this,o];grind
 have cn:=R1 lw kk ⟨i1.1,λa b=>i1.2 a n1 b⟩ ⟨i2.1,λa b=>i2.2 a n1 b⟩ p0 q0;refine G1 r0 ?_;have f1:p*(val u.1*val z.2-val u.2*val z.1)+q*(val u.1*val y.2-val u.2*val y.1)=val u.1*(p*val z.2+q*val y.2)-val u.2*(p*val z.1+q*val y.1):=by grind
 have f2:∀z1 z2:Rat,(val u.1*z1+val u.2*z2)*(val u.1*val w.2-val u.2*val w.1)-(val u.1*z2-val u.2*z1)*(val u.1*val w.1+val u.2*val w.2)=(val u.1*val u.1+val u.2*val u.2)*(z1*val w.2-z2*val w.1):=λz1 z2=>by grind
 rw[f1,f2,f2,o]at cn;have f3:p*(1*(val z.1*val w.2-val z.2*val w.1))+q*(1*(val y.1*val w.2-val y.2*val w.1))=(p*val z.1+q*val y.1)*val w.2-(p*val z.2+q*val y.2)*val w.1:=by grind
 rw[f3]at cn;exact cn
section
variable{P:kg}{w:ko}{K:W.Frag}{mg:Str->Option oA}{base:oE}
def RK(us:List (Fr×Fr))(i:Nat)(c1 c2:Rat):Prop:=∃t:Rat,0<=t/\t<=1/\((c1=val (gU us i).1+t*(val (sI us i).1-val (gU us i).1)/\c2=val (gU us i).2+t*(val (sI us i).2-val (gU us i).2))\/
 (c1=val (gU us (i+1)).1+t*(val (sI us i).1-val (gU us (i+1)).1)/\c2=val (gU us (i+1)).2+t*(val (sI us i).2-val (gU us (i+1)).2)))
theorem K2{z1 z2 T1 T2 g t:Rat}(o:z1*z1+z2*z2=1)(d:T1*z1+T2*z2=1)(hg:T1*T1+T2*T2=g)(g1:1<=g)(t0:0<=t)(t1:t<=1):
  1<=(z1+t*(T1-z1))*(z1+t*(T1-z1))+(z2+t*(T2-z2))*(z2+t*(T2-z2))/\(z1+t*(T1-z1))*(z1+t*(T1-z1))+(z2+t*(T2-z2))*(z2+t*(T2-z2))<=g:=by
 have e:(z1+t*(T1-z1))*(z1+t*(T1-z1))+(z2+t*(T2-z2))*(z2+t*(T2-z2))=1+t*t*(g-1):=by rw[<-hg];grind
 rw[e];have tt:=Rat.mul_nonneg t0 t0;have t2:=Rat.mul_nonneg t0 (show 0<=1-t by grind);have h1:=Rat.mul_nonneg tt (show 0<=g-1 by grind);have h2:=Rat.mul_nonneg (show 0<=1-t*t by grind) (show 0<=g-1 by grind);constructor<;>grind
def xZ(d:Rat):Rat:=2/(1+d)
section
variable{u w:Fr×Fr}{us:List (Fr×Fr)}
abbrev lE(us:List (Fr×Fr)):Fr:=rE (us.map aX) (us.length-2)
theorem Us.ldle(U:Us u w us):∀j,j+2<=us.length->∀i,i<=j->val (rE (us.map aX) j)<=vD (gU us i) (gU us (i+1)):=by
 have two:∀i,i+2<=us.length->val (Iu ((us.map aX).getD i .non) ((us.map aX).getD (i+1) .non))=vD (gU us i) (gU us (i+1)):=λi hi=>by
  obtain⟨a1,a2⟩:=U.at_ (i:=i) ⋯;obtain⟨b1,b2⟩:=U.at_ (i:=i+1) ⋯;have ga:∀{j c},us[j]?=oZ c->(us.map aX).getD j .non=aX c:=λ{j c}h=>by rw[XC,WH,h];rfl
  rw[ga a1,ga b1];unfold Iu;have c:∀c:Fr×Fr,cx (aX c)=c:=λc=>pP c.1 c.2;rw[c,c];exact cP a2.nv b2.nv
 intro j
 induction j with
 |zero=>
  intro hj i hi;obtain rfl:i=0:=⋯
  rw[<-two 0 hj];exact Rat.le_refl
 |succ j ih=>
  intro hj i hi;have e:=two (j+1) hj;show val (mn (rE (us.map aX) j) (Iu ((us.map aX).getD (j+1) .non) ((us.map aX).getD (j+2) .non)))<=_;unfold mn;obtain c|c:=XQ j i
  ·obtain rfl:i=j+1:=⋯
   split
   ·rw[e];exact Rat.le_refl
   ·rw[<-e];grind
  ·have:=ih ⋯ i c
   split
   ·grind
   ·exact this
theorem Us.ldok(U:Us u w us):bC (lE us)/\sz (lE us)<=61/\0<=val (lE us)/\val (lE us)<=1:=by
 have n2:=U.n2;have l:=U.ld (us.length-2) ⋯;refine⟨U.inn.2.1,?_,l.1,l.2⟩;have two:∀i,i+2<=us.length->sz (Iu ((us.map aX).getD i .non) ((us.map aX).getD (i+1) .non))<=61:=λi hi=>by
  obtain⟨a1,a2⟩:=U.at_ (i:=i) ⋯;obtain⟨b1,b2⟩:=U.at_ (i:=i+1) ⋯;have ga:∀{j c},us[j]?=oZ c->(us.map aX).getD j .non=aX c:=λ{j c}h=>by rw[XC,WH,h];rfl
  rw[ga a1,ga b1];unfold Iu;have c:∀c:Fr×Fr,cx (aX c)=c:=λc=>pP c.1 c.2;rw[c,c];exact vB a2 b2
 have dJ:∀i,i+2<=us.length->sz (rE (us.map aX) i)<=61:=λi=>by
  induction i with
  |zero=>intro hi;exact two 0 hi
  |succ i ih=>
   intro hi;show sz (mn _ _)<=61;unfold mn
   split
   ·exact two (i+1) ⋯
   ·exact ih ⋯
 exact dJ _ ⋯
theorem Us.tip(U:Us u w us)(hi:i+1<us.length):val (sI us i).1*val (gU us i).1+val (sI us i).2*val (gU us i).2=1/\val (sI us i).1*val (gU us (i+1)).1+val (sI us i).2*val (gU us (i+1)).2=1/\
  ∃g q,val (sI us i).1*val (sI us i).1+val (sI us i).2*val (sI us i).2=g/\1<=g/\g<=xZ (val (lE us))/\1<=xZ (val (lE us))/\0<=q/\val (sI us i).1=q*(val (gU us i).1+val (gU us (i+1)).1)/\val (sI us i).2=q*(val (gU us i).2+val (gU us (i+1)).2):=by
 have n2:=U.n2;obtain⟨a1,a2⟩:=U.at_ (i:=i) ⋯;obtain⟨b1,b2⟩:=U.at_ hi;obtain⟨d,_⟩:=U.step hi;obtain⟨e1,e2⟩:=Mf a2 b2 d;have le:=U.ldle (us.length-2) ⋯ i ⋯;obtain⟨_,_,l0,l1⟩:=U.ldok;have o1:=a2.one;have o2:=b2.one;have d1:=Xz a2 b2
 change val (sI us i).1*_=_ at e1
 change val (sI us i).2*_=_ at e2
 unfold vD at *;generalize val (sI us i).1=T1 at *;generalize val (sI us i).2=T2 at *;generalize gU us i=z at *;generalize gU us (i+1)=y at *;generalize hD:val z.1*val y.1+val z.2*val y.2=D at *;have p:0<1+D:=by grind
 have cc:∀x y:Rat,x*(1+D)=y*(1+D)->x=y:=λx y h=>by
  have:(x-y)*(1+D)=0:=by grind
  rcases Rat.mul_eq_zero.mp this with q|q<;>grind
 have f1:T1*val z.1+T2*val z.2=1:=cc _ _ (by grind);have f2:T1*val y.1+T2*val y.2=1:=cc _ _ (by grind);have q0:0<1/(1+D):=by
  refine bL p ?_;have:1/(1+D)*(1+D)=1:=by grind
  rw[this];grind
 have qe:1/(1+D)*(1+D)=1:=by grind
 have g1:T1*T1+T2*T2=2*(1/(1+D)):=cc _ _ (by grind);have wl:xZ (val (lE us))*(1+val (lE us))=2:=by unfold xZ;grind
 have w0:0<xZ (val (lE us)):=by
  refine bL (show 0<1+val (lE us) by grind) ?_;rw[wl];grind
 generalize xZ (val (lE us))=W at *;generalize val (lE us)=L at *;generalize 1/(1+D)=q at *;have m1:=Rat.mul_nonneg (Rat.le_of_lt w0) (show 0<=1-L by grind);have m2:=Rat.mul_nonneg (Rat.le_of_lt q0) (show 0<=1-D by grind);have m3:2*q<=W:=by
  refine Rat.not_lt.mp λh=>?_;have h1:=Rat.mul_pos (show 0<2*q-W by grind) p;have h2:=Rat.mul_nonneg (Rat.le_of_lt w0) (show 0<=D-L by grind);grind
 exact⟨f1,f2,2*q,q,g1,by grind,m3,by grind,Rat.le_of_lt q0,cc _ _ (by grind),cc _ _ (by grind)⟩
theorem Us.on(U:Us u w us)(hi:i+1<us.length){c1 c2:Rat}(h:RK us i c1 c2):1<=c1*c1+c2*c2/\c1*c1+c2*c2<=xZ (val (lE us))/\1<=xZ (val (lE us))/\
  ∃p q,0<=p/\0<=q/\c1=p*val (gU us i).1+q*val (gU us (i+1)).1/\c2=p*val (gU us i).2+q*val (gU us (i+1)).2:=by
 obtain⟨a1,a2⟩:=U.at_ (i:=i) ⋯;obtain⟨b1,b2⟩:=U.at_ hi;obtain⟨f1,f2,g,q,hg,g1,gw,w1,q0,e1,e2⟩:=U.tip hi;obtain⟨t,t0,t1,h⟩:=h;have tq:=Rat.mul_nonneg t0 q0;obtain⟨h1,h2⟩|⟨h1,h2⟩:=h
 ·obtain⟨s1,s2⟩:=K2 a2.one f1 hg g1 t0 t1;rw[<-h1,<-h2]at s1 s2;refine⟨s1,by grind,w1,(1-t)+t*q,t*q,by grind,tq,?_,?_⟩
  ·rw[h1,e1];grind
  ·rw[h2,e2];grind
 ·obtain⟨s1,s2⟩:=K2 b2.one f2 hg g1 t0 t1;rw[<-h1,<-h2]at s1 s2;refine⟨s1,by grind,w1,t*q,(1-t)+t*q,tq,by grind,?_,?_⟩
  ·rw[h1,e1];grind
  ·rw[h2,e2];grind
theorem Us.wton(U:Us u w us)(hj:j+1<2*us.length-1){t:Rat}(t0:0<=t)(t1:t<=1):
  RK us (j/2) (val (kL us j).1+t*(val (kL us (j+1)).1-val (kL us j).1)) (val (kL us j).2+t*(val (kL us (j+1)).2-val (kL us j).2)):=by
 by_cases c:j%2=0
 ·have e1:kL us j=gU us (j/2):=by unfold kL;rw[oV c]
  have e2:kL us (j+1)=sI us (j/2):=by unfold kL;rw[oW ⋯,show(j+1)/2=j/2 by lia]
  rw[e1,e2];exact⟨t,t0,t1,.inl ⟨rfl,rfl⟩⟩
 ·have e1:kL us j=sI us (j/2):=by unfold kL;rw[oW c]
  have e2:kL us (j+1)=gU us (j/2+1):=by unfold kL;rw[oV ⋯,show(j+1)/2=j/2+1 by lia]
  rw[e1,e2];exact⟨1-t,by grind,by grind,.inr ⟨by grind,by grind⟩⟩
end
def KD(u v:Fr×Fr):Fr×Fr:=(aM (aW u.1 v.1) (1,2),aM (aW u.2 v.2) (1,2))
theorem uY:bC (1,2):=⟨∅,∅⟩
theorem O6:val (1,2)=1/2:=by
 have:=Uh uY;have e:val (1,2)*2=1:=this;grind
theorem Nx(hu:Nv u.1 u.2 230)(hv:Nv v.1 v.2 230):Nv (KD u v).1 (KD u v).2 475/\val (KD u v).1=(val u.1+val v.1)/2/\val (KD u v).2=(val u.2+val v.2)/2:=by
 have n:=qC hu hv;have k:=nE n uY;have s:sz (1,2)=2:=∅
 refine⟨k.up ⋯,?_,?_⟩
 ·show val (aM _ _)=_;rw[aQ n.x uY,bE hu.x hv.x,O6];grind
 ·show val (aM _ _)=_;rw[aQ n.y uY,bE hu.y hv.y,O6];grind
theorem UW(x:Rat):0<=x*x:=by
 rcases Rat.le_total (a:=0) (b:=x)with c|c
 ·exact Rat.mul_nonneg c c
 ·have:=Rat.mul_nonneg (a:=-x) (b:=-x) (by grind) (by grind);grind
theorem Td{x y:Rat}(h:0<=x)(k:x<y):x*x<y*y:=by
 have a:=Rat.mul_nonneg h (show 0<=y-x by grind);have b:=Rat.mul_pos (show 0<y by grind) (show 0<y-x by grind);grind
theorem Vg(ax ay x y m g t:Rat)(o:x*x+y*y=1)(m0:0<m)(t0:0<=t)(t1:t<=1):KA ax ay (ax+x*m) (ay+y*m) (ax+t*(m*x)-y*g) (ay+t*(m*y)+x*g)=g*g:=by
 have mm:=Rat.mul_pos m0 m0;have e1:ax+x*m-ax=x*m:=by grind
 have e2:ay+y*m-ay=y*m:=by grind
 have e3:ax+t*(m*x)-y*g-ax=t*(m*x)-y*g:=by grind
 have e4:ay+t*(m*y)+x*g-ay=t*(m*y)+x*g:=by grind
 unfold KA;rw[e1,e2,e3,e4];have n:x*m*(t*(m*x)-y*g)+y*m*(t*(m*y)+x*g)=t*(m*m):=by
  have:x*m*(t*(m*x)-y*g)+y*m*(t*(m*y)+x*g)=t*(m*m)*(x*x+y*y):=by grind
  rw[this,o];grind
 have d:x*m*(x*m)+y*m*(y*m)=m*m:=by
  have:x*m*(x*m)+y*m*(y*m)=m*m*(x*x+y*y):=by grind
  rw[this,o];grind
 have q:t*(m*m)/(m*m)=t:=by
  have:m*m≠0:=by grind
  grind
 have pr:RA (x*m) (y*m) (t*(m*x)-y*g) (t*(m*y)+x*g)=t:=by
  unfold RA QV;rw[n,d,q,oW (by grind),oW (by grind)]
 rw[pr];unfold UL;have:(t*(m*x)-y*g-x*m*t)*(t*(m*x)-y*g-x*m*t)+(t*(m*y)+x*g-y*m*t)*(t*(m*y)+x*g-y*m*t)=g*g*(x*x+y*y):=by grind
 rw[this,o];grind
def V7(a b:Fr)(ms:List Mv)(bb:Fr)(X Y:Rat):Prop:=∀P:Fr×Fr,val P.1=X->val P.2=Y->kS a b ms P.1 P.2 bb
theorem Vv(h:Pm a b ms)(hi:ms[i]?=oZ (.side x y m))(fw:Fw p)(lt:val p<val bb){t g:Rat}(t0:0<=t)(t1:t<=1)(hg:g=val p\/g = -val p):
  V7 a b ms bb (val (px a b ms i)+t*(val m*val x)-val y*g) (val (py a b ms i)+t*(val m*val y)+val x*g):=by
 rintro P e1 e2;obtain⟨ux,nm,sm,pm,_⟩:=h.ok _ (WI hi);refine .inl ⟨i,_,hi,oY ?_⟩;have n0:=h.nv i;obtain⟨ex,ey⟩:=nF (a:=a) (b:=b) hi;have vx:val (px a b ms (i+1))=val (px a b ms i)+val x*val m:=by
  rw[ex];show val (aW _ (aM x m))=_;rw[bE n0.x (aK ux.nv.x nm),aQ ux.nv.x nm]
 have vy:val (py a b ms (i+1))=val (py a b ms i)+val y*val m:=by
  rw[ey];show val (aW _ (aM y m))=_;rw[bE n0.y (aK ux.nv.y nm),aQ ux.nv.y nm]
 rw[e1,e2,vx,vy,Vg _ _ _ _ _ _ _ ux.one pm t0 t1];have p0:=fw.pos;have:=Td (Rat.le_of_lt p0) lt;obtain rfl|rfl:=hg
 ·exact this
 ·grind
theorem zP(hj:j<=ms.length){c1 c2 W:Rat}(hc:c1*c1+c2*c2<=W)(w1:1<=W)(p0:0<val p)(lt:val p*W<val bb):V7 a b ms bb (val (px a b ms j)+c1*val p) (val (py a b ms j)+c2*val p):=by
 rintro P e1 e2;refine .inr ⟨j,hj,oY ?_⟩;rw[e1,e2];have e:(val (px a b ms j)+c1*val p-val (px a b ms j))*(val (px a b ms j)+c1*val p-val (px a b ms j))+(val (py a b ms j)+c2*val p-val (py a b ms j))*(val (py a b ms j)+c2*val p-val (py a b ms j))=val p*val p*(c1*c1+c2*c2):=by grind
 rw[e];have pp:=Rat.mul_pos p0 p0;have a1:=Rat.mul_nonneg (Rat.le_of_lt pp) (show 0<=W-(c1*c1+c2*c2) by grind);have a2:=Rat.mul_nonneg (Rat.mul_nonneg (Rat.le_of_lt pp) (show 0<=W by grind)) (show 0<=W-1 by grind);have a3:=Td (Rat.mul_nonneg (Rat.le_of_lt p0) (show 0<=W by grind)) lt;grind
theorem Zz{s:Int}(h:Pm a b ms)(hi:ms[i]?=oZ (.arc x y u v r l))(hs:s=1\/s=2\/s=3)(hk:k+1<(dR x y u v l s).length){c1 c2:Rat}(on:RK (dR x y u v l s) k c1 c2){g:Rat}(g0:0<g)(gR:g<=val r+val p)(lo:val r-val bb<g)(up:(val r+val p)*xZ (val (lE (dR x y u v l s)))-val r<val bb):V7 a b ms bb (val (dF a b ms i x y r).1+c1*g) (val (dF a b ms i x y r).2+c2*g):=by
 rintro P e1 e2;obtain⟨o1,o2,ne,nr,sr,r0,_⟩:=h.ok _ (WI hi);refine .inl ⟨i,_,hi,?_⟩;show(Le l x y u v r (val P.1-val (dF a b ms i x y r).1) (val P.2-val (dF a b ms i x y r).2)&&Mz (OA (dF a b ms i x y r) P.1 P.2) (val r) (val bb))=true;have f1:val P.1-val (dF a b ms i x y r).1=c1*g:=by rw[e1];grind
 have f2:val P.2-val (dF a b ms i x y r).2=c2*g:=by rw[e2];grind
 unfold OA;rw[f1,f2,XS];have n1:(u,v)≠(x,y):=λz=>ne ⟨(congrArg Prod.fst z).symm,(congrArg Prod.snd z).symm⟩;have n2:(x,y)≠(u,v):=λz=>ne ⟨congrArg Prod.fst z,congrArg Prod.snd z⟩;obtain⟨U0,W0,B⟩:=yZ (h.ok _ (WI hi)) hs;obtain⟨q1,q2,w1,z1,z2,z1p,z2p,ec1,ec2⟩:=B.U.on hk on;constructor
 ·have m1:=Rat.mul_nonneg z1p (Rat.le_of_lt g0);have m2:=Rat.mul_nonneg z2p (Rat.le_of_lt g0);have h1:c1*g=z1*g*val (gU (dR x y u v l s) k).1+z2*g*val (gU (dR x y u v l s) (k+1)).1:=by rw[ec1];grind
  have h2:c2*g=z1*g*val (gU (dR x y u v l s) k).2+z2*g*val (gU (dR x y u v l s) (k+1)).2:=by rw[ec2];grind
  rw[h1,h2];unfold Le;cases l with
  |true=>exact UB.ray (u:=(x,y)) (w:=(u,v)) o1 o2 n1 hs (gL o1 o2 n1 hs) hk m1 m2 r0
  |false=>exact UB.ray (u:=(u,v)) (w:=(x,y)) o2 o1 n2 hs (gL o2 o1 n2 hs) hk m1 m2 r0
 ·generalize xZ (val (lE (dR x y u v l s)))=W at *;generalize hC:c1*c1+c2*c2=C at *;have sq:c1*g*(c1*g)+c2*g*(c2*g)=g*g*C:=by rw[<-hC];grind
  rw[sq];generalize val r=r' at *;generalize val p=p' at *;generalize val bb=β at *;have gg:=Rat.mul_pos g0 g0;have a1:=Rat.mul_nonneg (Rat.le_of_lt gg) (show 0<=W-C by grind);have a2:=Rat.mul_nonneg (Rat.mul_nonneg (Rat.le_of_lt gg) (show 0<=W by grind)) (show 0<=W-1 by grind);have a4:=Rat.mul_nonneg (show 0<=r'+p'-g by grind) (show 0<=W by grind);have a3:=Td (y:=r'+β) (Rat.mul_nonneg (Rat.le_of_lt g0) (show 0<=W by grind)) (by grind);unfold Mz;rw[oV (by grind),ji]
  by_cases c:r'-β<0
  ·exact .inl (oY c)
  ·have b1:=Td (x:=r'-β) (by grind) lo;have b2:=Rat.mul_nonneg (Rat.le_of_lt gg) (show 0<=C-1 by grind);exact .inr (oY (by grind))
structure Eg(N:Fr×Fr->Prop)(u v:Fr×Fr):Prop where
 one:N u
 two:N v
 m:N (KD u v)
def Wk(N:Fr×Fr->Prop)(t:L2.T):Prop:=∃(wd:Str)(i:Nat)(V:List (Fr×Fr))(mk:Str),t=LH wd i V mk/\1<=V.length/\V.length<=60/\Mk V.length mk/\(∀q∈V,Nv q.1 q.2 230)/\
 ∀k,k<V.length->∀c,(jC mk)[k]?=oZ c->c=108\/c=114\/c=98->Eg N (gU V k) (gU V ((k+1)%V.length))
theorem Us.ray_sq{u w:Fr×Fr}{us:List (Fr×Fr)}(U:Us u w us):1<=xZ (val (lE us))/\∀r∈dZ us,val r.1*val r.1+val r.2*val r.2<=xZ (val (lE us)):=by
 have n2:=U.n2;have w1:=(U.tip (i:=0) ⋯).2.2;obtain⟨_,_,_,_,_,w1,_⟩:=w1;refine⟨w1,λr hr=>?_⟩;obtain rfl|hr:=WM.mp hr
 ·have:=(U.at_ (i:=0) ⋯).2.one;grind
 ·obtain hr|hr:=XF.mp hr
  ·obtain⟨i,hi,rfl⟩:=YI.mp hr;have hi:=ZD.mp hi;obtain⟨_,_,g,q,e,_,gw,_⟩:=U.tip (i:=i) ⋯;rw[e];exact gw
  ·rw[WT.mp hr];have:=(U.at_ (i:=us.length-1) ⋯).2.one;grind
theorem GX(k:Nat):∀x∈jC (eh c (k:Int)),x∈jC c:=by
 intro x hx;unfold eh at hx;split at hx
 ·cases hx
 ·split at hx
  ·exact hx
  ·have e:jC ⟨bc (λx1 x2=>x1++x2) #[] (WN (k:Int).toNat c.cps)⟩=(WN k (jC c)).flatten:=by
    show ig (bc (λx y=>x++y) #[] (WN (k:Int).toNat c.cps))=_;rw[vI,XU];rfl
   rw[e]at hx;obtain⟨l,hl,hx⟩:=List.mem_flatten.mp hx
   rwa [iy hl]at hx
theorem EZ(hc:Mk 1 c)(h:1<=n)(e:(jC (zK c n))[k]?=oZ x):x=45\/(x∈jC c/\1<=k/\k<=n):=by
 have m:=hc.mul n h;have l1:(jC (eh c (n:Int))).length=n:=m.len;have e1:jC (zK c n)=[45]++jC (eh c (n:Int))++[45]:=by
  unfold zK;rw[wV,wV];rfl
 rw[e1]at e;obtain z|z:=XF.mp (WI e)
 ·obtain z|z:=XF.mp z
  ·exact .inl (WT.mp z)
  ·by_cases k0:k=0
   ·subst k0;cases e;exact .inl rfl
   ·by_cases kn:k=n+1
    ·subst kn;rw[XO (by simp;lia)]at e;simp[l1]at e;exact .inl e.symm
    ·have:=(WE.mp e).1;rw[WK,WK,l1]at this;simp only[WY]at this;exact .inr ⟨GX n x z,⋯,⋯⟩
 ·exact .inl (WT.mp z)
theorem Ry{P:Fr×Fr}{rs:List (Fr×Fr)}{k:Nat}(h:k<rs.length):gU (P::rs.map (bp P p)) (k+1)=bp P p (gU rs k)/\gU rs k∈rs:=by
 have e:rs[k]?=oZ (gU rs k):=by unfold gU;rw[XC,WG h];rfl
 refine⟨?_,WI e⟩;unfold gU at e⊢;rw[XC,ZY,WH,e];rfl
theorem Nj(h:Pm a b ms)(fw:Fw p)(hj:j<=ms.length)(U:Us x y us)(hc:Mk 1 c)(ok:(∃d∈jC c,d=108\/d=114\/d=98)->val p*xZ (val (lE us))<val bb)(wd:Str)(i:Nat):
  Wk (λP=>kS a b ms P.1 P.2 bb) (zJ wd i (px a b ms j,py a b ms j) p us c):=by
 obtain⟨n3,n40,nv⟩:=U.rays;have n2:=U.n2;have rl:=Ad (us:=us);have nP:=h.nv j;have sp:=fw.s;obtain⟨w1,sq⟩:=U.ray_sq;have len:((px a b ms j,py a b ms j)::(dZ us).map (bp (px a b ms j,py a b ms j) p)).length=us.length+2:=by rw[XG,WJ];lia
 have nb:∀r∈dZ us,Nv (bp (px a b ms j,py a b ms j) p r).1 (bp (px a b ms j,py a b ms j) p r).2 230:=λr hr=>(Xq (P:=(px a b ms j,py a b ms j)) nP (nv r hr) fw.n sp).up ⋯;refine⟨wd,i,_,_,rfl,⋯,⋯,by rw[len];exact EY hc ⋯,λq hq=>?_,λk hk d hd h3=>?_⟩
 ·obtain rfl|hq:=WM.mp hq
  ·exact nP.up ⋯
  ·obtain⟨r,hr,rfl⟩:=YI.mp hq;exact nb r hr
 ·obtain rfl|⟨hd',k1,k2⟩:=EZ hc ⋯ hd
  ·rcases h3 with h|h|h<;>cases h
  ·have lt:=ok ⟨d,hd',h3⟩;obtain⟨i,rfl⟩:∃i,k=i+1:=⟨k-1,⋯⟩;rw[len,dw (show i+1+1<us.length+2 by lia)];obtain⟨g1,m1⟩:=Ry (P:=(px a b ms j,py a b ms j)) (p:=p) (rs:=dZ us) (k:=i) ⋯;obtain⟨g2,m2⟩:=Ry (P:=(px a b ms j,py a b ms j)) (p:=p) (rs:=dZ us) (k:=i+1) ⋯;rw[g1,g2];have s1:=sq _ m1;have s2:=sq _ m2;have b1:=nb _ m1;have b2:=nb _ m2;obtain⟨v1,v2⟩:=Eu (P:=(px a b ms j,py a b ms j)) nP (nv _ m1) fw.n;obtain⟨v3,v4⟩:=Eu (P:=(px a b ms j,py a b ms j)) nP (nv _ m2) fw.n;obtain⟨_,e1,e2⟩:=Nx b1 b2;refine⟨zP hj s1 w1 fw.pos lt _ v1 v2,zP hj s2 w1 fw.pos lt _ v3 v4,?_⟩;refine zP (c1:=(val (gU (dZ us) i).1+val (gU (dZ us) (i+1)).1)/2) (c2:=(val (gU (dZ us) i).2+val (gU (dZ us) (i+1)).2)/2) hj ?_ w1 fw.pos lt _ (by rw[e1,v1,v3];grind) (by rw[e2,v2,v4];grind);have q1:=UW (val (gU (dZ us) i).1-val (gU (dZ us) (i+1)).1);have q2:=UW (val (gU (dZ us) i).2-val (gU (dZ us) (i+1)).2);grind
theorem vL{X Y X' Y':Rat}(e1:X=X')(e2:Y=Y')(h:V7 a b ms bb X Y):V7 a b ms bb X' Y':=by subst e1;subst e2;exact h
section
variable{a b:Fr}{ms:List Mv}{p bb:Fr}{s:Int}
theorem Dc(hu:Nv u.1 u.2 230)(hv:Nv v.1 v.2 230){x1 y1 x2 y2:Rat}(h1:V7 a b ms bb x1 y1)(h2:V7 a b ms bb x2 y2)(hm:V7 a b ms bb ((x1+x2)/2) ((y1+y2)/2))(e1:val u.1=x1/\val u.2=y1)(e2:val v.1=x2/\val v.2=y2):Eg (λP=>kS a b ms P.1 P.2 bb) u v:=by
 obtain⟨_,m1,m2⟩:=Nx hu hv;exact⟨h1 _ e1.1 e1.2,h2 _ e2.1 e2.2,hm _ (by rw[m1,e1.1,e2.1]) (by rw[m2,e1.2,e2.2])⟩
theorem K8(h:Pm a b ms)(hi:ms[i]?=oZ (.side x y m))(fw:Fw p)(lt:val p<val bb):
  Wk (λP=>kS a b ms P.1 P.2 bb) (Qj i (px a b ms i) (py a b ms i) (px a b ms (i+1)) (py a b ms (i+1)) (aM (aR y) p) (aM x p)):=by
 obtain⟨ux,nm,sm,pm,_⟩:=h.ok _ (WI hi);have n0:=h.nv i;have n1:=h.nv (i+1);have G:=λt g=>Vv (t:=t) (g:=g) h hi fw lt;obtain⟨ex,ey⟩:=nF (a:=a) (b:=b) hi;have vx:val (px a b ms (i+1))=val (px a b ms i)+val x*val m:=by
  rw[ex];show val (aW _ (aM x m))=_;rw[bE n0.x (aK ux.nv.x nm),aQ ux.nv.x nm]
 have vy:val (py a b ms (i+1))=val (py a b ms i)+val y*val m:=by
  rw[ey];show val (aW _ (aM y m))=_;rw[bE n0.y (aK ux.nv.y nm),aQ ux.nv.y nm]
 have nr:=nE ux.left.nv fw.n;have sp:=fw.s;have r1:val (aM (aR y) p) = -(val y*val p):=by rw[aQ (d7 ux.nv.y) fw.n,b7 ux.nv.y];grind
 have r2:val (aM x p)=val x*val p:=aQ ux.nv.x fw.n;generalize px a b ms (i+1)=X at *;generalize py a b ms (i+1)=Y at *;generalize px a b ms i=x0 at *;generalize py a b ms i=y0 at *;generalize aM (aR y) p=rx at *;generalize aM x p=ry at *;have s1:=(iC n0 nr).up (show _<=230 by lia);have s2:=(iC n1 nr).up (show _<=230 by lia);have s3:=(qC n1 nr).up (show _<=230 by lia);have s4:=(qC n0 nr).up (show _<=230 by lia);have v1:=And.intro (aT n0.x nr.x) (aT n0.y nr.y);have v2:=And.intro (aT n1.x nr.x) (aT n1.y nr.y);have v3:=And.intro (bE n1.x nr.x) (bE n1.y nr.y);have v4:=And.intro (bE n0.x nr.x) (bE n0.y nr.y);refine⟨"strip",i,[(aH x0 rx,aH y0 ry),(aH X rx,aH Y ry),(aW X rx,aW Y ry),(aW x0 rx,aW y0 ry)],"r-l-",rfl,by simp,by simp,(show Mk 4 "r-l-" from Mk.of (by decide +kernel)),?_,λk hk d hd h3=>?_⟩
 ·intro q hq;simp only[WM,YF,or_false]at hq;obtain rfl|rfl|rfl|rfl:=hq
  ·exact s1
  ·exact s2
  ·exact s3
  ·exact s4
 ·have hk:k<4:=hk;have:k=0\/k=1\/k=2\/k=3:=⋯
  obtain rfl|rfl|rfl|rfl:=this
  ·refine Dc (u:=(aH x0 rx,aH y0 ry)) (v:=(aH X rx,aH Y ry)) s1 s2 (G 0 _ ∅ ∅ (.inr rfl)) (G 1 _ ∅ ∅ (.inr rfl)) (vL ?_ ?_ (G (1/2) _ (by grind) (by grind) (.inr rfl))) ⟨?_,?_⟩ ⟨?_,?_⟩
   ·grind
   ·grind
   ·rw[v1.1,r1];grind
   ·rw[v1.2,r2];grind
   ·rw[v2.1,r1,vx];grind
   ·rw[v2.2,r2,vy];grind
  ·cases(show oZ (45:Nat)=oZ d from hd);rcases h3 with h|h|h<;>cases h
  ·refine Dc (u:=(aW X rx,aW Y ry)) (v:=(aW x0 rx,aW y0 ry)) s3 s4 (G 1 _ ∅ ∅ (.inl rfl)) (G 0 _ ∅ ∅ (.inl rfl)) (vL ?_ ?_ (G (1/2) _ (by grind) (by grind) (.inl rfl))) ⟨?_,?_⟩ ⟨?_,?_⟩
   ·grind
   ·grind
   ·rw[v3.1,r1,vx];grind
   ·rw[v3.2,r2,vy];grind
   ·rw[v4.1,r1];grind
   ·rw[v4.2,r2];grind
  ·cases(show oZ (45:Nat)=oZ d from hd);rcases h3 with h|h|h<;>cases h
theorem JF(w l:Bool)(k j:Nat):Mk (if w=true then 3 else 4) (lF w l k j):=by
 unfold lF;cases w with
 |true=>
  rw[show xV true k j=0 from rfl];cases l<;>exact Mk.of (by decide +kernel)
 |false=>
  have:xV false k j=1\/xV false k j=2\/xV false k j=3:=by unfold xV;rw[oW ∅];grind
  rcases this with e|e|e<;>rw[e]<;>cases l<;>exact Mk.of (by decide +kernel)
theorem Zf(nr:bC r)(sr:sz r<=4)(fw:Fw p)(nl:bC ls)(sl:sz ls<=61):sz (sN r p ls)<=84:=by
 have sp:=fw.s;have n1:=cF nr fw.n;have n2:=cE (aI 1) nl;have t0:((2,1):Fr).1≠0:=∅
 have s1:=gK nr fw.n;have s2:=dX (aI 1) nl;have s3:=kI (q:=(2,1)) n2 t0;have o:=Cc;have st:sz ((2,1):Fr)=2:=∅
 have s4:=bJ n1 (eO n2 t0);unfold sN
 split
 ·decide
 ·lia
theorem JL(h:Pm a b ms)(hi:ms[i]?=oZ (.arc x y u v r l))(hs:s=1\/s=2\/s=3)(fw:Fw p)(lp:val p<val bb)(up:(val r+val p)*xZ (val (lE (dR x y u v l s)))-val r<val bb)(lo:val p<val r->val r-(val r-val p)*((1+val (lE (dR x y u v l s)))/2)<val bb)(hj:j<2*(dR x y u v l s).length-2):
  Wk (λP=>kS a b ms P.1 P.2 bb) (Qh i (dF a b ms i x y r) (aW r p) (sN r p (lE (dR x y u v l s))) (dR x y u v l s) l j):=by
 have ok:=h.ok _ (WI hi);obtain⟨nr,sr,r0⟩:bC r/\sz r<=4/\0<val r:=ok.len;obtain⟨U0,W0,B⟩:=yZ ok hs;have U:=B.U;have N:=λk c1 c2 hk on g=>Zz (p:=p) (bb:=bb) (k:=k) (c1:=c1) (c2:=c2) (g:=g) h hi hs hk on;generalize dR x y u v l s=us at *;obtain⟨d1,d2,d3,d4⟩:=U.ldok;have oc:=(iP h.chain (gJ ms a b _ _ hi));have nM:Nv (dF a b ms i x y r).1 (dF a b ms i x y r).2 14:=oc.1;have sp:=fw.s;have p0:=fw.pos;obtain⟨nz,_,z0,zv⟩:=Nq nr sr fw d1 ⋯ d3;have sz':=Zf nr sr fw d1 d2;have nR:=cE nr fw.n;have sR:sz (aW r p)<=84:=by have:=dX nr fw.n;lia
 have vR:val (aW r p)=val r+val p:=bE nr fw.n;have na:=U.wt (j:=j) ⋯;have nb:=U.wt (j:=j+1) ⋯;have wn:=λt t0 t1=>U.wton (j:=j) (t:=t) ⋯ t0 t1;generalize lE us=ld at *;generalize hz:sN r p ld=z at *;generalize aW r p=R at *;generalize dF a b ms i x y r=M at *;unfold Qh;generalize kL us j=A at *;generalize kL us (j+1)=C at *;have G:∀t g:Rat,0<=t->t<=1->0<g->g<=val R->val r-val bb<g->V7 a b ms bb (val M.1+(val A.1+t*(val C.1-val A.1))*g) (val M.2+(val A.2+t*(val C.2-val A.2))*g):=λt g t0 t1 g0 gR lo'=>
  N (j/2) _ _ ⋯ (wn t t0 t1) g g0 (by rw[<-vR];exact gR) lo' up
 have qa:∀{g:Fr},bC g->sz g<=84->Nv (bp M g A).1 (bp M g A).2 230/\(val (bp M g A).1=val M.1+(val A.1+0*(val C.1-val A.1))*val g/\val (bp M g A).2=val M.2+(val A.2+0*(val C.2-val A.2))*val g):=λ{g}n s=>by
  obtain⟨e1,e2⟩:=Eu nM na n;exact⟨(Xq nM na n s).up ⋯,by rw[e1];grind,by rw[e2];grind⟩
 have qc:∀{g:Fr},bC g->sz g<=84->Nv (bp M g C).1 (bp M g C).2 230/\(val (bp M g C).1=val M.1+(val A.1+1*(val C.1-val A.1))*val g/\val (bp M g C).2=val M.2+(val A.2+1*(val C.2-val A.2))*val g):=λ{g}n s=>by
  obtain⟨e1,e2⟩:=Eu nM nb n;exact⟨(Xq nM nb n s).up ⋯,by rw[e1];grind,by rw[e2];grind⟩
 obtain⟨nRA,vRA⟩:=qa nR sR;obtain⟨nRC,vRC⟩:=qc nR sR;have R0:0<val R:=by rw[vR];grind
 have Rlo:val r-val bb<val R:=by rw[vR];grind
 have h2:(0:Rat)<=1/2/\(1/2:Rat)<=1:=by constructor<;>grind
 have E1:Eg (λP=>kS a b ms P.1 P.2 bb) (bp M R A) (bp M R C):=by
  refine Dc nRA nRC (G 0 _ ∅ ∅ R0 Rat.le_refl Rlo) (G 1 _ ∅ ∅ R0 Rat.le_refl Rlo) (vL ?_ ?_ (G (1/2) _ h2.1 h2.2 R0 Rat.le_refl Rlo)) vRA vRC<;>grind
 have rm:=JF (decide (z=(0,1))) l (2*us.length-2) j;unfold K1
 by_cases c:z=(0,1)
 ·rw[oV c];rw[oY c]at rm⊢;refine⟨_,_,_,_,rfl,by simp,by simp,rm,?_,λk hk d hd h3=>?_⟩
  ·intro q hq;simp only[WM,YF,or_false]at hq;obtain rfl|rfl|rfl:=hq
   ·exact nM.up ⋯
   ·exact nRA
   ·exact nRC
  ·have hk:k<3:=hk;have e:lF true l (2*us.length-2) j=NP 0 l:=rfl;rw[e]at hd;have:k=0\/k=1\/k=2:=⋯
   obtain rfl|rfl|rfl:=this
   ·have:d=45:=by cases l<;>cases hd<;>rfl
    subst this;rcases h3 with h|h|h<;>cases h
   ·exact E1
   ·have:d=45:=by cases l<;>cases hd<;>rfl
    subst this;rcases h3 with h|h|h<;>cases h
 ·rw[oW c];rw[oX c]at rm⊢;have lr:val p<val r:=by
   have:¬val r<=val p:=λq=>c (z0.2 q);grind
  have zv:=zv lr;have lo:=lo lr;obtain⟨nzA,vzA⟩:=qa nz sz';obtain⟨nzC,vzC⟩:=qc nz sz';have aDO:0<val z:=by rw[zv];exact Rat.mul_pos (by grind) (by grind)
  have zR:val z<=val R:=by
   have:=Rat.mul_nonneg (show 0<=val r-val p by grind) (show 0<=1-(1+val ld)/2 by grind);rw[zv,vR];grind
  have zlo:val r-val bb<val z:=by rw[zv];grind
  have E3:Eg (λP=>kS a b ms P.1 P.2 bb) (bp M z C) (bp M z A):=by
   refine Dc nzC nzA (G 1 _ ∅ ∅ aDO zR zlo) (G 0 _ ∅ ∅ aDO zR zlo) (vL ?_ ?_ (G (1/2) _ h2.1 h2.2 aDO zR zlo)) vzC vzA<;>grind
  have mp:0<(val z+val R)/2/\(val z+val R)/2<=val R/\val r-val bb<(val z+val R)/2:=⟨by grind,by grind,by grind⟩;have E0:Eg (λP=>kS a b ms P.1 P.2 bb) (bp M z A) (bp M R A):=by
   refine Dc nzA nRA (G 0 _ ∅ ∅ aDO zR zlo) (G 0 _ ∅ ∅ R0 Rat.le_refl Rlo) (vL ?_ ?_ (G 0 _ ∅ ∅ mp.1 mp.2.1 mp.2.2)) vzA vRA<;>grind
  have E2:Eg (λP=>kS a b ms P.1 P.2 bb) (bp M R C) (bp M z C):=by
   refine Dc nRC nzC (G 1 _ ∅ ∅ R0 Rat.le_refl Rlo) (G 1 _ ∅ ∅ aDO zR zlo) (vL ?_ ?_ (G 1 _ ∅ ∅ mp.1 mp.2.1 mp.2.2)) vRC vzC<;>grind
  refine⟨_,_,_,_,rfl,by simp,by simp,rm,?_,λk hk d hd h3=>?_⟩
  ·intro q hq;simp only[WM,YF,or_false]at hq;obtain rfl|rfl|rfl|rfl:=hq
   ·exact nzA
   ·exact nRA
   ·exact nRC
   ·exact nzC
  ·have hk:k<4:=hk;have:k=0\/k=1\/k=2\/k=3:=⋯
   obtain rfl|rfl|rfl|rfl:=this
   ·exact E0
   ·exact E1
   ·exact E2
   ·simp only[XG,ff];exact E3
def Qw(a b:Fr)(ms:List Mv)(p:Fr)(s:Int)(x:Rat):Prop:=
 x=val p\/(∃k,k<ms.length/\fst a b (bP a b ms)<=k/\uO ms k≠"straight"/\x=val p*xZ (val (lE (pB (eU (gM ms (cH k ms.length))) (bU (gM ms k)) s))))\/
  ∃(i:Nat)(c d u v r:Fr)(l:Bool),ms[i]?=oZ (.arc c d u v r l)/\(x=(val r+val p)*xZ (val (lE (dR c d u v l s)))-val r\/(val p<val r/\x=val r-(val r-val p)*((1+val (lE (dR c d u v l s)))/2)))
theorem Yj{u w:Fr×Fr}(ue:cD u.1 u.2 4)(ub:cD w.1 w.2 4)(ns:b9 u w≠"straight")(hs:s=1\/s=2\/s=3):∃x y,UB x y s (pB u w s):=by
 obtain⟨r1,l1⟩:=sE ue;obtain⟨r2,l2⟩:=sE ub;refine vG (s:=s) ue ub (λ_ c=>absurd c ns) (λc n e=>?_) (λc n e=>?_) (λc n e=>?_)<;>rw[e]
 ·exact⟨_,_,gL r1 r2 n hs⟩
 ·exact⟨_,_,gL l2 l1 n hs⟩
 ·exact⟨_,_,gL r1 l1 n hs⟩
theorem Pm.ue(h:Pm a b ms)(hk:k<ms.length):cD (eU (gM ms k)).1 (eU (gM ms k)).2 4/\cD (bU (gM ms k)).1 (bU (gM ms k)).2 4:=
 ⟨(h.ok _ (WI (iU hk))).eu,(h.ok _ (WI (iU hk))).bu⟩
theorem EI(h:Pm a b ms)(fw:Fw p)(hs:s=1\/s=2\/s=3)(ab:∀x,Qw a b ms p s x->x<val bb):∀t∈Je a b ms p s,Wk (λP=>kS a b ms P.1 P.2 bb) t:=by
 have l1:=ZG.mpr h.ne;have lp:=ab _ (.inl rfl);have piece:∀i,i<ms.length->∀t∈j0 a b ms p s i,Wk (λP=>kS a b ms P.1 P.2 bb) t:=λi hi t ht=>by
  have hm:=iU hi;unfold j0 at ht;cases e:gM ms i with
  |side x y m=>
   rw[e]at ht hm;cases WT.mp ht;exact K8 h hm fw lp
  |arc x y u v r l=>
   rw[e]at ht hm;obtain⟨j,hj,rfl⟩:=YI.mp ht;exact JL h hm hs fw lp (ab _ (.inr (.inr ⟨i,_,_,_,_,_,_,hm,.inl rfl⟩))) (λlr=>ab _ (.inr (.inr ⟨i,_,_,_,_,_,_,hm,.inr ⟨lr,rfl⟩⟩))) (ZD.mp hj)
 have aJ0:∀k,k<ms.length->∀t∈r6 a b ms p s k,Wk (λP=>kS a b ms P.1 P.2 bb) t:=λk hk t ht=>by
  unfold r6 at ht;split at ht
  ·rename_i c;cases WT.mp ht;obtain⟨x,y,B⟩:=Yj (s:=s) (h.ue (pL hk)).1 (h.ue hk).2 c.2 hs;have mc:Mk 1 (Vj (uO ms k)):=by
    unfold Vj
    split
    ·exact Mk.of (by decide +kernel)
    ·split<;>exact Mk.of (by decide +kernel)
   exact Nj h fw (YA hk) B.U mc (λ_=>ab _ (.inr (.inl ⟨k,hk,c.1,c.2,rfl⟩))) _ _
  ·cases ht
 have told:∀j,j<=ms.length->∀t∈lR a b ms p s j,Wk (λP=>kS a b ms P.1 P.2 bb) t:=λj=>by
  induction j with
  |zero=>intro _ t ht;cases ht
  |succ j ih=>
   intro hj t ht;obtain ht|ht:=XF.mp ht
   ·obtain ht|ht:=XF.mp ht
    ·exact ih ⋯ t ht
    ·exact piece j ⋯ t ht
   ·exact aJ0 _ (aj _ l1) t ht
 have ce:¬∃d∈jC "e",d=108\/d=114\/d=98:=λzZ=>by
  obtain⟨d,hd,h3⟩:=zZ;cases WT.mp (show d∈[101]from hd);rcases h3 with h|h|h<;>cases h
 have me:Mk 1 "e":=Mk.of (by decide +kernel);intro t ht;unfold Je at ht;split at ht
 ·exact told _ (WO _) t ht
 ·obtain ht|ht:=XF.mp ht
  ·obtain ht|ht:=XF.mp ht
   ·cases WT.mp ht;obtain⟨r1,l1'⟩:=sE (h.ue l1).2;exact Nj h fw (WS _) (gL l1' r1 (λz=>Af (h.ue l1).2 z.symm) hs).U me (λz=>absurd z ce) _ _
   ·exact told _ (WO _) t ht
  ·cases WT.mp ht;have l2:ms.length-1<ms.length:=⋯
   obtain⟨r1,l1'⟩:=sE (h.ue l2).1;exact Nj h fw (WO _) (gL r1 l1' (Af (h.ue l2).1) hs).U me (λz=>absurd z ce) _ _
end
def PD:dG:=λas Q=>∃(x d:Fr),as=[.v (fr x),.v (fr d)]/\bC x/\sz x<=100/\bC d/\sz d<=61/\0<=val d/\∀w,bC w->sz w<=300->val w=val x*xZ (val d)->Q (.v (fr w)) []
abbrev sL(P w K mg base):=(~~~Fn) 4 "widened" ["one","least"] (aJ K PD)
abbrev wO:ki:=top 69
theorem Qg:aF ["one","least"] ["one","least"] (aC wO):=dH
theorem Pd(F:cK K "widened" "widened" wO f fd)(TX:Txt mg)(vq: ~~~mY)(tf: ~~~fA)(tu: ~~~eJ)(wo:kO mg K "ONE_blocks" (.tup [.int 1,.int 1]))(aBI:kO mg K "TWO" (.tup [.int 2,.int 1])):(~~~aV) cM 4 f fd ["one","least"] (aJ K PD):=by
 refine F.okU Qg (λhr=>(aE (aG (fK vq (f2 (fK tf (f2 (fv 0) (fZ rfl aBI))) (fK tu (f2 (fZ rfl wo) (fv 1)))))))) ?_;rintro as Q ⟨x,d,rfl,nx,sx,nd,sd,d0,q⟩;have nt:bC ((2,1):Fr):=aI 2;have st:sz ((2,1):Fr)=2:=∅
 have o:=Cc;have n1:=aK nx nt;have n2:=cE (aI 1) nd;have s1:=bJ nx nt;have s2:=dX (aI 1) nd;have v2:val (aW (1,1) d)=1+val d:=by rw[bE (aI 1) nd,fT]
 have n0:(aW (1,1) d).1≠0:=by have:=(fW n2).1 (by rw[v2];grind);lia
 have s3:=kI (q:=aW (1,1) d) n1 n0;refine⟨x,(2,1),rfl,nx,nt,⋯,?_⟩;refine⟨(1,1),d,rfl,aI 1,nd,⋯,?_⟩;refine⟨_,_,rfl,n1,n2,n0,⋯,rfl,q _ (eO n1 n0) ⋯ ?_⟩;rw[i7 n1 n2 n0,aQ nx nt,v2,show val (2,1)=2 from eV 2];unfold xZ;grind
def Xm(a b:Fr)(ms:List Mv)(p:Fr)(s:Int)(L:List Fr):Prop:=∀x∈L,bC x/\sz x<=310/\Qw a b ms p s (val x)
theorem Gk:∀L:List Fr,bX (L.map fr)=true
 |[]=>rfl
 |x::L=>by show(true&&bX (L.map fr))=true;rw[Gk L];rfl
def CP:dG:=λas Q=>∃(a b:Fr)(ms:List Mv)(i:Nat)(x y u v r:Fr)(l:Bool)(p:Fr)(s:Int),as=[.v (bZ a b (bP a b ms)),.v (.int (i:Int)),.v (fr p),.v (.int s)]/\Pm a b ms/\ms[i]?=oZ (.arc x y u v r l)/\Fw p/\(s=1\/s=2\/s=3)/\
 ∀L:List Fr,L.length<=2->Xm a b ms p s L->(∃z∈L,val z=(val r+val p)*xZ (val (lE (dR x y u v l s)))-val r)->(val p<val r->∃z∈L,val z=val r-(val r-val p)*((1+val (lE (dR x y u v l s)))/2))->Q (.l (L.map fr)) []
abbrev xA(P w K mg base):=(~~~Fn) 9 "arc_offs" oJ (aJ K CP)
abbrev tD:ki:=top 70
theorem jU:aF ["path","number","far","steps","radius","least","offs","inner"] oJ (aC tD):=dH
theorem Ko(F:cK K "arc_offs" "arc_offs" tD f fd)(TX:Txt mg)(vm: ~~~kE)(xh: ~~~mS)(vo: ~~~kC)(um: ~~~jR)(xw: ~~~sL)(tu: ~~~eJ)(xl: ~~~pG)(wz:kO mg K "NOUGHT" (.tup [.int 0,.int 1])):(~~~aV) cM 9 f fd oJ (aJ K CP):=by
 refine F.okU jU (λhr=>(aB (fS 4 jU.nd (fK vm (f2 (fv 0) (fv 1)))) (aB (fS 5 jU.nd (fK vo (f1 (fK xh (f3 (fv 0) (fv 1) (fv 3)))))) (aB (fS 6 jU.nd (cN (f1 (fK um (f2 (fK xw (f2 (fK tu (f2 (fv 4) (fv 2))) (fv 5))) (fv 4)))))) (aB (fS 7 jU.nd (fK xl (f3 (fv 4) (fv 2) (fv 5)))) (aB (bN (sC rfl hr (fv 7) (fZ rfl wz) (a9 _)) (aE (eH (dP rfl (fv 6) (f1 (fK um (f2 (fv 4) (fv 7))))))) a8) (aE (aG (fv 6))))))))) ?_;rintro as Q ⟨a,b,ms,i,x,y,u,v,r,l,p,s,rfl,h,hi,fw,hs,q⟩;have pa:=h.at_ hi;have ok:=h.ok _ (WI hi);obtain⟨nr,sr,r0⟩:bC r/\sz r<=4/\0<val r:=ok.len;have sp:=fw.s;have p0:=fw.pos;have OF:∀x,(_\/_)->Qw a b ms p s x:=λx z=>.inr (.inr ⟨i,_,_,_,_,_,_,hi,z⟩);refine⟨a,b,_,i,_,_,rfl,pa,?_⟩;refine⟨a,b,ms,i,x,y,u,v,r,l,s,rfl,h,hi,hs,?_⟩;obtain⟨U0,W0,B⟩:=yZ ok hs;have U:=B.U;have lu:((dR x y u v l s).map aX).length=(dR x y u v l s).length:=WJ ..;have n2:=U.n2;have n30:=U.n30;obtain⟨uv,_⟩:=U.inn;obtain⟨d1,d2,d3,d4⟩:=U.ldok;refine⟨(dR x y u v l s).map aX,rfl,⋯,⋯,uv,?_⟩;rw[lu]
 change sz (lE (dR x y u v l s))<=61 at d2
 have e:rE ((dR x y u v l s).map aX) ((dR x y u v l s).length-2)=lE (dR x y u v l s):=rfl;rw[e];generalize lE (dR x y u v l s)=ld at *;have nR:=cE nr fw.n;have sR:=dX nr fw.n;have vR:val (aW r p)=val r+val p:=bE nr fw.n;refine⟨r,p,rfl,nr,fw.n,⋯,?_⟩;refine⟨_,ld,rfl,nR,⋯,d1,d2,d3,λw nw sw vw=>?_⟩;refine⟨w,r,rfl,nw,nr,⋯,?_⟩;obtain⟨nz,_,z0,zv⟩:=Nq nr sr fw d1 ⋯ d3;have sz':=Zf nr sr fw d1 d2;have n1:=cF nw nr;have s1:=gK nw nr;have v1:=aT nw nr;rw[vw,vR]at v1;have k1:bC (aH w r)/\sz (aH w r)<=310/\Qw a b ms p s (val (aH w r)):=⟨n1,⋯,OF _ (.inl v1)⟩;refine⟨r,p,ld,rfl,nr,sr,fw,d1,⋯,?_⟩;generalize sN r p ld=z at *;refine⟨cY rfl,?_⟩;show if(!L2.d6 (fr z) (fr (0,1)))=true then _ else _;rw[Jt]
 by_cases c:z=(0,1)
 ·have rp:=z0.1 c;rw[oY c,oW ∅];exact⟨Gk [_],q [_] (by simp) (λx hx=>by rw[WT.mp hx];exact k1) ⟨_,ZE _,v1⟩ (λlr=>by grind)⟩
 ·have lr:val p<val r:=by
   have:¬val r<=val p:=λq=>c (z0.2 q);grind
  have zv:=zv lr;rw[oX c,oV ∅];have n2:=cF nr nz;have s2:=gK nr nz;have v2:=aT nr nz;rw[zv]at v2;have k2:bC (aH r z)/\sz (aH r z)<=310/\Qw a b ms p s (val (aH r z)):=⟨n2,⋯,OF _ (.inr ⟨lr,v2⟩)⟩;refine⟨r,z,rfl,nr,nz,⋯,?_⟩;refine⟨cY rfl,?_⟩;refine⟨Gk [_,_],q [_,_] (by simp) (λx hx=>?_) ⟨_,WW ..,v1⟩ (λ_=>⟨_,WQ _ (ZE _),v2⟩)⟩;obtain rfl|hx:=WM.mp hx
  ·exact k1
  ·rw[WT.mp hx];exact k2
structure JY(a b:Fr)(ms:List Mv)(p:Fr)(s:Int)(T:Fr):Prop where
 n:bC T
 z:sz T<=310
 of:Qw a b ms p s (val T)
 up:∀x,Qw a b ms p s x->x<=val T
theorem JY.uniq{a b:Fr}{ms:List Mv}{p:Fr}{s:Int}{T U:Fr}(h:JY a b ms p s T)(k:JY a b ms p s U):T=U:=
 bM h.n k.n (by have:=h.up _ k.of;have:=k.up _ h.of;grind)
structure Mx(a b:Fr)(ms:List Mv)(p:Fr)(s:Int)(L:List Fr)(T:Fr):Prop where
 n:bC T
 z:sz T<=310
 of:Qw a b ms p s (val T)
 ge:val p<=val T
 up:∀x∈L,val x<=val T
theorem Cp:k∈pM a b ms↔fst a b (bP a b ms)<=k/\k<ms.length/\uO ms k≠"straight":=by
 unfold pM;rw[br,YI,decide_eq_true_iff];constructor
 ·rintro⟨⟨j,hj,rfl⟩,h⟩;have:=ZD.mp hj;exact⟨⋯,⋯,h⟩
 ·rintro⟨h1,h2,h3⟩;exact⟨⟨k-fst a b (bP a b ms),ZD.mpr ⋯,⋯⟩,h3⟩
noncomputable def pA (ms:List Mv) (p:Fr) (s:Int) (k:Nat):Rat:=val p*xZ (val (lE (pB (eU (gM ms (cH k ms.length))) (bU (gM ms k)) s)))
def rP(ms:List Mv)(p:Fr)(s:Int)(L:List Fr)(i:Nat):Prop:=∀x y u v r l,ms[i]?=oZ (.arc x y u v r l)->(∃z∈L,val z=(val r+val p)*xZ (val (lE (dR x y u v l s)))-val r)/\
 (val p<val r->∃z∈L,val z=val r-(val r-val p)*((1+val (lE (dR x y u v l s)))/2))
theorem rP.more{s:Int}(h:rP ms p s L i):rP ms p s (L++M) i:=λx y u v r l e=>by
 obtain⟨⟨z,hz,ez⟩,h2⟩:=h _ _ _ _ _ _ e;refine⟨⟨z,YL _ hz,ez⟩,λlr=>?_⟩;obtain⟨w,hw,ew⟩:=h2 lr;exact⟨w,YL _ hw,ew⟩
theorem Mx.next{s:Int}{L:List Fr}(m:Mx a b ms p s (L.take i) M)(hx:L[i]?=oZ x)(h1:val M<=val N)(h2:val x<=val N):∀z∈L.take (i+1),val z<=val N:=λz hz=>by
 rw[ZF,hx,ao]at hz;obtain hz|hz:=XF.mp hz
 ·have:=m.up z hz;grind
 ·rw[WT.mp hz];exact h2
theorem Mx.top{s:Int}(m:Mx a b ms p s L M)(hb:∀k,fst a b (bP a b ms)<=k->k<ms.length->uO ms k≠"straight"->∃z∈L,val z=pA ms p s k)(hc:∀j,j<ms.length->rP ms p s L j):JY a b ms p s M:=
 ⟨m.n,m.z,m.of,λy hy=>by
  obtain rfl|⟨k,kl,kf,ns,rfl⟩|⟨i,x,y',u,v,r,l,hi,hy⟩:=hy
  ·exact m.ge
  ·obtain⟨z,hz,ez⟩:=hb k kf kl ns;have:=m.up z hz;rw[ez]at this;exact this
  ·obtain⟨⟨z,hz,ez⟩,h2⟩:=hc i (WE.mp hi).1 _ _ _ _ _ _ hi;obtain rfl|⟨lr,rfl⟩:=hy
   ·rw[<-ez];exact m.up z hz
   ·obtain⟨z,hz,ez⟩:=h2 lr;rw[<-ez];exact m.up z hz⟩
def DC:dG:=λas Q=>∃(a b:Fr)(ms:List Mv)(p:Fr)(s:Int),as=[.v (bZ a b (bP a b ms)),.v (fr p),.v (.int s)]/\Pm a b ms/\Fw p/\(s=1\/s=2\/s=3)/\∀T,JY a b ms p s T->Q (.v (fr T)) []
abbrev xB(P w K mg base):=(~~~Fn) 13 "most_off" ["path","far","steps"] (aJ K DC)
abbrev tJ:ki:=top 71
theorem dW:aF ["path","far","steps","offs","most","off","number","word","piece"] ["path","far","steps"] (aC tJ):=dH
theorem Kv(F:cK K "most_off" "most_off" tJ f fd)(TX:Txt mg)(zc: ~~~yK)(xw: ~~~sL)(vo: ~~~kC)(xg: ~~~mT)(uf: ~~~h9)(zk: ~~~xA)(sv: ~~~dQ):(~~~aV) cM 13 f fd ["path","far","steps"] (aJ K DC):=by
 refine F.okU dW (λhr=>(aB (fS 3 dW.nd (cN cB)) (aB (eI PassesOwn.never rfl (Ys zc hr ⋯ rfl (f1 (fv 0))) (dA (n:=2) rfl rfl (aP (fG 6 dW.nd) (aP (fG 7 dW.nd) cJ))) (aE (eH (dP rfl (fv 3) (f1 (fK xw (f2 (fv 1) (fK vo (f1 (fK xg (f4 (fv 0) (fv 6) (fv 7) (fv 2)))))))))))) (aB (eI PassesOwn.never rfl (Yr rfl rfl TX.n_enumerate (f1 (fQ 0))) (dA (n:=2) rfl rfl (aP (fG 6 dW.nd) (aP (fG 8 dW.nd) cJ))) (aE (bN (Nm (iB (fK uf (f1 (fv 8))))) (aE (eH (rD rfl (fv 3) (f1 (fK zk (f4 (fv 0) (fv 6) (fv 1) (fv 2))))))) a8))) (aB (fS 4 dW.nd (fv 1)) (aB (eI PassesOwn.never rfl (eF rfl (fv 3)) (fG 5 dW.nd) (aE (bN (fP qD (fK sv (f2 (fv 5) (fv 4))) aA) (aE (fS 4 dW.nd (fv 5))) a8))) (aE (aG (fv 4))))))))) ?_;rintro as Q ⟨a,b,ms,p,s,rfl,h,fw,hs,q⟩;refine⟨a,b,ms,rfl,h,λso hk ek=>?_⟩;have l12:=h.len;have bl:(pM a b ms).length<=12:=by
  unfold pM;refine XR (List.length_filter_le ..) ?_;rw[WJ,gv];lia
 refine⟨(pM a b ms).map λk=>(((k:Nat):Int),uO ms k),ek,?_⟩;show xS _ (fJ _ _ _ _);refine cA (λi E=>∃(L:List Fr)(v4 v5 v6 v7 v8:Option L2.U),E=[⇑(bZ a b (bP a b ms)),⇑(fr p),↑s,↥(L.map fr),v4,v5,v6,v7,v8]/\L.length<=i/\Xm a b ms p s L/\∀j k,j<i->(pM a b ms)[j]?=oZ k->∃z∈L,val z=pA ms p s k) ⟨[],none,none,none,none,none,rfl,by simp,(λx hx=>by cases hx),λj k hj=>⋯⟩ ?_ ?_
 ·rintro i t rest E hi ⟨L,v4,v5,v6,v7,v8,rfl,hl,ho,hc⟩ KK;rw[WH,WH]at hi;obtain⟨y,hy,rfl⟩:=XE.mp hi;obtain⟨k,hk',rfl⟩:=XE.mp hy;have il:=(WE.mp hk').1;obtain⟨kf,kl,ns⟩:=Cp.mp (WI hk');refine⟨a,b,ms,k,_,_,s,rfl,h,iU kl,iU (pL kl),ns,hs,λx y U=>?_⟩;have of1:Qw a b ms p s (pA ms p s k):=.inr (.inl ⟨k,kl,kf,ns,rfl⟩);have zl:∀L':List Fr,(∃z∈L',val z=pA ms p s k)->∀j k',j<i+1->(pM a b ms)[j]?=oZ k'->∃z∈L++L',val z=pA ms p s k':=λL' zZ j k' hj hk2=>by
   obtain⟨z,hz,ez⟩:=zZ;obtain c|c:=XQ j i
   ·obtain⟨w,hw,ew⟩:=hc j k' c hk2;exact⟨w,YL _ hw,ew⟩
   ·have:j=i:=⋯
    subst this;rw[hk']at hk2;cases hk2;exact⟨z,XA _ hz,ez⟩
  have n2:=U.n2;have n30:=U.n30;obtain⟨uv,_⟩:=U.inn;obtain⟨d1,d2,d3,d4⟩:=U.ldok;have efo:pA ms p s k=val p*xZ (val (lE (pB (eU (gM ms (cH k ms.length))) (bU (gM ms k)) s))):=rfl;generalize pA ms p s k=fo at *;generalize pB (eU (gM ms (cH k ms.length))) (bU (gM ms k)) s=us at *;have lu:(us.map aX).length=us.length:=WJ ..;refine⟨us.map aX,rfl,⋯,⋯,uv,?_⟩;rw[lu];have sp:=fw.s;refine⟨p,_,rfl,fw.n,⋯,d1,d2,d3,λw nw sw vw=>?_⟩;rw[<-efo]at vw;refine⟨by show(L.map fr++[fr w]).length<=9000;rw[WK,WJ,WY];lia,?_⟩;refine KK _ ⟨L++[w],v4,v5,↑(k:Int),⇑(.str (uO ms k)),v8,?_,by rw[WK,WY];lia,λx hx=>?_,zl [w] ⟨w,ZE _,vw⟩⟩
  ·rw[WU];rfl
  ·obtain hx|hx:=XF.mp hx
   ·exact ho x hx
   ·rw[WT.mp hx,vw];exact⟨nw,⋯,of1⟩
 ·rintro E ⟨L0,v4,v5,v6,v7,v8,rfl,hl0,ho0,hc0⟩;have lb:(((pM a b ms).map λk=>(((k:Nat):Int),uO ms k)).map KG).length=(pM a b ms).length:=by rw[WJ,WJ]
  rw[lb]at hl0 hc0;show xS _ (fJ _ _ _ _);refine cA (λi E=>∃(L:List Fr)(v4 v5 v6 v7 v8:Option L2.U),E=[⇑(bZ a b (bP a b ms)),⇑(fr p),↑s,↥(L.map fr),v4,v5,v6,v7,v8]/\L.length<=12+2*i/\Xm a b ms p s L/\(∀k∈pM a b ms,∃z∈L,val z=pA ms p s k)/\∀j,j<i->rP ms p s L j) ⟨L0,v4,v5,v6,v7,v8,rfl,⋯,ho0,λk hk=>?_,λj hj=>⋯⟩ ?_ ?_
  ·obtain⟨j,hj,e⟩:=List.getElem_of_mem hk;exact hc0 j k hj (by rw[WG hj,e])
  ·rintro i t rest E hi ⟨L,v4,v5,v6,v7,v8,rfl,hl,ho,hb,hc⟩ KK;obtain⟨y,hy,rfl⟩:=Rm hi;rw[WH]at hy;obtain⟨pc,hp,rfl⟩:=XE.mp hy;have il:i<ms.length:=by have:=(WE.mp hp).1;rwa [dS]at this
   have hm:=iU il;have hp':=gJ ms a b _ _ hm;rw[hp]at hp';cases hp';refine⟨_,rfl,?_⟩;have zl:∀M:List Fr,rP ms p s (L++M) i->∀j,j<i+1->rP ms p s (L++M) j:=λM z j hj=>by
    obtain c|c:=XQ j i
    ·exact(hc j c).more
    ·have:j=i:=⋯
     subst this;exact z
   cases e:gM ms i with
   |side x y m=>
    rw[e]at hm;refine KK _ ⟨L,v4,v5,↑(i:Int),v7,⇑(g9 (mM (px a b ms i) (py a b ms i) (.side x y m))),rfl,⋯,ho,hb,?_⟩;have:=zl [] (λ_ _ _ _ _ _ z=>by rw[hm]at z;cases z)
    rwa [XW]at this
   |arc x y u v r l=>
    rw[e]at hm;refine⟨a,b,ms,i,x,y,u,v,r,l,p,s,rfl,h,hm,fw,hs,λM lM hM z1 z2=>?_⟩;refine⟨by show(L.map fr++M.map fr).length<=9000;rw[WK,WJ,WJ];lia,?_⟩;refine KK _ ⟨L++M,v4,v5,↑(i:Int),v7,⇑(g9 (mM (px a b ms i) (py a b ms i) (.arc x y u v r l))),?_,by rw[WK];lia,λx hx=>(XF.mp hx).elim (ho x) (hM x),λk hk=>?_,zl M λ_ _ _ _ _ _ z=>?_⟩
    ·rw[WU];rfl
    ·obtain⟨z,hz,ez⟩:=hb k hk;exact⟨z,YL _ hz,ez⟩
    ·rw[hm]at z;cases z;obtain⟨w,hw,ew⟩:=z1;refine⟨⟨w,XA _ hw,ew⟩,λlr=>?_⟩;obtain⟨w,hw,ew⟩:=z2 lr;exact⟨w,XA _ hw,ew⟩
  ·rintro E ⟨L,v4,v5,v6,v7,v8,rfl,hl,ho,hb,hc⟩;have le:(jx (λq=>T.tup [T.int ((q.2:Nat):Int),q.1]) (jx g9 (bP a b ms)).zipIdx).length=ms.length:=by
    rw[WJ,List.length_zipIdx,WJ,dS]
   rw[le]at hl hc;show xS _ (fJ _ _ _ _);refine cA (λi E=>∃(M:Fr)(v5:Option L2.U),E=[⇑(bZ a b (bP a b ms)),⇑(fr p),↑s,⇑(.lst (L.map fr)),⇑(fr M),v5,v6,v7,v8]/\Mx a b ms p s (L.take i) M) ⟨p,v5,rfl,fw.n,by have:=fw.s;lia,.inl rfl,Rat.le_refl,λx hx=>by cases hx⟩ ?_ ?_
   ·rintro i t rest E hi ⟨M,v5,rfl,m⟩ KK;rw[WH]at hi;obtain⟨x,hx,rfl⟩:=XE.mp hi;obtain⟨nx,sx,ox⟩:=ho x (WI hx);have ms':=m.z;refine⟨x,M,rfl,nx,m.n,⋯,⋯,λk hk=>?_⟩;show if decide (0<k)=true then _ else _;have mg:=m.ge
    by_cases c:0<k
    ·rw[oY c,oV rfl];have h1:val M<=val x:=Rat.not_lt.mp λz=>by have:=hk.of z;lia
     exact KK _ ⟨x,⇑(fr x),rfl,nx,sx,ox,by grind,m.next hx h1 Rat.le_refl⟩
    ·rw[oX c,oW ∅];have h1:val x<=val M:=Rat.not_lt.mp λz=>c (hk.ge z);exact KK _ ⟨M,⇑(fr x),rfl,m.n,m.z,m.of,mg,m.next hx Rat.le_refl h1⟩
   ·rintro E ⟨M,v5,rfl,m⟩;rw[WJ,ZJ]at m;exact⟨rfl,q M (m.top (λk k1 k2 ns=>hb k (Cp.mpr ⟨k1,k2,ns⟩)) hc)⟩
theorem Si(h:cD x y e):aM (aR y) (-1,1)=y/\aM x (-1,1)=aR x:=by
 have n1:bC ((-1,1):Fr):=aI (-1);have v1:val ((-1,1):Fr) = -1:=by rw[eV];rfl
 exact⟨bM (aK (d7 h.nv.y) n1) h.nv.y (by rw[aQ (d7 h.nv.y) n1,b7 h.nv.y,v1];grind),bM (aK h.nv.x n1) (d7 h.nv.x) (by rw[aQ h.nv.x n1,b7 h.nv.x,v1];grind)⟩
def M3:dG:=λas Q=>∃m:Mv,as=[.v (kF m)]/\gT m/\Q (.v (.tup [aX (bU m),aX (eU m)])) []
abbrev tZ(P w K mg base):=(~~~Fn) 5 "_law_headings" ["_law_move"] (aJ K M3)
abbrev qN:ki:=top 103
theorem Ia:aF ["_law_move"] ["_law_move"] (aC qN):=dH
theorem Gz(F:cK K "_law_headings" "_law_headings" qN f fd)(TX:Txt mg)(sj: ~~~eT)(ve: ~~~lJ):(~~~aV) cM 5 f fd ["_law_move"] (aJ K M3):=by
 refine F.okU Ia (λhr=>(aB (bN (gQ rfl hr (fQ 0) bK (a9 _)) (aE (aG (aN (f2 (fQ 0) (fQ 0))))) a8) (aB (bN (gQ rfl hr (fQ 0) bK (a9 _)) (aE (aG (aN (f2 (fK ve (f1 (fQ 0))) (fK ve (f1 (fQ 0))))))) a8) (aE (aG (aN (f2 (fK sj (f2 (fK ve (f1 (fQ 0))) (aN (f2 (c8 aA) aA)))) (fK sj (f2 (fK ve (f1 (fQ 0))) (aN (f2 (c8 aA) aA))))))))))) ?_;rintro as Q ⟨m,rfl,ok,q⟩;cases m with
 |side x y m=>exact⟨WS _,rfl,q⟩
 |arc x y u v r l=>
  obtain⟨o1,o2,_⟩:=ok;refine⟨WS _,WS _,?_⟩;cases l with
  |true=>exact⟨_,_,rfl,_,_,rfl,rfl,q⟩
  |false=>
   obtain⟨e1,e2⟩:=Si o1;obtain⟨e3,e4⟩:=Si o2;refine⟨_,_,rfl,_,_,(-1,1),4,rfl,o1.left.nv,aI (-1),∅,_,_,rfl,_,_,(-1,1),4,rfl,o2.left.nv,aI (-1),∅,?_⟩;rw[e1,e2,e3,e4];exact⟨rfl,q⟩
theorem GB(h:bC d)(n:0<val d):bO (1,1) d=(d.2,d.1)/\bC (d.2,d.1):=by
 have d1:=(fW h).1 n;have hd:=h.d;have k:bC (d.2,d.1):=⟨d1,by show XX d.2.natAbs d.1.natAbs=1;rw[cj];exact h.g⟩;refine⟨bM (eO (aI 1) ⋯) k ?_,k⟩;rw[i7 (aI 1) h ⋯,eV];show((1:Int):Rat)/((d.1:Rat)/(d.2:Rat))=(d.2:Rat)/(d.1:Rat);have z1:(d.1:Rat)≠0:=by exact_mod_cast (show d.1≠0 by lia)
 have z2:(d.2:Rat)≠0:=by exact_mod_cast (show d.2≠0 by lia)
 grind
theorem GV(h:bC a)(k:bC b):(aH a b).1<0↔val a<val b:=by
 rw[<-tU (cF h k),aT h k];constructor<;>intro z<;>grind
def o9(us:List (Fr×Fr))(j:Nat):Fr:=bW (gU us j).1 (gU us j).2 (gU us (j+1)).1 (gU us (j+1)).2
theorem LJ(h:j+1<us.length):Iu ((us.map aX).getD j .non) ((us.map aX).getD (j+1) .non)=o9 us j:=by
 have ga:∀{j},j<us.length->(us.map aX).getD j .non=aX (gU us j):=λ{j}h=>by
  unfold gU;rw[XC,XC,WH,WG h];rfl
 rw[ga ⋯,ga h];unfold Iu o9;have c:∀c:Fr×Fr,cx (aX c)=c:=λc=>pP c.1 c.2;rw[c,c]
def OR:dG:=λas Q=>∃(u w:Fr×Fr)(us:List (Fr×Fr)),as=[.v (.lst (us.map aX))]/\Us u w us/\Q (.v (fr (lE us))) []
abbrev rW(P w K mg base):=(~~~Fn) 4 "_law_least_dot" ["_law_units"] (aJ K OR)
abbrev nO:ki:=top 104
theorem gW:aF ["_law_units","_law_dots","_law_least","_law_one"] ["_law_units"] (aC nO):=dH
theorem Bt(F:cK K "_law_least_dot" "_law_least_dot" nO f fd)(TX:Txt mg)(aCY: ~~~Qt)(vp: ~~~pJ):(~~~aV) cM 4 f fd ["_law_units"] (aJ K OR):=by
 refine F.okU gW (λhr=>(aB (yD (i:=1) (N':=oG) (t:=2) (cap:=[]) gW.nd rfl (YD rfl) rfl rfl (bV.of rfl) rfl ∅ (yC rfl rfl TX.n_zip (f2 (fv 0) (iJ rfl (fv 0) (g8 aA) nA))) (λ_ _ _ _=>(dA (n:=2) rfl rfl (aP (fH 0) (aP (fH 1) cJ)))) (λ_ _ _ _=>(fK aCY (f2 (fv 0) (fv 1))))) (aB (fS 2 gW.nd (fQ 1)) (aB (eI PassesOwn.never rfl (eF rfl (fv 1)) (fG 3 gW.nd) (aE (bN (fP iK (fX (fK vp (f2 (fv 3) (fv 2))) aA) aA) (aE (fS 2 gW.nd (fv 3))) a8))) (aE (aG (fv 2))))))) ?_;rintro as Q ⟨u,w,us,rfl,U,q⟩;have n2:=U.n2;have n30:=U.n30;obtain⟨uv,l1,l2,l3⟩:=U.inn;have lu:(us.map aX).length=us.length:=WJ ..;refine⟨rfl,?_⟩;refine cX (λi E=>∃v0 v1:Option L2.U,E=[v0,v1,↥((XH i).map λj=>fr (o9 us j))]) ⟨none,none,rfl⟩ ?_ ?_
 ·rintro i t rest E hi ⟨v0,v1,rfl⟩ KK;obtain⟨l,rfl⟩:=DW hi;obtain⟨a1,a2⟩:=U.at_ (i:=i) ⋯;obtain⟨b1,b2⟩:=U.at_ l;refine⟨_,_,_,_,30,30,rfl,a2.nv,b2.nv,∅,?_⟩;refine⟨by show((XH i).map λj=>fr (o9 us j)).length<9000;simp;lia,KK _ ⟨⇑(aX (gU us i)),⇑(aX (gU us (i+1))),?_⟩⟩;rw[YX,WU];rfl
 rintro E ⟨v0,v1,rfl⟩;rw[P5];have nd:∀j,j+1<us.length->bC (o9 us j)/\sz (o9 us j)<=301:=λj hj=>by
  obtain⟨a1,a2⟩:=U.at_ (i:=j) ⋯;obtain⟨b1,b2⟩:=U.at_ hj;exact⟨aY a2.nv b2.nv,XR (iG a2.nv b2.nv) ∅⟩
 have ldk:∀j,j+2<=us.length->bC (rE (us.map aX) j)/\sz (rE (us.map aX) j)<=301:=λj hj=>Nt uv j ⋯;have l0:rE (us.map aX) 0=o9 us 0:=LJ ⋯;have ls:∀j,j+2<us.length->rE (us.map aX) (j+1)=mn (rE (us.map aX) j) (o9 us (j+1)):=λj hj=>by
  show mn _ (Iu _ _)=_;rw[LJ ⋯]
 refine⟨uX (λ_=>rfl) _,?_⟩;show o1 (eZ ((XH (us.length-1)).map λj=>fr (o9 us j)) 0) _;rw[show eZ ((XH (us.length-1)).map λj=>fr (o9 us j)) 0=oZ (fr (o9 us 0))from iO (j:=0) (by rw[WH,YW ⋯];rfl),<-l0];refine cA (λi E=>∃v5:Option L2.U,E=[⇑(.lst (us.map aX)),⇑(.lst ((XH (us.length-1)).map λj=>fr (o9 us j))),⇑(fr (rE (us.map aX) (i-1))),v5]) ⟨none,rfl⟩ ?_ ?_
 ·rintro i t rest E hi ⟨v5,rfl⟩ KK;rw[WH]at hi;obtain⟨i',zx,rfl⟩:=XE.mp hi;have il:=(WE.mp zx).1;rw[gv]at il;rw[YW il]at zx;cases zx;obtain⟨d1,d2⟩:=nd i ⋯;obtain⟨e1,e2⟩:=ldk (i-1) ⋯;refine⟨_,_,rfl,d1,e1,⋯,?_⟩;have sg:=GV d1 e1;have nx:rE (us.map aX) (i+1-1)=if(aH (o9 us i) (rE (us.map aX) (i-1))).1<0 then o9 us i else rE (us.map aX) (i-1):=by
   cases i with
   |zero=>
    rw[oW (λz=>by have:=sg.1 z;rw[show(0:Nat)-1=0 from rfl,l0]at this;grind)]
   |succ i=>
    rw[show i+1+1-1=i+1 from rfl,show i+1-1=i from rfl]at *;rw[ls i ⋯];unfold mn;simp only[sg]
  show if decide ((aH (o9 us i) (rE (us.map aX) (i-1))).1<0)=true then _ else _
  by_cases z:(aH (o9 us i) (rE (us.map aX) (i-1))).1<0
  ·rw[oY z,oV rfl];rw[oV z]at nx;refine KK _ ⟨⇑(fr (o9 us i)),?_⟩;rw[nx];rfl
  ·rw[oX z,oW ∅];rw[oW z]at nx;refine KK _ ⟨⇑(fr (o9 us i)),?_⟩;rw[nx]
 ·rintro E ⟨v5,rfl⟩;rw[WJ,gv,show us.length-1-1=us.length-2 by lia];exact⟨rfl,q⟩
def M4:dG:=λas Q=>∃x y:Fr,as=[.v (fr x),.v (fr y)]/\bC x/\bC y/\0<val y/\sz x+sz y<=6000/\∀w,bC w->sz w<=sz x+sz y+1->val w=val x/val y->Q (.v (fr w)) []
abbrev Jb(P w K mg base):=(~~~Fn) 3 "_law_over" oG (aJ K M4)
abbrev Hv:ki:=top 105
theorem J7:aF oG oG (aC Hv):=dH
theorem B9(F:cK K "_law_over" "_law_over" Hv f fd)(TX:Txt mg)(tj: ~~~iI):(~~~aV) cM 3 f fd oG (aJ K M4):=by
 refine F.okU J7 (λhr=>(aE (aG (fK tj (f2 (fv 0) (aN (f2 (fQ 1) (fQ 1)))))))) ?_;rintro as Q ⟨x,y,rfl,nx,ny,y0,hs,q⟩;obtain⟨i1,i2⟩:=GB ny y0;have y1:y.1≠0:=by have:=(fW ny).1 y0;lia
 obtain⟨_,s2,v2⟩:=Ge ny y1;rw[i1]at s2 v2;have s3:=bJ nx i2;refine⟨x,(y.2,y.1),rfl,nx,i2,⋯,rfl,q _ (aK nx i2) ⋯ ?_⟩;rw[aQ nx i2,v2];have:=O8 ny y1;grind
theorem BG(u w:Fr×Fr):(b9 u w = "left"->0<(aU u.1 u.2 w.1 w.2).1)/\(b9 u w = "right"->(aU u.1 u.2 w.1 w.2).1<0)/\(b9 u w = "back"->(aU u.1 u.2 w.1 w.2).1=0/\u≠w):=by
 unfold b9
 split
 ·exact⟨λz=>absurd z ∅,λz=>absurd z ∅,λz=>absurd z ∅⟩
 ·rename_i n
  split
  ·rename_i h;exact⟨λ_=>h,λz=>absurd z ∅,λz=>absurd z ∅⟩
  ·split
   ·rename_i h;exact⟨λz=>absurd z ∅,λ_=>h,λz=>absurd z ∅⟩
   ·exact⟨λz=>absurd z ∅,λz=>absurd z ∅,λ_=>⟨⋯,n⟩⟩
noncomputable def TM (u w:Fr×Fr) (s:Int):List (Fr×Fr):=if b9 u w = "straight" then[]else pB u w s
def OQ:dG:=λas Q=>∃(u w:Fr×Fr)(s:Int),as=[.v (aX u),.v (aX w),.v (.int s)]/\cD u.1 u.2 4/\cD w.1 w.2 4/\(s=1\/s=2\/s=3)/\Q (.l ((TM u w s).map aX)) []
abbrev rV(P w K mg base):=(~~~Fn) 8 "_law_fan_units" ["_law_ahead","_law_behind","_law_steps"] (aJ K OQ)
abbrev nN:ki:=top 106
theorem sG:aF ["_law_ahead","_law_behind","_law_steps","_law_side","_law_here","_law_there"] ["_law_ahead","_law_behind","_law_steps"] (aC nN):=dH
theorem Bs(F:cK K "_law_fan_units" "_law_fan_units" nN f fd)(TX:Txt mg)(aAY: ~~~Cj)(se: ~~~cS)(sj: ~~~eT)(ve: ~~~lJ):(~~~aV) cM 8 f fd ["_law_ahead","_law_behind","_law_steps"] (aJ K OQ):=by
 refine F.okU sG (λhr=>(aB (T8 (i:=3) (j:=4) (k:=5) rfl sG.nd rfl rfl rfl ∅ ∅ ∅ rfl rfl rfl (f3 (fX (fK aAY (f2 (fv 0) (fv 1))) aA) (fK ve (f1 (fv 0))) (fK ve (f1 (fv 1)))) rfl) (aB (bN (fP qD (fv 3) aA) (aE (aG (fK se (f3 (fK sj (f2 (fv 4) (aN (f2 (c8 aA) aA)))) (fK sj (f2 (fv 5) (aN (f2 (c8 aA) aA)))) (fv 2))))) a8) (aB (bN (fP iK (fv 3) aA) (aE (aG (fK se (f3 (fv 5) (fv 4) (fv 2))))) a8) (aE (aG (mH (sC rfl hr (fv 0) (fv 1) (a9 _)) (fK se (f3 (fK sj (f2 (fv 4) (aN (f2 (c8 aA) aA)))) (fv 4) (fv 2))) (cN cB)))))))) ?_;rintro as Q ⟨u,w,s,rfl,ue,uw,hs,q⟩;obtain⟨r1,l1⟩:=sE ue;obtain⟨r2,l2⟩:=sE uw;obtain⟨m1,m2⟩:=Si ue;obtain⟨m3,m4⟩:=Si uw;refine⟨_,_,_,_,4,4,rfl,ue.nv,uw.nv,∅,?_⟩;refine⟨_,_,rfl,_,_,rfl,?_⟩;have nx:=cC ue.nv uw.nv;obtain⟨g1,g2,g3⟩:=BG u w;unfold TM at q;show if decide ((aU u.1 u.2 w.1 w.2).1>0)=true then _ else _;refine vG (s:=s) ue uw (λe c=>?_) (λc n e=>?_) (λc n e=>?_) (λc n e=>?_)
 ·rw[c,oV rfl]at q;have z:(aU u.1 u.2 w.1 w.2).1=0:=by
   have vx:val (aU u.1 u.2 w.1 w.2)=val u.1*val w.2-val u.2*val w.1:=cV ue.nv uw.nv;have e:val (aU u.1 u.2 w.1 w.2)=0:=by rw[vx,e];grind
   have h1:¬0<(aU u.1 u.2 w.1 w.2).1:=λz=>by have:=(fW nx).2 z;grind
   have h2:¬(aU u.1 u.2 w.1 w.2).1<0:=λz=>by have:=(tU nx).2 z;grind
   lia
  rw[oX ⋯,oW ∅];show if decide ((aU u.1 u.2 w.1 w.2).1<0)=true then _ else _;rw[oX ⋯,oW ∅];refine⟨cY rfl,?_⟩;show if(!L2.d6 (aX u) (aX w))=true then _ else _;rw[e,jS,oW ∅];exact⟨rfl,q⟩
 ·have k:=g1 c;rw[c,oW ∅,e]at q;rw[oY k,oV rfl];refine⟨_,_,(-1,1),4,rfl,ue.left.nv,aI (-1),∅,_,_,(-1,1),4,rfl,uw.left.nv,aI (-1),∅,?_⟩;rw[m1,m2,m3,m4];refine⟨_,_,_,_,s,4,4,rfl,r1,r2,∅,∅,∅,hs,λk k' _ _ r r'=>?_⟩;rw[show rO _ _ _ _ s k k'=_ from qZ r1 r2 n hs r r'];exact⟨dI _,q⟩
 ·have k:=g2 c;rw[c,oW ∅,e]at q;rw[oX ⋯,oW ∅];show if decide ((aU u.1 u.2 w.1 w.2).1<0)=true then _ else _;rw[oY k,oV rfl];refine⟨_,_,_,_,s,4,4,rfl,l2,l1,∅,∅,∅,hs,λk k' _ _ r r'=>?_⟩;rw[show rO _ _ _ _ s k k'=_ from qZ l2 l1 n hs r r'];exact⟨dI _,q⟩
 ·obtain⟨k,ne⟩:=g3 c;rw[c,oW ∅,e]at q;rw[oX ⋯,oW ∅];show if decide ((aU u.1 u.2 w.1 w.2).1<0)=true then _ else _;rw[oX ⋯,oW ∅];refine⟨cY rfl,?_⟩;show if(!L2.d6 (aX u) (aX w))=true then _ else _;have eu:L2.d6 (aX u) (aX w)=false:=by
   cases h:L2.d6 (aX u) (aX w)with
   |false=>rfl
   |true=>exact absurd (yJ ((Ng (e:=4) (f:=4) ⟨_,_,rfl,ue⟩ ⟨_,_,rfl,uw⟩).1 h)) ne
  rw[eu,oV ∅];refine⟨_,_,(-1,1),4,rfl,ue.left.nv,aI (-1),∅,?_⟩;rw[m1,m2];refine⟨_,_,_,_,s,4,4,rfl,r1,l1,∅,∅,∅,hs,λk k' _ _ r r'=>?_⟩;rw[show rO _ _ _ _ s k k'=_ from qZ r1 l1 n hs r r'];exact⟨dI _,q⟩
theorem Ss:px a b ms ms.length=cQ a (bP a b ms)/\py a b ms ms.length=cR b (bP a b ms):=by
 unfold px py;rw[<-dS ms a b,ZJ];exact⟨rfl,rfl⟩
theorem EU:L2.d6 (vc (px a b ms 0) (py a b ms 0)) (vc (px a b ms ms.length) (py a b ms ms.length))=Na a b (bP a b ms):=by
 rw[Dd,Ss.1,Ss.2];unfold Na;show decide (a=cQ a (bP a b ms)/\b=cR b (bP a b ms))=_
 congr 1
 exact propext ⟨λzZ=>by obtain⟨x,y⟩:=zZ;exact⟨x.symm,y.symm⟩,λzZ=>by obtain⟨x,y⟩:=zZ;exact⟨x.symm,y.symm⟩⟩
theorem X5(h:ms≠[]):∃i,i+1=ms.length/\eZ ((bP a b ms).map g9) (-1)=oZ (g9 (mM (px a b ms i) (py a b ms i) (gM ms i)))/\px a b ms ms.length=(mM (px a b ms i) (py a b ms i) (gM ms i)).px/\py a b ms ms.length=(mM (px a b ms i) (py a b ms i) (gM ms i)).py:=by
 have l1:=ZG.mpr h;refine⟨ms.length-1,⋯,?_,?_⟩
 ·have hp:=gJ ms a b _ _ (iU (show ms.length-1<ms.length by lia));have ne:bP a b ms≠[]:=λz=>by rw[z]at hp;cases hp
  obtain⟨L,m,e⟩:∃L m,bP a b ms=L++[m]:=⟨_,_,(ar ne).symm⟩;have ll:L.length+1=ms.length:=by rw[<-dS ms a b,e];simp
  have hm:m=mM (px a b ms (ms.length-1)) (py a b ms (ms.length-1)) (gM ms (ms.length-1)):=by
   have h2:(bP a b ms)[ms.length-1]?=oZ m:=by rw[e,XO ⋯,show ms.length-1-L.length=0 by lia];rfl
   rw[hp]at h2;exact(Option.some.inj h2).symm
  rw[<-hm,e,WU];exact My.uK _ _
 ·have:=nF (a:=a) (b:=b) (iU (show ms.length-1<ms.length by lia))
  rwa [show ms.length-1+1=ms.length by lia]at this
def BS(ms:List Mv)(j:Nat):L2.T:=.tup [aX (bU (gM ms j)),aX (eU (gM ms j))]
theorem Od(h:j<n):cH ((j+1)%n) n=j/\(j+1)%n<n:=by
 refine⟨?_,aj _ ⋯⟩;unfold cH
 by_cases c:j+1=n
 ·rw[c,Nat.mod_self,oV rfl];lia
 ·rw[dw ⋯,oW ⋯];rfl
abbrev dE(a b:Fr)(ms:List Mv)(p:Fr)(s:Int)(c:Bool)(L:List Fr)(v5 v6 v7 v8 v11 v12 v13 zy v15:Option L2.U):En:=[⇑(bZ a b (bP a b ms)),⇑(.lst (ms.map kF)),⇑(fr p),↑s,⇑(.bl c),v5,v6,v7,v8,↥(L.map fr),↥((XH ms.length).map (BS ms)),v11,v12,v13,zy,v15]
theorem BU{ms:List Mv}(h:i<ms.length):eZ ((XH ms.length).map (BS ms)) (i:Int)=oZ (BS ms i):=iO (by rw[WH,YW h];rfl)
theorem CD(l:List (Fr×Fr)):JZ (l.map aX)<=2:=by
 induction l with
 |nil=>exact WS _
 |cons c l ih=>exact Nat.max_le.mpr ⟨WO 2,ih⟩
theorem Uj(nx:bC x)(nd:bC d)(d0:0<=val d):bC (aM x (2,1))/\sz (aM x (2,1))<=sz x+2/\bC (aW (1,1) d)/\sz (aW (1,1) d)<=sz d+2/\0<val (aW (1,1) d)/\val (aW (1,1) d)=1+val d/\val (aM x (2,1))/val (aW (1,1) d)=val x*xZ (val d):=by
 have nt:bC ((2,1):Fr):=aI 2;have st:sz ((2,1):Fr)=2:=∅
 have o:=Cc;have s1:=bJ nx nt;have s2:=dX (aI 1) nd;have v2:val (aW (1,1) d)=1+val d:=by rw[bE (aI 1) nd,fT]
 refine⟨aK nx nt,⋯,cE (aI 1) nd,⋯,by rw[v2];grind,v2,?_⟩;rw[v2,aQ nx nt,show val (2,1)=2 from eV 2];unfold xZ;grind
def OI:dG:=λas Q=>∃(a b:Fr)(ms:List Mv)(p:Fr)(s:Int),as=[.v (bZ a b (bP a b ms)),.v (.lst (ms.map kF)),.v (fr p),.v (.int s)]/\Pm a b ms/\Fw p/\(s=1\/s=2\/s=3)/\∀T,JY a b ms p s T->Q (.v (fr T)) []
abbrev yQ(P w K mg base):=(~~~Fn) 9 "_law_due_of" ["_law_path","_law_found","_law_far","_law_steps"] (aJ K OI)
abbrev wG:ki:=top 107
theorem cU:aF ["_law_path","_law_found","_law_far","_law_steps","_law_closed","_law_k","_law_move","_law_most","_law_one","_law_some","_law_heads","_law_units","_law_more","_law_other","_law_outer","_law_rest"] ["_law_path","_law_found","_law_far","_law_steps"] (aC wG):=dH
theorem Oo(F:cK K "_law_due_of" "_law_due_of" wG f fd)(TX:Txt mg)(yy: ~~~tZ)(yq: ~~~rV)(aAS: ~~~Jb)(tj: ~~~iI)(xa: ~~~uD)(vp: ~~~pJ)(xt: ~~~rW)(se: ~~~cS):(~~~aV) cM 9 f fd ["_law_path","_law_found","_law_far","_law_steps"] (aJ K OI):=by
 refine F.okU cU (λhr=>(aB (T9 (i:=9) (j:=10) rfl cU.nd rfl rfl ∅ rfl rfl (f2 (cN (f1 (fv 2))) (iR (N':=["_law_move"]) (t:=1) (cap:=[]) rfl (bV.of rfl) rfl ∅ (eF rfl (fv 1)) (λ_ _ _ _=>(fH 0)) (λ_ _ _ _=>(fK yy (f1 (fv 0)))))) rfl) (aB (fS 4 cU.nd (De rfl hr (fQ 0) (mH (gQ rfl hr (fX (fX (fQ 0) (c8 aA)) aA) bK (a9 _)) (fX (fX (fQ 0) (c8 aA)) aA) (fX (fX (fQ 0) (c8 aA)) aA)) (a9 _))) (aB (eI PassesOwn.never rfl (gF rfl TX.n_range (f1 (a7 jZ (fE rfl rfl TX.n_len (f1 (fv 1))) (Rv rfl TX.n_int (f1 (FL (fv 4))))))) (fG 5 cU.nd) (aB (fS 11 cU.nd (fK yq (f3 (fX (fX (fv 10) (fv 5)) aA) (fX (fX (fv 10) (aS iD (a7 cO (fv 5) aA) (fE rfl rfl TX.n_len (f1 (fv 1))))) aA) (fv 3)))) (aE (bN (sC rfl hr (fv 11) (cN cB) (a9 _)) (aE (eH (dP rfl (fv 9) (f1 (fK aAS (f2 (fK tj (f2 (fv 2) (aN (f2 aA aA)))) (fK xa (f2 (aN (f2 aA aA)) (fK xt (f1 (fv 11))))))))))) a8)))) (aB (eI PassesOwn.never rfl (eF rfl (fv 1)) (fG 6 cU.nd) (aE (bN (gQ rfl hr (fQ 6) bK (a9 _)) (aB (fF (mH (gQ rfl hr (fQ 6) bK (a9 _)) (Vm rfl (fv 6) (g8 aA) (g8 aA)) (aN (f2 (fQ 6) (fQ 6)))) (dA (n:=2) rfl rfl (aP (fG 8 cU.nd) (aP (fG 13 cU.nd) cJ)))) (aB (fS 12 cU.nd (fK xa (f2 (aN (f2 aA aA)) (fK xt (f1 (fK se (f3 (fv 8) (fv 13) (fv 3)))))))) (aB (gH (i:=14) (j:=15) rfl cU.nd rfl rfl ∅ rfl rfl (f2 (fK xa (f2 (fQ 6) (fv 2))) (fK vp (f2 (fQ 6) (fv 2)))) rfl) (aB (eH (dP rfl (fv 9) (f1 (fK vp (f2 (fK aAS (f2 (fK tj (f2 (fv 14) (aN (f2 aA aA)))) (fv 12))) (fQ 6)))))) (aE (bN (fP qD (fQ 15) aA) (aE (eH (dP rfl (fv 9) (f1 (fK vp (f2 (fQ 6) (fK tj (f2 (fK tj (f2 (fv 15) (fv 12))) (aN (f2 aA aA)))))))))) a8)))))) a8))) (aB (fS 7 cU.nd (fv 2)) (aB (eI PassesOwn.never rfl (eF rfl (fv 9)) (fG 8 cU.nd) (aE (bN (fP qD (fX (fK vp (f2 (fv 8) (fv 7))) aA) aA) (aE (fS 7 cU.nd (fv 8))) a8))) (aE (aG (fv 7)))))))))) ?_;rintro as Q ⟨a,b,ms,p,s,rfl,h,fw,hs,q⟩;have l12:=h.len;have l1:=ZG.mpr h.ne;have pl:=dS ms a b;have sp:=fw.s;have p0:=fw.pos;refine⟨rfl,?_⟩;refine cX (λi E=>∃v0:Option L2.U,E=[v0,↥((XH i).map (BS ms))]) ⟨none,rfl⟩ ?_ ?_
 ·rintro i t rest E hi ⟨v0,rfl⟩ KK;rw[WH]at hi;obtain⟨m,hm,rfl⟩:=XE.mp hi;have il:=(WE.mp hm).1;have ok:=h.ok _ (WI hm);rw[iU il]at hm;cases hm;refine⟨_,rfl,ok,?_⟩;refine⟨by show((XH i).map (BS ms)).length<9000;simp;lia,KK _ ⟨⇑(kF (gM ms i)),?_⟩⟩;rw[YX,WU];rfl
 rintro E ⟨v0,rfl⟩;rw[WJ];refine⟨uX (λ_=>rfl) _,?_⟩;refine⟨cY rfl,cY rfl,?_⟩;apply Zl (R:=λ(E:En)=>E=dE a b ms p s (Na a b (bP a b ms)) [p] none none none none none none none none none)
 case h=>
  intro J;obtain⟨j,hj,ea,ex,ey⟩:=X5 (a:=a) (b:=b) h.ne;have ec:=EU (a:=a) (b:=b) (ms:=ms);rw[ex,ey]at ec;show o1 (eZ ((bP a b ms).map g9) (-1)) _;rw[ea];generalize gM ms j=m at *;cases m with
  |side x y m=>
   refine⟨WS _,?_⟩;show o1 (eZ ((bP a b ms).map g9) (-1)) _;rw[ea];refine⟨cY rfl,?_⟩;show xS (dE a b ms p s (L2.d6 (vc (px a b ms 0) (py a b ms 0)) (vc (mM (px a b ms j) (py a b ms j) (.side x y m)).px (mM (px a b ms j) (py a b ms j) (.side x y m)).py)) [p] none none none none none none none none none) (AH _ _ _);generalize hE:(dE a b ms p s (L2.d6 (vc (px a b ms 0) (py a b ms 0)) (vc (mM (px a b ms j) (py a b ms j) (.side x y m)).px (mM (px a b ms j) (py a b ms j) (.side x y m)).py)) [p] none none none none none none none none none:En)=E;exact J E (hE.symm.trans (by rw[ec]))
  |arc x y u v r l=>
   refine⟨WS _,?_⟩;show o1 (eZ ((bP a b ms).map g9) (-1)) _;rw[ea];refine⟨cY rfl,?_⟩;exact J (dE a b ms p s (L2.d6 (vc (px a b ms 0) (py a b ms 0)) (vc (mM (px a b ms j) (py a b ms j) (.arc x y u v r l)).px (mM (px a b ms j) (py a b ms j) (.arc x y u v r l)).py)) [p] none none none none none none none none none) (by rw[ec])
 rintro E rfl;have eN:((((ms.map kF).length:Nat):Int)-(if(!Na a b (bP a b ms))then 1 else 0))=((ms.length-fst a b (bP a b ms):Nat):Int):=by
  rw[WJ];unfold fst;cases Na a b (bP a b ms)
  ·show((ms.length:Nat):Int)-1=((ms.length-1:Nat):Int);lia
  ·show((ms.length:Nat):Int)-0=((ms.length-0:Nat):Int);lia
 have fl:fst a b (bP a b ms)<=1/\(fst a b (bP a b ms)=0\/fst a b (bP a b ms)=1):=by unfold fst;split<;>lia
 refine⟨⟨by show -(2^62:Int)<=((((ms.map kF).length:Nat):Int)-(if(!Na a b (bP a b ms))then 1 else 0));rw[eN];lia,by show((((ms.map kF).length:Nat):Int)-(if(!Na a b (bP a b ms))then 1 else 0))<2^62;rw[eN];lia⟩,?_⟩;show xS _ (fJ _ _ _ (iY 0 ((((ms.map kF).length:Nat):Int)-(if(!Na a b (bP a b ms))then 1 else 0)).toNat));rw[eN,XU];generalize Na a b (bP a b ms)=c;have em:((((ms.map kF).length:Nat):Int))=(ms.length:Int):=by rw[WJ]
 refine cA (λi E=>∃(L:List Fr)(v5 v11:Option L2.U),E=dE a b ms p s c L v5 none none none v11 none none none none/\L.length<=1+i/\Xm a b ms p s L/\∀k,k<i->uO ms ((k+1)%ms.length)≠"straight"->∃z∈L,val z=pA ms p s ((k+1)%ms.length))
  ⟨[p],none,none,rfl,by simp,(λx hx=>by rw[WT.mp hx];exact⟨fw.n,⋯,.inl rfl⟩),λk hk=>⋯⟩ ?_ ?_
 ·rintro i t rest E hi ⟨L,v5,v11,rfl,hl,ho,hc⟩ KK;obtain⟨hin,rfl⟩:=nG hi;rw[ja];have il:i<ms.length:=⋯
  obtain⟨na,kl⟩:=Od il;have hk0:((i:Int)+1)%(ms.length:Int)=(((i+1)%ms.length:Nat):Int):=by push_cast;rfl
  show o1 (eZ ((XH ms.length).map (BS ms)) (i:Int)) _;rw[BU il];refine⟨by show(0:Int)<((((ms.map kF).length:Nat):Int));rw[em];lia,?_⟩;show o1 (eZ ((XH ms.length).map (BS ms)) (((i:Int)+1)%((((ms.map kF).length:Nat):Int)))) _;rw[em,hk0,BU kl];have cw:uO ms ((i+1)%ms.length)=b9 (eU (gM ms i)) (bU (gM ms ((i+1)%ms.length))):=by unfold uO;rw[na]
  have efo:pA ms p s ((i+1)%ms.length)=val p*xZ (val (lE (pB (eU (gM ms i)) (bU (gM ms ((i+1)%ms.length))) s))):=by unfold pA;rw[na]
  have of1:uO ms ((i+1)%ms.length)≠"straight"->Qw a b ms p s (pA ms p s ((i+1)%ms.length)):=λns=>.inr (.inl ⟨_,kl,by
   obtain z|z:=fl.2
   ·lia
   ·rw[z,dw ⋯];lia,ns,rfl⟩)
  obtain⟨ue,_⟩:=h.ue il;obtain⟨_,ub⟩:=h.ue kl;refine⟨_,_,s,rfl,ue,ub,hs,?_⟩;have zl:∀L':List Fr,(uO ms ((i+1)%ms.length)≠"straight"->∃z∈L',val z=pA ms p s ((i+1)%ms.length))->∀k,k<i+1->uO ms ((k+1)%ms.length)≠"straight"->∃z∈L++L',val z=pA ms p s ((k+1)%ms.length):=λL' z k hk ns=>by
   obtain c|c:=XQ k i
   ·obtain⟨w,hw,ew⟩:=hc k c ns;exact⟨w,YL _ hw,ew⟩
   ·have:k=i:=⋯
    subst this;obtain⟨w,hw,ew⟩:=z ns;exact⟨w,XA _ hw,ew⟩
  rw[cw]at of1 zl;unfold TM
  by_cases st:b9 (eU (gM ms i)) (bU (gM ms ((i+1)%ms.length))) = "straight"
  ·rw[oV st];refine⟨XR (aw (CD [])) ∅,?_⟩;refine KK _ ⟨L,↑(i:Int),↥[],rfl,⋯,ho,?_⟩;have:=zl [] λns=>absurd st ns
   rwa [XW]at this
  ·obtain⟨x,y,B⟩:=Yj (s:=s) ue ub st hs;have of1:=of1 st;rw[oW st];generalize pA ms p s ((i+1)%ms.length)=fo at *;generalize pB (eU (gM ms i)) (bU (gM ms ((i+1)%ms.length))) s=us at *;have U:=B.U;have n2:=U.n2;have n30:=U.n30;obtain⟨d1,d2,d3,d4⟩:=U.ldok;refine⟨XR (aw (CD us)) ∅,?_⟩;have nn:L2.d6 (.lst (us.map aX)) (.lst [])=false:=by
    cases us with
    |nil=>simp at n2
    |cons _ _=>rfl
   show if(!L2.d6 (.lst (us.map aX)) (.lst []))=true then _ else _;rw[nn,oV ∅];obtain⟨w1,w2,w3,w4,w5,_,w6⟩:=Uj fw.n d1 d3;refine⟨p,(2,1),rfl,fw.n,aI 2,by
     have:sz ((2,1):Fr)=2:=∅
     lia,?_⟩
   refine⟨_,_,us,rfl,U,?_⟩;refine⟨(1,1),_,rfl,aI 1,d1,by have:=Cc;lia,?_⟩;refine⟨_,_,rfl,w1,w3,w5,⋯,λw nw sw vw=>?_⟩;rw[w6,<-efo]at vw;refine⟨by show(L.map fr++[fr w]).length<=9000;rw[WK,WJ,WY];lia,?_⟩;refine KK _ ⟨L++[w],↑(i:Int),↥(us.map aX),?_,by rw[WK,WY];lia,λx hx=>?_,zl [w] λ_=>⟨w,ZE _,vw⟩⟩
   ·unfold dE;rw[WU];rfl
   ·obtain hx|hx:=XF.mp hx
    ·exact ho x hx
    ·rw[WT.mp hx,vw];exact⟨nw,⋯,of1⟩
 rintro E ⟨L0,v5,v11,rfl,hl0,ho0,hc0⟩;have lr:(iY 0 (ms.length-fst a b (bP a b ms))).length=ms.length-fst a b (bP a b ms):=by simp[iY]
 rw[lr]at hl0 hc0;have hb0:∀k,fst a b (bP a b ms)<=k->k<ms.length->uO ms k≠"straight"->∃z∈L0,val z=pA ms p s k:=λk k1 k2 ns=>by
  have:=hc0 (cH k ms.length) (by unfold cH;split<;>lia);have e:(cH k ms.length+1)%ms.length=k:=by
   unfold cH
   split
   ·rw[show ms.length-1+1=ms.length by lia,Nat.mod_self];lia
   ·rw[show k-1+1=k by lia,dw k2]
  rw[e]at this;exact this ns
 show xS _ (fJ _ _ _ _);refine cA (λi E=>∃(L:List Fr)(v5 v6 v8 v11 v12 v13 zy v15:Option L2.U),E=dE a b ms p s c L v5 v6 none v8 v11 v12 v13 zy v15/\L.length<=13+2*i/\Xm a b ms p s L/\(∀k,fst a b (bP a b ms)<=k->k<ms.length->uO ms k≠"straight"->∃z∈L,val z=pA ms p s k)/\∀j,j<i->rP ms p s L j)
  ⟨L0,v5,none,none,v11,none,none,none,none,rfl,⋯,ho0,hb0,λj hj=>⋯⟩ ?_ ?_
 ·rintro i t rest E hi ⟨L,v5,v6,v8,v11,v12,v13,zy,v15,rfl,hl,ho,hb,hc⟩ KK;rw[WH]at hi;obtain⟨m,hm,rfl⟩:=XE.mp hi;have il:=(WE.mp hm).1;have zl:∀M:List Fr,rP ms p s (L++M) i->∀j,j<i+1->rP ms p s (L++M) j:=λM z j hj=>by
   obtain c|c:=XQ j i
   ·exact(hc j c).more
   ·have:j=i:=⋯
    subst this;exact z
  have hb':∀M:List Fr,∀k,fst a b (bP a b ms)<=k->k<ms.length->uO ms k≠"straight"->∃z∈L++M,val z=pA ms p s k:=λM k k1 k2 ns=>by
   obtain⟨z,hz,ez⟩:=hb k k1 k2 ns;exact⟨z,YL _ hz,ez⟩
  cases m with
  |side x y m=>
   refine⟨WS _,KK _ ⟨L,v5,⇑(kF (.side x y m)),v8,v11,v12,v13,zy,v15,rfl,⋯,ho,hb,?_⟩⟩;have:=zl [] (λ_ _ _ _ _ _ z=>by rw[hm]at z;cases z)
   rwa [XW]at this
  |arc x y u v r l=>
   have OF:∀x,(_\/_)->Qw a b ms p s x:=λx z=>.inr (.inr ⟨i,_,_,_,_,_,_,hm,z⟩);obtain⟨o1',o2',ne,nr,sr,r0,_⟩:=h.ok _ (WI hm);refine⟨WS _,WS _,?_⟩;apply Zl (R:=λ(E:En)=>∃A C:Fr×Fr,E=dE a b ms p s c L v5 (⇑(kF (.arc x y u v r l))) none (⇑(aX A)) v11 v12 (⇑(aX C)) zy v15/\cD A.1 A.2 4/\cD C.1 C.2 4/\C≠A/\dR x y u v l s=Ud A C s)
   case h=>
    intro J;show if L2.d6 (.str (vC l)) (.str (XI "left"))=true then _ else _;rw[show L2.d6 (.str (vC l)) (.str (XI "left"))=l by cases l<;>rfl]
    by_cases cl:l=true
    ·rw[oV cl];refine⟨λz=>absurd z.1 (show ¬HT.sIx 5 0 (oZ 1)=0 by decide),?_⟩;show xS (dE a b ms p s c L v5 (⇑(kF (.arc x y u v r l))) none (⇑(aX (x,y))) v11 v12 (⇑(aX (u,v))) zy v15) (AH _ _ _);generalize hE:(dE a b ms p s c L v5 (⇑(kF (.arc x y u v r l))) none (⇑(aX (x,y))) v11 v12 (⇑(aX (u,v))) zy v15:En)=E;exact J E ⟨(x,y),(u,v),hE.symm,o1',o2',λz=>ne ⟨(congrArg Prod.fst z).symm,(congrArg Prod.snd z).symm⟩,by unfold dR;rw[oV cl]⟩
    ·rw[oW cl];exact J _ ⟨(u,v),(x,y),rfl,o2',o1',λz=>ne ⟨congrArg Prod.fst z,congrArg Prod.snd z⟩,by unfold dR;rw[oW cl]⟩
   rintro E ⟨A,C,rfl,uA,uC,nAC,eU⟩;refine⟨_,_,_,_,s,4,4,rfl,uA,uC,∅,∅,∅,hs,λk k' _ _ r1 r2=>?_⟩;rw[show rO _ _ _ _ s k k'=_ from qZ uA uC nAC hs r1 r2];have U:=(gL uA uC nAC hs).U;obtain⟨d1,d2,d3,d4⟩:=U.ldok;refine⟨_,_,Ud A C s,rfl,U,?_⟩;rw[<-eU]at d1 d2 d3 d4⊢;have nR:=cE nr fw.n;have sR:=dX nr fw.n;have vR:val (aW r p)=val r+val p:=bE nr fw.n;have nS:=cF nr fw.n;have sS:=gK nr fw.n;have vS:=aT nr fw.n;obtain⟨w1,w2,w3,w4,w5,w5',w6⟩:=Uj nR d1 d3;refine⟨(1,1),_,rfl,aI 1,d1,by have:=Cc;lia,?_⟩;refine⟨r,p,rfl,nr,fw.n,⋯,r,p,rfl,nr,fw.n,⋯,?_⟩;refine⟨aW r p,(2,1),rfl,nR,aI 2,by
     have:sz ((2,1):Fr)=2:=∅
     lia,?_⟩
   refine⟨_,_,rfl,w1,w3,w5,⋯,λw nw sw vw=>?_⟩;rw[w6,vR]at vw;have n1:=cF nw nr;have s1:=gK nw nr;have v1:=aT nw nr;rw[vw]at v1;have k1:bC (aH w r)/\sz (aH w r)<=310/\Qw a b ms p s (val (aH w r)):=⟨n1,⋯,OF _ (.inl v1)⟩;refine⟨w,r,rfl,nw,nr,⋯,?_⟩;refine⟨by show(L.map fr++[_]).length<=9000;rw[WK,WJ,WY];lia,?_⟩;have sg:=fW nS;rw[vS]at sg;show if decide ((aH r p).1>0)=true then _ else _
   by_cases lr:(aH r p).1>0
   ·rw[oY lr,oV rfl];have lr':val p<val r:=by have:=sg.2 lr;grind
    have n2:=aK nS w3;have s2:=bJ nS w3;have n3:=aK n2 uY;have s3:=bJ n2 uY;have s12:sz ((1,2):Fr)=2:=∅
    have n4:=cF nr n3;have s4:=gK nr n3;have v4:=aT nr n3;rw[aQ n2 uY,aQ nS w3,vS,w5',O6]at v4;have v4':val (aH r (aM (aM (aH r p) (aW (1,1) (lE (dR x y u v l s)))) (1,2)))=val r-(val r-val p)*((1+val (lE (dR x y u v l s)))/2):=by rw[v4];grind
    refine⟨_,_,rfl,nS,w3,⋯,?_⟩;refine⟨_,(1,2),rfl,n2,uY,⋯,?_⟩;refine⟨r,_,rfl,nr,n3,⋯,?_⟩;refine⟨by show((L.map fr++[_])++[_]).length<=9000;rw[WK,WK,WJ,WY,WY];lia,?_⟩;have k2:bC (aH r (aM (aM (aH r p) (aW (1,1) (lE (dR x y u v l s)))) (1,2)))/\sz (aH r (aM (aM (aH r p) (aW (1,1) (lE (dR x y u v l s)))) (1,2)))<=310/\Qw a b ms p s (val (aH r (aM (aM (aH r p) (aW (1,1) (lE (dR x y u v l s)))) (1,2)))):=⟨n4,⋯,OF _ (.inr ⟨lr',v4'⟩)⟩;generalize aH r (aM (aM (aH r p) (aW (1,1) (lE (dR x y u v l s)))) (1,2))=z2 at *;generalize aH w r=z1 at *;refine KK _ ⟨L++[z1,z2],v5,⇑(kF (.arc x y u v r l)),⇑(aX A),v11,⇑(fr (aW (1,1) (lE (dR x y u v l s)))),⇑(aX C),⇑(fr (aW r p)),⇑(fr (aH r p)),?_,by rw[WK];show L.length+2<=_;lia,λx hx=>?_,hb' _,zl _ λ_ _ _ _ _ _ z=>?_⟩
    rotate_left
    ·obtain hx|hx:=XF.mp hx
     ·exact ho x hx
     ·obtain rfl|hx:=WM.mp hx
      ·exact k1
      ·rw[WT.mp hx];exact k2
    ·rw[hm]at z;cases z;exact⟨⟨z1,XA _ (WW ..),v1⟩,λ_=>⟨z2,XA _ (WQ _ (ZE _)),v4'⟩⟩
    ·unfold dE;rw[WU,show[z1,z2].map fr=[fr z1]++[fr z2]from rfl,<-XB];rfl
   ·rw[oX lr,oW ∅];have lr':¬val p<val r:=λz=>lr (sg.1 (by grind));generalize aH w r=z1 at *;refine KK _ ⟨L++[z1],v5,⇑(kF (.arc x y u v r l)),⇑(aX A),v11,⇑(fr (aW (1,1) (lE (dR x y u v l s)))),⇑(aX C),⇑(fr (aW r p)),⇑(fr (aH r p)),?_,by rw[WK,WY];lia,λx hx=>?_,hb' _,zl _ λ_ _ _ _ _ _ z=>?_⟩
    rotate_left
    ·obtain hx|hx:=XF.mp hx
     ·exact ho x hx
     ·rw[WT.mp hx];exact k1
    ·rw[hm]at z;cases z;exact⟨⟨z1,XA _ (ZE _),v1⟩,λz=>absurd z lr'⟩
    ·unfold dE;rw[WU];rfl
 rintro E ⟨L,v5,v6,v8,v11,v12,v13,zy,v15,rfl,hl,ho,hb,hc⟩;rw[WJ]at hl hc;show xS _ (fJ _ _ _ _);refine cA (λi E=>∃(M:Fr)(v8:Option L2.U),E=[⇑(bZ a b (bP a b ms)),⇑(.lst (ms.map kF)),⇑(fr p),↑s,⇑(.bl c),v5,v6,⇑(fr M),v8,⇑(.lst (L.map fr)),↥((XH ms.length).map (BS ms)),v11,v12,v13,zy,v15]/\Mx a b ms p s (L.take i) M) ⟨p,v8,rfl,fw.n,⋯,.inl rfl,Rat.le_refl,λx hx=>by cases hx⟩ ?_ ?_
 ·rintro i t rest E hi ⟨M,v8,rfl,m⟩ KK;rw[WH]at hi;obtain⟨x,hx,rfl⟩:=XE.mp hi;obtain⟨nx,sx,ox⟩:=ho x (WI hx);have ms':=m.z;refine⟨x,M,rfl,nx,m.n,⋯,?_⟩;have sg:=fW (cF nx m.n);rw[aT nx m.n]at sg;show if decide ((aH x M).1>0)=true then _ else _;have mg:=m.ge
  by_cases c:(aH x M).1>0
  ·rw[oY c,oV rfl];have h1:val M<=val x:=by have:=sg.2 c;grind
   exact KK _ ⟨x,⇑(fr x),rfl,nx,sx,ox,by grind,m.next hx h1 Rat.le_refl⟩
  ·rw[oX c,oW ∅];have h1:val x<=val M:=Rat.not_lt.mp λz=>c (sg.1 (by grind));exact KK _ ⟨M,⇑(fr x),rfl,m.n,m.z,m.of,mg,m.next hx Rat.le_refl h1⟩
 ·rintro E ⟨M,v8,rfl,m⟩;rw[WJ,ZJ]at m;exact⟨rfl,q M (m.top (λk k1 k2 ns=>hb k k1 k2 ns) hc)⟩
end
theorem FW{X:Cx}{K:W.Frag}{Fa Fb:FE}{a b:oC}{pos:Pos}(ha:QE X a (aO K Fa))(hb:QE X b (aO K Fb))(hm:ma .In b=false:=by rfl):QT X (.Compare a [.In] [b] pos) (gY K (Es (SF Fa Fb))):=by
 refine Fy Wi ha hb hm λσ H Q h=>two h λB S E x y v w H2 Q' hS re rx ry q lk=>?_;obtain⟨i,j,e1,e2,q⟩:=q.ex;exact⟨i,j,re.str rx e1,re.str ry e2,lk _ _ _ _ _ q .refl re rfl⟩
abbrev US(x0 x1 x2 x3:Option U)(T tb a b:Fr)(ms:List Mv)(p:Fr)(s:Int)(v10 v11 v12 v13 zy v15 v16 v17:Option U):En:=[x0,x1,x2,x3,⇑(fr T),⇑(fr tb),⇑(bZ a b (bP a b ms)),⇑(.lst (ms.map kF)),⇑(fr p),↑s,v10,v11,v12,v13,zy,v15,v16,v17]
theorem DU{V:List (Fr×Fr)}(h:i<V.length):eZ (V.map aX) (i:Int)=oZ (aX (gU V i))/\gU V i∈V:=by
 have e:V[i]?=oZ (gU V i):=by unfold gU;rw[XC,WG h];rfl
 exact⟨iO (by rw[WH,e];rfl),WI e⟩
theorem VW(c:Nat)(h:QZ c=true):(!(Builtin.Str.occurrences "lrb" ⟨#[c]⟩ 0 (XI "lrb").length 1).isEmpty)=decide (c=108\/c=114\/c=98):=by
 have:c=108\/c=114\/c=98\/c=101\/c=45:=by
  have z:(XI "lrbe-").cps = #[108,114,98,101,45]:=rfl;unfold QZ at h;rw[z]at h
  simpa using h
 rcases this with rfl|rfl|rfl|rfl|rfl<;>decide +kernel
def ON:dG:=λas Q=>∃ns:List Int,as=[.v (.lst (bQ ns))]/\ns.length<=63/\Q (.v (.bl true)) []
abbrev Aj:ki:=top 108
theorem fO:aF ["_law_script","_law_cells","_law_k","_law_box_here","_law_told","_law_by","_law_path","_law_found","_law_far","_law_steps","_law_word","_law_number","_law_spots","_law_marks","_law_at","_law_some","_law_one","_law_other"] ["_law_script"] (aC Aj):=dH
theorem HE{P:kg}{w:ko}{K:W.Frag}{mg:Str->Option oA}{base:oE}{f:jz}{fd:mf}(F:cK K "law" "law" Aj f fd)(TX:Txt mg)(aAZ: ~~~Ci)(aDP: ~~~Xk)(aBR:Fn P w K mg base 7 "_law_case" ["_law_box_here"] (xJ K L6))(yr: ~~~xB)(aAL: ~~~yQ)(xa: ~~~uD)(aA0: ~~~Cg)(zj: ~~~El)(sj: ~~~eT)(aAM: ~~~yP):(~~~aV) cM 16 f fd ["_law_script"] (aJ K ON):=by
 refine F.okU fO (λhr=>(aB (fS 1 fO.nd (fK aAZ (f2 (fv 0) aA))) (aB (eI PassesOwn.never rfl (gF rfl TX.n_range (f1 (FJ rfl rfl TX.n_max (f2 aA (fE rfl rfl TX.n_len (f1 (fv 1))))))) (fG 2 fO.nd) (aB (fS 3 fO.nd (fK aDP (f2 (fv 1) (fv 2)))) (aB (fF (Jw aBR hr ⋯ rfl (f1 (fv 3))) (dA (n:=4) rfl rfl (aP (fG 6 fO.nd) (aP (fG 7 fO.nd) (aP (fG 8 fO.nd) (aP (fG 9 fO.nd) cJ)))))) (aB (fS 4 fO.nd (fK yr (f3 (fv 6) (fv 8) (fv 9)))) (aB (bN (Yv (Rx (sC rfl hr (fv 4) (fK aAL (f4 (fv 6) (fv 7) (fv 8) (fv 9))) (a9 _)) (Fz (sC rfl hr (fK yr (f3 (fv 6) (fv 8) (fv 9))) (fv 4) (a9 _))))) (aE (aG uQ)) a8) (aB (fS 5 fO.nd (fK xa (f2 (fv 4) (aN (f2 aA aA))))) (aE (eI PassesOwn.never rfl (eF rfl (fK aA0 (f3 (fv 6) (fv 8) (fv 9)))) (dA (n:=4) rfl rfl (aP (fG 10 fO.nd) (aP (fG 11 fO.nd) (aP (fG 12 fO.nd) (aP (fG 13 fO.nd) cJ))))) (aE (eI PassesOwn.never rfl (gF rfl TX.n_range (f1 (fE rfl rfl TX.n_len (f1 (fv 12))))) (fG 14 fO.nd) (aB (gH (i:=16) (j:=17) rfl fO.nd rfl rfl ∅ rfl rfl (f2 (fX (fv 12) (fv 14)) (fX (fv 12) (aS iD (a7 cO (fv 14) aA) (fE rfl rfl TX.n_len (f1 (fv 12)))))) rfl) (aB (fS 15 fO.nd (cN (f3 (fv 16) (fv 17) (fK sj (f2 (fK zj (f2 (fv 16) (fv 17))) (aN (f2 aA aA))))))) (aE (bN (Yv (FY (FW (FH rfl (fv 13) (fv 14) (λ_ _=>rfl)) bK) (U1 (Nm (iB (FF rfl rfl rfl TX.n_all (f1 (iR (N':=["_law_spot","_law_path","_law_by"]) (t:=1) (cap:=[(6,false),(5,false)]) rfl (bV.of rfl) rfl ∅ (eF rfl (fv 15)) (λ_ _ _ _=>(fH 0)) (λ_ _ _ _=>(fK aAM (f3 (fv 1) (fv 0) (fv 2)))))))))))) (aE (aG uQ)) a8)))))))))))))) (aE (aG uQ))))) ?_;rintro as Q ⟨ns,rfl,hl,q⟩;refine⟨ns,2,rfl,hl,∅,∅,λcs l6=>?_⟩;have lc:((bQ cs).length:Int)=cs.length:=by simp[bQ]
 obtain⟨m,hm⟩:∃m:Int,m=(if(2:Int)<((bQ cs).length:Int)then((bQ cs).length:Int)else 2):=⟨_,rfl⟩;have m5:m<=3/\0<=m:=by rw[hm];split<;>lia
 refine⟨⟨by show -(2^62:Int)<=(if(2:Int)<((bQ cs).length:Int)then((bQ cs).length:Int)else 2);rw[<-hm];lia,by show(if(2:Int)<((bQ cs).length:Int)then((bQ cs).length:Int)else 2)<2^62;rw[<-hm];lia⟩,?_⟩;show xS _ (fJ _ _ _ (iY 0 (if(2:Int)<((bQ cs).length:Int)then((bQ cs).length:Int)else 2).toNat));rw[<-hm];refine cA (λi E=>∃v2 v3 v4 v5 v6 v7 v8 v9 v10 v11 v12 v13 zy v15 v16 v17:Option U,E=[⇑(.lst (bQ ns)),↥(bQ cs),v2,v3,v4,v5,v6,v7,v8,v9,v10,v11,v12,v13,zy,v15,v16,v17]) ⟨_,_,_,_,_,_,_,_,_,_,_,_,_,_,_,_,rfl⟩ ?_ ?_
 ·rintro i t rest E hi ⟨v2,v3,v4,v5,v6,v7,v8,v9,v10,v11,v12,v13,zy,v15,v16,v17,rfl⟩ KK;obtain⟨hin,rfl⟩:=nG hi;refine⟨cs,_,rfl,⋯,⋯,λxs bx nl=>?_⟩;obtain⟨A0,B0,c0,rfl,_⟩:=id bx;refine⟨_,_,rfl,bx,⋯,λa b ms p s y1 pm fw hs b1=>?_⟩;obtain⟨A1,B1,c1,rfl,_⟩:=id b1;refine⟨a,b,ms,p,s,rfl,pm,fw,hs,λT hT=>?_⟩;refine⟨a,b,ms,p,s,rfl,pm,fw,hs,λT2 hT2=>?_⟩;rw[hT2.uniq hT];refine⟨cY rfl,?_⟩;show if(!L2.d6 (fr T) (fr T))=true then _ else _;rw[jS,oW ∅];refine⟨a,b,ms,p,s,rfl,pm,fw,hs,λT3 hT3=>?_⟩;rw[hT3.uniq hT];refine⟨cY rfl,?_⟩;show if(!L2.d6 (fr T) (fr T))=true then _ else _;rw[jS,oW ∅];have nk:bC ((1,1000):Fr):=⟨∅,∅⟩;have sk:sz ((1,1000):Fr)<=10:=∅
  have sT:=hT.z;refine⟨T,(1,1000),rfl,hT.n,nk,⋯,?_⟩;have nb:=cE hT.n nk;have sb:=dX hT.n nk;have vb:=bE hT.n nk;have ab:∀x,Qw a b ms p s x->x<val (aW T (1,1000)):=λx hx=>by
   have:=hT.up x hx;have k0:=(fW nk).2 ∅;rw[vb];grind
  have bw:=EI pm fw hs ab;generalize aW T (1,1000)=tb at *;refine⟨a,b,ms,p,s,rfl,pm,fw,hs,?_⟩;refine cA (λj E=>∃v10 v11 v12 v13 zy v15 v16 v17:Option U,E=US (⇑(.lst (bQ ns))) (↥(bQ cs)) (↑(0+(i:Int))) (↥[.int A1,.int B1,.int c1]) T tb a b ms p s v10 v11 v12 v13 zy v15 v16 v17) ⟨_,_,_,_,_,_,_,_,rfl⟩ ?_ ?_
  ·rintro j t aL4 E hj ⟨v10,v11,v12,v13,zy,v15,v16,v17,rfl⟩ KJ;obtain⟨wd,bi,V,mk,rfl,v1,v60,hmk,nV,ed⟩:=bw t (WI hj);have lV:((((V.map aX).length:Nat):Int))=(V.length:Int):=by rw[WJ]
   refine⟨⟨by rw[lV];lia,by rw[lV];lia⟩,?_⟩;show xS _ (fJ _ _ _ (iY 0 ((((V.map aX).length:Nat):Int)).toNat));rw[lV,XU];refine cA (λk E=>∃zy v15 v16 v17:Option U,E=US (⇑(.lst (bQ ns))) (↥(bQ cs)) (↑(0+(i:Int))) (↥[.int A1,.int B1,.int c1]) T tb a b ms p s (⇑(.str wd)) (↑(bi:Int)) (⇑(.tup (V.map aX))) (⇑(.str mk)) zy v15 v16 v17) ⟨_,_,_,_,rfl⟩ ?_ ?_
   ·rintro k t aJ8 E hk ⟨zy,v15,v16,v17,rfl⟩ KI;obtain⟨kl,rfl⟩:=nG hk;rw[ja];have hk0:((k:Int)+1)%(V.length:Int)=(((k+1)%V.length:Nat):Int):=by push_cast;rfl
    have kl2:(k+1)%V.length<V.length:=aj _ v1;obtain⟨g1,m1⟩:=DU kl;obtain⟨g2,m2⟩:=DU kl2;have n1:=nV _ m1;have n2:=nV _ m2;obtain⟨nm,_⟩:=Nx n1 n2;show o1 (eZ (V.map aX) (k:Int)) _;rw[g1];refine⟨by show(0:Int)<((((V.map aX).length:Nat):Int));rw[lV];lia,?_⟩;show o1 (eZ (V.map aX) (((k:Int)+1)%((((V.map aX).length:Nat):Int)))) _;rw[lV,hk0,g2];refine⟨_,_,_,_,230,230,rfl,n1,n2,∅,?_⟩;refine⟨_,_,(1,2),461,rfl,qC n1 n2,uY,∅,?_⟩;have ck:∃c,(jC mk)[k]?=oZ c:=⟨_,WG (by rw[<-Aw,hmk.len];exact kl)⟩;obtain⟨c,hc⟩:=ck;have oc:=hmk.ok c (WI hc);refine⟨by rw[hmk.len];exact XR v60 ∅,?_⟩;show o1 (eZ (jC mk) (k:Int)) _;rw[iO hc];show if(!(Builtin.Str.occurrences "lrb" ⟨#[c]⟩ 0 (XI "lrb").length 1).isEmpty)=true then _ else _;rw[VW c oc]
    by_cases h3:c=108\/c=114\/c=98
    ·rw[oY h3,oV rfl];have eg:=ed k kl c hc h3;have pts:∀j t,([aX (gU V k),aX (gU V ((k+1)%V.length)),aX (KD (gU V k) (gU V ((k+1)%V.length)))]:List L2.T)[j]?=oZ t->∃Z:Fr×Fr,t=aX Z/\Nv Z.1 Z.2 475/\kS a b ms Z.1 Z.2 tb:=λj t hj=>by
      have mem:=WI hj;simp only[WM,YF,or_false]at mem;obtain rfl|rfl|rfl:=mem
      ·exact⟨_,rfl,n1.up ∅,eg.one⟩
      ·exact⟨_,rfl,n2.up ∅,eg.two⟩
      ·exact⟨_,rfl,nm,eg.m⟩
     refine⟨rfl,?_⟩;refine cX (λj E=>∃v0:Option U,E=[v0,⇑(bZ a b (bP a b ms)),⇑(fr tb),↥(WN j (.bl true))]) ⟨none,rfl⟩ ?_ ?_
     ·rintro j t aL5 E hj ⟨v0,rfl⟩ KC;obtain⟨Z,rfl,nZ,nrZ⟩:=pts j t hj;have jl:j<3:=(WE.mp hj).1;refine⟨a,b,ms,Z.1,Z.2,tb,rfl,pm,nZ,nb,⋯,nrZ,?_⟩;refine⟨by show(WN j (L2.T.bl true)).length<9000;simp;lia,KC _ ⟨⇑(aX Z),?_⟩⟩;rw[List.replicate_succ'];rfl
     ·rintro E ⟨v0,rfl⟩;exact⟨rfl,KI _ ⟨_,_,_,_,rfl⟩⟩
    ·rw[oX h3,oW ∅];exact KI _ ⟨_,_,_,_,rfl⟩
   ·rintro E ⟨zy,v15,v16,v17,rfl⟩;exact KJ _ ⟨_,_,_,_,_,_,_,_,rfl⟩
  ·rintro E ⟨v10,v11,v12,v13,zy,v15,v16,v17,rfl⟩;exact KK _ ⟨_,_,_,_,_,_,_,_,_,_,_,_,_,_,_,_,rfl⟩
 ·rintro E ⟨v2,v3,v4,v5,v6,v7,v8,v9,v10,v11,v12,v13,zy,v15,v16,v17,rfl⟩;exact⟨rfl,q⟩
theorem TC{α:Type}{us:List α}(h:us.length=1):∃a0,us=[a0]:=by
 cases us with
 |nil=>simp at h
 |cons a0 us=>
 replace h:us.length=0:=by simpa using h
 cases us with
 |nil=>exact⟨a0,rfl⟩
 |cons a us=>simp at h
theorem TF{α:Type}{us:List α}(h:us.length=2):∃a0 a1,us=[a0,a1]:=by
 cases us with
 |nil=>simp at h
 |cons a0 us=>
 replace h:us.length=1:=by simpa using h
 cases us with
 |nil=>simp at h
 |cons a1 us=>
 replace h:us.length=0:=by simpa using h
 cases us with
 |nil=>exact⟨a0,a1,rfl⟩
 |cons a us=>simp at h
theorem TH{α:Type}{us:List α}(h:us.length=3):∃a0 a1 a2,us=[a0,a1,a2]:=by
 cases us with
 |nil=>simp at h
 |cons a0 us=>
 replace h:us.length=2:=by simpa using h
 cases us with
 |nil=>simp at h
 |cons a1 us=>
 replace h:us.length=1:=by simpa using h
 cases us with
 |nil=>simp at h
 |cons a2 us=>
 replace h:us.length=0:=by simpa using h
 cases us with
 |nil=>exact⟨a0,a1,a2,rfl⟩
 |cons a us=>simp at h
theorem TJ{α:Type}{us:List α}(h:us.length=4):∃a0 a1 a2 a3,us=[a0,a1,a2,a3]:=by
 cases us with
 |nil=>simp at h
 |cons a0 us=>
 replace h:us.length=3:=by simpa using h
 cases us with
 |nil=>simp at h
 |cons a1 us=>
 replace h:us.length=2:=by simpa using h
 cases us with
 |nil=>simp at h
 |cons a2 us=>
 replace h:us.length=1:=by simpa using h
 cases us with
 |nil=>simp at h
 |cons a3 us=>
 replace h:us.length=0:=by simpa using h
 cases us with
 |nil=>exact⟨a0,a1,a2,a3,rfl⟩
 |cons a us=>simp at h
theorem TK{α:Type}{us:List α}(h:us.length=5):∃a0 a1 a2 a3 a4,us=[a0,a1,a2,a3,a4]:=by
 cases us with
 |nil=>simp at h
 |cons a0 us=>
 replace h:us.length=4:=by simpa using h
 cases us with
 |nil=>simp at h
 |cons a1 us=>
 replace h:us.length=3:=by simpa using h
 cases us with
 |nil=>simp at h
 |cons a2 us=>
 replace h:us.length=2:=by simpa using h
 cases us with
 |nil=>simp at h
 |cons a3 us=>
 replace h:us.length=1:=by simpa using h
 cases us with
 |nil=>simp at h
 |cons a4 us=>
 replace h:us.length=0:=by simpa using h
 cases us with
 |nil=>exact⟨a0,a1,a2,a3,a4,rfl⟩
 |cons a us=>simp at h
theorem TL{α:Type}{us:List α}(h:us.length=6):∃a0 a1 a2 a3 a4 a5,us=[a0,a1,a2,a3,a4,a5]:=by
 cases us with
 |nil=>simp at h
 |cons a0 us=>
 replace h:us.length=5:=by simpa using h
 cases us with
 |nil=>simp at h
 |cons a1 us=>
 replace h:us.length=4:=by simpa using h
 cases us with
 |nil=>simp at h
 |cons a2 us=>
 replace h:us.length=3:=by simpa using h
 cases us with
 |nil=>simp at h
 |cons a3 us=>
 replace h:us.length=2:=by simpa using h
 cases us with
 |nil=>simp at h
 |cons a4 us=>
 replace h:us.length=1:=by simpa using h
 cases us with
 |nil=>simp at h
 |cons a5 us=>
 replace h:us.length=0:=by simpa using h
 cases us with
 |nil=>exact⟨a0,a1,a2,a3,a4,a5,rfl⟩
 |cons a us=>simp at h
def Tc(K:W.Frag):Sp:=λvs H Q _=>∃(a:jz)(ns:List Int),vs=[.ref a]/\m7 K H a (ns.map V.int)/\ns.length<=63/\∀H',Q (.bl true) H'
theorem GS{K:W.Frag}(vs:List V)(H:Hp)(Q:VK)(E:XK)(h:Tc K vs H Q E):aJ K ON vs H Q E:=by
 obtain⟨a,ns,rfl,hs,hl,q⟩:=h;have no:∀b,¬Ow (λa=>(none:Option jz)=oZ a) [oZ (V.ref a)] [⇑(.lst (bQ ns))] b:=λb z=>by
  obtain z|⟨i,k,xs,h1,_⟩:=z
  ·cases z
  ·match i,h1 with
   |0,h1=>simp at h1
   |_+1,h1=>simp at h1
 have ii:∀ns:List Int,dN K H (Ow (λa=>(none:Option jz)=oZ a) [oZ (V.ref a)] [⇑(.lst (bQ ns))]) (bQ ns) (ns.map V.int):=λns=>by
  have dJ:∀(O:jz->Prop)(ms:List Int),dN K H O (bQ ms) (ms.map V.int):=λO ms=>by
   induction ms with
   |nil=>rfl
   |cons m ms ih=>exact⟨_,_,rfl,rfl,ih⟩
  exact dJ _ ns
 refine⟨[.v (.lst (bQ ns))],λr _=>r = .v (.bl true),none,⟨rfl,λi t h=>?_,λi k xs h=>?_,λi j k l xs ys b h=>?_,λb z=>by cases z⟩,λ_=>rfl,⟨ns,rfl,hl,rfl⟩,λr xs v H' e _ _ rr=>?_⟩
 ·match i,h with
  |0,h=>
   simp[lD]at h;subst h;exact⟨_,rfl,a,_,rfl,hs.imp (λh=>⟨no a,h⟩) id,ii ns⟩
  |_+1,h=>simp[lD]at h
 ·match i,h with
  |0,h=>simp[lD]at h
  |_+1,h=>simp[lD]at h
 ·match i,h with
  |0,h=>simp[lD]at h
  |_+1,h=>simp[lD]at h
 ·subst e;cases rr;exact q H'
def Fc(K:W.Frag)(nm:Str)(st:ki)(f:jz):Prop:=∃(oc:oA)(od:Option jz)(kV dc pm:oA)(an:Option jz)(cd ct:oA)(sl:Array (Option oA)),
 W.nsIn K kr nm=oZ (oZ (.ref f))/\K.lookup f=oZ ⟨oc,od,.func (W.fnOf nm nm (fY st) (c7 st) (aC st) .none kV dc pm an cd ct),sl⟩/\W.codeIn K cd nm=true/\W.keepIn K (.ref f)=true
theorem fc{K:W.Frag}{nm:Str}{st:ki}{f:jz}{oc:oA}{od:Option jz}{kV dc pm:oA}{an:Option jz}{cd ct:oA}{sl:Array (Option oA)}(a:W.nsIn K kr nm=oZ (oZ (.ref f)))(l:K.lookup f=oZ ⟨oc,od,.func (W.fnOf nm nm (fY st) (c7 st) (aC st) .none kV dc pm an cd ct),sl⟩)(c:W.codeIn K cd nm=true)(k:W.keepIn K (.ref f)=true):Fc K nm st f:=⟨_,_,_,_,_,_,_,_,_,a,l,c,k⟩
theorem gm{P:kg}{w:ko}{K:W.Frag}{h base:oE}{mg:Str->Option oA}{nm:Str}{st:ki}{f:jz}{CX:Iw}{k:Nat}{ps:List Str}{sp:Sp}(X:K.In h)(G:h.Ns kr mg)(p:Fc K nm st f)(ok:∀{fd:mf},cK K nm nm st f fd->aV P w K mg base CX k f fd ps sp)
  (bd:∀{fd:mf},cK K nm nm st f fd->lG K fd ps []):∃f fd,aV P w K mg base CX k f fd ps sp/\mg nm=oZ (.ref f)/\W.keepIn K (.ref f)=true/\lG K fd ps []:=by
 obtain⟨_,_,_,_,_,_,_,_,_,a,l,c,k⟩:=p;have F:=Yw (st:=st) l c k;exact⟨f,_,ok F,W.mg_of X G a,k,bd F⟩
theorem yE{P:kg}{w:ko}{K:W.Frag}{h base:oE}{mg:Str->Option oA}{nm:Str}{st:ki}{f:jz}{CX:Iw}{k:Nat}{ps:List Str}{sp:Sp}(X:K.In h)(G:h.Ns kr mg)(p:Fc K nm st f)(ok:∀{fd:mf},cK K nm nm st f fd->aV P w K mg base CX k f fd ps sp)(hl:ps.length=1:=by rfl)
  (hb:∀(kV doc pm:oA)(an:Option jz)(wj ct a0:oA),bindArgs (W.fnOf nm nm (fY st) (c7 st) (aC st) .none kV doc pm an wj ct) ⟨[a0],[]⟩=pure (ps.zip [a0]):=by intros;rfl):∃f fd,aV P w K mg base CX k f fd ps sp/\mg nm=oZ (.ref f)/\W.keepIn K (.ref f)=true/\lG K fd ps []:=
 gm X G p ok λF=>F.binds λkV doc pm an wj ct us e=>by obtain⟨a0,rfl⟩:=TC (e.trans hl);exact hb ..
theorem lW{P:kg}{w:ko}{K:W.Frag}{h base:oE}{mg:Str->Option oA}{nm:Str}{st:ki}{f:jz}{CX:Iw}{k:Nat}{ps:List Str}{sp:Sp}(X:K.In h)(G:h.Ns kr mg)(p:Fc K nm st f)(ok:∀{fd:mf},cK K nm nm st f fd->aV P w K mg base CX k f fd ps sp)(hl:ps.length=2:=by rfl)
  (hb:∀(kV doc pm:oA)(an:Option jz)(wj ct a0 a1:oA),bindArgs (W.fnOf nm nm (fY st) (c7 st) (aC st) .none kV doc pm an wj ct) ⟨[a0,a1],[]⟩=pure (ps.zip [a0,a1]):=by intros;rfl):∃f fd,aV P w K mg base CX k f fd ps sp/\mg nm=oZ (.ref f)/\W.keepIn K (.ref f)=true/\lG K fd ps []:=
 gm X G p ok λF=>F.binds λkV doc pm an wj ct us e=>by obtain⟨a0,a1,rfl⟩:=TF (e.trans hl);exact hb ..
theorem Np{P:kg}{w:ko}{K:W.Frag}{h base:oE}{mg:Str->Option oA}{nm:Str}{st:ki}{f:jz}{CX:Iw}{k:Nat}{ps:List Str}{sp:Sp}(X:K.In h)(G:h.Ns kr mg)(p:Fc K nm st f)(ok:∀{fd:mf},cK K nm nm st f fd->aV P w K mg base CX k f fd ps sp)(hl:ps.length=3:=by rfl)
  (hb:∀(kV doc pm:oA)(an:Option jz)(wj ct a0 a1 a2:oA),bindArgs (W.fnOf nm nm (fY st) (c7 st) (aC st) .none kV doc pm an wj ct) ⟨[a0,a1,a2],[]⟩=pure (ps.zip [a0,a1,a2]):=by intros;rfl):∃f fd,aV P w K mg base CX k f fd ps sp/\mg nm=oZ (.ref f)/\W.keepIn K (.ref f)=true/\lG K fd ps []:=
 gm X G p ok λF=>F.binds λkV doc pm an wj ct us e=>by obtain⟨a0,a1,a2,rfl⟩:=TH (e.trans hl);exact hb ..
theorem U3{P:kg}{w:ko}{K:W.Frag}{h base:oE}{mg:Str->Option oA}{nm:Str}{st:ki}{f:jz}{CX:Iw}{k:Nat}{ps:List Str}{sp:Sp}(X:K.In h)(G:h.Ns kr mg)(p:Fc K nm st f)(ok:∀{fd:mf},cK K nm nm st f fd->aV P w K mg base CX k f fd ps sp)(hl:ps.length=4:=by rfl)
  (hb:∀(kV doc pm:oA)(an:Option jz)(wj ct a0 a1 a2 a3:oA),bindArgs (W.fnOf nm nm (fY st) (c7 st) (aC st) .none kV doc pm an wj ct) ⟨[a0,a1,a2,a3],[]⟩=pure (ps.zip [a0,a1,a2,a3]):=by intros;rfl):∃f fd,aV P w K mg base CX k f fd ps sp/\mg nm=oZ (.ref f)/\W.keepIn K (.ref f)=true/\lG K fd ps []:=
 gm X G p ok λF=>F.binds λkV doc pm an wj ct us e=>by obtain⟨a0,a1,a2,a3,rfl⟩:=TJ (e.trans hl);exact hb ..
theorem UO{P:kg}{w:ko}{K:W.Frag}{h base:oE}{mg:Str->Option oA}{nm:Str}{st:ki}{f:jz}{CX:Iw}{k:Nat}{ps:List Str}{sp:Sp}(X:K.In h)(G:h.Ns kr mg)(p:Fc K nm st f)(ok:∀{fd:mf},cK K nm nm st f fd->aV P w K mg base CX k f fd ps sp)(hl:ps.length=5:=by rfl)
  (hb:∀(kV doc pm:oA)(an:Option jz)(wj ct a0 a1 a2 a3 a4:oA),bindArgs (W.fnOf nm nm (fY st) (c7 st) (aC st) .none kV doc pm an wj ct) ⟨[a0,a1,a2,a3,a4],[]⟩=pure (ps.zip [a0,a1,a2,a3,a4]):=by intros;rfl):∃f fd,aV P w K mg base CX k f fd ps sp/\mg nm=oZ (.ref f)/\W.keepIn K (.ref f)=true/\lG K fd ps []:=
 gm X G p ok λF=>F.binds λkV doc pm an wj ct us e=>by obtain⟨a0,a1,a2,a3,a4,rfl⟩:=TK (e.trans hl);exact hb ..
theorem UP{P:kg}{w:ko}{K:W.Frag}{h base:oE}{mg:Str->Option oA}{nm:Str}{st:ki}{f:jz}{CX:Iw}{k:Nat}{ps:List Str}{sp:Sp}(X:K.In h)(G:h.Ns kr mg)(p:Fc K nm st f)(ok:∀{fd:mf},cK K nm nm st f fd->aV P w K mg base CX k f fd ps sp)(hl:ps.length=6:=by rfl)
  (hb:∀(kV doc pm:oA)(an:Option jz)(wj ct a0 a1 a2 a3 a4 a5:oA),bindArgs (W.fnOf nm nm (fY st) (c7 st) (aC st) .none kV doc pm an wj ct) ⟨[a0,a1,a2,a3,a4,a5],[]⟩=pure (ps.zip [a0,a1,a2,a3,a4,a5]):=by intros;rfl):∃f fd,aV P w K mg base CX k f fd ps sp/\mg nm=oZ (.ref f)/\W.keepIn K (.ref f)=true/\lG K fd ps []:=
 gm X G p ok λF=>F.binds λkV doc pm an wj ct us e=>by obtain⟨a0,a1,a2,a3,a4,a5,rfl⟩:=TL (e.trans hl);exact hb ..
theorem EE{P:kg}{w:ko}{K:W.Frag}{h:oE}{mg:Str->Option oA}{fa f0 f1 f2 f3 f4 f5 f6 f7 f8 f9 f10 f11 f12 f13 f14 f15 f16 f17 f18 f19 f20 f21 f22 f23 f24 f25 f26 f27 f28 f29 f30 f31 f32 f33 f34 f35 f36 f37 f38 f39 f40 f41 f42 f43 f44 f45 f46 f47 f48 f49 f50 f51 f52 f53 f54 f55 f56 f57 f58 f59 f60 f61 f62 f63 f64 f65 f66 f67 f68 f69 f70 f71 f72 f73 f74 f75 f76 f77 f78 f79 f80 f81 f82 f83 f84 f85 f86 f87 f88 f89 f90 f91 f92 f93 f94 f95:jz}(X:K.In h)(G:h.Ns kr mg)(hfa:mg "law" = oZ (.ref fa))
  (p0:Fc K "_law_take" Pz f0)
  (p1:Fc K "common_divisor" jH f1)
  (p2:Fc K "fraction" tG f2)
  (p3:Fc K "added" Hl f3)
  (p4:Fc K "taken" Hw f4)
  (p5:Fc K "times" Hx f5)
  (p6:Fc K "dot" H0 f6)
  (p7:Fc K "left_of" wF f7)
  (p8:Fc K "over" Px f8)
  (p9:Fc K "_law_box" G9 f9)
  (p10:Fc K "whole_root" nW f10)
  (p11:Fc K "root_of" wI f11)
  (p12:Fc K "minus" Ht f12)
  (p13:Fc K "length_of" qM f13)
  (p14:Fc K "unit_of" wN f14)
  (p15:Fc K "right_of" tO f15)
  (p16:Fc K "is_side" wD f16)
  (p17:Fc K "end_of" Ah f17)
  (p18:Fc K "begin_of" tE f18)
  (p19:Fc K "is_closed" qJ f19)
  (p20:Fc K "arc_heading" lZ f20)
  (p21:Fc K "headings" tH f21)
  (p22:Fc K "radius_of" qP f22)
  (p23:Fc K "cross" Ho f23)
  (p24:Fc K "corner_headings" iZ f24)
  (p25:Fc K "corner_word" l8 f25)
  (p26:Fc K "corners" vY f26)
  (p27:Fc K "turned" Aq f27)
  (p28:Fc K "turn_of" wM f28)
  (p29:Fc K "stepped" wK f29)
  (p30:Fc K "has_quarter" l9 f30)
  (p31:Fc K "quarters_between" iF f31)
  (p32:Fc K "compared" tF f32)
  (p33:Fc K "turn_size" qR f33)
  (p34:Fc K "flipped" wB f34)
  (p35:Fc K "merged" Am f35)
  (p36:Fc K "units_between" j5 f36)
  (p37:Fc K "plus" Py f37)
  (p38:Fc K "scaled" Ao f38)
  (p39:Fc K "tip_of" Ap f39)
  (p40:Fc K "least_dot" qL f40)
  (p41:Fc K "_law_folded" Ai f41)
  (p42:Fc K "_law_frac" Hs f42)
  (p43:Fc K "_law_sum" Pw f43)
  (p44:Fc K "_law_less" Hu f44)
  (p45:Fc K "_law_product" tL f45)
  (p46:Fc K "_law_add" Pq f46)
  (p47:Fc K "_law_sub" Pt f47)
  (p48:Fc K "_law_scaled_by" nQ f48)
  (p49:Fc K "_law_cross" Ak f49)
  (p50:Fc K "_law_dot" Pr f50)
  (p51:Fc K "_law_quarter" tM f51)
  (p52:Fc K "_law_unit_at" tN f52)
  (p53:Fc K "_law_one_move" qO f53)
  (p54:Fc K "_law_back" Hq f54)
  (p55:Fc K "_law_path_of" tK f55)
  (p56:Fc K "_law_all_moves" nL f56)
  (p57:Fc K "_law_drawn" Al f57)
  (p58:Fc K "_law_width" An f58)
  (p59:Fc K "_law_case" Hr f59)
  (p60:Fc K "side_strip" nU f60)
  (p61:Fc K "tips_of" wL f61)
  (p62:Fc K "rays_of" wH f62)
  (p63:Fc K "fan" I0 f63)
  (p64:Fc K "fan_units" qI f64)
  (p65:Fc K "corner_fan" nI f65)
  (p66:Fc K "start_cap" qQ f66)
  (p67:Fc K "end_cap" vZ f67)
  (p68:Fc K "arc_vectors" l7 f68)
  (p69:Fc K "arc_units" qH f69)
  (p70:Fc K "inner_of" tI f70)
  (p71:Fc K "with_tips" qS f71)
  (p72:Fc K "sector_marks" k9 f72)
  (p73:Fc K "sectors" wJ f73)
  (p74:Fc K "piece_blocks" k8 f74)
  (p75:Fc K "bends" Hn f75)
  (p76:Fc K "laid_blocks" mB f76)
  (p77:Fc K "blocks" Ag f77)
  (p78:Fc K "part_along" nT f78)
  (p79:Fc K "apart" Hm f79)
  (p80:Fc K "is_between" nJ f80)
  (p81:Fc K "ends_of" wA f81)
  (p82:Fc K "is_on_ray" qK f82)
  (p83:Fc K "is_near_circle" jI f83)
  (p84:Fc K "is_near_piece" j4 f84)
  (p85:Fc K "is_so_near" nK f85)
  (p86:Fc K "is_near" wC f86)
  (p87:Fc K "widened" wO f87)
  (p88:Fc K "arc_offs" tD f88)
  (p89:Fc K "most_off" tJ f89)
  (p90:Fc K "_law_headings" qN f90)
  (p91:Fc K "_law_least_dot" nO f91)
  (p92:Fc K "_law_over" Hv f92)
  (p93:Fc K "_law_fan_units" nN f93)
  (p94:Fc K "_law_due_of" wG f94)
  (p95:Fc K "law" Aj f95)
  {aAO:jz} {aBS aBT aBU aBV aBW aBX:Tok} {aBY:Nat} (aCH:W.nsIn K kr "FAN_MARKS" = oZ (oZ (.ref aAO))) (aCI:K.lookup aAO=oZ { cls:=.type "dict",data:=.dict #[⟨hashStr w "left",.str "left" aBS,.str "r" aBT⟩,⟨hashStr w "right",.str "right" aBU,.str "l" aBV⟩,⟨hashStr w "back",.str "back" aBW,.str "b" aBX⟩] aBY })
  {zr:jz} {aA5 aA6 aA7 aA8 aA9 aBA:Tok} {aBB:Nat} (aBZ:W.nsIn K kr "OTHER_MARK" = oZ (oZ (.ref zr))) (aB0:K.lookup zr=oZ { cls:=.type "dict",data:=.dict #[⟨hashStr w "l",.str "l" aA5,.str "r" aA6⟩,⟨hashStr w "r",.str "r" aA7,.str "l" aA8⟩,⟨hashStr w "-",.str "-" aA9,.str "-" aBA⟩] aBB })
  {aCJ:jz} {aCZ:Option jz} {aC9 aDA:Tok} {aDB:Nat} {aC0:Array (Option oA)} (aDQ:W.nsIn K kr "NOUGHT" = oZ (oZ (.ref aCJ))) (aDR:K.lookup aCJ=oZ ⟨.type "tuple",aCZ,.seq #[.int 0 aC9,.int 1 aDA] aDB,aC0⟩)
  {zu:jz} {aA1:Option jz} {aBC aBD:Tok} {aBE:Nat} {aA2:Array (Option oA)} (aB1:W.nsIn K kr "ONE_blocks" = oZ (oZ (.ref zu))) (aB2:K.lookup zu=oZ ⟨.type "tuple",aA1,.seq #[.int 1 aBC,.int 1 aBD] aBE,aA2⟩)
  {aAP:jz} {aBF:Option jz} {aB3 aB4:Tok} {aB5:Nat} {aBG:Array (Option oA)} (aCK:W.nsIn K kr "ONE_turns" = oZ (oZ (.ref aAP))) (aCL:K.lookup aAP=oZ ⟨.type "tuple",aBF,.seq #[.int 1 aB3,.int 1 aB4] aB5,aBG⟩)
  {aEY:jz} {aEB:Option jz} {aFO aFP:Tok} {aFQ:Nat} {aEC:Array (Option oA)} (aHJ:W.nsIn K kr "TWO" = oZ (oZ (.ref aEY))) (aHK:K.lookup aEY=oZ ⟨.type "tuple",aEB,.seq #[.int 2 aFO,.int 1 aFP] aFQ,aEC⟩)
  (aB6:W.nsIn K kr "isinstance" = oZ none) (aHL:W.nsIn K kr "abs" = oZ none) (aDS:W.nsIn K kr "divmod" = oZ none) (aHM:W.nsIn K kr "min" = oZ none) (aHN:W.nsIn K kr "max" = oZ none) (aHO:W.nsIn K kr "all" = oZ none) (P1:W.nsIn K kr "len" = oZ none) (aHP:W.nsIn K kr "int" = oZ none) (aFR:W.nsIn K kr "bool" = oZ none) (aED:W.nsIn K kr "tuple" = oZ none) (aFS:W.nsIn K kr "list" = oZ none) (aHQ:W.nsIn K kr "str" = oZ none) (aEE:W.nsIn K kr "range" = oZ none) (aCM:W.nsIn K kr "enumerate" = oZ none) (aHR:W.nsIn K kr "zip" = oZ none) :
  ∃fd:mf,(∀(s:oB)(v:oA),BindsTo s fd ⟨[v],[]⟩ [("_law_script",v)])/\∀base:oE,K.In base->base.Ns kr mg->aV P w K mg base cM 16 fa fd ["_law_script"] (Tc K):=by
 obtain⟨oc,od,kV,dc,pm,an,cd,ct,sl,a95,l95,c95,k95⟩:=p95;have e:=hfa.symm.trans (W.mg_of X G a95);cases e;have T:Txt mg:=⟨W.mg_none_of X G aB6,W.mg_none_of X G aHL,W.mg_none_of X G aDS,W.mg_none_of X G aHM,W.mg_none_of X G aHN,W.mg_none_of X G aHO,W.mg_none_of X G P1,W.mg_none_of X G aHP,W.mg_none_of X G aFR,W.mg_none_of X G aED,W.mg_none_of X G aFS,W.mg_none_of X G aHQ,W.mg_none_of X G aEE,W.mg_none_of X G aCM,W.mg_none_of X G aHR⟩;have yu:vE mg w K "FAN_MARKS" "left" "r" "right" "l" "back" "b":=⟨⟨_,_,_,_,_,_,_,_,W.mg_of X G aCH,aCI⟩,∅⟩;have yj:vE mg w K "OTHER_MARK" "l" "r" "r" "l" "-" "-":=⟨⟨_,_,_,_,_,_,_,_,W.mg_of X G aBZ,aB0⟩,∅⟩;have wz:kO mg K "NOUGHT" (.tup [.int 0,.int 1]):=⟨_,W.mg_of X G aDQ,m8 aDR⟩;have wo:kO mg K "ONE_blocks" (.tup [.int 1,.int 1]):=⟨_,W.mg_of X G aB1,m8 aB2⟩;have vf:kO mg K "ONE_turns" (.tup [.int 1,.int 1]):=⟨_,W.mg_of X G aCK,m8 aCL⟩;have aBI:kO mg K "TWO" (.tup [.int 2,.int 1]):=⟨_,W.mg_of X G aHJ,m8 aHK⟩;have F95:=Yw (st:=Aj) l95 c95 k95;refine⟨W.fnOf "law" "law" (fY Aj) (c7 Aj) (aC Aj) .none kV dc pm an cd ct,λs v=>.of_eq rfl,λbase _ _=>?_⟩;have uj: ~~~rB:=⟨lW X G p0 (W9 · T )⟩;have xi: ~~~lH:=⟨lW X G p1 (uZ · T )⟩;have tx: ~~~e7:=⟨lW X G p2 (Ks · T xi)⟩;have tu: ~~~eJ:=⟨lW X G p3 (A7 · T tx)⟩;have um: ~~~jR:=⟨lW X G p4 (C0 · T tx)⟩;have tf: ~~~fA:=⟨lW X G p5 (C2 · T tx)⟩;have vi: ~~~kR:=⟨lW X G p6 (HC · T tf tu)⟩;have uh: ~~~jF:=⟨yE X G p7 (Om · T )⟩;have vq: ~~~mY:=⟨lW X G p8 (W7 · T tx)⟩;have aDP: ~~~Xk:=⟨lW X G p9 (HB · T )⟩;have xr: ~~~rZ:=⟨yE X G p10 (By · T )⟩;have aAD: ~~~yR:=⟨yE X G p11 (Ot · T xr)⟩;have ud: ~~~gN:=⟨lW X G p12 (B7 · T um)⟩;have xb: ~~~mW:=⟨yE X G p13 (Gy · T aAD vi)⟩;have we: ~~~m6:=⟨yE X G p14 (Pb · T xb vq)⟩;have uo: ~~~jQ:=⟨yE X G p15 (La · T )⟩;have uf: ~~~h9:=⟨yE X G p16 (Ol · T )⟩;have tw: ~~~eR:=⟨yE X G p17 (Vy · T uf)⟩;have ug: ~~~iH:=⟨lW X G p18 (Kq · T tw)⟩;have xc: ~~~mV:=⟨yE X G p19 (Gv · T tw)⟩;have xp: ~~~pD:=⟨lW X G p20 (zT · T we ud uh uo)⟩;have ur: ~~~jP:=⟨lW X G p21 (Kt · T ug tw uf we ud xp)⟩;have vm: ~~~kE:=⟨lW X G p22 (Hb · T uf xb ud tw)⟩;have vj: ~~~mF:=⟨lW X G p23 (B2 · T tf um)⟩;have vh: ~~~hX:=⟨lW X G p24 (sX · T ur)⟩;have yd: ~~~pE:=⟨lW X G p25 (zV · T vh vj)⟩;have aAG: ~~~yL:=⟨yE X G p26 (Of · T xc yd)⟩;have aAT: ~~~Co:=⟨lW X G p27 (Wg · T tf um tu)⟩;have aAE: ~~~yU:=⟨yE X G p28 (Pa · T tx)⟩;have yz: ~~~yT:=⟨Np X G p29 (Oy · T aAE tf tx aAT)⟩;have ye: ~~~pF:=⟨lW X G p30 (zW · T vi vj)⟩;have vz: ~~~j8:=⟨Np X G p31 (rN · T ye yz vq vj tu vi vf)⟩;have sv: ~~~dQ:=⟨lW X G p32 (Kr · T )⟩;have yb: ~~~uH:=⟨lW X G p33 (Hd · T vj vi um tu vf)⟩;have yh: ~~~yO:=⟨yE X G p34 (Oi · T )⟩;have aAU: ~~~Ck:=⟨Np X G p35 (Wc · T yb sv)⟩;have se: ~~~cS:=⟨Np X G p36 (vO · T vz yh aAU)⟩;have wq: ~~~uF:=⟨lW X G p37 (W8 · T tu)⟩;have uq: ~~~kJ:=⟨lW X G p38 (We · T tf)⟩;have aAX: ~~~Cn:=⟨lW X G p39 (Wf · T uq wq vq tu vi vf)⟩;have vo: ~~~kC:=⟨yE X G p40 (Gx · T vi sv)⟩;have aAZ: ~~~Ci:=⟨lW X G p41 (Vz · T )⟩;have wk: ~~~pI:=⟨lW X G p42 (B6 · T )⟩;have xa: ~~~uD:=⟨lW X G p43 (W6 · T wk)⟩;have vp: ~~~pJ:=⟨lW X G p44 (B8 · T wk)⟩;have tj: ~~~iI:=⟨lW X G p45 (Kx · T wk)⟩;have zj: ~~~El:=⟨lW X G p46 (W3 · T xa)⟩;have aCX: ~~~Qu:=⟨lW X G p47 (W5 · T vp)⟩;have sj: ~~~eT:=⟨lW X G p48 (Bu · T tj)⟩;have aAY: ~~~Cj:=⟨lW X G p49 (Wa · T vp tj)⟩;have aCY: ~~~Qt:=⟨lW X G p50 (W4 · T xa tj)⟩;have ve: ~~~lJ:=⟨yE X G p51 (Ky · T )⟩;have xx: ~~~xC:=⟨yE X G p52 (Kz · T ve)⟩;have xf: ~~~mX:=⟨lW X G p53 (Ha · T uj xx)⟩;have aBP: ~~~Ja:=⟨yE X G p54 (B4 · T sj)⟩;have xk: ~~~pK:=⟨lW X G p55 (Kw · T zj aCX sj)⟩;have yi: ~~~rT:=⟨lW X G p56 (Br · T uj xf aBP)⟩;have aAW:Fn P w K mg base 6 "_law_drawn" ["_law_box_here","_law_most"] (xJ K Ql):=⟨lW X G p57 (Wb · T uj yi xk)⟩;have aAV: ~~~Cm:=⟨yE X G p58 (Wd · T uj wk)⟩;have aBR:Fn P w K mg base 7 "_law_case" ["_law_box_here"] (xJ K L6):=⟨yE X G p59 (B5 · T uj aAV xf xk aAW)⟩;have yk: ~~~rY:=⟨Np X G p60 (Bw · T ug tw uq uh ur ud wq)⟩;have xv: ~~~sJ:=⟨yE X G p61 (Oz · T aAX)⟩;have wm: ~~~mZ:=⟨lW X G p62 (Oq · T xv)⟩;have zq: ~~~Ek:=⟨UP X G p63 (HD · T wq uq)⟩;have xg: ~~~mT:=⟨U3 X G p64 (Gu · T vh se uh uo)⟩;have ym: ~~~rQ:=⟨UP X G p65 (Bn · T wm xg zq ug yu)⟩;have yw: ~~~uG:=⟨U3 X G p66 (Hc · T ur wm se uh uo zq)⟩;have aAH: ~~~yM:=⟨U3 X G p67 (Og · T ur wm se uh uo zq tw)⟩;have wg: ~~~kQ:=⟨lW X G p68 (zU · T ud ug tw)⟩;have xh: ~~~mS:=⟨Np X G p69 (Gq · T wg se we)⟩;have xl: ~~~pG:=⟨Np X G p70 (Ku · T sv tf um vq tu wz wo aBI)⟩;have yv: ~~~uI:=⟨yE X G p71 (He · T xv)⟩;have xy: ~~~oU:=⟨Np X G p72 (xU · T yj)⟩;have aAF: ~~~yS:=⟨U3 X G p73 (Ox · T vm xh xl vo tu yv xy wq uq wz)⟩;have ya: ~~~oT:=⟨U3 X G p74 (xT · T uf yk aAF)⟩;have zc: ~~~yK:=⟨yE X G p75 (A9 · T aAG)⟩;have yf: ~~~pH:=⟨U3 X G p76 (zX · T zc ya ym xc yw aAH)⟩;have aA0: ~~~Cg:=⟨Np X G p77 (Vx · T yf)⟩;have yn: ~~~rX:=⟨lW X G p78 (Bv · T vq vi sv)⟩;have aBQ: ~~~Iz:=⟨Np X G p79 (A8 · T ug ud tw uq yn vi)⟩;have yo: ~~~rR:=⟨Np X G p80 (Bo · T vj)⟩;have aAK: ~~~yN:=⟨yE X G p81 (Oh · T tw)⟩;have yx: ~~~tY:=⟨Np X G p82 (Gw · T wg yo ud)⟩;have xo: ~~~lI:=⟨UO X G p83 (u0 · T ud vi vm tu um sv tf)⟩;have xq: ~~~mG:=⟨UO X G p84 (vN · T uf sv aBQ tf yx xo)⟩;have yp: ~~~rS:=⟨U3 X G p85 (Bq · T xq aAK ud sv vi tf)⟩;have aAM: ~~~yP:=⟨Np X G p86 (Oj · T yp)⟩;have xw: ~~~sL:=⟨lW X G p87 (Pd · T vq tf tu wo aBI)⟩;have zk: ~~~xA:=⟨U3 X G p88 (Ko · T vm xh vo um xw tu xl wz)⟩;have yr: ~~~xB:=⟨Np X G p89 (Kv · T zc xw vo xg uf zk sv)⟩;have yy: ~~~tZ:=⟨yE X G p90 (Gz · T sj ve)⟩;have xt: ~~~rW:=⟨yE X G p91 (Bt · T aCY vp)⟩;have aAS: ~~~Jb:=⟨lW X G p92 (B9 · T tj)⟩;have yq: ~~~rV:=⟨Np X G p93 (Bs · T aAY se sj ve)⟩;have aAL: ~~~yQ:=⟨U3 X G p94 (Oo · T yy yq aAS tj xa vp xt se)⟩;exact(HE F95 T aAZ aDP aBR yr aAL xa aA0 zj sj aAM).imp GS
theorem UH{l:W.OpenLaw}{XP:(Str->Option oA)->oE->Prop}{YP:ko->oE->Prop}{d:DefRec}{K:Params->W.Frag}(hn:l.most=oZ 63)(hdf:d.params.defaults=[])(hY:∀(w:ko)(h:oE),YP w h->(K w.params).In h)(F:∀(w:ko)(mg:Str->Option oA)(fa:jz)(h:oE),(K w.params).In h->h.Ns kr mg->mg d.name=oZ (.ref fa)->
   ∃fd:mf,(∀(s:oB)(u:oA),BindsTo s fd ⟨[u],[]⟩ [("_law_script",u)])/\∀base:oE,(K w.params).In base->base.Ns kr mg->aV l.prog w (K w.params) mg base cM 16 fa fd ["_law_script"] (Tc (K w.params))):
  W.WalkO q loose XP YP l.row.toRowW d [] (λf vs=>PySem.call f vs):=
 L2.BF (n:=63) (k:=16) (x:="_law_script") (CX:=λ_=>cM) (sp:=λw=>Tc (K w.params)) hn ∅ hdf ⟨rfl,∅,∅,rfl⟩ hY F (λ_ _ a ns hl _ hS=>⟨a,ns,rfl,hS,hl,λ_=>rfl⟩) λ_ _ _ _ _ z=>z
end My
namespace PySem.W.Fast
def tw12422356950579559266:=0
def tw3976339635196833436:=0
def tw13960139367085560080:=0
def tw8677322257665701356:=0
def tw16487960733239958840:=0
def tw13608362377521864673:=0
def tw9117804538436735135:=0
def tw12182516202258156193:=0
def tw11824149872289857424:=0
def tw5269044639302212019:=0
def tw17595320631477135378:=0
def tw3803541189667717685:=0
def tw7231864655472945228:=0
def tw9762158627023154875:=0
def tw5695876659304249885:=0
def tw10585169792277605070:=0
def tw13984852471904693946:=0
def tw2693531891769542100:=0
def tw9719328705913376416:=0
def tw18318533657035451039:=0
def tw15216795440399406657:=0
def tw6004212903716753234:=0
def tw14119164836762307474:=0
def tw16664596123154749745:=0
def tw15374662090741638719:=0
def tw8326305021822655360:=0
def tw17187138450842950318:=0
def tw9018165390764387252:=0
def tw16345552665069660441:=0
def tw2590779043462574301:=0
def tw12830660813640318492:=0
def tw9682403622802766401:=0
def tw6590087903664800468:=0
def tw5754182731092332452:=0
def tw16524444397155885085:=0
def tw7350691109741932620:=0
def tw847348683858240199:=0
def tw3995450635232777122:=0
def tw2531427791914365848:=0
def tw17782308048870375345:=0
def tw17159677127142100670:=0
def tw13657441028038487326:=0
def tw5245396688407895754:=0
def tw17233716669259968360:=0
def tw3938535262601980231:=0
def tw8501988596830207236:=0
def tw10565178932716059909:=0
def tw7640404684748750891:=0
def tw4451834114557972291:=0
def tw16252200435890660844:=0
def tw5275567787353561242:=0
def tw3386848021752118615:=0
def tw3070088547599264587:=0
def tw2656552184591127263:=0
def tw12803444105389281326:=0
def tw5628461932931709656:=0
def tw17595181934310254138:=0
def tw18129231024006690461:=0
def tw1703048379256076035:=0
def tw12263301561031230328:=0
def tw950476598444670185:=0
def tw6970582448449029838:=0
def tw7278983633646236246:=0
def tw8757996246456954984:=0
def tw13074010859151656113:=0
def tw14803211560088696893:=0
def tw14076446022167635714:=0
def tw7282474838835246908:=0
def tw15944096541387523889:=0
def tw10674788098740532411:=0
def tw6021759160050211351:=0
def tw14825064745246042333:=0
def tw9529076922107663128:=0
def tw7528725397511626332:=0
def tw12556841033005090996:=0
def tw8749804634778595016:=0
def tw8350974092615773012:=0
def tw13400083841075176124:=0
def tw3819983211596064775:=0
def tw16540004948226754496:=0
def tw6461546323186846455:=0
def tw10919564567717725591:=0
def tw9751162859871231405:=0
def tw13319271618659332741:=0
def tw15904573184714799282:=0
def tw997460096031024283:=0
def tw6321227419716796712:=0
def tw12583413748160911858:=0
def tw6487211313611888782:=0
def tw9651609511730533306:=0
def tw12815237384033466789:=0
def tw9432025350366268032:=0
def tw16008947863733756522:=0
def tw5624934550179270385:=0
def tw18348799885119304744:=0
def tw6599796425020770979:=0
def tw6774564635289033394:=0
def tw1815606530722914951:=0
def tw4860986713803875738:=0
def tw9961199790879234672:=0
def tw9640506823700297291:=0
def tw3509811572717291800:=0
def tw6940969256613533888:=0
def tw11328737631202597487:=0
def tw17258962627217956697:=0
def tw8656026941523903578:=0
def tw17230131692670089905:=0
def tw10504988025304126633:=0
def tw12220886061507009993:=0
def tw17158174109887610064:=0
def tw3351718821123942606:=0
def tw7131507049205717805:=0
def tw5632653693330529747:=0
def tw4354498955345364552:=0
def tw1936870955469266777:=0
def tw8445104824537204072:=0
def tw7003103090479616617:=0
def tw17735960518858422694:=0
def tw10225496942126789840:=0
def tw10472407052492512710:=0
def tw13138523215395293500:=0
def tw1960227240816559073:=0
def tw12104448606694917697:=0
def tw14926654723533256506:=0
def tw15814219311964045814:=0
def tw9161656027128535935:=0
def tw8382143508681012676:=0
def tw3541650364458757542:=0
def tw13094095167838281019:=0
def tw1661815783674473047:=0
def tw137529493389559666:=0
def tw5797807008263424669:=0
def tw2044907742381691646:=0
def tw6878557961451271506:=0
def tw14462282465563534475:=0
def tw208508999682431071:=0
def tw17143528697599320785:=0
def tw585045324045551980:=0
def tw7396263721781930446:=0
def tw16816638283865099452:=0
def tw16821573451764597489:=0
def tw5691864964011268647:=0
def tw1647557258524553105:=0
def tw3066415740101996823:=0
def tw268288873244368844:=0
def tw9715176881347254:=0
def tw1345107169551868182:=0
def tw3237981535862789200:=0
def tw8004573589343274007:=0
def tw14850766526253975328:=0
def tw14640580444300363989:=0
def tw5012048975209150424:=0
def tw10375821319514495913:=0
def tw4692847404432403852:=0
def tw1956698480721403086:=0
def tw12618345278131152830:=0
def tw8458930640273624385:=0
def tw11231107189279083673:=0
def tw6613965200108015922:=0
def tw7518100949787838673:=0
def tw14718923634844953299:=0
def tw15533170644613819898:=0
def tw17705270526263775441:=0
def tw16236538507571542012:=0
def tw8436381729245661643:=0
def tw11269184128075310961:=0
def tw16376179776194895318:=0
def tw12486517469747377805:=0
def tw4132012936505297349:=0
def tw10230525031491302172:=0
def tw7105334660182372145:=0
def tw12748560387208613795:=0
def tw9610498286594006985:=0
def tw7818601403957342872:=0
def tw600554548783314784:=0
def tw6707616926877366836:=0
def tw8930195077509178393:=0
def tw2569638298568435720:=0
def tw17993105469899570067:=0
def tw786892358062433816:=0
def tw5702882996518490377:=0
def tw12229747460205076362:=0
def tw14634273315007776000:=0
def tw7988290389592738863:=0
def tw3879167107656189379:=0
def tw1418137582758267181:=0
def tw7598605439893992513:=0
def tw17312692347830209938:=0
def tw12093917570522460917:=0
def tw1531439290235275317:=0
def tw14952880517472558832:=0
def tw7679077237605606279:=0
def tw2891205654630731102:=0
def tw18208195773550723156:=0
def tw4924841938336503211:=0
def tw3723214278543103066:=0
def tw5111640586899225645:=0
def tw8773139628299894396:=0
def tw13364680992073356742:=0
def tw9843201262736467522:=0
def tw18108598107282664859:=0
def tw10642506121956785700:=0
def tw6137844811670879761:=0
def tw14026664466242210868:=0
def tw6036467850381838223:=0
def tw7326519877809933402:=0
def tw17017623217023989427:=0
def tw10021618914122835037:=0
def tw16879795443699429348:=0
def tw5123088025376894460:=0
def tw1873323391361619682:=0
def tw6482861938291823852:=0
def tw17822364445644463521:=0
def tw2378464089148341280:=0
def tw6944646431446968245:=0
def tw13810056827892768148:=0
def tw16269990839986027367:=0
def tw11659411553198110851:=0
def tw3976724595831073616:=0
def tw9559822685708249330:=0
def tw148976567099342510:=0
def tw14655582894108397777:=0
def tw5944510532446444827:=0
def tw3053054736554957106:=0
def tw17075867794703338861:=0
def tw1004898860934262662:=0
def tw10454869640602924400:=0
def tw10355834094104129033:=0
def tw4177592760282189007:=0
def tw597379257183646039:=0
end PySem.W.Fast
open PySem PySem.W PyProof.Rows
set_option maxRecDepth 100000 in
set_option maxHeartbeats 0 in
theorem PySem.Challenge.cw_sidecut_k22_how_far_off_at_most_holds : PySem.Challenge.rw_sidecut_k22_how_far_off_at_most.Holds := by
 w_on; o_law; k_head; (case hw => w_witness2)
 k_fill
 refine My.UH (l := PySem.Challenge.rw_sidecut_k22_how_far_off_at_most) rfl rfl (λw h Y => PySem.W.kIn_of Y) ?F
 case F =>
  intro w mg fa h KX G hmg
  refine' My.EE KX G hmg ..
  any_goals exact My.fc rfl rfl rfl rfl
  any_goals k_is
  all_goals kernel_rfl
#print axioms PySem.Challenge.cw_sidecut_k22_how_far_off_at_most_holds
