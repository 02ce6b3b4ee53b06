import PyProof.Rows.All
import Wide.All
import OpenK.AllK
import Wide.FinOn
import Lean
import PyProof.EqAt
import PyProof.EqKinds
import PyProof.TupleCall
import PyProof.NeKinds
import PyProof.ExcInit
import PyProof.Rows.SortStr
import PyProof.Rows.SortWalk
import PyProof.Rows.RuleB_bool
import PyProof.Rows.SortShellK
import KE.KIntText
import KE.KIsAll
import PyProof.AttrMissHeap
import PyProof.CompUse
import PyProof.StrLawsRepr
import PySem.Challenge.RW_sidecut_k61_whole_spoilt_anywhere
set_option Elab.async false
set_option linter.all false
set_option maxRecDepth 100000
namespace L2
open PySem PySem.Spec PyProof.Rows
abbrev Key:=Sum Int Str
def keyIs:Key→Value→Bool
 | .inl k,v=>Value.isInt k v
 | .inr x,v=>Value.isStrOf x v
def keyH (w:World):Key→Int
 | .inl k=>hashInt k
 | .inr x=>hashStr w x
theorem keyIs_shape:∀{k:Key} {v:Value},keyIs k v=true→(∃i t,k=Sum.inl i∧v=Value.int i t)∨(∃x t,k=Sum.inr x∧v=Value.str x t)
 | .inl i,v,h=>by
  obtain ⟨t,e⟩:=Value.isInt_shape (k:=i) (v:=v) h
  exact .inl ⟨i,t,rfl,e⟩
 | .inr x,v,h=>by
  obtain ⟨t,e⟩:=Value.isStrOf_shape (x:=x) (v:=v) h
  exact .inr ⟨x,t,rfl,e⟩
theorem keyIs_int (i:Int) (t:Tok):keyIs (.inl i) (.int i t)=true:=by simp [keyIs,Value.isInt]
theorem keyIs_str (x:Str) (t:Tok):keyIs (.inr x) (.str x t)=true:=by simp [keyIs,Value.isStrOf]
theorem key_ll (a b:Int):decide ((Sum.inl a:Key)=Sum.inl b)=(a==b):=by
 by_cases e:a=b
 ·subst e;simp
 ·have h:¬(Sum.inl a:Key)=Sum.inl b:=fun q=>e (Sum.inl.inj q)
  rw [decide_eq_false h]
  exact (beq_eq_false_iff_ne.mpr e).symm
theorem key_rr (a b:Str):decide ((Sum.inr a:Key)=Sum.inr b)=decide (a=b):=by
 by_cases e:a=b
 ·subst e;simp
 ·have h:¬(Sum.inr a:Key)=Sum.inr b:=fun q=>e (Sum.inr.inj q)
  rw [decide_eq_false h,decide_eq_false e]
theorem key_lr (a:Int) (b:Str):decide ((Sum.inl a:Key)=Sum.inr b)=false:=decide_eq_false (fun q=>nomatch q)
theorem key_rl (a:Str) (b:Int):decide ((Sum.inr a:Key)=Sum.inl b)=false:=decide_eq_false (fun q=>nomatch q)
def mixKind (prog:Program) (w:World):PySem.KeyKind prog w Key where
 is:=keyIs
 hash:=keyH w
 inj:=fun v a b ha hb=>by
  rcases keyIs_shape ha with ⟨i,t,rfl,rfl⟩ | ⟨x,t,rfl,rfl⟩
  ·rcases keyIs_shape hb with ⟨j,u,rfl,e⟩ | ⟨y,u,rfl,e⟩
   ·injection e with e1 _;rw [e1]
   ·exact nomatch e
  ·rcases keyIs_shape hb with ⟨j,u,rfl,e⟩ | ⟨y,u,rfl,e⟩
   ·exact nomatch e
   ·injection e with e1 _;rw [e1]
 byValue:=fun k v h=>by
  rcases keyIs_shape h with ⟨i,t,rfl,rfl⟩ | ⟨x,t,rfl,rfl⟩<;>rfl
 pyHash:=fun hv h=>by
  rcases keyIs_shape hv with ⟨i,t,rfl,rfl⟩ | ⟨x,t,rfl,rfl⟩
  ·exact wpAny_pyHash_int h
  ·exact wpAny_pyHash_str h
 eqBool:=fun hu hv h=>by
  rcases keyIs_shape hu with ⟨i,t,rfl,rfl⟩ | ⟨x,t,rfl,rfl⟩
  ·rcases keyIs_shape hv with ⟨j,u,rfl,rfl⟩ | ⟨y,u,rfl,rfl⟩
   ·rw [key_ll] at h;exact wpAny_eqBool_int h
   ·rw [key_lr] at h;exact SeqAt.EqAt.int_str i t y u _ _ _ _ h
  ·rcases keyIs_shape hv with ⟨j,u,rfl,rfl⟩ | ⟨y,u,rfl,rfl⟩
   ·rw [key_rl] at h;exact SeqAt.EqAt.str_int x t j u _ _ _ _ h
   ·rw [key_rr] at h;exact wpAny_eqBool_str h
 «strs»:=fun k x t v h=>by
  rcases keyIs_shape h with ⟨i,u,rfl,e⟩ | ⟨y,u,rfl,e⟩
  ·exact nomatch e
  ·injection e with e1 _
   subst e1
   cases v<;>rfl
theorem mixKind_int (prog:Program) (w:World) (i:Int) (t:Tok):(mixKind prog w).is (.inl i) (.int i t)=true:=keyIs_int i t
theorem mixKind_str (prog:Program) (w:World) (x:Str) (t:Tok):(mixKind prog w).is (.inr x) (.str x t)=true:=keyIs_str x t
inductive V where
 | non | bl (b:Bool) | int (i:Int) | str (x:Str) | byt (b:Array UInt8) | flt (b:UInt64) | ref (a:Addr) | ty (n:String)
 deriving DecidableEq
def RelV:V→Value→Prop
 | .non,u=>u=Value.none
 | .bl b,u=>u=Value.bool b
 | .int i,u=>∃t,u=Value.int i t
 | .str x,u=>∃t,u=Value.str x t
 | .byt b,u=>∃t,u=Value.bytes b t
 | .flt b,u=>∃t,u=Value.float b t
 | .ref a,u=>u=Value.ref a
 | .ty n,u=>u=Value.type n
abbrev Vals:List V→List Value→Prop:=Paired RelV
theorem Vals.length {xs:List V} {us:List Value} (r:Vals xs us):xs.length=us.length:=Paired.length r
theorem Vals.get:∀{xs:List V} {us:List Value} {i:Nat} {x:V},Vals xs us→xs[i]? = some x→∃u,us[i]? = some u∧RelV x u
 | _,_,_,_,.nil,e=>by simp at e
 | _,_,0,_,.cons r _,e=>by simp at e;subst e;exact ⟨_,rfl,r⟩
 | _,_,i+1,x,.cons _ t,e=>by
  obtain ⟨u,h1,h2⟩:=Vals.get (i:=i) (x:=x) t (by simpa using e)
  exact ⟨u,by simpa using h1,h2⟩
theorem Vals.set {x:V} {u:Value} (r:RelV x u):∀{xs:List V} {us:List Value} (i:Nat),Vals xs us→Vals (xs.set i x) (us.set i u)
 | _,_,_,.nil=>.nil
 | _,_,0,.cons _ t=>.cons r t
 | _,_,i+1,.cons q t=>.cons q (Vals.set r i t)
theorem Vals.append:∀{xs ys:List V} {us ws:List Value},Vals xs us→Vals ys ws→Vals (xs++ys) (us++ws)
 | _,_,_,_,.nil,s=>s
 | _,_,_,_,.cons r t,s=>.cons r (Vals.append t s)
theorem Vals.take:∀{xs:List V} {us:List Value} (n:Nat),Vals xs us→Vals (xs.take n) (us.take n)
 | _,_,0,_=>.nil
 | _,_,_+1,.nil=>.nil
 | _,_,n+1,.cons r t=>.cons r (Vals.take n t)
theorem Vals.drop:∀{xs:List V} {us:List Value} (n:Nat),Vals xs us→Vals (xs.drop n) (us.drop n)
 | _,_,0,r=>r
 | _,_,_+1,.nil=>.nil
 | _,_,n+1,.cons _ t=>Vals.drop n t
def RelO:Option V→Option Value→Prop
 | some v,some u=>RelV v u
 | none,none=>True
 | _,_=>False
def KV {κ:Type}:List (κ×V)→List (κ×Value)→Prop:=Paired fun (p:κ×V) (q:κ×Value)=>p.1=q.1∧RelV p.2 q.2
def kV:Key→V
 | .inl i=>.int i
 | .inr x=>.str x
inductive HO where
 | lst (xs:List V)
 | tup (xs:List V)
 | dK (kvs:List (Key×V)) | dT (kvs:List (List Key×V))
 | set (S:Int→Bool) (n:Nat)
 | ins (C dx:Addr) (fs:List (Str×V))
 | own (x:Addr)
 | xd (fs:List (Str×V))
 | met (f x:Addr)
 | rng (lo hi:Int)
 | frz (o:Obj) (u:HO)
 | tbl (ps:Array Value)
 | ext (φ:Heap→Prop)
abbrev Hp:=Addr→Option HO
def upd (H:Hp) (a:Addr) (o:HO):Hp:=fun b=>if b=a then some o else H b
theorem upd_same {H:Hp} {a:Addr} {o:HO}:upd H a o a=some o:=by unfold upd;rw [if_pos rfl]
theorem upd_ne {H:Hp} {a b:Addr} {o:HO} (h:b≠a):upd H a o b=H b:=by unfold upd;rw [if_neg h]
theorem ne_of_none {H:Hp} {a b:Addr} {o:HO} (h:H a=some o) (h':H b=none):a≠b:=by
 intro e;subst e;rw [h] at h';cases h'
section
variable (P:Program) (w:World)
def ObjOk (H:Hp) (h:Heap) (a:Addr):HO→Prop
 | .lst xs=>xs.length≤sizeLine∧∃(its:List Value) (n:Nat),Vals xs its∧h.get? a=some { cls:=.type "list",data:=.seq its.toArray n }
 | .tup xs=>xs.length≤sizeLine∧∃its:List Value,Vals xs its∧IsTup h a its.toArray
 | .dK kvs=>kvs.length≤sizeLine∧(a==sysModules)=false∧∃vs,KV kvs vs∧h.DictOf (mixKind P w) a vs
 | .dT kvs=>kvs.length≤sizeLine∧(a==sysModules)=false∧∃xs:List (List Key×Addr×Value),
   Paired (fun (p:List Key×V) (q:List Key×Addr×Value)=>p.1=q.1∧H q.2.1=some (.tup (p.1.map kV))∧RelV p.2 q.2.2) kvs xs∧
   ∃o es ep,h.get? a=some o∧o.ExactDict∧o.data = .dict es ep∧es.toList=xs.map (entryOfKey (tupleKind (mixKind P w)))∧(xs.map (·.1)).Nodup
 | .set S n=>h.SetOf (intKind P w) a S n
 | .ins C dx fs=>H dx=some (.own a)∧fs.length≤1000∧dx≠a∧h.get? a=some (PySem.W.instObj C dx)∧
   ∃mA,h.Ns1 dx mA∧(∀f,RelO (fs.lookup f) (mA f))∧PySem.Within mA (fs.map (·.1))
 | .own _=>∃o,h.get? a=some o
 | .xd fs=>∃mA,h.Ns1 a mA∧∀f,RelO (fs.lookup f) (mA f)
 | .rng lo hi=>∃t u v,h.get? a=some { cls:=.type "range",data:=.fields #[.int lo t,.int hi u,.int 1 v] }
 | .frz o u=>h.get? a=some o∧ObjOk H h a u
 | .tbl ps=>h.get? a=some { cls:=.none,data:=.fields ps }
 | .met f x=>h.get? a=some (PySem.W.methodObj (.ref f) (.ref x))
 | .ext φ=>φ h∧(∃o,h.get? a=some o)∧∀h1 h2:Heap,φ h1→(∀o,h1.get? a=some o→h2.get? a=some o)→φ h2
def HOk (H:Hp) (h:Heap):Prop:=∀a o,H a=some o→ObjOk P w H h a o
end
section
variable {P:Program} {w:World} {H H':Hp} {h h':Heap} {a:Addr} {o:HO}
theorem ObjOk.lt (x:ObjOk P w H h a o):a<h.objs.size:=by
 cases o with
 | lst xs=>obtain ⟨_,_,_,_,e⟩:=x;exact Heap.lt_size e
 | tup xs=>obtain ⟨_,_,_,p⟩:=x;exact p.lt
 | dK kvs=>obtain ⟨_,_,_,_,o,_,_,e,_⟩:=x;exact Heap.lt_size e
 | dT kvs=>obtain ⟨_,_,_,_,o,_,_,e,_⟩:=x;exact Heap.lt_size e
 | set S n=>obtain ⟨o,_,_,_,e,_⟩:=x;exact Heap.lt_size e
 | ins C dx fs=>obtain ⟨_,_,_,e,_⟩:=x;exact Heap.lt_size e
 | own y=>obtain ⟨_,e⟩:=x;exact Heap.lt_size e
 | xd fs=>obtain ⟨_,⟨_,_,_,e,_⟩,_⟩:=x;exact Heap.lt_size e
 | rng lo hi=>obtain ⟨_,_,_,e⟩:=x;exact Heap.lt_size e
 | frz ob u=>obtain ⟨e,_⟩:=x;exact Heap.lt_size e
 | tbl ps=>exact Heap.lt_size (show h.get? a=some _ from x)
 | met f y=>exact Heap.lt_size (show h.get? a=some _ from x)
 | ext φ=>obtain ⟨_,⟨_,e⟩,_⟩:=x;exact Heap.lt_size e
theorem Paired.mapP {α β:Type} {F G:α→β→Prop}:∀{l₁:List α} {l₂:List β},Paired F l₁ l₂→(∀a b,F a b→G a b)→Paired G l₁ l₂
 | _,_,.nil,_=>.nil
 | _,_,.cons r t,f=>.cons (f _ _ r) (Paired.mapP t f)
theorem ObjOk.stay (x:ObjOk P w H h a o) (k:∀b u,(b=a∨H b=some (.own a))→h.get? b=some u→h'.get? b=some u)
  (ho:∀b,H b=some (.own a)→H' b=some (.own a)) (ht:∀b xs,H b=some (.tup xs)→H' b=some (.tup xs)):ObjOk P w H' h' a o:=by
 induction o with
 | lst xs=>obtain ⟨z,its,n,r,e⟩:=x;exact ⟨z,its,n,r,k _ _ (.inl rfl) e⟩
 | tup xs=>obtain ⟨z,its,r,ob,e,c⟩:=x;exact ⟨z,its,r,ob,k _ _ (.inl rfl) e,c⟩
 | dK kvs=>obtain ⟨z,y,vs,r,ob,es,ep,e,c⟩:=x;exact ⟨z,y,vs,r,ob,es,ep,k _ _ (.inl rfl) e,c⟩
 | dT kvs=>
  obtain ⟨z,y,xs,r,ob,es,ep,e,c⟩:=x
  exact ⟨z,y,xs,Paired.mapP r fun p q z=>⟨z.1,ht _ _ z.2.1,z.2.2⟩,ob,es,ep,k _ _ (.inl rfl) e,c⟩
 | set S n=>obtain ⟨ob,es,ep,t,e,c⟩:=x;exact ⟨ob,es,ep,t,k _ _ (.inl rfl) e,c⟩
 | ins C dx fs=>
  obtain ⟨d,z,ne,e,mA,⟨od,es,ep,e2,c⟩,r⟩:=x
  exact ⟨ho _ d,z,ne,k _ _ (.inl rfl) e,mA,⟨od,es,ep,k _ _ (.inr d) e2,c⟩,r⟩
 | own y=>obtain ⟨ob,e⟩:=x;exact ⟨ob,k _ _ (.inl rfl) e⟩
 | xd fs=>obtain ⟨mA,⟨od,es,ep,e,c⟩,r⟩:=x;exact ⟨mA,⟨od,es,ep,k _ _ (.inl rfl) e,c⟩,r⟩
 | rng lo hi=>obtain ⟨t,u,v,e⟩:=x;exact ⟨t,u,v,k _ _ (.inl rfl) e⟩
 | frz ob u ih=>obtain ⟨e,q⟩:=x;exact ⟨k _ _ (.inl rfl) e,ih q⟩
 | tbl ps=>
  have e:h.get? a=some { cls:=.none,data:=.fields ps }:=x
  show h'.get? a=some { cls:=.none,data:=.fields ps }
  exact k a _ (.inl rfl) e
 | met f y=>
  have e:h.get? a=some (PySem.W.methodObj (.ref f) (.ref y)):=x
  show h'.get? a=some (PySem.W.methodObj (.ref f) (.ref y))
  exact k a _ (.inl rfl) e
 | ext φ=>obtain ⟨p,⟨o,e⟩,st⟩:=x;exact ⟨st _ _ p fun o q=>k _ _ (.inl rfl) q,⟨o,k _ _ (.inl rfl) e⟩,st⟩
theorem HOk.lt (x:HOk P w H h) (e:H a=some o):a<h.objs.size:=(x a o e).lt
theorem HOk.fresh (x:HOk P w H h) (e:h.objs.size≤a):H a=none:=by
 cases q:H a with
 | none=>rfl
 | some u=>exact absurd (Nat.lt_of_lt_of_le (x.lt q) e) (Nat.lt_irrefl _)
theorem HOk.kept (x:HOk P w H h) (k:∀b u,h.get? b=some u→h'.get? b=some u):HOk P w H h':=fun a o e=>
 (x a o e).stay (fun b u _ q=>k b u q) (fun _ q=>q) fun _ _ q=>q
theorem HOk.laid (x:HOk P w H h) (k:∀b u,h.get? b=some u→h'.get? b=some u) (hp:h.objs.size≤a) (new:ObjOk P w (upd H a o) h' a o):HOk P w (upd H a o) h':=fun b u e=>by
 have hn:=x.fresh hp
 by_cases hb:b=a
 ·subst hb;rw [upd_same] at e;cases e;exact new
 ·rw [upd_ne hb] at e
  exact (x b u e).stay (fun c v _ q=>k c v q) (fun c q=>by rw [upd_ne (ne_of_none q hn)];exact q) fun c xs q=>by rw [upd_ne (ne_of_none q hn)];exact q
end
def Rd (H:Hp) (a:Addr) (u:HO):Prop:=H a=some u∨∃o,H a=some (.frz o u)
theorem Rd.ok {P:Program} {w:World} {H:Hp} {h:Heap} {a:Addr} {u:HO} (r:Rd H a u) (x:HOk P w H h):ObjOk P w H h a u:=by
 rcases r with r | ⟨o,r⟩
 ·exact x a u r
 ·obtain ⟨_,q⟩:=x a _ r
  exact q
def Mut:Option HO→Prop
 | some (.lst _)=>True
 | some (.dK _)=>True
 | some (.dT _)=>True
 | some (.set _ _)=>True
 | some (.ins _ _ _)=>True
 | some (.ext _)=>True
 | _=>False
section
variable {P:Program} {w:World} {H:Hp} {h h':Heap} {x e:Addr} {o':HO}
theorem HOk.write (ok:HOk P w H h) (mu:Mut (H x)) (he:e=x∨H e=some (.own x)) (k:∀b u,b≠e→h.get? b=some u→h'.get? b=some u) (heo:∃u,h'.get? e=some u)
  (new:ObjOk P w (upd H x o') h' x o'):HOk P w (upd H x o') h':=fun b u q=>by
 have nown:∀c y,H c=some (.own y)→c≠x:=fun c y r z=>by subst z;rw [r] at mu;exact mu
 have ntup:∀c xs,H c=some (.tup xs)→c≠x:=fun c xs r z=>by subst z;rw [r] at mu;exact mu
 by_cases hb:b=x
 ·subst hb;rw [upd_same] at q;cases q;exact new
 ·rw [upd_ne hb] at q
  by_cases hbe:b=e
  ·have q':H b=some (.own x):=by
    rcases he with z | z
    ·exact absurd (hbe.trans z) hb
    ·rw [hbe];exact z
   rw [q] at q';cases q'
   obtain ⟨v,hv⟩:=heo
   exact ⟨v,by rw [hbe];exact hv⟩
  ·refine (ok b u q).stay (fun c v hc r=>k c v ?_ r) (fun c r=>by rw [upd_ne (nown c b r)];exact r) fun c xs r=>by rw [upd_ne (ntup c xs r)];exact r
   rcases hc with rfl | hc
   ·exact hbe
   ·rintro rfl
    rcases he with z | z
    ·exact nown c b hc z
    ·rw [hc] at z;cases z;exact hb rfl
end
structure Un (fs ex:List Addr) (H H':Hp) (h h':Heap):Prop where
 keep:∀b o,h.get? b=some o→H b=none→b∉fs→b∉ex→h'.get? b=some o
 slot:∀b o,h.get? b=some o→H b=none→b∈fs→b∉ex→∃sl,h'.get? b=some { o with slots:=sl }
 free:∀b o,h.get? b=some o→H b=none→b∉ex→H' b=none
 there:∀b o,h.get? b=some o→b∉ex→∃o',h'.get? b=some o'
 tups:∀b xs,H b=some (.tup xs)→H' b=some (.tup xs)
 frzs:∀b o u,H b=some (.frz o u)→H' b=some (.frz o u)
 tbls:∀b ps,H b=some (.tbl ps)→∃more,H' b=some (.tbl (ps++more))
section
variable {fs fs' ex ex':List Addr} {H H1 H2:Hp} {h h1 h2 h':Heap} {a x e:Addr} {o:HO}
theorem Un.any (u:Un fs ex H H1 h h1) {b:Addr} {ob:Obj} (q:h.get? b=some ob) (n:H b=none) (hx:b∉ex):∃sl,h1.get? b=some { ob with slots:=sl }:=by
 by_cases hb:b∈fs
 ·exact u.slot b ob q n hb hx
 ·exact ⟨ob.slots,u.keep b ob q n hb hx⟩
theorem Un.kept (k:∀b u,h.get? b=some u→h'.get? b=some u):Un fs ex H H h h':=
 ⟨fun b ob q _ _ _=>k b ob q,fun b ob q _ _ _=>⟨ob.slots,k b ob q⟩,fun _ _ _ n _=>n,fun b ob q _=>⟨ob,k b ob q⟩,fun _ _ q=>q,fun _ _ _ q=>q,fun _ ps q=>⟨#[],by rw [q];simp⟩⟩
theorem Un.refl:Un fs ex H H h h:=Un.kept fun _ _ q=>q
theorem Un.laid (k:∀b u,h.get? b=some u→h'.get? b=some u) (hp:h.objs.size≤a) (hn:H a=none):Un fs ex H (upd H a o) h h' where
 keep:=fun b u q _ _ _=>k b u q
 slot:=fun b u q _ _ _=>⟨u.slots,k b u q⟩
 free:=fun b u q n _=>by rw [upd_ne (Nat.ne_of_lt (Nat.lt_of_lt_of_le (Heap.lt_size q) hp))];exact n
 there:=fun b u q _=>⟨u,k b u q⟩
 tups:=fun b xs q=>by rw [upd_ne (ne_of_none q hn)];exact q
 frzs:=fun b u xs q=>by rw [upd_ne (ne_of_none q hn)];exact q
 tbls:=fun b ps q=>⟨#[],by rw [upd_ne (ne_of_none q hn),q];simp⟩
theorem Un.write (mu:Mut (H x)) (he:e=x∨H e=some (.own x)) (k:∀b u,b≠e→h.get? b=some u→h'.get? b=some u) (heo:∃u,h'.get? e=some u):Un fs ex H (upd H x o) h h':=by
 have hx:∀b,H b=none→b≠x:=fun b n z=>by subst z;rw [n] at mu;exact mu
 have hb:∀b,H b=none→b≠e:=fun b n z=>by
  subst z
  rcases he with r | r
  ·exact hx b n r
  ·rw [n] at r;cases r
 have hm:∀b u,H b=some u→¬Mut (some u)→b≠x:=fun b u q nm z=>by subst z;rw [q] at mu;exact nm mu
 refine ⟨fun b u q n _ _=>k b u (hb b n) q,fun b u q n _ _=>⟨u.slots,k b u (hb b n) q⟩,fun b u q n _=>by rw [upd_ne (hx b n)];exact n,fun b u q _=>?_,
  fun b xs q=>by rw [upd_ne (hm b _ q fun z=>z)];exact q,fun b u xs q=>by rw [upd_ne (hm b _ q fun z=>z)];exact q,fun b ps q=>⟨#[],by rw [upd_ne (hm b _ q fun z=>z),q];simp⟩⟩
 by_cases hbe:b=e
 ·subst hbe;exact heo
 ·exact ⟨u,k b u hbe q⟩
end
def trk (h:Heap) (H:Hp):List Addr:=(List.range h.objs.size).filter fun a=>(H a).isSome
def hidT (h:Heap) (H:Hp):Heap:=PySem.W.hideAll h (trk h H)
theorem hidT_size (h:Heap) (H:Hp):(hidT h H).objs.size=h.objs.size:=PySem.W.hideAll_size _ _
theorem hidT_get {h:Heap} {H:Hp} {b:Addr} {o:Obj} (e:h.get? b=some o) (n:H b=none):(hidT h H).get? b=some o:=
 PySem.W.hideAll_get _ e fun hm=>by
  have q:(H b).isSome=true:=(List.mem_filter.mp hm).2
  rw [n] at q;simp at q
theorem of_hidT {h:Heap} {H:Hp} {b:Addr} {o:Obj} (e:(hidT h H).get? b=some o):h.get? b=some o∧H b=none:=by
 have e':h.get? b=some o:=PySem.W.of_hideAll (trk h H) e
 refine ⟨e',?_⟩
 cases q:H b with
 | none=>rfl
 | some x=>
  have hm:b∈trk h H:=List.mem_filter.mpr ⟨List.mem_range.mpr (Heap.lt_size e'),by simp [q]⟩
  have z:(hidT h H).get? b=none:=PySem.W.hideAll_none (trk h H) hm
  rw [z] at e;cases e
structure Mod (K:PySem.W.Frag) (mg:Str→Option Value) (base:Heap):Prop where
 kin:K.In base
 glob:base.Ns mainGlobals mg
 blt:∃mb,base.Ns builtinsNs mb∧∀x:Str,x≠"__name__"→mb x=bootBuiltins x
 nolimit:base.NoLimit
structure Cx where
 prog:Program
 w:World
 K:PySem.W.Frag
 mg:Str→Option Value
 base:Heap
 A:Around
 N:List Str
 s₀:Shared
 H₀:Hp
 env:Env
 outer:List Env
 stack:List Env
 ex:List Addr
 fn:Str→Bool
 calm:Bool
 pn:List (Addr×Obj)
 xe:Value→Shared→Prop
def frs (l:List Env):List Addr:=l.filterMap (·.frame)
abbrev Cx.fs (X:Cx):List Addr:=frs X.outer
def Vis (sc:Scope) (x:Str):Prop:=sc.names.lookup x=some .local∨sc.names.lookup x=some .cell∨sc.names.lookup x=some .free
def Loc (sc:Scope) (x:Str):Prop:=sc.names.lookup x=some .local∨sc.names.lookup x=some .cell
def Look (env:Env) (h:Heap) (m:Str→Option Value) (x:Str) (u:Value):Prop:=
 (env.kindOf x=some .local∧m x=some u)∨((env.kindOf x=some .cell∨env.kindOf x=some .free)∧∃c,env.cells.lookup x=some c∧h.IsCell c (some u))
structure Cx.Ok (X:Cx):Prop where
 mod:Mod X.K X.mg X.base
 kind:X.env.scope.kind = .function
 glob:X.env.globals=mainGlobals
 blt:X.env.builtins=builtinsNs
 above:X.s₀.heap.objs.size≤X.env.locals
 inj:∀x y c,X.env.cells.lookup x=some c→X.env.cells.lookup y=some c→x=y
 has:∀x,(X.env.kindOf x=some .cell∨X.env.kindOf x=some .free)→∃c,X.env.cells.lookup x=some c
 cab:∀x c,X.fn x=true→X.env.cells.lookup x=some c→X.s₀.heap.objs.size≤c
 hd:X.calm=true→X.A.handled=none
 frames:X.A.frames=some X.stack
 stk:X.stack=X.outer∨(X.stack=X.env::X.outer∧X.env.frame=some X.env.locals)
 exf:∀b∈X.ex,b≠X.env.locals∧∀x c,X.env.cells.lookup x=some c→c≠b
 bs:∀b o,X.base.get? b=some o→X.s₀.heap.get? b=some o∧X.H₀ b=none
 bsz:X.base.objs.size≤X.s₀.heap.objs.size
 noex:∀b o,X.base.get? b=some o→b∉X.ex
 exfs:∀b∈X.ex,b∉X.fs
 funs:X.s₀.heap.FunFrames X.base X.outer
 frf:∀b∈X.fs,X.H₀ b=none
structure Inv (X:Cx) (pins:List (Addr×Obj)) (σ:List (Option V)) (H:Hp) (s:Shared):Prop where
 ok:X.Ok
 os:s.os=X.s₀.os
 bare:AllBare s.gens
 base:Un X.fs X.ex X.H₀ H X.s₀.heap s.heap
 loc:∃m,s.heap.Ns X.env.locals m∧∀(i:Nat) (x:Str) (v:V),X.N[i]? = some x→σ[i]? = some (some v)→Vis X.env.scope x→∃u,RelV v u∧Look X.env s.heap m x u
 cell:∀x c,X.env.cells.lookup x=some c→∃v,s.heap.IsCell c v
 free:H X.env.locals=none
 freeC:∀x c,X.env.cells.lookup x=some c→H c=none
 pin:∀p∈X.pn++pins,s.heap.get? p.1=some p.2∧H p.1=none∧p.1≠X.env.locals∧p.1∉X.fs∧∀v,p.2.data≠.cell v
 hok:HOk X.prog X.w H s.heap
 len:σ.length=X.N.length
section
variable {X:Cx} {pins:List (Addr×Obj)} {σ:List (Option V)} {H H':Hp} {s:Shared} {h':Heap}
theorem Cx.Ok.nofr (ok:X.Ok) {b:Addr} {o:Obj} (e:X.base.get? b=some o):b∉X.fs:=fun hb=>by
 have:=(ok.funs.mem hb).1
 rw [e] at this;cases this
theorem Inv.bs (I:Inv X pins σ H s):∀b o,X.base.get? b=some o→s.heap.get? b=some o∧H b=none:=fun b o e=>
 ⟨I.base.keep b o (I.ok.bs b o e).1 (I.ok.bs b o e).2 (I.ok.nofr e) (I.ok.noex b o e),I.base.free b o (I.ok.bs b o e).1 (I.ok.bs b o e).2 (I.ok.noex b o e)⟩
theorem Inv.bk (I:Inv X pins σ H s):∀b o,X.base.get? b=some o→s.heap.get? b=some o:=fun b o e=>(I.bs b o e).1
theorem Inv.mod (I:Inv X pins σ H s):Mod X.K X.mg X.base:=I.ok.mod
theorem Inv.kIn (I:Inv X pins σ H s):X.K.In s.heap:=I.ok.mod.kin.keeps I.bk
theorem Inv.lt (I:Inv X pins σ H s):X.env.locals<s.heap.objs.size:=let ⟨_,hn,_⟩:=I.loc;hn.lt
theorem Inv.sz (I:Inv X pins σ H s):X.s₀.heap.objs.size≤s.heap.objs.size:=Nat.le_trans I.ok.above (Nat.le_of_lt I.lt)
theorem Inv.nofs (I:Inv X pins σ H s) {a:Addr} (h:s.heap.objs.size≤a):a∉X.fs:=fun hb=>by
 obtain ⟨_,o,ho,_⟩:=I.ok.funs.mem hb
 exact absurd (Nat.lt_of_lt_of_le (Heap.lt_size ho) (Nat.le_trans I.sz h)) (Nat.lt_irrefl _)
theorem Inv.cne (I:Inv X pins σ H s):∀x c,X.env.cells.lookup x=some c→c≠X.env.locals:=fun x c e z=>by
 obtain ⟨v,o,ho,hd⟩:=I.cell x c e
 obtain ⟨m,⟨o',es,ep,ho',hd',_⟩,_⟩:=I.loc
 rw [z,ho'] at ho;cases ho;rw [hd'] at hd;cases hd
theorem Inv.funs (I:Inv X pins σ H s):s.heap.FunFrames X.base X.outer:=by
 have all:∀(l:List Env),(∀b∈frs l,b∈X.fs)→X.s₀.heap.FunFrames X.base l→s.heap.FunFrames X.base l:=by
  intro l
  induction l with
  | nil=>intro _ _;trivial
  | cons env r ih=>
   intro hs hl
   obtain ⟨hk,⟨L,o,hf,hn,ho,hd⟩,hr⟩:=hl
   have hL:L∈X.fs:=hs L (by unfold frs;rw [List.filterMap_cons,hf];exact List.mem_cons_self)
   obtain ⟨sl,e⟩:=I.base.slot L o ho (I.ok.frf L hL) hL fun z=>I.ok.exfs L z hL
   exact ⟨hk,⟨L,_,hf,hn,e,hd⟩,ih (fun b hb=>hs b (by unfold frs;rw [List.filterMap_cons,hf];exact List.mem_cons_of_mem _ hb)) hr⟩
 exact all X.outer (fun _ hb=>hb) I.ok.funs
theorem Inv.stack (I:Inv X pins σ H s):s.heap.FunFrames X.base X.stack:=by
 rcases I.ok.stk with e | ⟨e,hf⟩
 ·rw [e];exact I.funs
 ·rw [e]
  obtain ⟨m,hn,_⟩:=I.loc
  refine .cons (by rw [I.ok.kind];decide) hf hn ?_ I.funs
  exact Heap.get?_none_of_le (Nat.le_trans I.ok.bsz I.ok.above)
theorem Inv.stkSub (I:Inv X pins σ H s):∀b∈frs X.stack,b∈X.env.locals::X.fs:=fun b hb=>by
 rcases I.ok.stk with e | ⟨e,hf⟩
 ·rw [e] at hb;exact List.mem_cons_of_mem _ hb
 ·rw [e] at hb
  unfold frs at hb
  rw [List.filterMap_cons,hf] at hb
  exact hb
theorem Inv.stkFree (I:Inv X pins σ H s):∀b∈frs X.stack,H b=none:=fun b hb=>by
 rcases List.mem_cons.mp (I.stkSub b hb) with e | hb
 ·rw [e];exact I.free
 ·obtain ⟨_,o,ho,_⟩:=I.ok.funs.mem hb
  exact I.base.free b o ho (I.ok.frf b hb) fun z=>I.ok.exfs b z hb
theorem Inv.step {g':Array GenState} {t':Nat} {d':Drawn} {ch:List Addr} (I:Inv X pins σ H s)
  (hch:∀b∈ch,(b∈X.ex∨X.s₀.heap.objs.size≤b)∧b≠X.env.locals∧(∀x c,X.env.cells.lookup x=some c→c≠b)∧∀p∈X.pn++pins,p.1≠b)
  (keep:∀b o,b≠X.env.locals→b∉X.fs→b∉ch→s.heap.get? b=some o→H b=none→h'.get? b=some o)
  (slot:∀b o,b≠X.env.locals→b∈X.fs→b∉ch→s.heap.get? b=some o→H b=none→∃sl,h'.get? b=some { o with slots:=sl }) (free:∀b o,b∉ch→s.heap.get? b=some o→H b=none→H' b=none)
  (there:∀b o,b∉ch→s.heap.get? b=some o→∃o',h'.get? b=some o')
  (tups:∀b xs,H b=some (.tup xs)→H' b=some (.tup xs)) (frzs:∀b o u,H b=some (.frz o u)→H' b=some (.frz o u)) (tbls:∀b ps,H b=some (.tbl ps)→∃more,H' b=some (.tbl (ps++more)))
  (ns:∀m,s.heap.Ns X.env.locals m→h'.Ns X.env.locals m) (hok:HOk X.prog X.w H' h') (hg:AllBare g') :
  Inv X pins σ H' { s with heap:=h',gens:=g',drawn:=d',toks:=t' }:=by
 have neL:∀b o,X.s₀.heap.get? b=some o→b≠X.env.locals:=fun b o e=>Nat.ne_of_lt (Nat.lt_of_lt_of_le (Heap.lt_size e) I.ok.above)
 have neC:∀b o,X.s₀.heap.get? b=some o→b∉X.ex→b∉ch:=fun b o e hx hb=>by
  rcases (hch b hb).1 with z | z
  ·exact hx z
  ·exact absurd (Nat.lt_of_lt_of_le (Heap.lt_size e) z) (Nat.lt_irrefl _)
 have cellK:∀x c,X.env.cells.lookup x=some c→∀v,s.heap.IsCell c v→h'.IsCell c v:=fun x c e v ⟨o,ho,hd⟩=>by
  have nch:c∉ch:=fun z=>(hch c z).2.2.1 x c e rfl
  by_cases hc:c∈X.fs
  ·obtain ⟨sl,q⟩:=slot c o (I.cne x c e) hc nch ho (I.freeC x c e)
   exact ⟨_,q,hd⟩
  ·exact ⟨o,keep c o (I.cne x c e) hc nch ho (I.freeC x c e),hd⟩
 refine ⟨I.ok,I.os,hg,⟨fun b o e n hb hx=>?_,fun b o e n hb hx=>?_,fun b o e n hx=>?_,fun b o e hx=>?_,fun b xs e=>tups b xs (I.base.tups b xs e),fun b o xs e=>frzs b o xs (I.base.frzs b o xs e),fun b ps e=>?_⟩,?_,fun x c e=>?_,?_,fun x c e=>?_,fun p hp=>?_,hok,I.len⟩
 ·exact keep b o (neL b o e) hb (neC b o e hx) (I.base.keep b o e n hb hx) (I.base.free b o e n hx)
 ·obtain ⟨sl,e1⟩:=I.base.slot b o e n hb hx
  obtain ⟨sl',e2⟩:=slot b _ (neL b o e) hb (neC b o e hx) e1 (I.base.free b o e n hx)
  exact ⟨sl',e2⟩
 ·obtain ⟨o',e1⟩:=I.base.there b o e hx
  exact free b o' (neC b o e hx) e1 (I.base.free b o e n hx)
 ·obtain ⟨o',e1⟩:=I.base.there b o e hx
  exact there b o' (neC b o e hx) e1
 ·obtain ⟨m1,e1⟩:=I.base.tbls b ps e
  obtain ⟨m2,e2⟩:=tbls b _ e1
  exact ⟨m1++m2,by rw [e2,Array.append_assoc]⟩
 ·obtain ⟨m,hn,hl⟩:=I.loc
  refine ⟨m,ns m hn,fun i x v e1 e2 e3=>?_⟩
  obtain ⟨u,r,l⟩:=hl i x v e1 e2 e3
  refine ⟨u,r,?_⟩
  rcases l with l | ⟨k,c,e,z⟩
  ·exact .inl l
  ·exact .inr ⟨k,c,e,cellK x c e _ z⟩
 ·obtain ⟨v,z⟩:=I.cell x c e
  exact ⟨v,cellK x c e v z⟩
 ·obtain ⟨m,⟨o,_,_,ho,_⟩,_⟩:=I.loc
  exact free _ o (fun z=>(hch _ z).2.1 rfl) ho I.free
 ·obtain ⟨v,o,ho,hd⟩:=I.cell x c e
  exact free c o (fun z=>(hch c z).2.2.1 x c e rfl) ho (I.freeC x c e)
 ·obtain ⟨e,n,ne,nf,d⟩:=I.pin p hp
  have nch:p.1∉ch:=fun z=>(hch p.1 z).2.2.2 p hp rfl
  exact ⟨keep p.1 p.2 ne nf nch e n,free p.1 p.2 nch e n,ne,nf,d⟩
theorem Inv.un {t':Nat} (I:Inv X pins σ H s) (u:Un X.fs [] H H' s.heap h') (hok:HOk X.prog X.w H' h'):Inv X pins σ H' { s with heap:=h',toks:=t' }:=by
 obtain ⟨m,⟨o,es,ep,ho,r⟩,_⟩:=id I.loc
 obtain ⟨sl,hL⟩:=u.any ho I.free (by simp)
 exact I.step (g':=s.gens) (d':=s.drawn) (ch:=[]) (fun _ z=>nomatch z) (fun b o _ hb _ e n=>u.keep b o e n hb (by simp)) (fun b o _ hb _ e n=>u.slot b o e n hb (by simp)) (fun b o _ e n=>u.free b o e n (by simp)) (fun b o _ e=>u.there b o e (by simp)) u.tups u.frzs u.tbls (fun m' hm=>by
  obtain ⟨o',es',ep',ho',r'⟩:=hm
  rw [ho] at ho';cases ho'
  exact ⟨_,es',ep',hL,r'⟩) hok I.bare
theorem Inv.call {g':Array GenState} {t':Nat} {d':Drawn} {ch:List Addr} (I:Inv X pins σ H s) (u:Un (frs X.stack) ch H H' s.heap h') (hok:HOk X.prog X.w H' h') (hg:AllBare g')
  (hch:∀b∈ch,(b∈X.ex∨X.s₀.heap.objs.size≤b)∧b≠X.env.locals∧(∀x c,X.env.cells.lookup x=some c→c≠b)∧∀p∈X.pn++pins,p.1≠b) :
  Inv X pins σ H' { s with heap:=h',gens:=g',drawn:=d',toks:=t' }:=by
 obtain ⟨m,⟨o,es,ep,ho,r⟩,_⟩:=id I.loc
 obtain ⟨sl,hL⟩:=u.any ho I.free fun z=>(hch _ z).2.1 rfl
 exact I.step (ch:=ch) hch (fun b o hL hb hc e n=>u.keep b o e n (fun z=>(List.mem_cons.mp (I.stkSub b z)).elim hL hb) hc) (fun b o _ _ hc e n=>u.any e n hc) (fun b o hc e n=>u.free b o e n hc) (fun b o hc e=>u.there b o e hc) u.tups u.frzs u.tbls (fun m' hm=>by
  obtain ⟨o',es',ep',ho',r'⟩:=hm
  rw [ho] at ho';cases ho'
  exact ⟨_,es',ep',hL,r'⟩) hok hg
theorem Inv.turned {t':Nat} {it:Addr} (I:Inv X pins σ H s) (k:∀b o,b≠it→s.heap.get? b=some o→h'.get? b=some o) (hn:H it=none) (hL:it≠X.env.locals)
  (h1:it∈X.ex∨X.s₀.heap.objs.size≤it) (h2:∀x c,X.env.cells.lookup x=some c→c≠it) (h3:∀p∈X.pn++pins,p.1≠it):Inv X pins σ H { s with heap:=h',toks:=t' }:=by
 have nit:∀b u,H b=some u→b≠it:=fun b u e z=>by rw [z,hn] at e;cases e
 refine I.step (g':=s.gens) (d':=s.drawn) (ch:=[it]) (fun b hb=>?_) (fun b o _ _ hc e _=>k b o (fun z=>hc (by simp [z])) e) (fun b o _ _ hc e _=>⟨o.slots,k b o (fun z=>hc (by simp [z])) e⟩) (fun _ _ _ _ n=>n)
  (fun b o hc e=>⟨o,k b o (fun z=>hc (by simp [z])) e⟩) (fun _ _ e=>e) (fun _ _ _ e=>e) (fun b ps e=>⟨#[],by rw [e];simp⟩) (fun m hm=>?_) (fun b u e=>?_) I.bare
 ·have e:b=it:=by simpa using hb
  subst e
  exact ⟨h1,hL,h2,h3⟩
 ·obtain ⟨o,es,ep,ho,r⟩:=hm
  exact ⟨o,es,ep,k _ o (Ne.symm hL) ho,r⟩
 ·refine (I.hok b u e).stay (fun c v hc q=>k c v ?_ q) (fun _ q=>q) fun _ _ q=>q
  rcases hc with z | z
  ·rw [z];exact nit b u e
  ·exact nit c _ z
theorem Inv.tok (I:Inv X pins σ H s) (t:Nat):Inv X pins σ H { s with toks:=t }:=I.un (h':=s.heap) (t':=t) Un.refl I.hok
theorem Inv.kept {t':Nat} (I:Inv X pins σ H s) (k:∀b u,s.heap.get? b=some u→h'.get? b=some u):Inv X pins σ H { s with heap:=h',toks:=t' }:=I.un (Un.kept k) (I.hok.kept k)
theorem Inv.laid {a:Addr} {o:HO} {t':Nat} (I:Inv X pins σ H s) (k:∀b u,s.heap.get? b=some u→h'.get? b=some u) (hp:s.heap.objs.size≤a) (new:ObjOk X.prog X.w (upd H a o) h' a o) :
  Inv X pins σ (upd H a o) { s with heap:=h',toks:=t' }:=I.un (Un.laid k hp (I.hok.fresh hp)) (I.hok.laid k hp new)
theorem Inv.write {x e:Addr} {o:HO} {t':Nat} (I:Inv X pins σ H s) (mu:Mut (H x)) (he:e=x∨H e=some (.own x)) (k:∀b u,b≠e→s.heap.get? b=some u→h'.get? b=some u) (heo:∃u,h'.get? e=some u)
  (new:ObjOk X.prog X.w (upd H x o) h' x o):Inv X pins σ (upd H x o) { s with heap:=h',toks:=t' }:=I.un (Un.write mu he k heo) (I.hok.write mu he k heo new)
theorem Inv.pins_of {pins':List (Addr×Obj)} (I:Inv X pins σ H s) (h:∀p∈pins',s.heap.get? p.1=some p.2∧H p.1=none∧p.1≠X.env.locals∧p.1∉X.fs∧∀v,p.2.data≠.cell v):Inv X pins' σ H s:=
 ⟨I.ok,I.os,I.bare,I.base,I.loc,I.cell,I.free,I.freeC,fun p hp=>(List.mem_append.mp hp).elim (fun z=>I.pin p (List.mem_append_left _ z)) (h p),I.hok,I.len⟩
theorem nodup_ix {N:List Str} (hN:N.Nodup) {i j:Nat} {x:Str} (a:N[i]? = some x) (b:N[j]? = some x):i=j:=by
 obtain ⟨h1,e1⟩:=List.getElem?_eq_some_iff.mp a
 obtain ⟨h2,e2⟩:=List.getElem?_eq_some_iff.mp b
 exact (List.getElem_inj hN).mp (e1.trans e2.symm)
theorem store_ok2 {M:Model} {A:Around} {E:Value→Shared→Prop} {i:Nat} {x:Str} {v:V} {u:Value} {Q:Unit→Shared→Prop} (I:Inv X pins σ H s) (hN:X.N.Nodup) (hi:X.N[i]? = some x) (hx:Loc X.env.scope x) (r:RelV v u)
  (h:∀s',Inv X pins (σ.set i (some v)) H s'→(∃a,Heap.SameBut a s.heap s'.heap∧(a=X.env.locals∨X.env.cells.lookup x=some a))→Q () s') (hf:X.fn x=true∨X.env.scope.names.lookup x=some .local:=by first | exact .inl rfl | exact .inr rfl | assumption):wpAny M A (storeName X.env x u) Q E s:=by
 obtain ⟨m,hn,hl⟩:=id I.loc
 have hcls:(X.env.scope.kind==.class||(X.env.scope.kind==.module&&X.env.locals != X.env.globals))=false:=by rw [I.ok.kind];rfl
 have hiσ:i<σ.length:=by rw [I.len];exact (List.getElem?_eq_some_iff.mp hi).1
 have cne:=I.cne
 have tracked:∀{a:Addr} {h':Heap},(∃o,s.heap.get? a=some o∧H a=none)→Heap.SameBut a s.heap h'→HOk X.prog X.w H h':=fun {a h'} ha hs b ob e=>by
  obtain ⟨_,_,hfree⟩:=ha
  refine (I.hok b ob e).stay (fun c w' hc q=>(hs.2 c ?_).trans q) (fun _ q=>q) fun _ _ q=>q
  rintro rfl
  rcases hc with rfl | hc
  ·rw [hfree] at e;cases e
  ·rw [hfree] at hc;cases hc
 rcases hx with hk | hk
 ·refine wpAny_storeName_local hk hn (fun h' hn' hs=>?_) hcls
  obtain ⟨oL,_,_,hoL,_⟩:=id hn
  refine h _ ⟨I.ok,I.os,I.bare,⟨fun b o e n hb hx=>?_,fun b o e n hb hx=>?_,I.base.free,fun b o e hx=>?_,I.base.tups,I.base.frzs,I.base.tbls⟩,⟨_,hn',fun j y v' e1 e2 e3=>?_⟩,fun y c e=>?_,I.free,I.freeC,fun p hp=>?_,tracked ⟨oL,hoL,I.free⟩ hs,by simpa using I.len⟩ ⟨_,hs,.inl rfl⟩
  ·exact (hs.2 b (Nat.ne_of_lt (Nat.lt_of_lt_of_le (Heap.lt_size e) I.ok.above))).trans (I.base.keep b o e n hb hx)
  ·obtain ⟨sl,e1⟩:=I.base.slot b o e n hb hx
   exact ⟨sl,(hs.2 b (Nat.ne_of_lt (Nat.lt_of_lt_of_le (Heap.lt_size e) I.ok.above))).trans e1⟩
  ·obtain ⟨o',e1⟩:=I.base.there b o e hx
   exact ⟨o',(hs.2 b (Nat.ne_of_lt (Nat.lt_of_lt_of_le (Heap.lt_size e) I.ok.above))).trans e1⟩
  ·by_cases hj:j=i
   ·subst hj
    rw [hi] at e1;cases e1
    rw [List.getElem?_set_self hiσ] at e2
    cases e2
    exact ⟨u,r,.inl ⟨hk,by simp⟩⟩
   ·rw [List.getElem?_set_ne (Ne.symm hj)] at e2
    obtain ⟨u',r',q⟩:=hl j y v' e1 e2 e3
    refine ⟨u',r',?_⟩
    rcases q with ⟨k,e⟩ | ⟨k,c,e,z⟩
    ·refine .inl ⟨k,?_⟩
     have:y≠x:=fun e=>hj (nodup_ix hN e1 (e ▸ hi))
     simp [this,e]
    ·exact .inr ⟨k,c,e,z.sameBut hs (cne y c e)⟩
  ·obtain ⟨w',z⟩:=I.cell y c e
   exact ⟨w',z.sameBut hs (cne y c e)⟩
  ·obtain ⟨e,n,ne,nf,d⟩:=I.pin p hp
   exact ⟨(hs.2 p.1 ne).trans e,n,ne,nf,d⟩
 ·have hfn:X.fn x=true:=by
   rcases hf with z | z
   ·exact z
   ·rw [z] at hk;cases hk
  obtain ⟨c,hc⟩:=I.ok.has x (.inl hk)
  obtain ⟨w',z⟩:=I.cell x c hc
  refine wpAny_storeName_cell I.ok.kind hk hc z (fun h' hc' hs=>?_)
  obtain ⟨oc,hoc,hocd⟩:=id z
  refine h { s with heap:=h' } ⟨I.ok,I.os,I.bare,⟨fun b o e n hb hx=>?_,fun b o e n hb hx=>?_,I.base.free,fun b o e hx=>?_,I.base.tups,I.base.frzs,I.base.tbls⟩,⟨m,hn.sameBut hs (Ne.symm (cne x c hc)),fun j y v' e1 e2 e3=>?_⟩,fun y c' e=>?_,I.free,I.freeC,fun p hp=>?_,tracked ⟨oc,hoc,I.freeC x c hc⟩ hs,by simpa using I.len⟩ ⟨c,hs,.inr hc⟩
  ·exact (hs.2 b (Nat.ne_of_lt (Nat.lt_of_lt_of_le (Heap.lt_size e) (I.ok.cab x c hfn hc)))).trans (I.base.keep b o e n hb hx)
  ·obtain ⟨sl,e1⟩:=I.base.slot b o e n hb hx
   exact ⟨sl,(hs.2 b (Nat.ne_of_lt (Nat.lt_of_lt_of_le (Heap.lt_size e) (I.ok.cab x c hfn hc)))).trans e1⟩
  ·obtain ⟨o',e1⟩:=I.base.there b o e hx
   exact ⟨o',(hs.2 b (Nat.ne_of_lt (Nat.lt_of_lt_of_le (Heap.lt_size e) (I.ok.cab x c hfn hc)))).trans e1⟩
  ·by_cases hj:j=i
   ·subst hj
    rw [hi] at e1;cases e1
    rw [List.getElem?_set_self hiσ] at e2
    cases e2
    exact ⟨u,r,.inr ⟨.inl hk,c,hc,hc'⟩⟩
   ·rw [List.getElem?_set_ne (Ne.symm hj)] at e2
    obtain ⟨u',r',q⟩:=hl j y v' e1 e2 e3
    refine ⟨u',r',?_⟩
    rcases q with q | ⟨k,c',e,z'⟩
    ·exact .inl q
    ·refine .inr ⟨k,c',e,z'.sameBut hs ?_⟩
     rintro rfl
     exact hj (nodup_ix hN e1 (I.ok.inj _ _ _ e hc ▸ hi))
  ·by_cases hcc:c'=c
   ·subst hcc;exact ⟨_,hc'⟩
   ·obtain ⟨w2,z2⟩:=I.cell y c' e
    exact ⟨w2,z2.sameBut hs hcc⟩
  ·obtain ⟨e,n,ne,nf,d⟩:=I.pin p hp
   refine ⟨(hs.2 p.1 ?_).trans e,n,ne,nf,d⟩
   intro q
   rw [q,hoc] at e
   have q':oc=p.2:=Option.some.inj e
   exact d w' (by rw [←q'];exact hocd)
theorem store_ok {M:Model} {A:Around} {E:Value→Shared→Prop} {i:Nat} {x:Str} {v:V} {u:Value} {Q:Unit→Shared→Prop} (I:Inv X pins σ H s) (hN:X.N.Nodup) (hi:X.N[i]? = some x) (hx:Loc X.env.scope x) (r:RelV v u)
  (h:∀s',Inv X pins (σ.set i (some v)) H s'→Q () s') (hf:X.fn x=true∨X.env.scope.names.lookup x=some .local:=by first | exact .inl rfl | exact .inr rfl | assumption):wpAny M A (storeName X.env x u) Q E s:=
 store_ok2 I hN hi hx r (fun s' I' _=>h s' I') hf
theorem Inv.call' {s':Shared} {ch:List Addr} (I:Inv X pins σ H s) (ho:s'.os=s.os) (u:Un (frs X.stack) ch H H' s.heap s'.heap) (hok:HOk X.prog X.w H' s'.heap) (hg:AllBare s'.gens)
  (hch:∀b∈ch,(b∈X.ex∨X.s₀.heap.objs.size≤b)∧b≠X.env.locals∧(∀x c,X.env.cells.lookup x=some c→c≠b)∧∀p∈X.pn++pins,p.1≠b):Inv X pins σ H' s':=by
 obtain ⟨h',g',d',t',o'⟩:=s'
 have e:o'=s.os:=ho
 subst e
 exact I.call (g':=g') (t':=t') (d':=d') u hok hg hch
end
abbrev XK:=Value→Option Addr→Hp→Prop
abbrev St:=List (Option V)
abbrev VK:=V→Hp→Prop
abbrev TE:=St→Hp→VK→Prop
abbrev TT:=St→Hp→(Bool→Hp→Prop)→Prop
abbrev TA:=St→Hp→(List V→Hp→Prop)→Prop
structure Ends where
 nx:St→Hp→Prop
 rt:VK
 bk:St→Hp→Prop:=fun _ _=>False
 ct:St→Hp→Prop:=fun _ _=>False
abbrev TS:=Ends→St→Hp→Prop
def EP (X:Cx) (pins:List (Addr×Obj)) (σ:St) (Q:VK) (u:Value) (s':Shared):Prop:=∃v H',Inv X pins σ H' s'∧RelV v u∧Q v H'
def TP (X:Cx) (pins:List (Addr×Obj)) (σ:St) (Q:Bool→Hp→Prop) (b:Bool) (s':Shared):Prop:=∃H',Inv X pins σ H' s'∧Q b H'
def AP (X:Cx) (pins:List (Addr×Obj)) (σ:St) (Q:List V→Hp→Prop) (us:List Value) (s':Shared):Prop:=∃vs H',Inv X pins σ H' s'∧Vals vs us∧Q vs H'
def SP (X:Cx) (pins:List (Addr×Obj)) (D:Ends) (f:Flow) (s':Shared):Prop:=
 match f with
 | .next=>∃σ' H',Inv X pins σ' H' s'∧D.nx σ' H'
 | .brk=>∃σ' H',Inv X pins σ' H' s'∧D.bk σ' H'
 | .cont=>∃σ' H',Inv X pins σ' H' s'∧D.ct σ' H'
 | .ret u=>∃v σ' H',Inv X pins σ' H' s'∧RelV v u∧D.rt v H'
def PE (X:Cx) (e:Expr) (t:TE):Prop:=
 ∀(pins:List (Addr×Obj)) (s:Shared) (σ:St) (H:Hp) (Q:VK),Inv X pins σ H s→t σ H Q→wpAny (model X.prog X.w) X.A (eval e X.env) (EP X pins σ Q) X.xe s
def PT (X:Cx) (e:Expr) (t:TT):Prop:=
 ∀(pins:List (Addr×Obj)) (s:Shared) (σ:St) (H:Hp) (Q:Bool→Hp→Prop),Inv X pins σ H s→t σ H Q→wpAny (model X.prog X.w) X.A (isTrue e X.env (eval e X.env)) (TP X pins σ Q) X.xe s
def PW (X:Cx) (e:Expr) (t:TT):Prop:=
 ∀(whole:Sem Value) (pins:List (Addr×Obj)) (s:Shared) (σ:St) (H:Hp) (Q:Bool→Hp→Prop),Inv X pins σ H s→t σ H Q→wpAny (model X.prog X.w) X.A (isTrue e X.env whole) (TP X pins σ Q) X.xe s
theorem PW.pt {X:Cx} {e:Expr} {t:TT} (h:PW X e t):PT X e t:=h _
def PA (X:Cx) (es:List Expr) (t:TA):Prop:=
 ∀(pos:Pos) (pins:List (Addr×Obj)) (s:Shared) (σ:St) (H:Hp) (Q:List V→Hp→Prop),Inv X pins σ H s→t σ H Q→wpAny (model X.prog X.w) X.A (spliced (backTo pos (starEach es X.env))) (AP X pins σ Q) X.xe s
def PS (X:Cx) (st:Stmt) (t:TS):Prop:=
 ∀(pins:List (Addr×Obj)) (s:Shared) (σ:St) (H:Hp) (D:Ends),Inv X pins σ H s→t D σ H→wpAny (model X.prog X.w) X.A (exec st X.env) (SP X pins D) X.xe s
def PSs (X:Cx) (st:List Stmt) (t:TS):Prop:=
 ∀(pins:List (Addr×Obj)) (s:Shared) (σ:St) (H:Hp) (D:Ends),Inv X pins σ H s→t D σ H→wpAny (model X.prog X.w) X.A (execs st X.env) (SP X pins D) X.xe s
theorem thn {α:Type} {t:Sem α} {Q Q':α→Shared→Prop} {M:Model} {A:Around} {E:Value→Shared→Prop} {s:Shared} (h:wpAny M A t Q E s) (hQ:∀a s,Q a s→Q' a s):wpAny M A t Q' E s:=wpAny_mono h hQ fun _ _ x=>x
section
variable {X:Cx}
def tVar (i:Nat):TE:=fun σ H Q=>∃v,σ[i]? = some (some v)∧Q v H
def tC (v:V):TE:=fun _ H Q=>Q v H
theorem pe_var {i:Nat} {x:Str} {pos:Pos} (hN:X.N[i]? = some x) (hv:Vis X.env.scope x) (hd:(x==("__debug__":Str))=false:=by decide) (hcd:(x==("__classdict__":Str))=false:=by decide):PE X (.Name x pos) (tVar i):=by
 intro pins s σ H Q I h
 obtain ⟨v,e,h⟩:=h
 obtain ⟨m,hn,hl⟩:=I.loc
 obtain ⟨u,r,l⟩:=hl i x v hN e hv
 have fin:EP X pins σ Q u s:=⟨v,H,I,r,h⟩
 rcases l with ⟨hk,hm⟩ | ⟨hk,c,hc,hcell⟩
 ·exact wpAny_Name (wpAny_loadName_local I.ok.kind hk hn hm fin) hd
 ·rcases hk with hk | hk
  ·exact wpAny_Name (wpAny_loadName_cell I.ok.kind hk hc hcell fin) hd
  ·exact wpAny_Name (wpAny_loadName_free I.ok.kind hk hc hcell fin hcd) hd
theorem pe_int {i j pos}:PE X (.Constant (.int i) j pos) (tC (.int i)):=fun _ _ _ H _ I h=>wpAny_Constant_int ⟨.int i,H,I.tok _,⟨_,rfl⟩,h⟩
theorem pe_bl {b j pos}:PE X (.Constant (.bool b) j pos) (tC (.bl b)):=fun _ _ _ H _ I h=>Constant_bool ⟨.bl b,H,I,rfl,h⟩
theorem pe_non {j pos}:PE X (.Constant .none j pos) (tC .non):=fun _ _ _ H _ I h=>Constant_none ⟨.non,H,I,rfl,h⟩
theorem pe_str {x j pos}:PE X (.Constant (.str x) j pos) (tC (.str x)):=fun _ _ _ H _ I h=>Calls.Constant_str ⟨.str x,H,I.tok _,⟨_,rfl⟩,h⟩
def Gl (X:Cx) (x:Str):Prop:=X.env.kindOf x=some .globalImplicit
theorem ld_glob {E:Value→Shared→Prop} {pins:List (Addr×Obj)} {s:Shared} {σ:St} {H:Hp} {x:Str} {u:Value} {pos:Pos} {Q:Value→Shared→Prop} (I:Inv X pins σ H s) (hg:Gl X x) (hm:X.mg x=some u) (h:Q u s)
  (hd:(x==("__debug__":Str))=false:=by decide):wpAny (model X.prog X.w) X.A (eval (.Name x pos) X.env) Q E s:=
 Calls.Name_function_global I.ok.kind hg (Calls.loadGlobal_global (by rw [I.ok.glob];exact I.mod.glob.keeps I.bk) hm h) hd
theorem ld_blt {E:Value→Shared→Prop} {pins:List (Addr×Obj)} {s:Shared} {σ:St} {H:Hp} {x:Str} {u:Value} {pos:Pos} {Q:Value→Shared→Prop} (I:Inv X pins σ H s) (hg:Gl X x) (hm:X.mg x=none) (hv:bootBuiltins x=some u) (h:Q u s)
  (hn:x≠"__name__":=by decide) (hd:(x==("__debug__":Str))=false:=by decide):wpAny (model X.prog X.w) X.A (eval (.Name x pos) X.env) Q E s:=by
 obtain ⟨mb,h1,h2⟩:=I.mod.blt
 exact Calls.Name_function_global I.ok.kind hg (Calls.loadGlobal_builtin (by rw [I.ok.glob];exact I.mod.glob.keeps I.bk) hm (by rw [I.ok.blt];exact h1.keeps I.bk) ((h2 x hn).trans hv) h) hd
theorem pe_bltn {x:Str} {v:V} {u:Value} {pos:Pos} (hg:Gl X x) (hm:X.mg x=none) (hv:bootBuiltins x=some u) (r:RelV v u) (hn:x≠"__name__":=by decide) (hd:(x==("__debug__":Str))=false:=by decide):PE X (.Name x pos) (tC v):=
 fun _ _ _ H _ I h=>ld_blt I hg hm hv ⟨v,H,I,r,h⟩ hn hd
variable {a b:Expr} {ta tb:TE} {pos:Pos}
def tB (t:TE):TT:=fun σ H Q=>t σ H fun x H1=>∃c,x = .bl c∧Q c H1
theorem pt_val {e:Expr} {t:TE} (h:PE X e t) (he:∀whole,isTrue e X.env whole=(do let v ←whole;standAt e.pos;holding [v] (truthy v)):=by intro _;rfl):PT X e (tB t):=by
 intro pins s σ H Q I hw
 refine isTrue_plain (thn (h pins s σ H _ I hw) fun v s1 ⟨x,H1,I1,r1,q1⟩=>?_) (he _)
 obtain ⟨d,rfl,q⟩:=q1
 cases r1
 exact wpAny_truthy_bool ⟨H1,I1,q⟩
variable {tA tB':TT} {rest:List Expr}
def tOr (t u:TT):TT:=fun σ H Q=>t σ H fun c H1=>if c=true then Q true H1 else u σ H1 Q
def tNot (t:TT):TT:=fun σ H Q=>t σ H fun c H1=>Q (!c) H1
theorem pw_or1 (ha:PT X a tA):PW X (.BoolOp .Or [a] pos) tA:=by
 intro wh pins s σ H Q I h
 refine isTrue_or (thn (ha pins s σ H Q I h) fun c s1 e=>?_)
 cases c with
 | false=>exact isTrue_or_nil e
 | true=>exact e
theorem pw_or (ha:PT X a tA) (hb:PW X (.BoolOp .Or (b::rest) pos) tB'):PW X (.BoolOp .Or (a::b::rest) pos) (tOr tA tB'):=by
 intro wh pins s σ H Q I h
 refine isTrue_or (thn (ha pins s σ H _ I h) fun c s1 ⟨H1,I1,q1⟩=>?_)
 cases c with
 | true=>exact ⟨H1,I1,q1⟩
 | false=>exact hb wh pins s1 σ H1 Q I1 q1
theorem pt_not (ha:PT X a tA):PT X (.UnaryOp .Not a pos) (tNot tA):=by
 intro pins s σ H Q I h
 exact isTrue_not (ha pins s σ H (fun c H1=>Q (!c) H1) I h)
def tAndV (ta tb:TE):TE:=fun σ H Q=>ta σ H fun x H1=>∃c,x = .bl c∧if c=true then tb σ H1 Q else Q (.bl false) H1
def tOrV (ta tb:TE):TE:=fun σ H Q=>ta σ H fun x H1=>∃c,x = .bl c∧if c=true then Q (.bl true) H1 else tb σ H1 Q
def tNotV (ta:TE):TE:=fun σ H Q=>ta σ H fun x H1=>∃c,x = .bl c∧Q (.bl (!c)) H1
theorem pe_one {op} {t:TE} (h:PE X a t):PE X (.BoolOp op [a] pos) t:=fun pins s σ H Q I hw=>BoolOp_one (h pins s σ H Q I hw)
theorem pe_and (ha:PE X a ta) (hb:PE X (.BoolOp .And (b::rest) pos) tb):PE X (.BoolOp .And (a::b::rest) pos) (tAndV ta tb):=by
 intro pins s σ H Q I h
 refine BoolOp_and (thn (ha pins s σ H _ I h) fun v s1 ⟨x,H1,I1,r1,q1⟩=>?_)
 obtain ⟨c,rfl,q1⟩:=q1
 cases r1
 refine wpAny_truthy_bool ?_
 cases c with
 | true=>exact hb pins s1 σ H1 Q I1 q1
 | false=>exact ⟨.bl false,H1,I1,rfl,q1⟩
theorem pe_or (ha:PE X a ta) (hb:PE X (.BoolOp .Or (b::rest) pos) tb):PE X (.BoolOp .Or (a::b::rest) pos) (tOrV ta tb):=by
 intro pins s σ H Q I h
 refine BoolOp_or (thn (ha pins s σ H _ I h) fun v s1 ⟨x,H1,I1,r1,q1⟩=>?_)
 obtain ⟨c,rfl,q1⟩:=q1
 cases r1
 refine wpAny_truthy_bool ?_
 cases c with
 | false=>exact hb pins s1 σ H1 Q I1 q1
 | true=>exact ⟨.bl true,H1,I1,rfl,q1⟩
theorem pe_not (ha:PE X a ta):PE X (.UnaryOp .Not a pos) (tNotV ta):=by
 intro pins s σ H Q I h
 refine UnaryOp_ (thn (ha pins s σ H _ I h) fun v s1 ⟨x,H1,I1,r1,q1⟩=>?_)
 obtain ⟨c,rfl,q1⟩:=q1
 cases r1
 exact not_of (wpAny_truthy_bool ⟨.bl (!c),H1,I1,rfl,q1⟩)
def tIf (t:TT) (ta tb:TE):TE:=fun σ H Q=>t σ H fun c H1=>if c=true then ta σ H1 Q else tb σ H1 Q
theorem pe_ifExp {c:Expr} (hc:PT X c tA) (ha:PE X a ta) (hb:PE X b tb):PE X (.IfExp c a b pos) (tIf tA ta tb):=by
 intro pins s σ H Q I h
 refine wpAny_IfExp (thn (hc pins s σ H _ I h) fun d s1 ⟨H1,I1,q1⟩=>?_)
 cases d with
 | true=>exact ha pins s1 σ H1 Q I1 q1
 | false=>exact hb pins s1 σ H1 Q I1 q1
end
def SqL (K:PySem.W.Frag) (H:Hp) (a:Addr) (xs:List V):Prop:=
 Rd H a (.lst xs)∨
  ∃(o:Obj) (its:Array Value) (n:Nat),K.lookup a=some o∧o.cls = .type "list"∧o.dict=none∧o.data = .seq its n∧its.size≤sizeLine∧Vals xs its.toList
def SqT (K:PySem.W.Frag) (H:Hp) (a:Addr) (xs:List V):Prop:=
 Rd H a (.tup xs)∨
  ∃(o:Obj) (its:Array Value) (n:Nat),K.lookup a=some o∧o.cls = .type "tuple"∧o.data = .seq its n∧its.size≤sizeLine∧Vals xs its.toList
def absV:Value→Option V
 | .none=>some .non
 | .bool b=>some (.bl b)
 | .int i _=>some (.int i)
 | .str x _=>some (.str x)
 | .bytes b _=>some (.byt b)
 | .float b _=>some (.flt b)
 | .ref a=>some (.ref a)
 | .type n=>some (.ty n)
 | _=>none
theorem RelV.abs {x:V} {u:Value} (r:RelV x u):absV u=some x:=by
 cases x with
 | non=>cases r;rfl
 | bl _=>cases r;rfl
 | int _=>obtain ⟨t,rfl⟩:=r;rfl
 | str _=>obtain ⟨t,rfl⟩:=r;rfl
 | byt _=>obtain ⟨t,rfl⟩:=r;rfl
 | flt _=>obtain ⟨t,rfl⟩:=r;rfl
 | ref _=>cases r;rfl
 | ty _=>cases r;rfl
theorem RelV.inj {x y:V} {u:Value} (r:RelV x u) (q:RelV y u):x=y:=Option.some.inj (r.abs.symm.trans q.abs)
theorem Vals.inj:∀{xs ys:List V} {us:List Value},Vals xs us→Vals ys us→xs=ys
 | _,_,_,.nil,.nil=>rfl
 | _,_,_,.cons r t,.cons r' t'=>by rw [r.inj r',Vals.inj t t']
section
variable {X:Cx} {pins:List (Addr×Obj)} {σ:St} {H:Hp} {s:Shared} {a:Addr} {xs ys:List V}
theorem SqL.of {K:PySem.W.Frag} (h:H a=some (.lst xs)):SqL K H a xs:=.inl (.inl h)
theorem Inv.list (I:Inv X pins σ H s) (h:SqL X.K H a xs):∃its:List Value,Vals xs its∧PlainL s.heap a its.toArray∧xs.length≤sizeLine:=by
 rcases h with h | ⟨o,its,n,hk,hc,hd,hs,hz,r⟩
 ·obtain ⟨z,its,n,r,e⟩:=h.ok I.hok
  exact ⟨its,r,⟨_,n,e,rfl,rfl,rfl⟩,z⟩
 ·refine ⟨its.toList,r,⟨o,n,I.kIn a o hk,hc,hd,by simpa using hs⟩,?_⟩
  have e:=r.length
  simp only [Array.length_toList] at e
  omega
theorem Inv.tuple (I:Inv X pins σ H s) (h:SqT X.K H a xs):∃its:List Value,Vals xs its∧IsTup s.heap a its.toArray∧xs.length≤sizeLine:=by
 rcases h with h | ⟨o,its,n,hk,hc,hs,hz,r⟩
 ·obtain ⟨z,its,r,p⟩:=h.ok I.hok
  exact ⟨its,r,p,z⟩
 ·refine ⟨its.toList,r,⟨o,I.kIn a o hk,hc,n,by simpa using hs⟩,?_⟩
  have e:=r.length
  simp only [Array.length_toList] at e
  omega
theorem Inv.list_inj (I:Inv X pins σ H s) (h:SqL X.K H a xs) (h':SqL X.K H a ys):xs=ys:=by
 obtain ⟨its,r,⟨o,n,e,_,_,d⟩,_⟩:=I.list h
 obtain ⟨its',r',⟨o',n',e',_,_,d'⟩,_⟩:=I.list h'
 rw [e] at e';cases e'
 rw [d] at d'
 injection d' with d1 _
 have:its=its':=by simpa using congrArg Array.toList d1
 subst this
 exact r.inj r'
theorem Inv.tuple_inj (I:Inv X pins σ H s) (h:SqT X.K H a xs) (h':SqT X.K H a ys):xs=ys:=by
 obtain ⟨its,r,⟨o,e,_,n,d⟩,_⟩:=I.tuple h
 obtain ⟨its',r',⟨o',e',_,n',d'⟩,_⟩:=I.tuple h'
 rw [e] at e';cases e'
 rw [d] at d'
 injection d' with d1 _
 have:its=its':=by simpa using congrArg Array.toList d1
 subst this
 exact r.inj r'
end
abbrev Cx.wish (X:Cx) (E:Value→Shared→Prop):Cx:={ X with xe:=E }
abbrev Cx.nox (X:Cx):Cx:=X.wish fun _ _=>False
theorem Cx.Ok.wish {X:Cx} (ok:X.Ok) (E:Value→Shared→Prop):(X.wish E).Ok:=
 ⟨ok.mod,ok.kind,ok.glob,ok.blt,ok.above,ok.inj,ok.has,ok.cab,ok.hd,ok.frames,ok.stk,ok.exf,ok.bs,ok.bsz,ok.noex,ok.exfs,ok.funs,ok.frf⟩
theorem Cx.Ok.unwish {X:Cx} {E:Value→Shared→Prop} (ok:(X.wish E).Ok):X.Ok:=
 ⟨ok.mod,ok.kind,ok.glob,ok.blt,ok.above,ok.inj,ok.has,ok.cab,ok.hd,ok.frames,ok.stk,ok.exf,ok.bs,ok.bsz,ok.noex,ok.exfs,ok.funs,ok.frf⟩
section
variable {X:Cx} {pins:List (Addr×Obj)} {σ:St} {H:Hp} {s:Shared} {E:Value→Shared→Prop}
theorem Inv.wish (I:Inv X pins σ H s) (E:Value→Shared→Prop):Inv (X.wish E) pins σ H s:=⟨I.ok.wish E,I.os,I.bare,I.base,I.loc,I.cell,I.free,I.freeC,I.pin,I.hok,I.len⟩
theorem Inv.unwish (I:Inv (X.wish E) pins σ H s):Inv X pins σ H s:=⟨I.ok.unwish,I.os,I.bare,I.base,I.loc,I.cell,I.free,I.freeC,I.pin,I.hok,I.len⟩
theorem SP.unwish {D:Ends} {f:Flow} {s':Shared} (h:SP (X.wish E) pins D f s'):SP X pins D f s':=by
 cases f with
 | next=>obtain ⟨σ',H',I,q⟩:=h;exact ⟨σ',H',I.unwish,q⟩
 | brk=>obtain ⟨σ',H',I,q⟩:=h;exact ⟨σ',H',I.unwish,q⟩
 | cont=>obtain ⟨σ',H',I,q⟩:=h;exact ⟨σ',H',I.unwish,q⟩
 | ret u=>obtain ⟨v,σ',H',I,r,q⟩:=h;exact ⟨v,σ',H',I.unwish,r,q⟩
theorem PSs.nox {st:List Stmt} {t:TS} (h:PSs X.nox st t):PSs X st t:=fun pins s σ H D I hw=>
 wpAny_mono (h pins s σ H D (I.wish _) hw) (fun _ _ q=>q.unwish) fun _ _ z=>False.elim z
end
section
variable {X:Cx} {st:Stmt} {rest:List Stmt} {t u:TS} {e:Expr} {te:TE} {pos:Pos}
def tNext:TS:=fun D σ H=>D.nx σ H
def tSeq (t u:TS):TS:=fun D σ H=>t { D with nx:=u D } σ H
theorem pss_nil:PSs X [] tNext:=fun _ _ σ H _ I h=>wpAny_execs_nil ⟨σ,H,I,h⟩
theorem pss_cons (h1:PS X st t) (h2:PSs X rest u):PSs X (st::rest) (tSeq t u):=by
 intro pins s σ H D I h
 refine wpAny_execs_cons (thn (h1 pins s σ H { D with nx:=u D } I h) fun f s1 q=>?_)
 cases f with
 | next=>
  obtain ⟨σ',H',I',q⟩:=q
  exact h2 pins s1 σ' H' D I' q
 | ret v=>exact q
 | brk=>exact q
 | cont=>exact q
theorem pss_one (h1:PS X st t):PSs X [st] t:=by
 intro pins s σ H D I h
 refine wpAny_execs_cons (thn (h1 pins s σ H D I h) fun f s1 q=>?_)
 cases f with
 | next=>exact wpAny_execs_nil q
 | ret v=>exact q
 | brk=>exact q
 | cont=>exact q
theorem Inv.quiet {pins:List (Addr×Obj)} {σ:St} {H:Hp} {s:Shared} (I:Inv X pins σ H s):interactive X.env=false:=by simp [interactive,I.ok.kind]
def tDrop (te:TE):TS:=fun D σ H=>te σ H fun _ H1=>D.nx σ H1
theorem ps_expr (he:PE X e te) (hs:swapsWith e none pos.line X.env=pure false:=by rfl):PS X (.Expr e pos) (tDrop te):=by
 intro pins s σ H D I h
 exact wpAny_Expr_any (thn (he pins s σ H _ I h) fun v s1 ⟨x,H1,I1,r1,q1⟩=>⟨σ,H1,I1,q1⟩) I.quiet hs
def tRet (te:TE):TS:=fun D σ H=>te σ H D.rt
theorem ps_ret (he:PE X e te):PS X (.Return (some e) pos) (tRet te):=by
 intro pins s σ H D I h
 exact wpAny_Return_some (thn (he pins s σ H _ I h) fun v s1 ⟨x,H1,I1,r1,q1⟩=>⟨x,σ,H1,I1,r1,q1⟩)
def tIfS (c:TT) (t u:TS):TS:=fun D σ H=>c σ H fun b H1=>if b=true then t D σ H1 else u D σ H1
theorem ps_if {c:Expr} {a b:List Stmt} {tc:TT} (hc:PT X c tc) (ha:PSs X a t) (hb:PSs X b u):PS X (.If c a b pos) (tIfS tc t u):=by
 intro pins s σ H D I h
 refine wpAny_If (thn (hc pins s σ H _ I h) fun d s1 ⟨H1,I1,q1⟩=>?_)
 cases d with
 | true=>exact ha pins s1 σ H1 D I1 q1
 | false=>exact hb pins s1 σ H1 D I1 q1
end
abbrev TG:=V→St→Hp→(St→Hp→Prop)→Prop
abbrev TGs:=List V→St→Hp→(St→Hp→Prop)→Prop
def PG (X:Cx) (target:Expr) (t:TG):Prop:=
 ∀(pins:List (Addr×Obj)) (s:Shared) (σ:St) (H:Hp) (v:V) (u:Value) (Q:St→Hp→Prop),Inv X pins σ H s→RelV v u→t v σ H Q→
  wpAny (model X.prog X.w) X.A (assign target X.env u) (fun _ s'=>∃σ' H',Inv X pins σ' H' s'∧Q σ' H') X.xe s
def PGs (X:Cx) (ts:List Expr) (t:TGs):Prop:=
 ∀(pins:List (Addr×Obj)) (s:Shared) (σ:St) (H:Hp) (vs:List V) (us:List Value) (Q:St→Hp→Prop),Inv X pins σ H s→Vals vs us→t vs σ H Q→
  wpAny (model X.prog X.w) X.A (assignInOrder ((assignEach ts X.env).map (·.2)) us) (fun _ s'=>∃σ' H',Inv X pins σ' H' s'∧Q σ' H') X.xe s
abbrev TSet:=V→V→V→Hp→(Hp→Prop)→Prop
def PSet (X:Cx) (t:TSet):Prop:=
 ∀(pins:List (Addr×Obj)) (s:Shared) (σ:St) (H:Hp) (o i v:V) (ov iv u:Value) (Q:Hp→Prop),Inv X pins σ H s→RelV o ov→RelV i iv→RelV v u→t o i v H Q→
  wpAny (model X.prog X.w) X.A (setItem ov iv u) (fun _ s'=>∃H',Inv X pins σ H' s'∧Q H') X.xe s
section
variable {X:Cx} {pos:Pos}
def gName (i:Nat):TG:=fun v σ H Q=>Q (σ.set i (some v)) H
theorem pg_name {i:Nat} {x:Str} (hN:X.N.Nodup) (hi:X.N[i]? = some x) (hx:Loc X.env.scope x) (hf:X.fn x=true∨X.env.scope.names.lookup x=some .local:=by first | exact .inl rfl | exact .inr rfl | assumption):PG X (.Name x pos) (gName i):=by
 intro pins s σ H v u Q I r h
 exact wpAny_assign_Name (store_ok I hN hi hx r (fun s' I'=>⟨_,H,I',h⟩) hf)
def gNil:TGs:=fun vs σ H Q=>vs=[]∧Q σ H
def gCons (t:TG) (u:TGs):TGs:=fun vs σ H Q=>∃v r,vs=v::r∧t v σ H fun σ' H'=>u r σ' H' Q
theorem pgs_nil:PGs X [] gNil:=by
 intro pins s σ H vs us Q I r h
 obtain ⟨e,h⟩:=h
 subst e
 cases r
 exact assignInOrder_nil ⟨σ,H,I,h⟩
theorem pgs_cons {e:Expr} {es:List Expr} {t:TG} {u:TGs} (h1:PG X e t) (h2:PGs X es u)
  (hs:(assignEach (e::es) X.env).map (·.2)=assign e X.env::(assignEach es X.env).map (·.2):=by rfl):PGs X (e::es) (gCons t u):=by
 intro pins s σ H vs us Q I r h
 obtain ⟨v,vr,e1,h⟩:=h
 subst e1
 cases r with
 | cons r rr=>
  rw [hs]
  refine assignInOrder_cons (thn (h1 pins s σ H _ _ _ I r h) fun _ s1 ⟨σ1,H1,I1,q1⟩=>?_)
  exact h2 pins s1 σ1 H1 _ _ Q I1 rr q1
def gTup (K:PySem.W.Frag) (n:Nat) (t:TGs):TG:=fun v σ H Q=>∃a xs,v = .ref a∧SqT K H a xs∧xs.length=n∧t xs σ H Q
theorem pg_tup {es:List Expr} {k:Nat} {t:TGs} {n:Nat} (hc:X.calm=true) (h:PGs X es t)
  (hn:(assignEach es X.env).length=n:=by rfl) (hst:(assignEach es X.env).findIdx? (·.1)=none:=by rfl):PG X (.Tuple es k pos) (gTup X.K n t):=by
 intro pins s σ H v u Q I r hw
 obtain ⟨a,xs,e1,hq,hl,hw⟩:=hw
 subst e1
 cases r
 obtain ⟨its,rv,ht,hz⟩:=I.tuple hq
 refine assign_Tuple_tuple (I.ok.hd hc) ht (by simp [hn,←hl,rv.length]) hst fun h' hx=>?_
 have I1:Inv X pins σ H { s with heap:=h' }:=I.kept (t':=s.toks) fun b o e=>hx b o (Nat.ne_of_lt (Heap.lt_size e)) e
 exact h pins _ σ H xs _ Q I1 (by simpa using rv) hw
def gSub (to ti:TE) (t:TSet):TG:=fun v σ H Q=>to σ H fun o H1=>ti σ H1 fun i H2=>t o i v H2 fun H3=>Q σ H3
theorem pg_sub {o i:Expr} {to ti:TE} {t:TSet} (ho:PE X o to) (hi:PE X i ti) (hs:PSet X t)
  (ha:∀v,assign (.Subscript o i pos) X.env v=(do
   let ov ←holding [v] (eval o X.env)
   let iv ←holding [v,ov] (eval i X.env)
   standAt pos
   holding [v,ov,iv] (setItem ov iv v)
   release [v,ov,iv] []):=by intro _;rfl):PG X (.Subscript o i pos) (gSub to ti t):=by
 intro pins s σ H v u Q I r h
 rw [ha]
 refine wpAny_bind (wpAny_holding (thn (ho pins s σ H _ I h) fun ov s1 ⟨x,H1,I1,r1,q1⟩=>?_))
 refine wpAny_bind (wpAny_holding (thn (hi pins s1 σ H1 _ I1 q1) fun iv s2 ⟨y,H2,I2,r2,q2⟩=>?_))
 refine wpAny_bind (wpAny_standAt (wpAny_bind (wpAny_holding (thn (hs pins s2 σ H2 x y v ov iv u _ I2 r1 r2 r q2) fun _ s3 ⟨H3,I3,q3⟩=>?_))))
 exact wpAny_release ⟨σ,H3,I3,q3⟩
def tAsg (te:TE) (g:TG):TS:=fun D σ H=>te σ H fun x H1=>g x σ H1 D.nx
theorem ps_asg {tg e:Expr} {te:TE} {g:TG} (he:PE X e te) (hg:PG X tg g) (hs:swapsWithSole [tg] e pos.line X.env=pure false:=by rfl) (hw:swappedStores [tg] e X.env=pure none:=by rfl)
  (h1:(assignEach [tg] X.env).map (·.2)=[assign tg X.env]:=by rfl):PS X (.Assign [tg] e pos) (tAsg te g):=by
 intro pins s σ H D I h
 refine wpAny_Assign_stores (thn (he pins s σ H _ I h) fun v s1 ⟨x,H1,I1,r1,q1⟩=>?_) hs hw
 rw [h1]
 exact thn (hg pins s1 σ H1 x v _ I1 r1 q1) fun _ s2 q=>q
theorem ps_set {i:Nat} {x:Str} {e:Expr} {te:TE} {pos':Pos} (hN:X.N.Nodup) (hi:X.N[i]? = some x) (hx:Loc X.env.scope x) (he:PE X e te) (hs:swapsWith e (some (.Name x pos')) pos.line X.env=pure false:=by rfl) (hf:X.fn x=true∨X.env.scope.names.lookup x=some .local:=by first | exact .inl rfl | exact .inr rfl | assumption) :
  PS X (.Assign [.Name x pos'] e pos) (tAsg te (gName i)):=by
 intro pins s σ H D I h
 refine wpAny_Assign_Name (thn (he pins s σ H _ I h) fun v s1 ⟨y,H1,I1,r1,q1⟩=>?_) hs
 exact store_ok I1 hN hi hx r1 (fun s2 I2=>⟨_,H1,I2,q1⟩) hf
def tPar (i j:Nat) (ta:TA):TS:=fun D σ H=>ta σ H fun vs H1=>∃v w,vs=[v,w]∧D.nx ((σ.set i (some v)).set j (some w)) H1
theorem ps_par {i j:Nat} {x y:Str} {a b:Expr} {ta:TA} {px py pt:Pos} {kt k2 pt2} (hc:X.calm=true) (hN:X.N.Nodup) (hi:X.N[i]? = some x) (hj:X.N[j]? = some y) (hij:i≠j)
  (hx:X.env.scope.names.lookup x=some .local) (hy:X.env.scope.names.lookup y=some .local) (ha:PA X [a,b] ta)
  (hw:swappedStores [.Tuple [.Name x px,.Name y py] kt pt] (.Tuple [a,b] k2 pt2) X.env=pure (some [x,y]))
  (hs:swapsWithSole [.Tuple [.Name x px,.Name y py] kt pt] (.Tuple [a,b] k2 pt2) pos.line X.env=pure false:=by rfl) :
  PS X (.Assign [.Tuple [.Name x px,.Name y py] kt pt] (.Tuple [a,b] k2 pt2) pos) (tPar i j ta):=by
 intro pins s σ H D I h
 rw [exec_Assign_arm]
 refine wpAny_bind (wpAny_standAt ?_)
 rw [hs]
 refine wpAny_bind (wpAny_pure ?_)
 rw [if_neg (by decide)]
 refine wpAny_bind (Tuple_ (thn (ha _ pins s σ H _ I h) fun us s1 ⟨vs,H1,I1,r1,q1⟩=>?_))
 obtain ⟨v,w,e1,q1⟩:=q1
 subst e1
 obtain ⟨u1,u2,rfl,rv,rw'⟩:∃u1 u2,us=[u1,u2]∧RelV v u1∧RelV w u2:=by
  cases r1 with
  | cons p q=>
   cases q with
   | cons p' q'=>
    cases q'
    exact ⟨_,_,rfl,p,p'⟩
 refine wpAny_newObj_type ?_ (by show 2≤sizeLine;decide)
 have I2:Inv X pins σ H1 { s1 with heap:=s1.heap.push { cls:=.type "tuple",data:=.seq [u1,u2].toArray } }:=I1.kept (t':=s1.toks) fun b o e=>Heap.get?_push_of_some _ e
 rw [hw]
 refine wpAny_bind (wpAny_pure ?_)
 show wpAny (model X.prog X.w) X.A (do rule "assign.swapped-stores";let items ←unpackItems (.ref s1.heap.objs.size) 2 none;assignInOrder [fun v=>bindName X.env y v,fun v=>bindName X.env x v] items.reverse;pure Flow.next) _ _ _
 refine wpAny_bind (wpAny_rule (wpAny_bind (unpackItems_tuple (items:=#[u1,u2]) (I.ok.hd hc) (IsTup.new s1.heap _) fun h' hx'=>?_)))
 have I3:=I2.kept (h':=h') (t':=s1.toks) fun b o e=>hx' b o (Nat.ne_of_lt (Heap.lt_size e)) e
 show wpAny _ _ (assignInOrder [fun v=>bindName X.env y v,fun v=>bindName X.env x v] [u2,u1] >>= fun _=>pure Flow.next) _ _ _
 refine wpAny_bind (assignInOrder_cons (wpAny_bindName (store_ok I3 hN hj (.inl hy) rw' (fun s2 I4=>?_) (.inr hy))))
 refine assignInOrder_cons (wpAny_bindName (store_ok I4 hN hi (.inl hx) rv (fun s3 I5=>assignInOrder_nil (wpAny_pure ?_)) (.inr hx)))
 rw [List.set_comm _ _ (Ne.symm hij)] at I5
 exact ⟨_,H1,I5,q1⟩
end
section
variable {X:Cx} {pos:Pos}
def tWhile (c:TT) (tb:TS):TS:=fun D σ H=>∃W:Nat→St→Hp→Prop,(∃m,W m σ H)∧∀m σ H,W m σ H→
 c σ H fun b H1=>if b=true then ∃N:St→Hp→Prop,(∀σ' H',N σ' H'→∃m',m'<m∧W m' σ' H')∧tb { D with nx:=N,ct:=N,bk:=D.nx } σ H1 else D.nx σ H1
theorem ps_while {c:Expr} {body:List Stmt} {tc:TT} {tb:TS} (hp:PassesOwn (model X.prog X.w) X.A X.env X.xe) (hc:PT X c tc) (hb:PSs X body tb):PS X (.While c body [] pos) (tWhile tc tb):=by
 intro pins s σ H D I h
 obtain ⟨W,⟨m0,w0⟩,turn⟩:=h
 refine wpAny_While (codeAny_whileLoop (fun n s'=>∃σ' H',Inv X pins σ' H' s'∧W n σ' H') ?_ m0 ⟨σ,H,I,w0⟩)
 rintro n s1 ⟨σ1,H1,I1,w1⟩
 refine wpAny_passesOwn hp (thn (hc pins s1 σ1 H1 _ I1 (turn n σ1 H1 w1)) fun b s2 ⟨H2,I2,q2⟩=>?_)
 cases b with
 | true=>
  obtain ⟨N,hN,q2⟩:=q2
  rw [if_pos rfl]
  refine wpAny_passesOwn hp (thn (hb pins s2 σ1 H2 _ I2 q2) fun f s3 q3=>?_)
  cases f with
  | next=>
   obtain ⟨σ3,H3,I3,n3⟩:=q3
   obtain ⟨m',hm,w3⟩:=hN σ3 H3 n3
   exact ⟨m',hm,σ3,H3,I3,w3⟩
  | cont=>
   obtain ⟨σ3,H3,I3,n3⟩:=q3
   obtain ⟨m',hm,w3⟩:=hN σ3 H3 n3
   exact ⟨m',hm,σ3,H3,I3,w3⟩
  | brk=>exact q3
  | ret v=>exact q3
 | false=>
  rw [if_neg Bool.false_ne_true]
  exact wpAny_execs_nil ⟨σ1,H2,I2,q2⟩
end
structure It where
 go:Nat→Hp→Prop
 yld:Nat→Hp→V→Hp→Prop
 stop:Nat→Hp→Prop
def FpOk (X:Cx) (pins:List (Addr×Obj)) (H:Hp) (b:Addr):Prop:=
 H b=none∧b≠X.env.locals∧b∉X.fs∧(b∈X.ex∨X.s₀.heap.objs.size≤b)∧(∀x c,X.env.cells.lookup x=some c→c≠b)∧∀p∈X.pn++pins,p.1≠b
theorem Inv.fpOk {X:Cx} {pins:List (Addr×Obj)} {σ:St} {H H':Hp} {s:Shared} {b:Addr} (I:Inv X pins σ H s) (hb:s.heap.objs.size≤b) (hn:H' b=none):FpOk X pins H' b:=by
 refine ⟨hn,Nat.ne_of_gt (Nat.lt_of_lt_of_le I.lt hb),I.nofs hb,.inr (Nat.le_trans I.sz hb),fun x c e z=>?_,fun p hp z=>?_⟩
 ·obtain ⟨v,q⟩:=I.cell x c e
  exact absurd (Nat.lt_of_lt_of_le q.lt (by rw [z];exact hb)) (Nat.lt_irrefl _)
 ·exact absurd (Nat.lt_of_lt_of_le (Heap.lt_size (I.pin p hp).1) (by rw [z];exact hb)) (Nat.lt_irrefl _)
structure Turn (P:Program) (w:World) (K:PySem.W.Frag) (tg:Expr) (J:It) (fp:List Addr) (it:Addr) (tn:Nat→Heap→Prop):Prop where
 mem:it∈fp
 obj:∀i h,tn i h→∀b∈fp,∃o,h.get? b=some o∧∀v,o.data≠.cell v
 keep:∀i h h',tn i h→(∀b∈fp,∀o,h.get? b=some o→h'.get? b=some o)→tn i h'
 item:∀(X:Cx),X.prog=P→X.w=w→X.K=K→X.calm=true→∀(i:Nat) (pins:List (Addr×Obj)) (s:Shared) (σ:St) (H:Hp) (E:Value→Shared→Prop),Inv X pins σ H s→(∀b∈fp,FpOk X pins H b)→tn i s.heap→J.go i H→
  wpAny (model P w) X.A (pyNext (.ref it)) (fun r s1=>∃u,r=some u∧
   wpAny (model P w) X.A (letOwnedTupleGo tg (.ref it) u) (fun _ s2=>∃x H',Inv X pins σ H' s2∧RelV x u∧J.yld i H x H'∧tn (i+1) s2.heap∧∀b∈fp,H' b=none) E s1) E s
 done:∀(X:Cx),X.prog=P→X.w=w→X.K=K→X.calm=true→∀(i:Nat) (pins:List (Addr×Obj)) (s:Shared) (σ:St) (H:Hp) (E:Value→Shared→Prop),Inv X pins σ H s→(∀b∈fp,FpOk X pins H b)→tn i s.heap→J.stop i H→
  wpAny (model P w) X.A (pyNext (.ref it)) (fun r s1=>r=none∧Inv X pins σ H s1) E s
 self:∀(A:Around) (i:Nat) (s:Shared) (Q:Value→Shared→Prop) (E:Value→Shared→Prop),tn i s.heap→Q (.ref it) s→wpAny (model P w) A (pyIter (.ref it)) Q E s
abbrev TI:=St→Hp→(It→Hp→Prop)→Prop
def PIE (X:Cx) (pins:List (Addr×Obj)) (σ:St) (tg:Expr) (R:It→Hp→Prop) (itv:Value) (s2:Shared):Prop:=
 ∃(it:Addr) (fp:List Addr) (tn:Nat→Heap→Prop) (J:It) (H':Hp),itv = .ref it∧Inv X pins σ H' s2∧Turn X.prog X.w X.K tg J fp it tn∧tn 0 s2.heap∧(∀b∈fp,FpOk X pins H' b)∧R J H'
def PI (X:Cx) (tg iter:Expr) (wi:TI):Prop:=
 ∀(pins:List (Addr×Obj)) (s:Shared) (σ:St) (H:Hp) (R:It→Hp→Prop),Inv X pins σ H s→wi σ H R→
  wpAny (model X.prog X.w) X.A (eval iter X.env) (fun v s1=>wpAny (model X.prog X.w) X.A (pyIter v) (PIE X pins σ tg R) X.xe s1) X.xe s
theorem go_of {M:Model} {A:Around} {E:Value→Shared→Prop} {s:Shared} {tg:Expr} {it:Addr} {u:Value} {o:Obj} {n:String} {vs:Array Value} {Q:Unit→Shared→Prop} (ho:s.heap.get? it=some o) (hc:o.cls = .type n) (hd:o.data = .fields vs)
    (hn:["enumerate","zip","dict_itemiterator","dict_reverseitemiterator","odict_iterator","itertools.zip_longest","itertools.pairwise"].contains n=false) (hQ:Q () s):wpAny M A (letOwnedTupleGo tg (.ref it) u) Q E s:=by
  unfold letOwnedTupleGo
  cases tg<;>first
    | exact wpAny_pure hQ
    | (cases u<;>first
        | exact wpAny_pure hQ
        | (refine wpAny_bind (wpAny_load ho ?_)
           rw [hc,hd]
           show wpAny M A (if (["enumerate","zip","dict_itemiterator","dict_reverseitemiterator","odict_iterator","itertools.zip_longest","itertools.pairwise"].contains n&&vs[0]?==some (rawInt _))=true then _ else _) Q E s
           rw [if_neg (by intro h;rw [hn,Bool.false_and] at h;cases h)]
           exact wpAny_pure hQ))
def Itl (K:PySem.W.Frag) (a:Addr):It:=
 ⟨fun i H=>∃xs x,SqL K H a xs∧xs[i]? = some x,fun i H x H'=>H'=H∧∀xs,SqL K H a xs→xs[i]? = some x,fun i H=>∃xs,SqL K H a xs∧xs.length≤i⟩
def Itt (K:PySem.W.Frag) (a:Addr):It:=
 ⟨fun i H=>∃xs x,SqT K H a xs∧xs[i]? = some x,fun i H x H'=>H'=H∧∀xs,SqT K H a xs→xs[i]? = some x,fun i H=>∃xs,SqT K H a xs∧xs.length≤i⟩
def Itr (lo:Int) (n:Nat):It:=⟨fun i _=>i<n,fun i H x H'=>H'=H∧x = .int (lo+i),fun i _=>n≤i⟩
theorem turn_list {P:Program} {w:World} {K:PySem.W.Frag} {tg:Expr} (a it:Addr):Turn P w K tg (Itl K a) [it] it (fun i h=>h.IsListIter it a i) where
 mem:=by simp
 obj:=fun i h st b hb=>by
  have e:b=it:=by simpa using hb
  subst e
  obtain ⟨o,e,c,d⟩:=st
  exact ⟨o,e,fun v z=>by rw [d] at z;cases z⟩
 keep:=fun i h h' st k=>st.at fun o e=>k it (by simp) o e
 item:=by
  intro X hP hw hK hc i pins s σ H E I hf st hg
  subst hP hw hK
  obtain ⟨xs,x,hq,hx⟩:=hg
  obtain ⟨its,rv,p,hz⟩:=I.list hq
  obtain ⟨u,hu,ru⟩:=rv.get hx
  obtain ⟨f0,f1,f2,f3,f4,f5⟩:=hf it (by simp)
  refine wpAny_pyNext_list_item st p.isList (x:=u) (by simpa using hu) fun h' st' sb=>?_
  have I1:Inv X pins σ H { s with heap:=h' }:=I.turned (t':=s.toks) (fun b o hb e=>(sb.2 b hb).trans e) f0 f1 f3 f4 f5
  obtain ⟨o,e,c,d⟩:=id st'
  exact ⟨u,rfl,go_of (s:={ s with heap:=h' }) e c d (by decide) ⟨x,H,I1,ru,⟨rfl,fun ys hy=>by rw [I.list_inj hy hq];exact hx⟩,st',fun b hb=>(hf b hb).1⟩⟩
 done:=by
  intro X hP hw hK hc i pins s σ H E I hf st hg
  subst hP hw hK
  obtain ⟨xs,hq,hx⟩:=hg
  obtain ⟨its,rv,p,hz⟩:=I.list hq
  obtain ⟨f0,f1,f2,f3,f4,f5⟩:=hf it (by simp)
  have hl:=rv.length
  exact wpAny_pyNext_list_end (I.ok.hd hc) st p.isList (by simp;omega) fun h' eb=>⟨rfl,I.turned (t':=s.toks) (fun b o hb e=>eb b o hb e) f0 f1 f3 f4 f5⟩
 self:=fun _ _ _ _ _ st h=>wpAny_pyIter_listiter st h
theorem turn_tuple {P:Program} {w:World} {K:PySem.W.Frag} {tg:Expr} (a it:Addr):Turn P w K tg (Itt K a) [it] it (fun i h=>h.IsTupleIter it a i) where
 mem:=by simp
 obj:=fun i h st b hb=>by
  have e:b=it:=by simpa using hb
  subst e
  obtain ⟨o,e,c,d⟩:=st
  exact ⟨o,e,fun v z=>by rw [d] at z;cases z⟩
 keep:=fun i h h' st k=>st.at fun o e=>k it (by simp) o e
 item:=by
  intro X hP hw hK hc i pins s σ H E I hf st hg
  subst hP hw hK
  obtain ⟨xs,x,hq,hx⟩:=hg
  obtain ⟨its,rv,p,hz⟩:=I.tuple hq
  obtain ⟨u,hu,ru⟩:=rv.get hx
  obtain ⟨f0,f1,f2,f3,f4,f5⟩:=hf it (by simp)
  refine wpAny_pyNext_tuple_item st (show s.heap.IsTuple a its.toArray from p) (x:=u) (by simpa using hu) fun h' st' sb=>?_
  have I1:Inv X pins σ H { s with heap:=h' }:=I.turned (t':=s.toks) (fun b o hb e=>(sb.2 b hb).trans e) f0 f1 f3 f4 f5
  obtain ⟨o,e,c,d⟩:=id st'
  exact ⟨u,rfl,go_of (s:={ s with heap:=h' }) e c d (by decide) ⟨x,H,I1,ru,⟨rfl,fun ys hy=>by rw [I.tuple_inj hy hq];exact hx⟩,st',fun b hb=>(hf b hb).1⟩⟩
 done:=by
  intro X hP hw hK hc i pins s σ H E I hf st hg
  subst hP hw hK
  obtain ⟨xs,hq,hx⟩:=hg
  obtain ⟨its,rv,p,hz⟩:=I.tuple hq
  obtain ⟨f0,f1,f2,f3,f4,f5⟩:=hf it (by simp)
  have hl:=rv.length
  exact wpAny_pyNext_tuple_end (I.ok.hd hc) st (show s.heap.IsTuple a its.toArray from p) (by simp;omega) fun h' eb=>⟨rfl,I.turned (t':=s.toks) (fun b o hb e=>eb b o hb e) f0 f1 f3 f4 f5⟩
 self:=fun _ _ _ _ _ st h=>wpAny_pyIter_tupleiter st h
theorem turn_range {P:Program} {w:World} {K:PySem.W.Frag} {tg:Expr} (it:Addr) (lo:Int) (n:Nat):Turn P w K tg (Itr lo n) [it] it (fun i h=>IsRangeIter h it (lo+(i:Nat)*1) ((n:Int)-(i:Nat)) 1) where
 mem:=by simp
 obj:=fun i h st b hb=>by
  have e:b=it:=by simpa using hb
  subst e
  exact ⟨_,st,fun v z=>by
   have z':Data.fields _=Data.cell v:=z
   cases z'⟩
 keep:=fun i h h' st k=>k it (by simp) _ st
 item:=by
  intro X hP hw hK hc i pins s σ H E I hf st hg
  subst hP hw hK
  obtain ⟨f0,f1,f2,f3,f4,f5⟩:=hf it (by simp)
  have W:=Walks.range (prog:=X.prog) (w:=X.w) (I.ok.hd hc) it lo 1 n
  refine W.item i s _ _ hg st fun v h' tk hv st' kk=>?_
  obtain ⟨t,rfl⟩:=hv
  have I1:Inv X pins σ H { s with heap:=h',toks:=tk }:=I.turned (fun b o hb e=>kk b o (by simpa using hb) e) f0 f1 f3 f4 f5
  refine ⟨_,rfl,go_of (s:={ s with heap:=h',toks:=tk }) (n:="range_iterator") st' rfl rfl (by decide) ⟨.int (lo+i),H,I1,⟨t,?_⟩,⟨rfl,rfl⟩,st',fun b hb=>(hf b hb).1⟩⟩
  rw [Int.mul_one]
 done:=by
  intro X hP hw hK hc i pins s σ H E I hf st hg
  subst hP hw hK
  obtain ⟨f0,f1,f2,f3,f4,f5⟩:=hf it (by simp)
  exact wpAny_pyNext_range_end (I.ok.hd hc) st (by have:n≤i:=hg;omega) fun h' eb=>⟨rfl,I.turned (t':=s.toks) (fun b o hb e=>eb b o hb e) f0 f1 f3 f4 f5⟩
 self:=fun _ _ _ _ _ st h=>wpAny_pyIter_rangeiter st h
section
variable {X:Cx} {tg:Expr}
def iList (K:PySem.W.Frag) (tl:TE):TI:=fun σ H R=>tl σ H fun x H1=>∃a,x = .ref a∧(∃xs,SqL K H1 a xs)∧R (Itl K a) H1
def iTup (K:PySem.W.Frag) (tl:TE):TI:=fun σ H R=>tl σ H fun x H1=>∃a,x = .ref a∧(∃xs,SqT K H1 a xs)∧R (Itt K a) H1
theorem pi_list {l:Expr} {tl:TE} (hl:PE X l tl):PI X tg l (iList X.K tl):=by
 intro pins s σ H R I h
 refine thn (hl pins s σ H _ I h) fun v s1 ⟨x,H1,I1,r1,q1⟩=>?_
 obtain ⟨a,e,⟨xs,hq⟩,q⟩:=q1
 subst e
 cases r1
 obtain ⟨its,rv,p,hz⟩:=I1.list hq
 refine wpAny_pyIter_list p.isList ?_
 refine ⟨s1.heap.objs.size,[s1.heap.objs.size],_,_,H1,rfl,I1.kept (t':=s1.toks) fun b o e=>Heap.get?_push_of_some _ e,turn_list a _,⟨_,Heap.get?_push_size _ rfl,rfl,rfl⟩,fun b hb=>?_,q⟩
 have e:b=s1.heap.objs.size:=by simpa using hb
 subst e
 exact I1.fpOk (Nat.le_refl _) (I1.hok.fresh (Nat.le_refl _))
theorem pi_tup {l:Expr} {tl:TE} (hl:PE X l tl):PI X tg l (iTup X.K tl):=by
 intro pins s σ H R I h
 refine thn (hl pins s σ H _ I h) fun v s1 ⟨x,H1,I1,r1,q1⟩=>?_
 obtain ⟨a,e,⟨xs,hq⟩,q⟩:=q1
 subst e
 cases r1
 obtain ⟨its,rv,p,hz⟩:=I1.tuple hq
 refine wpAny_pyIter_tuple (show s1.heap.IsTuple a its.toArray from p) ?_
 refine ⟨s1.heap.objs.size,[s1.heap.objs.size],_,_,H1,rfl,I1.kept (t':=s1.toks) fun b o e=>Heap.get?_push_of_some _ e,turn_tuple a _,⟨_,Heap.get?_push_size _ rfl,rfl,rfl⟩,fun b hb=>?_,q⟩
 have e:b=s1.heap.objs.size:=by simpa using hb
 subst e
 exact I1.fpOk (Nat.le_refl _) (I1.hok.fresh (Nat.le_refl _))
theorem range_it {pins:List (Addr×Obj)} {σ:St} {H:Hp} {s:Shared} {R:It→Hp→Prop} {E:Value→Shared→Prop} {lo hi:Int} {t u v:Tok} {tk:Nat} (I:Inv X pins σ H s) (h1:-(2^62)≤lo) (h2:lo<2^62) (h3:-(2^62)≤hi) (h4:hi<2^62)
  (q:R (Itr lo (hi-lo).toNat) H):wpAny (model X.prog X.w) X.A (pyIter (.ref s.heap.objs.size)) (PIE X pins σ tg R) E { s with heap:=s.heap.push { cls:=.type "range",data:=.fields #[.int lo t,.int hi u,.int 1 v] },toks:=tk }:=by
 refine wpAny_pyIter_range (IsRange.new ..) (small_one h1 h2 h3 h4) ?_
 have I1:Inv X pins σ H { s with heap:=s.heap.push { cls:=.type "range",data:=.fields #[.int lo t,.int hi u,.int 1 v] },toks:=tk }:=I.kept fun b o e=>Heap.get?_push_of_some _ e
 refine ⟨(s.heap.push { cls:=.type "range",data:=.fields #[.int lo t,.int hi u,.int 1 v] }).objs.size,[(s.heap.push { cls:=.type "range",data:=.fields #[.int lo t,.int hi u,.int 1 v] }).objs.size],_,_,H,rfl,
  I1.kept (t':=tk) fun b o e=>Heap.get?_push_of_some _ e,turn_range _ lo (hi-lo).toNat,?_,fun b hb=>?_,q⟩
 ·have e1:lo+((0:Nat):Int)*1=lo:=by simp
  have e2:(((hi-lo).toNat:Nat):Int)-((0:Nat):Int)=Builtin.Range.rangeSize lo hi 1:=by rw [rangeSize_one];split<;>omega
  show IsRangeIter _ _ (lo+((0:Nat):Int)*1) ((((hi-lo).toNat:Nat):Int)-((0:Nat):Int)) 1
  rw [e1,e2]
  exact Heap.get?_push_size _ rfl
 ·have e:b=(s.heap.push { cls:=.type "range",data:=.fields #[.int lo t,.int hi u,.int 1 v] }).objs.size:=by simpa using hb
  subst e
  exact I1.fpOk (Nat.le_refl _) (I1.hok.fresh (Nat.le_refl _))
def iRng1 (ta:TA):TI:=fun σ H R=>ta σ H fun vs H1=>∃j:Int,vs=[.int j]∧-(2^62)≤j∧j<2^62∧R (Itr 0 j.toNat) H1
theorem pi_range1 {a:Expr} {ta:TA} {p pos:Pos} (hg:Gl X "range") (hm:X.mg "range" = none) (ha:PA X [a] ta) (hs:starEach [a] X.env=[(false,eval a X.env)]:=by rfl):PI X tg (.Call (.Name "range" p) [a] [] pos) (iRng1 ta):=by
 intro pins s σ H R I h
 refine Call_ (ld_blt I hg hm boot_range (PyProof.Rows.callWith_type1 (thn (ha pos pins s σ H _ I h) fun us s1 ⟨vs,H1,I1,r1,q1⟩=>?_) hs rfl))
 obtain ⟨j,e,q1,q2,q⟩:=q1
 subst e
 cases r1 with
 | cons r rr=>
  cases rr
  obtain ⟨t,rfl⟩:=r
  exact call_range_1 (range_it I1 (by omega) (by omega) q1 q2 (by simpa using q))
def tFor (wi:TI) (g:TG) (tb:TS):TS:=fun D σ H=>wi σ H fun J H1=>∃W:Nat→Nat→St→Hp→Prop,(∃m,W 0 m σ H1)∧∀i m σ H,W i m σ H→
 (J.stop i H∧D.nx σ H)∨(J.go i H∧∃N:St→Hp→Prop,(∀σ' H',N σ' H'→∃m',m'<m∧W (i+1) m' σ' H')∧∀x H',J.yld i H x H'→g x σ H' fun σ2 H2=>tb { D with nx:=N,ct:=N,bk:=D.nx } σ2 H2)
def pinsAt (fp:List Addr) (h:Heap):List (Addr×Obj):=fp.filterMap fun b=>(h.get? b).map fun o=>(b,o)
theorem mem_pinsAt {fp:List Addr} {h:Heap} {b:Addr} {o:Obj} (hb:b∈fp) (e:h.get? b=some o):(b,o)∈pinsAt fp h:=List.mem_filterMap.mpr ⟨b,hb,by rw [e];rfl⟩
theorem of_pinsAt {fp:List Addr} {h:Heap} {p:Addr×Obj} (hp:p∈pinsAt fp h):p.1∈fp∧h.get? p.1=some p.2:=by
 obtain ⟨b,hb,e⟩:=List.mem_filterMap.mp hp
 cases q:h.get? b with
 | none=>rw [q] at e;cases e
 | some o=>
  rw [q] at e
  have e':(b,o)=p:=Option.some.inj e
  subst e'
  exact ⟨hb,q⟩
theorem Inv.pinned {pins:List (Addr×Obj)} {σ:St} {H:Hp} {s:Shared} {fp:List Addr} (I:Inv X pins σ H s) (hf:∀b∈fp,FpOk X pins H b) (ho:∀b∈fp,∃o,s.heap.get? b=some o∧∀v,o.data≠.cell v):Inv X (pins++pinsAt fp s.heap) σ H s:=
 I.pins_of fun p hp=>(List.mem_append.mp hp).elim (fun z=>I.pin p (List.mem_append_right _ z)) fun z=>by
  obtain ⟨hb,e⟩:=of_pinsAt z
  obtain ⟨f0,f1,f2,_⟩:=hf p.1 hb
  obtain ⟨o,e',d⟩:=ho p.1 hb
  rw [e] at e';cases e'
  exact ⟨e,f0,f1,f2,d⟩
theorem Inv.unpinned {pins pl:List (Addr×Obj)} {σ:St} {H:Hp} {s:Shared} (I:Inv X (pins++pl) σ H s):Inv X pins σ H s:=I.pins_of fun p hp=>I.pin p (List.mem_append_right _ (List.mem_append_left _ hp))
theorem ps_for {iter:Expr} {body:List Stmt} {wi:TI} {g:TG} {tb:TS} {pos:Pos} (hp:PassesOwn (model X.prog X.w) X.A X.env X.xe) (hc:X.calm=true) (hi:PI X tg iter wi) (hg:PG X tg g) (hb:PSs X body tb)
  (hs:∀x,foldedSetIterable iter X.env x=pure x:=by intro _;rfl):PS X (.For tg iter body [] pos) (tFor wi g tb):=by
 intro pins s σ H D I h
 refine wpAny_For (thn (hi pins s σ H _ I h) fun v s1 h1=>thn h1 fun itv s2 h2=>?_) hs
 obtain ⟨it,fp,tn,J,H2,e,I2,T,st2,f2,W,⟨m0,w0⟩,turn⟩:=h2
 subst e
 -- what stays true of the iterator's objects through the loop
 have stat:∀{H':Hp},(∀b∈fp,H' b=none)→∀b∈fp,FpOk X pins H' b:=fun hn b hb=>⟨hn b hb,(f2 b hb).2⟩
 refine codeAny_forLoop_any (fun n s'=>∃i σ' H',Inv X pins σ' H' s'∧tn i s'.heap∧(∀b∈fp,H' b=none)∧W i n σ' H') ?_ m0 ⟨0,σ,H2,I2,st2,fun b hb=>(f2 b hb).1,w0⟩
 rintro n s3 ⟨i,σ3,H3,I3,st3,fr3,w3⟩
 rcases turn i n σ3 H3 w3 with ⟨stop,qn⟩ | ⟨go,N,hN,step⟩
 ·refine wpAny_passesOwn hp (thn (T.done X rfl rfl rfl hc i pins s3 σ3 H3 X.xe I3 (stat fr3) st3 stop) fun r s4 ⟨hr,I4⟩=>?_)
  subst hr
  exact wpAny_execs_nil ⟨σ3,H3,I4,qn⟩
 ·refine wpAny_passesOwn hp (thn (T.item X rfl rfl rfl hc i pins s3 σ3 H3 X.xe I3 (stat fr3) st3 go) fun r s4 ⟨u,hr,h4⟩=>?_)
  subst hr
  refine wpAny_passesOwn hp (thn h4 fun _ s5 ⟨x,H5,I5,r5,y5,st5,fr5⟩=>?_)
  have I5':=I5.pinned (stat fr5) (T.obj _ _ st5)
  refine wpAny_passesOwn hp (thn (hg _ s5 σ3 H5 x u _ I5' r5 (step x H5 y5)) fun _ s6 ⟨σ6,H6,I6,q6⟩=>?_)
  refine wpAny_passesOwn hp (thn (hb _ s6 σ6 H6 _ I6 q6) fun f s7 q7=>?_)
  have again:∀{σ7:St} {H7:Hp},Inv X (pins++pinsAt fp s5.heap) σ7 H7 s7→N σ7 H7→∃m,m<n∧∃i σ' H',Inv X pins σ' H' s7∧tn i s7.heap∧(∀b∈fp,H' b=none)∧W i m σ' H':=fun {σ7 H7} I7 n7=>by
   obtain ⟨m',hm,w7⟩:=hN σ7 H7 n7
   refine ⟨m',hm,i+1,σ7,H7,I7.unpinned,T.keep _ _ _ st5 fun b hb o e=>(I7.pin (b,o) (List.mem_append_right _ (List.mem_append_right _ (mem_pinsAt hb e)))).1,fun b hb=>?_,w7⟩
   obtain ⟨o,e,d⟩:=T.obj _ _ st5 b hb
   exact (I7.pin (b,o) (List.mem_append_right _ (List.mem_append_right _ (mem_pinsAt hb e)))).2.1
  cases f with
  | next=>obtain ⟨σ7,H7,I7,n7⟩:=q7;exact again I7 n7
  | cont=>obtain ⟨σ7,H7,I7,n7⟩:=q7;exact again I7 n7
  | brk=>obtain ⟨σ7,H7,I7,q7⟩:=q7;exact ⟨σ7,H7,I7.unpinned,q7⟩
  | ret v=>obtain ⟨x7,σ7,H7,I7,r7,q7⟩:=q7;exact ⟨x7,σ7,H7,I7.unpinned,r7,q7⟩
end
abbrev R2:=V→V→Hp→VK→Prop
def OpR (X:Cx) (f:Value→Value→Sem Value) (r:R2):Prop:=
 ∀(pins:List (Addr×Obj)) (s:Shared) (σ:St) (H:Hp) (x y:V) (v u:Value) (Q:VK),Inv X pins σ H s→RelV x v→RelV y u→r x y H Q→
  wpAny (model X.prog X.w) X.A (f v u) (EP X pins σ Q) X.xe s
def UnR (X:Cx) (f:Value→Sem Value) (r:V→Hp→VK→Prop):Prop:=
 ∀(pins:List (Addr×Obj)) (s:Shared) (σ:St) (H:Hp) (x:V) (v:Value) (Q:VK),Inv X pins σ H s→RelV x v→r x H Q→
  wpAny (model X.prog X.w) X.A (f v) (EP X pins σ Q) X.xe s
def CallR (X:Cx) (f:Value) (r:List V→Hp→VK→Prop):Prop:=
 ∀(pins:List (Addr×Obj)) (s:Shared) (σ:St) (H:Hp) (xs:List V) (us:List Value) (Q:VK),Inv X pins σ H s→Vals xs us→r xs H Q→
  wpAny (model X.prog X.w) X.A (call f us) (EP X pins σ Q) X.xe s
def tOp (r:R2) (ta tb:TE):TE:=fun σ H Q=>ta σ H fun x H1=>tb σ H1 fun y H2=>r x y H2 Q
def tUn (r:V→Hp→VK→Prop) (ta:TE):TE:=fun σ H Q=>ta σ H fun x H1=>r x H1 Q
def rI (C:Int→Int→Prop) (g:Int→Int→V):R2:=fun x y H Q=>∃i j,x = .int i∧y = .int j∧C i j∧Q (g i j) H
def rI0 (g:Int→Int→V):R2:=fun x y H Q=>∃i j,x = .int i∧y = .int j∧Q (g i j) H
def rU (g:Int→V):V→Hp→VK→Prop:=fun x H Q=>∃i,x = .int i∧Q (g i) H
section
variable {X:Cx} {a b c:Expr} {ta tb tc:TE} {pos:Pos}
theorem binT (ha:PE X a ta) (hb:PE X b tb) {pins:List (Addr×Obj)} {s:Shared} {σ:St} {H:Hp} {R:V→V→Hp→Prop} (I:Inv X pins σ H s)
  (h:ta σ H fun x H1=>tb σ H1 fun y H2=>R x y H2) {Q:Value→Shared→Prop} {f:Value→Value→Sem Value}
  (hf:∀v u s2 x y H2,Inv X pins σ H2 s2→RelV x v→RelV y u→R x y H2→wpAny (model X.prog X.w) X.A (f v u) Q X.xe s2) :
  wpAny (model X.prog X.w) X.A (eval a X.env) (fun v s₁=>wpAny (model X.prog X.w) X.A (eval b X.env) (fun u s₂=>wpAny (model X.prog X.w) X.A (f v u) Q X.xe s₂) X.xe s₁) X.xe s:=by
 refine thn (ha pins s σ H _ I h) fun v s1 ⟨x,H1,I1,r1,q1⟩=>?_
 refine thn (hb pins s1 σ H1 _ I1 q1) fun u s2 ⟨y,H2,I2,r2,q2⟩=>?_
 exact hf v u s2 x y H2 I2 r1 r2 q2
theorem pe_op {op:Operator} {r:R2} (ho:OpR X (binaryOp op) r) (ha:PE X a ta) (hb:PE X b tb):PE X (.BinOp a op b pos) (tOp r ta tb):=by
 intro pins s σ H Q I h
 exact wpAny_BinOp (binT ha hb I h fun v u s2 x y H2 I2 rx ry q=>ho pins s2 σ H2 x y v u Q I2 rx ry q)
theorem pe_un {op:UnaryOp} {r:V→Hp→VK→Prop} (ho:UnR X (unaryOp op) r) (ha:PE X a ta):PE X (.UnaryOp op a pos) (tUn r ta):=by
 intro pins s σ H Q I h
 exact UnaryOp_ (thn (ha pins s σ H _ I h) fun v s1 ⟨x,H1,I1,r1,q1⟩=>ho pins s1 σ H1 x v Q I1 r1 q1)
theorem opI {f:Value→Value→Sem Value} {C:Int→Int→Prop} {g:Int→Int→Int}
  (rule:∀(i j:Int) (t u:Tok) (s:Shared) (Q:Value→Shared→Prop) (E:Value→Shared→Prop),C i j→Q (.int (g i j) s.toks) { s with toks:=s.toks+1 }→wpAny (model X.prog X.w) X.A (f (.int i t) (.int j u)) Q E s) :
  OpR X f (rI C fun i j=>.int (g i j)):=by
 intro pins s σ H x y v u Q I rx ry h
 obtain ⟨i,j,rfl,rfl,hc,q⟩:=h
 obtain ⟨t,rfl⟩:=rx
 obtain ⟨t',rfl⟩:=ry
 exact rule i j t t' s _ _ hc ⟨.int (g i j),H,I.tok _,⟨_,rfl⟩,q⟩
theorem opI0 {f:Value→Value→Sem Value} {g:Int→Int→Int}
  (rule:∀(i j:Int) (t u:Tok) (s:Shared) (Q:Value→Shared→Prop) (E:Value→Shared→Prop),Q (.int (g i j) s.toks) { s with toks:=s.toks+1 }→wpAny (model X.prog X.w) X.A (f (.int i t) (.int j u)) Q E s) :
  OpR X f (rI0 fun i j=>.int (g i j)):=by
 intro pins s σ H x y v u Q I rx ry h
 obtain ⟨i,j,rfl,rfl,q⟩:=h
 obtain ⟨t,rfl⟩:=rx
 obtain ⟨t',rfl⟩:=ry
 exact rule i j t t' s _ _ ⟨.int (g i j),H,I.tok _,⟨_,rfl⟩,q⟩
theorem opB0 {f:Value→Value→Sem Value} {g:Int→Int→Bool}
  (rule:∀(i j:Int) (t u:Tok) (s:Shared) (Q:Value→Shared→Prop) (E:Value→Shared→Prop),Q (.bool (g i j)) s→wpAny (model X.prog X.w) X.A (f (.int i t) (.int j u)) Q E s) :
  OpR X f (rI0 fun i j=>.bl (g i j)):=by
 intro pins s σ H x y v u Q I rx ry h
 obtain ⟨i,j,rfl,rfl,q⟩:=h
 obtain ⟨t,rfl⟩:=rx
 obtain ⟨t',rfl⟩:=ry
 exact rule i j t t' s _ _ ⟨.bl (g i j),H,I,rfl,q⟩
def CPow (i j:Int):Prop:=0≤j∧j≤1000000∧i.natAbs<2^64
def CMul (i j:Int):Prop:=(-(2^64)<i∧i<2^64)∨(-(2^64)<j∧j<2^64)
theorem CMul.ok {i j:Int} (h:CMul i j):IntMulOk i j:=by
 rcases h with ⟨h1,h2⟩ | ⟨h1,h2⟩
 ·exact .of_left (intBits_le_64 h1 h2)
 ·exact .of_right (intBits_le_64 h1 h2)
theorem op_add:OpR X (binaryOp .Add) (rI0 fun i j=>.int (i+j)):=opI0 fun _ _ _ _ _ _ _ q=>add_int q
theorem op_sub:OpR X (binaryOp .Sub) (rI0 fun i j=>.int (i-j)):=opI0 fun _ _ _ _ _ _ _ q=>sub_int q
theorem op_mul:OpR X (binaryOp .Mult) (rI CMul fun i j=>.int (i*j)):=opI fun _ _ _ _ _ _ _ hc q=>mul_int q hc.ok
theorem op_mod:OpR X (binaryOp .Mod) (rI (fun _ j=>0<j) fun i j=>.int (i%j)):=opI fun i j _ _ _ _ _ hc q=>by
 have h1:(0:Int)<j:=hc
 exact mod_int' (by omega) (by rw [Int.fmod_eq_emod_of_nonneg i (by omega)];exact q)
theorem op_pow:OpR X (binaryOp .Pow) (rI CPow fun i j=>.int (i^j.toNat)):=opI fun _ _ _ _ _ _ _ hc q=>pow_int_small hc.1 hc.2.1 hc.2.2 q
theorem op_shl:OpR X (binaryOp .LShift) (rI CPow fun i j=>.int (i*2^j.toNat)):=opI fun _ _ _ _ _ _ _ hc q=>lshift_int_small hc.1 hc.2.1 hc.2.2 q
theorem unI {f:Value→Sem Value} {g:Int→Int}
  (rule:∀(i:Int) (t:Tok) (s:Shared) (Q:Value→Shared→Prop) (E:Value→Shared→Prop),Q (.int (g i) s.toks) { s with toks:=s.toks+1 }→wpAny (model X.prog X.w) X.A (f (.int i t)) Q E s) :
  UnR X f (rU fun i=>.int (g i)):=by
 intro pins s σ H x v Q I rx h
 obtain ⟨i,rfl,q⟩:=h
 obtain ⟨t,rfl⟩:=rx
 exact rule i t s _ _ ⟨.int (g i),H,I.tok _,⟨_,rfl⟩,q⟩
theorem un_neg:UnR X (unaryOp .USub) (rU fun i=>.int (-i)):=unI fun _ _ _ _ _ q=>neg_int q
end
section
variable {X:Cx} {a b c:Expr} {ta tb tc:TE} {pos:Pos}
theorem fin_bl {pins:List (Addr×Obj)} {σ:St} {H:Hp} {s:Shared} {Q:VK} {k k':Bool} (I:Inv X pins σ H s) (q:Q (.bl k) H) (e:k=k'):EP X pins σ Q (.bool k') s:=by
 subst e
 exact ⟨.bl k,H,I,rfl,q⟩
theorem op_lt:OpR X (compareOp .Lt) (rI0 fun i j=>.bl (decide (i<j))):=opB0 fun _ _ _ _ _ _ _ q=>lt_int q
theorem op_le:OpR X (compareOp .LtE) (rI0 fun i j=>.bl (decide (i≤j))):=opB0 fun _ _ _ _ _ _ _ q=>le_int q
theorem op_gt:OpR X (compareOp .Gt) (rI0 fun i j=>.bl (decide (j<i))):=opB0 fun _ _ _ _ _ _ _ q=>gt_int q
theorem op_ge:OpR X (compareOp .GtE) (rI0 fun i j=>.bl (decide (j≤i))):=opB0 fun _ _ _ _ _ _ _ q=>ge_int q
theorem op_isN:OpR X (compareOp .Is) (fun x y H Q=>y = .non∧Q (.bl (decide (x = .non))) H):=by
 intro pins s σ H x y v u Q I rx ry h
 obtain ⟨rfl,q⟩:=h
 cases ry
 refine is_none_gen (fin_bl I q ?_)
 cases x<;>first
  | (cases rx;rfl)
  | (obtain ⟨t,rfl⟩:=rx;rfl)
theorem op_notN:OpR X (compareOp .IsNot) (fun x y H Q=>y = .non∧Q (.bl (!decide (x = .non))) H):=by
 intro pins s σ H x y v u Q I rx ry h
 obtain ⟨rfl,q⟩:=h
 cases ry
 refine isnot_none_gen (fin_bl I q ?_)
 cases x<;>first
  | (cases rx;rfl)
  | (obtain ⟨t,rfl⟩:=rx;rfl)
theorem nomark (b:Expr) {op:CmpOp} (h:op≠.In:=by decide) (h2:op≠.NotIn:=by decide):behindInMarks op b=false:=by
 have e1:(op==CmpOp.In)=false:=by cases op<;>first | rfl | exact absurd rfl h
 have e2:(op==CmpOp.NotIn)=false:=by cases op<;>first | rfl | exact absurd rfl h2
 cases b<;>simp [behindInMarks,e1,e2]
theorem pe_cmpR {op:CmpOp} {r:R2} (ho:OpR X (compareOp op) r) (ha:PE X a ta) (hb:PE X b tb) (hm:behindInMarks op b=false):PE X (.Compare a [op] [b] pos) (tOp r ta tb):=by
 intro pins s σ H Q I h
 exact wpAny_Compare1 (binT ha hb I h fun v u s2 x y H2 I2 rx ry q=>ho pins s2 σ H2 x y v u Q I2 rx ry q) hm
def tTest (t:TE):TT:=fun σ H Q=>t σ H fun x H'=>∃k,x = .bl k∧Q k H'
theorem pt_cmpR {op:CmpOp} {r:R2} (ho:OpR X (compareOp op) r) (ha:PE X a ta) (hb:PE X b tb) (hm:behindInMarks op b=false):PT X (.Compare a [op] [b] pos) (tTest (tOp r ta tb)):=by
 intro pins s σ H Q I h
 refine wpAny_isTrue_Compare1 (thn (ha pins s σ H _ I h) fun v s1 ⟨x,H1,I1,r1,q1⟩=>thn (hb pins s1 σ H1 _ I1 q1) fun u s2 ⟨y,H2,I2,r2,q2⟩=>
  thn (ho pins s2 σ H2 x y v u _ I2 r1 r2 q2) fun c s3 ⟨z,H3,I3,r3,k,e,q3⟩=>?_) hm
 subst e
 cases r3
 exact wpAny_truthy_bool ⟨H3,I3,q3⟩
theorem line63:(sizeLine:Nat)<2^63:=by rw [sizeLine_eq];decide
theorem op_add_str:OpR X (binaryOp .Add) (fun x y H Q=>∃i j,x = .str i∧y = .str j∧i.length+j.length≤sizeLine∧Q (.str (i++j)) H):=by
 intro pins s σ H x y v u Q I rx ry h
 obtain ⟨i,j,rfl,rfl,hz,q⟩:=h
 obtain ⟨t,rfl⟩:=rx
 obtain ⟨t',rfl⟩:=ry
 exact add_str (fun t' tk=>⟨.str (i++j),H,I.tok _,⟨_,rfl⟩,q⟩) hz
theorem vals1 {x:V} {us:List Value} (r:Vals [x] us):∃u,us=[u]∧RelV x u:=by
 cases r with
 | cons r1 r2=>cases r2;exact ⟨_,rfl,r1⟩
end
section
variable {prog:Program} {w:World} {A:Around} {E:Value→Shared→Prop} {s:Shared} {K:PySem.W.Frag} {x dx C f:Addr} {mA:Str→Option Value} {name:Str} {v:Value}
end
theorem RelO.some_of {v:V} {o:Option Value} (r:RelO (some v) o):∃u,o=some u∧RelV v u:=by
 cases o with
 | none=>exact (show False from r).elim
 | some u=>exact ⟨u,rfl,r⟩
section
variable {P:Program} {w:World} {H H':Hp} {h h':Heap} {a C dx:Addr} {fs fs':List (Str×V)}
end
section
variable {X:Cx} {pins:List (Addr×Obj)} {σ:St} {H:Hp} {s:Shared} {a C dx:Addr} {fs:List (Str×V)} {f:Str} {v:V} {A:Around} {E:Value→Shared→Prop}
end
section
variable {X:Cx} {o e value:Expr} {f:Str} {pos pos' tpos:Pos} {ta tv:TE}
end
section
variable {X:Cx} {pins:List (Addr×Obj)} {σ:St} {H:Hp} {s:Shared} {A:Around} {E:Value→Shared→Prop} {Q:Value→Shared→Prop} {c:Value} {b:Bool}
end
structure Room (k:Nat) (A:Around):Prop where
 hd:A.handled=none
 dp:A.depth+3*k+5<recursionLimit
 un:A.units+16*k+200<cLine
 gd:A.guards=some []
theorem Room.mono {j k:Nat} {A:Around} (r:Room k A) (h:j≤k):Room j A:=⟨r.hd,by have:=r.dp;omega,by have:=r.un;omega,r.gd⟩
theorem Room.deeper {k:Nat} {A:Around} (r:Room (k+1) A) (env:Env):Room k (A.deeper env):=
 ⟨r.hd,by have:=r.dp;show A.depth+1+3*k+5<_;omega,by have:=r.un;show A.units+3+16*k+200<_;omega,r.gd⟩
theorem Room.depth {k:Nat} {A:Around} (r:Room k A):A.depth<recursionLimit:=by have:=r.dp;omega
theorem Room.units {k:Nat} {A:Around} (r:Room k A):A.units+64<cLine:=by have:=r.un;omega
def tNil:TA:=fun _ H Q=>Q [] H
def tCons (ta:TE) (tr:TA):TA:=fun σ H Q=>ta σ H fun x H1=>tr σ H1 fun xs H2=>Q (x::xs) H2
section
variable {X:Cx} {e:Expr} {es:List Expr} {te:TE} {t:TA} {pos:Pos}
theorem pa_nil:PA X [] tNil:=fun _ _ _ _ H Q I h=>Calls.spliced_nil ⟨[],H,I,.nil,h⟩
theorem pa_cons (ha:PE X e te) (hr:PA X es t) (hs:starEach (e::es) X.env=(false,eval e X.env)::starEach es X.env:=by rfl):PA X (e::es) (tCons te t):=by
 intro pos pins s σ H Q I h
 rw [hs]
 show wpAny _ _ (spliced ((false,eval e X.env)::backTo pos (starEach es X.env))) _ _ s
 refine Calls.spliced_cons (thn (ha pins s σ H _ I h) fun u s1 ⟨x,H1,I1,r1,q1⟩=>?_)
 exact thn (hr pos pins s1 σ H1 _ I1 q1) fun us s2 ⟨xs,H2,I2,r2,q2⟩=>⟨x::xs,H2,I2,.cons r1 r2,q2⟩
def tTup (t:TA):TE:=fun σ H Q=>t σ H fun xs H1=>xs.length≤sizeLine∧∀p,H1 p=none→Q (.ref p) (upd H1 p (.tup xs))
def tLst (t:TA):TE:=fun σ H Q=>t σ H fun xs H1=>xs.length≤sizeLine∧∀p,H1 p=none→Q (.ref p) (upd H1 p (.lst xs))
theorem pe_tup {x1} (h:PA X es t):PE X (.Tuple es x1 pos) (tTup t):=by
 intro pins s σ H Q I hq
 refine wpAny_Tuple_spliced (thn (h pos pins s σ H _ I hq) fun us s1 ⟨xs,H1,I1,r,z,q⟩=>⟨by rw [←r.length];exact z,?_⟩)
 have hf:H1 s1.heap.objs.size=none:=I1.hok.fresh (Nat.le_refl _)
 refine ⟨.ref s1.heap.objs.size,upd H1 s1.heap.objs.size (.tup xs),I1.laid (t':=s1.toks) (fun b u e=>Heap.get?_push_of_some _ e) (Nat.le_refl _) ?_,rfl,q _ hf⟩
 exact ⟨z,us,r,⟨_,Heap.get?_push_size _ rfl,rfl,_,rfl⟩⟩
theorem pe_lst (h:PA X es t):PE X (.List es pos) (tLst t):=by
 intro pins s σ H Q I hq
 refine wpAny_List_spliced (thn (h pos pins s σ H _ I hq) fun us s1 ⟨xs,H1,I1,r,z,q⟩=>⟨by rw [←r.length];exact z,?_⟩)
 have hf:H1 s1.heap.objs.size=none:=I1.hok.fresh (Nat.le_refl _)
 refine ⟨.ref s1.heap.objs.size,upd H1 s1.heap.objs.size (.lst xs),I1.laid (t':=s1.toks) (fun b u e=>Heap.get?_push_of_some _ e) (Nat.le_refl _) ?_,rfl,q _ hf⟩
 exact ⟨z,us,0,r,Heap.get?_push_size _ rfl⟩
end
abbrev Sp:=List V→Hp→VK→XK→Prop
abbrev CXT:=List Env→Hp→Shared→XK→Value→Shared→Prop
structure Env0 (P:Program) (w:World) (K:PySem.W.Frag) (mg:Str→Option Value) (base:Heap) (A:Around) (outer:List Env) (s:Shared) (H:Hp):Prop where
 frames:A.frames=some outer
 mod:Mod K mg base
 bs:∀b o,base.get? b=some o→s.heap.get? b=some o∧H b=none
 bsz:base.objs.size≤s.heap.objs.size
 funs:s.heap.FunFrames base outer
 frf:∀b∈frs outer,H b=none
 hok:HOk P w H s.heap
 bare:AllBare s.gens
def CE (outer:List Env) (P:Program) (w:World) (H:Hp) (s:Shared) (Q:VK) (u:Value) (s':Shared):Prop:=
 ∃v H',s'.os=s.os∧AllBare s'.gens∧Un (frs outer) [] H H' s.heap s'.heap∧HOk P w H' s'.heap∧RelV v u∧Q v H'
def CR (CX:CXT) (outer:List Env) (P:Program) (w:World) (H:Hp) (s:Shared) (Q:VK) (E:XK) (r:Result) (s':Shared):Prop:=
 match r with
 | .ok (.ret u)=>CE outer P w H s Q u s'
 | .ok _=>False
 | .error e=>CX outer H s E e s'
structure FnOk (P:Program) (w:World) (K:PySem.W.Frag) (mg:Str→Option Value) (base:Heap) (CX:CXT) (k:Nat) (f:Addr) (fd:FuncData) (ps:List Str) (sp:Sp):Prop where
 len:∀vs H Q E,sp vs H Q E→vs.length=ps.length
 run:∀(A:Around) (outer:List Env) (s:Shared) (H:Hp) (args:Args) (us:List Value) (vs:List V) (Q:VK) (E:XK),Room k A→Env0 P w K mg base A outer s H→BindsTo s fd args (ps.zip us)→Vals vs us→sp vs H Q E→
  codeAny (model P w) A (.call (.ref f) args) (CR CX outer P w H s Q E) s
theorem FnOk.imp {P:Program} {w:World} {K:PySem.W.Frag} {mg:Str→Option Value} {base:Heap} {CX:CXT} {k:Nat} {f:Addr} {fd:FuncData} {ps:List Str} {sp sp':Sp} (F:FnOk P w K mg base CX k f fd ps sp)
  (h:∀vs H Q E,sp' vs H Q E→sp vs H Q E):FnOk P w K mg base CX k f fd ps sp':=
 ⟨fun vs H Q E q=>F.len vs H Q E (h _ _ _ _ q),fun A outer s H args us vs Q E hr he hb hv hs=>F.run A outer s H args us vs Q E hr he hb hv (h _ _ _ _ hs)⟩
section
variable {X:Cx} {pins:List (Addr×Obj)} {σ:St} {H:Hp} {s s':Shared}
theorem Inv.env0 (I:Inv X pins σ H s):Env0 X.prog X.w X.K X.mg X.base X.A X.stack s H:=
 ⟨I.ok.frames,I.ok.mod,I.bs,Nat.le_trans I.ok.bsz I.sz,I.stack,I.stkFree,I.hok,I.bare⟩
theorem Inv.after {Q:VK} {u:Value} (I:Inv X pins σ H s) (h:CE X.stack X.prog X.w H s Q u s'):EP X pins σ Q u s':=by
 obtain ⟨v,H',os,bare,un,hok,r,q⟩:=h
 obtain ⟨hh,g,d,t,os'⟩:=s'
 obtain rfl:os'=s.os:=os
 exact ⟨v,H',I.call (h':=hh) (g':=g) (d':=d) (t':=t) (ch:=[]) un hok bare (fun b z=>absurd z (by simp)),r,q⟩
end
def tCall (sp:Sp) (dvs:List V) (E:XK) (t:TA):TE:=fun σ H Q=>t σ H fun vs H1=>sp (vs++dvs) H1 Q E
def Binds (K:PySem.W.Frag) (fd:FuncData) (ps:List Str) (ds:List Value):Prop:=
 ∀(s:Shared) (us:List Value),K.In s.heap→(us++ds).length=ps.length→BindsTo s fd ⟨us,[]⟩ (ps.zip (us++ds))
theorem Binds.all {K:PySem.W.Frag} {fd:FuncData} {ps:List Str} (h:∀us:List Value,us.length=ps.length→bindArgs fd ⟨us,[]⟩=pure (ps.zip us)):Binds K fd ps []:=fun s us _ hl=>by
 rw [List.append_nil] at hl ⊢
 exact .of_eq (h us hl)
def Passes (CX:CXT) (X:Cx) (E:XK):Prop:=∀(pins:List (Addr×Obj)) (σ:St) (H:Hp) (s:Shared) (e:Value) (s':Shared),Inv X pins σ H s→CX X.stack H s E e s'→X.xe e s'
section
variable {X:Cx} {CX:CXT} {k:Nat} {f C:Addr} {fd:FuncData} {ps:List Str} {sp:Sp} {dvs:List V} {ds:List Value} {E:XK} {x m:Str} {p pos apos:Pos} {e o:Expr} {es:List Expr} {ta:TE} {t:TA}
theorem run_fn {pins:List (Addr×Obj)} {σ:St} {H:Hp} {s:Shared} {Q:VK} {us:List Value} {vs:List V} (F:FnOk X.prog X.w X.K X.mg X.base CX k f fd ps sp) (hr:Room k X.A) (hb:Binds X.K fd ps ds) (hd:Vals dvs ds) (hx:Passes CX X E)
  (I:Inv X pins σ H s) (r:Vals vs us) (h:sp (vs++dvs) H Q E):wpAny (model X.prog X.w) X.A (call (.ref f) us) (EP X pins σ Q) X.xe s:=by
 have r2:Vals (vs++dvs) (us++ds):=r.append hd
 have hl:(us++ds).length=ps.length:=by rw [←r2.length];exact F.len _ _ _ _ h
 refine wpAny_call (codeAny_mono (F.run X.A X.stack s H ⟨us,[]⟩ (us++ds) (vs++dvs) Q E hr I.env0 (hb s us I.kIn hl) r2 h) fun r s' hq=>?_)
 cases r with
 | error e=>exact hx pins σ H s e s' I hq
 | ok fl=>
  cases fl with
  | ret u=>exact I.after hq
  | next=>exact False.elim hq
  | brk=>exact False.elim hq
  | cont=>exact False.elim hq
theorem pe_call (F:FnOk X.prog X.w X.K X.mg X.base CX k f fd ps sp) (hr:Room k X.A) (hg:Gl X x) (hm:X.mg x=some (.ref f)) (hk:PySem.W.keepIn X.K (.ref f)=true) (hb:Binds X.K fd ps ds) (hd:Vals dvs ds) (hx:Passes CX X E)
  (ha:PA X (e::es) t) (hdb:(x==("__debug__":Str))=false:=by decide) (he:starEach (e::es) X.env=(false,eval e X.env)::starEach es X.env:=by rfl) (hpl:(backTo pos (starEach es X.env)).any (·.1)=false:=by rfl) :
  PE X (.Call (.Name x p) (e::es) [] pos) (tCall sp dvs E t):=by
 intro pins s σ H Q I h
 refine wpAny_Call_Name_kw (ld_glob I hg hm ?_ hdb)
 refine PySem.W.callWith_K (h₀:=X.base) I.ok.mod.kin hk (thn (ha pos pins s σ H _ I h) fun us s1 ⟨vs,H1,I1,r,q⟩=>⟨I1.kIn,?_⟩) he hpl
 exact run_fn F hr hb hd hx I1 r q
end
section
variable {X:Cx} {CX:CXT} {k:Nat} {f C:Addr} {fd:FuncData} {ps ks:List Str} {sp:Sp} {E:XK} {x m:Str} {p pos apos kpos:Pos} {e o:Expr} {es:List Expr} {kws:List Keyword} {te ta:TE} {t tk:TA} {nm:Option Str}
variable {g:List Value→List Value→List Value} {gV:List V→List V→List V}
end
structure FnScope (N P:List Str) (sc:Scope):Prop where
 kind:sc.kind = .function
 co:sc.isCoroutine=false
 gen:sc.isGenerator=false
 nd:N.Nodup
 pre:N.take P.length=P
 par:∀x∈P,sc.names.lookup x=some .local∨sc.names.lookup x=some .cell
 nofree:∀y∈sc.names,y.2≠.free
theorem bindL_out {kindOf:Str→Option NameKind} {x:Str}:∀{binds:List (Str×Value)} {m:Str→Option Value},(∀v,(x,v)∉binds)→bindL kindOf binds m x=m x
 | [],_,_=>rfl
 | (n,v)::r,m,h=>by
  unfold bindL
  rw [bindL_out fun w hw=>h w (List.mem_cons_of_mem _ hw)]
  split
  ·have:x≠n:=by rintro rfl;exact h v List.mem_cons_self
   simp [this]
  ·rfl
theorem bindC_out {kindOf:Str→Option NameKind} {x:Str}:∀{binds:List (Str×Value)} {m:Str→Option Value},(∀v,(x,v)∉binds)→bindC kindOf binds m x=m x
 | [],_,_=>rfl
 | (n,v)::r,m,h=>by
  unfold bindC
  rw [bindC_out fun w hw=>h w (List.mem_cons_of_mem _ hw)]
  split
  ·rfl
  ·have:x≠n:=by rintro rfl;exact h v List.mem_cons_self
   simp [this]
theorem bindL_get {kindOf:Str→Option NameKind} {x:Str} {v:Value}:∀{P:List Str} {vs:List Value} {i:Nat} {m:Str→Option Value},P.Nodup→P[i]? = some x→vs[i]? = some v→kindOf x=some .local→
  bindL kindOf (P.zip vs) m x=some v
 | [],_,_,_,_,h,_,_=>by simp at h
 | _::_,[],_,_,_,_,h,_=>by simp at h
 | p::P,w::vs,0,m,nd,h1,h2,hk=>by
  simp at h1 h2;subst h1;subst h2
  show bindL kindOf ((p,w)::P.zip vs) m p=_
  unfold bindL
  rw [bindL_out fun v hv=>(List.nodup_cons.mp nd).1 (List.of_mem_zip hv).1,if_pos hk]
  simp
 | p::P,w::vs,i+1,m,nd,h1,h2,hk=>by
  show bindL kindOf ((p,w)::P.zip vs) m x=_
  unfold bindL
  exact bindL_get (i:=i) (List.nodup_cons.mp nd).2 (by simpa using h1) (by simpa using h2) hk
theorem bindC_get {kindOf:Str→Option NameKind} {x:Str} {v:Value}:∀{P:List Str} {vs:List Value} {i:Nat} {m:Str→Option Value},P.Nodup→P[i]? = some x→vs[i]? = some v→kindOf x≠some .local→
  bindC kindOf (P.zip vs) m x=some v
 | [],_,_,_,_,h,_,_=>by simp at h
 | _::_,[],_,_,_,_,h,_=>by simp at h
 | p::P,w::vs,0,m,nd,h1,h2,hk=>by
  simp at h1 h2;subst h1;subst h2
  show bindC kindOf ((p,w)::P.zip vs) m p=_
  unfold bindC
  rw [bindC_out fun v hv=>(List.nodup_cons.mp nd).1 (List.of_mem_zip hv).1,if_neg hk]
  simp
 | p::P,w::vs,i+1,m,nd,h1,h2,hk=>by
  show bindC kindOf ((p,w)::P.zip vs) m x=_
  unfold bindC
  exact bindC_get (i:=i) (List.nodup_cons.mp nd).2 (by simpa using h1) (by simpa using h2) hk
def start (N:List Str) (vs:List V):St:=vs.map some++List.replicate (N.length-vs.length) none
def cxOf (CX:CXT) (P:Program) (w:World) (K:PySem.W.Frag) (mg:Str→Option Value) (base:Heap) (N:List Str) (qual:Str) (scope:Scope) (f:Addr) (cd:Value) (A:Around) (outer:List Env) (s:Shared) (H:Hp) (E:XK):Cx where
 prog:=P
 w:=w
 K:=K
 mg:=mg
 base:=base
 A:=A.deeper (envOfC qual scope s.heap.objs.size f cd)
 N:=N
 s₀:=s
 H₀:=H
 env:=envOfC qual scope s.heap.objs.size f cd
 outer:=outer
 stack:=envOfC qual scope s.heap.objs.size f cd::outer
 ex:=[]
 calm:=true
 fn:=fun _=>true
 pn:=[]
 xe:=fun e s'=>wpAny (model P w) (A.deeper (envOfC qual scope s.heap.objs.size f cd)) (leaving (envOfC qual scope s.heap.objs.size f cd) e) (fun _ s''=>CX outer H s E e s'') (fun e' s''=>CX outer H s E e' s'') s'
theorem cell_has {sc:Scope} {n:Nat} {x:Str} (h:sc.names.lookup x=some .cell):∃c,(cellsFrom n sc.names []).lookup x=some c:=by
 have q:=PySem.W.cellsFrom_some sc.names n [] (.inl h)
 exact Option.isSome_iff_exists.mp q
theorem inv_start {CX:CXT} {P:Program} {w:World} {K:PySem.W.Frag} {mg:Str→Option Value} {base:Heap} {N ps:List Str} {qual:Str} {scope:Scope} {f:Addr} {cd:Value} {A:Around} {outer:List Env} {s s1:Shared} {H:Hp} {E:XK} {us:List Value} {vs:List V}
  (S:FnScope N ps scope) (hd:A.handled=none) (e0:Env0 P w K mg base A outer s H) (hl:vs.length=ps.length) (r:Vals vs us)
  (x:InCallC s s.heap.objs.size (bindL (envOfC qual scope s.heap.objs.size f cd).kindOf (ps.zip us) fun _=>none) (cellsFrom (s.heap.objs.size+1) scope.names []) (bindC (envOfC qual scope s.heap.objs.size f cd).kindOf (ps.zip us) fun _=>none) s1) :
  Inv (cxOf CX P w K mg base N qual scope f cd A outer s H E) [] (start N vs) H s1:=by
 have hpl:ps.length≤N.length:=by have:=congrArg List.length S.pre;rw [List.length_take] at this;omega
 obtain ⟨h1,tk,rfl,hk⟩:=x.done
 have noA:∀b:Addr,b∉(cxOf CX P w K mg base N qual scope f cd A outer s H E).ex:=fun b z=>absurd (show b∈([]:List Addr) from z) (by simp)
 refine ⟨⟨e0.mod,S.kind,rfl,rfl,Nat.le_refl _,fun y z c h1 h2=>?_,fun y hy=>?_,fun y c _ h=>?_,fun _=>hd,Around.frames_deeper e0.frames,.inr ⟨rfl,rfl⟩,fun b z=>absurd z (noA b),e0.bs,e0.bsz,fun b _ _=>noA b,fun b z=>absurd z (noA b),e0.funs,e0.frf⟩,
  rfl,e0.bare,Un.kept hk,⟨_,x.toInCall.ns,fun i y v h1 h2 h3=>?_⟩,fun y c h=>⟨_,x.cell y c h⟩,e0.hok.fresh (Nat.le_refl _),fun y c h=>?_,fun p hp=>absurd (show p∈([]:List (Addr×Obj)) from hp) (by simp),e0.hok.kept hk,?_⟩
 ·exact name_of_addr x.apart (PySem.mem_of_lookup h1) (PySem.mem_of_lookup h2)
 ·have hy:scope.names.lookup y=some .cell∨scope.names.lookup y=some .free:=hy
  rcases hy with hy | hy
  ·exact cell_has hy
  ·exact absurd rfl (S.nofree _ (PySem.mem_of_lookup hy))
 ·exact Nat.le_of_lt (x.above y c (PySem.mem_of_lookup h))
 ·have hi:i<vs.length:=by
   unfold start at h2
   by_cases hi:i<vs.length
   ·exact hi
   ·rw [List.getElem?_append_right (by simpa using hi)] at h2
    rw [List.getElem?_replicate] at h2
    split at h2<;>cases h2
  have ha:vs[i]? = some v:=by
   unfold start at h2
   rw [List.getElem?_append_left (by simpa using hi),List.getElem?_map] at h2
   cases e:vs[i]? with
   | none=>rw [e] at h2;cases h2
   | some a=>rw [e] at h2;cases h2;rfl
  obtain ⟨u,hu,rv⟩:=r.get ha
  have hp:ps[i]? = some y:=by
   rw [←S.pre,List.getElem?_take_of_lt (by omega)];exact h1
  have ndP:ps.Nodup:=by rw [←S.pre];exact S.nd.sublist (List.take_sublist _ _)
  refine ⟨u,rv,?_⟩
  rcases S.par y (List.mem_of_getElem? hp) with k | k
  ·exact .inl ⟨k,bindL_get ndP hp hu k⟩
  ·obtain ⟨c,e⟩:=cell_has (n:=s.heap.objs.size+1) k
   refine .inr ⟨.inl k,c,e,?_⟩
   have q:=x.cell y c e
   rw [bindC_get ndP hp hu (by show scope.names.lookup y≠_;rw [k];decide)] at q
   exact q
 ·exact e0.hok.fresh (Nat.le_of_lt (x.above y c (PySem.mem_of_lookup h)))
 ·unfold start
  show _=N.length
  rw [List.length_append,List.length_map,List.length_replicate]
  omega
theorem fn_of {CX:CXT} {P:Program} {w:World} {K:PySem.W.Frag} {mg:Str→Option Value} {base:Heap} {k:Nat} {f:Addr} {name qual:Str} {params:Arguments} {body:List Stmt} {scope:Scope} {dV kV doc pm cdv ct oc:Value} {an od:Option Addr}
  {osl:Array (Option Value)} {N ps:List Str} {sp:Sp} (lk:K.lookup f=some ⟨oc,od,.func (PySem.W.fnOf name qual params body scope dV kV doc pm an cdv ct),osl⟩) (hcd:PySem.W.codeIn K cdv qual=true) (S:FnScope N ps scope)
  (len:∀vs H Q E,sp vs H Q E→vs.length=ps.length)
  (hbody:∀(A:Around) (outer:List Env) (s:Shared) (H:Hp) (vs:List V) (Q:VK) (E:XK),Room k (A.deeper (envOfC qual scope s.heap.objs.size f cdv))→sp vs H Q E→
   ∃t,PSs (cxOf CX P w K mg base N qual scope f cdv A outer s H E) body t∧t { nx:=fun _ H'=>Q .non H',rt:=Q } (start N vs) H) :
  FnOk P w K mg base CX (k+1) f (PySem.W.fnOf name qual params body scope dV kV doc pm an cdv ct) ps sp:=by
 refine ⟨len,fun A outer s H args us vs Q E hr e0 hb r hsp=>?_⟩
 have hl:=len _ _ _ _ hsp
 have KX:K.In s.heap:=e0.mod.kin.keeps fun b o e=>(e0.bs b o e).1
 have lim:s.heap.NoLimit:=e0.mod.nolimit.keeps fun b o e=>(e0.bs b o e).1
 have hkind:∀y∈ps.zip us,scope.names.lookup y.1=some .local∨(scope.names.lookup y.1=some .cell∧((cellsFrom (s.heap.objs.size+1) scope.names []).lookup y.1).isSome=true):=fun ⟨n,v⟩ hy=>by
  rcases S.par n (List.of_mem_zip hy).1 with q | q
  ·exact .inl q
  ·exact .inr ⟨q,PySem.W.cellsFrom_some _ _ _ (.inl q)⟩
 refine codeAny_call_function hr.depth (KX _ _ lk) rfl S.co S.gen rfl (PySem.W.codeRec_of KX hcd) (hb _ _ _ _ ?_)
 refine wpAny_newFunctionEnv_cells S.kind hkind fun env he s1 x=>?_
 subst he
 refine ⟨lim.keeps x.toInCall.keep,codeAny_func ?_⟩
 obtain ⟨t,ht,hq⟩:=hbody A outer s H vs Q E (hr.deeper _) hsp
 have I:Inv (cxOf CX P w K mg base N qual scope f cdv A outer s H E) [] (start N vs) H s1:=inv_start S hr.hd e0 hl r x
 refine wpAny_mono (ht [] s1 (start N vs) H _ I hq) (fun fl s' hs=>?_) fun e s' hs=>hs
 have fin:∀{σ':St} {H':Hp} {v:V} {u:Value},Inv (cxOf CX P w K mg base N qual scope f cdv A outer s H E) [] σ' H' s'→RelV v u→Q v H'→CE outer P w H s Q u s':=
  fun {σ' H' v u} J rv q=>⟨v,H',J.os,J.bare,J.base,J.hok,rv,q⟩
 cases fl with
 | ret u=>
  obtain ⟨v,σ',H',J,rv,q⟩:=hs
  exact fin J rv q
 | next=>
  obtain ⟨σ',H',J,q⟩:=hs
  exact fin (v:=V.non) (u:=Value.none) J rfl q
 | brk=>
  obtain ⟨_,_,_,q⟩:=hs
  exact False.elim q
 | cont=>
  obtain ⟨_,_,_,q⟩:=hs
  exact False.elim q
section
variable {X:Cx} {x:Str} {p pos:Pos} {e:Expr} {es:List Expr} {t:TA} {id T:String} {r:List V→Hp→VK→Prop}
def tCB (r:List V→Hp→VK→Prop) (t:TA):TE:=fun σ H Q=>t σ H fun vs H1=>r vs H1 Q
theorem pe_callB (hc:CallR X (.builtin id) r) (hg:Gl X x) (hm:X.mg x=none) (hv:bootBuiltins x=some (.builtin id)) (ha:PA X (e::es) t) (hn:x≠"__name__":=by decide) (hdb:(x==("__debug__":Str))=false:=by decide)
  (he:starEach (e::es) X.env=(false,eval e X.env)::starEach es X.env:=by rfl) (hpl:(backTo pos (starEach es X.env)).any (·.1)=false:=by rfl):PE X (.Call (.Name x p) (e::es) [] pos) (tCB r t):=by
 intro pins s σ H Q I h
 refine wpAny_Call_Name_kw (ld_blt I hg hm hv ?_ hn hdb)
 exact PyProof.Rows.callWith_builtin1 (thn (ha pos pins s σ H _ I h) fun us s1 ⟨vs,H1,I1,r1,q1⟩=>hc pins s1 σ H1 vs us Q I1 r1 q1) he hpl
theorem pe_callTy (hc:CallR X (.type T) r) (hg:Gl X x) (hm:X.mg x=none) (hv:bootBuiltins x=some (.type T)) (ha:PA X (e::es) t) (hn:x≠"__name__":=by decide) (hdb:(x==("__debug__":Str))=false:=by decide)
  (he:starEach (e::es) X.env=(false,eval e X.env)::starEach es X.env:=by rfl) (hpl:(backTo pos (starEach es X.env)).any (·.1)=false:=by rfl):PE X (.Call (.Name x p) (e::es) [] pos) (tCB r t):=by
 intro pins s σ H Q I h
 refine wpAny_Call_Name_kw (ld_blt I hg hm hv ?_ hn hdb)
 exact PyProof.Rows.callWith_type1 (thn (ha pos pins s σ H _ I h) fun us s1 ⟨vs,H1,I1,r1,q1⟩=>hc pins s1 σ H1 vs us Q I1 r1 q1) he hpl
end
end L2
namespace HT
open PySem PyProof.Rows
section
open PySem.SeqAt
open PySem.AutoSeq1 (wpAny_loadPart')
open PySem.MeetsSeq PySem.MeetsSeq2 PySem.MeetsSeq3
end
section
variable {prog:Program} {w:World} {A:Around} {E:Value→Shared→Prop} {s:Shared}
theorem cat_tup {t b:Addr} {vs ws:List Value} {Q:Value→Shared→Prop} (ht:IsTup s.heap t vs.toArray) (hb:IsTup s.heap b ws.toArray) (hv:vs≠[])
  (h1:ws=[]→Q (.ref t) s) (h2:ws≠[]→Q (.ref s.heap.objs.size) { s with heap:=s.heap.push { cls:=.type "tuple",data:=.seq (vs++ws).toArray } })
  (hsz:vs.length+ws.length≤sizeLine):wpAny (model prog w) A (binaryOp .Add (.ref t) (.ref b)) Q E s:=by
 obtain ⟨⟨cls,dd,data,sl⟩,ho,hc,n,hd⟩:=id ht
 obtain ⟨⟨cls2,dd2,data2,sl2⟩,ho2,hc2,n2,hd2⟩:=id hb
 simp only at hc hd hc2 hd2
 subst hc hd hc2 hd2
 have e:vs.toArray++ws.toArray=(vs++ws).toArray:=by simp
 by_cases hw:ws=[]
 ·exact concat_meets ⟨_,ho,rfl⟩ ⟨_,ho2,rfl⟩ noFill_tuple_add seq_tuple_add PySem.F.slot_tuple_add PySem.F.entry_tuple_add (PySem.F.args_tuple_add_2 _ _)
   (tuple_addW1 t b vs.toArray ws.toArray n n2 dd dd2 sl sl2 (by simpa using hv) (by simp [hw])) ⟨ho,ho2,h1 hw⟩
 ·refine concat_meets ⟨_,ho,rfl⟩ ⟨_,ho2,rfl⟩ noFill_tuple_add seq_tuple_add PySem.F.slot_tuple_add PySem.F.entry_tuple_add (PySem.F.args_tuple_add_2 _ _)
   (tuple_addW2 t b vs.toArray ws.toArray n n2 dd dd2 sl sl2 (by simpa using hv) (by simpa using hw) (by rw [List.size_toArray,List.size_toArray];exact hsz)) ⟨ho,ho2,?_⟩
  rw [e]
  exact h2 hw
def sIx (n d:Nat):Option Int→Nat
 | none=>d
 | some v=>if v<0 then (v+(n:Int)).toNat else min v.toNat n
theorem sIx_none (n d:Nat):sIx n d none=d:=rfl
theorem sIx_nat (n d k:Nat):sIx n d (some (k:Int))=min k n:=by
 show (if (k:Int)<0 then ((k:Int)+(n:Int)).toNat else min (k:Int).toNat n)=min k n
 rw [if_neg (by omega),Int.toNat_natCast]
theorem sIx_le (n d:Nat) (hd:d≤n) (o:Option Int):sIx n d o≤n:=by
 cases o with
 | none=>exact hd
 | some v=>
  show (if v<0 then (v+(n:Int)).toNat else min v.toNat n)≤n
  by_cases hv:v<0
  ·rw [if_pos hv];omega
  ·rw [if_neg hv];exact Nat.min_le_right _ _
theorem clip_eq (v:Int) (n d:Nat):(if v<0 then max (v+(n:Int)) 0 else min v (n:Int))=((sIx n d (some v):Nat):Int):=by
 show (if v<0 then max (v+(n:Int)) 0 else min v (n:Int))=(((if v<0 then (v+(n:Int)).toNat else min v.toNat n):Nat):Int)
 by_cases hv:v<0
 ·simp only [if_pos hv];omega
 ·simp only [if_neg hv];omega
theorem adjust_gen (lo hi:Option Int) (n:Nat):Builtin.Slice.sliceAdjust lo hi 1 (n:Int)=(((sIx n 0 lo:Nat):Int),((sIx n n hi:Nat):Int)):=by
 have h1:¬((1:Int)<0):=by omega
 unfold Builtin.Slice.sliceAdjust
 simp only [h1,if_false]
 refine Prod.ext ?_ ?_
 ·cases lo with
  | none=>rfl
  | some v=>exact clip_eq v n 0
 ·cases hi with
  | none=>rfl
  | some v=>exact clip_eq v n n
theorem places_gen (i j:Nat):Builtin.Slice.slicePlaces (i:Int) (j:Int) 1=j-i:=by
 unfold Builtin.Slice.slicePlaces
 have h1:(1:Int)>0:=by omega
 simp only [h1,if_true,Int.ediv_one]
 split<;>omega
theorem slicePart_ {v:Value} {o:Option Int} {Q:Option Int→Shared→Prop} (p:IsPart v o) (h:Q o s):wpAny (model prog w) A (Builtin.Slice.slicePartIndex v) Q E s:=by
 cases p with
 | none=>exact slicePart_none h
 | int i t=>exact slicePart_int h
theorem sliceApplied_gen {sl:Addr} {vl vu:Value} {lo hi:Option Int} {n:Nat} {Q:Int×Int×Nat→Shared→Prop} (hs:s.heap.IsSliceOf sl vl vu .none) (pl:IsPart vl lo) (pu:IsPart vu hi)
  (h:Q (((sIx n 0 lo:Nat):Int),1,sIx n n hi-sIx n 0 lo) s):wpAny (model prog w) A (Builtin.Slice.sliceApplied (.ref sl) (pure (n:Int))) Q E s:=by
 obtain ⟨os,hos,hcs,hds⟩:=id hs
 unfold Builtin.Slice.sliceApplied Builtin.Slice.sliceFields
 refine wpAny_bind (wpAny_bind (wpAny_field hos hds (x:=vl) rfl (wpAny_bind (wpAny_field hos hds (x:=vu) rfl (wpAny_bind (wpAny_field hos hds (x:=.none) rfl (wpAny_pure ?_)))))))
 refine wpAny_bind (slicePart_none ?_)
 show wpAny _ _ (if ((1:Int)==0)=true then _ else _) _ _ s
 rw [if_neg (by decide)]
 refine wpAny_bind (slicePart_ pl (wpAny_bind (slicePart_ pu (wpAny_bind (wpAny_pure ?_)))))
 show wpAny _ _ (match Builtin.Slice.sliceAdjust lo hi 1 (n:Int) with | (lo,hi)=>pure (lo,(1:Int),Builtin.Slice.slicePlaces lo hi 1)) _ _ s
 rw [adjust_gen lo hi n]
 show wpAny _ _ (pure (((sIx n 0 lo:Nat):Int),(1:Int),Builtin.Slice.slicePlaces ((sIx n 0 lo:Nat):Int) ((sIx n n hi:Nat):Int) 1)) _ _ s
 rw [places_gen]
 exact wpAny_pure h
theorem pick_gen (xs:Array Value) (i k:Nat):((List.range k).filterMap fun (m:Nat)=>xs[((i:Int)+(m:Int)*1).toNat]?).toArray=((xs.toList.drop i).take k).toArray:=by
 have e:(fun (m:Nat)=>xs[((i:Int)+(m:Int)*1).toNat]?)=fun m=>xs[i+m]?:=by
  funext m
  have:((i:Int)+(m:Int)*1).toNat=i+m:=by omega
  rw [this]
 rw [e]
 have:=pick_run xs i k
 rw [List.filterMap_map] at this
 have e2:((fun x=>xs[x]?)∘fun x=>i+x)=fun m=>xs[i+m]?:=rfl
 rw [e2] at this
 rw [this]
theorem getItem_tuple_cut {t sl:Addr} {items:Array Value} {vl vu:Value} {lo hi:Option Int} {Q:Value→Shared→Prop} (ht:IsTup s.heap t items) (hs:s.heap.IsSliceOf sl vl vu .none) (pl:IsPart vl lo) (pu:IsPart vu hi)
  (hw:¬(sIx items.size 0 lo=0∧sIx items.size items.size hi=items.size))
  (h:Q (.ref s.heap.objs.size) { s with heap:=s.heap.push { cls:=.type "tuple",data:=.seq ((items.toList.drop (sIx items.size 0 lo)).take (sIx items.size items.size hi-sIx items.size 0 lo)).toArray } })
  (hsz:items.size≤sizeLine):wpAny (model prog w) A (getItem (.ref t) (.ref sl)) Q E s:=by
 have htake:sizeOk (.seq ((items.toList.drop (sIx items.size 0 lo)).take (sIx items.size items.size hi-sIx items.size 0 lo)).toArray):=by
  show ((items.toList.drop (sIx items.size 0 lo)).take (sIx items.size items.size hi-sIx items.size 0 lo)).toArray.size≤sizeLine
  rw [List.size_toArray,List.length_take,List.length_drop,Array.length_toList]
  omega
 have hj:sIx items.size items.size hi≤items.size:=sIx_le _ _ (Nat.le_refl _) hi
 obtain ⟨os,hos,hcs,hds⟩:=id hs
 have hTs:s.TypeIs (.ref sl) "slice":=⟨os,hos,hcs⟩
 unfold getItem
 try with_reducible refine wpAny_holding ?_
 first | refine wpAny_bind (wpAny_pure ?_) | skip
 refine wpAny_bind (wpAny_sequenceKey ht.typeIs (by decide) ?_)
 refine wpAny_bind (wpAny_callSpecial?_slot (name:=Str.ofString "__getitem__") ht.typeIs PyProof.Rows.slot_tuple_getitem
  (wpAny_call_entry PyProof.Rows.slot_tuple_getitem ht.typeIs entry_tuple_getitem ?_ (args_tuple_getitem _ _)))
 show wpAny _ _ (Builtin.Tuple.tupleItemsOf (.ref t) >>= _) _ _ s
 refine wpAny_bind (tupleItemsOf_ ht ?_)
 refine wpAny_bind (wpAny_typeOf hTs ?_)
 rw [if_pos (by decide)]
 refine wpAny_bind (sliceApplied_gen hs pl pu ?_)
 have hno:¬((((sIx items.size 0 lo:Nat):Int)==0&&(1:Int)==1&&(sIx items.size items.size hi-sIx items.size 0 lo)==items.size)=true):=by
  intro q
  rw [Bool.and_eq_true,Bool.and_eq_true] at q
  have q1:((sIx items.size 0 lo:Nat):Int)=0:=eq_of_beq q.1.1
  have q2:sIx items.size items.size hi-sIx items.size 0 lo=items.size:=eq_of_beq q.2
  exact hw ⟨by omega,by omega⟩
 show wpAny _ _ (if (((sIx items.size 0 lo:Nat):Int)==0&&(1:Int)==1&&(sIx items.size items.size hi-sIx items.size 0 lo)==items.size)=true then _ else _) _ _ s
 rw [if_neg hno,pick_gen]
 first
  | exact wpAny_bind (m:=Builtin.Tuple.tupleExact _) (wpAny_newObj_type (wpAny_pure ⟨_,rfl,wpAny_pure h⟩) htake)
  | exact wpAny_bind (m:=Builtin.Tuple.tupleExact _) (wpAny_newObj_type (wpAny_bind (wpAny_pure (wpAny_pure ⟨_,rfl,wpAny_pure h⟩))) htake)
  | exact wpAny_bind (wpAny_bind (m:=Builtin.Tuple.tupleExact _) (wpAny_newObj_type (wpAny_pure (wpAny_pure ⟨_,rfl,wpAny_pure h⟩)) htake))
  | exact wpAny_bind (wpAny_bind (m:=Builtin.Tuple.tupleExact _) (wpAny_newObj_type (wpAny_pure ⟨_,rfl,wpAny_pure h⟩) htake))
end
end HT
namespace L2
open PySem PySem.Spec PyProof.Rows
abbrev TO:=St→Hp→(Option Int→Hp→Prop)→Prop
def PO (X:Cx) (e:Option Expr) (t:TO):Prop:=
 ∀(pins:List (Addr×Obj)) (s:Shared) (σ:St) (H:Hp) (Q:Option Int→Hp→Prop),Inv X pins σ H s→t σ H Q→
  wpAny (model X.prog X.w) X.A (evalPart e X.env) (fun u s'=>∃o H',Inv X pins σ H' s'∧IsPart u o∧Q o H') X.xe s
def tNoPart:TO:=fun _ H Q=>Q none H
def tPart (t:TE):TO:=fun σ H Q=>t σ H fun x H1=>∃i,x = .int i∧Q (some i) H1
section
variable {X:Cx} {e:Expr} {te:TE} {lo hi:Option Expr} {tl th:TO} {pos p2:Pos}
theorem po_none:PO X none tNoPart:=by
 intro pins s σ H Q I h
 rw [evalPart_none]
 exact wpAny_pure ⟨none,H,I,.none,h⟩
theorem po_some (h:PE X e te):PO X (some e) (tPart te):=by
 intro pins s σ H Q I hw
 rw [evalPart_some]
 refine thn (h pins s σ H _ I hw) fun u s1 ⟨x,H1,I1,r1,q1⟩=>?_
 obtain ⟨i,rfl,q⟩:=q1
 obtain ⟨t,rfl⟩:=r1
 exact ⟨some i,H1,I1,.int i t,q⟩
def SlR (X:Cx) (r:V→Option Int→Option Int→Hp→VK→Prop):Prop:=
 ∀(pins:List (Addr×Obj)) (s:Shared) (σ:St) (H:Hp) (x:V) (v vl vu:Value) (lo hi:Option Int) (sl:Addr) (Q:VK),Inv X pins σ H s→RelV x v→s.heap.IsSliceOf sl vl vu .none→IsPart vl lo→IsPart vu hi→r x lo hi H Q→
  ∃T id,typeLookup (.type T) "__getitem__" = pure (some (.builtin id))∧s.TypeIs v T∧wpAny (model X.prog X.w) X.A (getItem v (.ref sl)) (EP X pins σ Q) X.xe s
def tSl (r:V→Option Int→Option Int→Hp→VK→Prop) (te:TE) (tl th:TO):TE:=fun σ H Q=>te σ H fun x H1=>tl σ H1 fun l H2=>th σ H2 fun u H3=>r x l u H3 Q
theorem pe_slice {r:V→Option Int→Option Int→Hp→VK→Prop} (hr:SlR X r) (he:PE X e te) (hl:PO X lo tl) (hu:PO X hi th):PE X (.Subscript e (.Slice lo hi none p2) pos) (tSl r te tl th):=by
 intro pins s σ H Q I h
 refine Subscript_ (thn (he pins s σ H _ I h) fun v s1 ⟨x,H1,I1,r1,q1⟩=>?_)
 refine wpAny_Slice (thn (hl pins s1 σ H1 _ I1 q1) fun vl s2 ⟨l,H2,I2,pl,q2⟩=>thn (hu pins s2 σ H2 _ I2 q2) fun vu s3 ⟨u,H3,I3,pu,q3⟩=>?_)
 rw [evalPart_none]
 refine wpAny_pure ?_
 have I4:Inv X pins σ H3 { s3 with heap:=s3.heap.push { cls:=.type "slice",data:=.fields #[vl,vu,.none] } }:=I3.kept (t':=s3.toks) fun b ob q=>Heap.get?_push_of_some _ q
 obtain ⟨T,id,hT,ht,hg⟩:=hr pins { s3 with heap:=s3.heap.push { cls:=.type "slice",data:=.fields #[vl,vu,.none] } } σ H3 x v vl vu l u s3.heap.objs.size Q I4 r1 (Heap.IsSliceOf.new ..) pl pu q3
 show wpAny (model X.prog X.w) X.A (subscriptTail e (.Slice lo hi none p2) v (.ref s3.heap.objs.size)) (EP X pins σ Q) X.xe { s3 with heap:=s3.heap.push { cls:=.type "slice",data:=.fields #[vl,vu,.none] } }
 exact tail_any (ops:=[.ref s3.heap.objs.size,v]) ht hT hg (by with_unfolding_all rfl)
def cutV (xs:List V) (lo hi:Option Int):List V:=(xs.drop (HT.sIx xs.length 0 lo)).take (HT.sIx xs.length xs.length hi-HT.sIx xs.length 0 lo)
theorem cutV_length (xs:List V) (lo hi:Option Int):(cutV xs lo hi).length≤xs.length:=by
 unfold cutV
 rw [List.length_take,List.length_drop]
 omega
def rSlT (K:PySem.W.Frag):V→Option Int→Option Int→Hp→VK→Prop:=fun x lo hi H Q=>∃a xs,x = .ref a∧SqT K H a xs∧
 ¬(HT.sIx xs.length 0 lo=0∧HT.sIx xs.length xs.length hi=xs.length)∧∀p,H p=none→Q (.ref p) (upd H p (.tup (cutV xs lo hi)))
theorem sl_tup:SlR X (rSlT X.K):=by
 intro pins s σ H x v vl vu lo hi sl Q I rx hs pl pu h
 obtain ⟨a,xs,rfl,hx,hw,q⟩:=h
 cases rx
 obtain ⟨its,r,ht,hz⟩:=I.tuple hx
 have hlen:its.toArray.size=xs.length:=by rw [List.size_toArray];exact r.length.symm
 refine ⟨"tuple",_,PyProof.Rows.slot_tuple_getitem.lookup,ht.typeIs,?_⟩
 refine HT.getItem_tuple_cut ht hs pl pu (by rw [hlen];exact hw) ?_ (by rw [hlen];exact hz)
 rw [hlen]
 refine ⟨.ref s.heap.objs.size,_,I.laid (t':=s.toks) (o:=.tup (cutV xs lo hi)) (fun b ob q=>Heap.get?_push_of_some _ q) (Nat.le_refl _) ?_,rfl,q _ (I.hok.fresh (Nat.le_refl _))⟩
 exact ⟨Nat.le_trans (cutV_length xs lo hi) hz,_,(r.drop (HT.sIx xs.length 0 lo)).take (HT.sIx xs.length xs.length hi-HT.sIx xs.length 0 lo),IsTup.new _ _⟩
def rCatT (K:PySem.W.Frag):R2:=fun x y H Q=>∃a b xs ys,x = .ref a∧y = .ref b∧SqT K H a xs∧SqT K H b ys∧xs≠[]∧xs.length+ys.length≤sizeLine∧
 (ys=[]→Q (.ref a) H)∧(ys≠[]→∀p,H p=none→Q (.ref p) (upd H p (.tup (xs++ys))))
theorem Vals.nil_iff {xs:List V} {us:List Value} (r:Vals xs us):us=[]↔xs=[]:=by
 cases r with
 | nil=>simp
 | cons _ _=>simp
theorem op_catT:OpR X (binaryOp .Add) (rCatT X.K):=by
 intro pins s σ H x y v u Q I rx ry h
 obtain ⟨a,b,xs,ys,rfl,rfl,ha,hb,hx,hz,q1,q2⟩:=h
 cases rx
 cases ry
 obtain ⟨its,r1,p1,_⟩:=I.tuple ha
 obtain ⟨its2,r2,p2,_⟩:=I.tuple hb
 refine HT.cat_tup p1 p2 (fun z=>hx (r1.nil_iff.mp z)) (fun z=>⟨.ref a,H,I,rfl,q1 (r2.nil_iff.mp z)⟩) (fun z=>?_) (by rw [←r1.length,←r2.length];exact hz)
 refine ⟨.ref s.heap.objs.size,_,I.laid (t':=s.toks) (o:=.tup (xs++ys)) (fun b ob q=>Heap.get?_push_of_some _ q) (Nat.le_refl _) ?_,rfl,q2 (fun w=>z (r2.nil_iff.mpr w)) _ (I.hok.fresh (Nat.le_refl _))⟩
 exact ⟨by rw [List.length_append];exact hz,_,r1.append r2,IsTup.new _ _⟩
end
def ixN (n:Nat) (i:Int):Option Nat:=if 0≤i then (if i<n then some i.toNat else none) else if -(n:Int)≤i then some (i+n).toNat else none
def atI {α:Type} (xs:List α) (i:Int):Option α:=(ixN xs.length i).bind fun j=>xs[j]?
theorem ixN_seq {n:Nat} {i:Int} {j:Nat} (h:ixN n i=some j):seqIndex? i n=some j∧j<n∧-(n:Int)≤i∧i<n:=by
 unfold ixN at h
 by_cases h0:0≤i
 ·rw [if_pos h0] at h
  by_cases h1:i<n
  ·rw [if_pos h1] at h
   have e:i.toNat=j:=Option.some.inj h
   exact ⟨by rw [seqIndex_of h0 h1,e],by omega,by omega,h1⟩
  ·rw [if_neg h1] at h;cases h
 ·rw [if_neg h0] at h
  by_cases h1:-(n:Int)≤i
  ·rw [if_pos h1] at h
   have e:(i+n).toNat=j:=Option.some.inj h
   exact ⟨by rw [seqIndex_neg (by omega) h1,e],by omega,h1,by omega⟩
  ·rw [if_neg h1] at h;cases h
theorem atI_get {α:Type} {xs:List α} {i:Int} {v:α} (h:atI xs i=some v):∃j,seqIndex? i xs.length=some j∧xs[j]? = some v∧j<xs.length∧-(xs.length:Int)≤i∧i<xs.length:=by
 unfold atI at h
 cases e:ixN xs.length i with
 | none=>rw [e] at h;cases h
 | some j=>
  rw [e] at h
  obtain ⟨h1,h2,h3,h4⟩:=ixN_seq e
  exact ⟨j,h1,h,h2,h3,h4⟩
theorem atI_nat {α:Type} {xs:List α} {j:Nat} {v:α} (h:xs[j]? = some v):atI xs (j:Int)=some v:=by
 have hj:j<xs.length:=(List.getElem?_eq_some_iff.mp h).1
 have e:ixN xs.length (j:Int)=some j:=by
  unfold ixN
  rw [if_pos (by omega),if_pos (by omega)];simp
 unfold atI;rw [e];exact h
def PlainIx (b:Expr):Prop:=∀o i,subscripted b false o i=operate [o,i] (getItem o i)
def IxR (X:Cx) (r:R2):Prop:=
 ∀(value slice:Expr) (pins:List (Addr×Obj)) (s:Shared) (σ:St) (H:Hp) (x y:V) (v u:Value) (Q:VK),Inv X pins σ H s→RelV x v→RelV y u→r x y H Q→
  subscripted slice false v u=operate [v,u] (getItem v u)→wpAny (model X.prog X.w) X.A (subscriptTail value slice v u) (EP X pins σ Q) X.xe s
def MtR (X:Cx) (id:String) (r:V→List V→Hp→VK→Prop):Prop:=
 ∀(pins:List (Addr×Obj)) (s:Shared) (σ:St) (H:Hp) (x:V) (xs:List V) (v:Value) (us:List Value) (Q:VK),Inv X pins σ H s→RelV x v→Vals xs us→r x xs H Q→
  wpAny (model X.prog X.w) X.A (call (.builtin id) (v::us)) (EP X pins σ Q) X.xe s
section
variable {X:Cx} {a b:Expr} {ta tb:TE} {pos:Pos}
theorem IxR.or {r r':R2} (h:IxR X r) (h':IxR X r'):IxR X (fun x y H Q=>r x y H Q∨r' x y H Q):=by
 intro value slice pins s σ H x y v u Q I rx ry q hs
 rcases q with q | q
 ·exact h value slice pins s σ H x y v u Q I rx ry q hs
 ·exact h' value slice pins s σ H x y v u Q I rx ry q hs
theorem pe_ix {r:R2} (hr:IxR X r) (ha:PE X a ta) (hb:PE X b tb) (hs:PlainIx b):PE X (.Subscript a b pos) (tOp r ta tb):=by
 intro pins s σ H Q I h
 exact Subscript_ (binT ha hb I h fun v u s2 x y H2 I2 rx ry q=>hr a b pins s2 σ H2 x y v u Q I2 rx ry q (hs _ _))
def rIxL (K:PySem.W.Frag):R2:=fun x y H Q=>∃p xs i v,x = .ref p∧y = .int i∧SqL K H p xs∧atI xs i=some v∧Q v H
def rIxT (K:PySem.W.Frag):R2:=fun x y H Q=>∃p xs i v,x = .ref p∧y = .int i∧SqT K H p xs∧atI xs i=some v∧Q v H
def rIxS:R2:=fun x y H Q=>∃z i c,x = .str z∧y = .int i∧z.length≤sizeLine∧atI z.cps.toList i=some c∧Q (.str ⟨#[c]⟩) H
theorem ix_list:IxR X (rIxL X.K):=by
 intro value slice pins s σ H x y v u Q I rx ry h hs
 obtain ⟨p,xs,i,z,rfl,rfl,hq,he,q⟩:=h
 cases rx
 obtain ⟨t,rfl⟩:=ry
 obtain ⟨its,r,pl,hz⟩:=I.list hq
 obtain ⟨j,h1,h2,h3,h4,h5⟩:=atI_get he
 obtain ⟨w,ew,rw'⟩:=r.get h2
 have hl:=r.length
 have hn:=line63
 have fin:EP X pins σ Q w s:=⟨z,H,I,rw',q⟩
 by_cases h0:0≤i
 ·have hj:i.toNat=j:=by
   rw [seqIndex_of h0 h5] at h1
   exact Option.some.inj h1
  exact item_listR pl.isList h0 (by omega) (by rw [hj];simpa using ew) fin hs
 ·have hj:(i+(its.toArray.size:Int)).toNat=j:=by
   rw [seqIndex_neg (by omega) h4] at h1
   rw [List.size_toArray,←hl]
   exact Option.some.inj h1
  exact subscriptTail_builtinR (x:=w) pl.isList.typeIs slot_list_getitem.lookup
   (wpAny_getItem_list_neg (Q:=fun r s'=>r=w∧EP X pins σ Q r s') pl.isList (by omega) (by rw [List.size_toArray]<;>omega) (by omega) (by rw [hj];simpa using ew) ⟨rfl,fin⟩) hs
theorem ix_tup:IxR X (rIxT X.K):=by
 intro value slice pins s σ H x y v u Q I rx ry h hs
 obtain ⟨p,xs,i,z,rfl,rfl,hq,he,q⟩:=h
 cases rx
 obtain ⟨t,rfl⟩:=ry
 obtain ⟨its,r,pl,hz⟩:=I.tuple hq
 obtain ⟨j,h1,h2,h3,h4,h5⟩:=atI_get he
 obtain ⟨w,ew,rw'⟩:=r.get h2
 have hl:=r.length
 have hn:=line63
 have fin:EP X pins σ Q w s:=⟨z,H,I,rw',q⟩
 exact subscriptTail_builtinR (x:=w) pl.typeIs slot_tuple_getitem.lookup
  (getItem_tuple (j:=j) (Q:=fun r s'=>r=w∧EP X pins σ Q r s') pl (by omega) (by omega) (by rw [List.size_toArray,←hl];exact h1) (by simpa using ew) ⟨rfl,fin⟩) hs
theorem ix_str:IxR X rIxS:=by
 intro value slice pins s σ H x y v u Q I rx ry h hs
 obtain ⟨z,i,c,rfl,rfl,hz,he,q⟩:=h
 obtain ⟨t,rfl⟩:=rx
 obtain ⟨t',rfl⟩:=ry
 obtain ⟨j,h1,h2,h3,h4,h5⟩:=atI_get he
 have hl:z.cps.toList.length=z.length:=by simp [Str.length]
 rw [hl] at h1 h4 h5
 have hn:=line63
 exact tail_any (typeIs_str s z t) slot_str_getitem.lookup (getItem_str (c:=c) (by
  have e1:decide (i < -(2^63:Int))=false:=decide_eq_false (by omega)
  have e2:decide (i≥2^63)=false:=decide_eq_false (by omega)
  rw [e1,e2,Bool.or_false]) (by rw [h1];simpa using h2) ⟨.str ⟨#[c]⟩,H,I.tok _,⟨_,rfl⟩,q⟩) hs
def rIx (K:PySem.W.Frag):R2:=fun x y H Q=>rIxL K x y H Q∨rIxT K x y H Q∨rIxS x y H Q
theorem ix_seq:IxR X (rIx X.K):=ix_list.or (ix_tup.or ix_str)
theorem mapSeq_set (its:List Value) (n j:Nat) (u:Value):Obj.mapSeq (·.setIfInBounds j u) { cls:=.type "list",data:=.seq its.toArray n } = { cls:=.type "list",data:=.seq (its.set j u).toArray n }:=by
 simp [Obj.mapSeq]
theorem Inv.lst {pins:List (Addr×Obj)} {σ:St} {H:Hp} {s:Shared} {p:Addr} {xs:List V} (I:Inv X pins σ H s) (h:H p=some (.lst xs)) :
  ∃(its:List Value) (n:Nat),Vals xs its∧s.heap.get? p=some { cls:=.type "list",data:=.seq its.toArray n }∧xs.length≤sizeLine:=by
 obtain ⟨z,its,n,r,e⟩:=I.hok p _ h
 exact ⟨its,n,r,e,z⟩
theorem Inv.lstUpd {pins:List (Addr×Obj)} {σ:St} {H:Hp} {s:Shared} {p:Addr} {xs ys:List V} {its its':List Value} {n n':Nat} {f:Obj→Obj} (I:Inv X pins σ H s) (h:H p=some (.lst xs))
  (ho:s.heap.get? p=some { cls:=.type "list",data:=.seq its.toArray n }) (hf:f { cls:=.type "list",data:=.seq its.toArray n } = { cls:=.type "list",data:=.seq its'.toArray n' }) (r:Vals ys its') (hz:ys.length≤sizeLine) (t:Nat) :
  Inv X pins σ (upd H p (.lst ys)) { s with heap:=s.heap.update p f,toks:=t }:=by
 have e:(s.heap.update p f).get? p=some { cls:=.type "list",data:=.seq its'.toArray n' }:=by
  rw [Heap.get?_update_self f ho (by rw [hf]<;>rfl),hf]
 refine I.write (x:=p) (e:=p) (by rw [h];trivial) (.inl rfl) (fun b u hb q=>(Heap.get?_update_other _ _ (Ne.symm hb)).trans q) ⟨_,e⟩ ?_
 exact ⟨hz,its',n',r,e⟩
def rSetL:V→V→V→Hp→(Hp→Prop)→Prop:=fun o i v H Q=>∃p xs k j,o = .ref p∧i = .int k∧H p=some (.lst xs)∧ixN xs.length k=some j∧Q (upd H p (.lst (xs.set j v)))
theorem set_list:PSet X rSetL:=by
 intro pins s σ H o i v ov iv u Q I ro ri rv h
 obtain ⟨p,xs,k,j,rfl,rfl,hp,hj,q⟩:=h
 cases ro
 obtain ⟨t,rfl⟩:=ri
 obtain ⟨its,n,r,ho,hz⟩:=I.lst hp
 obtain ⟨h1,h2,h3,h4⟩:=ixN_seq hj
 have hl:=r.length
 have hn:=line63
 have I':Inv X pins σ (upd H p (.lst (xs.set j v))) { s with heap:=s.heap.update p (Obj.mapSeq (·.setIfInBounds j u)) }:=
  I.lstUpd hp ho (mapSeq_set its n j u) (r.set rv j) (by rw [List.length_set];exact hz) s.toks
 by_cases h0:0≤k
 ·have hk:k.toNat=j:=by
   rw [seqIndex_of h0 h4] at h1
   exact Option.some.inj h1
  exact PySem.W.ki_setAt ho h0 (by omega) (by rw [List.size_toArray,←hl];exact h4) (by rw [hk];exact ⟨_,I',q⟩)
 ·have hk:(k+(its.toArray.size:Int)).toNat=j:=by
   rw [seqIndex_neg (by omega) h3] at h1
   rw [List.size_toArray,←hl]
   exact Option.some.inj h1
  exact PySem.W.ki_setBack ho (by omega) (by rw [List.size_toArray,←hl];exact h3) (by omega) (by rw [hk];exact ⟨_,I',q⟩)
theorem slice_bounds (lo hi:Option Int) (n:Nat):(sliceBounds lo hi none n).1=((HT.sIx n 0 lo:Nat):Int)∧(sliceBounds lo hi none n).2.1=((HT.sIx n n hi:Nat):Int)∧(sliceBounds lo hi none n).2.2=1:=by
 refine ⟨?_,?_,rfl⟩
 ·cases lo with
  | none=>simp [sliceBounds,HT.sIx]
  | some i=>
   simp only [sliceBounds,HT.sIx,Option.getD_none,show (1:Int)>0 by decide,if_true]
   by_cases h:i<0
   ·simp only [h,if_true]<;>omega
   ·simp only [h,if_false]<;>omega
 ·cases hi with
  | none=>simp [sliceBounds,HT.sIx]
  | some i=>
   simp only [sliceBounds,HT.sIx,Option.getD_none,show (1:Int)>0 by decide,if_true]
   by_cases h:i<0
   ·simp only [h,if_true]<;>omega
   ·simp only [h,if_false]<;>omega
theorem slicePick_cut (its:List Value) (lo hi:Option Int):slicePick its.toArray lo hi none=((its.drop (HT.sIx its.length 0 lo)).take (HT.sIx its.length its.length hi-HT.sIx its.length 0 lo)).toArray:=by
 obtain ⟨h1,h2,h3⟩:=slice_bounds lo hi its.toArray.size
 unfold slicePick
 rw [h1,h2,h3]
 simp only [sliceRange_one,pick_run,List.size_toArray]<;>rfl
def rSlL (K:PySem.W.Frag):V→Option Int→Option Int→Hp→VK→Prop:=fun x lo hi H Q=>∃a xs,x = .ref a∧SqL K H a xs∧∀p,H p=none→Q (.ref p) (upd H p (.lst (cutV xs lo hi)))
theorem sl_list:SlR X (rSlL X.K):=by
 intro pins s σ H x v vl vu lo hi sl Q I rx hs pl pu h
 obtain ⟨a,xs,rfl,hx,q⟩:=h
 cases rx
 obtain ⟨its,r,ht,hz⟩:=I.list hx
 have hlen:=r.length
 refine ⟨"list",_,slot_list_getitem.lookup,ht.isList.typeIs,?_⟩
 refine wpAny_getItem_list_slice ht.isList hs pl pu .none (by simp) ?_ (by rw [List.size_toArray]<;>omega)
 rw [slicePick_cut,←hlen]
 refine ⟨.ref s.heap.objs.size,_,I.laid (t':=s.toks) (o:=.lst (cutV xs lo hi)) (fun b ob q=>Heap.get?_push_of_some _ q) (Nat.le_refl _) ?_,rfl,q _ (I.hok.fresh (Nat.le_refl _))⟩
 exact ⟨Nat.le_trans (cutV_length xs lo hi) hz,_,0,(r.drop (HT.sIx xs.length 0 lo)).take (HT.sIx xs.length xs.length hi-HT.sIx xs.length 0 lo),Heap.get?_push_size _ rfl⟩
theorem call_len_seq:CallR X (.builtin "len") (fun xs H Q=>∃p ys,xs=[.ref p]∧(SqL X.K H p ys∨SqT X.K H p ys)∧Q (.int ys.length) H):=by
 intro pins s σ H xs us Q I r h
 obtain ⟨p,ys,rfl,hq,q⟩:=h
 obtain ⟨u,rfl,rx⟩:=vals1 r
 cases rx
 have hn:=line63
 rcases hq with hq | hq
 ·obtain ⟨its,r',pl,hz⟩:=I.list hq
  have hlen:=r'.length
  exact Calls.call_len_list pl.isList (by simp only [List.size_toArray]<;>omega) ⟨.int ys.length,H,I.tok _,⟨s.toks+1,by rw [List.size_toArray,hlen]⟩,q⟩
 ·obtain ⟨its,r',pl,hz⟩:=I.tuple hq
  have hlen:=r'.length
  exact len_tuple pl (by simp only [List.size_toArray]<;>omega) ⟨.int ys.length,H,I.tok _,⟨s.toks+1,by rw [List.size_toArray,hlen]⟩,q⟩
theorem call_list_of:CallR X (.type "list") (fun xs H Q=>∃p ys,xs=[.ref p]∧(SqL X.K H p ys∨SqT X.K H p ys)∧∀l,H l=none→Q (.ref l) (upd H l (.lst ys))):=by
 intro pins s σ H xs us Q I r h
 obtain ⟨p,ys,rfl,hq,q⟩:=h
 obtain ⟨u,rfl,rx⟩:=vals1 r
 cases rx
 have fin:∀(its:List Value),Vals ys its→ys.length≤sizeLine→∀(h':Heap) (c':Nat),(∀b o',s.heap.get? b=some o'→h'.get? b=some o')→
   h'.get? s.heap.objs.size=some { cls:=.type "list",dict:=none,data:=.seq its.toArray c',slots:=#[] }→EP X pins σ Q (.ref s.heap.objs.size) { s with heap:=h' }:=fun its r' hz h' c' kp e=>
  ⟨.ref s.heap.objs.size,_,I.laid (t':=s.toks) kp (Nat.le_refl _) (show ObjOk X.prog X.w _ h' _ (.lst ys) from ⟨hz,its,c',r',e⟩),rfl,q _ (I.hok.fresh (Nat.le_refl _))⟩
 rcases hq with hq | hq
 ·obtain ⟨its,r',pl,hz⟩:=I.list hq
  have hlen:=r'.length
  obtain ⟨o,ho,hc,n,hd⟩:=pl.isList
  exact call_list_seq p (.inl rfl) ho hc hd (fun h' c' kp e=>fin its r' hz h' c' kp e) (by simp only [List.size_toArray]<;>omega)
 ·obtain ⟨its,r',pl,hz⟩:=I.tuple hq
  have hlen:=r'.length
  obtain ⟨o,ho,hc,n,hd⟩:=pl
  exact call_list_seq p (.inr rfl) ho hc hd (fun h' c' kp e=>fin its r' hz h' c' kp e) (by simp only [List.size_toArray]<;>omega)
theorem call_tuple_of:CallR X (.type "tuple") (fun xs H Q=>∃p ys,xs=[.ref p]∧((SqL X.K H p ys∧∀l,H l=none→Q (.ref l) (upd H l (.tup ys)))∨(SqT X.K H p ys∧Q (.ref p) H))):=by
 intro pins s σ H xs us Q I r h
 obtain ⟨p,ys,rfl,h⟩:=h
 obtain ⟨u,rfl,rx⟩:=vals1 r
 cases rx
 rcases h with ⟨hq,q⟩ | ⟨hq,q⟩
 ·obtain ⟨its,r',pl,hz⟩:=I.list hq
  have hlen:=r'.length
  refine call_tuple_list pl.isList (fun h' kp=>?_) (by simp only [List.size_toArray]<;>omega)
  have I1:Inv X pins σ H { s with heap:=h' }:=I.kept (t':=s.toks) kp
  have I2:Inv X pins σ (upd H h'.objs.size (.tup ys)) { s with heap:=h'.push { cls:=.type "tuple",data:=.seq its.toArray } }:=
   I1.laid (t':=s.toks) (fun b o e=>Heap.get?_push_of_some _ e) (Nat.le_refl _) (show ObjOk X.prog X.w _ _ _ (.tup ys) from ⟨hz,its,r',IsTup.new _ _⟩)
  exact ⟨.ref h'.objs.size,_,I2,rfl,q _ (I1.hok.fresh (Nat.le_refl _))⟩
 ·obtain ⟨its,r',pl,hz⟩:=I.tuple hq
  exact call_tuple_same pl ⟨.ref p,H,I,rfl,q⟩
def tyV (K:PySem.W.Frag) (T:String) (x:V) (H:Hp):Prop:=match x with
 | .str _=>T = "str"
 | .int _=>T = "int"
 | .ref p=>(T = "list"∧∃xs,SqL K H p xs)∨(T = "tuple"∧∃o,K.lookup p=some o∧o.cls = .type "tuple"∧o.dict=none)∨
   (T = "dict"∧((∃kvs,H p=some (.dK kvs))∨∃kvs,H p=some (.dT kvs)))∨(T = "set"∧∃S n,H p=some (.set S n))
 | _=>False
theorem tyV_is {pins:List (Addr×Obj)} {σ:St} {H:Hp} {s:Shared} {T:String} {x:V} {v:Value} (I:Inv X pins σ H s) (r:RelV x v) (ty:tyV X.K T x H) :
  s.TypeIs v T∧∀a,v = .ref a→∃ob,s.heap.get? a=some ob∧ob.dict=none:=by
 cases x with
 | str z=>
  obtain ⟨t,rfl⟩:=r
  cases (show T = "str" from ty)
  exact ⟨typeIs_str s z t,fun _ e=>nomatch e⟩
 | int i=>
  obtain ⟨t,rfl⟩:=r
  cases (show T = "int" from ty)
  exact ⟨typeIs_int s i t,fun _ e=>nomatch e⟩
 | ref p=>
  cases r
  rcases ty with ⟨rfl,xs,hq⟩ | ⟨rfl,o,hk,hc,hd⟩ | ⟨rfl,hk⟩ | ⟨rfl,S,n,hk⟩
  ·obtain ⟨its,_,pl,_⟩:=I.list hq
   refine ⟨pl.isList.typeIs,fun a e=>?_⟩
   cases e
   obtain ⟨o,n,e,c,hd,_⟩:=pl
   exact ⟨o,e,hd⟩
  ·refine ⟨⟨o,I.kIn p o hk,hc⟩,fun a e=>?_⟩
   cases e
   exact ⟨o,I.kIn _ o hk,hd⟩
  ·have z:∃o,s.heap.get? p=some o∧o.ExactDict:=by
    rcases hk with ⟨kvs,hk⟩ | ⟨kvs,hk⟩
    ·obtain ⟨_,_,_,_,o,_,_,e,ex,_⟩:=I.hok p _ hk
     exact ⟨o,e,ex⟩
    ·obtain ⟨_,_,_,_,o,_,_,e,ex,_⟩:=I.hok p _ hk
     exact ⟨o,e,ex⟩
   obtain ⟨o,e,ex⟩:=z
   refine ⟨⟨o,e,ex.1⟩,fun a e2=>?_⟩
   cases e2
   exact ⟨o,e,ex.2.1⟩
  ·obtain ⟨o,_,_,_,e,ex,_⟩:=I.hok p _ hk
   refine ⟨⟨o,e,ex.1⟩,fun a e2=>?_⟩
   cases e2
   exact ⟨o,e,ex.2.1⟩
 | _=>exact False.elim ty
def tBM0 (K:PySem.W.Frag) (T:String) (r:V→List V→Hp→VK→Prop) (to:TE):TE:=fun σ H Q=>to σ H fun x H1=>tyV K T x H1∧r x [] H1 Q
def tBM (K:PySem.W.Frag) (T:String) (r:V→List V→Hp→VK→Prop) (to:TE) (t:TA):TE:=fun σ H Q=>to σ H fun x H1=>tyV K T x H1∧t σ H1 fun xs H2=>r x xs H2 Q
variable {o e:Expr} {es:List Expr} {to:TE} {t:TA} {name:Str} {apos cpos:Pos} {T id:String} {r:V→List V→Hp→VK→Prop}
theorem pe_bm0 (pa:PlainAttrs T) (slot:Slot T name id) (hty:typeOf (.builtin id)=pure (.type "method_descriptor")) (hm:MtR X id r) (ho:PE X o to)
  (hbase:attributeBase o name X.env (eval o X.env)=eval o X.env:=by rfl) (hline:(apos.endLine==cpos.line)=true:=by rfl):PE X (.Call (.Attribute o name apos) [] [] cpos) (tBM0 X.K T r to):=by
 intro pins s σ H Q I h
 refine wpAny_Call_method0_late hbase hline (thn (ho pins s σ H _ I h) fun v s1 ⟨x,H1,I1,r1,ty,q1⟩=>?_)
 obtain ⟨h1,h2⟩:=tyV_is I1 r1 ty
 exact ⟨T,id,pa,slot,hty,h1,h2,Calls.callWith_builtin rfl (PySem.evalArgs_none (hm pins s1 σ H1 x [] v [] Q I1 r1 .nil q1))⟩
theorem pe_bm (pa:PlainAttrs T) (slot:Slot T name id) (hty:typeOf (.builtin id)=pure (.type "method_descriptor")) (hm:MtR X id r) (ho:PE X o to) (ha:PA X (e::es) t)
  (hbase:attributeBase o name X.env (eval o X.env)=eval o X.env:=by rfl)
  (hfew:((backTo cpos (starEach (e::es) X.env)).all (fun x=>!x.1)&&(backToKw cpos (keywordEach [] X.env)).all (fun x=>x.1.isSome)
  &&decide ((e::es).length+([]:List Keyword).length+(if ([]:List Keyword).isEmpty then 0 else 1)<30))=true:=by rfl)
  (hline:(apos.endLine==cpos.line)=true:=by rfl) (hs:starEach (e::es) X.env=(false,eval e X.env)::starEach es X.env:=by rfl) (hplain:(backTo cpos (starEach es X.env)).any (·.1)=false:=by rfl) :
  PE X (.Call (.Attribute o name apos) (e::es) [] cpos) (tBM X.K T r to t):=by
 intro pins s σ H Q I h
 refine wpAny_Call_method_late hbase hfew hline rfl (thn (ho pins s σ H _ I h) fun v s1 ⟨x,H1,I1,r1,ty,q1⟩=>?_)
 obtain ⟨h1,h2⟩:=tyV_is I1 r1 ty
 refine ⟨T,id,pa,slot,hty,h1,h2,?_⟩
 have hA:=ha cpos pins s1 σ H1 _ I1 q1
 rw [hs] at hA ⊢
 refine Calls.callWith_builtin (by show (false||(backTo cpos (starEach es X.env)).any (·.1))=false;rw [hplain]<;>rfl) (Calls.evalArgs_plain ?_)
 exact thn hA fun us s2 ⟨vs,H2,I2,r2,q2⟩=>hm pins s2 σ H2 x vs v us Q I2 r1 r2 q2
/- xs.append(e),list.index on a module's tuple .. are MtR facts of 06m -/
end
def MtM (X:Cx) (id:String) (r:V→List V→Hp→VK→Prop):Prop:=
 ∀(pins:List (Addr×Obj)) (s:Shared) (σ:St) (H:Hp) (x:V) (xs:List V) (v:Value) (us:List Value) (Q:VK),Inv X pins σ H s→RelV x v→Vals xs us→r x xs H Q→
  wpAny (model X.prog X.w) X.A (call (.builtin id) (v::us)) (EP X pins σ Q) X.xe s
theorem Vals.one:∀{x:V} {us:List Value},Vals [x] us→∃u,us=[u]∧RelV x u
 | _,_,.cons r .nil=>⟨_,rfl,r⟩
theorem Vals.two:∀{x y:V} {us:List Value},Vals [x,y] us→∃u v,us=[u,v]∧RelV x u∧RelV y v
 | _,_,_,.cons r (.cons q .nil)=>⟨_,_,rfl,r,q⟩
theorem Vals.eraseIdx:∀{xs:List V} {us:List Value} (i:Nat),Vals xs us→Vals (xs.eraseIdx i) (us.eraseIdx i)
 | _,_,_,.nil=>.nil
 | _,_,0,.cons _ t=>t
 | _,_,i+1,.cons r t=>.cons r (Vals.eraseIdx i t)
theorem Vals.reverse {xs:List V} {us:List Value} (h:Vals xs us):Vals xs.reverse us.reverse:=by
 induction h with
 | nil=>exact .nil
 | cons r t ih=>rw [List.reverse_cons,List.reverse_cons];exact Vals.append ih (.cons r .nil)
theorem Vals.rep {xs:List V} {us:List Value} (h:Vals xs us):∀k:Nat,Vals (List.replicate k xs).flatten (List.replicate k us).flatten
 | 0=>.nil
 | k+1=>by
  rw [List.replicate_succ,List.replicate_succ,List.flatten_cons,List.flatten_cons]
  exact Vals.append h (Vals.rep h k)
theorem len_erase {α:Type}:∀(l:List α) (i:Nat),(l.eraseIdx i).length≤l.length
 | [],_=>Nat.le_refl _
 | _::_,0=>Nat.le_succ _
 | _::r,i+1=>Nat.succ_le_succ (len_erase r i)
theorem foldl_rep (its:List Value):∀(k:Nat) (acc:List Value),
  List.foldl (fun x1 x2=>x1++x2) acc.toArray (List.replicate k its.toArray)=(acc++(List.replicate k its).flatten).toArray
 | 0,acc=>by simp
 | k+1,acc=>by
  have e:acc.toArray++its.toArray=(acc++its).toArray:=by simp
  have e2:(acc++its)++(List.replicate k its).flatten=acc++(List.replicate (k+1) its).flatten:=by
   rw [List.replicate_succ,List.flatten_cons,List.append_assoc]
  rw [←e2,←foldl_rep its k (acc++its),←e,List.replicate_succ,List.foldl_cons]
section
variable {X:Cx} {pins:List (Addr×Obj)} {σ:St} {H:Hp} {s:Shared} {l b:Addr} {xs ys zs:List V}
theorem Inv.lset {its its':List Value} {n:Nat} {f:Array Value→Array Value} {t':Nat} (I:Inv X pins σ H s) (hH:H l=some (.lst xs))
  (e:s.heap.get? l=some { cls:=.type "list",data:=.seq its.toArray n }) (hf:f its.toArray=its'.toArray) (hv:Vals ys its') (hz:ys.length≤sizeLine) :
  Inv X pins σ (upd H l (.lst ys)) { s with heap:=s.heap.update l (Obj.mapSeq f),toks:=t' }:=by
 have q:=PySem.IsL.update e f
 rw [hf] at q
 refine I.write (x:=l) (e:=l) (by rw [hH];exact trivial) (.inl rfl) (fun b' u hb hu=>(Heap.get?_update_other s.heap (Obj.mapSeq f) (Ne.symm hb)).trans hu) ⟨_,q⟩ ?_
 exact ⟨hz,its',_,hv,q⟩
theorem Inv.lnew {its:List Value} {t':Nat} (I:Inv X pins σ H s) (hv:Vals ys its) (hz:ys.length≤sizeLine) :
  Inv X pins σ (upd H s.heap.objs.size (.lst ys)) { s with heap:=s.heap.push { cls:=.type "list",data:=.seq its.toArray },toks:=t' }:=
 I.laid (fun _ _ q=>Heap.get?_push_of_some _ q) (Nat.le_refl _) ⟨hz,its,0,hv,Heap.get?_push_size _ rfl⟩
theorem Inv.fresh (I:Inv X pins σ H s):H s.heap.objs.size=none:=I.hok.fresh (Nat.le_refl _)
theorem Inv.lstM (I:Inv X pins σ H s) (hH:H l=some (.lst xs)):xs.length≤sizeLine∧∃(its:List Value) (n:Nat),Vals xs its∧xs.length=its.length∧s.heap.get? l=some { cls:=.type "list",data:=.seq its.toArray n }:=by
 obtain ⟨z,its,n,r,e⟩:=I.hok l _ hH
 exact ⟨z,its,n,r,r.length,e⟩
theorem notLongL {n:Nat} (h:n≤sizeLine):Builtin.List.listTooLong n=false:=by
 unfold Builtin.List.listTooLong
 exact decide_eq_false (by omega)
end
section
variable {X:Cx}
def rAppend:V→List V→Hp→VK→Prop:=fun x vs H Q=>∃l xs y,x = .ref l∧vs=[y]∧H l=some (.lst xs)∧xs.length<sizeLine∧Q .non (upd H l (.lst (xs++[y])))
theorem mt_append:MtM X "list.append" rAppend:=by
 intro pins s σ H x vs v us Q I rx rv h
 obtain ⟨l,xs,y,rfl,rfl,hH,hz,q⟩:=h
 cases rx
 obtain ⟨u,rfl,ru⟩:=rv.one
 obtain ⟨z,its,n,r,hl,e⟩:=I.lstM hH
 refine call_meets F.slot_list_append ⟨_,e,rfl⟩ F.entry_list_append (F.args_list_append_2 _ _) (PySem.list_append l its.toArray n u (by rw [List.size_toArray];omega)) ⟨e,?_⟩
 refine ⟨.non,_,I.lset (its':=its++[u]) hH e (by simp) (r.append (.cons ru .nil)) ?_,rfl,q⟩
 rw [List.length_append,List.length_singleton]
 omega
def rPopAt:V→List V→Hp→VK→Prop:=fun x vs H Q=>∃l xs i k y,x = .ref l∧vs=[.int i]∧H l=some (.lst xs)∧-(2^63)≤i∧i<2^63∧seqIndex? i xs.length=some k∧xs[k]? = some y∧Q y (upd H l (.lst (xs.eraseIdx k)))
theorem mt_popAt:MtM X "list.pop" rPopAt:=by
 intro pins s σ H x vs v us Q I rx rv h
 obtain ⟨l,xs,i,k,y,rfl,rfl,hH,h1,h2,hk,hy,q⟩:=h
 cases rx
 obtain ⟨u,rfl,ru⟩:=rv.one
 obtain ⟨t,rfl⟩:=ru
 obtain ⟨z,its,n,r,hl,e⟩:=I.lstM hH
 obtain ⟨w,hw,rw'⟩:=r.get hy
 refine call_meets F.slot_list_pop ⟨_,e,rfl⟩ F.entry_list_pop (F.args_list_pop_2 _ _)
  (MeetsSeq.list_pop_at l its.toArray n i t k w (fitsIndex_both h1 h2) (by rw [List.size_toArray,←hl];exact hk) (by rw [←Array.getElem?_toList];exact hw) (by rw [List.size_toArray];omega)) ⟨e,?_⟩
 refine ⟨y,_,I.lset (its':=its.eraseIdx k) hH e ?_ (r.eraseIdx k) ?_,rw',q⟩
 ·show its.toArray.eraseIdxIfInBounds k=(its.eraseIdx k).toArray
  rw [List.eraseIdxIfInBounds_toArray]
 ·have:=len_erase xs k
  omega
def rCat:R2:=fun x y H Q=>∃l b xs zs,x = .ref l∧y = .ref b∧H l=some (.lst xs)∧H b=some (.lst zs)∧xs.length+zs.length≤sizeLine∧∀p,H p=none→Q (.ref p) (upd H p (.lst (xs++zs)))
theorem op_cat:OpR X (binaryOp .Add) rCat:=by
 intro pins s σ H x y v u Q I rx ry h
 obtain ⟨l,b,xs,zs,rfl,rfl,hH,hB,hz,q⟩:=h
 cases rx
 cases ry
 obtain ⟨z,its,n,r,hl,e⟩:=I.lstM hH
 obtain ⟨z2,its2,n2,r2,hl2,e2⟩:=I.lstM hB
 refine PySem.P.add_list e e2 ?_ (by rw [List.size_toArray,List.size_toArray];omega)
 have ea:its.toArray++its2.toArray=(its++its2).toArray:=by simp
 rw [ea]
 exact ⟨.ref _,_,I.lnew (t':=s.toks) (r.append r2) (by rw [List.length_append];omega),rfl,q _ I.fresh⟩
def rRep:R2:=fun x y H Q=>∃l k xs,x = .ref l∧y = .int k∧H l=some (.lst xs)∧-(2^63)≤k∧k<2^63∧xs.length*k.toNat≤sizeLine∧
 ∀p,H p=none→Q (.ref p) (upd H p (.lst (List.replicate k.toNat xs).flatten))
theorem len_rep {α:Type} (xs:List α) (k:Nat):(List.replicate k xs).flatten.length=k*xs.length:=by
 induction k with
 | zero=>simp
 | succ k ih=>rw [List.replicate_succ,List.flatten_cons,List.length_append,ih,Nat.succ_mul,Nat.add_comm]
theorem op_rep:OpR X (binaryOp .Mult) rRep:=by
 intro pins s σ H x y v u Q I rx ry h
 obtain ⟨l,k,xs,rfl,rfl,hH,h1,h2,hz,q⟩:=h
 cases rx
 obtain ⟨t,rfl⟩:=ry
 obtain ⟨z,its,n,r,hl,e⟩:=I.lstM hH
 have hlen:its.toArray.size*k.toNat≤sizeLine:=by rw [List.size_toArray,←hl];exact hz
 have hcap:¬its.toArray.size*k.toNat>(2^63-1)/8:=by
  have:(sizeLine:Nat)≤(2^63-1)/8:=by decide
  omega
 have hfit:¬(!Builtin.List.listFitsIndex k)=true:=by
  rw [fitsIndex_both h1 h2]
  exact Bool.false_ne_true
 have hlong:¬Builtin.List.listTooLong (its.toArray.size*k.toNat)=true:=by
  rw [notLongL hlen]
  exact Bool.false_ne_true
 have hnew:List.foldl (fun x1 x2=>x1++x2) #[] (List.replicate (if its.toArray.isEmpty=true then 0 else k.toNat) its.toArray)=(List.replicate k.toNat its).flatten.toArray:=by
  have f0:∀m:Nat,List.foldl (fun x1 x2=>x1++x2) #[] (List.replicate m its.toArray)=(List.replicate m its).flatten.toArray:=fun m=>by
   have:=foldl_rep its m []
   rw [List.nil_append] at this
   exact this
  rw [f0]
  cases its with
  | nil=>simp
  | cons a r'=>rw [if_neg (by simp)]
 refine wpAny_binaryOp_repeat_ref (T:="list") (U:="int") (by decide) ⟨_,e,rfl⟩ (fun s'=>typeIs_int s' k t) noFill_list_mul F.fills_int_mul F.slot_int_rmul repeat_list F.slot_int_index.lookup
  (call_meets F.slot_int_rmul (typeIs_int s k t) F.entry_int_rmul (F.args_int_rmul_2 _ _) (int___rmul___int_list k t l its.toArray n)
   ⟨e,rfl,⟨_,e,rfl⟩,call_meets F.slot_list_mul ⟨_,e,rfl⟩ F.entry_list_mul (F.args_list_mul_2 _ _) (AutoListH.list___mul___list_int_3 l its.toArray n k t hfit hcap hlong) ⟨e,?_⟩⟩)
 rw [hnew]
 exact ⟨.ref _,_,I.lnew (t':=s.toks) (r.rep k.toNat) (by rw [len_rep,Nat.mul_comm];exact hz),rfl,q _ I.fresh⟩
end
section
variable {prog:Program} {w:World} {A:Around} {E:Value→Shared→Prop} {s:Shared}
set_option maxRecDepth 100000 in
end
section
variable {X:Cx}
end
end L2
namespace Att
open PySem PySem.W PySem.Calls PyProof.Rows
theorem ints_of_wellAll {P:Params} {h:Heap}:∀(ns:List Int) (vs:List Value),WellAll P h vs (ns.map WData.int)→IntsAre vs ns:=by
 intro ns
 induction ns with
 | nil=>
  intro vs w
  rw [List.map_nil] at w
  cases w
  exact .nil
 | cons n ns ih=>
  intro vs w
  rw [List.map_cons] at w
  cases w with
  | cons a b=>
   cases a
   exact .cons _ _ (ih _ b)
theorem script_of {l:OpenLaw} {n:Nat} (hn:l.most=some n) {P:Params} {h:Heap} {args:List WData} {vals:List Value}
  (hpre:l.row.toRowW.claim.pre args=true) (hwl:WellAll P h vals args) :
  ∃a vs ns,vals=[Value.ref a]∧args=[WData.list (ns.map WData.int)]∧h.get? a=some { cls:=.type "list",data:=.seq vs.toArray }∧IntsAre vs ns∧ns.length≤n:=by
 have hsh:WShape.hasAll [] args [.list .int]=true:=(pre_splitW hpre).1
 have hc:l.pre.holds [] { args:=args } = true:=(pre_splitW hpre).2
 obtain ⟨d,r,rfl,h1,h2⟩:=hasAllW_cons hsh
 obtain rfl:=hasAllW_nil h2
 obtain ⟨xs,rfl,h3⟩:=hasW_list h1
 obtain ⟨ns,rfl⟩:=items_int h3
 have hlen:ns.length≤n:=by
  unfold OpenLaw.pre at hc
  have h4:(WTm.not (.lt (.lit (.int (n:Int))) (.len (.arg 0)))).holds [] { args:=[.list (ns.map .int)] } = true:=by
   have h4:=(holds_andW hc).1
   rw [hn] at h4
   exact h4
  have h5:=condW_of h4 (w_not (w_lt w_lit (w_len_list (w_arg rfl))))
  rw [List.length_map] at h5
  refine Nat.le_of_not_lt fun q=>?_
  have q':(n:Int)<((ns.length:Nat):Int):=by omega
  first
   | (rw [decide_eq_true q'] at h5;exact absurd h5 (by decide))
   | (simp at h5;omega)
 cases hwl with
 | cons w1 w2=>
  cases w2
  cases w1 with
  | list ho hall=>exact ⟨_,_,ns,rfl,rfl,ho,ints_of_wellAll ns _ hall,hlen⟩
theorem post_true (l:OpenLaw) (args:List WData):l.row.toRowW.claim.post args (.bool true) args=true:=
 postW_of (r:=l.row.toRowW) (X:=(true==true))
  (show WShape.has [] (.bool true) .bool=true by first | rfl | decide | simp [WShape.has,WShape.arms,WShape.armsAll])
  (show (WTm.eq .res (.lit (.bool true))).value [] { args:=args,res:=some (.bool true),after:=args } = some (.bool (true==true)) from w_eq_bool (w_res rfl) w_lit) rfl
theorem attach_call {l:OpenLaw} {n:Nat} {q:Program} {loose:List Str} {XP:(Str→Option Value)→Heap→Prop} {YP:World→Heap→Prop} {d:DefRec}
  (hn:l.most=some n) (hdf:d.params.defaults=[])
  (call:∀(w:World) (s₀ s₁:Shared) (mg mb:Str→Option Value) (fa:Addr) (o:Obj) (pm cd doc:Value) (a:Addr) (vs:List Value) (ns:List Int),
   Ground q loose [] XP w s₀ mg mb s₁.heap→YP w s₁.heap→
   s₁.heap.get? fa=some o→o.data = .func (docDef d.name d.params d.body d.scope pm cd doc)→s₁.heap.CodeRec cd d.name→mg d.name=some (.ref fa)→
   s₁.heap.get? a=some { cls:=.type "list",data:=.seq vs.toArray }→IntsAre vs ns→ns.length≤n→s₁.gens = #[]→
   codeAny (model l.prog w) callerA (.call (.ref fa) ⟨[.ref a],[]⟩) (fun r s'=>r = .ok (.ret (.bool true))∧OldK s₁.heap s'.heap∧s'.os=s₁.os∧AllBare s'.gens) s₁) :
  WalkO q loose XP YP l.row.toRowW d [] (fun f vs=>PySem.call f vs):=by
 intro w s₀ s₁ mg mb G Y fa o pm cd doc dV kV ho hd hcd hD hmg hg args vals as hpre hlay hrd hwl hlo
 obtain rfl:dV = .none:=Dflts.none hD hdf
 obtain rfl:kV = .none:=Dflts.noKw hD
 obtain ⟨a,vs,ns,rfl,rfl,hobj,hints,hlen⟩:=script_of hn hpre hwl
 refine enter_call (codeAny_mono (call w s₀ s₁ mg mb fa o pm cd doc a vs ns G Y ho (fd_plain hd) hcd hmg hobj hints hlen hg) fun r s' hq=>?_)
 obtain ⟨rfl,h2,h3,h4⟩:=hq
 exact ⟨.inl ⟨.bool true,.bool true,[],rfl,fun _=>rfl,.bool true,post_true l _,fun _=>⟨List.Pairwise.nil,fun _ hm=>(nomatch hm)⟩⟩,h2,h3,h4⟩
section
variable {prog:Program} {w:World} {A:Around} {E:Value→Shared→Prop} {s:Shared} {K:Frag}
end
end Att
namespace L2
open PySem PySem.Spec PyProof.Rows
theorem vals_ints:∀{vs:List Value} {ns:List Int},IntsAre vs ns→Vals (ns.map V.int) vs
 | _,_,.nil=>.nil
 | _,_,.cons n t h=>.cons ⟨t,rfl⟩ (vals_ints h)
def Only (H:Hp):Prop:=∀b,H b=none∨∃o xs,H b=some (.frz o (.lst xs))
theorem law_call {P:Program} {w:World} {K:PySem.W.Frag} {mg mb:Str→Option Value} {CX:CXT} {k:Nat} {fa a:Addr} {fd:FuncData} {x:Str} {sp:Sp} {s₁:Shared} {vs:List Value} {ns:List Int}
  (KX:K.In s₁.heap) (hns:s₁.heap.Ns mainGlobals mg) (hb:s₁.heap.Ns builtinsNs mb) (hbb:∀x:Str,x≠"__name__"→mb x=bootBuiltins x) (hlim:s₁.heap.NoLimit) (hg:s₁.gens = #[])
  (ha:s₁.heap.get? a=some { cls:=.type "list",data:=.seq vs.toArray }) (hi:IntsAre vs ns) (hl:ns.length≤sizeLine) (hr:Room k callerA)
  (F:∀base:Heap,K.In base→base.Ns mainGlobals mg→FnOk P w K mg base CX k fa fd [x] sp) (hbind:∀(s:Shared) (u:Value),BindsTo s fd ⟨[u],[]⟩ [(x,u)])
  (hsp:∀H:Hp,Only H→SqL K H a (ns.map V.int)→sp [.ref a] H (fun v _=>v = .bl true) fun _ _ _=>False)
  (hCX:∀H e s',CX [] H s₁ (fun _ _ _=>False) e s'→False) :
  codeAny (model P w) callerA (.call (.ref fa) ⟨[.ref a],[]⟩) (fun r s'=>r = .ok (.ret (.bool true))∧OldK s₁.heap s'.heap∧s'.os=s₁.os∧AllBare s'.gens) s₁:=by
 have rv:=vals_ints hi
 have lenV:=hi.length
 -- from an abstract heap in which nothing but the script may be tracked
 have core:∀H:Hp,Only H→SqL K H a (ns.map V.int)→HOk P w H s₁.heap→(∀b,H b≠none→b=a)→(H a≠none→K.lookup a=none)→
   codeAny (model P w) callerA (.call (.ref fa) ⟨[.ref a],[]⟩) (fun r s'=>r = .ok (.ret (.bool true))∧OldK s₁.heap s'.heap∧s'.os=s₁.os∧AllBare s'.gens) s₁:=by
  intro H hO hS hok hA hK
  have base_of:∀{b:Addr} {o:Obj},s₁.heap.get? b=some o→H b=none→(hidT s₁.heap H).get? b=some o:=fun e n=>hidT_get e n
  have noA:∀{b:Addr} {o:Obj} {es:Array DictEntry} {ep:Nat},s₁.heap.get? b=some o→o.data = .dict es ep→H b=none:=fun {b o es ep} e d=>by
   cases q:H b with
   | none=>rfl
   | some u=>
    have e':b=a:=hA b (by rw [q];simp)
    subst e'
    rw [ha] at e;cases e
    have d':Data.seq vs.toArray _=Data.dict es ep:=d
    cases d'
  have nsK:∀{b:Addr} {m:Str→Option Value},s₁.heap.Ns b m→(hidT s₁.heap H).Ns b m:=fun {b m} ⟨o,es,ep,e,d,r⟩=>⟨o,es,ep,base_of e (noA e d),d,r⟩
  have hKb:K.In (hidT s₁.heap H):=fun b o e=>base_of (KX b o e) (by
   cases q:H b with
   | none=>rfl
   | some u=>
    have e':b=a:=hA b (by rw [q];simp)
    subst e'
    rw [hK (by rw [q];simp)] at e;cases e)
  have hM:Mod K mg (hidT s₁.heap H):=⟨hKb,nsK hns,⟨mb,nsK hb,hbb⟩,let ⟨mc,h1,h2⟩:=hlim;⟨mc,nsK h1,h2⟩⟩
  have e0:Env0 P w K mg (hidT s₁.heap H) callerA [] s₁ H:=⟨rfl,hM,fun b o e=>of_hidT e,Nat.le_of_eq (hidT_size _ _),trivial,fun b hb=>absurd (show b∈([]:List Addr) from hb) (by simp),hok,.of_eq hg⟩
  refine codeAny_mono ((F _ hKb (nsK hns)).run callerA [] s₁ H ⟨[.ref a],[]⟩ [.ref a] [.ref a] _ _ hr e0 (hbind s₁ (.ref a)) (.cons rfl .nil) (hsp H hO hS)) fun r s' h=>?_
  cases r with
  | error e=>exact (hCX H e s' h).elim
  | ok fl=>
   cases fl with
   | next=>exact False.elim h
   | brk=>exact False.elim h
   | cont=>exact False.elim h
   | ret u=>
    obtain ⟨v,H',os,bare,un,hok',r',q⟩:=h
    have q':v = .bl true:=q
    subst q'
    obtain rfl:u=Value.bool true:=r'
    refine ⟨rfl,OldK.of_keep fun b o e=>?_,os,bare⟩
    cases q:H b with
    | none=>exact un.keep b o e q (by intro z;exact absurd (show b∈([]:List Addr) from z) (by simp)) (by simp)
    | some u=>
     rcases hO b with z | ⟨ob,xs,z⟩
     ·rw [q] at z;cases z
     ·have z2:=un.frzs b ob _ z
      obtain ⟨e1,_⟩:=hok b _ z
      obtain ⟨e2,_⟩:=hok' b _ z2
      rw [e] at e1;cases e1
      exact e2
 cases hk:K.lookup a with
 | some o=>
  -- the script is one of the module's own objects
  have e:=KX a o hk
  rw [ha] at e
  cases e
  refine core (fun _=>none) (fun _=>.inl rfl) (.inr ⟨_,vs.toArray,_,hk,rfl,rfl,rfl,by rw [List.size_toArray,lenV];exact hl,by simpa using rv⟩) (fun b u z=>by have z':(none:Option HO)=some u:=z;cases z') (fun b z=>absurd rfl z) fun z=>absurd rfl z
 | none=>
  refine core (fun b=>if b=a then some (.frz { cls:=.type "list",data:=.seq vs.toArray } (.lst (ns.map V.int))) else none) (fun b=>?_) (.inl (.inr ⟨{ cls:=.type "list",data:=.seq vs.toArray },if_pos rfl⟩)) (fun b u z=>?_) (fun b z=>?_) fun _=>hk
  ·by_cases hb:b=a
   ·exact .inr ⟨_,_,if_pos hb⟩
   ·exact .inl (if_neg hb)
  ·by_cases hb:b=a
   ·have z':=(if_pos hb).symm.trans z
    cases z'
    subst hb
    exact ⟨ha,by rw [List.length_map];exact hl,vs,_,rv,ha⟩
   ·have z':=(if_neg hb).symm.trans z
    cases z'
  ·by_cases hb:b=a
   ·exact hb
   ·exact absurd (if_neg hb) z
theorem walk_of {l:PySem.W.OpenLaw} {n k:Nat} {q:Program} {loose:List Str} {XP:(Str→Option Value)→Heap→Prop} {YP:World→Heap→Prop} {d:DefRec} {K:Params→PySem.W.Frag} {CX:World→CXT} {sp:World→Sp} {x:Str}
  (hn:l.most=some n) (hn2:n≤sizeLine) (hdf:d.params.defaults=[]) (hr:Room k callerA)
  (hY:∀(w:World) (h:Heap),YP w h→(K w.params).In h)
  (F:∀(w:World) (mg:Str→Option Value) (fa:Addr) (h:Heap),(K w.params).In h→h.Ns mainGlobals mg→mg d.name=some (.ref fa)→
   ∃fd:FuncData,(∀(s:Shared) (u:Value),BindsTo s fd ⟨[u],[]⟩ [(x,u)])∧
    ∀base:Heap,(K w.params).In base→base.Ns mainGlobals mg→FnOk l.prog w (K w.params) mg base (CX w) k fa fd [x] (sp w))
  (hsp:∀(w:World) (H:Hp) (a:Addr) (ns:List Int),ns.length≤n→Only H→SqL (K w.params) H a (ns.map V.int)→sp w [.ref a] H (fun v _=>v = .bl true) fun _ _ _=>False)
  (hCX:∀(w:World) (H:Hp) (s:Shared) (e:Value) (s':Shared),CX w [] H s (fun _ _ _=>False) e s'→False) :
  PySem.W.WalkO q loose XP YP l.row.toRowW d [] (fun f vs=>PySem.call f vs):=by
 refine Att.attach_call hn hdf fun w s₀ s₁ mg mb fa o pm cd doc a vs ns G Y ho hd hcd hmg hobj hints hlen hg=>?_
 have KX:=hY w _ Y
 obtain ⟨fd,hb,hF⟩:=F w mg fa _ KX G.T.g hmg
 exact law_call KX G.T.g G.T.b G.T.builtins G.T.nolimit hg hobj hints (Nat.le_trans hlen hn2) hr hF hb (fun H hO hS=>hsp w H a ns hlen hO hS) fun H e s'=>hCX w H s₁ e s'
end L2
/- THE LAST THEOREM (shape;LID,My.* are yours):
   My.Adr: a structure of the addresses that your layer names (classes,functions);My.Txt K t: a structure (Prop) of the equations over K;
   My.txt_mk:{K} {implicit addresses ..} (e1:nsIn K mainGlobals "law" = some (some (.ref f))) (e2:K.lookup f=some ⟨oc,od,.func (fnOf "law" "law" params body scope dV kV doc pm an cdv ct),sl⟩) (e3:codeIn K cdv "law" = true) .. : ∃t,My.Txt K t
set_option maxRecDepth 100000 in
set_option maxHeartbeats 0 in
(the tactic k_is has no namespace: write k_is) -/
namespace L2
open PySem PySem.Spec PyProof.Rows
def defArgs (s:Stmt):Arguments:=match s with
 | .FunctionDef _ a _ _ _ _ _ _ _ _=>a
 | _=>{ posonlyargs:=[],args:=[],vararg:=none,kwonlyargs:=[],kw_defaults:=[],kwarg:=none,defaults:=[] }
def defBody (s:Stmt):List Stmt:=match s with
 | .FunctionDef _ _ b _ _ _ _ _ _ _=>b
 | _=>[]
def defScope (s:Stmt):Scope:=match s with
 | .FunctionDef _ _ _ _ _ _ sc _ _ _=>sc
 | _=>{ kind:=.function,names:=[],isGenerator:=false,isCoroutine:=false }
abbrev CX0:CXT:=fun _ _ _ _ _ _=>False
abbrev E0:XK:=fun _ _ _=>False
theorem pass0 {X:Cx}:Passes CX0 X E0:=fun _ _ _ _ _ _ _ h=>h.elim
structure Fun (K:PySem.W.Frag) (x qual:Str) (st:Stmt) (f:Addr) (fd:FuncData):Prop where
 ex:∃(oc:Value) (od:Option Addr) (kV doc pm:Value) (an:Option Addr) (cdv ct:Value) (osl:Array (Option Value)),
  fd=PySem.W.fnOf x qual (defArgs st) (defBody st) (defScope st) .none kV doc pm an cdv ct∧K.lookup f=some ⟨oc,od,.func fd,osl⟩∧PySem.W.codeIn K cdv qual=true
 kp:PySem.W.keepIn K (.ref f)=true
section
variable {P:Program} {w:World} {K:PySem.W.Frag} {mg:Str→Option Value} {base:Heap}
theorem Fun.ok {x qual:Str} {st:Stmt} {f:Addr} {fd:FuncData} {N ps:List Str} {k:Nat} {sp:Sp} (F:Fun K x qual st f fd) (S:FnScope N ps (defScope st)) (len:∀vs H Q E,sp vs H Q E→vs.length=ps.length)
  (hbody:∀(cdv:Value) (A:Around) (outer:List Env) (s:Shared) (H:Hp) (vs:List V) (Q:VK) (E:XK),Room k (A.deeper (envOfC qual (defScope st) s.heap.objs.size f cdv))→sp vs H Q E→
   ∃t,PSs (cxOf CX0 P w K mg base N qual (defScope st) f cdv A outer s H E).nox (defBody st) t∧t { nx:=fun _ H'=>Q .non H',rt:=Q } (start N vs) H):FnOk P w K mg base CX0 (k+1) f fd ps sp:=by
 obtain ⟨oc,od,kV,doc,pm,an,cdv,ct,osl,rfl,lk,hcd⟩:=F.ex
 refine fn_of lk hcd S len fun A outer s H vs Q E hr hsp=>?_
 obtain ⟨t,h,q⟩:=hbody cdv A outer s H vs Q E hr hsp
 exact ⟨t,h.nox,q⟩
theorem Fun.binds {x qual:Str} {st:Stmt} {f:Addr} {fd:FuncData} {ps:List Str} (F:Fun K x qual st f fd)
  (h:∀(kV doc pm:Value) (an:Option Addr) (cdv ct:Value) (us:List Value),us.length=ps.length→bindArgs (PySem.W.fnOf x qual (defArgs st) (defBody st) (defScope st) .none kV doc pm an cdv ct) ⟨us,[]⟩=pure (ps.zip us)):Binds K fd ps []:=by
 obtain ⟨oc,od,kV,doc,pm,an,cdv,ct,osl,rfl,lk,hcd⟩:=F.ex
 exact .all (h kV doc pm an cdv ct)
theorem fun_mk {x qual:Str} {st:Stmt} {f:Addr} {oc:Value} {od an:Option Addr} {osl:Array (Option Value)} {kV doc pm cdv ct:Value} (l:K.lookup f=some ⟨oc,od,.func (PySem.W.fnOf x qual (defArgs st) (defBody st) (defScope st) .none kV doc pm an cdv ct),osl⟩)
  (c:PySem.W.codeIn K cdv qual=true) (k:PySem.W.keepIn K (.ref f)=true):Fun K x qual st f (PySem.W.fnOf x qual (defArgs st) (defBody st) (defScope st) .none kV doc pm an cdv ct):=⟨⟨oc,od,kV,doc,pm,an,cdv,ct,osl,rfl,l,c⟩,k⟩
end
theorem hu_of {A:Around} {k:Nat} (hr:Room k A):A.units+1<cLine:=Nat.lt_of_le_of_lt (Nat.add_le_add_left (by decide:1≤64) _) hr.units
theorem small1000 {n:Nat} (h:n≤1000):n<sizeLine:=Nat.lt_of_le_of_lt h (by decide)
section
variable {X:Cx}
end
end L2
set_option maxHeartbeats 4000000
namespace L2
open PySem PySem.Spec PyProof.Rows
section
variable {X:Cx}
theorem call_absV:CallR X (.builtin "abs") (fun xs H Q=>∃i:Int,xs=[.int i]∧Q (.int (i.natAbs:Int)) H):=by
 intro pins s σ H xs us Q I r h
 obtain ⟨i,rfl,q⟩:=h
 obtain ⟨u,rfl,rx⟩:=vals1 r
 obtain ⟨t,rfl⟩:=rx
 have e:(if i<0 then -i else i)=(i.natAbs:Int):=by split<;>omega
 exact call_abs_int fun u tk=>⟨.int (i.natAbs:Int),H,I.tok _,⟨u,by rw [e]⟩,q⟩
theorem call_intB:CallR X (.type "int") (fun xs H Q=>∃b:Bool,xs=[.bl b]∧Q (.int (if b then 1 else 0)) H):=by
 intro pins s σ H xs us Q I r h
 obtain ⟨b,rfl,q⟩:=h
 obtain ⟨u,rfl,rx⟩:=vals1 r
 cases rx
 exact PySem.call_int_bool ⟨.int _,H,I.tok _,⟨_,rfl⟩,q⟩
inductive Kd (K:PySem.W.Frag) (H:Hp):V→String→Prop
 | non:Kd K H .non "NoneType"
 | bl (b):Kd K H (.bl b) "bool"
 | int (i):Kd K H (.int i) "int"
 | str (x):Kd K H (.str x) "str"
 | tup {a xs}:SqT K H a xs→Kd K H (.ref a) "tuple"
 | lst {a xs}:SqL K H a xs→Kd K H (.ref a) "list"
def isi (k T:String):Bool:=k==T||(k=="bool"&&T=="int")
def tys:List String:=["int","bool","tuple","list","str"]
theorem call_isi:CallR X (.builtin "isinstance") (fun xs H Q=>∃x k T,xs=[x,.ty T]∧Kd X.K H x k∧T∈tys∧Q (.bl (isi k T)) H):=by
 intro pins s σ H xs us Q I r h
 obtain ⟨x,k,T,rfl,hk,hT,q⟩:=h
 obtain ⟨u,v,rfl,rx,ry⟩:=Vals.two r
 cases ry
 have f0:∀b t,Q (.bl b) H→EP X pins σ Q (.bool b) { s with toks:=t }:=fun b t q=>⟨.bl b,H,I.tok _,rfl,q⟩
 have f1:∀b,Q (.bl b) H→EP X pins σ Q (.bool b) s:=fun b q=>⟨.bl b,H,I,rfl,q⟩
 simp only [tys,List.mem_cons,List.not_mem_nil,or_false] at hT
 cases hk with
 | non=>
  cases rx
  rcases hT with rfl | rfl | rfl | rfl | rfl
  ·exact IsiPair.NoneType_int (f0 _ _ q)
  ·exact IsiPair.NoneType_bool (f0 _ _ q)
  ·exact IsiPair.NoneType_tuple (f0 _ _ q)
  ·exact IsiPair.NoneType_list (f0 _ _ q)
  ·exact IsiPair.NoneType_str (f0 _ _ q)
 | bl b=>
  cases rx
  rcases hT with rfl | rfl | rfl | rfl | rfl
  ·exact IsiPair.bool_int (f1 _ q)
  ·exact IsiPair.bool_bool (f1 _ q)
  ·exact IsiPair.bool_tuple (f0 _ _ q)
  ·exact IsiPair.bool_list (f0 _ _ q)
  ·exact IsiPair.bool_str (f0 _ _ q)
 | int i=>
  obtain ⟨t,rfl⟩:=rx
  rcases hT with rfl | rfl | rfl | rfl | rfl
  ·exact IsiPair.int_int (f1 _ q)
  ·exact IsiPair.int_bool (f0 _ _ q)
  ·exact IsiPair.int_tuple (f0 _ _ q)
  ·exact IsiPair.int_list (f0 _ _ q)
  ·exact IsiPair.int_str (f0 _ _ q)
 | str z=>
  obtain ⟨t,rfl⟩:=rx
  rcases hT with rfl | rfl | rfl | rfl | rfl
  ·exact IsiPair.str_int (f0 _ _ q)
  ·exact IsiPair.str_bool (f0 _ _ q)
  ·exact IsiPair.str_tuple (f0 _ _ q)
  ·exact IsiPair.str_list (f0 _ _ q)
  ·exact IsiPair.str_str (f1 _ q)
 | tup hq=>
  cases rx
  obtain ⟨its,rv,⟨o,ho,hc,_⟩,_⟩:=I.tuple hq
  rcases hT with rfl | rfl | rfl | rfl | rfl
  ·exact IsiPair.tuple_int ho hc (f0 _ _ q)
  ·exact IsiPair.tuple_bool ho hc (f0 _ _ q)
  ·exact IsiPair.tuple_tuple ho hc (f1 _ q)
  ·exact IsiPair.tuple_list ho hc (f0 _ _ q)
  ·exact IsiPair.tuple_str ho hc (f0 _ _ q)
 | lst hq=>
  cases rx
  obtain ⟨its,rv,⟨o,n,ho,hc,_⟩,_⟩:=I.list hq
  rcases hT with rfl | rfl | rfl | rfl | rfl
  ·exact IsiPair.list_int ho hc (f0 _ _ q)
  ·exact IsiPair.list_bool ho hc (f0 _ _ q)
  ·exact IsiPair.list_tuple ho hc (f0 _ _ q)
  ·exact IsiPair.list_list ho hc (f1 _ q)
  ·exact IsiPair.list_str ho hc (f0 _ _ q)
theorem call_allB (hc:X.calm=true):CallR X (.builtin "all") (fun xs H Q=>∃(p:Addr) (bs:List Bool),xs=[.ref p]∧SqL X.K H p (bs.map V.bl)∧Q (.bl (bs.all id)) H):=by
 intro pins s σ H xs us Q I r h
 obtain ⟨p,bs,rfl,hq,q⟩:=h
 obtain ⟨u,rfl,rx⟩:=vals1 r
 cases rx
 obtain ⟨its,rv,pl,hz⟩:=I.list hq
 have hne:p≠s.heap.objs.size:=by
  obtain ⟨o,n,ho,_⟩:=pl
  exact Nat.ne_of_lt (Heap.lt_size ho)
 have hl:=rv.length
 rw [List.length_map] at hl
 have hA:X.A.in1.handled=none:=I.ok.hd hc
 refine call_all_walk (wpAny_pyIter_list pl.isList ?_)
 refine ⟨s.heap.objs.size,_,_,_,_,_,(fun i=>bs.getD i true),rfl,Walks.list hA s.heap.objs.size p hne its.toArray,⟨⟨_,Heap.get?_push_size _ rfl,rfl,rfl⟩,pl.isList.at fun o e=>Heap.get?_push_of_some _ e⟩,?_,?_⟩
 ·intro i v s' Q' E' hv hQ'
  have hv':its[i]? = some v:=by simpa using hv
  have hi:i<its.length:=(List.getElem?_eq_some_iff.mp hv').1
  have hb:(bs.map V.bl)[i]? = some (V.bl bs[i]):=by
   rw [List.getElem?_map,List.getElem?_eq_getElem (by omega)];rfl
  obtain ⟨u,hu,ru⟩:=rv.get hb
  rw [hv'] at hu
  cases hu
  cases ru
  have e:bs.getD i true=bs[i]:=by rw [List.getD_eq_getElem?_getD,List.getElem?_eq_getElem (by omega)];rfl
  simp only [e] at hQ'
  exact wpAny_truthy_bool hQ'
 ·intro h' tk hk
  have e:(List.range its.toArray.size).all (fun i=>bs.getD i true)=bs.all id:=by
   rw [List.size_toArray,←hl]
   clear hl hz rv q hq pl hne
   rw [Bool.eq_iff_iff,List.all_eq_true,List.all_eq_true]
   constructor
   ·intro h b hb
    obtain ⟨i,hi,rfl⟩:=List.mem_iff_getElem.mp hb
    have:=h i (List.mem_range.mpr hi)
    rw [List.getD_eq_getElem?_getD,List.getElem?_eq_getElem hi] at this
    exact this
   ·intro h i hi
    have hi:=List.mem_range.mp hi
    rw [List.getD_eq_getElem?_getD,List.getElem?_eq_getElem hi]
    exact h _ (List.getElem_mem hi)
  rw [e]
  refine ⟨.bl _,H,?_,rfl,q⟩
  exact I.kept fun b o e=>hk b o (by simp;exact Nat.ne_of_lt (Heap.lt_size e)) (Heap.get?_push_of_some _ e)
end
section
variable {X:Cx} {pins:List (Addr×Obj)} {σ:St} {H:Hp} {s:Shared} {h':Heap}
theorem Inv.turnedLaid {t':Nat} {ch:List Addr} {a:Addr} {o:HO} (I:Inv X pins σ H s) (k:∀b u,b∉ch→s.heap.get? b=some u→h'.get? b=some u) (hf:∀b∈ch,FpOk X pins H b) (hp:s.heap.objs.size≤a)
  (new:ObjOk X.prog X.w (upd H a o) h' a o):Inv X pins σ (upd H a o) { s with heap:=h',toks:=t' }:=by
 have hn:=I.hok.fresh hp
 have nit:∀b u,H b=some u→b∉ch:=fun b u e z=>by rw [(hf b z).1] at e;cases e
 refine I.step (g':=s.gens) (d':=s.drawn) (ch:=ch) (fun b hb=>⟨(hf b hb).2.2.2.1,(hf b hb).2.1,(hf b hb).2.2.2.2.1,(hf b hb).2.2.2.2.2⟩) (fun b u _ _ hc e _=>k b u hc e) (fun b u _ _ hc e _=>⟨u.slots,k b u hc e⟩)
  (fun b u hc e n=>by rw [upd_ne (Nat.ne_of_lt (Nat.lt_of_lt_of_le (Heap.lt_size e) hp))];exact n) (fun b u hc e=>⟨u,k b u hc e⟩) (fun b xs e=>by rw [upd_ne (ne_of_none e hn)];exact e) (fun b u xs e=>by rw [upd_ne (ne_of_none e hn)];exact e)
  (fun b ps e=>⟨#[],by rw [upd_ne (ne_of_none e hn),e];simp⟩) (fun m hm=>?_) (fun b u e=>?_) I.bare
 ·obtain ⟨ob,es,ep,ho,r⟩:=hm
  exact ⟨ob,es,ep,k _ ob (fun z=>(hf _ z).2.1 rfl) ho,r⟩
 ·by_cases hb:b=a
  ·subst hb;rw [upd_same] at e;cases e;exact new
  ·rw [upd_ne hb] at e
   refine (I.hok b u e).stay (fun c v hc q=>k c v ?_ q) (fun c q=>by rw [upd_ne (ne_of_none q hn)];exact q) fun c xs q=>by rw [upd_ne (ne_of_none q hn)];exact q
   rcases hc with z | z
   ·rw [z];exact nit b u e
   ·exact nit c _ z
theorem Inv.turnedL {t':Nat} {ch:List Addr} (I:Inv X pins σ H s) (k:∀b u,b∉ch→s.heap.get? b=some u→h'.get? b=some u) (hf:∀b∈ch,FpOk X pins H b):Inv X pins σ H { s with heap:=h',toks:=t' }:=by
 have nit:∀b u,H b=some u→b∉ch:=fun b u e z=>by rw [(hf b z).1] at e;cases e
 refine I.step (g':=s.gens) (d':=s.drawn) (ch:=ch) (fun b hb=>⟨(hf b hb).2.2.2.1,(hf b hb).2.1,(hf b hb).2.2.2.2.1,(hf b hb).2.2.2.2.2⟩) (fun b u _ _ hc e _=>k b u hc e) (fun b u _ _ hc e _=>⟨u.slots,k b u hc e⟩)
  (fun b u hc e n=>n) (fun b u hc e=>⟨u,k b u hc e⟩) (fun b xs e=>e) (fun b u xs e=>e) (fun b ps e=>⟨#[],by rw [e];simp⟩) (fun m hm=>?_) (fun b u e=>?_) I.bare
 ·obtain ⟨ob,es,ep,ho,r⟩:=hm
  exact ⟨ob,es,ep,k _ ob (fun z=>(hf _ z).2.1 rfl) ho,r⟩
 ·refine (I.hok b u e).stay (fun c v hc q=>k c v ?_ q) (fun c q=>q) fun c xs q=>q
  rcases hc with z | z
  ·rw [z];exact nit b u e
  ·exact nit c _ z
end
def Ite (K:PySem.W.Frag) (a:Addr):It:=
 ⟨fun i H=>∃xs x,SqL K H a xs∧xs[i]? = some x,fun i H x H'=>∃p y,x = .ref p∧H p=none∧H'=upd H p (.tup [.int (i:Int),y])∧∀xs,SqL K H a xs→xs[i]? = some y,fun i H=>∃xs,SqL K H a xs∧xs.length≤i⟩
theorem turn_enum {P:Program} {w:World} {K:PySem.W.Frag} {elts:List Expr} {x1} {tpos:Pos} (a e it:Addr) (hne:e≠it) :
  Turn P w K (.Tuple elts x1 tpos) (Ite K a) [e,it] e (fun i h=>(∃old,IsEnum h e it (i:Nat) old)∧h.IsListIter it a i) where
 mem:=by simp
 obj:=fun i h st b hb=>by
  obtain ⟨⟨old,he⟩,⟨o,ho,hc,hd⟩⟩:=st
  rcases List.mem_cons.mp hb with rfl | hb
  ·exact ⟨_,he,fun v z=>by cases z⟩
  ·rw [List.mem_singleton.mp hb]
   exact ⟨o,ho,fun v z=>by rw [hd] at z;cases z⟩
 keep:=fun i h h' st k=>⟨let ⟨old,he⟩:=st.1;⟨old,k e (by simp) _ he⟩,st.2.at fun o x=>k it (by simp) o x⟩
 item:=by
  intro X hP hw hK hc i pins s σ H E I hf st hg
  subst hP hw hK
  obtain ⟨xs,x,hq,hx⟩:=hg
  obtain ⟨its,rv,p,hz⟩:=I.list hq
  obtain ⟨u,hu,ru⟩:=rv.get hx
  obtain ⟨⟨old,he⟩,hit⟩:=st
  refine wpAny_pyNext_enum_item he hit p.isList (x:=u) (by simpa using hu) hne fun h1 ho hit1 ht hsz hk=>⟨_,rfl,?_⟩
  refine wpAny_letOwnedTupleGo_enum ho fun h2 he2 hs2=>?_
  have hen:e≠s.heap.objs.size:=Nat.ne_of_lt (Heap.lt_size he)
  have kk:∀b o,b∉[e,it]→s.heap.get? b=some o→h2.get? b=some o:=fun b o hb q=>by
   have h1':b≠e:=fun z=>hb (by simp [z])
   have h2':b≠it:=fun z=>hb (by simp [z])
   exact hs2.extBut b o h1' (hk b o h1' h2' q)
  have new:ObjOk X.prog X.w (upd H s.heap.objs.size (.tup [.int (i:Int),x])) h2 s.heap.objs.size (.tup [.int (i:Int),x]):=
   ⟨by show 2≤sizeLine;decide,[.int i s.toks,u],.cons ⟨_,rfl⟩ (.cons ru .nil),⟨_,hs2.extBut _ _ (Ne.symm hen) ht,rfl,_,rfl⟩⟩
  refine ⟨.ref s.heap.objs.size,upd H s.heap.objs.size (.tup [.int (i:Int),x]),I.turnedLaid (t':=s.toks+1) (ch:=[e,it]) kk hf (Nat.le_refl _) new,rfl,
   ⟨_,x,rfl,I.hok.fresh (Nat.le_refl _),rfl,fun ys hy=>by rw [I.list_inj hy hq];exact hx⟩,⟨⟨_,by simpa using he2⟩,hit1.extBut hs2.extBut (Ne.symm hne)⟩,fun b hb=>?_⟩
  have hlt:b<s.heap.objs.size:=by
   rcases List.mem_cons.mp hb with rfl | hb
   ·exact Heap.lt_size he
   ·rw [List.mem_singleton.mp hb]
    obtain ⟨o,ho',_⟩:=hit
    exact Heap.lt_size ho'
  rw [upd_ne (Nat.ne_of_lt hlt)]
  exact (hf b hb).1
 done:=by
  intro X hP hw hK hc i pins s σ H E I hf st hg
  subst hP hw hK
  obtain ⟨xs,hq,hx⟩:=hg
  obtain ⟨its,rv,p,hz⟩:=I.list hq
  have hl:=rv.length
  obtain ⟨⟨old,he⟩,hit⟩:=st
  refine wpAny_pyNext_enum_end (I.ok.hd hc) he hit p.isList (by simp;omega) fun h1 eb=>⟨rfl,?_⟩
  exact I.turnedL (t':=s.toks) (ch:=[e,it]) (fun b o hb q=>eb b o (fun z=>hb (by simp [z])) q) hf
 self:=fun _ _ _ _ _ st h=>let ⟨old,he⟩:=st.1;wpAny_pyIter_enum he h
section
variable {X:Cx}
def iEnum (K:PySem.W.Frag) (ta:TA):TI:=fun σ H R=>ta σ H fun vs H1=>∃a,vs=[.ref a]∧(∃xs,SqL K H1 a xs)∧R (Ite K a) H1
theorem pi_enum {a:Expr} {ta:TA} {p pos tpos:Pos} {elts:List Expr} {x1} (hg:Gl X "enumerate") (hm:X.mg "enumerate" = none) (ha:PA X [a] ta) (hs:starEach [a] X.env=[(false,eval a X.env)]:=by rfl) :
  PI X (.Tuple elts x1 tpos) (.Call (.Name "enumerate" p) [a] [] pos) (iEnum X.K ta):=by
 intro pins s σ H R I h
 refine Call_ (ld_blt I hg hm boot_enumerate (PyProof.Rows.callWith_type1 (thn (ha pos pins s σ H _ I h) fun us s1 ⟨vs,H1,I1,r1,q1⟩=>?_) hs rfl))
 obtain ⟨l,rfl,⟨xs,hq⟩,q⟩:=q1
 obtain ⟨u,rfl,ru⟩:=Vals.one r1
 cases ru
 obtain ⟨its,rv,pl,hz⟩:=I1.list hq
 refine call_enumerate_list pl.isList fun h' he hit hsz hk=>?_
 refine wpAny_pyIter_enum he ?_
 refine ⟨s1.heap.objs.size+1,[s1.heap.objs.size+1,s1.heap.objs.size],_,_,H1,rfl,I1.kept (t':=s1.toks) hk,turn_enum l _ _ (Nat.succ_ne_self _),⟨⟨_,he⟩,hit⟩,fun b hb=>?_,q⟩
 have hle:s1.heap.objs.size≤b:=by
  rcases List.mem_cons.mp hb with rfl | hb
  ·exact Nat.le_succ _
  ·rw [List.mem_singleton.mp hb];exact Nat.le_refl _
 exact I1.fpOk hle (I1.hok.fresh hle)
end
theorem codeAny_compLoop_go {prog:Program} {w:World} {A:Around} {R:Result→Shared→Prop} {s:Shared} {elt target iter:Expr} {scope:Scope} {pos:Pos} {it acc:Value} {env:Env} (I:Nat→Shared→Prop)
  (turn:∀n s,I n s→wpAny (model prog w) A (pyNext it) (fun r s₁=>match r with
   | none=>R (.ok .next) s₁
   | some v=>wpAny (model prog w) A (letOwnedTupleGo target it v) (fun _ s₂=>wpAny (model prog w) A (assign target env v) (fun _ s₃=>wpAny (model prog w) A (eval elt env) (fun x s₄=>
     wpAny (model prog w) A (call (.builtin "list.append") [acc,x]) (fun _ s₅=>∃m,m<n∧I m s₅) (fun _ _=>False) s₄) (fun _ _=>False) s₃) (fun _ _=>False) s₂) (fun _ _=>False) s₁) (fun _ _=>False) s)
  (n:Nat) (h:I n s):codeAny (model prog w) A (.compLoop (.ListComp elt [⟨target,iter,[],0⟩] scope pos) 0 it acc env) R s:=by
 refine codeAny_loop rfl I (fun n s hI=>?_) n h
 show wpAny _ A ((compTurn (.ListComp elt [⟨target,iter,[],0⟩] scope pos) 0 it acc env).onRaise (fun x=>do noteFrame x env;theTreesLotGoes x)) _ _ s
 refine wpAny_noted ?_
 rw [compTurn_list1]
 refine wpAny_bind (wpAny_standAt (wpAny_bind (wpAny_mono (turn n s hI) (fun r s₁ h₁=>?_) fun _ _ h'=>h'.elim)))
 cases r with
 | none=>exact wpAny_pure h₁
 | some v=>
  exact wpAny_bind (wpAny_mono h₁ (fun _ s₂ h₂=>wpAny_bind (wpAny_mono h₂ (fun _ s₃ h₃=>wpAny_bind (wpAny_bind (wpAny_mono h₃ (fun x s₄ h₄=>wpAny_bind (wpAny_mono h₄ (fun _ s₅ h₅=>wpAny_pure (wpAny_pure ⟨rfl,h₅⟩)) fun _ _ h'=>h'.elim))
   fun _ _ h'=>h'.elim))) fun _ _ h'=>h'.elim)) fun _ _ h'=>h'.elim)
def clGo (env:Env):List (Str×NameKind)→List (Str×Addr)→List (Str×Addr)
 | [],cs=>cs
 | (n,k)::r,cs=>clGo env r (if k==.free then (match env.cells.lookup n with | some c=>(n,c)::cs | none=>cs) else cs)
def clOf (scope:Scope) (env:Env):List (Str×Addr):=clGo env scope.names []
theorem clGo_eq (env:Env):∀(ns:List (Str×NameKind)) (cs:List (Str×Addr)),(∀y∈ns,y.2 = .free→∃c,env.cells.lookup y.1=some c)→
  (forIn ns cs (fun x r=>do
   if x.2==.free then
    let a ←cellOf env x.1
    pure (ForInStep.yield ((x.1,a)::r))
   else pure (ForInStep.yield r)):Sem (List (Str×Addr)))=pure (clGo env ns cs)
 | [],cs,_=>rfl
 | (n,k)::r,cs,h=>by
  rw [List.forIn_cons]
  by_cases hk:k = .free
  ·subst hk
   obtain ⟨c,hc⟩:=h (n,.free) List.mem_cons_self rfl
   have hc':env.cells.lookup n=some c:=hc
   have e:cellOf env n=pure c:=by unfold cellOf;rw [hc']
   simp only [beq_self_eq_true,if_true,e,pure_bind,clGo,hc']
   exact clGo_eq env r _ fun y hy=>h y (List.mem_cons_of_mem _ hy)
  ·have hb:(k==NameKind.free)=false:=by simpa using hk
   simp only [hb,Bool.false_eq_true,if_false,pure_bind,clGo]
   exact clGo_eq env r _ fun y hy=>h y (List.mem_cons_of_mem _ hy)
theorem closureFor_cl {scope:Scope} {env:Env} (h:∀y∈scope.names,y.2 = .free→∃c,env.cells.lookup y.1=some c):closureFor scope env=pure (clOf scope env):=by
 have e:=clGo_eq env scope.names [] h
 unfold clOf
 rw [←e]
 unfold closureFor
 simp only [bind_pure]
theorem clGo_sub (env:Env):∀(ns:List (Str×NameKind)) (cs:List (Str×Addr)) (x:Str) (c:Addr),(∀x c,cs.lookup x=some c→env.cells.lookup x=some c)→(clGo env ns cs).lookup x=some c→env.cells.lookup x=some c
 | [],_,x,c,h,e=>h x c e
 | (n,k)::r,cs,x,c,h,e=>by
  refine clGo_sub env r _ x c (fun y d hd=>?_) e
  by_cases hk:(k==NameKind.free)=true
  ·rw [if_pos hk] at hd
   cases q:env.cells.lookup n with
   | none=>rw [q] at hd;exact h y d hd
   | some a=>
    rw [q] at hd
    simp only [List.lookup_cons] at hd
    cases b:y==n with
    | true=>rw [b] at hd;cases hd;rw [eq_of_beq b];exact q
    | false=>rw [b] at hd;exact h y d hd
  ·rw [if_neg hk] at hd
   exact h y d hd
theorem clOf_sub {scope:Scope} {env:Env} {x:Str} {c:Addr} (e:(clOf scope env).lookup x=some c):env.cells.lookup x=some c:=clGo_sub env _ _ x c (fun _ _ h=>by simp at h) e
theorem clGo_has (env:Env):∀(ns:List (Str×NameKind)) (cs:List (Str×Addr)) (x:Str) (c:Addr),(cs.lookup x=some c∨(x,NameKind.free)∈ns)→env.cells.lookup x=some c→(clGo env ns cs).lookup x=some c
 | [],_,x,c,h,_=>h.elim (fun z=>z) (fun z=>by simp at z)
 | (n,k)::r,cs,x,c,h,e=>by
  refine clGo_has env r _ x c ?_ e
  rcases h with h | h
  ·refine .inl ?_
   split
   ·cases q:env.cells.lookup n with
    | none=>exact h
    | some a=>
     simp only [List.lookup_cons]
     cases b:x==n with
     | true=>rw [←eq_of_beq b,e] at q;exact q.symm
     | false=>exact h
   ·exact h
  ·rcases List.mem_cons.mp h with z | z
   ·injection z with z1 z2
    subst z1 z2
    refine .inl ?_
    simp only [beq_self_eq_true,if_true,e,List.lookup_cons]
   ·exact .inr z
theorem clOf_has {scope:Scope} {env:Env} {x:Str} {c:Addr} (h:(x,NameKind.free)∈scope.names) (e:env.cells.lookup x=some c):(clOf scope env).lookup x=some c:=clGo_has env _ _ x c (.inr h) e
theorem relabel_free {env:Env}:∀{names:List (Str×NameKind)} {x:Str},(∀y∈names,y.2≠.cell)→
    ((names.map fun (n,k)=>if (k==NameKind.free&&env.scope.kind==.function&&env.kindOf n==some .cell) then (n,NameKind.cell) else (n,k)).lookup x=some .cell∨
     (names.map fun (n,k)=>if (k==NameKind.free&&env.scope.kind==.function&&env.kindOf n==some .cell) then (n,NameKind.cell) else (n,k)).lookup x=some .free)→(x,NameKind.free)∈names
  | [],_,_,h=>by simp at h
  | (n,k)::r,x,hc,h=>by
    have ih:=@relabel_free env r x fun y hy=>hc y (List.mem_cons_of_mem _ hy)
    have hk:k≠.cell:=hc (n,k) List.mem_cons_self
    simp only [List.map_cons] at h
    by_cases q:(k==NameKind.free&&env.scope.kind==.function&&env.kindOf n==some .cell)=true
    · rw [if_pos q] at h
      simp only [List.lookup_cons] at h
      cases b:x==n with
      | true=>
        have:k = .free:=by simp only [Bool.and_eq_true] at q;exact eq_of_beq q.1.1
        subst this
        rw [eq_of_beq b]
        exact List.mem_cons_self
      | false=>rw [b] at h;exact List.mem_cons_of_mem _ (ih h)
    · rw [if_neg q] at h
      simp only [List.lookup_cons] at h
      cases b:x==n with
      | true=>
        rw [b] at h
        rcases h with h | h
        · exact absurd (Option.some.inj h) hk
        · have:k = .free:=Option.some.inj h
          subst this
          rw [eq_of_beq b]
          exact List.mem_cons_self
      | false=>rw [b] at h;exact List.mem_cons_of_mem _ (ih h)
theorem relabel_vis {env:Env}:∀{names:List (Str×NameKind)} {x:Str},names.lookup x=some .free→
    ((names.map fun (n,k)=>if (k==NameKind.free&&env.scope.kind==.function&&env.kindOf n==some .cell) then (n,NameKind.cell) else (n,k)).lookup x=some .cell∨
     (names.map fun (n,k)=>if (k==NameKind.free&&env.scope.kind==.function&&env.kindOf n==some .cell) then (n,NameKind.cell) else (n,k)).lookup x=some .free)
  | [],_,h=>by simp at h
  | (n,k)::r,x,h=>by
    have ih:=@relabel_vis env r x
    simp only [List.map_cons]
    simp only [List.lookup_cons] at h
    by_cases q:(k==NameKind.free&&env.scope.kind==.function&&env.kindOf n==some .cell)=true
    · rw [if_pos q]
      simp only [List.lookup_cons]
      cases b:x==n with
      | true=>exact .inl rfl
      | false=>rw [b] at h;exact ih h
    · rw [if_neg q]
      simp only [List.lookup_cons]
      cases b:x==n with
      | true=>rw [b] at h;exact .inr h
      | false=>rw [b] at h;exact ih h
def cxComp (X:Cx) (N':List Str) (scope:Scope) (C:Addr) (s3:Shared) (H3:Hp) (fp:List Addr):Cx:=
 { X with N:=N',s₀:=s3,H₀:=H3,env:=compEnvC scope (clOf scope X.env) C X.env,outer:=X.stack,stack:=X.stack,ex:=fp,fn:=fun _=>false,pn:=[],xe:=fun _ _=>False }
def capS (t:Nat) (cap:List Nat) (σ:St):St:=List.replicate t none++cap.map fun k=>(σ[k]?).join
def compW (J:It) (D:Addr) (g:TG) (te:TE) (Q:VK) (σ:St) (H:Hp):Prop:=∃W:Nat→Nat→St→Hp→Prop,(∃m,W 0 m σ H)∧∀i m σ' H',W i m σ' H'→
 (J.stop i H'∧Q (.ref D) H')∨(J.go i H'∧∀x H2,J.yld i H' x H2→g x σ' H2 fun σ3 H3=>te σ3 H3 fun y H4=>∃ys,H4 D=some (.lst ys)∧ys.length<sizeLine∧∃m',m'<m∧W (i+1) m' σ3 (upd H4 D (.lst (ys++[y]))))
def tComp (t:Nat) (cap:List Nat) (wi:TI) (g:TG) (te:TE):TE:=fun σ H Q=>wi σ H fun J H1=>∀D,H1 D=none→compW J D g te Q (capS t cap σ) (upd H1 D (.lst []))
structure CompOk (X:Cx) (N':List Str) (scope:Scope) (t:Nat) (cap:List Nat):Prop where
 kind:scope.kind = .function
 cell:∀y∈scope.names,y.2≠.cell
 names:∀y∈scope.names,y.2 = .local→scope.names.lookup y.1=some .local
 free:∀y∈scope.names,y.2 = .free→(X.env.kindOf y.1=some .cell∨X.env.kindOf y.1=some .free)
 len:N'.length=t+cap.length
 caps:∀(j k:Nat),cap[j]? = some k→∃x,N'[t+j]? = some x∧X.N[k]? = some x∧scope.names.lookup x=some .free
section
variable {X:Cx}
theorem comp_enter {pins:List (Addr×Obj)} {σ:St} {H3:Hp} {s3:Shared} {N':List Str} {scope:Scope} {t:Nat} {cap:List Nat} {fp:List Addr} {h₁:Heap} {tk:Nat} (S:CompOk X N' scope t cap) (I3:Inv X pins σ H3 s3)
  (hf:∀b∈fp,FpOk X pins H3 b) (hob:∀b∈fp,∃o,s3.heap.get? b=some o) (hns:h₁.Ns s3.heap.objs.size fun _=>none) (k:∀b o,s3.heap.get? b=some o→h₁.get? b=some o) :
  Inv (cxComp X N' scope s3.heap.objs.size s3 H3 fp) [] (capS t cap σ) H3 { s3 with heap:=h₁,toks:=tk }:=by
 have cellOld:∀{x:Str} {c:Addr},(clOf scope X.env).lookup x=some c→X.env.cells.lookup x=some c:=fun e=>clOf_sub e
 have isCellK:∀{c:Addr} {v:Option Value},s3.heap.IsCell c v→h₁.IsCell c v:=fun ⟨o,e,d⟩=>⟨o,k _ _ e,d⟩
 have memOf:∀{x:Str},scope.names.lookup x=some .free→(x,NameKind.free)∈scope.names:=fun e=>PySem.mem_of_lookup e
 refine ⟨⟨I3.mod,S.kind,I3.ok.glob,I3.ok.blt,Nat.le_refl _,?_,?_,?_,I3.ok.hd,I3.ok.frames,.inl rfl,?_,I3.bs,Nat.le_trans I3.ok.bsz I3.sz,?_,?_,I3.stack,I3.stkFree⟩,
  rfl,I3.bare,Un.kept k,⟨_,hns,?_⟩,?_,?_,?_,?_,I3.hok.kept k,?_⟩
 ·intro x y c h1 h2
  exact I3.ok.inj x y c (cellOld h1) (cellOld h2)
 ·intro x hx
  have hm:(x,NameKind.free)∈scope.names:=relabel_free S.cell hx
  obtain ⟨c,hc⟩:=I3.ok.has x (S.free _ hm rfl)
  exact ⟨c,clOf_has hm hc⟩
 ·intro x c h
  cases h
 ·intro b hb
  obtain ⟨o,ho⟩:=hob b hb
  exact ⟨Nat.ne_of_lt (Heap.lt_size ho),fun x c e=>(hf b hb).2.2.2.2.1 x c (cellOld e)⟩
 ·intro b o e hb
  rcases (hf b hb).2.2.2.1 with z | z
  ·exact I3.ok.noex b o e z
  ·exact absurd (Nat.lt_of_lt_of_le (Nat.lt_of_lt_of_le (Heap.lt_size e) I3.ok.bsz) z) (Nat.lt_irrefl _)
 ·intro b hb hz
  rcases List.mem_cons.mp (I3.stkSub b hz) with z | z
  ·exact (hf b hb).2.1 z
  ·exact (hf b hb).2.2.1 z
 ·intro i x v e1 e2 e3
  have ht:t≤i:=by
   rcases Nat.lt_or_ge i t with q | q
   ·unfold capS at e2
    rw [List.getElem?_append_left (by simpa using q),List.getElem?_replicate] at e2
    split at e2<;>cases e2
   ·exact q
  obtain ⟨j,rfl⟩:∃j,i=t+j:=⟨i-t,by omega⟩
  unfold capS at e2
  rw [List.getElem?_append_right (by simp),List.length_replicate,Nat.add_sub_cancel_left,List.getElem?_map] at e2
  cases q:cap[j]? with
  | none=>rw [q] at e2;cases e2
  | some m=>
   rw [q] at e2
   have e2':(σ[m]?).join=some v:=Option.some.inj e2
   have e2'':σ[m]? = some (some v):=by
    cases z:σ[m]? with
    | none=>rw [z] at e2';cases e2'
    | some w=>rw [z] at e2';have:w=some v:=e2';rw [this]
   obtain ⟨x',c1,c2,c3⟩:=S.caps j m q
   have ex:x'=x:=by
    have e1':N'[t+j]? = some x:=e1
    rw [c1] at e1';exact Option.some.inj e1'
   subst ex
   have hk:=S.free _ (memOf c3) rfl
   obtain ⟨mm,hn,hl⟩:=I3.loc
   obtain ⟨u,r,L⟩:=hl m x' v c2 e2'' (by rcases hk with z | z;exact .inr (.inl z);exact .inr (.inr z))
   refine ⟨u,r,?_⟩
   rcases L with ⟨z,_⟩ | ⟨_,c,hc,hcell⟩
   ·rcases hk with y | y<;>(have y':X.env.kindOf x'=_:=y;rw [z] at y';cases y')
   ·exact .inr ⟨relabel_vis c3,c,clOf_has (memOf c3) hc,isCellK hcell⟩
 ·intro x c e
  obtain ⟨v,z⟩:=I3.cell x c (cellOld e)
  exact ⟨v,isCellK z⟩
 ·exact I3.hok.fresh (Nat.le_refl _)
 ·intro x c e
  exact I3.freeC x c (cellOld e)
 ·intro p hp
  exact absurd (show p∈([]:List (Addr×Obj)) from hp) (by simp)
 ·show (capS t cap σ).length=N'.length
  unfold capS
  rw [S.len,List.length_append,List.length_replicate,List.length_map]
theorem pe_comp {target elt iter:Expr} {scope:Scope} {pos:Pos} {N':List Str} {cap:List Nat} {t:Nat} {wi:TI} {g:TG} {te:TE} (hc:X.calm=true) (S:CompOk X N' scope t cap) (hi:PI X target iter wi)
  (hg:∀C s3 H3 fp,PG (cxComp X N' scope C s3 H3 fp) target g) (he:∀C s3 H3 fp,PE (cxComp X N' scope C s3 H3 fp) elt te) (hs:∀x,foldedSetIterable iter X.env x=pure x:=by intro _;rfl) :
  PE X (.ListComp elt [⟨target,iter,[],0⟩] scope pos) (tComp t cap wi g te):=by
 intro pins s σ H Q I h
 rw [eval_ListComp]
 refine wpAny_comprehension_free (use:=none) (cl:=clOf scope X.env) rfl hs (closureFor_cl fun y hy hf=>I.ok.has y.1 (S.free y hy hf)) S.kind S.names (thn (hi pins s σ H _ I h) fun v s1 h1=>thn h1 fun itv s2 h2=>?_)
 obtain ⟨it,fp,tn,J,H2,e,I2,T,st2,f2,h2⟩:=h2
 subst e
 refine wpAny_newObj_type (wpAny_newFunctionEnv S.cell (by intro y hy;simp at hy) (fun h₁ hns₁ hsb₁=>?_) S.kind)
 dsimp only at hns₁ hsb₁ ⊢
 obtain ⟨s3,hs3⟩:∃s3:Shared,s3 = { s2 with heap:=s2.heap.push { cls:=.type "list",dict:=none,data:=.seq ([]:List Value).toArray } }:=⟨_,rfl⟩
 have hD:H2 s2.heap.objs.size=none:=I2.hok.fresh (Nat.le_refl _)
 have I3:Inv X pins σ (upd H2 s2.heap.objs.size (.lst [])) s3:=by
  rw [hs3]
  exact I2.laid (t':=s2.toks) (fun b u e=>Heap.get?_push_of_some _ e) (Nat.le_refl _) ⟨Nat.zero_le _,[],0,.nil,Heap.get?_push_size _ rfl⟩
 have hsz3:s3.heap.objs.size=s2.heap.objs.size+1:=by rw [hs3];exact Heap.size_push ..
 have old3:∀b o,s2.heap.get? b=some o→s3.heap.get? b=some o:=fun b o e=>by rw [hs3];exact Heap.get?_push_of_some _ e
 have hC:(s2.heap.push { cls:=.type "list",dict:=none,data:=.seq ([]:List Value).toArray }).objs.size=s3.heap.objs.size:=by rw [hs3]
 have f3:∀b∈fp,FpOk X pins (upd H2 s2.heap.objs.size (.lst [])) b:=fun b hb=>by
  obtain ⟨o,ho,_⟩:=T.obj _ _ st2 b hb
  refine ⟨?_,(f2 b hb).2⟩
  rw [upd_ne (Nat.ne_of_lt (Heap.lt_size ho))]
  exact (f2 b hb).1
 have ob3:∀b∈fp,∃o,s3.heap.get? b=some o:=fun b hb=>by
  obtain ⟨o,ho,_⟩:=T.obj _ _ st2 b hb
  exact ⟨o,old3 b o ho⟩
 have k1:∀b o,s3.heap.get? b=some o→h₁.get? b=some o:=fun b o e=>by
  refine hsb₁.extBut b o ?_ ?_
  ·rw [hC];exact Nat.ne_of_lt (Heap.lt_size e)
  ·rw [hs3] at e;exact Heap.get?_push_of_some _ e
 have hns:h₁.Ns s3.heap.objs.size fun _=>none:=by
  rw [←hC];exact hns₁
 have I4:=comp_enter (tk:=s2.toks+([]:List (Str×Value)).length) S I3 f3 ob3 hns k1
 have st4:tn 0 h₁:=T.keep _ _ _ st2 fun b hb o e=>k1 b o (old3 b o e)
 obtain ⟨W,⟨m0,w0⟩,turn⟩:=h2 _ hD
 -- the block's context
 obtain ⟨X',hX'⟩:∃X':Cx,X'=cxComp X N' scope s3.heap.objs.size s3 (upd H2 s2.heap.objs.size (.lst [])) fp:=⟨_,rfl⟩
 have hg':PG X' target g:=by rw [hX'];exact hg _ _ _ _
 have he':PE X' elt te:=by rw [hX'];exact he _ _ _ _
 have stat:∀{H':Hp},(∀b∈fp,H' b=none)→∀b∈fp,FpOk X' [] H' b:=fun hn b hb=>by
  obtain ⟨o,ho⟩:=ob3 b hb
  rw [hX']
  refine ⟨hn b hb,Nat.ne_of_lt (Heap.lt_size ho),?_,.inl hb,fun x c e=>(f3 b hb).2.2.2.2.1 x c (clOf_sub e),fun p hp=>absurd (show p∈([]:List (Addr×Obj)) from hp) (by simp)⟩
  intro hz
  rcases List.mem_cons.mp (I3.stkSub b hz) with z | z
  ·exact (f3 b hb).2.1 z
  ·exact (f3 b hb).2.2.1 z
 have hcalm:X'.calm=true:=by rw [hX'];exact hc
 have loop:codeAny (model X.prog X.w) X.A (.compLoop (.ListComp elt [⟨target,iter,[],0⟩] scope pos) 0 (.ref it) (.ref s2.heap.objs.size) (compEnvC scope (clOf scope X.env) s3.heap.objs.size X.env))
   (compPost (model X.prog X.w) X.A X.xe none (EP X pins σ Q) (.ref s2.heap.objs.size) s3.heap.objs.size) { s3 with heap:=h₁,toks:=s2.toks+([]:List (Str×Value)).length }:=by
  refine codeAny_compLoop_go (fun n s'=>∃i σ' H',Inv X' [] σ' H' s'∧tn i s'.heap∧(∀b∈fp,H' b=none)∧W i n σ' H') ?_ m0 ⟨0,capS t cap σ,_,by rw [hX'];exact I4,st4,fun b hb=>(f3 b hb).1,w0⟩
  rintro n s5 ⟨i,σ5,H5,I5,st5,fr5,w5⟩
  rcases turn i n σ5 H5 w5 with ⟨stop,qn⟩ | ⟨go,step⟩
  ·have q:=T.done X' (by rw [hX'];rfl) (by rw [hX'];rfl) (by rw [hX'];rfl) hcalm i [] s5 σ5 H5 (fun _ _=>False) I5 (stat fr5) st5 stop
   have eA:X'.A=X.A:=by rw [hX'];rfl
   rw [eA] at q
   refine thn q fun r s6 ⟨hr,I6⟩=>?_
   subst hr
   obtain ⟨m,hn,_⟩:=I6.loc
   have hn':s6.heap.Ns s3.heap.objs.size m:=by rw [hX'] at hn;exact hn
   refine ⟨m,hn',fun h' hs'=>?_⟩
   have un6:Un (frs X.stack) fp (upd H2 s2.heap.objs.size (.lst [])) H5 s3.heap s6.heap:=by have:=I6.base;rw [hX'] at this;exact this
   have hok6:HOk X.prog X.w H5 s6.heap:=by have:=I6.hok;rw [hX'] at this;exact this
   have free6:H5 s3.heap.objs.size=none:=by have:=I6.free;rw [hX'] at this;exact this
   have kp:∀b o,b≠s3.heap.objs.size→s6.heap.get? b=some o→h'.get? b=some o:=fun b o hb e=>hs'.extBut b o hb e
   have neC:∀{b:Addr} {o:Obj},s3.heap.get? b=some o→b≠s3.heap.objs.size:=fun e=>Nat.ne_of_lt (Heap.lt_size e)
   have un7:Un (frs X.stack) fp (upd H2 s2.heap.objs.size (.lst [])) H5 s3.heap h':=
    ⟨fun b o e n1 n2 n3=>kp b o (neC e) (un6.keep b o e n1 n2 n3),fun b o e n1 n2 n3=>by obtain ⟨sl,z⟩:=un6.slot b o e n1 n2 n3;exact ⟨sl,kp b _ (neC e) z⟩,un6.free,
     fun b o e n3=>by obtain ⟨o',z⟩:=un6.there b o e n3;exact ⟨o',kp b _ (neC e) z⟩,un6.tups,un6.frzs,un6.tbls⟩
   have hok7:HOk X.prog X.w H5 h':=fun b ob e=>by
    refine (hok6 b ob e).stay (fun c w' hc' q=>kp c w' ?_ q) (fun _ q=>q) fun _ _ q=>q
    rintro rfl
    rcases hc' with rfl | hc'
    ·rw [free6] at e;cases e
    ·rw [free6] at hc';cases hc'
   refine ⟨.ref s2.heap.objs.size,H5,I3.call' (s':={ s6 with heap:=h' }) (ch:=fp) ?_ un7 hok7 I6.bare (fun b hb=>⟨(f3 b hb).2.2.2.1,(f3 b hb).2.1,(f3 b hb).2.2.2.2.1,(f3 b hb).2.2.2.2.2⟩),rfl,qn⟩
   show s6.os=s3.os
   have:=I6.os
   rw [hX'] at this
   exact this
  ·have q:=T.item X' (by rw [hX'];rfl) (by rw [hX'];rfl) (by rw [hX'];rfl) hcalm i [] s5 σ5 H5 (fun _ _=>False) I5 (stat fr5) st5 go
   have eA:X'.A=X.A:=by rw [hX'];rfl
   have eP:X'.prog=X.prog:=by rw [hX'];rfl
   have eW:X'.w=X.w:=by rw [hX'];rfl
   have eE:X'.env=compEnvC scope (clOf scope X.env) s3.heap.objs.size X.env:=by rw [hX'];rfl
   have eX:X'.xe=fun _ _=>False:=by rw [hX'];rfl
   rw [eA] at q
   refine thn q fun r s6 ⟨u,hr,h6⟩=>?_
   subst hr
   refine thn h6 fun _ s7 ⟨x,H7,I7,r7,y7,st7,fr7⟩=>?_
   have I7':=I7.pinned (stat fr7) (T.obj _ _ st7)
   have q8:=hg' _ s7 σ5 H7 x u _ I7' r7 (step x H7 y7)
   rw [eA,eP,eW,eE,eX] at q8
   refine thn q8 fun _ s8 ⟨σ8,H8,I8,w8⟩=>?_
   have q9:=he' _ s8 σ8 H8 _ I8 w8
   rw [eA,eP,eW,eE,eX] at q9
   refine thn q9 fun y s9 ⟨v9,H9,I9,r9,ys,hD9,hlt,m',hm,w9⟩=>?_
   have q10:=mt_append (X:=X') _ s9 σ8 H9 (.ref s2.heap.objs.size) [v9] (.ref s2.heap.objs.size) [y] (fun _ H10=>H10=upd H9 s2.heap.objs.size (.lst (ys++[v9]))) I9 rfl (.cons r9 .nil) ⟨_,ys,v9,rfl,rfl,hD9,hlt,rfl⟩
   rw [eA,eP,eW,eX] at q10
   refine thn q10 fun _ s10 ⟨v10,H10,I10,r10,e10⟩=>?_
   subst e10
   refine ⟨m',hm,i+1,σ8,_,I10.unpinned,T.keep _ _ _ st7 fun b hb o e=>(I10.pin (b,o) (List.mem_append_right _ (List.mem_append_right _ (mem_pinsAt hb e)))).1,fun b hb=>?_,w9⟩
   obtain ⟨o,e,d⟩:=T.obj _ _ st7 b hb
   exact (I10.pin (b,o) (List.mem_append_right _ (List.mem_append_right _ (mem_pinsAt hb e)))).2.1
 have es:({ s2 with heap:=h₁,toks:=s2.toks+([]:List (Str×Value)).length }:Shared) = { s3 with heap:=h₁,toks:=s2.toks+([]:List (Str×Value)).length }:=by rw [hs3]
 rw [es,hC]
 exact codeAny_compStart_list loop (T.self _ 0 _ _ _ st4 loop)
end
section
variable {X:Cx} {pos:Pos}
structure Fn (P:Program) (w:World) (K:PySem.W.Frag) (mg:Str→Option Value) (base:Heap) (k:Nat) (x:Str) (ps:List Str) (sp:Sp):Prop where
 ex:∃f fd,FnOk P w K mg base CX0 k f fd ps sp∧mg x=some (.ref f)∧PySem.W.keepIn K (.ref f)=true∧Binds K fd ps []
theorem pe_fn {k j:Nat} {x:Str} {ps:List Str} {sp:Sp} {e:Expr} {es:List Expr} {t:TA} {p:Pos} (F:Fn X.prog X.w X.K X.mg X.base k x ps sp) (hr:Room j X.A) (hk:k≤j) (hg:Gl X x) (ha:PA X (e::es) t) (hdb:(x==("__debug__":Str))=false:=by decide)
  (he:starEach (e::es) X.env=(false,eval e X.env)::starEach es X.env:=by rfl) (hpl:(backTo pos (starEach es X.env)).any (·.1)=false:=by rfl):PE X (.Call (.Name x p) (e::es) [] pos) (tCall sp [] E0 t):=by
 obtain ⟨f,fd,F,hm,hkp,hb⟩:=F.ex
 exact pe_call F (hr.mono hk) hg hm hkp hb .nil pass0 ha hdb he hpl
end
def isStar:Expr→Bool
 | .Starred _ _=>true
 | _=>false
theorem star_ok {e:Expr} {es:List Expr} {env:Env} (h:isStar e=false):starEach (e::es) env=(false,eval e env)::starEach es env:=by
 cases e<;>first | rfl | (simp [isStar] at h)
def noStar:List Expr→Bool
 | []=>true
 | e::es=>!isStar e&&noStar es
theorem star_any {pos:Pos} {env:Env}:∀{es:List Expr},noStar es=true→(backTo pos (starEach es env)).any (·.1)=false
 | [],_=>rfl
 | e::es,h=>by
  have h1:isStar e=false:=by simp only [noStar,Bool.and_eq_true,Bool.not_eq_true'] at h;exact h.1
  have h2:noStar es=true:=by simp only [noStar,Bool.and_eq_true] at h;exact h.2
  have ih:=star_any (pos:=pos) (env:=env) h2
  rw [star_ok h1]
  simp only [backTo,List.map_cons,List.any_cons,Bool.false_or] at ih ⊢
  exact ih
section
variable {X:Cx} {pos:Pos} {e:Expr} {es:List Expr} {te:TE} {t:TA}
theorem pc (ha:PE X e te) (hr:PA X es t) (hs:isStar e=false:=by rfl):PA X (e::es) (tCons te t):=pa_cons ha hr (star_ok hs)
theorem pe_fnS {k j:Nat} {x:Str} {ps:List Str} {sp:Sp} {p:Pos} (F:Fn X.prog X.w X.K X.mg X.base k x ps sp) (hr:Room j X.A) (hk:k≤j) (hg:Gl X x) (ha:PA X (e::es) t) (hdb:(x==("__debug__":Str))=false:=by decide)
  (hs:noStar (e::es)=true:=by rfl):PE X (.Call (.Name x p) (e::es) [] pos) (tCall sp [] E0 t):=
 pe_fn F hr hk hg ha hdb (star_ok (by simp only [noStar,Bool.and_eq_true,Bool.not_eq_true'] at hs;exact hs.1)) (star_any (by simp only [noStar,Bool.and_eq_true] at hs;exact hs.2))
theorem pe_callBS {x:Str} {p:Pos} {id:String} {r:List V→Hp→VK→Prop} (hc:CallR X (.builtin id) r) (hg:Gl X x) (hm:X.mg x=none) (hv:bootBuiltins x=some (.builtin id)) (ha:PA X (e::es) t) (hn:x≠"__name__":=by decide) (hdb:(x==("__debug__":Str))=false:=by decide)
  (hs:noStar (e::es)=true:=by rfl):PE X (.Call (.Name x p) (e::es) [] pos) (tCB r t):=
 pe_callB hc hg hm hv ha hn hdb (star_ok (by simp only [noStar,Bool.and_eq_true,Bool.not_eq_true'] at hs;exact hs.1)) (star_any (by simp only [noStar,Bool.and_eq_true] at hs;exact hs.2))
theorem pe_callTyS {x:Str} {p:Pos} {T:String} {r:List V→Hp→VK→Prop} (hc:CallR X (.type T) r) (hg:Gl X x) (hm:X.mg x=none) (hv:bootBuiltins x=some (.type T)) (ha:PA X (e::es) t) (hn:x≠"__name__":=by decide) (hdb:(x==("__debug__":Str))=false:=by decide)
  (hs:noStar (e::es)=true:=by rfl):PE X (.Call (.Name x p) (e::es) [] pos) (tCB r t):=
 pe_callTy hc hg hm hv ha hn hdb (star_ok (by simp only [noStar,Bool.and_eq_true,Bool.not_eq_true'] at hs;exact hs.1)) (star_any (by simp only [noStar,Bool.and_eq_true] at hs;exact hs.2))
end
structure QE (X:Cx) (e:Expr) (t:TE):Prop where
 h:PE X e t
structure QT (X:Cx) (e:Expr) (t:TT):Prop where
 h:PT X e t
structure QW (X:Cx) (e:Expr) (t:TT):Prop where
 h:PW X e t
structure QA (X:Cx) (es:List Expr) (t:TA):Prop where
 h:PA X es t
structure QS (X:Cx) (st:Stmt) (t:TS):Prop where
 h:PS X st t
structure QB (X:Cx) (st:List Stmt) (t:TS):Prop where
 h:PSs X st t
structure QG (X:Cx) (e:Expr) (t:TG):Prop where
 h:PG X e t
structure QGs (X:Cx) (es:List Expr) (t:TGs):Prop where
 h:PGs X es t
structure QI (X:Cx) (tg e:Expr) (t:TI):Prop where
 h:PI X tg e t
structure QO (X:Cx) (e:Option Expr) (t:TO):Prop where
 h:PO X e t
def compChk (sc scope:Scope) (N N':List Str) (t:Nat) (cap:List Nat):Bool:=
 decide (scope.kind = .function)&&scope.names.all (fun y=>decide (y.2≠.cell))&&scope.names.all (fun y=>decide (y.2 = .local→scope.names.lookup y.1=some .local)) &&
 scope.names.all (fun y=>decide (y.2 = .free→(sc.names.lookup y.1=some .cell∨sc.names.lookup y.1=some .free)))&&decide (N'.length=t+cap.length) &&
 (List.range cap.length).all (fun j=>match cap[j]?,N'[t+j]? with | some k,some x=>decide (N[k]? = some x∧scope.names.lookup x=some .free) | _,_=>false)
theorem CompOk.of {X:Cx} {N':List Str} {scope:Scope} {t:Nat} {cap:List Nat} (h:compChk X.env.scope scope X.N N' t cap=true):CompOk X N' scope t cap:=by
 simp only [compChk,Bool.and_eq_true,List.all_eq_true,decide_eq_true_eq] at h
 obtain ⟨⟨⟨⟨⟨h1,h2⟩,h3⟩,h4⟩,h5⟩,h6⟩:=h
 refine ⟨h1,h2,h3,h4,h5,fun j k e=>?_⟩
 have hj:j<cap.length:=(List.getElem?_eq_some_iff.mp e).1
 have h:=h6 j (List.mem_range.mpr hj)
 rw [e] at h
 cases q:N'[t+j]? with
 | none=>rw [q] at h;cases h
 | some x=>
  rw [q] at h
  have h':=of_decide_eq_true h
  exact ⟨x,rfl,h'.1,h'.2⟩
section
variable {X:Cx} {pos:Pos} {a b c e l o i value:Expr} {es:List Expr} {ta tb te to ti tl:TE} {tc tA tB':TT} {t u tbd:TS} {tr:TA} {g:TG} {gs:TGs} {wi:TI} {st:Stmt} {sts body b1 b2:List Stmt} {rest:List Expr}
theorem qb_nil:QB X [] tNext:=⟨pss_nil⟩
theorem qb_cons (h1:QS X st t) (h2:QB X sts u):QB X (st::sts) (tSeq t u):=⟨pss_cons h1.h h2.h⟩
theorem qb_one (h1:QS X st t):QB X [st] t:=⟨pss_one h1.h⟩
theorem qs_ret (h:QE X e te):QS X (.Return (some e) pos) (tRet te):=⟨ps_ret h.h⟩
theorem qs_if (hc:QT X c tc) (ha:QB X b1 t) (hb:QB X b2 u):QS X (.If c b1 b2 pos) (tIfS tc t u):=⟨ps_if hc.h ha.h hb.h⟩
theorem qs_while (hp:PassesOwn (model X.prog X.w) X.A X.env X.xe) (hc:QT X c tc) (hb:QB X body tbd):QS X (.While c body [] pos) (tWhile tc tbd):=⟨ps_while hp hc.h hb.h⟩
theorem qs_for {tg iter:Expr} (hp:PassesOwn (model X.prog X.w) X.A X.env X.xe) (hc:X.calm=true) (hi:QI X tg iter wi) (hg:QG X tg g) (hb:QB X body tbd) (hs:∀x,foldedSetIterable iter X.env x=pure x:=by intro _;rfl) :
  QS X (.For tg iter body [] pos) (tFor wi g tbd):=⟨ps_for hp hc hi.h hg.h hb.h hs⟩
theorem qs_expr (he:QE X e te) (hs:swapsWith e none pos.line X.env=pure false:=by rfl):QS X (.Expr e pos) (tDrop te):=⟨ps_expr he.h hs⟩
theorem qs_set {i:Nat} {x:Str} {pos':Pos} (hN:X.N.Nodup) (hi:X.N[i]? = some x) (hx:Loc X.env.scope x) (he:QE X e te) (hs:swapsWith e (some (.Name x pos')) pos.line X.env=pure false:=by rfl)
  (hf:X.fn x=true∨X.env.scope.names.lookup x=some .local:=by first | exact .inl rfl | exact .inr rfl | assumption):QS X (.Assign [.Name x pos'] e pos) (tAsg te (gName i)):=⟨ps_set hN hi hx he.h hs hf⟩
theorem qs_asg {tg:Expr} (he:QE X e te) (hg:QG X tg g) (hs:swapsWithSole [tg] e pos.line X.env=pure false:=by rfl) (hw:swappedStores [tg] e X.env=pure none:=by rfl)
  (h1:(assignEach [tg] X.env).map (·.2)=[assign tg X.env]:=by rfl):QS X (.Assign [tg] e pos) (tAsg te g):=⟨ps_asg he.h hg.h hs hw h1⟩
theorem qs_par {i j:Nat} {x y:Str} {px py pt:Pos} {kt k2 pt2} (hc:X.calm=true) (hN:X.N.Nodup) (hi:X.N[i]? = some x) (hj:X.N[j]? = some y) (hij:i≠j)
  (hx:X.env.scope.names.lookup x=some .local) (hy:X.env.scope.names.lookup y=some .local) (ha:QA X [a,b] tr)
  (hw:swappedStores [.Tuple [.Name x px,.Name y py] kt pt] (.Tuple [a,b] k2 pt2) X.env=pure (some [x,y]))
  (hs:swapsWithSole [.Tuple [.Name x px,.Name y py] kt pt] (.Tuple [a,b] k2 pt2) pos.line X.env=pure false:=by rfl) :
  QS X (.Assign [.Tuple [.Name x px,.Name y py] kt pt] (.Tuple [a,b] k2 pt2) pos) (tPar i j tr):=⟨ps_par hc hN hi hj hij hx hy ha.h hw hs⟩
theorem qg_name {i:Nat} {x:Str} (hN:X.N.Nodup) (hi:X.N[i]? = some x) (hx:Loc X.env.scope x) (hf:X.fn x=true∨X.env.scope.names.lookup x=some .local:=by first | exact .inl rfl | exact .inr rfl | assumption):QG X (.Name x pos) (gName i):=⟨pg_name hN hi hx hf⟩
theorem qgs_nil:QGs X [] gNil:=⟨pgs_nil⟩
theorem qgs_cons (h1:QG X e g) (h2:QGs X es gs) (hs:(assignEach (e::es) X.env).map (·.2)=assign e X.env::(assignEach es X.env).map (·.2):=by rfl):QGs X (e::es) (gCons g gs):=⟨pgs_cons h1.h h2.h hs⟩
theorem qg_tup {k n:Nat} (hc:X.calm=true) (h:QGs X es gs) (hn:(assignEach es X.env).length=n:=by rfl) (hst:(assignEach es X.env).findIdx? (·.1)=none:=by rfl):QG X (.Tuple es k pos) (gTup X.K n gs):=⟨pg_tup hc h.h hn hst⟩
theorem qg_sub {ts:TSet} (ho:QE X o to) (hi:QE X i ti) (hs:PSet X ts)
  (ha:∀v,assign (.Subscript o i pos) X.env v=(do
   let ov ←holding [v] (eval o X.env)
   let iv ←holding [v,ov] (eval i X.env)
   standAt pos
   holding [v,ov,iv] (setItem ov iv v)
   release [v,ov,iv] []):=by intro _;rfl):QG X (.Subscript o i pos) (gSub to ti ts):=⟨pg_sub ho.h hi.h hs ha⟩
theorem qi_range1 {tg:Expr} {p:Pos} (hg:Gl X "range") (hm:X.mg "range" = none) (ha:QA X [a] tr) (hs:isStar a=false:=by rfl):QI X tg (.Call (.Name "range" p) [a] [] pos) (iRng1 tr):=⟨pi_range1 hg hm ha.h (star_ok hs)⟩
theorem qi_enum {p tpos:Pos} {elts:List Expr} {x1} (hg:Gl X "enumerate") (hm:X.mg "enumerate" = none) (ha:QA X [a] tr) (hs:isStar a=false:=by rfl):QI X (.Tuple elts x1 tpos) (.Call (.Name "enumerate" p) [a] [] pos) (iEnum X.K tr):=⟨pi_enum hg hm ha.h (star_ok hs)⟩
theorem qi_list {tg:Expr} (hl:QE X l tl):QI X tg l (iList X.K tl):=⟨pi_list hl.h⟩
theorem qi_tup {tg:Expr} (hl:QE X l tl):QI X tg l (iTup X.K tl):=⟨pi_tup hl.h⟩
theorem qa_nil:QA X [] tNil:=⟨pa_nil⟩
theorem qc (ha:QE X e te) (hr:QA X es tr) (hs:isStar e=false:=by rfl):QA X (e::es) (tCons te tr):=⟨pc ha.h hr.h hs⟩
theorem qe_int {i j pos}:QE X (.Constant (.int i) j pos) (tC (.int i)):=⟨pe_int⟩
theorem qe_bl {b j pos}:QE X (.Constant (.bool b) j pos) (tC (.bl b)):=⟨pe_bl⟩
theorem qe_non {j pos}:QE X (.Constant .none j pos) (tC .non):=⟨pe_non⟩
theorem qe_str {x j pos}:QE X (.Constant (.str x) j pos) (tC (.str x)):=⟨pe_str⟩
theorem qe_bltn {x:Str} {v:V} {u:Value} (hg:Gl X x) (hm:X.mg x=none) (hv:bootBuiltins x=some u) (r:RelV v u) (hn:x≠"__name__":=by decide) (hd:(x==("__debug__":Str))=false:=by decide):QE X (.Name x pos) (tC v):=⟨pe_bltn hg hm hv r hn hd⟩
theorem qv (i:Nat) {x:Str} (hN:X.N[i]? = some x:=by rfl) (hv:Vis X.env.scope x:=by first | exact Or.inl rfl | exact Or.inr (Or.inl rfl) | exact Or.inr (Or.inr rfl)) (hd:(x==("__debug__":Str))=false:=by decide)
  (hcd:(x==("__classdict__":Str))=false:=by decide):QE X (.Name x pos) (tVar i):=⟨pe_var hN hv hd hcd⟩
theorem qe_op {op:Operator} {r:R2} (ho:OpR X (binaryOp op) r) (ha:QE X a ta) (hb:QE X b tb):QE X (.BinOp a op b pos) (tOp r ta tb):=⟨pe_op ho ha.h hb.h⟩
theorem qe_un {op:UnaryOp} {r:V→Hp→VK→Prop} (ho:UnR X (unaryOp op) r) (ha:QE X a ta):QE X (.UnaryOp op a pos) (tUn r ta):=⟨pe_un ho ha.h⟩
theorem qe_not (ha:QE X a ta):QE X (.UnaryOp .Not a pos) (tNotV ta):=⟨pe_not ha.h⟩
theorem qe_cmpR {op:CmpOp} {r:R2} (ho:OpR X (compareOp op) r) (ha:QE X a ta) (hb:QE X b tb) (hm:behindInMarks op b=false):QE X (.Compare a [op] [b] pos) (tOp r ta tb):=⟨pe_cmpR ho ha.h hb.h hm⟩
theorem qe_and (ha:QE X a ta) (hb:QE X (.BoolOp .And (b::rest) pos) tb):QE X (.BoolOp .And (a::b::rest) pos) (tAndV ta tb):=⟨pe_and ha.h hb.h⟩
theorem qe_or (ha:QE X a ta) (hb:QE X (.BoolOp .Or (b::rest) pos) tb):QE X (.BoolOp .Or (a::b::rest) pos) (tOrV ta tb):=⟨pe_or ha.h hb.h⟩
theorem qe_one {op} (h:QE X a ta):QE X (.BoolOp op [a] pos) ta:=⟨pe_one h.h⟩
theorem qe_ifExp (hc:QT X c tA) (ha:QE X a ta) (hb:QE X b tb):QE X (.IfExp c a b pos) (tIf tA ta tb):=⟨pe_ifExp hc.h ha.h hb.h⟩
theorem qe_tup {x1} (h:QA X es tr):QE X (.Tuple es x1 pos) (tTup tr):=⟨pe_tup h.h⟩
theorem qe_lst (h:QA X es tr):QE X (.List es pos) (tLst tr):=⟨pe_lst h.h⟩
theorem qe_ix {r:R2} (hr:IxR X r) (ha:QE X a ta) (hb:QE X b tb) (hs:PlainIx b):QE X (.Subscript a b pos) (tOp r ta tb):=⟨pe_ix hr ha.h hb.h hs⟩
theorem qo_none:QO X none tNoPart:=⟨po_none⟩
theorem qo_some (h:QE X e te):QO X (some e) (tPart te):=⟨po_some h.h⟩
theorem qe_slice {r:V→Option Int→Option Int→Hp→VK→Prop} {lo hi:Option Expr} {tlo thi:TO} {p2:Pos} (hr:SlR X r) (he:QE X e te) (hl:QO X lo tlo) (hu:QO X hi thi):QE X (.Subscript e (.Slice lo hi none p2) pos) (tSl r te tlo thi):=⟨pe_slice hr he.h hl.h hu.h⟩
theorem qe_fnS {k j:Nat} {x:Str} {ps:List Str} {sp:Sp} {p:Pos} (F:Fn X.prog X.w X.K X.mg X.base k x ps sp) (hr:Room j X.A) (hk:k≤j) (hg:Gl X x) (ha:QA X (e::es) tr) (hdb:(x==("__debug__":Str))=false:=by decide)
  (hs:noStar (e::es)=true:=by rfl):QE X (.Call (.Name x p) (e::es) [] pos) (tCall sp [] E0 tr):=⟨pe_fnS F hr hk hg ha.h hdb hs⟩
theorem qe_callBS {x:Str} {p:Pos} {id:String} {r:List V→Hp→VK→Prop} (hc:CallR X (.builtin id) r) (hg:Gl X x) (hm:X.mg x=none) (hv:bootBuiltins x=some (.builtin id)) (ha:QA X (e::es) tr) (hn:x≠"__name__":=by decide) (hdb:(x==("__debug__":Str))=false:=by decide)
  (hs:noStar (e::es)=true:=by rfl):QE X (.Call (.Name x p) (e::es) [] pos) (tCB r tr):=⟨pe_callBS hc hg hm hv ha.h hn hdb hs⟩
theorem qe_callTyS {x:Str} {p:Pos} {T:String} {r:List V→Hp→VK→Prop} (hc:CallR X (.type T) r) (hg:Gl X x) (hm:X.mg x=none) (hv:bootBuiltins x=some (.type T)) (ha:QA X (e::es) tr) (hn:x≠"__name__":=by decide) (hdb:(x==("__debug__":Str))=false:=by decide)
  (hs:noStar (e::es)=true:=by rfl):QE X (.Call (.Name x p) (e::es) [] pos) (tCB r tr):=⟨pe_callTyS hc hg hm hv ha.h hn hdb hs⟩
theorem qe_comp {target elt iter:Expr} {scope:Scope} {N':List Str} {cap:List Nat} {t:Nat} (hc:X.calm=true) (S:CompOk X N' scope t cap) (hi:QI X target iter wi)
  (hg:∀C s3 H3 fp,QG (cxComp X N' scope C s3 H3 fp) target g) (he:∀C s3 H3 fp,QE (cxComp X N' scope C s3 H3 fp) elt te) (hs:∀x,foldedSetIterable iter X.env x=pure x:=by intro _;rfl) :
  QE X (.ListComp elt [⟨target,iter,[],0⟩] scope pos) (tComp t cap wi g te):=⟨pe_comp hc S hi.h (fun C s3 H3 fp=>(hg C s3 H3 fp).h) (fun C s3 H3 fp=>(he C s3 H3 fp).h) hs⟩
theorem qt_cmpR {op:CmpOp} {r:R2} (ho:OpR X (compareOp op) r) (ha:QE X a ta) (hb:QE X b tb) (hm:behindInMarks op b=false):QT X (.Compare a [op] [b] pos) (tTest (tOp r ta tb)):=⟨pt_cmpR ho ha.h hb.h hm⟩
theorem qt_not (ha:QT X a tA):QT X (.UnaryOp .Not a pos) (tNot tA):=⟨pt_not ha.h⟩
theorem qt_val (h:QE X e te) (he:∀whole,isTrue e X.env whole=(do let v ←whole;standAt e.pos;holding [v] (truthy v)):=by intro _;rfl):QT X e (tB te):=⟨pt_val h.h he⟩
theorem qw_or1 (ha:QT X a tA):QW X (.BoolOp .Or [a] pos) tA:=⟨pw_or1 ha.h⟩
theorem qw_or (ha:QT X a tA) (hb:QW X (.BoolOp .Or (b::rest) pos) tB'):QW X (.BoolOp .Or (a::b::rest) pos) (tOr tA tB'):=⟨pw_or ha.h hb.h⟩
theorem qt_w (h:QW X e tA):QT X e tA:=⟨h.h.pt⟩
end
section
variable {P:Program} {w:World} {K:PySem.W.Frag} {mg:Str→Option Value} {base:Heap}
theorem Fun.okQ {x qual:Str} {st:Stmt} {f:Addr} {fd:FuncData} {N ps:List Str} {k:Nat} {sp:Sp} (F:Fun K x qual st f fd) (S:FnScope N ps (defScope st)) (len:∀vs H Q E,sp vs H Q E→vs.length=ps.length)
  (hbody:∀(cdv:Value) (A:Around) (outer:List Env) (s:Shared) (H:Hp) (vs:List V) (Q:VK) (E:XK),Room k (A.deeper (envOfC qual (defScope st) s.heap.objs.size f cdv))→sp vs H Q E→
   ∃t,QB (cxOf CX0 P w K mg base N qual (defScope st) f cdv A outer s H E).nox (defBody st) t∧t { nx:=fun _ H'=>Q .non H',rt:=Q } (start N vs) H):FnOk P w K mg base CX0 (k+1) f fd ps sp:=
 F.ok S len fun cdv A outer s H vs Q E hr h=>let ⟨t,h1,h2⟩:=hbody cdv A outer s H vs Q E hr h;⟨t,h1.h,h2⟩
end
section
variable {prog:Program} {w:World} {A:Around} {E:Value→Shared→Prop} {s:Shared}
theorem tupNext_item {it t:Addr} {k:Nat} {items:Array Value} {x:Value} {Q:Value→Shared→Prop} (gi:s.heap.IsTupleIter it t k) (gt:s.heap.IsTuple t items) (gx:items[k]? = some x)
  (gq:∀h',h'.IsTupleIter it t (k+1)→Heap.SameBut it s.heap h'→Q x { s with heap:=h' }):wpAny (model prog w) A (Builtin.SmallTypes.nextOf (.ref it)) Q E s:=by
 obtain ⟨ob,eo,ec,ed⟩:=id gi
 obtain ⟨ot,et,_,nt,edt⟩:=gt
 unfold Builtin.SmallTypes.nextOf
 refine wpAny_bind (wpAny_callSpecial?_slot (name:=Str.ofString "__next__") gi.typeIs F.slot_tuple_iterator_next (wpAny_call_entry F.slot_tuple_iterator_next gi.typeIs F.entry_tuple_iterator_next ?_ (F.args_tuple_iterator_next_1 _)))
 show wpAny _ _ (field (.ref it) 0 >>= _) _ _ _
 refine wpAny_bind (wpAny_field eo ed (x:=.ref t) rfl ?_)
 show wpAny _ _ (if (Value.ref t==Value.none)=true then _ else _) _ _ _
 rw [if_neg (fun hq:(Value.ref t==Value.none)=true=>Bool.false_ne_true hq)]
 show wpAny _ _ (field (.ref it) 1 >>= _) _ _ _
 refine wpAny_bind (wpAny_field eo ed (x:=.int k 0) rfl ?_)
 show wpAny _ _ (seqItems? (.ref t) >>= _) _ _ _
 refine wpAny_bind (wpAny_seqItems et edt ?_)
 simp only [Int.toNat_natCast,gx]
 refine wpAny_bind (wpAny_setField eo ed (by simp) (wpAny_pure ⟨x,rfl,wpAny_pure (gq _ ?_ (Heap.SameBut.update ..))⟩))
 exact ⟨_,Heap.get?_update_self _ eo (Obj.isFreed_of_fields (Obj.data_mapFields ed _)),(Obj.cls_mapFields ..).trans ec,by rw [Obj.data_mapFields ed];simp [rawInt]⟩
theorem tupNext_end {it t:Addr} {k:Nat} {items:Array Value} {Q:Value→Shared→Prop} (gh:A.handled=none) (gi:s.heap.IsTupleIter it t k) (gt:s.heap.IsTuple t items) (gx:items[k]? = none)
  (ge:∀h' e,Heap.ExtBut it s.heap h'→(∃o,h'.get? e=some o∧o.cls = .type "StopIteration")→E (.ref e) { s with heap:=h' }):wpAny (model prog w) A (Builtin.SmallTypes.nextOf (.ref it)) Q E s:=by
 obtain ⟨ob,eo,ec,ed⟩:=id gi
 obtain ⟨ot,et,_,nt,edt⟩:=gt
 unfold Builtin.SmallTypes.nextOf
 refine wpAny_bind (wpAny_callSpecial?_slot (name:=Str.ofString "__next__") gi.typeIs F.slot_tuple_iterator_next (wpAny_call_entry F.slot_tuple_iterator_next gi.typeIs F.entry_tuple_iterator_next ?_ (F.args_tuple_iterator_next_1 _)))
 show wpAny _ _ (field (.ref it) 0 >>= _) _ _ _
 refine wpAny_bind (wpAny_field eo ed (x:=.ref t) rfl ?_)
 show wpAny _ _ (if (Value.ref t==Value.none)=true then _ else _) _ _ _
 rw [if_neg (fun hq:(Value.ref t==Value.none)=true=>Bool.false_ne_true hq)]
 show wpAny _ _ (field (.ref it) 1 >>= _) _ _ _
 refine wpAny_bind (wpAny_field eo ed (x:=.int k 0) rfl ?_)
 show wpAny _ _ (seqItems? (.ref t) >>= _) _ _ _
 refine wpAny_bind (wpAny_seqItems et edt ?_)
 simp only [Int.toNat_natCast,gx]
 refine wpAny_bind (wpAny_rule (wpAny_bind (wpAny_setField eo ed (by simp) ?_)))
 show wpAny _ _ (newExc (.type "StopIteration") [] >>= _) _ _ _
 refine wpAny_bind ?_
 simp only [newExc,newTuple]
 refine wpAny_bind (wpAny_newObj_type ?_ (by size_fits))
 refine wpAny_bind (m:=firstArgMember _ _) (wpAny_of_eq (a:=Value.none) (by first | rfl | (simp only [firstArgMember];rfl)) (wpAny_newObj_type ?_ (by size_fits)))
 simp only [raiseNew]
 refine wpAny_bind (wpAny_handled ?_)
 first | rw [show A.in1.handled=none from gh] | rw [gh]
 refine wpAny_bind (wpAny_pure (wpAny_throw ?_))
 exact ge _ _ (((Heap.SameBut.update ..).extBut.push _).push _) ⟨_,Heap.get?_push_size _ rfl,rfl⟩
theorem draws_tup (gh:A.handled=none) (it t:Addr) (hne:t≠it) (items:Array Value) :
  Draws prog w A it [it,t] items.size (fun i v=>items[i]? = some v) (fun i h=>h.IsTupleIter it t i∧h.IsTuple t items) where
 live:=fun _ _ st=>let ⟨o,ho,_⟩:=st.1;⟨o,ho⟩
 frame:=fun _ _ _ st hk=>⟨st.1.at fun o e=>hk it (by simp) o e,st.2.at fun o e=>hk t (by simp) o e⟩
 item:=fun i s Q E hi st hQ=>tupNext_item st.1 st.2 (x:=items[i]) (by simp [hi]) fun h' hit' hs'=>hQ _ h' s.toks (by simp [hi]) ⟨hit',st.2.extBut hs'.extBut hne⟩ hs'
 done:=fun s Q E st hE=>tupNext_end gh st.1 st.2 (by simp) hE
end
section
variable {X:Cx}
end
section
variable {X:Cx} {pos:Pos} {a b e:Expr} {ta tb te:TE} {tc:TT}
def tAssert (c:TT):TS:=fun D σ H=>c σ H fun b H1=>b=true∧D.nx σ H1
theorem qs_assert {c:Expr} {m:Option Expr} (hc:QT X c tc):QS X (.Assert c m pos) (tAssert tc):=⟨by
 intro pins s σ H D I h
 exact wpAny_Assert_holds (thn (hc.h pins s σ H _ I h) fun b s1 ⟨H1,I1,q1⟩=>⟨q1.1,σ,H1,I1,q1.2⟩)⟩
end
section
variable {X:Cx} {K:PySem.W.Frag} {pos:Pos}
def CMulB (i j:Int):Prop:=i.natAbs<2^8000∧j.natAbs<2^8000
theorem bits_le {a:Int} (h:a.natAbs<2^8000):Builtin.Int.intBits a≤8001:=by
 unfold Builtin.Int.intBits
 split
 ·omega
 ·rename_i h0
  have hne:a.natAbs≠0:=by
   intro z
   apply h0
   first | exact Int.natAbs_eq_zero.mp z | simp [Int.natAbs_eq_zero.mp z] | omega
  have:=(Nat.log2_lt hne).mpr h
  omega
theorem CMulB.ok {i j:Int} (h:CMulB i j):IntMulOk i j:=by
 have h1:=bits_le h.1
 have h2:=bits_le h.2
 unfold IntMulOk
 have:Builtin.Int.intTooBig (Builtin.Int.intBits i+Builtin.Int.intBits j)=false:=by
  unfold Builtin.Int.intTooBig
  simp only [decide_eq_false_iff_not]
  have:(16002:Int)≤bitsLine:=by decide
  omega
 rw [this]
 simp
theorem op_mulB:OpR X (binaryOp .Mult) (rI CMulB fun i j=>.int (i*j)):=opI fun _ _ _ _ _ _ _ hc q=>mul_int q hc.ok
end
section
variable {X:Cx}
def CDivZ (i j:Int):Prop:=j≠0∧j.natAbs<2^8000
theorem op_fdivZ:OpR X (binaryOp .FloorDiv) (rI CDivZ fun i j=>.int (i.fdiv j)):=opI fun i j _ _ _ _ _ hc q=>by
 obtain ⟨h0,h1⟩:=hc
 have hl:j.natAbs.log2<9000:=by
  have:=(Nat.log2_lt (show j.natAbs≠0 by omega)).mpr h1
  omega
 exact floordiv_int h0 q (.inl (PyProof.noPylong_of_log2 hl))
end
section
variable {X:Cx} {pos:Pos} {o e:Expr} {to:TE} {tr:TA}
theorem qe_append {ap:Pos} (ho:QE X o to) (ha:QA X [e] tr) (hbase:attributeBase o "append" X.env (eval o X.env)=eval o X.env:=by rfl) (hline:(ap.endLine==pos.line)=true:=by rfl) (hs:isStar e=false:=by rfl) :
  QE X (.Call (.Attribute o "append" ap) [e] [] pos) (tBM X.K "list" rAppend to tr):=
 ⟨pe_bm PySem.F.plainAttrs_list PySem.F.slot_list_append PySem.F.type_list_append mt_append ho.h ha.h hbase (by rw [star_ok hs];rfl) hline (star_ok hs) (star_any rfl)⟩
end
section
variable {X:Cx}
theorem call_divmodB:CallR X (.builtin "divmod") (fun xs H Q=>∃a b:Int,xs=[.int a,.int b]∧0<b∧b<2^200∧∀p,H p=none→Q (.ref p) (upd H p (.tup [.int (a/b),.int (a%b)]))):=by
 intro pins s σ H xs us Q I r h
 obtain ⟨a,b,rfl,h0,h1,q⟩:=h
 obtain ⟨u,v,rfl,rx,ry⟩:=Vals.two r
 obtain ⟨t,rfl⟩:=rx
 obtain ⟨t',rfl⟩:=ry
 have e1:a.fdiv b=a/b:=Int.fdiv_eq_ediv_of_nonneg _ (by omega)
 have e2:a.fmod b=a%b:=Int.fmod_eq_emod_of_nonneg _ (by omega)
 have hl:b.natAbs.log2<9000:=by
  have hb:b.natAbs<2^200:=by omega
  have:=(Nat.log2_lt (show b.natAbs≠0 by omega)).mpr hb
  omega
 refine divmod_int (by omega) ?_ (.inl (PyProof.noPylong_of_log2 hl))
 refine ⟨.ref s.heap.objs.size,_,I.laid (o:=.tup [.int (a/b),.int (a%b)]) (t':=s.toks+1+1) (fun b u e=>Heap.get?_push_of_some _ e) (Nat.le_refl _) ?_,rfl,q _ (I.hok.fresh (Nat.le_refl _))⟩
 refine ⟨by show 2≤sizeLine;decide,[.int (a.fdiv b) s.toks,.int (a.fmod b) (s.toks+1)],.cons ⟨_,by rw [e1]⟩ (.cons ⟨_,by rw [e2]⟩ .nil),⟨_,Heap.get?_push_size _ rfl,rfl,_,rfl⟩⟩
end
section
variable {X:Cx} {pos:Pos} {o e:Expr} {to:TE} {tr:TA}
def rBits:V→List V→Hp→VK→Prop:=fun x vs H Q=>∃i:Int,x = .int i∧vs=[]∧Q (.int ((Builtin.Int.intBits i:Nat):Int)) H
theorem mt_bits:MtR X "int.bit_length" rBits:=by
 intro pins s σ H x vs v us Q I rx rv h
 obtain ⟨i,rfl,rfl,q⟩:=h
 obtain ⟨t,rfl⟩:=rx
 cases rv
 exact call_int_bit_length ⟨.int _,H,I.tok _,⟨_,rfl⟩,q⟩
theorem qe_bits {ap:Pos} (ho:QE X o to) (hbase:attributeBase o "bit_length" X.env (eval o X.env)=eval o X.env:=by rfl) (hline:(ap.endLine==pos.line)=true:=by rfl) :
  QE X (.Call (.Attribute o "bit_length" ap) [] [] pos) (tBM0 X.K "int" rBits to):=
 ⟨pe_bm0 PySem.F.plainAttrs_int PySem.F.slot_int_bit_length PySem.F.type_int_bit_length mt_bits ho.h hbase hline⟩
end
section
variable {κ:Type} [DecidableEq κ]
def valV (kvs:List (κ×V)) (k:κ):Option V:=(kvs.find? fun kv=>decide (kv.1=k)).map (·.2)
def putK (kvs:List (κ×V)) (k:κ) (v:V):List (κ×V):=
 if (kvs.any fun kv=>decide (kv.1=k))=true then kvs.map (fun kv=>if kv.1=k then (kv.1,v) else kv) else kvs++[(k,v)]
theorem valV_pos {p:κ×V} {r:List (κ×V)} {k:κ} (e:p.1=k):valV (p::r) k=some p.2:=by simp [valV,List.find?_cons,e]
theorem valV_neg {p:κ×V} {r:List (κ×V)} {k:κ} (e:¬p.1=k):valV (p::r) k=valV r k:=by simp [valV,List.find?_cons,e]
theorem valV_any (k:κ):∀kvs:List (κ×V),(kvs.any fun kv=>decide (kv.1=k))=(valV kvs k).isSome
 | []=>rfl
 | p::r=>by
  rw [List.any_cons]
  by_cases e:p.1=k
  ·simp only [valV_pos e,decide_eq_true e,Bool.true_or,Option.isSome_some]
  ·rw [valV_neg e,decide_eq_false e,Bool.false_or];exact valV_any k r
theorem valV_map (k j:κ) (y:V):∀kvs:List (κ×V),valV (kvs.map fun kv=>if kv.1=k then (kv.1,y) else kv) j=(valV kvs j).map fun x=>if j=k then y else x
 | []=>rfl
 | p::r=>by
  have ih:=valV_map k j y r
  rw [List.map_cons]
  by_cases h:p.1=k
  ·rw [if_pos h]
   by_cases e:p.1=j
   ·rw [valV_pos (p:=(p.1,y)) e,valV_pos e,Option.map_some,if_pos (e.symm.trans h)]
   ·rw [valV_neg (p:=(p.1,y)) e,valV_neg e,ih]
  ·rw [if_neg h]
   by_cases e:p.1=j
   ·rw [valV_pos (p:=p) e,valV_pos e,Option.map_some,if_neg (fun z=>h (e.trans z))]
   ·rw [valV_neg (p:=p) e,valV_neg e,ih]
theorem valV_snoc (k j:κ) (y:V):∀kvs:List (κ×V),valV kvs k=none→valV (kvs++[(k,y)]) j=if j=k then some y else valV kvs j
 | [],_=>by
  by_cases e:k=j
  ·rw [if_pos e.symm];exact valV_pos (p:=(k,y)) e
  ·rw [if_neg (fun z=>e z.symm)];exact valV_neg (p:=(k,y)) e
 | p::r,hn=>by
  rw [List.cons_append]
  have hk:¬p.1=k:=fun z=>by rw [valV_pos z] at hn;cases hn
  rw [valV_neg hk] at hn
  have ih:=valV_snoc k j y r hn
  by_cases e:p.1=j
  ·rw [valV_pos e,valV_pos e,if_neg (fun z=>hk (e.trans z))]
  ·rw [valV_neg e,valV_neg e,ih]
theorem valV_put (kvs:List (κ×V)) (k j:κ) (y:V):valV (putK kvs k y) j=if j=k then some y else valV kvs j:=by
 unfold putK
 by_cases a:(kvs.any fun kv=>decide (kv.1=k))=true
 ·rw [if_pos a,valV_map]
  rw [valV_any] at a
  by_cases e:j=k
  ·obtain ⟨x,hx⟩:=Option.isSome_iff_exists.mp a
   rw [if_pos e,e,hx,Option.map_some,if_pos rfl]
  ·rw [if_neg e]
   cases valV kvs j with
   | none=>rfl
   | some x=>rw [Option.map_some,if_neg e]
 ·rw [if_neg a]
  refine valV_snoc k j y kvs ?_
  rw [valV_any] at a
  cases q:valV kvs k with
  | none=>rfl
  | some x=>rw [q] at a;exact (a rfl).elim
theorem length_putK (kvs:List (κ×V)) (k:κ) (v:V):(putK kvs k v).length≤kvs.length+1:=by
 unfold putK
 split
 ·rw [List.length_map];omega
 ·rw [List.length_append,List.length_cons,List.length_nil];omega
theorem KV.val {kvs:List (κ×V)} {vs:List (κ×Value)} (r:KV kvs vs) (k:κ):RelO (valV kvs k) (valueAt vs k):=by
 unfold KV at r
 induction r with
 | nil=>exact True.intro
 | @cons p q ps qs h t ih=>
  obtain ⟨h1,h2⟩:=h
  by_cases e:p.1=k
  ·have e':q.1=k:=h1.symm.trans e
   have b:valueAt (q::qs) k=some q.2:=by simp [valueAt,List.find?_cons,e']
   rw [valV_pos e,b];exact h2
  ·have e':¬q.1=k:=fun z=>e (h1.trans z)
   have b:valueAt (q::qs) k=valueAt qs k:=by simp [valueAt,List.find?_cons,e']
   rw [valV_neg e,b];exact ih
theorem KV.any {kvs:List (κ×V)} {vs:List (κ×Value)} (r:KV kvs vs) (k:κ):(kvs.any fun kv=>decide (kv.1=k))=vs.any fun kv=>decide (kv.1=k):=by
 unfold KV at r
 induction r with
 | nil=>rfl
 | cons h t ih=>rw [List.any_cons,List.any_cons,ih,h.1]
theorem KV.repl {kvs:List (κ×V)} {vs:List (κ×Value)} (r:KV kvs vs) (k:κ) {y:V} {u:Value} (ry:RelV y u) :
  KV (kvs.map fun kv=>if kv.1=k then (kv.1,y) else kv) (vs.map fun kv=>if kv.1=k then (kv.1,u) else kv):=by
 unfold KV at r ⊢
 induction r with
 | nil=>exact .nil
 | @cons p q ps qs h t ih=>
  rw [List.map_cons,List.map_cons]
  refine .cons ?_ ih
  obtain ⟨h1,h2⟩:=h
  by_cases e:p.1=k
  ·rw [if_pos e,if_pos (h1.symm.trans e)];exact ⟨h1,ry⟩
  ·rw [if_neg e,if_neg (fun z=>e (h1.trans z))];exact ⟨h1,h2⟩
theorem KV.put {kvs:List (κ×V)} {vs:List (κ×Value)} (r:KV kvs vs) (k:κ) {y:V} {u:Value} (ry:RelV y u):KV (putK kvs k y) (stored vs k u):=by
 unfold putK stored
 rw [r.any k]
 by_cases e:(vs.any fun kv=>decide (kv.1=k))=true
 ·rw [if_pos e,if_pos e];exact r.repl k ry
 ·rw [if_neg e,if_neg e];exact Paired.snoc r ⟨rfl,ry⟩
end
theorem kV_is {P:Program} {w:World} {k:Key} {u:Value} (r:RelV (kV k) u):(mixKind P w).is k u=true:=by
 cases k with
 | inl i=>obtain ⟨t,e⟩:=(show ∃t,u=Value.int i t from r);subst e;exact mixKind_int P w i t
 | inr x=>obtain ⟨t,e⟩:=(show ∃t,u=Value.str x t from r);subst e;exact mixKind_str P w x t
theorem items_are {P:Program} {w:World}:∀{ks:List Key} {us:List Value},Vals (ks.map kV) us→ItemsAre (mixKind P w) ks us
 | [],_,r=>by rw [List.map_nil] at r;cases r;exact .nil
 | k::ks,_,r=>by
  rw [List.map_cons] at r
  cases r with
  | cons h t=>exact .cons (kV_is h) (items_are t)
abbrev KTd (H:Hp):List (List Key×V)→List (List Key×Addr×Value)→Prop:=Paired fun p q=>p.1=q.1∧H q.2.1=some (.tup (p.1.map kV))∧RelV p.2 q.2.2
theorem KTd.val {H:Hp} {kvs:List (List Key×V)} {xs:List (List Key×Addr×Value)} (r:KTd H kvs xs) (k:List Key):RelO (valV kvs k) ((atKey xs k).map (·.2)):=by
 induction r with
 | nil=>exact True.intro
 | @cons p q ps qs h t ih=>
  obtain ⟨h1,_,h2⟩:=h
  by_cases e:p.1=k
  ·have e':q.1=k:=h1.symm.trans e
   have b:atKey (q::qs) k=some q.2:=by simp [atKey,List.find?_cons,e']
   rw [valV_pos e,b];exact h2
  ·have e':¬q.1=k:=fun z=>e (h1.trans z)
   have b:atKey (q::qs) k=atKey qs k:=by simp [atKey,List.find?_cons,e']
   rw [valV_neg e,b];exact ih
section
variable {P:Program} {w:World} {H:Hp} {h:Heap} {a:Addr}
theorem rd_ofD {u:HO} (ok:HOk P w H h) (e:Rd H a u):ObjOk P w H h a u:=e.ok ok
theorem dk_rd {kvs:List (Key×V)} (ok:HOk P w H h) (e:Rd H a (.dK kvs)):kvs.length≤sizeLine∧(a==sysModules)=false∧∃vs,KV kvs vs∧h.DictOf (mixKind P w) a vs:=
 show ObjOk P w H h a (.dK kvs) from rd_ofD ok e
theorem dk_of {kvs:List (Key×V)} (ok:HOk P w H h) (e:H a=some (.dK kvs)):kvs.length≤sizeLine∧(a==sysModules)=false∧∃vs,KV kvs vs∧h.DictOf (mixKind P w) a vs:=dk_rd ok (.inl e)
theorem key_of {ks:List Key} (ok:HOk P w H h) (e:H a=some (.tup (ks.map kV))):(tupleKind (mixKind P w)).is h ks a:=by
 obtain ⟨_,its,r,o,h1,h2,n,h3⟩:=(show ObjOk P w H h a (.tup (ks.map kV)) from ok a _ e)
 exact ⟨o,its.toArray,n,h1,h2,h3,by simpa using items_are r⟩
theorem dt_rd {kvs:List (List Key×V)} (ok:HOk P w H h) (e:Rd H a (.dT kvs)):kvs.length≤sizeLine∧(a==sysModules)=false∧
  ∃xs,KTd H kvs xs∧h.DictOfH (tupleKind (mixKind P w)) a xs:=by
 obtain ⟨z,y,xs,r,o,es,ep,h1,h2,h3,h4,h5⟩:=(show ObjOk P w H h a (.dT kvs) from rd_ofD ok e)
 refine ⟨z,y,xs,r,o,es,ep,h1,h2,h3,h4,fun x hx=>?_,h5⟩
 have all:∀{l:List (List Key×V)} {m:List (List Key×Addr×Value)},KTd H l m→∀x∈m,(tupleKind (mixKind P w)).is h x.1 x.2.1:=by
  intro l m q
  induction q with
  | nil=>intro x hx;exact nomatch hx
  | @cons p q ps qs hq t ih=>
   intro x hx
   rcases List.mem_cons.mp hx with e | hx
   ·subst e
    exact key_of ok (by rw [←hq.1];exact hq.2.1)
   ·exact ih x hx
 exact all r x hx
end
def DGet (H:Hp) (a:Addr) (y:V) (r:Option V):Prop:=
 (∃kvs k,Rd H a (.dK kvs)∧y=kV k∧r=valV kvs k)∨∃kvs k b,Rd H a (.dT kvs)∧y = .ref b∧H b=some (.tup (k.map kV))∧r=valV kvs k
theorem DGet.k {H:Hp} {a:Addr} {kvs:List (Key×V)} {k:Key} (e:H a=some (.dK kvs)):DGet H a (kV k) (valV kvs k):=.inl ⟨kvs,k,.inl e,rfl,rfl⟩
section
variable {X:Cx} {pins:List (Addr×Obj)} {σ:St} {H:Hp} {s:Shared} {a:Addr} {y v:V} {u r:Value} {o:Option V} {A:Around} {E:Value→Shared→Prop}
theorem Inv.big (I:Inv X pins σ H s):sysModules<s.heap.objs.size:=by
 have h:mainGlobals<s.heap.objs.size:=(I.mod.glob.keeps I.bk).lt
 exact Nat.lt_trans (by decide) h
theorem d_getItem {Q:Value→Shared→Prop} (hu:A.units+1<cLine) (I:Inv X pins σ H s) (g:DGet H a y (some v)) (ry:RelV y u) (h:∀w' s',Inv X pins σ H s'→RelV v w'→Q w' s') :
  wpAny (model X.prog X.w) A (getItem (.ref a) u) Q E s:=by
 rcases g with ⟨kvs,k,e,ey,l⟩ | ⟨kvs,k,b,e,ey,eb,l⟩
 ·subst ey
  obtain ⟨z,hd,vs,rel,dd⟩:=dk_rd I.hok e
  obtain ⟨w',hw,rw'⟩:=RelO.some_of (v:=v) (o:=valueAt vs k) (by rw [l];exact rel.val k)
  exact wpAny_getItem_of (kV_is ry) dd.mapOf hw (h w' _ (I.tok _) rw')
 ·subst ey
  cases (show u=Value.ref b from ry)
  obtain ⟨z,hd,xs,rel,dd⟩:=dt_rd I.hok e
  obtain ⟨w',hw,rw'⟩:=RelO.some_of (v:=v) (o:=(atKey xs k).map (·.2)) (by rw [l];exact rel.val k)
  obtain ⟨p,hp,hp2⟩:=Option.map_eq_some_iff.mp hw
  refine wpAny_getItem_heap (tupleKind_room_in1 hu) (key_of I.hok eb) dd hp ?_
  rw [hp2]
  exact h w' _ (I.tok _) rw'
theorem d_write {h':Heap} {t':Nat} {ob:HO} (I:Inv X pins σ H s) (mu:Mut (H a)) (hs:Heap.SameBut a s.heap h') (he:∃q,h'.get? a=some q) (new:ObjOk X.prog X.w (upd H a ob) h' a ob) :
  Inv X pins σ (upd H a ob) { s with heap:=h',toks:=t' }:=
 I.write (x:=a) (e:=a) mu (.inl rfl) (fun b q hb z=>(hs.2 b hb).trans z) he new
theorem dk_new {P:Program} {w:World} {H':Hp} {h':Heap} {kvs:List (Key×V)} {vs:List (Key×Value)} (z:kvs.length≤sizeLine) (hd:(a==sysModules)=false) (rel:KV kvs vs) (dd:h'.DictOf (mixKind P w) a vs) :
  ObjOk P w H' h' a (.dK kvs):=⟨z,hd,vs,rel,dd⟩
end
section
variable {X:Cx} {pins:List (Addr×Obj)} {σ:St} {H:Hp} {s:Shared} {a:Addr} {kvs:List (Key×V)} {k:Key} {u:Value} {A:Around} {E:Value→Shared→Prop}
end
def NoSl (i:Expr):Prop:=∀ov iv,subscripted i false ov iv=operate [ov,iv] (getItem ov iv)
theorem subD_of {prog:Program} {w:World} {A:Around} {E:Value→Shared→Prop} {s:Shared} {env:Env} {value slice:Expr} {pos:Pos} {T id:String} {Q:Value→Shared→Prop}
  (hl:typeLookup (.type T) "__getitem__" = pure (some (.builtin id))) (hs:NoSl slice)
  (h:wpAny (model prog w) A (eval value env) (fun o s₁=>wpAny (model prog w) A (eval slice env) (fun i s₂=>s₂.TypeIs o T∧wpAny (model prog w) A (getItem o i) Q E s₂) E s₁) E s) :
  wpAny (model prog w) A (eval (.Subscript value slice pos) env) Q E s:=by
 refine Subscript_ (wpAny_mono h (fun o s₁ h₁=>wpAny_mono h₁ (fun i s₂ h₂=>?_) fun _ _ x=>x) fun _ _ x=>x)
 obtain ⟨hT,h₂⟩:=h₂
 unfold subscriptTail
 refine wpAny_bind ?_
 rw [getitemInPython_of_ne hT.not_modules]
 refine wpAny_bind (wpAny_specialOf hT hl ?_)
 have fin:wpAny (model prog w) A (subscripted slice false o i) (fun r s₃=>wpAny (model prog w) A (letTemporaryGo value o r >>= fun _=>pure r) Q E s₃) E s₂:=by
  rw [hs o i]
  exact wpAny_operating (wpAny_mono h₂ (fun r s₃ h₃=>wpAny_bind (wpAny_letTemporaryGo (wpAny_pure h₃))) fun _ _ x=>x)
 first
  | exact wpAny_pure (wpAny_bind fin)
  | exact wpAny_bind (wpAny_pure (wpAny_bind fin))
  | exact wpAny_bind fin
theorem dict_typeIs {X:Cx} {pins:List (Addr×Obj)} {σ:St} {H:Hp} {s:Shared} {a:Addr} {y:V} {o:Option V} (I:Inv X pins σ H s) (g:DGet H a y o):s.TypeIs (.ref a) "dict":=by
 rcases g with ⟨kvs,k,e,_,_⟩ | ⟨kvs,k,b,e,_,_,_⟩
 ·obtain ⟨_,_,vs,_,dd⟩:=dk_rd I.hok e
  exact dd.typeIs
 ·obtain ⟨_,_,xs,_,dd⟩:=dt_rd I.hok e
  exact dd.typeIs
def tDGet (td ty:TE):TE:=fun σ H Q=>td σ H fun x H1=>ty σ H1 fun y H2=>∃a v,x = .ref a∧DGet H2 a y (some v)∧Q v H2
section
variable {X:Cx} {o i e value:Expr} {pos pos' tpos:Pos} {td ty tv:TE}
theorem pe_dget (hu:X.A.units+1<cLine) (ho:PE X o td) (hi:PE X i ty) (hs:NoSl i):PE X (.Subscript o i pos) (tDGet td ty):=by
 intro pins s σ H Q I h
 refine subD_of PySem.F.slot_dict_getitem.lookup hs (thn (ho pins s σ H _ I h) fun u s1 ⟨x,H1,I1,rx,q1⟩=>thn (hi pins s1 σ H1 _ I1 q1) fun iv s2 ⟨y,H2,I2,ry,a,v,ex,g,q2⟩=>?_)
 subst ex
 obtain rfl:u=Value.ref a:=rx
 exact ⟨dict_typeIs I2 g,d_getItem hu I2 g ry fun w' s3 I3 rw'=>⟨v,H2,I3,rw',q2⟩⟩
end
theorem dk_empty {P:Program} {w:World} {H:Hp} (h:Heap) (hb:sysModules<h.objs.size):ObjOk P w H (h.push { cls:=.type "dict",data:=.dict #[] }) h.objs.size (.dK []):=
 ⟨Nat.zero_le _,beq_eq_false_iff_ne.mpr (Ne.symm (Nat.ne_of_lt hb)),[],.nil,Heap.DictOf.new h⟩
section
variable {X:Cx} {pos:Pos}
end
def tPairs:List (TE×TE)→St→Hp→(List (V×V)→Hp→Prop)→Prop
 | [],_,H,Q=>Q [] H
 | (tk,tv)::r,σ,H,Q=>tk σ H fun x H1=>tv σ H1 fun y H2=>tPairs r σ H2 fun ps H3=>Q ((x,y)::ps) H3
abbrev VV:List (V×V)→List (Value×Value)→Prop:=Paired fun p q=>RelV p.1 q.1∧RelV p.2 q.2
def PPs (X:Cx) (pos:Pos) (keys:List (Option Expr)) (values:List Expr) (trs:List (TE×TE)):Prop:=
 ∀(pins:List (Addr×Obj)) (s:Shared) (σ:St) (H:Hp) (Q:List (V×V)→Hp→Prop),Inv X pins σ H s→tPairs trs σ H Q→
  wpAny (model X.prog X.w) X.A (evalPairs (pairTrees keys values X.env pos)) (fun vs s'=>∃ps H',Inv X pins σ H' s'∧VV ps vs∧Q ps H') X.xe s
theorem pps_nil {X:Cx} {pos:Pos}:PPs X pos [] [] []:=fun pins s σ H Q I h=>pairTrees_nil_walk ⟨[],H,I,.nil,h⟩
theorem pps_cons {X:Cx} {pos:Pos} {k v:Expr} {ks:List (Option Expr)} {vs:List Expr} {tk tv:TE} {trs:List (TE×TE)} (hk:PE X k tk) (hv:PE X v tv) (hr:PPs X pos ks vs trs) :
  PPs X pos (some k::ks) (v::vs) ((tk,tv)::trs):=fun pins s σ H Q I h=>
 pairTrees_cons_walk (thn (hk pins s σ H _ I h) fun u s1 ⟨x,H1,I1,rx,q1⟩=>thn (hv pins s1 σ H1 _ I1 q1) fun w2 s2 ⟨y,H2,I2,ry,q2⟩=>
  thn (hr pins s2 σ H2 _ I2 q2) fun ws s3 ⟨ps,H3,I3,rel,q3⟩=>⟨(x,y)::ps,H3,I3,.cons ⟨rx,ry⟩ rel,q3⟩)
def mergeK (kvs more:List (Key×V)):List (Key×V):=more.foldl (fun acc kv=>putK acc kv.1 kv.2) kvs
theorem KV.merge:∀{more:List (Key×V)} {rs:List (Key×Value)} {kvs:List (Key×V)} {vs:List (Key×Value)},KV more rs→KV kvs vs→KV (mergeK kvs more) (merged vs rs):=by
 intro more rs kvs vs r
 unfold KV at r
 induction r generalizing kvs vs with
 | nil=>intro q;exact q
 | @cons p q ps qs h t ih=>
  intro r0
  have e:KV (putK kvs p.1 p.2) (stored vs q.1 q.2):=by
   have:=r0.put p.1 h.2
   rw [←h.1];exact this
  exact ih e
theorem length_mergeK:∀(more kvs:List (Key×V)),(mergeK kvs more).length≤kvs.length+more.length
 | [],kvs=>by show kvs.length≤kvs.length+0;omega
 | p::r,kvs=>by
  have h1:=length_mergeK r (putK kvs p.1 p.2)
  have h2:=length_putK kvs p.1 p.2
  show (mergeK (putK kvs p.1 p.2) r).length≤_
  rw [List.length_cons];omega
theorem carries_of {P:Program} {w:World}:∀{kvs:List (Key×V)} {ws:List (Value×Value)},VV (kvs.map fun kv=>(kV kv.1,kv.2)) ws→∃rs,Carries (mixKind P w) ws rs∧KV kvs rs
 | [],_,r=>by rw [List.map_nil] at r;cases r;exact ⟨[],True.intro,.nil⟩
 | p::kvs,_,r=>by
  rw [List.map_cons] at r
  cases r with
  | @cons a b as bs h t=>
   obtain ⟨rs,c,q⟩:=carries_of (P:=P) (w:=w) t
   obtain ⟨b1,b2⟩:=b
   exact ⟨(p.1,b2)::rs,⟨kV_is h.1,rfl,c⟩,.cons ⟨rfl,h.2⟩ q⟩
def tDisp (trs:List (TE×TE)):TE:=fun σ H Q=>∀p,H p=none→tPairs trs σ (upd H p (.dK [])) fun ps H2=>H2 p=some (.dK [])∧∃kvs:List (Key×V),ps=kvs.map (fun kv=>(kV kv.1,kv.2))∧kvs.length≤15∧Q (.ref p) (upd H2 p (.dK (mergeK [] kvs)))
theorem pe_disp {X:Cx} {pos:Pos} {keys:List (Option Expr)} {values:List Expr} {trs:List (TE×TE)} (h:PPs X pos keys values trs) (hall:keys.all (·.isSome)=true) (hl:keys.length=values.length) (h0:keys≠[])
  (h15:keys.length≤15):PE X (.Dict keys values pos) (tDisp trs):=by
 intro pins s σ H Q I q
 have hn:=I.hok.fresh (Nat.le_refl s.heap.objs.size)
 have I1:=I.laid (a:=s.heap.objs.size) (o:=.dK []) (h':=s.heap.push { cls:=.type "dict",data:=.dict #[] }) (t':=s.toks) (fun _ _ q=>Heap.get?_push_of_some _ q) (Nat.le_refl _) (dk_empty s.heap I.big)
 refine wpAny_Dict_walk (knd:=mixKind X.prog X.w) hall hl h0 h15 (thn (h pins _ σ _ _ I1 (q _ hn)) fun ws s2 ⟨ps,H2,I2,rel,e,kvs,ep,lk,q2⟩=>?_)
 subst ep
 obtain ⟨rs,c,rk⟩:=carries_of (P:=X.prog) (w:=X.w) rel
 obtain ⟨z,hd,vs0,r0,dd⟩:=dk_of I2.hok e
 cases r0
 refine ⟨rs,c,dd,fun h' dd' hs=>⟨.ref s.heap.objs.size,_,?_,rfl,q2⟩⟩
 have hz:(mergeK [] kvs).length≤sizeLine:=by
  have h1:=length_mergeK kvs []
  rw [List.length_nil] at h1
  rw [sizeLine_eq];omega
 have he:∃q,h'.get? s.heap.objs.size=some q:=let ⟨q,_,_,hq,_⟩:=dd';⟨q,hq⟩
 exact d_write I2 (by rw [e];exact True.intro) hs he (dk_new hz hd (rk.merge .nil) dd')
inductive T where
 | non | bl (b:Bool) | int (i:Int) | str (x:Str) | tup (xs:List T) | lst (xs:List T)
inductive U where
 | p (t:T) | o (k:Bool) (xs:List T)
abbrev En:=List (Option U)
inductive R where
 | p (t:T) | s (i:Nat)
def KT (K:PySem.W.Frag) (a:Addr) (xs:List V):Prop:=∃(o:Obj) (its:Array Value) (n:Nat),K.lookup a=some o∧o.cls = .type "tuple"∧o.data = .seq its n∧its.size≤sizeLine∧Vals xs its.toList
def KL (K:PySem.W.Frag) (a:Addr) (xs:List V):Prop:=∃(o:Obj) (its:Array Value) (n:Nat),K.lookup a=some o∧o.cls = .type "list"∧o.dict=none∧o.data = .seq its n∧its.size≤sizeLine∧Vals xs its.toList
mutual
def Rp (K:PySem.W.Frag) (H:Hp) (O:Addr→Prop):T→V→Prop
 | .non,v=>v = .non
 | .bl b,v=>v = .bl b
 | .int i,v=>v = .int i
 | .str x,v=>v = .str x
 | .tup xs,v=>∃a vs,v = .ref a∧((¬O a∧Rd H a (.tup vs))∨KT K a vs)∧Rps K H O xs vs
 | .lst xs,v=>∃a vs,v = .ref a∧((¬O a∧Rd H a (.lst vs))∨KL K a vs)∧Rps K H O xs vs
def Rps (K:PySem.W.Frag) (H:Hp) (O:Addr→Prop):List T→List V→Prop
 | [],vs=>vs=[]
 | x::xs,vs=>∃v r,vs=v::r∧Rp K H O x v∧Rps K H O xs r
end
structure Kp (O O':Addr→Prop) (H H':Hp):Prop where
 keep:∀b o,H b=some o→¬O b→H' b=some o
 new:∀b,O' b→O b∨H b=none
theorem Rd.step {H H':Hp} {a:Addr} {u:HO} {O O':Addr→Prop} (k:Kp O O' H H') (h:¬O a∧Rd H a u):¬O' a∧Rd H' a u:=by
 obtain ⟨n,h⟩:=h
 rcases h with h | ⟨o,h⟩
 ·refine ⟨fun z=>?_,.inl (k.keep _ _ h n)⟩
  rcases k.new a z with z | z
  ·exact n z
  ·rw [h] at z;cases z
 ·refine ⟨fun z=>?_,.inr ⟨o,k.keep _ _ h n⟩⟩
  rcases k.new a z with z | z
  ·exact n z
  ·rw [h] at z;cases z
section
variable {K:PySem.W.Frag} {H H':Hp} {O O':Addr→Prop}
mutual
theorem Rp.step (k:Kp O O' H H'):∀{t:T} {v:V},Rp K H O t v→Rp K H' O' t v
 | .non,_,h=>h
 | .bl _,_,h=>h
 | .int _,_,h=>h
 | .str _,_,h=>h
 | .tup xs,v,h=>by
  obtain ⟨a,vs,e,h1,h2⟩:=h
  exact ⟨a,vs,e,h1.imp (Rd.step k) id,Rps.step k h2⟩
 | .lst xs,v,h=>by
  obtain ⟨a,vs,e,h1,h2⟩:=h
  exact ⟨a,vs,e,h1.imp (Rd.step k) id,Rps.step k h2⟩
theorem Rps.step (k:Kp O O' H H'):∀{xs:List T} {vs:List V},Rps K H O xs vs→Rps K H' O' xs vs
 | [],_,h=>h
 | x::xs,vs,h=>by
  obtain ⟨v,r,e,h1,h2⟩:=h
  exact ⟨v,r,e,Rp.step k h1,Rps.step k h2⟩
end
theorem Kp.refl (O:Addr→Prop) (H:Hp):Kp O O H H:=⟨fun _ _ h _=>h,fun _ h=>.inl h⟩
theorem Kp.less (h:∀b,O' b→O b):Kp O O' H H:=⟨fun _ _ h _=>h,fun _ z=>.inl (h _ z)⟩
theorem Kp.trans {O'':Addr→Prop} {H'':Hp} (a:Kp O O' H H') (b:Kp O' O'' H' H''):Kp O O'' H H'':=by
 refine ⟨fun c o h n=>b.keep c o (a.keep c o h n) fun z=>?_,fun c h=>?_⟩
 ·rcases a.new c z with z | z
  ·exact n z
  ·rw [h] at z;cases z
 ·rcases b.new c h with z | z
  ·exact a.new c z
  ·by_cases n:O c
   ·exact .inl n
   ·right
    cases q:H c with
    | none=>rfl
    | some o=>rw [a.keep c o q n] at z;cases z
theorem Kp.upd {a:Addr} {o:HO} (h:H a=none):Kp O O H (upd H a o):=⟨fun b u e _=>by rw [upd_ne (ne_of_none e h)];exact e,fun _ z=>.inl z⟩
theorem Rps.length:∀{xs:List T} {vs:List V},Rps K H O xs vs→vs.length=xs.length
 | [],_,h=>by cases h;rfl
 | _::_,_,h=>by
  obtain ⟨v,r,e,_,h2⟩:=h
  rw [e,List.length_cons,List.length_cons,Rps.length h2]
theorem Rps.get:∀{xs:List T} {vs:List V} {i:Nat} {x:T},Rps K H O xs vs→xs[i]? = some x→∃v,vs[i]? = some v∧Rp K H O x v
 | [],_,_,_,_,e=>by simp at e
 | _::_,_,0,_,⟨v,r,e,h1,_⟩,q=>by simp at q;subst q;subst e;exact ⟨v,rfl,h1⟩
 | _::_,_,i+1,x,⟨v,r,e,_,h2⟩,q=>by
  obtain ⟨w,q1,q2⟩:=Rps.get (i:=i) (x:=x) h2 (by simpa using q)
  subst e
  exact ⟨w,by simpa using q1,q2⟩
theorem Rps.append:∀{xs ys:List T} {vs ws:List V},Rps K H O xs vs→Rps K H O ys ws→Rps K H O (xs++ys) (vs++ws)
 | [],_,_,_,h,k=>by cases h;exact k
 | _::_,_,_,_,⟨v,r,e,h1,h2⟩,k=>by subst e;exact ⟨v,_,rfl,h1,Rps.append h2 k⟩
theorem Rps.set {x:T} {v:V} (h:Rp K H O x v):∀{xs:List T} {vs:List V} (i:Nat),Rps K H O xs vs→Rps K H O (xs.set i x) (vs.set i v)
 | [],_,_,k=>by cases k;exact rfl
 | _::_,_,0,⟨u,r,e,h1,h2⟩=>by subst e;exact ⟨v,_,rfl,h,h2⟩
 | _::_,_,i+1,⟨u,r,e,h1,h2⟩=>by subst e;exact ⟨u,_,rfl,h1,Rps.set h i h2⟩
theorem Rps.take:∀{xs:List T} {vs:List V} (n:Nat),Rps K H O xs vs→Rps K H O (xs.take n) (vs.take n)
 | _,_,0,_=>by simp [Rps]
 | [],_,_+1,h=>by cases h;exact rfl
 | _::_,_,n+1,⟨v,r,e,h1,h2⟩=>by subst e;exact ⟨v,_,rfl,h1,Rps.take n h2⟩
theorem Rps.drop:∀{xs:List T} {vs:List V} (n:Nat),Rps K H O xs vs→Rps K H O (xs.drop n) (vs.drop n)
 | _,_,0,h=>h
 | [],_,_+1,h=>by cases h;exact rfl
 | _::_,_,n+1,⟨v,r,e,h1,h2⟩=>by subst e;exact Rps.drop n h2
theorem Rps.reverse:∀{xs:List T} {vs:List V},Rps K H O xs vs→Rps K H O xs.reverse vs.reverse
 | [],_,h=>by cases h;exact rfl
 | _::_,_,⟨v,r,e,h1,h2⟩=>by
  subst e
  rw [List.reverse_cons,List.reverse_cons]
  exact (Rps.reverse h2).append ⟨v,[],rfl,h1,rfl⟩
theorem Rp.sqT {xs:List T} {v:V} (h:Rp K H O (.tup xs) v):∃a vs,v = .ref a∧SqT K H a vs∧Rps K H O xs vs:=by
 obtain ⟨a,vs,e,h1,h2⟩:=h
 exact ⟨a,vs,e,h1.imp And.right id,h2⟩
theorem Rp.sqL {xs:List T} {v:V} (h:Rp K H O (.lst xs) v):∃a vs,v = .ref a∧SqL K H a vs∧Rps K H O xs vs:=by
 obtain ⟨a,vs,e,h1,h2⟩:=h
 exact ⟨a,vs,e,h1.imp And.right id,h2⟩
end
def Ow (B:Addr→Prop) (S:St) (E:En) (a:Addr):Prop:=B a∨∃(i:Nat) (k:Bool) (xs:List T),E[i]? = some (some (.o k xs))∧S[i]? = some (some (.ref a))
structure RE (K:PySem.W.Frag) (B:Addr→Prop) (H:Hp) (S:St) (E:En):Prop where
 len:S.length=E.length
 pure:∀(i:Nat) (t:T),E[i]? = some (some (.p t))→∃v,S[i]? = some (some v)∧Rp K H (Ow B S E) t v
 own:∀(i:Nat) (k:Bool) (xs:List T),E[i]? = some (some (.o k xs))→∃a vs,S[i]? = some (some (.ref a))∧H a=some (.lst vs)∧Rps K H (Ow B S E) xs vs∧(k=true↔B a)
 inj:∀(i j:Nat) (k l:Bool) (xs ys:List T) (a:Addr),E[i]? = some (some (.o k xs))→E[j]? = some (some (.o l ys))→S[i]? = some (some (.ref a))→S[j]? = some (some (.ref a))→i=j
 bd:∀a,B a→∃vs,H a=some (.lst vs)
section
variable {K:PySem.W.Frag} {B:Addr→Prop} {H H':Hp} {S S':St} {E E':En}
theorem RE.ow (r:RE K B H S E) {a:Addr} (h:Ow B S E a):∃vs,H a=some (.lst vs):=by
 rcases h with h | ⟨i,k,xs,h1,h2⟩
 ·exact r.bd a h
 obtain ⟨a',vs,h3,h4,_⟩:=r.own i k xs h1
 rw [h2] at h3;cases h3
 exact ⟨vs,h4⟩
theorem RE.nn (r:RE K B H S E) {a:Addr} (h:H a=none):¬Ow B S E a:=fun z=>by
 obtain ⟨ws,e⟩:=r.ow z;rw [h] at e;cases e
theorem RE.step (r:RE K B H S E) (k:∀b o,H b=some o→¬Ow B S E b→H' b=some o) (hl:E'.length=E.length)
  (hp:∀(i:Nat) (t:T),E'[i]? = some (some (.p t))→E[i]? = some (some (.p t)))
  (ho:∀(i:Nat) (k:Bool) (xs':List T),E'[i]? = some (some (.o k xs'))→∃xs,E[i]? = some (some (.o k xs))∧∀a,S[i]? = some (some (.ref a))→∃vs,H' a=some (.lst vs)∧Rps K H' (Ow B S E) xs' vs) (hb:∀a,B a→∃vs,H' a=some (.lst vs)):RE K B H' S E':=by
 have ow:∀b,Ow B S E' b→Ow B S E b:=fun b z=>by
  rcases z with z | ⟨i,k,xs,h1,h2⟩
  ·exact .inl z
  obtain ⟨ys,h3,_⟩:=ho i k xs h1
  exact .inr ⟨i,k,ys,h3,h2⟩
 have kp:Kp (Ow B S E) (Ow B S E') H H':=⟨k,fun b z=>.inl (ow b z)⟩
 refine ⟨by rw [hl];exact r.len,fun i t h=>?_,fun i k xs h=>?_,fun i j k l xs ys a h1 h2 h3 h4=>?_,hb⟩
 ·obtain ⟨v,h1,h2⟩:=r.pure i t (hp i t h)
  exact ⟨v,h1,h2.step kp⟩
 ·obtain ⟨ys,h1,h2⟩:=ho i k xs h
  obtain ⟨a,vs,h3,_,_,h6⟩:=r.own i k ys h1
  obtain ⟨ws,h7,h8⟩:=h2 a h3
  exact ⟨a,ws,h3,h7,h8.step (Kp.less ow),h6⟩
 ·obtain ⟨_,q1,_⟩:=ho i k xs h1
  obtain ⟨_,q2,_⟩:=ho j l ys h2
  exact r.inj i j k l _ _ a q1 q2 h3 h4
theorem RE.kept (r:RE K B H S E) (k:∀b o,H b=some o→H' b=some o):RE K B H' S E:=
 r.step (fun b o h _=>k b o h) rfl (fun _ _ h=>h) (fun i l xs h=>⟨xs,h,fun a ha=>by
  obtain ⟨a',vs,h1,h2,h3,_⟩:=r.own i l xs h
  rw [ha] at h1;cases h1
  exact ⟨vs,k _ _ h2,h3.step ⟨fun b o e _=>k b o e,fun b z=>.inl z⟩⟩⟩) (fun a h=>let ⟨vs,q⟩:=r.bd a h;⟨vs,k _ _ q⟩)
theorem RE.take (r:RE K B H S E) (n:Nat):RE K B H (S.take n) (E.take n):=by
 have gE:∀{i:Nat} {x:Option U},(E.take n)[i]? = some x→E[i]? = some x∧i<n:=fun {i x} h=>by
  by_cases c:i<n
  ·rw [List.getElem?_take_of_lt c] at h;exact ⟨h,c⟩
  ·rw [List.getElem?_take_eq_none (by omega)] at h;cases h
 have gS:∀{i:Nat} {x:Option V},i<n→S[i]? = some x→(S.take n)[i]? = some x:=fun {i x} c h=>by rw [List.getElem?_take_of_lt c];exact h
 have gS':∀{i:Nat} {x:Option V},(S.take n)[i]? = some x→S[i]? = some x:=fun {i x} h=>by
  by_cases c:i<n
  ·rw [List.getElem?_take_of_lt c] at h;exact h
  ·rw [List.getElem?_take_eq_none (by omega)] at h;cases h
 have ow:∀b,Ow B (S.take n) (E.take n) b→Ow B S E b:=fun b z=>z.imp id fun ⟨i,k,xs,h1,h2⟩=>⟨i,k,xs,(gE h1).1,gS' h2⟩
 refine ⟨by rw [List.length_take,List.length_take,r.len],fun i t h=>?_,fun i k xs h=>?_,fun i j k l xs ys a h1 h2 h3 h4=>?_,r.bd⟩
 ·obtain ⟨v,h1,h2⟩:=r.pure i t (gE h).1
  exact ⟨v,gS (gE h).2 h1,h2.step (Kp.less ow)⟩
 ·obtain ⟨a,vs,h1,h2,h3,h4⟩:=r.own i k xs (gE h).1
  exact ⟨a,vs,gS (gE h).2 h1,h2,h3.step (Kp.less ow),h4⟩
 ·exact r.inj i j k l xs ys a (gE h1).1 (gE h2).1 (gS' h3) (gS' h4)
end
end L2
set_option Elab.async false
set_option linter.all false
set_option maxRecDepth 100000
set_option maxHeartbeats 4000000
namespace L2
open PySem PySem.Spec PyProof.Rows
def RR (K:PySem.W.Frag) (B:Addr→Prop) (H:Hp) (S:St) (E:En):R→V→Prop
 | .p t,v=>Rp K H (Ow B S E) t v
 | .s i,v=>S[i]? = some (some v)
def RRs (K:PySem.W.Frag) (B:Addr→Prop) (H:Hp) (S:St) (E:En):List R→List V→Prop
 | [],vs=>vs=[]
 | r::rs,vs=>∃v ws,vs=v::ws∧RR K B H S E r v∧RRs K B H S E rs ws
structure Gr (B:Addr→Prop) (H:Hp) (S:St) (E:En) (H':Hp) (S':St) (E':En):Prop where
 kp:Kp (Ow B S E) (Ow B S' E') H H'
 pre:∃τ,S'=S++τ
theorem Gr.refl {B:Addr→Prop} {H:Hp} {S:St} {E:En}:Gr B H S E H S E:=⟨Kp.refl _ _,[],by simp⟩
theorem Gr.trans {B:Addr→Prop} {H H1 H2:Hp} {S S1 S2:St} {E E1 E2:En} (a:Gr B H S E H1 S1 E1) (b:Gr B H1 S1 E1 H2 S2 E2):Gr B H S E H2 S2 E2:=by
 obtain ⟨t,e⟩:=a.pre
 obtain ⟨u,f⟩:=b.pre
 exact ⟨a.kp.trans b.kp,t++u,by rw [f,e,List.append_assoc]⟩
theorem pre_get {S S':St} (h:∃τ,S'=S++τ) {i:Nat} {x:Option V} (e:S[i]? = some x):S'[i]? = some x:=by
 obtain ⟨t,rfl⟩:=h
 rw [List.getElem?_append_left (List.getElem?_eq_some_iff.mp e).1];exact e
section
variable {K:PySem.W.Frag} {B:Addr→Prop} {H H':Hp} {S S':St} {E E':En} {σ:St}
theorem RR.step (g:Gr B H S E H' S' E') {r:R} {v:V} (h:RR K B H S E r v):RR K B H' S' E' r v:=by
 cases r with
 | p t=>exact Rp.step g.kp h
 | s i=>exact pre_get g.pre h
theorem RRs.step (g:Gr B H S E H' S' E'):∀{rs:List R} {vs:List V},RRs K B H S E rs vs→RRs K B H' S' E' rs vs
 | [],_,h=>h
 | _::_,_,⟨v,ws,e,h1,h2⟩=>⟨v,ws,e,h1.step g,RRs.step g h2⟩
def Lk (K:PySem.W.Frag) (B:Addr→Prop) (H:Hp) (S:St) (E:En) (Q':R→En→Prop) (Q:VK):Prop:=∀r E' v H' S',Q' r E'→Gr B H S E H' S' E'→RE K B H' S' E'→RR K B H' S' E' r v→Q v H'
def LkA (K:PySem.W.Frag) (n:Nat) (B:Addr→Prop) (H:Hp) (S:St) (E:En) (Q':List R→En→Prop) (Q:List V→Hp→Prop):Prop:=∀rs E' vs H' S',Q' rs E'→Gr B H S E H' S' E'→RE K B H' S' E'→RRs K B H' S' E' rs vs→vs.length=n→Q vs H'
theorem Lk.step {Q':R→En→Prop} {Q:VK} (l:Lk K B H S E Q' Q) (g:Gr B H S E H' S' E'):Lk K B H' S' E' Q' Q:=fun r E2 v H2 S2 q g2=>l r E2 v H2 S2 q (g.trans g2)
end
abbrev FE:=En→(R→En→Prop)→Prop
abbrev FA:=En→(List R→En→Prop)→Prop
abbrev FB:=En→(Bool→En→Prop)→Prop
def simE (K:PySem.W.Frag) (F:FE):TE:=fun σ H Q=>∃B S E Q',(∃τ,S=σ++τ)∧RE K B H S E∧F E Q'∧Lk K B H S E Q' Q
def simA (K:PySem.W.Frag) (n:Nat) (F:FA):TA:=fun σ H Q=>∃B S E Q',(∃τ,S=σ++τ)∧RE K B H S E∧F E Q'∧LkA K n B H S E Q' Q
def simB (K:PySem.W.Frag) (F:FB):TT:=fun σ H Q=>∃B S E Q',(∃τ,S=σ++τ)∧RE K B H S E∧F E Q'∧∀b E' H' S',Q' b E'→Gr B H S E H' S' E'→RE K B H' S' E'→Q b H'
section
variable {X:Cx} {e:Expr} {es:List Expr}
theorem QE.le {t t':TE} (h:QE X e t) (m:∀σ H Q,σ.length=X.N.length→t' σ H Q→t σ H Q):QE X e t':=⟨fun pins s σ H Q I z=>h.h pins s σ H Q I (m σ H Q I.len z)⟩
theorem QA.le {t t':TA} (h:QA X es t) (m:∀σ H Q,t' σ H Q→t σ H Q):QA X es t':=⟨fun pos pins s σ H Q I z=>h.h pos pins s σ H Q I (m σ H Q z)⟩
theorem QT.le {t t':TT} (h:QT X e t) (m:∀σ H Q,t' σ H Q→t σ H Q):QT X e t':=⟨fun pins s σ H Q I z=>h.h pins s σ H Q I (m σ H Q z)⟩
theorem QW.le {t t':TT} (h:QW X e t) (m:∀σ H Q,t' σ H Q→t σ H Q):QW X e t':=⟨fun wh pins s σ H Q I z=>h.h wh pins s σ H Q I (m σ H Q z)⟩
end
def vl (E:En):R→Option T
 | .p t=>some t
 | .s i=>match E[i]? with
  | some (some (.o _ xs))=>some (.lst xs)
  | some (some (.p t))=>some t
  | _=>none
def Rt (K:PySem.W.Frag) (H:Hp) (O:Addr→Prop):T→V→Prop
 | .tup xs,v=>∃a vs,v = .ref a∧SqT K H a vs∧Rps K H O xs vs
 | .lst xs,v=>∃a vs,v = .ref a∧SqL K H a vs∧Rps K H O xs vs
 | t,v=>Rp K H O t v
theorem Rp.rt {K:PySem.W.Frag} {H:Hp} {O:Addr→Prop} {t:T} {v:V} (h:Rp K H O t v):Rt K H O t v:=by
 cases t with
 | tup xs=>exact h.sqT
 | lst xs=>exact h.sqL
 | non=>exact h
 | bl _=>exact h
 | int _=>exact h
 | str _=>exact h
section
variable {K:PySem.W.Frag} {B:Addr→Prop} {H H':Hp} {S S':St} {E E':En} {σ:St}
theorem RE.vl (re:RE K B H S E) {r:R} {v:V} {t:T} (h:RR K B H S E r v) (e:vl E r=some t):Rt K H (Ow B S E) t v:=by
 cases r with
 | p u=>cases e;exact Rp.rt h
 | s i=>
  cases q:E[i]? with
  | none=>simp only [L2.vl,q] at e;cases e
  | some u=>
   cases u with
   | none=>simp only [L2.vl,q] at e;cases e
   | some u=>
    cases u with
    | p u=>
     simp only [L2.vl,q] at e
     cases e
     obtain ⟨w,h1,h2⟩:=re.pure i _ q
     have h':S[i]? = some (some v):=h
     rw [h'] at h1;cases h1
     exact h2.rt
    | o k xs=>
     simp only [L2.vl,q] at e
     cases e
     obtain ⟨a,vs,h1,h2,h3,_⟩:=re.own i k xs q
     have h':S[i]? = some (some v):=h
     rw [h'] at h1;cases h1
     exact ⟨a,vs,rfl,SqL.of h2,h3⟩
theorem RE.int (re:RE K B H S E) {r:R} {v:V} {i:Int} (h:RR K B H S E r v) (e:L2.vl E r=some (.int i)):v = .int i:=re.vl h e
theorem RE.bl (re:RE K B H S E) {r:R} {v:V} {b:Bool} (h:RR K B H S E r v) (e:L2.vl E r=some (.bl b)):v = .bl b:=re.vl h e
theorem RE.tup (re:RE K B H S E) {p:Addr} {ts:List T} {vs:List V} (hp:H p=none) (h:Rps K H (Ow B S E) ts vs) :
  Gr B H S E (upd H p (.tup vs)) S E∧RE K B (upd H p (.tup vs)) S E∧Rp K (upd H p (.tup vs)) (Ow B S E) (.tup ts) (.ref p):=by
 have k:Kp (Ow B S E) (Ow B S E) H (upd H p (.tup vs)):=Kp.upd hp
 exact ⟨⟨k,[],by simp⟩,re.kept fun b o e=>by rw [upd_ne (ne_of_none e hp)];exact e,p,vs,rfl,.inl ⟨re.nn hp,.inl upd_same⟩,h.step k⟩
theorem get_push {α:Type} {xs:List α} {x:α} {i:Nat} {y:α} (h:(xs++[x])[i]? = some y):(i<xs.length∧xs[i]? = some y)∨(i=xs.length∧y=x):=by
 rcases Nat.lt_or_ge i xs.length with c | c
 ·rw [List.getElem?_append_left c] at h;exact .inl ⟨c,h⟩
 ·rw [List.getElem?_append_right c] at h
  have:i-xs.length=0:=by
   rcases Nat.eq_zero_or_pos (i-xs.length) with z | z
   ·exact z
   ·rw [List.getElem?_eq_none (by simp;omega)] at h;cases h
  rw [this] at h
  simp at h
  exact .inr ⟨by omega,h.symm⟩
theorem get_last {α:Type} {xs:List α} {x:α}:(xs++[x])[xs.length]? = some x:=by simp
theorem RE.lst (re:RE K B H S E) {p:Addr} {ts:List T} {vs:List V} (hp:H p=none) (h:Rps K H (Ow B S E) ts vs) :
  Gr B H S E (upd H p (.lst vs)) (S++[some (.ref p)]) (E++[some (.o false ts)])∧RE K B (upd H p (.lst vs)) (S++[some (.ref p)]) (E++[some (.o false ts)]):=by
 have gE:∀{i:Nat} {u:U},(E++[some (.o false ts)])[i]? = some (some u)→(E[i]? = some (some u)∧i<E.length)∨(i=E.length∧u = .o false ts):=fun {i u} h=>by
  rcases get_push h with ⟨c,h⟩ | ⟨c,h⟩
  ·exact .inl ⟨h,c⟩
  ·exact .inr ⟨c,Option.some.inj h⟩
 have gS:∀{i:Nat} {x:Option V},S[i]? = some x→(S++[some (.ref p)])[i]? = some x:=fun {i x} h=>pre_get ⟨_,rfl⟩ h
 have gS':∀{i:Nat} {x:Option V},i<E.length→(S++[some (.ref p)])[i]? = some x→S[i]? = some x:=fun {i x} c h=>by
  rw [List.getElem?_append_left (by rw [re.len];exact c)] at h;exact h
 have lS:(S++[some (.ref p)])[E.length]? = some (some (.ref p)):=by rw [←re.len];simp
 have ow:∀b,Ow B (S++[some (.ref p)]) (E++[some (.o false ts)]) b→Ow B S E b∨H b=none:=fun b z=>by
  rcases z with z | ⟨i,k,xs,h1,h2⟩
  ·exact .inl (.inl z)
  rcases gE h1 with ⟨h1,c⟩ | ⟨c,h1⟩
  ·exact .inl (.inr ⟨i,k,xs,h1,gS' c h2⟩)
  ·subst c;rw [lS] at h2;cases h2;exact .inr hp
 have k:Kp (Ow B S E) (Ow B (S++[some (.ref p)]) (E++[some (.o false ts)])) H (upd H p (.lst vs)):=⟨fun b o e _=>by rw [upd_ne (ne_of_none e hp)];exact e,ow⟩
 refine ⟨⟨k,_,rfl⟩,⟨by simp [re.len],fun i t h=>?_,fun i l xs h=>?_,fun i j l m xs ys a h1 h2 h3 h4=>?_,fun a h=>?_⟩⟩
 ·rcases gE h with ⟨h,c⟩ | ⟨c,h⟩
  ·obtain ⟨v,h1,h2⟩:=re.pure i t h
   exact ⟨v,gS h1,h2.step k⟩
  ·cases h
 ·rcases gE h with ⟨h,c⟩ | ⟨c,h⟩
  ·obtain ⟨a,ws,h1,h2,h3,h4⟩:=re.own i l xs h
   exact ⟨a,ws,gS h1,by rw [upd_ne (ne_of_none h2 hp)];exact h2,h3.step k,h4⟩
  ·cases h
   subst c
   refine ⟨p,vs,lS,upd_same,?_,⟨fun z=>absurd z (by decide),fun z=>absurd (.inl z) (re.nn hp)⟩⟩
   exact Rps.step k (by assumption)
 ·rcases gE h1 with ⟨h1,c1⟩ | ⟨c1,h1⟩
  ·rcases gE h2 with ⟨h2,c2⟩ | ⟨c2,h2⟩
   ·exact re.inj i j l m xs ys a h1 h2 (gS' c1 h3) (gS' c2 h4)
   ·subst c2
    rw [lS] at h4;cases h4
    exact absurd (.inr ⟨i,l,xs,h1,gS' c1 h3⟩) (re.nn hp)
  ·rcases gE h2 with ⟨h2,c2⟩ | ⟨c2,h2⟩
   ·subst c1
    rw [lS] at h3;cases h3
    exact absurd (.inr ⟨j,m,ys,h2,gS' c2 h4⟩) (re.nn hp)
   ·rw [c1,c2]
 ·obtain ⟨us,q⟩:=re.bd a h
  exact ⟨us,by rw [upd_ne (ne_of_none q hp)];exact q⟩
end
section
variable {X:Cx} {K:PySem.W.Frag} {pos:Pos} {a b c e:Expr} {es rest:List Expr} {Fa Fb Fc:FE} {Fr:FA} {Fp Fq:FB}
def fVar (i:Nat):FE:=fun E Q=>match E[i]? with
 | some (some (.p t))=>Q (.p t) E
 | some (some (.o _ _))=>Q (.s i) E
 | _=>False
def fC (t:T):FE:=fun E Q=>Q (.p t) E
theorem fv (i:Nat) {x:Str} (hN:X.N[i]? = some x:=by rfl) (hv:Vis X.env.scope x:=by first | exact Or.inl rfl | exact Or.inr (Or.inl rfl) | exact Or.inr (Or.inr rfl)) (hd:(x==("__debug__":Str))=false:=by decide)
  (hcd:(x==("__classdict__":Str))=false:=by decide):QE X (.Name x pos) (simE K (fVar i)):=by
 refine (qv i hN hv hd hcd).le fun σ H Q hl ⟨B,S,E,Q',hS,re,hF,lk⟩=>?_
 have hi:i<σ.length:=by rw [hl];exact (List.getElem?_eq_some_iff.mp hN).1
 obtain ⟨τ,rfl⟩:=hS
 have back:∀{v},(σ++τ)[i]? = some (some v)→σ[i]? = some (some v):=fun h=>by rw [List.getElem?_append_left hi] at h;exact h
 unfold fVar at hF
 split at hF
 ·rename_i t q
  obtain ⟨v,h1,h2⟩:=re.pure i t q
  exact ⟨v,back h1,lk _ _ _ _ _ hF .refl re h2⟩
 ·rename_i k xs q
  obtain ⟨p,vs,h1,_⟩:=re.own i k xs q
  exact ⟨_,back h1,lk _ _ _ _ _ hF .refl re h1⟩
 ·exact hF.elim
theorem fe_c {v:V} {t:T} (h:QE X e (tC v)) (hv:∀K H O,Rp K H O t v):QE X e (simE K (fC t)):=h.le fun σ H Q hl ⟨B,S,E,Q',hS,re,hF,lk⟩=>lk _ _ _ _ _ hF .refl re (hv _ _ _)
theorem fe_int {i j pos}:QE X (.Constant (.int i) j pos) (simE K (fC (.int i))):=fe_c qe_int fun _ _ _=>rfl
theorem fe_bl {b j pos}:QE X (.Constant (.bool b) j pos) (simE K (fC (.bl b))):=fe_c qe_bl fun _ _ _=>rfl
theorem fe_non {j pos}:QE X (.Constant .none j pos) (simE K (fC .non)):=fe_c qe_non fun _ _ _=>rfl
theorem fe_str {x j pos}:QE X (.Constant (.str x) j pos) (simE K (fC (.str x))):=fe_c qe_str fun _ _ _=>rfl
theorem two {G:R→R→En→(R→En→Prop)→Prop} {σ:St} {H:Hp} {Q:VK} (h:simE K (fun E Q=>Fa E fun x E1=>Fb E1 fun y E2=>G x y E2 Q) σ H Q) {P:V→V→Hp→Prop}
  (k:∀B S E x y v w H2 Q',(∃τ,S=σ++τ)→RE K B H2 S E→RR K B H2 S E x v→RR K B H2 S E y w→G x y E Q'→Lk K B H2 S E Q' Q→P v w H2):simE K Fa σ H fun v H1=>simE K Fb σ H1 fun w H2=>P v w H2:=by
 obtain ⟨B,S,E,Q',⟨τ,hS⟩,re,hF,lk⟩:=h
 refine ⟨B,S,E,_,⟨τ,hS⟩,re,hF,fun r E1 v H1 S1 q g re1 rr=>?_⟩
 obtain ⟨τ1,hS1⟩:=g.pre
 refine ⟨B,S1,E1,_,⟨τ++τ1,by rw [hS1,hS,List.append_assoc]⟩,re1,q,fun r2 E2 w H2 S2 q2 g2 re2 rr2=>?_⟩
 obtain ⟨τ2,hS2⟩:=g2.pre
 exact k B S2 E2 r r2 v w H2 Q' ⟨τ++τ1++τ2,by rw [hS2,hS1,hS,List.append_assoc,List.append_assoc,List.append_assoc]⟩ re2 (rr.step g2) rr2 q2 (lk.step (g.trans g2))
theorem one {G:R→En→(R→En→Prop)→Prop} {σ:St} {H:Hp} {Q:VK} (h:simE K (fun E Q=>Fa E fun x E1=>G x E1 Q) σ H Q) {P:V→Hp→Prop}
  (k:∀B S E x v H2 Q',(∃τ,S=σ++τ)→RE K B H2 S E→RR K B H2 S E x v→G x E Q'→Lk K B H2 S E Q' Q→P v H2):simE K Fa σ H fun v H1=>P v H1:=by
 obtain ⟨B,S,E,Q',⟨τ,hS⟩,re,hF,lk⟩:=h
 refine ⟨B,S,E,_,⟨τ,hS⟩,re,hF,fun r E1 v H1 S1 q g re1 rr=>?_⟩
 obtain ⟨τ1,hS1⟩:=g.pre
 exact k B S1 E1 r v H1 Q' ⟨τ++τ1,by rw [hS1,hS,List.append_assoc]⟩ re1 rr q (lk.step g)
def i2 (x y:Option T) (k:Int→Int→Prop):Prop:=match x,y with
 | some (.int i),some (.int j)=>k i j
 | _,_=>False
theorem i2.ex {x y:Option T} {k:Int→Int→Prop} (h:i2 x y k):∃i j,x=some (.int i)∧y=some (.int j)∧k i j:=by
 unfold i2 at h;split at h
 ·exact ⟨_,_,rfl,rfl,h⟩
 ·exact h.elim
def fI (C:Int→Int→Prop) (g:Int→Int→Int) (Fa Fb:FE):FE:=fun E Q=>Fa E fun x E1=>Fb E1 fun y E2=>i2 (vl E2 x) (vl E2 y) fun i j=>C i j∧Q (.p (.int (g i j))) E2
def fI0 (g:Int→Int→Int) (Fa Fb:FE):FE:=fun E Q=>Fa E fun x E1=>Fb E1 fun y E2=>i2 (vl E2 x) (vl E2 y) fun i j=>Q (.p (.int (g i j))) E2
def fCp (g:Int→Int→Bool) (Fa Fb:FE):FE:=fun E Q=>Fa E fun x E1=>Fb E1 fun y E2=>i2 (vl E2 x) (vl E2 y) fun i j=>Q (.p (.bl (g i j))) E2
theorem fe_opI {op:Operator} {C:Int→Int→Prop} {g:Int→Int→Int} (ho:OpR X (binaryOp op) (rI C fun i j=>.int (g i j))) (ha:QE X a (simE K Fa)) (hb:QE X b (simE K Fb)):QE X (.BinOp a op b pos) (simE K (fI C g Fa Fb)):=by
 refine (qe_op ho ha hb).le fun σ H Q hl h=>two h fun B S E x y v w H2 Q' hS re rx ry q lk=>?_
 obtain ⟨i,j,e1,e2,c,q⟩:=q.ex
 exact ⟨i,j,re.int rx e1,re.int ry e2,c,lk _ _ _ _ _ q .refl re rfl⟩
theorem fe_opI0 {op:Operator} {g:Int→Int→Int} (ho:OpR X (binaryOp op) (rI0 fun i j=>.int (g i j))) (ha:QE X a (simE K Fa)) (hb:QE X b (simE K Fb)):QE X (.BinOp a op b pos) (simE K (fI0 g Fa Fb)):=by
 refine (qe_op ho ha hb).le fun σ H Q hl h=>two h fun B S E x y v w H2 Q' hS re rx ry q lk=>?_
 obtain ⟨i,j,e1,e2,q⟩:=q.ex
 exact ⟨i,j,re.int rx e1,re.int ry e2,lk _ _ _ _ _ q .refl re rfl⟩
theorem fe_cp {op:CmpOp} {g:Int→Int→Bool} (ho:OpR X (compareOp op) (rI0 fun i j=>.bl (g i j))) (ha:QE X a (simE K Fa)) (hb:QE X b (simE K Fb)) (hm:behindInMarks op b=false):QE X (.Compare a [op] [b] pos) (simE K (fCp g Fa Fb)):=by
 refine (qe_cmpR ho ha hb hm).le fun σ H Q hl h=>two h fun B S E x y v w H2 Q' hS re rx ry q lk=>?_
 obtain ⟨i,j,e1,e2,q⟩:=q.ex
 exact ⟨i,j,re.int rx e1,re.int ry e2,lk _ _ _ _ _ q .refl re rfl⟩
def i1 (x:Option T) (k:Int→Prop):Prop:=match x with
 | some (.int i)=>k i
 | _=>False
theorem i1.ex {x:Option T} {k:Int→Prop} (h:i1 x k):∃i,x=some (.int i)∧k i:=by
 unfold i1 at h;split at h
 ·exact ⟨_,rfl,h⟩
 ·exact h.elim
def b1 (x:Option T) (k:Bool→Prop):Prop:=match x with
 | some (.bl i)=>k i
 | _=>False
theorem b1.ex {x:Option T} {k:Bool→Prop} (h:b1 x k):∃i,x=some (.bl i)∧k i:=by
 unfold b1 at h;split at h
 ·exact ⟨_,rfl,h⟩
 ·exact h.elim
def fNeg (Fa:FE):FE:=fun E Q=>Fa E fun x E1=>i1 (vl E1 x) fun i=>Q (.p (.int (-i))) E1
theorem fe_neg (ha:QE X a (simE K Fa)):QE X (.UnaryOp .USub a pos) (simE K (fNeg Fa)):=by
 refine (qe_un un_neg ha).le fun σ H Q hl h=>one (Fa:=Fa) h fun B S E x v H2 Q' hS re rx q lk=>?_
 obtain ⟨i,e1,q⟩:=q.ex
 exact ⟨i,re.int rx e1,lk _ _ _ _ _ q .refl re rfl⟩
def fNot (Fa:FE):FE:=fun E Q=>Fa E fun x E1=>b1 (vl E1 x) fun i=>Q (.p (.bl (!i))) E1
theorem fe_not (ha:QE X a (simE K Fa)):QE X (.UnaryOp .Not a pos) (simE K (fNot Fa)):=by
 refine (qe_not ha).le fun σ H Q hl h=>one (Fa:=Fa) h fun B S E x v H2 Q' hS re rx q lk=>?_
 obtain ⟨i,e1,q⟩:=q.ex
 exact ⟨i,re.bl rx e1,lk _ _ _ _ _ q .refl re rfl⟩
theorem testB {G:Bool→En→(Bool→En→Prop)→Prop} {σ:St} {H:Hp} {Q:Bool→Hp→Prop} (h:simB K (fun E Q=>Fp E fun x E1=>G x E1 Q) σ H Q) {P:Bool→Hp→Prop}
  (k:∀B S E x H2 Q',(∃τ,S=σ++τ)→RE K B H2 S E→G x E Q'→(∀b E' H' S',Q' b E'→Gr B H2 S E H' S' E'→RE K B H' S' E'→Q b H')→P x H2):simB K Fp σ H P:=by
 obtain ⟨B,S,E,Q',⟨τ,hS⟩,re,hF,lk⟩:=h
 refine ⟨B,S,E,_,⟨τ,hS⟩,re,hF,fun r E1 H1 S1 q g re1=>?_⟩
 obtain ⟨τ1,hS1⟩:=g.pre
 exact k B S1 E1 r H1 Q' ⟨τ++τ1,by rw [hS1,hS,List.append_assoc]⟩ re1 q fun b E2 H2 S2 q2 g2 re2=>lk b E2 H2 S2 q2 (g.trans g2) re2
def bVal (Fa:FE):FB:=fun E Q=>Fa E fun x E1=>b1 (vl E1 x) fun i=>Q i E1
def bNot (Fp:FB):FB:=fun E Q=>Fp E fun x E1=>Q (!x) E1
def bOr (Fp Fq:FB):FB:=fun E Q=>Fp E fun x E1=>if x=true then Q true E1 else Fq E1 Q
theorem b_of {σ:St} {H:Hp} {Q:Bool→Hp→Prop} (h:simB K (bVal Fa) σ H Q):simE K Fa σ H fun v H1=>∃c,v = .bl c∧Q c H1:=by
 obtain ⟨B,S,E,Q',⟨τ,hS⟩,re,hF,lk⟩:=h
 refine ⟨B,S,E,_,⟨τ,hS⟩,re,hF,fun r E1 v H1 S1 q g re1 rr=>?_⟩
 obtain ⟨i,e1,q⟩:=q.ex
 exact ⟨i,re1.bl rr e1,lk _ _ _ _ q g re1⟩
theorem ft_val (h:QE X e (simE K Fa)) (he:∀whole,isTrue e X.env whole=(do let v ←whole;standAt e.pos;holding [v] (truthy v)):=by intro _;rfl):QT X e (simB K (bVal Fa)):=(qt_val h he).le fun σ H Q z=>b_of z
theorem ft_not (ha:QT X a (simB K Fp)):QT X (.UnaryOp .Not a pos) (simB K (bNot Fp)):=(qt_not ha).le fun σ H Q h=>testB (Fp:=Fp) h fun B S E x H2 Q' hS re q lk=>lk _ _ _ _ q .refl re
theorem fw_or1 (ha:QT X a (simB K Fp)):QW X (.BoolOp .Or [a] pos) (simB K Fp):=qw_or1 ha
theorem fw_or (ha:QT X a (simB K Fp)) (hb:QW X (.BoolOp .Or (b::rest) pos) (simB K Fq)):QW X (.BoolOp .Or (a::b::rest) pos) (simB K (bOr Fp Fq)):=by
 refine (qw_or ha hb).le fun σ H Q h=>testB (Fp:=Fp) h fun B S E x H2 Q' hS re q lk=>?_
 cases x
 ·exact ⟨B,S,E,Q',hS,re,q,lk⟩
 ·exact lk _ _ _ _ q .refl re
theorem ft_w (h:QW X e (simB K Fp)):QT X e (simB K Fp):=qt_w h
def fAnd (Fa Fb:FE):FE:=fun E Q=>Fa E fun x E1=>b1 (vl E1 x) fun i=>if i=true then Fb E1 Q else Q (.p (.bl false)) E1
def fOr (Fa Fb:FE):FE:=fun E Q=>Fa E fun x E1=>b1 (vl E1 x) fun i=>if i=true then Q (.p (.bl true)) E1 else Fb E1 Q
theorem fe_and (ha:QE X a (simE K Fa)) (hb:QE X (.BoolOp .And (b::rest) pos) (simE K Fb)):QE X (.BoolOp .And (a::b::rest) pos) (simE K (fAnd Fa Fb)):=by
 refine (qe_and ha hb).le fun σ H Q hl h=>one (Fa:=Fa) h fun B S E x v H2 Q' hS re rx q lk=>?_
 obtain ⟨i,e1,q⟩:=q.ex
 refine ⟨i,re.bl rx e1,?_⟩
 cases i
 ·exact lk _ _ _ _ _ q .refl re rfl
 ·exact ⟨B,S,E,Q',hS,re,q,lk⟩
theorem fe_or (ha:QE X a (simE K Fa)) (hb:QE X (.BoolOp .Or (b::rest) pos) (simE K Fb)):QE X (.BoolOp .Or (a::b::rest) pos) (simE K (fOr Fa Fb)):=by
 refine (qe_or ha hb).le fun σ H Q hl h=>one (Fa:=Fa) h fun B S E x v H2 Q' hS re rx q lk=>?_
 obtain ⟨i,e1,q⟩:=q.ex
 refine ⟨i,re.bl rx e1,?_⟩
 cases i
 ·exact ⟨B,S,E,Q',hS,re,q,lk⟩
 ·exact lk _ _ _ _ _ q .refl re rfl
theorem fe_one {op} (h:QE X a (simE K Fa)):QE X (.BoolOp op [a] pos) (simE K Fa):=qe_one h
def fIf (Fp:FB) (Fa Fb:FE):FE:=fun E Q=>Fp E fun x E1=>if x=true then Fa E1 Q else Fb E1 Q
theorem fe_if (hc:QT X c (simB K Fp)) (ha:QE X a (simE K Fa)) (hb:QE X b (simE K Fb)):QE X (.IfExp c a b pos) (simE K (fIf Fp Fa Fb)):=by
 refine (qe_ifExp hc ha hb).le fun σ H Q hl ⟨B,S,E,Q',⟨τ,hS⟩,re,hF,lk⟩=>?_
 refine ⟨B,S,E,_,⟨τ,hS⟩,re,hF,fun r E1 H1 S1 q g re1=>?_⟩
 obtain ⟨τ1,hS1⟩:=g.pre
 have hp:∃t,S1=σ++t:=⟨τ++τ1,by rw [hS1,hS,List.append_assoc]⟩
 cases r
 ·exact ⟨B,S1,E1,Q',hp,re1,q,lk.step g⟩
 ·exact ⟨B,S1,E1,Q',hp,re1,q,lk.step g⟩
def aNil:FA:=fun E Q=>Q [] E
def aCons (Fa:FE) (Fr:FA):FA:=fun E Q=>Fa E fun r E1=>Fr E1 fun rs E2=>Q (r::rs) E2
theorem fa_nil:QA X [] (simA K 0 aNil):=qa_nil.le fun σ H Q ⟨B,S,E,Q',hS,re,hF,lk⟩=>lk _ _ _ _ _ hF .refl re rfl rfl
theorem fc {n:Nat} (ha:QE X e (simE K Fa)) (hr:QA X es (simA K n Fr)) (hs:isStar e=false:=by rfl):QA X (e::es) (simA K (n+1) (aCons Fa Fr)):=by
 refine (qc ha hr hs).le fun σ H Q ⟨B,S,E,Q',⟨τ,hS⟩,re,hF,lk⟩=>?_
 refine ⟨B,S,E,_,⟨τ,hS⟩,re,hF,fun r E1 v H1 S1 q g re1 rr=>?_⟩
 obtain ⟨τ1,hS1⟩:=g.pre
 exact ⟨B,S1,E1,_,⟨τ++τ1,by rw [hS1,hS,List.append_assoc]⟩,re1,q,fun rs E2 vs H2 S2 q2 g2 re2 rr2 hn=>lk _ _ _ _ _ q2 (g.trans g2) re2 ⟨v,vs,rfl,rr.step g2,rr2⟩ (by rw [List.length_cons,hn])⟩
theorem args {n:Nat} {G:List R→En→(R→En→Prop)→Prop} {σ:St} {H:Hp} {Q:VK} (h:simE K (fun E Q=>Fr E fun rs E1=>G rs E1 Q) σ H Q) {P:List V→Hp→Prop}
  (k:∀B S E rs vs H2 Q',(∃τ,S=σ++τ)→RE K B H2 S E→RRs K B H2 S E rs vs→vs.length=n→G rs E Q'→Lk K B H2 S E Q' Q→P vs H2):simA K n Fr σ H P:=by
 obtain ⟨B,S,E,Q',⟨τ,hS⟩,re,hF,lk⟩:=h
 refine ⟨B,S,E,_,⟨τ,hS⟩,re,hF,fun r E1 v H1 S1 q g re1 rr hn=>?_⟩
 obtain ⟨τ1,hS1⟩:=g.pre
 exact k B S1 E1 r v H1 Q' ⟨τ++τ1,by rw [hS1,hS,List.append_assoc]⟩ re1 rr hn q (lk.step g)
def pures:List R→Option (List T)
 | []=>some []
 | .p t::rs=>(pures rs).map (t::·)
 | _=>none
theorem pures_rp {B:Addr→Prop} {H:Hp} {S:St} {E:En}:∀{rs:List R} {vs:List V} {ts:List T},RRs K B H S E rs vs→pures rs=some ts→Rps K H (Ow B S E) ts vs
 | [],_,_,h,e=>by cases e;exact h
 | .p t::rs,_,ts,⟨v,ws,e1,h1,h2⟩,e=>by
  cases q:pures rs with
  | none=>rw [pures,q] at e;cases e
  | some us=>
   rw [pures,q] at e
   cases e
   exact ⟨v,ws,e1,h1,pures_rp h2 q⟩
 | .s _::_,_,_,_,e=>by cases e
def o1 {α:Type} (x:Option α) (k:α→Prop):Prop:=match x with
 | some y=>k y
 | none=>False
theorem o1.ex {α:Type} {x:Option α} {k:α→Prop} (h:o1 x k):∃y,x=some y∧k y:=by
 cases x with
 | none=>exact h.elim
 | some y=>exact ⟨y,rfl,h⟩
def fTup (Fr:FA):FE:=fun E Q=>Fr E fun rs E1=>o1 (pures rs) fun ts=>Q (.p (.tup ts)) E1
def fLst (Fr:FA):FE:=fun E Q=>Fr E fun rs E1=>o1 (pures rs) fun ts=>Q (.s E1.length) (E1++[some (.o false ts)])
theorem fe_tup {x1} {n:Nat} (h:QA X es (simA K n Fr)) (hz:n≤1000:=by decide):QE X (.Tuple es x1 pos) (simE K (fTup Fr)):=by
 refine (qe_tup h).le fun σ H Q hl h=>args (Fr:=Fr) h fun B S E rs vs H2 Q' hS re rr hn q lk=>⟨by rw [hn];exact Nat.le_of_lt (small1000 hz),fun p hp=>?_⟩
 obtain ⟨ts,e,q⟩:=q.ex
 obtain ⟨g,re',rp⟩:=re.tup hp (pures_rp rr e)
 exact lk _ _ _ _ _ q g re' rp
theorem fe_lst {n:Nat} (h:QA X es (simA K n Fr)) (hz:n≤1000:=by decide):QE X (.List es pos) (simE K (fLst Fr)):=by
 refine (qe_lst h).le fun σ H Q hl h=>args (Fr:=Fr) h fun B S E rs vs H2 Q' hS re rr hn q lk=>⟨by rw [hn];exact Nat.le_of_lt (small1000 hz),fun p hp=>?_⟩
 obtain ⟨ts,e,q⟩:=q.ex
 obtain ⟨g,re'⟩:=re.lst hp (pures_rp rr e)
 exact lk _ _ _ _ _ q g re' (by rw [←re.len];exact get_last)
def seqT:T→Option (List T)
 | .tup xs=>some xs
 | .lst xs=>some xs
 | _=>none
def ix2 (x y:Option T) (k:T→Prop):Prop:=match x,y with
 | some (.tup xs),some (.int i)=>o1 (atI xs i) k
 | some (.lst xs),some (.int i)=>o1 (atI xs i) k
 | _,_=>False
theorem atI_rp {H:Hp} {O:Addr→Prop} {xs:List T} {vs:List V} {i:Int} {t:T} (h:Rps K H O xs vs) (e:atI xs i=some t):∃v,atI vs i=some v∧Rp K H O t v:=by
 unfold atI at e ⊢
 rw [h.length]
 cases q:ixN xs.length i with
 | none=>rw [q] at e;cases e
 | some j=>rw [q] at e;exact h.get e
def fIx (Fa Fb:FE):FE:=fun E Q=>Fa E fun x E1=>Fb E1 fun y E2=>ix2 (vl E2 x) (vl E2 y) fun t=>Q (.p t) E2
theorem fe_ix (eK:X.K=K) (ha:QE X a (simE K Fa)) (hb:QE X b (simE K Fb)) (hs:PlainIx b):QE X (.Subscript a b pos) (simE K (fIx Fa Fb)):=by
 subst eK
 refine (qe_ix ix_seq ha hb hs).le fun σ H Q hl h=>two (Fa:=Fa) (Fb:=Fb) h fun B S E x y v w H2 Q' hS re rx ry q lk=>?_
 unfold ix2 at q
 split at q
 ·rename_i xs i e1 e2
  obtain ⟨t,e3,q⟩:=q.ex
  obtain ⟨p,vs,rfl,sq,rs⟩:=re.vl rx e1
  obtain ⟨u,h1,h2⟩:=atI_rp rs e3
  exact .inr (.inl ⟨p,vs,i,u,rfl,re.int ry e2,sq,h1,lk _ _ _ _ _ q .refl re h2⟩)
 ·rename_i xs i e1 e2
  obtain ⟨t,e3,q⟩:=q.ex
  obtain ⟨p,vs,rfl,sq,rs⟩:=re.vl rx e1
  obtain ⟨u,h1,h2⟩:=atI_rp rs e3
  exact .inl ⟨p,vs,i,u,rfl,re.int ry e2,sq,h1,lk _ _ _ _ _ q .refl re h2⟩
 ·exact q.elim
def fLen (Fr:FA):FE:=fun E Q=>Fr E fun rs E1=>match rs with
 | [x]=>o1 ((vl E1 x).bind seqT) fun xs=>Q (.p (.int xs.length)) E1
 | _=>False
theorem fe_len {n:Nat} {p:Pos} (eK:X.K=K) (hg:Gl X "len") (hm:X.mg "len" = none) (ha:QA X (e::es) (simA K n Fr)) (hs:noStar (e::es)=true:=by rfl):QE X (.Call (.Name "len" p) (e::es) [] pos) (simE K (fLen Fr)):=by
 subst eK
 refine (qe_callBS call_len_seq hg hm PySem.boot_len ha (by decide) (by decide) hs).le fun σ H Q hl h=>args (Fr:=Fr) h fun B S E rs vs H2 Q' hS re rr hn q lk=>?_
 match rs,rr,q with
 | [x],⟨v,ws,e1,h1,h2⟩,q=>
  cases h2;subst e1
  obtain ⟨xs,e2,q⟩:=o1.ex q
  obtain ⟨t,e3,e2⟩:=Option.bind_eq_some_iff.mp e2
  have rt:=re.vl h1 e3
  cases t with
  | tup ys=>
   cases e2
   obtain ⟨p,us,rfl,sq,rs⟩:=rt
   exact ⟨p,us,rfl,.inr sq,by rw [rs.length];exact lk _ _ _ _ _ q .refl re rfl⟩
  | lst ys=>
   cases e2
   obtain ⟨p,us,rfl,sq,rs⟩:=rt
   exact ⟨p,us,rfl,.inl sq,by rw [rs.length];exact lk _ _ _ _ _ q .refl re rfl⟩
  | _=>cases e2
 | [],_,q=>exact q.elim
 | _::_::_,_,q=>exact q.elim
def fAbs (Fr:FA):FE:=fun E Q=>Fr E fun rs E1=>match rs with
 | [x]=>i1 (vl E1 x) fun i=>Q (.p (.int (i.natAbs:Int))) E1
 | _=>False
theorem fe_abs {n:Nat} {p:Pos} (hg:Gl X "abs") (hm:X.mg "abs" = none) (ha:QA X (e::es) (simA K n Fr)) (hs:noStar (e::es)=true:=by rfl):QE X (.Call (.Name "abs" p) (e::es) [] pos) (simE K (fAbs Fr)):=by
 refine (qe_callBS call_absV hg hm boot_abs ha (by decide) (by decide) hs).le fun σ H Q hl h=>args (Fr:=Fr) h fun B S E rs vs H2 Q' hS re rr hn q lk=>?_
 match rs,rr,q with
 | [x],⟨v,ws,e1,h1,h2⟩,q=>
  cases h2;subst e1
  obtain ⟨i,e2,q⟩:=i1.ex q
  exact ⟨i,by rw [re.int h1 e2],lk _ _ _ _ _ q .refl re rfl⟩
 | [],_,q=>exact q.elim
 | _::_::_,_,q=>exact q.elim
def fIntB (Fr:FA):FE:=fun E Q=>Fr E fun rs E1=>match rs with
 | [x]=>b1 (vl E1 x) fun i=>Q (.p (.int (if i then 1 else 0))) E1
 | _=>False
theorem fe_intB {n:Nat} {p:Pos} (hg:Gl X "int") (hm:X.mg "int" = none) (ha:QA X (e::es) (simA K n Fr)) (hs:noStar (e::es)=true:=by rfl):QE X (.Call (.Name "int" p) (e::es) [] pos) (simE K (fIntB Fr)):=by
 refine (qe_callTyS call_intB hg hm (by decide +kernel) ha (by decide) (by decide) hs).le fun σ H Q hl h=>args (Fr:=Fr) h fun B S E rs vs H2 Q' hS re rr hn q lk=>?_
 match rs,rr,q with
 | [x],⟨v,ws,e1,h1,h2⟩,q=>
  cases h2;subst e1
  obtain ⟨i,e2,q⟩:=b1.ex q
  exact ⟨i,by rw [re.bl h1 e2],lk _ _ _ _ _ q .refl re rfl⟩
 | [],_,q=>exact q.elim
 | _::_::_,_,q=>exact q.elim
def fDivmod (Fr:FA):FE:=fun E Q=>Fr E fun rs E1=>match rs with
 | [x,y]=>i2 (vl E1 x) (vl E1 y) fun i j=>(0<j∧j<2^200)∧Q (.p (.tup [.int (i/j),.int (i%j)])) E1
 | _=>False
theorem fe_divmod {n:Nat} {p:Pos} (hg:Gl X "divmod") (hm:X.mg "divmod" = none) (ha:QA X (e::es) (simA K n Fr)) (hs:noStar (e::es)=true:=by rfl):QE X (.Call (.Name "divmod" p) (e::es) [] pos) (simE K (fDivmod Fr)):=by
 refine (qe_callBS call_divmodB hg hm boot_divmod ha (by decide) (by decide) hs).le fun σ H Q hl h=>args (Fr:=Fr) h fun B S E rs vs H2 Q' hS re rr hn q lk=>?_
 match rs,rr,q with
 | [x,y],⟨v,ws,e1,h1,w,ws',e2,h2,h3⟩,q=>
  cases h3;subst e2;subst e1
  obtain ⟨i,j,e3,e4,⟨c1,c2⟩,q⟩:=i2.ex q
  refine ⟨i,j,by rw [re.int h1 e3,re.int h2 e4],c1,c2,fun p hp=>?_⟩
  obtain ⟨g,re',rp⟩:=re.tup (ts:=[.int (i/j),.int (i%j)]) (vs:=[.int (i/j),.int (i%j)]) hp ⟨_,_,rfl,rfl,_,_,rfl,rfl,rfl⟩
  exact lk _ _ _ _ _ q g re' rp
 | [],_,q=>exact q.elim
 | [_],_,q=>exact q.elim
 | _::_::_::_,_,q=>exact q.elim
end
end L2
set_option Elab.async false
set_option linter.all false
set_option maxRecDepth 100000
set_option maxHeartbeats 4000000
namespace L2
open PySem PySem.Spec PyProof.Rows
structure ET where
 nx:En→Prop
 rt:R→En→Prop
 bk:En→Prop:=fun _=>False
 ct:En→Prop:=fun _=>False
abbrev FS:=ET→En→Prop
abbrev Gs (B:Addr→Prop) (H:Hp) (S:St) (E:En) (H':Hp) (S':St) (E':En):Prop:=Kp (Ow B S E) (Ow B S' E') H H'
structure LS (K:PySem.W.Frag) (B:Addr→Prop) (H:Hp) (σ:St) (E:En) (DT:ET) (D:Ends):Prop where
 nx:∀σ' H' E',DT.nx E'→Gs B H σ E H' σ' E'→RE K B H' σ' E'→D.nx σ' H'
 rt:∀r E' v H' S',DT.rt r E'→Gs B H σ E H' S' E'→RE K B H' S' E'→RR K B H' S' E' r v→D.rt v H'
 bk:∀σ' H' E',DT.bk E'→Gs B H σ E H' σ' E'→RE K B H' σ' E'→D.bk σ' H'
 ct:∀σ' H' E',DT.ct E'→Gs B H σ E H' σ' E'→RE K B H' σ' E'→D.ct σ' H'
theorem LS.step {K:PySem.W.Frag} {B:Addr→Prop} {H H':Hp} {σ σ':St} {E E':En} {DT:ET} {D:Ends} (l:LS K B H σ E DT D) (g:Gs B H σ E H' σ' E'):LS K B H' σ' E' DT D:=
 ⟨fun a b c d e=>l.nx a b c d (g.trans e),fun a b c d e f h=>l.rt a b c d e f (g.trans h),fun a b c d e=>l.bk a b c d (g.trans e),fun a b c d e=>l.ct a b c d (g.trans e)⟩
def simS (K:PySem.W.Frag) (F:FS):TS:=fun D σ H=>∃B E DT,RE K B H σ E∧F DT E∧LS K B H σ E DT D
section
variable {X:Cx} {st:Stmt} {sts:List Stmt}
theorem QS.le {t t':TS} (h:QS X st t) (m:∀D σ H,σ.length=X.N.length→t' D σ H→t D σ H):QS X st t':=⟨fun pins s σ H D I z=>h.h pins s σ H D I (m D σ H I.len z)⟩
theorem QB.le {t t':TS} (h:QB X sts t) (m:∀D σ H,t' D σ H→t D σ H):QB X sts t':=⟨fun pins s σ H D I z=>h.h pins s σ H D I (m D σ H z)⟩
theorem QG.le {e:Expr} {t t':TG} (h:QG X e t) (m:∀v σ H Q,σ.length=X.N.length→t' v σ H Q→t v σ H Q):QG X e t':=⟨fun pins s σ H v u Q I r z=>h.h pins s σ H v u Q I r (m v σ H Q I.len z)⟩
theorem QGs.le {es:List Expr} {t t':TGs} (h:QGs X es t) (m:∀v σ H Q,t' v σ H Q→t v σ H Q):QGs X es t':=⟨fun pins s σ H v u Q I r z=>h.h pins s σ H v u Q I r (m v σ H Q z)⟩
theorem QI.le {tg e:Expr} {t t':TI} (h:QI X tg e t) (m:∀σ H Q,σ.length=X.N.length→t' σ H Q→t σ H Q):QI X tg e t':=⟨fun pins s σ H R I z=>h.h pins s σ H R I (m σ H R I.len z)⟩
end
section
variable {K:PySem.W.Frag} {B:Addr→Prop} {H H':Hp} {S S':St} {E E':En} {σ:St}
theorem RE.map (re:RE K B H S E) (hl:S'.length=E'.length) (hp:∀(i:Nat) (t:T),E'[i]? = some (some (.p t))→∃v,S'[i]? = some (some v)∧Rp K H (Ow B S E) t v)
  (f:Nat→Nat) (ho:∀(i:Nat) (k:Bool) (xs:List T),E'[i]? = some (some (.o k xs))→E[f i]? = some (some (.o k xs))∧∃a,S[f i]? = some (some (.ref a))∧S'[i]? = some (some (.ref a)))
  (hf:∀(i j:Nat) (k l:Bool) (xs ys:List T),E'[i]? = some (some (.o k xs))→E'[j]? = some (some (.o l ys))→f i=f j→i=j):RE K B H S' E'∧∀b,Ow B S' E' b→Ow B S E b:=by
 have ow:∀b,Ow B S' E' b→Ow B S E b:=fun b z=>by
  rcases z with z | ⟨i,k,xs,h1,h2⟩
  ·exact .inl z
  obtain ⟨h3,a,h4,h5⟩:=ho i k xs h1
  rw [h2] at h5;cases h5
  exact .inr ⟨f i,k,xs,h3,h4⟩
 refine ⟨⟨hl,fun i t h=>?_,fun i k xs h=>?_,fun i j k l xs ys a h1 h2 h3 h4=>?_,re.bd⟩,ow⟩
 ·obtain ⟨v,h1,h2⟩:=hp i t h
  exact ⟨v,h1,h2.step (Kp.less ow)⟩
 ·obtain ⟨h3,a,h4,h5⟩:=ho i k xs h
  obtain ⟨a',vs,q1,q2,q3,q4⟩:=re.own _ k xs h3
  rw [h4] at q1;cases q1
  exact ⟨a,vs,h5,q2,q3.step (Kp.less ow),q4⟩
 ·obtain ⟨p1,a1,p2,p3⟩:=ho i k xs h1
  obtain ⟨r1,a2,r2,r3⟩:=ho j l ys h2
  rw [h3] at p3;cases p3
  rw [h4] at r3;cases r3
  exact hf i j k l xs ys h1 h2 (re.inj _ _ k l xs ys _ p1 r1 p2 r2)
theorem RE.cut (re:RE K B H' S' E') (hS:∃τ,S'=σ++τ) (hl:σ.length=E.length):RE K B H' σ (E'.take E.length)∧∀b,Ow B σ (E'.take E.length) b→Ow B S' E' b:=by
 obtain ⟨τ,rfl⟩:=hS
 have e:(σ++τ).take E.length=σ:=by rw [←hl];simp
 have:=re.take E.length
 rw [e] at this
 refine ⟨this,fun b z=>?_⟩
 rcases z with z | ⟨i,k,xs,h1,h2⟩
 ·exact .inl z
 have hi:i<E.length:=by
  rcases Nat.lt_or_ge i E.length with c | c
  ·exact c
  ·rw [List.getElem?_take_eq_none (by omega)] at h1;cases h1
 exact .inr ⟨i,k,xs,by rw [List.getElem?_take_of_lt hi] at h1;exact h1,pre_get ⟨τ,rfl⟩ h2⟩
theorem RE.setP (re:RE K B H S E) {i:Nat} {t:T} {v:V} (h:Rp K H (Ow B S E) t v):RE K B H (S.set i (some v)) (E.set i (some (.p t)))∧∀b,Ow B (S.set i (some v)) (E.set i (some (.p t))) b→Ow B S E b:=by
 refine re.map (by simp [re.len]) (fun j u hj=>?_) id (fun j k xs hj=>?_) (fun _ _ _ _ _ _ _ _ h=>h)
 ·rw [List.getElem?_set] at hj
  by_cases c:i=j
  ·subst c
   rw [if_pos rfl] at hj
   split at hj
   ·cases hj
    rename_i hi
    exact ⟨v,by rw [List.getElem?_set_self (by rw [re.len];exact hi)],h⟩
   ·cases hj
  ·rw [if_neg c] at hj
   obtain ⟨w,h1,h2⟩:=re.pure j u hj
   exact ⟨w,by rw [List.getElem?_set_ne c];exact h1,h2⟩
 ·rw [List.getElem?_set] at hj
  by_cases c:i=j
  ·subst c
   rw [if_pos rfl] at hj
   split at hj<;>cases hj
  ·rw [if_neg c] at hj
   obtain ⟨a,vs,h1,_⟩:=re.own j k xs hj
   exact ⟨hj,a,h1,by rw [List.getElem?_set_ne c];exact h1⟩
theorem RE.setO (re:RE K B H S E) (hS:∃τ,S=σ++τ) {i j:Nat} {k:Bool} {xs:List T} (hj:σ.length≤j) (hE:E[j]? = some (some (.o k xs))) {v:V} (hv:S[j]? = some (some v)) :
  RE K B H (σ.set i (some v)) ((E.take σ.length).set i (some (.o k xs)))∧∀b,Ow B (σ.set i (some v)) ((E.take σ.length).set i (some (.o k xs))) b→Ow B S E b:=by
 obtain ⟨τ,rfl⟩:=hS
 have hle:σ.length≤E.length:=by rw [←re.len];simp
 have gt:∀{m:Nat} {x:Option U},(E.take σ.length)[m]? = some x→E[m]? = some x∧m<σ.length:=fun {m x} h=>by
  by_cases c:m<σ.length
  ·rw [List.getElem?_take_of_lt c] at h;exact ⟨h,c⟩
  ·rw [List.getElem?_take_eq_none (by omega)] at h;cases h
 refine re.map (by simp;omega) (fun m u hm=>?_) (fun m=>if m=i then j else m) (fun m l ys hm=>?_) (fun m n l l' ys zs h1 h2 h=>?_)
 ·rw [List.getElem?_set] at hm
  by_cases c:i=m
  ·subst c
   rw [if_pos rfl] at hm
   split at hm<;>cases hm
  ·rw [if_neg c] at hm
   obtain ⟨hm,lt⟩:=gt hm
   obtain ⟨w,h1,h2⟩:=re.pure m u hm
   rw [List.getElem?_append_left lt] at h1
   exact ⟨w,by rw [List.getElem?_set_ne c];exact h1,h2⟩
 ·rw [List.getElem?_set] at hm
  by_cases c:i=m
  ·subst c
   rw [if_pos rfl] at hm
   split at hm
   ·cases hm
    rename_i hi
    obtain ⟨a,vs,h1,_⟩:=re.own j k xs hE
    rw [hv] at h1;cases h1
    rw [if_pos rfl]
    refine ⟨hE,a,hv,?_⟩
    rw [List.getElem?_set_self (by rw [List.length_take] at hi;omega)]
   ·cases hm
  ·rw [if_neg c] at hm
   obtain ⟨hm,lt⟩:=gt hm
   obtain ⟨a,vs,h1,_⟩:=re.own m l ys hm
   rw [if_neg (fun z=>c z.symm)]
   refine ⟨hm,a,h1,?_⟩
   rw [List.getElem?_append_left lt] at h1
   rw [List.getElem?_set_ne c];exact h1
 ·have lt:∀{m:Nat} {l:Bool} {ys:List T},((E.take σ.length).set i (some (.o k xs)))[m]? = some (some (.o l ys))→m≠i→m<σ.length:=fun {m l ys} h1 c=>by
   rw [List.getElem?_set_ne (fun z=>c z.symm)] at h1
   exact (gt h1).2
  by_cases c1:m=i
  ·by_cases c2:n=i
   ·rw [c1,c2]
   ·simp only [if_pos c1,if_neg c2] at h
    have:=lt h2 c2
    omega
  ·by_cases c2:n=i
   ·simp only [if_neg c1,if_pos c2] at h
    have:=lt h1 c1
    omega
   ·simp only [if_neg c1,if_neg c2] at h
    exact h
theorem RE.frz (re:RE K B H S E) {i:Nat} {xs:List T} (h:E[i]? = some (some (.o false xs))):RE K B H S (E.set i (some (.p (.lst xs))))∧∀b,Ow B S (E.set i (some (.p (.lst xs)))) b→Ow B S E b∧S[i]?≠some (some (.ref b)):=by
 have hi:i<E.length:=(List.getElem?_eq_some_iff.mp h).1
 obtain ⟨a,vs,h1,h2,h3,h4⟩:=re.own i false xs h
 have get:∀{j:Nat} {u:U},(E.set i (some (.p (.lst xs))))[j]? = some (some u)→(j=i∧u = .p (.lst xs))∨(j≠i∧E[j]? = some (some u)):=fun {j u} hj=>by
  by_cases c:j=i
  ·subst c;rw [List.getElem?_set_self hi] at hj;cases hj;exact .inl ⟨rfl,rfl⟩
  ·rw [List.getElem?_set_ne (fun z=>c z.symm)] at hj;exact .inr ⟨c,hj⟩
 have ow:∀b,Ow B S (E.set i (some (.p (.lst xs)))) b→Ow B S E b∧S[i]?≠some (some (.ref b)):=fun b z=>by
  rcases z with z | ⟨j,k,ys,q1,q2⟩
  ·refine ⟨.inl z,fun w=>?_⟩
   rw [h1] at w;cases w
   exact absurd (h4.mpr z) (by decide)
  rcases get q1 with ⟨_,z⟩ | ⟨c,q1⟩
  ·cases z
  ·exact ⟨.inr ⟨j,k,ys,q1,q2⟩,fun z=>c (re.inj j i k false ys xs b q1 h q2 z)⟩
 have kl:Kp (Ow B S E) (Ow B S (E.set i (some (.p (.lst xs))))) H H:=Kp.less fun b z=>(ow b z).1
 refine ⟨⟨by simp [re.len],fun j t hj=>?_,fun j k ys hj=>?_,fun j m k l ys zs b q1 q2 q3 q4=>?_,re.bd⟩,ow⟩
 ·rcases get hj with ⟨c,z⟩ | ⟨c,hj⟩
  ·cases z
   subst c
   exact ⟨_,h1,a,vs,rfl,.inl ⟨fun z=>(ow a z).2 h1,.inl h2⟩,h3.step kl⟩
  ·obtain ⟨w,q1,q2⟩:=re.pure j t hj
   exact ⟨w,q1,q2.step kl⟩
 ·rcases get hj with ⟨_,z⟩ | ⟨c,hj⟩
  ·cases z
  ·obtain ⟨b,ws,q1,q2,q3,q4⟩:=re.own j k ys hj
   exact ⟨b,ws,q1,q2,q3.step kl,q4⟩
 ·rcases get q1 with ⟨_,z⟩ | ⟨_,q1⟩
  ·cases z
  rcases get q2 with ⟨_,z⟩ | ⟨_,q2⟩
  ·cases z
  exact re.inj j m k l ys zs b q1 q2 q3 q4
theorem RE.put (re:RE K B H S E) {i:Nat} {k:Bool} {xs ys:List T} {a:Addr} {ws:List V} (h:E[i]? = some (some (.o k xs))) (hS:S[i]? = some (some (.ref a))) (hw:Rps K H (Ow B S E) ys ws) :
  Gr B H S E (upd H a (.lst ws)) S (E.set i (some (.o k ys)))∧RE K B (upd H a (.lst ws)) S (E.set i (some (.o k ys))):=by
 have hi:i<E.length:=(List.getElem?_eq_some_iff.mp h).1
 have get:∀{j:Nat} {u:U},(E.set i (some (.o k ys)))[j]? = some (some u)→(j=i∧u = .o k ys)∨(j≠i∧E[j]? = some (some u)):=fun {j u} hj=>by
  by_cases c:j=i
  ·subst c;rw [List.getElem?_set_self hi] at hj;cases hj;exact .inl ⟨rfl,rfl⟩
  ·rw [List.getElem?_set_ne (fun z=>c z.symm)] at hj;exact .inr ⟨c,hj⟩
 have ow:∀b,Ow B S (E.set i (some (.o k ys))) b→Ow B S E b:=fun b z=>by
  rcases z with z | ⟨j,l,zs,q1,q2⟩
  ·exact .inl z
  rcases get q1 with ⟨c,z⟩ | ⟨c,q1⟩
  ·subst c;exact .inr ⟨j,k,xs,h,q2⟩
  ·exact .inr ⟨j,l,zs,q1,q2⟩
 have oa:Ow B S E a:=.inr ⟨i,k,xs,h,hS⟩
 have kk:∀b o,H b=some o→¬Ow B S E b→(upd H a (.lst ws)) b=some o:=fun b o e n=>by rw [upd_ne (fun z=>n (by rw [z];exact oa))];exact e
 have kp:Kp (Ow B S E) (Ow B S E) H (upd H a (.lst ws)):=⟨kk,fun b z=>.inl z⟩
 refine ⟨⟨⟨kk,fun b z=>.inl (ow b z)⟩,[],by simp⟩,re.step kk (by simp) (fun j t hj=>?_) (fun j l zs hj=>?_) (fun b hb=>?_)⟩
 ·rcases get hj with ⟨_,z⟩ | ⟨_,hj⟩
  ·cases z
  ·exact hj
 ·rcases get hj with ⟨c,z⟩ | ⟨c,hj⟩
  ·cases z
   subst c
   refine ⟨xs,h,fun b hb=>?_⟩
   rw [hS] at hb;cases hb
   exact ⟨ws,upd_same,hw.step kp⟩
  ·refine ⟨zs,hj,fun b hb=>?_⟩
   obtain ⟨b',us,q1,q2,q3,_⟩:=re.own j l zs hj
   rw [hb] at q1;cases q1
   have nb:b≠a:=fun z=>c (re.inj j i l k zs xs a hj h (by rw [←z];exact hb) hS)
   exact ⟨us,by rw [upd_ne nb];exact q2,q3.step kp⟩
 ·by_cases c:b=a
  ·subst c;exact ⟨ws,upd_same⟩
  ·rw [upd_ne c];exact re.bd b hb
end
section
variable {X:Cx} {K:PySem.W.Frag} {pos:Pos} {a b c e o i:Expr} {es rest:List Expr} {Fa Fb Fc Fe Fo Fi:FE} {Fr:FA} {Fp Fq:FB} {F G:FS} {st:Stmt} {sts body b1' b2':List Stmt}
def nfS:En→(En→Prop)→Prop
 | [],k=>k []
 | x::r,k=>nfS r fun r'=>k (x::r')
theorem nfS_eq:∀{E:En} {k:En→Prop},nfS E k→k E
 | [],_,h=>h
 | x::r,k,h=>nfS_eq (E:=r) (k:=fun r'=>k (x::r')) h
def sNext:FS:=fun D E=>D.nx E
def sSeq (F G:FS):FS:=fun D E=>F { D with nx:=fun E'=>nfS E' (G D) } E
theorem fb_nil:QB X [] (simS K sNext):=qb_nil.le fun D σ H ⟨B,E,DT,re,hF,l⟩=>l.nx _ _ _ hF (Kp.refl _ _) re
theorem fb_cons (h1:QS X st (simS K F)) (h2:QB X sts (simS K G)):QB X (st::sts) (simS K (sSeq F G)):=
 (qb_cons h1 h2).le fun D σ H ⟨B,E,DT,re,hF,l⟩=>⟨B,E,_,re,hF,⟨fun σ' H' E' hG g re'=>⟨B,E',DT,re',nfS_eq hG,l.step g⟩,l.rt,l.bk,l.ct⟩⟩
theorem fb_one (h1:QS X st (simS K F)):QB X [st] (simS K F):=qb_one h1
def sRet (Fa:FE):FS:=fun D E=>Fa E D.rt
theorem fs_ret (h:QE X e (simE K Fa)):QS X (.Return (some e) pos) (simS K (sRet Fa)):=
 (qs_ret h).le fun D σ H hl ⟨B,E,DT,re,hF,l⟩=>⟨B,σ,E,_,⟨[],by simp⟩,re,hF,fun r E' v H' S' q g re' rr=>l.rt r E' v H' S' q g.kp re' rr⟩
theorem afterB {D:Bool→Hp→Prop} {B:Addr→Prop} {σ:St} {H:Hp} {E:En} {P:Bool→En→Prop} (re:RE K B H σ E) (hF:Fp E fun b E'=>P b (E'.take E.length)) (k:∀b H' E',P b E'→Gs B H σ E H' σ E'→RE K B H' σ E'→D b H'):simB K Fp σ H D:=
 ⟨B,σ,E,_,⟨[],by simp⟩,re,hF,fun b E' H' S' q g re'=>by
  obtain ⟨r,ow⟩:=re'.cut (E:=E) g.pre re.len
  exact k b H' _ q (g.kp.trans (Kp.less ow)) r⟩
theorem afterE {P:R→En→En→Prop} {Q:VK} {B:Addr→Prop} {σ:St} {H:Hp} {E:En} (re:RE K B H σ E) (hF:Fa E fun r E'=>P r E' (E'.take E.length))
  (k:∀r E' v H' S',P r E' (E'.take E.length)→Gr B H σ E H' S' E'→RE K B H' S' E'→RR K B H' S' E' r v→RE K B H' σ (E'.take E.length)→(∀b,Ow B σ (E'.take E.length) b→Ow B S' E' b)→Q v H'):simE K Fa σ H Q:=
 ⟨B,σ,E,_,⟨[],by simp⟩,re,hF,fun r E' v H' S' q g re' rr=>by
  obtain ⟨r2,ow⟩:=re'.cut (E:=E) g.pre re.len
  exact k r E' v H' S' q g re' rr r2 ow⟩
def sIf (Fp:FB) (F G:FS):FS:=fun D E=>Fp E fun b E'=>if b=true then nfS (E'.take E.length) (F D) else nfS (E'.take E.length) (G D)
theorem fs_if (hc:QT X c (simB K Fp)) (ha:QB X b1' (simS K F)) (hb:QB X b2' (simS K G)):QS X (.If c b1' b2' pos) (simS K (sIf Fp F G)):=
 (qs_if hc ha hb).le fun D σ H hl ⟨B,E,DT,re,hF,l⟩=>afterB (P:=fun b E'=>if b=true then nfS E' (F DT) else nfS E' (G DT)) re hF fun b H' E' q g re'=>by
  cases b
  ·exact ⟨B,E',DT,re',nfS_eq q,l.step g⟩
  ·exact ⟨B,E',DT,re',nfS_eq q,l.step g⟩
def sDrop (Fa:FE):FS:=fun D E=>Fa E fun _ E'=>D.nx (E'.take E.length)
theorem fs_expr (he:QE X e (simE K Fa)) (hs:swapsWith e none pos.line X.env=pure false:=by rfl):QS X (.Expr e pos) (simS K (sDrop Fa)):=
 (qs_expr he hs).le fun D σ H hl ⟨B,E,DT,re,hF,l⟩=>afterE (P:=fun _ _ E'=>DT.nx E') re hF fun r E' v H' S' q g re' rr re2 ow=>l.nx _ _ _ q (g.kp.trans (Kp.less ow)) re2
def sAssert (Fp:FB):FS:=fun D E=>Fp E fun b E'=>b=true∧D.nx (E'.take E.length)
theorem fs_assert {m:Option Expr} (hc:QT X c (simB K Fp)):QS X (.Assert c m pos) (simS K (sAssert Fp)):=
 (qs_assert hc).le fun D σ H hl ⟨B,E,DT,re,hF,l⟩=>afterB (P:=fun b E'=>b=true∧DT.nx E') re hF fun b H' E' q g re'=>⟨q.1,l.nx _ _ _ q.2 g re'⟩
def pick (n:Nat) (E:En):R→Option U
 | .p t=>some (.p t)
 | .s j=>match E[j]? with
  | some (some (.p t))=>some (.p t)
  | some (some (.o k xs))=>if n≤j then some (.o k xs) else none
  | _=>none
theorem pick_ok {B:Addr→Prop} {σ S:St} {H:Hp} {E:En} {r:R} {v:V} {u:U} {i:Nat} (re:RE K B H S E) (hS:∃τ,S=σ++τ) (rr:RR K B H S E r v) (h:pick σ.length E r=some u) :
  RE K B H (σ.set i (some v)) ((E.take σ.length).set i (some u))∧∀b,Ow B (σ.set i (some v)) ((E.take σ.length).set i (some u)) b→Ow B S E b:=by
 have cutP:∀{t:T},Rp K H (Ow B S E) t v→RE K B H (σ.set i (some v)) ((E.take σ.length).set i (some (.p t)))∧∀b,Ow B (σ.set i (some v)) ((E.take σ.length).set i (some (.p t))) b→Ow B S E b:=fun {t} hp=>by
  obtain ⟨τ,rfl⟩:=hS
  have re2:=re.take σ.length
  rw [show (σ++τ).take σ.length=σ by simp] at re2
  have ow:∀b,Ow B σ (E.take σ.length) b→Ow B (σ++τ) E b:=fun b z=>by
   rcases z with z | ⟨j,k,xs,h1,h2⟩
   ·exact .inl z
   have hj:j<σ.length:=(List.getElem?_eq_some_iff.mp h2).1
   exact .inr ⟨j,k,xs,by rw [List.getElem?_take_of_lt hj] at h1;exact h1,pre_get ⟨τ,rfl⟩ h2⟩
  obtain ⟨q1,q2⟩:=re2.setP (i:=i) (hp.step (Kp.less ow))
  exact ⟨q1,fun b z=>ow b (q2 b z)⟩
 cases r with
 | p t=>cases h;exact cutP rr
 | s j=>
  cases q:E[j]? with
  | none=>simp only [pick,q] at h;cases h
  | some w=>
   cases w with
   | none=>simp only [pick,q] at h;cases h
   | some w=>
    cases w with
    | p t=>
     simp only [pick,q] at h
     cases h
     obtain ⟨v',h1,h2⟩:=re.pure j t q
     have rr':S[j]? = some (some v):=rr
     rw [rr'] at h1;cases h1
     exact cutP h2
    | o k xs=>
     simp only [pick,q] at h
     split at h
     ·cases h
      rename_i c
      exact re.setO hS c q rr
     ·cases h
def sSet (i:Nat) (Fa:FE):FS:=fun D E=>Fa E fun r E'=>o1 (pick E.length E' r) fun u=>D.nx ((E'.take E.length).set i (some u))
theorem fs_set {i:Nat} {x:Str} {pos':Pos} (hN:X.N.Nodup) (hi:X.N[i]? = some x) (hx:Loc X.env.scope x) (he:QE X e (simE K Fa)) (hs:swapsWith e (some (.Name x pos')) pos.line X.env=pure false:=by rfl)
  (hf:X.fn x=true∨X.env.scope.names.lookup x=some .local:=by first | exact .inl rfl | exact .inr rfl | assumption):QS X (.Assign [.Name x pos'] e pos) (simS K (sSet i Fa)):=
 (qs_set hN hi hx he hs hf).le fun D σ H hl ⟨B,E,DT,re,hF,l⟩=>⟨B,σ,E,_,⟨[],by simp⟩,re,hF,fun r E' v H' S' q g re' rr=>by
  obtain ⟨u,e1,q⟩:=q.ex
  rw [←re.len] at e1 q
  obtain ⟨r1,ow⟩:=pick_ok (i:=i) re' g.pre rr e1
  exact l.nx _ _ _ q (g.kp.trans (Kp.less ow)) r1⟩
end
end L2
set_option Elab.async false
set_option linter.all false
set_option maxRecDepth 100000
set_option maxHeartbeats 4000000
namespace L2
open PySem PySem.Spec PyProof.Rows
abbrev FG:=T→En→(En→Prop)→Prop
abbrev FGs:=List T→En→(En→Prop)→Prop
def simG (K:PySem.W.Frag) (G:FG):TG:=fun v σ H Q=>∃B τ E t Q',RE K B H (σ++τ) E∧Rp K H (Ow B (σ++τ) E) t v∧G t E Q'∧∀σ' H' E',Q' E'→Gs B H (σ++τ) E H' (σ'++τ) E'→RE K B H' (σ'++τ) E'→σ'.length=σ.length→Q σ' H'
def simGs (K:PySem.W.Frag) (G:FGs):TGs:=fun vs σ H Q=>∃B τ E ts Q',RE K B H (σ++τ) E∧Rps K H (Ow B (σ++τ) E) ts vs∧G ts E Q'∧∀σ' H' E',Q' E'→Gs B H (σ++τ) E H' (σ'++τ) E'→RE K B H' (σ'++τ) E'→σ'.length=σ.length→Q σ' H'
def kName (i:Nat):FG:=fun t E Q=>Q (E.set i (some (.p t)))
def kNil:FGs:=fun ts E Q=>match ts with
 | []=>Q E
 | _=>False
def kCons (g:FG) (gs:FGs):FGs:=fun ts E Q=>match ts with
 | t::r=>g t E fun E'=>gs r E' Q
 | []=>False
def kTup (n:Nat) (gs:FGs):FG:=fun t E Q=>match t with
 | .tup ts=>cond (Nat.beq ts.length n) (gs ts E Q) False
 | _=>False
def kSub (Fo Fi:FE):FG:=fun t E Q=>Fo E fun r E1=>Fi E1 fun z E2=>match r with
 | .s j=>match E2[j]? with
  | some (some (.o k xs))=>i1 (vl E2 z) fun m=>o1 (ixN xs.length m) fun l=>Q ((E2.set j (some (.o k (xs.set l t)))).take E.length)
  | _=>False
 | _=>False
section
variable {X:Cx} {K:PySem.W.Frag} {pos:Pos} {a b c e o i:Expr} {es rest:List Expr} {Fa Fb Fc Fe Fo Fi:FE} {Fr:FA} {Fp Fq:FB} {F G:FS} {st:Stmt} {sts body:List Stmt} {g:FG} {gs:FGs}
theorem fg_name {i:Nat} {x:Str} (hN:X.N.Nodup) (hi:X.N[i]? = some x) (hx:Loc X.env.scope x) (hf:X.fn x=true∨X.env.scope.names.lookup x=some .local:=by first | exact .inl rfl | exact .inr rfl | assumption):QG X (.Name x pos) (simG K (kName i)):=
 (qg_name hN hi hx hf).le fun v σ H Q hl ⟨B,τ,E,t,Q',re,rp,hF,l⟩=>by
  have hlt:i<σ.length:=by rw [hl];exact (List.getElem?_eq_some_iff.mp hi).1
  obtain ⟨r1,ow⟩:=re.setP (i:=i) rp
  rw [List.set_append_left _ _ hlt] at r1 ow
  exact l _ _ _ hF (Kp.less ow) r1 (by simp)
theorem fgs_nil:QGs X [] (simGs K kNil):=qgs_nil.le fun vs σ H Q ⟨B,τ,E,ts,Q',re,rp,hF,l⟩=>by
 cases ts with
 | nil=>exact ⟨rp,l _ _ _ hF (Kp.refl _ _) re rfl⟩
 | cons _ _=>exact hF.elim
theorem fgs_cons (h1:QG X e (simG K g)) (h2:QGs X es (simGs K gs)) (hs:(assignEach (e::es) X.env).map (·.2)=assign e X.env::(assignEach es X.env).map (·.2):=by rfl):QGs X (e::es) (simGs K (kCons g gs)):=
 (qgs_cons h1 h2 hs).le fun vs σ H Q ⟨B,τ,E,ts,Q',re,rp,hF,l⟩=>by
  cases ts with
  | nil=>exact hF.elim
  | cons t ts=>
   obtain ⟨v,r,e1,h1,h2⟩:=rp
   exact ⟨v,r,e1,B,τ,E,t,_,re,h1,hF,fun σ' H' E' q g re' hl=>⟨B,τ,E',ts,Q',re',h2.step g,q,fun σ2 H2 E2 q2 g2 re2 hl2=>l _ _ _ q2 (g.trans g2) re2 (hl2.trans hl)⟩⟩
theorem fg_tup {k n:Nat} (eK:X.K=K) (hc:X.calm=true) (h:QGs X es (simGs K gs)) (hn:(assignEach es X.env).length=n:=by rfl) (hst:(assignEach es X.env).findIdx? (·.1)=none:=by rfl):QG X (.Tuple es k pos) (simG K (kTup n gs)):=by
 subst eK
 refine (qg_tup hc h hn hst).le fun v σ H Q hl ⟨B,τ,E,t,Q',re,rp,hF,l⟩=>?_
 cases t with
 | tup ts=>
  have hF':cond (Nat.beq ts.length n) (gs ts E Q') False:=hF
  cases q:Nat.beq ts.length n with
  | false=>rw [q] at hF';exact hF'.elim
  | true=>
   rw [q] at hF'
   obtain ⟨p,vs,e1,sq,rs⟩:=rp.sqT
   exact ⟨p,vs,e1,sq,by rw [rs.length];exact Nat.eq_of_beq_eq_true q,B,τ,E,ts,Q',re,rs,hF',l⟩
 | _=>exact hF.elim
theorem fg_sub (ho:QE X o (simE K Fo)) (hi:QE X i (simE K Fi))
  (ha:∀v,assign (.Subscript o i pos) X.env v=(do
   let ov ←holding [v] (eval o X.env)
   let iv ←holding [v,ov] (eval i X.env)
   standAt pos
   holding [v,ov,iv] (setItem ov iv v)
   release [v,ov,iv] []):=by intro _;rfl):QG X (.Subscript o i pos) (simG K (kSub Fo Fi)):=by
 refine (qg_sub ho hi set_list ha).le fun v σ H Q hl ⟨B,τ,E,t,Q',re,rp,hF,l⟩=>?_
 refine ⟨B,σ++τ,E,_,⟨τ,rfl⟩,re,hF,fun r E1 w H1 S1 q g1 re1 rr=>?_⟩
 obtain ⟨τ1,hS1⟩:=g1.pre
 refine ⟨B,S1,E1,_,⟨τ++τ1,by rw [hS1,List.append_assoc]⟩,re1,q,fun z E2 y H2 S2 q2 g2 re2 rr2=>?_⟩
 have g12:=g1.trans g2
 cases r with
 | p _=>exact q2.elim
 | s j=>
  have rj:S2[j]? = some (some w):=pre_get g2.pre rr
  cases hE:E2[j]? with
  | none=>simp only [hE] at q2
  | some u=>
   cases u with
   | none=>simp only [hE] at q2
   | some u=>
    cases u with
    | p _=>simp only [hE] at q2
    | o k xs=>
     simp only [hE] at q2
     obtain ⟨m,e1,q2⟩:=q2.ex
     obtain ⟨n,e2,q2⟩:=q2.ex
     obtain ⟨p,vs,h1,h2,h3,h4⟩:=re2.own j k xs hE
     rw [rj] at h1;cases h1
     refine ⟨p,vs,m,n,rfl,re2.int rr2 e1,h2,by rw [h3.length];exact e2,?_⟩
     obtain ⟨g3,re3⟩:=re2.put (ys:=xs.set n t) (ws:=vs.set n v) hE rj (h3.set (rp.step g12.kp) n)
     obtain ⟨re4,ow⟩:=re3.cut (E:=E) (g12.trans g3).pre re.len
     exact l _ _ _ q2 ((g12.trans g3).kp.trans (Kp.less ow)) re4 rfl
def sAsg (Fa:FE) (g:FG):FS:=fun D E=>Fa E fun r E'=>match r with
 | .p t=>g t (E'.take E.length) D.nx
 | .s _=>False
theorem fs_asg {tg:Expr} (he:QE X e (simE K Fa)) (hg:QG X tg (simG K g)) (hs:swapsWithSole [tg] e pos.line X.env=pure false:=by rfl) (hw:swappedStores [tg] e X.env=pure none:=by rfl)
  (h1:(assignEach [tg] X.env).map (·.2)=[assign tg X.env]:=by rfl):QS X (.Assign [tg] e pos) (simS K (sAsg Fa g)):=
 (qs_asg he hg hs hw h1).le fun D σ H hl ⟨B,E,DT,re,hF,l⟩=>afterE (P:=fun r _ E'=>match r with | .p t=>g t E' DT.nx | .s _=>False) re hF fun r E' v H' S' q g' re' rr re2 ow=>by
  cases r with
  | s _=>exact q.elim
  | p t=>exact ⟨B,[],_,t,_,by rw [List.append_nil];exact re2,by rw [List.append_nil];exact Rp.step (Kp.less ow) rr,q,fun σ2 H2 E2 q2 g2 re3 _=>by rw [List.append_nil] at g2 re3;rw [List.append_nil] at g2;exact l.nx _ _ _ q2 ((g'.kp.trans (Kp.less ow)).trans g2) re3⟩
def sPar (i j:Nat) (Fr:FA):FS:=fun D E=>Fr E fun rs E'=>match rs with
 | [.p t,r]=>o1 (pick E.length E' r) fun u=>D.nx (((E'.take E.length).set j (some u)).set i (some (.p t)))
 | [r,.p t]=>o1 (pick E.length E' r) fun u=>D.nx (((E'.take E.length).set i (some u)).set j (some (.p t)))
 | _=>False
theorem fs_par {n i j:Nat} {x y:Str} {px py pt:Pos} {kt k2 pt2} (hc:X.calm=true) (hN:X.N.Nodup) (hi:X.N[i]? = some x) (hj:X.N[j]? = some y) (hij:i≠j)
  (hx:X.env.scope.names.lookup x=some .local) (hy:X.env.scope.names.lookup y=some .local) (ha:QA X [a,b] (simA K n Fr))
  (hw:swappedStores [.Tuple [.Name x px,.Name y py] kt pt] (.Tuple [a,b] k2 pt2) X.env=pure (some [x,y]))
  (hs:swapsWithSole [.Tuple [.Name x px,.Name y py] kt pt] (.Tuple [a,b] k2 pt2) pos.line X.env=pure false:=by rfl) :
  QS X (.Assign [.Tuple [.Name x px,.Name y py] kt pt] (.Tuple [a,b] k2 pt2) pos) (simS K (sPar i j Fr)):=by
 refine (qs_par hc hN hi hj hij hx hy ha hw hs).le fun D σ H hl ⟨B,E,DT,re,hF,l⟩=>⟨B,σ,E,_,⟨[],by simp⟩,re,hF,fun rs E' vs H' S' q g re' rr hn=>?_⟩
 split at q
 ·rename_i t r
  obtain ⟨v,ws,e1,h1,w,ws',e2,h2,h3⟩:=rr
  cases h3;subst e2;subst e1
  obtain ⟨u,e3,q⟩:=q.ex
  rw [←re.len] at e3 q
  obtain ⟨r1,ow⟩:=pick_ok (i:=j) re' g.pre h2 e3
  obtain ⟨r2,ow2⟩:=r1.setP (i:=i) (Rp.step (Kp.less ow) h1)
  refine ⟨v,w,rfl,?_⟩
  rw [List.set_comm _ _ hij]
  exact l.nx _ _ _ q (g.kp.trans (Kp.less fun b z=>ow b (ow2 b z))) r2
 ·rename_i r t _
  obtain ⟨v,ws,e1,h1,w,ws',e2,h2,h3⟩:=rr
  cases h3;subst e2;subst e1
  obtain ⟨u,e3,q⟩:=q.ex
  rw [←re.len] at e3 q
  obtain ⟨r1,ow⟩:=pick_ok (i:=i) re' g.pre h1 e3
  obtain ⟨r2,ow2⟩:=r1.setP (i:=j) (Rp.step (Kp.less ow) h2)
  exact ⟨v,w,rfl,l.nx _ _ _ q (g.kp.trans (Kp.less fun b z=>ow b (ow2 b z))) r2⟩
 ·exact q.elim
def sWhile (Fp:FB) (F:FS):FS:=fun D E=>∃W:Nat→En→Prop,(∃m,W m E)∧∀m E,W m E→Fp E fun b E'=>if b=true then F { D with nx:=fun E2=>∃m',m'<m∧W m' E2,ct:=fun E2=>∃m',m'<m∧W m' E2,bk:=D.nx } (E'.take E.length) else D.nx (E'.take E.length)
theorem fs_while (hp:PassesOwn (model X.prog X.w) X.A X.env X.xe) (hc:QT X c (simB K Fp)) (hb:QB X body (simS K F)):QS X (.While c body [] pos) (simS K (sWhile Fp F)):=by
 refine (qs_while hp hc hb).le fun D σ H hl ⟨B,E,DT,re,⟨W,⟨m0,w0⟩,hF⟩,l⟩=>?_
 refine ⟨fun m σ' H'=>∃E',W m E'∧Gs B H σ E H' σ' E'∧RE K B H' σ' E',⟨m0,E,w0,Kp.refl _ _,re⟩,?_⟩
 rintro m σ1 H1 ⟨E1,w1,g1,re1⟩
 refine afterB (P:=fun b E'=>if b=true then F { DT with nx:=fun E2=>∃m',m'<m∧W m' E2,ct:=fun E2=>∃m',m'<m∧W m' E2,bk:=DT.nx } E' else DT.nx E') re1 (hF m E1 w1) fun b H2 E2 q g2 re2=>?_
 cases b
 ·exact l.nx _ _ _ q (g1.trans g2) re2
 ·refine ⟨fun σ' H'=>∃m',m'<m∧∃E',W m' E'∧Gs B H σ E H' σ' E'∧RE K B H' σ' E',fun σ' H' z=>z,B,E2,_,re2,q,?_⟩
  have l2:=l.step (g1.trans g2)
  exact ⟨fun σ' H' E' ⟨m',hm,w⟩ g re'=>⟨m',hm,E',w,(g1.trans g2).trans g,re'⟩,l2.rt,fun σ' H' E' z g re'=>l2.nx _ _ _ z g re',fun σ' H' E' ⟨m',hm,w⟩ g re'=>⟨m',hm,E',w,(g1.trans g2).trans g,re'⟩⟩
structure ItOk (K:PySem.W.Frag) (J:It) (items:List T) (gd:Hp→(Addr→Prop)→Prop):Prop where
 keep:∀H H' O O',Kp O O' H H'→gd H O→gd H' O'
 go:∀i H O,gd H O→i<items.length→J.go i H
 yld:∀i H O x H' t,gd H O→items[i]? = some t→(∀a,O a→H a≠none)→J.yld i H x H'→Kp O O H H'∧(∀b o,H b=some o→H' b=some o)∧Rp K H' O t x
 stop:∀H O,gd H O→J.stop items.length H
abbrev FI:=En→(List T→List Nat→En→Prop)→Prop
def simI (K:PySem.W.Frag) (F:FI):TI:=fun σ H R=>∃B S E Q',(∃τ,S=σ++τ)∧RE K B H S E∧F E Q'∧∀J items us E' H' S' gd,Q' items us E'→Gr B H S E H' S' E'→RE K B H' S' E'→ItOk K J items gd→(∀j∈us,∃k xs,E'[j]? = some (some (U.o k xs)))→
 (∀O:Addr→Prop,(∀b,O b→Ow B S' E' b)→(∀j∈us,∀a,S'[j]? = some (some (.ref a))→¬O a)→gd H' O)→R J H'
def frzs:List Nat→En→Option En
 | [],E=>some E
 | j::us,E=>match E[j]? with
  | some (some (.o false xs))=>frzs us (E.set j (some (.p (.lst xs))))
  | _=>none
theorem frzs_ok {B:Addr→Prop} {H:Hp} {S:St}:∀{us:List Nat} {E E':En},RE K B H S E→frzs us E=some E'→RE K B H S E'∧(∀b,Ow B S E' b→Ow B S E b)∧(∀j∈us,∀a,S[j]? = some (some (.ref a))→¬Ow B S E' a)∧E'.length=E.length
 | [],E,E',re,h=>by cases h;exact ⟨re,fun b z=>z,fun j hj=>absurd hj (by simp),rfl⟩
 | j::us,E,E',re,h=>by
  cases q:E[j]? with
  | none=>simp only [frzs,q] at h;cases h
  | some u=>
   cases u with
   | none=>simp only [frzs,q] at h;cases h
   | some u=>
    cases u with
    | p t=>simp only [frzs,q] at h;cases h
    | o k xs=>
     cases k
     ·simp only [frzs,q] at h
      obtain ⟨s1,s2⟩:=re.frz q
      obtain ⟨r1,r2,r3,r4⟩:=frzs_ok s1 h
      refine ⟨r1,fun b z=>(s2 b (r2 b z)).1,fun m hm a ha z=>?_,by rw [r4];simp⟩
      rcases List.mem_cons.mp hm with rfl | hm
      ·exact (s2 a (r2 a z)).2 ha
      ·exact r3 m hm a ha z
     ·simp only [frzs,q] at h;cases h
def loopT (g:FG) (F:FS) (D:ET):List T→En→Prop
 | [],E=>D.nx E
 | x::xs,E=>g x E fun E'=>nfS E' (F { D with nx:=loopT g F D xs,ct:=loopT g F D xs,bk:=D.nx })
def sFor (I:FI) (g:FG) (F:FS):FS:=fun D E=>I E fun items us E'=>o1 (frzs us E') fun E2=>nfS (E2.take E.length) (loopT g F D items)
theorem fs_for {tg iter:Expr} {I:FI} (hp:PassesOwn (model X.prog X.w) X.A X.env X.xe) (hc:X.calm=true) (hi:QI X tg iter (simI K I)) (hg:QG X tg (simG K g)) (hb:QB X body (simS K F)) (hs:∀x,foldedSetIterable iter X.env x=pure x:=by intro _;rfl) :
  QS X (.For tg iter body [] pos) (simS K (sFor I g F)):=by
 refine (qs_for hp hc hi hg hb hs).le fun D σ H hl ⟨B,E,DT,re,hF,l⟩=>?_
 refine ⟨B,σ,E,_,⟨[],by simp⟩,re,hF,fun J items us E1 H1 S1 gd q g1 re1 ok _ hgd=>?_⟩
 obtain ⟨E2,e2,q⟩:=q.ex
 replace q:=nfS_eq q
 obtain ⟨f1,f2,f3,f4⟩:=frzs_ok re1 e2
 obtain ⟨c1,c2⟩:=f1.cut (E:=E) g1.pre re.len
 have gs:Gs B H σ E H1 σ (E2.take E.length):=g1.kp.trans ((Kp.less f2).trans (Kp.less c2))
 have gd1:gd H1 (Ow B σ (E2.take E.length)):=hgd _ (fun b z=>f2 b (c2 b z)) fun j hj a ha z=>f3 j hj a ha (c2 a z)
 refine ⟨fun i m σ' H'=>m=items.length-i∧i≤items.length∧∃E',loopT g F DT (items.drop i) E'∧Gs B H σ E H' σ' E'∧RE K B H' σ' E'∧gd H' (Ow B σ' E'),⟨_,rfl,Nat.zero_le _,_,q,gs,c1,gd1⟩,?_⟩
 rintro i m σ2 H2 ⟨rfl,hi',E3,q3,g3,re3,gd3⟩
 rcases Nat.lt_or_ge i items.length with hlt | hge
 ·have hd:items.drop i=items[i]::items.drop (i+1):=List.drop_eq_getElem_cons hlt
  rw [hd] at q3
  refine .inr ⟨ok.go i H2 _ gd3 hlt,fun σ' H'=>∃E',loopT g F DT (items.drop (i+1)) E'∧Gs B H σ E H' σ' E'∧RE K B H' σ' E'∧gd H' (Ow B σ' E'),fun σ' H' ⟨E',z⟩=>⟨items.length-(i+1),by omega,rfl,hlt,E',z⟩,fun x H4 y=>?_⟩
  obtain ⟨k4,s4,rp⟩:=ok.yld i H2 _ x H4 _ gd3 (List.getElem?_eq_getElem hlt) (fun a z=>by obtain ⟨vs,e⟩:=re3.ow z;rw [e];intro z;cases z) y
  have re4:=re3.kept s4
  have gd4:=ok.keep _ _ _ _ k4 gd3
  refine ⟨B,[],E3,_,_,by rw [List.append_nil];exact re4,by rw [List.append_nil];exact rp,q3,fun σ5 H5 E5 q5 g5 re5 hl5=>?_⟩
  rw [List.append_nil] at g5 re5
  rw [List.append_nil] at g5
  have gd5:=ok.keep _ _ _ _ g5 gd4
  have gg:=(g3.trans k4).trans g5
  have l5:=l.step gg
  refine ⟨B,E5,_,re5,nfS_eq q5,?_⟩
  exact ⟨fun σ' H' E' z g re'=>⟨E',z,gg.trans g,re',ok.keep _ _ _ _ g gd5⟩,l5.rt,fun σ' H' E' z g re'=>l5.nx _ _ _ z g re',fun σ' H' E' z g re'=>⟨E',z,gg.trans g,re',ok.keep _ _ _ _ g gd5⟩⟩
 ·have ei:i=items.length:=by omega
  subst ei
  rw [List.drop_length] at q3
  exact .inl ⟨ok.stop H2 _ gd3,l.nx _ _ _ q3 g3 re3⟩
def usd (E:En):R→List Nat
 | .p _=>[]
 | .s j=>match E[j]? with
  | some (some (.o _ _))=>[j]
  | _=>[]
theorem usd_own {E:En} {r:R}:∀j∈usd E r,∃k xs,E[j]? = some (some (U.o k xs)):=fun j hj=>by
 cases r with
 | p _=>simp [usd] at hj
 | s m=>
  cases q:E[m]? with
  | none=>simp [usd,q] at hj
  | some u=>
   cases u with
   | none=>simp [usd,q] at hj
   | some u=>
    cases u with
    | p _=>simp [usd,q] at hj
    | o k xs=>simp [usd,q] at hj;subst hj;exact ⟨k,xs,q⟩
theorem rd_of {B:Addr→Prop} {H:Hp} {S:St} {E:En} {r:R} {v:V} {t:T} (re:RE K B H S E) (rr:RR K B H S E r v) (e:vl E r=some t) (O:Addr→Prop) (hO:∀b,O b→Ow B S E b) (hu:∀j∈usd E r,∀a,S[j]? = some (some (.ref a))→¬O a):Rp K H O t v:=by
 cases r with
 | p u=>cases e;exact Rp.step (Kp.less hO) rr
 | s j=>
  have rr':S[j]? = some (some v):=rr
  cases q:E[j]? with
  | none=>simp only [vl,q] at e;cases e
  | some u=>
   cases u with
   | none=>simp only [vl,q] at e;cases e
   | some u=>
    cases u with
    | p u=>
     simp only [vl,q] at e;cases e
     obtain ⟨w,h1,h2⟩:=re.pure j _ q
     rw [rr'] at h1;cases h1
     exact h2.step (Kp.less hO)
    | o k xs=>
     simp only [vl,q] at e;cases e
     obtain ⟨a,vs,h1,h2,h3,_⟩:=re.own j k xs q
     rw [rr'] at h1;cases h1
     exact ⟨a,vs,rfl,.inl ⟨hu j (by simp [usd,q]) a rr',.inl h2⟩,h3.step (Kp.less hO)⟩
theorem itl_ok {p:Addr} {xs:List T}:ItOk K (Itl K p) xs (fun H O=>Rp K H O (.lst xs) (.ref p)):=by
 refine ⟨fun H H' O O' k h=>Rp.step k h,fun i H O h hi=>?_,fun i H O x H' t h e _ y=>?_,fun H O h=>?_⟩
 ·obtain ⟨a,vs,e,sq,rs⟩:=h.sqL
  cases e
  exact ⟨vs,vs[i]'(by rw [rs.length];exact hi),sq,List.getElem?_eq_getElem _⟩
 ·obtain ⟨e1,y⟩:=y
  subst e1
  obtain ⟨a,vs,e2,sq,rs⟩:=h.sqL
  cases e2
  obtain ⟨v,h1,h2⟩:=rs.get e
  rw [y vs sq] at h1;cases h1
  exact ⟨Kp.refl _ _,fun _ _ z=>z,h2⟩
 ·obtain ⟨a,vs,e,sq,rs⟩:=h.sqL
  cases e
  exact ⟨vs,sq,by rw [rs.length];exact Nat.le_refl _⟩
theorem itt_ok {p:Addr} {xs:List T}:ItOk K (Itt K p) xs (fun H O=>Rp K H O (.tup xs) (.ref p)):=by
 refine ⟨fun H H' O O' k h=>Rp.step k h,fun i H O h hi=>?_,fun i H O x H' t h e _ y=>?_,fun H O h=>?_⟩
 ·obtain ⟨a,vs,e,sq,rs⟩:=h.sqT
  cases e
  exact ⟨vs,vs[i]'(by rw [rs.length];exact hi),sq,List.getElem?_eq_getElem _⟩
 ·obtain ⟨e1,y⟩:=y
  subst e1
  obtain ⟨a,vs,e2,sq,rs⟩:=h.sqT
  cases e2
  obtain ⟨v,h1,h2⟩:=rs.get e
  rw [y vs sq] at h1;cases h1
  exact ⟨Kp.refl _ _,fun _ _ z=>z,h2⟩
 ·obtain ⟨a,vs,e,sq,rs⟩:=h.sqT
  cases e
  exact ⟨vs,sq,by rw [rs.length];exact Nat.le_refl _⟩
def rngT (lo:Int) (n:Nat):List T:=(List.range n).map fun (i:Nat)=>T.int (lo+(i:Int))
theorem itr_ok {lo:Int} {n:Nat}:ItOk K (Itr lo n) (rngT lo n) (fun _ _=>True):=by
 refine ⟨fun _ _ _ _ _ h=>h,fun i H O _ hi=>by show i<n;simpa [rngT] using hi,fun i H O x H' t _ e _ y=>?_,fun H O _=>by simp [Itr,rngT]⟩
 obtain ⟨e1,y⟩:=y
 subst e1;subst y
 unfold rngT at e
 rw [List.getElem?_map] at e
 have hi:i<n:=by
  rcases Nat.lt_or_ge i n with c | c
  ·exact c
  ·rw [List.getElem?_eq_none (by simpa using c)] at e;cases e
 rw [List.getElem?_range hi] at e
 cases e
 exact ⟨Kp.refl _ _,fun _ _ z=>z,rfl⟩
theorem ite_ok {p:Addr} {xs:List T}:ItOk K (Ite K p) (xs.zipIdx.map fun q=>T.tup [.int (q.2:Int),q.1]) (fun H O=>Rp K H O (.lst xs) (.ref p)):=by
 refine ⟨fun H H' O O' k h=>Rp.step k h,fun i H O h hi=>?_,fun i H O x H' t h e hO y=>?_,fun H O h=>?_⟩
 ·obtain ⟨a,vs,e,sq,rs⟩:=h.sqL
  cases e
  have hi':i<xs.length:=by simpa using hi
  exact ⟨vs,vs[i]'(by rw [rs.length];exact hi'),sq,List.getElem?_eq_getElem _⟩
 ·obtain ⟨pp,w,e1,hp,e2,y⟩:=y
  subst e1;subst e2
  obtain ⟨a,vs,e3,sq,rs⟩:=h.sqL
  cases e3
  rw [List.getElem?_map] at e
  cases q:xs.zipIdx[i]? with
  | none=>rw [q] at e;cases e
  | some z=>
   rw [q] at e;cases e
   obtain ⟨q1,q2⟩:=List.getElem?_eq_some_iff.mp q
   have q1':i<xs.length:=by simpa using q1
   rw [List.getElem_zipIdx] at q2
   subst q2
   obtain ⟨v,h1,h2⟩:=rs.get (List.getElem?_eq_getElem q1')
   rw [y vs sq] at h1;cases h1
   have k:Kp O O H (upd H pp (.tup [.int (i:Int),w])):=Kp.upd hp
   refine ⟨k,fun b o z=>by rw [upd_ne (ne_of_none z hp)];exact z,pp,_,rfl,.inl ⟨fun z=>hO pp z hp,.inl upd_same⟩,_,_,rfl,?_,w,[],rfl,h2.step k,rfl⟩
   simp [Rp]
 ·obtain ⟨a,vs,e,sq,rs⟩:=h.sqL
  cases e
  exact ⟨vs,sq,by simp [rs.length]⟩
def iL (Fa:FE):FI:=fun E Q=>Fa E fun r E1=>match vl E1 r with
 | some (.lst xs)=>Q xs (usd E1 r) E1
 | _=>False
def iT (Fa:FE):FI:=fun E Q=>Fa E fun r E1=>match vl E1 r with
 | some (.tup xs)=>Q xs [] E1
 | _=>False
theorem fi_list {tg l:Expr} (eK:X.K=K) (hl:QE X l (simE K Fa)):QI X tg l (simI K (iL Fa)):=by
 subst eK
 refine (qi_list hl).le fun σ H R hn ⟨B,S,E,Q',hS,re,hF,lk⟩=>⟨B,S,E,_,hS,re,hF,fun r E1 v H1 S1 q g re1 rr=>?_⟩
 split at q
 ·rename_i xs e1
  obtain ⟨a,vs,e2,sq,rs⟩:=re1.vl rr e1
  exact ⟨a,e2,⟨vs,sq⟩,lk _ _ _ _ _ _ _ q g re1 itl_ok usd_own fun O h1 h2=>by rw [←e2];exact rd_of re1 rr e1 O h1 h2⟩
 ·exact q.elim
theorem fi_tup {tg l:Expr} (eK:X.K=K) (hl:QE X l (simE K Fa)):QI X tg l (simI K (iT Fa)):=by
 subst eK
 refine (qi_tup hl).le fun σ H R hn ⟨B,S,E,Q',hS,re,hF,lk⟩=>⟨B,S,E,_,hS,re,hF,fun r E1 v H1 S1 q g re1 rr=>?_⟩
 split at q
 ·rename_i xs e1
  obtain ⟨a,vs,e2,sq,rs⟩:=re1.vl rr e1
  refine ⟨a,e2,⟨vs,sq⟩,lk _ _ _ _ _ _ _ q g re1 itt_ok (fun j hj=>absurd hj (by simp)) fun O h1 h2=>?_⟩
  rw [←e2]
  refine rd_of re1 rr e1 O h1 fun j hj=>?_
  cases r with
  | p _=>simp [usd] at hj
  | s m=>
   cases q2:E1[m]? with
   | none=>simp only [vl,q2] at e1;cases e1
   | some u=>
    cases u with
    | none=>simp only [vl,q2] at e1;cases e1
    | some u=>
     cases u with
     | p u=>simp [usd,q2] at hj
     | o k ys=>simp only [vl,q2] at e1;cases e1
 ·exact q.elim
def iR1 (Fr:FA):FI:=fun E Q=>Fr E fun rs E1=>match rs with
 | [x]=>i1 (vl E1 x) fun j=>(-(2^62)≤j∧j<2^62)∧Q (rngT 0 j.toNat) [] E1
 | _=>False
theorem fi_range1 {n:Nat} {tg:Expr} {p:Pos} (hg:Gl X "range") (hm:X.mg "range" = none) (ha:QA X [a] (simA K n Fr)) (hs:isStar a=false:=by rfl):QI X tg (.Call (.Name "range" p) [a] [] pos) (simI K (iR1 Fr)):=by
 refine (qi_range1 hg hm ha hs).le fun σ H R hn ⟨B,S,E,Q',hS,re,hF,lk⟩=>⟨B,S,E,_,hS,re,hF,fun rs E1 vs H1 S1 q g re1 rr hn=>?_⟩
 match rs,rr,q with
 | [x],⟨v,ws,e1,h1,h2⟩,q=>
  cases h2;subst e1
  obtain ⟨j,e2,c,q⟩:=i1.ex q
  exact ⟨j,by rw [re1.int h1 e2],c.1,c.2,lk _ _ _ _ _ _ _ q g re1 itr_ok (fun j hj=>absurd hj (by simp)) fun _ _ _=>trivial⟩
 | [],_,q=>exact q.elim
 | _::_::_,_,q=>exact q.elim
def iE (Fr:FA):FI:=fun E Q=>Fr E fun rs E1=>match rs with
 | [r]=>(match vl E1 r with
  | some (.lst xs)=>Q (xs.zipIdx.map fun q=>T.tup [.int (q.2:Int),q.1]) (usd E1 r) E1
  | _=>False)
 | _=>False
theorem fi_enum {n:Nat} {p tpos:Pos} {elts:List Expr} {x1} (eK:X.K=K) (hg:Gl X "enumerate") (hm:X.mg "enumerate" = none) (ha:QA X [a] (simA K n Fr)) (hs:isStar a=false:=by rfl):QI X (.Tuple elts x1 tpos) (.Call (.Name "enumerate" p) [a] [] pos) (simI K (iE Fr)):=by
 subst eK
 refine (qi_enum hg hm ha hs).le fun σ H R hn ⟨B,S,E,Q',hS,re,hF,lk⟩=>⟨B,S,E,_,hS,re,hF,fun rs E1 vs H1 S1 q g re1 rr hn=>?_⟩
 match rs,rr,q with
 | [r],⟨v,ws,e1,h1,h2⟩,q=>
  cases h2;subst e1
  simp only at q
  split at q
  ·rename_i xs e1
   obtain ⟨a,vs,e2,sq,rs⟩:=re1.vl h1 e1
   exact ⟨a,by rw [e2],⟨vs,sq⟩,lk _ _ _ _ _ _ _ q g re1 ite_ok usd_own fun O k1 k2=>by rw [←e2];exact rd_of re1 h1 e1 O k1 k2⟩
  ·exact q.elim
 | [],_,q=>exact q.elim
 | _::_::_,_,q=>exact q.elim
end
end L2
set_option Elab.async false
set_option linter.all false
set_option maxRecDepth 100000
set_option maxHeartbeats 4000000
namespace L2
open PySem PySem.Spec PyProof.Rows
mutual
def noL:T→Bool
 | .lst _=>false
 | .tup xs=>noLs xs
 | _=>true
def noLs:List T→Bool
 | []=>true
 | x::xs=>noL x&&noLs xs
end
def LstOf (H:Hp) (a:Addr):Prop:=∃ws,H a=some (.lst ws)
section
variable {K:PySem.W.Frag} {H:Hp} {O O':Addr→Prop}
mutual
theorem Rp.noL (hO:∀a,O' a→LstOf H a):∀{t:T} {v:V},L2.noL t=true→Rp K H O t v→Rp K H O' t v
 | .non,_,_,h=>h
 | .bl _,_,_,h=>h
 | .int _,_,_,h=>h
 | .str _,_,_,h=>h
 | .lst _,_,e,_=>by simp [L2.noL] at e
 | .tup xs,v,e,h=>by
  obtain ⟨a,vs,e1,h1,h2⟩:=h
  refine ⟨a,vs,e1,h1.imp (fun ⟨_,h⟩=>⟨fun z=>?_,h⟩) id,Rps.noL hO (by simpa [L2.noL] using e) h2⟩
  obtain ⟨ws,q⟩:=hO a z
  rcases h with h | ⟨o,h⟩
  ·rw [h] at q;cases q
  ·rw [h] at q;cases q
theorem Rps.noL (hO:∀a,O' a→LstOf H a):∀{xs:List T} {vs:List V},noLs xs=true→Rps K H O xs vs→Rps K H O' xs vs
 | [],_,_,h=>h
 | x::xs,vs,e,h=>by
  obtain ⟨v,r,e1,h1,h2⟩:=h
  have e':L2.noL x=true∧noLs xs=true:=by simpa [noLs] using e
  exact ⟨v,r,e1,Rp.noL hO e'.1 h1,Rps.noL hO e'.2 h2⟩
end
end
section
variable {K:PySem.W.Frag} {B:Addr→Prop} {H H':Hp} {S S':St} {E E':En} {σ:St}
theorem RE.push (re:RE K B H' S E) {a:Addr} {ts:List T} {vs:List V} (ha:H' a=some (.lst vs)) (hn:¬Ow B S E a) (hb:¬B a)
  (hp:∀(i:Nat) (t:T),E[i]? = some (some (.p t))→∃v,S[i]? = some (some v)∧Rp K H' (fun b=>Ow B S E b∨b=a) t v)
  (ho:∀(i:Nat) (k:Bool) (xs:List T),E[i]? = some (some (.o k xs))→∃b ws,S[i]? = some (some (.ref b))∧H' b=some (.lst ws)∧Rps K H' (fun b=>Ow B S E b∨b=a) xs ws)
  (h:Rps K H' (fun b=>Ow B S E b∨b=a) ts vs) :
  RE K B H' (S++[some (.ref a)]) (E++[some (.o false ts)])∧∀b,Ow B (S++[some (.ref a)]) (E++[some (.o false ts)]) b→Ow B S E b∨b=a:=by
 have gE:∀{i:Nat} {u:U},(E++[some (.o false ts)])[i]? = some (some u)→(E[i]? = some (some u)∧i<E.length)∨(i=E.length∧u = .o false ts):=fun {i u} h=>by
  rcases get_push h with ⟨c,h⟩ | ⟨c,h⟩
  ·exact .inl ⟨h,c⟩
  ·exact .inr ⟨c,Option.some.inj h⟩
 have gS:∀{i:Nat} {x:Option V},S[i]? = some x→(S++[some (.ref a)])[i]? = some x:=fun {i x} h=>pre_get ⟨_,rfl⟩ h
 have gS':∀{i:Nat} {x:Option V},i<E.length→(S++[some (.ref a)])[i]? = some x→S[i]? = some x:=fun {i x} c h=>by
  rw [List.getElem?_append_left (by rw [re.len];exact c)] at h;exact h
 have lS:(S++[some (.ref a)])[E.length]? = some (some (.ref a)):=by rw [←re.len];simp
 have ow:∀b,Ow B (S++[some (.ref a)]) (E++[some (.o false ts)]) b→Ow B S E b∨b=a:=fun b z=>by
  rcases z with z | ⟨i,k,xs,h1,h2⟩
  ·exact .inl (.inl z)
  rcases gE h1 with ⟨h1,c⟩ | ⟨c,h1⟩
  ·exact .inl (.inr ⟨i,k,xs,h1,gS' c h2⟩)
  ·subst c;rw [lS] at h2;cases h2;exact .inr rfl
 have kl:Kp (fun b=>Ow B S E b∨b=a) (Ow B (S++[some (.ref a)]) (E++[some (.o false ts)])) H' H':=Kp.less ow
 refine ⟨⟨by simp [re.len],fun i t h=>?_,fun i l xs h=>?_,fun i j l m xs ys b h1 h2 h3 h4=>?_,re.bd⟩,ow⟩
 ·rcases gE h with ⟨h,c⟩ | ⟨c,h⟩
  ·obtain ⟨v,h1,h2⟩:=hp i t h
   exact ⟨v,gS h1,h2.step kl⟩
  ·cases h
 ·rcases gE h with ⟨h,c⟩ | ⟨c,h⟩
  ·obtain ⟨b,ws,h1,h2,h3⟩:=ho i l xs h
   obtain ⟨b',_,q1,_,_,q4⟩:=re.own i l xs h
   rw [h1] at q1;cases q1
   exact ⟨b,ws,gS h1,h2,h3.step kl,q4⟩
  ·cases h
   subst c
   exact ⟨a,vs,lS,ha,Rps.step kl (by assumption),⟨fun z=>absurd z (by decide),fun z=>absurd z hb⟩⟩
 ·rcases gE h1 with ⟨h1,c1⟩ | ⟨c1,h1⟩
  ·rcases gE h2 with ⟨h2,c2⟩ | ⟨c2,h2⟩
   ·exact re.inj i j l m xs ys b h1 h2 (gS' c1 h3) (gS' c2 h4)
   ·subst c2
    rw [lS] at h4;cases h4
    exact absurd (.inr ⟨i,l,xs,h1,gS' c1 h3⟩) hn
  ·rcases gE h2 with ⟨h2,c2⟩ | ⟨c2,h2⟩
   ·subst c1
    rw [lS] at h3;cases h3
    exact absurd (.inr ⟨j,m,ys,h2,gS' c2 h4⟩) hn
   ·rw [c1,c2]
theorem RE.pad (re:RE K B H S E) (n:Nat):RE K B H (S++List.replicate n none) (E++List.replicate n none)∧(∀b,Ow B (S++List.replicate n none) (E++List.replicate n none) b→Ow B S E b):=by
 have gE:∀{i:Nat} {u:U},(E++List.replicate n none)[i]? = some (some u)→E[i]? = some (some u)∧i<E.length:=fun {i u} h=>by
  rcases Nat.lt_or_ge i E.length with c | c
  ·rw [List.getElem?_append_left c] at h;exact ⟨h,c⟩
  ·rw [List.getElem?_append_right c] at h
   have:=List.mem_of_getElem? h
   rw [List.mem_replicate] at this
   cases this.2
 have gS:∀{i:Nat} {x:Option V},S[i]? = some x→(S++List.replicate n none)[i]? = some x:=fun {i x} h=>pre_get ⟨_,rfl⟩ h
 have gS':∀{i:Nat} {x:Option V},i<E.length→(S++List.replicate n none)[i]? = some x→S[i]? = some x:=fun {i x} c h=>by
  rw [List.getElem?_append_left (by rw [re.len];exact c)] at h;exact h
 have ow:∀b,Ow B (S++List.replicate n none) (E++List.replicate n none) b→Ow B S E b:=fun b z=>z.imp id fun ⟨i,k,xs,h1,h2⟩=>⟨i,k,xs,(gE h1).1,gS' (gE h1).2 h2⟩
 have kl:Kp (Ow B S E) (Ow B (S++List.replicate n none) (E++List.replicate n none)) H H:=Kp.less ow
 refine ⟨⟨by simp [re.len],fun i t h=>?_,fun i l xs h=>?_,fun i j l m xs ys b h1 h2 h3 h4=>?_,re.bd⟩,ow⟩
 ·obtain ⟨v,h1,h2⟩:=re.pure i t (gE h).1
  exact ⟨v,gS h1,h2.step kl⟩
 ·obtain ⟨b,ws,h1,h2,h3,h4⟩:=re.own i l xs (gE h).1
  exact ⟨b,ws,gS h1,h2,h3.step kl,h4⟩
 ·exact re.inj i j l m xs ys b (gE h1).1 (gE h2).1 (gS' (gE h1).2 h3) (gS' (gE h2).2 h4)
end
inductive A where
 | v (t:T) | b (xs:List T)
inductive RV where
 | v (t:T) | l (xs:List T)
abbrev SpT:=List A→(RV→List T→Prop)→Prop
def enA:List A→En
 | []=>[]
 | .v t::r=>some (.p t)::enA r
 | .b xs::r=>some (.o true xs)::enA r
theorem enA_length:∀{as:List A},(enA as).length=as.length
 | []=>rfl
 | .v t::r=>by simp [enA,enA_length (as:=r)]
 | .b t::r=>by simp [enA,enA_length (as:=r)]
def boxIn:List A→Option Nat
 | []=>none
 | .b _::_=>some 0
 | .v _::r=>(boxIn r).map (· + 1)
def RRv (K:PySem.W.Frag) (H H':Hp):RV→V→Prop
 | .v t,v=>Rp K H' (LstOf H) t v
 | .l xs,v=>∃a ws,v = .ref a∧H a=none∧H' a=some (.lst ws)∧Rps K H' (fun b=>LstOf H b∨b=a) xs ws
def spOf (K:PySem.W.Frag) (S:SpT):Sp:=fun vs H Q _=>∃(as:List A) (Q':RV→List T→Prop) (bx:Option Addr),RE K (fun a=>bx=some a) H (vs.map some) (enA as)∧(boxIn as=none→bx=none)∧S as Q'∧
 ∀r xs v H',Q' r xs→(∀b o,H b=some o→bx≠some b→H' b=some o)→(∀a,bx=some a→∃ws,H' a=some (.lst ws)∧Rps K H' (LstOf H') xs ws)→RRv K H H' r v→Q v H'
def bxEnd (as:List A) (E:En):Option (List T):=match boxIn as with
 | none=>some []
 | some j=>match E[j]? with
  | some (some (.o true xs))=>if noLs xs=true then some xs else none
  | _=>none
def endT (as:List A) (Q:RV→List T→Prop):ET where
 nx:=fun E=>o1 (bxEnd as E) fun xs=>Q (.v .non) xs
 rt:=fun r E=>o1 (bxEnd as E) fun xs=>match r with
  | .p t=>noL t=true∧Q (.v t) xs
  | .s i=>match E[i]? with
   | some (some (.o false ys))=>noLs ys=true∧Q (.l ys) xs
   | some (some (.p t))=>noL t=true∧Q (.v t) xs
   | _=>False
theorem enA_k:∀{as:List A} {j:Nat} {k:Bool} {xs:List T},(enA as)[j]? = some (some (.o k xs))→k=true
 | [],j,_,_,h=>by simp [enA] at h
 | .b _::_,0,_,_,h=>by simp [enA] at h;exact h.1
 | .v _::_,0,_,_,h=>by simp [enA] at h
 | .b _::r,j+1,_,_,h=>enA_k (as:=r) (j:=j) (by simpa [enA] using h)
 | .v _::r,j+1,_,_,h=>enA_k (as:=r) (j:=j) (by simpa [enA] using h)
section
variable {P:Program} {w:World} {K:PySem.W.Frag} {mg:Str→Option Value} {base:Heap}
theorem Fun.okT {x qual:Str} {st:Stmt} {f:Addr} {fd:FuncData} {N ps:List Str} {k:Nat} {S:SpT} {F:FS} (Fn:Fun K x qual st f fd) (Sc:FnScope N ps (defScope st)) (len:∀as Q,S as Q→as.length=ps.length)
  (hb:∀(cdv:Value) (A:Around) (outer:List Env) (s:Shared) (H:Hp) (E:XK),Room k (A.deeper (envOfC qual (defScope st) s.heap.objs.size f cdv))→QB (cxOf CX0 P w K mg base N qual (defScope st) f cdv A outer s H E).nox (defBody st) (simS K F))
  (hF:∀as Q,S as Q→F (endT as Q) (enA as++List.replicate (N.length-as.length) none)):FnOk P w K mg base CX0 (k+1) f fd ps (spOf K S):=by
 refine Fn.okQ Sc (fun vs H Q E ⟨as,Q',bx,re,hbn,hS,l⟩=>?_) (fun cdv A outer s H vs Q E hr ⟨as,Q',bx,re,hbn,hS,l⟩=>?_)
 ·have:=re.len
  rw [List.length_map,enA_length] at this
  rw [this];exact len as Q' hS
 have hl:vs.length=as.length:=by have:=re.len;rwa [List.length_map,enA_length] at this
 refine ⟨_,hb cdv A outer s H E hr,?_⟩
 obtain ⟨re0,ow0⟩:=re.pad (N.length-as.length)
 have hst:start N vs=vs.map some++List.replicate (N.length-as.length) none:=by unfold start;rw [hl]
 rw [hst]
 -- the box's address
 have own0:∀b,Ow (fun a=>bx=some a) (vs.map some) (enA as) b→bx=some b:=fun b z=>by
  rcases z with z | ⟨i,kk,xs,h1,h2⟩
  ·exact z
  obtain ⟨a,ws,q1,_,_,q4⟩:=re.own i kk xs h1
  rw [h2] at q1;cases q1
  exact q4.mp (enA_k h1)
 have fr:∀{H':Hp} {S':St} {E':En},Gs (fun a=>bx=some a) H (vs.map some++List.replicate (N.length-as.length) none) (enA as++List.replicate (N.length-as.length) none) H' S' E'→∀b o,H b=some o→bx≠some b→H' b=some o:=fun g b o h n=>g.keep b o h fun z=>n (own0 b (ow0 b z))
 have fin:∀{r:RV} {xs:List T} {v:V} {H':Hp} {S':St} {E':En},bxEnd as E'=some xs→Q' r xs→Gs (fun a=>bx=some a) H (vs.map some++List.replicate (N.length-as.length) none) (enA as++List.replicate (N.length-as.length) none) H' S' E'→RE K (fun a=>bx=some a) H' S' E'→
   ((∀a,LstOf H a→LstOf H' a)→RRv K H H' r v)→Q v H':=fun {r xs v H' S' E'} e q g re' hr=>by
  have hbx:∀a,bx=some a→∃ws,H' a=some (.lst ws)∧Rps K H' (LstOf H') xs ws:=fun a ha=>by
   unfold bxEnd at e
   cases qb:boxIn as with
   | none=>
    rw [qb] at e;cases e
    rw [hbn qb] at ha;cases ha
   | some j=>
    rw [qb] at e
    simp only at e
    split at e
    ·rename_i ys hE
     split at e
     ·cases e
      rename_i hnl
      obtain ⟨b,ws,h1,h2,h3,h4⟩:=re'.own j true xs hE
      have:bx=some b:=h4.mp rfl
      rw [ha] at this;cases this
      exact ⟨ws,h2,Rps.noL (fun _ z=>z) hnl h3⟩
     ·cases e
    ·cases e
  refine l r xs v H' q (fr g) hbx (hr fun a ⟨ws,ha⟩=>?_)
  by_cases c:bx=some a
  ·obtain ⟨ws',h,_⟩:=hbx a c;exact ⟨ws',h⟩
  ·exact ⟨ws,fr g a _ ha c⟩
 refine ⟨_,_,_,re0,hF as Q' hS,⟨fun σ' H' E' q g re'=>?_,fun r E' v H' S' q g re' rr=>?_,fun _ _ _ z=>z.elim,fun _ _ _ z=>z.elim⟩⟩
 ·obtain ⟨xs,e,q⟩:=q.ex
  exact fin e q g re' fun _=>rfl
 ·obtain ⟨xs,e,q⟩:=q.ex
  cases r with
  | p t=>exact fin e q.2 g re' fun h=>Rp.noL h q.1 rr
  | s i=>
   simp only at q
   split at q
   ·rename_i ys hE
    refine fin e q.2 g re' fun h=>?_
    obtain ⟨b,ws,h1,h2,h3,h4⟩:=re'.own i false ys hE
    have rr':S'[i]? = some (some v):=rr
    rw [rr'] at h1;cases h1
    refine ⟨b,ws,rfl,?_,h2,Rps.noL (fun a z=>?_) q.1 h3⟩
    ·rcases g.new b (.inr ⟨i,false,ys,hE,rr'⟩) with z | z
     ·have:=h4.mpr (own0 b (ow0 b z));cases this
     ·exact z
    ·rcases z with z | z
     ·exact h a z
     ·exact ⟨ws,by rw [z];exact h2⟩
   ·rename_i t hE
    obtain ⟨w,h1,h2⟩:=re'.pure i t hE
    have rr':S'[i]? = some (some v):=rr
    rw [rr'] at h1;cases h1
    exact fin e q.2 g re' fun h=>Rp.noL h q.1 h2
   ·exact q.elim
end
def mkV (E:En):List R→Option (List T)
 | []=>some []
 | r::rs=>match vl E r,mkV E rs with
  | some t,some ts=>some (t::ts)
  | _,_=>none
def told (E:En) (Q:R→En→Prop):RV→Prop
 | .v t=>Q (.p t) E
 | .l xs=>Q (.s E.length) (E++[some (.o false xs)])
def fCall (S:SpT) (Fr:FA):FE:=fun E Q=>Fr E fun rs E1=>o1 (mkV E1 rs) fun ts=>S (ts.map A.v) fun r _=>told E1 Q r
def fCallB (S:SpT) (Fr:FA):FE:=fun E Q=>Fr E fun rs E1=>match rs with
 | .s j::rs=>(match E1[j]? with
  | some (some (.o k xs))=>cond (rs.all fun r=>!(usd E1 r).contains j) (o1 (mkV E1 rs) fun ts=>S (.b xs::ts.map A.v) fun r ys=>told (E1.set j (some (.o k ys))) Q r) False
  | _=>False)
 | _=>False
section
variable {K:PySem.W.Frag} {B:Addr→Prop} {H H':Hp} {S S':St} {E E':En} {σ:St}
theorem mkV_ok (re:RE K B H S E):∀{rs:List R} {vs:List V} {ts:List T},RRs K B H S E rs vs→mkV E rs=some ts→∀(O:Addr→Prop),(∀b,O b→Ow B S E b)→(∀r∈rs,∀j∈usd E r,∀a,S[j]? = some (some (.ref a))→¬O a)→Rps K H O ts vs
 | [],_,_,h,e,_,_,_=>by cases e;exact h
 | r::rs,_,ts,⟨v,ws,e1,h1,h2⟩,e,O,hO,hu=>by
  cases q1:vl E r with
  | none=>simp only [mkV,q1] at e;cases e
  | some t=>
   cases q2:mkV E rs with
   | none=>simp only [mkV,q1,q2] at e;cases e
   | some us=>
    simp only [mkV,q1,q2] at e;cases e
    exact ⟨v,ws,e1,rd_of re h1 q1 O hO (hu r (by simp)),mkV_ok re h2 q2 O hO fun r' hr=>hu r' (by simp [hr])⟩
theorem enA_v:∀{ts:List T},enA (ts.map A.v)=ts.map fun t=>some (U.p t)
 | []=>rfl
 | t::ts=>by simp [enA,enA_v (ts:=ts)]
theorem told_ok (re:RE K B H S E) (re':RE K B H' S E') (hk:∀b o,H b=some o→¬Ow B S E b→H' b=some o) (hw:∀b,Ow B S E' b→Ow B S E b)
  (hE:∀(i:Nat) (k:Bool) (xs:List T),E'[i]? = some (some (.o k xs))→(E[i]? = some (some (.o k xs))∧∀a,S[i]? = some (some (.ref a))→H' a=H a)∨∀a ws,S[i]? = some (some (.ref a))→H' a=some (.lst ws)→Rps K H' (LstOf H') xs ws)
  (hP:∀(i:Nat) (t:T),E'[i]? = some (some (.p t))→E[i]? = some (some (.p t)))
  {r:RV} {v:V} (rv:RRv K H H' r v) {Q:R→En→Prop} (q:told E' Q r) {Qv:VK} (lk:Lk K B H S E Q Qv):Qv v H':=by
 have kp:Kp (Ow B S E) (Ow B S E') H H':=⟨hk,fun b z=>.inl (hw b z)⟩
 cases r with
 | v t=>exact lk _ _ _ _ _ q ⟨kp,[],by simp⟩ re' (Rp.step (Kp.less fun b z=>re.ow (hw b z)) rv)
 | l xs=>
  obtain ⟨a,ws,rfl,h1,h2,h3⟩:=rv
  have nOw:¬Ow B S E' a:=fun z=>re.nn h1 (hw a z)
  have nB:¬B a:=fun z=>re.nn h1 (.inl z)
  have kp2:Kp (Ow B S E) (fun b=>Ow B S E' b∨b=a) H H':=⟨hk,fun b z=>by
   rcases z with z | z
   ·exact .inl (hw b z)
   ·exact .inr (by rw [z];exact h1)⟩
  obtain ⟨r1,r2⟩:=re'.push h2 nOw nB (fun i t h=>by
    obtain ⟨w,q1,q2⟩:=re.pure i t (hP i t h)
    exact ⟨w,q1,q2.step kp2⟩) (fun i k ys h=>by
    obtain ⟨b,us,q1,q2,q3,_⟩:=re'.own i k ys h
    refine ⟨b,us,q1,q2,?_⟩
    rcases hE i k ys h with ⟨z,zz⟩ | z
    ·obtain ⟨b',us',p1,p2,p3,_⟩:=re.own i k ys z
     rw [q1] at p1;cases p1
     have e:=zz b q1
     rw [q2,p2] at e;cases e
     exact p3.step kp2
    ·exact (z b us q1 q2).step (Kp.less fun c hc=>by
      rcases hc with hc | hc
      ·exact re'.ow hc
      ·exact ⟨ws,by rw [hc];exact h2⟩)) (h3.step (Kp.less fun b z=>by
    rcases z with z | z
    ·exact .inl (re.ow (hw b z))
    ·exact .inr z))
  refine lk _ _ _ _ _ q ⟨⟨hk,fun b z=>?_⟩,[some (.ref a)],rfl⟩ r1 ?_
  ·rcases r2 b z with z | z
   ·exact .inl (hw b z)
   ·exact .inr (by rw [z];exact h1)
  ·show (S++[some (V.ref a)])[E'.length]? = _
   rw [←re'.len];simp
end
section
variable {X:Cx} {K:PySem.W.Frag} {pos:Pos} {e:Expr} {es:List Expr} {Fr:FA}
theorem call_sim {n:Nat} {S:SpT} {σ:St} {H:Hp} {Q:VK} (h:simE K (fCall S Fr) σ H Q):tCall (spOf K S) [] E0 (simA K n Fr) σ H Q:=by
 refine args (Fr:=Fr) h fun B S' E rs vs H2 Q' hS re rr hn q lk=>?_
 obtain ⟨ts,e1,q⟩:=q.ex
 rw [List.append_nil]
 have rp:=mkV_ok re rr e1 (fun _=>False) (fun _ z=>z.elim) (fun _ _ _ _ _ _ z=>z)
 have no:∀b,¬Ow (fun a=>(none:Option Addr)=some a) (vs.map some) (ts.map fun t=>some (U.p t)) b:=fun b z=>by
  rcases z with z | ⟨i,k,xs,h1,_⟩
  ·cases z
  rw [List.getElem?_map] at h1
  cases q:ts[i]? with
  | none=>rw [q] at h1;cases h1
  | some t=>rw [q] at h1;cases h1
 refine ⟨ts.map A.v,_,none,?_,fun _=>rfl,q,fun r xs v H' q2 fr _ rv=>?_⟩
 ·rw [enA_v]
  refine ⟨by simp [rp.length],fun i t h=>?_,fun i k xs h=>?_,fun i j k l xs ys a h _ _ _=>?_,fun a z=>by cases z⟩
  ·rw [List.getElem?_map] at h
   cases q:ts[i]? with
   | none=>rw [q] at h;cases h
   | some u=>
    rw [q] at h;cases h
    obtain ⟨v,h1,h2⟩:=rp.get q
    exact ⟨v,by rw [List.getElem?_map,h1];rfl,h2.step (Kp.less fun b z=>no b z)⟩
  ·rw [List.getElem?_map] at h
   cases q:ts[i]? with
   | none=>rw [q] at h;cases h
   | some t=>rw [q] at h;cases h
  ·rw [List.getElem?_map] at h
   cases q:ts[i]? with
   | none=>rw [q] at h;cases h
   | some t=>rw [q] at h;cases h
 ·have same:∀b o,H2 b=some o→H' b=some o:=fun b o z=>fr b o z (by intro z;cases z)
  exact told_ok re (re.kept same) (fun b o z _=>same b o z) (fun b z=>z) (fun i k xs h=>.inl ⟨h,fun a ha=>by
   obtain ⟨a',ws,h1,h2,_⟩:=re.own i k xs h
   rw [ha] at h1;cases h1
   rw [h2];exact same _ _ h2⟩) (fun i t h=>h) rv q2 lk
theorem fe_call {n k j:Nat} {x:Str} {ps:List Str} {S:SpT} {p:Pos} (F:Fn X.prog X.w X.K X.mg X.base k x ps (spOf K S)) (hr:Room j X.A) (hk:k≤j) (hg:Gl X x) (ha:QA X (e::es) (simA K n Fr)) (hdb:(x==("__debug__":Str))=false:=by decide)
  (hs:noStar (e::es)=true:=by rfl):QE X (.Call (.Name x p) (e::es) [] pos) (simE K (fCall S Fr)):=(qe_fnS F hr hk hg ha hdb hs).le fun _ _ _ _ h=>call_sim h
theorem fe_callB {n k j:Nat} {x:Str} {ps:List Str} {S:SpT} {p:Pos} (F:Fn X.prog X.w X.K X.mg X.base k x ps (spOf K S)) (hr:Room j X.A) (hk:k≤j) (hg:Gl X x) (ha:QA X (e::es) (simA K n Fr)) (hdb:(x==("__debug__":Str))=false:=by decide)
  (hs:noStar (e::es)=true:=by rfl):QE X (.Call (.Name x p) (e::es) [] pos) (simE K (fCallB S Fr)):=by
 refine (qe_fnS F hr hk hg ha hdb hs).le fun σ H Q hl h=>args (Fr:=Fr) h fun B S' E rs vs H2 Q' hS re rr hn q lk=>?_
 rw [List.append_nil]
 split at q
 ·rename_i jb rs'
  split at q
  ·rename_i kb xs hE
   cases qc:(rs'.all fun r=>!(usd E r).contains jb) with
   | false=>rw [qc] at q;exact q.elim
   | true=>
    rw [qc] at q
    obtain ⟨ts,e1,q⟩:=o1.ex q
    obtain ⟨v0,ws,e2,h0,h2⟩:=rr
    subst e2
    have h0':S'[jb]? = some (some v0):=h0
    obtain ⟨a0,us,k1,k2,k3,k4⟩:=re.own jb kb xs hE
    rw [h0'] at k1;cases k1
    have ow0:Ow B S' E a0:=.inr ⟨jb,kb,xs,hE,h0'⟩
    have rp:=mkV_ok re h2 e1 (fun b=>b=a0) (fun b z=>by rw [z];exact ow0) (fun r hr m hm a hma z=>by
     subst z
     have c:=List.all_eq_true.mp qc r hr
     have:m=jb:=by
      cases r with
      | p _=>simp [usd] at hm
      | s l=>
       cases ql:E[l]? with
       | none=>simp [usd,ql] at hm
       | some u=>
        cases u with
        | none=>simp [usd,ql] at hm
        | some u=>
         cases u with
         | p _=>simp [usd,ql] at hm
         | o kk zs=>
          simp [usd,ql] at hm
          subst hm
          exact re.inj _ _ kk kb zs xs a ql hE hma h0'
     subst this
     have hc:(usd E r).contains m=true:=by simpa using hm
     rw [hc] at c;cases c)
    have get:∀{i:Nat} {u:U},(some (U.o true xs)::ts.map fun t=>some (U.p t))[i]? = some (some u)→(i=0∧u = .o true xs)∨∃m t,i=m+1∧ts[m]? = some t∧u = .p t:=fun {i u} h=>by
     cases i with
     | zero=>simp at h;exact .inl ⟨rfl,h.symm⟩
     | succ m=>
      rw [List.getElem?_cons_succ,List.getElem?_map] at h
      cases q:ts[m]? with
      | none=>rw [q] at h;cases h
      | some t=>rw [q] at h;cases h;exact .inr ⟨m,t,rfl,q,rfl⟩
    have ow:∀b,Ow (fun a=>some a0=some a) ((V.ref a0::ws).map some) (some (U.o true xs)::ts.map fun t=>some (U.p t)) b→b=a0:=fun b z=>by
     rcases z with z | ⟨i,k,ys,h1,h3⟩
     ·cases z;rfl
     rcases get h1 with ⟨c,z⟩ | ⟨m,t,_,_,z⟩
     ·subst c;simp at h3;exact h3.symm
     ·cases z
    have nb:boxIn (A.b xs::ts.map A.v)≠none:=by intro z;cases z
    refine ⟨A.b xs::ts.map A.v,_,some a0,?_,fun z=>absurd z nb,q,fun r ys v H' q2 fr bxk rv=>?_⟩
    ·have ee:enA (A.b xs::ts.map A.v)=some (U.o true xs)::ts.map fun t=>some (U.p t):=by simp [enA,enA_v]
     rw [ee]
     refine ⟨by simp [rp.length],fun i t h=>?_,fun i k zs h=>?_,fun i j k l zs ys a h1 h3 _ _=>?_,fun a z=>by cases z;exact ⟨us,k2⟩⟩
     ·rcases get h with ⟨_,z⟩ | ⟨m,t',e,q3,z⟩
      ·cases z
      ·cases z;subst e
       obtain ⟨v,h1,h2⟩:=rp.get q3
       exact ⟨v,by simp [h1],h2.step (Kp.less fun b z=>ow b z)⟩
     ·rcases get h with ⟨c,z⟩ | ⟨m,t',e,q3,z⟩
      ·cases z;subst c
       exact ⟨a0,us,by simp,k2,k3.step (Kp.less fun b z=>by rw [ow b z];exact ow0),⟨fun _=>rfl,fun _=>rfl⟩⟩
      ·cases z
     ·rcases get h1 with ⟨c,z⟩ | ⟨m,t',e,q3,z⟩
      ·rcases get h3 with ⟨c',z'⟩ | ⟨m,t',e,q3,z'⟩
       ·rw [c,c']
       ·cases z'
      ·cases z
    ·obtain ⟨ws',b1,b2⟩:=bxk a0 rfl
     have hk:∀b o,H2 b=some o→¬Ow B S' E b→H' b=some o:=fun b o z n=>fr b o z (by intro c;cases c;exact n ow0)
     have lts:∀b,Ow B S' E b→LstOf H' b:=fun b z=>by
      by_cases c:b=a0
      ·subst c;exact ⟨ws',b1⟩
      ·obtain ⟨us',e⟩:=re.ow z
       exact ⟨us',fr b _ e (by intro z;cases z;exact c rfl)⟩
     have getE:∀{i:Nat} {u:U},(E.set jb (some (.o kb ys)))[i]? = some (some u)→(i=jb∧u = .o kb ys)∨(i≠jb∧E[i]? = some (some u)):=fun {i u} h=>by
      by_cases c:i=jb
      ·subst c
       rw [List.getElem?_set_self (List.getElem?_eq_some_iff.mp hE).1] at h
       cases h;exact .inl ⟨rfl,rfl⟩
      ·rw [List.getElem?_set_ne (fun z=>c z.symm)] at h;exact .inr ⟨c,h⟩
     have kp:Kp (Ow B S' E) (Ow B S' E) H2 H':=⟨hk,fun b z=>.inl z⟩
     have owE:∀b,Ow B S' (E.set jb (some (.o kb ys))) b→Ow B S' E b:=fun b z=>by
      rcases z with z | ⟨i,k,zs,z1,z2⟩
      ·exact .inl z
      rcases getE z1 with ⟨c,z⟩ | ⟨c,z⟩
      ·subst c;exact .inr ⟨_,kb,xs,hE,z2⟩
      ·exact .inr ⟨i,k,zs,z,z2⟩
     have re':RE K B H' S' (E.set jb (some (.o kb ys))):=by
      refine re.step hk (by simp) (fun i t h=>?_) (fun i k zs h=>?_) (fun a z=>?_)
      ·rcases getE h with ⟨_,z⟩ | ⟨_,z⟩
       ·cases z
       ·exact z
      ·rcases getE h with ⟨c,z⟩ | ⟨c,z⟩
       ·cases z;subst c
        refine ⟨xs,hE,fun a ha=>?_⟩
        rw [h0'] at ha;cases ha
        exact ⟨ws',b1,b2.step (Kp.less lts)⟩
       ·refine ⟨zs,z,fun a ha=>?_⟩
        obtain ⟨a',us',p1,p2,p3,_⟩:=re.own i k zs z
        rw [ha] at p1;cases p1
        have na:a≠a0:=fun w=>c (re.inj i jb k kb zs xs a0 z hE (by rw [←w];exact ha) h0')
        exact ⟨us',fr a _ p2 (by intro w;cases w;exact na rfl),p3.step kp⟩
      ·exact lts a (.inl z)
     refine told_ok re re' hk owE (fun i k zs h=>?_) (fun i t h=>?_) rv q2 lk
     ·rcases getE h with ⟨c,z⟩ | ⟨c,z⟩
      ·cases z
       right
       intro a us2 ha hu
       subst c
       rw [h0'] at ha;cases ha
       rw [b1] at hu;cases hu
       exact b2
      ·left
       refine ⟨z,fun a ha=>?_⟩
       obtain ⟨a',us',p1,p2,p3,_⟩:=re.own i k zs z
       rw [ha] at p1;cases p1
       have na:a≠a0:=fun w=>c (re.inj i jb k kb zs xs a0 z hE (by rw [←w];exact ha) h0')
       rw [p2];exact fr a _ p2 (by intro w;cases w;exact na rfl)
     ·rcases getE h with ⟨_,z⟩ | ⟨_,z⟩
      ·cases z
      ·exact z
  ·exact q.elim
 ·exact q.elim
end
end L2
set_option Elab.async false
set_option linter.all false
set_option maxRecDepth 100000
set_option maxHeartbeats 4000000
namespace L2
open PySem PySem.Spec PyProof.Rows
def capU (bk:Bool):Option (Option U)→Option U
 | some (some (.p t))=>some (.p t)
 | some (some (.o _ xs))=>if bk=true then some (.o true xs) else some (.p (.lst xs))
 | _=>none
def capE (t:Nat) (cap:List (Nat×Bool)) (E:En):En:=List.replicate t none++cap.map fun k=>capU k.2 E[k.1]?
def boxOf:List (Nat×Bool)→Option (Nat×Nat)
 | []=>none
 | (k,true)::_=>some (0,k)
 | (_,false)::r=>(boxOf r).map fun x=>(x.1+1,x.2)
def oneBox (cap:List (Nat×Bool)):Bool:=Nat.ble (cap.filter (·.2)).length 1
def wback (t:Nat) (cap:List (Nat×Bool)) (Ein E:En):Option En:=match boxOf cap with
 | none=>some E
 | some (j,k)=>match E[k]?,Ein[t+j]? with
  | some (some (.o b _)),some (some (.o true ys))=>if noLs ys=true then some (E.set k (some (.o b ys))) else none
  | some (some (.p _)),_=>some E
  | _,_=>none
def compL (g:FG) (Fe:FE):List T→En→(En→Prop)→Prop
 | [],E,Q=>Q E
 | x::xs,E,Q=>g x E fun E2=>Fe E2 fun r E3=>match r with
  | .p t=>(match E3[E.length-1]? with
   | some (some (.o false acc))=>acc.length<1000∧compL g Fe xs ((E3.set (E.length-1) (some (.o false (acc++[t])))).take E.length) Q
   | _=>False)
  | .s _=>False
def fComp (t:Nat) (cap:List (Nat×Bool)) (I:FI) (g:FG) (Fe:FE):FE:=fun E Q=>I E fun items us E1=>cap.all (fun k=>!(k.2&&us.contains k.1))=true∧
 compL g Fe items (capE t cap E1++[some (.o false [])]) fun Ein=>match Ein[t+cap.length]? with
  | some (some (.o false zs))=>noLs zs=true∧o1 (wback t cap Ein E1) fun E2=>Q (.s E2.length) (E2++[some (.o false zs)])
  | _=>False
section
variable {K:PySem.W.Frag} {B:Addr→Prop} {H H':Hp} {S S':St} {E E':En} {σ:St}
theorem capE_get {t:Nat} {cap:List (Nat×Bool)} {i:Nat} {u:U} (h:(capE t cap E)[i]? = some (some u)):∃j k b,i=t+j∧cap[j]? = some (k,b)∧capU b E[k]? = some u:=by
 unfold capE at h
 rcases Nat.lt_or_ge i t with c | c
 ·rw [List.getElem?_append_left (by simpa using c)] at h
  have:=List.mem_of_getElem? h
  rw [List.mem_replicate] at this
  cases this.2
 ·rw [List.getElem?_append_right (by simpa using c),List.length_replicate,List.getElem?_map] at h
  cases q:cap[i-t]? with
  | none=>rw [q] at h;cases h
  | some x=>
   rw [q] at h
   exact ⟨i-t,x.1,x.2,by omega,q,by simpa using h⟩
theorem capS_get {t:Nat} {cap:List (Nat×Bool)} {j k:Nat} {b:Bool} (h:cap[j]? = some (k,b)):(capS t (cap.map (·.1)) σ)[t+j]? = some ((σ[k]?).join):=by
 unfold capS
 rw [List.getElem?_append_right (by simp)]
 simp [h]
theorem boxOf_some:∀{cap:List (Nat×Bool)} {j k:Nat},boxOf cap=some (j,k)→cap[j]? = some (k,true)
 | (k,true)::r,_,_,h=>by cases h;rfl
 | (m,false)::r,j,k,h=>by
  cases q:boxOf r with
  | none=>rw [boxOf,q] at h;cases h
  | some x=>
   rw [boxOf,q] at h
   cases h
   simpa using boxOf_some (j:=x.1) (k:=x.2) q
theorem boxOf_only:∀{cap:List (Nat×Bool)} {j k:Nat},oneBox cap=true→cap[j]? = some (k,true)→boxOf cap=some (j,k)
 | [],j,k,_,h=>by simp at h
 | (m,true)::r,0,k,_,h=>by simp at h;subst h;rfl
 | (m,true)::r,j+1,k,ho,h=>by
  have h':r[j]? = some (k,true):=by simpa using h
  have:(k,true)∈r.filter (·.2):=List.mem_filter.mpr ⟨List.mem_of_getElem? h',rfl⟩
  have hl:0<(r.filter (·.2)).length:=List.length_pos_of_mem this
  unfold oneBox at ho
  rw [List.filter_cons_of_pos (by rfl)] at ho
  have:=Nat.le_of_ble_eq_true ho
  simp only [List.length_cons] at this
  omega
 | (m,false)::r,0,k,_,h=>by simp at h
 | (m,false)::r,j+1,k,ho,h=>by
  have h':r[j]? = some (k,true):=by simpa using h
  have ho':oneBox r=true:=by
   unfold oneBox at ho ⊢
   rw [List.filter_cons_of_neg (by simp)] at ho
   exact ho
  rw [boxOf,boxOf_only ho' h'];rfl
end
def Dat (i:Nat) (kvs:List (Key×V)) (σ:St) (H:Hp):Prop:=∃p,σ[i]? = some (some (.ref p))∧H p=some (.dK kvs)
abbrev DD:=Option (Nat×List (Key×V))
def DatO (d:DD) (σ:St) (H:Hp):Prop:=∀x,d=some x→Dat x.1 x.2 σ H
theorem DatO.same {d:DD} {σ:St} {H H':Hp} (h:DatO d σ H) (k:∀b o,H b=some o→H' b=some o):DatO d σ H':=fun x e=>let ⟨p,h1,h2⟩:=h x e;⟨p,h1,k _ _ h2⟩
theorem DatO.kp {d:DD} {K:PySem.W.Frag} {B O:Addr→Prop} {S σ:St} {E:En} {H H':Hp} (h:DatO d σ H) (re:RE K B H S E) (k:Kp (Ow B S E) O H H'):DatO d σ H':=fun x e=>
 let ⟨p,h1,h2⟩:=h x e;⟨p,h1,k.keep _ _ h2 fun z=>by obtain ⟨vs,e⟩:=re.ow z;rw [h2] at e;cases e⟩
def simED (d:DD) (K:PySem.W.Frag) (F:FE):TE:=fun σ H Q=>DatO d σ H∧simE K F σ H Q
def simGD (d:DD) (K:PySem.W.Frag) (g:FG):TG:=fun v σ H Q=>DatO d σ H∧simG K g v σ H fun σ' H'=>DatO d σ' H'→Q σ' H'
section
variable {X:Cx} {K:PySem.W.Frag} {pos:Pos} {Fe:FE} {g:FG} {I:FI}
theorem QG.gd {e:Expr} (h:QG X e (simG K g)):QG X e (simGD none K g):=h.le fun v σ H Q _ ⟨_,B,τ,E,t,Q',re,rp,hF,l⟩=>⟨B,τ,E,t,Q',re,rp,hF,fun σ' H' E' a b c d=>l σ' H' E' a b c d fun _ z=>by cases z⟩
theorem QE.ed {e:Expr} (h:QE X e (simE K Fe)):QE X e (simED none K Fe):=h.le fun _ _ _ _ z=>z.2
theorem comp_sim {d d':DD} {scope:Scope} {N':List Str} {cap:List (Nat×Bool)} {t:Nat} (S:CompOk X N' scope t (cap.map (·.1))) (ho:oneBox cap=true) (hnd:(cap.map (·.1)).Nodup) {σ:St} {H:Hp} {Q:VK} (hl:σ.length=X.N.length) (hdd:∀H,DatO d σ H→DatO d' (capS t (cap.map (·.1)) σ) H)
  (h:simED d K (fComp t cap I g Fe) σ H Q):tComp t (cap.map (·.1)) (simI K I) (simGD d' K g) (simED d' K Fe) σ H Q:=by
 obtain ⟨dt,B,S0,E,Q',hS,re,hF,lk⟩:=h
 refine ⟨B,S0,E,_,hS,re,hF,fun J items us E1 H1 S1 gd q g1 re1 ok husO hgd D hD=>?_⟩
 obtain ⟨hus,q⟩:=q
 obtain ⟨τ0,hS0⟩:=hS
 obtain ⟨τ1,hS1⟩:=g1.pre
 have hS1':∃τ,S1=σ++τ:=⟨τ0++τ1,by rw [hS1,hS0,List.append_assoc]⟩
 have atσ:∀{j k:Nat} {b:Bool} {v:V},cap[j]? = some (k,b)→S1[k]? = some (some v)→σ[k]? = some (some v):=fun {j k b v} hj hv=>by
  obtain ⟨x,_,hx,_⟩:=S.caps j k (by rw [List.getElem?_map,hj];rfl)
  have hk:k<σ.length:=by rw [hl];exact (List.getElem?_eq_some_iff.mp hx).1
  obtain ⟨τ,rfl⟩:=hS1'
  rw [List.getElem?_append_left hk] at hv;exact hv
 have atC:∀{j k:Nat} {b:Bool} {v:V},cap[j]? = some (k,b)→S1[k]? = some (some v)→(capS t (cap.map (·.1)) σ)[t+j]? = some (some v):=fun {j k b v} hj hv=>by rw [capS_get hj,atσ hj hv];rfl
 have backC:∀{j k:Nat} {b:Bool} {v:V},cap[j]? = some (k,b)→(capS t (cap.map (·.1)) σ)[t+j]? = some (some v)→S1[k]? = some (some v):=fun {j k b v} hj hv=>by
  rw [capS_get hj] at hv
  have:σ[k]? = some (some v):=by
   cases z:σ[k]? with
   | none=>rw [z] at hv;cases hv
   | some y=>rw [z] at hv;simpa using hv
  exact pre_get hS1' this
 obtain ⟨bx,hbx⟩:∃bx:Option Addr,∀a:Addr,bx=some a↔∃(j k:Nat) (kk:Bool) (xs:List T),cap[j]? = some (k,true)∧E1[k]? = some (some (.o kk xs))∧S1[k]? = some (some (.ref a)):=by
  by_cases hex:∃(a:Addr) (j k:Nat) (kk:Bool) (xs:List T),cap[j]? = some (k,true)∧E1[k]? = some (some (.o kk xs))∧S1[k]? = some (some (.ref a))
  ·obtain ⟨a,j,k,kk,xs,h1,h2,h3⟩:=hex
   refine ⟨some a,fun a'=>⟨fun z=>(by cases z;exact ⟨j,k,kk,xs,h1,h2,h3⟩),fun ⟨j',k',kk',xs',p1,p2,p3⟩=>?_⟩⟩
   have e1:=boxOf_only ho h1
   have e2:=boxOf_only ho p1
   rw [e1] at e2;cases e2
   rw [h3] at p3;cases p3;rfl
  ·exact ⟨none,fun a=>⟨fun z=>(by cases z),fun z=>absurd ⟨a,z⟩ hex⟩⟩
 have bxOw:∀a,bx=some a→Ow B S1 E1 a:=fun a z=>by
  obtain ⟨j,k,kk,xs,_,h2,h3⟩:=(hbx a).mp z
  exact .inr ⟨k,kk,xs,h2,h3⟩
 -- an own list of the block is the box
 have capO:∀{i:Nat} {k:Bool} {xs:List T},(capE t cap E1)[i]? = some (some (.o k xs))→∃j m kk,i=t+j∧cap[j]? = some (m,true)∧E1[m]? = some (some (.o kk xs))∧k=true:=fun {i k xs} h=>by
  obtain ⟨j,m,c,e1,e2,e3⟩:=capE_get h
  refine ⟨j,m,?_⟩
  cases qE:E1[m]? with
  | none=>rw [qE] at e3;cases e3
  | some u=>
   cases u with
   | none=>rw [qE] at e3;cases e3
   | some u=>
    cases u with
    | p _=>rw [qE] at e3;cases e3
    | o kk ys=>
     rw [qE] at e3
     cases c
     ·simp [capU] at e3
     ·simp [capU] at e3
      obtain ⟨e4,e5⟩:=e3
      exact ⟨kk,e1,e2,by rw [e5],e4⟩
 have owIn:∀b,Ow (fun a=>bx=some a) (capS t (cap.map (·.1)) σ) (capE t cap E1) b→bx=some b:=fun b z=>by
  rcases z with z | ⟨i,k,xs,h1,h2⟩
  ·exact z
  obtain ⟨j,m,kk,e1,e2,e3,_⟩:=capO h1
  subst e1
  exact (hbx b).mpr ⟨j,m,kk,xs,e2,e3,backC e2 h2⟩
 have kl:Kp (Ow B S1 E1) (Ow (fun a=>bx=some a) (capS t (cap.map (·.1)) σ) (capE t cap E1)) H1 H1:=Kp.less fun b z=>bxOw b (owIn b z)
 have reIn:RE K (fun a=>bx=some a) H1 (capS t (cap.map (·.1)) σ) (capE t cap E1):=by
  refine ⟨by simp [capS,capE],fun i u h=>?_,fun i k xs h=>?_,fun i j k l xs ys a h1 h2 h3 h4=>?_,fun a z=>re1.ow (bxOw a z)⟩
  ·obtain ⟨j,m,c,e1,e2,e3⟩:=capE_get h
   subst e1
   cases qE:E1[m]? with
   | none=>rw [qE] at e3;cases e3
   | some w=>
    cases w with
    | none=>rw [qE] at e3;cases e3
    | some w=>
     cases w with
     | p w=>
      rw [qE] at e3;cases e3
      obtain ⟨v,h1,h2⟩:=re1.pure m _ qE
      exact ⟨v,atC e2 h1,h2.step kl⟩
     | o kk ys=>
      rw [qE] at e3
      cases c
      ·simp [capU] at e3;subst e3
       obtain ⟨a,vs,h1,h2,h3,h4⟩:=re1.own m kk ys qE
       refine ⟨_,atC e2 h1,a,vs,rfl,.inl ⟨fun z=>?_,.inl h2⟩,h3.step kl⟩
       obtain ⟨j',k',kk',xs',p1,p2,p3⟩:=(hbx a).mp (owIn a z)
       have e4:=re1.inj m k' kk kk' ys xs' a qE p2 h1 p3
       subst e4
       have lt1:j<(cap.map (·.1)).length:=by rw [List.length_map];exact (List.getElem?_eq_some_iff.mp e2).1
       have lt2:j'<(cap.map (·.1)).length:=by rw [List.length_map];exact (List.getElem?_eq_some_iff.mp p1).1
       have:j=j':=(List.getElem?_inj lt1 hnd).mp (by rw [List.getElem?_map,List.getElem?_map,e2,p1];rfl)
       subst this
       rw [e2] at p1;cases p1
      ·simp [capU] at e3
  ·obtain ⟨j,m,kk,e1,e2,e3,e4⟩:=capO h
   subst e1;subst e4
   obtain ⟨a,vs,h1,h2,h3,h4⟩:=re1.own m kk _ e3
   exact ⟨a,vs,atC e2 h1,h2,h3.step kl,⟨fun _=>(hbx a).mpr ⟨j,m,kk,_,e2,e3,h1⟩,fun _=>rfl⟩⟩
  ·obtain ⟨j1,m1,k1,e1,e2,_,_⟩:=capO h1
   obtain ⟨j2,m2,k2,e3,e4,_,_⟩:=capO h2
   have z1:=boxOf_only ho e2
   have z2:=boxOf_only ho e4
   rw [z1] at z2;cases z2
   rw [e1,e3]
 -- the accumulator gets a place
 obtain ⟨gD,reD⟩:=reIn.lst (ts:=[]) (vs:=[]) hD rfl
 have gd0:gd (upd H1 D (.lst [])) (Ow (fun a=>bx=some a) (capS t (cap.map (·.1)) σ++[some (.ref D)]) (capE t cap E1++[some (.o false [])])):=by
  refine ok.keep _ _ _ _ gD.kp (hgd _ (fun b z=>bxOw b (owIn b z)) fun j hj a ha z=>?_)
  obtain ⟨j',k',kk',xs',p1,p2,p3⟩:=(hbx a).mp (owIn a z)
  obtain ⟨kj,xj,qj⟩:=husO j hj
  have ej:=re1.inj j k' kj kk' xj xs' a qj p2 ha p3
  subst ej
  have:=List.all_eq_true.mp hus (j,true) (List.mem_of_getElem? p1)
  simp [hj] at this
 have hn:(capS t (cap.map (·.1)) σ).length=t+cap.length:=by simp [capS]
 have hnE:(capE t cap E1++[some (U.o false [])]).length=t+cap.length+1:=by simp [capE];omega
 -- the turns
 refine ⟨fun i m σ' H'=>m=items.length-i∧i≤items.length∧∃E',compL g Fe (items.drop i) E' (fun Ein=>match Ein[t+cap.length]? with
   | some (some (.o false zs))=>noLs zs=true∧o1 (wback t cap Ein E1) fun E2=>Q' (.s E2.length) (E2++[some (.o false zs)])
   | _=>False)∧σ'.length=t+cap.length∧E'.length=t+cap.length+1∧RE K (fun a=>bx=some a) H' (σ'++[some (.ref D)]) E'∧
   Gs (fun a=>bx=some a) (upd H1 D (.lst [])) (capS t (cap.map (·.1)) σ++[some (.ref D)]) (capE t cap E1++[some (.o false [])]) H' (σ'++[some (.ref D)]) E'∧gd H' (Ow (fun a=>bx=some a) (σ'++[some (.ref D)]) E')∧DatO d' σ' H',
  ⟨_,rfl,Nat.zero_le _,_,q,hn,hnE,reD,Kp.refl _ _,gd0,(hdd _ (dt.kp re g1.kp)).kp reIn gD.kp⟩,?_⟩
 rintro i m σ2 H2 ⟨rfl,hi',E3,q3,hl3,hE3,re3,g3,gd3,dt3⟩
 rcases Nat.lt_or_ge i items.length with hlt | hge
 ·have hd:items.drop i=items[i]::items.drop (i+1):=List.drop_eq_getElem_cons hlt
  rw [hd] at q3
  refine .inr ⟨ok.go i H2 _ gd3 hlt,fun x H4 y=>?_⟩
  obtain ⟨k4,s4,rp⟩:=ok.yld i H2 _ x H4 _ gd3 (List.getElem?_eq_getElem hlt) (fun a z=>by obtain ⟨vs,e⟩:=re3.ow z;rw [e];intro z;cases z) y
  have re4:=re3.kept s4
  have gd4:=ok.keep _ _ _ _ k4 gd3
  refine ⟨dt3.same s4,_,[some (.ref D)],E3,_,_,re4,rp,q3,fun σ5 H5 E5 q5 g5 re5 hl5 dt5=>?_⟩
  have hE5:E5.length=t+cap.length+1:=by rw [←re5.len];simp [hl5,hl3]
  refine ⟨dt5,_,σ5++[some (.ref D)],E5,_,⟨_,rfl⟩,re5,q5,fun r E6 v H6 S6 q6 g6 re6 rr6=>?_⟩
  cases r with
  | s _=>exact q6.elim
  | p u=>
   simp only at q6
   have hlast:E3.length-1=t+cap.length:=by omega
   rw [hlast] at q6
   split at q6
   ·rename_i acc hacc
    obtain ⟨hlen,q6⟩:=q6
    obtain ⟨a6,ws,p1,p2,p3,p4⟩:=re6.own _ _ _ hacc
    have hS6:S6[t+cap.length]? = some (some (.ref D)):=pre_get g6.pre (by rw [List.getElem?_append_right (by omega)];simp [hl5,hl3])
    rw [hS6] at p1;cases p1
    obtain ⟨g7,re7⟩:=re6.put (ys:=acc++[u]) (ws:=ws++[v]) hacc hS6 (p3.append ⟨v,[],rfl,rr6,rfl⟩)
    obtain ⟨re8,ow8⟩:=re7.cut (E:=E5) (σ:=σ5++[some (.ref D)]) (g6.trans g7).pre re5.len
    have eE:E5.length=E3.length:=by omega
    rw [eE] at re8 ow8
    have gg:Gs (fun a=>bx=some a) H4 (σ2++[some (.ref D)]) E3 (upd H6 D (.lst (ws++[v]))) (σ5++[some (.ref D)]) ((E6.set (t+cap.length) (some (.o false (acc++[u])))).take E3.length):=(g5.trans (g6.trans g7).kp).trans (Kp.less ow8)
    refine ⟨ws,p2,by rw [p3.length];exact small1000 (Nat.le_of_lt hlen),items.length-(i+1),by omega,rfl,hlt,_,q6,by omega,?_,re8,(g3.trans k4).trans gg,ok.keep _ _ _ _ gg gd4,(dt5.kp re5 g6.kp).kp re6 g7.kp⟩
    rw [List.length_take,List.length_set]
    have:E5.length≤E6.length:=by
     obtain ⟨τ6,e6⟩:=g6.pre
     rw [←re5.len,←re6.len,e6];simp
    omega
   ·exact q6.elim
 ·have ei:i=items.length:=by omega
  subst ei
  rw [List.drop_length] at q3
  refine .inl ⟨ok.stop H2 _ gd3,?_⟩
  have q3':(match E3[t+cap.length]? with
   | some (some (.o false zs))=>noLs zs=true∧o1 (wback t cap E3 E1) fun E2=>Q' (.s E2.length) (E2++[some (.o false zs)])
   | _=>False):=q3
  split at q3'
  ·rename_i zs hzs
   obtain ⟨hnl,q3'⟩:=q3'
   obtain ⟨E2,e2,q3'⟩:=q3'.ex
   obtain ⟨aD,ws,p1,p2,p3,p4⟩:=re3.own _ _ _ hzs
   have hSD:(σ2++[some (V.ref D)])[t+cap.length]? = some (some (.ref D)):=by rw [List.getElem?_append_right (by omega)];simp [hl3]
   rw [hSD] at p1;cases p1
   -- what is kept of the heap around
   have ow0:∀b,Ow (fun a=>bx=some a) (capS t (cap.map (·.1)) σ++[some (.ref D)]) (capE t cap E1++[some (.o false [])]) b→bx=some b∨b=D:=fun b z=>by
    rcases gD.kp.new b z with z | z
    ·exact .inl (owIn b z)
    ·rcases reD.ow (by assumption) with ⟨us',hu⟩
     by_cases c:b=D
     ·exact .inr c
     ·rw [upd_ne c,z] at hu;cases hu
   have kept:∀b o,H1 b=some o→bx≠some b→H2 b=some o:=fun b o e n=>by
    refine g3.keep b o (by rw [upd_ne (ne_of_none e hD)];exact e) fun z=>?_
    rcases ow0 b z with z | z
    ·exact n z
    ·exact ne_of_none e hD z
   have hk:∀b o,H1 b=some o→¬Ow B S1 E1 b→H2 b=some o:=fun b o e n=>kept b o e fun z=>n (bxOw b z)
   have nD:H1 D=none:=hD
   have lk1:=lk.step g1
   -- the names around
   have fin:∀{E2:En},RE K B H2 S1 E2→(∀b,Ow B S1 E2 b→Ow B S1 E1 b)→
     (∀(i:Nat) (k:Bool) (xs:List T),E2[i]? = some (some (.o k xs))→(E1[i]? = some (some (.o k xs))∧∀a,S1[i]? = some (some (.ref a))→H2 a=H1 a)∨∀a ws,S1[i]? = some (some (.ref a))→H2 a=some (.lst ws)→Rps K H2 (LstOf H2) xs ws)→
     (∀(i:Nat) (u:T),E2[i]? = some (some (.p u))→E1[i]? = some (some (.p u)))→Q' (.s E2.length) (E2++[some (.o false zs)])→Q (.ref D) H2:=fun {E2} re' hw hE hP q=>by
    refine told_ok re1 re' hk hw hE hP (r:=.l zs) ⟨D,ws,rfl,hD,p2,Rps.noL (fun a z=>?_) hnl p3⟩ q lk1
    rcases z with ⟨us',z⟩ | z
    ·by_cases c:bx=some a
     ·exact re3.ow (.inl c)
     ·exact ⟨us',kept a _ z c⟩
    ·exact ⟨ws,by rw [z];exact p2⟩
   unfold wback at e2
   cases qb:boxOf cap with
   | none=>
    rw [qb] at e2
    cases e2
    have nb:∀b,bx≠some b:=fun b z=>by
     obtain ⟨j,k,kk,xs,h1,_⟩:=(hbx b).mp z
     rw [boxOf_only ho h1] at qb;cases qb
    have same:∀b o,H1 b=some o→H2 b=some o:=fun b o e=>kept b o e (nb b)
    exact fin (re1.kept same) (fun b z=>z) (fun i k xs h=>.inl ⟨h,fun a ha=>by
     obtain ⟨a',us',h1,h2,_⟩:=re1.own i k xs h
     rw [ha] at h1;cases h1
     rw [h2];exact same _ _ h2⟩) (fun i u h=>h) q3'
   | some jk=>
    obtain ⟨j,k⟩:=jk
    rw [qb] at e2
    have hj:=boxOf_some qb
    simp only at e2
    split at e2
    ·rename_i kb xs0 ys hE1 hEi
     split at e2
     ·cases e2
      rename_i hny
      obtain ⟨a0,us0,h1,h2,h3,h4⟩:=re1.own k kb xs0 hE1
      have hbx0:bx=some a0:=(hbx a0).mpr ⟨j,k,kb,xs0,hj,hE1,h1⟩
      obtain ⟨a',us1,r1,r2,r3,r4⟩:=re3.own _ true ys hEi
      have:bx=some a':=r4.mp rfl
      rw [hbx0] at this;cases this
      have ow1:Ow B S1 E1 a0:=.inr ⟨k,kb,xs0,hE1,h1⟩
      have lts:∀b,Ow B S1 E1 b→LstOf H2 b:=fun b z=>by
       by_cases c:bx=some b
       ·rw [hbx0] at c;cases c;exact ⟨us1,r2⟩
       ·obtain ⟨us',e⟩:=re1.ow z
        exact ⟨us',kept b _ e c⟩
      have cont:Rps K H2 (LstOf H2) ys us1:=Rps.noL (fun _ z=>z) hny r3
      have getE:∀{i:Nat} {u:U},(E1.set k (some (.o kb ys)))[i]? = some (some u)→(i=k∧u = .o kb ys)∨(i≠k∧E1[i]? = some (some u)):=fun {i u} h=>by
       by_cases c:i=k
       ·subst c
        rw [List.getElem?_set_self (List.getElem?_eq_some_iff.mp hE1).1] at h
        cases h;exact .inl ⟨rfl,rfl⟩
       ·rw [List.getElem?_set_ne (fun z=>c z.symm)] at h;exact .inr ⟨c,h⟩
      have nk:∀{i:Nat} {l:Bool} {zs':List T} {a:Addr},i≠k→E1[i]? = some (some (.o l zs'))→S1[i]? = some (some (.ref a))→bx≠some a:=fun {i l zs' a} c z ha w=>by
       rw [hbx0] at w;cases w
       exact c (re1.inj i k l kb zs' xs0 _ z hE1 ha h1)
      have owE:∀b,Ow B S1 (E1.set k (some (.o kb ys))) b→Ow B S1 E1 b:=fun b z=>by
       rcases z with z | ⟨i,l,zs',z1,z2⟩
       ·exact .inl z
       rcases getE z1 with ⟨c,z⟩ | ⟨c,z⟩
       ·subst c;exact .inr ⟨_,kb,xs0,hE1,z2⟩
       ·exact .inr ⟨i,l,zs',z,z2⟩
      have kp:Kp (Ow B S1 E1) (Ow B S1 E1) H1 H2:=⟨hk,fun b z=>.inl z⟩
      refine fin (re1.step hk (by simp) (fun i u h=>?_) (fun i l zs' h=>?_) (fun a z=>lts a (.inl z))) owE (fun i l zs' h=>?_) (fun i u h=>?_) q3'
      ·rcases getE h with ⟨_,z⟩ | ⟨_,z⟩
       ·cases z
       ·exact z
      ·rcases getE h with ⟨c,z⟩ | ⟨c,z⟩
       ·cases z;subst c
        refine ⟨xs0,hE1,fun a ha=>?_⟩
        rw [h1] at ha;cases ha
        exact ⟨us1,r2,cont.step (Kp.less lts)⟩
       ·refine ⟨zs',z,fun a ha=>?_⟩
        obtain ⟨a',us',p1',p2',p3',_⟩:=re1.own i l zs' z
        rw [ha] at p1';cases p1'
        exact ⟨us',kept a _ p2' (nk c z ha),p3'.step kp⟩
      ·rcases getE h with ⟨c,z⟩ | ⟨c,z⟩
       ·cases z;subst c
        right
        intro a us2 ha hu
        rw [h1] at ha;cases ha
        rw [r2] at hu;cases hu
        exact cont
       ·left
        refine ⟨z,fun a ha=>?_⟩
        obtain ⟨a',us',p1',p2',p3',_⟩:=re1.own i l zs' z
        rw [ha] at p1';cases p1'
        rw [p2'];exact kept a _ p2' (nk c z ha)
      ·rcases getE h with ⟨_,z⟩ | ⟨_,z⟩
       ·cases z
       ·exact z
     ·cases e2
    ·rename_i tp hE1
     cases e2
     have nb:∀b,bx≠some b:=fun b z=>by
      obtain ⟨j',k',kk,xs,h1,h2,_⟩:=(hbx b).mp z
      rw [boxOf_only ho h1] at qb;cases qb
      rw [hE1] at h2;cases h2
     have same:∀b o,H1 b=some o→H2 b=some o:=fun b o e=>kept b o e (nb b)
     exact fin (re1.kept same) (fun b z=>z) (fun i k xs h=>.inl ⟨h,fun a ha=>by
      obtain ⟨a',us',h1,h2,_⟩:=re1.own i k xs h
      rw [ha] at h1;cases h1
      rw [h2];exact same _ _ h2⟩) (fun i u h=>h) q3'
    ·cases e2
  ·exact q3'.elim
theorem fe_comp {target elt iter:Expr} {scope:Scope} {N':List Str} {cap:List (Nat×Bool)} {t:Nat} (hc:X.calm=true) (S:CompOk X N' scope t (cap.map (·.1))) (ho:oneBox cap=true) (hnd:(cap.map (·.1)).Nodup) (hi:QI X target iter (simI K I))
  (hg:∀C s3 H3 fp,QG (cxComp X N' scope C s3 H3 fp) target (simG K g)) (he:∀C s3 H3 fp,QE (cxComp X N' scope C s3 H3 fp) elt (simE K Fe)) (hs:∀x,foldedSetIterable iter X.env x=pure x:=by intro _;rfl) :
  QE X (.ListComp elt [⟨target,iter,[],0⟩] scope pos) (simE K (fComp t cap I g Fe)):=
 (qe_comp hc S hi (fun C s H f=>(hg C s H f).gd) (fun C s H f=>(he C s H f).ed) hs).le fun σ H Q hl h=>comp_sim (d:=none) (d':=none) S ho hnd hl (fun _ _ _ z=>by cases z) ⟨(fun _ z=>by cases z),h⟩
end
end L2
set_option Elab.async false
set_option linter.all false
set_option maxRecDepth 100000
set_option maxHeartbeats 4000000
namespace L2
open PySem PySem.Spec PyProof.Rows
section
variable {X:Cx}
theorem ps_setC {target elt iter:Expr} {scope:Scope} {pos pos' spos:Pos} {N':List Str} {cap:List Nat} {t ix:Nat} {xn:Str} {wi:TI} {g:TG} {te:TE} (hNn:X.N.Nodup) (hin:X.N[ix]? = some xn) (hxn:Loc X.env.scope xn) (hfn:X.fn xn=true∨X.env.scope.names.lookup xn=some .local)
  (hsw:swapsWith (.ListComp elt [⟨target,iter,[],0⟩] scope pos) (some (.Name xn pos')) spos.line X.env=pure true) (hc:X.calm=true) (S:CompOk X N' scope t cap) (hi:PI X target iter wi)
  (hg:∀C s3 H3 fp,PG (cxComp X N' scope C s3 H3 fp) target g) (he:∀C s3 H3 fp,PE (cxComp X N' scope C s3 H3 fp) elt te) (hs:∀x,foldedSetIterable iter X.env x=pure x:=by intro _;rfl) :
  PS X (.Assign [.Name xn pos'] (.ListComp elt [⟨target,iter,[],0⟩] scope pos) spos) (tAsg (tComp t cap wi g te) (gName ix)):=by
 intro pins s σ H DD I h
 rw [exec_Assign_Name_used _ _ _ _ hsw]
 refine wpAny_bind (wpAny_standAt (wpAny_bind ?_))
 unfold evalThenUse
 refine wpAny_bind ?_
 obtain ⟨QQ,hQQ⟩:∃QQ:Value→Shared→Prop,QQ=fun _ s'=>∃σ' H',Inv X pins σ' H' s'∧DD.nx σ' H':=⟨_,rfl⟩
 refine thn (Q:=QQ) ?_ (fun _ s' h'=>wpAny_pure (wpAny_pure (by rw [hQQ] at h';exact h')))
 refine wpAny_comprehension_free (use:=some (assign (.Name xn pos') X.env)) (cl:=clOf scope X.env) rfl hs (closureFor_cl fun y hy hf=>I.ok.has y.1 (S.free y hy hf)) S.kind S.names (thn (hi pins s σ H _ I h) fun v s1 h1=>thn h1 fun itv s2 h2=>?_)
 obtain ⟨it,fp,tn,J,H2,e,I2,T,st2,f2,h2⟩:=h2
 subst e
 refine wpAny_newObj_type (wpAny_newFunctionEnv S.cell (by intro y hy;simp at hy) (fun h₁ hns₁ hsb₁=>?_) S.kind)
 dsimp only at hns₁ hsb₁ ⊢
 obtain ⟨s3,hs3⟩:∃s3:Shared,s3 = { s2 with heap:=s2.heap.push { cls:=.type "list",dict:=none,data:=.seq ([]:List Value).toArray } }:=⟨_,rfl⟩
 have hD:H2 s2.heap.objs.size=none:=I2.hok.fresh (Nat.le_refl _)
 have I3:Inv X pins σ (upd H2 s2.heap.objs.size (.lst [])) s3:=by
  rw [hs3]
  exact I2.laid (t':=s2.toks) (fun b u e=>Heap.get?_push_of_some _ e) (Nat.le_refl _) ⟨Nat.zero_le _,[],0,.nil,Heap.get?_push_size _ rfl⟩
 have hsz3:s3.heap.objs.size=s2.heap.objs.size+1:=by rw [hs3];exact Heap.size_push ..
 have old3:∀b o,s2.heap.get? b=some o→s3.heap.get? b=some o:=fun b o e=>by rw [hs3];exact Heap.get?_push_of_some _ e
 have hC:(s2.heap.push { cls:=.type "list",dict:=none,data:=.seq ([]:List Value).toArray }).objs.size=s3.heap.objs.size:=by rw [hs3]
 have f3:∀b∈fp,FpOk X pins (upd H2 s2.heap.objs.size (.lst [])) b:=fun b hb=>by
  obtain ⟨o,ho,_⟩:=T.obj _ _ st2 b hb
  refine ⟨?_,(f2 b hb).2⟩
  rw [upd_ne (Nat.ne_of_lt (Heap.lt_size ho))]
  exact (f2 b hb).1
 have ob3:∀b∈fp,∃o,s3.heap.get? b=some o:=fun b hb=>by
  obtain ⟨o,ho,_⟩:=T.obj _ _ st2 b hb
  exact ⟨o,old3 b o ho⟩
 have k1:∀b o,s3.heap.get? b=some o→h₁.get? b=some o:=fun b o e=>by
  refine hsb₁.extBut b o ?_ ?_
  ·rw [hC];exact Nat.ne_of_lt (Heap.lt_size e)
  ·rw [hs3] at e;exact Heap.get?_push_of_some _ e
 have hns:h₁.Ns s3.heap.objs.size fun _=>none:=by
  rw [←hC];exact hns₁
 have I4:=comp_enter (tk:=s2.toks+([]:List (Str×Value)).length) S I3 f3 ob3 hns k1
 have st4:tn 0 h₁:=T.keep _ _ _ st2 fun b hb o e=>k1 b o (old3 b o e)
 obtain ⟨W,⟨m0,w0⟩,turn⟩:=h2 _ hD
 -- the block's context
 obtain ⟨X',hX'⟩:∃X':Cx,X'=cxComp X N' scope s3.heap.objs.size s3 (upd H2 s2.heap.objs.size (.lst [])) fp:=⟨_,rfl⟩
 have hg':PG X' target g:=by rw [hX'];exact hg _ _ _ _
 have he':PE X' elt te:=by rw [hX'];exact he _ _ _ _
 have stat:∀{H':Hp},(∀b∈fp,H' b=none)→∀b∈fp,FpOk X' [] H' b:=fun hn b hb=>by
  obtain ⟨o,ho⟩:=ob3 b hb
  rw [hX']
  refine ⟨hn b hb,Nat.ne_of_lt (Heap.lt_size ho),?_,.inl hb,fun x c e=>(f3 b hb).2.2.2.2.1 x c (clOf_sub e),fun p hp=>absurd (show p∈([]:List (Addr×Obj)) from hp) (by simp)⟩
  intro hz
  rcases List.mem_cons.mp (I3.stkSub b hz) with z | z
  ·exact (f3 b hb).2.1 z
  ·exact (f3 b hb).2.2.1 z
 have hcalm:X'.calm=true:=by rw [hX'];exact hc
 have loop:codeAny (model X.prog X.w) X.A (.compLoop (.ListComp elt [⟨target,iter,[],0⟩] scope pos) 0 (.ref it) (.ref s2.heap.objs.size) (compEnvC scope (clOf scope X.env) s3.heap.objs.size X.env))
   (compPost (model X.prog X.w) X.A X.xe (some (assign (.Name xn pos') X.env)) QQ (.ref s2.heap.objs.size) s3.heap.objs.size) { s3 with heap:=h₁,toks:=s2.toks+([]:List (Str×Value)).length }:=by
  refine codeAny_compLoop_go (fun n s'=>∃i σ' H',Inv X' [] σ' H' s'∧tn i s'.heap∧(∀b∈fp,H' b=none)∧W i n σ' H') ?_ m0 ⟨0,capS t cap σ,_,by rw [hX'];exact I4,st4,fun b hb=>(f3 b hb).1,w0⟩
  rintro n s5 ⟨i,σ5,H5,I5,st5,fr5,w5⟩
  rcases turn i n σ5 H5 w5 with ⟨stop,qn⟩ | ⟨go,step⟩
  ·have q:=T.done X' (by rw [hX'];rfl) (by rw [hX'];rfl) (by rw [hX'];rfl) hcalm i [] s5 σ5 H5 (fun _ _=>False) I5 (stat fr5) st5 stop
   have eA:X'.A=X.A:=by rw [hX'];rfl
   rw [eA] at q
   refine thn q fun r s6 ⟨hr,I6⟩=>?_
   subst hr
   obtain ⟨m,hn,_⟩:=I6.loc
   have hn':s6.heap.Ns s3.heap.objs.size m:=by rw [hX'] at hn;exact hn
   have un6:Un (frs X.stack) fp (upd H2 s2.heap.objs.size (.lst [])) H5 s3.heap s6.heap:=by have:=I6.base;rw [hX'] at this;exact this
   have hok6:HOk X.prog X.w H5 s6.heap:=by have:=I6.hok;rw [hX'] at this;exact this
   have free6:H5 s3.heap.objs.size=none:=by have:=I6.free;rw [hX'] at this;exact this
   have os6:s6.os=s3.os:=by have:=I6.os;rw [hX'] at this;exact this
   have I7:Inv X pins σ H5 s6:=I3.call' (ch:=fp) os6 un6 hok6 I6.bare (fun b hb=>⟨(f3 b hb).2.2.2.1,(f3 b hb).2.1,(f3 b hb).2.2.2.2.1,(f3 b hb).2.2.2.2.2⟩)
   have fC:FpOk X pins H5 s3.heap.objs.size:=I3.fpOk (Nat.le_refl _) free6
   refine wpAny_assign_Name (store_ok2 I7 hNn hin hxn (v:=.ref s2.heap.objs.size) rfl (fun s8 I8 ⟨a,sa,ha⟩=>?_) hfn)
   have nC:s3.heap.objs.size≠a:=by
    rcases ha with rfl | ha
    ·exact fC.2.1
    ·exact fun z=>fC.2.2.2.2.1 _ _ ha z.symm
   obtain ⟨mC,hnC⟩:∃m',s8.heap.Ns s3.heap.objs.size m':=⟨m,hn'.at fun o e=>sa.extBut _ _ nC e⟩
   refine ⟨mC,hnC,fun h' hs'=>?_⟩
   rw [hQQ]
   refine ⟨_,H5,I8.turnedL (t':=s8.toks) (ch:=[s3.heap.objs.size]) (fun b u hb e=>hs'.extBut _ _ (by simpa using hb) e) (fun b hb=>by rw [List.mem_singleton.mp hb];exact fC),qn⟩
  ·have q:=T.item X' (by rw [hX'];rfl) (by rw [hX'];rfl) (by rw [hX'];rfl) hcalm i [] s5 σ5 H5 (fun _ _=>False) I5 (stat fr5) st5 go
   have eA:X'.A=X.A:=by rw [hX'];rfl
   have eP:X'.prog=X.prog:=by rw [hX'];rfl
   have eW:X'.w=X.w:=by rw [hX'];rfl
   have eE:X'.env=compEnvC scope (clOf scope X.env) s3.heap.objs.size X.env:=by rw [hX'];rfl
   have eX:X'.xe=fun _ _=>False:=by rw [hX'];rfl
   rw [eA] at q
   refine thn q fun r s6 ⟨u,hr,h6⟩=>?_
   subst hr
   refine thn h6 fun _ s7 ⟨x,H7,I7,r7,y7,st7,fr7⟩=>?_
   have I7':=I7.pinned (stat fr7) (T.obj _ _ st7)
   have q8:=hg' _ s7 σ5 H7 x u _ I7' r7 (step x H7 y7)
   rw [eA,eP,eW,eE,eX] at q8
   refine thn q8 fun _ s8 ⟨σ8,H8,I8,w8⟩=>?_
   have q9:=he' _ s8 σ8 H8 _ I8 w8
   rw [eA,eP,eW,eE,eX] at q9
   refine thn q9 fun y s9 ⟨v9,H9,I9,r9,ys,hD9,hlt,m',hm,w9⟩=>?_
   have q10:=mt_append (X:=X') _ s9 σ8 H9 (.ref s2.heap.objs.size) [v9] (.ref s2.heap.objs.size) [y] (fun _ H10=>H10=upd H9 s2.heap.objs.size (.lst (ys++[v9]))) I9 rfl (.cons r9 .nil) ⟨_,ys,v9,rfl,rfl,hD9,hlt,rfl⟩
   rw [eA,eP,eW,eX] at q10
   refine thn q10 fun _ s10 ⟨v10,H10,I10,r10,e10⟩=>?_
   subst e10
   refine ⟨m',hm,i+1,σ8,_,I10.unpinned,T.keep _ _ _ st7 fun b hb o e=>(I10.pin (b,o) (List.mem_append_right _ (List.mem_append_right _ (mem_pinsAt hb e)))).1,fun b hb=>?_,w9⟩
   obtain ⟨o,e,d⟩:=T.obj _ _ st7 b hb
   exact (I10.pin (b,o) (List.mem_append_right _ (List.mem_append_right _ (mem_pinsAt hb e)))).2.1
 have es:({ s2 with heap:=h₁,toks:=s2.toks+([]:List (Str×Value)).length }:Shared) = { s3 with heap:=h₁,toks:=s2.toks+([]:List (Str×Value)).length }:=by rw [hs3]
 rw [es,hC]
 exact codeAny_compStart_list loop (T.self _ 0 _ _ _ st4 loop)
end
section
variable {X:Cx} {K:PySem.W.Frag} {Fe:FE} {g:FG} {I:FI}
theorem fs_setC {target elt iter:Expr} {scope:Scope} {pos pos' spos:Pos} {N':List Str} {cap:List (Nat×Bool)} {t i:Nat} {x:Str} (hN:X.N.Nodup) (hi:X.N[i]? = some x) (hx:Loc X.env.scope x)
  (hsw:swapsWith (.ListComp elt [⟨target,iter,[],0⟩] scope pos) (some (.Name x pos')) spos.line X.env=pure true) (hc:X.calm=true) (S:CompOk X N' scope t (cap.map (·.1))) (ho:oneBox cap=true) (hnd:(cap.map (·.1)).Nodup) (hit:QI X target iter (simI K I))
  (hg:∀C s3 H3 fp,QG (cxComp X N' scope C s3 H3 fp) target (simG K g)) (he:∀C s3 H3 fp,QE (cxComp X N' scope C s3 H3 fp) elt (simE K Fe)) (hs:∀x,foldedSetIterable iter X.env x=pure x:=by intro _;rfl)
  (hf:X.fn x=true∨X.env.scope.names.lookup x=some .local:=by first | exact .inl rfl | exact .inr rfl | assumption) :
  QS X (.Assign [.Name x pos'] (.ListComp elt [⟨target,iter,[],0⟩] scope pos) spos) (simS K (sSet i (fComp t cap I g Fe))):=
 QS.le ⟨ps_setC hN hi hx hf hsw hc S hit.h (fun C s3 H3 fp=>(hg C s3 H3 fp).gd.h) (fun C s3 H3 fp=>(he C s3 H3 fp).ed.h) hs⟩ fun D σ H hl ⟨B,E,DT,re,hF,l⟩=>comp_sim (d:=none) (d':=none) S ho hnd hl (fun _ _ _ z=>by cases z) ⟨(fun _ z=>by cases z),B,σ,E,_,⟨[],by simp⟩,re,hF,fun r E' v H' S' q g re' rr=>by
  obtain ⟨u,e1,q⟩:=q.ex
  rw [←re.len] at e1 q
  obtain ⟨r1,ow⟩:=pick_ok (i:=i) re' g.pre rr e1
  exact l.nx _ _ _ q (g.kp.trans (Kp.less ow)) r1⟩
end
end L2
set_option Elab.async false
set_option linter.all false
set_option maxRecDepth 100000
set_option maxHeartbeats 4000000
namespace L2
open PySem PySem.Spec PyProof.Rows
mutual
def eqT:T→T→Bool
 | .non,.non=>true
 | .bl a,.bl b=>a==b
 | .int a,.int b=>a==b
 | .bl a,.int b=>(if a then 1 else 0)==b
 | .int a,.bl b=>a==(if b then 1 else 0)
 | .str a,.str b=>a==b
 | .tup xs,.tup ys=>eqTs xs ys
 | .lst xs,.lst ys=>eqTs xs ys
 | _,_=>false
def eqTs:List T→List T→Bool
 | [],[]=>true
 | x::xs,y::ys=>eqT x y&&eqTs xs ys
 | _,_=>false
end
mutual
def dT:T→Nat
 | .tup xs=>dTs xs+1
 | .lst xs=>dTs xs+1
 | _=>0
def dTs:List T→Nat
 | []=>0
 | x::xs=>Nat.max (dT x) (dTs xs)
end
mutual
theorem eqT_refl:∀x:T,eqT x x=true
 | .non=>rfl
 | .bl a=>by simp [eqT]
 | .int a=>by simp [eqT]
 | .str a=>by simp [eqT]
 | .tup xs=>by rw [eqT];exact eqTs_refl xs
 | .lst xs=>by rw [eqT];exact eqTs_refl xs
theorem eqTs_refl:∀xs:List T,eqTs xs xs=true
 | []=>rfl
 | x::xs=>by rw [eqTs,eqT_refl x,eqTs_refl xs];rfl
end
theorem eqTs_range:∀xs ys:List T,eqTs xs ys=((List.range (min xs.length ys.length)).all (fun j=>eqT (xs.getD j .non) (ys.getD j .non))&&xs.length==ys.length)
 | [],[]=>rfl
 | [],_::_=>by simp [eqTs]
 | _::_,[]=>by simp [eqTs]
 | x::xs,y::ys=>by
  rw [eqTs,eqTs_range xs ys]
  simp only [List.length_cons,Nat.succ_min_succ,List.range_succ_eq_map,List.all_cons,List.all_map]
  simp [Function.comp_def,Bool.and_assoc]
theorem dT_mem:∀{xs:List T} {x:T},x∈xs→dT x≤dTs xs
 | y::xs,x,h=>by
  rw [dTs]
  rcases List.mem_cons.mp h with rfl | h
  ·exact Nat.le_max_left _ _
  ·exact Nat.le_trans (dT_mem h) (Nat.le_max_right _ _)
mutual
def Rq (K:PySem.W.Frag) (H:Hp):T→V→Prop
 | .non,v=>v = .non
 | .bl b,v=>v = .bl b
 | .int i,v=>v = .int i
 | .str x,v=>v = .str x
 | .tup xs,v=>∃a vs,v = .ref a∧SqT K H a vs∧Rqs K H xs vs
 | .lst xs,v=>∃a vs,v = .ref a∧SqL K H a vs∧Rqs K H xs vs
def Rqs (K:PySem.W.Frag) (H:Hp):List T→List V→Prop
 | [],vs=>vs=[]
 | x::xs,vs=>∃v r,vs=v::r∧Rq K H x v∧Rqs K H xs r
end
section
variable {K:PySem.W.Frag} {H:Hp} {O:Addr→Prop}
mutual
theorem Rp.rq:∀{t:T} {v:V},Rp K H O t v→Rq K H t v
 | .non,_,h=>h
 | .bl _,_,h=>h
 | .int _,_,h=>h
 | .str _,_,h=>h
 | .tup xs,v,h=>by
  obtain ⟨a,vs,e,h1,h2⟩:=h
  exact ⟨a,vs,e,h1.imp And.right id,Rps.rq h2⟩
 | .lst xs,v,h=>by
  obtain ⟨a,vs,e,h1,h2⟩:=h
  exact ⟨a,vs,e,h1.imp And.right id,Rps.rq h2⟩
theorem Rps.rq:∀{xs:List T} {vs:List V},Rps K H O xs vs→Rqs K H xs vs
 | [],_,h=>h
 | x::xs,vs,h=>by
  obtain ⟨v,r,e,h1,h2⟩:=h
  exact ⟨v,r,e,Rp.rq h1,Rps.rq h2⟩
end
theorem Rt.rq {t:T} {v:V} (h:Rt K H O t v):Rq K H t v:=by
 cases t with
 | tup xs=>obtain ⟨a,vs,e,h1,h2⟩:=h;exact ⟨a,vs,e,h1,h2.rq⟩
 | lst xs=>obtain ⟨a,vs,e,h1,h2⟩:=h;exact ⟨a,vs,e,h1,h2.rq⟩
 | non=>exact h
 | bl _=>exact h
 | int _=>exact h
 | str _=>exact h
theorem Rqs.length:∀{xs:List T} {vs:List V},Rqs K H xs vs→vs.length=xs.length
 | [],_,h=>by cases h;rfl
 | _::_,_,⟨v,r,e,_,h2⟩=>by rw [e,List.length_cons,List.length_cons,Rqs.length h2]
theorem Rqs.get:∀{xs:List T} {vs:List V} {i:Nat} {x:T},Rqs K H xs vs→xs[i]? = some x→∃v,vs[i]? = some v∧Rq K H x v
 | [],_,_,_,_,e=>by simp at e
 | _::_,_,0,_,⟨v,r,e,h1,_⟩,q=>by simp at q;subst q;subst e;exact ⟨v,rfl,h1⟩
 | _::_,_,i+1,x,⟨v,r,e,_,h2⟩,q=>by
  obtain ⟨w,q1,q2⟩:=Rqs.get (i:=i) (x:=x) h2 (by simpa using q)
  subst e
  exact ⟨w,by simpa using q1,q2⟩
end
section
variable {X:Cx} {pins:List (Addr×Obj)} {σ:St} {H:Hp} {s:Shared}
theorem Inv.nolt (I:Inv X pins σ H s) {a:Addr} {vs ws:List V} (h1:SqL X.K H a vs) (h2:SqT X.K H a ws):False:=by
 obtain ⟨_,_,p1,_⟩:=I.list h1
 obtain ⟨_,_,p2,_⟩:=I.tuple h2
 exact SeqAt.ne_of_list_tuple p1.isList p2 rfl
mutual
theorem Rq.inj (I:Inv X pins σ H s):∀{x y:T} {v:V},Rq X.K H x v→Rq X.K H y v→x=y
 | .non,.non,_,_,_=>rfl
 | .bl a,.bl b,_,h,k=>by cases h;cases k;rfl
 | .int a,.int b,_,h,k=>by cases h;cases k;rfl
 | .str a,.str b,_,h,k=>by cases h;cases k;rfl
 | .tup xs,.tup ys,v,⟨a,vs,e,h1,h2⟩,⟨b,ws,f,k1,k2⟩=>by
  rw [e] at f;cases f
  rw [I.tuple_inj h1 k1] at h2
  rw [Rqs.inj I h2 k2]
 | .lst xs,.lst ys,v,⟨a,vs,e,h1,h2⟩,⟨b,ws,f,k1,k2⟩=>by
  rw [e] at f;cases f
  rw [I.list_inj h1 k1] at h2
  rw [Rqs.inj I h2 k2]
 | .tup xs,.lst ys,v,⟨a,vs,e,h1,h2⟩,⟨b,ws,f,k1,k2⟩=>by rw [e] at f;cases f;exact (I.nolt k1 h1).elim
 | .lst xs,.tup ys,v,⟨a,vs,e,h1,h2⟩,⟨b,ws,f,k1,k2⟩=>by rw [e] at f;cases f;exact (I.nolt h1 k1).elim
 | .non,.bl _,_,h,k=>by cases h;cases k
 | .non,.int _,_,h,k=>by cases h;cases k
 | .non,.str _,_,h,k=>by cases h;cases k
 | .non,.tup _,_,h,⟨_,_,k,_⟩=>by cases h;cases k
 | .non,.lst _,_,h,⟨_,_,k,_⟩=>by cases h;cases k
 | .bl _,.non,_,h,k=>by cases h;cases k
 | .bl _,.int _,_,h,k=>by cases h;cases k
 | .bl _,.str _,_,h,k=>by cases h;cases k
 | .bl _,.tup _,_,h,⟨_,_,k,_⟩=>by cases h;cases k
 | .bl _,.lst _,_,h,⟨_,_,k,_⟩=>by cases h;cases k
 | .int _,.non,_,h,k=>by cases h;cases k
 | .int _,.bl _,_,h,k=>by cases h;cases k
 | .int _,.str _,_,h,k=>by cases h;cases k
 | .int _,.tup _,_,h,⟨_,_,k,_⟩=>by cases h;cases k
 | .int _,.lst _,_,h,⟨_,_,k,_⟩=>by cases h;cases k
 | .str _,.non,_,h,k=>by cases h;cases k
 | .str _,.bl _,_,h,k=>by cases h;cases k
 | .str _,.int _,_,h,k=>by cases h;cases k
 | .str _,.tup _,_,h,⟨_,_,k,_⟩=>by cases h;cases k
 | .str _,.lst _,_,h,⟨_,_,k,_⟩=>by cases h;cases k
 | .tup _,.non,_,⟨_,_,h,_⟩,k=>by cases h;cases k
 | .tup _,.bl _,_,⟨_,_,h,_⟩,k=>by cases h;cases k
 | .tup _,.int _,_,⟨_,_,h,_⟩,k=>by cases h;cases k
 | .tup _,.str _,_,⟨_,_,h,_⟩,k=>by cases h;cases k
 | .lst _,.non,_,⟨_,_,h,_⟩,k=>by cases h;cases k
 | .lst _,.bl _,_,⟨_,_,h,_⟩,k=>by cases h;cases k
 | .lst _,.int _,_,⟨_,_,h,_⟩,k=>by cases h;cases k
 | .lst _,.str _,_,⟨_,_,h,_⟩,k=>by cases h;cases k
theorem Rqs.inj (I:Inv X pins σ H s):∀{xs ys:List T} {vs:List V},Rqs X.K H xs vs→Rqs X.K H ys vs→xs=ys
 | [],[],_,_,_=>rfl
 | [],_::_,_,h,⟨_,_,k,_⟩=>by cases h;cases k
 | _::_,[],_,⟨_,_,h,_⟩,k=>by cases k;cases h
 | x::xs,y::ys,_,⟨v,r,e,h1,h2⟩,⟨w,r',f,k1,k2⟩=>by
  rw [e] at f;cases f
  rw [Rq.inj I h1 k1,Rqs.inj I h2 k2]
end
theorem EqAt_of_rc {A:Around} {u v:Value} {k:Bool} (h:SeqAt.RcAt A s u v k) (hk:u=v→k=true) (hf:∀b t,u≠.float b t):SeqAt.EqAt A s u v k:=fun prog w E Q hq=>by
 unfold eqBool
 refine wpAny_holding ?_
 refine wpAny_ite_split (fun hab=>?_) (fun _=>?_)
 ·rw [hk (eq_of_beq hab)] at hq
  exact wpAny_bind (wpAny_rule (wpAny_pure hq))
 ·cases u with
  | float b t=>exact absurd rfl (hf b t)
  | _=>exact wpAny_bind (h prog w E _ (wpAny_truthy_bool hq))
theorem rel_inj {x y:V} {u:Value} (h:RelV x u) (k:RelV y u):x=y:=h.inj k
theorem items_eq (A:Around) {xs ys:List T} {vs ws:List V} {its js:List Value} (rx:Vals vs its) (ry:Vals ws js) (hx:Rqs X.K H xs vs) (hy:Rqs X.K H ys ws)
  (ih:∀(j:Nat) (x y:T) (v w:V) (u u':Value),xs[j]? = some x→ys[j]? = some y→Rq X.K H x v→Rq X.K H y w→RelV v u→RelV w u'→SeqAt.EqAt A s u u' (eqT x y)) :
  ∀j (h1:j<its.toArray.size) (h2:j<js.toArray.size),SeqAt.EqAt A s its.toArray[j] js.toArray[j] (eqT (xs.getD j .non) (ys.getD j .non)):=fun j h1 h2=>by
 have l1:=rx.length;have l2:=ry.length;have l3:=hx.length;have l4:=hy.length
 have h1':j<its.length:=by simpa using h1
 have h2':j<js.length:=by simpa using h2
 have e1:xs[j]? = some xs[j]:=List.getElem?_eq_getElem (by omega)
 have e2:ys[j]? = some ys[j]:=List.getElem?_eq_getElem (by omega)
 obtain ⟨v,q1,q2⟩:=hx.get e1
 obtain ⟨w,q3,q4⟩:=hy.get e2
 obtain ⟨u1,z1,r1⟩:=rx.get q1
 obtain ⟨v1,z2,r2⟩:=ry.get q3
 have y1:its.toArray[j]=u1:=by
  rw [List.getElem?_eq_getElem h1'] at z1
  simpa using Option.some.inj z1
 have y2:js.toArray[j]=v1:=by
  rw [List.getElem?_eq_getElem h2'] at z2
  simpa using Option.some.inj z2
 rw [y1,y2]
 have g1:xs.getD j .non=xs[j]:=by simp [List.getD,e1]
 have g2:ys.getD j .non=ys[j]:=by simp [List.getD,e2]
 rw [g1,g2]
 exact ih j _ _ v w u1 v1 e1 e2 q2 q4 r1 r2
theorem rc_mixed (I:Inv X pins σ H s) {A:Around} (hu:A.units<cLine):∀{x y:T} {v w:V} {u u':Value},(∀xs ys,¬(x = .tup xs∧y = .tup ys))→(∀xs ys,¬(x = .lst xs∧y = .lst ys))→Rq X.K H x v→Rq X.K H y w→RelV v u→RelV w u'→SeqAt.RcAt A s u u' ((eqT x y)):=by
 intro x y v w u u' nt nl hx hy rx ry
 cases x with
 | non=>
  cases y with
  | non=>
   cases hx;cases rx
   cases hy;cases ry
   exact SeqAt.RcAt.none_none
  | bl ay=>
   cases hx;cases rx
   cases hy;cases ry
   exact SeqAt.RcAt.none_bool _
  | int ay=>
   cases hx;cases rx
   cases hy;obtain ⟨t_hy,rfl⟩:=ry
   exact SeqAt.RcAt.none_int _ t_hy
  | str ay=>
   cases hx;cases rx
   cases hy;obtain ⟨t_hy,rfl⟩:=ry
   exact SeqAt.RcAt.none_str _ t_hy
  | tup ay=>
   cases hx;cases rx
   obtain ⟨a_hy,vs_hy,e_hy,q_hy,_⟩:=hy
   subst e_hy;cases ry
   obtain ⟨its_hy,_,p_hy,_⟩:=I.tuple q_hy
   exact SeqAt.RcAt.none_tuple p_hy hu
  | lst ay=>
   cases hx;cases rx
   obtain ⟨a_hy,vs_hy,e_hy,q_hy,_⟩:=hy
   subst e_hy;cases ry
   obtain ⟨its_hy,_,p_hy,_⟩:=I.list q_hy
   exact SeqAt.RcAt.none_list p_hy.isList hu
 | bl ax=>
  cases y with
  | non=>
   cases hx;cases rx
   cases hy;cases ry
   exact SeqAt.RcAt.bool_none _
  | bl ay=>
   cases hx;cases rx
   cases hy;cases ry
   exact SeqAt.RcAt.bool_bool _ _
  | int ay=>
   cases hx;cases rx
   cases hy;obtain ⟨t_hy,rfl⟩:=ry
   exact SeqAt.RcAt.bool_int _ _ t_hy
  | str ay=>
   cases hx;cases rx
   cases hy;obtain ⟨t_hy,rfl⟩:=ry
   exact SeqAt.RcAt.bool_str _ _ t_hy
  | tup ay=>
   cases hx;cases rx
   obtain ⟨a_hy,vs_hy,e_hy,q_hy,_⟩:=hy
   subst e_hy;cases ry
   obtain ⟨its_hy,_,p_hy,_⟩:=I.tuple q_hy
   exact SeqAt.RcAt.bool_tuple _ p_hy hu
  | lst ay=>
   cases hx;cases rx
   obtain ⟨a_hy,vs_hy,e_hy,q_hy,_⟩:=hy
   subst e_hy;cases ry
   obtain ⟨its_hy,_,p_hy,_⟩:=I.list q_hy
   exact SeqAt.RcAt.bool_list _ p_hy.isList hu
 | int ax=>
  cases y with
  | non=>
   cases hx;obtain ⟨t_hx,rfl⟩:=rx
   cases hy;cases ry
   exact SeqAt.RcAt.int_none _ t_hx
  | bl ay=>
   cases hx;obtain ⟨t_hx,rfl⟩:=rx
   cases hy;cases ry
   exact SeqAt.RcAt.int_bool _ t_hx _
  | int ay=>
   cases hx;obtain ⟨t_hx,rfl⟩:=rx
   cases hy;obtain ⟨t_hy,rfl⟩:=ry
   exact SeqAt.RcAt.int_int _ t_hx _ t_hy
  | str ay=>
   cases hx;obtain ⟨t_hx,rfl⟩:=rx
   cases hy;obtain ⟨t_hy,rfl⟩:=ry
   exact SeqAt.RcAt.int_str _ t_hx _ t_hy
  | tup ay=>
   cases hx;obtain ⟨t_hx,rfl⟩:=rx
   obtain ⟨a_hy,vs_hy,e_hy,q_hy,_⟩:=hy
   subst e_hy;cases ry
   obtain ⟨its_hy,_,p_hy,_⟩:=I.tuple q_hy
   exact SeqAt.RcAt.int_tuple _ t_hx p_hy hu
  | lst ay=>
   cases hx;obtain ⟨t_hx,rfl⟩:=rx
   obtain ⟨a_hy,vs_hy,e_hy,q_hy,_⟩:=hy
   subst e_hy;cases ry
   obtain ⟨its_hy,_,p_hy,_⟩:=I.list q_hy
   exact SeqAt.RcAt.int_list _ t_hx p_hy.isList hu
 | str ax=>
  cases y with
  | non=>
   cases hx;obtain ⟨t_hx,rfl⟩:=rx
   cases hy;cases ry
   exact SeqAt.RcAt.str_none _ t_hx
  | bl ay=>
   cases hx;obtain ⟨t_hx,rfl⟩:=rx
   cases hy;cases ry
   exact SeqAt.RcAt.str_bool _ t_hx _
  | int ay=>
   cases hx;obtain ⟨t_hx,rfl⟩:=rx
   cases hy;obtain ⟨t_hy,rfl⟩:=ry
   exact SeqAt.RcAt.str_int _ t_hx _ t_hy
  | str ay=>
   cases hx;obtain ⟨t_hx,rfl⟩:=rx
   cases hy;obtain ⟨t_hy,rfl⟩:=ry
   exact SeqAt.RcAt.str_str _ t_hx _ t_hy
  | tup ay=>
   cases hx;obtain ⟨t_hx,rfl⟩:=rx
   obtain ⟨a_hy,vs_hy,e_hy,q_hy,_⟩:=hy
   subst e_hy;cases ry
   obtain ⟨its_hy,_,p_hy,_⟩:=I.tuple q_hy
   exact SeqAt.RcAt.str_tuple _ t_hx p_hy hu
  | lst ay=>
   cases hx;obtain ⟨t_hx,rfl⟩:=rx
   obtain ⟨a_hy,vs_hy,e_hy,q_hy,_⟩:=hy
   subst e_hy;cases ry
   obtain ⟨its_hy,_,p_hy,_⟩:=I.list q_hy
   exact SeqAt.RcAt.str_list _ t_hx p_hy.isList hu
 | tup ax=>
  cases y with
  | non=>
   obtain ⟨a_hx,vs_hx,e_hx,q_hx,_⟩:=hx
   subst e_hx;cases rx
   obtain ⟨its_hx,_,p_hx,_⟩:=I.tuple q_hx
   cases hy;cases ry
   exact SeqAt.RcAt.tuple_none p_hx hu
  | bl ay=>
   obtain ⟨a_hx,vs_hx,e_hx,q_hx,_⟩:=hx
   subst e_hx;cases rx
   obtain ⟨its_hx,_,p_hx,_⟩:=I.tuple q_hx
   cases hy;cases ry
   exact SeqAt.RcAt.tuple_bool _ p_hx hu
  | int ay=>
   obtain ⟨a_hx,vs_hx,e_hx,q_hx,_⟩:=hx
   subst e_hx;cases rx
   obtain ⟨its_hx,_,p_hx,_⟩:=I.tuple q_hx
   cases hy;obtain ⟨t_hy,rfl⟩:=ry
   exact SeqAt.RcAt.tuple_int _ t_hy p_hx hu
  | str ay=>
   obtain ⟨a_hx,vs_hx,e_hx,q_hx,_⟩:=hx
   subst e_hx;cases rx
   obtain ⟨its_hx,_,p_hx,_⟩:=I.tuple q_hx
   cases hy;obtain ⟨t_hy,rfl⟩:=ry
   exact SeqAt.RcAt.tuple_str _ t_hy p_hx hu
  | tup ay=>
   exact absurd ⟨rfl,rfl⟩ (nt ax ay)
  | lst ay=>
   obtain ⟨a_hx,vs_hx,e_hx,q_hx,_⟩:=hx
   subst e_hx;cases rx
   obtain ⟨its_hx,_,p_hx,_⟩:=I.tuple q_hx
   obtain ⟨a_hy,vs_hy,e_hy,q_hy,_⟩:=hy
   subst e_hy;cases ry
   obtain ⟨its_hy,_,p_hy,_⟩:=I.list q_hy
   exact SeqAt.RcAt.tuple_list p_hx p_hy.isList hu
 | lst ax=>
  cases y with
  | non=>
   obtain ⟨a_hx,vs_hx,e_hx,q_hx,_⟩:=hx
   subst e_hx;cases rx
   obtain ⟨its_hx,_,p_hx,_⟩:=I.list q_hx
   cases hy;cases ry
   exact SeqAt.RcAt.list_none p_hx.isList hu
  | bl ay=>
   obtain ⟨a_hx,vs_hx,e_hx,q_hx,_⟩:=hx
   subst e_hx;cases rx
   obtain ⟨its_hx,_,p_hx,_⟩:=I.list q_hx
   cases hy;cases ry
   exact SeqAt.RcAt.list_bool _ p_hx.isList hu
  | int ay=>
   obtain ⟨a_hx,vs_hx,e_hx,q_hx,_⟩:=hx
   subst e_hx;cases rx
   obtain ⟨its_hx,_,p_hx,_⟩:=I.list q_hx
   cases hy;obtain ⟨t_hy,rfl⟩:=ry
   exact SeqAt.RcAt.list_int _ t_hy p_hx.isList hu
  | str ay=>
   obtain ⟨a_hx,vs_hx,e_hx,q_hx,_⟩:=hx
   subst e_hx;cases rx
   obtain ⟨its_hx,_,p_hx,_⟩:=I.list q_hx
   cases hy;obtain ⟨t_hy,rfl⟩:=ry
   exact SeqAt.RcAt.list_str _ t_hy p_hx.isList hu
  | tup ay=>
   obtain ⟨a_hx,vs_hx,e_hx,q_hx,_⟩:=hx
   subst e_hx;cases rx
   obtain ⟨its_hx,_,p_hx,_⟩:=I.list q_hx
   obtain ⟨a_hy,vs_hy,e_hy,q_hy,_⟩:=hy
   subst e_hy;cases ry
   obtain ⟨its_hy,_,p_hy,_⟩:=I.tuple q_hy
   exact SeqAt.RcAt.list_tuple p_hx.isList p_hy hu
  | lst ay=>
   exact absurd ⟨rfl,rfl⟩ (nl ax ay)
theorem rcn_mixed (I:Inv X pins σ H s) {A:Around} (hu:A.units<cLine):∀{x y:T} {v w:V} {u u':Value},(∀xs ys,¬(x = .tup xs∧y = .tup ys))→(∀xs ys,¬(x = .lst xs∧y = .lst ys))→Rq X.K H x v→Rq X.K H y w→RelV v u→RelV w u'→SeqAt.RcNeAt A s u u' (!(eqT x y)):=by
 intro x y v w u u' nt nl hx hy rx ry
 cases x with
 | non=>
  cases y with
  | non=>
   cases hx;cases rx
   cases hy;cases ry
   exact SeqAt.RcNeAt.none_none
  | bl ay=>
   cases hx;cases rx
   cases hy;cases ry
   exact SeqAt.RcNeAt.none_bool _
  | int ay=>
   cases hx;cases rx
   cases hy;obtain ⟨t_hy,rfl⟩:=ry
   exact SeqAt.RcNeAt.none_int _ t_hy
  | str ay=>
   cases hx;cases rx
   cases hy;obtain ⟨t_hy,rfl⟩:=ry
   exact SeqAt.RcNeAt.none_str _ t_hy
  | tup ay=>
   cases hx;cases rx
   obtain ⟨a_hy,vs_hy,e_hy,q_hy,_⟩:=hy
   subst e_hy;cases ry
   obtain ⟨its_hy,_,p_hy,_⟩:=I.tuple q_hy
   exact SeqAt.RcNeAt.none_tuple p_hy hu
  | lst ay=>
   cases hx;cases rx
   obtain ⟨a_hy,vs_hy,e_hy,q_hy,_⟩:=hy
   subst e_hy;cases ry
   obtain ⟨its_hy,_,p_hy,_⟩:=I.list q_hy
   exact SeqAt.RcNeAt.none_list p_hy.isList hu
 | bl ax=>
  cases y with
  | non=>
   cases hx;cases rx
   cases hy;cases ry
   exact SeqAt.RcNeAt.bool_none _
  | bl ay=>
   cases hx;cases rx
   cases hy;cases ry
   exact SeqAt.RcNeAt.bool_bool _ _
  | int ay=>
   cases hx;cases rx
   cases hy;obtain ⟨t_hy,rfl⟩:=ry
   exact SeqAt.RcNeAt.bool_int _ _ t_hy
  | str ay=>
   cases hx;cases rx
   cases hy;obtain ⟨t_hy,rfl⟩:=ry
   exact SeqAt.RcNeAt.bool_str _ _ t_hy
  | tup ay=>
   cases hx;cases rx
   obtain ⟨a_hy,vs_hy,e_hy,q_hy,_⟩:=hy
   subst e_hy;cases ry
   obtain ⟨its_hy,_,p_hy,_⟩:=I.tuple q_hy
   exact SeqAt.RcNeAt.bool_tuple _ p_hy hu
  | lst ay=>
   cases hx;cases rx
   obtain ⟨a_hy,vs_hy,e_hy,q_hy,_⟩:=hy
   subst e_hy;cases ry
   obtain ⟨its_hy,_,p_hy,_⟩:=I.list q_hy
   exact SeqAt.RcNeAt.bool_list _ p_hy.isList hu
 | int ax=>
  cases y with
  | non=>
   cases hx;obtain ⟨t_hx,rfl⟩:=rx
   cases hy;cases ry
   exact SeqAt.RcNeAt.int_none _ t_hx
  | bl ay=>
   cases hx;obtain ⟨t_hx,rfl⟩:=rx
   cases hy;cases ry
   exact SeqAt.RcNeAt.int_bool _ t_hx _
  | int ay=>
   cases hx;obtain ⟨t_hx,rfl⟩:=rx
   cases hy;obtain ⟨t_hy,rfl⟩:=ry
   exact SeqAt.RcNeAt.int_int _ t_hx _ t_hy
  | str ay=>
   cases hx;obtain ⟨t_hx,rfl⟩:=rx
   cases hy;obtain ⟨t_hy,rfl⟩:=ry
   exact SeqAt.RcNeAt.int_str _ t_hx _ t_hy
  | tup ay=>
   cases hx;obtain ⟨t_hx,rfl⟩:=rx
   obtain ⟨a_hy,vs_hy,e_hy,q_hy,_⟩:=hy
   subst e_hy;cases ry
   obtain ⟨its_hy,_,p_hy,_⟩:=I.tuple q_hy
   exact SeqAt.RcNeAt.int_tuple _ t_hx p_hy hu
  | lst ay=>
   cases hx;obtain ⟨t_hx,rfl⟩:=rx
   obtain ⟨a_hy,vs_hy,e_hy,q_hy,_⟩:=hy
   subst e_hy;cases ry
   obtain ⟨its_hy,_,p_hy,_⟩:=I.list q_hy
   exact SeqAt.RcNeAt.int_list _ t_hx p_hy.isList hu
 | str ax=>
  cases y with
  | non=>
   cases hx;obtain ⟨t_hx,rfl⟩:=rx
   cases hy;cases ry
   exact SeqAt.RcNeAt.str_none _ t_hx
  | bl ay=>
   cases hx;obtain ⟨t_hx,rfl⟩:=rx
   cases hy;cases ry
   exact SeqAt.RcNeAt.str_bool _ t_hx _
  | int ay=>
   cases hx;obtain ⟨t_hx,rfl⟩:=rx
   cases hy;obtain ⟨t_hy,rfl⟩:=ry
   exact SeqAt.RcNeAt.str_int _ t_hx _ t_hy
  | str ay=>
   cases hx;obtain ⟨t_hx,rfl⟩:=rx
   cases hy;obtain ⟨t_hy,rfl⟩:=ry
   exact SeqAt.RcNeAt.str_str _ t_hx _ t_hy
  | tup ay=>
   cases hx;obtain ⟨t_hx,rfl⟩:=rx
   obtain ⟨a_hy,vs_hy,e_hy,q_hy,_⟩:=hy
   subst e_hy;cases ry
   obtain ⟨its_hy,_,p_hy,_⟩:=I.tuple q_hy
   exact SeqAt.RcNeAt.str_tuple _ t_hx p_hy hu
  | lst ay=>
   cases hx;obtain ⟨t_hx,rfl⟩:=rx
   obtain ⟨a_hy,vs_hy,e_hy,q_hy,_⟩:=hy
   subst e_hy;cases ry
   obtain ⟨its_hy,_,p_hy,_⟩:=I.list q_hy
   exact SeqAt.RcNeAt.str_list _ t_hx p_hy.isList hu
 | tup ax=>
  cases y with
  | non=>
   obtain ⟨a_hx,vs_hx,e_hx,q_hx,_⟩:=hx
   subst e_hx;cases rx
   obtain ⟨its_hx,_,p_hx,_⟩:=I.tuple q_hx
   cases hy;cases ry
   exact SeqAt.RcNeAt.tuple_none p_hx hu
  | bl ay=>
   obtain ⟨a_hx,vs_hx,e_hx,q_hx,_⟩:=hx
   subst e_hx;cases rx
   obtain ⟨its_hx,_,p_hx,_⟩:=I.tuple q_hx
   cases hy;cases ry
   exact SeqAt.RcNeAt.tuple_bool _ p_hx hu
  | int ay=>
   obtain ⟨a_hx,vs_hx,e_hx,q_hx,_⟩:=hx
   subst e_hx;cases rx
   obtain ⟨its_hx,_,p_hx,_⟩:=I.tuple q_hx
   cases hy;obtain ⟨t_hy,rfl⟩:=ry
   exact SeqAt.RcNeAt.tuple_int _ t_hy p_hx hu
  | str ay=>
   obtain ⟨a_hx,vs_hx,e_hx,q_hx,_⟩:=hx
   subst e_hx;cases rx
   obtain ⟨its_hx,_,p_hx,_⟩:=I.tuple q_hx
   cases hy;obtain ⟨t_hy,rfl⟩:=ry
   exact SeqAt.RcNeAt.tuple_str _ t_hy p_hx hu
  | tup ay=>
   exact absurd ⟨rfl,rfl⟩ (nt ax ay)
  | lst ay=>
   obtain ⟨a_hx,vs_hx,e_hx,q_hx,_⟩:=hx
   subst e_hx;cases rx
   obtain ⟨its_hx,_,p_hx,_⟩:=I.tuple q_hx
   obtain ⟨a_hy,vs_hy,e_hy,q_hy,_⟩:=hy
   subst e_hy;cases ry
   obtain ⟨its_hy,_,p_hy,_⟩:=I.list q_hy
   exact SeqAt.RcNeAt.tuple_list p_hx p_hy.isList hu
 | lst ax=>
  cases y with
  | non=>
   obtain ⟨a_hx,vs_hx,e_hx,q_hx,_⟩:=hx
   subst e_hx;cases rx
   obtain ⟨its_hx,_,p_hx,_⟩:=I.list q_hx
   cases hy;cases ry
   exact SeqAt.RcNeAt.list_none p_hx.isList hu
  | bl ay=>
   obtain ⟨a_hx,vs_hx,e_hx,q_hx,_⟩:=hx
   subst e_hx;cases rx
   obtain ⟨its_hx,_,p_hx,_⟩:=I.list q_hx
   cases hy;cases ry
   exact SeqAt.RcNeAt.list_bool _ p_hx.isList hu
  | int ay=>
   obtain ⟨a_hx,vs_hx,e_hx,q_hx,_⟩:=hx
   subst e_hx;cases rx
   obtain ⟨its_hx,_,p_hx,_⟩:=I.list q_hx
   cases hy;obtain ⟨t_hy,rfl⟩:=ry
   exact SeqAt.RcNeAt.list_int _ t_hy p_hx.isList hu
  | str ay=>
   obtain ⟨a_hx,vs_hx,e_hx,q_hx,_⟩:=hx
   subst e_hx;cases rx
   obtain ⟨its_hx,_,p_hx,_⟩:=I.list q_hx
   cases hy;obtain ⟨t_hy,rfl⟩:=ry
   exact SeqAt.RcNeAt.list_str _ t_hy p_hx.isList hu
  | tup ay=>
   obtain ⟨a_hx,vs_hx,e_hx,q_hx,_⟩:=hx
   subst e_hx;cases rx
   obtain ⟨its_hx,_,p_hx,_⟩:=I.list q_hx
   obtain ⟨a_hy,vs_hy,e_hy,q_hy,_⟩:=hy
   subst e_hy;cases ry
   obtain ⟨its_hy,_,p_hy,_⟩:=I.tuple q_hy
   exact SeqAt.RcNeAt.list_tuple p_hx.isList p_hy hu
  | lst ay=>
   exact absurd ⟨rfl,rfl⟩ (nl ax ay)
theorem notFloat {K:PySem.W.Frag} {x:T} {v:V} {u:Value} (h:Rq K H x v) (r:RelV v u):∀b t,u≠.float b t:=fun b t e=>by
 subst e
 cases x with
 | tup _=>obtain ⟨_,_,e,_⟩:=h;subst e;cases r
 | lst _=>obtain ⟨_,_,e,_⟩:=h;subst e;cases r
 | non=>cases h;cases r
 | bl _=>cases h;cases r
 | int _=>cases h;obtain ⟨_,r⟩:=r;cases r
 | str _=>cases h;obtain ⟨_,r⟩:=r;cases r
theorem rc_all (I:Inv X pins σ H s):∀(n:Nat) (A:Around) (x y:T) (v w:V) (u u':Value),dT x≤n→Rq X.K H x v→Rq X.K H y w→RelV v u→RelV w u'→A.units+n<cLine→SeqAt.RcAt A s u u' (eqT x y)∧SeqAt.EqAt A s u u' (eqT x y):=by
 have fin:∀{A:Around} {x y:T} {v w:V} {u u':Value},Rq X.K H x v→Rq X.K H y w→RelV v u→RelV w u'→SeqAt.RcAt A s u u' (eqT x y)→SeqAt.RcAt A s u u' (eqT x y)∧SeqAt.EqAt A s u u' (eqT x y):=fun {A x y v w u u'} hx hy rx ry h=>⟨h,EqAt_of_rc h (fun e=>by
   subst e
   rw [Rq.inj I hx (by rw [rel_inj rx ry];exact hy)]
   exact eqT_refl y) (notFloat hx rx)⟩
 intro n
 induction n with
 | zero=>
  intro A x y v w u u' hd hx hy rx ry hu
  refine fin hx hy rx ry (rc_mixed I (by omega) (fun xs ys z=>?_) (fun xs ys z=>?_) hx hy rx ry)
  ·rw [z.1] at hd;simp [dT] at hd
  ·rw [z.1] at hd;simp [dT] at hd
 | succ n ih=>
  intro A x y v w u u' hd hx hy rx ry hu
  refine fin hx hy rx ry ?_
  by_cases c1:∃xs ys,x = .tup xs∧y = .tup ys
  ·obtain ⟨xs,ys,rfl,rfl⟩:=c1
   obtain ⟨a,vs,rfl,q1,h1⟩:=hx
   obtain ⟨b,ws,rfl,q2,h2⟩:=hy
   cases rx;cases ry
   obtain ⟨its,r1,p1,_⟩:=I.tuple q1
   obtain ⟨js,r2,p2,_⟩:=I.tuple q2
   have:=SeqAt.RcAt.tuples p1 p2 (A:=A) (by omega) (items_eq A.in1 r1 r2 h1 h2 fun j x y v w u u' e1 e2 k1 k2 k3 k4=>(ih A.in1 x y v w u u' (by
    have:=dT_mem (List.mem_of_getElem? e1)
    simp only [dT] at hd;omega) k1 k2 k3 k4 (by show A.units+1+n<cLine;omega)).2)
   rw [eqT,eqTs_range]
   have l1:=r1.length;have l2:=r2.length;have l3:=h1.length;have l4:=h2.length
   have s1:its.toArray.size=xs.length:=by simp;omega
   have s2:js.toArray.size=ys.length:=by simp;omega
   rw [s1,s2] at this
   exact this
  ·by_cases c2:∃xs ys,x = .lst xs∧y = .lst ys
   ·obtain ⟨xs,ys,rfl,rfl⟩:=c2
    obtain ⟨a,vs,rfl,q1,h1⟩:=hx
    obtain ⟨b,ws,rfl,q2,h2⟩:=hy
    cases rx;cases ry
    obtain ⟨its,r1,p1,_⟩:=I.list q1
    obtain ⟨js,r2,p2,_⟩:=I.list q2
    have l1:=r1.length;have l2:=r2.length;have l3:=h1.length;have l4:=h2.length
    have s1:its.toArray.size=xs.length:=by simp;omega
    have s2:js.toArray.size=ys.length:=by simp;omega
    rw [eqT,eqTs_range]
    by_cases hl:xs.length=ys.length
    ·have:=SeqAt.RcAt.lists p1.isList p2.isList (A:=A) (by rw [s1,s2];exact hl) (by omega) (items_eq A.in1 r1 r2 h1 h2 fun j x y v w u u' e1 e2 k1 k2 k3 k4=>(ih A.in1 x y v w u u' (by
      have:=dT_mem (List.mem_of_getElem? e1)
      simp only [dT] at hd;omega) k1 k2 k3 k4 (by show A.units+1+n<cLine;omega)).2)
     rw [s1] at this
     rw [←hl,Nat.min_self,beq_self_eq_true,Bool.and_true]
     exact this
    ·have:=SeqAt.RcAt.lists_lengths p1.isList p2.isList (A:=A) (by rw [s1,s2];simpa using hl) (by omega)
     rw [show (xs.length==ys.length)=false by simpa using hl,Bool.and_false]
     exact this
   ·exact rc_mixed I (by omega) (fun xs ys z=>c1 ⟨xs,ys,z⟩) (fun xs ys z=>c2 ⟨xs,ys,z⟩) hx hy rx ry
theorem rcn_all (I:Inv X pins σ H s) {A:Around} {x y:T} {v w:V} {u u':Value} (n:Nat) (hd:dT x≤n) (hx:Rq X.K H x v) (hy:Rq X.K H y w) (rx:RelV v u) (ry:RelV w u') (hu:A.units+n<cLine):SeqAt.RcNeAt A s u u' (!(eqT x y)):=by
 by_cases c1:∃xs ys,x = .tup xs∧y = .tup ys
 ·obtain ⟨xs,ys,rfl,rfl⟩:=c1
  obtain ⟨a,vs,rfl,q1,h1⟩:=hx
  obtain ⟨b,ws,rfl,q2,h2⟩:=hy
  cases rx;cases ry
  obtain ⟨its,r1,p1,_⟩:=I.tuple q1
  obtain ⟨js,r2,p2,_⟩:=I.tuple q2
  have:=SeqAt.RcNeAt.tuples p1 p2 (A:=A) (by omega) (items_eq A.in1 r1 r2 h1 h2 fun j x y v w u u' e1 e2 k1 k2 k3 k4=>(rc_all I (n-1) A.in1 x y v w u u' (by
   have:=dT_mem (List.mem_of_getElem? e1)
   simp only [dT] at hd;omega) k1 k2 k3 k4 (by show A.units+1+(n-1)<cLine;simp only [dT] at hd;omega)).2)
  rw [eqT,eqTs_range]
  have l1:=r1.length;have l2:=r2.length;have l3:=h1.length;have l4:=h2.length
  have s1:its.toArray.size=xs.length:=by simp;omega
  have s2:js.toArray.size=ys.length:=by simp;omega
  rw [s1,s2] at this
  exact this
 ·by_cases c2:∃xs ys,x = .lst xs∧y = .lst ys
  ·obtain ⟨xs,ys,rfl,rfl⟩:=c2
   obtain ⟨a,vs,rfl,q1,h1⟩:=hx
   obtain ⟨b,ws,rfl,q2,h2⟩:=hy
   cases rx;cases ry
   obtain ⟨its,r1,p1,_⟩:=I.list q1
   obtain ⟨js,r2,p2,_⟩:=I.list q2
   have l1:=r1.length;have l2:=r2.length;have l3:=h1.length;have l4:=h2.length
   have s1:its.toArray.size=xs.length:=by simp;omega
   have s2:js.toArray.size=ys.length:=by simp;omega
   rw [eqT,eqTs_range]
   by_cases hl:xs.length=ys.length
   ·have:=SeqAt.RcNeAt.lists p1.isList p2.isList (A:=A) (by rw [s1,s2];exact hl) (by omega) (items_eq A.in1 r1 r2 h1 h2 fun j x y v w u u' e1 e2 k1 k2 k3 k4=>(rc_all I (n-1) A.in1 x y v w u u' (by
     have:=dT_mem (List.mem_of_getElem? e1)
     simp only [dT] at hd;omega) k1 k2 k3 k4 (by show A.units+1+(n-1)<cLine;simp only [dT] at hd;omega)).2)
    rw [s1] at this
    rw [←hl,Nat.min_self,beq_self_eq_true,Bool.and_true]
    exact this
   ·have:=SeqAt.RcNeAt.lists_lengths p1.isList p2.isList (A:=A) (by rw [s1,s2];simpa using hl) (by omega)
    rw [show (xs.length==ys.length)=false by simpa using hl,Bool.and_false]
    exact this
  ·exact rcn_mixed I (by omega) (fun xs ys z=>c1 ⟨xs,ys,z⟩) (fun xs ys z=>c2 ⟨xs,ys,z⟩) hx hy rx ry
end
section
variable {X:Cx} {K:PySem.W.Frag} {pos:Pos} {a b c e o:Expr} {es:List Expr} {Fa Fb Fo:FE} {Fr:FA}
def rEqT (K:PySem.W.Frag) (ng:Bool):R2:=fun x y H Q=>∃t u,Rq K H t x∧Rq K H u y∧dT t≤60∧Q (.bl (if ng then !(eqT t u) else eqT t u)) H
theorem op_eqT {k:Nat} (hr:Room k X.A):OpR X (compareOp .Eq) (rEqT X.K false):=by
 intro pins s σ H x y v u Q I rx ry h
 obtain ⟨t,w,h1,h2,hd,q⟩:=h
 exact (rc_all I 60 X.A t w x y v u hd h1 h2 rx ry (by have:=hr.units;omega)).1 X.prog X.w X.xe _ (fin_bl I q rfl)
theorem op_neT {k:Nat} (hr:Room k X.A):OpR X (compareOp .NotEq) (rEqT X.K true):=by
 intro pins s σ H x y v u Q I rx ry h
 obtain ⟨t,w,h1,h2,hd,q⟩:=h
 exact rcn_all I 60 hd h1 h2 rx ry (by have:=hr.units;omega) X.prog X.w X.xe _ (fin_bl I q rfl)
def t2 (x y:Option T) (k:T→T→Prop):Prop:=match x,y with
 | some t,some u=>k t u
 | _,_=>False
theorem t2.ex {x y:Option T} {k:T→T→Prop} (h:t2 x y k):∃t u,x=some t∧y=some u∧k t u:=by
 unfold t2 at h;split at h
 ·exact ⟨_,_,rfl,rfl,h⟩
 ·exact h.elim
def fEq (Fa Fb:FE):FE:=fun E Q=>Fa E fun x E1=>Fb E1 fun y E2=>t2 (vl E2 x) (vl E2 y) fun t u=>dT t≤60∧Q (.p (.bl (eqT t u))) E2
def fNe (Fa Fb:FE):FE:=fun E Q=>Fa E fun x E1=>Fb E1 fun y E2=>t2 (vl E2 x) (vl E2 y) fun t u=>dT t≤60∧Q (.p (.bl (!(eqT t u)))) E2
theorem fe_eq {k:Nat} (eK:X.K=K) (hr:Room k X.A) (ha:QE X a (simE K Fa)) (hb:QE X b (simE K Fb)) (hm:behindInMarks .Eq b=false):QE X (.Compare a [.Eq] [b] pos) (simE K (fEq Fa Fb)):=by
 subst eK
 refine (qe_cmpR (op_eqT hr) ha hb hm).le fun σ H Q hl h=>two (Fa:=Fa) (Fb:=Fb) h fun B S E x y v w H2 Q' hS re rx ry q lk=>?_
 obtain ⟨t,u,e1,e2,hd,q⟩:=q.ex
 exact ⟨t,u,(re.vl rx e1).rq,(re.vl ry e2).rq,hd,lk _ _ _ _ _ q .refl re rfl⟩
end
end L2
set_option Elab.async false
set_option linter.all false
set_option maxRecDepth 100000
set_option maxHeartbeats 4000000
namespace L2
open PySem PySem.Spec PyProof.Rows
section
variable {X:Cx} {K:PySem.W.Frag} {pos:Pos} {a b c e o:Expr} {es:List Expr} {Fa Fb Fc Fo:FE} {Fr:FA}
theorem ft_cmp {op:CmpOp} {r:R2} {F:FE} (ho:OpR X (compareOp op) r) (ha:QE X a (simE K Fa)) (hb:QE X b (simE K Fb)) (hm:behindInMarks op b=false) (k:∀σ H Q,simE K F σ H Q→tOp r (simE K Fa) (simE K Fb) σ H Q):QT X (.Compare a [op] [b] pos) (simB K (bVal F)):=
 (qt_cmpR ho ha hb hm).le fun σ H Q z=>k _ _ _ (b_of z)
theorem ft_cp {op:CmpOp} {g:Int→Int→Bool} (ho:OpR X (compareOp op) (rI0 fun i j=>.bl (g i j))) (ha:QE X a (simE K Fa)) (hb:QE X b (simE K Fb)) (hm:behindInMarks op b=false):QT X (.Compare a [op] [b] pos) (simB K (bVal (fCp g Fa Fb))):=
 ft_cmp ho ha hb hm fun σ H Q h=>two (Fa:=Fa) (Fb:=Fb) h fun B S E x y v w H2 Q' hS re rx ry q lk=>by
  obtain ⟨i,j,e1,e2,q⟩:=i2.ex q
  exact ⟨i,j,re.int rx e1,re.int ry e2,lk _ _ _ _ _ q .refl re rfl⟩
theorem ft_eq {k:Nat} (eK:X.K=K) (hr:Room k X.A) (ha:QE X a (simE K Fa)) (hb:QE X b (simE K Fb)) (hm:behindInMarks .Eq b=false):QT X (.Compare a [.Eq] [b] pos) (simB K (bVal (fEq Fa Fb))):=by
 subst eK
 refine ft_cmp (op_eqT hr) ha hb hm fun σ H Q h=>two (Fa:=Fa) (Fb:=Fb) h fun B S E x y v w H2 Q' hS re rx ry q lk=>?_
 obtain ⟨t,u,e1,e2,hd,q⟩:=t2.ex q
 exact ⟨t,u,(re.vl rx e1).rq,(re.vl ry e2).rq,hd,lk _ _ _ _ _ q .refl re rfl⟩
theorem ft_ne {k:Nat} (eK:X.K=K) (hr:Room k X.A) (ha:QE X a (simE K Fa)) (hb:QE X b (simE K Fb)) (hm:behindInMarks .NotEq b=false):QT X (.Compare a [.NotEq] [b] pos) (simB K (bVal (fNe Fa Fb))):=by
 subst eK
 refine ft_cmp (op_neT hr) ha hb hm fun σ H Q h=>two (Fa:=Fa) (Fb:=Fb) h fun B S E x y v w H2 Q' hS re rx ry q lk=>?_
 obtain ⟨t,u,e1,e2,hd,q⟩:=t2.ex q
 exact ⟨t,u,(re.vl rx e1).rq,(re.vl ry e2).rq,hd,lk _ _ _ _ _ q .refl re rfl⟩
def isNon:T→Bool
 | .non=>true
 | _=>false
theorem non_v {H:Hp} {t:T} {v:V} (h:Rq K H t v):decide (v = .non)=isNon t:=by
 cases t with
 | non=>cases h;rfl
 | bl _=>cases h;rfl
 | int _=>cases h;rfl
 | str _=>cases h;rfl
 | tup _=>obtain ⟨_,_,e,_⟩:=h;subst e;rfl
 | lst _=>obtain ⟨_,_,e,_⟩:=h;subst e;rfl
def fIsN (ng:Bool) (Fa:FE):FE:=fun E Q=>Fa E fun x E1=>o1 (vl E1 x) fun t=>Q (.p (.bl (if ng then !(isNon t) else isNon t))) E1
theorem isN_sim {σ:St} {H:Hp} {Q:VK} (h:simE K (fIsN false Fa) σ H Q):tOp (fun x y H Q=>y = .non∧Q (.bl (decide (x = .non))) H) (simE K Fa) (tC .non) σ H Q:=
 one (Fa:=Fa) h fun B S E x v H2 Q' hS re rx q lk=>by
  obtain ⟨t,e1,q⟩:=o1.ex q
  exact ⟨rfl,by rw [non_v (re.vl rx e1).rq];exact lk _ _ _ _ _ q .refl re rfl⟩
theorem notN_sim {σ:St} {H:Hp} {Q:VK} (h:simE K (fIsN true Fa) σ H Q):tOp (fun x y H Q=>y = .non∧Q (.bl (!decide (x = .non))) H) (simE K Fa) (tC .non) σ H Q:=
 one (Fa:=Fa) h fun B S E x v H2 Q' hS re rx q lk=>by
  obtain ⟨t,e1,q⟩:=o1.ex q
  exact ⟨rfl,by rw [non_v (re.vl rx e1).rq];exact lk _ _ _ _ _ q .refl re rfl⟩
theorem fe_notN {j p2} (ha:QE X a (simE K Fa)) (hm:behindInMarks .IsNot (.Constant .none j p2)=false):QE X (.Compare a [.IsNot] [.Constant .none j p2] pos) (simE K (fIsN true Fa)):=(qe_cmpR op_notN ha qe_non hm).le fun _ _ _ _ h=>notN_sim h
theorem ft_isN {j p2} (ha:QE X a (simE K Fa)) (hm:behindInMarks .Is (.Constant .none j p2)=false):QT X (.Compare a [.Is] [.Constant .none j p2] pos) (simB K (bVal (fIsN false Fa))):=(qt_cmpR op_isN ha qe_non hm).le fun _ _ _ h=>isN_sim (b_of h)
def kdT:T→String
 | .non=>"NoneType"
 | .bl _=>"bool"
 | .int _=>"int"
 | .str _=>"str"
 | .tup _=>"tuple"
 | .lst _=>"list"
theorem kd_v {H:Hp} {t:T} {v:V} (h:Rq K H t v):Kd K H v (kdT t):=by
 cases t with
 | non=>cases h;exact .non
 | bl _=>cases h;exact .bl _
 | int _=>cases h;exact .int _
 | str _=>cases h;exact .str _
 | tup _=>obtain ⟨_,_,e,h,_⟩:=h;subst e;exact .tup h
 | lst _=>obtain ⟨_,_,e,h,_⟩:=h;subst e;exact .lst h
def isL:T→Bool
 | .lst _=>true
 | _=>false
def isT:T→Bool
 | .tup _=>true
 | _=>false
def isS:T→Bool
 | .str _=>true
 | _=>false
def isB:T→Bool
 | .bl _=>true
 | _=>false
def isI:T→Bool
 | .int _=>true
 | .bl _=>true
 | _=>false
theorem k_tuple:∀t,isT t=isi (kdT t) "tuple":=by intro t;cases t<;>simp [isT,isi,kdT]
theorem k_str:∀t,isS t=isi (kdT t) "str":=by intro t;cases t<;>simp [isS,isi,kdT]
theorem k_bool:∀t,isB t=isi (kdT t) "bool":=by intro t;cases t<;>simp [isB,isi,kdT]
theorem k_int:∀t,isI t=isi (kdT t) "int":=by intro t;cases t<;>simp [isI,isi,kdT]
def fIsi (f:T→Bool) (Fa:FE):FE:=fun E Q=>Fa E fun x E1=>o1 (vl E1 x) fun t=>Q (.p (.bl (f t))) E1
theorem fe_isi {x:Str} {T1:String} {f:T→Bool} {p p1:Pos} (kf:∀t,f t=isi (kdT t) T1) (eK:X.K=K) (hg:Gl X "isinstance") (hm:X.mg "isinstance" = none) (ha:QE X a (simE K Fa)) (h1:Gl X x) (m1:X.mg x=none) (b1:bootBuiltins x=some (.type T1)) (hT:T1∈tys) (n1:x≠"__name__":=by decide) (d1:(x==("__debug__":Str))=false:=by decide) (hs:isStar a=false:=by rfl) (hns:noStar [a,.Name x p1]=true:=by rfl) :
  QE X (.Call (.Name "isinstance" p) [a,.Name x p1] [] pos) (simE K (fIsi f Fa)):=by
 subst eK
 refine (qe_callBS call_isi hg hm boot_isinstance (qc ha (qc (qe_bltn (v:=.ty T1) h1 m1 b1 rfl n1 d1) qa_nil) hs) (by decide) (by decide) hns).le fun σ H Q hl h=>one (Fa:=Fa) h fun B S E x v H2 Q' hS re rx q lk=>?_
 obtain ⟨t,e1,q⟩:=o1.ex q
 rw [kf] at q
 exact ⟨v,_,T1,rfl,kd_v (re.vl rx e1).rq,hT,lk _ _ _ _ _ q .refl re rfl⟩
def cutT (xs:List T) (lo hi:Option Int):List T:=(xs.drop (HT.sIx xs.length 0 lo)).take (HT.sIx xs.length xs.length hi-HT.sIx xs.length 0 lo)
theorem cut_rp {H:Hp} {O:Addr→Prop} {xs:List T} {vs:List V} {lo hi:Option Int} (h:Rps K H O xs vs):Rps K H O (cutT xs lo hi) (cutV vs lo hi):=by
 unfold cutT cutV
 rw [h.length]
 exact (h.drop _).take _
abbrev FO:=En→(Option Int→En→Prop)→Prop
def simO (K:PySem.W.Frag) (F:FO):TO:=fun σ H Q=>∃B S E Q',(∃τ,S=σ++τ)∧RE K B H S E∧F E Q'∧∀b E' H' S',Q' b E'→Gr B H S E H' S' E'→RE K B H' S' E'→Q b H'
theorem QO.le {e:Option Expr} {t t':TO} (h:QO X e t) (m:∀σ H Q,t' σ H Q→t σ H Q):QO X e t':=⟨fun pins s σ H Q I z=>h.h pins s σ H Q I (m σ H Q z)⟩
def oNone:FO:=fun E Q=>Q none E
def oSome (Fa:FE):FO:=fun E Q=>Fa E fun x E1=>i1 (vl E1 x) fun i=>Q (some i) E1
theorem fo_none:QO X none (simO K oNone):=qo_none.le fun σ H Q ⟨B,S,E,Q',hS,re,hF,lk⟩=>lk _ _ _ _ hF .refl re
theorem fo_some (h:QE X e (simE K Fa)):QO X (some e) (simO K (oSome Fa)):=(qo_some h).le fun σ H Q ⟨B,S,E,Q',hS,re,hF,lk⟩=>⟨B,S,E,_,hS,re,hF,fun r E1 v H1 S1 q g re1 rr=>by
 obtain ⟨i,e1,q⟩:=i1.ex q
 exact ⟨i,re1.int rr e1,lk _ _ _ _ q g re1⟩⟩
variable {Gl' Gh:FO}
def fSlL (Fa:FE) (Gl' Gh:FO):FE:=fun E Q=>Fa E fun x E1=>Gl' E1 fun lo E2=>Gh E2 fun hi E3=>match vl E3 x with
 | some (.lst xs)=>Q (.s E3.length) (E3++[some (.o false (cutT xs lo hi))])
 | _=>False
theorem fe_sliceL {lo hi:Option Expr} {p2:Pos} (eK:X.K=K) (he:QE X e (simE K Fa)) (hl:QO X lo (simO K Gl')) (hu:QO X hi (simO K Gh)):QE X (.Subscript e (.Slice lo hi none p2) pos) (simE K (fSlL Fa Gl' Gh)):=by
 subst eK
 refine (qe_slice sl_list he hl hu).le fun σ H Q _ ⟨B,S,E,Q',⟨τ,hS⟩,re,hF,lk⟩=>⟨B,S,E,_,⟨τ,hS⟩,re,hF,fun x E1 v H1 S1 q g1 re1 rx=>?_⟩
 obtain ⟨τ1,hS1⟩:=g1.pre
 refine ⟨B,S1,E1,_,⟨τ++τ1,by rw [hS1,hS,List.append_assoc]⟩,re1,q,fun l E2 H2 S2 q2 g2 re2=>?_⟩
 obtain ⟨τ2,hS2⟩:=g2.pre
 refine ⟨B,S2,E2,_,⟨τ++τ1++τ2,by rw [hS2,hS1,hS,List.append_assoc,List.append_assoc,List.append_assoc]⟩,re2,q2,fun h E3 H3 S3 q3 g3 re3=>?_⟩
 have rx3:=(rx.step g2).step g3
 split at q3
 ·rename_i xs e1
  obtain ⟨a,vs,e2,sq,rs⟩:=re3.vl rx3 e1
  refine ⟨a,vs,e2,sq,fun p hp=>?_⟩
  obtain ⟨g,re'⟩:=re3.lst hp (cut_rp (lo:=l) (hi:=h) rs)
  exact lk _ _ _ _ _ q3 (((g1.trans g2).trans g3).trans g) re' (by rw [←re3.len];exact get_last)
 ·exact q3.elim
def ownOf (E:En):R→Option (List T)
 | .s j=>match E[j]? with
  | some (some (.o _ xs))=>some xs
  | _=>none
 | _=>none
theorem RE.ownOf {B:Addr→Prop} {H:Hp} {S:St} {E:En} (re:RE K B H S E) {r:R} {v:V} {xs:List T} (h:RR K B H S E r v) (e:L2.ownOf E r=some xs):∃j k a vs,r = .s j∧E[j]? = some (some (.o k xs))∧S[j]? = some (some (.ref a))∧v = .ref a∧H a=some (.lst vs)∧Rps K H (Ow B S E) xs vs:=by
 cases r with
 | p _=>cases e
 | s j=>
  cases q:E[j]? with
  | none=>simp only [L2.ownOf,q] at e;cases e
  | some u=>
   cases u with
   | none=>simp only [L2.ownOf,q] at e;cases e
   | some u=>
    cases u with
    | p _=>simp only [L2.ownOf,q] at e;cases e
    | o k ys=>
     simp only [L2.ownOf,q] at e;cases e
     obtain ⟨a,vs,h1,h2,h3,_⟩:=re.own j k xs q
     have h':S[j]? = some (some v):=h
     rw [h'] at h1;cases h1
     exact ⟨j,k,a,vs,rfl,q,h',rfl,h2,h3⟩
def l2 (x y:Option (List T)) (k:List T→List T→Prop):Prop:=match x,y with
 | some t,some u=>k t u
 | _,_=>False
theorem l2.ex {x y:Option (List T)} {k:List T→List T→Prop} (h:l2 x y k):∃t u,x=some t∧y=some u∧k t u:=by
 unfold l2 at h;split at h
 ·exact ⟨_,_,rfl,rfl,h⟩
 ·exact h.elim
def fCat (Fa Fb:FE):FE:=fun E Q=>Fa E fun x E1=>Fb E1 fun y E2=>l2 (ownOf E2 x) (ownOf E2 y) fun xs ys=>xs.length+ys.length≤1000∧Q (.s E2.length) (E2++[some (.o false (xs++ys))])
theorem fe_cat (ha:QE X a (simE K Fa)) (hb:QE X b (simE K Fb)):QE X (.BinOp a .Add b pos) (simE K (fCat Fa Fb)):=by
 refine (qe_op op_cat ha hb).le fun σ H Q hl h=>two (Fa:=Fa) (Fb:=Fb) h fun B S E x y v w H2 Q' hS re rx ry q lk=>?_
 obtain ⟨xs,ys,e1,e2,hz,q⟩:=l2.ex q
 obtain ⟨j,k,p,vs,_,_,_,rfl,h2,h3⟩:=re.ownOf rx e1
 obtain ⟨j',k',p',vs',_,_,_,rfl,h2',h3'⟩:=re.ownOf ry e2
 refine ⟨p,p',vs,vs',rfl,rfl,h2,h2',by rw [h3.length,h3'.length];exact Nat.le_of_lt (small1000 hz),fun r hr=>?_⟩
 obtain ⟨g,re'⟩:=re.lst hr (h3.append h3')
 exact lk _ _ _ _ _ q g re' (by rw [←re.len];exact get_last)
def repT (k:Int) (xs:List T):List T:=(List.replicate k.toNat xs).flatten
theorem rep_rp {H:Hp} {O:Addr→Prop} {xs:List T} {vs:List V} (h:Rps K H O xs vs):∀n:Nat,Rps K H O (List.replicate n xs).flatten (List.replicate n vs).flatten
 | 0=>by simp [Rps]
 | n+1=>by rw [List.replicate_succ,List.replicate_succ,List.flatten_cons,List.flatten_cons];exact h.append (rep_rp h n)
def fRep (Fa Fb:FE):FE:=fun E Q=>Fa E fun x E1=>Fb E1 fun y E2=>o1 (ownOf E2 x) fun xs=>i1 (vl E2 y) fun k=>(-(2^63)≤k∧k<2^63∧xs.length*k.toNat≤1000)∧Q (.s E2.length) (E2++[some (.o false (repT k xs))])
theorem fe_rep (ha:QE X a (simE K Fa)) (hb:QE X b (simE K Fb)):QE X (.BinOp a .Mult b pos) (simE K (fRep Fa Fb)):=by
 refine (qe_op op_rep ha hb).le fun σ H Q hl h=>two (Fa:=Fa) (Fb:=Fb) h fun B S E x y v w H2 Q' hS re rx ry q lk=>?_
 obtain ⟨xs,e1,q⟩:=o1.ex q
 obtain ⟨k,e2,⟨c1,c2,c3⟩,q⟩:=i1.ex q
 obtain ⟨j,kk,p,vs,_,_,_,rfl,h2,h3⟩:=re.ownOf rx e1
 refine ⟨p,k,vs,rfl,re.int ry e2,h2,c1,c2,by rw [h3.length];exact Nat.le_of_lt (small1000 c3),fun r hr=>?_⟩
 obtain ⟨g,re'⟩:=re.lst hr (rep_rp h3 k.toNat)
 exact lk _ _ _ _ _ q g re' (by rw [←re.len];exact get_last)
def fListOf (Fr:FA):FE:=fun E Q=>Fr E fun rs E1=>match rs with
 | [x]=>o1 ((vl E1 x).bind seqT) fun xs=>Q (.s E1.length) (E1++[some (.o false xs)])
 | _=>False
theorem fe_listOf {n:Nat} {p:Pos} (eK:X.K=K) (hg:Gl X "list") (hm:X.mg "list" = none) (ha:QA X (e::es) (simA K n Fr)) (hs:noStar (e::es)=true:=by rfl):QE X (.Call (.Name "list" p) (e::es) [] pos) (simE K (fListOf Fr)):=by
 subst eK
 refine (qe_callTyS call_list_of hg hm (by decide +kernel) ha (by decide) (by decide) hs).le fun σ H Q hl h=>args (Fr:=Fr) h fun B S E rs vs H2 Q' hS re rr hn q lk=>?_
 match rs,rr,q with
 | [x],⟨v,ws,e1,h1,h2⟩,q=>
  cases h2;subst e1
  obtain ⟨xs,e2,q⟩:=o1.ex q
  obtain ⟨t,e3,e2⟩:=Option.bind_eq_some_iff.mp e2
  have rt:=re.vl h1 e3
  have:∃p us,v = .ref p∧(SqL X.K H2 p us∨SqT X.K H2 p us)∧Rps X.K H2 (Ow B S E) xs us:=by
   cases t with
   | tup ys=>cases e2;obtain ⟨p,us,e,sq,rs⟩:=rt;exact ⟨p,us,e,.inr sq,rs⟩
   | lst ys=>cases e2;obtain ⟨p,us,e,sq,rs⟩:=rt;exact ⟨p,us,e,.inl sq,rs⟩
   | _=>cases e2
  obtain ⟨p,us,rfl,sq,rs⟩:=this
  refine ⟨p,us,rfl,sq,fun r hr=>?_⟩
  obtain ⟨g,re'⟩:=re.lst hr rs
  exact lk _ _ _ _ _ q g re' (by rw [←re.len];exact get_last)
 | [],_,q=>exact q.elim
 | _::_::_,_,q=>exact q.elim
def fTupOf (Fr:FA):FE:=fun E Q=>Fr E fun rs E1=>match rs with
 | [x]=>(match vl E1 x with
  | some (.lst xs)=>Q (.p (.tup xs)) E1
  | _=>False)
 | _=>False
theorem fe_tupOf {n:Nat} {p:Pos} (eK:X.K=K) (hg:Gl X "tuple") (hm:X.mg "tuple" = none) (ha:QA X (e::es) (simA K n Fr)) (hs:noStar (e::es)=true:=by rfl):QE X (.Call (.Name "tuple" p) (e::es) [] pos) (simE K (fTupOf Fr)):=by
 subst eK
 refine (qe_callTyS call_tuple_of hg hm (by decide +kernel) ha (by decide) (by decide) hs).le fun σ H Q hl h=>args (Fr:=Fr) h fun B S E rs vs H2 Q' hS re rr hn q lk=>?_
 match rs,rr,q with
 | [x],⟨v,ws,e1,h1,h2⟩,q=>
  cases h2;subst e1
  simp only at q
  split at q
  ·rename_i xs e2
   obtain ⟨p,us,rfl,sq,rs⟩:=re.vl h1 e2
   refine ⟨p,us,rfl,.inl ⟨sq,fun r hr=>?_⟩⟩
   obtain ⟨g,re',rp⟩:=re.tup hr rs
   exact lk _ _ _ _ _ q g re' rp
  ·exact q.elim
 | [],_,q=>exact q.elim
 | _::_::_,_,q=>exact q.elim
def blsOf:List T→Option (List Bool)
 | []=>some []
 | .bl b::xs=>(blsOf xs).map (b::·)
 | _=>none
theorem bls_rp {H:Hp} {O:Addr→Prop}:∀{xs:List T} {vs:List V} {bs:List Bool},Rps K H O xs vs→blsOf xs=some bs→vs=bs.map V.bl
 | [],_,_,h,e=>by cases e;exact h
 | .bl b::xs,_,bs,⟨v,r,e1,h1,h2⟩,e=>by
  cases q:blsOf xs with
  | none=>rw [blsOf,q] at e;cases e
  | some cs=>
   rw [blsOf,q] at e;cases e
   cases h1
   rw [e1,bls_rp h2 q];rfl
 | .non::_,_,_,_,e=>by cases e
 | .int _::_,_,_,_,e=>by cases e
 | .str _::_,_,_,_,e=>by cases e
 | .tup _::_,_,_,_,e=>by cases e
 | .lst _::_,_,_,_,e=>by cases e
def fAll (Fr:FA):FE:=fun E Q=>Fr E fun rs E1=>match rs with
 | [x]=>(match vl E1 x with
  | some (.lst xs)=>o1 (blsOf xs) fun bs=>Q (.p (.bl (bs.all id))) E1
  | _=>False)
 | _=>False
theorem fe_all {n:Nat} {p:Pos} (eK:X.K=K) (hc:X.calm=true) (hg:Gl X "all") (hm:X.mg "all" = none) (ha:QA X (e::es) (simA K n Fr)) (hs:noStar (e::es)=true:=by rfl):QE X (.Call (.Name "all" p) (e::es) [] pos) (simE K (fAll Fr)):=by
 subst eK
 refine (qe_callBS (call_allB hc) hg hm boot_all ha (by decide) (by decide) hs).le fun σ H Q hl h=>args (Fr:=Fr) h fun B S E rs vs H2 Q' hS re rr hn q lk=>?_
 match rs,rr,q with
 | [x],⟨v,ws,e1,h1,h2⟩,q=>
  cases h2;subst e1
  simp only at q
  split at q
  ·rename_i xs e2
   obtain ⟨p,us,rfl,sq,rs⟩:=re.vl h1 e2
   obtain ⟨bs,e3,q⟩:=o1.ex q
   refine ⟨p,bs,rfl,by rw [←bls_rp rs e3];exact sq,lk _ _ _ _ _ q .refl re rfl⟩
  ·exact q.elim
 | [],_,q=>exact q.elim
 | _::_::_,_,q=>exact q.elim
def fMeth1 (f:List T→R→En→Option (List T)) (Fo:FE) (Fr:FA):FE:=fun E Q=>Fo E fun o E1=>o1 (ownOf E1 o) fun _=>Fr E1 fun rs E2=>match o,rs with
 | .s j,[r]=>(match E2[j]? with
  | some (some (.o k xs))=>o1 (f xs r E2) fun ys=>ys.length≤1000∧Q (.p .non) (E2.set j (some (.o k ys)))
  | _=>False)
 | _,_=>False
def appF (xs:List T) (r:R) (E:En):Option (List T):=match r with
 | .p t=>some (xs++[t])
 | _=>none
theorem meth1 {f:List T→R→En→Option (List T)} {r:V→List V→Hp→VK→Prop} {n:Nat} {σ:St} {H:Hp} {Q:VK} (eK:X.K=K) (h:simE K (fMeth1 f Fo Fr) σ H Q)
  (hr:∀(B:Addr→Prop) (S:St) (E:En) (H2:Hp) (xs ys:List T) (rr:R) (y:V) (p:Addr) (vs:List V) (Q:VK),RE K B H2 S E→RR K B H2 S E rr y→f xs rr E=some ys→H2 p=some (.lst vs)→Rps K H2 (Ow B S E) xs vs→ys.length≤1000→
   (∀ws,Rps K H2 (Ow B S E) ys ws→Q .non (upd H2 p (.lst ws)))→r (.ref p) [y] H2 Q):tBM X.K "list" r (simE K Fo) (simA K n Fr) σ H Q:=by
 subst eK
 obtain ⟨B,S,E,Q',⟨τ,hS⟩,re,hF,lk⟩:=h
 refine ⟨B,S,E,_,⟨τ,hS⟩,re,hF,fun oo E1 v H1 S1 q g1 re1 rx=>?_⟩
 obtain ⟨τ1,hS1⟩:=g1.pre
 obtain ⟨xs0,e0,q⟩:=o1.ex q
 obtain ⟨j,k,p,vs,rfl,hE,hSj,rfl,h2,h3⟩:=re1.ownOf rx e0
 refine ⟨.inl ⟨rfl,vs,SqL.of h2⟩,B,S1,E1,_,⟨τ++τ1,by rw [hS1,hS,List.append_assoc]⟩,re1,q,fun rs E2 us H2 S2 q2 g2 re2 rr hn=>?_⟩
 have hSj2:S2[j]? = some (some (.ref p)):=pre_get g2.pre hSj
 match rs,rr,q2 with
 | [r'],⟨y,ws,e1,k1,k2⟩,q2=>
  cases k2;subst e1
  simp only at q2
  split at q2
  ·rename_i k2 xs hE2
   obtain ⟨ys,e3,hz,q2⟩:=o1.ex q2
   obtain ⟨p',vs2,z1,z2,z3,_⟩:=re2.own j k2 xs hE2
   rw [hSj2] at z1;cases z1
   refine hr B S2 E2 H2 xs ys r' y p vs2 Q re2 k1 e3 z2 z3 hz fun ws hw=>?_
   obtain ⟨g3,re3⟩:=re2.put hE2 hSj2 hw
   exact lk _ _ _ _ _ q2 ((g1.trans g2).trans g3) re3 rfl
  ·exact q2.elim
 | [],_,q2=>exact q2.elim
 | _::_::_,_,q2=>exact q2.elim
theorem fe_append {n:Nat} {ap:Pos} (eK:X.K=K) (ho:QE X o (simE K Fo)) (ha:QA X [e] (simA K n Fr)) (hbase:attributeBase o "append" X.env (eval o X.env)=eval o X.env:=by rfl) (hline:(ap.endLine==pos.line)=true:=by rfl) (hs:isStar e=false:=by rfl) :
  QE X (.Call (.Attribute o "append" ap) [e] [] pos) (simE K (fMeth1 appF Fo Fr)):=
 (qe_append ho ha hbase hline hs).le fun σ H Q hl h=>meth1 eK h fun B S E H2 xs ys rr y p vs Q re rx e hp hv hz k=>by
  cases rr with
  | s _=>cases e
  | p t=>
   cases e
   refine ⟨p,vs,y,rfl,rfl,hp,?_,k _ (hv.append ⟨y,[],rfl,rx,rfl⟩)⟩
   rw [hv.length]
   rw [List.length_append] at hz
   exact small1000 (by simp at hz;omega)
end
end L2
set_option Elab.async false
set_option linter.all false
set_option maxRecDepth 100000
set_option maxHeartbeats 4000000
namespace L2
open PySem PySem.Spec PyProof.Rows
end L2
set_option Elab.async false
set_option linter.all false
set_option maxRecDepth 100000
set_option maxHeartbeats 4000000
namespace L2
open PySem PySem.Spec PyProof.Rows
section
variable {prog:Program} {w:World} {A:Around} {E:Value→Shared→Prop} {s:Shared}
end
section
variable {X:Cx} {pins:List (Addr×Obj)} {σ:St} {H:Hp} {s:Shared}
end
section
variable {X:Cx} {K:PySem.W.Frag} {pos:Pos} {Fr:FA}
end
end L2
set_option Elab.async false
set_option linter.all false
set_option maxRecDepth 100000
set_option maxHeartbeats 4000000
namespace My
open PySem L2 PyProof.Rows
theorem gcd_step (x y:Nat):Nat.gcd y (x%y)=Nat.gcd x y:=by
 rw [Nat.gcd_comm x y,Nat.gcd_rec y x,Nat.gcd_comm]
def lowN (n d:Int):Int:=(if 0<d then n else -n)/((Nat.gcd n.natAbs d.natAbs:Nat):Int)
def lowD (n d:Int):Int:=(if 0<d then d else -d)/((Nat.gcd n.natAbs d.natAbs:Nat):Int)
theorem low_core {n d:Int} {g:Nat} (hd:0<d) (hg:g=Nat.gcd n.natAbs d.natAbs):(n/(g:Int)).natAbs≤n.natAbs∧1≤d/(g:Int)∧d/(g:Int)≤d∧Nat.gcd (n/(g:Int)).natAbs (d/(g:Int)).natAbs=1:=by
 have g0:0<g:=by rw [hg];exact Nat.gcd_pos_of_pos_right _ (by omega)
 have dn:(g:Int)∣n:=by rw [hg];exact Int.ofNat_dvd_left.mpr (Nat.gcd_dvd_left _ _)
 have dd:(g:Int)∣d:=by rw [hg];exact Int.ofNat_dvd_left.mpr (Nat.gcd_dvd_right _ _)
 have en:(n/(g:Int)).natAbs=n.natAbs/g:=by rw [Int.natAbs_ediv_of_dvd dn];simp
 have ed:(d/(g:Int)).natAbs=d.natAbs/g:=by rw [Int.natAbs_ediv_of_dvd dd];simp
 refine ⟨by rw [en];exact Nat.div_le_self _ _,?_,?_,?_⟩
 ·obtain ⟨k,hk⟩:=dd
  have hg':(0:Int)<g:=by omega
  rw [hk,Int.mul_ediv_cancel_left _ (by omega)]
  rcases Int.lt_or_le 0 k with h | h
  ·omega
  ·have:(g:Int)*k≤0:=Int.mul_nonpos_of_nonneg_of_nonpos (by omega) h
   omega
 ·exact Int.ediv_le_self _ (by omega)
 ·rw [en,ed,Nat.gcd_div (by rw [hg];exact Nat.gcd_dvd_left _ _) (by rw [hg];exact Nat.gcd_dvd_right _ _),←hg,Nat.div_self g0]
theorem low_facts {n d:Int} (hd:d≠0):(lowN n d).natAbs≤n.natAbs∧1≤lowD n d∧lowD n d≤d.natAbs∧Nat.gcd (lowN n d).natAbs (lowD n d).natAbs=1:=by
 unfold lowN lowD
 by_cases h:0<d
 ·rw [if_pos h,if_pos h]
  have:=low_core (n:=n) (d:=d) h rfl
  refine ⟨this.1,this.2.1,?_,this.2.2.2⟩
  have:=this.2.2.1
  omega
 ·rw [if_neg h,if_neg h]
  have h':0 < -d:=by omega
  have:=low_core (n:=-n) (d:=-d) h' rfl
  simp only [Int.natAbs_neg] at this
  refine ⟨this.1,this.2.1,?_,this.2.2.2⟩
  have:=this.2.2.1
  omega
abbrev Fr:=Int×Int
structure Nrm (p:Fr):Prop where
 d:1≤p.2
 g:Nat.gcd p.1.natAbs p.2.natAbs=1
def low (n d:Int):Fr:=(lowN n d,lowD n d)
def fadd (p q:Fr):Fr:=low (p.1*q.2+q.1*p.2) (p.2*q.2)
def fsub (p q:Fr):Fr:=low (p.1*q.2-q.1*p.2) (p.2*q.2)
def fmul (p q:Fr):Fr:=low (p.1*q.1) (p.2*q.2)
def fneg (p:Fr):Fr:=(-p.1,p.2)
def val (p:Fr):Rat:=(p.1:Rat)/(p.2:Rat)
theorem low_nrm {n d:Int} (hd:d≠0):Nrm (low n d):=⟨(low_facts hd).2.1,(low_facts hd).2.2.2⟩
theorem low_cross {n d:Int} (hd:d≠0):lowN n d*d=n*lowD n d:=by
 have dn:((Nat.gcd n.natAbs d.natAbs:Nat):Int)∣n:=Int.ofNat_dvd_left.mpr (Nat.gcd_dvd_left _ _)
 have dd:((Nat.gcd n.natAbs d.natAbs:Nat):Int)∣d:=Int.ofNat_dvd_left.mpr (Nat.gcd_dvd_right _ _)
 have g0:((Nat.gcd n.natAbs d.natAbs:Nat):Int)≠0:=by
  have:=Nat.gcd_pos_of_pos_right n.natAbs (show 0<d.natAbs by omega)
  omega
 unfold lowN lowD
 generalize ((Nat.gcd n.natAbs d.natAbs:Nat):Int)=g at dn dd g0
 obtain ⟨k,hk⟩:=dn
 obtain ⟨m,hm⟩:=dd
 by_cases h:0<d
 ·rw [if_pos h,if_pos h,hk,hm,Int.mul_ediv_cancel_left _ g0,Int.mul_ediv_cancel_left _ g0]
  grind
 ·rw [if_neg h,if_neg h,hk,hm,←Int.mul_neg,←Int.mul_neg,Int.mul_ediv_cancel_left _ g0,Int.mul_ediv_cancel_left _ g0]
  grind
theorem val_low {n d:Int} (hd:d≠0):val (low n d)=(n:Rat)/(d:Rat):=by
 have h:=low_cross (n:=n) hd
 have h1:=(low_facts (n:=n) hd).2.1
 have a1:((lowD n d:Int):Rat)≠0:=by
  have:lowD n d≠0:=by omega
  exact_mod_cast this
 have a2:(d:Rat)≠0:=by exact_mod_cast hd
 have h':((lowN n d:Int):Rat)*(d:Rat)=(n:Rat)*((lowD n d:Int):Rat):=by exact_mod_cast h
 show ((lowN n d:Int):Rat)/((lowD n d:Int):Rat)=(n:Rat)/(d:Rat)
 grind
theorem Nrm.ne {p:Fr} (h:Nrm p):p.2≠0:=by have:=h.d;omega
theorem Nrm.neR {p:Fr} (h:Nrm p):(p.2:Rat)≠0:=by have:=h.ne;exact_mod_cast this
theorem mul_ne {p q:Fr} (hp:Nrm p) (hq:Nrm q):p.2*q.2≠0:=Int.mul_ne_zero hp.ne hq.ne
theorem val_add {p q:Fr} (hp:Nrm p) (hq:Nrm q):val (fadd p q)=val p+val q:=by
 have h1:=hp.neR
 have h2:=hq.neR
 unfold fadd
 rw [val_low (mul_ne hp hq)]
 unfold val
 push_cast
 grind
theorem val_sub {p q:Fr} (hp:Nrm p) (hq:Nrm q):val (fsub p q)=val p-val q:=by
 have h1:=hp.neR
 have h2:=hq.neR
 unfold fsub
 rw [val_low (mul_ne hp hq)]
 unfold val
 push_cast
 grind
theorem val_mul {p q:Fr} (hp:Nrm p) (hq:Nrm q):val (fmul p q)=val p*val q:=by
 have h1:=hp.neR
 have h2:=hq.neR
 unfold fmul
 rw [val_low (mul_ne hp hq)]
 unfold val
 push_cast
 grind
theorem val_neg {p:Fr} (hp:Nrm p):val (fneg p) = - val p:=by
 have h1:=hp.neR
 show ((-p.1:Int):Rat)/(p.2:Rat) = - ((p.1:Rat)/(p.2:Rat))
 push_cast
 grind
theorem nrm_add {p q:Fr} (hp:Nrm p) (hq:Nrm q):Nrm (fadd p q):=low_nrm (mul_ne hp hq)
theorem nrm_sub {p q:Fr} (hp:Nrm p) (hq:Nrm q):Nrm (fsub p q):=low_nrm (mul_ne hp hq)
theorem nrm_mul {p q:Fr} (hp:Nrm p) (hq:Nrm q):Nrm (fmul p q):=low_nrm (mul_ne hp hq)
theorem nrm_neg {p:Fr} (hp:Nrm p):Nrm (fneg p):=⟨hp.d,by show Nat.gcd (-p.1).natAbs p.2.natAbs=1;rw [Int.natAbs_neg];exact hp.g⟩
theorem nrm_int (n:Int):Nrm (n,1):=⟨by show (1:Int)≤1;decide,by simp⟩
theorem val_inj {p q:Fr} (hp:Nrm p) (hq:Nrm q) (h:val p=val q):p=q:=by
 have h1:=hp.neR
 have h2:=hq.neR
 have e:p.1*q.2=q.1*p.2:=by
  unfold val at h
  have h':(p.1:Rat)*q.2=q.1*p.2:=by grind
  exact_mod_cast h'
 have en:p.1.natAbs*q.2.natAbs=q.1.natAbs*p.2.natAbs:=by rw [←Int.natAbs_mul,←Int.natAbs_mul,e]
 have d1:p.2.natAbs∣q.2.natAbs:=by
  have:p.2.natAbs∣p.1.natAbs*q.2.natAbs:=by rw [en];exact Nat.dvd_mul_left _ _
  exact Nat.Coprime.dvd_of_dvd_mul_left (show Nat.Coprime p.2.natAbs p.1.natAbs by unfold Nat.Coprime;rw [Nat.gcd_comm];exact hp.g) this
 have d2:q.2.natAbs∣p.2.natAbs:=by
  have:q.2.natAbs∣q.1.natAbs*p.2.natAbs:=by rw [←en];exact Nat.dvd_mul_left _ _
  exact Nat.Coprime.dvd_of_dvd_mul_left (show Nat.Coprime q.2.natAbs q.1.natAbs by unfold Nat.Coprime;rw [Nat.gcd_comm];exact hq.g) this
 have ed:p.2.natAbs=q.2.natAbs:=Nat.dvd_antisymm d1 d2
 have ed':p.2=q.2:=by have:=hp.d;have:=hq.d;omega
 have e2:p.1=q.1:=by
  rw [ed'] at e
  exact Int.eq_of_mul_eq_mul_right hq.ne e
 exact Prod.ext e2 ed'
theorem pow8 {x e:Nat} (h:x<2^e) (he:e≤8000):x<2^8000:=Nat.lt_of_lt_of_le h (Nat.pow_le_pow_right (by decide) he)
theorem mul_pow {x y:Int} {e f:Nat} (hx:x.natAbs<2^e) (hy:y.natAbs<2^f):(x*y).natAbs<2^(e+f):=by
 rw [Int.natAbs_mul,Nat.pow_add]
 exact Nat.mul_lt_mul'' hx hy
theorem add_pow {x y:Int} {e:Nat} (hx:x.natAbs<2^e) (hy:y.natAbs<2^e):(x+y).natAbs<2^(e+1):=by
 have:=Int.natAbs_add_le x y
 rw [Nat.pow_succ]
 omega
theorem sub_pow {x y:Int} {e:Nat} (hx:x.natAbs<2^e) (hy:y.natAbs<2^e):(x-y).natAbs<2^(e+1):=by
 rw [Int.sub_eq_add_neg]
 exact add_pow hx (by rw [Int.natAbs_neg];exact hy)
def sz (p:Fr):Nat:=Nat.max (Nat.log2 p.1.natAbs) (Nat.log2 p.2.natAbs)+1
theorem sz_n (p:Fr):p.1.natAbs<2^sz p:=Nat.lt_of_lt_of_le Nat.lt_log2_self (Nat.pow_le_pow_right (by decide) (Nat.succ_le_succ (Nat.le_max_left _ _)))
theorem sz_d (p:Fr):p.2.natAbs<2^sz p:=Nat.lt_of_lt_of_le Nat.lt_log2_self (Nat.pow_le_pow_right (by decide) (Nat.succ_le_succ (Nat.le_max_right _ _)))
theorem log_lt {n e:Nat} (h:n<2^e) (he:1≤e):Nat.log2 n+1≤e:=by
 by_cases c:n=0
 ·subst c
  have:Nat.log2 0=0:=by simp
  omega
 ·exact (Nat.log2_lt c).mpr h
theorem sz_le {p:Fr} {e:Nat} (h1:p.1.natAbs<2^e) (h2:p.2.natAbs<2^e) (he:1≤e):sz p≤e:=by
 have a:=log_lt h1 he
 have b:=log_lt h2 he
 unfold sz
 have:Nat.max (Nat.log2 p.1.natAbs) (Nat.log2 p.2.natAbs)≤e-1:=Nat.max_le.mpr ⟨by omega,by omega⟩
 omega
theorem sz_pos (p:Fr):1≤sz p:=by unfold sz;omega
theorem sz_low {n d:Int} {e:Nat} (hd:d≠0) (h1:n.natAbs<2^e) (h2:d.natAbs<2^e) (he:1≤e):sz (low n d)≤e:=by
 have lf:=low_facts (n:=n) hd
 refine sz_le (Nat.lt_of_le_of_lt lf.1 h1) ?_ he
 show (lowD n d).natAbs<2^e
 omega
theorem sz_add {p q:Fr} (hp:Nrm p) (hq:Nrm q):sz (fadd p q)≤sz p+sz q+1:=
 sz_low (mul_ne hp hq) (add_pow (mul_pow (sz_n p) (sz_d q)) (by rw [Nat.add_comm];exact mul_pow (sz_n q) (sz_d p))) (Nat.lt_of_lt_of_le (mul_pow (sz_d p) (sz_d q)) (Nat.pow_le_pow_right (by decide) (by omega))) (by omega)
theorem sz_sub {p q:Fr} (hp:Nrm p) (hq:Nrm q):sz (fsub p q)≤sz p+sz q+1:=
 sz_low (mul_ne hp hq) (sub_pow (mul_pow (sz_n p) (sz_d q)) (by rw [Nat.add_comm];exact mul_pow (sz_n q) (sz_d p))) (Nat.lt_of_lt_of_le (mul_pow (sz_d p) (sz_d q)) (Nat.pow_le_pow_right (by decide) (by omega))) (by omega)
theorem sz_mul {p q:Fr} (hp:Nrm p) (hq:Nrm q):sz (fmul p q)≤sz p+sz q:=
 sz_low (mul_ne hp hq) (mul_pow (sz_n p) (sz_n q)) (mul_pow (sz_d p) (sz_d q)) (by have:=sz_pos p;omega)
theorem sz_neg (p:Fr):sz (fneg p)=sz p:=by unfold sz fneg;simp
theorem loopT_inv {g:FG} {F:FS} {D:ET} {items:List T} {E:En} (W:Nat→En→Prop) (h0:W 0 E)
  (hs:∀i x rest E,items[i]? = some x→W i E→(∀E',W (i+1) E'→loopT g F D rest E')→loopT g F D (x::rest) E) (hd:∀E,W items.length E→D.nx E):loopT g F D items E:=by
 have key:∀n i E,items.length-i=n→i≤items.length→W i E→loopT g F D (items.drop i) E:=by
  intro n
  induction n with
  | zero=>
   intro i E e hi h
   obtain rfl:i=items.length:=by omega
   rw [List.drop_length]
   exact hd E h
  | succ n ih=>
   intro i E e hi h
   have hlt:i<items.length:=by omega
   rw [List.drop_eq_getElem_cons hlt]
   exact hs i _ _ E (List.getElem?_eq_getElem hlt) h fun E' h'=>ih (i+1) E' (by omega) (by omega) h'
 exact key _ 0 E rfl (Nat.zero_le _) h0
theorem compL_inv {g:FG} {Fe:FE} {items:List T} {E:En} {Q:En→Prop} (W:Nat→En→Prop) (h0:W 0 E)
  (hs:∀i x rest E,items[i]? = some x→W i E→(∀E',W (i+1) E'→compL g Fe rest E' Q)→compL g Fe (x::rest) E Q) (hd:∀E,W items.length E→Q E):compL g Fe items E Q:=by
 have key:∀n i E,items.length-i=n→i≤items.length→W i E→compL g Fe (items.drop i) E Q:=by
  intro n
  induction n with
  | zero=>
   intro i E e hi h
   obtain rfl:i=items.length:=by omega
   rw [List.drop_length]
   exact hd E h
  | succ n ih=>
   intro i E e hi h
   have hlt:i<items.length:=by omega
   rw [List.drop_eq_getElem_cons hlt]
   exact hs i _ _ E (List.getElem?_eq_getElem hlt) h fun E' h'=>ih (i+1) E' (by omega) (by omega) h'
 exact key _ 0 E rfl (Nat.zero_le _) h0
def fr (p:Fr):T:=.tup [.int p.1,.int p.2]
def vc (x y:Fr):T:=.tup [fr x,fr y]
theorem eq_fr (p q:Fr):eqT (fr p) (fr q)=decide (p=q):=by
 rw [Bool.eq_iff_iff]
 simp [fr,L2.eqT,L2.eqTs,Prod.ext_iff]
theorem eq_vc (x y x' y':Fr):eqT (vc x y) (vc x' y')=decide (x=x'∧y=y'):=by
 rw [Bool.eq_iff_iff]
 simp [vc,L2.eqT,L2.eqTs,eq_fr]
def CMulA (i j:Int):Prop:=CMulB i j∨CMul i j
theorem op_mulA {X:Cx}:OpR X (binaryOp .Mult) (rI CMulA fun i j=>.int (i*j)):=by
 intro pins s σ H x y v u Q I rx ry h
 obtain ⟨i,j,e1,e2,hc,q⟩:=h
 rcases hc with hc | hc
 ·exact op_mulB pins s σ H x y v u Q I rx ry ⟨i,j,e1,e2,hc,q⟩
 ·exact op_mul pins s σ H x y v u Q I rx ry ⟨i,j,e1,e2,hc,q⟩
theorem mulA {i j:Int} {e:Nat} (h1:i.natAbs<2^e) (h2:j.natAbs<2^e) (he:e≤8000):CMulA i j:=.inl ⟨pow8 h1 he,pow8 h2 he⟩
theorem mulL {i j:Int} (h1:i.natAbs<2^60):CMulA i j:=.inr (.inl (by omega))
theorem mulR {i j:Int} (h1:j.natAbs<2^60):CMulA i j:=.inr (.inr (by omega))
theorem bt_int:bootBuiltins "int" = some (.type "int"):=by decide +kernel
theorem bt_bool:bootBuiltins "bool" = some (.type "bool"):=by decide +kernel
theorem bt_tuple:bootBuiltins "tuple" = some (.type "tuple"):=by decide +kernel
theorem bt_str:bootBuiltins "str" = some (.type "str"):=by decide +kernel
structure Txt (mg:Str→Option Value):Prop where
 n_isinstance:mg "isinstance" = none
 n_abs:mg "abs" = none
 n_divmod:mg "divmod" = none
 n_min:mg "min" = none
 n_max:mg "max" = none
 n_all:mg "all" = none
 n_len:mg "len" = none
 n_int:mg "int" = none
 n_bool:mg "bool" = none
 n_tuple:mg "tuple" = none
 n_list:mg "list" = none
 n_str:mg "str" = none
 n_range:mg "range" = none
 n_enumerate:mg "enumerate" = none
 n_zip:mg "zip" = none
end My
set_option Elab.async false
set_option linter.all false
set_option maxRecDepth 100000
set_option maxHeartbeats 4000000
namespace My
open PySem L2 PyProof.Rows
section
variable {X:Cx} {K:PySem.W.Frag} {e:Expr} {te:TE} {st:Option Expr} {ts:TO} {pos p2:Pos} {Fa:FE} {G:FO}
end
end My
set_option Elab.async false
set_option linter.all false
set_option maxRecDepth 100000
set_option maxHeartbeats 4000000
namespace L2
open PySem PySem.Spec PyProof.Rows
section
variable {X:Cx}
end
section
variable {X:Cx} {K:PySem.W.Frag} {pos:Pos} {I:FI} {g:FG} {Fb:FB} {Fe:FE}
end
end L2
set_option Elab.async false
set_option linter.all false
set_option maxRecDepth 100000
set_option maxHeartbeats 4000000
namespace L2
open PySem PySem.Spec PyProof.Rows
def inT (t:T) (xs:List T):Bool:=xs.any fun y=>eqT y t
section
variable {X:Cx} {K:PySem.W.Frag} {pos:Pos} {a b e o:Expr} {Fa Fb Fo:FE} {Fr:FA}
theorem any_T {H:Hp} {t:T} {e:Value→Bool} (he:∀(y:T) (w:V) (z:Value),Rq K H y w→RelV w z→e z=eqT y t):∀{xs:List T} {vs:List V} {its:List Value},Rqs K H xs vs→Vals vs its→its.any e=inT t xs∧∀z∈its,∃y∈xs,∃w,Rq K H y w∧RelV w z
 | [],_,_,h,r=>by cases h;cases r;exact ⟨rfl,fun z hz=>by cases hz⟩
 | y::xs,_,_,h,r=>by
  obtain ⟨v,ws,rfl,h1,h2⟩:=h
  cases r with
  | cons r1 r2=>
   obtain ⟨q1,q2⟩:=any_T he h2 r2
   refine ⟨?_,fun z hz=>?_⟩
   ·rw [List.any_cons,q1,he _ _ _ h1 r1];rfl
   ·rcases List.mem_cons.mp hz with rfl | hz
    ·exact ⟨y,List.mem_cons_self ..,v,h1,r1⟩
    ·obtain ⟨y',h3,h4⟩:=q2 z hz
     exact ⟨y',List.mem_cons_of_mem _ h3,h4⟩
theorem in_core {k:Nat} (hr:Room k X.A) {pins:List (Addr×Obj)} {s:Shared} {σ:St} {H:Hp} (I:Inv X pins σ H s) {x:V} {v:Value} {t:T} {xs:List T} {vs:List V} {its:List Value} (ht:Rq X.K H t x) (rx:RelV x v) (hxs:Rqs X.K H xs vs) (r:Vals vs its) (hd:dTs xs≤50) :
  ∃e:Value→Bool,its.any e=inT t xs∧∀z∈its,SeqAt.EqAt X.A.in1 s z v (e z):=by
 obtain ⟨e,he⟩:∃e:Value→Bool,∀(y:T) (w:V) (z:Value),Rq X.K H y w→RelV w z→e z=eqT y t:=by
  refine ⟨fun z=>@dite _ (∃y w,Rq X.K H y w∧RelV w z) (Classical.propDecidable _) (fun h=>eqT (Classical.choose h) t) (fun _=>false),fun y w z h1 h2=>?_⟩
  have hex:∃y w,Rq X.K H y w∧RelV w z:=⟨y,w,h1,h2⟩
  show @dite _ (∃y w,Rq X.K H y w∧RelV w z) (Classical.propDecidable _) (fun h=>eqT (Classical.choose h) t) (fun _=>false)=_
  rw [dif_pos hex]
  obtain ⟨w',h3,h4⟩:=Classical.choose_spec hex
  have:=rel_inj h2 h4
  subst this
  rw [Rq.inj I h3 h1]
 obtain ⟨q1,q2⟩:=any_T he hxs r
 refine ⟨e,q1,fun z hz=>?_⟩
 obtain ⟨y,hy,w,h1,h2⟩:=q2 z hz
 rw [he _ _ _ h1 h2]
 have:=dT_mem hy
 exact (rc_all I 50 X.A.in1 y t w x z v (by omega) h1 ht h2 rx (by have:=hr.units;show X.A.units+1+50<cLine;omega)).2
end
end L2
set_option Elab.async false
set_option linter.all false
set_option maxRecDepth 100000
set_option maxHeartbeats 4000000
namespace L2
open PySem PySem.Spec PyProof.Rows
def ownF:En→Bool
 | []=>true
 | some (.o false _)::_=>false
 | _::E=>ownF E
section
variable {K:PySem.W.Frag} {B:Addr→Prop} {H H':Hp} {S S':St} {E E':En} {σ:St}
def frzR (E:En):List R→Option (List T×En)
 | []=>some ([],E)
 | .p t::rs=>(frzR E rs).map fun z=>(t::z.1,z.2)
 | .s i::rs=>match E[i]? with
  | some (some (.o false xs))=>(frzR (E.set i (some (.p (.lst xs)))) rs).map fun z=>(.lst xs::z.1,z.2)
  | some (some (.p t))=>(frzR E rs).map fun z=>(t::z.1,z.2)
  | _=>none
theorem frzR_ok:∀{rs:List R} {vs:List V} {E:En} {z:List T×En},RE K B H S E→RRs K B H S E rs vs→frzR E rs=some z→RE K B H S z.2∧(∀b,Ow B S z.2 b→Ow B S E b)∧Rps K H (Ow B S z.2) z.1 vs
 | [],vs,E,z,re,h,e=>by cases e;exact ⟨re,fun b z=>z,h⟩
 | .p t::rs,_,E,z,re,⟨v,ws,e1,h1,h2⟩,e=>by
  cases q:frzR E rs with
  | none=>rw [frzR,q] at e;cases e
  | some y=>
   rw [frzR,q] at e
   cases e
   obtain ⟨r1,r2,r3⟩:=frzR_ok re h2 q
   exact ⟨r1,r2,v,ws,e1,Rp.step (Kp.less r2) h1,r3⟩
 | .s i::rs,_,E,z,re,⟨v,ws,e1,h1,h2⟩,e=>by
  unfold frzR at e
  split at e
  ·rename_i xs hE
   obtain ⟨ref,of⟩:=re.frz hE
   cases q:frzR (E.set i (some (.p (.lst xs)))) rs with
   | none=>rw [q] at e;cases e
   | some y=>
    rw [q] at e
    cases e
    have h2':RRs K B H S (E.set i (some (.p (.lst xs)))) rs ws:=RRs.step ⟨Kp.less fun b z=>(of b z).1,[],by simp⟩ h2
    obtain ⟨r1,r2,r3⟩:=frzR_ok ref h2' q
    have hi:i<E.length:=(List.getElem?_eq_some_iff.mp hE).1
    obtain ⟨w,p1,p2⟩:=ref.pure i (.lst xs) (by rw [List.getElem?_set_self hi])
    have h1:S[i]? = some (some v):=h1
    rw [h1] at p1;cases p1
    exact ⟨r1,fun b z=>(of b (r2 b z)).1,v,ws,e1,Rp.step (Kp.less r2) p2,r3⟩
  ·rename_i t hE
   cases q:frzR E rs with
   | none=>rw [q] at e;cases e
   | some y=>
    rw [q] at e
    cases e
    obtain ⟨r1,r2,r3⟩:=frzR_ok re h2 q
    obtain ⟨w,p1,p2⟩:=re.pure i t hE
    have h1:S[i]? = some (some v):=h1
    rw [h1] at p1;cases p1
    exact ⟨r1,r2,v,ws,e1,Rp.step (Kp.less r2) p2,r3⟩
  ·cases e
end
section
variable {X:Cx} {K:PySem.W.Frag} {pos:Pos} {es:List Expr} {Fr:FA}
def fTupF (Fr:FA):FE:=fun E Q=>Fr E fun rs E1=>o1 (frzR E1 rs) fun z=>Q (.p (.tup z.1)) z.2
def fLstF (Fr:FA):FE:=fun E Q=>Fr E fun rs E1=>o1 (frzR E1 rs) fun z=>Q (.s z.2.length) (z.2++[some (.o false z.1)])
theorem fe_tupF {x1} {n:Nat} (h:QA X es (simA K n Fr)) (hz:n≤1000:=by decide):QE X (.Tuple es x1 pos) (simE K (fTupF Fr)):=by
 refine (qe_tup h).le fun σ H Q hl h=>args (Fr:=Fr) h fun B S E rs vs H2 Q' hS re rr hn q lk=>⟨by rw [hn];exact Nat.le_of_lt (small1000 hz),fun p hp=>?_⟩
 obtain ⟨z,e,q⟩:=q.ex
 obtain ⟨re1,ow1,rs1⟩:=frzR_ok re rr e
 obtain ⟨g,re',rp⟩:=re1.tup hp rs1
 exact lk _ _ _ _ _ q (Gr.trans ⟨Kp.less ow1,[],by simp⟩ g) re' rp
theorem fe_lstF {n:Nat} (h:QA X es (simA K n Fr)) (hz:n≤1000:=by decide):QE X (.List es pos) (simE K (fLstF Fr)):=by
 refine (qe_lst h).le fun σ H Q hl h=>args (Fr:=Fr) h fun B S E rs vs H2 Q' hS re rr hn q lk=>⟨by rw [hn];exact Nat.le_of_lt (small1000 hz),fun p hp=>?_⟩
 obtain ⟨z,e,q⟩:=q.ex
 obtain ⟨re1,ow1,rs1⟩:=frzR_ok re rr e
 obtain ⟨g,re'⟩:=re1.lst hp rs1
 exact lk _ _ _ _ _ q (Gr.trans ⟨Kp.less ow1,[],by simp⟩ g) re' (by rw [←re1.len];exact get_last)
end
section
variable {X:Cx} {K:PySem.W.Frag} {pos:Pos} {Fe:FE} {g:FG} {I:FI}
end
end L2
set_option Elab.async false
set_option linter.all false
set_option maxRecDepth 100000
set_option maxHeartbeats 4000000
namespace L2
open PySem PySem.Spec PyProof.Rows
section
variable {K:PySem.W.Frag} {B:Addr→Prop} {H H':Hp} {S S':St} {E E':En} {σ:St}
end
section
variable {X:Cx} {K:PySem.W.Frag} {pos:Pos} {e:Expr} {es:List Expr} {Fr:FA} {F:FS} {body:List Stmt}
end
end L2
set_option Elab.async false
set_option linter.all false
set_option maxRecDepth 100000
set_option maxHeartbeats 4000000
namespace L2
open PySem PySem.Spec PyProof.Rows
section
variable {X:Cx} {K:PySem.W.Frag} {Fe:FE} {I:FI}
end
section
variable {P:Program} {w:World} {K:PySem.W.Frag} {mg:Str→Option Value} {base:Heap}
end
end L2
set_option Elab.async false
set_option linter.all false
set_option maxRecDepth 100000
set_option maxHeartbeats 4000000
namespace L2
open PySem PySem.Spec PyProof.Rows
def DictAt (H:Hp) (a:Addr):Prop:=∃kvs,H a=some (.dK kvs)
section
variable {K:PySem.W.Frag} {H:Hp} {O O':Addr→Prop}
mutual
theorem Rp.noD (hO:∀a,O' a→O a∨DictAt H a):∀{t:T} {v:V},Rp K H O t v→Rp K H O' t v
 | .non,_,h=>h
 | .bl _,_,h=>h
 | .int _,_,h=>h
 | .str _,_,h=>h
 | .lst xs,v,h=>by
  obtain ⟨a,vs,e1,h1,h2⟩:=h
  refine ⟨a,vs,e1,h1.imp (fun ⟨n,h⟩=>⟨fun z=>?_,h⟩) id,Rps.noD hO h2⟩
  rcases hO a z with z | ⟨kvs,q⟩
  ·exact n z
  ·rcases h with h | ⟨o,h⟩
   ·rw [h] at q;cases q
   ·rw [h] at q;cases q
 | .tup xs,v,h=>by
  obtain ⟨a,vs,e1,h1,h2⟩:=h
  refine ⟨a,vs,e1,h1.imp (fun ⟨n,h⟩=>⟨fun z=>?_,h⟩) id,Rps.noD hO h2⟩
  rcases hO a z with z | ⟨kvs,q⟩
  ·exact n z
  ·rcases h with h | ⟨o,h⟩
   ·rw [h] at q;cases q
   ·rw [h] at q;cases q
theorem Rps.noD (hO:∀a,O' a→O a∨DictAt H a):∀{xs:List T} {vs:List V},Rps K H O xs vs→Rps K H O' xs vs
 | [],_,h=>h
 | x::xs,vs,h=>by
  obtain ⟨v,r,e1,h1,h2⟩:=h
  exact ⟨v,r,e1,Rp.noD hO h1,Rps.noD hO h2⟩
end
end
section
variable {K:PySem.W.Frag} {B:Addr→Prop} {H H':Hp} {S S':St} {E E':En} {σ:St}
theorem RE.dict (re:RE K B H S E) {p:Addr} {kvs kvs':List (Key×V)} (hp:H p=some (.dK kvs)):RE K B (upd H p (.dK kvs')) S E:=by
 have np:¬Ow B S E p:=fun z=>by obtain ⟨vs,e⟩:=re.ow z;rw [hp] at e;cases e
 have hO:∀a,(a=p∨Ow B S E a)→Ow B S E a∨DictAt H a:=fun a z=>by
  rcases z with z | z
  ·exact .inr ⟨kvs,by rw [z];exact hp⟩
  ·exact .inl z
 have kp:Kp (fun b=>b=p∨Ow B S E b) (Ow B S E) H (upd H p (.dK kvs')):=⟨fun b o e n=>by rw [upd_ne fun z=>n (.inl z)];exact e,fun b z=>.inl (.inr z)⟩
 refine ⟨re.len,fun i t h=>?_,fun i k xs h=>?_,re.inj,fun a h=>?_⟩
 ·obtain ⟨v,h1,h2⟩:=re.pure i t h
  exact ⟨v,h1,(Rp.noD hO h2).step kp⟩
 ·obtain ⟨a,vs,h1,h2,h3,h4⟩:=re.own i k xs h
  have na:a≠p:=fun z=>nomatch (show some (HO.lst vs)=some (HO.dK kvs) by rw [←h2,z,hp])
  exact ⟨a,vs,h1,by rw [upd_ne na];exact h2,(Rps.noD hO h3).step kp,h4⟩
 ·obtain ⟨vs,q⟩:=re.bd a h
  have na:a≠p:=fun z=>nomatch (show some (HO.lst vs)=some (HO.dK kvs) by rw [←q,z,hp])
  exact ⟨vs,by rw [upd_ne na];exact q⟩
theorem Rps.dict (re:RE K B H S E) {p:Addr} {kvs kvs':List (Key×V)} (hp:H p=some (.dK kvs)) {ts:List T} {vs:List V} (h:Rps K H (Ow B S E) ts vs):Rps K (upd H p (.dK kvs')) (Ow B S E) ts vs:=
 (Rps.noD (O':=fun b=>b=p∨Ow B S E b) (fun a z=>by
  rcases z with z | z
  ·exact .inr ⟨kvs,by rw [z];exact hp⟩
  ·exact .inl z) h).step ⟨fun b o e n=>by rw [upd_ne fun z=>n (.inl z)];exact e,fun b z=>.inl (.inr z)⟩
end
def fPairs:List (Int×FE)→En→(List T→En→Prop)→Prop
 | [],E,Q=>Q [] E
 | (_,F)::r,E,Q=>F E fun x E1=>match x with
  | .p t=>fPairs r E1 fun ts E2=>Q (t::ts) E2
  | .s _=>False
def look:List (Int×FE)→List T→Option T→Int→Option T
 | (k,_)::r,t::ts,o,i=>look r ts (if i=k then some t else o) i
 | _,_,o,_=>o
def fDix (l:List (Int×FE)) (Fi:FE):FE:=fun E Q=>fPairs l E fun ts E1=>Fi E1 fun y E2=>i1 (vl E2 y) fun i=>o1 (look l ts none i) fun t=>Q (.p t) E2
def trsOf (K:PySem.W.Frag) (l:List (Int×FE)):List (TE×TE):=l.map fun x=>(tC (.int x.1),simE K x.2)
def prs:List (Int×FE)→List V→List (V×V)
 | (k,_)::r,v::vs=>(V.int k,v)::prs r vs
 | _,_=>[]
def kvsOf:List (Int×FE)→List V→List (Key×V)
 | (k,_)::r,v::vs=>(Sum.inl k,v)::kvsOf r vs
 | _,_=>[]
theorem prs_kvs:∀(l:List (Int×FE)) (vs:List V),prs l vs=(kvsOf l vs).map fun kv=>(kV kv.1,kv.2)
 | [],_=>rfl
 | (k,_)::r,[]=>rfl
 | (k,_)::r,v::vs=>by
  show (V.int k,v)::prs r vs=(V.int k,v)::_
  rw [prs_kvs r vs]
theorem kvs_len:∀(l:List (Int×FE)) (vs:List V),(kvsOf l vs).length≤l.length
 | [],_=>Nat.zero_le _
 | (k,_)::r,[]=>Nat.zero_le _
 | (k,_)::r,v::vs=>Nat.succ_le_succ (kvs_len r vs)
section
variable {K:PySem.W.Frag} {H:Hp} {O:Addr→Prop}
theorem look_rp {i:Int}:∀{l:List (Int×FE)} {ts:List T} {vs:List V} {acc:List (Key×V)} {o:Option T} {t:T},Rps K H O ts vs→vs.length=l.length→(∀u,o=some u→∃v,valV acc (Sum.inl i)=some v∧Rp K H O u v)→look l ts o i=some t→
  ∃v,valV (mergeK acc (kvsOf l vs)) (Sum.inl i)=some v∧Rp K H O t v
 | [],ts,vs,acc,o,t,h,hl,ho,e=>by
  have e:o=some t:=by unfold look at e;exact e
  exact ho t e
 | (k,F)::r,[],vs,acc,o,t,h,hl,ho,e=>by
  cases h
  simp at hl
 | (k,F)::r,u::ts,vs,acc,o,t,⟨v,ws,e1,h1,h2⟩,hl,ho,e=>by
  subst e1
  show ∃w,valV (mergeK (putK acc (Sum.inl k) v) (kvsOf r ws)) (Sum.inl i)=some w∧_
  refine look_rp h2 (by simpa using hl) (fun x hx=>?_) e
  rw [valV_put]
  by_cases c:i=k
  ·subst c
   rw [if_pos rfl] at hx ⊢
   cases hx
   exact ⟨v,rfl,h1⟩
  ·rw [if_neg c] at hx
   rw [if_neg (fun z=>c (Sum.inl.inj z))]
   exact ho x hx
end
structure QPs (X:Cx) (pos:Pos) (keys:List (Option Expr)) (values:List Expr) (trs:List (TE×TE)):Prop where
 h:PPs X pos keys values trs
section
variable {X:Cx} {K:PySem.W.Frag} {pos:Pos} {Fi F:FE} {l:List (Int×FE)}
theorem fps_nil:QPs X pos [] [] (trsOf K []):=⟨pps_nil⟩
theorem fps_cons {k:Int} {j} {p:Pos} {v:Expr} {ks:List (Option Expr)} {vs:List Expr} (hv:QE X v (simE K F)) (hr:QPs X pos ks vs (trsOf K l)):QPs X pos (some (.Constant (.int k) j p)::ks) (v::vs) (trsOf K ((k,F)::l)):=⟨pps_cons pe_int hv.h hr.h⟩
theorem pairs_sim {p:Addr} {B:Addr→Prop} {σ:St}:∀{l:List (Int×FE)} {S:St} {E:En} {H:Hp} {Qp:List (V×V)→Hp→Prop} {Q':List T→En→Prop},(∃τ,S=σ++τ)→RE K B H S E→H p=some (.dK [])→fPairs l E Q'→
  (∀ts E2 vs H2 S2,Q' ts E2→Gr B H S E H2 S2 E2→RE K B H2 S2 E2→Rps K H2 (Ow B S2 E2) ts vs→vs.length=l.length→H2 p=some (.dK [])→Qp (prs l vs) H2)→tPairs (trsOf K l) σ H Qp
 | [],S,E,H,Qp,Q',hS,re,hp,hF,k=>k [] E [] H S hF .refl re rfl rfl hp
 | (n,F)::r,S,E,H,Qp,Q',⟨τ,hS⟩,re,hp,hF,k=>by
  show simE K F σ H _
  refine ⟨B,S,E,_,⟨τ,hS⟩,re,hF,fun x E1 v H1 S1 q g1 re1 rx=>?_⟩
  cases x with
  | s _=>exact q.elim
  | p t=>
   obtain ⟨τ1,hS1⟩:=g1.pre
   have np:¬Ow B S E p:=fun z=>by obtain ⟨vs,e⟩:=re.ow z;rw [hp] at e;cases e
   refine pairs_sim (S:=S1) (E:=E1) ⟨τ++τ1,by rw [hS1,hS,List.append_assoc]⟩ re1 (g1.kp.keep p _ hp np) q fun ts E2 vs H2 S2 q2 g2 re2 rs hl hp2=>?_
   exact k (t::ts) E2 (v::vs) H2 S2 q2 (g1.trans g2) re2 ⟨v,vs,rfl,Rp.step g2.kp rx,rs⟩ (by rw [List.length_cons,List.length_cons,hl]) hp2
theorem fe_dix {i:Expr} {pos':Pos} {keys:List (Option Expr)} {values:List Expr} {j:Nat} (hr:Room j X.A) (h:QPs X pos keys values (trsOf K l)) (hi:QE X i (simE K Fi)) (hs:NoSl i) (hz:l.length≤15:=by decide) (hall:keys.all (·.isSome)=true:=by rfl) (hl:keys.length=values.length:=by rfl) (h0:keys≠[]:=by intro z;cases z)
  (h15:keys.length≤15:=by decide):QE X (.Subscript (.Dict keys values pos) i pos') (simE K (fDix l Fi)):=by
 refine QE.le (t:=tDGet (tDisp (trsOf K l)) (simE K Fi)) ⟨pe_dget (hu_of hr) (pe_disp h.h hall hl h0 h15) hi.h hs⟩ fun σ H Q hlen ⟨B,S,E,Q',⟨τ,hS⟩,re,hF,lk⟩=>?_
 intro p hp
 have re0:RE K B (upd H p (.dK [])) S E:=re.kept fun b o e=>by rw [upd_ne (ne_of_none e hp)];exact e
 refine pairs_sim ⟨τ,hS⟩ re0 upd_same hF fun ts E2 vs H2 S2 q2 g2 re2 rs hl2 hp2=>⟨hp2,kvsOf l vs,prs_kvs l vs,Nat.le_trans (kvs_len l vs) hz,?_⟩
 obtain ⟨τ2,hS2⟩:=g2.pre
 have re3:RE K B (upd H2 p (.dK (mergeK [] (kvsOf l vs)))) S2 E2:=re2.dict hp2
 have rs3:Rps K (upd H2 p (.dK (mergeK [] (kvsOf l vs)))) (Ow B S2 E2) ts vs:=Rps.dict re2 hp2 rs
 have g3:Gr B H S E (upd H2 p (.dK (mergeK [] (kvsOf l vs)))) S2 E2:=⟨⟨fun b o e n=>by
   have nb:=ne_of_none e hp
   rw [upd_ne nb]
   exact g2.kp.keep b o (by rw [upd_ne nb];exact e) n,fun b z=>by
   rcases g2.kp.new b z with z | z
   ·exact .inl z
   ·by_cases c:b=p
    ·rw [c,upd_same] at z;cases z
    ·rw [upd_ne c] at z;exact .inr z⟩,g2.pre⟩
 refine ⟨B,S2,E2,_,⟨τ++τ2,by rw [hS2,hS,List.append_assoc]⟩,re3,q2,fun y E4 w H4 S4 q4 g4 re4 ry=>?_⟩
 obtain ⟨n,e1,q4⟩:=i1.ex q4
 obtain ⟨t,e2,q4⟩:=o1.ex q4
 have ew:=re4.int ry e1
 subst ew
 have np:¬Ow B S2 E2 p:=fun z=>by obtain ⟨vs,e⟩:=re3.ow z;rw [upd_same] at e;cases e
 have hp4:H4 p=some (.dK (mergeK [] (kvsOf l vs))):=g4.kp.keep p _ upd_same np
 obtain ⟨v,v1,v2⟩:=look_rp (acc:=[]) (rs3.step g4.kp) hl2 (fun u z=>by cases z) e2
 refine ⟨p,v,rfl,?_,lk _ _ _ _ _ q4 (g3.trans g4) re4 v2⟩
 have:=DGet.k (k:=Sum.inl n) hp4
 rw [v1] at this
 exact this
end
end L2
set_option Elab.async false
set_option linter.all false
set_option maxRecDepth 100000
set_option maxHeartbeats 4000000
namespace L2
open PySem PySem.Spec PyProof.Rows
abbrev enP (hp:Heap) (a:Addr):Heap:=hp.push { cls:=.type "tuple_iterator",data:=.fields #[.ref a,.int 0 0] }
abbrev enQ (hp:Heap) (a:Addr):Heap:=(enP hp a).push { cls:=.type "enumerate",data:=.fields #[.none,.bool false,.ref hp.objs.size,rawInt 0,.none,.none] }
theorem enumT_new (a:Addr) (xs:Array Value) :
  Meets (Builtin.«enumerate.__new__» ⟨[.type "enumerate",.ref a],[]⟩) (fun _ R s=>s.heap.IsTuple a xs∧R (.ok (.ret (.ref (enP s.heap a).objs.size))) { s with heap:=enQ s.heap a }):=
 .of_wp fun prog w A R s h=>by
  obtain ⟨hp,g,d,tk,os⟩:=s;obtain ⟨ga,h⟩:=h
  have gs:=sub_enumerate
  obtain ⟨⟨c,dct,dt,sl⟩,hl,hc,n,hd⟩:=id ga
  replace hc:c = .type "tuple":=hc
  replace hd:dt = .seq xs n:=hd
  subst hc hd
  have gA:Heap.IsTuple (Shared.heap ⟨hp,g,d,tk,os⟩) a xs:=ga
  wp_walk using AutoSeq1.wpAny_loadPart' hl
  refine wpAny_stack_any fun st=>wpAny_pure ?_
  split
  ·rename_i k _ _ _ _ _
   cases (k==Value.type "enumerate")
   ·wp_walk using AutoSeq1.wpAny_loadPart' hl,wpAny_pyIter_tuple gA
    exact ⟨_,rfl,h⟩
   ·wp_walk using AutoSeq1.wpAny_loadPart' hl,wpAny_pyIter_tuple gA
    exact ⟨_,rfl,h⟩
  ·wp_walk using AutoSeq1.wpAny_loadPart' hl,wpAny_pyIter_tuple gA
   exact ⟨_,rfl,h⟩
theorem call_enumT {prog:Program} {w:World} {A:Around} {E:Value→Shared→Prop} {s:Shared} {a:Addr} {xs:Array Value} {Q:Value→Shared→Prop} (ga:s.heap.IsTuple a xs)
  (g:∀h',IsEnum h' (s.heap.objs.size+1) s.heap.objs.size 0 .none→h'.IsTupleIter s.heap.objs.size a 0→(∀b o,s.heap.get? b=some o→h'.get? b=some o)→Q (.ref (s.heap.objs.size+1)) { s with heap:=h' }) :
  wpAny (model prog w) A (call (.type "enumerate") [.ref a]) Q E s:=by
 refine callType_new F.called_enumerate (by decide) (F.typeCall_enumerate_1 _) (F.newCall_enumerate_1 _) (fun ob=>F.args_object_init_2 ob _) F.entry_enumerate_new (enumT_new a xs) ⟨ga,?_⟩
 have y1:(enP s.heap a).objs.size=s.heap.objs.size+1:=Heap.size_push ..
 have x2:(enQ s.heap a).get? (enP s.heap a).objs.size=some _:=Heap.get?_push_size _ rfl
 have x1:(enQ s.heap a).get? s.heap.objs.size=some _:=Heap.get?_push_of_some _ (Heap.get?_push_size _ rfl)
 show _∧_
 rw [y1] at x2 ⊢
 exact ⟨⟨_,x2,rfl⟩,g _ x2 ⟨_,x1,rfl,rfl⟩ fun c o e=>Heap.get?_push_of_some _ (Heap.get?_push_of_some _ e)⟩
theorem draws_end {prog:Program} {w:World} {A:Around} (gh:A.handled=none) (it t:Addr) (items:Array Value) (n:Nat) (gx:items[n]? = none) :
  Draws prog w A it [it,t] n (fun _ _=>True) (fun i h=>h.IsTupleIter it t i∧h.IsTuple t items∧i=n) where
 live:=fun _ _ st=>let ⟨o,ho,_⟩:=st.1;⟨o,ho⟩
 frame:=fun _ _ _ st hk=>⟨st.1.at fun o z=>hk it (by simp) o z,st.2.1.at fun o z=>hk t (by simp) o z,st.2.2⟩
 item:=fun i s Q E hi st hQ=>absurd st.2.2 (Nat.ne_of_lt hi)
 done:=fun s Q E st hE=>tupNext_end gh st.1 st.2.1 gx hE
def IteT (K:PySem.W.Frag) (a:Addr):It:=
 ⟨fun i H=>∃xs x,SqT K H a xs∧xs[i]? = some x,fun i H x H'=>∃p y,x = .ref p∧H p=none∧H'=upd H p (.tup [.int (i:Int),y])∧∀xs,SqT K H a xs→xs[i]? = some y,fun i H=>∃xs,SqT K H a xs∧xs.length≤i⟩
theorem turn_enumT {P:Program} {w:World} {K:PySem.W.Frag} {elts:List Expr} {x1} {tpos:Pos} (a e it:Addr) (hne:e≠it) :
  Turn P w K (.Tuple elts x1 tpos) (IteT K a) [e,it] e (fun i h=>(∃old,IsEnum h e it (i:Nat) old)∧h.IsTupleIter it a i) where
 mem:=by simp
 obj:=fun i h st b hb=>by
  obtain ⟨⟨old,he⟩,⟨o,ho,hc,hd⟩⟩:=st
  rcases List.mem_cons.mp hb with rfl | hb
  ·exact ⟨_,he,fun v z=>by cases z⟩
  ·rw [List.mem_singleton.mp hb]
   exact ⟨o,ho,fun v z=>by rw [hd] at z;cases z⟩
 keep:=fun i h h' st k=>⟨let ⟨old,he⟩:=st.1;⟨old,k e (by simp) _ he⟩,st.2.at fun o x=>k it (by simp) o x⟩
 item:=by
  intro X hP hw hK hc i pins s σ H E I hf st hg
  subst hP hw hK
  obtain ⟨xs,x,hq,hx⟩:=hg
  obtain ⟨its,rv,p,hz⟩:=I.tuple hq
  obtain ⟨u,hu,ru⟩:=rv.get hx
  obtain ⟨⟨old,he⟩,hit⟩:=st
  have hea:e≠a:=fun z=>by
   obtain ⟨o,ho,hc',_⟩:=p
   rw [←z] at ho
   rw [show s.heap.get? e=_ from he] at ho
   cases ho
   exact absurd hc' (show ¬Value.type "enumerate" = Value.type "tuple" by decide)
  have hia:a≠it:=fun z=>by
   obtain ⟨o,ho,hc',_⟩:=p
   obtain ⟨o',ho',hc2,_⟩:=hit
   rw [←z,ho] at ho';cases ho'
   rw [hc'] at hc2;exact absurd hc2 (by decide)
  have D:=draws_tup (prog:=X.prog) (w:=X.w) (A:=X.A.in1) (I.ok.hd hc) it a hia its.toArray
  have hin:i<its.toArray.size:=by
   have:=(List.getElem?_eq_some_iff.mp hu).1
   simpa using this
  refine wpAny_pyNext_enum_itemD D he ⟨hit,p⟩ hin hne (by simp [hne,hea]) fun x' h1 tk hP ho st1 ht hsz hk=>⟨_,rfl,?_⟩
  have ex:x'=u:=by
   have:its.toArray[i]? = some u:=by simpa using hu
   rw [this] at hP;exact (Option.some.inj hP).symm
  subst ex
  refine wpAny_letOwnedTupleGo_enum ho fun h2 he2 hs2=>?_
  have hen:e≠s.heap.objs.size:=Nat.ne_of_lt (Heap.lt_size he)
  have kk:∀b o,b∉[e,it]→s.heap.get? b=some o→h2.get? b=some o:=fun b o hb q=>by
   have b1:b≠e:=fun z=>hb (by simp [z])
   have b2:b≠it:=fun z=>hb (by simp [z])
   exact hs2.extBut b o b1 (hk b o b1 b2 q)
  have nw:ObjOk X.prog X.w (upd H s.heap.objs.size (.tup [.int (i:Int),x])) h2 s.heap.objs.size (.tup [.int (i:Int),x]):=
   ⟨by show 2≤sizeLine;decide,[.int i tk,x'],.cons ⟨_,rfl⟩ (.cons ru .nil),⟨_,hs2.extBut _ _ (Ne.symm hen) ht,rfl,_,rfl⟩⟩
  refine ⟨.ref s.heap.objs.size,upd H s.heap.objs.size (.tup [.int (i:Int),x]),I.turnedLaid (t':=tk+1) (ch:=[e,it]) kk hf (Nat.le_refl _) nw,rfl,
   ⟨_,x,rfl,I.hok.fresh (Nat.le_refl _),rfl,fun ys hy=>by rw [I.tuple_inj hy hq];exact hx⟩,⟨⟨_,by simpa using he2⟩,st1.1.at fun o z=>hs2.extBut it o (Ne.symm hne) z⟩,fun b hb=>?_⟩
  have hlt:b<s.heap.objs.size:=by
   rcases List.mem_cons.mp hb with rfl | hb
   ·exact Heap.lt_size he
   ·rw [List.mem_singleton.mp hb]
    obtain ⟨o,ho',_⟩:=hit
    exact Heap.lt_size ho'
  rw [upd_ne (Nat.ne_of_lt hlt)]
  exact (hf b hb).1
 done:=by
  intro X hP hw hK hc i pins s σ H E I hf st hg
  subst hP hw hK
  obtain ⟨xs,hq,hx⟩:=hg
  obtain ⟨its,rv,p,hz⟩:=I.tuple hq
  have hl:=rv.length
  obtain ⟨⟨old,he⟩,hit⟩:=st
  have nx:its.toArray[i]? = none:=by simp;omega
  refine wpAny_pyNext_enum_endD (draws_end (A:=X.A.in1) (I.ok.hd hc) it a its.toArray i nx) he ⟨hit,p,rfl⟩ fun h1 eb=>⟨rfl,?_⟩
  exact I.turnedL (t':=s.toks) (ch:=[e,it]) (fun b o hb q=>eb b o (fun z=>hb (by simp [z])) q) hf
 self:=fun _ _ _ _ _ st h=>let ⟨old,he⟩:=st.1;wpAny_pyIter_enum he h
section
variable {X:Cx} {a:Expr} {pos:Pos} {K:PySem.W.Frag} {Fr:FA}
def iEnumT (K:PySem.W.Frag) (ta:TA):TI:=fun σ H R=>ta σ H fun vs H1=>∃a,vs=[.ref a]∧(∃xs,SqT K H1 a xs)∧R (IteT K a) H1
theorem pi_enumT {ta:TA} {p tpos:Pos} {elts:List Expr} {x1} (hg:Gl X "enumerate") (hm:X.mg "enumerate" = none) (ha:PA X [a] ta) (hs:starEach [a] X.env=[(false,eval a X.env)]:=by rfl) :
  PI X (.Tuple elts x1 tpos) (.Call (.Name "enumerate" p) [a] [] pos) (iEnumT X.K ta):=by
 intro pins s σ H R I h
 refine Call_ (ld_blt I hg hm boot_enumerate (PyProof.Rows.callWith_type1 (thn (ha pos pins s σ H _ I h) fun us s1 ⟨vs,H1,I1,r1,q1⟩=>?_) hs rfl))
 obtain ⟨l,rfl,⟨xs,hq⟩,q⟩:=q1
 obtain ⟨u,rfl,ru⟩:=Vals.one r1
 cases ru
 obtain ⟨its,rv,pl,hz⟩:=I1.tuple hq
 refine call_enumT pl fun h' he hit hk=>?_
 refine wpAny_pyIter_enum he ?_
 refine ⟨s1.heap.objs.size+1,[s1.heap.objs.size+1,s1.heap.objs.size],_,_,H1,rfl,I1.kept (t':=s1.toks) hk,turn_enumT l _ _ (Nat.succ_ne_self _),⟨⟨_,he⟩,hit⟩,fun b hb=>?_,q⟩
 have hle:s1.heap.objs.size≤b:=by
  rcases List.mem_cons.mp hb with rfl | hb
  ·exact Nat.le_succ _
  ·rw [List.mem_singleton.mp hb];exact Nat.le_refl _
 exact I1.fpOk hle (I1.hok.fresh hle)
theorem iteT_ok {p:Addr} {xs:List T}:ItOk K (IteT K p) (xs.zipIdx.map fun q=>T.tup [.int (q.2:Int),q.1]) (fun H O=>Rp K H O (.tup xs) (.ref p)):=by
 refine ⟨fun H H' O O' k h=>Rp.step k h,fun i H O h hi=>?_,fun i H O x H' t h e hO y=>?_,fun H O h=>?_⟩
 ·obtain ⟨a,vs,e,sq,rs⟩:=h.sqT
  cases e
  have hi':i<xs.length:=by simpa using hi
  exact ⟨vs,vs[i]'(by rw [rs.length];exact hi'),sq,List.getElem?_eq_getElem _⟩
 ·obtain ⟨pp,w,e1,hp,e2,y⟩:=y
  subst e1;subst e2
  obtain ⟨a,vs,e3,sq,rs⟩:=h.sqT
  cases e3
  rw [List.getElem?_map] at e
  cases q:xs.zipIdx[i]? with
  | none=>rw [q] at e;cases e
  | some z=>
   rw [q] at e;cases e
   obtain ⟨q1,q2⟩:=List.getElem?_eq_some_iff.mp q
   have q1':i<xs.length:=by simpa using q1
   rw [List.getElem_zipIdx] at q2
   subst q2
   obtain ⟨v,h1,h2⟩:=rs.get (List.getElem?_eq_getElem q1')
   rw [y vs sq] at h1;cases h1
   have k:Kp O O H (upd H pp (.tup [.int (i:Int),w])):=Kp.upd hp
   refine ⟨k,fun b o z=>by rw [upd_ne (ne_of_none z hp)];exact z,pp,_,rfl,.inl ⟨fun z=>hO pp z hp,.inl upd_same⟩,_,_,rfl,?_,w,[],rfl,h2.step k,rfl⟩
   simp [Rp]
 ·obtain ⟨a,vs,e,sq,rs⟩:=h.sqT
  cases e
  exact ⟨vs,sq,by simp [rs.length]⟩
def iET (Fr:FA):FI:=fun E Q=>Fr E fun rs E1=>match rs with
 | [r]=>(match vl E1 r with
  | some (.tup xs)=>Q (xs.zipIdx.map fun q=>T.tup [.int (q.2:Int),q.1]) [] E1
  | _=>False)
 | _=>False
theorem fi_enumT {n:Nat} {p tpos:Pos} {elts:List Expr} {x1} (eK:X.K=K) (hg:Gl X "enumerate") (hm:X.mg "enumerate" = none) (ha:QA X [a] (simA K n Fr)) (hs:isStar a=false:=by rfl):QI X (.Tuple elts x1 tpos) (.Call (.Name "enumerate" p) [a] [] pos) (simI K (iET Fr)):=by
 subst eK
 refine QI.le (t:=iEnumT X.K (simA X.K n Fr)) ⟨pi_enumT hg hm ha.h (star_ok hs)⟩ fun σ H R hn ⟨B,S,E,Q',hS,re,hF,lk⟩=>⟨B,S,E,_,hS,re,hF,fun rs E1 vs H1 S1 q g re1 rr hn=>?_⟩
 match rs,rr,q with
 | [r],⟨v,ws,e1,h1,h2⟩,q=>
  cases h2;subst e1
  simp only at q
  split at q
  ·rename_i xs e1
   obtain ⟨a,vs,e2,sq,rs⟩:=re1.vl h1 e1
   refine ⟨a,by rw [e2],⟨vs,sq⟩,lk _ _ _ _ _ _ _ q g re1 iteT_ok (fun j hj=>absurd hj (by simp)) fun O k1 k2=>?_⟩
   rw [←e2]
   refine rd_of re1 h1 e1 O k1 fun j hj=>?_
   cases r with
   | p _=>simp [usd] at hj
   | s m=>
    cases q2:E1[m]? with
    | none=>simp only [vl,q2] at e1;cases e1
    | some u=>
     cases u with
     | none=>simp only [vl,q2] at e1;cases e1
     | some u=>
      cases u with
      | p u=>simp [usd,q2] at hj
      | o k ys=>simp only [vl,q2] at e1;cases e1
  ·exact q.elim
 | [],_,q=>exact q.elim
 | _::_::_,_,q=>exact q.elim
end
end L2
set_option Elab.async false
set_option linter.all false
set_option maxRecDepth 100000
set_option maxHeartbeats 4000000
namespace L2
open PySem PySem.Spec PyProof.Rows
section
variable {X:Cx} {e:Expr} {es:List Expr} {pos:Pos} {K:PySem.W.Frag} {Fr:FA}
end
end L2
set_option Elab.async false
set_option linter.all false
set_option maxRecDepth 100000
set_option maxHeartbeats 4000000
namespace HT
open PySem PySem.Spec PyProof.Rows
section
variable {prog:Program} {w:World} {A:Around} {E:Value→Shared→Prop} {s:Shared}
theorem applied_rev {sl:Addr} {vk:Value} {n:Nat} {Q:Int×Int×Nat→Shared→Prop} (hs:s.heap.IsSliceOf sl .none .none vk) (pk:IsPart vk (some (-1)))
  (h:Q ((n:Int)-1,-1,n) s):wpAny (model prog w) A (Builtin.Slice.sliceApplied (.ref sl) (pure (n:Int))) Q E s:=by
 obtain ⟨os,hos,hcs,hds⟩:=id hs
 unfold Builtin.Slice.sliceApplied Builtin.Slice.sliceFields
 refine wpAny_bind (wpAny_bind (wpAny_field hos hds (x:=.none) rfl (wpAny_bind (wpAny_field hos hds (x:=.none) rfl (wpAny_bind (wpAny_field hos hds (x:=vk) rfl (wpAny_pure ?_)))))))
 refine wpAny_bind (slicePart_ pk ?_)
 show wpAny _ _ (if ((-1:Int)==0)=true then _ else _) _ _ s
 rw [if_neg (by decide)]
 refine wpAny_bind (slicePart_none (wpAny_bind (slicePart_none (wpAny_bind (wpAny_pure ?_)))))
 show wpAny _ _ (pure ((n:Int)-1,(-1:Int),Builtin.Slice.slicePlaces ((n:Int)-1) (-1) (-1))) _ _ s
 have e:Builtin.Slice.slicePlaces ((n:Int)-1) (-1) (-1)=n:=by
  unfold Builtin.Slice.slicePlaces
  have h1:¬((-1:Int)>0):=by omega
  simp only [h1,if_false,Int.neg_neg,Int.ediv_one]
  split<;>omega
 rw [e]
 exact wpAny_pure h
theorem pick_rev (xs:Array Value):((List.range xs.size).filterMap fun (m:Nat)=>xs[((xs.size:Int)-1+(m:Int)*(-1)).toNat]?).toArray=xs.toList.reverse.toArray:=by
 congr 1
 apply List.ext_getElem?
 intro i
 have key:∀(n:Nat) (f:Nat→Value),n≤xs.size→(∀m,m<n→xs[((xs.size:Int)-1+(m:Int)*(-1)).toNat]? = some (f m))→(List.range n).filterMap (fun (m:Nat)=>xs[((xs.size:Int)-1+(m:Int)*(-1)).toNat]?)=(List.range n).map f:=by
  intro n f hn hf
  induction n with
  | zero=>rfl
  | succ n ih=>
   rw [List.range_succ,List.filterMap_append,List.map_append,ih (by omega) fun m hm=>hf m (by omega)]
   simp only [List.filterMap_cons,List.filterMap_nil,hf n (by omega),List.map_cons,List.map_nil]
 by_cases c:i<xs.size
 ·have hk:=key xs.size (fun m=>xs[xs.size-1-m]'(by omega)) (Nat.le_refl _) (fun m hm=>by
   have:((xs.size:Int)-1+(m:Int)*(-1)).toNat=xs.size-1-m:=by omega
   rw [this]
   exact Array.getElem?_eq_getElem (by omega))
  rw [hk,List.getElem?_map,List.getElem?_range c,List.getElem?_reverse (by simpa using c)]
  simp
 ·have h1:((List.range xs.size).filterMap fun (m:Nat)=>xs[((xs.size:Int)-1+(m:Int)*(-1)).toNat]?).length≤xs.size:=by
   have:=List.length_filterMap_le (fun (m:Nat)=>xs[((xs.size:Int)-1+(m:Int)*(-1)).toNat]?) (List.range xs.size)
   simpa using this
  rw [List.getElem?_eq_none (by omega),List.getElem?_eq_none (by simp;omega)]
end
end HT
namespace HT
open PySem PySem.Spec PyProof.Rows
section
variable {prog:Program} {w:World} {A:Around} {E:Value→Shared→Prop} {s:Shared}
theorem item_tuple_rev {t sl:Addr} {items:Array Value} {vk:Value} {Q:Value→Shared→Prop} (ht:IsTup s.heap t items) (hs:s.heap.IsSliceOf sl .none .none vk) (pk:IsPart vk (some (-1)))
  (h:Q (.ref s.heap.objs.size) { s with heap:=s.heap.push { cls:=.type "tuple",data:=.seq items.toList.reverse.toArray } })
  (hsz:items.size≤sizeLine):wpAny (model prog w) A (getItem (.ref t) (.ref sl)) Q E s:=by
 have hk:sizeOk (.seq items.toList.reverse.toArray):=by
  show items.toList.reverse.toArray.size≤sizeLine
  simpa using hsz
 obtain ⟨os,hos,hcs,hds⟩:=id hs
 have hT:s.TypeIs (.ref sl) "slice":=⟨os,hos,hcs⟩
 unfold getItem
 try with_reducible refine wpAny_holding ?_
 first | refine wpAny_bind (wpAny_pure ?_) | skip
 refine wpAny_bind (wpAny_sequenceKey ht.typeIs (by decide) ?_)
 refine wpAny_bind (wpAny_callSpecial?_slot (name:=Str.ofString "__getitem__") ht.typeIs PyProof.Rows.slot_tuple_getitem
  (wpAny_call_entry PyProof.Rows.slot_tuple_getitem ht.typeIs entry_tuple_getitem ?_ (args_tuple_getitem _ _)))
 show wpAny _ _ (Builtin.Tuple.tupleItemsOf (.ref t) >>= _) _ _ s
 refine wpAny_bind (tupleItemsOf_ ht ?_)
 refine wpAny_bind (wpAny_typeOf hT ?_)
 rw [if_pos (by decide)]
 refine wpAny_bind (applied_rev hs pk ?_)
 have hno:¬((((items.size:Int)-1)==0&&(-1:Int)==1&&items.size==items.size)=true):=by simp
 show wpAny _ _ (if ((((items.size:Int)-1)==0&&(-1:Int)==1&&items.size==items.size)=true) then _ else _) _ _ s
 rw [if_neg hno,pick_rev]
 first
  | exact wpAny_bind (m:=Builtin.Tuple.tupleExact _) (wpAny_newObj_type (wpAny_pure ⟨_,rfl,wpAny_pure h⟩) hk)
  | exact wpAny_bind (m:=Builtin.Tuple.tupleExact _) (wpAny_newObj_type (wpAny_bind (wpAny_pure (wpAny_pure ⟨_,rfl,wpAny_pure h⟩))) hk)
  | exact wpAny_bind (wpAny_bind (m:=Builtin.Tuple.tupleExact _) (wpAny_newObj_type (wpAny_pure (wpAny_pure ⟨_,rfl,wpAny_pure h⟩)) hk))
  | exact wpAny_bind (wpAny_bind (m:=Builtin.Tuple.tupleExact _) (wpAny_newObj_type (wpAny_pure ⟨_,rfl,wpAny_pure h⟩) hk))
end
end HT
namespace L2
open PySem PySem.Spec PyProof.Rows
section
variable {X:Cx} {K:PySem.W.Frag} {a b e:Expr} {te:TE} {st:Option Expr} {ts:TO} {pos p2:Pos} {Fa Fb:FE} {G Gl' Gh:FO}
def tRevT (K:PySem.W.Frag) (te:TE) (ts:TO):TE:=fun σ H Q=>te σ H fun x H1=>ts σ H1 fun k H2=>k=some (-1)∧∃a xs,x = .ref a∧SqT K H2 a xs∧∀p,H2 p=none→Q (.ref p) (upd H2 p (.tup xs.reverse))
theorem pe_revT (he:PE X e te) (hk:PO X st ts) (hop:∀a b,∃ops,subscripted (.Slice none none st p2) false a b=operate ops (getItem a b)):PE X (.Subscript e (.Slice none none st p2) pos) (tRevT X.K te ts):=by
 intro pins s σ H Q I h
 refine Subscript_ (thn (he pins s σ H _ I h) fun v s1 ⟨x,H1,I1,r1,q1⟩=>?_)
 refine wpAny_Slice ?_
 rw [evalPart_none]
 refine wpAny_pure ?_
 refine wpAny_pure ?_
 refine thn (hk pins s1 σ H1 _ I1 q1) fun vk s2 ⟨k,H2,I2,pk,q2⟩=>?_
 obtain ⟨rfl,a,xs,rfl,hx,q⟩:=q2
 have I4:Inv X pins σ H2 { s2 with heap:=s2.heap.push { cls:=.type "slice",data:=.fields #[.none,.none,vk] } }:=I2.kept (t':=s2.toks) fun b ob q=>Heap.get?_push_of_some _ q
 cases r1
 obtain ⟨its,r,ht,hz⟩:=I4.tuple hx
 have hlen:=r.length
 have hg:wpAny (model X.prog X.w) X.A (getItem (.ref a) (.ref s2.heap.objs.size)) (EP X pins σ Q) X.xe { s2 with heap:=s2.heap.push { cls:=.type "slice",data:=.fields #[.none,.none,vk] } }:=by
  refine HT.item_tuple_rev ht (Heap.IsSliceOf.new ..) pk ?_ (by rw [List.size_toArray];omega)
  refine ⟨.ref _,_,I4.laid (t':=s2.toks) (o:=.tup xs.reverse) (fun b ob q=>Heap.get?_push_of_some _ q) (Nat.le_refl _) ?_,rfl,q _ (I4.hok.fresh (Nat.le_refl _))⟩
  exact ⟨by rw [List.length_reverse];exact hz,_,r.reverse,IsTup.new _ _⟩
 obtain ⟨ops,ho⟩:=hop (.ref a) (.ref s2.heap.objs.size)
 exact tail_any (ops:=ops) ht.typeIs PyProof.Rows.slot_tuple_getitem.lookup hg ho
def fRevT (Fa:FE) (G:FO):FE:=fun E Q=>Fa E fun x E1=>G E1 fun k E2=>k=some (-1)∧match vl E2 x with
 | some (.tup xs)=>Q (.p (.tup xs.reverse)) E2
 | _=>False
theorem fe_revT (eK:X.K=K) (he:QE X e (simE K Fa)) (hk:QO X st (simO K G)) (hop:∀a b,∃ops,subscripted (.Slice none none st p2) false a b=operate ops (getItem a b):=by exact fun _ _=>⟨_,by with_unfolding_all rfl⟩):QE X (.Subscript e (.Slice none none st p2) pos) (simE K (fRevT Fa G)):=by
 subst eK
 refine QE.le (t:=tRevT X.K (simE X.K Fa) (simO X.K G)) ⟨pe_revT he.h hk.h hop⟩ fun σ H Q _ ⟨B,S,E,Q',⟨τ,hS⟩,re,hF,lk⟩=>⟨B,S,E,_,⟨τ,hS⟩,re,hF,fun x E1 v H1 S1 q g1 re1 rx=>?_⟩
 obtain ⟨τ1,hS1⟩:=g1.pre
 refine ⟨B,S1,E1,_,⟨τ++τ1,by rw [hS1,hS,List.append_assoc]⟩,re1,q,fun l E2 H2 S2 q2 g2 re2=>?_⟩
 have rx2:=rx.step g2
 obtain ⟨hk1,q2⟩:=q2
 refine ⟨hk1,?_⟩
 split at q2
 ·rename_i xs e1
  obtain ⟨a,vs,e2,sq,rs⟩:=re2.vl rx2 e1
  refine ⟨a,vs,e2,sq,fun p hp=>?_⟩
  obtain ⟨g,re',rp⟩:=re2.tup hp rs.reverse
  exact lk _ _ _ _ _ q2 ((g1.trans g2).trans g) re' rp
 ·exact q2.elim
def fSlT (Fa:FE) (Gl' Gh:FO):FE:=fun E Q=>Fa E fun x E1=>Gl' E1 fun lo E2=>Gh E2 fun hi E3=>match vl E3 x with
 | some (.tup xs)=>¬(HT.sIx xs.length 0 lo=0∧HT.sIx xs.length xs.length hi=xs.length)∧Q (.p (.tup (cutT xs lo hi))) E3
 | _=>False
theorem fe_sliceT {lo hi:Option Expr} (eK:X.K=K) (he:QE X e (simE K Fa)) (hl:QO X lo (simO K Gl')) (hu:QO X hi (simO K Gh)):QE X (.Subscript e (.Slice lo hi none p2) pos) (simE K (fSlT Fa Gl' Gh)):=by
 subst eK
 refine (qe_slice sl_tup he hl hu).le fun σ H Q _ ⟨B,S,E,Q',⟨τ,hS⟩,re,hF,lk⟩=>⟨B,S,E,_,⟨τ,hS⟩,re,hF,fun x E1 v H1 S1 q g1 re1 rx=>?_⟩
 obtain ⟨τ1,hS1⟩:=g1.pre
 refine ⟨B,S1,E1,_,⟨τ++τ1,by rw [hS1,hS,List.append_assoc]⟩,re1,q,fun l E2 H2 S2 q2 g2 re2=>?_⟩
 obtain ⟨τ2,hS2⟩:=g2.pre
 refine ⟨B,S2,E2,_,⟨τ++τ1++τ2,by rw [hS2,hS1,hS,List.append_assoc,List.append_assoc,List.append_assoc]⟩,re2,q2,fun h E3 H3 S3 q3 g3 re3=>?_⟩
 have rx3:=(rx.step g2).step g3
 split at q3
 ·rename_i xs e1
  obtain ⟨a,vs,e2,sq,rs⟩:=re3.vl rx3 e1
  obtain ⟨nw,q3⟩:=q3
  refine ⟨a,vs,e2,sq,by rw [rs.length];exact nw,fun p hp=>?_⟩
  obtain ⟨g,re',rp⟩:=re3.tup hp (cut_rp (lo:=l) (hi:=h) rs)
  exact lk _ _ _ _ _ q3 (((g1.trans g2).trans g3).trans g) re' rp
 ·exact q3.elim
def fCatT (Fa Fb:FE):FE:=fun E Q=>Fa E fun x E1=>Fb E1 fun y E2=>match vl E2 x,vl E2 y with
 | some (.tup (t::xs)),some (.tup (u::ys))=>xs.length+ys.length≤900∧Q (.p (.tup (t::xs++u::ys))) E2
 | some (.tup (_::xs)),some (.tup [])=>xs.length≤900∧Q x E2
 | _,_=>False
theorem fe_catT (eK:X.K=K) (ha:QE X a (simE K Fa)) (hb:QE X b (simE K Fb)):QE X (.BinOp a .Add b pos) (simE K (fCatT Fa Fb)):=by
 subst eK
 refine (qe_op op_catT ha hb).le fun σ H Q hl h=>two (Fa:=Fa) (Fb:=Fb) h fun B S E x y v w H2 Q' hS re rx ry q lk=>?_
 split at q
 ·rename_i t xs u ys e1 e2
  obtain ⟨hz,q⟩:=q
  obtain ⟨p,vs,rfl,sq,rs⟩:=re.vl rx e1
  obtain ⟨p',vs',rfl,sq',rs'⟩:=re.vl ry e2
  have l1:=rs.length
  have l2:=rs'.length
  rw [List.length_cons] at l1 l2
  refine ⟨p,p',vs,vs',rfl,rfl,sq,sq',fun z=>by rw [z] at l1;simp at l1,Nat.le_of_lt (small1000 (by omega)),fun z=>by rw [z] at l2;simp at l2,fun _ r hr=>?_⟩
  obtain ⟨g,re',rp⟩:=re.tup hr (rs.append rs')
  exact lk _ _ _ _ _ q g re' rp
 ·rename_i t xs e1 e2
  obtain ⟨hz,q⟩:=q
  obtain ⟨p,vs,rfl,sq,rs⟩:=re.vl rx e1
  obtain ⟨p',vs',rfl,sq',rs'⟩:=re.vl ry e2
  have l1:=rs.length
  have l2:=rs'.length
  rw [List.length_cons] at l1
  rw [List.length_nil] at l2
  exact ⟨p,p',vs,vs',rfl,rfl,sq,sq',fun z=>by rw [z] at l1;simp at l1,Nat.le_of_lt (small1000 (by omega)),fun _=>lk _ _ _ _ _ q .refl re rx,fun z=>absurd (List.length_eq_zero_iff.mp l2) z⟩
 ·exact q.elim
end
end L2
set_option Elab.async false
set_option linter.all false
set_option maxRecDepth 100000
set_option maxHeartbeats 4000000
namespace L2
open PySem PySem.Spec PyProof.Rows
section
variable {X:Cx} {K:PySem.W.Frag} {e:Expr} {Fa:FE}
end
end L2
set_option Elab.async false
set_option linter.all false
set_option maxRecDepth 100000
set_option maxHeartbeats 4000000
namespace L2
open PySem PySem.Spec PyProof.Rows
mutual
def dataT:T→PyData
 | .non=>.none
 | .bl b=>.bool b
 | .int i=>.int i
 | .str x=>.str x
 | .tup xs=>.tuple (dataTs xs)
 | .lst xs=>.list (dataTs xs)
def dataTs:List T→List PyData
 | []=>[]
 | x::xs=>dataT x::dataTs xs
end
mutual
def shT:T→Bool
 | .int i=>decide (i.natAbs.log2<1920)
 | .tup xs=>shTs xs
 | .lst xs=>shTs xs
 | _=>true
def shTs:List T→Bool
 | []=>true
 | x::xs=>shT x&&shTs xs
end
mutual
def lenB:T→Nat
 | .non=>4
 | .bl _=>5
 | .int _=>1921
 | .str x=>(reprText x).length
 | .tup xs=>lenBs xs+3
 | .lst xs=>lenBs xs+3
def lenBs:List T→Nat
 | []=>0
 | x::xs=>lenB x+2+lenBs xs
end
mutual
theorem sh_ok:∀{t:T},shT t=true→(dataT t).showable=true
 | .non,_=>rfl
 | .bl _,_=>rfl
 | .int i,h=>h
 | .str _,_=>rfl
 | .tup xs,h=>shs_ok (xs:=xs) h
 | .lst xs,h=>shs_ok (xs:=xs) h
theorem shs_ok:∀{xs:List T},shTs xs=true→PyData.showableAll (dataTs xs)=true
 | [],_=>rfl
 | x::xs,h=>by
  have h':shT x=true∧shTs xs=true:=by simpa [shTs] using h
  show ((dataT x).showable&&PyData.showableAll (dataTs xs))=true
  rw [sh_ok h'.1,shs_ok h'.2];rfl
end
mutual
theorem nd_ok:∀t:T,(dataT t).hasDict=false
 | .non=>rfl
 | .bl _=>rfl
 | .int _=>rfl
 | .str _=>rfl
 | .tup xs=>nds_ok xs
 | .lst xs=>nds_ok xs
theorem nds_ok:∀xs:List T,PyData.hasDictAll (dataTs xs)=false
 | []=>rfl
 | x::xs=>by
  show ((dataT x).hasDict||PyData.hasDictAll (dataTs xs))=false
  rw [nd_ok x,nds_ok xs];rfl
end
mutual
theorem dep_ok:∀t:T,(dataT t).depth≤dT t
 | .non=>Nat.le_refl _
 | .bl _=>Nat.le_refl _
 | .int _=>Nat.le_refl _
 | .str _=>Nat.le_refl _
 | .tup xs=>by have:=deps_ok xs;simp only [dataT,PyData.depth,dT];omega
 | .lst xs=>by have:=deps_ok xs;simp only [dataT,PyData.depth,dT];omega
theorem deps_ok:∀xs:List T,PyData.depthAll (dataTs xs)≤dTs xs
 | []=>Nat.le_refl _
 | x::xs=>by
  have h1:=dep_ok x
  have h2:=deps_ok xs
  simp only [dataTs,PyData.depthAll,dTs]
  exact Nat.max_le.mpr ⟨Nat.le_trans h1 (Nat.le_max_left _ _),Nat.le_trans h2 (Nat.le_max_right _ _)⟩
end
section
variable {X:Cx} {pins:List (Addr×Obj)} {σ:St} {H:Hp} {s:Shared} {O:Addr→Prop}
end
section
variable {X:Cx} {K:PySem.W.Frag} {e:Expr} {es:List Expr} {pos:Pos} {Fr:FA}
end
end L2
set_option Elab.async false
set_option linter.all false
set_option maxRecDepth 100000
set_option maxHeartbeats 4000000
namespace L2
open PySem PySem.Spec PyProof.Rows
section
variable {X:Cx} {K:PySem.W.Frag} {o:Expr} {pos ap:Pos} {Fa:FE}
def fBits (Fa:FE):FE:=fun E Q=>Fa E fun x E1=>i1 (vl E1 x) fun i=>Q (.p (.int (Builtin.Int.intBits i:Int))) E1
theorem fe_bits (ho:QE X o (simE K Fa)) (hbase:attributeBase o "bit_length" X.env (eval o X.env)=eval o X.env:=by rfl) (hline:(ap.endLine==pos.line)=true:=by rfl) :
  QE X (.Call (.Attribute o "bit_length" ap) [] [] pos) (simE K (fBits Fa)):=by
 refine (qe_bits ho hbase hline).le fun σ H Q hl h=>one (Fa:=Fa) h fun B S E x v H2 Q' hS re rx q lk=>?_
 obtain ⟨i,e1,q⟩:=q.ex
 have ev:=re.int rx e1
 subst ev
 exact ⟨rfl,i,rfl,rfl,lk _ _ _ _ _ q .refl re rfl⟩
end
end L2
set_option Elab.async false
set_option linter.all false
namespace L2
open PySem PySem.Spec PyProof.Rows
section
variable {X:Cx} {pins:List (Addr×Obj)} {σ:St} {H:Hp} {s:Shared} {a:Addr} {y d:V} {u r:Value} {o:Option V} {A:Around} {E:Value→Shared→Prop}
end
section
variable {X:Cx} {o e f:Expr} {apos cpos:Pos} {td ty tx:TE}
end
end L2
set_option Elab.async false
set_option linter.all false
set_option maxRecDepth 100000
set_option maxHeartbeats 4000000
namespace L2
open PySem PySem.Spec PyProof.Rows
section
variable {K:PySem.W.Frag} {H:Hp} {O:Addr→Prop}
end
section
variable {X:Cx} {K:PySem.W.Frag} {pos:Pos} {Fi F:FE} {l:List (Str×FE)}
end
end L2
set_option Elab.async false
set_option linter.all false
set_option maxRecDepth 100000
set_option maxHeartbeats 4000000
namespace L2
open PySem PySem.Spec PyProof.Rows
section
variable {X:Cx} {tg:Expr}
end
section
variable {X:Cx} {K:PySem.W.Frag} {a b c:Expr} {pos:Pos} {Fr:FA}
end
end L2
set_option Elab.async false
set_option linter.all false
set_option maxRecDepth 100000
set_option maxHeartbeats 4000000
namespace L2
open PySem PySem.Spec PyProof.Rows
section
variable {K:PySem.W.Frag} {B:Addr→Prop} {H:Hp} {S:St} {E:En} {σ:St}
end
section
variable {X:Cx} {K:PySem.W.Frag} {a b:Expr} {pos:Pos} {Fr:FA}
end
end L2
set_option Elab.async false
set_option linter.all false
set_option maxRecDepth 100000
set_option maxHeartbeats 4000000
namespace L2
open PySem PySem.Spec PyProof.Rows
section
variable {X:Cx} {e:Expr} {es:List Expr} {pos:Pos} {K:PySem.W.Frag} {Fr:FA}
end
end L2
set_option Elab.async false
set_option linter.all false
set_option maxRecDepth 100000
set_option maxHeartbeats 4000000
namespace L2
open PySem PySem.Spec PyProof.Rows
section
variable {X:Cx} {K:PySem.W.Frag} {pos pos':Pos} {Fi:FE} {x k1 v1 k2 v2:Str} {i:Expr} {ty:TE}
end
end L2
set_option Elab.async false
set_option linter.all false
set_option maxRecDepth 100000
set_option maxHeartbeats 4000000
namespace L2
open PySem PySem.Spec PyProof.Rows
section
variable {X:Cx} {K:PySem.W.Frag} {pos:Pos} {Fr:FA}
end
end L2
set_option Elab.async false
set_option linter.all false
set_option maxRecDepth 100000
set_option maxHeartbeats 4000000
namespace L2
open PySem PySem.Spec PyProof.Rows
section
variable {X:Cx}
theorem op_notB:OpR X (compareOp .IsNot) (fun x y H Q=>∃b c,x = .bl b∧y = .bl c∧Q (.bl (!decide (b=c))) H):=by
 intro pins s σ H x y v u Q I rx ry h
 obtain ⟨b,c,rfl,rfl,q⟩:=h
 cases rx
 cases ry
 have e:wpAny (model X.prog X.w) X.A (compareOp .IsNot (.bool b) (.bool c)) (EP X pins σ Q) X.xe s:=by
  cases b<;>cases c<;>exact wpAny_pure (fin_bl I q (by decide))
 exact e
end
section
variable {X:Cx} {K:PySem.W.Frag} {pos:Pos} {Fr:FA} {Fa:FE} {e a:Expr} {es:List Expr}
def fNotB (c:Bool) (Fa:FE):FE:=fun E Q=>Fa E fun x E1=>b1 (vl E1 x) fun i=>Q (.p (.bl (!decide (i=c)))) E1
theorem ft_notB {c:Bool} {j p2} (ha:QE X a (simE K Fa)) (hm:behindInMarks .IsNot (.Constant (.bool c) j p2)=false):QT X (.Compare a [.IsNot] [.Constant (.bool c) j p2] pos) (simB K (bVal (fNotB c Fa))):=
 (qt_cmpR op_notB ha qe_bl hm).le fun σ H Q h=>one (Fa:=Fa) (b_of h) fun B S E x v H2 Q' hS re rx q lk=>by
  obtain ⟨i,e1,q⟩:=q.ex
  exact ⟨i,c,re.bl rx e1,rfl,lk _ _ _ _ _ q .refl re rfl⟩
end
end L2
set_option Elab.async false
set_option linter.all false
set_option maxRecDepth 100000
set_option maxHeartbeats 4000000
namespace L2
open PySem PySem.Spec PyProof.Rows
section
variable {X:Cx} {K:PySem.W.Frag} {pos:Pos} {Fi Fd F:FE} {l:List (Str×FE)}
end
end L2
set_option Elab.async false
set_option linter.all false
set_option maxRecDepth 100000
set_option maxHeartbeats 4000000
namespace L2
open PySem PySem.Spec PyProof.Rows
section
variable {X:Cx} {K:PySem.W.Frag} {e:Expr} {es:List Expr} {pos:Pos} {Fr:FA}
end
end L2
set_option Elab.async false
set_option linter.all false
set_option maxRecDepth 100000
set_option maxHeartbeats 4000000
namespace L2
open PySem PySem.Spec PyProof.Rows
section
variable {X:Cx}
end
section
variable {X:Cx} {K:PySem.W.Frag} {Fe:FE} {Fb:FB} {g:FG} {I:FI}
end
end L2
set_option Elab.async false
set_option linter.all false
set_option maxRecDepth 100000
set_option maxHeartbeats 4000000
namespace HT
open PySem PySem.Spec PyProof.Rows
section
variable {prog:Program} {w:World} {A:Around} {E:Value→Shared→Prop} {s:Shared}
theorem getItem_tuple_whole {t sl:Addr} {items:Array Value} {vl vu:Value} {lo hi:Option Int} {Q:Value→Shared→Prop} (ht:IsTup s.heap t items) (hs:s.heap.IsSliceOf sl vl vu .none) (pl:IsPart vl lo) (pu:IsPart vu hi)
  (hw:sIx items.size 0 lo=0∧sIx items.size items.size hi=items.size)
  (h:Q (.ref t) s)
  (hsz:items.size≤sizeLine):wpAny (model prog w) A (getItem (.ref t) (.ref sl)) Q E s:=by
 have hj:sIx items.size items.size hi≤items.size:=sIx_le _ _ (Nat.le_refl _) hi
 obtain ⟨os,hos,hcs,hds⟩:=id hs
 have hTs:s.TypeIs (.ref sl) "slice":=⟨os,hos,hcs⟩
 unfold getItem
 try with_reducible refine wpAny_holding ?_
 first | refine wpAny_bind (wpAny_pure ?_) | skip
 refine wpAny_bind (wpAny_sequenceKey ht.typeIs (by decide) ?_)
 refine wpAny_bind (wpAny_callSpecial?_slot (name:=Str.ofString "__getitem__") ht.typeIs PyProof.Rows.slot_tuple_getitem
  (wpAny_call_entry PyProof.Rows.slot_tuple_getitem ht.typeIs entry_tuple_getitem ?_ (args_tuple_getitem _ _)))
 show wpAny _ _ (Builtin.Tuple.tupleItemsOf (.ref t) >>= _) _ _ s
 refine wpAny_bind (tupleItemsOf_ ht ?_)
 refine wpAny_bind (wpAny_typeOf hTs ?_)
 rw [if_pos (by decide)]
 refine wpAny_bind (sliceApplied_gen hs pl pu ?_)
 have hyes:(((sIx items.size 0 lo:Nat):Int)==0&&(1:Int)==1&&(sIx items.size items.size hi-sIx items.size 0 lo)==items.size)=true:=by
  rw [hw.1,hw.2];simp
 show wpAny _ _ (if (((sIx items.size 0 lo:Nat):Int)==0&&(1:Int)==1&&(sIx items.size items.size hi-sIx items.size 0 lo)==items.size)=true then _ else _) _ _ s
 rw [if_pos hyes]
 unfold Builtin.Tuple.tupleIsExact
 refine wpAny_bind (wpAny_bind (wpAny_typeOf ht.typeIs (wpAny_pure ?_)))
 rw [if_pos (by decide)]
 refine wpAny_bind (wpAny_rule ?_)
 exact wpAny_pure ⟨_,rfl,wpAny_pure h⟩
theorem cat_tup0 {t b:Addr} {vs ws:List Value} {Q:Value→Shared→Prop} (ht:IsTup s.heap t vs.toArray) (hb:IsTup s.heap b ws.toArray) (hv:vs=[]) (h0:Q (.ref b) s):wpAny (model prog w) A (binaryOp .Add (.ref t) (.ref b)) Q E s:=by
 obtain ⟨⟨cls,dd,data,sl⟩,ho,hc,n,hd⟩:=id ht
 obtain ⟨⟨cls2,dd2,data2,sl2⟩,ho2,hc2,n2,hd2⟩:=id hb
 simp only at hc hd hc2 hd2
 subst hc hd hc2 hd2
 exact concat_meets ⟨_,ho,rfl⟩ ⟨_,ho2,rfl⟩ noFill_tuple_add seq_tuple_add PySem.F.slot_tuple_add PySem.F.entry_tuple_add (PySem.F.args_tuple_add_2 _ _)
  (tuple_addW0 t b vs.toArray ws.toArray n n2 dd dd2 sl sl2 (by simp [hv])) ⟨ho,ho2,h0⟩
end
end HT
namespace L2
open PySem PySem.Spec PyProof.Rows
section
variable {X:Cx} {K:PySem.W.Frag} {a b e:Expr} {pos p2:Pos} {Fa Fb:FE} {Gl' Gh:FO}
def rSlG (K:PySem.W.Frag):V→Option Int→Option Int→Hp→VK→Prop:=fun x lo hi H Q=>∃a xs,x = .ref a∧SqT K H a xs∧
 ((HT.sIx xs.length 0 lo=0∧HT.sIx xs.length xs.length hi=xs.length)→Q (.ref a) H)∧(¬(HT.sIx xs.length 0 lo=0∧HT.sIx xs.length xs.length hi=xs.length)→∀p,H p=none→Q (.ref p) (upd H p (.tup (cutV xs lo hi))))
theorem sl_tupG:SlR X (rSlG X.K):=by
 intro pins s σ H x v vl vu lo hi sl Q I rx hs pl pu h
 obtain ⟨a,xs,rfl,hx,q1,q2⟩:=h
 by_cases hw:HT.sIx xs.length 0 lo=0∧HT.sIx xs.length xs.length hi=xs.length
 ·cases rx
  obtain ⟨its,r,ht,hz⟩:=I.tuple hx
  have hlen:its.toArray.size=xs.length:=by rw [List.size_toArray];exact r.length.symm
  refine ⟨"tuple",_,PyProof.Rows.slot_tuple_getitem.lookup,ht.typeIs,?_⟩
  refine HT.getItem_tuple_whole ht hs pl pu (by rw [hlen];exact hw) ?_ (by rw [hlen];exact hz)
  exact ⟨.ref a,_,I,rfl,q1 hw⟩
 ·exact sl_tup pins s σ H _ v vl vu lo hi sl Q I rx hs pl pu ⟨a,xs,rfl,hx,hw,q2 hw⟩
theorem cut_whole {xs:List T} {lo hi:Option Int} (h:HT.sIx xs.length 0 lo=0∧HT.sIx xs.length xs.length hi=xs.length):cutT xs lo hi=xs:=by
 unfold cutT
 rw [h.1,h.2,List.drop_zero,Nat.sub_zero,List.take_length]
def fSlG (Fa:FE) (Gl' Gh:FO):FE:=fun E Q=>Fa E fun x E1=>Gl' E1 fun lo E2=>Gh E2 fun hi E3=>match x with
 | .p (.tup xs)=>Q (.p (.tup (cutT xs lo hi))) E3
 | _=>False
theorem fe_sliceG {lo hi:Option Expr} (eK:X.K=K) (he:QE X e (simE K Fa)) (hl:QO X lo (simO K Gl')) (hu:QO X hi (simO K Gh)):QE X (.Subscript e (.Slice lo hi none p2) pos) (simE K (fSlG Fa Gl' Gh)):=by
 subst eK
 refine (qe_slice sl_tupG he hl hu).le fun σ H Q _ ⟨B,S,E,Q',⟨τ,hS⟩,re,hF,lk⟩=>⟨B,S,E,_,⟨τ,hS⟩,re,hF,fun x E1 v H1 S1 q g1 re1 rx=>?_⟩
 obtain ⟨τ1,hS1⟩:=g1.pre
 refine ⟨B,S1,E1,_,⟨τ++τ1,by rw [hS1,hS,List.append_assoc]⟩,re1,q,fun l E2 H2 S2 q2 g2 re2=>?_⟩
 obtain ⟨τ2,hS2⟩:=g2.pre
 refine ⟨B,S2,E2,_,⟨τ++τ1++τ2,by rw [hS2,hS1,hS,List.append_assoc,List.append_assoc,List.append_assoc]⟩,re2,q2,fun h E3 H3 S3 q3 g3 re3=>?_⟩
 have rx3:=(rx.step g2).step g3
 split at q3
 ·rename_i xs
  have rx3:Rp X.K H3 (Ow B S3 E3) (.tup xs) v:=rx3
  obtain ⟨a,vs,rfl,sq,rs⟩:=rx3.sqT
  have ln:=rs.length
  refine ⟨a,vs,rfl,sq,fun hw=>?_,fun hw p hp=>?_⟩
  ·rw [ln] at hw
   rw [cut_whole hw] at q3
   exact lk _ _ _ _ _ q3 ((g1.trans g2).trans g3) re3 rx3
  ·obtain ⟨g,re',rp⟩:=re3.tup hp (cut_rp (lo:=l) (hi:=h) rs)
   exact lk _ _ _ _ _ q3 (((g1.trans g2).trans g3).trans g) re' rp
 ·exact q3.elim
def rCatG (K:PySem.W.Frag):R2:=fun x y H Q=>∃a b xs ys,x = .ref a∧y = .ref b∧SqT K H a xs∧SqT K H b ys∧xs.length+ys.length≤sizeLine∧
 (xs=[]→Q (.ref b) H)∧(xs≠[]→ys=[]→Q (.ref a) H)∧(xs≠[]→ys≠[]→∀p,H p=none→Q (.ref p) (upd H p (.tup (xs++ys))))
theorem op_catG:OpR X (binaryOp .Add) (rCatG X.K):=by
 intro pins s σ H x y v u Q I rx ry h
 obtain ⟨a,b,xs,ys,rfl,rfl,ha,hb,hz,q0,q1,q2⟩:=h
 by_cases hx:xs=[]
 ·cases rx
  cases ry
  obtain ⟨its,r1,p1,_⟩:=I.tuple ha
  obtain ⟨its2,r2,p2,_⟩:=I.tuple hb
  exact HT.cat_tup0 p1 p2 (r1.nil_iff.mpr hx) ⟨.ref b,H,I,rfl,q0 hx⟩
 ·exact op_catT pins s σ H _ _ v u Q I rx ry ⟨a,b,xs,ys,rfl,rfl,ha,hb,hx,hz,q1 hx,q2 hx⟩
def fCatG (Fa Fb:FE):FE:=fun E Q=>Fa E fun x E1=>Fb E1 fun y E2=>match x,y with
 | .p (.tup xs),.p (.tup ys)=>xs.length+ys.length≤900∧Q (.p (.tup (xs++ys))) E2
 | _,_=>False
theorem fe_catG (eK:X.K=K) (ha:QE X a (simE K Fa)) (hb:QE X b (simE K Fb)):QE X (.BinOp a .Add b pos) (simE K (fCatG Fa Fb)):=by
 subst eK
 refine (qe_op op_catG ha hb).le fun σ H Q hl h=>two (Fa:=Fa) (Fb:=Fb) h fun B S E x y v w H2 Q' hS re rx ry q lk=>?_
 split at q
 ·rename_i xs ys
  obtain ⟨hz,q⟩:=q
  have rx:Rp X.K H2 (Ow B S E) (.tup xs) v:=rx
  have ry:Rp X.K H2 (Ow B S E) (.tup ys) w:=ry
  obtain ⟨p,vs,rfl,sq,rs⟩:=rx.sqT
  obtain ⟨p',vs',rfl,sq',rs'⟩:=ry.sqT
  have l1:=rs.length
  have l2:=rs'.length
  refine ⟨p,p',vs,vs',rfl,rfl,sq,sq',Nat.le_of_lt (small1000 (by omega)),fun z=>?_,fun _ z=>?_,fun _ _ r hr=>?_⟩
  ·have e:xs=[]:=List.length_eq_zero_iff.mp (by rw [←l1,z];rfl)
   subst e
   exact lk _ _ _ _ _ q .refl re ry
  ·have e:ys=[]:=List.length_eq_zero_iff.mp (by rw [←l2,z];rfl)
   subst e
   rw [List.append_nil] at q
   exact lk _ _ _ _ _ q .refl re rx
  ·obtain ⟨g,re',rp⟩:=re.tup hr (rs.append rs')
   exact lk _ _ _ _ _ q g re' rp
 ·exact q.elim
end
end L2
set_option Elab.async false
set_option linter.all false
set_option maxRecDepth 100000
set_option maxHeartbeats 4000000
namespace L2
open PySem PySem.Spec PyProof.Rows
section
variable {prog:Program} {w:World} {A:Around} {E:Value→Shared→Prop} {s:Shared}
end
section
variable {X:Cx} {K:PySem.W.Frag} {e:Expr} {es:List Expr} {pos:Pos} {Fr:FA}
end
end L2
set_option Elab.async false
set_option linter.all false
set_option maxRecDepth 100000
set_option maxHeartbeats 4000000
namespace L2
open PySem PySem.Spec PyProof.Rows
def s1 (x:Option T) (k:Str→Prop):Prop:=match x with
 | some (.str i)=>k i
 | _=>False
theorem s1.ex {x:Option T} {k:Str→Prop} (h:s1 x k):∃i,x=some (.str i)∧k i:=by
 unfold s1 at h;split at h
 ·exact ⟨_,rfl,h⟩
 ·exact h.elim
def s2 (x y:Option T) (k:Str→Str→Prop):Prop:=match x,y with
 | some (.str i),some (.str j)=>k i j
 | _,_=>False
theorem s2.ex {x y:Option T} {k:Str→Str→Prop} (h:s2 x y k):∃i j,x=some (.str i)∧y=some (.str j)∧k i j:=by
 unfold s2 at h;split at h
 ·exact ⟨_,_,rfl,rfl,h⟩
 ·exact h.elim
abbrev big:Nat:=1000000
theorem big_ok {n:Nat} (h:n≤big):n≤sizeLine:=by rw [sizeLine_eq];unfold big at h;omega
section
variable {K:PySem.W.Frag} {B:Addr→Prop} {H:Hp} {S:St} {E:En}
theorem RE.str (re:RE K B H S E) {r:R} {v:V} {i:Str} (h:RR K B H S E r v) (e:L2.vl E r=some (.str i)):v = .str i:=re.vl h e
end
section
variable {X:Cx} {K:PySem.W.Frag} {pos:Pos} {a b c e o:Expr} {es:List Expr} {Fa Fb Fc Fo:FE} {Fr:FA}
def fCatS (Fa Fb:FE):FE:=fun E Q=>Fa E fun x E1=>Fb E1 fun y E2=>s2 (vl E2 x) (vl E2 y) fun i j=>i.length+j.length≤big∧∀z,z=i++j→Q (.p (.str z)) E2
theorem fe_catS (ha:QE X a (simE K Fa)) (hb:QE X b (simE K Fb)):QE X (.BinOp a .Add b pos) (simE K (fCatS Fa Fb)):=by
 refine (qe_op op_add_str ha hb).le fun σ H Q hl h=>two h fun B S E x y v w H2 Q' hS re rx ry q lk=>?_
 obtain ⟨i,j,e1,e2,c,q⟩:=q.ex
 exact ⟨i,j,re.str rx e1,re.str ry e2,big_ok c,lk _ _ _ _ _ (q _ rfl) .refl re rfl⟩
end
end L2
set_option Elab.async false
set_option linter.all false
set_option maxRecDepth 100000
set_option maxHeartbeats 4000000
namespace L2
open PySem PySem.Spec PyProof.Rows
section
variable {X:Cx} {K:PySem.W.Frag} {pos ap:Pos} {e o:Expr} {es:List Expr} {Fo:FE} {Fr:FA} {name:Str} {id:String}
end
end L2
set_option Elab.async false
set_option linter.all false
set_option maxRecDepth 100000
set_option maxHeartbeats 4000000
namespace L2
open PySem PySem.Spec PyProof.Rows
section
variable {X:Cx} {K:PySem.W.Frag} {pos:Pos} {a b c e o:Expr} {es:List Expr} {Fa Fb Fc Fo:FE} {Fr:FA} {Gl' Gh G:FO}
def rSlS:V→Option Int→Option Int→Hp→VK→Prop:=fun x lo hi H Q=>∃z,x = .str z∧z.length≤sizeLine∧Q (.str (Txt.slice z lo hi)) H
theorem part_of {v:Value} {o:Option Int} (p:IsPart v o):∃q:Option (Int×Tok),v=partValue q∧q.map (·.1)=o:=by
 cases p with
 | none=>exact ⟨none,rfl,rfl⟩
 | int i t=>exact ⟨some (i,t),rfl,rfl⟩
theorem sl_str:SlR X rSlS:=by
 intro pins s σ H x v vl vu lo hi sl Q I rx hs pl pu h
 obtain ⟨z,rfl,hz,q⟩:=h
 obtain ⟨t,rfl⟩:=rx
 obtain ⟨l,rfl,el⟩:=part_of pl
 obtain ⟨u,rfl,eu⟩:=part_of pu
 refine ⟨"str",_,PySem.F.slot_str_getitem.lookup,typeIs_str _ _ _,wpAny_getItem_str_slice (l:=l) (u:=u) (st:=none) hs rfl ?_⟩
 have e:(sliceMade z t l u none)=if ((1:Int)==1&&(Builtin.Str.strSliceIndices lo hi 1 z.length).length==z.length)=true then .val (.str z t) else .str ⟨((Builtin.Str.strSliceIndices lo hi 1 z.length).filterMap (z.cps[·]?)).toArray⟩:=by
  subst el;subst eu;rfl
 rw [e]
 exact post_val_or_str ⟨Nat.le_trans (Txt.slice_le z lo hi) hz,fun t' k=>⟨.str _,H,I.tok _,⟨_,rfl⟩,q⟩⟩
def fSlS (Fa:FE) (Gl' Gh:FO):FE:=fun E Q=>Fa E fun x E1=>s1 (vl E1 x) fun z=>Gl' E1 fun lo E2=>Gh E2 fun hi E3=>z.length≤big∧∀y,y=Txt.slice z lo hi→Q (.p (.str y)) E3
theorem fe_sliceS {lo hi:Option Expr} {p2:Pos} (he:QE X e (simE K Fa)) (hl:QO X lo (simO K Gl')) (hu:QO X hi (simO K Gh)):QE X (.Subscript e (.Slice lo hi none p2) pos) (simE K (fSlS Fa Gl' Gh)):=by
 refine (qe_slice sl_str he hl hu).le fun σ H Q _ ⟨B,S,E,Q',⟨τ,hS⟩,re,hF,lk⟩=>⟨B,S,E,_,⟨τ,hS⟩,re,hF,fun x E1 v H1 S1 q g1 re1 rx=>?_⟩
 obtain ⟨z,ez,q⟩:=s1.ex q
 have ev:=re1.str rx ez
 obtain ⟨τ1,hS1⟩:=g1.pre
 refine ⟨B,S1,E1,_,⟨τ++τ1,by rw [hS1,hS,List.append_assoc]⟩,re1,q,fun l E2 H2 S2 q2 g2 re2=>?_⟩
 obtain ⟨τ2,hS2⟩:=g2.pre
 refine ⟨B,S2,E2,_,⟨τ++τ1++τ2,by rw [hS2,hS1,hS,List.append_assoc,List.append_assoc,List.append_assoc]⟩,re2,q2,fun h E3 H3 S3 q3 g3 re3=>?_⟩
 exact ⟨z,ev,big_ok q3.1,lk _ _ _ _ _ (q3.2 _ rfl) ((g1.trans g2).trans g3) re3 rfl⟩
end
end L2
set_option Elab.async false
set_option linter.all false
set_option maxRecDepth 100000
set_option maxHeartbeats 4000000
namespace L2
open PySem PySem.Spec PySem.W PySem.Calls PyProof.Rows PySem.Builtin.ObjectAttr
section
variable {prog:Program} {w:World} {A:Around} {E:Value→Shared→Prop} {s:Shared} {K:PySem.W.Frag} {x C:Addr} {ox:Obj} {odo:Option Obj} {name:Str}
end
end L2
set_option Elab.async false
set_option linter.all false
set_option maxRecDepth 100000
set_option maxHeartbeats 4000000
namespace L2
open PySem PySem.Spec PySem.W PySem.Calls PyProof.Rows PySem.Builtin.ObjectAttr
section
variable {prog:Program} {w:World} {A:Around} {E:Value→Shared→Prop} {s:Shared} {K:PySem.W.Frag} {x C:Addr} {vs:Array Value} {name:Str}
end
end L2
set_option Elab.async false
set_option linter.all false
set_option maxRecDepth 100000
set_option maxHeartbeats 4000000
namespace L2
open PySem PySem.Spec PySem.W PySem.Calls PyProof.Rows PySem.Builtin.ObjectAttr
section
variable {prog:Program} {w:World} {A:Around} {E:Value→Shared→Prop} {s:Shared} {K:PySem.W.Frag} {x C:Addr} {name:Str}
end
end L2
set_option Elab.async false
set_option linter.all false
set_option maxRecDepth 100000
set_option maxHeartbeats 4000000
namespace L2
open PySem PySem.Spec PySem.W PySem.Calls PyProof.Rows PySem.Builtin.ObjectAttr
section
variable {prog:Program} {w:World} {A:Around} {E:Value→Shared→Prop} {s:Shared} {K:PySem.W.Frag} {C:Addr}
end
end L2
set_option Elab.async false
set_option linter.all false
set_option maxRecDepth 100000
set_option maxHeartbeats 4000000
namespace L2
open PySem PySem.Spec PySem.W PySem.Calls PyProof.Rows PySem.Builtin.ObjectAttr
variable {cb:Bool}
section
variable {M:Model} {A:Around} {E:Value→Shared→Prop} {s:Shared} {base:Heap} {env:Env} {outer:List Env} {L x:Addr} {oe:Obj} {vs:Array Value}
end
end L2
set_option Elab.async false
set_option linter.all false
set_option maxRecDepth 100000
set_option maxHeartbeats 4000000
namespace L2
open PySem PySem.Spec PySem.W PySem.Calls PyProof.Rows PySem.Builtin.ObjectAttr
section
variable {prog:Program} {w:World} {A:Around} {E:Value→Shared→Prop} {s:Shared} {K:PySem.W.Frag} {x C D:Addr} {oe:Obj}
end
section
variable {P:Program} {w:World} {K:PySem.W.Frag} {mg:Str→Option Value} {base:Heap}
section
variable {N:List Str} {qual:Str} {scope:Scope} {f:Addr} {cdv:Value} {A:Around} {outer:List Env} {s0:Shared} {H0:Hp} {Ew:XK} {C:Addr} {n:Str} {e:Expr} {es:List Expr} {np cpos pos:Pos}
end
end
end L2
set_option Elab.async false
set_option linter.all false
set_option maxRecDepth 100000
set_option maxHeartbeats 4000000
namespace L2
open PySem PySem.Spec PySem.W PySem.Calls PyProof.Rows PySem.Builtin.ObjectAttr
variable {cb:Bool} in
section
variable {X:Cx} {pins:List (Addr×Obj)} {σ:St} {H:Hp} {s:Shared}
end
section
variable {X:Cx} {K:PySem.W.Frag} {C D:Addr} {S:SpR} {fn y en cn:Str} {ps:List Str} {e:Expr} {es:List Expr} {b0:Stmt} {bs:List Stmt} {yp fp cp ap kp hpos pos:Pos} {i j ie n k m:Nat} {Fr:FA} {th:Addr→TS}
end
end L2
set_option Elab.async false
set_option linter.all false
set_option maxRecDepth 100000
set_option maxHeartbeats 4000000
namespace L2
open PySem PySem.Spec PySem.NumText PyProof.Rows
abbrev sg (x:Str):List Nat:=x.cps.toList
theorem sg_cat (x y:Str):sg (x++y)=sg x++sg y:=by show (x.cps++y.cps).toList=_;simp
theorem sg_len (x:Str):(sg x).length=x.length:=by simp [sg,Str.length]
theorem sg_mk (l:List Nat):sg ⟨l.toArray⟩=l:=by simp [sg]
end L2
set_option Elab.async false
set_option linter.all false
set_option maxRecDepth 100000
set_option maxHeartbeats 4000000
namespace L2
open PySem PySem.Spec PySem.NumText PyProof.Rows
theorem slice_from (x:Str) (k:Nat):sg (Txt.slice x (some (k:Int)) none)=(sg x).drop k:=by
 rcases Nat.le_total k x.length with h | h
 ·have e:=StrLaws.sliceText_from (x:=x) (i:=(k:Int)) ⟨by omega,by rw [sg_len];omega⟩
  have e':Txt.slice x (some (k:Int)) none=⟨(((sg x).drop k).take (((sg x).length:Int)-k).toNat).toArray⟩:=e
  rw [e',sg_mk,List.take_of_length_le]
  rw [List.length_drop];omega
 ·rw [slice_from_beyond (by omega),List.drop_eq_nil_of_le (by rw [sg_len];exact h)]
end L2
set_option Elab.async false
set_option linter.all false
set_option maxRecDepth 100000
set_option maxHeartbeats 4000000
namespace L2
open PySem PySem.Spec PyProof.Rows
section
variable {X:Cx} {K:PySem.W.Frag} {pos:Pos} {o e:Expr} {Fo:FE} {Fr:FA}
theorem RE.setVN {B:Addr→Prop} {H:Hp} {S:St} {E:En} {v:V} (re:RE K B H S E) {i:Nat}:RE K B H (S.set i (some v)) (E.set i none)∧∀b,Ow B (S.set i (some v)) (E.set i none) b→Ow B S E b:=by
 have gE:∀{j:Nat} {u:U},(E.set i none)[j]? = some (some u)→i≠j∧E[j]? = some (some u):=fun {j u} h=>by
  by_cases c:i=j
  ·subst c
   rw [List.getElem?_set] at h
   simp at h
  ·rw [List.getElem?_set_ne c] at h;exact ⟨c,h⟩
 refine re.map (by simp [re.len]) (fun j t h=>?_) id (fun j k xs h=>?_) (fun _ _ _ _ _ _ _ _ h=>h)
 ·obtain ⟨v,h1,h2⟩:=re.pure j t (gE h).2
  exact ⟨v,by rw [List.getElem?_set_ne (gE h).1];exact h1,h2⟩
 ·obtain ⟨a,vs,h1,_⟩:=re.own j k xs (gE h).2
  exact ⟨(gE h).2,a,h1,by rw [List.getElem?_set_ne (gE h).1];exact h1⟩
def sSetA (i:Nat) (Fa:FE):FS:=fun D E=>Fa E fun r E1=>match r with
 | .s j=>(match E1[j]? with
  | some (some (.o false xs))=>D.nx ((E1.take E.length).set i none)∨D.nx (((E1.set j (some (.p (.lst xs)))).take E.length).set i (some (.p (.lst xs))))
  | _=>False)
 | _=>False
theorem fs_setA {Fa:FE} {i:Nat} {x:Str} {pos':Pos} (hN:X.N.Nodup) (hi:X.N[i]? = some x) (hx:Loc X.env.scope x) (he:QE X e (simE K Fa)) (hs:swapsWith e (some (.Name x pos')) pos.line X.env=pure false:=by rfl)
  (hf:X.fn x=true∨X.env.scope.names.lookup x=some .local:=by first | exact .inl rfl | exact .inr rfl | assumption):QS X (.Assign [.Name x pos'] e pos) (simS K (sSetA i Fa)):=
 (qs_set hN hi hx he hs hf).le fun D σ H hl ⟨B,E,DT,re,hF,l⟩=>⟨B,σ,E,_,⟨[],by simp⟩,re,hF,fun r E' v H' S' q g re' rr=>by
  split at q
  ·rename_i j
   split at q
   ·rename_i xs hE
    rcases q with q | q
    ·obtain ⟨re2,ow2⟩:=re'.cut (E:=E) g.pre re.len
     obtain ⟨r1,ow⟩:=re2.setVN (i:=i) (v:=v)
     exact l.nx _ _ _ q ((g.kp.trans (Kp.less ow2)).trans (Kp.less ow)) r1
    ·obtain ⟨f1,f2,f3,f4⟩:=frzs_ok (us:=[j]) (E':=E'.set j (some (.p (.lst xs)))) re' (by simp [frzs,hE])
     rw [←re.len] at q
     have hj:j<E'.length:=(List.getElem?_eq_some_iff.mp hE).1
     obtain ⟨r1,ow⟩:=pick_ok (i:=i) (u:=.p (.lst xs)) (r:=.s j) f1 g.pre rr (by simp [pick,hj])
     exact l.nx _ _ _ q ((g.kp.trans (Kp.less f2)).trans (Kp.less ow)) r1
   ·exact q.elim
  ·exact q.elim⟩
def fPop (Fo:FE) (Fr:FA):FE:=fun E Q=>Fo E fun o E1=>o1 (ownOf E1 o) fun _=>Fr E1 fun rs E2=>match o with
 | .s j=>(match E2[j]? with
  | some (some (.o k xs))=>(match rs with
   | [r]=>i1 (vl E2 r) fun i=>0≤i∧xs.length≤1000∧o1 (xs[i.toNat]?) fun t=>Q (.p t) (E2.set j (some (.o k (xs.eraseIdx i.toNat))))
   | _=>False)
  | _=>False)
 | _=>False
theorem fe_pop {n:Nat} {ap:Pos} (eK:X.K=K) (ho:QE X o (simE K Fo)) (ha:QA X [e] (simA K n Fr)) (hbase:attributeBase o "pop" X.env (eval o X.env)=eval o X.env:=by rfl) (hline:(ap.endLine==pos.line)=true:=by rfl) (hs:isStar e=false:=by rfl) :
  QE X (.Call (.Attribute o "pop" ap) [e] [] pos) (simE K (fPop Fo Fr)):=
 QE.le (t:=tBM X.K "list" rPopAt (simE K Fo) (simA K n Fr)) ⟨pe_bm PySem.F.plainAttrs_list PySem.F.slot_list_pop PySem.F.type_list_pop mt_popAt ho.h ha.h hbase (by rw [star_ok hs];rfl) hline (star_ok hs) (star_any rfl)⟩ fun σ H Q hl h=>by
  subst eK
  obtain ⟨B,S,E,Q',⟨τ,hS⟩,re,hF,lk⟩:=h
  refine ⟨B,S,E,_,⟨τ,hS⟩,re,hF,fun oo E1 v H1 S1 q g1 re1 rx=>?_⟩
  obtain ⟨τ1,hS1⟩:=g1.pre
  obtain ⟨xs0,e0,q⟩:=o1.ex q
  obtain ⟨j,k,p,vs,rfl,hE,hSj,rfl,h2,h3⟩:=re1.ownOf rx e0
  refine ⟨.inl ⟨rfl,vs,SqL.of h2⟩,B,S1,E1,_,⟨τ++τ1,by rw [hS1,hS,List.append_assoc]⟩,re1,q,fun rs E2 us H2 S2 q2 g2 re2 rr hn=>?_⟩
  have hSj2:S2[j]? = some (some (.ref p)):=pre_get g2.pre hSj
  simp only at q2
  split at q2
  ·rename_i k2' xs hE2
   split at q2
   ·rename_i r
    obtain ⟨y,ws,rfl,k1,rfl⟩:=rr
    obtain ⟨i,e1,i0,hz,q3⟩:=q2.ex
    obtain ⟨t,ht,q3⟩:=o1.ex q3
    have ey:=re2.int k1 e1
    subst ey
    obtain ⟨p',vs2,z1,z2,z3,_⟩:=re2.own j k2' xs hE2
    rw [hSj2] at z1;cases z1
    have vl:=z3.length
    obtain ⟨g3,re3⟩:=re2.put (ys:=xs.eraseIdx i.toNat) (ws:=vs2.eraseIdx i.toNat) hE2 hSj2 (by rw [List.eraseIdx_eq_take_drop_succ,List.eraseIdx_eq_take_drop_succ];exact (z3.take _).append (z3.drop _))
    obtain ⟨v,hv,rp⟩:=z3.get ht
    have hil:=(List.getElem?_eq_some_iff.mp ht).1
    have sx:seqIndex? i vs2.length=some i.toNat:=by
     unfold seqIndex?
     have h0:¬i<0:=by omega
     have h1:i<(vs2.length:Int):=by omega
     simp [h0,h1]
     try omega
    exact ⟨p,vs2,i,i.toNat,v,rfl,rfl,z2,by omega,by omega,sx,hv,lk _ _ _ _ _ q3 ((g1.trans g2).trans g3) re3 (rp.step g3.kp)⟩
   ·exact q2.elim
  ·exact q2.elim
end
end L2
set_option Elab.async false
set_option linter.all false
set_option maxRecDepth 100000
set_option maxHeartbeats 4000000
namespace L2
open PySem PySem.Spec PyProof.Rows
def wbackM (t:Nat):List (Nat×Bool)→Nat→En→En→Option En
 | [],_,_,E=>some E
 | (_,false)::r,j,Ein,E=>wbackM t r (j+1) Ein E
 | (k,true)::r,j,Ein,E=>match E[k]?,Ein[t+j]? with
  | some (some (.o b _)),some (some (.o true ys))=>if noLs ys=true then wbackM t r (j+1) Ein (E.set k (some (.o b ys))) else none
  | _,_=>none
def fCompM (t:Nat) (cap:List (Nat×Bool)) (I:FI) (g:FG) (Fe:FE):FE:=fun E Q=>I E fun items us E1=>cap.all (fun k=>!(k.2&&us.contains k.1))=true∧
 compL g Fe items (capE t cap E1++[some (.o false [])]) fun Ein=>match Ein[t+cap.length]? with
  | some (some (.o false zs))=>noLs zs=true∧o1 (wbackM t cap 0 Ein E1) fun E2=>Q (.s E2.length) (E2++[some (.o false zs)])
  | _=>False
def simGM (t:Nat) (K:PySem.W.Frag) (g:FG):TG:=fun v σ H Q=>simG K g v σ H fun σ' H'=>(∀i,t≤i→σ'[i]? = σ[i]?)→Q σ' H'
theorem wbackM_get {t:Nat} {Ein:En} {cap:List (Nat×Bool)}:∀{r:List (Nat×Bool)} {n:Nat} {E E2:En},(r.map (·.1)).Nodup→(∀j k c,r[j]? = some (k,c)→cap[n+j]? = some (k,c))→wbackM t r n Ein E=some E2→
  E2.length=E.length∧∀(i:Nat) (u:U),E2[i]? = some (some u)→(∃(j:Nat) (b:Bool) (ys xs0:List T),r[j]? = some (i,true)∧E[i]? = some (some (.o b xs0))∧Ein[t+(n+j)]? = some (some (.o true ys))∧noLs ys=true∧u = .o b ys)∨(E[i]? = some (some u)∧∀(j:Nat) (b:Bool) (xs:List T),r[j]? = some (i,true)→E[i]?≠some (some (.o b xs)))
 | [],n,E,E2,_,_,h=>by cases h;exact ⟨rfl,fun i u h=>.inr ⟨h,fun j b xs z=>by simp at z⟩⟩
 | (k,false)::r,n,E,E2,nd,hc,h=>by
  obtain ⟨eL,eG⟩:=wbackM_get (cap:=cap) (r:=r) (n:=n+1) (List.nodup_cons.mp nd).2 (fun j k c q=>by have:=hc (j+1) k c (by simpa using q);rwa [show n+(j+1)=n+1+j by omega] at this) h
  refine ⟨eL,fun i u hu=>?_⟩
  rcases eG i u hu with ⟨j,b,ys,xs0,q1,q2,q3,q4,q5⟩ | ⟨q1,q2⟩
  ·exact .inl ⟨j+1,b,ys,xs0,by simpa using q1,q2,by rwa [show n+(j+1)=n+1+j by omega],q4,q5⟩
  ·refine .inr ⟨q1,fun j b xs z=>?_⟩
   cases j with
   | zero=>simp at z
   | succ j=>exact q2 j b xs (by simpa using z)
 | (k,true)::r,n,E,E2,nd,hc,h=>by
  rw [wbackM] at h
  split at h
  ·rename_i b xs0 ys hE hEi
   split at h
   ·rename_i hny
    obtain ⟨eL,eG⟩:=wbackM_get (cap:=cap) (r:=r) (n:=n+1) (List.nodup_cons.mp nd).2 (fun j k c q=>by have:=hc (j+1) k c (by simpa using q);rwa [show n+(j+1)=n+1+j by omega] at this) h
    have nk:∀j c,r[j]?≠some (k,c):=fun j c z=>(List.nodup_cons.mp nd).1 (List.mem_map.mpr ⟨(k,c),List.mem_of_getElem? z,rfl⟩)
    have hk:k<E.length:=(List.getElem?_eq_some_iff.mp hE).1
    refine ⟨by rw [eL,List.length_set],fun i u hu=>?_⟩
    by_cases c:i=k
    ·subst c
     rcases eG i u hu with ⟨j,b',ys',xs',q1,_⟩ | ⟨q1,q2⟩
     ·exact absurd q1 (nk j true)
     ·rw [List.getElem?_set_self hk] at q1
      cases q1
      exact .inl ⟨0,b,ys,xs0,rfl,hE,hEi,hny,rfl⟩
    ·have hne:(E.set k (some (.o b ys)))[i]? = E[i]?:=List.getElem?_set_ne (fun z=>c z.symm)
     rcases eG i u hu with ⟨j,b',ys',xs',q1,q2,q3,q4,q5⟩ | ⟨q1,q2⟩
     ·rw [hne] at q2
      exact .inl ⟨j+1,b',ys',xs',by simpa using q1,q2,by rwa [show n+(j+1)=n+1+j by omega],q4,q5⟩
     ·rw [hne] at q1
      refine .inr ⟨q1,fun j b' xs z=>?_⟩
      cases j with
      | zero=>simp at z;exact absurd z.symm c
      | succ j=>have:=q2 j b' xs (by simpa using z);rwa [hne] at this
   ·cases h
  ·cases h
section
variable {X:Cx} {K:PySem.W.Frag} {pos:Pos} {Fe:FE} {g:FG} {I:FI}
theorem comp_simM {scope:Scope} {N':List Str} {cap:List (Nat×Bool)} {t:Nat} (S:CompOk X N' scope t (cap.map (·.1))) (hnd:(cap.map (·.1)).Nodup) {σ:St} {H:Hp} {Q:VK} (hl:σ.length=X.N.length)
  (h:simE K (fCompM t cap I g Fe) σ H Q):tComp t (cap.map (·.1)) (simI K I) (simGM t K g) (simE K Fe) σ H Q:=by
 obtain ⟨B,S0,E,Q',hS,re,hF,lk⟩:=h
 refine ⟨B,S0,E,_,hS,re,hF,fun J items us E1 H1 S1 gd q g1 re1 ok husO hgd D hD=>?_⟩
 obtain ⟨hus,q⟩:=q
 obtain ⟨τ0,hS0⟩:=hS
 obtain ⟨τ1,hS1⟩:=g1.pre
 have hS1':∃τ,S1=σ++τ:=⟨τ0++τ1,by rw [hS1,hS0,List.append_assoc]⟩
 have atσ:∀{j k:Nat} {b:Bool} {v:V},cap[j]? = some (k,b)→S1[k]? = some (some v)→σ[k]? = some (some v):=fun {j k b v} hj hv=>by
  obtain ⟨x,_,hx,_⟩:=S.caps j k (by rw [List.getElem?_map,hj];rfl)
  have hk:k<σ.length:=by rw [hl];exact (List.getElem?_eq_some_iff.mp hx).1
  obtain ⟨τ,rfl⟩:=hS1'
  rw [List.getElem?_append_left hk] at hv;exact hv
 have atC:∀{j k:Nat} {b:Bool} {v:V},cap[j]? = some (k,b)→S1[k]? = some (some v)→(capS t (cap.map (·.1)) σ)[t+j]? = some (some v):=fun {j k b v} hj hv=>by rw [capS_get hj,atσ hj hv];rfl
 have backC:∀{j k:Nat} {b:Bool} {v:V},cap[j]? = some (k,b)→(capS t (cap.map (·.1)) σ)[t+j]? = some (some v)→S1[k]? = some (some v):=fun {j k b v} hj hv=>by
  rw [capS_get hj] at hv
  have:σ[k]? = some (some v):=by
   cases z:σ[k]? with
   | none=>rw [z] at hv;cases hv
   | some y=>rw [z] at hv;simpa using hv
  exact pre_get hS1' this
 obtain ⟨Bp,hBp⟩:∃Bp:Addr→Prop,∀a,Bp a↔∃(j k:Nat) (kk:Bool) (xs:List T),cap[j]? = some (k,true)∧E1[k]? = some (some (.o kk xs))∧S1[k]? = some (some (.ref a)):=⟨_,fun _=>Iff.rfl⟩
 have sameJ:∀{j j' m:Nat} {c c':Bool},cap[j]? = some (m,c)→cap[j']? = some (m,c')→j=j':=fun {j j' m c c'} e2 p1=>by
  have lt1:j<(cap.map (·.1)).length:=by rw [List.length_map];exact (List.getElem?_eq_some_iff.mp e2).1
  exact (List.getElem?_inj lt1 hnd).mp (by rw [List.getElem?_map,List.getElem?_map,e2,p1];rfl)
 have bxOw:∀a,Bp a→Ow B S1 E1 a:=fun a z=>by
  obtain ⟨j,k,kk,xs,_,h2,h3⟩:=(hBp a).mp z
  exact .inr ⟨k,kk,xs,h2,h3⟩
 -- an own list of the block is the box
 have capO:∀{i:Nat} {k:Bool} {xs:List T},(capE t cap E1)[i]? = some (some (.o k xs))→∃j m kk,i=t+j∧cap[j]? = some (m,true)∧E1[m]? = some (some (.o kk xs))∧k=true:=fun {i k xs} h=>by
  obtain ⟨j,m,c,e1,e2,e3⟩:=capE_get h
  refine ⟨j,m,?_⟩
  cases qE:E1[m]? with
  | none=>rw [qE] at e3;cases e3
  | some u=>
   cases u with
   | none=>rw [qE] at e3;cases e3
   | some u=>
    cases u with
    | p _=>rw [qE] at e3;cases e3
    | o kk ys=>
     rw [qE] at e3
     cases c
     ·simp [capU] at e3
     ·simp [capU] at e3
      obtain ⟨e4,e5⟩:=e3
      exact ⟨kk,e1,e2,by rw [e5],e4⟩
 have owIn:∀b,Ow Bp (capS t (cap.map (·.1)) σ) (capE t cap E1) b→Bp b:=fun b z=>by
  rcases z with z | ⟨i,k,xs,h1,h2⟩
  ·exact z
  obtain ⟨j,m,kk,e1,e2,e3,_⟩:=capO h1
  subst e1
  exact (hBp b).mpr ⟨j,m,kk,xs,e2,e3,backC e2 h2⟩
 have kl:Kp (Ow B S1 E1) (Ow Bp (capS t (cap.map (·.1)) σ) (capE t cap E1)) H1 H1:=Kp.less fun b z=>bxOw b (owIn b z)
 have reIn:RE K Bp H1 (capS t (cap.map (·.1)) σ) (capE t cap E1):=by
  refine ⟨by simp [capS,capE],fun i u h=>?_,fun i k xs h=>?_,fun i j k l xs ys a h1 h2 h3 h4=>?_,fun a z=>re1.ow (bxOw a z)⟩
  ·obtain ⟨j,m,c,e1,e2,e3⟩:=capE_get h
   subst e1
   cases qE:E1[m]? with
   | none=>rw [qE] at e3;cases e3
   | some w=>
    cases w with
    | none=>rw [qE] at e3;cases e3
    | some w=>
     cases w with
     | p w=>
      rw [qE] at e3;cases e3
      obtain ⟨v,h1,h2⟩:=re1.pure m _ qE
      exact ⟨v,atC e2 h1,h2.step kl⟩
     | o kk ys=>
      rw [qE] at e3
      cases c
      ·simp [capU] at e3;subst e3
       obtain ⟨a,vs,h1,h2,h3,h4⟩:=re1.own m kk ys qE
       refine ⟨_,atC e2 h1,a,vs,rfl,.inl ⟨fun z=>?_,.inl h2⟩,h3.step kl⟩
       obtain ⟨j',k',kk',xs',p1,p2,p3⟩:=(hBp a).mp (owIn a z)
       have e4:=re1.inj m k' kk kk' ys xs' a qE p2 h1 p3
       subst e4
       have lt1:j<(cap.map (·.1)).length:=by rw [List.length_map];exact (List.getElem?_eq_some_iff.mp e2).1
       have lt2:j'<(cap.map (·.1)).length:=by rw [List.length_map];exact (List.getElem?_eq_some_iff.mp p1).1
       have:j=j':=(List.getElem?_inj lt1 hnd).mp (by rw [List.getElem?_map,List.getElem?_map,e2,p1];rfl)
       subst this
       rw [e2] at p1;cases p1
      ·simp [capU] at e3
  ·obtain ⟨j,m,kk,e1,e2,e3,e4⟩:=capO h
   subst e1;subst e4
   obtain ⟨a,vs,h1,h2,h3,h4⟩:=re1.own m kk _ e3
   exact ⟨a,vs,atC e2 h1,h2,h3.step kl,⟨fun _=>(hBp a).mpr ⟨j,m,kk,_,e2,e3,h1⟩,fun _=>rfl⟩⟩
  ·obtain ⟨j1,m1,k1,e1,e2,e5,_⟩:=capO h1
   obtain ⟨j2,m2,k2,e3,e4,e6,_⟩:=capO h2
   subst e1;subst e3
   have em:=re1.inj m1 m2 k1 k2 _ _ a e5 e6 (backC e2 h3) (backC e4 h4)
   subst em
   rw [sameJ e2 e4]
 -- the accumulator gets a place
 obtain ⟨gD,reD⟩:=reIn.lst (ts:=[]) (vs:=[]) hD rfl
 have gd0:gd (upd H1 D (.lst [])) (Ow Bp (capS t (cap.map (·.1)) σ++[some (.ref D)]) (capE t cap E1++[some (.o false [])])):=by
  refine ok.keep _ _ _ _ gD.kp (hgd _ (fun b z=>bxOw b (owIn b z)) fun j hj a ha z=>?_)
  obtain ⟨j',k',kk',xs',p1,p2,p3⟩:=(hBp a).mp (owIn a z)
  obtain ⟨kj,xj,qj⟩:=husO j hj
  have ej:=re1.inj j k' kj kk' xj xs' a qj p2 ha p3
  subst ej
  have:=List.all_eq_true.mp hus (j,true) (List.mem_of_getElem? p1)
  simp [hj] at this
 have hn:(capS t (cap.map (·.1)) σ).length=t+cap.length:=by simp [capS]
 have hnE:(capE t cap E1++[some (U.o false [])]).length=t+cap.length+1:=by simp [capE];omega
 -- the turns
 refine ⟨fun i m σ' H'=>m=items.length-i∧i≤items.length∧∃E',compL g Fe (items.drop i) E' (fun Ein=>match Ein[t+cap.length]? with
   | some (some (.o false zs))=>noLs zs=true∧o1 (wbackM t cap 0 Ein E1) fun E2=>Q' (.s E2.length) (E2++[some (.o false zs)])
   | _=>False)∧σ'.length=t+cap.length∧E'.length=t+cap.length+1∧RE K Bp H' (σ'++[some (.ref D)]) E'∧
   Gs Bp (upd H1 D (.lst [])) (capS t (cap.map (·.1)) σ++[some (.ref D)]) (capE t cap E1++[some (.o false [])]) H' (σ'++[some (.ref D)]) E'∧gd H' (Ow Bp (σ'++[some (.ref D)]) E')∧∀j k,cap[j]? = some (k,true)→σ'[t+j]? = (capS t (cap.map (·.1)) σ)[t+j]?,
  ⟨_,rfl,Nat.zero_le _,_,q,hn,hnE,reD,Kp.refl _ _,gd0,fun _ _ _=>rfl⟩,?_⟩
 rintro i m σ2 H2 ⟨rfl,hi',E3,q3,hl3,hE3,re3,g3,gd3,dt3⟩
 rcases Nat.lt_or_ge i items.length with hlt | hge
 ·have hd:items.drop i=items[i]::items.drop (i+1):=List.drop_eq_getElem_cons hlt
  rw [hd] at q3
  refine .inr ⟨ok.go i H2 _ gd3 hlt,fun x H4 y=>?_⟩
  obtain ⟨k4,s4,rp⟩:=ok.yld i H2 _ x H4 _ gd3 (List.getElem?_eq_getElem hlt) (fun a z=>by obtain ⟨vs,e⟩:=re3.ow z;rw [e];intro z;cases z) y
  have re4:=re3.kept s4
  have gd4:=ok.keep _ _ _ _ k4 gd3
  refine ⟨_,[some (.ref D)],E3,_,_,re4,rp,q3,fun σ5 H5 E5 q5 g5 re5 hl5 dt5=>?_⟩
  have hE5:E5.length=t+cap.length+1:=by rw [←re5.len];simp [hl5,hl3]
  refine ⟨_,σ5++[some (.ref D)],E5,_,⟨_,rfl⟩,re5,q5,fun r E6 v H6 S6 q6 g6 re6 rr6=>?_⟩
  cases r with
  | s _=>exact q6.elim
  | p u=>
   simp only at q6
   have hlast:E3.length-1=t+cap.length:=by omega
   rw [hlast] at q6
   split at q6
   ·rename_i acc hacc
    obtain ⟨hlen,q6⟩:=q6
    obtain ⟨a6,ws,p1,p2,p3,p4⟩:=re6.own _ _ _ hacc
    have hS6:S6[t+cap.length]? = some (some (.ref D)):=pre_get g6.pre (by rw [List.getElem?_append_right (by omega)];simp [hl5,hl3])
    rw [hS6] at p1;cases p1
    obtain ⟨g7,re7⟩:=re6.put (ys:=acc++[u]) (ws:=ws++[v]) hacc hS6 (p3.append ⟨v,[],rfl,rr6,rfl⟩)
    obtain ⟨re8,ow8⟩:=re7.cut (E:=E5) (σ:=σ5++[some (.ref D)]) (g6.trans g7).pre re5.len
    have eE:E5.length=E3.length:=by omega
    rw [eE] at re8 ow8
    have gg:Gs Bp H4 (σ2++[some (.ref D)]) E3 (upd H6 D (.lst (ws++[v]))) (σ5++[some (.ref D)]) ((E6.set (t+cap.length) (some (.o false (acc++[u])))).take E3.length):=(g5.trans (g6.trans g7).kp).trans (Kp.less ow8)
    refine ⟨ws,p2,by rw [p3.length];exact small1000 (Nat.le_of_lt hlen),items.length-(i+1),by omega,rfl,hlt,_,q6,by omega,?_,re8,(g3.trans k4).trans gg,ok.keep _ _ _ _ gg gd4,fun j k hj=>by rw [dt5 (t+j) (Nat.le_add_right _ _)];exact dt3 j k hj⟩
    rw [List.length_take,List.length_set]
    have:E5.length≤E6.length:=by
     obtain ⟨τ6,e6⟩:=g6.pre
     rw [←re5.len,←re6.len,e6];simp
    omega
   ·exact q6.elim
 ·have ei:i=items.length:=by omega
  subst ei
  rw [List.drop_length] at q3
  refine .inl ⟨ok.stop H2 _ gd3,?_⟩
  have q3':(match E3[t+cap.length]? with
   | some (some (.o false zs))=>noLs zs=true∧o1 (wbackM t cap 0 E3 E1) fun E2=>Q' (.s E2.length) (E2++[some (.o false zs)])
   | _=>False):=q3
  split at q3'
  ·rename_i zs hzs
   obtain ⟨hnl,q3'⟩:=q3'
   obtain ⟨E2,e2,q3'⟩:=q3'.ex
   obtain ⟨aD,ws,p1,p2,p3,p4⟩:=re3.own _ _ _ hzs
   have hSD:(σ2++[some (V.ref D)])[t+cap.length]? = some (some (.ref D)):=by rw [List.getElem?_append_right (by omega)];simp [hl3]
   rw [hSD] at p1;cases p1
   -- what is kept of the heap around
   have ow0:∀b,Ow Bp (capS t (cap.map (·.1)) σ++[some (.ref D)]) (capE t cap E1++[some (.o false [])]) b→Bp b∨b=D:=fun b z=>by
    rcases gD.kp.new b z with z | z
    ·exact .inl (owIn b z)
    ·rcases reD.ow (by assumption) with ⟨us',hu⟩
     by_cases c:b=D
     ·exact .inr c
     ·rw [upd_ne c,z] at hu;cases hu
   have kept:∀b o,H1 b=some o→¬Bp b→H2 b=some o:=fun b o e n=>by
    refine g3.keep b o (by rw [upd_ne (ne_of_none e hD)];exact e) fun z=>?_
    rcases ow0 b z with z | z
    ·exact n z
    ·exact ne_of_none e hD z
   have hk:∀b o,H1 b=some o→¬Ow B S1 E1 b→H2 b=some o:=fun b o e n=>kept b o e fun z=>n (bxOw b z)
   have nD:H1 D=none:=hD
   have lk1:=lk.step g1
   -- the names around
   have fin:∀{E2:En},RE K B H2 S1 E2→(∀b,Ow B S1 E2 b→Ow B S1 E1 b)→
     (∀(i:Nat) (k:Bool) (xs:List T),E2[i]? = some (some (.o k xs))→(E1[i]? = some (some (.o k xs))∧∀a,S1[i]? = some (some (.ref a))→H2 a=H1 a)∨∀a ws,S1[i]? = some (some (.ref a))→H2 a=some (.lst ws)→Rps K H2 (LstOf H2) xs ws)→
     (∀(i:Nat) (u:T),E2[i]? = some (some (.p u))→E1[i]? = some (some (.p u)))→Q' (.s E2.length) (E2++[some (.o false zs)])→Q (.ref D) H2:=fun {E2} re' hw hE hP q=>by
    refine told_ok re1 re' hk hw hE hP (r:=.l zs) ⟨D,ws,rfl,hD,p2,Rps.noL (fun a z=>?_) hnl p3⟩ q lk1
    rcases z with ⟨us',z⟩ | z
    ·by_cases c:Bp a
     ·exact re3.ow (.inl c)
     ·exact ⟨us',kept a _ z c⟩
    ·exact ⟨ws,by rw [z];exact p2⟩
   obtain ⟨eL,eG⟩:=wbackM_get hnd (fun j k c h=>by simpa using h) e2
   have eG:=fun i u h=>eG i u h
   have lts:∀b,Ow B S1 E1 b→LstOf H2 b:=fun b z=>by
    by_cases c:Bp b
    ·exact re3.ow (.inl c)
    ·obtain ⟨us',e⟩:=re1.ow z
     exact ⟨us',kept b _ e c⟩
   -- a list that the block changed
   have bxI:∀{i j:Nat} {b:Bool} {xs0 ys:List T},cap[j]? = some (i,true)→E1[i]? = some (some (.o b xs0))→E3[t+j]? = some (some (.o true ys))→noLs ys=true→∃a us1,S1[i]? = some (some (.ref a))∧H2 a=some (.lst us1)∧Rps K H2 (LstOf H2) ys us1:=fun {i j b xs0 ys} hj hE hEi hny=>by
    obtain ⟨a',us1,r1,r2,r3,r4⟩:=re3.own _ true ys hEi
    have hjl:j<cap.length:=(List.getElem?_eq_some_iff.mp hj).1
    rw [List.getElem?_append_left (by omega),dt3 j i hj] at r1
    exact ⟨a',us1,backC hj r1,r2,Rps.noL (fun _ z=>z) hny r3⟩
   have nk:∀{i:Nat} {l:Bool} {zs':List T} {a:Addr},(∀j b xs,cap[j]? = some (i,true)→E1[i]?≠some (some (.o b xs)))→E1[i]? = some (some (.o l zs'))→S1[i]? = some (some (.ref a))→¬Bp a:=fun {i l zs' a} c z ha w=>by
    obtain ⟨j',k',kk',xs',p1',p2',p3'⟩:=(hBp a).mp w
    have:=re1.inj i k' l kk' zs' xs' a z p2' ha p3'
    subst this
    exact c j' l zs' p1' z
   have owE:∀b,Ow B S1 E2 b→Ow B S1 E1 b:=fun b z=>by
    rcases z with z | ⟨i,l,zs',z1,z2⟩
    ·exact .inl z
    rcases eG _ _ z1 with ⟨j,b',ys,xs0,_,h2,_,_,_⟩ | ⟨z,_⟩
    ·exact .inr ⟨_,_,_,h2,z2⟩
    ·exact .inr ⟨i,l,zs',z,z2⟩
   have kp:Kp (Ow B S1 E1) (Ow B S1 E1) H1 H2:=⟨hk,fun b z=>.inl z⟩
   refine fin (re1.step hk eL (fun i u h=>?_) (fun i l zs' h=>?_) (fun a z=>lts a (.inl z))) owE (fun i l zs' h=>?_) (fun i u h=>?_) q3'
   ·rcases eG _ _ h with ⟨_,_,_,_,_,_,_,_,z⟩ | ⟨z,_⟩
    ·cases z
    ·exact z
   ·rcases eG _ _ h with ⟨j,b',ys,xs0,h1,h2,h3,h4,z⟩ | ⟨z,nb⟩
    ·cases z
     obtain ⟨a0,us1,r1,r2,r3⟩:=bxI h1 h2 (by rwa [Nat.zero_add] at h3) h4
     refine ⟨xs0,h2,fun a ha=>?_⟩
     rw [r1] at ha;cases ha
     exact ⟨us1,r2,r3.step (Kp.less lts)⟩
    ·refine ⟨zs',z,fun a ha=>?_⟩
     obtain ⟨a',us',p1',p2',p3',_⟩:=re1.own i l zs' z
     rw [ha] at p1';cases p1'
     exact ⟨us',kept a _ p2' (nk nb z ha),p3'.step kp⟩
   ·rcases eG _ _ h with ⟨j,b',ys,xs0,h1,h2,h3,h4,z⟩ | ⟨z,nb⟩
    ·cases z
     right
     intro a us2 ha hu
     obtain ⟨a0,us1,r1,r2,r3⟩:=bxI h1 h2 (by rwa [Nat.zero_add] at h3) h4
     rw [r1] at ha;cases ha
     rw [r2] at hu;cases hu
     exact r3
    ·left
     refine ⟨z,fun a ha=>?_⟩
     obtain ⟨a',us',p1',p2',p3',_⟩:=re1.own i l zs' z
     rw [ha] at p1';cases p1'
     rw [p2'];exact kept a _ p2' (nk nb z ha)
   ·rcases eG _ _ h with ⟨_,_,_,_,_,_,_,_,z⟩ | ⟨z,_⟩
    ·cases z
    ·exact z
  ·exact q3'.elim
theorem fg_nameM {t i:Nat} {x:Str} (hN:X.N.Nodup) (hi:X.N[i]? = some x) (hx:Loc X.env.scope x) (hf:X.fn x=true∨X.env.scope.names.lookup x=some .local:=by first | exact .inl rfl | exact .inr rfl | assumption) (ht:i<t:=by decide):QG X (.Name x pos) (simGM t K (kName i)):=
 (qg_name hN hi hx hf).le fun v σ H Q hl ⟨B,τ,E,u,Q',re,rp,hF,l⟩=>by
  have hlt:i<σ.length:=by rw [hl];exact (List.getElem?_eq_some_iff.mp hi).1
  obtain ⟨r1,ow⟩:=re.setP (i:=i) rp
  rw [List.set_append_left _ _ hlt] at r1 ow
  exact l _ _ _ hF (Kp.less ow) r1 (by simp) fun j hj=>List.getElem?_set_ne (by omega)
theorem fs_setM {target elt iter:Expr} {scope:Scope} {pos pos' spos:Pos} {N':List Str} {cap:List (Nat×Bool)} {t i:Nat} {x:Str} (hN:X.N.Nodup) (hi:X.N[i]? = some x) (hx:Loc X.env.scope x)
  (hsw:swapsWith (.ListComp elt [⟨target,iter,[],0⟩] scope pos) (some (.Name x pos')) spos.line X.env=pure true) (hc:X.calm=true) (S:CompOk X N' scope t (cap.map (·.1))) (hnd:(cap.map (·.1)).Nodup) (hit:QI X target iter (simI K I))
  (hg:∀C s3 H3 fp,QG (cxComp X N' scope C s3 H3 fp) target (simGM t K g)) (he:∀C s3 H3 fp,QE (cxComp X N' scope C s3 H3 fp) elt (simE K Fe)) (hs:∀x,foldedSetIterable iter X.env x=pure x:=by intro _;rfl)
  (hf:X.fn x=true∨X.env.scope.names.lookup x=some .local:=by first | exact .inl rfl | exact .inr rfl | assumption) :
  QS X (.Assign [.Name x pos'] (.ListComp elt [⟨target,iter,[],0⟩] scope pos) spos) (simS K (sSet i (fCompM t cap I g Fe))):=
 QS.le ⟨ps_setC hN hi hx hf hsw hc S hit.h (fun C s3 H3 fp=>(hg C s3 H3 fp).h) (fun C s3 H3 fp=>(he C s3 H3 fp).h) hs⟩ fun D σ H hl ⟨B,E,DT,re,hF,l⟩=>comp_simM S hnd hl ⟨B,σ,E,_,⟨[],by simp⟩,re,hF,fun r E' v H' S' q g re' rr=>by
  obtain ⟨u,e1,q⟩:=q.ex
  rw [←re.len] at e1 q
  obtain ⟨r1,ow⟩:=pick_ok (i:=i) re' g.pre rr e1
  exact l.nx _ _ _ q (g.kp.trans (Kp.less ow)) r1⟩
end
end L2
set_option Elab.async false
set_option linter.all false
set_option maxRecDepth 100000
set_option maxHeartbeats 4000000
namespace L2
open PySem PySem.Spec PyProof.Rows
open Classical in
noncomputable def hide (Z:Addr→Prop) (H:Hp):Hp:=fun b=>if Z b then none else H b
open Classical in
noncomputable def back (Z:Addr→Prop) (H H':Hp):Hp:=fun b=>if Z b then H b else H' b
section
variable {Z:Addr→Prop} {H H':Hp} {b:Addr} {o:HO}
theorem hide_z (h:Z b):hide Z H b=none:=if_pos h
theorem hide_n (h:¬Z b):hide Z H b=H b:=if_neg h
theorem hide_none (h:H b=none):hide Z H b=none:=by unfold hide;split<;>first | rfl | exact h
theorem hide_some (h:hide Z H b=some o):¬Z b∧H b=some o:=by
 unfold hide at h;split at h
 ·cases h
 ·rename_i n;exact ⟨n,h⟩
theorem back_z (h:Z b):back Z H H' b=H b:=if_pos h
theorem back_n (h:¬Z b):back Z H H' b=H' b:=if_neg h
end
def spFr (sp:Sp):Sp:=fun vs H Q E=>∃Z:Addr→Prop,(∀c,Z c→∃us,H c=some (.lst us))∧sp vs (hide Z H) (fun v H'=>(∀c,Z c→H' c=none)→Q v (back Z H H')) E
section
variable {P:Program} {w:World} {K:PySem.W.Frag} {mg:Str→Option Value} {base:Heap}
theorem FnOk.frame {k:Nat} {f:Addr} {fd:FuncData} {ps:List Str} {sp:Sp} (F:FnOk P w K mg base CX0 k f fd ps sp):FnOk P w K mg base CX0 k f fd ps (spFr sp):=by
 refine ⟨fun vs H Q E ⟨Z,_,h⟩=>F.len _ _ _ _ h,fun A outer s H args us vs Q E hr he hb hv ⟨Z,hZ,hs⟩=>?_⟩
 have nl:∀{b:Addr} {o:HO},H b=some o→(∀us,o≠.lst us)→¬Z b:=fun {b o} h n z=>by
  obtain ⟨us,e⟩:=hZ b z
  rw [h] at e;cases e;exact n us rfl
 have he':Env0 P w K mg base A outer s (hide Z H):=⟨he.frames,he.mod,fun b o q=>⟨(he.bs b o q).1,hide_none (he.bs b o q).2⟩,he.bsz,he.funs,fun b m=>hide_none (he.frf b m),fun a o e=>by
   obtain ⟨n,e⟩:=hide_some e
   exact (he.hok a o e).stay (fun _ _ _ q=>q) (fun b q=>by rw [hide_n (nl q fun _ z=>by cases z)];exact q) (fun b xs q=>by rw [hide_n (nl q fun _ z=>by cases z)];exact q),he.bare⟩
 refine codeAny_mono (F.run A outer s (hide Z H) args us vs _ E hr he' hb hv hs) fun r s' h=>?_
 cases r with
 | error e=>exact h
 | ok fin=>
  cases fin with
  | ret u=>
   obtain ⟨v,H1,h1,h2,un,ok,rv,q⟩:=h
   have gone:∀c,Z c→H1 c=none:=fun c z=>by
    obtain ⟨us,e⟩:=hZ c z
    obtain ⟨_,its,n,_,q⟩:=he.hok c _ e
    exact un.free c _ q (hide_z z) (by simp)
   refine ⟨v,back Z H H1,h1,h2,⟨fun b o q n=>un.keep b o q (hide_none n),fun b o q n=>un.slot b o q (hide_none n),fun b o q n x=>?_,un.there,fun b xs q=>?_,fun b o u q=>?_,fun b ps q=>?_⟩,fun a o e=>?_,rv,q gone⟩
   ·by_cases z:Z b
    ·rw [back_z z];exact n
    ·rw [back_n z];exact un.free b o q (hide_none n) x
   ·have z:=nl q fun _ z=>by cases z
    rw [back_n z];exact un.tups b xs (by rw [hide_n z];exact q)
   ·have z:=nl q fun _ z=>by cases z
    rw [back_n z];exact un.frzs b o u (by rw [hide_n z];exact q)
   ·have z:=nl q fun _ z=>by cases z
    rw [back_n z];exact un.tbls b ps (by rw [hide_n z];exact q)
   ·by_cases z:Z a
    ·rw [back_z z] at e
     obtain ⟨us,e'⟩:=hZ a z
     rw [e] at e';cases e'
     obtain ⟨y,its,n,r,g⟩:=he.hok a _ e
     refine ⟨y,its,n,r,un.keep a _ g (hide_z z) (fun m=>?_) (by simp)⟩
     rw [he.frf a m] at e;cases e
    ·rw [back_n z] at e
     exact (ok a o e).stay (fun _ _ _ q=>q) (fun b q=>by rw [back_n fun z=>by rw [gone b z] at q;cases q];exact q) (fun b xs q=>by rw [back_n fun z=>by rw [gone b z] at q;cases q];exact q)
  | _=>exact h
theorem Fn.frame {k:Nat} {x:Str} {ps:List Str} {sp:Sp} (F:Fn P w K mg base k x ps sp):Fn P w K mg base k x ps (spFr sp):=by
 obtain ⟨f,fd,ok,h⟩:=F.ex
 exact ⟨⟨f,fd,ok.frame,h⟩⟩
end
def spOfL (K:PySem.W.Frag) (S:SpT):Sp:=fun vs H Q _=>∃(as:List A) (Q':RV→List T→Prop) (bx:Option Addr),RE K (fun a=>bx=some a) H (vs.map some) (enA as)∧(boxIn as=none→bx=none)∧S as Q'∧
 ∀t xs v H',Q' (.v t) xs→(∀b o,H b=some o→bx≠some b→H' b=some o)→(∀a,bx=some a→∃ws,H' a=some (.lst ws)∧Rps K H' (LstOf H') xs ws)→Rp K H' (fun b=>bx=some b) t v→Q v H'
def endL (as:List A) (Q:RV→List T→Prop):ET where
 nx:=fun _=>False
 rt:=fun r E=>o1 (bxEnd as E) fun xs=>match r with
  | .p t=>Q (.v t) xs
  | .s i=>match E[i]? with
   | some (some (.o false ys))=>Q (.v (.lst ys)) xs
   | some (some (.p t))=>Q (.v t) xs
   | _=>False
section
variable {P:Program} {w:World} {K:PySem.W.Frag} {mg:Str→Option Value} {base:Heap}
theorem Fun.okL {x qual:Str} {st:Stmt} {f:Addr} {fd:FuncData} {N ps:List Str} {k:Nat} {S:SpT} {F:FS} (Fn:Fun K x qual st f fd) (Sc:FnScope N ps (defScope st)) (len:∀as Q,S as Q→as.length=ps.length)
  (hb:∀(cdv:Value) (A:Around) (outer:List Env) (s:Shared) (H:Hp) (E:XK),Room k (A.deeper (envOfC qual (defScope st) s.heap.objs.size f cdv))→QB (cxOf CX0 P w K mg base N qual (defScope st) f cdv A outer s H E).nox (defBody st) (simS K F))
  (hF:∀as Q,S as Q→F (endL as Q) (enA as++List.replicate (N.length-as.length) none)):FnOk P w K mg base CX0 (k+1) f fd ps (spOfL K S):=by
 refine Fn.okQ Sc (fun vs H Q E ⟨as,Q',bx,re,hbn,hS,l⟩=>?_) (fun cdv A outer s H vs Q E hr ⟨as,Q',bx,re,hbn,hS,l⟩=>?_)
 ·have:=re.len
  rw [List.length_map,enA_length] at this
  rw [this];exact len as Q' hS
 have hl:vs.length=as.length:=by have:=re.len;rwa [List.length_map,enA_length] at this
 refine ⟨_,hb cdv A outer s H E hr,?_⟩
 obtain ⟨re0,ow0⟩:=re.pad (N.length-as.length)
 have hst:start N vs=vs.map some++List.replicate (N.length-as.length) none:=by unfold start;rw [hl]
 rw [hst]
 -- the box's address
 have own0:∀b,Ow (fun a=>bx=some a) (vs.map some) (enA as) b→bx=some b:=fun b z=>by
  rcases z with z | ⟨i,kk,xs,h1,h2⟩
  ·exact z
  obtain ⟨a,ws,q1,_,_,q4⟩:=re.own i kk xs h1
  rw [h2] at q1;cases q1
  exact q4.mp (enA_k h1)
 have fr:∀{H':Hp} {S':St} {E':En},Gs (fun a=>bx=some a) H (vs.map some++List.replicate (N.length-as.length) none) (enA as++List.replicate (N.length-as.length) none) H' S' E'→∀b o,H b=some o→bx≠some b→H' b=some o:=fun g b o h n=>g.keep b o h fun z=>n (own0 b (ow0 b z))
 have fin:∀{r:T} {xs:List T} {v:V} {H':Hp} {S':St} {E':En},bxEnd as E'=some xs→Q' (.v r) xs→Gs (fun a=>bx=some a) H (vs.map some++List.replicate (N.length-as.length) none) (enA as++List.replicate (N.length-as.length) none) H' S' E'→RE K (fun a=>bx=some a) H' S' E'→
   Rp K H' (fun b=>bx=some b) r v→Q v H':=fun {r xs v H' S' E'} e q g re' hr=>by
  have hbx:∀a,bx=some a→∃ws,H' a=some (.lst ws)∧Rps K H' (LstOf H') xs ws:=fun a ha=>by
   unfold bxEnd at e
   cases qb:boxIn as with
   | none=>
    rw [qb] at e;cases e
    rw [hbn qb] at ha;cases ha
   | some j=>
    rw [qb] at e
    simp only at e
    split at e
    ·rename_i ys hE
     split at e
     ·cases e
      rename_i hnl
      obtain ⟨b,ws,h1,h2,h3,h4⟩:=re'.own j true xs hE
      have:bx=some b:=h4.mp rfl
      rw [ha] at this;cases this
      exact ⟨ws,h2,Rps.noL (fun _ z=>z) hnl h3⟩
     ·cases e
    ·cases e
  exact l r xs v H' q (fr g) hbx hr
 refine ⟨_,_,_,re0,hF as Q' hS,⟨fun _ _ _ z=>z.elim,fun r E' v H' S' q g re' rr=>?_,fun _ _ _ z=>z.elim,fun _ _ _ z=>z.elim⟩⟩
 obtain ⟨xs,e,q⟩:=q.ex
 cases r with
 | p t=>exact fin e q g re' (Rp.step (Kp.less fun b z=>.inl z) rr)
 | s i=>
  simp only at q
  split at q
  ·rename_i ys hE
   obtain ⟨b,ws,h1,h2,h3,h4⟩:=re'.own i false ys hE
   have rr':S'[i]? = some (some v):=rr
   rw [rr'] at h1;cases h1
   exact fin e q g re' ⟨b,ws,rfl,.inl ⟨fun z=>(by have:=h4.mpr z;cases this),.inl h2⟩,h3.step (Kp.less fun b z=>.inl z)⟩
  ·rename_i t hE
   obtain ⟨w,h1,h2⟩:=re'.pure i t hE
   have rr':S'[i]? = some (some v):=rr
   rw [rr'] at h1;cases h1
   exact fin e q g re' (h2.step (Kp.less fun b z=>.inl z))
  ·exact q.elim
end
def fCallZ (S:SpT) (Fr:FA):FE:=fun E Q=>Fr E fun rs E1=>match rs with
 | .s j::rs=>o1 (frzR E1 rs) fun z=>match z.2[j]? with
  | some (some (.o k xs))=>S (.b xs::z.1.map A.v) fun r ys=>match r with
   | .v t=>Q (.p t) (z.2.set j (some (.o k ys)))
   | .l _=>False
  | _=>False
 | _=>False
def fCallZ0 (S:SpT) (Fr:FA):FE:=fun E Q=>Fr E fun rs E1=>o1 (frzR E1 rs) fun z=>S (z.1.map A.v) fun r _=>match r with
 | .v t=>Q (.p t) z.2
 | .l _=>False
section
variable {X:Cx} {K:PySem.W.Frag} {pos:Pos} {e:Expr} {es:List Expr} {Fr:FA}
theorem fe_callZ {n k j:Nat} {x:Str} {ps:List Str} {S:SpT} {p:Pos} (F:Fn X.prog X.w X.K X.mg X.base k x ps (spOfL K S)) (hr:Room j X.A) (hk:k≤j) (hg:Gl X x) (ha:QA X (e::es) (simA K n Fr)) (hdb:(x==("__debug__":Str))=false:=by decide)
  (hs:noStar (e::es)=true:=by rfl):QE X (.Call (.Name x p) (e::es) [] pos) (simE K (fCallZ S Fr)):=by
 refine (qe_fnS F.frame hr hk hg ha hdb hs).le fun σ H Q hl h=>args (Fr:=Fr) h fun B S' E0 rs vs H2 Q' hS re0 rr hn q lk=>?_
 rw [List.append_nil]
 split at q
 ·rename_i jb rs'
  obtain ⟨z,ez,q⟩:=o1.ex q
  obtain ⟨v0,ws,e2,h0,h2⟩:=rr
  subst e2
  obtain ⟨re,owz,rp⟩:=frzR_ok re0 h2 ez
  obtain ⟨ts,E⟩:=z
  simp only at q re owz rp
  split at q
  ·rename_i kb xs hE
   have h0':S'[jb]? = some (some v0):=h0
   obtain ⟨a0,us,k1,k2,k3,k4⟩:=re.own jb kb xs hE
   rw [h0'] at k1;cases k1
   have ow0:Ow B S' E a0:=.inr ⟨jb,kb,xs,hE,h0'⟩
   have kpi:Kp (Ow B S' E) (fun b=>b=a0) H2 (hide (fun b=>Ow B S' E b∧b≠a0) H2):=⟨fun b o h n=>by rw [hide_n fun z=>n z.1];exact h,fun b z=>.inl (by rw [z];exact ow0)⟩
   have get:∀{i:Nat} {u:U},(some (U.o true xs)::ts.map fun t=>some (U.p t))[i]? = some (some u)→(i=0∧u = .o true xs)∨∃m t,i=m+1∧ts[m]? = some t∧u = .p t:=fun {i u} h=>by
    cases i with
    | zero=>simp at h;exact .inl ⟨rfl,h.symm⟩
    | succ m=>
     rw [List.getElem?_cons_succ,List.getElem?_map] at h
     cases q:ts[m]? with
     | none=>rw [q] at h;cases h
     | some t=>rw [q] at h;simp at h;exact .inr ⟨m,t,rfl,q,h.symm⟩
   have ow:∀b,Ow (fun c=>some a0=some c) ((V.ref a0::ws).map some) (enA (A.b xs::ts.map A.v)) b→b=a0:=fun b z=>by
    rcases z with z | ⟨i,kk,ys,h3,h4⟩
    ·cases z;rfl
    ·have h3':(some (U.o true xs)::ts.map fun t=>some (U.p t))[i]? = some (some (U.o kk ys)):=by
      rw [←h3];simp [enA,enA_v]
     rcases get h3' with ⟨c,z⟩ | ⟨m,t',e,q3,z⟩
     ·subst c;simp at h4;exact h4.symm
     ·cases z
   have enE:enA (A.b xs::ts.map A.v)=some (U.o true xs)::ts.map fun t=>some (U.p t):=by simp [enA,enA_v]
   have kpa:Kp (Ow B S' E) (Ow (fun c=>some a0=some c) ((V.ref a0::ws).map some) (enA (A.b xs::ts.map A.v))) H2 (hide (fun b=>Ow B S' E b∧b≠a0) H2):=⟨kpi.keep,fun b z=>.inl (by rw [ow b z];exact ow0)⟩
   have hid0:hide (fun b=>Ow B S' E b∧b≠a0) H2 a0=some (.lst us):=by rw [hide_n fun z=>z.2 rfl];exact k2
   refine ⟨fun b=>Ow B S' E b∧b≠a0,fun c z=>re.ow z.1,A.b xs::ts.map A.v,_,some a0,⟨by simp [enA,enA_v,rp.length],fun i t h=>?_,fun i kk ys h=>?_,fun i i' kk l ys zs b h1 h3 _ _=>?_,fun c z=>?_⟩,fun z=>?_,q,fun t ys v H1 q2 fr bxk rv gone=>?_⟩
   ·rw [enE] at h
    rcases get h with ⟨_,z⟩ | ⟨m,t',e,q3,z⟩
    ·cases z
    ·cases z;subst e
     obtain ⟨v,h1,h3⟩:=rp.get q3
     exact ⟨v,by simp [h1],h3.step kpa⟩
   ·rw [enE] at h
    rcases get h with ⟨c,z⟩ | ⟨m,t',e,q3,z⟩
    ·cases z;subst c
     exact ⟨a0,us,by simp,hid0,k3.step kpa,⟨fun _=>rfl,fun _=>rfl⟩⟩
    ·cases z
   ·rw [enE] at h1 h3
    rcases get h1 with ⟨c,z⟩ | ⟨m,t',e,q3,z⟩
    ·rcases get h3 with ⟨c',z'⟩ | ⟨m,t',e,q3,z'⟩
     ·rw [c,c']
     ·cases z'
    ·cases z
   ·cases z;exact ⟨us,hid0⟩
   ·simp [boxIn] at z
   ·obtain ⟨ws',b1,b2⟩:=bxk a0 rfl
    have hk0:∀b o,H2 b=some o→b≠a0→back (fun b=>Ow B S' E b∧b≠a0) H2 H1 b=some o:=fun b o z n=>by
     by_cases c:Ow B S' E b
     ·rw [back_z ⟨c,n⟩];exact z
     ·rw [back_n fun y=>c y.1]
      exact fr b o (by rw [hide_n fun y=>c y.1];exact z) (by intro y;cases y;exact n rfl)
    have hb0:back (fun b=>Ow B S' E b∧b≠a0) H2 H1 a0=some (.lst ws'):=by rw [back_n fun y=>y.2 rfl];exact b1
    have kpo:Kp (fun b=>some a0=some b) (Ow B S' E) H1 (back (fun b=>Ow B S' E b∧b≠a0) H2 H1):=⟨fun b o z n=>by
      rw [back_n fun y=>by rw [gone b y] at z;cases z];exact z,fun b z=>by
      by_cases c:b=a0
      ·exact .inl (by rw [c])
      ·exact .inr (gone b ⟨z,c⟩)⟩
    have kpb:Kp (LstOf H1) (Ow B S' E) H1 (back (fun b=>Ow B S' E b∧b≠a0) H2 H1):=⟨fun b o z n=>by
      rw [back_n fun y=>by rw [gone b y] at z;cases z];exact z,fun b z=>by
      by_cases c:b=a0
      ·exact .inl (by rw [c];exact ⟨_,b1⟩)
      ·exact .inr (gone b ⟨z,c⟩)⟩
    generalize back (fun b=>Ow B S' E b∧b≠a0) H2 H1=H' at hk0 hb0 kpo kpb ⊢
    have hk:∀b o,H2 b=some o→¬Ow B S' E b→H' b=some o:=fun b o z n=>hk0 b o z fun c=>n (by rw [c];exact ow0)
    have getE:∀{i:Nat} {u:U},(E.set jb (some (.o kb ys)))[i]? = some (some u)→(i=jb∧u = .o kb ys)∨(i≠jb∧E[i]? = some (some u)):=fun {i u} h=>by
     by_cases c:i=jb
     ·subst c
      rw [List.getElem?_set_self (List.getElem?_eq_some_iff.mp hE).1] at h
      cases h;exact .inl ⟨rfl,rfl⟩
     ·rw [List.getElem?_set_ne (fun z=>c z.symm)] at h;exact .inr ⟨c,h⟩
    have kp:Kp (Ow B S' E) (Ow B S' E) H2 H':=⟨hk,fun b z=>.inl z⟩
    have owE:∀b,Ow B S' (E.set jb (some (.o kb ys))) b→Ow B S' E b:=fun b z=>by
     rcases z with z | ⟨i,k,zs,z1,z2⟩
     ·exact .inl z
     rcases getE z1 with ⟨c,z⟩ | ⟨c,z⟩
     ·subst c;exact .inr ⟨_,kb,xs,hE,z2⟩
     ·exact .inr ⟨i,k,zs,z,z2⟩
    have re':RE K B H' S' (E.set jb (some (.o kb ys))):=by
     refine re.step hk (by simp) (fun i t h=>?_) (fun i k zs h=>?_) (fun a z=>?_)
     ·rcases getE h with ⟨_,z⟩ | ⟨_,z⟩
      ·cases z
      ·exact z
     ·rcases getE h with ⟨c,z⟩ | ⟨c,z⟩
      ·cases z;subst c
       refine ⟨xs,hE,fun a ha=>?_⟩
       rw [h0'] at ha;cases ha
       exact ⟨ws',hb0,b2.step kpb⟩
      ·refine ⟨zs,z,fun a ha=>?_⟩
       obtain ⟨a',us',p1,p2,p3,_⟩:=re.own i k zs z
       rw [ha] at p1;cases p1
       have na:a≠a0:=fun w=>c (re.inj i jb k kb zs xs a0 z hE (by rw [←w];exact ha) h0')
       exact ⟨us',hk0 a _ p2 na,p3.step kp⟩
     ·by_cases c:a=a0
      ·rw [c];exact ⟨_,hb0⟩
      ·obtain ⟨us',e⟩:=re.bd a z
       exact ⟨us',hk0 a _ e c⟩
    exact lk _ _ _ _ _ q2 ⟨⟨fun b o z n=>hk b o z fun y=>n (owz b y),fun b z=>.inl (owz b (owE b z))⟩,[],by simp⟩ re' (Rp.step (Kp.mk (fun b o z n=>kpo.keep b o z n) fun b z=>kpo.new b (owE b z)) rv)
  ·exact q.elim
 ·exact q.elim
theorem fe_callZ0 {n k j:Nat} {x:Str} {ps:List Str} {S:SpT} {p:Pos} (F:Fn X.prog X.w X.K X.mg X.base k x ps (spOfL K S)) (hr:Room j X.A) (hk:k≤j) (hg:Gl X x) (ha:QA X (e::es) (simA K n Fr)) (hdb:(x==("__debug__":Str))=false:=by decide)
  (hs:noStar (e::es)=true:=by rfl):QE X (.Call (.Name x p) (e::es) [] pos) (simE K (fCallZ0 S Fr)):=by
 refine (qe_fnS F.frame hr hk hg ha hdb hs).le fun σ H Q hl h=>args (Fr:=Fr) h fun B S' E0 rs vs H2 Q' hS re0 rr hn q lk=>?_
 rw [List.append_nil]
 obtain ⟨z,ez,q⟩:=o1.ex q
 obtain ⟨re,owz,rp⟩:=frzR_ok re0 rr ez
 obtain ⟨ts,E⟩:=z
 simp only at q re owz rp
 have get:∀{i:Nat} {u:U},(enA (ts.map A.v))[i]? = some (some u)→∃t,ts[i]? = some t∧u = .p t:=fun {i u} h=>by
  have enE:enA (ts.map A.v)=ts.map fun t=>some (U.p t):=enA_v
  rw [enE,List.getElem?_map] at h
  cases q:ts[i]? with
  | none=>rw [q] at h;cases h
  | some t=>rw [q] at h;simp at h;exact ⟨t,rfl,h.symm⟩
 have ow:∀b,¬Ow (fun c=>(none:Option Addr)=some c) (vs.map some) (enA (ts.map A.v)) b:=fun b z=>by
  rcases z with z | ⟨i,kk,ys,h3,h4⟩
  ·cases z
  ·obtain ⟨t,_,z⟩:=get h3
   cases z
 have kpa:Kp (Ow B S' E) (Ow (fun c=>(none:Option Addr)=some c) (vs.map some) (enA (ts.map A.v))) H2 (hide (Ow B S' E) H2):=⟨fun b o h n=>by rw [hide_n n];exact h,fun b z=>absurd z (ow b)⟩
 refine ⟨Ow B S' E,fun c z=>re.ow z,ts.map A.v,_,none,⟨by simp [enA,enA_v,rp.length],fun i t h=>?_,fun i kk ys h=>?_,fun i i' kk l ys zs b h1=>?_,fun c z=>by cases z⟩,fun _=>rfl,q,fun t ys v H1 q2 fr bxk rv gone=>?_⟩
 ·obtain ⟨t',h1,z⟩:=get h
  cases z
  obtain ⟨v,h3,h4⟩:=rp.get h1
  exact ⟨v,by simp [h3],h4.step kpa⟩
 ·obtain ⟨t',h1,z⟩:=get h
  cases z
 ·obtain ⟨t',_,z⟩:=get h1
  cases z
 ·have hk:∀b o,H2 b=some o→back (Ow B S' E) H2 H1 b=some o:=fun b o z=>by
   by_cases c:Ow B S' E b
   ·rw [back_z c];exact z
   ·rw [back_n c];exact fr b o (by rw [hide_n c];exact z) (by intro y;cases y)
  have kpo:Kp (fun b=>(none:Option Addr)=some b) (Ow B S' E) H1 (back (Ow B S' E) H2 H1):=⟨fun b o z n=>by
    rw [back_n fun y=>by rw [gone b y] at z;cases z];exact z,fun b z=>.inr (gone b z)⟩
  generalize back (Ow B S' E) H2 H1=H' at hk kpo ⊢
  have kp:Kp (Ow B S' E) (Ow B S' E) H2 H':=⟨fun b o z _=>hk b o z,fun b z=>.inl z⟩
  have re':RE K B H' S' E:=by
   refine re.step (fun b o z _=>hk b o z) rfl (fun i t h=>h) (fun i k zs h=>⟨zs,h,fun a ha=>?_⟩) (fun a z=>?_)
   ·obtain ⟨a',us',p1,p2,p3,_⟩:=re.own i k zs h
    rw [ha] at p1;cases p1
    exact ⟨us',hk a _ p2,p3.step kp⟩
   ·obtain ⟨us',e⟩:=re.bd a z
    exact ⟨us',hk a _ e⟩
  exact lk _ _ _ _ _ q2 ⟨⟨fun b o z _=>hk b o z,fun b z=>.inl (owz b z)⟩,[],by simp⟩ re' (Rp.step kpo rv)
end
end L2
set_option Elab.async false
set_option linter.all false
set_option maxRecDepth 100000
set_option maxHeartbeats 4000000
namespace L2
open PySem PySem.Spec PyProof.Rows
theorem textFrom_le:∀(ts:List Str) (k:Nat) (acc:Str),(textFrom k acc ts).length≤acc.length+piled ts
 | [],k,acc=>Nat.le_refl _
 | t::ts,k,acc=>by
  have h:=textFrom_le ts (k+1) (acc++(if k>0 then ", " else "":String)++t)
  have l:((if k>0 then ", " else "":String):Str).length≤2:=by split<;>decide
  rw [Str.length_append,Str.length_append] at h
  rw [piled_cons]
  show (textFrom (k+1) (acc++(if k>0 then ", " else "":String)++t) ts).length≤_
  omega
mutual
theorem len_okA:∀{t:T},shT t=true→(dataT t).shown.length≤lenB t
 | .non,_=>by decide
 | .bl b,_=>by cases b<;>decide
 | .int i,h=>by
  have h':i.natAbs.log2<1920:=of_decide_eq_true h
  exact int_text_len_1921 h'
 | .str x,_=>Nat.le_refl _
 | .lst xs,k=>by
  have q:=lens_okA (xs:=xs) k
  show (textFrom 0 "[" (PyData.shownAll (dataTs xs))++("]":Str)).length≤lenBs xs+3
  have e1:(("[":String):Str).length=1:=rfl
  have e3:(("]":String):Str).length=1:=rfl
  have:=textFrom_le (PyData.shownAll (dataTs xs)) 0 "["
  rw [Str.length_append,e3]
  omega
 | .tup xs,k=>by
  have q:=lens_okA (xs:=xs) k
  show (tupleText (PyData.shownAll (dataTs xs))).length≤lenBs xs+3
  unfold tupleText
  have e1:(("(":String):Str).length=1:=rfl
  have e2:((",)":String):Str).length=2:=rfl
  have e3:((")":String):Str).length=1:=rfl
  have l2:(((if (PyData.shownAll (dataTs xs)).length==1 then ",)" else ")":String)):Str).length≤2:=by
   split
   ·rw [e2];exact Nat.le_refl _
   ·rw [e3];decide
  rw [Str.length_append,Str.length_append,e1]
  by_cases c:PyData.shownAll (dataTs xs)=[]
  ·rw [c]
   have:(Str.join ", " ([]:List Str)).length=0:=rfl
   rw [c] at l2
   omega
  ·have:=join_length_add _ c
   omega
theorem lens_okA:∀{xs:List T},shTs xs=true→piled (PyData.shownAll (dataTs xs))≤lenBs xs
 | [],_=>Nat.le_refl _
 | x::xs,k=>by
  have k':shT x=true∧shTs xs=true:=by simpa [shTs] using k
  have q1:=len_okA k'.1
  have q2:=lens_okA k'.2
  show piled ((dataT x).shown::PyData.shownAll (dataTs xs))≤lenB x+2+lenBs xs
  rw [piled_cons]
  omega
end
section
variable {X:Cx} {pins:List (Addr×Obj)} {σ:St} {H:Hp} {s:Shared} {O:Addr→Prop}
mutual
theorem rp_readsA (I:Inv X pins σ H s):∀{t:T} {v:V} {u:Value},Rp X.K H O t v→RelV v u→∃as,Reads s.heap u (dataT t) as
 | .non,v,u,h,r=>by
  have h:v = .non:=h
  subst h;cases r;exact ⟨_,.none⟩
 | .bl b,v,u,h,r=>by
  have h:v = .bl b:=h
  subst h;cases r;exact ⟨_,.bool b⟩
 | .int i,v,u,h,r=>by
  have h:v = .int i:=h
  subst h;obtain ⟨t,rfl⟩:=r;exact ⟨_,.int i t⟩
 | .str x,v,u,h,r=>by
  have h:v = .str x:=h
  subst h;obtain ⟨t,rfl⟩:=r;exact ⟨_,.str x t⟩
 | .lst xs,v,u,h,r=>by
  obtain ⟨a,vs,rfl,sq,rs⟩:=h.sqL
  cases r
  obtain ⟨its,rv,⟨o,n,ho,hc,hd,_⟩,hz⟩:=I.list sq
  obtain ⟨as,ra⟩:=rps_readsA I (xs:=xs) rs rv
  exact ⟨_,.list ho (by assumption) (by assumption) (by simpa using ra)⟩
 | .tup xs,v,u,h,r=>by
  obtain ⟨a,vs,rfl,sq,rs⟩:=h.sqT
  cases r
  obtain ⟨its,rv,⟨o,ho,hc,n,hd⟩,hz⟩:=I.tuple sq
  obtain ⟨as,ra⟩:=rps_readsA I (xs:=xs) rs rv
  exact ⟨_,.tuple ho hc hd (by simpa using ra)⟩
theorem rps_readsA (I:Inv X pins σ H s):∀{xs:List T} {vs:List V} {us:List Value},Rps X.K H O xs vs→Vals vs us→∃as,ReadsAll s.heap us (dataTs xs) as
 | [],vs,us,h,r=>by
  have h:vs=[]:=h
  subst h;cases r;exact ⟨_,.nil⟩
 | x::xs,vs,us,h,r=>by
  obtain ⟨v,ws,rfl,h1,h2⟩:=h
  cases r with
  | cons r1 r2=>
   obtain ⟨as,q1⟩:=rp_readsA I h1 r1
   obtain ⟨bs,q2⟩:=rps_readsA I h2 r2
   exact ⟨_,.cons q1 q2⟩
end
end
theorem Rt.rp0 {K:PySem.W.Frag} {H:Hp} {O:Addr→Prop}:∀{t:T} {v:V},Rt K H O t v→Rp K H (fun _=>False) t v
 | .non,_,h=>h
 | .bl _,_,h=>h
 | .int _,_,h=>h
 | .str _,_,h=>h
 | .tup xs,v,⟨a,vs,e,sq,rs⟩=>⟨a,vs,e,sq.imp (fun h=>⟨fun z=>z,h⟩) id,rs.step (Kp.less fun _ z=>z.elim)⟩
 | .lst xs,v,⟨a,vs,e,sq,rs⟩=>⟨a,vs,e,sq.imp (fun h=>⟨fun z=>z,h⟩) id,rs.step (Kp.less fun _ z=>z.elim)⟩
def shwA:T→Str
 | .str z=>z
 | t=>(dataT t).shown
section
variable {X:Cx} {K:PySem.W.Frag} {a b e:Expr} {es:List Expr} {pos:Pos} {Fr:FA} {Fa Fb:FE}
theorem call_strA {k:Nat} (hr:Room k X.A):CallR X (.type "str") (fun xs H Q=>∃(v:V) (t:T) (O:Addr→Prop),xs=[v]∧Rp X.K H O t v∧shT t=true∧dT t≤40∧lenB t≤10000000∧Q (.str (shwA t)) H):=by
 intro pins s σ H xs us Q I r h
 obtain ⟨v,t,O,rfl,rp,h2,h3,h4,q⟩:=h
 obtain ⟨u,rfl,rx⟩:=vals1 r
 have ref:∀a,u = .ref a→shwA t=(dataT t).shown→wpAny (model X.prog X.w) X.A (call (.type "str") [u]) (EP X pins σ Q) X.xe s:=fun a ea es=>by
  obtain ⟨as,rd⟩:=rp_readsA I rp rx
  subst ea
  refine str_of_reads rd (sh_ok h2) (fun h=>by rw [nd_ok t] at h;cases h) hr.gd ?_ (fun _ _ e=>e) (fun h' u tk hk=>⟨.str _,H,I.kept hk,⟨u,rfl⟩,by rw [←es];exact q⟩) ?_
  ·have:=hr.un
   have:=dep_ok t
   omega
  ·have:=len_okA h2
   rw [sizeLine_eq]
   omega
 cases t with
 | str z=>
  have h:v = .str z:=rp
  subst h
  obtain ⟨t,rfl⟩:=rx
  exact PySem.P.str_of_str ⟨.str z,H,I,⟨t,rfl⟩,q⟩
 | non=>
  have h:v = .non:=rp
  subst h
  cases rx
  exact PySem.P.str_of_none ⟨.str _,H,I.kept (h':=s.heap) (fun _ _ e=>e),⟨_,rfl⟩,q⟩
 | bl b=>
  have h:v = .bl b:=rp
  subst h
  cases rx
  exact PySem.P.str_of_bool ⟨.str _,H,I.kept (h':=s.heap) (fun _ _ e=>e),⟨_,rfl⟩,by cases b<;>exact q⟩
 | int i=>
  have h:v = .int i:=rp
  subst h
  obtain ⟨t,rfl⟩:=rx
  exact PySem.P.str_of_int (of_decide_eq_true h2) ⟨.str _,H,I.kept (h':=s.heap) (fun _ _ e=>e),⟨_,rfl⟩,q⟩
 | tup ts=>
  obtain ⟨a,vs,rfl,sq,rs⟩:=rp.sqT
  cases rx
  exact ref a rfl rfl
 | lst ts=>
  obtain ⟨a,vs,rfl,sq,rs⟩:=rp.sqL
  cases rx
  exact ref a rfl rfl
def fStrA (Fr:FA):FE:=fun E Q=>Fr E fun rs E1=>match rs with
 | [x]=>o1 (vl E1 x) fun t=>shT t=true∧dT t≤40∧lenB t≤10000000∧∀z,z=shwA t→Q (.p (.str z)) E1
 | _=>False
theorem fe_strA {k n:Nat} {p:Pos} (eK:X.K=K) (hr:Room k X.A) (hg:Gl X "str") (hm:X.mg "str" = none) (ha:QA X (e::es) (simA K n Fr)) (hs:noStar (e::es)=true:=by rfl):QE X (.Call (.Name "str" p) (e::es) [] pos) (simE K (fStrA Fr)):=by
 subst eK
 refine (qe_callTyS (call_strA hr) hg hm (by decide +kernel) ha (by decide) (by decide) hs).le fun σ H Q hl h=>args (Fr:=Fr) h fun B S E rs vs H2 Q' hS re rr hn q lk=>?_
 match rs,rr,q with
 | [x],⟨v,ws,e1,h1,h2⟩,q=>
  cases h2;subst e1
  obtain ⟨t,e2,q2,q3,q4,q⟩:=o1.ex q
  exact ⟨_,t,(fun _=>False),rfl,(re.vl h1 e2).rp0,q2,q3,q4,lk _ _ _ _ _ (q _ rfl) .refl re rfl⟩
 | [],_,q=>exact q.elim
 | _::_::_,_,q=>exact q.elim
def rCatV (K:PySem.W.Frag):R2:=fun x y H Q=>∃l b xs zs,x = .ref l∧y = .ref b∧SqL K H l xs∧SqL K H b zs∧xs.length+zs.length≤sizeLine∧∀p,H p=none→Q (.ref p) (upd H p (.lst (xs++zs)))
theorem op_catV:OpR X (binaryOp .Add) (rCatV X.K):=by
 intro pins s σ H x y v u Q I rx ry h
 obtain ⟨l,b,xs,zs,rfl,rfl,hH,hB,hz,q⟩:=h
 cases rx
 cases ry
 obtain ⟨its,r,⟨o,n,e,hc,hd,hs⟩,hl⟩:=I.list hH
 obtain ⟨its2,r2,⟨o2,n2,e2,hc2,hd2,hs2⟩,hl2⟩:=I.list hB
 have l1:=r.length
 have l2:=r2.length
 obtain ⟨cls,dd,data,sl⟩:=o
 obtain ⟨cls2,dd2,data2,sl2⟩:=o2
 simp only at hc hd hs hc2 hd2 hs2
 subst hc hd hs hc2 hd2 hs2
 refine concat_meets ⟨_,e,rfl⟩ ⟨_,e2,rfl⟩ noFill_list_add seq_list_add PySem.F.slot_list_add PySem.F.entry_list_add (PySem.F.args_list_add_2 _ _) (list_addW l b its.toArray its2.toArray n n2 none none sl sl2 (by rw [List.size_toArray,List.size_toArray];omega)) ⟨e,e2,?_⟩
 have ea:its.toArray++its2.toArray=(its++its2).toArray:=by simp
 rw [ea]
 exact ⟨.ref _,_,I.lnew (t':=s.toks) (r.append r2) (by rw [List.length_append];omega),rfl,q _ I.fresh⟩
def fCatV (Fa Fb:FE):FE:=fun E Q=>Fa E fun x E1=>Fb E1 fun y E2=>match vl E2 x,vl E2 y with
 | some (.lst xs),some (.lst ys)=>xs.length+ys.length≤1000∧Q (.s E2.length) (E2++[some (.o false (xs++ys))])
 | _,_=>False
theorem fe_catV (eK:X.K=K) (ha:QE X a (simE K Fa)) (hb:QE X b (simE K Fb)):QE X (.BinOp a .Add b pos) (simE K (fCatV Fa Fb)):=by
 subst eK
 refine (qe_op op_catV ha hb).le fun σ H Q hl h=>two (Fa:=Fa) (Fb:=Fb) h fun B S E x y v w H2 Q' hS re rx ry q lk=>?_
 split at q
 ·rename_i xs ys e1 e2
  obtain ⟨hz,q⟩:=q
  obtain ⟨p,vs,rfl,h2,h3⟩:=re.vl rx e1
  obtain ⟨p',vs',rfl,h2',h3'⟩:=re.vl ry e2
  refine ⟨p,p',vs,vs',rfl,rfl,h2,h2',by rw [h3.length,h3'.length];exact Nat.le_of_lt (small1000 hz),fun r hr=>?_⟩
  obtain ⟨g,re'⟩:=re.lst hr (h3.append h3')
  exact lk _ _ _ _ _ q g re' (by rw [←re.len];exact get_last)
 ·exact q.elim
end
end L2
set_option Elab.async false
set_option linter.all false
set_option maxRecDepth 100000
set_option maxHeartbeats 4000000
namespace L2
open PySem PySem.Spec PyProof.Rows
section
variable {X:Cx} {K:PySem.W.Frag} {pos:Pos} {a b e o:Expr} {Fa Fb Fo:FE} {Fr:FA}
def rInU (K:PySem.W.Frag) (ng:Bool):R2:=fun x y H Q=>∃t xs p vs,Rq K H t x∧y = .ref p∧SqT K H p vs∧Rqs K H xs vs∧dTs xs≤50∧Q (.bl (if ng then !(inT t xs) else inT t xs)) H
theorem op_ninU {k:Nat} (hr:Room k X.A):OpR X (compareOp .NotIn) (rInU X.K true):=by
 intro pins s σ H x y v u Q I rx ry h
 obtain ⟨t,xs,p,vs,ht,rfl,hq,hxs,hd,q⟩:=h
 cases ry
 obtain ⟨its,r,pl,hz⟩:=I.tuple hq
 obtain ⟨e,q1,q2⟩:=in_core hr I ht rx hxs r hd
 refine SeqAt.notIn_tupleAt e pl (fun w hw=>q2 w (by simpa using hw)) ⟨.bl _,H,I,rfl,?_⟩
 rw [show its.toArray.any e=its.any e by simp,q1]
 exact q
def fInU (ng:Bool) (Fa Fb:FE):FE:=fun E Q=>Fa E fun x E1=>Fb E1 fun y E2=>t2 (vl E2 x) (vl E2 y) fun t u=>match u with
 | .tup xs=>dTs xs≤50∧Q (.p (.bl (if ng then !(inT t xs) else inT t xs))) E2
 | _=>False
theorem ft_ninU {k:Nat} (eK:X.K=K) (hr:Room k X.A) (ha:QE X a (simE K Fa)) (hb:QE X b (simE K Fb)) (hm:behindInMarks .NotIn b=false):QT X (.Compare a [.NotIn] [b] pos) (simB K (bVal (fInU true Fa Fb))):=by
 subst eK
 refine ft_cmp (op_ninU hr) ha hb hm fun σ H Q h=>two (Fa:=Fa) (Fb:=Fb) h fun B S E x y v w H2 Q' hS re rx ry q lk=>?_
 obtain ⟨t,u,e1,e2,q⟩:=t2.ex q
 split at q
 ·rename_i xs
  obtain ⟨p,vs,e3,sq,rs⟩:=re.vl ry e2
  exact ⟨t,xs,p,vs,(re.vl rx e1).rq,e3,sq,rs.rq,q.1,lk _ _ _ _ _ q.2 .refl re rfl⟩
 ·exact q.elim
end
end L2
set_option Elab.async false
set_option linter.all false
set_option maxRecDepth 100000
set_option maxHeartbeats 4000000
namespace L2
open PySem PySem.Spec PyProof.Rows
def numV:V→Option Int
 | .int i=>some i
 | .bl b=>some (if b=true then 1 else 0)
 | _=>none
def numT:T→Option Int
 | .int i=>some i
 | .bl b=>some (if b=true then 1 else 0)
 | _=>none
theorem neg_truth {prog:Program} {w:World} {A:Around} {E:Value→Shared→Prop} {s:Shared} {b:Bool} {Q:Value→Shared→Prop} (h:Q (.int (-(if b=true then 1 else 0)) s.toks) { s with toks:=s.toks+1 }) :
  wpAny (model prog w) A (unaryOp .USub (.bool b)) Q E s:=by
 unfold unaryOp
 refine wpAny_holding ?_
 refine wpAny_bind (m:=callSpecial? (.bool b) (Str.ofString "__neg__")) (wpAny_callSpecial?_slot (name:=Str.ofString "__neg__") (show s.TypeIs (.bool b) "bool" from rfl) F.slot_bool_neg
  (wpAny_call_entry F.slot_bool_neg (show s.TypeIs (.bool b) "bool" from rfl) entry_int_neg ?_ (args_int_neg _)))
 cases b
 ·show wpAny _ _ (do ret (←mkInt (-0))) _ _ s
  exact wpAny_ret_mkInt (wpAny_pure h)
 ·show wpAny _ _ (do ret (←mkInt (-1))) _ _ s
  exact wpAny_ret_mkInt (wpAny_pure h)
section
variable {X:Cx} {K:PySem.W.Frag} {pos:Pos} {a b e o:Expr} {Fa Fb Fo:FE} {Fr:FA}
theorem rt_num {H:Hp} {O:Addr→Prop} {t:T} {v:V} {i:Int} (h:Rt K H O t v) (e:numT t=some i):numV v=some i:=by
 cases t with
 | int j=>cases h;exact e
 | bl b=>cases h;exact e
 | _=>cases e
def rN (C:Int→Int→Prop) (g:Int→Int→Int):R2:=fun x y H Q=>∃i j,numV x=some i∧y = .int j∧C i j∧Q (.int (g i j)) H
def rN' (C:Int→Int→Prop) (g:Int→Int→Int):R2:=fun x y H Q=>∃i j,x = .int i∧numV y=some j∧C i j∧Q (.int (g i j)) H
theorem op_addN:OpR X (binaryOp .Add) (rN (fun _ _=>True) fun i j=>i+j):=by
 intro pins s σ H x y v u Q I rx ry h
 obtain ⟨i,j,e,rfl,_,q⟩:=h
 cases x with
 | int k=>cases e;exact op_add pins s σ H _ _ v u Q I rx ry ⟨_,_,rfl,rfl,q⟩
 | bl b=>
  cases e;cases rx
  obtain ⟨t,rfl⟩:=ry
  exact IntBool.add_bool_int ⟨.int _,H,I.tok _,⟨_,rfl⟩,q⟩
 | _=>cases e
theorem op_subN:OpR X (binaryOp .Sub) (rN (fun _ _=>True) fun i j=>i-j):=by
 intro pins s σ H x y v u Q I rx ry h
 obtain ⟨i,j,e,rfl,_,q⟩:=h
 cases x with
 | int k=>cases e;exact op_sub pins s σ H _ _ v u Q I rx ry ⟨_,_,rfl,rfl,q⟩
 | bl b=>
  cases e;cases rx
  obtain ⟨t,rfl⟩:=ry
  exact IntBool.sub_bool_int ⟨.int _,H,I.tok _,⟨_,rfl⟩,q⟩
 | _=>cases e
theorem op_mulN:OpR X (binaryOp .Mult) (rN' My.CMulA fun i j=>i*j):=by
 intro pins s σ H x y v u Q I rx ry h
 obtain ⟨i,j,rfl,e,hc,q⟩:=h
 cases y with
 | int k=>cases e;exact My.op_mulA pins s σ H _ _ v u Q I rx ry ⟨_,_,rfl,rfl,hc,q⟩
 | bl b=>
  cases e;cases ry
  obtain ⟨t,rfl⟩:=rx
  exact IntBool.mul_int_bool ⟨.int _,H,I.tok _,⟨_,rfl⟩,q⟩
 | _=>cases e
theorem un_negN:UnR X (unaryOp .USub) (fun x H Q=>∃i,numV x=some i∧Q (.int (-i)) H):=by
 intro pins s σ H x v Q I rx h
 obtain ⟨i,e,q⟩:=h
 cases x with
 | int k=>cases e;exact un_neg pins s σ H _ v Q I rx ⟨_,rfl,q⟩
 | bl b=>
  cases e;cases rx
  exact neg_truth ⟨.int _,H,I.tok _,⟨_,rfl⟩,q⟩
 | _=>cases e
def fNl (C:Int→Int→Prop) (g:Int→Int→Int) (Fa Fb:FE):FE:=fun E Q=>Fa E fun x E1=>Fb E1 fun y E2=>t2 (vl E2 x) (vl E2 y) fun t u=>match u with
 | .int j=>o1 (numT t) fun i=>C i j∧Q (.p (.int (g i j))) E2
 | _=>False
def fNr (C:Int→Int→Prop) (g:Int→Int→Int) (Fa Fb:FE):FE:=fun E Q=>Fa E fun x E1=>Fb E1 fun y E2=>t2 (vl E2 x) (vl E2 y) fun t u=>match t with
 | .int i=>o1 (numT u) fun j=>C i j∧Q (.p (.int (g i j))) E2
 | _=>False
def fNegN (Fa:FE):FE:=fun E Q=>Fa E fun x E1=>o1 (vl E1 x) fun t=>o1 (numT t) fun i=>Q (.p (.int (-i))) E1
theorem fe_opN {op:Operator} {C:Int→Int→Prop} {g:Int→Int→Int} (ho:OpR X (binaryOp op) (rN C g)) (ha:QE X a (simE K Fa)) (hb:QE X b (simE K Fb)):QE X (.BinOp a op b pos) (simE K (fNl C g Fa Fb)):=by
 refine (qe_op ho ha hb).le fun σ H Q hl h=>two (Fa:=Fa) (Fb:=Fb) h fun B S E x y v w H2 Q' hS re rx ry q lk=>?_
 obtain ⟨t,u,e1,e2,q⟩:=t2.ex q
 split at q
 ·obtain ⟨i,e3,c,q⟩:=o1.ex q
  exact ⟨i,_,rt_num (re.vl rx e1) e3,re.vl ry e2,c,lk _ _ _ _ _ q .refl re rfl⟩
 ·exact q.elim
theorem fe_opN' {op:Operator} {C:Int→Int→Prop} {g:Int→Int→Int} (ho:OpR X (binaryOp op) (rN' C g)) (ha:QE X a (simE K Fa)) (hb:QE X b (simE K Fb)):QE X (.BinOp a op b pos) (simE K (fNr C g Fa Fb)):=by
 refine (qe_op ho ha hb).le fun σ H Q hl h=>two (Fa:=Fa) (Fb:=Fb) h fun B S E x y v w H2 Q' hS re rx ry q lk=>?_
 obtain ⟨t,u,e1,e2,q⟩:=t2.ex q
 split at q
 ·obtain ⟨j,e3,c,q⟩:=o1.ex q
  exact ⟨_,j,re.vl rx e1,rt_num (re.vl ry e2) e3,c,lk _ _ _ _ _ q .refl re rfl⟩
 ·exact q.elim
theorem fe_negN (ha:QE X a (simE K Fa)):QE X (.UnaryOp .USub a pos) (simE K (fNegN Fa)):=by
 refine (qe_un un_negN ha).le fun σ H Q hl h=>one (Fa:=Fa) h fun B S E x v H2 Q' hS re rx q lk=>?_
 obtain ⟨t,e1,q⟩:=o1.ex q
 obtain ⟨i,e2,q⟩:=o1.ex q
 exact ⟨i,rt_num (re.vl rx e1) e2,lk _ _ _ _ _ q .refl re rfl⟩
end
end L2
set_option Elab.async false
set_option linter.all false
set_option maxRecDepth 100000
set_option maxHeartbeats 4000000
namespace L2
open PySem PySem.Spec PyProof.Rows
section
variable {X:Cx} {K:PySem.W.Frag} {a b e o:Expr} {es:List Expr} {pos:Pos} {Fr:FA} {Fo:FE}
def sAsgU (i j:Nat) (Fr:FA):FS:=fun D E=>Fr E fun rs E'=>match rs with
 | [.p t,r]=>o1 (pick E.length E' r) fun u=>D.nx (((E'.take E.length).set j (some u)).set i (some (.p t)))
 | _=>False
theorem fs_asgU {n i j:Nat} {x y:Str} {px py pt:Pos} {kt k2 pt2} (hc:X.calm=true) (hN:X.N.Nodup) (hi:X.N[i]? = some x) (hj:X.N[j]? = some y) (hij:i≠j)
  (hx:Loc X.env.scope x) (hy:Loc X.env.scope y) (ha:QA X [a,b] (simA K n Fr))
  (hf:X.fn x=true∨X.env.scope.names.lookup x=some .local:=by first | exact .inl rfl | exact .inr rfl | assumption)
  (hf':X.fn y=true∨X.env.scope.names.lookup y=some .local:=by first | exact .inl rfl | exact .inr rfl | assumption)
  (hs:swapsWithSole [.Tuple [.Name x px,.Name y py] kt pt] (.Tuple [a,b] k2 pt2) pos.line X.env=pure false:=by rfl) (hw:swappedStores [.Tuple [.Name x px,.Name y py] kt pt] (.Tuple [a,b] k2 pt2) X.env=pure none:=by rfl)
  (h1:(assignEach [.Tuple [.Name x px,.Name y py] kt pt] X.env).map (·.2)=[assign (.Tuple [.Name x px,.Name y py] kt pt) X.env]:=by rfl)
  (hn2:(assignEach [.Name x px,.Name y py] X.env).length=2:=by rfl) (hst:(assignEach [.Name x px,.Name y py] X.env).findIdx? (·.1)=none:=by rfl)
  (hc1:(assignEach [.Name x px,.Name y py] X.env).map (·.2)=assign (.Name x px) X.env::(assignEach [.Name y py] X.env).map (·.2):=by rfl) (hc2:(assignEach [.Name y py] X.env).map (·.2)=assign (.Name y py) X.env::(assignEach [] X.env).map (·.2):=by rfl) :
  QS X (.Assign [.Tuple [.Name x px,.Name y py] kt pt] (.Tuple [a,b] k2 pt2) pos) (simS K (sAsgU i j Fr)):=by
 refine (qs_asg (qe_tup ha) (qg_tup hc (qgs_cons (qg_name hN hi hx hf) (qgs_cons (qg_name hN hj hy hf') qgs_nil hc2) hc1) hn2 hst) hs hw h1).le fun D σ H hl ⟨B,E,DT,re,hF,l⟩=>⟨B,σ,E,_,⟨[],by simp⟩,re,hF,fun rs E' vs H' S' q g re' rr hn=>?_⟩
 split at q
 ·rename_i t r
  obtain ⟨v,ws,e1,h1,w,ws',e2,h2,h3⟩:=rr
  cases h3;subst e2;subst e1
  obtain ⟨u,e3,q⟩:=q.ex
  rw [←re.len] at e3 q
  refine ⟨Nat.le_of_lt (small1000 (by simp)),fun p hp=>⟨p,[v,w],rfl,.inl (.inl upd_same),rfl,v,[w],rfl,w,[],rfl,rfl,?_⟩⟩
  have kq:∀b o,H' b=some o→upd H' p (.tup [v,w]) b=some o:=fun b o z=>by rw [upd_ne fun c=>by rw [c,hp] at z;cases z];exact z
  have re2:=re'.kept kq
  have kp:Kp (Ow B S' E') (Ow B S' E') H' (upd H' p (.tup [v,w])):=⟨fun b o z _=>kq b o z,fun b z=>.inl z⟩
  have h2':RR K B (upd H' p (.tup [v,w])) S' E' r w:=by
   cases r with
   | p t'=>exact Rp.step kp h2
   | s k=>exact h2
  obtain ⟨r1,ow⟩:=pick_ok (i:=j) re2 g.pre h2' e3
  obtain ⟨r2,ow2⟩:=r1.setP (i:=i) (Rp.step (Kp.less ow) (Rp.step kp h1))
  rw [List.set_comm _ _ hij]
  exact l.nx _ _ _ q ((g.kp.trans kp).trans (Kp.less fun b z=>ow b (ow2 b z))) r2
 ·exact q.elim
theorem extW {l b:Addr} {its zs:Array Value} {n m:Nat} {sl:Array (Option Value)} (hc:¬(!its.isEmpty&&Builtin.List.listTooLong (its.size+zs.size))=true) (h1:its.size≤sizeLine) (h2:its.size+zs.size≤sizeLine+1) :
  Meets (Builtin.«list.extend» ⟨[.ref l,.ref b],[]⟩) (fun _ R s=>s.heap.get? l=some { cls:=.type "list",data:=.seq its n }∧s.heap.get? b=some { cls:=.type "list",dict:=none,data:=.seq zs m,slots:=sl }∧
   R (.ok (.ret Value.none)) { s with heap:=s.heap.update l (Obj.mapSeq fun x=>x++zs),toks:=s.toks }):=by
 refine .of_wp fun prog w A R s h=>?_
 obtain ⟨hp,g,d,tk,os⟩:=s
 obtain ⟨hl,hb,h⟩:=h
 have g1:=AutoSeq1.idx_int
 have g2:=AutoSeq1.sub_tuple_tuple
 have g3:=AutoSeq1.sub_list_list
 have g4:=AutoSeq1.sub_tuple_list
 have g5:=AutoSeq1.sub_list_tuple
 have hz:(its++zs).size≤sizeLine+1:=by rw [Array.size_append];exact h2
 wp_walk using (wpAny_updateSeq hl rfl (hz:=h1) (_hz':=hz)),AutoSeq1.wpAny_loadPart' hl,AutoSeq1.wpAny_loadPart' hb
 exact ⟨_,rfl,h⟩
def rExtendV (K:PySem.W.Frag):V→List V→Hp→VK→Prop:=fun x vs H Q=>∃l b xs zs,x = .ref l∧vs=[.ref b]∧H l=some (.lst xs)∧SqL K H b zs∧xs.length+zs.length≤sizeLine∧Q .non (upd H l (.lst (xs++zs)))
theorem mt_extendV:MtM X "list.extend" (rExtendV X.K):=by
 intro pins s σ H x vs v us Q I rx rv h
 obtain ⟨l,b,xs,zs,rfl,rfl,hH,hB,hz,q⟩:=h
 cases rx
 obtain ⟨u,rfl,ru⟩:=rv.one
 cases ru
 obtain ⟨z,its,n,r,hl,e⟩:=I.lstM hH
 obtain ⟨its2,r2,⟨o2,n2,e2,hc2,hd2,hs2⟩,hl2⟩:=I.list hB
 have l1:=r.length
 have l2:=r2.length
 have hsz:its.toArray.size+its2.toArray.size≤sizeLine:=by rw [List.size_toArray,List.size_toArray];omega
 have hlong:¬(!its.toArray.isEmpty&&Builtin.List.listTooLong (its.toArray.size+its2.toArray.size))=true:=by
  rw [notLongL hsz,Bool.and_false]
  exact Bool.false_ne_true
 obtain ⟨cls2,dd2,data2,sl2⟩:=o2
 simp only at hc2 hd2 hs2
 subst hc2 hd2 hs2
 refine call_meets F.slot_list_extend ⟨_,e,rfl⟩ F.entry_list_extend (F.args_list_extend_2 _ _) (extW hlong (by rw [List.size_toArray];omega) (by omega)) ⟨e,e2,?_⟩
 refine ⟨.non,_,I.lset (its':=its++its2) hH e (by simp) (r.append r2) ?_,rfl,q⟩
 rw [List.length_append]
 omega
def extV (xs:List T) (r:R) (E:En):Option (List T):=match vl E r with
 | some (.lst ys)=>some (xs++ys)
 | _=>none
theorem fe_extendV {n:Nat} {ap:Pos} (eK:X.K=K) (ho:QE X o (simE K Fo)) (ha:QA X [e] (simA K n Fr)) (hbase:attributeBase o "extend" X.env (eval o X.env)=eval o X.env:=by rfl) (hline:(ap.endLine==pos.line)=true:=by rfl) (hs:isStar e=false:=by rfl) :
  QE X (.Call (.Attribute o "extend" ap) [e] [] pos) (simE K (fMeth1 extV Fo Fr)):=by
 subst eK
 refine QE.le (t:=tBM X.K "list" (rExtendV X.K) (simE X.K Fo) (simA X.K n Fr)) ⟨pe_bm PySem.F.plainAttrs_list PySem.F.slot_list_extend PySem.F.type_list_extend mt_extendV ho.h ha.h hbase (by rw [star_ok hs];rfl) hline (star_ok hs) (star_any rfl)⟩ fun σ H Q hl h=>meth1 rfl h fun B S E H2 xs ys rr y p vs Q re rx e hp hv hz k=>?_
 unfold extV at e
 split at e
 ·rename_i zs e2
  cases e
  obtain ⟨p',vs',rfl,h2,h3⟩:=re.vl rx e2
  refine ⟨p,p',vs,vs',rfl,rfl,hp,h2,?_,k _ (hv.append h3)⟩
  rw [hv.length,h3.length]
  rw [List.length_append] at hz
  exact Nat.le_of_lt (small1000 hz)
 ·cases e
end
end L2
set_option Elab.async false
set_option linter.all false
set_option maxRecDepth 100000
set_option maxHeartbeats 4000000
namespace My
open PySem L2 PyProof.Rows
def top (i:Nat):Stmt:=PySem.Challenge.pw_sidecut_k61_whole_spoilt_anywhere.main.body.getD i (.Pass ⟨0,0,0,0⟩)
section
variable {P:Program} {w:World} {K:PySem.W.Frag} {mg:Str→Option Value} {base:Heap}
structure Bx (xs:List T) (n:Int):Prop where
 ex:∃A B c:Int,xs=[.int A,.int B,.int c]∧0≤A∧0≤B∧B<2147483647∧0≤c∧c≤n
theorem Bx.mono {xs:List T} {n m:Int} (b:Bx xs n) (h:n≤m):Bx xs m:=let ⟨A,B,c,h1,h2,h3,h4,h5,h6⟩:=b;⟨A,B,c,h1,h2,h3,h4,h5,by omega⟩
def tTake:SpT:=fun as Q=>∃(xs:List T) (m n:Int),as=[.b xs,.v (.int m)]∧Bx xs n∧n≤1000000∧1≤m∧m<2^200∧∀r ys,0≤r→r<m→Bx ys (n+1)→Q (.v (.int r)) ys
abbrev s_take:Stmt:=top 23
theorem sc_take:FnScope ["_law_box","_law_many","_law_once","_law_found"] ["_law_box","_law_many"] (defScope s_take):=⟨rfl,rfl,rfl,by decide +kernel,rfl,by decide +kernel,by decide +kernel⟩
theorem ok_take {f:Addr} {fd:FuncData} (F:Fun K "_law_take" "_law_take" s_take f fd) (TX:Txt mg)    : FnOk P w K mg base CX0 1 f fd ["_law_box","_law_many"] (spOf K tTake):=by
 refine F.okT sc_take ?len (fun cdv A outer s H E hr=>(fb_cons (fs_if (ft_cp op_gt (fe_ix rfl (fv 0) fe_int (fun _ _=>rfl)) fe_int (nomark _)) (fb_cons (fs_asg (fe_divmod rfl TX.n_divmod (fc (fe_ix rfl (fv 0) fe_int (fun _ _=>rfl)) (fc (fv 1) fa_nil))) (fg_tup (n:=2) rfl rfl (fgs_cons (fg_sub (fv 0) fe_int) (fgs_cons (fg_name (i:=3) sc_take.nd rfl (Or.inl rfl)) fgs_nil))))
 (fb_one (fs_ret (fv 3)))) fb_nil)
 (fb_cons (fs_asg (fe_opI0 op_add (fe_ix rfl (fv 0) fe_int (fun _ _=>rfl)) fe_int) (fg_sub (fv 0) fe_int))
 (fb_cons (fs_set (i:=2) sc_take.nd rfl (Or.inl rfl) (fe_opI op_mod (fe_opI op_pow (fe_opI0 op_add (fe_ix rfl (fv 0) fe_int (fun _ _=>rfl)) (fe_opI op_mulA fe_int (fe_ix rfl (fv 0) fe_int (fun _ _=>rfl)))) fe_int) fe_int))
 (fb_one (fs_ret (fe_opI op_mod (fe_opI op_fdivZ (fe_opI op_mod (fe_opI0 op_add (fe_opI op_mulA (fv 2) fe_int) (fe_opI op_mulA (fe_opI op_mulA (fe_ix rfl (fv 0) fe_int (fun _ _=>rfl)) (fe_ix rfl (fv 0) fe_int (fun _ _=>rfl))) fe_int)) fe_int) fe_int) (fv 1)))))))) ?rd
 case len=>rintro as Q ⟨xs,m,n,rfl,_⟩;rfl
 case rd=>
  rintro as Q ⟨xs,m,n,rfl,⟨A,B,c,rfl,hA,hB,hB2,hc,hcn⟩,hn,h1,h2,k⟩
  show if decide (0<A)=true then _ else _
  by_cases hA0:0<A
  ·rw [decide_eq_true hA0,if_pos rfl]
   refine ⟨⟨by omega,h2⟩,⟨rfl,k _ _ (Int.emod_nonneg _ (by omega)) (Int.emod_lt_of_pos _ (by omega)) ⟨_,_,_,rfl,Int.ediv_nonneg hA (by omega),hB,hB2,hc,by omega⟩⟩⟩
  ·rw [decide_eq_false hA0,if_neg (by decide)]
   have p5:CPow (B+39373*(c+1)) 5:=⟨by decide,by decide,by omega⟩
   have o1:0≤(B+39373*(c+1))^(5:Int).toNat%2147483647:=Int.emod_nonneg _ (by decide)
   have o2:(B+39373*(c+1))^(5:Int).toNat%2147483647<2147483647:=Int.emod_lt_of_pos _ (by decide)
   have d64:CDivZ (((B+39373*(c+1))^(5:Int).toNat%2147483647*48271+(c+1)*(c+1)*7919)%2147483629) 64:=⟨by decide,Nat.lt_of_lt_of_le (show (64:Int).natAbs<2^7 by decide) (Nat.pow_le_pow_right (by decide) (by decide))⟩
   refine ⟨mulL (by decide),p5,(by show (0:Int)<2147483647;decide),?_⟩
   refine ⟨mulR (by decide),mulL (by omega),mulR (by decide),?_⟩
   refine ⟨(by show (0:Int)<2147483629;decide),d64,(by show (0:Int)<m;omega),⟨rfl,?_⟩⟩
   exact k _ _ (Int.emod_nonneg _ (by omega)) (Int.emod_lt_of_pos _ (by omega)) ⟨_,_,_,rfl,hA,hB,hB2,by omega,by omega⟩
def intsT (ns:List Int):List T:=ns.map T.int
theorem intsT_at {ns:List Int} {k:Int} (h0:0≤k) (h1:k<(ns.length:Int)):∃z,atI (intsT ns) k=some (.int z):=by
 have hk:k.toNat<ns.length:=by omega
 refine ⟨ns[k.toNat],?_⟩
 have e3:k=((k.toNat:Nat):Int):=by omega
 have z:=atI_nat (xs:=intsT ns) (j:=k.toNat) (v:=T.int ns[k.toNat]) (by rw [intsT,List.getElem?_map,List.getElem?_eq_getElem hk];rfl)
 rw [←e3] at z
 exact z
def tBoxOf:SpT:=fun as Q=>∃(ns:List Int) (k:Int),as=[.v (.lst (intsT ns)),.v (.int k)]∧0≤k∧k≤1000∧∀xs,Bx xs 0→noLs xs=true→Q (.l xs) []
abbrev s_box_of:Stmt:=top 22
theorem sc_box_of:FnScope ["_law_script","_law_k","_law_cell"] ["_law_script","_law_k"] (defScope s_box_of):=⟨rfl,rfl,rfl,by decide +kernel,rfl,by decide +kernel,by decide +kernel⟩
theorem ok_box_of {f:Addr} {fd:FuncData} (F:Fun K "_law_box_of" "_law_box_of" s_box_of f fd) (TX:Txt mg)    : FnOk P w K mg base CX0 1 f fd ["_law_script","_law_k"] (spOf K tBoxOf):=by
 refine F.okT sc_box_of ?len (fun cdv A outer s H E hr=>(fb_cons (fs_set (i:=2) sc_box_of.nd rfl (Or.inl rfl) fe_int)
 (fb_cons (fs_if (ft_cp op_lt (fv 1) (fe_len rfl rfl TX.n_len (fc (fv 0) fa_nil)) (nomark _)) (fb_one (fs_set (i:=2) sc_box_of.nd rfl (Or.inl rfl) (fe_ix rfl (fv 0) (fv 1) (fun _ _=>rfl)))) fb_nil)
 (fb_one (fs_ret (fe_lst (fc (fe_opI op_mulA (fe_abs rfl TX.n_abs (fc (fv 2) fa_nil)) (fe_intB rfl TX.n_int (fc (fe_cp op_ge (fe_abs rfl TX.n_abs (fc (fv 2) fa_nil)) (fe_opI op_pow fe_int fe_int) (nomark _)) fa_nil))) (fc (fe_opI op_mod (fe_opI0 op_add (fv 2) (fe_opI op_mulA (fe_opI op_mulA fe_int (fv 1)) (fv 1))) fe_int) (fc fe_int fa_nil))))))))) ?rd
 case len=>rintro as Q ⟨ns,k,rfl,_⟩;rfl
 case rd=>
  rintro as Q ⟨ns,k,rfl,h0,h1,q⟩
  have p10:CPow 10 18:=⟨by decide,by decide,by decide⟩
  have bx:∀z:Int,Bx [.int ((z.natAbs:Int)*(if decide ((10:Int)^(18:Int).toNat≤(z.natAbs:Int))=true then 1 else 0)),.int ((z+7919*k*k)%2147483647),.int 0] 0:=fun z=>
   ⟨_,_,_,rfl,Int.mul_nonneg (by omega) (by split<;>decide),Int.emod_nonneg _ (by decide),Int.emod_lt_of_pos _ (by decide),by decide,by decide⟩
  have k2:(7919*k).natAbs<2^60:=by omega
  have one:∀z:Int,(if decide ((10:Int)^(18:Int).toNat≤(z.natAbs:Int))=true then (1:Int) else 0).natAbs<2^60:=fun z=>by split<;>decide
  have pm:(fun (_ j:Int)=>0<j) 0 2147483647:=by show (0:Int)<2147483647;decide
  show if decide (k<((intsT ns).length:Int))=true then _ else _
  by_cases hk:k<((intsT ns).length:Int)
  ·rw [decide_eq_true hk,if_pos rfl]
   obtain ⟨z,hz⟩:=intsT_at (ns:=ns) h0 (by simpa [intsT] using hk)
   show o1 (atI (intsT ns) k) _
   rw [hz]
   exact ⟨p10,mulR (one z),mulL (by decide),mulL k2,pm,⟨rfl,q _ (bx z) rfl⟩⟩
  ·rw [decide_eq_false hk,if_neg (by decide)]
   exact ⟨p10,mulR (one 0),mulL (by decide),mulL k2,pm,⟨rfl,q _ (bx 0) rfl⟩⟩
def tLow:SpT:=fun as Q=>∃(n d:Int),as=[.v (.int n),.v (.int d)]∧d≠0∧d.natAbs<2^8000∧Q (.v (fr (low n d))) []
theorem cdivZ {i:Int} {n d:Int} (hd:d≠0) (hb:d.natAbs<2^8000):CDivZ i ((Nat.gcd n.natAbs d.natAbs:Nat):Int):=by
 have h1:0<Nat.gcd n.natAbs d.natAbs:=Nat.gcd_pos_of_pos_right _ (by omega)
 have h2:Nat.gcd n.natAbs d.natAbs≤d.natAbs:=Nat.gcd_le_right _ (by omega)
 exact ⟨by omega,Nat.lt_of_le_of_lt (by omega) hb⟩
theorem fdivN (i:Int) (n:Nat):i.fdiv (n:Int)=i/(n:Int):=Int.fdiv_eq_ediv_of_nonneg _ (by omega)
def tCommon:SpT:=fun as Q=>∃(n d:Int),as=[.v (.int n),.v (.int d)]∧Q (.v (.int ((Nat.gcd n.natAbs d.natAbs:Nat):Int))) []
abbrev s_common_divisor:Stmt:=top 2
theorem sc_common_divisor:FnScope ["one","other"] ["one","other"] (defScope s_common_divisor):=⟨rfl,rfl,rfl,by decide +kernel,rfl,by decide +kernel,by decide +kernel⟩
theorem ok_common_divisor {f:Addr} {fd:FuncData} (F:Fun K "common_divisor" "common_divisor" s_common_divisor f fd) (TX:Txt mg)    : FnOk P w K mg base CX0 1 f fd ["one","other"] (spOf K tCommon):=by
 refine F.okT sc_common_divisor ?len (fun cdv A outer s H E hr=>(fb_cons (fs_par (i:=0) (j:=1) rfl sc_common_divisor.nd rfl rfl (by decide) rfl rfl (fc (fe_abs rfl TX.n_abs (fc (fv 0) fa_nil)) (fc (fe_abs rfl TX.n_abs (fc (fv 1) fa_nil)) fa_nil)) rfl)
 (fb_cons (fs_while PassesOwn.never (ft_ne rfl hr (fv 1) fe_int (nomark _)) (fb_one (fs_par (i:=0) (j:=1) rfl sc_common_divisor.nd rfl rfl (by decide) rfl rfl (fc (fv 1) (fc (fe_opI op_mod (fv 0) (fv 1)) fa_nil)) rfl)))
 (fb_one (fs_ret (fv 0)))))) ?rd
 case len=>rintro as Q ⟨n,d,rfl,_⟩;rfl
 case rd=>
  rintro as Q ⟨n,d,rfl,q⟩
  refine ⟨fun m E=>∃x y:Nat,E=[some (.p (.int x)),some (.p (.int y))]∧m=y∧Nat.gcd x y=Nat.gcd n.natAbs d.natAbs,⟨_,_,_,rfl,rfl,rfl⟩,?_⟩
  rintro m E ⟨x,y,rfl,rfl,hg⟩
  refine ⟨Nat.zero_le _,?_⟩
  show if (!((m:Int)==0))=true then _ else _
  by_cases hy:m=0
  ·subst hy
   rw [if_neg (by decide)]
   rw [Nat.gcd_zero_right] at hg
   subst hg
   exact ⟨rfl,q⟩
  ·rw [if_pos (by simpa using hy)]
   exact ⟨(by show (0:Int)<(m:Int);omega),x%m,Nat.mod_lt _ (by omega),m,x%m,rfl,rfl,by rw [gcd_step];exact hg⟩
abbrev s_fraction:Stmt:=top 4
theorem sc_fraction:FnScope ["n","d","divisor"] ["n","d"] (defScope s_fraction):=⟨rfl,rfl,rfl,by decide +kernel,rfl,by decide +kernel,by decide +kernel⟩
theorem ok_fraction {f:Addr} {fd:FuncData} (F:Fun K "fraction" "fraction" s_fraction f fd) (TX:Txt mg) (g_common_divisor:Fn P w K mg base 1 "common_divisor" ["one","other"] (spOf K tCommon))   : FnOk P w K mg base CX0 2 f fd ["n","d"] (spOf K tLow):=by
 refine F.okT sc_fraction ?len (fun cdv A outer s H E hr=>(fb_cons (fs_assert (ft_ne rfl hr (fv 1) fe_int (nomark _)))
 (fb_cons (fs_set (i:=2) sc_fraction.nd rfl (Or.inl rfl) (fe_call g_common_divisor hr (by omega) rfl (fc (fv 0) (fc (fv 1) fa_nil))))
 (fb_cons (fs_if (ft_cp op_lt (fv 1) fe_int (nomark _)) (fb_one (fs_set (i:=2) sc_fraction.nd rfl (Or.inl rfl) (fe_neg (fv 2)))) fb_nil)
 (fb_one (fs_ret (fe_tup (fc (fe_opI op_fdivZ (fv 0) (fv 2)) (fc (fe_opI op_fdivZ (fv 1) (fv 2)) fa_nil))))))))) ?rd
 case len=>rintro as Q ⟨n,d,rfl,_⟩;rfl
 case rd=>
  rintro as Q ⟨n,d,rfl,hd,hb,q⟩
  have hd':(!(d==0))=true:=by simpa using hd
  refine ⟨Nat.zero_le _,hd',n,d,rfl,?_⟩
  have dn:((Nat.gcd n.natAbs d.natAbs:Nat):Int)∣n:=Int.ofNat_dvd_left.mpr (Nat.gcd_dvd_left _ _)
  have dd:((Nat.gcd n.natAbs d.natAbs:Nat):Int)∣d:=Int.ofNat_dvd_left.mpr (Nat.gcd_dvd_right _ _)
  have g0:((Nat.gcd n.natAbs d.natAbs:Nat):Int)≠0:=(cdivZ (i:=0) (n:=n) hd hb).1
  have fneg:∀{g m:Int},g≠0→g∣m→m.fdiv (-g)=(-m)/g:=fun {g m} h0 hm=>by
   obtain ⟨k,rfl⟩:=hm
   have e1:g*k=(-g)*(-k):=by grind
   have e2:-(g*k)=g*(-k):=by grind
   rw [e2,Int.mul_ediv_cancel_left _ h0,e1,Int.mul_fdiv_cancel_left _ (by omega)]
  show if decide (d<0)=true then _ else _
  by_cases h:d<0
  ·rw [decide_eq_true h,if_pos rfl]
   have cz:∀i:Int,CDivZ i (-((Nat.gcd n.natAbs d.natAbs:Nat):Int)):=fun i=>⟨by omega,by rw [Int.natAbs_neg];exact (cdivZ (i:=i) (n:=n) hd hb).2⟩
   refine ⟨cz _,cz _,rfl,?_⟩
   unfold low lowN lowD at q
   rw [if_neg (by omega),if_neg (by omega),←fneg g0 dn,←fneg g0 dd] at q
   exact q
  ·rw [decide_eq_false h,if_neg (by decide)]
   refine ⟨cdivZ hd hb,cdivZ hd hb,rfl,?_⟩
   unfold low lowN lowD at q
   rw [if_pos (by omega),if_pos (by omega),←fdivN,←fdivN] at q
   exact q
end
end My
set_option Elab.async false
set_option linter.all false
set_option maxRecDepth 100000
set_option maxHeartbeats 4000000
namespace My
open PySem L2 PyProof.Rows
section
variable {P:Program} {w:World} {K:PySem.W.Frag} {mg:Str→Option Value} {base:Heap}
theorem pl {x e f:Nat} (h:x<2^e) (k:e≤f):x<2^f:=Nat.lt_of_lt_of_le h (Nat.pow_le_pow_right (by decide) k)
def tBin (op:Fr→Fr→Fr):SpT:=fun as Q=>∃x y:Fr,as=[.v (fr x),.v (fr y)]∧Nrm x∧Nrm y∧sz x+sz y≤7900∧Q (.v (fr (op x y))) []
abbrev s_added:Stmt:=top 5
theorem sc_added:FnScope ["one","other"] ["one","other"] (defScope s_added):=⟨rfl,rfl,rfl,by decide +kernel,rfl,by decide +kernel,by decide +kernel⟩
theorem ok_added {f:Addr} {fd:FuncData} (F:Fun K "added" "added" s_added f fd) (TX:Txt mg) (g_fraction:Fn P w K mg base 2 "fraction" ["n","d"] (spOf K tLow))   : FnOk P w K mg base CX0 3 f fd ["one","other"] (spOf K (tBin fadd)):=by
 refine F.okT sc_added ?len (fun cdv A outer s H E hr=>(fb_one (fs_ret (fe_call g_fraction hr (by omega) rfl (fc (fe_opI0 op_add (fe_opI op_mulA (fe_ix rfl (fv 0) fe_int (fun _ _=>rfl)) (fe_ix rfl (fv 1) fe_int (fun _ _=>rfl))) (fe_opI op_mulA (fe_ix rfl (fv 1) fe_int (fun _ _=>rfl)) (fe_ix rfl (fv 0) fe_int (fun _ _=>rfl)))) (fc (fe_opI op_mulA (fe_ix rfl (fv 0) fe_int (fun _ _=>rfl)) (fe_ix rfl (fv 1) fe_int (fun _ _=>rfl))) fa_nil)))))) ?rd
 case len=>rintro as Q ⟨x,y,rfl,_⟩;rfl
 case rd=>
  rintro as Q ⟨x,y,rfl,hx,hy,hs,q⟩
  have hd:(x.2*y.2).natAbs<2^8000:=pow8 (mul_pow (sz_d x) (sz_d y)) (by omega)
  exact ⟨mulA (e:=7900) (pl (sz_n x) (by omega)) (pl (sz_d y) (by omega)) (by decide),mulA (e:=7900) (pl (sz_n y) (by omega)) (pl (sz_d x) (by omega)) (by decide),mulA (e:=7900) (pl (sz_d x) (by omega)) (pl (sz_d y) (by omega)) (by decide),_,_,rfl,mul_ne hx hy,hd,rfl,q⟩
abbrev s_taken:Stmt:=top 6
theorem sc_taken:FnScope ["one","other"] ["one","other"] (defScope s_taken):=⟨rfl,rfl,rfl,by decide +kernel,rfl,by decide +kernel,by decide +kernel⟩
theorem ok_taken {f:Addr} {fd:FuncData} (F:Fun K "taken" "taken" s_taken f fd) (TX:Txt mg) (g_fraction:Fn P w K mg base 2 "fraction" ["n","d"] (spOf K tLow))   : FnOk P w K mg base CX0 3 f fd ["one","other"] (spOf K (tBin fsub)):=by
 refine F.okT sc_taken ?len (fun cdv A outer s H E hr=>(fb_one (fs_ret (fe_call g_fraction hr (by omega) rfl (fc (fe_opI0 op_sub (fe_opI op_mulA (fe_ix rfl (fv 0) fe_int (fun _ _=>rfl)) (fe_ix rfl (fv 1) fe_int (fun _ _=>rfl))) (fe_opI op_mulA (fe_ix rfl (fv 1) fe_int (fun _ _=>rfl)) (fe_ix rfl (fv 0) fe_int (fun _ _=>rfl)))) (fc (fe_opI op_mulA (fe_ix rfl (fv 0) fe_int (fun _ _=>rfl)) (fe_ix rfl (fv 1) fe_int (fun _ _=>rfl))) fa_nil)))))) ?rd
 case len=>rintro as Q ⟨x,y,rfl,_⟩;rfl
 case rd=>
  rintro as Q ⟨x,y,rfl,hx,hy,hs,q⟩
  have hd:(x.2*y.2).natAbs<2^8000:=pow8 (mul_pow (sz_d x) (sz_d y)) (by omega)
  exact ⟨mulA (e:=7900) (pl (sz_n x) (by omega)) (pl (sz_d y) (by omega)) (by decide),mulA (e:=7900) (pl (sz_n y) (by omega)) (pl (sz_d x) (by omega)) (by decide),mulA (e:=7900) (pl (sz_d x) (by omega)) (pl (sz_d y) (by omega)) (by decide),_,_,rfl,mul_ne hx hy,hd,rfl,q⟩
abbrev s_times:Stmt:=top 7
theorem sc_times:FnScope ["one","other"] ["one","other"] (defScope s_times):=⟨rfl,rfl,rfl,by decide +kernel,rfl,by decide +kernel,by decide +kernel⟩
theorem ok_times {f:Addr} {fd:FuncData} (F:Fun K "times" "times" s_times f fd) (TX:Txt mg) (g_fraction:Fn P w K mg base 2 "fraction" ["n","d"] (spOf K tLow))   : FnOk P w K mg base CX0 3 f fd ["one","other"] (spOf K (tBin fmul)):=by
 refine F.okT sc_times ?len (fun cdv A outer s H E hr=>(fb_one (fs_ret (fe_call g_fraction hr (by omega) rfl (fc (fe_opI op_mulA (fe_ix rfl (fv 0) fe_int (fun _ _=>rfl)) (fe_ix rfl (fv 1) fe_int (fun _ _=>rfl))) (fc (fe_opI op_mulA (fe_ix rfl (fv 0) fe_int (fun _ _=>rfl)) (fe_ix rfl (fv 1) fe_int (fun _ _=>rfl))) fa_nil)))))) ?rd
 case len=>rintro as Q ⟨x,y,rfl,_⟩;rfl
 case rd=>
  rintro as Q ⟨x,y,rfl,hx,hy,hs,q⟩
  have hd:(x.2*y.2).natAbs<2^8000:=pow8 (mul_pow (sz_d x) (sz_d y)) (by omega)
  exact ⟨mulA (e:=7900) (pl (sz_n x) (by omega)) (pl (sz_n y) (by omega)) (by decide),mulA (e:=7900) (pl (sz_d x) (by omega)) (pl (sz_d y) (by omega)) (by decide),_,_,rfl,mul_ne hx hy,hd,rfl,q⟩
def fdot (x y x' y':Fr):Fr:=fadd (fmul x x') (fmul y y')
structure Nv (a b:Fr) (e:Nat):Prop where
 x:Nrm a
 y:Nrm b
 sx:sz a≤e
 sy:sz b≤e
def tVV (op:Fr→Fr→Fr→Fr→Fr):SpT:=fun as Q=>∃(x y x' y':Fr) (e f:Nat),as=[.v (vc x y),.v (vc x' y')]∧Nv x y e∧Nv x' y' f∧e+f≤3900∧Q (.v (fr (op x y x' y'))) []
abbrev s_dot:Stmt:=top 12
theorem sc_dot:FnScope ["one","other"] ["one","other"] (defScope s_dot):=⟨rfl,rfl,rfl,by decide +kernel,rfl,by decide +kernel,by decide +kernel⟩
theorem ok_dot {f:Addr} {fd:FuncData} (F:Fun K "dot" "dot" s_dot f fd) (TX:Txt mg) (g_times:Fn P w K mg base 3 "times" ["one","other"] (spOf K (tBin fmul))) (g_added:Fn P w K mg base 3 "added" ["one","other"] (spOf K (tBin fadd)))   : FnOk P w K mg base CX0 4 f fd ["one","other"] (spOf K (tVV fdot)):=by
 refine F.okT sc_dot ?len (fun cdv A outer s H E hr=>(fb_one (fs_ret (fe_call g_added hr (by omega) rfl (fc (fe_call g_times hr (by omega) rfl (fc (fe_ix rfl (fv 0) fe_int (fun _ _=>rfl)) (fc (fe_ix rfl (fv 1) fe_int (fun _ _=>rfl)) fa_nil))) (fc (fe_call g_times hr (by omega) rfl (fc (fe_ix rfl (fv 0) fe_int (fun _ _=>rfl)) (fc (fe_ix rfl (fv 1) fe_int (fun _ _=>rfl)) fa_nil))) fa_nil)))))) ?rd
 case len=>rintro as Q ⟨x,y,x',y',e,f,rfl,_⟩;rfl
 case rd=>
  rintro as Q ⟨x,y,x',y',e,f,rfl,h,k,he,q⟩
  have:=h.sx;have:=h.sy;have:=k.sx;have:=k.sy
  have n1:=nrm_mul h.x k.x;have n2:=nrm_mul h.y k.y
  have s1:=sz_mul h.x k.x;have s2:=sz_mul h.y k.y
  exact ⟨_,_,rfl,h.x,k.x,by omega,_,_,rfl,h.y,k.y,by omega,_,_,rfl,n1,n2,by omega,rfl,q⟩
def tLeft:SpT:=fun as Q=>∃x y:Fr,as=[.v (vc x y)]∧Q (.v (vc (fneg y) x)) []
theorem le_ok {a b:Nat} (h:Nat.ble a b=true):a≤b:=Nat.le_of_ble_eq_true h
theorem val_dot {x y c s:Fr} {e f:Nat} (h:Nv x y e) (k:Nv c s f):val (fdot x y c s)=val x*val c+val y*val s:=by
 unfold fdot;rw [val_add (nrm_mul h.x k.x) (nrm_mul h.y k.y),val_mul h.x k.x,val_mul h.y k.y]
theorem nrm_dot {x y c s:Fr} {e f:Nat} (h:Nv x y e) (k:Nv c s f):Nrm (fdot x y c s):=nrm_add (nrm_mul h.x k.x) (nrm_mul h.y k.y)
theorem Nv.up {x y:Fr} {e f:Nat} (h:Nv x y e) (k:e≤f):Nv x y f:=⟨h.x,h.y,Nat.le_trans h.sx k,Nat.le_trans h.sy k⟩
theorem val_int (n:Int):val (n,1)=(n:Rat):=by
 show (n:Rat)/((1:Int):Rat)=n
 push_cast
 grind
structure UnE (x y:Fr) (e:Nat):Prop where
 nv:Nv x y e
 one:val x*val x+val y*val y=1
theorem UnE.left {x y:Fr} {e:Nat} (h:UnE x y e):UnE (fneg y) x e:=⟨⟨nrm_neg h.nv.y,h.nv.x,by rw [sz_neg];exact h.nv.sy,h.nv.sx⟩,by rw [val_neg h.nv.y,←h.one];grind⟩
theorem val_d {p:Fr} (h:Nrm p):val p*(p.2:Rat)=(p.1:Rat):=by have:=h.neR;unfold val;grind
theorem d_pos {p:Fr} (h:Nrm p):(0:Rat)<(p.2:Rat):=by have:=h.d;exact_mod_cast (show (0:Int)<p.2 by omega)
theorem val_nonneg {p:Fr} (h:Nrm p):0≤val p↔0≤p.1:=by
 have e:=val_d h
 have d:=d_pos h
 constructor
 ·intro k
  have:=Rat.mul_nonneg k (Rat.le_of_lt d)
  rw [e] at this
  exact_mod_cast this
 ·intro k
  have k':(0:Rat)≤(p.1:Rat):=by exact_mod_cast k
  rcases Rat.le_total (a:=0) (b:=val p) with c | c
  ·exact c
  ·by_cases z:val p=0
   ·grind
   ·have:=Rat.mul_pos (a:=-val p) (b:=p.2) (by grind) d
    grind
theorem rng_at {lo:Int} {n i:Nat} {t:L2.T} (h:(rngT lo n)[i]? = some t):i<n∧t = .int (lo+(i:Int)):=by
 unfold rngT at h
 rw [List.getElem?_map] at h
 rcases Nat.lt_or_ge i n with c | c
 ·rw [List.getElem?_range c] at h
  cases h
  exact ⟨c,rfl⟩
 ·rw [List.getElem?_eq_none (by simpa using c)] at h;cases h
end
end My
set_option Elab.async false
set_option linter.all false
set_option maxRecDepth 100000
set_option maxHeartbeats 4000000
namespace My
open PySem L2 PyProof.Rows
section
variable {P:Program} {w:World} {K:PySem.W.Frag} {mg:Str→Option Value} {base:Heap}
theorem cutT_to (ns:List Int) (m:Nat):cutT (intsT ns) none (some (m:Int))=intsT (ns.take m):=by
 unfold cutT intsT
 rw [HT.sIx_none,HT.sIx_nat,List.drop_zero,Nat.sub_zero,List.map_take]
 rcases Nat.le_total m (ns.map T.int).length with h | h
 ·rw [Nat.min_eq_left h]
 ·rw [Nat.min_eq_right h,List.take_of_length_le (Nat.le_refl _),List.take_of_length_le h]
theorem cutT_sub {xs:List T} {lo hi:Option Int} {y:T} (h:y∈cutT xs lo hi):y∈xs:=List.mem_of_mem_drop (List.mem_of_mem_take h)
theorem cutT_len (xs:List T) (m k:Nat):(cutT xs (some (m:Int)) (some (k:Int))).length≤xs.length-m:=by
 unfold cutT
 rw [HT.sIx_nat,HT.sIx_nat,List.length_take,List.length_drop]
 omega
theorem enum_at {xs:List T} {i:Nat} {x:T} (h:(xs.zipIdx.map fun q=>T.tup [.int (q.2:Int),q.1])[i]? = some x):∃y,xs[i]? = some y∧x = .tup [.int (i:Int),y]:=by
 rw [List.getElem?_map] at h
 cases q:xs.zipIdx[i]? with
 | none=>rw [q] at h;cases h
 | some z=>
  rw [q] at h;cases h
  obtain ⟨q1,q2⟩:=List.getElem?_eq_some_iff.mp q
  rw [List.getElem_zipIdx] at q2
  subst q2
  exact ⟨_,List.getElem?_eq_getElem (by simpa using q1),by simp⟩
def tOff:SpT:=fun as Q=>∃(x y p q:Fr) (e f:Nat),as=[.v (vc x y),.v (vc p q)]∧Nv x y e∧Nv p q f∧e+f≤7000∧Q (.v (vc (fsub x p) (fsub y q))) []
end
end My
set_option Elab.async false
set_option linter.all false
set_option maxRecDepth 100000
set_option maxHeartbeats 4000000
namespace My
open PySem L2 PyProof.Rows
section
variable {P:Program} {w:World} {K:PySem.W.Frag} {mg:Str→Option Value} {base:Heap}
inductive Pc where
 | side (x y:Fr) | arc (m n x y:Fr) (l:Bool)
def turnS (l:Bool):Str:=if l then "left" else "right"
def pcT:Pc→L2.T
 | .side x y=>.tup [.str "side",vc x y]
 | .arc m n x y l=>.tup [.str "arc",vc m n,vc x y,.str (turnS l)]
def Pc.px:Pc→Fr
 | .side x _=>x
 | .arc _ _ x _ _=>x
def Pc.py:Pc→Fr
 | .side _ y=>y
 | .arc _ _ _ y _=>y
def far2 (a b c d:Fr):Rat:=(val a-val c)*(val a-val c)+(val b-val d)*(val b-val d)
def okPc (e:Nat) (a b:Fr):Pc→Prop
 | .side x y=>Nv x y e∧∃r:Rat,0<r∧far2 x y a b=r*r
 | .arc m n x y _=>Nv m n e∧Nv x y e∧¬(x=a∧y=b)∧∃r:Rat,0<r∧far2 a b m n=r*r∧far2 x y m n=r*r
theorem UnE.neg {x y:Fr} {e:Nat} (h:UnE x y e):UnE (fneg x) (fneg y) e:=h.left.left
end
end My
set_option Elab.async false
set_option linter.all false
set_option maxRecDepth 100000
set_option maxHeartbeats 4000000
namespace My
open PySem L2 PyProof.Rows
section
variable {P:Program} {w:World} {K:PySem.W.Frag} {mg:Str→Option Value} {base:Heap}
def chainP (e:Nat):Fr→Fr→List Pc→Prop
 | _,_,[]=>True
 | a,b,p::ps=>okPc e a b p∧chainP e p.px p.py ps
def lastx:Fr→List Pc→Fr
 | a,[]=>a
 | _,p::ps=>lastx p.px ps
def lasty:Fr→List Pc→Fr
 | b,[]=>b
 | _,p::ps=>lasty p.py ps
theorem chain_snoc {e:Nat}:∀{ps:List Pc} {a b:Fr} {p:Pc},chainP e a b ps→okPc e (lastx a ps) (lasty b ps) p→chainP e a b (ps++[p])
 | [],_,_,_,_,h=>⟨h,trivial⟩
 | _::ps,_,_,_,h,k=>⟨h.1,chain_snoc (ps:=ps) h.2 k⟩
theorem lastx_snoc:∀(ps:List Pc) (a:Fr) (p:Pc),lastx a (ps++[p])=p.px
 | [],_,_=>rfl
 | q::ps,_,p=>lastx_snoc ps q.px p
theorem lasty_snoc:∀(ps:List Pc) (a:Fr) (p:Pc),lasty a (ps++[p])=p.py
 | [],_,_=>rfl
 | q::ps,_,p=>lasty_snoc ps q.py p
theorem okPc.nv {e:Nat} {a b:Fr}:∀{p:Pc},okPc e a b p→Nv p.px p.py e
 | .side _ _,h=>h.1
 | .arc _ _ _ _ _,h=>h.2.1
def pathT (a b:Fr) (ps:List Pc):L2.T:=.tup [vc a b,.tup (ps.map pcT)]
theorem noL_pc:∀p:Pc,noL (pcT p)=true
 | .side _ _=>rfl
 | .arc _ _ _ _ _=>rfl
theorem noL_path (a b:Fr) (ps:List Pc) (h:noLs (ps.map pcT)=true):noL (pathT a b ps)=true:=by
 show (true&&(noLs (ps.map pcT)&&true))=true
 rw [h];rfl
theorem noLs_pcs:∀ps:List Pc,noLs (ps.map pcT)=true
 | []=>rfl
 | p::ps=>by show (noL (pcT p)&&noLs (ps.map pcT))=true;rw [noL_pc,noLs_pcs ps];rfl
end
end My
set_option Elab.async false
set_option linter.all false
set_option maxRecDepth 100000
set_option maxHeartbeats 4000000
namespace My
open PySem L2 PyProof.Rows
section
variable {P:Program} {w:World} {K:PySem.W.Frag} {mg:Str→Option Value} {base:Heap}
def IsRt (n r:Nat):Prop:=r*r≤n∧n<(r+1)*(r+1)
theorem IsRt.uniq {n r s:Nat} (h:IsRt n r) (k:IsRt n s):r=s:=by
 rcases Nat.lt_trichotomy r s with z | z | z
 ·have:=Nat.mul_le_mul (show r+1≤s from z) (show r+1≤s from z)
  have:=h.2;have:=k.1;omega
 ·exact z
 ·have:=Nat.mul_le_mul (show s+1≤r from z) (show s+1≤r from z)
  have:=k.2;have:=h.1;omega
theorem am_gm (x y:Nat):4*(x*y)≤(x+y)*(x+y):=by
 rcases Nat.le_total x y with h | h
 ·obtain ⟨k,rfl⟩:=Nat.exists_eq_add_of_le h
  have:(x+(x+k))*(x+(x+k))=4*(x*(x+k))+k*k:=by grind
  omega
 ·obtain ⟨k,rfl⟩:=Nat.exists_eq_add_of_le h
  have:(y+k+y)*(y+k+y)=4*((y+k)*y)+k*k:=by grind
  omega
theorem newton_low {g s:Nat} (h:0<g):s<((g+s/g)/2+1)*((g+s/g)/2+1):=by
 have h1:s<g*(s/g+1):=Nat.lt_mul_div_succ s h
 have h2:=am_gm g (s/g+1)
 generalize s/g=q at h1 h2 ⊢
 have h3:g+(q+1)≤2*((g+q)/2+1):=by omega
 generalize (g+q)/2+1=b at h3 ⊢
 have h4:=Nat.mul_le_mul h3 h3
 have h5:2*b*(2*b)=4*(b*b):=by grind
 omega
theorem newton_end {g s:Nat} (h:0<g) (k:¬(g+s/g)/2<g):g*g≤s:=by
 have:g≤s/g:=by omega
 exact (Nat.le_div_iff_mul_le h).mp this
theorem fdiv_nat (a b:Nat):((a:Int)).fdiv (b:Int)=((a/b:Nat):Int):=by
 rw [Int.fdiv_eq_ediv_of_nonneg _ (by omega)];rfl
theorem better_nat (g s:Nat):((g:Int)+((s:Int)).fdiv (g:Int)).fdiv 2=(((g+s/g)/2:Nat):Int):=by
 rw [fdiv_nat,←Int.natCast_add]
 exact fdiv_nat _ 2
theorem first_guess {s:Nat} (h:s≠0):∃g:Nat,(1:Int)*2^((((Builtin.Int.intBits (s:Int):Nat):Int)+1).fdiv 2).toNat=(g:Int)∧0<g∧s<g*g∧(∀e:Nat,s<2^e→g≤2^e)∧(0≤(((Builtin.Int.intBits (s:Int):Nat):Int)+1).fdiv 2)∧∀e:Nat,s<2^e→(((Builtin.Int.intBits (s:Int):Nat):Int)+1).fdiv 2≤e:=by
 have hb:Builtin.Int.intBits (s:Int)=s.log2+1:=by
  unfold Builtin.Int.intBits
  rw [if_neg (by simpa using h)]
  rfl
 rw [hb]
 have e1:((((s.log2+1:Nat):Int)+1)).fdiv 2=(((s.log2+1+1)/2:Nat):Int):=fdiv_nat (s.log2+1+1) 2
 rw [e1,Int.toNat_natCast]
 have hl:=Nat.lt_log2_self (n:=s)
 refine ⟨2^((s.log2+1+1)/2),by rw [Int.one_mul];exact (Int.natCast_pow 2 _).symm,Nat.pow_pos (by decide),?_,fun e he=>?_,by omega,fun e he=>?_⟩
 ·rw [←Nat.pow_add]
  exact Nat.lt_of_lt_of_le hl (Nat.pow_le_pow_right (by decide) (by omega))
 ·have:=(Nat.log2_lt h).mpr he
  exact Nat.pow_le_pow_right (by decide) (by omega)
 ·have:=(Nat.log2_lt h).mpr he
  omega
theorem sq_nonneg (a:Int):0≤a*a:=by
 have:=Int.natAbs_mul_self (a:=a)
 omega
def tWhole:SpT:=fun as Q=>∃n:Nat,as=[.v (.int (n:Int))]∧n<2^3000∧∀r:Nat,IsRt n r→Q (.v (.int (r:Int))) []
abbrev s_whole_root:Stmt:=top 8
theorem sc_whole_root:FnScope ["square","guess","better"] ["square"] (defScope s_whole_root):=⟨rfl,rfl,rfl,by decide +kernel,rfl,by decide +kernel,by decide +kernel⟩
theorem ok_whole_root {f:Addr} {fd:FuncData} (F:Fun K "whole_root" "whole_root" s_whole_root f fd) (TX:Txt mg)    : FnOk P w K mg base CX0 1 f fd ["square"] (spOf K tWhole):=by
 refine F.okT sc_whole_root ?len (fun cdv A outer s H E hr=>(fb_cons (fs_if (ft_eq rfl hr (fv 0) fe_int (nomark _)) (fb_one (fs_ret fe_int)) fb_nil)
 (fb_cons (fs_set (i:=1) sc_whole_root.nd rfl (Or.inl rfl) (fe_opI op_shl fe_int (fe_opI op_fdivZ (fe_opI0 op_add (fe_bits (fv 0)) fe_int) fe_int)))
 (fb_cons (fs_set (i:=2) sc_whole_root.nd rfl (Or.inl rfl) (fe_opI op_fdivZ (fe_opI0 op_add (fv 1) (fe_opI op_fdivZ (fv 0) (fv 1))) fe_int))
 (fb_cons (fs_while PassesOwn.never (ft_cp op_lt (fv 2) (fv 1) (nomark _)) (fb_cons (fs_set (i:=1) sc_whole_root.nd rfl (Or.inl rfl) (fv 2))
 (fb_one (fs_set (i:=2) sc_whole_root.nd rfl (Or.inl rfl) (fe_opI op_fdivZ (fe_opI0 op_add (fv 1) (fe_opI op_fdivZ (fv 0) (fv 1))) fe_int)))))
 (fb_one (fs_ret (fv 1)))))))) ?rd
 case len=>rintro as Q ⟨n,rfl,_⟩;rfl
 case rd=>
  rintro as Q ⟨n,rfl,hb,q⟩
  refine ⟨Nat.zero_le _,?_⟩
  show if L2.eqT (.int (n:Int)) (.int 0)=true then _ else _
  by_cases hn:n=0
  ·subst hn
   rw [if_pos (show L2.eqT (.int ((0:Nat):Int)) (.int 0)=true by decide)]
   exact ⟨rfl,q 0 ⟨by decide,by decide⟩⟩
  ·rw [if_neg (by simp [L2.eqT];omega)]
   obtain ⟨g0,eg,gp,gs,gb,c0,cb⟩:=first_guess hn
   have big:∀g:Nat,g≤2^3000→((g:Int)).natAbs<2^8000:=fun g h=>by
    rw [Int.natAbs_natCast]
    exact Nat.lt_of_le_of_lt h (Nat.pow_lt_pow_right (by decide) (by decide))
   have hc2:∀i:Int,CDivZ i 2:=fun i=>⟨by decide,pow8 (e:=2) (by decide) (by decide)⟩
   refine ⟨hc2 _,⟨c0,Int.le_trans (cb 3000 hb) (by decide),by decide⟩,?_⟩
   have eg':(fun i j:Int=>i*2^j.toNat) 1 ((((Builtin.Int.intBits (n:Int):Nat):Int)+1).fdiv 2)=(g0:Int):=eg
   rw [eg']
   refine ⟨⟨by omega,big g0 (gb _ hb)⟩,hc2 _,?_⟩
   rw [better_nat]
   refine ⟨fun m E=>∃g:Nat,E=[some (.p (.int (n:Int))),some (.p (.int (g:Int))),some (.p (.int (((g+n/g)/2:Nat):Int)))]∧m=g∧0<g∧g≤2^3000∧n<(g+1)*(g+1),⟨_,g0,rfl,rfl,gp,gb _ hb,Nat.lt_trans gs (Nat.mul_lt_mul'' (Nat.lt_succ_self _) (Nat.lt_succ_self _))⟩,?_⟩
   rintro m E ⟨g,rfl,rfl,hg,hgb,hgn⟩
   show if decide ((((m+n/m)/2:Nat):Int)<(m:Int))=true then _ else _
   by_cases hlt:(m+n/m)/2<m
   ·rw [decide_eq_true (by omega),if_pos rfl]
    have hp:0<(m+n/m)/2:=by
     rcases Nat.eq_zero_or_pos ((m+n/m)/2) with z | z
     ·have:=newton_low (s:=n) hg
      rw [z] at this
      omega
     ·exact z
    refine ⟨⟨by omega,big _ (by omega)⟩,hc2 _,?_⟩
    rw [better_nat]
    exact ⟨_,hlt,_,rfl,rfl,hp,by omega,newton_low hg⟩
   ·rw [decide_eq_false (by omega),if_neg (by decide)]
    exact ⟨rfl,q m ⟨newton_end hg hlt,hgn⟩⟩
theorem rat_fr (r:Rat):∃f:Fr,Nrm f∧val f=r:=by
 refine ⟨(r.num,(r.den:Int)),⟨by have:=r.den_pos;show (1:Int)≤(r.den:Int);omega,?_⟩,?_⟩
 ·show Nat.gcd r.num.natAbs ((r.den:Int)).natAbs=1
  rw [Int.natAbs_natCast];exact r.reduced
 ·show (r.num:Rat)/((r.den:Int):Rat)=r
  rw [←Rat.divInt_eq_div]
  exact Rat.num_divInt_den r
theorem sq_root {p f:Fr} (hp:Nrm p) (hf:Nrm f) (h:val p=val f*val f):f.1*f.1=p.1∧f.2*f.2=p.2:=by
 have n:Nrm (f.1*f.1,f.2*f.2):=by
  refine ⟨?_,?_⟩
  ·have h1:1*1≤f.2*f.2:=Int.mul_le_mul hf.d hf.d (by decide) (by have:=hf.d;omega)
   exact h1
  ·show Nat.gcd (f.1*f.1).natAbs (f.2*f.2).natAbs=1
   rw [Int.natAbs_mul,Int.natAbs_mul,←Nat.pow_two,←Nat.pow_two]
   exact Nat.Coprime.pow 2 2 hf.g
 have e:(f.1*f.1,f.2*f.2)=p:=by
  refine val_inj n hp ?_
  rw [h]
  have:=hf.neR
  show ((f.1*f.1:Int):Rat)/((f.2*f.2:Int):Rat)=_
  unfold val
  push_cast
  grind
 rw [←e]
 exact ⟨rfl,rfl⟩
theorem rt_of {f:Int} {n:Nat} (h0:0≤f) (h:f*f=(n:Int)):IsRt n f.natAbs:=by
 have h1:f.natAbs*f.natAbs=n:=by
  have:=Int.natAbs_mul_self (a:=f)
  omega
 exact ⟨by omega,by rw [←h1];exact Nat.mul_lt_mul'' (Nat.lt_succ_self _) (Nat.lt_succ_self _)⟩
def tRootR:SpT:=fun as Q=>∃p:Fr,as=[.v (fr p)]∧Nrm p∧sz p≤2900∧(∀f,Nrm f→0≤val f→val p=val f*val f→Q (.v (fr f)) [])∧((∀r:Rat,val p≠r*r)→Q (.v .non) [])
theorem no_root {p:Fr} (hp:Nrm p) {a b:Nat} (ha:(∀f:Int,0≤f→f*f=p.1→False)∨∀f:Int,0≤f→f*f=p.2→False):∀r:Rat,val p≠r*r:=fun r e=>by
 obtain ⟨f,hf,hv⟩:=rat_fr r
 rw [←hv] at e
 obtain ⟨h1,h2⟩:=sq_root hp hf e
 have ab:∀x y:Int,x*x=y→((x.natAbs:Nat):Int)*((x.natAbs:Nat):Int)=y:=fun x y h=>by
  rw [←h];exact Int.natAbs_mul_self (a:=x)
 rcases ha with ha | ha
 ·exact ha f.1.natAbs (by omega) (ab _ _ h1)
 ·exact ha f.2.natAbs (by omega) (ab _ _ h2)
abbrev s_root_of:Stmt:=top 9
theorem sc_root_of:FnScope ["one","n","d","top","bottom"] ["one"] (defScope s_root_of):=⟨rfl,rfl,rfl,by decide +kernel,rfl,by decide +kernel,by decide +kernel⟩
theorem ok_root_of {f:Addr} {fd:FuncData} (F:Fun K "root_of" "root_of" s_root_of f fd) (TX:Txt mg) (g_whole_root:Fn P w K mg base 1 "whole_root" ["square"] (spOf K tWhole))   : FnOk P w K mg base CX0 2 f fd ["one"] (spOf K tRootR):=by
 refine F.okT sc_root_of ?len (fun cdv A outer s H E hr=>(fb_cons (fs_asg (fv 0) (fg_tup (n:=2) rfl rfl (fgs_cons (fg_name (i:=1) sc_root_of.nd rfl (Or.inl rfl)) (fgs_cons (fg_name (i:=2) sc_root_of.nd rfl (Or.inl rfl)) fgs_nil))))
 (fb_cons (fs_if (ft_cp op_lt (fv 1) fe_int (nomark _)) (fb_one (fs_ret fe_non)) fb_nil)
 (fb_cons (fs_par (i:=3) (j:=4) rfl sc_root_of.nd rfl rfl (by decide) rfl rfl (fc (fe_call g_whole_root hr (by omega) rfl (fc (fv 1) fa_nil)) (fc (fe_call g_whole_root hr (by omega) rfl (fc (fv 2) fa_nil)) fa_nil)) rfl)
 (fb_cons (fs_if (ft_w (fw_or (ft_ne rfl hr (fe_opI op_mulA (fv 3) (fv 3)) (fv 1) (nomark _)) (fw_or1 (ft_ne rfl hr (fe_opI op_mulA (fv 4) (fv 4)) (fv 2) (nomark _))))) (fb_one (fs_ret fe_non)) fb_nil)
 (fb_one (fs_ret (fe_tup (fc (fv 3) (fc (fv 4) fa_nil)))))))))) ?rd
 case len=>rintro as Q ⟨p,rfl,_⟩;rfl
 case rd=>
  rintro as Q ⟨p,rfl,hp,hs,q,w⟩
  have pd:=hp.d
  have e2:p.2=((p.2.natAbs:Nat):Int):=by omega
  have bb:∀x:Nat,x<2^sz p→x<2^3000:=fun x h=>pl h (by omega)
  show if decide (p.1<0)=true then _ else _
  by_cases c:p.1<0
  ·rw [decide_eq_true c,if_pos rfl]
   exact ⟨rfl,w (no_root hp (a:=0) (b:=0) (.inl fun f _ h=>by have:=sq_nonneg f;omega))⟩
  ·have e1:p.1=((p.1.natAbs:Nat):Int):=by omega
   rw [decide_eq_false c,if_neg (by decide)]
   refine ⟨p.1.natAbs,by rw [←e1];rfl,bb _ (sz_n p),fun r hr=>?_⟩
   refine ⟨p.2.natAbs,by rw [←e2];rfl,bb _ (sz_d p),fun t ht=>?_⟩
   have small:∀{n r:Nat},IsRt n r→n<2^sz p→((r:Int)).natAbs<2^3000:=fun {n r} h hn=>by
    rw [Int.natAbs_natCast]
    have h1:=h.1
    have:r≤n∨r=0:=by
     rcases Nat.eq_zero_or_pos r with z | z
     ·exact .inr z
     ·exact .inl (Nat.le_trans (Nat.le_mul_of_pos_left _ z) h1)
    rcases this with h2 | h2
    ·exact Nat.lt_of_le_of_lt h2 (bb _ hn)
    ·rw [h2];exact Nat.pow_pos (by decide)
   have m1:∀{i:Int},i.natAbs<2^3000→CMulA i i:=fun h=>mulA (e:=3000) h h (by decide)
   refine ⟨m1 (small hr (sz_n p)),Nat.zero_le _,?_⟩
   show if (!L2.eqT (.int ((r:Int)*r)) (.int p.1))=true then _ else _
   have eqi:∀x y:Int,L2.eqT (.int x) (.int y)=decide (x=y):=fun x y=>by rw [Bool.eq_iff_iff];simp [L2.eqT]
   by_cases c1:(r:Int)*r=p.1
   ·rw [eqi,decide_eq_true c1,if_neg (by decide)]
    refine ⟨m1 (small ht (sz_d p)),Nat.zero_le _,?_⟩
    show if (!L2.eqT (.int ((t:Int)*t)) (.int p.2))=true then _ else _
    by_cases c2:(t:Int)*t=p.2
    ·rw [eqi,decide_eq_true c2,if_neg (by decide)]
     have t0:1≤(t:Int):=by
      rcases Nat.eq_zero_or_pos t with z | z
      ·rw [z] at c2;simp at c2;omega
      ·omega
     have hn:Nrm ((r:Int),(t:Int)):=by
      refine ⟨t0,?_⟩
      show Nat.gcd ((r:Int)).natAbs ((t:Int)).natAbs=1
      rw [Int.natAbs_natCast,Int.natAbs_natCast]
      have hg:=hp.g
      rw [←c1,←c2,Int.natAbs_mul,Int.natAbs_mul,Int.natAbs_natCast,Int.natAbs_natCast] at hg
      exact Nat.Coprime.coprime_mul_right (Nat.Coprime.coprime_mul_right_right hg)
     refine ⟨rfl,q _ hn ((val_nonneg hn).2 (by show (0:Int)≤r;omega)) ?_⟩
     have:=hn.neR
     show (p.1:Rat)/(p.2:Rat)=((r:Int):Rat)/((t:Int):Rat)*(((r:Int):Rat)/((t:Int):Rat))
     rw [←c1,←c2]
     push_cast
     have t2:((t:Int):Rat)≠0:=by exact_mod_cast (show (t:Int)≠0 by omega)
     push_cast at t2
     grind
    ·rw [eqi,decide_eq_false c2,if_pos (by decide)]
     refine ⟨rfl,w (no_root hp (a:=0) (b:=0) (.inr fun f f0 h=>c2 ?_))⟩
     have:=ht.uniq (rt_of f0 (h.trans e2))
     rw [this,←h];exact Int.natAbs_mul_self (a:=f)
   ·rw [eqi,decide_eq_false c1,if_pos (by decide)]
    refine ⟨rfl,w (no_root hp (a:=0) (b:=0) (.inl fun f f0 h=>c1 ?_))⟩
    have:=hr.uniq (rt_of f0 (h.trans e1))
    rw [this,←h];exact Int.natAbs_mul_self (a:=f)
abbrev s_minus:Stmt:=top 11
theorem sc_minus:FnScope ["one","other"] ["one","other"] (defScope s_minus):=⟨rfl,rfl,rfl,by decide +kernel,rfl,by decide +kernel,by decide +kernel⟩
theorem ok_minus {f:Addr} {fd:FuncData} (F:Fun K "minus" "minus" s_minus f fd) (TX:Txt mg) (g_taken:Fn P w K mg base 3 "taken" ["one","other"] (spOf K (tBin fsub)))   : FnOk P w K mg base CX0 4 f fd ["one","other"] (spOf K tOff):=by
 refine F.okT sc_minus ?len (fun cdv A outer s H E hr=>(fb_one (fs_ret (fe_tup (fc (fe_call g_taken hr (by omega) rfl (fc (fe_ix rfl (fv 0) fe_int (fun _ _=>rfl)) (fc (fe_ix rfl (fv 1) fe_int (fun _ _=>rfl)) fa_nil))) (fc (fe_call g_taken hr (by omega) rfl (fc (fe_ix rfl (fv 0) fe_int (fun _ _=>rfl)) (fc (fe_ix rfl (fv 1) fe_int (fun _ _=>rfl)) fa_nil))) fa_nil)))))) ?rd
 case len=>rintro as Q ⟨x,y,p,q,e,f,rfl,_⟩;rfl
 case rd=>
  rintro as Q ⟨x,y,p,q,e,f,rfl,h,k,hs,z⟩
  have:=h.sx;have:=h.sy;have:=k.sx;have:=k.sy
  exact ⟨_,_,rfl,h.x,k.x,by omega,_,_,rfl,h.y,k.y,by omega,rfl,z⟩
theorem sz_dot {x y p q:Fr} {e f:Nat} (h:Nv x y e) (k:Nv p q f):sz (fdot x y p q)≤2*(e+f)+1:=by
 have:=h.sx;have:=h.sy;have:=k.sx;have:=k.sy
 have s1:=sz_mul h.x k.x;have s2:=sz_mul h.y k.y
 have s6:=sz_add (nrm_mul h.x k.x) (nrm_mul h.y k.y)
 show sz (fadd (fmul x p) (fmul y q))≤_
 omega
def tLenR:SpT:=fun as Q=>∃x y:Fr,as=[.v (vc x y)]∧Nv x y 610∧(∀f,Nrm f→0≤val f→val x*val x+val y*val y=val f*val f→Q (.v (fr f)) [])∧((∀r:Rat,val x*val x+val y*val y≠r*r)→Q (.v .non) [])
abbrev s_length_of:Stmt:=top 13
theorem sc_length_of:FnScope ["vector"] ["vector"] (defScope s_length_of):=⟨rfl,rfl,rfl,by decide +kernel,rfl,by decide +kernel,by decide +kernel⟩
theorem ok_length_of {f:Addr} {fd:FuncData} (F:Fun K "length_of" "length_of" s_length_of f fd) (TX:Txt mg) (g_root_of:Fn P w K mg base 2 "root_of" ["one"] (spOf K tRootR)) (g_dot:Fn P w K mg base 4 "dot" ["one","other"] (spOf K (tVV fdot)))   : FnOk P w K mg base CX0 5 f fd ["vector"] (spOf K tLenR):=by
 refine F.okT sc_length_of ?len (fun cdv A outer s H E hr=>(fb_one (fs_ret (fe_call g_root_of hr (by omega) rfl (fc (fe_call g_dot hr (by omega) rfl (fc (fv 0) (fc (fv 0) fa_nil))) fa_nil))))) ?rd
 case len=>rintro as Q ⟨x,y,rfl,_⟩;rfl
 case rd=>
  rintro as Q ⟨x,y,rfl,h,q,w⟩
  have s:=sz_dot h h
  have v:=val_dot h h
  exact ⟨x,y,x,y,610,610,rfl,h,h,by decide,_,rfl,nrm_dot h h,by omega,fun f hf f0 e=>⟨rfl,q f hf f0 (v.symm.trans e)⟩,fun e=>⟨rfl,w fun r z=>e r (v.trans z)⟩⟩
end
end My
set_option Elab.async false
set_option linter.all false
set_option maxRecDepth 100000
set_option maxHeartbeats 4000000
namespace My
open PySem L2 PyProof.Rows
section
variable {P:Program} {w:World} {K:PySem.W.Frag} {mg:Str→Option Value} {base:Heap}
def isN:L2.T→Bool
 | .int _=>true
 | _=>false
def tNumA:SpT:=fun as Q=>∃t:L2.T,as=[.v t]∧Q (.v (.bl (isN t))) []
abbrev s_is_number:Stmt:=top 1
theorem sc_is_number:FnScope ["thing"] ["thing"] (defScope s_is_number):=⟨rfl,rfl,rfl,by decide +kernel,rfl,by decide +kernel,by decide +kernel⟩
theorem ok_is_number {f:Addr} {fd:FuncData} (F:Fun K "is_number" "is_number" s_is_number f fd) (TX:Txt mg)    : FnOk P w K mg base CX0 1 f fd ["thing"] (spOf K tNumA):=by
 refine F.okT sc_is_number ?len (fun cdv A outer s H E hr=>(fb_one (fs_ret (fe_and (fe_isi k_int rfl rfl TX.n_isinstance (fv 0) rfl TX.n_int bt_int (by decide)) (fe_one (fe_not (fe_isi k_bool rfl rfl TX.n_isinstance (fv 0) rfl TX.n_bool bt_bool (by decide)))))))) ?rd
 case len=>rintro as Q ⟨t,rfl,_⟩;rfl
 case rd=>
  rintro as Q ⟨t,rfl,q⟩
  cases t with
  | bl b=>exact ⟨rfl,q⟩
  | int i=>exact ⟨rfl,q⟩
  | non=>exact ⟨rfl,q⟩
  | str x=>exact ⟨rfl,q⟩
  | tup xs=>exact ⟨rfl,q⟩
  | lst xs=>exact ⟨rfl,q⟩
def asFr2:L2.T→L2.T→Option Fr
 | .int n,.int d=>if 1≤d∧Nat.gcd n.natAbs d.natAbs=1 then some (n,d) else none
 | _,_=>none
def asFr:L2.T→Option Fr
 | .tup [a,b]=>asFr2 a b
 | _=>none
def tFracA:SpT:=fun as Q=>∃t:L2.T,as=[.v t]∧Q (.v (.bl (asFr t).isSome)) []
abbrev s_is_fraction:Stmt:=top 3
theorem sc_is_fraction:FnScope ["thing","n","d"] ["thing"] (defScope s_is_fraction):=⟨rfl,rfl,rfl,by decide +kernel,rfl,by decide +kernel,by decide +kernel⟩
theorem ok_is_fraction {f:Addr} {fd:FuncData} (F:Fun K "is_fraction" "is_fraction" s_is_fraction f fd) (TX:Txt mg) (g_is_number:Fn P w K mg base 1 "is_number" ["thing"] (spOf K tNumA)) (g_common_divisor:Fn P w K mg base 1 "common_divisor" ["one","other"] (spOf K tCommon))   : FnOk P w K mg base CX0 2 f fd ["thing"] (spOf K tFracA):=by
 refine F.okT sc_is_fraction ?len (fun cdv A outer s H E hr=>(fb_cons (fs_if (ft_w (fw_or (ft_not (ft_val (fe_isi k_tuple rfl rfl TX.n_isinstance (fv 0) rfl TX.n_tuple bt_tuple (by decide)))) (fw_or1 (ft_ne rfl hr (fe_len rfl rfl TX.n_len (fc (fv 0) fa_nil)) fe_int (nomark _))))) (fb_one (fs_ret fe_bl)) fb_nil)
 (fb_cons (fs_asg (fv 0) (fg_tup (n:=2) rfl rfl (fgs_cons (fg_name (i:=1) sc_is_fraction.nd rfl (Or.inl rfl)) (fgs_cons (fg_name (i:=2) sc_is_fraction.nd rfl (Or.inl rfl)) fgs_nil))))
 (fb_cons (fs_if (ft_w (fw_or (ft_not (ft_val (fe_call g_is_number hr (by omega) rfl (fc (fv 1) fa_nil)))) (fw_or (ft_not (ft_val (fe_call g_is_number hr (by omega) rfl (fc (fv 2) fa_nil)))) (fw_or1 (ft_cp op_lt (fv 2) fe_int (nomark _)))))) (fb_one (fs_ret fe_bl)) fb_nil)
 (fb_one (fs_ret (fe_eq rfl hr (fe_call g_common_divisor hr (by omega) rfl (fc (fv 1) (fc (fv 2) fa_nil))) fe_int (nomark _)))))))) ?rd
 case len=>rintro as Q ⟨t,rfl,_⟩;rfl
 case rd=>
  rintro as Q ⟨t,rfl,q⟩
  cases t with
  | bl b=>exact ⟨rfl,q⟩
  | int i=>exact ⟨rfl,q⟩
  | non=>exact ⟨rfl,q⟩
  | str x=>exact ⟨rfl,q⟩
  | lst xs=>exact ⟨rfl,q⟩
  | tup xs=>
   match xs,q with
   | [],q=>exact ⟨Nat.zero_le _,rfl,q⟩
   | [a],q=>exact ⟨Nat.zero_le _,rfl,q⟩
   | a::b::c::r,q=>
    exact ⟨Nat.zero_le _,rfl,q⟩
   | [a,b],q=>
    refine ⟨Nat.zero_le _,a,rfl,?_⟩
    cases a with
    | bl _=>exact ⟨rfl,q⟩
    | non=>exact ⟨rfl,q⟩
    | str _=>exact ⟨rfl,q⟩
    | tup _=>exact ⟨rfl,q⟩
    | lst _=>exact ⟨rfl,q⟩
    | int n=>
    refine ⟨b,rfl,?_⟩
    cases b with
    | bl _=>exact ⟨rfl,q⟩
    | non=>exact ⟨rfl,q⟩
    | str _=>exact ⟨rfl,q⟩
    | tup _=>exact ⟨rfl,q⟩
    | lst _=>exact ⟨rfl,q⟩
    | int d=>
    show if decide (d<1)=true then _ else _
    by_cases h:d<1
    ·rw [decide_eq_true h,if_pos rfl]
     refine ⟨rfl,?_⟩
     rw [show asFr (.tup [.int n,.int d])=none from if_neg (by omega)] at q
     exact q
    ·rw [decide_eq_false h,if_neg (by decide)]
     refine ⟨n,d,rfl,Nat.zero_le _,rfl,?_⟩
     by_cases g:Nat.gcd n.natAbs d.natAbs=1
     ·rw [show asFr (.tup [.int n,.int d])=some (n,d) from if_pos ⟨by omega,g⟩] at q
      rw [g];exact q
     ·rw [show asFr (.tup [.int n,.int d])=none from if_neg fun z=>g z.2] at q
      rw [show L2.eqT (.int ((Nat.gcd n.natAbs d.natAbs:Nat):Int)) (.int 1)=false from beq_false_of_ne (by omega)]
      exact q
def asPt:L2.T→Option (Fr×Fr)
 | .tup [a,b]=>match asFr a,asFr b with
  | some x,some y=>some (x,y)
  | _,_=>none
 | _=>none
def tPtA:SpT:=fun as Q=>∃t:L2.T,as=[.v t]∧Q (.v (.bl (asPt t).isSome)) []
abbrev s_is_point:Stmt:=top 15
theorem sc_is_point:FnScope ["thing"] ["thing"] (defScope s_is_point):=⟨rfl,rfl,rfl,by decide +kernel,rfl,by decide +kernel,by decide +kernel⟩
theorem ok_is_point {f:Addr} {fd:FuncData} (F:Fun K "is_point" "is_point" s_is_point f fd) (TX:Txt mg) (g_is_fraction:Fn P w K mg base 2 "is_fraction" ["thing"] (spOf K tFracA))   : FnOk P w K mg base CX0 3 f fd ["thing"] (spOf K tPtA):=by
 refine F.okT sc_is_point ?len (fun cdv A outer s H E hr=>(fb_cons (fs_if (ft_w (fw_or (ft_not (ft_val (fe_isi k_tuple rfl rfl TX.n_isinstance (fv 0) rfl TX.n_tuple bt_tuple (by decide)))) (fw_or1 (ft_ne rfl hr (fe_len rfl rfl TX.n_len (fc (fv 0) fa_nil)) fe_int (nomark _))))) (fb_one (fs_ret fe_bl)) fb_nil)
 (fb_one (fs_ret (fe_and (fe_call g_is_fraction hr (by omega) rfl (fc (fe_ix rfl (fv 0) fe_int (fun _ _=>rfl)) fa_nil)) (fe_one (fe_call g_is_fraction hr (by omega) rfl (fc (fe_ix rfl (fv 0) fe_int (fun _ _=>rfl)) fa_nil)))))))) ?rd
 case len=>rintro as Q ⟨t,rfl,_⟩;rfl
 case rd=>
  rintro as Q ⟨t,rfl,q⟩
  cases t with
  | bl b=>exact ⟨rfl,q⟩
  | int i=>exact ⟨rfl,q⟩
  | non=>exact ⟨rfl,q⟩
  | str x=>exact ⟨rfl,q⟩
  | lst xs=>exact ⟨rfl,q⟩
  | tup xs=>
   match xs,q with
   | [],q=>exact ⟨Nat.zero_le _,rfl,q⟩
   | [a],q=>exact ⟨Nat.zero_le _,rfl,q⟩
   | a::b::c::r,q=>
    exact ⟨Nat.zero_le _,rfl,q⟩
   | [a,b],q=>
    refine ⟨Nat.zero_le _,a,rfl,?_⟩
    cases ea:asFr a with
    | none=>
     rw [show asPt (.tup [a,b])=none by simp only [asPt,ea]] at q
     exact ⟨rfl,q⟩
    | some x=>
     refine ⟨b,rfl,rfl,?_⟩
     cases eb:asFr b with
     | none=>
      rw [show asPt (.tup [a,b])=none by simp only [asPt,ea,eb]] at q
      exact q
     | some y=>
      rw [show asPt (.tup [a,b])=some (x,y) by simp only [asPt,ea,eb]] at q
      exact q
end
end My
set_option Elab.async false
set_option linter.all false
set_option maxRecDepth 100000
set_option maxHeartbeats 4000000
namespace My
open PySem L2 PyProof.Rows
section
variable {P:Program} {w:World} {K:PySem.W.Frag} {mg:Str→Option Value} {base:Heap}
inductive Rw where
 | side (x y:Fr) | arc (m n x y:Fr) (t:Str)
def rwT:Rw→L2.T
 | .side x y=>.tup [.str "side",vc x y]
 | .arc m n x y t=>.tup [.str "arc",vc m n,vc x y,.str t]
def isSd:L2.T→Bool
 | .str x=>x==("side":Str)
 | _=>false
def isAc:L2.T→Bool
 | .str x=>x==("arc":Str)
 | _=>false
def asTn:L2.T→Option Str
 | .str x=>if x=("left":Str)∨x=("right":Str) then some x else none
 | _=>none
def asPc:L2.T→Option Rw
 | .tup [k,p]=>match isSd k,asPt p with
  | true,some z=>some (.side z.1 z.2)
  | _,_=>none
 | .tup [k,m,p,t]=>match isAc k,asPt m,asPt p,asTn t with
  | true,some y,some z,some t=>some (.arc y.1 y.2 z.1 z.2 t)
  | _,_,_,_=>none
 | _=>none
theorem eqT_side (k:L2.T):L2.eqT k (.str "side")=isSd k:=by cases k<;>rfl
theorem eqT_arc (k:L2.T):L2.eqT k (.str "arc")=isAc k:=by cases k<;>rfl
theorem dT_mem {xs:List L2.T} {n:Nat} (h:L2.dT (.tup xs)≤n) {t:L2.T} (m:t∈xs):L2.dT t≤n:=by
 have key:∀(xs:List L2.T),t∈xs→L2.dT t≤L2.dTs xs:=fun xs=>by
  induction xs with
  | nil=>intro m;cases m
  | cons a r ih=>
   intro m
   show _≤Nat.max (L2.dT a) (L2.dTs r)
   rcases List.mem_cons.mp m with e | e
   ·rw [e];exact Nat.le_max_left _ _
   ·exact Nat.le_trans (ih e) (Nat.le_max_right _ _)
 have:=key xs m
 have h:L2.dTs xs+1≤n:=h
 omega
theorem tn_left {t:L2.T} (h:L2.eqT t (.str (Str.ofString "left"))=true):(asTn t).isSome=true:=by
 cases t with
 | str x=>
  have:x=Str.ofString "left":=by simpa [L2.eqT] using h
  simp [asTn,this]
 | _=>cases h
theorem tn_right {t:L2.T} (h:L2.eqT t (.str (Str.ofString "left"))=false):L2.eqT t (.str (Str.ofString "right"))=(asTn t).isSome:=by
 cases t with
 | str x=>
  have n:¬x=Str.ofString "left":=by simpa [L2.eqT] using h
  rw [Bool.eq_iff_iff]
  by_cases c:x=Str.ofString "right"<;>simp [L2.eqT,asTn,n,c]
 | _=>rfl
def tPcA:SpT:=fun as Q=>∃t:L2.T,as=[.v t]∧L2.dT t≤60∧Q (.v (.bl (asPc t).isSome)) []
abbrev s_is_piece:Stmt:=top 16
theorem sc_is_piece:FnScope ["thing","has_turn"] ["thing"] (defScope s_is_piece):=⟨rfl,rfl,rfl,by decide +kernel,rfl,by decide +kernel,by decide +kernel⟩
theorem ok_is_piece {f:Addr} {fd:FuncData} (F:Fun K "is_piece" "is_piece" s_is_piece f fd) (TX:Txt mg) (g_is_point:Fn P w K mg base 3 "is_point" ["thing"] (spOf K tPtA))   : FnOk P w K mg base CX0 4 f fd ["thing"] (spOf K tPcA):=by
 refine F.okT sc_is_piece ?len (fun cdv A outer s H E hr=>(fb_cons (fs_if (ft_not (ft_val (fe_isi k_tuple rfl rfl TX.n_isinstance (fv 0) rfl TX.n_tuple bt_tuple (by decide)))) (fb_one (fs_ret fe_bl)) fb_nil)
 (fb_cons (fs_if (ft_eq rfl hr (fe_len rfl rfl TX.n_len (fc (fv 0) fa_nil)) fe_int (nomark _)) (fb_one (fs_ret (fe_and (fe_eq rfl hr (fe_ix rfl (fv 0) fe_int (fun _ _=>rfl)) fe_str (nomark _)) (fe_one (fe_call g_is_point hr (by omega) rfl (fc (fe_ix rfl (fv 0) fe_int (fun _ _=>rfl)) fa_nil)))))) fb_nil)
 (fb_cons (fs_if (ft_eq rfl hr (fe_len rfl rfl TX.n_len (fc (fv 0) fa_nil)) fe_int (nomark _)) (fb_cons (fs_set (i:=1) sc_is_piece.nd rfl (Or.inl rfl) (fe_or (fe_eq rfl hr (fe_ix rfl (fv 0) fe_int (fun _ _=>rfl)) fe_str (nomark _)) (fe_one (fe_eq rfl hr (fe_ix rfl (fv 0) fe_int (fun _ _=>rfl)) fe_str (nomark _)))))
 (fb_one (fs_ret (fe_and (fe_eq rfl hr (fe_ix rfl (fv 0) fe_int (fun _ _=>rfl)) fe_str (nomark _)) (fe_and (fe_call g_is_point hr (by omega) rfl (fc (fe_ix rfl (fv 0) fe_int (fun _ _=>rfl)) fa_nil)) (fe_and (fe_call g_is_point hr (by omega) rfl (fc (fe_ix rfl (fv 0) fe_int (fun _ _=>rfl)) fa_nil)) (fe_one (fv 1)))))))) fb_nil)
 (fb_one (fs_ret fe_bl)))))) ?rd
 case len=>rintro as Q ⟨t,rfl,_⟩;rfl
 case rd=>
  rintro as Q ⟨t,rfl,hd,q⟩
  cases t with
  | bl b=>exact ⟨rfl,q⟩
  | int i=>exact ⟨rfl,q⟩
  | non=>exact ⟨rfl,q⟩
  | str x=>exact ⟨rfl,q⟩
  | lst xs=>exact ⟨rfl,q⟩
  | tup xs=>
   match xs,hd,q with
   | [],hd,q=>exact ⟨Nat.zero_le _,Nat.zero_le _,rfl,q⟩
   | [a],hd,q=>exact ⟨Nat.zero_le _,Nat.zero_le _,rfl,q⟩
   | [a,b,c],hd,q=>exact ⟨Nat.zero_le _,Nat.zero_le _,rfl,q⟩
   | a::b::c::d::e::r,hd,q=>exact ⟨Nat.zero_le _,Nat.zero_le _,rfl,q⟩
   | [k,p],hd,q=>
    have h0:L2.dT k≤60:=dT_mem (xs:=[k,p]) hd (by simp)
    refine ⟨Nat.zero_le _,h0,?_⟩
    show if L2.eqT k (.str "side")=true then _ else _
    rw [eqT_side]
    cases ek:isSd k with
    | false=>
     rw [show asPc (.tup [k,p])=none by simp only [asPc,ek]] at q
     exact ⟨rfl,q⟩
    | true=>
     refine ⟨p,rfl,rfl,?_⟩
     cases ep:asPt p with
     | none=>
      rw [show asPc (.tup [k,p])=none by simp only [asPc,ek,ep]] at q
      exact q
     | some z=>
      rw [show asPc (.tup [k,p])=some (.side z.1 z.2) by simp only [asPc,ek,ep]] at q
      exact q
   | [k,m,p,t],hd,q=>
    have h0:L2.dT k≤60:=dT_mem (xs:=[k,m,p,t]) hd (by simp)
    have h3:L2.dT t≤60:=dT_mem (xs:=[k,m,p,t]) hd (by simp)
    refine ⟨Nat.zero_le _,Nat.zero_le _,h3,?_⟩
    have fin:∀b:Bool,b=(asTn t).isSome→(sRet (fAnd (fEq (fIx (fVar 0) (fC (T.int 0))) (fC (T.str (Str.ofString "arc")))) (fAnd (fCall tPtA (aCons (fIx (fVar 0) (fC (T.int 1))) aNil)) (fAnd (fCall tPtA (aCons (fIx (fVar 0) (fC (T.int 2))) aNil)) (fVar 1))))) (endT [A.v (T.tup [k,m,p,t])] Q) [some (U.p (T.tup [k,m,p,t])),some (U.p (.bl b))]:=fun b hb=>by
     refine ⟨h0,?_⟩
     show if L2.eqT k (.str "arc")=true then _ else _
     rw [eqT_arc]
     cases ek:isAc k with
     | false=>
      rw [show asPc (.tup [k,m,p,t])=none by simp only [asPc,ek]] at q
      exact ⟨rfl,q⟩
     | true=>
      refine ⟨m,rfl,?_⟩
      cases em:asPt m with
      | none=>
       rw [show asPc (.tup [k,m,p,t])=none by simp only [asPc,ek,em]] at q
       exact ⟨rfl,q⟩
      | some y=>
       refine ⟨p,rfl,?_⟩
       cases ep:asPt p with
       | none=>
        rw [show asPc (.tup [k,m,p,t])=none by simp only [asPc,ek,em,ep]] at q
        exact ⟨rfl,q⟩
       | some z=>
        refine ⟨rfl,?_⟩
        subst hb
        cases et:asTn t with
        | none=>
         rw [show asPc (.tup [k,m,p,t])=none by simp only [asPc,ek,em,ep,et]] at q
         exact q
        | some u=>
         rw [show asPc (.tup [k,m,p,t])=some (.arc y.1 y.2 z.1 z.2 u) by simp only [asPc,ek,em,ep,et]] at q
         exact q
    show if L2.eqT t (.str (Str.ofString "left"))=true then _ else _
    cases el:L2.eqT t (.str (Str.ofString "left")) with
    | true=>exact fin true (tn_left el).symm
    | false=>
     refine ⟨h3,?_⟩
     exact fin _ (tn_right el)
end
end My
set_option Elab.async false
set_option linter.all false
set_option maxRecDepth 100000
set_option maxHeartbeats 4000000
namespace My
open PySem L2 PyProof.Rows
section
variable {P:Program} {w:World} {K:PySem.W.Frag} {mg:Str→Option Value} {base:Heap}
def Rw.px:Rw→Fr
 | .side x _=>x
 | .arc _ _ x _ _=>x
def Rw.py:Rw→Fr
 | .side _ y=>y
 | .arc _ _ _ y _=>y
def nvR:Rw→Prop
 | .side x y=>Nv x y 200
 | .arc m n x y _=>Nv m n 200∧Nv x y 200
theorem nvR.end' {p:Rw} (h:nvR p):Nv p.px p.py 200:=by
 cases p with
 | side x y=>exact h
 | arc m n x y t=>exact h.2
def sideR:Rw→Bool
 | .side _ _=>true
 | .arc _ _ _ _ _=>false
theorem nv_sub {x y p q:Fr} {e f:Nat} (h:Nv x y e) (k:Nv p q f):Nv (fsub x p) (fsub y q) (e+f+1):=by
 have:=h.sx;have:=h.sy;have:=k.sx;have:=k.sy
 have s1:=sz_sub h.x k.x;have s2:=sz_sub h.y k.y
 exact ⟨nrm_sub h.x k.x,nrm_sub h.y k.y,by omega,by omega⟩
theorem ss_eq:L2.eqT (.str "side") (.str "side")=true:=eqT_refl _
theorem as_eq:L2.eqT (.str "arc") (.str "side")=false:=by decide
def tIsSide:SpT:=fun as Q=>∃p:Rw,as=[.v (rwT p)]∧Q (.v (.bl (sideR p))) []
abbrev s_is_side:Stmt:=top 17
theorem sc_is_side:FnScope ["piece"] ["piece"] (defScope s_is_side):=⟨rfl,rfl,rfl,by decide +kernel,rfl,by decide +kernel,by decide +kernel⟩
theorem ok_is_side {f:Addr} {fd:FuncData} (F:Fun K "is_side" "is_side" s_is_side f fd) (TX:Txt mg)    : FnOk P w K mg base CX0 1 f fd ["piece"] (spOf K tIsSide):=by
 refine F.okT sc_is_side ?len (fun cdv A outer s H E hr=>(fb_one (fs_ret (fe_eq rfl hr (fe_ix rfl (fv 0) fe_int (fun _ _=>rfl)) fe_str (nomark _))))) ?rd
 case len=>rintro as Q ⟨p,rfl,_⟩;rfl
 case rd=>
  rintro as Q ⟨p,rfl,q⟩
  cases p with
  | side x y=>
   refine ⟨Nat.zero_le _,rfl,?_⟩
   rw [ss_eq];exact q
  | arc m n x y l=>
   refine ⟨Nat.zero_le _,rfl,?_⟩
   rw [as_eq];exact q
def tEndOf:SpT:=fun as Q=>∃p:Rw,as=[.v (rwT p)]∧Q (.v (vc p.px p.py)) []
abbrev s_end_of:Stmt:=top 18
theorem sc_end_of:FnScope ["piece"] ["piece"] (defScope s_end_of):=⟨rfl,rfl,rfl,by decide +kernel,rfl,by decide +kernel,by decide +kernel⟩
theorem ok_end_of {f:Addr} {fd:FuncData} (F:Fun K "end_of" "end_of" s_end_of f fd) (TX:Txt mg) (g_is_side:Fn P w K mg base 1 "is_side" ["piece"] (spOf K tIsSide))   : FnOk P w K mg base CX0 2 f fd ["piece"] (spOf K tEndOf):=by
 refine F.okT sc_end_of ?len (fun cdv A outer s H E hr=>(fb_one (fs_ret (fe_if (ft_val (fe_call g_is_side hr (by omega) rfl (fc (fv 0) fa_nil))) (fe_ix rfl (fv 0) fe_int (fun _ _=>rfl)) (fe_ix rfl (fv 0) fe_int (fun _ _=>rfl)))))) ?rd
 case len=>rintro as Q ⟨p,rfl,_⟩;rfl
 case rd=>
  rintro as Q ⟨p,rfl,q⟩
  refine ⟨p,rfl,?_⟩
  cases p with
  | side x y=>exact ⟨rfl,q⟩
  | arc m n x y l=>exact ⟨rfl,q⟩
def begR (a b:Fr):Rw→Prop
 | .side x y=>¬(x=a∧y=b)∧∃r:Rat,far2 x y a b=r*r
 | .arc m n x y _=>¬(x=a∧y=b)∧∃r:Rat,0≤r∧far2 a b m n=r*r∧far2 x y m n=r*r
theorem far_sub {x y p q:Fr} {e f:Nat} (h:Nv x y e) (k:Nv p q f):val (fsub x p)*val (fsub x p)+val (fsub y q)*val (fsub y q)=far2 x y p q:=by
 rw [val_sub h.x k.x,val_sub h.y k.y];rfl
theorem sq_pos_eq {r s:Rat} (hr:0≤r) (hs:0≤s) (h:r*r=s*s):r=s:=by
 have e:(r-s)*(r+s)=0:=by grind
 rcases Rat.mul_eq_zero.mp e with z | z
 ·grind
 ·have:r=0:=by grind
  have:s=0:=by grind
  grind
def tCanBegin:SpT:=fun as Q=>∃(a b:Fr) (p:Rw),as=[.v (rwT p),.v (vc a b)]∧Nv a b 200∧nvR p∧∀k:Bool,(k=true↔begR a b p)→Q (.v (.bl k)) []
abbrev s_can_begin_at:Stmt:=top 19
theorem sc_can_begin_at:FnScope ["piece","begin","to","radius"] ["piece","begin"] (defScope s_can_begin_at):=⟨rfl,rfl,rfl,by decide +kernel,rfl,by decide +kernel,by decide +kernel⟩
theorem ok_can_begin_at {f:Addr} {fd:FuncData} (F:Fun K "can_begin_at" "can_begin_at" s_can_begin_at f fd) (TX:Txt mg) (g_end_of:Fn P w K mg base 2 "end_of" ["piece"] (spOf K tEndOf)) (g_is_side:Fn P w K mg base 1 "is_side" ["piece"] (spOf K tIsSide)) (g_length_of:Fn P w K mg base 5 "length_of" ["vector"] (spOf K tLenR)) (g_minus:Fn P w K mg base 4 "minus" ["one","other"] (spOf K tOff))   : FnOk P w K mg base CX0 6 f fd ["piece","begin"] (spOf K tCanBegin):=by
 refine F.okT sc_can_begin_at ?len (fun cdv A outer s H E hr=>(fb_cons (fs_set (i:=2) sc_can_begin_at.nd rfl (Or.inl rfl) (fe_call g_end_of hr (by omega) rfl (fc (fv 0) fa_nil)))
 (fb_cons (fs_if (ft_eq rfl hr (fv 2) (fv 1) (nomark _)) (fb_one (fs_ret fe_bl)) fb_nil)
 (fb_cons (fs_if (ft_val (fe_call g_is_side hr (by omega) rfl (fc (fv 0) fa_nil))) (fb_one (fs_ret (fe_notN (fe_call g_length_of hr (by omega) rfl (fc (fe_call g_minus hr (by omega) rfl (fc (fv 2) (fc (fv 1) fa_nil))) fa_nil)) (nomark _)))) fb_nil)
 (fb_cons (fs_set (i:=3) sc_can_begin_at.nd rfl (Or.inl rfl) (fe_call g_length_of hr (by omega) rfl (fc (fe_call g_minus hr (by omega) rfl (fc (fv 1) (fc (fe_ix rfl (fv 0) fe_int (fun _ _=>rfl)) fa_nil))) fa_nil)))
 (fb_one (fs_ret (fe_and (fe_notN (fv 3) (nomark _)) (fe_one (fe_eq rfl hr (fv 3) (fe_call g_length_of hr (by omega) rfl (fc (fe_call g_minus hr (by omega) rfl (fc (fv 2) (fc (fe_ix rfl (fv 0) fe_int (fun _ _=>rfl)) fa_nil))) fa_nil)) (nomark _))))))))))) ?rd
 case len=>rintro as Q ⟨a,b,p,rfl,_⟩;rfl
 case rd=>
  rintro as Q ⟨a,b,p,rfl,h,hp,q⟩
  refine ⟨p,rfl,le_ok rfl,?_⟩
  show if L2.eqT (vc p.px p.py) (vc a b)=true then _ else _
  rw [eq_vc]
  by_cases c:p.px=a∧p.py=b
  ·rw [decide_eq_true c,if_pos rfl]
   refine ⟨rfl,q false ?_⟩
   cases p with
   | side x y=>exact ⟨fun z=>(by cases z),fun z=>absurd c z.1⟩
   | arc m n x y t=>exact ⟨fun z=>(by cases z),fun z=>absurd c z.1⟩
  ·rw [decide_eq_false c,if_neg (by decide)]
   refine ⟨p,rfl,?_⟩
   cases p with
   | side x y=>
    have nv:=nv_sub hp h
    have fs:=far_sub hp h
    refine ⟨x,y,a,b,200,200,rfl,hp,h,by decide,_,_,rfl,nv.up (by decide),fun f hf f0 e=>?_,fun e=>?_⟩
    ·exact ⟨rfl,q true ⟨fun _=>⟨c,val f,by rw [←fs];exact e⟩,fun _=>rfl⟩⟩
    ·exact ⟨rfl,q false ⟨fun z=>(by cases z),fun ⟨_,r,z⟩=>absurd (fs.trans z) (e r)⟩⟩
   | arc m n x y t=>
    have nv:=nv_sub h hp.1
    have fs:=far_sub h hp.1
    have nv2:=nv_sub hp.2 hp.1
    have fs2:=far_sub hp.2 hp.1
    refine ⟨a,b,m,n,200,200,rfl,h,hp.1,by decide,_,_,rfl,nv.up (by decide),fun f hf f0 e=>?_,fun e=>?_⟩
    ·refine ⟨x,y,m,n,200,200,rfl,hp.2,hp.1,by decide,_,_,rfl,nv2.up (by decide),fun g hg g0 e2=>?_,fun e2=>?_⟩
     ·refine ⟨le_ok rfl,rfl,?_⟩
      rw [eq_fr]
      refine q _ ?_
      rw [decide_eq_true_eq]
      constructor
      ·rintro rfl
       exact ⟨c,val f,f0,by rw [←fs];exact e,by rw [←fs2];exact e2⟩
      ·rintro ⟨_,r,r0,z1,z2⟩
       have a1:=sq_pos_eq f0 r0 ((e.symm.trans fs).trans z1)
       have a2:=sq_pos_eq g0 r0 ((e2.symm.trans fs2).trans z2)
       exact val_inj hf hg (a1.trans a2.symm)
     ·exact ⟨le_ok rfl,rfl,q false ⟨fun z=>(by cases z),fun ⟨_,r,_,_,z⟩=>absurd (fs2.trans z) (e2 r)⟩⟩
    ·exact ⟨rfl,q false ⟨fun z=>(by cases z),fun ⟨_,r,_,z,_⟩=>absurd (fs.trans z) (e r)⟩⟩
mutual
def smT (e:Nat):L2.T→Prop
 | .int i=>i.natAbs.log2+1≤e
 | .tup xs=>smTs e xs
 | .lst xs=>smTs e xs
 | _=>True
def smTs (e:Nat):List L2.T→Prop
 | []=>True
 | x::xs=>smT e x∧smTs e xs
end
theorem sm_mem {e:Nat} {t:L2.T}:∀{xs:List L2.T},smTs e xs→t∈xs→smT e t
 | [],_,m=>by cases m
 | a::r,h,m=>by
  rcases List.mem_cons.mp m with z | z
  ·rw [z];exact h.1
  ·exact sm_mem h.2 z
theorem asFr_eq {t:L2.T} {x:Fr} {e:Nat} (h:asFr t=some x) (s:smT e t):t=fr x∧Nrm x∧sz x≤e:=by
 unfold asFr at h
 split at h
 ·rename_i a b
  unfold asFr2 at h
  split at h
  ·rename_i n d
   split at h
   ·rename_i c
    cases h
    refine ⟨rfl,⟨c.1,c.2⟩,?_⟩
    have s1:n.natAbs.log2+1≤e:=s.1
    have s2:d.natAbs.log2+1≤e:=s.2.1
    show Nat.max n.natAbs.log2 d.natAbs.log2+1≤e
    rcases Nat.le_total n.natAbs.log2 d.natAbs.log2 with z | z
    ·rw [show Nat.max n.natAbs.log2 d.natAbs.log2=d.natAbs.log2 from Nat.max_eq_right z];exact s2
    ·rw [show Nat.max n.natAbs.log2 d.natAbs.log2=n.natAbs.log2 from Nat.max_eq_left z];exact s1
   ·cases h
  ·cases h
 ·cases h
theorem asPt_eq {t:L2.T} {x y:Fr} {e:Nat} (h:asPt t=some (x,y)) (s:smT e t):t=vc x y∧Nv x y e:=by
 unfold asPt at h
 split at h
 ·rename_i a b
  split at h
  ·rename_i x' y' e1 e2
   cases h
   obtain ⟨z1,n1,w1⟩:=asFr_eq e1 s.1
   obtain ⟨z2,n2,w2⟩:=asFr_eq e2 s.2.1
   exact ⟨by rw [z1,z2];rfl,⟨n1,n2,w1,w2⟩⟩
  ·cases h
 ·cases h
theorem asPc_eq {t:L2.T} {p:Rw} (h:asPc t=some p) (s:smT 200 t):t=rwT p∧nvR p:=by
 unfold asPc at h
 split at h
 ·rename_i k q
  split at h
  ·rename_i z e1 e2
   cases h
   obtain ⟨z1,n1⟩:=asPt_eq (x:=z.1) (y:=z.2) e2 s.2.1
   refine ⟨?_,n1⟩
   rw [z1]
   cases k with
   | str x=>
    have:x=("side":Str):=by simpa [isSd] using e1
    rw [this];rfl
   | _=>cases e1
  ·cases h
 ·rename_i k m q t
  split at h
  ·rename_i y z u e1 e2 e3 e4
   cases h
   obtain ⟨z1,n1⟩:=asPt_eq (x:=y.1) (y:=y.2) e2 s.2.1
   obtain ⟨z2,n2⟩:=asPt_eq (x:=z.1) (y:=z.2) e3 s.2.2.1
   refine ⟨?_,n1,n2⟩
   rw [z1,z2]
   cases k with
   | str x=>
    have:x=("arc":Str):=by simpa [isAc] using e1
    rw [this]
    cases t with
    | str w=>
     simp only [asTn] at e4
     split at e4
     ·cases e4;rfl
     ·cases e4
    | _=>cases e4
   | _=>cases e1
  ·cases h
 ·cases h
def chA:Fr→Fr→List L2.T→Prop
 | _,_,[]=>True
 | a,b,t::ts=>∃p,asPc t=some p∧begR a b p∧chA p.px p.py ts
def isPA:L2.T→Prop
 | .tup [s,.tup ps]=>ps≠[]∧∃a b,asPt s=some (a,b)∧chA a b ps
 | _=>False
def tPathA:SpT:=fun as Q=>∃t:L2.T,as=[.v t]∧L2.dT t≤60∧smT 200 t∧∀k:Bool,(k=true↔isPA t)→Q (.v (.bl k)) []
abbrev s_is_path:Stmt:=top 20
theorem sc_is_path:FnScope ["thing","piece","begin","pieces"] ["thing"] (defScope s_is_path):=⟨rfl,rfl,rfl,by decide +kernel,rfl,by decide +kernel,by decide +kernel⟩
theorem ok_is_path {f:Addr} {fd:FuncData} (F:Fun K "is_path" "is_path" s_is_path f fd) (TX:Txt mg) (g_is_point:Fn P w K mg base 3 "is_point" ["thing"] (spOf K tPtA)) (g_is_piece:Fn P w K mg base 4 "is_piece" ["thing"] (spOf K tPcA)) (g_can_begin_at:Fn P w K mg base 6 "can_begin_at" ["piece","begin"] (spOf K tCanBegin)) (g_end_of:Fn P w K mg base 2 "end_of" ["piece"] (spOf K tEndOf))   : FnOk P w K mg base CX0 7 f fd ["thing"] (spOf K tPathA):=by
 refine F.okT sc_is_path ?len (fun cdv A outer s H E hr=>(fb_cons (fs_if (ft_w (fw_or (ft_not (ft_val (fe_isi k_tuple rfl rfl TX.n_isinstance (fv 0) rfl TX.n_tuple bt_tuple (by decide)))) (fw_or1 (ft_ne rfl hr (fe_len rfl rfl TX.n_len (fc (fv 0) fa_nil)) fe_int (nomark _))))) (fb_one (fs_ret fe_bl)) fb_nil)
 (fb_cons (fs_asg (fv 0) (fg_tup (n:=2) rfl rfl (fgs_cons (fg_name (i:=2) sc_is_path.nd rfl (Or.inl rfl)) (fgs_cons (fg_name (i:=3) sc_is_path.nd rfl (Or.inl rfl)) fgs_nil))))
 (fb_cons (fs_if (ft_w (fw_or (ft_not (ft_val (fe_call g_is_point hr (by omega) rfl (fc (fv 2) fa_nil)))) (fw_or (ft_not (ft_val (fe_isi k_tuple rfl rfl TX.n_isinstance (fv 3) rfl TX.n_tuple bt_tuple (by decide)))) (fw_or1 (ft_eq rfl hr (fe_len rfl rfl TX.n_len (fc (fv 3) fa_nil)) fe_int (nomark _)))))) (fb_one (fs_ret fe_bl)) fb_nil)
 (fb_cons (fs_for PassesOwn.never rfl (fi_tup rfl (fv 3)) (fg_name (i:=1) sc_is_path.nd rfl (Or.inl rfl))
  (fb_cons (fs_if (ft_w (fw_or (ft_not (ft_val (fe_call g_is_piece hr (by omega) rfl (fc (fv 1) fa_nil)))) (fw_or1 (ft_not (ft_val (fe_call g_can_begin_at hr (by omega) rfl (fc (fv 1) (fc (fv 2) fa_nil)))))))) (fb_one (fs_ret fe_bl)) fb_nil)
 (fb_one (fs_set (i:=2) sc_is_path.nd rfl (Or.inl rfl) (fe_call g_end_of hr (by omega) rfl (fc (fv 1) fa_nil))))))
 (fb_one (fs_ret fe_bl))))))) ?rd
 case len=>rintro as Q ⟨t,rfl,_⟩;rfl
 case rd=>
  rintro as Q ⟨t,rfl,hd,hs,q⟩
  have no:¬isPA t→Q (.v (.bl false)) []:=fun z=>q false ⟨fun h=>(by cases h),fun h=>absurd h z⟩
  cases t with
  | bl b=>exact ⟨rfl,no id⟩
  | int i=>exact ⟨rfl,no id⟩
  | non=>exact ⟨rfl,no id⟩
  | str x=>exact ⟨rfl,no id⟩
  | lst xs=>exact ⟨rfl,no id⟩
  | tup xs=>
   match xs,hd,hs,q,no with
   | [],hd,hs,q,no=>exact ⟨Nat.zero_le _,rfl,no id⟩
   | [a],hd,hs,q,no=>exact ⟨Nat.zero_le _,rfl,no id⟩
   | a::b::c::r,hd,hs,q,no=>exact ⟨Nat.zero_le _,rfl,no fun z=>by simp [isPA] at z⟩
   | [s,ps],hd,hs,q,no=>
    refine ⟨Nat.zero_le _,s,rfl,?_⟩
    cases es:asPt s with
    | none=>exact ⟨rfl,no fun z=>by
      cases ps with
      | tup ys=>obtain ⟨_,a,b,z,_⟩:=z;rw [es] at z;cases z
      | _=>exact z⟩
    | some ab=>
    obtain ⟨a,b⟩:=ab
    obtain ⟨rfl,nv⟩:=asPt_eq es hs.1
    cases ps with
    | bl b=>exact ⟨rfl,no id⟩
    | int i=>exact ⟨rfl,no id⟩
    | non=>exact ⟨rfl,no id⟩
    | str x=>exact ⟨rfl,no id⟩
    | lst xs=>exact ⟨rfl,no id⟩
    | tup ys=>
    refine ⟨Nat.zero_le _,?_⟩
    cases ys with
    | nil=>exact ⟨rfl,no fun z=>z.1 rfl⟩
    | cons y0 yr=>
    obtain ⟨ys,ey⟩:∃ys,ys=y0::yr:=⟨_,rfl⟩
    have hn:ys≠[]:=by rw [ey];simp
    rw [←ey] at hd hs q no ⊢
    have hl:L2.eqT (.int ((ys.length:Nat):Int)) (.int 0)=false:=by rw [ey];rfl
    show if L2.eqT (.int ((ys.length:Nat):Int)) (.int 0)=true then _ else _
    rw [hl,if_neg (by decide)]
    have is:isPA (.tup [vc a b,.tup ys])↔chA a b ys:=⟨fun ⟨_,a',b',z,h⟩=>by rw [es] at z;cases z;exact h,fun h=>⟨hn,a,b,es,h⟩⟩
    refine (?_:loopT _ _ _ ys _)
    refine loopT_inv (fun i E=>∃(v1 v3:Option U) (a' b':Fr),E=[some (.p (.tup [vc a b,.tup ys])),v1,some (.p (vc a' b')),v3]∧Nv a' b' 200∧(chA a b ys↔chA a' b' (ys.drop i))) ⟨_,_,a,b,rfl,nv,Iff.rfl⟩ ?_ ?_
    ·rintro i t rest E hi ⟨v1,v3,a',b',rfl,nv',hc⟩ KK
     have ed:ys.drop i=t::ys.drop (i+1):=by
      obtain ⟨h1,h2⟩:=List.getElem?_eq_some_iff.mp hi
      rw [←h2];exact List.drop_eq_getElem_cons h1
     rw [ed] at hc
     have mt:=List.mem_of_getElem? hi
     have st:smT 200 t:=sm_mem hs.2.1 mt
     have dt:L2.dT t≤60:=dT_mem (dT_mem (xs:=[vc a b,.tup ys]) hd (by simp)) mt
     refine ⟨t,rfl,dt,?_⟩
     cases ep:asPc t with
     | none=>exact ⟨rfl,no fun z=>by obtain ⟨p,z,_⟩:=hc.mp (is.mp z);rw [ep] at z;cases z⟩
     | some p=>
     obtain ⟨rfl,np⟩:=asPc_eq ep st
     refine ⟨a',b',p,rfl,nv',np,fun k2 hk2=>?_⟩
     show if (!k2)=true then _ else _
     cases k2 with
     | false=>
      rw [if_pos (by decide)]
      exact ⟨rfl,no fun z=>by
       obtain ⟨p',z,z2,_⟩:=hc.mp (is.mp z);rw [ep] at z;cases z
       have:=hk2.mpr z2;cases this⟩
     | true=>
      rw [if_neg (by decide)]
      refine ⟨p,rfl,KK _ ⟨some (.p (rwT p)),v3,p.px,p.py,rfl,np.end',hc.trans ⟨fun ⟨p',z,_,z3⟩=>?_,fun z=>⟨p,ep,hk2.mp rfl,z⟩⟩⟩⟩
      rw [ep] at z;cases z;exact z3
    ·rintro E ⟨v1,v3,a',b',rfl,nv',hc⟩
     rw [List.drop_length] at hc
     exact ⟨rfl,q true ⟨fun _=>is.mpr (hc.mpr trivial),fun _=>rfl⟩⟩
end
end My
set_option Elab.async false
set_option linter.all false
set_option maxRecDepth 100000
set_option maxHeartbeats 4000000
namespace My
open PySem L2 PyProof.Rows
section
variable {P:Program} {w:World} {K:PySem.W.Frag} {mg:Str→Option Value} {base:Heap}
abbrev s_lowest:Stmt:=top 25
theorem sc_lowest:FnScope ["_law_n","_law_d","_law_one","_law_other"] ["_law_n","_law_d"] (defScope s_lowest):=⟨rfl,rfl,rfl,by decide +kernel,rfl,by decide +kernel,by decide +kernel⟩
theorem ok_lowest {f:Addr} {fd:FuncData} (F:Fun K "_law_lowest" "_law_lowest" s_lowest f fd) (TX:Txt mg)    : FnOk P w K mg base CX0 1 f fd ["_law_n","_law_d"] (spOf K tLow):=by
 refine F.okT sc_lowest ?len (fun cdv A outer s H E hr=>(fb_cons (fs_par (i:=2) (j:=3) rfl sc_lowest.nd rfl rfl (by decide) rfl rfl (fc (fe_abs rfl TX.n_abs (fc (fv 0) fa_nil)) (fc (fe_abs rfl TX.n_abs (fc (fv 1) fa_nil)) fa_nil)) rfl)
 (fb_cons (fs_while PassesOwn.never (ft_cp op_gt (fv 3) fe_int (nomark _)) (fb_one (fs_par (i:=2) (j:=3) rfl sc_lowest.nd rfl rfl (by decide) rfl rfl (fc (fv 3) (fc (fe_opI op_mod (fv 2) (fv 3)) fa_nil)) rfl)))
 (fb_cons (fs_set (i:=2) sc_lowest.nd rfl (Or.inl rfl) (fe_opI op_mulA (fv 2) (fe_if (ft_cp op_gt (fv 1) fe_int (nomark _)) fe_int (fe_neg fe_int))))
 (fb_one (fs_ret (fe_tup (fc (fe_opI op_fdivZ (fv 0) (fv 2)) (fc (fe_opI op_fdivZ (fv 1) (fv 2)) fa_nil))))))))) ?rd
 case len=>rintro as Q ⟨n,d,rfl,_⟩;rfl
 case rd=>
  rintro as Q ⟨n,d,rfl,hd,hb,q⟩
  refine ⟨fun m E=>∃(x y:Nat),E=[some (.p (.int n)),some (.p (.int d)),some (.p (.int x)),some (.p (.int y))]∧m=y∧Nat.gcd x y=Nat.gcd n.natAbs d.natAbs,⟨_,_,_,rfl,rfl,rfl⟩,?_⟩
  rintro m E ⟨x,y,rfl,rfl,hg⟩
  show if decide ((0:Int)<(m:Int))=true then _ else _
  by_cases hy:(0:Int)<(m:Int)
  ·rw [decide_eq_true hy,if_pos rfl]
   exact ⟨hy,x%m,Nat.mod_lt _ (by omega),m,x%m,rfl,rfl,by rw [gcd_step];exact hg⟩
  ·rw [decide_eq_false hy,if_neg (by decide)]
   obtain rfl:m=0:=by omega
   rw [Nat.gcd_zero_right] at hg
   subst hg
   have dn:((Nat.gcd n.natAbs d.natAbs:Nat):Int)∣n:=Int.ofNat_dvd_left.mpr (Nat.gcd_dvd_left _ _)
   have dd:((Nat.gcd n.natAbs d.natAbs:Nat):Int)∣d:=Int.ofNat_dvd_left.mpr (Nat.gcd_dvd_right _ _)
   have g0:((Nat.gcd n.natAbs d.natAbs:Nat):Int)≠0:=(cdivZ (i:=0) (n:=n) hd hb).1
   have fneg:∀{g m:Int},g≠0→g∣m→m.fdiv (-g)=(-m)/g:=fun {g m} h0 hm=>by
    obtain ⟨k,rfl⟩:=hm
    have e1:g*k=(-g)*(-k):=by grind
    have e2:-(g*k)=g*(-k):=by grind
    rw [e2,Int.mul_ediv_cancel_left _ h0,e1,Int.mul_fdiv_cancel_left _ (by omega)]
   show if decide (0<d)=true then _ else _
   by_cases h:0<d
   ·rw [decide_eq_true h,if_pos rfl]
    refine ⟨mulR (by decide),?_⟩
    rw [Int.mul_one]
    refine ⟨cdivZ hd hb,cdivZ hd hb,rfl,?_⟩
    unfold low lowN lowD at q
    rw [if_pos h,if_pos h,←fdivN,←fdivN] at q
    exact q
   ·rw [decide_eq_false h,if_neg (by decide)]
    have cz:∀i:Int,CDivZ i (-((Nat.gcd n.natAbs d.natAbs:Nat):Int)):=fun i=>⟨by omega,by rw [Int.natAbs_neg];exact (cdivZ (i:=i) (n:=n) hd hb).2⟩
    refine ⟨mulR (by decide),?_⟩
    rw [Int.mul_neg_one]
    refine ⟨cz _,cz _,rfl,?_⟩
    unfold low lowN lowD at q
    rw [if_neg h,if_neg h,←fneg g0 dn,←fneg g0 dd] at q
    exact q
abbrev s_sum:Stmt:=top 26
theorem sc_sum:FnScope ["_law_one","_law_other"] ["_law_one","_law_other"] (defScope s_sum):=⟨rfl,rfl,rfl,by decide +kernel,rfl,by decide +kernel,by decide +kernel⟩
theorem ok_sum {f:Addr} {fd:FuncData} (F:Fun K "_law_sum" "_law_sum" s_sum f fd) (TX:Txt mg) (g_lowest:Fn P w K mg base 1 "_law_lowest" ["_law_n","_law_d"] (spOf K tLow))   : FnOk P w K mg base CX0 2 f fd ["_law_one","_law_other"] (spOf K (tBin fadd)):=by
 refine F.okT sc_sum ?len (fun cdv A outer s H E hr=>(fb_one (fs_ret (fe_call g_lowest hr (by omega) rfl (fc (fe_opI0 op_add (fe_opI op_mulA (fe_ix rfl (fv 0) fe_int (fun _ _=>rfl)) (fe_ix rfl (fv 1) fe_int (fun _ _=>rfl))) (fe_opI op_mulA (fe_ix rfl (fv 1) fe_int (fun _ _=>rfl)) (fe_ix rfl (fv 0) fe_int (fun _ _=>rfl)))) (fc (fe_opI op_mulA (fe_ix rfl (fv 0) fe_int (fun _ _=>rfl)) (fe_ix rfl (fv 1) fe_int (fun _ _=>rfl))) fa_nil)))))) ?rd
 case len=>rintro as Q ⟨x,y,rfl,_⟩;rfl
 case rd=>
  rintro as Q ⟨x,y,rfl,hx,hy,hs,q⟩
  have hd:(x.2*y.2).natAbs<2^8000:=pow8 (mul_pow (sz_d x) (sz_d y)) (by omega)
  exact ⟨mulA (e:=7900) (pl (sz_n x) (by omega)) (pl (sz_d y) (by omega)) (by decide),mulA (e:=7900) (pl (sz_n y) (by omega)) (pl (sz_d x) (by omega)) (by decide),mulA (e:=7900) (pl (sz_d x) (by omega)) (pl (sz_d y) (by omega)) (by decide),_,_,rfl,mul_ne hx hy,hd,rfl,q⟩
abbrev s_less:Stmt:=top 28
theorem sc_less:FnScope ["_law_one","_law_other"] ["_law_one","_law_other"] (defScope s_less):=⟨rfl,rfl,rfl,by decide +kernel,rfl,by decide +kernel,by decide +kernel⟩
theorem ok_less {f:Addr} {fd:FuncData} (F:Fun K "_law_less" "_law_less" s_less f fd) (TX:Txt mg) (g_lowest:Fn P w K mg base 1 "_law_lowest" ["_law_n","_law_d"] (spOf K tLow))   : FnOk P w K mg base CX0 2 f fd ["_law_one","_law_other"] (spOf K (tBin fsub)):=by
 refine F.okT sc_less ?len (fun cdv A outer s H E hr=>(fb_one (fs_ret (fe_call g_lowest hr (by omega) rfl (fc (fe_opI0 op_sub (fe_opI op_mulA (fe_ix rfl (fv 0) fe_int (fun _ _=>rfl)) (fe_ix rfl (fv 1) fe_int (fun _ _=>rfl))) (fe_opI op_mulA (fe_ix rfl (fv 1) fe_int (fun _ _=>rfl)) (fe_ix rfl (fv 0) fe_int (fun _ _=>rfl)))) (fc (fe_opI op_mulA (fe_ix rfl (fv 0) fe_int (fun _ _=>rfl)) (fe_ix rfl (fv 1) fe_int (fun _ _=>rfl))) fa_nil)))))) ?rd
 case len=>rintro as Q ⟨x,y,rfl,_⟩;rfl
 case rd=>
  rintro as Q ⟨x,y,rfl,hx,hy,hs,q⟩
  have hd:(x.2*y.2).natAbs<2^8000:=pow8 (mul_pow (sz_d x) (sz_d y)) (by omega)
  exact ⟨mulA (e:=7900) (pl (sz_n x) (by omega)) (pl (sz_d y) (by omega)) (by decide),mulA (e:=7900) (pl (sz_n y) (by omega)) (pl (sz_d x) (by omega)) (by decide),mulA (e:=7900) (pl (sz_d x) (by omega)) (pl (sz_d y) (by omega)) (by decide),_,_,rfl,mul_ne hx hy,hd,rfl,q⟩
abbrev s_product:Stmt:=top 27
theorem sc_product:FnScope ["_law_one","_law_other"] ["_law_one","_law_other"] (defScope s_product):=⟨rfl,rfl,rfl,by decide +kernel,rfl,by decide +kernel,by decide +kernel⟩
theorem ok_product {f:Addr} {fd:FuncData} (F:Fun K "_law_product" "_law_product" s_product f fd) (TX:Txt mg) (g_lowest:Fn P w K mg base 1 "_law_lowest" ["_law_n","_law_d"] (spOf K tLow))   : FnOk P w K mg base CX0 2 f fd ["_law_one","_law_other"] (spOf K (tBin fmul)):=by
 refine F.okT sc_product ?len (fun cdv A outer s H E hr=>(fb_one (fs_ret (fe_call g_lowest hr (by omega) rfl (fc (fe_opI op_mulA (fe_ix rfl (fv 0) fe_int (fun _ _=>rfl)) (fe_ix rfl (fv 1) fe_int (fun _ _=>rfl))) (fc (fe_opI op_mulA (fe_ix rfl (fv 0) fe_int (fun _ _=>rfl)) (fe_ix rfl (fv 1) fe_int (fun _ _=>rfl))) fa_nil)))))) ?rd
 case len=>rintro as Q ⟨x,y,rfl,_⟩;rfl
 case rd=>
  rintro as Q ⟨x,y,rfl,hx,hy,hs,q⟩
  have hd:(x.2*y.2).natAbs<2^8000:=pow8 (mul_pow (sz_d x) (sz_d y)) (by omega)
  exact ⟨mulA (e:=7900) (pl (sz_n x) (by omega)) (pl (sz_n y) (by omega)) (by decide),mulA (e:=7900) (pl (sz_d x) (by omega)) (pl (sz_d y) (by omega)) (by decide),_,_,rfl,mul_ne hx hy,hd,rfl,q⟩
def tJoin:SpT:=fun as Q=>∃(x y p q:Fr) (e f:Nat),as=[.v (vc x y),.v (vc p q)]∧Nv x y e∧Nv p q f∧e+f≤7000∧Q (.v (vc (fadd x p) (fadd y q))) []
abbrev s_joined:Stmt:=top 29
theorem sc_joined:FnScope ["_law_one","_law_other"] ["_law_one","_law_other"] (defScope s_joined):=⟨rfl,rfl,rfl,by decide +kernel,rfl,by decide +kernel,by decide +kernel⟩
theorem ok_joined {f:Addr} {fd:FuncData} (F:Fun K "_law_joined" "_law_joined" s_joined f fd) (TX:Txt mg) (g_sum:Fn P w K mg base 2 "_law_sum" ["_law_one","_law_other"] (spOf K (tBin fadd)))   : FnOk P w K mg base CX0 3 f fd ["_law_one","_law_other"] (spOf K tJoin):=by
 refine F.okT sc_joined ?len (fun cdv A outer s H E hr=>(fb_one (fs_ret (fe_tup (fc (fe_call g_sum hr (by omega) rfl (fc (fe_ix rfl (fv 0) fe_int (fun _ _=>rfl)) (fc (fe_ix rfl (fv 1) fe_int (fun _ _=>rfl)) fa_nil))) (fc (fe_call g_sum hr (by omega) rfl (fc (fe_ix rfl (fv 0) fe_int (fun _ _=>rfl)) (fc (fe_ix rfl (fv 1) fe_int (fun _ _=>rfl)) fa_nil))) fa_nil)))))) ?rd
 case len=>rintro as Q ⟨x,y,p,q,e,f,rfl,_⟩;rfl
 case rd=>
  rintro as Q ⟨x,y,p,q,e,f,rfl,h,k,hs,z⟩
  have:=h.sx;have:=h.sy;have:=k.sx;have:=k.sy
  exact ⟨_,_,rfl,h.x,k.x,by omega,_,_,rfl,h.y,k.y,by omega,rfl,z⟩
abbrev s_off:Stmt:=top 30
theorem sc_off:FnScope ["_law_one","_law_other"] ["_law_one","_law_other"] (defScope s_off):=⟨rfl,rfl,rfl,by decide +kernel,rfl,by decide +kernel,by decide +kernel⟩
theorem ok_off {f:Addr} {fd:FuncData} (F:Fun K "_law_off" "_law_off" s_off f fd) (TX:Txt mg) (g_less:Fn P w K mg base 2 "_law_less" ["_law_one","_law_other"] (spOf K (tBin fsub)))   : FnOk P w K mg base CX0 3 f fd ["_law_one","_law_other"] (spOf K tOff):=by
 refine F.okT sc_off ?len (fun cdv A outer s H E hr=>(fb_one (fs_ret (fe_tup (fc (fe_call g_less hr (by omega) rfl (fc (fe_ix rfl (fv 0) fe_int (fun _ _=>rfl)) (fc (fe_ix rfl (fv 1) fe_int (fun _ _=>rfl)) fa_nil))) (fc (fe_call g_less hr (by omega) rfl (fc (fe_ix rfl (fv 0) fe_int (fun _ _=>rfl)) (fc (fe_ix rfl (fv 1) fe_int (fun _ _=>rfl)) fa_nil))) fa_nil)))))) ?rd
 case len=>rintro as Q ⟨x,y,p,q,e,f,rfl,_⟩;rfl
 case rd=>
  rintro as Q ⟨x,y,p,q,e,f,rfl,h,k,hs,z⟩
  have:=h.sx;have:=h.sy;have:=k.sx;have:=k.sy
  exact ⟨_,_,rfl,h.x,k.x,by omega,_,_,rfl,h.y,k.y,by omega,rfl,z⟩
def tScBy:SpT:=fun as Q=>∃(x y b:Fr) (e:Nat),as=[.v (vc x y),.v (fr b)]∧Nv x y e∧Nrm b∧e+sz b≤7000∧Q (.v (vc (fmul x b) (fmul y b))) []
abbrev s_scaled_by:Stmt:=top 31
theorem sc_scaled_by:FnScope ["_law_vector","_law_share"] ["_law_vector","_law_share"] (defScope s_scaled_by):=⟨rfl,rfl,rfl,by decide +kernel,rfl,by decide +kernel,by decide +kernel⟩
theorem ok_scaled_by {f:Addr} {fd:FuncData} (F:Fun K "_law_scaled_by" "_law_scaled_by" s_scaled_by f fd) (TX:Txt mg) (g_product:Fn P w K mg base 2 "_law_product" ["_law_one","_law_other"] (spOf K (tBin fmul)))   : FnOk P w K mg base CX0 3 f fd ["_law_vector","_law_share"] (spOf K tScBy):=by
 refine F.okT sc_scaled_by ?len (fun cdv A outer s H E hr=>(fb_one (fs_ret (fe_tup (fc (fe_call g_product hr (by omega) rfl (fc (fe_ix rfl (fv 0) fe_int (fun _ _=>rfl)) (fc (fv 1) fa_nil))) (fc (fe_call g_product hr (by omega) rfl (fc (fe_ix rfl (fv 0) fe_int (fun _ _=>rfl)) (fc (fv 1) fa_nil))) fa_nil)))))) ?rd
 case len=>rintro as Q ⟨x,y,b,e,rfl,_⟩;rfl
 case rd=>
  rintro as Q ⟨x,y,b,e,rfl,h,hb,hs,z⟩
  have:=h.sx;have:=h.sy
  exact ⟨_,_,rfl,h.x,hb,by omega,_,_,rfl,h.y,hb,by omega,rfl,z⟩
abbrev s_to_left:Stmt:=top 34
theorem sc_to_left:FnScope ["_law_vector"] ["_law_vector"] (defScope s_to_left):=⟨rfl,rfl,rfl,by decide +kernel,rfl,by decide +kernel,by decide +kernel⟩
theorem ok_to_left {f:Addr} {fd:FuncData} (F:Fun K "_law_to_left" "_law_to_left" s_to_left f fd) (TX:Txt mg)    : FnOk P w K mg base CX0 1 f fd ["_law_vector"] (spOf K tLeft):=by
 refine F.okT sc_to_left ?len (fun cdv A outer s H E hr=>(fb_one (fs_ret (fe_tup (fc (fe_tup (fc (fe_neg (fe_ix rfl (fe_ix rfl (fv 0) fe_int (fun _ _=>rfl)) fe_int (fun _ _=>rfl))) (fc (fe_ix rfl (fe_ix rfl (fv 0) fe_int (fun _ _=>rfl)) fe_int (fun _ _=>rfl)) fa_nil))) (fc (fe_ix rfl (fv 0) fe_int (fun _ _=>rfl)) fa_nil)))))) ?rd
 case len=>rintro as Q ⟨x,y,rfl,_⟩;rfl
 case rd=>
  rintro as Q ⟨x,y,rfl,q⟩
  exact ⟨rfl,q⟩
def un0 (k:Nat):Fr×Fr:=match k with
 | 0=>((1,1),(0,1)) | 1=>((4,5),(3,5)) | 2=>((3,5),(4,5)) | 3=>((12,13),(5,13)) | _=>((5,13),(12,13))
def rotN:Nat→Fr×Fr→Fr×Fr
 | 0,p=>p
 | n+1,p=>let q:=rotN n p;(fneg q.2,q.1)
def un (k:Nat):Fr×Fr:=rotN (k/5%4) (un0 (k%5))
def unT (k:Nat):L2.T:=vc (un k).1 (un k).2
theorem un_ok (k:Nat) (h:k<20):UnE (un k).1 (un k).2 4:=by
 have n0:∀j,j<5→UnE (un0 j).1 (un0 j).2 4:=fun j hj=>by
  have:j=0∨j=1∨j=2∨j=3∨j=4:=by omega
  have mk:∀a b c:Int,0<c→Nat.gcd a.natAbs c.natAbs=1→Nat.gcd b.natAbs c.natAbs=1→a.natAbs<2^4→b.natAbs<2^4→c.natAbs<2^4→a*a+b*b=c*c→UnE (a,c) (b,c) 4:=fun a b c c0 g1 g2 a4 b4 c4 e=>by
   refine ⟨⟨⟨c0,g1⟩,⟨c0,g2⟩,sz_le a4 c4 (by decide),sz_le b4 c4 (by decide)⟩,?_⟩
   show (a:Rat)/(c:Rat)*((a:Rat)/(c:Rat))+(b:Rat)/(c:Rat)*((b:Rat)/(c:Rat))=1
   have nz:(c:Rat)≠0:=by exact_mod_cast (show c≠0 by omega)
   have e':(a:Rat)*a+b*b=c*c:=by exact_mod_cast e
   grind
  rcases this with rfl | rfl | rfl | rfl | rfl
  ·exact mk 1 0 1 (by decide) (by decide) (by decide) (by decide) (by decide) (by decide) (by decide)
  ·exact mk 4 3 5 (by decide) (by decide) (by decide) (by decide) (by decide) (by decide) (by decide)
  ·exact mk 3 4 5 (by decide) (by decide) (by decide) (by decide) (by decide) (by decide) (by decide)
  ·exact mk 12 5 13 (by decide) (by decide) (by decide) (by decide) (by decide) (by decide) (by decide)
  ·exact mk 5 12 13 (by decide) (by decide) (by decide) (by decide) (by decide) (by decide) (by decide)
 have nr:∀n p,UnE p.1 p.2 4→UnE (rotN n p).1 (rotN n p).2 4:=fun n p hp=>by
  induction n with
  | zero=>exact hp
  | succ n ih=>exact ih.left
 exact nr _ _ (n0 _ (Nat.mod_lt _ (by decide)))
theorem un_ne:∀j k:Fin 20,j≠k→un j.1≠un k.1:=by decide +kernel
def tUnitOf':SpT:=fun as Q=>∃k:Nat,as=[.v (.int (k:Int))]∧k<20∧Q (.v (unT k)) []
abbrev s_unit_of:Stmt:=top 35
theorem sc_unit_of:FnScope ["_law_k","_law_some","_law_found","_law_turn"] ["_law_k"] (defScope s_unit_of):=⟨rfl,rfl,rfl,by decide +kernel,rfl,by decide +kernel,by decide +kernel⟩
theorem ok_unit_of {f:Addr} {fd:FuncData} (F:Fun K "_law_unit_of" "_law_unit_of" s_unit_of f fd) (TX:Txt mg) (g_to_left:Fn P w K mg base 1 "_law_to_left" ["_law_vector"] (spOf K tLeft))   : FnOk P w K mg base CX0 2 f fd ["_law_k"] (spOf K tUnitOf'):=by
 refine F.okT sc_unit_of ?len (fun cdv A outer s H E hr=>(fb_cons (fs_set (i:=1) sc_unit_of.nd rfl (Or.inl rfl) (fe_lst (fc (fe_tup (fc (fe_tup (fc fe_int (fc fe_int fa_nil))) (fc (fe_tup (fc fe_int (fc fe_int fa_nil))) fa_nil))) (fc (fe_tup (fc (fe_tup (fc fe_int (fc fe_int fa_nil))) (fc (fe_tup (fc fe_int (fc fe_int fa_nil))) fa_nil))) (fc (fe_tup (fc (fe_tup (fc fe_int (fc fe_int fa_nil))) (fc (fe_tup (fc fe_int (fc fe_int fa_nil))) fa_nil))) (fc (fe_tup (fc (fe_tup (fc fe_int (fc fe_int fa_nil))) (fc (fe_tup (fc fe_int (fc fe_int fa_nil))) fa_nil))) (fc (fe_tup (fc (fe_tup (fc fe_int (fc fe_int fa_nil))) (fc (fe_tup (fc fe_int (fc fe_int fa_nil))) fa_nil))) fa_nil)))))))
 (fb_cons (fs_set (i:=2) sc_unit_of.nd rfl (Or.inl rfl) (fe_ix rfl (fv 1) (fe_opI op_mod (fv 0) fe_int) (fun _ _=>rfl)))
 (fb_cons (fs_for PassesOwn.never rfl (fi_range1 rfl TX.n_range (fc (fe_opI op_mod (fe_opI op_fdivZ (fv 0) fe_int) fe_int) fa_nil)) (fg_name (i:=3) sc_unit_of.nd rfl (Or.inl rfl))
  (fb_one (fs_set (i:=2) sc_unit_of.nd rfl (Or.inl rfl) (fe_call g_to_left hr (by omega) rfl (fc (fv 2) fa_nil)))))
 (fb_one (fs_ret (fv 2))))))) ?rd
 case len=>rintro as Q ⟨k,rfl,_⟩;rfl
 case rd=>
  rintro as Q ⟨k,rfl,hk,q⟩
  refine ⟨by show (0:Int)<5;decide,?_⟩
  have at0:∀j:Nat,j<5→atI [L2.T.tup [.tup [.int 1,.int 1],.tup [.int 0,.int 1]],.tup [.tup [.int 4,.int 5],.tup [.int 3,.int 5]],.tup [.tup [.int 3,.int 5],.tup [.int 4,.int 5]],.tup [.tup [.int 12,.int 13],.tup [.int 5,.int 13]],.tup [.tup [.int 5,.int 13],.tup [.int 12,.int 13]]] (j:Int)=some (vc (un0 j).1 (un0 j).2):=fun j hj=>by
   have:j=0∨j=1∨j=2∨j=3∨j=4:=by omega
   rcases this with rfl | rfl | rfl | rfl | rfl<;>rfl
  have em:((k:Int)%5)=((k%5:Nat):Int):=rfl
  show o1 (atI [L2.T.tup [.tup [.int 1,.int 1],.tup [.int 0,.int 1]],.tup [.tup [.int 4,.int 5],.tup [.int 3,.int 5]],.tup [.tup [.int 3,.int 5],.tup [.int 4,.int 5]],.tup [.tup [.int 12,.int 13],.tup [.int 5,.int 13]],.tup [.tup [.int 5,.int 13],.tup [.int 12,.int 13]]] ((k:Int)%5)) _
  rw [em,at0 _ (Nat.mod_lt _ (by decide))]
  have ek:((k:Int).fdiv 5%4)=((k/5%4:Nat):Int):=by
   rw [Int.fdiv_eq_ediv_of_nonneg _ (by decide)]
   omega
  refine ⟨⟨by decide,by decide⟩,by show (0:Int)<4;decide,?_⟩
  rw [ek]
  refine ⟨⟨by omega,by omega⟩,?_⟩
  rw [Int.toNat_natCast]
  refine loopT_inv (fun i E=>∃v1 v3:Option U,E=[some (.p (.int (k:Int))),v1,some (.p (vc (rotN i (un0 (k%5))).1 (rotN i (un0 (k%5))).2)),v3]) ⟨_,_,rfl⟩ ?_ ?_
  ·rintro i t rest E hi ⟨v1,v3,rfl⟩ KK
   exact ⟨_,_,rfl,KK _ ⟨_,_,rfl⟩⟩
  ·rintro E ⟨v1,v3,rfl⟩
   have el:(rngT 0 (k/5%4)).length=k/5%4:=by simp [rngT]
   rw [el]
   exact ⟨rfl,q⟩
end
end My
set_option Elab.async false
set_option linter.all false
set_option maxRecDepth 100000
set_option maxHeartbeats 4000000
namespace My
open PySem L2 PyProof.Rows
section
variable {P:Program} {w:World} {K:PySem.W.Frag} {mg:Str→Option Value} {base:Heap}
inductive Mv where
 | side (x y m:Fr) | arc (x y u v r:Fr) (l:Bool)
def mvT:Mv→L2.T
 | .side x y m=>.tup [.str "side",vc x y,fr m]
 | .arc x y u v r l=>.tup [.str "arc",vc x y,vc u v,fr r,.str (turnS l)]
def Dv (B:Nat) (x:Fr):Prop:=∃k:Int,val x*65=(k:Rat)∧k.natAbs≤B
def Wh (x:Fr):Prop:=∃k:Int,val x=(k:Rat)∧k.natAbs≤11
theorem Dv.neg {B:Nat} {x:Fr} (n:Nrm x) (h:Dv B x):Dv B (fneg x):=by
 obtain ⟨k,e,b⟩:=h
 exact ⟨-k,by rw [val_neg n];push_cast;grind,by omega⟩
theorem Dv.up {B C:Nat} {x:Fr} (h:Dv B x) (k:B≤C):Dv C x:=let ⟨j,e,b⟩:=h;⟨j,e,by omega⟩
theorem Dv.add {B C:Nat} {x y:Fr} (nx:Nrm x) (ny:Nrm y) (h:Dv B x) (k:Dv C y):Dv (B+C) (fadd x y):=by
 obtain ⟨i,e1,b1⟩:=h
 obtain ⟨j,e2,b2⟩:=k
 exact ⟨i+j,by rw [val_add nx ny];push_cast;grind,by omega⟩
theorem Dv.sub {B C:Nat} {x y:Fr} (nx:Nrm x) (ny:Nrm y) (h:Dv B x) (k:Dv C y):Dv (B+C) (fsub x y):=by
 obtain ⟨i,e1,b1⟩:=h
 obtain ⟨j,e2,b2⟩:=k
 exact ⟨i-j,by rw [val_sub nx ny];push_cast;grind,by omega⟩
theorem Dv.mul {B:Nat} {x y:Fr} (nx:Nrm x) (ny:Nrm y) (h:Dv B x) (k:Wh y):Dv (B*11) (fmul x y):=by
 obtain ⟨i,e1,b1⟩:=h
 obtain ⟨j,e2,b2⟩:=k
 refine ⟨i*j,by rw [val_mul nx ny];push_cast;grind,?_⟩
 rw [Int.natAbs_mul]
 exact Nat.mul_le_mul b1 b2
theorem un_dv (k:Nat) (h:k<20):Dv 65 (un k).1∧Dv 65 (un k).2:=by
 have key:∀k:Fin 20,(65%(un k.1).1.2=0∧(un k.1).1.1.natAbs≤(un k.1).1.2.natAbs∧0<(un k.1).1.2)∧(65%(un k.1).2.2=0∧(un k.1).2.1.natAbs≤(un k.1).2.2.natAbs∧0<(un k.1).2.2):=by decide +kernel
 have mk:∀x:Fr,(65%x.2=0∧x.1.natAbs≤x.2.natAbs∧0<x.2)→Dv 65 x:=fun x ⟨h1,h2,h3⟩=>by
  obtain ⟨c,hc⟩:x.2∣65:=Int.dvd_of_emod_eq_zero h1
  have nz:(x.2:Rat)≠0:=by exact_mod_cast (show x.2≠0 by omega)
  have hc':(65:Rat)=(x.2:Rat)*(c:Rat):=by exact_mod_cast hc
  refine ⟨x.1*c,?_,?_⟩
  ·show (x.1:Rat)/(x.2:Rat)*65=_
   rw [hc'];push_cast;grind
  ·rw [Int.natAbs_mul]
   have e:x.2.natAbs*c.natAbs=65:=by rw [←Int.natAbs_mul,←hc];rfl
   exact Nat.le_trans (Nat.mul_le_mul_right _ h2) (by omega)
 exact ⟨mk _ (key ⟨k,h⟩).1,mk _ (key ⟨k,h⟩).2⟩
theorem wh_int {k:Int} (h:k.natAbs≤11):Wh (k,1):=⟨k,val_int k,h⟩
def okMv:Mv→Prop
 | .side x y m=>UnE x y 4∧Nrm m∧sz m≤4∧0<val m∧Dv 65 x∧Dv 65 y∧Wh m
 | .arc x y u v r _=>UnE x y 4∧UnE u v 4∧¬(x=u∧y=v)∧Nrm r∧sz r≤3∧0<val r∧(Dv 65 x∧Dv 65 y)∧(Dv 65 u∧Dv 65 v)∧Wh r
theorem noL_mv:∀m:Mv,noL (mvT m)=true
 | .side _ _ _=>rfl
 | .arc _ _ _ _ _ _=>rfl
theorem noLs_mvs:∀ms:List Mv,noLs (ms.map mvT)=true
 | []=>rfl
 | m::ms=>by show (noL (mvT m)&&noLs (ms.map mvT))=true;rw [noL_mv,noLs_mvs ms];rfl
theorem whole_ok {k:Int} {e:Nat} (h1:1≤k) (he:k.natAbs<2^e) (e0:0<e):Nrm (k,1)∧sz (k,1)≤e∧0<val (k,1):=by
 refine ⟨nrm_int k,sz_le he (show (1:Int).natAbs<2^e from Nat.one_lt_two_pow (by omega)) e0,?_⟩
 rw [val_int]
 exact_mod_cast (show 0<k by omega)
def tMvBy:SpT:=fun as Q=>∃(xs:List L2.T) (n:Int),as=[.b xs,.v (.bl true)]∧Bx xs n∧n≤900000∧∀m ys,okMv m→Bx ys (n+5)→noLs ys=true→Q (.v (mvT m)) ys
abbrev s_move_by:Stmt:=top 36
theorem sc_move_by:FnScope ["_law_box","_law_arcs","_law_turn","_law_kind","_law_many","_law_first","_law_more"] ["_law_box","_law_arcs"] (defScope s_move_by):=⟨rfl,rfl,rfl,by decide +kernel,rfl,by decide +kernel,by decide +kernel⟩
theorem ok_move_by {f:Addr} {fd:FuncData} (F:Fun K "_law_move_by" "_law_move_by" s_move_by f fd) (TX:Txt mg) (g_take:Fn P w K mg base 1 "_law_take" ["_law_box","_law_many"] (spOf K tTake)) (g_unit_of:Fn P w K mg base 2 "_law_unit_of" ["_law_k"] (spOf K tUnitOf'))   : FnOk P w K mg base CX0 3 f fd ["_law_box","_law_arcs"] (spOf K tMvBy):=by
 refine F.okT sc_move_by ?len (fun cdv A outer s H E hr=>(fb_cons (fs_par (i:=3) (j:=4) rfl sc_move_by.nd rfl rfl (by decide) rfl rfl (fc (fe_callB g_take hr (by omega) rfl (fc (fv 0) (fc fe_int fa_nil))) (fc (fe_opI0 op_add fe_int (fe_callB g_take hr (by omega) rfl (fc (fv 0) (fc fe_int fa_nil)))) fa_nil)) rfl)
 (fb_cons (fs_par (i:=5) (j:=6) rfl sc_move_by.nd rfl rfl (by decide) rfl rfl (fc (fe_callB g_take hr (by omega) rfl (fc (fv 0) (fc fe_int fa_nil))) (fc (fe_opI0 op_add fe_int (fe_callB g_take hr (by omega) rfl (fc (fv 0) (fc fe_int fa_nil)))) fa_nil)) rfl)
 (fb_cons (fs_if (ft_w (fw_or (ft_not (ft_val (fv 1))) (fw_or1 (ft_cp op_gt (fv 3) fe_int (nomark _))))) (fb_one (fs_ret (fe_tup (fc fe_str (fc (fe_call g_unit_of hr (by omega) rfl (fc (fv 5) fa_nil)) (fc (fe_tup (fc (fv 4) (fc fe_int fa_nil))) fa_nil)))))) fb_nil)
 (fb_cons (fs_set (i:=2) sc_move_by.nd rfl (Or.inl rfl) (fe_ix rfl (fe_lst (fc fe_str (fc fe_str fa_nil))) (fe_callB g_take hr (by omega) rfl (fc (fv 0) (fc fe_int fa_nil))) (fun _ _=>rfl)))
 (fb_one (fs_ret (fe_tup (fc fe_str (fc (fe_call g_unit_of hr (by omega) rfl (fc (fv 5) fa_nil)) (fc (fe_call g_unit_of hr (by omega) rfl (fc (fe_opI op_mod (fe_opI0 op_add (fv 5) (fv 6)) fe_int) fa_nil)) (fc (fe_tup (fc (fe_opI0 op_add fe_int (fe_opI op_fdivZ (fv 4) fe_int)) (fc fe_int fa_nil))) (fc (fv 2) fa_nil))))))))))))) ?rd
 case len=>rintro as Q ⟨xs,n,rfl,_⟩;rfl
 case rd=>
  rintro as Q ⟨xs,n,rfl,hB,hn,q⟩
  refine ⟨xs,3,n,rfl,hB,by omega,by decide,by decide,fun kd y1 k0 k1 b1=>?_⟩
  refine ⟨y1,11,n+1,rfl,b1,by omega,by decide,by decide,fun mn y2 m0 m1 b2=>?_⟩
  refine ⟨y2,20,n+1+1,rfl,b2,by omega,by decide,by decide,fun fs y3 f0 f1 b3=>?_⟩
  refine ⟨y3,19,n+1+1+1,rfl,b3,by omega,by decide,by decide,fun mo y4 o0 o1' b4=>?_⟩
  obtain ⟨f,rfl⟩:∃f:Nat,fs=(f:Int):=⟨fs.toNat,by omega⟩
  have hf:f<20:=by omega
  obtain ⟨w1,w2,w3⟩:=whole_ok (k:=1+mn) (e:=4) (by omega) (by omega) (by decide)
  show if decide (0<kd)=true then _ else _
  by_cases c:0<kd
  ·rw [decide_eq_true c,if_pos rfl]
   obtain ⟨A,B,C,rfl,_⟩:=id b4
   exact ⟨f,rfl,hf,rfl,q (.side (un f).1 (un f).2 (1+mn,1)) _ ⟨un_ok f hf,w1,w2,w3,(un_dv f hf).1,(un_dv f hf).2,wh_int (by omega)⟩ (b4.mono (by omega)) rfl⟩
  ·rw [decide_eq_false c,if_neg (by decide)]
   refine ⟨y4,2,n+1+1+1+1,rfl,b4,by omega,by decide,by decide,fun tn y5 t0 t1 b5=>?_⟩
   obtain ⟨A,B,C,rfl,_⟩:=id b5
   obtain ⟨l,hl⟩:∃l,atI [L2.T.str (Str.ofString "left"),.str (Str.ofString "right")] tn=some (.str (turnS l)):=by
    have:tn=0∨tn=1:=by omega
    rcases this with rfl | rfl
    ·exact ⟨true,rfl⟩
    ·exact ⟨false,rfl⟩
   show o1 (atI [L2.T.str (Str.ofString "left"),.str (Str.ofString "right")] tn) _
   rw [hl]
   refine ⟨f,rfl,hf,by show (0:Int)<20;decide,?_⟩
   obtain ⟨g,hg⟩:∃g:Nat,((f:Int)+(1+mo))%20=(g:Int):=⟨(((f:Int)+(1+mo))%20).toNat,by omega⟩
   have hg20:g<20:=by omega
   have hgf:f≠g:=by omega
   rw [hg]
   refine ⟨g,rfl,hg20,⟨by decide,by decide⟩,?_⟩
   have er:(1+mn).fdiv 2=(1+mn)/2:=Int.fdiv_eq_ediv_of_nonneg _ (by decide)
   rw [er]
   obtain ⟨r1,r2,r3⟩:=whole_ok (k:=1+(1+mn)/2) (e:=3) (by omega) (by omega) (by decide)
   exact ⟨rfl,q (.arc (un f).1 (un f).2 (un g).1 (un g).2 (1+(1+mn)/2,1) l) _ ⟨un_ok f hf,un_ok g hg20,fun z=>un_ne ⟨f,hf⟩ ⟨g,hg20⟩ (by simpa using hgf) (Prod.ext z.1 z.2),r1,r2,r3,un_dv f hf,un_dv g hg20,wh_int (by omega)⟩ (b5.mono (by omega)) rfl⟩
theorem mul_m1 {x:Fr} (h:Nrm x):fmul x (-1,1)=fneg x:=by
 have n1:Nrm ((-1,1):Fr):=nrm_int (-1)
 refine val_inj (nrm_mul h n1) (nrm_neg h) ?_
 rw [val_mul h n1,val_neg h,val_int]
 grind
def mvB:Mv→Mv
 | .side x y m=>.side (fneg x) (fneg y) m
 | .arc x y u v r l=>.arc (fneg x) (fneg y) (fneg u) (fneg v) r l
theorem fneg_inj {x y:Fr} (h:fneg x=fneg y):x=y:=by
 have h1:=congrArg Prod.fst h
 have h2:=congrArg Prod.snd h
 simp only [fneg] at h1 h2
 exact Prod.ext (by omega) h2
theorem okMv.back:∀{m:Mv},okMv m→okMv (mvB m)
 | .side _ _ _,⟨u,a,b,c,g1,g2,w⟩=>⟨u.neg,a,b,c,g1.neg u.nv.x,g2.neg u.nv.y,w⟩
 | .arc _ _ _ _ _ _,⟨u,v,ne,a,b,c,g,h,w⟩=>⟨u.neg,v.neg,fun z=>ne ⟨fneg_inj z.1,fneg_inj z.2⟩,a,b,c,⟨g.1.neg u.nv.x,g.2.neg u.nv.y⟩,⟨h.1.neg v.nv.x,h.2.neg v.nv.y⟩,w⟩
def tMvBack:SpT:=fun as Q=>∃m:Mv,as=[.v (mvT m)]∧okMv m∧Q (.v (mvT (mvB m))) []
abbrev s_move_back:Stmt:=top 38
theorem sc_move_back:FnScope ["_law_move"] ["_law_move"] (defScope s_move_back):=⟨rfl,rfl,rfl,by decide +kernel,rfl,by decide +kernel,by decide +kernel⟩
theorem ok_move_back {f:Addr} {fd:FuncData} (F:Fun K "_law_move_back" "_law_move_back" s_move_back f fd) (TX:Txt mg) (g_scaled_by:Fn P w K mg base 3 "_law_scaled_by" ["_law_vector","_law_share"] (spOf K tScBy))   : FnOk P w K mg base CX0 4 f fd ["_law_move"] (spOf K tMvBack):=by
 refine F.okT sc_move_back ?len (fun cdv A outer s H E hr=>(fb_cons (fs_if (ft_eq rfl hr (fe_ix rfl (fv 0) fe_int (fun _ _=>rfl)) fe_str (nomark _)) (fb_one (fs_ret (fe_tup (fc fe_str (fc (fe_call g_scaled_by hr (by omega) rfl (fc (fe_ix rfl (fv 0) fe_int (fun _ _=>rfl)) (fc (fe_tup (fc (fe_neg fe_int) (fc fe_int fa_nil))) fa_nil))) (fc (fe_ix rfl (fv 0) fe_int (fun _ _=>rfl)) fa_nil)))))) fb_nil)
 (fb_one (fs_ret (fe_tup (fc fe_str (fc (fe_call g_scaled_by hr (by omega) rfl (fc (fe_ix rfl (fv 0) fe_int (fun _ _=>rfl)) (fc (fe_tup (fc (fe_neg fe_int) (fc fe_int fa_nil))) fa_nil))) (fc (fe_call g_scaled_by hr (by omega) rfl (fc (fe_ix rfl (fv 0) fe_int (fun _ _=>rfl)) (fc (fe_tup (fc (fe_neg fe_int) (fc fe_int fa_nil))) fa_nil))) (fc (fe_ix rfl (fv 0) fe_int (fun _ _=>rfl)) (fc (fe_ix rfl (fv 0) fe_int (fun _ _=>rfl)) fa_nil)))))))))) ?rd
 case len=>rintro as Q ⟨m,rfl,_⟩;rfl
 case rd=>
  rintro as Q ⟨m,rfl,h,q⟩
  have n1:Nrm ((-1,1):Fr):=nrm_int (-1)
  have s1:sz ((-1,1):Fr)≤1:=sz_le (e:=1) (by decide) (by decide) (by decide)
  cases m with
  | side x y m=>
   refine ⟨Nat.zero_le _,?_⟩
   refine ⟨x,y,(-1,1),4,rfl,h.1.nv,n1,by omega,rfl,?_⟩
   rw [mul_m1 h.1.nv.x,mul_m1 h.1.nv.y]
   exact q
  | arc x y u v r l=>
   refine ⟨Nat.zero_le _,?_⟩
   refine ⟨x,y,(-1,1),4,rfl,h.1.nv,n1,by omega,u,v,(-1,1),4,rfl,h.2.1.nv,n1,by omega,rfl,?_⟩
   rw [mul_m1 h.1.nv.x,mul_m1 h.1.nv.y,mul_m1 h.2.1.nv.x,mul_m1 h.2.1.nv.y]
   exact q
end
end My
set_option Elab.async false
set_option linter.all false
set_option maxRecDepth 100000
set_option maxHeartbeats 4000000
namespace My
open PySem L2 PyProof.Rows
section
variable {P:Program} {w:World} {K:PySem.W.Frag} {mg:Str→Option Value} {base:Heap}
theorem nv_sc {x y b:Fr} {e f:Nat} (k:Nv x y f) (hb:Nrm b) (hs:sz b≤e):Nv (fmul x b) (fmul y b) (f+e):=by
 have:=k.sx;have:=k.sy
 have m1:=sz_mul k.x hb;have m2:=sz_mul k.y hb
 exact ⟨nrm_mul k.x hb,nrm_mul k.y hb,by omega,by omega⟩
theorem nv_les {p q x y:Fr} {e f:Nat} (h:Nv p q e) (k:Nv x y f):Nv (fsub p x) (fsub q y) (e+f+1):=by
 have:=h.sx;have:=h.sy;have:=k.sx;have:=k.sy
 have m1:=sz_sub h.x k.x;have m2:=sz_sub h.y k.y
 exact ⟨nrm_sub h.x k.x,nrm_sub h.y k.y,by omega,by omega⟩
theorem nv_sum {p q x y:Fr} {e f:Nat} (h:Nv p q e) (k:Nv x y f):Nv (fadd p x) (fadd q y) (e+f+1):=by
 have:=h.sx;have:=h.sy;have:=k.sx;have:=k.sy
 have m1:=sz_add h.x k.x;have m2:=sz_add h.y k.y
 exact ⟨nrm_add h.x k.x,nrm_add h.y k.y,by omega,by omega⟩
def mvP (a b:Fr):Mv→Pc
 | .side x y m=>.side (fadd a (fmul x m)) (fadd b (fmul y m))
 | .arc x y u v r l=>.arc (fsub a (fmul x r)) (fsub b (fmul y r)) (fadd (fsub a (fmul x r)) (fmul u r)) (fadd (fsub b (fmul y r)) (fmul v r)) l
theorem mvP_ok {a b:Fr} {e:Nat} (h:Nv a b e):∀{m:Mv},okMv m→okPc (e+16) a b (mvP a b m)
 | .side x y m,⟨u,nm,sm,pm,_⟩=>by
  have s:=nv_sc u.nv nm sm
  refine ⟨(nv_sum h s).up (by omega),val m,pm,?_⟩
  unfold far2
  rw [val_add h.x s.x,val_add h.y s.y,val_mul u.nv.x nm,val_mul u.nv.y nm]
  have:=u.one
  have e1:(val a+val x*val m-val a)*(val a+val x*val m-val a)+(val b+val y*val m-val b)*(val b+val y*val m-val b)=(val x*val x+val y*val y)*(val m*val m):=by grind
  rw [e1,this];grind
 | .arc x y u v r l,⟨uu,uv,ne,nr,sr,pr,_⟩=>by
  have s:=nv_sc uu.nv nr sr
  have t:=nv_sc uv.nv nr sr
  have m:=nv_les h s
  have z:=nv_sum m t
  have o1:=uu.one
  have o2:=uv.one
  refine ⟨m.up (by omega),z.up (by omega),fun c=>?_,val r,pr,?_,?_⟩
  ·have c1:=congrArg val c.1
   have c2:=congrArg val c.2
   rw [val_add m.x t.x,val_sub h.x s.x,val_mul uu.nv.x nr,val_mul uv.nv.x nr] at c1
   rw [val_add m.y t.y,val_sub h.y s.y,val_mul uu.nv.y nr,val_mul uv.nv.y nr] at c2
   have r0:val r≠0:=by grind
   have e1:val x=val u:=by
    have:(val u-val x)*val r=0:=by grind
    rcases Rat.mul_eq_zero.mp this with q | q<;>grind
   have e2:val y=val v:=by
    have:(val v-val y)*val r=0:=by grind
    rcases Rat.mul_eq_zero.mp this with q | q<;>grind
   exact ne ⟨val_inj uu.nv.x uv.nv.x e1,val_inj uu.nv.y uv.nv.y e2⟩
  ·unfold far2
   rw [val_sub h.x s.x,val_sub h.y s.y,val_mul uu.nv.x nr,val_mul uu.nv.y nr]
   have e1:(val a-(val a-val x*val r))*(val a-(val a-val x*val r))+(val b-(val b-val y*val r))*(val b-(val b-val y*val r))=(val x*val x+val y*val y)*(val r*val r):=by grind
   rw [e1,o1];grind
  ·unfold far2
   rw [val_add m.x t.x,val_add m.y t.y,val_sub h.x s.x,val_sub h.y s.y,val_mul uu.nv.x nr,val_mul uu.nv.y nr,val_mul uv.nv.x nr,val_mul uv.nv.y nr]
   have e1:(val a-val x*val r+val u*val r-(val a-val x*val r))*(val a-val x*val r+val u*val r-(val a-val x*val r))+(val b-val y*val r+val v*val r-(val b-val y*val r))*(val b-val y*val r+val v*val r-(val b-val y*val r))=(val u*val u+val v*val v)*(val r*val r):=by grind
   rw [e1,o2];grind
theorem sz_by {x:Fr} {D k:Int} {e:Nat} (n:Nrm x) (hD:0<D) (q:val x*(D:Rat)=(k:Rat)) (b1:D.natAbs<2^e) (b2:k.natAbs<2^e) (e0:0<e):sz x≤e:=by
 have v:=val_d n
 have q:x.1*D=k*x.2:=by
  have:((x.1:Rat))*(D:Rat)=(k:Rat)*(x.2:Rat):=by rw [←v,←q];grind
  exact_mod_cast this
 have d1:=n.d
 have q':x.1.natAbs*D.natAbs=k.natAbs*x.2.natAbs:=by rw [←Int.natAbs_mul,←Int.natAbs_mul,q]
 have dv:x.2.natAbs∣D.natAbs:=by
  have:x.2.natAbs∣x.1.natAbs*D.natAbs:=⟨k.natAbs,by rw [q'];exact Nat.mul_comm _ _⟩
  exact (Nat.Coprime.symm n.g).dvd_of_dvd_mul_left this
 have le:=Nat.le_of_dvd (by omega) dv
 have l1:x.1.natAbs≤k.natAbs:=by
  rcases Nat.lt_or_ge k.natAbs x.1.natAbs with c | c
  ·have a1:(k.natAbs+1)*D.natAbs≤x.1.natAbs*D.natAbs:=Nat.mul_le_mul_right _ c
   have a2:k.natAbs*x.2.natAbs≤k.natAbs*D.natAbs:=Nat.mul_le_mul_left _ le
   have a3:(k.natAbs+1)*D.natAbs=k.natAbs*D.natAbs+D.natAbs:=by rw [Nat.add_mul,Nat.one_mul]
   have a4:0<D.natAbs:=by omega
   omega
  ·exact c
 exact sz_le (Nat.lt_of_le_of_lt l1 b2) (Nat.lt_of_le_of_lt le b1) e0
theorem Dv.sz {B:Nat} {x:Fr} (n:Nrm x) (h:Dv B x) (hB:B<2^14):sz x≤14:=by
 obtain ⟨k,e,b⟩:=h
 exact sz_by (D:=65) (k:=k) n (by decide) (by rw [←e];norm_cast) (by decide) (by omega) (by decide)
def St (a b:Fr):Prop:=Nv a b 3∧Dv 260 a∧Dv 260 b
def dvP (a b:Fr) (ps:List Pc):Prop:=Dv 16000 a∧Dv 16000 b∧∀p∈ps,Dv 16000 p.px∧Dv 16000 p.py
def chD (a b:Fr) (ps:List Pc):Prop:=chainP 14 a b ps∧dvP a b ps
theorem mvP_dv {a b:Fr} {e B:Nat} (h:Nv a b e) (da:Dv B a) (db:Dv B b) (hB:B+1500<2^14):∀{m:Mv},okMv m→okPc 14 a b (mvP a b m)∧Dv (B+1430) (mvP a b m).px∧Dv (B+1430) (mvP a b m).py
 | .side x y m,ok=>by
  obtain ⟨u,nm,sm,pm,gx,gy,w⟩:=id ok
  have o:=mvP_ok h ok
  have s:=nv_sc u.nv nm sm
  have d1:=(da.add h.x s.x (gx.mul u.nv.x nm w)).up (show _≤B+1430 by omega)
  have d2:=(db.add h.y s.y (gy.mul u.nv.y nm w)).up (show _≤B+1430 by omega)
  exact ⟨⟨⟨o.1.x,o.1.y,d1.sz o.1.x (by omega),d2.sz o.1.y (by omega)⟩,o.2⟩,d1,d2⟩
 | .arc x y u v r l,ok=>by
  obtain ⟨uu,uv,ne,nr,sr,pr,gx,gu,w⟩:=id ok
  have o:=mvP_ok h ok
  have s:=nv_sc uu.nv nr sr
  have t:=nv_sc uv.nv nr sr
  have m:=nv_les h s
  have c1:=da.sub h.x s.x (gx.1.mul uu.nv.x nr w)
  have c2:=db.sub h.y s.y (gx.2.mul uu.nv.y nr w)
  have d1:=(c1.add m.x t.x (gu.1.mul uv.nv.x nr w)).up (show _≤B+1430 by omega)
  have d2:=(c2.add m.y t.y (gu.2.mul uv.nv.y nr w)).up (show _≤B+1430 by omega)
  exact ⟨⟨⟨o.1.x,o.1.y,c1.sz o.1.x (by omega),c2.sz o.1.y (by omega)⟩,⟨o.2.1.x,o.2.1.y,d1.sz o.2.1.x (by omega),d2.sz o.2.1.y (by omega)⟩,o.2.2⟩,d1,d2⟩
def tPathOfM:SpT:=fun as Q=>∃(a b:Fr) (ms:List Mv),as=[.v (vc a b),.v (.lst (ms.map mvT))]∧St a b∧(∀m∈ms,okMv m)∧ms≠[]∧ms.length≤10∧∀ps,ps≠[]→ps.length≤10→chD a b ps→Q (.v (pathT a b ps)) []
abbrev s_path_of:Stmt:=top 37
theorem sc_path_of:FnScope ["_law_start","_law_moves","_law_move","_law_at","_law_pieces","_law_middle"] ["_law_start","_law_moves"] (defScope s_path_of):=⟨rfl,rfl,rfl,by decide +kernel,rfl,by decide +kernel,by decide +kernel⟩
theorem ok_path_of {f:Addr} {fd:FuncData} (F:Fun K "_law_path_of" "_law_path_of" s_path_of f fd) (TX:Txt mg) (g_joined:Fn P w K mg base 3 "_law_joined" ["_law_one","_law_other"] (spOf K tJoin)) (g_off:Fn P w K mg base 3 "_law_off" ["_law_one","_law_other"] (spOf K tOff)) (g_scaled_by:Fn P w K mg base 3 "_law_scaled_by" ["_law_vector","_law_share"] (spOf K tScBy))   : FnOk P w K mg base CX0 4 f fd ["_law_start","_law_moves"] (spOf K tPathOfM):=by
 refine F.okT sc_path_of ?len (fun cdv A outer s H E hr=>(fb_cons (fs_par (i:=3) (j:=4) rfl sc_path_of.nd rfl rfl (by decide) rfl rfl (fc (fv 0) (fc (fe_lst fa_nil) fa_nil)) rfl)
 (fb_cons (fs_for PassesOwn.never rfl (fi_list rfl (fv 1)) (fg_name (i:=2) sc_path_of.nd rfl (Or.inl rfl))
  (fb_one (fs_if (ft_eq rfl hr (fe_ix rfl (fv 2) fe_int (fun _ _=>rfl)) fe_str (nomark _)) (fb_cons (fs_set (i:=3) sc_path_of.nd rfl (Or.inl rfl) (fe_call g_joined hr (by omega) rfl (fc (fv 3) (fc (fe_call g_scaled_by hr (by omega) rfl (fc (fe_ix rfl (fv 2) fe_int (fun _ _=>rfl)) (fc (fe_ix rfl (fv 2) fe_int (fun _ _=>rfl)) fa_nil))) fa_nil))))
 (fb_one (fs_expr (fe_append rfl (fv 4) (fc (fe_tup (fc fe_str (fc (fv 3) fa_nil))) fa_nil))))) (fb_cons (fs_set (i:=5) sc_path_of.nd rfl (Or.inl rfl) (fe_call g_off hr (by omega) rfl (fc (fv 3) (fc (fe_call g_scaled_by hr (by omega) rfl (fc (fe_ix rfl (fv 2) fe_int (fun _ _=>rfl)) (fc (fe_ix rfl (fv 2) fe_int (fun _ _=>rfl)) fa_nil))) fa_nil))))
 (fb_cons (fs_set (i:=3) sc_path_of.nd rfl (Or.inl rfl) (fe_call g_joined hr (by omega) rfl (fc (fv 5) (fc (fe_call g_scaled_by hr (by omega) rfl (fc (fe_ix rfl (fv 2) fe_int (fun _ _=>rfl)) (fc (fe_ix rfl (fv 2) fe_int (fun _ _=>rfl)) fa_nil))) fa_nil))))
 (fb_one (fs_expr (fe_append rfl (fv 4) (fc (fe_tup (fc fe_str (fc (fv 5) (fc (fv 3) (fc (fe_ix rfl (fv 2) fe_int (fun _ _=>rfl)) fa_nil))))) fa_nil)))))))))
 (fb_one (fs_ret (fe_tup (fc (fv 0) (fc (fe_tupOf rfl rfl TX.n_tuple (fc (fv 4) fa_nil)) fa_nil)))))))) ?rd
 case len=>rintro as Q ⟨a,b,ms,rfl,_⟩;rfl
 case rd=>
  rintro as Q ⟨a,b,ms,rfl,⟨nv,sa,sb⟩,hm,hn,hl,q⟩
  refine loopT_inv (fun i E=>∃(v2 v5:Option U) (ps:List Pc) (hx hy:Fr),E=[some (.p (vc a b)),some (.p (.lst (ms.map mvT))),v2,some (.p (vc hx hy)),some (.o false (ps.map pcT)),v5]∧ps.length=i∧chD a b ps∧hx=lastx a ps∧hy=lasty b ps∧Nv hx hy (3+16*i)∧Dv (260+1430*i) hx∧Dv (260+1430*i) hy) ⟨_,_,[],a,b,rfl,rfl,⟨trivial,sa.up (by decide),sb.up (by decide),fun _ z=>by cases z⟩,rfl,rfl,nv,sa,sb⟩ ?_ ?_
  ·rintro i t rest E hi ⟨v2,v5,ps,hx,hy,rfl,hp,ch,ex,ey,hv,ha,hb⟩ KK
   rw [List.getElem?_map] at hi
   cases hq:ms[i]? with
   | none=>rw [hq] at hi;cases hi
   | some m=>
    rw [hq] at hi;cases hi
    have hi10:i<ms.length:=(List.getElem?_eq_some_iff.mp hq).1
    have ok:=hm m (List.mem_of_getElem? hq)
    have op:=mvP_ok hv ok
    obtain ⟨o14,ga,gb⟩:=mvP_dv hv ha hb (by omega) ok
    have op':okPc 14 (lastx a ps) (lasty b ps) (mvP hx hy m):=by rw [←ex,←ey];exact o14
    have nx:=(okPc.nv op).up (show 3+16*i+16≤3+16*(i+1) by omega)
    have done:∀v2 v5,∃(v2' v5':Option U) (ps':List Pc) (hx' hy':Fr),[some (.p (vc a b)),some (.p (.lst (ms.map mvT))),v2,some (.p (vc (mvP hx hy m).px (mvP hx hy m).py)),some (.o false (ps.map pcT++[pcT (mvP hx hy m)])),v5]=[some (.p (vc a b)),some (.p (.lst (ms.map mvT))),v2',some (.p (vc hx' hy')),some (U.o false (ps'.map pcT)),v5']∧ps'.length=i+1∧chD a b ps'∧hx'=lastx a ps'∧hy'=lasty b ps'∧Nv hx' hy' (3+16*(i+1))∧Dv (260+1430*(i+1)) hx'∧Dv (260+1430*(i+1)) hy':=fun v2 v5=>
     ⟨v2,v5,ps++[mvP hx hy m],_,_,by rw [List.map_append];rfl,by simp [hp],⟨chain_snoc ch.1 op',ch.2.1,ch.2.2.1,fun p mp=>by rcases List.mem_append.mp mp with z | z;exact ch.2.2.2 p z;rw [List.mem_singleton.mp z];exact ⟨ga.up (by omega),gb.up (by omega)⟩⟩,(lastx_snoc ps a _).symm,(lasty_snoc ps b _).symm,nx,ga.up (by omega),gb.up (by omega)⟩
    have lp:(ps.map pcT++[pcT (mvP hx hy m)]).length≤1000:=by simp;omega
    cases m with
    | side x y m=>
     refine ⟨Nat.zero_le _,?_⟩
     have s:=nv_sc ok.1.nv ok.2.1 ok.2.2.1
     have sm:=ok.2.2.1
     refine ⟨x,y,m,4,rfl,ok.1.nv,ok.2.1,by omega,?_⟩
     refine ⟨hx,hy,_,_,3+16*i,4+4,rfl,hv,s,by omega,?_⟩
     exact ⟨lp,KK _ (done _ _)⟩
    | arc x y u v r l=>
     obtain ⟨o1,o2,o3,o4,o5,o6⟩:=id ok
     refine ⟨Nat.zero_le _,?_⟩
     have s:=nv_sc o1.nv o4 o5
     have t:=nv_sc o2.nv o4 o5
     refine ⟨x,y,r,4,rfl,o1.nv,o4,by omega,?_⟩
     refine ⟨hx,hy,_,_,3+16*i,4+3,rfl,hv,s,by omega,?_⟩
     refine ⟨u,v,r,4,rfl,o2.nv,o4,by omega,?_⟩
     refine ⟨_,_,_,_,3+16*i+(4+3)+1,4+3,rfl,nv_les hv s,t,by omega,?_⟩
     exact ⟨lp,KK _ (done _ _)⟩
  ·rintro E ⟨v2,v5,ps,hx,hy,rfl,hp,ch,ex,ey,hv,ha,hb⟩
   rw [List.length_map] at hp
   exact ⟨noL_path a b ps (noLs_pcs ps),q ps (by intro z;rw [z] at hp;exact hn (List.eq_nil_of_length_eq_zero hp.symm)) (by omega) ch⟩
end
end My
set_option Elab.async false
set_option linter.all false
set_option maxRecDepth 100000
set_option maxHeartbeats 4000000
namespace My
open PySem L2 PyProof.Rows
section
variable {P:Program} {w:World} {K:PySem.W.Frag} {mg:Str→Option Value} {base:Heap}
theorem if_join {c:Bool} {Fa Fb:FE} {E:En} {κ:L2.R→En→Prop} (R:L2.R→Prop) (ha:c=true→∀κ',(∀u,R u→κ' u E)→Fa E κ') (hb:c=false→∀κ',(∀u,R u→κ' u E)→Fb E κ') (hk:∀u,R u→κ u E):if c=true then Fa E κ else Fb E κ:=by
 cases c with
 | true=>exact ha rfl κ hk
 | false=>exact hb rfl κ hk
def tPathBy:SpT:=fun as Q=>∃(xs:List L2.T) (n k:Int),as=[.b xs,.v (.int k)]∧Bx xs n∧n≤800000∧1≤k∧k≤9∧∀a b ps ys,St a b→ps≠[]→ps.length≤10→chD a b ps→Bx ys (n+70)→noLs ys=true→Q (.v (pathT a b ps)) ys
theorem ms_of {L:List L2.T} (h:∀t∈L,∃m,t=mvT m∧okMv m):∃ms:List Mv,L=ms.map mvT∧∀m∈ms,okMv m:=by
 induction L with
 | nil=>exact ⟨[],rfl,by simp⟩
 | cons t L ih=>
  obtain ⟨m,e,ok⟩:=h t (by simp)
  obtain ⟨ms,e2,ok2⟩:=ih fun t ht=>h t (List.mem_cons_of_mem _ ht)
  refine ⟨m::ms,by rw [e,e2];rfl,fun m' hm'=>?_⟩
  rcases List.mem_cons.mp hm' with rfl | hm'
  ·exact ok
  ·exact ok2 m' hm'
theorem noLs_mv {L:List L2.T} (h:∀t∈L,∃m,t=mvT m∧okMv m):noLs L=true:=by
 obtain ⟨ms,rfl,_⟩:=ms_of h
 exact noLs_mvs ms
theorem start_ok {s t:Int} (s0:0≤s) (s1:s<9) (t0:0≤t) (t1:t<9):St (s-4,1) (t-4,1):=
  ⟨⟨nrm_int _,nrm_int _,sz_le (show (s-4).natAbs<2^3 by omega) (show (1:Int).natAbs<2^3 by decide) (by decide),sz_le (show (t-4).natAbs<2^3 by omega) (show (1:Int).natAbs<2^3 by decide) (by decide)⟩,
   ⟨(s-4)*65,by rw [val_int];push_cast;grind,by omega⟩,⟨(t-4)*65,by rw [val_int];push_cast;grind,by omega⟩⟩
abbrev s_path_by:Stmt:=top 39
theorem sc_path_by:FnScope ["_law_box","_law_most","_law_start","_law_moves","_law_way","_law_many","_law_left"] ["_law_box","_law_most"] (defScope s_path_by):=⟨rfl,rfl,rfl,by decide +kernel,rfl,by decide +kernel,by decide +kernel⟩
theorem ok_path_by {f:Addr} {fd:FuncData} (F:Fun K "_law_path_by" "_law_path_by" s_path_by f fd) (TX:Txt mg) (g_take:Fn P w K mg base 1 "_law_take" ["_law_box","_law_many"] (spOf K tTake)) (g_move_by:Fn P w K mg base 3 "_law_move_by" ["_law_box","_law_arcs"] (spOf K tMvBy)) (g_move_back:Fn P w K mg base 4 "_law_move_back" ["_law_move"] (spOf K tMvBack)) (g_path_of:Fn P w K mg base 4 "_law_path_of" ["_law_start","_law_moves"] (spOf K tPathOfM))   : FnOk P w K mg base CX0 5 f fd ["_law_box","_law_most"] (spOf K tPathBy):=by
 refine F.okT sc_path_by ?len (fun cdv A outer s H E hr=>(fb_cons (fs_par (i:=4) (j:=5) rfl sc_path_by.nd rfl rfl (by decide) rfl rfl (fc (fe_callB g_take hr (by omega) rfl (fc (fv 0) (fc fe_int fa_nil))) (fc (fe_opI0 op_add fe_int (fe_callB g_take hr (by omega) rfl (fc (fv 0) (fc (fv 1) fa_nil)))) fa_nil)) rfl)
 (fb_cons (fs_set (i:=2) sc_path_by.nd rfl (Or.inl rfl) (fe_tup (fc (fe_tup (fc (fe_opI0 op_sub (fe_callB g_take hr (by omega) rfl (fc (fv 0) (fc fe_int fa_nil))) fe_int) (fc fe_int fa_nil))) (fc (fe_tup (fc (fe_opI0 op_sub (fe_callB g_take hr (by omega) rfl (fc (fv 0) (fc fe_int fa_nil))) fe_int) (fc fe_int fa_nil))) fa_nil))))
 (fb_cons (fs_setC (i:=3) (N':=["_law_turn","_law_box"]) (t:=1) (cap:=[(0,true)]) sc_path_by.nd rfl (Or.inl rfl) rfl rfl (CompOk.of rfl) rfl (by decide) (fi_range1 rfl TX.n_range (fc (fe_if (ft_cp op_lt (fv 4) fe_int (nomark _)) (fv 5) (fe_opI0 op_add fe_int (fe_opI op_fdivZ (fv 5) fe_int))) fa_nil)) (fun _ _ _ _=>(fg_name (i:=0) (show List.Nodup (["_law_turn","_law_box"]:List Str) by decide +kernel) rfl (Or.inl rfl) (Or.inr rfl))) (fun _ _ _ _=>(fe_callB g_move_by hr (by omega) rfl (fc (fv 1) (fc fe_bl fa_nil)))))
 (fb_cons (fs_if (ft_cp op_gt (fv 4) fe_int (nomark _)) (fb_cons (fs_set (i:=6) sc_path_by.nd rfl (Or.inr rfl) (fe_cat (fv 3) (fe_comp (N':=["_law_move"]) (t:=1) (cap:=[]) rfl (CompOk.of rfl) rfl (by decide) (fi_list rfl (fv 3)) (fun _ _ _ _=>(fg_name (i:=0) (show List.Nodup (["_law_move"]:List Str) by decide +kernel) rfl (Or.inl rfl) (Or.inr rfl))) (fun _ _ _ _=>(fe_call g_move_back hr (by omega) rfl (fc (fv 0) fa_nil))))))
 (fb_cons (fs_setA (i:=3) sc_path_by.nd rfl (Or.inl rfl) (fv 6))
 (fb_one (fs_if (ft_eq rfl hr (fv 4) fe_int (nomark _)) (fb_one (fs_setM (i:=3) (N':=["_law_turn","_law_left","_law_box"]) (t:=1) (cap:=[(6,true),(0,true)]) sc_path_by.nd rfl (Or.inl rfl) rfl rfl (CompOk.of rfl) (by decide) (fi_range1 rfl TX.n_range (fc (fe_len rfl rfl TX.n_len (fc (fv 6) fa_nil)) fa_nil)) (fun _ _ _ _=>(fg_nameM (i:=0) (show List.Nodup (["_law_turn","_law_left","_law_box"]:List Str) by decide +kernel) rfl (Or.inl rfl) (Or.inr rfl))) (fun _ _ _ _=>(fe_pop rfl (fv 1) (fc (fe_callB g_take hr (by omega) rfl (fc (fv 2) (fc (fe_len rfl rfl TX.n_len (fc (fv 1) fa_nil)) fa_nil))) fa_nil))))) fb_nil)))) fb_nil)
 (fb_one (fs_ret (fe_call g_path_of hr (by omega) rfl (fc (fv 2) (fc (fv 3) fa_nil)))))))))) ?rd
 case len=>rintro as Q ⟨xs,n,k,rfl,_⟩;rfl
 case rd=>
  rintro as Q ⟨xs,n,k,rfl,hB,hn,hk1,hk9,q⟩
  refine ⟨xs,4,n,rfl,hB,by omega,by decide,by decide,fun way y1 w0 w1 b1=>?_⟩
  refine ⟨y1,k,n+1,rfl,b1,by omega,by omega,by omega,fun mn y2 m0 m1 b2=>?_⟩
  refine ⟨y2,9,n+1+1,rfl,b2,by omega,by decide,by decide,fun sx y3 s0 s1 b3=>?_⟩
  refine ⟨y3,9,n+1+1+1,rfl,b3,by omega,by decide,by decide,fun sy y4 t0 t1 b4=>?_⟩
  have nvs:=start_ok s0 s1 t0 t1
  obtain ⟨A0,B0,c0,rfl,_⟩:=id b4
  have ef:(1+mn).fdiv 2=(1+mn)/2:=Int.fdiv_eq_ediv_of_nonneg _ (by decide)
  have rng_len:∀m:Nat,(rngT 0 m).length=m:=fun m=>by simp [rngT]
  show if decide (way<2)=true then _ else _
  refine if_join (fun u=>∃c:Int,vl [some (U.o true [L2.T.int A0,.int B0,.int c0]),some (.p (.int k)),some (.p (vc (sx-4,1) (sy-4,1))),none,some (.p (.int way)),some (.p (.int (1+mn))),none] u=some (.int c)∧1≤c∧c≤9∧(¬way<2→c≤5)) ?_ ?_ ?_
  ·intro hw κ' J
   exact J (.p (.int (1+mn))) ⟨1+mn,rfl,by omega,by omega,fun z=>absurd (of_decide_eq_true hw) z⟩
  ·intro hw κ' J
   refine ⟨⟨by decide,by decide⟩,?_⟩
   rw [ef]
   exact J _ ⟨1+(1+mn)/2,rfl,by omega,by omega,fun _=>by omega⟩
  rintro u ⟨c,hu,c1,c9,c5⟩
  show i1 (vl [some (U.o true [L2.T.int A0,.int B0,.int c0]),some (.p (.int k)),some (.p (vc (sx-4,1) (sy-4,1))),none,some (.p (.int way)),some (.p (.int (1+mn))),none] u) _
  rw [hu]
  refine ⟨⟨by omega,by omega⟩,rfl,?_⟩
  refine compL_inv (fun i E=>∃(w0:Option U) (A B c:Int) (L:List L2.T),E=[w0,some (.o true [.int A,.int B,.int c]),some (.o false L)]∧Bx [.int A,.int B,.int c] (n+4+5*i)∧L.length=i∧∀t∈L,∃m,t=mvT m∧okMv m) ⟨none,A0,B0,c0,[],rfl,b4.mono (by omega),rfl,by simp⟩ ?_ ?_
  ·rintro i t rest E hi ⟨w0,A,B,c',L,rfl,hb,hL,hU⟩ KK
   obtain ⟨hin,rfl⟩:=rng_at hi
   refine ⟨_,_,rfl,hb,by omega,fun m ys om b' nl'=>?_⟩
   obtain ⟨A',B',c'',rfl,_⟩:=id b'
   refine ⟨by show L.length<1000;omega,KK _ ⟨_,A',B',c'',L++[mvT m],rfl,b'.mono (by omega),by rw [List.length_append,hL];rfl,fun t ht=>?_⟩⟩
   rcases List.mem_append.mp ht with ht | ht
   ·exact hU t ht
   ·rw [List.mem_singleton] at ht;exact ⟨m,ht,om⟩
  rintro E ⟨w0,A,B,cc,L,rfl,hb,hL,hU⟩
  rw [rng_len] at hL hb
  have hLc:(L.length:Int)=c:=by omega
  replace hb:=hb.mono (show n+4+5*(c.toNat:Int)≤n+50 by omega)
  refine ⟨noLs_mv hU,?_⟩
  show if decide (1<way)=true then _ else _
  by_cases hw:1<way
  ·rw [decide_eq_true hw,if_pos rfl]
   refine ⟨rfl,?_⟩
   refine compL_inv (fun i E=>∃(w0:Option U) (M:List L2.T),E=[w0,some (.o false M)]∧M.length=i∧∀t∈M,∃m,t=mvT m∧okMv m) ⟨none,[],rfl,rfl,by simp⟩ ?_ ?_
   ·rintro i t rest E hi ⟨w0,M,rfl,hM,hV⟩ KK
    obtain ⟨m,rfl,om⟩:=hU t (List.mem_of_getElem? hi)
    have hlt:=(List.getElem?_eq_some_iff.mp hi).1
    refine ⟨m,rfl,om,by show M.length<1000;omega,KK _ ⟨_,M++[mvT (mvB m)],rfl,by rw [List.length_append,hM];rfl,fun t ht=>?_⟩⟩
    rcases List.mem_append.mp ht with ht | ht
    ·exact hV t ht
    ·rw [List.mem_singleton] at ht;exact ⟨mvB m,ht,om.back⟩
   rintro E ⟨w0,M,rfl,hM,hV⟩
   refine ⟨noLs_mv hV,by show L.length+M.length≤1000;omega,?_⟩
   have hW:∀t∈L++M,∃m,t=mvT m∧okMv m:=fun t ht=>(List.mem_append.mp ht).elim (hU t) (hV t)
   have hN:(L++M).length≤10:=by rw [List.length_append];have:=c5 (by omega);omega
   have hN1:1≤(L++M).length:=by rw [List.length_append];omega
   by_cases h2:way=2
   ·refine .inl ?_
    refine ⟨Nat.zero_le _,?_⟩
    show if (way==2)=true then _ else _
    rw [if_pos (by simpa using h2)]
    generalize L++M=W at hW hN hN1 ⊢
    refine ⟨⟨by omega,by omega⟩,rfl,?_⟩
    refine compL_inv (fun i E=>∃(w0:Option U) (A B c:Int) (Lf R:List L2.T),E=[w0,some (.o true Lf),some (.o true [.int A,.int B,.int c]),some (.o false R)]∧Bx [.int A,.int B,.int c] (n+50+i)∧Lf.length+i=W.length∧R.length=i∧(∀t∈Lf,∃m,t=mvT m∧okMv m)∧∀t∈R,∃m,t=mvT m∧okMv m) ⟨none,A,B,cc,W,[],rfl,by simpa using hb,rfl,rfl,hW,by simp⟩ ?_ ?_
    ·rintro i t rest E hi ⟨w0,A,B,c',Lf,R,rfl,hb,hl,hR,hU,hV⟩ KK
     obtain ⟨hin,rfl⟩:=rng_at hi
     rw [Int.toNat_natCast] at hin
     refine ⟨_,(Lf.length:Int),_,rfl,hb,by omega,by omega,by omega,fun r ys r0 r1 b'=>?_⟩
     obtain ⟨A',B',c'',rfl,_⟩:=id b'
     have hr:r.toNat<Lf.length:=by omega
     refine ⟨r0,by show Lf.length≤1000;omega,?_⟩
     show o1 (Lf[r.toNat]?) _
     rw [List.getElem?_eq_getElem hr]
     have he:(Lf.eraseIdx r.toNat).length+1=Lf.length:=by rw [List.length_eraseIdx_of_lt hr];omega
     refine ⟨by show R.length<1000;omega,KK _ ⟨_,A',B',c'',Lf.eraseIdx r.toNat,R++[Lf[r.toNat]],rfl,b'.mono (by omega),by omega,by rw [List.length_append,hR];rfl,fun t ht=>hU t (List.mem_of_mem_eraseIdx ht),fun t ht=>?_⟩⟩
     rcases List.mem_append.mp ht with ht | ht
     ·exact hV t ht
     ·rw [List.mem_singleton] at ht;rw [ht];exact hU _ (List.getElem_mem hr)
    rintro E ⟨w0,A,B,c',Lf,R,rfl,hb,hl,hR,hU,hV⟩
    rw [Int.toNat_natCast,rng_len] at hl hR hb
    obtain rfl:Lf=[]:=List.eq_nil_of_length_eq_zero (by omega)
    refine ⟨noLs_mv hV,?_⟩
    obtain ⟨ms,rfl,om⟩:=ms_of hV
    rw [List.length_map] at hR
    exact ⟨_,_,ms,rfl,nvs,om,by intro z;rw [z] at hR;simp at hR;omega,by omega,fun ps p1 p2 p3=>⟨noL_path _ _ ps (noLs_pcs ps),q _ _ ps _ nvs p1 p2 p3 (hb.mono (by omega)) rfl⟩⟩
   ·refine .inr ?_
    refine ⟨Nat.zero_le _,?_⟩
    show if (way==2)=true then _ else _
    rw [if_neg (by simpa using h2)]
    obtain ⟨ms,em,om⟩:=ms_of hW
    rw [em] at hN hN1 ⊢
    rw [List.length_map] at hN hN1
    exact ⟨_,_,ms,rfl,nvs,om,by intro z;rw [z] at hN1;simp at hN1,by omega,fun ps p1 p2 p3=>⟨noL_path _ _ ps (noLs_pcs ps),q _ _ ps _ nvs p1 p2 p3 (hb.mono (by omega)) rfl⟩⟩
  ·rw [decide_eq_false hw,if_neg (by decide)]
   obtain ⟨ms,rfl,om⟩:=ms_of hU
   rw [List.length_map] at hLc
   exact ⟨_,_,ms,rfl,nvs,om,by intro z;rw [z] at hLc;simp at hLc;omega,by omega,fun ps p1 p2 p3=>⟨noL_path _ _ ps (noLs_pcs ps),q _ _ ps _ nvs p1 p2 p3 (hb.mono (by omega)) rfl⟩⟩
end
end My
set_option Elab.async false
set_option linter.all false
set_option maxRecDepth 100000
set_option maxHeartbeats 4000000
namespace My
open PySem L2 PyProof.Rows
section
variable {P:Program} {w:World} {K:PySem.W.Frag} {mg:Str→Option Value} {base:Heap}
abbrev s_lis_number:Stmt:=top 41
theorem sc_lis_number:FnScope ["_law_thing"] ["_law_thing"] (defScope s_lis_number):=⟨rfl,rfl,rfl,by decide +kernel,rfl,by decide +kernel,by decide +kernel⟩
theorem ok_lis_number {f:Addr} {fd:FuncData} (F:Fun K "_law_is_number" "_law_is_number" s_lis_number f fd) (TX:Txt mg)    : FnOk P w K mg base CX0 1 f fd ["_law_thing"] (spOf K tNumA):=by
 refine F.okT sc_lis_number ?len (fun cdv A outer s H E hr=>(fb_one (fs_ret (fe_and (fe_isi k_int rfl rfl TX.n_isinstance (fv 0) rfl TX.n_int bt_int (by decide)) (fe_one (fe_not (fe_isi k_bool rfl rfl TX.n_isinstance (fv 0) rfl TX.n_bool bt_bool (by decide)))))))) ?rd
 case len=>rintro as Q ⟨t,rfl,_⟩;rfl
 case rd=>
  rintro as Q ⟨t,rfl,q⟩
  cases t with
  | bl b=>exact ⟨rfl,q⟩
  | int i=>exact ⟨rfl,q⟩
  | non=>exact ⟨rfl,q⟩
  | str x=>exact ⟨rfl,q⟩
  | tup xs=>exact ⟨rfl,q⟩
  | lst xs=>exact ⟨rfl,q⟩
theorem low_one {n d:Int} (hd:1≤d):L2.eqT (fr (low n d)) (.tup [.int n,.int d])=decide (Nat.gcd n.natAbs d.natAbs=1):=by
 have hd0:(0:Int)<d:=by omega
 have e:low n d=(n/(Nat.gcd n.natAbs d.natAbs:Nat),d/(Nat.gcd n.natAbs d.natAbs:Nat)):=by
  unfold low lowN lowD
  rw [if_pos hd0,if_pos hd0]
 by_cases g:Nat.gcd n.natAbs d.natAbs=1
 ·rw [decide_eq_true g,e,g]
  have z:∀m:Int,m/((1:Nat):Int)=m:=fun m=>by simp
  rw [z,z]
  exact eqT_refl _
 ·rw [decide_eq_false g]
  cases q:L2.eqT (fr (low n d)) (.tup [.int n,.int d]) with
  | false=>rfl
  | true=>
   have q':(((low n d).1==n)&&(((low n d).2==d)&&true))=true:=q
   simp only [Bool.and_true,Bool.and_eq_true,beq_iff_eq] at q'
   have:=(low_nrm (n:=n) (d:=d) (by omega)).g
   rw [q'.1,q'.2] at this
   exact absurd this g
def tFracL:SpT:=fun as Q=>∃t:L2.T,as=[.v t]∧smT 200 t∧Q (.v (.bl (asFr t).isSome)) []
abbrev s_lis_fraction:Stmt:=top 42
theorem sc_lis_fraction:FnScope ["_law_thing"] ["_law_thing"] (defScope s_lis_fraction):=⟨rfl,rfl,rfl,by decide +kernel,rfl,by decide +kernel,by decide +kernel⟩
theorem ok_lis_fraction {f:Addr} {fd:FuncData} (F:Fun K "_law_is_fraction" "_law_is_fraction" s_lis_fraction f fd) (TX:Txt mg) (g_lis_number:Fn P w K mg base 1 "_law_is_number" ["_law_thing"] (spOf K tNumA)) (g_lowest:Fn P w K mg base 1 "_law_lowest" ["_law_n","_law_d"] (spOf K tLow))   : FnOk P w K mg base CX0 2 f fd ["_law_thing"] (spOf K tFracL):=by
 refine F.okT sc_lis_fraction ?len (fun cdv A outer s H E hr=>(fb_cons (fs_if (ft_w (fw_or (ft_not (ft_val (fe_isi k_tuple rfl rfl TX.n_isinstance (fv 0) rfl TX.n_tuple bt_tuple (by decide)))) (fw_or (ft_ne rfl hr (fe_len rfl rfl TX.n_len (fc (fv 0) fa_nil)) fe_int (nomark _)) (fw_or1 (ft_not (ft_val (fe_all rfl rfl rfl TX.n_all (fc (fe_comp (N':=["_law_one"]) (t:=1) (cap:=[]) rfl (CompOk.of rfl) rfl (by decide) (fi_tup rfl (fv 0)) (fun _ _ _ _=>(fg_name (i:=0) (show List.Nodup (["_law_one"]:List Str) by decide +kernel) rfl (Or.inl rfl) (Or.inr rfl))) (fun _ _ _ _=>(fe_call g_lis_number hr (by omega) rfl (fc (fv 0) fa_nil)))) fa_nil)))))))) (fb_one (fs_ret fe_bl)) fb_nil)
 (fb_one (fs_ret (fe_and (fe_cp op_ge (fe_ix rfl (fv 0) fe_int (fun _ _=>rfl)) fe_int (nomark _)) (fe_one (fe_eq rfl hr (fe_call g_lowest hr (by omega) rfl (fc (fe_ix rfl (fv 0) fe_int (fun _ _=>rfl)) (fc (fe_ix rfl (fv 0) fe_int (fun _ _=>rfl)) fa_nil))) (fv 0) (nomark _)))))))) ?rd
 case len=>rintro as Q ⟨t,rfl,_⟩;rfl
 case rd=>
  rintro as Q ⟨t,rfl,hs,q⟩
  cases t with
  | bl b=>exact ⟨rfl,q⟩
  | int i=>exact ⟨rfl,q⟩
  | non=>exact ⟨rfl,q⟩
  | str x=>exact ⟨rfl,q⟩
  | lst xs=>exact ⟨rfl,q⟩
  | tup us=>
   have no:asFr (.tup us)=none→Q (.v (.bl false)) []:=fun z=>by rw [z] at q;exact q
   match us,hs,no,q with
   | [],st,no,q=>exact ⟨Nat.zero_le _,rfl,no rfl⟩
   | [a],st,no,q=>exact ⟨Nat.zero_le _,rfl,no rfl⟩
   | a::b::c::r,st,no,q=>exact ⟨Nat.zero_le _,rfl,no rfl⟩
   | [u,w],st,no,q=>
    refine ⟨Nat.zero_le _,?_⟩
    refine ⟨rfl,u,rfl,?_⟩
    refine ⟨by decide,?_⟩
    refine ⟨w,rfl,?_⟩
    refine ⟨Nat.succ_lt_succ (by decide),?_⟩
    refine ⟨rfl,?_⟩
    cases u with
    | bl _=>exact ⟨rfl,no rfl⟩
    | non=>exact ⟨rfl,no rfl⟩
    | str _=>exact ⟨rfl,no rfl⟩
    | tup _=>exact ⟨rfl,no rfl⟩
    | lst _=>exact ⟨rfl,no rfl⟩
    | int n=>
    cases w with
    | bl _=>exact ⟨rfl,no rfl⟩
    | non=>exact ⟨rfl,no rfl⟩
    | str _=>exact ⟨rfl,no rfl⟩
    | tup _=>exact ⟨rfl,no rfl⟩
    | lst _=>exact ⟨rfl,no rfl⟩
    | int d=>
    have s2:d.natAbs.log2+1≤200:=st.2.1
    show if decide (1≤d)=true then _ else _
    by_cases h:1≤d
    ·rw [decide_eq_true h,if_pos rfl]
     have db:d.natAbs<2^8000:=Nat.lt_of_lt_of_le (Nat.lt_log2_self) (Nat.pow_le_pow_right (by decide) (by omega))
     refine ⟨n,d,rfl,by omega,db,le_ok rfl,rfl,?_⟩
     rw [low_one (by omega)]
     by_cases g:Nat.gcd n.natAbs d.natAbs=1
     ·rw [decide_eq_true g]
      rw [show asFr (.tup [.int n,.int d])=some (n,d) from if_pos ⟨by omega,g⟩] at q
      exact q
     ·rw [decide_eq_false g]
      exact no (if_neg fun z=>g z.2)
    ·rw [decide_eq_false h,if_neg (by decide)]
     exact ⟨rfl,no (if_neg (by omega))⟩
def tPtL:SpT:=fun as Q=>∃t:L2.T,as=[.v t]∧smT 200 t∧Q (.v (.bl (asPt t).isSome)) []
abbrev s_lis_point:Stmt:=top 43
theorem sc_lis_point:FnScope ["_law_thing"] ["_law_thing"] (defScope s_lis_point):=⟨rfl,rfl,rfl,by decide +kernel,rfl,by decide +kernel,by decide +kernel⟩
theorem ok_lis_point {f:Addr} {fd:FuncData} (F:Fun K "_law_is_point" "_law_is_point" s_lis_point f fd) (TX:Txt mg) (g_lis_fraction:Fn P w K mg base 2 "_law_is_fraction" ["_law_thing"] (spOf K tFracL))   : FnOk P w K mg base CX0 3 f fd ["_law_thing"] (spOf K tPtL):=by
 refine F.okT sc_lis_point ?len (fun cdv A outer s H E hr=>(fb_one (fs_ret (fe_and (fe_isi k_tuple rfl rfl TX.n_isinstance (fv 0) rfl TX.n_tuple bt_tuple (by decide)) (fe_and (fe_eq rfl hr (fe_len rfl rfl TX.n_len (fc (fv 0) fa_nil)) fe_int (nomark _)) (fe_one (fe_all rfl rfl rfl TX.n_all (fc (fe_comp (N':=["_law_part"]) (t:=1) (cap:=[]) rfl (CompOk.of rfl) rfl (by decide) (fi_tup rfl (fv 0)) (fun _ _ _ _=>(fg_name (i:=0) (show List.Nodup (["_law_part"]:List Str) by decide +kernel) rfl (Or.inl rfl) (Or.inr rfl))) (fun _ _ _ _=>(fe_call g_lis_fraction hr (by omega) rfl (fc (fv 0) fa_nil)))) fa_nil)))))))) ?rd
 case len=>rintro as Q ⟨t,rfl,_⟩;rfl
 case rd=>
  rintro as Q ⟨t,rfl,hs,q⟩
  cases t with
  | bl b=>exact ⟨rfl,q⟩
  | int i=>exact ⟨rfl,q⟩
  | non=>exact ⟨rfl,q⟩
  | str x=>exact ⟨rfl,q⟩
  | lst xs=>exact ⟨rfl,q⟩
  | tup us=>
   match us,hs,q with
   | [],st,q=>exact ⟨Nat.zero_le _,rfl,q⟩
   | [a],st,q=>exact ⟨Nat.zero_le _,rfl,q⟩
   | a::b::c::r,st,q=>exact ⟨Nat.zero_le _,rfl,q⟩
   | [a,b],st,q=>
    refine ⟨Nat.zero_le _,?_⟩
    refine ⟨rfl,a,rfl,st.1,?_⟩
    refine ⟨by decide,?_⟩
    refine ⟨b,rfl,st.2.1,?_⟩
    refine ⟨Nat.succ_lt_succ (by decide),?_⟩
    refine ⟨rfl,?_⟩
    cases ea:asFr a with
    | none=>
     rw [show asPt (.tup [a,b])=none by simp only [asPt,ea]] at q
     exact ⟨rfl,q⟩
    | some x=>
     cases eb:asFr b with
     | none=>
      rw [show asPt (.tup [a,b])=none by simp only [asPt,ea,eb]] at q
      exact ⟨rfl,q⟩
     | some y=>
      rw [show asPt (.tup [a,b])=some (x,y) by simp only [asPt,ea,eb]] at q
      exact ⟨rfl,q⟩
end
end My
set_option Elab.async false
set_option linter.all false
set_option maxRecDepth 100000
set_option maxHeartbeats 4000000
namespace My
open PySem L2 PyProof.Rows
section
variable {P:Program} {w:World} {K:PySem.W.Frag} {mg:Str→Option Value} {base:Heap}
def tRootK:SpT:=fun as Q=>∃n:Nat,as=[.v (.int n)]∧n<2^3000∧∀r:Nat,IsRt n r→Q (.v (.int r)) []
abbrev s_root:Stmt:=top 44
theorem sc_root:FnScope ["_law_number","_law_root_here","_law_figure"] ["_law_number"] (defScope s_root):=⟨rfl,rfl,rfl,by decide +kernel,rfl,by decide +kernel,by decide +kernel⟩
theorem ok_root {f:Addr} {fd:FuncData} (F:Fun K "_law_root" "_law_root" s_root f fd) (TX:Txt mg)    : FnOk P w K mg base CX0 1 f fd ["_law_number"] (spOf K tRootK):=by
 refine F.okT sc_root ?len (fun cdv A outer s H E hr=>(fb_cons (fs_asg (fe_tup (fc fe_int (fc fe_int fa_nil))) (fg_tup (n:=2) rfl rfl (fgs_cons (fg_name (i:=1) sc_root.nd rfl (Or.inl rfl)) (fgs_cons (fg_name (i:=2) sc_root.nd rfl (Or.inl rfl)) fgs_nil))))
 (fb_cons (fs_while PassesOwn.never (ft_cp op_le (fe_opI op_mulA (fv 2) (fv 2)) (fv 0) (nomark _)) (fb_one (fs_set (i:=2) sc_root.nd rfl (Or.inl rfl) (fe_opI op_mulA (fv 2) fe_int))))
 (fb_cons (fs_while PassesOwn.never (ft_cp op_gt (fv 2) fe_int (nomark _)) (fb_cons (fs_if (ft_cp op_le (fe_opI op_mulA (fe_opI0 op_add (fv 1) (fv 2)) (fe_opI0 op_add (fv 1) (fv 2))) (fv 0) (nomark _)) (fb_one (fs_set (i:=1) sc_root.nd rfl (Or.inl rfl) (fe_opI0 op_add (fv 1) (fv 2)))) fb_nil)
 (fb_one (fs_set (i:=2) sc_root.nd rfl (Or.inl rfl) (fe_opI op_fdivZ (fv 2) fe_int)))))
 (fb_one (fs_ret (fv 1))))))) ?rd
 case len=>rintro as Q ⟨n,rfl,_⟩;rfl
 case rd=>
  rintro as Q ⟨n,rfl,hn,q⟩
  have bd:∀{x:Nat},x<2^3002→((x:Int)).natAbs<2^3002:=fun {x} h=>by rw [Int.natAbs_natCast];exact h
  have b2:(2:Nat)^3000+2<2^3002:=by decide +kernel
  refine ⟨fun m E=>∃f k:Nat,E=[some (.p (.int n)),some (.p (.int 0)),some (.p (.int f))]∧f=2^k∧m=n+1-f∧f≤2*n+1,⟨_,1,0,rfl,rfl,rfl,by omega⟩,?_⟩
  rintro m E ⟨f,k,rfl,hf,rfl,hfn⟩
  have f1:1≤f:=by rw [hf];exact Nat.one_le_two_pow
  refine ⟨mulA (e:=3002) (bd (by omega)) (bd (by omega)) (by decide),?_⟩
  show if decide ((f:Int)*(f:Int)≤(n:Int))=true then _ else _
  by_cases c:f*f≤n
  ·rw [decide_eq_true (by exact_mod_cast c),if_pos rfl]
   have fl:f≤n:=Nat.le_trans (Nat.le_mul_of_pos_left f f1) c
   refine ⟨mulR (by decide),?_⟩
   refine ⟨n+1-f*2,by omega,f*2,k+1,?_,by rw [hf,Nat.pow_succ],rfl,by omega⟩
   push_cast;rfl
  ·rw [decide_eq_false (by exact_mod_cast c),if_neg (by decide)]
   refine ⟨fun m E=>∃r f:Nat,E=[some (.p (.int n)),some (.p (.int r)),some (.p (.int f))]∧m=f∧r*r≤n∧r+f≤4*n+2∧((f=0∧n<(r+1)*(r+1))∨∃k,f=2^k∧n<(r+2*f)*(r+2*f)),⟨_,0,f,rfl,rfl,by omega,by omega,.inr ⟨k,hf,?_⟩⟩,?_⟩
   ·have:f*f≤(0+2*f)*(0+2*f):=Nat.mul_le_mul (by omega) (by omega)
    omega
   rintro m E ⟨r,g,rfl,rfl,h1,h3,h2⟩
   show if decide ((0:Int)<(m:Int))=true then _ else _
   rcases h2 with ⟨rfl,h2⟩ | ⟨k',hk',h2⟩
   ·rw [if_neg (by decide)]
    exact ⟨rfl,q r ⟨h1,h2⟩⟩
   ·have m1:1≤m:=by rw [hk'];exact Nat.one_le_two_pow
    rw [decide_eq_true (by omega),if_pos rfl]
    have bb:((r:Int)+(m:Int)).natAbs<2^3002:=by
     have:((r:Int)+(m:Int)).natAbs=r+m:=by omega
     rw [this]
     exact Nat.lt_of_le_of_lt h3 (Nat.lt_of_lt_of_le (show 4*n+2<4*2^3000 by omega) (by decide +kernel))
    refine ⟨mulA (e:=3002) bb bb (by decide),?_⟩
    have ef:((m:Int)).fdiv 2=((m/2:Nat):Int):=by rw [Int.fdiv_eq_ediv_of_nonneg _ (by decide)];omega
    have half:∀s:Nat,n<(s+m)*(s+m)→(m/2=0∧n<(s+1)*(s+1))∨∃k,m/2=2^k∧n<(s+2*(m/2))*(s+2*(m/2)):=fun s hs=>by
     cases k' with
     | zero=>
      have:m=1:=hk'
      subst this
      exact .inl ⟨rfl,hs⟩
     | succ k'=>
      rw [Nat.pow_succ] at hk'
      have:2*(m/2)=m:=by omega
      exact .inr ⟨k',by omega,by rw [this];exact hs⟩
    show if decide (((r:Int)+(m:Int))*((r:Int)+(m:Int))≤(n:Int))=true then _ else _
    by_cases c2:(r+m)*(r+m)≤n
    ·rw [decide_eq_true (by exact_mod_cast c2),if_pos rfl]
     have h2':n<(r+m+m)*(r+m+m):=by
      have e:r+m+m=r+2*m:=by omega
      rw [e];exact h2
     refine ⟨⟨by decide,by decide⟩,m/2,by omega,r+m,m/2,?_,rfl,c2,?_,half (r+m) h2'⟩
     ·rw [ef];rfl
     ·have:r+m≤(r+m)*(r+m):=Nat.le_mul_of_pos_left _ (by omega)
      omega
    ·rw [decide_eq_false (by exact_mod_cast c2),if_neg (by decide)]
     refine ⟨⟨by decide,by decide⟩,m/2,by omega,r,m/2,?_,rfl,h1,by omega,half r (by omega)⟩
     rw [ef];rfl
def tLongL:SpT:=fun as Q=>∃x y p q:Fr,as=[.v (vc x y),.v (vc p q)]∧Nv x y 200∧Nv p q 200∧(∀f,Nrm f→0≤val f→far2 p q x y=val f*val f→Q (.v (fr f)) [])∧((∀r:Rat,far2 p q x y≠r*r)→Q (.v .non) [])
theorem rsq (r:Rat):0≤r*r:=by
 rcases Rat.le_total (a:=0) (b:=r) with h | h
 ·exact Rat.mul_nonneg h h
 ·have:0≤-r:=by grind
  have:=Rat.mul_nonneg this this
  grind
theorem fr_of_roots {p:Fr} (hp:Nrm p) {r t:Nat} (c1:(r:Int)*r=p.1) (c2:(t:Int)*t=p.2):Nrm ((r:Int),(t:Int))∧0≤val ((r:Int),(t:Int))∧val p=val ((r:Int),(t:Int))*val ((r:Int),(t:Int)):=by
 have pd:=hp.d
 have t0:1≤(t:Int):=by
  rcases Nat.eq_zero_or_pos t with z | z
  ·rw [z] at c2;simp at c2;omega
  ·omega
 have hn:Nrm ((r:Int),(t:Int)):=by
  refine ⟨t0,?_⟩
  show Nat.gcd ((r:Int)).natAbs ((t:Int)).natAbs=1
  rw [Int.natAbs_natCast,Int.natAbs_natCast]
  have hg:=hp.g
  rw [←c1,←c2,Int.natAbs_mul,Int.natAbs_mul,Int.natAbs_natCast,Int.natAbs_natCast] at hg
  exact Nat.Coprime.coprime_mul_right (Nat.Coprime.coprime_mul_right_right hg)
 refine ⟨hn,(val_nonneg hn).2 (by show (0:Int)≤r;omega),?_⟩
 have:=hn.neR
 show (p.1:Rat)/(p.2:Rat)=((r:Int):Rat)/((t:Int):Rat)*(((r:Int):Rat)/((t:Int):Rat))
 rw [←c1,←c2]
 push_cast
 have t2:((t:Int):Rat)≠0:=by exact_mod_cast (show (t:Int)≠0 by omega)
 push_cast at t2
 grind
abbrev s_dotted:Stmt:=top 33
theorem sc_dotted:FnScope ["_law_one","_law_other"] ["_law_one","_law_other"] (defScope s_dotted):=⟨rfl,rfl,rfl,by decide +kernel,rfl,by decide +kernel,by decide +kernel⟩
theorem ok_dotted {f:Addr} {fd:FuncData} (F:Fun K "_law_dotted" "_law_dotted" s_dotted f fd) (TX:Txt mg) (g_sum:Fn P w K mg base 2 "_law_sum" ["_law_one","_law_other"] (spOf K (tBin fadd))) (g_product:Fn P w K mg base 2 "_law_product" ["_law_one","_law_other"] (spOf K (tBin fmul)))   : FnOk P w K mg base CX0 3 f fd ["_law_one","_law_other"] (spOf K (tVV fdot)):=by
 refine F.okT sc_dotted ?len (fun cdv A outer s H E hr=>(fb_one (fs_ret (fe_call g_sum hr (by omega) rfl (fc (fe_call g_product hr (by omega) rfl (fc (fe_ix rfl (fv 0) fe_int (fun _ _=>rfl)) (fc (fe_ix rfl (fv 1) fe_int (fun _ _=>rfl)) fa_nil))) (fc (fe_call g_product hr (by omega) rfl (fc (fe_ix rfl (fv 0) fe_int (fun _ _=>rfl)) (fc (fe_ix rfl (fv 1) fe_int (fun _ _=>rfl)) fa_nil))) fa_nil)))))) ?rd
 case len=>rintro as Q ⟨x,y,x',y',e,f,rfl,_⟩;rfl
 case rd=>
  rintro as Q ⟨x,y,x',y',e,f,rfl,h,k,he,q⟩
  have:=h.sx;have:=h.sy;have:=k.sx;have:=k.sy
  have n1:=nrm_mul h.x k.x;have n2:=nrm_mul h.y k.y
  have s1:=sz_mul h.x k.x;have s2:=sz_mul h.y k.y
  exact ⟨_,_,rfl,h.x,k.x,by omega,_,_,rfl,h.y,k.y,by omega,_,_,rfl,n1,n2,by omega,rfl,q⟩
abbrev s_length:Stmt:=top 45
theorem sc_length:FnScope ["_law_one","_law_other","_law_by","_law_square","_law_roots"] ["_law_one","_law_other"] (defScope s_length):=⟨rfl,rfl,rfl,by decide +kernel,rfl,by decide +kernel,by decide +kernel⟩
theorem ok_length {f:Addr} {fd:FuncData} (F:Fun K "_law_length" "_law_length" s_length f fd) (TX:Txt mg) (g_off:Fn P w K mg base 3 "_law_off" ["_law_one","_law_other"] (spOf K tOff)) (g_dotted:Fn P w K mg base 3 "_law_dotted" ["_law_one","_law_other"] (spOf K (tVV fdot))) (g_root:Fn P w K mg base 1 "_law_root" ["_law_number"] (spOf K tRootK))   : FnOk P w K mg base CX0 4 f fd ["_law_one","_law_other"] (spOf K tLongL):=by
 refine F.okT sc_length ?len (fun cdv A outer s H E hr=>(fb_cons (fs_set (i:=2) sc_length.nd rfl (Or.inl rfl) (fe_call g_off hr (by omega) rfl (fc (fv 1) (fc (fv 0) fa_nil))))
 (fb_cons (fs_set (i:=3) sc_length.nd rfl (Or.inl rfl) (fe_call g_dotted hr (by omega) rfl (fc (fv 2) (fc (fv 2) fa_nil))))
 (fb_cons (fs_set (i:=4) sc_length.nd rfl (Or.inl rfl) (fe_tup (fc (fe_call g_root hr (by omega) rfl (fc (fe_ix rfl (fv 3) fe_int (fun _ _=>rfl)) fa_nil)) (fc (fe_call g_root hr (by omega) rfl (fc (fe_ix rfl (fv 3) fe_int (fun _ _=>rfl)) fa_nil)) fa_nil))))
 (fb_one (fs_ret (fe_if (ft_eq rfl hr (fe_tup (fc (fe_opI op_mulA (fe_ix rfl (fv 4) fe_int (fun _ _=>rfl)) (fe_ix rfl (fv 4) fe_int (fun _ _=>rfl))) (fc (fe_opI op_mulA (fe_ix rfl (fv 4) fe_int (fun _ _=>rfl)) (fe_ix rfl (fv 4) fe_int (fun _ _=>rfl))) fa_nil))) (fv 3) (nomark _)) (fv 4) fe_non))))))) ?rd
 case len=>rintro as Q ⟨x,y,p,q,rfl,_⟩;rfl
 case rd=>
  rintro as Q ⟨x,y,p,q,rfl,h,k,q1,q2⟩
  have nv:=nv_sub k h
  have fs:=far_sub k h
  refine ⟨p,q,x,y,200,200,rfl,k,h,by decide,?_⟩
  refine ⟨_,_,_,_,401,401,rfl,nv,nv,by decide,?_⟩
  obtain ⟨d,hd⟩:∃d,d=fdot (fsub p x) (fsub q y) (fsub p x) (fsub q y):=⟨_,rfl⟩
  rw [←hd]
  have hp:Nrm d:=by rw [hd];exact nrm_dot nv nv
  have vd:val d=far2 p q x y:=by rw [hd,val_dot nv nv];exact fs
  have sd:sz d≤1700:=by have:=sz_dot nv nv;rw [hd];omega
  have pd:=hp.d
  have e2:d.2=((d.2.natAbs:Nat):Int):=by omega
  have d0:0≤d.1:=(val_nonneg hp).1 (by rw [vd];exact Rat.add_nonneg (rsq _) (rsq _))
  have e1:d.1=((d.1.natAbs:Nat):Int):=by omega
  have bb:∀x:Nat,x<2^sz d→x<2^3000:=fun x h=>pl h (by omega)
  refine ⟨d.1.natAbs,by rw [←e1];rfl,bb _ (sz_n d),fun r hr=>?_⟩
  refine ⟨d.2.natAbs,by rw [←e2];rfl,bb _ (sz_d d),fun t ht=>?_⟩
  have small:∀{a b:Nat},IsRt a b→a<2^sz d→((b:Int)).natAbs<2^1700:=fun {a b} hb ha=>by
   rw [Int.natAbs_natCast]
   have:b≤a:=Nat.le_trans (by rcases Nat.eq_zero_or_pos b with z | z;omega;exact Nat.le_mul_of_pos_left b z) hb.1
   exact Nat.lt_of_le_of_lt this (pl ha sd)
  have s1:=small hr (sz_n d)
  have s2:=small ht (sz_d d)
  refine ⟨mulA s1 s1 (by decide),mulA s2 s2 (by decide),le_ok rfl,?_⟩
  show if L2.eqT (.tup [.int ((r:Int)*(r:Int)),.int ((t:Int)*(t:Int))]) (fr d)=true then _ else _
  have ee:L2.eqT (.tup [.int ((r:Int)*(r:Int)),.int ((t:Int)*(t:Int))]) (fr d)=decide ((r:Int)*r=d.1∧(t:Int)*t=d.2):=by
   rw [Bool.eq_iff_iff,decide_eq_true_eq]
   show (((r:Int)*(r:Int)==d.1)&&(((t:Int)*(t:Int)==d.2)&&true))=true↔_
   simp
  rw [ee]
  by_cases c:(r:Int)*r=d.1∧(t:Int)*t=d.2
  ·rw [decide_eq_true c,if_pos rfl]
   obtain ⟨z1,z2,z3⟩:=fr_of_roots hp (r:=r) (t:=t) c.1 c.2
   exact ⟨rfl,q1 _ z1 z2 (vd.symm.trans z3)⟩
  ·rw [decide_eq_false c,if_neg (by decide)]
   refine ⟨rfl,q2 fun r' e=>?_⟩
   have sq:∀{a b:Nat} {f:Int},IsRt a b→f*f=(a:Int)→(b:Int)*b=(a:Int):=fun {a b f} hb hf=>by
    have hf':f.natAbs*f.natAbs=a:=by have:=Int.natAbs_mul_self (a:=f);omega
    have:b=f.natAbs:=hb.uniq ⟨by omega,by have:=Nat.mul_lt_mul'' (show f.natAbs<f.natAbs+1 by omega) (show f.natAbs<f.natAbs+1 by omega);omega⟩
    rw [this];exact_mod_cast hf'
   by_cases c1:(r:Int)*r=d.1
   ·exact no_root hp (a:=0) (b:=0) (.inr fun f f0 h=>c ⟨c1,by rw [e2];exact sq ht (by rw [←e2];exact h)⟩) r' (vd.trans e)
   ·exact no_root hp (a:=0) (b:=0) (.inl fun f f0 h=>c1 (by rw [e1];exact sq hr (by rw [←e1];exact h))) r' (vd.trans e)
end
end My
set_option Elab.async false
set_option linter.all false
set_option maxRecDepth 100000
set_option maxHeartbeats 4000000
namespace My
open PySem L2 PyProof.Rows
section
variable {P:Program} {w:World} {K:PySem.W.Frag} {mg:Str→Option Value} {base:Heap}
theorem far2_sym (a b c d:Fr):far2 a b c d=far2 c d a b:=by unfold far2;grind
theorem far2_zero {a b c d:Fr} (h:far2 a b c d=0):val a=val c∧val b=val d:=by
 unfold far2 at h
 have h1:=rsq (val a-val c)
 have h2:=rsq (val b-val d)
 have z1:(val a-val c)*(val a-val c)=0:=by grind
 have z2:(val b-val d)*(val b-val d)=0:=by grind
 constructor
 ·rcases Rat.mul_eq_zero.mp z1 with z | z<;>grind
 ·rcases Rat.mul_eq_zero.mp z2 with z | z<;>grind
theorem tn_in (u:Str):inT (.str u) [.str (Str.ofString "left"),.str (Str.ofString "right")]=(asTn (.str u)).isSome:=by
 have e1:∀z:Str,L2.eqT (.str z) (.str u)=decide (u=z):=fun z=>by rw [Bool.eq_iff_iff];simp [L2.eqT];exact eq_comm
 show (L2.eqT (.str (Str.ofString "left")) (.str u)||(L2.eqT (.str (Str.ofString "right")) (.str u)||false))=_
 rw [e1,e1]
 by_cases c:u=Str.ofString "left"
 ·simp [asTn,c]
 ·by_cases d:u=Str.ofString "right"<;>simp [asTn,c,d]
def pcB (a b:Fr) (t:L2.T):Prop:=∃p,asPc t=some p∧begR a b p
def tPcL:SpT:=fun as Q=>∃(a b:Fr) (t:L2.T),as=[.v (vc a b),.v t]∧Nv a b 200∧L2.dT t≤50∧smT 200 t∧∀k:Bool,(k=true↔pcB a b t)→Q (.v (.bl k)) []
abbrev s_piece_fits:Stmt:=top 46
theorem sc_piece_fits:FnScope ["_law_begin","_law_piece","_law_points","_law_radius"] ["_law_begin","_law_piece"] (defScope s_piece_fits):=⟨rfl,rfl,rfl,by decide +kernel,rfl,by decide +kernel,by decide +kernel⟩
theorem ok_piece_fits {f:Addr} {fd:FuncData} (F:Fun K "_law_piece_fits" "_law_piece_fits" s_piece_fits f fd) (TX:Txt mg) (g_lis_point:Fn P w K mg base 3 "_law_is_point" ["_law_thing"] (spOf K tPtL)) (g_length:Fn P w K mg base 4 "_law_length" ["_law_one","_law_other"] (spOf K tLongL))   : FnOk P w K mg base CX0 5 f fd ["_law_begin","_law_piece"] (spOf K tPcL):=by
 refine F.okT sc_piece_fits ?len (fun cdv A outer s H E hr=>(fb_cons (fs_if (ft_w (fw_or (ft_not (ft_val (fe_isi k_tuple rfl rfl TX.n_isinstance (fv 1) rfl TX.n_tuple bt_tuple (by decide)))) (fw_or (ft_ninU rfl hr (fe_len rfl rfl TX.n_len (fc (fv 1) fa_nil)) (fe_tup (fc fe_int (fc fe_int fa_nil))) rfl) (fw_or1 (ft_not (ft_val (fe_isi k_str rfl rfl TX.n_isinstance (fe_ix rfl (fv 1) fe_int (fun _ _=>rfl)) rfl TX.n_str bt_str (by decide)))))))) (fb_one (fs_ret fe_bl)) fb_nil)
 (fb_cons (fs_set (i:=2) sc_piece_fits.nd rfl (Or.inl rfl) (fe_if (ft_eq rfl hr (fe_len rfl rfl TX.n_len (fc (fv 1) fa_nil)) fe_int (nomark _)) (fe_sliceT rfl (fv 1) (fo_some fe_int) (fo_some fe_int)) (fe_sliceT rfl (fv 1) (fo_some fe_int) (fo_some fe_int))))
 (fb_cons (fs_if (ft_w (fw_or (ft_ne rfl hr (fe_ix rfl (fv 1) fe_int (fun _ _=>rfl)) (fe_dix hr (fps_cons fe_str (fps_cons fe_str fps_nil)) (fe_len rfl rfl TX.n_len (fc (fv 1) fa_nil)) (fun _ _=>rfl)) (nomark _)) (fw_or1 (ft_not (ft_val (fe_all rfl rfl rfl TX.n_all (fc (fe_comp (N':=["_law_point"]) (t:=1) (cap:=[]) rfl (CompOk.of rfl) rfl (by decide) (fi_tup rfl (fv 2)) (fun _ _ _ _=>(fg_name (i:=0) (show List.Nodup (["_law_point"]:List Str) by decide +kernel) rfl (Or.inl rfl) (Or.inr rfl))) (fun _ _ _ _=>(fe_call g_lis_point hr (by omega) rfl (fc (fv 0) fa_nil)))) fa_nil))))))) (fb_one (fs_ret fe_bl)) fb_nil)
 (fb_cons (fs_if (ft_eq rfl hr (fe_ix rfl (fv 2) (fe_neg fe_int) (fun _ _=>rfl)) (fv 0) (nomark _)) (fb_one (fs_ret fe_bl)) fb_nil)
 (fb_cons (fs_if (ft_eq rfl hr (fe_len rfl rfl TX.n_len (fc (fv 1) fa_nil)) fe_int (nomark _)) (fb_one (fs_ret (fe_notN (fe_call g_length hr (by omega) rfl (fc (fv 0) (fc (fe_ix rfl (fv 2) fe_int (fun _ _=>rfl)) fa_nil))) (nomark _)))) fb_nil)
 (fb_cons (fs_set (i:=3) sc_piece_fits.nd rfl (Or.inl rfl) (fe_call g_length hr (by omega) rfl (fc (fv 0) (fc (fe_ix rfl (fv 2) fe_int (fun _ _=>rfl)) fa_nil))))
 (fb_cons (fs_if (ft_w (fw_or (ft_not (ft_val (fe_isi k_str rfl rfl TX.n_isinstance (fe_ix rfl (fv 1) fe_int (fun _ _=>rfl)) rfl TX.n_str bt_str (by decide)))) (fw_or (ft_ninU rfl hr (fe_ix rfl (fv 1) fe_int (fun _ _=>rfl)) (fe_tup (fc fe_str (fc fe_str fa_nil))) rfl) (fw_or (ft_isN (fv 3) (nomark _)) (fw_or1 (ft_eq rfl hr (fe_ix rfl (fv 3) fe_int (fun _ _=>rfl)) fe_int (nomark _))))))) (fb_one (fs_ret fe_bl)) fb_nil)
 (fb_one (fs_ret (fe_eq rfl hr (fe_call g_length hr (by omega) rfl (fc (fe_ix rfl (fv 2) fe_int (fun _ _=>rfl)) (fc (fe_ix rfl (fv 2) fe_int (fun _ _=>rfl)) fa_nil))) (fv 3) (nomark _)))))))))))) ?rd
 case len=>rintro as Q ⟨a,b,t,rfl,_⟩;rfl
 case rd=>
  rintro as Q ⟨a,b,t,rfl,nv,hd,hs,q⟩
  have no:asPc t=none→Q (.v (.bl false)) []:=fun z=>q false ⟨fun h=>(by cases h),fun ⟨p,h,_⟩=>by rw [z] at h;cases h⟩
  cases t with
  | bl b=>exact ⟨rfl,no rfl⟩
  | int i=>exact ⟨rfl,no rfl⟩
  | non=>exact ⟨rfl,no rfl⟩
  | str x=>exact ⟨rfl,no rfl⟩
  | lst xs=>exact ⟨rfl,no rfl⟩
  | tup xs=>
   match xs,hd,hs,q,no with
   | [],hd,hs,q,no=>exact ⟨le_ok rfl,rfl,no rfl⟩
   | [k],hd,hs,q,no=>exact ⟨le_ok rfl,rfl,no rfl⟩
   | [k,m,p],hd,hs,q,no=>exact ⟨le_ok rfl,rfl,no rfl⟩
   | k::m::p::t::e::r,hd,hs,q,no=>
    exact ⟨le_ok rfl,rfl,no rfl⟩
   | [k,p],hd,hs,q,no=>
    refine ⟨le_ok rfl,?_⟩
    cases k with
    | bl b=>exact ⟨rfl,no rfl⟩
    | int i=>exact ⟨rfl,no rfl⟩
    | non=>exact ⟨rfl,no rfl⟩
    | tup x=>exact ⟨rfl,no rfl⟩
    | lst xs=>exact ⟨rfl,no rfl⟩
    | str x=>
    have dp:L2.dT p≤50:=dT_mem (xs:=[.str x,p]) hd (by simp)
    have sp:smT 200 p:=hs.2.1
    refine ⟨Nat.zero_le _,?_⟩
    refine ⟨by show ¬(HT.sIx 2 0 (some 1)=0∧HT.sIx 2 2 (some 2)=2);decide,?_⟩
    refine ⟨Nat.zero_le _,?_⟩
    show if (!(L2.eqT (.str x) (.str "side")))=true then _ else _
    rw [eqT_side]
    cases hk:isSd (.str x) with
    | false=>exact ⟨rfl,no (by simp only [asPc,hk])⟩
    | true=>
    rw [if_neg (by decide)]
    refine ⟨rfl,p,rfl,sp,by decide,rfl,?_⟩
    cases ep:asPt p with
    | none=>exact ⟨rfl,no (by simp only [asPc,ep];cases isSd (.str x)<;>rfl)⟩
    | some z=>
    obtain ⟨x',y'⟩:=z
    obtain ⟨rfl,np⟩:=asPt_eq ep sp
    have ea:asPc (.tup [.str x,vc x' y'])=some (.side x' y'):=by simp only [asPc,hk,ep]
    refine ⟨le_ok rfl,?_⟩
    show if L2.eqT (vc x' y') (vc a b)=true then _ else _
    rw [eq_vc]
    by_cases c:x'=a∧y'=b
    ·rw [decide_eq_true c,if_pos rfl]
     refine ⟨rfl,q false ⟨fun h=>(by cases h),fun ⟨p,h,hb⟩=>?_⟩⟩
     rw [ea] at h;cases h;exact absurd c hb.1
    ·rw [decide_eq_false c,if_neg (by decide)]
     refine ⟨Nat.zero_le _,?_⟩
     refine ⟨a,b,x',y',rfl,nv,np,fun f hf f0 e=>?_,fun e=>?_⟩
     ·exact ⟨rfl,q true ⟨fun _=>⟨_,ea,c,val f,e⟩,fun _=>rfl⟩⟩
     ·refine ⟨rfl,q false ⟨fun z=>(by cases z),fun ⟨p,h,hb⟩=>?_⟩⟩
      rw [ea] at h;cases h
      obtain ⟨_,r,hr⟩:=hb
      exact absurd hr (e r)
   | [k,m,p,t],hd,hs,q,no=>
    refine ⟨le_ok rfl,?_⟩
    cases k with
    | bl b=>exact ⟨rfl,no rfl⟩
    | int i=>exact ⟨rfl,no rfl⟩
    | non=>exact ⟨rfl,no rfl⟩
    | tup x=>exact ⟨rfl,no rfl⟩
    | lst xs=>exact ⟨rfl,no rfl⟩
    | str x=>
    have sm:smT 200 m:=hs.2.1
    have sp:smT 200 p:=hs.2.2.1
    refine ⟨Nat.zero_le _,?_⟩
    refine ⟨by show ¬(HT.sIx 4 0 (some 1)=0∧HT.sIx 4 4 (some 3)=4);decide,?_⟩
    refine ⟨Nat.zero_le _,?_⟩
    show if (!(L2.eqT (.str x) (.str "arc")))=true then _ else _
    rw [eqT_arc]
    cases hk:isAc (.str x) with
    | false=>exact ⟨rfl,no (by simp only [asPc,hk])⟩
    | true=>
    rw [if_neg (by decide)]
    refine ⟨rfl,m,rfl,sm,by decide,p,rfl,sp,Nat.succ_lt_succ (by decide),rfl,?_⟩
    cases em:asPt m with
    | none=>exact ⟨rfl,no (by simp only [asPc,em];cases isAc (.str x)<;>rfl)⟩
    | some z=>
    obtain ⟨m',n'⟩:=z
    obtain ⟨rfl,nm⟩:=asPt_eq em sm
    cases ep:asPt p with
    | none=>exact ⟨rfl,no (by simp only [asPc,em,ep];cases isAc (.str x)<;>rfl)⟩
    | some z=>
    obtain ⟨x',y'⟩:=z
    obtain ⟨rfl,np⟩:=asPt_eq ep sp
    refine ⟨le_ok rfl,?_⟩
    show if L2.eqT (vc x' y') (vc a b)=true then _ else _
    rw [eq_vc]
    have isA:∀{p},asPc (.tup [.str x,vc m' n',vc x' y',t])=some p→∃u,asTn t=some u∧p = .arc m' n' x' y' u:=fun {p} h=>by
     simp only [asPc,em,ep,hk] at h
     cases et:asTn t with
     | none=>rw [et] at h;cases h
     | some u=>rw [et] at h;cases h;exact ⟨u,rfl,rfl⟩
    by_cases c:x'=a∧y'=b
    ·rw [decide_eq_true c,if_pos rfl]
     refine ⟨rfl,q false ⟨fun h=>(by cases h),fun ⟨p,h,hb⟩=>?_⟩⟩
     obtain ⟨u,_,rfl⟩:=isA h
     exact absurd c hb.1
    ·rw [decide_eq_false c,if_neg (by decide)]
     refine ⟨Nat.zero_le _,?_⟩
     have isB:∀u,asTn t=some u→(pcB a b (.tup [.str x,vc m' n',vc x' y',t])↔∃r:Rat,0≤r∧far2 m' n' a b=r*r∧far2 m' n' x' y'=r*r):=fun u et=>by
      have ea:asPc (.tup [.str x,vc m' n',vc x' y',t])=some (.arc m' n' x' y' u):=by simp only [asPc,hk,em,ep,et]
      constructor
      ·rintro ⟨p,h,hb⟩
       rw [ea] at h;cases h
       obtain ⟨_,r,r0,h1,h2⟩:=hb
       exact ⟨r,r0,by rw [far2_sym];exact h1,by rw [far2_sym];exact h2⟩
      ·rintro ⟨r,r0,h1,h2⟩
       exact ⟨_,ea,c,r,r0,by rw [far2_sym];exact h1,by rw [far2_sym];exact h2⟩
     have noT:asTn t=none→Q (.v (.bl false)) []:=fun z=>no (by simp only [asPc,hk,em,ep,z])
     refine ⟨a,b,m',n',rfl,nv,nm,fun f hf f0 e=>?_,fun e=>?_⟩
     ·cases t with
      | bl b=>exact ⟨rfl,noT rfl⟩
      | int i=>exact ⟨rfl,noT rfl⟩
      | non=>exact ⟨rfl,noT rfl⟩
      | tup x=>exact ⟨rfl,noT rfl⟩
      | lst xs=>exact ⟨rfl,noT rfl⟩
      | str u=>
      refine ⟨le_ok rfl,?_⟩
      show if (!(inT (.str u) [.str (Str.ofString "left"),.str (Str.ofString "right")]))=true then _ else _
      rw [tn_in]
      cases et:asTn (.str u) with
      | none=>exact ⟨rfl,noT et⟩
      | some u'=>
      rw [show (some u').isSome=true from rfl,if_neg (by decide)]
      have isB:=isB u' et
      refine ⟨Nat.zero_le _,?_⟩
      show if (f.1==0)=true then _ else _
      by_cases cf:f.1=0
      ·rw [if_pos (by simpa using cf)]
       refine ⟨rfl,q false ⟨fun z=>(by cases z),fun z=>?_⟩⟩
       obtain ⟨r,r0,h1,h2⟩:=isB.mp z
       have a1:=sq_pos_eq f0 r0 (e.symm.trans h1)
       have vf:val f=0:=by
        show (f.1:Rat)/(f.2:Rat)=0
        rw [cf];grind
       rw [←a1,vf] at h1 h2
       obtain ⟨z1,z2⟩:=far2_zero (by rw [h1];grind:far2 m' n' a b=0)
       obtain ⟨z3,z4⟩:=far2_zero (by rw [h2];grind:far2 m' n' x' y'=0)
       exact absurd ⟨val_inj np.x nv.x (z3.symm.trans z1),val_inj np.y nv.y (z4.symm.trans z2)⟩ c
      ·rw [if_neg (by simpa using cf)]
       refine ⟨x',y',m',n',rfl,np,nm,fun g hg g0 e2=>?_,fun e2=>?_⟩
       ·refine ⟨le_ok rfl,rfl,?_⟩
        rw [eq_fr]
        refine q _ ?_
        rw [decide_eq_true_eq,isB]
        constructor
        ·rintro rfl;exact ⟨val g,g0,e,e2⟩
        ·rintro ⟨r,r0,h1,h2⟩
         have a1:=sq_pos_eq f0 r0 (e.symm.trans h1)
         have a2:=sq_pos_eq g0 r0 (e2.symm.trans h2)
         exact val_inj hg hf (a2.trans a1.symm)
       ·refine ⟨le_ok rfl,rfl,q false ⟨fun z=>(by cases z),fun z=>?_⟩⟩
        obtain ⟨r,_,_,h2⟩:=isB.mp z
        exact absurd h2 (e2 r)
     ·have nn:¬pcB a b (.tup [.str x,vc m' n',vc x' y',t]):=fun z=>by
       obtain ⟨p,h,hb⟩:=z
       obtain ⟨u,et,_⟩:=isA h
       obtain ⟨r,_,h1,_⟩:=(isB u et).mp ⟨p,h,hb⟩
       exact absurd h1 (e r)
      have fl:=q false ⟨fun z=>(by cases z),fun z=>absurd z nn⟩
      cases t with
      | bl b=>exact ⟨rfl,noT rfl⟩
      | int i=>exact ⟨rfl,noT rfl⟩
      | non=>exact ⟨rfl,noT rfl⟩
      | tup x=>exact ⟨rfl,noT rfl⟩
      | lst xs=>exact ⟨rfl,noT rfl⟩
      | str u=>
      refine ⟨le_ok rfl,?_⟩
      show if (!(inT (.str u) [.str (Str.ofString "left"),.str (Str.ofString "right")]))=true then _ else _
      rw [tn_in]
      cases et:asTn (.str u) with
      | none=>exact ⟨rfl,fl⟩
      | some u'=>exact ⟨rfl,fl⟩
end
end My
set_option Elab.async false
set_option linter.all false
set_option maxRecDepth 100000
set_option maxHeartbeats 4000000
namespace My
open PySem L2 PyProof.Rows
section
variable {P:Program} {w:World} {K:PySem.W.Frag} {mg:Str→Option Value} {base:Heap}
def tPathL:SpT:=fun as Q=>∃t:L2.T,as=[.v t]∧L2.dT t≤50∧smT 200 t∧∀k:Bool,(k=true↔isPA t)→Q (.v (.bl k)) []
abbrev s_lis_path:Stmt:=top 47
theorem sc_lis_path:FnScope ["_law_thing","_law_begin","_law_piece"] ["_law_thing"] (defScope s_lis_path):=⟨rfl,rfl,rfl,by decide +kernel,rfl,by decide +kernel,by decide +kernel⟩
theorem ok_lis_path {f:Addr} {fd:FuncData} (F:Fun K "_law_is_path" "_law_is_path" s_lis_path f fd) (TX:Txt mg) (g_lis_point:Fn P w K mg base 3 "_law_is_point" ["_law_thing"] (spOf K tPtL)) (g_piece_fits:Fn P w K mg base 5 "_law_piece_fits" ["_law_begin","_law_piece"] (spOf K tPcL))   : FnOk P w K mg base CX0 6 f fd ["_law_thing"] (spOf K tPathL):=by
 refine F.okT sc_lis_path ?len (fun cdv A outer s H E hr=>(fb_cons (fs_if (ft_w (fw_or (ft_not (ft_val (fe_isi k_tuple rfl rfl TX.n_isinstance (fv 0) rfl TX.n_tuple bt_tuple (by decide)))) (fw_or (ft_ne rfl hr (fe_len rfl rfl TX.n_len (fc (fv 0) fa_nil)) fe_int (nomark _)) (fw_or1 (ft_not (ft_val (fe_call g_lis_point hr (by omega) rfl (fc (fe_ix rfl (fv 0) fe_int (fun _ _=>rfl)) fa_nil)))))))) (fb_one (fs_ret fe_bl)) fb_nil)
 (fb_cons (fs_if (ft_w (fw_or (ft_not (ft_val (fe_isi k_tuple rfl rfl TX.n_isinstance (fe_ix rfl (fv 0) fe_int (fun _ _=>rfl)) rfl TX.n_tuple bt_tuple (by decide)))) (fw_or1 (ft_eq rfl hr (fe_ix rfl (fv 0) fe_int (fun _ _=>rfl)) (fe_tup fa_nil) (nomark _))))) (fb_one (fs_ret fe_bl)) fb_nil)
 (fb_cons (fs_set (i:=1) sc_lis_path.nd rfl (Or.inl rfl) (fe_ix rfl (fv 0) fe_int (fun _ _=>rfl)))
 (fb_cons (fs_for PassesOwn.never rfl (fi_tup rfl (fe_ix rfl (fv 0) fe_int (fun _ _=>rfl))) (fg_name (i:=2) sc_lis_path.nd rfl (Or.inl rfl))
  (fb_cons (fs_if (ft_not (ft_val (fe_call g_piece_fits hr (by omega) rfl (fc (fv 1) (fc (fv 2) fa_nil))))) (fb_one (fs_ret fe_bl)) fb_nil)
 (fb_one (fs_set (i:=1) sc_lis_path.nd rfl (Or.inl rfl) (fe_ix rfl (fv 2) (fe_opI op_fdivZ (fe_len rfl rfl TX.n_len (fc (fv 2) fa_nil)) fe_int) (fun _ _=>rfl))))))
 (fb_one (fs_ret fe_bl))))))) ?rd
 case len=>rintro as Q ⟨t,rfl,_⟩;rfl
 case rd=>
  rintro as Q ⟨t,rfl,hd,hs,q⟩
  have no:¬isPA t→Q (.v (.bl false)) []:=fun z=>q false ⟨fun h=>(by cases h),fun h=>absurd h z⟩
  cases t with
  | bl b=>exact ⟨rfl,no id⟩
  | int i=>exact ⟨rfl,no id⟩
  | non=>exact ⟨rfl,no id⟩
  | str x=>exact ⟨rfl,no id⟩
  | lst xs=>exact ⟨rfl,no id⟩
  | tup xs=>
   match xs,hd,hs,q,no with
   | [],hd,hs,q,no=>exact ⟨Nat.zero_le _,rfl,no id⟩
   | [a],hd,hs,q,no=>exact ⟨Nat.zero_le _,rfl,no id⟩
   | a::b::c::r,hd,hs,q,no=>exact ⟨Nat.zero_le _,rfl,no fun z=>by simp [isPA] at z⟩
   | [s,ps],hd,hs,q,no=>
    refine ⟨Nat.zero_le _,s,rfl,hs.1,?_⟩
    cases es:asPt s with
    | none=>exact ⟨rfl,no fun z=>by
      cases ps with
      | tup ys=>obtain ⟨_,a,b,z,_⟩:=z;rw [es] at z;cases z
      | _=>exact z⟩
    | some ab=>
    obtain ⟨a,b⟩:=ab
    obtain ⟨rfl,nv⟩:=asPt_eq es hs.1
    cases ps with
    | bl b=>exact ⟨rfl,no id⟩
    | int i=>exact ⟨rfl,no id⟩
    | non=>exact ⟨rfl,no id⟩
    | str x=>exact ⟨rfl,no id⟩
    | lst xs=>exact ⟨rfl,no id⟩
    | tup ys=>
    have dy:L2.dT (.tup ys)≤50:=dT_mem (xs:=[vc a b,.tup ys]) hd (by simp)
    refine ⟨Nat.le_trans dy (by decide),?_⟩
    cases ys with
    | nil=>exact ⟨rfl,no fun z=>z.1 rfl⟩
    | cons y0 yr=>
    obtain ⟨ys,ey⟩:∃ys,ys=y0::yr:=⟨_,rfl⟩
    have hn:ys≠[]:=by rw [ey];simp
    rw [←ey] at hd hs q no dy ⊢
    have hl:L2.eqT (.tup ys) (.tup [])=false:=by rw [ey];rfl
    show if L2.eqT (.tup ys) (.tup [])=true then _ else _
    rw [hl,if_neg (by decide)]
    have is:isPA (.tup [vc a b,.tup ys])↔chA a b ys:=⟨fun ⟨_,a',b',z,h⟩=>by rw [es] at z;cases z;exact h,fun h=>⟨hn,a,b,es,h⟩⟩
    refine (?_:loopT _ _ _ ys _)
    refine loopT_inv (fun i E=>∃(v2:Option U) (a' b':Fr),E=[some (.p (.tup [vc a b,.tup ys])),some (.p (vc a' b')),v2]∧Nv a' b' 200∧(chA a b ys↔chA a' b' (ys.drop i))) ⟨_,a,b,rfl,nv,Iff.rfl⟩ ?_ ?_
    ·rintro i t rest E hi ⟨v2,a',b',rfl,nv',hc⟩ KK
     have ed:ys.drop i=t::ys.drop (i+1):=by
      obtain ⟨h1,h2⟩:=List.getElem?_eq_some_iff.mp hi
      rw [←h2];exact List.drop_eq_getElem_cons h1
     rw [ed] at hc
     have mt:=List.mem_of_getElem? hi
     have st:smT 200 t:=sm_mem hs.2.1 mt
     have dt:L2.dT t≤50:=dT_mem dy mt
     refine ⟨a',b',t,rfl,nv',dt,st,fun k hk=>?_⟩
     show if (!k)=true then _ else _
     cases k with
     | false=>
      rw [if_pos (by decide)]
      refine ⟨rfl,no fun z=>?_⟩
      obtain ⟨p,z1,z2,_⟩:=hc.mp (is.mp z)
      have:=hk.mpr ⟨p,z1,z2⟩;cases this
     | true=>
      rw [if_neg (by decide)]
      obtain ⟨p,ep,hb⟩:=hk.mp rfl
      obtain ⟨rfl,np⟩:=asPc_eq ep st
      have key:=KK _ ⟨some (.p (rwT p)),p.px,p.py,rfl,np.end',hc.trans ⟨fun ⟨p',z,_,z3⟩=>(by rw [ep] at z;cases z;exact z3),fun z=>⟨p,ep,hb,z⟩⟩⟩
      cases p with
      | side x y=>
       refine ⟨⟨by decide,by decide⟩,?_⟩
       show o1 (atI [L2.T.str "side",vc x y] (Int.fdiv (([L2.T.str "side",vc x y].length:Nat):Int) 2)) _
       rw [show Int.fdiv (([L2.T.str "side",vc x y].length:Nat):Int) 2=1 from (by decide:Int.fdiv ((2:Nat):Int) 2=1)]
       exact key
      | arc m n x y l=>
       refine ⟨⟨by decide,by decide⟩,?_⟩
       show o1 (atI [L2.T.str "arc",vc m n,vc x y,.str l] (Int.fdiv (([L2.T.str "arc",vc m n,vc x y,.str l].length:Nat):Int) 2)) _
       rw [show Int.fdiv (([L2.T.str "arc",vc m n,vc x y,.str l].length:Nat):Int) 2=2 from (by decide:Int.fdiv ((4:Nat):Int) 2=2)]
       exact key
    ·rintro E ⟨v2,a',b',rfl,nv',hc⟩
     rw [List.drop_length] at hc
     exact ⟨rfl,q true ⟨fun _=>is.mpr (hc.mpr trivial),fun _=>rfl⟩⟩
end
end My
set_option Elab.async false
set_option linter.all false
set_option maxRecDepth 100000
set_option maxHeartbeats 4000000
namespace My
open PySem L2 PyProof.Rows
section
variable {P:Program} {w:World} {K:PySem.W.Frag} {mg:Str→Option Value} {base:Heap}
def Sm (B w:Nat):Nat→L2.T→Prop
 | 0,.tup _=>False
 | 0,.lst _=>False
 | d+1,.tup xs=>xs.length≤w∧∀x∈xs,Sm B w d x
 | d+1,.lst xs=>xs.length≤w∧∀x∈xs,Sm B w d x
 | _,.int i=>i.natAbs≤B
 | _,.str x=>x.length≤w∧∀c∈sg x,c<16^8
 | _,_=>True
theorem Sm.up {B C w v:Nat} (h1:B≤C) (h2:w≤v):∀{d e:Nat} {t:L2.T},d≤e→Sm B w d t→Sm C v e t
 | 0,e,.tup _,_,h=>h.elim
 | 0,e,.lst _,_,h=>h.elim
 | d+1,0,.tup xs,k,h=>absurd k (by omega)
 | d+1,0,.lst xs,k,h=>absurd k (by omega)
 | d+1,e+1,.tup xs,k,h=>⟨Nat.le_trans h.1 h2,fun x m=>Sm.up h1 h2 (Nat.le_of_succ_le_succ k) (h.2 x m)⟩
 | d+1,e+1,.lst xs,k,h=>⟨Nat.le_trans h.1 h2,fun x m=>Sm.up h1 h2 (Nat.le_of_succ_le_succ k) (h.2 x m)⟩
 | 0,0,.int i,k,h=>Nat.le_trans h h1
 | 0,e+1,.int i,k,h=>Nat.le_trans h h1
 | d+1,0,.int i,k,h=>Nat.le_trans h h1
 | d+1,e+1,.int i,k,h=>Nat.le_trans h h1
 | 0,0,.bl _,_,_=>trivial
 | 0,e+1,.bl _,_,_=>trivial
 | d+1,0,.bl _,_,_=>trivial
 | d+1,e+1,.bl _,_,_=>trivial
 | 0,0,.non,_,_=>trivial
 | 0,e+1,.non,_,_=>trivial
 | d+1,0,.non,_,_=>trivial
 | d+1,e+1,.non,_,_=>trivial
 | 0,0,.str _,_,h=>⟨Nat.le_trans h.1 h2,h.2⟩
 | 0,e+1,.str _,_,h=>⟨Nat.le_trans h.1 h2,h.2⟩
 | d+1,0,.str _,_,h=>⟨Nat.le_trans h.1 h2,h.2⟩
 | d+1,e+1,.str _,_,h=>⟨Nat.le_trans h.1 h2,h.2⟩
theorem Sm.int {B w d:Nat} {i:Int} (h:i.natAbs≤B):Sm B w d (.int i):=by cases d<;>exact h
theorem Sm.of_int {B w d:Nat} {i:Int} (h:Sm B w d (.int i)):i.natAbs≤B:=by cases d<;>exact h
theorem Sm.bl {B w d:Nat} {b:Bool}:Sm B w d (.bl b):=by cases d<;>trivial
theorem Sm.str {B w d:Nat} {b:Str} (h:b.length≤w) (k:∀c∈sg b,c<16^8):Sm B w d (.str b):=by cases d<;>exact ⟨h,k⟩
theorem Sm.of_str {B w d:Nat} {b:Str} (h:Sm B w d (.str b)):b.length≤w∧∀c∈sg b,c<16^8:=by cases d<;>exact h
theorem Sm.word {B w d:Nat} {b:Str} (h:(decide (b.length≤12)&&(sg b).all (fun c=>decide (c<16^8)))=true) (hw:12≤w):Sm B w d (.str b):=by
 rw [Bool.and_eq_true,decide_eq_true_eq] at h
 exact Sm.str (by omega) fun c m=>of_decide_eq_true (List.all_eq_true.mp h.2 c m)
theorem Sm.non {B w d:Nat}:Sm B w d .non:=by cases d<;>trivial
theorem Sm.dT {B w:Nat}:∀{d:Nat} {t:L2.T},Sm B w d t→L2.dT t≤d
 | d,.int _,_=>Nat.zero_le _
 | d,.bl _,_=>Nat.zero_le _
 | d,.non,_=>Nat.zero_le _
 | d,.str _,_=>Nat.zero_le _
 | 0,.tup _,h=>h.elim
 | 0,.lst _,h=>h.elim
 | d+1,.tup xs,h=>by
  have key:∀ys:List L2.T,(∀y∈ys,L2.dT y≤d)→L2.dTs ys≤d:=fun ys=>by
   induction ys with
   | nil=>intro _;exact Nat.zero_le _
   | cons y ys ih=>intro k;exact Nat.max_le.mpr ⟨k y (by simp),ih fun z m=>k z (by simp [m])⟩
  exact Nat.succ_le_succ (key xs fun y m=>(h.2 y m).dT)
 | d+1,.lst xs,h=>by
  have key:∀ys:List L2.T,(∀y∈ys,L2.dT y≤d)→L2.dTs ys≤d:=fun ys=>by
   induction ys with
   | nil=>intro _;exact Nat.zero_le _
   | cons y ys ih=>intro k;exact Nat.max_le.mpr ⟨k y (by simp),ih fun z m=>k z (by simp [m])⟩
  exact Nat.succ_le_succ (key xs fun y m=>(h.2 y m).dT)
theorem Sm.smT {B w:Nat} (hB:B<2^199):∀{d:Nat} {t:L2.T},Sm B w d t→smT 200 t
 | d,.int i,h=>by
  have h:=h.of_int
  show i.natAbs.log2+1≤200
  by_cases z:i.natAbs=0
  ·rw [z];decide
  ·have:=(Nat.log2_lt z (k:=199)).mpr (by omega)
   omega
 | d,.bl _,_=>trivial
 | d,.non,_=>trivial
 | d,.str _,_=>trivial
 | 0,.tup _,h=>h.elim
 | 0,.lst _,h=>h.elim
 | d+1,.tup xs,h=>by
  have key:∀ys:List L2.T,(∀y∈ys,My.smT 200 y)→smTs 200 ys:=fun ys=>by
   induction ys with
   | nil=>intro _;trivial
   | cons y ys ih=>intro k;exact ⟨k y (by simp),ih fun z m=>k z (by simp [m])⟩
  exact key xs fun y m=>(h.2 y m).smT hB
 | d+1,.lst xs,h=>by
  have key:∀ys:List L2.T,(∀y∈ys,My.smT 200 y)→smTs 200 ys:=fun ys=>by
   induction ys with
   | nil=>intro _;trivial
   | cons y ys ih=>intro k;exact ⟨k y (by simp),ih fun z m=>k z (by simp [m])⟩
  exact key xs fun y m=>(h.2 y m).smT hB
theorem Sm.pair {B w d:Nat} {a b:L2.T} (hw:2≤w) (ha:Sm B w d a) (hb:Sm B w d b):Sm B w (d+1) (.tup [a,b]):=⟨hw,fun x m=>by
 rcases List.mem_cons.mp m with e | m
 ·rw [e];exact ha
 rcases List.mem_cons.mp m with e | m
 ·rw [e];exact hb
 ·cases m⟩
theorem Sm.sole {B w d:Nat} {a:L2.T} (hw:1≤w) (ha:Sm B w d a):Sm B w (d+1) (.tup [a]):=⟨hw,fun x m=>by rw [List.mem_singleton.mp m];exact ha⟩
def allP (P:L2.T→Prop):List L2.T→Prop
 | []=>True
 | x::xs=>P x∧allP P xs
theorem allP.mem {P:L2.T→Prop}:∀{xs:List L2.T},allP P xs→∀x∈xs,P x
 | [],_,x,m=>by cases m
 | a::r,h,x,m=>by
  rcases List.mem_cons.mp m with e | e
  ·rw [e];exact h.1
  ·exact allP.mem h.2 x e
theorem at_all {P:L2.T→Prop} {xs:List L2.T} {r:Int} (h0:0≤r) (h1:r<(xs.length:Int)) (h:allP P xs):∃u,atI xs r=some u∧P u:=by
 have hk:r.toNat<xs.length:=by omega
 refine ⟨xs[r.toNat],?_,h.mem _ (List.getElem_mem hk)⟩
 have e:r=((r.toNat:Nat):Int):=by omega
 have z:=atI_nat (xs:=xs) (j:=r.toNat) (v:=xs[r.toNat]) (List.getElem?_eq_getElem hk)
 rw [←e] at z;exact z
theorem Sm.tup' {B w d e:Nat} {us:List L2.T} (hl:us.length≤w) (h:∀x∈us,Sm B w d x) (k:d+1≤e):Sm B w e (.tup us):=by
 obtain ⟨e,rfl⟩:∃e',e=e'+1:=⟨e-1,by omega⟩
 exact ⟨hl,fun x m=>(h x m).up (Nat.le_refl _) (Nat.le_refl _) (by omega)⟩
theorem cutL1 {xs:List L2.T} {i:Int} (h:0≤i):(cutT xs none (some i)).length=min i.toNat xs.length:=by
 obtain ⟨m,rfl⟩:∃m:Nat,i=m:=⟨i.toNat,by omega⟩
 unfold cutT
 rw [HT.sIx_none,HT.sIx_nat,List.length_take,List.length_drop];omega
theorem cutL2 {xs:List L2.T} {i:Int} (h:0≤i):(cutT xs (some i) none).length=xs.length-i.toNat:=by
 obtain ⟨m,rfl⟩:∃m:Nat,i=m:=⟨i.toNat,by omega⟩
 unfold cutT
 rw [HT.sIx_none,HT.sIx_nat,List.length_take,List.length_drop];omega
mutual
def nT:L2.T→Nat
 | .tup xs=>nTs xs+1
 | .lst xs=>nTs xs+1
 | _=>1
def nTs:List L2.T→Nat
 | []=>0
 | x::xs=>nT x+nTs xs
end
theorem nTs_app:∀xs ys:List L2.T,nTs (xs++ys)=nTs xs+nTs ys
 | [],ys=>by simp [nTs]
 | x::xs,ys=>by rw [List.cons_append,nTs,nTs,nTs_app xs ys];omega
theorem nTs_drop (xs:List L2.T) (n:Nat):nTs (xs.drop n)≤nTs xs:=by
 have:=nTs_app (xs.take n) (xs.drop n)
 rw [List.take_append_drop] at this;omega
theorem nTs_take (xs:List L2.T) (n:Nat):nTs (xs.take n)≤nTs xs:=by
 have:=nTs_app (xs.take n) (xs.drop n)
 rw [List.take_append_drop] at this;omega
theorem nTs_cut (xs:List L2.T) (lo hi:Option Int):nTs (cutT xs lo hi)≤nTs xs:=Nat.le_trans (nTs_take _ _) (nTs_drop _ _)
theorem nTs_rev:∀xs:List L2.T,nTs xs.reverse=nTs xs
 | []=>rfl
 | x::xs=>by rw [List.reverse_cons,nTs_app,nTs_rev xs,nTs];simp [nTs];omega
theorem nTs_mem:∀{xs:List L2.T} {x:L2.T},x∈xs→nT x≤nTs xs
 | y::ys,x,m=>by
  rw [nTs]
  rcases List.mem_cons.mp m with e | e
  ·rw [e];omega
  ·have:=nTs_mem e;omega
theorem nT_pos (t:L2.T):1≤nT t:=by cases t<;>simp [nT]
theorem cut_to {xs:List L2.T} {k:Nat} (h:k≤xs.length):cutT xs none (some (k:Int))=xs.take k:=by
 unfold cutT
 rw [HT.sIx_none,HT.sIx_nat,List.drop_zero,Nat.sub_zero,Nat.min_eq_left h]
theorem cut_from {xs:List L2.T} {k:Nat} (h:k≤xs.length):cutT xs (some (k:Int)) none=xs.drop k:=by
 unfold cutT
 rw [HT.sIx_none,HT.sIx_nat,Nat.min_eq_left h]
 exact List.take_of_length_le (by rw [List.length_drop];exact Nat.le_refl _)
structure Ok (B w d N:Nat) (t:L2.T):Prop where
 s:Sm B w d t
 n:nT t≤N
theorem cat_len {u v z:Str} (e:z=u++v):z.length=u.length+v.length:=by rw [←sg_len,e,sg_cat,List.length_append,sg_len,sg_len]
def pieS (x y z:Str):List L2.T:=[.str "side",.str "arc",.str "left",.str "right",.str "",.str y,.str z,.non,.int 1,.tup [.str x]]
def pieN (i:Int) (b:Bool) (t:L2.T):List L2.T:=[.int (i+1),.int (i-1),.int (i+4),.int (-i),.int (2*i),.bl b,.non,.str "1",.int 0,.lst [t]]
def pieT (ts a b:List L2.T):List L2.T:=[.tup (a++cutT b (some 1) none),.tup (a++cutT b none (some 1)++b),.tup (a++(cutT b none (some 2)).reverse++cutT b (some 2) none),.tup (a++[.tup [.int 0,.int 1]]++b),.lst ts,.tup (b++a),.str "side"]++[.tup (a++[.bl true]++cutT b (some 1) none),.non,.tup [.tup [.tup [.tup ts]]]]
def tPart:SpT:=fun as Q=>∃(xs:List L2.T) (n:Int) (t:L2.T) (B w d N:Nat),as=[.b xs,.v t]∧Bx xs n∧n≤900000∧Ok B w d N t∧1≤B∧12≤w∧w≤400∧d≤45∧∀u ys,Ok (3*B+5) (w+1) (d+4) (2*N+6) u→Bx ys (n+2)→Q (.v u) ys
abbrev s_bent_part:Stmt:=top 49
theorem sc_bent_part:FnScope ["_law_box","_law_thing","_law_k","_law_some","_law_way","_law_spot","_law_n","_law_a","_law_b"] ["_law_box","_law_thing"] (defScope s_bent_part):=⟨rfl,rfl,rfl,by decide +kernel,rfl,by decide +kernel,by decide +kernel⟩
theorem ok_bent_part {f : Addr} {fd : FuncData} (F : Fun K "_law_bent_part" "_law_bent_part" s_bent_part f fd) (TX : Txt mg) (g_take : Fn P w K mg base 1 "_law_take" ["_law_box", "_law_many"] (spOf K tTake))   : FnOk P w K mg base CX0 2 f fd ["_law_box", "_law_thing"] (spOfL K tPart) := by
  refine F.okL sc_bent_part ?len (fun cdv A outer s H E hr => (fb_cons (fs_par (i := 4) (j := 5) rfl sc_bent_part.nd rfl rfl (by decide) rfl rfl (fc (fe_callB g_take hr (by omega) rfl (fc (fv 0) (fc fe_int fa_nil))) (fc (fe_callB g_take hr (by omega) rfl (fc (fv 0) (fc fe_int fa_nil))) fa_nil)) rfl)
  (fb_cons (fs_if (ft_val (fe_isi k_str rfl rfl TX.n_isinstance (fv 1) rfl TX.n_str bt_str (by decide))) (fb_one (fs_ret (fe_ix rfl (fe_lst (fc fe_str (fc fe_str (fc fe_str (fc fe_str (fc fe_str (fc (fe_catS (fv 1) fe_str) (fc (fe_sliceS (fv 1) (fo_some fe_int) fo_none) (fc fe_non (fc fe_int (fc (fe_tup (fc (fv 1) fa_nil)) fa_nil))))))))))) (fv 4) (fun _ _ => rfl)))) fb_nil)
  (fb_cons (fs_if (ft_not (ft_val (fe_isi k_tuple rfl rfl TX.n_isinstance (fv 1) rfl TX.n_tuple bt_tuple (by decide)))) (fb_cons (fs_set (i := 6) sc_bent_part.nd rfl (Or.inl rfl) (fe_if (ft_val (fe_isi k_int rfl rfl TX.n_isinstance (fv 1) rfl TX.n_int bt_int (by decide))) (fv 1) fe_int))
  (fb_one (fs_ret (fe_ix rfl (fe_lstF (fc (fe_opN op_addN (fv 6) fe_int) (fc (fe_opN op_subN (fv 6) fe_int) (fc (fe_opN op_addN (fv 6) fe_int) (fc (fe_negN (fv 6)) (fc (fe_opN' op_mulN fe_int (fv 6)) (fc (fe_eq rfl hr (fv 6) fe_int (nomark _)) (fc fe_non (fc fe_str (fc fe_int (fc (fe_lst (fc (fv 6) fa_nil)) fa_nil))))))))))) (fv 4) (fun _ _ => rfl))))) fb_nil)
  (fb_cons (fs_set (i := 2) sc_bent_part.nd rfl (Or.inl rfl) (fe_opI op_mod (fv 5) (fe_opI0 op_add (fe_len rfl rfl TX.n_len (fc (fv 1) fa_nil)) fe_int)))
  (fb_cons (fs_par (i := 7) (j := 8) rfl sc_bent_part.nd rfl rfl (by decide) rfl rfl (fc (fe_sliceG rfl (fv 1) fo_none (fo_some (fv 2))) (fc (fe_sliceG rfl (fv 1) (fo_some (fv 2)) fo_none) fa_nil)) rfl)
  (fb_cons (fs_set (i := 3) sc_bent_part.nd rfl (Or.inl rfl) (fe_lstF (fc (fe_catG rfl (fv 7) (fe_sliceG rfl (fv 8) (fo_some fe_int) fo_none)) (fc (fe_catG rfl (fe_catG rfl (fv 7) (fe_sliceG rfl (fv 8) fo_none (fo_some fe_int))) (fv 8)) (fc (fe_catG rfl (fe_catG rfl (fv 7) (fe_revT rfl (fe_sliceG rfl (fv 8) fo_none (fo_some fe_int)) (fo_some (fe_neg fe_int)))) (fe_sliceG rfl (fv 8) (fo_some fe_int) fo_none)) (fc (fe_catG rfl (fe_catG rfl (fv 7) (fe_tup (fc (fe_tup (fc fe_int (fc fe_int fa_nil))) fa_nil))) (fv 8)) (fc (fe_listOf rfl rfl TX.n_list (fc (fv 1) fa_nil)) (fc (fe_catG rfl (fv 8) (fv 7)) (fc fe_str fa_nil)))))))))
  (fb_one (fs_ret (fe_ix rfl (fe_catV rfl (fv 3) (fe_lst (fc (fe_catG rfl (fe_catG rfl (fv 7) (fe_tup (fc fe_bl fa_nil))) (fe_sliceG rfl (fv 8) (fo_some fe_int) fo_none)) (fc fe_non (fc (fe_tup (fc (fe_tup (fc (fe_tup (fc (fv 1) fa_nil)) fa_nil)) fa_nil)) fa_nil))))) (fv 4) (fun _ _ => rfl))))))))))) ?rd
  case len => rintro as Q ⟨xs, n, t, B, w, d, N, rfl, _⟩; rfl
  case rd =>
    rintro as Q ⟨xs, n, t, B, w, d, N, rfl, hB, hn, ⟨hs, hN⟩, B1, w12, w400, hd, q⟩
    refine ⟨xs, 10, n, rfl, hB, by omega, by decide, by decide, fun way y1 w0 w1 b1 => ?_⟩
    refine ⟨y1, 5, n + 1, rfl, b1, by omega, by decide, by decide, fun spot y2 s0 s1 b2 => ?_⟩
    obtain ⟨A2, B2, C2, rfl, _⟩ := id b2
    have bq := b2.mono (show n + 1 + 1 ≤ n + 2 by omega)
    have N1 := nT_pos t
    have word : ∀ {b : Str}, ((decide (b.length ≤ 12) && (sg b).all (fun c => decide (c < 16 ^ 8))) = true) → Ok (3 * B + 5) (w + 1) (d + 4) (2 * N + 6) (.str b) := fun h => ⟨Sm.word h (by omega), by show 1 ≤ _; omega⟩
    have int : ∀ {i : Int}, i.natAbs ≤ 3 * B + 5 → Ok (3 * B + 5) (w + 1) (d + 4) (2 * N + 6) (.int i) := fun h => ⟨Sm.int h, by show 1 ≤ _; omega⟩
    have non : Ok (3 * B + 5) (w + 1) (d + 4) (2 * N + 6) .non := ⟨Sm.non, by show 1 ≤ _; omega⟩
    have num : ∀ (i : Int) (b : Bool) (t : L2.T), i.natAbs ≤ B → Sm (3 * B + 5) (w + 1) (d + 3) t → nT t = 1 → allP (Ok (3 * B + 5) (w + 1) (d + 4) (2 * N + 6)) (pieN i b t) := fun i b t hi ht hn =>
      ⟨int (by omega), int (by omega), int (by omega), int (by omega), int (by omega), ⟨Sm.bl, by show 1 ≤ _; omega⟩, non, word (by decide), int (by omega), ⟨⟨by show 1 ≤ _; omega, fun x m => by rw [List.mem_singleton.mp m]; exact ht⟩, by show nT t + 0 + 1 ≤ _; omega⟩, trivial⟩
    cases t with
    | str x =>
      obtain ⟨hx, hc⟩ := hs.of_str
      refine ⟨by show x.length + 1 ≤ big; unfold big; omega, fun y hy => ?_⟩
      refine ⟨by show x.length ≤ big; unfold big; omega, fun z hz => ?_⟩
      have ly := cat_len hy
      have ez : sg z = (sg x).drop 1 := by rw [hz]; exact slice_from x 1
      have lz : z.length ≤ x.length := by rw [← sg_len, ez, List.length_drop, sg_len]; omega
      obtain ⟨u, hu, su⟩ := at_all (r := way) (xs := pieS x y z) (P := Ok (3 * B + 5) (w + 1) (d + 4) (2 * N + 6)) w0 w1
        ⟨word (by decide), word (by decide), word (by decide), word (by decide), word (by decide),
         ⟨Sm.str (by have : ((Str.ofString "s")).length = 1 := rfl
                     omega) fun c m => by
            rw [hy, sg_cat] at m
            rcases List.mem_append.mp m with m | m
            · exact hc c m
            · have e : sg (Str.ofString "s") = [115] := by decide
              rw [e] at m
              have : c = 115 := by simpa using m
              rw [this]; decide, by show 1 ≤ _; omega⟩,
         ⟨Sm.str (by omega) fun c m => by rw [ez] at m; exact hc c (List.mem_of_mem_drop m), by show 1 ≤ _; omega⟩, non, int (by show 1 ≤ _; omega),
         ⟨Sm.sole (by omega) (hs.up (by omega) (by omega) (by omega)), by show 1 + 0 + 1 ≤ _; omega⟩, trivial⟩
      show o1 (atI (pieS x y z) way) _
      rw [hu]
      exact q u _ su bq
    | bl b =>
      refine ⟨trivial, trivial, trivial, mulL (by decide), Nat.zero_le _, ?_⟩
      obtain ⟨u, hu, su⟩ := at_all (r := way) (xs := pieN (if b = true then 1 else 0) (L2.eqT (.bl b) (.int 1)) (.bl b)) w0 w1 (num _ _ _ (by split <;> omega) Sm.bl rfl)
      show o1 (atI (pieN (if b = true then 1 else 0) (L2.eqT (.bl b) (.int 1)) (.bl b)) way) _
      rw [hu]
      exact q u _ su bq
    | int i =>
      refine ⟨trivial, trivial, trivial, mulL (by decide), Nat.zero_le _, ?_⟩
      obtain ⟨u, hu, su⟩ := at_all (r := way) (xs := pieN i (L2.eqT (.int i) (.int 1)) (.int i)) w0 w1 (num _ _ _ hs.of_int (Sm.int (by have := hs.of_int; omega)) rfl)
      show o1 (atI (pieN i (L2.eqT (.int i) (.int 1)) (.int i)) way) _
      rw [hu]
      exact q u _ su bq
    | non =>
      refine ⟨trivial, trivial, trivial, mulL (by decide), Nat.zero_le _, ?_⟩
      obtain ⟨u, hu, su⟩ := at_all (r := way) (xs := pieN 0 (L2.eqT (.int 0) (.int 1)) (.int 0)) w0 w1 (num _ _ _ (by show 0 ≤ B; omega) (Sm.int (by show 0 ≤ _; omega)) rfl)
      show o1 (atI (pieN 0 (L2.eqT (.int 0) (.int 1)) (.int 0)) way) _
      rw [hu]
      exact q u _ su bq
    | lst ts =>
      refine ⟨trivial, trivial, trivial, mulL (by decide), Nat.zero_le _, ?_⟩
      obtain ⟨u, hu, su⟩ := at_all (r := way) (xs := pieN 0 (L2.eqT (.int 0) (.int 1)) (.int 0)) w0 w1 (num _ _ _ (by show 0 ≤ B; omega) (Sm.int (by show 0 ≤ _; omega)) rfl)
      show o1 (atI (pieN 0 (L2.eqT (.int 0) (.int 1)) (.int 0)) way) _
      rw [hu]
      exact q u _ su bq
    | tup ts =>
      obtain ⟨d', rfl⟩ : ∃ d', d = d' + 1 := by
        cases d with
        | zero => exact hs.elim
        | succ d' => exact ⟨d', rfl⟩
      obtain ⟨hl, hm⟩ := id hs
      have hN' : nTs ts + 1 ≤ N := hN
      have md : (fun (_ j : Int) => 0 < j) spot ((ts.length : Int) + 1) := by show (0 : Int) < (ts.length : Int) + 1; omega
      refine ⟨md, ?_⟩
      obtain ⟨k, hk⟩ : ∃ k : Nat, spot % ((ts.length : Int) + 1) = (k : Int) := ⟨(spot % ((ts.length : Int) + 1)).toNat, by have := Int.emod_nonneg spot (show (ts.length : Int) + 1 ≠ 0 by omega); omega⟩
      have hkl : k ≤ ts.length := by have := Int.emod_lt_of_pos spot (show (0 : Int) < (ts.length : Int) + 1 by omega); omega
      have ea := cut_to hkl
      have eb := cut_from hkl
      have eab : ts.take k ++ ts.drop k = ts := List.take_append_drop k ts
      have nab := nTs_app (ts.take k) (ts.drop k)
      rw [eab] at nab
      have lab := congrArg List.length eab
      rw [List.length_append] at lab
      have ma : ∀ x ∈ ts.take k, Sm (3 * B + 5) (w + 1) (d' + 4) x := fun x m => (hm x (List.mem_of_mem_take m)).up (by omega) (by omega) (by omega)
      have mb : ∀ x ∈ ts.drop k, Sm (3 * B + 5) (w + 1) (d' + 4) x := fun x m => (hm x (List.mem_of_mem_drop m)).up (by omega) (by omega) (by omega)
      rw [hk]
      show _ ∧ _
      rw [ea, eb]
      generalize ts.take k = a at *
      generalize ts.drop k = b at *
      have c1 := cutL2 (xs := b) (i := 1) (by decide)
      have c2 := cutL1 (xs := b) (i := 1) (by decide)
      have c3 := cutL1 (xs := b) (i := 2) (by decide)
      have c4 := cutL2 (xs := b) (i := 2) (by decide)
      have k1 : (1 : Int).toNat = 1 := rfl
      have k2 : (2 : Int).toNat = 2 := rfl
      rw [k1] at c1 c2
      rw [k2] at c3 c4
      refine ⟨by omega, by omega, by rw [List.length_append]; omega, rfl, by rw [List.length_reverse]; omega, by rw [List.length_append, List.length_reverse]; omega, by show _ + 1 ≤ 900; omega, by rw [List.length_append]; show _ + 1 + _ ≤ 900; omega, by omega, ?_⟩
      refine ⟨by show _ + 1 ≤ 900; omega, by rw [List.length_append]; show _ + 1 + _ ≤ 900; omega, by show 7 + 3 ≤ 1000; decide, ?_⟩
      have n1 := nTs_cut b (some 1) none
      have n2 := nTs_cut b none (some 1)
      have n3 := nTs_cut b none (some 2)
      have n4 := nTs_cut b (some 2) none
      have tp : ∀ us : List L2.T, us.length ≤ w + 1 → (∀ x ∈ us, Sm (3 * B + 5) (w + 1) (d' + 4) x) → nTs us + 1 ≤ 2 * N + 6 → Ok (3 * B + 5) (w + 1) (d' + 1 + 4) (2 * N + 6) (.tup us) := fun us h1 h2 h3 => ⟨⟨h1, h2⟩, h3⟩
      have mc : ∀ lo hi, ∀ x ∈ cutT b lo hi, Sm (3 * B + 5) (w + 1) (d' + 4) x := fun lo hi x m => mb x (cutT_sub m)
      have app : ∀ {us vs : List L2.T}, (∀ x ∈ us, Sm (3 * B + 5) (w + 1) (d' + 4) x) → (∀ x ∈ vs, Sm (3 * B + 5) (w + 1) (d' + 4) x) → ∀ x ∈ us ++ vs, Sm (3 * B + 5) (w + 1) (d' + 4) x := fun h1 h2 x m => (List.mem_append.mp m).elim (h1 x) (h2 x)
      have one : ∀ {t : L2.T}, Sm (3 * B + 5) (w + 1) (d' + 4) t → ∀ x ∈ [t], Sm (3 * B + 5) (w + 1) (d' + 4) x := fun h x m => by rw [List.mem_singleton.mp m]; exact h
      have hl' : ts.length ≤ w := hl
      have t3 : Sm (3 * B + 5) (w + 1) (d' + 2) (.tup ts) := ⟨by omega, fun x m => (hm x m).up (by omega) (by omega) (by omega)⟩
      obtain ⟨u, hu, su⟩ := at_all (r := way) (xs := pieT ts a b) (P := Ok (3 * B + 5) (w + 1) (d' + 1 + 4) (2 * N + 6)) w0 w1
        ⟨tp _ (by rw [List.length_append]; omega) (app ma (mc _ _)) (by rw [nTs_app]; omega),
         tp _ (by rw [List.length_append, List.length_append]; omega) (app (app ma (mc _ _)) mb) (by rw [nTs_app, nTs_app]; omega),
         tp _ (by rw [List.length_append, List.length_append, List.length_reverse]; omega) (app (app ma fun x m => mc _ _ x (List.mem_reverse.mp m)) (mc _ _)) (by rw [nTs_app, nTs_app, nTs_rev]; omega),
         tp _ (by rw [List.length_append, List.length_append]; show _ + 1 + _ ≤ _; omega) (app (app ma (one (Sm.pair (by omega) (Sm.int (by show 0 ≤ _; omega)) (Sm.int (by show 1 ≤ _; omega))))) mb) (by rw [nTs_app, nTs_app]; show _ + 3 + _ + 1 ≤ _; omega),
         ⟨⟨by omega, fun x m => (hm x m).up (by omega) (by omega) (by omega)⟩, by show nTs ts + 1 ≤ _; omega⟩,
         tp _ (by rw [List.length_append]; omega) (app mb ma) (by rw [nTs_app]; omega), word (by decide),
         tp _ (by rw [List.length_append, List.length_append]; show _ + 1 + _ ≤ _; omega) (app (app ma (one Sm.bl)) (mc _ _)) (by rw [nTs_app, nTs_app]; show _ + 1 + _ + 1 ≤ _; omega), non,
         ⟨Sm.sole (by omega) (Sm.sole (by omega) (Sm.sole (by omega) t3)), by show nTs ts + 1 + 0 + 1 + 0 + 1 + 0 + 1 ≤ _; omega⟩, trivial⟩
      show o1 (atI (pieT ts a b) way) _
      rw [hu]
      exact q u _ su bq
end
end My
set_option Elab.async false
set_option linter.all false
set_option maxRecDepth 100000
set_option maxHeartbeats 4000000
namespace My
open PySem L2 PyProof.Rows
section
variable {P:Program} {w:World} {K:PySem.W.Frag} {mg:Str→Option Value} {base:Heap}
def okW:List Int→L2.T→Prop
 | [],_=>True
 | k::q,t=>∃(ts:List L2.T) (j:Nat) (x:L2.T),t = .tup ts∧k=(j:Int)∧ts[j]? = some x∧okW q x
def wyT (p:List Int) (q:List Int):L2.T:=.lst ((p++q).map L2.T.int)
def tWays (n:Nat):SpT:=fun as Q=>∃(t:L2.T) (p:List Int),as=[.v t,.v (.lst (p.map L2.T.int))]∧L2.dT t≤n∧nT t≤900∧p.length≤100-n∧n≤50∧∀W:List (List Int),(∀q∈W,okW q t)→1≤W.length→W.length≤nT t→Q (.v (.lst (W.map (wyT p)))) []
def tWaysN:Nat→SpT
 | 0=>fun _ _=>False
 | n+1=>tWays n
abbrev s_paths_to:Stmt:=top 48
theorem sc_paths_to:FnScope ["_law_thing","_law_path","_law_found","_law_k","_law_one"] ["_law_thing","_law_path"] (defScope s_paths_to):=⟨rfl,rfl,rfl,by decide +kernel,rfl,by decide +kernel,by decide +kernel⟩
theorem ok_paths_to1 {f:Addr} {fd:FuncData} {n:Nat} (F:Fun K "_law_paths_to" "_law_paths_to" s_paths_to f fd) (TX:Txt mg) (g_paths_to:Fn P w K mg base n "_law_paths_to" ["_law_thing","_law_path"] (spOfL K (tWaysN n))):FnOk P w K mg base CX0 (n+1) f fd ["_law_thing","_law_path"] (spOfL K (tWaysN (n+1))):=by
 refine F.okL sc_paths_to ?len (fun cdv A outer s H E hr=>(fb_cons (fs_set (i:=2) sc_paths_to.nd rfl (Or.inl rfl) (fe_lstF (fc (fv 1) fa_nil)))
 (fb_cons (fs_if (ft_val (fe_isi k_tuple rfl rfl TX.n_isinstance (fv 0) rfl TX.n_tuple bt_tuple (by decide))) (fb_one (fs_for PassesOwn.never rfl (fi_enumT rfl rfl TX.n_enumerate (fc (fv 0) fa_nil)) (fg_tup (n:=2) rfl rfl (fgs_cons (fg_name (i:=3) sc_paths_to.nd rfl (Or.inl rfl)) (fgs_cons (fg_name (i:=4) sc_paths_to.nd rfl (Or.inl rfl)) fgs_nil)))
  (fb_one (fs_expr (fe_extendV rfl (fv 2) (fc (fe_callZ0 g_paths_to hr (by omega) rfl (fc (fv 4) (fc (fe_catV rfl (fv 1) (fe_lst (fc (fv 3) fa_nil))) fa_nil))) fa_nil)))))) fb_nil)
 (fb_one (fs_ret (fv 2)))))) ?rd
 case len=>rintro as Q ⟨t,p,rfl,_⟩;rfl
 case rd=>
  rintro as Q ⟨t,p,rfl,hd,hN,hp,hn,q⟩
  have leaf:nT t=1→Q (.v (.lst ([[]].map (wyT p)))) []:=fun e=>q [[]] (fun q m=>by rw [List.mem_singleton.mp m];trivial) (Nat.le_refl _) (by rw [e];exact Nat.le_refl _)
  have e0:wyT p [] = .lst (p.map L2.T.int):=by unfold wyT;rw [List.append_nil]
  cases t with
  | bl b=>have:=leaf rfl;rw [List.map_singleton,e0] at this;exact this
  | int i=>have:=leaf rfl;rw [List.map_singleton,e0] at this;exact this
  | non=>have:=leaf rfl;rw [List.map_singleton,e0] at this;exact this
  | str x=>have:=leaf rfl;rw [List.map_singleton,e0] at this;exact this
  | lst xs=>
   have hx:=nT_pos (.lst xs)
   have:=q [[]] (fun q m=>by rw [List.mem_singleton.mp m];trivial) (Nat.le_refl _) hx
   rw [List.map_singleton,e0] at this;exact this
  | tup ts=>
   have hN':nTs ts+1≤900:=hN
   have hdt:L2.dTs ts+1≤n:=hd
   refine (?_:loopT _ _ _ (ts.zipIdx.map fun q=>L2.T.tup [.int (q.2:Int),q.1]) _)
   refine loopT_inv (fun i E=>∃(v3 v4:Option U) (W:List (List Int)),E=[some (.p (.tup ts)),some (.p (.lst (p.map L2.T.int))),some (.o false (W.map (wyT p))),v3,v4]∧(∀q∈W,okW q (.tup ts))∧1≤W.length∧W.length≤nTs (ts.take i)+1) ⟨none,none,[[]],by rw [List.map_singleton,e0],fun q m=>by rw [List.mem_singleton.mp m];trivial,Nat.le_refl _,by show 1≤_;omega⟩ ?_ ?_
   ·rintro i x rest E hi ⟨v3,v4,W,rfl,hW,hW1,hW2⟩ KK
    obtain ⟨y,hy,rfl⟩:=enum_at hi
    have my:=List.mem_of_getElem? hy
    have il:=(List.getElem?_eq_some_iff.mp hy).1
    have dy:L2.dT y≤L2.dTs ts:=by
     have:=dT_mem (xs:=ts) (n:=L2.dTs ts+1) (Nat.le_refl _) my
     have key:∀(zs:List L2.T),y∈zs→L2.dT y≤L2.dTs zs:=fun zs=>by
      induction zs with
      | nil=>intro m;cases m
      | cons a r ih=>
       intro m
       show _≤Nat.max (L2.dT a) (L2.dTs r)
       rcases List.mem_cons.mp m with e | e
       ·rw [e];exact Nat.le_max_left _ _
       ·exact Nat.le_trans (ih e) (Nat.le_max_right _ _)
     exact key ts my
    obtain ⟨m,rfl⟩:∃m,n=m+1:=⟨n-1,by omega⟩
    have ny:=nTs_mem my
    have ntk:nTs (ts.take (i+1))=nTs (ts.take i)+nT y:=by
     rw [List.take_add_one,hy]
     show nTs (ts.take i++[y])=_
     rw [nTs_app];simp [nTs]
    have nle:=nTs_take ts (i+1)
    refine ⟨by show (p.map L2.T.int).length+1≤1000;rw [List.length_map];omega,?_⟩
    refine ⟨y,p++[(i:Int)],by rw [List.map_append];rfl,by omega,by omega,by rw [List.length_append];show p.length+1≤_;omega,by omega,fun W' h1 h2 h3=>?_⟩
    have eW:W'.map (wyT (p++[(i:Int)]))=(W'.map fun q=>(i:Int)::q).map (wyT p):=by
     rw [List.map_map]
     refine List.map_congr_left fun q _=>?_
     show wyT (p++[(i:Int)]) q=wyT p ((i:Int)::q)
     unfold wyT
     rw [List.append_assoc];rfl
    refine ⟨by rw [List.length_append,List.length_map,List.length_map];omega,?_⟩
    refine KK _ ⟨some (.p (.int (i:Int))),some (.p y),W++W'.map fun q=>(i:Int)::q,?_,fun q mq=>?_,by rw [List.length_append];omega,by rw [List.length_append,List.length_map];omega⟩
    ·rw [eW,List.map_append];rfl
    ·rcases List.mem_append.mp mq with z | z
     ·exact hW q z
     ·obtain ⟨q',mq',rfl⟩:=List.mem_map.mp z
      exact ⟨ts,i,y,rfl,rfl,hy,h1 q' mq'⟩
   ·rintro E ⟨v3,v4,W,rfl,hW,hW1,hW2⟩
    have:=nTs_take ts (ts.zipIdx.map fun q=>L2.T.tup [.int (q.2:Int),q.1]).length
    exact q W hW hW1 (by show _≤nTs ts+1;omega)
theorem ok_paths_to {f:Addr} {fd:FuncData} (F:Fun K "_law_paths_to" "_law_paths_to" s_paths_to f fd) (TX:Txt mg) (hm:mg "_law_paths_to" = some (.ref f)) (hk:PySem.W.keepIn K (.ref f)=true) (hb:Binds K fd ["_law_thing","_law_path"] []) :
  ∀n,FnOk P w K mg base CX0 n f fd ["_law_thing","_law_path"] (spOfL K (tWaysN n))
 | 0=>⟨fun _ _ _ _ ⟨_,_,_,_,_,h,_⟩=>h.elim,fun _ _ _ _ _ _ _ _ _ _ _ _ _ ⟨_,_,_,_,_,h,_⟩=>h.elim⟩
 | n+1=>ok_paths_to1 F TX ⟨⟨f,fd,ok_paths_to F TX hm hk hb n,hm,hk,hb⟩⟩
end
end My
set_option Elab.async false
set_option linter.all false
set_option maxRecDepth 100000
set_option maxHeartbeats 4000000
namespace My
open PySem L2 PyProof.Rows
section
variable {P:Program} {w:World} {K:PySem.W.Frag} {mg:Str→Option Value} {base:Heap}
theorem dTs_ints:∀p:List Int,L2.dTs (p.map L2.T.int)=0
 | []=>rfl
 | i::p=>by show Nat.max 0 (L2.dTs (p.map L2.T.int))=0;rw [dTs_ints p];rfl
theorem dTs_le {y:L2.T}:∀{zs:List L2.T},y∈zs→L2.dT y≤L2.dTs zs
 | a::r,m=>by
  show _≤Nat.max (L2.dT a) (L2.dTs r)
  rcases List.mem_cons.mp m with e | e
  ·rw [e];exact Nat.le_max_left _ _
  ·exact Nat.le_trans (dTs_le e) (Nat.le_max_right _ _)
theorem okW_len:∀{q:List Int} {t:L2.T},okW q t→q.length≤L2.dT t
 | [],_,_=>Nat.zero_le _
 | k::q,t,h=>by
  obtain ⟨ts,j,x,e,_,hx,h⟩:=h
  subst e
  have h1:=okW_len h
  have h2:=dTs_le (List.mem_of_getElem? hx)
  show q.length+1≤L2.dTs ts+1
  omega
def tWith (n:Nat):SpT:=fun as Q=>∃(xs:List L2.T) (m:Int) (t:L2.T) (p:List Int) (B w d N:Nat),as=[.b xs,.v t,.v (.lst (p.map L2.T.int))]∧p.length≤n∧okW p t∧Bx xs m∧m≤900000∧Ok B w d N t∧1≤B∧12≤w∧w≤400∧d≤45∧
 ∀u ys,Ok (3*B+5) (w+1) (d+4) (2*N+6) u→Bx ys (m+2)→Q (.v u) ys
def tWithN:Nat→SpT
 | 0=>fun _ _=>False
 | n+1=>tWith n
abbrev s_with:Stmt:=top 50
theorem sc_with:FnScope ["_law_box","_law_thing","_law_path"] ["_law_box","_law_thing","_law_path"] (defScope s_with):=⟨rfl,rfl,rfl,by decide +kernel,rfl,by decide +kernel,by decide +kernel⟩
theorem ok_with1 {f:Addr} {fd:FuncData} {n:Nat} (F:Fun K "_law_with" "_law_with" s_with f fd) (TX:Txt mg) (g_bent_part:Fn P w K mg base 2 "_law_bent_part" ["_law_box","_law_thing"] (spOfL K tPart)) (g_with:Fn P w K mg base (n+2) "_law_with" ["_law_box","_law_thing","_law_path"] (spOfL K (tWithN n))) :
  FnOk P w K mg base CX0 (n+3) f fd ["_law_box","_law_thing","_law_path"] (spOfL K (tWithN (n+1))):=by
 refine F.okL sc_with ?len (fun cdv A outer s H E hr=>(fb_cons (fs_if (ft_eq rfl hr (fv 2) (fe_lst fa_nil) (nomark _)) (fb_one (fs_ret (fe_callZ g_bent_part hr (by omega) rfl (fc (fv 0) (fc (fv 1) fa_nil))))) fb_nil)
 (fb_one (fs_ret (fe_catG rfl (fe_catG rfl (fe_sliceG rfl (fv 1) fo_none (fo_some (fe_ix rfl (fv 2) fe_int (fun _ _=>rfl)))) (fe_tup (fc (fe_callZ g_with hr (by omega) rfl (fc (fv 0) (fc (fe_ix rfl (fv 1) (fe_ix rfl (fv 2) fe_int (fun _ _=>rfl)) (fun _ _=>rfl)) (fc (fe_sliceL rfl (fv 2) (fo_some fe_int) fo_none) fa_nil)))) fa_nil))) (fe_sliceG rfl (fv 1) (fo_some (fe_opI0 op_add (fe_ix rfl (fv 2) fe_int (fun _ _=>rfl)) fe_int)) fo_none)))))) ?rd
 case len=>rintro as Q ⟨xs,m,t,p,B,w,d,N,rfl,_⟩;rfl
 case rd=>
  rintro as Q ⟨xs,m,t,p,B,w,d,N,rfl,hp,hw,hB,hm,ho,B1,w12,w400,hd,q⟩
  have dp:L2.dT (.lst (p.map L2.T.int))≤60:=by show L2.dTs _+1≤60;rw [dTs_ints];decide
  refine ⟨dp,?_⟩
  cases p with
  | nil=>
   refine ⟨xs,m,t,B,w,d,N,rfl,hB,hm,ho,B1,w12,w400,hd,fun u ys su bu=>?_⟩
   obtain ⟨A2,B2,C2,rfl,_⟩:=id bu
   exact q u _ su bu
  | cons k p=>
   obtain ⟨ts,j,x,rfl,rfl,hx,hw⟩:=hw
   obtain ⟨hs,hN⟩:=ho
   obtain ⟨d',rfl⟩:∃d',d=d'+1:=by
    cases d with
    | zero=>exact hs.elim
    | succ d'=>exact ⟨d',rfl⟩
   obtain ⟨hl,hmem⟩:=id hs
   have mx:=List.mem_of_getElem? hx
   have jl:=(List.getElem?_eq_some_iff.mp hx).1
   have hat:=atI_nat (xs:=ts) (j:=j) (v:=x) hx
   have hN':nTs ts+1≤N:=hN
   have hl':ts.length≤w:=hl
   obtain ⟨n',rfl⟩:∃n',n=n'+1:=⟨n-1,by simp at hp;omega⟩
   have h0:atI (((j:Int)::p).map L2.T.int) 0=some (.int (j:Int)):=atI_nat (xs:=((j:Int)::p).map L2.T.int) (j:=0) rfl
   show o1 (atI (((j:Int)::p).map L2.T.int) 0) _
   rw [h0]
   show o1 (atI (((j:Int)::p).map L2.T.int) 0) _
   rw [h0]
   show o1 (atI ts (j:Int)) _
   rw [hat]
   have ec:cutT ((((j:Int))::p).map L2.T.int) (some 1) none=p.map L2.T.int:=cut_from (k:=1) (by show 1≤_+1;omega)
   have c1:=cutL1 (xs:=ts) (i:=(j:Int)) (by omega)
   have c2:=cutL2 (xs:=ts) (i:=(j:Int)+1) (by omega)
   have e1:cutT ts none (some (j:Int))=ts.take j:=cut_to (by omega)
   have e2:cutT ts (some ((j:Int)+1)) none=ts.drop (j+1):=cut_from (k:=j+1) (by omega)
   have ed:ts.drop j=x::ts.drop (j+1):=by
    obtain ⟨h1,h2⟩:=List.getElem?_eq_some_iff.mp hx
    rw [←h2];exact List.drop_eq_getElem_cons h1
   have nn:nTs ts=nTs (ts.take j)+(nT x+nTs (ts.drop (j+1))):=by
    have:=nTs_app (ts.take j) (ts.drop j)
    rw [List.take_append_drop,ed] at this
    exact this
   have pl':p.length≤n':=by simpa using hp
   refine ⟨xs,m,x,p,B,w,d',nT x,by rw [←ec];rfl,pl',hw,hB,hm,⟨hmem x mx,Nat.le_refl _⟩,B1,w12,w400,by omega,fun u ys su bu=>?_⟩
   obtain ⟨A2,B2,C2,rfl,_⟩:=id bu
   refine ⟨by show _+1≤900;omega,?_⟩
   show o1 (atI (((j:Int)::p).map L2.T.int) 0) _
   rw [h0]
   refine ⟨by rw [List.length_append];show _+1+_≤900;omega,q _ _ ⟨Sm.tup' (d:=d'+4) (by rw [List.length_append,List.length_append];show _+1+_≤_;omega) (fun z mz=>?_) (by omega),?_⟩ bu⟩
   ·rcases List.mem_append.mp mz with z1 | z1
    ·rcases List.mem_append.mp z1 with z1 | z1
     ·exact (hmem z (cutT_sub z1)).up (by omega) (by omega) (by omega)
     ·rw [List.mem_singleton.mp z1];exact su.s
    ·exact (hmem z (cutT_sub z1)).up (by omega) (by omega) (by omega)
   ·show nTs (cutT ts none (some (j:Int))++[u]++cutT ts (some ((j:Int)+1)) none)+1≤_
    rw [nTs_app,nTs_app,e1,e2]
    have:=su.n
    show _+(nT u+0)+_+1≤_
    omega
theorem ok_with {f:Addr} {fd:FuncData} (F:Fun K "_law_with" "_law_with" s_with f fd) (TX:Txt mg) (g_bent_part:Fn P w K mg base 2 "_law_bent_part" ["_law_box","_law_thing"] (spOfL K tPart)) (hm:mg "_law_with" = some (.ref f)) (hk:PySem.W.keepIn K (.ref f)=true) (hb:Binds K fd ["_law_box","_law_thing","_law_path"] []) :
  ∀n,FnOk P w K mg base CX0 (n+2) f fd ["_law_box","_law_thing","_law_path"] (spOfL K (tWithN n))
 | 0=>⟨fun _ _ _ _ ⟨_,_,_,_,_,h,_⟩=>h.elim,fun _ _ _ _ _ _ _ _ _ _ _ _ _ ⟨_,_,_,_,_,h,_⟩=>h.elim⟩
 | n+1=>ok_with1 F TX g_bent_part ⟨⟨f,fd,ok_with F TX g_bent_part hm hk hb n,hm,hk,hb⟩⟩
def tSpo:SpT:=fun as Q=>∃(xs:List L2.T) (m:Int) (t:L2.T) (B w d N:Nat),as=[.b xs,.v t]∧Bx xs m∧m≤800000∧Ok B w d N t∧1≤B∧12≤w∧w≤400∧d≤10∧N≤900∧∀u ys,Ok (3*B+5) (w+1) (d+4) (2*N+6) u→Bx ys (m+3)→Q (.v u) ys
abbrev s_spoilt:Stmt:=top 51
theorem sc_spoilt:FnScope ["_law_box","_law_thing","_law_some"] ["_law_box","_law_thing"] (defScope s_spoilt):=⟨rfl,rfl,rfl,by decide +kernel,rfl,by decide +kernel,by decide +kernel⟩
theorem ok_spoilt {f:Addr} {fd:FuncData} (F:Fun K "_law_spoilt" "_law_spoilt" s_spoilt f fd) (TX:Txt mg) (g_take:Fn P w K mg base 1 "_law_take" ["_law_box","_law_many"] (spOf K tTake)) (g_paths_to:Fn P w K mg base 11 "_law_paths_to" ["_law_thing","_law_path"] (spOfL K (tWaysN 11))) (g_with:Fn P w K mg base 13 "_law_with" ["_law_box","_law_thing","_law_path"] (spOfL K (tWithN 11)))   : FnOk P w K mg base CX0 14 f fd ["_law_box","_law_thing"] (spOfL K tSpo):=by
 refine F.okL sc_spoilt ?len (fun cdv A outer s H E hr=>(fb_cons (fs_set (i:=2) sc_spoilt.nd rfl (Or.inl rfl) (fe_callZ0 g_paths_to hr (by omega) rfl (fc (fv 1) (fc (fe_lst fa_nil) fa_nil))))
 (fb_one (fs_ret (fe_callZ g_with hr (by omega) rfl (fc (fv 0) (fc (fv 1) (fc (fe_ix rfl (fv 2) (fe_callB g_take hr (by omega) rfl (fc (fv 0) (fc (fe_len rfl rfl TX.n_len (fc (fv 2) fa_nil)) fa_nil))) (fun _ _=>rfl)) fa_nil)))))))) ?rd
 case len=>rintro as Q ⟨xs,m,t,B,w,d,N,rfl,_⟩;rfl
 case rd=>
  rintro as Q ⟨xs,m,t,B,w,d,N,rfl,hB,hm,ho,B1,w12,w400,hd,hN,q⟩
  have dt:=Nat.le_trans ho.s.dT hd
  refine ⟨t,[],rfl,dt,Nat.le_trans ho.n hN,by show 0≤_;omega,by decide,fun W hW h1 h2=>?_⟩
  have hWl:W.length≤900:=Nat.le_trans h2 (Nat.le_trans ho.n hN)
  have el:(W.map (wyT [])).length=W.length:=List.length_map _
  refine ⟨xs,((W.map (wyT [])).length:Int),m,rfl,hB,by omega,by omega,Int.lt_of_le_of_lt (show ((W.map (wyT [])).length:Int)≤900 by omega) (by decide),fun r y1 r0 r1 b1=>?_⟩
  obtain ⟨A1,B1',C1,rfl,_⟩:=id b1
  have hr:r.toNat<W.length:=by omega
  have hat:atI (W.map (wyT [])) r=some (wyT [] W[r.toNat]):=by
   have e:r=((r.toNat:Nat):Int):=by omega
   have z:=atI_nat (xs:=W.map (wyT [])) (j:=r.toNat) (v:=wyT [] W[r.toNat]) (by rw [List.getElem?_map,List.getElem?_eq_getElem hr];rfl)
   rw [←e] at z;exact z
  show o1 (atI (W.map (wyT [])) r) _
  rw [hat]
  have okq:=hW _ (List.getElem_mem hr)
  refine ⟨_,m+1,t,W[r.toNat],B,w,d,N,rfl,Nat.le_trans (okW_len okq) dt,okq,b1,by omega,ho,B1,w12,w400,by omega,fun u ys su bu=>?_⟩
  obtain ⟨A2,B2,C2,rfl,_⟩:=id bu
  exact q u _ su (bu.mono (by omega))
end
end My
set_option Elab.async false
set_option linter.all false
set_option maxRecDepth 100000
set_option maxHeartbeats 4000000
namespace My
open PySem L2 PyProof.Rows
section
variable {P:Program} {w:World} {K:PySem.W.Frag} {mg:Str→Option Value} {base:Heap}
def GG:Fr:=(10^30+1,1)
theorem gg_n:Nrm GG:=nrm_int _
theorem gg_v:val GG=((10^30+1:Int):Rat):=val_int _
theorem gg_s:sz GG≤100:=sz_le (e:=100) (by decide +kernel) (by decide +kernel) (by decide)
def gr (x:Fr):Fr:=fmul x GG
def grP:Pc→Pc
 | .side x y=>.side (gr x) (gr y)
 | .arc m n x y l=>.arc (gr m) (gr n) (gr x) (gr y) l
theorem gr_nv {x y:Fr} {e:Nat} (h:Nv x y e):Nv (gr x) (gr y) (e+100):=nv_sc h gg_n gg_s
theorem gr_v {x:Fr} (h:Nrm x):val (gr x)=val x*val GG:=val_mul h gg_n
theorem gg_pos:0<val GG:=by rw [gg_v];exact_mod_cast (by decide:(0:Int)<10^30+1)
theorem gr_inj {x y:Fr} (hx:Nrm x) (hy:Nrm y) (h:gr x=gr y):x=y:=by
 refine val_inj hx hy ?_
 have:=congrArg val h
 rw [gr_v hx,gr_v hy] at this
 have g:=gg_pos
 have:(val x-val y)*val GG=0:=by grind
 rcases Rat.mul_eq_zero.mp this with z | z<;>grind
theorem gr_far {a b c d:Fr} (ha:Nrm a) (hb:Nrm b) (hc:Nrm c) (hd:Nrm d):far2 (gr a) (gr b) (gr c) (gr d)=far2 a b c d*(val GG*val GG):=by
 unfold far2
 rw [gr_v ha,gr_v hb,gr_v hc,gr_v hd];grind
theorem gr_ok {e f:Nat} {a b:Fr} (h:Nv a b f):∀{p:Pc},okPc e a b p→okPc (e+100) (gr a) (gr b) (grP p)
 | .side x y,⟨n,r,r0,hr⟩=>⟨gr_nv n,r*val GG,Rat.mul_pos r0 gg_pos,by rw [gr_far n.x n.y h.x h.y,hr];grind⟩
 | .arc m k x y l,⟨n1,n2,ne,r,r0,h1,h2⟩=>⟨gr_nv n1,gr_nv n2,fun z=>ne ⟨gr_inj n2.x h.x z.1,gr_inj n2.y h.y z.2⟩,r*val GG,Rat.mul_pos r0 gg_pos,by rw [gr_far h.x h.y n1.x n1.y,h1];grind,by rw [gr_far n2.x n2.y n1.x n1.y,h2];grind⟩
theorem grP_px (p:Pc):(grP p).px=gr p.px∧(grP p).py=gr p.py:=by cases p<;>exact ⟨rfl,rfl⟩
theorem gr_chain {e:Nat}:∀{ps:List Pc} {a b:Fr},Nv a b e→chainP e a b ps→chainP (e+100) (gr a) (gr b) (ps.map grP)
 | [],_,_,_,_=>trivial
 | p::ps,a,b,hv,h=>⟨gr_ok hv h.1,by rw [(grP_px p).1,(grP_px p).2];exact gr_chain (okPc.nv h.1) h.2⟩
theorem gr_dv {B:Nat} {x:Fr} (n:Nrm x) (h:Dv B x):Dv (B*(10^30+1)) (gr x):=by
 obtain ⟨k,e,b⟩:=h
 refine ⟨k*(10^30+1),by rw [gr_v n,gg_v];push_cast;grind,?_⟩
 rw [Int.natAbs_mul]
 exact Nat.mul_le_mul b (Nat.le_refl _)
structure PO (e B:Nat) (a b:Fr) (ps:List Pc):Prop where
 nv:Nv a b e
 ne:ps≠[]
 len:ps.length≤10
 ch:chainP e a b ps
 da:Dv B a
 db:Dv B b
 dp:∀p∈ps,Dv B p.px∧Dv B p.py
theorem ch_mem {e:Nat}:∀{ps:List Pc} {a b:Fr} {p:Pc},Nv a b e→chainP e a b ps→p∈ps→∃x y,Nv x y e∧okPc e x y p
 | [],_,_,_,_,_,m=>by cases m
 | q::ps,a,b,p,hv,h,m=>by
  rcases List.mem_cons.mp m with z | z
  ·subst z;exact ⟨a,b,hv,h.1⟩
  ·exact ch_mem (okPc.nv h.1) h.2 z
theorem PO.great {B:Nat} {a b:Fr} {ps:List Pc} (h:PO 14 B a b ps):PO 114 (B*(10^30+1)) (gr a) (gr b) (ps.map grP):=by
 refine ⟨gr_nv h.nv,fun z=>h.ne (List.map_eq_nil_iff.mp z),by rw [List.length_map];exact h.len,gr_chain h.nv h.ch,gr_dv h.nv.x h.da,gr_dv h.nv.y h.db,fun p m=>?_⟩
 obtain ⟨q,mq,rfl⟩:=List.mem_map.mp m
 obtain ⟨_,_,_,ok⟩:=ch_mem h.nv h.ch mq
 rw [(grP_px q).1,(grP_px q).2]
 exact ⟨gr_dv (okPc.nv ok).x (h.dp q mq).1,gr_dv (okPc.nv ok).y (h.dp q mq).2⟩
def tGreat:SpT:=fun as Q=>∃(a b:Fr) (ps:List Pc),as=[.v (pathT a b ps)]∧PO 14 16000 a b ps∧Q (.v (pathT (gr a) (gr b) (ps.map grP))) []
abbrev s_great:Stmt:=top 53
theorem sc_great:FnScope ["_law_path","_law_piece","_law_by","_law_pieces","_law_points"] ["_law_path"] (defScope s_great):=⟨rfl,rfl,rfl,by decide +kernel,rfl,by decide +kernel,by decide +kernel⟩
theorem ok_great {f:Addr} {fd:FuncData} (F:Fun K "_law_great" "_law_great" s_great f fd) (TX:Txt mg) (g_scaled_by:Fn P w K mg base 3 "_law_scaled_by" ["_law_vector","_law_share"] (spOf K tScBy))   : FnOk P w K mg base CX0 4 f fd ["_law_path"] (spOf K tGreat):=by
 refine F.okT sc_great ?len (fun cdv A outer s H E hr=>(fb_cons (fs_asgU (i:=2) (j:=3) rfl sc_great.nd rfl rfl (by decide) (Or.inr rfl) (Or.inl rfl) (fc (fe_tup (fc (fe_opI0 op_add (fe_opI op_pow fe_int fe_int) fe_int) (fc fe_int fa_nil))) (fc (fe_lst fa_nil) fa_nil)))
 (fb_cons (fs_for PassesOwn.never rfl (fi_tup rfl (fe_ix rfl (fv 0) fe_int (fun _ _=>rfl))) (fg_name (i:=1) sc_great.nd rfl (Or.inl rfl))
  (fb_cons (fs_setC (i:=4) (N':=["_law_point","_law_by"]) (t:=1) (cap:=[(2,false)]) sc_great.nd rfl (Or.inl rfl) rfl rfl (CompOk.of rfl) rfl (by decide) (fi_tup rfl (fe_sliceT rfl (fv 1) (fo_some fe_int) (fo_some (fe_opI0 op_add fe_int (fe_opI op_fdivZ (fe_len rfl rfl TX.n_len (fc (fv 1) fa_nil)) fe_int))))) (fun _ _ _ _=>(fg_name (i:=0) (show List.Nodup (["_law_point","_law_by"]:List Str) by decide +kernel) rfl (Or.inl rfl) (Or.inr rfl))) (fun _ _ _ _=>(fe_call g_scaled_by hr (by omega) rfl (fc (fv 0) (fc (fv 1) fa_nil)))))
 (fb_one (fs_expr (fe_append rfl (fv 3) (fc (fe_catT rfl (fe_catT rfl (fe_tup (fc (fe_ix rfl (fv 1) fe_int (fun _ _=>rfl)) fa_nil)) (fe_tupOf rfl rfl TX.n_tuple (fc (fv 4) fa_nil))) (fe_sliceT rfl (fv 1) (fo_some fe_int) fo_none)) fa_nil))))))
 (fb_one (fs_ret (fe_tup (fc (fe_call g_scaled_by hr (by omega) rfl (fc (fe_ix rfl (fv 0) fe_int (fun _ _=>rfl)) (fc (fv 2) fa_nil))) (fc (fe_tupOf rfl rfl TX.n_tuple (fc (fv 3) fa_nil)) fa_nil)))))))) ?rd
 case len=>rintro as Q ⟨a,b,ps,rfl,_⟩;rfl
 case rd=>
  rintro as Q ⟨a,b,ps,rfl,po,q⟩
  have p30:CPow 10 30:=⟨by decide,by decide,by decide⟩
  refine ⟨p30,?_⟩
  refine (?_:loopT _ _ _ (ps.map pcT) _)
  refine loopT_inv (fun i E=>∃(v1 v4:Option U),E=[some (.p (pathT a b ps)),v1,some (.p (fr GG)),some (.o false ((ps.take i).map fun p=>pcT (grP p))),v4]) ⟨none,none,rfl⟩ ?_ ?_
  ·rintro i t rest E hi ⟨v1,v4,rfl⟩ KK
   rw [List.getElem?_map] at hi
   cases hq:ps[i]? with
   | none=>rw [hq] at hi;cases hi
   | some p=>
    rw [hq] at hi;cases hi
    have il:=(List.getElem?_eq_some_iff.mp hq).1
    have hl:=po.len
    obtain ⟨_,_,_,ok⟩:=ch_mem po.nv po.ch (List.mem_of_getElem? hq)
    have e1:ps.take (i+1)=ps.take i++[p]:=by rw [List.take_add_one,hq];rfl
    have lp:∀t:L2.T,((ps.take i).map (fun p=>pcT (grP p))++[t]).length≤1000:=fun t=>by rw [List.length_append,List.length_map,List.length_take];show _+1≤_;omega
    have fin:=fun v4'=>KK [some (.p (pathT a b ps)),some (.p (pcT p)),some (.p (fr GG)),some (.o false ((ps.take i).map (fun p=>pcT (grP p))++[pcT (grP p)])),v4'] ⟨some (.p (pcT p)),v4',by rw [e1,List.map_append];rfl⟩
    cases p with
    | side x y=>
     refine ⟨⟨by decide,by decide⟩,?_⟩
     refine ⟨fun z=>absurd z.1 (show ¬HT.sIx 2 0 (some 1)=0 by decide),rfl,?_⟩
     have cs:cutT [L2.T.str "side",vc x y] (some 1) (some (1+Int.fdiv (([L2.T.str "side",vc x y].length:Nat):Int) 2))=[vc x y]:=by
      rw [show Int.fdiv (([L2.T.str "side",vc x y].length:Nat):Int) 2=1 from (by decide:Int.fdiv ((2:Nat):Int) 2=1)];rfl
     show compL _ _ (cutT [L2.T.str "side",vc x y] (some 1) (some (1+Int.fdiv (([L2.T.str "side",vc x y].length:Nat):Int) 2))) _ _
     rw [cs]
     have gs:=gg_s
     refine ⟨x,y,GG,14,rfl,ok.1,gg_n,by omega,by decide,rfl,?_⟩
     exact ⟨le_ok rfl,fun z=>absurd z.1 (show ¬HT.sIx 2 0 (some 3)=0 by decide),le_ok rfl,lp _,fin _⟩
    | arc m n x y l=>
     refine ⟨⟨by decide,by decide⟩,?_⟩
     refine ⟨fun z=>absurd z.1 (show ¬HT.sIx 4 0 (some 1)=0 by decide),rfl,?_⟩
     have cs:cutT [L2.T.str "arc",vc m n,vc x y,.str (turnS l)] (some 1) (some (1+Int.fdiv (([L2.T.str "arc",vc m n,vc x y,.str (turnS l)].length:Nat):Int) 2))=[vc m n,vc x y]:=by
      rw [show Int.fdiv (([L2.T.str "arc",vc m n,vc x y,.str (turnS l)].length:Nat):Int) 2=2 from (by decide:Int.fdiv ((4:Nat):Int) 2=2)];rfl
     show compL _ _ (cutT [L2.T.str "arc",vc m n,vc x y,.str (turnS l)] (some 1) (some (1+Int.fdiv (([L2.T.str "arc",vc m n,vc x y,.str (turnS l)].length:Nat):Int) 2))) _ _
     rw [cs]
     have gs:=gg_s
     refine ⟨m,n,GG,14,rfl,ok.1,gg_n,by omega,by decide,x,y,GG,14,rfl,ok.2.1,gg_n,by omega,Nat.succ_lt_succ (by decide),rfl,?_⟩
     exact ⟨le_ok rfl,fun z=>absurd z.1 (show ¬HT.sIx 4 0 (some 3)=0 by decide),le_ok rfl,lp _,fin _⟩
  ·rintro E ⟨v1,v4,rfl⟩
   have gs:=gg_s
   have e:(ps.take (ps.map pcT).length).map (fun p=>pcT (grP p))=(ps.map grP).map pcT:=by rw [List.length_map,List.take_length,List.map_map];rfl
   refine ⟨a,b,GG,14,rfl,po.nv,gg_n,by omega,?_⟩
   show noL (.tup [vc (gr a) (gr b),.tup ((ps.take (ps.map pcT).length).map (fun p=>pcT (grP p)))])=true∧_
   rw [e]
   exact ⟨noL_path (gr a) (gr b) (ps.map grP) (noLs_pcs _),q⟩
end
end My
set_option Elab.async false
set_option linter.all false
set_option maxRecDepth 100000
set_option maxHeartbeats 4000000
namespace My
open PySem L2 PyProof.Rows
section
variable {P:Program} {w:World} {K:PySem.W.Frag} {mg:Str→Option Value} {base:Heap}
def ptT (p:Pc):L2.T:=vc p.px p.py
theorem noLs_pts:∀ps:List Pc,noLs (ps.map ptT)=true
 | []=>rfl
 | p::ps=>by show (true&&noLs (ps.map ptT))=true;rw [noLs_pts ps];rfl
theorem at_neg {L:List L2.T} {k:Nat} (h1:1≤k) (h2:k≤L.length):∃u,u∈L∧atI L (-(k:Int))=some u:=by
 have hk:L.length-k<L.length:=by omega
 refine ⟨L[L.length-k],List.getElem_mem hk,?_⟩
 have e:ixN L.length (-(k:Int))=some (L.length-k):=by
  unfold ixN
  rw [if_neg (by omega),if_pos (by omega)]
  congr 1
  omega
 unfold atI
 rw [e]
 exact List.getElem?_eq_getElem hk
def Np (e B:Nat) (t:L2.T):Prop:=∃x y,t=vc x y∧Nv x y e∧Dv B x∧Dv B y
theorem PO.ends {e B:Nat} {a b:Fr} {ps:List Pc} (h:PO e B a b ps):∀t∈vc a b::ps.map ptT,Np e B t:=fun t m=>by
 rcases List.mem_cons.mp m with z | z
 ·exact ⟨a,b,z,h.nv,h.da,h.db⟩
 ·obtain ⟨p,mp,rfl⟩:=List.mem_map.mp z
  obtain ⟨_,_,_,ok⟩:=ch_mem h.nv h.ch mp
  exact ⟨_,_,rfl,okPc.nv ok,h.dp p mp⟩
theorem mid_sz {px qx py qy sh:Fr} {B:Nat} {n d:Int} (hB:B<2^115) (a1:Nrm px) (a2:Nrm qx) (a3:Nrm py) (a4:Nrm qy) (hs:Nrm sh) (d1:Dv B px) (d2:Dv B qx) (d3:Dv B py) (d4:Dv B qy) (vs:val sh=(n:Rat)/(d:Rat)) (hd:1≤d) (hd2:d≤24) (hn:n.natAbs≤12) {x:Fr} (nx:Nrm x)
  (vx:val x=(val qx+val px)*(1/2)+(val py-val qy)*val sh):sz x≤130:=by
 obtain ⟨k1,e1,b1⟩:=d1
 obtain ⟨k2,e2,b2⟩:=d2
 obtain ⟨k3,e3,b3⟩:=d3
 obtain ⟨k4,e4,b4⟩:=d4
 have nz:(d:Rat)≠0:=by exact_mod_cast (show d≠0 by omega)
 have bound:((k2+k1)*d+2*(k3-k4)*n).natAbs≤200*B:=by
  have m1:((k2+k1)*d).natAbs≤(2*B)*24:=by rw [Int.natAbs_mul];exact Nat.mul_le_mul (by omega) (by omega)
  have m2:(2*(k3-k4)*n).natAbs≤(4*B)*12:=by rw [Int.natAbs_mul];exact Nat.mul_le_mul (by omega) hn
  omega
 refine sz_by (D:=130*d) (k:=(k2+k1)*d+2*(k3-k4)*n) nx (by omega) ?_ ?_ ?_ (by decide)
 ·rw [vx,vs];push_cast;grind
 ·exact Nat.lt_of_le_of_lt (show (130*d).natAbs≤3120 by omega) (by decide)
 ·exact Nat.lt_of_le_of_lt bound (Nat.lt_of_lt_of_le (show 200*B<200*2^115 by omega) (by decide))
theorem cut_last (xs:List L2.T):cutT xs none (some (-1))=xs.take (xs.length-1):=by
 unfold cutT
 rw [HT.sIx_none,List.drop_zero,Nat.sub_zero]
 have:HT.sIx xs.length xs.length (some (-1))=xs.length-1:=by
  show (if (-1:Int)<0 then ((-1:Int)+(xs.length:Int)).toNat else min (-1:Int).toNat xs.length)=_
  rw [if_pos (by decide)]
  omega
 rw [this]
theorem nat_le_pow {i:Int} {e:Nat} (h:i.natAbs<2^e) {B:Nat} (k:2^e≤B):i.natAbs≤B:=by omega
theorem sm_vc {x y:Fr} {e B w d:Nat} (h:Nv x y e) (k:2^e≤B) (hw:2≤w):Sm B w (d+2) (vc x y):=by
 have c:∀{z:Fr},sz z≤e→Sm B w (d+1) (fr z):=fun {z} hz=>Sm.pair hw (Sm.int (nat_le_pow (pl (sz_n z) hz) k)) (Sm.int (nat_le_pow (pl (sz_d z) hz) k))
 exact Sm.pair hw (c h.sx) (c h.sy)
theorem turn_word (l:Bool):(decide ((turnS l).length≤12)&&(sg (turnS l)).all (fun c=>decide (c<16^8)))=true:=by cases l<;>decide
theorem sm_arc {m n x y:Fr} {l:Bool} {e B w d:Nat} (h1:Nv m n e) (h2:Nv x y e) (k:2^e≤B) (hw:12≤w):Sm B w (d+3) (.tup [.str "arc",vc m n,vc x y,.str (turnS l)]):=
 Sm.tup' (d:=d+2) (show 4≤w by omega) (allP.mem ⟨Sm.word (by decide) hw,sm_vc h1 k (by omega),sm_vc h2 k (by omega),Sm.word (turn_word l) hw,trivial⟩) (Nat.le_refl _)
theorem sm_pc {e B w d:Nat} {a b:Fr} (k:2^e≤B) (hw:12≤w):∀{p:Pc},okPc e a b p→Sm B w (d+3) (pcT p)
 | .side x y,h=>Sm.pair (by omega) (Sm.word (by decide) hw) (sm_vc h.1 k (by omega))
 | .arc m n x y l,h=>sm_arc h.1 h.2.1 k hw
theorem nT_pc (p:Pc):nT (pcT p)≤17:=by cases p<;>exact le_ok rfl
theorem nTs_pcs:∀ps:List Pc,nTs (ps.map pcT)≤17*ps.length
 | []=>Nat.le_refl _
 | p::ps=>by
  have:=nT_pc p
  have:=nTs_pcs ps
  show nT (pcT p)+nTs (ps.map pcT)≤17*(ps.length+1)
  omega
theorem PO.ok {e B:Nat} {a b:Fr} {ps:List Pc} (h:PO e B a b ps) (he:e≤130):Ok (2^150) 12 5 200 (pathT a b ps):=by
 have k:2^e≤2^150:=Nat.pow_le_pow_right (by decide) (by omega)
 have hl:=h.len
 refine ⟨Sm.pair (by decide) (sm_vc h.nv k (by decide)) ⟨by rw [List.length_map];omega,fun t m=>?_⟩,?_⟩
 ·obtain ⟨p,mp,rfl⟩:=List.mem_map.mp m
  obtain ⟨x,y,_,ok⟩:=ch_mem h.nv h.ch mp
  exact sm_pc k (by decide) ok
 ·have:=nTs_pcs ps
  show 7+(nTs (ps.map pcT)+1+0)+1≤200
  omega
def tFar:SpT:=fun as Q=>∃(xs:List L2.T) (n:Int) (a b:Fr) (ps:List Pc) (e B:Nat),as=[.b xs,.v (pathT a b ps)]∧Bx xs n∧n≤700000∧PO e B a b ps∧e≤130∧B<2^115∧∀u ys,Ok (2^150) 12 5 200 u→noL u=true→Bx ys (n+3)→noLs ys=true→Q (.v u) ys
abbrev s_as_far:Stmt:=top 52
theorem sc_as_far:FnScope ["_law_box","_law_path","_law_ends","_law_by","_law_share","_law_half","_law_middle"] ["_law_box","_law_path"] (defScope s_as_far):=⟨rfl,rfl,rfl,by decide +kernel,rfl,by decide +kernel,by decide +kernel⟩
theorem ok_as_far {f:Addr} {fd:FuncData} (F:Fun K "_law_as_far" "_law_as_far" s_as_far f fd) (TX:Txt mg) (g_take:Fn P w K mg base 1 "_law_take" ["_law_box","_law_many"] (spOf K tTake)) (g_off:Fn P w K mg base 3 "_law_off" ["_law_one","_law_other"] (spOf K tOff)) (g_lowest:Fn P w K mg base 1 "_law_lowest" ["_law_n","_law_d"] (spOf K tLow)) (g_scaled_by:Fn P w K mg base 3 "_law_scaled_by" ["_law_vector","_law_share"] (spOf K tScBy)) (g_joined:Fn P w K mg base 3 "_law_joined" ["_law_one","_law_other"] (spOf K tJoin)) (g_to_left:Fn P w K mg base 1 "_law_to_left" ["_law_vector"] (spOf K tLeft))   : FnOk P w K mg base CX0 4 f fd ["_law_box","_law_path"] (spOf K tFar):=by
 refine F.okT sc_as_far ?len (fun cdv A outer s H E hr=>(fb_cons (fs_set (i:=2) sc_as_far.nd rfl (Or.inl rfl) (fe_cat (fe_lst (fc (fe_ix rfl (fv 1) fe_int (fun _ _=>rfl)) fa_nil)) (fe_comp (N':=["_law_piece"]) (t:=1) (cap:=[]) rfl (CompOk.of rfl) rfl (by decide) (fi_tup rfl (fe_ix rfl (fv 1) fe_int (fun _ _=>rfl))) (fun _ _ _ _=>(fg_name (i:=0) (show List.Nodup (["_law_piece"]:List Str) by decide +kernel) rfl (Or.inl rfl) (Or.inr rfl))) (fun _ _ _ _=>(fe_ix rfl (fv 0) (fe_opI op_fdivZ (fe_len rfl rfl TX.n_len (fc (fv 0) fa_nil)) fe_int) (fun _ _=>rfl))))))
 (fb_cons (fs_set (i:=3) sc_as_far.nd rfl (Or.inl rfl) (fe_call g_off hr (by omega) rfl (fc (fe_ix rfl (fv 2) (fe_neg fe_int) (fun _ _=>rfl)) (fc (fe_ix rfl (fv 2) (fe_neg fe_int) (fun _ _=>rfl)) fa_nil))))
 (fb_cons (fs_set (i:=4) sc_as_far.nd rfl (Or.inl rfl) (fe_call g_lowest hr (by omega) rfl (fc (fe_opI0 op_sub (fe_callB g_take hr (by omega) rfl (fc (fv 0) (fc fe_int fa_nil))) fe_int) (fc (fe_opI0 op_add fe_int (fe_callB g_take hr (by omega) rfl (fc (fv 0) (fc fe_int fa_nil)))) fa_nil))))
 (fb_cons (fs_set (i:=5) sc_as_far.nd rfl (Or.inl rfl) (fe_call g_scaled_by hr (by omega) rfl (fc (fe_call g_joined hr (by omega) rfl (fc (fe_ix rfl (fv 2) (fe_neg fe_int) (fun _ _=>rfl)) (fc (fe_ix rfl (fv 2) (fe_neg fe_int) (fun _ _=>rfl)) fa_nil))) (fc (fe_tup (fc fe_int (fc fe_int fa_nil))) fa_nil))))
 (fb_cons (fs_set (i:=6) sc_as_far.nd rfl (Or.inl rfl) (fe_call g_joined hr (by omega) rfl (fc (fv 5) (fc (fe_call g_scaled_by hr (by omega) rfl (fc (fe_call g_to_left hr (by omega) rfl (fc (fv 3) fa_nil)) (fc (fv 4) fa_nil))) fa_nil))))
 (fb_one (fs_ret (fe_tup (fc (fe_ix rfl (fv 1) fe_int (fun _ _=>rfl)) (fc (fe_catG rfl (fe_sliceG rfl (fe_ix rfl (fv 1) fe_int (fun _ _=>rfl)) fo_none (fo_some (fe_neg fe_int))) (fe_tup (fc (fe_tup (fc fe_str (fc (fv 6) (fc (fe_ix rfl (fv 2) (fe_neg fe_int) (fun _ _=>rfl)) (fc (fe_ix rfl (fe_lst (fc fe_str (fc fe_str fa_nil))) (fe_callB g_take hr (by omega) rfl (fc (fv 0) (fc fe_int fa_nil))) (fun _ _=>rfl)) fa_nil))))) fa_nil))) fa_nil))))))))))) ?rd
 case len=>rintro as Q ⟨xs,n,a,b,ps,e,B,rfl,_⟩;rfl
 case rd=>
  rintro as Q ⟨xs,n,a,b,ps,e,B,rfl,hB,hn,po,he,hBB,q⟩
  have hl:=po.len
  have hl0:0<ps.length:=List.length_pos_iff.mpr po.ne
  refine ⟨rfl,?_⟩
  refine (?_:compL _ _ (ps.map pcT) _ _)
  refine compL_inv (fun i E=>∃v0,E=[v0,some (.o false ((ps.take i).map ptT))]) ⟨none,rfl⟩ ?_ ?_
  ·rintro i t rest E hi ⟨v0,rfl⟩ KK
   rw [List.getElem?_map] at hi
   cases hp:ps[i]? with
   | none=>rw [hp] at hi;cases hi
   | some p=>
    rw [hp] at hi;cases hi
    have il:=(List.getElem?_eq_some_iff.mp hp).1
    have e1:ps.take (i+1)=ps.take i++[p]:=by rw [List.take_add_one,hp];rfl
    have lp:((ps.take i).map ptT).length<1000:=by rw [List.length_map,List.length_take];omega
    have fin:=KK [some (.p (pcT p)),some (.o false ((ps.take i).map ptT++[ptT p]))] ⟨some (.p (pcT p)),by rw [e1,List.map_append];rfl⟩
    cases p with
    | side x y=>
     refine ⟨⟨by decide,by decide⟩,?_⟩
     show o1 (atI [L2.T.str "side",vc x y] (Int.fdiv (([L2.T.str "side",vc x y].length:Nat):Int) 2)) _
     rw [show Int.fdiv (([L2.T.str "side",vc x y].length:Nat):Int) 2=1 from (by decide:Int.fdiv ((2:Nat):Int) 2=1)]
     exact ⟨lp,fin⟩
    | arc m k x y l=>
     refine ⟨⟨by decide,by decide⟩,?_⟩
     show o1 (atI [L2.T.str "arc",vc m k,vc x y,.str (turnS l)] (Int.fdiv (([L2.T.str "arc",vc m k,vc x y,.str (turnS l)].length:Nat):Int) 2)) _
     rw [show Int.fdiv (([L2.T.str "arc",vc m k,vc x y,.str (turnS l)].length:Nat):Int) 2=2 from (by decide:Int.fdiv ((4:Nat):Int) 2=2)]
     exact ⟨lp,fin⟩
  rintro E ⟨v0,rfl⟩
  have et:ps.take (ps.map pcT).length=ps:=by rw [List.length_map,List.take_length]
  rw [et]
  have ends:=po.ends
  refine ⟨noLs_pts ps,by show 1+(ps.map ptT).length≤1000;rw [List.length_map];omega,?_⟩
  have eL:(fun x=>vc a b::x) []++ps.map ptT=vc a b::ps.map ptT:=rfl
  obtain ⟨u1,m1,h1⟩:=at_neg (L:=vc a b::ps.map ptT) (k:=1) (by decide) (by show 1≤_+1;omega)
  obtain ⟨u2,m2,h2⟩:=at_neg (L:=vc a b::ps.map ptT) (k:=2) (by decide) (by show 2≤(ps.map ptT).length+1;rw [List.length_map];omega)
  obtain ⟨px,py,rfl,nvp,dpx,dpy⟩:=ends u1 m1
  obtain ⟨qx,qy,rfl,nvq,dqx,dqy⟩:=ends u2 m2
  show o1 (atI (vc a b::ps.map ptT) (-((1:Nat):Int))) _
  rw [h1]
  show o1 (atI (vc a b::ps.map ptT) (-((2:Nat):Int))) _
  rw [h2]
  refine ⟨px,py,qx,qy,e,e,rfl,nvp,nvq,by omega,?_⟩
  refine ⟨xs,25,n,rfl,hB,by omega,by decide,by decide,fun r1 y1 r10 r11 b1=>?_⟩
  refine ⟨y1,24,n+1,rfl,b1,by omega,by decide,by decide,fun r2 y2 r20 r21 b2=>?_⟩
  have dz:1+r2≠0:=by omega
  refine ⟨r1-12,1+r2,rfl,dz,Nat.lt_of_le_of_lt (show (1+r2).natAbs≤24 by omega) (by decide +kernel),?_⟩
  have sn:Nrm (low (r1-12) (1+r2)):=low_nrm dz
  have ss:sz (low (r1-12) (1+r2))≤5:=sz_low dz (Nat.lt_of_le_of_lt (show (r1-12).natAbs≤12 by omega) (by decide)) (Nat.lt_of_le_of_lt (show (1+r2).natAbs≤24 by omega) (by decide)) (by decide)
  have sv:val (low (r1-12) (1+r2))=((r1-12:Int):Rat)/((1+r2:Int):Rat):=val_low dz
  generalize low (r1-12) (1+r2)=sh at sn ss sv ⊢
  show o1 (atI (vc a b::ps.map ptT) (-((2:Nat):Int))) _
  rw [h2]
  show o1 (atI (vc a b::ps.map ptT) (-((1:Nat):Int))) _
  rw [h1]
  have hn2:Nrm ((1,2):Fr):=⟨by decide,by decide⟩
  have hs2:sz ((1,2):Fr)≤2:=by decide
  have hv2:val ((1,2):Fr)=1/2:=by show ((1:Int):Rat)/((2:Int):Rat)=1/2;grind
  have n1:=nv_sum nvq nvp
  have n2:=nv_sc n1 hn2 hs2
  have n3:=nv_sub nvp nvq
  have n3':Nv (fneg (fsub py qy)) (fsub px qx) (e+e+1):=⟨nrm_neg n3.y,n3.x,by rw [sz_neg];exact n3.sy,n3.sx⟩
  have n4:=nv_sc n3' sn ss
  have n5:=nv_sum n2 n4
  refine ⟨qx,qy,px,py,e,e,rfl,nvq,nvp,by omega,?_⟩
  refine ⟨_,_,(1,2),e+e+1,rfl,n1,hn2,by omega,?_⟩
  refine ⟨_,_,rfl,?_⟩
  refine ⟨_,_,sh,e+e+1,rfl,n3',sn,by omega,?_⟩
  refine ⟨_,_,_,_,e+e+1+2,e+e+1+5,rfl,n2,n4,by omega,?_⟩
  have mv:Nv (fadd (fmul (fadd qx px) (1,2)) (fmul (fneg (fsub py qy)) sh)) (fadd (fmul (fadd qy py) (1,2)) (fmul (fsub px qx) sh)) 130:=by
   refine ⟨n5.x,n5.y,mid_sz hBB nvp.x nvq.x nvq.y nvp.y sn dpx dqx dqy dpy sv (by omega) (by omega) (by omega) n5.x ?_,mid_sz hBB nvp.y nvq.y nvp.x nvq.x sn dpy dqy dpx dqx sv (by omega) (by omega) (by omega) n5.y ?_⟩
   ·rw [val_add n2.x n4.x,val_mul n1.x hn2,val_add nvq.x nvp.x,val_mul n3'.x sn,val_neg n3.y,val_sub nvp.y nvq.y,hv2];grind
   ·rw [val_add n2.y n4.y,val_mul n1.y hn2,val_add nvq.y nvp.y,val_mul n3'.y sn,val_sub nvp.x nvq.x,hv2]
  generalize fadd (fmul (fadd qx px) (1,2)) (fmul (fneg (fsub py qy)) sh)=mx at mv ⊢
  generalize fadd (fmul (fadd qy py) (1,2)) (fmul (fsub px qx) sh)=my at mv ⊢
  show o1 (atI (vc a b::ps.map ptT) (-((1:Nat):Int))) _
  rw [h1]
  refine ⟨y2,2,n+1+1,rfl,b2,by omega,by decide,by decide,fun tn y3 t0 t1 b3=>?_⟩
  obtain ⟨A3,B3,C3,rfl,_⟩:=id b3
  obtain ⟨l,hl2⟩:∃l,atI [L2.T.str (Str.ofString "left"),.str (Str.ofString "right")] tn=some (.str (turnS l)):=by
   have:tn=0∨tn=1:=by omega
   rcases this with rfl | rfl
   ·exact ⟨true,rfl⟩
   ·exact ⟨false,rfl⟩
  show o1 (atI [L2.T.str (Str.ofString "left"),.str (Str.ofString "right")] tn) _
  rw [hl2]
  have ec:cutT (ps.map pcT) none (some (-1))=(ps.take (ps.length-1)).map pcT:=by rw [cut_last,List.length_map,List.map_take]
  have k:2^e≤2^150:=Nat.pow_le_pow_right (by decide) (by omega)
  have k':2^130≤2^150:=Nat.pow_le_pow_right (by decide) (by decide)
  refine ⟨by show (cutT (ps.map pcT) none (some (-1))).length+1≤900;rw [ec,List.length_map,List.length_take];omega,?_⟩
  have hno:noL (.tup [vc a b,.tup (cutT (ps.map pcT) none (some (-1))++[.tup [.str "arc",vc mx my,vc px py,.str (turnS l)]])])=true:=by
   rw [ec]
   show (true&&(noLs ((ps.take (ps.length-1)).map pcT++[pcT (.arc mx my px py l)])&&true))=true
   have e2:(ps.take (ps.length-1)).map pcT++[pcT (.arc mx my px py l)]=(ps.take (ps.length-1)++[Pc.arc mx my px py l]).map pcT:=by rw [List.map_append];rfl
   rw [e2,noLs_pcs];rfl
  refine ⟨hno,q _ _ ⟨Sm.pair (by decide) (sm_vc po.nv k (by decide)) (Sm.tup' (d:=3) ?_ (fun t mt=>?_) (by decide)),?_⟩ hno (b3.mono (by omega)) rfl⟩
  ·rw [ec,List.length_append,List.length_map,List.length_take];show _+1≤12;omega
  ·rcases List.mem_append.mp mt with z | z
   ·obtain ⟨p,mp,rfl⟩:=List.mem_map.mp (cutT_sub z)
    obtain ⟨x,y,_,ok⟩:=ch_mem po.nv po.ch mp
    exact sm_pc k (by decide) ok
   ·rw [List.mem_singleton.mp z]
    exact sm_arc mv (nvp.up he) k' (by decide)
  ·show 7+(nTs (cutT (ps.map pcT) none (some (-1))++[pcT (.arc mx my px py l)])+1+0)+1≤200
   rw [ec,nTs_app]
   have:=nTs_pcs (ps.take (ps.length-1))
   rw [List.length_take] at this
   show 7+(_+(17+0)+1+0)+1≤200
   omega
end
end My
set_option Elab.async false
set_option linter.all false
set_option maxRecDepth 100000
set_option maxHeartbeats 4000000
namespace My
open PySem L2 PyProof.Rows
section
variable {P:Program} {w:World} {K:PySem.W.Frag} {mg:Str→Option Value} {base:Heap}
theorem rep0 (k:Int):repT k [.int 0]=intsT (List.replicate k.toNat 0):=by
 unfold repT intsT
 generalize k.toNat=n
 induction n with
 | zero=>rfl
 | succ n ih=>rw [List.replicate_succ,List.flatten_cons,ih,List.replicate_succ,List.map_cons];rfl
theorem noL_ints:∀ns:List Int,noLs (intsT ns)=true
 | []=>rfl
 | _::ns=>by simp [intsT,noLs,noL];exact noL_ints ns
def tFolded:SpT:=fun as Q=>∃(ns:List Int) (m:Nat),as=[.v (.lst (intsT ns)),.v (.int (m:Int))]∧ns.length≤63∧2≤m∧m≤63∧∀cs:List Int,2≤cs.length→cs.length≤m→Q (.l (intsT cs)) []
abbrev s_folded:Stmt:=top 24
theorem sc_folded:FnScope ["_law_script","_law_many","_law_cells","_law_k","_law_cell"] ["_law_script","_law_many"] (defScope s_folded):=⟨rfl,rfl,rfl,by decide +kernel,rfl,by decide +kernel,by decide +kernel⟩
theorem ok_folded {f:Addr} {fd:FuncData} (F:Fun K "_law_folded" "_law_folded" s_folded f fd) (TX:Txt mg)    : FnOk P w K mg base CX0 1 f fd ["_law_script","_law_many"] (spOf K tFolded):=by
 refine F.okT sc_folded ?len (fun cdv A outer s H E hr=>(fb_cons (fs_set (i:=2) sc_folded.nd rfl (Or.inl rfl) (fe_listOf rfl rfl TX.n_list (fc (fe_sliceL rfl (fv 0) fo_none (fo_some (fv 1))) fa_nil)))
 (fb_cons (fs_for PassesOwn.never rfl (fi_enum rfl rfl TX.n_enumerate (fc (fe_sliceL rfl (fv 0) (fo_some (fv 1)) (fo_some fe_int)) fa_nil)) (fg_tup (n:=2) rfl rfl (fgs_cons (fg_name (i:=3) sc_folded.nd rfl (Or.inl rfl)) (fgs_cons (fg_name (i:=4) sc_folded.nd rfl (Or.inl rfl)) fgs_nil)))
  (fb_one (fs_asg (fe_opI0 op_add (fe_ix rfl (fv 2) (fe_opI op_mod (fv 3) (fv 1)) (fun _ _=>rfl)) (fe_opI op_mulA (fv 4) (fe_opI0 op_add (fv 3) fe_int))) (fg_sub (fv 2) (fe_opI op_mod (fv 3) (fv 1))))))
 (fb_one (fs_ret (fe_cat (fv 2) (fe_rep (fe_lst (fc fe_int fa_nil)) (fe_opI0 op_sub fe_int (fe_len rfl rfl TX.n_len (fc (fv 2) fa_nil)))))))))) ?rd
 case len=>rintro as Q ⟨ns,m,rfl,_⟩;rfl
 case rd=>
  rintro as Q ⟨ns,m,rfl,hl,hm2,hm,q⟩
  refine loopT_inv (fun i E=>∃(cs:List Int) (v3 v4:Option U),E=[some (.p (.lst (intsT ns))),some (.p (.int (m:Int))),some (.o false (intsT cs)),v3,v4]∧cs.length=(ns.take m).length)
   ⟨ns.take m,none,none,by rw [←cutT_to],rfl⟩ ?_ ?_
  ·rintro i x rest E hi ⟨cs,v3,v4,rfl,hc⟩ K
   obtain ⟨y,hy,rfl⟩:=enum_at hi
   obtain ⟨z,rfl⟩:∃z,y=T.int z:=by
    obtain ⟨z,_,e⟩:=List.mem_map.mp (cutT_sub (List.mem_of_getElem? hy))
    exact ⟨z,e.symm⟩
   have hilt:i<ns.length-m:=by
    have h1:=(List.getElem?_eq_some_iff.mp hy).1
    have h2:=cutT_len (intsT ns) m 63
    simp [intsT] at h2
    exact Nat.lt_of_lt_of_le h1 h2
   have hcl:cs.length=m:=by rw [hc,List.length_take];omega
   have em:((i:Int)%(m:Int))=((i%m:Nat):Int):=rfl
   have hj:i%m<cs.length:=by rw [hcl];exact Nat.mod_lt _ (by omega)
   have hat:atI (intsT cs) ((i:Int)%(m:Int))=some (T.int cs[i%m]):=by
    rw [em];exact atI_nat (by rw [intsT,List.getElem?_map,List.getElem?_eq_getElem hj];rfl)
   have hix:ixN (intsT cs).length ((i:Int)%(m:Int))=some (i%m):=by
    rw [em]
    unfold ixN
    rw [if_pos (by omega),if_pos (by simp [intsT];omega),Int.toNat_natCast]
   have hmp:(fun (_ j:Int)=>0<j) (i:Int) (m:Int):=by show (0:Int)<(m:Int);omega
   refine ⟨hmp,?_⟩
   show o1 (atI (intsT cs) ((i:Int)%(m:Int))) _
   rw [hat]
   refine ⟨mulR (by omega),hmp,?_⟩
   show o1 (ixN (intsT cs).length ((i:Int)%(m:Int))) _
   rw [hix]
   have e:intsT (cs.set (i%m) (cs[i%m]+z*((i:Int)+2)))=(intsT cs).set (i%m) (.int (cs[i%m]+z*((i:Int)+2))):=by rw [intsT,intsT,List.map_set]
   exact K _ ⟨cs.set (i%m) (cs[i%m]+z*((i:Int)+2)),some (.p (.int (i:Int))),some (.p (.int z)),by rw [e];rfl,by rw [List.length_set];exact hc⟩
  ·rintro E ⟨cs,v3,v4,rfl,hc⟩
   have hcm:cs.length≤m:=by rw [hc,List.length_take];omega
   have lc:((intsT cs).length:Int)=cs.length:=by simp [intsT]
   refine ⟨⟨?_,?_,?_⟩,?_,?_,?_⟩
   ·show -(2^63:Int)≤2-((intsT cs).length:Int);omega
   ·show 2-((intsT cs).length:Int)<2^63;omega
   ·show 1*(2-((intsT cs).length:Int)).toNat≤1000;omega
   ·show (intsT cs).length+(repT (2-((intsT cs).length:Int)) [.int 0]).length≤1000
    rw [rep0];simp [intsT];omega
   ·show noLs (intsT cs++repT (2-((intsT cs).length:Int)) [.int 0])=true
    rw [rep0,show intsT cs++intsT (List.replicate (2-((intsT cs).length:Int)).toNat 0)=intsT (cs++List.replicate (2-((intsT cs).length:Int)).toNat 0) by simp [intsT]]
    exact noL_ints _
   ·show Q (.l (intsT cs++repT (2-((intsT cs).length:Int)) [.int 0])) []
    rw [rep0,show intsT cs++intsT (List.replicate (2-((intsT cs).length:Int)).toNat 0)=intsT (cs++List.replicate (2-((intsT cs).length:Int)).toNat 0) by simp [intsT]]
    refine q _ ?_ ?_
    ·rw [List.length_append,List.length_replicate];omega
    ·rw [List.length_append,List.length_replicate];omega
end
end My
set_option Elab.async false
set_option linter.all false
set_option maxRecDepth 100000
set_option maxHeartbeats 4000000
namespace My
open PySem L2 PyProof.Rows
section
variable {P:Program} {w:World} {K:PySem.W.Frag} {mg:Str→Option Value} {base:Heap}
theorem Sm.sh {B w:Nat} (hB:B<2^199):∀{d:Nat} {t:L2.T},Sm B w d t→shT t=true
 | d,.int i,h=>by
  have h:=h.of_int
  show decide (i.natAbs.log2<1920)=true
  rw [decide_eq_true_eq]
  by_cases z:i.natAbs=0
  ·rw [z];decide
  ·have:=(Nat.log2_lt z (k:=199)).mpr (by omega)
   omega
 | d,.bl _,_=>rfl
 | d,.non,_=>rfl
 | d,.str _,_=>rfl
 | 0,.tup _,h=>h.elim
 | 0,.lst _,h=>h.elim
 | d+1,.tup xs,h=>by
  have key:∀ys:List L2.T,(∀y∈ys,shT y=true)→shTs ys=true:=fun ys=>by
   induction ys with
   | nil=>intro _;rfl
   | cons y ys ih=>intro k;show (shT y&&shTs ys)=true;rw [k y (by simp),ih fun z m=>k z (by simp [m])];rfl
  exact key xs fun y m=>(h.2 y m).sh hB
 | d+1,.lst xs,h=>by
  have key:∀ys:List L2.T,(∀y∈ys,shT y=true)→shTs ys=true:=fun ys=>by
   induction ys with
   | nil=>intro _;rfl
   | cons y ys ih=>intro k;show (shT y&&shTs ys)=true;rw [k y (by simp),ih fun z m=>k z (by simp [m])];rfl
  exact key xs fun y m=>(h.2 y m).sh hB
theorem Sm.len {B w:Nat} (hw:w≤100):∀{d:Nat} {t:L2.T},Sm B w d t→lenB t+2≤2000*nT t
 | d,.int i,h=>by show 1921+2≤2000*1;decide
 | d,.bl _,_=>by show 5+2≤2000*1;decide
 | d,.non,_=>by show 4+2≤2000*1;decide
 | d,.str x,h=>by
  obtain ⟨h1,h2⟩:=h.of_str
  have:=PySem.StrLaws.reprText_len x h2
  show (reprText x).length+2≤2000*1
  omega
 | 0,.tup _,h=>h.elim
 | 0,.lst _,h=>h.elim
 | d+1,.tup xs,h=>by
  have key:∀ys:List L2.T,(∀y∈ys,lenB y+2≤2000*nT y)→lenBs ys≤2000*nTs ys:=fun ys=>by
   induction ys with
   | nil=>intro _;exact Nat.zero_le _
   | cons y ys ih=>
    intro k
    have h1:=k y (by simp)
    have h2:=ih fun z m=>k z (by simp [m])
    show lenB y+2+lenBs ys≤2000*(nT y+nTs ys)
    omega
  have:=key xs fun y m=>(h.2 y m).len hw
  show lenBs xs+3+2≤2000*(nTs xs+1)
  omega
 | d+1,.lst xs,h=>by
  have key:∀ys:List L2.T,(∀y∈ys,lenB y+2≤2000*nT y)→lenBs ys≤2000*nTs ys:=fun ys=>by
   induction ys with
   | nil=>intro _;exact Nat.zero_le _
   | cons y ys ih=>
    intro k
    have h1:=k y (by simp)
    have h2:=ih fun z m=>k z (by simp [m])
    show lenB y+2+lenBs ys≤2000*(nT y+nTs ys)
    omega
  have:=key xs fun y m=>(h.2 y m).len hw
  show lenBs xs+3+2≤2000*(nTs xs+1)
  omega
def As (t:L2.T):Prop:=Ok (2^160) 40 20 900 t
def tAsk:SpT:=fun as Q=>∃t:L2.T,as=[.v t]∧As t∧Q (.v (.bl true)) []
abbrev s_asked:Stmt:=top 54
theorem sc_asked:FnScope ["_law_thing","_law_kept","_law_one","_law_other"] ["_law_thing"] (defScope s_asked):=⟨rfl,rfl,rfl,by decide +kernel,rfl,by decide +kernel,by decide +kernel⟩
theorem ok_asked {f:Addr} {fd:FuncData} (F:Fun K "_law_asked" "_law_asked" s_asked f fd) (TX:Txt mg) (g_is_path:Fn P w K mg base 7 "is_path" ["thing"] (spOf K tPathA)) (g_is_fraction:Fn P w K mg base 2 "is_fraction" ["thing"] (spOf K tFracA)) (g_lis_path:Fn P w K mg base 6 "_law_is_path" ["_law_thing"] (spOf K tPathL)) (g_lis_fraction:Fn P w K mg base 2 "_law_is_fraction" ["_law_thing"] (spOf K tFracL))   : FnOk P w K mg base CX0 8 f fd ["_law_thing"] (spOf K tAsk):=by
 refine F.okT sc_asked ?len (fun cdv A outer s H E hr=>(fb_cons (fs_set (i:=1) sc_asked.nd rfl (Or.inl rfl) (fe_strA rfl hr rfl TX.n_str (fc (fv 0) fa_nil)))
 (fb_cons (fs_par (i:=2) (j:=3) rfl sc_asked.nd rfl rfl (by decide) rfl rfl (fc (fe_call g_is_path hr (by omega) rfl (fc (fv 0) fa_nil)) (fc (fe_call g_is_fraction hr (by omega) rfl (fc (fv 0) fa_nil)) fa_nil)) rfl)
 (fb_cons (fs_if (ft_w (fw_or (ft_not (ft_val (fe_isi k_bool rfl rfl TX.n_isinstance (fv 2) rfl TX.n_bool bt_bool (by decide)))) (fw_or (ft_not (ft_val (fe_isi k_bool rfl rfl TX.n_isinstance (fv 3) rfl TX.n_bool bt_bool (by decide)))) (fw_or1 (ft_ne rfl hr (fe_strA rfl hr rfl TX.n_str (fc (fv 0) fa_nil)) (fv 1) (nomark _)))))) (fb_one (fs_ret fe_bl)) fb_nil)
 (fb_one (fs_ret (fe_and (fe_eq rfl hr (fv 2) (fe_call g_lis_path hr (by omega) rfl (fc (fv 0) fa_nil)) (nomark _)) (fe_one (fe_eq rfl hr (fv 3) (fe_call g_lis_fraction hr (by omega) rfl (fc (fv 0) fa_nil)) (nomark _)))))))))) ?rd
 case len=>rintro as Q ⟨t,rfl,_⟩;rfl
 case rd=>
  rintro as Q ⟨t,rfl,⟨hs,hN⟩,q⟩
  have b199:2^160<2^199:=Nat.pow_lt_pow_right (by decide) (by decide)
  have dt:=hs.dT
  have sm:=hs.smT b199
  have sh:=hs.sh b199
  have ln:=hs.len (by decide)
  refine ⟨sh,by omega,by omega,fun z hz=>?_⟩
  refine ⟨t,rfl,by omega,sm,fun k1 hk1=>?_⟩
  refine ⟨t,rfl,?_⟩
  refine ⟨sh,by omega,by omega,fun z2 hz2=>?_⟩
  subst hz
  subst hz2
  refine ⟨Nat.zero_le _,?_⟩
  show if (!(L2.eqT (.str (shwA t)) (.str (shwA t))))=true then _ else _
  rw [eqT_refl,if_neg (by decide)]
  refine ⟨t,rfl,by omega,sm,fun k2 hk2=>⟨Nat.zero_le _,?_⟩⟩
  have e:k2=k1:=by rw [Bool.eq_iff_iff,hk1,hk2]
  subst e
  show if L2.eqT (.bl k2) (.bl k2)=true then _ else _
  rw [eqT_refl,if_pos rfl]
  refine ⟨t,rfl,sm,Nat.zero_le _,rfl,?_⟩
  rw [eqT_refl]
  exact q
end
end My
set_option Elab.async false
set_option linter.all false
set_option maxRecDepth 100000
set_option maxHeartbeats 4000000
namespace My
open PySem L2 PyProof.Rows
section
variable {P:Program} {w:World} {K:PySem.W.Frag} {mg:Str→Option Value} {base:Heap}
def rwP:Pc→Rw
 | .side x y=>.side x y
 | .arc m n x y l=>.arc m n x y (turnS l)
theorem asFr_fr {x:Fr} (h:Nrm x):asFr (fr x)=some x:=if_pos ⟨h.d,h.g⟩
theorem asPt_vc {x y:Fr} (hx:Nrm x) (hy:Nrm y):asPt (vc x y)=some (x,y):=by
 show (match asFr (fr x),asFr (fr y) with
  | some x,some y=>some (x,y)
  | _,_=>none)=_
 rw [asFr_fr hx,asFr_fr hy]
theorem asPc_pc {e:Nat} {a b:Fr}:∀{p:Pc},okPc e a b p→asPc (pcT p)=some (rwP p)
 | .side x y,h=>by
  have e2:=asPt_vc h.1.x h.1.y
  have e1:isSd (.str "side")=true:=by decide
  show asPc (.tup [.str "side",vc x y])=_
  simp only [asPc,e1,e2];rfl
 | .arc m n x y l,h=>by
  have e2:=asPt_vc h.1.x h.1.y
  have e3:=asPt_vc h.2.1.x h.2.1.y
  have e1:isAc (.str "arc")=true:=by decide
  have e4:asTn (.str (turnS l))=some (turnS l):=by cases l<;>decide
  show asPc (.tup [.str "arc",vc m n,vc x y,.str (turnS l)])=_
  simp only [asPc,e1,e2,e3,e4];rfl
theorem far2_self (a b:Fr):far2 a b a b=0:=by unfold far2;grind
theorem beg_pc {e:Nat} {a b:Fr}:∀{p:Pc},okPc e a b p→begR a b (rwP p)
 | .side x y,⟨_,r,r0,h⟩=>⟨fun ⟨h1,h2⟩=>by
   rw [h1,h2,far2_self] at h
   have:=Rat.mul_pos r0 r0
   grind,r,h⟩
 | .arc m n x y l,⟨_,_,ne,r,r0,h1,h2⟩=>⟨ne,r,by grind,h1,h2⟩
theorem pxR (p:Pc):(rwP p).px=p.px∧(rwP p).py=p.py:=by cases p<;>exact ⟨rfl,rfl⟩
theorem chA_chain {e:Nat}:∀{ps:List Pc} {a b:Fr},chainP e a b ps→chA a b (ps.map pcT)
 | [],_,_,_=>trivial
 | p::ps,a,b,h=>⟨rwP p,asPc_pc h.1,beg_pc h.1,by rw [(pxR p).1,(pxR p).2];exact chA_chain h.2⟩
theorem isPA_path {e:Nat} {a b:Fr} {ps:List Pc} (hv:Nv a b e) (hn:ps≠[]) (h:chainP e a b ps):isPA (pathT a b ps):=
 ⟨fun z=>hn (List.map_eq_nil_iff.mp z),a,b,asPt_vc hv.x hv.y,chA_chain h⟩
theorem As.of {B w d N:Nat} {t:L2.T} (h:Ok B w d N t) (h1:B≤2^160) (h2:w≤40) (h3:d≤20) (h4:N≤900):As t:=⟨h.s.up h1 h2 h3,Nat.le_trans h.n h4⟩
def Pth (t:L2.T):Prop:=∃(a b:Fr) (ps:List Pc) (e B:Nat),t=pathT a b ps∧PO e B a b ps∧e≤130∧B<2^115
def tLaw:SpT:=fun as Q=>∃ns:List Int,as=[.v (.lst (intsT ns))]∧ns.length≤63∧Q (.v (.bl true)) []
abbrev s_law:Stmt:=top 55
theorem sc_law:FnScope ["_law_script","_law_cells","_law_k","_law_box","_law_path","_law_things","_law_turn","_law_thing","_law_bent"] ["_law_script"] (defScope s_law):=⟨rfl,rfl,rfl,by decide +kernel,rfl,by decide +kernel,by decide +kernel⟩
theorem ok_law {f:Addr} {fd:FuncData} (F:Fun K "law" "law" s_law f fd) (TX:Txt mg) (g_folded:Fn P w K mg base 1 "_law_folded" ["_law_script","_law_many"] (spOf K tFolded)) (g_box_of:Fn P w K mg base 1 "_law_box_of" ["_law_script","_law_k"] (spOf K tBoxOf)) (g_take:Fn P w K mg base 1 "_law_take" ["_law_box","_law_many"] (spOf K tTake)) (g_path_by:Fn P w K mg base 5 "_law_path_by" ["_law_box","_law_most"] (spOf K tPathBy)) (g_great:Fn P w K mg base 4 "_law_great" ["_law_path"] (spOf K tGreat)) (g_is_path:Fn P w K mg base 7 "is_path" ["thing"] (spOf K tPathA)) (g_lis_path:Fn P w K mg base 6 "_law_is_path" ["_law_thing"] (spOf K tPathL)) (g_spoilt:Fn P w K mg base 14 "_law_spoilt" ["_law_box","_law_thing"] (spOfL K tSpo)) (g_as_far:Fn P w K mg base 4 "_law_as_far" ["_law_box","_law_path"] (spOf K tFar)) (g_asked:Fn P w K mg base 8 "_law_asked" ["_law_thing"] (spOf K tAsk))   : FnOk P w K mg base CX0 15 f fd ["_law_script"] (spOf K tLaw):=by
  refine F.okT sc_law ?len (fun cdv A outer s H E hr=>(fb_cons (fs_set (i:=1) sc_law.nd rfl (Or.inl rfl) (fe_call g_folded hr (by omega) rfl (fc (fv 0) (fc fe_int fa_nil))))
  (fb_cons (fs_for PassesOwn.never rfl (fi_range1 rfl TX.n_range (fc (fe_len rfl rfl TX.n_len (fc (fv 1) fa_nil)) fa_nil)) (fg_name (i:=2) sc_law.nd rfl (Or.inl rfl))
    (fb_cons (fs_set (i:=3) sc_law.nd rfl (Or.inl rfl) (fe_call g_box_of hr (by omega) rfl (fc (fv 1) (fc (fv 2) fa_nil))))
  (fb_cons (fs_set (i:=4) sc_law.nd rfl (Or.inl rfl) (fe_callB g_path_by hr (by omega) rfl (fc (fv 3) (fc (fe_if (ft_eq rfl hr (fe_callB g_take hr (by omega) rfl (fc (fv 3) (fc fe_int fa_nil))) fe_int (nomark _)) fe_int fe_int) fa_nil))))
  (fb_cons (fs_set (i:=4) sc_law.nd rfl (Or.inl rfl) (fe_if (ft_eq rfl hr (fe_callB g_take hr (by omega) rfl (fc (fv 3) (fc fe_int fa_nil))) fe_int (nomark _)) (fe_call g_great hr (by omega) rfl (fc (fv 4) fa_nil)) (fv 4)))
  (fb_cons (fs_if (ft_w (fw_or (ft_notB (fe_call g_is_path hr (by omega) rfl (fc (fv 4) fa_nil)) (nomark _)) (fw_or1 (ft_not (ft_val (fe_call g_lis_path hr (by omega) rfl (fc (fv 4) fa_nil))))))) (fb_one (fs_ret fe_bl)) fb_nil)
  (fb_cons (fs_set (i:=5) sc_law.nd rfl (Or.inl rfl) (fe_lstF (fc (fv 4) (fc (fe_ix rfl (fv 4) fe_int (fun _ _=>rfl)) (fc (fe_ix rfl (fv 4) fe_int (fun _ _=>rfl)) (fc (fe_ix rfl (fe_ix rfl (fv 4) fe_int (fun _ _=>rfl)) fe_int (fun _ _=>rfl)) (fc (fe_ix rfl (fe_ix rfl (fv 4) fe_int (fun _ _=>rfl)) fe_int (fun _ _=>rfl)) (fc (fe_listOf rfl rfl TX.n_list (fc (fv 4) fa_nil)) (fc (fe_tup (fc (fe_ix rfl (fv 4) fe_int (fun _ _=>rfl)) (fc (fe_tup fa_nil) fa_nil))) (fc (fe_tupF (fc (fe_ix rfl (fv 4) fe_int (fun _ _=>rfl)) (fc (fe_listOf rfl rfl TX.n_list (fc (fe_ix rfl (fv 4) fe_int (fun _ _=>rfl)) fa_nil)) fa_nil))) fa_nil))))))))))
  (fb_cons (fs_for PassesOwn.never rfl (fi_range1 rfl TX.n_range (fc fe_int fa_nil)) (fg_name (i:=6) sc_law.nd rfl (Or.inl rfl))
    (fb_cons (fs_set (i:=8) sc_law.nd rfl (Or.inl rfl) (fe_callZ g_spoilt hr (by omega) rfl (fc (fv 3) (fc (fv 4) fa_nil))))
  (fb_one (fs_set (i:=5) sc_law.nd rfl (Or.inl rfl) (fe_catV rfl (fv 5) (fe_lst (fc (fv 8) (fc (fe_callZ g_spoilt hr (by omega) rfl (fc (fv 3) (fc (fv 8) fa_nil))) fa_nil))))))))
  (fb_cons (fs_for PassesOwn.never rfl (fi_range1 rfl TX.n_range (fc fe_int fa_nil)) (fg_name (i:=6) sc_law.nd rfl (Or.inl rfl))
    (fb_one (fs_set (i:=5) sc_law.nd rfl (Or.inl rfl) (fe_catV rfl (fv 5) (fe_lst (fc (fe_callZ g_spoilt hr (by omega) rfl (fc (fv 3) (fc (fe_ix rfl (fe_ix rfl (fv 4) fe_int (fun _ _=>rfl)) (fe_opI op_mod (fv 6) fe_int) (fun _ _=>rfl)) fa_nil))) (fc (fe_callB g_as_far hr (by omega) rfl (fc (fv 3) (fc (fv 4) fa_nil))) fa_nil)))))))
  (fb_one (fs_for PassesOwn.never rfl (fi_list rfl (fe_catV rfl (fv 5) (fe_lstF (fc fe_non (fc fe_bl (fc fe_int (fc fe_str (fc (fe_tup fa_nil) (fc (fe_lst fa_nil) (fc (fe_tup (fc fe_int (fc fe_int fa_nil))) (fc (fe_tup (fc fe_int (fc fe_int fa_nil))) (fc (fe_tup (fc fe_str (fc (fe_tup (fc fe_int (fc fe_int fa_nil))) fa_nil))) fa_nil)))))))))))) (fg_name (i:=7) sc_law.nd rfl (Or.inl rfl))
    (fb_one (fs_if (ft_not (ft_val (fe_call g_asked hr (by omega) rfl (fc (fv 7) fa_nil)))) (fb_one (fs_ret fe_bl)) fb_nil))))))))))))
  (fb_one (fs_ret fe_bl))))) ?rd
  case len=>rintro as Q ⟨ns,rfl,_⟩;rfl
  case rd=>
    rintro as Q ⟨ns,rfl,hl,q⟩
    refine ⟨ns,4,rfl,hl,by decide,by decide,fun cs c2 c4=>?_⟩
    have lc:((intsT cs).length:Int)=cs.length:=by simp [intsT]
    refine ⟨⟨by rw [lc];omega,by rw [lc];omega⟩,?_⟩
    refine loopT_inv (fun i E=>∃(v0 v2 v3 v4 v5 v6 v7 v8:Option U),E=[v0,some (.o false (intsT cs)),v2,v3,v4,v5,v6,v7,v8]) ⟨_,_,_,_,_,_,_,_,rfl⟩ ?_ ?_
    · rintro i t rest E hi ⟨v0,v2,v3,v4,v5,v6,v7,v8,rfl⟩ KK
      obtain ⟨hin,rfl⟩:=rng_at hi
      rw [lc,Int.toNat_natCast] at hin
      refine ⟨cs,_,rfl,by omega,by omega,fun xs bx nl=>?_⟩
      refine ⟨xs,12,0,rfl,bx,by decide,by decide,by decide,fun r y1 r0 r1 b1=>⟨Nat.zero_le _,?_⟩⟩
      show if L2.eqT (.int r) (.int 0)=true then _ else _
      refine if_join (fun u=>∃k:Int,u = .p (.int k)∧1≤k∧k≤9) ?_ ?_ ?_
      · intro _ κ' J
        exact J (.p (.int 9)) ⟨9,rfl,by decide,by decide⟩
      · intro _ κ' J
        exact J (.p (.int 4)) ⟨4,rfl,by decide,by decide⟩
      rintro u ⟨k,rfl,k1,k9⟩
      refine ⟨y1,0+1,k,rfl,b1,by decide,k1,k9,fun a b ps ys st hn hl10 ch b2 nl2=>?_⟩
      have po:PO 14 16000 a b ps:=⟨st.1.up (by decide),hn,hl10,ch.1,ch.2.1,ch.2.2.1,ch.2.2.2⟩
      refine ⟨ys,8,0+1+70,rfl,b2,by decide,by decide,by decide,fun r2 y2 r20 r21 b3=>⟨Nat.zero_le _,?_⟩⟩
      show if L2.eqT (.int r2) (.int 0)=true then _ else _
      refine if_join (fun u=>∃t,u = .p t∧Pth t) ?_ ?_ ?_
      · intro _ κ' J
        refine ⟨a,b,ps,rfl,po,?_⟩
        exact J _ ⟨_,rfl,gr a,gr b,ps.map grP,114,16000*(10^30+1),rfl,po.great,by decide,by decide⟩
      · intro _ κ' J
        exact J _ ⟨_,rfl,a,b,ps,14,16000,rfl,po,by decide,by decide⟩
      rintro u ⟨t,rfl,a,b,ps,e,B,rfl,po,he,hB⟩
      have okp:=po.ok he
      have b199:2^150<2^199:=Nat.pow_lt_pow_right (by decide) (by decide)
      have ip:=isPA_path po.nv po.ne po.ch
      refine ⟨_,rfl,Nat.le_trans okp.s.dT (by decide),okp.s.smT b199,fun k hk=>?_⟩
      obtain rfl:=hk.mpr ip
      refine ⟨_,rfl,Nat.le_trans okp.s.dT (by decide),okp.s.smT b199,fun k hk=>?_⟩
      obtain rfl:=hk.mpr ip
      obtain ⟨p0,ps0,hps⟩:∃p0 ps0,ps=p0::ps0:=by
        cases ps with
        | nil=>exact absurd rfl po.ne
        | cons p0 ps0=>exact ⟨p0,ps0,rfl⟩
      have hat0:atI (ps.map pcT) 0=some (pcT p0):=by rw [hps];exact atI_nat (xs:=(p0::ps0).map pcT) (j:=0) rfl
      show o1 (atI (ps.map pcT) 0) _
      rw [hat0]
      refine ⟨⟨by decide,by decide⟩,?_⟩
      have hl:=po.len
      have up:∀{d:Nat} {t:L2.T},d≤20→Sm (2^150) 12 d t→Sm (2^160) 40 20 t:=fun h k=>k.up (Nat.pow_le_pow_right (by decide) (by decide)) (by decide) h
      have up':∀{d:Nat} {t:L2.T},d≤19→Sm (2^150) 12 d t→Sm (2^160) 40 19 t:=fun h k=>k.up (Nat.pow_le_pow_right (by decide) (by decide)) (by decide) h
      have hvc:Sm (2^150) 12 4 (vc a b):=okp.s.2 _ (by simp)
      have hpt:Sm (2^150) 12 4 (.tup (ps.map pcT)):=okp.s.2 _ (by simp)
      have hfa:Sm (2^150) 12 3 (fr a):=hvc.2 _ (by simp)
      have hfb:Sm (2^150) 12 3 (fr b):=hvc.2 _ (by simp)
      have nps:=nTs_pcs ps
      have lmap:(ps.map pcT).length≤40:=by rw [List.length_map];omega
      have all8:allP As [pathT a b ps,vc a b,.tup (ps.map pcT),fr a,pcT p0,.lst [vc a b,.tup (ps.map pcT)],.tup [vc a b,.tup []],.tup [vc a b,.lst (ps.map pcT)]]:=
        ⟨⟨up (by decide) okp.s,Nat.le_trans okp.n (by decide)⟩,⟨up (by decide) hvc,by show 7≤900;decide⟩,⟨up (by decide) hpt,by show nTs (ps.map pcT)+1≤900;omega⟩,⟨up (by decide) hfa,by show 3≤900;decide⟩,
         ⟨up (by decide) (hpt.2 (pcT p0) (by rw [hps];simp)),Nat.le_trans (nT_pc p0) (by decide)⟩,
         ⟨⟨le_ok rfl,allP.mem ⟨up' (by decide) hvc,up' (by decide) hpt,trivial⟩⟩,by show 7+(nTs (ps.map pcT)+1+0)+1≤900;omega⟩,
         ⟨Sm.pair (by decide) (up' (by decide) hvc) ⟨by decide,fun _ m=>by cases m⟩,by show 7+(0+1+0)+1≤900;decide⟩,
         ⟨Sm.pair (by decide) (up' (by decide) hvc) ⟨lmap,fun x m=>(hpt.2 x m).up (Nat.pow_le_pow_right (by decide) (by decide)) (by decide) (by decide)⟩,by show 7+(nTs (ps.map pcT)+1+0)+1≤900;omega⟩,trivial⟩
      refine loopT_inv (fun i E=>∃(w0 w2 w6 w7 w8:Option U) (zs L:List L2.T),E=[w0,some (.o false (intsT cs)),w2,some (.o false zs),some (.p (pathT a b ps)),some (.o false L),w6,w7,w8]∧L.length=8+2*i∧(∀t∈L,As t)∧Bx zs (72+6*i)) ⟨_,_,_,_,_,_,_,rfl,rfl,all8.mem,b3.mono (by decide)⟩ ?_ ?_
      · rintro i1 t1 rest1 E hi1 ⟨w0,w2,w6,w7,w8,zs,L,rfl,hL,hA,bz⟩ KK1
        have i16:i1<16:=(List.getElem?_eq_some_iff.mp hi1).1
        refine ⟨zs,_,pathT a b ps,2^150,12,5,200,rfl,bz,by omega,okp,by decide,by decide,by decide,by decide,by decide,fun t1 z1 o1' b1'=>?_⟩
        refine ⟨z1,_,t1,3*2^150+5,12+1,5+4,2*200+6,rfl,b1',by omega,o1',by decide,by decide,by decide,by decide,by decide,fun t2 z2 o2 b2'=>?_⟩
        refine ⟨by show L.length+2≤1000;omega,?_⟩
        refine KK1 _ ⟨_,_,_,_,_,_,L++[t1,t2],rfl,by rw [List.length_append];show _+2=_;omega,fun t mt=>?_,b2'.mono (by push_cast;omega)⟩
        rcases List.mem_append.mp mt with z | z
        · exact hA t z
        · exact allP.mem (P:=As) (xs:=[t1,t2]) ⟨As.of o1' (by decide) (by decide) (by decide) (by decide),As.of o2 (by decide) (by decide) (by decide) (by decide),trivial⟩ t z
      rintro E ⟨w0,w2,w6,w7,w8,zs,L,rfl,hL,hA,bz⟩
      have e16:(rngT 0 (16:Int).toNat).length=16:=by decide
      rw [e16] at hL bz
      refine ⟨⟨by decide,by decide⟩,?_⟩
      refine loopT_inv (fun i E=>∃(w0 w2 w6 w7 w8:Option U) (zs L:List L2.T),E=[w0,some (.o false (intsT cs)),w2,some (.o false zs),some (.p (pathT a b ps)),some (.o false L),w6,w7,w8]∧L.length=40+2*i∧(∀t∈L,As t)∧Bx zs (168+6*i)) ⟨_,_,_,_,_,_,_,rfl,hL,hA,bz.mono (by decide)⟩ ?_ ?_
      · rintro i1 t1 rest1 E hi1 ⟨w0,w2,w6,w7,w8,zs,L,rfl,hL,hA,bz⟩ KK1
        obtain ⟨hin1,rfl⟩:=rng_at hi1
        have i4:i1<4:=(List.getElem?_eq_some_iff.mp hi1).1
        obtain ⟨x,hx,okx⟩:∃x,atI [fr a,fr b] ((0+(i1:Int))%2)=some x∧Ok (2^150) 12 3 3 x:=by
          have:(0+(i1:Int))%2=0∨(0+(i1:Int))%2=1:=by omega
          rcases this with h | h
          · rw [h];exact ⟨fr a,rfl,hfa,Nat.le_refl _⟩
          · rw [h];exact ⟨fr b,rfl,hfb,Nat.le_refl _⟩
        refine ⟨by show (0:Int)<2;decide,?_⟩
        show o1 (atI [fr a,fr b] ((0+(i1:Int))%2)) _
        rw [hx]
        refine ⟨zs,_,x,2^150,12,3,3,rfl,bz,by omega,okx,by decide,by decide,by decide,by decide,by decide,fun t1 z1 o1' b1'=>?_⟩
        refine ⟨z1,_,a,b,ps,e,B,rfl,b1',by omega,po,he,hB,fun t2 z2 o2 nl' b2' nlz=>?_⟩
        refine ⟨by show L.length+2≤1000;omega,?_⟩
        refine KK1 _ ⟨_,_,_,_,_,_,L++[t1,t2],rfl,by rw [List.length_append];show _+2=_;omega,fun t mt=>?_,b2'.mono (by push_cast;omega)⟩
        rcases List.mem_append.mp mt with z | z
        · exact hA t z
        · exact allP.mem (P:=As) (xs:=[t1,t2]) ⟨As.of o1' (by decide) (by decide) (by decide) (by decide),As.of o2 (by decide) (by decide) (by decide) (by decide),trivial⟩ t z
      rintro E ⟨w0,w2,w6,w7,w8,zs,L,rfl,hL,hA,bz⟩
      have e4:(rngT 0 (4:Int).toNat).length=4:=by decide
      rw [e4] at hL bz
      refine ⟨by show L.length+9≤1000;omega,?_⟩
      have one:∀d,Sm (2^160) 40 d (.int 1):=fun d=>Sm.int (by decide)
      have nil:∀d,Sm (2^160) 40 d (.int 0):=fun d=>Sm.int (by decide)
      have all9:allP As [.non,.bl true,.int 0,.str "",.tup [],.lst [],.tup [.int 1,.int 1],.tup [.int 0,.int 0],.tup [.str "side",.tup [.int 1,.int 1]]]:=
        ⟨⟨Sm.non,by show 1≤900;decide⟩,⟨Sm.bl,by show 1≤900;decide⟩,⟨nil _,by show 1≤900;decide⟩,⟨Sm.word (by decide) (by decide),by show 1≤900;decide⟩,⟨⟨by decide,fun _ m=>by cases m⟩,by show 0+1≤900;decide⟩,⟨⟨by decide,fun _ m=>by cases m⟩,by show 0+1≤900;decide⟩,
         ⟨Sm.pair (by decide) (one _) (one _),by show 3≤900;decide⟩,⟨Sm.pair (by decide) (nil _) (nil _),by show 3≤900;decide⟩,⟨Sm.pair (by decide) (Sm.word (by decide) (by decide)) (Sm.pair (by decide) (one _) (one _)),by show 5≤900;decide⟩,trivial⟩
      obtain ⟨M,hM⟩:∃M,M=L++[.non,.bl true,.int 0,.str "",.tup [],.lst [],.tup [.int 1,.int 1],.tup [.int 0,.int 0],.tup [.str "side",.tup [.int 1,.int 1]]]:=⟨_,rfl⟩
      have hMA:∀t∈M,As t:=fun t mt=>by
        rw [hM] at mt
        rcases List.mem_append.mp mt with z | z
        · exact hA t z
        · exact all9.mem t z
      refine (?_:loopT (kName 7) _ _ (L++[.non,.bl true,.int 0,.str "",.tup [],.lst [],.tup [.int 1,.int 1],.tup [.int 0,.int 0],.tup [.str "side",.tup [.int 1,.int 1]]]) _)
      rw [←hM]
      refine loopT_inv (fun i E=>∃(v0 v2 v3 v4 v5 v6 v7 v8:Option U),E=[v0,some (.o false (intsT cs)),v2,v3,v4,v5,v6,v7,v8]) ⟨_,_,_,_,_,_,_,_,rfl⟩ ?_ ?_
      · rintro i1 t1 rest1 E hi1 ⟨v0,v2,v3,v4,v5,v6,v7,v8,rfl⟩ KK1
        refine ⟨t1,rfl,hMA t1 (List.mem_of_getElem? hi1),?_⟩
        exact KK1 _ ⟨_,_,_,_,_,_,_,_,rfl⟩
      · rintro E ⟨v0,v2,v3,v4,v5,v6,v7,v8,rfl⟩
        exact KK _ ⟨_,_,_,_,_,_,_,_,rfl⟩
    · rintro E ⟨v0,v2,v3,v4,v5,v6,v7,v8,rfl⟩
      exact ⟨rfl,q⟩
end
end My
set_option Elab.async false
set_option linter.all false
set_option maxRecDepth 100000
set_option maxHeartbeats 4000000
namespace My
open PySem L2 PyProof.Rows
theorem len1 {α:Type} {us:List α} (h:us.length=1):∃a0,us=[a0]:=by
 cases us with
 | nil=>simp at h
 | cons a0 us=>
 replace h:us.length=0:=by simpa using h
 cases us with
 | nil=>exact ⟨a0,rfl⟩
 | cons a us=>simp at h
theorem len2 {α:Type} {us:List α} (h:us.length=2):∃a0 a1,us=[a0,a1]:=by
 cases us with
 | nil=>simp at h
 | cons a0 us=>
 replace h:us.length=1:=by simpa using h
 cases us with
 | nil=>simp at h
 | cons a1 us=>
 replace h:us.length=0:=by simpa using h
 cases us with
 | nil=>exact ⟨a0,a1,rfl⟩
 | cons a us=>simp at h
theorem len3 {α:Type} {us:List α} (h:us.length=3):∃a0 a1 a2,us=[a0,a1,a2]:=by
 cases us with
 | nil=>simp at h
 | cons a0 us=>
 replace h:us.length=2:=by simpa using h
 cases us with
 | nil=>simp at h
 | cons a1 us=>
 replace h:us.length=1:=by simpa using h
 cases us with
 | nil=>simp at h
 | cons a2 us=>
 replace h:us.length=0:=by simpa using h
 cases us with
 | nil=>exact ⟨a0,a1,a2,rfl⟩
 | cons a us=>simp at h
def spLaw (K:PySem.W.Frag):Sp:=fun vs H Q _=>∃(a:Addr) (ns:List Int),vs=[.ref a]∧SqL K H a (ns.map V.int)∧ns.length≤63∧∀H',Q (.bl true) H'
theorem law_sp {K:PySem.W.Frag} (vs:List V) (H:Hp) (Q:VK) (E:XK) (h:spLaw K vs H Q E):spOf K tLaw vs H Q E:=by
 obtain ⟨a,ns,rfl,hs,hl,q⟩:=h
 have no:∀b,¬Ow (fun a=>(none:Option Addr)=some a) [some (V.ref a)] [some (.p (.lst (intsT ns)))] b:=fun b z=>by
  rcases z with z | ⟨i,k,xs,h1,_⟩
  ·cases z
  ·match i,h1 with
   | 0,h1=>simp at h1
   | _+1,h1=>simp at h1
 have ii:∀ns:List Int,Rps K H (Ow (fun a=>(none:Option Addr)=some a) [some (V.ref a)] [some (.p (.lst (intsT ns)))]) (intsT ns) (ns.map V.int):=fun ns=>by
  have key:∀(O:Addr→Prop) (ms:List Int),Rps K H O (intsT ms) (ms.map V.int):=fun O ms=>by
   induction ms with
   | nil=>rfl
   | cons m ms ih=>exact ⟨_,_,rfl,rfl,ih⟩
  exact key _ ns
 refine ⟨[.v (.lst (intsT ns))],fun r _=>r = .v (.bl true),none,⟨rfl,fun i t h=>?_,fun i k xs h=>?_,fun i j k l xs ys b h=>?_,fun b z=>by cases z⟩,fun _=>rfl,⟨ns,rfl,hl,rfl⟩,fun r xs v H' e _ _ rr=>?_⟩
 ·match i,h with
  | 0,h=>
   simp [enA] at h;subst h
   exact ⟨_,rfl,a,_,rfl,hs.imp (fun h=>⟨no a,h⟩) id,ii ns⟩
  | _+1,h=>simp [enA] at h
 ·match i,h with
  | 0,h=>simp [enA] at h
  | _+1,h=>simp [enA] at h
 ·match i,h with
  | 0,h=>simp [enA] at h
  | _+1,h=>simp [enA] at h
 ·subst e
  cases rr
  exact q H'
def Fc (K:PySem.W.Frag) (nm:Str) (st:Stmt) (f:Addr):Prop:=∃(oc:Value) (od:Option Addr) (kV dc pm:Value) (an:Option Addr) (cd ct:Value) (sl:Array (Option Value)),
 PySem.W.nsIn K mainGlobals nm=some (some (.ref f))∧K.lookup f=some ⟨oc,od,.func (PySem.W.fnOf nm nm (defArgs st) (defBody st) (defScope st) .none kV dc pm an cd ct),sl⟩∧PySem.W.codeIn K cd nm=true∧PySem.W.keepIn K (.ref f)=true
theorem fc {K:PySem.W.Frag} {nm:Str} {st:Stmt} {f:Addr} {oc:Value} {od:Option Addr} {kV dc pm:Value} {an:Option Addr} {cd ct:Value} {sl:Array (Option Value)} (a:PySem.W.nsIn K mainGlobals nm=some (some (.ref f))) (l:K.lookup f=some ⟨oc,od,.func (PySem.W.fnOf nm nm (defArgs st) (defBody st) (defScope st) .none kV dc pm an cd ct),sl⟩) (c:PySem.W.codeIn K cd nm=true) (k:PySem.W.keepIn K (.ref f)=true):Fc K nm st f:=⟨_,_,_,_,_,_,_,_,_,a,l,c,k⟩
theorem gm {P:Program} {w:World} {K:PySem.W.Frag} {h base:Heap} {mg:Str→Option Value} {nm:Str} {st:Stmt} {f:Addr} {CX:CXT} {k:Nat} {ps:List Str} {sp:Sp} (X:K.In h) (G:h.Ns mainGlobals mg) (p:Fc K nm st f) (ok:∀{fd:FuncData},Fun K nm nm st f fd→FnOk P w K mg base CX k f fd ps sp)
  (bd:∀{fd:FuncData},Fun K nm nm st f fd→Binds K fd ps []):∃f fd,FnOk P w K mg base CX k f fd ps sp∧mg nm=some (.ref f)∧PySem.W.keepIn K (.ref f)=true∧Binds K fd ps []:=by
 obtain ⟨_,_,_,_,_,_,_,_,_,a,l,c,k⟩:=p
 have F:=fun_mk (st:=st) l c k
 exact ⟨f,_,ok F,PySem.W.mg_of X G a,k,bd F⟩
theorem all_mk {l:PySem.W.OpenLaw} {w:World} {K:PySem.W.Frag} {h:Heap} {mg:Str→Option Value} {fa f0 f1 f2 f3 f4 f5 f6 f7 f8 f9 f10 f11 f12 f13 f14 f15 f16 f17 f18 f19 f20 f21 f22 f23 f24 f25 f26 f27 f28 f29 f30 f31 f32 f33 f34 f35 f36 f37 f38 f39 f40 f41 f42 f43 f44 f45 f46 f47 f48 f49:Addr} (X:K.In h) (G:h.Ns mainGlobals mg) (hfa:mg "law" = some (.ref fa))
  (p0:Fc K "_law_take" s_take f0)
  (p1:Fc K "_law_box_of" s_box_of f1)
  (p2:Fc K "common_divisor" s_common_divisor f2)
  (p3:Fc K "fraction" s_fraction f3)
  (p4:Fc K "added" s_added f4)
  (p5:Fc K "taken" s_taken f5)
  (p6:Fc K "times" s_times f6)
  (p7:Fc K "dot" s_dot f7)
  (p8:Fc K "whole_root" s_whole_root f8)
  (p9:Fc K "root_of" s_root_of f9)
  (p10:Fc K "minus" s_minus f10)
  (p11:Fc K "length_of" s_length_of f11)
  (p12:Fc K "is_number" s_is_number f12)
  (p13:Fc K "is_fraction" s_is_fraction f13)
  (p14:Fc K "is_point" s_is_point f14)
  (p15:Fc K "is_piece" s_is_piece f15)
  (p16:Fc K "is_side" s_is_side f16)
  (p17:Fc K "end_of" s_end_of f17)
  (p18:Fc K "can_begin_at" s_can_begin_at f18)
  (p19:Fc K "is_path" s_is_path f19)
  (p20:Fc K "_law_lowest" s_lowest f20)
  (p21:Fc K "_law_sum" s_sum f21)
  (p22:Fc K "_law_less" s_less f22)
  (p23:Fc K "_law_product" s_product f23)
  (p24:Fc K "_law_joined" s_joined f24)
  (p25:Fc K "_law_off" s_off f25)
  (p26:Fc K "_law_scaled_by" s_scaled_by f26)
  (p27:Fc K "_law_to_left" s_to_left f27)
  (p28:Fc K "_law_unit_of" s_unit_of f28)
  (p29:Fc K "_law_move_by" s_move_by f29)
  (p30:Fc K "_law_move_back" s_move_back f30)
  (p31:Fc K "_law_path_of" s_path_of f31)
  (p32:Fc K "_law_path_by" s_path_by f32)
  (p33:Fc K "_law_is_number" s_lis_number f33)
  (p34:Fc K "_law_is_fraction" s_lis_fraction f34)
  (p35:Fc K "_law_is_point" s_lis_point f35)
  (p36:Fc K "_law_root" s_root f36)
  (p37:Fc K "_law_dotted" s_dotted f37)
  (p38:Fc K "_law_length" s_length f38)
  (p39:Fc K "_law_piece_fits" s_piece_fits f39)
  (p40:Fc K "_law_is_path" s_lis_path f40)
  (p41:Fc K "_law_bent_part" s_bent_part f41)
  (p42:Fc K "_law_paths_to" s_paths_to f42)
  (p43:Fc K "_law_with" s_with f43)
  (p44:Fc K "_law_spoilt" s_spoilt f44)
  (p45:Fc K "_law_great" s_great f45)
  (p46:Fc K "_law_as_far" s_as_far f46)
  (p47:Fc K "_law_folded" s_folded f47)
  (p48:Fc K "_law_asked" s_asked f48)
  (p49:Fc K "law" s_law f49)
  (z_isinstance:PySem.W.nsIn K mainGlobals "isinstance" = some none) (z_abs:PySem.W.nsIn K mainGlobals "abs" = some none) (z_divmod:PySem.W.nsIn K mainGlobals "divmod" = some none) (z_min:PySem.W.nsIn K mainGlobals "min" = some none) (z_max:PySem.W.nsIn K mainGlobals "max" = some none) (z_all:PySem.W.nsIn K mainGlobals "all" = some none) (z_len:PySem.W.nsIn K mainGlobals "len" = some none) (z_int:PySem.W.nsIn K mainGlobals "int" = some none) (z_bool:PySem.W.nsIn K mainGlobals "bool" = some none) (z_tuple:PySem.W.nsIn K mainGlobals "tuple" = some none) (z_list:PySem.W.nsIn K mainGlobals "list" = some none) (z_str:PySem.W.nsIn K mainGlobals "str" = some none) (z_range:PySem.W.nsIn K mainGlobals "range" = some none) (z_enumerate:PySem.W.nsIn K mainGlobals "enumerate" = some none) (z_zip:PySem.W.nsIn K mainGlobals "zip" = some none) :
  ∃fd:FuncData,(∀(s:Shared) (v:Value),BindsTo s fd ⟨[v],[]⟩ [("_law_script",v)])∧∀base:Heap,K.In base→base.Ns mainGlobals mg→FnOk l.prog w K mg base CX0 15 fa fd ["_law_script"] (spLaw K):=by
 obtain ⟨_,_,_,_,_,_,_,_,_,a42,l42,c42,k42⟩:=p42
 obtain ⟨_,_,_,_,_,_,_,_,_,a43,l43,c43,k43⟩:=p43
 obtain ⟨oc,od,kV,dc,pm,an,cd,ct,sl,a49,l49,c49,k49⟩:=p49
 have e:=hfa.symm.trans (PySem.W.mg_of X G a49)
 cases e
 have T:Txt mg:=⟨PySem.W.mg_none_of X G z_isinstance,PySem.W.mg_none_of X G z_abs,PySem.W.mg_none_of X G z_divmod,PySem.W.mg_none_of X G z_min,PySem.W.mg_none_of X G z_max,PySem.W.mg_none_of X G z_all,PySem.W.mg_none_of X G z_len,PySem.W.mg_none_of X G z_int,PySem.W.mg_none_of X G z_bool,PySem.W.mg_none_of X G z_tuple,PySem.W.mg_none_of X G z_list,PySem.W.mg_none_of X G z_str,PySem.W.mg_none_of X G z_range,PySem.W.mg_none_of X G z_enumerate,PySem.W.mg_none_of X G z_zip⟩
 have F42:=fun_mk (st:=s_paths_to) l42 c42 k42
 have b42:=F42.binds (ps:=["_law_thing","_law_path"]) fun _ _ _ _ _ _ us hl=>by obtain ⟨_,_,rfl⟩:=len2 hl;rfl
 have F43:=fun_mk (st:=s_with) l43 c43 k43
 have b43:=F43.binds (ps:=["_law_box","_law_thing","_law_path"]) fun _ _ _ _ _ _ us hl=>by obtain ⟨_,_,_,rfl⟩:=len3 hl;rfl
 have F49:=fun_mk (st:=s_law) l49 c49 k49
 refine ⟨PySem.W.fnOf "law" "law" (defArgs s_law) (defBody s_law) (defScope s_law) .none kV dc pm an cd ct,fun s v=>.of_eq rfl,fun base _ _=>?_⟩
 have g_take:Fn l.prog w K mg base 1 "_law_take" ["_law_box","_law_many"] (spOf K tTake):=⟨gm X G p0 (ok_take · T ) (·.binds fun _ _ _ _ _ _ us hl=>by obtain ⟨_,_,rfl⟩:=len2 hl;rfl)⟩
 have g_box_of:Fn l.prog w K mg base 1 "_law_box_of" ["_law_script","_law_k"] (spOf K tBoxOf):=⟨gm X G p1 (ok_box_of · T ) (·.binds fun _ _ _ _ _ _ us hl=>by obtain ⟨_,_,rfl⟩:=len2 hl;rfl)⟩
 have g_common_divisor:Fn l.prog w K mg base 1 "common_divisor" ["one","other"] (spOf K tCommon):=⟨gm X G p2 (ok_common_divisor · T ) (·.binds fun _ _ _ _ _ _ us hl=>by obtain ⟨_,_,rfl⟩:=len2 hl;rfl)⟩
 have g_fraction:Fn l.prog w K mg base 2 "fraction" ["n","d"] (spOf K tLow):=⟨gm X G p3 (ok_fraction · T g_common_divisor) (·.binds fun _ _ _ _ _ _ us hl=>by obtain ⟨_,_,rfl⟩:=len2 hl;rfl)⟩
 have g_added:Fn l.prog w K mg base 3 "added" ["one","other"] (spOf K (tBin fadd)):=⟨gm X G p4 (ok_added · T g_fraction) (·.binds fun _ _ _ _ _ _ us hl=>by obtain ⟨_,_,rfl⟩:=len2 hl;rfl)⟩
 have g_taken:Fn l.prog w K mg base 3 "taken" ["one","other"] (spOf K (tBin fsub)):=⟨gm X G p5 (ok_taken · T g_fraction) (·.binds fun _ _ _ _ _ _ us hl=>by obtain ⟨_,_,rfl⟩:=len2 hl;rfl)⟩
 have g_times:Fn l.prog w K mg base 3 "times" ["one","other"] (spOf K (tBin fmul)):=⟨gm X G p6 (ok_times · T g_fraction) (·.binds fun _ _ _ _ _ _ us hl=>by obtain ⟨_,_,rfl⟩:=len2 hl;rfl)⟩
 have g_dot:Fn l.prog w K mg base 4 "dot" ["one","other"] (spOf K (tVV fdot)):=⟨gm X G p7 (ok_dot · T g_times g_added) (·.binds fun _ _ _ _ _ _ us hl=>by obtain ⟨_,_,rfl⟩:=len2 hl;rfl)⟩
 have g_whole_root:Fn l.prog w K mg base 1 "whole_root" ["square"] (spOf K tWhole):=⟨gm X G p8 (ok_whole_root · T ) (·.binds fun _ _ _ _ _ _ us hl=>by obtain ⟨_,rfl⟩:=len1 hl;rfl)⟩
 have g_root_of:Fn l.prog w K mg base 2 "root_of" ["one"] (spOf K tRootR):=⟨gm X G p9 (ok_root_of · T g_whole_root) (·.binds fun _ _ _ _ _ _ us hl=>by obtain ⟨_,rfl⟩:=len1 hl;rfl)⟩
 have g_minus:Fn l.prog w K mg base 4 "minus" ["one","other"] (spOf K tOff):=⟨gm X G p10 (ok_minus · T g_taken) (·.binds fun _ _ _ _ _ _ us hl=>by obtain ⟨_,_,rfl⟩:=len2 hl;rfl)⟩
 have g_length_of:Fn l.prog w K mg base 5 "length_of" ["vector"] (spOf K tLenR):=⟨gm X G p11 (ok_length_of · T g_root_of g_dot) (·.binds fun _ _ _ _ _ _ us hl=>by obtain ⟨_,rfl⟩:=len1 hl;rfl)⟩
 have g_is_number:Fn l.prog w K mg base 1 "is_number" ["thing"] (spOf K tNumA):=⟨gm X G p12 (ok_is_number · T ) (·.binds fun _ _ _ _ _ _ us hl=>by obtain ⟨_,rfl⟩:=len1 hl;rfl)⟩
 have g_is_fraction:Fn l.prog w K mg base 2 "is_fraction" ["thing"] (spOf K tFracA):=⟨gm X G p13 (ok_is_fraction · T g_is_number g_common_divisor) (·.binds fun _ _ _ _ _ _ us hl=>by obtain ⟨_,rfl⟩:=len1 hl;rfl)⟩
 have g_is_point:Fn l.prog w K mg base 3 "is_point" ["thing"] (spOf K tPtA):=⟨gm X G p14 (ok_is_point · T g_is_fraction) (·.binds fun _ _ _ _ _ _ us hl=>by obtain ⟨_,rfl⟩:=len1 hl;rfl)⟩
 have g_is_piece:Fn l.prog w K mg base 4 "is_piece" ["thing"] (spOf K tPcA):=⟨gm X G p15 (ok_is_piece · T g_is_point) (·.binds fun _ _ _ _ _ _ us hl=>by obtain ⟨_,rfl⟩:=len1 hl;rfl)⟩
 have g_is_side:Fn l.prog w K mg base 1 "is_side" ["piece"] (spOf K tIsSide):=⟨gm X G p16 (ok_is_side · T ) (·.binds fun _ _ _ _ _ _ us hl=>by obtain ⟨_,rfl⟩:=len1 hl;rfl)⟩
 have g_end_of:Fn l.prog w K mg base 2 "end_of" ["piece"] (spOf K tEndOf):=⟨gm X G p17 (ok_end_of · T g_is_side) (·.binds fun _ _ _ _ _ _ us hl=>by obtain ⟨_,rfl⟩:=len1 hl;rfl)⟩
 have g_can_begin_at:Fn l.prog w K mg base 6 "can_begin_at" ["piece","begin"] (spOf K tCanBegin):=⟨gm X G p18 (ok_can_begin_at · T g_end_of g_is_side g_length_of g_minus) (·.binds fun _ _ _ _ _ _ us hl=>by obtain ⟨_,_,rfl⟩:=len2 hl;rfl)⟩
 have g_is_path:Fn l.prog w K mg base 7 "is_path" ["thing"] (spOf K tPathA):=⟨gm X G p19 (ok_is_path · T g_is_point g_is_piece g_can_begin_at g_end_of) (·.binds fun _ _ _ _ _ _ us hl=>by obtain ⟨_,rfl⟩:=len1 hl;rfl)⟩
 have g_lowest:Fn l.prog w K mg base 1 "_law_lowest" ["_law_n","_law_d"] (spOf K tLow):=⟨gm X G p20 (ok_lowest · T ) (·.binds fun _ _ _ _ _ _ us hl=>by obtain ⟨_,_,rfl⟩:=len2 hl;rfl)⟩
 have g_sum:Fn l.prog w K mg base 2 "_law_sum" ["_law_one","_law_other"] (spOf K (tBin fadd)):=⟨gm X G p21 (ok_sum · T g_lowest) (·.binds fun _ _ _ _ _ _ us hl=>by obtain ⟨_,_,rfl⟩:=len2 hl;rfl)⟩
 have g_less:Fn l.prog w K mg base 2 "_law_less" ["_law_one","_law_other"] (spOf K (tBin fsub)):=⟨gm X G p22 (ok_less · T g_lowest) (·.binds fun _ _ _ _ _ _ us hl=>by obtain ⟨_,_,rfl⟩:=len2 hl;rfl)⟩
 have g_product:Fn l.prog w K mg base 2 "_law_product" ["_law_one","_law_other"] (spOf K (tBin fmul)):=⟨gm X G p23 (ok_product · T g_lowest) (·.binds fun _ _ _ _ _ _ us hl=>by obtain ⟨_,_,rfl⟩:=len2 hl;rfl)⟩
 have g_joined:Fn l.prog w K mg base 3 "_law_joined" ["_law_one","_law_other"] (spOf K tJoin):=⟨gm X G p24 (ok_joined · T g_sum) (·.binds fun _ _ _ _ _ _ us hl=>by obtain ⟨_,_,rfl⟩:=len2 hl;rfl)⟩
 have g_off:Fn l.prog w K mg base 3 "_law_off" ["_law_one","_law_other"] (spOf K tOff):=⟨gm X G p25 (ok_off · T g_less) (·.binds fun _ _ _ _ _ _ us hl=>by obtain ⟨_,_,rfl⟩:=len2 hl;rfl)⟩
 have g_scaled_by:Fn l.prog w K mg base 3 "_law_scaled_by" ["_law_vector","_law_share"] (spOf K tScBy):=⟨gm X G p26 (ok_scaled_by · T g_product) (·.binds fun _ _ _ _ _ _ us hl=>by obtain ⟨_,_,rfl⟩:=len2 hl;rfl)⟩
 have g_to_left:Fn l.prog w K mg base 1 "_law_to_left" ["_law_vector"] (spOf K tLeft):=⟨gm X G p27 (ok_to_left · T ) (·.binds fun _ _ _ _ _ _ us hl=>by obtain ⟨_,rfl⟩:=len1 hl;rfl)⟩
 have g_unit_of:Fn l.prog w K mg base 2 "_law_unit_of" ["_law_k"] (spOf K tUnitOf'):=⟨gm X G p28 (ok_unit_of · T g_to_left) (·.binds fun _ _ _ _ _ _ us hl=>by obtain ⟨_,rfl⟩:=len1 hl;rfl)⟩
 have g_move_by:Fn l.prog w K mg base 3 "_law_move_by" ["_law_box","_law_arcs"] (spOf K tMvBy):=⟨gm X G p29 (ok_move_by · T g_take g_unit_of) (·.binds fun _ _ _ _ _ _ us hl=>by obtain ⟨_,_,rfl⟩:=len2 hl;rfl)⟩
 have g_move_back:Fn l.prog w K mg base 4 "_law_move_back" ["_law_move"] (spOf K tMvBack):=⟨gm X G p30 (ok_move_back · T g_scaled_by) (·.binds fun _ _ _ _ _ _ us hl=>by obtain ⟨_,rfl⟩:=len1 hl;rfl)⟩
 have g_path_of:Fn l.prog w K mg base 4 "_law_path_of" ["_law_start","_law_moves"] (spOf K tPathOfM):=⟨gm X G p31 (ok_path_of · T g_joined g_off g_scaled_by) (·.binds fun _ _ _ _ _ _ us hl=>by obtain ⟨_,_,rfl⟩:=len2 hl;rfl)⟩
 have g_path_by:Fn l.prog w K mg base 5 "_law_path_by" ["_law_box","_law_most"] (spOf K tPathBy):=⟨gm X G p32 (ok_path_by · T g_take g_move_by g_move_back g_path_of) (·.binds fun _ _ _ _ _ _ us hl=>by obtain ⟨_,_,rfl⟩:=len2 hl;rfl)⟩
 have g_lis_number:Fn l.prog w K mg base 1 "_law_is_number" ["_law_thing"] (spOf K tNumA):=⟨gm X G p33 (ok_lis_number · T ) (·.binds fun _ _ _ _ _ _ us hl=>by obtain ⟨_,rfl⟩:=len1 hl;rfl)⟩
 have g_lis_fraction:Fn l.prog w K mg base 2 "_law_is_fraction" ["_law_thing"] (spOf K tFracL):=⟨gm X G p34 (ok_lis_fraction · T g_lis_number g_lowest) (·.binds fun _ _ _ _ _ _ us hl=>by obtain ⟨_,rfl⟩:=len1 hl;rfl)⟩
 have g_lis_point:Fn l.prog w K mg base 3 "_law_is_point" ["_law_thing"] (spOf K tPtL):=⟨gm X G p35 (ok_lis_point · T g_lis_fraction) (·.binds fun _ _ _ _ _ _ us hl=>by obtain ⟨_,rfl⟩:=len1 hl;rfl)⟩
 have g_root:Fn l.prog w K mg base 1 "_law_root" ["_law_number"] (spOf K tRootK):=⟨gm X G p36 (ok_root · T ) (·.binds fun _ _ _ _ _ _ us hl=>by obtain ⟨_,rfl⟩:=len1 hl;rfl)⟩
 have g_dotted:Fn l.prog w K mg base 3 "_law_dotted" ["_law_one","_law_other"] (spOf K (tVV fdot)):=⟨gm X G p37 (ok_dotted · T g_sum g_product) (·.binds fun _ _ _ _ _ _ us hl=>by obtain ⟨_,_,rfl⟩:=len2 hl;rfl)⟩
 have g_length:Fn l.prog w K mg base 4 "_law_length" ["_law_one","_law_other"] (spOf K tLongL):=⟨gm X G p38 (ok_length · T g_off g_dotted g_root) (·.binds fun _ _ _ _ _ _ us hl=>by obtain ⟨_,_,rfl⟩:=len2 hl;rfl)⟩
 have g_piece_fits:Fn l.prog w K mg base 5 "_law_piece_fits" ["_law_begin","_law_piece"] (spOf K tPcL):=⟨gm X G p39 (ok_piece_fits · T g_lis_point g_length) (·.binds fun _ _ _ _ _ _ us hl=>by obtain ⟨_,_,rfl⟩:=len2 hl;rfl)⟩
 have g_lis_path:Fn l.prog w K mg base 6 "_law_is_path" ["_law_thing"] (spOf K tPathL):=⟨gm X G p40 (ok_lis_path · T g_lis_point g_piece_fits) (·.binds fun _ _ _ _ _ _ us hl=>by obtain ⟨_,rfl⟩:=len1 hl;rfl)⟩
 have g_bent_part:Fn l.prog w K mg base 2 "_law_bent_part" ["_law_box","_law_thing"] (spOfL K tPart):=⟨gm X G p41 (ok_bent_part · T g_take) (·.binds fun _ _ _ _ _ _ us hl=>by obtain ⟨_,_,rfl⟩:=len2 hl;rfl)⟩
 have g_paths_to:Fn l.prog w K mg base 11 "_law_paths_to" ["_law_thing","_law_path"] (spOfL K (tWaysN 11)):=⟨⟨_,_,ok_paths_to F42 T (PySem.W.mg_of X G a42) k42 b42 11,PySem.W.mg_of X G a42,k42,b42⟩⟩
 have g_with:Fn l.prog w K mg base 13 "_law_with" ["_law_box","_law_thing","_law_path"] (spOfL K (tWithN 11)):=⟨⟨_,_,ok_with F43 T g_bent_part (PySem.W.mg_of X G a43) k43 b43 11,PySem.W.mg_of X G a43,k43,b43⟩⟩
 have g_spoilt:Fn l.prog w K mg base 14 "_law_spoilt" ["_law_box","_law_thing"] (spOfL K tSpo):=⟨gm X G p44 (ok_spoilt · T g_take g_paths_to g_with) (·.binds fun _ _ _ _ _ _ us hl=>by obtain ⟨_,_,rfl⟩:=len2 hl;rfl)⟩
 have g_great:Fn l.prog w K mg base 4 "_law_great" ["_law_path"] (spOf K tGreat):=⟨gm X G p45 (ok_great · T g_scaled_by) (·.binds fun _ _ _ _ _ _ us hl=>by obtain ⟨_,rfl⟩:=len1 hl;rfl)⟩
 have g_as_far:Fn l.prog w K mg base 4 "_law_as_far" ["_law_box","_law_path"] (spOf K tFar):=⟨gm X G p46 (ok_as_far · T g_take g_off g_lowest g_scaled_by g_joined g_to_left) (·.binds fun _ _ _ _ _ _ us hl=>by obtain ⟨_,_,rfl⟩:=len2 hl;rfl)⟩
 have g_folded:Fn l.prog w K mg base 1 "_law_folded" ["_law_script","_law_many"] (spOf K tFolded):=⟨gm X G p47 (ok_folded · T ) (·.binds fun _ _ _ _ _ _ us hl=>by obtain ⟨_,_,rfl⟩:=len2 hl;rfl)⟩
 have g_asked:Fn l.prog w K mg base 8 "_law_asked" ["_law_thing"] (spOf K tAsk):=⟨gm X G p48 (ok_asked · T g_is_path g_is_fraction g_lis_path g_lis_fraction) (·.binds fun _ _ _ _ _ _ us hl=>by obtain ⟨_,rfl⟩:=len1 hl;rfl)⟩
 exact (ok_law F49 T g_folded g_box_of g_take g_path_by g_great g_is_path g_lis_path g_spoilt g_as_far g_asked).imp law_sp
theorem walk {l:PySem.W.OpenLaw} {q:Program} {loose:List Str} {XP:(Str→Option Value)→Heap→Prop} {YP:World→Heap→Prop} {d:DefRec} {K:Params→PySem.W.Frag} (hn:l.most=some 63) (hdf:d.params.defaults=[])
  (hY:∀(w:World) (h:Heap),YP w h→(K w.params).In h)
  (F:∀(w:World) (mg:Str→Option Value) (fa:Addr) (h:Heap),(K w.params).In h→h.Ns mainGlobals mg→mg d.name=some (.ref fa)→
   ∃fd:FuncData,(∀(s:Shared) (u:Value),BindsTo s fd ⟨[u],[]⟩ [("_law_script",u)])∧∀base:Heap,(K w.params).In base→base.Ns mainGlobals mg→FnOk l.prog w (K w.params) mg base CX0 15 fa fd ["_law_script"] (spLaw (K w.params))) :
  PySem.W.WalkO q loose XP YP l.row.toRowW d [] (fun f vs=>PySem.call f vs):=
 L2.walk_of (n:=63) (k:=15) (x:="_law_script") (CX:=fun _=>CX0) (sp:=fun w=>spLaw (K w.params)) hn (by decide) hdf ⟨rfl,by decide,by decide,rfl⟩ hY F (fun _ _ a ns hl _ hS=>⟨a,ns,rfl,hS,hl,fun _=>rfl⟩) fun _ _ _ _ _ z=>z
end My
-- Names taken, so that the last steps make no twins of these constants: their equations are of square size.
def PySem.W.Fast.tw13569833066190441354 : Nat := 0
def PySem.W.Fast.tw8551781296478484370 : Nat := 0
def PySem.W.Fast.tw9236554415558892551 : Nat := 0
def PySem.W.Fast.tw5223361849384099863 : Nat := 0
def PySem.W.Fast.tw1557926354449293325 : Nat := 0
def PySem.W.Fast.tw10599228991648414818 : Nat := 0
def PySem.W.Fast.tw9992784474520451913 : Nat := 0
def PySem.W.Fast.tw17077306407504055389 : Nat := 0
def PySem.W.Fast.tw3112018054010218962 : Nat := 0
def PySem.W.Fast.tw5008493674674874436 : Nat := 0
def PySem.W.Fast.tw4010865833741438938 : Nat := 0
def PySem.W.Fast.tw15839067209357874875 : Nat := 0
def PySem.W.Fast.tw8741958176185095609 : Nat := 0
def PySem.W.Fast.tw9064761079662774395 : Nat := 0
def PySem.W.Fast.tw14726582560885949320 : Nat := 0
def PySem.W.Fast.tw17552877468772459959 : Nat := 0
def PySem.W.Fast.tw16075589403773778136 : Nat := 0
def PySem.W.Fast.tw3777300235500872760 : Nat := 0
def PySem.W.Fast.tw2064794983177124495 : Nat := 0
def PySem.W.Fast.tw10849740443233107225 : Nat := 0
def PySem.W.Fast.tw8669107949224680092 : Nat := 0
def PySem.W.Fast.tw11478931446447108660 : Nat := 0
def PySem.W.Fast.tw12121791675671990134 : Nat := 0
def PySem.W.Fast.tw7621934493228802364 : Nat := 0
def PySem.W.Fast.tw13022661913392859266 : Nat := 0
def PySem.W.Fast.tw10561207433251065026 : Nat := 0
def PySem.W.Fast.tw7482661363916490427 : Nat := 0
def PySem.W.Fast.tw3557338287780555587 : Nat := 0
def PySem.W.Fast.tw2057680005488584313 : Nat := 0
def PySem.W.Fast.tw12097049934669485313 : Nat := 0
def PySem.W.Fast.tw2054828641050433324 : Nat := 0
def PySem.W.Fast.tw3058036077169130657 : Nat := 0
def PySem.W.Fast.tw15065760474356179142 : Nat := 0
def PySem.W.Fast.tw3341323180383312115 : Nat := 0
def PySem.W.Fast.tw7925896028817039129 : Nat := 0
def PySem.W.Fast.tw3688620977346619717 : Nat := 0
open PySem PySem.W PyProof.Rows
set_option maxRecDepth 100000 in
set_option maxHeartbeats 0 in
theorem PySem.Challenge.cw_sidecut_k61_whole_spoilt_anywhere_holds : PySem.Challenge.rw_sidecut_k61_whole_spoilt_anywhere.Holds := by
 w_on; o_law; k_head; (case hw => w_witness2)
 k_fill
 refine My.walk (l := PySem.Challenge.rw_sidecut_k61_whole_spoilt_anywhere) rfl rfl (fun w h Y => PySem.W.kIn_of Y) ?F
 case F =>
  intro w mg fa h KX G hmg
  refine' My.all_mk KX G hmg ?p0 ?p1 ?p2 ?p3 ?p4 ?p5 ?p6 ?p7 ?p8 ?p9 ?p10 ?p11 ?p12 ?p13 ?p14 ?p15 ?p16 ?p17 ?p18 ?p19 ?p20 ?p21 ?p22 ?p23 ?p24 ?p25 ?p26 ?p27 ?p28 ?p29 ?p30 ?p31 ?p32 ?p33 ?p34 ?p35 ?p36 ?p37 ?p38 ?p39 ?p40 ?p41 ?p42 ?p43 ?p44 ?p45 ?p46 ?p47 ?p48 ?p49 ?z_isinstance ?z_abs ?z_divmod ?z_min ?z_max ?z_all ?z_len ?z_int ?z_bool ?z_tuple ?z_list ?z_str ?z_range ?z_enumerate ?z_zip
  any_goals exact My.fc rfl rfl rfl rfl
  (case z_isinstance => k_is)
  (case z_abs => k_is)
  (case z_divmod => k_is)
  (case z_min => k_is)
  (case z_max => k_is)
  (case z_all => k_is)
  (case z_len => k_is)
  (case z_int => k_is)
  (case z_bool => k_is)
  (case z_tuple => k_is)
  (case z_list => k_is)
  (case z_str => k_is)
  (case z_range => k_is)
  (case z_enumerate => k_is)
  (case z_zip => k_is)
#print axioms PySem.Challenge.cw_sidecut_k61_whole_spoilt_anywhere_holds
