import PyProof.Rows.All
import Wide.All
import OpenK.AllK
import Wide.FinOn
import Lean
import PyProof.EqAt
import PyProof.EqKinds
import PyProof.TupleCall
import PyProof.NeKinds
import PyProof.ExcInit
import PyProof.Rows.SortStr
import PyProof.Rows.SortWalk
import PyProof.Rows.RuleB_bool
import PyProof.Rows.SortShellK
import KE.KIntText
import KE.KIsAll
import PyProof.AttrMissHeap
import PyProof.CompUse
import PyProof.Rows.CountFlat
import PySem.Challenge.RW_sidecut_k50_texts_again_and_shared
set_option Elab.async false
set_option linter.all false
set_option maxRecDepth 100000
namespace L2
open PySem PySem.Spec PyProof.Rows
abbrev Key:=Sum Int Str
def keyIs:Key→Value→Bool
 | .inl k,v=>Value.isInt k v
 | .inr x,v=>Value.isStrOf x v
def keyH (w:World):Key→Int
 | .inl k=>hashInt k
 | .inr x=>hashStr w x
theorem keyIs_shape:∀{k:Key} {v:Value},keyIs k v=true→(∃i t,k=Sum.inl i∧v=Value.int i t)∨(∃x t,k=Sum.inr x∧v=Value.str x t)
 | .inl i,v,h=>by
  obtain ⟨t,e⟩:=Value.isInt_shape (k:=i) (v:=v) h
  exact .inl ⟨i,t,rfl,e⟩
 | .inr x,v,h=>by
  obtain ⟨t,e⟩:=Value.isStrOf_shape (x:=x) (v:=v) h
  exact .inr ⟨x,t,rfl,e⟩
theorem keyIs_int (i:Int) (t:Tok):keyIs (.inl i) (.int i t)=true:=by simp [keyIs,Value.isInt]
theorem keyIs_str (x:Str) (t:Tok):keyIs (.inr x) (.str x t)=true:=by simp [keyIs,Value.isStrOf]
theorem key_ll (a b:Int):decide ((Sum.inl a:Key)=Sum.inl b)=(a==b):=by
 by_cases e:a=b
 ·subst e;simp
 ·have h:¬(Sum.inl a:Key)=Sum.inl b:=fun q=>e (Sum.inl.inj q)
  rw [decide_eq_false h]
  exact (beq_eq_false_iff_ne.mpr e).symm
theorem key_rr (a b:Str):decide ((Sum.inr a:Key)=Sum.inr b)=decide (a=b):=by
 by_cases e:a=b
 ·subst e;simp
 ·have h:¬(Sum.inr a:Key)=Sum.inr b:=fun q=>e (Sum.inr.inj q)
  rw [decide_eq_false h,decide_eq_false e]
theorem key_lr (a:Int) (b:Str):decide ((Sum.inl a:Key)=Sum.inr b)=false:=decide_eq_false (fun q=>nomatch q)
theorem key_rl (a:Str) (b:Int):decide ((Sum.inr a:Key)=Sum.inl b)=false:=decide_eq_false (fun q=>nomatch q)
def mixKind (prog:Program) (w:World):PySem.KeyKind prog w Key where
 is:=keyIs
 hash:=keyH w
 inj:=fun v a b ha hb=>by
  rcases keyIs_shape ha with ⟨i,t,rfl,rfl⟩ | ⟨x,t,rfl,rfl⟩
  ·rcases keyIs_shape hb with ⟨j,u,rfl,e⟩ | ⟨y,u,rfl,e⟩
   ·injection e with e1 _;rw [e1]
   ·exact nomatch e
  ·rcases keyIs_shape hb with ⟨j,u,rfl,e⟩ | ⟨y,u,rfl,e⟩
   ·exact nomatch e
   ·injection e with e1 _;rw [e1]
 byValue:=fun k v h=>by
  rcases keyIs_shape h with ⟨i,t,rfl,rfl⟩ | ⟨x,t,rfl,rfl⟩<;>rfl
 pyHash:=fun hv h=>by
  rcases keyIs_shape hv with ⟨i,t,rfl,rfl⟩ | ⟨x,t,rfl,rfl⟩
  ·exact wpAny_pyHash_int h
  ·exact wpAny_pyHash_str h
 eqBool:=fun hu hv h=>by
  rcases keyIs_shape hu with ⟨i,t,rfl,rfl⟩ | ⟨x,t,rfl,rfl⟩
  ·rcases keyIs_shape hv with ⟨j,u,rfl,rfl⟩ | ⟨y,u,rfl,rfl⟩
   ·rw [key_ll] at h;exact wpAny_eqBool_int h
   ·rw [key_lr] at h;exact SeqAt.EqAt.int_str i t y u _ _ _ _ h
  ·rcases keyIs_shape hv with ⟨j,u,rfl,rfl⟩ | ⟨y,u,rfl,rfl⟩
   ·rw [key_rl] at h;exact SeqAt.EqAt.str_int x t j u _ _ _ _ h
   ·rw [key_rr] at h;exact wpAny_eqBool_str h
 «strs»:=fun k x t v h=>by
  rcases keyIs_shape h with ⟨i,u,rfl,e⟩ | ⟨y,u,rfl,e⟩
  ·exact nomatch e
  ·injection e with e1 _
   subst e1
   cases v<;>rfl
theorem mixKind_int (prog:Program) (w:World) (i:Int) (t:Tok):(mixKind prog w).is (.inl i) (.int i t)=true:=keyIs_int i t
theorem mixKind_str (prog:Program) (w:World) (x:Str) (t:Tok):(mixKind prog w).is (.inr x) (.str x t)=true:=keyIs_str x t
inductive V where
 | non | bl (b:Bool) | int (i:Int) | str (x:Str) | byt (b:Array UInt8) | flt (b:UInt64) | ref (a:Addr) | ty (n:String)
 deriving DecidableEq
def RelV:V→Value→Prop
 | .non,u=>u=Value.none
 | .bl b,u=>u=Value.bool b
 | .int i,u=>∃t,u=Value.int i t
 | .str x,u=>∃t,u=Value.str x t
 | .byt b,u=>∃t,u=Value.bytes b t
 | .flt b,u=>∃t,u=Value.float b t
 | .ref a,u=>u=Value.ref a
 | .ty n,u=>u=Value.type n
abbrev Vals:List V→List Value→Prop:=Paired RelV
theorem Vals.length {xs:List V} {us:List Value} (r:Vals xs us):xs.length=us.length:=Paired.length r
theorem Vals.get:∀{xs:List V} {us:List Value} {i:Nat} {x:V},Vals xs us→xs[i]? = some x→∃u,us[i]? = some u∧RelV x u
 | _,_,_,_,.nil,e=>by simp at e
 | _,_,0,_,.cons r _,e=>by simp at e;subst e;exact ⟨_,rfl,r⟩
 | _,_,i+1,x,.cons _ t,e=>by
  obtain ⟨u,h1,h2⟩:=Vals.get (i:=i) (x:=x) t (by simpa using e)
  exact ⟨u,by simpa using h1,h2⟩
theorem Vals.set {x:V} {u:Value} (r:RelV x u):∀{xs:List V} {us:List Value} (i:Nat),Vals xs us→Vals (xs.set i x) (us.set i u)
 | _,_,_,.nil=>.nil
 | _,_,0,.cons _ t=>.cons r t
 | _,_,i+1,.cons q t=>.cons q (Vals.set r i t)
theorem Vals.append:∀{xs ys:List V} {us ws:List Value},Vals xs us→Vals ys ws→Vals (xs++ys) (us++ws)
 | _,_,_,_,.nil,s=>s
 | _,_,_,_,.cons r t,s=>.cons r (Vals.append t s)
theorem Vals.take:∀{xs:List V} {us:List Value} (n:Nat),Vals xs us→Vals (xs.take n) (us.take n)
 | _,_,0,_=>.nil
 | _,_,_+1,.nil=>.nil
 | _,_,n+1,.cons r t=>.cons r (Vals.take n t)
theorem Vals.drop:∀{xs:List V} {us:List Value} (n:Nat),Vals xs us→Vals (xs.drop n) (us.drop n)
 | _,_,0,r=>r
 | _,_,_+1,.nil=>.nil
 | _,_,n+1,.cons _ t=>Vals.drop n t
def RelO:Option V→Option Value→Prop
 | some v,some u=>RelV v u
 | none,none=>True
 | _,_=>False
def KV {κ:Type}:List (κ×V)→List (κ×Value)→Prop:=Paired fun (p:κ×V) (q:κ×Value)=>p.1=q.1∧RelV p.2 q.2
def kV:Key→V
 | .inl i=>.int i
 | .inr x=>.str x
inductive HO where
 | lst (xs:List V)
 | tup (xs:List V)
 | dK (kvs:List (Key×V)) | dT (kvs:List (List Key×V))
 | set (S:Int→Bool) (n:Nat)
 | ins (C dx:Addr) (fs:List (Str×V))
 | own (x:Addr)
 | xd (fs:List (Str×V))
 | met (f x:Addr)
 | rng (lo hi:Int)
 | frz (o:Obj) (u:HO)
 | tbl (ps:Array Value)
 | ext (φ:Heap→Prop)
abbrev Hp:=Addr→Option HO
def upd (H:Hp) (a:Addr) (o:HO):Hp:=fun b=>if b=a then some o else H b
theorem upd_same {H:Hp} {a:Addr} {o:HO}:upd H a o a=some o:=by unfold upd;rw [if_pos rfl]
theorem upd_ne {H:Hp} {a b:Addr} {o:HO} (h:b≠a):upd H a o b=H b:=by unfold upd;rw [if_neg h]
theorem ne_of {H:Hp} {a b:Addr} {o u:HO} (h:H a=some o) (h':H b=some u) (d:o≠u):a≠b:=by
 intro e;subst e;rw [h] at h';exact d (Option.some.inj h')
theorem ne_of_none {H:Hp} {a b:Addr} {o:HO} (h:H a=some o) (h':H b=none):a≠b:=by
 intro e;subst e;rw [h] at h';cases h'
section
variable (P:Program) (w:World)
def ObjOk (H:Hp) (h:Heap) (a:Addr):HO→Prop
 | .lst xs=>xs.length≤sizeLine∧∃(its:List Value) (n:Nat),Vals xs its∧h.get? a=some { cls:=.type "list",data:=.seq its.toArray n }
 | .tup xs=>xs.length≤sizeLine∧∃its:List Value,Vals xs its∧IsTup h a its.toArray
 | .dK kvs=>kvs.length≤sizeLine∧(a==sysModules)=false∧∃vs,KV kvs vs∧h.DictOf (mixKind P w) a vs
 | .dT kvs=>kvs.length≤sizeLine∧(a==sysModules)=false∧∃xs:List (List Key×Addr×Value),
   Paired (fun (p:List Key×V) (q:List Key×Addr×Value)=>p.1=q.1∧H q.2.1=some (.tup (p.1.map kV))∧RelV p.2 q.2.2) kvs xs∧
   ∃o es ep,h.get? a=some o∧o.ExactDict∧o.data = .dict es ep∧es.toList=xs.map (entryOfKey (tupleKind (mixKind P w)))∧(xs.map (·.1)).Nodup
 | .set S n=>h.SetOf (intKind P w) a S n
 | .ins C dx fs=>H dx=some (.own a)∧fs.length≤1000∧dx≠a∧h.get? a=some (PySem.W.instObj C dx)∧
   ∃mA,h.Ns1 dx mA∧(∀f,RelO (fs.lookup f) (mA f))∧PySem.Within mA (fs.map (·.1))
 | .own _=>∃o,h.get? a=some o
 | .xd fs=>∃mA,h.Ns1 a mA∧∀f,RelO (fs.lookup f) (mA f)
 | .rng lo hi=>∃t u v,h.get? a=some { cls:=.type "range",data:=.fields #[.int lo t,.int hi u,.int 1 v] }
 | .frz o u=>h.get? a=some o∧ObjOk H h a u
 | .tbl ps=>h.get? a=some { cls:=.none,data:=.fields ps }
 | .met f x=>h.get? a=some (PySem.W.methodObj (.ref f) (.ref x))
 | .ext φ=>φ h∧(∃o,h.get? a=some o)∧∀h1 h2:Heap,φ h1→(∀o,h1.get? a=some o→h2.get? a=some o)→φ h2
def HOk (H:Hp) (h:Heap):Prop:=∀a o,H a=some o→ObjOk P w H h a o
end
section
variable {P:Program} {w:World} {H H':Hp} {h h':Heap} {a:Addr} {o:HO}
theorem ObjOk.lt (x:ObjOk P w H h a o):a<h.objs.size:=by
 cases o with
 | lst xs=>obtain ⟨_,_,_,_,e⟩:=x;exact Heap.lt_size e
 | tup xs=>obtain ⟨_,_,_,p⟩:=x;exact p.lt
 | dK kvs=>obtain ⟨_,_,_,_,o,_,_,e,_⟩:=x;exact Heap.lt_size e
 | dT kvs=>obtain ⟨_,_,_,_,o,_,_,e,_⟩:=x;exact Heap.lt_size e
 | set S n=>obtain ⟨o,_,_,_,e,_⟩:=x;exact Heap.lt_size e
 | ins C dx fs=>obtain ⟨_,_,_,e,_⟩:=x;exact Heap.lt_size e
 | own y=>obtain ⟨_,e⟩:=x;exact Heap.lt_size e
 | xd fs=>obtain ⟨_,⟨_,_,_,e,_⟩,_⟩:=x;exact Heap.lt_size e
 | rng lo hi=>obtain ⟨_,_,_,e⟩:=x;exact Heap.lt_size e
 | frz ob u=>obtain ⟨e,_⟩:=x;exact Heap.lt_size e
 | tbl ps=>exact Heap.lt_size (show h.get? a=some _ from x)
 | met f y=>exact Heap.lt_size (show h.get? a=some _ from x)
 | ext φ=>obtain ⟨_,⟨_,e⟩,_⟩:=x;exact Heap.lt_size e
theorem Paired.mapP {α β:Type} {F G:α→β→Prop}:∀{l₁:List α} {l₂:List β},Paired F l₁ l₂→(∀a b,F a b→G a b)→Paired G l₁ l₂
 | _,_,.nil,_=>.nil
 | _,_,.cons r t,f=>.cons (f _ _ r) (Paired.mapP t f)
theorem ObjOk.stay (x:ObjOk P w H h a o) (k:∀b u,(b=a∨H b=some (.own a))→h.get? b=some u→h'.get? b=some u)
  (ho:∀b,H b=some (.own a)→H' b=some (.own a)) (ht:∀b xs,H b=some (.tup xs)→H' b=some (.tup xs)):ObjOk P w H' h' a o:=by
 induction o with
 | lst xs=>obtain ⟨z,its,n,r,e⟩:=x;exact ⟨z,its,n,r,k _ _ (.inl rfl) e⟩
 | tup xs=>obtain ⟨z,its,r,ob,e,c⟩:=x;exact ⟨z,its,r,ob,k _ _ (.inl rfl) e,c⟩
 | dK kvs=>obtain ⟨z,y,vs,r,ob,es,ep,e,c⟩:=x;exact ⟨z,y,vs,r,ob,es,ep,k _ _ (.inl rfl) e,c⟩
 | dT kvs=>
  obtain ⟨z,y,xs,r,ob,es,ep,e,c⟩:=x
  exact ⟨z,y,xs,Paired.mapP r fun p q z=>⟨z.1,ht _ _ z.2.1,z.2.2⟩,ob,es,ep,k _ _ (.inl rfl) e,c⟩
 | set S n=>obtain ⟨ob,es,ep,t,e,c⟩:=x;exact ⟨ob,es,ep,t,k _ _ (.inl rfl) e,c⟩
 | ins C dx fs=>
  obtain ⟨d,z,ne,e,mA,⟨od,es,ep,e2,c⟩,r⟩:=x
  exact ⟨ho _ d,z,ne,k _ _ (.inl rfl) e,mA,⟨od,es,ep,k _ _ (.inr d) e2,c⟩,r⟩
 | own y=>obtain ⟨ob,e⟩:=x;exact ⟨ob,k _ _ (.inl rfl) e⟩
 | xd fs=>obtain ⟨mA,⟨od,es,ep,e,c⟩,r⟩:=x;exact ⟨mA,⟨od,es,ep,k _ _ (.inl rfl) e,c⟩,r⟩
 | rng lo hi=>obtain ⟨t,u,v,e⟩:=x;exact ⟨t,u,v,k _ _ (.inl rfl) e⟩
 | frz ob u ih=>obtain ⟨e,q⟩:=x;exact ⟨k _ _ (.inl rfl) e,ih q⟩
 | tbl ps=>
  have e:h.get? a=some { cls:=.none,data:=.fields ps }:=x
  show h'.get? a=some { cls:=.none,data:=.fields ps }
  exact k a _ (.inl rfl) e
 | met f y=>
  have e:h.get? a=some (PySem.W.methodObj (.ref f) (.ref y)):=x
  show h'.get? a=some (PySem.W.methodObj (.ref f) (.ref y))
  exact k a _ (.inl rfl) e
 | ext φ=>obtain ⟨p,⟨o,e⟩,st⟩:=x;exact ⟨st _ _ p fun o q=>k _ _ (.inl rfl) q,⟨o,k _ _ (.inl rfl) e⟩,st⟩
theorem HOk.lt (x:HOk P w H h) (e:H a=some o):a<h.objs.size:=(x a o e).lt
theorem HOk.fresh (x:HOk P w H h) (e:h.objs.size≤a):H a=none:=by
 cases q:H a with
 | none=>rfl
 | some u=>exact absurd (Nat.lt_of_lt_of_le (x.lt q) e) (Nat.lt_irrefl _)
theorem HOk.kept (x:HOk P w H h) (k:∀b u,h.get? b=some u→h'.get? b=some u):HOk P w H h':=fun a o e=>
 (x a o e).stay (fun b u _ q=>k b u q) (fun _ q=>q) fun _ _ q=>q
theorem HOk.laid (x:HOk P w H h) (k:∀b u,h.get? b=some u→h'.get? b=some u) (hp:h.objs.size≤a) (new:ObjOk P w (upd H a o) h' a o):HOk P w (upd H a o) h':=fun b u e=>by
 have hn:=x.fresh hp
 by_cases hb:b=a
 ·subst hb;rw [upd_same] at e;cases e;exact new
 ·rw [upd_ne hb] at e
  exact (x b u e).stay (fun c v _ q=>k c v q) (fun c q=>by rw [upd_ne (ne_of_none q hn)];exact q) fun c xs q=>by rw [upd_ne (ne_of_none q hn)];exact q
end
def Rd (H:Hp) (a:Addr) (u:HO):Prop:=H a=some u∨∃o,H a=some (.frz o u)
theorem Rd.ok {P:Program} {w:World} {H:Hp} {h:Heap} {a:Addr} {u:HO} (r:Rd H a u) (x:HOk P w H h):ObjOk P w H h a u:=by
 rcases r with r | ⟨o,r⟩
 ·exact x a u r
 ·obtain ⟨_,q⟩:=x a _ r
  exact q
def Mut:Option HO→Prop
 | some (.lst _)=>True
 | some (.dK _)=>True
 | some (.dT _)=>True
 | some (.set _ _)=>True
 | some (.ins _ _ _)=>True
 | some (.ext _)=>True
 | _=>False
section
variable {P:Program} {w:World} {H:Hp} {h h':Heap} {x e:Addr} {o':HO}
theorem HOk.write (ok:HOk P w H h) (mu:Mut (H x)) (he:e=x∨H e=some (.own x)) (k:∀b u,b≠e→h.get? b=some u→h'.get? b=some u) (heo:∃u,h'.get? e=some u)
  (new:ObjOk P w (upd H x o') h' x o'):HOk P w (upd H x o') h':=fun b u q=>by
 have nown:∀c y,H c=some (.own y)→c≠x:=fun c y r z=>by subst z;rw [r] at mu;exact mu
 have ntup:∀c xs,H c=some (.tup xs)→c≠x:=fun c xs r z=>by subst z;rw [r] at mu;exact mu
 by_cases hb:b=x
 ·subst hb;rw [upd_same] at q;cases q;exact new
 ·rw [upd_ne hb] at q
  by_cases hbe:b=e
  ·have q':H b=some (.own x):=by
    rcases he with z | z
    ·exact absurd (hbe.trans z) hb
    ·rw [hbe];exact z
   rw [q] at q';cases q'
   obtain ⟨v,hv⟩:=heo
   exact ⟨v,by rw [hbe];exact hv⟩
  ·refine (ok b u q).stay (fun c v hc r=>k c v ?_ r) (fun c r=>by rw [upd_ne (nown c b r)];exact r) fun c xs r=>by rw [upd_ne (ntup c xs r)];exact r
   rcases hc with rfl | hc
   ·exact hbe
   ·rintro rfl
    rcases he with z | z
    ·exact nown c b hc z
    ·rw [hc] at z;cases z;exact hb rfl
end
structure Un (fs ex:List Addr) (H H':Hp) (h h':Heap):Prop where
 keep:∀b o,h.get? b=some o→H b=none→b∉fs→b∉ex→h'.get? b=some o
 slot:∀b o,h.get? b=some o→H b=none→b∈fs→b∉ex→∃sl,h'.get? b=some { o with slots:=sl }
 free:∀b o,h.get? b=some o→H b=none→b∉ex→H' b=none
 there:∀b o,h.get? b=some o→b∉ex→∃o',h'.get? b=some o'
 tups:∀b xs,H b=some (.tup xs)→H' b=some (.tup xs)
 frzs:∀b o u,H b=some (.frz o u)→H' b=some (.frz o u)
 tbls:∀b ps,H b=some (.tbl ps)→∃more,H' b=some (.tbl (ps++more))
section
variable {fs fs' ex ex':List Addr} {H H1 H2:Hp} {h h1 h2 h':Heap} {a x e:Addr} {o:HO}
theorem Un.any (u:Un fs ex H H1 h h1) {b:Addr} {ob:Obj} (q:h.get? b=some ob) (n:H b=none) (hx:b∉ex):∃sl,h1.get? b=some { ob with slots:=sl }:=by
 by_cases hb:b∈fs
 ·exact u.slot b ob q n hb hx
 ·exact ⟨ob.slots,u.keep b ob q n hb hx⟩
theorem Un.kept (k:∀b u,h.get? b=some u→h'.get? b=some u):Un fs ex H H h h':=
 ⟨fun b ob q _ _ _=>k b ob q,fun b ob q _ _ _=>⟨ob.slots,k b ob q⟩,fun _ _ _ n _=>n,fun b ob q _=>⟨ob,k b ob q⟩,fun _ _ q=>q,fun _ _ _ q=>q,fun _ ps q=>⟨#[],by rw [q];simp⟩⟩
theorem Un.refl:Un fs ex H H h h:=Un.kept fun _ _ q=>q
theorem Un.laid (k:∀b u,h.get? b=some u→h'.get? b=some u) (hp:h.objs.size≤a) (hn:H a=none):Un fs ex H (upd H a o) h h' where
 keep:=fun b u q _ _ _=>k b u q
 slot:=fun b u q _ _ _=>⟨u.slots,k b u q⟩
 free:=fun b u q n _=>by rw [upd_ne (Nat.ne_of_lt (Nat.lt_of_lt_of_le (Heap.lt_size q) hp))];exact n
 there:=fun b u q _=>⟨u,k b u q⟩
 tups:=fun b xs q=>by rw [upd_ne (ne_of_none q hn)];exact q
 frzs:=fun b u xs q=>by rw [upd_ne (ne_of_none q hn)];exact q
 tbls:=fun b ps q=>⟨#[],by rw [upd_ne (ne_of_none q hn),q];simp⟩
theorem Un.write (mu:Mut (H x)) (he:e=x∨H e=some (.own x)) (k:∀b u,b≠e→h.get? b=some u→h'.get? b=some u) (heo:∃u,h'.get? e=some u):Un fs ex H (upd H x o) h h':=by
 have hx:∀b,H b=none→b≠x:=fun b n z=>by subst z;rw [n] at mu;exact mu
 have hb:∀b,H b=none→b≠e:=fun b n z=>by
  subst z
  rcases he with r | r
  ·exact hx b n r
  ·rw [n] at r;cases r
 have hm:∀b u,H b=some u→¬Mut (some u)→b≠x:=fun b u q nm z=>by subst z;rw [q] at mu;exact nm mu
 refine ⟨fun b u q n _ _=>k b u (hb b n) q,fun b u q n _ _=>⟨u.slots,k b u (hb b n) q⟩,fun b u q n _=>by rw [upd_ne (hx b n)];exact n,fun b u q _=>?_,
  fun b xs q=>by rw [upd_ne (hm b _ q fun z=>z)];exact q,fun b u xs q=>by rw [upd_ne (hm b _ q fun z=>z)];exact q,fun b ps q=>⟨#[],by rw [upd_ne (hm b _ q fun z=>z),q];simp⟩⟩
 by_cases hbe:b=e
 ·subst hbe;exact heo
 ·exact ⟨u,k b u hbe q⟩
end
def trk (h:Heap) (H:Hp):List Addr:=(List.range h.objs.size).filter fun a=>(H a).isSome
def hidT (h:Heap) (H:Hp):Heap:=PySem.W.hideAll h (trk h H)
theorem hidT_size (h:Heap) (H:Hp):(hidT h H).objs.size=h.objs.size:=PySem.W.hideAll_size _ _
theorem hidT_get {h:Heap} {H:Hp} {b:Addr} {o:Obj} (e:h.get? b=some o) (n:H b=none):(hidT h H).get? b=some o:=
 PySem.W.hideAll_get _ e fun hm=>by
  have q:(H b).isSome=true:=(List.mem_filter.mp hm).2
  rw [n] at q;simp at q
theorem of_hidT {h:Heap} {H:Hp} {b:Addr} {o:Obj} (e:(hidT h H).get? b=some o):h.get? b=some o∧H b=none:=by
 have e':h.get? b=some o:=PySem.W.of_hideAll (trk h H) e
 refine ⟨e',?_⟩
 cases q:H b with
 | none=>rfl
 | some x=>
  have hm:b∈trk h H:=List.mem_filter.mpr ⟨List.mem_range.mpr (Heap.lt_size e'),by simp [q]⟩
  have z:(hidT h H).get? b=none:=PySem.W.hideAll_none (trk h H) hm
  rw [z] at e;cases e
structure Mod (K:PySem.W.Frag) (mg:Str→Option Value) (base:Heap):Prop where
 kin:K.In base
 glob:base.Ns mainGlobals mg
 blt:∃mb,base.Ns builtinsNs mb∧∀x:Str,x≠"__name__"→mb x=bootBuiltins x
 nolimit:base.NoLimit
structure Cx where
 prog:Program
 w:World
 K:PySem.W.Frag
 mg:Str→Option Value
 base:Heap
 A:Around
 N:List Str
 s₀:Shared
 H₀:Hp
 env:Env
 outer:List Env
 stack:List Env
 ex:List Addr
 fn:Str→Bool
 calm:Bool
 pn:List (Addr×Obj)
 xe:Value→Shared→Prop
def frs (l:List Env):List Addr:=l.filterMap (·.frame)
abbrev Cx.fs (X:Cx):List Addr:=frs X.outer
def Vis (sc:Scope) (x:Str):Prop:=sc.names.lookup x=some .local∨sc.names.lookup x=some .cell∨sc.names.lookup x=some .free
def Loc (sc:Scope) (x:Str):Prop:=sc.names.lookup x=some .local∨sc.names.lookup x=some .cell
def Look (env:Env) (h:Heap) (m:Str→Option Value) (x:Str) (u:Value):Prop:=
 (env.kindOf x=some .local∧m x=some u)∨((env.kindOf x=some .cell∨env.kindOf x=some .free)∧∃c,env.cells.lookup x=some c∧h.IsCell c (some u))
structure Cx.Ok (X:Cx):Prop where
 mod:Mod X.K X.mg X.base
 kind:X.env.scope.kind = .function
 glob:X.env.globals=mainGlobals
 blt:X.env.builtins=builtinsNs
 above:X.s₀.heap.objs.size≤X.env.locals
 inj:∀x y c,X.env.cells.lookup x=some c→X.env.cells.lookup y=some c→x=y
 has:∀x,(X.env.kindOf x=some .cell∨X.env.kindOf x=some .free)→∃c,X.env.cells.lookup x=some c
 cab:∀x c,X.fn x=true→X.env.cells.lookup x=some c→X.s₀.heap.objs.size≤c
 hd:X.calm=true→X.A.handled=none
 frames:X.A.frames=some X.stack
 stk:X.stack=X.outer∨(X.stack=X.env::X.outer∧X.env.frame=some X.env.locals)
 exf:∀b∈X.ex,b≠X.env.locals∧∀x c,X.env.cells.lookup x=some c→c≠b
 bs:∀b o,X.base.get? b=some o→X.s₀.heap.get? b=some o∧X.H₀ b=none
 bsz:X.base.objs.size≤X.s₀.heap.objs.size
 noex:∀b o,X.base.get? b=some o→b∉X.ex
 exfs:∀b∈X.ex,b∉X.fs
 funs:X.s₀.heap.FunFrames X.base X.outer
 frf:∀b∈X.fs,X.H₀ b=none
structure Inv (X:Cx) (pins:List (Addr×Obj)) (σ:List (Option V)) (H:Hp) (s:Shared):Prop where
 ok:X.Ok
 os:s.os=X.s₀.os
 bare:AllBare s.gens
 base:Un X.fs X.ex X.H₀ H X.s₀.heap s.heap
 loc:∃m,s.heap.Ns X.env.locals m∧∀(i:Nat) (x:Str) (v:V),X.N[i]? = some x→σ[i]? = some (some v)→Vis X.env.scope x→∃u,RelV v u∧Look X.env s.heap m x u
 cell:∀x c,X.env.cells.lookup x=some c→∃v,s.heap.IsCell c v
 free:H X.env.locals=none
 freeC:∀x c,X.env.cells.lookup x=some c→H c=none
 pin:∀p∈X.pn++pins,s.heap.get? p.1=some p.2∧H p.1=none∧p.1≠X.env.locals∧p.1∉X.fs∧∀v,p.2.data≠.cell v
 hok:HOk X.prog X.w H s.heap
 len:σ.length=X.N.length
section
variable {X:Cx} {pins:List (Addr×Obj)} {σ:List (Option V)} {H H':Hp} {s:Shared} {h':Heap}
theorem Cx.Ok.nofr (ok:X.Ok) {b:Addr} {o:Obj} (e:X.base.get? b=some o):b∉X.fs:=fun hb=>by
 have:=(ok.funs.mem hb).1
 rw [e] at this;cases this
theorem Inv.bs (I:Inv X pins σ H s):∀b o,X.base.get? b=some o→s.heap.get? b=some o∧H b=none:=fun b o e=>
 ⟨I.base.keep b o (I.ok.bs b o e).1 (I.ok.bs b o e).2 (I.ok.nofr e) (I.ok.noex b o e),I.base.free b o (I.ok.bs b o e).1 (I.ok.bs b o e).2 (I.ok.noex b o e)⟩
theorem Inv.bk (I:Inv X pins σ H s):∀b o,X.base.get? b=some o→s.heap.get? b=some o:=fun b o e=>(I.bs b o e).1
theorem Inv.mod (I:Inv X pins σ H s):Mod X.K X.mg X.base:=I.ok.mod
theorem Inv.kIn (I:Inv X pins σ H s):X.K.In s.heap:=I.ok.mod.kin.keeps I.bk
theorem Inv.lt (I:Inv X pins σ H s):X.env.locals<s.heap.objs.size:=let ⟨_,hn,_⟩:=I.loc;hn.lt
theorem Inv.sz (I:Inv X pins σ H s):X.s₀.heap.objs.size≤s.heap.objs.size:=Nat.le_trans I.ok.above (Nat.le_of_lt I.lt)
theorem Inv.nofs (I:Inv X pins σ H s) {a:Addr} (h:s.heap.objs.size≤a):a∉X.fs:=fun hb=>by
 obtain ⟨_,o,ho,_⟩:=I.ok.funs.mem hb
 exact absurd (Nat.lt_of_lt_of_le (Heap.lt_size ho) (Nat.le_trans I.sz h)) (Nat.lt_irrefl _)
theorem Inv.cne (I:Inv X pins σ H s):∀x c,X.env.cells.lookup x=some c→c≠X.env.locals:=fun x c e z=>by
 obtain ⟨v,o,ho,hd⟩:=I.cell x c e
 obtain ⟨m,⟨o',es,ep,ho',hd',_⟩,_⟩:=I.loc
 rw [z,ho'] at ho;cases ho;rw [hd'] at hd;cases hd
theorem Inv.funs (I:Inv X pins σ H s):s.heap.FunFrames X.base X.outer:=by
 have all:∀(l:List Env),(∀b∈frs l,b∈X.fs)→X.s₀.heap.FunFrames X.base l→s.heap.FunFrames X.base l:=by
  intro l
  induction l with
  | nil=>intro _ _;trivial
  | cons env r ih=>
   intro hs hl
   obtain ⟨hk,⟨L,o,hf,hn,ho,hd⟩,hr⟩:=hl
   have hL:L∈X.fs:=hs L (by unfold frs;rw [List.filterMap_cons,hf];exact List.mem_cons_self)
   obtain ⟨sl,e⟩:=I.base.slot L o ho (I.ok.frf L hL) hL fun z=>I.ok.exfs L z hL
   exact ⟨hk,⟨L,_,hf,hn,e,hd⟩,ih (fun b hb=>hs b (by unfold frs;rw [List.filterMap_cons,hf];exact List.mem_cons_of_mem _ hb)) hr⟩
 exact all X.outer (fun _ hb=>hb) I.ok.funs
theorem Inv.stack (I:Inv X pins σ H s):s.heap.FunFrames X.base X.stack:=by
 rcases I.ok.stk with e | ⟨e,hf⟩
 ·rw [e];exact I.funs
 ·rw [e]
  obtain ⟨m,hn,_⟩:=I.loc
  refine .cons (by rw [I.ok.kind];decide) hf hn ?_ I.funs
  exact Heap.get?_none_of_le (Nat.le_trans I.ok.bsz I.ok.above)
theorem Inv.stkSub (I:Inv X pins σ H s):∀b∈frs X.stack,b∈X.env.locals::X.fs:=fun b hb=>by
 rcases I.ok.stk with e | ⟨e,hf⟩
 ·rw [e] at hb;exact List.mem_cons_of_mem _ hb
 ·rw [e] at hb
  unfold frs at hb
  rw [List.filterMap_cons,hf] at hb
  exact hb
theorem Inv.stkFree (I:Inv X pins σ H s):∀b∈frs X.stack,H b=none:=fun b hb=>by
 rcases List.mem_cons.mp (I.stkSub b hb) with e | hb
 ·rw [e];exact I.free
 ·obtain ⟨_,o,ho,_⟩:=I.ok.funs.mem hb
  exact I.base.free b o ho (I.ok.frf b hb) fun z=>I.ok.exfs b z hb
theorem Inv.step {g':Array GenState} {t':Nat} {d':Drawn} {ch:List Addr} (I:Inv X pins σ H s)
  (hch:∀b∈ch,(b∈X.ex∨X.s₀.heap.objs.size≤b)∧b≠X.env.locals∧(∀x c,X.env.cells.lookup x=some c→c≠b)∧∀p∈X.pn++pins,p.1≠b)
  (keep:∀b o,b≠X.env.locals→b∉X.fs→b∉ch→s.heap.get? b=some o→H b=none→h'.get? b=some o)
  (slot:∀b o,b≠X.env.locals→b∈X.fs→b∉ch→s.heap.get? b=some o→H b=none→∃sl,h'.get? b=some { o with slots:=sl }) (free:∀b o,b∉ch→s.heap.get? b=some o→H b=none→H' b=none)
  (there:∀b o,b∉ch→s.heap.get? b=some o→∃o',h'.get? b=some o')
  (tups:∀b xs,H b=some (.tup xs)→H' b=some (.tup xs)) (frzs:∀b o u,H b=some (.frz o u)→H' b=some (.frz o u)) (tbls:∀b ps,H b=some (.tbl ps)→∃more,H' b=some (.tbl (ps++more)))
  (ns:∀m,s.heap.Ns X.env.locals m→h'.Ns X.env.locals m) (hok:HOk X.prog X.w H' h') (hg:AllBare g') :
  Inv X pins σ H' { s with heap:=h',gens:=g',drawn:=d',toks:=t' }:=by
 have neL:∀b o,X.s₀.heap.get? b=some o→b≠X.env.locals:=fun b o e=>Nat.ne_of_lt (Nat.lt_of_lt_of_le (Heap.lt_size e) I.ok.above)
 have neC:∀b o,X.s₀.heap.get? b=some o→b∉X.ex→b∉ch:=fun b o e hx hb=>by
  rcases (hch b hb).1 with z | z
  ·exact hx z
  ·exact absurd (Nat.lt_of_lt_of_le (Heap.lt_size e) z) (Nat.lt_irrefl _)
 have cellK:∀x c,X.env.cells.lookup x=some c→∀v,s.heap.IsCell c v→h'.IsCell c v:=fun x c e v ⟨o,ho,hd⟩=>by
  have nch:c∉ch:=fun z=>(hch c z).2.2.1 x c e rfl
  by_cases hc:c∈X.fs
  ·obtain ⟨sl,q⟩:=slot c o (I.cne x c e) hc nch ho (I.freeC x c e)
   exact ⟨_,q,hd⟩
  ·exact ⟨o,keep c o (I.cne x c e) hc nch ho (I.freeC x c e),hd⟩
 refine ⟨I.ok,I.os,hg,⟨fun b o e n hb hx=>?_,fun b o e n hb hx=>?_,fun b o e n hx=>?_,fun b o e hx=>?_,fun b xs e=>tups b xs (I.base.tups b xs e),fun b o xs e=>frzs b o xs (I.base.frzs b o xs e),fun b ps e=>?_⟩,?_,fun x c e=>?_,?_,fun x c e=>?_,fun p hp=>?_,hok,I.len⟩
 ·exact keep b o (neL b o e) hb (neC b o e hx) (I.base.keep b o e n hb hx) (I.base.free b o e n hx)
 ·obtain ⟨sl,e1⟩:=I.base.slot b o e n hb hx
  obtain ⟨sl',e2⟩:=slot b _ (neL b o e) hb (neC b o e hx) e1 (I.base.free b o e n hx)
  exact ⟨sl',e2⟩
 ·obtain ⟨o',e1⟩:=I.base.there b o e hx
  exact free b o' (neC b o e hx) e1 (I.base.free b o e n hx)
 ·obtain ⟨o',e1⟩:=I.base.there b o e hx
  exact there b o' (neC b o e hx) e1
 ·obtain ⟨m1,e1⟩:=I.base.tbls b ps e
  obtain ⟨m2,e2⟩:=tbls b _ e1
  exact ⟨m1++m2,by rw [e2,Array.append_assoc]⟩
 ·obtain ⟨m,hn,hl⟩:=I.loc
  refine ⟨m,ns m hn,fun i x v e1 e2 e3=>?_⟩
  obtain ⟨u,r,l⟩:=hl i x v e1 e2 e3
  refine ⟨u,r,?_⟩
  rcases l with l | ⟨k,c,e,z⟩
  ·exact .inl l
  ·exact .inr ⟨k,c,e,cellK x c e _ z⟩
 ·obtain ⟨v,z⟩:=I.cell x c e
  exact ⟨v,cellK x c e v z⟩
 ·obtain ⟨m,⟨o,_,_,ho,_⟩,_⟩:=I.loc
  exact free _ o (fun z=>(hch _ z).2.1 rfl) ho I.free
 ·obtain ⟨v,o,ho,hd⟩:=I.cell x c e
  exact free c o (fun z=>(hch c z).2.2.1 x c e rfl) ho (I.freeC x c e)
 ·obtain ⟨e,n,ne,nf,d⟩:=I.pin p hp
  have nch:p.1∉ch:=fun z=>(hch p.1 z).2.2.2 p hp rfl
  exact ⟨keep p.1 p.2 ne nf nch e n,free p.1 p.2 nch e n,ne,nf,d⟩
theorem Inv.un {t':Nat} (I:Inv X pins σ H s) (u:Un X.fs [] H H' s.heap h') (hok:HOk X.prog X.w H' h'):Inv X pins σ H' { s with heap:=h',toks:=t' }:=by
 obtain ⟨m,⟨o,es,ep,ho,r⟩,_⟩:=id I.loc
 obtain ⟨sl,hL⟩:=u.any ho I.free (by simp)
 exact I.step (g':=s.gens) (d':=s.drawn) (ch:=[]) (fun _ z=>nomatch z) (fun b o _ hb _ e n=>u.keep b o e n hb (by simp)) (fun b o _ hb _ e n=>u.slot b o e n hb (by simp)) (fun b o _ e n=>u.free b o e n (by simp)) (fun b o _ e=>u.there b o e (by simp)) u.tups u.frzs u.tbls (fun m' hm=>by
  obtain ⟨o',es',ep',ho',r'⟩:=hm
  rw [ho] at ho';cases ho'
  exact ⟨_,es',ep',hL,r'⟩) hok I.bare
theorem Inv.call {g':Array GenState} {t':Nat} {d':Drawn} {ch:List Addr} (I:Inv X pins σ H s) (u:Un (frs X.stack) ch H H' s.heap h') (hok:HOk X.prog X.w H' h') (hg:AllBare g')
  (hch:∀b∈ch,(b∈X.ex∨X.s₀.heap.objs.size≤b)∧b≠X.env.locals∧(∀x c,X.env.cells.lookup x=some c→c≠b)∧∀p∈X.pn++pins,p.1≠b) :
  Inv X pins σ H' { s with heap:=h',gens:=g',drawn:=d',toks:=t' }:=by
 obtain ⟨m,⟨o,es,ep,ho,r⟩,_⟩:=id I.loc
 obtain ⟨sl,hL⟩:=u.any ho I.free fun z=>(hch _ z).2.1 rfl
 exact I.step (ch:=ch) hch (fun b o hL hb hc e n=>u.keep b o e n (fun z=>(List.mem_cons.mp (I.stkSub b z)).elim hL hb) hc) (fun b o _ _ hc e n=>u.any e n hc) (fun b o hc e n=>u.free b o e n hc) (fun b o hc e=>u.there b o e hc) u.tups u.frzs u.tbls (fun m' hm=>by
  obtain ⟨o',es',ep',ho',r'⟩:=hm
  rw [ho] at ho';cases ho'
  exact ⟨_,es',ep',hL,r'⟩) hok hg
theorem Inv.turned {t':Nat} {it:Addr} (I:Inv X pins σ H s) (k:∀b o,b≠it→s.heap.get? b=some o→h'.get? b=some o) (hn:H it=none) (hL:it≠X.env.locals)
  (h1:it∈X.ex∨X.s₀.heap.objs.size≤it) (h2:∀x c,X.env.cells.lookup x=some c→c≠it) (h3:∀p∈X.pn++pins,p.1≠it):Inv X pins σ H { s with heap:=h',toks:=t' }:=by
 have nit:∀b u,H b=some u→b≠it:=fun b u e z=>by rw [z,hn] at e;cases e
 refine I.step (g':=s.gens) (d':=s.drawn) (ch:=[it]) (fun b hb=>?_) (fun b o _ _ hc e _=>k b o (fun z=>hc (by simp [z])) e) (fun b o _ _ hc e _=>⟨o.slots,k b o (fun z=>hc (by simp [z])) e⟩) (fun _ _ _ _ n=>n)
  (fun b o hc e=>⟨o,k b o (fun z=>hc (by simp [z])) e⟩) (fun _ _ e=>e) (fun _ _ _ e=>e) (fun b ps e=>⟨#[],by rw [e];simp⟩) (fun m hm=>?_) (fun b u e=>?_) I.bare
 ·have e:b=it:=by simpa using hb
  subst e
  exact ⟨h1,hL,h2,h3⟩
 ·obtain ⟨o,es,ep,ho,r⟩:=hm
  exact ⟨o,es,ep,k _ o (Ne.symm hL) ho,r⟩
 ·refine (I.hok b u e).stay (fun c v hc q=>k c v ?_ q) (fun _ q=>q) fun _ _ q=>q
  rcases hc with z | z
  ·rw [z];exact nit b u e
  ·exact nit c _ z
theorem Inv.tok (I:Inv X pins σ H s) (t:Nat):Inv X pins σ H { s with toks:=t }:=I.un (h':=s.heap) (t':=t) Un.refl I.hok
theorem Inv.kept {t':Nat} (I:Inv X pins σ H s) (k:∀b u,s.heap.get? b=some u→h'.get? b=some u):Inv X pins σ H { s with heap:=h',toks:=t' }:=I.un (Un.kept k) (I.hok.kept k)
theorem Inv.laid {a:Addr} {o:HO} {t':Nat} (I:Inv X pins σ H s) (k:∀b u,s.heap.get? b=some u→h'.get? b=some u) (hp:s.heap.objs.size≤a) (new:ObjOk X.prog X.w (upd H a o) h' a o) :
  Inv X pins σ (upd H a o) { s with heap:=h',toks:=t' }:=I.un (Un.laid k hp (I.hok.fresh hp)) (I.hok.laid k hp new)
theorem Inv.write {x e:Addr} {o:HO} {t':Nat} (I:Inv X pins σ H s) (mu:Mut (H x)) (he:e=x∨H e=some (.own x)) (k:∀b u,b≠e→s.heap.get? b=some u→h'.get? b=some u) (heo:∃u,h'.get? e=some u)
  (new:ObjOk X.prog X.w (upd H x o) h' x o):Inv X pins σ (upd H x o) { s with heap:=h',toks:=t' }:=I.un (Un.write mu he k heo) (I.hok.write mu he k heo new)
theorem Inv.pins_of {pins':List (Addr×Obj)} (I:Inv X pins σ H s) (h:∀p∈pins',s.heap.get? p.1=some p.2∧H p.1=none∧p.1≠X.env.locals∧p.1∉X.fs∧∀v,p.2.data≠.cell v):Inv X pins' σ H s:=
 ⟨I.ok,I.os,I.bare,I.base,I.loc,I.cell,I.free,I.freeC,fun p hp=>(List.mem_append.mp hp).elim (fun z=>I.pin p (List.mem_append_left _ z)) (h p),I.hok,I.len⟩
theorem nodup_ix {N:List Str} (hN:N.Nodup) {i j:Nat} {x:Str} (a:N[i]? = some x) (b:N[j]? = some x):i=j:=by
 obtain ⟨h1,e1⟩:=List.getElem?_eq_some_iff.mp a
 obtain ⟨h2,e2⟩:=List.getElem?_eq_some_iff.mp b
 exact (List.getElem_inj hN).mp (e1.trans e2.symm)
theorem store_ok2 {M:Model} {A:Around} {E:Value→Shared→Prop} {i:Nat} {x:Str} {v:V} {u:Value} {Q:Unit→Shared→Prop} (I:Inv X pins σ H s) (hN:X.N.Nodup) (hi:X.N[i]? = some x) (hx:Loc X.env.scope x) (r:RelV v u)
  (h:∀s',Inv X pins (σ.set i (some v)) H s'→(∃a,Heap.SameBut a s.heap s'.heap∧(a=X.env.locals∨X.env.cells.lookup x=some a))→Q () s') (hf:X.fn x=true∨X.env.scope.names.lookup x=some .local:=by first | exact .inl rfl | exact .inr rfl | assumption):wpAny M A (storeName X.env x u) Q E s:=by
 obtain ⟨m,hn,hl⟩:=id I.loc
 have hcls:(X.env.scope.kind==.class||(X.env.scope.kind==.module&&X.env.locals != X.env.globals))=false:=by rw [I.ok.kind];rfl
 have hiσ:i<σ.length:=by rw [I.len];exact (List.getElem?_eq_some_iff.mp hi).1
 have cne:=I.cne
 have tracked:∀{a:Addr} {h':Heap},(∃o,s.heap.get? a=some o∧H a=none)→Heap.SameBut a s.heap h'→HOk X.prog X.w H h':=fun {a h'} ha hs b ob e=>by
  obtain ⟨_,_,hfree⟩:=ha
  refine (I.hok b ob e).stay (fun c w' hc q=>(hs.2 c ?_).trans q) (fun _ q=>q) fun _ _ q=>q
  rintro rfl
  rcases hc with rfl | hc
  ·rw [hfree] at e;cases e
  ·rw [hfree] at hc;cases hc
 rcases hx with hk | hk
 ·refine wpAny_storeName_local hk hn (fun h' hn' hs=>?_) hcls
  obtain ⟨oL,_,_,hoL,_⟩:=id hn
  refine h _ ⟨I.ok,I.os,I.bare,⟨fun b o e n hb hx=>?_,fun b o e n hb hx=>?_,I.base.free,fun b o e hx=>?_,I.base.tups,I.base.frzs,I.base.tbls⟩,⟨_,hn',fun j y v' e1 e2 e3=>?_⟩,fun y c e=>?_,I.free,I.freeC,fun p hp=>?_,tracked ⟨oL,hoL,I.free⟩ hs,by simpa using I.len⟩ ⟨_,hs,.inl rfl⟩
  ·exact (hs.2 b (Nat.ne_of_lt (Nat.lt_of_lt_of_le (Heap.lt_size e) I.ok.above))).trans (I.base.keep b o e n hb hx)
  ·obtain ⟨sl,e1⟩:=I.base.slot b o e n hb hx
   exact ⟨sl,(hs.2 b (Nat.ne_of_lt (Nat.lt_of_lt_of_le (Heap.lt_size e) I.ok.above))).trans e1⟩
  ·obtain ⟨o',e1⟩:=I.base.there b o e hx
   exact ⟨o',(hs.2 b (Nat.ne_of_lt (Nat.lt_of_lt_of_le (Heap.lt_size e) I.ok.above))).trans e1⟩
  ·by_cases hj:j=i
   ·subst hj
    rw [hi] at e1;cases e1
    rw [List.getElem?_set_self hiσ] at e2
    cases e2
    exact ⟨u,r,.inl ⟨hk,by simp⟩⟩
   ·rw [List.getElem?_set_ne (Ne.symm hj)] at e2
    obtain ⟨u',r',q⟩:=hl j y v' e1 e2 e3
    refine ⟨u',r',?_⟩
    rcases q with ⟨k,e⟩ | ⟨k,c,e,z⟩
    ·refine .inl ⟨k,?_⟩
     have:y≠x:=fun e=>hj (nodup_ix hN e1 (e ▸ hi))
     simp [this,e]
    ·exact .inr ⟨k,c,e,z.sameBut hs (cne y c e)⟩
  ·obtain ⟨w',z⟩:=I.cell y c e
   exact ⟨w',z.sameBut hs (cne y c e)⟩
  ·obtain ⟨e,n,ne,nf,d⟩:=I.pin p hp
   exact ⟨(hs.2 p.1 ne).trans e,n,ne,nf,d⟩
 ·have hfn:X.fn x=true:=by
   rcases hf with z | z
   ·exact z
   ·rw [z] at hk;cases hk
  obtain ⟨c,hc⟩:=I.ok.has x (.inl hk)
  obtain ⟨w',z⟩:=I.cell x c hc
  refine wpAny_storeName_cell I.ok.kind hk hc z (fun h' hc' hs=>?_)
  obtain ⟨oc,hoc,hocd⟩:=id z
  refine h { s with heap:=h' } ⟨I.ok,I.os,I.bare,⟨fun b o e n hb hx=>?_,fun b o e n hb hx=>?_,I.base.free,fun b o e hx=>?_,I.base.tups,I.base.frzs,I.base.tbls⟩,⟨m,hn.sameBut hs (Ne.symm (cne x c hc)),fun j y v' e1 e2 e3=>?_⟩,fun y c' e=>?_,I.free,I.freeC,fun p hp=>?_,tracked ⟨oc,hoc,I.freeC x c hc⟩ hs,by simpa using I.len⟩ ⟨c,hs,.inr hc⟩
  ·exact (hs.2 b (Nat.ne_of_lt (Nat.lt_of_lt_of_le (Heap.lt_size e) (I.ok.cab x c hfn hc)))).trans (I.base.keep b o e n hb hx)
  ·obtain ⟨sl,e1⟩:=I.base.slot b o e n hb hx
   exact ⟨sl,(hs.2 b (Nat.ne_of_lt (Nat.lt_of_lt_of_le (Heap.lt_size e) (I.ok.cab x c hfn hc)))).trans e1⟩
  ·obtain ⟨o',e1⟩:=I.base.there b o e hx
   exact ⟨o',(hs.2 b (Nat.ne_of_lt (Nat.lt_of_lt_of_le (Heap.lt_size e) (I.ok.cab x c hfn hc)))).trans e1⟩
  ·by_cases hj:j=i
   ·subst hj
    rw [hi] at e1;cases e1
    rw [List.getElem?_set_self hiσ] at e2
    cases e2
    exact ⟨u,r,.inr ⟨.inl hk,c,hc,hc'⟩⟩
   ·rw [List.getElem?_set_ne (Ne.symm hj)] at e2
    obtain ⟨u',r',q⟩:=hl j y v' e1 e2 e3
    refine ⟨u',r',?_⟩
    rcases q with q | ⟨k,c',e,z'⟩
    ·exact .inl q
    ·refine .inr ⟨k,c',e,z'.sameBut hs ?_⟩
     rintro rfl
     exact hj (nodup_ix hN e1 (I.ok.inj _ _ _ e hc ▸ hi))
  ·by_cases hcc:c'=c
   ·subst hcc;exact ⟨_,hc'⟩
   ·obtain ⟨w2,z2⟩:=I.cell y c' e
    exact ⟨w2,z2.sameBut hs hcc⟩
  ·obtain ⟨e,n,ne,nf,d⟩:=I.pin p hp
   refine ⟨(hs.2 p.1 ?_).trans e,n,ne,nf,d⟩
   intro q
   rw [q,hoc] at e
   have q':oc=p.2:=Option.some.inj e
   exact d w' (by rw [←q'];exact hocd)
theorem store_ok {M:Model} {A:Around} {E:Value→Shared→Prop} {i:Nat} {x:Str} {v:V} {u:Value} {Q:Unit→Shared→Prop} (I:Inv X pins σ H s) (hN:X.N.Nodup) (hi:X.N[i]? = some x) (hx:Loc X.env.scope x) (r:RelV v u)
  (h:∀s',Inv X pins (σ.set i (some v)) H s'→Q () s') (hf:X.fn x=true∨X.env.scope.names.lookup x=some .local:=by first | exact .inl rfl | exact .inr rfl | assumption):wpAny M A (storeName X.env x u) Q E s:=
 store_ok2 I hN hi hx r (fun s' I' _=>h s' I') hf
theorem Inv.call' {s':Shared} {ch:List Addr} (I:Inv X pins σ H s) (ho:s'.os=s.os) (u:Un (frs X.stack) ch H H' s.heap s'.heap) (hok:HOk X.prog X.w H' s'.heap) (hg:AllBare s'.gens)
  (hch:∀b∈ch,(b∈X.ex∨X.s₀.heap.objs.size≤b)∧b≠X.env.locals∧(∀x c,X.env.cells.lookup x=some c→c≠b)∧∀p∈X.pn++pins,p.1≠b):Inv X pins σ H' s':=by
 obtain ⟨h',g',d',t',o'⟩:=s'
 have e:o'=s.os:=ho
 subst e
 exact I.call (g':=g') (t':=t') (d':=d') u hok hg hch
end
abbrev XK:=Value→Option Addr→Hp→Prop
abbrev St:=List (Option V)
abbrev VK:=V→Hp→Prop
abbrev TE:=St→Hp→VK→Prop
abbrev TT:=St→Hp→(Bool→Hp→Prop)→Prop
abbrev TA:=St→Hp→(List V→Hp→Prop)→Prop
structure Ends where
 nx:St→Hp→Prop
 rt:VK
 bk:St→Hp→Prop:=fun _ _=>False
 ct:St→Hp→Prop:=fun _ _=>False
abbrev TS:=Ends→St→Hp→Prop
def EP (X:Cx) (pins:List (Addr×Obj)) (σ:St) (Q:VK) (u:Value) (s':Shared):Prop:=∃v H',Inv X pins σ H' s'∧RelV v u∧Q v H'
def TP (X:Cx) (pins:List (Addr×Obj)) (σ:St) (Q:Bool→Hp→Prop) (b:Bool) (s':Shared):Prop:=∃H',Inv X pins σ H' s'∧Q b H'
def AP (X:Cx) (pins:List (Addr×Obj)) (σ:St) (Q:List V→Hp→Prop) (us:List Value) (s':Shared):Prop:=∃vs H',Inv X pins σ H' s'∧Vals vs us∧Q vs H'
def SP (X:Cx) (pins:List (Addr×Obj)) (D:Ends) (f:Flow) (s':Shared):Prop:=
 match f with
 | .next=>∃σ' H',Inv X pins σ' H' s'∧D.nx σ' H'
 | .brk=>∃σ' H',Inv X pins σ' H' s'∧D.bk σ' H'
 | .cont=>∃σ' H',Inv X pins σ' H' s'∧D.ct σ' H'
 | .ret u=>∃v σ' H',Inv X pins σ' H' s'∧RelV v u∧D.rt v H'
def PE (X:Cx) (e:Expr) (t:TE):Prop:=
 ∀(pins:List (Addr×Obj)) (s:Shared) (σ:St) (H:Hp) (Q:VK),Inv X pins σ H s→t σ H Q→wpAny (model X.prog X.w) X.A (eval e X.env) (EP X pins σ Q) X.xe s
def PT (X:Cx) (e:Expr) (t:TT):Prop:=
 ∀(pins:List (Addr×Obj)) (s:Shared) (σ:St) (H:Hp) (Q:Bool→Hp→Prop),Inv X pins σ H s→t σ H Q→wpAny (model X.prog X.w) X.A (isTrue e X.env (eval e X.env)) (TP X pins σ Q) X.xe s
def PW (X:Cx) (e:Expr) (t:TT):Prop:=
 ∀(whole:Sem Value) (pins:List (Addr×Obj)) (s:Shared) (σ:St) (H:Hp) (Q:Bool→Hp→Prop),Inv X pins σ H s→t σ H Q→wpAny (model X.prog X.w) X.A (isTrue e X.env whole) (TP X pins σ Q) X.xe s
theorem PW.pt {X:Cx} {e:Expr} {t:TT} (h:PW X e t):PT X e t:=h _
def PA (X:Cx) (es:List Expr) (t:TA):Prop:=
 ∀(pos:Pos) (pins:List (Addr×Obj)) (s:Shared) (σ:St) (H:Hp) (Q:List V→Hp→Prop),Inv X pins σ H s→t σ H Q→wpAny (model X.prog X.w) X.A (spliced (backTo pos (starEach es X.env))) (AP X pins σ Q) X.xe s
def PS (X:Cx) (st:Stmt) (t:TS):Prop:=
 ∀(pins:List (Addr×Obj)) (s:Shared) (σ:St) (H:Hp) (D:Ends),Inv X pins σ H s→t D σ H→wpAny (model X.prog X.w) X.A (exec st X.env) (SP X pins D) X.xe s
def PSs (X:Cx) (st:List Stmt) (t:TS):Prop:=
 ∀(pins:List (Addr×Obj)) (s:Shared) (σ:St) (H:Hp) (D:Ends),Inv X pins σ H s→t D σ H→wpAny (model X.prog X.w) X.A (execs st X.env) (SP X pins D) X.xe s
theorem thn {α:Type} {t:Sem α} {Q Q':α→Shared→Prop} {M:Model} {A:Around} {E:Value→Shared→Prop} {s:Shared} (h:wpAny M A t Q E s) (hQ:∀a s,Q a s→Q' a s):wpAny M A t Q' E s:=wpAny_mono h hQ fun _ _ x=>x
section
variable {X:Cx}
def tVar (i:Nat):TE:=fun σ H Q=>∃v,σ[i]? = some (some v)∧Q v H
def tC (v:V):TE:=fun _ H Q=>Q v H
theorem pe_var {i:Nat} {x:Str} {pos:Pos} (hN:X.N[i]? = some x) (hv:Vis X.env.scope x) (hd:(x==("__debug__":Str))=false:=by decide) (hcd:(x==("__classdict__":Str))=false:=by decide):PE X (.Name x pos) (tVar i):=by
 intro pins s σ H Q I h
 obtain ⟨v,e,h⟩:=h
 obtain ⟨m,hn,hl⟩:=I.loc
 obtain ⟨u,r,l⟩:=hl i x v hN e hv
 have fin:EP X pins σ Q u s:=⟨v,H,I,r,h⟩
 rcases l with ⟨hk,hm⟩ | ⟨hk,c,hc,hcell⟩
 ·exact wpAny_Name (wpAny_loadName_local I.ok.kind hk hn hm fin) hd
 ·rcases hk with hk | hk
  ·exact wpAny_Name (wpAny_loadName_cell I.ok.kind hk hc hcell fin) hd
  ·exact wpAny_Name (wpAny_loadName_free I.ok.kind hk hc hcell fin hcd) hd
theorem pe_int {i j pos}:PE X (.Constant (.int i) j pos) (tC (.int i)):=fun _ _ _ H _ I h=>wpAny_Constant_int ⟨.int i,H,I.tok _,⟨_,rfl⟩,h⟩
theorem pe_bl {b j pos}:PE X (.Constant (.bool b) j pos) (tC (.bl b)):=fun _ _ _ H _ I h=>Constant_bool ⟨.bl b,H,I,rfl,h⟩
theorem pe_non {j pos}:PE X (.Constant .none j pos) (tC .non):=fun _ _ _ H _ I h=>Constant_none ⟨.non,H,I,rfl,h⟩
theorem pe_str {x j pos}:PE X (.Constant (.str x) j pos) (tC (.str x)):=fun _ _ _ H _ I h=>Calls.Constant_str ⟨.str x,H,I.tok _,⟨_,rfl⟩,h⟩
def Gl (X:Cx) (x:Str):Prop:=X.env.kindOf x=some .globalImplicit
theorem ld_glob {E:Value→Shared→Prop} {pins:List (Addr×Obj)} {s:Shared} {σ:St} {H:Hp} {x:Str} {u:Value} {pos:Pos} {Q:Value→Shared→Prop} (I:Inv X pins σ H s) (hg:Gl X x) (hm:X.mg x=some u) (h:Q u s)
  (hd:(x==("__debug__":Str))=false:=by decide):wpAny (model X.prog X.w) X.A (eval (.Name x pos) X.env) Q E s:=
 Calls.Name_function_global I.ok.kind hg (Calls.loadGlobal_global (by rw [I.ok.glob];exact I.mod.glob.keeps I.bk) hm h) hd
theorem ld_blt {E:Value→Shared→Prop} {pins:List (Addr×Obj)} {s:Shared} {σ:St} {H:Hp} {x:Str} {u:Value} {pos:Pos} {Q:Value→Shared→Prop} (I:Inv X pins σ H s) (hg:Gl X x) (hm:X.mg x=none) (hv:bootBuiltins x=some u) (h:Q u s)
  (hn:x≠"__name__":=by decide) (hd:(x==("__debug__":Str))=false:=by decide):wpAny (model X.prog X.w) X.A (eval (.Name x pos) X.env) Q E s:=by
 obtain ⟨mb,h1,h2⟩:=I.mod.blt
 exact Calls.Name_function_global I.ok.kind hg (Calls.loadGlobal_builtin (by rw [I.ok.glob];exact I.mod.glob.keeps I.bk) hm (by rw [I.ok.blt];exact h1.keeps I.bk) ((h2 x hn).trans hv) h) hd
theorem pe_glob {x:Str} {v:V} {u:Value} {pos:Pos} (hg:Gl X x) (hm:X.mg x=some u) (r:RelV v u) (hd:(x==("__debug__":Str))=false:=by decide):PE X (.Name x pos) (tC v):=
 fun _ _ _ H _ I h=>ld_glob I hg hm ⟨v,H,I,r,h⟩ hd
theorem pe_bltn {x:Str} {v:V} {u:Value} {pos:Pos} (hg:Gl X x) (hm:X.mg x=none) (hv:bootBuiltins x=some u) (r:RelV v u) (hn:x≠"__name__":=by decide) (hd:(x==("__debug__":Str))=false:=by decide):PE X (.Name x pos) (tC v):=
 fun _ _ _ H _ I h=>ld_blt I hg hm hv ⟨v,H,I,r,h⟩ hn hd
variable {a b:Expr} {ta tb:TE} {pos:Pos}
def tB (t:TE):TT:=fun σ H Q=>t σ H fun x H1=>∃c,x = .bl c∧Q c H1
theorem pt_val {e:Expr} {t:TE} (h:PE X e t) (he:∀whole,isTrue e X.env whole=(do let v ←whole;standAt e.pos;holding [v] (truthy v)):=by intro _;rfl):PT X e (tB t):=by
 intro pins s σ H Q I hw
 refine isTrue_plain (thn (h pins s σ H _ I hw) fun v s1 ⟨x,H1,I1,r1,q1⟩=>?_) (he _)
 obtain ⟨d,rfl,q⟩:=q1
 cases r1
 exact wpAny_truthy_bool ⟨H1,I1,q⟩
variable {tA tB':TT} {rest:List Expr}
def tAnd (t u:TT):TT:=fun σ H Q=>t σ H fun c H1=>if c=true then u σ H1 Q else Q false H1
def tOr (t u:TT):TT:=fun σ H Q=>t σ H fun c H1=>if c=true then Q true H1 else u σ H1 Q
def tNot (t:TT):TT:=fun σ H Q=>t σ H fun c H1=>Q (!c) H1
theorem pw_and1 (ha:PT X a tA):PW X (.BoolOp .And [a] pos) tA:=by
 intro wh pins s σ H Q I h
 refine isTrue_and (thn (ha pins s σ H Q I h) fun c s1 e=>?_)
 cases c with
 | true=>exact isTrue_and_nil e
 | false=>exact e
theorem pw_or1 (ha:PT X a tA):PW X (.BoolOp .Or [a] pos) tA:=by
 intro wh pins s σ H Q I h
 refine isTrue_or (thn (ha pins s σ H Q I h) fun c s1 e=>?_)
 cases c with
 | false=>exact isTrue_or_nil e
 | true=>exact e
theorem pw_and (ha:PT X a tA) (hb:PW X (.BoolOp .And (b::rest) pos) tB'):PW X (.BoolOp .And (a::b::rest) pos) (tAnd tA tB'):=by
 intro wh pins s σ H Q I h
 refine isTrue_and (thn (ha pins s σ H _ I h) fun c s1 ⟨H1,I1,q1⟩=>?_)
 cases c with
 | true=>exact hb wh pins s1 σ H1 Q I1 q1
 | false=>exact ⟨H1,I1,q1⟩
theorem pw_or (ha:PT X a tA) (hb:PW X (.BoolOp .Or (b::rest) pos) tB'):PW X (.BoolOp .Or (a::b::rest) pos) (tOr tA tB'):=by
 intro wh pins s σ H Q I h
 refine isTrue_or (thn (ha pins s σ H _ I h) fun c s1 ⟨H1,I1,q1⟩=>?_)
 cases c with
 | true=>exact ⟨H1,I1,q1⟩
 | false=>exact hb wh pins s1 σ H1 Q I1 q1
theorem pt_not (ha:PT X a tA):PT X (.UnaryOp .Not a pos) (tNot tA):=by
 intro pins s σ H Q I h
 exact isTrue_not (ha pins s σ H (fun c H1=>Q (!c) H1) I h)
def tAndV (ta tb:TE):TE:=fun σ H Q=>ta σ H fun x H1=>∃c,x = .bl c∧if c=true then tb σ H1 Q else Q (.bl false) H1
def tOrV (ta tb:TE):TE:=fun σ H Q=>ta σ H fun x H1=>∃c,x = .bl c∧if c=true then Q (.bl true) H1 else tb σ H1 Q
def tNotV (ta:TE):TE:=fun σ H Q=>ta σ H fun x H1=>∃c,x = .bl c∧Q (.bl (!c)) H1
theorem pe_one {op} {t:TE} (h:PE X a t):PE X (.BoolOp op [a] pos) t:=fun pins s σ H Q I hw=>BoolOp_one (h pins s σ H Q I hw)
theorem pe_and (ha:PE X a ta) (hb:PE X (.BoolOp .And (b::rest) pos) tb):PE X (.BoolOp .And (a::b::rest) pos) (tAndV ta tb):=by
 intro pins s σ H Q I h
 refine BoolOp_and (thn (ha pins s σ H _ I h) fun v s1 ⟨x,H1,I1,r1,q1⟩=>?_)
 obtain ⟨c,rfl,q1⟩:=q1
 cases r1
 refine wpAny_truthy_bool ?_
 cases c with
 | true=>exact hb pins s1 σ H1 Q I1 q1
 | false=>exact ⟨.bl false,H1,I1,rfl,q1⟩
theorem pe_or (ha:PE X a ta) (hb:PE X (.BoolOp .Or (b::rest) pos) tb):PE X (.BoolOp .Or (a::b::rest) pos) (tOrV ta tb):=by
 intro pins s σ H Q I h
 refine BoolOp_or (thn (ha pins s σ H _ I h) fun v s1 ⟨x,H1,I1,r1,q1⟩=>?_)
 obtain ⟨c,rfl,q1⟩:=q1
 cases r1
 refine wpAny_truthy_bool ?_
 cases c with
 | false=>exact hb pins s1 σ H1 Q I1 q1
 | true=>exact ⟨.bl true,H1,I1,rfl,q1⟩
theorem pe_not (ha:PE X a ta):PE X (.UnaryOp .Not a pos) (tNotV ta):=by
 intro pins s σ H Q I h
 refine UnaryOp_ (thn (ha pins s σ H _ I h) fun v s1 ⟨x,H1,I1,r1,q1⟩=>?_)
 obtain ⟨c,rfl,q1⟩:=q1
 cases r1
 exact not_of (wpAny_truthy_bool ⟨.bl (!c),H1,I1,rfl,q1⟩)
def tIf (t:TT) (ta tb:TE):TE:=fun σ H Q=>t σ H fun c H1=>if c=true then ta σ H1 Q else tb σ H1 Q
theorem pe_ifExp {c:Expr} (hc:PT X c tA) (ha:PE X a ta) (hb:PE X b tb):PE X (.IfExp c a b pos) (tIf tA ta tb):=by
 intro pins s σ H Q I h
 refine wpAny_IfExp (thn (hc pins s σ H _ I h) fun d s1 ⟨H1,I1,q1⟩=>?_)
 cases d with
 | true=>exact ha pins s1 σ H1 Q I1 q1
 | false=>exact hb pins s1 σ H1 Q I1 q1
end
def SqL (K:PySem.W.Frag) (H:Hp) (a:Addr) (xs:List V):Prop:=
 Rd H a (.lst xs)∨
  ∃(o:Obj) (its:Array Value) (n:Nat),K.lookup a=some o∧o.cls = .type "list"∧o.dict=none∧o.data = .seq its n∧its.size≤sizeLine∧Vals xs its.toList
def SqT (K:PySem.W.Frag) (H:Hp) (a:Addr) (xs:List V):Prop:=
 Rd H a (.tup xs)∨
  ∃(o:Obj) (its:Array Value) (n:Nat),K.lookup a=some o∧o.cls = .type "tuple"∧o.data = .seq its n∧its.size≤sizeLine∧Vals xs its.toList
def absV:Value→Option V
 | .none=>some .non
 | .bool b=>some (.bl b)
 | .int i _=>some (.int i)
 | .str x _=>some (.str x)
 | .bytes b _=>some (.byt b)
 | .float b _=>some (.flt b)
 | .ref a=>some (.ref a)
 | .type n=>some (.ty n)
 | _=>none
theorem RelV.abs {x:V} {u:Value} (r:RelV x u):absV u=some x:=by
 cases x with
 | non=>cases r;rfl
 | bl _=>cases r;rfl
 | int _=>obtain ⟨t,rfl⟩:=r;rfl
 | str _=>obtain ⟨t,rfl⟩:=r;rfl
 | byt _=>obtain ⟨t,rfl⟩:=r;rfl
 | flt _=>obtain ⟨t,rfl⟩:=r;rfl
 | ref _=>cases r;rfl
 | ty _=>cases r;rfl
theorem RelV.inj {x y:V} {u:Value} (r:RelV x u) (q:RelV y u):x=y:=Option.some.inj (r.abs.symm.trans q.abs)
theorem Vals.inj:∀{xs ys:List V} {us:List Value},Vals xs us→Vals ys us→xs=ys
 | _,_,_,.nil,.nil=>rfl
 | _,_,_,.cons r t,.cons r' t'=>by rw [r.inj r',Vals.inj t t']
section
variable {X:Cx} {pins:List (Addr×Obj)} {σ:St} {H:Hp} {s:Shared} {a:Addr} {xs ys:List V}
theorem SqL.of {K:PySem.W.Frag} (h:H a=some (.lst xs)):SqL K H a xs:=.inl (.inl h)
theorem Inv.list (I:Inv X pins σ H s) (h:SqL X.K H a xs):∃its:List Value,Vals xs its∧PlainL s.heap a its.toArray∧xs.length≤sizeLine:=by
 rcases h with h | ⟨o,its,n,hk,hc,hd,hs,hz,r⟩
 ·obtain ⟨z,its,n,r,e⟩:=h.ok I.hok
  exact ⟨its,r,⟨_,n,e,rfl,rfl,rfl⟩,z⟩
 ·refine ⟨its.toList,r,⟨o,n,I.kIn a o hk,hc,hd,by simpa using hs⟩,?_⟩
  have e:=r.length
  simp only [Array.length_toList] at e
  omega
theorem Inv.tuple (I:Inv X pins σ H s) (h:SqT X.K H a xs):∃its:List Value,Vals xs its∧IsTup s.heap a its.toArray∧xs.length≤sizeLine:=by
 rcases h with h | ⟨o,its,n,hk,hc,hs,hz,r⟩
 ·obtain ⟨z,its,r,p⟩:=h.ok I.hok
  exact ⟨its,r,p,z⟩
 ·refine ⟨its.toList,r,⟨o,I.kIn a o hk,hc,n,by simpa using hs⟩,?_⟩
  have e:=r.length
  simp only [Array.length_toList] at e
  omega
theorem Inv.list_inj (I:Inv X pins σ H s) (h:SqL X.K H a xs) (h':SqL X.K H a ys):xs=ys:=by
 obtain ⟨its,r,⟨o,n,e,_,_,d⟩,_⟩:=I.list h
 obtain ⟨its',r',⟨o',n',e',_,_,d'⟩,_⟩:=I.list h'
 rw [e] at e';cases e'
 rw [d] at d'
 injection d' with d1 _
 have:its=its':=by simpa using congrArg Array.toList d1
 subst this
 exact r.inj r'
theorem Inv.tuple_inj (I:Inv X pins σ H s) (h:SqT X.K H a xs) (h':SqT X.K H a ys):xs=ys:=by
 obtain ⟨its,r,⟨o,e,_,n,d⟩,_⟩:=I.tuple h
 obtain ⟨its',r',⟨o',e',_,n',d'⟩,_⟩:=I.tuple h'
 rw [e] at e';cases e'
 rw [d] at d'
 injection d' with d1 _
 have:its=its':=by simpa using congrArg Array.toList d1
 subst this
 exact r.inj r'
end
abbrev Cx.wish (X:Cx) (E:Value→Shared→Prop):Cx:={ X with xe:=E }
abbrev Cx.nox (X:Cx):Cx:=X.wish fun _ _=>False
theorem Cx.Ok.wish {X:Cx} (ok:X.Ok) (E:Value→Shared→Prop):(X.wish E).Ok:=
 ⟨ok.mod,ok.kind,ok.glob,ok.blt,ok.above,ok.inj,ok.has,ok.cab,ok.hd,ok.frames,ok.stk,ok.exf,ok.bs,ok.bsz,ok.noex,ok.exfs,ok.funs,ok.frf⟩
theorem Cx.Ok.unwish {X:Cx} {E:Value→Shared→Prop} (ok:(X.wish E).Ok):X.Ok:=
 ⟨ok.mod,ok.kind,ok.glob,ok.blt,ok.above,ok.inj,ok.has,ok.cab,ok.hd,ok.frames,ok.stk,ok.exf,ok.bs,ok.bsz,ok.noex,ok.exfs,ok.funs,ok.frf⟩
section
variable {X:Cx} {pins:List (Addr×Obj)} {σ:St} {H:Hp} {s:Shared} {E:Value→Shared→Prop}
theorem Inv.wish (I:Inv X pins σ H s) (E:Value→Shared→Prop):Inv (X.wish E) pins σ H s:=⟨I.ok.wish E,I.os,I.bare,I.base,I.loc,I.cell,I.free,I.freeC,I.pin,I.hok,I.len⟩
theorem Inv.unwish (I:Inv (X.wish E) pins σ H s):Inv X pins σ H s:=⟨I.ok.unwish,I.os,I.bare,I.base,I.loc,I.cell,I.free,I.freeC,I.pin,I.hok,I.len⟩
theorem SP.unwish {D:Ends} {f:Flow} {s':Shared} (h:SP (X.wish E) pins D f s'):SP X pins D f s':=by
 cases f with
 | next=>obtain ⟨σ',H',I,q⟩:=h;exact ⟨σ',H',I.unwish,q⟩
 | brk=>obtain ⟨σ',H',I,q⟩:=h;exact ⟨σ',H',I.unwish,q⟩
 | cont=>obtain ⟨σ',H',I,q⟩:=h;exact ⟨σ',H',I.unwish,q⟩
 | ret u=>obtain ⟨v,σ',H',I,r,q⟩:=h;exact ⟨v,σ',H',I.unwish,r,q⟩
theorem PSs.nox {st:List Stmt} {t:TS} (h:PSs X.nox st t):PSs X st t:=fun pins s σ H D I hw=>
 wpAny_mono (h pins s σ H D (I.wish _) hw) (fun _ _ q=>q.unwish) fun _ _ z=>False.elim z
end
section
variable {X:Cx} {st:Stmt} {rest:List Stmt} {t u:TS} {e:Expr} {te:TE} {pos:Pos}
def tNext:TS:=fun D σ H=>D.nx σ H
def tSeq (t u:TS):TS:=fun D σ H=>t { D with nx:=u D } σ H
theorem pss_nil:PSs X [] tNext:=fun _ _ σ H _ I h=>wpAny_execs_nil ⟨σ,H,I,h⟩
theorem pss_cons (h1:PS X st t) (h2:PSs X rest u):PSs X (st::rest) (tSeq t u):=by
 intro pins s σ H D I h
 refine wpAny_execs_cons (thn (h1 pins s σ H { D with nx:=u D } I h) fun f s1 q=>?_)
 cases f with
 | next=>
  obtain ⟨σ',H',I',q⟩:=q
  exact h2 pins s1 σ' H' D I' q
 | ret v=>exact q
 | brk=>exact q
 | cont=>exact q
theorem pss_one (h1:PS X st t):PSs X [st] t:=by
 intro pins s σ H D I h
 refine wpAny_execs_cons (thn (h1 pins s σ H D I h) fun f s1 q=>?_)
 cases f with
 | next=>exact wpAny_execs_nil q
 | ret v=>exact q
 | brk=>exact q
 | cont=>exact q
theorem Inv.quiet {pins:List (Addr×Obj)} {σ:St} {H:Hp} {s:Shared} (I:Inv X pins σ H s):interactive X.env=false:=by simp [interactive,I.ok.kind]
def tDrop (te:TE):TS:=fun D σ H=>te σ H fun _ H1=>D.nx σ H1
theorem ps_expr (he:PE X e te) (hs:swapsWith e none pos.line X.env=pure false:=by rfl):PS X (.Expr e pos) (tDrop te):=by
 intro pins s σ H D I h
 exact wpAny_Expr_any (thn (he pins s σ H _ I h) fun v s1 ⟨x,H1,I1,r1,q1⟩=>⟨σ,H1,I1,q1⟩) I.quiet hs
def tRet (te:TE):TS:=fun D σ H=>te σ H D.rt
theorem ps_ret (he:PE X e te):PS X (.Return (some e) pos) (tRet te):=by
 intro pins s σ H D I h
 exact wpAny_Return_some (thn (he pins s σ H _ I h) fun v s1 ⟨x,H1,I1,r1,q1⟩=>⟨x,σ,H1,I1,r1,q1⟩)
def tIfS (c:TT) (t u:TS):TS:=fun D σ H=>c σ H fun b H1=>if b=true then t D σ H1 else u D σ H1
theorem ps_if {c:Expr} {a b:List Stmt} {tc:TT} (hc:PT X c tc) (ha:PSs X a t) (hb:PSs X b u):PS X (.If c a b pos) (tIfS tc t u):=by
 intro pins s σ H D I h
 refine wpAny_If (thn (hc pins s σ H _ I h) fun d s1 ⟨H1,I1,q1⟩=>?_)
 cases d with
 | true=>exact ha pins s1 σ H1 D I1 q1
 | false=>exact hb pins s1 σ H1 D I1 q1
end
abbrev TG:=V→St→Hp→(St→Hp→Prop)→Prop
abbrev TGs:=List V→St→Hp→(St→Hp→Prop)→Prop
def PG (X:Cx) (target:Expr) (t:TG):Prop:=
 ∀(pins:List (Addr×Obj)) (s:Shared) (σ:St) (H:Hp) (v:V) (u:Value) (Q:St→Hp→Prop),Inv X pins σ H s→RelV v u→t v σ H Q→
  wpAny (model X.prog X.w) X.A (assign target X.env u) (fun _ s'=>∃σ' H',Inv X pins σ' H' s'∧Q σ' H') X.xe s
def PGs (X:Cx) (ts:List Expr) (t:TGs):Prop:=
 ∀(pins:List (Addr×Obj)) (s:Shared) (σ:St) (H:Hp) (vs:List V) (us:List Value) (Q:St→Hp→Prop),Inv X pins σ H s→Vals vs us→t vs σ H Q→
  wpAny (model X.prog X.w) X.A (assignInOrder ((assignEach ts X.env).map (·.2)) us) (fun _ s'=>∃σ' H',Inv X pins σ' H' s'∧Q σ' H') X.xe s
abbrev TSet:=V→V→V→Hp→(Hp→Prop)→Prop
def PSet (X:Cx) (t:TSet):Prop:=
 ∀(pins:List (Addr×Obj)) (s:Shared) (σ:St) (H:Hp) (o i v:V) (ov iv u:Value) (Q:Hp→Prop),Inv X pins σ H s→RelV o ov→RelV i iv→RelV v u→t o i v H Q→
  wpAny (model X.prog X.w) X.A (setItem ov iv u) (fun _ s'=>∃H',Inv X pins σ H' s'∧Q H') X.xe s
abbrev TIp:=V→V→Hp→VK→Prop
def PIp (X:Cx) (op:Operator) (t:TIp):Prop:=
 ∀(pins:List (Addr×Obj)) (s:Shared) (σ:St) (H:Hp) (x y:V) (v u:Value) (Q:VK),Inv X pins σ H s→RelV x v→RelV y u→t x y H Q→
  wpAny (model X.prog X.w) X.A (inplaceOp op v u) (EP X pins σ Q) X.xe s
section
variable {X:Cx} {pos:Pos}
def gName (i:Nat):TG:=fun v σ H Q=>Q (σ.set i (some v)) H
theorem pg_name {i:Nat} {x:Str} (hN:X.N.Nodup) (hi:X.N[i]? = some x) (hx:Loc X.env.scope x) (hf:X.fn x=true∨X.env.scope.names.lookup x=some .local:=by first | exact .inl rfl | exact .inr rfl | assumption):PG X (.Name x pos) (gName i):=by
 intro pins s σ H v u Q I r h
 exact wpAny_assign_Name (store_ok I hN hi hx r (fun s' I'=>⟨_,H,I',h⟩) hf)
def gNil:TGs:=fun vs σ H Q=>vs=[]∧Q σ H
def gCons (t:TG) (u:TGs):TGs:=fun vs σ H Q=>∃v r,vs=v::r∧t v σ H fun σ' H'=>u r σ' H' Q
theorem pgs_nil:PGs X [] gNil:=by
 intro pins s σ H vs us Q I r h
 obtain ⟨e,h⟩:=h
 subst e
 cases r
 exact assignInOrder_nil ⟨σ,H,I,h⟩
theorem pgs_cons {e:Expr} {es:List Expr} {t:TG} {u:TGs} (h1:PG X e t) (h2:PGs X es u)
  (hs:(assignEach (e::es) X.env).map (·.2)=assign e X.env::(assignEach es X.env).map (·.2):=by rfl):PGs X (e::es) (gCons t u):=by
 intro pins s σ H vs us Q I r h
 obtain ⟨v,vr,e1,h⟩:=h
 subst e1
 cases r with
 | cons r rr=>
  rw [hs]
  refine assignInOrder_cons (thn (h1 pins s σ H _ _ _ I r h) fun _ s1 ⟨σ1,H1,I1,q1⟩=>?_)
  exact h2 pins s1 σ1 H1 _ _ Q I1 rr q1
def gTup (K:PySem.W.Frag) (n:Nat) (t:TGs):TG:=fun v σ H Q=>∃a xs,v = .ref a∧SqT K H a xs∧xs.length=n∧t xs σ H Q
theorem pg_tup {es:List Expr} {k:Nat} {t:TGs} {n:Nat} (hc:X.calm=true) (h:PGs X es t)
  (hn:(assignEach es X.env).length=n:=by rfl) (hst:(assignEach es X.env).findIdx? (·.1)=none:=by rfl):PG X (.Tuple es k pos) (gTup X.K n t):=by
 intro pins s σ H v u Q I r hw
 obtain ⟨a,xs,e1,hq,hl,hw⟩:=hw
 subst e1
 cases r
 obtain ⟨its,rv,ht,hz⟩:=I.tuple hq
 refine assign_Tuple_tuple (I.ok.hd hc) ht (by simp [hn,←hl,rv.length]) hst fun h' hx=>?_
 have I1:Inv X pins σ H { s with heap:=h' }:=I.kept (t':=s.toks) fun b o e=>hx b o (Nat.ne_of_lt (Heap.lt_size e)) e
 exact h pins _ σ H xs _ Q I1 (by simpa using rv) hw
def gSub (to ti:TE) (t:TSet):TG:=fun v σ H Q=>to σ H fun o H1=>ti σ H1 fun i H2=>t o i v H2 fun H3=>Q σ H3
theorem pg_sub {o i:Expr} {to ti:TE} {t:TSet} (ho:PE X o to) (hi:PE X i ti) (hs:PSet X t)
  (ha:∀v,assign (.Subscript o i pos) X.env v=(do
   let ov ←holding [v] (eval o X.env)
   let iv ←holding [v,ov] (eval i X.env)
   standAt pos
   holding [v,ov,iv] (setItem ov iv v)
   release [v,ov,iv] []):=by intro _;rfl):PG X (.Subscript o i pos) (gSub to ti t):=by
 intro pins s σ H v u Q I r h
 rw [ha]
 refine wpAny_bind (wpAny_holding (thn (ho pins s σ H _ I h) fun ov s1 ⟨x,H1,I1,r1,q1⟩=>?_))
 refine wpAny_bind (wpAny_holding (thn (hi pins s1 σ H1 _ I1 q1) fun iv s2 ⟨y,H2,I2,r2,q2⟩=>?_))
 refine wpAny_bind (wpAny_standAt (wpAny_bind (wpAny_holding (thn (hs pins s2 σ H2 x y v ov iv u _ I2 r1 r2 r q2) fun _ s3 ⟨H3,I3,q3⟩=>?_))))
 exact wpAny_release ⟨σ,H3,I3,q3⟩
def tAsg (te:TE) (g:TG):TS:=fun D σ H=>te σ H fun x H1=>g x σ H1 D.nx
theorem ps_asg {tg e:Expr} {te:TE} {g:TG} (he:PE X e te) (hg:PG X tg g) (hs:swapsWithSole [tg] e pos.line X.env=pure false:=by rfl) (hw:swappedStores [tg] e X.env=pure none:=by rfl)
  (h1:(assignEach [tg] X.env).map (·.2)=[assign tg X.env]:=by rfl):PS X (.Assign [tg] e pos) (tAsg te g):=by
 intro pins s σ H D I h
 refine wpAny_Assign_stores (thn (he pins s σ H _ I h) fun v s1 ⟨x,H1,I1,r1,q1⟩=>?_) hs hw
 rw [h1]
 exact thn (hg pins s1 σ H1 x v _ I1 r1 q1) fun _ s2 q=>q
theorem ps_set {i:Nat} {x:Str} {e:Expr} {te:TE} {pos':Pos} (hN:X.N.Nodup) (hi:X.N[i]? = some x) (hx:Loc X.env.scope x) (he:PE X e te) (hs:swapsWith e (some (.Name x pos')) pos.line X.env=pure false:=by rfl) (hf:X.fn x=true∨X.env.scope.names.lookup x=some .local:=by first | exact .inl rfl | exact .inr rfl | assumption) :
  PS X (.Assign [.Name x pos'] e pos) (tAsg te (gName i)):=by
 intro pins s σ H D I h
 refine wpAny_Assign_Name (thn (he pins s σ H _ I h) fun v s1 ⟨y,H1,I1,r1,q1⟩=>?_) hs
 exact store_ok I1 hN hi hx r1 (fun s2 I2=>⟨_,H1,I2,q1⟩) hf
def tPar (i j:Nat) (ta:TA):TS:=fun D σ H=>ta σ H fun vs H1=>∃v w,vs=[v,w]∧D.nx ((σ.set i (some v)).set j (some w)) H1
theorem ps_par {i j:Nat} {x y:Str} {a b:Expr} {ta:TA} {px py pt:Pos} {kt k2 pt2} (hc:X.calm=true) (hN:X.N.Nodup) (hi:X.N[i]? = some x) (hj:X.N[j]? = some y) (hij:i≠j)
  (hx:X.env.scope.names.lookup x=some .local) (hy:X.env.scope.names.lookup y=some .local) (ha:PA X [a,b] ta)
  (hw:swappedStores [.Tuple [.Name x px,.Name y py] kt pt] (.Tuple [a,b] k2 pt2) X.env=pure (some [x,y]))
  (hs:swapsWithSole [.Tuple [.Name x px,.Name y py] kt pt] (.Tuple [a,b] k2 pt2) pos.line X.env=pure false:=by rfl) :
  PS X (.Assign [.Tuple [.Name x px,.Name y py] kt pt] (.Tuple [a,b] k2 pt2) pos) (tPar i j ta):=by
 intro pins s σ H D I h
 rw [exec_Assign_arm]
 refine wpAny_bind (wpAny_standAt ?_)
 rw [hs]
 refine wpAny_bind (wpAny_pure ?_)
 rw [if_neg (by decide)]
 refine wpAny_bind (Tuple_ (thn (ha _ pins s σ H _ I h) fun us s1 ⟨vs,H1,I1,r1,q1⟩=>?_))
 obtain ⟨v,w,e1,q1⟩:=q1
 subst e1
 obtain ⟨u1,u2,rfl,rv,rw'⟩:∃u1 u2,us=[u1,u2]∧RelV v u1∧RelV w u2:=by
  cases r1 with
  | cons p q=>
   cases q with
   | cons p' q'=>
    cases q'
    exact ⟨_,_,rfl,p,p'⟩
 refine wpAny_newObj_type ?_ (by show 2≤sizeLine;decide)
 have I2:Inv X pins σ H1 { s1 with heap:=s1.heap.push { cls:=.type "tuple",data:=.seq [u1,u2].toArray } }:=I1.kept (t':=s1.toks) fun b o e=>Heap.get?_push_of_some _ e
 rw [hw]
 refine wpAny_bind (wpAny_pure ?_)
 show wpAny (model X.prog X.w) X.A (do rule "assign.swapped-stores";let items ←unpackItems (.ref s1.heap.objs.size) 2 none;assignInOrder [fun v=>bindName X.env y v,fun v=>bindName X.env x v] items.reverse;pure Flow.next) _ _ _
 refine wpAny_bind (wpAny_rule (wpAny_bind (unpackItems_tuple (items:=#[u1,u2]) (I.ok.hd hc) (IsTup.new s1.heap _) fun h' hx'=>?_)))
 have I3:=I2.kept (h':=h') (t':=s1.toks) fun b o e=>hx' b o (Nat.ne_of_lt (Heap.lt_size e)) e
 show wpAny _ _ (assignInOrder [fun v=>bindName X.env y v,fun v=>bindName X.env x v] [u2,u1] >>= fun _=>pure Flow.next) _ _ _
 refine wpAny_bind (assignInOrder_cons (wpAny_bindName (store_ok I3 hN hj (.inl hy) rw' (fun s2 I4=>?_) (.inr hy))))
 refine assignInOrder_cons (wpAny_bindName (store_ok I4 hN hi (.inl hx) rv (fun s3 I5=>assignInOrder_nil (wpAny_pure ?_)) (.inr hx)))
 rw [List.set_comm _ _ (Ne.symm hij)] at I5
 exact ⟨_,H1,I5,q1⟩
def tAug (i:Nat) (te:TE) (ti:TIp):TS:=fun D σ H=>∃x,σ[i]? = some (some x)∧te σ H fun y H1=>ti x y H1 fun z H2=>D.nx (σ.set i (some z)) H2
theorem ps_aug {i:Nat} {x:Str} {e:Expr} {te:TE} {op:Operator} {ti:TIp} {pos':Pos} (hN:X.N.Nodup) (hi:X.N[i]? = some x) (hx:Loc X.env.scope x) (he:PE X e te) (ho:PIp X op ti) (hf:X.fn x=true∨X.env.scope.names.lookup x=some .local:=by first | exact .inl rfl | exact .inr rfl | assumption) :
  PS X (.AugAssign (.Name x pos') op e pos) (tAug i te ti):=by
 intro pins s σ H D I h
 obtain ⟨v,e1,h⟩:=h
 obtain ⟨m,hn,hl⟩:=I.loc
 have vis:Vis X.env.scope x:=by rcases hx with k | k;exact .inl k;exact .inr (.inl k)
 obtain ⟨u,r,l⟩:=hl i x v hi e1 vis
 refine wpAny_AugAssign_Name ?_
 have go:wpAny (model X.prog X.w) X.A (eval e X.env) (fun w s₂=>wpAny (model X.prog X.w) X.A (inplaceOp op u w) (fun r s₃=>wpAny (model X.prog X.w) X.A (storeName X.env x r) (fun _=>SP X pins D .next) X.xe s₃) X.xe s₂) X.xe s:=by
  refine thn (he pins s σ H _ I h) fun w s1 ⟨y,H1,I1,r1,q1⟩=>?_
  refine thn (ho pins s1 σ H1 v y u w _ I1 r r1 q1) fun z s2 ⟨zv,H2,I2,r2,q2⟩=>?_
  exact store_ok I2 hN hi hx r2 (fun s3 I3=>⟨_,H2,I3,q2⟩) hf
 rcases l with ⟨hk,hm⟩ | ⟨hk,c,hc,hcell⟩
 ·exact wpAny_loadName_local I.ok.kind hk hn hm go
 ·rcases hk with hk | hk
  ·exact wpAny_loadName_cell I.ok.kind hk hc hcell go
  ·rcases hx with k | k
   ·have:X.env.scope.names.lookup x=some .free:=hk
    rw [k] at this;cases this
   ·have:X.env.scope.names.lookup x=some .free:=hk
    rw [k] at this;cases this
def ipI (f:Int→Int→Int):TIp:=fun x y H Q=>∃i j,x = .int i∧y = .int j∧Q (.int (f i j)) H
theorem ip_add:PIp X .Add (ipI fun i j=>i+j):=by
 intro pins s σ H x y v u Q I r1 r2 h
 obtain ⟨i,j,e1,e2,q⟩:=h
 subst e1;subst e2
 obtain ⟨t,rfl⟩:=r1
 obtain ⟨t',rfl⟩:=r2
 exact iadd_int ⟨.int _,H,I.tok _,⟨_,rfl⟩,q⟩
end
section
variable {X:Cx} {pos:Pos}
def tWhile (c:TT) (tb:TS):TS:=fun D σ H=>∃W:Nat→St→Hp→Prop,(∃m,W m σ H)∧∀m σ H,W m σ H→
 c σ H fun b H1=>if b=true then ∃N:St→Hp→Prop,(∀σ' H',N σ' H'→∃m',m'<m∧W m' σ' H')∧tb { D with nx:=N,ct:=N,bk:=D.nx } σ H1 else D.nx σ H1
theorem ps_while {c:Expr} {body:List Stmt} {tc:TT} {tb:TS} (hp:PassesOwn (model X.prog X.w) X.A X.env X.xe) (hc:PT X c tc) (hb:PSs X body tb):PS X (.While c body [] pos) (tWhile tc tb):=by
 intro pins s σ H D I h
 obtain ⟨W,⟨m0,w0⟩,turn⟩:=h
 refine wpAny_While (codeAny_whileLoop (fun n s'=>∃σ' H',Inv X pins σ' H' s'∧W n σ' H') ?_ m0 ⟨σ,H,I,w0⟩)
 rintro n s1 ⟨σ1,H1,I1,w1⟩
 refine wpAny_passesOwn hp (thn (hc pins s1 σ1 H1 _ I1 (turn n σ1 H1 w1)) fun b s2 ⟨H2,I2,q2⟩=>?_)
 cases b with
 | true=>
  obtain ⟨N,hN,q2⟩:=q2
  rw [if_pos rfl]
  refine wpAny_passesOwn hp (thn (hb pins s2 σ1 H2 _ I2 q2) fun f s3 q3=>?_)
  cases f with
  | next=>
   obtain ⟨σ3,H3,I3,n3⟩:=q3
   obtain ⟨m',hm,w3⟩:=hN σ3 H3 n3
   exact ⟨m',hm,σ3,H3,I3,w3⟩
  | cont=>
   obtain ⟨σ3,H3,I3,n3⟩:=q3
   obtain ⟨m',hm,w3⟩:=hN σ3 H3 n3
   exact ⟨m',hm,σ3,H3,I3,w3⟩
  | brk=>exact q3
  | ret v=>exact q3
 | false=>
  rw [if_neg Bool.false_ne_true]
  exact wpAny_execs_nil ⟨σ1,H2,I2,q2⟩
end
structure It where
 go:Nat→Hp→Prop
 yld:Nat→Hp→V→Hp→Prop
 stop:Nat→Hp→Prop
def FpOk (X:Cx) (pins:List (Addr×Obj)) (H:Hp) (b:Addr):Prop:=
 H b=none∧b≠X.env.locals∧b∉X.fs∧(b∈X.ex∨X.s₀.heap.objs.size≤b)∧(∀x c,X.env.cells.lookup x=some c→c≠b)∧∀p∈X.pn++pins,p.1≠b
theorem Inv.fpOk {X:Cx} {pins:List (Addr×Obj)} {σ:St} {H H':Hp} {s:Shared} {b:Addr} (I:Inv X pins σ H s) (hb:s.heap.objs.size≤b) (hn:H' b=none):FpOk X pins H' b:=by
 refine ⟨hn,Nat.ne_of_gt (Nat.lt_of_lt_of_le I.lt hb),I.nofs hb,.inr (Nat.le_trans I.sz hb),fun x c e z=>?_,fun p hp z=>?_⟩
 ·obtain ⟨v,q⟩:=I.cell x c e
  exact absurd (Nat.lt_of_lt_of_le q.lt (by rw [z];exact hb)) (Nat.lt_irrefl _)
 ·exact absurd (Nat.lt_of_lt_of_le (Heap.lt_size (I.pin p hp).1) (by rw [z];exact hb)) (Nat.lt_irrefl _)
structure Turn (P:Program) (w:World) (K:PySem.W.Frag) (tg:Expr) (J:It) (fp:List Addr) (it:Addr) (tn:Nat→Heap→Prop):Prop where
 mem:it∈fp
 obj:∀i h,tn i h→∀b∈fp,∃o,h.get? b=some o∧∀v,o.data≠.cell v
 keep:∀i h h',tn i h→(∀b∈fp,∀o,h.get? b=some o→h'.get? b=some o)→tn i h'
 item:∀(X:Cx),X.prog=P→X.w=w→X.K=K→X.calm=true→∀(i:Nat) (pins:List (Addr×Obj)) (s:Shared) (σ:St) (H:Hp) (E:Value→Shared→Prop),Inv X pins σ H s→(∀b∈fp,FpOk X pins H b)→tn i s.heap→J.go i H→
  wpAny (model P w) X.A (pyNext (.ref it)) (fun r s1=>∃u,r=some u∧
   wpAny (model P w) X.A (letOwnedTupleGo tg (.ref it) u) (fun _ s2=>∃x H',Inv X pins σ H' s2∧RelV x u∧J.yld i H x H'∧tn (i+1) s2.heap∧∀b∈fp,H' b=none) E s1) E s
 done:∀(X:Cx),X.prog=P→X.w=w→X.K=K→X.calm=true→∀(i:Nat) (pins:List (Addr×Obj)) (s:Shared) (σ:St) (H:Hp) (E:Value→Shared→Prop),Inv X pins σ H s→(∀b∈fp,FpOk X pins H b)→tn i s.heap→J.stop i H→
  wpAny (model P w) X.A (pyNext (.ref it)) (fun r s1=>r=none∧Inv X pins σ H s1) E s
 self:∀(A:Around) (i:Nat) (s:Shared) (Q:Value→Shared→Prop) (E:Value→Shared→Prop),tn i s.heap→Q (.ref it) s→wpAny (model P w) A (pyIter (.ref it)) Q E s
abbrev TI:=St→Hp→(It→Hp→Prop)→Prop
def PIE (X:Cx) (pins:List (Addr×Obj)) (σ:St) (tg:Expr) (R:It→Hp→Prop) (itv:Value) (s2:Shared):Prop:=
 ∃(it:Addr) (fp:List Addr) (tn:Nat→Heap→Prop) (J:It) (H':Hp),itv = .ref it∧Inv X pins σ H' s2∧Turn X.prog X.w X.K tg J fp it tn∧tn 0 s2.heap∧(∀b∈fp,FpOk X pins H' b)∧R J H'
def PI (X:Cx) (tg iter:Expr) (wi:TI):Prop:=
 ∀(pins:List (Addr×Obj)) (s:Shared) (σ:St) (H:Hp) (R:It→Hp→Prop),Inv X pins σ H s→wi σ H R→
  wpAny (model X.prog X.w) X.A (eval iter X.env) (fun v s1=>wpAny (model X.prog X.w) X.A (pyIter v) (PIE X pins σ tg R) X.xe s1) X.xe s
theorem go_of {M:Model} {A:Around} {E:Value→Shared→Prop} {s:Shared} {tg:Expr} {it:Addr} {u:Value} {o:Obj} {n:String} {vs:Array Value} {Q:Unit→Shared→Prop} (ho:s.heap.get? it=some o) (hc:o.cls = .type n) (hd:o.data = .fields vs)
    (hn:["enumerate","zip","dict_itemiterator","dict_reverseitemiterator","odict_iterator","itertools.zip_longest","itertools.pairwise"].contains n=false) (hQ:Q () s):wpAny M A (letOwnedTupleGo tg (.ref it) u) Q E s:=by
  unfold letOwnedTupleGo
  cases tg<;>first
    | exact wpAny_pure hQ
    | (cases u<;>first
        | exact wpAny_pure hQ
        | (refine wpAny_bind (wpAny_load ho ?_)
           rw [hc,hd]
           show wpAny M A (if (["enumerate","zip","dict_itemiterator","dict_reverseitemiterator","odict_iterator","itertools.zip_longest","itertools.pairwise"].contains n&&vs[0]?==some (rawInt _))=true then _ else _) Q E s
           rw [if_neg (by intro h;rw [hn,Bool.false_and] at h;cases h)]
           exact wpAny_pure hQ))
def Itl (K:PySem.W.Frag) (a:Addr):It:=
 ⟨fun i H=>∃xs x,SqL K H a xs∧xs[i]? = some x,fun i H x H'=>H'=H∧∀xs,SqL K H a xs→xs[i]? = some x,fun i H=>∃xs,SqL K H a xs∧xs.length≤i⟩
def Itt (K:PySem.W.Frag) (a:Addr):It:=
 ⟨fun i H=>∃xs x,SqT K H a xs∧xs[i]? = some x,fun i H x H'=>H'=H∧∀xs,SqT K H a xs→xs[i]? = some x,fun i H=>∃xs,SqT K H a xs∧xs.length≤i⟩
def Itr (lo:Int) (n:Nat):It:=⟨fun i _=>i<n,fun i H x H'=>H'=H∧x = .int (lo+i),fun i _=>n≤i⟩
theorem turn_list {P:Program} {w:World} {K:PySem.W.Frag} {tg:Expr} (a it:Addr):Turn P w K tg (Itl K a) [it] it (fun i h=>h.IsListIter it a i) where
 mem:=by simp
 obj:=fun i h st b hb=>by
  have e:b=it:=by simpa using hb
  subst e
  obtain ⟨o,e,c,d⟩:=st
  exact ⟨o,e,fun v z=>by rw [d] at z;cases z⟩
 keep:=fun i h h' st k=>st.at fun o e=>k it (by simp) o e
 item:=by
  intro X hP hw hK hc i pins s σ H E I hf st hg
  subst hP hw hK
  obtain ⟨xs,x,hq,hx⟩:=hg
  obtain ⟨its,rv,p,hz⟩:=I.list hq
  obtain ⟨u,hu,ru⟩:=rv.get hx
  obtain ⟨f0,f1,f2,f3,f4,f5⟩:=hf it (by simp)
  refine wpAny_pyNext_list_item st p.isList (x:=u) (by simpa using hu) fun h' st' sb=>?_
  have I1:Inv X pins σ H { s with heap:=h' }:=I.turned (t':=s.toks) (fun b o hb e=>(sb.2 b hb).trans e) f0 f1 f3 f4 f5
  obtain ⟨o,e,c,d⟩:=id st'
  exact ⟨u,rfl,go_of (s:={ s with heap:=h' }) e c d (by decide) ⟨x,H,I1,ru,⟨rfl,fun ys hy=>by rw [I.list_inj hy hq];exact hx⟩,st',fun b hb=>(hf b hb).1⟩⟩
 done:=by
  intro X hP hw hK hc i pins s σ H E I hf st hg
  subst hP hw hK
  obtain ⟨xs,hq,hx⟩:=hg
  obtain ⟨its,rv,p,hz⟩:=I.list hq
  obtain ⟨f0,f1,f2,f3,f4,f5⟩:=hf it (by simp)
  have hl:=rv.length
  exact wpAny_pyNext_list_end (I.ok.hd hc) st p.isList (by simp;omega) fun h' eb=>⟨rfl,I.turned (t':=s.toks) (fun b o hb e=>eb b o hb e) f0 f1 f3 f4 f5⟩
 self:=fun _ _ _ _ _ st h=>wpAny_pyIter_listiter st h
theorem turn_tuple {P:Program} {w:World} {K:PySem.W.Frag} {tg:Expr} (a it:Addr):Turn P w K tg (Itt K a) [it] it (fun i h=>h.IsTupleIter it a i) where
 mem:=by simp
 obj:=fun i h st b hb=>by
  have e:b=it:=by simpa using hb
  subst e
  obtain ⟨o,e,c,d⟩:=st
  exact ⟨o,e,fun v z=>by rw [d] at z;cases z⟩
 keep:=fun i h h' st k=>st.at fun o e=>k it (by simp) o e
 item:=by
  intro X hP hw hK hc i pins s σ H E I hf st hg
  subst hP hw hK
  obtain ⟨xs,x,hq,hx⟩:=hg
  obtain ⟨its,rv,p,hz⟩:=I.tuple hq
  obtain ⟨u,hu,ru⟩:=rv.get hx
  obtain ⟨f0,f1,f2,f3,f4,f5⟩:=hf it (by simp)
  refine wpAny_pyNext_tuple_item st (show s.heap.IsTuple a its.toArray from p) (x:=u) (by simpa using hu) fun h' st' sb=>?_
  have I1:Inv X pins σ H { s with heap:=h' }:=I.turned (t':=s.toks) (fun b o hb e=>(sb.2 b hb).trans e) f0 f1 f3 f4 f5
  obtain ⟨o,e,c,d⟩:=id st'
  exact ⟨u,rfl,go_of (s:={ s with heap:=h' }) e c d (by decide) ⟨x,H,I1,ru,⟨rfl,fun ys hy=>by rw [I.tuple_inj hy hq];exact hx⟩,st',fun b hb=>(hf b hb).1⟩⟩
 done:=by
  intro X hP hw hK hc i pins s σ H E I hf st hg
  subst hP hw hK
  obtain ⟨xs,hq,hx⟩:=hg
  obtain ⟨its,rv,p,hz⟩:=I.tuple hq
  obtain ⟨f0,f1,f2,f3,f4,f5⟩:=hf it (by simp)
  have hl:=rv.length
  exact wpAny_pyNext_tuple_end (I.ok.hd hc) st (show s.heap.IsTuple a its.toArray from p) (by simp;omega) fun h' eb=>⟨rfl,I.turned (t':=s.toks) (fun b o hb e=>eb b o hb e) f0 f1 f3 f4 f5⟩
 self:=fun _ _ _ _ _ st h=>wpAny_pyIter_tupleiter st h
theorem turn_range {P:Program} {w:World} {K:PySem.W.Frag} {tg:Expr} (it:Addr) (lo:Int) (n:Nat):Turn P w K tg (Itr lo n) [it] it (fun i h=>IsRangeIter h it (lo+(i:Nat)*1) ((n:Int)-(i:Nat)) 1) where
 mem:=by simp
 obj:=fun i h st b hb=>by
  have e:b=it:=by simpa using hb
  subst e
  exact ⟨_,st,fun v z=>by
   have z':Data.fields _=Data.cell v:=z
   cases z'⟩
 keep:=fun i h h' st k=>k it (by simp) _ st
 item:=by
  intro X hP hw hK hc i pins s σ H E I hf st hg
  subst hP hw hK
  obtain ⟨f0,f1,f2,f3,f4,f5⟩:=hf it (by simp)
  have W:=Walks.range (prog:=X.prog) (w:=X.w) (I.ok.hd hc) it lo 1 n
  refine W.item i s _ _ hg st fun v h' tk hv st' kk=>?_
  obtain ⟨t,rfl⟩:=hv
  have I1:Inv X pins σ H { s with heap:=h',toks:=tk }:=I.turned (fun b o hb e=>kk b o (by simpa using hb) e) f0 f1 f3 f4 f5
  refine ⟨_,rfl,go_of (s:={ s with heap:=h',toks:=tk }) (n:="range_iterator") st' rfl rfl (by decide) ⟨.int (lo+i),H,I1,⟨t,?_⟩,⟨rfl,rfl⟩,st',fun b hb=>(hf b hb).1⟩⟩
  rw [Int.mul_one]
 done:=by
  intro X hP hw hK hc i pins s σ H E I hf st hg
  subst hP hw hK
  obtain ⟨f0,f1,f2,f3,f4,f5⟩:=hf it (by simp)
  exact wpAny_pyNext_range_end (I.ok.hd hc) st (by have:n≤i:=hg;omega) fun h' eb=>⟨rfl,I.turned (t':=s.toks) (fun b o hb e=>eb b o hb e) f0 f1 f3 f4 f5⟩
 self:=fun _ _ _ _ _ st h=>wpAny_pyIter_rangeiter st h
section
variable {X:Cx} {tg:Expr}
def iList (K:PySem.W.Frag) (tl:TE):TI:=fun σ H R=>tl σ H fun x H1=>∃a,x = .ref a∧(∃xs,SqL K H1 a xs)∧R (Itl K a) H1
def iTup (K:PySem.W.Frag) (tl:TE):TI:=fun σ H R=>tl σ H fun x H1=>∃a,x = .ref a∧(∃xs,SqT K H1 a xs)∧R (Itt K a) H1
theorem pi_list {l:Expr} {tl:TE} (hl:PE X l tl):PI X tg l (iList X.K tl):=by
 intro pins s σ H R I h
 refine thn (hl pins s σ H _ I h) fun v s1 ⟨x,H1,I1,r1,q1⟩=>?_
 obtain ⟨a,e,⟨xs,hq⟩,q⟩:=q1
 subst e
 cases r1
 obtain ⟨its,rv,p,hz⟩:=I1.list hq
 refine wpAny_pyIter_list p.isList ?_
 refine ⟨s1.heap.objs.size,[s1.heap.objs.size],_,_,H1,rfl,I1.kept (t':=s1.toks) fun b o e=>Heap.get?_push_of_some _ e,turn_list a _,⟨_,Heap.get?_push_size _ rfl,rfl,rfl⟩,fun b hb=>?_,q⟩
 have e:b=s1.heap.objs.size:=by simpa using hb
 subst e
 exact I1.fpOk (Nat.le_refl _) (I1.hok.fresh (Nat.le_refl _))
theorem pi_tup {l:Expr} {tl:TE} (hl:PE X l tl):PI X tg l (iTup X.K tl):=by
 intro pins s σ H R I h
 refine thn (hl pins s σ H _ I h) fun v s1 ⟨x,H1,I1,r1,q1⟩=>?_
 obtain ⟨a,e,⟨xs,hq⟩,q⟩:=q1
 subst e
 cases r1
 obtain ⟨its,rv,p,hz⟩:=I1.tuple hq
 refine wpAny_pyIter_tuple (show s1.heap.IsTuple a its.toArray from p) ?_
 refine ⟨s1.heap.objs.size,[s1.heap.objs.size],_,_,H1,rfl,I1.kept (t':=s1.toks) fun b o e=>Heap.get?_push_of_some _ e,turn_tuple a _,⟨_,Heap.get?_push_size _ rfl,rfl,rfl⟩,fun b hb=>?_,q⟩
 have e:b=s1.heap.objs.size:=by simpa using hb
 subst e
 exact I1.fpOk (Nat.le_refl _) (I1.hok.fresh (Nat.le_refl _))
theorem range_it {pins:List (Addr×Obj)} {σ:St} {H:Hp} {s:Shared} {R:It→Hp→Prop} {E:Value→Shared→Prop} {lo hi:Int} {t u v:Tok} {tk:Nat} (I:Inv X pins σ H s) (h1:-(2^62)≤lo) (h2:lo<2^62) (h3:-(2^62)≤hi) (h4:hi<2^62)
  (q:R (Itr lo (hi-lo).toNat) H):wpAny (model X.prog X.w) X.A (pyIter (.ref s.heap.objs.size)) (PIE X pins σ tg R) E { s with heap:=s.heap.push { cls:=.type "range",data:=.fields #[.int lo t,.int hi u,.int 1 v] },toks:=tk }:=by
 refine wpAny_pyIter_range (IsRange.new ..) (small_one h1 h2 h3 h4) ?_
 have I1:Inv X pins σ H { s with heap:=s.heap.push { cls:=.type "range",data:=.fields #[.int lo t,.int hi u,.int 1 v] },toks:=tk }:=I.kept fun b o e=>Heap.get?_push_of_some _ e
 refine ⟨(s.heap.push { cls:=.type "range",data:=.fields #[.int lo t,.int hi u,.int 1 v] }).objs.size,[(s.heap.push { cls:=.type "range",data:=.fields #[.int lo t,.int hi u,.int 1 v] }).objs.size],_,_,H,rfl,
  I1.kept (t':=tk) fun b o e=>Heap.get?_push_of_some _ e,turn_range _ lo (hi-lo).toNat,?_,fun b hb=>?_,q⟩
 ·have e1:lo+((0:Nat):Int)*1=lo:=by simp
  have e2:(((hi-lo).toNat:Nat):Int)-((0:Nat):Int)=Builtin.Range.rangeSize lo hi 1:=by rw [rangeSize_one];split<;>omega
  show IsRangeIter _ _ (lo+((0:Nat):Int)*1) ((((hi-lo).toNat:Nat):Int)-((0:Nat):Int)) 1
  rw [e1,e2]
  exact Heap.get?_push_size _ rfl
 ·have e:b=(s.heap.push { cls:=.type "range",data:=.fields #[.int lo t,.int hi u,.int 1 v] }).objs.size:=by simpa using hb
  subst e
  exact I1.fpOk (Nat.le_refl _) (I1.hok.fresh (Nat.le_refl _))
def iRng1 (ta:TA):TI:=fun σ H R=>ta σ H fun vs H1=>∃j:Int,vs=[.int j]∧-(2^62)≤j∧j<2^62∧R (Itr 0 j.toNat) H1
theorem pi_range1 {a:Expr} {ta:TA} {p pos:Pos} (hg:Gl X "range") (hm:X.mg "range" = none) (ha:PA X [a] ta) (hs:starEach [a] X.env=[(false,eval a X.env)]:=by rfl):PI X tg (.Call (.Name "range" p) [a] [] pos) (iRng1 ta):=by
 intro pins s σ H R I h
 refine Call_ (ld_blt I hg hm boot_range (PyProof.Rows.callWith_type1 (thn (ha pos pins s σ H _ I h) fun us s1 ⟨vs,H1,I1,r1,q1⟩=>?_) hs rfl))
 obtain ⟨j,e,q1,q2,q⟩:=q1
 subst e
 cases r1 with
 | cons r rr=>
  cases rr
  obtain ⟨t,rfl⟩:=r
  exact call_range_1 (range_it I1 (by omega) (by omega) q1 q2 (by simpa using q))
def tFor (wi:TI) (g:TG) (tb:TS):TS:=fun D σ H=>wi σ H fun J H1=>∃W:Nat→Nat→St→Hp→Prop,(∃m,W 0 m σ H1)∧∀i m σ H,W i m σ H→
 (J.stop i H∧D.nx σ H)∨(J.go i H∧∃N:St→Hp→Prop,(∀σ' H',N σ' H'→∃m',m'<m∧W (i+1) m' σ' H')∧∀x H',J.yld i H x H'→g x σ H' fun σ2 H2=>tb { D with nx:=N,ct:=N,bk:=D.nx } σ2 H2)
def pinsAt (fp:List Addr) (h:Heap):List (Addr×Obj):=fp.filterMap fun b=>(h.get? b).map fun o=>(b,o)
theorem mem_pinsAt {fp:List Addr} {h:Heap} {b:Addr} {o:Obj} (hb:b∈fp) (e:h.get? b=some o):(b,o)∈pinsAt fp h:=List.mem_filterMap.mpr ⟨b,hb,by rw [e];rfl⟩
theorem of_pinsAt {fp:List Addr} {h:Heap} {p:Addr×Obj} (hp:p∈pinsAt fp h):p.1∈fp∧h.get? p.1=some p.2:=by
 obtain ⟨b,hb,e⟩:=List.mem_filterMap.mp hp
 cases q:h.get? b with
 | none=>rw [q] at e;cases e
 | some o=>
  rw [q] at e
  have e':(b,o)=p:=Option.some.inj e
  subst e'
  exact ⟨hb,q⟩
theorem Inv.pinned {pins:List (Addr×Obj)} {σ:St} {H:Hp} {s:Shared} {fp:List Addr} (I:Inv X pins σ H s) (hf:∀b∈fp,FpOk X pins H b) (ho:∀b∈fp,∃o,s.heap.get? b=some o∧∀v,o.data≠.cell v):Inv X (pins++pinsAt fp s.heap) σ H s:=
 I.pins_of fun p hp=>(List.mem_append.mp hp).elim (fun z=>I.pin p (List.mem_append_right _ z)) fun z=>by
  obtain ⟨hb,e⟩:=of_pinsAt z
  obtain ⟨f0,f1,f2,_⟩:=hf p.1 hb
  obtain ⟨o,e',d⟩:=ho p.1 hb
  rw [e] at e';cases e'
  exact ⟨e,f0,f1,f2,d⟩
theorem Inv.unpinned {pins pl:List (Addr×Obj)} {σ:St} {H:Hp} {s:Shared} (I:Inv X (pins++pl) σ H s):Inv X pins σ H s:=I.pins_of fun p hp=>I.pin p (List.mem_append_right _ (List.mem_append_left _ hp))
theorem ps_for {iter:Expr} {body:List Stmt} {wi:TI} {g:TG} {tb:TS} {pos:Pos} (hp:PassesOwn (model X.prog X.w) X.A X.env X.xe) (hc:X.calm=true) (hi:PI X tg iter wi) (hg:PG X tg g) (hb:PSs X body tb)
  (hs:∀x,foldedSetIterable iter X.env x=pure x:=by intro _;rfl):PS X (.For tg iter body [] pos) (tFor wi g tb):=by
 intro pins s σ H D I h
 refine wpAny_For (thn (hi pins s σ H _ I h) fun v s1 h1=>thn h1 fun itv s2 h2=>?_) hs
 obtain ⟨it,fp,tn,J,H2,e,I2,T,st2,f2,W,⟨m0,w0⟩,turn⟩:=h2
 subst e
 -- what stays true of the iterator's objects through the loop
 have stat:∀{H':Hp},(∀b∈fp,H' b=none)→∀b∈fp,FpOk X pins H' b:=fun hn b hb=>⟨hn b hb,(f2 b hb).2⟩
 refine codeAny_forLoop_any (fun n s'=>∃i σ' H',Inv X pins σ' H' s'∧tn i s'.heap∧(∀b∈fp,H' b=none)∧W i n σ' H') ?_ m0 ⟨0,σ,H2,I2,st2,fun b hb=>(f2 b hb).1,w0⟩
 rintro n s3 ⟨i,σ3,H3,I3,st3,fr3,w3⟩
 rcases turn i n σ3 H3 w3 with ⟨stop,qn⟩ | ⟨go,N,hN,step⟩
 ·refine wpAny_passesOwn hp (thn (T.done X rfl rfl rfl hc i pins s3 σ3 H3 X.xe I3 (stat fr3) st3 stop) fun r s4 ⟨hr,I4⟩=>?_)
  subst hr
  exact wpAny_execs_nil ⟨σ3,H3,I4,qn⟩
 ·refine wpAny_passesOwn hp (thn (T.item X rfl rfl rfl hc i pins s3 σ3 H3 X.xe I3 (stat fr3) st3 go) fun r s4 ⟨u,hr,h4⟩=>?_)
  subst hr
  refine wpAny_passesOwn hp (thn h4 fun _ s5 ⟨x,H5,I5,r5,y5,st5,fr5⟩=>?_)
  have I5':=I5.pinned (stat fr5) (T.obj _ _ st5)
  refine wpAny_passesOwn hp (thn (hg _ s5 σ3 H5 x u _ I5' r5 (step x H5 y5)) fun _ s6 ⟨σ6,H6,I6,q6⟩=>?_)
  refine wpAny_passesOwn hp (thn (hb _ s6 σ6 H6 _ I6 q6) fun f s7 q7=>?_)
  have again:∀{σ7:St} {H7:Hp},Inv X (pins++pinsAt fp s5.heap) σ7 H7 s7→N σ7 H7→∃m,m<n∧∃i σ' H',Inv X pins σ' H' s7∧tn i s7.heap∧(∀b∈fp,H' b=none)∧W i m σ' H':=fun {σ7 H7} I7 n7=>by
   obtain ⟨m',hm,w7⟩:=hN σ7 H7 n7
   refine ⟨m',hm,i+1,σ7,H7,I7.unpinned,T.keep _ _ _ st5 fun b hb o e=>(I7.pin (b,o) (List.mem_append_right _ (List.mem_append_right _ (mem_pinsAt hb e)))).1,fun b hb=>?_,w7⟩
   obtain ⟨o,e,d⟩:=T.obj _ _ st5 b hb
   exact (I7.pin (b,o) (List.mem_append_right _ (List.mem_append_right _ (mem_pinsAt hb e)))).2.1
  cases f with
  | next=>obtain ⟨σ7,H7,I7,n7⟩:=q7;exact again I7 n7
  | cont=>obtain ⟨σ7,H7,I7,n7⟩:=q7;exact again I7 n7
  | brk=>obtain ⟨σ7,H7,I7,q7⟩:=q7;exact ⟨σ7,H7,I7.unpinned,q7⟩
  | ret v=>obtain ⟨x7,σ7,H7,I7,r7,q7⟩:=q7;exact ⟨x7,σ7,H7,I7.unpinned,r7,q7⟩
end
abbrev R2:=V→V→Hp→VK→Prop
def OpR (X:Cx) (f:Value→Value→Sem Value) (r:R2):Prop:=
 ∀(pins:List (Addr×Obj)) (s:Shared) (σ:St) (H:Hp) (x y:V) (v u:Value) (Q:VK),Inv X pins σ H s→RelV x v→RelV y u→r x y H Q→
  wpAny (model X.prog X.w) X.A (f v u) (EP X pins σ Q) X.xe s
def UnR (X:Cx) (f:Value→Sem Value) (r:V→Hp→VK→Prop):Prop:=
 ∀(pins:List (Addr×Obj)) (s:Shared) (σ:St) (H:Hp) (x:V) (v:Value) (Q:VK),Inv X pins σ H s→RelV x v→r x H Q→
  wpAny (model X.prog X.w) X.A (f v) (EP X pins σ Q) X.xe s
def CallR (X:Cx) (f:Value) (r:List V→Hp→VK→Prop):Prop:=
 ∀(pins:List (Addr×Obj)) (s:Shared) (σ:St) (H:Hp) (xs:List V) (us:List Value) (Q:VK),Inv X pins σ H s→Vals xs us→r xs H Q→
  wpAny (model X.prog X.w) X.A (call f us) (EP X pins σ Q) X.xe s
def tOp (r:R2) (ta tb:TE):TE:=fun σ H Q=>ta σ H fun x H1=>tb σ H1 fun y H2=>r x y H2 Q
def tUn (r:V→Hp→VK→Prop) (ta:TE):TE:=fun σ H Q=>ta σ H fun x H1=>r x H1 Q
def rI (C:Int→Int→Prop) (g:Int→Int→V):R2:=fun x y H Q=>∃i j,x = .int i∧y = .int j∧C i j∧Q (g i j) H
def rI0 (g:Int→Int→V):R2:=fun x y H Q=>∃i j,x = .int i∧y = .int j∧Q (g i j) H
def rU (g:Int→V):V→Hp→VK→Prop:=fun x H Q=>∃i,x = .int i∧Q (g i) H
section
variable {X:Cx} {a b c:Expr} {ta tb tc:TE} {pos:Pos}
theorem binT (ha:PE X a ta) (hb:PE X b tb) {pins:List (Addr×Obj)} {s:Shared} {σ:St} {H:Hp} {R:V→V→Hp→Prop} (I:Inv X pins σ H s)
  (h:ta σ H fun x H1=>tb σ H1 fun y H2=>R x y H2) {Q:Value→Shared→Prop} {f:Value→Value→Sem Value}
  (hf:∀v u s2 x y H2,Inv X pins σ H2 s2→RelV x v→RelV y u→R x y H2→wpAny (model X.prog X.w) X.A (f v u) Q X.xe s2) :
  wpAny (model X.prog X.w) X.A (eval a X.env) (fun v s₁=>wpAny (model X.prog X.w) X.A (eval b X.env) (fun u s₂=>wpAny (model X.prog X.w) X.A (f v u) Q X.xe s₂) X.xe s₁) X.xe s:=by
 refine thn (ha pins s σ H _ I h) fun v s1 ⟨x,H1,I1,r1,q1⟩=>?_
 refine thn (hb pins s1 σ H1 _ I1 q1) fun u s2 ⟨y,H2,I2,r2,q2⟩=>?_
 exact hf v u s2 x y H2 I2 r1 r2 q2
theorem pe_op {op:Operator} {r:R2} (ho:OpR X (binaryOp op) r) (ha:PE X a ta) (hb:PE X b tb):PE X (.BinOp a op b pos) (tOp r ta tb):=by
 intro pins s σ H Q I h
 exact wpAny_BinOp (binT ha hb I h fun v u s2 x y H2 I2 rx ry q=>ho pins s2 σ H2 x y v u Q I2 rx ry q)
theorem pe_un {op:UnaryOp} {r:V→Hp→VK→Prop} (ho:UnR X (unaryOp op) r) (ha:PE X a ta):PE X (.UnaryOp op a pos) (tUn r ta):=by
 intro pins s σ H Q I h
 exact UnaryOp_ (thn (ha pins s σ H _ I h) fun v s1 ⟨x,H1,I1,r1,q1⟩=>ho pins s1 σ H1 x v Q I1 r1 q1)
theorem opI {f:Value→Value→Sem Value} {C:Int→Int→Prop} {g:Int→Int→Int}
  (rule:∀(i j:Int) (t u:Tok) (s:Shared) (Q:Value→Shared→Prop) (E:Value→Shared→Prop),C i j→Q (.int (g i j) s.toks) { s with toks:=s.toks+1 }→wpAny (model X.prog X.w) X.A (f (.int i t) (.int j u)) Q E s) :
  OpR X f (rI C fun i j=>.int (g i j)):=by
 intro pins s σ H x y v u Q I rx ry h
 obtain ⟨i,j,rfl,rfl,hc,q⟩:=h
 obtain ⟨t,rfl⟩:=rx
 obtain ⟨t',rfl⟩:=ry
 exact rule i j t t' s _ _ hc ⟨.int (g i j),H,I.tok _,⟨_,rfl⟩,q⟩
theorem opI0 {f:Value→Value→Sem Value} {g:Int→Int→Int}
  (rule:∀(i j:Int) (t u:Tok) (s:Shared) (Q:Value→Shared→Prop) (E:Value→Shared→Prop),Q (.int (g i j) s.toks) { s with toks:=s.toks+1 }→wpAny (model X.prog X.w) X.A (f (.int i t) (.int j u)) Q E s) :
  OpR X f (rI0 fun i j=>.int (g i j)):=by
 intro pins s σ H x y v u Q I rx ry h
 obtain ⟨i,j,rfl,rfl,q⟩:=h
 obtain ⟨t,rfl⟩:=rx
 obtain ⟨t',rfl⟩:=ry
 exact rule i j t t' s _ _ ⟨.int (g i j),H,I.tok _,⟨_,rfl⟩,q⟩
theorem opB0 {f:Value→Value→Sem Value} {g:Int→Int→Bool}
  (rule:∀(i j:Int) (t u:Tok) (s:Shared) (Q:Value→Shared→Prop) (E:Value→Shared→Prop),Q (.bool (g i j)) s→wpAny (model X.prog X.w) X.A (f (.int i t) (.int j u)) Q E s) :
  OpR X f (rI0 fun i j=>.bl (g i j)):=by
 intro pins s σ H x y v u Q I rx ry h
 obtain ⟨i,j,rfl,rfl,q⟩:=h
 obtain ⟨t,rfl⟩:=rx
 obtain ⟨t',rfl⟩:=ry
 exact rule i j t t' s _ _ ⟨.bl (g i j),H,I,rfl,q⟩
def CPow (i j:Int):Prop:=0≤j∧j≤1000000∧i.natAbs<2^64
def CMul (i j:Int):Prop:=(-(2^64)<i∧i<2^64)∨(-(2^64)<j∧j<2^64)
theorem CMul.ok {i j:Int} (h:CMul i j):IntMulOk i j:=by
 rcases h with ⟨h1,h2⟩ | ⟨h1,h2⟩
 ·exact .of_left (intBits_le_64 h1 h2)
 ·exact .of_right (intBits_le_64 h1 h2)
theorem op_add:OpR X (binaryOp .Add) (rI0 fun i j=>.int (i+j)):=opI0 fun _ _ _ _ _ _ _ q=>add_int q
theorem op_sub:OpR X (binaryOp .Sub) (rI0 fun i j=>.int (i-j)):=opI0 fun _ _ _ _ _ _ _ q=>sub_int q
theorem op_mul:OpR X (binaryOp .Mult) (rI CMul fun i j=>.int (i*j)):=opI fun _ _ _ _ _ _ _ hc q=>mul_int q hc.ok
theorem op_mod:OpR X (binaryOp .Mod) (rI (fun _ j=>0<j) fun i j=>.int (i%j)):=opI fun i j _ _ _ _ _ hc q=>by
 have h1:(0:Int)<j:=hc
 exact mod_int' (by omega) (by rw [Int.fmod_eq_emod_of_nonneg i (by omega)];exact q)
theorem op_pow:OpR X (binaryOp .Pow) (rI CPow fun i j=>.int (i^j.toNat)):=opI fun _ _ _ _ _ _ _ hc q=>pow_int_small hc.1 hc.2.1 hc.2.2 q
theorem op_shl:OpR X (binaryOp .LShift) (rI CPow fun i j=>.int (i*2^j.toNat)):=opI fun _ _ _ _ _ _ _ hc q=>lshift_int_small hc.1 hc.2.1 hc.2.2 q
theorem unI {f:Value→Sem Value} {g:Int→Int}
  (rule:∀(i:Int) (t:Tok) (s:Shared) (Q:Value→Shared→Prop) (E:Value→Shared→Prop),Q (.int (g i) s.toks) { s with toks:=s.toks+1 }→wpAny (model X.prog X.w) X.A (f (.int i t)) Q E s) :
  UnR X f (rU fun i=>.int (g i)):=by
 intro pins s σ H x v Q I rx h
 obtain ⟨i,rfl,q⟩:=h
 obtain ⟨t,rfl⟩:=rx
 exact rule i t s _ _ ⟨.int (g i),H,I.tok _,⟨_,rfl⟩,q⟩
theorem un_neg:UnR X (unaryOp .USub) (rU fun i=>.int (-i)):=unI fun _ _ _ _ _ q=>neg_int q
end
def scal:V→V→Bool
 | .non,.non=>true | .non,.int _=>true | .int _,.non=>true | .non,.bl _=>true | .bl _,.non=>true | .non,.str _=>true | .str _,.non=>true
 | .int _,.int _=>true | .bl _,.bl _=>true | .str _,.str _=>true | .byt _,.byt _=>true
 | .int _,.str _=>true | .str _,.int _=>true | .bl _,.str _=>true | .str _,.bl _=>true
 | _,_=>false
def rEq:R2:=fun x y H Q=>scal x y=true∧Q (.bl (decide (x=y))) H
def rNe:R2:=fun x y H Q=>scal x y=true∧Q (.bl (!decide (x=y))) H
theorem dec_int {i j:Int}:decide (V.int i=V.int j)=(i==j):=by
 rw [Bool.eq_iff_iff]
 simp
theorem dec_bl {i j:Bool}:decide (V.bl i=V.bl j)=(i==j):=by
 rw [Bool.eq_iff_iff]
 simp
theorem dec_str {i j:Str}:decide (V.str i=V.str j)=(i==j):=by
 rw [Bool.eq_iff_iff]
 simp
theorem dec_byt {i j:Array UInt8}:decide (V.byt i=V.byt j)=(i.toList==j.toList):=by
 rw [Bool.eq_iff_iff]
 cases i
 cases j
 simp
section
variable {X:Cx} {a b c:Expr} {ta tb tc:TE} {pos:Pos}
theorem fin_bl {pins:List (Addr×Obj)} {σ:St} {H:Hp} {s:Shared} {Q:VK} {k k':Bool} (I:Inv X pins σ H s) (q:Q (.bl k) H) (e:k=k'):EP X pins σ Q (.bool k') s:=by
 subst e
 exact ⟨.bl k,H,I,rfl,q⟩
theorem op_eq:OpR X (compareOp .Eq) rEq:=by
 intro pins s σ H x y v u Q I rx ry h
 obtain ⟨hs,q⟩:=h
 cases x with
 | non=>
  cases rx
  cases y with
  | non=>cases ry;exact PySem.EqNone.eq_none_none (fin_bl I q (by simp))
  | bl j=>cases ry;exact PySem.EqNone.eq_none_bool (fin_bl I q (by simp))
  | int j=>obtain ⟨t',rfl⟩:=ry;exact PySem.EqNone.eq_none_int (fin_bl I q (by simp))
  | str j=>obtain ⟨t',rfl⟩:=ry;exact PySem.EqNone.eq_none_str (fin_bl I q (by simp))
  | _=>exact absurd (show false=true from hs) Bool.false_ne_true
 | bl i=>
  cases rx
  cases y with
  | non=>cases ry;exact PySem.EqNone.eq_bool_none (fin_bl I q (by simp))
  | bl j=>cases ry;exact eq_bool (fin_bl I q dec_bl)
  | str j=>obtain ⟨t',rfl⟩:=ry;exact PySem.EqMixed.eq_bool_str (fin_bl I q (by simp))
  | _=>exact absurd (show false=true from hs) Bool.false_ne_true
 | int i=>
  obtain ⟨t,rfl⟩:=rx
  cases y with
  | non=>cases ry;exact PySem.EqNone.eq_int_none (fin_bl I q (by simp))
  | int j=>obtain ⟨t',rfl⟩:=ry;exact eq_int (fin_bl I q dec_int)
  | str j=>obtain ⟨t',rfl⟩:=ry;exact PySem.EqMixed.eq_int_str (fin_bl I q (by simp))
  | _=>exact absurd (show false=true from hs) Bool.false_ne_true
 | str i=>
  obtain ⟨t,rfl⟩:=rx
  cases y with
  | non=>cases ry;exact PySem.EqNone.eq_str_none (fin_bl I q (by simp))
  | bl j=>cases ry;exact PySem.EqMixed.eq_str_bool (fin_bl I q (by simp))
  | int j=>obtain ⟨t',rfl⟩:=ry;exact PySem.EqMixed.eq_str_int (fin_bl I q (by simp))
  | str j=>obtain ⟨t',rfl⟩:=ry;exact eq_str (fin_bl I q dec_str)
  | _=>exact absurd (show false=true from hs) Bool.false_ne_true
 | byt i=>
  obtain ⟨t,rfl⟩:=rx
  cases y with
  | byt j=>obtain ⟨t',rfl⟩:=ry;exact PySem.W.eq_bytes (fin_bl I q dec_byt)
  | _=>exact absurd (show false=true from hs) Bool.false_ne_true
 | _=>cases y<;>exact absurd (show false=true from hs) Bool.false_ne_true
theorem op_ne:OpR X (compareOp .NotEq) rNe:=by
 intro pins s σ H x y v u Q I rx ry h
 obtain ⟨hs,q⟩:=h
 cases x with
 | non=>
  cases rx
  cases y with
  | non=>cases ry;exact PySem.EqNone.ne_none_none (fin_bl I q (by simp))
  | bl j=>cases ry;exact PySem.EqNone.ne_none_bool (fin_bl I q (by simp))
  | int j=>obtain ⟨t',rfl⟩:=ry;exact PySem.EqNone.ne_none_int (fin_bl I q (by simp))
  | str j=>obtain ⟨t',rfl⟩:=ry;exact PySem.EqNone.ne_none_str (fin_bl I q (by simp))
  | _=>exact absurd (show false=true from hs) Bool.false_ne_true
 | bl i=>
  cases rx
  cases y with
  | non=>cases ry;exact PySem.EqNone.ne_bool_none (fin_bl I q (by simp))
  | bl j=>cases ry;exact ne_bool (fin_bl I q (congrArg not dec_bl))
  | str j=>obtain ⟨t',rfl⟩:=ry;exact PySem.EqMixed.ne_bool_str (fin_bl I q (by simp))
  | _=>exact absurd (show false=true from hs) Bool.false_ne_true
 | int i=>
  obtain ⟨t,rfl⟩:=rx
  cases y with
  | non=>cases ry;exact PySem.EqNone.ne_int_none (fin_bl I q (by simp))
  | int j=>obtain ⟨t',rfl⟩:=ry;exact ne_int (fin_bl I q (congrArg not dec_int))
  | str j=>obtain ⟨t',rfl⟩:=ry;exact PySem.EqMixed.ne_int_str (fin_bl I q (by simp))
  | _=>exact absurd (show false=true from hs) Bool.false_ne_true
 | str i=>
  obtain ⟨t,rfl⟩:=rx
  cases y with
  | non=>cases ry;exact PySem.EqNone.ne_str_none (fin_bl I q (by simp))
  | bl j=>cases ry;exact PySem.EqMixed.ne_str_bool (fin_bl I q (by simp))
  | int j=>obtain ⟨t',rfl⟩:=ry;exact PySem.EqMixed.ne_str_int (fin_bl I q (by simp))
  | str j=>obtain ⟨t',rfl⟩:=ry;exact ne_str (fin_bl I q (congrArg not dec_str))
  | _=>exact absurd (show false=true from hs) Bool.false_ne_true
 | byt i=>
  obtain ⟨t,rfl⟩:=rx
  cases y with
  | byt j=>obtain ⟨t',rfl⟩:=ry;exact PySem.W.ne_bytes (fin_bl I q (congrArg not dec_byt))
  | _=>exact absurd (show false=true from hs) Bool.false_ne_true
 | _=>cases y<;>exact absurd (show false=true from hs) Bool.false_ne_true
theorem op_lt:OpR X (compareOp .Lt) (rI0 fun i j=>.bl (decide (i<j))):=opB0 fun _ _ _ _ _ _ _ q=>lt_int q
theorem op_gt:OpR X (compareOp .Gt) (rI0 fun i j=>.bl (decide (j<i))):=opB0 fun _ _ _ _ _ _ _ q=>gt_int q
theorem op_ge:OpR X (compareOp .GtE) (rI0 fun i j=>.bl (decide (j≤i))):=opB0 fun _ _ _ _ _ _ _ q=>ge_int q
theorem op_notN:OpR X (compareOp .IsNot) (fun x y H Q=>y = .non∧Q (.bl (!decide (x = .non))) H):=by
 intro pins s σ H x y v u Q I rx ry h
 obtain ⟨rfl,q⟩:=h
 cases ry
 refine isnot_none_gen (fin_bl I q ?_)
 cases x<;>first
  | (cases rx;rfl)
  | (obtain ⟨t,rfl⟩:=rx;rfl)
theorem nomark (b:Expr) {op:CmpOp} (h:op≠.In:=by decide) (h2:op≠.NotIn:=by decide):behindInMarks op b=false:=by
 have e1:(op==CmpOp.In)=false:=by cases op<;>first | rfl | exact absurd rfl h
 have e2:(op==CmpOp.NotIn)=false:=by cases op<;>first | rfl | exact absurd rfl h2
 cases b<;>simp [behindInMarks,e1,e2]
theorem pe_cmpR {op:CmpOp} {r:R2} (ho:OpR X (compareOp op) r) (ha:PE X a ta) (hb:PE X b tb) (hm:behindInMarks op b=false):PE X (.Compare a [op] [b] pos) (tOp r ta tb):=by
 intro pins s σ H Q I h
 exact wpAny_Compare1 (binT ha hb I h fun v u s2 x y H2 I2 rx ry q=>ho pins s2 σ H2 x y v u Q I2 rx ry q) hm
def tTest (t:TE):TT:=fun σ H Q=>t σ H fun x H'=>∃k,x = .bl k∧Q k H'
theorem pt_cmpR {op:CmpOp} {r:R2} (ho:OpR X (compareOp op) r) (ha:PE X a ta) (hb:PE X b tb) (hm:behindInMarks op b=false):PT X (.Compare a [op] [b] pos) (tTest (tOp r ta tb)):=by
 intro pins s σ H Q I h
 refine wpAny_isTrue_Compare1 (thn (ha pins s σ H _ I h) fun v s1 ⟨x,H1,I1,r1,q1⟩=>thn (hb pins s1 σ H1 _ I1 q1) fun u s2 ⟨y,H2,I2,r2,q2⟩=>
  thn (ho pins s2 σ H2 x y v u _ I2 r1 r2 q2) fun c s3 ⟨z,H3,I3,r3,k,e,q3⟩=>?_) hm
 subst e
 cases r3
 exact wpAny_truthy_bool ⟨H3,I3,q3⟩
theorem line63:(sizeLine:Nat)<2^63:=by rw [sizeLine_eq];decide
theorem op_add_str:OpR X (binaryOp .Add) (fun x y H Q=>∃i j,x = .str i∧y = .str j∧i.length+j.length≤sizeLine∧Q (.str (i++j)) H):=by
 intro pins s σ H x y v u Q I rx ry h
 obtain ⟨i,j,rfl,rfl,hz,q⟩:=h
 obtain ⟨t,rfl⟩:=rx
 obtain ⟨t',rfl⟩:=ry
 exact add_str (fun t' tk=>⟨.str (i++j),H,I.tok _,⟨_,rfl⟩,q⟩) hz
theorem vals1 {x:V} {us:List Value} (r:Vals [x] us):∃u,us=[u]∧RelV x u:=by
 cases r with
 | cons r1 r2=>cases r2;exact ⟨_,rfl,r1⟩
theorem call_str_int:CallR X (.type "str") (fun xs H Q=>∃i,xs=[.int i]∧i.natAbs.log2<1920∧Q (.str (toString i)) H):=by
 intro pins s σ H xs us Q I r h
 obtain ⟨i,rfl,hz,q⟩:=h
 obtain ⟨u,rfl,t,rfl⟩:=vals1 r
 exact PySem.P.str_of_int hz ⟨.str _,H,I.tok _,⟨_,rfl⟩,q⟩
end
section
variable {prog:Program} {w:World} {A:Around} {E:Value→Shared→Prop} {s:Shared} {K:PySem.W.Frag} {x dx C f:Addr} {mA:Str→Option Value} {name:Str} {v:Value}
end
section
variable {P:Program} {w:World} {H H':Hp} {h h':Heap} {a C dx:Addr} {fs fs':List (Str×V)}
end
section
variable {X:Cx} {pins:List (Addr×Obj)} {σ:St} {H:Hp} {s:Shared} {a C dx:Addr} {fs:List (Str×V)} {f:Str} {v:V} {A:Around} {E:Value→Shared→Prop}
end
section
variable {X:Cx} {o e value:Expr} {f:Str} {pos pos' tpos:Pos} {ta tv:TE}
end
section
variable {X:Cx} {pins:List (Addr×Obj)} {σ:St} {H:Hp} {s:Shared} {A:Around} {E:Value→Shared→Prop} {Q:Value→Shared→Prop} {c:Value} {b:Bool}
end
structure Room (k:Nat) (A:Around):Prop where
 hd:A.handled=none
 dp:A.depth+3*k+5<recursionLimit
 un:A.units+16*k+200<cLine
 gd:A.guards=some []
theorem Room.mono {j k:Nat} {A:Around} (r:Room k A) (h:j≤k):Room j A:=⟨r.hd,by have:=r.dp;omega,by have:=r.un;omega,r.gd⟩
theorem Room.deeper {k:Nat} {A:Around} (r:Room (k+1) A) (env:Env):Room k (A.deeper env):=
 ⟨r.hd,by have:=r.dp;show A.depth+1+3*k+5<_;omega,by have:=r.un;show A.units+3+16*k+200<_;omega,r.gd⟩
theorem Room.depth {k:Nat} {A:Around} (r:Room k A):A.depth<recursionLimit:=by have:=r.dp;omega
theorem Room.units {k:Nat} {A:Around} (r:Room k A):A.units+64<cLine:=by have:=r.un;omega
def tNil:TA:=fun _ H Q=>Q [] H
def tCons (ta:TE) (tr:TA):TA:=fun σ H Q=>ta σ H fun x H1=>tr σ H1 fun xs H2=>Q (x::xs) H2
section
variable {X:Cx} {e:Expr} {es:List Expr} {te:TE} {t:TA} {pos:Pos}
theorem pa_nil:PA X [] tNil:=fun _ _ _ _ H Q I h=>Calls.spliced_nil ⟨[],H,I,.nil,h⟩
theorem pa_cons (ha:PE X e te) (hr:PA X es t) (hs:starEach (e::es) X.env=(false,eval e X.env)::starEach es X.env:=by rfl):PA X (e::es) (tCons te t):=by
 intro pos pins s σ H Q I h
 rw [hs]
 show wpAny _ _ (spliced ((false,eval e X.env)::backTo pos (starEach es X.env))) _ _ s
 refine Calls.spliced_cons (thn (ha pins s σ H _ I h) fun u s1 ⟨x,H1,I1,r1,q1⟩=>?_)
 exact thn (hr pos pins s1 σ H1 _ I1 q1) fun us s2 ⟨xs,H2,I2,r2,q2⟩=>⟨x::xs,H2,I2,.cons r1 r2,q2⟩
def tTup (t:TA):TE:=fun σ H Q=>t σ H fun xs H1=>xs.length≤sizeLine∧∀p,H1 p=none→Q (.ref p) (upd H1 p (.tup xs))
def tLst (t:TA):TE:=fun σ H Q=>t σ H fun xs H1=>xs.length≤sizeLine∧∀p,H1 p=none→Q (.ref p) (upd H1 p (.lst xs))
theorem pe_tup {x1} (h:PA X es t):PE X (.Tuple es x1 pos) (tTup t):=by
 intro pins s σ H Q I hq
 refine wpAny_Tuple_spliced (thn (h pos pins s σ H _ I hq) fun us s1 ⟨xs,H1,I1,r,z,q⟩=>⟨by rw [←r.length];exact z,?_⟩)
 have hf:H1 s1.heap.objs.size=none:=I1.hok.fresh (Nat.le_refl _)
 refine ⟨.ref s1.heap.objs.size,upd H1 s1.heap.objs.size (.tup xs),I1.laid (t':=s1.toks) (fun b u e=>Heap.get?_push_of_some _ e) (Nat.le_refl _) ?_,rfl,q _ hf⟩
 exact ⟨z,us,r,⟨_,Heap.get?_push_size _ rfl,rfl,_,rfl⟩⟩
theorem pe_lst (h:PA X es t):PE X (.List es pos) (tLst t):=by
 intro pins s σ H Q I hq
 refine wpAny_List_spliced (thn (h pos pins s σ H _ I hq) fun us s1 ⟨xs,H1,I1,r,z,q⟩=>⟨by rw [←r.length];exact z,?_⟩)
 have hf:H1 s1.heap.objs.size=none:=I1.hok.fresh (Nat.le_refl _)
 refine ⟨.ref s1.heap.objs.size,upd H1 s1.heap.objs.size (.lst xs),I1.laid (t':=s1.toks) (fun b u e=>Heap.get?_push_of_some _ e) (Nat.le_refl _) ?_,rfl,q _ hf⟩
 exact ⟨z,us,0,r,Heap.get?_push_size _ rfl⟩
end
abbrev Sp:=List V→Hp→VK→XK→Prop
abbrev CXT:=List Env→Hp→Shared→XK→Value→Shared→Prop
structure Env0 (P:Program) (w:World) (K:PySem.W.Frag) (mg:Str→Option Value) (base:Heap) (A:Around) (outer:List Env) (s:Shared) (H:Hp):Prop where
 frames:A.frames=some outer
 mod:Mod K mg base
 bs:∀b o,base.get? b=some o→s.heap.get? b=some o∧H b=none
 bsz:base.objs.size≤s.heap.objs.size
 funs:s.heap.FunFrames base outer
 frf:∀b∈frs outer,H b=none
 hok:HOk P w H s.heap
 bare:AllBare s.gens
def CE (outer:List Env) (P:Program) (w:World) (H:Hp) (s:Shared) (Q:VK) (u:Value) (s':Shared):Prop:=
 ∃v H',s'.os=s.os∧AllBare s'.gens∧Un (frs outer) [] H H' s.heap s'.heap∧HOk P w H' s'.heap∧RelV v u∧Q v H'
def CR (CX:CXT) (outer:List Env) (P:Program) (w:World) (H:Hp) (s:Shared) (Q:VK) (E:XK) (r:Result) (s':Shared):Prop:=
 match r with
 | .ok (.ret u)=>CE outer P w H s Q u s'
 | .ok _=>False
 | .error e=>CX outer H s E e s'
structure FnOk (P:Program) (w:World) (K:PySem.W.Frag) (mg:Str→Option Value) (base:Heap) (CX:CXT) (k:Nat) (f:Addr) (fd:FuncData) (ps:List Str) (sp:Sp):Prop where
 len:∀vs H Q E,sp vs H Q E→vs.length=ps.length
 run:∀(A:Around) (outer:List Env) (s:Shared) (H:Hp) (args:Args) (us:List Value) (vs:List V) (Q:VK) (E:XK),Room k A→Env0 P w K mg base A outer s H→BindsTo s fd args (ps.zip us)→Vals vs us→sp vs H Q E→
  codeAny (model P w) A (.call (.ref f) args) (CR CX outer P w H s Q E) s
theorem FnOk.imp {P:Program} {w:World} {K:PySem.W.Frag} {mg:Str→Option Value} {base:Heap} {CX:CXT} {k:Nat} {f:Addr} {fd:FuncData} {ps:List Str} {sp sp':Sp} (F:FnOk P w K mg base CX k f fd ps sp)
  (h:∀vs H Q E,sp' vs H Q E→sp vs H Q E):FnOk P w K mg base CX k f fd ps sp':=
 ⟨fun vs H Q E q=>F.len vs H Q E (h _ _ _ _ q),fun A outer s H args us vs Q E hr he hb hv hs=>F.run A outer s H args us vs Q E hr he hb hv (h _ _ _ _ hs)⟩
section
variable {X:Cx} {pins:List (Addr×Obj)} {σ:St} {H:Hp} {s s':Shared}
theorem Inv.env0 (I:Inv X pins σ H s):Env0 X.prog X.w X.K X.mg X.base X.A X.stack s H:=
 ⟨I.ok.frames,I.ok.mod,I.bs,Nat.le_trans I.ok.bsz I.sz,I.stack,I.stkFree,I.hok,I.bare⟩
theorem Inv.after {Q:VK} {u:Value} (I:Inv X pins σ H s) (h:CE X.stack X.prog X.w H s Q u s'):EP X pins σ Q u s':=by
 obtain ⟨v,H',os,bare,un,hok,r,q⟩:=h
 obtain ⟨hh,g,d,t,os'⟩:=s'
 obtain rfl:os'=s.os:=os
 exact ⟨v,H',I.call (h':=hh) (g':=g) (d':=d) (t':=t) (ch:=[]) un hok bare (fun b z=>absurd z (by simp)),r,q⟩
end
def tCall (sp:Sp) (dvs:List V) (E:XK) (t:TA):TE:=fun σ H Q=>t σ H fun vs H1=>sp (vs++dvs) H1 Q E
def Binds (K:PySem.W.Frag) (fd:FuncData) (ps:List Str) (ds:List Value):Prop:=
 ∀(s:Shared) (us:List Value),K.In s.heap→(us++ds).length=ps.length→BindsTo s fd ⟨us,[]⟩ (ps.zip (us++ds))
theorem Binds.all {K:PySem.W.Frag} {fd:FuncData} {ps:List Str} (h:∀us:List Value,us.length=ps.length→bindArgs fd ⟨us,[]⟩=pure (ps.zip us)):Binds K fd ps []:=fun s us _ hl=>by
 rw [List.append_nil] at hl ⊢
 exact .of_eq (h us hl)
def Passes (CX:CXT) (X:Cx) (E:XK):Prop:=∀(pins:List (Addr×Obj)) (σ:St) (H:Hp) (s:Shared) (e:Value) (s':Shared),Inv X pins σ H s→CX X.stack H s E e s'→X.xe e s'
section
variable {X:Cx} {CX:CXT} {k:Nat} {f C:Addr} {fd:FuncData} {ps:List Str} {sp:Sp} {dvs:List V} {ds:List Value} {E:XK} {x m:Str} {p pos apos:Pos} {e o:Expr} {es:List Expr} {ta:TE} {t:TA}
theorem run_fn {pins:List (Addr×Obj)} {σ:St} {H:Hp} {s:Shared} {Q:VK} {us:List Value} {vs:List V} (F:FnOk X.prog X.w X.K X.mg X.base CX k f fd ps sp) (hr:Room k X.A) (hb:Binds X.K fd ps ds) (hd:Vals dvs ds) (hx:Passes CX X E)
  (I:Inv X pins σ H s) (r:Vals vs us) (h:sp (vs++dvs) H Q E):wpAny (model X.prog X.w) X.A (call (.ref f) us) (EP X pins σ Q) X.xe s:=by
 have r2:Vals (vs++dvs) (us++ds):=r.append hd
 have hl:(us++ds).length=ps.length:=by rw [←r2.length];exact F.len _ _ _ _ h
 refine wpAny_call (codeAny_mono (F.run X.A X.stack s H ⟨us,[]⟩ (us++ds) (vs++dvs) Q E hr I.env0 (hb s us I.kIn hl) r2 h) fun r s' hq=>?_)
 cases r with
 | error e=>exact hx pins σ H s e s' I hq
 | ok fl=>
  cases fl with
  | ret u=>exact I.after hq
  | next=>exact False.elim hq
  | brk=>exact False.elim hq
  | cont=>exact False.elim hq
theorem pe_call (F:FnOk X.prog X.w X.K X.mg X.base CX k f fd ps sp) (hr:Room k X.A) (hg:Gl X x) (hm:X.mg x=some (.ref f)) (hk:PySem.W.keepIn X.K (.ref f)=true) (hb:Binds X.K fd ps ds) (hd:Vals dvs ds) (hx:Passes CX X E)
  (ha:PA X (e::es) t) (hdb:(x==("__debug__":Str))=false:=by decide) (he:starEach (e::es) X.env=(false,eval e X.env)::starEach es X.env:=by rfl) (hpl:(backTo pos (starEach es X.env)).any (·.1)=false:=by rfl) :
  PE X (.Call (.Name x p) (e::es) [] pos) (tCall sp dvs E t):=by
 intro pins s σ H Q I h
 refine wpAny_Call_Name_kw (ld_glob I hg hm ?_ hdb)
 refine PySem.W.callWith_K (h₀:=X.base) I.ok.mod.kin hk (thn (ha pos pins s σ H _ I h) fun us s1 ⟨vs,H1,I1,r,q⟩=>⟨I1.kIn,?_⟩) he hpl
 exact run_fn F hr hb hd hx I1 r q
end
section
variable {X:Cx} {CX:CXT} {k:Nat} {f C:Addr} {fd:FuncData} {ps ks:List Str} {sp:Sp} {E:XK} {x m:Str} {p pos apos kpos:Pos} {e o:Expr} {es:List Expr} {kws:List Keyword} {te ta:TE} {t tk:TA} {nm:Option Str}
variable {g:List Value→List Value→List Value} {gV:List V→List V→List V}
end
structure FnScope (N P:List Str) (sc:Scope):Prop where
 kind:sc.kind = .function
 co:sc.isCoroutine=false
 gen:sc.isGenerator=false
 nd:N.Nodup
 pre:N.take P.length=P
 par:∀x∈P,sc.names.lookup x=some .local∨sc.names.lookup x=some .cell
 nofree:∀y∈sc.names,y.2≠.free
theorem bindL_out {kindOf:Str→Option NameKind} {x:Str}:∀{binds:List (Str×Value)} {m:Str→Option Value},(∀v,(x,v)∉binds)→bindL kindOf binds m x=m x
 | [],_,_=>rfl
 | (n,v)::r,m,h=>by
  unfold bindL
  rw [bindL_out fun w hw=>h w (List.mem_cons_of_mem _ hw)]
  split
  ·have:x≠n:=by rintro rfl;exact h v List.mem_cons_self
   simp [this]
  ·rfl
theorem bindC_out {kindOf:Str→Option NameKind} {x:Str}:∀{binds:List (Str×Value)} {m:Str→Option Value},(∀v,(x,v)∉binds)→bindC kindOf binds m x=m x
 | [],_,_=>rfl
 | (n,v)::r,m,h=>by
  unfold bindC
  rw [bindC_out fun w hw=>h w (List.mem_cons_of_mem _ hw)]
  split
  ·rfl
  ·have:x≠n:=by rintro rfl;exact h v List.mem_cons_self
   simp [this]
theorem bindL_get {kindOf:Str→Option NameKind} {x:Str} {v:Value}:∀{P:List Str} {vs:List Value} {i:Nat} {m:Str→Option Value},P.Nodup→P[i]? = some x→vs[i]? = some v→kindOf x=some .local→
  bindL kindOf (P.zip vs) m x=some v
 | [],_,_,_,_,h,_,_=>by simp at h
 | _::_,[],_,_,_,_,h,_=>by simp at h
 | p::P,w::vs,0,m,nd,h1,h2,hk=>by
  simp at h1 h2;subst h1;subst h2
  show bindL kindOf ((p,w)::P.zip vs) m p=_
  unfold bindL
  rw [bindL_out fun v hv=>(List.nodup_cons.mp nd).1 (List.of_mem_zip hv).1,if_pos hk]
  simp
 | p::P,w::vs,i+1,m,nd,h1,h2,hk=>by
  show bindL kindOf ((p,w)::P.zip vs) m x=_
  unfold bindL
  exact bindL_get (i:=i) (List.nodup_cons.mp nd).2 (by simpa using h1) (by simpa using h2) hk
theorem bindC_get {kindOf:Str→Option NameKind} {x:Str} {v:Value}:∀{P:List Str} {vs:List Value} {i:Nat} {m:Str→Option Value},P.Nodup→P[i]? = some x→vs[i]? = some v→kindOf x≠some .local→
  bindC kindOf (P.zip vs) m x=some v
 | [],_,_,_,_,h,_,_=>by simp at h
 | _::_,[],_,_,_,_,h,_=>by simp at h
 | p::P,w::vs,0,m,nd,h1,h2,hk=>by
  simp at h1 h2;subst h1;subst h2
  show bindC kindOf ((p,w)::P.zip vs) m p=_
  unfold bindC
  rw [bindC_out fun v hv=>(List.nodup_cons.mp nd).1 (List.of_mem_zip hv).1,if_neg hk]
  simp
 | p::P,w::vs,i+1,m,nd,h1,h2,hk=>by
  show bindC kindOf ((p,w)::P.zip vs) m x=_
  unfold bindC
  exact bindC_get (i:=i) (List.nodup_cons.mp nd).2 (by simpa using h1) (by simpa using h2) hk
def start (N:List Str) (vs:List V):St:=vs.map some++List.replicate (N.length-vs.length) none
def cxOf (CX:CXT) (P:Program) (w:World) (K:PySem.W.Frag) (mg:Str→Option Value) (base:Heap) (N:List Str) (qual:Str) (scope:Scope) (f:Addr) (cd:Value) (A:Around) (outer:List Env) (s:Shared) (H:Hp) (E:XK):Cx where
 prog:=P
 w:=w
 K:=K
 mg:=mg
 base:=base
 A:=A.deeper (envOfC qual scope s.heap.objs.size f cd)
 N:=N
 s₀:=s
 H₀:=H
 env:=envOfC qual scope s.heap.objs.size f cd
 outer:=outer
 stack:=envOfC qual scope s.heap.objs.size f cd::outer
 ex:=[]
 calm:=true
 fn:=fun _=>true
 pn:=[]
 xe:=fun e s'=>wpAny (model P w) (A.deeper (envOfC qual scope s.heap.objs.size f cd)) (leaving (envOfC qual scope s.heap.objs.size f cd) e) (fun _ s''=>CX outer H s E e s'') (fun e' s''=>CX outer H s E e' s'') s'
theorem cell_has {sc:Scope} {n:Nat} {x:Str} (h:sc.names.lookup x=some .cell):∃c,(cellsFrom n sc.names []).lookup x=some c:=by
 have q:=PySem.W.cellsFrom_some sc.names n [] (.inl h)
 exact Option.isSome_iff_exists.mp q
theorem inv_start {CX:CXT} {P:Program} {w:World} {K:PySem.W.Frag} {mg:Str→Option Value} {base:Heap} {N ps:List Str} {qual:Str} {scope:Scope} {f:Addr} {cd:Value} {A:Around} {outer:List Env} {s s1:Shared} {H:Hp} {E:XK} {us:List Value} {vs:List V}
  (S:FnScope N ps scope) (hd:A.handled=none) (e0:Env0 P w K mg base A outer s H) (hl:vs.length=ps.length) (r:Vals vs us)
  (x:InCallC s s.heap.objs.size (bindL (envOfC qual scope s.heap.objs.size f cd).kindOf (ps.zip us) fun _=>none) (cellsFrom (s.heap.objs.size+1) scope.names []) (bindC (envOfC qual scope s.heap.objs.size f cd).kindOf (ps.zip us) fun _=>none) s1) :
  Inv (cxOf CX P w K mg base N qual scope f cd A outer s H E) [] (start N vs) H s1:=by
 have hpl:ps.length≤N.length:=by have:=congrArg List.length S.pre;rw [List.length_take] at this;omega
 obtain ⟨h1,tk,rfl,hk⟩:=x.done
 have noA:∀b:Addr,b∉(cxOf CX P w K mg base N qual scope f cd A outer s H E).ex:=fun b z=>absurd (show b∈([]:List Addr) from z) (by simp)
 refine ⟨⟨e0.mod,S.kind,rfl,rfl,Nat.le_refl _,fun y z c h1 h2=>?_,fun y hy=>?_,fun y c _ h=>?_,fun _=>hd,Around.frames_deeper e0.frames,.inr ⟨rfl,rfl⟩,fun b z=>absurd z (noA b),e0.bs,e0.bsz,fun b _ _=>noA b,fun b z=>absurd z (noA b),e0.funs,e0.frf⟩,
  rfl,e0.bare,Un.kept hk,⟨_,x.toInCall.ns,fun i y v h1 h2 h3=>?_⟩,fun y c h=>⟨_,x.cell y c h⟩,e0.hok.fresh (Nat.le_refl _),fun y c h=>?_,fun p hp=>absurd (show p∈([]:List (Addr×Obj)) from hp) (by simp),e0.hok.kept hk,?_⟩
 ·exact name_of_addr x.apart (PySem.mem_of_lookup h1) (PySem.mem_of_lookup h2)
 ·have hy:scope.names.lookup y=some .cell∨scope.names.lookup y=some .free:=hy
  rcases hy with hy | hy
  ·exact cell_has hy
  ·exact absurd rfl (S.nofree _ (PySem.mem_of_lookup hy))
 ·exact Nat.le_of_lt (x.above y c (PySem.mem_of_lookup h))
 ·have hi:i<vs.length:=by
   unfold start at h2
   by_cases hi:i<vs.length
   ·exact hi
   ·rw [List.getElem?_append_right (by simpa using hi)] at h2
    rw [List.getElem?_replicate] at h2
    split at h2<;>cases h2
  have ha:vs[i]? = some v:=by
   unfold start at h2
   rw [List.getElem?_append_left (by simpa using hi),List.getElem?_map] at h2
   cases e:vs[i]? with
   | none=>rw [e] at h2;cases h2
   | some a=>rw [e] at h2;cases h2;rfl
  obtain ⟨u,hu,rv⟩:=r.get ha
  have hp:ps[i]? = some y:=by
   rw [←S.pre,List.getElem?_take_of_lt (by omega)];exact h1
  have ndP:ps.Nodup:=by rw [←S.pre];exact S.nd.sublist (List.take_sublist _ _)
  refine ⟨u,rv,?_⟩
  rcases S.par y (List.mem_of_getElem? hp) with k | k
  ·exact .inl ⟨k,bindL_get ndP hp hu k⟩
  ·obtain ⟨c,e⟩:=cell_has (n:=s.heap.objs.size+1) k
   refine .inr ⟨.inl k,c,e,?_⟩
   have q:=x.cell y c e
   rw [bindC_get ndP hp hu (by show scope.names.lookup y≠_;rw [k];decide)] at q
   exact q
 ·exact e0.hok.fresh (Nat.le_of_lt (x.above y c (PySem.mem_of_lookup h)))
 ·unfold start
  show _=N.length
  rw [List.length_append,List.length_map,List.length_replicate]
  omega
theorem fn_of {CX:CXT} {P:Program} {w:World} {K:PySem.W.Frag} {mg:Str→Option Value} {base:Heap} {k:Nat} {f:Addr} {name qual:Str} {params:Arguments} {body:List Stmt} {scope:Scope} {dV kV doc pm cdv ct oc:Value} {an od:Option Addr}
  {osl:Array (Option Value)} {N ps:List Str} {sp:Sp} (lk:K.lookup f=some ⟨oc,od,.func (PySem.W.fnOf name qual params body scope dV kV doc pm an cdv ct),osl⟩) (hcd:PySem.W.codeIn K cdv qual=true) (S:FnScope N ps scope)
  (len:∀vs H Q E,sp vs H Q E→vs.length=ps.length)
  (hbody:∀(A:Around) (outer:List Env) (s:Shared) (H:Hp) (vs:List V) (Q:VK) (E:XK),Room k (A.deeper (envOfC qual scope s.heap.objs.size f cdv))→sp vs H Q E→
   ∃t,PSs (cxOf CX P w K mg base N qual scope f cdv A outer s H E) body t∧t { nx:=fun _ H'=>Q .non H',rt:=Q } (start N vs) H) :
  FnOk P w K mg base CX (k+1) f (PySem.W.fnOf name qual params body scope dV kV doc pm an cdv ct) ps sp:=by
 refine ⟨len,fun A outer s H args us vs Q E hr e0 hb r hsp=>?_⟩
 have hl:=len _ _ _ _ hsp
 have KX:K.In s.heap:=e0.mod.kin.keeps fun b o e=>(e0.bs b o e).1
 have lim:s.heap.NoLimit:=e0.mod.nolimit.keeps fun b o e=>(e0.bs b o e).1
 have hkind:∀y∈ps.zip us,scope.names.lookup y.1=some .local∨(scope.names.lookup y.1=some .cell∧((cellsFrom (s.heap.objs.size+1) scope.names []).lookup y.1).isSome=true):=fun ⟨n,v⟩ hy=>by
  rcases S.par n (List.of_mem_zip hy).1 with q | q
  ·exact .inl q
  ·exact .inr ⟨q,PySem.W.cellsFrom_some _ _ _ (.inl q)⟩
 refine codeAny_call_function hr.depth (KX _ _ lk) rfl S.co S.gen rfl (PySem.W.codeRec_of KX hcd) (hb _ _ _ _ ?_)
 refine wpAny_newFunctionEnv_cells S.kind hkind fun env he s1 x=>?_
 subst he
 refine ⟨lim.keeps x.toInCall.keep,codeAny_func ?_⟩
 obtain ⟨t,ht,hq⟩:=hbody A outer s H vs Q E (hr.deeper _) hsp
 have I:Inv (cxOf CX P w K mg base N qual scope f cdv A outer s H E) [] (start N vs) H s1:=inv_start S hr.hd e0 hl r x
 refine wpAny_mono (ht [] s1 (start N vs) H _ I hq) (fun fl s' hs=>?_) fun e s' hs=>hs
 have fin:∀{σ':St} {H':Hp} {v:V} {u:Value},Inv (cxOf CX P w K mg base N qual scope f cdv A outer s H E) [] σ' H' s'→RelV v u→Q v H'→CE outer P w H s Q u s':=
  fun {σ' H' v u} J rv q=>⟨v,H',J.os,J.bare,J.base,J.hok,rv,q⟩
 cases fl with
 | ret u=>
  obtain ⟨v,σ',H',J,rv,q⟩:=hs
  exact fin J rv q
 | next=>
  obtain ⟨σ',H',J,q⟩:=hs
  exact fin (v:=V.non) (u:=Value.none) J rfl q
 | brk=>
  obtain ⟨_,_,_,q⟩:=hs
  exact False.elim q
 | cont=>
  obtain ⟨_,_,_,q⟩:=hs
  exact False.elim q
section
variable {X:Cx} {x:Str} {p pos:Pos} {e:Expr} {es:List Expr} {t:TA} {id T:String} {r:List V→Hp→VK→Prop}
def tCB (r:List V→Hp→VK→Prop) (t:TA):TE:=fun σ H Q=>t σ H fun vs H1=>r vs H1 Q
theorem pe_callB (hc:CallR X (.builtin id) r) (hg:Gl X x) (hm:X.mg x=none) (hv:bootBuiltins x=some (.builtin id)) (ha:PA X (e::es) t) (hn:x≠"__name__":=by decide) (hdb:(x==("__debug__":Str))=false:=by decide)
  (he:starEach (e::es) X.env=(false,eval e X.env)::starEach es X.env:=by rfl) (hpl:(backTo pos (starEach es X.env)).any (·.1)=false:=by rfl):PE X (.Call (.Name x p) (e::es) [] pos) (tCB r t):=by
 intro pins s σ H Q I h
 refine wpAny_Call_Name_kw (ld_blt I hg hm hv ?_ hn hdb)
 exact PyProof.Rows.callWith_builtin1 (thn (ha pos pins s σ H _ I h) fun us s1 ⟨vs,H1,I1,r1,q1⟩=>hc pins s1 σ H1 vs us Q I1 r1 q1) he hpl
theorem pe_callTy (hc:CallR X (.type T) r) (hg:Gl X x) (hm:X.mg x=none) (hv:bootBuiltins x=some (.type T)) (ha:PA X (e::es) t) (hn:x≠"__name__":=by decide) (hdb:(x==("__debug__":Str))=false:=by decide)
  (he:starEach (e::es) X.env=(false,eval e X.env)::starEach es X.env:=by rfl) (hpl:(backTo pos (starEach es X.env)).any (·.1)=false:=by rfl):PE X (.Call (.Name x p) (e::es) [] pos) (tCB r t):=by
 intro pins s σ H Q I h
 refine wpAny_Call_Name_kw (ld_blt I hg hm hv ?_ hn hdb)
 exact PyProof.Rows.callWith_type1 (thn (ha pos pins s σ H _ I h) fun us s1 ⟨vs,H1,I1,r1,q1⟩=>hc pins s1 σ H1 vs us Q I1 r1 q1) he hpl
end
end L2
namespace HT
open PySem PyProof.Rows
section
open PySem.SeqAt
open PySem.AutoSeq1 (wpAny_loadPart')
open PySem.MeetsSeq PySem.MeetsSeq2 PySem.MeetsSeq3
end
section
variable {prog:Program} {w:World} {A:Around} {E:Value→Shared→Prop} {s:Shared}
def sIx (n d:Nat):Option Int→Nat
 | none=>d
 | some v=>if v<0 then (v+(n:Int)).toNat else min v.toNat n
theorem sIx_none (n d:Nat):sIx n d none=d:=rfl
theorem sIx_nat (n d k:Nat):sIx n d (some (k:Int))=min k n:=by
 show (if (k:Int)<0 then ((k:Int)+(n:Int)).toNat else min (k:Int).toNat n)=min k n
 rw [if_neg (by omega),Int.toNat_natCast]
end
end HT
namespace L2
open PySem PySem.Spec PyProof.Rows
abbrev TO:=St→Hp→(Option Int→Hp→Prop)→Prop
def PO (X:Cx) (e:Option Expr) (t:TO):Prop:=
 ∀(pins:List (Addr×Obj)) (s:Shared) (σ:St) (H:Hp) (Q:Option Int→Hp→Prop),Inv X pins σ H s→t σ H Q→
  wpAny (model X.prog X.w) X.A (evalPart e X.env) (fun u s'=>∃o H',Inv X pins σ H' s'∧IsPart u o∧Q o H') X.xe s
def tNoPart:TO:=fun _ H Q=>Q none H
def tPart (t:TE):TO:=fun σ H Q=>t σ H fun x H1=>∃i,x = .int i∧Q (some i) H1
section
variable {X:Cx} {e:Expr} {te:TE} {lo hi:Option Expr} {tl th:TO} {pos p2:Pos}
theorem po_none:PO X none tNoPart:=by
 intro pins s σ H Q I h
 rw [evalPart_none]
 exact wpAny_pure ⟨none,H,I,.none,h⟩
theorem po_some (h:PE X e te):PO X (some e) (tPart te):=by
 intro pins s σ H Q I hw
 rw [evalPart_some]
 refine thn (h pins s σ H _ I hw) fun u s1 ⟨x,H1,I1,r1,q1⟩=>?_
 obtain ⟨i,rfl,q⟩:=q1
 obtain ⟨t,rfl⟩:=r1
 exact ⟨some i,H1,I1,.int i t,q⟩
def SlR (X:Cx) (r:V→Option Int→Option Int→Hp→VK→Prop):Prop:=
 ∀(pins:List (Addr×Obj)) (s:Shared) (σ:St) (H:Hp) (x:V) (v vl vu:Value) (lo hi:Option Int) (sl:Addr) (Q:VK),Inv X pins σ H s→RelV x v→s.heap.IsSliceOf sl vl vu .none→IsPart vl lo→IsPart vu hi→r x lo hi H Q→
  ∃T id,typeLookup (.type T) "__getitem__" = pure (some (.builtin id))∧s.TypeIs v T∧wpAny (model X.prog X.w) X.A (getItem v (.ref sl)) (EP X pins σ Q) X.xe s
def tSl (r:V→Option Int→Option Int→Hp→VK→Prop) (te:TE) (tl th:TO):TE:=fun σ H Q=>te σ H fun x H1=>tl σ H1 fun l H2=>th σ H2 fun u H3=>r x l u H3 Q
theorem pe_slice {r:V→Option Int→Option Int→Hp→VK→Prop} (hr:SlR X r) (he:PE X e te) (hl:PO X lo tl) (hu:PO X hi th):PE X (.Subscript e (.Slice lo hi none p2) pos) (tSl r te tl th):=by
 intro pins s σ H Q I h
 refine Subscript_ (thn (he pins s σ H _ I h) fun v s1 ⟨x,H1,I1,r1,q1⟩=>?_)
 refine wpAny_Slice (thn (hl pins s1 σ H1 _ I1 q1) fun vl s2 ⟨l,H2,I2,pl,q2⟩=>thn (hu pins s2 σ H2 _ I2 q2) fun vu s3 ⟨u,H3,I3,pu,q3⟩=>?_)
 rw [evalPart_none]
 refine wpAny_pure ?_
 have I4:Inv X pins σ H3 { s3 with heap:=s3.heap.push { cls:=.type "slice",data:=.fields #[vl,vu,.none] } }:=I3.kept (t':=s3.toks) fun b ob q=>Heap.get?_push_of_some _ q
 obtain ⟨T,id,hT,ht,hg⟩:=hr pins { s3 with heap:=s3.heap.push { cls:=.type "slice",data:=.fields #[vl,vu,.none] } } σ H3 x v vl vu l u s3.heap.objs.size Q I4 r1 (Heap.IsSliceOf.new ..) pl pu q3
 show wpAny (model X.prog X.w) X.A (subscriptTail e (.Slice lo hi none p2) v (.ref s3.heap.objs.size)) (EP X pins σ Q) X.xe { s3 with heap:=s3.heap.push { cls:=.type "slice",data:=.fields #[vl,vu,.none] } }
 exact tail_any (ops:=[.ref s3.heap.objs.size,v]) ht hT hg (by with_unfolding_all rfl)
def cutV (xs:List V) (lo hi:Option Int):List V:=(xs.drop (HT.sIx xs.length 0 lo)).take (HT.sIx xs.length xs.length hi-HT.sIx xs.length 0 lo)
theorem cutV_length (xs:List V) (lo hi:Option Int):(cutV xs lo hi).length≤xs.length:=by
 unfold cutV
 rw [List.length_take,List.length_drop]
 omega
end
def ixN (n:Nat) (i:Int):Option Nat:=if 0≤i then (if i<n then some i.toNat else none) else if -(n:Int)≤i then some (i+n).toNat else none
def atI {α:Type} (xs:List α) (i:Int):Option α:=(ixN xs.length i).bind fun j=>xs[j]?
theorem ixN_seq {n:Nat} {i:Int} {j:Nat} (h:ixN n i=some j):seqIndex? i n=some j∧j<n∧-(n:Int)≤i∧i<n:=by
 unfold ixN at h
 by_cases h0:0≤i
 ·rw [if_pos h0] at h
  by_cases h1:i<n
  ·rw [if_pos h1] at h
   have e:i.toNat=j:=Option.some.inj h
   exact ⟨by rw [seqIndex_of h0 h1,e],by omega,by omega,h1⟩
  ·rw [if_neg h1] at h;cases h
 ·rw [if_neg h0] at h
  by_cases h1:-(n:Int)≤i
  ·rw [if_pos h1] at h
   have e:(i+n).toNat=j:=Option.some.inj h
   exact ⟨by rw [seqIndex_neg (by omega) h1,e],by omega,h1,by omega⟩
  ·rw [if_neg h1] at h;cases h
theorem atI_get {α:Type} {xs:List α} {i:Int} {v:α} (h:atI xs i=some v):∃j,seqIndex? i xs.length=some j∧xs[j]? = some v∧j<xs.length∧-(xs.length:Int)≤i∧i<xs.length:=by
 unfold atI at h
 cases e:ixN xs.length i with
 | none=>rw [e] at h;cases h
 | some j=>
  rw [e] at h
  obtain ⟨h1,h2,h3,h4⟩:=ixN_seq e
  exact ⟨j,h1,h,h2,h3,h4⟩
theorem atI_nat {α:Type} {xs:List α} {j:Nat} {v:α} (h:xs[j]? = some v):atI xs (j:Int)=some v:=by
 have hj:j<xs.length:=(List.getElem?_eq_some_iff.mp h).1
 have e:ixN xs.length (j:Int)=some j:=by
  unfold ixN
  rw [if_pos (by omega),if_pos (by omega)];simp
 unfold atI;rw [e];exact h
def PlainIx (b:Expr):Prop:=∀o i,subscripted b false o i=operate [o,i] (getItem o i)
def IxR (X:Cx) (r:R2):Prop:=
 ∀(value slice:Expr) (pins:List (Addr×Obj)) (s:Shared) (σ:St) (H:Hp) (x y:V) (v u:Value) (Q:VK),Inv X pins σ H s→RelV x v→RelV y u→r x y H Q→
  subscripted slice false v u=operate [v,u] (getItem v u)→wpAny (model X.prog X.w) X.A (subscriptTail value slice v u) (EP X pins σ Q) X.xe s
def MtR (X:Cx) (id:String) (r:V→List V→Hp→VK→Prop):Prop:=
 ∀(pins:List (Addr×Obj)) (s:Shared) (σ:St) (H:Hp) (x:V) (xs:List V) (v:Value) (us:List Value) (Q:VK),Inv X pins σ H s→RelV x v→Vals xs us→r x xs H Q→
  wpAny (model X.prog X.w) X.A (call (.builtin id) (v::us)) (EP X pins σ Q) X.xe s
section
variable {X:Cx} {a b:Expr} {ta tb:TE} {pos:Pos}
theorem IxR.or {r r':R2} (h:IxR X r) (h':IxR X r'):IxR X (fun x y H Q=>r x y H Q∨r' x y H Q):=by
 intro value slice pins s σ H x y v u Q I rx ry q hs
 rcases q with q | q
 ·exact h value slice pins s σ H x y v u Q I rx ry q hs
 ·exact h' value slice pins s σ H x y v u Q I rx ry q hs
theorem pe_ix {r:R2} (hr:IxR X r) (ha:PE X a ta) (hb:PE X b tb) (hs:PlainIx b):PE X (.Subscript a b pos) (tOp r ta tb):=by
 intro pins s σ H Q I h
 exact Subscript_ (binT ha hb I h fun v u s2 x y H2 I2 rx ry q=>hr a b pins s2 σ H2 x y v u Q I2 rx ry q (hs _ _))
def rIxL (K:PySem.W.Frag):R2:=fun x y H Q=>∃p xs i v,x = .ref p∧y = .int i∧SqL K H p xs∧atI xs i=some v∧Q v H
def rIxT (K:PySem.W.Frag):R2:=fun x y H Q=>∃p xs i v,x = .ref p∧y = .int i∧SqT K H p xs∧atI xs i=some v∧Q v H
def rIxS:R2:=fun x y H Q=>∃z i c,x = .str z∧y = .int i∧z.length≤sizeLine∧atI z.cps.toList i=some c∧Q (.str ⟨#[c]⟩) H
theorem ix_list:IxR X (rIxL X.K):=by
 intro value slice pins s σ H x y v u Q I rx ry h hs
 obtain ⟨p,xs,i,z,rfl,rfl,hq,he,q⟩:=h
 cases rx
 obtain ⟨t,rfl⟩:=ry
 obtain ⟨its,r,pl,hz⟩:=I.list hq
 obtain ⟨j,h1,h2,h3,h4,h5⟩:=atI_get he
 obtain ⟨w,ew,rw'⟩:=r.get h2
 have hl:=r.length
 have hn:=line63
 have fin:EP X pins σ Q w s:=⟨z,H,I,rw',q⟩
 by_cases h0:0≤i
 ·have hj:i.toNat=j:=by
   rw [seqIndex_of h0 h5] at h1
   exact Option.some.inj h1
  exact item_listR pl.isList h0 (by omega) (by rw [hj];simpa using ew) fin hs
 ·have hj:(i+(its.toArray.size:Int)).toNat=j:=by
   rw [seqIndex_neg (by omega) h4] at h1
   rw [List.size_toArray,←hl]
   exact Option.some.inj h1
  exact subscriptTail_builtinR (x:=w) pl.isList.typeIs slot_list_getitem.lookup
   (wpAny_getItem_list_neg (Q:=fun r s'=>r=w∧EP X pins σ Q r s') pl.isList (by omega) (by rw [List.size_toArray]<;>omega) (by omega) (by rw [hj];simpa using ew) ⟨rfl,fin⟩) hs
theorem ix_tup:IxR X (rIxT X.K):=by
 intro value slice pins s σ H x y v u Q I rx ry h hs
 obtain ⟨p,xs,i,z,rfl,rfl,hq,he,q⟩:=h
 cases rx
 obtain ⟨t,rfl⟩:=ry
 obtain ⟨its,r,pl,hz⟩:=I.tuple hq
 obtain ⟨j,h1,h2,h3,h4,h5⟩:=atI_get he
 obtain ⟨w,ew,rw'⟩:=r.get h2
 have hl:=r.length
 have hn:=line63
 have fin:EP X pins σ Q w s:=⟨z,H,I,rw',q⟩
 exact subscriptTail_builtinR (x:=w) pl.typeIs slot_tuple_getitem.lookup
  (getItem_tuple (j:=j) (Q:=fun r s'=>r=w∧EP X pins σ Q r s') pl (by omega) (by omega) (by rw [List.size_toArray,←hl];exact h1) (by simpa using ew) ⟨rfl,fin⟩) hs
theorem ix_str:IxR X rIxS:=by
 intro value slice pins s σ H x y v u Q I rx ry h hs
 obtain ⟨z,i,c,rfl,rfl,hz,he,q⟩:=h
 obtain ⟨t,rfl⟩:=rx
 obtain ⟨t',rfl⟩:=ry
 obtain ⟨j,h1,h2,h3,h4,h5⟩:=atI_get he
 have hl:z.cps.toList.length=z.length:=by simp [Str.length]
 rw [hl] at h1 h4 h5
 have hn:=line63
 exact tail_any (typeIs_str s z t) slot_str_getitem.lookup (getItem_str (c:=c) (by
  have e1:decide (i < -(2^63:Int))=false:=decide_eq_false (by omega)
  have e2:decide (i≥2^63)=false:=decide_eq_false (by omega)
  rw [e1,e2,Bool.or_false]) (by rw [h1];simpa using h2) ⟨.str ⟨#[c]⟩,H,I.tok _,⟨_,rfl⟩,q⟩) hs
def rIx (K:PySem.W.Frag):R2:=fun x y H Q=>rIxL K x y H Q∨rIxT K x y H Q∨rIxS x y H Q
theorem ix_seq:IxR X (rIx X.K):=ix_list.or (ix_tup.or ix_str)
theorem mapSeq_set (its:List Value) (n j:Nat) (u:Value):Obj.mapSeq (·.setIfInBounds j u) { cls:=.type "list",data:=.seq its.toArray n } = { cls:=.type "list",data:=.seq (its.set j u).toArray n }:=by
 simp [Obj.mapSeq]
theorem Inv.lst {pins:List (Addr×Obj)} {σ:St} {H:Hp} {s:Shared} {p:Addr} {xs:List V} (I:Inv X pins σ H s) (h:H p=some (.lst xs)) :
  ∃(its:List Value) (n:Nat),Vals xs its∧s.heap.get? p=some { cls:=.type "list",data:=.seq its.toArray n }∧xs.length≤sizeLine:=by
 obtain ⟨z,its,n,r,e⟩:=I.hok p _ h
 exact ⟨its,n,r,e,z⟩
theorem Inv.lstUpd {pins:List (Addr×Obj)} {σ:St} {H:Hp} {s:Shared} {p:Addr} {xs ys:List V} {its its':List Value} {n n':Nat} {f:Obj→Obj} (I:Inv X pins σ H s) (h:H p=some (.lst xs))
  (ho:s.heap.get? p=some { cls:=.type "list",data:=.seq its.toArray n }) (hf:f { cls:=.type "list",data:=.seq its.toArray n } = { cls:=.type "list",data:=.seq its'.toArray n' }) (r:Vals ys its') (hz:ys.length≤sizeLine) (t:Nat) :
  Inv X pins σ (upd H p (.lst ys)) { s with heap:=s.heap.update p f,toks:=t }:=by
 have e:(s.heap.update p f).get? p=some { cls:=.type "list",data:=.seq its'.toArray n' }:=by
  rw [Heap.get?_update_self f ho (by rw [hf]<;>rfl),hf]
 refine I.write (x:=p) (e:=p) (by rw [h];trivial) (.inl rfl) (fun b u hb q=>(Heap.get?_update_other _ _ (Ne.symm hb)).trans q) ⟨_,e⟩ ?_
 exact ⟨hz,its',n',r,e⟩
def rSetL:V→V→V→Hp→(Hp→Prop)→Prop:=fun o i v H Q=>∃p xs k j,o = .ref p∧i = .int k∧H p=some (.lst xs)∧ixN xs.length k=some j∧Q (upd H p (.lst (xs.set j v)))
theorem set_list:PSet X rSetL:=by
 intro pins s σ H o i v ov iv u Q I ro ri rv h
 obtain ⟨p,xs,k,j,rfl,rfl,hp,hj,q⟩:=h
 cases ro
 obtain ⟨t,rfl⟩:=ri
 obtain ⟨its,n,r,ho,hz⟩:=I.lst hp
 obtain ⟨h1,h2,h3,h4⟩:=ixN_seq hj
 have hl:=r.length
 have hn:=line63
 have I':Inv X pins σ (upd H p (.lst (xs.set j v))) { s with heap:=s.heap.update p (Obj.mapSeq (·.setIfInBounds j u)) }:=
  I.lstUpd hp ho (mapSeq_set its n j u) (r.set rv j) (by rw [List.length_set];exact hz) s.toks
 by_cases h0:0≤k
 ·have hk:k.toNat=j:=by
   rw [seqIndex_of h0 h4] at h1
   exact Option.some.inj h1
  exact PySem.W.ki_setAt ho h0 (by omega) (by rw [List.size_toArray,←hl];exact h4) (by rw [hk];exact ⟨_,I',q⟩)
 ·have hk:(k+(its.toArray.size:Int)).toNat=j:=by
   rw [seqIndex_neg (by omega) h3] at h1
   rw [List.size_toArray,←hl]
   exact Option.some.inj h1
  exact PySem.W.ki_setBack ho (by omega) (by rw [List.size_toArray,←hl];exact h3) (by omega) (by rw [hk];exact ⟨_,I',q⟩)
theorem slice_bounds (lo hi:Option Int) (n:Nat):(sliceBounds lo hi none n).1=((HT.sIx n 0 lo:Nat):Int)∧(sliceBounds lo hi none n).2.1=((HT.sIx n n hi:Nat):Int)∧(sliceBounds lo hi none n).2.2=1:=by
 refine ⟨?_,?_,rfl⟩
 ·cases lo with
  | none=>simp [sliceBounds,HT.sIx]
  | some i=>
   simp only [sliceBounds,HT.sIx,Option.getD_none,show (1:Int)>0 by decide,if_true]
   by_cases h:i<0
   ·simp only [h,if_true]<;>omega
   ·simp only [h,if_false]<;>omega
 ·cases hi with
  | none=>simp [sliceBounds,HT.sIx]
  | some i=>
   simp only [sliceBounds,HT.sIx,Option.getD_none,show (1:Int)>0 by decide,if_true]
   by_cases h:i<0
   ·simp only [h,if_true]<;>omega
   ·simp only [h,if_false]<;>omega
theorem slicePick_cut (its:List Value) (lo hi:Option Int):slicePick its.toArray lo hi none=((its.drop (HT.sIx its.length 0 lo)).take (HT.sIx its.length its.length hi-HT.sIx its.length 0 lo)).toArray:=by
 obtain ⟨h1,h2,h3⟩:=slice_bounds lo hi its.toArray.size
 unfold slicePick
 rw [h1,h2,h3]
 simp only [sliceRange_one,pick_run,List.size_toArray]<;>rfl
def rSlL (K:PySem.W.Frag):V→Option Int→Option Int→Hp→VK→Prop:=fun x lo hi H Q=>∃a xs,x = .ref a∧SqL K H a xs∧∀p,H p=none→Q (.ref p) (upd H p (.lst (cutV xs lo hi)))
theorem sl_list:SlR X (rSlL X.K):=by
 intro pins s σ H x v vl vu lo hi sl Q I rx hs pl pu h
 obtain ⟨a,xs,rfl,hx,q⟩:=h
 cases rx
 obtain ⟨its,r,ht,hz⟩:=I.list hx
 have hlen:=r.length
 refine ⟨"list",_,slot_list_getitem.lookup,ht.isList.typeIs,?_⟩
 refine wpAny_getItem_list_slice ht.isList hs pl pu .none (by simp) ?_ (by rw [List.size_toArray]<;>omega)
 rw [slicePick_cut,←hlen]
 refine ⟨.ref s.heap.objs.size,_,I.laid (t':=s.toks) (o:=.lst (cutV xs lo hi)) (fun b ob q=>Heap.get?_push_of_some _ q) (Nat.le_refl _) ?_,rfl,q _ (I.hok.fresh (Nat.le_refl _))⟩
 exact ⟨Nat.le_trans (cutV_length xs lo hi) hz,_,0,(r.drop (HT.sIx xs.length 0 lo)).take (HT.sIx xs.length xs.length hi-HT.sIx xs.length 0 lo),Heap.get?_push_size _ rfl⟩
theorem call_len_seq:CallR X (.builtin "len") (fun xs H Q=>∃p ys,xs=[.ref p]∧(SqL X.K H p ys∨SqT X.K H p ys)∧Q (.int ys.length) H):=by
 intro pins s σ H xs us Q I r h
 obtain ⟨p,ys,rfl,hq,q⟩:=h
 obtain ⟨u,rfl,rx⟩:=vals1 r
 cases rx
 have hn:=line63
 rcases hq with hq | hq
 ·obtain ⟨its,r',pl,hz⟩:=I.list hq
  have hlen:=r'.length
  exact Calls.call_len_list pl.isList (by simp only [List.size_toArray]<;>omega) ⟨.int ys.length,H,I.tok _,⟨s.toks+1,by rw [List.size_toArray,hlen]⟩,q⟩
 ·obtain ⟨its,r',pl,hz⟩:=I.tuple hq
  have hlen:=r'.length
  exact len_tuple pl (by simp only [List.size_toArray]<;>omega) ⟨.int ys.length,H,I.tok _,⟨s.toks+1,by rw [List.size_toArray,hlen]⟩,q⟩
theorem call_len_str:CallR X (.builtin "len") (fun xs H Q=>∃z,xs=[.str z]∧z.length≤sizeLine∧Q (.int z.length) H):=by
 intro pins s σ H xs us Q I r h
 obtain ⟨z,rfl,hz,q⟩:=h
 obtain ⟨u,rfl,t,rfl⟩:=vals1 r
 have hn:=line63
 exact len_str (by omega) ⟨.int z.length,H,I.tok _,⟨_,rfl⟩,q⟩
theorem call_list_of:CallR X (.type "list") (fun xs H Q=>∃p ys,xs=[.ref p]∧(SqL X.K H p ys∨SqT X.K H p ys)∧∀l,H l=none→Q (.ref l) (upd H l (.lst ys))):=by
 intro pins s σ H xs us Q I r h
 obtain ⟨p,ys,rfl,hq,q⟩:=h
 obtain ⟨u,rfl,rx⟩:=vals1 r
 cases rx
 have fin:∀(its:List Value),Vals ys its→ys.length≤sizeLine→∀(h':Heap) (c':Nat),(∀b o',s.heap.get? b=some o'→h'.get? b=some o')→
   h'.get? s.heap.objs.size=some { cls:=.type "list",dict:=none,data:=.seq its.toArray c',slots:=#[] }→EP X pins σ Q (.ref s.heap.objs.size) { s with heap:=h' }:=fun its r' hz h' c' kp e=>
  ⟨.ref s.heap.objs.size,_,I.laid (t':=s.toks) kp (Nat.le_refl _) (show ObjOk X.prog X.w _ h' _ (.lst ys) from ⟨hz,its,c',r',e⟩),rfl,q _ (I.hok.fresh (Nat.le_refl _))⟩
 rcases hq with hq | hq
 ·obtain ⟨its,r',pl,hz⟩:=I.list hq
  have hlen:=r'.length
  obtain ⟨o,ho,hc,n,hd⟩:=pl.isList
  exact call_list_seq p (.inl rfl) ho hc hd (fun h' c' kp e=>fin its r' hz h' c' kp e) (by simp only [List.size_toArray]<;>omega)
 ·obtain ⟨its,r',pl,hz⟩:=I.tuple hq
  have hlen:=r'.length
  obtain ⟨o,ho,hc,n,hd⟩:=pl
  exact call_list_seq p (.inr rfl) ho hc hd (fun h' c' kp e=>fin its r' hz h' c' kp e) (by simp only [List.size_toArray]<;>omega)
theorem call_tuple_of:CallR X (.type "tuple") (fun xs H Q=>∃p ys,xs=[.ref p]∧((SqL X.K H p ys∧∀l,H l=none→Q (.ref l) (upd H l (.tup ys)))∨(SqT X.K H p ys∧Q (.ref p) H))):=by
 intro pins s σ H xs us Q I r h
 obtain ⟨p,ys,rfl,h⟩:=h
 obtain ⟨u,rfl,rx⟩:=vals1 r
 cases rx
 rcases h with ⟨hq,q⟩ | ⟨hq,q⟩
 ·obtain ⟨its,r',pl,hz⟩:=I.list hq
  have hlen:=r'.length
  refine call_tuple_list pl.isList (fun h' kp=>?_) (by simp only [List.size_toArray]<;>omega)
  have I1:Inv X pins σ H { s with heap:=h' }:=I.kept (t':=s.toks) kp
  have I2:Inv X pins σ (upd H h'.objs.size (.tup ys)) { s with heap:=h'.push { cls:=.type "tuple",data:=.seq its.toArray } }:=
   I1.laid (t':=s.toks) (fun b o e=>Heap.get?_push_of_some _ e) (Nat.le_refl _) (show ObjOk X.prog X.w _ _ _ (.tup ys) from ⟨hz,its,r',IsTup.new _ _⟩)
  exact ⟨.ref h'.objs.size,_,I2,rfl,q _ (I1.hok.fresh (Nat.le_refl _))⟩
 ·obtain ⟨its,r',pl,hz⟩:=I.tuple hq
  exact call_tuple_same pl ⟨.ref p,H,I,rfl,q⟩
def tyV (K:PySem.W.Frag) (T:String) (x:V) (H:Hp):Prop:=match x with
 | .str _=>T = "str"
 | .int _=>T = "int"
 | .ref p=>(T = "list"∧∃xs,SqL K H p xs)∨(T = "tuple"∧∃o,K.lookup p=some o∧o.cls = .type "tuple"∧o.dict=none)∨
   (T = "dict"∧((∃kvs,H p=some (.dK kvs))∨∃kvs,H p=some (.dT kvs)))∨(T = "set"∧∃S n,H p=some (.set S n))
 | _=>False
theorem tyV_is {pins:List (Addr×Obj)} {σ:St} {H:Hp} {s:Shared} {T:String} {x:V} {v:Value} (I:Inv X pins σ H s) (r:RelV x v) (ty:tyV X.K T x H) :
  s.TypeIs v T∧∀a,v = .ref a→∃ob,s.heap.get? a=some ob∧ob.dict=none:=by
 cases x with
 | str z=>
  obtain ⟨t,rfl⟩:=r
  cases (show T = "str" from ty)
  exact ⟨typeIs_str s z t,fun _ e=>nomatch e⟩
 | int i=>
  obtain ⟨t,rfl⟩:=r
  cases (show T = "int" from ty)
  exact ⟨typeIs_int s i t,fun _ e=>nomatch e⟩
 | ref p=>
  cases r
  rcases ty with ⟨rfl,xs,hq⟩ | ⟨rfl,o,hk,hc,hd⟩ | ⟨rfl,hk⟩ | ⟨rfl,S,n,hk⟩
  ·obtain ⟨its,_,pl,_⟩:=I.list hq
   refine ⟨pl.isList.typeIs,fun a e=>?_⟩
   cases e
   obtain ⟨o,n,e,c,hd,_⟩:=pl
   exact ⟨o,e,hd⟩
  ·refine ⟨⟨o,I.kIn p o hk,hc⟩,fun a e=>?_⟩
   cases e
   exact ⟨o,I.kIn _ o hk,hd⟩
  ·have z:∃o,s.heap.get? p=some o∧o.ExactDict:=by
    rcases hk with ⟨kvs,hk⟩ | ⟨kvs,hk⟩
    ·obtain ⟨_,_,_,_,o,_,_,e,ex,_⟩:=I.hok p _ hk
     exact ⟨o,e,ex⟩
    ·obtain ⟨_,_,_,_,o,_,_,e,ex,_⟩:=I.hok p _ hk
     exact ⟨o,e,ex⟩
   obtain ⟨o,e,ex⟩:=z
   refine ⟨⟨o,e,ex.1⟩,fun a e2=>?_⟩
   cases e2
   exact ⟨o,e,ex.2.1⟩
  ·obtain ⟨o,_,_,_,e,ex,_⟩:=I.hok p _ hk
   refine ⟨⟨o,e,ex.1⟩,fun a e2=>?_⟩
   cases e2
   exact ⟨o,e,ex.2.1⟩
 | _=>exact False.elim ty
def tBM0 (K:PySem.W.Frag) (T:String) (r:V→List V→Hp→VK→Prop) (to:TE):TE:=fun σ H Q=>to σ H fun x H1=>tyV K T x H1∧r x [] H1 Q
def tBM (K:PySem.W.Frag) (T:String) (r:V→List V→Hp→VK→Prop) (to:TE) (t:TA):TE:=fun σ H Q=>to σ H fun x H1=>tyV K T x H1∧t σ H1 fun xs H2=>r x xs H2 Q
variable {o e:Expr} {es:List Expr} {to:TE} {t:TA} {name:Str} {apos cpos:Pos} {T id:String} {r:V→List V→Hp→VK→Prop}
theorem pe_bm0 (pa:PlainAttrs T) (slot:Slot T name id) (hty:typeOf (.builtin id)=pure (.type "method_descriptor")) (hm:MtR X id r) (ho:PE X o to)
  (hbase:attributeBase o name X.env (eval o X.env)=eval o X.env:=by rfl) (hline:(apos.endLine==cpos.line)=true:=by rfl):PE X (.Call (.Attribute o name apos) [] [] cpos) (tBM0 X.K T r to):=by
 intro pins s σ H Q I h
 refine wpAny_Call_method0_late hbase hline (thn (ho pins s σ H _ I h) fun v s1 ⟨x,H1,I1,r1,ty,q1⟩=>?_)
 obtain ⟨h1,h2⟩:=tyV_is I1 r1 ty
 exact ⟨T,id,pa,slot,hty,h1,h2,Calls.callWith_builtin rfl (PySem.evalArgs_none (hm pins s1 σ H1 x [] v [] Q I1 r1 .nil q1))⟩
theorem pe_bm (pa:PlainAttrs T) (slot:Slot T name id) (hty:typeOf (.builtin id)=pure (.type "method_descriptor")) (hm:MtR X id r) (ho:PE X o to) (ha:PA X (e::es) t)
  (hbase:attributeBase o name X.env (eval o X.env)=eval o X.env:=by rfl)
  (hfew:((backTo cpos (starEach (e::es) X.env)).all (fun x=>!x.1)&&(backToKw cpos (keywordEach [] X.env)).all (fun x=>x.1.isSome)
  &&decide ((e::es).length+([]:List Keyword).length+(if ([]:List Keyword).isEmpty then 0 else 1)<30))=true:=by rfl)
  (hline:(apos.endLine==cpos.line)=true:=by rfl) (hs:starEach (e::es) X.env=(false,eval e X.env)::starEach es X.env:=by rfl) (hplain:(backTo cpos (starEach es X.env)).any (·.1)=false:=by rfl) :
  PE X (.Call (.Attribute o name apos) (e::es) [] cpos) (tBM X.K T r to t):=by
 intro pins s σ H Q I h
 refine wpAny_Call_method_late hbase hfew hline rfl (thn (ho pins s σ H _ I h) fun v s1 ⟨x,H1,I1,r1,ty,q1⟩=>?_)
 obtain ⟨h1,h2⟩:=tyV_is I1 r1 ty
 refine ⟨T,id,pa,slot,hty,h1,h2,?_⟩
 have hA:=ha cpos pins s1 σ H1 _ I1 q1
 rw [hs] at hA ⊢
 refine Calls.callWith_builtin (by show (false||(backTo cpos (starEach es X.env)).any (·.1))=false;rw [hplain]<;>rfl) (Calls.evalArgs_plain ?_)
 exact thn hA fun us s2 ⟨vs,H2,I2,r2,q2⟩=>hm pins s2 σ H2 x vs v us Q I2 r1 r2 q2
/- xs.append(e),list.index on a module's tuple .. are MtR facts of 06m -/
end
def MtM (X:Cx) (id:String) (r:V→List V→Hp→VK→Prop):Prop:=
 ∀(pins:List (Addr×Obj)) (s:Shared) (σ:St) (H:Hp) (x:V) (xs:List V) (v:Value) (us:List Value) (Q:VK),Inv X pins σ H s→RelV x v→Vals xs us→r x xs H Q→
  wpAny (model X.prog X.w) X.A (call (.builtin id) (v::us)) (EP X pins σ Q) X.xe s
theorem Vals.one:∀{x:V} {us:List Value},Vals [x] us→∃u,us=[u]∧RelV x u
 | _,_,.cons r .nil=>⟨_,rfl,r⟩
theorem Vals.two:∀{x y:V} {us:List Value},Vals [x,y] us→∃u v,us=[u,v]∧RelV x u∧RelV y v
 | _,_,_,.cons r (.cons q .nil)=>⟨_,_,rfl,r,q⟩
theorem Vals.eraseIdx:∀{xs:List V} {us:List Value} (i:Nat),Vals xs us→Vals (xs.eraseIdx i) (us.eraseIdx i)
 | _,_,_,.nil=>.nil
 | _,_,0,.cons _ t=>t
 | _,_,i+1,.cons r t=>.cons r (Vals.eraseIdx i t)
theorem Vals.reverse {xs:List V} {us:List Value} (h:Vals xs us):Vals xs.reverse us.reverse:=by
 induction h with
 | nil=>exact .nil
 | cons r t ih=>rw [List.reverse_cons,List.reverse_cons];exact Vals.append ih (.cons r .nil)
theorem Vals.rep {xs:List V} {us:List Value} (h:Vals xs us):∀k:Nat,Vals (List.replicate k xs).flatten (List.replicate k us).flatten
 | 0=>.nil
 | k+1=>by
  rw [List.replicate_succ,List.replicate_succ,List.flatten_cons,List.flatten_cons]
  exact Vals.append h (Vals.rep h k)
theorem len_erase {α:Type}:∀(l:List α) (i:Nat),(l.eraseIdx i).length≤l.length
 | [],_=>Nat.le_refl _
 | _::_,0=>Nat.le_succ _
 | _::r,i+1=>Nat.succ_le_succ (len_erase r i)
theorem foldl_rep (its:List Value):∀(k:Nat) (acc:List Value),
  List.foldl (fun x1 x2=>x1++x2) acc.toArray (List.replicate k its.toArray)=(acc++(List.replicate k its).flatten).toArray
 | 0,acc=>by simp
 | k+1,acc=>by
  have e:acc.toArray++its.toArray=(acc++its).toArray:=by simp
  have e2:(acc++its)++(List.replicate k its).flatten=acc++(List.replicate (k+1) its).flatten:=by
   rw [List.replicate_succ,List.flatten_cons,List.append_assoc]
  rw [←e2,←foldl_rep its k (acc++its),←e,List.replicate_succ,List.foldl_cons]
section
variable {X:Cx} {pins:List (Addr×Obj)} {σ:St} {H:Hp} {s:Shared} {l b:Addr} {xs ys zs:List V}
theorem Inv.lset {its its':List Value} {n:Nat} {f:Array Value→Array Value} {t':Nat} (I:Inv X pins σ H s) (hH:H l=some (.lst xs))
  (e:s.heap.get? l=some { cls:=.type "list",data:=.seq its.toArray n }) (hf:f its.toArray=its'.toArray) (hv:Vals ys its') (hz:ys.length≤sizeLine) :
  Inv X pins σ (upd H l (.lst ys)) { s with heap:=s.heap.update l (Obj.mapSeq f),toks:=t' }:=by
 have q:=PySem.IsL.update e f
 rw [hf] at q
 refine I.write (x:=l) (e:=l) (by rw [hH];exact trivial) (.inl rfl) (fun b' u hb hu=>(Heap.get?_update_other s.heap (Obj.mapSeq f) (Ne.symm hb)).trans hu) ⟨_,q⟩ ?_
 exact ⟨hz,its',_,hv,q⟩
theorem Inv.lnew {its:List Value} {t':Nat} (I:Inv X pins σ H s) (hv:Vals ys its) (hz:ys.length≤sizeLine) :
  Inv X pins σ (upd H s.heap.objs.size (.lst ys)) { s with heap:=s.heap.push { cls:=.type "list",data:=.seq its.toArray },toks:=t' }:=
 I.laid (fun _ _ q=>Heap.get?_push_of_some _ q) (Nat.le_refl _) ⟨hz,its,0,hv,Heap.get?_push_size _ rfl⟩
theorem Inv.fresh (I:Inv X pins σ H s):H s.heap.objs.size=none:=I.hok.fresh (Nat.le_refl _)
theorem Inv.lstM (I:Inv X pins σ H s) (hH:H l=some (.lst xs)):xs.length≤sizeLine∧∃(its:List Value) (n:Nat),Vals xs its∧xs.length=its.length∧s.heap.get? l=some { cls:=.type "list",data:=.seq its.toArray n }:=by
 obtain ⟨z,its,n,r,e⟩:=I.hok l _ hH
 exact ⟨z,its,n,r,r.length,e⟩
theorem notLongL {n:Nat} (h:n≤sizeLine):Builtin.List.listTooLong n=false:=by
 unfold Builtin.List.listTooLong
 exact decide_eq_false (by omega)
end
section
variable {X:Cx}
def rAppend:V→List V→Hp→VK→Prop:=fun x vs H Q=>∃l xs y,x = .ref l∧vs=[y]∧H l=some (.lst xs)∧xs.length<sizeLine∧Q .non (upd H l (.lst (xs++[y])))
theorem mt_append:MtM X "list.append" rAppend:=by
 intro pins s σ H x vs v us Q I rx rv h
 obtain ⟨l,xs,y,rfl,rfl,hH,hz,q⟩:=h
 cases rx
 obtain ⟨u,rfl,ru⟩:=rv.one
 obtain ⟨z,its,n,r,hl,e⟩:=I.lstM hH
 refine call_meets F.slot_list_append ⟨_,e,rfl⟩ F.entry_list_append (F.args_list_append_2 _ _) (PySem.list_append l its.toArray n u (by rw [List.size_toArray];omega)) ⟨e,?_⟩
 refine ⟨.non,_,I.lset (its':=its++[u]) hH e (by simp) (r.append (.cons ru .nil)) ?_,rfl,q⟩
 rw [List.length_append,List.length_singleton]
 omega
def rPopAt:V→List V→Hp→VK→Prop:=fun x vs H Q=>∃l xs i k y,x = .ref l∧vs=[.int i]∧H l=some (.lst xs)∧-(2^63)≤i∧i<2^63∧seqIndex? i xs.length=some k∧xs[k]? = some y∧Q y (upd H l (.lst (xs.eraseIdx k)))
theorem mt_popAt:MtM X "list.pop" rPopAt:=by
 intro pins s σ H x vs v us Q I rx rv h
 obtain ⟨l,xs,i,k,y,rfl,rfl,hH,h1,h2,hk,hy,q⟩:=h
 cases rx
 obtain ⟨u,rfl,ru⟩:=rv.one
 obtain ⟨t,rfl⟩:=ru
 obtain ⟨z,its,n,r,hl,e⟩:=I.lstM hH
 obtain ⟨w,hw,rw'⟩:=r.get hy
 refine call_meets F.slot_list_pop ⟨_,e,rfl⟩ F.entry_list_pop (F.args_list_pop_2 _ _)
  (MeetsSeq.list_pop_at l its.toArray n i t k w (fitsIndex_both h1 h2) (by rw [List.size_toArray,←hl];exact hk) (by rw [←Array.getElem?_toList];exact hw) (by rw [List.size_toArray];omega)) ⟨e,?_⟩
 refine ⟨y,_,I.lset (its':=its.eraseIdx k) hH e ?_ (r.eraseIdx k) ?_,rw',q⟩
 ·show its.toArray.eraseIdxIfInBounds k=(its.eraseIdx k).toArray
  rw [List.eraseIdxIfInBounds_toArray]
 ·have:=len_erase xs k
  omega
def rCat:R2:=fun x y H Q=>∃l b xs zs,x = .ref l∧y = .ref b∧H l=some (.lst xs)∧H b=some (.lst zs)∧xs.length+zs.length≤sizeLine∧∀p,H p=none→Q (.ref p) (upd H p (.lst (xs++zs)))
theorem op_cat:OpR X (binaryOp .Add) rCat:=by
 intro pins s σ H x y v u Q I rx ry h
 obtain ⟨l,b,xs,zs,rfl,rfl,hH,hB,hz,q⟩:=h
 cases rx
 cases ry
 obtain ⟨z,its,n,r,hl,e⟩:=I.lstM hH
 obtain ⟨z2,its2,n2,r2,hl2,e2⟩:=I.lstM hB
 refine PySem.P.add_list e e2 ?_ (by rw [List.size_toArray,List.size_toArray];omega)
 have ea:its.toArray++its2.toArray=(its++its2).toArray:=by simp
 rw [ea]
 exact ⟨.ref _,_,I.lnew (t':=s.toks) (r.append r2) (by rw [List.length_append];omega),rfl,q _ I.fresh⟩
def rRep:R2:=fun x y H Q=>∃l k xs,x = .ref l∧y = .int k∧H l=some (.lst xs)∧-(2^63)≤k∧k<2^63∧xs.length*k.toNat≤sizeLine∧
 ∀p,H p=none→Q (.ref p) (upd H p (.lst (List.replicate k.toNat xs).flatten))
theorem len_rep {α:Type} (xs:List α) (k:Nat):(List.replicate k xs).flatten.length=k*xs.length:=by
 induction k with
 | zero=>simp
 | succ k ih=>rw [List.replicate_succ,List.flatten_cons,List.length_append,ih,Nat.succ_mul,Nat.add_comm]
theorem op_rep:OpR X (binaryOp .Mult) rRep:=by
 intro pins s σ H x y v u Q I rx ry h
 obtain ⟨l,k,xs,rfl,rfl,hH,h1,h2,hz,q⟩:=h
 cases rx
 obtain ⟨t,rfl⟩:=ry
 obtain ⟨z,its,n,r,hl,e⟩:=I.lstM hH
 have hlen:its.toArray.size*k.toNat≤sizeLine:=by rw [List.size_toArray,←hl];exact hz
 have hcap:¬its.toArray.size*k.toNat>(2^63-1)/8:=by
  have:(sizeLine:Nat)≤(2^63-1)/8:=by decide
  omega
 have hfit:¬(!Builtin.List.listFitsIndex k)=true:=by
  rw [fitsIndex_both h1 h2]
  exact Bool.false_ne_true
 have hlong:¬Builtin.List.listTooLong (its.toArray.size*k.toNat)=true:=by
  rw [notLongL hlen]
  exact Bool.false_ne_true
 have hnew:List.foldl (fun x1 x2=>x1++x2) #[] (List.replicate (if its.toArray.isEmpty=true then 0 else k.toNat) its.toArray)=(List.replicate k.toNat its).flatten.toArray:=by
  have f0:∀m:Nat,List.foldl (fun x1 x2=>x1++x2) #[] (List.replicate m its.toArray)=(List.replicate m its).flatten.toArray:=fun m=>by
   have:=foldl_rep its m []
   rw [List.nil_append] at this
   exact this
  rw [f0]
  cases its with
  | nil=>simp
  | cons a r'=>rw [if_neg (by simp)]
 refine wpAny_binaryOp_repeat_ref (T:="list") (U:="int") (by decide) ⟨_,e,rfl⟩ (fun s'=>typeIs_int s' k t) noFill_list_mul F.fills_int_mul F.slot_int_rmul repeat_list F.slot_int_index.lookup
  (call_meets F.slot_int_rmul (typeIs_int s k t) F.entry_int_rmul (F.args_int_rmul_2 _ _) (int___rmul___int_list k t l its.toArray n)
   ⟨e,rfl,⟨_,e,rfl⟩,call_meets F.slot_list_mul ⟨_,e,rfl⟩ F.entry_list_mul (F.args_list_mul_2 _ _) (AutoListH.list___mul___list_int_3 l its.toArray n k t hfit hcap hlong) ⟨e,?_⟩⟩)
 rw [hnew]
 exact ⟨.ref _,_,I.lnew (t':=s.toks) (r.rep k.toNat) (by rw [len_rep,Nat.mul_comm];exact hz),rfl,q _ I.fresh⟩
end
section
variable {prog:Program} {w:World} {A:Around} {E:Value→Shared→Prop} {s:Shared}
set_option maxRecDepth 100000 in
end
section
variable {X:Cx}
end
end L2
namespace Att
open PySem PySem.W PySem.Calls PyProof.Rows
theorem ints_of_wellAll {P:Params} {h:Heap}:∀(ns:List Int) (vs:List Value),WellAll P h vs (ns.map WData.int)→IntsAre vs ns:=by
 intro ns
 induction ns with
 | nil=>
  intro vs w
  rw [List.map_nil] at w
  cases w
  exact .nil
 | cons n ns ih=>
  intro vs w
  rw [List.map_cons] at w
  cases w with
  | cons a b=>
   cases a
   exact .cons _ _ (ih _ b)
theorem script_of {l:OpenLaw} {n:Nat} (hn:l.most=some n) {P:Params} {h:Heap} {args:List WData} {vals:List Value}
  (hpre:l.row.toRowW.claim.pre args=true) (hwl:WellAll P h vals args) :
  ∃a vs ns,vals=[Value.ref a]∧args=[WData.list (ns.map WData.int)]∧h.get? a=some { cls:=.type "list",data:=.seq vs.toArray }∧IntsAre vs ns∧ns.length≤n:=by
 have hsh:WShape.hasAll [] args [.list .int]=true:=(pre_splitW hpre).1
 have hc:l.pre.holds [] { args:=args } = true:=(pre_splitW hpre).2
 obtain ⟨d,r,rfl,h1,h2⟩:=hasAllW_cons hsh
 obtain rfl:=hasAllW_nil h2
 obtain ⟨xs,rfl,h3⟩:=hasW_list h1
 obtain ⟨ns,rfl⟩:=items_int h3
 have hlen:ns.length≤n:=by
  unfold OpenLaw.pre at hc
  have h4:(WTm.not (.lt (.lit (.int (n:Int))) (.len (.arg 0)))).holds [] { args:=[.list (ns.map .int)] } = true:=by
   have h4:=(holds_andW hc).1
   rw [hn] at h4
   exact h4
  have h5:=condW_of h4 (w_not (w_lt w_lit (w_len_list (w_arg rfl))))
  rw [List.length_map] at h5
  refine Nat.le_of_not_lt fun q=>?_
  have q':(n:Int)<((ns.length:Nat):Int):=by omega
  first
   | (rw [decide_eq_true q'] at h5;exact absurd h5 (by decide))
   | (simp at h5;omega)
 cases hwl with
 | cons w1 w2=>
  cases w2
  cases w1 with
  | list ho hall=>exact ⟨_,_,ns,rfl,rfl,ho,ints_of_wellAll ns _ hall,hlen⟩
theorem post_true (l:OpenLaw) (args:List WData):l.row.toRowW.claim.post args (.bool true) args=true:=
 postW_of (r:=l.row.toRowW) (X:=(true==true))
  (show WShape.has [] (.bool true) .bool=true by first | rfl | decide | simp [WShape.has,WShape.arms,WShape.armsAll])
  (show (WTm.eq .res (.lit (.bool true))).value [] { args:=args,res:=some (.bool true),after:=args } = some (.bool (true==true)) from w_eq_bool (w_res rfl) w_lit) rfl
theorem attach_call {l:OpenLaw} {n:Nat} {q:Program} {loose:List Str} {XP:(Str→Option Value)→Heap→Prop} {YP:World→Heap→Prop} {d:DefRec}
  (hn:l.most=some n) (hdf:d.params.defaults=[])
  (call:∀(w:World) (s₀ s₁:Shared) (mg mb:Str→Option Value) (fa:Addr) (o:Obj) (pm cd doc:Value) (a:Addr) (vs:List Value) (ns:List Int),
   Ground q loose [] XP w s₀ mg mb s₁.heap→YP w s₁.heap→
   s₁.heap.get? fa=some o→o.data = .func (docDef d.name d.params d.body d.scope pm cd doc)→s₁.heap.CodeRec cd d.name→mg d.name=some (.ref fa)→
   s₁.heap.get? a=some { cls:=.type "list",data:=.seq vs.toArray }→IntsAre vs ns→ns.length≤n→s₁.gens = #[]→
   codeAny (model l.prog w) callerA (.call (.ref fa) ⟨[.ref a],[]⟩) (fun r s'=>r = .ok (.ret (.bool true))∧OldK s₁.heap s'.heap∧s'.os=s₁.os∧AllBare s'.gens) s₁) :
  WalkO q loose XP YP l.row.toRowW d [] (fun f vs=>PySem.call f vs):=by
 intro w s₀ s₁ mg mb G Y fa o pm cd doc dV kV ho hd hcd hD hmg hg args vals as hpre hlay hrd hwl hlo
 obtain rfl:dV = .none:=Dflts.none hD hdf
 obtain rfl:kV = .none:=Dflts.noKw hD
 obtain ⟨a,vs,ns,rfl,rfl,hobj,hints,hlen⟩:=script_of hn hpre hwl
 refine enter_call (codeAny_mono (call w s₀ s₁ mg mb fa o pm cd doc a vs ns G Y ho (fd_plain hd) hcd hmg hobj hints hlen hg) fun r s' hq=>?_)
 obtain ⟨rfl,h2,h3,h4⟩:=hq
 exact ⟨.inl ⟨.bool true,.bool true,[],rfl,fun _=>rfl,.bool true,post_true l _,fun _=>⟨List.Pairwise.nil,fun _ hm=>(nomatch hm)⟩⟩,h2,h3,h4⟩
section
variable {prog:Program} {w:World} {A:Around} {E:Value→Shared→Prop} {s:Shared} {K:Frag}
end
end Att
namespace L2
open PySem PySem.Spec PyProof.Rows
theorem vals_ints:∀{vs:List Value} {ns:List Int},IntsAre vs ns→Vals (ns.map V.int) vs
 | _,_,.nil=>.nil
 | _,_,.cons n t h=>.cons ⟨t,rfl⟩ (vals_ints h)
def Only (H:Hp):Prop:=∀b,H b=none∨∃o xs,H b=some (.frz o (.lst xs))
theorem law_call {P:Program} {w:World} {K:PySem.W.Frag} {mg mb:Str→Option Value} {CX:CXT} {k:Nat} {fa a:Addr} {fd:FuncData} {x:Str} {sp:Sp} {s₁:Shared} {vs:List Value} {ns:List Int}
  (KX:K.In s₁.heap) (hns:s₁.heap.Ns mainGlobals mg) (hb:s₁.heap.Ns builtinsNs mb) (hbb:∀x:Str,x≠"__name__"→mb x=bootBuiltins x) (hlim:s₁.heap.NoLimit) (hg:s₁.gens = #[])
  (ha:s₁.heap.get? a=some { cls:=.type "list",data:=.seq vs.toArray }) (hi:IntsAre vs ns) (hl:ns.length≤sizeLine) (hr:Room k callerA)
  (F:∀base:Heap,K.In base→base.Ns mainGlobals mg→FnOk P w K mg base CX k fa fd [x] sp) (hbind:∀(s:Shared) (u:Value),BindsTo s fd ⟨[u],[]⟩ [(x,u)])
  (hsp:∀H:Hp,Only H→SqL K H a (ns.map V.int)→sp [.ref a] H (fun v _=>v = .bl true) fun _ _ _=>False)
  (hCX:∀H e s',CX [] H s₁ (fun _ _ _=>False) e s'→False) :
  codeAny (model P w) callerA (.call (.ref fa) ⟨[.ref a],[]⟩) (fun r s'=>r = .ok (.ret (.bool true))∧OldK s₁.heap s'.heap∧s'.os=s₁.os∧AllBare s'.gens) s₁:=by
 have rv:=vals_ints hi
 have lenV:=hi.length
 -- from an abstract heap in which nothing but the script may be tracked
 have core:∀H:Hp,Only H→SqL K H a (ns.map V.int)→HOk P w H s₁.heap→(∀b,H b≠none→b=a)→(H a≠none→K.lookup a=none)→
   codeAny (model P w) callerA (.call (.ref fa) ⟨[.ref a],[]⟩) (fun r s'=>r = .ok (.ret (.bool true))∧OldK s₁.heap s'.heap∧s'.os=s₁.os∧AllBare s'.gens) s₁:=by
  intro H hO hS hok hA hK
  have base_of:∀{b:Addr} {o:Obj},s₁.heap.get? b=some o→H b=none→(hidT s₁.heap H).get? b=some o:=fun e n=>hidT_get e n
  have noA:∀{b:Addr} {o:Obj} {es:Array DictEntry} {ep:Nat},s₁.heap.get? b=some o→o.data = .dict es ep→H b=none:=fun {b o es ep} e d=>by
   cases q:H b with
   | none=>rfl
   | some u=>
    have e':b=a:=hA b (by rw [q];simp)
    subst e'
    rw [ha] at e;cases e
    have d':Data.seq vs.toArray _=Data.dict es ep:=d
    cases d'
  have nsK:∀{b:Addr} {m:Str→Option Value},s₁.heap.Ns b m→(hidT s₁.heap H).Ns b m:=fun {b m} ⟨o,es,ep,e,d,r⟩=>⟨o,es,ep,base_of e (noA e d),d,r⟩
  have hKb:K.In (hidT s₁.heap H):=fun b o e=>base_of (KX b o e) (by
   cases q:H b with
   | none=>rfl
   | some u=>
    have e':b=a:=hA b (by rw [q];simp)
    subst e'
    rw [hK (by rw [q];simp)] at e;cases e)
  have hM:Mod K mg (hidT s₁.heap H):=⟨hKb,nsK hns,⟨mb,nsK hb,hbb⟩,let ⟨mc,h1,h2⟩:=hlim;⟨mc,nsK h1,h2⟩⟩
  have e0:Env0 P w K mg (hidT s₁.heap H) callerA [] s₁ H:=⟨rfl,hM,fun b o e=>of_hidT e,Nat.le_of_eq (hidT_size _ _),trivial,fun b hb=>absurd (show b∈([]:List Addr) from hb) (by simp),hok,.of_eq hg⟩
  refine codeAny_mono ((F _ hKb (nsK hns)).run callerA [] s₁ H ⟨[.ref a],[]⟩ [.ref a] [.ref a] _ _ hr e0 (hbind s₁ (.ref a)) (.cons rfl .nil) (hsp H hO hS)) fun r s' h=>?_
  cases r with
  | error e=>exact (hCX H e s' h).elim
  | ok fl=>
   cases fl with
   | next=>exact False.elim h
   | brk=>exact False.elim h
   | cont=>exact False.elim h
   | ret u=>
    obtain ⟨v,H',os,bare,un,hok',r',q⟩:=h
    have q':v = .bl true:=q
    subst q'
    obtain rfl:u=Value.bool true:=r'
    refine ⟨rfl,OldK.of_keep fun b o e=>?_,os,bare⟩
    cases q:H b with
    | none=>exact un.keep b o e q (by intro z;exact absurd (show b∈([]:List Addr) from z) (by simp)) (by simp)
    | some u=>
     rcases hO b with z | ⟨ob,xs,z⟩
     ·rw [q] at z;cases z
     ·have z2:=un.frzs b ob _ z
      obtain ⟨e1,_⟩:=hok b _ z
      obtain ⟨e2,_⟩:=hok' b _ z2
      rw [e] at e1;cases e1
      exact e2
 cases hk:K.lookup a with
 | some o=>
  -- the script is one of the module's own objects
  have e:=KX a o hk
  rw [ha] at e
  cases e
  refine core (fun _=>none) (fun _=>.inl rfl) (.inr ⟨_,vs.toArray,_,hk,rfl,rfl,rfl,by rw [List.size_toArray,lenV];exact hl,by simpa using rv⟩) (fun b u z=>by have z':(none:Option HO)=some u:=z;cases z') (fun b z=>absurd rfl z) fun z=>absurd rfl z
 | none=>
  refine core (fun b=>if b=a then some (.frz { cls:=.type "list",data:=.seq vs.toArray } (.lst (ns.map V.int))) else none) (fun b=>?_) (.inl (.inr ⟨{ cls:=.type "list",data:=.seq vs.toArray },if_pos rfl⟩)) (fun b u z=>?_) (fun b z=>?_) fun _=>hk
  ·by_cases hb:b=a
   ·exact .inr ⟨_,_,if_pos hb⟩
   ·exact .inl (if_neg hb)
  ·by_cases hb:b=a
   ·have z':=(if_pos hb).symm.trans z
    cases z'
    subst hb
    exact ⟨ha,by rw [List.length_map];exact hl,vs,_,rv,ha⟩
   ·have z':=(if_neg hb).symm.trans z
    cases z'
  ·by_cases hb:b=a
   ·exact hb
   ·exact absurd (if_neg hb) z
theorem walk_of {l:PySem.W.OpenLaw} {n k:Nat} {q:Program} {loose:List Str} {XP:(Str→Option Value)→Heap→Prop} {YP:World→Heap→Prop} {d:DefRec} {K:Params→PySem.W.Frag} {CX:World→CXT} {sp:World→Sp} {x:Str}
  (hn:l.most=some n) (hn2:n≤sizeLine) (hdf:d.params.defaults=[]) (hr:Room k callerA)
  (hY:∀(w:World) (h:Heap),YP w h→(K w.params).In h)
  (F:∀(w:World) (mg:Str→Option Value) (fa:Addr) (h:Heap),(K w.params).In h→h.Ns mainGlobals mg→mg d.name=some (.ref fa)→
   ∃fd:FuncData,(∀(s:Shared) (u:Value),BindsTo s fd ⟨[u],[]⟩ [(x,u)])∧
    ∀base:Heap,(K w.params).In base→base.Ns mainGlobals mg→FnOk l.prog w (K w.params) mg base (CX w) k fa fd [x] (sp w))
  (hsp:∀(w:World) (H:Hp) (a:Addr) (ns:List Int),ns.length≤n→Only H→SqL (K w.params) H a (ns.map V.int)→sp w [.ref a] H (fun v _=>v = .bl true) fun _ _ _=>False)
  (hCX:∀(w:World) (H:Hp) (s:Shared) (e:Value) (s':Shared),CX w [] H s (fun _ _ _=>False) e s'→False) :
  PySem.W.WalkO q loose XP YP l.row.toRowW d [] (fun f vs=>PySem.call f vs):=by
 refine Att.attach_call hn hdf fun w s₀ s₁ mg mb fa o pm cd doc a vs ns G Y ho hd hcd hmg hobj hints hlen hg=>?_
 have KX:=hY w _ Y
 obtain ⟨fd,hb,hF⟩:=F w mg fa _ KX G.T.g hmg
 exact law_call KX G.T.g G.T.b G.T.builtins G.T.nolimit hg hobj hints (Nat.le_trans hlen hn2) hr hF hb (fun H hO hS=>hsp w H a ns hlen hO hS) fun H e s'=>hCX w H s₁ e s'
end L2
/- THE LAST THEOREM (shape;LID,My.* are yours):
   My.Adr: a structure of the addresses that your layer names (classes,functions);My.Txt K t: a structure (Prop) of the equations over K;
   My.txt_mk:{K} {implicit addresses ..} (e1:nsIn K mainGlobals "law" = some (some (.ref f))) (e2:K.lookup f=some ⟨oc,od,.func (fnOf "law" "law" params body scope dV kV doc pm an cdv ct),sl⟩) (e3:codeIn K cdv "law" = true) .. : ∃t,My.Txt K t
set_option maxRecDepth 100000 in
set_option maxHeartbeats 0 in
(the tactic k_is has no namespace: write k_is) -/
namespace L2
open PySem PySem.Spec PyProof.Rows
def defArgs (s:Stmt):Arguments:=match s with
 | .FunctionDef _ a _ _ _ _ _ _ _ _=>a
 | _=>{ posonlyargs:=[],args:=[],vararg:=none,kwonlyargs:=[],kw_defaults:=[],kwarg:=none,defaults:=[] }
def defBody (s:Stmt):List Stmt:=match s with
 | .FunctionDef _ _ b _ _ _ _ _ _ _=>b
 | _=>[]
def defScope (s:Stmt):Scope:=match s with
 | .FunctionDef _ _ _ _ _ _ sc _ _ _=>sc
 | _=>{ kind:=.function,names:=[],isGenerator:=false,isCoroutine:=false }
abbrev CX0:CXT:=fun _ _ _ _ _ _=>False
abbrev E0:XK:=fun _ _ _=>False
theorem pass0 {X:Cx}:Passes CX0 X E0:=fun _ _ _ _ _ _ _ h=>h.elim
structure Fun (K:PySem.W.Frag) (x qual:Str) (st:Stmt) (f:Addr) (fd:FuncData):Prop where
 ex:∃(oc:Value) (od:Option Addr) (kV doc pm:Value) (an:Option Addr) (cdv ct:Value) (osl:Array (Option Value)),
  fd=PySem.W.fnOf x qual (defArgs st) (defBody st) (defScope st) .none kV doc pm an cdv ct∧K.lookup f=some ⟨oc,od,.func fd,osl⟩∧PySem.W.codeIn K cdv qual=true
 kp:PySem.W.keepIn K (.ref f)=true
section
variable {P:Program} {w:World} {K:PySem.W.Frag} {mg:Str→Option Value} {base:Heap}
theorem Fun.ok {x qual:Str} {st:Stmt} {f:Addr} {fd:FuncData} {N ps:List Str} {k:Nat} {sp:Sp} (F:Fun K x qual st f fd) (S:FnScope N ps (defScope st)) (len:∀vs H Q E,sp vs H Q E→vs.length=ps.length)
  (hbody:∀(cdv:Value) (A:Around) (outer:List Env) (s:Shared) (H:Hp) (vs:List V) (Q:VK) (E:XK),Room k (A.deeper (envOfC qual (defScope st) s.heap.objs.size f cdv))→sp vs H Q E→
   ∃t,PSs (cxOf CX0 P w K mg base N qual (defScope st) f cdv A outer s H E).nox (defBody st) t∧t { nx:=fun _ H'=>Q .non H',rt:=Q } (start N vs) H):FnOk P w K mg base CX0 (k+1) f fd ps sp:=by
 obtain ⟨oc,od,kV,doc,pm,an,cdv,ct,osl,rfl,lk,hcd⟩:=F.ex
 refine fn_of lk hcd S len fun A outer s H vs Q E hr hsp=>?_
 obtain ⟨t,h,q⟩:=hbody cdv A outer s H vs Q E hr hsp
 exact ⟨t,h.nox,q⟩
theorem Fun.binds {x qual:Str} {st:Stmt} {f:Addr} {fd:FuncData} {ps:List Str} (F:Fun K x qual st f fd)
  (h:∀(kV doc pm:Value) (an:Option Addr) (cdv ct:Value) (us:List Value),us.length=ps.length→bindArgs (PySem.W.fnOf x qual (defArgs st) (defBody st) (defScope st) .none kV doc pm an cdv ct) ⟨us,[]⟩=pure (ps.zip us)):Binds K fd ps []:=by
 obtain ⟨oc,od,kV,doc,pm,an,cdv,ct,osl,rfl,lk,hcd⟩:=F.ex
 exact .all (h kV doc pm an cdv ct)
theorem fun_mk {x qual:Str} {st:Stmt} {f:Addr} {oc:Value} {od an:Option Addr} {osl:Array (Option Value)} {kV doc pm cdv ct:Value} (l:K.lookup f=some ⟨oc,od,.func (PySem.W.fnOf x qual (defArgs st) (defBody st) (defScope st) .none kV doc pm an cdv ct),osl⟩)
  (c:PySem.W.codeIn K cdv qual=true) (k:PySem.W.keepIn K (.ref f)=true):Fun K x qual st f (PySem.W.fnOf x qual (defArgs st) (defBody st) (defScope st) .none kV doc pm an cdv ct):=⟨⟨oc,od,kV,doc,pm,an,cdv,ct,osl,rfl,l,c⟩,k⟩
end
theorem hu_of {A:Around} {k:Nat} (hr:Room k A):A.units+1<cLine:=Nat.lt_of_le_of_lt (Nat.add_le_add_left (by decide:1≤64) _) hr.units
theorem small1000 {n:Nat} (h:n≤1000):n<sizeLine:=Nat.lt_of_le_of_lt h (by decide)
section
variable {X:Cx}
end
theorem iteF {A B:Prop} (h:B):if false=true then A else B:=by
 rw [if_neg Bool.false_ne_true]
 exact h
theorem iteT {A B:Prop} (h:A):if true=true then A else B:=by
 rw [if_pos rfl]
 exact h
end L2
set_option maxHeartbeats 4000000
namespace L2
open PySem PySem.Spec PyProof.Rows
section
variable {X:Cx}
theorem call_absV:CallR X (.builtin "abs") (fun xs H Q=>∃i:Int,xs=[.int i]∧Q (.int (i.natAbs:Int)) H):=by
 intro pins s σ H xs us Q I r h
 obtain ⟨i,rfl,q⟩:=h
 obtain ⟨u,rfl,rx⟩:=vals1 r
 obtain ⟨t,rfl⟩:=rx
 have e:(if i<0 then -i else i)=(i.natAbs:Int):=by split<;>omega
 exact call_abs_int fun u tk=>⟨.int (i.natAbs:Int),H,I.tok _,⟨u,by rw [e]⟩,q⟩
theorem call_intB:CallR X (.type "int") (fun xs H Q=>∃b:Bool,xs=[.bl b]∧Q (.int (if b then 1 else 0)) H):=by
 intro pins s σ H xs us Q I r h
 obtain ⟨b,rfl,q⟩:=h
 obtain ⟨u,rfl,rx⟩:=vals1 r
 cases rx
 exact PySem.call_int_bool ⟨.int _,H,I.tok _,⟨_,rfl⟩,q⟩
inductive Kd (K:PySem.W.Frag) (H:Hp):V→String→Prop
 | non:Kd K H .non "NoneType"
 | bl (b):Kd K H (.bl b) "bool"
 | int (i):Kd K H (.int i) "int"
 | str (x):Kd K H (.str x) "str"
 | tup {a xs}:SqT K H a xs→Kd K H (.ref a) "tuple"
 | lst {a xs}:SqL K H a xs→Kd K H (.ref a) "list"
def isi (k T:String):Bool:=k==T||(k=="bool"&&T=="int")
def tys:List String:=["int","bool","tuple","list","str"]
theorem call_isi:CallR X (.builtin "isinstance") (fun xs H Q=>∃x k T,xs=[x,.ty T]∧Kd X.K H x k∧T∈tys∧Q (.bl (isi k T)) H):=by
 intro pins s σ H xs us Q I r h
 obtain ⟨x,k,T,rfl,hk,hT,q⟩:=h
 obtain ⟨u,v,rfl,rx,ry⟩:=Vals.two r
 cases ry
 have f0:∀b t,Q (.bl b) H→EP X pins σ Q (.bool b) { s with toks:=t }:=fun b t q=>⟨.bl b,H,I.tok _,rfl,q⟩
 have f1:∀b,Q (.bl b) H→EP X pins σ Q (.bool b) s:=fun b q=>⟨.bl b,H,I,rfl,q⟩
 simp only [tys,List.mem_cons,List.not_mem_nil,or_false] at hT
 cases hk with
 | non=>
  cases rx
  rcases hT with rfl | rfl | rfl | rfl | rfl
  ·exact IsiPair.NoneType_int (f0 _ _ q)
  ·exact IsiPair.NoneType_bool (f0 _ _ q)
  ·exact IsiPair.NoneType_tuple (f0 _ _ q)
  ·exact IsiPair.NoneType_list (f0 _ _ q)
  ·exact IsiPair.NoneType_str (f0 _ _ q)
 | bl b=>
  cases rx
  rcases hT with rfl | rfl | rfl | rfl | rfl
  ·exact IsiPair.bool_int (f1 _ q)
  ·exact IsiPair.bool_bool (f1 _ q)
  ·exact IsiPair.bool_tuple (f0 _ _ q)
  ·exact IsiPair.bool_list (f0 _ _ q)
  ·exact IsiPair.bool_str (f0 _ _ q)
 | int i=>
  obtain ⟨t,rfl⟩:=rx
  rcases hT with rfl | rfl | rfl | rfl | rfl
  ·exact IsiPair.int_int (f1 _ q)
  ·exact IsiPair.int_bool (f0 _ _ q)
  ·exact IsiPair.int_tuple (f0 _ _ q)
  ·exact IsiPair.int_list (f0 _ _ q)
  ·exact IsiPair.int_str (f0 _ _ q)
 | str z=>
  obtain ⟨t,rfl⟩:=rx
  rcases hT with rfl | rfl | rfl | rfl | rfl
  ·exact IsiPair.str_int (f0 _ _ q)
  ·exact IsiPair.str_bool (f0 _ _ q)
  ·exact IsiPair.str_tuple (f0 _ _ q)
  ·exact IsiPair.str_list (f0 _ _ q)
  ·exact IsiPair.str_str (f1 _ q)
 | tup hq=>
  cases rx
  obtain ⟨its,rv,⟨o,ho,hc,_⟩,_⟩:=I.tuple hq
  rcases hT with rfl | rfl | rfl | rfl | rfl
  ·exact IsiPair.tuple_int ho hc (f0 _ _ q)
  ·exact IsiPair.tuple_bool ho hc (f0 _ _ q)
  ·exact IsiPair.tuple_tuple ho hc (f1 _ q)
  ·exact IsiPair.tuple_list ho hc (f0 _ _ q)
  ·exact IsiPair.tuple_str ho hc (f0 _ _ q)
 | lst hq=>
  cases rx
  obtain ⟨its,rv,⟨o,n,ho,hc,_⟩,_⟩:=I.list hq
  rcases hT with rfl | rfl | rfl | rfl | rfl
  ·exact IsiPair.list_int ho hc (f0 _ _ q)
  ·exact IsiPair.list_bool ho hc (f0 _ _ q)
  ·exact IsiPair.list_tuple ho hc (f0 _ _ q)
  ·exact IsiPair.list_list ho hc (f1 _ q)
  ·exact IsiPair.list_str ho hc (f0 _ _ q)
end
section
variable {X:Cx} {pins:List (Addr×Obj)} {σ:St} {H:Hp} {s:Shared} {h':Heap}
theorem Inv.turnedLaid {t':Nat} {ch:List Addr} {a:Addr} {o:HO} (I:Inv X pins σ H s) (k:∀b u,b∉ch→s.heap.get? b=some u→h'.get? b=some u) (hf:∀b∈ch,FpOk X pins H b) (hp:s.heap.objs.size≤a)
  (new:ObjOk X.prog X.w (upd H a o) h' a o):Inv X pins σ (upd H a o) { s with heap:=h',toks:=t' }:=by
 have hn:=I.hok.fresh hp
 have nit:∀b u,H b=some u→b∉ch:=fun b u e z=>by rw [(hf b z).1] at e;cases e
 refine I.step (g':=s.gens) (d':=s.drawn) (ch:=ch) (fun b hb=>⟨(hf b hb).2.2.2.1,(hf b hb).2.1,(hf b hb).2.2.2.2.1,(hf b hb).2.2.2.2.2⟩) (fun b u _ _ hc e _=>k b u hc e) (fun b u _ _ hc e _=>⟨u.slots,k b u hc e⟩)
  (fun b u hc e n=>by rw [upd_ne (Nat.ne_of_lt (Nat.lt_of_lt_of_le (Heap.lt_size e) hp))];exact n) (fun b u hc e=>⟨u,k b u hc e⟩) (fun b xs e=>by rw [upd_ne (ne_of_none e hn)];exact e) (fun b u xs e=>by rw [upd_ne (ne_of_none e hn)];exact e)
  (fun b ps e=>⟨#[],by rw [upd_ne (ne_of_none e hn),e];simp⟩) (fun m hm=>?_) (fun b u e=>?_) I.bare
 ·obtain ⟨ob,es,ep,ho,r⟩:=hm
  exact ⟨ob,es,ep,k _ ob (fun z=>(hf _ z).2.1 rfl) ho,r⟩
 ·by_cases hb:b=a
  ·subst hb;rw [upd_same] at e;cases e;exact new
  ·rw [upd_ne hb] at e
   refine (I.hok b u e).stay (fun c v hc q=>k c v ?_ q) (fun c q=>by rw [upd_ne (ne_of_none q hn)];exact q) fun c xs q=>by rw [upd_ne (ne_of_none q hn)];exact q
   rcases hc with z | z
   ·rw [z];exact nit b u e
   ·exact nit c _ z
theorem Inv.turnedL {t':Nat} {ch:List Addr} (I:Inv X pins σ H s) (k:∀b u,b∉ch→s.heap.get? b=some u→h'.get? b=some u) (hf:∀b∈ch,FpOk X pins H b):Inv X pins σ H { s with heap:=h',toks:=t' }:=by
 have nit:∀b u,H b=some u→b∉ch:=fun b u e z=>by rw [(hf b z).1] at e;cases e
 refine I.step (g':=s.gens) (d':=s.drawn) (ch:=ch) (fun b hb=>⟨(hf b hb).2.2.2.1,(hf b hb).2.1,(hf b hb).2.2.2.2.1,(hf b hb).2.2.2.2.2⟩) (fun b u _ _ hc e _=>k b u hc e) (fun b u _ _ hc e _=>⟨u.slots,k b u hc e⟩)
  (fun b u hc e n=>n) (fun b u hc e=>⟨u,k b u hc e⟩) (fun b xs e=>e) (fun b u xs e=>e) (fun b ps e=>⟨#[],by rw [e];simp⟩) (fun m hm=>?_) (fun b u e=>?_) I.bare
 ·obtain ⟨ob,es,ep,ho,r⟩:=hm
  exact ⟨ob,es,ep,k _ ob (fun z=>(hf _ z).2.1 rfl) ho,r⟩
 ·refine (I.hok b u e).stay (fun c v hc q=>k c v ?_ q) (fun c q=>q) fun c xs q=>q
  rcases hc with z | z
  ·rw [z];exact nit b u e
  ·exact nit c _ z
end
def Ite (K:PySem.W.Frag) (a:Addr):It:=
 ⟨fun i H=>∃xs x,SqL K H a xs∧xs[i]? = some x,fun i H x H'=>∃p y,x = .ref p∧H p=none∧H'=upd H p (.tup [.int (i:Int),y])∧∀xs,SqL K H a xs→xs[i]? = some y,fun i H=>∃xs,SqL K H a xs∧xs.length≤i⟩
theorem turn_enum {P:Program} {w:World} {K:PySem.W.Frag} {elts:List Expr} {x1} {tpos:Pos} (a e it:Addr) (hne:e≠it) :
  Turn P w K (.Tuple elts x1 tpos) (Ite K a) [e,it] e (fun i h=>(∃old,IsEnum h e it (i:Nat) old)∧h.IsListIter it a i) where
 mem:=by simp
 obj:=fun i h st b hb=>by
  obtain ⟨⟨old,he⟩,⟨o,ho,hc,hd⟩⟩:=st
  rcases List.mem_cons.mp hb with rfl | hb
  ·exact ⟨_,he,fun v z=>by cases z⟩
  ·rw [List.mem_singleton.mp hb]
   exact ⟨o,ho,fun v z=>by rw [hd] at z;cases z⟩
 keep:=fun i h h' st k=>⟨let ⟨old,he⟩:=st.1;⟨old,k e (by simp) _ he⟩,st.2.at fun o x=>k it (by simp) o x⟩
 item:=by
  intro X hP hw hK hc i pins s σ H E I hf st hg
  subst hP hw hK
  obtain ⟨xs,x,hq,hx⟩:=hg
  obtain ⟨its,rv,p,hz⟩:=I.list hq
  obtain ⟨u,hu,ru⟩:=rv.get hx
  obtain ⟨⟨old,he⟩,hit⟩:=st
  refine wpAny_pyNext_enum_item he hit p.isList (x:=u) (by simpa using hu) hne fun h1 ho hit1 ht hsz hk=>⟨_,rfl,?_⟩
  refine wpAny_letOwnedTupleGo_enum ho fun h2 he2 hs2=>?_
  have hen:e≠s.heap.objs.size:=Nat.ne_of_lt (Heap.lt_size he)
  have kk:∀b o,b∉[e,it]→s.heap.get? b=some o→h2.get? b=some o:=fun b o hb q=>by
   have h1':b≠e:=fun z=>hb (by simp [z])
   have h2':b≠it:=fun z=>hb (by simp [z])
   exact hs2.extBut b o h1' (hk b o h1' h2' q)
  have new:ObjOk X.prog X.w (upd H s.heap.objs.size (.tup [.int (i:Int),x])) h2 s.heap.objs.size (.tup [.int (i:Int),x]):=
   ⟨by show 2≤sizeLine;decide,[.int i s.toks,u],.cons ⟨_,rfl⟩ (.cons ru .nil),⟨_,hs2.extBut _ _ (Ne.symm hen) ht,rfl,_,rfl⟩⟩
  refine ⟨.ref s.heap.objs.size,upd H s.heap.objs.size (.tup [.int (i:Int),x]),I.turnedLaid (t':=s.toks+1) (ch:=[e,it]) kk hf (Nat.le_refl _) new,rfl,
   ⟨_,x,rfl,I.hok.fresh (Nat.le_refl _),rfl,fun ys hy=>by rw [I.list_inj hy hq];exact hx⟩,⟨⟨_,by simpa using he2⟩,hit1.extBut hs2.extBut (Ne.symm hne)⟩,fun b hb=>?_⟩
  have hlt:b<s.heap.objs.size:=by
   rcases List.mem_cons.mp hb with rfl | hb
   ·exact Heap.lt_size he
   ·rw [List.mem_singleton.mp hb]
    obtain ⟨o,ho',_⟩:=hit
    exact Heap.lt_size ho'
  rw [upd_ne (Nat.ne_of_lt hlt)]
  exact (hf b hb).1
 done:=by
  intro X hP hw hK hc i pins s σ H E I hf st hg
  subst hP hw hK
  obtain ⟨xs,hq,hx⟩:=hg
  obtain ⟨its,rv,p,hz⟩:=I.list hq
  have hl:=rv.length
  obtain ⟨⟨old,he⟩,hit⟩:=st
  refine wpAny_pyNext_enum_end (I.ok.hd hc) he hit p.isList (by simp;omega) fun h1 eb=>⟨rfl,?_⟩
  exact I.turnedL (t':=s.toks) (ch:=[e,it]) (fun b o hb q=>eb b o (fun z=>hb (by simp [z])) q) hf
 self:=fun _ _ _ _ _ st h=>let ⟨old,he⟩:=st.1;wpAny_pyIter_enum he h
section
variable {X:Cx}
def iEnum (K:PySem.W.Frag) (ta:TA):TI:=fun σ H R=>ta σ H fun vs H1=>∃a,vs=[.ref a]∧(∃xs,SqL K H1 a xs)∧R (Ite K a) H1
theorem pi_enum {a:Expr} {ta:TA} {p pos tpos:Pos} {elts:List Expr} {x1} (hg:Gl X "enumerate") (hm:X.mg "enumerate" = none) (ha:PA X [a] ta) (hs:starEach [a] X.env=[(false,eval a X.env)]:=by rfl) :
  PI X (.Tuple elts x1 tpos) (.Call (.Name "enumerate" p) [a] [] pos) (iEnum X.K ta):=by
 intro pins s σ H R I h
 refine Call_ (ld_blt I hg hm boot_enumerate (PyProof.Rows.callWith_type1 (thn (ha pos pins s σ H _ I h) fun us s1 ⟨vs,H1,I1,r1,q1⟩=>?_) hs rfl))
 obtain ⟨l,rfl,⟨xs,hq⟩,q⟩:=q1
 obtain ⟨u,rfl,ru⟩:=Vals.one r1
 cases ru
 obtain ⟨its,rv,pl,hz⟩:=I1.list hq
 refine call_enumerate_list pl.isList fun h' he hit hsz hk=>?_
 refine wpAny_pyIter_enum he ?_
 refine ⟨s1.heap.objs.size+1,[s1.heap.objs.size+1,s1.heap.objs.size],_,_,H1,rfl,I1.kept (t':=s1.toks) hk,turn_enum l _ _ (Nat.succ_ne_self _),⟨⟨_,he⟩,hit⟩,fun b hb=>?_,q⟩
 have hle:s1.heap.objs.size≤b:=by
  rcases List.mem_cons.mp hb with rfl | hb
  ·exact Nat.le_succ _
  ·rw [List.mem_singleton.mp hb];exact Nat.le_refl _
 exact I1.fpOk hle (I1.hok.fresh hle)
end
theorem codeAny_compLoop_go {prog:Program} {w:World} {A:Around} {R:Result→Shared→Prop} {s:Shared} {elt target iter:Expr} {scope:Scope} {pos:Pos} {it acc:Value} {env:Env} (I:Nat→Shared→Prop)
  (turn:∀n s,I n s→wpAny (model prog w) A (pyNext it) (fun r s₁=>match r with
   | none=>R (.ok .next) s₁
   | some v=>wpAny (model prog w) A (letOwnedTupleGo target it v) (fun _ s₂=>wpAny (model prog w) A (assign target env v) (fun _ s₃=>wpAny (model prog w) A (eval elt env) (fun x s₄=>
     wpAny (model prog w) A (call (.builtin "list.append") [acc,x]) (fun _ s₅=>∃m,m<n∧I m s₅) (fun _ _=>False) s₄) (fun _ _=>False) s₃) (fun _ _=>False) s₂) (fun _ _=>False) s₁) (fun _ _=>False) s)
  (n:Nat) (h:I n s):codeAny (model prog w) A (.compLoop (.ListComp elt [⟨target,iter,[],0⟩] scope pos) 0 it acc env) R s:=by
 refine codeAny_loop rfl I (fun n s hI=>?_) n h
 show wpAny _ A ((compTurn (.ListComp elt [⟨target,iter,[],0⟩] scope pos) 0 it acc env).onRaise (fun x=>do noteFrame x env;theTreesLotGoes x)) _ _ s
 refine wpAny_noted ?_
 rw [compTurn_list1]
 refine wpAny_bind (wpAny_standAt (wpAny_bind (wpAny_mono (turn n s hI) (fun r s₁ h₁=>?_) fun _ _ h'=>h'.elim)))
 cases r with
 | none=>exact wpAny_pure h₁
 | some v=>
  exact wpAny_bind (wpAny_mono h₁ (fun _ s₂ h₂=>wpAny_bind (wpAny_mono h₂ (fun _ s₃ h₃=>wpAny_bind (wpAny_bind (wpAny_mono h₃ (fun x s₄ h₄=>wpAny_bind (wpAny_mono h₄ (fun _ s₅ h₅=>wpAny_pure (wpAny_pure ⟨rfl,h₅⟩)) fun _ _ h'=>h'.elim))
   fun _ _ h'=>h'.elim))) fun _ _ h'=>h'.elim)) fun _ _ h'=>h'.elim)
def clGo (env:Env):List (Str×NameKind)→List (Str×Addr)→List (Str×Addr)
 | [],cs=>cs
 | (n,k)::r,cs=>clGo env r (if k==.free then (match env.cells.lookup n with | some c=>(n,c)::cs | none=>cs) else cs)
def clOf (scope:Scope) (env:Env):List (Str×Addr):=clGo env scope.names []
theorem clGo_eq (env:Env):∀(ns:List (Str×NameKind)) (cs:List (Str×Addr)),(∀y∈ns,y.2 = .free→∃c,env.cells.lookup y.1=some c)→
  (forIn ns cs (fun x r=>do
   if x.2==.free then
    let a ←cellOf env x.1
    pure (ForInStep.yield ((x.1,a)::r))
   else pure (ForInStep.yield r)):Sem (List (Str×Addr)))=pure (clGo env ns cs)
 | [],cs,_=>rfl
 | (n,k)::r,cs,h=>by
  rw [List.forIn_cons]
  by_cases hk:k = .free
  ·subst hk
   obtain ⟨c,hc⟩:=h (n,.free) List.mem_cons_self rfl
   have hc':env.cells.lookup n=some c:=hc
   have e:cellOf env n=pure c:=by unfold cellOf;rw [hc']
   simp only [beq_self_eq_true,if_true,e,pure_bind,clGo,hc']
   exact clGo_eq env r _ fun y hy=>h y (List.mem_cons_of_mem _ hy)
  ·have hb:(k==NameKind.free)=false:=by simpa using hk
   simp only [hb,Bool.false_eq_true,if_false,pure_bind,clGo]
   exact clGo_eq env r _ fun y hy=>h y (List.mem_cons_of_mem _ hy)
theorem closureFor_cl {scope:Scope} {env:Env} (h:∀y∈scope.names,y.2 = .free→∃c,env.cells.lookup y.1=some c):closureFor scope env=pure (clOf scope env):=by
 have e:=clGo_eq env scope.names [] h
 unfold clOf
 rw [←e]
 unfold closureFor
 simp only [bind_pure]
theorem clGo_sub (env:Env):∀(ns:List (Str×NameKind)) (cs:List (Str×Addr)) (x:Str) (c:Addr),(∀x c,cs.lookup x=some c→env.cells.lookup x=some c)→(clGo env ns cs).lookup x=some c→env.cells.lookup x=some c
 | [],_,x,c,h,e=>h x c e
 | (n,k)::r,cs,x,c,h,e=>by
  refine clGo_sub env r _ x c (fun y d hd=>?_) e
  by_cases hk:(k==NameKind.free)=true
  ·rw [if_pos hk] at hd
   cases q:env.cells.lookup n with
   | none=>rw [q] at hd;exact h y d hd
   | some a=>
    rw [q] at hd
    simp only [List.lookup_cons] at hd
    cases b:y==n with
    | true=>rw [b] at hd;cases hd;rw [eq_of_beq b];exact q
    | false=>rw [b] at hd;exact h y d hd
  ·rw [if_neg hk] at hd
   exact h y d hd
theorem clOf_sub {scope:Scope} {env:Env} {x:Str} {c:Addr} (e:(clOf scope env).lookup x=some c):env.cells.lookup x=some c:=clGo_sub env _ _ x c (fun _ _ h=>by simp at h) e
theorem clGo_has (env:Env):∀(ns:List (Str×NameKind)) (cs:List (Str×Addr)) (x:Str) (c:Addr),(cs.lookup x=some c∨(x,NameKind.free)∈ns)→env.cells.lookup x=some c→(clGo env ns cs).lookup x=some c
 | [],_,x,c,h,_=>h.elim (fun z=>z) (fun z=>by simp at z)
 | (n,k)::r,cs,x,c,h,e=>by
  refine clGo_has env r _ x c ?_ e
  rcases h with h | h
  ·refine .inl ?_
   split
   ·cases q:env.cells.lookup n with
    | none=>exact h
    | some a=>
     simp only [List.lookup_cons]
     cases b:x==n with
     | true=>rw [←eq_of_beq b,e] at q;exact q.symm
     | false=>exact h
   ·exact h
  ·rcases List.mem_cons.mp h with z | z
   ·injection z with z1 z2
    subst z1 z2
    refine .inl ?_
    simp only [beq_self_eq_true,if_true,e,List.lookup_cons]
   ·exact .inr z
theorem clOf_has {scope:Scope} {env:Env} {x:Str} {c:Addr} (h:(x,NameKind.free)∈scope.names) (e:env.cells.lookup x=some c):(clOf scope env).lookup x=some c:=clGo_has env _ _ x c (.inr h) e
theorem relabel_free {env:Env}:∀{names:List (Str×NameKind)} {x:Str},(∀y∈names,y.2≠.cell)→
    ((names.map fun (n,k)=>if (k==NameKind.free&&env.scope.kind==.function&&env.kindOf n==some .cell) then (n,NameKind.cell) else (n,k)).lookup x=some .cell∨
     (names.map fun (n,k)=>if (k==NameKind.free&&env.scope.kind==.function&&env.kindOf n==some .cell) then (n,NameKind.cell) else (n,k)).lookup x=some .free)→(x,NameKind.free)∈names
  | [],_,_,h=>by simp at h
  | (n,k)::r,x,hc,h=>by
    have ih:=@relabel_free env r x fun y hy=>hc y (List.mem_cons_of_mem _ hy)
    have hk:k≠.cell:=hc (n,k) List.mem_cons_self
    simp only [List.map_cons] at h
    by_cases q:(k==NameKind.free&&env.scope.kind==.function&&env.kindOf n==some .cell)=true
    · rw [if_pos q] at h
      simp only [List.lookup_cons] at h
      cases b:x==n with
      | true=>
        have:k = .free:=by simp only [Bool.and_eq_true] at q;exact eq_of_beq q.1.1
        subst this
        rw [eq_of_beq b]
        exact List.mem_cons_self
      | false=>rw [b] at h;exact List.mem_cons_of_mem _ (ih h)
    · rw [if_neg q] at h
      simp only [List.lookup_cons] at h
      cases b:x==n with
      | true=>
        rw [b] at h
        rcases h with h | h
        · exact absurd (Option.some.inj h) hk
        · have:k = .free:=Option.some.inj h
          subst this
          rw [eq_of_beq b]
          exact List.mem_cons_self
      | false=>rw [b] at h;exact List.mem_cons_of_mem _ (ih h)
theorem relabel_vis {env:Env}:∀{names:List (Str×NameKind)} {x:Str},names.lookup x=some .free→
    ((names.map fun (n,k)=>if (k==NameKind.free&&env.scope.kind==.function&&env.kindOf n==some .cell) then (n,NameKind.cell) else (n,k)).lookup x=some .cell∨
     (names.map fun (n,k)=>if (k==NameKind.free&&env.scope.kind==.function&&env.kindOf n==some .cell) then (n,NameKind.cell) else (n,k)).lookup x=some .free)
  | [],_,h=>by simp at h
  | (n,k)::r,x,h=>by
    have ih:=@relabel_vis env r x
    simp only [List.map_cons]
    simp only [List.lookup_cons] at h
    by_cases q:(k==NameKind.free&&env.scope.kind==.function&&env.kindOf n==some .cell)=true
    · rw [if_pos q]
      simp only [List.lookup_cons]
      cases b:x==n with
      | true=>exact .inl rfl
      | false=>rw [b] at h;exact ih h
    · rw [if_neg q]
      simp only [List.lookup_cons]
      cases b:x==n with
      | true=>rw [b] at h;exact .inr h
      | false=>rw [b] at h;exact ih h
def cxComp (X:Cx) (N':List Str) (scope:Scope) (C:Addr) (s3:Shared) (H3:Hp) (fp:List Addr):Cx:=
 { X with N:=N',s₀:=s3,H₀:=H3,env:=compEnvC scope (clOf scope X.env) C X.env,outer:=X.stack,stack:=X.stack,ex:=fp,fn:=fun _=>false,pn:=[],xe:=fun _ _=>False }
def capS (t:Nat) (cap:List Nat) (σ:St):St:=List.replicate t none++cap.map fun k=>(σ[k]?).join
def compW (J:It) (D:Addr) (g:TG) (te:TE) (Q:VK) (σ:St) (H:Hp):Prop:=∃W:Nat→Nat→St→Hp→Prop,(∃m,W 0 m σ H)∧∀i m σ' H',W i m σ' H'→
 (J.stop i H'∧Q (.ref D) H')∨(J.go i H'∧∀x H2,J.yld i H' x H2→g x σ' H2 fun σ3 H3=>te σ3 H3 fun y H4=>∃ys,H4 D=some (.lst ys)∧ys.length<sizeLine∧∃m',m'<m∧W (i+1) m' σ3 (upd H4 D (.lst (ys++[y]))))
def tComp (t:Nat) (cap:List Nat) (wi:TI) (g:TG) (te:TE):TE:=fun σ H Q=>wi σ H fun J H1=>∀D,H1 D=none→compW J D g te Q (capS t cap σ) (upd H1 D (.lst []))
structure CompOk (X:Cx) (N':List Str) (scope:Scope) (t:Nat) (cap:List Nat):Prop where
 kind:scope.kind = .function
 cell:∀y∈scope.names,y.2≠.cell
 names:∀y∈scope.names,y.2 = .local→scope.names.lookup y.1=some .local
 free:∀y∈scope.names,y.2 = .free→(X.env.kindOf y.1=some .cell∨X.env.kindOf y.1=some .free)
 len:N'.length=t+cap.length
 caps:∀(j k:Nat),cap[j]? = some k→∃x,N'[t+j]? = some x∧X.N[k]? = some x∧scope.names.lookup x=some .free
section
variable {X:Cx}
theorem comp_enter {pins:List (Addr×Obj)} {σ:St} {H3:Hp} {s3:Shared} {N':List Str} {scope:Scope} {t:Nat} {cap:List Nat} {fp:List Addr} {h₁:Heap} {tk:Nat} (S:CompOk X N' scope t cap) (I3:Inv X pins σ H3 s3)
  (hf:∀b∈fp,FpOk X pins H3 b) (hob:∀b∈fp,∃o,s3.heap.get? b=some o) (hns:h₁.Ns s3.heap.objs.size fun _=>none) (k:∀b o,s3.heap.get? b=some o→h₁.get? b=some o) :
  Inv (cxComp X N' scope s3.heap.objs.size s3 H3 fp) [] (capS t cap σ) H3 { s3 with heap:=h₁,toks:=tk }:=by
 have cellOld:∀{x:Str} {c:Addr},(clOf scope X.env).lookup x=some c→X.env.cells.lookup x=some c:=fun e=>clOf_sub e
 have isCellK:∀{c:Addr} {v:Option Value},s3.heap.IsCell c v→h₁.IsCell c v:=fun ⟨o,e,d⟩=>⟨o,k _ _ e,d⟩
 have memOf:∀{x:Str},scope.names.lookup x=some .free→(x,NameKind.free)∈scope.names:=fun e=>PySem.mem_of_lookup e
 refine ⟨⟨I3.mod,S.kind,I3.ok.glob,I3.ok.blt,Nat.le_refl _,?_,?_,?_,I3.ok.hd,I3.ok.frames,.inl rfl,?_,I3.bs,Nat.le_trans I3.ok.bsz I3.sz,?_,?_,I3.stack,I3.stkFree⟩,
  rfl,I3.bare,Un.kept k,⟨_,hns,?_⟩,?_,?_,?_,?_,I3.hok.kept k,?_⟩
 ·intro x y c h1 h2
  exact I3.ok.inj x y c (cellOld h1) (cellOld h2)
 ·intro x hx
  have hm:(x,NameKind.free)∈scope.names:=relabel_free S.cell hx
  obtain ⟨c,hc⟩:=I3.ok.has x (S.free _ hm rfl)
  exact ⟨c,clOf_has hm hc⟩
 ·intro x c h
  cases h
 ·intro b hb
  obtain ⟨o,ho⟩:=hob b hb
  exact ⟨Nat.ne_of_lt (Heap.lt_size ho),fun x c e=>(hf b hb).2.2.2.2.1 x c (cellOld e)⟩
 ·intro b o e hb
  rcases (hf b hb).2.2.2.1 with z | z
  ·exact I3.ok.noex b o e z
  ·exact absurd (Nat.lt_of_lt_of_le (Nat.lt_of_lt_of_le (Heap.lt_size e) I3.ok.bsz) z) (Nat.lt_irrefl _)
 ·intro b hb hz
  rcases List.mem_cons.mp (I3.stkSub b hz) with z | z
  ·exact (hf b hb).2.1 z
  ·exact (hf b hb).2.2.1 z
 ·intro i x v e1 e2 e3
  have ht:t≤i:=by
   rcases Nat.lt_or_ge i t with q | q
   ·unfold capS at e2
    rw [List.getElem?_append_left (by simpa using q),List.getElem?_replicate] at e2
    split at e2<;>cases e2
   ·exact q
  obtain ⟨j,rfl⟩:∃j,i=t+j:=⟨i-t,by omega⟩
  unfold capS at e2
  rw [List.getElem?_append_right (by simp),List.length_replicate,Nat.add_sub_cancel_left,List.getElem?_map] at e2
  cases q:cap[j]? with
  | none=>rw [q] at e2;cases e2
  | some m=>
   rw [q] at e2
   have e2':(σ[m]?).join=some v:=Option.some.inj e2
   have e2'':σ[m]? = some (some v):=by
    cases z:σ[m]? with
    | none=>rw [z] at e2';cases e2'
    | some w=>rw [z] at e2';have:w=some v:=e2';rw [this]
   obtain ⟨x',c1,c2,c3⟩:=S.caps j m q
   have ex:x'=x:=by
    have e1':N'[t+j]? = some x:=e1
    rw [c1] at e1';exact Option.some.inj e1'
   subst ex
   have hk:=S.free _ (memOf c3) rfl
   obtain ⟨mm,hn,hl⟩:=I3.loc
   obtain ⟨u,r,L⟩:=hl m x' v c2 e2'' (by rcases hk with z | z;exact .inr (.inl z);exact .inr (.inr z))
   refine ⟨u,r,?_⟩
   rcases L with ⟨z,_⟩ | ⟨_,c,hc,hcell⟩
   ·rcases hk with y | y<;>(have y':X.env.kindOf x'=_:=y;rw [z] at y';cases y')
   ·exact .inr ⟨relabel_vis c3,c,clOf_has (memOf c3) hc,isCellK hcell⟩
 ·intro x c e
  obtain ⟨v,z⟩:=I3.cell x c (cellOld e)
  exact ⟨v,isCellK z⟩
 ·exact I3.hok.fresh (Nat.le_refl _)
 ·intro x c e
  exact I3.freeC x c (cellOld e)
 ·intro p hp
  exact absurd (show p∈([]:List (Addr×Obj)) from hp) (by simp)
 ·show (capS t cap σ).length=N'.length
  unfold capS
  rw [S.len,List.length_append,List.length_replicate,List.length_map]
theorem pe_comp {target elt iter:Expr} {scope:Scope} {pos:Pos} {N':List Str} {cap:List Nat} {t:Nat} {wi:TI} {g:TG} {te:TE} (hc:X.calm=true) (S:CompOk X N' scope t cap) (hi:PI X target iter wi)
  (hg:∀C s3 H3 fp,PG (cxComp X N' scope C s3 H3 fp) target g) (he:∀C s3 H3 fp,PE (cxComp X N' scope C s3 H3 fp) elt te) (hs:∀x,foldedSetIterable iter X.env x=pure x:=by intro _;rfl) :
  PE X (.ListComp elt [⟨target,iter,[],0⟩] scope pos) (tComp t cap wi g te):=by
 intro pins s σ H Q I h
 rw [eval_ListComp]
 refine wpAny_comprehension_free (use:=none) (cl:=clOf scope X.env) rfl hs (closureFor_cl fun y hy hf=>I.ok.has y.1 (S.free y hy hf)) S.kind S.names (thn (hi pins s σ H _ I h) fun v s1 h1=>thn h1 fun itv s2 h2=>?_)
 obtain ⟨it,fp,tn,J,H2,e,I2,T,st2,f2,h2⟩:=h2
 subst e
 refine wpAny_newObj_type (wpAny_newFunctionEnv S.cell (by intro y hy;simp at hy) (fun h₁ hns₁ hsb₁=>?_) S.kind)
 dsimp only at hns₁ hsb₁ ⊢
 obtain ⟨s3,hs3⟩:∃s3:Shared,s3 = { s2 with heap:=s2.heap.push { cls:=.type "list",dict:=none,data:=.seq ([]:List Value).toArray } }:=⟨_,rfl⟩
 have hD:H2 s2.heap.objs.size=none:=I2.hok.fresh (Nat.le_refl _)
 have I3:Inv X pins σ (upd H2 s2.heap.objs.size (.lst [])) s3:=by
  rw [hs3]
  exact I2.laid (t':=s2.toks) (fun b u e=>Heap.get?_push_of_some _ e) (Nat.le_refl _) ⟨Nat.zero_le _,[],0,.nil,Heap.get?_push_size _ rfl⟩
 have hsz3:s3.heap.objs.size=s2.heap.objs.size+1:=by rw [hs3];exact Heap.size_push ..
 have old3:∀b o,s2.heap.get? b=some o→s3.heap.get? b=some o:=fun b o e=>by rw [hs3];exact Heap.get?_push_of_some _ e
 have hC:(s2.heap.push { cls:=.type "list",dict:=none,data:=.seq ([]:List Value).toArray }).objs.size=s3.heap.objs.size:=by rw [hs3]
 have f3:∀b∈fp,FpOk X pins (upd H2 s2.heap.objs.size (.lst [])) b:=fun b hb=>by
  obtain ⟨o,ho,_⟩:=T.obj _ _ st2 b hb
  refine ⟨?_,(f2 b hb).2⟩
  rw [upd_ne (Nat.ne_of_lt (Heap.lt_size ho))]
  exact (f2 b hb).1
 have ob3:∀b∈fp,∃o,s3.heap.get? b=some o:=fun b hb=>by
  obtain ⟨o,ho,_⟩:=T.obj _ _ st2 b hb
  exact ⟨o,old3 b o ho⟩
 have k1:∀b o,s3.heap.get? b=some o→h₁.get? b=some o:=fun b o e=>by
  refine hsb₁.extBut b o ?_ ?_
  ·rw [hC];exact Nat.ne_of_lt (Heap.lt_size e)
  ·rw [hs3] at e;exact Heap.get?_push_of_some _ e
 have hns:h₁.Ns s3.heap.objs.size fun _=>none:=by
  rw [←hC];exact hns₁
 have I4:=comp_enter (tk:=s2.toks+([]:List (Str×Value)).length) S I3 f3 ob3 hns k1
 have st4:tn 0 h₁:=T.keep _ _ _ st2 fun b hb o e=>k1 b o (old3 b o e)
 obtain ⟨W,⟨m0,w0⟩,turn⟩:=h2 _ hD
 -- the block's context
 obtain ⟨X',hX'⟩:∃X':Cx,X'=cxComp X N' scope s3.heap.objs.size s3 (upd H2 s2.heap.objs.size (.lst [])) fp:=⟨_,rfl⟩
 have hg':PG X' target g:=by rw [hX'];exact hg _ _ _ _
 have he':PE X' elt te:=by rw [hX'];exact he _ _ _ _
 have stat:∀{H':Hp},(∀b∈fp,H' b=none)→∀b∈fp,FpOk X' [] H' b:=fun hn b hb=>by
  obtain ⟨o,ho⟩:=ob3 b hb
  rw [hX']
  refine ⟨hn b hb,Nat.ne_of_lt (Heap.lt_size ho),?_,.inl hb,fun x c e=>(f3 b hb).2.2.2.2.1 x c (clOf_sub e),fun p hp=>absurd (show p∈([]:List (Addr×Obj)) from hp) (by simp)⟩
  intro hz
  rcases List.mem_cons.mp (I3.stkSub b hz) with z | z
  ·exact (f3 b hb).2.1 z
  ·exact (f3 b hb).2.2.1 z
 have hcalm:X'.calm=true:=by rw [hX'];exact hc
 have loop:codeAny (model X.prog X.w) X.A (.compLoop (.ListComp elt [⟨target,iter,[],0⟩] scope pos) 0 (.ref it) (.ref s2.heap.objs.size) (compEnvC scope (clOf scope X.env) s3.heap.objs.size X.env))
   (compPost (model X.prog X.w) X.A X.xe none (EP X pins σ Q) (.ref s2.heap.objs.size) s3.heap.objs.size) { s3 with heap:=h₁,toks:=s2.toks+([]:List (Str×Value)).length }:=by
  refine codeAny_compLoop_go (fun n s'=>∃i σ' H',Inv X' [] σ' H' s'∧tn i s'.heap∧(∀b∈fp,H' b=none)∧W i n σ' H') ?_ m0 ⟨0,capS t cap σ,_,by rw [hX'];exact I4,st4,fun b hb=>(f3 b hb).1,w0⟩
  rintro n s5 ⟨i,σ5,H5,I5,st5,fr5,w5⟩
  rcases turn i n σ5 H5 w5 with ⟨stop,qn⟩ | ⟨go,step⟩
  ·have q:=T.done X' (by rw [hX'];rfl) (by rw [hX'];rfl) (by rw [hX'];rfl) hcalm i [] s5 σ5 H5 (fun _ _=>False) I5 (stat fr5) st5 stop
   have eA:X'.A=X.A:=by rw [hX'];rfl
   rw [eA] at q
   refine thn q fun r s6 ⟨hr,I6⟩=>?_
   subst hr
   obtain ⟨m,hn,_⟩:=I6.loc
   have hn':s6.heap.Ns s3.heap.objs.size m:=by rw [hX'] at hn;exact hn
   refine ⟨m,hn',fun h' hs'=>?_⟩
   have un6:Un (frs X.stack) fp (upd H2 s2.heap.objs.size (.lst [])) H5 s3.heap s6.heap:=by have:=I6.base;rw [hX'] at this;exact this
   have hok6:HOk X.prog X.w H5 s6.heap:=by have:=I6.hok;rw [hX'] at this;exact this
   have free6:H5 s3.heap.objs.size=none:=by have:=I6.free;rw [hX'] at this;exact this
   have kp:∀b o,b≠s3.heap.objs.size→s6.heap.get? b=some o→h'.get? b=some o:=fun b o hb e=>hs'.extBut b o hb e
   have neC:∀{b:Addr} {o:Obj},s3.heap.get? b=some o→b≠s3.heap.objs.size:=fun e=>Nat.ne_of_lt (Heap.lt_size e)
   have un7:Un (frs X.stack) fp (upd H2 s2.heap.objs.size (.lst [])) H5 s3.heap h':=
    ⟨fun b o e n1 n2 n3=>kp b o (neC e) (un6.keep b o e n1 n2 n3),fun b o e n1 n2 n3=>by obtain ⟨sl,z⟩:=un6.slot b o e n1 n2 n3;exact ⟨sl,kp b _ (neC e) z⟩,un6.free,
     fun b o e n3=>by obtain ⟨o',z⟩:=un6.there b o e n3;exact ⟨o',kp b _ (neC e) z⟩,un6.tups,un6.frzs,un6.tbls⟩
   have hok7:HOk X.prog X.w H5 h':=fun b ob e=>by
    refine (hok6 b ob e).stay (fun c w' hc' q=>kp c w' ?_ q) (fun _ q=>q) fun _ _ q=>q
    rintro rfl
    rcases hc' with rfl | hc'
    ·rw [free6] at e;cases e
    ·rw [free6] at hc';cases hc'
   refine ⟨.ref s2.heap.objs.size,H5,I3.call' (s':={ s6 with heap:=h' }) (ch:=fp) ?_ un7 hok7 I6.bare (fun b hb=>⟨(f3 b hb).2.2.2.1,(f3 b hb).2.1,(f3 b hb).2.2.2.2.1,(f3 b hb).2.2.2.2.2⟩),rfl,qn⟩
   show s6.os=s3.os
   have:=I6.os
   rw [hX'] at this
   exact this
  ·have q:=T.item X' (by rw [hX'];rfl) (by rw [hX'];rfl) (by rw [hX'];rfl) hcalm i [] s5 σ5 H5 (fun _ _=>False) I5 (stat fr5) st5 go
   have eA:X'.A=X.A:=by rw [hX'];rfl
   have eP:X'.prog=X.prog:=by rw [hX'];rfl
   have eW:X'.w=X.w:=by rw [hX'];rfl
   have eE:X'.env=compEnvC scope (clOf scope X.env) s3.heap.objs.size X.env:=by rw [hX'];rfl
   have eX:X'.xe=fun _ _=>False:=by rw [hX'];rfl
   rw [eA] at q
   refine thn q fun r s6 ⟨u,hr,h6⟩=>?_
   subst hr
   refine thn h6 fun _ s7 ⟨x,H7,I7,r7,y7,st7,fr7⟩=>?_
   have I7':=I7.pinned (stat fr7) (T.obj _ _ st7)
   have q8:=hg' _ s7 σ5 H7 x u _ I7' r7 (step x H7 y7)
   rw [eA,eP,eW,eE,eX] at q8
   refine thn q8 fun _ s8 ⟨σ8,H8,I8,w8⟩=>?_
   have q9:=he' _ s8 σ8 H8 _ I8 w8
   rw [eA,eP,eW,eE,eX] at q9
   refine thn q9 fun y s9 ⟨v9,H9,I9,r9,ys,hD9,hlt,m',hm,w9⟩=>?_
   have q10:=mt_append (X:=X') _ s9 σ8 H9 (.ref s2.heap.objs.size) [v9] (.ref s2.heap.objs.size) [y] (fun _ H10=>H10=upd H9 s2.heap.objs.size (.lst (ys++[v9]))) I9 rfl (.cons r9 .nil) ⟨_,ys,v9,rfl,rfl,hD9,hlt,rfl⟩
   rw [eA,eP,eW,eX] at q10
   refine thn q10 fun _ s10 ⟨v10,H10,I10,r10,e10⟩=>?_
   subst e10
   refine ⟨m',hm,i+1,σ8,_,I10.unpinned,T.keep _ _ _ st7 fun b hb o e=>(I10.pin (b,o) (List.mem_append_right _ (List.mem_append_right _ (mem_pinsAt hb e)))).1,fun b hb=>?_,w9⟩
   obtain ⟨o,e,d⟩:=T.obj _ _ st7 b hb
   exact (I10.pin (b,o) (List.mem_append_right _ (List.mem_append_right _ (mem_pinsAt hb e)))).2.1
 have es:({ s2 with heap:=h₁,toks:=s2.toks+([]:List (Str×Value)).length }:Shared) = { s3 with heap:=h₁,toks:=s2.toks+([]:List (Str×Value)).length }:=by rw [hs3]
 rw [es,hC]
 exact codeAny_compStart_list loop (T.self _ 0 _ _ _ st4 loop)
end
section
variable {X:Cx} {pos:Pos}
structure Fn (P:Program) (w:World) (K:PySem.W.Frag) (mg:Str→Option Value) (base:Heap) (k:Nat) (x:Str) (ps:List Str) (sp:Sp):Prop where
 ex:∃f fd,FnOk P w K mg base CX0 k f fd ps sp∧mg x=some (.ref f)∧PySem.W.keepIn K (.ref f)=true∧Binds K fd ps []
theorem pe_fn {k j:Nat} {x:Str} {ps:List Str} {sp:Sp} {e:Expr} {es:List Expr} {t:TA} {p:Pos} (F:Fn X.prog X.w X.K X.mg X.base k x ps sp) (hr:Room j X.A) (hk:k≤j) (hg:Gl X x) (ha:PA X (e::es) t) (hdb:(x==("__debug__":Str))=false:=by decide)
  (he:starEach (e::es) X.env=(false,eval e X.env)::starEach es X.env:=by rfl) (hpl:(backTo pos (starEach es X.env)).any (·.1)=false:=by rfl):PE X (.Call (.Name x p) (e::es) [] pos) (tCall sp [] E0 t):=by
 obtain ⟨f,fd,F,hm,hkp,hb⟩:=F.ex
 exact pe_call F (hr.mono hk) hg hm hkp hb .nil pass0 ha hdb he hpl
end
def isStar:Expr→Bool
 | .Starred _ _=>true
 | _=>false
theorem star_ok {e:Expr} {es:List Expr} {env:Env} (h:isStar e=false):starEach (e::es) env=(false,eval e env)::starEach es env:=by
 cases e<;>first | rfl | (simp [isStar] at h)
def noStar:List Expr→Bool
 | []=>true
 | e::es=>!isStar e&&noStar es
theorem star_any {pos:Pos} {env:Env}:∀{es:List Expr},noStar es=true→(backTo pos (starEach es env)).any (·.1)=false
 | [],_=>rfl
 | e::es,h=>by
  have h1:isStar e=false:=by simp only [noStar,Bool.and_eq_true,Bool.not_eq_true'] at h;exact h.1
  have h2:noStar es=true:=by simp only [noStar,Bool.and_eq_true] at h;exact h.2
  have ih:=star_any (pos:=pos) (env:=env) h2
  rw [star_ok h1]
  simp only [backTo,List.map_cons,List.any_cons,Bool.false_or] at ih ⊢
  exact ih
section
variable {X:Cx} {pos:Pos} {e:Expr} {es:List Expr} {te:TE} {t:TA}
theorem pc (ha:PE X e te) (hr:PA X es t) (hs:isStar e=false:=by rfl):PA X (e::es) (tCons te t):=pa_cons ha hr (star_ok hs)
theorem pe_fnS {k j:Nat} {x:Str} {ps:List Str} {sp:Sp} {p:Pos} (F:Fn X.prog X.w X.K X.mg X.base k x ps sp) (hr:Room j X.A) (hk:k≤j) (hg:Gl X x) (ha:PA X (e::es) t) (hdb:(x==("__debug__":Str))=false:=by decide)
  (hs:noStar (e::es)=true:=by rfl):PE X (.Call (.Name x p) (e::es) [] pos) (tCall sp [] E0 t):=
 pe_fn F hr hk hg ha hdb (star_ok (by simp only [noStar,Bool.and_eq_true,Bool.not_eq_true'] at hs;exact hs.1)) (star_any (by simp only [noStar,Bool.and_eq_true] at hs;exact hs.2))
theorem pe_callBS {x:Str} {p:Pos} {id:String} {r:List V→Hp→VK→Prop} (hc:CallR X (.builtin id) r) (hg:Gl X x) (hm:X.mg x=none) (hv:bootBuiltins x=some (.builtin id)) (ha:PA X (e::es) t) (hn:x≠"__name__":=by decide) (hdb:(x==("__debug__":Str))=false:=by decide)
  (hs:noStar (e::es)=true:=by rfl):PE X (.Call (.Name x p) (e::es) [] pos) (tCB r t):=
 pe_callB hc hg hm hv ha hn hdb (star_ok (by simp only [noStar,Bool.and_eq_true,Bool.not_eq_true'] at hs;exact hs.1)) (star_any (by simp only [noStar,Bool.and_eq_true] at hs;exact hs.2))
theorem pe_callTyS {x:Str} {p:Pos} {T:String} {r:List V→Hp→VK→Prop} (hc:CallR X (.type T) r) (hg:Gl X x) (hm:X.mg x=none) (hv:bootBuiltins x=some (.type T)) (ha:PA X (e::es) t) (hn:x≠"__name__":=by decide) (hdb:(x==("__debug__":Str))=false:=by decide)
  (hs:noStar (e::es)=true:=by rfl):PE X (.Call (.Name x p) (e::es) [] pos) (tCB r t):=
 pe_callTy hc hg hm hv ha hn hdb (star_ok (by simp only [noStar,Bool.and_eq_true,Bool.not_eq_true'] at hs;exact hs.1)) (star_any (by simp only [noStar,Bool.and_eq_true] at hs;exact hs.2))
end
structure QE (X:Cx) (e:Expr) (t:TE):Prop where
 h:PE X e t
structure QT (X:Cx) (e:Expr) (t:TT):Prop where
 h:PT X e t
structure QW (X:Cx) (e:Expr) (t:TT):Prop where
 h:PW X e t
structure QA (X:Cx) (es:List Expr) (t:TA):Prop where
 h:PA X es t
structure QS (X:Cx) (st:Stmt) (t:TS):Prop where
 h:PS X st t
structure QB (X:Cx) (st:List Stmt) (t:TS):Prop where
 h:PSs X st t
structure QG (X:Cx) (e:Expr) (t:TG):Prop where
 h:PG X e t
structure QGs (X:Cx) (es:List Expr) (t:TGs):Prop where
 h:PGs X es t
structure QI (X:Cx) (tg e:Expr) (t:TI):Prop where
 h:PI X tg e t
structure QO (X:Cx) (e:Option Expr) (t:TO):Prop where
 h:PO X e t
def compChk (sc scope:Scope) (N N':List Str) (t:Nat) (cap:List Nat):Bool:=
 decide (scope.kind = .function)&&scope.names.all (fun y=>decide (y.2≠.cell))&&scope.names.all (fun y=>decide (y.2 = .local→scope.names.lookup y.1=some .local)) &&
 scope.names.all (fun y=>decide (y.2 = .free→(sc.names.lookup y.1=some .cell∨sc.names.lookup y.1=some .free)))&&decide (N'.length=t+cap.length) &&
 (List.range cap.length).all (fun j=>match cap[j]?,N'[t+j]? with | some k,some x=>decide (N[k]? = some x∧scope.names.lookup x=some .free) | _,_=>false)
theorem CompOk.of {X:Cx} {N':List Str} {scope:Scope} {t:Nat} {cap:List Nat} (h:compChk X.env.scope scope X.N N' t cap=true):CompOk X N' scope t cap:=by
 simp only [compChk,Bool.and_eq_true,List.all_eq_true,decide_eq_true_eq] at h
 obtain ⟨⟨⟨⟨⟨h1,h2⟩,h3⟩,h4⟩,h5⟩,h6⟩:=h
 refine ⟨h1,h2,h3,h4,h5,fun j k e=>?_⟩
 have hj:j<cap.length:=(List.getElem?_eq_some_iff.mp e).1
 have h:=h6 j (List.mem_range.mpr hj)
 rw [e] at h
 cases q:N'[t+j]? with
 | none=>rw [q] at h;cases h
 | some x=>
  rw [q] at h
  have h':=of_decide_eq_true h
  exact ⟨x,rfl,h'.1,h'.2⟩
section
variable {X:Cx} {pos:Pos} {a b c e l o i value:Expr} {es:List Expr} {ta tb te to ti tl:TE} {tc tA tB':TT} {t u tbd:TS} {tr:TA} {g:TG} {gs:TGs} {wi:TI} {st:Stmt} {sts body b1 b2:List Stmt} {rest:List Expr}
theorem qb_nil:QB X [] tNext:=⟨pss_nil⟩
theorem qb_cons (h1:QS X st t) (h2:QB X sts u):QB X (st::sts) (tSeq t u):=⟨pss_cons h1.h h2.h⟩
theorem qb_one (h1:QS X st t):QB X [st] t:=⟨pss_one h1.h⟩
theorem qs_ret (h:QE X e te):QS X (.Return (some e) pos) (tRet te):=⟨ps_ret h.h⟩
theorem qs_if (hc:QT X c tc) (ha:QB X b1 t) (hb:QB X b2 u):QS X (.If c b1 b2 pos) (tIfS tc t u):=⟨ps_if hc.h ha.h hb.h⟩
theorem qs_while (hp:PassesOwn (model X.prog X.w) X.A X.env X.xe) (hc:QT X c tc) (hb:QB X body tbd):QS X (.While c body [] pos) (tWhile tc tbd):=⟨ps_while hp hc.h hb.h⟩
theorem qs_for {tg iter:Expr} (hp:PassesOwn (model X.prog X.w) X.A X.env X.xe) (hc:X.calm=true) (hi:QI X tg iter wi) (hg:QG X tg g) (hb:QB X body tbd) (hs:∀x,foldedSetIterable iter X.env x=pure x:=by intro _;rfl) :
  QS X (.For tg iter body [] pos) (tFor wi g tbd):=⟨ps_for hp hc hi.h hg.h hb.h hs⟩
theorem qs_expr (he:QE X e te) (hs:swapsWith e none pos.line X.env=pure false:=by rfl):QS X (.Expr e pos) (tDrop te):=⟨ps_expr he.h hs⟩
theorem qs_set {i:Nat} {x:Str} {pos':Pos} (hN:X.N.Nodup) (hi:X.N[i]? = some x) (hx:Loc X.env.scope x) (he:QE X e te) (hs:swapsWith e (some (.Name x pos')) pos.line X.env=pure false:=by rfl)
  (hf:X.fn x=true∨X.env.scope.names.lookup x=some .local:=by first | exact .inl rfl | exact .inr rfl | assumption):QS X (.Assign [.Name x pos'] e pos) (tAsg te (gName i)):=⟨ps_set hN hi hx he.h hs hf⟩
theorem qs_asg {tg:Expr} (he:QE X e te) (hg:QG X tg g) (hs:swapsWithSole [tg] e pos.line X.env=pure false:=by rfl) (hw:swappedStores [tg] e X.env=pure none:=by rfl)
  (h1:(assignEach [tg] X.env).map (·.2)=[assign tg X.env]:=by rfl):QS X (.Assign [tg] e pos) (tAsg te g):=⟨ps_asg he.h hg.h hs hw h1⟩
theorem qs_par {i j:Nat} {x y:Str} {px py pt:Pos} {kt k2 pt2} (hc:X.calm=true) (hN:X.N.Nodup) (hi:X.N[i]? = some x) (hj:X.N[j]? = some y) (hij:i≠j)
  (hx:X.env.scope.names.lookup x=some .local) (hy:X.env.scope.names.lookup y=some .local) (ha:QA X [a,b] tr)
  (hw:swappedStores [.Tuple [.Name x px,.Name y py] kt pt] (.Tuple [a,b] k2 pt2) X.env=pure (some [x,y]))
  (hs:swapsWithSole [.Tuple [.Name x px,.Name y py] kt pt] (.Tuple [a,b] k2 pt2) pos.line X.env=pure false:=by rfl) :
  QS X (.Assign [.Tuple [.Name x px,.Name y py] kt pt] (.Tuple [a,b] k2 pt2) pos) (tPar i j tr):=⟨ps_par hc hN hi hj hij hx hy ha.h hw hs⟩
theorem qg_name {i:Nat} {x:Str} (hN:X.N.Nodup) (hi:X.N[i]? = some x) (hx:Loc X.env.scope x) (hf:X.fn x=true∨X.env.scope.names.lookup x=some .local:=by first | exact .inl rfl | exact .inr rfl | assumption):QG X (.Name x pos) (gName i):=⟨pg_name hN hi hx hf⟩
theorem qgs_nil:QGs X [] gNil:=⟨pgs_nil⟩
theorem qgs_cons (h1:QG X e g) (h2:QGs X es gs) (hs:(assignEach (e::es) X.env).map (·.2)=assign e X.env::(assignEach es X.env).map (·.2):=by rfl):QGs X (e::es) (gCons g gs):=⟨pgs_cons h1.h h2.h hs⟩
theorem qg_tup {k n:Nat} (hc:X.calm=true) (h:QGs X es gs) (hn:(assignEach es X.env).length=n:=by rfl) (hst:(assignEach es X.env).findIdx? (·.1)=none:=by rfl):QG X (.Tuple es k pos) (gTup X.K n gs):=⟨pg_tup hc h.h hn hst⟩
theorem qg_sub {ts:TSet} (ho:QE X o to) (hi:QE X i ti) (hs:PSet X ts)
  (ha:∀v,assign (.Subscript o i pos) X.env v=(do
   let ov ←holding [v] (eval o X.env)
   let iv ←holding [v,ov] (eval i X.env)
   standAt pos
   holding [v,ov,iv] (setItem ov iv v)
   release [v,ov,iv] []):=by intro _;rfl):QG X (.Subscript o i pos) (gSub to ti ts):=⟨pg_sub ho.h hi.h hs ha⟩
theorem qi_range1 {tg:Expr} {p:Pos} (hg:Gl X "range") (hm:X.mg "range" = none) (ha:QA X [a] tr) (hs:isStar a=false:=by rfl):QI X tg (.Call (.Name "range" p) [a] [] pos) (iRng1 tr):=⟨pi_range1 hg hm ha.h (star_ok hs)⟩
theorem qi_enum {p tpos:Pos} {elts:List Expr} {x1} (hg:Gl X "enumerate") (hm:X.mg "enumerate" = none) (ha:QA X [a] tr) (hs:isStar a=false:=by rfl):QI X (.Tuple elts x1 tpos) (.Call (.Name "enumerate" p) [a] [] pos) (iEnum X.K tr):=⟨pi_enum hg hm ha.h (star_ok hs)⟩
theorem qi_list {tg:Expr} (hl:QE X l tl):QI X tg l (iList X.K tl):=⟨pi_list hl.h⟩
theorem qi_tup {tg:Expr} (hl:QE X l tl):QI X tg l (iTup X.K tl):=⟨pi_tup hl.h⟩
theorem qa_nil:QA X [] tNil:=⟨pa_nil⟩
theorem qc (ha:QE X e te) (hr:QA X es tr) (hs:isStar e=false:=by rfl):QA X (e::es) (tCons te tr):=⟨pc ha.h hr.h hs⟩
theorem qe_int {i j pos}:QE X (.Constant (.int i) j pos) (tC (.int i)):=⟨pe_int⟩
theorem qe_bl {b j pos}:QE X (.Constant (.bool b) j pos) (tC (.bl b)):=⟨pe_bl⟩
theorem qe_non {j pos}:QE X (.Constant .none j pos) (tC .non):=⟨pe_non⟩
theorem qe_str {x j pos}:QE X (.Constant (.str x) j pos) (tC (.str x)):=⟨pe_str⟩
theorem qe_bltn {x:Str} {v:V} {u:Value} (hg:Gl X x) (hm:X.mg x=none) (hv:bootBuiltins x=some u) (r:RelV v u) (hn:x≠"__name__":=by decide) (hd:(x==("__debug__":Str))=false:=by decide):QE X (.Name x pos) (tC v):=⟨pe_bltn hg hm hv r hn hd⟩
theorem qv (i:Nat) {x:Str} (hN:X.N[i]? = some x:=by rfl) (hv:Vis X.env.scope x:=by first | exact Or.inl rfl | exact Or.inr (Or.inl rfl) | exact Or.inr (Or.inr rfl)) (hd:(x==("__debug__":Str))=false:=by decide)
  (hcd:(x==("__classdict__":Str))=false:=by decide):QE X (.Name x pos) (tVar i):=⟨pe_var hN hv hd hcd⟩
theorem qe_op {op:Operator} {r:R2} (ho:OpR X (binaryOp op) r) (ha:QE X a ta) (hb:QE X b tb):QE X (.BinOp a op b pos) (tOp r ta tb):=⟨pe_op ho ha.h hb.h⟩
theorem qe_un {op:UnaryOp} {r:V→Hp→VK→Prop} (ho:UnR X (unaryOp op) r) (ha:QE X a ta):QE X (.UnaryOp op a pos) (tUn r ta):=⟨pe_un ho ha.h⟩
theorem qe_not (ha:QE X a ta):QE X (.UnaryOp .Not a pos) (tNotV ta):=⟨pe_not ha.h⟩
theorem qe_cmpR {op:CmpOp} {r:R2} (ho:OpR X (compareOp op) r) (ha:QE X a ta) (hb:QE X b tb) (hm:behindInMarks op b=false):QE X (.Compare a [op] [b] pos) (tOp r ta tb):=⟨pe_cmpR ho ha.h hb.h hm⟩
theorem qe_and (ha:QE X a ta) (hb:QE X (.BoolOp .And (b::rest) pos) tb):QE X (.BoolOp .And (a::b::rest) pos) (tAndV ta tb):=⟨pe_and ha.h hb.h⟩
theorem qe_or (ha:QE X a ta) (hb:QE X (.BoolOp .Or (b::rest) pos) tb):QE X (.BoolOp .Or (a::b::rest) pos) (tOrV ta tb):=⟨pe_or ha.h hb.h⟩
theorem qe_one {op} (h:QE X a ta):QE X (.BoolOp op [a] pos) ta:=⟨pe_one h.h⟩
theorem qe_ifExp (hc:QT X c tA) (ha:QE X a ta) (hb:QE X b tb):QE X (.IfExp c a b pos) (tIf tA ta tb):=⟨pe_ifExp hc.h ha.h hb.h⟩
theorem qe_tup {x1} (h:QA X es tr):QE X (.Tuple es x1 pos) (tTup tr):=⟨pe_tup h.h⟩
theorem qe_lst (h:QA X es tr):QE X (.List es pos) (tLst tr):=⟨pe_lst h.h⟩
theorem qe_ix {r:R2} (hr:IxR X r) (ha:QE X a ta) (hb:QE X b tb) (hs:PlainIx b):QE X (.Subscript a b pos) (tOp r ta tb):=⟨pe_ix hr ha.h hb.h hs⟩
theorem qo_none:QO X none tNoPart:=⟨po_none⟩
theorem qo_some (h:QE X e te):QO X (some e) (tPart te):=⟨po_some h.h⟩
theorem qe_slice {r:V→Option Int→Option Int→Hp→VK→Prop} {lo hi:Option Expr} {tlo thi:TO} {p2:Pos} (hr:SlR X r) (he:QE X e te) (hl:QO X lo tlo) (hu:QO X hi thi):QE X (.Subscript e (.Slice lo hi none p2) pos) (tSl r te tlo thi):=⟨pe_slice hr he.h hl.h hu.h⟩
theorem qe_fnS {k j:Nat} {x:Str} {ps:List Str} {sp:Sp} {p:Pos} (F:Fn X.prog X.w X.K X.mg X.base k x ps sp) (hr:Room j X.A) (hk:k≤j) (hg:Gl X x) (ha:QA X (e::es) tr) (hdb:(x==("__debug__":Str))=false:=by decide)
  (hs:noStar (e::es)=true:=by rfl):QE X (.Call (.Name x p) (e::es) [] pos) (tCall sp [] E0 tr):=⟨pe_fnS F hr hk hg ha.h hdb hs⟩
theorem qe_callBS {x:Str} {p:Pos} {id:String} {r:List V→Hp→VK→Prop} (hc:CallR X (.builtin id) r) (hg:Gl X x) (hm:X.mg x=none) (hv:bootBuiltins x=some (.builtin id)) (ha:QA X (e::es) tr) (hn:x≠"__name__":=by decide) (hdb:(x==("__debug__":Str))=false:=by decide)
  (hs:noStar (e::es)=true:=by rfl):QE X (.Call (.Name x p) (e::es) [] pos) (tCB r tr):=⟨pe_callBS hc hg hm hv ha.h hn hdb hs⟩
theorem qe_callTyS {x:Str} {p:Pos} {T:String} {r:List V→Hp→VK→Prop} (hc:CallR X (.type T) r) (hg:Gl X x) (hm:X.mg x=none) (hv:bootBuiltins x=some (.type T)) (ha:QA X (e::es) tr) (hn:x≠"__name__":=by decide) (hdb:(x==("__debug__":Str))=false:=by decide)
  (hs:noStar (e::es)=true:=by rfl):QE X (.Call (.Name x p) (e::es) [] pos) (tCB r tr):=⟨pe_callTyS hc hg hm hv ha.h hn hdb hs⟩
theorem qe_comp {target elt iter:Expr} {scope:Scope} {N':List Str} {cap:List Nat} {t:Nat} (hc:X.calm=true) (S:CompOk X N' scope t cap) (hi:QI X target iter wi)
  (hg:∀C s3 H3 fp,QG (cxComp X N' scope C s3 H3 fp) target g) (he:∀C s3 H3 fp,QE (cxComp X N' scope C s3 H3 fp) elt te) (hs:∀x,foldedSetIterable iter X.env x=pure x:=by intro _;rfl) :
  QE X (.ListComp elt [⟨target,iter,[],0⟩] scope pos) (tComp t cap wi g te):=⟨pe_comp hc S hi.h (fun C s3 H3 fp=>(hg C s3 H3 fp).h) (fun C s3 H3 fp=>(he C s3 H3 fp).h) hs⟩
theorem qt_cmpR {op:CmpOp} {r:R2} (ho:OpR X (compareOp op) r) (ha:QE X a ta) (hb:QE X b tb) (hm:behindInMarks op b=false):QT X (.Compare a [op] [b] pos) (tTest (tOp r ta tb)):=⟨pt_cmpR ho ha.h hb.h hm⟩
theorem qt_not (ha:QT X a tA):QT X (.UnaryOp .Not a pos) (tNot tA):=⟨pt_not ha.h⟩
theorem qt_val (h:QE X e te) (he:∀whole,isTrue e X.env whole=(do let v ←whole;standAt e.pos;holding [v] (truthy v)):=by intro _;rfl):QT X e (tB te):=⟨pt_val h.h he⟩
theorem qw_and1 (ha:QT X a tA):QW X (.BoolOp .And [a] pos) tA:=⟨pw_and1 ha.h⟩
theorem qw_or1 (ha:QT X a tA):QW X (.BoolOp .Or [a] pos) tA:=⟨pw_or1 ha.h⟩
theorem qw_and (ha:QT X a tA) (hb:QW X (.BoolOp .And (b::rest) pos) tB'):QW X (.BoolOp .And (a::b::rest) pos) (tAnd tA tB'):=⟨pw_and ha.h hb.h⟩
theorem qw_or (ha:QT X a tA) (hb:QW X (.BoolOp .Or (b::rest) pos) tB'):QW X (.BoolOp .Or (a::b::rest) pos) (tOr tA tB'):=⟨pw_or ha.h hb.h⟩
theorem qt_w (h:QW X e tA):QT X e tA:=⟨h.h.pt⟩
end
section
variable {P:Program} {w:World} {K:PySem.W.Frag} {mg:Str→Option Value} {base:Heap}
theorem Fun.okQ {x qual:Str} {st:Stmt} {f:Addr} {fd:FuncData} {N ps:List Str} {k:Nat} {sp:Sp} (F:Fun K x qual st f fd) (S:FnScope N ps (defScope st)) (len:∀vs H Q E,sp vs H Q E→vs.length=ps.length)
  (hbody:∀(cdv:Value) (A:Around) (outer:List Env) (s:Shared) (H:Hp) (vs:List V) (Q:VK) (E:XK),Room k (A.deeper (envOfC qual (defScope st) s.heap.objs.size f cdv))→sp vs H Q E→
   ∃t,QB (cxOf CX0 P w K mg base N qual (defScope st) f cdv A outer s H E).nox (defBody st) t∧t { nx:=fun _ H'=>Q .non H',rt:=Q } (start N vs) H):FnOk P w K mg base CX0 (k+1) f fd ps sp:=
 F.ok S len fun cdv A outer s H vs Q E hr h=>let ⟨t,h1,h2⟩:=hbody cdv A outer s H vs Q E hr h;⟨t,h1.h,h2⟩
end
section
variable {prog:Program} {w:World} {A:Around} {E:Value→Shared→Prop} {s:Shared}
end
section
variable {X:Cx}
end
section
variable {X:Cx} {pos:Pos} {a b e:Expr} {ta tb te:TE} {tc:TT}
def tAssert (c:TT):TS:=fun D σ H=>c σ H fun b H1=>b=true∧D.nx σ H1
theorem qs_assert {c:Expr} {m:Option Expr} (hc:QT X c tc):QS X (.Assert c m pos) (tAssert tc):=⟨by
 intro pins s σ H D I h
 exact wpAny_Assert_holds (thn (hc.h pins s σ H _ I h) fun b s1 ⟨H1,I1,q1⟩=>⟨q1.1,σ,H1,I1,q1.2⟩)⟩
end
section
variable {X:Cx} {K:PySem.W.Frag} {pos:Pos}
def CMulB (i j:Int):Prop:=i.natAbs<2^8000∧j.natAbs<2^8000
theorem bits_le {a:Int} (h:a.natAbs<2^8000):Builtin.Int.intBits a≤8001:=by
 unfold Builtin.Int.intBits
 split
 ·omega
 ·rename_i h0
  have hne:a.natAbs≠0:=by
   intro z
   apply h0
   first | exact Int.natAbs_eq_zero.mp z | simp [Int.natAbs_eq_zero.mp z] | omega
  have:=(Nat.log2_lt hne).mpr h
  omega
theorem CMulB.ok {i j:Int} (h:CMulB i j):IntMulOk i j:=by
 have h1:=bits_le h.1
 have h2:=bits_le h.2
 unfold IntMulOk
 have:Builtin.Int.intTooBig (Builtin.Int.intBits i+Builtin.Int.intBits j)=false:=by
  unfold Builtin.Int.intTooBig
  simp only [decide_eq_false_iff_not]
  have:(16002:Int)≤bitsLine:=by decide
  omega
 rw [this]
 simp
theorem op_mulB:OpR X (binaryOp .Mult) (rI CMulB fun i j=>.int (i*j)):=opI fun _ _ _ _ _ _ _ hc q=>mul_int q hc.ok
end
section
variable {X:Cx}
def CDivZ (i j:Int):Prop:=j≠0∧j.natAbs<2^8000
theorem op_fdivZ:OpR X (binaryOp .FloorDiv) (rI CDivZ fun i j=>.int (i.fdiv j)):=opI fun i j _ _ _ _ _ hc q=>by
 obtain ⟨h0,h1⟩:=hc
 have hl:j.natAbs.log2<9000:=by
  have:=(Nat.log2_lt (show j.natAbs≠0 by omega)).mpr h1
  omega
 exact floordiv_int h0 q (.inl (PyProof.noPylong_of_log2 hl))
end
section
variable {X:Cx} {pos:Pos} {o e:Expr} {to:TE} {tr:TA}
theorem qe_append {ap:Pos} (ho:QE X o to) (ha:QA X [e] tr) (hbase:attributeBase o "append" X.env (eval o X.env)=eval o X.env:=by rfl) (hline:(ap.endLine==pos.line)=true:=by rfl) (hs:isStar e=false:=by rfl) :
  QE X (.Call (.Attribute o "append" ap) [e] [] pos) (tBM X.K "list" rAppend to tr):=
 ⟨pe_bm PySem.F.plainAttrs_list PySem.F.slot_list_append PySem.F.type_list_append mt_append ho.h ha.h hbase (by rw [star_ok hs];rfl) hline (star_ok hs) (star_any rfl)⟩
end
section
variable {X:Cx}
theorem call_divmodB:CallR X (.builtin "divmod") (fun xs H Q=>∃a b:Int,xs=[.int a,.int b]∧0<b∧b<2^200∧∀p,H p=none→Q (.ref p) (upd H p (.tup [.int (a/b),.int (a%b)]))):=by
 intro pins s σ H xs us Q I r h
 obtain ⟨a,b,rfl,h0,h1,q⟩:=h
 obtain ⟨u,v,rfl,rx,ry⟩:=Vals.two r
 obtain ⟨t,rfl⟩:=rx
 obtain ⟨t',rfl⟩:=ry
 have e1:a.fdiv b=a/b:=Int.fdiv_eq_ediv_of_nonneg _ (by omega)
 have e2:a.fmod b=a%b:=Int.fmod_eq_emod_of_nonneg _ (by omega)
 have hl:b.natAbs.log2<9000:=by
  have hb:b.natAbs<2^200:=by omega
  have:=(Nat.log2_lt (show b.natAbs≠0 by omega)).mpr hb
  omega
 refine divmod_int (by omega) ?_ (.inl (PyProof.noPylong_of_log2 hl))
 refine ⟨.ref s.heap.objs.size,_,I.laid (o:=.tup [.int (a/b),.int (a%b)]) (t':=s.toks+1+1) (fun b u e=>Heap.get?_push_of_some _ e) (Nat.le_refl _) ?_,rfl,q _ (I.hok.fresh (Nat.le_refl _))⟩
 refine ⟨by show 2≤sizeLine;decide,[.int (a.fdiv b) s.toks,.int (a.fmod b) (s.toks+1)],.cons ⟨_,by rw [e1]⟩ (.cons ⟨_,by rw [e2]⟩ .nil),⟨_,Heap.get?_push_size _ rfl,rfl,_,rfl⟩⟩
end
section
variable {X:Cx} {pos:Pos} {o e:Expr} {to:TE} {tr:TA}
def rBits:V→List V→Hp→VK→Prop:=fun x vs H Q=>∃i:Int,x = .int i∧vs=[]∧Q (.int ((Builtin.Int.intBits i:Nat):Int)) H
theorem mt_bits:MtR X "int.bit_length" rBits:=by
 intro pins s σ H x vs v us Q I rx rv h
 obtain ⟨i,rfl,rfl,q⟩:=h
 obtain ⟨t,rfl⟩:=rx
 cases rv
 exact call_int_bit_length ⟨.int _,H,I.tok _,⟨_,rfl⟩,q⟩
theorem qe_bits {ap:Pos} (ho:QE X o to) (hbase:attributeBase o "bit_length" X.env (eval o X.env)=eval o X.env:=by rfl) (hline:(ap.endLine==pos.line)=true:=by rfl) :
  QE X (.Call (.Attribute o "bit_length" ap) [] [] pos) (tBM0 X.K "int" rBits to):=
 ⟨pe_bm0 PySem.F.plainAttrs_int PySem.F.slot_int_bit_length PySem.F.type_int_bit_length mt_bits ho.h hbase hline⟩
end
section
variable {κ:Type} [DecidableEq κ]
def valV (kvs:List (κ×V)) (k:κ):Option V:=(kvs.find? fun kv=>decide (kv.1=k)).map (·.2)
def putK (kvs:List (κ×V)) (k:κ) (v:V):List (κ×V):=
 if (kvs.any fun kv=>decide (kv.1=k))=true then kvs.map (fun kv=>if kv.1=k then (kv.1,v) else kv) else kvs++[(k,v)]
theorem valV_pos {p:κ×V} {r:List (κ×V)} {k:κ} (e:p.1=k):valV (p::r) k=some p.2:=by simp [valV,List.find?_cons,e]
theorem valV_neg {p:κ×V} {r:List (κ×V)} {k:κ} (e:¬p.1=k):valV (p::r) k=valV r k:=by simp [valV,List.find?_cons,e]
theorem valV_any (k:κ):∀kvs:List (κ×V),(kvs.any fun kv=>decide (kv.1=k))=(valV kvs k).isSome
 | []=>rfl
 | p::r=>by
  rw [List.any_cons]
  by_cases e:p.1=k
  ·simp only [valV_pos e,decide_eq_true e,Bool.true_or,Option.isSome_some]
  ·rw [valV_neg e,decide_eq_false e,Bool.false_or];exact valV_any k r
theorem valV_map (k j:κ) (y:V):∀kvs:List (κ×V),valV (kvs.map fun kv=>if kv.1=k then (kv.1,y) else kv) j=(valV kvs j).map fun x=>if j=k then y else x
 | []=>rfl
 | p::r=>by
  have ih:=valV_map k j y r
  rw [List.map_cons]
  by_cases h:p.1=k
  ·rw [if_pos h]
   by_cases e:p.1=j
   ·rw [valV_pos (p:=(p.1,y)) e,valV_pos e,Option.map_some,if_pos (e.symm.trans h)]
   ·rw [valV_neg (p:=(p.1,y)) e,valV_neg e,ih]
  ·rw [if_neg h]
   by_cases e:p.1=j
   ·rw [valV_pos (p:=p) e,valV_pos e,Option.map_some,if_neg (fun z=>h (e.trans z))]
   ·rw [valV_neg (p:=p) e,valV_neg e,ih]
theorem valV_snoc (k j:κ) (y:V):∀kvs:List (κ×V),valV kvs k=none→valV (kvs++[(k,y)]) j=if j=k then some y else valV kvs j
 | [],_=>by
  by_cases e:k=j
  ·rw [if_pos e.symm];exact valV_pos (p:=(k,y)) e
  ·rw [if_neg (fun z=>e z.symm)];exact valV_neg (p:=(k,y)) e
 | p::r,hn=>by
  rw [List.cons_append]
  have hk:¬p.1=k:=fun z=>by rw [valV_pos z] at hn;cases hn
  rw [valV_neg hk] at hn
  have ih:=valV_snoc k j y r hn
  by_cases e:p.1=j
  ·rw [valV_pos e,valV_pos e,if_neg (fun z=>hk (e.trans z))]
  ·rw [valV_neg e,valV_neg e,ih]
theorem valV_put (kvs:List (κ×V)) (k j:κ) (y:V):valV (putK kvs k y) j=if j=k then some y else valV kvs j:=by
 unfold putK
 by_cases a:(kvs.any fun kv=>decide (kv.1=k))=true
 ·rw [if_pos a,valV_map]
  rw [valV_any] at a
  by_cases e:j=k
  ·obtain ⟨x,hx⟩:=Option.isSome_iff_exists.mp a
   rw [if_pos e,e,hx,Option.map_some,if_pos rfl]
  ·rw [if_neg e]
   cases valV kvs j with
   | none=>rfl
   | some x=>rw [Option.map_some,if_neg e]
 ·rw [if_neg a]
  refine valV_snoc k j y kvs ?_
  rw [valV_any] at a
  cases q:valV kvs k with
  | none=>rfl
  | some x=>rw [q] at a;exact (a rfl).elim
theorem length_putK (kvs:List (κ×V)) (k:κ) (v:V):(putK kvs k v).length≤kvs.length+1:=by
 unfold putK
 split
 ·rw [List.length_map];omega
 ·rw [List.length_append,List.length_cons,List.length_nil];omega
theorem putK_new {kvs:List (κ×V)} {k:κ} (v:V) (h:valV kvs k=none):putK kvs k v=kvs++[(k,v)]:=by
 unfold putK
 rw [valV_any,h]
 exact if_neg (by decide)
theorem RelO.isSome_eq {o:Option V} {u:Option Value} (r:RelO o u):o.isSome=u.isSome:=by
 cases o with
 | none=>cases u with
  | none=>rfl
  | some _=>exact (show False from r).elim
 | some _=>cases u with
  | none=>exact (show False from r).elim
  | some _=>rfl
end
theorem kV_is {P:Program} {w:World} {k:Key} {u:Value} (r:RelV (kV k) u):(mixKind P w).is k u=true:=by
 cases k with
 | inl i=>obtain ⟨t,e⟩:=(show ∃t,u=Value.int i t from r);subst e;exact mixKind_int P w i t
 | inr x=>obtain ⟨t,e⟩:=(show ∃t,u=Value.str x t from r);subst e;exact mixKind_str P w x t
theorem items_are {P:Program} {w:World}:∀{ks:List Key} {us:List Value},Vals (ks.map kV) us→ItemsAre (mixKind P w) ks us
 | [],_,r=>by rw [List.map_nil] at r;cases r;exact .nil
 | k::ks,_,r=>by
  rw [List.map_cons] at r
  cases r with
  | cons h t=>exact .cons (kV_is h) (items_are t)
abbrev KTd (H:Hp):List (List Key×V)→List (List Key×Addr×Value)→Prop:=Paired fun p q=>p.1=q.1∧H q.2.1=some (.tup (p.1.map kV))∧RelV p.2 q.2.2
theorem KTd.val {H:Hp} {kvs:List (List Key×V)} {xs:List (List Key×Addr×Value)} (r:KTd H kvs xs) (k:List Key):RelO (valV kvs k) ((atKey xs k).map (·.2)):=by
 induction r with
 | nil=>exact True.intro
 | @cons p q ps qs h t ih=>
  obtain ⟨h1,_,h2⟩:=h
  by_cases e:p.1=k
  ·have e':q.1=k:=h1.symm.trans e
   have b:atKey (q::qs) k=some q.2:=by simp [atKey,List.find?_cons,e']
   rw [valV_pos e,b];exact h2
  ·have e':¬q.1=k:=fun z=>e (h1.trans z)
   have b:atKey (q::qs) k=atKey qs k:=by simp [atKey,List.find?_cons,e']
   rw [valV_neg e,b];exact ih
theorem KTd.repl {H:Hp} {kvs:List (List Key×V)} {xs:List (List Key×Addr×Value)} (r:KTd H kvs xs) (k:List Key) {y:V} {u:Value} (ry:RelV y u) :
  KTd H (kvs.map fun kv=>if kv.1=k then (kv.1,y) else kv) (xs.map (putAt k u)):=by
 induction r with
 | nil=>exact .nil
 | @cons p q ps qs h t ih=>
  rw [List.map_cons,List.map_cons]
  refine .cons ?_ ih
  obtain ⟨h1,h2,h3⟩:=h
  unfold putAt
  by_cases e:p.1=k
  ·rw [if_pos e,if_pos (h1.symm.trans e)];exact ⟨h1,h2,ry⟩
  ·rw [if_neg e,if_neg (fun z=>e (h1.trans z))];exact ⟨h1,h2,h3⟩
theorem KTd.put {H:Hp} {kvs:List (List Key×V)} {xs:List (List Key×Addr×Value)} (r:KTd H kvs xs) (k:List Key) {b:Addr} {y:V} {u:Value} (hb:H b=some (.tup (k.map kV))) (ry:RelV y u) :
  KTd H (putK kvs k y) (storedH xs k b u):=by
 have e:(kvs.any fun kv=>decide (kv.1=k))=(atKey xs k).isSome:=by
  rw [valV_any,(r.val k).isSome_eq,Option.isSome_map]
 unfold putK storedH
 rw [e]
 by_cases q:(atKey xs k).isSome=true
 ·rw [if_pos q,if_pos q];exact r.repl k ry
 ·rw [if_neg q,if_neg q];exact Paired.snoc r ⟨rfl,hb,ry⟩
theorem KTd.keeps {H H':Hp} {kvs:List (List Key×V)} {xs:List (List Key×Addr×Value)} (r:KTd H kvs xs) (ht:∀b ys,H b=some (.tup ys)→H' b=some (.tup ys)):KTd H' kvs xs:=
 Paired.mapP r fun _ _ z=>⟨z.1,ht _ _ z.2.1,z.2.2⟩
section
variable {P:Program} {w:World} {H:Hp} {h:Heap} {a:Addr}
theorem rd_ofD {u:HO} (ok:HOk P w H h) (e:Rd H a u):ObjOk P w H h a u:=e.ok ok
theorem dk_rd {kvs:List (Key×V)} (ok:HOk P w H h) (e:Rd H a (.dK kvs)):kvs.length≤sizeLine∧(a==sysModules)=false∧∃vs,KV kvs vs∧h.DictOf (mixKind P w) a vs:=
 show ObjOk P w H h a (.dK kvs) from rd_ofD ok e
theorem key_of {ks:List Key} (ok:HOk P w H h) (e:H a=some (.tup (ks.map kV))):(tupleKind (mixKind P w)).is h ks a:=by
 obtain ⟨_,its,r,o,h1,h2,n,h3⟩:=(show ObjOk P w H h a (.tup (ks.map kV)) from ok a _ e)
 exact ⟨o,its.toArray,n,h1,h2,h3,by simpa using items_are r⟩
theorem dt_rd {kvs:List (List Key×V)} (ok:HOk P w H h) (e:Rd H a (.dT kvs)):kvs.length≤sizeLine∧(a==sysModules)=false∧
  ∃xs,KTd H kvs xs∧h.DictOfH (tupleKind (mixKind P w)) a xs:=by
 obtain ⟨z,y,xs,r,o,es,ep,h1,h2,h3,h4,h5⟩:=(show ObjOk P w H h a (.dT kvs) from rd_ofD ok e)
 refine ⟨z,y,xs,r,o,es,ep,h1,h2,h3,h4,fun x hx=>?_,h5⟩
 have all:∀{l:List (List Key×V)} {m:List (List Key×Addr×Value)},KTd H l m→∀x∈m,(tupleKind (mixKind P w)).is h x.1 x.2.1:=by
  intro l m q
  induction q with
  | nil=>intro x hx;exact nomatch hx
  | @cons p q ps qs hq t ih=>
   intro x hx
   rcases List.mem_cons.mp hx with e | hx
   ·subst e
    exact key_of ok (by rw [←hq.1];exact hq.2.1)
   ·exact ih x hx
 exact all r x hx
theorem dt_of {kvs:List (List Key×V)} (ok:HOk P w H h) (e:H a=some (.dT kvs)):kvs.length≤sizeLine∧(a==sysModules)=false∧
  ∃xs,KTd H kvs xs∧h.DictOfH (tupleKind (mixKind P w)) a xs:=dt_rd ok (.inl e)
end
section
variable {X:Cx} {pins:List (Addr×Obj)} {σ:St} {H:Hp} {s:Shared} {a:Addr} {y v:V} {u r:Value} {o:Option V} {A:Around} {E:Value→Shared→Prop}
theorem Inv.big (I:Inv X pins σ H s):sysModules<s.heap.objs.size:=by
 have h:mainGlobals<s.heap.objs.size:=(I.mod.glob.keeps I.bk).lt
 exact Nat.lt_trans (by decide) h
theorem d_write {h':Heap} {t':Nat} {ob:HO} (I:Inv X pins σ H s) (mu:Mut (H a)) (hs:Heap.SameBut a s.heap h') (he:∃q,h'.get? a=some q) (new:ObjOk X.prog X.w (upd H a ob) h' a ob) :
  Inv X pins σ (upd H a ob) { s with heap:=h',toks:=t' }:=
 I.write (x:=a) (e:=a) mu (.inl rfl) (fun b q hb z=>(hs.2 b hb).trans z) he new
end
section
variable {X:Cx} {pins:List (Addr×Obj)} {σ:St} {H:Hp} {s:Shared} {a:Addr} {kvs:List (Key×V)} {k:Key} {u:Value} {A:Around} {E:Value→Shared→Prop}
end
section
variable {X:Cx} {o i e value:Expr} {pos pos' tpos:Pos} {td ty tv:TE}
end
theorem dt_empty {P:Program} {w:World} {H:Hp} (h:Heap) (hb:sysModules<h.objs.size):ObjOk P w H (h.push { cls:=.type "dict",data:=.dict #[] }) h.objs.size (.dT []):=
 ⟨Nat.zero_le _,beq_eq_false_iff_ne.mpr (Ne.symm (Nat.ne_of_lt hb)),[],.nil,_,#[],0,Heap.get?_push_size _ rfl,⟨rfl,rfl,rfl⟩,rfl,rfl,List.nodup_nil⟩
def tDNewT:TE:=fun _ H Q=>∀p,H p=none→Q (.ref p) (upd H p (.dT []))
section
variable {X:Cx} {pos:Pos}
theorem pe_dnewT:PE X (.Dict [] [] pos) tDNewT:=fun pins s σ H Q I h=>
 wpAny_Dict_empty ⟨.ref s.heap.objs.size,_,I.laid (a:=s.heap.objs.size) (o:=.dT []) (t':=s.toks) (fun _ _ q=>Heap.get?_push_of_some _ q) (Nat.le_refl _) (dt_empty s.heap I.big),rfl,h _ (I.hok.fresh (Nat.le_refl _))⟩
end
inductive T where
 | non | bl (b:Bool) | int (i:Int) | str (x:Str) | tup (xs:List T) | lst (xs:List T)
inductive U where
 | p (t:T) | o (k:Bool) (xs:List T)
abbrev En:=List (Option U)
inductive R where
 | p (t:T) | s (i:Nat)
def KT (K:PySem.W.Frag) (a:Addr) (xs:List V):Prop:=∃(o:Obj) (its:Array Value) (n:Nat),K.lookup a=some o∧o.cls = .type "tuple"∧o.data = .seq its n∧its.size≤sizeLine∧Vals xs its.toList
def KL (K:PySem.W.Frag) (a:Addr) (xs:List V):Prop:=∃(o:Obj) (its:Array Value) (n:Nat),K.lookup a=some o∧o.cls = .type "list"∧o.dict=none∧o.data = .seq its n∧its.size≤sizeLine∧Vals xs its.toList
mutual
def Rp (K:PySem.W.Frag) (H:Hp) (O:Addr→Prop):T→V→Prop
 | .non,v=>v = .non
 | .bl b,v=>v = .bl b
 | .int i,v=>v = .int i
 | .str x,v=>v = .str x
 | .tup xs,v=>∃a vs,v = .ref a∧((¬O a∧Rd H a (.tup vs))∨KT K a vs)∧Rps K H O xs vs
 | .lst xs,v=>∃a vs,v = .ref a∧((¬O a∧Rd H a (.lst vs))∨KL K a vs)∧Rps K H O xs vs
def Rps (K:PySem.W.Frag) (H:Hp) (O:Addr→Prop):List T→List V→Prop
 | [],vs=>vs=[]
 | x::xs,vs=>∃v r,vs=v::r∧Rp K H O x v∧Rps K H O xs r
end
structure Kp (O O':Addr→Prop) (H H':Hp):Prop where
 keep:∀b o,H b=some o→¬O b→H' b=some o
 new:∀b,O' b→O b∨H b=none
theorem Rd.step {H H':Hp} {a:Addr} {u:HO} {O O':Addr→Prop} (k:Kp O O' H H') (h:¬O a∧Rd H a u):¬O' a∧Rd H' a u:=by
 obtain ⟨n,h⟩:=h
 rcases h with h | ⟨o,h⟩
 ·refine ⟨fun z=>?_,.inl (k.keep _ _ h n)⟩
  rcases k.new a z with z | z
  ·exact n z
  ·rw [h] at z;cases z
 ·refine ⟨fun z=>?_,.inr ⟨o,k.keep _ _ h n⟩⟩
  rcases k.new a z with z | z
  ·exact n z
  ·rw [h] at z;cases z
section
variable {K:PySem.W.Frag} {H H':Hp} {O O':Addr→Prop}
mutual
theorem Rp.step (k:Kp O O' H H'):∀{t:T} {v:V},Rp K H O t v→Rp K H' O' t v
 | .non,_,h=>h
 | .bl _,_,h=>h
 | .int _,_,h=>h
 | .str _,_,h=>h
 | .tup xs,v,h=>by
  obtain ⟨a,vs,e,h1,h2⟩:=h
  exact ⟨a,vs,e,h1.imp (Rd.step k) id,Rps.step k h2⟩
 | .lst xs,v,h=>by
  obtain ⟨a,vs,e,h1,h2⟩:=h
  exact ⟨a,vs,e,h1.imp (Rd.step k) id,Rps.step k h2⟩
theorem Rps.step (k:Kp O O' H H'):∀{xs:List T} {vs:List V},Rps K H O xs vs→Rps K H' O' xs vs
 | [],_,h=>h
 | x::xs,vs,h=>by
  obtain ⟨v,r,e,h1,h2⟩:=h
  exact ⟨v,r,e,Rp.step k h1,Rps.step k h2⟩
end
theorem Kp.refl (O:Addr→Prop) (H:Hp):Kp O O H H:=⟨fun _ _ h _=>h,fun _ h=>.inl h⟩
theorem Kp.less (h:∀b,O' b→O b):Kp O O' H H:=⟨fun _ _ h _=>h,fun _ z=>.inl (h _ z)⟩
theorem Kp.trans {O'':Addr→Prop} {H'':Hp} (a:Kp O O' H H') (b:Kp O' O'' H' H''):Kp O O'' H H'':=by
 refine ⟨fun c o h n=>b.keep c o (a.keep c o h n) fun z=>?_,fun c h=>?_⟩
 ·rcases a.new c z with z | z
  ·exact n z
  ·rw [h] at z;cases z
 ·rcases b.new c h with z | z
  ·exact a.new c z
  ·by_cases n:O c
   ·exact .inl n
   ·right
    cases q:H c with
    | none=>rfl
    | some o=>rw [a.keep c o q n] at z;cases z
theorem Kp.upd {a:Addr} {o:HO} (h:H a=none):Kp O O H (upd H a o):=⟨fun b u e _=>by rw [upd_ne (ne_of_none e h)];exact e,fun _ z=>.inl z⟩
theorem Rps.length:∀{xs:List T} {vs:List V},Rps K H O xs vs→vs.length=xs.length
 | [],_,h=>by cases h;rfl
 | _::_,_,h=>by
  obtain ⟨v,r,e,_,h2⟩:=h
  rw [e,List.length_cons,List.length_cons,Rps.length h2]
theorem Rps.get:∀{xs:List T} {vs:List V} {i:Nat} {x:T},Rps K H O xs vs→xs[i]? = some x→∃v,vs[i]? = some v∧Rp K H O x v
 | [],_,_,_,_,e=>by simp at e
 | _::_,_,0,_,⟨v,r,e,h1,_⟩,q=>by simp at q;subst q;subst e;exact ⟨v,rfl,h1⟩
 | _::_,_,i+1,x,⟨v,r,e,_,h2⟩,q=>by
  obtain ⟨w,q1,q2⟩:=Rps.get (i:=i) (x:=x) h2 (by simpa using q)
  subst e
  exact ⟨w,by simpa using q1,q2⟩
theorem Rps.append:∀{xs ys:List T} {vs ws:List V},Rps K H O xs vs→Rps K H O ys ws→Rps K H O (xs++ys) (vs++ws)
 | [],_,_,_,h,k=>by cases h;exact k
 | _::_,_,_,_,⟨v,r,e,h1,h2⟩,k=>by subst e;exact ⟨v,_,rfl,h1,Rps.append h2 k⟩
theorem Rps.set {x:T} {v:V} (h:Rp K H O x v):∀{xs:List T} {vs:List V} (i:Nat),Rps K H O xs vs→Rps K H O (xs.set i x) (vs.set i v)
 | [],_,_,k=>by cases k;exact rfl
 | _::_,_,0,⟨u,r,e,h1,h2⟩=>by subst e;exact ⟨v,_,rfl,h,h2⟩
 | _::_,_,i+1,⟨u,r,e,h1,h2⟩=>by subst e;exact ⟨u,_,rfl,h1,Rps.set h i h2⟩
theorem Rps.take:∀{xs:List T} {vs:List V} (n:Nat),Rps K H O xs vs→Rps K H O (xs.take n) (vs.take n)
 | _,_,0,_=>by simp [Rps]
 | [],_,_+1,h=>by cases h;exact rfl
 | _::_,_,n+1,⟨v,r,e,h1,h2⟩=>by subst e;exact ⟨v,_,rfl,h1,Rps.take n h2⟩
theorem Rps.drop:∀{xs:List T} {vs:List V} (n:Nat),Rps K H O xs vs→Rps K H O (xs.drop n) (vs.drop n)
 | _,_,0,h=>h
 | [],_,_+1,h=>by cases h;exact rfl
 | _::_,_,n+1,⟨v,r,e,h1,h2⟩=>by subst e;exact Rps.drop n h2
theorem Rps.reverse:∀{xs:List T} {vs:List V},Rps K H O xs vs→Rps K H O xs.reverse vs.reverse
 | [],_,h=>by cases h;exact rfl
 | _::_,_,⟨v,r,e,h1,h2⟩=>by
  subst e
  rw [List.reverse_cons,List.reverse_cons]
  exact (Rps.reverse h2).append ⟨v,[],rfl,h1,rfl⟩
theorem Rp.sqT {xs:List T} {v:V} (h:Rp K H O (.tup xs) v):∃a vs,v = .ref a∧SqT K H a vs∧Rps K H O xs vs:=by
 obtain ⟨a,vs,e,h1,h2⟩:=h
 exact ⟨a,vs,e,h1.imp And.right id,h2⟩
theorem Rp.sqL {xs:List T} {v:V} (h:Rp K H O (.lst xs) v):∃a vs,v = .ref a∧SqL K H a vs∧Rps K H O xs vs:=by
 obtain ⟨a,vs,e,h1,h2⟩:=h
 exact ⟨a,vs,e,h1.imp And.right id,h2⟩
end
def Ow (B:Addr→Prop) (S:St) (E:En) (a:Addr):Prop:=B a∨∃(i:Nat) (k:Bool) (xs:List T),E[i]? = some (some (.o k xs))∧S[i]? = some (some (.ref a))
structure RE (K:PySem.W.Frag) (B:Addr→Prop) (H:Hp) (S:St) (E:En):Prop where
 len:S.length=E.length
 pure:∀(i:Nat) (t:T),E[i]? = some (some (.p t))→∃v,S[i]? = some (some v)∧Rp K H (Ow B S E) t v
 own:∀(i:Nat) (k:Bool) (xs:List T),E[i]? = some (some (.o k xs))→∃a vs,S[i]? = some (some (.ref a))∧H a=some (.lst vs)∧Rps K H (Ow B S E) xs vs∧(k=true↔B a)
 inj:∀(i j:Nat) (k l:Bool) (xs ys:List T) (a:Addr),E[i]? = some (some (.o k xs))→E[j]? = some (some (.o l ys))→S[i]? = some (some (.ref a))→S[j]? = some (some (.ref a))→i=j
 bd:∀a,B a→∃vs,H a=some (.lst vs)
section
variable {K:PySem.W.Frag} {B:Addr→Prop} {H H':Hp} {S S':St} {E E':En}
theorem RE.ow (r:RE K B H S E) {a:Addr} (h:Ow B S E a):∃vs,H a=some (.lst vs):=by
 rcases h with h | ⟨i,k,xs,h1,h2⟩
 ·exact r.bd a h
 obtain ⟨a',vs,h3,h4,_⟩:=r.own i k xs h1
 rw [h2] at h3;cases h3
 exact ⟨vs,h4⟩
theorem RE.nt (r:RE K B H S E) {a:Addr} {vs:List V} (h:H a=some (.tup vs)):¬Ow B S E a:=fun z=>by
 obtain ⟨ws,e⟩:=r.ow z;rw [h] at e;cases e
theorem RE.nn (r:RE K B H S E) {a:Addr} (h:H a=none):¬Ow B S E a:=fun z=>by
 obtain ⟨ws,e⟩:=r.ow z;rw [h] at e;cases e
theorem RE.step (r:RE K B H S E) (k:∀b o,H b=some o→¬Ow B S E b→H' b=some o) (hl:E'.length=E.length)
  (hp:∀(i:Nat) (t:T),E'[i]? = some (some (.p t))→E[i]? = some (some (.p t)))
  (ho:∀(i:Nat) (k:Bool) (xs':List T),E'[i]? = some (some (.o k xs'))→∃xs,E[i]? = some (some (.o k xs))∧∀a,S[i]? = some (some (.ref a))→∃vs,H' a=some (.lst vs)∧Rps K H' (Ow B S E) xs' vs) (hb:∀a,B a→∃vs,H' a=some (.lst vs)):RE K B H' S E':=by
 have ow:∀b,Ow B S E' b→Ow B S E b:=fun b z=>by
  rcases z with z | ⟨i,k,xs,h1,h2⟩
  ·exact .inl z
  obtain ⟨ys,h3,_⟩:=ho i k xs h1
  exact .inr ⟨i,k,ys,h3,h2⟩
 have kp:Kp (Ow B S E) (Ow B S E') H H':=⟨k,fun b z=>.inl (ow b z)⟩
 refine ⟨by rw [hl];exact r.len,fun i t h=>?_,fun i k xs h=>?_,fun i j k l xs ys a h1 h2 h3 h4=>?_,hb⟩
 ·obtain ⟨v,h1,h2⟩:=r.pure i t (hp i t h)
  exact ⟨v,h1,h2.step kp⟩
 ·obtain ⟨ys,h1,h2⟩:=ho i k xs h
  obtain ⟨a,vs,h3,_,_,h6⟩:=r.own i k ys h1
  obtain ⟨ws,h7,h8⟩:=h2 a h3
  exact ⟨a,ws,h3,h7,h8.step (Kp.less ow),h6⟩
 ·obtain ⟨_,q1,_⟩:=ho i k xs h1
  obtain ⟨_,q2,_⟩:=ho j l ys h2
  exact r.inj i j k l _ _ a q1 q2 h3 h4
theorem RE.kept (r:RE K B H S E) (k:∀b o,H b=some o→H' b=some o):RE K B H' S E:=
 r.step (fun b o h _=>k b o h) rfl (fun _ _ h=>h) (fun i l xs h=>⟨xs,h,fun a ha=>by
  obtain ⟨a',vs,h1,h2,h3,_⟩:=r.own i l xs h
  rw [ha] at h1;cases h1
  exact ⟨vs,k _ _ h2,h3.step ⟨fun b o e _=>k b o e,fun b z=>.inl z⟩⟩⟩) (fun a h=>let ⟨vs,q⟩:=r.bd a h;⟨vs,k _ _ q⟩)
theorem RE.take (r:RE K B H S E) (n:Nat):RE K B H (S.take n) (E.take n):=by
 have gE:∀{i:Nat} {x:Option U},(E.take n)[i]? = some x→E[i]? = some x∧i<n:=fun {i x} h=>by
  by_cases c:i<n
  ·rw [List.getElem?_take_of_lt c] at h;exact ⟨h,c⟩
  ·rw [List.getElem?_take_eq_none (by omega)] at h;cases h
 have gS:∀{i:Nat} {x:Option V},i<n→S[i]? = some x→(S.take n)[i]? = some x:=fun {i x} c h=>by rw [List.getElem?_take_of_lt c];exact h
 have gS':∀{i:Nat} {x:Option V},(S.take n)[i]? = some x→S[i]? = some x:=fun {i x} h=>by
  by_cases c:i<n
  ·rw [List.getElem?_take_of_lt c] at h;exact h
  ·rw [List.getElem?_take_eq_none (by omega)] at h;cases h
 have ow:∀b,Ow B (S.take n) (E.take n) b→Ow B S E b:=fun b z=>z.imp id fun ⟨i,k,xs,h1,h2⟩=>⟨i,k,xs,(gE h1).1,gS' h2⟩
 refine ⟨by rw [List.length_take,List.length_take,r.len],fun i t h=>?_,fun i k xs h=>?_,fun i j k l xs ys a h1 h2 h3 h4=>?_,r.bd⟩
 ·obtain ⟨v,h1,h2⟩:=r.pure i t (gE h).1
  exact ⟨v,gS (gE h).2 h1,h2.step (Kp.less ow)⟩
 ·obtain ⟨a,vs,h1,h2,h3,h4⟩:=r.own i k xs (gE h).1
  exact ⟨a,vs,gS (gE h).2 h1,h2,h3.step (Kp.less ow),h4⟩
 ·exact r.inj i j k l xs ys a (gE h1).1 (gE h2).1 (gS' h3) (gS' h4)
end
end L2
set_option Elab.async false
set_option linter.all false
set_option maxRecDepth 100000
set_option maxHeartbeats 4000000
namespace L2
open PySem PySem.Spec PyProof.Rows
def RR (K:PySem.W.Frag) (B:Addr→Prop) (H:Hp) (S:St) (E:En):R→V→Prop
 | .p t,v=>Rp K H (Ow B S E) t v
 | .s i,v=>S[i]? = some (some v)
def RRs (K:PySem.W.Frag) (B:Addr→Prop) (H:Hp) (S:St) (E:En):List R→List V→Prop
 | [],vs=>vs=[]
 | r::rs,vs=>∃v ws,vs=v::ws∧RR K B H S E r v∧RRs K B H S E rs ws
structure Gr (B:Addr→Prop) (H:Hp) (S:St) (E:En) (H':Hp) (S':St) (E':En):Prop where
 kp:Kp (Ow B S E) (Ow B S' E') H H'
 pre:∃τ,S'=S++τ
theorem Gr.refl {B:Addr→Prop} {H:Hp} {S:St} {E:En}:Gr B H S E H S E:=⟨Kp.refl _ _,[],by simp⟩
theorem Gr.trans {B:Addr→Prop} {H H1 H2:Hp} {S S1 S2:St} {E E1 E2:En} (a:Gr B H S E H1 S1 E1) (b:Gr B H1 S1 E1 H2 S2 E2):Gr B H S E H2 S2 E2:=by
 obtain ⟨t,e⟩:=a.pre
 obtain ⟨u,f⟩:=b.pre
 exact ⟨a.kp.trans b.kp,t++u,by rw [f,e,List.append_assoc]⟩
theorem pre_get {S S':St} (h:∃τ,S'=S++τ) {i:Nat} {x:Option V} (e:S[i]? = some x):S'[i]? = some x:=by
 obtain ⟨t,rfl⟩:=h
 rw [List.getElem?_append_left (List.getElem?_eq_some_iff.mp e).1];exact e
section
variable {K:PySem.W.Frag} {B:Addr→Prop} {H H':Hp} {S S':St} {E E':En} {σ:St}
theorem RR.step (g:Gr B H S E H' S' E') {r:R} {v:V} (h:RR K B H S E r v):RR K B H' S' E' r v:=by
 cases r with
 | p t=>exact Rp.step g.kp h
 | s i=>exact pre_get g.pre h
def Lk (K:PySem.W.Frag) (B:Addr→Prop) (H:Hp) (S:St) (E:En) (Q':R→En→Prop) (Q:VK):Prop:=∀r E' v H' S',Q' r E'→Gr B H S E H' S' E'→RE K B H' S' E'→RR K B H' S' E' r v→Q v H'
def LkA (K:PySem.W.Frag) (n:Nat) (B:Addr→Prop) (H:Hp) (S:St) (E:En) (Q':List R→En→Prop) (Q:List V→Hp→Prop):Prop:=∀rs E' vs H' S',Q' rs E'→Gr B H S E H' S' E'→RE K B H' S' E'→RRs K B H' S' E' rs vs→vs.length=n→Q vs H'
theorem Lk.step {Q':R→En→Prop} {Q:VK} (l:Lk K B H S E Q' Q) (g:Gr B H S E H' S' E'):Lk K B H' S' E' Q' Q:=fun r E2 v H2 S2 q g2=>l r E2 v H2 S2 q (g.trans g2)
end
abbrev FE:=En→(R→En→Prop)→Prop
abbrev FA:=En→(List R→En→Prop)→Prop
abbrev FB:=En→(Bool→En→Prop)→Prop
def simE (K:PySem.W.Frag) (F:FE):TE:=fun σ H Q=>∃B S E Q',(∃τ,S=σ++τ)∧RE K B H S E∧F E Q'∧Lk K B H S E Q' Q
def simA (K:PySem.W.Frag) (n:Nat) (F:FA):TA:=fun σ H Q=>∃B S E Q',(∃τ,S=σ++τ)∧RE K B H S E∧F E Q'∧LkA K n B H S E Q' Q
def simB (K:PySem.W.Frag) (F:FB):TT:=fun σ H Q=>∃B S E Q',(∃τ,S=σ++τ)∧RE K B H S E∧F E Q'∧∀b E' H' S',Q' b E'→Gr B H S E H' S' E'→RE K B H' S' E'→Q b H'
section
variable {X:Cx} {e:Expr} {es:List Expr}
theorem QE.le {t t':TE} (h:QE X e t) (m:∀σ H Q,σ.length=X.N.length→t' σ H Q→t σ H Q):QE X e t':=⟨fun pins s σ H Q I z=>h.h pins s σ H Q I (m σ H Q I.len z)⟩
theorem QA.le {t t':TA} (h:QA X es t) (m:∀σ H Q,t' σ H Q→t σ H Q):QA X es t':=⟨fun pos pins s σ H Q I z=>h.h pos pins s σ H Q I (m σ H Q z)⟩
theorem QT.le {t t':TT} (h:QT X e t) (m:∀σ H Q,t' σ H Q→t σ H Q):QT X e t':=⟨fun pins s σ H Q I z=>h.h pins s σ H Q I (m σ H Q z)⟩
theorem QW.le {t t':TT} (h:QW X e t) (m:∀σ H Q,t' σ H Q→t σ H Q):QW X e t':=⟨fun wh pins s σ H Q I z=>h.h wh pins s σ H Q I (m σ H Q z)⟩
end
def vl (E:En):R→Option T
 | .p t=>some t
 | .s i=>match E[i]? with
  | some (some (.o _ xs))=>some (.lst xs)
  | some (some (.p t))=>some t
  | _=>none
def Rt (K:PySem.W.Frag) (H:Hp) (O:Addr→Prop):T→V→Prop
 | .tup xs,v=>∃a vs,v = .ref a∧SqT K H a vs∧Rps K H O xs vs
 | .lst xs,v=>∃a vs,v = .ref a∧SqL K H a vs∧Rps K H O xs vs
 | t,v=>Rp K H O t v
theorem Rp.rt {K:PySem.W.Frag} {H:Hp} {O:Addr→Prop} {t:T} {v:V} (h:Rp K H O t v):Rt K H O t v:=by
 cases t with
 | tup xs=>exact h.sqT
 | lst xs=>exact h.sqL
 | non=>exact h
 | bl _=>exact h
 | int _=>exact h
 | str _=>exact h
section
variable {K:PySem.W.Frag} {B:Addr→Prop} {H H':Hp} {S S':St} {E E':En} {σ:St}
theorem RE.vl (re:RE K B H S E) {r:R} {v:V} {t:T} (h:RR K B H S E r v) (e:vl E r=some t):Rt K H (Ow B S E) t v:=by
 cases r with
 | p u=>cases e;exact Rp.rt h
 | s i=>
  cases q:E[i]? with
  | none=>simp only [L2.vl,q] at e;cases e
  | some u=>
   cases u with
   | none=>simp only [L2.vl,q] at e;cases e
   | some u=>
    cases u with
    | p u=>
     simp only [L2.vl,q] at e
     cases e
     obtain ⟨w,h1,h2⟩:=re.pure i _ q
     have h':S[i]? = some (some v):=h
     rw [h'] at h1;cases h1
     exact h2.rt
    | o k xs=>
     simp only [L2.vl,q] at e
     cases e
     obtain ⟨a,vs,h1,h2,h3,_⟩:=re.own i k xs q
     have h':S[i]? = some (some v):=h
     rw [h'] at h1;cases h1
     exact ⟨a,vs,rfl,SqL.of h2,h3⟩
theorem RE.int (re:RE K B H S E) {r:R} {v:V} {i:Int} (h:RR K B H S E r v) (e:L2.vl E r=some (.int i)):v = .int i:=re.vl h e
theorem RE.bl (re:RE K B H S E) {r:R} {v:V} {b:Bool} (h:RR K B H S E r v) (e:L2.vl E r=some (.bl b)):v = .bl b:=re.vl h e
theorem RE.tup (re:RE K B H S E) {p:Addr} {ts:List T} {vs:List V} (hp:H p=none) (h:Rps K H (Ow B S E) ts vs) :
  Gr B H S E (upd H p (.tup vs)) S E∧RE K B (upd H p (.tup vs)) S E∧Rp K (upd H p (.tup vs)) (Ow B S E) (.tup ts) (.ref p):=by
 have k:Kp (Ow B S E) (Ow B S E) H (upd H p (.tup vs)):=Kp.upd hp
 exact ⟨⟨k,[],by simp⟩,re.kept fun b o e=>by rw [upd_ne (ne_of_none e hp)];exact e,p,vs,rfl,.inl ⟨re.nn hp,.inl upd_same⟩,h.step k⟩
theorem get_push {α:Type} {xs:List α} {x:α} {i:Nat} {y:α} (h:(xs++[x])[i]? = some y):(i<xs.length∧xs[i]? = some y)∨(i=xs.length∧y=x):=by
 rcases Nat.lt_or_ge i xs.length with c | c
 ·rw [List.getElem?_append_left c] at h;exact .inl ⟨c,h⟩
 ·rw [List.getElem?_append_right c] at h
  have:i-xs.length=0:=by
   rcases Nat.eq_zero_or_pos (i-xs.length) with z | z
   ·exact z
   ·rw [List.getElem?_eq_none (by simp;omega)] at h;cases h
  rw [this] at h
  simp at h
  exact .inr ⟨by omega,h.symm⟩
theorem get_last {α:Type} {xs:List α} {x:α}:(xs++[x])[xs.length]? = some x:=by simp
theorem RE.lst (re:RE K B H S E) {p:Addr} {ts:List T} {vs:List V} (hp:H p=none) (h:Rps K H (Ow B S E) ts vs) :
  Gr B H S E (upd H p (.lst vs)) (S++[some (.ref p)]) (E++[some (.o false ts)])∧RE K B (upd H p (.lst vs)) (S++[some (.ref p)]) (E++[some (.o false ts)]):=by
 have gE:∀{i:Nat} {u:U},(E++[some (.o false ts)])[i]? = some (some u)→(E[i]? = some (some u)∧i<E.length)∨(i=E.length∧u = .o false ts):=fun {i u} h=>by
  rcases get_push h with ⟨c,h⟩ | ⟨c,h⟩
  ·exact .inl ⟨h,c⟩
  ·exact .inr ⟨c,Option.some.inj h⟩
 have gS:∀{i:Nat} {x:Option V},S[i]? = some x→(S++[some (.ref p)])[i]? = some x:=fun {i x} h=>pre_get ⟨_,rfl⟩ h
 have gS':∀{i:Nat} {x:Option V},i<E.length→(S++[some (.ref p)])[i]? = some x→S[i]? = some x:=fun {i x} c h=>by
  rw [List.getElem?_append_left (by rw [re.len];exact c)] at h;exact h
 have lS:(S++[some (.ref p)])[E.length]? = some (some (.ref p)):=by rw [←re.len];simp
 have ow:∀b,Ow B (S++[some (.ref p)]) (E++[some (.o false ts)]) b→Ow B S E b∨H b=none:=fun b z=>by
  rcases z with z | ⟨i,k,xs,h1,h2⟩
  ·exact .inl (.inl z)
  rcases gE h1 with ⟨h1,c⟩ | ⟨c,h1⟩
  ·exact .inl (.inr ⟨i,k,xs,h1,gS' c h2⟩)
  ·subst c;rw [lS] at h2;cases h2;exact .inr hp
 have k:Kp (Ow B S E) (Ow B (S++[some (.ref p)]) (E++[some (.o false ts)])) H (upd H p (.lst vs)):=⟨fun b o e _=>by rw [upd_ne (ne_of_none e hp)];exact e,ow⟩
 refine ⟨⟨k,_,rfl⟩,⟨by simp [re.len],fun i t h=>?_,fun i l xs h=>?_,fun i j l m xs ys a h1 h2 h3 h4=>?_,fun a h=>?_⟩⟩
 ·rcases gE h with ⟨h,c⟩ | ⟨c,h⟩
  ·obtain ⟨v,h1,h2⟩:=re.pure i t h
   exact ⟨v,gS h1,h2.step k⟩
  ·cases h
 ·rcases gE h with ⟨h,c⟩ | ⟨c,h⟩
  ·obtain ⟨a,ws,h1,h2,h3,h4⟩:=re.own i l xs h
   exact ⟨a,ws,gS h1,by rw [upd_ne (ne_of_none h2 hp)];exact h2,h3.step k,h4⟩
  ·cases h
   subst c
   refine ⟨p,vs,lS,upd_same,?_,⟨fun z=>absurd z (by decide),fun z=>absurd (.inl z) (re.nn hp)⟩⟩
   exact Rps.step k (by assumption)
 ·rcases gE h1 with ⟨h1,c1⟩ | ⟨c1,h1⟩
  ·rcases gE h2 with ⟨h2,c2⟩ | ⟨c2,h2⟩
   ·exact re.inj i j l m xs ys a h1 h2 (gS' c1 h3) (gS' c2 h4)
   ·subst c2
    rw [lS] at h4;cases h4
    exact absurd (.inr ⟨i,l,xs,h1,gS' c1 h3⟩) (re.nn hp)
  ·rcases gE h2 with ⟨h2,c2⟩ | ⟨c2,h2⟩
   ·subst c1
    rw [lS] at h3;cases h3
    exact absurd (.inr ⟨j,m,ys,h2,gS' c2 h4⟩) (re.nn hp)
   ·rw [c1,c2]
 ·obtain ⟨us,q⟩:=re.bd a h
  exact ⟨us,by rw [upd_ne (ne_of_none q hp)];exact q⟩
end
section
variable {X:Cx} {K:PySem.W.Frag} {pos:Pos} {a b c e:Expr} {es rest:List Expr} {Fa Fb Fc:FE} {Fr:FA} {Fp Fq:FB}
def fVar (i:Nat):FE:=fun E Q=>match E[i]? with
 | some (some (.p t))=>Q (.p t) E
 | some (some (.o _ _))=>Q (.s i) E
 | _=>False
def fC (t:T):FE:=fun E Q=>Q (.p t) E
theorem fv (i:Nat) {x:Str} (hN:X.N[i]? = some x:=by rfl) (hv:Vis X.env.scope x:=by first | exact Or.inl rfl | exact Or.inr (Or.inl rfl) | exact Or.inr (Or.inr rfl)) (hd:(x==("__debug__":Str))=false:=by decide)
  (hcd:(x==("__classdict__":Str))=false:=by decide):QE X (.Name x pos) (simE K (fVar i)):=by
 refine (qv i hN hv hd hcd).le fun σ H Q hl ⟨B,S,E,Q',hS,re,hF,lk⟩=>?_
 have hi:i<σ.length:=by rw [hl];exact (List.getElem?_eq_some_iff.mp hN).1
 obtain ⟨τ,rfl⟩:=hS
 have back:∀{v},(σ++τ)[i]? = some (some v)→σ[i]? = some (some v):=fun h=>by rw [List.getElem?_append_left hi] at h;exact h
 unfold fVar at hF
 split at hF
 ·rename_i t q
  obtain ⟨v,h1,h2⟩:=re.pure i t q
  exact ⟨v,back h1,lk _ _ _ _ _ hF .refl re h2⟩
 ·rename_i k xs q
  obtain ⟨p,vs,h1,_⟩:=re.own i k xs q
  exact ⟨_,back h1,lk _ _ _ _ _ hF .refl re h1⟩
 ·exact hF.elim
theorem fe_c {v:V} {t:T} (h:QE X e (tC v)) (hv:∀K H O,Rp K H O t v):QE X e (simE K (fC t)):=h.le fun σ H Q hl ⟨B,S,E,Q',hS,re,hF,lk⟩=>lk _ _ _ _ _ hF .refl re (hv _ _ _)
theorem fe_int {i j pos}:QE X (.Constant (.int i) j pos) (simE K (fC (.int i))):=fe_c qe_int fun _ _ _=>rfl
theorem fe_bl {b j pos}:QE X (.Constant (.bool b) j pos) (simE K (fC (.bl b))):=fe_c qe_bl fun _ _ _=>rfl
theorem fe_non {j pos}:QE X (.Constant .none j pos) (simE K (fC .non)):=fe_c qe_non fun _ _ _=>rfl
theorem fe_str {x j pos}:QE X (.Constant (.str x) j pos) (simE K (fC (.str x))):=fe_c qe_str fun _ _ _=>rfl
theorem two {G:R→R→En→(R→En→Prop)→Prop} {σ:St} {H:Hp} {Q:VK} (h:simE K (fun E Q=>Fa E fun x E1=>Fb E1 fun y E2=>G x y E2 Q) σ H Q) {P:V→V→Hp→Prop}
  (k:∀B S E x y v w H2 Q',(∃τ,S=σ++τ)→RE K B H2 S E→RR K B H2 S E x v→RR K B H2 S E y w→G x y E Q'→Lk K B H2 S E Q' Q→P v w H2):simE K Fa σ H fun v H1=>simE K Fb σ H1 fun w H2=>P v w H2:=by
 obtain ⟨B,S,E,Q',⟨τ,hS⟩,re,hF,lk⟩:=h
 refine ⟨B,S,E,_,⟨τ,hS⟩,re,hF,fun r E1 v H1 S1 q g re1 rr=>?_⟩
 obtain ⟨τ1,hS1⟩:=g.pre
 refine ⟨B,S1,E1,_,⟨τ++τ1,by rw [hS1,hS,List.append_assoc]⟩,re1,q,fun r2 E2 w H2 S2 q2 g2 re2 rr2=>?_⟩
 obtain ⟨τ2,hS2⟩:=g2.pre
 exact k B S2 E2 r r2 v w H2 Q' ⟨τ++τ1++τ2,by rw [hS2,hS1,hS,List.append_assoc,List.append_assoc,List.append_assoc]⟩ re2 (rr.step g2) rr2 q2 (lk.step (g.trans g2))
theorem one {G:R→En→(R→En→Prop)→Prop} {σ:St} {H:Hp} {Q:VK} (h:simE K (fun E Q=>Fa E fun x E1=>G x E1 Q) σ H Q) {P:V→Hp→Prop}
  (k:∀B S E x v H2 Q',(∃τ,S=σ++τ)→RE K B H2 S E→RR K B H2 S E x v→G x E Q'→Lk K B H2 S E Q' Q→P v H2):simE K Fa σ H fun v H1=>P v H1:=by
 obtain ⟨B,S,E,Q',⟨τ,hS⟩,re,hF,lk⟩:=h
 refine ⟨B,S,E,_,⟨τ,hS⟩,re,hF,fun r E1 v H1 S1 q g re1 rr=>?_⟩
 obtain ⟨τ1,hS1⟩:=g.pre
 exact k B S1 E1 r v H1 Q' ⟨τ++τ1,by rw [hS1,hS,List.append_assoc]⟩ re1 rr q (lk.step g)
def i2 (x y:Option T) (k:Int→Int→Prop):Prop:=match x,y with
 | some (.int i),some (.int j)=>k i j
 | _,_=>False
theorem i2.ex {x y:Option T} {k:Int→Int→Prop} (h:i2 x y k):∃i j,x=some (.int i)∧y=some (.int j)∧k i j:=by
 unfold i2 at h;split at h
 ·exact ⟨_,_,rfl,rfl,h⟩
 ·exact h.elim
def fI (C:Int→Int→Prop) (g:Int→Int→Int) (Fa Fb:FE):FE:=fun E Q=>Fa E fun x E1=>Fb E1 fun y E2=>i2 (vl E2 x) (vl E2 y) fun i j=>C i j∧Q (.p (.int (g i j))) E2
def fI0 (g:Int→Int→Int) (Fa Fb:FE):FE:=fun E Q=>Fa E fun x E1=>Fb E1 fun y E2=>i2 (vl E2 x) (vl E2 y) fun i j=>Q (.p (.int (g i j))) E2
def fCp (g:Int→Int→Bool) (Fa Fb:FE):FE:=fun E Q=>Fa E fun x E1=>Fb E1 fun y E2=>i2 (vl E2 x) (vl E2 y) fun i j=>Q (.p (.bl (g i j))) E2
theorem fe_opI {op:Operator} {C:Int→Int→Prop} {g:Int→Int→Int} (ho:OpR X (binaryOp op) (rI C fun i j=>.int (g i j))) (ha:QE X a (simE K Fa)) (hb:QE X b (simE K Fb)):QE X (.BinOp a op b pos) (simE K (fI C g Fa Fb)):=by
 refine (qe_op ho ha hb).le fun σ H Q hl h=>two h fun B S E x y v w H2 Q' hS re rx ry q lk=>?_
 obtain ⟨i,j,e1,e2,c,q⟩:=q.ex
 exact ⟨i,j,re.int rx e1,re.int ry e2,c,lk _ _ _ _ _ q .refl re rfl⟩
theorem fe_opI0 {op:Operator} {g:Int→Int→Int} (ho:OpR X (binaryOp op) (rI0 fun i j=>.int (g i j))) (ha:QE X a (simE K Fa)) (hb:QE X b (simE K Fb)):QE X (.BinOp a op b pos) (simE K (fI0 g Fa Fb)):=by
 refine (qe_op ho ha hb).le fun σ H Q hl h=>two h fun B S E x y v w H2 Q' hS re rx ry q lk=>?_
 obtain ⟨i,j,e1,e2,q⟩:=q.ex
 exact ⟨i,j,re.int rx e1,re.int ry e2,lk _ _ _ _ _ q .refl re rfl⟩
theorem fe_cp {op:CmpOp} {g:Int→Int→Bool} (ho:OpR X (compareOp op) (rI0 fun i j=>.bl (g i j))) (ha:QE X a (simE K Fa)) (hb:QE X b (simE K Fb)) (hm:behindInMarks op b=false):QE X (.Compare a [op] [b] pos) (simE K (fCp g Fa Fb)):=by
 refine (qe_cmpR ho ha hb hm).le fun σ H Q hl h=>two h fun B S E x y v w H2 Q' hS re rx ry q lk=>?_
 obtain ⟨i,j,e1,e2,q⟩:=q.ex
 exact ⟨i,j,re.int rx e1,re.int ry e2,lk _ _ _ _ _ q .refl re rfl⟩
def i1 (x:Option T) (k:Int→Prop):Prop:=match x with
 | some (.int i)=>k i
 | _=>False
theorem i1.ex {x:Option T} {k:Int→Prop} (h:i1 x k):∃i,x=some (.int i)∧k i:=by
 unfold i1 at h;split at h
 ·exact ⟨_,rfl,h⟩
 ·exact h.elim
def b1 (x:Option T) (k:Bool→Prop):Prop:=match x with
 | some (.bl i)=>k i
 | _=>False
theorem b1.ex {x:Option T} {k:Bool→Prop} (h:b1 x k):∃i,x=some (.bl i)∧k i:=by
 unfold b1 at h;split at h
 ·exact ⟨_,rfl,h⟩
 ·exact h.elim
def fNeg (Fa:FE):FE:=fun E Q=>Fa E fun x E1=>i1 (vl E1 x) fun i=>Q (.p (.int (-i))) E1
theorem fe_neg (ha:QE X a (simE K Fa)):QE X (.UnaryOp .USub a pos) (simE K (fNeg Fa)):=by
 refine (qe_un un_neg ha).le fun σ H Q hl h=>one (Fa:=Fa) h fun B S E x v H2 Q' hS re rx q lk=>?_
 obtain ⟨i,e1,q⟩:=q.ex
 exact ⟨i,re.int rx e1,lk _ _ _ _ _ q .refl re rfl⟩
def fNot (Fa:FE):FE:=fun E Q=>Fa E fun x E1=>b1 (vl E1 x) fun i=>Q (.p (.bl (!i))) E1
theorem fe_not (ha:QE X a (simE K Fa)):QE X (.UnaryOp .Not a pos) (simE K (fNot Fa)):=by
 refine (qe_not ha).le fun σ H Q hl h=>one (Fa:=Fa) h fun B S E x v H2 Q' hS re rx q lk=>?_
 obtain ⟨i,e1,q⟩:=q.ex
 exact ⟨i,re.bl rx e1,lk _ _ _ _ _ q .refl re rfl⟩
theorem testB {G:Bool→En→(Bool→En→Prop)→Prop} {σ:St} {H:Hp} {Q:Bool→Hp→Prop} (h:simB K (fun E Q=>Fp E fun x E1=>G x E1 Q) σ H Q) {P:Bool→Hp→Prop}
  (k:∀B S E x H2 Q',(∃τ,S=σ++τ)→RE K B H2 S E→G x E Q'→(∀b E' H' S',Q' b E'→Gr B H2 S E H' S' E'→RE K B H' S' E'→Q b H')→P x H2):simB K Fp σ H P:=by
 obtain ⟨B,S,E,Q',⟨τ,hS⟩,re,hF,lk⟩:=h
 refine ⟨B,S,E,_,⟨τ,hS⟩,re,hF,fun r E1 H1 S1 q g re1=>?_⟩
 obtain ⟨τ1,hS1⟩:=g.pre
 exact k B S1 E1 r H1 Q' ⟨τ++τ1,by rw [hS1,hS,List.append_assoc]⟩ re1 q fun b E2 H2 S2 q2 g2 re2=>lk b E2 H2 S2 q2 (g.trans g2) re2
def bVal (Fa:FE):FB:=fun E Q=>Fa E fun x E1=>b1 (vl E1 x) fun i=>Q i E1
def bNot (Fp:FB):FB:=fun E Q=>Fp E fun x E1=>Q (!x) E1
def bAnd (Fp Fq:FB):FB:=fun E Q=>Fp E fun x E1=>if x=true then Fq E1 Q else Q false E1
def bOr (Fp Fq:FB):FB:=fun E Q=>Fp E fun x E1=>if x=true then Q true E1 else Fq E1 Q
theorem b_of {σ:St} {H:Hp} {Q:Bool→Hp→Prop} (h:simB K (bVal Fa) σ H Q):simE K Fa σ H fun v H1=>∃c,v = .bl c∧Q c H1:=by
 obtain ⟨B,S,E,Q',⟨τ,hS⟩,re,hF,lk⟩:=h
 refine ⟨B,S,E,_,⟨τ,hS⟩,re,hF,fun r E1 v H1 S1 q g re1 rr=>?_⟩
 obtain ⟨i,e1,q⟩:=q.ex
 exact ⟨i,re1.bl rr e1,lk _ _ _ _ q g re1⟩
theorem ft_val (h:QE X e (simE K Fa)) (he:∀whole,isTrue e X.env whole=(do let v ←whole;standAt e.pos;holding [v] (truthy v)):=by intro _;rfl):QT X e (simB K (bVal Fa)):=(qt_val h he).le fun σ H Q z=>b_of z
theorem ft_not (ha:QT X a (simB K Fp)):QT X (.UnaryOp .Not a pos) (simB K (bNot Fp)):=(qt_not ha).le fun σ H Q h=>testB (Fp:=Fp) h fun B S E x H2 Q' hS re q lk=>lk _ _ _ _ q .refl re
theorem fw_and1 (ha:QT X a (simB K Fp)):QW X (.BoolOp .And [a] pos) (simB K Fp):=qw_and1 ha
theorem fw_or1 (ha:QT X a (simB K Fp)):QW X (.BoolOp .Or [a] pos) (simB K Fp):=qw_or1 ha
theorem fw_and (ha:QT X a (simB K Fp)) (hb:QW X (.BoolOp .And (b::rest) pos) (simB K Fq)):QW X (.BoolOp .And (a::b::rest) pos) (simB K (bAnd Fp Fq)):=by
 refine (qw_and ha hb).le fun σ H Q h=>testB (Fp:=Fp) h fun B S E x H2 Q' hS re q lk=>?_
 cases x
 ·exact lk _ _ _ _ q .refl re
 ·exact ⟨B,S,E,Q',hS,re,q,lk⟩
theorem fw_or (ha:QT X a (simB K Fp)) (hb:QW X (.BoolOp .Or (b::rest) pos) (simB K Fq)):QW X (.BoolOp .Or (a::b::rest) pos) (simB K (bOr Fp Fq)):=by
 refine (qw_or ha hb).le fun σ H Q h=>testB (Fp:=Fp) h fun B S E x H2 Q' hS re q lk=>?_
 cases x
 ·exact ⟨B,S,E,Q',hS,re,q,lk⟩
 ·exact lk _ _ _ _ q .refl re
theorem ft_w (h:QW X e (simB K Fp)):QT X e (simB K Fp):=qt_w h
def fAnd (Fa Fb:FE):FE:=fun E Q=>Fa E fun x E1=>b1 (vl E1 x) fun i=>if i=true then Fb E1 Q else Q (.p (.bl false)) E1
def fOr (Fa Fb:FE):FE:=fun E Q=>Fa E fun x E1=>b1 (vl E1 x) fun i=>if i=true then Q (.p (.bl true)) E1 else Fb E1 Q
theorem fe_and (ha:QE X a (simE K Fa)) (hb:QE X (.BoolOp .And (b::rest) pos) (simE K Fb)):QE X (.BoolOp .And (a::b::rest) pos) (simE K (fAnd Fa Fb)):=by
 refine (qe_and ha hb).le fun σ H Q hl h=>one (Fa:=Fa) h fun B S E x v H2 Q' hS re rx q lk=>?_
 obtain ⟨i,e1,q⟩:=q.ex
 refine ⟨i,re.bl rx e1,?_⟩
 cases i
 ·exact lk _ _ _ _ _ q .refl re rfl
 ·exact ⟨B,S,E,Q',hS,re,q,lk⟩
theorem fe_or (ha:QE X a (simE K Fa)) (hb:QE X (.BoolOp .Or (b::rest) pos) (simE K Fb)):QE X (.BoolOp .Or (a::b::rest) pos) (simE K (fOr Fa Fb)):=by
 refine (qe_or ha hb).le fun σ H Q hl h=>one (Fa:=Fa) h fun B S E x v H2 Q' hS re rx q lk=>?_
 obtain ⟨i,e1,q⟩:=q.ex
 refine ⟨i,re.bl rx e1,?_⟩
 cases i
 ·exact ⟨B,S,E,Q',hS,re,q,lk⟩
 ·exact lk _ _ _ _ _ q .refl re rfl
theorem fe_one {op} (h:QE X a (simE K Fa)):QE X (.BoolOp op [a] pos) (simE K Fa):=qe_one h
def fIf (Fp:FB) (Fa Fb:FE):FE:=fun E Q=>Fp E fun x E1=>if x=true then Fa E1 Q else Fb E1 Q
theorem fe_if (hc:QT X c (simB K Fp)) (ha:QE X a (simE K Fa)) (hb:QE X b (simE K Fb)):QE X (.IfExp c a b pos) (simE K (fIf Fp Fa Fb)):=by
 refine (qe_ifExp hc ha hb).le fun σ H Q hl ⟨B,S,E,Q',⟨τ,hS⟩,re,hF,lk⟩=>?_
 refine ⟨B,S,E,_,⟨τ,hS⟩,re,hF,fun r E1 H1 S1 q g re1=>?_⟩
 obtain ⟨τ1,hS1⟩:=g.pre
 have hp:∃t,S1=σ++t:=⟨τ++τ1,by rw [hS1,hS,List.append_assoc]⟩
 cases r
 ·exact ⟨B,S1,E1,Q',hp,re1,q,lk.step g⟩
 ·exact ⟨B,S1,E1,Q',hp,re1,q,lk.step g⟩
def aNil:FA:=fun E Q=>Q [] E
def aCons (Fa:FE) (Fr:FA):FA:=fun E Q=>Fa E fun r E1=>Fr E1 fun rs E2=>Q (r::rs) E2
theorem fa_nil:QA X [] (simA K 0 aNil):=qa_nil.le fun σ H Q ⟨B,S,E,Q',hS,re,hF,lk⟩=>lk _ _ _ _ _ hF .refl re rfl rfl
theorem fc {n:Nat} (ha:QE X e (simE K Fa)) (hr:QA X es (simA K n Fr)) (hs:isStar e=false:=by rfl):QA X (e::es) (simA K (n+1) (aCons Fa Fr)):=by
 refine (qc ha hr hs).le fun σ H Q ⟨B,S,E,Q',⟨τ,hS⟩,re,hF,lk⟩=>?_
 refine ⟨B,S,E,_,⟨τ,hS⟩,re,hF,fun r E1 v H1 S1 q g re1 rr=>?_⟩
 obtain ⟨τ1,hS1⟩:=g.pre
 exact ⟨B,S1,E1,_,⟨τ++τ1,by rw [hS1,hS,List.append_assoc]⟩,re1,q,fun rs E2 vs H2 S2 q2 g2 re2 rr2 hn=>lk _ _ _ _ _ q2 (g.trans g2) re2 ⟨v,vs,rfl,rr.step g2,rr2⟩ (by rw [List.length_cons,hn])⟩
theorem args {n:Nat} {G:List R→En→(R→En→Prop)→Prop} {σ:St} {H:Hp} {Q:VK} (h:simE K (fun E Q=>Fr E fun rs E1=>G rs E1 Q) σ H Q) {P:List V→Hp→Prop}
  (k:∀B S E rs vs H2 Q',(∃τ,S=σ++τ)→RE K B H2 S E→RRs K B H2 S E rs vs→vs.length=n→G rs E Q'→Lk K B H2 S E Q' Q→P vs H2):simA K n Fr σ H P:=by
 obtain ⟨B,S,E,Q',⟨τ,hS⟩,re,hF,lk⟩:=h
 refine ⟨B,S,E,_,⟨τ,hS⟩,re,hF,fun r E1 v H1 S1 q g re1 rr hn=>?_⟩
 obtain ⟨τ1,hS1⟩:=g.pre
 exact k B S1 E1 r v H1 Q' ⟨τ++τ1,by rw [hS1,hS,List.append_assoc]⟩ re1 rr hn q (lk.step g)
def pures:List R→Option (List T)
 | []=>some []
 | .p t::rs=>(pures rs).map (t::·)
 | _=>none
theorem pures_rp {B:Addr→Prop} {H:Hp} {S:St} {E:En}:∀{rs:List R} {vs:List V} {ts:List T},RRs K B H S E rs vs→pures rs=some ts→Rps K H (Ow B S E) ts vs
 | [],_,_,h,e=>by cases e;exact h
 | .p t::rs,_,ts,⟨v,ws,e1,h1,h2⟩,e=>by
  cases q:pures rs with
  | none=>rw [pures,q] at e;cases e
  | some us=>
   rw [pures,q] at e
   cases e
   exact ⟨v,ws,e1,h1,pures_rp h2 q⟩
 | .s _::_,_,_,_,e=>by cases e
def o1 {α:Type} (x:Option α) (k:α→Prop):Prop:=match x with
 | some y=>k y
 | none=>False
theorem o1.ex {α:Type} {x:Option α} {k:α→Prop} (h:o1 x k):∃y,x=some y∧k y:=by
 cases x with
 | none=>exact h.elim
 | some y=>exact ⟨y,rfl,h⟩
def fTup (Fr:FA):FE:=fun E Q=>Fr E fun rs E1=>o1 (pures rs) fun ts=>Q (.p (.tup ts)) E1
def fLst (Fr:FA):FE:=fun E Q=>Fr E fun rs E1=>o1 (pures rs) fun ts=>Q (.s E1.length) (E1++[some (.o false ts)])
theorem fe_tup {x1} {n:Nat} (h:QA X es (simA K n Fr)) (hz:n≤1000:=by decide):QE X (.Tuple es x1 pos) (simE K (fTup Fr)):=by
 refine (qe_tup h).le fun σ H Q hl h=>args (Fr:=Fr) h fun B S E rs vs H2 Q' hS re rr hn q lk=>⟨by rw [hn];exact Nat.le_of_lt (small1000 hz),fun p hp=>?_⟩
 obtain ⟨ts,e,q⟩:=q.ex
 obtain ⟨g,re',rp⟩:=re.tup hp (pures_rp rr e)
 exact lk _ _ _ _ _ q g re' rp
theorem fe_lst {n:Nat} (h:QA X es (simA K n Fr)) (hz:n≤1000:=by decide):QE X (.List es pos) (simE K (fLst Fr)):=by
 refine (qe_lst h).le fun σ H Q hl h=>args (Fr:=Fr) h fun B S E rs vs H2 Q' hS re rr hn q lk=>⟨by rw [hn];exact Nat.le_of_lt (small1000 hz),fun p hp=>?_⟩
 obtain ⟨ts,e,q⟩:=q.ex
 obtain ⟨g,re'⟩:=re.lst hp (pures_rp rr e)
 exact lk _ _ _ _ _ q g re' (by rw [←re.len];exact get_last)
def seqT:T→Option (List T)
 | .tup xs=>some xs
 | .lst xs=>some xs
 | _=>none
def ix2 (x y:Option T) (k:T→Prop):Prop:=match x,y with
 | some (.tup xs),some (.int i)=>o1 (atI xs i) k
 | some (.lst xs),some (.int i)=>o1 (atI xs i) k
 | _,_=>False
theorem atI_rp {H:Hp} {O:Addr→Prop} {xs:List T} {vs:List V} {i:Int} {t:T} (h:Rps K H O xs vs) (e:atI xs i=some t):∃v,atI vs i=some v∧Rp K H O t v:=by
 unfold atI at e ⊢
 rw [h.length]
 cases q:ixN xs.length i with
 | none=>rw [q] at e;cases e
 | some j=>rw [q] at e;exact h.get e
def fIx (Fa Fb:FE):FE:=fun E Q=>Fa E fun x E1=>Fb E1 fun y E2=>ix2 (vl E2 x) (vl E2 y) fun t=>Q (.p t) E2
theorem fe_ix (eK:X.K=K) (ha:QE X a (simE K Fa)) (hb:QE X b (simE K Fb)) (hs:PlainIx b):QE X (.Subscript a b pos) (simE K (fIx Fa Fb)):=by
 subst eK
 refine (qe_ix ix_seq ha hb hs).le fun σ H Q hl h=>two (Fa:=Fa) (Fb:=Fb) h fun B S E x y v w H2 Q' hS re rx ry q lk=>?_
 unfold ix2 at q
 split at q
 ·rename_i xs i e1 e2
  obtain ⟨t,e3,q⟩:=q.ex
  obtain ⟨p,vs,rfl,sq,rs⟩:=re.vl rx e1
  obtain ⟨u,h1,h2⟩:=atI_rp rs e3
  exact .inr (.inl ⟨p,vs,i,u,rfl,re.int ry e2,sq,h1,lk _ _ _ _ _ q .refl re h2⟩)
 ·rename_i xs i e1 e2
  obtain ⟨t,e3,q⟩:=q.ex
  obtain ⟨p,vs,rfl,sq,rs⟩:=re.vl rx e1
  obtain ⟨u,h1,h2⟩:=atI_rp rs e3
  exact .inl ⟨p,vs,i,u,rfl,re.int ry e2,sq,h1,lk _ _ _ _ _ q .refl re h2⟩
 ·exact q.elim
def fLen (Fr:FA):FE:=fun E Q=>Fr E fun rs E1=>match rs with
 | [x]=>o1 ((vl E1 x).bind seqT) fun xs=>Q (.p (.int xs.length)) E1
 | _=>False
theorem fe_len {n:Nat} {p:Pos} (eK:X.K=K) (hg:Gl X "len") (hm:X.mg "len" = none) (ha:QA X (e::es) (simA K n Fr)) (hs:noStar (e::es)=true:=by rfl):QE X (.Call (.Name "len" p) (e::es) [] pos) (simE K (fLen Fr)):=by
 subst eK
 refine (qe_callBS call_len_seq hg hm PySem.boot_len ha (by decide) (by decide) hs).le fun σ H Q hl h=>args (Fr:=Fr) h fun B S E rs vs H2 Q' hS re rr hn q lk=>?_
 match rs,rr,q with
 | [x],⟨v,ws,e1,h1,h2⟩,q=>
  cases h2;subst e1
  obtain ⟨xs,e2,q⟩:=o1.ex q
  obtain ⟨t,e3,e2⟩:=Option.bind_eq_some_iff.mp e2
  have rt:=re.vl h1 e3
  cases t with
  | tup ys=>
   cases e2
   obtain ⟨p,us,rfl,sq,rs⟩:=rt
   exact ⟨p,us,rfl,.inr sq,by rw [rs.length];exact lk _ _ _ _ _ q .refl re rfl⟩
  | lst ys=>
   cases e2
   obtain ⟨p,us,rfl,sq,rs⟩:=rt
   exact ⟨p,us,rfl,.inl sq,by rw [rs.length];exact lk _ _ _ _ _ q .refl re rfl⟩
  | _=>cases e2
 | [],_,q=>exact q.elim
 | _::_::_,_,q=>exact q.elim
def fAbs (Fr:FA):FE:=fun E Q=>Fr E fun rs E1=>match rs with
 | [x]=>i1 (vl E1 x) fun i=>Q (.p (.int (i.natAbs:Int))) E1
 | _=>False
theorem fe_abs {n:Nat} {p:Pos} (hg:Gl X "abs") (hm:X.mg "abs" = none) (ha:QA X (e::es) (simA K n Fr)) (hs:noStar (e::es)=true:=by rfl):QE X (.Call (.Name "abs" p) (e::es) [] pos) (simE K (fAbs Fr)):=by
 refine (qe_callBS call_absV hg hm boot_abs ha (by decide) (by decide) hs).le fun σ H Q hl h=>args (Fr:=Fr) h fun B S E rs vs H2 Q' hS re rr hn q lk=>?_
 match rs,rr,q with
 | [x],⟨v,ws,e1,h1,h2⟩,q=>
  cases h2;subst e1
  obtain ⟨i,e2,q⟩:=i1.ex q
  exact ⟨i,by rw [re.int h1 e2],lk _ _ _ _ _ q .refl re rfl⟩
 | [],_,q=>exact q.elim
 | _::_::_,_,q=>exact q.elim
def fIntB (Fr:FA):FE:=fun E Q=>Fr E fun rs E1=>match rs with
 | [x]=>b1 (vl E1 x) fun i=>Q (.p (.int (if i then 1 else 0))) E1
 | _=>False
theorem fe_intB {n:Nat} {p:Pos} (hg:Gl X "int") (hm:X.mg "int" = none) (ha:QA X (e::es) (simA K n Fr)) (hs:noStar (e::es)=true:=by rfl):QE X (.Call (.Name "int" p) (e::es) [] pos) (simE K (fIntB Fr)):=by
 refine (qe_callTyS call_intB hg hm (by decide +kernel) ha (by decide) (by decide) hs).le fun σ H Q hl h=>args (Fr:=Fr) h fun B S E rs vs H2 Q' hS re rr hn q lk=>?_
 match rs,rr,q with
 | [x],⟨v,ws,e1,h1,h2⟩,q=>
  cases h2;subst e1
  obtain ⟨i,e2,q⟩:=b1.ex q
  exact ⟨i,by rw [re.bl h1 e2],lk _ _ _ _ _ q .refl re rfl⟩
 | [],_,q=>exact q.elim
 | _::_::_,_,q=>exact q.elim
def fDivmod (Fr:FA):FE:=fun E Q=>Fr E fun rs E1=>match rs with
 | [x,y]=>i2 (vl E1 x) (vl E1 y) fun i j=>(0<j∧j<2^200)∧Q (.p (.tup [.int (i/j),.int (i%j)])) E1
 | _=>False
theorem fe_divmod {n:Nat} {p:Pos} (hg:Gl X "divmod") (hm:X.mg "divmod" = none) (ha:QA X (e::es) (simA K n Fr)) (hs:noStar (e::es)=true:=by rfl):QE X (.Call (.Name "divmod" p) (e::es) [] pos) (simE K (fDivmod Fr)):=by
 refine (qe_callBS call_divmodB hg hm boot_divmod ha (by decide) (by decide) hs).le fun σ H Q hl h=>args (Fr:=Fr) h fun B S E rs vs H2 Q' hS re rr hn q lk=>?_
 match rs,rr,q with
 | [x,y],⟨v,ws,e1,h1,w,ws',e2,h2,h3⟩,q=>
  cases h3;subst e2;subst e1
  obtain ⟨i,j,e3,e4,⟨c1,c2⟩,q⟩:=i2.ex q
  refine ⟨i,j,by rw [re.int h1 e3,re.int h2 e4],c1,c2,fun p hp=>?_⟩
  obtain ⟨g,re',rp⟩:=re.tup (ts:=[.int (i/j),.int (i%j)]) (vs:=[.int (i/j),.int (i%j)]) hp ⟨_,_,rfl,rfl,_,_,rfl,rfl,rfl⟩
  exact lk _ _ _ _ _ q g re' rp
 | [],_,q=>exact q.elim
 | [_],_,q=>exact q.elim
 | _::_::_::_,_,q=>exact q.elim
end
end L2
set_option Elab.async false
set_option linter.all false
set_option maxRecDepth 100000
set_option maxHeartbeats 4000000
namespace L2
open PySem PySem.Spec PyProof.Rows
structure ET where
 nx:En→Prop
 rt:R→En→Prop
 bk:En→Prop:=fun _=>False
 ct:En→Prop:=fun _=>False
abbrev FS:=ET→En→Prop
abbrev Gs (B:Addr→Prop) (H:Hp) (S:St) (E:En) (H':Hp) (S':St) (E':En):Prop:=Kp (Ow B S E) (Ow B S' E') H H'
structure LS (K:PySem.W.Frag) (B:Addr→Prop) (H:Hp) (σ:St) (E:En) (DT:ET) (D:Ends):Prop where
 nx:∀σ' H' E',DT.nx E'→Gs B H σ E H' σ' E'→RE K B H' σ' E'→D.nx σ' H'
 rt:∀r E' v H' S',DT.rt r E'→Gs B H σ E H' S' E'→RE K B H' S' E'→RR K B H' S' E' r v→D.rt v H'
 bk:∀σ' H' E',DT.bk E'→Gs B H σ E H' σ' E'→RE K B H' σ' E'→D.bk σ' H'
 ct:∀σ' H' E',DT.ct E'→Gs B H σ E H' σ' E'→RE K B H' σ' E'→D.ct σ' H'
theorem LS.step {K:PySem.W.Frag} {B:Addr→Prop} {H H':Hp} {σ σ':St} {E E':En} {DT:ET} {D:Ends} (l:LS K B H σ E DT D) (g:Gs B H σ E H' σ' E'):LS K B H' σ' E' DT D:=
 ⟨fun a b c d e=>l.nx a b c d (g.trans e),fun a b c d e f h=>l.rt a b c d e f (g.trans h),fun a b c d e=>l.bk a b c d (g.trans e),fun a b c d e=>l.ct a b c d (g.trans e)⟩
def simS (K:PySem.W.Frag) (F:FS):TS:=fun D σ H=>∃B E DT,RE K B H σ E∧F DT E∧LS K B H σ E DT D
section
variable {X:Cx} {st:Stmt} {sts:List Stmt}
theorem QS.le {t t':TS} (h:QS X st t) (m:∀D σ H,σ.length=X.N.length→t' D σ H→t D σ H):QS X st t':=⟨fun pins s σ H D I z=>h.h pins s σ H D I (m D σ H I.len z)⟩
theorem QB.le {t t':TS} (h:QB X sts t) (m:∀D σ H,t' D σ H→t D σ H):QB X sts t':=⟨fun pins s σ H D I z=>h.h pins s σ H D I (m D σ H z)⟩
theorem QG.le {e:Expr} {t t':TG} (h:QG X e t) (m:∀v σ H Q,σ.length=X.N.length→t' v σ H Q→t v σ H Q):QG X e t':=⟨fun pins s σ H v u Q I r z=>h.h pins s σ H v u Q I r (m v σ H Q I.len z)⟩
theorem QGs.le {es:List Expr} {t t':TGs} (h:QGs X es t) (m:∀v σ H Q,t' v σ H Q→t v σ H Q):QGs X es t':=⟨fun pins s σ H v u Q I r z=>h.h pins s σ H v u Q I r (m v σ H Q z)⟩
theorem QI.le {tg e:Expr} {t t':TI} (h:QI X tg e t) (m:∀σ H Q,σ.length=X.N.length→t' σ H Q→t σ H Q):QI X tg e t':=⟨fun pins s σ H R I z=>h.h pins s σ H R I (m σ H R I.len z)⟩
end
section
variable {K:PySem.W.Frag} {B:Addr→Prop} {H H':Hp} {S S':St} {E E':En} {σ:St}
theorem RE.map (re:RE K B H S E) (hl:S'.length=E'.length) (hp:∀(i:Nat) (t:T),E'[i]? = some (some (.p t))→∃v,S'[i]? = some (some v)∧Rp K H (Ow B S E) t v)
  (f:Nat→Nat) (ho:∀(i:Nat) (k:Bool) (xs:List T),E'[i]? = some (some (.o k xs))→E[f i]? = some (some (.o k xs))∧∃a,S[f i]? = some (some (.ref a))∧S'[i]? = some (some (.ref a)))
  (hf:∀(i j:Nat) (k l:Bool) (xs ys:List T),E'[i]? = some (some (.o k xs))→E'[j]? = some (some (.o l ys))→f i=f j→i=j):RE K B H S' E'∧∀b,Ow B S' E' b→Ow B S E b:=by
 have ow:∀b,Ow B S' E' b→Ow B S E b:=fun b z=>by
  rcases z with z | ⟨i,k,xs,h1,h2⟩
  ·exact .inl z
  obtain ⟨h3,a,h4,h5⟩:=ho i k xs h1
  rw [h2] at h5;cases h5
  exact .inr ⟨f i,k,xs,h3,h4⟩
 refine ⟨⟨hl,fun i t h=>?_,fun i k xs h=>?_,fun i j k l xs ys a h1 h2 h3 h4=>?_,re.bd⟩,ow⟩
 ·obtain ⟨v,h1,h2⟩:=hp i t h
  exact ⟨v,h1,h2.step (Kp.less ow)⟩
 ·obtain ⟨h3,a,h4,h5⟩:=ho i k xs h
  obtain ⟨a',vs,q1,q2,q3,q4⟩:=re.own _ k xs h3
  rw [h4] at q1;cases q1
  exact ⟨a,vs,h5,q2,q3.step (Kp.less ow),q4⟩
 ·obtain ⟨p1,a1,p2,p3⟩:=ho i k xs h1
  obtain ⟨r1,a2,r2,r3⟩:=ho j l ys h2
  rw [h3] at p3;cases p3
  rw [h4] at r3;cases r3
  exact hf i j k l xs ys h1 h2 (re.inj _ _ k l xs ys _ p1 r1 p2 r2)
theorem RE.cut (re:RE K B H' S' E') (hS:∃τ,S'=σ++τ) (hl:σ.length=E.length):RE K B H' σ (E'.take E.length)∧∀b,Ow B σ (E'.take E.length) b→Ow B S' E' b:=by
 obtain ⟨τ,rfl⟩:=hS
 have e:(σ++τ).take E.length=σ:=by rw [←hl];simp
 have:=re.take E.length
 rw [e] at this
 refine ⟨this,fun b z=>?_⟩
 rcases z with z | ⟨i,k,xs,h1,h2⟩
 ·exact .inl z
 have hi:i<E.length:=by
  rcases Nat.lt_or_ge i E.length with c | c
  ·exact c
  ·rw [List.getElem?_take_eq_none (by omega)] at h1;cases h1
 exact .inr ⟨i,k,xs,by rw [List.getElem?_take_of_lt hi] at h1;exact h1,pre_get ⟨τ,rfl⟩ h2⟩
theorem RE.setP (re:RE K B H S E) {i:Nat} {t:T} {v:V} (h:Rp K H (Ow B S E) t v):RE K B H (S.set i (some v)) (E.set i (some (.p t)))∧∀b,Ow B (S.set i (some v)) (E.set i (some (.p t))) b→Ow B S E b:=by
 refine re.map (by simp [re.len]) (fun j u hj=>?_) id (fun j k xs hj=>?_) (fun _ _ _ _ _ _ _ _ h=>h)
 ·rw [List.getElem?_set] at hj
  by_cases c:i=j
  ·subst c
   rw [if_pos rfl] at hj
   split at hj
   ·cases hj
    rename_i hi
    exact ⟨v,by rw [List.getElem?_set_self (by rw [re.len];exact hi)],h⟩
   ·cases hj
  ·rw [if_neg c] at hj
   obtain ⟨w,h1,h2⟩:=re.pure j u hj
   exact ⟨w,by rw [List.getElem?_set_ne c];exact h1,h2⟩
 ·rw [List.getElem?_set] at hj
  by_cases c:i=j
  ·subst c
   rw [if_pos rfl] at hj
   split at hj<;>cases hj
  ·rw [if_neg c] at hj
   obtain ⟨a,vs,h1,_⟩:=re.own j k xs hj
   exact ⟨hj,a,h1,by rw [List.getElem?_set_ne c];exact h1⟩
theorem RE.setO (re:RE K B H S E) (hS:∃τ,S=σ++τ) {i j:Nat} {k:Bool} {xs:List T} (hj:σ.length≤j) (hE:E[j]? = some (some (.o k xs))) {v:V} (hv:S[j]? = some (some v)) :
  RE K B H (σ.set i (some v)) ((E.take σ.length).set i (some (.o k xs)))∧∀b,Ow B (σ.set i (some v)) ((E.take σ.length).set i (some (.o k xs))) b→Ow B S E b:=by
 obtain ⟨τ,rfl⟩:=hS
 have hle:σ.length≤E.length:=by rw [←re.len];simp
 have gt:∀{m:Nat} {x:Option U},(E.take σ.length)[m]? = some x→E[m]? = some x∧m<σ.length:=fun {m x} h=>by
  by_cases c:m<σ.length
  ·rw [List.getElem?_take_of_lt c] at h;exact ⟨h,c⟩
  ·rw [List.getElem?_take_eq_none (by omega)] at h;cases h
 refine re.map (by simp;omega) (fun m u hm=>?_) (fun m=>if m=i then j else m) (fun m l ys hm=>?_) (fun m n l l' ys zs h1 h2 h=>?_)
 ·rw [List.getElem?_set] at hm
  by_cases c:i=m
  ·subst c
   rw [if_pos rfl] at hm
   split at hm<;>cases hm
  ·rw [if_neg c] at hm
   obtain ⟨hm,lt⟩:=gt hm
   obtain ⟨w,h1,h2⟩:=re.pure m u hm
   rw [List.getElem?_append_left lt] at h1
   exact ⟨w,by rw [List.getElem?_set_ne c];exact h1,h2⟩
 ·rw [List.getElem?_set] at hm
  by_cases c:i=m
  ·subst c
   rw [if_pos rfl] at hm
   split at hm
   ·cases hm
    rename_i hi
    obtain ⟨a,vs,h1,_⟩:=re.own j k xs hE
    rw [hv] at h1;cases h1
    rw [if_pos rfl]
    refine ⟨hE,a,hv,?_⟩
    rw [List.getElem?_set_self (by rw [List.length_take] at hi;omega)]
   ·cases hm
  ·rw [if_neg c] at hm
   obtain ⟨hm,lt⟩:=gt hm
   obtain ⟨a,vs,h1,_⟩:=re.own m l ys hm
   rw [if_neg (fun z=>c z.symm)]
   refine ⟨hm,a,h1,?_⟩
   rw [List.getElem?_append_left lt] at h1
   rw [List.getElem?_set_ne c];exact h1
 ·have lt:∀{m:Nat} {l:Bool} {ys:List T},((E.take σ.length).set i (some (.o k xs)))[m]? = some (some (.o l ys))→m≠i→m<σ.length:=fun {m l ys} h1 c=>by
   rw [List.getElem?_set_ne (fun z=>c z.symm)] at h1
   exact (gt h1).2
  by_cases c1:m=i
  ·by_cases c2:n=i
   ·rw [c1,c2]
   ·simp only [if_pos c1,if_neg c2] at h
    have:=lt h2 c2
    omega
  ·by_cases c2:n=i
   ·simp only [if_neg c1,if_pos c2] at h
    have:=lt h1 c1
    omega
   ·simp only [if_neg c1,if_neg c2] at h
    exact h
theorem RE.frz (re:RE K B H S E) {i:Nat} {xs:List T} (h:E[i]? = some (some (.o false xs))):RE K B H S (E.set i (some (.p (.lst xs))))∧∀b,Ow B S (E.set i (some (.p (.lst xs)))) b→Ow B S E b∧S[i]?≠some (some (.ref b)):=by
 have hi:i<E.length:=(List.getElem?_eq_some_iff.mp h).1
 obtain ⟨a,vs,h1,h2,h3,h4⟩:=re.own i false xs h
 have get:∀{j:Nat} {u:U},(E.set i (some (.p (.lst xs))))[j]? = some (some u)→(j=i∧u = .p (.lst xs))∨(j≠i∧E[j]? = some (some u)):=fun {j u} hj=>by
  by_cases c:j=i
  ·subst c;rw [List.getElem?_set_self hi] at hj;cases hj;exact .inl ⟨rfl,rfl⟩
  ·rw [List.getElem?_set_ne (fun z=>c z.symm)] at hj;exact .inr ⟨c,hj⟩
 have ow:∀b,Ow B S (E.set i (some (.p (.lst xs)))) b→Ow B S E b∧S[i]?≠some (some (.ref b)):=fun b z=>by
  rcases z with z | ⟨j,k,ys,q1,q2⟩
  ·refine ⟨.inl z,fun w=>?_⟩
   rw [h1] at w;cases w
   exact absurd (h4.mpr z) (by decide)
  rcases get q1 with ⟨_,z⟩ | ⟨c,q1⟩
  ·cases z
  ·exact ⟨.inr ⟨j,k,ys,q1,q2⟩,fun z=>c (re.inj j i k false ys xs b q1 h q2 z)⟩
 have kl:Kp (Ow B S E) (Ow B S (E.set i (some (.p (.lst xs))))) H H:=Kp.less fun b z=>(ow b z).1
 refine ⟨⟨by simp [re.len],fun j t hj=>?_,fun j k ys hj=>?_,fun j m k l ys zs b q1 q2 q3 q4=>?_,re.bd⟩,ow⟩
 ·rcases get hj with ⟨c,z⟩ | ⟨c,hj⟩
  ·cases z
   subst c
   exact ⟨_,h1,a,vs,rfl,.inl ⟨fun z=>(ow a z).2 h1,.inl h2⟩,h3.step kl⟩
  ·obtain ⟨w,q1,q2⟩:=re.pure j t hj
   exact ⟨w,q1,q2.step kl⟩
 ·rcases get hj with ⟨_,z⟩ | ⟨c,hj⟩
  ·cases z
  ·obtain ⟨b,ws,q1,q2,q3,q4⟩:=re.own j k ys hj
   exact ⟨b,ws,q1,q2,q3.step kl,q4⟩
 ·rcases get q1 with ⟨_,z⟩ | ⟨_,q1⟩
  ·cases z
  rcases get q2 with ⟨_,z⟩ | ⟨_,q2⟩
  ·cases z
  exact re.inj j m k l ys zs b q1 q2 q3 q4
theorem RE.put (re:RE K B H S E) {i:Nat} {k:Bool} {xs ys:List T} {a:Addr} {ws:List V} (h:E[i]? = some (some (.o k xs))) (hS:S[i]? = some (some (.ref a))) (hw:Rps K H (Ow B S E) ys ws) :
  Gr B H S E (upd H a (.lst ws)) S (E.set i (some (.o k ys)))∧RE K B (upd H a (.lst ws)) S (E.set i (some (.o k ys))):=by
 have hi:i<E.length:=(List.getElem?_eq_some_iff.mp h).1
 have get:∀{j:Nat} {u:U},(E.set i (some (.o k ys)))[j]? = some (some u)→(j=i∧u = .o k ys)∨(j≠i∧E[j]? = some (some u)):=fun {j u} hj=>by
  by_cases c:j=i
  ·subst c;rw [List.getElem?_set_self hi] at hj;cases hj;exact .inl ⟨rfl,rfl⟩
  ·rw [List.getElem?_set_ne (fun z=>c z.symm)] at hj;exact .inr ⟨c,hj⟩
 have ow:∀b,Ow B S (E.set i (some (.o k ys))) b→Ow B S E b:=fun b z=>by
  rcases z with z | ⟨j,l,zs,q1,q2⟩
  ·exact .inl z
  rcases get q1 with ⟨c,z⟩ | ⟨c,q1⟩
  ·subst c;exact .inr ⟨j,k,xs,h,q2⟩
  ·exact .inr ⟨j,l,zs,q1,q2⟩
 have oa:Ow B S E a:=.inr ⟨i,k,xs,h,hS⟩
 have kk:∀b o,H b=some o→¬Ow B S E b→(upd H a (.lst ws)) b=some o:=fun b o e n=>by rw [upd_ne (fun z=>n (by rw [z];exact oa))];exact e
 have kp:Kp (Ow B S E) (Ow B S E) H (upd H a (.lst ws)):=⟨kk,fun b z=>.inl z⟩
 refine ⟨⟨⟨kk,fun b z=>.inl (ow b z)⟩,[],by simp⟩,re.step kk (by simp) (fun j t hj=>?_) (fun j l zs hj=>?_) (fun b hb=>?_)⟩
 ·rcases get hj with ⟨_,z⟩ | ⟨_,hj⟩
  ·cases z
  ·exact hj
 ·rcases get hj with ⟨c,z⟩ | ⟨c,hj⟩
  ·cases z
   subst c
   refine ⟨xs,h,fun b hb=>?_⟩
   rw [hS] at hb;cases hb
   exact ⟨ws,upd_same,hw.step kp⟩
  ·refine ⟨zs,hj,fun b hb=>?_⟩
   obtain ⟨b',us,q1,q2,q3,_⟩:=re.own j l zs hj
   rw [hb] at q1;cases q1
   have nb:b≠a:=fun z=>c (re.inj j i l k zs xs a hj h (by rw [←z];exact hb) hS)
   exact ⟨us,by rw [upd_ne nb];exact q2,q3.step kp⟩
 ·by_cases c:b=a
  ·subst c;exact ⟨ws,upd_same⟩
  ·rw [upd_ne c];exact re.bd b hb
end
section
variable {X:Cx} {K:PySem.W.Frag} {pos:Pos} {a b c e o i:Expr} {es rest:List Expr} {Fa Fb Fc Fe Fo Fi:FE} {Fr:FA} {Fp Fq:FB} {F G:FS} {st:Stmt} {sts body b1' b2':List Stmt}
def nfS:En→(En→Prop)→Prop
 | [],k=>k []
 | x::r,k=>nfS r fun r'=>k (x::r')
theorem nfS_eq:∀{E:En} {k:En→Prop},nfS E k→k E
 | [],_,h=>h
 | x::r,k,h=>nfS_eq (E:=r) (k:=fun r'=>k (x::r')) h
def sNext:FS:=fun D E=>D.nx E
def sSeq (F G:FS):FS:=fun D E=>F { D with nx:=fun E'=>nfS E' (G D) } E
theorem fb_nil:QB X [] (simS K sNext):=qb_nil.le fun D σ H ⟨B,E,DT,re,hF,l⟩=>l.nx _ _ _ hF (Kp.refl _ _) re
theorem fb_cons (h1:QS X st (simS K F)) (h2:QB X sts (simS K G)):QB X (st::sts) (simS K (sSeq F G)):=
 (qb_cons h1 h2).le fun D σ H ⟨B,E,DT,re,hF,l⟩=>⟨B,E,_,re,hF,⟨fun σ' H' E' hG g re'=>⟨B,E',DT,re',nfS_eq hG,l.step g⟩,l.rt,l.bk,l.ct⟩⟩
theorem fb_one (h1:QS X st (simS K F)):QB X [st] (simS K F):=qb_one h1
def sRet (Fa:FE):FS:=fun D E=>Fa E D.rt
theorem fs_ret (h:QE X e (simE K Fa)):QS X (.Return (some e) pos) (simS K (sRet Fa)):=
 (qs_ret h).le fun D σ H hl ⟨B,E,DT,re,hF,l⟩=>⟨B,σ,E,_,⟨[],by simp⟩,re,hF,fun r E' v H' S' q g re' rr=>l.rt r E' v H' S' q g.kp re' rr⟩
theorem afterB {D:Bool→Hp→Prop} {B:Addr→Prop} {σ:St} {H:Hp} {E:En} {P:Bool→En→Prop} (re:RE K B H σ E) (hF:Fp E fun b E'=>P b (E'.take E.length)) (k:∀b H' E',P b E'→Gs B H σ E H' σ E'→RE K B H' σ E'→D b H'):simB K Fp σ H D:=
 ⟨B,σ,E,_,⟨[],by simp⟩,re,hF,fun b E' H' S' q g re'=>by
  obtain ⟨r,ow⟩:=re'.cut (E:=E) g.pre re.len
  exact k b H' _ q (g.kp.trans (Kp.less ow)) r⟩
theorem afterE {P:R→En→En→Prop} {Q:VK} {B:Addr→Prop} {σ:St} {H:Hp} {E:En} (re:RE K B H σ E) (hF:Fa E fun r E'=>P r E' (E'.take E.length))
  (k:∀r E' v H' S',P r E' (E'.take E.length)→Gr B H σ E H' S' E'→RE K B H' S' E'→RR K B H' S' E' r v→RE K B H' σ (E'.take E.length)→(∀b,Ow B σ (E'.take E.length) b→Ow B S' E' b)→Q v H'):simE K Fa σ H Q:=
 ⟨B,σ,E,_,⟨[],by simp⟩,re,hF,fun r E' v H' S' q g re' rr=>by
  obtain ⟨r2,ow⟩:=re'.cut (E:=E) g.pre re.len
  exact k r E' v H' S' q g re' rr r2 ow⟩
def sIf (Fp:FB) (F G:FS):FS:=fun D E=>Fp E fun b E'=>if b=true then nfS (E'.take E.length) (F D) else nfS (E'.take E.length) (G D)
theorem fs_if (hc:QT X c (simB K Fp)) (ha:QB X b1' (simS K F)) (hb:QB X b2' (simS K G)):QS X (.If c b1' b2' pos) (simS K (sIf Fp F G)):=
 (qs_if hc ha hb).le fun D σ H hl ⟨B,E,DT,re,hF,l⟩=>afterB (P:=fun b E'=>if b=true then nfS E' (F DT) else nfS E' (G DT)) re hF fun b H' E' q g re'=>by
  cases b
  ·exact ⟨B,E',DT,re',nfS_eq q,l.step g⟩
  ·exact ⟨B,E',DT,re',nfS_eq q,l.step g⟩
def sDrop (Fa:FE):FS:=fun D E=>Fa E fun _ E'=>D.nx (E'.take E.length)
theorem fs_expr (he:QE X e (simE K Fa)) (hs:swapsWith e none pos.line X.env=pure false:=by rfl):QS X (.Expr e pos) (simS K (sDrop Fa)):=
 (qs_expr he hs).le fun D σ H hl ⟨B,E,DT,re,hF,l⟩=>afterE (P:=fun _ _ E'=>DT.nx E') re hF fun r E' v H' S' q g re' rr re2 ow=>l.nx _ _ _ q (g.kp.trans (Kp.less ow)) re2
def sAssert (Fp:FB):FS:=fun D E=>Fp E fun b E'=>b=true∧D.nx (E'.take E.length)
theorem fs_assert {m:Option Expr} (hc:QT X c (simB K Fp)):QS X (.Assert c m pos) (simS K (sAssert Fp)):=
 (qs_assert hc).le fun D σ H hl ⟨B,E,DT,re,hF,l⟩=>afterB (P:=fun b E'=>b=true∧DT.nx E') re hF fun b H' E' q g re'=>⟨q.1,l.nx _ _ _ q.2 g re'⟩
def pick (n:Nat) (E:En):R→Option U
 | .p t=>some (.p t)
 | .s j=>match E[j]? with
  | some (some (.p t))=>some (.p t)
  | some (some (.o k xs))=>if n≤j then some (.o k xs) else none
  | _=>none
theorem pick_ok {B:Addr→Prop} {σ S:St} {H:Hp} {E:En} {r:R} {v:V} {u:U} {i:Nat} (re:RE K B H S E) (hS:∃τ,S=σ++τ) (rr:RR K B H S E r v) (h:pick σ.length E r=some u) :
  RE K B H (σ.set i (some v)) ((E.take σ.length).set i (some u))∧∀b,Ow B (σ.set i (some v)) ((E.take σ.length).set i (some u)) b→Ow B S E b:=by
 have cutP:∀{t:T},Rp K H (Ow B S E) t v→RE K B H (σ.set i (some v)) ((E.take σ.length).set i (some (.p t)))∧∀b,Ow B (σ.set i (some v)) ((E.take σ.length).set i (some (.p t))) b→Ow B S E b:=fun {t} hp=>by
  obtain ⟨τ,rfl⟩:=hS
  have re2:=re.take σ.length
  rw [show (σ++τ).take σ.length=σ by simp] at re2
  have ow:∀b,Ow B σ (E.take σ.length) b→Ow B (σ++τ) E b:=fun b z=>by
   rcases z with z | ⟨j,k,xs,h1,h2⟩
   ·exact .inl z
   have hj:j<σ.length:=(List.getElem?_eq_some_iff.mp h2).1
   exact .inr ⟨j,k,xs,by rw [List.getElem?_take_of_lt hj] at h1;exact h1,pre_get ⟨τ,rfl⟩ h2⟩
  obtain ⟨q1,q2⟩:=re2.setP (i:=i) (hp.step (Kp.less ow))
  exact ⟨q1,fun b z=>ow b (q2 b z)⟩
 cases r with
 | p t=>cases h;exact cutP rr
 | s j=>
  cases q:E[j]? with
  | none=>simp only [pick,q] at h;cases h
  | some w=>
   cases w with
   | none=>simp only [pick,q] at h;cases h
   | some w=>
    cases w with
    | p t=>
     simp only [pick,q] at h
     cases h
     obtain ⟨v',h1,h2⟩:=re.pure j t q
     have rr':S[j]? = some (some v):=rr
     rw [rr'] at h1;cases h1
     exact cutP h2
    | o k xs=>
     simp only [pick,q] at h
     split at h
     ·cases h
      rename_i c
      exact re.setO hS c q rr
     ·cases h
def sSet (i:Nat) (Fa:FE):FS:=fun D E=>Fa E fun r E'=>o1 (pick E.length E' r) fun u=>D.nx ((E'.take E.length).set i (some u))
theorem fs_set {i:Nat} {x:Str} {pos':Pos} (hN:X.N.Nodup) (hi:X.N[i]? = some x) (hx:Loc X.env.scope x) (he:QE X e (simE K Fa)) (hs:swapsWith e (some (.Name x pos')) pos.line X.env=pure false:=by rfl)
  (hf:X.fn x=true∨X.env.scope.names.lookup x=some .local:=by first | exact .inl rfl | exact .inr rfl | assumption):QS X (.Assign [.Name x pos'] e pos) (simS K (sSet i Fa)):=
 (qs_set hN hi hx he hs hf).le fun D σ H hl ⟨B,E,DT,re,hF,l⟩=>⟨B,σ,E,_,⟨[],by simp⟩,re,hF,fun r E' v H' S' q g re' rr=>by
  obtain ⟨u,e1,q⟩:=q.ex
  rw [←re.len] at e1 q
  obtain ⟨r1,ow⟩:=pick_ok (i:=i) re' g.pre rr e1
  exact l.nx _ _ _ q (g.kp.trans (Kp.less ow)) r1⟩
end
end L2
set_option Elab.async false
set_option linter.all false
set_option maxRecDepth 100000
set_option maxHeartbeats 4000000
namespace L2
open PySem PySem.Spec PyProof.Rows
abbrev FG:=T→En→(En→Prop)→Prop
abbrev FGs:=List T→En→(En→Prop)→Prop
def simG (K:PySem.W.Frag) (G:FG):TG:=fun v σ H Q=>∃B τ E t Q',RE K B H (σ++τ) E∧Rp K H (Ow B (σ++τ) E) t v∧G t E Q'∧∀σ' H' E',Q' E'→Gs B H (σ++τ) E H' (σ'++τ) E'→RE K B H' (σ'++τ) E'→σ'.length=σ.length→Q σ' H'
def simGs (K:PySem.W.Frag) (G:FGs):TGs:=fun vs σ H Q=>∃B τ E ts Q',RE K B H (σ++τ) E∧Rps K H (Ow B (σ++τ) E) ts vs∧G ts E Q'∧∀σ' H' E',Q' E'→Gs B H (σ++τ) E H' (σ'++τ) E'→RE K B H' (σ'++τ) E'→σ'.length=σ.length→Q σ' H'
def kName (i:Nat):FG:=fun t E Q=>Q (E.set i (some (.p t)))
def kNil:FGs:=fun ts E Q=>match ts with
 | []=>Q E
 | _=>False
def kCons (g:FG) (gs:FGs):FGs:=fun ts E Q=>match ts with
 | t::r=>g t E fun E'=>gs r E' Q
 | []=>False
def kTup (n:Nat) (gs:FGs):FG:=fun t E Q=>match t with
 | .tup ts=>cond (Nat.beq ts.length n) (gs ts E Q) False
 | _=>False
def kSub (Fo Fi:FE):FG:=fun t E Q=>Fo E fun r E1=>Fi E1 fun z E2=>match r with
 | .s j=>match E2[j]? with
  | some (some (.o k xs))=>i1 (vl E2 z) fun m=>o1 (ixN xs.length m) fun l=>Q ((E2.set j (some (.o k (xs.set l t)))).take E.length)
  | _=>False
 | _=>False
section
variable {X:Cx} {K:PySem.W.Frag} {pos:Pos} {a b c e o i:Expr} {es rest:List Expr} {Fa Fb Fc Fe Fo Fi:FE} {Fr:FA} {Fp Fq:FB} {F G:FS} {st:Stmt} {sts body:List Stmt} {g:FG} {gs:FGs}
theorem fg_name {i:Nat} {x:Str} (hN:X.N.Nodup) (hi:X.N[i]? = some x) (hx:Loc X.env.scope x) (hf:X.fn x=true∨X.env.scope.names.lookup x=some .local:=by first | exact .inl rfl | exact .inr rfl | assumption):QG X (.Name x pos) (simG K (kName i)):=
 (qg_name hN hi hx hf).le fun v σ H Q hl ⟨B,τ,E,t,Q',re,rp,hF,l⟩=>by
  have hlt:i<σ.length:=by rw [hl];exact (List.getElem?_eq_some_iff.mp hi).1
  obtain ⟨r1,ow⟩:=re.setP (i:=i) rp
  rw [List.set_append_left _ _ hlt] at r1 ow
  exact l _ _ _ hF (Kp.less ow) r1 (by simp)
theorem fgs_nil:QGs X [] (simGs K kNil):=qgs_nil.le fun vs σ H Q ⟨B,τ,E,ts,Q',re,rp,hF,l⟩=>by
 cases ts with
 | nil=>exact ⟨rp,l _ _ _ hF (Kp.refl _ _) re rfl⟩
 | cons _ _=>exact hF.elim
theorem fgs_cons (h1:QG X e (simG K g)) (h2:QGs X es (simGs K gs)) (hs:(assignEach (e::es) X.env).map (·.2)=assign e X.env::(assignEach es X.env).map (·.2):=by rfl):QGs X (e::es) (simGs K (kCons g gs)):=
 (qgs_cons h1 h2 hs).le fun vs σ H Q ⟨B,τ,E,ts,Q',re,rp,hF,l⟩=>by
  cases ts with
  | nil=>exact hF.elim
  | cons t ts=>
   obtain ⟨v,r,e1,h1,h2⟩:=rp
   exact ⟨v,r,e1,B,τ,E,t,_,re,h1,hF,fun σ' H' E' q g re' hl=>⟨B,τ,E',ts,Q',re',h2.step g,q,fun σ2 H2 E2 q2 g2 re2 hl2=>l _ _ _ q2 (g.trans g2) re2 (hl2.trans hl)⟩⟩
theorem fg_tup {k n:Nat} (eK:X.K=K) (hc:X.calm=true) (h:QGs X es (simGs K gs)) (hn:(assignEach es X.env).length=n:=by rfl) (hst:(assignEach es X.env).findIdx? (·.1)=none:=by rfl):QG X (.Tuple es k pos) (simG K (kTup n gs)):=by
 subst eK
 refine (qg_tup hc h hn hst).le fun v σ H Q hl ⟨B,τ,E,t,Q',re,rp,hF,l⟩=>?_
 cases t with
 | tup ts=>
  have hF':cond (Nat.beq ts.length n) (gs ts E Q') False:=hF
  cases q:Nat.beq ts.length n with
  | false=>rw [q] at hF';exact hF'.elim
  | true=>
   rw [q] at hF'
   obtain ⟨p,vs,e1,sq,rs⟩:=rp.sqT
   exact ⟨p,vs,e1,sq,by rw [rs.length];exact Nat.eq_of_beq_eq_true q,B,τ,E,ts,Q',re,rs,hF',l⟩
 | _=>exact hF.elim
theorem fg_sub (ho:QE X o (simE K Fo)) (hi:QE X i (simE K Fi))
  (ha:∀v,assign (.Subscript o i pos) X.env v=(do
   let ov ←holding [v] (eval o X.env)
   let iv ←holding [v,ov] (eval i X.env)
   standAt pos
   holding [v,ov,iv] (setItem ov iv v)
   release [v,ov,iv] []):=by intro _;rfl):QG X (.Subscript o i pos) (simG K (kSub Fo Fi)):=by
 refine (qg_sub ho hi set_list ha).le fun v σ H Q hl ⟨B,τ,E,t,Q',re,rp,hF,l⟩=>?_
 refine ⟨B,σ++τ,E,_,⟨τ,rfl⟩,re,hF,fun r E1 w H1 S1 q g1 re1 rr=>?_⟩
 obtain ⟨τ1,hS1⟩:=g1.pre
 refine ⟨B,S1,E1,_,⟨τ++τ1,by rw [hS1,List.append_assoc]⟩,re1,q,fun z E2 y H2 S2 q2 g2 re2 rr2=>?_⟩
 have g12:=g1.trans g2
 cases r with
 | p _=>exact q2.elim
 | s j=>
  have rj:S2[j]? = some (some w):=pre_get g2.pre rr
  cases hE:E2[j]? with
  | none=>simp only [hE] at q2
  | some u=>
   cases u with
   | none=>simp only [hE] at q2
   | some u=>
    cases u with
    | p _=>simp only [hE] at q2
    | o k xs=>
     simp only [hE] at q2
     obtain ⟨m,e1,q2⟩:=q2.ex
     obtain ⟨n,e2,q2⟩:=q2.ex
     obtain ⟨p,vs,h1,h2,h3,h4⟩:=re2.own j k xs hE
     rw [rj] at h1;cases h1
     refine ⟨p,vs,m,n,rfl,re2.int rr2 e1,h2,by rw [h3.length];exact e2,?_⟩
     obtain ⟨g3,re3⟩:=re2.put (ys:=xs.set n t) (ws:=vs.set n v) hE rj (h3.set (rp.step g12.kp) n)
     obtain ⟨re4,ow⟩:=re3.cut (E:=E) (g12.trans g3).pre re.len
     exact l _ _ _ q2 ((g12.trans g3).kp.trans (Kp.less ow)) re4 rfl
def sAsg (Fa:FE) (g:FG):FS:=fun D E=>Fa E fun r E'=>match r with
 | .p t=>g t (E'.take E.length) D.nx
 | .s _=>False
theorem fs_asg {tg:Expr} (he:QE X e (simE K Fa)) (hg:QG X tg (simG K g)) (hs:swapsWithSole [tg] e pos.line X.env=pure false:=by rfl) (hw:swappedStores [tg] e X.env=pure none:=by rfl)
  (h1:(assignEach [tg] X.env).map (·.2)=[assign tg X.env]:=by rfl):QS X (.Assign [tg] e pos) (simS K (sAsg Fa g)):=
 (qs_asg he hg hs hw h1).le fun D σ H hl ⟨B,E,DT,re,hF,l⟩=>afterE (P:=fun r _ E'=>match r with | .p t=>g t E' DT.nx | .s _=>False) re hF fun r E' v H' S' q g' re' rr re2 ow=>by
  cases r with
  | s _=>exact q.elim
  | p t=>exact ⟨B,[],_,t,_,by rw [List.append_nil];exact re2,by rw [List.append_nil];exact Rp.step (Kp.less ow) rr,q,fun σ2 H2 E2 q2 g2 re3 _=>by rw [List.append_nil] at g2 re3;rw [List.append_nil] at g2;exact l.nx _ _ _ q2 ((g'.kp.trans (Kp.less ow)).trans g2) re3⟩
def sPar (i j:Nat) (Fr:FA):FS:=fun D E=>Fr E fun rs E'=>match rs with
 | [.p t,r]=>o1 (pick E.length E' r) fun u=>D.nx (((E'.take E.length).set j (some u)).set i (some (.p t)))
 | [r,.p t]=>o1 (pick E.length E' r) fun u=>D.nx (((E'.take E.length).set i (some u)).set j (some (.p t)))
 | _=>False
theorem fs_par {n i j:Nat} {x y:Str} {px py pt:Pos} {kt k2 pt2} (hc:X.calm=true) (hN:X.N.Nodup) (hi:X.N[i]? = some x) (hj:X.N[j]? = some y) (hij:i≠j)
  (hx:X.env.scope.names.lookup x=some .local) (hy:X.env.scope.names.lookup y=some .local) (ha:QA X [a,b] (simA K n Fr))
  (hw:swappedStores [.Tuple [.Name x px,.Name y py] kt pt] (.Tuple [a,b] k2 pt2) X.env=pure (some [x,y]))
  (hs:swapsWithSole [.Tuple [.Name x px,.Name y py] kt pt] (.Tuple [a,b] k2 pt2) pos.line X.env=pure false:=by rfl) :
  QS X (.Assign [.Tuple [.Name x px,.Name y py] kt pt] (.Tuple [a,b] k2 pt2) pos) (simS K (sPar i j Fr)):=by
 refine (qs_par hc hN hi hj hij hx hy ha hw hs).le fun D σ H hl ⟨B,E,DT,re,hF,l⟩=>⟨B,σ,E,_,⟨[],by simp⟩,re,hF,fun rs E' vs H' S' q g re' rr hn=>?_⟩
 split at q
 ·rename_i t r
  obtain ⟨v,ws,e1,h1,w,ws',e2,h2,h3⟩:=rr
  cases h3;subst e2;subst e1
  obtain ⟨u,e3,q⟩:=q.ex
  rw [←re.len] at e3 q
  obtain ⟨r1,ow⟩:=pick_ok (i:=j) re' g.pre h2 e3
  obtain ⟨r2,ow2⟩:=r1.setP (i:=i) (Rp.step (Kp.less ow) h1)
  refine ⟨v,w,rfl,?_⟩
  rw [List.set_comm _ _ hij]
  exact l.nx _ _ _ q (g.kp.trans (Kp.less fun b z=>ow b (ow2 b z))) r2
 ·rename_i r t _
  obtain ⟨v,ws,e1,h1,w,ws',e2,h2,h3⟩:=rr
  cases h3;subst e2;subst e1
  obtain ⟨u,e3,q⟩:=q.ex
  rw [←re.len] at e3 q
  obtain ⟨r1,ow⟩:=pick_ok (i:=i) re' g.pre h1 e3
  obtain ⟨r2,ow2⟩:=r1.setP (i:=j) (Rp.step (Kp.less ow) h2)
  exact ⟨v,w,rfl,l.nx _ _ _ q (g.kp.trans (Kp.less fun b z=>ow b (ow2 b z))) r2⟩
 ·exact q.elim
def sAug (f:Int→Int→Int) (i:Nat) (Fa:FE):FS:=fun D E=>match E[i]? with
 | some (some (.p (.int x)))=>Fa E fun r E'=>i1 (vl E' r) fun y=>D.nx ((E'.take E.length).set i (some (.p (.int (f x y)))))
 | _=>False
theorem fs_aug {i:Nat} {x:Str} {op:Operator} {f:Int→Int→Int} {pos':Pos} (hN:X.N.Nodup) (hi:X.N[i]? = some x) (hx:Loc X.env.scope x) (he:QE X e (simE K Fa)) (ho:PIp X op (ipI f)) (hf:X.fn x=true∨X.env.scope.names.lookup x=some .local:=by first | exact .inl rfl | exact .inr rfl | assumption) :
  QS X (.AugAssign (.Name x pos') op e pos) (simS K (sAug f i Fa)):=by
 refine QS.le ⟨ps_aug hN hi hx he.h ho hf⟩ fun D σ H hl ⟨B,E,DT,re,hF,l⟩=>?_
 unfold sAug at hF
 split at hF
 ·rename_i y hE
  obtain ⟨v,h1,h2⟩:=re.pure i _ hE
  cases h2
  refine ⟨_,h1,afterE (P:=fun r E' E2=>i1 (vl E' r) fun z=>DT.nx (E2.set i (some (.p (.int (f y z)))))) re hF fun r E' v H' S' q g' re' rr re2 ow=>?_⟩
  obtain ⟨z,e1,q⟩:=q.ex
  obtain ⟨r1,ow2⟩:=re2.setP (i:=i) (t:=.int (f y z)) (v:=.int (f y z)) rfl
  exact ⟨y,z,rfl,re'.int rr e1,l.nx _ _ _ q (g'.kp.trans (Kp.less fun b z=>ow b (ow2 b z))) r1⟩
 ·exact hF.elim
def sWhile (Fp:FB) (F:FS):FS:=fun D E=>∃W:Nat→En→Prop,(∃m,W m E)∧∀m E,W m E→Fp E fun b E'=>if b=true then F { D with nx:=fun E2=>∃m',m'<m∧W m' E2,ct:=fun E2=>∃m',m'<m∧W m' E2,bk:=D.nx } (E'.take E.length) else D.nx (E'.take E.length)
theorem fs_while (hp:PassesOwn (model X.prog X.w) X.A X.env X.xe) (hc:QT X c (simB K Fp)) (hb:QB X body (simS K F)):QS X (.While c body [] pos) (simS K (sWhile Fp F)):=by
 refine (qs_while hp hc hb).le fun D σ H hl ⟨B,E,DT,re,⟨W,⟨m0,w0⟩,hF⟩,l⟩=>?_
 refine ⟨fun m σ' H'=>∃E',W m E'∧Gs B H σ E H' σ' E'∧RE K B H' σ' E',⟨m0,E,w0,Kp.refl _ _,re⟩,?_⟩
 rintro m σ1 H1 ⟨E1,w1,g1,re1⟩
 refine afterB (P:=fun b E'=>if b=true then F { DT with nx:=fun E2=>∃m',m'<m∧W m' E2,ct:=fun E2=>∃m',m'<m∧W m' E2,bk:=DT.nx } E' else DT.nx E') re1 (hF m E1 w1) fun b H2 E2 q g2 re2=>?_
 cases b
 ·exact l.nx _ _ _ q (g1.trans g2) re2
 ·refine ⟨fun σ' H'=>∃m',m'<m∧∃E',W m' E'∧Gs B H σ E H' σ' E'∧RE K B H' σ' E',fun σ' H' z=>z,B,E2,_,re2,q,?_⟩
  have l2:=l.step (g1.trans g2)
  exact ⟨fun σ' H' E' ⟨m',hm,w⟩ g re'=>⟨m',hm,E',w,(g1.trans g2).trans g,re'⟩,l2.rt,fun σ' H' E' z g re'=>l2.nx _ _ _ z g re',fun σ' H' E' ⟨m',hm,w⟩ g re'=>⟨m',hm,E',w,(g1.trans g2).trans g,re'⟩⟩
structure ItOk (K:PySem.W.Frag) (J:It) (items:List T) (gd:Hp→(Addr→Prop)→Prop):Prop where
 keep:∀H H' O O',Kp O O' H H'→gd H O→gd H' O'
 go:∀i H O,gd H O→i<items.length→J.go i H
 yld:∀i H O x H' t,gd H O→items[i]? = some t→(∀a,O a→H a≠none)→J.yld i H x H'→Kp O O H H'∧(∀b o,H b=some o→H' b=some o)∧Rp K H' O t x
 stop:∀H O,gd H O→J.stop items.length H
abbrev FI:=En→(List T→List Nat→En→Prop)→Prop
def simI (K:PySem.W.Frag) (F:FI):TI:=fun σ H R=>∃B S E Q',(∃τ,S=σ++τ)∧RE K B H S E∧F E Q'∧∀J items us E' H' S' gd,Q' items us E'→Gr B H S E H' S' E'→RE K B H' S' E'→ItOk K J items gd→(∀j∈us,∃k xs,E'[j]? = some (some (U.o k xs)))→
 (∀O:Addr→Prop,(∀b,O b→Ow B S' E' b)→(∀j∈us,∀a,S'[j]? = some (some (.ref a))→¬O a)→gd H' O)→R J H'
def frzs:List Nat→En→Option En
 | [],E=>some E
 | j::us,E=>match E[j]? with
  | some (some (.o false xs))=>frzs us (E.set j (some (.p (.lst xs))))
  | _=>none
theorem frzs_ok {B:Addr→Prop} {H:Hp} {S:St}:∀{us:List Nat} {E E':En},RE K B H S E→frzs us E=some E'→RE K B H S E'∧(∀b,Ow B S E' b→Ow B S E b)∧(∀j∈us,∀a,S[j]? = some (some (.ref a))→¬Ow B S E' a)∧E'.length=E.length
 | [],E,E',re,h=>by cases h;exact ⟨re,fun b z=>z,fun j hj=>absurd hj (by simp),rfl⟩
 | j::us,E,E',re,h=>by
  cases q:E[j]? with
  | none=>simp only [frzs,q] at h;cases h
  | some u=>
   cases u with
   | none=>simp only [frzs,q] at h;cases h
   | some u=>
    cases u with
    | p t=>simp only [frzs,q] at h;cases h
    | o k xs=>
     cases k
     ·simp only [frzs,q] at h
      obtain ⟨s1,s2⟩:=re.frz q
      obtain ⟨r1,r2,r3,r4⟩:=frzs_ok s1 h
      refine ⟨r1,fun b z=>(s2 b (r2 b z)).1,fun m hm a ha z=>?_,by rw [r4];simp⟩
      rcases List.mem_cons.mp hm with rfl | hm
      ·exact (s2 a (r2 a z)).2 ha
      ·exact r3 m hm a ha z
     ·simp only [frzs,q] at h;cases h
def loopT (g:FG) (F:FS) (D:ET):List T→En→Prop
 | [],E=>D.nx E
 | x::xs,E=>g x E fun E'=>nfS E' (F { D with nx:=loopT g F D xs,ct:=loopT g F D xs,bk:=D.nx })
def sFor (I:FI) (g:FG) (F:FS):FS:=fun D E=>I E fun items us E'=>o1 (frzs us E') fun E2=>nfS (E2.take E.length) (loopT g F D items)
theorem fs_for {tg iter:Expr} {I:FI} (hp:PassesOwn (model X.prog X.w) X.A X.env X.xe) (hc:X.calm=true) (hi:QI X tg iter (simI K I)) (hg:QG X tg (simG K g)) (hb:QB X body (simS K F)) (hs:∀x,foldedSetIterable iter X.env x=pure x:=by intro _;rfl) :
  QS X (.For tg iter body [] pos) (simS K (sFor I g F)):=by
 refine (qs_for hp hc hi hg hb hs).le fun D σ H hl ⟨B,E,DT,re,hF,l⟩=>?_
 refine ⟨B,σ,E,_,⟨[],by simp⟩,re,hF,fun J items us E1 H1 S1 gd q g1 re1 ok _ hgd=>?_⟩
 obtain ⟨E2,e2,q⟩:=q.ex
 replace q:=nfS_eq q
 obtain ⟨f1,f2,f3,f4⟩:=frzs_ok re1 e2
 obtain ⟨c1,c2⟩:=f1.cut (E:=E) g1.pre re.len
 have gs:Gs B H σ E H1 σ (E2.take E.length):=g1.kp.trans ((Kp.less f2).trans (Kp.less c2))
 have gd1:gd H1 (Ow B σ (E2.take E.length)):=hgd _ (fun b z=>f2 b (c2 b z)) fun j hj a ha z=>f3 j hj a ha (c2 a z)
 refine ⟨fun i m σ' H'=>m=items.length-i∧i≤items.length∧∃E',loopT g F DT (items.drop i) E'∧Gs B H σ E H' σ' E'∧RE K B H' σ' E'∧gd H' (Ow B σ' E'),⟨_,rfl,Nat.zero_le _,_,q,gs,c1,gd1⟩,?_⟩
 rintro i m σ2 H2 ⟨rfl,hi',E3,q3,g3,re3,gd3⟩
 rcases Nat.lt_or_ge i items.length with hlt | hge
 ·have hd:items.drop i=items[i]::items.drop (i+1):=List.drop_eq_getElem_cons hlt
  rw [hd] at q3
  refine .inr ⟨ok.go i H2 _ gd3 hlt,fun σ' H'=>∃E',loopT g F DT (items.drop (i+1)) E'∧Gs B H σ E H' σ' E'∧RE K B H' σ' E'∧gd H' (Ow B σ' E'),fun σ' H' ⟨E',z⟩=>⟨items.length-(i+1),by omega,rfl,hlt,E',z⟩,fun x H4 y=>?_⟩
  obtain ⟨k4,s4,rp⟩:=ok.yld i H2 _ x H4 _ gd3 (List.getElem?_eq_getElem hlt) (fun a z=>by obtain ⟨vs,e⟩:=re3.ow z;rw [e];intro z;cases z) y
  have re4:=re3.kept s4
  have gd4:=ok.keep _ _ _ _ k4 gd3
  refine ⟨B,[],E3,_,_,by rw [List.append_nil];exact re4,by rw [List.append_nil];exact rp,q3,fun σ5 H5 E5 q5 g5 re5 hl5=>?_⟩
  rw [List.append_nil] at g5 re5
  rw [List.append_nil] at g5
  have gd5:=ok.keep _ _ _ _ g5 gd4
  have gg:=(g3.trans k4).trans g5
  have l5:=l.step gg
  refine ⟨B,E5,_,re5,nfS_eq q5,?_⟩
  exact ⟨fun σ' H' E' z g re'=>⟨E',z,gg.trans g,re',ok.keep _ _ _ _ g gd5⟩,l5.rt,fun σ' H' E' z g re'=>l5.nx _ _ _ z g re',fun σ' H' E' z g re'=>⟨E',z,gg.trans g,re',ok.keep _ _ _ _ g gd5⟩⟩
 ·have ei:i=items.length:=by omega
  subst ei
  rw [List.drop_length] at q3
  exact .inl ⟨ok.stop H2 _ gd3,l.nx _ _ _ q3 g3 re3⟩
def usd (E:En):R→List Nat
 | .p _=>[]
 | .s j=>match E[j]? with
  | some (some (.o _ _))=>[j]
  | _=>[]
theorem usd_own {E:En} {r:R}:∀j∈usd E r,∃k xs,E[j]? = some (some (U.o k xs)):=fun j hj=>by
 cases r with
 | p _=>simp [usd] at hj
 | s m=>
  cases q:E[m]? with
  | none=>simp [usd,q] at hj
  | some u=>
   cases u with
   | none=>simp [usd,q] at hj
   | some u=>
    cases u with
    | p _=>simp [usd,q] at hj
    | o k xs=>simp [usd,q] at hj;subst hj;exact ⟨k,xs,q⟩
theorem rd_of {B:Addr→Prop} {H:Hp} {S:St} {E:En} {r:R} {v:V} {t:T} (re:RE K B H S E) (rr:RR K B H S E r v) (e:vl E r=some t) (O:Addr→Prop) (hO:∀b,O b→Ow B S E b) (hu:∀j∈usd E r,∀a,S[j]? = some (some (.ref a))→¬O a):Rp K H O t v:=by
 cases r with
 | p u=>cases e;exact Rp.step (Kp.less hO) rr
 | s j=>
  have rr':S[j]? = some (some v):=rr
  cases q:E[j]? with
  | none=>simp only [vl,q] at e;cases e
  | some u=>
   cases u with
   | none=>simp only [vl,q] at e;cases e
   | some u=>
    cases u with
    | p u=>
     simp only [vl,q] at e;cases e
     obtain ⟨w,h1,h2⟩:=re.pure j _ q
     rw [rr'] at h1;cases h1
     exact h2.step (Kp.less hO)
    | o k xs=>
     simp only [vl,q] at e;cases e
     obtain ⟨a,vs,h1,h2,h3,_⟩:=re.own j k xs q
     rw [rr'] at h1;cases h1
     exact ⟨a,vs,rfl,.inl ⟨hu j (by simp [usd,q]) a rr',.inl h2⟩,h3.step (Kp.less hO)⟩
theorem itl_ok {p:Addr} {xs:List T}:ItOk K (Itl K p) xs (fun H O=>Rp K H O (.lst xs) (.ref p)):=by
 refine ⟨fun H H' O O' k h=>Rp.step k h,fun i H O h hi=>?_,fun i H O x H' t h e _ y=>?_,fun H O h=>?_⟩
 ·obtain ⟨a,vs,e,sq,rs⟩:=h.sqL
  cases e
  exact ⟨vs,vs[i]'(by rw [rs.length];exact hi),sq,List.getElem?_eq_getElem _⟩
 ·obtain ⟨e1,y⟩:=y
  subst e1
  obtain ⟨a,vs,e2,sq,rs⟩:=h.sqL
  cases e2
  obtain ⟨v,h1,h2⟩:=rs.get e
  rw [y vs sq] at h1;cases h1
  exact ⟨Kp.refl _ _,fun _ _ z=>z,h2⟩
 ·obtain ⟨a,vs,e,sq,rs⟩:=h.sqL
  cases e
  exact ⟨vs,sq,by rw [rs.length];exact Nat.le_refl _⟩
theorem itt_ok {p:Addr} {xs:List T}:ItOk K (Itt K p) xs (fun H O=>Rp K H O (.tup xs) (.ref p)):=by
 refine ⟨fun H H' O O' k h=>Rp.step k h,fun i H O h hi=>?_,fun i H O x H' t h e _ y=>?_,fun H O h=>?_⟩
 ·obtain ⟨a,vs,e,sq,rs⟩:=h.sqT
  cases e
  exact ⟨vs,vs[i]'(by rw [rs.length];exact hi),sq,List.getElem?_eq_getElem _⟩
 ·obtain ⟨e1,y⟩:=y
  subst e1
  obtain ⟨a,vs,e2,sq,rs⟩:=h.sqT
  cases e2
  obtain ⟨v,h1,h2⟩:=rs.get e
  rw [y vs sq] at h1;cases h1
  exact ⟨Kp.refl _ _,fun _ _ z=>z,h2⟩
 ·obtain ⟨a,vs,e,sq,rs⟩:=h.sqT
  cases e
  exact ⟨vs,sq,by rw [rs.length];exact Nat.le_refl _⟩
def rngT (lo:Int) (n:Nat):List T:=(List.range n).map fun (i:Nat)=>T.int (lo+(i:Int))
theorem itr_ok {lo:Int} {n:Nat}:ItOk K (Itr lo n) (rngT lo n) (fun _ _=>True):=by
 refine ⟨fun _ _ _ _ _ h=>h,fun i H O _ hi=>by show i<n;simpa [rngT] using hi,fun i H O x H' t _ e _ y=>?_,fun H O _=>by simp [Itr,rngT]⟩
 obtain ⟨e1,y⟩:=y
 subst e1;subst y
 unfold rngT at e
 rw [List.getElem?_map] at e
 have hi:i<n:=by
  rcases Nat.lt_or_ge i n with c | c
  ·exact c
  ·rw [List.getElem?_eq_none (by simpa using c)] at e;cases e
 rw [List.getElem?_range hi] at e
 cases e
 exact ⟨Kp.refl _ _,fun _ _ z=>z,rfl⟩
theorem ite_ok {p:Addr} {xs:List T}:ItOk K (Ite K p) (xs.zipIdx.map fun q=>T.tup [.int (q.2:Int),q.1]) (fun H O=>Rp K H O (.lst xs) (.ref p)):=by
 refine ⟨fun H H' O O' k h=>Rp.step k h,fun i H O h hi=>?_,fun i H O x H' t h e hO y=>?_,fun H O h=>?_⟩
 ·obtain ⟨a,vs,e,sq,rs⟩:=h.sqL
  cases e
  have hi':i<xs.length:=by simpa using hi
  exact ⟨vs,vs[i]'(by rw [rs.length];exact hi'),sq,List.getElem?_eq_getElem _⟩
 ·obtain ⟨pp,w,e1,hp,e2,y⟩:=y
  subst e1;subst e2
  obtain ⟨a,vs,e3,sq,rs⟩:=h.sqL
  cases e3
  rw [List.getElem?_map] at e
  cases q:xs.zipIdx[i]? with
  | none=>rw [q] at e;cases e
  | some z=>
   rw [q] at e;cases e
   obtain ⟨q1,q2⟩:=List.getElem?_eq_some_iff.mp q
   have q1':i<xs.length:=by simpa using q1
   rw [List.getElem_zipIdx] at q2
   subst q2
   obtain ⟨v,h1,h2⟩:=rs.get (List.getElem?_eq_getElem q1')
   rw [y vs sq] at h1;cases h1
   have k:Kp O O H (upd H pp (.tup [.int (i:Int),w])):=Kp.upd hp
   refine ⟨k,fun b o z=>by rw [upd_ne (ne_of_none z hp)];exact z,pp,_,rfl,.inl ⟨fun z=>hO pp z hp,.inl upd_same⟩,_,_,rfl,?_,w,[],rfl,h2.step k,rfl⟩
   simp [Rp]
 ·obtain ⟨a,vs,e,sq,rs⟩:=h.sqL
  cases e
  exact ⟨vs,sq,by simp [rs.length]⟩
def iL (Fa:FE):FI:=fun E Q=>Fa E fun r E1=>match vl E1 r with
 | some (.lst xs)=>Q xs (usd E1 r) E1
 | _=>False
def iT (Fa:FE):FI:=fun E Q=>Fa E fun r E1=>match vl E1 r with
 | some (.tup xs)=>Q xs [] E1
 | _=>False
theorem fi_list {tg l:Expr} (eK:X.K=K) (hl:QE X l (simE K Fa)):QI X tg l (simI K (iL Fa)):=by
 subst eK
 refine (qi_list hl).le fun σ H R hn ⟨B,S,E,Q',hS,re,hF,lk⟩=>⟨B,S,E,_,hS,re,hF,fun r E1 v H1 S1 q g re1 rr=>?_⟩
 split at q
 ·rename_i xs e1
  obtain ⟨a,vs,e2,sq,rs⟩:=re1.vl rr e1
  exact ⟨a,e2,⟨vs,sq⟩,lk _ _ _ _ _ _ _ q g re1 itl_ok usd_own fun O h1 h2=>by rw [←e2];exact rd_of re1 rr e1 O h1 h2⟩
 ·exact q.elim
theorem fi_tup {tg l:Expr} (eK:X.K=K) (hl:QE X l (simE K Fa)):QI X tg l (simI K (iT Fa)):=by
 subst eK
 refine (qi_tup hl).le fun σ H R hn ⟨B,S,E,Q',hS,re,hF,lk⟩=>⟨B,S,E,_,hS,re,hF,fun r E1 v H1 S1 q g re1 rr=>?_⟩
 split at q
 ·rename_i xs e1
  obtain ⟨a,vs,e2,sq,rs⟩:=re1.vl rr e1
  refine ⟨a,e2,⟨vs,sq⟩,lk _ _ _ _ _ _ _ q g re1 itt_ok (fun j hj=>absurd hj (by simp)) fun O h1 h2=>?_⟩
  rw [←e2]
  refine rd_of re1 rr e1 O h1 fun j hj=>?_
  cases r with
  | p _=>simp [usd] at hj
  | s m=>
   cases q2:E1[m]? with
   | none=>simp only [vl,q2] at e1;cases e1
   | some u=>
    cases u with
    | none=>simp only [vl,q2] at e1;cases e1
    | some u=>
     cases u with
     | p u=>simp [usd,q2] at hj
     | o k ys=>simp only [vl,q2] at e1;cases e1
 ·exact q.elim
def iR1 (Fr:FA):FI:=fun E Q=>Fr E fun rs E1=>match rs with
 | [x]=>i1 (vl E1 x) fun j=>(-(2^62)≤j∧j<2^62)∧Q (rngT 0 j.toNat) [] E1
 | _=>False
theorem fi_range1 {n:Nat} {tg:Expr} {p:Pos} (hg:Gl X "range") (hm:X.mg "range" = none) (ha:QA X [a] (simA K n Fr)) (hs:isStar a=false:=by rfl):QI X tg (.Call (.Name "range" p) [a] [] pos) (simI K (iR1 Fr)):=by
 refine (qi_range1 hg hm ha hs).le fun σ H R hn ⟨B,S,E,Q',hS,re,hF,lk⟩=>⟨B,S,E,_,hS,re,hF,fun rs E1 vs H1 S1 q g re1 rr hn=>?_⟩
 match rs,rr,q with
 | [x],⟨v,ws,e1,h1,h2⟩,q=>
  cases h2;subst e1
  obtain ⟨j,e2,c,q⟩:=i1.ex q
  exact ⟨j,by rw [re1.int h1 e2],c.1,c.2,lk _ _ _ _ _ _ _ q g re1 itr_ok (fun j hj=>absurd hj (by simp)) fun _ _ _=>trivial⟩
 | [],_,q=>exact q.elim
 | _::_::_,_,q=>exact q.elim
def iE (Fr:FA):FI:=fun E Q=>Fr E fun rs E1=>match rs with
 | [r]=>(match vl E1 r with
  | some (.lst xs)=>Q (xs.zipIdx.map fun q=>T.tup [.int (q.2:Int),q.1]) (usd E1 r) E1
  | _=>False)
 | _=>False
theorem fi_enum {n:Nat} {p tpos:Pos} {elts:List Expr} {x1} (eK:X.K=K) (hg:Gl X "enumerate") (hm:X.mg "enumerate" = none) (ha:QA X [a] (simA K n Fr)) (hs:isStar a=false:=by rfl):QI X (.Tuple elts x1 tpos) (.Call (.Name "enumerate" p) [a] [] pos) (simI K (iE Fr)):=by
 subst eK
 refine (qi_enum hg hm ha hs).le fun σ H R hn ⟨B,S,E,Q',hS,re,hF,lk⟩=>⟨B,S,E,_,hS,re,hF,fun rs E1 vs H1 S1 q g re1 rr hn=>?_⟩
 match rs,rr,q with
 | [r],⟨v,ws,e1,h1,h2⟩,q=>
  cases h2;subst e1
  simp only at q
  split at q
  ·rename_i xs e1
   obtain ⟨a,vs,e2,sq,rs⟩:=re1.vl h1 e1
   exact ⟨a,by rw [e2],⟨vs,sq⟩,lk _ _ _ _ _ _ _ q g re1 ite_ok usd_own fun O k1 k2=>by rw [←e2];exact rd_of re1 h1 e1 O k1 k2⟩
  ·exact q.elim
 | [],_,q=>exact q.elim
 | _::_::_,_,q=>exact q.elim
end
end L2
set_option Elab.async false
set_option linter.all false
set_option maxRecDepth 100000
set_option maxHeartbeats 4000000
namespace L2
open PySem PySem.Spec PyProof.Rows
mutual
def noL:T→Bool
 | .lst _=>false
 | .tup xs=>noLs xs
 | _=>true
def noLs:List T→Bool
 | []=>true
 | x::xs=>noL x&&noLs xs
end
def LstOf (H:Hp) (a:Addr):Prop:=∃ws,H a=some (.lst ws)
section
variable {K:PySem.W.Frag} {H:Hp} {O O':Addr→Prop}
mutual
theorem Rp.noL (hO:∀a,O' a→LstOf H a):∀{t:T} {v:V},L2.noL t=true→Rp K H O t v→Rp K H O' t v
 | .non,_,_,h=>h
 | .bl _,_,_,h=>h
 | .int _,_,_,h=>h
 | .str _,_,_,h=>h
 | .lst _,_,e,_=>by simp [L2.noL] at e
 | .tup xs,v,e,h=>by
  obtain ⟨a,vs,e1,h1,h2⟩:=h
  refine ⟨a,vs,e1,h1.imp (fun ⟨_,h⟩=>⟨fun z=>?_,h⟩) id,Rps.noL hO (by simpa [L2.noL] using e) h2⟩
  obtain ⟨ws,q⟩:=hO a z
  rcases h with h | ⟨o,h⟩
  ·rw [h] at q;cases q
  ·rw [h] at q;cases q
theorem Rps.noL (hO:∀a,O' a→LstOf H a):∀{xs:List T} {vs:List V},noLs xs=true→Rps K H O xs vs→Rps K H O' xs vs
 | [],_,_,h=>h
 | x::xs,vs,e,h=>by
  obtain ⟨v,r,e1,h1,h2⟩:=h
  have e':L2.noL x=true∧noLs xs=true:=by simpa [noLs] using e
  exact ⟨v,r,e1,Rp.noL hO e'.1 h1,Rps.noL hO e'.2 h2⟩
end
end
section
variable {K:PySem.W.Frag} {B:Addr→Prop} {H H':Hp} {S S':St} {E E':En} {σ:St}
theorem RE.push (re:RE K B H' S E) {a:Addr} {ts:List T} {vs:List V} (ha:H' a=some (.lst vs)) (hn:¬Ow B S E a) (hb:¬B a)
  (hp:∀(i:Nat) (t:T),E[i]? = some (some (.p t))→∃v,S[i]? = some (some v)∧Rp K H' (fun b=>Ow B S E b∨b=a) t v)
  (ho:∀(i:Nat) (k:Bool) (xs:List T),E[i]? = some (some (.o k xs))→∃b ws,S[i]? = some (some (.ref b))∧H' b=some (.lst ws)∧Rps K H' (fun b=>Ow B S E b∨b=a) xs ws)
  (h:Rps K H' (fun b=>Ow B S E b∨b=a) ts vs) :
  RE K B H' (S++[some (.ref a)]) (E++[some (.o false ts)])∧∀b,Ow B (S++[some (.ref a)]) (E++[some (.o false ts)]) b→Ow B S E b∨b=a:=by
 have gE:∀{i:Nat} {u:U},(E++[some (.o false ts)])[i]? = some (some u)→(E[i]? = some (some u)∧i<E.length)∨(i=E.length∧u = .o false ts):=fun {i u} h=>by
  rcases get_push h with ⟨c,h⟩ | ⟨c,h⟩
  ·exact .inl ⟨h,c⟩
  ·exact .inr ⟨c,Option.some.inj h⟩
 have gS:∀{i:Nat} {x:Option V},S[i]? = some x→(S++[some (.ref a)])[i]? = some x:=fun {i x} h=>pre_get ⟨_,rfl⟩ h
 have gS':∀{i:Nat} {x:Option V},i<E.length→(S++[some (.ref a)])[i]? = some x→S[i]? = some x:=fun {i x} c h=>by
  rw [List.getElem?_append_left (by rw [re.len];exact c)] at h;exact h
 have lS:(S++[some (.ref a)])[E.length]? = some (some (.ref a)):=by rw [←re.len];simp
 have ow:∀b,Ow B (S++[some (.ref a)]) (E++[some (.o false ts)]) b→Ow B S E b∨b=a:=fun b z=>by
  rcases z with z | ⟨i,k,xs,h1,h2⟩
  ·exact .inl (.inl z)
  rcases gE h1 with ⟨h1,c⟩ | ⟨c,h1⟩
  ·exact .inl (.inr ⟨i,k,xs,h1,gS' c h2⟩)
  ·subst c;rw [lS] at h2;cases h2;exact .inr rfl
 have kl:Kp (fun b=>Ow B S E b∨b=a) (Ow B (S++[some (.ref a)]) (E++[some (.o false ts)])) H' H':=Kp.less ow
 refine ⟨⟨by simp [re.len],fun i t h=>?_,fun i l xs h=>?_,fun i j l m xs ys b h1 h2 h3 h4=>?_,re.bd⟩,ow⟩
 ·rcases gE h with ⟨h,c⟩ | ⟨c,h⟩
  ·obtain ⟨v,h1,h2⟩:=hp i t h
   exact ⟨v,gS h1,h2.step kl⟩
  ·cases h
 ·rcases gE h with ⟨h,c⟩ | ⟨c,h⟩
  ·obtain ⟨b,ws,h1,h2,h3⟩:=ho i l xs h
   obtain ⟨b',_,q1,_,_,q4⟩:=re.own i l xs h
   rw [h1] at q1;cases q1
   exact ⟨b,ws,gS h1,h2,h3.step kl,q4⟩
  ·cases h
   subst c
   exact ⟨a,vs,lS,ha,Rps.step kl (by assumption),⟨fun z=>absurd z (by decide),fun z=>absurd z hb⟩⟩
 ·rcases gE h1 with ⟨h1,c1⟩ | ⟨c1,h1⟩
  ·rcases gE h2 with ⟨h2,c2⟩ | ⟨c2,h2⟩
   ·exact re.inj i j l m xs ys b h1 h2 (gS' c1 h3) (gS' c2 h4)
   ·subst c2
    rw [lS] at h4;cases h4
    exact absurd (.inr ⟨i,l,xs,h1,gS' c1 h3⟩) hn
  ·rcases gE h2 with ⟨h2,c2⟩ | ⟨c2,h2⟩
   ·subst c1
    rw [lS] at h3;cases h3
    exact absurd (.inr ⟨j,m,ys,h2,gS' c2 h4⟩) hn
   ·rw [c1,c2]
theorem RE.pad (re:RE K B H S E) (n:Nat):RE K B H (S++List.replicate n none) (E++List.replicate n none)∧(∀b,Ow B (S++List.replicate n none) (E++List.replicate n none) b→Ow B S E b):=by
 have gE:∀{i:Nat} {u:U},(E++List.replicate n none)[i]? = some (some u)→E[i]? = some (some u)∧i<E.length:=fun {i u} h=>by
  rcases Nat.lt_or_ge i E.length with c | c
  ·rw [List.getElem?_append_left c] at h;exact ⟨h,c⟩
  ·rw [List.getElem?_append_right c] at h
   have:=List.mem_of_getElem? h
   rw [List.mem_replicate] at this
   cases this.2
 have gS:∀{i:Nat} {x:Option V},S[i]? = some x→(S++List.replicate n none)[i]? = some x:=fun {i x} h=>pre_get ⟨_,rfl⟩ h
 have gS':∀{i:Nat} {x:Option V},i<E.length→(S++List.replicate n none)[i]? = some x→S[i]? = some x:=fun {i x} c h=>by
  rw [List.getElem?_append_left (by rw [re.len];exact c)] at h;exact h
 have ow:∀b,Ow B (S++List.replicate n none) (E++List.replicate n none) b→Ow B S E b:=fun b z=>z.imp id fun ⟨i,k,xs,h1,h2⟩=>⟨i,k,xs,(gE h1).1,gS' (gE h1).2 h2⟩
 have kl:Kp (Ow B S E) (Ow B (S++List.replicate n none) (E++List.replicate n none)) H H:=Kp.less ow
 refine ⟨⟨by simp [re.len],fun i t h=>?_,fun i l xs h=>?_,fun i j l m xs ys b h1 h2 h3 h4=>?_,re.bd⟩,ow⟩
 ·obtain ⟨v,h1,h2⟩:=re.pure i t (gE h).1
  exact ⟨v,gS h1,h2.step kl⟩
 ·obtain ⟨b,ws,h1,h2,h3,h4⟩:=re.own i l xs (gE h).1
  exact ⟨b,ws,gS h1,h2,h3.step kl,h4⟩
 ·exact re.inj i j l m xs ys b (gE h1).1 (gE h2).1 (gS' (gE h1).2 h3) (gS' (gE h2).2 h4)
end
inductive A where
 | v (t:T) | b (xs:List T)
inductive RV where
 | v (t:T) | l (xs:List T)
abbrev SpT:=List A→(RV→List T→Prop)→Prop
def enA:List A→En
 | []=>[]
 | .v t::r=>some (.p t)::enA r
 | .b xs::r=>some (.o true xs)::enA r
theorem enA_length:∀{as:List A},(enA as).length=as.length
 | []=>rfl
 | .v t::r=>by simp [enA,enA_length (as:=r)]
 | .b t::r=>by simp [enA,enA_length (as:=r)]
def boxIn:List A→Option Nat
 | []=>none
 | .b _::_=>some 0
 | .v _::r=>(boxIn r).map (· + 1)
def RRv (K:PySem.W.Frag) (H H':Hp):RV→V→Prop
 | .v t,v=>Rp K H' (LstOf H) t v
 | .l xs,v=>∃a ws,v = .ref a∧H a=none∧H' a=some (.lst ws)∧Rps K H' (fun b=>LstOf H b∨b=a) xs ws
def spOf (K:PySem.W.Frag) (S:SpT):Sp:=fun vs H Q _=>∃(as:List A) (Q':RV→List T→Prop) (bx:Option Addr),RE K (fun a=>bx=some a) H (vs.map some) (enA as)∧(boxIn as=none→bx=none)∧S as Q'∧
 ∀r xs v H',Q' r xs→(∀b o,H b=some o→bx≠some b→H' b=some o)→(∀a,bx=some a→∃ws,H' a=some (.lst ws)∧Rps K H' (LstOf H') xs ws)→RRv K H H' r v→Q v H'
def bxEnd (as:List A) (E:En):Option (List T):=match boxIn as with
 | none=>some []
 | some j=>match E[j]? with
  | some (some (.o true xs))=>if noLs xs=true then some xs else none
  | _=>none
def endT (as:List A) (Q:RV→List T→Prop):ET where
 nx:=fun E=>o1 (bxEnd as E) fun xs=>Q (.v .non) xs
 rt:=fun r E=>o1 (bxEnd as E) fun xs=>match r with
  | .p t=>noL t=true∧Q (.v t) xs
  | .s i=>match E[i]? with
   | some (some (.o false ys))=>noLs ys=true∧Q (.l ys) xs
   | some (some (.p t))=>noL t=true∧Q (.v t) xs
   | _=>False
theorem enA_k:∀{as:List A} {j:Nat} {k:Bool} {xs:List T},(enA as)[j]? = some (some (.o k xs))→k=true
 | [],j,_,_,h=>by simp [enA] at h
 | .b _::_,0,_,_,h=>by simp [enA] at h;exact h.1
 | .v _::_,0,_,_,h=>by simp [enA] at h
 | .b _::r,j+1,_,_,h=>enA_k (as:=r) (j:=j) (by simpa [enA] using h)
 | .v _::r,j+1,_,_,h=>enA_k (as:=r) (j:=j) (by simpa [enA] using h)
section
variable {P:Program} {w:World} {K:PySem.W.Frag} {mg:Str→Option Value} {base:Heap}
theorem Fun.okT {x qual:Str} {st:Stmt} {f:Addr} {fd:FuncData} {N ps:List Str} {k:Nat} {S:SpT} {F:FS} (Fn:Fun K x qual st f fd) (Sc:FnScope N ps (defScope st)) (len:∀as Q,S as Q→as.length=ps.length)
  (hb:∀(cdv:Value) (A:Around) (outer:List Env) (s:Shared) (H:Hp) (E:XK),Room k (A.deeper (envOfC qual (defScope st) s.heap.objs.size f cdv))→QB (cxOf CX0 P w K mg base N qual (defScope st) f cdv A outer s H E).nox (defBody st) (simS K F))
  (hF:∀as Q,S as Q→F (endT as Q) (enA as++List.replicate (N.length-as.length) none)):FnOk P w K mg base CX0 (k+1) f fd ps (spOf K S):=by
 refine Fn.okQ Sc (fun vs H Q E ⟨as,Q',bx,re,hbn,hS,l⟩=>?_) (fun cdv A outer s H vs Q E hr ⟨as,Q',bx,re,hbn,hS,l⟩=>?_)
 ·have:=re.len
  rw [List.length_map,enA_length] at this
  rw [this];exact len as Q' hS
 have hl:vs.length=as.length:=by have:=re.len;rwa [List.length_map,enA_length] at this
 refine ⟨_,hb cdv A outer s H E hr,?_⟩
 obtain ⟨re0,ow0⟩:=re.pad (N.length-as.length)
 have hst:start N vs=vs.map some++List.replicate (N.length-as.length) none:=by unfold start;rw [hl]
 rw [hst]
 -- the box's address
 have own0:∀b,Ow (fun a=>bx=some a) (vs.map some) (enA as) b→bx=some b:=fun b z=>by
  rcases z with z | ⟨i,kk,xs,h1,h2⟩
  ·exact z
  obtain ⟨a,ws,q1,_,_,q4⟩:=re.own i kk xs h1
  rw [h2] at q1;cases q1
  exact q4.mp (enA_k h1)
 have fr:∀{H':Hp} {S':St} {E':En},Gs (fun a=>bx=some a) H (vs.map some++List.replicate (N.length-as.length) none) (enA as++List.replicate (N.length-as.length) none) H' S' E'→∀b o,H b=some o→bx≠some b→H' b=some o:=fun g b o h n=>g.keep b o h fun z=>n (own0 b (ow0 b z))
 have fin:∀{r:RV} {xs:List T} {v:V} {H':Hp} {S':St} {E':En},bxEnd as E'=some xs→Q' r xs→Gs (fun a=>bx=some a) H (vs.map some++List.replicate (N.length-as.length) none) (enA as++List.replicate (N.length-as.length) none) H' S' E'→RE K (fun a=>bx=some a) H' S' E'→
   ((∀a,LstOf H a→LstOf H' a)→RRv K H H' r v)→Q v H':=fun {r xs v H' S' E'} e q g re' hr=>by
  have hbx:∀a,bx=some a→∃ws,H' a=some (.lst ws)∧Rps K H' (LstOf H') xs ws:=fun a ha=>by
   unfold bxEnd at e
   cases qb:boxIn as with
   | none=>
    rw [qb] at e;cases e
    rw [hbn qb] at ha;cases ha
   | some j=>
    rw [qb] at e
    simp only at e
    split at e
    ·rename_i ys hE
     split at e
     ·cases e
      rename_i hnl
      obtain ⟨b,ws,h1,h2,h3,h4⟩:=re'.own j true xs hE
      have:bx=some b:=h4.mp rfl
      rw [ha] at this;cases this
      exact ⟨ws,h2,Rps.noL (fun _ z=>z) hnl h3⟩
     ·cases e
    ·cases e
  refine l r xs v H' q (fr g) hbx (hr fun a ⟨ws,ha⟩=>?_)
  by_cases c:bx=some a
  ·obtain ⟨ws',h,_⟩:=hbx a c;exact ⟨ws',h⟩
  ·exact ⟨ws,fr g a _ ha c⟩
 refine ⟨_,_,_,re0,hF as Q' hS,⟨fun σ' H' E' q g re'=>?_,fun r E' v H' S' q g re' rr=>?_,fun _ _ _ z=>z.elim,fun _ _ _ z=>z.elim⟩⟩
 ·obtain ⟨xs,e,q⟩:=q.ex
  exact fin e q g re' fun _=>rfl
 ·obtain ⟨xs,e,q⟩:=q.ex
  cases r with
  | p t=>exact fin e q.2 g re' fun h=>Rp.noL h q.1 rr
  | s i=>
   simp only at q
   split at q
   ·rename_i ys hE
    refine fin e q.2 g re' fun h=>?_
    obtain ⟨b,ws,h1,h2,h3,h4⟩:=re'.own i false ys hE
    have rr':S'[i]? = some (some v):=rr
    rw [rr'] at h1;cases h1
    refine ⟨b,ws,rfl,?_,h2,Rps.noL (fun a z=>?_) q.1 h3⟩
    ·rcases g.new b (.inr ⟨i,false,ys,hE,rr'⟩) with z | z
     ·have:=h4.mpr (own0 b (ow0 b z));cases this
     ·exact z
    ·rcases z with z | z
     ·exact h a z
     ·exact ⟨ws,by rw [z];exact h2⟩
   ·rename_i t hE
    obtain ⟨w,h1,h2⟩:=re'.pure i t hE
    have rr':S'[i]? = some (some v):=rr
    rw [rr'] at h1;cases h1
    exact fin e q.2 g re' fun h=>Rp.noL h q.1 h2
   ·exact q.elim
end
def mkV (E:En):List R→Option (List T)
 | []=>some []
 | r::rs=>match vl E r,mkV E rs with
  | some t,some ts=>some (t::ts)
  | _,_=>none
def told (E:En) (Q:R→En→Prop):RV→Prop
 | .v t=>Q (.p t) E
 | .l xs=>Q (.s E.length) (E++[some (.o false xs)])
def fCall (S:SpT) (Fr:FA):FE:=fun E Q=>Fr E fun rs E1=>o1 (mkV E1 rs) fun ts=>S (ts.map A.v) fun r _=>told E1 Q r
def fCallB (S:SpT) (Fr:FA):FE:=fun E Q=>Fr E fun rs E1=>match rs with
 | .s j::rs=>(match E1[j]? with
  | some (some (.o k xs))=>cond (rs.all fun r=>!(usd E1 r).contains j) (o1 (mkV E1 rs) fun ts=>S (.b xs::ts.map A.v) fun r ys=>told (E1.set j (some (.o k ys))) Q r) False
  | _=>False)
 | _=>False
section
variable {K:PySem.W.Frag} {B:Addr→Prop} {H H':Hp} {S S':St} {E E':En} {σ:St}
theorem mkV_ok (re:RE K B H S E):∀{rs:List R} {vs:List V} {ts:List T},RRs K B H S E rs vs→mkV E rs=some ts→∀(O:Addr→Prop),(∀b,O b→Ow B S E b)→(∀r∈rs,∀j∈usd E r,∀a,S[j]? = some (some (.ref a))→¬O a)→Rps K H O ts vs
 | [],_,_,h,e,_,_,_=>by cases e;exact h
 | r::rs,_,ts,⟨v,ws,e1,h1,h2⟩,e,O,hO,hu=>by
  cases q1:vl E r with
  | none=>simp only [mkV,q1] at e;cases e
  | some t=>
   cases q2:mkV E rs with
   | none=>simp only [mkV,q1,q2] at e;cases e
   | some us=>
    simp only [mkV,q1,q2] at e;cases e
    exact ⟨v,ws,e1,rd_of re h1 q1 O hO (hu r (by simp)),mkV_ok re h2 q2 O hO fun r' hr=>hu r' (by simp [hr])⟩
theorem enA_v:∀{ts:List T},enA (ts.map A.v)=ts.map fun t=>some (U.p t)
 | []=>rfl
 | t::ts=>by simp [enA,enA_v (ts:=ts)]
theorem told_ok (re:RE K B H S E) (re':RE K B H' S E') (hk:∀b o,H b=some o→¬Ow B S E b→H' b=some o) (hw:∀b,Ow B S E' b→Ow B S E b)
  (hE:∀(i:Nat) (k:Bool) (xs:List T),E'[i]? = some (some (.o k xs))→(E[i]? = some (some (.o k xs))∧∀a,S[i]? = some (some (.ref a))→H' a=H a)∨∀a ws,S[i]? = some (some (.ref a))→H' a=some (.lst ws)→Rps K H' (LstOf H') xs ws)
  (hP:∀(i:Nat) (t:T),E'[i]? = some (some (.p t))→E[i]? = some (some (.p t)))
  {r:RV} {v:V} (rv:RRv K H H' r v) {Q:R→En→Prop} (q:told E' Q r) {Qv:VK} (lk:Lk K B H S E Q Qv):Qv v H':=by
 have kp:Kp (Ow B S E) (Ow B S E') H H':=⟨hk,fun b z=>.inl (hw b z)⟩
 cases r with
 | v t=>exact lk _ _ _ _ _ q ⟨kp,[],by simp⟩ re' (Rp.step (Kp.less fun b z=>re.ow (hw b z)) rv)
 | l xs=>
  obtain ⟨a,ws,rfl,h1,h2,h3⟩:=rv
  have nOw:¬Ow B S E' a:=fun z=>re.nn h1 (hw a z)
  have nB:¬B a:=fun z=>re.nn h1 (.inl z)
  have kp2:Kp (Ow B S E) (fun b=>Ow B S E' b∨b=a) H H':=⟨hk,fun b z=>by
   rcases z with z | z
   ·exact .inl (hw b z)
   ·exact .inr (by rw [z];exact h1)⟩
  obtain ⟨r1,r2⟩:=re'.push h2 nOw nB (fun i t h=>by
    obtain ⟨w,q1,q2⟩:=re.pure i t (hP i t h)
    exact ⟨w,q1,q2.step kp2⟩) (fun i k ys h=>by
    obtain ⟨b,us,q1,q2,q3,_⟩:=re'.own i k ys h
    refine ⟨b,us,q1,q2,?_⟩
    rcases hE i k ys h with ⟨z,zz⟩ | z
    ·obtain ⟨b',us',p1,p2,p3,_⟩:=re.own i k ys z
     rw [q1] at p1;cases p1
     have e:=zz b q1
     rw [q2,p2] at e;cases e
     exact p3.step kp2
    ·exact (z b us q1 q2).step (Kp.less fun c hc=>by
      rcases hc with hc | hc
      ·exact re'.ow hc
      ·exact ⟨ws,by rw [hc];exact h2⟩)) (h3.step (Kp.less fun b z=>by
    rcases z with z | z
    ·exact .inl (re.ow (hw b z))
    ·exact .inr z))
  refine lk _ _ _ _ _ q ⟨⟨hk,fun b z=>?_⟩,[some (.ref a)],rfl⟩ r1 ?_
  ·rcases r2 b z with z | z
   ·exact .inl (hw b z)
   ·exact .inr (by rw [z];exact h1)
  ·show (S++[some (V.ref a)])[E'.length]? = _
   rw [←re'.len];simp
end
section
variable {X:Cx} {K:PySem.W.Frag} {pos:Pos} {e:Expr} {es:List Expr} {Fr:FA}
theorem call_sim {n:Nat} {S:SpT} {σ:St} {H:Hp} {Q:VK} (h:simE K (fCall S Fr) σ H Q):tCall (spOf K S) [] E0 (simA K n Fr) σ H Q:=by
 refine args (Fr:=Fr) h fun B S' E rs vs H2 Q' hS re rr hn q lk=>?_
 obtain ⟨ts,e1,q⟩:=q.ex
 rw [List.append_nil]
 have rp:=mkV_ok re rr e1 (fun _=>False) (fun _ z=>z.elim) (fun _ _ _ _ _ _ z=>z)
 have no:∀b,¬Ow (fun a=>(none:Option Addr)=some a) (vs.map some) (ts.map fun t=>some (U.p t)) b:=fun b z=>by
  rcases z with z | ⟨i,k,xs,h1,_⟩
  ·cases z
  rw [List.getElem?_map] at h1
  cases q:ts[i]? with
  | none=>rw [q] at h1;cases h1
  | some t=>rw [q] at h1;cases h1
 refine ⟨ts.map A.v,_,none,?_,fun _=>rfl,q,fun r xs v H' q2 fr _ rv=>?_⟩
 ·rw [enA_v]
  refine ⟨by simp [rp.length],fun i t h=>?_,fun i k xs h=>?_,fun i j k l xs ys a h _ _ _=>?_,fun a z=>by cases z⟩
  ·rw [List.getElem?_map] at h
   cases q:ts[i]? with
   | none=>rw [q] at h;cases h
   | some u=>
    rw [q] at h;cases h
    obtain ⟨v,h1,h2⟩:=rp.get q
    exact ⟨v,by rw [List.getElem?_map,h1];rfl,h2.step (Kp.less fun b z=>no b z)⟩
  ·rw [List.getElem?_map] at h
   cases q:ts[i]? with
   | none=>rw [q] at h;cases h
   | some t=>rw [q] at h;cases h
  ·rw [List.getElem?_map] at h
   cases q:ts[i]? with
   | none=>rw [q] at h;cases h
   | some t=>rw [q] at h;cases h
 ·have same:∀b o,H2 b=some o→H' b=some o:=fun b o z=>fr b o z (by intro z;cases z)
  exact told_ok re (re.kept same) (fun b o z _=>same b o z) (fun b z=>z) (fun i k xs h=>.inl ⟨h,fun a ha=>by
   obtain ⟨a',ws,h1,h2,_⟩:=re.own i k xs h
   rw [ha] at h1;cases h1
   rw [h2];exact same _ _ h2⟩) (fun i t h=>h) rv q2 lk
theorem fe_call {n k j:Nat} {x:Str} {ps:List Str} {S:SpT} {p:Pos} (F:Fn X.prog X.w X.K X.mg X.base k x ps (spOf K S)) (hr:Room j X.A) (hk:k≤j) (hg:Gl X x) (ha:QA X (e::es) (simA K n Fr)) (hdb:(x==("__debug__":Str))=false:=by decide)
  (hs:noStar (e::es)=true:=by rfl):QE X (.Call (.Name x p) (e::es) [] pos) (simE K (fCall S Fr)):=(qe_fnS F hr hk hg ha hdb hs).le fun _ _ _ _ h=>call_sim h
theorem fe_callB {n k j:Nat} {x:Str} {ps:List Str} {S:SpT} {p:Pos} (F:Fn X.prog X.w X.K X.mg X.base k x ps (spOf K S)) (hr:Room j X.A) (hk:k≤j) (hg:Gl X x) (ha:QA X (e::es) (simA K n Fr)) (hdb:(x==("__debug__":Str))=false:=by decide)
  (hs:noStar (e::es)=true:=by rfl):QE X (.Call (.Name x p) (e::es) [] pos) (simE K (fCallB S Fr)):=by
 refine (qe_fnS F hr hk hg ha hdb hs).le fun σ H Q hl h=>args (Fr:=Fr) h fun B S' E rs vs H2 Q' hS re rr hn q lk=>?_
 rw [List.append_nil]
 split at q
 ·rename_i jb rs'
  split at q
  ·rename_i kb xs hE
   cases qc:(rs'.all fun r=>!(usd E r).contains jb) with
   | false=>rw [qc] at q;exact q.elim
   | true=>
    rw [qc] at q
    obtain ⟨ts,e1,q⟩:=o1.ex q
    obtain ⟨v0,ws,e2,h0,h2⟩:=rr
    subst e2
    have h0':S'[jb]? = some (some v0):=h0
    obtain ⟨a0,us,k1,k2,k3,k4⟩:=re.own jb kb xs hE
    rw [h0'] at k1;cases k1
    have ow0:Ow B S' E a0:=.inr ⟨jb,kb,xs,hE,h0'⟩
    have rp:=mkV_ok re h2 e1 (fun b=>b=a0) (fun b z=>by rw [z];exact ow0) (fun r hr m hm a hma z=>by
     subst z
     have c:=List.all_eq_true.mp qc r hr
     have:m=jb:=by
      cases r with
      | p _=>simp [usd] at hm
      | s l=>
       cases ql:E[l]? with
       | none=>simp [usd,ql] at hm
       | some u=>
        cases u with
        | none=>simp [usd,ql] at hm
        | some u=>
         cases u with
         | p _=>simp [usd,ql] at hm
         | o kk zs=>
          simp [usd,ql] at hm
          subst hm
          exact re.inj _ _ kk kb zs xs a ql hE hma h0'
     subst this
     have hc:(usd E r).contains m=true:=by simpa using hm
     rw [hc] at c;cases c)
    have get:∀{i:Nat} {u:U},(some (U.o true xs)::ts.map fun t=>some (U.p t))[i]? = some (some u)→(i=0∧u = .o true xs)∨∃m t,i=m+1∧ts[m]? = some t∧u = .p t:=fun {i u} h=>by
     cases i with
     | zero=>simp at h;exact .inl ⟨rfl,h.symm⟩
     | succ m=>
      rw [List.getElem?_cons_succ,List.getElem?_map] at h
      cases q:ts[m]? with
      | none=>rw [q] at h;cases h
      | some t=>rw [q] at h;cases h;exact .inr ⟨m,t,rfl,q,rfl⟩
    have ow:∀b,Ow (fun a=>some a0=some a) ((V.ref a0::ws).map some) (some (U.o true xs)::ts.map fun t=>some (U.p t)) b→b=a0:=fun b z=>by
     rcases z with z | ⟨i,k,ys,h1,h3⟩
     ·cases z;rfl
     rcases get h1 with ⟨c,z⟩ | ⟨m,t,_,_,z⟩
     ·subst c;simp at h3;exact h3.symm
     ·cases z
    have nb:boxIn (A.b xs::ts.map A.v)≠none:=by intro z;cases z
    refine ⟨A.b xs::ts.map A.v,_,some a0,?_,fun z=>absurd z nb,q,fun r ys v H' q2 fr bxk rv=>?_⟩
    ·have ee:enA (A.b xs::ts.map A.v)=some (U.o true xs)::ts.map fun t=>some (U.p t):=by simp [enA,enA_v]
     rw [ee]
     refine ⟨by simp [rp.length],fun i t h=>?_,fun i k zs h=>?_,fun i j k l zs ys a h1 h3 _ _=>?_,fun a z=>by cases z;exact ⟨us,k2⟩⟩
     ·rcases get h with ⟨_,z⟩ | ⟨m,t',e,q3,z⟩
      ·cases z
      ·cases z;subst e
       obtain ⟨v,h1,h2⟩:=rp.get q3
       exact ⟨v,by simp [h1],h2.step (Kp.less fun b z=>ow b z)⟩
     ·rcases get h with ⟨c,z⟩ | ⟨m,t',e,q3,z⟩
      ·cases z;subst c
       exact ⟨a0,us,by simp,k2,k3.step (Kp.less fun b z=>by rw [ow b z];exact ow0),⟨fun _=>rfl,fun _=>rfl⟩⟩
      ·cases z
     ·rcases get h1 with ⟨c,z⟩ | ⟨m,t',e,q3,z⟩
      ·rcases get h3 with ⟨c',z'⟩ | ⟨m,t',e,q3,z'⟩
       ·rw [c,c']
       ·cases z'
      ·cases z
    ·obtain ⟨ws',b1,b2⟩:=bxk a0 rfl
     have hk:∀b o,H2 b=some o→¬Ow B S' E b→H' b=some o:=fun b o z n=>fr b o z (by intro c;cases c;exact n ow0)
     have lts:∀b,Ow B S' E b→LstOf H' b:=fun b z=>by
      by_cases c:b=a0
      ·subst c;exact ⟨ws',b1⟩
      ·obtain ⟨us',e⟩:=re.ow z
       exact ⟨us',fr b _ e (by intro z;cases z;exact c rfl)⟩
     have getE:∀{i:Nat} {u:U},(E.set jb (some (.o kb ys)))[i]? = some (some u)→(i=jb∧u = .o kb ys)∨(i≠jb∧E[i]? = some (some u)):=fun {i u} h=>by
      by_cases c:i=jb
      ·subst c
       rw [List.getElem?_set_self (List.getElem?_eq_some_iff.mp hE).1] at h
       cases h;exact .inl ⟨rfl,rfl⟩
      ·rw [List.getElem?_set_ne (fun z=>c z.symm)] at h;exact .inr ⟨c,h⟩
     have kp:Kp (Ow B S' E) (Ow B S' E) H2 H':=⟨hk,fun b z=>.inl z⟩
     have owE:∀b,Ow B S' (E.set jb (some (.o kb ys))) b→Ow B S' E b:=fun b z=>by
      rcases z with z | ⟨i,k,zs,z1,z2⟩
      ·exact .inl z
      rcases getE z1 with ⟨c,z⟩ | ⟨c,z⟩
      ·subst c;exact .inr ⟨_,kb,xs,hE,z2⟩
      ·exact .inr ⟨i,k,zs,z,z2⟩
     have re':RE K B H' S' (E.set jb (some (.o kb ys))):=by
      refine re.step hk (by simp) (fun i t h=>?_) (fun i k zs h=>?_) (fun a z=>?_)
      ·rcases getE h with ⟨_,z⟩ | ⟨_,z⟩
       ·cases z
       ·exact z
      ·rcases getE h with ⟨c,z⟩ | ⟨c,z⟩
       ·cases z;subst c
        refine ⟨xs,hE,fun a ha=>?_⟩
        rw [h0'] at ha;cases ha
        exact ⟨ws',b1,b2.step (Kp.less lts)⟩
       ·refine ⟨zs,z,fun a ha=>?_⟩
        obtain ⟨a',us',p1,p2,p3,_⟩:=re.own i k zs z
        rw [ha] at p1;cases p1
        have na:a≠a0:=fun w=>c (re.inj i jb k kb zs xs a0 z hE (by rw [←w];exact ha) h0')
        exact ⟨us',fr a _ p2 (by intro w;cases w;exact na rfl),p3.step kp⟩
      ·exact lts a (.inl z)
     refine told_ok re re' hk owE (fun i k zs h=>?_) (fun i t h=>?_) rv q2 lk
     ·rcases getE h with ⟨c,z⟩ | ⟨c,z⟩
      ·cases z
       right
       intro a us2 ha hu
       subst c
       rw [h0'] at ha;cases ha
       rw [b1] at hu;cases hu
       exact b2
      ·left
       refine ⟨z,fun a ha=>?_⟩
       obtain ⟨a',us',p1,p2,p3,_⟩:=re.own i k zs z
       rw [ha] at p1;cases p1
       have na:a≠a0:=fun w=>c (re.inj i jb k kb zs xs a0 z hE (by rw [←w];exact ha) h0')
       rw [p2];exact fr a _ p2 (by intro w;cases w;exact na rfl)
     ·rcases getE h with ⟨_,z⟩ | ⟨_,z⟩
      ·cases z
      ·exact z
  ·exact q.elim
 ·exact q.elim
end
end L2
set_option Elab.async false
set_option linter.all false
set_option maxRecDepth 100000
set_option maxHeartbeats 4000000
namespace L2
open PySem PySem.Spec PyProof.Rows
def capU (bk:Bool):Option (Option U)→Option U
 | some (some (.p t))=>some (.p t)
 | some (some (.o _ xs))=>if bk=true then some (.o true xs) else some (.p (.lst xs))
 | _=>none
def capE (t:Nat) (cap:List (Nat×Bool)) (E:En):En:=List.replicate t none++cap.map fun k=>capU k.2 E[k.1]?
def boxOf:List (Nat×Bool)→Option (Nat×Nat)
 | []=>none
 | (k,true)::_=>some (0,k)
 | (_,false)::r=>(boxOf r).map fun x=>(x.1+1,x.2)
def oneBox (cap:List (Nat×Bool)):Bool:=Nat.ble (cap.filter (·.2)).length 1
def wback (t:Nat) (cap:List (Nat×Bool)) (Ein E:En):Option En:=match boxOf cap with
 | none=>some E
 | some (j,k)=>match E[k]?,Ein[t+j]? with
  | some (some (.o b _)),some (some (.o true ys))=>if noLs ys=true then some (E.set k (some (.o b ys))) else none
  | some (some (.p _)),_=>some E
  | _,_=>none
def compL (g:FG) (Fe:FE):List T→En→(En→Prop)→Prop
 | [],E,Q=>Q E
 | x::xs,E,Q=>g x E fun E2=>Fe E2 fun r E3=>match r with
  | .p t=>(match E3[E.length-1]? with
   | some (some (.o false acc))=>acc.length<1000∧compL g Fe xs ((E3.set (E.length-1) (some (.o false (acc++[t])))).take E.length) Q
   | _=>False)
  | .s _=>False
def fComp (t:Nat) (cap:List (Nat×Bool)) (I:FI) (g:FG) (Fe:FE):FE:=fun E Q=>I E fun items us E1=>cap.all (fun k=>!(k.2&&us.contains k.1))=true∧
 compL g Fe items (capE t cap E1++[some (.o false [])]) fun Ein=>match Ein[t+cap.length]? with
  | some (some (.o false zs))=>noLs zs=true∧o1 (wback t cap Ein E1) fun E2=>Q (.s E2.length) (E2++[some (.o false zs)])
  | _=>False
section
variable {K:PySem.W.Frag} {B:Addr→Prop} {H H':Hp} {S S':St} {E E':En} {σ:St}
theorem capE_get {t:Nat} {cap:List (Nat×Bool)} {i:Nat} {u:U} (h:(capE t cap E)[i]? = some (some u)):∃j k b,i=t+j∧cap[j]? = some (k,b)∧capU b E[k]? = some u:=by
 unfold capE at h
 rcases Nat.lt_or_ge i t with c | c
 ·rw [List.getElem?_append_left (by simpa using c)] at h
  have:=List.mem_of_getElem? h
  rw [List.mem_replicate] at this
  cases this.2
 ·rw [List.getElem?_append_right (by simpa using c),List.length_replicate,List.getElem?_map] at h
  cases q:cap[i-t]? with
  | none=>rw [q] at h;cases h
  | some x=>
   rw [q] at h
   exact ⟨i-t,x.1,x.2,by omega,q,by simpa using h⟩
theorem capS_get {t:Nat} {cap:List (Nat×Bool)} {j k:Nat} {b:Bool} (h:cap[j]? = some (k,b)):(capS t (cap.map (·.1)) σ)[t+j]? = some ((σ[k]?).join):=by
 unfold capS
 rw [List.getElem?_append_right (by simp)]
 simp [h]
theorem boxOf_some:∀{cap:List (Nat×Bool)} {j k:Nat},boxOf cap=some (j,k)→cap[j]? = some (k,true)
 | (k,true)::r,_,_,h=>by cases h;rfl
 | (m,false)::r,j,k,h=>by
  cases q:boxOf r with
  | none=>rw [boxOf,q] at h;cases h
  | some x=>
   rw [boxOf,q] at h
   cases h
   simpa using boxOf_some (j:=x.1) (k:=x.2) q
theorem boxOf_only:∀{cap:List (Nat×Bool)} {j k:Nat},oneBox cap=true→cap[j]? = some (k,true)→boxOf cap=some (j,k)
 | [],j,k,_,h=>by simp at h
 | (m,true)::r,0,k,_,h=>by simp at h;subst h;rfl
 | (m,true)::r,j+1,k,ho,h=>by
  have h':r[j]? = some (k,true):=by simpa using h
  have:(k,true)∈r.filter (·.2):=List.mem_filter.mpr ⟨List.mem_of_getElem? h',rfl⟩
  have hl:0<(r.filter (·.2)).length:=List.length_pos_of_mem this
  unfold oneBox at ho
  rw [List.filter_cons_of_pos (by rfl)] at ho
  have:=Nat.le_of_ble_eq_true ho
  simp only [List.length_cons] at this
  omega
 | (m,false)::r,0,k,_,h=>by simp at h
 | (m,false)::r,j+1,k,ho,h=>by
  have h':r[j]? = some (k,true):=by simpa using h
  have ho':oneBox r=true:=by
   unfold oneBox at ho ⊢
   rw [List.filter_cons_of_neg (by simp)] at ho
   exact ho
  rw [boxOf,boxOf_only ho' h'];rfl
end
def Dat (i:Nat) (kvs:List (Key×V)) (σ:St) (H:Hp):Prop:=∃p,σ[i]? = some (some (.ref p))∧H p=some (.dK kvs)
abbrev DD:=Option (Nat×List (Key×V))
def DatO (d:DD) (σ:St) (H:Hp):Prop:=∀x,d=some x→Dat x.1 x.2 σ H
theorem DatO.same {d:DD} {σ:St} {H H':Hp} (h:DatO d σ H) (k:∀b o,H b=some o→H' b=some o):DatO d σ H':=fun x e=>let ⟨p,h1,h2⟩:=h x e;⟨p,h1,k _ _ h2⟩
theorem DatO.kp {d:DD} {K:PySem.W.Frag} {B O:Addr→Prop} {S σ:St} {E:En} {H H':Hp} (h:DatO d σ H) (re:RE K B H S E) (k:Kp (Ow B S E) O H H'):DatO d σ H':=fun x e=>
 let ⟨p,h1,h2⟩:=h x e;⟨p,h1,k.keep _ _ h2 fun z=>by obtain ⟨vs,e⟩:=re.ow z;rw [h2] at e;cases e⟩
def simED (d:DD) (K:PySem.W.Frag) (F:FE):TE:=fun σ H Q=>DatO d σ H∧simE K F σ H Q
def simGD (d:DD) (K:PySem.W.Frag) (g:FG):TG:=fun v σ H Q=>DatO d σ H∧simG K g v σ H fun σ' H'=>DatO d σ' H'→Q σ' H'
section
variable {X:Cx} {K:PySem.W.Frag} {pos:Pos} {Fe:FE} {g:FG} {I:FI}
theorem QG.gd {e:Expr} (h:QG X e (simG K g)):QG X e (simGD none K g):=h.le fun v σ H Q _ ⟨_,B,τ,E,t,Q',re,rp,hF,l⟩=>⟨B,τ,E,t,Q',re,rp,hF,fun σ' H' E' a b c d=>l σ' H' E' a b c d fun _ z=>by cases z⟩
theorem QE.ed {e:Expr} (h:QE X e (simE K Fe)):QE X e (simED none K Fe):=h.le fun _ _ _ _ z=>z.2
theorem comp_sim {d d':DD} {scope:Scope} {N':List Str} {cap:List (Nat×Bool)} {t:Nat} (S:CompOk X N' scope t (cap.map (·.1))) (ho:oneBox cap=true) (hnd:(cap.map (·.1)).Nodup) {σ:St} {H:Hp} {Q:VK} (hl:σ.length=X.N.length) (hdd:∀H,DatO d σ H→DatO d' (capS t (cap.map (·.1)) σ) H)
  (h:simED d K (fComp t cap I g Fe) σ H Q):tComp t (cap.map (·.1)) (simI K I) (simGD d' K g) (simED d' K Fe) σ H Q:=by
 obtain ⟨dt,B,S0,E,Q',hS,re,hF,lk⟩:=h
 refine ⟨B,S0,E,_,hS,re,hF,fun J items us E1 H1 S1 gd q g1 re1 ok husO hgd D hD=>?_⟩
 obtain ⟨hus,q⟩:=q
 obtain ⟨τ0,hS0⟩:=hS
 obtain ⟨τ1,hS1⟩:=g1.pre
 have hS1':∃τ,S1=σ++τ:=⟨τ0++τ1,by rw [hS1,hS0,List.append_assoc]⟩
 have atσ:∀{j k:Nat} {b:Bool} {v:V},cap[j]? = some (k,b)→S1[k]? = some (some v)→σ[k]? = some (some v):=fun {j k b v} hj hv=>by
  obtain ⟨x,_,hx,_⟩:=S.caps j k (by rw [List.getElem?_map,hj];rfl)
  have hk:k<σ.length:=by rw [hl];exact (List.getElem?_eq_some_iff.mp hx).1
  obtain ⟨τ,rfl⟩:=hS1'
  rw [List.getElem?_append_left hk] at hv;exact hv
 have atC:∀{j k:Nat} {b:Bool} {v:V},cap[j]? = some (k,b)→S1[k]? = some (some v)→(capS t (cap.map (·.1)) σ)[t+j]? = some (some v):=fun {j k b v} hj hv=>by rw [capS_get hj,atσ hj hv];rfl
 have backC:∀{j k:Nat} {b:Bool} {v:V},cap[j]? = some (k,b)→(capS t (cap.map (·.1)) σ)[t+j]? = some (some v)→S1[k]? = some (some v):=fun {j k b v} hj hv=>by
  rw [capS_get hj] at hv
  have:σ[k]? = some (some v):=by
   cases z:σ[k]? with
   | none=>rw [z] at hv;cases hv
   | some y=>rw [z] at hv;simpa using hv
  exact pre_get hS1' this
 obtain ⟨bx,hbx⟩:∃bx:Option Addr,∀a:Addr,bx=some a↔∃(j k:Nat) (kk:Bool) (xs:List T),cap[j]? = some (k,true)∧E1[k]? = some (some (.o kk xs))∧S1[k]? = some (some (.ref a)):=by
  by_cases hex:∃(a:Addr) (j k:Nat) (kk:Bool) (xs:List T),cap[j]? = some (k,true)∧E1[k]? = some (some (.o kk xs))∧S1[k]? = some (some (.ref a))
  ·obtain ⟨a,j,k,kk,xs,h1,h2,h3⟩:=hex
   refine ⟨some a,fun a'=>⟨fun z=>(by cases z;exact ⟨j,k,kk,xs,h1,h2,h3⟩),fun ⟨j',k',kk',xs',p1,p2,p3⟩=>?_⟩⟩
   have e1:=boxOf_only ho h1
   have e2:=boxOf_only ho p1
   rw [e1] at e2;cases e2
   rw [h3] at p3;cases p3;rfl
  ·exact ⟨none,fun a=>⟨fun z=>(by cases z),fun z=>absurd ⟨a,z⟩ hex⟩⟩
 have bxOw:∀a,bx=some a→Ow B S1 E1 a:=fun a z=>by
  obtain ⟨j,k,kk,xs,_,h2,h3⟩:=(hbx a).mp z
  exact .inr ⟨k,kk,xs,h2,h3⟩
 -- an own list of the block is the box
 have capO:∀{i:Nat} {k:Bool} {xs:List T},(capE t cap E1)[i]? = some (some (.o k xs))→∃j m kk,i=t+j∧cap[j]? = some (m,true)∧E1[m]? = some (some (.o kk xs))∧k=true:=fun {i k xs} h=>by
  obtain ⟨j,m,c,e1,e2,e3⟩:=capE_get h
  refine ⟨j,m,?_⟩
  cases qE:E1[m]? with
  | none=>rw [qE] at e3;cases e3
  | some u=>
   cases u with
   | none=>rw [qE] at e3;cases e3
   | some u=>
    cases u with
    | p _=>rw [qE] at e3;cases e3
    | o kk ys=>
     rw [qE] at e3
     cases c
     ·simp [capU] at e3
     ·simp [capU] at e3
      obtain ⟨e4,e5⟩:=e3
      exact ⟨kk,e1,e2,by rw [e5],e4⟩
 have owIn:∀b,Ow (fun a=>bx=some a) (capS t (cap.map (·.1)) σ) (capE t cap E1) b→bx=some b:=fun b z=>by
  rcases z with z | ⟨i,k,xs,h1,h2⟩
  ·exact z
  obtain ⟨j,m,kk,e1,e2,e3,_⟩:=capO h1
  subst e1
  exact (hbx b).mpr ⟨j,m,kk,xs,e2,e3,backC e2 h2⟩
 have kl:Kp (Ow B S1 E1) (Ow (fun a=>bx=some a) (capS t (cap.map (·.1)) σ) (capE t cap E1)) H1 H1:=Kp.less fun b z=>bxOw b (owIn b z)
 have reIn:RE K (fun a=>bx=some a) H1 (capS t (cap.map (·.1)) σ) (capE t cap E1):=by
  refine ⟨by simp [capS,capE],fun i u h=>?_,fun i k xs h=>?_,fun i j k l xs ys a h1 h2 h3 h4=>?_,fun a z=>re1.ow (bxOw a z)⟩
  ·obtain ⟨j,m,c,e1,e2,e3⟩:=capE_get h
   subst e1
   cases qE:E1[m]? with
   | none=>rw [qE] at e3;cases e3
   | some w=>
    cases w with
    | none=>rw [qE] at e3;cases e3
    | some w=>
     cases w with
     | p w=>
      rw [qE] at e3;cases e3
      obtain ⟨v,h1,h2⟩:=re1.pure m _ qE
      exact ⟨v,atC e2 h1,h2.step kl⟩
     | o kk ys=>
      rw [qE] at e3
      cases c
      ·simp [capU] at e3;subst e3
       obtain ⟨a,vs,h1,h2,h3,h4⟩:=re1.own m kk ys qE
       refine ⟨_,atC e2 h1,a,vs,rfl,.inl ⟨fun z=>?_,.inl h2⟩,h3.step kl⟩
       obtain ⟨j',k',kk',xs',p1,p2,p3⟩:=(hbx a).mp (owIn a z)
       have e4:=re1.inj m k' kk kk' ys xs' a qE p2 h1 p3
       subst e4
       have lt1:j<(cap.map (·.1)).length:=by rw [List.length_map];exact (List.getElem?_eq_some_iff.mp e2).1
       have lt2:j'<(cap.map (·.1)).length:=by rw [List.length_map];exact (List.getElem?_eq_some_iff.mp p1).1
       have:j=j':=(List.getElem?_inj lt1 hnd).mp (by rw [List.getElem?_map,List.getElem?_map,e2,p1];rfl)
       subst this
       rw [e2] at p1;cases p1
      ·simp [capU] at e3
  ·obtain ⟨j,m,kk,e1,e2,e3,e4⟩:=capO h
   subst e1;subst e4
   obtain ⟨a,vs,h1,h2,h3,h4⟩:=re1.own m kk _ e3
   exact ⟨a,vs,atC e2 h1,h2,h3.step kl,⟨fun _=>(hbx a).mpr ⟨j,m,kk,_,e2,e3,h1⟩,fun _=>rfl⟩⟩
  ·obtain ⟨j1,m1,k1,e1,e2,_,_⟩:=capO h1
   obtain ⟨j2,m2,k2,e3,e4,_,_⟩:=capO h2
   have z1:=boxOf_only ho e2
   have z2:=boxOf_only ho e4
   rw [z1] at z2;cases z2
   rw [e1,e3]
 -- the accumulator gets a place
 obtain ⟨gD,reD⟩:=reIn.lst (ts:=[]) (vs:=[]) hD rfl
 have gd0:gd (upd H1 D (.lst [])) (Ow (fun a=>bx=some a) (capS t (cap.map (·.1)) σ++[some (.ref D)]) (capE t cap E1++[some (.o false [])])):=by
  refine ok.keep _ _ _ _ gD.kp (hgd _ (fun b z=>bxOw b (owIn b z)) fun j hj a ha z=>?_)
  obtain ⟨j',k',kk',xs',p1,p2,p3⟩:=(hbx a).mp (owIn a z)
  obtain ⟨kj,xj,qj⟩:=husO j hj
  have ej:=re1.inj j k' kj kk' xj xs' a qj p2 ha p3
  subst ej
  have:=List.all_eq_true.mp hus (j,true) (List.mem_of_getElem? p1)
  simp [hj] at this
 have hn:(capS t (cap.map (·.1)) σ).length=t+cap.length:=by simp [capS]
 have hnE:(capE t cap E1++[some (U.o false [])]).length=t+cap.length+1:=by simp [capE];omega
 -- the turns
 refine ⟨fun i m σ' H'=>m=items.length-i∧i≤items.length∧∃E',compL g Fe (items.drop i) E' (fun Ein=>match Ein[t+cap.length]? with
   | some (some (.o false zs))=>noLs zs=true∧o1 (wback t cap Ein E1) fun E2=>Q' (.s E2.length) (E2++[some (.o false zs)])
   | _=>False)∧σ'.length=t+cap.length∧E'.length=t+cap.length+1∧RE K (fun a=>bx=some a) H' (σ'++[some (.ref D)]) E'∧
   Gs (fun a=>bx=some a) (upd H1 D (.lst [])) (capS t (cap.map (·.1)) σ++[some (.ref D)]) (capE t cap E1++[some (.o false [])]) H' (σ'++[some (.ref D)]) E'∧gd H' (Ow (fun a=>bx=some a) (σ'++[some (.ref D)]) E')∧DatO d' σ' H',
  ⟨_,rfl,Nat.zero_le _,_,q,hn,hnE,reD,Kp.refl _ _,gd0,(hdd _ (dt.kp re g1.kp)).kp reIn gD.kp⟩,?_⟩
 rintro i m σ2 H2 ⟨rfl,hi',E3,q3,hl3,hE3,re3,g3,gd3,dt3⟩
 rcases Nat.lt_or_ge i items.length with hlt | hge
 ·have hd:items.drop i=items[i]::items.drop (i+1):=List.drop_eq_getElem_cons hlt
  rw [hd] at q3
  refine .inr ⟨ok.go i H2 _ gd3 hlt,fun x H4 y=>?_⟩
  obtain ⟨k4,s4,rp⟩:=ok.yld i H2 _ x H4 _ gd3 (List.getElem?_eq_getElem hlt) (fun a z=>by obtain ⟨vs,e⟩:=re3.ow z;rw [e];intro z;cases z) y
  have re4:=re3.kept s4
  have gd4:=ok.keep _ _ _ _ k4 gd3
  refine ⟨dt3.same s4,_,[some (.ref D)],E3,_,_,re4,rp,q3,fun σ5 H5 E5 q5 g5 re5 hl5 dt5=>?_⟩
  have hE5:E5.length=t+cap.length+1:=by rw [←re5.len];simp [hl5,hl3]
  refine ⟨dt5,_,σ5++[some (.ref D)],E5,_,⟨_,rfl⟩,re5,q5,fun r E6 v H6 S6 q6 g6 re6 rr6=>?_⟩
  cases r with
  | s _=>exact q6.elim
  | p u=>
   simp only at q6
   have hlast:E3.length-1=t+cap.length:=by omega
   rw [hlast] at q6
   split at q6
   ·rename_i acc hacc
    obtain ⟨hlen,q6⟩:=q6
    obtain ⟨a6,ws,p1,p2,p3,p4⟩:=re6.own _ _ _ hacc
    have hS6:S6[t+cap.length]? = some (some (.ref D)):=pre_get g6.pre (by rw [List.getElem?_append_right (by omega)];simp [hl5,hl3])
    rw [hS6] at p1;cases p1
    obtain ⟨g7,re7⟩:=re6.put (ys:=acc++[u]) (ws:=ws++[v]) hacc hS6 (p3.append ⟨v,[],rfl,rr6,rfl⟩)
    obtain ⟨re8,ow8⟩:=re7.cut (E:=E5) (σ:=σ5++[some (.ref D)]) (g6.trans g7).pre re5.len
    have eE:E5.length=E3.length:=by omega
    rw [eE] at re8 ow8
    have gg:Gs (fun a=>bx=some a) H4 (σ2++[some (.ref D)]) E3 (upd H6 D (.lst (ws++[v]))) (σ5++[some (.ref D)]) ((E6.set (t+cap.length) (some (.o false (acc++[u])))).take E3.length):=(g5.trans (g6.trans g7).kp).trans (Kp.less ow8)
    refine ⟨ws,p2,by rw [p3.length];exact small1000 (Nat.le_of_lt hlen),items.length-(i+1),by omega,rfl,hlt,_,q6,by omega,?_,re8,(g3.trans k4).trans gg,ok.keep _ _ _ _ gg gd4,(dt5.kp re5 g6.kp).kp re6 g7.kp⟩
    rw [List.length_take,List.length_set]
    have:E5.length≤E6.length:=by
     obtain ⟨τ6,e6⟩:=g6.pre
     rw [←re5.len,←re6.len,e6];simp
    omega
   ·exact q6.elim
 ·have ei:i=items.length:=by omega
  subst ei
  rw [List.drop_length] at q3
  refine .inl ⟨ok.stop H2 _ gd3,?_⟩
  have q3':(match E3[t+cap.length]? with
   | some (some (.o false zs))=>noLs zs=true∧o1 (wback t cap E3 E1) fun E2=>Q' (.s E2.length) (E2++[some (.o false zs)])
   | _=>False):=q3
  split at q3'
  ·rename_i zs hzs
   obtain ⟨hnl,q3'⟩:=q3'
   obtain ⟨E2,e2,q3'⟩:=q3'.ex
   obtain ⟨aD,ws,p1,p2,p3,p4⟩:=re3.own _ _ _ hzs
   have hSD:(σ2++[some (V.ref D)])[t+cap.length]? = some (some (.ref D)):=by rw [List.getElem?_append_right (by omega)];simp [hl3]
   rw [hSD] at p1;cases p1
   -- what is kept of the heap around
   have ow0:∀b,Ow (fun a=>bx=some a) (capS t (cap.map (·.1)) σ++[some (.ref D)]) (capE t cap E1++[some (.o false [])]) b→bx=some b∨b=D:=fun b z=>by
    rcases gD.kp.new b z with z | z
    ·exact .inl (owIn b z)
    ·rcases reD.ow (by assumption) with ⟨us',hu⟩
     by_cases c:b=D
     ·exact .inr c
     ·rw [upd_ne c,z] at hu;cases hu
   have kept:∀b o,H1 b=some o→bx≠some b→H2 b=some o:=fun b o e n=>by
    refine g3.keep b o (by rw [upd_ne (ne_of_none e hD)];exact e) fun z=>?_
    rcases ow0 b z with z | z
    ·exact n z
    ·exact ne_of_none e hD z
   have hk:∀b o,H1 b=some o→¬Ow B S1 E1 b→H2 b=some o:=fun b o e n=>kept b o e fun z=>n (bxOw b z)
   have nD:H1 D=none:=hD
   have lk1:=lk.step g1
   -- the names around
   have fin:∀{E2:En},RE K B H2 S1 E2→(∀b,Ow B S1 E2 b→Ow B S1 E1 b)→
     (∀(i:Nat) (k:Bool) (xs:List T),E2[i]? = some (some (.o k xs))→(E1[i]? = some (some (.o k xs))∧∀a,S1[i]? = some (some (.ref a))→H2 a=H1 a)∨∀a ws,S1[i]? = some (some (.ref a))→H2 a=some (.lst ws)→Rps K H2 (LstOf H2) xs ws)→
     (∀(i:Nat) (u:T),E2[i]? = some (some (.p u))→E1[i]? = some (some (.p u)))→Q' (.s E2.length) (E2++[some (.o false zs)])→Q (.ref D) H2:=fun {E2} re' hw hE hP q=>by
    refine told_ok re1 re' hk hw hE hP (r:=.l zs) ⟨D,ws,rfl,hD,p2,Rps.noL (fun a z=>?_) hnl p3⟩ q lk1
    rcases z with ⟨us',z⟩ | z
    ·by_cases c:bx=some a
     ·exact re3.ow (.inl c)
     ·exact ⟨us',kept a _ z c⟩
    ·exact ⟨ws,by rw [z];exact p2⟩
   unfold wback at e2
   cases qb:boxOf cap with
   | none=>
    rw [qb] at e2
    cases e2
    have nb:∀b,bx≠some b:=fun b z=>by
     obtain ⟨j,k,kk,xs,h1,_⟩:=(hbx b).mp z
     rw [boxOf_only ho h1] at qb;cases qb
    have same:∀b o,H1 b=some o→H2 b=some o:=fun b o e=>kept b o e (nb b)
    exact fin (re1.kept same) (fun b z=>z) (fun i k xs h=>.inl ⟨h,fun a ha=>by
     obtain ⟨a',us',h1,h2,_⟩:=re1.own i k xs h
     rw [ha] at h1;cases h1
     rw [h2];exact same _ _ h2⟩) (fun i u h=>h) q3'
   | some jk=>
    obtain ⟨j,k⟩:=jk
    rw [qb] at e2
    have hj:=boxOf_some qb
    simp only at e2
    split at e2
    ·rename_i kb xs0 ys hE1 hEi
     split at e2
     ·cases e2
      rename_i hny
      obtain ⟨a0,us0,h1,h2,h3,h4⟩:=re1.own k kb xs0 hE1
      have hbx0:bx=some a0:=(hbx a0).mpr ⟨j,k,kb,xs0,hj,hE1,h1⟩
      obtain ⟨a',us1,r1,r2,r3,r4⟩:=re3.own _ true ys hEi
      have:bx=some a':=r4.mp rfl
      rw [hbx0] at this;cases this
      have ow1:Ow B S1 E1 a0:=.inr ⟨k,kb,xs0,hE1,h1⟩
      have lts:∀b,Ow B S1 E1 b→LstOf H2 b:=fun b z=>by
       by_cases c:bx=some b
       ·rw [hbx0] at c;cases c;exact ⟨us1,r2⟩
       ·obtain ⟨us',e⟩:=re1.ow z
        exact ⟨us',kept b _ e c⟩
      have cont:Rps K H2 (LstOf H2) ys us1:=Rps.noL (fun _ z=>z) hny r3
      have getE:∀{i:Nat} {u:U},(E1.set k (some (.o kb ys)))[i]? = some (some u)→(i=k∧u = .o kb ys)∨(i≠k∧E1[i]? = some (some u)):=fun {i u} h=>by
       by_cases c:i=k
       ·subst c
        rw [List.getElem?_set_self (List.getElem?_eq_some_iff.mp hE1).1] at h
        cases h;exact .inl ⟨rfl,rfl⟩
       ·rw [List.getElem?_set_ne (fun z=>c z.symm)] at h;exact .inr ⟨c,h⟩
      have nk:∀{i:Nat} {l:Bool} {zs':List T} {a:Addr},i≠k→E1[i]? = some (some (.o l zs'))→S1[i]? = some (some (.ref a))→bx≠some a:=fun {i l zs' a} c z ha w=>by
       rw [hbx0] at w;cases w
       exact c (re1.inj i k l kb zs' xs0 _ z hE1 ha h1)
      have owE:∀b,Ow B S1 (E1.set k (some (.o kb ys))) b→Ow B S1 E1 b:=fun b z=>by
       rcases z with z | ⟨i,l,zs',z1,z2⟩
       ·exact .inl z
       rcases getE z1 with ⟨c,z⟩ | ⟨c,z⟩
       ·subst c;exact .inr ⟨_,kb,xs0,hE1,z2⟩
       ·exact .inr ⟨i,l,zs',z,z2⟩
      have kp:Kp (Ow B S1 E1) (Ow B S1 E1) H1 H2:=⟨hk,fun b z=>.inl z⟩
      refine fin (re1.step hk (by simp) (fun i u h=>?_) (fun i l zs' h=>?_) (fun a z=>lts a (.inl z))) owE (fun i l zs' h=>?_) (fun i u h=>?_) q3'
      ·rcases getE h with ⟨_,z⟩ | ⟨_,z⟩
       ·cases z
       ·exact z
      ·rcases getE h with ⟨c,z⟩ | ⟨c,z⟩
       ·cases z;subst c
        refine ⟨xs0,hE1,fun a ha=>?_⟩
        rw [h1] at ha;cases ha
        exact ⟨us1,r2,cont.step (Kp.less lts)⟩
       ·refine ⟨zs',z,fun a ha=>?_⟩
        obtain ⟨a',us',p1',p2',p3',_⟩:=re1.own i l zs' z
        rw [ha] at p1';cases p1'
        exact ⟨us',kept a _ p2' (nk c z ha),p3'.step kp⟩
      ·rcases getE h with ⟨c,z⟩ | ⟨c,z⟩
       ·cases z;subst c
        right
        intro a us2 ha hu
        rw [h1] at ha;cases ha
        rw [r2] at hu;cases hu
        exact cont
       ·left
        refine ⟨z,fun a ha=>?_⟩
        obtain ⟨a',us',p1',p2',p3',_⟩:=re1.own i l zs' z
        rw [ha] at p1';cases p1'
        rw [p2'];exact kept a _ p2' (nk c z ha)
      ·rcases getE h with ⟨_,z⟩ | ⟨_,z⟩
       ·cases z
       ·exact z
     ·cases e2
    ·rename_i tp hE1
     cases e2
     have nb:∀b,bx≠some b:=fun b z=>by
      obtain ⟨j',k',kk,xs,h1,h2,_⟩:=(hbx b).mp z
      rw [boxOf_only ho h1] at qb;cases qb
      rw [hE1] at h2;cases h2
     have same:∀b o,H1 b=some o→H2 b=some o:=fun b o e=>kept b o e (nb b)
     exact fin (re1.kept same) (fun b z=>z) (fun i k xs h=>.inl ⟨h,fun a ha=>by
      obtain ⟨a',us',h1,h2,_⟩:=re1.own i k xs h
      rw [ha] at h1;cases h1
      rw [h2];exact same _ _ h2⟩) (fun i u h=>h) q3'
    ·cases e2
  ·exact q3'.elim
theorem fe_comp {target elt iter:Expr} {scope:Scope} {N':List Str} {cap:List (Nat×Bool)} {t:Nat} (hc:X.calm=true) (S:CompOk X N' scope t (cap.map (·.1))) (ho:oneBox cap=true) (hnd:(cap.map (·.1)).Nodup) (hi:QI X target iter (simI K I))
  (hg:∀C s3 H3 fp,QG (cxComp X N' scope C s3 H3 fp) target (simG K g)) (he:∀C s3 H3 fp,QE (cxComp X N' scope C s3 H3 fp) elt (simE K Fe)) (hs:∀x,foldedSetIterable iter X.env x=pure x:=by intro _;rfl) :
  QE X (.ListComp elt [⟨target,iter,[],0⟩] scope pos) (simE K (fComp t cap I g Fe)):=
 (qe_comp hc S hi (fun C s H f=>(hg C s H f).gd) (fun C s H f=>(he C s H f).ed) hs).le fun σ H Q hl h=>comp_sim (d:=none) (d':=none) S ho hnd hl (fun _ _ _ z=>by cases z) ⟨(fun _ z=>by cases z),h⟩
end
end L2
set_option Elab.async false
set_option linter.all false
set_option maxRecDepth 100000
set_option maxHeartbeats 4000000
namespace L2
open PySem PySem.Spec PyProof.Rows
section
variable {X:Cx}
theorem ps_setC {target elt iter:Expr} {scope:Scope} {pos pos' spos:Pos} {N':List Str} {cap:List Nat} {t ix:Nat} {xn:Str} {wi:TI} {g:TG} {te:TE} (hNn:X.N.Nodup) (hin:X.N[ix]? = some xn) (hxn:Loc X.env.scope xn) (hfn:X.fn xn=true∨X.env.scope.names.lookup xn=some .local)
  (hsw:swapsWith (.ListComp elt [⟨target,iter,[],0⟩] scope pos) (some (.Name xn pos')) spos.line X.env=pure true) (hc:X.calm=true) (S:CompOk X N' scope t cap) (hi:PI X target iter wi)
  (hg:∀C s3 H3 fp,PG (cxComp X N' scope C s3 H3 fp) target g) (he:∀C s3 H3 fp,PE (cxComp X N' scope C s3 H3 fp) elt te) (hs:∀x,foldedSetIterable iter X.env x=pure x:=by intro _;rfl) :
  PS X (.Assign [.Name xn pos'] (.ListComp elt [⟨target,iter,[],0⟩] scope pos) spos) (tAsg (tComp t cap wi g te) (gName ix)):=by
 intro pins s σ H DD I h
 rw [exec_Assign_Name_used _ _ _ _ hsw]
 refine wpAny_bind (wpAny_standAt (wpAny_bind ?_))
 unfold evalThenUse
 refine wpAny_bind ?_
 obtain ⟨QQ,hQQ⟩:∃QQ:Value→Shared→Prop,QQ=fun _ s'=>∃σ' H',Inv X pins σ' H' s'∧DD.nx σ' H':=⟨_,rfl⟩
 refine thn (Q:=QQ) ?_ (fun _ s' h'=>wpAny_pure (wpAny_pure (by rw [hQQ] at h';exact h')))
 refine wpAny_comprehension_free (use:=some (assign (.Name xn pos') X.env)) (cl:=clOf scope X.env) rfl hs (closureFor_cl fun y hy hf=>I.ok.has y.1 (S.free y hy hf)) S.kind S.names (thn (hi pins s σ H _ I h) fun v s1 h1=>thn h1 fun itv s2 h2=>?_)
 obtain ⟨it,fp,tn,J,H2,e,I2,T,st2,f2,h2⟩:=h2
 subst e
 refine wpAny_newObj_type (wpAny_newFunctionEnv S.cell (by intro y hy;simp at hy) (fun h₁ hns₁ hsb₁=>?_) S.kind)
 dsimp only at hns₁ hsb₁ ⊢
 obtain ⟨s3,hs3⟩:∃s3:Shared,s3 = { s2 with heap:=s2.heap.push { cls:=.type "list",dict:=none,data:=.seq ([]:List Value).toArray } }:=⟨_,rfl⟩
 have hD:H2 s2.heap.objs.size=none:=I2.hok.fresh (Nat.le_refl _)
 have I3:Inv X pins σ (upd H2 s2.heap.objs.size (.lst [])) s3:=by
  rw [hs3]
  exact I2.laid (t':=s2.toks) (fun b u e=>Heap.get?_push_of_some _ e) (Nat.le_refl _) ⟨Nat.zero_le _,[],0,.nil,Heap.get?_push_size _ rfl⟩
 have hsz3:s3.heap.objs.size=s2.heap.objs.size+1:=by rw [hs3];exact Heap.size_push ..
 have old3:∀b o,s2.heap.get? b=some o→s3.heap.get? b=some o:=fun b o e=>by rw [hs3];exact Heap.get?_push_of_some _ e
 have hC:(s2.heap.push { cls:=.type "list",dict:=none,data:=.seq ([]:List Value).toArray }).objs.size=s3.heap.objs.size:=by rw [hs3]
 have f3:∀b∈fp,FpOk X pins (upd H2 s2.heap.objs.size (.lst [])) b:=fun b hb=>by
  obtain ⟨o,ho,_⟩:=T.obj _ _ st2 b hb
  refine ⟨?_,(f2 b hb).2⟩
  rw [upd_ne (Nat.ne_of_lt (Heap.lt_size ho))]
  exact (f2 b hb).1
 have ob3:∀b∈fp,∃o,s3.heap.get? b=some o:=fun b hb=>by
  obtain ⟨o,ho,_⟩:=T.obj _ _ st2 b hb
  exact ⟨o,old3 b o ho⟩
 have k1:∀b o,s3.heap.get? b=some o→h₁.get? b=some o:=fun b o e=>by
  refine hsb₁.extBut b o ?_ ?_
  ·rw [hC];exact Nat.ne_of_lt (Heap.lt_size e)
  ·rw [hs3] at e;exact Heap.get?_push_of_some _ e
 have hns:h₁.Ns s3.heap.objs.size fun _=>none:=by
  rw [←hC];exact hns₁
 have I4:=comp_enter (tk:=s2.toks+([]:List (Str×Value)).length) S I3 f3 ob3 hns k1
 have st4:tn 0 h₁:=T.keep _ _ _ st2 fun b hb o e=>k1 b o (old3 b o e)
 obtain ⟨W,⟨m0,w0⟩,turn⟩:=h2 _ hD
 -- the block's context
 obtain ⟨X',hX'⟩:∃X':Cx,X'=cxComp X N' scope s3.heap.objs.size s3 (upd H2 s2.heap.objs.size (.lst [])) fp:=⟨_,rfl⟩
 have hg':PG X' target g:=by rw [hX'];exact hg _ _ _ _
 have he':PE X' elt te:=by rw [hX'];exact he _ _ _ _
 have stat:∀{H':Hp},(∀b∈fp,H' b=none)→∀b∈fp,FpOk X' [] H' b:=fun hn b hb=>by
  obtain ⟨o,ho⟩:=ob3 b hb
  rw [hX']
  refine ⟨hn b hb,Nat.ne_of_lt (Heap.lt_size ho),?_,.inl hb,fun x c e=>(f3 b hb).2.2.2.2.1 x c (clOf_sub e),fun p hp=>absurd (show p∈([]:List (Addr×Obj)) from hp) (by simp)⟩
  intro hz
  rcases List.mem_cons.mp (I3.stkSub b hz) with z | z
  ·exact (f3 b hb).2.1 z
  ·exact (f3 b hb).2.2.1 z
 have hcalm:X'.calm=true:=by rw [hX'];exact hc
 have loop:codeAny (model X.prog X.w) X.A (.compLoop (.ListComp elt [⟨target,iter,[],0⟩] scope pos) 0 (.ref it) (.ref s2.heap.objs.size) (compEnvC scope (clOf scope X.env) s3.heap.objs.size X.env))
   (compPost (model X.prog X.w) X.A X.xe (some (assign (.Name xn pos') X.env)) QQ (.ref s2.heap.objs.size) s3.heap.objs.size) { s3 with heap:=h₁,toks:=s2.toks+([]:List (Str×Value)).length }:=by
  refine codeAny_compLoop_go (fun n s'=>∃i σ' H',Inv X' [] σ' H' s'∧tn i s'.heap∧(∀b∈fp,H' b=none)∧W i n σ' H') ?_ m0 ⟨0,capS t cap σ,_,by rw [hX'];exact I4,st4,fun b hb=>(f3 b hb).1,w0⟩
  rintro n s5 ⟨i,σ5,H5,I5,st5,fr5,w5⟩
  rcases turn i n σ5 H5 w5 with ⟨stop,qn⟩ | ⟨go,step⟩
  ·have q:=T.done X' (by rw [hX'];rfl) (by rw [hX'];rfl) (by rw [hX'];rfl) hcalm i [] s5 σ5 H5 (fun _ _=>False) I5 (stat fr5) st5 stop
   have eA:X'.A=X.A:=by rw [hX'];rfl
   rw [eA] at q
   refine thn q fun r s6 ⟨hr,I6⟩=>?_
   subst hr
   obtain ⟨m,hn,_⟩:=I6.loc
   have hn':s6.heap.Ns s3.heap.objs.size m:=by rw [hX'] at hn;exact hn
   have un6:Un (frs X.stack) fp (upd H2 s2.heap.objs.size (.lst [])) H5 s3.heap s6.heap:=by have:=I6.base;rw [hX'] at this;exact this
   have hok6:HOk X.prog X.w H5 s6.heap:=by have:=I6.hok;rw [hX'] at this;exact this
   have free6:H5 s3.heap.objs.size=none:=by have:=I6.free;rw [hX'] at this;exact this
   have os6:s6.os=s3.os:=by have:=I6.os;rw [hX'] at this;exact this
   have I7:Inv X pins σ H5 s6:=I3.call' (ch:=fp) os6 un6 hok6 I6.bare (fun b hb=>⟨(f3 b hb).2.2.2.1,(f3 b hb).2.1,(f3 b hb).2.2.2.2.1,(f3 b hb).2.2.2.2.2⟩)
   have fC:FpOk X pins H5 s3.heap.objs.size:=I3.fpOk (Nat.le_refl _) free6
   refine wpAny_assign_Name (store_ok2 I7 hNn hin hxn (v:=.ref s2.heap.objs.size) rfl (fun s8 I8 ⟨a,sa,ha⟩=>?_) hfn)
   have nC:s3.heap.objs.size≠a:=by
    rcases ha with rfl | ha
    ·exact fC.2.1
    ·exact fun z=>fC.2.2.2.2.1 _ _ ha z.symm
   obtain ⟨mC,hnC⟩:∃m',s8.heap.Ns s3.heap.objs.size m':=⟨m,hn'.at fun o e=>sa.extBut _ _ nC e⟩
   refine ⟨mC,hnC,fun h' hs'=>?_⟩
   rw [hQQ]
   refine ⟨_,H5,I8.turnedL (t':=s8.toks) (ch:=[s3.heap.objs.size]) (fun b u hb e=>hs'.extBut _ _ (by simpa using hb) e) (fun b hb=>by rw [List.mem_singleton.mp hb];exact fC),qn⟩
  ·have q:=T.item X' (by rw [hX'];rfl) (by rw [hX'];rfl) (by rw [hX'];rfl) hcalm i [] s5 σ5 H5 (fun _ _=>False) I5 (stat fr5) st5 go
   have eA:X'.A=X.A:=by rw [hX'];rfl
   have eP:X'.prog=X.prog:=by rw [hX'];rfl
   have eW:X'.w=X.w:=by rw [hX'];rfl
   have eE:X'.env=compEnvC scope (clOf scope X.env) s3.heap.objs.size X.env:=by rw [hX'];rfl
   have eX:X'.xe=fun _ _=>False:=by rw [hX'];rfl
   rw [eA] at q
   refine thn q fun r s6 ⟨u,hr,h6⟩=>?_
   subst hr
   refine thn h6 fun _ s7 ⟨x,H7,I7,r7,y7,st7,fr7⟩=>?_
   have I7':=I7.pinned (stat fr7) (T.obj _ _ st7)
   have q8:=hg' _ s7 σ5 H7 x u _ I7' r7 (step x H7 y7)
   rw [eA,eP,eW,eE,eX] at q8
   refine thn q8 fun _ s8 ⟨σ8,H8,I8,w8⟩=>?_
   have q9:=he' _ s8 σ8 H8 _ I8 w8
   rw [eA,eP,eW,eE,eX] at q9
   refine thn q9 fun y s9 ⟨v9,H9,I9,r9,ys,hD9,hlt,m',hm,w9⟩=>?_
   have q10:=mt_append (X:=X') _ s9 σ8 H9 (.ref s2.heap.objs.size) [v9] (.ref s2.heap.objs.size) [y] (fun _ H10=>H10=upd H9 s2.heap.objs.size (.lst (ys++[v9]))) I9 rfl (.cons r9 .nil) ⟨_,ys,v9,rfl,rfl,hD9,hlt,rfl⟩
   rw [eA,eP,eW,eX] at q10
   refine thn q10 fun _ s10 ⟨v10,H10,I10,r10,e10⟩=>?_
   subst e10
   refine ⟨m',hm,i+1,σ8,_,I10.unpinned,T.keep _ _ _ st7 fun b hb o e=>(I10.pin (b,o) (List.mem_append_right _ (List.mem_append_right _ (mem_pinsAt hb e)))).1,fun b hb=>?_,w9⟩
   obtain ⟨o,e,d⟩:=T.obj _ _ st7 b hb
   exact (I10.pin (b,o) (List.mem_append_right _ (List.mem_append_right _ (mem_pinsAt hb e)))).2.1
 have es:({ s2 with heap:=h₁,toks:=s2.toks+([]:List (Str×Value)).length }:Shared) = { s3 with heap:=h₁,toks:=s2.toks+([]:List (Str×Value)).length }:=by rw [hs3]
 rw [es,hC]
 exact codeAny_compStart_list loop (T.self _ 0 _ _ _ st4 loop)
end
section
variable {X:Cx} {K:PySem.W.Frag} {Fe:FE} {g:FG} {I:FI}
theorem fs_setC {target elt iter:Expr} {scope:Scope} {pos pos' spos:Pos} {N':List Str} {cap:List (Nat×Bool)} {t i:Nat} {x:Str} (hN:X.N.Nodup) (hi:X.N[i]? = some x) (hx:Loc X.env.scope x)
  (hsw:swapsWith (.ListComp elt [⟨target,iter,[],0⟩] scope pos) (some (.Name x pos')) spos.line X.env=pure true) (hc:X.calm=true) (S:CompOk X N' scope t (cap.map (·.1))) (ho:oneBox cap=true) (hnd:(cap.map (·.1)).Nodup) (hit:QI X target iter (simI K I))
  (hg:∀C s3 H3 fp,QG (cxComp X N' scope C s3 H3 fp) target (simG K g)) (he:∀C s3 H3 fp,QE (cxComp X N' scope C s3 H3 fp) elt (simE K Fe)) (hs:∀x,foldedSetIterable iter X.env x=pure x:=by intro _;rfl)
  (hf:X.fn x=true∨X.env.scope.names.lookup x=some .local:=by first | exact .inl rfl | exact .inr rfl | assumption) :
  QS X (.Assign [.Name x pos'] (.ListComp elt [⟨target,iter,[],0⟩] scope pos) spos) (simS K (sSet i (fComp t cap I g Fe))):=
 QS.le ⟨ps_setC hN hi hx hf hsw hc S hit.h (fun C s3 H3 fp=>(hg C s3 H3 fp).gd.h) (fun C s3 H3 fp=>(he C s3 H3 fp).ed.h) hs⟩ fun D σ H hl ⟨B,E,DT,re,hF,l⟩=>comp_sim (d:=none) (d':=none) S ho hnd hl (fun _ _ _ z=>by cases z) ⟨(fun _ z=>by cases z),B,σ,E,_,⟨[],by simp⟩,re,hF,fun r E' v H' S' q g re' rr=>by
  obtain ⟨u,e1,q⟩:=q.ex
  rw [←re.len] at e1 q
  obtain ⟨r1,ow⟩:=pick_ok (i:=i) re' g.pre rr e1
  exact l.nx _ _ _ q (g.kp.trans (Kp.less ow)) r1⟩
end
end L2
set_option Elab.async false
set_option linter.all false
set_option maxRecDepth 100000
set_option maxHeartbeats 4000000
namespace L2
open PySem PySem.Spec PyProof.Rows
mutual
def eqT:T→T→Bool
 | .non,.non=>true
 | .bl a,.bl b=>a==b
 | .int a,.int b=>a==b
 | .bl a,.int b=>(if a then 1 else 0)==b
 | .int a,.bl b=>a==(if b then 1 else 0)
 | .str a,.str b=>a==b
 | .tup xs,.tup ys=>eqTs xs ys
 | .lst xs,.lst ys=>eqTs xs ys
 | _,_=>false
def eqTs:List T→List T→Bool
 | [],[]=>true
 | x::xs,y::ys=>eqT x y&&eqTs xs ys
 | _,_=>false
end
mutual
def dT:T→Nat
 | .tup xs=>dTs xs+1
 | .lst xs=>dTs xs+1
 | _=>0
def dTs:List T→Nat
 | []=>0
 | x::xs=>Nat.max (dT x) (dTs xs)
end
mutual
theorem eqT_refl:∀x:T,eqT x x=true
 | .non=>rfl
 | .bl a=>by simp [eqT]
 | .int a=>by simp [eqT]
 | .str a=>by simp [eqT]
 | .tup xs=>by rw [eqT];exact eqTs_refl xs
 | .lst xs=>by rw [eqT];exact eqTs_refl xs
theorem eqTs_refl:∀xs:List T,eqTs xs xs=true
 | []=>rfl
 | x::xs=>by rw [eqTs,eqT_refl x,eqTs_refl xs];rfl
end
theorem eqTs_range:∀xs ys:List T,eqTs xs ys=((List.range (min xs.length ys.length)).all (fun j=>eqT (xs.getD j .non) (ys.getD j .non))&&xs.length==ys.length)
 | [],[]=>rfl
 | [],_::_=>by simp [eqTs]
 | _::_,[]=>by simp [eqTs]
 | x::xs,y::ys=>by
  rw [eqTs,eqTs_range xs ys]
  simp only [List.length_cons,Nat.succ_min_succ,List.range_succ_eq_map,List.all_cons,List.all_map]
  simp [Function.comp_def,Bool.and_assoc]
theorem dT_mem:∀{xs:List T} {x:T},x∈xs→dT x≤dTs xs
 | y::xs,x,h=>by
  rw [dTs]
  rcases List.mem_cons.mp h with rfl | h
  ·exact Nat.le_max_left _ _
  ·exact Nat.le_trans (dT_mem h) (Nat.le_max_right _ _)
mutual
def Rq (K:PySem.W.Frag) (H:Hp):T→V→Prop
 | .non,v=>v = .non
 | .bl b,v=>v = .bl b
 | .int i,v=>v = .int i
 | .str x,v=>v = .str x
 | .tup xs,v=>∃a vs,v = .ref a∧SqT K H a vs∧Rqs K H xs vs
 | .lst xs,v=>∃a vs,v = .ref a∧SqL K H a vs∧Rqs K H xs vs
def Rqs (K:PySem.W.Frag) (H:Hp):List T→List V→Prop
 | [],vs=>vs=[]
 | x::xs,vs=>∃v r,vs=v::r∧Rq K H x v∧Rqs K H xs r
end
section
variable {K:PySem.W.Frag} {H:Hp} {O:Addr→Prop}
mutual
theorem Rp.rq:∀{t:T} {v:V},Rp K H O t v→Rq K H t v
 | .non,_,h=>h
 | .bl _,_,h=>h
 | .int _,_,h=>h
 | .str _,_,h=>h
 | .tup xs,v,h=>by
  obtain ⟨a,vs,e,h1,h2⟩:=h
  exact ⟨a,vs,e,h1.imp And.right id,Rps.rq h2⟩
 | .lst xs,v,h=>by
  obtain ⟨a,vs,e,h1,h2⟩:=h
  exact ⟨a,vs,e,h1.imp And.right id,Rps.rq h2⟩
theorem Rps.rq:∀{xs:List T} {vs:List V},Rps K H O xs vs→Rqs K H xs vs
 | [],_,h=>h
 | x::xs,vs,h=>by
  obtain ⟨v,r,e,h1,h2⟩:=h
  exact ⟨v,r,e,Rp.rq h1,Rps.rq h2⟩
end
theorem Rt.rq {t:T} {v:V} (h:Rt K H O t v):Rq K H t v:=by
 cases t with
 | tup xs=>obtain ⟨a,vs,e,h1,h2⟩:=h;exact ⟨a,vs,e,h1,h2.rq⟩
 | lst xs=>obtain ⟨a,vs,e,h1,h2⟩:=h;exact ⟨a,vs,e,h1,h2.rq⟩
 | non=>exact h
 | bl _=>exact h
 | int _=>exact h
 | str _=>exact h
theorem Rqs.length:∀{xs:List T} {vs:List V},Rqs K H xs vs→vs.length=xs.length
 | [],_,h=>by cases h;rfl
 | _::_,_,⟨v,r,e,_,h2⟩=>by rw [e,List.length_cons,List.length_cons,Rqs.length h2]
theorem Rqs.get:∀{xs:List T} {vs:List V} {i:Nat} {x:T},Rqs K H xs vs→xs[i]? = some x→∃v,vs[i]? = some v∧Rq K H x v
 | [],_,_,_,_,e=>by simp at e
 | _::_,_,0,_,⟨v,r,e,h1,_⟩,q=>by simp at q;subst q;subst e;exact ⟨v,rfl,h1⟩
 | _::_,_,i+1,x,⟨v,r,e,_,h2⟩,q=>by
  obtain ⟨w,q1,q2⟩:=Rqs.get (i:=i) (x:=x) h2 (by simpa using q)
  subst e
  exact ⟨w,by simpa using q1,q2⟩
end
section
variable {X:Cx} {pins:List (Addr×Obj)} {σ:St} {H:Hp} {s:Shared}
theorem Inv.nolt (I:Inv X pins σ H s) {a:Addr} {vs ws:List V} (h1:SqL X.K H a vs) (h2:SqT X.K H a ws):False:=by
 obtain ⟨_,_,p1,_⟩:=I.list h1
 obtain ⟨_,_,p2,_⟩:=I.tuple h2
 exact SeqAt.ne_of_list_tuple p1.isList p2 rfl
mutual
theorem Rq.inj (I:Inv X pins σ H s):∀{x y:T} {v:V},Rq X.K H x v→Rq X.K H y v→x=y
 | .non,.non,_,_,_=>rfl
 | .bl a,.bl b,_,h,k=>by cases h;cases k;rfl
 | .int a,.int b,_,h,k=>by cases h;cases k;rfl
 | .str a,.str b,_,h,k=>by cases h;cases k;rfl
 | .tup xs,.tup ys,v,⟨a,vs,e,h1,h2⟩,⟨b,ws,f,k1,k2⟩=>by
  rw [e] at f;cases f
  rw [I.tuple_inj h1 k1] at h2
  rw [Rqs.inj I h2 k2]
 | .lst xs,.lst ys,v,⟨a,vs,e,h1,h2⟩,⟨b,ws,f,k1,k2⟩=>by
  rw [e] at f;cases f
  rw [I.list_inj h1 k1] at h2
  rw [Rqs.inj I h2 k2]
 | .tup xs,.lst ys,v,⟨a,vs,e,h1,h2⟩,⟨b,ws,f,k1,k2⟩=>by rw [e] at f;cases f;exact (I.nolt k1 h1).elim
 | .lst xs,.tup ys,v,⟨a,vs,e,h1,h2⟩,⟨b,ws,f,k1,k2⟩=>by rw [e] at f;cases f;exact (I.nolt h1 k1).elim
 | .non,.bl _,_,h,k=>by cases h;cases k
 | .non,.int _,_,h,k=>by cases h;cases k
 | .non,.str _,_,h,k=>by cases h;cases k
 | .non,.tup _,_,h,⟨_,_,k,_⟩=>by cases h;cases k
 | .non,.lst _,_,h,⟨_,_,k,_⟩=>by cases h;cases k
 | .bl _,.non,_,h,k=>by cases h;cases k
 | .bl _,.int _,_,h,k=>by cases h;cases k
 | .bl _,.str _,_,h,k=>by cases h;cases k
 | .bl _,.tup _,_,h,⟨_,_,k,_⟩=>by cases h;cases k
 | .bl _,.lst _,_,h,⟨_,_,k,_⟩=>by cases h;cases k
 | .int _,.non,_,h,k=>by cases h;cases k
 | .int _,.bl _,_,h,k=>by cases h;cases k
 | .int _,.str _,_,h,k=>by cases h;cases k
 | .int _,.tup _,_,h,⟨_,_,k,_⟩=>by cases h;cases k
 | .int _,.lst _,_,h,⟨_,_,k,_⟩=>by cases h;cases k
 | .str _,.non,_,h,k=>by cases h;cases k
 | .str _,.bl _,_,h,k=>by cases h;cases k
 | .str _,.int _,_,h,k=>by cases h;cases k
 | .str _,.tup _,_,h,⟨_,_,k,_⟩=>by cases h;cases k
 | .str _,.lst _,_,h,⟨_,_,k,_⟩=>by cases h;cases k
 | .tup _,.non,_,⟨_,_,h,_⟩,k=>by cases h;cases k
 | .tup _,.bl _,_,⟨_,_,h,_⟩,k=>by cases h;cases k
 | .tup _,.int _,_,⟨_,_,h,_⟩,k=>by cases h;cases k
 | .tup _,.str _,_,⟨_,_,h,_⟩,k=>by cases h;cases k
 | .lst _,.non,_,⟨_,_,h,_⟩,k=>by cases h;cases k
 | .lst _,.bl _,_,⟨_,_,h,_⟩,k=>by cases h;cases k
 | .lst _,.int _,_,⟨_,_,h,_⟩,k=>by cases h;cases k
 | .lst _,.str _,_,⟨_,_,h,_⟩,k=>by cases h;cases k
theorem Rqs.inj (I:Inv X pins σ H s):∀{xs ys:List T} {vs:List V},Rqs X.K H xs vs→Rqs X.K H ys vs→xs=ys
 | [],[],_,_,_=>rfl
 | [],_::_,_,h,⟨_,_,k,_⟩=>by cases h;cases k
 | _::_,[],_,⟨_,_,h,_⟩,k=>by cases k;cases h
 | x::xs,y::ys,_,⟨v,r,e,h1,h2⟩,⟨w,r',f,k1,k2⟩=>by
  rw [e] at f;cases f
  rw [Rq.inj I h1 k1,Rqs.inj I h2 k2]
end
theorem EqAt_of_rc {A:Around} {u v:Value} {k:Bool} (h:SeqAt.RcAt A s u v k) (hk:u=v→k=true) (hf:∀b t,u≠.float b t):SeqAt.EqAt A s u v k:=fun prog w E Q hq=>by
 unfold eqBool
 refine wpAny_holding ?_
 refine wpAny_ite_split (fun hab=>?_) (fun _=>?_)
 ·rw [hk (eq_of_beq hab)] at hq
  exact wpAny_bind (wpAny_rule (wpAny_pure hq))
 ·cases u with
  | float b t=>exact absurd rfl (hf b t)
  | _=>exact wpAny_bind (h prog w E _ (wpAny_truthy_bool hq))
theorem rel_inj {x y:V} {u:Value} (h:RelV x u) (k:RelV y u):x=y:=h.inj k
theorem items_eq (A:Around) {xs ys:List T} {vs ws:List V} {its js:List Value} (rx:Vals vs its) (ry:Vals ws js) (hx:Rqs X.K H xs vs) (hy:Rqs X.K H ys ws)
  (ih:∀(j:Nat) (x y:T) (v w:V) (u u':Value),xs[j]? = some x→ys[j]? = some y→Rq X.K H x v→Rq X.K H y w→RelV v u→RelV w u'→SeqAt.EqAt A s u u' (eqT x y)) :
  ∀j (h1:j<its.toArray.size) (h2:j<js.toArray.size),SeqAt.EqAt A s its.toArray[j] js.toArray[j] (eqT (xs.getD j .non) (ys.getD j .non)):=fun j h1 h2=>by
 have l1:=rx.length;have l2:=ry.length;have l3:=hx.length;have l4:=hy.length
 have h1':j<its.length:=by simpa using h1
 have h2':j<js.length:=by simpa using h2
 have e1:xs[j]? = some xs[j]:=List.getElem?_eq_getElem (by omega)
 have e2:ys[j]? = some ys[j]:=List.getElem?_eq_getElem (by omega)
 obtain ⟨v,q1,q2⟩:=hx.get e1
 obtain ⟨w,q3,q4⟩:=hy.get e2
 obtain ⟨u1,z1,r1⟩:=rx.get q1
 obtain ⟨v1,z2,r2⟩:=ry.get q3
 have y1:its.toArray[j]=u1:=by
  rw [List.getElem?_eq_getElem h1'] at z1
  simpa using Option.some.inj z1
 have y2:js.toArray[j]=v1:=by
  rw [List.getElem?_eq_getElem h2'] at z2
  simpa using Option.some.inj z2
 rw [y1,y2]
 have g1:xs.getD j .non=xs[j]:=by simp [List.getD,e1]
 have g2:ys.getD j .non=ys[j]:=by simp [List.getD,e2]
 rw [g1,g2]
 exact ih j _ _ v w u1 v1 e1 e2 q2 q4 r1 r2
theorem rc_mixed (I:Inv X pins σ H s) {A:Around} (hu:A.units<cLine):∀{x y:T} {v w:V} {u u':Value},(∀xs ys,¬(x = .tup xs∧y = .tup ys))→(∀xs ys,¬(x = .lst xs∧y = .lst ys))→Rq X.K H x v→Rq X.K H y w→RelV v u→RelV w u'→SeqAt.RcAt A s u u' ((eqT x y)):=by
 intro x y v w u u' nt nl hx hy rx ry
 cases x with
 | non=>
  cases y with
  | non=>
   cases hx;cases rx
   cases hy;cases ry
   exact SeqAt.RcAt.none_none
  | bl ay=>
   cases hx;cases rx
   cases hy;cases ry
   exact SeqAt.RcAt.none_bool _
  | int ay=>
   cases hx;cases rx
   cases hy;obtain ⟨t_hy,rfl⟩:=ry
   exact SeqAt.RcAt.none_int _ t_hy
  | str ay=>
   cases hx;cases rx
   cases hy;obtain ⟨t_hy,rfl⟩:=ry
   exact SeqAt.RcAt.none_str _ t_hy
  | tup ay=>
   cases hx;cases rx
   obtain ⟨a_hy,vs_hy,e_hy,q_hy,_⟩:=hy
   subst e_hy;cases ry
   obtain ⟨its_hy,_,p_hy,_⟩:=I.tuple q_hy
   exact SeqAt.RcAt.none_tuple p_hy hu
  | lst ay=>
   cases hx;cases rx
   obtain ⟨a_hy,vs_hy,e_hy,q_hy,_⟩:=hy
   subst e_hy;cases ry
   obtain ⟨its_hy,_,p_hy,_⟩:=I.list q_hy
   exact SeqAt.RcAt.none_list p_hy.isList hu
 | bl ax=>
  cases y with
  | non=>
   cases hx;cases rx
   cases hy;cases ry
   exact SeqAt.RcAt.bool_none _
  | bl ay=>
   cases hx;cases rx
   cases hy;cases ry
   exact SeqAt.RcAt.bool_bool _ _
  | int ay=>
   cases hx;cases rx
   cases hy;obtain ⟨t_hy,rfl⟩:=ry
   exact SeqAt.RcAt.bool_int _ _ t_hy
  | str ay=>
   cases hx;cases rx
   cases hy;obtain ⟨t_hy,rfl⟩:=ry
   exact SeqAt.RcAt.bool_str _ _ t_hy
  | tup ay=>
   cases hx;cases rx
   obtain ⟨a_hy,vs_hy,e_hy,q_hy,_⟩:=hy
   subst e_hy;cases ry
   obtain ⟨its_hy,_,p_hy,_⟩:=I.tuple q_hy
   exact SeqAt.RcAt.bool_tuple _ p_hy hu
  | lst ay=>
   cases hx;cases rx
   obtain ⟨a_hy,vs_hy,e_hy,q_hy,_⟩:=hy
   subst e_hy;cases ry
   obtain ⟨its_hy,_,p_hy,_⟩:=I.list q_hy
   exact SeqAt.RcAt.bool_list _ p_hy.isList hu
 | int ax=>
  cases y with
  | non=>
   cases hx;obtain ⟨t_hx,rfl⟩:=rx
   cases hy;cases ry
   exact SeqAt.RcAt.int_none _ t_hx
  | bl ay=>
   cases hx;obtain ⟨t_hx,rfl⟩:=rx
   cases hy;cases ry
   exact SeqAt.RcAt.int_bool _ t_hx _
  | int ay=>
   cases hx;obtain ⟨t_hx,rfl⟩:=rx
   cases hy;obtain ⟨t_hy,rfl⟩:=ry
   exact SeqAt.RcAt.int_int _ t_hx _ t_hy
  | str ay=>
   cases hx;obtain ⟨t_hx,rfl⟩:=rx
   cases hy;obtain ⟨t_hy,rfl⟩:=ry
   exact SeqAt.RcAt.int_str _ t_hx _ t_hy
  | tup ay=>
   cases hx;obtain ⟨t_hx,rfl⟩:=rx
   obtain ⟨a_hy,vs_hy,e_hy,q_hy,_⟩:=hy
   subst e_hy;cases ry
   obtain ⟨its_hy,_,p_hy,_⟩:=I.tuple q_hy
   exact SeqAt.RcAt.int_tuple _ t_hx p_hy hu
  | lst ay=>
   cases hx;obtain ⟨t_hx,rfl⟩:=rx
   obtain ⟨a_hy,vs_hy,e_hy,q_hy,_⟩:=hy
   subst e_hy;cases ry
   obtain ⟨its_hy,_,p_hy,_⟩:=I.list q_hy
   exact SeqAt.RcAt.int_list _ t_hx p_hy.isList hu
 | str ax=>
  cases y with
  | non=>
   cases hx;obtain ⟨t_hx,rfl⟩:=rx
   cases hy;cases ry
   exact SeqAt.RcAt.str_none _ t_hx
  | bl ay=>
   cases hx;obtain ⟨t_hx,rfl⟩:=rx
   cases hy;cases ry
   exact SeqAt.RcAt.str_bool _ t_hx _
  | int ay=>
   cases hx;obtain ⟨t_hx,rfl⟩:=rx
   cases hy;obtain ⟨t_hy,rfl⟩:=ry
   exact SeqAt.RcAt.str_int _ t_hx _ t_hy
  | str ay=>
   cases hx;obtain ⟨t_hx,rfl⟩:=rx
   cases hy;obtain ⟨t_hy,rfl⟩:=ry
   exact SeqAt.RcAt.str_str _ t_hx _ t_hy
  | tup ay=>
   cases hx;obtain ⟨t_hx,rfl⟩:=rx
   obtain ⟨a_hy,vs_hy,e_hy,q_hy,_⟩:=hy
   subst e_hy;cases ry
   obtain ⟨its_hy,_,p_hy,_⟩:=I.tuple q_hy
   exact SeqAt.RcAt.str_tuple _ t_hx p_hy hu
  | lst ay=>
   cases hx;obtain ⟨t_hx,rfl⟩:=rx
   obtain ⟨a_hy,vs_hy,e_hy,q_hy,_⟩:=hy
   subst e_hy;cases ry
   obtain ⟨its_hy,_,p_hy,_⟩:=I.list q_hy
   exact SeqAt.RcAt.str_list _ t_hx p_hy.isList hu
 | tup ax=>
  cases y with
  | non=>
   obtain ⟨a_hx,vs_hx,e_hx,q_hx,_⟩:=hx
   subst e_hx;cases rx
   obtain ⟨its_hx,_,p_hx,_⟩:=I.tuple q_hx
   cases hy;cases ry
   exact SeqAt.RcAt.tuple_none p_hx hu
  | bl ay=>
   obtain ⟨a_hx,vs_hx,e_hx,q_hx,_⟩:=hx
   subst e_hx;cases rx
   obtain ⟨its_hx,_,p_hx,_⟩:=I.tuple q_hx
   cases hy;cases ry
   exact SeqAt.RcAt.tuple_bool _ p_hx hu
  | int ay=>
   obtain ⟨a_hx,vs_hx,e_hx,q_hx,_⟩:=hx
   subst e_hx;cases rx
   obtain ⟨its_hx,_,p_hx,_⟩:=I.tuple q_hx
   cases hy;obtain ⟨t_hy,rfl⟩:=ry
   exact SeqAt.RcAt.tuple_int _ t_hy p_hx hu
  | str ay=>
   obtain ⟨a_hx,vs_hx,e_hx,q_hx,_⟩:=hx
   subst e_hx;cases rx
   obtain ⟨its_hx,_,p_hx,_⟩:=I.tuple q_hx
   cases hy;obtain ⟨t_hy,rfl⟩:=ry
   exact SeqAt.RcAt.tuple_str _ t_hy p_hx hu
  | tup ay=>
   exact absurd ⟨rfl,rfl⟩ (nt ax ay)
  | lst ay=>
   obtain ⟨a_hx,vs_hx,e_hx,q_hx,_⟩:=hx
   subst e_hx;cases rx
   obtain ⟨its_hx,_,p_hx,_⟩:=I.tuple q_hx
   obtain ⟨a_hy,vs_hy,e_hy,q_hy,_⟩:=hy
   subst e_hy;cases ry
   obtain ⟨its_hy,_,p_hy,_⟩:=I.list q_hy
   exact SeqAt.RcAt.tuple_list p_hx p_hy.isList hu
 | lst ax=>
  cases y with
  | non=>
   obtain ⟨a_hx,vs_hx,e_hx,q_hx,_⟩:=hx
   subst e_hx;cases rx
   obtain ⟨its_hx,_,p_hx,_⟩:=I.list q_hx
   cases hy;cases ry
   exact SeqAt.RcAt.list_none p_hx.isList hu
  | bl ay=>
   obtain ⟨a_hx,vs_hx,e_hx,q_hx,_⟩:=hx
   subst e_hx;cases rx
   obtain ⟨its_hx,_,p_hx,_⟩:=I.list q_hx
   cases hy;cases ry
   exact SeqAt.RcAt.list_bool _ p_hx.isList hu
  | int ay=>
   obtain ⟨a_hx,vs_hx,e_hx,q_hx,_⟩:=hx
   subst e_hx;cases rx
   obtain ⟨its_hx,_,p_hx,_⟩:=I.list q_hx
   cases hy;obtain ⟨t_hy,rfl⟩:=ry
   exact SeqAt.RcAt.list_int _ t_hy p_hx.isList hu
  | str ay=>
   obtain ⟨a_hx,vs_hx,e_hx,q_hx,_⟩:=hx
   subst e_hx;cases rx
   obtain ⟨its_hx,_,p_hx,_⟩:=I.list q_hx
   cases hy;obtain ⟨t_hy,rfl⟩:=ry
   exact SeqAt.RcAt.list_str _ t_hy p_hx.isList hu
  | tup ay=>
   obtain ⟨a_hx,vs_hx,e_hx,q_hx,_⟩:=hx
   subst e_hx;cases rx
   obtain ⟨its_hx,_,p_hx,_⟩:=I.list q_hx
   obtain ⟨a_hy,vs_hy,e_hy,q_hy,_⟩:=hy
   subst e_hy;cases ry
   obtain ⟨its_hy,_,p_hy,_⟩:=I.tuple q_hy
   exact SeqAt.RcAt.list_tuple p_hx.isList p_hy hu
  | lst ay=>
   exact absurd ⟨rfl,rfl⟩ (nl ax ay)
theorem rcn_mixed (I:Inv X pins σ H s) {A:Around} (hu:A.units<cLine):∀{x y:T} {v w:V} {u u':Value},(∀xs ys,¬(x = .tup xs∧y = .tup ys))→(∀xs ys,¬(x = .lst xs∧y = .lst ys))→Rq X.K H x v→Rq X.K H y w→RelV v u→RelV w u'→SeqAt.RcNeAt A s u u' (!(eqT x y)):=by
 intro x y v w u u' nt nl hx hy rx ry
 cases x with
 | non=>
  cases y with
  | non=>
   cases hx;cases rx
   cases hy;cases ry
   exact SeqAt.RcNeAt.none_none
  | bl ay=>
   cases hx;cases rx
   cases hy;cases ry
   exact SeqAt.RcNeAt.none_bool _
  | int ay=>
   cases hx;cases rx
   cases hy;obtain ⟨t_hy,rfl⟩:=ry
   exact SeqAt.RcNeAt.none_int _ t_hy
  | str ay=>
   cases hx;cases rx
   cases hy;obtain ⟨t_hy,rfl⟩:=ry
   exact SeqAt.RcNeAt.none_str _ t_hy
  | tup ay=>
   cases hx;cases rx
   obtain ⟨a_hy,vs_hy,e_hy,q_hy,_⟩:=hy
   subst e_hy;cases ry
   obtain ⟨its_hy,_,p_hy,_⟩:=I.tuple q_hy
   exact SeqAt.RcNeAt.none_tuple p_hy hu
  | lst ay=>
   cases hx;cases rx
   obtain ⟨a_hy,vs_hy,e_hy,q_hy,_⟩:=hy
   subst e_hy;cases ry
   obtain ⟨its_hy,_,p_hy,_⟩:=I.list q_hy
   exact SeqAt.RcNeAt.none_list p_hy.isList hu
 | bl ax=>
  cases y with
  | non=>
   cases hx;cases rx
   cases hy;cases ry
   exact SeqAt.RcNeAt.bool_none _
  | bl ay=>
   cases hx;cases rx
   cases hy;cases ry
   exact SeqAt.RcNeAt.bool_bool _ _
  | int ay=>
   cases hx;cases rx
   cases hy;obtain ⟨t_hy,rfl⟩:=ry
   exact SeqAt.RcNeAt.bool_int _ _ t_hy
  | str ay=>
   cases hx;cases rx
   cases hy;obtain ⟨t_hy,rfl⟩:=ry
   exact SeqAt.RcNeAt.bool_str _ _ t_hy
  | tup ay=>
   cases hx;cases rx
   obtain ⟨a_hy,vs_hy,e_hy,q_hy,_⟩:=hy
   subst e_hy;cases ry
   obtain ⟨its_hy,_,p_hy,_⟩:=I.tuple q_hy
   exact SeqAt.RcNeAt.bool_tuple _ p_hy hu
  | lst ay=>
   cases hx;cases rx
   obtain ⟨a_hy,vs_hy,e_hy,q_hy,_⟩:=hy
   subst e_hy;cases ry
   obtain ⟨its_hy,_,p_hy,_⟩:=I.list q_hy
   exact SeqAt.RcNeAt.bool_list _ p_hy.isList hu
 | int ax=>
  cases y with
  | non=>
   cases hx;obtain ⟨t_hx,rfl⟩:=rx
   cases hy;cases ry
   exact SeqAt.RcNeAt.int_none _ t_hx
  | bl ay=>
   cases hx;obtain ⟨t_hx,rfl⟩:=rx
   cases hy;cases ry
   exact SeqAt.RcNeAt.int_bool _ t_hx _
  | int ay=>
   cases hx;obtain ⟨t_hx,rfl⟩:=rx
   cases hy;obtain ⟨t_hy,rfl⟩:=ry
   exact SeqAt.RcNeAt.int_int _ t_hx _ t_hy
  | str ay=>
   cases hx;obtain ⟨t_hx,rfl⟩:=rx
   cases hy;obtain ⟨t_hy,rfl⟩:=ry
   exact SeqAt.RcNeAt.int_str _ t_hx _ t_hy
  | tup ay=>
   cases hx;obtain ⟨t_hx,rfl⟩:=rx
   obtain ⟨a_hy,vs_hy,e_hy,q_hy,_⟩:=hy
   subst e_hy;cases ry
   obtain ⟨its_hy,_,p_hy,_⟩:=I.tuple q_hy
   exact SeqAt.RcNeAt.int_tuple _ t_hx p_hy hu
  | lst ay=>
   cases hx;obtain ⟨t_hx,rfl⟩:=rx
   obtain ⟨a_hy,vs_hy,e_hy,q_hy,_⟩:=hy
   subst e_hy;cases ry
   obtain ⟨its_hy,_,p_hy,_⟩:=I.list q_hy
   exact SeqAt.RcNeAt.int_list _ t_hx p_hy.isList hu
 | str ax=>
  cases y with
  | non=>
   cases hx;obtain ⟨t_hx,rfl⟩:=rx
   cases hy;cases ry
   exact SeqAt.RcNeAt.str_none _ t_hx
  | bl ay=>
   cases hx;obtain ⟨t_hx,rfl⟩:=rx
   cases hy;cases ry
   exact SeqAt.RcNeAt.str_bool _ t_hx _
  | int ay=>
   cases hx;obtain ⟨t_hx,rfl⟩:=rx
   cases hy;obtain ⟨t_hy,rfl⟩:=ry
   exact SeqAt.RcNeAt.str_int _ t_hx _ t_hy
  | str ay=>
   cases hx;obtain ⟨t_hx,rfl⟩:=rx
   cases hy;obtain ⟨t_hy,rfl⟩:=ry
   exact SeqAt.RcNeAt.str_str _ t_hx _ t_hy
  | tup ay=>
   cases hx;obtain ⟨t_hx,rfl⟩:=rx
   obtain ⟨a_hy,vs_hy,e_hy,q_hy,_⟩:=hy
   subst e_hy;cases ry
   obtain ⟨its_hy,_,p_hy,_⟩:=I.tuple q_hy
   exact SeqAt.RcNeAt.str_tuple _ t_hx p_hy hu
  | lst ay=>
   cases hx;obtain ⟨t_hx,rfl⟩:=rx
   obtain ⟨a_hy,vs_hy,e_hy,q_hy,_⟩:=hy
   subst e_hy;cases ry
   obtain ⟨its_hy,_,p_hy,_⟩:=I.list q_hy
   exact SeqAt.RcNeAt.str_list _ t_hx p_hy.isList hu
 | tup ax=>
  cases y with
  | non=>
   obtain ⟨a_hx,vs_hx,e_hx,q_hx,_⟩:=hx
   subst e_hx;cases rx
   obtain ⟨its_hx,_,p_hx,_⟩:=I.tuple q_hx
   cases hy;cases ry
   exact SeqAt.RcNeAt.tuple_none p_hx hu
  | bl ay=>
   obtain ⟨a_hx,vs_hx,e_hx,q_hx,_⟩:=hx
   subst e_hx;cases rx
   obtain ⟨its_hx,_,p_hx,_⟩:=I.tuple q_hx
   cases hy;cases ry
   exact SeqAt.RcNeAt.tuple_bool _ p_hx hu
  | int ay=>
   obtain ⟨a_hx,vs_hx,e_hx,q_hx,_⟩:=hx
   subst e_hx;cases rx
   obtain ⟨its_hx,_,p_hx,_⟩:=I.tuple q_hx
   cases hy;obtain ⟨t_hy,rfl⟩:=ry
   exact SeqAt.RcNeAt.tuple_int _ t_hy p_hx hu
  | str ay=>
   obtain ⟨a_hx,vs_hx,e_hx,q_hx,_⟩:=hx
   subst e_hx;cases rx
   obtain ⟨its_hx,_,p_hx,_⟩:=I.tuple q_hx
   cases hy;obtain ⟨t_hy,rfl⟩:=ry
   exact SeqAt.RcNeAt.tuple_str _ t_hy p_hx hu
  | tup ay=>
   exact absurd ⟨rfl,rfl⟩ (nt ax ay)
  | lst ay=>
   obtain ⟨a_hx,vs_hx,e_hx,q_hx,_⟩:=hx
   subst e_hx;cases rx
   obtain ⟨its_hx,_,p_hx,_⟩:=I.tuple q_hx
   obtain ⟨a_hy,vs_hy,e_hy,q_hy,_⟩:=hy
   subst e_hy;cases ry
   obtain ⟨its_hy,_,p_hy,_⟩:=I.list q_hy
   exact SeqAt.RcNeAt.tuple_list p_hx p_hy.isList hu
 | lst ax=>
  cases y with
  | non=>
   obtain ⟨a_hx,vs_hx,e_hx,q_hx,_⟩:=hx
   subst e_hx;cases rx
   obtain ⟨its_hx,_,p_hx,_⟩:=I.list q_hx
   cases hy;cases ry
   exact SeqAt.RcNeAt.list_none p_hx.isList hu
  | bl ay=>
   obtain ⟨a_hx,vs_hx,e_hx,q_hx,_⟩:=hx
   subst e_hx;cases rx
   obtain ⟨its_hx,_,p_hx,_⟩:=I.list q_hx
   cases hy;cases ry
   exact SeqAt.RcNeAt.list_bool _ p_hx.isList hu
  | int ay=>
   obtain ⟨a_hx,vs_hx,e_hx,q_hx,_⟩:=hx
   subst e_hx;cases rx
   obtain ⟨its_hx,_,p_hx,_⟩:=I.list q_hx
   cases hy;obtain ⟨t_hy,rfl⟩:=ry
   exact SeqAt.RcNeAt.list_int _ t_hy p_hx.isList hu
  | str ay=>
   obtain ⟨a_hx,vs_hx,e_hx,q_hx,_⟩:=hx
   subst e_hx;cases rx
   obtain ⟨its_hx,_,p_hx,_⟩:=I.list q_hx
   cases hy;obtain ⟨t_hy,rfl⟩:=ry
   exact SeqAt.RcNeAt.list_str _ t_hy p_hx.isList hu
  | tup ay=>
   obtain ⟨a_hx,vs_hx,e_hx,q_hx,_⟩:=hx
   subst e_hx;cases rx
   obtain ⟨its_hx,_,p_hx,_⟩:=I.list q_hx
   obtain ⟨a_hy,vs_hy,e_hy,q_hy,_⟩:=hy
   subst e_hy;cases ry
   obtain ⟨its_hy,_,p_hy,_⟩:=I.tuple q_hy
   exact SeqAt.RcNeAt.list_tuple p_hx.isList p_hy hu
  | lst ay=>
   exact absurd ⟨rfl,rfl⟩ (nl ax ay)
theorem notFloat {K:PySem.W.Frag} {x:T} {v:V} {u:Value} (h:Rq K H x v) (r:RelV v u):∀b t,u≠.float b t:=fun b t e=>by
 subst e
 cases x with
 | tup _=>obtain ⟨_,_,e,_⟩:=h;subst e;cases r
 | lst _=>obtain ⟨_,_,e,_⟩:=h;subst e;cases r
 | non=>cases h;cases r
 | bl _=>cases h;cases r
 | int _=>cases h;obtain ⟨_,r⟩:=r;cases r
 | str _=>cases h;obtain ⟨_,r⟩:=r;cases r
theorem rc_all (I:Inv X pins σ H s):∀(n:Nat) (A:Around) (x y:T) (v w:V) (u u':Value),dT x≤n→Rq X.K H x v→Rq X.K H y w→RelV v u→RelV w u'→A.units+n<cLine→SeqAt.RcAt A s u u' (eqT x y)∧SeqAt.EqAt A s u u' (eqT x y):=by
 have fin:∀{A:Around} {x y:T} {v w:V} {u u':Value},Rq X.K H x v→Rq X.K H y w→RelV v u→RelV w u'→SeqAt.RcAt A s u u' (eqT x y)→SeqAt.RcAt A s u u' (eqT x y)∧SeqAt.EqAt A s u u' (eqT x y):=fun {A x y v w u u'} hx hy rx ry h=>⟨h,EqAt_of_rc h (fun e=>by
   subst e
   rw [Rq.inj I hx (by rw [rel_inj rx ry];exact hy)]
   exact eqT_refl y) (notFloat hx rx)⟩
 intro n
 induction n with
 | zero=>
  intro A x y v w u u' hd hx hy rx ry hu
  refine fin hx hy rx ry (rc_mixed I (by omega) (fun xs ys z=>?_) (fun xs ys z=>?_) hx hy rx ry)
  ·rw [z.1] at hd;simp [dT] at hd
  ·rw [z.1] at hd;simp [dT] at hd
 | succ n ih=>
  intro A x y v w u u' hd hx hy rx ry hu
  refine fin hx hy rx ry ?_
  by_cases c1:∃xs ys,x = .tup xs∧y = .tup ys
  ·obtain ⟨xs,ys,rfl,rfl⟩:=c1
   obtain ⟨a,vs,rfl,q1,h1⟩:=hx
   obtain ⟨b,ws,rfl,q2,h2⟩:=hy
   cases rx;cases ry
   obtain ⟨its,r1,p1,_⟩:=I.tuple q1
   obtain ⟨js,r2,p2,_⟩:=I.tuple q2
   have:=SeqAt.RcAt.tuples p1 p2 (A:=A) (by omega) (items_eq A.in1 r1 r2 h1 h2 fun j x y v w u u' e1 e2 k1 k2 k3 k4=>(ih A.in1 x y v w u u' (by
    have:=dT_mem (List.mem_of_getElem? e1)
    simp only [dT] at hd;omega) k1 k2 k3 k4 (by show A.units+1+n<cLine;omega)).2)
   rw [eqT,eqTs_range]
   have l1:=r1.length;have l2:=r2.length;have l3:=h1.length;have l4:=h2.length
   have s1:its.toArray.size=xs.length:=by simp;omega
   have s2:js.toArray.size=ys.length:=by simp;omega
   rw [s1,s2] at this
   exact this
  ·by_cases c2:∃xs ys,x = .lst xs∧y = .lst ys
   ·obtain ⟨xs,ys,rfl,rfl⟩:=c2
    obtain ⟨a,vs,rfl,q1,h1⟩:=hx
    obtain ⟨b,ws,rfl,q2,h2⟩:=hy
    cases rx;cases ry
    obtain ⟨its,r1,p1,_⟩:=I.list q1
    obtain ⟨js,r2,p2,_⟩:=I.list q2
    have l1:=r1.length;have l2:=r2.length;have l3:=h1.length;have l4:=h2.length
    have s1:its.toArray.size=xs.length:=by simp;omega
    have s2:js.toArray.size=ys.length:=by simp;omega
    rw [eqT,eqTs_range]
    by_cases hl:xs.length=ys.length
    ·have:=SeqAt.RcAt.lists p1.isList p2.isList (A:=A) (by rw [s1,s2];exact hl) (by omega) (items_eq A.in1 r1 r2 h1 h2 fun j x y v w u u' e1 e2 k1 k2 k3 k4=>(ih A.in1 x y v w u u' (by
      have:=dT_mem (List.mem_of_getElem? e1)
      simp only [dT] at hd;omega) k1 k2 k3 k4 (by show A.units+1+n<cLine;omega)).2)
     rw [s1] at this
     rw [←hl,Nat.min_self,beq_self_eq_true,Bool.and_true]
     exact this
    ·have:=SeqAt.RcAt.lists_lengths p1.isList p2.isList (A:=A) (by rw [s1,s2];simpa using hl) (by omega)
     rw [show (xs.length==ys.length)=false by simpa using hl,Bool.and_false]
     exact this
   ·exact rc_mixed I (by omega) (fun xs ys z=>c1 ⟨xs,ys,z⟩) (fun xs ys z=>c2 ⟨xs,ys,z⟩) hx hy rx ry
theorem rcn_all (I:Inv X pins σ H s) {A:Around} {x y:T} {v w:V} {u u':Value} (n:Nat) (hd:dT x≤n) (hx:Rq X.K H x v) (hy:Rq X.K H y w) (rx:RelV v u) (ry:RelV w u') (hu:A.units+n<cLine):SeqAt.RcNeAt A s u u' (!(eqT x y)):=by
 by_cases c1:∃xs ys,x = .tup xs∧y = .tup ys
 ·obtain ⟨xs,ys,rfl,rfl⟩:=c1
  obtain ⟨a,vs,rfl,q1,h1⟩:=hx
  obtain ⟨b,ws,rfl,q2,h2⟩:=hy
  cases rx;cases ry
  obtain ⟨its,r1,p1,_⟩:=I.tuple q1
  obtain ⟨js,r2,p2,_⟩:=I.tuple q2
  have:=SeqAt.RcNeAt.tuples p1 p2 (A:=A) (by omega) (items_eq A.in1 r1 r2 h1 h2 fun j x y v w u u' e1 e2 k1 k2 k3 k4=>(rc_all I (n-1) A.in1 x y v w u u' (by
   have:=dT_mem (List.mem_of_getElem? e1)
   simp only [dT] at hd;omega) k1 k2 k3 k4 (by show A.units+1+(n-1)<cLine;simp only [dT] at hd;omega)).2)
  rw [eqT,eqTs_range]
  have l1:=r1.length;have l2:=r2.length;have l3:=h1.length;have l4:=h2.length
  have s1:its.toArray.size=xs.length:=by simp;omega
  have s2:js.toArray.size=ys.length:=by simp;omega
  rw [s1,s2] at this
  exact this
 ·by_cases c2:∃xs ys,x = .lst xs∧y = .lst ys
  ·obtain ⟨xs,ys,rfl,rfl⟩:=c2
   obtain ⟨a,vs,rfl,q1,h1⟩:=hx
   obtain ⟨b,ws,rfl,q2,h2⟩:=hy
   cases rx;cases ry
   obtain ⟨its,r1,p1,_⟩:=I.list q1
   obtain ⟨js,r2,p2,_⟩:=I.list q2
   have l1:=r1.length;have l2:=r2.length;have l3:=h1.length;have l4:=h2.length
   have s1:its.toArray.size=xs.length:=by simp;omega
   have s2:js.toArray.size=ys.length:=by simp;omega
   rw [eqT,eqTs_range]
   by_cases hl:xs.length=ys.length
   ·have:=SeqAt.RcNeAt.lists p1.isList p2.isList (A:=A) (by rw [s1,s2];exact hl) (by omega) (items_eq A.in1 r1 r2 h1 h2 fun j x y v w u u' e1 e2 k1 k2 k3 k4=>(rc_all I (n-1) A.in1 x y v w u u' (by
     have:=dT_mem (List.mem_of_getElem? e1)
     simp only [dT] at hd;omega) k1 k2 k3 k4 (by show A.units+1+(n-1)<cLine;simp only [dT] at hd;omega)).2)
    rw [s1] at this
    rw [←hl,Nat.min_self,beq_self_eq_true,Bool.and_true]
    exact this
   ·have:=SeqAt.RcNeAt.lists_lengths p1.isList p2.isList (A:=A) (by rw [s1,s2];simpa using hl) (by omega)
    rw [show (xs.length==ys.length)=false by simpa using hl,Bool.and_false]
    exact this
  ·exact rcn_mixed I (by omega) (fun xs ys z=>c1 ⟨xs,ys,z⟩) (fun xs ys z=>c2 ⟨xs,ys,z⟩) hx hy rx ry
end
section
variable {X:Cx} {K:PySem.W.Frag} {pos:Pos} {a b c e o:Expr} {es:List Expr} {Fa Fb Fo:FE} {Fr:FA}
def rEqT (K:PySem.W.Frag) (ng:Bool):R2:=fun x y H Q=>∃t u,Rq K H t x∧Rq K H u y∧dT t≤60∧Q (.bl (if ng then !(eqT t u) else eqT t u)) H
theorem op_eqT {k:Nat} (hr:Room k X.A):OpR X (compareOp .Eq) (rEqT X.K false):=by
 intro pins s σ H x y v u Q I rx ry h
 obtain ⟨t,w,h1,h2,hd,q⟩:=h
 exact (rc_all I 60 X.A t w x y v u hd h1 h2 rx ry (by have:=hr.units;omega)).1 X.prog X.w X.xe _ (fin_bl I q rfl)
theorem op_neT {k:Nat} (hr:Room k X.A):OpR X (compareOp .NotEq) (rEqT X.K true):=by
 intro pins s σ H x y v u Q I rx ry h
 obtain ⟨t,w,h1,h2,hd,q⟩:=h
 exact rcn_all I 60 hd h1 h2 rx ry (by have:=hr.units;omega) X.prog X.w X.xe _ (fin_bl I q rfl)
def t2 (x y:Option T) (k:T→T→Prop):Prop:=match x,y with
 | some t,some u=>k t u
 | _,_=>False
theorem t2.ex {x y:Option T} {k:T→T→Prop} (h:t2 x y k):∃t u,x=some t∧y=some u∧k t u:=by
 unfold t2 at h;split at h
 ·exact ⟨_,_,rfl,rfl,h⟩
 ·exact h.elim
def fEq (Fa Fb:FE):FE:=fun E Q=>Fa E fun x E1=>Fb E1 fun y E2=>t2 (vl E2 x) (vl E2 y) fun t u=>dT t≤60∧Q (.p (.bl (eqT t u))) E2
def fNe (Fa Fb:FE):FE:=fun E Q=>Fa E fun x E1=>Fb E1 fun y E2=>t2 (vl E2 x) (vl E2 y) fun t u=>dT t≤60∧Q (.p (.bl (!(eqT t u)))) E2
theorem fe_eq {k:Nat} (eK:X.K=K) (hr:Room k X.A) (ha:QE X a (simE K Fa)) (hb:QE X b (simE K Fb)) (hm:behindInMarks .Eq b=false):QE X (.Compare a [.Eq] [b] pos) (simE K (fEq Fa Fb)):=by
 subst eK
 refine (qe_cmpR (op_eqT hr) ha hb hm).le fun σ H Q hl h=>two (Fa:=Fa) (Fb:=Fb) h fun B S E x y v w H2 Q' hS re rx ry q lk=>?_
 obtain ⟨t,u,e1,e2,hd,q⟩:=q.ex
 exact ⟨t,u,(re.vl rx e1).rq,(re.vl ry e2).rq,hd,lk _ _ _ _ _ q .refl re rfl⟩
end
end L2
set_option Elab.async false
set_option linter.all false
set_option maxRecDepth 100000
set_option maxHeartbeats 4000000
namespace L2
open PySem PySem.Spec PyProof.Rows
section
variable {X:Cx} {K:PySem.W.Frag} {pos:Pos} {a b c e o:Expr} {es:List Expr} {Fa Fb Fc Fo:FE} {Fr:FA}
theorem ft_cmp {op:CmpOp} {r:R2} {F:FE} (ho:OpR X (compareOp op) r) (ha:QE X a (simE K Fa)) (hb:QE X b (simE K Fb)) (hm:behindInMarks op b=false) (k:∀σ H Q,simE K F σ H Q→tOp r (simE K Fa) (simE K Fb) σ H Q):QT X (.Compare a [op] [b] pos) (simB K (bVal F)):=
 (qt_cmpR ho ha hb hm).le fun σ H Q z=>k _ _ _ (b_of z)
theorem ft_cp {op:CmpOp} {g:Int→Int→Bool} (ho:OpR X (compareOp op) (rI0 fun i j=>.bl (g i j))) (ha:QE X a (simE K Fa)) (hb:QE X b (simE K Fb)) (hm:behindInMarks op b=false):QT X (.Compare a [op] [b] pos) (simB K (bVal (fCp g Fa Fb))):=
 ft_cmp ho ha hb hm fun σ H Q h=>two (Fa:=Fa) (Fb:=Fb) h fun B S E x y v w H2 Q' hS re rx ry q lk=>by
  obtain ⟨i,j,e1,e2,q⟩:=i2.ex q
  exact ⟨i,j,re.int rx e1,re.int ry e2,lk _ _ _ _ _ q .refl re rfl⟩
theorem ft_eq {k:Nat} (eK:X.K=K) (hr:Room k X.A) (ha:QE X a (simE K Fa)) (hb:QE X b (simE K Fb)) (hm:behindInMarks .Eq b=false):QT X (.Compare a [.Eq] [b] pos) (simB K (bVal (fEq Fa Fb))):=by
 subst eK
 refine ft_cmp (op_eqT hr) ha hb hm fun σ H Q h=>two (Fa:=Fa) (Fb:=Fb) h fun B S E x y v w H2 Q' hS re rx ry q lk=>?_
 obtain ⟨t,u,e1,e2,hd,q⟩:=t2.ex q
 exact ⟨t,u,(re.vl rx e1).rq,(re.vl ry e2).rq,hd,lk _ _ _ _ _ q .refl re rfl⟩
theorem ft_ne {k:Nat} (eK:X.K=K) (hr:Room k X.A) (ha:QE X a (simE K Fa)) (hb:QE X b (simE K Fb)) (hm:behindInMarks .NotEq b=false):QT X (.Compare a [.NotEq] [b] pos) (simB K (bVal (fNe Fa Fb))):=by
 subst eK
 refine ft_cmp (op_neT hr) ha hb hm fun σ H Q h=>two (Fa:=Fa) (Fb:=Fb) h fun B S E x y v w H2 Q' hS re rx ry q lk=>?_
 obtain ⟨t,u,e1,e2,hd,q⟩:=t2.ex q
 exact ⟨t,u,(re.vl rx e1).rq,(re.vl ry e2).rq,hd,lk _ _ _ _ _ q .refl re rfl⟩
def isNon:T→Bool
 | .non=>true
 | _=>false
theorem non_v {H:Hp} {t:T} {v:V} (h:Rq K H t v):decide (v = .non)=isNon t:=by
 cases t with
 | non=>cases h;rfl
 | bl _=>cases h;rfl
 | int _=>cases h;rfl
 | str _=>cases h;rfl
 | tup _=>obtain ⟨_,_,e,_⟩:=h;subst e;rfl
 | lst _=>obtain ⟨_,_,e,_⟩:=h;subst e;rfl
def fIsN (ng:Bool) (Fa:FE):FE:=fun E Q=>Fa E fun x E1=>o1 (vl E1 x) fun t=>Q (.p (.bl (if ng then !(isNon t) else isNon t))) E1
theorem notN_sim {σ:St} {H:Hp} {Q:VK} (h:simE K (fIsN true Fa) σ H Q):tOp (fun x y H Q=>y = .non∧Q (.bl (!decide (x = .non))) H) (simE K Fa) (tC .non) σ H Q:=
 one (Fa:=Fa) h fun B S E x v H2 Q' hS re rx q lk=>by
  obtain ⟨t,e1,q⟩:=o1.ex q
  exact ⟨rfl,by rw [non_v (re.vl rx e1).rq];exact lk _ _ _ _ _ q .refl re rfl⟩
theorem fe_notN {j p2} (ha:QE X a (simE K Fa)) (hm:behindInMarks .IsNot (.Constant .none j p2)=false):QE X (.Compare a [.IsNot] [.Constant .none j p2] pos) (simE K (fIsN true Fa)):=(qe_cmpR op_notN ha qe_non hm).le fun _ _ _ _ h=>notN_sim h
def kdT:T→String
 | .non=>"NoneType"
 | .bl _=>"bool"
 | .int _=>"int"
 | .str _=>"str"
 | .tup _=>"tuple"
 | .lst _=>"list"
theorem kd_v {H:Hp} {t:T} {v:V} (h:Rq K H t v):Kd K H v (kdT t):=by
 cases t with
 | non=>cases h;exact .non
 | bl _=>cases h;exact .bl _
 | int _=>cases h;exact .int _
 | str _=>cases h;exact .str _
 | tup _=>obtain ⟨_,_,e,h,_⟩:=h;subst e;exact .tup h
 | lst _=>obtain ⟨_,_,e,h,_⟩:=h;subst e;exact .lst h
def isL:T→Bool
 | .lst _=>true
 | _=>false
def isT:T→Bool
 | .tup _=>true
 | _=>false
def isB:T→Bool
 | .bl _=>true
 | _=>false
def isI:T→Bool
 | .int _=>true
 | .bl _=>true
 | _=>false
theorem k_tuple:∀t,isT t=isi (kdT t) "tuple":=by intro t;cases t<;>simp [isT,isi,kdT]
theorem k_bool:∀t,isB t=isi (kdT t) "bool":=by intro t;cases t<;>simp [isB,isi,kdT]
theorem k_int:∀t,isI t=isi (kdT t) "int":=by intro t;cases t<;>simp [isI,isi,kdT]
def fIsi (f:T→Bool) (Fa:FE):FE:=fun E Q=>Fa E fun x E1=>o1 (vl E1 x) fun t=>Q (.p (.bl (f t))) E1
theorem fe_isi {x:Str} {T1:String} {f:T→Bool} {p p1:Pos} (kf:∀t,f t=isi (kdT t) T1) (eK:X.K=K) (hg:Gl X "isinstance") (hm:X.mg "isinstance" = none) (ha:QE X a (simE K Fa)) (h1:Gl X x) (m1:X.mg x=none) (b1:bootBuiltins x=some (.type T1)) (hT:T1∈tys) (n1:x≠"__name__":=by decide) (d1:(x==("__debug__":Str))=false:=by decide) (hs:isStar a=false:=by rfl) (hns:noStar [a,.Name x p1]=true:=by rfl) :
  QE X (.Call (.Name "isinstance" p) [a,.Name x p1] [] pos) (simE K (fIsi f Fa)):=by
 subst eK
 refine (qe_callBS call_isi hg hm boot_isinstance (qc ha (qc (qe_bltn (v:=.ty T1) h1 m1 b1 rfl n1 d1) qa_nil) hs) (by decide) (by decide) hns).le fun σ H Q hl h=>one (Fa:=Fa) h fun B S E x v H2 Q' hS re rx q lk=>?_
 obtain ⟨t,e1,q⟩:=o1.ex q
 rw [kf] at q
 exact ⟨v,_,T1,rfl,kd_v (re.vl rx e1).rq,hT,lk _ _ _ _ _ q .refl re rfl⟩
def cutT (xs:List T) (lo hi:Option Int):List T:=(xs.drop (HT.sIx xs.length 0 lo)).take (HT.sIx xs.length xs.length hi-HT.sIx xs.length 0 lo)
theorem cut_rp {H:Hp} {O:Addr→Prop} {xs:List T} {vs:List V} {lo hi:Option Int} (h:Rps K H O xs vs):Rps K H O (cutT xs lo hi) (cutV vs lo hi):=by
 unfold cutT cutV
 rw [h.length]
 exact (h.drop _).take _
abbrev FO:=En→(Option Int→En→Prop)→Prop
def simO (K:PySem.W.Frag) (F:FO):TO:=fun σ H Q=>∃B S E Q',(∃τ,S=σ++τ)∧RE K B H S E∧F E Q'∧∀b E' H' S',Q' b E'→Gr B H S E H' S' E'→RE K B H' S' E'→Q b H'
theorem QO.le {e:Option Expr} {t t':TO} (h:QO X e t) (m:∀σ H Q,t' σ H Q→t σ H Q):QO X e t':=⟨fun pins s σ H Q I z=>h.h pins s σ H Q I (m σ H Q z)⟩
def oNone:FO:=fun E Q=>Q none E
def oSome (Fa:FE):FO:=fun E Q=>Fa E fun x E1=>i1 (vl E1 x) fun i=>Q (some i) E1
theorem fo_none:QO X none (simO K oNone):=qo_none.le fun σ H Q ⟨B,S,E,Q',hS,re,hF,lk⟩=>lk _ _ _ _ hF .refl re
theorem fo_some (h:QE X e (simE K Fa)):QO X (some e) (simO K (oSome Fa)):=(qo_some h).le fun σ H Q ⟨B,S,E,Q',hS,re,hF,lk⟩=>⟨B,S,E,_,hS,re,hF,fun r E1 v H1 S1 q g re1 rr=>by
 obtain ⟨i,e1,q⟩:=i1.ex q
 exact ⟨i,re1.int rr e1,lk _ _ _ _ q g re1⟩⟩
variable {Gl' Gh:FO}
def fSlL (Fa:FE) (Gl' Gh:FO):FE:=fun E Q=>Fa E fun x E1=>Gl' E1 fun lo E2=>Gh E2 fun hi E3=>match vl E3 x with
 | some (.lst xs)=>Q (.s E3.length) (E3++[some (.o false (cutT xs lo hi))])
 | _=>False
theorem fe_sliceL {lo hi:Option Expr} {p2:Pos} (eK:X.K=K) (he:QE X e (simE K Fa)) (hl:QO X lo (simO K Gl')) (hu:QO X hi (simO K Gh)):QE X (.Subscript e (.Slice lo hi none p2) pos) (simE K (fSlL Fa Gl' Gh)):=by
 subst eK
 refine (qe_slice sl_list he hl hu).le fun σ H Q _ ⟨B,S,E,Q',⟨τ,hS⟩,re,hF,lk⟩=>⟨B,S,E,_,⟨τ,hS⟩,re,hF,fun x E1 v H1 S1 q g1 re1 rx=>?_⟩
 obtain ⟨τ1,hS1⟩:=g1.pre
 refine ⟨B,S1,E1,_,⟨τ++τ1,by rw [hS1,hS,List.append_assoc]⟩,re1,q,fun l E2 H2 S2 q2 g2 re2=>?_⟩
 obtain ⟨τ2,hS2⟩:=g2.pre
 refine ⟨B,S2,E2,_,⟨τ++τ1++τ2,by rw [hS2,hS1,hS,List.append_assoc,List.append_assoc,List.append_assoc]⟩,re2,q2,fun h E3 H3 S3 q3 g3 re3=>?_⟩
 have rx3:=(rx.step g2).step g3
 split at q3
 ·rename_i xs e1
  obtain ⟨a,vs,e2,sq,rs⟩:=re3.vl rx3 e1
  refine ⟨a,vs,e2,sq,fun p hp=>?_⟩
  obtain ⟨g,re'⟩:=re3.lst hp (cut_rp (lo:=l) (hi:=h) rs)
  exact lk _ _ _ _ _ q3 (((g1.trans g2).trans g3).trans g) re' (by rw [←re3.len];exact get_last)
 ·exact q3.elim
def ownOf (E:En):R→Option (List T)
 | .s j=>match E[j]? with
  | some (some (.o _ xs))=>some xs
  | _=>none
 | _=>none
theorem RE.ownOf {B:Addr→Prop} {H:Hp} {S:St} {E:En} (re:RE K B H S E) {r:R} {v:V} {xs:List T} (h:RR K B H S E r v) (e:L2.ownOf E r=some xs):∃j k a vs,r = .s j∧E[j]? = some (some (.o k xs))∧S[j]? = some (some (.ref a))∧v = .ref a∧H a=some (.lst vs)∧Rps K H (Ow B S E) xs vs:=by
 cases r with
 | p _=>cases e
 | s j=>
  cases q:E[j]? with
  | none=>simp only [L2.ownOf,q] at e;cases e
  | some u=>
   cases u with
   | none=>simp only [L2.ownOf,q] at e;cases e
   | some u=>
    cases u with
    | p _=>simp only [L2.ownOf,q] at e;cases e
    | o k ys=>
     simp only [L2.ownOf,q] at e;cases e
     obtain ⟨a,vs,h1,h2,h3,_⟩:=re.own j k xs q
     have h':S[j]? = some (some v):=h
     rw [h'] at h1;cases h1
     exact ⟨j,k,a,vs,rfl,q,h',rfl,h2,h3⟩
def l2 (x y:Option (List T)) (k:List T→List T→Prop):Prop:=match x,y with
 | some t,some u=>k t u
 | _,_=>False
theorem l2.ex {x y:Option (List T)} {k:List T→List T→Prop} (h:l2 x y k):∃t u,x=some t∧y=some u∧k t u:=by
 unfold l2 at h;split at h
 ·exact ⟨_,_,rfl,rfl,h⟩
 ·exact h.elim
def fCat (Fa Fb:FE):FE:=fun E Q=>Fa E fun x E1=>Fb E1 fun y E2=>l2 (ownOf E2 x) (ownOf E2 y) fun xs ys=>xs.length+ys.length≤1000∧Q (.s E2.length) (E2++[some (.o false (xs++ys))])
theorem fe_cat (ha:QE X a (simE K Fa)) (hb:QE X b (simE K Fb)):QE X (.BinOp a .Add b pos) (simE K (fCat Fa Fb)):=by
 refine (qe_op op_cat ha hb).le fun σ H Q hl h=>two (Fa:=Fa) (Fb:=Fb) h fun B S E x y v w H2 Q' hS re rx ry q lk=>?_
 obtain ⟨xs,ys,e1,e2,hz,q⟩:=l2.ex q
 obtain ⟨j,k,p,vs,_,_,_,rfl,h2,h3⟩:=re.ownOf rx e1
 obtain ⟨j',k',p',vs',_,_,_,rfl,h2',h3'⟩:=re.ownOf ry e2
 refine ⟨p,p',vs,vs',rfl,rfl,h2,h2',by rw [h3.length,h3'.length];exact Nat.le_of_lt (small1000 hz),fun r hr=>?_⟩
 obtain ⟨g,re'⟩:=re.lst hr (h3.append h3')
 exact lk _ _ _ _ _ q g re' (by rw [←re.len];exact get_last)
def repT (k:Int) (xs:List T):List T:=(List.replicate k.toNat xs).flatten
theorem rep_rp {H:Hp} {O:Addr→Prop} {xs:List T} {vs:List V} (h:Rps K H O xs vs):∀n:Nat,Rps K H O (List.replicate n xs).flatten (List.replicate n vs).flatten
 | 0=>by simp [Rps]
 | n+1=>by rw [List.replicate_succ,List.replicate_succ,List.flatten_cons,List.flatten_cons];exact h.append (rep_rp h n)
def fRep (Fa Fb:FE):FE:=fun E Q=>Fa E fun x E1=>Fb E1 fun y E2=>o1 (ownOf E2 x) fun xs=>i1 (vl E2 y) fun k=>(-(2^63)≤k∧k<2^63∧xs.length*k.toNat≤1000)∧Q (.s E2.length) (E2++[some (.o false (repT k xs))])
theorem fe_rep (ha:QE X a (simE K Fa)) (hb:QE X b (simE K Fb)):QE X (.BinOp a .Mult b pos) (simE K (fRep Fa Fb)):=by
 refine (qe_op op_rep ha hb).le fun σ H Q hl h=>two (Fa:=Fa) (Fb:=Fb) h fun B S E x y v w H2 Q' hS re rx ry q lk=>?_
 obtain ⟨xs,e1,q⟩:=o1.ex q
 obtain ⟨k,e2,⟨c1,c2,c3⟩,q⟩:=i1.ex q
 obtain ⟨j,kk,p,vs,_,_,_,rfl,h2,h3⟩:=re.ownOf rx e1
 refine ⟨p,k,vs,rfl,re.int ry e2,h2,c1,c2,by rw [h3.length];exact Nat.le_of_lt (small1000 c3),fun r hr=>?_⟩
 obtain ⟨g,re'⟩:=re.lst hr (rep_rp h3 k.toNat)
 exact lk _ _ _ _ _ q g re' (by rw [←re.len];exact get_last)
def fListOf (Fr:FA):FE:=fun E Q=>Fr E fun rs E1=>match rs with
 | [x]=>o1 ((vl E1 x).bind seqT) fun xs=>Q (.s E1.length) (E1++[some (.o false xs)])
 | _=>False
theorem fe_listOf {n:Nat} {p:Pos} (eK:X.K=K) (hg:Gl X "list") (hm:X.mg "list" = none) (ha:QA X (e::es) (simA K n Fr)) (hs:noStar (e::es)=true:=by rfl):QE X (.Call (.Name "list" p) (e::es) [] pos) (simE K (fListOf Fr)):=by
 subst eK
 refine (qe_callTyS call_list_of hg hm (by decide +kernel) ha (by decide) (by decide) hs).le fun σ H Q hl h=>args (Fr:=Fr) h fun B S E rs vs H2 Q' hS re rr hn q lk=>?_
 match rs,rr,q with
 | [x],⟨v,ws,e1,h1,h2⟩,q=>
  cases h2;subst e1
  obtain ⟨xs,e2,q⟩:=o1.ex q
  obtain ⟨t,e3,e2⟩:=Option.bind_eq_some_iff.mp e2
  have rt:=re.vl h1 e3
  have:∃p us,v = .ref p∧(SqL X.K H2 p us∨SqT X.K H2 p us)∧Rps X.K H2 (Ow B S E) xs us:=by
   cases t with
   | tup ys=>cases e2;obtain ⟨p,us,e,sq,rs⟩:=rt;exact ⟨p,us,e,.inr sq,rs⟩
   | lst ys=>cases e2;obtain ⟨p,us,e,sq,rs⟩:=rt;exact ⟨p,us,e,.inl sq,rs⟩
   | _=>cases e2
  obtain ⟨p,us,rfl,sq,rs⟩:=this
  refine ⟨p,us,rfl,sq,fun r hr=>?_⟩
  obtain ⟨g,re'⟩:=re.lst hr rs
  exact lk _ _ _ _ _ q g re' (by rw [←re.len];exact get_last)
 | [],_,q=>exact q.elim
 | _::_::_,_,q=>exact q.elim
def fTupOf (Fr:FA):FE:=fun E Q=>Fr E fun rs E1=>match rs with
 | [x]=>(match vl E1 x with
  | some (.lst xs)=>Q (.p (.tup xs)) E1
  | _=>False)
 | _=>False
theorem fe_tupOf {n:Nat} {p:Pos} (eK:X.K=K) (hg:Gl X "tuple") (hm:X.mg "tuple" = none) (ha:QA X (e::es) (simA K n Fr)) (hs:noStar (e::es)=true:=by rfl):QE X (.Call (.Name "tuple" p) (e::es) [] pos) (simE K (fTupOf Fr)):=by
 subst eK
 refine (qe_callTyS call_tuple_of hg hm (by decide +kernel) ha (by decide) (by decide) hs).le fun σ H Q hl h=>args (Fr:=Fr) h fun B S E rs vs H2 Q' hS re rr hn q lk=>?_
 match rs,rr,q with
 | [x],⟨v,ws,e1,h1,h2⟩,q=>
  cases h2;subst e1
  simp only at q
  split at q
  ·rename_i xs e2
   obtain ⟨p,us,rfl,sq,rs⟩:=re.vl h1 e2
   refine ⟨p,us,rfl,.inl ⟨sq,fun r hr=>?_⟩⟩
   obtain ⟨g,re',rp⟩:=re.tup hr rs
   exact lk _ _ _ _ _ q g re' rp
  ·exact q.elim
 | [],_,q=>exact q.elim
 | _::_::_,_,q=>exact q.elim
def fMeth1 (f:List T→R→En→Option (List T)) (Fo:FE) (Fr:FA):FE:=fun E Q=>Fo E fun o E1=>o1 (ownOf E1 o) fun _=>Fr E1 fun rs E2=>match o,rs with
 | .s j,[r]=>(match E2[j]? with
  | some (some (.o k xs))=>o1 (f xs r E2) fun ys=>ys.length≤1000∧Q (.p .non) (E2.set j (some (.o k ys)))
  | _=>False)
 | _,_=>False
def appF (xs:List T) (r:R) (E:En):Option (List T):=match r with
 | .p t=>some (xs++[t])
 | _=>none
theorem meth1 {f:List T→R→En→Option (List T)} {r:V→List V→Hp→VK→Prop} {n:Nat} {σ:St} {H:Hp} {Q:VK} (eK:X.K=K) (h:simE K (fMeth1 f Fo Fr) σ H Q)
  (hr:∀(B:Addr→Prop) (S:St) (E:En) (H2:Hp) (xs ys:List T) (rr:R) (y:V) (p:Addr) (vs:List V) (Q:VK),RE K B H2 S E→RR K B H2 S E rr y→f xs rr E=some ys→H2 p=some (.lst vs)→Rps K H2 (Ow B S E) xs vs→ys.length≤1000→
   (∀ws,Rps K H2 (Ow B S E) ys ws→Q .non (upd H2 p (.lst ws)))→r (.ref p) [y] H2 Q):tBM X.K "list" r (simE K Fo) (simA K n Fr) σ H Q:=by
 subst eK
 obtain ⟨B,S,E,Q',⟨τ,hS⟩,re,hF,lk⟩:=h
 refine ⟨B,S,E,_,⟨τ,hS⟩,re,hF,fun oo E1 v H1 S1 q g1 re1 rx=>?_⟩
 obtain ⟨τ1,hS1⟩:=g1.pre
 obtain ⟨xs0,e0,q⟩:=o1.ex q
 obtain ⟨j,k,p,vs,rfl,hE,hSj,rfl,h2,h3⟩:=re1.ownOf rx e0
 refine ⟨.inl ⟨rfl,vs,SqL.of h2⟩,B,S1,E1,_,⟨τ++τ1,by rw [hS1,hS,List.append_assoc]⟩,re1,q,fun rs E2 us H2 S2 q2 g2 re2 rr hn=>?_⟩
 have hSj2:S2[j]? = some (some (.ref p)):=pre_get g2.pre hSj
 match rs,rr,q2 with
 | [r'],⟨y,ws,e1,k1,k2⟩,q2=>
  cases k2;subst e1
  simp only at q2
  split at q2
  ·rename_i k2 xs hE2
   obtain ⟨ys,e3,hz,q2⟩:=o1.ex q2
   obtain ⟨p',vs2,z1,z2,z3,_⟩:=re2.own j k2 xs hE2
   rw [hSj2] at z1;cases z1
   refine hr B S2 E2 H2 xs ys r' y p vs2 Q re2 k1 e3 z2 z3 hz fun ws hw=>?_
   obtain ⟨g3,re3⟩:=re2.put hE2 hSj2 hw
   exact lk _ _ _ _ _ q2 ((g1.trans g2).trans g3) re3 rfl
  ·exact q2.elim
 | [],_,q2=>exact q2.elim
 | _::_::_,_,q2=>exact q2.elim
theorem fe_append {n:Nat} {ap:Pos} (eK:X.K=K) (ho:QE X o (simE K Fo)) (ha:QA X [e] (simA K n Fr)) (hbase:attributeBase o "append" X.env (eval o X.env)=eval o X.env:=by rfl) (hline:(ap.endLine==pos.line)=true:=by rfl) (hs:isStar e=false:=by rfl) :
  QE X (.Call (.Attribute o "append" ap) [e] [] pos) (simE K (fMeth1 appF Fo Fr)):=
 (qe_append ho ha hbase hline hs).le fun σ H Q hl h=>meth1 eK h fun B S E H2 xs ys rr y p vs Q re rx e hp hv hz k=>by
  cases rr with
  | s _=>cases e
  | p t=>
   cases e
   refine ⟨p,vs,y,rfl,rfl,hp,?_,k _ (hv.append ⟨y,[],rfl,rx,rfl⟩)⟩
   rw [hv.length]
   rw [List.length_append] at hz
   exact small1000 (by simp at hz;omega)
end
end L2
set_option Elab.async false
set_option linter.all false
set_option maxRecDepth 100000
set_option maxHeartbeats 4000000
namespace L2
open PySem PySem.Spec PyProof.Rows
end L2
set_option Elab.async false
set_option linter.all false
set_option maxRecDepth 100000
set_option maxHeartbeats 4000000
namespace L2
open PySem PySem.Spec PyProof.Rows
section
variable {prog:Program} {w:World} {A:Around} {E:Value→Shared→Prop} {s:Shared}
end
section
variable {X:Cx} {pins:List (Addr×Obj)} {σ:St} {H:Hp} {s:Shared}
end
section
variable {X:Cx} {K:PySem.W.Frag} {pos:Pos} {Fr:FA}
end
end L2
set_option Elab.async false
set_option linter.all false
set_option maxRecDepth 100000
set_option maxHeartbeats 4000000
namespace My
open PySem L2 PyProof.Rows
theorem gcd_step (x y:Nat):Nat.gcd y (x%y)=Nat.gcd x y:=by
 rw [Nat.gcd_comm x y,Nat.gcd_rec y x,Nat.gcd_comm]
def lowN (n d:Int):Int:=(if 0<d then n else -n)/((Nat.gcd n.natAbs d.natAbs:Nat):Int)
def lowD (n d:Int):Int:=(if 0<d then d else -d)/((Nat.gcd n.natAbs d.natAbs:Nat):Int)
theorem low_core {n d:Int} {g:Nat} (hd:0<d) (hg:g=Nat.gcd n.natAbs d.natAbs):(n/(g:Int)).natAbs≤n.natAbs∧1≤d/(g:Int)∧d/(g:Int)≤d∧Nat.gcd (n/(g:Int)).natAbs (d/(g:Int)).natAbs=1:=by
 have g0:0<g:=by rw [hg];exact Nat.gcd_pos_of_pos_right _ (by omega)
 have dn:(g:Int)∣n:=by rw [hg];exact Int.ofNat_dvd_left.mpr (Nat.gcd_dvd_left _ _)
 have dd:(g:Int)∣d:=by rw [hg];exact Int.ofNat_dvd_left.mpr (Nat.gcd_dvd_right _ _)
 have en:(n/(g:Int)).natAbs=n.natAbs/g:=by rw [Int.natAbs_ediv_of_dvd dn];simp
 have ed:(d/(g:Int)).natAbs=d.natAbs/g:=by rw [Int.natAbs_ediv_of_dvd dd];simp
 refine ⟨by rw [en];exact Nat.div_le_self _ _,?_,?_,?_⟩
 ·obtain ⟨k,hk⟩:=dd
  have hg':(0:Int)<g:=by omega
  rw [hk,Int.mul_ediv_cancel_left _ (by omega)]
  rcases Int.lt_or_le 0 k with h | h
  ·omega
  ·have:(g:Int)*k≤0:=Int.mul_nonpos_of_nonneg_of_nonpos (by omega) h
   omega
 ·exact Int.ediv_le_self _ (by omega)
 ·rw [en,ed,Nat.gcd_div (by rw [hg];exact Nat.gcd_dvd_left _ _) (by rw [hg];exact Nat.gcd_dvd_right _ _),←hg,Nat.div_self g0]
theorem low_facts {n d:Int} (hd:d≠0):(lowN n d).natAbs≤n.natAbs∧1≤lowD n d∧lowD n d≤d.natAbs∧Nat.gcd (lowN n d).natAbs (lowD n d).natAbs=1:=by
 unfold lowN lowD
 by_cases h:0<d
 ·rw [if_pos h,if_pos h]
  have:=low_core (n:=n) (d:=d) h rfl
  refine ⟨this.1,this.2.1,?_,this.2.2.2⟩
  have:=this.2.2.1
  omega
 ·rw [if_neg h,if_neg h]
  have h':0 < -d:=by omega
  have:=low_core (n:=-n) (d:=-d) h' rfl
  simp only [Int.natAbs_neg] at this
  refine ⟨this.1,this.2.1,?_,this.2.2.2⟩
  have:=this.2.2.1
  omega
abbrev Fr:=Int×Int
structure Nrm (p:Fr):Prop where
 d:1≤p.2
 g:Nat.gcd p.1.natAbs p.2.natAbs=1
def low (n d:Int):Fr:=(lowN n d,lowD n d)
def fadd (p q:Fr):Fr:=low (p.1*q.2+q.1*p.2) (p.2*q.2)
def fsub (p q:Fr):Fr:=low (p.1*q.2-q.1*p.2) (p.2*q.2)
def fmul (p q:Fr):Fr:=low (p.1*q.1) (p.2*q.2)
def fneg (p:Fr):Fr:=(-p.1,p.2)
def val (p:Fr):Rat:=(p.1:Rat)/(p.2:Rat)
theorem low_nrm {n d:Int} (hd:d≠0):Nrm (low n d):=⟨(low_facts hd).2.1,(low_facts hd).2.2.2⟩
theorem low_cross {n d:Int} (hd:d≠0):lowN n d*d=n*lowD n d:=by
 have dn:((Nat.gcd n.natAbs d.natAbs:Nat):Int)∣n:=Int.ofNat_dvd_left.mpr (Nat.gcd_dvd_left _ _)
 have dd:((Nat.gcd n.natAbs d.natAbs:Nat):Int)∣d:=Int.ofNat_dvd_left.mpr (Nat.gcd_dvd_right _ _)
 have g0:((Nat.gcd n.natAbs d.natAbs:Nat):Int)≠0:=by
  have:=Nat.gcd_pos_of_pos_right n.natAbs (show 0<d.natAbs by omega)
  omega
 unfold lowN lowD
 generalize ((Nat.gcd n.natAbs d.natAbs:Nat):Int)=g at dn dd g0
 obtain ⟨k,hk⟩:=dn
 obtain ⟨m,hm⟩:=dd
 by_cases h:0<d
 ·rw [if_pos h,if_pos h,hk,hm,Int.mul_ediv_cancel_left _ g0,Int.mul_ediv_cancel_left _ g0]
  grind
 ·rw [if_neg h,if_neg h,hk,hm,←Int.mul_neg,←Int.mul_neg,Int.mul_ediv_cancel_left _ g0,Int.mul_ediv_cancel_left _ g0]
  grind
theorem val_low {n d:Int} (hd:d≠0):val (low n d)=(n:Rat)/(d:Rat):=by
 have h:=low_cross (n:=n) hd
 have h1:=(low_facts (n:=n) hd).2.1
 have a1:((lowD n d:Int):Rat)≠0:=by
  have:lowD n d≠0:=by omega
  exact_mod_cast this
 have a2:(d:Rat)≠0:=by exact_mod_cast hd
 have h':((lowN n d:Int):Rat)*(d:Rat)=(n:Rat)*((lowD n d:Int):Rat):=by exact_mod_cast h
 show ((lowN n d:Int):Rat)/((lowD n d:Int):Rat)=(n:Rat)/(d:Rat)
 grind
theorem Nrm.ne {p:Fr} (h:Nrm p):p.2≠0:=by have:=h.d;omega
theorem Nrm.neR {p:Fr} (h:Nrm p):(p.2:Rat)≠0:=by have:=h.ne;exact_mod_cast this
theorem mul_ne {p q:Fr} (hp:Nrm p) (hq:Nrm q):p.2*q.2≠0:=Int.mul_ne_zero hp.ne hq.ne
theorem val_add {p q:Fr} (hp:Nrm p) (hq:Nrm q):val (fadd p q)=val p+val q:=by
 have h1:=hp.neR
 have h2:=hq.neR
 unfold fadd
 rw [val_low (mul_ne hp hq)]
 unfold val
 push_cast
 grind
theorem val_sub {p q:Fr} (hp:Nrm p) (hq:Nrm q):val (fsub p q)=val p-val q:=by
 have h1:=hp.neR
 have h2:=hq.neR
 unfold fsub
 rw [val_low (mul_ne hp hq)]
 unfold val
 push_cast
 grind
theorem val_mul {p q:Fr} (hp:Nrm p) (hq:Nrm q):val (fmul p q)=val p*val q:=by
 have h1:=hp.neR
 have h2:=hq.neR
 unfold fmul
 rw [val_low (mul_ne hp hq)]
 unfold val
 push_cast
 grind
theorem val_neg {p:Fr} (hp:Nrm p):val (fneg p) = - val p:=by
 have h1:=hp.neR
 show ((-p.1:Int):Rat)/(p.2:Rat) = - ((p.1:Rat)/(p.2:Rat))
 push_cast
 grind
theorem nrm_add {p q:Fr} (hp:Nrm p) (hq:Nrm q):Nrm (fadd p q):=low_nrm (mul_ne hp hq)
theorem nrm_sub {p q:Fr} (hp:Nrm p) (hq:Nrm q):Nrm (fsub p q):=low_nrm (mul_ne hp hq)
theorem nrm_mul {p q:Fr} (hp:Nrm p) (hq:Nrm q):Nrm (fmul p q):=low_nrm (mul_ne hp hq)
theorem nrm_neg {p:Fr} (hp:Nrm p):Nrm (fneg p):=⟨hp.d,by show Nat.gcd (-p.1).natAbs p.2.natAbs=1;rw [Int.natAbs_neg];exact hp.g⟩
theorem nrm_int (n:Int):Nrm (n,1):=⟨by show (1:Int)≤1;decide,by simp⟩
theorem val_inj {p q:Fr} (hp:Nrm p) (hq:Nrm q) (h:val p=val q):p=q:=by
 have h1:=hp.neR
 have h2:=hq.neR
 have e:p.1*q.2=q.1*p.2:=by
  unfold val at h
  have h':(p.1:Rat)*q.2=q.1*p.2:=by grind
  exact_mod_cast h'
 have en:p.1.natAbs*q.2.natAbs=q.1.natAbs*p.2.natAbs:=by rw [←Int.natAbs_mul,←Int.natAbs_mul,e]
 have d1:p.2.natAbs∣q.2.natAbs:=by
  have:p.2.natAbs∣p.1.natAbs*q.2.natAbs:=by rw [en];exact Nat.dvd_mul_left _ _
  exact Nat.Coprime.dvd_of_dvd_mul_left (show Nat.Coprime p.2.natAbs p.1.natAbs by unfold Nat.Coprime;rw [Nat.gcd_comm];exact hp.g) this
 have d2:q.2.natAbs∣p.2.natAbs:=by
  have:q.2.natAbs∣q.1.natAbs*p.2.natAbs:=by rw [←en];exact Nat.dvd_mul_left _ _
  exact Nat.Coprime.dvd_of_dvd_mul_left (show Nat.Coprime q.2.natAbs q.1.natAbs by unfold Nat.Coprime;rw [Nat.gcd_comm];exact hq.g) this
 have ed:p.2.natAbs=q.2.natAbs:=Nat.dvd_antisymm d1 d2
 have ed':p.2=q.2:=by have:=hp.d;have:=hq.d;omega
 have e2:p.1=q.1:=by
  rw [ed'] at e
  exact Int.eq_of_mul_eq_mul_right hq.ne e
 exact Prod.ext e2 ed'
theorem pow8 {x e:Nat} (h:x<2^e) (he:e≤8000):x<2^8000:=Nat.lt_of_lt_of_le h (Nat.pow_le_pow_right (by decide) he)
theorem mul_pow {x y:Int} {e f:Nat} (hx:x.natAbs<2^e) (hy:y.natAbs<2^f):(x*y).natAbs<2^(e+f):=by
 rw [Int.natAbs_mul,Nat.pow_add]
 exact Nat.mul_lt_mul'' hx hy
theorem add_pow {x y:Int} {e:Nat} (hx:x.natAbs<2^e) (hy:y.natAbs<2^e):(x+y).natAbs<2^(e+1):=by
 have:=Int.natAbs_add_le x y
 rw [Nat.pow_succ]
 omega
theorem sub_pow {x y:Int} {e:Nat} (hx:x.natAbs<2^e) (hy:y.natAbs<2^e):(x-y).natAbs<2^(e+1):=by
 rw [Int.sub_eq_add_neg]
 exact add_pow hx (by rw [Int.natAbs_neg];exact hy)
def sz (p:Fr):Nat:=Nat.max (Nat.log2 p.1.natAbs) (Nat.log2 p.2.natAbs)+1
theorem sz_n (p:Fr):p.1.natAbs<2^sz p:=Nat.lt_of_lt_of_le Nat.lt_log2_self (Nat.pow_le_pow_right (by decide) (Nat.succ_le_succ (Nat.le_max_left _ _)))
theorem sz_d (p:Fr):p.2.natAbs<2^sz p:=Nat.lt_of_lt_of_le Nat.lt_log2_self (Nat.pow_le_pow_right (by decide) (Nat.succ_le_succ (Nat.le_max_right _ _)))
theorem log_lt {n e:Nat} (h:n<2^e) (he:1≤e):Nat.log2 n+1≤e:=by
 by_cases c:n=0
 ·subst c
  have:Nat.log2 0=0:=by simp
  omega
 ·exact (Nat.log2_lt c).mpr h
theorem sz_le {p:Fr} {e:Nat} (h1:p.1.natAbs<2^e) (h2:p.2.natAbs<2^e) (he:1≤e):sz p≤e:=by
 have a:=log_lt h1 he
 have b:=log_lt h2 he
 unfold sz
 have:Nat.max (Nat.log2 p.1.natAbs) (Nat.log2 p.2.natAbs)≤e-1:=Nat.max_le.mpr ⟨by omega,by omega⟩
 omega
theorem sz_pos (p:Fr):1≤sz p:=by unfold sz;omega
theorem sz_low {n d:Int} {e:Nat} (hd:d≠0) (h1:n.natAbs<2^e) (h2:d.natAbs<2^e) (he:1≤e):sz (low n d)≤e:=by
 have lf:=low_facts (n:=n) hd
 refine sz_le (Nat.lt_of_le_of_lt lf.1 h1) ?_ he
 show (lowD n d).natAbs<2^e
 omega
theorem sz_add {p q:Fr} (hp:Nrm p) (hq:Nrm q):sz (fadd p q)≤sz p+sz q+1:=
 sz_low (mul_ne hp hq) (add_pow (mul_pow (sz_n p) (sz_d q)) (by rw [Nat.add_comm];exact mul_pow (sz_n q) (sz_d p))) (Nat.lt_of_lt_of_le (mul_pow (sz_d p) (sz_d q)) (Nat.pow_le_pow_right (by decide) (by omega))) (by omega)
theorem sz_sub {p q:Fr} (hp:Nrm p) (hq:Nrm q):sz (fsub p q)≤sz p+sz q+1:=
 sz_low (mul_ne hp hq) (sub_pow (mul_pow (sz_n p) (sz_d q)) (by rw [Nat.add_comm];exact mul_pow (sz_n q) (sz_d p))) (Nat.lt_of_lt_of_le (mul_pow (sz_d p) (sz_d q)) (Nat.pow_le_pow_right (by decide) (by omega))) (by omega)
theorem sz_mul {p q:Fr} (hp:Nrm p) (hq:Nrm q):sz (fmul p q)≤sz p+sz q:=
 sz_low (mul_ne hp hq) (mul_pow (sz_n p) (sz_n q)) (mul_pow (sz_d p) (sz_d q)) (by have:=sz_pos p;omega)
theorem sz_neg (p:Fr):sz (fneg p)=sz p:=by unfold sz fneg;simp
theorem loopT_inv {g:FG} {F:FS} {D:ET} {items:List T} {E:En} (W:Nat→En→Prop) (h0:W 0 E)
  (hs:∀i x rest E,items[i]? = some x→W i E→(∀E',W (i+1) E'→loopT g F D rest E')→loopT g F D (x::rest) E) (hd:∀E,W items.length E→D.nx E):loopT g F D items E:=by
 have key:∀n i E,items.length-i=n→i≤items.length→W i E→loopT g F D (items.drop i) E:=by
  intro n
  induction n with
  | zero=>
   intro i E e hi h
   obtain rfl:i=items.length:=by omega
   rw [List.drop_length]
   exact hd E h
  | succ n ih=>
   intro i E e hi h
   have hlt:i<items.length:=by omega
   rw [List.drop_eq_getElem_cons hlt]
   exact hs i _ _ E (List.getElem?_eq_getElem hlt) h fun E' h'=>ih (i+1) E' (by omega) (by omega) h'
 exact key _ 0 E rfl (Nat.zero_le _) h0
theorem compL_inv {g:FG} {Fe:FE} {items:List T} {E:En} {Q:En→Prop} (W:Nat→En→Prop) (h0:W 0 E)
  (hs:∀i x rest E,items[i]? = some x→W i E→(∀E',W (i+1) E'→compL g Fe rest E' Q)→compL g Fe (x::rest) E Q) (hd:∀E,W items.length E→Q E):compL g Fe items E Q:=by
 have key:∀n i E,items.length-i=n→i≤items.length→W i E→compL g Fe (items.drop i) E Q:=by
  intro n
  induction n with
  | zero=>
   intro i E e hi h
   obtain rfl:i=items.length:=by omega
   rw [List.drop_length]
   exact hd E h
  | succ n ih=>
   intro i E e hi h
   have hlt:i<items.length:=by omega
   rw [List.drop_eq_getElem_cons hlt]
   exact hs i _ _ E (List.getElem?_eq_getElem hlt) h fun E' h'=>ih (i+1) E' (by omega) (by omega) h'
 exact key _ 0 E rfl (Nat.zero_le _) h0
def fr (p:Fr):T:=.tup [.int p.1,.int p.2]
def vc (x y:Fr):T:=.tup [fr x,fr y]
theorem eq_fr (p q:Fr):eqT (fr p) (fr q)=decide (p=q):=by
 rw [Bool.eq_iff_iff]
 simp [fr,L2.eqT,L2.eqTs,Prod.ext_iff]
theorem eq_vc (x y x' y':Fr):eqT (vc x y) (vc x' y')=decide (x=x'∧y=y'):=by
 rw [Bool.eq_iff_iff]
 simp [vc,L2.eqT,L2.eqTs,eq_fr]
def CMulA (i j:Int):Prop:=CMulB i j∨CMul i j
theorem op_mulA {X:Cx}:OpR X (binaryOp .Mult) (rI CMulA fun i j=>.int (i*j)):=by
 intro pins s σ H x y v u Q I rx ry h
 obtain ⟨i,j,e1,e2,hc,q⟩:=h
 rcases hc with hc | hc
 ·exact op_mulB pins s σ H x y v u Q I rx ry ⟨i,j,e1,e2,hc,q⟩
 ·exact op_mul pins s σ H x y v u Q I rx ry ⟨i,j,e1,e2,hc,q⟩
theorem mulA {i j:Int} {e:Nat} (h1:i.natAbs<2^e) (h2:j.natAbs<2^e) (he:e≤8000):CMulA i j:=.inl ⟨pow8 h1 he,pow8 h2 he⟩
theorem mulL {i j:Int} (h1:i.natAbs<2^60):CMulA i j:=.inr (.inl (by omega))
theorem mulR {i j:Int} (h1:j.natAbs<2^60):CMulA i j:=.inr (.inr (by omega))
theorem bt_int:bootBuiltins "int" = some (.type "int"):=by decide +kernel
theorem bt_bool:bootBuiltins "bool" = some (.type "bool"):=by decide +kernel
theorem bt_tuple:bootBuiltins "tuple" = some (.type "tuple"):=by decide +kernel
structure Txt (mg:Str→Option Value):Prop where
 n_isinstance:mg "isinstance" = none
 n_abs:mg "abs" = none
 n_divmod:mg "divmod" = none
 n_min:mg "min" = none
 n_max:mg "max" = none
 n_all:mg "all" = none
 n_len:mg "len" = none
 n_int:mg "int" = none
 n_bool:mg "bool" = none
 n_tuple:mg "tuple" = none
 n_list:mg "list" = none
 n_str:mg "str" = none
 n_range:mg "range" = none
 n_enumerate:mg "enumerate" = none
 n_zip:mg "zip" = none
end My
set_option Elab.async false
set_option linter.all false
set_option maxRecDepth 100000
set_option maxHeartbeats 4000000
namespace My
open PySem L2 PyProof.Rows
section
variable {X:Cx} {K:PySem.W.Frag} {e:Expr} {te:TE} {st:Option Expr} {ts:TO} {pos p2:Pos} {Fa:FE} {G:FO}
def tRevL (K:PySem.W.Frag) (te:TE) (ts:TO):TE:=fun σ H Q=>te σ H fun x H1=>ts σ H1 fun k H2=>k=some (-1)∧∃a xs,x = .ref a∧SqL K H2 a xs∧∀p,H2 p=none→Q (.ref p) (upd H2 p (.lst xs.reverse))
theorem pe_revL (he:PE X e te) (hk:PO X st ts) (hop:∀a b,∃ops,subscripted (.Slice none none st p2) false a b=operate ops (getItem a b)):PE X (.Subscript e (.Slice none none st p2) pos) (tRevL X.K te ts):=by
 intro pins s σ H Q I h
 refine Subscript_ (thn (he pins s σ H _ I h) fun v s1 ⟨x,H1,I1,r1,q1⟩=>?_)
 refine wpAny_Slice ?_
 rw [evalPart_none]
 refine wpAny_pure ?_
 refine wpAny_pure ?_
 refine thn (hk pins s1 σ H1 _ I1 q1) fun vk s2 ⟨k,H2,I2,pk,q2⟩=>?_
 obtain ⟨rfl,a,xs,rfl,hx,q⟩:=q2
 have I4:Inv X pins σ H2 { s2 with heap:=s2.heap.push { cls:=.type "slice",data:=.fields #[.none,.none,vk] } }:=I2.kept (t':=s2.toks) fun b ob q=>Heap.get?_push_of_some _ q
 cases r1
 obtain ⟨its,r,ht,hz⟩:=I4.list hx
 have hlen:=r.length
 have hg:wpAny (model X.prog X.w) X.A (getItem (.ref a) (.ref s2.heap.objs.size)) (EP X pins σ Q) X.xe { s2 with heap:=s2.heap.push { cls:=.type "slice",data:=.fields #[.none,.none,vk] } }:=by
  refine wpAny_getItem_list_slice ht.isList (Heap.IsSliceOf.new ..) .none .none pk (by decide) ?_ (by rw [List.size_toArray]<;>omega)
  rw [PySem.W.krv_pick]
  refine ⟨.ref _,_,I4.laid (t':=s2.toks) (o:=.lst xs.reverse) (fun b ob q=>Heap.get?_push_of_some _ q) (Nat.le_refl _) ?_,rfl,q _ (I4.hok.fresh (Nat.le_refl _))⟩
  exact ⟨by rw [List.length_reverse];exact hz,_,0,r.reverse,Heap.get?_push_size _ rfl⟩
 obtain ⟨ops,ho⟩:=hop (.ref a) (.ref s2.heap.objs.size)
 exact tail_any (ops:=ops) ht.isList.typeIs slot_list_getitem.lookup hg ho
def fRev (Fa:FE) (G:FO):FE:=fun E Q=>Fa E fun x E1=>G E1 fun k E2=>k=some (-1)∧match vl E2 x with
 | some (.lst xs)=>Q (.s E2.length) (E2++[some (.o false xs.reverse)])
 | _=>False
theorem fe_revL (eK:X.K=K) (he:QE X e (simE K Fa)) (hk:QO X st (simO K G)) (hop:∀a b,∃ops,subscripted (.Slice none none st p2) false a b=operate ops (getItem a b):=by exact fun _ _=>⟨_,by with_unfolding_all rfl⟩):QE X (.Subscript e (.Slice none none st p2) pos) (simE K (fRev Fa G)):=by
 subst eK
 refine QE.le (t:=tRevL X.K (simE X.K Fa) (simO X.K G)) ⟨pe_revL he.h hk.h hop⟩ fun σ H Q _ ⟨B,S,E,Q',⟨τ,hS⟩,re,hF,lk⟩=>⟨B,S,E,_,⟨τ,hS⟩,re,hF,fun x E1 v H1 S1 q g1 re1 rx=>?_⟩
 obtain ⟨τ1,hS1⟩:=g1.pre
 refine ⟨B,S1,E1,_,⟨τ++τ1,by rw [hS1,hS,List.append_assoc]⟩,re1,q,fun l E2 H2 S2 q2 g2 re2=>?_⟩
 have rx2:=rx.step g2
 obtain ⟨hk1,q2⟩:=q2
 refine ⟨hk1,?_⟩
 split at q2
 ·rename_i xs e1
  obtain ⟨a,vs,e2,sq,rs⟩:=re2.vl rx2 e1
  refine ⟨a,vs,e2,sq,fun p hp=>?_⟩
  obtain ⟨g,re'⟩:=re2.lst hp rs.reverse
  exact lk _ _ _ _ _ q2 ((g1.trans g2).trans g) re' (by rw [←re2.len];exact get_last)
 ·exact q2.elim
end
end My
set_option Elab.async false
set_option linter.all false
set_option maxRecDepth 100000
set_option maxHeartbeats 4000000
namespace L2
open PySem PySem.Spec PyProof.Rows
section
variable {X:Cx}
end
section
variable {X:Cx} {K:PySem.W.Frag} {pos:Pos} {I:FI} {g:FG} {Fb:FB} {Fe:FE}
end
end L2
set_option Elab.async false
set_option linter.all false
set_option maxRecDepth 100000
set_option maxHeartbeats 4000000
namespace L2
open PySem PySem.Spec PyProof.Rows
section
variable {X:Cx} {K:PySem.W.Frag} {pos:Pos} {a b e o:Expr} {Fa Fb Fo:FE} {Fr:FA}
end
end L2
set_option Elab.async false
set_option linter.all false
set_option maxRecDepth 100000
set_option maxHeartbeats 4000000
namespace L2
open PySem PySem.Spec PyProof.Rows
section
variable {K:PySem.W.Frag} {B:Addr→Prop} {H H':Hp} {S S':St} {E E':En} {σ:St}
end
section
variable {X:Cx} {K:PySem.W.Frag} {pos:Pos} {es:List Expr} {Fr:FA}
end
section
variable {X:Cx} {K:PySem.W.Frag} {pos:Pos} {Fe:FE} {g:FG} {I:FI}
end
end L2
set_option Elab.async false
set_option linter.all false
set_option maxRecDepth 100000
set_option maxHeartbeats 4000000
namespace L2
open PySem PySem.Spec PyProof.Rows
section
variable {K:PySem.W.Frag} {B:Addr→Prop} {H H':Hp} {S S':St} {E E':En} {σ:St}
end
section
variable {X:Cx} {K:PySem.W.Frag} {pos:Pos} {e:Expr} {es:List Expr} {Fr:FA} {F:FS} {body:List Stmt}
end
end L2
set_option Elab.async false
set_option linter.all false
set_option maxRecDepth 100000
set_option maxHeartbeats 4000000
namespace L2
open PySem PySem.Spec PyProof.Rows
section
variable {X:Cx} {K:PySem.W.Frag} {Fe:FE} {I:FI}
end
section
variable {P:Program} {w:World} {K:PySem.W.Frag} {mg:Str→Option Value} {base:Heap}
end
end L2
set_option Elab.async false
set_option linter.all false
set_option maxRecDepth 100000
set_option maxHeartbeats 4000000
namespace L2
open PySem PySem.Spec PyProof.Rows
section
variable {K:PySem.W.Frag} {H:Hp} {O O':Addr→Prop}
end
section
variable {K:PySem.W.Frag} {B:Addr→Prop} {H H':Hp} {S S':St} {E E':En} {σ:St}
end
section
variable {K:PySem.W.Frag} {H:Hp} {O:Addr→Prop}
end
section
variable {X:Cx} {K:PySem.W.Frag} {pos:Pos} {Fi F:FE} {l:List (Int×FE)}
end
end L2
set_option Elab.async false
set_option linter.all false
set_option maxRecDepth 100000
set_option maxHeartbeats 4000000
namespace L2
open PySem PySem.Spec PyProof.Rows
section
variable {X:Cx} {a:Expr} {pos:Pos} {K:PySem.W.Frag} {Fr:FA}
end
end L2
set_option Elab.async false
set_option linter.all false
set_option maxRecDepth 100000
set_option maxHeartbeats 4000000
namespace L2
open PySem PySem.Spec PyProof.Rows
section
variable {X:Cx} {e:Expr} {es:List Expr} {pos:Pos} {K:PySem.W.Frag} {Fr:FA}
end
end L2
set_option Elab.async false
set_option linter.all false
set_option maxRecDepth 100000
set_option maxHeartbeats 4000000
namespace HT
open PySem PySem.Spec PyProof.Rows
section
variable {prog:Program} {w:World} {A:Around} {E:Value→Shared→Prop} {s:Shared}
end
end HT
namespace HT
open PySem PySem.Spec PyProof.Rows
section
variable {prog:Program} {w:World} {A:Around} {E:Value→Shared→Prop} {s:Shared}
end
end HT
namespace L2
open PySem PySem.Spec PyProof.Rows
section
variable {X:Cx} {K:PySem.W.Frag} {a b e:Expr} {te:TE} {st:Option Expr} {ts:TO} {pos p2:Pos} {Fa Fb:FE} {G Gl' Gh:FO}
end
end L2
set_option Elab.async false
set_option linter.all false
set_option maxRecDepth 100000
set_option maxHeartbeats 4000000
namespace L2
open PySem PySem.Spec PyProof.Rows
section
variable {X:Cx} {K:PySem.W.Frag} {e:Expr} {Fa:FE}
end
end L2
set_option Elab.async false
set_option linter.all false
set_option maxRecDepth 100000
set_option maxHeartbeats 4000000
namespace L2
open PySem PySem.Spec PyProof.Rows
mutual
def dataT:T→PyData
 | .non=>.none
 | .bl b=>.bool b
 | .int i=>.int i
 | .str x=>.str x
 | .tup xs=>.tuple (dataTs xs)
 | .lst xs=>.list (dataTs xs)
def dataTs:List T→List PyData
 | []=>[]
 | x::xs=>dataT x::dataTs xs
end
mutual
def shT:T→Bool
 | .int i=>decide (i.natAbs.log2<1920)
 | .tup xs=>shTs xs
 | .lst xs=>shTs xs
 | _=>true
def shTs:List T→Bool
 | []=>true
 | x::xs=>shT x&&shTs xs
end
mutual
def lenB:T→Nat
 | .non=>4
 | .bl _=>5
 | .int _=>1921
 | .str x=>(reprText x).length
 | .tup xs=>lenBs xs+3
 | .lst xs=>lenBs xs+3
def lenBs:List T→Nat
 | []=>0
 | x::xs=>lenB x+2+lenBs xs
end
mutual
theorem sh_ok:∀{t:T},shT t=true→(dataT t).showable=true
 | .non,_=>rfl
 | .bl _,_=>rfl
 | .int i,h=>h
 | .str _,_=>rfl
 | .tup xs,h=>shs_ok (xs:=xs) h
 | .lst xs,h=>shs_ok (xs:=xs) h
theorem shs_ok:∀{xs:List T},shTs xs=true→PyData.showableAll (dataTs xs)=true
 | [],_=>rfl
 | x::xs,h=>by
  have h':shT x=true∧shTs xs=true:=by simpa [shTs] using h
  show ((dataT x).showable&&PyData.showableAll (dataTs xs))=true
  rw [sh_ok h'.1,shs_ok h'.2];rfl
end
mutual
theorem nd_ok:∀t:T,(dataT t).hasDict=false
 | .non=>rfl
 | .bl _=>rfl
 | .int _=>rfl
 | .str _=>rfl
 | .tup xs=>nds_ok xs
 | .lst xs=>nds_ok xs
theorem nds_ok:∀xs:List T,PyData.hasDictAll (dataTs xs)=false
 | []=>rfl
 | x::xs=>by
  show ((dataT x).hasDict||PyData.hasDictAll (dataTs xs))=false
  rw [nd_ok x,nds_ok xs];rfl
end
mutual
theorem dep_ok:∀t:T,(dataT t).depth≤dT t
 | .non=>Nat.le_refl _
 | .bl _=>Nat.le_refl _
 | .int _=>Nat.le_refl _
 | .str _=>Nat.le_refl _
 | .tup xs=>by have:=deps_ok xs;simp only [dataT,PyData.depth,dT];omega
 | .lst xs=>by have:=deps_ok xs;simp only [dataT,PyData.depth,dT];omega
theorem deps_ok:∀xs:List T,PyData.depthAll (dataTs xs)≤dTs xs
 | []=>Nat.le_refl _
 | x::xs=>by
  have h1:=dep_ok x
  have h2:=deps_ok xs
  simp only [dataTs,PyData.depthAll,dTs]
  exact Nat.max_le.mpr ⟨Nat.le_trans h1 (Nat.le_max_left _ _),Nat.le_trans h2 (Nat.le_max_right _ _)⟩
end
mutual
theorem len_ok:∀{t:T},noL t=true→shT t=true→(dataT t).shown.length≤lenB t
 | .non,_,_=>by decide
 | .bl b,_,_=>by cases b<;>decide
 | .int i,_,h=>by
  have h':i.natAbs.log2<1920:=of_decide_eq_true h
  exact int_text_len_1921 h'
 | .str x,_,_=>Nat.le_refl _
 | .lst xs,h,_=>by cases h
 | .tup xs,h,k=>by
  have q:=lens_ok (xs:=xs) h k
  show (tupleText (PyData.shownAll (dataTs xs))).length≤lenBs xs+3
  unfold tupleText
  have e1:(("(":String):Str).length=1:=rfl
  have e2:((",)":String):Str).length=2:=rfl
  have e3:((")":String):Str).length=1:=rfl
  have l2:(((if (PyData.shownAll (dataTs xs)).length==1 then ",)" else ")":String)):Str).length≤2:=by
   split
   ·rw [e2];exact Nat.le_refl _
   ·rw [e3];decide
  rw [Str.length_append,Str.length_append,e1]
  by_cases c:PyData.shownAll (dataTs xs)=[]
  ·rw [c]
   have:(Str.join ", " ([]:List Str)).length=0:=rfl
   rw [c] at l2
   omega
  ·have:=join_length_add _ c
   omega
theorem lens_ok:∀{xs:List T},noLs xs=true→shTs xs=true→piled (PyData.shownAll (dataTs xs))≤lenBs xs
 | [],_,_=>Nat.le_refl _
 | x::xs,h,k=>by
  have h':noL x=true∧noLs xs=true:=by simpa [noLs] using h
  have k':shT x=true∧shTs xs=true:=by simpa [shTs] using k
  have q1:=len_ok h'.1 k'.1
  have q2:=lens_ok h'.2 k'.2
  show piled ((dataT x).shown::PyData.shownAll (dataTs xs))≤lenB x+2+lenBs xs
  rw [piled_cons]
  omega
end
section
variable {X:Cx} {pins:List (Addr×Obj)} {σ:St} {H:Hp} {s:Shared} {O:Addr→Prop}
mutual
theorem rp_reads (I:Inv X pins σ H s):∀{t:T} {v:V} {u:Value},noL t=true→Rp X.K H O t v→RelV v u→∃as,Reads s.heap u (dataT t) as
 | .non,v,u,_,h,r=>by
  have h:v = .non:=h
  subst h;cases r;exact ⟨_,.none⟩
 | .bl b,v,u,_,h,r=>by
  have h:v = .bl b:=h
  subst h;cases r;exact ⟨_,.bool b⟩
 | .int i,v,u,_,h,r=>by
  have h:v = .int i:=h
  subst h;obtain ⟨t,rfl⟩:=r;exact ⟨_,.int i t⟩
 | .str x,v,u,_,h,r=>by
  have h:v = .str x:=h
  subst h;obtain ⟨t,rfl⟩:=r;exact ⟨_,.str x t⟩
 | .lst xs,_,_,e,_,_=>by cases e
 | .tup xs,v,u,e,h,r=>by
  obtain ⟨a,vs,rfl,sq,rs⟩:=h.sqT
  cases r
  obtain ⟨its,rv,⟨o,ho,hc,n,hd⟩,hz⟩:=I.tuple sq
  obtain ⟨as,ra⟩:=rps_reads I (xs:=xs) e rs rv
  exact ⟨_,.tuple ho hc hd (by simpa using ra)⟩
theorem rps_reads (I:Inv X pins σ H s):∀{xs:List T} {vs:List V} {us:List Value},noLs xs=true→Rps X.K H O xs vs→Vals vs us→∃as,ReadsAll s.heap us (dataTs xs) as
 | [],vs,us,_,h,r=>by
  have h:vs=[]:=h
  subst h;cases r;exact ⟨_,.nil⟩
 | x::xs,vs,us,e,h,r=>by
  obtain ⟨v,ws,rfl,h1,h2⟩:=h
  have e':noL x=true∧noLs xs=true:=by simpa [noLs] using e
  cases r with
  | cons r1 r2=>
   obtain ⟨as,q1⟩:=rp_reads I e'.1 h1 r1
   obtain ⟨bs,q2⟩:=rps_reads I e'.2 h2 r2
   exact ⟨_,.cons q1 q2⟩
end
end
section
variable {X:Cx} {K:PySem.W.Frag} {e:Expr} {es:List Expr} {pos:Pos} {Fr:FA}
theorem call_strR {k:Nat} (hr:Room k X.A):CallR X (.type "str") (fun xs H Q=>∃(v:V) (ts:List T) (O:Addr→Prop),xs=[v]∧Rp X.K H O (.tup ts) v∧noLs ts=true∧shTs ts=true∧dTs ts≤40∧lenBs ts≤10000000∧Q (.str (dataT (.tup ts)).shown) H):=by
 intro pins s σ H xs us Q I r h
 obtain ⟨v,ts,O,rfl,rp,h1,h2,h3,h4,q⟩:=h
 obtain ⟨u,rfl,rx⟩:=vals1 r
 obtain ⟨as,rd⟩:=rp_reads I (t:=.tup ts) h1 rp rx
 obtain ⟨a,vs,rfl,sq,rs⟩:=rp.sqT
 cases rx
 refine str_of_reads rd (sh_ok (t:=.tup ts) h2) (fun h=>by rw [nd_ok (.tup ts)] at h;cases h) hr.gd ?_ (fun _ _ e=>e) (fun h' u tk hk=>⟨.str _,H,I.kept hk,⟨u,rfl⟩,q⟩) ?_
 ·have:=hr.un
  have:=dep_ok (.tup ts)
  have e:dT (.tup ts)=dTs ts+1:=rfl
  omega
 ·have:=len_ok (t:=.tup ts) h1 h2
  have e:lenB (.tup ts)=lenBs ts+3:=rfl
  rw [sizeLine_eq]
  omega
end
end L2
set_option Elab.async false
set_option linter.all false
set_option maxRecDepth 100000
set_option maxHeartbeats 4000000
namespace L2
open PySem PySem.Spec PyProof.Rows
section
variable {X:Cx} {K:PySem.W.Frag} {o:Expr} {pos ap:Pos} {Fa:FE}
def fBits (Fa:FE):FE:=fun E Q=>Fa E fun x E1=>i1 (vl E1 x) fun i=>Q (.p (.int (Builtin.Int.intBits i:Int))) E1
theorem fe_bits (ho:QE X o (simE K Fa)) (hbase:attributeBase o "bit_length" X.env (eval o X.env)=eval o X.env:=by rfl) (hline:(ap.endLine==pos.line)=true:=by rfl) :
  QE X (.Call (.Attribute o "bit_length" ap) [] [] pos) (simE K (fBits Fa)):=by
 refine (qe_bits ho hbase hline).le fun σ H Q hl h=>one (Fa:=Fa) h fun B S E x v H2 Q' hS re rx q lk=>?_
 obtain ⟨i,e1,q⟩:=q.ex
 have ev:=re.int rx e1
 subst ev
 exact ⟨rfl,i,rfl,rfl,lk _ _ _ _ _ q .refl re rfl⟩
end
end L2
set_option Elab.async false
set_option linter.all false
namespace L2
open PySem PySem.Spec PyProof.Rows
structure M2 (X:Cx) (o:Expr) (m:Str) (apos:Pos) (e f:Expr) (cpos:Pos):Prop where
 base:attributeBase o m X.env (eval o X.env)=eval o X.env
 few:((backTo cpos (starEach [e,f] X.env)).all (fun x=>!x.1)&&(backToKw cpos (keywordEach [] X.env)).all (fun x=>x.1.isSome)
 &&decide (([e,f]:List Expr).length+([]:List Keyword).length+(if ([]:List Keyword).isEmpty then 0 else 1)<30))=true
 line:(apos.endLine==cpos.line)=true
 trees:backTo cpos (starEach [e,f] X.env)=[(false,eval e X.env),(false,eval f X.env)]
def IsD (H:Hp) (a:Addr):Prop:=(∃kvs,Rd H a (.dK kvs))∨∃kvs,Rd H a (.dT kvs)
theorem isD_at {X:Cx} {pins:List (Addr×Obj)} {σ:St} {H:Hp} {s:Shared} {a:Addr} (I:Inv X pins σ H s) (d:IsD H a) :
  s.TypeIs (.ref a) "dict"∧(∀b,Value.ref a = .ref b→∃ob,s.heap.get? b=some ob∧ob.dict=none)∧(a==sysModules)=false:=by
 rcases d with ⟨kvs,e⟩ | ⟨kvs,e⟩
 ·obtain ⟨_,hd,vs,_,dd⟩:=dk_rd I.hok e
  refine ⟨dd.typeIs,fun b q=>?_,hd⟩
  cases q
  obtain ⟨ob,_,_,h1,h2,_⟩:=dd
  exact ⟨ob,h1,h2.2.1⟩
 ·obtain ⟨_,hd,xs,_,dd⟩:=dt_rd I.hok e
  refine ⟨dd.typeIs,fun b q=>?_,hd⟩
  cases q
  obtain ⟨ob,_,_,h1,h2,_⟩:=dd
  exact ⟨ob,h1,h2.2.1⟩
section
variable {X:Cx} {pins:List (Addr×Obj)} {σ:St} {H:Hp} {s:Shared} {a:Addr} {y d:V} {u r:Value} {o:Option V} {A:Around} {E:Value→Shared→Prop}
end
section
variable {X:Cx} {o e f:Expr} {apos cpos:Pos} {td ty tx:TE}
end
end L2
set_option Elab.async false
set_option linter.all false
set_option maxRecDepth 100000
set_option maxHeartbeats 4000000
namespace L2
open PySem PySem.Spec PyProof.Rows
section
variable {K:PySem.W.Frag} {H:Hp} {O:Addr→Prop}
end
section
variable {X:Cx} {K:PySem.W.Frag} {pos:Pos} {Fi F:FE} {l:List (Str×FE)}
end
end L2
set_option Elab.async false
set_option linter.all false
set_option maxRecDepth 100000
set_option maxHeartbeats 4000000
namespace L2
open PySem PySem.Spec PyProof.Rows
section
variable {X:Cx} {tg:Expr}
end
section
variable {X:Cx} {K:PySem.W.Frag} {a b c:Expr} {pos:Pos} {Fr:FA}
end
end L2
set_option Elab.async false
set_option linter.all false
set_option maxRecDepth 100000
set_option maxHeartbeats 4000000
namespace L2
open PySem PySem.Spec PyProof.Rows
section
variable {K:PySem.W.Frag} {B:Addr→Prop} {H:Hp} {S:St} {E:En} {σ:St}
end
section
variable {X:Cx} {K:PySem.W.Frag} {a b:Expr} {pos:Pos} {Fr:FA}
end
end L2
set_option Elab.async false
set_option linter.all false
set_option maxRecDepth 100000
set_option maxHeartbeats 4000000
namespace L2
open PySem PySem.Spec PyProof.Rows
section
variable {X:Cx} {e:Expr} {es:List Expr} {pos:Pos} {K:PySem.W.Frag} {Fr:FA}
end
end L2
set_option Elab.async false
set_option linter.all false
set_option maxRecDepth 100000
set_option maxHeartbeats 4000000
namespace L2
open PySem PySem.Spec PyProof.Rows
section
variable {X:Cx} {K:PySem.W.Frag} {pos pos':Pos} {Fi:FE} {x k1 v1 k2 v2:Str} {i:Expr} {ty:TE}
end
end L2
set_option Elab.async false
set_option linter.all false
set_option maxRecDepth 100000
set_option maxHeartbeats 4000000
namespace L2
open PySem PySem.Spec PyProof.Rows
section
variable {X:Cx} {K:PySem.W.Frag} {pos:Pos} {Fr:FA}
end
end L2
set_option Elab.async false
set_option linter.all false
set_option maxRecDepth 100000
set_option maxHeartbeats 4000000
namespace L2
open PySem PySem.Spec PyProof.Rows
section
variable {X:Cx}
end
section
variable {X:Cx} {K:PySem.W.Frag} {pos:Pos} {Fr:FA} {Fa:FE} {e a:Expr} {es:List Expr}
end
end L2
set_option Elab.async false
set_option linter.all false
set_option maxRecDepth 100000
set_option maxHeartbeats 4000000
namespace L2
open PySem PySem.Spec PyProof.Rows
section
variable {X:Cx} {K:PySem.W.Frag} {pos:Pos} {Fi Fd F:FE} {l:List (Str×FE)}
end
end L2
set_option Elab.async false
set_option linter.all false
set_option maxRecDepth 100000
set_option maxHeartbeats 4000000
namespace L2
open PySem PySem.Spec PyProof.Rows
section
variable {X:Cx} {K:PySem.W.Frag} {e:Expr} {es:List Expr} {pos:Pos} {Fr:FA}
end
end L2
set_option Elab.async false
set_option linter.all false
set_option maxRecDepth 100000
set_option maxHeartbeats 4000000
namespace L2
open PySem PySem.Spec PyProof.Rows
section
variable {prog:Program} {w:World} {A:Around} {E:Value→Shared→Prop} {s:Shared}
end
section
variable {X:Cx} {K:PySem.W.Frag} {e:Expr} {es:List Expr} {pos:Pos} {Fr:FA}
end
end L2
set_option Elab.async false
set_option linter.all false
set_option maxRecDepth 100000
set_option maxHeartbeats 4000000
namespace L2
open PySem PySem.Spec PyProof.Rows
def s1 (x:Option T) (k:Str→Prop):Prop:=match x with
 | some (.str i)=>k i
 | _=>False
theorem s1.ex {x:Option T} {k:Str→Prop} (h:s1 x k):∃i,x=some (.str i)∧k i:=by
 unfold s1 at h;split at h
 ·exact ⟨_,rfl,h⟩
 ·exact h.elim
def s2 (x y:Option T) (k:Str→Str→Prop):Prop:=match x,y with
 | some (.str i),some (.str j)=>k i j
 | _,_=>False
theorem s2.ex {x y:Option T} {k:Str→Str→Prop} (h:s2 x y k):∃i j,x=some (.str i)∧y=some (.str j)∧k i j:=by
 unfold s2 at h;split at h
 ·exact ⟨_,_,rfl,rfl,h⟩
 ·exact h.elim
abbrev big:Nat:=1000000
theorem big_ok {n:Nat} (h:n≤big):n≤sizeLine:=by rw [sizeLine_eq];unfold big at h;omega
section
variable {K:PySem.W.Frag} {B:Addr→Prop} {H:Hp} {S:St} {E:En}
theorem RE.str (re:RE K B H S E) {r:R} {v:V} {i:Str} (h:RR K B H S E r v) (e:L2.vl E r=some (.str i)):v = .str i:=re.vl h e
end
section
variable {X:Cx} {K:PySem.W.Frag} {pos:Pos} {a b c e o:Expr} {es:List Expr} {Fa Fb Fc Fo:FE} {Fr:FA}
def fCatS (Fa Fb:FE):FE:=fun E Q=>Fa E fun x E1=>Fb E1 fun y E2=>s2 (vl E2 x) (vl E2 y) fun i j=>i.length+j.length≤big∧∀z,z=i++j→Q (.p (.str z)) E2
theorem fe_catS (ha:QE X a (simE K Fa)) (hb:QE X b (simE K Fb)):QE X (.BinOp a .Add b pos) (simE K (fCatS Fa Fb)):=by
 refine (qe_op op_add_str ha hb).le fun σ H Q hl h=>two h fun B S E x y v w H2 Q' hS re rx ry q lk=>?_
 obtain ⟨i,j,e1,e2,c,q⟩:=q.ex
 exact ⟨i,j,re.str rx e1,re.str ry e2,big_ok c,lk _ _ _ _ _ (q _ rfl) .refl re rfl⟩
def fLenS (Fr:FA):FE:=fun E Q=>Fr E fun rs E1=>match rs with
 | [x]=>s1 (vl E1 x) fun i=>i.length≤big∧Q (.p (.int i.length)) E1
 | _=>False
theorem fe_lenS {n:Nat} {p:Pos} (hg:Gl X "len") (hm:X.mg "len" = none) (ha:QA X (e::es) (simA K n Fr)) (hs:noStar (e::es)=true:=by rfl):QE X (.Call (.Name "len" p) (e::es) [] pos) (simE K (fLenS Fr)):=by
 refine (qe_callBS call_len_str hg hm PySem.boot_len ha (by decide) (by decide) hs).le fun σ H Q hl h=>args (Fr:=Fr) h fun B S E rs vs H2 Q' hS re rr hn q lk=>?_
 match rs,rr,q with
 | [x],⟨v,ws,e1,h1,h2⟩,q=>
  cases h2;subst e1
  obtain ⟨i,e2,c,q⟩:=s1.ex q
  exact ⟨i,by rw [re.str h1 e2],big_ok c,lk _ _ _ _ _ q .refl re rfl⟩
 | [],_,q=>exact q.elim
 | _::_::_,_,q=>exact q.elim
def fStrI (Fr:FA):FE:=fun E Q=>Fr E fun rs E1=>match rs with
 | [x]=>i1 (vl E1 x) fun i=>i.natAbs.log2<1920∧∀z:Str,z=Str.ofString (toString i)→Q (.p (.str z)) E1
 | _=>False
theorem fe_strI {n:Nat} {p:Pos} (hg:Gl X "str") (hm:X.mg "str" = none) (ha:QA X (e::es) (simA K n Fr)) (hs:noStar (e::es)=true:=by rfl):QE X (.Call (.Name "str" p) (e::es) [] pos) (simE K (fStrI Fr)):=by
 refine (qe_callTyS call_str_int hg hm (by decide +kernel) ha (by decide) (by decide) hs).le fun σ H Q hl h=>args (Fr:=Fr) h fun B S E rs vs H2 Q' hS re rr hn q lk=>?_
 match rs,rr,q with
 | [x],⟨v,ws,e1,h1,h2⟩,q=>
  cases h2;subst e1
  obtain ⟨i,e2,c,q⟩:=i1.ex q
  exact ⟨i,by rw [re.int h1 e2],c,lk _ _ _ _ _ (q _ rfl) .refl re rfl⟩
 | [],_,q=>exact q.elim
 | _::_::_,_,q=>exact q.elim
theorem call_int_str:CallR X (.type "int") (fun xs H Q=>∃x n,xs=[.str x]∧PySem.intText? x=some n∧x.length≤640∧Q (.int n) H):=by
 intro pins s σ H xs us Q I r h
 obtain ⟨x,n,rfl,hn,hl,q⟩:=h
 obtain ⟨u,rfl,rx⟩:=vals1 r
 obtain ⟨t,rfl⟩:=rx
 exact PySem.W.KIN.call_text hn hl ⟨.int n,H,I.tok _,⟨_,rfl⟩,q⟩
def fIntS (Fr:FA):FE:=fun E Q=>Fr E fun rs E1=>match rs with
 | [x]=>s1 (vl E1 x) fun i=>i.length≤640∧o1 (PySem.intText? i) fun n=>Q (.p (.int n)) E1
 | _=>False
theorem fe_intS {n:Nat} {p:Pos} (hg:Gl X "int") (hm:X.mg "int" = none) (ha:QA X (e::es) (simA K n Fr)) (hs:noStar (e::es)=true:=by rfl):QE X (.Call (.Name "int" p) (e::es) [] pos) (simE K (fIntS Fr)):=by
 refine (qe_callTyS call_int_str hg hm (by decide +kernel) ha (by decide) (by decide) hs).le fun σ H Q hl h=>args (Fr:=Fr) h fun B S E rs vs H2 Q' hS re rr hn q lk=>?_
 match rs,rr,q with
 | [x],⟨v,ws,e1,h1,h2⟩,q=>
  cases h2;subst e1
  obtain ⟨i,e2,c,q⟩:=s1.ex q
  obtain ⟨m,e3,q⟩:=o1.ex q
  exact ⟨i,m,by rw [re.str h1 e2],e3,c,lk _ _ _ _ _ q .refl re rfl⟩
 | [],_,q=>exact q.elim
 | _::_::_,_,q=>exact q.elim
end
end L2
set_option Elab.async false
set_option linter.all false
set_option maxRecDepth 100000
set_option maxHeartbeats 4000000
namespace L2
open PySem PySem.Spec PyProof.Rows
section
variable {X:Cx} {K:PySem.W.Frag} {pos ap:Pos} {e o:Expr} {es:List Expr} {Fo:FE} {Fr:FA} {name:Str} {id:String}
def fSm0 (g:Str→T) (Fo:FE):FE:=fun E Q=>Fo E fun x E1=>s1 (vl E1 x) fun i=>Q (.p (g i)) E1
theorem fe_sm0 {g:Str→T} {gv:Str→V} (slot:Slot "str" name id) (hty:typeOf (.builtin id)=pure (.type "method_descriptor")) (hm:MtR X id (fun x vs H Q=>∃i,x = .str i∧vs=[]∧Q (gv i) H)) (hg:∀i K H O,Rp K H O (g i) (gv i))
  (ho:QE X o (simE K Fo)) (hbase:attributeBase o name X.env (eval o X.env)=eval o X.env:=by rfl) (hline:(ap.endLine==pos.line)=true:=by rfl):QE X (.Call (.Attribute o name ap) [] [] pos) (simE K (fSm0 g Fo)):=by
 refine QE.le ⟨pe_bm0 PySem.F.plainAttrs_str slot hty hm ho.h hbase hline⟩ fun σ H Q hl h=>one (Fa:=Fo) h fun B S E x v H2 Q' hS re rx q lk=>?_
 obtain ⟨i,e1,q⟩:=q.ex
 have ev:=re.str rx e1
 subst ev
 exact ⟨rfl,i,rfl,rfl,lk _ _ _ _ _ q .refl re (hg _ _ _ _)⟩
theorem mt_isascii:MtR X "str.isascii" (fun x vs H Q=>∃i,x = .str i∧vs=[]∧Q (.bl (Txt.isascii i)) H):=by
 intro pins s σ H x vs v us Q I rx rv h
 obtain ⟨i,rfl,rfl,q⟩:=h
 obtain ⟨t,rfl⟩:=rx
 cases rv
 exact SC.isascii ⟨.bl _,H,I,rfl,q⟩
theorem mt_isdigit:MtR X "str.isdigit" (fun x vs H Q=>∃i,x = .str i∧vs=[]∧Q (.bl (Txt.isdigit i)) H):=by
 intro pins s σ H x vs v us Q I rx rv h
 obtain ⟨i,rfl,rfl,q⟩:=h
 obtain ⟨t,rfl⟩:=rx
 cases rv
 exact SC.isdigit ⟨.bl _,H,I,rfl,q⟩
theorem fe_isascii (ho:QE X o (simE K Fo)) (hbase:attributeBase o "isascii" X.env (eval o X.env)=eval o X.env:=by rfl) (hline:(ap.endLine==pos.line)=true:=by rfl):QE X (.Call (.Attribute o "isascii" ap) [] [] pos) (simE K (fSm0 (fun i=>.bl (Txt.isascii i)) Fo)):=
 fe_sm0 PySem.F.slot_str_isascii PySem.F.type_str_isascii mt_isascii (fun _ _ _ _=>rfl) ho hbase hline
theorem fe_isdigit (ho:QE X o (simE K Fo)) (hbase:attributeBase o "isdigit" X.env (eval o X.env)=eval o X.env:=by rfl) (hline:(ap.endLine==pos.line)=true:=by rfl):QE X (.Call (.Attribute o "isdigit" ap) [] [] pos) (simE K (fSm0 (fun i=>.bl (Txt.isdigit i)) Fo)):=
 fe_sm0 PySem.F.slot_str_isdigit PySem.F.type_str_isdigit mt_isdigit (fun _ _ _ _=>rfl) ho hbase hline
def fSm1 (G:Str→R→En→(R→En→Prop)→Prop) (Fo:FE) (Fr:FA):FE:=fun E Q=>Fo E fun x E1=>s1 (vl E1 x) fun i=>Fr E1 fun rs E2=>match rs with
 | [y]=>G i y E2 Q
 | _=>False
theorem fe_sm1 {n:Nat} {G:Str→R→En→(R→En→Prop)→Prop} {r:V→List V→Hp→VK→Prop} (slot:Slot "str" name id) (hty:typeOf (.builtin id)=pure (.type "method_descriptor")) (hm:MtR X id r)
  (k:∀B S E i y w H2 Q' Q,RE K B H2 S E→RR K B H2 S E y w→G i y E Q'→Lk K B H2 S E Q' Q→r (.str i) [w] H2 Q)
  (ho:QE X o (simE K Fo)) (ha:QA X [e] (simA K n Fr)) (hbase:attributeBase o name X.env (eval o X.env)=eval o X.env:=by rfl) (hline:(ap.endLine==pos.line)=true:=by rfl) (hs:isStar e=false:=by rfl) :
  QE X (.Call (.Attribute o name ap) [e] [] pos) (simE K (fSm1 G Fo Fr)):=by
 refine QE.le ⟨pe_bm PySem.F.plainAttrs_str slot hty hm ho.h ha.h hbase (by rw [star_ok hs];rfl) hline (star_ok hs) (star_any rfl)⟩ fun σ H Q hl h=>one (Fa:=Fo) h fun B S E x v H2 Q' hS re rx q lk=>?_
 obtain ⟨i,e1,q⟩:=q.ex
 have ev:=re.str rx e1
 subst ev
 refine ⟨rfl,B,S,E,_,hS,re,q,fun rs E2 vs H3 S3 q3 g re3 rr hn=>?_⟩
 match rs,rr,q3 with
 | [y],⟨w,ws,e2,h1,h2⟩,q3=>
  cases h2;subst e2
  exact k B S3 E2 i y w H3 Q' Q re3 h1 q3 (lk.step g)
 | [],_,q=>exact q.elim
 | _::_::_,_,q=>exact q.elim
def gStarts (i:Str) (y:R) (E:En) (Q:R→En→Prop):Prop:=s1 (vl E y) fun j=>Q (.p (.bl (Txt.startswith i j))) E
theorem mt_starts:MtR X "str.startswith" (fun x vs H Q=>∃i j,x = .str i∧vs=[.str j]∧Q (.bl (Txt.startswith i j)) H):=by
 intro pins s σ H x vs v us Q I rx rv h
 obtain ⟨i,j,rfl,rfl,q⟩:=h
 obtain ⟨t,rfl⟩:=rx
 obtain ⟨u,rfl,ry⟩:=vals1 rv
 obtain ⟨t',rfl⟩:=ry
 exact SC.startswith ⟨.bl _,H,I,rfl,q⟩
theorem fe_startswith {n:Nat} (ho:QE X o (simE K Fo)) (ha:QA X [e] (simA K n Fr)) (hbase:attributeBase o "startswith" X.env (eval o X.env)=eval o X.env:=by rfl) (hline:(ap.endLine==pos.line)=true:=by rfl) (hs:isStar e=false:=by rfl):QE X (.Call (.Attribute o "startswith" ap) [e] [] pos) (simE K (fSm1 gStarts Fo Fr)):=
 fe_sm1 PySem.F.slot_str_startswith PySem.F.type_str_startswith mt_starts (fun B S E i y w H2 Q' Q re rr q lk=>by
  obtain ⟨j,e1,q⟩:=q.ex
  exact ⟨i,j,rfl,by rw [re.str rr e1],lk _ _ _ _ _ q .refl re rfl⟩) ho ha hbase hline hs
def gUnpre (i:Str) (y:R) (E:En) (Q:R→En→Prop):Prop:=s1 (vl E y) fun j=>i.length≤big∧∀z,z=Txt.removeprefix i j→Q (.p (.str z)) E
theorem mt_unpre:MtR X "str.removeprefix" (fun x vs H Q=>∃i j,x = .str i∧vs=[.str j]∧i.length≤sizeLine∧Q (.str (Txt.removeprefix i j)) H):=by
 intro pins s σ H x vs v us Q I rx rv h
 obtain ⟨i,j,rfl,rfl,hz,q⟩:=h
 obtain ⟨t,rfl⟩:=rx
 obtain ⟨u,rfl,ry⟩:=vals1 rv
 obtain ⟨t',rfl⟩:=ry
 exact SC.removeprefix (fun t' k=>⟨.str _,H,I.tok _,⟨_,rfl⟩,q⟩) hz
theorem fe_removeprefix {n:Nat} (ho:QE X o (simE K Fo)) (ha:QA X [e] (simA K n Fr)) (hbase:attributeBase o "removeprefix" X.env (eval o X.env)=eval o X.env:=by rfl) (hline:(ap.endLine==pos.line)=true:=by rfl) (hs:isStar e=false:=by rfl):QE X (.Call (.Attribute o "removeprefix" ap) [e] [] pos) (simE K (fSm1 gUnpre Fo Fr)):=
 fe_sm1 PySem.F.slot_str_removeprefix PySem.F.type_str_removeprefix mt_unpre (fun B S E i y w H2 Q' Q re rr q lk=>by
  obtain ⟨j,e1,c,q⟩:=q.ex
  exact ⟨i,j,rfl,by rw [re.str rr e1],big_ok c,lk _ _ _ _ _ (q _ rfl) .refl re rfl⟩) ho ha hbase hline hs
def gZfill (i:Str) (y:R) (E:En) (Q:R→En→Prop):Prop:=i1 (vl E y) fun j=>(0≤j∧j≤big)∧∀z,z=Txt.zfill i j→Q (.p (.str z)) E
theorem mt_zfill:MtR X "str.zfill" (fun x vs H Q=>∃i j,x = .str i∧vs=[.int j]∧PadOk j=true∧Q (.str (Txt.zfill i j)) H):=by
 intro pins s σ H x vs v us Q I rx rv h
 obtain ⟨i,j,rfl,rfl,hz,q⟩:=h
 obtain ⟨t,rfl⟩:=rx
 obtain ⟨u,rfl,ry⟩:=vals1 rv
 obtain ⟨t',rfl⟩:=ry
 exact SC.zfill hz fun t' k=>⟨.str _,H,I.tok _,⟨_,rfl⟩,q⟩
theorem pad_ok {j:Int} (h0:0≤j) (h1:j≤big):PadOk j=true:=by
 unfold big at h1
 unfold PadOk fitsSsize Builtin.Str.tooLong
 rw [decide_eq_false (by omega),decide_eq_false (by omega),decide_eq_false (by rw [sizeLine_eq];omega)]
 rfl
theorem fe_zfill {n:Nat} (ho:QE X o (simE K Fo)) (ha:QA X [e] (simA K n Fr)) (hbase:attributeBase o "zfill" X.env (eval o X.env)=eval o X.env:=by rfl) (hline:(ap.endLine==pos.line)=true:=by rfl) (hs:isStar e=false:=by rfl):QE X (.Call (.Attribute o "zfill" ap) [e] [] pos) (simE K (fSm1 gZfill Fo Fr)):=
 fe_sm1 PySem.F.slot_str_zfill PySem.F.type_str_zfill mt_zfill (fun B S E i y w H2 Q' Q re rr q lk=>by
  obtain ⟨j,e1,⟨c1,c2⟩,q⟩:=q.ex
  exact ⟨i,j,rfl,by rw [re.int rr e1],pad_ok c1 c2,lk _ _ _ _ _ (q _ rfl) .refl re rfl⟩) ho ha hbase hline hs
def gPart (i:Str) (y:R) (E:En) (Q:R→En→Prop):Prop:=s1 (vl E y) fun j=>((j.length==0)=false∧i.length≤big)∧∀a b c,Txt.partition i j=(a,b,c)→Q (.p (.tup [.str a,.str b,.str c])) E
theorem mt_part:MtR X "str.partition" (fun x vs H Q=>∃i j,x = .str i∧vs=[.str j]∧(j.length==0)=false∧i.length≤sizeLine∧∀p,H p=none→Q (.ref p) (upd H p (.tup [.str (Txt.partition i j).1,.str (Txt.partition i j).2.1,.str (Txt.partition i j).2.2]))):=by
 intro pins s σ H x vs v us Q I rx rv h
 obtain ⟨i,j,rfl,rfl,hj,hz,q⟩:=h
 obtain ⟨t,rfl⟩:=rx
 obtain ⟨u,rfl,ry⟩:=vals1 rv
 obtain ⟨t',rfl⟩:=ry
 refine call_meets PySem.F.slot_str_partition (typeIs_str _ _ _) PySem.F.entry_str_partition (PySem.F.args_str_partition_2 _ _) (meets_str_partition i j t t' hj hz) ?_
 have fin:∀(ta tb tc:Tok) (k:Nat),EP X pins σ Q (.ref s.heap.objs.size) { s with toks:=k,heap:=s.heap.push { cls:=.type "tuple",data:=.seq [.str (Txt.partition i j).1 ta,.str (Txt.partition i j).2.1 tb,.str (Txt.partition i j).2.2 tc].toArray } }:=fun ta tb tc k=>by
  refine ⟨.ref s.heap.objs.size,_,I.laid (o:=.tup [.str (Txt.partition i j).1,.str (Txt.partition i j).2.1,.str (Txt.partition i j).2.2]) (t':=k) (fun b u e=>Heap.get?_push_of_some _ e) (Nat.le_refl _) ?_,rfl,q _ (I.hok.fresh (Nat.le_refl _))⟩
  exact ⟨by show 3≤sizeLine;decide,_,.cons ⟨_,rfl⟩ (.cons ⟨_,rfl⟩ (.cons ⟨_,rfl⟩ .nil)),⟨_,Heap.get?_push_size _ rfl,rfl,_,rfl⟩⟩
 revert fin
 unfold Txt.partition
 cases Builtin.Str.occurrences i j 0 i.length 1 with
 | nil=>intro fin;exact fin _ _ _ _
 | cons k r=>intro fin;exact fin _ _ _ _
theorem fe_partition {n:Nat} (ho:QE X o (simE K Fo)) (ha:QA X [e] (simA K n Fr)) (hbase:attributeBase o "partition" X.env (eval o X.env)=eval o X.env:=by rfl) (hline:(ap.endLine==pos.line)=true:=by rfl) (hs:isStar e=false:=by rfl):QE X (.Call (.Attribute o "partition" ap) [e] [] pos) (simE K (fSm1 gPart Fo Fr)):=
 fe_sm1 PySem.F.slot_str_partition PySem.F.type_str_partition mt_part (fun B S E i y w H2 Q' Q re rr q lk=>by
  obtain ⟨j,e1,⟨c1,c2⟩,q⟩:=q.ex
  refine ⟨i,j,rfl,by rw [re.str rr e1],c1,big_ok c2,fun p hp=>?_⟩
  obtain ⟨g,re',rp⟩:=re.tup (ts:=[.str (Txt.partition i j).1,.str (Txt.partition i j).2.1,.str (Txt.partition i j).2.2]) (vs:=[.str (Txt.partition i j).1,.str (Txt.partition i j).2.1,.str (Txt.partition i j).2.2]) hp ⟨_,_,rfl,rfl,_,_,rfl,rfl,_,_,rfl,rfl,rfl⟩
  exact lk _ _ _ _ _ (q _ _ _ rfl) g re' rp) ho ha hbase hline hs
def strsT (l:List Str):List T:=l.map T.str
theorem strs_rps {H:Hp} {O:Addr→Prop}:∀l:List Str,Rps K H O (strsT l) (l.map V.str)
 | []=>rfl
 | x::l=>⟨_,_,rfl,rfl,strs_rps l⟩
theorem vals_strs:∀l:List (Str×Tok),Vals ((l.map (·.1)).map V.str) (strValues l)
 | []=>.nil
 | (x,t)::l=>.cons ⟨t,rfl⟩ (vals_strs l)
def gSplit (i:Str) (y:R) (E:En) (Q:R→En→Prop):Prop:=s1 (vl E y) fun j=>((j.length==0)=false∧i.length≤big)∧∀l,l=Txt.split i j→Q (.s E.length) (E++[some (.o false (strsT l))])
theorem split_few (i j:Str):(Txt.split i j).length≤i.length+2:=by
 have h:=StrLaws.occ_length_le i j 0 i.length (i.length+1)
 unfold Txt.split
 split
 ·simp
 ·split
  ·simp
  ·unfold Builtin.Str.partsBetween
   simp only [List.length_map,List.length_zip,List.length_cons,List.length_append]
   omega
theorem parts_few (i j:Str):(Builtin.Str.partsBetween i (Builtin.Str.occurrences i j 0 i.length (i.length+1)) j.length).length≤i.length+2:=by
 have h:=StrLaws.occ_length_le i j 0 i.length (i.length+1)
 unfold Builtin.Str.partsBetween
 simp only [List.length_map,List.length_zip,List.length_cons,List.length_append]
 omega
theorem mt_split:MtR X "str.split" (fun x vs H Q=>∃i j,x = .str i∧vs=[.str j]∧(j.length==0)=false∧i.length≤big∧∀p,H p=none→Q (.ref p) (upd H p (.lst ((Txt.split i j).map V.str)))):=by
 intro pins s σ H x vs v us Q I rx rv h
 obtain ⟨i,j,rfl,rfl,hj,hz,q⟩:=h
 obtain ⟨t,rfl⟩:=rx
 obtain ⟨u,rfl,ry⟩:=vals1 rv
 obtain ⟨t',rfl⟩:=ry
 have z1:(Builtin.Str.partsBetween i (Builtin.Str.occurrences i j 0 i.length (i.length+1)) j.length).length≤sizeLine:=by
  have:=parts_few i j
  unfold big at hz;rw [sizeLine_eq];omega
 have fin:∀(l:List (Str×Tok)) (k:Nat),l.map (·.1)=Txt.split i j→EP X pins σ Q (.ref s.heap.objs.size) { s with toks:=k,heap:=s.heap.push { cls:=.type "list",data:=.seq (strValues l).toArray } }:=fun l k el=>by
  refine ⟨.ref s.heap.objs.size,_,I.laid (o:=.lst ((Txt.split i j).map V.str)) (t':=k) (fun b u e=>Heap.get?_push_of_some _ e) (Nat.le_refl _) ?_,rfl,q _ (I.hok.fresh (Nat.le_refl _))⟩
  refine ⟨?_,strValues l,0,by rw [←el];exact vals_strs l,Heap.get?_push_size _ rfl⟩
  have:=split_few i j
  unfold big at hz
  rw [List.length_map,sizeLine_eq];omega
 cases h1:(decide (i.length<j.length)||decide (Builtin.Str.strKind i<Builtin.Str.strKind j))
 ·cases hf:(Builtin.Str.occurrences i j 0 i.length (i.length+1)).isEmpty
  ·refine call_meets PySem.F.slot_str_split (typeIs_str _ _ _) PySem.F.entry_str_split (PySem.F.args_str_split_2 _ _) (meets_str_split_sep i j t t' h1 hj hf (big_ok hz) z1) ?_
   show wants _ _ _ { s with toks:=_,heap:=s.heap.push { cls:=.type "list",data:=.seq (strsFrom s.toks (Builtin.Str.partsBetween i (Builtin.Str.occurrences i j 0 i.length (i.length+1)) j.length)).toArray } }
   rw [strsFrom_eq]
   exact fin (numbered s.toks _) _ ((numbered_texts _ _).trans ((if_neg (ne_true_of_eq_false h1)).trans (if_neg (ne_true_of_eq_false hf))).symm)
  ·exact call_meets PySem.F.slot_str_split (typeIs_str _ _ _) PySem.F.entry_str_split (PySem.F.args_str_split_2 _ _) (meets_str_split_not_found i j t t' h1 hj hf) (fin [(i,t)] _ ((if_neg (ne_true_of_eq_false h1)).trans (if_pos hf)).symm)
 ·exact call_meets PySem.F.slot_str_split (typeIs_str _ _ _) PySem.F.entry_str_split (PySem.F.args_str_split_2 _ _) (meets_str_split_cannot_occur i j t t' h1) (fin [(i,t)] _ (if_pos h1).symm)
theorem fe_split {n:Nat} (ho:QE X o (simE K Fo)) (ha:QA X [e] (simA K n Fr)) (hbase:attributeBase o "split" X.env (eval o X.env)=eval o X.env:=by rfl) (hline:(ap.endLine==pos.line)=true:=by rfl) (hs:isStar e=false:=by rfl):QE X (.Call (.Attribute o "split" ap) [e] [] pos) (simE K (fSm1 gSplit Fo Fr)):=
 fe_sm1 PySem.F.slot_str_split PySem.F.type_str_split mt_split (fun B S E i y w H2 Q' Q re rr q lk=>by
  obtain ⟨j,e1,⟨c1,c2⟩,q⟩:=q.ex
  refine ⟨i,j,rfl,by rw [re.str rr e1],c1,c2,fun p hp=>?_⟩
  obtain ⟨g,re'⟩:=re.lst hp (strs_rps (Txt.split i j))
  exact lk _ _ _ _ _ (q _ rfl) g re' (by rw [←re.len];exact get_last)) ho ha hbase hline hs
def strsOf:List T→Option (List Str)
 | []=>some []
 | .str x::r=>(strsOf r).map (x::·)
 | _=>none
theorem strsOf_ok:∀{xs:List T} {l:List Str},strsOf xs=some l→xs=strsT l
 | [],_,h=>by cases h;rfl
 | .str x::r,l,h=>by
  cases q:strsOf r with
  | none=>rw [strsOf,q] at h;cases h
  | some m=>
   rw [strsOf,q] at h;cases h
   rw [strsOf_ok q];rfl
 | .non::_,_,h=>by cases h
 | .bl _::_,_,h=>by cases h
 | .int _::_,_,h=>by cases h
 | .tup _::_,_,h=>by cases h
 | .lst _::_,_,h=>by cases h
theorem strsOf_T:∀l:List Str,strsOf (strsT l)=some l
 | []=>rfl
 | x::l=>by show (strsOf (strsT l)).map (x::·)=_;rw [strsOf_T l];rfl
def gJoin (i:Str) (y:R) (E:En) (Q:R→En→Prop):Prop:=match vl E y with
 | some (.lst xs)=>o1 (strsOf xs) fun l=>JoinOk i l=true∧∀z,z=Txt.join i l→Q (.p (.str z)) E
 | _=>False
theorem strs_vals:∀{l:List Str} {us:List Value},Vals (l.map V.str) us→∃m:List (Str×Tok),us=strValues m∧m.map (·.1)=l
 | [],us,h=>by cases h;exact ⟨[],rfl,rfl⟩
 | x::l,us,h=>by
  cases h with
  | cons h1 h2=>
   obtain ⟨t,rfl⟩:=h1
   obtain ⟨m,rfl,e⟩:=strs_vals h2
   exact ⟨(x,t)::m,rfl,by rw [List.map_cons,e]⟩
theorem rps_strs {H:Hp} {O:Addr→Prop}:∀{l:List Str} {vs:List V},Rps K H O (strsT l) vs→vs=l.map V.str
 | [],_,h=>h
 | x::l,_,⟨v,r,e,h1,h2⟩=>by
  have h1:v = .str x:=h1
  rw [e,h1,rps_strs h2];rfl
theorem mt_join:MtR X "str.join" (fun x vs H Q=>∃i a l,x = .str i∧vs=[.ref a]∧SqL X.K H a (l.map V.str)∧JoinOk i l=true∧Q (.str (Txt.join i l)) H):=by
 intro pins s σ H x vs v us Q I rx rv h
 obtain ⟨i,a,l,rfl,rfl,sq,hj,q⟩:=h
 obtain ⟨t,rfl⟩:=rx
 obtain ⟨u,rfl,ry⟩:=vals1 rv
 cases ry
 obtain ⟨its,r,pl,hz⟩:=I.list sq
 obtain ⟨m,rfl,e⟩:=strs_vals r
 exact SC.join pl.isList e hj fun t' k=>⟨.str _,H,I.tok _,⟨_,rfl⟩,q⟩
theorem fe_join {n:Nat} (eK:X.K=K) (ho:QE X o (simE K Fo)) (ha:QA X [e] (simA K n Fr)) (hbase:attributeBase o "join" X.env (eval o X.env)=eval o X.env:=by rfl) (hline:(ap.endLine==pos.line)=true:=by rfl) (hs:isStar e=false:=by rfl):QE X (.Call (.Attribute o "join" ap) [e] [] pos) (simE K (fSm1 gJoin Fo Fr)):=by
 subst eK
 refine fe_sm1 PySem.F.slot_str_join PySem.F.type_str_join mt_join (fun B S E i y w H2 Q' Q re rr q lk=>?_) ho ha hbase hline hs
 unfold gJoin at q
 split at q
 ·rename_i xs e1
  obtain ⟨l,e2,c,q⟩:=o1.ex q
  rw [strsOf_ok e2] at e1
  obtain ⟨a,vs,rfl,sq,rs⟩:=re.vl rr e1
  rw [rps_strs rs] at sq
  exact ⟨i,a,l,rfl,rfl,sq,c,lk _ _ _ _ _ (q _ rfl) .refl re rfl⟩
 ·exact q.elim
end
end L2
set_option Elab.async false
set_option linter.all false
set_option maxRecDepth 100000
set_option maxHeartbeats 4000000
namespace L2
open PySem PySem.Spec PyProof.Rows
section
variable {X:Cx} {K:PySem.W.Frag} {pos:Pos} {a b c e o:Expr} {es:List Expr} {Fa Fb Fc Fo:FE} {Fr:FA} {Gl' Gh G:FO}
end
end L2
set_option Elab.async false
set_option linter.all false
set_option maxRecDepth 100000
set_option maxHeartbeats 4000000
namespace L2
open PySem PySem.Spec PySem.W PySem.Calls PyProof.Rows PySem.Builtin.ObjectAttr
structure XCls (K:PySem.W.Frag) (C:Addr):Prop where
 ga:findIn K (.ref C) "__getattribute__" = some (some (.builtin "BaseException.__getattribute__"))
 gt:findIn K (.ref C) "__getattr__" = some none
 sa:findIn K (.ref C) "__setattr__" = some (some (.builtin "object.__setattr__"))
 be:mroIn K C (.type "BaseException")=some true
 ob:mroIn K C (.type "object")=some true
 cl:findIn K (.ref C) "__class__" = some (some (.builtin "object.__class__"))
 gs:specialIn K (.builtin "object.__class__") "__get__" = some (some (.builtin "getset_descriptor.__get__"))
 tk:takesIn K (.builtin "object.__class__")=some true
 hd:hasDictIn K C=true
section
variable {prog:Program} {w:World} {A:Around} {E:Value→Shared→Prop} {s:Shared} {K:PySem.W.Frag} {x C:Addr} {ox:Obj} {odo:Option Obj} {name:Str}
theorem xget_by {tk:Tok} {fill expr:Bool} {f:Found} {v:Value} {Q:Value→Shared→Prop} (X:K.In s.heap) (I:InstAt s.heap x ox C odo) (c:XCls K C) (L:Looks (model prog w) s.heap (find (.ref x) (.ref C) name) f) (hv:handedIn v=true)
  (hf:f = .value v∨∃g a,f = .bind g a∧∀(A':Around) (R:Result→Shared→Prop),R (.ok (.ret v)) s→codeAny (model prog w) A' (.call g ⟨[a,.ref x,.ref C],[]⟩) R s) (h:Q v s) :
  wpAny (model prog w) A (getAttrBy (.ref x) (.str name tk) fill expr) Q E s:=by
 obtain ⟨hp0,gn0,dr0,tk0,os0⟩:=s
 have Lty:=I.type (M:=model prog w)
 have Lga:=looks_findIn (M:=model prog w) X c.ga
 have Lha:=looks_findIn (M:=model prog w) X c.gt
 have sub:Looks (model prog w) hp0 (isInstance (.ref x) (.type "BaseException")) true:=I.type.andThen (looks_mroIn X c.be)
 unfold getAttrBy
 refine wpAny_holding (wpAny_bind (Lty.at (wpAny_bind (Lga.at ?_))))
 show wpAny _ _ (if (onTheHeap (.ref C)&&Value.builtin "BaseException.__getattribute__"==.builtin "object.__getattribute__")=true then _ else _) _ _ _
 have noteq:(Value.builtin "BaseException.__getattribute__"==Value.builtin "object.__getattribute__")=false:=by decide +kernel
 rw [noteq,Bool.and_false,if_neg (by decide)]
 unfold getAttrByItsOwn
 refine wpAny_bind (Lha.at (wpAny_bind (wpAny_attempt (wpAny_holding ?_))))
 have e1:callGetattribute (.ref x) (.str name tk) (.builtin "BaseException.__getattribute__") expr=boundAndCalled (.builtin "BaseException.__getattribute__") (.ref x) (.str name tk):=by
  unfold callGetattribute
  cases expr<;>rfl
 rw [e1]
 unfold boundAndCalled
 refine wpAny_bind (wpAny_of_eq (F.attr_ValueError.ga.bind _) ?_)
 refine wpAny_call (codeAny_call_builtin F.attr_ValueError.ga.plain F.entry_bexc_ga (@check_slot (model prog w) _ _ _ "BaseException.__getattribute__" "BaseException" "__getattribute__" (.ref x) [.str name tk] [] _ (by decide +kernel) (by decide +kernel) sub (F.args_bexc_ga _ _) ?_))
 refine wpAny_bind (wpAny_pure (a:=(Value.ref x,[Value.str name tk])) ?_)
 refine wpAny_bind (wpAny_pure (a:=name) ?_)
 refine wpAny_bind (Lty.at (wpAny_bind (L.at ?_)))
 rcases hf with rfl | ⟨g,a,rfl,hc⟩
 ·refine wpAny_pure ?_
  exact handed_on hv h
 ·show wpAny _ _ (holding [a] (call g [a,.ref x,.ref C]) >>= ret) _ _ _
  exact wpAny_bind (wpAny_holding (wpAny_call (hc _ _ (wpAny_pure (handed_on hv h)))))
theorem xclass {Q:Option Value→Shared→Prop} (X:K.In s.heap) (I:InstAt s.heap x ox C odo) (c:XCls K C) (h:Q (some (.ref C)) { s with toks:=s.toks+1 }):wpAny (model prog w) A (getAttr? (.ref x) "__class__") Q E s:=by
 have hf:findObj K C odo "__class__" = some (.bind (.builtin "getset_descriptor.__get__") (.builtin "object.__class__")):=by
  obtain ⟨cd,hc,_⟩:=any_some c.hd
  unfold findObj
  rw [hc]
  simp only [Option.bind_some,c.cl,c.gs,c.tk]
 unfold getAttr? getAttrBy?
 refine wpAny_bind (wpAny_mkText (wpAny_bind (wpAny_attempt (xget_by (v:=.ref C) (s:={ s with toks:=s.toks+1 }) X I c (looks_find X I hf) rfl (.inr ⟨_,_,rfl,fun A' R hR=>?_⟩) ?_))))
 ·exact class_get (s:={ s with toks:=s.toks+1 }) X I c.ob hR
 ·exact wpAny_pure h
theorem kitx_exc (c:XCls K C):KitX K (.ref x) (.ref C) (fun h=>InstAt h x ox C odo) where
 ty:=fun _ _ _ I=>I.type
 it:=fun _ _ X _=>by
  obtain ⟨cdD,hcD,_⟩:=any_some c.hd
  unfold clsIn at hcD
  split at hcD
  ·rename_i ho
   intro A' Q' E' s' k q
   unfold isType loadHead
   exact wpAny_bind (wpAny_loadPart (k C _ (X C _ ho)) (wpAny_pure q))
  ·cases hcD
 ne:=fun h0 t0 d0 ys n0 sl0 X htp=>by
  obtain ⟨cdD,hcD,_⟩:=any_some c.hd
  refine Bool.eq_false_iff.mpr fun same=>?_
  cases Value.ref.inj (beq_iff_eq.mp same)
  unfold clsIn at hcD
  split at hcD
  ·rename_i ho
   cases (X _ _ ho).symm.trans htp
  ·cases hcD
 ca:=fun X I k=>xclass X I c k
end
end L2
set_option Elab.async false
set_option linter.all false
set_option maxRecDepth 100000
set_option maxHeartbeats 4000000
namespace L2
open PySem PySem.Spec PySem.W PySem.Calls PyProof.Rows PySem.Builtin.ObjectAttr
section
variable {prog:Program} {w:World} {A:Around} {E:Value→Shared→Prop} {s:Shared} {K:PySem.W.Frag} {x C:Addr} {vs:Array Value} {name:Str}
end
end L2
set_option Elab.async false
set_option linter.all false
set_option maxRecDepth 100000
set_option maxHeartbeats 4000000
namespace L2
open PySem PySem.Spec PySem.W PySem.Calls PyProof.Rows PySem.Builtin.ObjectAttr
abbrev mroV:List Value:=[.type "ValueError",.type "Exception",.type "BaseException",.type "object"]
def xclsIn (K:PySem.W.Frag) (C:Addr) (ini:Option Value):Bool:=match K.lookup C with
 | some ⟨.type "type",_,.cls cd,sl⟩=>
  match cd.mro with
  | .ref D::tl=>
   match sl.toList with
   | [_,_,_,_,some (.builtin nw),_]=>nw=="ValueError.__new__"&&D==C&&cd.hasDel==false&&tailIn K mroV tl&&nsIn K cd.ns "__init__"==some ini&&nsOkIn K cd.ns
   | _=>false
  | _=>false
 | _=>false
def XAt (h:Heap) (C:Addr) (ini:Option Value):Prop:=
 ∃(nm q:Str) (N:Addr) (bs tl:List Value) (hdct:Bool) (sn:List Str) (sub:List Value) (ab:Bool) (col:Option Bool) (dd:Option Addr) (k0 k1 k2 k3 k5:Option Value) (mN:Str→Option Value),
  h.get? C=some (excClassObj nm q C N bs tl hdct sn sub ab col dd k0 k1 k2 k3 k5 "ValueError.__new__")∧h.Ns N mN∧mN "__init__" = ini∧OwnTail h mroV tl
theorem ns_in {K:PySem.W.Frag} {h:Heap} {N:Addr} {m:Str→Option Value} {n:Str} {r:Option Value} (X:K.In h) (G:h.Ns N m) (e:nsIn K N n=some r):m n=r:=by
 cases r with
 | none=>exact ns_none_of X G e
 | some v=>
  obtain ⟨ob,ents,ct,hob,hda,_,look⟩:=G
  unfold nsIn at e
  split at e
  ·rename_i c1 d1 ents1 ct1 sl1 hk
   cases (X _ _ hk).symm.trans hob
   cases hda
   rw [←look n,nsFind,findBy,←Array.find?_toList]
   split at e
   ·rename_i en hen
    cases e
    rw [hen];rfl
   ·split at e<;>cases e
  ·cases e
theorem xat_of {K:PySem.W.Frag} {h:Heap} {C:Addr} {ini:Option Value} (X:K.In h) (e:xclsIn K C ini=true):XAt h C ini:=by
 unfold xclsIn at e
 split at e
 ·rename_i dd cd sl hl
  split at e
  ·rename_i D tl hm
   split at e
   ·rename_i k0 k1 k2 k3 nw k5 hs
    simp only [Bool.and_eq_true,beq_iff_eq] at e
    obtain ⟨⟨⟨⟨⟨eNew,eC⟩,eDel⟩,eTl⟩,eIn⟩,eNs⟩:=e
    have hN:h.Ns cd.ns (h.nsMap cd.ns):=.of_isNs (isNs_of_in X eNs)
    have hi:=ns_in X hN eIn
    obtain ⟨nm,bs,mro,nsA,qn,hd,sn,sub,ab,col,del⟩:=cd
    obtain ⟨sl⟩:=sl
    simp only at hm hs eDel hN hi
    subst hm hs eDel eNew eC
    exact ⟨nm,qn,nsA,bs,tl,hd,sn,sub,ab,col,dd,k0,k1,k2,k3,k5,_,X _ _ hl,hN,hi,tail_of_in X eTl⟩
   ·cases e
  ·cases e
 ·cases e
section
variable {prog:Program} {w:World} {A:Around} {E:Value→Shared→Prop} {s:Shared} {K:PySem.W.Frag} {x C:Addr} {name:Str}
end
end L2
set_option Elab.async false
set_option linter.all false
set_option maxRecDepth 100000
set_option maxHeartbeats 4000000
namespace L2
open PySem PySem.Spec PySem.W PySem.Calls PyProof.Rows PySem.Builtin.ObjectAttr
section
variable {prog:Program} {w:World} {A:Around} {E:Value→Shared→Prop} {s:Shared} {K:PySem.W.Frag} {C:Addr}
end
end L2
set_option Elab.async false
set_option linter.all false
set_option maxRecDepth 100000
set_option maxHeartbeats 4000000
namespace L2
open PySem PySem.Spec PySem.W PySem.Calls PyProof.Rows PySem.Builtin.ObjectAttr
def Exc (h:Heap) (x C T:Addr):Prop:=T≠x∧∃(oe:Obj) (vs:Array Value) (oT:Obj) (ts:Array Value),h.get? x=some oe∧oe.cls = .ref C∧oe.dict=none∧oe.data = .fields vs∧vs[1]? = some (.ref T)∧h.get? T=some oT∧oT.data = .fields ts∧ts[3]? = some .none
theorem map_dict (o:Obj) (f:Array Value→Array Value):(o.mapFields f).dict=o.dict:=by
 obtain ⟨c,d,dt,sl⟩:=o
 cases dt<;>rfl
structure Kf (fs:List Addr) (x:Addr) (h h':Heap):Prop where
 keep:∀b o,h.get? b=some o→b∉fs→b≠x→h'.get? b=some o
 slot:∀b o,h.get? b=some o→b∈fs→∃sl,h'.get? b=some { o with slots:=sl }
theorem Kf.next {fs:List Addr} {x T:Addr} {h h' h'':Heap} (k:Kf fs x h h') (hT:T∉fs) (hn:h.get? T=none) (k2:∀b o,b≠T→h'.get? b=some o→h''.get? b=some o):Kf fs x h h'':=by
 refine ⟨fun b o e nf nx=>k2 b o (fun z=>?_) (k.keep b o e nf nx),fun b o e mf=>?_⟩
 ·rw [z,hn] at e;cases e
 ·obtain ⟨sl,q⟩:=k.slot b o e mf
  exact ⟨sl,k2 b _ (fun z=>hT (by rw [←z];exact mf)) q⟩
section
variable {M:Model} {A:Around} {E:Value→Shared→Prop} {s:Shared} {base:Heap} {env:Env} {outer:List Env} {L x:Addr} {oe:Obj} {vs:Array Value}
theorem entry_in {hd:Value} {had:Bool} {Q:Unit→Shared→Prop} (hfr:A.frames=some (env::outer)) (hl:s.heap.FunFrames base (env::outer)) (hf:env.frame=some L) (he:s.heap.get? x=some oe) (hdt:oe.data = .fields vs) (hsz:1<vs.size)
  (k:∀(h':Heap) (T:Addr) (oT:Obj) (ts:Array Value),Kf (frs (env::outer)) x s.heap h'→s.heap.get? T=none→T≠x→T∉frs (env::outer)→h'.get? x=some (oe.mapFields (·.setIfInBounds 1 (.ref T)))→h'.get? T=some oT→oT.data = .fields ts→3<ts.size→Q () { s with heap:=h' }) :
  wpAny M A (frameOf env >>= fun a=>entryPlaceOf L had >>= fun pl=>EntryCells.newEntry hd a .none (rawInt L) .none pl >>= fun b=>setField (.ref x) 1 b) Q E s:=by
 have nx:x∉frs (env::outer):=fun hm=>by
  obtain ⟨_,o,ho,hnf⟩:=hl.mem hm
  rw [he] at ho;cases ho
  exact hnf vs hdt
 refine wpAny_bind (wpAny_frameOf_fun hfr hl hf fun g so=>wpAny_bind (wpAny_entryPlaceOf fun pl hpl=>?_))
 obtain ⟨z1,z2,z3⟩:=so
 have gx:g.get? x=some oe:=by rw [z2 x nx];exact he
 have Tx:g.objs.size≠x:=Nat.ne_of_gt (Heap.lt_size gx)
 have sT:s.heap.get? g.objs.size=none:=Heap.get?_none_of_le (by rw [z1];exact Nat.le_refl _)
 have Tf:g.objs.size∉frs (env::outer):=fun hm=>by
  obtain ⟨_,o,ho,_⟩:=hl.mem hm
  rw [sT] at ho;cases ho
 unfold EntryCells.newEntry newFields
 refine wpAny_bind (wpAny_newObj_type ?_ (hpl.sizeOk5 _ _ _ _ _))
 refine wpAny_setField (Heap.get?_push_of_some _ gx) hdt hsz ?_
 refine k _ g.objs.size { cls:=.type "traceback",dict:=none,data:=.fields ([hd,.ref L,.none,rawInt L,.none]++(if pl.isEmpty then List.replicate 6 Value.none else pl)).toArray } _ ⟨fun b o e nf nb=>?_,fun b o e mf=>?_⟩ sT Tx Tf ?_ ?_ rfl ?_
 ·rw [Heap.get?_update_other _ _ (Ne.symm nb)]
  exact Heap.get?_push_of_some _ (by show g.get? b=_;rw [z2 b nf];exact e)
 ·obtain ⟨sl,q⟩:=z3 b o e
  refine ⟨sl,?_⟩
  rw [Heap.get?_update_other _ _ (fun z=>nx (by rw [z];exact mf))]
  exact Heap.get?_push_of_some _ q
 ·exact Heap.get?_update_self _ (Heap.get?_push_of_some _ gx) (Obj.isFreed_of_fields (Obj.data_mapFields hdt _))
 ·rw [Heap.get?_update_other _ _ (Ne.symm Tx)]
  exact Heap.get?_push_size g rfl
 ·simp only [List.size_toArray,List.length_append,List.length_cons,List.length_nil];omega
theorem mapped {T:Addr} {h:Heap} (hx:h.get? x=some (oe.mapFields (·.setIfInBounds 1 (.ref T)))) (hdt:oe.data = .fields vs) (hsz:1<vs.size):∃o us,h.get? x=some o∧o.cls=oe.cls∧o.dict=oe.dict∧o.data = .fields us∧us[1]? = some (.ref T):=
 ⟨_,_,hx,Obj.cls_mapFields _ _,map_dict _ _,Obj.data_mapFields hdt _,by simp [hsz]⟩
theorem unflown {C T:Addr} {h0:Heap} {fs:List Addr} {o oT:Obj} {us ts:Array Value} {Q:Unit→Shared→Prop} (k0:Kf fs x h0 s.heap) (hn:h0.get? T=none) (nT:T≠x) (fT:T∉fs) (hx:s.heap.get? x=some o) (hc:o.cls = .ref C) (hdc:o.dict=none) (hdt:o.data = .fields us) (h1:us[1]? = some (.ref T))
  (hT:s.heap.get? T=some oT) (hdT:oT.data = .fields ts) (h3:3<ts.size) (k:∀h',Kf fs x h0 h'→Exc h' x C T→Q () { s with heap:=h' }):wpAny M A (setFlight (.ref x) none) Q E s:=by
 refine wpAny_setFlight_none hx hdt h1 hT hdT h3 (k _ (k0.next fT hn fun b o' nb e=>?_) ⟨nT,o,us,oT.mapFields (·.setIfInBounds 3 .none),ts.setIfInBounds 3 .none,?_,hc,hdc,hdt,h1,?_,Obj.data_mapFields hdT _,by simp [h3]⟩)
 ·rw [Heap.get?_update_other _ _ (Ne.symm nb)];exact e
 ·rw [Heap.get?_update_other _ _ nT];exact hx
 ·exact Heap.get?_update_self _ hT (Obj.isFreed_of_fields (Obj.data_mapFields hdT _))
theorem leaves_new {C:Addr} {h0:Heap} {Q:Unit→Shared→Prop} (hfr:A.frames=some (env::outer)) (hl:h0.FunFrames base (env::outer)) (hf:env.frame=some L) (k0:∀b o,h0.get? b=some o→s.heap.get? b=some o) (hn:h0.get? x=none) (hx:s.heap.get? x=some oe) (hc:oe.cls = .ref C) (hdc:oe.dict=none) (hdt:oe.data = .fields vs) (h1:vs[1]? = some .none)
  (k:∀h' T,Kf (frs (env::outer)) x h0 h'→h0.get? T=none→Exc h' x C T→Q () { s with heap:=h' }):wpAny M A (leaving env (.ref x)) Q E s:=by
 have hl1:s.heap.FunFrames base (env::outer):=hl.of_keeps fun b o e _=>⟨o,k0 b o e,rfl⟩
 have hsz:=(Array.getElem?_eq_some_iff.mp h1).1
 unfold leaving noteFrame
 simp only [hf]
 refine wpAny_bind (wpAny_bind (wpAny_field hx hdt h1 ?_))
 rw [if_neg (by decide)]
 refine entry_in hfr hl1 hf hx hdt hsz fun h' T oT ts kf sT nT fT ex eT dT h3=>?_
 obtain ⟨o,us,e1,e2,e3,e4,e5⟩:=mapped ex hdt hsz
 have gT:h0.get? T=none:=by
  cases q:h0.get? T with
  | none=>rfl
  | some o'=>rw [k0 T o' q] at sT;cases sT
 have kf0:Kf (frs (env::outer)) x h0 h':=⟨fun b o e nf nx=>kf.keep b o (k0 b o e) nf nx,fun b o e mf=>kf.slot b o (k0 b o e) mf⟩
 exact unflown (s:={ s with heap:=h' }) kf0 gT nT fT e1 (by rw [e2,hc]) (by rw [e3,hdc]) e4 e5 eT dT h3 fun h'' kk ee=>k h'' T kk gT ee
theorem notes_in {C T0:Addr} {h0:Heap} {Q:Unit→Shared→Prop} (hfr:A.frames=some (env::outer)) (hl:h0.FunFrames base (env::outer)) (hf:env.frame=some L) (k0:Kf (frs (env::outer)) x h0 s.heap) (hn:h0.get? x=none) (hn0:h0.get? T0=none) (hE:Exc s.heap x C T0)
  (k:∀h' T,Kf (frs (env::outer)) x h0 h'→h0.get? T=none→Exc h' x C T→Q () { s with heap:=h' }):wpAny M A (noteFrame (.ref x) env) (fun _ s1=>wpAny M A (setFlight (.ref x) none) Q E s1) E s:=by
 obtain ⟨n0,oe,vs,oT,ts,hx,hc,hdc,hdt,h1,hT,hdT,h3⟩:=hE
 have hsz:=(Array.getElem?_eq_some_iff.mp h1).1
 have h3z:=(Array.getElem?_eq_some_iff.mp h3).1
 have nf:∀{b:Addr},h0.get? b=none→b∉frs (env::outer):=fun {b} e hm=>by
  obtain ⟨_,o,ho,_⟩:=hl.mem hm
  rw [e] at ho;cases ho
 have hl1:s.heap.FunFrames base (env::outer):=hl.of_keeps fun b o e hnf=>by
  by_cases m:b∈frs (env::outer)
  ·obtain ⟨sl,q⟩:=k0.slot b o e m
   exact ⟨_,q,rfl⟩
  ·exact ⟨o,k0.keep b o e m (fun z=>by rw [z,hn] at e;cases e),rfl⟩
 unfold noteFrame
 simp only [hf]
 refine wpAny_bind (wpAny_field hx hdt h1 ?_)
 rw [if_pos (show (Value.ref T0 != Value.none)=true from by simp)]
 refine wpAny_bind (wpAny_field hT hdT h3 ?_)
 rw [if_neg (show ¬((Value.none==rawInt L)=true) from by simp [rawInt])]
 refine wpAny_bind (wpAny_setField hT hdT h3z ?_)
 have oth:∀b,b≠T0→(s.heap.update T0 (Obj.mapFields (·.setIfInBounds 3 Value.none))).get? b=s.heap.get? b:=fun b nb=>Heap.get?_update_other _ _ (Ne.symm nb)
 have hl2:(s.heap.update T0 (Obj.mapFields (·.setIfInBounds 3 Value.none))).FunFrames base (env::outer):=hl1.of_keeps fun b o e hnf=>⟨o,by
  rw [oth b fun z=>hnf ts (by rw [z,hT] at e;cases e;exact hdT)];exact e,rfl⟩
 refine entry_in (s:={ s with heap:=s.heap.update T0 (Obj.mapFields (·.setIfInBounds 3 Value.none)) }) hfr hl2 hf (by rw [oth x (Ne.symm n0)];exact hx) hdt hsz fun h' T oT' ts' kf sT nT fT ex eT dT h3'=>?_
 obtain ⟨o,us,e1,e2,e3,e4,e5⟩:=mapped ex hdt hsz
 have up:∀b o,h0.get? b=some o→b≠T0:=fun b o e z=>by rw [z,hn0] at e;cases e
 have kf0:Kf (frs (env::outer)) x h0 h':=by
  refine ⟨fun b o e nf nx=>kf.keep b o (by rw [oth b (up b o e)];exact k0.keep b o e nf nx) nf nx,fun b o e mf=>?_⟩
  obtain ⟨sl,q⟩:=k0.slot b o e mf
  obtain ⟨sl',q'⟩:=kf.slot b { o with slots:=sl } (by rw [oth b (up b o e)];exact q) mf
  exact ⟨sl',q'⟩
 have gT:h0.get? T=none:=by
  cases q:h0.get? T with
  | none=>rfl
  | some o'=>
   have:=k0.keep T o' q fT nT
   rw [oth T (up T o' q),this] at sT;cases sT
 exact unflown (s:={ s with heap:=h' }) kf0 gT nT fT e1 (by rw [e2,hc]) (by rw [e3,hdc]) e4 e5 eT dT h3' fun h'' kk ee=>k h'' T kk gT ee
theorem again {C T:Addr} {h0:Heap} {fs:List Addr} {Q:Unit→Shared→Prop} (k0:Kf fs x h0 s.heap) (hn:h0.get? T=none) (fT:T∉fs) (hE:Exc s.heap x C T) (k:∀h',Kf fs x h0 h'→Exc h' x C T→Q () { s with heap:=h' }):wpAny M A (setFlight (.ref x) none) Q E s:=by
 obtain ⟨n0,oe,vs,oT,ts,hx,hc,hdc,hdt,h1,hT,hdT,h3⟩:=hE
 exact unflown k0 hn n0 fT hx hc hdc hdt h1 hT hdT (Array.getElem?_eq_some_iff.mp h3).1 k
end
end L2
set_option Elab.async false
set_option linter.all false
set_option maxRecDepth 100000
set_option maxHeartbeats 4000000
namespace L2
open PySem PySem.Spec PySem.W PySem.Calls PyProof.Rows PySem.Builtin.ObjectAttr
section
variable {prog:Program} {w:World} {A:Around} {E:Value→Shared→Prop} {s:Shared} {K:PySem.W.Frag} {x C D:Addr} {oe:Obj}
theorem matches_up {Q:Bool→Shared→Prop} (X:K.In s.heap) (hx:s.heap.get? x=some oe) (hc:oe.cls = .ref C) (hk:kitCls K (.ref C) (.ref D)=some true) (hb:mroIn K D (.type "BaseException")=some true) (q:Q true s) :
  wpAny (model prog w) A (excMatches (.ref x) (.ref D)) Q E s:=by
 obtain ⟨L1,L2,L3⟩:=kit_cls (M:=model prog w) X hk
 have L4:=looks_mroIn (M:=model prog w) X hb
 have f:=tc_notTuple
 obtain ⟨hh,g,d,tk,os⟩:=s
 unfold excMatches isExcClass isInstance
 refine wpAny_bind (wpAny_bind (L1.at ?_))
 rw [f]
 refine wpAny_pure ?_
 simp only [Bool.false_eq_true,if_false]
 refine wpAny_bind (wpAny_pure ?_)
 rw [List.forIn_cons]
 refine wpAny_bind (wpAny_bind (wpAny_bind (wpAny_bind (L2.at ?_))))
 rw [if_pos rfl]
 refine L4.at ?_
 rw [if_neg (by decide)]
 refine wpAny_pure ?_
 show wpAny _ _ (forIn [] _ _) _ _ _
 rw [List.forIn_nil]
 refine wpAny_pure ?_
 refine wpAny_bind (wpAny_typeOf_ref hx ?_)
 rw [hc,List.forIn_cons]
 refine wpAny_bind (wpAny_bind (wpAny_bind (L3.at ?_)))
 rw [if_pos rfl]
 exact wpAny_pure (wpAny_pure (wpAny_pure q))
end
def endR (Q:T→Prop):ET where
 nx:=fun _=>False
 rt:=fun r E=>match r with
  | .p t=>noL t=true∧Q t
  | .s i=>match E[i]? with
   | some (some (.p t))=>noL t=true∧Q t
   | _=>False
section
variable {P:Program} {w:World} {K:PySem.W.Frag} {mg:Str→Option Value} {base:Heap}
section
variable {N:List Str} {qual:Str} {scope:Scope} {f:Addr} {cdv:Value} {A:Around} {outer:List Env} {s0:Shared} {H0:Hp} {Ew:XK} {C:Addr} {n:Str} {e:Expr} {es:List Expr} {np cpos pos:Pos}
def sRaise (Fr:FA) (W:Prop):FS:=fun _ E=>Fr E fun _ _=>W
end
end
end L2
set_option Elab.async false
set_option linter.all false
set_option maxRecDepth 100000
set_option maxHeartbeats 4000000
namespace L2
open PySem PySem.Spec PySem.W PySem.Calls PyProof.Rows PySem.Builtin.ObjectAttr
def ExX (C x:Addr):HO:=.ext fun h=>∃oe vs,h.get? x=some oe∧oe.cls = .ref C∧oe.dict=none∧oe.data = .fields vs
theorem exx_ok {P:Program} {w:World} {H:Hp} {h:Heap} {C x T:Addr} (e:Exc h x C T):ObjOk P w H h x (ExX C x):=by
 obtain ⟨_,oe,vs,_,_,h1,h2,h3,h4,_⟩:=e
 exact ⟨⟨oe,vs,h1,h2,h3,h4⟩,⟨_,h1⟩,fun _ _ ⟨oe,vs,q1,q2⟩ k=>⟨oe,vs,k _ q1,q2⟩⟩
section
variable {X:Cx} {pins:List (Addr×Obj)} {σ:St} {H:Hp} {s:Shared}
theorem exx_at {C x:Addr} (I:Inv X pins σ H s) (e:H x=some (ExX C x)):∃oe,PySem.W.InstAt s.heap x oe C none:=by
 obtain ⟨oe,vs,h1,h2,h3,h4⟩:=(show ObjOk X.prog X.w H s.heap x (ExX C x) from I.hok x _ e).1
 refine ⟨oe,h1,h2,by unfold PySem.W.notCls;rw [h4],by rw [h3];trivial⟩
theorem call_isX {c:V} {u:Value} (hu:∀v,RelV c v→v=u):CallR X (.builtin "isinstance") (fun xs H Q=>∃x C b,xs=[.ref x,c]∧H x=some (ExX C x)∧XCls X.K C∧kitOne X.K (.ref C) u=some b∧Q (.bl b) H):=by
 intro pins s σ H xs us Q I r h
 obtain ⟨x,C,b,rfl,hx,c,hk,q⟩:=h
 obtain ⟨u1,u2,rfl,r1,r2⟩:=Vals.two r
 cases r1
 cases hu _ r2
 obtain ⟨oe,J⟩:=exx_at I hx
 exact kia_one (kitx_exc (odo:=none) c) I.kIn J hk (fun z=>nomatch z) fun tk=>⟨.bl b,H,I.tok _,rfl,q⟩
theorem unname_ok {M:Model} {A:Around} {E:Value→Shared→Prop} {i:Nat} {n:Str} {pos:Pos} {Q:Unit→Shared→Prop} (I:Inv X pins σ H s) (hN:X.N.Nodup) (hi:X.N[i]? = some n) (hk:X.env.kindOf n=some .local) (h:∀s',Inv X pins (σ.set i none) H s'→Q () s') :
  wpAny M A (do bindName X.env n .none;unbindBehindTheSuite X.env n pos) Q E s:=by
 obtain ⟨m,hn,hl⟩:=id I.loc
 obtain ⟨oL,_,_,hoL,_⟩:=id hn
 refine wpAny_nameGoes_keeps hk hn (by rw [I.ok.kind];rfl) fun h' v hn' hs=>h _ ?_
 have old:∀b o,X.s₀.heap.get? b=some o→b≠X.env.locals:=fun b o e=>Nat.ne_of_lt (Nat.lt_of_lt_of_le (Heap.lt_size e) I.ok.above)
 refine ⟨I.ok,I.os,I.bare,⟨fun b o e n hb hx=>?_,fun b o e n hb hx=>?_,I.base.free,fun b o e hx=>?_,I.base.tups,I.base.frzs,I.base.tbls⟩,⟨_,hn',fun j y v' e1 e2 e3=>?_⟩,fun y c e=>?_,I.free,I.freeC,fun p hp=>?_,fun b ob e=>?_,by rw [List.length_set];exact I.len⟩
 ·rw [hs.2 b (old b o e)];exact I.base.keep b o e n hb hx
 ·obtain ⟨sl,q⟩:=I.base.slot b o e n hb hx
  exact ⟨sl,by rw [hs.2 b (old b o e)];exact q⟩
 ·obtain ⟨o',q⟩:=I.base.there b o e hx
  exact ⟨o',by rw [hs.2 b (old b o e)];exact q⟩
 ·by_cases hj:j=i
  ·subst hj
   rw [List.getElem?_set] at e2
   simp at e2
  ·rw [List.getElem?_set_ne (Ne.symm hj)] at e2
   obtain ⟨u',r',q⟩:=hl j y v' e1 e2 e3
   refine ⟨u',r',?_⟩
   rcases q with ⟨k,e⟩ | ⟨k,c,e,z⟩
   ·have ny:y≠n:=fun e=>hj (nodup_ix hN e1 (by rw [e];exact hi))
    exact .inl ⟨k,by simp [ny,e]⟩
   ·exact .inr ⟨k,c,e,z.sameBut hs (I.cne y c e)⟩
 ·obtain ⟨w',z⟩:=I.cell y c e
  exact ⟨w',z.sameBut hs (I.cne y c e)⟩
 ·obtain ⟨q1,q2,q3,q4,q5⟩:=I.pin p hp
  exact ⟨by rw [hs.2 p.1 q3];exact q1,q2,q3,q4,q5⟩
 ·refine (I.hok b ob e).stay (fun c w' hc q=>?_) (fun _ q=>q) fun _ _ q=>q
  rw [hs.2 c ?_];exact q
  rintro rfl
  rcases hc with rfl | hc
  ·rw [I.free] at e;cases e
  ·rw [I.free] at hc;cases hc
end
abbrev Cx.inX (X:Cx) (x:Addr):Cx:={ X with A:=X.A.mark (some (.ref x)),calm:=false,xe:=fun _ _=>False }
theorem Inv.inX {X:Cx} {pins:List (Addr×Obj)} {σ:St} {H:Hp} {s:Shared} (I:Inv X pins σ H s) (x:Addr) (hf:(X.A.mark (some (.ref x))).frames=some X.stack):Inv (X.inX x) pins σ H s:=
 ⟨⟨I.ok.mod,I.ok.kind,I.ok.glob,I.ok.blt,I.ok.above,I.ok.inj,I.ok.has,I.ok.cab,(fun z=>by cases z),hf,I.ok.stk,I.ok.exf,I.ok.bs,I.ok.bsz,I.ok.noex,I.ok.exfs,I.ok.funs,I.ok.frf⟩,I.os,I.bare,I.base,I.loc,I.cell,I.free,I.freeC,I.pin,I.hok,I.len⟩
theorem Inv.outX {X:Cx} {pins:List (Addr×Obj)} {σ:St} {H:Hp} {s:Shared} {x:Addr} (I:Inv (X.inX x) pins σ H s) (ok:X.Ok):Inv X pins σ H s:=
 ⟨ok,I.os,I.bare,I.base,I.loc,I.cell,I.free,I.freeC,I.pin,I.hok,I.len⟩
theorem obj_thr {P:Program} {w:World} {H:Hp} {h:Heap} {a:Addr} {o:HO} (x:ObjOk P w H h a o):∃ob,h.get? a=some ob:=by
 cases o with
 | lst xs=>obtain ⟨_,_,_,_,e⟩:=x;exact ⟨_,e⟩
 | tup xs=>obtain ⟨_,_,_,ob,e,_⟩:=x;exact ⟨_,e⟩
 | dK kvs=>obtain ⟨_,_,_,_,o,_,_,e,_⟩:=x;exact ⟨_,e⟩
 | dT kvs=>obtain ⟨_,_,_,_,o,_,_,e,_⟩:=x;exact ⟨_,e⟩
 | set S n=>obtain ⟨o,_,_,_,e,_⟩:=x;exact ⟨_,e⟩
 | ins C dx fs=>obtain ⟨_,_,_,e,_⟩:=x;exact ⟨_,e⟩
 | own y=>exact x
 | xd fs=>obtain ⟨_,⟨_,_,_,e,_⟩,_⟩:=x;exact ⟨_,e⟩
 | rng lo hi=>obtain ⟨_,_,_,e⟩:=x;exact ⟨_,e⟩
 | frz ob u=>obtain ⟨e,_⟩:=x;exact ⟨_,e⟩
 | tbl ps=>exact ⟨_,x⟩
 | met f y=>exact ⟨_,x⟩
 | ext φ=>exact x.2.1
def joinH (H H':Hp):Hp:=fun b=>match H b with
 | some o=>some o
 | none=>H' b
theorem joinH_ok {P:Program} {w:World} {fs:List Addr} {H H':Hp} {h h':Heap} (x:HOk P w H h) (u:Un fs [] (fun _=>none) H' h h') (y:HOk P w H' h') (hf:∀b∈fs,H b=none) :
  Un fs [] H (joinH H H') h h'∧HOk P w (joinH H H') h'∧(∀b o,H b=some o→joinH H H' b=some o)∧(∀b o,H' b=some o→joinH H H' b=some o):=by
 have j1:∀b o,H b=some o→joinH H H' b=some o:=fun b o e=>by unfold joinH;rw [e]
 have kp:∀b o,H b=some o→∀ob,h.get? b=some ob→h'.get? b=some ob:=fun b o e ob q=>u.keep b ob q rfl (fun z=>by rw [hf b z] at e;cases e) (by simp)
 have dj:∀b o,H' b=some o→H b=none:=fun b o e=>by
  cases q:H b with
  | none=>rfl
  | some o'=>
   have lt:=x.lt q
   have:H' b=none:=by
    cases g:h.get? b with
    | some ob=>exact u.free b ob g rfl (by simp)
    | none=>
     have:=(x b o' q)
     exfalso
     obtain ⟨ob,z⟩:=obj_thr this
     rw [g] at z;cases z
   rw [this] at e;cases e
 have j2:∀b o,H' b=some o→joinH H H' b=some o:=fun b o e=>by unfold joinH;rw [dj b o e];exact e
 refine ⟨⟨fun b o q n nf _=>u.keep b o q rfl nf (by simp),fun b o q n mf _=>u.slot b o q rfl mf (by simp),fun b o q n _=>by unfold joinH;rw [n];exact u.free b o q rfl (by simp),fun b o q _=>u.there b o q (by simp),fun b xs e=>j1 b _ e,fun b o xs e=>j1 b _ e,fun b ps e=>⟨#[],by rw [j1 b _ e];simp⟩⟩,fun b o e=>?_,j1,j2⟩
 unfold joinH at e
 cases q:H b with
 | some o'=>
  rw [q] at e;cases e
  refine (x b _ q).stay (fun c v hc g=>?_) (fun c g=>j1 c _ g) fun c xs g=>j1 c _ g
  rcases hc with rfl | hc
  ·exact kp c _ q v g
  ·exact kp c _ hc v g
 | none=>
  rw [q] at e
  exact (y b _ e).stay (fun c v _ g=>g) (fun c g=>j2 c _ g) fun c xs g=>j2 c _ g
def strsR (E:En) (rs:List R):Option (List Str):=(mkV E rs).bind strsOf
theorem mkV_strs {K:PySem.W.Frag} {B:Addr→Prop} {H:Hp} {S:St} {E:En} (re:RE K B H S E):∀{rs:List R} {vs:List V} {ts:List T} {ss:List Str},RRs K B H S E rs vs→mkV E rs=some ts→strsOf ts=some ss→vs=ss.map V.str
 | [],_,_,_,h,e,e2=>by cases e;cases e2;exact h
 | r::rs,_,ts,ss,⟨v,ws,e1,h1,h2⟩,e,e2=>by
  cases q1:vl E r with
  | none=>simp only [mkV,q1] at e;cases e
  | some t=>
   cases q2:mkV E rs with
   | none=>simp only [mkV,q1,q2] at e;cases e
   | some us=>
    simp only [mkV,q1,q2] at e;cases e
    cases t with
    | str x=>
     cases q3:strsOf us with
     | none=>rw [strsOf,q3] at e2;cases e2
     | some m=>
      rw [strsOf,q3] at e2;cases e2
      rw [e1,re.str h1 q1,mkV_strs re h2 q2 q3];rfl
    | non=>cases e2
    | bl _=>cases e2
    | int _=>cases e2
    | tup _=>cases e2
    | lst _=>cases e2
theorem RE.setNN {K:PySem.W.Frag} {B:Addr→Prop} {H:Hp} {S:St} {E:En} (re:RE K B H S E) {i:Nat}:RE K B H (S.set i none) (E.set i none)∧∀b,Ow B (S.set i none) (E.set i none) b→Ow B S E b:=by
 have gE:∀{j:Nat} {u:U},(E.set i none)[j]? = some (some u)→i≠j∧E[j]? = some (some u):=fun {j u} h=>by
  by_cases c:i=j
  ·subst c
   rw [List.getElem?_set] at h
   simp at h
  ·rw [List.getElem?_set_ne c] at h;exact ⟨c,h⟩
 refine re.map (by simp [re.len]) (fun j t h=>?_) id (fun j k xs h=>?_) (fun _ _ _ _ _ _ _ _ h=>h)
 ·obtain ⟨v,h1,h2⟩:=re.pure j t (gE h).2
  exact ⟨v,by rw [List.getElem?_set_ne (gE h).1];exact h1,h2⟩
 ·obtain ⟨a,vs,h1,_⟩:=re.own j k xs (gE h).2
  exact ⟨(gE h).2,a,h1,by rw [List.getElem?_set_ne (gE h).1];exact h1⟩
section
variable {X:Cx} {K:PySem.W.Frag} {C D:Addr} {S:SpR} {fn y en cn:Str} {ps:List Str} {e:Expr} {es:List Expr} {b0:Stmt} {bs:List Stmt} {yp fp cp ap kp hpos pos:Pos} {i j ie n k m:Nat} {Fr:FA} {th:Addr→TS}
end
end L2
set_option Elab.async false
set_option linter.all false
set_option maxRecDepth 100000
set_option maxHeartbeats 4000000
namespace L2
open PySem PySem.Spec PySem.NumText PyProof.Rows
abbrev sg (x:Str):List Nat:=x.cps.toList
theorem sg_ext {x y:Str} (h:sg x=sg y):x=y:=by
 obtain ⟨⟨a⟩⟩:=x
 obtain ⟨⟨b⟩⟩:=y
 simp only [sg] at h
 rw [h]
theorem sg_cat (x y:Str):sg (x++y)=sg x++sg y:=by show (x.cps++y.cps).toList=_;simp
theorem sg_len (x:Str):(sg x).length=x.length:=by simp [sg,Str.length]
theorem sg_mk (l:List Nat):sg ⟨l.toArray⟩=l:=by simp [sg]
def dig (n:Nat):List Nat:=(Nat.toDigits 10 n).map Char.toNat
theorem digc:∀d:Nat,d<10→(Nat.digitChar d).toNat=48+d:=by decide
theorem dig_lt {n:Nat} (h:n<10):dig n=[48+n]:=by
 unfold dig;rw [Nat.toDigits_of_lt_base h,List.map_singleton,digc n h]
theorem dig_ge {n:Nat} (h:10≤n):dig n=dig (n/10)++[48+n%10]:=by
 have hm:n%10<10:=Nat.mod_lt n (by decide)
 have t:Nat.toDigits 10 (n/10)++Nat.toDigits 10 (n%10)=Nat.toDigits 10 (10*(n/10)+n%10):=Nat.toDigits_append_toDigits (by decide) (by omega) hm
 rw [Nat.div_add_mod] at t
 unfold dig
 rw [←t,List.map_append,Nat.toDigits_of_lt_base hm,List.map_singleton,digc _ hm]
theorem sg_num (n:Nat):sg (Str.ofString (toString ((n:Nat):Int)))=dig n:=PySem.W.KIN.signs_num n
theorem dig_val (n:Nat):digitsVal (dig n)=n:=PySem.W.KIN.val_back n
theorem dig_all (n:Nat):AllDigits (dig n):=by
 intro c hc
 unfold dig at hc
 obtain ⟨ch,hch,e⟩:=List.mem_map.mp hc
 rw [←e]
 exact digit_range (Nat.isDigit_of_mem_toDigits (by decide) (by decide) hch)
theorem dig_ne (n:Nat):dig n≠[]:=by
 unfold dig
 intro e
 have h:=toDigits_len_ge 10 n
 rw [List.map_eq_nil_iff.mp e] at h
 exact absurd h (by decide)
def padD:Nat→Nat→List Nat
 | 0,_=>[]
 | k+1,r=>padD k (r/10)++[48+r%10]
theorem dig_split:∀(k m:Nat),0<m/10^k→dig m=dig (m/10^k)++padD k (m%10^k)
 | 0,m,h=>by simp [padD]
 | k+1,m,h=>by
  have e:m/10^(k+1)=m/10/10^k:=by rw [Nat.div_div_eq_div_mul,Nat.pow_succ,Nat.mul_comm]
  have g:10≤m:=by
   rcases Nat.lt_or_ge m 10 with c | c
   ·rw [e,Nat.div_eq_of_lt c] at h;simp at h
   ·exact c
  rw [dig_ge g,dig_split k (m/10) (by rw [←e];exact h),←e,List.append_assoc]
  congr 1
  unfold padD
  have e1:m%10^(k+1)/10=m/10%10^k:=by
   rw [Nat.pow_succ,Nat.mul_comm,Nat.mod_mul_right_div_self]
  have e2:m%10^(k+1)%10=m%10:=Nat.mod_mod_of_dvd m ⟨10^k,by rw [Nat.pow_succ,Nat.mul_comm]⟩
  rw [e1,e2]
  cases k<;>rfl
theorem dig_len {k r:Nat} (hk:0<k) (h:r<10^k):(dig r).length≤k:=by
 induction k generalizing r with
 | zero=>omega
 | succ k ih=>
  rcases Nat.lt_or_ge r 10 with c | c
  ·rw [dig_lt c];simp
  ·rw [dig_ge c,List.length_append,List.length_singleton]
   have k0:0<k:=by
    rcases Nat.eq_zero_or_pos k with z | z
    ·subst z;simp at h;omega
    ·exact z
   have:=ih (r:=r/10) k0 (by rw [Nat.pow_succ] at h;omega)
   omega
theorem padD_dig:∀{k r:Nat},0<k→r<10^k→padD k r=List.replicate (k-(dig r).length) 48++dig r:=by
 intro k
 induction k with
 | zero=>intro r h;omega
 | succ k ih=>
  intro r _ h
  unfold padD
  rcases Nat.eq_zero_or_pos k with z | z
  ·subst z
   have hr:r<10:=by simpa using h
   rw [dig_lt hr]
   simp [padD]
   omega
  ·have h':r/10<10^k:=by rw [Nat.pow_succ] at h;omega
   rw [ih z h']
   rcases Nat.lt_or_ge r 10 with c | c
   ·have e:r/10=0:=by omega
    rw [e,dig_lt c,dig_lt (show 0<10 by decide)]
    have e2:List.replicate (k+1-[48+r].length) 48=List.replicate (k-1) 48++[48]:=by
     have:k+1-[48+r].length=(k-1)+1:=by simp;omega
     rw [this,List.replicate_succ']
    rw [e2]
    simp
    omega
   ·rw [dig_ge c,List.append_assoc]
    congr 2
    simp only [List.length_append,List.length_singleton]
    omega
theorem zf_ok {x:Str} (hd:AllDigits (sg x)) {k:Nat} (hk:x.length≤k):sg (Txt.zfill x (k:Int))=List.replicate (k-x.length) 48++sg x:=by
 unfold Txt.zfill
 split
 ·rename_i h
  have:k-x.length=0:=by omega
  rw [this];rfl
 ·rename_i h
  have e:((k:Int).toNat-x.length)=k-x.length:=by omega
  rw [e]
  have pe:sg (Builtin.Str.padded x (k-x.length) 0 48)=List.replicate (k-x.length) 48++sg x:=by
   unfold Builtin.Str.padded;simp [sg]
  unfold zfilled
  split
  ·rename_i q
   have m:(43:Nat)∈sg x:=by
    have:=List.mem_of_getElem? (show (sg x)[0]? = some 43 by simpa [sg] using q)
    exact this
   have:=hd 43 m
   omega
  ·rename_i q
   have m:(45:Nat)∈sg x:=by
    have:=List.mem_of_getElem? (show (sg x)[0]? = some 45 by simpa [sg] using q)
    exact this
   have:=hd 45 m
   omega
  ·exact pe
def isD (c:Nat):Bool:=decide (48≤c)&&decide (c≤57)
def plainB (cs:List Nat):Bool:=!cs.isEmpty&&decide (cs.length≤60)&&cs.all isD&&(cs==[48]||!(cs.head?==some 48))
theorem isD_iff {c:Nat}:isD c=true↔48≤c∧c≤57:=by simp [isD]
theorem allD {cs:List Nat}:cs.all isD=true↔AllDigits cs:=by
 rw [List.all_eq_true]
 exact ⟨fun h c hc=>isD_iff.mp (h c hc),fun h c hc=>isD_iff.mpr (h c hc)⟩
theorem dig_back:∀(r:List Nat),AllDigits r.reverse→r≠[]→r.reverse.head?≠some 48→0<digitsVal r.reverse∧dig (digitsVal r.reverse)=r.reverse
 | [],_,h,_=>absurd rfl h
 | [c],hd,_,hh=>by
  have hc:=hd c (by simp)
  have nc:c≠48:=fun z=>hh (by simp [z])
  have e:digitsVal [c]=c-48:=by show 0*10+(c-48)=c-48;omega
  simp only [List.reverse_singleton]
  rw [e,dig_lt (by omega)]
  refine ⟨by omega,?_⟩
  congr 1;omega
 | c::d::r,hd,_,hh=>by
  have e:(c::d::r).reverse=(d::r).reverse++[c]:=by simp
  rw [e] at hd hh ⊢
  have ne:(d::r).reverse≠[]:=by simp
  obtain ⟨h1,h2⟩:=dig_back (d::r) (fun x hx=>hd x (List.mem_append_left _ hx)) (by simp) (by
   cases q:(d::r).reverse with
   | nil=>exact absurd q ne
   | cons a l=>rw [q] at hh;simpa using hh)
  have hc:=hd c (by simp)
  rw [digitsVal_snoc]
  refine ⟨by omega,?_⟩
  rw [dig_ge (by omega)]
  have q1:(digitsVal (d::r).reverse*10+(c-48))/10=digitsVal (d::r).reverse:=by omega
  have q2:(digitsVal (d::r).reverse*10+(c-48))%10=c-48:=by omega
  rw [q1,q2,h2]
  congr 2;omega
theorem plain_dig {cs:List Nat} (h:plainB cs=true):dig (digitsVal cs)=cs:=by
 simp only [plainB,Bool.and_eq_true,Bool.or_eq_true,Bool.not_eq_true',beq_iff_eq,decide_eq_true_eq] at h
 obtain ⟨⟨⟨h1,h2⟩,h3⟩,h4⟩:=h
 rcases h4 with h4 | h4
 ·subst h4;decide
 ·have:=dig_back cs.reverse (by rw [List.reverse_reverse];exact allD.mp h3) (by intro z;rw [List.reverse_eq_nil_iff] at z;rw [z] at h1;cases h1) (by rw [List.reverse_reverse];simpa using h4)
  rw [List.reverse_reverse] at this
  exact this.2
theorem plain_len {cs:List Nat} (h:plainB cs=true):cs.length≤60∧cs≠[]∧AllDigits cs:=by
 simp only [plainB,Bool.and_eq_true,Bool.or_eq_true,Bool.not_eq_true',beq_iff_eq,decide_eq_true_eq] at h
 obtain ⟨⟨⟨h1,h2⟩,h3⟩,h4⟩:=h
 exact ⟨h2,(by intro z;rw [z] at h1;cases h1),allD.mp h3⟩
theorem val_lt:∀(r:List Nat),AllDigits r.reverse→digitsVal r.reverse<10^r.length
 | [],_=>by decide
 | c::r,hd=>by
  rw [List.reverse_cons] at hd ⊢
  have:=val_lt r fun x hx=>hd x (List.mem_append_left _ hx)
  have hc:=hd c (by simp)
  rw [digitsVal_snoc,List.length_cons,Nat.pow_succ]
  omega
theorem plain_lt {cs:List Nat} (h:plainB cs=true):digitsVal cs<10^60:=by
 obtain ⟨h1,_,h3⟩:=plain_len h
 have:=val_lt cs.reverse (by rw [List.reverse_reverse];exact h3)
 rw [List.reverse_reverse,List.length_reverse] at this
 exact Nat.lt_of_lt_of_le this (Nat.pow_le_pow_right (by decide) h1)
def numText (n:Int):List Nat:=(if n<0 then [45] else [])++dig n.natAbs
def fracText (n d:Int):List Nat:=if d=1 then numText n else numText n++47::numText d
def sgn (h:Bool) (n:Nat):Int:=if h then -(n:Int) else n
def dOf:Option (List Nat)→Int
 | none=>1
 | some b=>(digitsVal b:Int)
def tailOf:Option (List Nat)→List Nat
 | none=>[]
 | some b=>47::b
def core (h:Bool) (p:List Nat) (q:Option (List Nat)):Option (Int×Int):=
 if plainB p=false then none else match q with
 | none=>if h=true∧digitsVal p=0 then none else some (sgn h (digitsVal p),1)
 | some b=>if plainB b=false∨digitsVal b<2∨Nat.gcd (digitsVal p) (digitsVal b)≠1 then none else some (sgn h (digitsVal p),(digitsVal b:Int))
def hnd (cs:List Nat):Bool:=cs.head?==some 45
def bdy (cs:List Nat):List Nat:=if hnd cs then cs.drop 1 else cs
def fstP (b:List Nat):List Nat:=b.takeWhile fun c=>!(c==47)
def sndP (b:List Nat):Option (List Nat):=if 47∈b then some (b.drop ((fstP b).length+1)) else none
def fracIn (cs:List Nat):Option (Int×Int):=core (hnd cs) (fstP (bdy cs)) (sndP (bdy cs))
theorem bdy_eq (cs:List Nat):cs=(if hnd cs then [45] else [])++bdy cs:=by
 unfold bdy hnd
 cases cs with
 | nil=>rfl
 | cons c r=>
  by_cases h:c=45
  ·subst h;simp
  ·simp [h]
theorem tw_free:∀{b:List Nat},47∉b→b.takeWhile (fun c=>!(c==47))=b
 | [],_=>rfl
 | c::r,h=>by
  have hc:c≠47:=fun z=>h (by simp [z])
  rw [List.takeWhile_cons,if_pos (by simpa using hc),tw_free fun z=>h (List.mem_cons_of_mem _ z)]
theorem dec_none {b:List Nat} (h:47∉b):fstP b=b∧sndP b=none:=⟨tw_free h,by unfold sndP;rw [if_neg h]⟩
theorem dec_some {a b:List Nat} (h:47∉a):fstP (a++47::b)=a∧sndP (a++47::b)=some b:=by
 have e:fstP (a++47::b)=a:=by
  unfold fstP
  induction a with
  | nil=>simp
  | cons c r ih=>
   have hc:c≠47:=fun z=>h (by simp [z])
   rw [List.cons_append,List.takeWhile_cons,if_pos (by simpa using hc),ih fun z=>h (List.mem_cons_of_mem _ z)]
 refine ⟨e,?_⟩
 unfold sndP
 rw [if_pos (by simp),e]
 simp [List.drop_append]
theorem dec_ex (b:List Nat):47∉fstP b∧b=fstP b++tailOf (sndP b):=by
 by_cases h:47∈b
 ·obtain ⟨a,c,rfl,ha⟩:=List.eq_append_cons_of_mem h
  obtain ⟨e1,e2⟩:=dec_some (b:=c) ha
  rw [e1,e2]
  exact ⟨ha,rfl⟩
 ·obtain ⟨e1,e2⟩:=dec_none h
  rw [e1,e2]
  exact ⟨h,by simp [tailOf]⟩
theorem num_free (n:Int):47∉numText n:=by
 unfold numText
 intro h
 rcases List.mem_append.mp h with h | h
 ·split at h<;>simp at h
 ·have:=dig_all n.natAbs 47 h
  omega
theorem num_sgn {h:Bool} {p:List Nat} (pp:plainB p=true):numText (sgn h (digitsVal p))=if h=true∧digitsVal p=0 then p else (if h then [45] else [])++p:=by
 have hp:=plain_dig pp
 unfold numText sgn
 cases h with
 | false=>
  simp only [Bool.false_eq_true,if_false,false_and]
  rw [if_neg (by omega),Int.natAbs_natCast,hp]
 | true=>
  simp only [if_true,true_and]
  rw [Int.natAbs_neg,Int.natAbs_natCast,hp]
  by_cases z:digitsVal p=0
  ·rw [if_pos z,z];rfl
  ·rw [if_neg z,if_pos (by omega)]
theorem coreN {h:Bool} {p:List Nat} (pp:plainB p=true):core h p none=if h=true∧digitsVal p=0 then none else some (sgn h (digitsVal p),1):=by unfold core;rw [if_neg (by rw [pp];decide)]
theorem coreS {h:Bool} {p b:List Nat} (pp:plainB p=true):core h p (some b)=if plainB b=false∨digitsVal b<2∨Nat.gcd (digitsVal p) (digitsVal b)≠1 then none else some (sgn h (digitsVal p),(digitsVal b:Int)):=by unfold core;rw [if_neg (by rw [pp];decide)]
theorem sgn_abs (h:Bool) (n:Nat):(sgn h n).natAbs=n:=by unfold sgn;split<;>omega
def Back (h:Bool) (p cs:List Nat) (q:Option (List Nat)):Prop:=(1≤dOf q∧Nat.gcd (sgn h (digitsVal p)).natAbs (dOf q).natAbs=1)∧fracText (sgn h (digitsVal p)) (dOf q)=cs
theorem core_prog {h:Bool} {p cs:List Nat} {q:Option (List Nat)} (hc:cs=(if h then [45] else [])++(p++tailOf q)) (hp:47∉p) (pp:plainB p=true) (pq:∀b,q=some b→plainB b=true) :
  (Back h p cs q→core h p q=some (sgn h (digitsVal p),dOf q))∧(¬Back h p cs q→core h p q=none):=by
 unfold Back
 rw [sgn_abs]
 cases q with
 | none=>
  rw [coreN pp]
  have hc':cs=(if h then [45] else [])++p:=by simpa [tailOf] using hc
  have ft:fracText (sgn h (digitsVal p)) (dOf none)=if h=true∧digitsVal p=0 then p else (if h then [45] else [])++p:=by
   show fracText _ 1=_
   unfold fracText;rw [if_pos rfl,num_sgn pp]
  rw [ft]
  by_cases z:h=true∧digitsVal p=0
  ·rw [if_pos z,if_pos z]
   refine ⟨fun e=>?_,fun _=>rfl⟩
   have e:=e.2
   rw [hc',z.1] at e
   have:=congrArg List.length e
   simp at this
  ·rw [if_neg z,if_neg z]
   refine ⟨fun _=>rfl,fun e=>absurd ⟨⟨by decide,?_⟩,hc'.symm⟩ e⟩
   show Nat.gcd _ 1=1
   simp
 | some b=>
  have pb:=pq b rfl
  rw [coreS pp]
  have hc':cs=(if h then [45] else [])++(p++47::b):=hc
  have dd:dOf (some b)=(digitsVal b:Int):=rfl
  rw [dd,Int.natAbs_natCast]
  by_cases c:plainB b=false∨digitsVal b<2∨Nat.gcd (digitsVal p) (digitsVal b)≠1
  ·rw [if_pos c]
   refine ⟨fun e=>?_,fun _=>rfl⟩
   obtain ⟨⟨e1,e2⟩,e3⟩:=e
   exfalso
   rcases c with c | c | c
   ·rw [pb] at c;cases c
   ·have ft:fracText (sgn h (digitsVal p)) (digitsVal b:Int)=numText (sgn h (digitsVal p)):=by unfold fracText;rw [if_pos (by omega)]
    rw [ft] at e3
    exact num_free _ (by rw [e3,hc'];simp)
   ·exact c e2
  ·rw [if_neg c]
   have c1:2≤digitsVal b:=by
    rcases Nat.lt_or_ge (digitsVal b) 2 with z | z
    ·exact absurd (.inr (.inl z)) c
    ·exact z
   have c2:Nat.gcd (digitsVal p) (digitsVal b)=1:=by
    by_cases z:Nat.gcd (digitsVal p) (digitsVal b)=1
    ·exact z
    ·exact absurd (.inr (.inr z)) c
   refine ⟨fun _=>rfl,fun e=>absurd ⟨⟨by omega,c2⟩,?_⟩ e⟩
   have nb:numText ((digitsVal b:Nat):Int)=b:=by
    unfold numText
    rw [if_neg (by omega),Int.natAbs_natCast,plain_dig pb];rfl
   unfold fracText
   rw [if_neg (by omega),num_sgn pp,nb,if_neg,hc',List.append_assoc]
   rintro ⟨_,z⟩
   rw [z,Nat.gcd_zero_left] at c2
   omega
theorem fracIn_text {cs:List Nat} {n d:Int} (h:fracIn cs=some (n,d)):fracText n d=cs∧1≤d∧n.natAbs<10^60∧d.natAbs<10^60:=by
 unfold fracIn at h
 obtain ⟨d1,d2⟩:=dec_ex (bdy cs)
 have e0:=bdy_eq cs
 rw [d2] at e0
 have pp:plainB (fstP (bdy cs))=true:=by
  cases q:plainB (fstP (bdy cs)) with
  | true=>rfl
  | false=>unfold core at h;rw [if_pos q] at h;cases h
 have pq:∀b,sndP (bdy cs)=some b→plainB b=true:=fun b hb=>by
  cases q:plainB b with
  | true=>rfl
  | false=>
   unfold core at h
   rw [if_neg (by rw [pp];decide),hb] at h
   simp only at h
   rw [if_pos (.inl q)] at h;cases h
 obtain ⟨k1,k2⟩:=core_prog e0 d1 pp pq
 by_cases c:Back (hnd cs) (fstP (bdy cs)) cs (sndP (bdy cs))
 ·rw [k1 c] at h
  cases h
  refine ⟨c.2,c.1.1,by rw [sgn_abs];exact plain_lt pp,?_⟩
  cases q:sndP (bdy cs) with
  | none=>show (1:Int).natAbs<10^60;decide
  | some b=>show ((digitsVal b:Nat):Int).natAbs<10^60;rw [Int.natAbs_natCast];exact plain_lt (pq b q)
 ·rw [k2 c] at h;cases h
end L2
set_option Elab.async false
set_option linter.all false
set_option maxRecDepth 100000
set_option maxHeartbeats 4000000
namespace L2
open PySem PySem.Spec PySem.NumText PyProof.Rows
theorem lit_minus:(Str.ofString "-")=⟨#[45]⟩:=by decide
theorem lit_slash:(Str.ofString "/")=⟨#[47]⟩:=by decide
theorem lit_0:(Str.ofString "0")=⟨#[48]⟩:=by decide
theorem lit_e:(Str.ofString "")=⟨#[]⟩:=by decide
theorem sub1 (x:Str) (c:Nat):Builtin.Str.subAt x ⟨#[c]⟩ 0=((sg x).head?==some c):=by
 have h:=StrLaws.subAt_one x c 0
 rw [show x.cps.toList[0]? = (sg x).head? from (by show (sg x)[0]? = _;cases sg x<;>rfl)] at h
 have e:(0+(⟨#[c]⟩:Str).length≤x.length∧Builtin.Str.subAt x ⟨#[c]⟩ 0=true)↔(sg x).head? = some c:=h
 cases q:((sg x).head?==some c) with
 | true=>exact (e.mpr (by simpa using q)).2
 | false=>
  cases z:Builtin.Str.subAt x ⟨#[c]⟩ 0 with
  | false=>rfl
  | true=>
   exfalso
   have:0+(⟨#[c]⟩:Str).length≤x.length:=by
    unfold Builtin.Str.subAt at z
    have z2:x.cps.extract 0 (⟨#[c]⟩:Str).length = #[c]:=by simpa using z
    have z3:=congrArg Array.size z2
    change _=1 at z3
    have z4:(⟨#[c]⟩:Str).length=1:=rfl
    rw [Array.size_extract] at z3
    show 0+1≤x.cps.size
    rw [z4] at z3
    omega
   have:=e.mp ⟨this,z⟩
   rw [this] at q
   simp at q
theorem starts1 (x:Str) (c:Nat):Txt.startswith x ⟨#[c]⟩=((sg x).head?==some c):=by
 unfold Txt.startswith
 rw [sub1]
 cases q:((sg x).head?==some c) with
 | false=>simp
 | true=>
  have:(sg x).head? = some c:=by simpa using q
  have l:1≤x.length:=by
   rw [←sg_len]
   cases h:sg x with
   | nil=>rw [h] at this;cases this
   | cons a r=>simp
  simp
  show 1≤x.length
  exact l
theorem sg_sub (x:Str) (i j:Nat):sg (Builtin.Str.strSub x i j)=((sg x).take j).drop i:=by
 show (x.cps.extract i j).toList=_
 rw [Array.toList_extract,List.extract_eq_drop_take,List.take_drop]
 rcases Nat.le_total i j with h | h
 ·rw [Nat.add_sub_cancel' h]
 ·have e:i+(j-i)=i:=by omega
  rw [e,List.drop_eq_nil_of_le (by rw [List.length_take];omega),List.drop_eq_nil_of_le (by rw [List.length_take];omega)]
theorem unpre1 (x:Str):sg (Txt.removeprefix x ⟨#[45]⟩)=bdy (sg x):=by
 unfold Txt.removeprefix bdy hnd
 rw [sub1]
 cases q:((sg x).head?==some 45) with
 | false=>rfl
 | true=>
  simp only [if_true]
  unfold Txt.affix
  have l:1≤x.length:=by
   rw [←sg_len]
   cases h:sg x with
   | nil=>rw [h] at q;cases q
   | cons a r=>simp
  have e1:(⟨#[45]⟩:Str).length=1:=rfl
  simp only [e1]
  rw [if_neg (by simp;omega),sg_sub,←sg_len,List.take_length]
theorem asc_dig:∀c:Fin 128,Unicode.isDigit c.val=isD c.val:=by decide +kernel
theorem plain_is (x:Str):(Txt.isascii x=true∧Txt.isdigit x=true∧x.length≤60∧((sg x==[48])=true∨((sg x).head?==some 48)=false))↔plainB (sg x)=true:=by
 unfold plainB
 simp only [Bool.and_eq_true,Bool.or_eq_true,Bool.not_eq_true',decide_eq_true_eq,sg_len]
 have e1:Txt.isascii x=true↔∀c∈sg x,c<128:=by
  unfold Txt.isascii
  rw [←Array.all_toList,List.all_eq_true]
  simp
 have e2:Txt.isdigit x=true↔(0<x.length∧∀c∈sg x,Unicode.isDigit c=true):=by
  unfold Txt.isdigit
  rw [←Array.all_toList,Bool.and_eq_true,List.all_eq_true]
  simp
 rw [e1,e2]
 have e3:(∀c∈sg x,c<128)→((∀c∈sg x,Unicode.isDigit c=true)↔(sg x).all isD=true):=fun h=>by
  rw [List.all_eq_true]
  exact ⟨fun k c hc=>by rw [←asc_dig ⟨c,h c hc⟩];exact k c hc,fun k c hc=>by have:=asc_dig ⟨c,h c hc⟩;rw [this];exact k c hc⟩
 have e4:(sg x).isEmpty=false↔0<x.length:=by
  rw [←sg_len]
  cases sg x<;>simp
 rw [e4]
 constructor
 ·rintro ⟨h1,⟨h2,h3⟩,h4,h5⟩
  exact ⟨⟨⟨h2,h4⟩,(e3 h1).mp h3⟩,h5⟩
 ·rintro ⟨⟨⟨h2,h4⟩,h3⟩,h5⟩
  have h1:∀c∈sg x,c<128:=fun c hc=>by have:=(allD.mp h3) c hc;omega
  exact ⟨h1,⟨h2,(e3 h1).mpr h3⟩,h4,h5⟩
theorem part_is (x:Str):sg (Txt.partition x ⟨#[47]⟩).1=fstP (sg x)∧(Txt.partition x ⟨#[47]⟩).2.1=(if (sndP (sg x)).isSome then ⟨#[47]⟩ else ⟨#[]⟩)∧(∀b,sndP (sg x)=some b→sg (Txt.partition x ⟨#[47]⟩).2.2=b):=by
 rcases partition_whole x ⟨#[47]⟩ with ⟨e,hn⟩ | ⟨i,e,hi,hn⟩
 ·have nf:47∉sg x:=fun hm=>by
   obtain ⟨i,hi⟩:=(mem_iff_at x 47).mp hm
   exact hn i hi
  obtain ⟨e1,e2⟩:=dec_none nf
  rw [e,e1,e2]
  exact ⟨rfl,rfl,fun b hb=>by cases hb⟩
 ·have fr:47∉sg (Builtin.Str.strSub x 0 i):=StrLaws.part_free x 47 0 i (by have:=hi.1;omega) fun k _ hk=>hn k hk
  have sm:=StrLaws.partition_sum x ⟨#[47]⟩
  have es:sg x=sg (Builtin.Str.strSub x 0 i)++47::sg (Builtin.Str.strSub x (i+(⟨#[47]⟩:Str).length) x.length):=by
   rw [e] at sm
   have:=congrArg sg sm
   rw [sg_cat,sg_cat] at this
   rw [←this,List.append_assoc]
   rfl
  obtain ⟨e1,e2⟩:=dec_some (b:=sg (Builtin.Str.strSub x (i+(⟨#[47]⟩:Str).length) x.length)) fr
  rw [←es] at e1 e2
  rw [e,e1,e2]
  exact ⟨rfl,rfl,fun b hb=>by cases hb;rfl⟩
theorem split_ne (x y:Str):Txt.split x y≠[]:=by
 unfold Txt.split
 split
 ·simp
 ·split
  ·simp
  ·rw [StrLaws.partsBetween_eq]
   obtain ⟨p,r,e⟩:=StrLaws.partsFrom_ne x y.length 0 (Builtin.Str.occurrences x y 0 x.length (x.length+1))
   rw [e];simp
theorem int_plain {x:Str} (h:plainB (sg x)=true):PySem.intText? x=some ((digitsVal (sg x):Nat):Int):=by
 obtain ⟨h1,h2,h3⟩:=plain_len h
 exact intText_digits h3 h2 (by rw [sg_len] at h1;omega)
structure ConstI (mg:Str→Option Value) (x:Str) (i:Int):Prop where
 ex:∃t,mg x=some (.int i t)
theorem fe_globI {X:Cx} {K:PySem.W.Frag} {x:Str} {i:Int} {pos:Pos} (hg:Gl X x) (c:ConstI X.mg x i) (hd:(x==("__debug__":Str))=false:=by decide):QE X (.Name x pos) (simE K (fC (.int i))):=by
 obtain ⟨t,h⟩:=c.ex
 exact fe_c ⟨pe_glob (v:=.int i) hg h ⟨t,rfl⟩ hd⟩ fun _ _ _=>rfl
end L2
set_option Elab.async false
set_option linter.all false
set_option maxRecDepth 100000
set_option maxHeartbeats 4000000
namespace L2
open PySem PySem.Spec PyProof.Rows
section
variable {X:Cx} {K:PySem.W.Frag} {pos:Pos} {o e:Expr} {Fo:FE} {Fr:FA}
theorem RE.setVN {B:Addr→Prop} {H:Hp} {S:St} {E:En} {v:V} (re:RE K B H S E) {i:Nat}:RE K B H (S.set i (some v)) (E.set i none)∧∀b,Ow B (S.set i (some v)) (E.set i none) b→Ow B S E b:=by
 have gE:∀{j:Nat} {u:U},(E.set i none)[j]? = some (some u)→i≠j∧E[j]? = some (some u):=fun {j u} h=>by
  by_cases c:i=j
  ·subst c
   rw [List.getElem?_set] at h
   simp at h
  ·rw [List.getElem?_set_ne c] at h;exact ⟨c,h⟩
 refine re.map (by simp [re.len]) (fun j t h=>?_) id (fun j k xs h=>?_) (fun _ _ _ _ _ _ _ _ h=>h)
 ·obtain ⟨v,h1,h2⟩:=re.pure j t (gE h).2
  exact ⟨v,by rw [List.getElem?_set_ne (gE h).1];exact h1,h2⟩
 ·obtain ⟨a,vs,h1,_⟩:=re.own j k xs (gE h).2
  exact ⟨(gE h).2,a,h1,by rw [List.getElem?_set_ne (gE h).1];exact h1⟩
def sSetA (i:Nat) (Fa:FE):FS:=fun D E=>Fa E fun r E1=>match r with
 | .s j=>(match E1[j]? with
  | some (some (.o false xs))=>D.nx ((E1.take E.length).set i none)∨D.nx (((E1.set j (some (.p (.lst xs)))).take E.length).set i (some (.p (.lst xs))))
  | _=>False)
 | _=>False
theorem fs_setA {Fa:FE} {i:Nat} {x:Str} {pos':Pos} (hN:X.N.Nodup) (hi:X.N[i]? = some x) (hx:Loc X.env.scope x) (he:QE X e (simE K Fa)) (hs:swapsWith e (some (.Name x pos')) pos.line X.env=pure false:=by rfl)
  (hf:X.fn x=true∨X.env.scope.names.lookup x=some .local:=by first | exact .inl rfl | exact .inr rfl | assumption):QS X (.Assign [.Name x pos'] e pos) (simS K (sSetA i Fa)):=
 (qs_set hN hi hx he hs hf).le fun D σ H hl ⟨B,E,DT,re,hF,l⟩=>⟨B,σ,E,_,⟨[],by simp⟩,re,hF,fun r E' v H' S' q g re' rr=>by
  split at q
  ·rename_i j
   split at q
   ·rename_i xs hE
    rcases q with q | q
    ·obtain ⟨re2,ow2⟩:=re'.cut (E:=E) g.pre re.len
     obtain ⟨r1,ow⟩:=re2.setVN (i:=i) (v:=v)
     exact l.nx _ _ _ q ((g.kp.trans (Kp.less ow2)).trans (Kp.less ow)) r1
    ·obtain ⟨f1,f2,f3,f4⟩:=frzs_ok (us:=[j]) (E':=E'.set j (some (.p (.lst xs)))) re' (by simp [frzs,hE])
     rw [←re.len] at q
     have hj:j<E'.length:=(List.getElem?_eq_some_iff.mp hE).1
     obtain ⟨r1,ow⟩:=pick_ok (i:=i) (u:=.p (.lst xs)) (r:=.s j) f1 g.pre rr (by simp [pick,hj])
     exact l.nx _ _ _ q ((g.kp.trans (Kp.less f2)).trans (Kp.less ow)) r1
   ·exact q.elim
  ·exact q.elim⟩
def fPop (Fo:FE) (Fr:FA):FE:=fun E Q=>Fo E fun o E1=>o1 (ownOf E1 o) fun _=>Fr E1 fun rs E2=>match o with
 | .s j=>(match E2[j]? with
  | some (some (.o k xs))=>(match rs with
   | [r]=>i1 (vl E2 r) fun i=>0≤i∧xs.length≤1000∧o1 (xs[i.toNat]?) fun t=>Q (.p t) (E2.set j (some (.o k (xs.eraseIdx i.toNat))))
   | _=>False)
  | _=>False)
 | _=>False
theorem fe_pop {n:Nat} {ap:Pos} (eK:X.K=K) (ho:QE X o (simE K Fo)) (ha:QA X [e] (simA K n Fr)) (hbase:attributeBase o "pop" X.env (eval o X.env)=eval o X.env:=by rfl) (hline:(ap.endLine==pos.line)=true:=by rfl) (hs:isStar e=false:=by rfl) :
  QE X (.Call (.Attribute o "pop" ap) [e] [] pos) (simE K (fPop Fo Fr)):=
 QE.le (t:=tBM X.K "list" rPopAt (simE K Fo) (simA K n Fr)) ⟨pe_bm PySem.F.plainAttrs_list PySem.F.slot_list_pop PySem.F.type_list_pop mt_popAt ho.h ha.h hbase (by rw [star_ok hs];rfl) hline (star_ok hs) (star_any rfl)⟩ fun σ H Q hl h=>by
  subst eK
  obtain ⟨B,S,E,Q',⟨τ,hS⟩,re,hF,lk⟩:=h
  refine ⟨B,S,E,_,⟨τ,hS⟩,re,hF,fun oo E1 v H1 S1 q g1 re1 rx=>?_⟩
  obtain ⟨τ1,hS1⟩:=g1.pre
  obtain ⟨xs0,e0,q⟩:=o1.ex q
  obtain ⟨j,k,p,vs,rfl,hE,hSj,rfl,h2,h3⟩:=re1.ownOf rx e0
  refine ⟨.inl ⟨rfl,vs,SqL.of h2⟩,B,S1,E1,_,⟨τ++τ1,by rw [hS1,hS,List.append_assoc]⟩,re1,q,fun rs E2 us H2 S2 q2 g2 re2 rr hn=>?_⟩
  have hSj2:S2[j]? = some (some (.ref p)):=pre_get g2.pre hSj
  simp only at q2
  split at q2
  ·rename_i k2' xs hE2
   split at q2
   ·rename_i r
    obtain ⟨y,ws,rfl,k1,rfl⟩:=rr
    obtain ⟨i,e1,i0,hz,q3⟩:=q2.ex
    obtain ⟨t,ht,q3⟩:=o1.ex q3
    have ey:=re2.int k1 e1
    subst ey
    obtain ⟨p',vs2,z1,z2,z3,_⟩:=re2.own j k2' xs hE2
    rw [hSj2] at z1;cases z1
    have vl:=z3.length
    obtain ⟨g3,re3⟩:=re2.put (ys:=xs.eraseIdx i.toNat) (ws:=vs2.eraseIdx i.toNat) hE2 hSj2 (by rw [List.eraseIdx_eq_take_drop_succ,List.eraseIdx_eq_take_drop_succ];exact (z3.take _).append (z3.drop _))
    obtain ⟨v,hv,rp⟩:=z3.get ht
    have hil:=(List.getElem?_eq_some_iff.mp ht).1
    have sx:seqIndex? i vs2.length=some i.toNat:=by
     unfold seqIndex?
     have h0:¬i<0:=by omega
     have h1:i<(vs2.length:Int):=by omega
     simp [h0,h1]
     try omega
    exact ⟨p,vs2,i,i.toNat,v,rfl,rfl,z2,by omega,by omega,sx,hv,lk _ _ _ _ _ q3 ((g1.trans g2).trans g3) re3 (rp.step g3.kp)⟩
   ·exact q2.elim
  ·exact q2.elim
end
end L2
set_option Elab.async false
set_option linter.all false
set_option maxRecDepth 100000
set_option maxHeartbeats 4000000
namespace L2
open PySem PySem.Spec PyProof.Rows
def wbackM (t:Nat):List (Nat×Bool)→Nat→En→En→Option En
 | [],_,_,E=>some E
 | (_,false)::r,j,Ein,E=>wbackM t r (j+1) Ein E
 | (k,true)::r,j,Ein,E=>match E[k]?,Ein[t+j]? with
  | some (some (.o b _)),some (some (.o true ys))=>if noLs ys=true then wbackM t r (j+1) Ein (E.set k (some (.o b ys))) else none
  | _,_=>none
def fCompM (t:Nat) (cap:List (Nat×Bool)) (I:FI) (g:FG) (Fe:FE):FE:=fun E Q=>I E fun items us E1=>cap.all (fun k=>!(k.2&&us.contains k.1))=true∧
 compL g Fe items (capE t cap E1++[some (.o false [])]) fun Ein=>match Ein[t+cap.length]? with
  | some (some (.o false zs))=>noLs zs=true∧o1 (wbackM t cap 0 Ein E1) fun E2=>Q (.s E2.length) (E2++[some (.o false zs)])
  | _=>False
def simGM (t:Nat) (K:PySem.W.Frag) (g:FG):TG:=fun v σ H Q=>simG K g v σ H fun σ' H'=>(∀i,t≤i→σ'[i]? = σ[i]?)→Q σ' H'
theorem wbackM_get {t:Nat} {Ein:En} {cap:List (Nat×Bool)}:∀{r:List (Nat×Bool)} {n:Nat} {E E2:En},(r.map (·.1)).Nodup→(∀j k c,r[j]? = some (k,c)→cap[n+j]? = some (k,c))→wbackM t r n Ein E=some E2→
  E2.length=E.length∧∀(i:Nat) (u:U),E2[i]? = some (some u)→(∃(j:Nat) (b:Bool) (ys xs0:List T),r[j]? = some (i,true)∧E[i]? = some (some (.o b xs0))∧Ein[t+(n+j)]? = some (some (.o true ys))∧noLs ys=true∧u = .o b ys)∨(E[i]? = some (some u)∧∀(j:Nat) (b:Bool) (xs:List T),r[j]? = some (i,true)→E[i]?≠some (some (.o b xs)))
 | [],n,E,E2,_,_,h=>by cases h;exact ⟨rfl,fun i u h=>.inr ⟨h,fun j b xs z=>by simp at z⟩⟩
 | (k,false)::r,n,E,E2,nd,hc,h=>by
  obtain ⟨eL,eG⟩:=wbackM_get (cap:=cap) (r:=r) (n:=n+1) (List.nodup_cons.mp nd).2 (fun j k c q=>by have:=hc (j+1) k c (by simpa using q);rwa [show n+(j+1)=n+1+j by omega] at this) h
  refine ⟨eL,fun i u hu=>?_⟩
  rcases eG i u hu with ⟨j,b,ys,xs0,q1,q2,q3,q4,q5⟩ | ⟨q1,q2⟩
  ·exact .inl ⟨j+1,b,ys,xs0,by simpa using q1,q2,by rwa [show n+(j+1)=n+1+j by omega],q4,q5⟩
  ·refine .inr ⟨q1,fun j b xs z=>?_⟩
   cases j with
   | zero=>simp at z
   | succ j=>exact q2 j b xs (by simpa using z)
 | (k,true)::r,n,E,E2,nd,hc,h=>by
  rw [wbackM] at h
  split at h
  ·rename_i b xs0 ys hE hEi
   split at h
   ·rename_i hny
    obtain ⟨eL,eG⟩:=wbackM_get (cap:=cap) (r:=r) (n:=n+1) (List.nodup_cons.mp nd).2 (fun j k c q=>by have:=hc (j+1) k c (by simpa using q);rwa [show n+(j+1)=n+1+j by omega] at this) h
    have nk:∀j c,r[j]?≠some (k,c):=fun j c z=>(List.nodup_cons.mp nd).1 (List.mem_map.mpr ⟨(k,c),List.mem_of_getElem? z,rfl⟩)
    have hk:k<E.length:=(List.getElem?_eq_some_iff.mp hE).1
    refine ⟨by rw [eL,List.length_set],fun i u hu=>?_⟩
    by_cases c:i=k
    ·subst c
     rcases eG i u hu with ⟨j,b',ys',xs',q1,_⟩ | ⟨q1,q2⟩
     ·exact absurd q1 (nk j true)
     ·rw [List.getElem?_set_self hk] at q1
      cases q1
      exact .inl ⟨0,b,ys,xs0,rfl,hE,hEi,hny,rfl⟩
    ·have hne:(E.set k (some (.o b ys)))[i]? = E[i]?:=List.getElem?_set_ne (fun z=>c z.symm)
     rcases eG i u hu with ⟨j,b',ys',xs',q1,q2,q3,q4,q5⟩ | ⟨q1,q2⟩
     ·rw [hne] at q2
      exact .inl ⟨j+1,b',ys',xs',by simpa using q1,q2,by rwa [show n+(j+1)=n+1+j by omega],q4,q5⟩
     ·rw [hne] at q1
      refine .inr ⟨q1,fun j b' xs z=>?_⟩
      cases j with
      | zero=>simp at z;exact absurd z.symm c
      | succ j=>have:=q2 j b' xs (by simpa using z);rwa [hne] at this
   ·cases h
  ·cases h
section
variable {X:Cx} {K:PySem.W.Frag} {pos:Pos} {Fe:FE} {g:FG} {I:FI}
theorem comp_simM {scope:Scope} {N':List Str} {cap:List (Nat×Bool)} {t:Nat} (S:CompOk X N' scope t (cap.map (·.1))) (hnd:(cap.map (·.1)).Nodup) {σ:St} {H:Hp} {Q:VK} (hl:σ.length=X.N.length)
  (h:simE K (fCompM t cap I g Fe) σ H Q):tComp t (cap.map (·.1)) (simI K I) (simGM t K g) (simE K Fe) σ H Q:=by
 obtain ⟨B,S0,E,Q',hS,re,hF,lk⟩:=h
 refine ⟨B,S0,E,_,hS,re,hF,fun J items us E1 H1 S1 gd q g1 re1 ok husO hgd D hD=>?_⟩
 obtain ⟨hus,q⟩:=q
 obtain ⟨τ0,hS0⟩:=hS
 obtain ⟨τ1,hS1⟩:=g1.pre
 have hS1':∃τ,S1=σ++τ:=⟨τ0++τ1,by rw [hS1,hS0,List.append_assoc]⟩
 have atσ:∀{j k:Nat} {b:Bool} {v:V},cap[j]? = some (k,b)→S1[k]? = some (some v)→σ[k]? = some (some v):=fun {j k b v} hj hv=>by
  obtain ⟨x,_,hx,_⟩:=S.caps j k (by rw [List.getElem?_map,hj];rfl)
  have hk:k<σ.length:=by rw [hl];exact (List.getElem?_eq_some_iff.mp hx).1
  obtain ⟨τ,rfl⟩:=hS1'
  rw [List.getElem?_append_left hk] at hv;exact hv
 have atC:∀{j k:Nat} {b:Bool} {v:V},cap[j]? = some (k,b)→S1[k]? = some (some v)→(capS t (cap.map (·.1)) σ)[t+j]? = some (some v):=fun {j k b v} hj hv=>by rw [capS_get hj,atσ hj hv];rfl
 have backC:∀{j k:Nat} {b:Bool} {v:V},cap[j]? = some (k,b)→(capS t (cap.map (·.1)) σ)[t+j]? = some (some v)→S1[k]? = some (some v):=fun {j k b v} hj hv=>by
  rw [capS_get hj] at hv
  have:σ[k]? = some (some v):=by
   cases z:σ[k]? with
   | none=>rw [z] at hv;cases hv
   | some y=>rw [z] at hv;simpa using hv
  exact pre_get hS1' this
 obtain ⟨Bp,hBp⟩:∃Bp:Addr→Prop,∀a,Bp a↔∃(j k:Nat) (kk:Bool) (xs:List T),cap[j]? = some (k,true)∧E1[k]? = some (some (.o kk xs))∧S1[k]? = some (some (.ref a)):=⟨_,fun _=>Iff.rfl⟩
 have sameJ:∀{j j' m:Nat} {c c':Bool},cap[j]? = some (m,c)→cap[j']? = some (m,c')→j=j':=fun {j j' m c c'} e2 p1=>by
  have lt1:j<(cap.map (·.1)).length:=by rw [List.length_map];exact (List.getElem?_eq_some_iff.mp e2).1
  exact (List.getElem?_inj lt1 hnd).mp (by rw [List.getElem?_map,List.getElem?_map,e2,p1];rfl)
 have bxOw:∀a,Bp a→Ow B S1 E1 a:=fun a z=>by
  obtain ⟨j,k,kk,xs,_,h2,h3⟩:=(hBp a).mp z
  exact .inr ⟨k,kk,xs,h2,h3⟩
 -- an own list of the block is the box
 have capO:∀{i:Nat} {k:Bool} {xs:List T},(capE t cap E1)[i]? = some (some (.o k xs))→∃j m kk,i=t+j∧cap[j]? = some (m,true)∧E1[m]? = some (some (.o kk xs))∧k=true:=fun {i k xs} h=>by
  obtain ⟨j,m,c,e1,e2,e3⟩:=capE_get h
  refine ⟨j,m,?_⟩
  cases qE:E1[m]? with
  | none=>rw [qE] at e3;cases e3
  | some u=>
   cases u with
   | none=>rw [qE] at e3;cases e3
   | some u=>
    cases u with
    | p _=>rw [qE] at e3;cases e3
    | o kk ys=>
     rw [qE] at e3
     cases c
     ·simp [capU] at e3
     ·simp [capU] at e3
      obtain ⟨e4,e5⟩:=e3
      exact ⟨kk,e1,e2,by rw [e5],e4⟩
 have owIn:∀b,Ow Bp (capS t (cap.map (·.1)) σ) (capE t cap E1) b→Bp b:=fun b z=>by
  rcases z with z | ⟨i,k,xs,h1,h2⟩
  ·exact z
  obtain ⟨j,m,kk,e1,e2,e3,_⟩:=capO h1
  subst e1
  exact (hBp b).mpr ⟨j,m,kk,xs,e2,e3,backC e2 h2⟩
 have kl:Kp (Ow B S1 E1) (Ow Bp (capS t (cap.map (·.1)) σ) (capE t cap E1)) H1 H1:=Kp.less fun b z=>bxOw b (owIn b z)
 have reIn:RE K Bp H1 (capS t (cap.map (·.1)) σ) (capE t cap E1):=by
  refine ⟨by simp [capS,capE],fun i u h=>?_,fun i k xs h=>?_,fun i j k l xs ys a h1 h2 h3 h4=>?_,fun a z=>re1.ow (bxOw a z)⟩
  ·obtain ⟨j,m,c,e1,e2,e3⟩:=capE_get h
   subst e1
   cases qE:E1[m]? with
   | none=>rw [qE] at e3;cases e3
   | some w=>
    cases w with
    | none=>rw [qE] at e3;cases e3
    | some w=>
     cases w with
     | p w=>
      rw [qE] at e3;cases e3
      obtain ⟨v,h1,h2⟩:=re1.pure m _ qE
      exact ⟨v,atC e2 h1,h2.step kl⟩
     | o kk ys=>
      rw [qE] at e3
      cases c
      ·simp [capU] at e3;subst e3
       obtain ⟨a,vs,h1,h2,h3,h4⟩:=re1.own m kk ys qE
       refine ⟨_,atC e2 h1,a,vs,rfl,.inl ⟨fun z=>?_,.inl h2⟩,h3.step kl⟩
       obtain ⟨j',k',kk',xs',p1,p2,p3⟩:=(hBp a).mp (owIn a z)
       have e4:=re1.inj m k' kk kk' ys xs' a qE p2 h1 p3
       subst e4
       have lt1:j<(cap.map (·.1)).length:=by rw [List.length_map];exact (List.getElem?_eq_some_iff.mp e2).1
       have lt2:j'<(cap.map (·.1)).length:=by rw [List.length_map];exact (List.getElem?_eq_some_iff.mp p1).1
       have:j=j':=(List.getElem?_inj lt1 hnd).mp (by rw [List.getElem?_map,List.getElem?_map,e2,p1];rfl)
       subst this
       rw [e2] at p1;cases p1
      ·simp [capU] at e3
  ·obtain ⟨j,m,kk,e1,e2,e3,e4⟩:=capO h
   subst e1;subst e4
   obtain ⟨a,vs,h1,h2,h3,h4⟩:=re1.own m kk _ e3
   exact ⟨a,vs,atC e2 h1,h2,h3.step kl,⟨fun _=>(hBp a).mpr ⟨j,m,kk,_,e2,e3,h1⟩,fun _=>rfl⟩⟩
  ·obtain ⟨j1,m1,k1,e1,e2,e5,_⟩:=capO h1
   obtain ⟨j2,m2,k2,e3,e4,e6,_⟩:=capO h2
   subst e1;subst e3
   have em:=re1.inj m1 m2 k1 k2 _ _ a e5 e6 (backC e2 h3) (backC e4 h4)
   subst em
   rw [sameJ e2 e4]
 -- the accumulator gets a place
 obtain ⟨gD,reD⟩:=reIn.lst (ts:=[]) (vs:=[]) hD rfl
 have gd0:gd (upd H1 D (.lst [])) (Ow Bp (capS t (cap.map (·.1)) σ++[some (.ref D)]) (capE t cap E1++[some (.o false [])])):=by
  refine ok.keep _ _ _ _ gD.kp (hgd _ (fun b z=>bxOw b (owIn b z)) fun j hj a ha z=>?_)
  obtain ⟨j',k',kk',xs',p1,p2,p3⟩:=(hBp a).mp (owIn a z)
  obtain ⟨kj,xj,qj⟩:=husO j hj
  have ej:=re1.inj j k' kj kk' xj xs' a qj p2 ha p3
  subst ej
  have:=List.all_eq_true.mp hus (j,true) (List.mem_of_getElem? p1)
  simp [hj] at this
 have hn:(capS t (cap.map (·.1)) σ).length=t+cap.length:=by simp [capS]
 have hnE:(capE t cap E1++[some (U.o false [])]).length=t+cap.length+1:=by simp [capE];omega
 -- the turns
 refine ⟨fun i m σ' H'=>m=items.length-i∧i≤items.length∧∃E',compL g Fe (items.drop i) E' (fun Ein=>match Ein[t+cap.length]? with
   | some (some (.o false zs))=>noLs zs=true∧o1 (wbackM t cap 0 Ein E1) fun E2=>Q' (.s E2.length) (E2++[some (.o false zs)])
   | _=>False)∧σ'.length=t+cap.length∧E'.length=t+cap.length+1∧RE K Bp H' (σ'++[some (.ref D)]) E'∧
   Gs Bp (upd H1 D (.lst [])) (capS t (cap.map (·.1)) σ++[some (.ref D)]) (capE t cap E1++[some (.o false [])]) H' (σ'++[some (.ref D)]) E'∧gd H' (Ow Bp (σ'++[some (.ref D)]) E')∧∀j k,cap[j]? = some (k,true)→σ'[t+j]? = (capS t (cap.map (·.1)) σ)[t+j]?,
  ⟨_,rfl,Nat.zero_le _,_,q,hn,hnE,reD,Kp.refl _ _,gd0,fun _ _ _=>rfl⟩,?_⟩
 rintro i m σ2 H2 ⟨rfl,hi',E3,q3,hl3,hE3,re3,g3,gd3,dt3⟩
 rcases Nat.lt_or_ge i items.length with hlt | hge
 ·have hd:items.drop i=items[i]::items.drop (i+1):=List.drop_eq_getElem_cons hlt
  rw [hd] at q3
  refine .inr ⟨ok.go i H2 _ gd3 hlt,fun x H4 y=>?_⟩
  obtain ⟨k4,s4,rp⟩:=ok.yld i H2 _ x H4 _ gd3 (List.getElem?_eq_getElem hlt) (fun a z=>by obtain ⟨vs,e⟩:=re3.ow z;rw [e];intro z;cases z) y
  have re4:=re3.kept s4
  have gd4:=ok.keep _ _ _ _ k4 gd3
  refine ⟨_,[some (.ref D)],E3,_,_,re4,rp,q3,fun σ5 H5 E5 q5 g5 re5 hl5 dt5=>?_⟩
  have hE5:E5.length=t+cap.length+1:=by rw [←re5.len];simp [hl5,hl3]
  refine ⟨_,σ5++[some (.ref D)],E5,_,⟨_,rfl⟩,re5,q5,fun r E6 v H6 S6 q6 g6 re6 rr6=>?_⟩
  cases r with
  | s _=>exact q6.elim
  | p u=>
   simp only at q6
   have hlast:E3.length-1=t+cap.length:=by omega
   rw [hlast] at q6
   split at q6
   ·rename_i acc hacc
    obtain ⟨hlen,q6⟩:=q6
    obtain ⟨a6,ws,p1,p2,p3,p4⟩:=re6.own _ _ _ hacc
    have hS6:S6[t+cap.length]? = some (some (.ref D)):=pre_get g6.pre (by rw [List.getElem?_append_right (by omega)];simp [hl5,hl3])
    rw [hS6] at p1;cases p1
    obtain ⟨g7,re7⟩:=re6.put (ys:=acc++[u]) (ws:=ws++[v]) hacc hS6 (p3.append ⟨v,[],rfl,rr6,rfl⟩)
    obtain ⟨re8,ow8⟩:=re7.cut (E:=E5) (σ:=σ5++[some (.ref D)]) (g6.trans g7).pre re5.len
    have eE:E5.length=E3.length:=by omega
    rw [eE] at re8 ow8
    have gg:Gs Bp H4 (σ2++[some (.ref D)]) E3 (upd H6 D (.lst (ws++[v]))) (σ5++[some (.ref D)]) ((E6.set (t+cap.length) (some (.o false (acc++[u])))).take E3.length):=(g5.trans (g6.trans g7).kp).trans (Kp.less ow8)
    refine ⟨ws,p2,by rw [p3.length];exact small1000 (Nat.le_of_lt hlen),items.length-(i+1),by omega,rfl,hlt,_,q6,by omega,?_,re8,(g3.trans k4).trans gg,ok.keep _ _ _ _ gg gd4,fun j k hj=>by rw [dt5 (t+j) (Nat.le_add_right _ _)];exact dt3 j k hj⟩
    rw [List.length_take,List.length_set]
    have:E5.length≤E6.length:=by
     obtain ⟨τ6,e6⟩:=g6.pre
     rw [←re5.len,←re6.len,e6];simp
    omega
   ·exact q6.elim
 ·have ei:i=items.length:=by omega
  subst ei
  rw [List.drop_length] at q3
  refine .inl ⟨ok.stop H2 _ gd3,?_⟩
  have q3':(match E3[t+cap.length]? with
   | some (some (.o false zs))=>noLs zs=true∧o1 (wbackM t cap 0 E3 E1) fun E2=>Q' (.s E2.length) (E2++[some (.o false zs)])
   | _=>False):=q3
  split at q3'
  ·rename_i zs hzs
   obtain ⟨hnl,q3'⟩:=q3'
   obtain ⟨E2,e2,q3'⟩:=q3'.ex
   obtain ⟨aD,ws,p1,p2,p3,p4⟩:=re3.own _ _ _ hzs
   have hSD:(σ2++[some (V.ref D)])[t+cap.length]? = some (some (.ref D)):=by rw [List.getElem?_append_right (by omega)];simp [hl3]
   rw [hSD] at p1;cases p1
   -- what is kept of the heap around
   have ow0:∀b,Ow Bp (capS t (cap.map (·.1)) σ++[some (.ref D)]) (capE t cap E1++[some (.o false [])]) b→Bp b∨b=D:=fun b z=>by
    rcases gD.kp.new b z with z | z
    ·exact .inl (owIn b z)
    ·rcases reD.ow (by assumption) with ⟨us',hu⟩
     by_cases c:b=D
     ·exact .inr c
     ·rw [upd_ne c,z] at hu;cases hu
   have kept:∀b o,H1 b=some o→¬Bp b→H2 b=some o:=fun b o e n=>by
    refine g3.keep b o (by rw [upd_ne (ne_of_none e hD)];exact e) fun z=>?_
    rcases ow0 b z with z | z
    ·exact n z
    ·exact ne_of_none e hD z
   have hk:∀b o,H1 b=some o→¬Ow B S1 E1 b→H2 b=some o:=fun b o e n=>kept b o e fun z=>n (bxOw b z)
   have nD:H1 D=none:=hD
   have lk1:=lk.step g1
   -- the names around
   have fin:∀{E2:En},RE K B H2 S1 E2→(∀b,Ow B S1 E2 b→Ow B S1 E1 b)→
     (∀(i:Nat) (k:Bool) (xs:List T),E2[i]? = some (some (.o k xs))→(E1[i]? = some (some (.o k xs))∧∀a,S1[i]? = some (some (.ref a))→H2 a=H1 a)∨∀a ws,S1[i]? = some (some (.ref a))→H2 a=some (.lst ws)→Rps K H2 (LstOf H2) xs ws)→
     (∀(i:Nat) (u:T),E2[i]? = some (some (.p u))→E1[i]? = some (some (.p u)))→Q' (.s E2.length) (E2++[some (.o false zs)])→Q (.ref D) H2:=fun {E2} re' hw hE hP q=>by
    refine told_ok re1 re' hk hw hE hP (r:=.l zs) ⟨D,ws,rfl,hD,p2,Rps.noL (fun a z=>?_) hnl p3⟩ q lk1
    rcases z with ⟨us',z⟩ | z
    ·by_cases c:Bp a
     ·exact re3.ow (.inl c)
     ·exact ⟨us',kept a _ z c⟩
    ·exact ⟨ws,by rw [z];exact p2⟩
   obtain ⟨eL,eG⟩:=wbackM_get hnd (fun j k c h=>by simpa using h) e2
   have eG:=fun i u h=>eG i u h
   have lts:∀b,Ow B S1 E1 b→LstOf H2 b:=fun b z=>by
    by_cases c:Bp b
    ·exact re3.ow (.inl c)
    ·obtain ⟨us',e⟩:=re1.ow z
     exact ⟨us',kept b _ e c⟩
   -- a list that the block changed
   have bxI:∀{i j:Nat} {b:Bool} {xs0 ys:List T},cap[j]? = some (i,true)→E1[i]? = some (some (.o b xs0))→E3[t+j]? = some (some (.o true ys))→noLs ys=true→∃a us1,S1[i]? = some (some (.ref a))∧H2 a=some (.lst us1)∧Rps K H2 (LstOf H2) ys us1:=fun {i j b xs0 ys} hj hE hEi hny=>by
    obtain ⟨a',us1,r1,r2,r3,r4⟩:=re3.own _ true ys hEi
    have hjl:j<cap.length:=(List.getElem?_eq_some_iff.mp hj).1
    rw [List.getElem?_append_left (by omega),dt3 j i hj] at r1
    exact ⟨a',us1,backC hj r1,r2,Rps.noL (fun _ z=>z) hny r3⟩
   have nk:∀{i:Nat} {l:Bool} {zs':List T} {a:Addr},(∀j b xs,cap[j]? = some (i,true)→E1[i]?≠some (some (.o b xs)))→E1[i]? = some (some (.o l zs'))→S1[i]? = some (some (.ref a))→¬Bp a:=fun {i l zs' a} c z ha w=>by
    obtain ⟨j',k',kk',xs',p1',p2',p3'⟩:=(hBp a).mp w
    have:=re1.inj i k' l kk' zs' xs' a z p2' ha p3'
    subst this
    exact c j' l zs' p1' z
   have owE:∀b,Ow B S1 E2 b→Ow B S1 E1 b:=fun b z=>by
    rcases z with z | ⟨i,l,zs',z1,z2⟩
    ·exact .inl z
    rcases eG _ _ z1 with ⟨j,b',ys,xs0,_,h2,_,_,_⟩ | ⟨z,_⟩
    ·exact .inr ⟨_,_,_,h2,z2⟩
    ·exact .inr ⟨i,l,zs',z,z2⟩
   have kp:Kp (Ow B S1 E1) (Ow B S1 E1) H1 H2:=⟨hk,fun b z=>.inl z⟩
   refine fin (re1.step hk eL (fun i u h=>?_) (fun i l zs' h=>?_) (fun a z=>lts a (.inl z))) owE (fun i l zs' h=>?_) (fun i u h=>?_) q3'
   ·rcases eG _ _ h with ⟨_,_,_,_,_,_,_,_,z⟩ | ⟨z,_⟩
    ·cases z
    ·exact z
   ·rcases eG _ _ h with ⟨j,b',ys,xs0,h1,h2,h3,h4,z⟩ | ⟨z,nb⟩
    ·cases z
     obtain ⟨a0,us1,r1,r2,r3⟩:=bxI h1 h2 (by rwa [Nat.zero_add] at h3) h4
     refine ⟨xs0,h2,fun a ha=>?_⟩
     rw [r1] at ha;cases ha
     exact ⟨us1,r2,r3.step (Kp.less lts)⟩
    ·refine ⟨zs',z,fun a ha=>?_⟩
     obtain ⟨a',us',p1',p2',p3',_⟩:=re1.own i l zs' z
     rw [ha] at p1';cases p1'
     exact ⟨us',kept a _ p2' (nk nb z ha),p3'.step kp⟩
   ·rcases eG _ _ h with ⟨j,b',ys,xs0,h1,h2,h3,h4,z⟩ | ⟨z,nb⟩
    ·cases z
     right
     intro a us2 ha hu
     obtain ⟨a0,us1,r1,r2,r3⟩:=bxI h1 h2 (by rwa [Nat.zero_add] at h3) h4
     rw [r1] at ha;cases ha
     rw [r2] at hu;cases hu
     exact r3
    ·left
     refine ⟨z,fun a ha=>?_⟩
     obtain ⟨a',us',p1',p2',p3',_⟩:=re1.own i l zs' z
     rw [ha] at p1';cases p1'
     rw [p2'];exact kept a _ p2' (nk nb z ha)
   ·rcases eG _ _ h with ⟨_,_,_,_,_,_,_,_,z⟩ | ⟨z,_⟩
    ·cases z
    ·exact z
  ·exact q3'.elim
theorem fg_nameM {t i:Nat} {x:Str} (hN:X.N.Nodup) (hi:X.N[i]? = some x) (hx:Loc X.env.scope x) (hf:X.fn x=true∨X.env.scope.names.lookup x=some .local:=by first | exact .inl rfl | exact .inr rfl | assumption) (ht:i<t:=by decide):QG X (.Name x pos) (simGM t K (kName i)):=
 (qg_name hN hi hx hf).le fun v σ H Q hl ⟨B,τ,E,u,Q',re,rp,hF,l⟩=>by
  have hlt:i<σ.length:=by rw [hl];exact (List.getElem?_eq_some_iff.mp hi).1
  obtain ⟨r1,ow⟩:=re.setP (i:=i) rp
  rw [List.set_append_left _ _ hlt] at r1 ow
  exact l _ _ _ hF (Kp.less ow) r1 (by simp) fun j hj=>List.getElem?_set_ne (by omega)
theorem fs_setM {target elt iter:Expr} {scope:Scope} {pos pos' spos:Pos} {N':List Str} {cap:List (Nat×Bool)} {t i:Nat} {x:Str} (hN:X.N.Nodup) (hi:X.N[i]? = some x) (hx:Loc X.env.scope x)
  (hsw:swapsWith (.ListComp elt [⟨target,iter,[],0⟩] scope pos) (some (.Name x pos')) spos.line X.env=pure true) (hc:X.calm=true) (S:CompOk X N' scope t (cap.map (·.1))) (hnd:(cap.map (·.1)).Nodup) (hit:QI X target iter (simI K I))
  (hg:∀C s3 H3 fp,QG (cxComp X N' scope C s3 H3 fp) target (simGM t K g)) (he:∀C s3 H3 fp,QE (cxComp X N' scope C s3 H3 fp) elt (simE K Fe)) (hs:∀x,foldedSetIterable iter X.env x=pure x:=by intro _;rfl)
  (hf:X.fn x=true∨X.env.scope.names.lookup x=some .local:=by first | exact .inl rfl | exact .inr rfl | assumption) :
  QS X (.Assign [.Name x pos'] (.ListComp elt [⟨target,iter,[],0⟩] scope pos) spos) (simS K (sSet i (fCompM t cap I g Fe))):=
 QS.le ⟨ps_setC hN hi hx hf hsw hc S hit.h (fun C s3 H3 fp=>(hg C s3 H3 fp).h) (fun C s3 H3 fp=>(he C s3 H3 fp).h) hs⟩ fun D σ H hl ⟨B,E,DT,re,hF,l⟩=>comp_simM S hnd hl ⟨B,σ,E,_,⟨[],by simp⟩,re,hF,fun r E' v H' S' q g re' rr=>by
  obtain ⟨u,e1,q⟩:=q.ex
  rw [←re.len] at e1 q
  obtain ⟨r1,ow⟩:=pick_ok (i:=i) re' g.pre rr e1
  exact l.nx _ _ _ q (g.kp.trans (Kp.less ow)) r1⟩
end
end L2
set_option Elab.async false
set_option linter.all false
set_option maxRecDepth 100000
set_option maxHeartbeats 4000000
namespace L2
open PySem PySem.Spec PySem.W PyProof.Rows
def CXh (P:Program) (w:World):CXT:=fun outer H s E e s'=>∃(x C T:Addr) (H':Hp),e = .ref x∧s'.os=s.os∧AllBare s'.gens∧Un (frs outer) [] H H' s.heap s'.heap∧s.heap.get? x=none∧s.heap.get? T=none∧(H' x=none∧H' T=none∧HOk P w H' s'.heap)∧Exc s'.heap x C T∧E (.ref C) none H
theorem hok_kept {P:Program} {w:World} {H:Hp} {h h':Heap} (hok:HOk P w H h) (k:∀b v,H b≠none→h.get? b=some v→h'.get? b=some v):HOk P w H h':=fun b o e=>
 (hok b o e).stay (fun c v hc q=>k c v (by
  rcases hc with rfl | hc
  ·rw [e];intro z;cases z
  ·rw [hc];intro z;cases z) q) (fun _ q=>q) fun _ _ q=>q
theorem tracked_in {P:Program} {w:World} {H:Hp} {h:Heap} (hok:HOk P w H h) {b:Addr} (e:h.get? b=none):H b=none:=by
 cases q:H b with
 | none=>rfl
 | some o=>
  obtain ⟨ob,z⟩:=obj_thr (hok b o q)
  rw [e] at z;cases z
abbrev SpG:=List T→(T→Prop)→(Addr→Prop)→Prop
def spG (K:PySem.W.Frag) (S:SpG):Sp:=fun vs H Q E=>∃(ts:List T) (Q':T→Prop) (W:Addr→Prop),Rps K H (fun _=>False) ts vs∧S ts Q' W∧(∀t v H',Q' t→(∀b o,H b=some o→H' b=some o)→Rp K H' (LstOf H') t v→Q v H')∧∀C,W C→E (.ref C) none H
def enG (ts:List T):En:=ts.map fun t=>some (U.p t)
theorem enG_get {ts:List T} {i:Nat} {u:U} (h:(enG ts)[i]? = some (some u)):∃t,ts[i]? = some t∧u = .p t:=by
 unfold enG at h
 rw [List.getElem?_map] at h
 cases q:ts[i]? with
 | none=>rw [q] at h;cases h
 | some t=>rw [q] at h;cases h;exact ⟨t,rfl,rfl⟩
theorem no_ow {S:St} {ts:List T}:∀b,¬Ow (fun _=>False) S (enG ts) b:=fun b z=>by
 rcases z with z | ⟨i,k,xs,h1,_⟩
 ·exact z
 ·obtain ⟨t,_,e⟩:=enG_get h1
  cases e
theorem re_pure {K:PySem.W.Frag} {H:Hp} {ts:List T} {vs:List V} (rp:Rps K H (fun _=>False) ts vs):RE K (fun _=>False) H (vs.map some) (enG ts):=by
 refine ⟨by simp [enG,rp.length],fun i t h=>?_,fun i k xs h=>?_,fun i j k l xs ys a h=>?_,fun a z=>z.elim⟩
 ·obtain ⟨u,q,e⟩:=enG_get h
  cases e
  obtain ⟨v,h1,h2⟩:=rp.get q
  exact ⟨v,by rw [List.getElem?_map,h1];rfl,h2.step (Kp.less fun b z=>no_ow b z)⟩
 ·obtain ⟨u,_,e⟩:=enG_get h
  cases e
 ·obtain ⟨u,_,e⟩:=enG_get h
  cases e
section
variable {P:Program} {w:World} {K:PySem.W.Frag} {mg:Str→Option Value} {base:Heap}
theorem Fun.okG {x qual:Str} {st:Stmt} {f:Addr} {fd:FuncData} {N ps:List Str} {k:Nat} {S:SpG} {F:(Addr→Prop)→FS} (Fn:Fun K x qual st f fd) (Sc:FnScope N ps (defScope st)) (len:∀ts Q W,S ts Q W→ts.length=ps.length)
  (hb:∀(W:Addr→Prop) (cdv:Value) (A:Around) (outer:List Env) (s:Shared) (H:Hp) (E:XK),Room k (A.deeper (envOfC qual (defScope st) s.heap.objs.size f cdv))→(∀C,W C→E (.ref C) none H)→QB (cxOf (CXh P w) P w K mg base N qual (defScope st) f cdv A outer s H E) (defBody st) (simS K (F W)))
  (hF:∀ts Q W,S ts Q W→F W (endR Q) (enG ts++List.replicate (N.length-ts.length) none)):FnOk P w K mg base (CXh P w) (k+1) f fd ps (spG K S):=by
 obtain ⟨oc,od,kV,doc,pm,an,cdv,ct,osl,rfl,lk,hcd⟩:=Fn.ex
 refine fn_of lk hcd Sc (fun vs H Q E ⟨ts,Q',W,e,hS,_⟩=>?_) fun A outer s H vs Q E hr ⟨ts,Q',W,e,hS,hq,hw⟩=>?_
 ·rw [e.length];exact len ts Q' W hS
 refine ⟨_,(hb W cdv A outer s H E hr hw).h,?_⟩
 obtain ⟨re0,ow0⟩:=(re_pure e).pad (N.length-ts.length)
 have hst:start N vs=vs.map some++List.replicate (N.length-ts.length) none:=by unfold start;rw [e.length]
 rw [hst]
 have same:∀{H':Hp} {O:Addr→Prop},Kp (Ow (fun _=>False) (vs.map some++List.replicate (N.length-ts.length) none) (enG ts++List.replicate (N.length-ts.length) none)) O H H'→∀b o,H b=some o→H' b=some o:=fun k b o z=>k.keep b o z fun y=>no_ow b (ow0 b y)
 refine ⟨_,_,_,re0,hF ts Q' W hS,⟨fun _ _ _ z=>z.elim,fun r E' v H' S' q g re' rr=>?_,fun _ _ _ z=>z.elim,fun _ _ _ z=>z.elim⟩⟩
 cases r with
 | p t=>exact hq t v H' q.2 (same g) (Rp.noL (fun _ z=>z) q.1 rr)
 | s i=>
  simp only [endR] at q
  split at q
  ·rename_i t hE
   obtain ⟨u,h1,h2⟩:=re'.pure i t hE
   have rr':S'[i]? = some (some v):=rr
   rw [rr'] at h1;cases h1
   exact hq t v H' q.2 (same g) (Rp.noL (fun _ z=>z) q.1 h2)
  ·exact q.elim
end
def RaiseOk (X:Cx) (W:Addr→Prop):Prop:=∀(pins:List (Addr×Obj)) (σ:St) (H1 H':Hp) (s1 s2:Shared) (x C T:Addr),Inv X pins σ H1 s1→s2.os=s1.os→AllBare s2.gens→Un (frs X.stack) [] H1 H' s1.heap s2.heap→s1.heap.get? x=none→s1.heap.get? T=none→(H' x=none∧H' T=none∧HOk X.prog X.w H' s2.heap)→Exc s2.heap x C T→W C→X.xe (.ref x) s2
structure FnH (P:Program) (w:World) (K:PySem.W.Frag) (mg:Str→Option Value) (base:Heap) (k:Nat) (x:Str) (ps:List Str) (sp:Sp):Prop where
 ex:∃f fd,FnOk P w K mg base (CXh P w) k f fd ps sp∧mg x=some (.ref f)∧PySem.W.keepIn K (.ref f)=true∧Binds K fd ps []
def fCallG (S:SpG) (Fr:FA) (W:Addr→Prop):FE:=fun E Q=>Fr E fun rs E1=>o1 (mkV E1 rs) fun ts=>S ts (fun t=>noL t=true∧Q (.p t) E1) W
section
variable {X:Cx} {K:PySem.W.Frag} {S:SpG} {fn:Str} {ps:List Str} {e:Expr} {es:List Expr} {fp cp:Pos} {n k m:Nat} {Fr:FA} {W:Addr→Prop}
theorem fe_callG (eK:X.K=K) (ro:RaiseOk X W) (F:FnH X.prog X.w X.K X.mg X.base k fn ps (spG K S)) (hr:Room m X.A) (hk:k≤m) (hgf:Gl X fn) (ha:QA X (e::es) (simA K n Fr)) (hdf:(fn==("__debug__":Str))=false:=by decide) (hs:noStar (e::es)=true:=by rfl) :
  QE X (.Call (.Name fn fp) (e::es) [] cp) (simE K (fCallG S Fr W)):=by
 subst eK
 constructor
 intro pins s σ H QQ I ⟨B,S0,E,Q',hS0,re,hF,lk⟩
 obtain ⟨f,fd,FO,hmf,hkp,hbd⟩:=F.ex
 have he:isStar e=false∧noStar es=true:=by simpa [noStar] using hs
 refine wpAny_Call_Name_kw (ld_glob I hgf hmf ?_ hdf)
 refine PySem.W.callWith_K (h₀:=X.base) I.ok.mod.kin hkp (wpAny_mono (ha.h cp pins s σ H (fun vs H1=>∃(S1:St) (E1:En) (ts:List T),Gr B H S0 E H1 S1 E1∧RE X.K B H1 S1 E1∧Rps X.K H1 (fun _=>False) ts vs∧S ts (fun t=>noL t=true∧Q' (.p t) E1) W) I ?_) (fun us s1 ⟨vs,H1,I1,r,S1,E1,ts,g1,re1,rp,hS⟩=>⟨I1.kIn,?_⟩) fun _ _ z=>z) (star_ok he.1) (star_any he.2)
 ·refine ⟨B,S0,E,_,hS0,re,hF,fun rs E1 vs H1 S1 q g re1 rr hn=>?_⟩
  obtain ⟨ts,e1,q⟩:=o1.ex q
  exact ⟨S1,E1,ts,g,re1,mkV_ok re1 rr e1 (fun _=>False) (fun _ z=>z.elim) (fun _ _ _ _ _ _ z=>z),q⟩
 have env0:Env0 X.prog X.w X.K X.mg X.base X.A X.stack s1 H1:=⟨I1.ok.frames,I1.ok.mod,I1.bs,Nat.le_trans I1.ok.bsz I1.sz,I1.stack,I1.stkFree,I1.hok,I1.bare⟩
 have hlen:(us++[]).length=ps.length:=by
  have h1:=r.length
  rw [List.append_nil,←h1]
  exact FO.len vs H1 (fun _ _=>True) (fun _ _ _=>True) ⟨ts,_,_,rp,hS,fun _ _ _ _ _ _=>trivial,fun _ _=>trivial⟩
 refine wpAny_call (codeAny_mono (FO.run X.A X.stack s1 H1 ⟨us,[]⟩ (us++[]) vs (fun v H'=>∃t,noL t=true∧Q' (.p t) E1∧(∀b o,H1 b=some o→H' b=some o)∧Rp X.K H' (LstOf H') t v) (fun v _ _=>∃C,v = .ref C∧W C) (hr.mono hk) env0 (hbd s1 us I1.kIn hlen) (by rw [List.append_nil];exact r) ⟨ts,_,_,rp,hS,fun t v H' q sm rp=>⟨t,q.1,q.2,sm,rp⟩,fun C q=>⟨C,rfl,q⟩⟩) fun res s2 hq=>?_)
 cases res with
 | ok fl=>
  cases fl with
  | ret u=>
   obtain ⟨v,H',os,bare,un,hok,rv,t,nl,qn,sm,rp'⟩:=hq
   have I2:=I1.call' os un hok bare (fun b z=>absurd z (by simp))
   have re3:=re1.kept sm
   have rp3:Rp X.K H' (Ow B S1 E1) t v:=Rp.noL (fun a z=>re3.ow z) nl rp'
   have gg:Gr B H1 S1 E1 H' S1 E1:=⟨⟨fun b o z _=>sm b o z,fun b z=>.inl z⟩,[],by simp⟩
   exact ⟨v,H',I2,rv,lk (.p t) E1 v H' S1 qn (g1.trans gg) re3 rp3⟩
  | next=>exact hq.elim
  | brk=>exact hq.elim
  | cont=>exact hq.elim
 | error er=>
  obtain ⟨x,C',T,H',rfl,os,bare,un,nx,nT,hh,ee,C,hC,hw⟩:=hq
  cases hC
  exact ro pins σ H1 H' s1 s2 x _ T I1 os bare un nx nT hh ee hw
end
section
open PySem.Calls
variable {M:Model} {A:Around} {E:Value→Shared→Prop} {s:Shared} {base:Heap} {env:Env} {outer:List Env} {L x:Addr}
structure Kg (fs:List Addr) (x T0:Addr) (h h':Heap):Prop where
 keep:∀b o,h.get? b=some o→b∉fs→b≠x→b≠T0→h'.get? b=some o
 slot:∀b o,h.get? b=some o→b∈fs→∃sl,h'.get? b=some { o with slots:=sl }
 there:∀b o,h.get? b=some o→∃o',h'.get? b=some o'
theorem notes_up {C T0:Addr} {Q:Unit→Shared→Prop} (hfr:A.frames=some (env::outer)) (hl:s.heap.FunFrames base (env::outer)) (hf:env.frame=some L) (hE:Exc s.heap x C T0)
  (k:∀h' T,Kg (frs (env::outer)) x T0 s.heap h'→s.heap.get? T=none→Exc h' x C T→Q () { s with heap:=h' }):wpAny M A (leaving env (.ref x)) Q E s:=by
 obtain ⟨n0,oe,vs,oT,ts,hx,hc,hdc,hdt,h1,hT,hdT,h3⟩:=hE
 have hsz:=(Array.getElem?_eq_some_iff.mp h1).1
 have h3z:=(Array.getElem?_eq_some_iff.mp h3).1
 have fx:T0∉frs (env::outer):=fun hm=>by
  obtain ⟨_,o,ho,hnf⟩:=hl.mem hm
  rw [hT] at ho;cases ho
  exact hnf ts hdT
 unfold leaving noteFrame
 simp only [hf]
 refine wpAny_bind (wpAny_bind (wpAny_field hx hdt h1 ?_))
 rw [if_pos (show (Value.ref T0 != Value.none)=true from by simp)]
 refine wpAny_bind (wpAny_field hT hdT h3 ?_)
 rw [if_neg (show ¬((Value.none==rawInt L)=true) from by simp [rawInt])]
 refine wpAny_bind (wpAny_setField hT hdT h3z ?_)
 obtain ⟨hU,hhU⟩:∃hU,hU=s.heap.update T0 (Obj.mapFields (·.setIfInBounds 3 Value.none)):=⟨_,rfl⟩
 rw [←hhU]
 have oth:∀b,b≠T0→hU.get? b=s.heap.get? b:=fun b nb=>by rw [hhU];exact Heap.get?_update_other _ _ (Ne.symm nb)
 have atT:∃o,hU.get? T0=some o:=⟨_,by rw [hhU];exact Heap.get?_update_self _ hT (Obj.isFreed_of_fields (Obj.data_mapFields hdT _))⟩
 have hl2:hU.FunFrames base (env::outer):=hl.of_keeps fun b o e hnf=>⟨o,by
  rw [oth b fun z=>hnf ts (by rw [z,hT] at e;cases e;exact hdT)];exact e,rfl⟩
 refine entry_in (s:={ s with heap:=hU }) hfr hl2 hf (by show hU.get? x=_;rw [oth x (Ne.symm n0)];exact hx) hdt hsz fun h' T oT' ts' kf sT nT fT ex eT dT h3'=>?_
 have sT:hU.get? T=none:=sT
 have kf:Kf (frs (env::outer)) x hU h':=kf
 obtain ⟨o,us,e1,e2,e3,e4,e5⟩:=mapped ex hdt hsz
 have nT0:T≠T0:=fun z=>by
  obtain ⟨o,e⟩:=atT
  rw [z,e] at sT;cases sT
 refine unflown (s:={ s with heap:=h' }) (h0:=hU) kf sT nT fT e1 (by rw [e2,hc]) (by rw [e3,hdc]) e4 e5 eT dT h3' fun h'' kk ee=>k h'' T ⟨fun b o e nf nx nt=>kk.keep b o (by rw [oth b nt];exact e) nf nx,fun b o e mf=>kk.slot b o (by rw [oth b fun z=>fx (by rw [←z];exact mf)];exact e) mf,fun b o e=>?_⟩ (by rw [←oth T nT0];exact sT) ee
 obtain ⟨_,ox,_,oT2,_,g1,_,_,_,_,g2,_⟩:=ee
 by_cases bx:b=x
 ·exact ⟨_,by rw [bx];exact g1⟩
 ·obtain ⟨ob,eb⟩:∃ob,hU.get? b=some ob:=by
   by_cases bt:b=T0
   ·rw [bt];exact atT
   ·exact ⟨o,by rw [oth b bt];exact e⟩
  by_cases mf:b∈frs (env::outer)
  ·obtain ⟨sl,q⟩:=kk.slot b ob eb mf
   exact ⟨_,q⟩
  ·exact ⟨_,kk.keep b ob eb mf bx⟩
theorem frames_un {fs:List Addr} {H H':Hp} {h h':Heap} (u:Un fs [] H H' h h'):∀{l:List Env},(∀b∈l.filterMap (·.frame),H b=none∧b∈fs)→h.FunFrames base l→h'.FunFrames base l
 | [],_,_=>trivial
 | e::l,hb,⟨hk,⟨L,o,hf,hn,ho,hd⟩,hr⟩=>by
  have hL:=hb L (by rw [List.filterMap_cons,hf];exact List.mem_cons_self ..)
  obtain ⟨sl,q⟩:=u.slot L o ho hL.1 hL.2 (by simp)
  exact ⟨hk,⟨L,_,hf,hn,q,hd⟩,frames_un u (fun b z=>hb b (by rw [List.filterMap_cons,hf];exact List.mem_cons_of_mem _ z)) hr⟩
end
section
variable {P:Program} {w:World} {K:PySem.W.Frag} {mg:Str→Option Value} {base:Heap} {N:List Str} {qual:Str} {scope:Scope} {f:Addr} {cdv:Value} {A:Around} {outer:List Env} {s0:Shared} {H0:Hp} {Ew:XK}
theorem cxh_of {pins:List (Addr×Obj)} {σ:St} {H1 H':Hp} {s1 s2:Shared} {x C T T':Addr} {h':Heap} (I1:Inv (cxOf (CXh P w) P w K mg base N qual scope f cdv A outer s0 H0 Ew) pins σ H1 s1) (os:s2.os=s1.os) (bare:AllBare s2.gens) (un:Un (frs (envOfC qual scope s0.heap.objs.size f cdv::outer)) [] H1 H' s1.heap s2.heap)
  (nx:s1.heap.get? x=none) (nT:s1.heap.get? T=none) (hx0:H' x=none) (hT0:H' T=none) (hok:HOk P w H' s2.heap) (kg:Kg (frs (envOfC qual scope s0.heap.objs.size f cdv::outer)) x T s2.heap h') (nT':s2.heap.get? T'=none) (ee':Exc h' x C T') (hW:Ew (.ref C) none H0):CXh P w outer H0 s0 Ew (.ref x) { s2 with heap:=h' }:=by
 have b0:=I1.base
 have fre:∀b,s1.heap.get? b=none→s0.heap.get? b=none:=fun b e=>by
  cases q:s0.heap.get? b with
  | none=>rfl
  | some o=>
   obtain ⟨o',e'⟩:=b0.there b o q (by intro z;cases z)
   rw [e] at e';cases e'
 have fre2:∀b,s2.heap.get? b=none→s1.heap.get? b=none:=fun b e=>by
  cases q:s1.heap.get? b with
  | none=>rfl
  | some o=>
   obtain ⟨o',e'⟩:=un.there b o q (by intro z;cases z)
   rw [e] at e';cases e'
 have nfr:∀b o,s0.heap.get? b=some o→b∉frs outer→b∉frs (envOfC qual scope s0.heap.objs.size f cdv::outer):=fun b o e nf m=>by
  rcases List.mem_cons.mp (I1.stkSub b m) with z | z
  ·exact absurd (Heap.lt_size e) (by rw [z];exact Nat.lt_irrefl _)
  ·exact nf z
 have mfr:∀b,b∈frs outer→b∈frs (envOfC qual scope s0.heap.objs.size f cdv::outer):=fun b m=>by
  unfold frs at m ⊢
  rw [List.filterMap_cons]
  split
  ·exact m
  ·exact List.mem_cons_of_mem _ m
 have ne:∀b o,s0.heap.get? b=some o→b≠x∧b≠T:=fun b o e=>⟨fun z=>(by rw [z,fre x nx] at e;cases e),fun z=>(by rw [z,fre T nT] at e;cases e)⟩
 refine ⟨x,C,T',H',rfl,os.trans I1.os,bare,⟨fun b o e n nf _=>?_,fun b o e n mf _=>?_,fun b o e n _=>?_,fun b o e _=>?_,fun b xs e=>un.tups b xs (b0.tups b xs e),fun b o u e=>un.frzs b o u (b0.frzs b o u e),fun b ps e=>?_⟩,fre x nx,fre T' (fre2 T' nT'),⟨hx0,tracked_in hok nT',hok_kept hok fun b v hb q=>kg.keep b v q (fun m=>hb ?_) (fun z=>hb (by rw [z];exact hx0)) fun z=>hb (by rw [z];exact hT0)⟩,ee',hW⟩
 ·have q:=b0.keep b o e n nf (by intro z;cases z)
  have n1:=b0.free b o e n (by intro z;cases z)
  exact kg.keep b o (un.keep b o q n1 (nfr b o e nf) (by simp)) (nfr b o e nf) (ne b o e).1 (ne b o e).2
 ·obtain ⟨sl,q⟩:=b0.slot b o e n mf (by intro z;cases z)
  have n1:=b0.free b o e n (by intro z;cases z)
  obtain ⟨sl1,q1⟩:=un.slot b _ q n1 (mfr b mf) (by simp)
  obtain ⟨sl',q'⟩:=kg.slot b _ q1 (mfr b mf)
  exact ⟨sl',q'⟩
 ·obtain ⟨o',q⟩:=b0.there b o e (by intro z;cases z)
  exact un.free b o' q (b0.free b o e n (by intro z;cases z)) (by simp)
 ·obtain ⟨o',q⟩:=b0.there b o e (by intro z;cases z)
  obtain ⟨o2,q2⟩:=un.there b o' q (by simp)
  exact kg.there b o2 q2
 ·obtain ⟨more,q⟩:=b0.tbls b ps e
  obtain ⟨more',q'⟩:=un.tbls b _ q
  exact ⟨more++more',by rw [q',Array.append_assoc]⟩
 ·obtain ⟨_,o,ho,_⟩:=I1.stack.mem m
  exact un.free b o ho (I1.stkFree b m) (by simp)
theorem raise_up {W:Addr→Prop} (hW:∀C,W C→Ew (.ref C) none H0):RaiseOk (cxOf (CXh P w) P w K mg base N qual scope f cdv A outer s0 H0 Ew) W:=by
 intro pins σ H1 H' s1 s2 x C T I1 os bare un nx nT ⟨hx0,hT0,hok⟩ ee hw
 have hfs:s2.heap.FunFrames base (envOfC qual scope s0.heap.objs.size f cdv::outer):=frames_un un (fun b hb=>⟨I1.stkFree b hb,hb⟩) I1.stack
 show wpAny _ _ (leaving (envOfC qual scope s0.heap.objs.size f cdv) (.ref x)) (fun _ s''=>CXh P w outer H0 s0 Ew (.ref x) s'') _ s2
 exact notes_up (s:=s2) I1.ok.frames hfs rfl ee fun h' T' kg nT' ee'=>cxh_of I1 os bare un nx nT hx0 hT0 hok kg nT' ee' (hW C hw)
end
section
variable {P:Program} {w:World} {K:PySem.W.Frag} {mg:Str→Option Value} {base:Heap}
variable {N:List Str} {qual:Str} {scope:Scope} {f:Addr} {cdv:Value} {A:Around} {outer:List Env} {s0:Shared} {H0:Hp} {Ew:XK} {C:Addr} {n:Str} {e:Expr} {es:List Expr} {np cpos pos:Pos}
theorem ps_raiseH {t:TA} (hx:xclsIn K C none=true) (hg:Gl (cxOf (CXh P w) P w K mg base N qual scope f cdv A outer s0 H0 Ew) n) (hm:mg n=some (.ref C)) (ha:PA (cxOf (CXh P w) P w K mg base N qual scope f cdv A outer s0 H0 Ew) (e::es) t) (hdb:(n==("__debug__":Str))=false)
  (he:starEach (e::es) (envOfC qual scope s0.heap.objs.size f cdv)=(false,eval e (envOfC qual scope s0.heap.objs.size f cdv))::starEach es (envOfC qual scope s0.heap.objs.size f cdv)) (hpl:(backTo cpos (starEach es (envOfC qual scope s0.heap.objs.size f cdv))).any (·.1)=false) :
  PS (cxOf (CXh P w) P w K mg base N qual scope f cdv A outer s0 H0 Ew) (.Raise (some (.Call (.Name n np) (e::es) [] cpos)) none pos) (fun D σ H=>t σ H fun vs _=>vs.length≤1000∧Ew (.ref C) none H0):=by
 intro pins s σ H D I h
 obtain ⟨nm,q,Nn,bs,tl,hdct,sn,sub,ab,col,dd,k0,k1,k2,k3,k5,mN,hC,hN,hi,Tl⟩:=xat_of I.ok.mod.kin hx
 refine wpAny_Raise_call_subT (nm:=nm) (q:=q) (N:=Nn) (bs:=bs) (hdct:=hdct) (sn:=sn) (sub:=sub) (ab:=ab) (col:=col) (dd:=dd) (k0:=k0) (k1:=k1) (k2:=k2) (k3:=k3) (k5:=k5) (mN:=mN) (bmB:=mroV) PySem.F.excBase_ValueError (Tl.hasType (by decide)) (I.ok.hd rfl) (by show (backTo cpos (starEach (e::es) (envOfC qual scope s0.heap.objs.size f cdv))).any (·.1)=false;rw [he];show (false||(backTo cpos (starEach es (envOfC qual scope s0.heap.objs.size f cdv))).any (·.1))=false;rw [hpl];rfl) hi (ld_glob I hg hm ⟨rfl,?_⟩ hdb)
 have hA:=ha cpos pins s σ H _ I h
 change wpAny _ _ (spliced (backTo cpos (starEach (e::es) (envOfC qual scope s0.heap.objs.size f cdv)))) _ _ _ at hA
 change wpAny _ _ (evalArgs _ _ (backTo cpos (starEach (e::es) (envOfC qual scope s0.heap.objs.size f cdv))) _) _ _ _
 rw [he] at hA ⊢
 refine Calls.evalArgs_plain (thn hA fun us s2 ⟨vs,H1,I1,r,hl,hw⟩=>⟨rfl,?_,I1.bk _ _ hC,hN.keeps I1.bk,Tl.keeps I1.bk,fun h' x hmk=>?_⟩)
 ·show us.length≤_
  have:=r.length
  rw [sizeLine_eq];omega
 obtain ⟨tt,hex,_,_⟩:=hmk.there
 refine leaves_new (s:={ s2 with heap:=h' }) (h0:=s2.heap) I1.ok.frames I1.stack rfl hmk.keeps hmk.new hex rfl rfl rfl rfl fun h'' T kf nT ee=>?_
 have b0:=I1.base
 have fre:∀b,s2.heap.get? b=none→s0.heap.get? b=none:=fun b e=>by
  cases q:s0.heap.get? b with
  | none=>rfl
  | some o=>
   obtain ⟨o',e'⟩:=b0.there b o q (by intro z;cases z)
   rw [e] at e';cases e'
 have nfr:∀b o,s0.heap.get? b=some o→b∉frs outer→b∉frs (envOfC qual scope s0.heap.objs.size f cdv::outer):=fun b o e nf m=>by
  rcases List.mem_cons.mp (I1.stkSub b m) with z | z
  ·exact absurd (Heap.lt_size e) (by rw [z];exact Nat.lt_irrefl _)
  ·exact nf z
 have mfr:∀b,b∈frs outer→b∈frs (envOfC qual scope s0.heap.objs.size f cdv::outer):=fun b m=>by
  unfold frs at m ⊢
  rw [List.filterMap_cons]
  split
  ·exact m
  ·exact List.mem_cons_of_mem _ m
 have nx:∀b o,s2.heap.get? b=some o→b≠x:=fun b o e z=>by rw [z,hmk.new] at e;cases e
 refine ⟨x,C,T,H1,rfl,I1.os,I1.bare,⟨fun b o e n nf _=>?_,fun b o e n mf _=>?_,b0.free,fun b o e _=>?_,b0.tups,b0.frzs,b0.tbls⟩,fre x hmk.new,fre T nT,⟨tracked_in I1.hok hmk.new,tracked_in I1.hok nT,hok_kept I1.hok fun b v hb q=>kf.keep b v q (fun m=>hb (I1.stkFree b m)) (nx b v q)⟩,ee,hw⟩
 ·have q:=b0.keep b o e n nf (by intro z;cases z)
  exact kf.keep b o q (nfr b o e nf) (nx b o q)
 ·obtain ⟨sl,q⟩:=b0.slot b o e n mf (by intro z;cases z)
  obtain ⟨sl',q'⟩:=kf.slot b _ q (mfr b mf)
  exact ⟨sl',q'⟩
 ·obtain ⟨o',q⟩:=b0.there b o e (by intro z;cases z)
  by_cases m:b∈frs (envOfC qual scope s0.heap.objs.size f cdv::outer)
  ·obtain ⟨sl,q'⟩:=kf.slot b o' q m
   exact ⟨_,q'⟩
  ·exact ⟨o',kf.keep b o' q m (nx b o' q)⟩
theorem fs_raiseH {W:Prop} {m:Nat} {Fr:FA} (hW:W→Ew (.ref C) none H0) (hx:xclsIn K C none=true) (hg:Gl (cxOf (CXh P w) P w K mg base N qual scope f cdv A outer s0 H0 Ew) n) (hm:mg n=some (.ref C)) (ha:QA (cxOf (CXh P w) P w K mg base N qual scope f cdv A outer s0 H0 Ew) (e::es) (simA K m Fr)) (hz:m≤1000:=by decide) (hdb:(n==("__debug__":Str))=false:=by decide)
  (hs:noStar (e::es)=true:=by rfl):QS (cxOf (CXh P w) P w K mg base N qual scope f cdv A outer s0 H0 Ew) (.Raise (some (.Call (.Name n np) (e::es) [] cpos)) none pos) (simS K (sRaise Fr W)):=by
 have he:isStar e=false∧noStar es=true:=by simpa [noStar] using hs
 refine QS.le ⟨ps_raiseH hx hg hm ha.h hdb (star_ok he.1) (star_any he.2)⟩ fun D σ H hl ⟨B,E,DT,re,hF,l⟩=>?_
 exact ⟨B,σ,E,fun _ _=>W,⟨[],by simp⟩,re,hF,fun rs E' vs H' S' q g re' rr hn=>⟨by rw [hn];exact hz,hW q⟩⟩
end
end L2
set_option Elab.async false
set_option linter.all false
set_option maxRecDepth 100000
set_option maxHeartbeats 4000000
namespace L2
open PySem PySem.Spec PySem.W PySem.Calls PyProof.Rows
section
variable {M M':Model} {A A':Around} {E1:Value→Shared→Prop} {s:Shared} {env:Env} {L x:Addr}
theorem fly_on {C T:Addr} {what:String} {Qf:Flow→Shared→Prop} {Q:Unit→Shared→Prop} {E2:Value→Shared→Prop} (hf:env.frame=some L) (hE2:∀s4,wpAny M' A' (leaving env (.ref x)) Q E1 s4→E2 (.ref x) s4) (hE:Exc s.heap x C T)
  (k:∀h',(∀b o,b≠T→s.heap.get? b=some o→h'.get? b=some o)→(∀b o,s.heap.get? b=some o→∃o',h'.get? b=some o')→Exc h' x C T→Q () { s with heap:=h' }) :
  wpAny M A (PySem.passOn what (.ref x) env) Qf E2 s:=by
 obtain ⟨n0,oe,vs,oT,ts,hx,hc,hdc,hdt,h1,hT,hdT,h3⟩:=hE
 have h3z:=(Array.getElem?_eq_some_iff.mp h3).1
 unfold PySem.passOn
 refine wpAny_bind (wpAny_field hx hdt h1 ?_)
 rw [if_neg (show ¬((Value.ref T==Value.none)=true) from by simp)]
 unfold setFlight
 refine wpAny_bind (wpAny_bind (wpAny_field hx hdt h1 ?_))
 rw [if_pos (show (Value.ref T != Value.none)=true from by simp),hf]
 refine wpAny_setField hT hdT h3z (wpAny_throw (hE2 _ ?_))
 show wpAny M' A' (leaving env (.ref x)) Q E1 { s with heap:=s.heap.update T (Obj.mapFields (·.setIfInBounds 3 (rawInt L))) }
 obtain ⟨hU,hhU⟩:∃hU,hU=s.heap.update T (Obj.mapFields (·.setIfInBounds 3 (rawInt L))):=⟨_,rfl⟩
 rw [←hhU]
 have oth:∀b,b≠T→hU.get? b=s.heap.get? b:=fun b nb=>by rw [hhU];exact Heap.get?_update_other _ _ (Ne.symm nb)
 have hT':hU.get? T=some (oT.mapFields (·.setIfInBounds 3 (rawInt L))):=by rw [hhU];exact Heap.get?_update_self _ hT (Obj.isFreed_of_fields (Obj.data_mapFields hdT _))
 have hx':hU.get? x=some oe:=by rw [oth x (Ne.symm n0)];exact hx
 have hdT':(oT.mapFields (·.setIfInBounds 3 (rawInt L))).data = .fields (ts.setIfInBounds 3 (rawInt L)):=Obj.data_mapFields hdT _
 have h3':(ts.setIfInBounds 3 (rawInt L))[3]? = some (rawInt L):=by simp [h3z]
 unfold leaving noteFrame
 simp only [hf]
 refine wpAny_bind (wpAny_bind (wpAny_field (s:={ s with heap:=hU }) hx' hdt h1 ?_))
 rw [if_pos (show (Value.ref T != Value.none)=true from by simp)]
 refine wpAny_bind (wpAny_field (s:={ s with heap:=hU }) hT' hdT' h3' ?_)
 rw [if_pos (show ((rawInt L==rawInt L)=true) from by simp)]
 refine wpAny_pure ?_
 refine wpAny_setFlight_none (s:={ s with heap:=hU }) hx' hdt h1 hT' hdT' (by simp [h3z]) ?_
 refine k _ (fun b o nb e=>?_) (fun b o e=>?_) ⟨n0,oe,vs,_,_,?_,hc,hdc,hdt,h1,Heap.get?_update_self _ hT' (Obj.isFreed_of_fields (Obj.data_mapFields hdT' _)),Obj.data_mapFields hdT' _,by simp [h3z]⟩
 ·rw [Heap.get?_update_other _ _ (Ne.symm nb),oth b nb];exact e
 ·by_cases nb:b=T
  ·rw [nb];exact ⟨_,Heap.get?_update_self _ hT' (Obj.isFreed_of_fields (Obj.data_mapFields hdT' _))⟩
  ·exact ⟨o,by rw [Heap.get?_update_other _ _ (Ne.symm nb),oth b nb];exact e⟩
 ·rw [Heap.get?_update_other _ _ n0];exact hx'
theorem came_back {C T:Addr} {Q:Unit→Shared→Prop} {E2:Value→Shared→Prop} {oe oT:Obj} {vs ts:Array Value} (hf:env.frame=some L) (hE2:∀s4,wpAny M' A' (leaving env (.ref x)) Q E1 s4→E2 (.ref x) s4) (n0:T≠x) (hx:s.heap.get? x=some oe) (hc:oe.cls = .ref C) (hdc:oe.dict=none) (hdt:oe.data = .fields vs) (h1:vs[1]? = some (.ref T)) (hT:s.heap.get? T=some oT) (hdT:oT.data = .fields ts) (h3z:3<ts.size)
  (k:∀h',(∀b o,b≠T→s.heap.get? b=some o→h'.get? b=some o)→(∀b o,s.heap.get? b=some o→∃o',h'.get? b=some o')→Exc h' x C T→Q () { s with heap:=h' }) :
  cameBackBy M A env E2 (.ref x) s:=by
 unfold cameBackBy
 refine wpAny_bind (wpAny_field hx hdt h1 ?_)
 rw [if_neg (show ¬((Value.ref T==Value.none)=true) from by simp)]
 unfold setFlight
 refine wpAny_bind (wpAny_field hx hdt h1 ?_)
 rw [if_pos (show (Value.ref T != Value.none)=true from by simp),hf]
 refine wpAny_setField hT hdT h3z (hE2 _ ?_)
 show wpAny M' A' (leaving env (.ref x)) Q E1 { s with heap:=s.heap.update T (Obj.mapFields (·.setIfInBounds 3 (rawInt L))) }
 obtain ⟨hU,hhU⟩:∃hU,hU=s.heap.update T (Obj.mapFields (·.setIfInBounds 3 (rawInt L))):=⟨_,rfl⟩
 rw [←hhU]
 have oth:∀b,b≠T→hU.get? b=s.heap.get? b:=fun b nb=>by rw [hhU];exact Heap.get?_update_other _ _ (Ne.symm nb)
 have hT':hU.get? T=some (oT.mapFields (·.setIfInBounds 3 (rawInt L))):=by rw [hhU];exact Heap.get?_update_self _ hT (Obj.isFreed_of_fields (Obj.data_mapFields hdT _))
 have hx':hU.get? x=some oe:=by rw [oth x (Ne.symm n0)];exact hx
 have hdT':(oT.mapFields (·.setIfInBounds 3 (rawInt L))).data = .fields (ts.setIfInBounds 3 (rawInt L)):=Obj.data_mapFields hdT _
 have h3':(ts.setIfInBounds 3 (rawInt L))[3]? = some (rawInt L):=by simp [h3z]
 unfold leaving noteFrame
 simp only [hf]
 refine wpAny_bind (wpAny_bind (wpAny_field (s:={ s with heap:=hU }) hx' hdt h1 ?_))
 rw [if_pos (show (Value.ref T != Value.none)=true from by simp)]
 refine wpAny_bind (wpAny_field (s:={ s with heap:=hU }) hT' hdT' h3' ?_)
 rw [if_pos (show ((rawInt L==rawInt L)=true) from by simp)]
 refine wpAny_pure ?_
 refine wpAny_setFlight_none (s:={ s with heap:=hU }) hx' hdt h1 hT' hdT' (by simp [h3z]) ?_
 refine k _ (fun b o nb e=>?_) (fun b o e=>?_) ⟨n0,oe,vs,_,_,?_,hc,hdc,hdt,h1,Heap.get?_update_self _ hT' (Obj.isFreed_of_fields (Obj.data_mapFields hdT' _)),Obj.data_mapFields hdT' _,by simp [h3z]⟩
 ·rw [Heap.get?_update_other _ _ (Ne.symm nb),oth b nb];exact e
 ·by_cases nb:b=T
  ·rw [nb];exact ⟨_,Heap.get?_update_self _ hT' (Obj.isFreed_of_fields (Obj.data_mapFields hdT' _))⟩
  ·exact ⟨o,by rw [Heap.get?_update_other _ _ (Ne.symm nb),oth b nb];exact e⟩
 ·rw [Heap.get?_update_other _ _ n0];exact hx'
end
section
variable {prog:Program} {w:World} {A:Around} {E:Value→Shared→Prop} {s:Shared} {K:PySem.W.Frag} {oe:Obj} {x C D:Addr}
theorem matches_no {Q:Bool→Shared→Prop} (X:K.In s.heap) (hx:s.heap.get? x=some oe) (hc:oe.cls = .ref C) (hk:kitCls K (.ref C) (.ref D)=some false) (hb:mroIn K D (.type "BaseException")=some true) (q:Q false s) :
  wpAny (model prog w) A (excMatches (.ref x) (.ref D)) Q E s:=by
 obtain ⟨L1,L2,L3⟩:=kit_cls (M:=model prog w) X hk
 have L4:=looks_mroIn (M:=model prog w) X hb
 have f:=tc_notTuple
 obtain ⟨hh,g,d,tk,os⟩:=s
 unfold excMatches isExcClass isInstance
 refine wpAny_bind (wpAny_bind (L1.at ?_))
 rw [f]
 refine wpAny_pure ?_
 simp only [Bool.false_eq_true,if_false]
 refine wpAny_bind (wpAny_pure ?_)
 rw [List.forIn_cons]
 refine wpAny_bind (wpAny_bind (wpAny_bind (wpAny_bind (L2.at ?_))))
 rw [if_pos rfl]
 refine L4.at ?_
 rw [if_neg (by decide)]
 refine wpAny_pure ?_
 show wpAny _ _ (forIn [] _ _) _ _ _
 rw [List.forIn_nil]
 refine wpAny_pure ?_
 refine wpAny_bind (wpAny_typeOf_ref hx ?_)
 rw [hc,List.forIn_cons]
 refine wpAny_bind (wpAny_bind (wpAny_bind (L3.at ?_)))
 rw [if_neg (by decide)]
 refine wpAny_pure ?_
 show wpAny _ _ (forIn [] _ _) _ _ _
 rw [List.forIn_nil]
 exact wpAny_pure (wpAny_pure q)
end
section
variable {M:Model} {A:Around} {E:Value→Shared→Prop} {s:Shared} {base:Heap} {env:Env} {outer:List Env} {L x:Addr}
theorem notes_nest {C T0:Addr} {Q:Unit→Shared→Prop} (hfr:A.frames=some (env::outer)) (hl:s.heap.FunFrames base (env::outer)) (hf:env.frame=some L) (hE:Exc s.heap x C T0)
  (k:∀h' T,Kg (frs (env::outer)) x T0 s.heap h'→s.heap.get? T=none→Exc h' x C T→Q () { s with heap:=h' }):wpAny M A (noteFrame (.ref x) env) (fun _ s1=>wpAny M A (setFlight (.ref x) none) Q E s1) E s:=by
 obtain ⟨n0,oe,vs,oT,ts,hx,hc,hdc,hdt,h1,hT,hdT,h3⟩:=hE
 have hsz:=(Array.getElem?_eq_some_iff.mp h1).1
 have h3z:=(Array.getElem?_eq_some_iff.mp h3).1
 have fx:T0∉frs (env::outer):=fun hm=>by
  obtain ⟨_,o,ho,hnf⟩:=hl.mem hm
  rw [hT] at ho;cases ho
  exact hnf ts hdT
 unfold noteFrame
 simp only [hf]
 refine wpAny_bind (wpAny_field hx hdt h1 ?_)
 rw [if_pos (show (Value.ref T0 != Value.none)=true from by simp)]
 refine wpAny_bind (wpAny_field hT hdT h3 ?_)
 rw [if_neg (show ¬((Value.none==rawInt L)=true) from by simp [rawInt])]
 refine wpAny_bind (wpAny_setField hT hdT h3z ?_)
 obtain ⟨hU,hhU⟩:∃hU,hU=s.heap.update T0 (Obj.mapFields (·.setIfInBounds 3 Value.none)):=⟨_,rfl⟩
 rw [←hhU]
 have oth:∀b,b≠T0→hU.get? b=s.heap.get? b:=fun b nb=>by rw [hhU];exact Heap.get?_update_other _ _ (Ne.symm nb)
 have atT:∃o,hU.get? T0=some o:=⟨_,by rw [hhU];exact Heap.get?_update_self _ hT (Obj.isFreed_of_fields (Obj.data_mapFields hdT _))⟩
 have hl2:hU.FunFrames base (env::outer):=hl.of_keeps fun b o e hnf=>⟨o,by
  rw [oth b fun z=>hnf ts (by rw [z,hT] at e;cases e;exact hdT)];exact e,rfl⟩
 refine entry_in (s:={ s with heap:=hU }) hfr hl2 hf (by show hU.get? x=_;rw [oth x (Ne.symm n0)];exact hx) hdt hsz fun h' T oT' ts' kf sT nT fT ex eT dT h3'=>?_
 have sT:hU.get? T=none:=sT
 have kf:Kf (frs (env::outer)) x hU h':=kf
 obtain ⟨o,us,e1,e2,e3,e4,e5⟩:=mapped ex hdt hsz
 have nT0:T≠T0:=fun z=>by
  obtain ⟨o,e⟩:=atT
  rw [z,e] at sT;cases sT
 refine unflown (s:={ s with heap:=h' }) (h0:=hU) kf sT nT fT e1 (by rw [e2,hc]) (by rw [e3,hdc]) e4 e5 eT dT h3' fun h'' kk ee=>k h'' T ⟨fun b o e nf nx nt=>kk.keep b o (by rw [oth b nt];exact e) nf nx,fun b o e mf=>kk.slot b o (by rw [oth b fun z=>fx (by rw [←z];exact mf)];exact e) mf,fun b o e=>?_⟩ (by rw [←oth T nT0];exact sT) ee
 obtain ⟨_,ox,_,oT2,_,g1,_,_,_,_,g2,_⟩:=ee
 by_cases bx:b=x
 ·exact ⟨_,by rw [bx];exact g1⟩
 ·obtain ⟨ob,eb⟩:∃ob,hU.get? b=some ob:=by
   by_cases bt:b=T0
   ·rw [bt];exact atT
   ·exact ⟨o,by rw [oth b bt];exact e⟩
  by_cases mf:b∈frs (env::outer)
  ·obtain ⟨sl,q⟩:=kk.slot b ob eb mf
   exact ⟨_,q⟩
  ·exact ⟨_,kk.keep b ob eb mf bx⟩
theorem notes_raw {C T0:Addr} {Q:Unit→Shared→Prop} (hfr:A.frames=some (env::outer)) (hl:s.heap.FunFrames base (env::outer)) (hf:env.frame=some L) (hE:Exc s.heap x C T0)
  (k:∀h' T o us oT' ts',Kg (frs (env::outer)) x T0 s.heap h'→s.heap.get? T=none→T≠x→h'.get? x=some o→o.cls = .ref C→o.dict=none→o.data = .fields us→us[1]? = some (.ref T)→h'.get? T=some oT'→oT'.data = .fields ts'→3<ts'.size→Q () { s with heap:=h' }):wpAny M A (noteFrame (.ref x) env) Q E s:=by
 obtain ⟨n0,oe,vs,oT,ts,hx,hc,hdc,hdt,h1,hT,hdT,h3⟩:=hE
 have hsz:=(Array.getElem?_eq_some_iff.mp h1).1
 have h3z:=(Array.getElem?_eq_some_iff.mp h3).1
 have fx:T0∉frs (env::outer):=fun hm=>by
  obtain ⟨_,o,ho,hnf⟩:=hl.mem hm
  rw [hT] at ho;cases ho
  exact hnf ts hdT
 unfold noteFrame
 simp only [hf]
 refine wpAny_bind (wpAny_field hx hdt h1 ?_)
 rw [if_pos (show (Value.ref T0 != Value.none)=true from by simp)]
 refine wpAny_bind (wpAny_field hT hdT h3 ?_)
 rw [if_neg (show ¬((Value.none==rawInt L)=true) from by simp [rawInt])]
 refine wpAny_bind (wpAny_setField hT hdT h3z ?_)
 obtain ⟨hU,hhU⟩:∃hU,hU=s.heap.update T0 (Obj.mapFields (·.setIfInBounds 3 Value.none)):=⟨_,rfl⟩
 rw [←hhU]
 have oth:∀b,b≠T0→hU.get? b=s.heap.get? b:=fun b nb=>by rw [hhU];exact Heap.get?_update_other _ _ (Ne.symm nb)
 have atT:∃o,hU.get? T0=some o:=⟨_,by rw [hhU];exact Heap.get?_update_self _ hT (Obj.isFreed_of_fields (Obj.data_mapFields hdT _))⟩
 have hl2:hU.FunFrames base (env::outer):=hl.of_keeps fun b o e hnf=>⟨o,by
  rw [oth b fun z=>hnf ts (by rw [z,hT] at e;cases e;exact hdT)];exact e,rfl⟩
 refine entry_in (s:={ s with heap:=hU }) hfr hl2 hf (by show hU.get? x=_;rw [oth x (Ne.symm n0)];exact hx) hdt hsz fun h' T oT' ts' kf sT nT fT ex eT dT h3'=>?_
 have sT:hU.get? T=none:=sT
 have kf:Kf (frs (env::outer)) x hU h':=kf
 obtain ⟨o,us,e1,e2,e3,e4,e5⟩:=mapped ex hdt hsz
 have nT0:T≠T0:=fun z=>by
  obtain ⟨o,e⟩:=atT
  rw [z,e] at sT;cases sT
 refine k h' T o us oT' ts' ⟨fun b o e nf nx nt=>kf.keep b o (by rw [oth b nt];exact e) nf nx,fun b o e mf=>kf.slot b o (by rw [oth b fun z=>fx (by rw [←z];exact mf)];exact e) mf,fun b o e=>?_⟩ (by rw [←oth T nT0];exact sT) nT e1 (by rw [e2,hc]) (by rw [e3,hdc]) e4 e5 eT dT h3'
 by_cases bx:b=x
 ·exact ⟨_,by rw [bx];exact e1⟩
 ·obtain ⟨ob,eb⟩:∃ob,hU.get? b=some ob:=by
   by_cases bt:b=T0
   ·rw [bt];exact atT
   ·exact ⟨o,by rw [oth b bt];exact e⟩
  by_cases mf:b∈frs (env::outer)
  ·obtain ⟨sl,q⟩:=kf.slot b ob eb mf
   exact ⟨_,q⟩
  ·exact ⟨_,kf.keep b ob eb mf bx⟩
end
abbrev Cx.inT (X:Cx) (h0:ExceptHandler) (hs:List ExceptHandler) (Q:Flow→Shared→Prop):Cx:=
 { X with xe:=fun e s1=>wpAny (model X.prog X.w) X.A (noteFrame e X.env) (fun _ s2=>wpAny (model X.prog X.w) X.A (setFlight e none) (fun _ s3=>wpAny (model X.prog X.w) X.A (handleBy e X.env (h0::hs)) Q X.xe s3) X.xe s2) X.xe s1 }
theorem okT {X:Cx} {h0:ExceptHandler} {hs:List ExceptHandler} {Q:Flow→Shared→Prop} (k:X.Ok):(X.inT h0 hs Q).Ok:=⟨k.mod,k.kind,k.glob,k.blt,k.above,k.inj,k.has,k.cab,k.hd,k.frames,k.stk,k.exf,k.bs,k.bsz,k.noex,k.exfs,k.funs,k.frf⟩
theorem okT' {X:Cx} {h0:ExceptHandler} {hs:List ExceptHandler} {Q:Flow→Shared→Prop} (k:(X.inT h0 hs Q).Ok):X.Ok:=⟨k.mod,k.kind,k.glob,k.blt,k.above,k.inj,k.has,k.cab,k.hd,k.frames,k.stk,k.exf,k.bs,k.bsz,k.noex,k.exfs,k.funs,k.frf⟩
theorem Inv.inT {X:Cx} {h0:ExceptHandler} {hs:List ExceptHandler} {Q:Flow→Shared→Prop} {pins:List (Addr×Obj)} {σ:St} {H:Hp} {s:Shared} (I:Inv X pins σ H s):Inv (X.inT h0 hs Q) pins σ H s:=
 ⟨okT I.ok,I.os,I.bare,I.base,I.loc,I.cell,I.free,I.freeC,I.pin,I.hok,I.len⟩
theorem Inv.outT {X:Cx} {h0:ExceptHandler} {hs:List ExceptHandler} {Q:Flow→Shared→Prop} {pins:List (Addr×Obj)} {σ:St} {H:Hp} {s:Shared} (I:Inv (X.inT h0 hs Q) pins σ H s):Inv X pins σ H s:=
 ⟨okT' I.ok,I.os,I.bare,I.base,I.loc,I.cell,I.free,I.freeC,I.pin,I.hok,I.len⟩
theorem fs_tryM {X:Cx} {K:PySem.W.Frag} {body:List Stmt} {h0:ExceptHandler} {hs:List ExceptHandler} {pos:Pos} {F:FS} (hb:∀Q,QB (X.inT h0 hs Q) body (simS K F)):QS X (.Try body (h0::hs) [] [] pos) (simS K F):=by
 constructor
 intro pins s σ H DD I h
 refine wpAny_Try_except (wpAny_mono ((hb (SP X pins DD)).h pins s σ H DD I.inT h) (fun f s1 q=>?_) fun _ _ z=>z)
 cases f with
 | next=>
  obtain ⟨σ',H',J,q⟩:=q
  exact wpAny_execs_nil ⟨σ',H',J.outT,q⟩
 | ret v=>
  obtain ⟨u,σ',H',J,r,q⟩:=q
  exact ⟨u,σ',H',J.outT,r,q⟩
 | brk=>
  obtain ⟨σ',H',J,q⟩:=q
  exact ⟨σ',H',J.outT,q⟩
 | cont=>
  obtain ⟨σ',H',J,q⟩:=q
  exact ⟨σ',H',J.outT,q⟩
section
variable {P:Program} {w:World} {K:PySem.W.Frag} {mg:Str→Option Value} {base:Heap} {N:List Str} {qual:Str} {scope:Scope} {f:Addr} {cdv:Value} {A:Around} {outer:List Env} {s0:Shared} {H0:Hp} {Ew:XK}
theorem raise_try {W:Addr→Prop} {Q:Flow→Shared→Prop} {cn:Str} {kp hpos:Pos} {b0:Stmt} {bs:List Stmt} {D:Addr} (hW:∀C,W C→Ew (.ref C) none H0) (hgD:Gl (cxOf (CXh P w) P w K mg base N qual scope f cdv A outer s0 H0 Ew) cn) (hmD:mg cn=some (.ref D))
  (hno:∀C,W C→kitCls K (.ref C) (.ref D)=some false) (hbD:mroIn K D (.type "BaseException")=some true) (hmk:∀x,((A.deeper (envOfC qual scope s0.heap.objs.size f cdv)).mark (some (.ref x))).frames=(A.deeper (envOfC qual scope s0.heap.objs.size f cdv)).frames:=by intro _;rfl) (hdc:(cn==("__debug__":Str))=false:=by decide) :
  RaiseOk ((cxOf (CXh P w) P w K mg base N qual scope f cdv A outer s0 H0 Ew).inT (.ExceptHandler (some (.Name cn kp)) none (b0::bs) hpos) [] Q) W:=by
 intro pins σ H1 H' s1 s2 x C T I1' os bare un nx nT ⟨hx0,hT0,hok⟩ ee hw
 have I1:=I1'.outT
 have un:Un (frs (envOfC qual scope s0.heap.objs.size f cdv::outer)) [] H1 H' s1.heap s2.heap:=un
 have hok:HOk P w H' s2.heap:=hok
 have hfs:s2.heap.FunFrames base (envOfC qual scope s0.heap.objs.size f cdv::outer):=frames_un un (fun b hb=>⟨I1.stkFree b hb,hb⟩) I1.stack
 refine notes_nest (s:=s2) (outer:=outer) I1.ok.frames hfs rfl ee fun h3 T3 kg nT3 ee3=>?_
 have ne:∀b o,s1.heap.get? b=some o→b≠x∧b≠T:=fun b o e=>⟨fun z=>(by rw [z,nx] at e;cases e),fun z=>(by rw [z,nT] at e;cases e)⟩
 have nfr:∀b,b∈frs (envOfC qual scope s0.heap.objs.size f cdv::outer)→H' b=none:=fun b m=>by
  obtain ⟨_,o,ho,_⟩:=I1.stack.mem m
  exact un.free b o ho (I1.stkFree b m) (by simp)
 have hok3:HOk P w H' h3:=hok_kept hok fun b v hb q=>kg.keep b v q (fun m=>hb (nfr b m)) (fun z=>hb (by rw [z];exact hx0)) fun z=>hb (by rw [z];exact hT0)
 have un3:Un (frs (envOfC qual scope s0.heap.objs.size f cdv::outer)) [] H1 H' s1.heap h3:=by
  refine ⟨fun b o e n nf _=>kg.keep b o (un.keep b o e n nf (by simp)) nf (ne b o e).1 (ne b o e).2,fun b o e n mf _=>?_,un.free,fun b o e _=>?_,un.tups,un.frzs,un.tbls⟩
  ·obtain ⟨sl,q⟩:=un.slot b o e n mf (by simp)
   obtain ⟨sl',q'⟩:=kg.slot b _ q mf
   exact ⟨sl',q'⟩
  ·obtain ⟨o2,q2⟩:=un.there b o e (by simp)
   exact kg.there b o2 q2
 have I3:=I1.call' (s':={ s2 with heap:=h3 }) os un3 hok3 bare (fun b z=>absurd z (by simp))
 have I3x:=I3.inX x ((hmk x).trans I1.ok.frames)
 refine wpAny_handleBy_cons (codeAny_handlers_test (ld_glob (X:=(cxOf (CXh P w) P w K mg base N qual scope f cdv A outer s0 H0 Ew).inX x) I3x hgD hmD ?_ hdc)) (by intro q;cases q)
 obtain ⟨_,oe,_,_,_,g1x,g2x,_⟩:=id ee3
 refine matches_no (s:={ s2 with heap:=h3 }) I3x.kIn g1x g2x (hno C hw) hbD ?_
 refine wpAny_handleBy_nil (fly_on (s:={ s2 with heap:=h3 }) rfl (fun s4 z=>z) ee3 fun h5 k5 t5 ee5=>?_)
 refine cxh_of (s2:=s2) (h':=h5) I1 os bare un nx nT hx0 hT0 hok ⟨fun b o e nf n1 n2=>k5 b o (fun z=>?_) (kg.keep b o e nf n1 n2),fun b o e mf=>?_,fun b o e=>?_⟩ nT3 ee5 (hW C hw)
 ·rw [z,nT3] at e;cases e
 ·obtain ⟨sl,q⟩:=kg.slot b o e mf
  exact ⟨sl,k5 b _ (fun z=>by rw [z,nT3] at e;cases e) q⟩
 ·obtain ⟨o2,q2⟩:=kg.there b o e
  exact t5 b o2 q2
end
abbrev Cx.inL (X:Cx):Cx:={ X with xe:=notedBy (model X.prog X.w) X.A X.env (cameBackBy (model X.prog X.w) X.A X.env X.xe) }
theorem okL {X:Cx} (k:X.Ok):X.inL.Ok:=⟨k.mod,k.kind,k.glob,k.blt,k.above,k.inj,k.has,k.cab,k.hd,k.frames,k.stk,k.exf,k.bs,k.bsz,k.noex,k.exfs,k.funs,k.frf⟩
theorem okL' {X:Cx} (k:X.inL.Ok):X.Ok:=⟨k.mod,k.kind,k.glob,k.blt,k.above,k.inj,k.has,k.cab,k.hd,k.frames,k.stk,k.exf,k.bs,k.bsz,k.noex,k.exfs,k.funs,k.frf⟩
theorem Inv.inL {X:Cx} {pins:List (Addr×Obj)} {σ:St} {H:Hp} {s:Shared} (I:Inv X pins σ H s):Inv X.inL pins σ H s:=⟨okL I.ok,I.os,I.bare,I.base,I.loc,I.cell,I.free,I.freeC,I.pin,I.hok,I.len⟩
theorem Inv.outL {X:Cx} {pins:List (Addr×Obj)} {σ:St} {H:Hp} {s:Shared} (I:Inv X.inL pins σ H s):Inv X pins σ H s:=⟨okL' I.ok,I.os,I.bare,I.base,I.loc,I.cell,I.free,I.freeC,I.pin,I.hok,I.len⟩
section
variable {X:Cx} {pos:Pos}
theorem ps_whileL {c:Expr} {body:List Stmt} {tc:TT} {tb:TS} (hc:PT X.inL c tc) (hb:PSs X.inL body tb):PS X (.While c body [] pos) (tWhile tc tb):=by
 intro pins s σ H D I h
 obtain ⟨W,⟨m0,w0⟩,turn⟩:=h
 refine wpAny_While (codeAny_whileLoop (fun n s'=>∃σ' H',Inv X pins σ' H' s'∧W n σ' H') ?_ m0 ⟨σ,H,I,w0⟩)
 rintro n s1 ⟨σ1,H1,I1,w1⟩
 refine thn (hc pins s1 σ1 H1 _ I1.inL (turn n σ1 H1 w1)) fun b s2 ⟨H2,I2,q2⟩=>?_
 cases b with
 | true=>
  obtain ⟨N,hN,q2⟩:=q2
  rw [if_pos rfl]
  refine thn (hb pins s2 σ1 H2 _ I2 q2) fun f s3 q3=>?_
  cases f with
  | next=>
   obtain ⟨σ3,H3,I3,n3⟩:=q3
   obtain ⟨m',hm,w3⟩:=hN σ3 H3 n3
   exact ⟨m',hm,σ3,H3,I3.outL,w3⟩
  | cont=>
   obtain ⟨σ3,H3,I3,n3⟩:=q3
   obtain ⟨m',hm,w3⟩:=hN σ3 H3 n3
   exact ⟨m',hm,σ3,H3,I3.outL,w3⟩
  | brk=>
   obtain ⟨σ3,H3,I3,n3⟩:=q3
   exact ⟨σ3,H3,I3.outL,n3⟩
  | ret v=>
   obtain ⟨u,σ3,H3,I3,r3,n3⟩:=q3
   exact ⟨u,σ3,H3,I3.outL,r3,n3⟩
 | false=>
  rw [if_neg Bool.false_ne_true]
  exact wpAny_execs_nil ⟨σ1,H2,I2.outL,q2⟩
theorem qs_whileL {c:Expr} {body:List Stmt} {tc:TT} {tbd:TS} (hc:QT X.inL c tc) (hb:QB X.inL body tbd):QS X (.While c body [] pos) (tWhile tc tbd):=⟨ps_whileL hc.h hb.h⟩
end
section
variable {X:Cx} {K:PySem.W.Frag} {pos:Pos} {c:Expr} {body:List Stmt} {Fp:FB} {F:FS}
theorem fs_whileL (hc:QT X.inL c (simB K Fp)) (hb:QB X.inL body (simS K F)):QS X (.While c body [] pos) (simS K (sWhile Fp F)):=by
 refine (qs_whileL hc hb).le fun D σ H hl ⟨B,E,DT,re,⟨W,⟨m0,w0⟩,hF⟩,l⟩=>?_
 refine ⟨fun m σ' H'=>∃E',W m E'∧Gs B H σ E H' σ' E'∧RE K B H' σ' E',⟨m0,E,w0,Kp.refl _ _,re⟩,?_⟩
 rintro m σ1 H1 ⟨E1,w1,g1,re1⟩
 refine afterB (P:=fun b E'=>if b=true then F { DT with nx:=fun E2=>∃m',m'<m∧W m' E2,ct:=fun E2=>∃m',m'<m∧W m' E2,bk:=DT.nx } E' else DT.nx E') re1 (hF m E1 w1) fun b H2 E2 q g2 re2=>?_
 cases b
 ·exact l.nx _ _ _ q (g1.trans g2) re2
 ·refine ⟨fun σ' H'=>∃m',m'<m∧∃E',W m' E'∧Gs B H σ E H' σ' E'∧RE K B H' σ' E',fun σ' H' z=>z,B,E2,_,re2,q,?_⟩
  have l2:=l.step (g1.trans g2)
  exact ⟨fun σ' H' E' ⟨m',hm,w⟩ g re'=>⟨m',hm,E',w,(g1.trans g2).trans g,re'⟩,l2.rt,fun σ' H' E' z g re'=>l2.nx _ _ _ z g re',fun σ' H' E' ⟨m',hm,w⟩ g re'=>⟨m',hm,E',w,(g1.trans g2).trans g,re'⟩⟩
end
section
variable {P:Program} {w:World} {K:PySem.W.Frag} {mg:Str→Option Value} {base:Heap} {N:List Str} {qual:Str} {scope:Scope} {f:Addr} {cdv:Value} {A:Around} {outer:List Env} {s0:Shared} {H0:Hp} {Ew:XK}
theorem raise_loop {W:Addr→Prop} (hW:∀C,W C→Ew (.ref C) none H0):RaiseOk (cxOf (CXh P w) P w K mg base N qual scope f cdv A outer s0 H0 Ew).inL W:=by
 intro pins σ H1 H' s1 s2 x C T I1' os bare un nx nT ⟨hx0,hT0,hok⟩ ee hw
 have I1:=I1'.outL
 have un:Un (frs (envOfC qual scope s0.heap.objs.size f cdv::outer)) [] H1 H' s1.heap s2.heap:=un
 have hok:HOk P w H' s2.heap:=hok
 have hfs:s2.heap.FunFrames base (envOfC qual scope s0.heap.objs.size f cdv::outer):=frames_un un (fun b hb=>⟨I1.stkFree b hb,hb⟩) I1.stack
 refine notes_raw (s:=s2) (outer:=outer) I1.ok.frames hfs rfl ee fun h3 T3 o us oT ts kg nT3 n0 e1 e2 e3 e4 e5 e6 e7 e8=>?_
 refine came_back (s:={ s2 with heap:=h3 }) rfl (fun s4 z=>z) n0 e1 e2 e3 e4 e5 e6 e7 e8 fun h5 k5 t5 ee5=>?_
 refine cxh_of (s2:=s2) (h':=h5) I1 os bare un nx nT hx0 hT0 hok ⟨fun b o e nf n1 n2=>k5 b o (fun z=>?_) (kg.keep b o e nf n1 n2),fun b o e mf=>?_,fun b o e=>?_⟩ nT3 ee5 (hW C hw)
 ·rw [z,nT3] at e;cases e
 ·obtain ⟨sl,q⟩:=kg.slot b o e mf
  exact ⟨sl,k5 b _ (fun z=>by rw [z,nT3] at e;cases e) q⟩
 ·obtain ⟨o2,q2⟩:=kg.there b o e
  exact t5 b o2 q2
end
section
variable {M:Model} {A:Around} {E:Value→Shared→Prop} {s:Shared} {base:Heap} {env:Env} {outer:List Env} {L x:Addr} {oe:Obj} {vs:Array Value}
theorem new_raw {C:Addr} {h0:Heap} {Q:Unit→Shared→Prop} (hfr:A.frames=some (env::outer)) (hl:h0.FunFrames base (env::outer)) (hf:env.frame=some L) (k0:∀b o,h0.get? b=some o→s.heap.get? b=some o) (hn:h0.get? x=none) (hx:s.heap.get? x=some oe) (hc:oe.cls = .ref C) (hdc:oe.dict=none) (hdt:oe.data = .fields vs) (h1:vs[1]? = some .none)
  (k:∀h' T o us oT' ts',Kf (frs (env::outer)) x h0 h'→h0.get? T=none→T≠x→h'.get? x=some o→o.cls = .ref C→o.dict=none→o.data = .fields us→us[1]? = some (.ref T)→h'.get? T=some oT'→oT'.data = .fields ts'→3<ts'.size→Q () { s with heap:=h' }):wpAny M A (noteFrame (.ref x) env) Q E s:=by
 have hl1:s.heap.FunFrames base (env::outer):=hl.of_keeps fun b o e _=>⟨o,k0 b o e,rfl⟩
 have hsz:=(Array.getElem?_eq_some_iff.mp h1).1
 unfold noteFrame
 simp only [hf]
 refine wpAny_bind (wpAny_field hx hdt h1 ?_)
 rw [if_neg (by decide)]
 refine entry_in hfr hl1 hf hx hdt hsz fun h' T oT ts kf sT nT fT ex eT dT h3=>?_
 obtain ⟨o,us,e1,e2,e3,e4,e5⟩:=mapped ex hdt hsz
 have gT:h0.get? T=none:=by
  cases q:h0.get? T with
  | none=>rfl
  | some o'=>rw [k0 T o' q] at sT;cases sT
 have kf0:Kf (frs (env::outer)) x h0 h':=⟨fun b o e nf nx=>kf.keep b o (k0 b o e) nf nx,fun b o e mf=>kf.slot b o (k0 b o e) mf⟩
 exact k h' T o us oT ts kf0 gT nT e1 (by rw [e2,hc]) (by rw [e3,hdc]) e4 e5 eT dT h3
end
section
variable {P:Program} {w:World} {K:PySem.W.Frag} {mg:Str→Option Value} {base:Heap}
variable {N:List Str} {qual:Str} {scope:Scope} {f:Addr} {cdv:Value} {A:Around} {outer:List Env} {s0:Shared} {H0:Hp} {Ew:XK} {C:Addr} {n:Str} {e:Expr} {es:List Expr} {np cpos pos:Pos}
theorem ps_raiseL {t:TA} (hx:xclsIn K C none=true) (hg:Gl ((cxOf (CXh P w) P w K mg base N qual scope f cdv A outer s0 H0 Ew).inL) n) (hm:mg n=some (.ref C)) (ha:PA ((cxOf (CXh P w) P w K mg base N qual scope f cdv A outer s0 H0 Ew).inL) (e::es) t) (hdb:(n==("__debug__":Str))=false)
  (he:starEach (e::es) (envOfC qual scope s0.heap.objs.size f cdv)=(false,eval e (envOfC qual scope s0.heap.objs.size f cdv))::starEach es (envOfC qual scope s0.heap.objs.size f cdv)) (hpl:(backTo cpos (starEach es (envOfC qual scope s0.heap.objs.size f cdv))).any (·.1)=false) :
  PS ((cxOf (CXh P w) P w K mg base N qual scope f cdv A outer s0 H0 Ew).inL) (.Raise (some (.Call (.Name n np) (e::es) [] cpos)) none pos) (fun D σ H=>t σ H fun vs _=>vs.length≤1000∧Ew (.ref C) none H0):=by
 intro pins s σ H D I h
 obtain ⟨nm,q,Nn,bs,tl,hdct,sn,sub,ab,col,dd,k0,k1,k2,k3,k5,mN,hC,hN,hi,Tl⟩:=xat_of I.ok.mod.kin hx
 refine wpAny_Raise_call_subT (nm:=nm) (q:=q) (N:=Nn) (bs:=bs) (hdct:=hdct) (sn:=sn) (sub:=sub) (ab:=ab) (col:=col) (dd:=dd) (k0:=k0) (k1:=k1) (k2:=k2) (k3:=k3) (k5:=k5) (mN:=mN) (bmB:=mroV) PySem.F.excBase_ValueError (Tl.hasType (by decide)) (I.ok.hd rfl) (by show (backTo cpos (starEach (e::es) (envOfC qual scope s0.heap.objs.size f cdv))).any (·.1)=false;rw [he];show (false||(backTo cpos (starEach es (envOfC qual scope s0.heap.objs.size f cdv))).any (·.1))=false;rw [hpl];rfl) hi (ld_glob I hg hm ⟨rfl,?_⟩ hdb)
 have hA:=ha cpos pins s σ H _ I h
 change wpAny _ _ (spliced (backTo cpos (starEach (e::es) (envOfC qual scope s0.heap.objs.size f cdv)))) _ _ _ at hA
 change wpAny _ _ (evalArgs _ _ (backTo cpos (starEach (e::es) (envOfC qual scope s0.heap.objs.size f cdv))) _) _ _ _
 rw [he] at hA ⊢
 refine Calls.evalArgs_plain (thn hA fun us s2 ⟨vs,H1,I1,r,hl,hw⟩=>⟨rfl,?_,I1.bk _ _ hC,hN.keeps I1.bk,Tl.keeps I1.bk,fun h' x hmk=>?_⟩)
 ·show us.length≤_
  have:=r.length
  rw [sizeLine_eq];omega
 obtain ⟨tt,hex,_,_⟩:=hmk.there
 refine new_raw (s:={ s2 with heap:=h' }) (h0:=s2.heap) (outer:=outer) I1.ok.frames I1.stack rfl hmk.keeps hmk.new hex rfl rfl rfl rfl fun h3 T o us oT ts kf3 nT n0 e1 e2 e3 e4 e5 e6 e7 e8=>?_
 refine came_back (s:={ s2 with heap:=h3 }) rfl (fun s4 z=>z) n0 e1 e2 e3 e4 e5 e6 e7 e8 fun h5 k5 t5 ee=>?_
 have kf:Kf (frs (envOfC qual scope s0.heap.objs.size f cdv::outer)) x s2.heap h5:=by
  refine ⟨fun b o e nf n1=>k5 b o (fun z=>by rw [z,nT] at e;cases e) (kf3.keep b o e nf n1),fun b o e mf=>?_⟩
  obtain ⟨sl,q⟩:=kf3.slot b o e mf
  exact ⟨sl,k5 b _ (fun z=>by rw [z,nT] at e;cases e) q⟩
 have b0:=I1.base
 have fre:∀b,s2.heap.get? b=none→s0.heap.get? b=none:=fun b e=>by
  cases q:s0.heap.get? b with
  | none=>rfl
  | some o=>
   obtain ⟨o',e'⟩:=b0.there b o q (by intro z;cases z)
   rw [e] at e';cases e'
 have nfr:∀b o,s0.heap.get? b=some o→b∉frs outer→b∉frs (envOfC qual scope s0.heap.objs.size f cdv::outer):=fun b o e nf m=>by
  rcases List.mem_cons.mp (I1.stkSub b m) with z | z
  ·exact absurd (Heap.lt_size e) (by rw [z];exact Nat.lt_irrefl _)
  ·exact nf z
 have mfr:∀b,b∈frs outer→b∈frs (envOfC qual scope s0.heap.objs.size f cdv::outer):=fun b m=>by
  unfold frs at m ⊢
  rw [List.filterMap_cons]
  split
  ·exact m
  ·exact List.mem_cons_of_mem _ m
 have nx:∀b o,s2.heap.get? b=some o→b≠x:=fun b o e z=>by rw [z,hmk.new] at e;cases e
 refine ⟨x,C,T,H1,rfl,I1.os,I1.bare,⟨fun b o e n nf _=>?_,fun b o e n mf _=>?_,b0.free,fun b o e _=>?_,b0.tups,b0.frzs,b0.tbls⟩,fre x hmk.new,fre T nT,⟨tracked_in I1.hok hmk.new,tracked_in I1.hok nT,hok_kept I1.hok fun b v hb q=>kf.keep b v q (fun m=>hb (I1.stkFree b m)) (nx b v q)⟩,ee,hw⟩
 ·have q:=b0.keep b o e n nf (by intro z;cases z)
  exact kf.keep b o q (nfr b o e nf) (nx b o q)
 ·obtain ⟨sl,q⟩:=b0.slot b o e n mf (by intro z;cases z)
  obtain ⟨sl',q'⟩:=kf.slot b _ q (mfr b mf)
  exact ⟨sl',q'⟩
 ·obtain ⟨o',q⟩:=b0.there b o e (by intro z;cases z)
  by_cases m:b∈frs (envOfC qual scope s0.heap.objs.size f cdv::outer)
  ·obtain ⟨sl,q'⟩:=kf.slot b o' q m
   exact ⟨_,q'⟩
  ·exact ⟨o',kf.keep b o' q m (nx b o' q)⟩
theorem fs_raiseL {W:Prop} {m:Nat} {Fr:FA} (hW:W→Ew (.ref C) none H0) (hx:xclsIn K C none=true) (hg:Gl ((cxOf (CXh P w) P w K mg base N qual scope f cdv A outer s0 H0 Ew).inL) n) (hm:mg n=some (.ref C)) (ha:QA ((cxOf (CXh P w) P w K mg base N qual scope f cdv A outer s0 H0 Ew).inL) (e::es) (simA K m Fr)) (hz:m≤1000:=by decide) (hdb:(n==("__debug__":Str))=false:=by decide)
  (hs:noStar (e::es)=true:=by rfl):QS ((cxOf (CXh P w) P w K mg base N qual scope f cdv A outer s0 H0 Ew).inL) (.Raise (some (.Call (.Name n np) (e::es) [] cpos)) none pos) (simS K (sRaise Fr W)):=by
 have he:isStar e=false∧noStar es=true:=by simpa [noStar] using hs
 refine QS.le ⟨ps_raiseL hx hg hm ha.h hdb (star_ok he.1) (star_any he.2)⟩ fun D σ H hl ⟨B,E,DT,re,hF,l⟩=>?_
 exact ⟨B,σ,E,fun _ _=>W,⟨[],by simp⟩,re,hF,fun rs E' vs H' S' q g re' rr hn=>⟨by rw [hn];exact hz,hW q⟩⟩
end
end L2
set_option Elab.async false
set_option linter.all false
set_option maxRecDepth 100000
set_option maxHeartbeats 4000000
namespace L2
open PySem PySem.Spec PySem.W PySem.Calls PyProof.Rows PySem.SeqAt
theorem bls_vals:∀{bs:List Bool} {us:List Value},Vals (bs.map V.bl) us→us=bs.map Value.bool
 | [],_,.nil=>rfl
 | _::_,_,.cons r q=>by cases r;rw [bls_vals q];rfl
theorem countB (k:Bool):∀bs:List Bool,(bs.map Value.bool).countP (isBoolOf k)=bs.countP (·==k)
 | []=>rfl
 | b::bs=>by rw [List.map_cons,List.countP_cons,List.countP_cons,countB k bs];rfl
section
variable {X:Cx}
def rCountB:V→List V→Hp→VK→Prop:=fun x vs H Q=>∃(l:Addr) (bs:List Bool) (k:Bool),x = .ref l∧vs=[.bl k]∧H l=some (.lst (bs.map V.bl))∧Q (.int ((bs.countP (·==k):Nat):Int)) H
theorem mt_countB:MtM X "list.count" rCountB:=by
 intro pins s σ H x vs v us Q I rx rv h
 obtain ⟨l,bs,k,rfl,rfl,hH,q⟩:=h
 cases rx
 obtain ⟨u,rfl,ru⟩:=rv.one
 cases ru
 obtain ⟨z,its,n,r,hl,e⟩:=I.lstM hH
 obtain rfl:=bls_vals r
 refine call_meets F.slot_list_count ⟨_,e,rfl⟩ F.entry_list_count (F.args_list_count_2 _ _) (list_countAt l _ n none #[] (.bool k) (isBoolOf k)) ⟨e,fun y hy=>?_,?_⟩
 ·obtain ⟨b,_,rfl⟩:=List.mem_map.mp (by simpa using hy:y∈bs.map Value.bool)
  exact EqAt.bool_bool b k
 ·refine ⟨.int _,H,I.tok _,⟨_,rfl⟩,?_⟩
  show Q (.int (((bs.map Value.bool).toArray.toList.countP (isBoolOf k):Nat):Int)) H
  rw [show (bs.map Value.bool).toArray.toList=bs.map Value.bool from rfl,countB];exact q
def rIndexB:V→List V→Hp→VK→Prop:=fun x vs H Q=>∃(l:Addr) (bs:List Bool) (k:Bool) (j:Nat),x = .ref l∧vs=[.bl k]∧H l=some (.lst (bs.map V.bl))∧bs.length≤1000∧bs[j]? = some k∧(∀m,m<j→bs[m]? = some (!k))∧Q (.int (j:Nat)) H
theorem mt_indexB:MtM X "list.index" rIndexB:=by
 intro pins s σ H x vs v us Q I rx rv h
 obtain ⟨l,bs,k,j,rfl,rfl,hH,hlen,hj,hm,q⟩:=h
 cases rx
 obtain ⟨u,rfl,ru⟩:=rv.one
 cases ru
 obtain ⟨z,its,n,r,hl,e⟩:=I.lstM hH
 obtain rfl:=bls_vals r
 have at':∀(m:Nat) (b:Bool) (hm:m<(bs.map Value.bool).toArray.size),bs[m]? = some b→(bs.map Value.bool).toArray[m]=Value.bool b:=fun m b hm e=>by
  simp only [List.getElem_toArray,List.getElem_map]
  have hm':m<bs.length:=by simpa using hm
  rw [List.getElem?_eq_getElem hm'] at e
  cases e;rfl
 have hjl:j<bs.length:=(List.getElem?_eq_some_iff.mp hj).1
 have hj':j<(bs.map Value.bool).toArray.size:=by simpa using hjl
 refine call_meets F.slot_list_index ⟨_,e,rfl⟩ F.entry_list_index (F.args_list_index_2 _ _) (list_indexAt l _ n none #[] (.bool k) (isBoolOf k) j hj' (by omega) ?_ fun m hm2 hlt=>?_) ⟨e,fun y hy=>?_,?_⟩
 ·rw [at' j k hj' hj];simp [isBoolOf]
 ·rw [at' m _ hm2 (hm m hlt)];cases k<;>rfl
 ·obtain ⟨b,_,rfl⟩:=List.mem_map.mp (by simpa using hy:y∈bs.map Value.bool)
  exact EqAt.bool_bool b k
 ·exact ⟨.int _,H,I.tok _,⟨_,rfl⟩,q⟩
end
abbrev FX:=En→(T→Prop)→(Addr→Prop)→Prop
structure QX (X:Cx) (K:PySem.W.Frag) (e:Expr) (F:FX):Prop where
 h:∀(pins:List (Addr×Obj)) (s:Shared) (σ:St) (H:Hp) (B:Addr→Prop) (E:En) (Q:T→Prop) (W:Addr→Prop),Inv X pins σ H s→RE K B H σ E→F E Q W→
  wpAny (model X.prog X.w) X.A (eval e X.env)
   (fun u s2=>∃v H2 t,Inv X pins σ H2 s2∧RelV v u∧noL t=true∧Q t∧Gs B H σ E H2 σ E∧RE K B H2 σ E∧Rp K H2 (Ow B σ E) t v)
   (fun er s2=>∃x C T s1 H1,er = .ref x∧W C∧Inv X pins σ H1 s1∧Gs B H σ E H1 σ E∧RE K B H1 σ E∧s2.os=s1.os∧AllBare s2.gens∧Kf (frs (X.env::X.outer)) x s1.heap s2.heap∧s1.heap.get? x=none∧s1.heap.get? T=none∧Exc s2.heap x C T) s
def fxCall (S:SpG) (Fr:FA):FX:=fun E Q W=>Fr E fun rs E1=>E1=E∧o1 (strsR E1 rs) fun ss=>S (ss.map T.str) (fun t=>noL t=true∧Q t) W
def fxIf (Fp:FB) (F G:FX):FX:=fun E Q W=>Fp E fun b E1=>E1.take E.length=E∧if b=true then F E Q W else G E Q W
theorem rps_strsX {K:PySem.W.Frag} {H:Hp} {O:Addr→Prop}:∀ss:List Str,Rps K H O (ss.map T.str) (ss.map V.str)
 | []=>rfl
 | x::ss=>⟨_,_,rfl,rfl,rps_strsX ss⟩
section
variable {X:Cx} {K:PySem.W.Frag} {S:SpG} {fn:Str} {ps:List Str} {c a b e:Expr} {es:List Expr} {fp cp pos:Pos} {n k m:Nat} {Fr:FA} {Fp:FB} {F G:FX}
theorem fx_if (hnx:∀e s,¬X.xe e s) (hc:QT X c (simB K Fp)) (ha:QX X K a F) (hb:QX X K b G):QX X K (.IfExp c a b pos) (fxIf Fp F G):=by
 constructor
 intro pins s σ H B E Q W I re hF
 refine wpAny_IfExp (wpAny_mono (hc.h pins s σ H (fun bb H1=>Gs B H σ E H1 σ E∧RE K B H1 σ E∧if bb=true then F E Q W else G E Q W) I (afterB (P:=fun bb E1=>E1=E∧if bb=true then F E Q W else G E Q W) re hF fun bb H' E' q g re'=>?_)) (fun d s1 ⟨H1,I1,g1,re1,q1⟩=>?_) fun _ _ z=>(hnx _ _ z).elim)
 ·obtain ⟨rfl,q⟩:=q
  exact ⟨g,re',q⟩
 ·cases d with
  | true=>
   refine wpAny_mono (ha.h pins s1 σ H1 B E Q W I1 re1 q1) (fun u s2 ⟨v,H2,t,z1,z2,z3,z4,z5,z6,z7⟩=>⟨v,H2,t,z1,z2,z3,z4,g1.trans z5,z6,z7⟩) fun er s2 ⟨x,C,T,s3,H3,z1,z2,z3,z4,z5,z6⟩=>⟨x,C,T,s3,H3,z1,z2,z3,g1.trans z4,z5,z6⟩
  | false=>
   refine wpAny_mono (hb.h pins s1 σ H1 B E Q W I1 re1 q1) (fun u s2 ⟨v,H2,t,z1,z2,z3,z4,z5,z6,z7⟩=>⟨v,H2,t,z1,z2,z3,z4,g1.trans z5,z6,z7⟩) fun er s2 ⟨x,C,T,s3,H3,z1,z2,z3,z4,z5,z6⟩=>⟨x,C,T,s3,H3,z1,z2,z3,g1.trans z4,z5,z6⟩
theorem fx_call (hnx:∀e s,¬X.xe e s) (hst:X.stack=X.env::X.outer) (eK:X.K=K) (F:FnH X.prog X.w X.K X.mg X.base k fn ps (spG K S)) (hr:Room m X.A) (hk:k≤m) (hgf:Gl X fn) (ha:QA X (e::es) (simA K n Fr)) (hdf:(fn==("__debug__":Str))=false:=by decide) (hs:noStar (e::es)=true:=by rfl) :
  QX X K (.Call (.Name fn fp) (e::es) [] cp) (fxCall S Fr):=by
 subst eK
 constructor
 intro pins s σ H B E Q W I re hF
 obtain ⟨f,fd,FO,hmf,hkp,hbd⟩:=F.ex
 have he:isStar e=false∧noStar es=true:=by simpa [noStar] using hs
 refine wpAny_Call_Name_kw (ld_glob I hgf hmf ?_ hdf)
 refine PySem.W.callWith_K (h₀:=X.base) I.ok.mod.kin hkp (wpAny_mono (ha.h cp pins s σ H (fun vs H1=>∃(ss:List Str),Gs B H σ E H1 σ E∧RE X.K B H1 σ E∧vs=ss.map V.str∧S (ss.map T.str) (fun t=>noL t=true∧Q t) W) I ?_) (fun us s1 ⟨vs,H1,I1,r,ss,g1,re1,ev,hS⟩=>⟨I1.kIn,?_⟩) fun _ _ z=>(hnx _ _ z).elim) (star_ok he.1) (star_any he.2)
 ·refine ⟨B,σ,E,_,⟨[],by simp⟩,re,hF,fun rs E1 vs H1 S1 q g re1 rr hn=>?_⟩
  obtain ⟨rfl,q⟩:=q
  obtain ⟨ss,e1,q⟩:=o1.ex q
  obtain ⟨ts,e2,e3⟩:=Option.bind_eq_some_iff.mp e1
  obtain ⟨τ,hτ⟩:=g.pre
  have hl:S1.length=σ.length:=re1.len.trans re.len.symm
  have hτ0:τ=[]:=by
   have:=congrArg List.length hτ
   rw [List.length_append] at this
   exact List.eq_nil_of_length_eq_zero (by omega)
  subst hτ0
  rw [List.append_nil] at hτ
  subst hτ
  exact ⟨ss,g.kp,re1,mkV_strs re1 rr e2 e3,q⟩
 subst ev
 have env0:Env0 X.prog X.w X.K X.mg X.base X.A X.stack s1 (fun _=>none):=⟨I1.ok.frames,I1.ok.mod,fun b o e=>⟨(I1.bs b o e).1,rfl⟩,Nat.le_trans I1.ok.bsz I1.sz,I1.stack,fun _ _=>rfl,fun _ _ e=>by (cases e),I1.bare⟩
 have hlen:(us++[]).length=ps.length:=by
  have h1:=r.length
  rw [List.append_nil,←h1]
  exact FO.len (ss.map V.str) (fun _=>none) (fun _ _=>True) (fun _ _ _=>True) ⟨ss.map T.str,_,_,rps_strsX ss,hS,fun _ _ _ _ _ _=>trivial,fun _ _=>trivial⟩
 refine wpAny_call (codeAny_mono (FO.run X.A X.stack s1 (fun _=>none) ⟨us,[]⟩ (us++[]) (ss.map V.str) (fun v H'=>∃t,noL t=true∧Q t∧Rp X.K H' (LstOf H') t v) (fun v _ _=>∃C,v = .ref C∧W C) (hr.mono hk) env0 (hbd s1 us I1.kIn hlen) (by rw [List.append_nil];exact r) ⟨ss.map T.str,_,_,rps_strsX ss,hS,fun t v H' q sm rp=>⟨t,q.1,q.2,rp⟩,fun C q=>⟨C,rfl,q⟩⟩) fun res s2 hq=>?_)
 cases res with
 | ok fl=>
  cases fl with
  | ret u=>
   obtain ⟨v,H',os,bare,un,hok,rv,t,nl,qn,rp⟩:=hq
   obtain ⟨un2,hok2,j1,j2⟩:=joinH_ok I1.hok un hok I1.stkFree
   have I2:=I1.call' os un2 hok2 bare (fun b z=>absurd z (by simp))
   have re3:=re1.kept j1
   have rp3:Rp X.K (joinH H1 H') (Ow B σ E) t v:=Rp.noL (fun a z=>re3.ow z) nl (Rp.step (Kp.mk (fun b o e _=>j2 b o e) (fun b z=>.inl z)) rp)
   exact ⟨v,_,t,I2,rv,nl,qn,g1.trans (Kp.mk (fun b o e _=>j1 b o e) (fun b z=>.inl z)),re3,rp3⟩
  | next=>exact hq.elim
  | brk=>exact hq.elim
  | cont=>exact hq.elim
 | error er=>
  obtain ⟨x,C',T,H',rfl,os,bare,un,nx,nT,hh,ee,C,hC,hw⟩:=hq
  cases hC
  exact ⟨x,_,T,s1,H1,rfl,hw,I1,g1,re1,os,bare,⟨fun b o e nf nb=>un.keep b o e rfl (by rw [hst];exact nf) (by simp),fun b o e mf=>un.slot b o e rfl (by rw [hst];exact mf) (by simp)⟩,nx,nT,ee⟩
end
def sufX (i j ie:Nat) (z:Str) (E:En):En:=((E.set j none).set i (some (.p (.str z)))).set ie none
def sTryX (F:FX) (wd:Addr→Option Str) (i j ie:Nat):FS:=fun D E=>F E (fun t=>D.nx (E.set i (some (.p t)))) fun C=>o1 (wd C) fun z=>D.nx (sufX i j ie z E)
section
variable {X:Cx} {K:PySem.W.Frag} {D:Addr} {y en cn:Str} {e:Expr} {b0:Stmt} {bs:List Stmt} {yp ap kp hpos pos:Pos} {i j ie:Nat} {F:FX} {wd:Addr→Option Str} {th:Addr→TS}
theorem fs_tryX (hnx:∀e s,¬X.xe e s) (hst:X.stack=X.env::X.outer) (hfr:X.env.frame=some X.env.locals) (hmk:∀x,(X.A.mark (some (.ref x))).frames=X.A.frames) (eK:X.K=K) (he:QX X K e F)
  (hN:X.N.Nodup) (hi:X.N[i]? = some y) (hy:Loc X.env.scope y) (hfy:X.fn y=true∨X.env.scope.names.lookup y=some .local)
  (hie:X.N[ie]? = some en) (hen:X.env.kindOf en=some .local) (hgD:Gl X cn) (hmD:X.mg cn=some (.ref D)) (hkD:∀C z,wd C=some z→kitCls X.K (.ref C) (.ref D)=some true) (hbD:mroIn X.K D (.type "BaseException")=some true) (n1:ie≠i) (n2:ie≠j)
  (hb:∀x,QB (X.inX x) (b0::bs) (th x)) (hth:∀x C z (D:Ends) (σ:St) (H:Hp),wd C=some z→σ.length=X.N.length→H x=some (ExX C x)→σ[ie]? = some (some (.ref x))→(∀a H',(∀b o,H b=some o→H' b=some o)→D.nx ((σ.set j (some (.ref a))).set i (some (.str z))) H')→th x D σ H)
  (hsw:swapsWith e (some (.Name y yp)) ap.line X.env=pure false:=by rfl) (hdc:(cn==("__debug__":Str))=false:=by decide) :
  QS X (.Try [.Assign [.Name y yp] e ap] [.ExceptHandler (some (.Name cn kp)) (some en) (b0::bs) hpos] [] [] pos) (simS K (sTryX F wd i j ie)):=by
 subst eK
 constructor
 intro pins s σ H DD I ⟨B,E,DT,re,hF,l⟩
 refine wpAny_Try_except (wpAny_execs_cons (wpAny_Assign_Name (wpAny_mono (he.h pins s σ H B E _ _ I re hF) (fun u s2 hq=>?_) fun er s2 hq=>?_) hsw))
 ·obtain ⟨v,H2,t,I2,rv,nl,qn,g2,re2,rp2⟩:=hq
  refine store_ok I2 hN hi hy rv (fun s3 I3=>wpAny_execs_nil (wpAny_execs_nil ?_)) hfy
  obtain ⟨re4,ow4⟩:=re2.setP (i:=i) rp2
  exact ⟨_,_,I3,l.nx _ _ _ qn (g2.trans (Kp.less ow4)) re4⟩
 ·obtain ⟨x,C,T,s1,H1,rfl,hw,I1,g1,re1,os,bare,k0,nx,nT,ee⟩:=hq
  obtain ⟨z,hz,qn⟩:=o1.ex hw
  have fun0:s1.heap.FunFrames X.base (X.env::X.outer):=by rw [←hst];exact I1.stack
  refine notes_in (by rw [I1.ok.frames,hst]) fun0 hfr k0 nx nT ee fun h3 T3 k3 n3 e3=>?_
  have nf:∀{b:Addr},s1.heap.get? b=none→b∉frs (X.env::X.outer):=fun {b} e hm=>by
   obtain ⟨_,o,ho,_⟩:=fun0.mem hm
   rw [e] at ho;cases ho
  have hx1:H1 x=none:=tracked_in I1.hok nx
  have hin:∀h5,Kf (frs (X.env::X.outer)) x s1.heap h5→∀T5,Exc h5 x C T5→Inv X pins σ (upd H1 x (ExX C x)) { s2 with heap:=h5 }:=fun h5 k5 T5 e5=>by
   have ne:∀b o,s1.heap.get? b=some o→b≠x:=fun b o e z=>by rw [z,nx] at e;cases e
   refine I1.call' (ch:=[]) (s':={ s2 with heap:=h5 }) os ⟨fun b o e n nfb _=>k5.keep b o e (by rw [←hst];exact nfb) (ne b o e),fun b o e n mf _=>k5.slot b o e (by rw [←hst];exact mf),fun b o e n _=>by rw [upd_ne (ne b o e)];exact n,fun b o e _=>?_,fun b xs e=>by rw [upd_ne (ne_of_none e hx1)];exact e,fun b o xs e=>by rw [upd_ne (ne_of_none e hx1)];exact e,fun b qs e=>⟨#[],by rw [upd_ne (ne_of_none e hx1),e];simp⟩⟩ (fun b o e=>?_) bare (fun b z=>absurd z (by simp))
   ·by_cases mf:b∈frs (X.env::X.outer)
    ·obtain ⟨sl,q⟩:=k5.slot b o e mf
     exact ⟨_,q⟩
    ·exact ⟨o,k5.keep b o e mf (ne b o e)⟩
   ·by_cases hb':b=x
    ·subst hb'
     rw [upd_same] at e;cases e
     exact exx_ok e5
    ·rw [upd_ne hb'] at e
     refine (I1.hok b o e).stay (fun c v hc q=>?_) (fun c q=>by rw [upd_ne (ne_of_none q hx1)];exact q) fun c xs q=>by rw [upd_ne (ne_of_none q hx1)];exact q
     refine k5.keep c v q (fun mf=>?_) (ne c v q)
     have hc0:=I1.stkFree c (by rw [hst];exact mf)
     rcases hc with rfl | hc
     ·rw [hc0] at e;cases e
     ·rw [hc0] at hc;cases hc
  have hmk':∀x,(X.A.mark (some (.ref x))).frames=some X.stack:=fun x=>by rw [hmk x];exact I1.ok.frames
  have I3:=(hin h3 k3 T3 e3).inX x (hmk' x)
  refine wpAny_handleBy_cons (codeAny_handlers_test (ld_glob (X:=X.inX x) I3 hgD hmD ?_ hdc)) (by intro q;cases q)
  obtain ⟨_,oe,_,_,_,g1x,g2x,_⟩:=id e3
  refine matches_up (s:={ s2 with heap:=h3 }) I3.kIn g1x g2x (hkD C z hz) hbD ?_
  refine codeAny_handlers_suite_as (again k3 n3 (nf n3) e3 fun h4 k4 e4=>?_)
  have I4:=hin h4 k4 T3 e4
  refine store_ok I4 hN hie (.inl hen) (v:=.ref x) rfl (fun s5 I5=>?_) (.inr hen)
  have keepH:∀b o,H1 b=some o→upd H1 x (ExX C x) b=some o:=fun b o e=>by rw [upd_ne (ne_of_none e hx1)];exact e
  refine wpAny_mono ((hb x).h pins s5 _ _ { nx:=fun σ' H'=>DD.nx (σ'.set ie none) H',rt:=fun _ _=>False } (I5.inX x (hmk' x)) (hth x C z _ _ _ hz I5.len upd_same ?_ fun a H5 k5=>?_)) (fun fl s6 q6=>?_) fun _ _ z=>z.elim
  ·rw [List.getElem?_set_self]
   rw [I4.len];exact (List.getElem?_eq_some_iff.mp hie).1
  ·show DD.nx _ H5
   have up:∀b o,H1 b=some o→H5 b=some o:=fun b o e=>k5 b o (keepH b o e)
   have r3:=re1.kept up
   obtain ⟨r4,o4⟩:=r3.setVN (i:=j) (v:=.ref a)
   obtain ⟨r5,o5⟩:=r4.setP (i:=i) (t:=.str z) (v:=.str z) rfl
   obtain ⟨r6,o6⟩:=r5.setNN (i:=ie)
   have eσ:(((σ.set ie (some (V.ref x))).set j (some (.ref a))).set i (some (.str z))).set ie none=((σ.set j (some (.ref a))).set i (some (.str z))).set ie none:=by
    rw [List.set_comm _ _ n2,List.set_comm _ _ n1,List.set_set]
   rw [eσ]
   refine l.nx _ _ _ qn ?_ r6
   exact g1.trans ((Kp.mk (fun b o e _=>up b o e) (fun b z=>.inl z):Kp (Ow B σ E) (Ow B σ E) H1 H5).trans (Kp.less fun b z=>o4 b (o5 b (o6 b z))))
  ·cases fl with
   | next=>
    obtain ⟨σ6,H6,I6,q6⟩:=q6
    exact unname_ok (I6.outX I.ok) hN hie hen fun s7 I7=>⟨_,_,I7,q6⟩
   | brk=>obtain ⟨_,_,_,z⟩:=q6;exact z.elim
   | cont=>obtain ⟨_,_,_,z⟩:=q6;exact z.elim
   | ret u=>obtain ⟨_,_,_,_,_,z⟩:=q6;exact z.elim
end
end L2
set_option Elab.async false
set_option linter.all false
set_option maxRecDepth 100000
set_option maxHeartbeats 4000000
namespace L2
open PySem PySem.Spec PyProof.Rows
section
variable {prog:Program} {w:World} {KK:Type} [DecidableEq KK] {knd:HeapKind prog w KK} {A:Around} {E:Value→Shared→Prop} {s:Shared}
theorem setDef_heap {d a:Addr} {xs:List (KK×Addr×Value)} {k:KK} {v:Value} {Q:Value→Shared→Prop} (hu:knd.room A) (hkey:knd.is s.heap k a) (hm:s.heap.DictOfH knd d xs)
  (h1:∀p,atKey xs k=some p→Q p.2 { s with toks:=s.toks+knd.draws k })
  (h2:atKey xs k=none→∀h',h'.DictOfH knd d (storedH xs k a v)→Heap.SameBut d s.heap h'→Q v { s with heap:=h',toks:=s.toks+knd.draws k })
  (hsz:xs.length≤sizeLine) :
  wpAny (model prog w) A (dictSetDefault d (.ref a) v) Q E s:=by
 obtain ⟨o,es,ep,ho,hc,hd,he,his,hn⟩:=hm
 unfold dictSetDefault
 try with_reducible refine wpAny_holding ?_
 refine wpAny_bind (knd.pyHash hu hkey ?_)
 refine wpAny_bind (wpAny_dictFind_heap (s:={ s with toks:=s.toks+knd.draws k }) hu hkey ho hd he his hn ?_ ?_)
 ·intro hno
  have hnot:k∉xs.map (·.1):=not_mem_keys_of_get hno
  refine wpAny_bind (wpAny_rule (wpAny_bind (wpAny_updateDictKeys (hz:=by have e:=size_of_entries he;omega) (s:={ s with toks:=s.toks+knd.draws k }) ho hd (wpAny_pure (h2 (atKey_none_of_get hno) _ ⟨_,_,ep+1,Heap.get?_update_self _ ho (Obj.isFreed_of_dict (Obj.data_mapDictKeys hd _)),
   hc.mapDictKeys _,Obj.data_mapDictKeys hd _,?_,?_,?_⟩ (Heap.SameBut.update ..))))))
  ·rw [storedH_new (atKey_none_of_get hno)]
   simp [he,entryOfKey]
  ·rw [storedH_new (atKey_none_of_get hno)]
   intro x hx
   rcases List.mem_append.mp hx with hx | hx
   ·exact knd.keeps (his x hx) ho hd (Heap.SameBut.update ..)
   ·simp only [List.mem_singleton] at hx
    subst hx
    exact knd.keeps hkey ho hd (Heap.SameBut.update ..)
  ·rw [storedH_new (atKey_none_of_get hno)]
   rw [List.map_append,List.nodup_append]
   refine ⟨hn,by simp,?_⟩
   intro x hx y hy
   simp only [List.map_cons,List.map_nil,List.mem_singleton] at hy
   subst hy
   exact fun e=>hnot (e ▸ hx)
 ·intro j p hj
  refine wpAny_bind (wpAny_dictEntries (s:={ s with toks:=s.toks+knd.draws k }) ho hd ?_)
  rw [entry_at he j,hj]
  exact wpAny_bind (wpAny_rule (wpAny_pure (h1 _ (atKey_of_get hn hj))))
theorem meetsH_setdef (d a:Addr) (hd:(d==sysModules)=false) (dflt:Value) :
  MeetsIn prog w (Builtin.«dict.setdefault» ⟨[.ref d,.ref a,dflt],[]⟩) (fun A R s=>knd.room A.in1∧∃k xs,knd.is s.heap k a∧s.heap.DictOfH knd d xs∧xs.length≤sizeLine∧
   (∀p,atKey xs k=some p→R (.ok (.ret p.2)) { s with toks:=s.toks+knd.draws k })∧
   (atKey xs k=none→∀h',h'.DictOfH knd d (storedH xs k a dflt)→Heap.SameBut d s.heap h'→R (.ok (.ret dflt)) { s with heap:=h',toks:=s.toks+knd.draws k })):=
 .of_wp fun A R s ⟨hu,k,xs,hkey,hm,hz,h1,h2⟩=>by
  unfold Builtin.«dict.setdefault»
  refine wpAny_bind ?_
  unfold Builtin.Dict.keyAndDefault
  refine wpAny_bind (wpAny_notOrdered_dict hm.typeIs ?_)
  show wpAny _ _ (pure (d,Value.ref a,some dflt)) _ _ s
  refine wpAny_pure ?_
  show wpAny _ _ (if (d==sysModules)=true then _ else (dictSetDefault d (.ref a) dflt >>= _)) _ _ s
  rw [if_neg (by rw [hd];exact Bool.false_ne_true)]
  exact wpAny_bind (setDef_heap hu hkey hm (fun p hp=>wpAny_pure ⟨p.2,rfl,h1 p hp⟩) (fun hn h' hm' hs'=>wpAny_pure ⟨dflt,rfl,h2 hn h' hm' hs'⟩) hz)
end
section
variable {X:Cx} {pins:List (Addr×Obj)} {σ:St} {H:Hp} {s:Shared} {a b:Addr} {v:V} {r:Value} {A:Around} {E:Value→Shared→Prop} {kvs:List (List Key×V)} {k:List Key}
theorem d_setdef {Q:Value→Shared→Prop} (hu:A.units+1<cLine) (I:Inv X pins σ H s) (e:H a=some (.dT kvs)) (eb:H b=some (.tup (k.map kV))) (rv:RelV v r) (l:kvs.length<sizeLine)
  (h1:∀y w' s',valV kvs k=some y→Inv X pins σ H s'→RelV y w'→Q w' s') (h2:∀s',valV kvs k=none→Inv X pins σ (upd H a (.dT (putK kvs k v))) s'→Q r s') :
  wpAny (model X.prog X.w) A (call (.builtin "dict.setdefault") [.ref a,.ref b,r]) Q E s:=by
 obtain ⟨z,hd,xs,rel,dd⟩:=dt_of I.hok e
 have hz:xs.length≤sizeLine:=by rw [←Paired.length rel];exact z
 have hl:(putK kvs k v).length≤sizeLine:=by have:=length_putK kvs k v;omega
 have rk:=rel.val k
 refine call_meetsIn PySem.F.slot_dict_setdefault dd.typeIs PySem.F.entry_dict_setdefault (PySem.F.args_dict_setdefault_3 _ _ _) (meetsH_setdef (knd:=tupleKind (mixKind X.prog X.w)) a b hd r) ⟨tupleKind_room_in1 hu,k,xs,key_of I.hok eb,dd,hz,fun p hp=>?_,fun hn h' dd' hs=>?_⟩
 ·rw [hp] at rk
  cases q:valV kvs k with
  | none=>rw [q] at rk;exact rk.elim
  | some y=>rw [q] at rk;exact h1 y _ _ q (I.tok _) rk
 ·rw [hn] at rk
  have q:valV kvs k=none:=by
   cases q:valV kvs k with
   | none=>rfl
   | some y=>rw [q] at rk;exact rk.elim
  refine h2 _ q ?_
  obtain ⟨q,es,ep,hq,g2,g3,g4,_,g5⟩:=dd'
  refine d_write I (by rw [e];exact True.intro) hs ⟨q,hq⟩ ⟨hl,hd,_,(rel.put k eb rv).keeps fun c ys ec=>?_,q,es,ep,hq,g2,g3,g4,g5⟩
  rw [upd_ne (ne_of ec e (fun z=>nomatch z))]
  exact ec
end
def tDSet (td ty tx:TE):TE:=fun σ H Q=>td σ H fun x H1=>∃a,x = .ref a∧IsD H1 a∧ty σ H1 fun y H2=>tx σ H2 fun z H3=>∃b kvs k,y = .ref b∧H3 a=some (.dT kvs)∧H3 b=some (.tup (k.map kV))∧kvs.length<sizeLine∧
 (∀u,valV kvs k=some u→Q u H3)∧(valV kvs k=none→Q z (upd H3 a (.dT (putK kvs k z))))
section
variable {X:Cx} {o e f:Expr} {apos cpos:Pos} {td ty tx:TE}
theorem pe_dset (hu:X.A.units+1<cLine) (ho:PE X o td) (he:PE X e ty) (hf:PE X f tx) (m:M2 X o "setdefault" apos e f cpos):PE X (.Call (.Attribute o "setdefault" apos) [e,f] [] cpos) (tDSet td ty tx):=by
 intro pins s σ H Q I h
 refine wpAny_Call_method m.base m.few m.line PySem.F.plainAttrs_dict PySem.F.slot_dict_setdefault PySem.F.type_dict_setdefault (thn (ho pins s σ H _ I h) fun u s1 ⟨x,H1,I1,rx,a,ex,d,q1⟩=>?_)
 subst ex
 obtain rfl:u=Value.ref a:=rx
 obtain ⟨t1,t2,_⟩:=isD_at I1 d
 refine ⟨t1,t2,?_⟩
 rw [m.trees]
 refine Calls.callWith_builtin rfl (Calls.evalArgs_plain (Calls.spliced_cons (thn (he pins s1 σ H1 _ I1 q1) fun iv s2 ⟨y,H2,I2,ry,q2⟩=>
  Calls.spliced_cons (thn (hf pins s2 σ H2 _ I2 q2) fun fv s3 ⟨z,H3,I3,rz,b,kvs,k,ey,ea,eb,hl,q3,q4⟩=>Calls.spliced_nil ?_))))
 subst ey
 obtain rfl:iv=Value.ref b:=ry
 exact d_setdef hu I3 ea eb rz hl (fun u w' s4 hv I4 rw'=>⟨u,H3,I4,rw',q3 u hv⟩) fun s4 hv I4=>⟨z,_,I4,rz,q4 hv⟩
end
section
variable {X:Cx} {K:PySem.W.Frag} {e:Expr} {es:List Expr} {pos:Pos} {Fr:FA}
theorem call_strZ {k:Nat} (hr:Room k X.A):CallR X (.type "str") (fun xs H Q=>(∃z,xs=[.str z]∧Q (.str z) H)∨∃(v:V) (ts:List T) (O:Addr→Prop),xs=[v]∧Rp X.K H O (.tup ts) v∧noLs ts=true∧shTs ts=true∧dTs ts≤40∧lenBs ts≤10000000∧Q (.str (dataT (.tup ts)).shown) H):=by
 intro pins s σ H xs us Q I r h
 rcases h with ⟨z,rfl,q⟩ | h
 ·obtain ⟨u,rfl,rx⟩:=vals1 r
  obtain ⟨t,rfl⟩:=rx
  exact PySem.P.str_of_str ⟨.str z,H,I,⟨t,rfl⟩,q⟩
 ·exact call_strR hr pins s σ H xs us Q I r h
def shw:T→Str
 | .str z=>z
 | t=>(dataT t).shown
def fStrZ (Fr:FA):FE:=fun E Q=>Fr E fun rs E1=>match rs with
 | [x]=>(match vl E1 x with
  | some (.tup ts)=>noLs ts=true∧shTs ts=true∧dTs ts≤40∧lenBs ts≤10000000∧Q (.p (.str (shw (.tup ts)))) E1
  | some (.str z)=>Q (.p (.str z)) E1
  | _=>False)
 | _=>False
theorem fe_strZ {k n:Nat} {p:Pos} (eK:X.K=K) (hr:Room k X.A) (hg:Gl X "str") (hm:X.mg "str" = none) (ha:QA X (e::es) (simA K n Fr)) (hs:noStar (e::es)=true:=by rfl):QE X (.Call (.Name "str" p) (e::es) [] pos) (simE K (fStrZ Fr)):=by
 subst eK
 refine (qe_callTyS (call_strZ hr) hg hm (by decide +kernel) ha (by decide) (by decide) hs).le fun σ H Q hl h=>?_
 obtain ⟨B,S,E,Q',hS,re,hF,lk⟩:=h
 refine ⟨B,S,E,_,hS,re,hF,fun rs E1 vs H1 S1 q g re1 rr hn=>?_⟩
 match rs,rr,q with
 | [x],⟨v,ws,e1,h1,h2⟩,q=>
  cases h2;subst e1
  simp only at q
  split at q
  ·rename_i ts e2
   obtain ⟨q1,q2,q3,q4,q5⟩:=q
   obtain ⟨a,vs,rfl,sq,rsx⟩:=re1.vl h1 e2
   refine .inr ⟨_,ts,(fun _=>False),rfl,?_,q1,q2,q3,q4,lk _ _ _ _ _ q5 g re1 rfl⟩
   exact ⟨a,vs,rfl,sq.imp (fun h=>⟨fun z=>z,h⟩) id,rsx.step (Kp.less fun _ z=>z.elim)⟩
  ·rename_i z e2
   have ev:=re1.str h1 e2
   subst ev
   exact .inl ⟨z,rfl,lk _ _ _ _ _ q g re1 rfl⟩
  ·exact q.elim
 | [],_,q=>exact q.elim
 | _::_::_,_,q=>exact q.elim
end
def DatM (i:Nat) (a:Addr) (P:List (List Key×V)→Prop) (σ:St) (H:Hp):Prop:=σ[i]? = some (some (.ref a))∧∃kvs,H a=some (.dT kvs)∧P kvs
abbrev Gm (a:Addr) (B:Addr→Prop) (H:Hp) (S:St) (E:En) (H':Hp) (S':St) (E':En):Prop:=Kp (fun b=>Ow B S E b∨b=a) (fun b=>Ow B S' E' b∨b=a) H H'
theorem gm_of {a:Addr} {B:Addr→Prop} {H H':Hp} {S S':St} {E E':En} (g:Gs B H S E H' S' E'):Gm a B H S E H' S' E':=
 ⟨fun b o e n=>g.keep b o e fun z=>n (.inl z),fun b z=>z.elim (fun z=>(g.new b z).imp .inl id) fun z=>.inl (.inr z)⟩
structure LSM (i:Nat) (a:Addr) (P:List (List Key×V)→Prop) (K:PySem.W.Frag) (B:Addr→Prop) (H:Hp) (σ:St) (E:En) (DT:ET) (D:Ends):Prop where
 nx:∀σ' H' E',DT.nx E'→Gm a B H σ E H' σ' E'→RE K B H' σ' E'→DatM i a P σ' H'→D.nx σ' H'
 rt:∀r E' v H' S',DT.rt r E'→Gm a B H σ E H' S' E'→RE K B H' S' E'→RR K B H' S' E' r v→D.rt v H'
 bk:∀σ' H' E',DT.bk E'→Gm a B H σ E H' σ' E'→RE K B H' σ' E'→DatM i a P σ' H'→D.bk σ' H'
 ct:∀σ' H' E',DT.ct E'→Gm a B H σ E H' σ' E'→RE K B H' σ' E'→DatM i a P σ' H'→D.ct σ' H'
theorem LSM.step {i:Nat} {a:Addr} {P:List (List Key×V)→Prop} {K:PySem.W.Frag} {B:Addr→Prop} {H H':Hp} {σ σ':St} {E E':En} {DT:ET} {D:Ends} (l:LSM i a P K B H σ E DT D) (g:Gm a B H σ E H' σ' E'):LSM i a P K B H' σ' E' DT D:=
 ⟨fun x b c d e=>l.nx x b c d (g.trans e),fun x b c d e f h=>l.rt x b c d e f (g.trans h),fun x b c d e=>l.bk x b c d (g.trans e),fun x b c d e=>l.ct x b c d (g.trans e)⟩
def simSM (i:Nat) (P:List (List Key×V)→Prop) (K:PySem.W.Frag) (F:FS):TS:=fun D σ H=>∃a,DatM i a P σ H∧∃B E DT,RE K B H σ E∧F DT E∧LSM i a P K B H σ E DT D
section
variable {K:PySem.W.Frag} {B:Addr→Prop} {H H':Hp} {σ σ' S S':St} {E E':En} {i:Nat} {a:Addr} {P:List (List Key×V)→Prop} {O:Addr→Prop}
theorem DatM.keep (d:DatM i a P σ H) (re:RE K B H σ E) (k:∀b o,H b=some o→¬Ow B σ E b→H' b=some o) (h:σ'[i]? = σ[i]?):DatM i a P σ' H':=by
 obtain ⟨h1,kvs,h2,h3⟩:=d
 exact ⟨by rw [h];exact h1,kvs,k a _ h2 (fun z=>by obtain ⟨vs,e⟩:=re.ow z;rw [h2] at e;cases e),h3⟩
mutual
theorem Rp.dk (k:∀b o,H b=some o→(∀kvs,o≠.dT kvs)→H' b=some o):∀{t:T} {v:V},Rp K H O t v→Rp K H' O t v
 | .non,_,h=>h
 | .bl _,_,h=>h
 | .int _,_,h=>h
 | .str _,_,h=>h
 | .tup xs,v,h=>by
  obtain ⟨a,vs,e,h1,h2⟩:=h
  exact ⟨a,vs,e,h1.imp (fun h=>⟨h.1,h.2.imp (fun z=>k _ _ z fun _ q=>nomatch q) fun ⟨o,z⟩=>⟨o,k _ _ z fun _ q=>nomatch q⟩⟩) id,Rps.dk k h2⟩
 | .lst xs,v,h=>by
  obtain ⟨a,vs,e,h1,h2⟩:=h
  exact ⟨a,vs,e,h1.imp (fun h=>⟨h.1,h.2.imp (fun z=>k _ _ z fun _ q=>nomatch q) fun ⟨o,z⟩=>⟨o,k _ _ z fun _ q=>nomatch q⟩⟩) id,Rps.dk k h2⟩
theorem Rps.dk (k:∀b o,H b=some o→(∀kvs,o≠.dT kvs)→H' b=some o):∀{xs:List T} {vs:List V},Rps K H O xs vs→Rps K H' O xs vs
 | [],_,h=>h
 | _::_,_,⟨v,r,e,h1,h2⟩=>⟨v,r,e,Rp.dk k h1,Rps.dk k h2⟩
end
theorem RE.dk (re:RE K B H S E) (k:∀b o,H b=some o→(∀kvs,o≠.dT kvs)→H' b=some o):RE K B H' S E:=by
 refine ⟨re.len,fun i t h=>?_,fun i l xs h=>?_,re.inj,fun b z=>?_⟩
 ·obtain ⟨v,h1,h2⟩:=re.pure i t h
  exact ⟨v,h1,h2.dk k⟩
 ·obtain ⟨a,vs,h1,h2,h3,h4⟩:=re.own i l xs h
  exact ⟨a,vs,h1,k _ _ h2 fun _ q=>(nomatch q),h3.dk k,h4⟩
 ·obtain ⟨vs,e⟩:=re.bd b z
  exact ⟨vs,k _ _ e fun _ q=>nomatch q⟩
theorem upd_dk {kvs kvs':List (List Key×V)} (h:H a=some (.dT kvs)):∀b o,H b=some o→(∀kvs,o≠.dT kvs)→(upd H a (.dT kvs')) b=some o:=fun b o e n=>by
 rw [upd_ne (fun z=>n kvs (by rw [z,h] at e;cases e;rfl))];exact e
end
section
variable {X:Cx} {K:PySem.W.Frag} {st:Stmt} {sts body b1 b2:List Stmt} {pos:Pos} {c e:Expr} {Fa:FE} {Fp:FB} {Fr:FA} {F G:FS} {i:Nat} {P:List (List Key×V)→Prop}
theorem mb_nil:QB X [] (simSM i P K sNext):=qb_nil.le fun D σ H ⟨a,dt,B,E,DT,re,hF,l⟩=>l.nx _ _ _ hF (Kp.refl _ _) re dt
theorem mb_cons (h1:QS X st (simSM i P K F)) (h2:QB X sts (simSM i P K G)):QB X (st::sts) (simSM i P K (sSeq F G)):=
 (qb_cons h1 h2).le fun D σ H ⟨a,dt,B,E,DT,re,hF,l⟩=>⟨a,dt,B,E,_,re,hF,⟨fun σ' H' E' hG g re' d'=>⟨a,d',B,E',DT,re',nfS_eq hG,l.step g⟩,l.rt,l.bk,l.ct⟩⟩
theorem mb_one (h1:QS X st (simSM i P K F)):QB X [st] (simSM i P K F):=qb_one h1
theorem ms_ret (h:QE X e (simE K Fa)):QS X (.Return (some e) pos) (simSM i P K (sRet Fa)):=
 (qs_ret h).le fun D σ H hl ⟨a,dt,B,E,DT,re,hF,l⟩=>⟨B,σ,E,_,⟨[],by simp⟩,re,hF,fun r E' v H' S' q g re' rr=>l.rt r E' v H' S' q (gm_of g.kp) re' rr⟩
theorem ms_if (hc:QT X c (simB K Fp)) (ha:QB X b1 (simSM i P K F)) (hb:QB X b2 (simSM i P K G)):QS X (.If c b1 b2 pos) (simSM i P K (sIf Fp F G)):=
 (qs_if hc ha hb).le fun D σ H hl ⟨a,dt,B,E,DT,re,hF,l⟩=>afterB (P:=fun b E'=>if b=true then nfS E' (F DT) else nfS E' (G DT)) re hF fun b H' E' q g re'=>by
  cases b
  ·exact ⟨a,dt.keep re g.keep rfl,B,E',DT,re',nfS_eq q,l.step (gm_of g)⟩
  ·exact ⟨a,dt.keep re g.keep rfl,B,E',DT,re',nfS_eq q,l.step (gm_of g)⟩
theorem ms_set {j:Nat} {x:Str} {pos':Pos} (hN:X.N.Nodup) (hi:X.N[j]? = some x) (hx:Loc X.env.scope x) (he:QE X e (simE K Fa)) (hne:j≠i) (hs:swapsWith e (some (.Name x pos')) pos.line X.env=pure false:=by rfl)
  (hf:X.fn x=true∨X.env.scope.names.lookup x=some .local:=by first | exact .inl rfl | exact .inr rfl | assumption):QS X (.Assign [.Name x pos'] e pos) (simSM i P K (sSet j Fa)):=
 (qs_set hN hi hx he hs hf).le fun D σ H hl ⟨a,dt,B,E,DT,re,hF,l⟩=>⟨B,σ,E,_,⟨[],by simp⟩,re,hF,fun r E' v H' S' q g re' rr=>by
  obtain ⟨u,e1,q⟩:=q.ex
  rw [←re.len] at e1 q
  obtain ⟨r1,ow⟩:=pick_ok (i:=j) re' g.pre rr e1
  exact l.nx _ _ _ q (gm_of (g.kp.trans (Kp.less ow))) r1 (dt.keep re g.kp.keep (List.getElem?_set_ne hne))⟩
theorem ms_par {a b:Expr} {n i' j:Nat} {x y:Str} {px py pt:Pos} {kt k2 pt2} (hc:X.calm=true) (hN:X.N.Nodup) (hi:X.N[i']? = some x) (hj:X.N[j]? = some y) (hij:i'≠j)
  (hx:X.env.scope.names.lookup x=some .local) (hy:X.env.scope.names.lookup y=some .local) (ha:QA X [a,b] (simA K n Fr)) (n1:i'≠i) (n2:j≠i)
  (hw:swappedStores [.Tuple [.Name x px,.Name y py] kt pt] (.Tuple [a,b] k2 pt2) X.env=pure (some [x,y]))
  (hs:swapsWithSole [.Tuple [.Name x px,.Name y py] kt pt] (.Tuple [a,b] k2 pt2) pos.line X.env=pure false:=by rfl) :
  QS X (.Assign [.Tuple [.Name x px,.Name y py] kt pt] (.Tuple [a,b] k2 pt2) pos) (simSM i P K (sPar i' j Fr)):=by
 refine (qs_par hc hN hi hj hij hx hy ha hw hs).le fun D σ H hl ⟨a,dt,B,E,DT,re,hF,l⟩=>⟨B,σ,E,_,⟨[],by simp⟩,re,hF,fun rs E' vs H' S' q g re' rr hn=>?_⟩
 split at q
 ·rename_i t r
  obtain ⟨v,ws,e1,h1,w,ws',e2,h2,h3⟩:=rr
  cases h3;subst e2;subst e1
  obtain ⟨u,e3,q⟩:=q.ex
  rw [←re.len] at e3 q
  obtain ⟨r1,ow⟩:=pick_ok (i:=j) re' g.pre h2 e3
  obtain ⟨r2,ow2⟩:=r1.setP (i:=i') (Rp.step (Kp.less ow) h1)
  refine ⟨v,w,rfl,?_⟩
  rw [List.set_comm _ _ hij]
  exact l.nx _ _ _ q (gm_of (g.kp.trans (Kp.less fun b z=>ow b (ow2 b z)))) r2 (dt.keep re g.kp.keep (by rw [List.getElem?_set_ne n1,List.getElem?_set_ne n2]))
 ·rename_i r t _
  obtain ⟨v,ws,e1,h1,w,ws',e2,h2,h3⟩:=rr
  cases h3;subst e2;subst e1
  obtain ⟨u,e3,q⟩:=q.ex
  rw [←re.len] at e3 q
  obtain ⟨r1,ow⟩:=pick_ok (i:=i') re' g.pre h1 e3
  obtain ⟨r2,ow2⟩:=r1.setP (i:=j) (Rp.step (Kp.less ow) h2)
  exact ⟨v,w,rfl,l.nx _ _ _ q (gm_of (g.kp.trans (Kp.less fun b z=>ow b (ow2 b z)))) r2 (dt.keep re g.kp.keep (by rw [List.getElem?_set_ne n2,List.getElem?_set_ne n1]))⟩
 ·exact q.elim
theorem ms_forR {j n:Nat} {x:Str} {p1 p2 p3:Pos} {e:Expr} (hp:PassesOwn (model X.prog X.w) X.A X.env X.xe) (hc:X.calm=true) (hg:Gl X "range") (hm:X.mg "range" = none) (ha:QA X [e] (simA K n Fr)) (hN:X.N.Nodup) (hj:X.N[j]? = some x) (hx:Loc X.env.scope x) (hb:QB X body (simSM i P K F)) (hne:j≠i) (hsx:isStar e=false:=by rfl)
  (hs:∀x,foldedSetIterable (.Call (.Name "range" p2) [e] [] p3) X.env x=pure x:=by intro _;rfl) (hf:X.fn x=true∨X.env.scope.names.lookup x=some .local:=by first | exact .inl rfl | exact .inr rfl | assumption) :
  QS X (.For (.Name x p1) (.Call (.Name "range" p2) [e] [] p3) body [] pos) (simSM i P K (sFor (iR1 Fr) (kName j) F)):=by
 refine (qs_for hp hc (qi_range1 hg hm ha hsx) (qg_name hN hj hx hf) hb hs).le fun D σ H hl ⟨a,dt,B,E,DT,re,hF,l⟩=>⟨B,σ,E,_,⟨[],by simp⟩,re,hF,fun rs E1 vs H1 S1 q g1 re1 rr hn=>?_⟩
 match rs,rr,q with
 | [y],⟨v,ws,e1,h1,h2⟩,q=>
  cases h2;subst e1
  obtain ⟨m,e2,c,q⟩:=i1.ex q
  refine ⟨m,by rw [re1.int h1 e2],c.1,c.2,?_⟩
  obtain ⟨E2,e3,q⟩:=q.ex
  cases e3
  replace q:=nfS_eq q
  obtain ⟨c1,c2⟩:=re1.cut (E:=E) g1.pre re.len
  have gs:Gs B H σ E H1 σ (E1.take E.length):=g1.kp.trans (Kp.less c2)
  have ok:=itr_ok (K:=K) (lo:=0) (n:=m.toNat)
  generalize hit:rngT 0 m.toNat=items at q ok
  refine ⟨fun i' m' σ' H'=>m'=items.length-i'∧i'≤items.length∧∃E',loopT (kName j) F DT (items.drop i') E'∧Gm a B H σ E H' σ' E'∧RE K B H' σ' E'∧DatM i a P σ' H',⟨_,rfl,Nat.zero_le _,_,q,gm_of gs,c1,dt.keep re gs.keep rfl⟩,?_⟩
  rintro i' m' σ2 H2 ⟨rfl,hi',E3,q3,g3,re3,dt3⟩
  rcases Nat.lt_or_ge i' items.length with hlt | hge
  ·have hd:items.drop i'=items[i']::items.drop (i'+1):=List.drop_eq_getElem_cons hlt
   rw [hd] at q3
   refine .inr ⟨ok.go i' H2 (fun _=>False) trivial hlt,fun σ' H'=>∃E',loopT (kName j) F DT (items.drop (i'+1)) E'∧Gm a B H σ E H' σ' E'∧RE K B H' σ' E'∧DatM i a P σ' H',fun σ' H' ⟨E',z⟩=>⟨items.length-(i'+1),by omega,rfl,hlt,E',z⟩,fun y H4 yl=>?_⟩
   obtain ⟨k4,s4,rp⟩:=ok.yld i' H2 (Ow B σ2 E3) y H4 _ trivial (List.getElem?_eq_getElem hlt) (fun a z=>by obtain ⟨vs,e⟩:=re3.ow z;rw [e];intro z;cases z) yl
   have re4:=re3.kept s4
   obtain ⟨re5,ow5⟩:=re4.setP (i:=j) rp
   have q5:=nfS_eq (show nfS (E3.set j (some (.p items[i']))) (F { DT with nx:=loopT (kName j) F DT (items.drop (i'+1)),ct:=loopT (kName j) F DT (items.drop (i'+1)),bk:=DT.nx }) from q3)
   have g5:Gs B H4 σ2 E3 H4 (σ2.set j (some y)) (E3.set j (some (.p items[i']))):=Kp.less ow5
   have gg:=g3.trans (gm_of (k4.trans g5))
   have l5:=l.step gg
   have dt5:DatM i a P (σ2.set j (some y)) H4:=dt3.keep re3 (fun b o e _=>s4 b o e) (List.getElem?_set_ne hne)
   refine ⟨a,dt5,B,_,_,re5,q5,?_⟩
   exact ⟨fun σ' H' E' z g re' d'=>⟨E',z,gg.trans g,re',d'⟩,l5.rt,fun σ' H' E' z g re' d'=>l5.nx _ _ _ z g re' d',fun σ' H' E' z g re' d'=>⟨E',z,gg.trans g,re',d'⟩⟩
  ·have ei:i'=items.length:=by omega
   subst ei
   rw [List.drop_length] at q3
   exact .inl ⟨ok.stop H2 (fun _=>False) trivial,l.nx _ _ _ q3 g3 re3 dt3⟩
 | [],_,q=>exact q.elim
 | _::_::_,_,q=>exact q.elim
end
section
variable {X:Cx} {K:PySem.W.Frag} {sts b1:List Stmt} {pos:Pos} {i:Nat}
theorem gm_out {a:Addr} {B:Addr→Prop} {H H1 H':Hp} {S S1 S':St} {E E1 E':En} (ha:H a=none) (g:Gs B H S E H1 S1 E1) (g':Gm a B H1 S1 E1 H' S' E'):Gs B H S E H' S' E':=by
 refine ⟨fun c o e n=>g'.keep c o (g.keep c o e n) fun z=>?_,fun c z=>?_⟩
 ·rcases z with z | z
  ·rcases g.new c z with z | z
   ·exact n z
   ·rw [e] at z;cases z
  ·rw [z,ha] at e;cases e
 ·rcases g'.new c (.inl z) with (z | z) | z
  ·exact g.new c z
  ·rw [z];exact .inr ha
  ·cases e:H c with
   | none=>exact .inr rfl
   | some o=>
    by_cases n:Ow B S E c
    ·exact .inl n
    ·rw [g.keep c o e n] at z;cases z
theorem QB.leM {t t':TS} (h:QB X sts t) (m:∀D σ H,σ.length=X.N.length→t' D σ H→t D σ H):QB X sts t':=⟨fun pins s σ H D I z=>h.h pins s σ H D I (m D σ H I.len z)⟩
def sNewM (i:Nat) (G:(List (List Key×V)→Prop)→FS):FS:=fun D E=>∃P,P []∧nfS (E.set i none) (G P D)
theorem mb_new {G:(List (List Key×V)→Prop)→FS} {x:Str} {p' pd:Pos} (hN:X.N.Nodup) (hi:X.N[i]? = some x) (hx:Loc X.env.scope x) (hrest:∀P,QB X sts (simSM i P K (G P))) (hs:swapsWith (.Dict [] [] pd) (some (.Name x p')) pos.line X.env=pure false:=by rfl)
  (hf:X.fn x=true∨X.env.scope.names.lookup x=some .local:=by first | exact .inl rfl | exact .inr rfl | assumption):QB X (.Assign [.Name x p'] (.Dict [] [] pd) pos::sts) (simS K (sNewM i G)):=by
 refine (qb_cons (u:=fun D σ H=>∃P,simSM i P K (G P) D σ H) (qs_set hN hi hx (⟨pe_dnewT⟩:QE X (.Dict [] [] pd) tDNewT) hs hf) ⟨fun pins s σ H D I ⟨P,z⟩=>(hrest P).h pins s σ H D I z⟩).leM fun D σ H hl ⟨B,E,DT,re,hF,l⟩=>?_
 obtain ⟨P,p0,hF⟩:=hF
 intro b hb
 have c3:RE K B (upd H b (.dT [])) σ E:=re.kept fun d o e=>by rw [upd_ne (ne_of_none e hb)];exact e
 obtain ⟨c4,c5⟩:=c3.setVN (i:=i) (v:=.ref b)
 have gg:Gs B H σ E (upd H b (.dT [])) (σ.set i (some (.ref b))) (E.set i none):=(Kp.upd hb).trans (Kp.less c5)
 have li:i<σ.length:=by rw [hl];exact (List.getElem?_eq_some_iff.mp hi).1
 refine ⟨P,b,⟨List.getElem?_set_self li,[],upd_same,p0⟩,B,_,DT,c4,nfS_eq hF,?_⟩
 exact ⟨fun σ' H' E' z g' re' _=>l.nx _ _ _ z (gm_out hb gg g') re',fun r E' v H' S' z g' re' rr=>l.rt _ _ _ _ _ z (gm_out hb gg g') re' rr,fun σ' H' E' z g' re' _=>l.bk _ _ _ z (gm_out hb gg g') re',fun σ' H' E' z g' re' _=>l.ct _ _ _ z (gm_out hb gg g') re'⟩
def Stab (P:List (List Key×V)→Prop) (m n:Int) (z:Str):Prop:=∀kvs,P kvs→kvs.length<1000∧(∀u,valV kvs [Sum.inl m,Sum.inl n]=some u→u = .str z)∧(valV kvs [Sum.inl m,Sum.inl n]=none→P (putK kvs [Sum.inl m,Sum.inl n] (.str z)))
def sIfOr (P:List (List Key×V)→Prop) (iu iv:Nat) (F1:FB) (Fe Fe':FE):FS:=fun D E=>F1 E fun b E1=>b=false∧E1.take E.length=E∧∃(m n:Int) (z:Str),E[iu]? = some (some (.p (.int m)))∧E[iv]? = some (some (.p (.int n)))∧Stab P m n z∧
 Fe E fun r E2=>E2=E∧vl E r=some (.str z)∧Fe' E fun r' E3=>E3=E∧vl E r'=some (.str z)∧D.nx E
theorem ms_ifOr {P:List (List Key×V)→Prop} {c1 e e':Expr} {iu iv k:Nat} {y u v:Str} {p1 ap pu pv pt cp pc po:Pos} {x1} {F1:FB} {Fe Fe':FE} (hr:Room k X.A) (h1:QT X c1 (simB K F1)) (hiy:X.N[i]? = some y) (hvy:Vis X.env.scope y) (hiu:X.N[iu]? = some u) (hvu:Vis X.env.scope u) (hiv:X.N[iv]? = some v) (hvv:Vis X.env.scope v)
  (he:QE X e (simE K Fe)) (he':QE X e' (simE K Fe')) (m:M2 X (.Name y p1) "setdefault" ap (.Tuple [.Name u pu,.Name v pv] x1 pt) e cp) (hm:behindInMarks .NotEq e'=false)
  (d1:(y==("__debug__":Str))=false:=by decide) (d2:(y==("__classdict__":Str))=false:=by decide) (d3:(u==("__debug__":Str))=false:=by decide) (d4:(u==("__classdict__":Str))=false:=by decide) (d5:(v==("__debug__":Str))=false:=by decide) (d6:(v==("__classdict__":Str))=false:=by decide) :
  QS X (.If (.BoolOp .Or [c1,.Compare (.Call (.Attribute (.Name y p1) "setdefault" ap) [.Tuple [.Name u pu,.Name v pv] x1 pt,e] [] cp) [.NotEq] [e'] pc] po) b1 [] pos) (simSM i P K (sIfOr P iu iv F1 Fe Fe')):=by
 have hno:QB X b1 (fun _ _ _=>False):=⟨fun _ _ _ _ _ _ z=>z.elim⟩
 refine (qs_if (qt_w (qw_or h1 (qw_or1 (qt_cmpR op_ne (⟨pe_dset (hu_of hr) (pe_var hiy hvy d1 d2) (qe_tup (qc (qv iu hiu hvu d3 d4) (qc (qv iv hiv hvv d5 d6) qa_nil))).h he.h m⟩:QE X _ _) he' hm)))) hno qb_nil).le fun D σ H hl ⟨a,dt,B,E,DT,re,hF,l⟩=>?_
 refine afterB (P:=fun b E1=>b=false∧E1=E∧∃(m n:Int) (z:Str),E[iu]? = some (some (.p (.int m)))∧E[iv]? = some (some (.p (.int n)))∧Stab P m n z∧Fe E fun r E2=>E2=E∧vl E r=some (.str z)∧Fe' E fun r' E3=>E3=E∧vl E r'=some (.str z)∧DT.nx E) re hF fun b H1 E1 q g1 re1=>?_
 obtain ⟨rfl,rfl,m,n,z,eu,ev,st,q⟩:=q
 refine iteF ?_
 have dt1:=dt.keep re g1.keep rfl
 obtain ⟨da,kvs0,dk0,_⟩:=id dt1
 obtain ⟨wu,su,ru⟩:=re1.pure iu _ eu
 obtain ⟨wv,sv,rv⟩:=re1.pure iv _ ev
 cases ru;cases rv
 refine ⟨.ref a,da,a,rfl,.inr ⟨kvs0,.inl dk0⟩,.int m,su,.int n,sv,by show 2≤sizeLine;decide,fun p hp=>?_⟩
 have up:∀b o,H1 b=some o→(upd H1 p (.tup [.int m,.int n])) b=some o:=fun b o e=>by rw [upd_ne (ne_of_none e hp)];exact e
 have re2:=re1.kept up
 have same:∀{S2:St} {H2 H3:Hp},(∃τ,S2=σ++τ)→RE K B H2 S2 E1→S2=σ:=fun {S2 H2 H3} ⟨τ,hτ⟩ r2=>by
  have h1:=congrArg List.length hτ
  rw [List.length_append,r2.len,re.len] at h1
  obtain rfl:τ=[]:=List.eq_nil_of_length_eq_zero (by omega)
  rw [hτ,List.append_nil]
 refine ⟨B,σ,E1,_,⟨[],by simp⟩,re2,q,fun r E2 w H2 S2 q g2 re3 rr=>?_⟩
 obtain ⟨rfl,ez,q⟩:=q
 obtain rfl:=same (H3:=H2) g2.pre re3
 have ew:=re3.str rr ez
 subst ew
 have dt2:DatM i a P S2 H2:=(dt1.keep re1 (fun b o e _=>up b o e) rfl).keep re2 g2.kp.keep rfl
 obtain ⟨da2,kvs,dk,pk⟩:=id dt2
 have hp2:H2 p=some (.tup ([Sum.inl m,Sum.inl n].map kV)):=g2.kp.keep p _ upd_same (re2.nt upd_same)
 obtain ⟨s1,s2,s3⟩:=st kvs pk
 have gm2:Gm a B H S2 E2 H2 S2 E2:=gm_of (g1.trans ((Kp.upd hp).trans g2.kp))
 have fin:∀H3,RE K B H3 S2 E2→DatM i a P S2 H3→Gm a B H S2 E2 H3 S2 E2→simE K Fe' S2 H3 fun yy H4=>rNe (.str z) yy H4 fun x H'=>∃k,x = .bl k∧if k=true then False else D.nx S2 H':=fun H3 re4 dt4 gm4=>by
  refine ⟨B,S2,E2,_,⟨[],by simp⟩,re4,q,fun r' E3 w' H5 S3 q5 g5 re5 rr5=>?_⟩
  obtain ⟨rfl,ez5,q5⟩:=q5
  obtain rfl:=same (H3:=H5) g5.pre re5
  have ew:=re5.str rr5 ez5
  subst ew
  refine ⟨rfl,false,by simp,?_⟩
  rw [if_neg (by decide)]
  exact l.nx _ _ _ q5 (gm4.trans (gm_of g5.kp)) re5 (dt4.keep re4 g5.kp.keep rfl)
 refine ⟨p,kvs,[Sum.inl m,Sum.inl n],rfl,dk,hp2,by rw [sizeLine_eq];omega,fun uu hu=>?_,fun hn=>?_⟩
 ·rw [s2 uu hu]
  exact fin H2 re3 dt2 gm2
 ·refine fin _ (re3.dk (upd_dk dk)) ⟨da2,_,upd_same,s3 hn⟩ (gm2.trans ⟨fun b o e n=>?_,fun b z=>.inl z⟩)
  rw [upd_ne (fun z=>n (.inr z))];exact e
end
end L2
set_option Elab.async false
set_option linter.all false
set_option maxRecDepth 100000
set_option maxHeartbeats 4000000
namespace My
open PySem L2 PyProof.Rows
def top (i:Nat):Stmt:=PySem.Challenge.pw_sidecut_k50_texts_again_and_shared.main.body.getD i (.Pass ⟨0,0,0,0⟩)
section
variable {P:Program} {w:World} {K:PySem.W.Frag} {mg:Str→Option Value} {base:Heap}
structure Bx (xs:List T) (n:Int):Prop where
 ex:∃A B c:Int,xs=[.int A,.int B,.int c]∧0≤A∧0≤B∧B<2147483647∧0≤c∧c≤n
theorem Bx.mono {xs:List T} {n m:Int} (b:Bx xs n) (h:n≤m):Bx xs m:=let ⟨A,B,c,h1,h2,h3,h4,h5,h6⟩:=b;⟨A,B,c,h1,h2,h3,h4,h5,by omega⟩
def tTake:SpT:=fun as Q=>∃(xs:List T) (m n:Int),as=[.b xs,.v (.int m)]∧Bx xs n∧n≤1000000∧1≤m∧m<2^200∧∀r ys,0≤r→r<m→Bx ys (n+1)→Q (.v (.int r)) ys
abbrev s_take:Stmt:=top 42
theorem sc_take:FnScope ["_law_box","_law_many","_law_once","_law_found"] ["_law_box","_law_many"] (defScope s_take):=⟨rfl,rfl,rfl,by decide +kernel,rfl,by decide +kernel,by decide +kernel⟩
theorem ok_take {f:Addr} {fd:FuncData} (F:Fun K "_law_take" "_law_take" s_take f fd) (TX:Txt mg)    : FnOk P w K mg base CX0 1 f fd ["_law_box","_law_many"] (spOf K tTake):=by
 refine F.okT sc_take ?len (fun cdv A outer s H E hr=>(fb_cons (fs_if (ft_cp op_gt (fe_ix rfl (fv 0) fe_int (fun _ _=>rfl)) fe_int (nomark _)) (fb_cons (fs_asg (fe_divmod rfl TX.n_divmod (fc (fe_ix rfl (fv 0) fe_int (fun _ _=>rfl)) (fc (fv 1) fa_nil))) (fg_tup (n:=2) rfl rfl (fgs_cons (fg_sub (fv 0) fe_int) (fgs_cons (fg_name (i:=3) sc_take.nd rfl (Or.inl rfl)) fgs_nil))))
 (fb_one (fs_ret (fv 3)))) fb_nil)
 (fb_cons (fs_asg (fe_opI0 op_add (fe_ix rfl (fv 0) fe_int (fun _ _=>rfl)) fe_int) (fg_sub (fv 0) fe_int))
 (fb_cons (fs_set (i:=2) sc_take.nd rfl (Or.inl rfl) (fe_opI op_mod (fe_opI op_pow (fe_opI0 op_add (fe_ix rfl (fv 0) fe_int (fun _ _=>rfl)) (fe_opI op_mulA fe_int (fe_ix rfl (fv 0) fe_int (fun _ _=>rfl)))) fe_int) fe_int))
 (fb_one (fs_ret (fe_opI op_mod (fe_opI op_fdivZ (fe_opI op_mod (fe_opI0 op_add (fe_opI op_mulA (fv 2) fe_int) (fe_opI op_mulA (fe_opI op_mulA (fe_ix rfl (fv 0) fe_int (fun _ _=>rfl)) (fe_ix rfl (fv 0) fe_int (fun _ _=>rfl))) fe_int)) fe_int) fe_int) (fv 1)))))))) ?rd
 case len=>rintro as Q ⟨xs,m,n,rfl,_⟩;rfl
 case rd=>
  rintro as Q ⟨xs,m,n,rfl,⟨A,B,c,rfl,hA,hB,hB2,hc,hcn⟩,hn,h1,h2,k⟩
  show if decide (0<A)=true then _ else _
  by_cases hA0:0<A
  ·rw [decide_eq_true hA0,if_pos rfl]
   refine ⟨⟨by omega,h2⟩,⟨rfl,k _ _ (Int.emod_nonneg _ (by omega)) (Int.emod_lt_of_pos _ (by omega)) ⟨_,_,_,rfl,Int.ediv_nonneg hA (by omega),hB,hB2,hc,by omega⟩⟩⟩
  ·rw [decide_eq_false hA0,if_neg (by decide)]
   have p5:CPow (B+39373*(c+1)) 5:=⟨by decide,by decide,by omega⟩
   have o1:0≤(B+39373*(c+1))^(5:Int).toNat%2147483647:=Int.emod_nonneg _ (by decide)
   have o2:(B+39373*(c+1))^(5:Int).toNat%2147483647<2147483647:=Int.emod_lt_of_pos _ (by decide)
   have d64:CDivZ (((B+39373*(c+1))^(5:Int).toNat%2147483647*48271+(c+1)*(c+1)*7919)%2147483629) 64:=⟨by decide,Nat.lt_of_lt_of_le (show (64:Int).natAbs<2^7 by decide) (Nat.pow_le_pow_right (by decide) (by decide))⟩
   refine ⟨mulL (by decide),p5,(by show (0:Int)<2147483647;decide),?_⟩
   refine ⟨mulR (by decide),mulL (by omega),mulR (by decide),?_⟩
   refine ⟨(by show (0:Int)<2147483629;decide),d64,(by show (0:Int)<m;omega),⟨rfl,?_⟩⟩
   exact k _ _ (Int.emod_nonneg _ (by omega)) (Int.emod_lt_of_pos _ (by omega)) ⟨_,_,_,rfl,hA,hB,hB2,by omega,by omega⟩
def intsT (ns:List Int):List T:=ns.map T.int
theorem intsT_at {ns:List Int} {k:Int} (h0:0≤k) (h1:k<(ns.length:Int)):∃z,atI (intsT ns) k=some (.int z):=by
 have hk:k.toNat<ns.length:=by omega
 refine ⟨ns[k.toNat],?_⟩
 have e3:k=((k.toNat:Nat):Int):=by omega
 have z:=atI_nat (xs:=intsT ns) (j:=k.toNat) (v:=T.int ns[k.toNat]) (by rw [intsT,List.getElem?_map,List.getElem?_eq_getElem hk];rfl)
 rw [←e3] at z
 exact z
def tBoxOf:SpT:=fun as Q=>∃(ns:List Int) (k:Int),as=[.v (.lst (intsT ns)),.v (.int k)]∧0≤k∧k≤1000∧∀xs,Bx xs 0→noLs xs=true→Q (.l xs) []
abbrev s_box_of:Stmt:=top 41
theorem sc_box_of:FnScope ["_law_script","_law_k","_law_cell"] ["_law_script","_law_k"] (defScope s_box_of):=⟨rfl,rfl,rfl,by decide +kernel,rfl,by decide +kernel,by decide +kernel⟩
theorem ok_box_of {f:Addr} {fd:FuncData} (F:Fun K "_law_box_of" "_law_box_of" s_box_of f fd) (TX:Txt mg)    : FnOk P w K mg base CX0 1 f fd ["_law_script","_law_k"] (spOf K tBoxOf):=by
 refine F.okT sc_box_of ?len (fun cdv A outer s H E hr=>(fb_cons (fs_set (i:=2) sc_box_of.nd rfl (Or.inl rfl) fe_int)
 (fb_cons (fs_if (ft_cp op_lt (fv 1) (fe_len rfl rfl TX.n_len (fc (fv 0) fa_nil)) (nomark _)) (fb_one (fs_set (i:=2) sc_box_of.nd rfl (Or.inl rfl) (fe_ix rfl (fv 0) (fv 1) (fun _ _=>rfl)))) fb_nil)
 (fb_one (fs_ret (fe_lst (fc (fe_opI op_mulA (fe_abs rfl TX.n_abs (fc (fv 2) fa_nil)) (fe_intB rfl TX.n_int (fc (fe_cp op_ge (fe_abs rfl TX.n_abs (fc (fv 2) fa_nil)) (fe_opI op_pow fe_int fe_int) (nomark _)) fa_nil))) (fc (fe_opI op_mod (fe_opI0 op_add (fv 2) (fe_opI op_mulA (fe_opI op_mulA fe_int (fv 1)) (fv 1))) fe_int) (fc fe_int fa_nil))))))))) ?rd
 case len=>rintro as Q ⟨ns,k,rfl,_⟩;rfl
 case rd=>
  rintro as Q ⟨ns,k,rfl,h0,h1,q⟩
  have p10:CPow 10 18:=⟨by decide,by decide,by decide⟩
  have bx:∀z:Int,Bx [.int ((z.natAbs:Int)*(if decide ((10:Int)^(18:Int).toNat≤(z.natAbs:Int))=true then 1 else 0)),.int ((z+7919*k*k)%2147483647),.int 0] 0:=fun z=>
   ⟨_,_,_,rfl,Int.mul_nonneg (by omega) (by split<;>decide),Int.emod_nonneg _ (by decide),Int.emod_lt_of_pos _ (by decide),by decide,by decide⟩
  have k2:(7919*k).natAbs<2^60:=by omega
  have one:∀z:Int,(if decide ((10:Int)^(18:Int).toNat≤(z.natAbs:Int))=true then (1:Int) else 0).natAbs<2^60:=fun z=>by split<;>decide
  have pm:(fun (_ j:Int)=>0<j) 0 2147483647:=by show (0:Int)<2147483647;decide
  show if decide (k<((intsT ns).length:Int))=true then _ else _
  by_cases hk:k<((intsT ns).length:Int)
  ·rw [decide_eq_true hk,if_pos rfl]
   obtain ⟨z,hz⟩:=intsT_at (ns:=ns) h0 (by simpa [intsT] using hk)
   show o1 (atI (intsT ns) k) _
   rw [hz]
   exact ⟨p10,mulR (one z),mulL (by decide),mulL k2,pm,⟨rfl,q _ (bx z) rfl⟩⟩
  ·rw [decide_eq_false hk,if_neg (by decide)]
   exact ⟨p10,mulR (one 0),mulL (by decide),mulL k2,pm,⟨rfl,q _ (bx 0) rfl⟩⟩
def tLow:SpT:=fun as Q=>∃(n d:Int),as=[.v (.int n),.v (.int d)]∧d≠0∧d.natAbs<2^8000∧Q (.v (fr (low n d))) []
theorem cdivZ {i:Int} {n d:Int} (hd:d≠0) (hb:d.natAbs<2^8000):CDivZ i ((Nat.gcd n.natAbs d.natAbs:Nat):Int):=by
 have h1:0<Nat.gcd n.natAbs d.natAbs:=Nat.gcd_pos_of_pos_right _ (by omega)
 have h2:Nat.gcd n.natAbs d.natAbs≤d.natAbs:=Nat.gcd_le_right _ (by omega)
 exact ⟨by omega,Nat.lt_of_le_of_lt (by omega) hb⟩
theorem fdivN (i:Int) (n:Nat):i.fdiv (n:Int)=i/(n:Int):=Int.fdiv_eq_ediv_of_nonneg _ (by omega)
def tCommon:SpT:=fun as Q=>∃(n d:Int),as=[.v (.int n),.v (.int d)]∧Q (.v (.int ((Nat.gcd n.natAbs d.natAbs:Nat):Int))) []
abbrev s_common_divisor:Stmt:=top 7
theorem sc_common_divisor:FnScope ["one","other"] ["one","other"] (defScope s_common_divisor):=⟨rfl,rfl,rfl,by decide +kernel,rfl,by decide +kernel,by decide +kernel⟩
theorem ok_common_divisor {f:Addr} {fd:FuncData} (F:Fun K "common_divisor" "common_divisor" s_common_divisor f fd) (TX:Txt mg)    : FnOk P w K mg base CX0 1 f fd ["one","other"] (spOf K tCommon):=by
 refine F.okT sc_common_divisor ?len (fun cdv A outer s H E hr=>(fb_cons (fs_par (i:=0) (j:=1) rfl sc_common_divisor.nd rfl rfl (by decide) rfl rfl (fc (fe_abs rfl TX.n_abs (fc (fv 0) fa_nil)) (fc (fe_abs rfl TX.n_abs (fc (fv 1) fa_nil)) fa_nil)) rfl)
 (fb_cons (fs_while PassesOwn.never (ft_ne rfl hr (fv 1) fe_int (nomark _)) (fb_one (fs_par (i:=0) (j:=1) rfl sc_common_divisor.nd rfl rfl (by decide) rfl rfl (fc (fv 1) (fc (fe_opI op_mod (fv 0) (fv 1)) fa_nil)) rfl)))
 (fb_one (fs_ret (fv 0)))))) ?rd
 case len=>rintro as Q ⟨n,d,rfl,_⟩;rfl
 case rd=>
  rintro as Q ⟨n,d,rfl,q⟩
  refine ⟨fun m E=>∃x y:Nat,E=[some (.p (.int x)),some (.p (.int y))]∧m=y∧Nat.gcd x y=Nat.gcd n.natAbs d.natAbs,⟨_,_,_,rfl,rfl,rfl⟩,?_⟩
  rintro m E ⟨x,y,rfl,rfl,hg⟩
  refine ⟨Nat.zero_le _,?_⟩
  show if (!((m:Int)==0))=true then _ else _
  by_cases hy:m=0
  ·subst hy
   rw [if_neg (by decide)]
   rw [Nat.gcd_zero_right] at hg
   subst hg
   exact ⟨rfl,q⟩
  ·rw [if_pos (by simpa using hy)]
   exact ⟨(by show (0:Int)<(m:Int);omega),x%m,Nat.mod_lt _ (by omega),m,x%m,rfl,rfl,by rw [gcd_step];exact hg⟩
abbrev s_fraction:Stmt:=top 9
theorem sc_fraction:FnScope ["n","d","divisor"] ["n","d"] (defScope s_fraction):=⟨rfl,rfl,rfl,by decide +kernel,rfl,by decide +kernel,by decide +kernel⟩
theorem ok_fraction {f:Addr} {fd:FuncData} (F:Fun K "fraction" "fraction" s_fraction f fd) (TX:Txt mg) (g_common_divisor:Fn P w K mg base 1 "common_divisor" ["one","other"] (spOf K tCommon))   : FnOk P w K mg base CX0 2 f fd ["n","d"] (spOf K tLow):=by
 refine F.okT sc_fraction ?len (fun cdv A outer s H E hr=>(fb_cons (fs_assert (ft_ne rfl hr (fv 1) fe_int (nomark _)))
 (fb_cons (fs_set (i:=2) sc_fraction.nd rfl (Or.inl rfl) (fe_call g_common_divisor hr (by omega) rfl (fc (fv 0) (fc (fv 1) fa_nil))))
 (fb_cons (fs_if (ft_cp op_lt (fv 1) fe_int (nomark _)) (fb_one (fs_set (i:=2) sc_fraction.nd rfl (Or.inl rfl) (fe_neg (fv 2)))) fb_nil)
 (fb_one (fs_ret (fe_tup (fc (fe_opI op_fdivZ (fv 0) (fv 2)) (fc (fe_opI op_fdivZ (fv 1) (fv 2)) fa_nil))))))))) ?rd
 case len=>rintro as Q ⟨n,d,rfl,_⟩;rfl
 case rd=>
  rintro as Q ⟨n,d,rfl,hd,hb,q⟩
  have hd':(!(d==0))=true:=by simpa using hd
  refine ⟨Nat.zero_le _,hd',n,d,rfl,?_⟩
  have dn:((Nat.gcd n.natAbs d.natAbs:Nat):Int)∣n:=Int.ofNat_dvd_left.mpr (Nat.gcd_dvd_left _ _)
  have dd:((Nat.gcd n.natAbs d.natAbs:Nat):Int)∣d:=Int.ofNat_dvd_left.mpr (Nat.gcd_dvd_right _ _)
  have g0:((Nat.gcd n.natAbs d.natAbs:Nat):Int)≠0:=(cdivZ (i:=0) (n:=n) hd hb).1
  have fneg:∀{g m:Int},g≠0→g∣m→m.fdiv (-g)=(-m)/g:=fun {g m} h0 hm=>by
   obtain ⟨k,rfl⟩:=hm
   have e1:g*k=(-g)*(-k):=by grind
   have e2:-(g*k)=g*(-k):=by grind
   rw [e2,Int.mul_ediv_cancel_left _ h0,e1,Int.mul_fdiv_cancel_left _ (by omega)]
  show if decide (d<0)=true then _ else _
  by_cases h:d<0
  ·rw [decide_eq_true h,if_pos rfl]
   have cz:∀i:Int,CDivZ i (-((Nat.gcd n.natAbs d.natAbs:Nat):Int)):=fun i=>⟨by omega,by rw [Int.natAbs_neg];exact (cdivZ (i:=i) (n:=n) hd hb).2⟩
   refine ⟨cz _,cz _,rfl,?_⟩
   unfold low lowN lowD at q
   rw [if_neg (by omega),if_neg (by omega),←fneg g0 dn,←fneg g0 dd] at q
   exact q
  ·rw [decide_eq_false h,if_neg (by decide)]
   refine ⟨cdivZ hd hb,cdivZ hd hb,rfl,?_⟩
   unfold low lowN lowD at q
   rw [if_pos (by omega),if_pos (by omega),←fdivN,←fdivN] at q
   exact q
end
end My
set_option Elab.async false
set_option linter.all false
set_option maxRecDepth 100000
set_option maxHeartbeats 4000000
namespace My
open PySem L2 PyProof.Rows
section
variable {P:Program} {w:World} {K:PySem.W.Frag} {mg:Str→Option Value} {base:Heap}
theorem pl {x e f:Nat} (h:x<2^e) (k:e≤f):x<2^f:=Nat.lt_of_lt_of_le h (Nat.pow_le_pow_right (by decide) k)
def tBin (op:Fr→Fr→Fr):SpT:=fun as Q=>∃x y:Fr,as=[.v (fr x),.v (fr y)]∧Nrm x∧Nrm y∧sz x+sz y≤7900∧Q (.v (fr (op x y))) []
abbrev s_added:Stmt:=top 10
theorem sc_added:FnScope ["one","other"] ["one","other"] (defScope s_added):=⟨rfl,rfl,rfl,by decide +kernel,rfl,by decide +kernel,by decide +kernel⟩
theorem ok_added {f:Addr} {fd:FuncData} (F:Fun K "added" "added" s_added f fd) (TX:Txt mg) (g_fraction:Fn P w K mg base 2 "fraction" ["n","d"] (spOf K tLow))   : FnOk P w K mg base CX0 3 f fd ["one","other"] (spOf K (tBin fadd)):=by
 refine F.okT sc_added ?len (fun cdv A outer s H E hr=>(fb_one (fs_ret (fe_call g_fraction hr (by omega) rfl (fc (fe_opI0 op_add (fe_opI op_mulA (fe_ix rfl (fv 0) fe_int (fun _ _=>rfl)) (fe_ix rfl (fv 1) fe_int (fun _ _=>rfl))) (fe_opI op_mulA (fe_ix rfl (fv 1) fe_int (fun _ _=>rfl)) (fe_ix rfl (fv 0) fe_int (fun _ _=>rfl)))) (fc (fe_opI op_mulA (fe_ix rfl (fv 0) fe_int (fun _ _=>rfl)) (fe_ix rfl (fv 1) fe_int (fun _ _=>rfl))) fa_nil)))))) ?rd
 case len=>rintro as Q ⟨x,y,rfl,_⟩;rfl
 case rd=>
  rintro as Q ⟨x,y,rfl,hx,hy,hs,q⟩
  have hd:(x.2*y.2).natAbs<2^8000:=pow8 (mul_pow (sz_d x) (sz_d y)) (by omega)
  exact ⟨mulA (e:=7900) (pl (sz_n x) (by omega)) (pl (sz_d y) (by omega)) (by decide),mulA (e:=7900) (pl (sz_n y) (by omega)) (pl (sz_d x) (by omega)) (by decide),mulA (e:=7900) (pl (sz_d x) (by omega)) (pl (sz_d y) (by omega)) (by decide),_,_,rfl,mul_ne hx hy,hd,rfl,q⟩
abbrev s_taken:Stmt:=top 11
theorem sc_taken:FnScope ["one","other"] ["one","other"] (defScope s_taken):=⟨rfl,rfl,rfl,by decide +kernel,rfl,by decide +kernel,by decide +kernel⟩
theorem ok_taken {f:Addr} {fd:FuncData} (F:Fun K "taken" "taken" s_taken f fd) (TX:Txt mg) (g_fraction:Fn P w K mg base 2 "fraction" ["n","d"] (spOf K tLow))   : FnOk P w K mg base CX0 3 f fd ["one","other"] (spOf K (tBin fsub)):=by
 refine F.okT sc_taken ?len (fun cdv A outer s H E hr=>(fb_one (fs_ret (fe_call g_fraction hr (by omega) rfl (fc (fe_opI0 op_sub (fe_opI op_mulA (fe_ix rfl (fv 0) fe_int (fun _ _=>rfl)) (fe_ix rfl (fv 1) fe_int (fun _ _=>rfl))) (fe_opI op_mulA (fe_ix rfl (fv 1) fe_int (fun _ _=>rfl)) (fe_ix rfl (fv 0) fe_int (fun _ _=>rfl)))) (fc (fe_opI op_mulA (fe_ix rfl (fv 0) fe_int (fun _ _=>rfl)) (fe_ix rfl (fv 1) fe_int (fun _ _=>rfl))) fa_nil)))))) ?rd
 case len=>rintro as Q ⟨x,y,rfl,_⟩;rfl
 case rd=>
  rintro as Q ⟨x,y,rfl,hx,hy,hs,q⟩
  have hd:(x.2*y.2).natAbs<2^8000:=pow8 (mul_pow (sz_d x) (sz_d y)) (by omega)
  exact ⟨mulA (e:=7900) (pl (sz_n x) (by omega)) (pl (sz_d y) (by omega)) (by decide),mulA (e:=7900) (pl (sz_n y) (by omega)) (pl (sz_d x) (by omega)) (by decide),mulA (e:=7900) (pl (sz_d x) (by omega)) (pl (sz_d y) (by omega)) (by decide),_,_,rfl,mul_ne hx hy,hd,rfl,q⟩
abbrev s_times:Stmt:=top 12
theorem sc_times:FnScope ["one","other"] ["one","other"] (defScope s_times):=⟨rfl,rfl,rfl,by decide +kernel,rfl,by decide +kernel,by decide +kernel⟩
theorem ok_times {f:Addr} {fd:FuncData} (F:Fun K "times" "times" s_times f fd) (TX:Txt mg) (g_fraction:Fn P w K mg base 2 "fraction" ["n","d"] (spOf K tLow))   : FnOk P w K mg base CX0 3 f fd ["one","other"] (spOf K (tBin fmul)):=by
 refine F.okT sc_times ?len (fun cdv A outer s H E hr=>(fb_one (fs_ret (fe_call g_fraction hr (by omega) rfl (fc (fe_opI op_mulA (fe_ix rfl (fv 0) fe_int (fun _ _=>rfl)) (fe_ix rfl (fv 1) fe_int (fun _ _=>rfl))) (fc (fe_opI op_mulA (fe_ix rfl (fv 0) fe_int (fun _ _=>rfl)) (fe_ix rfl (fv 1) fe_int (fun _ _=>rfl))) fa_nil)))))) ?rd
 case len=>rintro as Q ⟨x,y,rfl,_⟩;rfl
 case rd=>
  rintro as Q ⟨x,y,rfl,hx,hy,hs,q⟩
  have hd:(x.2*y.2).natAbs<2^8000:=pow8 (mul_pow (sz_d x) (sz_d y)) (by omega)
  exact ⟨mulA (e:=7900) (pl (sz_n x) (by omega)) (pl (sz_n y) (by omega)) (by decide),mulA (e:=7900) (pl (sz_d x) (by omega)) (pl (sz_d y) (by omega)) (by decide),_,_,rfl,mul_ne hx hy,hd,rfl,q⟩
def fdot (x y x' y':Fr):Fr:=fadd (fmul x x') (fmul y y')
structure Nv (a b:Fr) (e:Nat):Prop where
 x:Nrm a
 y:Nrm b
 sx:sz a≤e
 sy:sz b≤e
def tVV (op:Fr→Fr→Fr→Fr→Fr):SpT:=fun as Q=>∃(x y x' y':Fr) (e f:Nat),as=[.v (vc x y),.v (vc x' y')]∧Nv x y e∧Nv x' y' f∧e+f≤3900∧Q (.v (fr (op x y x' y'))) []
abbrev s_dot:Stmt:=top 17
theorem sc_dot:FnScope ["one","other"] ["one","other"] (defScope s_dot):=⟨rfl,rfl,rfl,by decide +kernel,rfl,by decide +kernel,by decide +kernel⟩
theorem ok_dot {f:Addr} {fd:FuncData} (F:Fun K "dot" "dot" s_dot f fd) (TX:Txt mg) (g_times:Fn P w K mg base 3 "times" ["one","other"] (spOf K (tBin fmul))) (g_added:Fn P w K mg base 3 "added" ["one","other"] (spOf K (tBin fadd)))   : FnOk P w K mg base CX0 4 f fd ["one","other"] (spOf K (tVV fdot)):=by
 refine F.okT sc_dot ?len (fun cdv A outer s H E hr=>(fb_one (fs_ret (fe_call g_added hr (by omega) rfl (fc (fe_call g_times hr (by omega) rfl (fc (fe_ix rfl (fv 0) fe_int (fun _ _=>rfl)) (fc (fe_ix rfl (fv 1) fe_int (fun _ _=>rfl)) fa_nil))) (fc (fe_call g_times hr (by omega) rfl (fc (fe_ix rfl (fv 0) fe_int (fun _ _=>rfl)) (fc (fe_ix rfl (fv 1) fe_int (fun _ _=>rfl)) fa_nil))) fa_nil)))))) ?rd
 case len=>rintro as Q ⟨x,y,x',y',e,f,rfl,_⟩;rfl
 case rd=>
  rintro as Q ⟨x,y,x',y',e,f,rfl,h,k,he,q⟩
  have:=h.sx;have:=h.sy;have:=k.sx;have:=k.sy
  have n1:=nrm_mul h.x k.x;have n2:=nrm_mul h.y k.y
  have s1:=sz_mul h.x k.x;have s2:=sz_mul h.y k.y
  exact ⟨_,_,rfl,h.x,k.x,by omega,_,_,rfl,h.y,k.y,by omega,_,_,rfl,n1,n2,by omega,rfl,q⟩
def tLeft:SpT:=fun as Q=>∃x y:Fr,as=[.v (vc x y)]∧Q (.v (vc (fneg y) x)) []
theorem le_ok {a b:Nat} (h:Nat.ble a b=true):a≤b:=Nat.le_of_ble_eq_true h
theorem val_dot {x y c s:Fr} {e f:Nat} (h:Nv x y e) (k:Nv c s f):val (fdot x y c s)=val x*val c+val y*val s:=by
 unfold fdot;rw [val_add (nrm_mul h.x k.x) (nrm_mul h.y k.y),val_mul h.x k.x,val_mul h.y k.y]
theorem nrm_dot {x y c s:Fr} {e f:Nat} (h:Nv x y e) (k:Nv c s f):Nrm (fdot x y c s):=nrm_add (nrm_mul h.x k.x) (nrm_mul h.y k.y)
theorem Nv.up {x y:Fr} {e f:Nat} (h:Nv x y e) (k:e≤f):Nv x y f:=⟨h.x,h.y,Nat.le_trans h.sx k,Nat.le_trans h.sy k⟩
theorem val_int (n:Int):val (n,1)=(n:Rat):=by
 show (n:Rat)/((1:Int):Rat)=n
 push_cast
 grind
structure UnE (x y:Fr) (e:Nat):Prop where
 nv:Nv x y e
 one:val x*val x+val y*val y=1
theorem UnE.left {x y:Fr} {e:Nat} (h:UnE x y e):UnE (fneg y) x e:=⟨⟨nrm_neg h.nv.y,h.nv.x,by rw [sz_neg];exact h.nv.sy,h.nv.sx⟩,by rw [val_neg h.nv.y,←h.one];grind⟩
theorem val_d {p:Fr} (h:Nrm p):val p*(p.2:Rat)=(p.1:Rat):=by have:=h.neR;unfold val;grind
theorem d_pos {p:Fr} (h:Nrm p):(0:Rat)<(p.2:Rat):=by have:=h.d;exact_mod_cast (show (0:Int)<p.2 by omega)
theorem val_nonneg {p:Fr} (h:Nrm p):0≤val p↔0≤p.1:=by
 have e:=val_d h
 have d:=d_pos h
 constructor
 ·intro k
  have:=Rat.mul_nonneg k (Rat.le_of_lt d)
  rw [e] at this
  exact_mod_cast this
 ·intro k
  have k':(0:Rat)≤(p.1:Rat):=by exact_mod_cast k
  rcases Rat.le_total (a:=0) (b:=val p) with c | c
  ·exact c
  ·by_cases z:val p=0
   ·grind
   ·have:=Rat.mul_pos (a:=-val p) (b:=p.2) (by grind) d
    grind
theorem rng_at {lo:Int} {n i:Nat} {t:L2.T} (h:(rngT lo n)[i]? = some t):i<n∧t = .int (lo+(i:Int)):=by
 unfold rngT at h
 rw [List.getElem?_map] at h
 rcases Nat.lt_or_ge i n with c | c
 ·rw [List.getElem?_range c] at h
  cases h
  exact ⟨c,rfl⟩
 ·rw [List.getElem?_eq_none (by simpa using c)] at h;cases h
end
end My
set_option Elab.async false
set_option linter.all false
set_option maxRecDepth 100000
set_option maxHeartbeats 4000000
namespace My
open PySem L2 PyProof.Rows
section
variable {P:Program} {w:World} {K:PySem.W.Frag} {mg:Str→Option Value} {base:Heap}
theorem cutT_to (ns:List Int) (m:Nat):cutT (intsT ns) none (some (m:Int))=intsT (ns.take m):=by
 unfold cutT intsT
 rw [HT.sIx_none,HT.sIx_nat,List.drop_zero,Nat.sub_zero,List.map_take]
 rcases Nat.le_total m (ns.map T.int).length with h | h
 ·rw [Nat.min_eq_left h]
 ·rw [Nat.min_eq_right h,List.take_of_length_le (Nat.le_refl _),List.take_of_length_le h]
theorem cutT_sub {xs:List T} {lo hi:Option Int} {y:T} (h:y∈cutT xs lo hi):y∈xs:=List.mem_of_mem_drop (List.mem_of_mem_take h)
theorem cutT_len (xs:List T) (m k:Nat):(cutT xs (some (m:Int)) (some (k:Int))).length≤xs.length-m:=by
 unfold cutT
 rw [HT.sIx_nat,HT.sIx_nat,List.length_take,List.length_drop]
 omega
theorem enum_at {xs:List T} {i:Nat} {x:T} (h:(xs.zipIdx.map fun q=>T.tup [.int (q.2:Int),q.1])[i]? = some x):∃y,xs[i]? = some y∧x = .tup [.int (i:Int),y]:=by
 rw [List.getElem?_map] at h
 cases q:xs.zipIdx[i]? with
 | none=>rw [q] at h;cases h
 | some z=>
  rw [q] at h;cases h
  obtain ⟨q1,q2⟩:=List.getElem?_eq_some_iff.mp q
  rw [List.getElem_zipIdx] at q2
  subst q2
  exact ⟨_,List.getElem?_eq_getElem (by simpa using q1),by simp⟩
def tOff:SpT:=fun as Q=>∃(x y p q:Fr) (e f:Nat),as=[.v (vc x y),.v (vc p q)]∧Nv x y e∧Nv p q f∧e+f≤7000∧Q (.v (vc (fsub x p) (fsub y q))) []
end
end My
set_option Elab.async false
set_option linter.all false
set_option maxRecDepth 100000
set_option maxHeartbeats 4000000
namespace My
open PySem L2 PyProof.Rows
section
variable {P:Program} {w:World} {K:PySem.W.Frag} {mg:Str→Option Value} {base:Heap}
inductive Pc where
 | side (x y:Fr) | arc (m n x y:Fr) (l:Bool)
def turnS (l:Bool):Str:=if l then "left" else "right"
def pcT:Pc→L2.T
 | .side x y=>.tup [.str "side",vc x y]
 | .arc m n x y l=>.tup [.str "arc",vc m n,vc x y,.str (turnS l)]
def Pc.px:Pc→Fr
 | .side x _=>x
 | .arc _ _ x _ _=>x
def Pc.py:Pc→Fr
 | .side _ y=>y
 | .arc _ _ _ y _=>y
def far2 (a b c d:Fr):Rat:=(val a-val c)*(val a-val c)+(val b-val d)*(val b-val d)
def okPc (e:Nat) (a b:Fr):Pc→Prop
 | .side x y=>Nv x y e∧∃r:Rat,0<r∧far2 x y a b=r*r
 | .arc m n x y _=>Nv m n e∧Nv x y e∧¬(x=a∧y=b)∧∃r:Rat,0<r∧far2 a b m n=r*r∧far2 x y m n=r*r
theorem UnE.neg {x y:Fr} {e:Nat} (h:UnE x y e):UnE (fneg x) (fneg y) e:=h.left.left
end
end My
set_option Elab.async false
set_option linter.all false
set_option maxRecDepth 100000
set_option maxHeartbeats 4000000
namespace My
open PySem L2 PyProof.Rows
section
variable {P:Program} {w:World} {K:PySem.W.Frag} {mg:Str→Option Value} {base:Heap}
def chainP (e:Nat):Fr→Fr→List Pc→Prop
 | _,_,[]=>True
 | a,b,p::ps=>okPc e a b p∧chainP e p.px p.py ps
def lastx:Fr→List Pc→Fr
 | a,[]=>a
 | _,p::ps=>lastx p.px ps
def lasty:Fr→List Pc→Fr
 | b,[]=>b
 | _,p::ps=>lasty p.py ps
theorem chain_snoc {e:Nat}:∀{ps:List Pc} {a b:Fr} {p:Pc},chainP e a b ps→okPc e (lastx a ps) (lasty b ps) p→chainP e a b (ps++[p])
 | [],_,_,_,_,h=>⟨h,trivial⟩
 | _::ps,_,_,_,h,k=>⟨h.1,chain_snoc (ps:=ps) h.2 k⟩
theorem lastx_snoc:∀(ps:List Pc) (a:Fr) (p:Pc),lastx a (ps++[p])=p.px
 | [],_,_=>rfl
 | q::ps,_,p=>lastx_snoc ps q.px p
theorem lasty_snoc:∀(ps:List Pc) (a:Fr) (p:Pc),lasty a (ps++[p])=p.py
 | [],_,_=>rfl
 | q::ps,_,p=>lasty_snoc ps q.py p
theorem okPc.up {e f:Nat} {a b:Fr} (k:e≤f):∀{p:Pc},okPc e a b p→okPc f a b p
 | .side _ _,h=>⟨h.1.up k,h.2⟩
 | .arc _ _ _ _ _,h=>⟨h.1.up k,h.2.1.up k,h.2.2⟩
theorem okPc.nv {e:Nat} {a b:Fr}:∀{p:Pc},okPc e a b p→Nv p.px p.py e
 | .side _ _,h=>h.1
 | .arc _ _ _ _ _,h=>h.2.1
def pathT (a b:Fr) (ps:List Pc):L2.T:=.tup [vc a b,.tup (ps.map pcT)]
theorem noL_pc:∀p:Pc,noL (pcT p)=true
 | .side _ _=>rfl
 | .arc _ _ _ _ _=>rfl
theorem noL_path (a b:Fr) (ps:List Pc) (h:noLs (ps.map pcT)=true):noL (pathT a b ps)=true:=by
 show (true&&(noLs (ps.map pcT)&&true))=true
 rw [h];rfl
theorem noLs_pcs:∀ps:List Pc,noLs (ps.map pcT)=true
 | []=>rfl
 | p::ps=>by show (noL (pcT p)&&noLs (ps.map pcT))=true;rw [noL_pc,noLs_pcs ps];rfl
end
end My
set_option Elab.async false
set_option linter.all false
set_option maxRecDepth 100000
set_option maxHeartbeats 4000000
namespace My
open PySem L2 PyProof.Rows
section
variable {P:Program} {w:World} {K:PySem.W.Frag} {mg:Str→Option Value} {base:Heap}
def IsRt (n r:Nat):Prop:=r*r≤n∧n<(r+1)*(r+1)
theorem IsRt.uniq {n r s:Nat} (h:IsRt n r) (k:IsRt n s):r=s:=by
 rcases Nat.lt_trichotomy r s with z | z | z
 ·have:=Nat.mul_le_mul (show r+1≤s from z) (show r+1≤s from z)
  have:=h.2;have:=k.1;omega
 ·exact z
 ·have:=Nat.mul_le_mul (show s+1≤r from z) (show s+1≤r from z)
  have:=k.2;have:=h.1;omega
theorem am_gm (x y:Nat):4*(x*y)≤(x+y)*(x+y):=by
 rcases Nat.le_total x y with h | h
 ·obtain ⟨k,rfl⟩:=Nat.exists_eq_add_of_le h
  have:(x+(x+k))*(x+(x+k))=4*(x*(x+k))+k*k:=by grind
  omega
 ·obtain ⟨k,rfl⟩:=Nat.exists_eq_add_of_le h
  have:(y+k+y)*(y+k+y)=4*((y+k)*y)+k*k:=by grind
  omega
theorem newton_low {g s:Nat} (h:0<g):s<((g+s/g)/2+1)*((g+s/g)/2+1):=by
 have h1:s<g*(s/g+1):=Nat.lt_mul_div_succ s h
 have h2:=am_gm g (s/g+1)
 generalize s/g=q at h1 h2 ⊢
 have h3:g+(q+1)≤2*((g+q)/2+1):=by omega
 generalize (g+q)/2+1=b at h3 ⊢
 have h4:=Nat.mul_le_mul h3 h3
 have h5:2*b*(2*b)=4*(b*b):=by grind
 omega
theorem newton_end {g s:Nat} (h:0<g) (k:¬(g+s/g)/2<g):g*g≤s:=by
 have:g≤s/g:=by omega
 exact (Nat.le_div_iff_mul_le h).mp this
theorem fdiv_nat (a b:Nat):((a:Int)).fdiv (b:Int)=((a/b:Nat):Int):=by
 rw [Int.fdiv_eq_ediv_of_nonneg _ (by omega)];rfl
theorem better_nat (g s:Nat):((g:Int)+((s:Int)).fdiv (g:Int)).fdiv 2=(((g+s/g)/2:Nat):Int):=by
 rw [fdiv_nat,←Int.natCast_add]
 exact fdiv_nat _ 2
theorem first_guess {s:Nat} (h:s≠0):∃g:Nat,(1:Int)*2^((((Builtin.Int.intBits (s:Int):Nat):Int)+1).fdiv 2).toNat=(g:Int)∧0<g∧s<g*g∧(∀e:Nat,s<2^e→g≤2^e)∧(0≤(((Builtin.Int.intBits (s:Int):Nat):Int)+1).fdiv 2)∧∀e:Nat,s<2^e→(((Builtin.Int.intBits (s:Int):Nat):Int)+1).fdiv 2≤e:=by
 have hb:Builtin.Int.intBits (s:Int)=s.log2+1:=by
  unfold Builtin.Int.intBits
  rw [if_neg (by simpa using h)]
  rfl
 rw [hb]
 have e1:((((s.log2+1:Nat):Int)+1)).fdiv 2=(((s.log2+1+1)/2:Nat):Int):=fdiv_nat (s.log2+1+1) 2
 rw [e1,Int.toNat_natCast]
 have hl:=Nat.lt_log2_self (n:=s)
 refine ⟨2^((s.log2+1+1)/2),by rw [Int.one_mul];exact (Int.natCast_pow 2 _).symm,Nat.pow_pos (by decide),?_,fun e he=>?_,by omega,fun e he=>?_⟩
 ·rw [←Nat.pow_add]
  exact Nat.lt_of_lt_of_le hl (Nat.pow_le_pow_right (by decide) (by omega))
 ·have:=(Nat.log2_lt h).mpr he
  exact Nat.pow_le_pow_right (by decide) (by omega)
 ·have:=(Nat.log2_lt h).mpr he
  omega
def tWhole:SpT:=fun as Q=>∃n:Nat,as=[.v (.int (n:Int))]∧n<2^3000∧∀r:Nat,IsRt n r→Q (.v (.int (r:Int))) []
abbrev s_whole_root:Stmt:=top 13
theorem sc_whole_root:FnScope ["square","guess","better"] ["square"] (defScope s_whole_root):=⟨rfl,rfl,rfl,by decide +kernel,rfl,by decide +kernel,by decide +kernel⟩
theorem ok_whole_root {f:Addr} {fd:FuncData} (F:Fun K "whole_root" "whole_root" s_whole_root f fd) (TX:Txt mg)    : FnOk P w K mg base CX0 1 f fd ["square"] (spOf K tWhole):=by
 refine F.okT sc_whole_root ?len (fun cdv A outer s H E hr=>(fb_cons (fs_if (ft_eq rfl hr (fv 0) fe_int (nomark _)) (fb_one (fs_ret fe_int)) fb_nil)
 (fb_cons (fs_set (i:=1) sc_whole_root.nd rfl (Or.inl rfl) (fe_opI op_shl fe_int (fe_opI op_fdivZ (fe_opI0 op_add (fe_bits (fv 0)) fe_int) fe_int)))
 (fb_cons (fs_set (i:=2) sc_whole_root.nd rfl (Or.inl rfl) (fe_opI op_fdivZ (fe_opI0 op_add (fv 1) (fe_opI op_fdivZ (fv 0) (fv 1))) fe_int))
 (fb_cons (fs_while PassesOwn.never (ft_cp op_lt (fv 2) (fv 1) (nomark _)) (fb_cons (fs_set (i:=1) sc_whole_root.nd rfl (Or.inl rfl) (fv 2))
 (fb_one (fs_set (i:=2) sc_whole_root.nd rfl (Or.inl rfl) (fe_opI op_fdivZ (fe_opI0 op_add (fv 1) (fe_opI op_fdivZ (fv 0) (fv 1))) fe_int)))))
 (fb_one (fs_ret (fv 1)))))))) ?rd
 case len=>rintro as Q ⟨n,rfl,_⟩;rfl
 case rd=>
  rintro as Q ⟨n,rfl,hb,q⟩
  refine ⟨Nat.zero_le _,?_⟩
  show if L2.eqT (.int (n:Int)) (.int 0)=true then _ else _
  by_cases hn:n=0
  ·subst hn
   rw [if_pos (show L2.eqT (.int ((0:Nat):Int)) (.int 0)=true by decide)]
   exact ⟨rfl,q 0 ⟨by decide,by decide⟩⟩
  ·rw [if_neg (by simp [L2.eqT];omega)]
   obtain ⟨g0,eg,gp,gs,gb,c0,cb⟩:=first_guess hn
   have big:∀g:Nat,g≤2^3000→((g:Int)).natAbs<2^8000:=fun g h=>by
    rw [Int.natAbs_natCast]
    exact Nat.lt_of_le_of_lt h (Nat.pow_lt_pow_right (by decide) (by decide))
   have hc2:∀i:Int,CDivZ i 2:=fun i=>⟨by decide,pow8 (e:=2) (by decide) (by decide)⟩
   refine ⟨hc2 _,⟨c0,Int.le_trans (cb 3000 hb) (by decide),by decide⟩,?_⟩
   have eg':(fun i j:Int=>i*2^j.toNat) 1 ((((Builtin.Int.intBits (n:Int):Nat):Int)+1).fdiv 2)=(g0:Int):=eg
   rw [eg']
   refine ⟨⟨by omega,big g0 (gb _ hb)⟩,hc2 _,?_⟩
   rw [better_nat]
   refine ⟨fun m E=>∃g:Nat,E=[some (.p (.int (n:Int))),some (.p (.int (g:Int))),some (.p (.int (((g+n/g)/2:Nat):Int)))]∧m=g∧0<g∧g≤2^3000∧n<(g+1)*(g+1),⟨_,g0,rfl,rfl,gp,gb _ hb,Nat.lt_trans gs (Nat.mul_lt_mul'' (Nat.lt_succ_self _) (Nat.lt_succ_self _))⟩,?_⟩
   rintro m E ⟨g,rfl,rfl,hg,hgb,hgn⟩
   show if decide ((((m+n/m)/2:Nat):Int)<(m:Int))=true then _ else _
   by_cases hlt:(m+n/m)/2<m
   ·rw [decide_eq_true (by omega),if_pos rfl]
    have hp:0<(m+n/m)/2:=by
     rcases Nat.eq_zero_or_pos ((m+n/m)/2) with z | z
     ·have:=newton_low (s:=n) hg
      rw [z] at this
      omega
     ·exact z
    refine ⟨⟨by omega,big _ (by omega)⟩,hc2 _,?_⟩
    rw [better_nat]
    exact ⟨_,hlt,_,rfl,rfl,hp,by omega,newton_low hg⟩
   ·rw [decide_eq_false (by omega),if_neg (by decide)]
    exact ⟨rfl,q m ⟨newton_end hg hlt,hgn⟩⟩
theorem rat_fr (r:Rat):∃f:Fr,Nrm f∧val f=r:=by
 refine ⟨(r.num,(r.den:Int)),⟨by have:=r.den_pos;show (1:Int)≤(r.den:Int);omega,?_⟩,?_⟩
 ·show Nat.gcd r.num.natAbs ((r.den:Int)).natAbs=1
  rw [Int.natAbs_natCast];exact r.reduced
 ·show (r.num:Rat)/((r.den:Int):Rat)=r
  rw [←Rat.divInt_eq_div]
  exact Rat.num_divInt_den r
theorem sq_root {p f:Fr} (hp:Nrm p) (hf:Nrm f) (h:val p=val f*val f):f.1*f.1=p.1∧f.2*f.2=p.2:=by
 have n:Nrm (f.1*f.1,f.2*f.2):=by
  refine ⟨?_,?_⟩
  ·have h1:1*1≤f.2*f.2:=Int.mul_le_mul hf.d hf.d (by decide) (by have:=hf.d;omega)
   exact h1
  ·show Nat.gcd (f.1*f.1).natAbs (f.2*f.2).natAbs=1
   rw [Int.natAbs_mul,Int.natAbs_mul,←Nat.pow_two,←Nat.pow_two]
   exact Nat.Coprime.pow 2 2 hf.g
 have e:(f.1*f.1,f.2*f.2)=p:=by
  refine val_inj n hp ?_
  rw [h]
  have:=hf.neR
  show ((f.1*f.1:Int):Rat)/((f.2*f.2:Int):Rat)=_
  unfold val
  push_cast
  grind
 rw [←e]
 exact ⟨rfl,rfl⟩
theorem sz_root {p f:Fr} (hf:Nrm f) (h1:f.1*f.1=p.1) (h2:f.2*f.2=p.2):sz f≤sz p:=by
 have a:∀x y:Int,x*x=y→x.natAbs≤y.natAbs:=fun x y h=>by
  have:=Int.natAbs_mul_self (a:=x)
  rw [←h,Int.natAbs_mul]
  rcases Nat.eq_zero_or_pos x.natAbs with z | z
  ·rw [z];exact Nat.zero_le _
  ·exact Nat.le_mul_of_pos_left _ z
 exact sz_le (Nat.lt_of_le_of_lt (a _ _ h1) (sz_n p)) (Nat.lt_of_le_of_lt (a _ _ h2) (sz_d p)) (sz_pos p)
theorem rt_of {f:Int} {n:Nat} (h0:0≤f) (h:f*f=(n:Int)):IsRt n f.natAbs:=by
 have h1:f.natAbs*f.natAbs=n:=by
  have:=Int.natAbs_mul_self (a:=f)
  omega
 exact ⟨by omega,by rw [←h1];exact Nat.mul_lt_mul'' (Nat.lt_succ_self _) (Nat.lt_succ_self _)⟩
def tRoot:SpT:=fun as Q=>∃p f:Fr,as=[.v (fr p)]∧Nrm p∧Nrm f∧sz p≤2900∧0≤val f∧val p=val f*val f∧Q (.v (fr f)) []
abbrev s_root_of:Stmt:=top 14
theorem sc_root_of:FnScope ["one","n","d","top","bottom"] ["one"] (defScope s_root_of):=⟨rfl,rfl,rfl,by decide +kernel,rfl,by decide +kernel,by decide +kernel⟩
theorem ok_root_of {f:Addr} {fd:FuncData} (F:Fun K "root_of" "root_of" s_root_of f fd) (TX:Txt mg) (g_whole_root:Fn P w K mg base 1 "whole_root" ["square"] (spOf K tWhole))   : FnOk P w K mg base CX0 2 f fd ["one"] (spOf K tRoot):=by
 refine F.okT sc_root_of ?len (fun cdv A outer s H E hr=>(fb_cons (fs_asg (fv 0) (fg_tup (n:=2) rfl rfl (fgs_cons (fg_name (i:=1) sc_root_of.nd rfl (Or.inl rfl)) (fgs_cons (fg_name (i:=2) sc_root_of.nd rfl (Or.inl rfl)) fgs_nil))))
 (fb_cons (fs_if (ft_cp op_lt (fv 1) fe_int (nomark _)) (fb_one (fs_ret fe_non)) fb_nil)
 (fb_cons (fs_par (i:=3) (j:=4) rfl sc_root_of.nd rfl rfl (by decide) rfl rfl (fc (fe_call g_whole_root hr (by omega) rfl (fc (fv 1) fa_nil)) (fc (fe_call g_whole_root hr (by omega) rfl (fc (fv 2) fa_nil)) fa_nil)) rfl)
 (fb_cons (fs_if (ft_w (fw_or (ft_ne rfl hr (fe_opI op_mulA (fv 3) (fv 3)) (fv 1) (nomark _)) (fw_or1 (ft_ne rfl hr (fe_opI op_mulA (fv 4) (fv 4)) (fv 2) (nomark _))))) (fb_one (fs_ret fe_non)) fb_nil)
 (fb_one (fs_ret (fe_tup (fc (fv 3) (fc (fv 4) fa_nil)))))))))) ?rd
 case len=>rintro as Q ⟨p,f,rfl,_⟩;rfl
 case rd=>
  rintro as Q ⟨p,f,rfl,hp,hf,hs,f0,h,q⟩
  obtain ⟨h1,h2⟩:=sq_root hp hf h
  have n0:=(val_nonneg hf).1 f0
  have d0:=hf.d
  have p0:0≤p.1:=by rw [←h1];exact Int.mul_nonneg n0 n0
  have pd:=hp.d
  have e1:p.1=((p.1.natAbs:Nat):Int):=by omega
  have e2:p.2=((p.2.natAbs:Nat):Int):=by omega
  have bb:∀x:Nat,x<2^sz p→x<2^3000:=fun x h=>pl h (by omega)
  show if decide (p.1<0)=true then _ else _
  rw [decide_eq_false (by omega),if_neg (by decide)]
  refine ⟨p.1.natAbs,by rw [←e1];rfl,bb _ (sz_n p),fun r hr=>?_⟩
  refine ⟨p.2.natAbs,by rw [←e2];rfl,bb _ (sz_d p),fun t ht=>?_⟩
  have er:r=f.1.natAbs:=hr.uniq (rt_of n0 (h1.trans e1))
  have et:t=f.2.natAbs:=ht.uniq (rt_of (by omega) (h2.trans e2))
  have r1:(r:Int)=f.1:=by omega
  have t1:(t:Int)=f.2:=by omega
  have zf:=sz_root hf h1 h2
  have m1:∀{i:Int},i.natAbs<2^sz f→CMulA i i:=fun h=>mulA (e:=3000) (pl h (by omega)) (pl h (by omega)) (by decide)
  rw [r1,t1]
  refine ⟨m1 (sz_n f),Nat.zero_le _,?_⟩
  show if (!L2.eqT (.int (f.1*f.1)) (.int p.1))=true then _ else _
  rw [h1,eqT_refl,if_neg (by decide)]
  refine ⟨m1 (sz_d f),Nat.zero_le _,?_⟩
  show if (!L2.eqT (.int (f.2*f.2)) (.int p.2))=true then _ else _
  rw [h2,eqT_refl,if_neg (by decide)]
  exact ⟨rfl,q⟩
abbrev s_minus:Stmt:=top 16
theorem sc_minus:FnScope ["one","other"] ["one","other"] (defScope s_minus):=⟨rfl,rfl,rfl,by decide +kernel,rfl,by decide +kernel,by decide +kernel⟩
theorem ok_minus {f:Addr} {fd:FuncData} (F:Fun K "minus" "minus" s_minus f fd) (TX:Txt mg) (g_taken:Fn P w K mg base 3 "taken" ["one","other"] (spOf K (tBin fsub)))   : FnOk P w K mg base CX0 4 f fd ["one","other"] (spOf K tOff):=by
 refine F.okT sc_minus ?len (fun cdv A outer s H E hr=>(fb_one (fs_ret (fe_tup (fc (fe_call g_taken hr (by omega) rfl (fc (fe_ix rfl (fv 0) fe_int (fun _ _=>rfl)) (fc (fe_ix rfl (fv 1) fe_int (fun _ _=>rfl)) fa_nil))) (fc (fe_call g_taken hr (by omega) rfl (fc (fe_ix rfl (fv 0) fe_int (fun _ _=>rfl)) (fc (fe_ix rfl (fv 1) fe_int (fun _ _=>rfl)) fa_nil))) fa_nil)))))) ?rd
 case len=>rintro as Q ⟨x,y,p,q,e,f,rfl,_⟩;rfl
 case rd=>
  rintro as Q ⟨x,y,p,q,e,f,rfl,h,k,hs,z⟩
  have:=h.sx;have:=h.sy;have:=k.sx;have:=k.sy
  exact ⟨_,_,rfl,h.x,k.x,by omega,_,_,rfl,h.y,k.y,by omega,rfl,z⟩
theorem sz_dot {x y p q:Fr} {e f:Nat} (h:Nv x y e) (k:Nv p q f):sz (fdot x y p q)≤2*(e+f)+1:=by
 have:=h.sx;have:=h.sy;have:=k.sx;have:=k.sy
 have s1:=sz_mul h.x k.x;have s2:=sz_mul h.y k.y
 have s6:=sz_add (nrm_mul h.x k.x) (nrm_mul h.y k.y)
 show sz (fadd (fmul x p) (fmul y q))≤_
 omega
structure Lng (x y f:Fr):Prop where
 nv:Nv x y 610
 nf:Nrm f
 pos:0<val f
 sq:val x*val x+val y*val y=val f*val f
def tLen:SpT:=fun as Q=>∃x y f:Fr,as=[.v (vc x y)]∧Lng x y f∧Q (.v (fr f)) []
abbrev s_length_of:Stmt:=top 18
theorem sc_length_of:FnScope ["vector"] ["vector"] (defScope s_length_of):=⟨rfl,rfl,rfl,by decide +kernel,rfl,by decide +kernel,by decide +kernel⟩
theorem ok_length_of {f:Addr} {fd:FuncData} (F:Fun K "length_of" "length_of" s_length_of f fd) (TX:Txt mg) (g_root_of:Fn P w K mg base 2 "root_of" ["one"] (spOf K tRoot)) (g_dot:Fn P w K mg base 4 "dot" ["one","other"] (spOf K (tVV fdot)))   : FnOk P w K mg base CX0 5 f fd ["vector"] (spOf K tLen):=by
 refine F.okT sc_length_of ?len (fun cdv A outer s H E hr=>(fb_one (fs_ret (fe_call g_root_of hr (by omega) rfl (fc (fe_call g_dot hr (by omega) rfl (fc (fv 0) (fc (fv 0) fa_nil))) fa_nil))))) ?rd
 case len=>rintro as Q ⟨x,y,f,rfl,_⟩;rfl
 case rd=>
  rintro as Q ⟨x,y,f,rfl,h,q⟩
  have:=sz_dot h.nv h.nv
  have v:=val_dot h.nv h.nv
  rw [h.sq] at v
  exact ⟨x,y,x,y,610,610,rfl,h.nv,h.nv,by decide,_,f,rfl,nrm_dot h.nv h.nv,h.nf,by omega,Rat.le_of_lt h.pos,v,rfl,q⟩
end
end My
set_option Elab.async false
set_option linter.all false
set_option maxRecDepth 100000
set_option maxHeartbeats 4000000
namespace My
open PySem L2 PyProof.Rows
section
variable {P:Program} {w:World} {K:PySem.W.Frag} {mg:Str→Option Value} {base:Heap}
def sideB:Pc→Bool
 | .side _ _=>true
 | .arc _ _ _ _ _=>false
def tIsSide:SpT:=fun as Q=>∃p:Pc,as=[.v (pcT p)]∧Q (.v (.bl (sideB p))) []
theorem ss_eq:L2.eqT (.str "side") (.str "side")=true:=eqT_refl _
theorem as_eq:L2.eqT (.str "arc") (.str "side")=false:=by decide
abbrev s_is_side:Stmt:=top 22
theorem sc_is_side:FnScope ["piece"] ["piece"] (defScope s_is_side):=⟨rfl,rfl,rfl,by decide +kernel,rfl,by decide +kernel,by decide +kernel⟩
theorem ok_is_side {f:Addr} {fd:FuncData} (F:Fun K "is_side" "is_side" s_is_side f fd) (TX:Txt mg)    : FnOk P w K mg base CX0 1 f fd ["piece"] (spOf K tIsSide):=by
 refine F.okT sc_is_side ?len (fun cdv A outer s H E hr=>(fb_one (fs_ret (fe_eq rfl hr (fe_ix rfl (fv 0) fe_int (fun _ _=>rfl)) fe_str (nomark _))))) ?rd
 case len=>rintro as Q ⟨p,rfl,_⟩;rfl
 case rd=>
  rintro as Q ⟨p,rfl,q⟩
  cases p with
  | side x y=>
   refine ⟨Nat.zero_le _,rfl,?_⟩
   rw [ss_eq];exact q
  | arc m n x y l=>
   refine ⟨Nat.zero_le _,rfl,?_⟩
   rw [as_eq];exact q
def ptT (p:Pc):L2.T:=vc p.px p.py
def tEndOf:SpT:=fun as Q=>∃p:Pc,as=[.v (pcT p)]∧Q (.v (ptT p)) []
abbrev s_end_of:Stmt:=top 23
theorem sc_end_of:FnScope ["piece"] ["piece"] (defScope s_end_of):=⟨rfl,rfl,rfl,by decide +kernel,rfl,by decide +kernel,by decide +kernel⟩
theorem ok_end_of {f:Addr} {fd:FuncData} (F:Fun K "end_of" "end_of" s_end_of f fd) (TX:Txt mg) (g_is_side:Fn P w K mg base 1 "is_side" ["piece"] (spOf K tIsSide))   : FnOk P w K mg base CX0 2 f fd ["piece"] (spOf K tEndOf):=by
 refine F.okT sc_end_of ?len (fun cdv A outer s H E hr=>(fb_one (fs_ret (fe_if (ft_val (fe_call g_is_side hr (by omega) rfl (fc (fv 0) fa_nil))) (fe_ix rfl (fv 0) fe_int (fun _ _=>rfl)) (fe_ix rfl (fv 0) fe_int (fun _ _=>rfl)))))) ?rd
 case len=>rintro as Q ⟨p,rfl,_⟩;rfl
 case rd=>
  rintro as Q ⟨p,rfl,q⟩
  refine ⟨p,rfl,?_⟩
  cases p with
  | side x y=>exact ⟨rfl,q⟩
  | arc m n x y l=>exact ⟨rfl,q⟩
theorem lastx_take {ps:List Pc}:∀{a:Fr} {i:Nat} {p:Pc},ps[i]? = some p→lastx a (ps.take (i+1))=p.px:=by
 induction ps with
 | nil=>intro a i p h;simp at h
 | cons q ps ih=>
  intro a i p h
  cases i with
  | zero=>cases h;rfl
  | succ i=>exact ih (a:=q.px) (i:=i) (by simpa using h)
theorem lasty_take {ps:List Pc}:∀{a:Fr} {i:Nat} {p:Pc},ps[i]? = some p→lasty a (ps.take (i+1))=p.py:=by
 induction ps with
 | nil=>intro a i p h;simp at h
 | cons q ps ih=>
  intro a i p h
  cases i with
  | zero=>cases h;rfl
  | succ i=>exact ih (a:=q.py) (i:=i) (by simpa using h)
theorem nv_sub {x y p q:Fr} {e f:Nat} (h:Nv x y e) (k:Nv p q f):Nv (fsub x p) (fsub y q) (e+f+1):=by
 have:=h.sx;have:=h.sy;have:=k.sx;have:=k.sy
 have s1:=sz_sub h.x k.x;have s2:=sz_sub h.y k.y
 exact ⟨nrm_sub h.x k.x,nrm_sub h.y k.y,by omega,by omega⟩
def Ln (a b:Fr) (f:Fr):Pc→Prop
 | .side x y=>Lng (fsub x a) (fsub y b) f
 | .arc m n x y _=>Lng (fsub a m) (fsub b n) f∧Lng (fsub x m) (fsub y n) f
theorem lng_of {x y p q f:Fr} {r:Rat} (h:Nv x y 300) (k:Nv p q 300) (hf:Nrm f) (e:val f=r) (r0:0<r) (hr:far2 x y p q=r*r):Lng (fsub x p) (fsub y q) f:=by
 refine ⟨(nv_sub h k).up (by decide),hf,by rw [e];exact r0,?_⟩
 rw [val_sub h.x k.x,val_sub h.y k.y,e,←hr];rfl
theorem ln_ex {a b:Fr} {p:Pc} (h:Nv a b 300) (k:okPc 300 a b p):∃f,Ln a b f p:=by
 cases p with
 | side x y=>
  obtain ⟨n,r,r0,hr⟩:=k
  obtain ⟨f,f1,f2⟩:=rat_fr r
  exact ⟨f,lng_of n h f1 f2 r0 hr⟩
 | arc m n x y l=>
  obtain ⟨n1,n2,_,r,r0,hr1,hr2⟩:=k
  obtain ⟨f,f1,f2⟩:=rat_fr r
  exact ⟨f,lng_of h n1 f1 f2 r0 hr1,lng_of n2 n1 f1 f2 r0 hr2⟩
theorem chain_at {e:Nat} {ps:List Pc}:∀{a b:Fr} {i:Nat} {p:Pc},chainP e a b ps→ps[i]? = some p→okPc e (lastx a (ps.take i)) (lasty b (ps.take i)) p:=by
 induction ps with
 | nil=>intro a b i p h k;simp at k
 | cons q ps ih=>
  intro a b i p h k
  cases i with
  | zero=>cases k;exact h.1
  | succ i=>exact ih (i:=i) h.2 (by simpa using k)
theorem chain_nv {e:Nat}:∀{ps:List Pc} {a b:Fr} (i:Nat),Nv a b e→chainP e a b ps→Nv (lastx a (ps.take i)) (lasty b (ps.take i)) e
 | [],_,_,i,h,_=>by rw [List.take_nil];exact h
 | _::_,_,_,0,h,_=>h
 | q::ps,_,_,i+1,h,k=>chain_nv (ps:=ps) i (okPc.nv k.1) k.2
end
end My
set_option Elab.async false
set_option linter.all false
set_option maxRecDepth 100000
set_option maxHeartbeats 4000000
namespace My
open PySem L2 PyProof.Rows
section
variable {P:Program} {w:World} {K:PySem.W.Frag} {mg:Str→Option Value} {base:Heap}
theorem part60:(1000000000000000000000000000000000000000000000000000000000000:Nat)=10^60:=by decide
theorem join_flat:∀l:List Str,sg (Txt.join ⟨#[]⟩ l)=(l.map sg).flatten:=fun l=>by
 show sg (Builtin.Str.glued ⟨#[]⟩ l)=_
 rw [StrLaws.glued_eq_join]
 induction l with
 | nil=>rfl
 | cons a r ih=>
  cases r with
  | nil=>simp [Str.join,sg]
  | cons b r=>
   have:Str.join ⟨#[]⟩ (a::b::r)=a++⟨#[]⟩++Str.join ⟨#[]⟩ (b::r):=rfl
   rw [this,sg_cat,sg_cat,ih]
   simp [sg]
theorem join_fit {l:List Str} (h:(l.map sg).flatten.length≤big):JoinOk ⟨#[]⟩ l=true:=by
 have e:∀l:List Str,(l.map (·.length)).sum=(l.map sg).flatten.length:=fun l=>by
  induction l with
  | nil=>rfl
  | cons a r ih=>rw [List.map_cons,List.sum_cons,ih,List.map_cons,List.flatten_cons,List.length_append,sg_len]
 have z:(⟨#[]⟩:Str).length=0:=rfl
 have tl:Builtin.Str.tooLong ((l.map (·.length)).sum+l.length*(⟨#[]⟩:Str).length)=false:=by
  unfold Builtin.Str.tooLong
  rw [e,z,Nat.mul_zero,Nat.add_zero]
  exact decide_eq_false (by have:=big_ok h;omega)
 unfold JoinOk
 rw [StrLaws.joinTotal,tl]
 rfl
def tNumText:SpT:=fun as Q=>∃(n:Int),as=[.v (.int n)]∧(dig n.natAbs).length≤5000∧∀x:Str,sg x=numText n→Q (.v (.str x)) []
abbrev s_number_text:Stmt:=top 30
theorem sc_number_text:FnScope ["number","rest","parts","part"] ["number"] (defScope s_number_text):=⟨rfl,rfl,rfl,by decide +kernel,rfl,by decide +kernel,by decide +kernel⟩
theorem ok_number_text {f:Addr} {fd:FuncData} (F:Fun K "number_text" "number_text" s_number_text f fd) (TX:Txt mg)  (c_PART:ConstI mg "PART" 1000000000000000000000000000000000000000000000000000000000000) (c_PART_FIGURES:ConstI mg "PART_FIGURES" 60)  : FnOk P w K mg base CX0 1 f fd ["number"] (spOf K tNumText):=by
 refine F.okT sc_number_text ?len (fun cdv A outer s H E hr=>(fb_cons (fs_par (i:=1) (j:=2) rfl sc_number_text.nd rfl rfl (by decide) rfl rfl (fc (fe_abs rfl TX.n_abs (fc (fv 0) fa_nil)) (fc (fe_lst fa_nil) fa_nil)) rfl)
 (fb_cons (fs_while PassesOwn.never (ft_cp op_ge (fv 1) (fe_globI rfl c_PART) (nomark _)) (fb_cons (fs_asg (fe_divmod rfl TX.n_divmod (fc (fv 1) (fc (fe_globI rfl c_PART) fa_nil))) (fg_tup (n:=2) rfl rfl (fgs_cons (fg_name (i:=1) sc_number_text.nd rfl (Or.inl rfl)) (fgs_cons (fg_name (i:=3) sc_number_text.nd rfl (Or.inl rfl)) fgs_nil))))
 (fb_one (fs_expr (fe_append rfl (fv 2) (fc (fe_zfill (fe_strI rfl TX.n_str (fc (fv 3) fa_nil)) (fc (fe_globI rfl c_PART_FIGURES) fa_nil)) fa_nil))))))
 (fb_cons (fs_expr (fe_append rfl (fv 2) (fc (fe_strI rfl TX.n_str (fc (fv 1) fa_nil)) fa_nil)))
 (fb_one (fs_ret (fe_catS (fe_if (ft_cp op_lt (fv 0) fe_int (nomark _)) fe_str fe_str) (fe_join rfl fe_str (fc (fe_revL rfl (fv 2) (fo_some (fe_neg fe_int))) fa_nil))))))))) ?rd
 case len=>rintro as Q ⟨n,rfl,_⟩;rfl
 case rd=>
  rintro as Q ⟨n,rfl,hl,q⟩
  refine ⟨fun m E=>∃(ps:List Str) (v3:Option U),E=[some (.p (.int n)),some (.p (.int (m:Int))),some (.o false (strsT ps)),v3]∧dig n.natAbs=dig m++(ps.reverse.map sg).flatten∧((ps.reverse.map sg).flatten).length=60*ps.length,⟨n.natAbs,[],none,rfl,by simp,rfl⟩,?_⟩
  rintro m E ⟨ps,v3,rfl,hd,hz⟩
  have hz2:60*ps.length≤5000:=by
   rw [←hz]
   rw [hd,List.length_append] at hl
   omega
  show if decide ((1000000000000000000000000000000000000000000000000000000000000:Int)≤(m:Int))=true then _ else _
  by_cases hm:1000000000000000000000000000000000000000000000000000000000000≤m
  ·rw [decide_eq_true (by omega),if_pos rfl]
   obtain ⟨k,hk⟩:∃k,k=m/1000000000000000000000000000000000000000000000000000000000000:=⟨_,rfl⟩
   obtain ⟨r,hr'⟩:∃r,r=m%1000000000000000000000000000000000000000000000000000000000000:=⟨_,rfl⟩
   have rl:r<10^60:=by rw [hr',←part60];exact Nat.mod_lt _ (by decide)
   have e1:(m:Int)/1000000000000000000000000000000000000000000000000000000000000=(k:Int):=by omega
   have e2:(m:Int)%1000000000000000000000000000000000000000000000000000000000000=(r:Int):=by omega
   have k0:0<k:=by omega
   refine ⟨⟨by decide,by decide⟩,?_⟩
   rw [e1,e2]
   have lg:(r:Int).natAbs.log2<1920:=by
    rw [Int.natAbs_natCast]
    by_cases z:r=0
    ·rw [z];decide
    ·exact (Nat.log2_lt z).mpr (Nat.lt_of_lt_of_le rl (by decide))
   refine ⟨lg,fun y hy=>⟨⟨by decide,by decide⟩,fun z hz'=>?_⟩⟩
   have rd:PySem.NumText.AllDigits (sg y):=by rw [hy,sg_num];exact dig_all r
   have ey:y.length=(dig r).length:=by rw [←sg_len,hy,sg_num]
   have rlen:y.length≤60:=by rw [ey];exact dig_len (by decide) rl
   have zf:sg z=padD 60 r:=by
    have w:=zf_ok rd rlen
    rw [padD_dig (by decide) rl,hz']
    rw [ey,show sg y=dig r by rw [hy,sg_num]] at w
    exact w
   have pl60:(padD 60 r).length=60:=by
    rw [padD_dig (by decide) rl,List.length_append,List.length_replicate]
    have:=dig_len (k:=60) (by decide) rl
    omega
   have es:strsT (ps++[z])=strsT ps++[T.str z]:=by simp [strsT]
   have q1:(strsT ps++[T.str z]).length≤1000:=by rw [List.length_append,strsT,List.length_map];simp;omega
   have q2:k<m:=by rw [hk];exact Nat.div_lt_self (by omega) (by decide)
   have s:=dig_split 60 m (by rw [←part60,←hk];exact k0)
   rw [←part60,←hk,←hr'] at s
   refine ⟨q1,k,q2,ps++[z],some (.p (.int r)),by rw [es];rfl,?_,?_⟩
   ·rw [hd,List.reverse_append,List.reverse_singleton,List.singleton_append,List.map_cons,List.flatten_cons,zf,←List.append_assoc]
    rw [s]
   ·rw [List.reverse_append,List.reverse_singleton,List.singleton_append,List.map_cons,List.flatten_cons,zf,List.length_append,pl60,hz,List.length_append,List.length_singleton]
    omega
  ·rw [decide_eq_false (by omega),if_neg (by decide)]
   have lg:(m:Int).natAbs.log2<1920:=by
    rw [Int.natAbs_natCast]
    by_cases z:m=0
    ·rw [z];decide
    ·exact (Nat.log2_lt z).mpr (Nat.lt_of_lt_of_le (show m<10^60 by rw [←part60];omega) (by decide))
   refine ⟨lg,fun y hy=>?_⟩
   have sy:sg y=dig m:=by rw [hy,sg_num]
   have es:strsT (ps++[y])=strsT ps++[T.str y]:=by simp [strsT]
   have el:(strsT ps++[T.str y]).reverse=strsT (y::ps.reverse):=by simp [strsT]
   have jf:((y::ps.reverse).map sg).flatten=dig n.natAbs:=by
    rw [List.map_cons,List.flatten_cons,sy,hd]
   have q1:(strsT ps++[T.str y]).length≤1000:=by rw [List.length_append,strsT,List.length_map];simp;omega
   refine ⟨q1,?_⟩
   show if decide (n<0)=true then _ else _
   have lm:(Str.ofString "-").length=1:=by decide
   have l0:(Str.ofString "").length=0:=by decide
   by_cases hn:n<0
   ·rw [decide_eq_true hn,if_pos rfl]
    refine ⟨rfl,?_⟩
    show o1 (strsOf (strsT ps++[T.str y]).reverse) _
    rw [el,strsOf_T]
    refine ⟨by rw [lit_e];exact join_fit (by rw [jf];unfold big;omega),fun z hz'=>?_⟩
    have sz:sg z=dig n.natAbs:=by rw [hz',lit_e,join_flat,jf]
    have lz:z.length≤5000:=by rw [←sg_len,sz];exact hl
    refine ⟨by unfold big;omega,fun u hu=>⟨rfl,q u ?_⟩⟩
    rw [hu,sg_cat,sz,lit_minus]
    unfold numText
    rw [if_pos hn]
   ·rw [decide_eq_false hn,if_neg (by decide)]
    refine ⟨rfl,?_⟩
    show o1 (strsOf (strsT ps++[T.str y]).reverse) _
    rw [el,strsOf_T]
    refine ⟨by rw [lit_e];exact join_fit (by rw [jf];unfold big;omega),fun z hz'=>?_⟩
    have sz:sg z=dig n.natAbs:=by rw [hz',lit_e,join_flat,jf]
    have lz:z.length≤5000:=by rw [←sg_len,sz];exact hl
    refine ⟨by unfold big;omega,fun u hu=>⟨rfl,q u ?_⟩⟩
    rw [hu,sg_cat,sz,lit_e]
    unfold numText
    rw [if_neg hn]
def fT (n d:Int):L2.T:=.tup [.int n,.int d]
def tFrText:SpT:=fun as Q=>∃(n d:Int),as=[.v (fT n d)]∧(dig n.natAbs).length≤5000∧(dig d.natAbs).length≤5000∧∀x:Str,sg x=fracText n d→Q (.v (.str x)) []
abbrev s_fraction_text:Stmt:=top 31
theorem sc_fraction_text:FnScope ["one","n","d"] ["one"] (defScope s_fraction_text):=⟨rfl,rfl,rfl,by decide +kernel,rfl,by decide +kernel,by decide +kernel⟩
theorem ok_fraction_text {f:Addr} {fd:FuncData} (F:Fun K "fraction_text" "fraction_text" s_fraction_text f fd) (TX:Txt mg) (g_number_text:Fn P w K mg base 1 "number_text" ["number"] (spOf K tNumText))   : FnOk P w K mg base CX0 2 f fd ["one"] (spOf K tFrText):=by
 refine F.okT sc_fraction_text ?len (fun cdv A outer s H E hr=>(fb_cons (fs_asg (fv 0) (fg_tup (n:=2) rfl rfl (fgs_cons (fg_name (i:=1) sc_fraction_text.nd rfl (Or.inl rfl)) (fgs_cons (fg_name (i:=2) sc_fraction_text.nd rfl (Or.inl rfl)) fgs_nil))))
 (fb_one (fs_ret (fe_if (ft_eq rfl hr (fv 2) fe_int (nomark _)) (fe_call g_number_text hr (by omega) rfl (fc (fv 1) fa_nil)) (fe_catS (fe_catS (fe_call g_number_text hr (by omega) rfl (fc (fv 1) fa_nil)) fe_str) (fe_call g_number_text hr (by omega) rfl (fc (fv 2) fa_nil)))))))) ?rd
 case len=>rintro as Q ⟨n,d,rfl,_⟩;rfl
 case rd=>
  rintro as Q ⟨n,d,rfl,h1,h2,q⟩
  refine ⟨Nat.zero_le _,?_⟩
  show if (d==1)=true then _ else _
  by_cases hd:d=1
  ·rw [if_pos (by simpa using hd)]
   refine ⟨n,rfl,h1,fun x hx=>⟨rfl,q x ?_⟩⟩
   unfold fracText;rw [if_pos hd];exact hx
  ·rw [if_neg (by simpa using hd)]
   refine ⟨n,rfl,h1,fun x hx=>?_⟩
   have lx:x.length≤5001:=by
    rw [←sg_len,hx];unfold numText;rw [List.length_append];split<;>simp<;>omega
   have ls:(Str.ofString "/").length=1:=by decide
   refine ⟨by unfold big;omega,fun u hu=>⟨d,rfl,h2,fun y hy=>?_⟩⟩
   have ly:y.length≤5001:=by
    rw [←sg_len,hy];unfold numText;rw [List.length_append];split<;>simp<;>omega
   have lc:u.length≤5002:=by rw [←sg_len,hu,sg_cat,List.length_append,sg_len,sg_len];omega
   refine ⟨by unfold big;omega,fun v hv=>⟨rfl,q v ?_⟩⟩
   rw [hv,hu,sg_cat,sg_cat,hx,hy,lit_slash]
   unfold fracText;rw [if_neg hd,List.append_assoc];rfl
def tIsNum:SpT:=fun as Q=>∃i:Int,as=[.v (.int i)]∧Q (.v (.bl true)) []
abbrev s_is_number:Stmt:=top 6
theorem sc_is_number:FnScope ["thing"] ["thing"] (defScope s_is_number):=⟨rfl,rfl,rfl,by decide +kernel,rfl,by decide +kernel,by decide +kernel⟩
theorem ok_is_number {f:Addr} {fd:FuncData} (F:Fun K "is_number" "is_number" s_is_number f fd) (TX:Txt mg)    : FnOk P w K mg base CX0 1 f fd ["thing"] (spOf K tIsNum):=by
 refine F.okT sc_is_number ?len (fun cdv A outer s H E hr=>(fb_one (fs_ret (fe_and (fe_isi k_int rfl rfl TX.n_isinstance (fv 0) rfl TX.n_int bt_int (by decide)) (fe_one (fe_not (fe_isi k_bool rfl rfl TX.n_isinstance (fv 0) rfl TX.n_bool bt_bool (by decide)))))))) ?rd
 case len=>rintro as Q ⟨i,rfl,_⟩;rfl
 case rd=>
  rintro as Q ⟨i,rfl,q⟩
  exact ⟨rfl,q⟩
def tIsFr:SpT:=fun as Q=>∃n d:Int,as=[.v (fT n d)]∧∀b:Bool,(b=true↔1≤d∧Nat.gcd n.natAbs d.natAbs=1)→Q (.v (.bl b)) []
abbrev s_is_fraction:Stmt:=top 8
theorem sc_is_fraction:FnScope ["thing","n","d"] ["thing"] (defScope s_is_fraction):=⟨rfl,rfl,rfl,by decide +kernel,rfl,by decide +kernel,by decide +kernel⟩
theorem ok_is_fraction {f:Addr} {fd:FuncData} (F:Fun K "is_fraction" "is_fraction" s_is_fraction f fd) (TX:Txt mg) (g_is_number:Fn P w K mg base 1 "is_number" ["thing"] (spOf K tIsNum)) (g_common_divisor:Fn P w K mg base 1 "common_divisor" ["one","other"] (spOf K tCommon))   : FnOk P w K mg base CX0 2 f fd ["thing"] (spOf K tIsFr):=by
 refine F.okT sc_is_fraction ?len (fun cdv A outer s H E hr=>(fb_cons (fs_if (ft_w (fw_or (ft_not (ft_val (fe_isi k_tuple rfl rfl TX.n_isinstance (fv 0) rfl TX.n_tuple bt_tuple (by decide)))) (fw_or1 (ft_ne rfl hr (fe_len rfl rfl TX.n_len (fc (fv 0) fa_nil)) fe_int (nomark _))))) (fb_one (fs_ret fe_bl)) fb_nil)
 (fb_cons (fs_asg (fv 0) (fg_tup (n:=2) rfl rfl (fgs_cons (fg_name (i:=1) sc_is_fraction.nd rfl (Or.inl rfl)) (fgs_cons (fg_name (i:=2) sc_is_fraction.nd rfl (Or.inl rfl)) fgs_nil))))
 (fb_cons (fs_if (ft_w (fw_or (ft_not (ft_val (fe_call g_is_number hr (by omega) rfl (fc (fv 1) fa_nil)))) (fw_or (ft_not (ft_val (fe_call g_is_number hr (by omega) rfl (fc (fv 2) fa_nil)))) (fw_or1 (ft_cp op_lt (fv 2) fe_int (nomark _)))))) (fb_one (fs_ret fe_bl)) fb_nil)
 (fb_one (fs_ret (fe_eq rfl hr (fe_call g_common_divisor hr (by omega) rfl (fc (fv 1) (fc (fv 2) fa_nil))) fe_int (nomark _)))))))) ?rd
 case len=>rintro as Q ⟨n,d,rfl,_⟩;rfl
 case rd=>
  rintro as Q ⟨n,d,rfl,q⟩
  refine ⟨Nat.zero_le _,?_⟩
  refine ⟨n,rfl,d,rfl,?_⟩
  show if decide (d<1)=true then _ else _
  by_cases h:d<1
  ·rw [decide_eq_true h,if_pos rfl]
   exact ⟨rfl,q false ⟨(fun z=>by cases z),(fun z=>by omega)⟩⟩
  ·rw [decide_eq_false h,if_neg (by decide)]
   refine ⟨n,d,rfl,Nat.zero_le _,rfl,q _ ?_⟩
   constructor
   ·intro z
    refine ⟨by omega,?_⟩
    have:((Nat.gcd n.natAbs d.natAbs:Nat):Int)=1:=by simpa [L2.eqT] using z
    omega
   ·rintro ⟨_,z⟩
    rw [z];rfl
def tPlain:SpT:=fun as Q=>∃x:Str,as=[.v (.str x)]∧x.length≤big∧Q (.v (.bl (plainB (sg x)))) []
theorem eq_str (x y:Str):(x==y)=(sg x==sg y):=by
 by_cases h:x=y
 ·subst h;simp
 ·rw [show (x==y)=false by simpa using h]
  have:sg x≠sg y:=fun z=>h (sg_ext z)
  rw [show (sg x==sg y)=false by simpa using this]
abbrev s_is_plain:Stmt:=top 33
theorem sc_is_plain:FnScope ["text"] ["text"] (defScope s_is_plain):=⟨rfl,rfl,rfl,by decide +kernel,rfl,by decide +kernel,by decide +kernel⟩
theorem ok_is_plain {f:Addr} {fd:FuncData} (F:Fun K "is_plain" "is_plain" s_is_plain f fd) (TX:Txt mg)  (c_MOST_FIGURES:ConstI mg "MOST_FIGURES" 60)  : FnOk P w K mg base CX0 1 f fd ["text"] (spOf K tPlain):=by
 refine F.okT sc_is_plain ?len (fun cdv A outer s H E hr=>(fb_cons (fs_if (ft_w (fw_or (ft_not (ft_val (fe_isascii (fv 0)))) (fw_or (ft_not (ft_val (fe_isdigit (fv 0)))) (fw_or1 (ft_cp op_gt (fe_lenS rfl TX.n_len (fc (fv 0) fa_nil)) (fe_globI rfl c_MOST_FIGURES) (nomark _)))))) (fb_one (fs_ret fe_bl)) fb_nil)
 (fb_one (fs_ret (fe_or (fe_eq rfl hr (fv 0) fe_str (nomark _)) (fe_one (fe_not (fe_startswith (fv 0) (fc fe_str fa_nil))))))))) ?rd
 case len=>rintro as Q ⟨x,rfl,_⟩;rfl
 case rd=>
  rintro as Q ⟨x,rfl,hl,q⟩
  have key:=plain_is x
  have no:(¬(Txt.isascii x=true∧Txt.isdigit x=true∧x.length≤60∧((sg x==[48])=true∨((sg x).head?==some 48)=false)))→plainB (sg x)=false:=fun z=>by
   cases e:plainB (sg x) with
   | false=>rfl
   | true=>exact absurd (key.mpr e) z
  show if (!(Txt.isascii x))=true then _ else _
  cases a1:Txt.isascii x with
  | false=>
   rw [if_pos (by decide)]
   rw [no (by rw [a1];rintro ⟨z,_⟩;cases z)] at q
   exact ⟨rfl,q⟩
  | true=>
   rw [if_neg (by decide)]
   show if (!(Txt.isdigit x))=true then _ else _
   cases a2:Txt.isdigit x with
   | false=>
    rw [if_pos (by decide)]
    rw [no (by rw [a2];rintro ⟨_,z,_⟩;cases z)] at q
    exact ⟨rfl,q⟩
   | true=>
    rw [if_neg (by decide)]
    refine ⟨hl,?_⟩
    show if decide ((60:Int)<(x.length:Int))=true then _ else _
    by_cases a3:60<x.length
    ·rw [decide_eq_true (by omega),if_pos rfl]
     rw [no (by rintro ⟨_,_,z,_⟩;omega)] at q
     exact ⟨rfl,q⟩
    ·rw [decide_eq_false (by omega),if_neg (by decide)]
     refine ⟨Nat.zero_le _,?_⟩
     show if (x==Str.ofString "0")=true then _ else _
     have e0:(x==Str.ofString "0")=(sg x==[48]):=by rw [eq_str,lit_0]
     rw [e0]
     cases a4:(sg x==[48]) with
     | true=>
      rw [if_pos rfl]
      rw [key.mp ⟨a1,a2,by omega,.inl a4⟩] at q
      exact ⟨rfl,q⟩
     | false=>
      rw [if_neg (by decide)]
      refine ⟨rfl,?_⟩
      have e1:Txt.startswith x (Str.ofString "0")=((sg x).head?==some 48):=by rw [lit_0];exact starts1 x 48
      rw [e1]
      cases a5:((sg x).head?==some 48) with
      | false=>
       rw [key.mp ⟨a1,a2,by omega,.inr a5⟩] at q
       exact q
      | true=>
       rw [no (by rw [a4,a5];rintro ⟨_,_,_,z | z⟩<;>cases z)] at q
       exact q
end
end My
set_option Elab.async false
set_option linter.all false
set_option maxRecDepth 100000
set_option maxHeartbeats 4000000
namespace My
open PySem L2 PyProof.Rows
section
variable {P:Program} {w:World} {K:PySem.W.Frag} {mg:Str→Option Value} {base:Heap}
def tIsPoint:SpT:=fun as Q=>∃x y:Fr,as=[.v (vc x y)]∧Nrm x∧Nrm y∧Q (.v (.bl true)) []
abbrev s_is_point:Stmt:=top 20
theorem sc_is_point:FnScope ["thing"] ["thing"] (defScope s_is_point):=⟨rfl,rfl,rfl,by decide +kernel,rfl,by decide +kernel,by decide +kernel⟩
theorem ok_is_point {f:Addr} {fd:FuncData} (F:Fun K "is_point" "is_point" s_is_point f fd) (TX:Txt mg) (g_is_fraction:Fn P w K mg base 2 "is_fraction" ["thing"] (spOf K tIsFr))   : FnOk P w K mg base CX0 3 f fd ["thing"] (spOf K tIsPoint):=by
 refine F.okT sc_is_point ?len (fun cdv A outer s H E hr=>(fb_cons (fs_if (ft_w (fw_or (ft_not (ft_val (fe_isi k_tuple rfl rfl TX.n_isinstance (fv 0) rfl TX.n_tuple bt_tuple (by decide)))) (fw_or1 (ft_ne rfl hr (fe_len rfl rfl TX.n_len (fc (fv 0) fa_nil)) fe_int (nomark _))))) (fb_one (fs_ret fe_bl)) fb_nil)
 (fb_one (fs_ret (fe_and (fe_call g_is_fraction hr (by omega) rfl (fc (fe_ix rfl (fv 0) fe_int (fun _ _=>rfl)) fa_nil)) (fe_one (fe_call g_is_fraction hr (by omega) rfl (fc (fe_ix rfl (fv 0) fe_int (fun _ _=>rfl)) fa_nil)))))))) ?rd
 case len=>rintro as Q ⟨x,y,rfl,_⟩;rfl
 case rd=>
  rintro as Q ⟨x,y,rfl,hx,hy,q⟩
  refine ⟨Nat.zero_le _,?_⟩
  refine ⟨x.1,x.2,rfl,fun k hk=>?_⟩
  obtain rfl:k=true:=hk.mpr ⟨hx.d,hx.g⟩
  refine ⟨y.1,y.2,rfl,fun k hk=>?_⟩
  obtain rfl:k=true:=hk.mpr ⟨hy.d,hy.g⟩
  exact ⟨rfl,q⟩
def nrmP:Pc→Prop
 | .side x y=>Nrm x∧Nrm y
 | .arc m n x y _=>(Nrm m∧Nrm n)∧Nrm x∧Nrm y
def tIsPiece:SpT:=fun as Q=>∃p:Pc,as=[.v (pcT p)]∧nrmP p∧Q (.v (.bl true)) []
abbrev s_is_piece:Stmt:=top 21
theorem sc_is_piece:FnScope ["thing","has_turn"] ["thing"] (defScope s_is_piece):=⟨rfl,rfl,rfl,by decide +kernel,rfl,by decide +kernel,by decide +kernel⟩
theorem ok_is_piece {f:Addr} {fd:FuncData} (F:Fun K "is_piece" "is_piece" s_is_piece f fd) (TX:Txt mg) (g_is_point:Fn P w K mg base 3 "is_point" ["thing"] (spOf K tIsPoint))   : FnOk P w K mg base CX0 4 f fd ["thing"] (spOf K tIsPiece):=by
 refine F.okT sc_is_piece ?len (fun cdv A outer s H E hr=>(fb_cons (fs_if (ft_not (ft_val (fe_isi k_tuple rfl rfl TX.n_isinstance (fv 0) rfl TX.n_tuple bt_tuple (by decide)))) (fb_one (fs_ret fe_bl)) fb_nil)
 (fb_cons (fs_if (ft_eq rfl hr (fe_len rfl rfl TX.n_len (fc (fv 0) fa_nil)) fe_int (nomark _)) (fb_one (fs_ret (fe_and (fe_eq rfl hr (fe_ix rfl (fv 0) fe_int (fun _ _=>rfl)) fe_str (nomark _)) (fe_one (fe_call g_is_point hr (by omega) rfl (fc (fe_ix rfl (fv 0) fe_int (fun _ _=>rfl)) fa_nil)))))) fb_nil)
 (fb_cons (fs_if (ft_eq rfl hr (fe_len rfl rfl TX.n_len (fc (fv 0) fa_nil)) fe_int (nomark _)) (fb_cons (fs_set (i:=1) sc_is_piece.nd rfl (Or.inl rfl) (fe_or (fe_eq rfl hr (fe_ix rfl (fv 0) fe_int (fun _ _=>rfl)) fe_str (nomark _)) (fe_one (fe_eq rfl hr (fe_ix rfl (fv 0) fe_int (fun _ _=>rfl)) fe_str (nomark _)))))
 (fb_one (fs_ret (fe_and (fe_eq rfl hr (fe_ix rfl (fv 0) fe_int (fun _ _=>rfl)) fe_str (nomark _)) (fe_and (fe_call g_is_point hr (by omega) rfl (fc (fe_ix rfl (fv 0) fe_int (fun _ _=>rfl)) fa_nil)) (fe_and (fe_call g_is_point hr (by omega) rfl (fc (fe_ix rfl (fv 0) fe_int (fun _ _=>rfl)) fa_nil)) (fe_one (fv 1)))))))) fb_nil)
 (fb_one (fs_ret fe_bl)))))) ?rd
 case len=>rintro as Q ⟨p,rfl,_⟩;rfl
 case rd=>
  rintro as Q ⟨p,rfl,h,q⟩
  cases p with
  | side x y=>
   refine ⟨Nat.zero_le _,Nat.zero_le _,?_⟩
   exact ⟨x,y,rfl,h.1,h.2,rfl,q⟩
  | arc m n x y l=>
   refine ⟨Nat.zero_le _,Nat.zero_le _,Nat.zero_le _,?_⟩
   cases l with
   | true=>
    refine ⟨Nat.zero_le _,?_⟩
    exact ⟨m,n,rfl,h.1.1,h.1.2,x,y,rfl,h.2.1,h.2.2,rfl,q⟩
   | false=>
    refine ⟨Nat.zero_le _,Nat.zero_le _,?_⟩
    exact ⟨m,n,rfl,h.1.1,h.1.2,x,y,rfl,h.2.1,h.2.2,rfl,q⟩
def tCanBegin:SpT:=fun as Q=>∃(a b:Fr) (p:Pc) (f:Fr),as=[.v (pcT p),.v (vc a b)]∧Nv a b 300∧okPc 300 a b p∧Ln a b f p∧Q (.v (.bl true)) []
theorem pc_ne {a b:Fr}:∀{p:Pc},okPc 300 a b p→¬(p.px=a∧p.py=b)
 | .side x y,⟨_,r,r0,e⟩,z=>by
  have z1:x=a:=z.1
  have z2:y=b:=z.2
  rw [z1,z2] at e
  have:=Rat.mul_pos r0 r0
  unfold far2 at e
  grind
 | .arc m n x y l,h,z=>h.2.2.1 z
abbrev s_can_begin_at:Stmt:=top 24
theorem sc_can_begin_at:FnScope ["piece","begin","to","radius"] ["piece","begin"] (defScope s_can_begin_at):=⟨rfl,rfl,rfl,by decide +kernel,rfl,by decide +kernel,by decide +kernel⟩
theorem ok_can_begin_at {f:Addr} {fd:FuncData} (F:Fun K "can_begin_at" "can_begin_at" s_can_begin_at f fd) (TX:Txt mg) (g_end_of:Fn P w K mg base 2 "end_of" ["piece"] (spOf K tEndOf)) (g_is_side:Fn P w K mg base 1 "is_side" ["piece"] (spOf K tIsSide)) (g_length_of:Fn P w K mg base 5 "length_of" ["vector"] (spOf K tLen)) (g_minus:Fn P w K mg base 4 "minus" ["one","other"] (spOf K tOff))   : FnOk P w K mg base CX0 6 f fd ["piece","begin"] (spOf K tCanBegin):=by
 refine F.okT sc_can_begin_at ?len (fun cdv A outer s H E hr=>(fb_cons (fs_set (i:=2) sc_can_begin_at.nd rfl (Or.inl rfl) (fe_call g_end_of hr (by omega) rfl (fc (fv 0) fa_nil)))
 (fb_cons (fs_if (ft_eq rfl hr (fv 2) (fv 1) (nomark _)) (fb_one (fs_ret fe_bl)) fb_nil)
 (fb_cons (fs_if (ft_val (fe_call g_is_side hr (by omega) rfl (fc (fv 0) fa_nil))) (fb_one (fs_ret (fe_notN (fe_call g_length_of hr (by omega) rfl (fc (fe_call g_minus hr (by omega) rfl (fc (fv 2) (fc (fv 1) fa_nil))) fa_nil)) (nomark _)))) fb_nil)
 (fb_cons (fs_set (i:=3) sc_can_begin_at.nd rfl (Or.inl rfl) (fe_call g_length_of hr (by omega) rfl (fc (fe_call g_minus hr (by omega) rfl (fc (fv 1) (fc (fe_ix rfl (fv 0) fe_int (fun _ _=>rfl)) fa_nil))) fa_nil)))
 (fb_one (fs_ret (fe_and (fe_notN (fv 3) (nomark _)) (fe_one (fe_eq rfl hr (fv 3) (fe_call g_length_of hr (by omega) rfl (fc (fe_call g_minus hr (by omega) rfl (fc (fv 2) (fc (fe_ix rfl (fv 0) fe_int (fun _ _=>rfl)) fa_nil))) fa_nil)) (nomark _))))))))))) ?rd
 case len=>rintro as Q ⟨a,b,p,f,rfl,_⟩;rfl
 case rd=>
  rintro as Q ⟨a,b,p,f,rfl,h,ok,ln,q⟩
  have ne:=pc_ne ok
  refine ⟨p,rfl,le_ok rfl,?_⟩
  show if L2.eqT (vc p.px p.py) (vc a b)=true then _ else _
  rw [eq_vc,decide_eq_false ne,if_neg (by decide)]
  refine ⟨p,rfl,?_⟩
  cases p with
  | side x y=>
   exact ⟨x,y,a,b,300,300,rfl,ok.1,h,by decide,_,_,f,rfl,ln,rfl,q⟩
  | arc m n x y l=>
   refine ⟨a,b,m,n,300,300,rfl,h,ok.1,by decide,_,_,f,rfl,ln.1,?_⟩
   refine ⟨x,y,m,n,300,300,rfl,ok.2.1,ok.1,by decide,_,_,f,rfl,ln.2,le_ok rfl,rfl,?_⟩
   rw [eqT_refl]
   exact q
def tIsPath:SpT:=fun as Q=>∃(a b:Fr) (ps:List Pc),as=[.v (pathT a b ps)]∧Nv a b 300∧ps≠[]∧ps.length≤12∧chainP 300 a b ps∧Q (.v (.bl true)) []
theorem nrm_pc {e:Nat} {a b:Fr}:∀{p:Pc},okPc e a b p→nrmP p
 | .side x y,h=>⟨h.1.x,h.1.y⟩
 | .arc m n x y l,h=>⟨⟨h.1.x,h.1.y⟩,h.2.1.x,h.2.1.y⟩
abbrev s_is_path:Stmt:=top 25
theorem sc_is_path:FnScope ["thing","piece","begin","pieces"] ["thing"] (defScope s_is_path):=⟨rfl,rfl,rfl,by decide +kernel,rfl,by decide +kernel,by decide +kernel⟩
theorem ok_is_path {f:Addr} {fd:FuncData} (F:Fun K "is_path" "is_path" s_is_path f fd) (TX:Txt mg) (g_is_point:Fn P w K mg base 3 "is_point" ["thing"] (spOf K tIsPoint)) (g_is_piece:Fn P w K mg base 4 "is_piece" ["thing"] (spOf K tIsPiece)) (g_can_begin_at:Fn P w K mg base 6 "can_begin_at" ["piece","begin"] (spOf K tCanBegin)) (g_end_of:Fn P w K mg base 2 "end_of" ["piece"] (spOf K tEndOf))   : FnOk P w K mg base CX0 7 f fd ["thing"] (spOf K tIsPath):=by
 refine F.okT sc_is_path ?len (fun cdv A outer s H E hr=>(fb_cons (fs_if (ft_w (fw_or (ft_not (ft_val (fe_isi k_tuple rfl rfl TX.n_isinstance (fv 0) rfl TX.n_tuple bt_tuple (by decide)))) (fw_or1 (ft_ne rfl hr (fe_len rfl rfl TX.n_len (fc (fv 0) fa_nil)) fe_int (nomark _))))) (fb_one (fs_ret fe_bl)) fb_nil)
 (fb_cons (fs_asg (fv 0) (fg_tup (n:=2) rfl rfl (fgs_cons (fg_name (i:=2) sc_is_path.nd rfl (Or.inl rfl)) (fgs_cons (fg_name (i:=3) sc_is_path.nd rfl (Or.inl rfl)) fgs_nil))))
 (fb_cons (fs_if (ft_w (fw_or (ft_not (ft_val (fe_call g_is_point hr (by omega) rfl (fc (fv 2) fa_nil)))) (fw_or (ft_not (ft_val (fe_isi k_tuple rfl rfl TX.n_isinstance (fv 3) rfl TX.n_tuple bt_tuple (by decide)))) (fw_or1 (ft_eq rfl hr (fe_len rfl rfl TX.n_len (fc (fv 3) fa_nil)) fe_int (nomark _)))))) (fb_one (fs_ret fe_bl)) fb_nil)
 (fb_cons (fs_for PassesOwn.never rfl (fi_tup rfl (fv 3)) (fg_name (i:=1) sc_is_path.nd rfl (Or.inl rfl))
  (fb_cons (fs_if (ft_w (fw_or (ft_not (ft_val (fe_call g_is_piece hr (by omega) rfl (fc (fv 1) fa_nil)))) (fw_or1 (ft_not (ft_val (fe_call g_can_begin_at hr (by omega) rfl (fc (fv 1) (fc (fv 2) fa_nil)))))))) (fb_one (fs_ret fe_bl)) fb_nil)
 (fb_one (fs_set (i:=2) sc_is_path.nd rfl (Or.inl rfl) (fe_call g_end_of hr (by omega) rfl (fc (fv 1) fa_nil))))))
 (fb_one (fs_ret fe_bl))))))) ?rd
 case len=>rintro as Q ⟨a,b,ps,rfl,_⟩;rfl
 case rd=>
  rintro as Q ⟨a,b,ps,rfl,nv,hn,hl,ch,q⟩
  have l0:0<ps.length:=List.length_pos_iff.mpr hn
  refine ⟨Nat.zero_le _,?_⟩
  refine ⟨a,b,rfl,nv.x,nv.y,Nat.zero_le _,?_⟩
  show if L2.eqT (.int (((ps.map pcT).length:Nat):Int)) (.int 0)=true then _ else _
  have e0:L2.eqT (.int (((ps.map pcT).length:Nat):Int)) (.int 0)=false:=by rw [List.length_map];simp [L2.eqT];omega
  rw [e0,if_neg (by decide)]
  refine (?_:loopT _ _ _ (ps.map pcT) _)
  refine loopT_inv (fun i E=>∃v1 v3:Option U,E=[some (.p (pathT a b ps)),v1,some (.p (vc (lastx a (ps.take i)) (lasty b (ps.take i)))),v3]) ⟨_,_,rfl⟩ ?_ ?_
  ·rintro i t rest E hi ⟨v1,v3,rfl⟩ KK
   rw [List.getElem?_map] at hi
   cases hp:ps[i]? with
   | none=>rw [hp] at hi;cases hi
   | some p=>
    rw [hp] at hi;cases hi
    have ok:=chain_at ch hp
    have nb:=chain_nv i nv ch
    obtain ⟨f,ln⟩:=ln_ex nb ok
    refine ⟨p,rfl,nrm_pc ok,?_⟩
    refine ⟨_,_,p,f,rfl,nb,ok,ln,?_⟩
    refine ⟨p,rfl,?_⟩
    refine KK _ ⟨some (.p (pcT p)),v3,?_⟩
    rw [lastx_take hp,lasty_take hp]
    rfl
  ·rintro E ⟨v1,v3,rfl⟩
   exact ⟨rfl,q⟩
end
end My
set_option Elab.async false
set_option linter.all false
set_option maxRecDepth 100000
set_option maxHeartbeats 4000000
namespace My
open PySem L2 PyProof.Rows
section
variable {P:Program} {w:World} {K:PySem.W.Frag} {mg:Str→Option Value} {base:Heap}
abbrev s_lowest:Stmt:=top 44
theorem sc_lowest:FnScope ["_law_n","_law_d","_law_one","_law_other"] ["_law_n","_law_d"] (defScope s_lowest):=⟨rfl,rfl,rfl,by decide +kernel,rfl,by decide +kernel,by decide +kernel⟩
theorem ok_lowest {f:Addr} {fd:FuncData} (F:Fun K "_law_lowest" "_law_lowest" s_lowest f fd) (TX:Txt mg)    : FnOk P w K mg base CX0 1 f fd ["_law_n","_law_d"] (spOf K tLow):=by
 refine F.okT sc_lowest ?len (fun cdv A outer s H E hr=>(fb_cons (fs_par (i:=2) (j:=3) rfl sc_lowest.nd rfl rfl (by decide) rfl rfl (fc (fe_abs rfl TX.n_abs (fc (fv 0) fa_nil)) (fc (fe_abs rfl TX.n_abs (fc (fv 1) fa_nil)) fa_nil)) rfl)
 (fb_cons (fs_while PassesOwn.never (ft_cp op_gt (fv 3) fe_int (nomark _)) (fb_one (fs_par (i:=2) (j:=3) rfl sc_lowest.nd rfl rfl (by decide) rfl rfl (fc (fv 3) (fc (fe_opI op_mod (fv 2) (fv 3)) fa_nil)) rfl)))
 (fb_cons (fs_set (i:=2) sc_lowest.nd rfl (Or.inl rfl) (fe_opI op_mulA (fv 2) (fe_if (ft_cp op_gt (fv 1) fe_int (nomark _)) fe_int (fe_neg fe_int))))
 (fb_one (fs_ret (fe_tup (fc (fe_opI op_fdivZ (fv 0) (fv 2)) (fc (fe_opI op_fdivZ (fv 1) (fv 2)) fa_nil))))))))) ?rd
 case len=>rintro as Q ⟨n,d,rfl,_⟩;rfl
 case rd=>
  rintro as Q ⟨n,d,rfl,hd,hb,q⟩
  refine ⟨fun m E=>∃(x y:Nat),E=[some (.p (.int n)),some (.p (.int d)),some (.p (.int x)),some (.p (.int y))]∧m=y∧Nat.gcd x y=Nat.gcd n.natAbs d.natAbs,⟨_,_,_,rfl,rfl,rfl⟩,?_⟩
  rintro m E ⟨x,y,rfl,rfl,hg⟩
  show if decide ((0:Int)<(m:Int))=true then _ else _
  by_cases hy:(0:Int)<(m:Int)
  ·rw [decide_eq_true hy,if_pos rfl]
   exact ⟨hy,x%m,Nat.mod_lt _ (by omega),m,x%m,rfl,rfl,by rw [gcd_step];exact hg⟩
  ·rw [decide_eq_false hy,if_neg (by decide)]
   obtain rfl:m=0:=by omega
   rw [Nat.gcd_zero_right] at hg
   subst hg
   have dn:((Nat.gcd n.natAbs d.natAbs:Nat):Int)∣n:=Int.ofNat_dvd_left.mpr (Nat.gcd_dvd_left _ _)
   have dd:((Nat.gcd n.natAbs d.natAbs:Nat):Int)∣d:=Int.ofNat_dvd_left.mpr (Nat.gcd_dvd_right _ _)
   have g0:((Nat.gcd n.natAbs d.natAbs:Nat):Int)≠0:=(cdivZ (i:=0) (n:=n) hd hb).1
   have fneg:∀{g m:Int},g≠0→g∣m→m.fdiv (-g)=(-m)/g:=fun {g m} h0 hm=>by
    obtain ⟨k,rfl⟩:=hm
    have e1:g*k=(-g)*(-k):=by grind
    have e2:-(g*k)=g*(-k):=by grind
    rw [e2,Int.mul_ediv_cancel_left _ h0,e1,Int.mul_fdiv_cancel_left _ (by omega)]
   show if decide (0<d)=true then _ else _
   by_cases h:0<d
   ·rw [decide_eq_true h,if_pos rfl]
    refine ⟨mulR (by decide),?_⟩
    rw [Int.mul_one]
    refine ⟨cdivZ hd hb,cdivZ hd hb,rfl,?_⟩
    unfold low lowN lowD at q
    rw [if_pos h,if_pos h,←fdivN,←fdivN] at q
    exact q
   ·rw [decide_eq_false h,if_neg (by decide)]
    have cz:∀i:Int,CDivZ i (-((Nat.gcd n.natAbs d.natAbs:Nat):Int)):=fun i=>⟨by omega,by rw [Int.natAbs_neg];exact (cdivZ (i:=i) (n:=n) hd hb).2⟩
    refine ⟨mulR (by decide),?_⟩
    rw [Int.mul_neg_one]
    refine ⟨cz _,cz _,rfl,?_⟩
    unfold low lowN lowD at q
    rw [if_neg h,if_neg h,←fneg g0 dn,←fneg g0 dd] at q
    exact q
abbrev s_sum:Stmt:=top 45
theorem sc_sum:FnScope ["_law_one","_law_other"] ["_law_one","_law_other"] (defScope s_sum):=⟨rfl,rfl,rfl,by decide +kernel,rfl,by decide +kernel,by decide +kernel⟩
theorem ok_sum {f:Addr} {fd:FuncData} (F:Fun K "_law_sum" "_law_sum" s_sum f fd) (TX:Txt mg) (g_lowest:Fn P w K mg base 1 "_law_lowest" ["_law_n","_law_d"] (spOf K tLow))   : FnOk P w K mg base CX0 2 f fd ["_law_one","_law_other"] (spOf K (tBin fadd)):=by
 refine F.okT sc_sum ?len (fun cdv A outer s H E hr=>(fb_one (fs_ret (fe_call g_lowest hr (by omega) rfl (fc (fe_opI0 op_add (fe_opI op_mulA (fe_ix rfl (fv 0) fe_int (fun _ _=>rfl)) (fe_ix rfl (fv 1) fe_int (fun _ _=>rfl))) (fe_opI op_mulA (fe_ix rfl (fv 1) fe_int (fun _ _=>rfl)) (fe_ix rfl (fv 0) fe_int (fun _ _=>rfl)))) (fc (fe_opI op_mulA (fe_ix rfl (fv 0) fe_int (fun _ _=>rfl)) (fe_ix rfl (fv 1) fe_int (fun _ _=>rfl))) fa_nil)))))) ?rd
 case len=>rintro as Q ⟨x,y,rfl,_⟩;rfl
 case rd=>
  rintro as Q ⟨x,y,rfl,hx,hy,hs,q⟩
  have hd:(x.2*y.2).natAbs<2^8000:=pow8 (mul_pow (sz_d x) (sz_d y)) (by omega)
  exact ⟨mulA (e:=7900) (pl (sz_n x) (by omega)) (pl (sz_d y) (by omega)) (by decide),mulA (e:=7900) (pl (sz_n y) (by omega)) (pl (sz_d x) (by omega)) (by decide),mulA (e:=7900) (pl (sz_d x) (by omega)) (pl (sz_d y) (by omega)) (by decide),_,_,rfl,mul_ne hx hy,hd,rfl,q⟩
abbrev s_less:Stmt:=top 47
theorem sc_less:FnScope ["_law_one","_law_other"] ["_law_one","_law_other"] (defScope s_less):=⟨rfl,rfl,rfl,by decide +kernel,rfl,by decide +kernel,by decide +kernel⟩
theorem ok_less {f:Addr} {fd:FuncData} (F:Fun K "_law_less" "_law_less" s_less f fd) (TX:Txt mg) (g_lowest:Fn P w K mg base 1 "_law_lowest" ["_law_n","_law_d"] (spOf K tLow))   : FnOk P w K mg base CX0 2 f fd ["_law_one","_law_other"] (spOf K (tBin fsub)):=by
 refine F.okT sc_less ?len (fun cdv A outer s H E hr=>(fb_one (fs_ret (fe_call g_lowest hr (by omega) rfl (fc (fe_opI0 op_sub (fe_opI op_mulA (fe_ix rfl (fv 0) fe_int (fun _ _=>rfl)) (fe_ix rfl (fv 1) fe_int (fun _ _=>rfl))) (fe_opI op_mulA (fe_ix rfl (fv 1) fe_int (fun _ _=>rfl)) (fe_ix rfl (fv 0) fe_int (fun _ _=>rfl)))) (fc (fe_opI op_mulA (fe_ix rfl (fv 0) fe_int (fun _ _=>rfl)) (fe_ix rfl (fv 1) fe_int (fun _ _=>rfl))) fa_nil)))))) ?rd
 case len=>rintro as Q ⟨x,y,rfl,_⟩;rfl
 case rd=>
  rintro as Q ⟨x,y,rfl,hx,hy,hs,q⟩
  have hd:(x.2*y.2).natAbs<2^8000:=pow8 (mul_pow (sz_d x) (sz_d y)) (by omega)
  exact ⟨mulA (e:=7900) (pl (sz_n x) (by omega)) (pl (sz_d y) (by omega)) (by decide),mulA (e:=7900) (pl (sz_n y) (by omega)) (pl (sz_d x) (by omega)) (by decide),mulA (e:=7900) (pl (sz_d x) (by omega)) (pl (sz_d y) (by omega)) (by decide),_,_,rfl,mul_ne hx hy,hd,rfl,q⟩
abbrev s_product:Stmt:=top 46
theorem sc_product:FnScope ["_law_one","_law_other"] ["_law_one","_law_other"] (defScope s_product):=⟨rfl,rfl,rfl,by decide +kernel,rfl,by decide +kernel,by decide +kernel⟩
theorem ok_product {f:Addr} {fd:FuncData} (F:Fun K "_law_product" "_law_product" s_product f fd) (TX:Txt mg) (g_lowest:Fn P w K mg base 1 "_law_lowest" ["_law_n","_law_d"] (spOf K tLow))   : FnOk P w K mg base CX0 2 f fd ["_law_one","_law_other"] (spOf K (tBin fmul)):=by
 refine F.okT sc_product ?len (fun cdv A outer s H E hr=>(fb_one (fs_ret (fe_call g_lowest hr (by omega) rfl (fc (fe_opI op_mulA (fe_ix rfl (fv 0) fe_int (fun _ _=>rfl)) (fe_ix rfl (fv 1) fe_int (fun _ _=>rfl))) (fc (fe_opI op_mulA (fe_ix rfl (fv 0) fe_int (fun _ _=>rfl)) (fe_ix rfl (fv 1) fe_int (fun _ _=>rfl))) fa_nil)))))) ?rd
 case len=>rintro as Q ⟨x,y,rfl,_⟩;rfl
 case rd=>
  rintro as Q ⟨x,y,rfl,hx,hy,hs,q⟩
  have hd:(x.2*y.2).natAbs<2^8000:=pow8 (mul_pow (sz_d x) (sz_d y)) (by omega)
  exact ⟨mulA (e:=7900) (pl (sz_n x) (by omega)) (pl (sz_n y) (by omega)) (by decide),mulA (e:=7900) (pl (sz_d x) (by omega)) (pl (sz_d y) (by omega)) (by decide),_,_,rfl,mul_ne hx hy,hd,rfl,q⟩
def tJoin:SpT:=fun as Q=>∃(x y p q:Fr) (e f:Nat),as=[.v (vc x y),.v (vc p q)]∧Nv x y e∧Nv p q f∧e+f≤7000∧Q (.v (vc (fadd x p) (fadd y q))) []
abbrev s_joined:Stmt:=top 48
theorem sc_joined:FnScope ["_law_one","_law_other"] ["_law_one","_law_other"] (defScope s_joined):=⟨rfl,rfl,rfl,by decide +kernel,rfl,by decide +kernel,by decide +kernel⟩
theorem ok_joined {f:Addr} {fd:FuncData} (F:Fun K "_law_joined" "_law_joined" s_joined f fd) (TX:Txt mg) (g_sum:Fn P w K mg base 2 "_law_sum" ["_law_one","_law_other"] (spOf K (tBin fadd)))   : FnOk P w K mg base CX0 3 f fd ["_law_one","_law_other"] (spOf K tJoin):=by
 refine F.okT sc_joined ?len (fun cdv A outer s H E hr=>(fb_one (fs_ret (fe_tup (fc (fe_call g_sum hr (by omega) rfl (fc (fe_ix rfl (fv 0) fe_int (fun _ _=>rfl)) (fc (fe_ix rfl (fv 1) fe_int (fun _ _=>rfl)) fa_nil))) (fc (fe_call g_sum hr (by omega) rfl (fc (fe_ix rfl (fv 0) fe_int (fun _ _=>rfl)) (fc (fe_ix rfl (fv 1) fe_int (fun _ _=>rfl)) fa_nil))) fa_nil)))))) ?rd
 case len=>rintro as Q ⟨x,y,p,q,e,f,rfl,_⟩;rfl
 case rd=>
  rintro as Q ⟨x,y,p,q,e,f,rfl,h,k,hs,z⟩
  have:=h.sx;have:=h.sy;have:=k.sx;have:=k.sy
  exact ⟨_,_,rfl,h.x,k.x,by omega,_,_,rfl,h.y,k.y,by omega,rfl,z⟩
abbrev s_off:Stmt:=top 49
theorem sc_off:FnScope ["_law_one","_law_other"] ["_law_one","_law_other"] (defScope s_off):=⟨rfl,rfl,rfl,by decide +kernel,rfl,by decide +kernel,by decide +kernel⟩
theorem ok_off {f:Addr} {fd:FuncData} (F:Fun K "_law_off" "_law_off" s_off f fd) (TX:Txt mg) (g_less:Fn P w K mg base 2 "_law_less" ["_law_one","_law_other"] (spOf K (tBin fsub)))   : FnOk P w K mg base CX0 3 f fd ["_law_one","_law_other"] (spOf K tOff):=by
 refine F.okT sc_off ?len (fun cdv A outer s H E hr=>(fb_one (fs_ret (fe_tup (fc (fe_call g_less hr (by omega) rfl (fc (fe_ix rfl (fv 0) fe_int (fun _ _=>rfl)) (fc (fe_ix rfl (fv 1) fe_int (fun _ _=>rfl)) fa_nil))) (fc (fe_call g_less hr (by omega) rfl (fc (fe_ix rfl (fv 0) fe_int (fun _ _=>rfl)) (fc (fe_ix rfl (fv 1) fe_int (fun _ _=>rfl)) fa_nil))) fa_nil)))))) ?rd
 case len=>rintro as Q ⟨x,y,p,q,e,f,rfl,_⟩;rfl
 case rd=>
  rintro as Q ⟨x,y,p,q,e,f,rfl,h,k,hs,z⟩
  have:=h.sx;have:=h.sy;have:=k.sx;have:=k.sy
  exact ⟨_,_,rfl,h.x,k.x,by omega,_,_,rfl,h.y,k.y,by omega,rfl,z⟩
def tScBy:SpT:=fun as Q=>∃(x y b:Fr) (e:Nat),as=[.v (vc x y),.v (fr b)]∧Nv x y e∧Nrm b∧e+sz b≤7000∧Q (.v (vc (fmul x b) (fmul y b))) []
abbrev s_scaled_by:Stmt:=top 50
theorem sc_scaled_by:FnScope ["_law_vector","_law_share"] ["_law_vector","_law_share"] (defScope s_scaled_by):=⟨rfl,rfl,rfl,by decide +kernel,rfl,by decide +kernel,by decide +kernel⟩
theorem ok_scaled_by {f:Addr} {fd:FuncData} (F:Fun K "_law_scaled_by" "_law_scaled_by" s_scaled_by f fd) (TX:Txt mg) (g_product:Fn P w K mg base 2 "_law_product" ["_law_one","_law_other"] (spOf K (tBin fmul)))   : FnOk P w K mg base CX0 3 f fd ["_law_vector","_law_share"] (spOf K tScBy):=by
 refine F.okT sc_scaled_by ?len (fun cdv A outer s H E hr=>(fb_one (fs_ret (fe_tup (fc (fe_call g_product hr (by omega) rfl (fc (fe_ix rfl (fv 0) fe_int (fun _ _=>rfl)) (fc (fv 1) fa_nil))) (fc (fe_call g_product hr (by omega) rfl (fc (fe_ix rfl (fv 0) fe_int (fun _ _=>rfl)) (fc (fv 1) fa_nil))) fa_nil)))))) ?rd
 case len=>rintro as Q ⟨x,y,b,e,rfl,_⟩;rfl
 case rd=>
  rintro as Q ⟨x,y,b,e,rfl,h,hb,hs,z⟩
  have:=h.sx;have:=h.sy
  exact ⟨_,_,rfl,h.x,hb,by omega,_,_,rfl,h.y,hb,by omega,rfl,z⟩
abbrev s_to_left:Stmt:=top 53
theorem sc_to_left:FnScope ["_law_vector"] ["_law_vector"] (defScope s_to_left):=⟨rfl,rfl,rfl,by decide +kernel,rfl,by decide +kernel,by decide +kernel⟩
theorem ok_to_left {f:Addr} {fd:FuncData} (F:Fun K "_law_to_left" "_law_to_left" s_to_left f fd) (TX:Txt mg)    : FnOk P w K mg base CX0 1 f fd ["_law_vector"] (spOf K tLeft):=by
 refine F.okT sc_to_left ?len (fun cdv A outer s H E hr=>(fb_one (fs_ret (fe_tup (fc (fe_tup (fc (fe_neg (fe_ix rfl (fe_ix rfl (fv 0) fe_int (fun _ _=>rfl)) fe_int (fun _ _=>rfl))) (fc (fe_ix rfl (fe_ix rfl (fv 0) fe_int (fun _ _=>rfl)) fe_int (fun _ _=>rfl)) fa_nil))) (fc (fe_ix rfl (fv 0) fe_int (fun _ _=>rfl)) fa_nil)))))) ?rd
 case len=>rintro as Q ⟨x,y,rfl,_⟩;rfl
 case rd=>
  rintro as Q ⟨x,y,rfl,q⟩
  exact ⟨rfl,q⟩
def un0 (k:Nat):Fr×Fr:=match k with
 | 0=>((1,1),(0,1)) | 1=>((4,5),(3,5)) | 2=>((3,5),(4,5)) | 3=>((12,13),(5,13)) | _=>((5,13),(12,13))
def rotN:Nat→Fr×Fr→Fr×Fr
 | 0,p=>p
 | n+1,p=>let q:=rotN n p;(fneg q.2,q.1)
def un (k:Nat):Fr×Fr:=rotN (k/5%4) (un0 (k%5))
def unT (k:Nat):L2.T:=vc (un k).1 (un k).2
theorem un_ok (k:Nat) (h:k<20):UnE (un k).1 (un k).2 4:=by
 have n0:∀j,j<5→UnE (un0 j).1 (un0 j).2 4:=fun j hj=>by
  have:j=0∨j=1∨j=2∨j=3∨j=4:=by omega
  have mk:∀a b c:Int,0<c→Nat.gcd a.natAbs c.natAbs=1→Nat.gcd b.natAbs c.natAbs=1→a.natAbs<2^4→b.natAbs<2^4→c.natAbs<2^4→a*a+b*b=c*c→UnE (a,c) (b,c) 4:=fun a b c c0 g1 g2 a4 b4 c4 e=>by
   refine ⟨⟨⟨c0,g1⟩,⟨c0,g2⟩,sz_le a4 c4 (by decide),sz_le b4 c4 (by decide)⟩,?_⟩
   show (a:Rat)/(c:Rat)*((a:Rat)/(c:Rat))+(b:Rat)/(c:Rat)*((b:Rat)/(c:Rat))=1
   have nz:(c:Rat)≠0:=by exact_mod_cast (show c≠0 by omega)
   have e':(a:Rat)*a+b*b=c*c:=by exact_mod_cast e
   grind
  rcases this with rfl | rfl | rfl | rfl | rfl
  ·exact mk 1 0 1 (by decide) (by decide) (by decide) (by decide) (by decide) (by decide) (by decide)
  ·exact mk 4 3 5 (by decide) (by decide) (by decide) (by decide) (by decide) (by decide) (by decide)
  ·exact mk 3 4 5 (by decide) (by decide) (by decide) (by decide) (by decide) (by decide) (by decide)
  ·exact mk 12 5 13 (by decide) (by decide) (by decide) (by decide) (by decide) (by decide) (by decide)
  ·exact mk 5 12 13 (by decide) (by decide) (by decide) (by decide) (by decide) (by decide) (by decide)
 have nr:∀n p,UnE p.1 p.2 4→UnE (rotN n p).1 (rotN n p).2 4:=fun n p hp=>by
  induction n with
  | zero=>exact hp
  | succ n ih=>exact ih.left
 exact nr _ _ (n0 _ (Nat.mod_lt _ (by decide)))
theorem un_ne:∀j k:Fin 20,j≠k→un j.1≠un k.1:=by decide +kernel
def tUnitOf':SpT:=fun as Q=>∃k:Nat,as=[.v (.int (k:Int))]∧k<20∧Q (.v (unT k)) []
abbrev s_unit_of:Stmt:=top 54
theorem sc_unit_of:FnScope ["_law_k","_law_some","_law_found","_law_turn"] ["_law_k"] (defScope s_unit_of):=⟨rfl,rfl,rfl,by decide +kernel,rfl,by decide +kernel,by decide +kernel⟩
theorem ok_unit_of {f:Addr} {fd:FuncData} (F:Fun K "_law_unit_of" "_law_unit_of" s_unit_of f fd) (TX:Txt mg) (g_to_left:Fn P w K mg base 1 "_law_to_left" ["_law_vector"] (spOf K tLeft))   : FnOk P w K mg base CX0 2 f fd ["_law_k"] (spOf K tUnitOf'):=by
 refine F.okT sc_unit_of ?len (fun cdv A outer s H E hr=>(fb_cons (fs_set (i:=1) sc_unit_of.nd rfl (Or.inl rfl) (fe_lst (fc (fe_tup (fc (fe_tup (fc fe_int (fc fe_int fa_nil))) (fc (fe_tup (fc fe_int (fc fe_int fa_nil))) fa_nil))) (fc (fe_tup (fc (fe_tup (fc fe_int (fc fe_int fa_nil))) (fc (fe_tup (fc fe_int (fc fe_int fa_nil))) fa_nil))) (fc (fe_tup (fc (fe_tup (fc fe_int (fc fe_int fa_nil))) (fc (fe_tup (fc fe_int (fc fe_int fa_nil))) fa_nil))) (fc (fe_tup (fc (fe_tup (fc fe_int (fc fe_int fa_nil))) (fc (fe_tup (fc fe_int (fc fe_int fa_nil))) fa_nil))) (fc (fe_tup (fc (fe_tup (fc fe_int (fc fe_int fa_nil))) (fc (fe_tup (fc fe_int (fc fe_int fa_nil))) fa_nil))) fa_nil)))))))
 (fb_cons (fs_set (i:=2) sc_unit_of.nd rfl (Or.inl rfl) (fe_ix rfl (fv 1) (fe_opI op_mod (fv 0) fe_int) (fun _ _=>rfl)))
 (fb_cons (fs_for PassesOwn.never rfl (fi_range1 rfl TX.n_range (fc (fe_opI op_mod (fe_opI op_fdivZ (fv 0) fe_int) fe_int) fa_nil)) (fg_name (i:=3) sc_unit_of.nd rfl (Or.inl rfl))
  (fb_one (fs_set (i:=2) sc_unit_of.nd rfl (Or.inl rfl) (fe_call g_to_left hr (by omega) rfl (fc (fv 2) fa_nil)))))
 (fb_one (fs_ret (fv 2))))))) ?rd
 case len=>rintro as Q ⟨k,rfl,_⟩;rfl
 case rd=>
  rintro as Q ⟨k,rfl,hk,q⟩
  refine ⟨by show (0:Int)<5;decide,?_⟩
  have at0:∀j:Nat,j<5→atI [L2.T.tup [.tup [.int 1,.int 1],.tup [.int 0,.int 1]],.tup [.tup [.int 4,.int 5],.tup [.int 3,.int 5]],.tup [.tup [.int 3,.int 5],.tup [.int 4,.int 5]],.tup [.tup [.int 12,.int 13],.tup [.int 5,.int 13]],.tup [.tup [.int 5,.int 13],.tup [.int 12,.int 13]]] (j:Int)=some (vc (un0 j).1 (un0 j).2):=fun j hj=>by
   have:j=0∨j=1∨j=2∨j=3∨j=4:=by omega
   rcases this with rfl | rfl | rfl | rfl | rfl<;>rfl
  have em:((k:Int)%5)=((k%5:Nat):Int):=rfl
  show o1 (atI [L2.T.tup [.tup [.int 1,.int 1],.tup [.int 0,.int 1]],.tup [.tup [.int 4,.int 5],.tup [.int 3,.int 5]],.tup [.tup [.int 3,.int 5],.tup [.int 4,.int 5]],.tup [.tup [.int 12,.int 13],.tup [.int 5,.int 13]],.tup [.tup [.int 5,.int 13],.tup [.int 12,.int 13]]] ((k:Int)%5)) _
  rw [em,at0 _ (Nat.mod_lt _ (by decide))]
  have ek:((k:Int).fdiv 5%4)=((k/5%4:Nat):Int):=by
   rw [Int.fdiv_eq_ediv_of_nonneg _ (by decide)]
   omega
  refine ⟨⟨by decide,by decide⟩,by show (0:Int)<4;decide,?_⟩
  rw [ek]
  refine ⟨⟨by omega,by omega⟩,?_⟩
  rw [Int.toNat_natCast]
  refine loopT_inv (fun i E=>∃v1 v3:Option U,E=[some (.p (.int (k:Int))),v1,some (.p (vc (rotN i (un0 (k%5))).1 (rotN i (un0 (k%5))).2)),v3]) ⟨_,_,rfl⟩ ?_ ?_
  ·rintro i t rest E hi ⟨v1,v3,rfl⟩ KK
   exact ⟨_,_,rfl,KK _ ⟨_,_,rfl⟩⟩
  ·rintro E ⟨v1,v3,rfl⟩
   have el:(rngT 0 (k/5%4)).length=k/5%4:=by simp [rngT]
   rw [el]
   exact ⟨rfl,q⟩
end
end My
set_option Elab.async false
set_option linter.all false
set_option maxRecDepth 100000
set_option maxHeartbeats 4000000
namespace My
open PySem L2 PyProof.Rows
section
variable {P:Program} {w:World} {K:PySem.W.Frag} {mg:Str→Option Value} {base:Heap}
inductive Mv where
 | side (x y m:Fr) | arc (x y u v r:Fr) (l:Bool)
def mvT:Mv→L2.T
 | .side x y m=>.tup [.str "side",vc x y,fr m]
 | .arc x y u v r l=>.tup [.str "arc",vc x y,vc u v,fr r,.str (turnS l)]
def okMv:Mv→Prop
 | .side x y m=>UnE x y 4∧Nrm m∧sz m≤4∧0<val m
 | .arc x y u v r _=>UnE x y 4∧UnE u v 4∧¬(x=u∧y=v)∧Nrm r∧sz r≤3∧0<val r
theorem noL_mv:∀m:Mv,noL (mvT m)=true
 | .side _ _ _=>rfl
 | .arc _ _ _ _ _ _=>rfl
theorem noLs_mvs:∀ms:List Mv,noLs (ms.map mvT)=true
 | []=>rfl
 | m::ms=>by show (noL (mvT m)&&noLs (ms.map mvT))=true;rw [noL_mv,noLs_mvs ms];rfl
theorem whole_ok {k:Int} {e:Nat} (h1:1≤k) (he:k.natAbs<2^e) (e0:0<e):Nrm (k,1)∧sz (k,1)≤e∧0<val (k,1):=by
 refine ⟨nrm_int k,sz_le he (show (1:Int).natAbs<2^e from Nat.one_lt_two_pow (by omega)) e0,?_⟩
 rw [val_int]
 exact_mod_cast (show 0<k by omega)
def tMvBy:SpT:=fun as Q=>∃(xs:List L2.T) (n:Int),as=[.b xs,.v (.bl true)]∧Bx xs n∧n≤900000∧∀m ys,okMv m→Bx ys (n+5)→noLs ys=true→Q (.v (mvT m)) ys
abbrev s_move_by:Stmt:=top 55
theorem sc_move_by:FnScope ["_law_box","_law_arcs","_law_turn","_law_kind","_law_many","_law_first","_law_more"] ["_law_box","_law_arcs"] (defScope s_move_by):=⟨rfl,rfl,rfl,by decide +kernel,rfl,by decide +kernel,by decide +kernel⟩
theorem ok_move_by {f:Addr} {fd:FuncData} (F:Fun K "_law_move_by" "_law_move_by" s_move_by f fd) (TX:Txt mg) (g_take:Fn P w K mg base 1 "_law_take" ["_law_box","_law_many"] (spOf K tTake)) (g_unit_of:Fn P w K mg base 2 "_law_unit_of" ["_law_k"] (spOf K tUnitOf'))   : FnOk P w K mg base CX0 3 f fd ["_law_box","_law_arcs"] (spOf K tMvBy):=by
 refine F.okT sc_move_by ?len (fun cdv A outer s H E hr=>(fb_cons (fs_par (i:=3) (j:=4) rfl sc_move_by.nd rfl rfl (by decide) rfl rfl (fc (fe_callB g_take hr (by omega) rfl (fc (fv 0) (fc fe_int fa_nil))) (fc (fe_opI0 op_add fe_int (fe_callB g_take hr (by omega) rfl (fc (fv 0) (fc fe_int fa_nil)))) fa_nil)) rfl)
 (fb_cons (fs_par (i:=5) (j:=6) rfl sc_move_by.nd rfl rfl (by decide) rfl rfl (fc (fe_callB g_take hr (by omega) rfl (fc (fv 0) (fc fe_int fa_nil))) (fc (fe_opI0 op_add fe_int (fe_callB g_take hr (by omega) rfl (fc (fv 0) (fc fe_int fa_nil)))) fa_nil)) rfl)
 (fb_cons (fs_if (ft_w (fw_or (ft_not (ft_val (fv 1))) (fw_or1 (ft_cp op_gt (fv 3) fe_int (nomark _))))) (fb_one (fs_ret (fe_tup (fc fe_str (fc (fe_call g_unit_of hr (by omega) rfl (fc (fv 5) fa_nil)) (fc (fe_tup (fc (fv 4) (fc fe_int fa_nil))) fa_nil)))))) fb_nil)
 (fb_cons (fs_set (i:=2) sc_move_by.nd rfl (Or.inl rfl) (fe_ix rfl (fe_lst (fc fe_str (fc fe_str fa_nil))) (fe_callB g_take hr (by omega) rfl (fc (fv 0) (fc fe_int fa_nil))) (fun _ _=>rfl)))
 (fb_one (fs_ret (fe_tup (fc fe_str (fc (fe_call g_unit_of hr (by omega) rfl (fc (fv 5) fa_nil)) (fc (fe_call g_unit_of hr (by omega) rfl (fc (fe_opI op_mod (fe_opI0 op_add (fv 5) (fv 6)) fe_int) fa_nil)) (fc (fe_tup (fc (fe_opI0 op_add fe_int (fe_opI op_fdivZ (fv 4) fe_int)) (fc fe_int fa_nil))) (fc (fv 2) fa_nil))))))))))))) ?rd
 case len=>rintro as Q ⟨xs,n,rfl,_⟩;rfl
 case rd=>
  rintro as Q ⟨xs,n,rfl,hB,hn,q⟩
  refine ⟨xs,3,n,rfl,hB,by omega,by decide,by decide,fun kd y1 k0 k1 b1=>?_⟩
  refine ⟨y1,11,n+1,rfl,b1,by omega,by decide,by decide,fun mn y2 m0 m1 b2=>?_⟩
  refine ⟨y2,20,n+1+1,rfl,b2,by omega,by decide,by decide,fun fs y3 f0 f1 b3=>?_⟩
  refine ⟨y3,19,n+1+1+1,rfl,b3,by omega,by decide,by decide,fun mo y4 o0 o1' b4=>?_⟩
  obtain ⟨f,rfl⟩:∃f:Nat,fs=(f:Int):=⟨fs.toNat,by omega⟩
  have hf:f<20:=by omega
  obtain ⟨w1,w2,w3⟩:=whole_ok (k:=1+mn) (e:=4) (by omega) (by omega) (by decide)
  show if decide (0<kd)=true then _ else _
  by_cases c:0<kd
  ·rw [decide_eq_true c,if_pos rfl]
   obtain ⟨A,B,C,rfl,_⟩:=id b4
   exact ⟨f,rfl,hf,rfl,q (.side (un f).1 (un f).2 (1+mn,1)) _ ⟨un_ok f hf,w1,w2,w3⟩ (b4.mono (by omega)) rfl⟩
  ·rw [decide_eq_false c,if_neg (by decide)]
   refine ⟨y4,2,n+1+1+1+1,rfl,b4,by omega,by decide,by decide,fun tn y5 t0 t1 b5=>?_⟩
   obtain ⟨A,B,C,rfl,_⟩:=id b5
   obtain ⟨l,hl⟩:∃l,atI [L2.T.str (Str.ofString "left"),.str (Str.ofString "right")] tn=some (.str (turnS l)):=by
    have:tn=0∨tn=1:=by omega
    rcases this with rfl | rfl
    ·exact ⟨true,rfl⟩
    ·exact ⟨false,rfl⟩
   show o1 (atI [L2.T.str (Str.ofString "left"),.str (Str.ofString "right")] tn) _
   rw [hl]
   refine ⟨f,rfl,hf,by show (0:Int)<20;decide,?_⟩
   obtain ⟨g,hg⟩:∃g:Nat,((f:Int)+(1+mo))%20=(g:Int):=⟨(((f:Int)+(1+mo))%20).toNat,by omega⟩
   have hg20:g<20:=by omega
   have hgf:f≠g:=by omega
   rw [hg]
   refine ⟨g,rfl,hg20,⟨by decide,by decide⟩,?_⟩
   have er:(1+mn).fdiv 2=(1+mn)/2:=Int.fdiv_eq_ediv_of_nonneg _ (by decide)
   rw [er]
   obtain ⟨r1,r2,r3⟩:=whole_ok (k:=1+(1+mn)/2) (e:=3) (by omega) (by omega) (by decide)
   exact ⟨rfl,q (.arc (un f).1 (un f).2 (un g).1 (un g).2 (1+(1+mn)/2,1) l) _ ⟨un_ok f hf,un_ok g hg20,fun z=>un_ne ⟨f,hf⟩ ⟨g,hg20⟩ (by simpa using hgf) (Prod.ext z.1 z.2),r1,r2,r3⟩ (b5.mono (by omega)) rfl⟩
theorem mul_m1 {x:Fr} (h:Nrm x):fmul x (-1,1)=fneg x:=by
 have n1:Nrm ((-1,1):Fr):=nrm_int (-1)
 refine val_inj (nrm_mul h n1) (nrm_neg h) ?_
 rw [val_mul h n1,val_neg h,val_int]
 grind
def mvB:Mv→Mv
 | .side x y m=>.side (fneg x) (fneg y) m
 | .arc x y u v r l=>.arc (fneg x) (fneg y) (fneg u) (fneg v) r l
theorem fneg_inj {x y:Fr} (h:fneg x=fneg y):x=y:=by
 have h1:=congrArg Prod.fst h
 have h2:=congrArg Prod.snd h
 simp only [fneg] at h1 h2
 exact Prod.ext (by omega) h2
theorem okMv.back:∀{m:Mv},okMv m→okMv (mvB m)
 | .side _ _ _,⟨u,h⟩=>⟨u.neg,h⟩
 | .arc _ _ _ _ _ _,⟨u,v,ne,h⟩=>⟨u.neg,v.neg,fun z=>ne ⟨fneg_inj z.1,fneg_inj z.2⟩,h⟩
def tMvBack:SpT:=fun as Q=>∃m:Mv,as=[.v (mvT m)]∧okMv m∧Q (.v (mvT (mvB m))) []
abbrev s_move_back:Stmt:=top 57
theorem sc_move_back:FnScope ["_law_move"] ["_law_move"] (defScope s_move_back):=⟨rfl,rfl,rfl,by decide +kernel,rfl,by decide +kernel,by decide +kernel⟩
theorem ok_move_back {f:Addr} {fd:FuncData} (F:Fun K "_law_move_back" "_law_move_back" s_move_back f fd) (TX:Txt mg) (g_scaled_by:Fn P w K mg base 3 "_law_scaled_by" ["_law_vector","_law_share"] (spOf K tScBy))   : FnOk P w K mg base CX0 4 f fd ["_law_move"] (spOf K tMvBack):=by
 refine F.okT sc_move_back ?len (fun cdv A outer s H E hr=>(fb_cons (fs_if (ft_eq rfl hr (fe_ix rfl (fv 0) fe_int (fun _ _=>rfl)) fe_str (nomark _)) (fb_one (fs_ret (fe_tup (fc fe_str (fc (fe_call g_scaled_by hr (by omega) rfl (fc (fe_ix rfl (fv 0) fe_int (fun _ _=>rfl)) (fc (fe_tup (fc (fe_neg fe_int) (fc fe_int fa_nil))) fa_nil))) (fc (fe_ix rfl (fv 0) fe_int (fun _ _=>rfl)) fa_nil)))))) fb_nil)
 (fb_one (fs_ret (fe_tup (fc fe_str (fc (fe_call g_scaled_by hr (by omega) rfl (fc (fe_ix rfl (fv 0) fe_int (fun _ _=>rfl)) (fc (fe_tup (fc (fe_neg fe_int) (fc fe_int fa_nil))) fa_nil))) (fc (fe_call g_scaled_by hr (by omega) rfl (fc (fe_ix rfl (fv 0) fe_int (fun _ _=>rfl)) (fc (fe_tup (fc (fe_neg fe_int) (fc fe_int fa_nil))) fa_nil))) (fc (fe_ix rfl (fv 0) fe_int (fun _ _=>rfl)) (fc (fe_ix rfl (fv 0) fe_int (fun _ _=>rfl)) fa_nil)))))))))) ?rd
 case len=>rintro as Q ⟨m,rfl,_⟩;rfl
 case rd=>
  rintro as Q ⟨m,rfl,h,q⟩
  have n1:Nrm ((-1,1):Fr):=nrm_int (-1)
  have s1:sz ((-1,1):Fr)≤1:=sz_le (e:=1) (by decide) (by decide) (by decide)
  cases m with
  | side x y m=>
   refine ⟨Nat.zero_le _,?_⟩
   refine ⟨x,y,(-1,1),4,rfl,h.1.nv,n1,by omega,rfl,?_⟩
   rw [mul_m1 h.1.nv.x,mul_m1 h.1.nv.y]
   exact q
  | arc x y u v r l=>
   refine ⟨Nat.zero_le _,?_⟩
   refine ⟨x,y,(-1,1),4,rfl,h.1.nv,n1,by omega,u,v,(-1,1),4,rfl,h.2.1.nv,n1,by omega,rfl,?_⟩
   rw [mul_m1 h.1.nv.x,mul_m1 h.1.nv.y,mul_m1 h.2.1.nv.x,mul_m1 h.2.1.nv.y]
   exact q
end
end My
set_option Elab.async false
set_option linter.all false
set_option maxRecDepth 100000
set_option maxHeartbeats 4000000
namespace My
open PySem L2 PyProof.Rows
section
variable {P:Program} {w:World} {K:PySem.W.Frag} {mg:Str→Option Value} {base:Heap}
theorem nv_sc {x y b:Fr} {e f:Nat} (k:Nv x y f) (hb:Nrm b) (hs:sz b≤e):Nv (fmul x b) (fmul y b) (f+e):=by
 have:=k.sx;have:=k.sy
 have m1:=sz_mul k.x hb;have m2:=sz_mul k.y hb
 exact ⟨nrm_mul k.x hb,nrm_mul k.y hb,by omega,by omega⟩
theorem nv_les {p q x y:Fr} {e f:Nat} (h:Nv p q e) (k:Nv x y f):Nv (fsub p x) (fsub q y) (e+f+1):=by
 have:=h.sx;have:=h.sy;have:=k.sx;have:=k.sy
 have m1:=sz_sub h.x k.x;have m2:=sz_sub h.y k.y
 exact ⟨nrm_sub h.x k.x,nrm_sub h.y k.y,by omega,by omega⟩
theorem nv_sum {p q x y:Fr} {e f:Nat} (h:Nv p q e) (k:Nv x y f):Nv (fadd p x) (fadd q y) (e+f+1):=by
 have:=h.sx;have:=h.sy;have:=k.sx;have:=k.sy
 have m1:=sz_add h.x k.x;have m2:=sz_add h.y k.y
 exact ⟨nrm_add h.x k.x,nrm_add h.y k.y,by omega,by omega⟩
def mvP (a b:Fr):Mv→Pc
 | .side x y m=>.side (fadd a (fmul x m)) (fadd b (fmul y m))
 | .arc x y u v r l=>.arc (fsub a (fmul x r)) (fsub b (fmul y r)) (fadd (fsub a (fmul x r)) (fmul u r)) (fadd (fsub b (fmul y r)) (fmul v r)) l
theorem mvP_ok {a b:Fr} {e:Nat} (h:Nv a b e):∀{m:Mv},okMv m→okPc (e+16) a b (mvP a b m)
 | .side x y m,⟨u,nm,sm,pm⟩=>by
  have s:=nv_sc u.nv nm sm
  refine ⟨(nv_sum h s).up (by omega),val m,pm,?_⟩
  unfold far2
  rw [val_add h.x s.x,val_add h.y s.y,val_mul u.nv.x nm,val_mul u.nv.y nm]
  have:=u.one
  have e1:(val a+val x*val m-val a)*(val a+val x*val m-val a)+(val b+val y*val m-val b)*(val b+val y*val m-val b)=(val x*val x+val y*val y)*(val m*val m):=by grind
  rw [e1,this];grind
 | .arc x y u v r l,⟨uu,uv,ne,nr,sr,pr⟩=>by
  have s:=nv_sc uu.nv nr sr
  have t:=nv_sc uv.nv nr sr
  have m:=nv_les h s
  have z:=nv_sum m t
  have o1:=uu.one
  have o2:=uv.one
  refine ⟨m.up (by omega),z.up (by omega),fun c=>?_,val r,pr,?_,?_⟩
  ·have c1:=congrArg val c.1
   have c2:=congrArg val c.2
   rw [val_add m.x t.x,val_sub h.x s.x,val_mul uu.nv.x nr,val_mul uv.nv.x nr] at c1
   rw [val_add m.y t.y,val_sub h.y s.y,val_mul uu.nv.y nr,val_mul uv.nv.y nr] at c2
   have r0:val r≠0:=by grind
   have e1:val x=val u:=by
    have:(val u-val x)*val r=0:=by grind
    rcases Rat.mul_eq_zero.mp this with q | q<;>grind
   have e2:val y=val v:=by
    have:(val v-val y)*val r=0:=by grind
    rcases Rat.mul_eq_zero.mp this with q | q<;>grind
   exact ne ⟨val_inj uu.nv.x uv.nv.x e1,val_inj uu.nv.y uv.nv.y e2⟩
  ·unfold far2
   rw [val_sub h.x s.x,val_sub h.y s.y,val_mul uu.nv.x nr,val_mul uu.nv.y nr]
   have e1:(val a-(val a-val x*val r))*(val a-(val a-val x*val r))+(val b-(val b-val y*val r))*(val b-(val b-val y*val r))=(val x*val x+val y*val y)*(val r*val r):=by grind
   rw [e1,o1];grind
  ·unfold far2
   rw [val_add m.x t.x,val_add m.y t.y,val_sub h.x s.x,val_sub h.y s.y,val_mul uu.nv.x nr,val_mul uu.nv.y nr,val_mul uv.nv.x nr,val_mul uv.nv.y nr]
   have e1:(val a-val x*val r+val u*val r-(val a-val x*val r))*(val a-val x*val r+val u*val r-(val a-val x*val r))+(val b-val y*val r+val v*val r-(val b-val y*val r))*(val b-val y*val r+val v*val r-(val b-val y*val r))=(val u*val u+val v*val v)*(val r*val r):=by grind
   rw [e1,o2];grind
def tPathOfM:SpT:=fun as Q=>∃(a b:Fr) (ms:List Mv),as=[.v (vc a b),.v (.lst (ms.map mvT))]∧Nv a b 3∧(∀m∈ms,okMv m)∧ms≠[]∧ms.length≤10∧∀ps,ps≠[]→ps.length≤10→chainP 163 a b ps→Q (.v (pathT a b ps)) []
abbrev s_path_of:Stmt:=top 56
theorem sc_path_of:FnScope ["_law_start","_law_moves","_law_move","_law_at","_law_pieces","_law_middle"] ["_law_start","_law_moves"] (defScope s_path_of):=⟨rfl,rfl,rfl,by decide +kernel,rfl,by decide +kernel,by decide +kernel⟩
theorem ok_path_of {f:Addr} {fd:FuncData} (F:Fun K "_law_path_of" "_law_path_of" s_path_of f fd) (TX:Txt mg) (g_joined:Fn P w K mg base 3 "_law_joined" ["_law_one","_law_other"] (spOf K tJoin)) (g_off:Fn P w K mg base 3 "_law_off" ["_law_one","_law_other"] (spOf K tOff)) (g_scaled_by:Fn P w K mg base 3 "_law_scaled_by" ["_law_vector","_law_share"] (spOf K tScBy))   : FnOk P w K mg base CX0 4 f fd ["_law_start","_law_moves"] (spOf K tPathOfM):=by
 refine F.okT sc_path_of ?len (fun cdv A outer s H E hr=>(fb_cons (fs_par (i:=3) (j:=4) rfl sc_path_of.nd rfl rfl (by decide) rfl rfl (fc (fv 0) (fc (fe_lst fa_nil) fa_nil)) rfl)
 (fb_cons (fs_for PassesOwn.never rfl (fi_list rfl (fv 1)) (fg_name (i:=2) sc_path_of.nd rfl (Or.inl rfl))
  (fb_one (fs_if (ft_eq rfl hr (fe_ix rfl (fv 2) fe_int (fun _ _=>rfl)) fe_str (nomark _)) (fb_cons (fs_set (i:=3) sc_path_of.nd rfl (Or.inl rfl) (fe_call g_joined hr (by omega) rfl (fc (fv 3) (fc (fe_call g_scaled_by hr (by omega) rfl (fc (fe_ix rfl (fv 2) fe_int (fun _ _=>rfl)) (fc (fe_ix rfl (fv 2) fe_int (fun _ _=>rfl)) fa_nil))) fa_nil))))
 (fb_one (fs_expr (fe_append rfl (fv 4) (fc (fe_tup (fc fe_str (fc (fv 3) fa_nil))) fa_nil))))) (fb_cons (fs_set (i:=5) sc_path_of.nd rfl (Or.inl rfl) (fe_call g_off hr (by omega) rfl (fc (fv 3) (fc (fe_call g_scaled_by hr (by omega) rfl (fc (fe_ix rfl (fv 2) fe_int (fun _ _=>rfl)) (fc (fe_ix rfl (fv 2) fe_int (fun _ _=>rfl)) fa_nil))) fa_nil))))
 (fb_cons (fs_set (i:=3) sc_path_of.nd rfl (Or.inl rfl) (fe_call g_joined hr (by omega) rfl (fc (fv 5) (fc (fe_call g_scaled_by hr (by omega) rfl (fc (fe_ix rfl (fv 2) fe_int (fun _ _=>rfl)) (fc (fe_ix rfl (fv 2) fe_int (fun _ _=>rfl)) fa_nil))) fa_nil))))
 (fb_one (fs_expr (fe_append rfl (fv 4) (fc (fe_tup (fc fe_str (fc (fv 5) (fc (fv 3) (fc (fe_ix rfl (fv 2) fe_int (fun _ _=>rfl)) fa_nil))))) fa_nil)))))))))
 (fb_one (fs_ret (fe_tup (fc (fv 0) (fc (fe_tupOf rfl rfl TX.n_tuple (fc (fv 4) fa_nil)) fa_nil)))))))) ?rd
 case len=>rintro as Q ⟨a,b,ms,rfl,_⟩;rfl
 case rd=>
  rintro as Q ⟨a,b,ms,rfl,nv,hm,hn,hl,q⟩
  refine loopT_inv (fun i E=>∃(v2 v5:Option U) (ps:List Pc) (hx hy:Fr),E=[some (.p (vc a b)),some (.p (.lst (ms.map mvT))),v2,some (.p (vc hx hy)),some (.o false (ps.map pcT)),v5]∧ps.length=i∧chainP 163 a b ps∧hx=lastx a ps∧hy=lasty b ps∧Nv hx hy (3+16*i)) ⟨_,_,[],a,b,rfl,rfl,trivial,rfl,rfl,nv⟩ ?_ ?_
  ·rintro i t rest E hi ⟨v2,v5,ps,hx,hy,rfl,hp,ch,ex,ey,hv⟩ KK
   rw [List.getElem?_map] at hi
   cases hq:ms[i]? with
   | none=>rw [hq] at hi;cases hi
   | some m=>
    rw [hq] at hi;cases hi
    have hi10:i<ms.length:=(List.getElem?_eq_some_iff.mp hq).1
    have ok:=hm m (List.mem_of_getElem? hq)
    have op:=mvP_ok hv ok
    have op':okPc 163 (lastx a ps) (lasty b ps) (mvP hx hy m):=by rw [←ex,←ey];exact op.up (by omega)
    have nx:=(okPc.nv op).up (show 3+16*i+16≤3+16*(i+1) by omega)
    have done:∀v2 v5,∃(v2' v5':Option U) (ps':List Pc) (hx' hy':Fr),[some (.p (vc a b)),some (.p (.lst (ms.map mvT))),v2,some (.p (vc (mvP hx hy m).px (mvP hx hy m).py)),some (.o false (ps.map pcT++[pcT (mvP hx hy m)])),v5]=[some (.p (vc a b)),some (.p (.lst (ms.map mvT))),v2',some (.p (vc hx' hy')),some (U.o false (ps'.map pcT)),v5']∧ps'.length=i+1∧chainP 163 a b ps'∧hx'=lastx a ps'∧hy'=lasty b ps'∧Nv hx' hy' (3+16*(i+1)):=fun v2 v5=>
     ⟨v2,v5,ps++[mvP hx hy m],_,_,by rw [List.map_append];rfl,by simp [hp],chain_snoc ch op',(lastx_snoc ps a _).symm,(lasty_snoc ps b _).symm,nx⟩
    have lp:(ps.map pcT++[pcT (mvP hx hy m)]).length≤1000:=by simp;omega
    cases m with
    | side x y m=>
     refine ⟨Nat.zero_le _,?_⟩
     have s:=nv_sc ok.1.nv ok.2.1 ok.2.2.1
     have sm:=ok.2.2.1
     refine ⟨x,y,m,4,rfl,ok.1.nv,ok.2.1,by omega,?_⟩
     refine ⟨hx,hy,_,_,3+16*i,4+4,rfl,hv,s,by omega,?_⟩
     exact ⟨lp,KK _ (done _ _)⟩
    | arc x y u v r l=>
     obtain ⟨o1,o2,o3,o4,o5,o6⟩:=id ok
     refine ⟨Nat.zero_le _,?_⟩
     have s:=nv_sc o1.nv o4 o5
     have t:=nv_sc o2.nv o4 o5
     refine ⟨x,y,r,4,rfl,o1.nv,o4,by omega,?_⟩
     refine ⟨hx,hy,_,_,3+16*i,4+3,rfl,hv,s,by omega,?_⟩
     refine ⟨u,v,r,4,rfl,o2.nv,o4,by omega,?_⟩
     refine ⟨_,_,_,_,3+16*i+(4+3)+1,4+3,rfl,nv_les hv s,t,by omega,?_⟩
     exact ⟨lp,KK _ (done _ _)⟩
  ·rintro E ⟨v2,v5,ps,hx,hy,rfl,hp,ch,ex,ey,hv⟩
   rw [List.length_map] at hp
   exact ⟨noL_path a b ps (noLs_pcs ps),q ps (by intro z;rw [z] at hp;exact hn (List.eq_nil_of_length_eq_zero hp.symm)) (by omega) ch⟩
end
end My
set_option Elab.async false
set_option linter.all false
set_option maxRecDepth 100000
set_option maxHeartbeats 4000000
namespace My
open PySem L2 PyProof.Rows
section
variable {P:Program} {w:World} {K:PySem.W.Frag} {mg:Str→Option Value} {base:Heap}
theorem if_join {c:Bool} {Fa Fb:FE} {E:En} {κ:L2.R→En→Prop} (R:L2.R→Prop) (ha:c=true→∀κ',(∀u,R u→κ' u E)→Fa E κ') (hb:c=false→∀κ',(∀u,R u→κ' u E)→Fb E κ') (hk:∀u,R u→κ u E):if c=true then Fa E κ else Fb E κ:=by
 cases c with
 | true=>exact ha rfl κ hk
 | false=>exact hb rfl κ hk
def tPathBy:SpT:=fun as Q=>∃(xs:List L2.T) (n k:Int),as=[.b xs,.v (.int k)]∧Bx xs n∧n≤800000∧1≤k∧k≤9∧∀a b ps ys,Nv a b 3→ps≠[]→ps.length≤10→chainP 163 a b ps→Bx ys (n+70)→noLs ys=true→Q (.v (pathT a b ps)) ys
theorem ms_of {L:List L2.T} (h:∀t∈L,∃m,t=mvT m∧okMv m):∃ms:List Mv,L=ms.map mvT∧∀m∈ms,okMv m:=by
 induction L with
 | nil=>exact ⟨[],rfl,by simp⟩
 | cons t L ih=>
  obtain ⟨m,e,ok⟩:=h t (by simp)
  obtain ⟨ms,e2,ok2⟩:=ih fun t ht=>h t (List.mem_cons_of_mem _ ht)
  refine ⟨m::ms,by rw [e,e2];rfl,fun m' hm'=>?_⟩
  rcases List.mem_cons.mp hm' with rfl | hm'
  ·exact ok
  ·exact ok2 m' hm'
theorem noLs_mv {L:List L2.T} (h:∀t∈L,∃m,t=mvT m∧okMv m):noLs L=true:=by
 obtain ⟨ms,rfl,_⟩:=ms_of h
 exact noLs_mvs ms
theorem start_ok {s t:Int} (s0:0≤s) (s1:s<9) (t0:0≤t) (t1:t<9):Nv (s-4,1) (t-4,1) 3:=
 ⟨nrm_int _,nrm_int _,sz_le (show (s-4).natAbs<2^3 by omega) (show (1:Int).natAbs<2^3 by decide) (by decide),sz_le (show (t-4).natAbs<2^3 by omega) (show (1:Int).natAbs<2^3 by decide) (by decide)⟩
abbrev s_path_by:Stmt:=top 58
theorem sc_path_by:FnScope ["_law_box","_law_most","_law_start","_law_moves","_law_way","_law_many","_law_left"] ["_law_box","_law_most"] (defScope s_path_by):=⟨rfl,rfl,rfl,by decide +kernel,rfl,by decide +kernel,by decide +kernel⟩
theorem ok_path_by {f:Addr} {fd:FuncData} (F:Fun K "_law_path_by" "_law_path_by" s_path_by f fd) (TX:Txt mg) (g_take:Fn P w K mg base 1 "_law_take" ["_law_box","_law_many"] (spOf K tTake)) (g_move_by:Fn P w K mg base 3 "_law_move_by" ["_law_box","_law_arcs"] (spOf K tMvBy)) (g_move_back:Fn P w K mg base 4 "_law_move_back" ["_law_move"] (spOf K tMvBack)) (g_path_of:Fn P w K mg base 4 "_law_path_of" ["_law_start","_law_moves"] (spOf K tPathOfM))   : FnOk P w K mg base CX0 5 f fd ["_law_box","_law_most"] (spOf K tPathBy):=by
 refine F.okT sc_path_by ?len (fun cdv A outer s H E hr=>(fb_cons (fs_par (i:=4) (j:=5) rfl sc_path_by.nd rfl rfl (by decide) rfl rfl (fc (fe_callB g_take hr (by omega) rfl (fc (fv 0) (fc fe_int fa_nil))) (fc (fe_opI0 op_add fe_int (fe_callB g_take hr (by omega) rfl (fc (fv 0) (fc (fv 1) fa_nil)))) fa_nil)) rfl)
 (fb_cons (fs_set (i:=2) sc_path_by.nd rfl (Or.inl rfl) (fe_tup (fc (fe_tup (fc (fe_opI0 op_sub (fe_callB g_take hr (by omega) rfl (fc (fv 0) (fc fe_int fa_nil))) fe_int) (fc fe_int fa_nil))) (fc (fe_tup (fc (fe_opI0 op_sub (fe_callB g_take hr (by omega) rfl (fc (fv 0) (fc fe_int fa_nil))) fe_int) (fc fe_int fa_nil))) fa_nil))))
 (fb_cons (fs_setC (i:=3) (N':=["_law_turn","_law_box"]) (t:=1) (cap:=[(0,true)]) sc_path_by.nd rfl (Or.inl rfl) rfl rfl (CompOk.of rfl) rfl (by decide) (fi_range1 rfl TX.n_range (fc (fe_if (ft_cp op_lt (fv 4) fe_int (nomark _)) (fv 5) (fe_opI0 op_add fe_int (fe_opI op_fdivZ (fv 5) fe_int))) fa_nil)) (fun _ _ _ _=>(fg_name (i:=0) (show List.Nodup (["_law_turn","_law_box"]:List Str) by decide +kernel) rfl (Or.inl rfl) (Or.inr rfl))) (fun _ _ _ _=>(fe_callB g_move_by hr (by omega) rfl (fc (fv 1) (fc fe_bl fa_nil)))))
 (fb_cons (fs_if (ft_cp op_gt (fv 4) fe_int (nomark _)) (fb_cons (fs_set (i:=6) sc_path_by.nd rfl (Or.inr rfl) (fe_cat (fv 3) (fe_comp (N':=["_law_move"]) (t:=1) (cap:=[]) rfl (CompOk.of rfl) rfl (by decide) (fi_list rfl (fv 3)) (fun _ _ _ _=>(fg_name (i:=0) (show List.Nodup (["_law_move"]:List Str) by decide +kernel) rfl (Or.inl rfl) (Or.inr rfl))) (fun _ _ _ _=>(fe_call g_move_back hr (by omega) rfl (fc (fv 0) fa_nil))))))
 (fb_cons (fs_setA (i:=3) sc_path_by.nd rfl (Or.inl rfl) (fv 6))
 (fb_one (fs_if (ft_eq rfl hr (fv 4) fe_int (nomark _)) (fb_one (fs_setM (i:=3) (N':=["_law_turn","_law_left","_law_box"]) (t:=1) (cap:=[(6,true),(0,true)]) sc_path_by.nd rfl (Or.inl rfl) rfl rfl (CompOk.of rfl) (by decide) (fi_range1 rfl TX.n_range (fc (fe_len rfl rfl TX.n_len (fc (fv 6) fa_nil)) fa_nil)) (fun _ _ _ _=>(fg_nameM (i:=0) (show List.Nodup (["_law_turn","_law_left","_law_box"]:List Str) by decide +kernel) rfl (Or.inl rfl) (Or.inr rfl))) (fun _ _ _ _=>(fe_pop rfl (fv 1) (fc (fe_callB g_take hr (by omega) rfl (fc (fv 2) (fc (fe_len rfl rfl TX.n_len (fc (fv 1) fa_nil)) fa_nil))) fa_nil))))) fb_nil)))) fb_nil)
 (fb_one (fs_ret (fe_call g_path_of hr (by omega) rfl (fc (fv 2) (fc (fv 3) fa_nil)))))))))) ?rd
 case len=>rintro as Q ⟨xs,n,k,rfl,_⟩;rfl
 case rd=>
  rintro as Q ⟨xs,n,k,rfl,hB,hn,hk1,hk9,q⟩
  refine ⟨xs,4,n,rfl,hB,by omega,by decide,by decide,fun way y1 w0 w1 b1=>?_⟩
  refine ⟨y1,k,n+1,rfl,b1,by omega,by omega,by omega,fun mn y2 m0 m1 b2=>?_⟩
  refine ⟨y2,9,n+1+1,rfl,b2,by omega,by decide,by decide,fun sx y3 s0 s1 b3=>?_⟩
  refine ⟨y3,9,n+1+1+1,rfl,b3,by omega,by decide,by decide,fun sy y4 t0 t1 b4=>?_⟩
  have nvs:=start_ok s0 s1 t0 t1
  obtain ⟨A0,B0,c0,rfl,_⟩:=id b4
  have ef:(1+mn).fdiv 2=(1+mn)/2:=Int.fdiv_eq_ediv_of_nonneg _ (by decide)
  have rng_len:∀m:Nat,(rngT 0 m).length=m:=fun m=>by simp [rngT]
  show if decide (way<2)=true then _ else _
  refine if_join (fun u=>∃c:Int,vl [some (U.o true [L2.T.int A0,.int B0,.int c0]),some (.p (.int k)),some (.p (vc (sx-4,1) (sy-4,1))),none,some (.p (.int way)),some (.p (.int (1+mn))),none] u=some (.int c)∧1≤c∧c≤9∧(¬way<2→c≤5)) ?_ ?_ ?_
  ·intro hw κ' J
   exact J (.p (.int (1+mn))) ⟨1+mn,rfl,by omega,by omega,fun z=>absurd (of_decide_eq_true hw) z⟩
  ·intro hw κ' J
   refine ⟨⟨by decide,by decide⟩,?_⟩
   rw [ef]
   exact J _ ⟨1+(1+mn)/2,rfl,by omega,by omega,fun _=>by omega⟩
  rintro u ⟨c,hu,c1,c9,c5⟩
  show i1 (vl [some (U.o true [L2.T.int A0,.int B0,.int c0]),some (.p (.int k)),some (.p (vc (sx-4,1) (sy-4,1))),none,some (.p (.int way)),some (.p (.int (1+mn))),none] u) _
  rw [hu]
  refine ⟨⟨by omega,by omega⟩,rfl,?_⟩
  refine compL_inv (fun i E=>∃(w0:Option U) (A B c:Int) (L:List L2.T),E=[w0,some (.o true [.int A,.int B,.int c]),some (.o false L)]∧Bx [.int A,.int B,.int c] (n+4+5*i)∧L.length=i∧∀t∈L,∃m,t=mvT m∧okMv m) ⟨none,A0,B0,c0,[],rfl,b4.mono (by omega),rfl,by simp⟩ ?_ ?_
  ·rintro i t rest E hi ⟨w0,A,B,c',L,rfl,hb,hL,hU⟩ KK
   obtain ⟨hin,rfl⟩:=rng_at hi
   refine ⟨_,_,rfl,hb,by omega,fun m ys om b' nl'=>?_⟩
   obtain ⟨A',B',c'',rfl,_⟩:=id b'
   refine ⟨by show L.length<1000;omega,KK _ ⟨_,A',B',c'',L++[mvT m],rfl,b'.mono (by omega),by rw [List.length_append,hL];rfl,fun t ht=>?_⟩⟩
   rcases List.mem_append.mp ht with ht | ht
   ·exact hU t ht
   ·rw [List.mem_singleton] at ht;exact ⟨m,ht,om⟩
  rintro E ⟨w0,A,B,cc,L,rfl,hb,hL,hU⟩
  rw [rng_len] at hL hb
  have hLc:(L.length:Int)=c:=by omega
  replace hb:=hb.mono (show n+4+5*(c.toNat:Int)≤n+50 by omega)
  refine ⟨noLs_mv hU,?_⟩
  show if decide (1<way)=true then _ else _
  by_cases hw:1<way
  ·rw [decide_eq_true hw,if_pos rfl]
   refine ⟨rfl,?_⟩
   refine compL_inv (fun i E=>∃(w0:Option U) (M:List L2.T),E=[w0,some (.o false M)]∧M.length=i∧∀t∈M,∃m,t=mvT m∧okMv m) ⟨none,[],rfl,rfl,by simp⟩ ?_ ?_
   ·rintro i t rest E hi ⟨w0,M,rfl,hM,hV⟩ KK
    obtain ⟨m,rfl,om⟩:=hU t (List.mem_of_getElem? hi)
    have hlt:=(List.getElem?_eq_some_iff.mp hi).1
    refine ⟨m,rfl,om,by show M.length<1000;omega,KK _ ⟨_,M++[mvT (mvB m)],rfl,by rw [List.length_append,hM];rfl,fun t ht=>?_⟩⟩
    rcases List.mem_append.mp ht with ht | ht
    ·exact hV t ht
    ·rw [List.mem_singleton] at ht;exact ⟨mvB m,ht,om.back⟩
   rintro E ⟨w0,M,rfl,hM,hV⟩
   refine ⟨noLs_mv hV,by show L.length+M.length≤1000;omega,?_⟩
   have hW:∀t∈L++M,∃m,t=mvT m∧okMv m:=fun t ht=>(List.mem_append.mp ht).elim (hU t) (hV t)
   have hN:(L++M).length≤10:=by rw [List.length_append];have:=c5 (by omega);omega
   have hN1:1≤(L++M).length:=by rw [List.length_append];omega
   by_cases h2:way=2
   ·refine .inl ?_
    refine ⟨Nat.zero_le _,?_⟩
    show if (way==2)=true then _ else _
    rw [if_pos (by simpa using h2)]
    generalize L++M=W at hW hN hN1 ⊢
    refine ⟨⟨by omega,by omega⟩,rfl,?_⟩
    refine compL_inv (fun i E=>∃(w0:Option U) (A B c:Int) (Lf R:List L2.T),E=[w0,some (.o true Lf),some (.o true [.int A,.int B,.int c]),some (.o false R)]∧Bx [.int A,.int B,.int c] (n+50+i)∧Lf.length+i=W.length∧R.length=i∧(∀t∈Lf,∃m,t=mvT m∧okMv m)∧∀t∈R,∃m,t=mvT m∧okMv m) ⟨none,A,B,cc,W,[],rfl,by simpa using hb,rfl,rfl,hW,by simp⟩ ?_ ?_
    ·rintro i t rest E hi ⟨w0,A,B,c',Lf,R,rfl,hb,hl,hR,hU,hV⟩ KK
     obtain ⟨hin,rfl⟩:=rng_at hi
     rw [Int.toNat_natCast] at hin
     refine ⟨_,(Lf.length:Int),_,rfl,hb,by omega,by omega,by omega,fun r ys r0 r1 b'=>?_⟩
     obtain ⟨A',B',c'',rfl,_⟩:=id b'
     have hr:r.toNat<Lf.length:=by omega
     refine ⟨r0,by show Lf.length≤1000;omega,?_⟩
     show o1 (Lf[r.toNat]?) _
     rw [List.getElem?_eq_getElem hr]
     have he:(Lf.eraseIdx r.toNat).length+1=Lf.length:=by rw [List.length_eraseIdx_of_lt hr];omega
     refine ⟨by show R.length<1000;omega,KK _ ⟨_,A',B',c'',Lf.eraseIdx r.toNat,R++[Lf[r.toNat]],rfl,b'.mono (by omega),by omega,by rw [List.length_append,hR];rfl,fun t ht=>hU t (List.mem_of_mem_eraseIdx ht),fun t ht=>?_⟩⟩
     rcases List.mem_append.mp ht with ht | ht
     ·exact hV t ht
     ·rw [List.mem_singleton] at ht;rw [ht];exact hU _ (List.getElem_mem hr)
    rintro E ⟨w0,A,B,c',Lf,R,rfl,hb,hl,hR,hU,hV⟩
    rw [Int.toNat_natCast,rng_len] at hl hR hb
    obtain rfl:Lf=[]:=List.eq_nil_of_length_eq_zero (by omega)
    refine ⟨noLs_mv hV,?_⟩
    obtain ⟨ms,rfl,om⟩:=ms_of hV
    rw [List.length_map] at hR
    exact ⟨_,_,ms,rfl,nvs,om,by intro z;rw [z] at hR;simp at hR;omega,by omega,fun ps p1 p2 p3=>⟨noL_path _ _ ps (noLs_pcs ps),q _ _ ps _ nvs p1 p2 p3 (hb.mono (by omega)) rfl⟩⟩
   ·refine .inr ?_
    refine ⟨Nat.zero_le _,?_⟩
    show if (way==2)=true then _ else _
    rw [if_neg (by simpa using h2)]
    obtain ⟨ms,em,om⟩:=ms_of hW
    rw [em] at hN hN1 ⊢
    rw [List.length_map] at hN hN1
    exact ⟨_,_,ms,rfl,nvs,om,by intro z;rw [z] at hN1;simp at hN1,by omega,fun ps p1 p2 p3=>⟨noL_path _ _ ps (noLs_pcs ps),q _ _ ps _ nvs p1 p2 p3 (hb.mono (by omega)) rfl⟩⟩
  ·rw [decide_eq_false hw,if_neg (by decide)]
   obtain ⟨ms,rfl,om⟩:=ms_of hU
   rw [List.length_map] at hLc
   exact ⟨_,_,ms,rfl,nvs,om,by intro z;rw [z] at hLc;simp at hLc;omega,by omega,fun ps p1 p2 p3=>⟨noL_path _ _ ps (noLs_pcs ps),q _ _ ps _ nvs p1 p2 p3 (hb.mono (by omega)) rfl⟩⟩
end
end My
set_option Elab.async false
set_option linter.all false
set_option maxRecDepth 100000
set_option maxHeartbeats 4000000
namespace My
open PySem L2 PyProof.Rows
section
variable {P:Program} {w:World} {K:PySem.W.Frag} {mg:Str→Option Value} {base:Heap}
def tFrBy:SpT:=fun as Q=>∃(xs:List L2.T) (n:Int),as=[.b xs]∧Bx xs n∧n≤900000∧∀p ys,Nrm p→sz p≤20→Bx ys (n+4)→noLs ys=true→Q (.v (fr p)) ys
abbrev s_fraction_by:Stmt:=top 60
theorem sc_fraction_by:FnScope ["_law_box","_law_way","_law_hand"] ["_law_box"] (defScope s_fraction_by):=⟨rfl,rfl,rfl,by decide +kernel,rfl,by decide +kernel,by decide +kernel⟩
theorem ok_fraction_by {f:Addr} {fd:FuncData} (F:Fun K "_law_fraction_by" "_law_fraction_by" s_fraction_by f fd) (TX:Txt mg) (g_take:Fn P w K mg base 1 "_law_take" ["_law_box","_law_many"] (spOf K tTake)) (g_lowest:Fn P w K mg base 1 "_law_lowest" ["_law_n","_law_d"] (spOf K tLow))   : FnOk P w K mg base CX0 2 f fd ["_law_box"] (spOf K tFrBy):=by
 refine F.okT sc_fraction_by ?len (fun cdv A outer s H E hr=>(fb_cons (fs_par (i:=1) (j:=2) rfl sc_fraction_by.nd rfl rfl (by decide) rfl rfl (fc (fe_callB g_take hr (by omega) rfl (fc (fv 0) (fc fe_int fa_nil))) (fc (fe_opI0 op_sub fe_int (fe_opI op_mulA fe_int (fe_callB g_take hr (by omega) rfl (fc (fv 0) (fc fe_int fa_nil))))) fa_nil)) rfl)
 (fb_cons (fs_if (ft_cp op_lt (fv 1) fe_int (nomark _)) (fb_one (fs_ret (fe_tup (fc (fe_opI op_mulA (fe_opI op_mulA (fv 2) (fe_callB g_take hr (by omega) rfl (fc (fv 0) (fc fe_int fa_nil)))) (fv 1)) (fc fe_int fa_nil))))) fb_nil)
 (fb_cons (fs_if (ft_eq rfl hr (fv 1) fe_int (nomark _)) (fb_one (fs_ret (fe_call g_lowest hr (by omega) rfl (fc (fe_opI op_mulA (fv 2) (fe_callB g_take hr (by omega) rfl (fc (fv 0) (fc fe_int fa_nil)))) (fc (fe_opI0 op_add fe_int (fe_callB g_take hr (by omega) rfl (fc (fv 0) (fc fe_int fa_nil)))) fa_nil))))) fb_nil)
 (fb_cons (fs_if (ft_eq rfl hr (fv 1) fe_int (nomark _)) (fb_one (fs_ret (fe_call g_lowest hr (by omega) rfl (fc (fe_opI op_mulA (fv 2) fe_int) (fc (fe_opI0 op_sub fe_int (fe_callB g_take hr (by omega) rfl (fc (fv 0) (fc fe_int fa_nil)))) fa_nil))))) fb_nil)
 (fb_one (fs_ret (fe_call g_lowest hr (by omega) rfl (fc (fe_opI op_mulA (fv 2) (fe_callB g_take hr (by omega) rfl (fc (fv 0) (fc fe_int fa_nil)))) (fc (fe_opI0 op_add fe_int (fe_callB g_take hr (by omega) rfl (fc (fv 0) (fc (fe_ix rfl (fe_lst (fc fe_int (fc fe_int fa_nil))) (fe_opI0 op_sub (fv 1) fe_int) (fun _ _=>rfl)) fa_nil)))) fa_nil)))))))))) ?rd
 case len=>rintro as Q ⟨xs,n,rfl,_⟩;rfl
 case rd=>
  rintro as Q ⟨xs,n,rfl,hB,hn,q⟩
  refine ⟨xs,6,n,rfl,hB,by omega,by decide,by decide,fun way y1 w0 w1 b1=>?_⟩
  refine ⟨y1,2,n+1,rfl,b1,by omega,by decide,by decide,fun hd y2 h0 h1 b2=>?_⟩
  refine ⟨mulL (by decide),?_⟩
  obtain ⟨g,hg⟩:∃g:Int,g=1-2*hd:=⟨_,rfl⟩
  have g1:g.natAbs≤1:=by omega
  subst hg
  have small:∀{m:Int} {e:Nat},m.natAbs<2^14→((1-2*hd)*m).natAbs<2^15:=fun {m e} h=>by
   rw [Int.natAbs_mul]
   calc (1-2*hd).natAbs*m.natAbs≤1*m.natAbs:=Nat.mul_le_mul_right _ g1
    _<2^15:=by rw [Nat.one_mul];exact Nat.lt_of_lt_of_le h (by decide)
  show if decide (way<2)=true then _ else _
  by_cases c1:way<2
  ·rw [decide_eq_true c1,if_pos rfl]
   refine ⟨y2,12,n+1+1,rfl,b2,by omega,by decide,by decide,fun a y3 a0 a1 b3=>?_⟩
   have b3':=b3
   obtain ⟨A0,B0,c0,rfl,_⟩:=b3
   refine ⟨mulL (by omega),mulL (by rw [Int.natAbs_mul];have:=Nat.mul_le_mul_right a.natAbs g1;omega),rfl,q ((1-2*hd)*a*way,1) _ (nrm_int _) (sz_le ?_ (show (1:Int).natAbs<2^20 by decide) (by decide)) (b3'.mono (by omega)) rfl⟩
   show ((1-2*hd)*a*way).natAbs<2^20
   rw [Int.natAbs_mul,Int.natAbs_mul]
   have h1:=Nat.mul_le_mul g1 (show a.natAbs≤12 by omega)
   have h2:=Nat.mul_le_mul h1 (show way.natAbs≤2 by omega)
   omega
  ·rw [decide_eq_false c1,if_neg (by decide)]
   refine ⟨Nat.zero_le _,?_⟩
   show if (way==2)=true then _ else _
   have fin:∀(m d:Int) (ys:List L2.T),m.natAbs<2^14→0<d→d.natAbs<2^15→Bx ys (n+4)→noLs ys=true→((d≠0)∧d.natAbs<2^8000)∧Q (.v (fr (low ((1-2*hd)*m) d))) ys:=fun m d ys hm hd0 hd hb hy=>
    ⟨⟨by omega,pow8 hd (by decide)⟩,q _ _ (low_nrm (by omega)) (Nat.le_trans (sz_low (e:=15) (by omega) (small (e:=0) hm) hd (by decide)) (by decide)) hb hy⟩
   by_cases c2:way=2
   ·rw [if_pos (by simpa using c2)]
    refine ⟨y2,20,n+1+1,rfl,b2,by omega,by decide,by decide,fun a y3 a0 a1 b3=>?_⟩
    refine ⟨mulL (by omega),y3,12,n+1+1+1,rfl,b3,by omega,by decide,by decide,fun d y4 d0 d1 b4=>?_⟩
    have b4':=b4
    obtain ⟨A0,B0,c0,rfl,_⟩:=b4
    obtain ⟨⟨f1,f2⟩,f3⟩:=fin a (1+d) [.int A0,.int B0,.int c0] (by omega) (by omega) (by omega) (b4'.mono (by omega)) rfl
    exact ⟨_,_,rfl,f1,f2,rfl,f3⟩
   ·rw [if_neg (by simpa using c2)]
    refine ⟨Nat.zero_le _,?_⟩
    show if (way==3)=true then _ else _
    by_cases c3:way=3
    ·rw [if_pos (by simpa using c3)]
     refine ⟨mulL (by omega),y2,3,n+1+1,rfl,b2,by omega,by decide,by decide,fun d y3 d0 d1 b3=>?_⟩
     have b3':=b3
     obtain ⟨A0,B0,c0,rfl,_⟩:=b3
     obtain ⟨⟨f1,f2⟩,f3⟩:=fin 9999 (999-d) [.int A0,.int B0,.int c0] (by decide) (by omega) (by omega) (b3'.mono (by omega)) rfl
     exact ⟨_,_,rfl,f1,f2,rfl,f3⟩
    ·rw [if_neg (by simpa using c3)]
     refine ⟨y2,10000,n+1+1,rfl,b2,by omega,by decide,by decide,fun a y3 a0 a1 b3=>?_⟩
     obtain ⟨m,hm,m0,m1⟩:∃m:Int,atI [L2.T.int 65,.int 999] (way-4)=some (.int m)∧1≤m∧m≤999:=by
      have:way=4∨way=5:=by omega
      rcases this with rfl | rfl
      ·exact ⟨65,rfl,by decide,by decide⟩
      ·exact ⟨999,rfl,by decide,by decide⟩
     refine ⟨mulL (by omega),?_⟩
     show o1 (atI [L2.T.int 65,.int 999] (way-4)) _
     rw [hm]
     refine ⟨y3,m,n+1+1+1,rfl,b3,by omega,by omega,by omega,fun d y4 d0 d1 b4=>?_⟩
     have b4':=b4
     obtain ⟨A0,B0,c0,rfl,_⟩:=b4
     obtain ⟨⟨f1,f2⟩,f3⟩:=fin a (1+d) [.int A0,.int B0,.int c0] (by omega) (by omega) (by omega) (b4'.mono (by omega)) rfl
     exact ⟨_,_,rfl,f1,f2,rfl,f3⟩
end
end My
set_option Elab.async false
set_option linter.all false
set_option maxRecDepth 100000
set_option maxHeartbeats 4000000
namespace My
open PySem L2 PyProof.Rows
section
variable {P:Program} {w:World} {K:PySem.W.Frag} {mg:Str→Option Value} {base:Heap}
abbrev s_fraction_from:Stmt:=top 34
theorem sc_fraction_from:FnScope ["text","n","found","top","slash","bottom"] ["text"] (defScope s_fraction_from):=⟨rfl,rfl,rfl,by decide +kernel,rfl,by decide +kernel,by decide +kernel⟩
def tFromG (CN:Addr):SpG:=fun ts Q W=>∃x:Str,ts=[.str x]∧x.length≤500000∧(∀n d,fracIn (sg x)=some (n,d)→Q (fT n d))∧(fracIn (sg x)=none→W CN)
theorem bdy_len (cs:List Nat):(bdy cs).length≤cs.length:=by unfold bdy;split<;>simp
theorem fst_len (b:List Nat):(fstP b).length≤b.length:=by
 have e:=congrArg List.length (dec_ex b).2
 rw [List.length_append] at e
 omega
theorem snd_len {b c:List Nat} (h:sndP b=some c):c.length≤b.length:=by
 have e:=congrArg List.length (dec_ex b).2
 rw [h,List.length_append] at e
 simp [tailOf] at e
 omega
theorem dig_small {n:Nat} (h:n<10^60):(dig n).length≤5000:=Nat.le_trans (dig_len (by decide) h) (by decide)
theorem ok_fraction_from {f:Addr} {fd:FuncData} {C_BadNumber:Addr} (F:Fun K "fraction_from" "fraction_from" s_fraction_from f fd) (TX:Txt mg) (g_is_plain:Fn P w K mg base 1 "is_plain" ["text"] (spOf K tPlain)) (g_is_fraction:Fn P w K mg base 2 "is_fraction" ["thing"] (spOf K tIsFr)) (g_fraction_text:Fn P w K mg base 2 "fraction_text" ["one"] (spOf K tFrText)) (hx_BadNumber:xclsIn K C_BadNumber none=true) (hm_BadNumber:mg "BadNumber" = some (.ref C_BadNumber)):FnOk P w K mg base (CXh P w) 3 f fd ["text"] (spG K (tFromG C_BadNumber)):=by
 refine F.okG sc_fraction_from ?len (fun W cdv A outer s H E hr hW=>(fb_cons (fs_asg (fe_partition (fe_removeprefix (fv 0) (fc fe_str fa_nil)) (fc fe_str fa_nil)) (fg_tup (n:=3) rfl rfl (fgs_cons (fg_name (i:=3) sc_fraction_from.nd rfl (Or.inl rfl)) (fgs_cons (fg_name (i:=4) sc_fraction_from.nd rfl (Or.inl rfl)) (fgs_cons (fg_name (i:=5) sc_fraction_from.nd rfl (Or.inl rfl)) fgs_nil)))))
 (fb_cons (fs_if (ft_w (fw_or (ft_not (ft_val (fe_call g_is_plain hr (by omega) rfl (fc (fv 3) fa_nil)))) (fw_or1 (ft_w (fw_and (ft_eq rfl hr (fv 4) fe_str (nomark _)) (fw_and1 (ft_not (ft_val (fe_call g_is_plain hr (by omega) rfl (fc (fv 5) fa_nil)))))))))) (fb_one (fs_raiseH (hW C_BadNumber) hx_BadNumber rfl hm_BadNumber (fc fe_str fa_nil))) fb_nil)
 (fb_cons (fs_set (i:=1) sc_fraction_from.nd rfl (Or.inl rfl) (fe_if (ft_val (fe_startswith (fv 0) (fc fe_str fa_nil))) (fe_neg (fe_intS rfl TX.n_int (fc (fv 3) fa_nil))) (fe_intS rfl TX.n_int (fc (fv 3) fa_nil))))
 (fb_cons (fs_set (i:=2) sc_fraction_from.nd rfl (Or.inl rfl) (fe_tup (fc (fv 1) (fc (fe_if (ft_eq rfl hr (fv 4) fe_str (nomark _)) (fe_intS rfl TX.n_int (fc (fv 5) fa_nil)) fe_int) fa_nil))))
 (fb_cons (fs_if (ft_w (fw_or (ft_not (ft_val (fe_call g_is_fraction hr (by omega) rfl (fc (fv 2) fa_nil)))) (fw_or1 (ft_ne rfl hr (fe_call g_fraction_text hr (by omega) rfl (fc (fv 2) fa_nil)) (fv 0) (nomark _))))) (fb_one (fs_raiseH (hW C_BadNumber) hx_BadNumber rfl hm_BadNumber (fc fe_str fa_nil))) fb_nil)
 (fb_one (fs_ret (fv 2))))))))) ?rd
 case len=>rintro ts Q W ⟨x,rfl,_⟩;rfl
 case rd=>
  rintro ts Q W ⟨x,rfl,hl,q,w⟩
  refine ⟨by unfold big;omega,fun z hz=>?_⟩
  have sz:sg z=bdy (sg x):=by rw [hz,lit_minus];exact unpre1 x
  have lz:z.length≤500000:=by rw [←sg_len,sz];have:=bdy_len (sg x);rw [sg_len] at this;omega
  refine ⟨⟨by decide,by unfold big;omega⟩,fun a b c hp=>?_⟩
  obtain ⟨p1,p2,p3⟩:=part_is z
  rw [←lit_slash,hp] at p1 p2 p3
  rw [sz] at p1 p2 p3
  simp only at p1 p2 p3
  obtain ⟨d1,d2⟩:=dec_ex (bdy (sg x))
  have e0:=bdy_eq (sg x)
  rw [d2] at e0
  have la:a.length≤500000:=by
   rw [←sg_len,p1]
   have h1:=fst_len (bdy (sg x));have h2:=bdy_len (sg x);rw [sg_len] at h2;omega
  have wn:∀{z:Option (Int×Int)},core (hnd (sg x)) (fstP (bdy (sg x))) (sndP (bdy (sg x)))=z→fracIn (sg x)=z:=fun h=>h
  replace w:core (hnd (sg x)) (fstP (bdy (sg x))) (sndP (bdy (sg x)))=none→W C_BadNumber:=fun h=>w h
  refine ⟨a,rfl,by unfold big;omega,?_⟩
  show if (!(plainB (sg a)))=true then _ else _
  rw [p1]
  cases pp:plainB (fstP (bdy (sg x))) with
  | false=>
   rw [if_pos (by decide)]
   exact w (by unfold core;rw [if_pos pp])
  | true=>
   rw [if_neg (by decide)]
   have ia:PySem.intText? a=some ((PySem.NumText.digitsVal (fstP (bdy (sg x))):Nat):Int):=by
    have:=int_plain (x:=a) (by rw [p1];exact pp)
    rw [p1] at this;exact this
   have l6:a.length≤640:=by rw [←sg_len,p1];have:=(plain_len pp).1;omega
   refine ⟨Nat.zero_le _,?_⟩
   show if (b==Str.ofString "/")=true then _ else _
   have st:Txt.startswith x (Str.ofString "-")=hnd (sg x):=by rw [lit_minus];exact starts1 x 45
   cases hs:sndP (bdy (sg x)) with
   | none=>
    rw [hs] at p2
    have hb:(b==Str.ofString "/")=false:=by rw [p2];decide
    rw [hb,if_neg (by decide)]
    have hdd:(1:Int)=dOf (sndP (bdy (sg x))):=by rw [hs];rfl
    obtain ⟨k1,k2⟩:=core_prog e0 d1 pp (fun c hc=>by rw [hs] at hc;cases hc)
    show if Txt.startswith x (Str.ofString "-")=true then _ else _
    rw [st]
    cases hh:hnd (sg x) with
    | true=>
     rw [if_pos rfl]
     refine ⟨l6,?_⟩
     show o1 (PySem.intText? a) _
     rw [ia]
     refine ⟨Nat.zero_le _,?_⟩
     show if (b==Str.ofString "/")=true then _ else _
     rw [hb,if_neg (by decide)]
     have hn:(-(PySem.NumText.digitsVal (fstP (bdy (sg x))):Int))=sgn (hnd (sg x)) (PySem.NumText.digitsVal (fstP (bdy (sg x)))):=by rw [hh];rfl
     have na:((-(PySem.NumText.digitsVal (fstP (bdy (sg x))):Int)):Int).natAbs=PySem.NumText.digitsVal (fstP (bdy (sg x))):=by rw [hn,sgn_abs]
     refine ⟨(-(PySem.NumText.digitsVal (fstP (bdy (sg x))):Int)),(1:Int),rfl,fun k hk=>?_⟩
     show if (!k)=true then _ else _
     have bk:L2.Back (hnd (sg x)) (fstP (bdy (sg x))) (sg x) (sndP (bdy (sg x)))↔(k=true∧fracText (-(PySem.NumText.digitsVal (fstP (bdy (sg x))):Int)) (1:Int)=sg x):=by
      unfold L2.Back
      rw [←hn,←hdd,hk]
     cases k with
     | false=>
      rw [if_pos (by decide)]
      exact w (k2 (by rw [bk];rintro ⟨z,_⟩;cases z))
     | true=>
      rw [if_neg (by decide)]
      refine ⟨(-(PySem.NumText.digitsVal (fstP (bdy (sg x))):Int)),(1:Int),rfl,by rw [na];exact dig_small (plain_lt pp),(by decide),fun u hu=>⟨Nat.zero_le _,?_⟩⟩
      show if (!(u==x))=true then _ else _
      by_cases eu:u=x
      ·rw [if_neg (by simpa using eu)]
       refine ⟨rfl,q _ _ ?_⟩
       show core _ _ _=_
       rw [k1 (bk.mpr ⟨rfl,by rw [←hu,eu]⟩),←hn,←hdd]
      ·rw [if_pos (by simpa using eu)]
       exact w (k2 (by rw [bk];rintro ⟨_,z⟩;exact eu (sg_ext (hu.trans z))))
    | false=>
     rw [if_neg (by decide)]
     refine ⟨l6,?_⟩
     show o1 (PySem.intText? a) _
     rw [ia]
     refine ⟨Nat.zero_le _,?_⟩
     show if (b==Str.ofString "/")=true then _ else _
     rw [hb,if_neg (by decide)]
     have hn:(PySem.NumText.digitsVal (fstP (bdy (sg x))):Int)=sgn (hnd (sg x)) (PySem.NumText.digitsVal (fstP (bdy (sg x)))):=by rw [hh];rfl
     have na:((PySem.NumText.digitsVal (fstP (bdy (sg x))):Int):Int).natAbs=PySem.NumText.digitsVal (fstP (bdy (sg x))):=by rw [hn,sgn_abs]
     refine ⟨(PySem.NumText.digitsVal (fstP (bdy (sg x))):Int),(1:Int),rfl,fun k hk=>?_⟩
     show if (!k)=true then _ else _
     have bk:L2.Back (hnd (sg x)) (fstP (bdy (sg x))) (sg x) (sndP (bdy (sg x)))↔(k=true∧fracText (PySem.NumText.digitsVal (fstP (bdy (sg x))):Int) (1:Int)=sg x):=by
      unfold L2.Back
      rw [←hn,←hdd,hk]
     cases k with
     | false=>
      rw [if_pos (by decide)]
      exact w (k2 (by rw [bk];rintro ⟨z,_⟩;cases z))
     | true=>
      rw [if_neg (by decide)]
      refine ⟨(PySem.NumText.digitsVal (fstP (bdy (sg x))):Int),(1:Int),rfl,by rw [na];exact dig_small (plain_lt pp),(by decide),fun u hu=>⟨Nat.zero_le _,?_⟩⟩
      show if (!(u==x))=true then _ else _
      by_cases eu:u=x
      ·rw [if_neg (by simpa using eu)]
       refine ⟨rfl,q _ _ ?_⟩
       show core _ _ _=_
       rw [k1 (bk.mpr ⟨rfl,by rw [←hu,eu]⟩),←hn,←hdd]
      ·rw [if_pos (by simpa using eu)]
       exact w (k2 (by rw [bk];rintro ⟨_,z⟩;exact eu (sg_ext (hu.trans z))))
   | some cc=>
    rw [hs] at p2
    have hb:(b==Str.ofString "/")=true:=by rw [p2];rfl
    rw [hb,if_pos rfl]
    have pc:=p3 cc hs
    have lc:c.length≤500000:=by
     rw [←sg_len,pc]
     have h1:=snd_len hs;have h2:=bdy_len (sg x);rw [sg_len] at h2;omega
    refine ⟨c,rfl,by unfold big;omega,?_⟩
    show if (!(plainB (sg c)))=true then _ else _
    rw [pc]
    cases pq:plainB cc with
    | false=>
     rw [if_pos (by decide)]
     exact w (by rw [hs,coreS pp,if_pos (.inl pq)])
    | true=>
     rw [if_neg (by decide)]
     have ic:PySem.intText? c=some ((PySem.NumText.digitsVal cc:Nat):Int):=by
      have:=int_plain (x:=c) (by rw [pc];exact pq)
      rw [pc] at this;exact this
     have l7:c.length≤640:=by rw [←sg_len,pc];have:=(plain_len pq).1;omega
     have hdd:(PySem.NumText.digitsVal cc:Int)=dOf (sndP (bdy (sg x))):=by rw [hs];rfl
     obtain ⟨k1,k2⟩:=core_prog e0 d1 pp (fun c hc=>by rw [hs] at hc;cases hc;exact pq)
     have dl:(dig (PySem.NumText.digitsVal cc:Int).natAbs).length≤5000:=by rw [Int.natAbs_natCast];exact dig_small (plain_lt pq)
     show if Txt.startswith x (Str.ofString "-")=true then _ else _
     rw [st]
     cases hh:hnd (sg x) with
     | true=>
      rw [if_pos rfl]
      refine ⟨l6,?_⟩
      show o1 (PySem.intText? a) _
      rw [ia]
      refine ⟨Nat.zero_le _,?_⟩
      show if (b==Str.ofString "/")=true then _ else _
      rw [hb,if_pos rfl]
      refine ⟨l7,?_⟩
      show o1 (PySem.intText? c) _
      rw [ic]
      have hn:(-(PySem.NumText.digitsVal (fstP (bdy (sg x))):Int))=sgn (hnd (sg x)) (PySem.NumText.digitsVal (fstP (bdy (sg x)))):=by rw [hh];rfl
      have na:((-(PySem.NumText.digitsVal (fstP (bdy (sg x))):Int)):Int).natAbs=PySem.NumText.digitsVal (fstP (bdy (sg x))):=by rw [hn,sgn_abs]
      refine ⟨(-(PySem.NumText.digitsVal (fstP (bdy (sg x))):Int)),(PySem.NumText.digitsVal cc:Int),rfl,fun k hk=>?_⟩
      show if (!k)=true then _ else _
      have bk:L2.Back (hnd (sg x)) (fstP (bdy (sg x))) (sg x) (sndP (bdy (sg x)))↔(k=true∧fracText (-(PySem.NumText.digitsVal (fstP (bdy (sg x))):Int)) (PySem.NumText.digitsVal cc:Int)=sg x):=by
       unfold L2.Back
       rw [←hn,←hdd,hk]
      cases k with
      | false=>
       rw [if_pos (by decide)]
       exact w (k2 (by rw [bk];rintro ⟨z,_⟩;cases z))
      | true=>
       rw [if_neg (by decide)]
       refine ⟨(-(PySem.NumText.digitsVal (fstP (bdy (sg x))):Int)),(PySem.NumText.digitsVal cc:Int),rfl,by rw [na];exact dig_small (plain_lt pp),dl,fun u hu=>⟨Nat.zero_le _,?_⟩⟩
       show if (!(u==x))=true then _ else _
       by_cases eu:u=x
       ·rw [if_neg (by simpa using eu)]
        refine ⟨rfl,q _ _ ?_⟩
        show core _ _ _=_
        rw [k1 (bk.mpr ⟨rfl,by rw [←hu,eu]⟩),←hn,←hdd]
       ·rw [if_pos (by simpa using eu)]
        exact w (k2 (by rw [bk];rintro ⟨_,z⟩;exact eu (sg_ext (hu.trans z))))
     | false=>
      rw [if_neg (by decide)]
      refine ⟨l6,?_⟩
      show o1 (PySem.intText? a) _
      rw [ia]
      refine ⟨Nat.zero_le _,?_⟩
      show if (b==Str.ofString "/")=true then _ else _
      rw [hb,if_pos rfl]
      refine ⟨l7,?_⟩
      show o1 (PySem.intText? c) _
      rw [ic]
      have hn:(PySem.NumText.digitsVal (fstP (bdy (sg x))):Int)=sgn (hnd (sg x)) (PySem.NumText.digitsVal (fstP (bdy (sg x)))):=by rw [hh];rfl
      have na:((PySem.NumText.digitsVal (fstP (bdy (sg x))):Int):Int).natAbs=PySem.NumText.digitsVal (fstP (bdy (sg x))):=by rw [hn,sgn_abs]
      refine ⟨(PySem.NumText.digitsVal (fstP (bdy (sg x))):Int),(PySem.NumText.digitsVal cc:Int),rfl,fun k hk=>?_⟩
      show if (!k)=true then _ else _
      have bk:L2.Back (hnd (sg x)) (fstP (bdy (sg x))) (sg x) (sndP (bdy (sg x)))↔(k=true∧fracText (PySem.NumText.digitsVal (fstP (bdy (sg x))):Int) (PySem.NumText.digitsVal cc:Int)=sg x):=by
       unfold L2.Back
       rw [←hn,←hdd,hk]
      cases k with
      | false=>
       rw [if_pos (by decide)]
       exact w (k2 (by rw [bk];rintro ⟨z,_⟩;cases z))
      | true=>
       rw [if_neg (by decide)]
       refine ⟨(PySem.NumText.digitsVal (fstP (bdy (sg x))):Int),(PySem.NumText.digitsVal cc:Int),rfl,by rw [na];exact dig_small (plain_lt pp),dl,fun u hu=>⟨Nat.zero_le _,?_⟩⟩
       show if (!(u==x))=true then _ else _
       by_cases eu:u=x
       ·rw [if_neg (by simpa using eu)]
        refine ⟨rfl,q _ _ ?_⟩
        show core _ _ _=_
        rw [k1 (bk.mpr ⟨rfl,by rw [←hu,eu]⟩),←hn,←hdd]
       ·rw [if_pos (by simpa using eu)]
        exact w (k2 (by rw [bk];rintro ⟨_,z⟩;exact eu (sg_ext (hu.trans z))))
abbrev s_point_from:Stmt:=top 37
theorem sc_point_from:FnScope ["words"] ["words"] (defScope s_point_from):=⟨rfl,rfl,rfl,by decide +kernel,rfl,by decide +kernel,by decide +kernel⟩
def tPtG (CN CP:Addr):SpG:=fun ts Q W=>∃ws:List Str,ts=[.lst (strsT ws)]∧ws.length≤5000∧(∀x∈ws,x.length≤500000)∧(ws.length≠2→W CP)∧∀u v,ws=[u,v]→(fracIn (sg u)=none→W CN)∧∀n d,fracIn (sg u)=some (n,d)→(fracIn (sg v)=none→W CN)∧∀m e,fracIn (sg v)=some (m,e)→Q (.tup [fT n d,fT m e])
theorem ok_point_from {f:Addr} {fd:FuncData} {C_BadNumber C_BadPath:Addr} (F:Fun K "point_from" "point_from" s_point_from f fd) (TX:Txt mg) (g_fraction_from:FnH P w K mg base 3 "fraction_from" ["text"] (spG K (tFromG C_BadNumber))) (hx_BadPath:xclsIn K C_BadPath none=true) (hm_BadPath:mg "BadPath" = some (.ref C_BadPath)):FnOk P w K mg base (CXh P w) 4 f fd ["words"] (spG K (tPtG C_BadNumber C_BadPath)):=by
 refine F.okG sc_point_from ?len (fun W cdv A outer s H E hr hW=>(fb_cons (fs_if (ft_ne rfl hr (fe_len rfl rfl TX.n_len (fc (fv 0) fa_nil)) fe_int (nomark _)) (fb_one (fs_raiseH (hW C_BadPath) hx_BadPath rfl hm_BadPath (fc fe_str fa_nil))) fb_nil)
 (fb_one (fs_ret (fe_tup (fc (fe_callG rfl (raise_up hW) g_fraction_from hr (by omega) rfl (fc (fe_ix rfl (fv 0) fe_int (fun _ _=>rfl)) fa_nil)) (fc (fe_callG rfl (raise_up hW) g_fraction_from hr (by omega) rfl (fc (fe_ix rfl (fv 0) fe_int (fun _ _=>rfl)) fa_nil)) fa_nil))))))) ?rd
 case len=>rintro ts Q W ⟨x,rfl,_⟩;rfl
 case rd=>
  rintro ts Q W ⟨ws,rfl,hl,hx,w2,hq⟩
  refine ⟨Nat.zero_le _,?_⟩
  show if (!(((strsT ws).length:Int)==2))=true then _ else _
  by_cases c:ws.length=2
  ·match ws,c with
   | [u,v],_=>
    obtain ⟨q1,q2⟩:=hq u v rfl
    refine ⟨u,rfl,hx u (by simp),fun n d e=>⟨rfl,?_⟩,q1⟩
    obtain ⟨q3,q4⟩:=q2 n d e
    exact ⟨v,rfl,hx v (by simp),fun m k e=>⟨rfl,rfl,q4 m k e⟩,q3⟩
  ·have:¬((strsT ws).length:Int)=2:=by simp [strsT];omega
   rw [if_pos (by simpa using this)]
   exact w2 c
end
end My
set_option Elab.async false
set_option linter.all false
set_option maxRecDepth 100000
set_option maxHeartbeats 4000000
namespace My
open PySem L2 PyProof.Rows
section
variable {P:Program} {w:World} {K:PySem.W.Frag} {mg:Str→Option Value} {base:Heap}
def ptR (CN CP:Addr) (ws:List Str) (Q:L2.T→Prop) (W:Addr→Prop):Prop:=(ws.length≠2→W CP)∧∀u v,ws=[u,v]→(fracIn (sg u)=none→W CN)∧∀n d,fracIn (sg u)=some (n,d)→(fracIn (sg v)=none→W CN)∧∀m e,fracIn (sg v)=some (m,e)→Q (.tup [fT n d,fT m e])
def pcsR (CN CP:Addr) (Q:List L2.T→Prop) (W:Addr→Prop):Nat→List Str→List L2.T→Prop
 | 0,_,_=>False
 | _+1,[],acc=>Q acc
 | n+1,w::r,acc=>if w=Str.ofString "side" then ptR CN CP (r.take 2) (fun t=>noL t=true∧pcsR CN CP Q W n (r.drop 2) (acc++[.tup [.str (Str.ofString "side"),t]])) W
  else if w=Str.ofString "arc" then ptR CN CP ((r.drop 1).take 2) (fun m=>noL m=true∧ptR CN CP ((r.drop 3).take 2) (fun t=>noL t=true∧∀l,r.head? = some l→pcsR CN CP Q W n (r.drop 5) (acc++[.tup [.str (Str.ofString "arc"),m,t,.str l]])) W) W
  else W CP
def tPcsG (CN CP:Addr):SpG:=fun ts Q W=>∃ws:List Str,ts=[.lst (strsT ws)]∧ws.length≤900∧(∀x∈ws,x.length≤500000)∧pcsR CN CP (fun l=>noLs l=true∧Q (.tup l)) W (ws.length+1) ws []
abbrev s_pieces_from:Stmt:=top 38
theorem sc_pieces_from:FnScope ["words","pieces","at","middle","to"] ["words"] (defScope s_pieces_from):=⟨rfl,rfl,rfl,by decide +kernel,rfl,by decide +kernel,by decide +kernel⟩
theorem cut_strs (ws:List Str) (a b:Nat) (h:a≤b):cutT (strsT ws) (some (a:Int)) (some (b:Int))=strsT ((ws.drop a).take (b-a)):=by
 unfold cutT strsT
 rw [HT.sIx_nat,HT.sIx_nat,List.length_map,←List.map_drop,←List.map_take]
 congr 1
 rcases Nat.le_total a ws.length with c | c
 ·rw [Nat.min_eq_left c]
  rcases Nat.le_total b ws.length with d | d
  ·rw [Nat.min_eq_left d]
  ·rw [Nat.min_eq_right d,List.take_of_length_le (by rw [List.length_drop];omega),List.take_of_length_le (by rw [List.length_drop];omega)]
 ·rw [Nat.min_eq_right c,List.drop_eq_nil_of_le (Nat.le_refl _),List.drop_eq_nil_of_le c];simp
theorem ok_pieces_from {f:Addr} {fd:FuncData} {C_BadNumber C_BadPath:Addr} (F:Fun K "pieces_from" "pieces_from" s_pieces_from f fd) (TX:Txt mg) (g_point_from:FnH P w K mg base 4 "point_from" ["words"] (spG K (tPtG C_BadNumber C_BadPath))) (hx_BadPath:xclsIn K C_BadPath none=true) (hm_BadPath:mg "BadPath" = some (.ref C_BadPath)):FnOk P w K mg base (CXh P w) 5 f fd ["words"] (spG K (tPcsG C_BadNumber C_BadPath)):=by
 refine F.okG sc_pieces_from ?len (fun W cdv A outer s H E hr hW=>(fb_cons (fs_set (i:=1) sc_pieces_from.nd rfl (Or.inl rfl) (fe_lst fa_nil))
 (fb_cons (fs_set (i:=2) sc_pieces_from.nd rfl (Or.inl rfl) fe_int)
 (fb_cons (fs_whileL (ft_cp op_lt (fv 2) (fe_len rfl rfl TX.n_len (fc (fv 0) fa_nil)) (nomark _)) (fb_one (fs_if (ft_eq rfl hr (fe_ix rfl (fv 0) (fv 2) (fun _ _=>rfl)) fe_str (nomark _)) (fb_cons (fs_expr (fe_append rfl (fv 1) (fc (fe_tup (fc fe_str (fc (fe_callG rfl (raise_loop hW) g_point_from hr (by omega) rfl (fc (fe_sliceL rfl (fv 0) (fo_some (fe_opI0 op_add (fv 2) fe_int)) (fo_some (fe_opI0 op_add (fv 2) fe_int))) fa_nil)) fa_nil))) fa_nil)))
 (fb_one (fs_aug (i:=2) sc_pieces_from.nd rfl (Or.inl rfl) fe_int ip_add))) (fb_one (fs_if (ft_eq rfl hr (fe_ix rfl (fv 0) (fv 2) (fun _ _=>rfl)) fe_str (nomark _)) (fb_cons (fs_par (i:=3) (j:=4) rfl sc_pieces_from.nd rfl rfl (by decide) rfl rfl (fc (fe_callG rfl (raise_loop hW) g_point_from hr (by omega) rfl (fc (fe_sliceL rfl (fv 0) (fo_some (fe_opI0 op_add (fv 2) fe_int)) (fo_some (fe_opI0 op_add (fv 2) fe_int))) fa_nil)) (fc (fe_callG rfl (raise_loop hW) g_point_from hr (by omega) rfl (fc (fe_sliceL rfl (fv 0) (fo_some (fe_opI0 op_add (fv 2) fe_int)) (fo_some (fe_opI0 op_add (fv 2) fe_int))) fa_nil)) fa_nil)) rfl)
 (fb_cons (fs_expr (fe_append rfl (fv 1) (fc (fe_tup (fc fe_str (fc (fv 3) (fc (fv 4) (fc (fe_ix rfl (fv 0) (fe_opI0 op_add (fv 2) fe_int) (fun _ _=>rfl)) fa_nil))))) fa_nil)))
 (fb_one (fs_aug (i:=2) sc_pieces_from.nd rfl (Or.inl rfl) fe_int ip_add)))) (fb_one (fs_raiseL (hW C_BadPath) hx_BadPath rfl hm_BadPath (fc fe_str fa_nil))))))))
 (fb_one (fs_ret (fe_tupOf rfl rfl TX.n_tuple (fc (fv 1) fa_nil)))))))) ?rd
 case len=>rintro ts Q W ⟨x,rfl,_⟩;rfl
 case rd=>
  rintro ts Q W ⟨ws,rfl,hl,hx,hq⟩
  refine ⟨fun m E=>∃(a:Nat) (acc:List L2.T) (v3 v4:Option U),E=[some (.p (.lst (strsT ws))),some (.o false acc),some (.p (.int (a:Int))),v3,v4]∧a≤ws.length∧acc.length≤a∧pcsR C_BadNumber C_BadPath (fun l=>noLs l=true∧Q (.tup l)) W m (ws.drop a) acc,⟨ws.length+1,0,[],none,none,rfl,Nat.zero_le _,Nat.le_refl _,hq⟩,?_⟩
  rintro m E ⟨a,acc,v3,v4,rfl,ha,hacc,hp⟩
  show if decide ((a:Int)<((strsT ws).length:Int))=true then _ else _
  have ls:(strsT ws).length=ws.length:=by simp [strsT]
  have sub:∀(b k:Nat),(∀x∈(ws.drop b).take k,x.length≤500000):=fun b k x hx'=>hx x (List.mem_of_mem_drop (List.mem_of_mem_take hx'))
  have sl:∀(b k:Nat),((ws.drop b).take k).length≤5000:=fun b k=>by rw [List.length_take,List.length_drop];omega
  rcases Nat.lt_or_ge a ws.length with c | c
  ·rw [ls,decide_eq_true (by omega),if_pos rfl]
   have ed:ws.drop a=ws[a]::ws.drop (a+1):=List.drop_eq_getElem_cons c
   rw [ed] at hp
   cases m with
   | zero=>exact hp.elim
   | succ m=>
    have a0:atI (strsT ws) (a:Int)=some (.str ws[a]):=atI_nat (by unfold strsT;rw [List.getElem?_map,List.getElem?_eq_getElem c];rfl)
    rw [pcsR] at hp
    show o1 (atI (strsT ws) (a:Int)) _
    rw [a0]
    refine ⟨Nat.zero_le _,?_⟩
    show if (ws[a]==Str.ofString "side")=true then _ else _
    by_cases h1:ws[a]=Str.ofString "side"
    ·rw [if_pos (by simpa using h1)]
     rw [if_pos h1] at hp
     have ct:cutT (strsT ws) (some ((a:Int)+1)) (some ((a:Int)+3))=strsT ((ws.drop (a+1)).take 2):=by
      have:=cut_strs ws (a+1) (a+3) (by omega)
      rw [show a+3-(a+1)=2 by omega] at this
      exact this
     refine ⟨(ws.drop (a+1)).take 2,by show [L2.T.lst (cutT (strsT ws) (some ((a:Int)+1)) (some ((a:Int)+3)))]=_;rw [ct],sl _ _,sub _ _,hp.1,fun u v e=>?_⟩
     obtain ⟨q1,q2⟩:=hp.2 u v e
     refine ⟨q1,fun n d e1=>⟨(q2 n d e1).1,fun k j e2=>?_⟩⟩
     obtain ⟨nl,q3⟩:=(q2 n d e1).2 k j e2
     have l2:a+3≤ws.length:=by
      have:=congrArg List.length e
      rw [List.length_take,List.length_drop] at this
      simp at this
      omega
     rw [List.drop_drop] at q3
     refine ⟨nl,by show (acc++[_]).length≤1000;simp;omega,m,by omega,a+3,_,_,_,rfl,l2,by simp;omega,by rwa [show a+1+2=a+3 by omega] at q3⟩
    ·rw [if_neg (by simpa using h1)]
     rw [if_neg h1] at hp
     show o1 (atI (strsT ws) (a:Int)) _
     rw [a0]
     refine ⟨Nat.zero_le _,?_⟩
     show if (ws[a]==Str.ofString "arc")=true then _ else _
     by_cases h2:ws[a]=Str.ofString "arc"
     ·rw [if_pos (by simpa using h2)]
      rw [if_pos h2,List.drop_drop,List.drop_drop,List.drop_drop] at hp
      have c1:cutT (strsT ws) (some ((a:Int)+2)) (some ((a:Int)+4))=strsT ((ws.drop (a+1+1)).take 2):=by
       have:=cut_strs ws (a+2) (a+4) (by omega)
       rw [show a+4-(a+2)=2 by omega] at this
       exact this
      have c2:cutT (strsT ws) (some ((a:Int)+4)) (some ((a:Int)+6))=strsT ((ws.drop (a+1+3)).take 2):=by
       have:=cut_strs ws (a+4) (a+6) (by omega)
       rw [show a+6-(a+4)=2 by omega] at this
       exact this
      refine ⟨(ws.drop (a+1+1)).take 2,by show [L2.T.lst (cutT (strsT ws) (some ((a:Int)+2)) (some ((a:Int)+4)))]=_;rw [c1],sl _ _,sub _ _,hp.1,fun u v e=>?_⟩
      obtain ⟨q1,q2⟩:=hp.2 u v e
      refine ⟨q1,fun n d e1=>⟨(q2 n d e1).1,fun k j e2=>?_⟩⟩
      obtain ⟨nl,q3⟩:=(q2 n d e1).2 k j e2
      refine ⟨nl,(ws.drop (a+1+3)).take 2,by show [L2.T.lst (cutT (strsT ws) (some ((a:Int)+4)) (some ((a:Int)+6)))]=_;rw [c2],sl _ _,sub _ _,q3.1,fun u' v' e'=>?_⟩
      obtain ⟨q4,q5⟩:=q3.2 u' v' e'
      refine ⟨q4,fun n' d' e3=>⟨(q5 n' d' e3).1,fun k' j' e4=>?_⟩⟩
      obtain ⟨nl',q6⟩:=(q5 n' d' e3).2 k' j' e4
      have l2:a+6≤ws.length:=by
       have:=congrArg List.length e'
       rw [List.length_take,List.length_drop] at this
       simp at this
       omega
      have c1':a+1<ws.length:=by omega
      have a1:atI (strsT ws) ((a:Int)+1)=some (.str ws[a+1]):=atI_nat (j:=a+1) (by unfold strsT;rw [List.getElem?_map,List.getElem?_eq_getElem c1'];rfl)
      have q7:=q6 ws[a+1] (by rw [List.head?_drop,List.getElem?_eq_getElem c1'])
      refine ⟨nl',?_⟩
      show o1 (atI (strsT ws) ((a:Int)+1)) _
      rw [a1]
      exact ⟨by show (acc++[_]).length≤1000;simp;omega,m,by omega,a+6,_,_,_,rfl,l2,by simp;omega,by rwa [show a+1+5=a+6 by omega] at q7⟩
     ·rw [if_neg (by simpa using h2)]
      rw [if_neg h2] at hp
      exact hp
  ·rw [ls,decide_eq_false (by omega),if_neg (by decide)]
   rw [List.drop_eq_nil_of_le c] at hp
   cases m with
   | zero=>exact hp.elim
   | succ m=>exact hp
end
end My
set_option Elab.async false
set_option linter.all false
set_option maxRecDepth 100000
set_option maxHeartbeats 4000000
namespace My
open PySem L2 PyProof.Rows
section
variable {P:Program} {w:World} {K:PySem.W.Frag} {mg:Str→Option Value} {base:Heap}
theorem dig_head:∀{n:Nat},0<n→∃c r,dig n=c::r∧c≠48:=fun {n}=>by
 induction n using Nat.strongRecOn with
 | ind n ih=>
  intro h
  rcases Nat.lt_or_ge n 10 with c | c
  ·exact ⟨48+n,[],dig_lt c,by omega⟩
  ·obtain ⟨d,r,e,ne⟩:=ih (n/10) (by omega) (by omega)
   exact ⟨d,r++[48+n%10],by rw [dig_ge c,e];rfl,ne⟩
theorem dig_plain {n:Nat} (h:n<10^60):plainB (dig n)=true:=by
 have hl:=dig_len (by decide) h
 have hd:=dig_all n
 have ne:=dig_ne n
 have h4:(dig n==[48]||!((dig n).head?==some 48))=true:=by
  rcases Nat.eq_zero_or_pos n with z | z
  ·subst z;rfl
  ·obtain ⟨c,r,e,nc⟩:=dig_head z
   rw [e]
   simp [nc]
 have h3:(dig n).all isD=true:=by
  rw [List.all_eq_true]
  intro c hc
  have:=hd c hc
  unfold isD
  simp
  omega
 unfold plainB
 rw [h4,h3]
 simp [ne,hl]
theorem dig_free (n:Nat):47∉dig n:=fun h=>by have:=dig_all n 47 h;omega
theorem num_pos {n:Int} (h:0≤n):numText n=dig n.natAbs:=by unfold numText;rw [if_neg (by omega)];rfl
theorem frac_eq {n d:Int} (hd:1≤d):fracText n d=(if n<0 then [45] else [])++(dig n.natAbs++tailOf (if d=1 then none else some (dig d.natAbs))):=by
 unfold fracText
 by_cases h:d=1
 ·rw [if_pos h,if_pos h];unfold numText tailOf;simp
 ·rw [if_neg h,if_neg h,num_pos (n:=d) (by omega)];unfold numText tailOf;simp
theorem frac_back {n d:Int} (hd:1≤d) (hg:Nat.gcd n.natAbs d.natAbs=1) (a:n.natAbs<10^60) (b:d.natAbs<10^60):fracIn (fracText n d)=some (n,d):=by
 have e:=frac_eq (n:=n) hd
 have hB:∀(h:Bool) (t:List Nat),t≠[]→(∀c,t.head? = some c→c≠45)→hnd ((if h then [45] else [])++t)=h∧bdy ((if h then [45] else [])++t)=t:=fun h t ne nh=>by
  cases h with
  | true=>exact ⟨rfl,rfl⟩
  | false=>
   have hn:hnd t=false:=by
    cases t with
    | nil=>exact absurd rfl ne
    | cons c r=>have:=nh c rfl;unfold hnd;simpa using this
   refine ⟨hn,?_⟩
   show bdy t=t
   unfold bdy
   rw [hn];rfl
 have en:(if n<0 then [45] else ([]:List Nat))=(if decide (n<0)=true then [45] else []):=by by_cases c:n<0<;>simp [c]
 rw [en] at e
 obtain ⟨c0,r0,ed⟩:∃c r,dig n.natAbs=c::r:=by
  cases q:dig n.natAbs with
  | nil=>exact absurd q (dig_ne _)
  | cons c r=>exact ⟨c,r,rfl⟩
 have hc0:c0≠45:=by have:=dig_all n.natAbs c0 (by rw [ed];simp);omega
 obtain ⟨h1,h2⟩:=hB (decide (n<0)) (dig n.natAbs++tailOf (if d=1 then none else some (dig d.natAbs))) (by rw [ed];simp) (fun c hc=>by rw [ed] at hc;simp at hc;omega)
 unfold fracIn
 rw [e,h1,h2]
 have sg1:sgn (decide (n<0)) n.natAbs=n:=by unfold sgn;by_cases c:n<0<;>simp [c]<;>omega
 by_cases hd1:d=1
 ·rw [if_pos hd1]
  have e0:dig n.natAbs++tailOf none=dig n.natAbs:=by simp [tailOf]
  rw [e0]
  obtain ⟨f1,f2⟩:=dec_none (dig_free n.natAbs)
  rw [f1,f2,coreN (dig_plain a),dig_val,if_neg (by rintro ⟨z1,z2⟩;have:=of_decide_eq_true z1;omega),sg1,hd1]
 ·rw [if_neg hd1]
  obtain ⟨f1,f2⟩:=dec_some (b:=dig d.natAbs) (dig_free n.natAbs)
  have e0:dig n.natAbs++tailOf (some (dig d.natAbs))=dig n.natAbs++47::dig d.natAbs:=rfl
  rw [e0,f1,f2,coreS (dig_plain a),dig_val,dig_val,if_neg (by
   rintro (z | z | z)
   ·rw [dig_plain b] at z;cases z
   ·omega
   ·exact z hg),sg1]
  congr 2
  omega
def jw:List (List Nat)→List Nat
 | []=>[]
 | [w]=>w
 | w::v::r=>w++32::jw (v::r)
theorem jw_cons {w:List Nat} {r:List (List Nat)} (h:r≠[]):jw (w::r)=w++32::jw r:=by
 cases r with
 | nil=>exact absurd rfl h
 | cons v r=>rfl
theorem jw_app {a b:List (List Nat)} (ha:a≠[]) (hb:b≠[]):jw (a++b)=jw a++32::jw b:=by
 induction a with
 | nil=>exact absurd rfl ha
 | cons w r ih=>
  cases r with
  | nil=>exact jw_cons hb
  | cons v r=>
   show w++32::jw (v::r++b)=(w++32::jw (v::r))++32::jw b
   rw [ih (by simp)]
   simp
theorem cut_eq {a b:List Nat} {x y:List Nat} (ha:32∉a) (hb:32∉b) (h:a++32::x=b++32::y):a=b∧x=y:=by
 induction a generalizing b with
 | nil=>
  cases b with
  | nil=>simp at h;exact ⟨rfl,h⟩
  | cons c b=>simp at h;exact absurd (by simp [←h.1]) hb
 | cons c a ih=>
  cases b with
  | nil=>simp at h;exact absurd (by simp [h.1]) ha
  | cons e b=>
   simp only [List.cons_append,List.cons.injEq] at h
   obtain ⟨h1,h2⟩:=ih (fun z=>ha (List.mem_cons_of_mem _ z)) (fun z=>hb (List.mem_cons_of_mem _ z)) h.2
   exact ⟨by rw [h.1,h1],h2⟩
theorem jw_inj:∀{a b:List (List Nat)},a≠[]→b≠[]→(∀w∈a,32∉w)→(∀w∈b,32∉w)→jw a=jw b→a=b
 | [],_,ha,_,_,_,_=>absurd rfl ha
 | _,[],_,hb,_,_,_=>absurd rfl hb
 | [w],[v],_,_,_,_,h=>by rw [show w=v from h]
 | [w],v::u::r,_,_,fa,_,h=>by
  have h:w=v++32::jw (u::r):=h
  exact absurd (by rw [h];simp) (fa w (by simp))
 | w::u::r,[v],_,_,_,fb,h=>by
  have h:w++32::jw (u::r)=v:=h
  exact absurd (by rw [←h];simp) (fb v (by simp))
 | w::u::r,v::x::s,_,_,fa,fb,h=>by
  have h:w++32::jw (u::r)=v++32::jw (x::s):=h
  obtain ⟨h1,h2⟩:=cut_eq (fa w (by simp)) (fb v (by simp)) h
  rw [h1,jw_inj (by simp) (by simp) (fun y hy=>fa y (List.mem_cons_of_mem _ hy)) (fun y hy=>fb y (List.mem_cons_of_mem _ hy)) h2]
theorem join_jw:∀l:List Str,sg (Txt.join ⟨#[32]⟩ l)=jw (l.map sg):=fun l=>by
 show sg (Builtin.Str.glued ⟨#[32]⟩ l)=_
 rw [StrLaws.glued_eq_join]
 induction l with
 | nil=>rfl
 | cons a r ih=>
  cases r with
  | nil=>rfl
  | cons b r=>
   have:Str.join ⟨#[32]⟩ (a::b::r)=a++⟨#[32]⟩++Str.join ⟨#[32]⟩ (b::r):=rfl
   rw [this,sg_cat,sg_cat,ih]
   simp [sg,jw]
theorem join_sp {l:List Str} (h:(l.map sg).flatten.length+l.length≤big):JoinOk ⟨#[32]⟩ l=true:=by
 have e:∀l:List Str,(l.map (·.length)).sum=(l.map sg).flatten.length:=fun l=>by
  induction l with
  | nil=>rfl
  | cons a r ih=>rw [List.map_cons,List.sum_cons,ih,List.map_cons,List.flatten_cons,List.length_append,sg_len]
 have z:(⟨#[32]⟩:Str).length=1:=rfl
 have tl:Builtin.Str.tooLong ((l.map (·.length)).sum+l.length*(⟨#[32]⟩:Str).length)=false:=by
  unfold Builtin.Str.tooLong
  rw [e,z,Nat.mul_one]
  exact decide_eq_false (by have:=big_ok h;omega)
 unfold JoinOk
 rw [StrLaws.joinTotal,tl]
 rfl
def wd (w:List Nat):Str:=⟨w.toArray⟩
theorem sg_wd (w:List Nat):sg (wd w)=w:=sg_mk w
theorem wd_sg {x:Str} {w:List Nat} (h:sg x=w):x=wd w:=sg_ext (by rw [h,sg_wd])
theorem split_words {x:Str} {W:List (List Nat)} (hx:sg x=jw W) (hW:W≠[]) (hf:∀w∈W,32∉w):Txt.split x ⟨#[32]⟩=W.map wd:=by
 have j:=StrLaws.join_split x ⟨#[32]⟩
 have f:=StrLaws.split_free x 32
 have hn:Txt.split x ⟨#[32]⟩≠[]:=split_ne _ _
 generalize Txt.split x ⟨#[32]⟩=l at j f hn ⊢
 have e:jw (l.map sg)=jw W:=by
  rw [←hx,←join_jw]
  show sg (Builtin.Str.glued ⟨#[32]⟩ l)=_
  rw [StrLaws.glued_eq_join,j]
 have:=jw_inj (by simpa using hn) hW (fun w hw=>by obtain ⟨p,hp,rfl⟩:=List.mem_map.mp hw;exact f p hp) hf e
 rw [←this,List.map_map]
 have:∀l:List Str,l=l.map (wd∘sg):=fun l=>by
  induction l with
  | nil=>rfl
  | cons a r ih=>rw [List.map_cons,←ih];congr 1
 exact this l
def fw (p:Fr):List Nat:=fracText p.1 p.2
def pcW:Pc→List (List Nat)
 | .side x y=>[sg (Str.ofString "side"),fw x,fw y]
 | .arc m n x y l=>[sg (Str.ofString "arc"),sg (turnS l),fw m,fw n,fw x,fw y]
def pathW (a b:Fr) (ps:List Pc):List (List Nat):=sg (Str.ofString "from")::fw a::fw b::(ps.map pcW).flatten
theorem num_len {n:Int} (h:n.natAbs<10^60):(numText n).length≤61:=by
 have:=dig_len (by decide) h
 unfold numText
 rw [List.length_append]
 split<;>simp<;>omega
theorem fw_len {p:Fr} (a:p.1.natAbs<10^60) (b:p.2.natAbs<10^60):(fw p).length≤123:=by
 have:=num_len a
 have:=num_len b
 unfold fw fracText
 split
 ·omega
 ·rw [List.length_append,List.length_cons];omega
theorem num_sp (n:Int):32∉numText n:=fun h=>by
 unfold numText at h
 rcases List.mem_append.mp h with h | h
 ·split at h<;>simp at h
 ·have:=dig_all n.natAbs 32 h;omega
theorem fw_sp (p:Fr):32∉fw p:=fun h=>by
 unfold fw fracText at h
 split at h
 ·exact num_sp _ h
 ·rcases List.mem_append.mp h with h | h
  ·exact num_sp _ h
  ·rcases List.mem_cons.mp h with h | h
   ·cases h
   ·exact num_sp _ h
theorem pcW_sp:∀p:Pc,∀w∈pcW p,32∉w
 | .side x y,w,h=>by
  simp only [pcW,List.mem_cons,List.not_mem_nil,or_false] at h
  rcases h with rfl | rfl | rfl
  ·decide
  ·exact fw_sp _
  ·exact fw_sp _
 | .arc m n x y l,w,h=>by
  simp only [pcW,List.mem_cons,List.not_mem_nil,or_false] at h
  rcases h with rfl | rfl | rfl | rfl | rfl | rfl
  ·decide
  ·cases l<;>decide
  ·exact fw_sp _
  ·exact fw_sp _
  ·exact fw_sp _
  ·exact fw_sp _
theorem pathW_sp {a b:Fr} {ps:List Pc}:∀w∈pathW a b ps,32∉w:=fun w h=>by
 unfold pathW at h
 simp only [List.mem_cons] at h
 rcases h with rfl | rfl | rfl | h
 ·decide
 ·exact fw_sp _
 ·exact fw_sp _
 ·obtain ⟨l,hl,hw⟩:=List.mem_flatten.mp h
  obtain ⟨p,_,rfl⟩:=List.mem_map.mp hl
  exact pcW_sp p w hw
theorem lt60 {n:Int} {e:Nat} (h:n.natAbs<2^e) (he:e≤199):n.natAbs<10^60:=Nat.lt_of_lt_of_le (pl h he) (by decide)
theorem Nv.b60 {x y:Fr} (h:Nv x y 199):(x.1.natAbs<10^60∧x.2.natAbs<10^60)∧y.1.natAbs<10^60∧y.2.natAbs<10^60:=
 ⟨⟨lt60 (sz_n x) h.sx,lt60 (sz_d x) h.sx⟩,lt60 (sz_n y) h.sy,lt60 (sz_d y) h.sy⟩
end
end My
set_option Elab.async false
set_option linter.all false
set_option maxRecDepth 100000
set_option maxHeartbeats 4000000
namespace My
open PySem L2 PyProof.Rows
section
variable {P:Program} {w:World} {K:PySem.W.Frag} {mg:Str→Option Value} {base:Heap}
theorem len_cat {u v w:Str} (e:w=u++v):w.length=u.length+v.length:=by rw [←sg_len,e,sg_cat,List.length_append,sg_len,sg_len]
theorem dl60 {n:Nat} (h:n<10^60):(dig n).length≤5000:=Nat.le_trans (dig_len (by decide) h) (by decide)
theorem jw2 (a b:List Nat):jw [a,b]=a++32::b:=rfl
theorem sp_lit:sg (Str.ofString " ")=[32]:=by decide
theorem jw_len:∀W:List (List Nat),(jw W).length≤W.flatten.length+W.length
 | []=>by simp [jw]
 | [w]=>by simp [jw]
 | w::v::r=>by
  have:=jw_len (v::r)
  show (w++32::jw (v::r)).length≤_
  rw [List.flatten_cons,List.length_append,List.length_append,List.length_cons,List.length_cons]
  omega
def tPtT:SpT:=fun as Q=>∃x y:Fr,as=[.v (vc x y)]∧Nv x y 199∧∀t:Str,sg t=jw [fw x,fw y]→t.length≤300→Q (.v (.str t)) []
abbrev s_point_text:Stmt:=top 32
theorem sc_point_text:FnScope ["point"] ["point"] (defScope s_point_text):=⟨rfl,rfl,rfl,by decide +kernel,rfl,by decide +kernel,by decide +kernel⟩
theorem ok_point_text {f:Addr} {fd:FuncData} (F:Fun K "point_text" "point_text" s_point_text f fd) (TX:Txt mg) (g_fraction_text:Fn P w K mg base 2 "fraction_text" ["one"] (spOf K tFrText))   : FnOk P w K mg base CX0 3 f fd ["point"] (spOf K tPtT):=by
 refine F.okT sc_point_text ?len (fun cdv A outer s H E hr=>(fb_one (fs_ret (fe_catS (fe_catS (fe_call g_fraction_text hr (by omega) rfl (fc (fe_ix rfl (fv 0) fe_int (fun _ _=>rfl)) fa_nil)) fe_str) (fe_call g_fraction_text hr (by omega) rfl (fc (fe_ix rfl (fv 0) fe_int (fun _ _=>rfl)) fa_nil)))))) ?rd
 case len=>rintro as Q ⟨x,y,rfl,_⟩;rfl
 case rd=>
  rintro as Q ⟨x,y,rfl,h,q⟩
  obtain ⟨⟨a1,a2⟩,b1,b2⟩:=h.b60
  refine ⟨x.1,x.2,rfl,dl60 a1,dl60 a2,fun u hu=>?_⟩
  have lu:u.length≤123:=by rw [←sg_len,hu];exact fw_len a1 a2
  refine ⟨by show u.length+1≤big;unfold big;omega,fun v hv=>?_⟩
  have lv:=len_cat hv
  have l1:(Str.ofString " ").length=1:=rfl
  refine ⟨y.1,y.2,rfl,dl60 b1,dl60 b2,fun w hw=>?_⟩
  have lw:w.length≤123:=by rw [←sg_len,hw];exact fw_len b1 b2
  refine ⟨by unfold big;omega,fun t ht=>?_⟩
  have lt:=len_cat ht
  refine ⟨rfl,q t ?_ (by omega)⟩
  rw [ht,sg_cat,hv,sg_cat,hu,hw,sp_lit,jw2]
  show fw x++[32]++fw y=_
  simp
def nvP:Pc→Prop
 | .side x y=>Nv x y 199
 | .arc m n x y _=>Nv m n 199∧Nv x y 199
theorem pcW_ne:∀p:Pc,pcW p≠[]
 | .side _ _=>by simp [pcW]
 | .arc _ _ _ _ _=>by simp [pcW]
theorem side_lit:sg (Str.ofString "side ")=sg (Str.ofString "side")++[32]:=by decide
theorem arc_lit:sg (Str.ofString "arc ")=sg (Str.ofString "arc")++[32]:=by decide
theorem turn_len (l:Bool):(turnS l).length≤5:=by cases l<;>decide
def tPcT:SpT:=fun as Q=>∃p:Pc,as=[.v (pcT p)]∧nvP p∧∀t:Str,sg t=jw (pcW p)→t.length≤700→Q (.v (.str t)) []
abbrev s_piece_text:Stmt:=top 35
theorem sc_piece_text:FnScope ["piece"] ["piece"] (defScope s_piece_text):=⟨rfl,rfl,rfl,by decide +kernel,rfl,by decide +kernel,by decide +kernel⟩
theorem ok_piece_text {f:Addr} {fd:FuncData} (F:Fun K "piece_text" "piece_text" s_piece_text f fd) (TX:Txt mg) (g_is_side:Fn P w K mg base 1 "is_side" ["piece"] (spOf K tIsSide)) (g_point_text:Fn P w K mg base 3 "point_text" ["point"] (spOf K tPtT))   : FnOk P w K mg base CX0 4 f fd ["piece"] (spOf K tPcT):=by
 refine F.okT sc_piece_text ?len (fun cdv A outer s H E hr=>(fb_cons (fs_if (ft_val (fe_call g_is_side hr (by omega) rfl (fc (fv 0) fa_nil))) (fb_one (fs_ret (fe_catS fe_str (fe_call g_point_text hr (by omega) rfl (fc (fe_ix rfl (fv 0) fe_int (fun _ _=>rfl)) fa_nil))))) fb_nil)
 (fb_one (fs_ret (fe_catS (fe_catS (fe_catS (fe_catS (fe_catS fe_str (fe_ix rfl (fv 0) fe_int (fun _ _=>rfl))) fe_str) (fe_call g_point_text hr (by omega) rfl (fc (fe_ix rfl (fv 0) fe_int (fun _ _=>rfl)) fa_nil))) fe_str) (fe_call g_point_text hr (by omega) rfl (fc (fe_ix rfl (fv 0) fe_int (fun _ _=>rfl)) fa_nil))))))) ?rd
 case len=>rintro as Q ⟨p,rfl,_⟩;rfl
 case rd=>
  rintro as Q ⟨p,rfl,h,q⟩
  refine ⟨p,rfl,?_⟩
  cases p with
  | side x y=>
   refine ⟨x,y,rfl,h,fun u hu lu=>⟨by show (Str.ofString "side ").length+u.length≤big;have:(Str.ofString "side ").length=5:=rfl;unfold big;omega,fun t ht=>⟨rfl,q t ?_ ?_⟩⟩⟩
   ·rw [ht,sg_cat,hu,side_lit]
    show sg (Str.ofString "side")++[32]++(fw x++32::fw y)=sg (Str.ofString "side")++32::(fw x++32::fw y)
    simp
   ·have:=len_cat ht
    have:(Str.ofString "side ").length=5:=rfl
    omega
  | arc m n x y l=>
   have lt:=turn_len l
   have l4:(Str.ofString "arc ").length=4:=rfl
   have l1:(Str.ofString " ").length=1:=rfl
   refine ⟨by unfold big;omega,fun u1 e1=>?_⟩
   have g1:=len_cat e1
   refine ⟨by unfold big;omega,fun u2 e2=>?_⟩
   have g2:=len_cat e2
   refine ⟨m,n,rfl,h.1,fun u3 h3 b3=>?_⟩
   refine ⟨by unfold big;omega,fun u4 e4=>?_⟩
   have g4:=len_cat e4
   refine ⟨by unfold big;omega,fun u5 e5=>?_⟩
   have g5:=len_cat e5
   refine ⟨x,y,rfl,h.2,fun u6 h6 b6=>?_⟩
   refine ⟨by unfold big;omega,fun t ht=>?_⟩
   have g7:=len_cat ht
   refine ⟨rfl,q t ?_ (by omega)⟩
   rw [ht,sg_cat,e5,sg_cat,e4,sg_cat,e2,sg_cat,e1,sg_cat,h3,h6,arc_lit,sp_lit]
   show sg (Str.ofString "arc")++[32]++sg (turnS l)++[32]++(fw m++32::fw n)++[32]++(fw x++32::fw y)=sg (Str.ofString "arc")++32::(sg (turnS l)++32::(fw m++32::(fw n++32::(fw x++32::fw y))))
   simp
theorem jw_jw:∀{Bs:List (List (List Nat))},(∀B∈Bs,B≠[])→jw (Bs.map jw)=jw Bs.flatten
 | [],_=>rfl
 | [B],_=>by simp [jw]
 | B::C::r,h=>by
  have hB:=h B (by simp)
  have hC:=h C (by simp)
  have ih:=jw_jw (Bs:=C::r) fun X hX=>h X (List.mem_cons_of_mem _ hX)
  show jw B++32::jw ((C::r).map jw)=_
  rw [ih]
  show _=jw (B++(C::r).flatten)
  rw [jw_app hB (by rw [List.flatten_cons];intro z;exact hC (List.append_eq_nil_iff.mp z).1)]
theorem pathW_eq (a b:Fr) (ps:List Pc):pathW a b ps=([sg (Str.ofString "from"),fw a,fw b]::ps.map pcW).flatten:=rfl
theorem from_lit:sg (Str.ofString "from ")=sg (Str.ofString "from")++[32]:=by decide
def tPathT:SpT:=fun as Q=>∃(a b:Fr) (ps:List Pc),as=[.v (pathT a b ps)]∧Nv a b 199∧(∀p∈ps,nvP p)∧ps.length≤10∧∀t:Str,sg t=jw (pathW a b ps)→t.length≤10000→Q (.v (.str t)) []
theorem sum_len {B:Nat}:∀{us:List Str},(∀u∈us,u.length≤B)→(us.map sg).flatten.length≤B*us.length
 | [],_=>by simp
 | u::us,h=>by
  have ih:=sum_len fun v hv=>h v (List.mem_cons_of_mem _ hv)
  have hu:=h u (by simp)
  rw [List.map_cons,List.flatten_cons,List.length_append,sg_len,List.length_cons,Nat.mul_succ]
  omega
abbrev s_path_text:Stmt:=top 36
theorem sc_path_text:FnScope ["path"] ["path"] (defScope s_path_text):=⟨rfl,rfl,rfl,by decide +kernel,rfl,by decide +kernel,by decide +kernel⟩
theorem ok_path_text {f:Addr} {fd:FuncData} (F:Fun K "path_text" "path_text" s_path_text f fd) (TX:Txt mg) (g_point_text:Fn P w K mg base 3 "point_text" ["point"] (spOf K tPtT)) (g_piece_text:Fn P w K mg base 4 "piece_text" ["piece"] (spOf K tPcT))   : FnOk P w K mg base CX0 5 f fd ["path"] (spOf K tPathT):=by
 refine F.okT sc_path_text ?len (fun cdv A outer s H E hr=>(fb_one (fs_ret (fe_join rfl fe_str (fc (fe_cat (fe_lst (fc (fe_catS fe_str (fe_call g_point_text hr (by omega) rfl (fc (fe_ix rfl (fv 0) fe_int (fun _ _=>rfl)) fa_nil))) fa_nil)) (fe_comp (N':=["piece"]) (t:=1) (cap:=[]) rfl (CompOk.of rfl) rfl (by decide) (fi_tup rfl (fe_ix rfl (fv 0) fe_int (fun _ _=>rfl))) (fun _ _ _ _=>(fg_name (i:=0) (show List.Nodup (["piece"]:List Str) by decide +kernel) rfl (Or.inl rfl) (Or.inr rfl))) (fun _ _ _ _=>(fe_call g_piece_text hr (by omega) rfl (fc (fv 0) fa_nil))))) fa_nil))))) ?rd
 case len=>rintro as Q ⟨a,b,ps,rfl,_⟩;rfl
 case rd=>
  rintro as Q ⟨a,b,ps,rfl,nv,hp,hl,q⟩
  refine ⟨a,b,rfl,nv,fun u hu lu=>⟨by show (Str.ofString "from ").length+u.length≤big;have:(Str.ofString "from ").length=5:=rfl;unfold big;omega,fun u0 h0=>?_⟩⟩
  have l0:=len_cat h0
  have l5:(Str.ofString "from ").length=5:=rfl
  have s0:sg u0=jw [sg (Str.ofString "from"),fw a,fw b]:=by
   rw [h0,sg_cat,hu,from_lit]
   show sg (Str.ofString "from")++[32]++(fw a++32::fw b)=sg (Str.ofString "from")++32::(fw a++32::fw b)
   simp
  refine ⟨rfl,?_⟩
  refine (?_:compL _ _ (ps.map pcT) _ _)
  refine compL_inv (fun i E=>∃(w0:Option U) (us:List Str),E=[w0,some (.o false (strsT us))]∧us.length=i∧us.map sg=((ps.take i).map pcW).map jw∧∀u∈us,u.length≤700) ⟨none,[],rfl,rfl,rfl,by simp⟩ ?_ ?_
  ·rintro i t rest E hi ⟨w0,us,rfl,hn,hs,hb⟩ KK
   rw [List.getElem?_map] at hi
   cases hq:ps[i]? with
   | none=>rw [hq] at hi;cases hi
   | some p=>
    rw [hq] at hi;cases hi
    have hlt:=(List.getElem?_eq_some_iff.mp hq).1
    refine ⟨p,rfl,hp p (List.mem_of_getElem? hq),fun v hv lv=>?_⟩
    refine ⟨by show (strsT us).length<1000;simp [strsT];omega,KK _ ⟨_,us++[v],by unfold strsT;rw [List.map_append];rfl,by simp [hn],?_,fun w hw=>?_⟩⟩
    ·rw [List.take_succ,hq,List.map_append,hs]
     simp [hv]
    ·rcases List.mem_append.mp hw with hw | hw
     ·exact hb w hw
     ·rw [List.mem_singleton] at hw;rw [hw];exact lv
  ·rintro E ⟨w0,us,rfl,hn,hs,hb⟩
   rw [List.length_map] at hn hs
   rw [List.take_of_length_le (Nat.le_refl _)] at hs
   have nl:∀us:List Str,noLs (strsT us)=true:=fun us=>by
    induction us with
    | nil=>rfl
    | cons u us ih=>show (true&&noLs (strsT us))=true;rw [ih];rfl
   refine ⟨nl us,by show 1+(strsT us).length≤1000;simp [strsT];omega,?_⟩
   show o1 (strsOf (strsT (u0::us))) _
   rw [strsOf_T]
   have sl:=sum_len (B:=700) hb
   have fit:((u0::us).map sg).flatten.length+(u0::us).length≤9000:=by
    rw [List.map_cons,List.flatten_cons,List.length_append,sg_len,List.length_cons]
    have:700*us.length≤700*10:=Nat.mul_le_mul_left _ (by omega)
    omega
   refine ⟨join_sp (by unfold big;omega),fun z hz=>?_⟩
   have sz:sg z=jw ((u0::us).map sg):=by rw [hz];exact join_jw _
   refine ⟨rfl,q z ?_ ?_⟩
   ·rw [sz,List.map_cons,hs,s0,pathW_eq,←List.map_cons (f:=jw),jw_jw]
    intro B hB
    rcases List.mem_cons.mp hB with rfl | hB
    ·simp
    ·obtain ⟨p,_,rfl⟩:=List.mem_map.mp hB
     exact pcW_ne p
   ·rw [←sg_len,sz]
    have:=jw_len ((u0::us).map sg)
    rw [List.length_map] at this
    omega
end
end My
set_option Elab.async false
set_option linter.all false
set_option maxRecDepth 100000
set_option maxHeartbeats 4000000
namespace My
open PySem L2 PyProof.Rows
section
variable {P:Program} {w:World} {K:PySem.W.Frag} {mg:Str→Option Value} {base:Heap}
def wS (w:List Nat):L2.T:=.str (wd w)
theorem wS_lit (x:Str):wS (sg x) = .str x:=by unfold wS;rw [←wd_sg (rfl:sg x=sg x)]
theorem strs_w (W:List (List Nat)):strsT (W.map wd)=W.map wS:=by unfold strsT;rw [List.map_map];rfl
theorem at_mid {A B C:List L2.T} {j:Nat} {t:L2.T} (h:B[j]? = some t):atI (A++(B++C)) ((A.length+j:Nat):Int)=some t:=by
 refine atI_nat ?_
 have:=(List.getElem?_eq_some_iff.mp h).1
 rw [List.getElem?_append_right (by omega),show A.length+j-A.length=j by omega,List.getElem?_append_left this]
 exact h
theorem chain_nvP {a b:Fr}:∀{ps:List Pc},chainP 199 a b ps→∀p∈ps,nvP p
 | [],_,p,h=>by simp at h
 | .side x y::ps,h,p,hp=>by
  rcases List.mem_cons.mp hp with rfl | hp
  ·exact h.1.1
  ·exact chain_nvP h.2 p hp
 | .arc m n x y l::ps,h,p,hp=>by
  rcases List.mem_cons.mp hp with rfl | hp
  ·exact ⟨h.1.1,h.1.2.1⟩
  ·exact chain_nvP h.2 p hp
theorem chain_up {e f:Nat} (k:e≤f):∀{ps:List Pc} {a b:Fr},chainP e a b ps→chainP f a b ps
 | [],_,_,_=>trivial
 | _::ps,_,_,h=>⟨h.1.up k,chain_up (ps:=ps) k h.2⟩
end
end My
set_option Elab.async false
set_option linter.all false
set_option maxRecDepth 100000
set_option maxHeartbeats 4000000
namespace My
open PySem L2 PyProof.Rows
section
variable {P:Program} {w:World} {K:PySem.W.Frag} {mg:Str→Option Value} {base:Heap}
theorem frac_wd {p:Fr} (h:Nrm p) (a:p.1.natAbs<10^60) (b:p.2.natAbs<10^60):fracIn (sg (wd (fw p)))=some (p.1,p.2):=by rw [sg_wd];exact frac_back h.d h.g a b
theorem ptR_ok {CN CP:Addr} {x y:Fr} {Q:L2.T→Prop} {W:Addr→Prop} (h:Nv x y 199) (q:Q (vc x y)):ptR CN CP [wd (fw x),wd (fw y)] Q W:=by
 obtain ⟨⟨a1,a2⟩,b1,b2⟩:=h.b60
 refine ⟨fun z=>absurd rfl z,fun u v e=>?_⟩
 cases e
 have e1:=frac_wd h.x a1 a2
 have e2:=frac_wd h.y b1 b2
 refine ⟨fun z=>(by rw [e1] at z;cases z),fun n d z=>?_⟩
 rw [e1] at z;cases z
 refine ⟨fun z=>(by rw [e2] at z;cases z),fun m e z=>?_⟩
 rw [e2] at z;cases z
 exact q
theorem wd_lit (x:Str):wd (sg x)=x:=(wd_sg rfl).symm
theorem pcs_run {CN CP:Addr} {Q:List L2.T→Prop} {W:Addr→Prop}:∀{ps:List Pc} {n:Nat} {acc:List L2.T} {tl:List Str},(∀p∈ps,nvP p)→pcsR CN CP Q W n tl (acc++ps.map pcT)→pcsR CN CP Q W (n+ps.length) ((ps.map pcW).flatten.map wd++tl) acc
 | [],n,acc,tl,_,h=>by simpa using h
 | p::ps,n,acc,tl,hp,h=>by
  have hpp:=hp p (by simp)
  have ih:=pcs_run (ps:=ps) (n:=n) (acc:=acc++[pcT p]) (tl:=tl) (fun q hq=>hp q (List.mem_cons_of_mem _ hq)) (by simpa using h)
  show pcsR CN CP Q W (n+ps.length+1) _ acc
  cases p with
  | side x y=>
   show pcsR CN CP Q W (n+ps.length+1) (wd (sg (Str.ofString "side"))::wd (fw x)::wd (fw y)::((ps.map pcW).flatten.map wd++tl)) acc
   rw [pcsR,wd_lit,if_pos rfl]
   exact ptR_ok hpp ⟨rfl,ih⟩
  | arc m k x y l=>
   show pcsR CN CP Q W (n+ps.length+1) (wd (sg (Str.ofString "arc"))::wd (sg (turnS l))::wd (fw m)::wd (fw k)::wd (fw x)::wd (fw y)::((ps.map pcW).flatten.map wd++tl)) acc
   rw [pcsR,wd_lit,if_neg (by decide),if_pos rfl]
   refine ptR_ok hpp.1 ⟨rfl,ptR_ok hpp.2 ⟨rfl,fun t ht=>?_⟩⟩
   cases ht
   rw [wd_lit]
   exact ih
def tPathG (CP:Addr):SpG:=fun ts Q W=>∃x:Str,ts=[.str x]∧x.length≤20000∧((∃a b ps,sg x=jw (pathW a b ps)∧Nv a b 199∧ps≠[]∧ps.length≤10∧chainP 199 a b ps∧Q (pathT a b ps))∨
 (W CP∧((∃ws:List (List Nat),sg x=jw ws∧ws≠[]∧ws.length≤2∧∀w∈ws,32∉w)∨∃a b ps,sg x=jw (pathW a b ps++[[]])∧Nv a b 199∧ps.length≤10∧chainP 199 a b ps)))
theorem jw_word:∀{W:List (List Nat)} {w:List Nat},w∈W→w.length≤(jw W).length
 | [v],w,h=>by rw [List.mem_singleton] at h;rw [h];exact Nat.le_refl _
 | v::u::r,w,h=>by
  show w.length≤(v++32::jw (u::r)).length
  rw [List.length_append,List.length_cons]
  rcases List.mem_cons.mp h with rfl | h
  ·omega
  ·have:=jw_word h;omega
theorem len_words:∀W:List (List Nat),W.length≤(jw W).length+1
 | []=>by simp
 | [w]=>by simp
 | w::v::r=>by
  have:=len_words (v::r)
  have e:(w++32::jw (v::r)).length=w.length+((jw (v::r)).length+1):=by rw [List.length_append];rfl
  show (v::r).length+1≤(w++32::jw (v::r)).length+1
  omega
abbrev s_path_from:Stmt:=top 39
theorem sc_path_from:FnScope ["text","words","path"] ["text"] (defScope s_path_from):=⟨rfl,rfl,rfl,by decide +kernel,rfl,by decide +kernel,by decide +kernel⟩
theorem cut_strs3 (ws:List Str):cutT (strsT ws) (some 3) none=strsT (ws.drop 3):=by
 unfold cutT strsT
 have e:HT.sIx (ws.map L2.T.str).length 0 (some 3)=min 3 ws.length:=by have:=HT.sIx_nat (ws.map L2.T.str).length 0 3;rw [List.length_map] at this ⊢;exact this
 rw [e,HT.sIx_none,List.length_map,←List.map_drop,←List.map_take]
 congr 1
 rcases Nat.le_total 3 ws.length with c | c
 ·rw [Nat.min_eq_left c,List.take_of_length_le (by rw [List.length_drop];omega)]
 ·rw [Nat.min_eq_right c,List.drop_eq_nil_of_le (Nat.le_refl _),List.drop_eq_nil_of_le c];simp
theorem ok_path_from {f:Addr} {fd:FuncData} {C_BadNumber C_BadPath:Addr} (F:Fun K "path_from" "path_from" s_path_from f fd) (TX:Txt mg) (g_point_from:FnH P w K mg base 4 "point_from" ["words"] (spG K (tPtG C_BadNumber C_BadPath))) (g_pieces_from:FnH P w K mg base 5 "pieces_from" ["words"] (spG K (tPcsG C_BadNumber C_BadPath))) (g_is_path:Fn P w K mg base 7 "is_path" ["thing"] (spOf K tIsPath)) (hx_BadPath:xclsIn K C_BadPath none=true) (hm_BadPath:mg "BadPath" = some (.ref C_BadPath)) (hm_BadNumber:mg "BadNumber" = some (.ref C_BadNumber)) (hno:PySem.W.kitCls K (.ref C_BadPath) (.ref C_BadNumber)=some false) (hbD:PySem.W.mroIn K C_BadNumber (.type "BaseException")=some true):FnOk P w K mg base (CXh P w) 8 f fd ["text"] (spG K (tPathG C_BadPath)):=by
 refine F.okG sc_path_from ?len (fun W cdv A outer s H E hr hW=>(fb_cons (fs_set (i:=1) sc_path_from.nd rfl (Or.inl rfl) (fe_split (fv 0) (fc fe_str fa_nil)))
 (fb_cons (fs_tryM fun _=>(fb_one (fs_set (i:=2) sc_path_from.nd rfl (Or.inl rfl) (fe_tup (fc (fe_callG rfl (raise_try (W:=fun C=>C=C_BadPath∧W C) (fun C h=>hW C h.2) rfl hm_BadNumber (fun C h=>by rw [h.1];exact hno) hbD) g_point_from hr (by omega) rfl (fc (fe_sliceL rfl (fv 1) (fo_some fe_int) (fo_some fe_int)) fa_nil)) (fc (fe_callG rfl (raise_try (W:=fun C=>C=C_BadPath∧W C) (fun C h=>hW C h.2) rfl hm_BadNumber (fun C h=>by rw [h.1];exact hno) hbD) g_pieces_from hr (by omega) rfl (fc (fe_sliceL rfl (fv 1) (fo_some fe_int) fo_none) fa_nil)) fa_nil))))))
 (fb_cons (fs_if (ft_w (fw_or (ft_ne rfl hr (fe_ix rfl (fv 1) fe_int (fun _ _=>rfl)) fe_str (nomark _)) (fw_or1 (ft_not (ft_val (fe_call g_is_path hr (by omega) rfl (fc (fv 2) fa_nil))))))) (fb_one (fs_raiseH (hW C_BadPath) hx_BadPath rfl hm_BadPath (fc fe_str fa_nil))) fb_nil)
 (fb_one (fs_ret (fv 2))))))) ?rd
 case len=>rintro ts Q W ⟨x,rfl,_⟩;rfl
 case rd=>
  rintro ts Q W ⟨x,rfl,hl,hc⟩
  refine ⟨⟨by decide,by unfold big;omega⟩,fun l hl'=>?_⟩
  have key:∀{V:List (List Nat)},sg x=jw V→V≠[]→(∀w∈V,32∉w)→l=V.map wd∧(∀y∈V.map wd,y.length≤500000)∧V.length≤20001:=fun {V} h1 h2 h3=>by
   refine ⟨by rw [hl'];exact split_words h1 h2 h3,fun y hy=>?_,?_⟩
   ·obtain ⟨v,hv,rfl⟩:=List.mem_map.mp hy
    have:=jw_word hv
    rw [←sg_len,sg_wd]
    rw [←h1,sg_len] at this
    omega
   ·have:=len_words V
    rw [←h1,sg_len] at this
    omega
  have c13:cutT (strsT l) (some 1) (some 3)=strsT ((l.drop 1).take 2):=cut_strs l 1 3 (by decide)
  have c3:=cut_strs3 l
  have more:∀ps:List Pc,ps.length≤((ps.map pcW).flatten.map wd).length:=fun ps=>by
   rw [List.length_map]
   clear c3 c13
   induction ps with
   | nil=>simp
   | cons p ps ih=>
    have:=List.length_pos_iff.mpr (pcW_ne p)
    rw [List.map_cons,List.flatten_cons,List.length_append,List.length_cons]
    omega
  have flat:∀{ps:List Pc},ps.length≤10→((ps.map pcW).flatten.map wd).length≤6*ps.length:=fun {ps} _=>by
   rw [List.length_map]
   clear c3 c13
   induction ps with
   | nil=>simp
   | cons p ps ih=>
    have:(pcW p).length≤6:=by cases p<;>simp [pcW]
    rw [List.map_cons,List.flatten_cons,List.length_append,List.length_cons]
    have:=ih (by simp at *;omega)
    omega
  rcases hc with ⟨a,b,ps,ht,nv,hn,hp,ch,q⟩ | ⟨w0,hc⟩
  ·obtain ⟨rfl,ky,_⟩:=key ht (by simp [pathW]) pathW_sp
   have hpp:=chain_nvP ch
   have fl:=flat hp
   have e1:(((pathW a b ps).map wd).drop 1).take 2=[wd (fw a),wd (fw b)]:=rfl
   have e2:((pathW a b ps).map wd).drop 3=(ps.map pcW).flatten.map wd:=rfl
   rw [e1] at c13
   rw [e2] at c3
   have e3:atI (strsT ((pathW a b ps).map wd)) 0=some (.str (Str.ofString "from")):=by
    rw [strs_w]
    exact at_mid (A:=[]) (B:=[wS (sg (Str.ofString "from"))]) (C:=[wS (fw a),wS (fw b)]++((ps.map pcW).flatten).map wS) (j:=0) (by show some (wS _)=_;rw [wS_lit])
   have kz:∀y∈(ps.map pcW).flatten.map wd,y.length≤500000:=fun y hy=>ky y (by rw [←e2] at hy;exact List.mem_of_mem_drop hy)
   have ka:∀y∈[wd (fw a),wd (fw b)],y.length≤500000:=fun y hy=>ky y (by rw [←e1] at hy;exact List.mem_of_mem_drop (List.mem_of_mem_take hy))
   generalize strsT ((pathW a b ps).map wd)=WW at c13 c3 e3 ⊢
   have p1:=ptR_ok (CN:=C_BadNumber) (CP:=C_BadPath) (W:=fun C=>C=C_BadPath∧W C) (Q:=fun t=>t=vc a b) nv rfl
   refine ⟨[wd (fw a),wd (fw b)],by show [L2.T.lst (cutT WW (some 1) (some 3))]=_;rw [c13],le_ok rfl,ka,p1.1,fun u v e=>?_⟩
   obtain ⟨q1,q2⟩:=p1.2 u v e
   refine ⟨q1,fun n d z1=>⟨(q2 n d z1).1,fun m k z2=>?_⟩⟩
   have qe:=(q2 n d z1).2 m k z2
   rw [qe]
   refine ⟨rfl,(ps.map pcW).flatten.map wd,by show [L2.T.lst (cutT WW (some 3) none)]=_;rw [c3],by omega,kz,?_⟩
   obtain ⟨N',hN⟩:∃N',((ps.map pcW).flatten.map wd).length+1=N'+1+ps.length:=⟨((ps.map pcW).flatten.map wd).length-ps.length,by have:=more ps;omega⟩
   rw [hN,←List.append_nil ((ps.map pcW).flatten.map wd)]
   refine pcs_run hpp ?_
   refine ⟨noLs_pcs ps,noLs_pcs ps,?_⟩
   show o1 (atI WW 0) _
   rw [e3]
   refine ⟨Nat.zero_le _,?_⟩
   refine ⟨a,b,ps,rfl,nv.up (by decide),hn,by omega,chain_up (by decide) ch,?_⟩
   exact ⟨noL_path a b ps (noLs_pcs ps),q⟩
  ·rcases hc with ⟨V,ht,hV,lV,fV⟩ | ⟨a,b,ps,ht,nv,hp,ch⟩
   ·obtain ⟨rfl,ky,_⟩:=key ht hV fV
    have ls:(((V.map wd).drop 1).take 2).length≤1:=by rw [List.length_take,List.length_drop,List.length_map];omega
    refine ⟨((V.map wd).drop 1).take 2,by show [L2.T.lst (cutT (strsT (V.map wd)) (some 1) (some 3))]=_;rw [c13],by omega,fun y hy=>ky y (List.mem_of_mem_drop (List.mem_of_mem_take hy)),fun _=>⟨rfl,w0⟩,fun u v e=>?_⟩
    rw [e] at ls
    exact absurd ls (by simp)
   ·obtain ⟨rfl,ky,_⟩:=key ht (by simp [pathW]) (fun w hw=>by
     rcases List.mem_append.mp hw with hw | hw
     ·exact pathW_sp w hw
     ·rw [List.mem_singleton] at hw;rw [hw];simp)
    have hpp:=chain_nvP ch
    have fl:=flat hp
    have e0:(pathW a b ps++[[]]).map wd=wd (sg (Str.ofString "from"))::wd (fw a)::wd (fw b)::((ps.map pcW).flatten.map wd++[wd []]):=by unfold pathW;simp
    rw [e0] at c13 c3 ky ⊢
    have e1:((wd (sg (Str.ofString "from"))::wd (fw a)::wd (fw b)::((ps.map pcW).flatten.map wd++[wd []])).drop 1).take 2=[wd (fw a),wd (fw b)]:=rfl
    have e2:(wd (sg (Str.ofString "from"))::wd (fw a)::wd (fw b)::((ps.map pcW).flatten.map wd++[wd []])).drop 3=(ps.map pcW).flatten.map wd++[wd []]:=rfl
    rw [e1] at c13
    rw [e2] at c3
    have kz:∀y∈(ps.map pcW).flatten.map wd++[wd []],y.length≤500000:=fun y hy=>ky y (by rw [←e2] at hy;exact List.mem_of_mem_drop hy)
    have ka:∀y∈[wd (fw a),wd (fw b)],y.length≤500000:=fun y hy=>ky y (by rw [←e1] at hy;exact List.mem_of_mem_drop (List.mem_of_mem_take hy))
    generalize strsT (wd (sg (Str.ofString "from"))::wd (fw a)::wd (fw b)::((ps.map pcW).flatten.map wd++[wd []]))=WW at c13 c3 ⊢
    have p1:=ptR_ok (CN:=C_BadNumber) (CP:=C_BadPath) (W:=fun C=>C=C_BadPath∧W C) (Q:=fun t=>t=vc a b) nv rfl
    refine ⟨[wd (fw a),wd (fw b)],by show [L2.T.lst (cutT WW (some 1) (some 3))]=_;rw [c13],le_ok rfl,ka,p1.1,fun u v e=>?_⟩
    obtain ⟨q1,q2⟩:=p1.2 u v e
    refine ⟨q1,fun n d z1=>⟨(q2 n d z1).1,fun m k z2=>?_⟩⟩
    have qe:=(q2 n d z1).2 m k z2
    rw [qe]
    refine ⟨rfl,(ps.map pcW).flatten.map wd++[wd []],by show [L2.T.lst (cutT WW (some 3) none)]=_;rw [c3],by rw [List.length_append];show _+1≤_;omega,kz,?_⟩
    obtain ⟨N',hN⟩:∃N',((ps.map pcW).flatten.map wd++[wd []]).length+1=N'+1+ps.length:=⟨((ps.map pcW).flatten.map wd++[wd []]).length-ps.length,by have:=more ps;rw [List.length_append];omega⟩
    rw [hN]
    refine pcs_run hpp ?_
    rw [pcsR,if_neg (by decide),if_neg (by decide)]
    exact ⟨rfl,w0⟩
end
end My
set_option Elab.async false
set_option linter.all false
set_option maxRecDepth 100000
set_option maxHeartbeats 4000000
namespace My
open PySem L2 PyProof.Rows
section
variable {P:Program} {w:World} {K:PySem.W.Frag} {mg:Str→Option Value} {base:Heap}
structure DueA (K:PySem.W.Frag) (mg:Str→Option Value) (CN CP CS D:Addr):Prop where
 mN:mg "BadNumber" = some (.ref CN)
 mP:mg "BadPath" = some (.ref CP)
 mS:mg "BadSheet" = some (.ref CS)
 mD:mg "SideError" = some (.ref D)
 clN:XCls K CN
 clP:XCls K CP
 nn:PySem.W.kitOne K (.ref CN) (.ref CN)=some true
 np:PySem.W.kitOne K (.ref CN) (.ref CP)=some false
 ns:PySem.W.kitOne K (.ref CN) (.ref CS)=some false
 pn:PySem.W.kitOne K (.ref CP) (.ref CN)=some false
 pp:PySem.W.kitOne K (.ref CP) (.ref CP)=some true
 ps:PySem.W.kitOne K (.ref CP) (.ref CS)=some false
 kN:PySem.W.kitCls K (.ref CN) (.ref D)=some true
 kP:PySem.W.kitCls K (.ref CP) (.ref D)=some true
 bD:PySem.W.mroIn K D (.type "BaseException")=some true
theorem DueA.ne {K:PySem.W.Frag} {mg:Str→Option Value} {CN CP CS D:Addr} (d:DueA K mg CN CP CS D):CP≠CN:=fun e=>by
 have h:=d.pn
 rw [e,d.nn] at h;cases h
def wdA (CN CP:Addr):Addr→Option Str:=fun C=>if C=CN then some "number" else if C=CP then some "path" else none
theorem wdA_N {CN CP:Addr}:wdA CN CP CN=some "number":=by simp [wdA]
theorem wdA_P {CN CP:Addr} (h:CP≠CN):wdA CN CP CP=some "path":=by simp [wdA,h]
def thY (wd:Addr→Option Str) (x:Addr) (n i j ie:Nat):TS:=fun D σ H=>∃C z,wd C=some z∧σ.length=n∧H x=some (ExX C x)∧σ[ie]? = some (some (.ref x))∧∀a H',(∀b o,H b=some o→H' b=some o)→D.nx ((σ.set j (some (.ref a))).set i (some (.str z))) H'
theorem hdA_ok {X:Cx} {x CN CP CS DD:Addr} {n i j ie:Nat} {sk sf se:Str} {p1 p2 p3 p4 p5 p6 p7 p8 p9 p10 p11 p12 p13 p14 p15 p16 p17 p18 p19 p20 p21 p22 p23 p24 p25 p26 p27 p28 p29 p30 p31 p32 p33 p34:Pos} {j1 j2 j3 j4 j5 j6 j7:Nat}
  (du:DueA X.K X.mg CN CP CS DD) (hN:X.N.Nodup) (hj:X.N[j]? = some sk) (lo:Loc X.env.scope sk) (ho:X.env.scope.names.lookup sk=some .local) (hi:X.N[i]? = some sf) (lf:Loc X.env.scope sf) (hf:X.env.scope.names.lookup sf=some .local) (he:X.N[ie]? = some se) (ve:Vis X.env.scope se) (vo:Vis X.env.scope sk)
  (gi:Gl X "isinstance") (ni:X.mg "isinstance" = none) (ga:Gl X "BadNumber") (gb:Gl X "BadPath") (gc:Gl X "BadSheet") (hjn:j<n) (hij:ie≠j)
  (d1:(sk==("__debug__":Str))=false) (d2:(se==("__debug__":Str))=false) (d3:(sk==("__classdict__":Str))=false) (d4:(se==("__classdict__":Str))=false)
  (b1:attributeBase (.Name sk p18) "count" X.env (eval (.Name sk p18) X.env)=eval (.Name sk p18) X.env) (b2:attributeBase (.Name sk p26) "index" X.env (eval (.Name sk p26) X.env)=eval (.Name sk p26) X.env) (l1:(p19.endLine==p21.line)=true) (l2:(p27.endLine==p29.line)=true)
  (w1:swapsWith (.List [.Call (.Name "isinstance" p2) [.Name se p3,.Name "BadNumber" p4] [] p5,.Call (.Name "isinstance" p6) [.Name se p7,.Name "BadPath" p8] [] p9,.Call (.Name "isinstance" p10) [.Name se p11,.Name "BadSheet" p12] [] p13] p14) (some (.Name sk p1)) p15.line X.env=pure false)
  (w2:swapsWith (.IfExp (.Compare (.Call (.Attribute (.Name sk p18) "count" p19) [.Constant (.bool true) j1 p20] [] p21) [.Eq] [.Constant (.int 1) j2 p22] p17) (.Subscript (.List [.Constant (.str "number") j3 p23,.Constant (.str "path") j4 p24,.Constant (.str "sheet") j5 p25] p33) (.Call (.Attribute (.Name sk p26) "index" p27) [.Constant (.bool true) j6 p28] [] p29) p30) (.Constant (.str "other") j7 p31) p32) (some (.Name sf p16)) p34.line X.env=pure false) :
  QB X [.Assign [.Name sk p1] (.List [.Call (.Name "isinstance" p2) [.Name se p3,.Name "BadNumber" p4] [] p5,.Call (.Name "isinstance" p6) [.Name se p7,.Name "BadPath" p8] [] p9,.Call (.Name "isinstance" p10) [.Name se p11,.Name "BadSheet" p12] [] p13] p14) p15,
   .Assign [.Name sf p16] (.IfExp (.Compare (.Call (.Attribute (.Name sk p18) "count" p19) [.Constant (.bool true) j1 p20] [] p21) [.Eq] [.Constant (.int 1) j2 p22] p17) (.Subscript (.List [.Constant (.str "number") j3 p23,.Constant (.str "path") j4 p24,.Constant (.str "sheet") j5 p25] p33) (.Call (.Attribute (.Name sk p26) "index" p27) [.Constant (.bool true) j6 p28] [] p29) p30) (.Constant (.str "other") j7 p31) p32) p34] (thY (wdA CN CP) x n i j ie):=by
 have glob:∀{y:Str} {a:Addr} {p:Pos},Gl X y→X.mg y=some (.ref a)→(y==("__debug__":Str))=false→QE X (.Name y p) (tC (.ref a)):=fun g m d=>⟨pe_glob g m rfl d⟩
 have one:∀{y:Str} {a:Addr} {q1 q2 q3 q4:Pos},Gl X y→X.mg y=some (.ref a)→(y==("__debug__":Str))=false→QE X (.Call (.Name "isinstance" q1) [.Name se q2,.Name y q3] [] q4) _:=fun {y a q1 q2 q3 q4} g m d=>qe_callBS (call_isX (c:=.ref a) (u:=.ref a) (fun v r=>r)) gi ni boot_isinstance (qc (qv ie he ve d2 d4) (qc (glob g m d) qa_nil)) (by decide) (by decide) rfl
 have cnt:QE X (.Call (.Attribute (.Name sk p18) "count" p19) [.Constant (.bool true) j1 p20] [] p21) (tBM X.K "list" rCountB (tVar j) (tCons (tC (.bl true)) tNil)):=⟨pe_bm PySem.F.plainAttrs_list PySem.F.slot_list_count PySem.F.type_list_count mt_countB (qv j hj vo d1 d3).h (qc qe_bl qa_nil).h b1 rfl l1 rfl rfl⟩
 have ind:QE X (.Call (.Attribute (.Name sk p26) "index" p27) [.Constant (.bool true) j6 p28] [] p29) (tBM X.K "list" rIndexB (tVar j) (tCons (tC (.bl true)) tNil)):=⟨pe_bm PySem.F.plainAttrs_list PySem.F.slot_list_index PySem.F.type_list_index mt_indexB (qv j hj vo d1 d3).h (qc qe_bl qa_nil).h b2 rfl l2 rfl rfl⟩
 refine QB.le (qb_cons (qs_set hN hj lo (qe_lst (qc (one ga du.mN (by decide)) (qc (one gb du.mP (by decide)) (qc (one gc du.mS (by decide)) qa_nil)))) w1 (.inr ho))
  (qb_one (qs_set hN hi lf (qe_ifExp (qt_cmpR op_eq cnt qe_int rfl) (qe_ix ix_list (qe_lst (qc qe_str (qc qe_str (qc qe_str qa_nil)))) ind (fun _ _=>rfl)) qe_str) w2 (.inr hf)))) fun D σ H h=>?_
 obtain ⟨C,z,hz,hl,hx,hs,k⟩:=h
 obtain ⟨a,b,m,cl,k1,k2,k3,hc,hm,hq,hzz⟩:∃(a b:Bool) (m:Nat),XCls X.K C∧PySem.W.kitOne X.K (.ref C) (.ref CN)=some a∧PySem.W.kitOne X.K (.ref C) (.ref CP)=some b∧PySem.W.kitOne X.K (.ref C) (.ref CS)=some false∧[a,b,false].countP (·==true)=1∧[a,b,false][m]? = some true∧(∀q,q<m→[a,b,false][q]? = some (!true))∧[V.str "number",V.str "path",V.str "sheet"][m]? = some (.str z):=by
  unfold wdA at hz
  split at hz
  ·rename_i e;cases hz
   rw [e]
   exact ⟨true,false,0,du.clN,du.nn,du.np,du.ns,rfl,rfl,fun q hq=>absurd hq (Nat.not_lt_zero _),rfl⟩
  ·split at hz
   ·rename_i e;cases hz
    rw [e]
    refine ⟨false,true,1,du.clP,du.pn,du.pp,du.ps,rfl,rfl,fun q hq=>?_,rfl⟩
    obtain rfl:q=0:=Nat.lt_one_iff.mp hq
    rfl
   ·cases hz
 refine ⟨.ref x,hs,x,C,a,rfl,hx,cl,k1,.ref x,hs,x,C,b,rfl,hx,cl,k2,.ref x,hs,x,C,false,rfl,hx,cl,k3,by show 3≤sizeLine;decide,fun p hp=>?_⟩
 have hsj:(σ.set j (some (V.ref p)))[j]? = some (some (.ref p)):=List.getElem?_set_self (by rw [hl];exact hjn)
 have hH:(upd H p (.lst [V.bl a,V.bl b,V.bl false])) p=some (.lst ([a,b,false].map V.bl)):=upd_same
 refine ⟨.ref p,hsj,.inl ⟨rfl,_,SqL.of hH⟩,p,[a,b,false],true,rfl,rfl,hH,?_⟩
 rw [hc]
 refine ⟨?_,true,rfl,iteT ?_⟩
 ·rfl
 ·refine ⟨by show 3≤sizeLine;decide,fun p2 hp2=>?_⟩
  have hH2:(upd (upd H p (.lst [V.bl a,V.bl b,V.bl false])) p2 (.lst [V.str "number",V.str "path",V.str "sheet"])) p=some (.lst ([a,b,false].map V.bl)):=by rw [upd_ne (ne_of_none hH hp2)];exact hH
  have hml:m<3:=(List.getElem?_eq_some_iff.mp hm).1
  refine ⟨.ref p,hsj,.inl ⟨rfl,_,SqL.of hH2⟩,p,[a,b,false],true,m,rfl,rfl,hH2,by show 3≤1000;decide,hm,hq,p2,_,(m:Int),.str z,rfl,rfl,SqL.of upd_same,?_,k p _ fun c o e=>?_⟩
  ·exact atI_nat hzz
  ·have h1:(upd H p (.lst [V.bl a,V.bl b,V.bl false])) c=some o:=by rw [upd_ne (ne_of_none e hp)];exact e
   rw [upd_ne (ne_of_none h1 hp2)];exact h1
abbrev s_asked:Stmt:=top 61
theorem sc_asked:FnScope ["_law_which","_law_thing","_law_found","error","_law_kinds"] ["_law_which","_law_thing"] (defScope s_asked):=⟨rfl,rfl,rfl,by decide +kernel,rfl,by decide +kernel,by decide +kernel⟩
def tAsked0:SpT:=fun as Q=>∃(wh:Int) (x:Str),as=[.v (.int wh),.v (.str x)]∧((wh=0∧x.length≤500000∧(∀n d,fracIn (sg x)=some (n,d)→Q (.v (fT n d)) [])∧(fracIn (sg x)=none→Q (.v (.str "number")) []))∨
 (wh=1∧x.length≤20000∧((∃a b ps,sg x=jw (pathW a b ps)∧Nv a b 199∧ps≠[]∧ps.length≤10∧chainP 199 a b ps∧Q (.v (pathT a b ps)) [])∨
 (Q (.v (.str "path")) []∧((∃ws:List (List Nat),sg x=jw ws∧ws≠[]∧ws.length≤2∧∀w∈ws,32∉w)∨∃a b ps,sg x=jw (pathW a b ps++[[]])∧Nv a b 199∧ps.length≤10∧chainP 199 a b ps)))))
structure AskS (as:List L2.A) (Q:L2.RV→List L2.T→Prop):Prop where
 h:tAsked0 as Q
def tAsked:SpT:=fun as Q=>AskS as Q
theorem ok_asked {f:Addr} {fd:FuncData} {CN CP CS D:Addr} (F:Fun K "_law_asked" "_law_asked" s_asked f fd) (TX:Txt mg) (g_fraction_from:FnH P w K mg base 3 "fraction_from" ["text"] (spG K (tFromG CN))) (g_path_from:FnH P w K mg base 8 "path_from" ["text"] (spG K (tPathG CP))) (du:DueA K mg CN CP CS D):FnOk P w K mg base CX0 9 f fd ["_law_which","_law_thing"] (spOf K tAsked):=by
 have hm_SideError:=du.mD
 have kD:∀C z,wdA CN CP C=some z→PySem.W.kitCls K (.ref C) (.ref D)=some true:=fun C z h=>by
  unfold wdA at h
  split at h
  ·rename_i e;rw [e];exact du.kN
  ·split at h
   ·rename_i e;rw [e];exact du.kP
   ·cases h
 have bD:=du.bD
 refine F.okT sc_asked ?len (fun cdv A outer s H E hr=>(fb_cons (fs_set (i:=2) sc_asked.nd rfl (Or.inl rfl) fe_non)
 (fb_cons (fs_tryX (i:=2) (j:=4) (ie:=3) (wd:=wdA CN CP) (fun _ _ z=>z) rfl rfl (fun _=>rfl) rfl (fx_if (fun _ _ z=>z) (ft_eq rfl hr (fv 0) fe_int (nomark _)) (fx_call (fun _ _ z=>z) rfl rfl g_fraction_from hr (by omega) rfl (fc (fv 1) fa_nil)) (fx_call (fun _ _ z=>z) rfl rfl g_path_from hr (by omega) rfl (fc (fv 1) fa_nil))) sc_asked.nd rfl (Or.inl rfl) (Or.inr rfl) rfl rfl rfl hm_SideError kD bD (by decide) (by decide) (fun x=>hdA_ok (n:=5) (j:=4) (i:=2) (ie:=3) du sc_asked.nd rfl (Or.inl rfl) rfl rfl (Or.inl rfl) rfl rfl (Or.inl rfl) (Or.inl rfl) rfl TX.n_isinstance rfl rfl rfl (by decide) (by decide) (by decide) (by decide) (by decide) (by decide) rfl rfl rfl rfl rfl rfl) (fun x C z D σ H hz hl hx he k=>⟨C,z,hz,hl,hx,he,k⟩))
 (fb_one (fs_ret (fv 2)))))) ?rd
 case len=>rintro as Q ⟨⟨wh,x,rfl,_⟩⟩;rfl
 case rd=>
  rintro as Q ⟨⟨wh,x,rfl,⟨rfl,hl,q,w⟩ | ⟨rfl,hl,h⟩⟩⟩
  ·refine ⟨Nat.zero_le _,rfl,rfl,x,rfl,hl,fun n d e=>⟨rfl,rfl,q n d e⟩,fun e=>?_⟩
   show o1 (wdA CN CP CN) _
   rw [wdA_N]
   exact ⟨rfl,w e⟩
  ·refine ⟨Nat.zero_le _,rfl,rfl,x,rfl,hl,?_⟩
   rcases h with ⟨a,b,ps,h1,h2,h3,h4,h5,q⟩ | ⟨q,h⟩
   ·exact .inl ⟨a,b,ps,h1,h2,h3,h4,h5,noL_path a b ps (noLs_pcs ps),noL_path a b ps (noLs_pcs ps),q⟩
   ·refine .inr ⟨?_,h⟩
    show o1 (wdA CN CP CP) _
    rw [wdA_P du.ne]
    exact ⟨rfl,q⟩
end
end My
set_option Elab.async false
set_option linter.all false
set_option maxRecDepth 100000
set_option maxHeartbeats 4000000
namespace My
open PySem L2 PyProof.Rows
section
variable {P:Program} {w:World} {K:PySem.W.Frag} {mg:Str→Option Value} {base:Heap}
theorem rep0 (k:Int):repT k [.int 0]=intsT (List.replicate k.toNat 0):=by
 unfold repT intsT
 generalize k.toNat=n
 induction n with
 | zero=>rfl
 | succ n ih=>rw [List.replicate_succ,List.flatten_cons,ih,List.replicate_succ,List.map_cons];rfl
theorem noL_ints:∀ns:List Int,noLs (intsT ns)=true
 | []=>rfl
 | _::ns=>by simp [intsT,noLs,noL];exact noL_ints ns
def tFolded:SpT:=fun as Q=>∃(ns:List Int) (m:Nat),as=[.v (.lst (intsT ns)),.v (.int (m:Int))]∧ns.length≤63∧2≤m∧m≤63∧∀cs:List Int,2≤cs.length→cs.length≤m→Q (.l (intsT cs)) []
abbrev s_folded:Stmt:=top 43
theorem sc_folded:FnScope ["_law_script","_law_many","_law_cells","_law_k","_law_cell"] ["_law_script","_law_many"] (defScope s_folded):=⟨rfl,rfl,rfl,by decide +kernel,rfl,by decide +kernel,by decide +kernel⟩
theorem ok_folded {f:Addr} {fd:FuncData} (F:Fun K "_law_folded" "_law_folded" s_folded f fd) (TX:Txt mg)    : FnOk P w K mg base CX0 1 f fd ["_law_script","_law_many"] (spOf K tFolded):=by
 refine F.okT sc_folded ?len (fun cdv A outer s H E hr=>(fb_cons (fs_set (i:=2) sc_folded.nd rfl (Or.inl rfl) (fe_listOf rfl rfl TX.n_list (fc (fe_sliceL rfl (fv 0) fo_none (fo_some (fv 1))) fa_nil)))
 (fb_cons (fs_for PassesOwn.never rfl (fi_enum rfl rfl TX.n_enumerate (fc (fe_sliceL rfl (fv 0) (fo_some (fv 1)) (fo_some fe_int)) fa_nil)) (fg_tup (n:=2) rfl rfl (fgs_cons (fg_name (i:=3) sc_folded.nd rfl (Or.inl rfl)) (fgs_cons (fg_name (i:=4) sc_folded.nd rfl (Or.inl rfl)) fgs_nil)))
  (fb_one (fs_asg (fe_opI0 op_add (fe_ix rfl (fv 2) (fe_opI op_mod (fv 3) (fv 1)) (fun _ _=>rfl)) (fe_opI op_mulA (fv 4) (fe_opI0 op_add (fv 3) fe_int))) (fg_sub (fv 2) (fe_opI op_mod (fv 3) (fv 1))))))
 (fb_one (fs_ret (fe_cat (fv 2) (fe_rep (fe_lst (fc fe_int fa_nil)) (fe_opI0 op_sub fe_int (fe_len rfl rfl TX.n_len (fc (fv 2) fa_nil)))))))))) ?rd
 case len=>rintro as Q ⟨ns,m,rfl,_⟩;rfl
 case rd=>
  rintro as Q ⟨ns,m,rfl,hl,hm2,hm,q⟩
  refine loopT_inv (fun i E=>∃(cs:List Int) (v3 v4:Option U),E=[some (.p (.lst (intsT ns))),some (.p (.int (m:Int))),some (.o false (intsT cs)),v3,v4]∧cs.length=(ns.take m).length)
   ⟨ns.take m,none,none,by rw [←cutT_to],rfl⟩ ?_ ?_
  ·rintro i x rest E hi ⟨cs,v3,v4,rfl,hc⟩ K
   obtain ⟨y,hy,rfl⟩:=enum_at hi
   obtain ⟨z,rfl⟩:∃z,y=T.int z:=by
    obtain ⟨z,_,e⟩:=List.mem_map.mp (cutT_sub (List.mem_of_getElem? hy))
    exact ⟨z,e.symm⟩
   have hilt:i<ns.length-m:=by
    have h1:=(List.getElem?_eq_some_iff.mp hy).1
    have h2:=cutT_len (intsT ns) m 63
    simp [intsT] at h2
    exact Nat.lt_of_lt_of_le h1 h2
   have hcl:cs.length=m:=by rw [hc,List.length_take];omega
   have em:((i:Int)%(m:Int))=((i%m:Nat):Int):=rfl
   have hj:i%m<cs.length:=by rw [hcl];exact Nat.mod_lt _ (by omega)
   have hat:atI (intsT cs) ((i:Int)%(m:Int))=some (T.int cs[i%m]):=by
    rw [em];exact atI_nat (by rw [intsT,List.getElem?_map,List.getElem?_eq_getElem hj];rfl)
   have hix:ixN (intsT cs).length ((i:Int)%(m:Int))=some (i%m):=by
    rw [em]
    unfold ixN
    rw [if_pos (by omega),if_pos (by simp [intsT];omega),Int.toNat_natCast]
   have hmp:(fun (_ j:Int)=>0<j) (i:Int) (m:Int):=by show (0:Int)<(m:Int);omega
   refine ⟨hmp,?_⟩
   show o1 (atI (intsT cs) ((i:Int)%(m:Int))) _
   rw [hat]
   refine ⟨mulR (by omega),hmp,?_⟩
   show o1 (ixN (intsT cs).length ((i:Int)%(m:Int))) _
   rw [hix]
   have e:intsT (cs.set (i%m) (cs[i%m]+z*((i:Int)+2)))=(intsT cs).set (i%m) (.int (cs[i%m]+z*((i:Int)+2))):=by rw [intsT,intsT,List.map_set]
   exact K _ ⟨cs.set (i%m) (cs[i%m]+z*((i:Int)+2)),some (.p (.int (i:Int))),some (.p (.int z)),by rw [e];rfl,by rw [List.length_set];exact hc⟩
  ·rintro E ⟨cs,v3,v4,rfl,hc⟩
   have hcm:cs.length≤m:=by rw [hc,List.length_take];omega
   have lc:((intsT cs).length:Int)=cs.length:=by simp [intsT]
   refine ⟨⟨?_,?_,?_⟩,?_,?_,?_⟩
   ·show -(2^63:Int)≤2-((intsT cs).length:Int);omega
   ·show 2-((intsT cs).length:Int)<2^63;omega
   ·show 1*(2-((intsT cs).length:Int)).toNat≤1000;omega
   ·show (intsT cs).length+(repT (2-((intsT cs).length:Int)) [.int 0]).length≤1000
    rw [rep0];simp [intsT];omega
   ·show noLs (intsT cs++repT (2-((intsT cs).length:Int)) [.int 0])=true
    rw [rep0,show intsT cs++intsT (List.replicate (2-((intsT cs).length:Int)).toNat 0)=intsT (cs++List.replicate (2-((intsT cs).length:Int)).toNat 0) by simp [intsT]]
    exact noL_ints _
   ·show Q (.l (intsT cs++repT (2-((intsT cs).length:Int)) [.int 0])) []
    rw [rep0,show intsT cs++intsT (List.replicate (2-((intsT cs).length:Int)).toNat 0)=intsT (cs++List.replicate (2-((intsT cs).length:Int)).toNat 0) by simp [intsT]]
    refine q _ ?_ ?_
    ·rw [List.length_append,List.length_replicate];omega
    ·rw [List.length_append,List.length_replicate];omega
end
end My
set_option Elab.async false
set_option linter.all false
set_option maxRecDepth 100000
set_option maxHeartbeats 4000000
namespace My
open PySem L2 PyProof.Rows
section
variable {P:Program} {w:World} {K:PySem.W.Frag} {mg:Str→Option Value} {base:Heap}
inductive Th where
 | f (p:Fr) | w (a b:Fr) (ps:List Pc)
def thT:Th→L2.T
 | .f p=>fr p
 | .w a b ps=>pathT a b ps
def thW:Th→List Nat
 | .f p=>fw p
 | .w a b ps=>jw (pathW a b ps)
def thK:Th→Int
 | .f _=>0
 | .w _ _ _=>1
def ThOk:Th→Prop
 | .f p=>Nrm p∧sz p≤20
 | .w a b ps=>Nv a b 199∧ps≠[]∧ps.length≤10∧chainP 199 a b ps
def word (wh:Int):Str:=if wh=0 then "number" else "path"
theorem none_sp {x:Str} (h:32∈sg x):fracIn (sg x)=none:=by
 cases e:fracIn (sg x) with
 | none=>rfl
 | some p=>
  have e1:=(fracIn_text (n:=p.1) (d:=p.2) e).1
  rw [←e1] at h
  exact absurd h (fw_sp (p.1,p.2))
theorem jw_end {W:List (List Nat)} (h:W≠[]):jw (W++[[]])=jw W++[32]:=by rw [jw_app h (by simp)];rfl
theorem path_sp (a b:Fr) (ps:List Pc):32∈jw (pathW a b ps):=by
 have e:pathW a b ps=sg (Str.ofString "from")::fw a::fw b::(ps.map pcW).flatten:=rfl
 rw [e,jw_cons (by simp)]
 simp
theorem fr60 {p:Fr} (s:sz p≤20):p.1.natAbs<10^60∧p.2.natAbs<10^60:=
 ⟨Nat.lt_trans (pl (sz_n p) s) (by decide),Nat.lt_trans (pl (sz_d p) s) (by decide)⟩
def Asks (wh:Int) (x:Str) (t:L2.T):Prop:=∀Q,Q (.v t) []→tAsked [.v (.int wh),.v (.str x)] Q
def sufB (e:Bool):List Nat:=if e then [32] else []
theorem ask_own {th:Th} {x:Str} (ok:ThOk th) (hl:x.length≤20000) (hx:sg x=thW th):Asks (thK th) x (thT th):=fun Q q=>by
 cases th with
 | f p=>
  obtain ⟨h1,h2⟩:=ok
  obtain ⟨a,b⟩:=fr60 h2
  have hx':sg x=fracText p.1 p.2:=hx
  have e:=frac_back h1.d h1.g a b
  refine ⟨⟨0,x,rfl,.inl ⟨rfl,by omega,fun n d z=>?_,fun z=>?_⟩⟩⟩
  ·rw [hx',e] at z;cases z;exact q
  ·rw [hx',e] at z;cases z
 | w a b ps=>
  obtain ⟨h1,h2,h3,h4⟩:=ok
  exact ⟨⟨1,x,rfl,.inr ⟨rfl,hl,.inl ⟨a,b,ps,hx,h1,h2,h3,h4,q⟩⟩⟩⟩
theorem ask_not {th:Th} {x:Str} {e:Bool} {wh:Int} (ok:ThOk th) (hl:x.length≤20000) (hx:sg x=thW th++sufB e) (hw:wh=0∨wh=1) (hn:e=true∨wh≠thK th):Asks wh x (.str (word wh)):=fun Q q=>by
 rcases hw with rfl | rfl
 ·refine ⟨⟨0,x,rfl,.inl ⟨rfl,by omega,fun n d z=>?_,fun _=>q⟩⟩⟩
  exfalso
  have sp:32∈sg x:=by
   rw [hx]
   cases th with
   | f p=>
    rcases hn with rfl | hn
    ·simp [sufB]
    ·exact absurd rfl hn
   | w a b ps=>exact List.mem_append_left _ (path_sp a b ps)
  rw [none_sp sp] at z;cases z
 ·refine ⟨⟨1,x,rfl,.inr ⟨rfl,hl,.inr ⟨q,?_⟩⟩⟩⟩
  cases th with
  | f p=>
   refine .inl ?_
   cases e with
   | false=>exact ⟨[fw p],by rw [hx];simp [sufB,thW,jw],by simp,by simp,fun w h=>by rw [List.mem_singleton] at h;rw [h];exact fw_sp p⟩
   | true=>
    refine ⟨[fw p,[]],by rw [hx];rfl,by simp,by simp,fun w h=>?_⟩
    rcases List.mem_cons.mp h with rfl | h
    ·exact fw_sp p
    ·rw [List.mem_singleton] at h;rw [h];simp
  | w a b ps=>
   rcases hn with rfl | hn
   ·obtain ⟨h1,_,h3,h4⟩:=ok
    exact .inr ⟨a,b,ps,by rw [hx,jw_end (by simp [pathW])];rfl,h1,h3,h4⟩
   ·exact absurd rfl hn
theorem sh_int {n:Int} {e:Nat} (h:n.natAbs<2^e) (he:e≤300):shT (.int n)=true:=by
 show decide (n.natAbs.log2<1920)=true
 rw [decide_eq_true_eq]
 have h2:n.natAbs<2^300:=Nat.lt_of_lt_of_le h (Nat.pow_le_pow_right (by decide) he)
 have:=log_lt h2 (by decide)
 omega
theorem sh_fr {p:Fr} (h:sz p≤300):shT (fr p)=true:=by
 show (shT (.int p.1)&&(shT (.int p.2)&&true))=true
 rw [sh_int (sz_n p) h,sh_int (sz_d p) h];rfl
theorem sh_vc {x y:Fr} (h:Nv x y 199):shT (vc x y)=true:=by
 show (shT (fr x)&&(shT (fr y)&&true))=true
 have h1:=h.sx;have h2:=h.sy
 rw [sh_fr (by omega),sh_fr (by omega)];rfl
theorem sh_pc {a b:Fr}:∀{p:Pc},okPc 199 a b p→shT (pcT p)=true
 | .side x y,h=>by
  show (true&&(shT (vc x y)&&true))=true
  rw [sh_vc h.1];rfl
 | .arc m n x y l,h=>by
  show (true&&(shT (vc m n)&&(shT (vc x y)&&(true&&true))))=true
  rw [sh_vc h.1,sh_vc h.2.1];rfl
theorem sh_pcs:∀{ps:List Pc} {a b:Fr},chainP 199 a b ps→shTs (ps.map pcT)=true
 | [],_,_,_=>rfl
 | p::ps,a,b,h=>by
  show (shT (pcT p)&&shTs (ps.map pcT))=true
  rw [sh_pc h.1,sh_pcs h.2];rfl
theorem len_pc (p:Pc):lenB (pcT p)≤30000:=by
 cases p with
 | side x y=>
  have e:(reprText "side").length≤100:=by decide +kernel
  show (reprText "side").length+2+(lenB (vc x y)+2+0)+3≤30000
  have e2:lenB (vc x y)=7705:=rfl
  omega
 | arc m n x y l=>
  have e:(reprText "arc").length≤100:=by decide +kernel
  have e3:(reprText (turnS l)).length≤100:=by cases l<;>decide +kernel
  show (reprText "arc").length+2+(lenB (vc m n)+2+(lenB (vc x y)+2+((reprText (turnS l)).length+2+0)))+3≤30000
  have e2:lenB (vc x y)=7705:=rfl
  have e4:lenB (vc m n)=7705:=rfl
  omega
theorem len_pcs:∀ps:List Pc,lenBs (ps.map pcT)≤ps.length*30002
 | []=>by decide
 | p::ps=>by
  show lenB (pcT p)+2+lenBs (ps.map pcT)≤(ps.length+1)*30002
  have:=len_pc p
  have:=len_pcs ps
  omega
theorem dT_pc (p:Pc):dT (pcT p)≤3:=by cases p<;>exact le_ok rfl
theorem dT_pcs:∀ps:List Pc,dTs (ps.map pcT)≤3
 | []=>by decide
 | p::ps=>Nat.max_le.mpr ⟨dT_pc p,dT_pcs ps⟩
theorem th_sh {th:Th} (ok:ThOk th):∃ts,thT th = .tup ts∧noLs ts=true∧shTs ts=true∧dTs ts≤40∧lenBs ts≤10000000:=by
 cases th with
 | f p=>
  refine ⟨[.int p.1,.int p.2],rfl,rfl,?_,le_ok rfl,le_ok rfl⟩
  exact sh_fr (p:=p) (Nat.le_trans ok.2 (by decide))
 | w a b ps=>
  obtain ⟨nv,_,hl,ch⟩:=ok
  refine ⟨[vc a b,.tup (ps.map pcT)],rfl,noL_path a b ps (noLs_pcs ps),?_,?_,?_⟩
  ·show (shT (vc a b)&&(shTs (ps.map pcT)&&true))=true
   rw [sh_vc nv,sh_pcs ch];rfl
  ·exact Nat.max_le.mpr ⟨le_ok rfl,Nat.max_le.mpr ⟨Nat.le_trans (Nat.succ_le_succ (dT_pcs ps)) (by decide),Nat.zero_le _⟩⟩
  ·show lenB (vc a b)+2+(lenBs (ps.map pcT)+3+2+0)≤10000000
   have e2:lenB (vc a b)=7705:=rfl
   have:=len_pcs ps
   omega
def dueT (ths:List Th) (wh at':Int):L2.T:=match ths[at'.toNat]? with
 | some th=>if thK th=wh then thT th else .str (word wh)
 | none=>.str (word wh)
def keys16:List (List Key):=(List.range 2).flatMap fun m:Nat=>(List.range 8).map fun n:Nat=>[Sum.inl (Int.ofNat m),Sum.inl (Int.ofNat n)]
theorem key_in {m n:Int} (m0:0≤m) (m1:m<2) (n0:0≤n) (n1:n<8):([Sum.inl m,Sum.inl n]:List Key)∈keys16:=by
 unfold keys16
 refine List.mem_flatMap.mpr ⟨m.toNat,List.mem_range.mpr (by omega),List.mem_map.mpr ⟨n.toNat,List.mem_range.mpr (by omega),?_⟩⟩
 rw [show Int.ofNat m.toNat=m from Int.toNat_of_nonneg m0,show Int.ofNat n.toNat=n from Int.toNat_of_nonneg n0]
theorem nodup_le {α:Type} [DecidableEq α]:∀{l L:List α},l.Nodup→(∀x∈l,x∈L)→l.length≤L.length
 | [],_,_,_=>Nat.zero_le _
 | a::l,L,h,hs=>by
  obtain ⟨h1,h2⟩:=List.nodup_cons.mp h
  have ha:=hs a (by simp)
  have:=nodup_le (L:=L.erase a) h2 fun x hx=>(List.mem_erase_of_ne (fun e=>h1 (by rw [←e];exact hx))).mpr (hs x (by simp [hx]))
  rw [List.length_erase_of_mem ha] at this
  have:0<L.length:=List.length_pos_of_mem ha
  simp only [List.length_cons]
  omega
def Told (ths:List Th) (kvs:List (List Key×V)):Prop:=(kvs.map (·.1)).Nodup∧(∀k∈kvs.map (·.1),k∈keys16)∧∀m n u,valV kvs [Sum.inl m,Sum.inl n]=some u→u = .str (shw (dueT ths m n))
theorem told_stab {ths:List Th} {m n:Int} (m0:0≤m) (m1:m<2) (n0:0≤n) (n1:n<8):Stab (Told ths) m n (shw (dueT ths m n)):=fun kvs ⟨h1,h2,h3⟩=>by
 have hl:=nodup_le h1 h2
 rw [List.length_map] at hl
 have e16:keys16.length=16:=rfl
 refine ⟨by omega,fun u hu=>h3 m n u hu,fun hn=>?_⟩
 have hnot:([Sum.inl m,Sum.inl n]:List Key)∉kvs.map (·.1):=fun hm=>by
  have ha:=valV_any (κ:=List Key) [Sum.inl m,Sum.inl n] kvs
  rw [hn] at ha
  obtain ⟨kv,hkv,e⟩:=List.mem_map.mp hm
  have:(kvs.any fun kv=>decide (kv.1=[Sum.inl m,Sum.inl n]))=true:=List.any_eq_true.mpr ⟨kv,hkv,by simpa using e⟩
  rw [this] at ha;cases ha
 refine ⟨?_,?_,fun m' n' u hu=>?_⟩
 ·rw [putK_new _ hn,List.map_append,List.nodup_append]
  refine ⟨h1,by simp,fun x hx y hy=>?_⟩
  simp only [List.map_cons,List.map_nil,List.mem_singleton] at hy
  subst hy
  exact fun e=>hnot (e ▸ hx)
 ·rw [putK_new _ hn,List.map_append]
  intro k hk
  rcases List.mem_append.mp hk with hk | hk
  ·exact h2 k hk
  ·simp only [List.map_cons,List.map_nil,List.mem_singleton] at hk
   rw [hk];exact key_in m0 m1 n0 n1
 ·rw [valV_put] at hu
  split at hu
  ·rename_i e
   cases hu
   injection e with e1 e2
   injection e2 with e3 _
   injection e1 with e4
   injection e3 with e5
   rw [e4,e5]
  ·exact h3 m' n' u hu
theorem told_nil (ths:List Th):Told ths []:=⟨by simp,by simp,fun m n u h=>by cases h⟩
end
end My
set_option Elab.async false
set_option linter.all false
set_option maxRecDepth 100000
set_option maxHeartbeats 4000000
namespace My
open PySem L2 PyProof.Rows
section
variable {P:Program} {w:World} {K:PySem.W.Frag} {mg:Str→Option Value} {base:Heap}
theorem dT_path (a b:Fr) (ps:List Pc):dT (pathT a b ps)≤6:=by
 have:=dT_pcs ps
 show Nat.max (dT (vc a b)) (Nat.max (dTs (ps.map pcT)+1) 0)+1≤6
 have e:dT (vc a b)=2:=rfl
 have:Nat.max (dT (vc a b)) (Nat.max (dTs (ps.map pcT)+1) 0)≤5:=Nat.max_le.mpr ⟨by omega,Nat.max_le.mpr ⟨by omega,by omega⟩⟩
 omega
theorem dT_th:∀th:Th,dT (thT th)≤6
 | .f p=>le_ok rfl
 | .w a b ps=>dT_path a b ps
theorem noL_th:∀th:Th,noL (thT th)=true
 | .f _=>rfl
 | .w a b ps=>noL_path a b ps (noLs_pcs ps)
def TxOk (ths:List Th) (xs:List Str):Prop:=ths.length=4∧xs.length=8∧(∀th∈ths,ThOk th)∧∀(i:Nat) (th:Th),ths[i]? = some th→thK th=((i/2:Nat):Int)∧(∃x,xs[i]? = some x∧x.length≤20000∧sg x=thW th)∧∃x,xs[i+4]? = some x∧x.length≤20000∧sg x=thW th++[32]
theorem tx_all {ths:List Th} {xs:List Str} {L:List L2.T} (tx:TxOk ths xs) (hL:L=ths.map thT) {wh at':Int} (w0:0≤wh) (w1:wh<2) (t0:0≤at') (t1:at'<8) :
  ∃x,atI (strsT xs) at'=some (.str x)∧x.length≤20000∧((∃th,ThOk th∧at'<4∧wh=at'.fdiv 2∧atI L at'=some (thT th)∧wh=thK th∧sg x=thW th∧dueT ths wh at'=thT th)∨(¬(at'<4∧wh=at'.fdiv 2)∧Asks wh x (.str (word wh))∧dueT ths wh at' = .str (word wh))):=by
 obtain ⟨e4,e8,ok,h⟩:=tx
 have hw:wh=0∨wh=1:=by omega
 have ef:at'.fdiv 2=at'/2:=Int.fdiv_eq_ediv_of_nonneg _ (by decide)
 have ei:((at'.toNat:Nat):Int)=at':=by omega
 by_cases c:at'<4
 ·obtain ⟨th,hth⟩:∃th,ths[at'.toNat]? = some th:=⟨_,List.getElem?_eq_getElem (show at'.toNat<ths.length by omega)⟩
  obtain ⟨k1,⟨x,hx,lx,sx⟩,_⟩:=h _ th hth
  have o:=ok th (List.mem_of_getElem? hth)
  refine ⟨x,?_,lx,?_⟩
  ·have:=atI_nat (xs:=strsT xs) (j:=at'.toNat) (v:=.str x) (by unfold strsT;rw [List.getElem?_map,hx];rfl)
   rwa [ei] at this
  ·have kk:thK th=at'/2:=by omega
   by_cases d:wh=thK th
   ·refine .inl ⟨th,o,c,by omega,?_,d,sx,by unfold dueT;rw [hth];simp only;rw [if_pos d.symm]⟩
    have:=atI_nat (xs:=L) (j:=at'.toNat) (v:=thT th) (by rw [hL,List.getElem?_map,hth];rfl)
    rwa [ei] at this
   ·refine .inr ⟨fun z=>d (by omega),ask_not (e:=false) o lx (by rw [sx];simp [sufB]) hw (.inr d),by unfold dueT;rw [hth];simp only;rw [if_neg fun z=>d z.symm]⟩
 ·obtain ⟨th,hth⟩:∃th,ths[at'.toNat-4]? = some th:=⟨_,List.getElem?_eq_getElem (show at'.toNat-4<ths.length by omega)⟩
  obtain ⟨_,_,x,hx,lx,sx⟩:=h _ th hth
  rw [show at'.toNat-4+4=at'.toNat by omega] at hx
  have o:=ok th (List.mem_of_getElem? hth)
  refine ⟨x,?_,lx,.inr ⟨fun z=>c z.1,ask_not (e:=true) o lx (by rw [sx];rfl) hw (.inl rfl),?_⟩⟩
  ·have:=atI_nat (xs:=strsT xs) (j:=at'.toNat) (v:=.str x) (by unfold strsT;rw [List.getElem?_map,hx];rfl)
   rwa [ei] at this
  ·unfold dueT
   rw [List.getElem?_eq_none (by omega)]
def tLaw:SpT:=fun as Q=>∃ns:List Int,as=[.v (.lst (intsT ns))]∧ns.length≤63∧Q (.v (.bl true)) []
abbrev s_law:Stmt:=top 62
theorem sc_law:FnScope ["_law_script","_law_cells","_law_k","_law_box","_law_paths_drawn","_law_some","_law_texts","_law_told","_law_turn","_law_found","_law_due","_law_which","_law_at","_law_again"] ["_law_script"] (defScope s_law):=⟨rfl,rfl,rfl,by decide +kernel,rfl,by decide +kernel,by decide +kernel⟩
theorem ok_law {f:Addr} {fd:FuncData} (F:Fun K "law" "law" s_law f fd) (TX:Txt mg) (g_folded:Fn P w K mg base 1 "_law_folded" ["_law_script","_law_many"] (spOf K tFolded)) (g_box_of:Fn P w K mg base 1 "_law_box_of" ["_law_script","_law_k"] (spOf K tBoxOf)) (g_take:Fn P w K mg base 1 "_law_take" ["_law_box","_law_many"] (spOf K tTake)) (g_path_by:Fn P w K mg base 5 "_law_path_by" ["_law_box","_law_most"] (spOf K tPathBy)) (g_fraction_by:Fn P w K mg base 2 "_law_fraction_by" ["_law_box"] (spOf K tFrBy)) (g_fraction_text:Fn P w K mg base 2 "fraction_text" ["one"] (spOf K tFrText)) (g_path_text:Fn P w K mg base 5 "path_text" ["path"] (spOf K tPathT)) (g_asked:Fn P w K mg base 9 "_law_asked" ["_law_which","_law_thing"] (spOf K tAsked))   : FnOk P w K mg base CX0 10 f fd ["_law_script"] (spOf K tLaw):=by
 refine F.okT sc_law ?len (fun cdv A outer s H E hr=>(fb_cons (fs_set (i:=1) sc_law.nd rfl (Or.inl rfl) (fe_call g_folded hr (by omega) rfl (fc (fv 0) (fc fe_int fa_nil))))
 (fb_cons (fs_for PassesOwn.never rfl (fi_range1 rfl TX.n_range (fc (fe_len rfl rfl TX.n_len (fc (fv 1) fa_nil)) fa_nil)) (fg_name (i:=2) sc_law.nd rfl (Or.inl rfl))
  (fb_cons (fs_set (i:=3) sc_law.nd rfl (Or.inr rfl) (fe_call g_box_of hr (by omega) rfl (fc (fv 1) (fc (fv 2) fa_nil))))
 (fb_cons (fs_setC (i:=4) (N':=["_law_turn","_law_box"]) (t:=1) (cap:=[(3,true)]) sc_law.nd rfl (Or.inl rfl) rfl rfl (CompOk.of rfl) rfl (by decide) (fi_range1 rfl TX.n_range (fc fe_int fa_nil)) (fun _ _ _ _=>(fg_name (i:=0) (show List.Nodup (["_law_turn","_law_box"]:List Str) by decide +kernel) rfl (Or.inl rfl) (Or.inr rfl))) (fun _ _ _ _=>(fe_callB g_path_by hr (by omega) rfl (fc (fv 1) (fc fe_int fa_nil)))))
 (fb_cons (fs_setC (i:=5) (N':=["_law_turn","_law_box"]) (t:=1) (cap:=[(3,true)]) sc_law.nd rfl (Or.inl rfl) rfl rfl (CompOk.of rfl) rfl (by decide) (fi_range1 rfl TX.n_range (fc fe_int fa_nil)) (fun _ _ _ _=>(fg_name (i:=0) (show List.Nodup (["_law_turn","_law_box"]:List Str) by decide +kernel) rfl (Or.inl rfl) (Or.inr rfl))) (fun _ _ _ _=>(fe_callB g_fraction_by hr (by omega) rfl (fc (fv 1) fa_nil))))
 (fb_cons (fs_set (i:=6) sc_law.nd rfl (Or.inl rfl) (fe_cat (fe_comp (N':=["_law_one"]) (t:=1) (cap:=[]) rfl (CompOk.of rfl) rfl (by decide) (fi_list rfl (fv 5)) (fun _ _ _ _=>(fg_name (i:=0) (show List.Nodup (["_law_one"]:List Str) by decide +kernel) rfl (Or.inl rfl) (Or.inr rfl))) (fun _ _ _ _=>(fe_call g_fraction_text hr (by omega) rfl (fc (fv 0) fa_nil)))) (fe_comp (N':=["_law_one"]) (t:=1) (cap:=[]) rfl (CompOk.of rfl) rfl (by decide) (fi_list rfl (fv 4)) (fun _ _ _ _=>(fg_name (i:=0) (show List.Nodup (["_law_one"]:List Str) by decide +kernel) rfl (Or.inl rfl) (Or.inr rfl))) (fun _ _ _ _=>(fe_call g_path_text hr (by omega) rfl (fc (fv 0) fa_nil))))))
 (fb_cons (fs_set (i:=6) sc_law.nd rfl (Or.inl rfl) (fe_cat (fv 6) (fe_comp (N':=["_law_text"]) (t:=1) (cap:=[]) rfl (CompOk.of rfl) rfl (by decide) (fi_list rfl (fv 6)) (fun _ _ _ _=>(fg_name (i:=0) (show List.Nodup (["_law_text"]:List Str) by decide +kernel) rfl (Or.inl rfl) (Or.inr rfl))) (fun _ _ _ _=>(fe_catS (fv 0) fe_str)))))
 (mb_new (i:=7) sc_law.nd rfl (Or.inl rfl) (fun P=>(mb_one (ms_forR (j:=8) PassesOwn.never rfl rfl TX.n_range (fc fe_int fa_nil) sc_law.nd rfl (Or.inl rfl)
  (mb_cons (ms_par (i':=11) (j:=12) rfl sc_law.nd rfl rfl (by decide) rfl rfl (fc (fe_callB g_take hr (by omega) rfl (fc (fv 3) (fc fe_int fa_nil))) (fc (fe_callB g_take hr (by omega) rfl (fc (fv 3) (fc fe_int fa_nil))) fa_nil)) (by decide) (by decide) rfl)
 (mb_cons (ms_set (j:=9) sc_law.nd rfl (Or.inl rfl) (fe_call g_asked hr (by omega) rfl (fc (fv 11) (fc (fe_ix rfl (fv 6) (fv 12) (fun _ _=>rfl)) fa_nil))) (by decide))
 (mb_cons (ms_set (j:=10) sc_law.nd rfl (Or.inl rfl) (fe_if (ft_w (fw_and (ft_cp op_lt (fv 12) fe_int (nomark _)) (fw_and1 (ft_eq rfl hr (fv 11) (fe_opI op_fdivZ (fv 12) fe_int) (nomark _))))) (fe_ix rfl (fe_cat (fv 5) (fv 4)) (fv 12) (fun _ _=>rfl)) (fe_ix rfl (fe_lst (fc fe_str (fc fe_str fa_nil))) (fv 11) (fun _ _=>rfl))) (by decide))
 (mb_cons (ms_ifOr (iu:=11) (iv:=12) hr (ft_ne rfl hr (fv 9) (fv 10) (nomark _)) rfl (by first | exact Or.inl rfl | exact Or.inr (Or.inl rfl) | exact Or.inr (Or.inr rfl)) rfl (by first | exact Or.inl rfl | exact Or.inr (Or.inl rfl) | exact Or.inr (Or.inr rfl)) rfl (by first | exact Or.inl rfl | exact Or.inr (Or.inl rfl) | exact Or.inr (Or.inr rfl)) (fe_strZ rfl hr rfl TX.n_str (fc (fv 9) fa_nil)) (fe_strZ rfl hr rfl TX.n_str (fc (fv 9) fa_nil)) ⟨rfl,rfl,rfl,rfl⟩ (nomark _))
 (mb_one (ms_if (ft_val (fe_isi k_tuple rfl rfl TX.n_isinstance (fv 9) rfl TX.n_tuple bt_tuple (by decide))) (mb_cons (ms_set (j:=13) sc_law.nd rfl (Or.inl rfl) (fe_if (ft_eq rfl hr (fv 11) fe_int (nomark _)) (fe_call g_fraction_text hr (by omega) rfl (fc (fv 9) fa_nil)) (fe_call g_path_text hr (by omega) rfl (fc (fv 9) fa_nil))) (by decide))
 (mb_one (ms_if (ft_ne rfl hr (fv 13) (fe_ix rfl (fv 6) (fv 12) (fun _ _=>rfl)) (nomark _)) (mb_one (ms_ret fe_bl)) mb_nil))) mb_nil)))))) (by decide)))))))))))
 (fb_one (fs_ret fe_bl))))) ?rd
 case len=>rintro as Q ⟨ns,rfl,_⟩;rfl
 case rd=>
  rintro as Q ⟨ns,rfl,hl,q⟩
  refine ⟨ns,3,rfl,hl,by decide,by decide,fun cs l2 l6=>?_⟩
  have lc:((intsT cs).length:Int)=cs.length:=by simp [intsT]
  refine ⟨⟨by show -(2^62:Int)≤((intsT cs).length:Int);omega,by show ((intsT cs).length:Int)<2^62;omega⟩,?_⟩
  refine loopT_inv (fun i E=>∃v2 v3 v4 v5 v6 v7 v8 v9 v10 v11 v12 v13:Option U,E=[some (.p (.lst (intsT ns))),some (.o false (intsT cs)),v2,v3,v4,v5,v6,v7,v8,v9,v10,v11,v12,v13]) ⟨_,_,_,_,_,_,_,_,_,_,_,_,rfl⟩ ?_ ?_
  ·rintro i t rest E hi ⟨v2,v3,v4,v5,v6,v7,v8,v9,v10,v11,v12,v13,rfl⟩ KK
   obtain ⟨hin,rfl⟩:=rng_at hi
   refine ⟨cs,_,rfl,by omega,by omega,fun xs bx nl=>?_⟩
   obtain ⟨A0,B0,c0,rfl,_⟩:=id bx
   refine ⟨⟨by decide,by decide⟩,rfl,compL_inv (fun i E=>∃(w0:Option U) (A B c:Int) (L:List L2.T),E=[w0,some (.o true [.int A,.int B,.int c]),some (.o false L)]∧Bx [.int A,.int B,.int c] (0+70*i)∧L.length=i∧∀t∈L,∃a b ps,t=thT (.w a b ps)∧ThOk (.w a b ps)) ⟨none,A0,B0,c0,[],rfl,by simpa using bx,rfl,by simp⟩ ?_ ?_⟩
   ·rintro i t rest E hi ⟨w0,A,B,c,L,rfl,hb,hL,hU⟩ KK
    obtain ⟨hin,rfl⟩:=rng_at hi
    refine ⟨_,_,3,rfl,hb,by omega,by decide,by decide,fun a b ps ys nv hn hl ch b' nl'=>?_⟩
    obtain ⟨A',B',c',rfl,_⟩:=id b'
    refine ⟨by show L.length<1000;omega,KK _ ⟨_,A',B',c',L++[pathT a b ps],rfl,b'.mono (by omega),by rw [List.length_append,hL];rfl,fun t ht=>?_⟩⟩
    rcases List.mem_append.mp ht with ht | ht
    ·exact hU t ht
    ·rw [List.mem_singleton] at ht;exact ⟨a,b,ps,ht,nv.up (by decide),hn,hl,chain_up (by decide) ch⟩
   rintro E ⟨w0,A,B,c,L,rfl,hb,hL,hU⟩
   replace hL:L.length=2:=by rw [hL];rfl
   replace hb:Bx [.int A,.int B,.int c] 140:=hb.mono (show (0+70*((rngT 0 (2:Int).toNat).length:Int))≤140 by decide)
   match L,hL with
   | [q2,q3],_=>
   obtain ⟨a2,b2,s2,rfl,o2⟩:=hU q2 (by simp)
   obtain ⟨a3,b3,s3,rfl,o3⟩:=hU q3 (by simp)
   clear hU
   refine ⟨by show (noL (thT (.w a2 b2 s2))&&(noL (thT (.w a3 b3 s3))&&true))=true;rw [noL_th,noL_th];rfl,?_⟩
   refine ⟨⟨by decide,by decide⟩,rfl,compL_inv (fun i E=>∃(w0:Option U) (A B c:Int) (L:List L2.T),E=[w0,some (.o true [.int A,.int B,.int c]),some (.o false L)]∧Bx [.int A,.int B,.int c] (140+4*i)∧L.length=i∧∀t∈L,∃p,t=thT (.f p)∧ThOk (.f p)) ⟨none,A,B,c,[],rfl,by simpa using hb,rfl,by simp⟩ ?_ ?_⟩
   ·rintro i t rest E hi ⟨w0,A,B,c,L,rfl,hb,hL,hU⟩ KK
    obtain ⟨hin,rfl⟩:=rng_at hi
    refine ⟨_,_,rfl,hb,by omega,fun p ys np sp b' nl'=>?_⟩
    obtain ⟨A',B',c',rfl,_⟩:=id b'
    refine ⟨by show L.length<1000;omega,KK _ ⟨_,A',B',c',L++[fr p],rfl,b'.mono (by omega),by rw [List.length_append,hL];rfl,fun t ht=>?_⟩⟩
    rcases List.mem_append.mp ht with ht | ht
    ·exact hU t ht
    ·rw [List.mem_singleton] at ht;exact ⟨p,ht,np,sp⟩
   clear hb
   rintro E ⟨w0,A,B,c,L,rfl,hb,hL,hU⟩
   replace hL:L.length=2:=by rw [hL];rfl
   replace hb:Bx [.int A,.int B,.int c] 150:=hb.mono (show (140+4*((rngT 0 (2:Int).toNat).length:Int))≤150 by decide)
   match L,hL with
   | [q0,q1],_=>
   obtain ⟨p0,rfl,o0⟩:=hU q0 (by simp)
   obtain ⟨p1,rfl,o1⟩:=hU q1 (by simp)
   clear hU
   refine ⟨rfl,?_⟩
   obtain ⟨f01,f02⟩:=fr60 o0.2
   obtain ⟨f11,f12⟩:=fr60 o1.2
   refine ⟨rfl,?_⟩
   refine ⟨p0.1,p0.2,rfl,dig_small f01,dig_small f02,fun x0 h0=>⟨by show 0<1000;decide,?_⟩⟩
   refine ⟨p1.1,p1.2,rfl,dig_small f11,dig_small f12,fun x1 h1=>⟨by show 1<1000;decide,?_⟩⟩
   refine ⟨rfl,rfl,?_⟩
   refine ⟨a2,b2,s2,rfl,o2.1,chain_nvP o2.2.2.2,o2.2.2.1,fun x2 h2 l2=>⟨by show 0<1000;decide,?_⟩⟩
   refine ⟨a3,b3,s3,rfl,o3.1,chain_nvP o3.2.2.2,o3.2.2.1,fun x3 h3 l3=>⟨by show 1<1000;decide,?_⟩⟩
   refine ⟨rfl,by show 4≤1000;decide,rfl,?_⟩
   have l0:x0.length≤123:=by rw [←sg_len,h0];exact fw_len f01 f02
   have l1:x1.length≤123:=by rw [←sg_len,h1];exact fw_len f11 f12
   have lsp:(Str.ofString " ").length=1:=by decide
   refine ⟨by unfold big;omega,fun y0 g0=>⟨by show 0<1000;decide,?_⟩⟩
   refine ⟨by unfold big;omega,fun y1 g1=>⟨by show 1<1000;decide,?_⟩⟩
   refine ⟨by unfold big;omega,fun y2 g2=>⟨by show 2<1000;decide,?_⟩⟩
   refine ⟨by unfold big;omega,fun y3 g3=>⟨by show 3<1000;decide,?_⟩⟩
   refine ⟨rfl,by show 8≤1000;decide,?_⟩
   have cat:∀{u v w:Str},w=u++v→sg w=sg u++sg v:=fun {u v w} e=>by rw [e,sg_cat]
   have ssp:sg (Str.ofString " ")=[32]:=by decide
   have cl:∀{u w:Str},w=u++Str.ofString " "→sg w=sg u++[32]∧w.length=u.length+1:=fun {u w} e=>by
    have e1:=cat e
    rw [ssp] at e1
    exact ⟨e1,by rw [←sg_len,e1,List.length_append,sg_len];rfl⟩
   obtain ⟨g0,m0⟩:=cl g0
   obtain ⟨g1,m1⟩:=cl g1
   obtain ⟨g2,m2⟩:=cl g2
   obtain ⟨g3,m3⟩:=cl g3
   have tx:TxOk [.f p0,.f p1,.w a2 b2 s2,.w a3 b3 s3] [x0,x1,x2,x3,y0,y1,y2,y3]:=by
    refine ⟨rfl,rfl,fun th ht=>?_,fun i th hi=>?_⟩
    ·simp only [List.mem_cons,List.not_mem_nil,or_false] at ht
     rcases ht with rfl | rfl | rfl | rfl
     ·exact o0
     ·exact o1
     ·exact o2
     ·exact o3
    ·have hlt:=(List.getElem?_eq_some_iff.mp hi).1
     have:i=0∨i=1∨i=2∨i=3:=by simp at hlt;omega
     rcases this with rfl | rfl | rfl | rfl
     ·cases hi;exact ⟨rfl,⟨x0,rfl,by omega,h0⟩,y0,rfl,by omega,by rw [g0,h0];rfl⟩
     ·cases hi;exact ⟨rfl,⟨x1,rfl,by omega,h1⟩,y1,rfl,by omega,by rw [g1,h1];rfl⟩
     ·cases hi;exact ⟨rfl,⟨x2,rfl,by omega,h2⟩,y2,rfl,by omega,by rw [g2,h2];rfl⟩
     ·cases hi;exact ⟨rfl,⟨x3,rfl,by omega,h3⟩,y3,rfl,by omega,by rw [g3,h3];rfl⟩
   refine (?_:nfS [some (.p (.lst (intsT ns))),some (.o false (intsT cs)),some (.p (.int (0+(i:Int)))),some (.o false [.int A,.int B,.int c]),some (.o false [thT (.w a2 b2 s2),thT (.w a3 b3 s3)]),some (.o false [thT (.f p0),thT (.f p1)]),some (.o false [.str x0,.str x1,.str x2,.str x3,.str y0,.str y1,.str y2,.str y3]),v7,v8,v9,v10,v11,v12,v13] _)
   have h54:[thT (.f p0),thT (.f p1)]++[thT (.w a2 b2 s2),thT (.w a3 b3 s3)]=[Th.f p0,.f p1,.w a2 b2 s2,.w a3 b3 s3].map thT:=rfl
   have h6:[L2.T.str x0,.str x1,.str x2,.str x3,.str y0,.str y1,.str y2,.str y3]=strsT [x0,x1,x2,x3,y0,y1,y2,y3]:=rfl
   have l54:[thT (.f p0),thT (.f p1)].length+[thT (.w a2 b2 s2),thT (.w a3 b3 s3)].length≤1000:=by show 4≤1000;decide
   generalize [thT (.f p0),thT (.f p1)]=L5 at h54 l54 ⊢
   generalize [thT (.w a2 b2 s2),thT (.w a3 b3 s3)]=L4 at h54 l54 ⊢
   generalize [L2.T.str x0,.str x1,.str x2,.str x3,.str y0,.str y1,.str y2,.str y3]=L6 at h6 ⊢
   generalize [x0,x1,x2,x3,y0,y1,y2,y3]=xs at h6 tx
   generalize [Th.f p0,.f p1,.w a2 b2 s2,.w a3 b3 s3]=ths at h54 tx
   clear cl cat ssp lsp o0 o1 o2 o3 f01 f02 f11 f12 bx
   subst h6
   refine ⟨Told ths,told_nil _,?_⟩
   refine ⟨⟨by decide,by decide⟩,?_⟩
   refine loopT_inv (fun i' E=>∃(A B c:Int) (v8 v9 v10 v11 v12 v13:Option U),E=[some (.p (.lst (intsT ns))),some (.o false (intsT cs)),some (.p (.int (0+(i:Int)))),some (.o false [.int A,.int B,.int c]),some (.o false L4),some (.o false L5),some (.o false (strsT xs)),none,v8,v9,v10,v11,v12,v13]∧Bx [.int A,.int B,.int c] (150+2*i')) ⟨A,B,c,_,_,_,_,_,_,rfl,by simpa using hb⟩ ?_ ?_
   ·clear hb
    rintro i' t rest' E hi' ⟨A,B,c,v8,v9,v10,v11,v12,v13,rfl,hb⟩ KK'
    obtain ⟨hin',rfl⟩:=rng_at hi'
    refine ⟨_,2,_,rfl,hb,by omega,by decide,by decide,fun wh y1 w0 w1 b1=>?_⟩
    obtain ⟨A1,B1,c1,rfl,_⟩:=id b1
    refine ⟨_,8,_,rfl,b1,by omega,by decide,by decide,fun at' y2 t0 t1 b2=>?_⟩
    obtain ⟨A2,B2,c2,rfl,_⟩:=id b2
    obtain ⟨x,hx,lx,hc⟩:=tx_all tx h54 w0 w1 t0 t1
    rcases hc with ⟨th,ok,h4,hf,hat,rfl,sx,hdue⟩ | ⟨hno,ask,hdue⟩
    ·cases th with
     | f p=>
      obtain ⟨ts,ets,s1,s2,s3,s4⟩:=th_sh ok
      cases ets
      show o1 (atI (strsT xs) at') _
      rw [hx]
      change AskS [L2.A.v (.int (thK (.f p))),.v (.str x)] _
      refine ask_own ok lx sx _ ?_
      show if decide (at'<4)=true then _ else _
      rw [decide_eq_true h4,if_pos rfl]
      refine ⟨⟨by decide,by decide⟩,Nat.zero_le _,?_⟩
      show if (thK (.f p)==at'.fdiv 2)=true then _ else _
      rw [if_pos (by simpa using hf)]
      refine ⟨l54,?_⟩
      show o1 (atI (L5++L4) at') _
      rw [hat]
      refine ⟨Nat.le_trans (dT_th (.f p)) (by decide),by show (!(L2.eqT _ _))=false;rw [eqT_refl];rfl,rfl,_,at',shw (dueT ths _ at'),rfl,rfl,told_stab w0 w1 t0 t1,?_⟩
      refine ⟨s1,s2,s3,s4,rfl,by rw [hdue];rfl,s1,s2,s3,s4,rfl,by rw [hdue];rfl,?_⟩
      refine ⟨Nat.zero_le _,?_⟩
      refine ⟨p.1,p.2,rfl,dig_small (fr60 ok.2).1,dig_small (fr60 ok.2).2,fun u hu=>?_⟩
      obtain rfl:u=x:=sg_ext (hu.trans sx.symm)
      show o1 (atI (strsT xs) at') _
      rw [hx]
      refine ⟨Nat.zero_le _,?_⟩
      show if (!(L2.eqT (.str u) (.str u)))=true then _ else _
      rw [eqT_refl,if_neg (by decide)]
      exact KK' _ ⟨A2,B2,c2,_,_,_,_,_,_,rfl,b2.mono (by omega)⟩
     | w a b ps=>
      obtain ⟨ts,ets,s1,s2,s3,s4⟩:=th_sh ok
      cases ets
      show o1 (atI (strsT xs) at') _
      rw [hx]
      change AskS [L2.A.v (.int (thK (.w a b ps))),.v (.str x)] _
      refine ask_own ok lx sx _ ?_
      show if decide (at'<4)=true then _ else _
      rw [decide_eq_true h4,if_pos rfl]
      refine ⟨⟨by decide,by decide⟩,Nat.zero_le _,?_⟩
      show if (thK (.w a b ps)==at'.fdiv 2)=true then _ else _
      rw [if_pos (by simpa using hf)]
      refine ⟨l54,?_⟩
      show o1 (atI (L5++L4) at') _
      rw [hat]
      refine ⟨Nat.le_trans (dT_th (.w a b ps)) (by decide),by show (!(L2.eqT _ _))=false;rw [eqT_refl];rfl,rfl,_,at',shw (dueT ths _ at'),rfl,rfl,told_stab w0 w1 t0 t1,?_⟩
      refine ⟨s1,s2,s3,s4,rfl,by rw [hdue];rfl,s1,s2,s3,s4,rfl,by rw [hdue];rfl,?_⟩
      refine ⟨Nat.zero_le _,?_⟩
      refine ⟨a,b,ps,rfl,ok.1,chain_nvP ok.2.2.2,ok.2.2.1,fun u hu lu=>?_⟩
      obtain rfl:u=x:=sg_ext (hu.trans sx.symm)
      show o1 (atI (strsT xs) at') _
      rw [hx]
      refine ⟨Nat.zero_le _,?_⟩
      show if (!(L2.eqT (.str u) (.str u)))=true then _ else _
      rw [eqT_refl,if_neg (by decide)]
      exact KK' _ ⟨A2,B2,c2,_,_,_,_,_,_,rfl,b2.mono (by omega)⟩
    ·show o1 (atI (strsT xs) at') _
     rw [hx]
     change AskS [L2.A.v (.int wh),.v (.str x)] _
     refine ask _ ?_
     obtain ⟨z,hz⟩:∃z,z=word wh:=⟨_,rfl⟩
     rw [←hz] at hdue ⊢
     have pick:atI [L2.T.str (Str.ofString "number"),.str (Str.ofString "path")] wh=some (.str z):=by
      have:wh=0∨wh=1:=by omega
      rcases this with rfl | rfl
      ·rw [hz];rfl
      ·rw [hz];rfl
     show if decide (at'<4)=true then _ else _
     by_cases c4:at'<4
     ·rw [decide_eq_true c4,if_pos rfl]
      refine ⟨⟨by decide,by decide⟩,Nat.zero_le _,?_⟩
      show if (wh==at'.fdiv 2)=true then _ else _
      rw [if_neg (by simpa using fun e=>hno ⟨c4,e⟩)]
      show o1 (atI [L2.T.str (Str.ofString "number"),.str (Str.ofString "path")] wh) _
      rw [pick]
      refine ⟨Nat.zero_le _,by show (!(L2.eqT _ _))=false;rw [eqT_refl];rfl,rfl,wh,at',shw (dueT ths wh at'),rfl,rfl,told_stab w0 w1 t0 t1,?_⟩
      refine ⟨rfl,by rw [hdue];rfl,rfl,by rw [hdue];rfl,?_⟩
      exact KK' _ ⟨A2,B2,c2,_,_,_,_,_,_,rfl,b2.mono (by omega)⟩
     ·rw [decide_eq_false c4,if_neg (by decide)]
      show o1 (atI [L2.T.str (Str.ofString "number"),.str (Str.ofString "path")] wh) _
      rw [pick]
      refine ⟨Nat.zero_le _,by show (!(L2.eqT _ _))=false;rw [eqT_refl];rfl,rfl,wh,at',shw (dueT ths wh at'),rfl,rfl,told_stab w0 w1 t0 t1,?_⟩
      refine ⟨rfl,by rw [hdue];rfl,rfl,by rw [hdue];rfl,?_⟩
      exact KK' _ ⟨A2,B2,c2,_,_,_,_,_,_,rfl,b2.mono (by omega)⟩
   ·rintro E ⟨A,B,c,v8,v9,v10,v11,v12,v13,rfl,hb⟩
    exact KK _ ⟨_,_,_,_,_,_,_,_,_,_,_,_,rfl⟩
  ·rintro E ⟨v2,v3,v4,v5,v6,v7,v8,v9,v10,v11,v12,v13,rfl⟩
   exact ⟨rfl,q⟩
end
end My
set_option Elab.async false
set_option linter.all false
set_option maxRecDepth 100000
set_option maxHeartbeats 4000000
namespace My
open PySem L2 PyProof.Rows
theorem len1 {α:Type} {us:List α} (h:us.length=1):∃a0,us=[a0]:=by
 cases us with
 | nil=>simp at h
 | cons a0 us=>
 replace h:us.length=0:=by simpa using h
 cases us with
 | nil=>exact ⟨a0,rfl⟩
 | cons a us=>simp at h
theorem len2 {α:Type} {us:List α} (h:us.length=2):∃a0 a1,us=[a0,a1]:=by
 cases us with
 | nil=>simp at h
 | cons a0 us=>
 replace h:us.length=1:=by simpa using h
 cases us with
 | nil=>simp at h
 | cons a1 us=>
 replace h:us.length=0:=by simpa using h
 cases us with
 | nil=>exact ⟨a0,a1,rfl⟩
 | cons a us=>simp at h
def xokIn (K:PySem.W.Frag) (C:Addr):Bool:=
 PySem.W.findIn K (.ref C) "__getattribute__"==some (some (.builtin "BaseException.__getattribute__"))&&PySem.W.findIn K (.ref C) "__getattr__"==some none&&PySem.W.findIn K (.ref C) "__setattr__"==some (some (.builtin "object.__setattr__"))
&&PySem.W.mroIn K C (.type "BaseException")==some true&&PySem.W.mroIn K C (.type "object")==some true&&PySem.W.findIn K (.ref C) "__class__"==some (some (.builtin "object.__class__"))
&&PySem.W.specialIn K (.builtin "object.__class__") "__get__"==some (some (.builtin "getset_descriptor.__get__"))&&PySem.W.takesIn K (.builtin "object.__class__")==some true&&PySem.W.hasDictIn K C
theorem xok_of {K:PySem.W.Frag} {C:Addr} (e:xokIn K C=true):XCls K C:=by
 simp only [xokIn,Bool.and_eq_true,beq_iff_eq] at e
 obtain ⟨⟨⟨⟨⟨⟨⟨⟨e1,e2⟩,e3⟩,e4⟩,e5⟩,e6⟩,e7⟩,e8⟩,e9⟩:=e
 exact ⟨e1,e2,e3,e4,e5,e6,e7,e8,e9⟩
def dueAIn (K:PySem.W.Frag) (CN CP CS D:Addr):Bool:=PySem.W.kitOne K (.ref CN) (.ref CN)==some true&&PySem.W.kitOne K (.ref CN) (.ref CP)==some false&&PySem.W.kitOne K (.ref CN) (.ref CS)==some false&&PySem.W.kitOne K (.ref CP) (.ref CN)==some false&&PySem.W.kitOne K (.ref CP) (.ref CP)==some true&&PySem.W.kitOne K (.ref CP) (.ref CS)==some false&&PySem.W.kitCls K (.ref CN) (.ref D)==some true&&PySem.W.kitCls K (.ref CP) (.ref D)==some true&&PySem.W.mroIn K D (.type "BaseException")==some true&&PySem.W.kitCls K (.ref CP) (.ref CN)==some false
structure DueB (K:PySem.W.Frag) (mg:Str→Option Value) (CN CP CS D:Addr):Prop extends DueA K mg CN CP CS D where
 pnC:PySem.W.kitCls K (.ref CP) (.ref CN)=some false
 bN:PySem.W.mroIn K CN (.type "BaseException")=some true
theorem dueA_of {K:PySem.W.Frag} {mg:Str→Option Value} {C CP CS D:Addr} (e:dueAIn K C CP CS D=true) (x:xokIn K C=true) (y:xokIn K CP=true) (a:mg "BadNumber" = some (.ref C)) (b:mg "BadPath" = some (.ref CP)) (c:mg "BadSheet" = some (.ref CS)) (d:mg "SideError" = some (.ref D)):DueB K mg C CP CS D:=by
 simp only [dueAIn,Bool.and_eq_true,beq_iff_eq] at e
 obtain ⟨⟨⟨⟨⟨⟨⟨⟨⟨e1,e2⟩,e3⟩,e4⟩,e5⟩,e6⟩,e7⟩,e8⟩,e9⟩,e10⟩:=e
 have hb:=x
 simp only [xokIn,Bool.and_eq_true,beq_iff_eq] at hb
 exact ⟨⟨a,b,c,d,xok_of x,xok_of y,e1,e2,e3,e4,e5,e6,e7,e8,e9⟩,e10,hb.1.1.1.1.1.2⟩
def spLaw (K:PySem.W.Frag):Sp:=fun vs H Q _=>∃(a:Addr) (ns:List Int),vs=[.ref a]∧SqL K H a (ns.map V.int)∧ns.length≤63∧∀H',Q (.bl true) H'
theorem law_sp {K:PySem.W.Frag} (vs:List V) (H:Hp) (Q:VK) (E:XK) (h:spLaw K vs H Q E):spOf K tLaw vs H Q E:=by
 obtain ⟨a,ns,rfl,hs,hl,q⟩:=h
 have no:∀b,¬Ow (fun a=>(none:Option Addr)=some a) [some (V.ref a)] [some (.p (.lst (intsT ns)))] b:=fun b z=>by
  rcases z with z | ⟨i,k,xs,h1,_⟩
  ·cases z
  ·match i,h1 with
   | 0,h1=>simp at h1
   | _+1,h1=>simp at h1
 have ii:∀ns:List Int,Rps K H (Ow (fun a=>(none:Option Addr)=some a) [some (V.ref a)] [some (.p (.lst (intsT ns)))]) (intsT ns) (ns.map V.int):=fun ns=>by
  have key:∀(O:Addr→Prop) (ms:List Int),Rps K H O (intsT ms) (ms.map V.int):=fun O ms=>by
   induction ms with
   | nil=>rfl
   | cons m ms ih=>exact ⟨_,_,rfl,rfl,ih⟩
  exact key _ ns
 refine ⟨[.v (.lst (intsT ns))],fun r _=>r = .v (.bl true),none,⟨rfl,fun i t h=>?_,fun i k xs h=>?_,fun i j k l xs ys b h=>?_,fun b z=>by cases z⟩,fun _=>rfl,⟨ns,rfl,hl,rfl⟩,fun r xs v H' e _ _ rr=>?_⟩
 ·match i,h with
  | 0,h=>
   simp [enA] at h;subst h
   exact ⟨_,rfl,a,_,rfl,hs.imp (fun h=>⟨no a,h⟩) id,ii ns⟩
  | _+1,h=>simp [enA] at h
 ·match i,h with
  | 0,h=>simp [enA] at h
  | _+1,h=>simp [enA] at h
 ·match i,h with
  | 0,h=>simp [enA] at h
  | _+1,h=>simp [enA] at h
 ·subst e
  cases rr
  exact q H'
def Fc (K:PySem.W.Frag) (nm:Str) (st:Stmt) (f:Addr):Prop:=∃(oc:Value) (od:Option Addr) (kV dc pm:Value) (an:Option Addr) (cd ct:Value) (sl:Array (Option Value)),
 PySem.W.nsIn K mainGlobals nm=some (some (.ref f))∧K.lookup f=some ⟨oc,od,.func (PySem.W.fnOf nm nm (defArgs st) (defBody st) (defScope st) .none kV dc pm an cd ct),sl⟩∧PySem.W.codeIn K cd nm=true∧PySem.W.keepIn K (.ref f)=true
theorem fc {K:PySem.W.Frag} {nm:Str} {st:Stmt} {f:Addr} {oc:Value} {od:Option Addr} {kV dc pm:Value} {an:Option Addr} {cd ct:Value} {sl:Array (Option Value)} (a:PySem.W.nsIn K mainGlobals nm=some (some (.ref f))) (l:K.lookup f=some ⟨oc,od,.func (PySem.W.fnOf nm nm (defArgs st) (defBody st) (defScope st) .none kV dc pm an cd ct),sl⟩) (c:PySem.W.codeIn K cd nm=true) (k:PySem.W.keepIn K (.ref f)=true):Fc K nm st f:=⟨_,_,_,_,_,_,_,_,_,a,l,c,k⟩
theorem all_mk {l:PySem.W.OpenLaw} {w:World} {K:PySem.W.Frag} {h:Heap} {mg:Str→Option Value} {fa f0 f1 f2 f3 f4 f5 f6 f7 f8 f9 f10 f11 f12 f13 f14 f15 f16 f17 f18 f19 f20 f21 f22 f23 f24 f25 f26 f27 f28 f29 f30 f31 f32 f33 f34 f35 f36 f37 f38 f39 f40 f41 f42 f43 f44 f45 f46:Addr} (X:K.In h) (G:h.Ns mainGlobals mg) (hfa:mg "law" = some (.ref fa))
  (p0:Fc K "_law_take" s_take f0)
  (p1:Fc K "_law_box_of" s_box_of f1)
  (p2:Fc K "common_divisor" s_common_divisor f2)
  (p3:Fc K "fraction" s_fraction f3)
  (p4:Fc K "added" s_added f4)
  (p5:Fc K "taken" s_taken f5)
  (p6:Fc K "times" s_times f6)
  (p7:Fc K "dot" s_dot f7)
  (p8:Fc K "whole_root" s_whole_root f8)
  (p9:Fc K "root_of" s_root_of f9)
  (p10:Fc K "minus" s_minus f10)
  (p11:Fc K "length_of" s_length_of f11)
  (p12:Fc K "is_side" s_is_side f12)
  (p13:Fc K "end_of" s_end_of f13)
  (p14:Fc K "number_text" s_number_text f14)
  (p15:Fc K "fraction_text" s_fraction_text f15)
  (p16:Fc K "is_number" s_is_number f16)
  (p17:Fc K "is_fraction" s_is_fraction f17)
  (p18:Fc K "is_plain" s_is_plain f18)
  (p19:Fc K "is_point" s_is_point f19)
  (p20:Fc K "is_piece" s_is_piece f20)
  (p21:Fc K "can_begin_at" s_can_begin_at f21)
  (p22:Fc K "is_path" s_is_path f22)
  (p23:Fc K "_law_lowest" s_lowest f23)
  (p24:Fc K "_law_sum" s_sum f24)
  (p25:Fc K "_law_less" s_less f25)
  (p26:Fc K "_law_product" s_product f26)
  (p27:Fc K "_law_joined" s_joined f27)
  (p28:Fc K "_law_off" s_off f28)
  (p29:Fc K "_law_scaled_by" s_scaled_by f29)
  (p30:Fc K "_law_to_left" s_to_left f30)
  (p31:Fc K "_law_unit_of" s_unit_of f31)
  (p32:Fc K "_law_move_by" s_move_by f32)
  (p33:Fc K "_law_move_back" s_move_back f33)
  (p34:Fc K "_law_path_of" s_path_of f34)
  (p35:Fc K "_law_path_by" s_path_by f35)
  (p36:Fc K "_law_fraction_by" s_fraction_by f36)
  (p37:Fc K "fraction_from" s_fraction_from f37)
  (p38:Fc K "point_from" s_point_from f38)
  (p39:Fc K "pieces_from" s_pieces_from f39)
  (p40:Fc K "point_text" s_point_text f40)
  (p41:Fc K "piece_text" s_piece_text f41)
  (p42:Fc K "path_text" s_path_text f42)
  (p43:Fc K "path_from" s_path_from f43)
  (p44:Fc K "_law_asked" s_asked f44)
  (p45:Fc K "_law_folded" s_folded f45)
  (p46:Fc K "law" s_law f46)
  {ti_MOST_FIGURES:Tok} (q_MOST_FIGURES:PySem.W.nsIn K mainGlobals "MOST_FIGURES" = some (some (.int 60 ti_MOST_FIGURES)))
  {ti_PART:Tok} (q_PART:PySem.W.nsIn K mainGlobals "PART" = some (some (.int 1000000000000000000000000000000000000000000000000000000000000 ti_PART)))
  {ti_PART_FIGURES:Tok} (q_PART_FIGURES:PySem.W.nsIn K mainGlobals "PART_FIGURES" = some (some (.int 60 ti_PART_FIGURES)))
  {C_BadNumber C_BadPath C_BadSheet C_SideError:Addr}
  (a_BadNumber:PySem.W.nsIn K mainGlobals "BadNumber" = some (some (.ref C_BadNumber)))
  (a_BadPath:PySem.W.nsIn K mainGlobals "BadPath" = some (some (.ref C_BadPath)))
  (a_BadSheet:PySem.W.nsIn K mainGlobals "BadSheet" = some (some (.ref C_BadSheet)))
  (a_SideError:PySem.W.nsIn K mainGlobals "SideError" = some (some (.ref C_SideError)))
  (x_N:xclsIn K C_BadNumber none=true) (o_N:xokIn K C_BadNumber=true) (x_P:xclsIn K C_BadPath none=true) (o_P:xokIn K C_BadPath=true) (u_A:dueAIn K C_BadNumber C_BadPath C_BadSheet C_SideError=true)
  (z_isinstance:PySem.W.nsIn K mainGlobals "isinstance" = some none) (z_abs:PySem.W.nsIn K mainGlobals "abs" = some none) (z_divmod:PySem.W.nsIn K mainGlobals "divmod" = some none) (z_min:PySem.W.nsIn K mainGlobals "min" = some none) (z_max:PySem.W.nsIn K mainGlobals "max" = some none) (z_all:PySem.W.nsIn K mainGlobals "all" = some none) (z_len:PySem.W.nsIn K mainGlobals "len" = some none) (z_int:PySem.W.nsIn K mainGlobals "int" = some none) (z_bool:PySem.W.nsIn K mainGlobals "bool" = some none) (z_tuple:PySem.W.nsIn K mainGlobals "tuple" = some none) (z_list:PySem.W.nsIn K mainGlobals "list" = some none) (z_str:PySem.W.nsIn K mainGlobals "str" = some none) (z_range:PySem.W.nsIn K mainGlobals "range" = some none) (z_enumerate:PySem.W.nsIn K mainGlobals "enumerate" = some none) (z_zip:PySem.W.nsIn K mainGlobals "zip" = some none) :
  ∃fd:FuncData,(∀(s:Shared) (v:Value),BindsTo s fd ⟨[v],[]⟩ [("_law_script",v)])∧∀base:Heap,K.In base→base.Ns mainGlobals mg→FnOk l.prog w K mg base CX0 10 fa fd ["_law_script"] (spLaw K):=by
 obtain ⟨_,_,_,_,_,_,_,_,_,a0,l0,c0,k0⟩:=p0
 obtain ⟨_,_,_,_,_,_,_,_,_,a1,l1,c1,k1⟩:=p1
 obtain ⟨_,_,_,_,_,_,_,_,_,a2,l2,c2,k2⟩:=p2
 obtain ⟨_,_,_,_,_,_,_,_,_,a3,l3,c3,k3⟩:=p3
 obtain ⟨_,_,_,_,_,_,_,_,_,a4,l4,c4,k4⟩:=p4
 obtain ⟨_,_,_,_,_,_,_,_,_,a5,l5,c5,k5⟩:=p5
 obtain ⟨_,_,_,_,_,_,_,_,_,a6,l6,c6,k6⟩:=p6
 obtain ⟨_,_,_,_,_,_,_,_,_,a7,l7,c7,k7⟩:=p7
 obtain ⟨_,_,_,_,_,_,_,_,_,a8,l8,c8,k8⟩:=p8
 obtain ⟨_,_,_,_,_,_,_,_,_,a9,l9,c9,k9⟩:=p9
 obtain ⟨_,_,_,_,_,_,_,_,_,a10,l10,c10,k10⟩:=p10
 obtain ⟨_,_,_,_,_,_,_,_,_,a11,l11,c11,k11⟩:=p11
 obtain ⟨_,_,_,_,_,_,_,_,_,a12,l12,c12,k12⟩:=p12
 obtain ⟨_,_,_,_,_,_,_,_,_,a13,l13,c13,k13⟩:=p13
 obtain ⟨_,_,_,_,_,_,_,_,_,a14,l14,c14,k14⟩:=p14
 obtain ⟨_,_,_,_,_,_,_,_,_,a15,l15,c15,k15⟩:=p15
 obtain ⟨_,_,_,_,_,_,_,_,_,a16,l16,c16,k16⟩:=p16
 obtain ⟨_,_,_,_,_,_,_,_,_,a17,l17,c17,k17⟩:=p17
 obtain ⟨_,_,_,_,_,_,_,_,_,a18,l18,c18,k18⟩:=p18
 obtain ⟨_,_,_,_,_,_,_,_,_,a19,l19,c19,k19⟩:=p19
 obtain ⟨_,_,_,_,_,_,_,_,_,a20,l20,c20,k20⟩:=p20
 obtain ⟨_,_,_,_,_,_,_,_,_,a21,l21,c21,k21⟩:=p21
 obtain ⟨_,_,_,_,_,_,_,_,_,a22,l22,c22,k22⟩:=p22
 obtain ⟨_,_,_,_,_,_,_,_,_,a23,l23,c23,k23⟩:=p23
 obtain ⟨_,_,_,_,_,_,_,_,_,a24,l24,c24,k24⟩:=p24
 obtain ⟨_,_,_,_,_,_,_,_,_,a25,l25,c25,k25⟩:=p25
 obtain ⟨_,_,_,_,_,_,_,_,_,a26,l26,c26,k26⟩:=p26
 obtain ⟨_,_,_,_,_,_,_,_,_,a27,l27,c27,k27⟩:=p27
 obtain ⟨_,_,_,_,_,_,_,_,_,a28,l28,c28,k28⟩:=p28
 obtain ⟨_,_,_,_,_,_,_,_,_,a29,l29,c29,k29⟩:=p29
 obtain ⟨_,_,_,_,_,_,_,_,_,a30,l30,c30,k30⟩:=p30
 obtain ⟨_,_,_,_,_,_,_,_,_,a31,l31,c31,k31⟩:=p31
 obtain ⟨_,_,_,_,_,_,_,_,_,a32,l32,c32,k32⟩:=p32
 obtain ⟨_,_,_,_,_,_,_,_,_,a33,l33,c33,k33⟩:=p33
 obtain ⟨_,_,_,_,_,_,_,_,_,a34,l34,c34,k34⟩:=p34
 obtain ⟨_,_,_,_,_,_,_,_,_,a35,l35,c35,k35⟩:=p35
 obtain ⟨_,_,_,_,_,_,_,_,_,a36,l36,c36,k36⟩:=p36
 obtain ⟨_,_,_,_,_,_,_,_,_,a37,l37,c37,k37⟩:=p37
 obtain ⟨_,_,_,_,_,_,_,_,_,a38,l38,c38,k38⟩:=p38
 obtain ⟨_,_,_,_,_,_,_,_,_,a39,l39,c39,k39⟩:=p39
 obtain ⟨_,_,_,_,_,_,_,_,_,a40,l40,c40,k40⟩:=p40
 obtain ⟨_,_,_,_,_,_,_,_,_,a41,l41,c41,k41⟩:=p41
 obtain ⟨_,_,_,_,_,_,_,_,_,a42,l42,c42,k42⟩:=p42
 obtain ⟨_,_,_,_,_,_,_,_,_,a43,l43,c43,k43⟩:=p43
 obtain ⟨_,_,_,_,_,_,_,_,_,a44,l44,c44,k44⟩:=p44
 obtain ⟨_,_,_,_,_,_,_,_,_,a45,l45,c45,k45⟩:=p45
 obtain ⟨oc,od,kV,dc,pm,an,cd,ct,sl,a46,l46,c46,k46⟩:=p46
 have e:=hfa.symm.trans (PySem.W.mg_of X G a46)
 cases e
 have T:Txt mg:=⟨PySem.W.mg_none_of X G z_isinstance,PySem.W.mg_none_of X G z_abs,PySem.W.mg_none_of X G z_divmod,PySem.W.mg_none_of X G z_min,PySem.W.mg_none_of X G z_max,PySem.W.mg_none_of X G z_all,PySem.W.mg_none_of X G z_len,PySem.W.mg_none_of X G z_int,PySem.W.mg_none_of X G z_bool,PySem.W.mg_none_of X G z_tuple,PySem.W.mg_none_of X G z_list,PySem.W.mg_none_of X G z_str,PySem.W.mg_none_of X G z_range,PySem.W.mg_none_of X G z_enumerate,PySem.W.mg_none_of X G z_zip⟩
 have c_MOST_FIGURES:ConstI mg "MOST_FIGURES" 60:=⟨_,PySem.W.mg_of X G q_MOST_FIGURES⟩
 have c_PART:ConstI mg "PART" 1000000000000000000000000000000000000000000000000000000000000:=⟨_,PySem.W.mg_of X G q_PART⟩
 have c_PART_FIGURES:ConstI mg "PART_FIGURES" 60:=⟨_,PySem.W.mg_of X G q_PART_FIGURES⟩
 have du:=dueA_of u_A o_N o_P (PySem.W.mg_of X G a_BadNumber) (PySem.W.mg_of X G a_BadPath) (PySem.W.mg_of X G a_BadSheet) (PySem.W.mg_of X G a_SideError)
 have F0:=fun_mk (st:=s_take) l0 c0 k0
 have b0:=F0.binds (ps:=["_law_box","_law_many"]) fun _ _ _ _ _ _ us hl=>by obtain ⟨_,_,rfl⟩:=len2 hl;rfl
 have F1:=fun_mk (st:=s_box_of) l1 c1 k1
 have b1:=F1.binds (ps:=["_law_script","_law_k"]) fun _ _ _ _ _ _ us hl=>by obtain ⟨_,_,rfl⟩:=len2 hl;rfl
 have F2:=fun_mk (st:=s_common_divisor) l2 c2 k2
 have b2:=F2.binds (ps:=["one","other"]) fun _ _ _ _ _ _ us hl=>by obtain ⟨_,_,rfl⟩:=len2 hl;rfl
 have F3:=fun_mk (st:=s_fraction) l3 c3 k3
 have b3:=F3.binds (ps:=["n","d"]) fun _ _ _ _ _ _ us hl=>by obtain ⟨_,_,rfl⟩:=len2 hl;rfl
 have F4:=fun_mk (st:=s_added) l4 c4 k4
 have b4:=F4.binds (ps:=["one","other"]) fun _ _ _ _ _ _ us hl=>by obtain ⟨_,_,rfl⟩:=len2 hl;rfl
 have F5:=fun_mk (st:=s_taken) l5 c5 k5
 have b5:=F5.binds (ps:=["one","other"]) fun _ _ _ _ _ _ us hl=>by obtain ⟨_,_,rfl⟩:=len2 hl;rfl
 have F6:=fun_mk (st:=s_times) l6 c6 k6
 have b6:=F6.binds (ps:=["one","other"]) fun _ _ _ _ _ _ us hl=>by obtain ⟨_,_,rfl⟩:=len2 hl;rfl
 have F7:=fun_mk (st:=s_dot) l7 c7 k7
 have b7:=F7.binds (ps:=["one","other"]) fun _ _ _ _ _ _ us hl=>by obtain ⟨_,_,rfl⟩:=len2 hl;rfl
 have F8:=fun_mk (st:=s_whole_root) l8 c8 k8
 have b8:=F8.binds (ps:=["square"]) fun _ _ _ _ _ _ us hl=>by obtain ⟨_,rfl⟩:=len1 hl;rfl
 have F9:=fun_mk (st:=s_root_of) l9 c9 k9
 have b9:=F9.binds (ps:=["one"]) fun _ _ _ _ _ _ us hl=>by obtain ⟨_,rfl⟩:=len1 hl;rfl
 have F10:=fun_mk (st:=s_minus) l10 c10 k10
 have b10:=F10.binds (ps:=["one","other"]) fun _ _ _ _ _ _ us hl=>by obtain ⟨_,_,rfl⟩:=len2 hl;rfl
 have F11:=fun_mk (st:=s_length_of) l11 c11 k11
 have b11:=F11.binds (ps:=["vector"]) fun _ _ _ _ _ _ us hl=>by obtain ⟨_,rfl⟩:=len1 hl;rfl
 have F12:=fun_mk (st:=s_is_side) l12 c12 k12
 have b12:=F12.binds (ps:=["piece"]) fun _ _ _ _ _ _ us hl=>by obtain ⟨_,rfl⟩:=len1 hl;rfl
 have F13:=fun_mk (st:=s_end_of) l13 c13 k13
 have b13:=F13.binds (ps:=["piece"]) fun _ _ _ _ _ _ us hl=>by obtain ⟨_,rfl⟩:=len1 hl;rfl
 have F14:=fun_mk (st:=s_number_text) l14 c14 k14
 have b14:=F14.binds (ps:=["number"]) fun _ _ _ _ _ _ us hl=>by obtain ⟨_,rfl⟩:=len1 hl;rfl
 have F15:=fun_mk (st:=s_fraction_text) l15 c15 k15
 have b15:=F15.binds (ps:=["one"]) fun _ _ _ _ _ _ us hl=>by obtain ⟨_,rfl⟩:=len1 hl;rfl
 have F16:=fun_mk (st:=s_is_number) l16 c16 k16
 have b16:=F16.binds (ps:=["thing"]) fun _ _ _ _ _ _ us hl=>by obtain ⟨_,rfl⟩:=len1 hl;rfl
 have F17:=fun_mk (st:=s_is_fraction) l17 c17 k17
 have b17:=F17.binds (ps:=["thing"]) fun _ _ _ _ _ _ us hl=>by obtain ⟨_,rfl⟩:=len1 hl;rfl
 have F18:=fun_mk (st:=s_is_plain) l18 c18 k18
 have b18:=F18.binds (ps:=["text"]) fun _ _ _ _ _ _ us hl=>by obtain ⟨_,rfl⟩:=len1 hl;rfl
 have F19:=fun_mk (st:=s_is_point) l19 c19 k19
 have b19:=F19.binds (ps:=["thing"]) fun _ _ _ _ _ _ us hl=>by obtain ⟨_,rfl⟩:=len1 hl;rfl
 have F20:=fun_mk (st:=s_is_piece) l20 c20 k20
 have b20:=F20.binds (ps:=["thing"]) fun _ _ _ _ _ _ us hl=>by obtain ⟨_,rfl⟩:=len1 hl;rfl
 have F21:=fun_mk (st:=s_can_begin_at) l21 c21 k21
 have b21:=F21.binds (ps:=["piece","begin"]) fun _ _ _ _ _ _ us hl=>by obtain ⟨_,_,rfl⟩:=len2 hl;rfl
 have F22:=fun_mk (st:=s_is_path) l22 c22 k22
 have b22:=F22.binds (ps:=["thing"]) fun _ _ _ _ _ _ us hl=>by obtain ⟨_,rfl⟩:=len1 hl;rfl
 have F23:=fun_mk (st:=s_lowest) l23 c23 k23
 have b23:=F23.binds (ps:=["_law_n","_law_d"]) fun _ _ _ _ _ _ us hl=>by obtain ⟨_,_,rfl⟩:=len2 hl;rfl
 have F24:=fun_mk (st:=s_sum) l24 c24 k24
 have b24:=F24.binds (ps:=["_law_one","_law_other"]) fun _ _ _ _ _ _ us hl=>by obtain ⟨_,_,rfl⟩:=len2 hl;rfl
 have F25:=fun_mk (st:=s_less) l25 c25 k25
 have b25:=F25.binds (ps:=["_law_one","_law_other"]) fun _ _ _ _ _ _ us hl=>by obtain ⟨_,_,rfl⟩:=len2 hl;rfl
 have F26:=fun_mk (st:=s_product) l26 c26 k26
 have b26:=F26.binds (ps:=["_law_one","_law_other"]) fun _ _ _ _ _ _ us hl=>by obtain ⟨_,_,rfl⟩:=len2 hl;rfl
 have F27:=fun_mk (st:=s_joined) l27 c27 k27
 have b27:=F27.binds (ps:=["_law_one","_law_other"]) fun _ _ _ _ _ _ us hl=>by obtain ⟨_,_,rfl⟩:=len2 hl;rfl
 have F28:=fun_mk (st:=s_off) l28 c28 k28
 have b28:=F28.binds (ps:=["_law_one","_law_other"]) fun _ _ _ _ _ _ us hl=>by obtain ⟨_,_,rfl⟩:=len2 hl;rfl
 have F29:=fun_mk (st:=s_scaled_by) l29 c29 k29
 have b29:=F29.binds (ps:=["_law_vector","_law_share"]) fun _ _ _ _ _ _ us hl=>by obtain ⟨_,_,rfl⟩:=len2 hl;rfl
 have F30:=fun_mk (st:=s_to_left) l30 c30 k30
 have b30:=F30.binds (ps:=["_law_vector"]) fun _ _ _ _ _ _ us hl=>by obtain ⟨_,rfl⟩:=len1 hl;rfl
 have F31:=fun_mk (st:=s_unit_of) l31 c31 k31
 have b31:=F31.binds (ps:=["_law_k"]) fun _ _ _ _ _ _ us hl=>by obtain ⟨_,rfl⟩:=len1 hl;rfl
 have F32:=fun_mk (st:=s_move_by) l32 c32 k32
 have b32:=F32.binds (ps:=["_law_box","_law_arcs"]) fun _ _ _ _ _ _ us hl=>by obtain ⟨_,_,rfl⟩:=len2 hl;rfl
 have F33:=fun_mk (st:=s_move_back) l33 c33 k33
 have b33:=F33.binds (ps:=["_law_move"]) fun _ _ _ _ _ _ us hl=>by obtain ⟨_,rfl⟩:=len1 hl;rfl
 have F34:=fun_mk (st:=s_path_of) l34 c34 k34
 have b34:=F34.binds (ps:=["_law_start","_law_moves"]) fun _ _ _ _ _ _ us hl=>by obtain ⟨_,_,rfl⟩:=len2 hl;rfl
 have F35:=fun_mk (st:=s_path_by) l35 c35 k35
 have b35:=F35.binds (ps:=["_law_box","_law_most"]) fun _ _ _ _ _ _ us hl=>by obtain ⟨_,_,rfl⟩:=len2 hl;rfl
 have F36:=fun_mk (st:=s_fraction_by) l36 c36 k36
 have b36:=F36.binds (ps:=["_law_box"]) fun _ _ _ _ _ _ us hl=>by obtain ⟨_,rfl⟩:=len1 hl;rfl
 have F37:=fun_mk (st:=s_fraction_from) l37 c37 k37
 have b37:=F37.binds (ps:=["text"]) fun _ _ _ _ _ _ us hl=>by obtain ⟨_,rfl⟩:=len1 hl;rfl
 have F38:=fun_mk (st:=s_point_from) l38 c38 k38
 have b38:=F38.binds (ps:=["words"]) fun _ _ _ _ _ _ us hl=>by obtain ⟨_,rfl⟩:=len1 hl;rfl
 have F39:=fun_mk (st:=s_pieces_from) l39 c39 k39
 have b39:=F39.binds (ps:=["words"]) fun _ _ _ _ _ _ us hl=>by obtain ⟨_,rfl⟩:=len1 hl;rfl
 have F40:=fun_mk (st:=s_point_text) l40 c40 k40
 have b40:=F40.binds (ps:=["point"]) fun _ _ _ _ _ _ us hl=>by obtain ⟨_,rfl⟩:=len1 hl;rfl
 have F41:=fun_mk (st:=s_piece_text) l41 c41 k41
 have b41:=F41.binds (ps:=["piece"]) fun _ _ _ _ _ _ us hl=>by obtain ⟨_,rfl⟩:=len1 hl;rfl
 have F42:=fun_mk (st:=s_path_text) l42 c42 k42
 have b42:=F42.binds (ps:=["path"]) fun _ _ _ _ _ _ us hl=>by obtain ⟨_,rfl⟩:=len1 hl;rfl
 have F43:=fun_mk (st:=s_path_from) l43 c43 k43
 have b43:=F43.binds (ps:=["text"]) fun _ _ _ _ _ _ us hl=>by obtain ⟨_,rfl⟩:=len1 hl;rfl
 have F44:=fun_mk (st:=s_asked) l44 c44 k44
 have b44:=F44.binds (ps:=["_law_which","_law_thing"]) fun _ _ _ _ _ _ us hl=>by obtain ⟨_,_,rfl⟩:=len2 hl;rfl
 have F45:=fun_mk (st:=s_folded) l45 c45 k45
 have b45:=F45.binds (ps:=["_law_script","_law_many"]) fun _ _ _ _ _ _ us hl=>by obtain ⟨_,_,rfl⟩:=len2 hl;rfl
 have F46:=fun_mk (st:=s_law) l46 c46 k46
 refine ⟨PySem.W.fnOf "law" "law" (defArgs s_law) (defBody s_law) (defScope s_law) .none kV dc pm an cd ct,fun s v=>.of_eq rfl,fun base _ _=>?_⟩
 have g_take:Fn l.prog w K mg base 1 "_law_take" ["_law_box","_law_many"] (spOf K tTake):=⟨⟨_,_,ok_take F0 T ,PySem.W.mg_of X G a0,k0,b0⟩⟩
 have g_box_of:Fn l.prog w K mg base 1 "_law_box_of" ["_law_script","_law_k"] (spOf K tBoxOf):=⟨⟨_,_,ok_box_of F1 T ,PySem.W.mg_of X G a1,k1,b1⟩⟩
 have g_common_divisor:Fn l.prog w K mg base 1 "common_divisor" ["one","other"] (spOf K tCommon):=⟨⟨_,_,ok_common_divisor F2 T ,PySem.W.mg_of X G a2,k2,b2⟩⟩
 have g_fraction:Fn l.prog w K mg base 2 "fraction" ["n","d"] (spOf K tLow):=⟨⟨_,_,ok_fraction F3 T g_common_divisor,PySem.W.mg_of X G a3,k3,b3⟩⟩
 have g_added:Fn l.prog w K mg base 3 "added" ["one","other"] (spOf K (tBin fadd)):=⟨⟨_,_,ok_added F4 T g_fraction,PySem.W.mg_of X G a4,k4,b4⟩⟩
 have g_taken:Fn l.prog w K mg base 3 "taken" ["one","other"] (spOf K (tBin fsub)):=⟨⟨_,_,ok_taken F5 T g_fraction,PySem.W.mg_of X G a5,k5,b5⟩⟩
 have g_times:Fn l.prog w K mg base 3 "times" ["one","other"] (spOf K (tBin fmul)):=⟨⟨_,_,ok_times F6 T g_fraction,PySem.W.mg_of X G a6,k6,b6⟩⟩
 have g_dot:Fn l.prog w K mg base 4 "dot" ["one","other"] (spOf K (tVV fdot)):=⟨⟨_,_,ok_dot F7 T g_times g_added,PySem.W.mg_of X G a7,k7,b7⟩⟩
 have g_whole_root:Fn l.prog w K mg base 1 "whole_root" ["square"] (spOf K tWhole):=⟨⟨_,_,ok_whole_root F8 T ,PySem.W.mg_of X G a8,k8,b8⟩⟩
 have g_root_of:Fn l.prog w K mg base 2 "root_of" ["one"] (spOf K tRoot):=⟨⟨_,_,ok_root_of F9 T g_whole_root,PySem.W.mg_of X G a9,k9,b9⟩⟩
 have g_minus:Fn l.prog w K mg base 4 "minus" ["one","other"] (spOf K tOff):=⟨⟨_,_,ok_minus F10 T g_taken,PySem.W.mg_of X G a10,k10,b10⟩⟩
 have g_length_of:Fn l.prog w K mg base 5 "length_of" ["vector"] (spOf K tLen):=⟨⟨_,_,ok_length_of F11 T g_root_of g_dot,PySem.W.mg_of X G a11,k11,b11⟩⟩
 have g_is_side:Fn l.prog w K mg base 1 "is_side" ["piece"] (spOf K tIsSide):=⟨⟨_,_,ok_is_side F12 T ,PySem.W.mg_of X G a12,k12,b12⟩⟩
 have g_end_of:Fn l.prog w K mg base 2 "end_of" ["piece"] (spOf K tEndOf):=⟨⟨_,_,ok_end_of F13 T g_is_side,PySem.W.mg_of X G a13,k13,b13⟩⟩
 have g_number_text:Fn l.prog w K mg base 1 "number_text" ["number"] (spOf K tNumText):=⟨⟨_,_,ok_number_text F14 T c_PART c_PART_FIGURES,PySem.W.mg_of X G a14,k14,b14⟩⟩
 have g_fraction_text:Fn l.prog w K mg base 2 "fraction_text" ["one"] (spOf K tFrText):=⟨⟨_,_,ok_fraction_text F15 T g_number_text,PySem.W.mg_of X G a15,k15,b15⟩⟩
 have g_is_number:Fn l.prog w K mg base 1 "is_number" ["thing"] (spOf K tIsNum):=⟨⟨_,_,ok_is_number F16 T ,PySem.W.mg_of X G a16,k16,b16⟩⟩
 have g_is_fraction:Fn l.prog w K mg base 2 "is_fraction" ["thing"] (spOf K tIsFr):=⟨⟨_,_,ok_is_fraction F17 T g_is_number g_common_divisor,PySem.W.mg_of X G a17,k17,b17⟩⟩
 have g_is_plain:Fn l.prog w K mg base 1 "is_plain" ["text"] (spOf K tPlain):=⟨⟨_,_,ok_is_plain F18 T c_MOST_FIGURES,PySem.W.mg_of X G a18,k18,b18⟩⟩
 have g_is_point:Fn l.prog w K mg base 3 "is_point" ["thing"] (spOf K tIsPoint):=⟨⟨_,_,ok_is_point F19 T g_is_fraction,PySem.W.mg_of X G a19,k19,b19⟩⟩
 have g_is_piece:Fn l.prog w K mg base 4 "is_piece" ["thing"] (spOf K tIsPiece):=⟨⟨_,_,ok_is_piece F20 T g_is_point,PySem.W.mg_of X G a20,k20,b20⟩⟩
 have g_can_begin_at:Fn l.prog w K mg base 6 "can_begin_at" ["piece","begin"] (spOf K tCanBegin):=⟨⟨_,_,ok_can_begin_at F21 T g_end_of g_is_side g_length_of g_minus,PySem.W.mg_of X G a21,k21,b21⟩⟩
 have g_is_path:Fn l.prog w K mg base 7 "is_path" ["thing"] (spOf K tIsPath):=⟨⟨_,_,ok_is_path F22 T g_is_point g_is_piece g_can_begin_at g_end_of,PySem.W.mg_of X G a22,k22,b22⟩⟩
 have g_lowest:Fn l.prog w K mg base 1 "_law_lowest" ["_law_n","_law_d"] (spOf K tLow):=⟨⟨_,_,ok_lowest F23 T ,PySem.W.mg_of X G a23,k23,b23⟩⟩
 have g_sum:Fn l.prog w K mg base 2 "_law_sum" ["_law_one","_law_other"] (spOf K (tBin fadd)):=⟨⟨_,_,ok_sum F24 T g_lowest,PySem.W.mg_of X G a24,k24,b24⟩⟩
 have g_less:Fn l.prog w K mg base 2 "_law_less" ["_law_one","_law_other"] (spOf K (tBin fsub)):=⟨⟨_,_,ok_less F25 T g_lowest,PySem.W.mg_of X G a25,k25,b25⟩⟩
 have g_product:Fn l.prog w K mg base 2 "_law_product" ["_law_one","_law_other"] (spOf K (tBin fmul)):=⟨⟨_,_,ok_product F26 T g_lowest,PySem.W.mg_of X G a26,k26,b26⟩⟩
 have g_joined:Fn l.prog w K mg base 3 "_law_joined" ["_law_one","_law_other"] (spOf K tJoin):=⟨⟨_,_,ok_joined F27 T g_sum,PySem.W.mg_of X G a27,k27,b27⟩⟩
 have g_off:Fn l.prog w K mg base 3 "_law_off" ["_law_one","_law_other"] (spOf K tOff):=⟨⟨_,_,ok_off F28 T g_less,PySem.W.mg_of X G a28,k28,b28⟩⟩
 have g_scaled_by:Fn l.prog w K mg base 3 "_law_scaled_by" ["_law_vector","_law_share"] (spOf K tScBy):=⟨⟨_,_,ok_scaled_by F29 T g_product,PySem.W.mg_of X G a29,k29,b29⟩⟩
 have g_to_left:Fn l.prog w K mg base 1 "_law_to_left" ["_law_vector"] (spOf K tLeft):=⟨⟨_,_,ok_to_left F30 T ,PySem.W.mg_of X G a30,k30,b30⟩⟩
 have g_unit_of:Fn l.prog w K mg base 2 "_law_unit_of" ["_law_k"] (spOf K tUnitOf'):=⟨⟨_,_,ok_unit_of F31 T g_to_left,PySem.W.mg_of X G a31,k31,b31⟩⟩
 have g_move_by:Fn l.prog w K mg base 3 "_law_move_by" ["_law_box","_law_arcs"] (spOf K tMvBy):=⟨⟨_,_,ok_move_by F32 T g_take g_unit_of,PySem.W.mg_of X G a32,k32,b32⟩⟩
 have g_move_back:Fn l.prog w K mg base 4 "_law_move_back" ["_law_move"] (spOf K tMvBack):=⟨⟨_,_,ok_move_back F33 T g_scaled_by,PySem.W.mg_of X G a33,k33,b33⟩⟩
 have g_path_of:Fn l.prog w K mg base 4 "_law_path_of" ["_law_start","_law_moves"] (spOf K tPathOfM):=⟨⟨_,_,ok_path_of F34 T g_joined g_off g_scaled_by,PySem.W.mg_of X G a34,k34,b34⟩⟩
 have g_path_by:Fn l.prog w K mg base 5 "_law_path_by" ["_law_box","_law_most"] (spOf K tPathBy):=⟨⟨_,_,ok_path_by F35 T g_take g_move_by g_move_back g_path_of,PySem.W.mg_of X G a35,k35,b35⟩⟩
 have g_fraction_by:Fn l.prog w K mg base 2 "_law_fraction_by" ["_law_box"] (spOf K tFrBy):=⟨⟨_,_,ok_fraction_by F36 T g_take g_lowest,PySem.W.mg_of X G a36,k36,b36⟩⟩
 have g_fraction_from:FnH l.prog w K mg base 3 "fraction_from" ["text"] (spG K (tFromG C_BadNumber)):=⟨⟨_,_,ok_fraction_from F37 T g_is_plain g_is_fraction g_fraction_text x_N (PySem.W.mg_of X G a_BadNumber),PySem.W.mg_of X G a37,k37,b37⟩⟩
 have g_point_from:FnH l.prog w K mg base 4 "point_from" ["words"] (spG K (tPtG C_BadNumber C_BadPath)):=⟨⟨_,_,ok_point_from F38 T g_fraction_from x_P (PySem.W.mg_of X G a_BadPath),PySem.W.mg_of X G a38,k38,b38⟩⟩
 have g_pieces_from:FnH l.prog w K mg base 5 "pieces_from" ["words"] (spG K (tPcsG C_BadNumber C_BadPath)):=⟨⟨_,_,ok_pieces_from F39 T g_point_from x_P (PySem.W.mg_of X G a_BadPath),PySem.W.mg_of X G a39,k39,b39⟩⟩
 have g_point_text:Fn l.prog w K mg base 3 "point_text" ["point"] (spOf K tPtT):=⟨⟨_,_,ok_point_text F40 T g_fraction_text,PySem.W.mg_of X G a40,k40,b40⟩⟩
 have g_piece_text:Fn l.prog w K mg base 4 "piece_text" ["piece"] (spOf K tPcT):=⟨⟨_,_,ok_piece_text F41 T g_is_side g_point_text,PySem.W.mg_of X G a41,k41,b41⟩⟩
 have g_path_text:Fn l.prog w K mg base 5 "path_text" ["path"] (spOf K tPathT):=⟨⟨_,_,ok_path_text F42 T g_point_text g_piece_text,PySem.W.mg_of X G a42,k42,b42⟩⟩
 have g_path_from:FnH l.prog w K mg base 8 "path_from" ["text"] (spG K (tPathG C_BadPath)):=⟨⟨_,_,ok_path_from F43 T g_point_from g_pieces_from g_is_path x_P (PySem.W.mg_of X G a_BadPath) (PySem.W.mg_of X G a_BadNumber) du.pnC du.bN,PySem.W.mg_of X G a43,k43,b43⟩⟩
 have g_asked:Fn l.prog w K mg base 9 "_law_asked" ["_law_which","_law_thing"] (spOf K tAsked):=⟨⟨_,_,ok_asked F44 T g_fraction_from g_path_from du.toDueA,PySem.W.mg_of X G a44,k44,b44⟩⟩
 have g_folded:Fn l.prog w K mg base 1 "_law_folded" ["_law_script","_law_many"] (spOf K tFolded):=⟨⟨_,_,ok_folded F45 T ,PySem.W.mg_of X G a45,k45,b45⟩⟩
 exact (ok_law F46 T g_folded g_box_of g_take g_path_by g_fraction_by g_fraction_text g_path_text g_asked).imp law_sp
theorem walk {l:PySem.W.OpenLaw} {q:Program} {loose:List Str} {XP:(Str→Option Value)→Heap→Prop} {YP:World→Heap→Prop} {d:DefRec} {K:Params→PySem.W.Frag} (hn:l.most=some 63) (hdf:d.params.defaults=[])
  (hY:∀(w:World) (h:Heap),YP w h→(K w.params).In h)
  (F:∀(w:World) (mg:Str→Option Value) (fa:Addr) (h:Heap),(K w.params).In h→h.Ns mainGlobals mg→mg d.name=some (.ref fa)→
   ∃fd:FuncData,(∀(s:Shared) (u:Value),BindsTo s fd ⟨[u],[]⟩ [("_law_script",u)])∧∀base:Heap,(K w.params).In base→base.Ns mainGlobals mg→FnOk l.prog w (K w.params) mg base CX0 10 fa fd ["_law_script"] (spLaw (K w.params))) :
  PySem.W.WalkO q loose XP YP l.row.toRowW d [] (fun f vs=>PySem.call f vs):=
 L2.walk_of (n:=63) (k:=10) (x:="_law_script") (CX:=fun _=>CX0) (sp:=fun w=>spLaw (K w.params)) hn (by decide) hdf ⟨rfl,by decide,by decide,rfl⟩ hY F (fun _ _ a ns hl _ hS=>⟨a,ns,rfl,hS,hl,fun _=>rfl⟩) fun _ _ _ _ _ z=>z
end My
-- Names taken, so that the last steps make no twins of these constants: their equations are of square size.
def PySem.W.Fast.tw4068056565511614645 : Nat := 0
def PySem.W.Fast.tw1645051095973161944 : Nat := 0
def PySem.W.Fast.tw2499922107656960570 : Nat := 0
def PySem.W.Fast.tw12447799049114943613 : Nat := 0
def PySem.W.Fast.tw11312842714911428510 : Nat := 0
def PySem.W.Fast.tw7851195790493264781 : Nat := 0
def PySem.W.Fast.tw16262762960375937085 : Nat := 0
def PySem.W.Fast.tw4176353025361209339 : Nat := 0
def PySem.W.Fast.tw4607249539896382057 : Nat := 0
def PySem.W.Fast.tw2167596784553250775 : Nat := 0
def PySem.W.Fast.tw17863357728437432402 : Nat := 0
def PySem.W.Fast.tw2162262116033021092 : Nat := 0
def PySem.W.Fast.tw753808791361540628 : Nat := 0
def PySem.W.Fast.tw17994665853052449778 : Nat := 0
def PySem.W.Fast.tw2967445787829745699 : Nat := 0
def PySem.W.Fast.tw5069936825603996043 : Nat := 0
def PySem.W.Fast.tw9971320427155208914 : Nat := 0
def PySem.W.Fast.tw2189563751107650152 : Nat := 0
def PySem.W.Fast.tw11738582190077612553 : Nat := 0
def PySem.W.Fast.tw13917131485667673855 : Nat := 0
def PySem.W.Fast.tw7385476086404225005 : Nat := 0
def PySem.W.Fast.tw1484305570612009151 : Nat := 0
def PySem.W.Fast.tw11109900371154937604 : Nat := 0
def PySem.W.Fast.tw16014830496993567328 : Nat := 0
def PySem.W.Fast.tw5871885117338525792 : Nat := 0
def PySem.W.Fast.tw6866895218466096567 : Nat := 0
def PySem.W.Fast.tw2886803107869882105 : Nat := 0
def PySem.W.Fast.tw6093452491640689839 : Nat := 0
def PySem.W.Fast.tw2336024194584913038 : Nat := 0
def PySem.W.Fast.tw15041036973429525877 : Nat := 0
def PySem.W.Fast.tw4968272970002325421 : Nat := 0
def PySem.W.Fast.tw7725345586086115952 : Nat := 0
def PySem.W.Fast.tw11033276577450080094 : Nat := 0
def PySem.W.Fast.tw8161230091398695412 : Nat := 0
def PySem.W.Fast.tw16328663852357773758 : Nat := 0
def PySem.W.Fast.tw15710813243504558459 : Nat := 0
open PySem PySem.W PyProof.Rows
set_option maxRecDepth 100000 in
set_option maxHeartbeats 0 in
theorem PySem.Challenge.cw_sidecut_k50_texts_again_and_shared_holds : PySem.Challenge.rw_sidecut_k50_texts_again_and_shared.Holds := by
 w_on; o_law; k_head; (case hw => w_witness2)
 k_fill
 refine My.walk (l := PySem.Challenge.rw_sidecut_k50_texts_again_and_shared) rfl rfl (fun w h Y => PySem.W.kIn_of Y) ?F
 case F =>
  intro w mg fa h KX G hmg
  refine' My.all_mk KX G hmg ?p0 ?p1 ?p2 ?p3 ?p4 ?p5 ?p6 ?p7 ?p8 ?p9 ?p10 ?p11 ?p12 ?p13 ?p14 ?p15 ?p16 ?p17 ?p18 ?p19 ?p20 ?p21 ?p22 ?p23 ?p24 ?p25 ?p26 ?p27 ?p28 ?p29 ?p30 ?p31 ?p32 ?p33 ?p34 ?p35 ?p36 ?p37 ?p38 ?p39 ?p40 ?p41 ?p42 ?p43 ?p44 ?p45 ?p46 ?q_MOST_FIGURES ?q_PART ?q_PART_FIGURES ?a_BadNumber ?a_BadPath ?a_BadSheet ?a_SideError ?x_N ?o_N ?x_P ?o_P ?u_A ?z_isinstance ?z_abs ?z_divmod ?z_min ?z_max ?z_all ?z_len ?z_int ?z_bool ?z_tuple ?z_list ?z_str ?z_range ?z_enumerate ?z_zip
  (case p0 => exact My.fc rfl rfl rfl rfl)
  (case p1 => exact My.fc rfl rfl rfl rfl)
  (case p2 => exact My.fc rfl rfl rfl rfl)
  (case p3 => exact My.fc rfl rfl rfl rfl)
  (case p4 => exact My.fc rfl rfl rfl rfl)
  (case p5 => exact My.fc rfl rfl rfl rfl)
  (case p6 => exact My.fc rfl rfl rfl rfl)
  (case p7 => exact My.fc rfl rfl rfl rfl)
  (case p8 => exact My.fc rfl rfl rfl rfl)
  (case p9 => exact My.fc rfl rfl rfl rfl)
  (case p10 => exact My.fc rfl rfl rfl rfl)
  (case p11 => exact My.fc rfl rfl rfl rfl)
  (case p12 => exact My.fc rfl rfl rfl rfl)
  (case p13 => exact My.fc rfl rfl rfl rfl)
  (case p14 => exact My.fc rfl rfl rfl rfl)
  (case p15 => exact My.fc rfl rfl rfl rfl)
  (case p16 => exact My.fc rfl rfl rfl rfl)
  (case p17 => exact My.fc rfl rfl rfl rfl)
  (case p18 => exact My.fc rfl rfl rfl rfl)
  (case p19 => exact My.fc rfl rfl rfl rfl)
  (case p20 => exact My.fc rfl rfl rfl rfl)
  (case p21 => exact My.fc rfl rfl rfl rfl)
  (case p22 => exact My.fc rfl rfl rfl rfl)
  (case p23 => exact My.fc rfl rfl rfl rfl)
  (case p24 => exact My.fc rfl rfl rfl rfl)
  (case p25 => exact My.fc rfl rfl rfl rfl)
  (case p26 => exact My.fc rfl rfl rfl rfl)
  (case p27 => exact My.fc rfl rfl rfl rfl)
  (case p28 => exact My.fc rfl rfl rfl rfl)
  (case p29 => exact My.fc rfl rfl rfl rfl)
  (case p30 => exact My.fc rfl rfl rfl rfl)
  (case p31 => exact My.fc rfl rfl rfl rfl)
  (case p32 => exact My.fc rfl rfl rfl rfl)
  (case p33 => exact My.fc rfl rfl rfl rfl)
  (case p34 => exact My.fc rfl rfl rfl rfl)
  (case p35 => exact My.fc rfl rfl rfl rfl)
  (case p36 => exact My.fc rfl rfl rfl rfl)
  (case p37 => exact My.fc rfl rfl rfl rfl)
  (case p38 => exact My.fc rfl rfl rfl rfl)
  (case p39 => exact My.fc rfl rfl rfl rfl)
  (case p40 => exact My.fc rfl rfl rfl rfl)
  (case p41 => exact My.fc rfl rfl rfl rfl)
  (case p42 => exact My.fc rfl rfl rfl rfl)
  (case p43 => exact My.fc rfl rfl rfl rfl)
  (case p44 => exact My.fc rfl rfl rfl rfl)
  (case p45 => exact My.fc rfl rfl rfl rfl)
  (case p46 => exact My.fc rfl rfl rfl rfl)
  (case q_MOST_FIGURES => k_is)
  (case q_PART => k_is)
  (case q_PART_FIGURES => k_is)
  (case a_BadNumber => k_is)
  (case a_BadPath => k_is)
  (case a_BadSheet => k_is)
  (case a_SideError => k_is)
  (case x_N => kernel_rfl)
  (case o_N => kernel_rfl)
  (case x_P => kernel_rfl)
  (case o_P => kernel_rfl)
  (case u_A => kernel_rfl)
  (case z_isinstance => k_is)
  (case z_abs => k_is)
  (case z_divmod => k_is)
  (case z_min => k_is)
  (case z_max => k_is)
  (case z_all => k_is)
  (case z_len => k_is)
  (case z_int => k_is)
  (case z_bool => k_is)
  (case z_tuple => k_is)
  (case z_list => k_is)
  (case z_str => k_is)
  (case z_range => k_is)
  (case z_enumerate => k_is)
  (case z_zip => k_is)
#print axioms PySem.Challenge.cw_sidecut_k50_texts_again_and_shared_holds
