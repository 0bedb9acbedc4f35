import PyProof.Rows.All
import Wide.All
import OpenK.AllK
import Wide.FinOn
import PyProof.EqAt
import PyProof.EqKinds
import PyProof.TupleCall
import KE.BitLaws
import Open.SpecLaws
import KE.OsHead
import KE.OsGo
import PyProof.ExcBaseAll.Exception
import KE.KRevIter
import KE.KDictList
import PyProof.MaxThree
import PySem.Challenge.RW_leastrepairs_s01_answers
set_option Elab.async false
set_option linter.all false
set_option maxRecDepth 100000
namespace L2
open PySem PySem.Spec PyProof.Rows
abbrev Key:=Sum Int Str
def keyIs:Key→Value→Bool
 | .inl k,v=>Value.isInt k v
 | .inr x,v=>Value.isStrOf x v
def keyH (w:World):Key→Int
 | .inl k=>hashInt k
 | .inr x=>hashStr w x
theorem keyIs_shape:∀{k:Key} {v:Value},keyIs k v=true→(∃i t,k=Sum.inl i∧v=Value.int i t)∨(∃x t,k=Sum.inr x∧v=Value.str x t)
 | .inl i,v,h=>by
  obtain ⟨t,e⟩:=Value.isInt_shape (k:=i) (v:=v) h
  exact .inl ⟨i,t,rfl,e⟩
 | .inr x,v,h=>by
  obtain ⟨t,e⟩:=Value.isStrOf_shape (x:=x) (v:=v) h
  exact .inr ⟨x,t,rfl,e⟩
theorem keyIs_int (i:Int) (t:Tok):keyIs (.inl i) (.int i t)=true:=by simp [keyIs,Value.isInt]
theorem keyIs_str (x:Str) (t:Tok):keyIs (.inr x) (.str x t)=true:=by simp [keyIs,Value.isStrOf]
theorem key_ll (a b:Int):decide ((Sum.inl a:Key)=Sum.inl b)=(a==b):=by
 by_cases e:a=b
 ·subst e;simp
 ·have h:¬(Sum.inl a:Key)=Sum.inl b:=fun q=>e (Sum.inl.inj q)
  rw [decide_eq_false h]
  exact (beq_eq_false_iff_ne.mpr e).symm
theorem key_rr (a b:Str):decide ((Sum.inr a:Key)=Sum.inr b)=decide (a=b):=by
 by_cases e:a=b
 ·subst e;simp
 ·have h:¬(Sum.inr a:Key)=Sum.inr b:=fun q=>e (Sum.inr.inj q)
  rw [decide_eq_false h,decide_eq_false e]
theorem key_lr (a:Int) (b:Str):decide ((Sum.inl a:Key)=Sum.inr b)=false:=decide_eq_false (fun q=>nomatch q)
theorem key_rl (a:Str) (b:Int):decide ((Sum.inr a:Key)=Sum.inl b)=false:=decide_eq_false (fun q=>nomatch q)
def mixKind (prog:Program) (w:World):PySem.KeyKind prog w Key where
 is:=keyIs
 hash:=keyH w
 inj:=fun v a b ha hb=>by
  rcases keyIs_shape ha with ⟨i,t,rfl,rfl⟩|⟨x,t,rfl,rfl⟩
  ·rcases keyIs_shape hb with ⟨j,u,rfl,e⟩|⟨y,u,rfl,e⟩
   ·injection e with e1 _;rw [e1]
   ·exact nomatch e
  ·rcases keyIs_shape hb with ⟨j,u,rfl,e⟩|⟨y,u,rfl,e⟩
   ·exact nomatch e
   ·injection e with e1 _;rw [e1]
 byValue:=fun k v h=>by
  rcases keyIs_shape h with ⟨i,t,rfl,rfl⟩|⟨x,t,rfl,rfl⟩<;>rfl
 pyHash:=fun hv h=>by
  rcases keyIs_shape hv with ⟨i,t,rfl,rfl⟩|⟨x,t,rfl,rfl⟩
  ·exact wpAny_pyHash_int h
  ·exact wpAny_pyHash_str h
 eqBool:=fun hu hv h=>by
  rcases keyIs_shape hu with ⟨i,t,rfl,rfl⟩|⟨x,t,rfl,rfl⟩
  ·rcases keyIs_shape hv with ⟨j,u,rfl,rfl⟩|⟨y,u,rfl,rfl⟩
   ·rw [key_ll] at h;exact wpAny_eqBool_int h
   ·rw [key_lr] at h;exact SeqAt.EqAt.int_str i t y u _ _ _ _ h
  ·rcases keyIs_shape hv with ⟨j,u,rfl,rfl⟩|⟨y,u,rfl,rfl⟩
   ·rw [key_rl] at h;exact SeqAt.EqAt.str_int x t j u _ _ _ _ h
   ·rw [key_rr] at h;exact wpAny_eqBool_str h
 «strs»:=fun k x t v h=>by
  rcases keyIs_shape h with ⟨i,u,rfl,e⟩|⟨y,u,rfl,e⟩
  ·exact nomatch e
  ·injection e with e1 _
   subst e1
   cases v<;>rfl
theorem mixKind_int (prog:Program) (w:World) (i:Int) (t:Tok):(mixKind prog w).is (.inl i) (.int i t)=true:=keyIs_int i t
theorem mixKind_str (prog:Program) (w:World) (x:Str) (t:Tok):(mixKind prog w).is (.inr x) (.str x t)=true:=keyIs_str x t
end L2
namespace L2
open PySem PySem.Spec PyProof.Rows
inductive V where
 |non|bl (b:Bool)|int (i:Int)|str (x:Str)|byt (b:Array UInt8)|flt (b:UInt64)|ref (a:Addr)|ty (n:String)
 deriving DecidableEq
def RelV:V→Value→Prop
 | .non,u=>u=Value.none
 | .bl b,u=>u=Value.bool b
 | .int i,u=>∃t,u=Value.int i t
 | .str x,u=>∃t,u=Value.str x t
 | .byt b,u=>∃t,u=Value.bytes b t
 | .flt b,u=>∃t,u=Value.float b t
 | .ref a,u=>u=Value.ref a
 | .ty n,u=>u=Value.type n
abbrev Vals:List V→List Value→Prop:=Paired RelV
theorem Vals.length {xs:List V} {us:List Value} (r:Vals xs us):xs.length=us.length:=Paired.length r
theorem Vals.get:∀{xs:List V} {us:List Value} {i:Nat} {x:V},Vals xs us→xs[i]?=some x→∃u,us[i]?=some u∧RelV x u
 |_,_,_,_,.nil,e=>by simp at e
 |_,_,0,_,.cons r _,e=>by simp at e;subst e;exact ⟨_,rfl,r⟩
 |_,_,i+1,x,.cons _ t,e=>by
  obtain ⟨u,h1,h2⟩:=Vals.get (i:=i) (x:=x) t (by simpa using e)
  exact ⟨u,by simpa using h1,h2⟩
theorem Vals.set {x:V} {u:Value} (r:RelV x u):∀{xs:List V} {us:List Value} (i:Nat),Vals xs us→Vals (xs.set i x) (us.set i u)
 |_,_,_,.nil=>.nil
 |_,_,0,.cons _ t=>.cons r t
 |_,_,i+1,.cons q t=>.cons q (Vals.set r i t)
theorem Vals.append:∀{xs ys:List V} {us ws:List Value},Vals xs us→Vals ys ws→Vals (xs++ys) (us++ws)
 |_,_,_,_,.nil,s=>s
 |_,_,_,_,.cons r t,s=>.cons r (Vals.append t s)
theorem Vals.take:∀{xs:List V} {us:List Value} (n:Nat),Vals xs us→Vals (xs.take n) (us.take n)
 |_,_,0,_=>.nil
 |_,_,_+1,.nil=>.nil
 |_,_,n+1,.cons r t=>.cons r (Vals.take n t)
theorem Vals.drop:∀{xs:List V} {us:List Value} (n:Nat),Vals xs us→Vals (xs.drop n) (us.drop n)
 |_,_,0,r=>r
 |_,_,_+1,.nil=>.nil
 |_,_,n+1,.cons _ t=>Vals.drop n t
def RelO:Option V→Option Value→Prop
 |some v,some u=>RelV v u
 |none,none=>True
 |_,_=>False
def KV {κ:Type}:List (κ×V)→List (κ×Value)→Prop:=Paired fun (p:κ×V) (q:κ×Value)=>p.1=q.1∧RelV p.2 q.2
def kV:Key→V
 | .inl i=>.int i
 | .inr x=>.str x
inductive HO where
 |lst (xs:List V)
 |tup (xs:List V)
 |dK (kvs:List (Key×V))|dT (kvs:List (List Key×V))
 |set (S:Int→Bool) (n:Nat)
 |ins (C dx:Addr) (fs:List (Str×V))
 |own (x:Addr)
 |xd (fs:List (Str×V))
 |met (f x:Addr)
 |rng (lo hi:Int)
 |frz (o:Obj) (u:HO)
 |tbl (ps:Array Value)
 |ext (φ:Heap→Prop)
abbrev Hp:=Addr→Option HO
def upd (H:Hp) (a:Addr) (o:HO):Hp:=fun b=>if b=a then some o else H b
theorem upd_same {H:Hp} {a:Addr} {o:HO}:upd H a o a=some o:=by unfold upd;rw [if_pos rfl]
theorem upd_ne {H:Hp} {a b:Addr} {o:HO} (h:b≠a):upd H a o b=H b:=by unfold upd;rw [if_neg h]
theorem ne_of {H:Hp} {a b:Addr} {o u:HO} (h:H a=some o) (h':H b=some u) (d:o≠u):a≠b:=by
 intro e;subst e;rw [h] at h';exact d (Option.some.inj h')
theorem ne_of_none {H:Hp} {a b:Addr} {o:HO} (h:H a=some o) (h':H b=none):a≠b:=by
 intro e;subst e;rw [h] at h';cases h'
section
variable (P:Program) (w:World)
def ObjOk (H:Hp) (h:Heap) (a:Addr):HO→Prop
 | .lst xs=>xs.length≤sizeLine∧∃(its:List Value) (n:Nat),Vals xs its∧h.get? a=some {cls:=.type "list",data:=.seq its.toArray n}
 | .tup xs=>xs.length≤sizeLine∧∃its:List Value,Vals xs its∧IsTup h a its.toArray
 | .dK kvs=>kvs.length≤sizeLine∧(a==sysModules)=false∧∃vs,KV kvs vs∧h.DictOf (mixKind P w) a vs
 | .dT kvs=>kvs.length≤sizeLine∧(a==sysModules)=false∧∃xs:List (List Key×Addr×Value),
   Paired (fun (p:List Key×V) (q:List Key×Addr×Value)=>p.1=q.1∧H q.2.1=some (.tup (p.1.map kV))∧RelV p.2 q.2.2) kvs xs∧
   ∃o es ep,h.get? a=some o∧o.ExactDict∧o.data=.dict es ep∧es.toList=xs.map (entryOfKey (tupleKind (mixKind P w)))∧(xs.map (·.1)).Nodup
 | .set S n=>h.SetOf (intKind P w) a S n
 | .ins C dx fs=>H dx=some (.own a)∧fs.length≤1000∧dx≠a∧h.get? a=some (PySem.W.instObj C dx)∧
   ∃mA,h.Ns1 dx mA∧(∀f,RelO (fs.lookup f) (mA f))∧PySem.Within mA (fs.map (·.1))
 | .own _=>∃o,h.get? a=some o
 | .xd fs=>∃mA,h.Ns1 a mA∧∀f,RelO (fs.lookup f) (mA f)
 | .rng lo hi=>∃t u v,h.get? a=some {cls:=.type "range",data:=.fields #[.int lo t,.int hi u,.int 1 v]}
 | .frz o u=>h.get? a=some o∧ObjOk H h a u
 | .tbl ps=>h.get? a=some {cls:=.none,data:=.fields ps}
 | .met f x=>h.get? a=some (PySem.W.methodObj (.ref f) (.ref x))
 | .ext φ=>φ h∧(∃o,h.get? a=some o)∧∀h1 h2:Heap,φ h1→(∀o,h1.get? a=some o→h2.get? a=some o)→φ h2
def HOk (H:Hp) (h:Heap):Prop:=∀a o,H a=some o→ObjOk P w H h a o
end
section
variable {P:Program} {w:World} {H H':Hp} {h h':Heap} {a:Addr} {o:HO}
theorem ObjOk.lt (x:ObjOk P w H h a o):a<h.objs.size:=by
 cases o with
 |lst xs=>obtain ⟨_,_,_,_,e⟩:=x;exact Heap.lt_size e
 |tup xs=>obtain ⟨_,_,_,p⟩:=x;exact p.lt
 |dK kvs=>obtain ⟨_,_,_,_,o,_,_,e,_⟩:=x;exact Heap.lt_size e
 |dT kvs=>obtain ⟨_,_,_,_,o,_,_,e,_⟩:=x;exact Heap.lt_size e
 |set S n=>obtain ⟨o,_,_,_,e,_⟩:=x;exact Heap.lt_size e
 |ins C dx fs=>obtain ⟨_,_,_,e,_⟩:=x;exact Heap.lt_size e
 |own y=>obtain ⟨_,e⟩:=x;exact Heap.lt_size e
 |xd fs=>obtain ⟨_,⟨_,_,_,e,_⟩,_⟩:=x;exact Heap.lt_size e
 |rng lo hi=>obtain ⟨_,_,_,e⟩:=x;exact Heap.lt_size e
 |frz ob u=>obtain ⟨e,_⟩:=x;exact Heap.lt_size e
 |tbl ps=>exact Heap.lt_size (show h.get? a=some _ from x)
 |met f y=>exact Heap.lt_size (show h.get? a=some _ from x)
 |ext φ=>obtain ⟨_,⟨_,e⟩,_⟩:=x;exact Heap.lt_size e
theorem Paired.mapP {α β:Type} {F G:α→β→Prop}:∀{l₁:List α} {l₂:List β},Paired F l₁ l₂→(∀a b,F a b→G a b)→Paired G l₁ l₂
 |_,_,.nil,_=>.nil
 |_,_,.cons r t,f=>.cons (f _ _ r) (Paired.mapP t f)
theorem ObjOk.stay (x:ObjOk P w H h a o) (k:∀b u,(b=a∨H b=some (.own a))→h.get? b=some u→h'.get? b=some u)
  (ho:∀b,H b=some (.own a)→H' b=some (.own a)) (ht:∀b xs,H b=some (.tup xs)→H' b=some (.tup xs)):ObjOk P w H' h' a o:=by
 induction o with
 |lst xs=>obtain ⟨z,its,n,r,e⟩:=x;exact ⟨z,its,n,r,k _ _ (.inl rfl) e⟩
 |tup xs=>obtain ⟨z,its,r,ob,e,c⟩:=x;exact ⟨z,its,r,ob,k _ _ (.inl rfl) e,c⟩
 |dK kvs=>obtain ⟨z,y,vs,r,ob,es,ep,e,c⟩:=x;exact ⟨z,y,vs,r,ob,es,ep,k _ _ (.inl rfl) e,c⟩
 |dT kvs=>
  obtain ⟨z,y,xs,r,ob,es,ep,e,c⟩:=x
  exact ⟨z,y,xs,Paired.mapP r fun p q z=>⟨z.1,ht _ _ z.2.1,z.2.2⟩,ob,es,ep,k _ _ (.inl rfl) e,c⟩
 |set S n=>obtain ⟨ob,es,ep,t,e,c⟩:=x;exact ⟨ob,es,ep,t,k _ _ (.inl rfl) e,c⟩
 |ins C dx fs=>
  obtain ⟨d,z,ne,e,mA,⟨od,es,ep,e2,c⟩,r⟩:=x
  exact ⟨ho _ d,z,ne,k _ _ (.inl rfl) e,mA,⟨od,es,ep,k _ _ (.inr d) e2,c⟩,r⟩
 |own y=>obtain ⟨ob,e⟩:=x;exact ⟨ob,k _ _ (.inl rfl) e⟩
 |xd fs=>obtain ⟨mA,⟨od,es,ep,e,c⟩,r⟩:=x;exact ⟨mA,⟨od,es,ep,k _ _ (.inl rfl) e,c⟩,r⟩
 |rng lo hi=>obtain ⟨t,u,v,e⟩:=x;exact ⟨t,u,v,k _ _ (.inl rfl) e⟩
 |frz ob u ih=>obtain ⟨e,q⟩:=x;exact ⟨k _ _ (.inl rfl) e,ih q⟩
 |tbl ps=>
  have e:h.get? a=some {cls:=.none,data:=.fields ps}:=x
  show h'.get? a=some {cls:=.none,data:=.fields ps}
  exact k a _ (.inl rfl) e
 |met f y=>
  have e:h.get? a=some (PySem.W.methodObj (.ref f) (.ref y)):=x
  show h'.get? a=some (PySem.W.methodObj (.ref f) (.ref y))
  exact k a _ (.inl rfl) e
 |ext φ=>obtain ⟨p,⟨o,e⟩,st⟩:=x;exact ⟨st _ _ p fun o q=>k _ _ (.inl rfl) q,⟨o,k _ _ (.inl rfl) e⟩,st⟩
theorem HOk.lt (x:HOk P w H h) (e:H a=some o):a<h.objs.size:=(x a o e).lt
theorem HOk.fresh (x:HOk P w H h) (e:h.objs.size≤a):H a=none:=by
 cases q:H a with
 |none=>rfl
 |some u=>exact absurd (Nat.lt_of_lt_of_le (x.lt q) e) (Nat.lt_irrefl _)
theorem HOk.kept (x:HOk P w H h) (k:∀b u,h.get? b=some u→h'.get? b=some u):HOk P w H h':=fun a o e=>
 (x a o e).stay (fun b u _ q=>k b u q) (fun _ q=>q) fun _ _ q=>q
theorem HOk.laid (x:HOk P w H h) (k:∀b u,h.get? b=some u→h'.get? b=some u) (hp:h.objs.size≤a) (new:ObjOk P w (upd H a o) h' a o):HOk P w (upd H a o) h':=fun b u e=>by
 have hn:=x.fresh hp
 by_cases hb:b=a
 ·subst hb;rw [upd_same] at e;cases e;exact new
 ·rw [upd_ne hb] at e
  exact (x b u e).stay (fun c v _ q=>k c v q) (fun c q=>by rw [upd_ne (ne_of_none q hn)];exact q) fun c xs q=>by rw [upd_ne (ne_of_none q hn)];exact q
end
def Rd (H:Hp) (a:Addr) (u:HO):Prop:=H a=some u∨∃o,H a=some (.frz o u)
theorem Rd.ok {P:Program} {w:World} {H:Hp} {h:Heap} {a:Addr} {u:HO} (r:Rd H a u) (x:HOk P w H h):ObjOk P w H h a u:=by
 rcases r with r|⟨o,r⟩
 ·exact x a u r
 ·obtain ⟨_,q⟩:=x a _ r
  exact q
def Mut:Option HO→Prop
 |some (.lst _)=>True
 |some (.dK _)=>True
 |some (.dT _)=>True
 |some (.set _ _)=>True
 |some (.ins _ _ _)=>True
 |some (.ext _)=>True
 |_=>False
section
variable {P:Program} {w:World} {H:Hp} {h h':Heap} {x e:Addr} {o':HO}
theorem HOk.write (ok:HOk P w H h) (mu:Mut (H x)) (he:e=x∨H e=some (.own x)) (k:∀b u,b≠e→h.get? b=some u→h'.get? b=some u) (heo:∃u,h'.get? e=some u)
  (new:ObjOk P w (upd H x o') h' x o'):HOk P w (upd H x o') h':=fun b u q=>by
 have nown:∀c y,H c=some (.own y)→c≠x:=fun c y r z=>by subst z;rw [r] at mu;exact mu
 have ntup:∀c xs,H c=some (.tup xs)→c≠x:=fun c xs r z=>by subst z;rw [r] at mu;exact mu
 by_cases hb:b=x
 ·subst hb;rw [upd_same] at q;cases q;exact new
 ·rw [upd_ne hb] at q
  by_cases hbe:b=e
  ·have q':H b=some (.own x):=by
    rcases he with z|z
    ·exact absurd (hbe.trans z) hb
    ·rw [hbe];exact z
   rw [q] at q';cases q'
   obtain ⟨v,hv⟩:=heo
   exact ⟨v,by rw [hbe];exact hv⟩
  ·refine (ok b u q).stay (fun c v hc r=>k c v ?_ r) (fun c r=>by rw [upd_ne (nown c b r)];exact r) fun c xs r=>by rw [upd_ne (ntup c xs r)];exact r
   rcases hc with rfl|hc
   ·exact hbe
   ·rintro rfl
    rcases he with z|z
    ·exact nown c b hc z
    ·rw [hc] at z;cases z;exact hb rfl
end
structure Un (fs ex:List Addr) (H H':Hp) (h h':Heap):Prop where
 keep:∀b o,h.get? b=some o→H b=none→b∉fs→b∉ex→h'.get? b=some o
 slot:∀b o,h.get? b=some o→H b=none→b∈fs→b∉ex→∃sl,h'.get? b=some {o with slots:=sl}
 free:∀b o,h.get? b=some o→H b=none→b∉ex→H' b=none
 there:∀b o,h.get? b=some o→b∉ex→∃o',h'.get? b=some o'
 tups:∀b xs,H b=some (.tup xs)→H' b=some (.tup xs)
 frzs:∀b o u,H b=some (.frz o u)→H' b=some (.frz o u)
 tbls:∀b ps,H b=some (.tbl ps)→∃more,H' b=some (.tbl (ps++more))
section
variable {fs fs' ex ex':List Addr} {H H1 H2:Hp} {h h1 h2 h':Heap} {a x e:Addr} {o:HO}
theorem Un.any (u:Un fs ex H H1 h h1) {b:Addr} {ob:Obj} (q:h.get? b=some ob) (n:H b=none) (hx:b∉ex):∃sl,h1.get? b=some {ob with slots:=sl}:=by
 by_cases hb:b∈fs
 ·exact u.slot b ob q n hb hx
 ·exact ⟨ob.slots,u.keep b ob q n hb hx⟩
theorem Un.kept (k:∀b u,h.get? b=some u→h'.get? b=some u):Un fs ex H H h h':=
 ⟨fun b ob q _ _ _=>k b ob q,fun b ob q _ _ _=>⟨ob.slots,k b ob q⟩,fun _ _ _ n _=>n,fun b ob q _=>⟨ob,k b ob q⟩,fun _ _ q=>q,fun _ _ _ q=>q,fun _ ps q=>⟨#[],by rw [q];simp⟩⟩
theorem Un.refl:Un fs ex H H h h:=Un.kept fun _ _ q=>q
theorem Un.laid (k:∀b u,h.get? b=some u→h'.get? b=some u) (hp:h.objs.size≤a) (hn:H a=none):Un fs ex H (upd H a o) h h' where
 keep:=fun b u q _ _ _=>k b u q
 slot:=fun b u q _ _ _=>⟨u.slots,k b u q⟩
 free:=fun b u q n _=>by rw [upd_ne (Nat.ne_of_lt (Nat.lt_of_lt_of_le (Heap.lt_size q) hp))];exact n
 there:=fun b u q _=>⟨u,k b u q⟩
 tups:=fun b xs q=>by rw [upd_ne (ne_of_none q hn)];exact q
 frzs:=fun b u xs q=>by rw [upd_ne (ne_of_none q hn)];exact q
 tbls:=fun b ps q=>⟨#[],by rw [upd_ne (ne_of_none q hn),q];simp⟩
theorem Un.write (mu:Mut (H x)) (he:e=x∨H e=some (.own x)) (k:∀b u,b≠e→h.get? b=some u→h'.get? b=some u) (heo:∃u,h'.get? e=some u):Un fs ex H (upd H x o) h h':=by
 have hx:∀b,H b=none→b≠x:=fun b n z=>by subst z;rw [n] at mu;exact mu
 have hb:∀b,H b=none→b≠e:=fun b n z=>by
  subst z
  rcases he with r|r
  ·exact hx b n r
  ·rw [n] at r;cases r
 have hm:∀b u,H b=some u→¬Mut (some u)→b≠x:=fun b u q nm z=>by subst z;rw [q] at mu;exact nm mu
 refine ⟨fun b u q n _ _=>k b u (hb b n) q,fun b u q n _ _=>⟨u.slots,k b u (hb b n) q⟩,fun b u q n _=>by rw [upd_ne (hx b n)];exact n,fun b u q _=>?_,
  fun b xs q=>by rw [upd_ne (hm b _ q fun z=>z)];exact q,fun b u xs q=>by rw [upd_ne (hm b _ q fun z=>z)];exact q,fun b ps q=>⟨#[],by rw [upd_ne (hm b _ q fun z=>z),q];simp⟩⟩
 by_cases hbe:b=e
 ·subst hbe;exact heo
 ·exact ⟨u,k b u hbe q⟩
end
def trk (h:Heap) (H:Hp):List Addr:=(List.range h.objs.size).filter fun a=>(H a).isSome
def hidT (h:Heap) (H:Hp):Heap:=PySem.W.hideAll h (trk h H)
theorem hidT_size (h:Heap) (H:Hp):(hidT h H).objs.size=h.objs.size:=PySem.W.hideAll_size _ _
theorem hidT_get {h:Heap} {H:Hp} {b:Addr} {o:Obj} (e:h.get? b=some o) (n:H b=none):(hidT h H).get? b=some o:=
 PySem.W.hideAll_get _ e fun hm=>by
  have q:(H b).isSome=true:=(List.mem_filter.mp hm).2
  rw [n] at q;simp at q
theorem of_hidT {h:Heap} {H:Hp} {b:Addr} {o:Obj} (e:(hidT h H).get? b=some o):h.get? b=some o∧H b=none:=by
 have e':h.get? b=some o:=PySem.W.of_hideAll (trk h H) e
 refine ⟨e',?_⟩
 cases q:H b with
 |none=>rfl
 |some x=>
  have hm:b∈trk h H:=List.mem_filter.mpr ⟨List.mem_range.mpr (Heap.lt_size e'),by simp [q]⟩
  have z:(hidT h H).get? b=none:=PySem.W.hideAll_none (trk h H) hm
  rw [z] at e;cases e
end L2
namespace L2
open PySem PySem.Spec PyProof.Rows
structure Mod (K:PySem.W.Frag) (mg:Str→Option Value) (base:Heap):Prop where
 kin:K.In base
 glob:base.Ns mainGlobals mg
 blt:∃mb,base.Ns builtinsNs mb∧∀x:Str,x≠"__name__"→mb x=bootBuiltins x
 nolimit:base.NoLimit
structure Cx where
 prog:Program
 w:World
 K:PySem.W.Frag
 mg:Str→Option Value
 base:Heap
 A:Around
 N:List Str
 s_0:Shared
 H_0:Hp
 env:Env
 outer:List Env
 stack:List Env
 ex:List Addr
 fn:Str→Bool
 calm:Bool
 pn:List (Addr×Obj)
 xe:Value→Shared→Prop
def frs (l:List Env):List Addr:=l.filterMap (·.frame)
abbrev Cx.fs (X:Cx):List Addr:=frs X.outer
def Vis (sc:Scope) (x:Str):Prop:=sc.names.lookup x=some .local∨sc.names.lookup x=some .cell∨sc.names.lookup x=some .free
def Loc (sc:Scope) (x:Str):Prop:=sc.names.lookup x=some .local∨sc.names.lookup x=some .cell
def Look (env:Env) (h:Heap) (m:Str→Option Value) (x:Str) (u:Value):Prop:=
 (env.kindOf x=some .local∧m x=some u)∨((env.kindOf x=some .cell∨env.kindOf x=some .free)∧∃c,env.cells.lookup x=some c∧h.IsCell c (some u))
structure Cx.Ok (X:Cx):Prop where
 mod:Mod X.K X.mg X.base
 kind:X.env.scope.kind=.function
 glob:X.env.globals=mainGlobals
 blt:X.env.builtins=builtinsNs
 above:X.s_0.heap.objs.size≤X.env.locals
 inj:∀x y c,X.env.cells.lookup x=some c→X.env.cells.lookup y=some c→x=y
 has:∀x,(X.env.kindOf x=some .cell∨X.env.kindOf x=some .free)→∃c,X.env.cells.lookup x=some c
 cab:∀x c,X.fn x=true→X.env.cells.lookup x=some c→X.s_0.heap.objs.size≤c
 hd:X.calm=true→X.A.handled=none
 frames:X.A.frames=some X.stack
 stk:X.stack=X.outer∨(X.stack=X.env::X.outer∧X.env.frame=some X.env.locals)
 exf:∀b∈X.ex,b≠X.env.locals∧∀x c,X.env.cells.lookup x=some c→c≠b
 bs:∀b o,X.base.get? b=some o→X.s_0.heap.get? b=some o∧X.H_0 b=none
 bsz:X.base.objs.size≤X.s_0.heap.objs.size
 noex:∀b o,X.base.get? b=some o→b∉X.ex
 exfs:∀b∈X.ex,b∉X.fs
 funs:X.s_0.heap.FunFrames X.base X.outer
 frf:∀b∈X.fs,X.H_0 b=none
structure Inv (X:Cx) (pins:List (Addr×Obj)) (σ:List (Option V)) (H:Hp) (s:Shared):Prop where
 ok:X.Ok
 os:s.os=X.s_0.os
 bare:AllBare s.gens
 base:Un X.fs X.ex X.H_0 H X.s_0.heap s.heap
 loc:∃m,s.heap.Ns X.env.locals m∧∀(i:Nat) (x:Str) (v:V),X.N[i]?=some x→σ[i]?=some (some v)→Vis X.env.scope x→∃u,RelV v u∧Look X.env s.heap m x u
 cell:∀x c,X.env.cells.lookup x=some c→∃v,s.heap.IsCell c v
 free:H X.env.locals=none
 freeC:∀x c,X.env.cells.lookup x=some c→H c=none
 pin:∀p∈X.pn++pins,s.heap.get? p.1=some p.2∧H p.1=none∧p.1≠X.env.locals∧p.1∉X.fs∧∀v,p.2.data≠.cell v
 hok:HOk X.prog X.w H s.heap
 len:σ.length=X.N.length
section
variable {X:Cx} {pins:List (Addr×Obj)} {σ:List (Option V)} {H H':Hp} {s:Shared} {h':Heap}
theorem Cx.Ok.nofr (ok:X.Ok) {b:Addr} {o:Obj} (e:X.base.get? b=some o):b∉X.fs:=fun hb=>by
 have:=(ok.funs.mem hb).1
 rw [e] at this;cases this
theorem Inv.bs (I:Inv X pins σ H s):∀b o,X.base.get? b=some o→s.heap.get? b=some o∧H b=none:=fun b o e=>
 ⟨I.base.keep b o (I.ok.bs b o e).1 (I.ok.bs b o e).2 (I.ok.nofr e) (I.ok.noex b o e),I.base.free b o (I.ok.bs b o e).1 (I.ok.bs b o e).2 (I.ok.noex b o e)⟩
theorem Inv.bk (I:Inv X pins σ H s):∀b o,X.base.get? b=some o→s.heap.get? b=some o:=fun b o e=>(I.bs b o e).1
theorem Inv.mod (I:Inv X pins σ H s):Mod X.K X.mg X.base:=I.ok.mod
theorem Inv.kIn (I:Inv X pins σ H s):X.K.In s.heap:=I.ok.mod.kin.keeps I.bk
theorem Inv.fr (I:Inv X pins σ H s):∃m,Fr X.base X.env.locals s.heap m:=
 let ⟨m,hn,_⟩:=I.loc
 ⟨m,hn,I.bk,Nat.le_trans I.ok.bsz I.ok.above⟩
theorem Inv.lt (I:Inv X pins σ H s):X.env.locals<s.heap.objs.size:=let ⟨_,hn,_⟩:=I.loc;hn.lt
theorem Inv.sz (I:Inv X pins σ H s):X.s_0.heap.objs.size≤s.heap.objs.size:=Nat.le_trans I.ok.above (Nat.le_of_lt I.lt)
theorem Inv.nofs (I:Inv X pins σ H s) {a:Addr} (h:s.heap.objs.size≤a):a∉X.fs:=fun hb=>by
 obtain ⟨_,o,ho,_⟩:=I.ok.funs.mem hb
 exact absurd (Nat.lt_of_lt_of_le (Heap.lt_size ho) (Nat.le_trans I.sz h)) (Nat.lt_irrefl _)
theorem Inv.cne (I:Inv X pins σ H s):∀x c,X.env.cells.lookup x=some c→c≠X.env.locals:=fun x c e z=>by
 obtain ⟨v,o,ho,hd⟩:=I.cell x c e
 obtain ⟨m,⟨o',es,ep,ho',hd',_⟩,_⟩:=I.loc
 rw [z,ho'] at ho;cases ho;rw [hd'] at hd;cases hd
theorem Inv.funs (I:Inv X pins σ H s):s.heap.FunFrames X.base X.outer:=by
 have all:∀(l:List Env),(∀b∈frs l,b∈X.fs)→X.s_0.heap.FunFrames X.base l→s.heap.FunFrames X.base l:=by
  intro l
  induction l with
  |nil=>intro _ _;trivial
  |cons env r ih=>
   intro hs hl
   obtain ⟨hk,⟨L,o,hf,hn,ho,hd⟩,hr⟩:=hl
   have hL:L∈X.fs:=hs L (by unfold frs;rw [List.filterMap_cons,hf];exact List.mem_cons_self)
   obtain ⟨sl,e⟩:=I.base.slot L o ho (I.ok.frf L hL) hL fun z=>I.ok.exfs L z hL
   exact ⟨hk,⟨L,_,hf,hn,e,hd⟩,ih (fun b hb=>hs b (by unfold frs;rw [List.filterMap_cons,hf];exact List.mem_cons_of_mem _ hb)) hr⟩
 exact all X.outer (fun _ hb=>hb) I.ok.funs
theorem Inv.stack (I:Inv X pins σ H s):s.heap.FunFrames X.base X.stack:=by
 rcases I.ok.stk with e|⟨e,hf⟩
 ·rw [e];exact I.funs
 ·rw [e]
  obtain ⟨m,hn,_⟩:=I.loc
  refine .cons (by rw [I.ok.kind];decide) hf hn ?_ I.funs
  exact Heap.get?_none_of_le (Nat.le_trans I.ok.bsz I.ok.above)
theorem Inv.stkSub (I:Inv X pins σ H s):∀b∈frs X.stack,b∈X.env.locals::X.fs:=fun b hb=>by
 rcases I.ok.stk with e|⟨e,hf⟩
 ·rw [e] at hb;exact List.mem_cons_of_mem _ hb
 ·rw [e] at hb
  unfold frs at hb
  rw [List.filterMap_cons,hf] at hb
  exact hb
theorem Inv.stkFree (I:Inv X pins σ H s):∀b∈frs X.stack,H b=none:=fun b hb=>by
 rcases List.mem_cons.mp (I.stkSub b hb) with e|hb
 ·rw [e];exact I.free
 ·obtain ⟨_,o,ho,_⟩:=I.ok.funs.mem hb
  exact I.base.free b o ho (I.ok.frf b hb) fun z=>I.ok.exfs b z hb
theorem Inv.step {g':Array GenState} {t':Nat} {d':Drawn} {ch:List Addr} (I:Inv X pins σ H s)
  (hch:∀b∈ch,(b∈X.ex∨X.s_0.heap.objs.size≤b)∧b≠X.env.locals∧(∀x c,X.env.cells.lookup x=some c→c≠b)∧∀p∈X.pn++pins,p.1≠b)
  (keep:∀b o,b≠X.env.locals→b∉X.fs→b∉ch→s.heap.get? b=some o→H b=none→h'.get? b=some o)
  (slot:∀b o,b≠X.env.locals→b∈X.fs→b∉ch→s.heap.get? b=some o→H b=none→∃sl,h'.get? b=some {o with slots:=sl}) (free:∀b o,b∉ch→s.heap.get? b=some o→H b=none→H' b=none)
  (there:∀b o,b∉ch→s.heap.get? b=some o→∃o',h'.get? b=some o')
  (tups:∀b xs,H b=some (.tup xs)→H' b=some (.tup xs)) (frzs:∀b o u,H b=some (.frz o u)→H' b=some (.frz o u)) (tbls:∀b ps,H b=some (.tbl ps)→∃more,H' b=some (.tbl (ps++more)))
  (ns:∀m,s.heap.Ns X.env.locals m→h'.Ns X.env.locals m) (hok:HOk X.prog X.w H' h') (hg:AllBare g'):
  Inv X pins σ H' {s with heap:=h',gens:=g',drawn:=d',toks:=t'}:=by
 have neL:∀b o,X.s_0.heap.get? b=some o→b≠X.env.locals:=fun b o e=>Nat.ne_of_lt (Nat.lt_of_lt_of_le (Heap.lt_size e) I.ok.above)
 have neC:∀b o,X.s_0.heap.get? b=some o→b∉X.ex→b∉ch:=fun b o e hx hb=>by
  rcases (hch b hb).1 with z|z
  ·exact hx z
  ·exact absurd (Nat.lt_of_lt_of_le (Heap.lt_size e) z) (Nat.lt_irrefl _)
 have cellK:∀x c,X.env.cells.lookup x=some c→∀v,s.heap.IsCell c v→h'.IsCell c v:=fun x c e v ⟨o,ho,hd⟩=>by
  have nch:c∉ch:=fun z=>(hch c z).2.2.1 x c e rfl
  by_cases hc:c∈X.fs
  ·obtain ⟨sl,q⟩:=slot c o (I.cne x c e) hc nch ho (I.freeC x c e)
   exact ⟨_,q,hd⟩
  ·exact ⟨o,keep c o (I.cne x c e) hc nch ho (I.freeC x c e),hd⟩
 refine ⟨I.ok,I.os,hg,⟨fun b o e n hb hx=>?_,fun b o e n hb hx=>?_,fun b o e n hx=>?_,fun b o e hx=>?_,fun b xs e=>tups b xs (I.base.tups b xs e),fun b o xs e=>frzs b o xs (I.base.frzs b o xs e),fun b ps e=>?_⟩,?_,fun x c e=>?_,?_,fun x c e=>?_,fun p hp=>?_,hok,I.len⟩
 ·exact keep b o (neL b o e) hb (neC b o e hx) (I.base.keep b o e n hb hx) (I.base.free b o e n hx)
 ·obtain ⟨sl,e1⟩:=I.base.slot b o e n hb hx
  obtain ⟨sl',e2⟩:=slot b _ (neL b o e) hb (neC b o e hx) e1 (I.base.free b o e n hx)
  exact ⟨sl',e2⟩
 ·obtain ⟨o',e1⟩:=I.base.there b o e hx
  exact free b o' (neC b o e hx) e1 (I.base.free b o e n hx)
 ·obtain ⟨o',e1⟩:=I.base.there b o e hx
  exact there b o' (neC b o e hx) e1
 ·obtain ⟨m1,e1⟩:=I.base.tbls b ps e
  obtain ⟨m2,e2⟩:=tbls b _ e1
  exact ⟨m1++m2,by rw [e2,Array.append_assoc]⟩
 ·obtain ⟨m,hn,hl⟩:=I.loc
  refine ⟨m,ns m hn,fun i x v e1 e2 e3=>?_⟩
  obtain ⟨u,r,l⟩:=hl i x v e1 e2 e3
  refine ⟨u,r,?_⟩
  rcases l with l|⟨k,c,e,z⟩
  ·exact .inl l
  ·exact .inr ⟨k,c,e,cellK x c e _ z⟩
 ·obtain ⟨v,z⟩:=I.cell x c e
  exact ⟨v,cellK x c e v z⟩
 ·obtain ⟨m,⟨o,_,_,ho,_⟩,_⟩:=I.loc
  exact free _ o (fun z=>(hch _ z).2.1 rfl) ho I.free
 ·obtain ⟨v,o,ho,hd⟩:=I.cell x c e
  exact free c o (fun z=>(hch c z).2.2.1 x c e rfl) ho (I.freeC x c e)
 ·obtain ⟨e,n,ne,nf,d⟩:=I.pin p hp
  have nch:p.1∉ch:=fun z=>(hch p.1 z).2.2.2 p hp rfl
  exact ⟨keep p.1 p.2 ne nf nch e n,free p.1 p.2 nch e n,ne,nf,d⟩
theorem Inv.un {t':Nat} (I:Inv X pins σ H s) (u:Un X.fs [] H H' s.heap h') (hok:HOk X.prog X.w H' h'):Inv X pins σ H' {s with heap:=h',toks:=t'}:=by
 obtain ⟨m,⟨o,es,ep,ho,r⟩,_⟩:=id I.loc
 obtain ⟨sl,hL⟩:=u.any ho I.free (by simp)
 exact I.step (g':=s.gens) (d':=s.drawn) (ch:= []) (fun _ z=>nomatch z) (fun b o _ hb _ e n=>u.keep b o e n hb (by simp)) (fun b o _ hb _ e n=>u.slot b o e n hb (by simp)) (fun b o _ e n=>u.free b o e n (by simp)) (fun b o _ e=>u.there b o e (by simp)) u.tups u.frzs u.tbls (fun m' hm=>by
  obtain ⟨o',es',ep',ho',r'⟩:=hm
  rw [ho] at ho';cases ho'
  exact ⟨_,es',ep',hL,r'⟩) hok I.bare
theorem Inv.call {g':Array GenState} {t':Nat} {d':Drawn} {ch:List Addr} (I:Inv X pins σ H s) (u:Un (frs X.stack) ch H H' s.heap h') (hok:HOk X.prog X.w H' h') (hg:AllBare g')
  (hch:∀b∈ch,(b∈X.ex∨X.s_0.heap.objs.size≤b)∧b≠X.env.locals∧(∀x c,X.env.cells.lookup x=some c→c≠b)∧∀p∈X.pn++pins,p.1≠b):
  Inv X pins σ H' {s with heap:=h',gens:=g',drawn:=d',toks:=t'}:=by
 obtain ⟨m,⟨o,es,ep,ho,r⟩,_⟩:=id I.loc
 obtain ⟨sl,hL⟩:=u.any ho I.free fun z=>(hch _ z).2.1 rfl
 exact I.step (ch:=ch) hch (fun b o hL hb hc e n=>u.keep b o e n (fun z=>(List.mem_cons.mp (I.stkSub b z)).elim hL hb) hc) (fun b o _ _ hc e n=>u.any e n hc) (fun b o hc e n=>u.free b o e n hc) (fun b o hc e=>u.there b o e hc) u.tups u.frzs u.tbls (fun m' hm=>by
  obtain ⟨o',es',ep',ho',r'⟩:=hm
  rw [ho] at ho';cases ho'
  exact ⟨_,es',ep',hL,r'⟩) hok hg
theorem Inv.turned {t':Nat} {it:Addr} (I:Inv X pins σ H s) (k:∀b o,b≠it→s.heap.get? b=some o→h'.get? b=some o) (hn:H it=none) (hL:it≠X.env.locals)
  (h1:it∈X.ex∨X.s_0.heap.objs.size≤it) (h2:∀x c,X.env.cells.lookup x=some c→c≠it) (h3:∀p∈X.pn++pins,p.1≠it):Inv X pins σ H {s with heap:=h',toks:=t'}:=by
 have nit:∀b u,H b=some u→b≠it:=fun b u e z=>by rw [z,hn] at e;cases e
 refine I.step (g':=s.gens) (d':=s.drawn) (ch:= [it]) (fun b hb=>?_) (fun b o _ _ hc e _=>k b o (fun z=>hc (by simp [z])) e) (fun b o _ _ hc e _=>⟨o.slots,k b o (fun z=>hc (by simp [z])) e⟩) (fun _ _ _ _ n=>n)
  (fun b o hc e=>⟨o,k b o (fun z=>hc (by simp [z])) e⟩) (fun _ _ e=>e) (fun _ _ _ e=>e) (fun b ps e=>⟨#[],by rw [e];simp⟩) (fun m hm=>?_) (fun b u e=>?_) I.bare
 ·have e:b=it:=by simpa using hb
  subst e
  exact ⟨h1,hL,h2,h3⟩
 ·obtain ⟨o,es,ep,ho,r⟩:=hm
  exact ⟨o,es,ep,k _ o (Ne.symm hL) ho,r⟩
 ·refine (I.hok b u e).stay (fun c v hc q=>k c v ?_ q) (fun _ q=>q) fun _ _ q=>q
  rcases hc with z|z
  ·rw [z];exact nit b u e
  ·exact nit c _ z
theorem Inv.tok (I:Inv X pins σ H s) (t:Nat):Inv X pins σ H {s with toks:=t}:=I.un (h':=s.heap) (t':=t) Un.refl I.hok
theorem Inv.kept {t':Nat} (I:Inv X pins σ H s) (k:∀b u,s.heap.get? b=some u→h'.get? b=some u):Inv X pins σ H {s with heap:=h',toks:=t'}:=I.un (Un.kept k) (I.hok.kept k)
theorem Inv.laid {a:Addr} {o:HO} {t':Nat} (I:Inv X pins σ H s) (k:∀b u,s.heap.get? b=some u→h'.get? b=some u) (hp:s.heap.objs.size≤a) (new:ObjOk X.prog X.w (upd H a o) h' a o):
  Inv X pins σ (upd H a o) {s with heap:=h',toks:=t'}:=I.un (Un.laid k hp (I.hok.fresh hp)) (I.hok.laid k hp new)
theorem Inv.write {x e:Addr} {o:HO} {t':Nat} (I:Inv X pins σ H s) (mu:Mut (H x)) (he:e=x∨H e=some (.own x)) (k:∀b u,b≠e→s.heap.get? b=some u→h'.get? b=some u) (heo:∃u,h'.get? e=some u)
  (new:ObjOk X.prog X.w (upd H x o) h' x o):Inv X pins σ (upd H x o) {s with heap:=h',toks:=t'}:=I.un (Un.write mu he k heo) (I.hok.write mu he k heo new)
theorem Inv.weak {σ':List (Option V)} (I:Inv X pins σ H s) (hl:σ'.length=σ.length) (w:∀(i:Nat) v,σ'[i]?=some (some v)→σ[i]?=some (some v)):Inv X pins σ' H s:=
 ⟨I.ok,I.os,I.bare,I.base,let ⟨m,hn,hl'⟩:=I.loc;⟨m,hn,fun i x v e1 e2 e3=>hl' i x v e1 (w i v e2) e3⟩,I.cell,I.free,I.freeC,I.pin,I.hok,hl.trans I.len⟩
theorem Inv.pins_of {pins':List (Addr×Obj)} (I:Inv X pins σ H s) (h:∀p∈pins',s.heap.get? p.1=some p.2∧H p.1=none∧p.1≠X.env.locals∧p.1∉X.fs∧∀v,p.2.data≠.cell v):Inv X pins' σ H s:=
 ⟨I.ok,I.os,I.bare,I.base,I.loc,I.cell,I.free,I.freeC,fun p hp=>(List.mem_append.mp hp).elim (fun z=>I.pin p (List.mem_append_left _ z)) (h p),I.hok,I.len⟩
theorem nodup_ix {N:List Str} (hN:N.Nodup) {i j:Nat} {x:Str} (a:N[i]?=some x) (b:N[j]?=some x):i=j:=by
 obtain ⟨h1,e1⟩:=List.getElem?_eq_some_iff.mp a
 obtain ⟨h2,e2⟩:=List.getElem?_eq_some_iff.mp b
 exact (List.getElem_inj hN).mp (e1.trans e2.symm)
theorem store_ok2 {M:Model} {A:Around} {E:Value→Shared→Prop} {i:Nat} {x:Str} {v:V} {u:Value} {Q:Unit→Shared→Prop} (I:Inv X pins σ H s) (hN:X.N.Nodup) (hi:X.N[i]?=some x) (hx:Loc X.env.scope x) (r:RelV v u)
  (h:∀s',Inv X pins (σ.set i (some v)) H s'→(∃a,Heap.SameBut a s.heap s'.heap∧(a=X.env.locals∨X.env.cells.lookup x=some a))→Q () s') (hf:X.fn x=true∨X.env.scope.names.lookup x=some .local:=by first|exact .inl rfl|exact .inr rfl|assumption):wpAny M A (storeName X.env x u) Q E s:=by
 obtain ⟨m,hn,hl⟩:=id I.loc
 have hcls:(X.env.scope.kind==.class||(X.env.scope.kind==.module&&X.env.locals !=X.env.globals))=false:=by rw [I.ok.kind];rfl
 have hiσ:i<σ.length:=by rw [I.len];exact (List.getElem?_eq_some_iff.mp hi).1
 have cne:=I.cne
 have tracked:∀{a:Addr} {h':Heap},(∃o,s.heap.get? a=some o∧H a=none)→Heap.SameBut a s.heap h'→HOk X.prog X.w H h':=fun {a h'} ha hs b ob e=>by
  obtain ⟨_,_,hfree⟩:=ha
  refine (I.hok b ob e).stay (fun c w' hc q=>(hs.2 c ?_).trans q) (fun _ q=>q) fun _ _ q=>q
  rintro rfl
  rcases hc with rfl|hc
  ·rw [hfree] at e;cases e
  ·rw [hfree] at hc;cases hc
 rcases hx with hk|hk
 ·refine wpAny_storeName_local hk hn (fun h' hn' hs=>?_) hcls
  obtain ⟨oL,_,_,hoL,_⟩:=id hn
  refine h _ ⟨I.ok,I.os,I.bare,⟨fun b o e n hb hx=>?_,fun b o e n hb hx=>?_,I.base.free,fun b o e hx=>?_,I.base.tups,I.base.frzs,I.base.tbls⟩,⟨_,hn',fun j y v' e1 e2 e3=>?_⟩,fun y c e=>?_,I.free,I.freeC,fun p hp=>?_,tracked ⟨oL,hoL,I.free⟩ hs,by simpa using I.len⟩ ⟨_,hs,.inl rfl⟩
  ·exact (hs.2 b (Nat.ne_of_lt (Nat.lt_of_lt_of_le (Heap.lt_size e) I.ok.above))).trans (I.base.keep b o e n hb hx)
  ·obtain ⟨sl,e1⟩:=I.base.slot b o e n hb hx
   exact ⟨sl,(hs.2 b (Nat.ne_of_lt (Nat.lt_of_lt_of_le (Heap.lt_size e) I.ok.above))).trans e1⟩
  ·obtain ⟨o',e1⟩:=I.base.there b o e hx
   exact ⟨o',(hs.2 b (Nat.ne_of_lt (Nat.lt_of_lt_of_le (Heap.lt_size e) I.ok.above))).trans e1⟩
  ·by_cases hj:j=i
   ·subst hj
    rw [hi] at e1;cases e1
    rw [List.getElem?_set_self hiσ] at e2
    cases e2
    exact ⟨u,r,.inl ⟨hk,by simp⟩⟩
   ·rw [List.getElem?_set_ne (Ne.symm hj)] at e2
    obtain ⟨u',r',q⟩:=hl j y v' e1 e2 e3
    refine ⟨u',r',?_⟩
    rcases q with ⟨k,e⟩|⟨k,c,e,z⟩
    ·refine .inl ⟨k,?_⟩
     have:y≠x:=fun e=>hj (nodup_ix hN e1 (e▸hi))
     simp [this,e]
    ·exact .inr ⟨k,c,e,z.sameBut hs (cne y c e)⟩
  ·obtain ⟨w',z⟩:=I.cell y c e
   exact ⟨w',z.sameBut hs (cne y c e)⟩
  ·obtain ⟨e,n,ne,nf,d⟩:=I.pin p hp
   exact ⟨(hs.2 p.1 ne).trans e,n,ne,nf,d⟩
 ·have hfn:X.fn x=true:=by
   rcases hf with z|z
   ·exact z
   ·rw [z] at hk;cases hk
  obtain ⟨c,hc⟩:=I.ok.has x (.inl hk)
  obtain ⟨w',z⟩:=I.cell x c hc
  refine wpAny_storeName_cell I.ok.kind hk hc z (fun h' hc' hs=>?_)
  obtain ⟨oc,hoc,hocd⟩:=id z
  refine h {s with heap:=h'} ⟨I.ok,I.os,I.bare,⟨fun b o e n hb hx=>?_,fun b o e n hb hx=>?_,I.base.free,fun b o e hx=>?_,I.base.tups,I.base.frzs,I.base.tbls⟩,⟨m,hn.sameBut hs (Ne.symm (cne x c hc)),fun j y v' e1 e2 e3=>?_⟩,fun y c' e=>?_,I.free,I.freeC,fun p hp=>?_,tracked ⟨oc,hoc,I.freeC x c hc⟩ hs,by simpa using I.len⟩ ⟨c,hs,.inr hc⟩
  ·exact (hs.2 b (Nat.ne_of_lt (Nat.lt_of_lt_of_le (Heap.lt_size e) (I.ok.cab x c hfn hc)))).trans (I.base.keep b o e n hb hx)
  ·obtain ⟨sl,e1⟩:=I.base.slot b o e n hb hx
   exact ⟨sl,(hs.2 b (Nat.ne_of_lt (Nat.lt_of_lt_of_le (Heap.lt_size e) (I.ok.cab x c hfn hc)))).trans e1⟩
  ·obtain ⟨o',e1⟩:=I.base.there b o e hx
   exact ⟨o',(hs.2 b (Nat.ne_of_lt (Nat.lt_of_lt_of_le (Heap.lt_size e) (I.ok.cab x c hfn hc)))).trans e1⟩
  ·by_cases hj:j=i
   ·subst hj
    rw [hi] at e1;cases e1
    rw [List.getElem?_set_self hiσ] at e2
    cases e2
    exact ⟨u,r,.inr ⟨.inl hk,c,hc,hc'⟩⟩
   ·rw [List.getElem?_set_ne (Ne.symm hj)] at e2
    obtain ⟨u',r',q⟩:=hl j y v' e1 e2 e3
    refine ⟨u',r',?_⟩
    rcases q with q|⟨k,c',e,z'⟩
    ·exact .inl q
    ·refine .inr ⟨k,c',e,z'.sameBut hs ?_⟩
     rintro rfl
     exact hj (nodup_ix hN e1 (I.ok.inj _ _ _ e hc▸hi))
  ·by_cases hcc:c'=c
   ·subst hcc;exact ⟨_,hc'⟩
   ·obtain ⟨w2,z2⟩:=I.cell y c' e
    exact ⟨w2,z2.sameBut hs hcc⟩
  ·obtain ⟨e,n,ne,nf,d⟩:=I.pin p hp
   refine ⟨(hs.2 p.1 ?_).trans e,n,ne,nf,d⟩
   intro q
   rw [q,hoc] at e
   have q':oc=p.2:=Option.some.inj e
   exact d w' (by rw [←q'];exact hocd)
theorem store_ok {M:Model} {A:Around} {E:Value→Shared→Prop} {i:Nat} {x:Str} {v:V} {u:Value} {Q:Unit→Shared→Prop} (I:Inv X pins σ H s) (hN:X.N.Nodup) (hi:X.N[i]?=some x) (hx:Loc X.env.scope x) (r:RelV v u)
  (h:∀s',Inv X pins (σ.set i (some v)) H s'→Q () s') (hf:X.fn x=true∨X.env.scope.names.lookup x=some .local:=by first|exact .inl rfl|exact .inr rfl|assumption):wpAny M A (storeName X.env x u) Q E s:=
 store_ok2 I hN hi hx r (fun s' I' _=>h s' I') hf
theorem Inv.call' {s':Shared} {ch:List Addr} (I:Inv X pins σ H s) (ho:s'.os=s.os) (u:Un (frs X.stack) ch H H' s.heap s'.heap) (hok:HOk X.prog X.w H' s'.heap) (hg:AllBare s'.gens)
  (hch:∀b∈ch,(b∈X.ex∨X.s_0.heap.objs.size≤b)∧b≠X.env.locals∧(∀x c,X.env.cells.lookup x=some c→c≠b)∧∀p∈X.pn++pins,p.1≠b):Inv X pins σ H' s':=by
 obtain ⟨h',g',d',t',o'⟩:=s'
 have e:o'=s.os:=ho
 subst e
 exact I.call (g':=g') (t':=t') (d':=d') u hok hg hch
end
abbrev XK:=Value→Option Addr→Hp→Prop
abbrev St:=List (Option V)
abbrev VK:=V→Hp→Prop
abbrev TE:=St→Hp→VK→Prop
abbrev TT:=St→Hp→(Bool→Hp→Prop)→Prop
abbrev TA:=St→Hp→(List V→Hp→Prop)→Prop
structure Ends where
 nx:St→Hp→Prop
 rt:VK
 bk:St→Hp→Prop:=fun _ _=>False
 ct:St→Hp→Prop:=fun _ _=>False
abbrev TS:=Ends→St→Hp→Prop
def EP (X:Cx) (pins:List (Addr×Obj)) (σ:St) (Q:VK) (u:Value) (s':Shared):Prop:=∃v H',Inv X pins σ H' s'∧RelV v u∧Q v H'
def TP (X:Cx) (pins:List (Addr×Obj)) (σ:St) (Q:Bool→Hp→Prop) (b:Bool) (s':Shared):Prop:=∃H',Inv X pins σ H' s'∧Q b H'
def AP (X:Cx) (pins:List (Addr×Obj)) (σ:St) (Q:List V→Hp→Prop) (us:List Value) (s':Shared):Prop:=∃vs H',Inv X pins σ H' s'∧Vals vs us∧Q vs H'
def SP (X:Cx) (pins:List (Addr×Obj)) (D:Ends) (f:Flow) (s':Shared):Prop:=
 match f with
 | .next=>∃σ' H',Inv X pins σ' H' s'∧D.nx σ' H'
 | .brk=>∃σ' H',Inv X pins σ' H' s'∧D.bk σ' H'
 | .cont=>∃σ' H',Inv X pins σ' H' s'∧D.ct σ' H'
 | .ret u=>∃v σ' H',Inv X pins σ' H' s'∧RelV v u∧D.rt v H'
def PE (X:Cx) (e:Expr) (t:TE):Prop:=
 ∀(pins:List (Addr×Obj)) (s:Shared) (σ:St) (H:Hp) (Q:VK),Inv X pins σ H s→t σ H Q→wpAny (model X.prog X.w) X.A (eval e X.env) (EP X pins σ Q) X.xe s
def PT (X:Cx) (e:Expr) (t:TT):Prop:=
 ∀(pins:List (Addr×Obj)) (s:Shared) (σ:St) (H:Hp) (Q:Bool→Hp→Prop),Inv X pins σ H s→t σ H Q→wpAny (model X.prog X.w) X.A (isTrue e X.env (eval e X.env)) (TP X pins σ Q) X.xe s
def PW (X:Cx) (e:Expr) (t:TT):Prop:=
 ∀(whole:Sem Value) (pins:List (Addr×Obj)) (s:Shared) (σ:St) (H:Hp) (Q:Bool→Hp→Prop),Inv X pins σ H s→t σ H Q→wpAny (model X.prog X.w) X.A (isTrue e X.env whole) (TP X pins σ Q) X.xe s
theorem PW.pt {X:Cx} {e:Expr} {t:TT} (h:PW X e t):PT X e t:=h _
def PA (X:Cx) (es:List Expr) (t:TA):Prop:=
 ∀(pos:Pos) (pins:List (Addr×Obj)) (s:Shared) (σ:St) (H:Hp) (Q:List V→Hp→Prop),Inv X pins σ H s→t σ H Q→wpAny (model X.prog X.w) X.A (spliced (backTo pos (starEach es X.env))) (AP X pins σ Q) X.xe s
def PS (X:Cx) (st:Stmt) (t:TS):Prop:=
 ∀(pins:List (Addr×Obj)) (s:Shared) (σ:St) (H:Hp) (D:Ends),Inv X pins σ H s→t D σ H→wpAny (model X.prog X.w) X.A (exec st X.env) (SP X pins D) X.xe s
def PSs (X:Cx) (st:List Stmt) (t:TS):Prop:=
 ∀(pins:List (Addr×Obj)) (s:Shared) (σ:St) (H:Hp) (D:Ends),Inv X pins σ H s→t D σ H→wpAny (model X.prog X.w) X.A (execs st X.env) (SP X pins D) X.xe s
theorem thn {α:Type} {t:Sem α} {Q Q':α→Shared→Prop} {M:Model} {A:Around} {E:Value→Shared→Prop} {s:Shared} (h:wpAny M A t Q E s) (hQ:∀a s,Q a s→Q' a s):wpAny M A t Q' E s:=wpAny_mono h hQ fun _ _ x=>x
end L2
namespace L2
open PySem PySem.Spec PyProof.Rows
section
variable {X:Cx}
theorem bin {a b:Expr} {ta tb:TE} (ha:PE X a ta) (hb:PE X b tb) {pins:List (Addr×Obj)} {s:Shared} {σ:St} {H:Hp} {R:V→V→Hp→Prop} (I:Inv X pins σ H s) (h:ta σ H fun x H1=>tb σ H1 fun y H2=>R x y H2)
  {α:Type} {Q:α→Shared→Prop} {f:Value→Value→Sem α}
  (hf:∀v u s2 x y H2,Inv X pins σ H2 s2→RelV x v→RelV y u→R x y H2→wpAny (model X.prog X.w) X.A (f v u) Q X.xe s2):
  wpAny (model X.prog X.w) X.A (eval a X.env) (fun v s₁=>wpAny (model X.prog X.w) X.A (eval b X.env) (fun u s₂=>wpAny (model X.prog X.w) X.A (f v u) Q X.xe s₂) X.xe s₁) X.xe s:=by
 refine thn (ha pins s σ H _ I h) fun v s1 ⟨x,H1,I1,r1,q1⟩=>?_
 refine thn (hb pins s1 σ H1 _ I1 q1) fun u s2 ⟨y,H2,I2,r2,q2⟩=>?_
 exact hf v u s2 x y H2 I2 r1 r2 q2
def tVar (i:Nat):TE:=fun σ H Q=>∃v,σ[i]?=some (some v)∧Q v H
def tC (v:V):TE:=fun _ H Q=>Q v H
theorem pe_var {i:Nat} {x:Str} {pos:Pos} (hN:X.N[i]?=some x) (hv:Vis X.env.scope x) (hd:(x==("__debug__":Str))=false:=by decide) (hcd:(x==("__classdict__":Str))=false:=by decide):PE X (.Name x pos) (tVar i):=by
 intro pins s σ H Q I h
 obtain ⟨v,e,h⟩:=h
 obtain ⟨m,hn,hl⟩:=I.loc
 obtain ⟨u,r,l⟩:=hl i x v hN e hv
 have fin:EP X pins σ Q u s:=⟨v,H,I,r,h⟩
 rcases l with ⟨hk,hm⟩|⟨hk,c,hc,hcell⟩
 ·exact wpAny_Name (wpAny_loadName_local I.ok.kind hk hn hm fin) hd
 ·rcases hk with hk|hk
  ·exact wpAny_Name (wpAny_loadName_cell I.ok.kind hk hc hcell fin) hd
  ·exact wpAny_Name (wpAny_loadName_free I.ok.kind hk hc hcell fin hcd) hd
theorem pe_int {i j pos}:PE X (.Constant (.int i) j pos) (tC (.int i)):=fun _ _ _ H _ I h=>wpAny_Constant_int ⟨.int i,H,I.tok _,⟨_,rfl⟩,h⟩
theorem pe_non {j pos}:PE X (.Constant .none j pos) (tC .non):=fun _ _ _ H _ I h=>Constant_none ⟨.non,H,I,rfl,h⟩
theorem pe_str {x j pos}:PE X (.Constant (.str x) j pos) (tC (.str x)):=fun _ _ _ H _ I h=>Calls.Constant_str ⟨.str x,H,I.tok _,⟨_,rfl⟩,h⟩
def Gl (X:Cx) (x:Str):Prop:=X.env.kindOf x=some .globalImplicit
theorem ld_glob {E:Value→Shared→Prop} {pins:List (Addr×Obj)} {s:Shared} {σ:St} {H:Hp} {x:Str} {u:Value} {pos:Pos} {Q:Value→Shared→Prop} (I:Inv X pins σ H s) (hg:Gl X x) (hm:X.mg x=some u) (h:Q u s)
  (hd:(x==("__debug__":Str))=false:=by decide):wpAny (model X.prog X.w) X.A (eval (.Name x pos) X.env) Q E s:=
 Calls.Name_function_global I.ok.kind hg (Calls.loadGlobal_global (by rw [I.ok.glob];exact I.mod.glob.keeps I.bk) hm h) hd
theorem ld_blt {E:Value→Shared→Prop} {pins:List (Addr×Obj)} {s:Shared} {σ:St} {H:Hp} {x:Str} {u:Value} {pos:Pos} {Q:Value→Shared→Prop} (I:Inv X pins σ H s) (hg:Gl X x) (hm:X.mg x=none) (hv:bootBuiltins x=some u) (h:Q u s)
  (hn:x≠"__name__":=by decide) (hd:(x==("__debug__":Str))=false:=by decide):wpAny (model X.prog X.w) X.A (eval (.Name x pos) X.env) Q E s:=by
 obtain ⟨mb,h1,h2⟩:=I.mod.blt
 exact Calls.Name_function_global I.ok.kind hg (Calls.loadGlobal_builtin (by rw [I.ok.glob];exact I.mod.glob.keeps I.bk) hm (by rw [I.ok.blt];exact h1.keeps I.bk) ((h2 x hn).trans hv) h) hd
theorem pe_glob {x:Str} {v:V} {u:Value} {pos:Pos} (hg:Gl X x) (hm:X.mg x=some u) (r:RelV v u) (hd:(x==("__debug__":Str))=false:=by decide):PE X (.Name x pos) (tC v):=
 fun _ _ _ H _ I h=>ld_glob I hg hm ⟨v,H,I,r,h⟩ hd
def t2I (ta tb:TE) (k:Int→Int→Hp→Prop):St→Hp→Prop:=fun σ H=>ta σ H fun x H1=>tb σ H1 fun y H2=>∃i j,x=.int i∧y=.int j∧k i j H2
variable {a b:Expr} {ta tb:TE} {pos:Pos}
def PC (X:Cx) (op:CmpOp) (a b:Expr) (t:TE):Prop:=
 ∀(pins:List (Addr×Obj)) (s:Shared) (σ:St) (H:Hp) (Q:VK),Inv X pins σ H s→t σ H Q→
  wpAny (model X.prog X.w) X.A (eval a X.env) (fun v s₁=>wpAny (model X.prog X.w) X.A (eval b X.env) (fun u s₂=>wpAny (model X.prog X.w) X.A (compareOp op v u) (EP X pins σ Q) X.xe s₂) X.xe s₁) X.xe s
theorem nobehind (b:Expr) {op:CmpOp} (h:op≠.In) (h2:op≠.NotIn):behindInMarks op b=false:=by
 have e1:(op==CmpOp.In)=false:=by cases op<;>first|rfl|exact absurd rfl h
 have e2:(op==CmpOp.NotIn)=false:=by cases op<;>first|rfl|exact absurd rfl h2
 cases b<;>simp [behindInMarks,e1,e2]
def tCmp (p:Int→Int→Bool) (ta tb:TE):TE:=fun σ H Q=>t2I ta tb (fun i j H2=>Q (.bl (p i j)) H2) σ H
abbrev tLt:TE→TE→TE:=tCmp fun i j=>decide (i<j)
abbrev tGt:TE→TE→TE:=tCmp fun i j=>decide (j<i)
abbrev tEqI:TE→TE→TE:=tCmp fun i j=>decide (i=j)
abbrev tNeI:TE→TE→TE:=tCmp fun i j=> !decide (i=j)
theorem pc_int {op:CmpOp} {p:Int→Int→Bool} (ha:PE X a ta) (hb:PE X b tb)
  (rule:∀(i j:Int) (t u:Tok) (Q:Value→Shared→Prop) (s:Shared),Q (.bool (p i j)) s→wpAny (model X.prog X.w) X.A (compareOp op (.int i t) (.int j u)) Q X.xe s):PC X op a b (tCmp p ta tb):=by
 intro pins s σ H Q I h
 refine bin ha hb I h fun v u s2 x y H2 I2 rx ry q=>?_
 obtain ⟨i,j,rfl,rfl,q⟩:=q
 obtain ⟨t,rfl⟩:=rx
 obtain ⟨t',rfl⟩:=ry
 exact rule i j t t' _ s2 ⟨.bl _,H2,I2,rfl,q⟩
theorem pc_lt (ha:PE X a ta) (hb:PE X b tb):PC X .Lt a b (tLt ta tb):=pc_int ha hb fun _ _ _ _ _ _ h=>lt_int h
theorem pc_gt (ha:PE X a ta) (hb:PE X b tb):PC X .Gt a b (tGt ta tb):=pc_int ha hb fun _ _ _ _ _ _ h=>gt_int h
theorem pc_eqI (ha:PE X a ta) (hb:PE X b tb):PC X .Eq a b (tEqI ta tb):=pc_int ha hb fun _ _ _ _ _ _ h=>eq_int (by rw [Bool.beq_eq_decide_eq];exact h)
theorem pc_neI (ha:PE X a ta) (hb:PE X b tb):PC X .NotEq a b (tNeI ta tb):=pc_int ha hb fun _ _ _ _ _ _ h=>ne_int (by rw [bne,Bool.beq_eq_decide_eq];exact h)
def tIsN (ta:TE):TE:=fun σ H Q=>ta σ H fun x H1=>Q (.bl (decide (x=.non))) H1
def tNotN (ta:TE):TE:=fun σ H Q=>ta σ H fun x H1=>Q (.bl (!decide (x=.non))) H1
theorem RelV.none_iff {x:V} {v:Value} (r:RelV x v):(v==Value.none)=decide (x=.non):=by
 cases x with
 |non=>cases r;rfl
 |bl _=>cases r;rfl
 |int _=>obtain ⟨t,rfl⟩:=r;rfl
 |str _=>obtain ⟨t,rfl⟩:=r;rfl
 |byt _=>obtain ⟨t,rfl⟩:=r;rfl
 |flt _=>obtain ⟨t,rfl⟩:=r;rfl
 |ref _=>cases r;rfl
 |ty _=>cases r;rfl
theorem pc_isN {j pos'} (ha:PE X a ta):PC X .Is a (.Constant .none j pos') (tIsN ta):=by
 intro pins s σ H Q I h
 refine thn (ha pins s σ H _ I h) fun v s1 ⟨x,H1,I1,r1,q1⟩=>?_
 exact Constant_none (is_none_gen ⟨.bl _,H1,I1,by rw [r1.none_iff];rfl,q1⟩)
theorem pc_notN {j pos'} (ha:PE X a ta):PC X .IsNot a (.Constant .none j pos') (tNotN ta):=by
 intro pins s σ H Q I h
 refine thn (ha pins s σ H _ I h) fun v s1 ⟨x,H1,I1,r1,q1⟩=>?_
 exact Constant_none (isnot_none_gen ⟨.bl _,H1,I1,by rw [r1.none_iff];rfl,q1⟩)
def tB (t:TE):TT:=fun σ H Q=>t σ H fun x H1=>∃c,x=.bl c∧Q c H1
theorem pe_cmp {op:CmpOp} {t:TE} (h:PC X op a b t) (h1:behindInMarks op b=false:=by first|exact nobehind _ (by decide) (by decide)|rfl):PE X (.Compare a [op] [b] pos) t:=fun pins s σ H Q I hw=>wpAny_Compare1 (h pins s σ H Q I hw) h1
theorem pt_cmp {op:CmpOp} {t:TE} (h:PC X op a b t) (h1:behindInMarks op b=false:=by first|exact nobehind _ (by decide) (by decide)|rfl):PT X (.Compare a [op] [b] pos) (tB t):=by
 intro pins s σ H Q I hw
 refine wpAny_isTrue_Compare1 (thn (h pins s σ H _ I hw) fun v s1 h1=>thn h1 fun u s2 h2=>thn h2 fun c s3 ⟨x,H1,I1,r1,q1⟩=>?_) h1
 obtain ⟨d,rfl,q⟩:=q1
 cases r1
 exact wpAny_truthy_bool ⟨H1,I1,q⟩
theorem pt_val {e:Expr} {t:TE} (h:PE X e t) (he:∀whole,isTrue e X.env whole=(do let v←whole;standAt e.pos;holding [v] (truthy v)):=by intro _;rfl):PT X e (tB t):=by
 intro pins s σ H Q I hw
 refine isTrue_plain (thn (h pins s σ H _ I hw) fun v s1 ⟨x,H1,I1,r1,q1⟩=>?_) (he _)
 obtain ⟨d,rfl,q⟩:=q1
 cases r1
 exact wpAny_truthy_bool ⟨H1,I1,q⟩
variable {tA tB':TT} {rest:List Expr}
def tAnd (t u:TT):TT:=fun σ H Q=>t σ H fun c H1=>if c=true then u σ H1 Q else Q false H1
def tOr (t u:TT):TT:=fun σ H Q=>t σ H fun c H1=>if c=true then Q true H1 else u σ H1 Q
def tNot (t:TT):TT:=fun σ H Q=>t σ H fun c H1=>Q (!c) H1
theorem pw_and1 (ha:PT X a tA):PW X (.BoolOp .And [a] pos) tA:=by
 intro wh pins s σ H Q I h
 refine isTrue_and (thn (ha pins s σ H Q I h) fun c s1 e=>?_)
 cases c with
 |true=>exact isTrue_and_nil e
 |false=>exact e
theorem pw_or1 (ha:PT X a tA):PW X (.BoolOp .Or [a] pos) tA:=by
 intro wh pins s σ H Q I h
 refine isTrue_or (thn (ha pins s σ H Q I h) fun c s1 e=>?_)
 cases c with
 |false=>exact isTrue_or_nil e
 |true=>exact e
theorem pw_and (ha:PT X a tA) (hb:PW X (.BoolOp .And (b::rest) pos) tB'):PW X (.BoolOp .And (a::b::rest) pos) (tAnd tA tB'):=by
 intro wh pins s σ H Q I h
 refine isTrue_and (thn (ha pins s σ H _ I h) fun c s1 ⟨H1,I1,q1⟩=>?_)
 cases c with
 |true=>exact hb wh pins s1 σ H1 Q I1 q1
 |false=>exact ⟨H1,I1,q1⟩
theorem pw_or (ha:PT X a tA) (hb:PW X (.BoolOp .Or (b::rest) pos) tB'):PW X (.BoolOp .Or (a::b::rest) pos) (tOr tA tB'):=by
 intro wh pins s σ H Q I h
 refine isTrue_or (thn (ha pins s σ H _ I h) fun c s1 ⟨H1,I1,q1⟩=>?_)
 cases c with
 |true=>exact ⟨H1,I1,q1⟩
 |false=>exact hb wh pins s1 σ H1 Q I1 q1
theorem pt_not (ha:PT X a tA):PT X (.UnaryOp .Not a pos) (tNot tA):=by
 intro pins s σ H Q I h
 exact isTrue_not (ha pins s σ H (fun c H1=>Q (!c) H1) I h)
def tOrV (ta tb:TE):TE:=fun σ H Q=>ta σ H fun x H1=>∃c,x=.bl c∧if c=true then Q (.bl true) H1 else tb σ H1 Q
theorem pe_one {op} {t:TE} (h:PE X a t):PE X (.BoolOp op [a] pos) t:=fun pins s σ H Q I hw=>BoolOp_one (h pins s σ H Q I hw)
theorem pe_or (ha:PE X a ta) (hb:PE X (.BoolOp .Or (b::rest) pos) tb):PE X (.BoolOp .Or (a::b::rest) pos) (tOrV ta tb):=by
 intro pins s σ H Q I h
 refine BoolOp_or (thn (ha pins s σ H _ I h) fun v s1 ⟨x,H1,I1,r1,q1⟩=>?_)
 obtain ⟨c,rfl,q1⟩:=q1
 cases r1
 refine wpAny_truthy_bool ?_
 cases c with
 |false=>exact hb pins s1 σ H1 Q I1 q1
 |true=>exact ⟨.bl true,H1,I1,rfl,q1⟩
def tIf (t:TT) (ta tb:TE):TE:=fun σ H Q=>t σ H fun c H1=>if c=true then ta σ H1 Q else tb σ H1 Q
theorem pe_ifExp {c:Expr} (hc:PT X c tA) (ha:PE X a ta) (hb:PE X b tb):PE X (.IfExp c a b pos) (tIf tA ta tb):=by
 intro pins s σ H Q I h
 refine wpAny_IfExp (thn (hc pins s σ H _ I h) fun d s1 ⟨H1,I1,q1⟩=>?_)
 cases d with
 |true=>exact ha pins s1 σ H1 Q I1 q1
 |false=>exact hb pins s1 σ H1 Q I1 q1
end
end L2
namespace L2
open PySem PySem.Spec PyProof.Rows
def SqL (K:PySem.W.Frag) (H:Hp) (a:Addr) (xs:List V):Prop:=
 Rd H a (.lst xs)∨
  ∃(o:Obj) (its:Array Value) (n:Nat),K.lookup a=some o∧o.cls=.type "list"∧o.dict=none∧o.data=.seq its n∧its.size≤sizeLine∧Vals xs its.toList
def SqT (K:PySem.W.Frag) (H:Hp) (a:Addr) (xs:List V):Prop:=
 Rd H a (.tup xs)∨
  ∃(o:Obj) (its:Array Value) (n:Nat),K.lookup a=some o∧o.cls=.type "tuple"∧o.data=.seq its n∧its.size≤sizeLine∧Vals xs its.toList
def absV:Value→Option V
 | .none=>some .non
 | .bool b=>some (.bl b)
 | .int i _=>some (.int i)
 | .str x _=>some (.str x)
 | .bytes b _=>some (.byt b)
 | .float b _=>some (.flt b)
 | .ref a=>some (.ref a)
 | .type n=>some (.ty n)
 |_=>none
theorem RelV.abs {x:V} {u:Value} (r:RelV x u):absV u=some x:=by
 cases x with
 |non=>cases r;rfl
 |bl _=>cases r;rfl
 |int _=>obtain ⟨t,rfl⟩:=r;rfl
 |str _=>obtain ⟨t,rfl⟩:=r;rfl
 |byt _=>obtain ⟨t,rfl⟩:=r;rfl
 |flt _=>obtain ⟨t,rfl⟩:=r;rfl
 |ref _=>cases r;rfl
 |ty _=>cases r;rfl
theorem RelV.inj {x y:V} {u:Value} (r:RelV x u) (q:RelV y u):x=y:=Option.some.inj (r.abs.symm.trans q.abs)
theorem Vals.inj:∀{xs ys:List V} {us:List Value},Vals xs us→Vals ys us→xs=ys
 |_,_,_,.nil,.nil=>rfl
 |_,_,_,.cons r t,.cons r' t'=>by rw [r.inj r',Vals.inj t t']
section
variable {X:Cx} {pins:List (Addr×Obj)} {σ:St} {H:Hp} {s:Shared} {a:Addr} {xs ys:List V}
theorem SqL.of {K:PySem.W.Frag} (h:H a=some (.lst xs)):SqL K H a xs:=.inl (.inl h)
theorem SqT.of {K:PySem.W.Frag} (h:H a=some (.tup xs)):SqT K H a xs:=.inl (.inl h)
theorem Inv.list (I:Inv X pins σ H s) (h:SqL X.K H a xs):∃its:List Value,Vals xs its∧PlainL s.heap a its.toArray∧xs.length≤sizeLine:=by
 rcases h with h|⟨o,its,n,hk,hc,hd,hs,hz,r⟩
 ·obtain ⟨z,its,n,r,e⟩:=h.ok I.hok
  exact ⟨its,r,⟨_,n,e,rfl,rfl,rfl⟩,z⟩
 ·refine ⟨its.toList,r,⟨o,n,I.kIn a o hk,hc,hd,by simpa using hs⟩,?_⟩
  have e:=r.length
  simp only [Array.length_toList] at e
  omega
theorem Inv.tuple (I:Inv X pins σ H s) (h:SqT X.K H a xs):∃its:List Value,Vals xs its∧IsTup s.heap a its.toArray∧xs.length≤sizeLine:=by
 rcases h with h|⟨o,its,n,hk,hc,hs,hz,r⟩
 ·obtain ⟨z,its,r,p⟩:=h.ok I.hok
  exact ⟨its,r,p,z⟩
 ·refine ⟨its.toList,r,⟨o,I.kIn a o hk,hc,n,by simpa using hs⟩,?_⟩
  have e:=r.length
  simp only [Array.length_toList] at e
  omega
theorem Inv.list_inj (I:Inv X pins σ H s) (h:SqL X.K H a xs) (h':SqL X.K H a ys):xs=ys:=by
 obtain ⟨its,r,⟨o,n,e,_,_,d⟩,_⟩:=I.list h
 obtain ⟨its',r',⟨o',n',e',_,_,d'⟩,_⟩:=I.list h'
 rw [e] at e';cases e'
 rw [d] at d'
 injection d' with d1 _
 have:its=its':=by simpa using congrArg Array.toList d1
 subst this
 exact r.inj r'
end
abbrev Cx.wish (X:Cx) (E:Value→Shared→Prop):Cx:={X with xe:=E}
abbrev Cx.nox (X:Cx):Cx:=X.wish fun _ _=>False
theorem Cx.Ok.wish {X:Cx} (ok:X.Ok) (E:Value→Shared→Prop):(X.wish E).Ok:=
 ⟨ok.mod,ok.kind,ok.glob,ok.blt,ok.above,ok.inj,ok.has,ok.cab,ok.hd,ok.frames,ok.stk,ok.exf,ok.bs,ok.bsz,ok.noex,ok.exfs,ok.funs,ok.frf⟩
theorem Cx.Ok.unwish {X:Cx} {E:Value→Shared→Prop} (ok:(X.wish E).Ok):X.Ok:=
 ⟨ok.mod,ok.kind,ok.glob,ok.blt,ok.above,ok.inj,ok.has,ok.cab,ok.hd,ok.frames,ok.stk,ok.exf,ok.bs,ok.bsz,ok.noex,ok.exfs,ok.funs,ok.frf⟩
section
variable {X:Cx} {pins:List (Addr×Obj)} {σ:St} {H:Hp} {s:Shared} {E:Value→Shared→Prop}
theorem Inv.wish (I:Inv X pins σ H s) (E:Value→Shared→Prop):Inv (X.wish E) pins σ H s:=⟨I.ok.wish E,I.os,I.bare,I.base,I.loc,I.cell,I.free,I.freeC,I.pin,I.hok,I.len⟩
theorem Inv.unwish (I:Inv (X.wish E) pins σ H s):Inv X pins σ H s:=⟨I.ok.unwish,I.os,I.bare,I.base,I.loc,I.cell,I.free,I.freeC,I.pin,I.hok,I.len⟩
theorem SP.unwish {D:Ends} {f:Flow} {s':Shared} (h:SP (X.wish E) pins D f s'):SP X pins D f s':=by
 cases f with
 |next=>obtain ⟨σ',H',I,q⟩:=h;exact ⟨σ',H',I.unwish,q⟩
 |brk=>obtain ⟨σ',H',I,q⟩:=h;exact ⟨σ',H',I.unwish,q⟩
 |cont=>obtain ⟨σ',H',I,q⟩:=h;exact ⟨σ',H',I.unwish,q⟩
 |ret u=>obtain ⟨v,σ',H',I,r,q⟩:=h;exact ⟨v,σ',H',I.unwish,r,q⟩
theorem PSs.nox {st:List Stmt} {t:TS} (h:PSs X.nox st t):PSs X st t:=fun pins s σ H D I hw=>
 wpAny_mono (h pins s σ H D (I.wish _) hw) (fun _ _ q=>q.unwish) fun _ _ z=>False.elim z
end
section
variable {X:Cx} {st:Stmt} {rest:List Stmt} {t u:TS} {e:Expr} {te:TE} {pos:Pos}
def tNext:TS:=fun D σ H=>D.nx σ H
def tSeq (t u:TS):TS:=fun D σ H=>t {D with nx:=u D} σ H
theorem pss_nil:PSs X [] tNext:=fun _ _ σ H _ I h=>wpAny_execs_nil ⟨σ,H,I,h⟩
theorem pss_cons (h1:PS X st t) (h2:PSs X rest u):PSs X (st::rest) (tSeq t u):=by
 intro pins s σ H D I h
 refine wpAny_execs_cons (thn (h1 pins s σ H {D with nx:=u D} I h) fun f s1 q=>?_)
 cases f with
 |next=>
  obtain ⟨σ',H',I',q⟩:=q
  exact h2 pins s1 σ' H' D I' q
 |ret v=>exact q
 |brk=>exact q
 |cont=>exact q
theorem pss_one (h1:PS X st t):PSs X [st] t:=by
 intro pins s σ H D I h
 refine wpAny_execs_cons (thn (h1 pins s σ H D I h) fun f s1 q=>?_)
 cases f with
 |next=>exact wpAny_execs_nil q
 |ret v=>exact q
 |brk=>exact q
 |cont=>exact q
theorem Inv.quiet {pins:List (Addr×Obj)} {σ:St} {H:Hp} {s:Shared} (I:Inv X pins σ H s):interactive X.env=false:=by simp [interactive,I.ok.kind]
def tDrop (te:TE):TS:=fun D σ H=>te σ H fun _ H1=>D.nx σ H1
theorem ps_expr (he:PE X e te) (hs:swapsWith e none pos.line X.env=pure false:=by rfl):PS X (.Expr e pos) (tDrop te):=by
 intro pins s σ H D I h
 exact wpAny_Expr_any (thn (he pins s σ H _ I h) fun v s1 ⟨x,H1,I1,r1,q1⟩=>⟨σ,H1,I1,q1⟩) I.quiet hs
def tRet (te:TE):TS:=fun D σ H=>te σ H D.rt
theorem ps_ret (he:PE X e te):PS X (.Return (some e) pos) (tRet te):=by
 intro pins s σ H D I h
 exact wpAny_Return_some (thn (he pins s σ H _ I h) fun v s1 ⟨x,H1,I1,r1,q1⟩=>⟨x,σ,H1,I1,r1,q1⟩)
def tIfS (c:TT) (t u:TS):TS:=fun D σ H=>c σ H fun b H1=>if b=true then t D σ H1 else u D σ H1
theorem ps_if {c:Expr} {a b:List Stmt} {tc:TT} (hc:PT X c tc) (ha:PSs X a t) (hb:PSs X b u):PS X (.If c a b pos) (tIfS tc t u):=by
 intro pins s σ H D I h
 refine wpAny_If (thn (hc pins s σ H _ I h) fun d s1 ⟨H1,I1,q1⟩=>?_)
 cases d with
 |true=>exact ha pins s1 σ H1 D I1 q1
 |false=>exact hb pins s1 σ H1 D I1 q1
def tNever:TS:=fun _ _ _=>False
theorem ps_never:PS X st tNever:=fun _ _ _ _ _ _ h=>h.elim
end
abbrev TG:=V→St→Hp→(St→Hp→Prop)→Prop
abbrev TGs:=List V→St→Hp→(St→Hp→Prop)→Prop
def PG (X:Cx) (target:Expr) (t:TG):Prop:=
 ∀(pins:List (Addr×Obj)) (s:Shared) (σ:St) (H:Hp) (v:V) (u:Value) (Q:St→Hp→Prop),Inv X pins σ H s→RelV v u→t v σ H Q→
  wpAny (model X.prog X.w) X.A (assign target X.env u) (fun _ s'=>∃σ' H',Inv X pins σ' H' s'∧Q σ' H') X.xe s
def PGs (X:Cx) (ts:List Expr) (t:TGs):Prop:=
 ∀(pins:List (Addr×Obj)) (s:Shared) (σ:St) (H:Hp) (vs:List V) (us:List Value) (Q:St→Hp→Prop),Inv X pins σ H s→Vals vs us→t vs σ H Q→
  wpAny (model X.prog X.w) X.A (assignInOrder ((assignEach ts X.env).map (·.2)) us) (fun _ s'=>∃σ' H',Inv X pins σ' H' s'∧Q σ' H') X.xe s
abbrev TSet:=V→V→V→Hp→(Hp→Prop)→Prop
def PSet (X:Cx) (t:TSet):Prop:=
 ∀(pins:List (Addr×Obj)) (s:Shared) (σ:St) (H:Hp) (o i v:V) (ov iv u:Value) (Q:Hp→Prop),Inv X pins σ H s→RelV o ov→RelV i iv→RelV v u→t o i v H Q→
  wpAny (model X.prog X.w) X.A (setItem ov iv u) (fun _ s'=>∃H',Inv X pins σ H' s'∧Q H') X.xe s
abbrev TIp:=V→V→Hp→VK→Prop
def PIp (X:Cx) (op:Operator) (t:TIp):Prop:=
 ∀(pins:List (Addr×Obj)) (s:Shared) (σ:St) (H:Hp) (x y:V) (v u:Value) (Q:VK),Inv X pins σ H s→RelV x v→RelV y u→t x y H Q→
  wpAny (model X.prog X.w) X.A (inplaceOp op v u) (EP X pins σ Q) X.xe s
section
variable {X:Cx} {pos:Pos}
def gName (i:Nat):TG:=fun v σ H Q=>Q (σ.set i (some v)) H
theorem pg_name {i:Nat} {x:Str} (hN:X.N.Nodup) (hi:X.N[i]?=some x) (hx:Loc X.env.scope x) (hf:X.fn x=true∨X.env.scope.names.lookup x=some .local:=by first|exact .inl rfl|exact .inr rfl|assumption):PG X (.Name x pos) (gName i):=by
 intro pins s σ H v u Q I r h
 exact wpAny_assign_Name (store_ok I hN hi hx r (fun s' I'=>⟨_,H,I',h⟩) hf)
def gNil:TGs:=fun vs σ H Q=>vs= []∧Q σ H
def gCons (t:TG) (u:TGs):TGs:=fun vs σ H Q=>∃v r,vs=v::r∧t v σ H fun σ' H'=>u r σ' H' Q
theorem pgs_nil:PGs X [] gNil:=by
 intro pins s σ H vs us Q I r h
 obtain ⟨e,h⟩:=h
 subst e
 cases r
 exact assignInOrder_nil ⟨σ,H,I,h⟩
theorem pgs_cons {e:Expr} {es:List Expr} {t:TG} {u:TGs} (h1:PG X e t) (h2:PGs X es u)
  (hs:(assignEach (e::es) X.env).map (·.2)=assign e X.env::(assignEach es X.env).map (·.2):=by rfl):PGs X (e::es) (gCons t u):=by
 intro pins s σ H vs us Q I r h
 obtain ⟨v,vr,e1,h⟩:=h
 subst e1
 cases r with
 |cons r rr=>
  rw [hs]
  refine assignInOrder_cons (thn (h1 pins s σ H _ _ _ I r h) fun _ s1 ⟨σ1,H1,I1,q1⟩=>?_)
  exact h2 pins s1 σ1 H1 _ _ Q I1 rr q1
def gTup (K:PySem.W.Frag) (n:Nat) (t:TGs):TG:=fun v σ H Q=>∃a xs,v=.ref a∧SqT K H a xs∧xs.length=n∧t xs σ H Q
theorem pg_tup {es:List Expr} {k:Nat} {t:TGs} {n:Nat} (hc:X.calm=true) (h:PGs X es t)
  (hn:(assignEach es X.env).length=n:=by rfl) (hst:(assignEach es X.env).findIdx? (·.1)=none:=by rfl):PG X (.Tuple es k pos) (gTup X.K n t):=by
 intro pins s σ H v u Q I r hw
 obtain ⟨a,xs,e1,hq,hl,hw⟩:=hw
 subst e1
 cases r
 obtain ⟨its,rv,ht,hz⟩:=I.tuple hq
 refine assign_Tuple_tuple (I.ok.hd hc) ht (by simp [hn,←hl,rv.length]) hst fun h' hx=>?_
 have I1:Inv X pins σ H {s with heap:=h'}:=I.kept (t':=s.toks) fun b o e=>hx b o (Nat.ne_of_lt (Heap.lt_size e)) e
 exact h pins _ σ H xs _ Q I1 (by simpa using rv) hw
def gSub (to ti:TE) (t:TSet):TG:=fun v σ H Q=>to σ H fun o H1=>ti σ H1 fun i H2=>t o i v H2 fun H3=>Q σ H3
theorem pg_sub {o i:Expr} {to ti:TE} {t:TSet} (ho:PE X o to) (hi:PE X i ti) (hs:PSet X t)
  (ha:∀v,assign (.Subscript o i pos) X.env v=(do
   let ov←holding [v] (eval o X.env)
   let iv←holding [v,ov] (eval i X.env)
   standAt pos
   holding [v,ov,iv] (setItem ov iv v)
   release [v,ov,iv] []):=by intro _;rfl):PG X (.Subscript o i pos) (gSub to ti t):=by
 intro pins s σ H v u Q I r h
 rw [ha]
 refine wpAny_bind (wpAny_holding (thn (ho pins s σ H _ I h) fun ov s1 ⟨x,H1,I1,r1,q1⟩=>?_))
 refine wpAny_bind (wpAny_holding (thn (hi pins s1 σ H1 _ I1 q1) fun iv s2 ⟨y,H2,I2,r2,q2⟩=>?_))
 refine wpAny_bind (wpAny_standAt (wpAny_bind (wpAny_holding (thn (hs pins s2 σ H2 x y v ov iv u _ I2 r1 r2 r q2) fun _ s3 ⟨H3,I3,q3⟩=>?_))))
 exact wpAny_release ⟨σ,H3,I3,q3⟩
def tAsg (te:TE) (g:TG):TS:=fun D σ H=>te σ H fun x H1=>g x σ H1 D.nx
theorem ps_asg {tg e:Expr} {te:TE} {g:TG} (he:PE X e te) (hg:PG X tg g) (hs:swapsWithSole [tg] e pos.line X.env=pure false:=by rfl) (hw:swappedStores [tg] e X.env=pure none:=by rfl)
  (h1:(assignEach [tg] X.env).map (·.2)= [assign tg X.env]:=by rfl):PS X (.Assign [tg] e pos) (tAsg te g):=by
 intro pins s σ H D I h
 refine wpAny_Assign_stores (thn (he pins s σ H _ I h) fun v s1 ⟨x,H1,I1,r1,q1⟩=>?_) hs hw
 rw [h1]
 exact thn (hg pins s1 σ H1 x v _ I1 r1 q1) fun _ s2 q=>q
theorem ps_set {i:Nat} {x:Str} {e:Expr} {te:TE} {pos':Pos} (hN:X.N.Nodup) (hi:X.N[i]?=some x) (hx:Loc X.env.scope x) (he:PE X e te) (hs:swapsWith e (some (.Name x pos')) pos.line X.env=pure false:=by rfl) (hf:X.fn x=true∨X.env.scope.names.lookup x=some .local:=by first|exact .inl rfl|exact .inr rfl|assumption):
  PS X (.Assign [.Name x pos'] e pos) (tAsg te (gName i)):=by
 intro pins s σ H D I h
 refine wpAny_Assign_Name (thn (he pins s σ H _ I h) fun v s1 ⟨y,H1,I1,r1,q1⟩=>?_) hs
 exact store_ok I1 hN hi hx r1 (fun s2 I2=>⟨_,H1,I2,q1⟩) hf
def tAug (i:Nat) (te:TE) (ti:TIp):TS:=fun D σ H=>∃x,σ[i]?=some (some x)∧te σ H fun y H1=>ti x y H1 fun z H2=>D.nx (σ.set i (some z)) H2
theorem ps_aug {i:Nat} {x:Str} {e:Expr} {te:TE} {op:Operator} {ti:TIp} {pos':Pos} (hN:X.N.Nodup) (hi:X.N[i]?=some x) (hx:Loc X.env.scope x) (he:PE X e te) (ho:PIp X op ti) (hf:X.fn x=true∨X.env.scope.names.lookup x=some .local:=by first|exact .inl rfl|exact .inr rfl|assumption):
  PS X (.AugAssign (.Name x pos') op e pos) (tAug i te ti):=by
 intro pins s σ H D I h
 obtain ⟨v,e1,h⟩:=h
 obtain ⟨m,hn,hl⟩:=I.loc
 have vis:Vis X.env.scope x:=by rcases hx with k|k;exact .inl k;exact .inr (.inl k)
 obtain ⟨u,r,l⟩:=hl i x v hi e1 vis
 refine wpAny_AugAssign_Name ?_
 have go:wpAny (model X.prog X.w) X.A (eval e X.env) (fun w s₂=>wpAny (model X.prog X.w) X.A (inplaceOp op u w) (fun r s₃=>wpAny (model X.prog X.w) X.A (storeName X.env x r) (fun _=>SP X pins D .next) X.xe s₃) X.xe s₂) X.xe s:=by
  refine thn (he pins s σ H _ I h) fun w s1 ⟨y,H1,I1,r1,q1⟩=>?_
  refine thn (ho pins s1 σ H1 v y u w _ I1 r r1 q1) fun z s2 ⟨zv,H2,I2,r2,q2⟩=>?_
  exact store_ok I2 hN hi hx r2 (fun s3 I3=>⟨_,H2,I3,q2⟩) hf
 rcases l with ⟨hk,hm⟩|⟨hk,c,hc,hcell⟩
 ·exact wpAny_loadName_local I.ok.kind hk hn hm go
 ·rcases hk with hk|hk
  ·exact wpAny_loadName_cell I.ok.kind hk hc hcell go
  ·rcases hx with k|k
   ·have:X.env.scope.names.lookup x=some .free:=hk
    rw [k] at this;cases this
   ·have:X.env.scope.names.lookup x=some .free:=hk
    rw [k] at this;cases this
def ipI (f:Int→Int→Int):TIp:=fun x y H Q=>∃i j,x=.int i∧y=.int j∧Q (.int (f i j)) H
theorem ip_add:PIp X .Add (ipI fun i j=>i+j):=by
 intro pins s σ H x y v u Q I r1 r2 h
 obtain ⟨i,j,e1,e2,q⟩:=h
 subst e1;subst e2
 obtain ⟨t,rfl⟩:=r1
 obtain ⟨t',rfl⟩:=r2
 exact iadd_int ⟨.int _,H,I.tok _,⟨_,rfl⟩,q⟩
end
section
variable {X:Cx} {pos:Pos}
def tWhile (c:TT) (tb:TS):TS:=fun D σ H=>∃W:Nat→St→Hp→Prop,(∃m,W m σ H)∧∀m σ H,W m σ H→
 c σ H fun b H1=>if b=true then∃N:St→Hp→Prop,(∀σ' H',N σ' H'→∃m',m'<m∧W m' σ' H')∧tb {D with nx:=N,ct:=N,bk:=D.nx} σ H1 else D.nx σ H1
theorem ps_while {c:Expr} {body:List Stmt} {tc:TT} {tb:TS} (hp:PassesOwn (model X.prog X.w) X.A X.env X.xe) (hc:PT X c tc) (hb:PSs X body tb):PS X (.While c body [] pos) (tWhile tc tb):=by
 intro pins s σ H D I h
 obtain ⟨W,⟨m0,w0⟩,turn⟩:=h
 refine wpAny_While (codeAny_whileLoop (fun n s'=>∃σ' H',Inv X pins σ' H' s'∧W n σ' H') ?_ m0 ⟨σ,H,I,w0⟩)
 rintro n s1 ⟨σ1,H1,I1,w1⟩
 refine wpAny_passesOwn hp (thn (hc pins s1 σ1 H1 _ I1 (turn n σ1 H1 w1)) fun b s2 ⟨H2,I2,q2⟩=>?_)
 cases b with
 |true=>
  obtain ⟨N,hN,q2⟩:=q2
  rw [if_pos rfl]
  refine wpAny_passesOwn hp (thn (hb pins s2 σ1 H2 _ I2 q2) fun f s3 q3=>?_)
  cases f with
  |next=>
   obtain ⟨σ3,H3,I3,n3⟩:=q3
   obtain ⟨m',hm,w3⟩:=hN σ3 H3 n3
   exact ⟨m',hm,σ3,H3,I3,w3⟩
  |cont=>
   obtain ⟨σ3,H3,I3,n3⟩:=q3
   obtain ⟨m',hm,w3⟩:=hN σ3 H3 n3
   exact ⟨m',hm,σ3,H3,I3,w3⟩
  |brk=>exact q3
  |ret v=>exact q3
 |false=>
  rw [if_neg Bool.false_ne_true]
  exact wpAny_execs_nil ⟨σ1,H2,I2,q2⟩
end
structure It where
 go:Nat→Hp→Prop
 yld:Nat→Hp→V→Hp→Prop
 stop:Nat→Hp→Prop
def FpOk (X:Cx) (pins:List (Addr×Obj)) (H:Hp) (b:Addr):Prop:=
 H b=none∧b≠X.env.locals∧b∉X.fs∧(b∈X.ex∨X.s_0.heap.objs.size≤b)∧(∀x c,X.env.cells.lookup x=some c→c≠b)∧∀p∈X.pn++pins,p.1≠b
theorem Inv.fpOk {X:Cx} {pins:List (Addr×Obj)} {σ:St} {H H':Hp} {s:Shared} {b:Addr} (I:Inv X pins σ H s) (hb:s.heap.objs.size≤b) (hn:H' b=none):FpOk X pins H' b:=by
 refine ⟨hn,Nat.ne_of_gt (Nat.lt_of_lt_of_le I.lt hb),I.nofs hb,.inr (Nat.le_trans I.sz hb),fun x c e z=>?_,fun p hp z=>?_⟩
 ·obtain ⟨v,q⟩:=I.cell x c e
  exact absurd (Nat.lt_of_lt_of_le q.lt (by rw [z];exact hb)) (Nat.lt_irrefl _)
 ·exact absurd (Nat.lt_of_lt_of_le (Heap.lt_size (I.pin p hp).1) (by rw [z];exact hb)) (Nat.lt_irrefl _)
structure Turn (P:Program) (w:World) (K:PySem.W.Frag) (tg:Expr) (J:It) (fp:List Addr) (it:Addr) (tn:Nat→Heap→Prop):Prop where
 mem:it∈fp
 obj:∀i h,tn i h→∀b∈fp,∃o,h.get? b=some o∧∀v,o.data≠.cell v
 keep:∀i h h',tn i h→(∀b∈fp,∀o,h.get? b=some o→h'.get? b=some o)→tn i h'
 item:∀(X:Cx),X.prog=P→X.w=w→X.K=K→X.calm=true→∀(i:Nat) (pins:List (Addr×Obj)) (s:Shared) (σ:St) (H:Hp) (E:Value→Shared→Prop),Inv X pins σ H s→(∀b∈fp,FpOk X pins H b)→tn i s.heap→J.go i H→
  wpAny (model P w) X.A (pyNext (.ref it)) (fun r s1=>∃u,r=some u∧
   wpAny (model P w) X.A (letOwnedTupleGo tg (.ref it) u) (fun _ s2=>∃x H',Inv X pins σ H' s2∧RelV x u∧J.yld i H x H'∧tn (i+1) s2.heap∧∀b∈fp,H' b=none) E s1) E s
 done:∀(X:Cx),X.prog=P→X.w=w→X.K=K→X.calm=true→∀(i:Nat) (pins:List (Addr×Obj)) (s:Shared) (σ:St) (H:Hp) (E:Value→Shared→Prop),Inv X pins σ H s→(∀b∈fp,FpOk X pins H b)→tn i s.heap→J.stop i H→
  wpAny (model P w) X.A (pyNext (.ref it)) (fun r s1=>r=none∧Inv X pins σ H s1) E s
 self:∀(A:Around) (i:Nat) (s:Shared) (Q:Value→Shared→Prop) (E:Value→Shared→Prop),tn i s.heap→Q (.ref it) s→wpAny (model P w) A (pyIter (.ref it)) Q E s
abbrev TI:=St→Hp→(It→Hp→Prop)→Prop
def PIE (X:Cx) (pins:List (Addr×Obj)) (σ:St) (tg:Expr) (R:It→Hp→Prop) (itv:Value) (s2:Shared):Prop:=
 ∃(it:Addr) (fp:List Addr) (tn:Nat→Heap→Prop) (J:It) (H':Hp),itv=.ref it∧Inv X pins σ H' s2∧Turn X.prog X.w X.K tg J fp it tn∧tn 0 s2.heap∧(∀b∈fp,FpOk X pins H' b)∧R J H'
def PI (X:Cx) (tg iter:Expr) (wi:TI):Prop:=
 ∀(pins:List (Addr×Obj)) (s:Shared) (σ:St) (H:Hp) (R:It→Hp→Prop),Inv X pins σ H s→wi σ H R→
  wpAny (model X.prog X.w) X.A (eval iter X.env) (fun v s1=>wpAny (model X.prog X.w) X.A (pyIter v) (PIE X pins σ tg R) X.xe s1) X.xe s
theorem go_of {M:Model} {A:Around} {E:Value→Shared→Prop} {s:Shared} {tg:Expr} {it:Addr} {u:Value} {o:Obj} {n:String} {vs:Array Value} {Q:Unit→Shared→Prop} (ho:s.heap.get? it=some o) (hc:o.cls=.type n) (hd:o.data=.fields vs)
  (hn: ["enumerate","zip","dict_itemiterator","dict_reverseitemiterator","odict_iterator","itertools.zip_longest","itertools.pairwise"].contains n=false) (hQ:Q () s):wpAny M A (letOwnedTupleGo tg (.ref it) u) Q E s:=by
 unfold letOwnedTupleGo
 cases tg<;>first
  |exact wpAny_pure hQ
  |(cases u<;>first
    |exact wpAny_pure hQ
    |(refine wpAny_bind (wpAny_load ho ?_)
      rw [hc,hd]
      show wpAny M A (if (["enumerate","zip","dict_itemiterator","dict_reverseitemiterator","odict_iterator","itertools.zip_longest","itertools.pairwise"].contains n&&vs[0]?==some (rawInt _))=true then _ else _) Q E s
      rw [if_neg (by intro h;rw [hn,Bool.false_and] at h;cases h)]
      exact wpAny_pure hQ))
def Itl (K:PySem.W.Frag) (a:Addr):It:=
 ⟨fun i H=>∃xs x,SqL K H a xs∧xs[i]?=some x,fun i H x H'=>H'=H∧∀xs,SqL K H a xs→xs[i]?=some x,fun i H=>∃xs,SqL K H a xs∧xs.length≤i⟩
def Itr (lo:Int) (n:Nat):It:=⟨fun i _=>i<n,fun i H x H'=>H'=H∧x=.int (lo+i),fun i _=>n≤i⟩
theorem turn_list {P:Program} {w:World} {K:PySem.W.Frag} {tg:Expr} (a it:Addr):Turn P w K tg (Itl K a) [it] it (fun i h=>h.IsListIter it a i) where
 mem:=by simp
 obj:=fun i h st b hb=>by
  have e:b=it:=by simpa using hb
  subst e
  obtain ⟨o,e,c,d⟩:=st
  exact ⟨o,e,fun v z=>by rw [d] at z;cases z⟩
 keep:=fun i h h' st k=>st.at fun o e=>k it (by simp) o e
 item:=by
  intro X hP hw hK hc i pins s σ H E I hf st hg
  subst hP hw hK
  obtain ⟨xs,x,hq,hx⟩:=hg
  obtain ⟨its,rv,p,hz⟩:=I.list hq
  obtain ⟨u,hu,ru⟩:=rv.get hx
  obtain ⟨f0,f1,f2,f3,f4,f5⟩:=hf it (by simp)
  refine wpAny_pyNext_list_item st p.isList (x:=u) (by simpa using hu) fun h' st' sb=>?_
  have I1:Inv X pins σ H {s with heap:=h'}:=I.turned (t':=s.toks) (fun b o hb e=>(sb.2 b hb).trans e) f0 f1 f3 f4 f5
  obtain ⟨o,e,c,d⟩:=id st'
  exact ⟨u,rfl,go_of (s:={s with heap:=h'}) e c d (by decide) ⟨x,H,I1,ru,⟨rfl,fun ys hy=>by rw [I.list_inj hy hq];exact hx⟩,st',fun b hb=>(hf b hb).1⟩⟩
 done:=by
  intro X hP hw hK hc i pins s σ H E I hf st hg
  subst hP hw hK
  obtain ⟨xs,hq,hx⟩:=hg
  obtain ⟨its,rv,p,hz⟩:=I.list hq
  obtain ⟨f0,f1,f2,f3,f4,f5⟩:=hf it (by simp)
  have hl:=rv.length
  exact wpAny_pyNext_list_end (I.ok.hd hc) st p.isList (by simp;omega) fun h' eb=>⟨rfl,I.turned (t':=s.toks) (fun b o hb e=>eb b o hb e) f0 f1 f3 f4 f5⟩
 self:=fun _ _ _ _ _ st h=>wpAny_pyIter_listiter st h
theorem turn_range {P:Program} {w:World} {K:PySem.W.Frag} {tg:Expr} (it:Addr) (lo:Int) (n:Nat):Turn P w K tg (Itr lo n) [it] it (fun i h=>IsRangeIter h it (lo+(i:Nat) * 1) ((n:Int) - (i:Nat)) 1) where
 mem:=by simp
 obj:=fun i h st b hb=>by
  have e:b=it:=by simpa using hb
  subst e
  exact ⟨_,st,fun v z=>by
   have z':Data.fields _=Data.cell v:=z
   cases z'⟩
 keep:=fun i h h' st k=>k it (by simp) _ st
 item:=by
  intro X hP hw hK hc i pins s σ H E I hf st hg
  subst hP hw hK
  obtain ⟨f0,f1,f2,f3,f4,f5⟩:=hf it (by simp)
  have W:=Walks.range (prog:=X.prog) (w:=X.w) (I.ok.hd hc) it lo 1 n
  refine W.item i s _ _ hg st fun v h' tk hv st' kk=>?_
  obtain ⟨t,rfl⟩:=hv
  have I1:Inv X pins σ H {s with heap:=h',toks:=tk}:=I.turned (fun b o hb e=>kk b o (by simpa using hb) e) f0 f1 f3 f4 f5
  refine ⟨_,rfl,go_of (s:={s with heap:=h',toks:=tk}) (n:="range_iterator") st' rfl rfl (by decide) ⟨.int (lo+i),H,I1,⟨t,?_⟩,⟨rfl,rfl⟩,st',fun b hb=>(hf b hb).1⟩⟩
  rw [Int.mul_one]
 done:=by
  intro X hP hw hK hc i pins s σ H E I hf st hg
  subst hP hw hK
  obtain ⟨f0,f1,f2,f3,f4,f5⟩:=hf it (by simp)
  exact wpAny_pyNext_range_end (I.ok.hd hc) st (by have:n≤i:=hg;omega) fun h' eb=>⟨rfl,I.turned (t':=s.toks) (fun b o hb e=>eb b o hb e) f0 f1 f3 f4 f5⟩
 self:=fun _ _ _ _ _ st h=>wpAny_pyIter_rangeiter st h
end L2
namespace L2
open PySem PySem.Spec PyProof.Rows
section
variable {X:Cx} {tg:Expr}
def iList (K:PySem.W.Frag) (tl:TE):TI:=fun σ H R=>tl σ H fun x H1=>∃a,x=.ref a∧(∃xs,SqL K H1 a xs)∧R (Itl K a) H1
theorem pi_list {l:Expr} {tl:TE} (hl:PE X l tl):PI X tg l (iList X.K tl):=by
 intro pins s σ H R I h
 refine thn (hl pins s σ H _ I h) fun v s1 ⟨x,H1,I1,r1,q1⟩=>?_
 obtain ⟨a,e,⟨xs,hq⟩,q⟩:=q1
 subst e
 cases r1
 obtain ⟨its,rv,p,hz⟩:=I1.list hq
 refine wpAny_pyIter_list p.isList ?_
 refine ⟨s1.heap.objs.size,[s1.heap.objs.size],_,_,H1,rfl,I1.kept (t':=s1.toks) fun b o e=>Heap.get?_push_of_some _ e,turn_list a _,⟨_,Heap.get?_push_size _ rfl,rfl,rfl⟩,fun b hb=>?_,q⟩
 have e:b=s1.heap.objs.size:=by simpa using hb
 subst e
 exact I1.fpOk (Nat.le_refl _) (I1.hok.fresh (Nat.le_refl _))
theorem range_it {pins:List (Addr×Obj)} {σ:St} {H:Hp} {s:Shared} {R:It→Hp→Prop} {E:Value→Shared→Prop} {lo hi:Int} {t u v:Tok} {tk:Nat} (I:Inv X pins σ H s) (h1: -(2 ^ 62)≤lo) (h2:lo<2 ^ 62) (h3: -(2 ^ 62)≤hi) (h4:hi<2 ^ 62)
  (q:R (Itr lo (hi - lo).toNat) H):wpAny (model X.prog X.w) X.A (pyIter (.ref s.heap.objs.size)) (PIE X pins σ tg R) E {s with heap:=s.heap.push {cls:=.type "range",data:=.fields #[.int lo t,.int hi u,.int 1 v]},toks:=tk}:=by
 refine wpAny_pyIter_range (IsRange.new ..) (small_one h1 h2 h3 h4) ?_
 have I1:Inv X pins σ H {s with heap:=s.heap.push {cls:=.type "range",data:=.fields #[.int lo t,.int hi u,.int 1 v]},toks:=tk}:=I.kept fun b o e=>Heap.get?_push_of_some _ e
 refine ⟨(s.heap.push {cls:=.type "range",data:=.fields #[.int lo t,.int hi u,.int 1 v]}).objs.size,[(s.heap.push {cls:=.type "range",data:=.fields #[.int lo t,.int hi u,.int 1 v]}).objs.size],_,_,H,rfl,
  I1.kept (t':=tk) fun b o e=>Heap.get?_push_of_some _ e,turn_range _ lo (hi - lo).toNat,?_,fun b hb=>?_,q⟩
 ·have e1:lo+((0:Nat):Int) * 1=lo:=by simp
  have e2:(((hi - lo).toNat:Nat):Int) - ((0:Nat):Int)=Builtin.Range.rangeSize lo hi 1:=by rw [rangeSize_one];split<;>omega
  show IsRangeIter _ _ (lo+((0:Nat):Int) * 1) ((((hi - lo).toNat:Nat):Int) - ((0:Nat):Int)) 1
  rw [e1,e2]
  exact Heap.get?_push_size _ rfl
 ·have e:b=(s.heap.push {cls:=.type "range",data:=.fields #[.int lo t,.int hi u,.int 1 v]}).objs.size:=by simpa using hb
  subst e
  exact I1.fpOk (Nat.le_refl _) (I1.hok.fresh (Nat.le_refl _))
def iRng1 (ta:TA):TI:=fun σ H R=>ta σ H fun vs H1=>∃j:Int,vs= [.int j]∧ -(2 ^ 62)≤j∧j<2 ^ 62∧R (Itr 0 j.toNat) H1
def iRng2 (ta:TA):TI:=fun σ H R=>ta σ H fun vs H1=>∃i j:Int,vs= [.int i,.int j]∧(-(2 ^ 62)≤i∧i<2 ^ 62∧ -(2 ^ 62)≤j∧j<2 ^ 62)∧R (Itr i (j - i).toNat) H1
theorem pi_range1 {a:Expr} {ta:TA} {p pos:Pos} (hg:Gl X "range") (hm:X.mg "range"=none) (ha:PA X [a] ta) (hs:starEach [a] X.env= [(false,eval a X.env)]:=by rfl):PI X tg (.Call (.Name "range" p) [a] [] pos) (iRng1 ta):=by
 intro pins s σ H R I h
 refine Call_ (ld_blt I hg hm boot_range (PyProof.Rows.callWith_type1 (thn (ha pos pins s σ H _ I h) fun us s1 ⟨vs,H1,I1,r1,q1⟩=>?_) hs rfl))
 obtain ⟨j,e,q1,q2,q⟩:=q1
 subst e
 cases r1 with
 |cons r rr=>
  cases rr
  obtain ⟨t,rfl⟩:=r
  exact call_range_1 (range_it I1 (by omega) (by omega) q1 q2 (by simpa using q))
theorem pi_range2 {a b:Expr} {ta:TA} {p pos:Pos} (hg:Gl X "range") (hm:X.mg "range"=none) (ha:PA X [a,b] ta) (hs:starEach [a,b] X.env= [(false,eval a X.env),(false,eval b X.env)]:=by rfl) (hs2:starEach [b] X.env= [(false,eval b X.env)]:=by rfl):
  PI X tg (.Call (.Name "range" p) [a,b] [] pos) (iRng2 ta):=by
 intro pins s σ H R I h
 refine Call_ (ld_blt I hg hm boot_range (PyProof.Rows.callWith_type1 (thn (ha pos pins s σ H _ I h) fun us s1 ⟨vs,H1,I1,r1,q1⟩=>?_) (by rw [hs,hs2]) (by rw [hs2];rfl)))
 obtain ⟨i,j,e,⟨q1,q2,q3,q4⟩,q⟩:=q1
 subst e
 cases r1 with
 |cons r rr=>
  cases rr with
  |cons r' rr=>
   cases rr
   obtain ⟨t,rfl⟩:=r
   obtain ⟨t',rfl⟩:=r'
   exact call_range_2 (range_it I1 q1 q2 q3 q4 q)
def tFor (wi:TI) (g:TG) (tb:TS):TS:=fun D σ H=>wi σ H fun J H1=>∃W:Nat→Nat→St→Hp→Prop,(∃m,W 0 m σ H1)∧∀i m σ H,W i m σ H→
 (J.stop i H∧D.nx σ H)∨(J.go i H∧∃N:St→Hp→Prop,(∀σ' H',N σ' H'→∃m',m'<m∧W (i+1) m' σ' H')∧∀x H',J.yld i H x H'→g x σ H' fun σ2 H2=>tb {D with nx:=N,ct:=N,bk:=D.nx} σ2 H2)
def pinsAt (fp:List Addr) (h:Heap):List (Addr×Obj):=fp.filterMap fun b=>(h.get? b).map fun o=>(b,o)
theorem mem_pinsAt {fp:List Addr} {h:Heap} {b:Addr} {o:Obj} (hb:b∈fp) (e:h.get? b=some o):(b,o)∈pinsAt fp h:=List.mem_filterMap.mpr ⟨b,hb,by rw [e];rfl⟩
theorem of_pinsAt {fp:List Addr} {h:Heap} {p:Addr×Obj} (hp:p∈pinsAt fp h):p.1∈fp∧h.get? p.1=some p.2:=by
 obtain ⟨b,hb,e⟩:=List.mem_filterMap.mp hp
 cases q:h.get? b with
 |none=>rw [q] at e;cases e
 |some o=>
  rw [q] at e
  have e':(b,o)=p:=Option.some.inj e
  subst e'
  exact ⟨hb,q⟩
theorem Inv.pinned {pins:List (Addr×Obj)} {σ:St} {H:Hp} {s:Shared} {fp:List Addr} (I:Inv X pins σ H s) (hf:∀b∈fp,FpOk X pins H b) (ho:∀b∈fp,∃o,s.heap.get? b=some o∧∀v,o.data≠.cell v):Inv X (pins++pinsAt fp s.heap) σ H s:=
 I.pins_of fun p hp=>(List.mem_append.mp hp).elim (fun z=>I.pin p (List.mem_append_right _ z)) fun z=>by
  obtain ⟨hb,e⟩:=of_pinsAt z
  obtain ⟨f0,f1,f2,_⟩:=hf p.1 hb
  obtain ⟨o,e',d⟩:=ho p.1 hb
  rw [e] at e';cases e'
  exact ⟨e,f0,f1,f2,d⟩
theorem Inv.unpinned {pins pl:List (Addr×Obj)} {σ:St} {H:Hp} {s:Shared} (I:Inv X (pins++pl) σ H s):Inv X pins σ H s:=I.pins_of fun p hp=>I.pin p (List.mem_append_right _ (List.mem_append_left _ hp))
theorem ps_for {iter:Expr} {body:List Stmt} {wi:TI} {g:TG} {tb:TS} {pos:Pos} (hp:PassesOwn (model X.prog X.w) X.A X.env X.xe) (hc:X.calm=true) (hi:PI X tg iter wi) (hg:PG X tg g) (hb:PSs X body tb)
  (hs:∀x,foldedSetIterable iter X.env x=pure x:=by intro _;rfl):PS X (.For tg iter body [] pos) (tFor wi g tb):=by
 intro pins s σ H D I h
 refine wpAny_For (thn (hi pins s σ H _ I h) fun v s1 h1=>thn h1 fun itv s2 h2=>?_) hs
 obtain ⟨it,fp,tn,J,H2,e,I2,T,st2,f2,W,⟨m0,w0⟩,turn⟩:=h2
 subst e
 have stat:∀{H':Hp},(∀b∈fp,H' b=none)→∀b∈fp,FpOk X pins H' b:=fun hn b hb=>⟨hn b hb,(f2 b hb).2⟩
 refine codeAny_forLoop_any (fun n s'=>∃i σ' H',Inv X pins σ' H' s'∧tn i s'.heap∧(∀b∈fp,H' b=none)∧W i n σ' H') ?_ m0 ⟨0,σ,H2,I2,st2,fun b hb=>(f2 b hb).1,w0⟩
 rintro n s3 ⟨i,σ3,H3,I3,st3,fr3,w3⟩
 rcases turn i n σ3 H3 w3 with ⟨stop,qn⟩|⟨go,N,hN,step⟩
 ·refine wpAny_passesOwn hp (thn (T.done X rfl rfl rfl hc i pins s3 σ3 H3 X.xe I3 (stat fr3) st3 stop) fun r s4 ⟨hr,I4⟩=>?_)
  subst hr
  exact wpAny_execs_nil ⟨σ3,H3,I4,qn⟩
 ·refine wpAny_passesOwn hp (thn (T.item X rfl rfl rfl hc i pins s3 σ3 H3 X.xe I3 (stat fr3) st3 go) fun r s4 ⟨u,hr,h4⟩=>?_)
  subst hr
  refine wpAny_passesOwn hp (thn h4 fun _ s5 ⟨x,H5,I5,r5,y5,st5,fr5⟩=>?_)
  have I5':=I5.pinned (stat fr5) (T.obj _ _ st5)
  refine wpAny_passesOwn hp (thn (hg _ s5 σ3 H5 x u _ I5' r5 (step x H5 y5)) fun _ s6 ⟨σ6,H6,I6,q6⟩=>?_)
  refine wpAny_passesOwn hp (thn (hb _ s6 σ6 H6 _ I6 q6) fun f s7 q7=>?_)
  have again:∀{σ7:St} {H7:Hp},Inv X (pins++pinsAt fp s5.heap) σ7 H7 s7→N σ7 H7→∃m,m<n∧∃i σ' H',Inv X pins σ' H' s7∧tn i s7.heap∧(∀b∈fp,H' b=none)∧W i m σ' H':=fun {σ7 H7} I7 n7=>by
   obtain ⟨m',hm,w7⟩:=hN σ7 H7 n7
   refine ⟨m',hm,i+1,σ7,H7,I7.unpinned,T.keep _ _ _ st5 fun b hb o e=>(I7.pin (b,o) (List.mem_append_right _ (List.mem_append_right _ (mem_pinsAt hb e)))).1,fun b hb=>?_,w7⟩
   obtain ⟨o,e,d⟩:=T.obj _ _ st5 b hb
   exact (I7.pin (b,o) (List.mem_append_right _ (List.mem_append_right _ (mem_pinsAt hb e)))).2.1
  cases f with
  |next=>obtain ⟨σ7,H7,I7,n7⟩:=q7;exact again I7 n7
  |cont=>obtain ⟨σ7,H7,I7,n7⟩:=q7;exact again I7 n7
  |brk=>obtain ⟨σ7,H7,I7,q7⟩:=q7;exact ⟨σ7,H7,I7.unpinned,q7⟩
  |ret v=>obtain ⟨x7,σ7,H7,I7,r7,q7⟩:=q7;exact ⟨x7,σ7,H7,I7.unpinned,r7,q7⟩
end
theorem for_list {K:PySem.W.Frag} {a:Addr} {xs:List V} {g:TG} {tb:TS} {D:Ends} {σ:St} {H:Hp} (Pv:Nat→St→Hp→Prop) (h0:Pv 0 σ H) (hl:∀i σ H,i≤xs.length→Pv i σ H→SqL K H a xs)
  (hs:∀i x σ H,xs[i]?=some x→Pv i σ H→g x σ H fun σ2 H2=>tb {D with nx:=Pv (i+1),ct:=Pv (i+1),bk:=D.nx} σ2 H2) (hd:∀σ H,Pv xs.length σ H→D.nx σ H):
  ∃W:Nat→Nat→St→Hp→Prop,(∃m,W 0 m σ H)∧∀i m σ H,W i m σ H→
   ((Itl K a).stop i H∧D.nx σ H)∨((Itl K a).go i H∧∃N:St→Hp→Prop,(∀σ' H',N σ' H'→∃m',m'<m∧W (i+1) m' σ' H')∧∀x H',(Itl K a).yld i H x H'→g x σ H' fun σ2 H2=>tb {D with nx:=N,ct:=N,bk:=D.nx} σ2 H2):=by
 refine ⟨fun i m σ H=>m=xs.length - i∧i≤xs.length∧Pv i σ H,⟨xs.length,by simp,Nat.zero_le _,h0⟩,?_⟩
 rintro i m σ H ⟨rfl,hi,p⟩
 have q:=hl i σ H hi p
 by_cases hlt:i<xs.length
 ·refine .inr ⟨⟨xs,xs[i],q,by simp [hlt]⟩,Pv (i+1),fun σ' H' p'=>⟨xs.length - (i+1),by omega,rfl,hlt,p'⟩,fun x H' y=>?_⟩
  obtain ⟨e,y⟩:=y
  subst e
  exact hs i x σ _ (y xs q) p
 ·have e:i=xs.length:=by omega
  subst e
  exact .inl ⟨⟨xs,q,Nat.le_refl _⟩,hd σ H p⟩
theorem for_range {lo:Int} {n:Nat} {g:TG} {tb:TS} {D:Ends} {σ:St} {H:Hp} (Pv:Nat→St→Hp→Prop) (h0:Pv 0 σ H)
  (hs:∀i σ H,i<n→Pv i σ H→g (.int (lo+i)) σ H fun σ2 H2=>tb {D with nx:=Pv (i+1),ct:=Pv (i+1),bk:=D.nx} σ2 H2) (hd:∀σ H,Pv n σ H→D.nx σ H):
  ∃W:Nat→Nat→St→Hp→Prop,(∃m,W 0 m σ H)∧∀i m σ H,W i m σ H→
   ((Itr lo n).stop i H∧D.nx σ H)∨((Itr lo n).go i H∧∃N:St→Hp→Prop,(∀σ' H',N σ' H'→∃m',m'<m∧W (i+1) m' σ' H')∧∀x H',(Itr lo n).yld i H x H'→g x σ H' fun σ2 H2=>tb {D with nx:=N,ct:=N,bk:=D.nx} σ2 H2):=by
 refine ⟨fun i m σ H=>m=n - i∧i≤n∧Pv i σ H,⟨n,by simp,Nat.zero_le _,h0⟩,?_⟩
 rintro i m σ H ⟨rfl,hi,p⟩
 by_cases hlt:i<n
 ·refine .inr ⟨hlt,Pv (i+1),fun σ' H' p'=>⟨n - (i+1),by omega,rfl,hlt,p'⟩,fun x H' y=>?_⟩
  obtain ⟨e,y⟩:=y
  subst e y
  exact hs i σ _ hlt p
 ·have e:i=n:=by omega
  subst e
  exact .inl ⟨Nat.le_refl _,hd σ H p⟩
end L2
namespace L2
open PySem PySem.Spec PyProof.Rows
abbrev R2:=V→V→Hp→VK→Prop
def OpR (X:Cx) (f:Value→Value→Sem Value) (r:R2):Prop:=
 ∀(pins:List (Addr×Obj)) (s:Shared) (σ:St) (H:Hp) (x y:V) (v u:Value) (Q:VK),Inv X pins σ H s→RelV x v→RelV y u→r x y H Q→
  wpAny (model X.prog X.w) X.A (f v u) (EP X pins σ Q) X.xe s
def UnR (X:Cx) (f:Value→Sem Value) (r:V→Hp→VK→Prop):Prop:=
 ∀(pins:List (Addr×Obj)) (s:Shared) (σ:St) (H:Hp) (x:V) (v:Value) (Q:VK),Inv X pins σ H s→RelV x v→r x H Q→
  wpAny (model X.prog X.w) X.A (f v) (EP X pins σ Q) X.xe s
def CallR (X:Cx) (f:Value) (r:List V→Hp→VK→Prop):Prop:=
 ∀(pins:List (Addr×Obj)) (s:Shared) (σ:St) (H:Hp) (xs:List V) (us:List Value) (Q:VK),Inv X pins σ H s→Vals xs us→r xs H Q→
  wpAny (model X.prog X.w) X.A (call f us) (EP X pins σ Q) X.xe s
def TruR (X:Cx) (r:V→Hp→(Bool→Hp→Prop)→Prop):Prop:=
 ∀(pins:List (Addr×Obj)) (s:Shared) (σ:St) (H:Hp) (x:V) (v:Value) (Q:Bool→Hp→Prop),Inv X pins σ H s→RelV x v→r x H Q→
  wpAny (model X.prog X.w) X.A (truthy v) (TP X pins σ Q) X.xe s
def tOp (r:R2) (ta tb:TE):TE:=fun σ H Q=>ta σ H fun x H1=>tb σ H1 fun y H2=>r x y H2 Q
def tUn (r:V→Hp→VK→Prop) (ta:TE):TE:=fun σ H Q=>ta σ H fun x H1=>r x H1 Q
def rI (C:Int→Int→Prop) (g:Int→Int→V):R2:=fun x y H Q=>∃i j,x=.int i∧y=.int j∧C i j∧Q (g i j) H
def rI0 (g:Int→Int→V):R2:=fun x y H Q=>∃i j,x=.int i∧y=.int j∧Q (g i j) H
def rU (g:Int→V):V→Hp→VK→Prop:=fun x H Q=>∃i,x=.int i∧Q (g i) H
section
variable {X:Cx} {a b c:Expr} {ta tb tc:TE} {pos:Pos}
theorem binT (ha:PE X a ta) (hb:PE X b tb) {pins:List (Addr×Obj)} {s:Shared} {σ:St} {H:Hp} {R:V→V→Hp→Prop} (I:Inv X pins σ H s)
  (h:ta σ H fun x H1=>tb σ H1 fun y H2=>R x y H2) {Q:Value→Shared→Prop} {f:Value→Value→Sem Value}
  (hf:∀v u s2 x y H2,Inv X pins σ H2 s2→RelV x v→RelV y u→R x y H2→wpAny (model X.prog X.w) X.A (f v u) Q X.xe s2):
  wpAny (model X.prog X.w) X.A (eval a X.env) (fun v s₁=>wpAny (model X.prog X.w) X.A (eval b X.env) (fun u s₂=>wpAny (model X.prog X.w) X.A (f v u) Q X.xe s₂) X.xe s₁) X.xe s:=by
 refine thn (ha pins s σ H _ I h) fun v s1 ⟨x,H1,I1,r1,q1⟩=>?_
 refine thn (hb pins s1 σ H1 _ I1 q1) fun u s2 ⟨y,H2,I2,r2,q2⟩=>?_
 exact hf v u s2 x y H2 I2 r1 r2 q2
theorem pe_op {op:Operator} {r:R2} (ho:OpR X (binaryOp op) r) (ha:PE X a ta) (hb:PE X b tb):PE X (.BinOp a op b pos) (tOp r ta tb):=by
 intro pins s σ H Q I h
 exact wpAny_BinOp (binT ha hb I h fun v u s2 x y H2 I2 rx ry q=>ho pins s2 σ H2 x y v u Q I2 rx ry q)
theorem pe_un {op:UnaryOp} {r:V→Hp→VK→Prop} (ho:UnR X (unaryOp op) r) (ha:PE X a ta):PE X (.UnaryOp op a pos) (tUn r ta):=by
 intro pins s σ H Q I h
 exact UnaryOp_ (thn (ha pins s σ H _ I h) fun v s1 ⟨x,H1,I1,r1,q1⟩=>ho pins s1 σ H1 x v Q I1 r1 q1)
theorem opI {f:Value→Value→Sem Value} {C:Int→Int→Prop} {g:Int→Int→Int}
  (rule:∀(i j:Int) (t u:Tok) (s:Shared) (Q:Value→Shared→Prop) (E:Value→Shared→Prop),C i j→Q (.int (g i j) s.toks) {s with toks:=s.toks+1}→wpAny (model X.prog X.w) X.A (f (.int i t) (.int j u)) Q E s):
  OpR X f (rI C fun i j=>.int (g i j)):=by
 intro pins s σ H x y v u Q I rx ry h
 obtain ⟨i,j,rfl,rfl,hc,q⟩:=h
 obtain ⟨t,rfl⟩:=rx
 obtain ⟨t',rfl⟩:=ry
 exact rule i j t t' s _ _ hc ⟨.int (g i j),H,I.tok _,⟨_,rfl⟩,q⟩
theorem opI0 {f:Value→Value→Sem Value} {g:Int→Int→Int}
  (rule:∀(i j:Int) (t u:Tok) (s:Shared) (Q:Value→Shared→Prop) (E:Value→Shared→Prop),Q (.int (g i j) s.toks) {s with toks:=s.toks+1}→wpAny (model X.prog X.w) X.A (f (.int i t) (.int j u)) Q E s):
  OpR X f (rI0 fun i j=>.int (g i j)):=by
 intro pins s σ H x y v u Q I rx ry h
 obtain ⟨i,j,rfl,rfl,q⟩:=h
 obtain ⟨t,rfl⟩:=rx
 obtain ⟨t',rfl⟩:=ry
 exact rule i j t t' s _ _ ⟨.int (g i j),H,I.tok _,⟨_,rfl⟩,q⟩
theorem opB0 {f:Value→Value→Sem Value} {g:Int→Int→Bool}
  (rule:∀(i j:Int) (t u:Tok) (s:Shared) (Q:Value→Shared→Prop) (E:Value→Shared→Prop),Q (.bool (g i j)) s→wpAny (model X.prog X.w) X.A (f (.int i t) (.int j u)) Q E s):
  OpR X f (rI0 fun i j=>.bl (g i j)):=by
 intro pins s σ H x y v u Q I rx ry h
 obtain ⟨i,j,rfl,rfl,q⟩:=h
 obtain ⟨t,rfl⟩:=rx
 obtain ⟨t',rfl⟩:=ry
 exact rule i j t t' s _ _ ⟨.bl (g i j),H,I,rfl,q⟩
def CMul (i j:Int):Prop:=(-(2 ^ 64)<i∧i<2 ^ 64)∨(-(2 ^ 64)<j∧j<2 ^ 64)
theorem CMul.ok {i j:Int} (h:CMul i j):IntMulOk i j:=by
 rcases h with ⟨h1,h2⟩|⟨h1,h2⟩
 ·exact .of_left (intBits_le_64 h1 h2)
 ·exact .of_right (intBits_le_64 h1 h2)
theorem op_add:OpR X (binaryOp .Add) (rI0 fun i j=>.int (i+j)):=opI0 fun _ _ _ _ _ _ _ q=>add_int q
theorem op_sub:OpR X (binaryOp .Sub) (rI0 fun i j=>.int (i - j)):=opI0 fun _ _ _ _ _ _ _ q=>sub_int q
theorem op_mul:OpR X (binaryOp .Mult) (rI CMul fun i j=>.int (i * j)):=opI fun _ _ _ _ _ _ _ hc q=>mul_int q hc.ok
theorem unI {f:Value→Sem Value} {g:Int→Int}
  (rule:∀(i:Int) (t:Tok) (s:Shared) (Q:Value→Shared→Prop) (E:Value→Shared→Prop),Q (.int (g i) s.toks) {s with toks:=s.toks+1}→wpAny (model X.prog X.w) X.A (f (.int i t)) Q E s):
  UnR X f (rU fun i=>.int (g i)):=by
 intro pins s σ H x v Q I rx h
 obtain ⟨i,rfl,q⟩:=h
 obtain ⟨t,rfl⟩:=rx
 exact rule i t s _ _ ⟨.int (g i),H,I.tok _,⟨_,rfl⟩,q⟩
theorem un_neg:UnR X (unaryOp .USub) (rU fun i=>.int (-i)):=unI fun _ _ _ _ _ q=>neg_int q
end
section
variable {X:Cx} {a b c:Expr} {ta tb tc:TE} {pos:Pos}
theorem fin_bl {pins:List (Addr×Obj)} {σ:St} {H:Hp} {s:Shared} {Q:VK} {k k':Bool} (I:Inv X pins σ H s) (q:Q (.bl k) H) (e:k=k'):EP X pins σ Q (.bool k') s:=by
 subst e
 exact ⟨.bl k,H,I,rfl,q⟩
theorem op_lt:OpR X (compareOp .Lt) (rI0 fun i j=>.bl (decide (i<j))):=opB0 fun _ _ _ _ _ _ _ q=>lt_int q
theorem op_le:OpR X (compareOp .LtE) (rI0 fun i j=>.bl (decide (i≤j))):=opB0 fun _ _ _ _ _ _ _ q=>le_int q
theorem op_gt:OpR X (compareOp .Gt) (rI0 fun i j=>.bl (decide (j<i))):=opB0 fun _ _ _ _ _ _ _ q=>gt_int q
theorem op_ge:OpR X (compareOp .GtE) (rI0 fun i j=>.bl (decide (j≤i))):=opB0 fun _ _ _ _ _ _ _ q=>ge_int q
theorem op_notN:OpR X (compareOp .IsNot) (fun x y H Q=>y=.non∧Q (.bl (!decide (x=.non))) H):=by
 intro pins s σ H x y v u Q I rx ry h
 obtain ⟨rfl,q⟩:=h
 cases ry
 refine isnot_none_gen (fin_bl I q ?_)
 cases x<;>first
  |(cases rx;rfl)
  |(obtain ⟨t,rfl⟩:=rx;rfl)
theorem nomark (b:Expr) {op:CmpOp} (h:op≠.In:=by decide) (h2:op≠.NotIn:=by decide):behindInMarks op b=false:=by
 have e1:(op==CmpOp.In)=false:=by cases op<;>first|rfl|exact absurd rfl h
 have e2:(op==CmpOp.NotIn)=false:=by cases op<;>first|rfl|exact absurd rfl h2
 cases b<;>simp [behindInMarks,e1,e2]
theorem pe_cmpR {op:CmpOp} {r:R2} (ho:OpR X (compareOp op) r) (ha:PE X a ta) (hb:PE X b tb) (hm:behindInMarks op b=false):PE X (.Compare a [op] [b] pos) (tOp r ta tb):=by
 intro pins s σ H Q I h
 exact wpAny_Compare1 (binT ha hb I h fun v u s2 x y H2 I2 rx ry q=>ho pins s2 σ H2 x y v u Q I2 rx ry q) hm
def tTest (t:TE):TT:=fun σ H Q=>t σ H fun x H'=>∃k,x=.bl k∧Q k H'
theorem pt_cmpR {op:CmpOp} {r:R2} (ho:OpR X (compareOp op) r) (ha:PE X a ta) (hb:PE X b tb) (hm:behindInMarks op b=false):PT X (.Compare a [op] [b] pos) (tTest (tOp r ta tb)):=by
 intro pins s σ H Q I h
 refine wpAny_isTrue_Compare1 (thn (ha pins s σ H _ I h) fun v s1 ⟨x,H1,I1,r1,q1⟩=>thn (hb pins s1 σ H1 _ I1 q1) fun u s2 ⟨y,H2,I2,r2,q2⟩=>
  thn (ho pins s2 σ H2 x y v u _ I2 r1 r2 q2) fun c s3 ⟨z,H3,I3,r3,k,e,q3⟩=>?_) hm
 subst e
 cases r3
 exact wpAny_truthy_bool ⟨H3,I3,q3⟩
def tChain (r r':R2) (ta tb tc:TE):TE:=fun σ H Q=>ta σ H fun x H1=>tb σ H1 fun y H2=>r x y H2 fun z H3=>∃k,z=.bl k∧
 (if k=true then tc σ H3 fun w' H4=>r' y w' H4 Q else Q (.bl false) H3)
theorem pt_chain {op op':CmpOp} {r r':R2} (ho:OpR X (compareOp op) r) (ho':OpR X (compareOp op') r') (ha:PE X a ta) (hb:PE X b tb) (hc:PE X c tc)
  (hm:lastMarks [op,op'] [b,c]=false:=by with_unfolding_all rfl):PT X (.Compare a [op,op'] [b,c] pos) (tTest (tChain r r' ta tb tc)):=by
 intro pins s σ H Q I h
 refine isTrue_chain (thn (ha pins s σ H _ I h) fun v s1 ⟨x,H1,I1,r1,q1⟩=>test_link (thn (hb pins s1 σ H1 _ I1 q1) fun u s2 ⟨y,H2,I2,r2,q2⟩=>
  thn (ho pins s2 σ H2 x y v u _ I2 r1 r2 q2) fun d s3 ⟨z,H3,I3,r3,k,e,q3⟩=>?_)) hm
 subst e
 cases r3
 refine wpAny_truthy_bool ?_
 cases k with
 |false=>
  obtain ⟨k',e',q'⟩:=q3
  cases e'
  exact ite_ff ⟨H3,I3,q'⟩
 |true=>
  refine ite_tt (test_last (thn (hc pins s3 σ H3 _ I3 q3) fun w' s4 ⟨z',H4,I4,r4,q4⟩=>thn (ho' pins s4 σ H4 y z' u w' _ I4 r2 r4 q4) fun d' s5 ⟨z2,H5,I5,r5,k2,e2,q5⟩=>?_))
  subst e2
  cases r5
  exact wpAny_truthy_bool ⟨H5,I5,q5⟩
def TruV (K:PySem.W.Frag) (x:V) (H:Hp) (k:Bool):Prop:=
 match x with
 | .non=>k=false
 | .bl b=>k=b
 | .int i=>k=(i !=0)
 | .str y=>y.length≤sizeLine∧k=((y.length:Int) !=0)
 | .byt y=>y.size≤sizeLine∧k=((y.size:Int) !=0)
 | .ref p=>(∃xs,SqL K H p xs∧k= !xs.isEmpty)∨(∃xs,SqT K H p xs∧k= !xs.isEmpty)∨∃kvs,H p=some (.dK kvs)∧k= !kvs.isEmpty
 |_=>False
theorem isEmpty_kv {κ:Type} {kvs:List (κ×V)} {vs:List (κ×Value)} (r:KV kvs vs):(!vs.isEmpty)= !kvs.isEmpty:=by
 cases r<;>rfl
theorem isEmpty_of {xs:List V} {its:List Value} (r:Vals xs its):(!its.toArray.isEmpty)= !xs.isEmpty:=by
 cases r<;>simp
theorem line63:(sizeLine:Nat)<2 ^ 63:=by rw [sizeLine_eq];decide
theorem tru_ok:TruR X (fun x H Q=>∃k,TruV X.K x H k∧Q k H):=by
 intro pins s σ H x v Q I rx h
 obtain ⟨k,e,q⟩:=h
 have hl:=line63
 have hs:sizeLine=16777216:=sizeLine_eq
 cases x with
 |non=>
  cases rx
  have e':k=false:=e
  subst e'
  exact truthy_none ⟨H,I,q⟩
 |bl b=>
  cases rx
  have e':k=b:=e
  subst e'
  exact wpAny_truthy_bool ⟨H,I,q⟩
 |int i=>
  obtain ⟨t,rfl⟩:=rx
  have e':k=(i !=0):=e
  subst e'
  exact PySem.P.truthy_int ⟨H,I,q⟩
 |str y=>
  obtain ⟨t,rfl⟩:=rx
  obtain ⟨hy,e'⟩:y.length≤sizeLine∧k=((y.length:Int) !=0):=e
  subst e'
  exact PySem.P.truthy_str (by omega) ⟨H,I.tok _,q⟩
 |byt y=>
  obtain ⟨t,rfl⟩:=rx
  obtain ⟨hy,e'⟩:y.size≤sizeLine∧k=((y.size:Int) !=0):=e
  subst e'
  exact PySem.W.truthy_bytes (by omega) ⟨H,I.tok _,q⟩
 |ref p=>
  cases rx
  have e':(∃xs,SqL X.K H p xs∧k= !xs.isEmpty)∨(∃xs,SqT X.K H p xs∧k= !xs.isEmpty)∨∃kvs,H p=some (.dK kvs)∧k= !kvs.isEmpty:=e
  rcases e' with ⟨xs,hx,e'⟩|⟨xs,hx,e'⟩|⟨kvs,hx,e'⟩
  ·subst e'
   obtain ⟨its,r,pl,hz⟩:=I.list hx
   have hlen:=r.length
   exact wpAny_truthy_list pl.isList (by simp only [List.size_toArray];omega) ⟨H,I.tok _,by rw [isEmpty_of r];exact q⟩
  ·subst e'
   obtain ⟨its,r,pl,hz⟩:=I.tuple hx
   have hlen:=r.length
   exact truthy_tuple pl (by simp only [List.size_toArray];omega) ⟨H,I.tok _,by rw [isEmpty_of r];exact q⟩
  ·subst e'
   obtain ⟨hz,hS,vs,r,m⟩:kvs.length≤sizeLine∧(p==sysModules)=false∧∃vs,KV kvs vs∧s.heap.DictOf (mixKind X.prog X.w) p vs:=I.hok p _ hx
   have hlen:kvs.length=vs.length:=Paired.length r
   exact wpAny_truthy_dict hS m (by omega) ⟨H,I.tok _,by rw [isEmpty_kv r];exact q⟩
 |_=>exact (show False from e).elim
theorem pt_truth (ha:PE X a ta) (he:∀whole,isTrue a X.env whole=(do let v←whole;standAt a.pos;holding [v] (truthy v))):
  PT X a (fun σ H Q=>ta σ H fun x H'=>∃k,TruV X.K x H' k∧Q k H'):=by
 intro pins s σ H Q I h
 exact isTrue_plain (thn (ha pins s σ H _ I h) fun v s1 ⟨x,H1,I1,r1,q1⟩=>tru_ok pins s1 σ H1 x v Q I1 r1 q1) (he _)
theorem vals1 {x:V} {us:List Value} (r:Vals [x] us):∃u,us= [u]∧RelV x u:=by
 cases r with
 |cons r1 r2=>cases r2;exact ⟨_,rfl,r1⟩
theorem vals2 {x y:V} {us:List Value} (r:Vals [x,y] us):∃u w',us= [u,w']∧RelV x u∧RelV y w':=by
 cases r with
 |cons r1 r2=>
  cases r2 with
  |cons r3 r4=>cases r4;exact ⟨_,_,rfl,r1,r3⟩
theorem call_min2 (hc:X.calm=true):CallR X (.builtin "min") (fun xs H Q=>∃i j,xs= [.int i,.int j]∧Q (.int (if j<i then j else i)) H):=by
 intro pins s σ H xs us Q I r h
 obtain ⟨i,j,rfl,q⟩:=h
 obtain ⟨u,w',rfl,⟨t,rfl⟩,⟨t',rfl⟩⟩:=vals2 r
 refine min_two_ints (I.ok.hd hc) fun h' tk k=>⟨_,H,I.kept k,?_,q⟩
 by_cases hj:j<i
 ·rw [if_pos hj,if_pos hj];exact ⟨_,rfl⟩
 ·rw [if_neg hj,if_neg hj];exact ⟨_,rfl⟩
end
end L2
namespace L2
open PySem PySem.Spec PyProof.Rows
structure ObjM (h:Heap) (x dx C:Addr) (mA:Str→Option Value):Prop where
 obj:h.get? x=some (PySem.W.instObj C dx)
 ns:h.Ns1 dx mA
 ne:dx≠x
theorem lookIn_ns {h:Heap} {dx:Addr} {mA:Str→Option Value} (n:h.Ns1 dx mA):∃od,h.get? dx=some od∧∀name,PySem.W.lookIn name od=some (mA name):=by
 obtain ⟨o,es,ep,ho,hd,hk,_,hm⟩:=n
 refine ⟨o,ho,fun name=>?_⟩
 have e:=hm name
 unfold nsFind findBy at e
 rw [←Array.find?_toList] at e
 unfold PySem.W.lookIn
 rw [hd]
 dsimp only
 split
 ·rename_i y q
  rw [q] at e
  exact congrArg some e
 ·rename_i q
  rw [q] at e
  have a:es.toList.any (·.refKey)=false:=by
   rw [List.any_eq_false]
   intro y hy
   obtain ⟨z,t,hkey⟩:=hk y (Array.mem_toList_iff.mp hy)
   simp [DictEntry.refKey,hkey]
  have a':¬es.toList.any (·.refKey)=true:=by rw [a];exact Bool.false_ne_true
  rw [if_neg a']
  exact congrArg some e
theorem ObjM.look {h:Heap} {x dx C:Addr} {mA:Str→Option Value} (I:ObjM h x dx C mA):∃od,PySem.W.InstAt h x (PySem.W.instObj C dx) C (some od)∧∀name,PySem.W.lookIn name od=some (mA name):=
 let ⟨od,ho,hl⟩:=lookIn_ns I.ns
 ⟨od,⟨I.obj,rfl,rfl,ho⟩,hl⟩
section
variable {prog:Program} {w:World} {A:Around} {E:Value→Shared→Prop} {s:Shared} {K:PySem.W.Frag} {x dx C f:Addr} {mA:Str→Option Value} {name:Str} {v:Value}
theorem get_map {expr:Bool} {Q:Value→Shared→Prop} (X:K.In s.heap) (I:ObjM s.heap x dx C mA) (hg:PySem.W.plainGet K C name=true) (hh:PySem.W.hasDictIn K C=true)
  (ha:PySem.W.findIn K (.ref C) name=some none) (hv:mA name=some v) (hv':PySem.W.handedIn v=true) (h:Q v {s with toks:=s.toks+1}):
  wpAny (model prog w) A (getAttr (.ref x) name expr) Q E s:=by
 obtain ⟨od,J,hl⟩:=I.look
 exact PySem.W.get_value X J (PySem.W.plainGet_of hg).1 (PySem.W.findObj_own hh ha rfl (by rw [hl,hv])) hv' h
theorem get_meth {pl:Sem Bool} {Q:Value×List Value→Shared→Prop} (X:K.In s.heap) (I:ObjM s.heap x dx C mA) (hg:PySem.W.plainGet K C name=true)
  (hf:PySem.W.findIn K (.ref C) name=some (some (.ref f))) (ht:PySem.W.isFn K (.ref f)=true) (hv:mA name=none) (h:Q (.ref f,[.ref x]) s):
  wpAny (model prog w) A (getMethod (.ref x) name pl) Q E s:=by
 obtain ⟨od,J,hl⟩:=I.look
 exact PySem.W.method_fn X J (PySem.W.plainGet_of hg).1 (PySem.W.plainGet_of hg).2 hf (beq_iff_eq.mp ht) (by show (PySem.W.lookIn name od).map (·.isSome)=some false;rw [hl,hv];rfl) h
theorem set_map {ns:List Str} {Q:Unit→Shared→Prop} (X:K.In s.heap) (I:ObjM s.heap x dx C mA)
  (hs:PySem.W.findIn K (.ref C) "__setattr__"=some (some (.builtin "object.__setattr__"))) (hp:PySem.W.plainOver K C=true) (ht:PySem.W.takerIn K C name=some none) (hh:PySem.W.hasDictIn K C=true)
  (hw:PySem.Within mA ns) (hsz:ns.length≤sizeLine)
  (h:∀h',ObjM h' x dx C (fun y=>if y=name then some v else mA y)→Heap.SameBut dx s.heap h'→Q () {s with heap:=h',toks:=s.toks+2}):
  wpAny (model prog w) A (setAttr (.ref x) name v) Q E s:=by
 obtain ⟨od,J,hl⟩:=I.look
 refine PySem.W.set_plain X J hs (PySem.W.osa_open (s:={s with toks:=s.toks+1}) (r:=none) X J hp ht fun b=>?_)
 obtain ⟨cd,hc,hd'⟩:=PySem.W.any_some hh
 have hx:s.heap.get? x=some ⟨.ref C,some dx,.plain, #[]⟩:=I.obj
 refine wpAny_bind (wpAny_pure (wpAny_bind (wpAny_bind (wpAny_loadPart hx (wpAny_bind (PySem.W.Looks.here (s:={s with toks:=s.toks+1}) (PySem.W.looks_clsIn X hc) ?_))))))
 rw [hd']
 refine wpAny_pure (a:=some dx) (wpAny_bind (wpAny_pure (wpAny_bind ?_)))
 refine wpAny_nsSet1 (s:={s with toks:=s.toks+1}) I.ns fun h' hn2 hs2=>?_
 obtain ⟨oD,esD,epD,hoD,hdD,hcD⟩:=hn2.count (PySem.Within.cons name v hw)
 refine wpAny_bind (wpAny_lookBehind hoD (by rw [hdD];exact pastItsLine_dict (Nat.le_trans hcD (by rw [List.length_cons];omega))) ?_)
 exact wpAny_pure (h _ ⟨(hs2.2 _ (Ne.symm I.ne)).trans I.obj,hn2,I.ne⟩ hs2)
theorem make_map {R:Result→Shared→Prop} {vs:List Value} {kw:List (Str×Value)} (X:K.In s.heap) (hm:PySem.W.makesIn K C=true)
  (hi:PySem.W.findIn K (.ref C) "__init__"=some (some (.ref f))) (hf:PySem.W.typeIn K (.ref f)=some (.type "function"))
  (h:codeAny (model prog w) (A.under (.builtin "type.__call__" ⟨.ref C::vs,kw⟩)) (.call (.ref f) ⟨.ref (s.heap.objs.size+1)::vs,kw⟩) (PySem.W.InitBack (s.heap.objs.size+1) R)
   {s with heap:=(s.heap.push PySem.W.emptyDict).push (PySem.W.instObj C s.heap.objs.size)}):
  codeAny (model prog w) A (.call (.ref C) ⟨vs,kw⟩) R s:=by
 obtain ⟨hh,g,d,t,os⟩:=s
 exact PySem.W.make_core (PySem.W.makes_of X hm) (PySem.W.looks_findIn X hi) (fun self=>PySem.W.bind_fn X self hf) (.inl rfl) h
end
def putF (f:Str) (v:V):List (Str×V)→List (Str×V)
 | []=> [(f,v)]
 |(g,x)::r=>if g=f then (g,v)::r else (g,x)::putF f v r
theorem lookup_putF (f g:Str) (v:V):∀fs:List (Str×V),(putF f v fs).lookup g=if g=f then some v else fs.lookup g
 | []=>by
  show List.lookup g [(f,v)]=_
  by_cases h:g=f
  ·have hb:(g==f)=true:=beq_iff_eq.mpr h
   simp only [List.lookup,hb,if_pos h]
  ·have hb:(g==f)=false:=beq_eq_false_iff_ne.mpr h
   simp only [List.lookup,hb,if_neg h]
 |(k,x)::r=>by
  have ih:=lookup_putF f g v r
  rw [show putF f v ((k,x)::r)=(if k=f then (k,v)::r else (k,x)::putF f v r) from rfl]
  by_cases hk:k=f
  ·rw [if_pos hk]
   by_cases h:g=k
   ·have hb:(g==k)=true:=beq_iff_eq.mpr h
    simp only [List.lookup,hb,if_pos (h.trans hk)]
   ·have hb:(g==k)=false:=beq_eq_false_iff_ne.mpr h
    simp only [List.lookup,hb,if_neg (fun e:g=f=>h (e.trans hk.symm))]
  ·rw [if_neg hk]
   by_cases h:g=k
   ·have hb:(g==k)=true:=beq_iff_eq.mpr h
    simp only [List.lookup,hb,if_neg (fun e:g=f=>hk (h.symm.trans e))]
   ·have hb:(g==k)=false:=beq_eq_false_iff_ne.mpr h
    simp only [List.lookup,hb]
    exact ih
theorem keys_putF (f:Str) (v:V):∀fs:List (Str×V),f∈(putF f v fs).map (·.1)∧∀g,g∈fs.map (·.1)→g∈(putF f v fs).map (·.1)
 | []=>⟨by simp [putF],fun g h=>by simp at h⟩
 |(k,x)::r=>by
  obtain ⟨i1,i2⟩:=keys_putF f v r
  rw [show putF f v ((k,x)::r)=(if k=f then (k,v)::r else (k,x)::putF f v r) from rfl]
  by_cases hk:k=f
  ·rw [if_pos hk]
   subst hk
   exact ⟨by simp,fun g h=>by simpa using h⟩
  ·rw [if_neg hk]
   refine ⟨?_,fun g h=>?_⟩
   ·rw [List.map_cons]
    exact List.mem_cons_of_mem _ i1
   ·rw [List.map_cons] at h ⊢
    rcases List.mem_cons.mp h with e|e
    ·exact List.mem_cons.mpr (.inl e)
    ·exact List.mem_cons_of_mem _ (i2 g e)
theorem length_putF (f:Str) (v:V):∀fs:List (Str×V),(putF f v fs).length≤fs.length+1
 | []=>by simp [putF]
 |(k,x)::r=>by
  have ih:=length_putF f v r
  rw [show putF f v ((k,x)::r)=(if k=f then (k,v)::r else (k,x)::putF f v r) from rfl]
  by_cases hk:k=f
  ·rw [if_pos hk,List.length_cons,List.length_cons];omega
  ·rw [if_neg hk,List.length_cons,List.length_cons];omega
theorem RelO.some_of {v:V} {o:Option Value} (r:RelO (some v) o):∃u,o=some u∧RelV v u:=by
 cases o with
 |none=>exact (show False from r).elim
 |some u=>exact ⟨u,rfl,r⟩
theorem RelO.none_of {o:Option Value} (r:RelO none o):o=none:=by
 cases o with
 |none=>rfl
 |some u=>exact (show False from r).elim
theorem handed_of {v:V} {u:Value} (r:RelV v u):PySem.W.handedIn u=true:=by
 cases v with
 |non=>cases (show u=Value.none from r);rfl
 |bl b=>cases (show u=Value.bool b from r);rfl
 |int i=>obtain ⟨t,e⟩:=(show∃t,u=Value.int i t from r);cases e;rfl
 |str x=>obtain ⟨t,e⟩:=(show∃t,u=Value.str x t from r);cases e;rfl
 |byt b=>obtain ⟨t,e⟩:=(show∃t,u=Value.bytes b t from r);cases e;rfl
 |flt b=>obtain ⟨t,e⟩:=(show∃t,u=Value.float b t from r);cases e;rfl
 |ref a=>cases (show u=Value.ref a from r);rfl
 |ty n=>cases (show u=Value.type n from r);rfl
section
variable {P:Program} {w:World} {H H':Hp} {h h':Heap} {a C dx:Addr} {fs fs':List (Str×V)}
theorem ins_get (hok:HOk P w H h) (e:H a=some (.ins C dx fs)):∃mA,ObjM h a dx C mA∧(∀f,RelO (fs.lookup f) (mA f))∧PySem.Within mA (fs.map (·.1))∧fs.length≤1000∧H dx=some (.own a):=by
 obtain ⟨d,z,ne,ob,mA,n,r,q⟩:=(show ObjOk P w H h a (.ins C dx fs) from hok a _ e)
 exact ⟨mA,⟨ob,n,ne⟩,r,q,z,d⟩
end
structure Cls (K:PySem.W.Frag) (C:Addr):Prop where
 pg:PySem.W.plainGet K C Str.empty=true
 hd:PySem.W.hasDictIn K C=true
 po:PySem.W.plainOver K C=true
 sa:PySem.W.findIn K (.ref C) "__setattr__"=some (some (.builtin "object.__setattr__"))
theorem Cls.get {K:PySem.W.Frag} {C:Addr} (c:Cls K C) (f:Str):PySem.W.plainGet K C f=true:=c.pg
def NoAttr (K:PySem.W.Frag) (C:Addr) (f:Str):Prop:=PySem.W.findIn K (.ref C) f=some none
theorem NoAttr.taker {K:PySem.W.Frag} {C:Addr} {f:Str} (n:NoAttr K C f):PySem.W.takerIn K C f=some none:=by
 unfold PySem.W.takerIn
 rw [show PySem.W.findIn K (.ref C) f=some none from n]
 rfl
structure Meth (K:PySem.W.Frag) (C:Addr) (m:Str) (f:Addr):Prop where
 at_:PySem.W.findIn K (.ref C) m=some (some (.ref f))
 fn:PySem.W.isFn K (.ref f)=true
 kp:PySem.W.keepIn K (.ref f)=true
section
variable {X:Cx} {pins:List (Addr×Obj)} {σ:St} {H:Hp} {s:Shared} {a C dx:Addr} {fs:List (Str×V)} {f:Str} {v:V} {A:Around} {E:Value→Shared→Prop}
theorem getattr_ok {b:Bool} {Q:Value→Shared→Prop} (I:Inv X pins σ H s) (e:H a=some (.ins C dx fs)) (c:Cls X.K C) (n:NoAttr X.K C f) (l:fs.lookup f=some v)
  (h:∀u s',Inv X pins σ H s'→RelV v u→Q u s'):wpAny (model X.prog X.w) A (getAttr (.ref a) f b) Q E s:=by
 obtain ⟨mA,O,r,_,_,_⟩:=ins_get I.hok e
 obtain ⟨u,hu,ru⟩:=RelO.some_of (v:=v) (o:=mA f) (by rw [←l];exact r f)
 exact get_map I.kIn O (c.get f) c.hd n hu (handed_of ru) (h u _ (I.tok _) ru)
theorem getmeth_ok {m:Str} {g:Addr} {pl:Sem Bool} {Q:Value×List Value→Shared→Prop} (I:Inv X pins σ H s) (e:H a=some (.ins C dx fs)) (c:Cls X.K C) (k:Meth X.K C m g) (l:fs.lookup m=none)
  (h:Q (.ref g,[.ref a]) s):wpAny (model X.prog X.w) A (getMethod (.ref a) m pl) Q E s:=by
 obtain ⟨mA,O,r,_,_,_⟩:=ins_get I.hok e
 have hn:mA m=none:=RelO.none_of (by rw [←l];exact r m)
 exact get_meth I.kIn O (c.get m) k.at_ k.fn hn h
theorem setattr_ok {y:V} {u:Value} {Q:Unit→Shared→Prop} (I:Inv X pins σ H s) (e:H a=some (.ins C dx fs)) (c:Cls X.K C) (n:NoAttr X.K C f) (hl:fs.length<1000) (ry:RelV y u)
  (h:∀s',Inv X pins σ (upd H a (.ins C dx (putF f y fs))) s'→Q () s'):wpAny (model X.prog X.w) A (setAttr (.ref a) f u) Q E s:=by
 obtain ⟨mA,O,r,wi,_,ho⟩:=ins_get I.hok e
 have hz:(fs.map (·.1)).length≤sizeLine:=by rw [List.length_map,sizeLine_eq];omega
 refine set_map I.kIn O c.sa c.po n.taker c.hd wi hz fun h' O' sb=>h _ ?_
 have hd:∃o,h'.get? dx=some o:=let ⟨o,_,_,e',_⟩:=O'.ns;⟨o,e'⟩
 refine I.write (x:=a) (e:=dx) (by rw [e];exact True.intro) (.inr ho) (fun b q hb z=>(sb.2 b hb).trans z) hd ?_
 refine ⟨by rw [upd_ne O.ne];exact ho,?_,O.ne,O'.obj,_,O'.ns,fun g=>?_,fun g hg=>?_⟩
 ·have:=length_putF f y fs;omega
 ·show RelO ((putF f y fs).lookup g) (if g=f then some u else mA g)
  rw [lookup_putF]
  by_cases q:g=f
  ·rw [if_pos q,if_pos q];exact ry
  ·rw [if_neg q,if_neg q];exact r g
 ·by_cases q:g=f
  ·rw [q];exact (keys_putF f y fs).1
  ·refine (keys_putF f y fs).2 g (wi g fun z=>hg ?_)
   show (if g=f then some u else mA g)=none
   rw [if_neg q];exact z
theorem Inv.made (I:Inv X pins σ H s):Inv X pins σ (upd (upd H s.heap.objs.size (.own (s.heap.objs.size+1))) (s.heap.objs.size+1) (.ins C s.heap.objs.size []))
  {s with heap:=(s.heap.push PySem.W.emptyDict).push (PySem.W.instObj C s.heap.objs.size)}:=by
 have e1:(s.heap.push PySem.W.emptyDict).get? s.heap.objs.size=some PySem.W.emptyDict:=Heap.get?_push_size s.heap rfl
 have e2:((s.heap.push PySem.W.emptyDict).push (PySem.W.instObj C s.heap.objs.size)).get? (s.heap.objs.size+1)=some (PySem.W.instObj C s.heap.objs.size):=by
  have:=Heap.get?_push_size (s.heap.push PySem.W.emptyDict) (o:=PySem.W.instObj C s.heap.objs.size) rfl
  rwa [Heap.size_push] at this
 have e3:(s.heap.push PySem.W.emptyDict).Ns s.heap.objs.size (fun _=>none):=⟨PySem.W.emptyDict, #[],_,e1,rfl,(fun e he=>absurd he (by simp)),fun _=>rfl⟩
 have I1:=I.laid (a:=s.heap.objs.size) (o:=.own (s.heap.objs.size+1)) (h':=s.heap.push PySem.W.emptyDict) (t':=s.toks) (fun b u q=>Heap.get?_push_of_some _ q) (Nat.le_refl _) ⟨_,e1⟩
 refine I1.laid (a:=s.heap.objs.size+1) (o:=.ins C s.heap.objs.size []) (t':=s.toks) (fun b u q=>Heap.get?_push_of_some _ q) (Nat.le_of_eq (Heap.size_push _ _)) ?_
 have ne:s.heap.objs.size≠s.heap.objs.size+1:=Nat.ne_of_lt (Nat.lt_succ_self _)
 refine ⟨by rw [upd_ne ne,upd_same],Nat.zero_le _,ne,e2,fun _=>none,(Heap.Ns1.of_empty e3).at fun o q=>Heap.get?_push_of_some _ q,fun _=>True.intro,fun y hy=>absurd rfl hy⟩
theorem attr_of {prog:Program} {w:World} {env:Env} {e:Expr} {f:Str} {pos:Pos} {s:Shared} {Q:Value→Shared→Prop} (hb:attributeBase e f env (eval e env)=eval e env)
  (h:wpAny (model prog w) A (eval e env) (fun o s₁=>wpAny (model prog w) A (getAttr o f true) Q E s₁) E s):wpAny (model prog w) A (eval (.Attribute e f pos) env) Q E s:=
 Attribute_any_ h (by rw [arm_eval_Attribute,hb])
end
def tFld (K:PySem.W.Frag) (ta:TE) (f:Str):TE:=fun σ H Q=>ta σ H fun x H1=>∃a C dx fs v,x=.ref a∧H1 a=some (.ins C dx fs)∧Cls K C∧NoAttr K C f∧fs.lookup f=some v∧Q v H1
def sFld (K:PySem.W.Frag) (ta tv:TE) (f:Str):TS:=fun D σ H=>tv σ H fun y H1=>ta σ H1 fun x H2=>∃a C dx fs,x=.ref a∧H2 a=some (.ins C dx fs)∧Cls K C∧NoAttr K C f∧fs.length<1000∧
 D.nx σ (upd H2 a (.ins C dx (putF f y fs)))
def InOp (X:Cx) (op:Operator) (rd:V→V→Hp→VK→Prop):Prop:=
 ∀(pins:List (Addr×Obj)) (s:Shared) (σ:St) (H:Hp) (x y:V) (u v:Value) (Q:VK),Inv X pins σ H s→RelV x u→RelV y v→rd x y H Q→wpAny (model X.prog X.w) X.A (inplaceOp op u v) (EP X pins σ Q) X.xe s
def sFldAug (K:PySem.W.Frag) (ta tv:TE) (rd:V→V→Hp→VK→Prop) (f:Str):TS:=fun D σ H=>ta σ H fun x H1=>∃a C dx fs v,x=.ref a∧H1 a=some (.ins C dx fs)∧Cls K C∧NoAttr K C f∧fs.lookup f=some v∧
 tv σ H1 fun y H2=>rd v y H2 fun z H3=>∃dx' fs',H3 a=some (.ins C dx' fs')∧fs'.length<1000∧D.nx σ (upd H3 a (.ins C dx' (putF f z fs')))
section
variable {X:Cx} {o e value:Expr} {f:Str} {pos pos' tpos:Pos} {ta tv:TE}
theorem pe_fld (he:PE X e ta) (hb:attributeBase e f X.env (eval e X.env)=eval e X.env):PE X (.Attribute e f pos) (tFld X.K ta f):=by
 intro pins s σ H Q I h
 refine attr_of hb (thn (he pins s σ H _ I h) fun u s1 ⟨x,H1,I1,rx,a,C,dx,fs,v,ex,ea,c,n,l,q⟩=>?_)
 subst ex
 obtain rfl:u=Value.ref a:=rx
 exact getattr_ok I1 ea c n l fun u' s2 I2 ru=>⟨v,H1,I2,ru,q⟩
theorem ps_fld (ha:PE X o ta) (hv:PE X value tv) (hs:swapsWith value (some (.Attribute o f pos')) pos.line X.env=pure false):PS X (.Assign [.Attribute o f pos'] value pos) (sFld X.K ta tv f):=by
 intro pins s σ H D I h
 refine plainObj_wpAny_Assign_Attribute (thn (hv pins s σ H _ I h) fun u s1 ⟨y,H1,I1,ry,q⟩=>thn (ha pins s1 σ H1 _ I1 q) fun ov s2 ⟨x,H2,I2,rx,a,C,dx,fs,ex,ea,c,n,l,q2⟩=>?_) hs
 subst ex
 obtain rfl:ov=Value.ref a:=rx
 exact setattr_ok I2 ea c n l ry fun s3 I3=>⟨σ,_,I3,q2⟩
theorem ps_fldaug {op:Operator} {rd:V→V→Hp→VK→Prop} (ha:PE X o ta) (hv:PE X value tv) (hop:InOp X op rd):PS X (.AugAssign (.Attribute o f tpos) op value pos) (sFldAug X.K ta tv rd f):=by
 intro pins s σ H D I h
 refine wpAny_AugAssign_AttributeAny (thn (ha pins s σ H _ I h) fun ov s1 ⟨x,H1,I1,rx,a,C,dx,fs,v,ex,ea,c,n,l,q⟩=>?_)
 subst ex
 obtain rfl:ov=Value.ref a:=rx
 refine getattr_ok I1 ea c n l fun u s2 I2 ru=>thn (hv pins s2 σ H1 _ I2 q) fun w3 s3 ⟨y,H2,I3,ry,q3⟩=>thn (hop pins s3 σ H2 v y u w3 _ I3 ru ry q3) fun w4 s4 ⟨z,H3,I4,rz,dx',fs',ea',l',q4⟩=>?_
 exact setattr_ok I4 ea' c n l' rz fun s5 I5=>⟨σ,_,I5,q4⟩
def rAdd:V→V→Hp→VK→Prop:=fun x y H Q=>∃i j,x=.int i∧y=.int j∧Q (.int (i+j)) H
theorem in_add:InOp X .Add rAdd:=by
 rintro pins s σ H x y u v Q I rx ry ⟨i,j,rfl,rfl,q⟩
 obtain ⟨t,rfl⟩:=(show∃t,u=Value.int i t from rx)
 obtain ⟨t',rfl⟩:=(show∃t',v=Value.int j t' from ry)
 exact PyProof.Rows.iadd_int ⟨.int (i+j),H,I.tok _,⟨_,rfl⟩,q⟩
theorem methcall_of {pl:Sem Bool} {m:Str} {apos:Pos} {args:List Expr} {pins:List (Addr×Obj)} {s:Shared} {σ:St} {H:Hp} {Q:Value→Shared→Prop} {te:TE} (he:PE X e te) (I:Inv X pins σ H s)
  (h:te σ H fun x H1=>∃a C dx fs g,x=.ref a∧H1 a=some (.ins C dx fs)∧Cls X.K C∧Meth X.K C m g∧fs.lookup m=none∧
   ∀s1,Inv X pins σ H1 s1→wpAny (model X.prog X.w) X.A (callWith pos (.ref g) [.ref a] (backTo pos (starEach args X.env)) (backToKw pos (keywordEach [] X.env))) Q X.xe s1)
  (ht:eval (.Call (.Attribute e m apos) args [] pos) X.env=(do
   let ov←eval e X.env
   standAt apos.atName
   let (f,first)←holding [ov] (getMethod ov m pl)
   callWith pos f first (backTo pos (starEach args X.env)) (backToKw pos (keywordEach [] X.env)))):
  wpAny (model X.prog X.w) X.A (eval (.Call (.Attribute e m apos) args [] pos) X.env) Q X.xe s:=by
 refine PySem.W.methodCall_KW (pl:=pl) (thn (he pins s σ H _ I h) fun u s1 ⟨x,H1,I1,rx,a,C,dx,fs,g,ex,ea,c,k,l,q⟩=>?_) ht
 subst ex
 obtain rfl:u=Value.ref a:=rx
 exact getmeth_ok I1 ea c k l (q s1 I1)
end
end L2
namespace L2
open PySem PySem.Spec PyProof.Rows
structure Room (k:Nat) (A:Around):Prop where
 hd:A.handled=none
 dp:A.depth+3 * k+5<recursionLimit
 un:A.units+16 * k+200<cLine
theorem Room.mono {j k:Nat} {A:Around} (r:Room k A) (h:j≤k):Room j A:=⟨r.hd,by have:=r.dp;omega,by have:=r.un;omega⟩
theorem Room.deeper {k:Nat} {A:Around} (r:Room (k+1) A) (env:Env):Room k (A.deeper env):=
 ⟨r.hd,by have:=r.dp;show A.depth+1+3 * k+5<_;omega,by have:=r.un;show A.units+3+16 * k+200<_;omega⟩
theorem make_depth {A:Around} {C:Addr} {us:List Value} {kw:List (Str×Value)}:(A.under (.builtin "type.__call__" ⟨.ref C::us,kw⟩)).depth=A.depth+1:=by
 first|rfl|simp [Around.under,Code.weight,Code.isCreation,Code.isGuard,Code.isCaller,Code.frames,Code.isFrame,guardIds]
theorem make_units {A:Around} {C:Addr} {us:List Value} {kw:List (Str×Value)}:(A.under (.builtin "type.__call__" ⟨.ref C::us,kw⟩)).units=A.units+1:=by
 first|rfl|simp [Around.under,Code.cUnits,Code.frames,Code.isFrame]
theorem Room.make {k:Nat} {A:Around} (r:Room (k+1) A) (C:Addr) (us:List Value) (kw:List (Str×Value)):Room k (A.under (.builtin "type.__call__" ⟨.ref C::us,kw⟩)):=
 ⟨r.hd,by have:=r.dp;rw [make_depth];omega,by have:=r.un;rw [make_units];omega⟩
theorem Room.depth {k:Nat} {A:Around} (r:Room k A):A.depth<recursionLimit:=by have:=r.dp;omega
theorem Room.units {k:Nat} {A:Around} (r:Room k A):A.units+64<cLine:=by have:=r.un;omega
def tNil:TA:=fun _ H Q=>Q [] H
def tCons (ta:TE) (tr:TA):TA:=fun σ H Q=>ta σ H fun x H1=>tr σ H1 fun xs H2=>Q (x::xs) H2
section
variable {X:Cx} {e:Expr} {es:List Expr} {te:TE} {t:TA} {pos:Pos}
theorem pa_nil:PA X [] tNil:=fun _ _ _ _ H Q I h=>Calls.spliced_nil ⟨[],H,I,.nil,h⟩
theorem pa_cons (ha:PE X e te) (hr:PA X es t) (hs:starEach (e::es) X.env=(false,eval e X.env)::starEach es X.env:=by rfl):PA X (e::es) (tCons te t):=by
 intro pos pins s σ H Q I h
 rw [hs]
 show wpAny _ _ (spliced ((false,eval e X.env)::backTo pos (starEach es X.env))) _ _ s
 refine Calls.spliced_cons (thn (ha pins s σ H _ I h) fun u s1 ⟨x,H1,I1,r1,q1⟩=>?_)
 exact thn (hr pos pins s1 σ H1 _ I1 q1) fun us s2 ⟨xs,H2,I2,r2,q2⟩=>⟨x::xs,H2,I2,.cons r1 r2,q2⟩
def tTup (t:TA):TE:=fun σ H Q=>t σ H fun xs H1=>xs.length≤sizeLine∧∀p,H1 p=none→Q (.ref p) (upd H1 p (.tup xs))
def tLst (t:TA):TE:=fun σ H Q=>t σ H fun xs H1=>xs.length≤sizeLine∧∀p,H1 p=none→Q (.ref p) (upd H1 p (.lst xs))
theorem pe_tup {x1} (h:PA X es t):PE X (.Tuple es x1 pos) (tTup t):=by
 intro pins s σ H Q I hq
 refine wpAny_Tuple_spliced (thn (h pos pins s σ H _ I hq) fun us s1 ⟨xs,H1,I1,r,z,q⟩=>⟨by rw [←r.length];exact z,?_⟩)
 have hf:H1 s1.heap.objs.size=none:=I1.hok.fresh (Nat.le_refl _)
 refine ⟨.ref s1.heap.objs.size,upd H1 s1.heap.objs.size (.tup xs),I1.laid (t':=s1.toks) (fun b u e=>Heap.get?_push_of_some _ e) (Nat.le_refl _) ?_,rfl,q _ hf⟩
 exact ⟨z,us,r,⟨_,Heap.get?_push_size _ rfl,rfl,_,rfl⟩⟩
theorem pe_lst (h:PA X es t):PE X (.List es pos) (tLst t):=by
 intro pins s σ H Q I hq
 refine wpAny_List_spliced (thn (h pos pins s σ H _ I hq) fun us s1 ⟨xs,H1,I1,r,z,q⟩=>⟨by rw [←r.length];exact z,?_⟩)
 have hf:H1 s1.heap.objs.size=none:=I1.hok.fresh (Nat.le_refl _)
 refine ⟨.ref s1.heap.objs.size,upd H1 s1.heap.objs.size (.lst xs),I1.laid (t':=s1.toks) (fun b u e=>Heap.get?_push_of_some _ e) (Nat.le_refl _) ?_,rfl,q _ hf⟩
 exact ⟨z,us,0,r,Heap.get?_push_size _ rfl⟩
end
abbrev Sp:=List V→Hp→VK→XK→Prop
abbrev CXT:=List Env→Hp→Shared→XK→Value→Shared→Prop
structure Env0 (P:Program) (w:World) (K:PySem.W.Frag) (mg:Str→Option Value) (base:Heap) (A:Around) (outer:List Env) (s:Shared) (H:Hp):Prop where
 frames:A.frames=some outer
 mod:Mod K mg base
 bs:∀b o,base.get? b=some o→s.heap.get? b=some o∧H b=none
 bsz:base.objs.size≤s.heap.objs.size
 funs:s.heap.FunFrames base outer
 frf:∀b∈frs outer,H b=none
 hok:HOk P w H s.heap
 bare:AllBare s.gens
def CE (outer:List Env) (P:Program) (w:World) (H:Hp) (s:Shared) (Q:VK) (u:Value) (s':Shared):Prop:=
 ∃v H',s'.os=s.os∧AllBare s'.gens∧Un (frs outer) [] H H' s.heap s'.heap∧HOk P w H' s'.heap∧RelV v u∧Q v H'
def CR (CX:CXT) (outer:List Env) (P:Program) (w:World) (H:Hp) (s:Shared) (Q:VK) (E:XK) (r:Result) (s':Shared):Prop:=
 match r with
 | .ok (.ret u)=>CE outer P w H s Q u s'
 | .ok _=>False
 | .error e=>CX outer H s E e s'
structure FnOk (P:Program) (w:World) (K:PySem.W.Frag) (mg:Str→Option Value) (base:Heap) (CX:CXT) (k:Nat) (f:Addr) (fd:FuncData) (ps:List Str) (sp:Sp):Prop where
 len:∀vs H Q E,sp vs H Q E→vs.length=ps.length
 run:∀(A:Around) (outer:List Env) (s:Shared) (H:Hp) (args:Args) (us:List Value) (vs:List V) (Q:VK) (E:XK),Room k A→Env0 P w K mg base A outer s H→BindsTo s fd args (ps.zip us)→Vals vs us→sp vs H Q E→
  codeAny (model P w) A (.call (.ref f) args) (CR CX outer P w H s Q E) s
theorem Env0.make {P:Program} {w:World} {K:PySem.W.Frag} {mg:Str→Option Value} {base:Heap} {A:Around} {outer:List Env} {s:Shared} {H:Hp} (e:Env0 P w K mg base A outer s H) (C:Addr) (us:List Value) (kw:List (Str×Value)):
  Env0 P w K mg base (A.under (.builtin "type.__call__" ⟨.ref C::us,kw⟩)) outer s H:=⟨by first|exact e.frames|(simpa [Around.under,Code.envs,Code.isFrame,pushEnvs] using e.frames),e.mod,e.bs,e.bsz,e.funs,e.frf,e.hok,e.bare⟩
section
variable {X:Cx} {pins:List (Addr×Obj)} {σ:St} {H:Hp} {s s':Shared}
theorem Inv.env0 (I:Inv X pins σ H s):Env0 X.prog X.w X.K X.mg X.base X.A X.stack s H:=
 ⟨I.ok.frames,I.ok.mod,I.bs,Nat.le_trans I.ok.bsz I.sz,I.stack,I.stkFree,I.hok,I.bare⟩
theorem Inv.after {Q:VK} {u:Value} (I:Inv X pins σ H s) (h:CE X.stack X.prog X.w H s Q u s'):EP X pins σ Q u s':=by
 obtain ⟨v,H',os,bare,un,hok,r,q⟩:=h
 obtain ⟨hh,g,d,t,os'⟩:=s'
 obtain rfl:os'=s.os:=os
 exact ⟨v,H',I.call (h':=hh) (g':=g) (d':=d) (t':=t) (ch:= []) un hok bare (fun b z=>absurd z (by simp)),r,q⟩
end
def tCall (sp:Sp) (dvs:List V) (E:XK) (t:TA):TE:=fun σ H Q=>t σ H fun vs H1=>sp (vs++dvs) H1 Q E
def tMeth (C:Addr) (m:Str) (sp:Sp) (dvs:List V) (E:XK) (ta:TE) (t:TA):TE:=fun σ H Q=>ta σ H fun x H1=>∃a dx fs,x=.ref a∧H1 a=some (.ins C dx fs)∧fs.lookup m=none∧
 t σ H1 fun vs H2=>sp (x::(vs++dvs)) H2 Q E
def tMake (C:Addr) (sp:Sp) (dvs:List V) (E:XK) (t:TA):TE:=fun σ H Q=>t σ H fun vs H1=>∀x dx,H1 x=none→H1 dx=none→dx≠x→
 sp (.ref x::(vs++dvs)) (upd (upd H1 dx (.own x)) x (.ins C dx [])) (fun v H2=>v=.non∧Q (.ref x) H2) E
def Binds (K:PySem.W.Frag) (fd:FuncData) (ps:List Str) (ds:List Value):Prop:=
 ∀(s:Shared) (us:List Value),K.In s.heap→(us++ds).length=ps.length→BindsTo s fd ⟨us,[]⟩ (ps.zip (us++ds))
theorem Binds.all {K:PySem.W.Frag} {fd:FuncData} {ps:List Str} (h:∀us:List Value,us.length=ps.length→bindArgs fd ⟨us,[]⟩=pure (ps.zip us)):Binds K fd ps []:=fun s us _ hl=>by
 rw [List.append_nil] at hl ⊢
 exact .of_eq (h us hl)
def Passes (CX:CXT) (X:Cx) (E:XK):Prop:=∀(pins:List (Addr×Obj)) (σ:St) (H:Hp) (s:Shared) (e:Value) (s':Shared),Inv X pins σ H s→CX X.stack H s E e s'→X.xe e s'
section
variable {X:Cx} {CX:CXT} {k:Nat} {f C:Addr} {fd:FuncData} {ps:List Str} {sp:Sp} {dvs:List V} {ds:List Value} {E:XK} {x m:Str} {p pos apos:Pos} {e o:Expr} {es:List Expr} {ta:TE} {t:TA}
theorem run_fn {pins:List (Addr×Obj)} {σ:St} {H:Hp} {s:Shared} {Q:VK} {us:List Value} {vs:List V} (F:FnOk X.prog X.w X.K X.mg X.base CX k f fd ps sp) (hr:Room k X.A) (hb:Binds X.K fd ps ds) (hd:Vals dvs ds) (hx:Passes CX X E)
  (I:Inv X pins σ H s) (r:Vals vs us) (h:sp (vs++dvs) H Q E):wpAny (model X.prog X.w) X.A (call (.ref f) us) (EP X pins σ Q) X.xe s:=by
 have r2:Vals (vs++dvs) (us++ds):=r.append hd
 have hl:(us++ds).length=ps.length:=by rw [←r2.length];exact F.len _ _ _ _ h
 refine wpAny_call (codeAny_mono (F.run X.A X.stack s H ⟨us,[]⟩ (us++ds) (vs++dvs) Q E hr I.env0 (hb s us I.kIn hl) r2 h) fun r s' hq=>?_)
 cases r with
 |error e=>exact hx pins σ H s e s' I hq
 |ok fl=>
  cases fl with
  |ret u=>exact I.after hq
  |next=>exact False.elim hq
  |brk=>exact False.elim hq
  |cont=>exact False.elim hq
theorem pe_call (F:FnOk X.prog X.w X.K X.mg X.base CX k f fd ps sp) (hr:Room k X.A) (hg:Gl X x) (hm:X.mg x=some (.ref f)) (hk:PySem.W.keepIn X.K (.ref f)=true) (hb:Binds X.K fd ps ds) (hd:Vals dvs ds) (hx:Passes CX X E)
  (ha:PA X (e::es) t) (hdb:(x==("__debug__":Str))=false:=by decide) (he:starEach (e::es) X.env=(false,eval e X.env)::starEach es X.env:=by rfl) (hpl:(backTo pos (starEach es X.env)).any (·.1)=false:=by rfl):
  PE X (.Call (.Name x p) (e::es) [] pos) (tCall sp dvs E t):=by
 intro pins s σ H Q I h
 refine wpAny_Call_Name_kw (ld_glob I hg hm ?_ hdb)
 refine PySem.W.callWith_K (h₀:=X.base) I.ok.mod.kin hk (thn (ha pos pins s σ H _ I h) fun us s1 ⟨vs,H1,I1,r,q⟩=>⟨I1.kIn,?_⟩) he hpl
 exact run_fn F hr hb hd hx I1 r q
theorem pe_meth {pl:Sem Bool} (he:PE X o ta) (c:Cls X.K C) (hm:Meth X.K C m f) (F:FnOk X.prog X.w X.K X.mg X.base CX k f fd ps sp) (hr:Room k X.A) (hb:Binds X.K fd ps ds) (hd:Vals dvs ds) (hx:Passes CX X E) (ha:PA X (e::es) t)
  (hst:starEach (e::es) X.env=(false,eval e X.env)::starEach es X.env:=by rfl) (hpl:(backTo pos (starEach es X.env)).any (·.1)=false:=by rfl)
  (ht:eval (.Call (.Attribute o m apos) (e::es) [] pos) X.env=(do
   let ov←eval o X.env
   standAt apos.atName
   let (f,first)←holding [ov] (getMethod ov m pl)
   callWith pos f first (backTo pos (starEach (e::es) X.env)) (backToKw pos (keywordEach [] X.env))):=by rfl):
  PE X (.Call (.Attribute o m apos) (e::es) [] pos) (tMeth C m sp dvs E ta t):=by
 intro pins s σ H Q I h
 refine PySem.W.methodCall_KW (pl:=pl) (thn (he pins s σ H _ I h) fun u s1 ⟨x,H1,I1,rx,a,dx,fs,ex,ea,l,q⟩=>?_) ht
 subst ex
 obtain rfl:u=Value.ref a:=rx
 refine getmeth_ok I1 ea c hm l ?_
 refine PySem.W.callWith_K (first:= [.ref a]) (h₀:=X.base) I.ok.mod.kin hm.kp (thn (ha pos pins s1 σ H1 _ I1 q) fun us s2 ⟨vs,H2,I2,r,q2⟩=>⟨I2.kIn,?_⟩) hst hpl
 exact run_fn (us:=.ref a::us) (vs:=.ref a::vs) F hr hb hd hx I2 (.cons rfl r) q2
theorem pe_meth0 {pl:Sem Bool} (he:PE X o ta) (c:Cls X.K C) (hm:Meth X.K C m f) (F:FnOk X.prog X.w X.K X.mg X.base CX k f fd ps sp) (hr:Room k X.A) (hb:Binds X.K fd ps ds) (hd:Vals dvs ds) (hx:Passes CX X E)
  (ht:eval (.Call (.Attribute o m apos) [] [] pos) X.env=(do
   let ov←eval o X.env
   standAt apos.atName
   let (f,first)←holding [ov] (getMethod ov m pl)
   callWith pos f first (backTo pos (starEach [] X.env)) (backToKw pos (keywordEach [] X.env))):=by rfl):
  PE X (.Call (.Attribute o m apos) [] [] pos) (tMeth C m sp dvs E ta tNil):=by
 intro pins s σ H Q I h
 refine PySem.W.methodCall_KW (pl:=pl) (thn (he pins s σ H _ I h) fun u s1 ⟨x,H1,I1,rx,a,dx,fs,ex,ea,l,q⟩=>?_) ht
 subst ex
 obtain rfl:u=Value.ref a:=rx
 refine getmeth_ok I1 ea c hm l ?_
 exact PySem.W.callWith_K0 (first:= [.ref a]) I1.kIn hm.kp (run_fn (us:= [.ref a]) (vs:= [.ref a]) F hr hb hd hx I1 (.cons rfl .nil) q)
structure Mk (K:PySem.W.Frag) (C f:Addr):Prop where
 makes:PySem.W.makesIn K C=true
 init:PySem.W.findIn K (.ref C) "__init__"=some (some (.ref f))
 fn:PySem.W.isFn K (.ref f)=true
 kp:PySem.W.keepIn K (.ref C)=true
theorem run_make {pins:List (Addr×Obj)} {σ:St} {H:Hp} {s:Shared} {Q:VK} {us:List Value} {vs:List V} (M:Mk X.K C f) (F:FnOk X.prog X.w X.K X.mg X.base CX k f fd ps sp) (hr:Room (k+1) X.A) (hb:Binds X.K fd ps ds) (hd:Vals dvs ds)
  (hx:Passes CX X E) (I:Inv X pins σ H s) (r:Vals vs us)
  (h:∀x dx,H x=none→H dx=none→dx≠x→sp (.ref x::(vs++dvs)) (upd (upd H dx (.own x)) x (.ins C dx [])) (fun v H2=>v=.non∧Q (.ref x) H2) E):
  wpAny (model X.prog X.w) X.A (call (.ref C) us) (EP X pins σ Q) X.xe s:=by
 have hq:=h (s.heap.objs.size+1) s.heap.objs.size (I.hok.fresh (Nat.le_succ _)) (I.hok.fresh (Nat.le_refl _)) (Nat.ne_of_lt (Nat.lt_succ_self _))
 have I2:=Inv.made (C:=C) I
 have r2:Vals (V.ref (s.heap.objs.size+1)::(vs++dvs)) (Value.ref (s.heap.objs.size+1)::(us++ds)):=.cons rfl (r.append hd)
 have hl:(Value.ref (s.heap.objs.size+1)::us++ds).length=ps.length:=by
  have e:=r2.length
  rw [F.len _ _ _ _ hq] at e
  exact e.symm
 refine wpAny_call (make_map (f:=f) I.kIn M.makes M.init (beq_iff_eq.mp M.fn) (codeAny_mono (F.run _ X.stack _ _ ⟨Value.ref (s.heap.objs.size+1)::us,[]⟩ (Value.ref (s.heap.objs.size+1)::(us++ds)) _ _ E (hr.make C us [])
  (I2.env0.make C us []) (hb _ (Value.ref (s.heap.objs.size+1)::us) I2.kIn hl) r2 hq) fun r s' hq'=>?_))
 cases r with
 |error e=>exact hx pins σ _ _ e s' I2 hq'
 |ok fl=>
  cases fl with
  |ret u=>
   obtain ⟨v,H',I3,rv,ev,q3⟩:=I2.after hq'
   subst ev
   exact ⟨rv,⟨V.ref (s.heap.objs.size+1),H',I3,rfl,q3⟩⟩
  |next=>exact False.elim hq'
  |brk=>exact False.elim hq'
  |cont=>exact False.elim hq'
theorem pe_make (M:Mk X.K C f) (F:FnOk X.prog X.w X.K X.mg X.base CX k f fd ps sp) (hr:Room (k+1) X.A) (hg:Gl X x) (hm:X.mg x=some (.ref C)) (hb:Binds X.K fd ps ds) (hd:Vals dvs ds) (hx:Passes CX X E)
  (ha:PA X (e::es) t) (hdb:(x==("__debug__":Str))=false:=by decide) (he:starEach (e::es) X.env=(false,eval e X.env)::starEach es X.env:=by rfl) (hpl:(backTo pos (starEach es X.env)).any (·.1)=false:=by rfl):
  PE X (.Call (.Name x p) (e::es) [] pos) (tMake C sp dvs E t):=by
 intro pins s σ H Q I h
 refine wpAny_Call_Name_kw (ld_glob I hg hm ?_ hdb)
 refine PySem.W.callWith_K (h₀:=X.base) I.ok.mod.kin M.kp (thn (ha pos pins s σ H _ I h) fun us s1 ⟨vs,H1,I1,r,q⟩=>⟨I1.kIn,?_⟩) he hpl
 exact run_make M F hr hb hd hx I1 r q
theorem pe_make0 (M:Mk X.K C f) (F:FnOk X.prog X.w X.K X.mg X.base CX k f fd ps sp) (hr:Room (k+1) X.A) (hg:Gl X x) (hm:X.mg x=some (.ref C)) (hb:Binds X.K fd ps ds) (hd:Vals dvs ds) (hx:Passes CX X E)
  (hdb:(x==("__debug__":Str))=false:=by decide):PE X (.Call (.Name x p) [] [] pos) (tMake C sp dvs E tNil):=by
 intro pins s σ H Q I h
 refine wpAny_Call_Name_kw (ld_glob I hg hm ?_ hdb)
 exact PySem.W.callWith_K0 I.kIn M.kp (run_make (us:= []) M F hr hb hd hx I .nil h)
end
structure FnScope (N P:List Str) (sc:Scope):Prop where
 kind:sc.kind=.function
 co:sc.isCoroutine=false
 gen:sc.isGenerator=false
 nd:N.Nodup
 pre:N.take P.length=P
 par:∀x∈P,sc.names.lookup x=some .local∨sc.names.lookup x=some .cell
 nofree:∀y∈sc.names,y.2≠.free
theorem bindL_out {kindOf:Str→Option NameKind} {x:Str}:∀{binds:List (Str×Value)} {m:Str→Option Value},(∀v,(x,v)∉binds)→bindL kindOf binds m x=m x
 | [],_,_=>rfl
 |(n,v)::r,m,h=>by
  unfold bindL
  rw [bindL_out fun w hw=>h w (List.mem_cons_of_mem _ hw)]
  split
  ·have:x≠n:=by rintro rfl;exact h v List.mem_cons_self
   simp [this]
  ·rfl
theorem bindC_out {kindOf:Str→Option NameKind} {x:Str}:∀{binds:List (Str×Value)} {m:Str→Option Value},(∀v,(x,v)∉binds)→bindC kindOf binds m x=m x
 | [],_,_=>rfl
 |(n,v)::r,m,h=>by
  unfold bindC
  rw [bindC_out fun w hw=>h w (List.mem_cons_of_mem _ hw)]
  split
  ·rfl
  ·have:x≠n:=by rintro rfl;exact h v List.mem_cons_self
   simp [this]
theorem bindL_get {kindOf:Str→Option NameKind} {x:Str} {v:Value}:∀{P:List Str} {vs:List Value} {i:Nat} {m:Str→Option Value},P.Nodup→P[i]?=some x→vs[i]?=some v→kindOf x=some .local→
  bindL kindOf (P.zip vs) m x=some v
 | [],_,_,_,_,h,_,_=>by simp at h
 |_::_,[],_,_,_,_,h,_=>by simp at h
 |p::P,w::vs,0,m,nd,h1,h2,hk=>by
  simp at h1 h2;subst h1;subst h2
  show bindL kindOf ((p,w)::P.zip vs) m p=_
  unfold bindL
  rw [bindL_out fun v hv=>(List.nodup_cons.mp nd).1 (List.of_mem_zip hv).1,if_pos hk]
  simp
 |p::P,w::vs,i+1,m,nd,h1,h2,hk=>by
  show bindL kindOf ((p,w)::P.zip vs) m x=_
  unfold bindL
  exact bindL_get (i:=i) (List.nodup_cons.mp nd).2 (by simpa using h1) (by simpa using h2) hk
theorem bindC_get {kindOf:Str→Option NameKind} {x:Str} {v:Value}:∀{P:List Str} {vs:List Value} {i:Nat} {m:Str→Option Value},P.Nodup→P[i]?=some x→vs[i]?=some v→kindOf x≠some .local→
  bindC kindOf (P.zip vs) m x=some v
 | [],_,_,_,_,h,_,_=>by simp at h
 |_::_,[],_,_,_,_,h,_=>by simp at h
 |p::P,w::vs,0,m,nd,h1,h2,hk=>by
  simp at h1 h2;subst h1;subst h2
  show bindC kindOf ((p,w)::P.zip vs) m p=_
  unfold bindC
  rw [bindC_out fun v hv=>(List.nodup_cons.mp nd).1 (List.of_mem_zip hv).1,if_neg hk]
  simp
 |p::P,w::vs,i+1,m,nd,h1,h2,hk=>by
  show bindC kindOf ((p,w)::P.zip vs) m x=_
  unfold bindC
  exact bindC_get (i:=i) (List.nodup_cons.mp nd).2 (by simpa using h1) (by simpa using h2) hk
def start (N:List Str) (vs:List V):St:=vs.map some++List.replicate (N.length - vs.length) none
def cxOf (CX:CXT) (P:Program) (w:World) (K:PySem.W.Frag) (mg:Str→Option Value) (base:Heap) (N:List Str) (qual:Str) (scope:Scope) (f:Addr) (cd:Value) (A:Around) (outer:List Env) (s:Shared) (H:Hp) (E:XK):Cx where
 prog:=P
 w:=w
 K:=K
 mg:=mg
 base:=base
 A:=A.deeper (envOfC qual scope s.heap.objs.size f cd)
 N:=N
 s_0:=s
 H_0:=H
 env:=envOfC qual scope s.heap.objs.size f cd
 outer:=outer
 stack:=envOfC qual scope s.heap.objs.size f cd::outer
 ex:= []
 calm:=true
 fn:=fun _=>true
 pn:= []
 xe:=fun e s'=>wpAny (model P w) (A.deeper (envOfC qual scope s.heap.objs.size f cd)) (leaving (envOfC qual scope s.heap.objs.size f cd) e) (fun _ s''=>CX outer H s E e s'') (fun e' s''=>CX outer H s E e' s'') s'
theorem cell_has {sc:Scope} {n:Nat} {x:Str} (h:sc.names.lookup x=some .cell):∃c,(cellsFrom n sc.names []).lookup x=some c:=by
 have q:=PySem.W.cellsFrom_some sc.names n [] (.inl h)
 exact Option.isSome_iff_exists.mp q
theorem inv_start {CX:CXT} {P:Program} {w:World} {K:PySem.W.Frag} {mg:Str→Option Value} {base:Heap} {N ps:List Str} {qual:Str} {scope:Scope} {f:Addr} {cd:Value} {A:Around} {outer:List Env} {s s1:Shared} {H:Hp} {E:XK} {us:List Value} {vs:List V}
  (S:FnScope N ps scope) (hd:A.handled=none) (e0:Env0 P w K mg base A outer s H) (hl:vs.length=ps.length) (r:Vals vs us)
  (x:InCallC s s.heap.objs.size (bindL (envOfC qual scope s.heap.objs.size f cd).kindOf (ps.zip us) fun _=>none) (cellsFrom (s.heap.objs.size+1) scope.names []) (bindC (envOfC qual scope s.heap.objs.size f cd).kindOf (ps.zip us) fun _=>none) s1):
  Inv (cxOf CX P w K mg base N qual scope f cd A outer s H E) [] (start N vs) H s1:=by
 have hpl:ps.length≤N.length:=by have:=congrArg List.length S.pre;rw [List.length_take] at this;omega
 obtain ⟨h1,tk,rfl,hk⟩:=x.done
 have noA:∀b:Addr,b∉(cxOf CX P w K mg base N qual scope f cd A outer s H E).ex:=fun b z=>absurd (show b∈([]:List Addr) from z) (by simp)
 refine ⟨⟨e0.mod,S.kind,rfl,rfl,Nat.le_refl _,fun y z c h1 h2=>?_,fun y hy=>?_,fun y c _ h=>?_,fun _=>hd,Around.frames_deeper e0.frames,.inr ⟨rfl,rfl⟩,fun b z=>absurd z (noA b),e0.bs,e0.bsz,fun b _ _=>noA b,fun b z=>absurd z (noA b),e0.funs,e0.frf⟩,
  rfl,e0.bare,Un.kept hk,⟨_,x.toInCall.ns,fun i y v h1 h2 h3=>?_⟩,fun y c h=>⟨_,x.cell y c h⟩,e0.hok.fresh (Nat.le_refl _),fun y c h=>?_,fun p hp=>absurd (show p∈([]:List (Addr×Obj)) from hp) (by simp),e0.hok.kept hk,?_⟩
 ·exact name_of_addr x.apart (PySem.mem_of_lookup h1) (PySem.mem_of_lookup h2)
 ·have hy:scope.names.lookup y=some .cell∨scope.names.lookup y=some .free:=hy
  rcases hy with hy|hy
  ·exact cell_has hy
  ·exact absurd rfl (S.nofree _ (PySem.mem_of_lookup hy))
 ·exact Nat.le_of_lt (x.above y c (PySem.mem_of_lookup h))
 ·have hi:i<vs.length:=by
   unfold start at h2
   by_cases hi:i<vs.length
   ·exact hi
   ·rw [List.getElem?_append_right (by simpa using hi)] at h2
    rw [List.getElem?_replicate] at h2
    split at h2<;>cases h2
  have ha:vs[i]?=some v:=by
   unfold start at h2
   rw [List.getElem?_append_left (by simpa using hi),List.getElem?_map] at h2
   cases e:vs[i]? with
   |none=>rw [e] at h2;cases h2
   |some a=>rw [e] at h2;cases h2;rfl
  obtain ⟨u,hu,rv⟩:=r.get ha
  have hp:ps[i]?=some y:=by
   rw [←S.pre,List.getElem?_take_of_lt (by omega)];exact h1
  have ndP:ps.Nodup:=by rw [←S.pre];exact S.nd.sublist (List.take_sublist _ _)
  refine ⟨u,rv,?_⟩
  rcases S.par y (List.mem_of_getElem? hp) with k|k
  ·exact .inl ⟨k,bindL_get ndP hp hu k⟩
  ·obtain ⟨c,e⟩:=cell_has (n:=s.heap.objs.size+1) k
   refine .inr ⟨.inl k,c,e,?_⟩
   have q:=x.cell y c e
   rw [bindC_get ndP hp hu (by show scope.names.lookup y≠_;rw [k];decide)] at q
   exact q
 ·exact e0.hok.fresh (Nat.le_of_lt (x.above y c (PySem.mem_of_lookup h)))
 ·unfold start
  show _=N.length
  rw [List.length_append,List.length_map,List.length_replicate]
  omega
theorem fn_of {CX:CXT} {P:Program} {w:World} {K:PySem.W.Frag} {mg:Str→Option Value} {base:Heap} {k:Nat} {f:Addr} {name qual:Str} {params:Arguments} {body:List Stmt} {scope:Scope} {dV kV doc pm cdv ct oc:Value} {an od:Option Addr}
  {osl:Array (Option Value)} {N ps:List Str} {sp:Sp} (lk:K.lookup f=some ⟨oc,od,.func (PySem.W.fnOf name qual params body scope dV kV doc pm an cdv ct),osl⟩) (hcd:PySem.W.codeIn K cdv qual=true) (S:FnScope N ps scope)
  (len:∀vs H Q E,sp vs H Q E→vs.length=ps.length)
  (hbody:∀(A:Around) (outer:List Env) (s:Shared) (H:Hp) (vs:List V) (Q:VK) (E:XK),Room k (A.deeper (envOfC qual scope s.heap.objs.size f cdv))→sp vs H Q E→
   ∃t,PSs (cxOf CX P w K mg base N qual scope f cdv A outer s H E) body t∧t {nx:=fun _ H'=>Q .non H',rt:=Q} (start N vs) H):
  FnOk P w K mg base CX (k+1) f (PySem.W.fnOf name qual params body scope dV kV doc pm an cdv ct) ps sp:=by
 refine ⟨len,fun A outer s H args us vs Q E hr e0 hb r hsp=>?_⟩
 have hl:=len _ _ _ _ hsp
 have KX:K.In s.heap:=e0.mod.kin.keeps fun b o e=>(e0.bs b o e).1
 have lim:s.heap.NoLimit:=e0.mod.nolimit.keeps fun b o e=>(e0.bs b o e).1
 have hkind:∀y∈ps.zip us,scope.names.lookup y.1=some .local∨(scope.names.lookup y.1=some .cell∧((cellsFrom (s.heap.objs.size+1) scope.names []).lookup y.1).isSome=true):=fun ⟨n,v⟩ hy=>by
  rcases S.par n (List.of_mem_zip hy).1 with q|q
  ·exact .inl q
  ·exact .inr ⟨q,PySem.W.cellsFrom_some _ _ _ (.inl q)⟩
 refine codeAny_call_function hr.depth (KX _ _ lk) rfl S.co S.gen rfl (PySem.W.codeRec_of KX hcd) (hb _ _ _ _ ?_)
 refine wpAny_newFunctionEnv_cells S.kind hkind fun env he s1 x=>?_
 subst he
 refine ⟨lim.keeps x.toInCall.keep,codeAny_func ?_⟩
 obtain ⟨t,ht,hq⟩:=hbody A outer s H vs Q E (hr.deeper _) hsp
 have I:Inv (cxOf CX P w K mg base N qual scope f cdv A outer s H E) [] (start N vs) H s1:=inv_start S hr.hd e0 hl r x
 refine wpAny_mono (ht [] s1 (start N vs) H _ I hq) (fun fl s' hs=>?_) fun e s' hs=>hs
 have fin:∀{σ':St} {H':Hp} {v:V} {u:Value},Inv (cxOf CX P w K mg base N qual scope f cdv A outer s H E) [] σ' H' s'→RelV v u→Q v H'→CE outer P w H s Q u s':=
  fun {σ' H' v u} J rv q=>⟨v,H',J.os,J.bare,J.base,J.hok,rv,q⟩
 cases fl with
 |ret u=>
  obtain ⟨v,σ',H',J,rv,q⟩:=hs
  exact fin J rv q
 |next=>
  obtain ⟨σ',H',J,q⟩:=hs
  exact fin (v:=V.non) (u:=Value.none) J rfl q
 |brk=>
  obtain ⟨_,_,_,q⟩:=hs
  exact False.elim q
 |cont=>
  obtain ⟨_,_,_,q⟩:=hs
  exact False.elim q
end L2
namespace L2
open PySem PySem.Spec PyProof.Rows
section
variable {X:Cx} {x:Str} {p pos:Pos} {e:Expr} {es:List Expr} {t:TA} {id T:String} {r:List V→Hp→VK→Prop}
def tCB (r:List V→Hp→VK→Prop) (t:TA):TE:=fun σ H Q=>t σ H fun vs H1=>r vs H1 Q
theorem pe_callB (hc:CallR X (.builtin id) r) (hg:Gl X x) (hm:X.mg x=none) (hv:bootBuiltins x=some (.builtin id)) (ha:PA X (e::es) t) (hn:x≠"__name__":=by decide) (hdb:(x==("__debug__":Str))=false:=by decide)
  (he:starEach (e::es) X.env=(false,eval e X.env)::starEach es X.env:=by rfl) (hpl:(backTo pos (starEach es X.env)).any (·.1)=false:=by rfl):PE X (.Call (.Name x p) (e::es) [] pos) (tCB r t):=by
 intro pins s σ H Q I h
 refine wpAny_Call_Name_kw (ld_blt I hg hm hv ?_ hn hdb)
 exact PyProof.Rows.callWith_builtin1 (thn (ha pos pins s σ H _ I h) fun us s1 ⟨vs,H1,I1,r1,q1⟩=>hc pins s1 σ H1 vs us Q I1 r1 q1) he hpl
end
end L2
namespace HT
open PySem PyProof.Rows
section
variable {prog:Program} {w:World} {A:Around} {E:Value→Shared→Prop} {s:Shared}
def sIx (n d:Nat):Option Int→Nat
 |none=>d
 |some v=>if v<0 then (v+(n:Int)).toNat else min v.toNat n
theorem sIx_none (n d:Nat):sIx n d none=d:=rfl
theorem sIx_nat (n d k:Nat):sIx n d (some (k:Int))=min k n:=by
 show (if (k:Int)<0 then ((k:Int)+(n:Int)).toNat else min (k:Int).toNat n)=min k n
 rw [if_neg (by omega),Int.toNat_natCast]
end
end HT
namespace L2
open PySem PySem.Spec PyProof.Rows
abbrev TO:=St→Hp→(Option Int→Hp→Prop)→Prop
def PO (X:Cx) (e:Option Expr) (t:TO):Prop:=
 ∀(pins:List (Addr×Obj)) (s:Shared) (σ:St) (H:Hp) (Q:Option Int→Hp→Prop),Inv X pins σ H s→t σ H Q→
  wpAny (model X.prog X.w) X.A (evalPart e X.env) (fun u s'=>∃o H',Inv X pins σ H' s'∧IsPart u o∧Q o H') X.xe s
def tNoPart:TO:=fun _ H Q=>Q none H
def tPart (t:TE):TO:=fun σ H Q=>t σ H fun x H1=>∃i,x=.int i∧Q (some i) H1
section
variable {X:Cx} {e:Expr} {te:TE} {lo hi:Option Expr} {tl th:TO} {pos p2:Pos}
theorem po_none:PO X none tNoPart:=by
 intro pins s σ H Q I h
 rw [evalPart_none]
 exact wpAny_pure ⟨none,H,I,.none,h⟩
theorem po_some (h:PE X e te):PO X (some e) (tPart te):=by
 intro pins s σ H Q I hw
 rw [evalPart_some]
 refine thn (h pins s σ H _ I hw) fun u s1 ⟨x,H1,I1,r1,q1⟩=>?_
 obtain ⟨i,rfl,q⟩:=q1
 obtain ⟨t,rfl⟩:=r1
 exact ⟨some i,H1,I1,.int i t,q⟩
def SlR (X:Cx) (r:V→Option Int→Option Int→Hp→VK→Prop):Prop:=
 ∀(pins:List (Addr×Obj)) (s:Shared) (σ:St) (H:Hp) (x:V) (v vl vu:Value) (lo hi:Option Int) (sl:Addr) (Q:VK),Inv X pins σ H s→RelV x v→s.heap.IsSliceOf sl vl vu .none→IsPart vl lo→IsPart vu hi→r x lo hi H Q→
  ∃T id,typeLookup (.type T) "__getitem__"=pure (some (.builtin id))∧s.TypeIs v T∧wpAny (model X.prog X.w) X.A (getItem v (.ref sl)) (EP X pins σ Q) X.xe s
def tSl (r:V→Option Int→Option Int→Hp→VK→Prop) (te:TE) (tl th:TO):TE:=fun σ H Q=>te σ H fun x H1=>tl σ H1 fun l H2=>th σ H2 fun u H3=>r x l u H3 Q
theorem pe_slice {r:V→Option Int→Option Int→Hp→VK→Prop} (hr:SlR X r) (he:PE X e te) (hl:PO X lo tl) (hu:PO X hi th):PE X (.Subscript e (.Slice lo hi none p2) pos) (tSl r te tl th):=by
 intro pins s σ H Q I h
 refine Subscript_ (thn (he pins s σ H _ I h) fun v s1 ⟨x,H1,I1,r1,q1⟩=>?_)
 refine wpAny_Slice (thn (hl pins s1 σ H1 _ I1 q1) fun vl s2 ⟨l,H2,I2,pl,q2⟩=>thn (hu pins s2 σ H2 _ I2 q2) fun vu s3 ⟨u,H3,I3,pu,q3⟩=>?_)
 rw [evalPart_none]
 refine wpAny_pure ?_
 have I4:Inv X pins σ H3 {s3 with heap:=s3.heap.push {cls:=.type "slice",data:=.fields #[vl,vu,.none]}}:=I3.kept (t':=s3.toks) fun b ob q=>Heap.get?_push_of_some _ q
 obtain ⟨T,id,hT,ht,hg⟩:=hr pins {s3 with heap:=s3.heap.push {cls:=.type "slice",data:=.fields #[vl,vu,.none]}} σ H3 x v vl vu l u s3.heap.objs.size Q I4 r1 (Heap.IsSliceOf.new ..) pl pu q3
 show wpAny (model X.prog X.w) X.A (subscriptTail e (.Slice lo hi none p2) v (.ref s3.heap.objs.size)) (EP X pins σ Q) X.xe {s3 with heap:=s3.heap.push {cls:=.type "slice",data:=.fields #[vl,vu,.none]}}
 exact tail_any (ops:= [.ref s3.heap.objs.size,v]) ht hT hg (by with_unfolding_all rfl)
def cutV (xs:List V) (lo hi:Option Int):List V:=(xs.drop (HT.sIx xs.length 0 lo)).take (HT.sIx xs.length xs.length hi - HT.sIx xs.length 0 lo)
theorem cutV_length (xs:List V) (lo hi:Option Int):(cutV xs lo hi).length≤xs.length:=by
 unfold cutV
 rw [List.length_take,List.length_drop]
 omega
end
end L2
namespace L2
open PySem PySem.Spec PyProof.Rows
def ixN (n:Nat) (i:Int):Option Nat:=if 0≤i then (if i<n then some i.toNat else none) else if -(n:Int)≤i then some (i+n).toNat else none
def atI {α:Type} (xs:List α) (i:Int):Option α:=(ixN xs.length i).bind fun j=>xs[j]?
theorem ixN_seq {n:Nat} {i:Int} {j:Nat} (h:ixN n i=some j):seqIndex? i n=some j∧j<n∧ -(n:Int)≤i∧i<n:=by
 unfold ixN at h
 by_cases h0:0≤i
 ·rw [if_pos h0] at h
  by_cases h1:i<n
  ·rw [if_pos h1] at h
   have e:i.toNat=j:=Option.some.inj h
   exact ⟨by rw [seqIndex_of h0 h1,e],by omega,by omega,h1⟩
  ·rw [if_neg h1] at h;cases h
 ·rw [if_neg h0] at h
  by_cases h1: -(n:Int)≤i
  ·rw [if_pos h1] at h
   have e:(i+n).toNat=j:=Option.some.inj h
   exact ⟨by rw [seqIndex_neg (by omega) h1,e],by omega,h1,by omega⟩
  ·rw [if_neg h1] at h;cases h
theorem atI_get {α:Type} {xs:List α} {i:Int} {v:α} (h:atI xs i=some v):∃j,seqIndex? i xs.length=some j∧xs[j]?=some v∧j<xs.length∧ -(xs.length:Int)≤i∧i<xs.length:=by
 unfold atI at h
 cases e:ixN xs.length i with
 |none=>rw [e] at h;cases h
 |some j=>
  rw [e] at h
  obtain ⟨h1,h2,h3,h4⟩:=ixN_seq e
  exact ⟨j,h1,h,h2,h3,h4⟩
theorem atI_nat {α:Type} {xs:List α} {j:Nat} {v:α} (h:xs[j]?=some v):atI xs (j:Int)=some v:=by
 have hj:j<xs.length:=(List.getElem?_eq_some_iff.mp h).1
 have e:ixN xs.length (j:Int)=some j:=by
  unfold ixN
  rw [if_pos (by omega),if_pos (by omega)];simp
 unfold atI;rw [e];exact h
theorem atI_last {α:Type} (xs:List α) (v:α):atI (xs++ [v]) (-1)=some v:=by
 have hl:(xs++ [v]).length=xs.length+1:=by simp
 have e:ixN (xs++ [v]).length (-1)=some xs.length:=by
  unfold ixN
  rw [hl,if_neg (by decide),if_pos (by omega)]
  congr 1
  omega
 unfold atI
 rw [e]
 show (xs++ [v])[xs.length]?=some v
 simp
def PlainIx (b:Expr):Prop:=∀o i,subscripted b false o i=operate [o,i] (getItem o i)
def IxR (X:Cx) (r:R2):Prop:=
 ∀(value slice:Expr) (pins:List (Addr×Obj)) (s:Shared) (σ:St) (H:Hp) (x y:V) (v u:Value) (Q:VK),Inv X pins σ H s→RelV x v→RelV y u→r x y H Q→
  subscripted slice false v u=operate [v,u] (getItem v u)→wpAny (model X.prog X.w) X.A (subscriptTail value slice v u) (EP X pins σ Q) X.xe s
def MtR (X:Cx) (id:String) (r:V→List V→Hp→VK→Prop):Prop:=
 ∀(pins:List (Addr×Obj)) (s:Shared) (σ:St) (H:Hp) (x:V) (xs:List V) (v:Value) (us:List Value) (Q:VK),Inv X pins σ H s→RelV x v→Vals xs us→r x xs H Q→
  wpAny (model X.prog X.w) X.A (call (.builtin id) (v::us)) (EP X pins σ Q) X.xe s
section
variable {X:Cx} {a b:Expr} {ta tb:TE} {pos:Pos}
theorem pe_ix {r:R2} (hr:IxR X r) (ha:PE X a ta) (hb:PE X b tb) (hs:PlainIx b):PE X (.Subscript a b pos) (tOp r ta tb):=by
 intro pins s σ H Q I h
 exact Subscript_ (binT ha hb I h fun v u s2 x y H2 I2 rx ry q=>hr a b pins s2 σ H2 x y v u Q I2 rx ry q (hs _ _))
def rIxL (K:PySem.W.Frag):R2:=fun x y H Q=>∃p xs i v,x=.ref p∧y=.int i∧SqL K H p xs∧atI xs i=some v∧Q v H
def rIxT (K:PySem.W.Frag):R2:=fun x y H Q=>∃p xs i v,x=.ref p∧y=.int i∧SqT K H p xs∧atI xs i=some v∧Q v H
theorem ix_list:IxR X (rIxL X.K):=by
 intro value slice pins s σ H x y v u Q I rx ry h hs
 obtain ⟨p,xs,i,z,rfl,rfl,hq,he,q⟩:=h
 cases rx
 obtain ⟨t,rfl⟩:=ry
 obtain ⟨its,r,pl,hz⟩:=I.list hq
 obtain ⟨j,h1,h2,h3,h4,h5⟩:=atI_get he
 obtain ⟨w,ew,rw'⟩:=r.get h2
 have hl:=r.length
 have hn:=line63
 have fin:EP X pins σ Q w s:=⟨z,H,I,rw',q⟩
 by_cases h0:0≤i
 ·have hj:i.toNat=j:=by
   rw [seqIndex_of h0 h5] at h1
   exact Option.some.inj h1
  exact item_listR pl.isList h0 (by omega) (by rw [hj];simpa using ew) fin hs
 ·have hj:(i+(its.toArray.size:Int)).toNat=j:=by
   rw [seqIndex_neg (by omega) h4] at h1
   rw [List.size_toArray,←hl]
   exact Option.some.inj h1
  exact subscriptTail_builtinR (x:=w) pl.isList.typeIs slot_list_getitem.lookup
   (wpAny_getItem_list_neg (Q:=fun r s'=>r=w∧EP X pins σ Q r s') pl.isList (by omega) (by rw [List.size_toArray]<;>omega) (by omega) (by rw [hj];simpa using ew) ⟨rfl,fin⟩) hs
theorem ix_tup:IxR X (rIxT X.K):=by
 intro value slice pins s σ H x y v u Q I rx ry h hs
 obtain ⟨p,xs,i,z,rfl,rfl,hq,he,q⟩:=h
 cases rx
 obtain ⟨t,rfl⟩:=ry
 obtain ⟨its,r,pl,hz⟩:=I.tuple hq
 obtain ⟨j,h1,h2,h3,h4,h5⟩:=atI_get he
 obtain ⟨w,ew,rw'⟩:=r.get h2
 have hl:=r.length
 have hn:=line63
 have fin:EP X pins σ Q w s:=⟨z,H,I,rw',q⟩
 exact subscriptTail_builtinR (x:=w) pl.typeIs slot_tuple_getitem.lookup
  (getItem_tuple (j:=j) (Q:=fun r s'=>r=w∧EP X pins σ Q r s') pl (by omega) (by omega) (by rw [List.size_toArray,←hl];exact h1) (by simpa using ew) ⟨rfl,fin⟩) hs
theorem mapSeq_set (its:List Value) (n j:Nat) (u:Value):Obj.mapSeq (·.setIfInBounds j u) {cls:=.type "list",data:=.seq its.toArray n}={cls:=.type "list",data:=.seq (its.set j u).toArray n}:=by
 simp [Obj.mapSeq]
theorem Inv.lst {pins:List (Addr×Obj)} {σ:St} {H:Hp} {s:Shared} {p:Addr} {xs:List V} (I:Inv X pins σ H s) (h:H p=some (.lst xs)):
  ∃(its:List Value) (n:Nat),Vals xs its∧s.heap.get? p=some {cls:=.type "list",data:=.seq its.toArray n}∧xs.length≤sizeLine:=by
 obtain ⟨z,its,n,r,e⟩:=I.hok p _ h
 exact ⟨its,n,r,e,z⟩
theorem Inv.lstUpd {pins:List (Addr×Obj)} {σ:St} {H:Hp} {s:Shared} {p:Addr} {xs ys:List V} {its its':List Value} {n n':Nat} {f:Obj→Obj} (I:Inv X pins σ H s) (h:H p=some (.lst xs))
  (ho:s.heap.get? p=some {cls:=.type "list",data:=.seq its.toArray n}) (hf:f {cls:=.type "list",data:=.seq its.toArray n}={cls:=.type "list",data:=.seq its'.toArray n'}) (r:Vals ys its') (hz:ys.length≤sizeLine) (t:Nat):
  Inv X pins σ (upd H p (.lst ys)) {s with heap:=s.heap.update p f,toks:=t}:=by
 have e:(s.heap.update p f).get? p=some {cls:=.type "list",data:=.seq its'.toArray n'}:=by
  rw [Heap.get?_update_self f ho (by rw [hf]<;>rfl),hf]
 refine I.write (x:=p) (e:=p) (by rw [h];trivial) (.inl rfl) (fun b u hb q=>(Heap.get?_update_other _ _ (Ne.symm hb)).trans q) ⟨_,e⟩ ?_
 exact ⟨hz,its',n',r,e⟩
def rSetL:V→V→V→Hp→(Hp→Prop)→Prop:=fun o i v H Q=>∃p xs k j,o=.ref p∧i=.int k∧H p=some (.lst xs)∧ixN xs.length k=some j∧Q (upd H p (.lst (xs.set j v)))
theorem set_list:PSet X rSetL:=by
 intro pins s σ H o i v ov iv u Q I ro ri rv h
 obtain ⟨p,xs,k,j,rfl,rfl,hp,hj,q⟩:=h
 cases ro
 obtain ⟨t,rfl⟩:=ri
 obtain ⟨its,n,r,ho,hz⟩:=I.lst hp
 obtain ⟨h1,h2,h3,h4⟩:=ixN_seq hj
 have hl:=r.length
 have hn:=line63
 have I':Inv X pins σ (upd H p (.lst (xs.set j v))) {s with heap:=s.heap.update p (Obj.mapSeq (·.setIfInBounds j u))}:=
  I.lstUpd hp ho (mapSeq_set its n j u) (r.set rv j) (by rw [List.length_set];exact hz) s.toks
 by_cases h0:0≤k
 ·have hk:k.toNat=j:=by
   rw [seqIndex_of h0 h4] at h1
   exact Option.some.inj h1
  exact PySem.W.ki_setAt ho h0 (by omega) (by rw [List.size_toArray,←hl];exact h4) (by rw [hk];exact ⟨_,I',q⟩)
 ·have hk:(k+(its.toArray.size:Int)).toNat=j:=by
   rw [seqIndex_neg (by omega) h3] at h1
   rw [List.size_toArray,←hl]
   exact Option.some.inj h1
  exact PySem.W.ki_setBack ho (by omega) (by rw [List.size_toArray,←hl];exact h3) (by omega) (by rw [hk];exact ⟨_,I',q⟩)
theorem slice_bounds (lo hi:Option Int) (n:Nat):(sliceBounds lo hi none n).1=((HT.sIx n 0 lo:Nat):Int)∧(sliceBounds lo hi none n).2.1=((HT.sIx n n hi:Nat):Int)∧(sliceBounds lo hi none n).2.2=1:=by
 refine ⟨?_,?_,rfl⟩
 ·cases lo with
  |none=>simp [sliceBounds,HT.sIx]
  |some i=>
   simp only [sliceBounds,HT.sIx,Option.getD_none,show (1:Int)>0 by decide,if_true]
   by_cases h:i<0
   ·simp only [h,if_true]<;>omega
   ·simp only [h,if_false]<;>omega
 ·cases hi with
  |none=>simp [sliceBounds,HT.sIx]
  |some i=>
   simp only [sliceBounds,HT.sIx,Option.getD_none,show (1:Int)>0 by decide,if_true]
   by_cases h:i<0
   ·simp only [h,if_true]<;>omega
   ·simp only [h,if_false]<;>omega
theorem slicePick_cut (its:List Value) (lo hi:Option Int):slicePick its.toArray lo hi none=((its.drop (HT.sIx its.length 0 lo)).take (HT.sIx its.length its.length hi - HT.sIx its.length 0 lo)).toArray:=by
 obtain ⟨h1,h2,h3⟩:=slice_bounds lo hi its.toArray.size
 unfold slicePick
 rw [h1,h2,h3]
 simp only [sliceRange_one,pick_run,List.size_toArray]<;>rfl
def rSlL (K:PySem.W.Frag):V→Option Int→Option Int→Hp→VK→Prop:=fun x lo hi H Q=>∃a xs,x=.ref a∧SqL K H a xs∧∀p,H p=none→Q (.ref p) (upd H p (.lst (cutV xs lo hi)))
theorem sl_list:SlR X (rSlL X.K):=by
 intro pins s σ H x v vl vu lo hi sl Q I rx hs pl pu h
 obtain ⟨a,xs,rfl,hx,q⟩:=h
 cases rx
 obtain ⟨its,r,ht,hz⟩:=I.list hx
 have hlen:=r.length
 refine ⟨"list",_,slot_list_getitem.lookup,ht.isList.typeIs,?_⟩
 refine wpAny_getItem_list_slice ht.isList hs pl pu .none (by simp) ?_ (by rw [List.size_toArray]<;>omega)
 rw [slicePick_cut,←hlen]
 refine ⟨.ref s.heap.objs.size,_,I.laid (t':=s.toks) (o:=.lst (cutV xs lo hi)) (fun b ob q=>Heap.get?_push_of_some _ q) (Nat.le_refl _) ?_,rfl,q _ (I.hok.fresh (Nat.le_refl _))⟩
 exact ⟨Nat.le_trans (cutV_length xs lo hi) hz,_,0,(r.drop (HT.sIx xs.length 0 lo)).take (HT.sIx xs.length xs.length hi - HT.sIx xs.length 0 lo),Heap.get?_push_size _ rfl⟩
def flatV:V→Bool
 | .non=>true
 | .bl _=>true
 | .int _=>true
 | .str _=>true
 |_=>false
def eqV:V→V→Bool
 | .non,.non=>true
 | .bl a,.bl b=>a==b
 | .bl a,.int b=>(if a then 1 else 0)==b
 | .int a,.bl b=>a==(if b then 1 else 0)
 | .int a,.int b=>a==b
 | .str a,.str b=>a==b
 |_,_=>false
theorem eqAt_V {A:Around} {s:Shared} {y x:V} {u v:Value} (ry:RelV y u) (rx:RelV x v) (fy:flatV y=true) (fx:flatV x=true):SeqAt.EqAt A s u v (eqV y x):=by
 cases y with
 |non=>
  cases ry
  cases x with
  |non=>cases rx;exact SeqAt.EqAt.same _
  |bl b=>cases rx;exact SeqAt.EqAt.none_bool b
  |int b=>obtain ⟨t,rfl⟩:=rx;exact SeqAt.EqAt.none_int b t
  |str b=>obtain ⟨t,rfl⟩:=rx;exact SeqAt.EqAt.none_str b t
  |_=>exact absurd (show false=true from fx) Bool.false_ne_true
 |bl a=>
  cases ry
  cases x with
  |non=>cases rx;exact SeqAt.EqAt.bool_none a
  |bl b=>cases rx;exact SeqAt.EqAt.bool_bool a b
  |int b=>obtain ⟨t,rfl⟩:=rx;exact SeqAt.EqAt.bool_int a b t
  |str b=>obtain ⟨t,rfl⟩:=rx;exact SeqAt.EqAt.bool_str a b t
  |_=>exact absurd (show false=true from fx) Bool.false_ne_true
 |int a=>
  obtain ⟨t',rfl⟩:=ry
  cases x with
  |non=>cases rx;exact SeqAt.EqAt.int_none a t'
  |bl b=>cases rx;exact SeqAt.EqAt.int_bool a t' b
  |int b=>obtain ⟨t,rfl⟩:=rx;exact SeqAt.EqAt.int_int a t' b t
  |str b=>obtain ⟨t,rfl⟩:=rx;exact SeqAt.EqAt.int_str a t' b t
  |_=>exact absurd (show false=true from fx) Bool.false_ne_true
 |str a=>
  obtain ⟨t',rfl⟩:=ry
  cases x with
  |non=>cases rx;exact SeqAt.EqAt.str_none a t'
  |bl b=>cases rx;exact SeqAt.EqAt.str_bool a t' b
  |int b=>obtain ⟨t,rfl⟩:=rx;exact SeqAt.EqAt.str_int a t' b t
  |str b=>obtain ⟨t,rfl⟩:=rx;exact SeqAt.EqAt.str_str a t' b t
  |_=>exact absurd (show false=true from fx) Bool.false_ne_true
 |_=>exact absurd (show false=true from fy) Bool.false_ne_true
def eqU (x:V) (u:Value):Bool:=match u with
 | .none=>eqV .non x
 | .bool b=>eqV (.bl b) x
 | .int i _=>eqV (.int i) x
 | .str z _=>eqV (.str z) x
 |_=>false
theorem eqU_of {x y:V} {u:Value} (r:RelV y u) (f:flatV y=true):eqU x u=eqV y x:=by
 cases y with
 |non=>cases r;rfl
 |bl b=>cases r;rfl
 |int i=>obtain ⟨t,rfl⟩:=r;rfl
 |str z=>obtain ⟨t,rfl⟩:=r;rfl
 |_=>exact absurd (show false=true from f) Bool.false_ne_true
theorem any_eqU {x:V}:∀{xs:List V} {us:List Value},Vals xs us→xs.all flatV=true→us.any (eqU x)=xs.any fun y=>eqV y x
 |_,_,.nil,_=>rfl
 |y::xs,u::us,.cons r t,f=>by
  rw [List.all_cons,Bool.and_eq_true] at f
  rw [List.any_cons,List.any_cons,eqU_of r f.1,any_eqU t f.2]
theorem mem_eqAt {A:Around} {s:Shared} {x:V} {v:Value} (rx:RelV x v) (fx:flatV x=true):∀{xs:List V} {us:List Value},Vals xs us→xs.all flatV=true→∀u∈us,SeqAt.EqAt A s u v (eqU x u)
 |_,_,.nil,_=>fun u hu=>by cases hu
 |y::xs,u::us,.cons r t,f=>fun u' hu=>by
  rw [List.all_cons,Bool.and_eq_true] at f
  rcases List.mem_cons.mp hu with rfl|hu
  ·rw [eqU_of r f.1];exact eqAt_V r rx f.1 fx
  ·exact mem_eqAt rx fx t f.2 u' hu
def inV (x:V) (xs:List V):Bool:=xs.any fun y=>eqV y x
def rIn (K:PySem.W.Frag) (neg:Bool):R2:=fun x y H Q=>∃p xs,y=.ref p∧(SqL K H p xs∨SqT K H p xs)∧flatV x=true∧xs.all flatV=true∧Q (.bl (if neg then !inV x xs else inV x xs)) H
theorem op_in_seq:OpR X (compareOp .In) (rIn X.K false):=by
 intro pins s σ H x y v u Q I rx ry h
 obtain ⟨p,xs,rfl,hq,fx,fs,q⟩:=h
 cases ry
 rcases hq with hq|hq
 ·obtain ⟨its,r,pl,hz⟩:=I.list hq
  refine SeqAt.in_listAt (eqU x) pl.isList (fun w hw=>mem_eqAt rx fx r fs w (by simpa using hw)) ⟨.bl _,H,I,rfl,?_⟩
  rw [show its.toArray.any (eqU x)=its.any (eqU x) by simp,any_eqU r fs]
  exact q
 ·obtain ⟨its,r,pl,hz⟩:=I.tuple hq
  refine SeqAt.in_tupleAt (eqU x) pl (fun w hw=>mem_eqAt rx fx r fs w (by simpa using hw)) ⟨.bl _,H,I,rfl,?_⟩
  rw [show its.toArray.any (eqU x)=its.any (eqU x) by simp,any_eqU r fs]
  exact q
theorem call_len_seq:CallR X (.builtin "len") (fun xs H Q=>∃p ys,xs= [.ref p]∧(SqL X.K H p ys∨SqT X.K H p ys)∧Q (.int ys.length) H):=by
 intro pins s σ H xs us Q I r h
 obtain ⟨p,ys,rfl,hq,q⟩:=h
 obtain ⟨u,rfl,rx⟩:=vals1 r
 cases rx
 have hn:=line63
 rcases hq with hq|hq
 ·obtain ⟨its,r',pl,hz⟩:=I.list hq
  have hlen:=r'.length
  exact Calls.call_len_list pl.isList (by simp only [List.size_toArray]<;>omega) ⟨.int ys.length,H,I.tok _,⟨s.toks+1,by rw [List.size_toArray,hlen]⟩,q⟩
 ·obtain ⟨its,r',pl,hz⟩:=I.tuple hq
  have hlen:=r'.length
  exact len_tuple pl (by simp only [List.size_toArray]<;>omega) ⟨.int ys.length,H,I.tok _,⟨s.toks+1,by rw [List.size_toArray,hlen]⟩,q⟩
def tyV (K:PySem.W.Frag) (T:String) (x:V) (H:Hp):Prop:=match x with
 | .str _=>T="str"
 | .int _=>T="int"
 | .ref p=>(T="list"∧∃xs,SqL K H p xs)∨(T="tuple"∧∃o,K.lookup p=some o∧o.cls=.type "tuple"∧o.dict=none)∨
   (T="dict"∧((∃kvs,H p=some (.dK kvs))∨∃kvs,H p=some (.dT kvs)))∨(T="set"∧∃S n,H p=some (.set S n))
 |_=>False
theorem tyV_is {pins:List (Addr×Obj)} {σ:St} {H:Hp} {s:Shared} {T:String} {x:V} {v:Value} (I:Inv X pins σ H s) (r:RelV x v) (ty:tyV X.K T x H):
  s.TypeIs v T∧∀a,v=.ref a→∃ob,s.heap.get? a=some ob∧ob.dict=none:=by
 cases x with
 |str z=>
  obtain ⟨t,rfl⟩:=r
  cases (show T="str" from ty)
  exact ⟨typeIs_str s z t,fun _ e=>nomatch e⟩
 |int i=>
  obtain ⟨t,rfl⟩:=r
  cases (show T="int" from ty)
  exact ⟨typeIs_int s i t,fun _ e=>nomatch e⟩
 |ref p=>
  cases r
  rcases ty with ⟨rfl,xs,hq⟩|⟨rfl,o,hk,hc,hd⟩|⟨rfl,hk⟩|⟨rfl,S,n,hk⟩
  ·obtain ⟨its,_,pl,_⟩:=I.list hq
   refine ⟨pl.isList.typeIs,fun a e=>?_⟩
   cases e
   obtain ⟨o,n,e,c,hd,_⟩:=pl
   exact ⟨o,e,hd⟩
  ·refine ⟨⟨o,I.kIn p o hk,hc⟩,fun a e=>?_⟩
   cases e
   exact ⟨o,I.kIn _ o hk,hd⟩
  ·have z:∃o,s.heap.get? p=some o∧o.ExactDict:=by
    rcases hk with ⟨kvs,hk⟩|⟨kvs,hk⟩
    ·obtain ⟨_,_,_,_,o,_,_,e,ex,_⟩:=I.hok p _ hk
     exact ⟨o,e,ex⟩
    ·obtain ⟨_,_,_,_,o,_,_,e,ex,_⟩:=I.hok p _ hk
     exact ⟨o,e,ex⟩
   obtain ⟨o,e,ex⟩:=z
   refine ⟨⟨o,e,ex.1⟩,fun a e2=>?_⟩
   cases e2
   exact ⟨o,e,ex.2.1⟩
  ·obtain ⟨o,_,_,_,e,ex,_⟩:=I.hok p _ hk
   refine ⟨⟨o,e,ex.1⟩,fun a e2=>?_⟩
   cases e2
   exact ⟨o,e,ex.2.1⟩
 |_=>exact False.elim ty
def tBM0 (K:PySem.W.Frag) (T:String) (r:V→List V→Hp→VK→Prop) (to:TE):TE:=fun σ H Q=>to σ H fun x H1=>tyV K T x H1∧r x [] H1 Q
def tBM (K:PySem.W.Frag) (T:String) (r:V→List V→Hp→VK→Prop) (to:TE) (t:TA):TE:=fun σ H Q=>to σ H fun x H1=>tyV K T x H1∧t σ H1 fun xs H2=>r x xs H2 Q
variable {o e:Expr} {es:List Expr} {to:TE} {t:TA} {name:Str} {apos cpos:Pos} {T id:String} {r:V→List V→Hp→VK→Prop}
theorem pe_bm0 (pa:PlainAttrs T) (slot:Slot T name id) (hty:typeOf (.builtin id)=pure (.type "method_descriptor")) (hm:MtR X id r) (ho:PE X o to)
  (hbase:attributeBase o name X.env (eval o X.env)=eval o X.env:=by rfl) (hline:(apos.endLine==cpos.line)=true:=by rfl):PE X (.Call (.Attribute o name apos) [] [] cpos) (tBM0 X.K T r to):=by
 intro pins s σ H Q I h
 refine wpAny_Call_method0_late hbase hline (thn (ho pins s σ H _ I h) fun v s1 ⟨x,H1,I1,r1,ty,q1⟩=>?_)
 obtain ⟨h1,h2⟩:=tyV_is I1 r1 ty
 exact ⟨T,id,pa,slot,hty,h1,h2,Calls.callWith_builtin rfl (PySem.evalArgs_none (hm pins s1 σ H1 x [] v [] Q I1 r1 .nil q1))⟩
theorem pe_bm (pa:PlainAttrs T) (slot:Slot T name id) (hty:typeOf (.builtin id)=pure (.type "method_descriptor")) (hm:MtR X id r) (ho:PE X o to) (ha:PA X (e::es) t)
  (hbase:attributeBase o name X.env (eval o X.env)=eval o X.env:=by rfl)
  (hfew:((backTo cpos (starEach (e::es) X.env)).all (fun x=> !x.1)&&(backToKw cpos (keywordEach [] X.env)).all (fun x=>x.1.isSome)
   &&decide ((e::es).length+([]:List Keyword).length+(if ([]:List Keyword).isEmpty then 0 else 1)<30))=true:=by rfl)
  (hline:(apos.endLine==cpos.line)=true:=by rfl) (hs:starEach (e::es) X.env=(false,eval e X.env)::starEach es X.env:=by rfl) (hplain:(backTo cpos (starEach es X.env)).any (·.1)=false:=by rfl):
  PE X (.Call (.Attribute o name apos) (e::es) [] cpos) (tBM X.K T r to t):=by
 intro pins s σ H Q I h
 refine wpAny_Call_method_late hbase hfew hline rfl (thn (ho pins s σ H _ I h) fun v s1 ⟨x,H1,I1,r1,ty,q1⟩=>?_)
 obtain ⟨h1,h2⟩:=tyV_is I1 r1 ty
 refine ⟨T,id,pa,slot,hty,h1,h2,?_⟩
 have hA:=ha cpos pins s1 σ H1 _ I1 q1
 rw [hs] at hA ⊢
 refine Calls.callWith_builtin (by show (false||(backTo cpos (starEach es X.env)).any (·.1))=false;rw [hplain]<;>rfl) (Calls.evalArgs_plain ?_)
 exact thn hA fun us s2 ⟨vs,H2,I2,r2,q2⟩=>hm pins s2 σ H2 x vs v us Q I2 r1 r2 q2
end
end L2
namespace L2
open PySem PySem.Spec PyProof.Rows
def MtM (X:Cx) (id:String) (r:V→List V→Hp→VK→Prop):Prop:=
 ∀(pins:List (Addr×Obj)) (s:Shared) (σ:St) (H:Hp) (x:V) (xs:List V) (v:Value) (us:List Value) (Q:VK),Inv X pins σ H s→RelV x v→Vals xs us→r x xs H Q→
  wpAny (model X.prog X.w) X.A (call (.builtin id) (v::us)) (EP X pins σ Q) X.xe s
theorem Vals.one:∀{x:V} {us:List Value},Vals [x] us→∃u,us= [u]∧RelV x u
 |_,_,.cons r .nil=>⟨_,rfl,r⟩
theorem Vals.zero:∀{us:List Value},Vals [] us→us= []
 |_,.nil=>rfl
theorem Vals.dropLast {xs:List V} {us:List Value} (h:Vals xs us):Vals xs.dropLast us.dropLast:=by
 induction h with
 |nil=>exact .nil
 |cons r t ih=>
  cases t with
  |nil=>exact .nil
  |cons q t'=>exact .cons r ih
theorem Vals.reverse {xs:List V} {us:List Value} (h:Vals xs us):Vals xs.reverse us.reverse:=by
 induction h with
 |nil=>exact .nil
 |cons r t ih=>rw [List.reverse_cons,List.reverse_cons];exact Vals.append ih (.cons r .nil)
theorem Vals.rep {xs:List V} {us:List Value} (h:Vals xs us):∀k:Nat,Vals (List.replicate k xs).flatten (List.replicate k us).flatten
 |0=>.nil
 |k+1=>by
  rw [List.replicate_succ,List.replicate_succ,List.flatten_cons,List.flatten_cons]
  exact Vals.append h (Vals.rep h k)
theorem erase_last {α:Type} (l:List α):l.eraseIdx (l.length - 1)=l.dropLast:=by
 induction l with
 |nil=>rfl
 |cons a r ih=>
  cases r with
  |nil=>rfl
  |cons b r=>
   have e:(a::b::r).length - 1=((b::r).length - 1)+1:=by
    have h1:(a::b::r).length=r.length+2:=rfl
    have h2:(b::r).length=r.length+1:=rfl
    omega
   rw [e,List.eraseIdx_cons_succ,ih]
   all_goals rfl
theorem foldl_rep (its:List Value):∀(k:Nat) (acc:List Value),
  List.foldl (fun x1 x2=>x1++x2) acc.toArray (List.replicate k its.toArray)=(acc++(List.replicate k its).flatten).toArray
 |0,acc=>by simp
 |k+1,acc=>by
  have e:acc.toArray++its.toArray=(acc++its).toArray:=by simp
  have e2:(acc++its)++(List.replicate k its).flatten=acc++(List.replicate (k+1) its).flatten:=by
   rw [List.replicate_succ,List.flatten_cons,List.append_assoc]
  rw [←e2,←foldl_rep its k (acc++its),←e,List.replicate_succ,List.foldl_cons]
section
variable {X:Cx} {pins:List (Addr×Obj)} {σ:St} {H:Hp} {s:Shared} {l b:Addr} {xs ys zs:List V}
theorem Inv.lset {its its':List Value} {n:Nat} {f:Array Value→Array Value} {t':Nat} (I:Inv X pins σ H s) (hH:H l=some (.lst xs))
  (e:s.heap.get? l=some {cls:=.type "list",data:=.seq its.toArray n}) (hf:f its.toArray=its'.toArray) (hv:Vals ys its') (hz:ys.length≤sizeLine):
  Inv X pins σ (upd H l (.lst ys)) {s with heap:=s.heap.update l (Obj.mapSeq f),toks:=t'}:=by
 have q:=PySem.IsL.update e f
 rw [hf] at q
 refine I.write (x:=l) (e:=l) (by rw [hH];exact trivial) (.inl rfl) (fun b' u hb hu=>(Heap.get?_update_other s.heap (Obj.mapSeq f) (Ne.symm hb)).trans hu) ⟨_,q⟩ ?_
 exact ⟨hz,its',_,hv,q⟩
theorem Inv.lnew {its:List Value} {t':Nat} (I:Inv X pins σ H s) (hv:Vals ys its) (hz:ys.length≤sizeLine):
  Inv X pins σ (upd H s.heap.objs.size (.lst ys)) {s with heap:=s.heap.push {cls:=.type "list",data:=.seq its.toArray},toks:=t'}:=
 I.laid (fun _ _ q=>Heap.get?_push_of_some _ q) (Nat.le_refl _) ⟨hz,its,0,hv,Heap.get?_push_size _ rfl⟩
theorem Inv.fresh (I:Inv X pins σ H s):H s.heap.objs.size=none:=I.hok.fresh (Nat.le_refl _)
theorem Inv.lstM (I:Inv X pins σ H s) (hH:H l=some (.lst xs)):xs.length≤sizeLine∧∃(its:List Value) (n:Nat),Vals xs its∧xs.length=its.length∧s.heap.get? l=some {cls:=.type "list",data:=.seq its.toArray n}:=by
 obtain ⟨z,its,n,r,e⟩:=I.hok l _ hH
 exact ⟨z,its,n,r,r.length,e⟩
theorem notLongL {n:Nat} (h:n≤sizeLine):Builtin.List.listTooLong n=false:=by
 unfold Builtin.List.listTooLong
 exact decide_eq_false (by omega)
end
section
variable {X:Cx}
def rAppend:V→List V→Hp→VK→Prop:=fun x vs H Q=>∃l xs y,x=.ref l∧vs= [y]∧H l=some (.lst xs)∧xs.length<sizeLine∧Q .non (upd H l (.lst (xs++ [y])))
theorem mt_append:MtM X "list.append" rAppend:=by
 intro pins s σ H x vs v us Q I rx rv h
 obtain ⟨l,xs,y,rfl,rfl,hH,hz,q⟩:=h
 cases rx
 obtain ⟨u,rfl,ru⟩:=rv.one
 obtain ⟨z,its,n,r,hl,e⟩:=I.lstM hH
 refine call_meets F.slot_list_append ⟨_,e,rfl⟩ F.entry_list_append (F.args_list_append_2 _ _) (PySem.list_append l its.toArray n u (by rw [List.size_toArray];omega)) ⟨e,?_⟩
 refine ⟨.non,_,I.lset (its':=its++ [u]) hH e (by simp) (r.append (.cons ru .nil)) ?_,rfl,q⟩
 rw [List.length_append,List.length_singleton]
 omega
def rExtend:V→List V→Hp→VK→Prop:=fun x vs H Q=>∃l b xs zs,x=.ref l∧vs= [.ref b]∧H l=some (.lst xs)∧H b=some (.lst zs)∧xs.length+zs.length≤sizeLine∧Q .non (upd H l (.lst (xs++zs)))
theorem mt_extend:MtM X "list.extend" rExtend:=by
 intro pins s σ H x vs v us Q I rx rv h
 obtain ⟨l,b,xs,zs,rfl,rfl,hH,hB,hz,q⟩:=h
 cases rx
 obtain ⟨u,rfl,ru⟩:=rv.one
 cases ru
 obtain ⟨z,its,n,r,hl,e⟩:=I.lstM hH
 obtain ⟨z2,its2,n2,r2,hl2,e2⟩:=I.lstM hB
 have hsz:its.toArray.size+its2.toArray.size≤sizeLine:=by rw [List.size_toArray,List.size_toArray];omega
 have hlong:¬(!its.toArray.isEmpty&&Builtin.List.listTooLong (its.toArray.size+its2.toArray.size))=true:=by
  rw [notLongL hsz,Bool.and_false]
  exact Bool.false_ne_true
 refine call_meets F.slot_list_extend ⟨_,e,rfl⟩ F.entry_list_extend (F.args_list_extend_2 _ _)
  (AutoSeq1.list_extend_list_list_0 l its.toArray n b its2.toArray n2 hlong (by rw [List.size_toArray];omega) (by omega)) ⟨e,e2,?_⟩
 refine ⟨.non,_,I.lset (its':=its++its2) hH e (by simp) (r.append r2) ?_,rfl,q⟩
 rw [List.length_append]
 omega
def rPop:V→List V→Hp→VK→Prop:=fun x vs H Q=>∃l xs y,x=.ref l∧vs= []∧H l=some (.lst xs)∧xs[xs.length - 1]?=some y∧Q y (upd H l (.lst xs.dropLast))
theorem mt_pop:MtM X "list.pop" rPop:=by
 intro pins s σ H x vs v us Q I rx rv h
 obtain ⟨l,xs,y,rfl,rfl,hH,hy,q⟩:=h
 cases rx
 have hus:=rv.zero
 subst hus
 obtain ⟨z,its,n,r,hl,e⟩:=I.lstM hH
 obtain ⟨u,hu,ru⟩:=r.get hy
 have hy':its.toArray[its.toArray.size - 1]?=some u:=by
  show its.toArray[its.length - 1]?=some u
  rw [←Array.getElem?_toList,←hl]
  exact hu
 refine call_meets F.slot_list_pop ⟨_,e,rfl⟩ F.entry_list_pop (F.args_list_pop_1 _) (MeetsSeq.list_pop_last l its.toArray n u hy' (by rw [List.size_toArray];omega)) ⟨e,?_⟩
 refine ⟨y,_,I.lset (its':=its.dropLast) hH e ?_ r.dropLast ?_,ru,q⟩
 ·show its.toArray.eraseIdxIfInBounds (its.toArray.size - 1)=its.dropLast.toArray
  rw [List.size_toArray,List.eraseIdxIfInBounds_toArray,erase_last]
 ·rw [List.length_dropLast]
  omega
def rReverse:V→List V→Hp→VK→Prop:=fun x vs H Q=>∃l xs,x=.ref l∧vs= []∧H l=some (.lst xs)∧Q .non (upd H l (.lst xs.reverse))
theorem mt_reverse:MtM X "list.reverse" rReverse:=by
 intro pins s σ H x vs v us Q I rx rv h
 obtain ⟨l,xs,rfl,rfl,hH,q⟩:=h
 cases rx
 have hus:=rv.zero
 subst hus
 obtain ⟨z,its,n,r,hl,e⟩:=I.lstM hH
 refine call_meets F.slot_list_reverse ⟨_,e,rfl⟩ F.entry_list_reverse (F.args_list_reverse_1 _) (AutoSeq1.list_reverse_list_0 l its.toArray n (by rw [List.size_toArray];omega)) ⟨e,?_⟩
 refine ⟨.non,_,I.lset (its':=its.reverse) hH e (by simp) r.reverse ?_,rfl,q⟩
 rw [List.length_reverse]
 omega
def rCat:R2:=fun x y H Q=>∃l b xs zs,x=.ref l∧y=.ref b∧H l=some (.lst xs)∧H b=some (.lst zs)∧xs.length+zs.length≤sizeLine∧∀p,H p=none→Q (.ref p) (upd H p (.lst (xs++zs)))
theorem op_cat:OpR X (binaryOp .Add) rCat:=by
 intro pins s σ H x y v u Q I rx ry h
 obtain ⟨l,b,xs,zs,rfl,rfl,hH,hB,hz,q⟩:=h
 cases rx
 cases ry
 obtain ⟨z,its,n,r,hl,e⟩:=I.lstM hH
 obtain ⟨z2,its2,n2,r2,hl2,e2⟩:=I.lstM hB
 refine PySem.P.add_list e e2 ?_ (by rw [List.size_toArray,List.size_toArray];omega)
 have ea:its.toArray++its2.toArray=(its++its2).toArray:=by simp
 rw [ea]
 exact ⟨.ref _,_,I.lnew (t':=s.toks) (r.append r2) (by rw [List.length_append];omega),rfl,q _ I.fresh⟩
def rRep:R2:=fun x y H Q=>∃l k xs,x=.ref l∧y=.int k∧H l=some (.lst xs)∧ -(2 ^ 63)≤k∧k<2 ^ 63∧xs.length * k.toNat≤sizeLine∧
 ∀p,H p=none→Q (.ref p) (upd H p (.lst (List.replicate k.toNat xs).flatten))
theorem len_rep {α:Type} (xs:List α) (k:Nat):(List.replicate k xs).flatten.length=k * xs.length:=by
 induction k with
 |zero=>simp
 |succ k ih=>rw [List.replicate_succ,List.flatten_cons,List.length_append,ih,Nat.succ_mul,Nat.add_comm]
theorem op_rep:OpR X (binaryOp .Mult) rRep:=by
 intro pins s σ H x y v u Q I rx ry h
 obtain ⟨l,k,xs,rfl,rfl,hH,h1,h2,hz,q⟩:=h
 cases rx
 obtain ⟨t,rfl⟩:=ry
 obtain ⟨z,its,n,r,hl,e⟩:=I.lstM hH
 have hlen:its.toArray.size * k.toNat≤sizeLine:=by rw [List.size_toArray,←hl];exact hz
 have hcap:¬its.toArray.size * k.toNat>(2 ^ 63 - 1) / 8:=by
  have:(sizeLine:Nat)≤(2 ^ 63 - 1) / 8:=by decide
  omega
 have hfit:¬(!Builtin.List.listFitsIndex k)=true:=by
  rw [fitsIndex_both h1 h2]
  exact Bool.false_ne_true
 have hlong:¬Builtin.List.listTooLong (its.toArray.size * k.toNat)=true:=by
  rw [notLongL hlen]
  exact Bool.false_ne_true
 have hnew:List.foldl (fun x1 x2=>x1++x2) #[] (List.replicate (if its.toArray.isEmpty=true then 0 else k.toNat) its.toArray)=(List.replicate k.toNat its).flatten.toArray:=by
  have f0:∀m:Nat,List.foldl (fun x1 x2=>x1++x2) #[] (List.replicate m its.toArray)=(List.replicate m its).flatten.toArray:=fun m=>by
   have:=foldl_rep its m []
   rw [List.nil_append] at this
   exact this
  rw [f0]
  cases its with
  |nil=>simp
  |cons a r'=>rw [if_neg (by simp)]
 refine wpAny_binaryOp_repeat_ref (T:="list") (U:="int") (by decide) ⟨_,e,rfl⟩ (fun s'=>typeIs_int s' k t) noFill_list_mul F.fills_int_mul F.slot_int_rmul repeat_list F.slot_int_index.lookup
  (call_meets F.slot_int_rmul (typeIs_int s k t) F.entry_int_rmul (F.args_int_rmul_2 _ _) (int___rmul___int_list k t l its.toArray n)
   ⟨e,rfl,⟨_,e,rfl⟩,call_meets F.slot_list_mul ⟨_,e,rfl⟩ F.entry_list_mul (F.args_list_mul_2 _ _) (AutoListH.list___mul___list_int_3 l its.toArray n k t hfit hcap hlong) ⟨e,?_⟩⟩)
 rw [hnew]
 exact ⟨.ref _,_,I.lnew (t':=s.toks) (r.rep k.toNat) (by rw [len_rep,Nat.mul_comm];exact hz),rfl,q _ I.fresh⟩
end
end L2
namespace L2
open PySem PySem.Spec PyProof.Rows
theorem Vals.ints:∀{ns:List Int} {us:List Value},Vals (ns.map V.int) us→IntsAre us ns
 | [],us,h=>by
  rw [List.map_nil] at h
  cases h
  exact IntsAre.nil
 |n::ns,us,h=>by
  rw [List.map_cons] at h
  cases h with
  |cons r t=>
   obtain ⟨k,rfl⟩:=r
   exact IntsAre.cons n k (Vals.ints t)
theorem Vals.bls:∀{bs:List Bool} {us:List Value},Vals (bs.map V.bl) us→us=bs.map Value.bool
 | [],us,h=>by
  rw [List.map_nil] at h
  cases h
  rfl
 |b::bs,us,h=>by
  rw [List.map_cons] at h
  cases h with
  |cons r t=>
   cases r
   rw [Vals.bls t,List.map_cons]
theorem Vals.ref1 {a:Addr} {us:List Value} (r:Vals [V.ref a] us):us= [Value.ref a]:=by
 cases r with
 |cons r t=>
  cases t
  cases r
  rfl
section
variable {prog:Program} {w:World} {A:Around} {E:Value→Shared→Prop} {s:Shared} {l:Addr} {its:List Value} {ns:List Int} {Q:Value→Shared→Prop}
theorem max_raw (hh:A.handled=none) (hl:s.heap.IsList l its.toArray) (hi:IntsAre its ns) (hne:0<ns.length)
  (h:∀h' tk M t',(∀b o,s.heap.get? b=some o→h'.get? b=some o)→M∈ns→(∀a,a∈ns→a≤M)→Q (.int M t') {s with heap:=h',toks:=tk}):wpAny (model prog w) A (call (.builtin "max") [.ref l]) Q E s:=by
 obtain ⟨xs,e⟩:=hi.allInts.items
 have hn:numsOf (intItems xs).toList=ns:=by rw [←e];exact hi.numsOf
 rw [nums_intItems] at hn
 subst hn
 rw [e] at hl
 have hsz:0<xs.size:=by simpa using hne
 refine PySem.max_intList hh hl hsz fun v h' tk hv hk=>?_
 obtain ⟨t,rfl⟩:=intItems_at hv
 obtain ⟨h1,h2⟩:=argBest_gt (numAt xs) (xs.size - 1)
 refine h h' tk _ t hk ?_ fun a ha=>?_
 ·rw [numAt_eq];exact PySem.getD_mem (by rw [List.length_map,Array.length_toList];omega)
 ·obtain ⟨j,hj,rfl⟩:=mem_getD ha
  rw [List.length_map,Array.length_toList] at hj
  rw [←numAt_eq];exact h2 j (by omega)
theorem min_raw (hh:A.handled=none) (hl:s.heap.IsList l its.toArray) (hi:IntsAre its ns) (hne:0<ns.length)
  (h:∀h' tk M t',(∀b o,s.heap.get? b=some o→h'.get? b=some o)→M∈ns→(∀a,a∈ns→M≤a)→Q (.int M t') {s with heap:=h',toks:=tk}):wpAny (model prog w) A (call (.builtin "min") [.ref l]) Q E s:=by
 obtain ⟨xs,e⟩:=hi.allInts.items
 have hn:numsOf (intItems xs).toList=ns:=by rw [←e];exact hi.numsOf
 rw [nums_intItems] at hn
 subst hn
 rw [e] at hl
 have hsz:0<xs.size:=by simpa using hne
 refine PySem.min_intList hh hl hsz fun v h' tk hv hk=>?_
 obtain ⟨t,rfl⟩:=intItems_at hv
 obtain ⟨h1,h2⟩:=argBest_lt (numAt xs) (xs.size - 1)
 refine h h' tk _ t hk ?_ fun a ha=>?_
 ·rw [numAt_eq];exact PySem.getD_mem (by rw [List.length_map,Array.length_toList];omega)
 ·obtain ⟨j,hj,rfl⟩:=mem_getD ha
  rw [List.length_map,Array.length_toList] at hj
  rw [←numAt_eq];exact h2 j (by omega)
end
section
variable {X:Cx}
def rMax (K:PySem.W.Frag):List V→Hp→VK→Prop:=fun vs H Q=>∃(a:Addr) (ns:List Int),vs= [V.ref a]∧SqL K H a (ns.map V.int)∧0<ns.length∧∀m,m∈ns→(∀y,y∈ns→y≤m)→Q (.int m) H
def rMin (K:PySem.W.Frag):List V→Hp→VK→Prop:=fun vs H Q=>∃(a:Addr) (ns:List Int),vs= [V.ref a]∧SqL K H a (ns.map V.int)∧0<ns.length∧∀m,m∈ns→(∀y,y∈ns→m≤y)→Q (.int m) H
theorem cr_max (hc:X.calm=true):CallR X (.builtin "max") (rMax X.K):=by
 intro pins s σ H vs us Q I r h
 obtain ⟨a,ns,rfl,hs,hne,q⟩:=h
 obtain ⟨its,rv,hl,_⟩:=I.list hs
 rw [Vals.ref1 r]
 exact max_raw (I.ok.hd hc) hl.isList rv.ints hne fun h' tk m t' hk h1 h2=>⟨.int _,H,I.kept hk,⟨_,rfl⟩,q m h1 h2⟩
theorem cr_min (hc:X.calm=true):CallR X (.builtin "min") (rMin X.K):=by
 intro pins s σ H vs us Q I r h
 obtain ⟨a,ns,rfl,hs,hne,q⟩:=h
 obtain ⟨its,rv,hl,_⟩:=I.list hs
 rw [Vals.ref1 r]
 exact min_raw (I.ok.hd hc) hl.isList rv.ints hne fun h' tk m t' hk h1 h2=>⟨.int _,H,I.kept hk,⟨_,rfl⟩,q m h1 h2⟩
end
theorem iter_any {prog:Program} {w:World} {A:Around} {E:Value→Shared→Prop} {s:Shared} {l:Addr} {items:Array Value} {Q:Value→Shared→Prop} (hl:s.heap.IsList l items)
  (h:∀s₂:Shared,s₂={s with heap:=s.heap.push {cls:=.type "list_iterator",data:=.fields #[.ref l,.int 0 0]}}→
   (s₂.heap.IsListIter s.heap.objs.size l 0∧s₂.heap.IsList l items)→l≠s.heap.objs.size→Q (.ref s.heap.objs.size) s₂):wpAny (model prog w) A (pyIter (.ref l)) Q E s:=by
 have hlt:l<s.heap.objs.size:=by obtain ⟨_,e,_⟩:=hl;exact Heap.lt_size e
 exact wpAny_pyIter_list hl (h _ rfl ⟨⟨_,Heap.get?_push_size _ rfl,rfl,rfl⟩,hl.push _⟩ (Nat.ne_of_lt hlt))
theorem truth_bools {prog:Program} {w:World} {A:Around} {bs:List Bool} {its:List Value} (e:its=bs.map Value.bool):
  TruthOf prog w A (fun i v=>its.toArray[i]?=some v) (fun i=>bs.getD i false):=fun i v s Q E hv hq=>by
 have hv':its[i]?=some v:=by simpa using hv
 rw [e,List.getElem?_map] at hv'
 obtain ⟨b,hb,rfl⟩:=Option.map_eq_some_iff.mp hv'
 have hg:bs.getD i false=b:=by rw [List.getD_eq_getElem?_getD,hb]<;>rfl
 have hq':Q (bs.getD i false) s:=hq
 rw [hg] at hq'
 exact wpAny_truthy_bool hq'
theorem any_range:∀bs:List Bool,(List.range bs.length).any (fun i=>bs.getD i false)=bs.any id
 | []=>rfl
 |b::bs=>by
  rw [List.length_cons,List.range_succ_eq_map,List.any_cons,List.any_map,List.any_cons,←any_range bs]
  all_goals rfl
section
variable {X:Cx}
def rAny (K:PySem.W.Frag):List V→Hp→VK→Prop:=fun vs H Q=>∃(a:Addr) (bs:List Bool),vs= [V.ref a]∧SqL K H a (bs.map V.bl)∧Q (.bl (bs.any id)) H
theorem cr_any (hc:X.calm=true):CallR X (.builtin "any") (rAny X.K):=by
 intro pins s σ H vs us Q I r h
 obtain ⟨a,bs,rfl,hs,q⟩:=h
 obtain ⟨its,rv,hl,_⟩:=I.list hs
 rw [Vals.ref1 r]
 have hb:=rv.bls
 refine call_any_walk (iter_any hl.isList fun s₂ e2 st hne=>?_)
 subst e2
 refine ⟨_,_,_,_,_,_,_,rfl,Walks.list (A:=X.A.in1) (I.ok.hd hc) _ a hne its.toArray,st,truth_bools hb,fun h' tk hk=>?_⟩
 refine ⟨.bl _,H,I.kept fun b o eo=>hk b o (fun hmem=>?_) (Heap.get?_push_of_some _ eo),?_,q⟩
 ·rcases List.mem_cons.mp hmem with e1|hmem
  ·exact absurd (e1▸Heap.lt_size eo) (Nat.lt_irrefl _)
  ·cases hmem
 ·show Value.bool _=Value.bool _
  rw [←any_range,hb,List.size_toArray,List.length_map]
end
end L2
namespace L2
open PySem PySem.Spec PyProof.Rows
abbrev CellAt (h:Heap) (c:Addr) (v:Option Value):Prop:=h.IsCell c v
def relS (scope sc:Scope):Scope:=
 {scope with names:=scope.names.map fun (n,k)=>if (k==.free&&sc.kind==.function&&sc.names.lookup n==some .cell) then (n,.cell) else (n,k)}
def cloFrom (cells:List (Str×Addr)):List (Str×NameKind)→List (Str×Addr)→List (Str×Addr)
 | [],acc=>acc
 |(n,k)::r,acc=>if k==.free then cloFrom cells r ((n,(cells.lookup n).getD 0)::acc) else cloFrom cells r acc
theorem closure_loop (env:Env) (f:Str×NameKind→List (Str×Addr)→Sem (ForInStep (List (Str×Addr))))
  (hf:∀n k c,f (n,k) c=if k==.free then (do let a←cellOf env n;pure (.yield ((n,a)::c))) else pure (.yield c)):
  ∀(names:List (Str×NameKind)) (acc:List (Str×Addr)),(∀y∈names,y.2=.free→∃c,env.cells.lookup y.1=some c)→forIn names acc f=pure (cloFrom env.cells names acc)
 | [],acc,_=>by rw [List.forIn_nil];rfl
 |(n,k)::r,acc,h=>by
  rw [List.forIn_cons,hf]
  have ih:=fun acc=>closure_loop env f hf r acc fun y hy=>h y (List.mem_cons_of_mem _ hy)
  unfold cloFrom
  by_cases hk:(k==NameKind.free)=true
  ·rw [if_pos hk,if_pos hk]
   obtain ⟨c,hc⟩:=h (n,k) List.mem_cons_self (by simpa using hk)
   have e:cellOf env n=pure c:=by unfold cellOf;rw [hc]
   rw [e]
   have e2:(env.cells.lookup n).getD 0=c:=by rw [hc];rfl
   rw [e2]
   exact ih _
  ·rw [if_neg hk,if_neg hk]
   exact ih _
theorem closure_ok {scope:Scope} {env:Env} (h:∀y∈scope.names,y.2=.free→∃c,env.cells.lookup y.1=some c):closureFor scope env=pure (cloFrom env.cells scope.names []):=by
 simp only [closureFor]
 rw [closure_loop env _ (fun n k c=>rfl) scope.names [] h]
 rfl
theorem mem_lookup {α:Type}:∀{l:List (Str×α)} {n:Str} {c:α},(n,c)∈l→∃c',l.lookup n=some c'
 |(k,v)::r,n,c,h=>by
  rw [List.lookup_cons]
  cases hb:n==k with
  |true=>exact ⟨_,rfl⟩
  |false=>
   rcases List.mem_cons.mp h with e|h
   ·cases e;simp at hb
   ·exact mem_lookup h
theorem cloFrom_mem {cells:List (Str×Addr)}:∀{names:List (Str×NameKind)} {acc:List (Str×Addr)} {n:Str} {c:Addr},(n,c)∈cloFrom cells names acc→(n,c)∈acc∨((n,.free)∈names∧c=(cells.lookup n).getD 0)
 | [],_,_,_,h=>.inl h
 |(m,k)::r,acc,n,c,h=>by
  unfold cloFrom at h
  split at h
  ·rename_i hk
   have hk:k=.free:=by simpa using hk
   rcases cloFrom_mem h with h|⟨h1,h2⟩
   ·rcases List.mem_cons.mp h with e|h
    ·cases e;exact .inr ⟨hk▸List.mem_cons_self,rfl⟩
    ·exact .inl h
   ·exact .inr ⟨List.mem_cons_of_mem _ h1,h2⟩
  ·rcases cloFrom_mem h with h|⟨h1,h2⟩
   ·exact .inl h
   ·exact .inr ⟨List.mem_cons_of_mem _ h1,h2⟩
theorem cloFrom_acc {cells:List (Str×Addr)}:∀{names:List (Str×NameKind)} {acc:List (Str×Addr)} {p:Str×Addr},p∈acc→p∈cloFrom cells names acc
 | [],_,_,h=>h
 |(m,k)::r,acc,p,h=>by
  unfold cloFrom
  split
  ·exact cloFrom_acc (List.mem_cons_of_mem _ h)
  ·exact cloFrom_acc h
theorem cloFrom_has {cells:List (Str×Addr)}:∀{names:List (Str×NameKind)} {acc:List (Str×Addr)} {n:Str},(n,.free)∈names→(n,(cells.lookup n).getD 0)∈cloFrom cells names acc
 |(m,k)::r,acc,n,h=>by
  unfold cloFrom
  rcases List.mem_cons.mp h with e|h
  ·cases e
   exact cloFrom_acc List.mem_cons_self
  ·split
   ·exact cloFrom_has h
   ·exact cloFrom_has h
theorem cells_mem:∀{names:List (Str×NameKind)} {h:Heap} {acc:List (Str×Addr)} {x:Str} {c:Addr},(x,c)∈cellsFrom h.objs.size names acc→
  (x,c)∈acc∨((x,.cell)∈names∧h.objs.size≤c∧CellAt (pushCells h names) c none)
 | [],_,_,_,_,h=>.inl h
 |(n,k)::r,h,acc,x,c,hm=>by
  unfold cellsFrom at hm
  unfold pushCells
  split at hm
  ·rename_i hk
   rw [if_pos hk]
   have hk:k=.cell:=by simpa using hk
   rw [←Heap.size_push h {cls:=.type "cell",data:=.cell none}] at hm
   rcases cells_mem hm with hm|⟨h1,h2,h3⟩
   ·rcases List.mem_cons.mp hm with e|hm
    ·cases e
     exact .inr ⟨hk▸List.mem_cons_self,Nat.le_refl _,_,pushCells_keeps r _ _ _ (Heap.get?_push_size _ rfl),rfl⟩
    ·exact .inl hm
   ·rw [Heap.size_push] at h2
    exact .inr ⟨List.mem_cons_of_mem _ h1,Nat.le_of_succ_le h2,h3⟩
  ·rename_i hk
   rw [if_neg hk]
   rcases cells_mem hm with hm|⟨h1,h2,h3⟩
   ·exact .inl hm
   ·exact .inr ⟨List.mem_cons_of_mem _ h1,h2,h3⟩
theorem cells_acc:∀{names:List (Str×NameKind)} {n:Nat} {acc:List (Str×Addr)} {p:Str×Addr},p∈acc→p∈cellsFrom n names acc
 | [],_,_,_,h=>h
 |(m,k)::r,n,acc,p,h=>by
  unfold cellsFrom
  split
  ·exact cells_acc (List.mem_cons_of_mem _ h)
  ·exact cells_acc h
theorem cells_has:∀{names:List (Str×NameKind)} {n:Nat} {acc:List (Str×Addr)} {x:Str},(x,.cell)∈names→∃c,(x,c)∈cellsFrom n names acc
 |(m,k)::r,n,acc,x,h=>by
  unfold cellsFrom
  rcases List.mem_cons.mp h with e|h
  ·cases e
   exact ⟨n,cells_acc List.mem_cons_self⟩
  ·split
   ·exact cells_has h
   ·exact cells_has h
theorem cells_inj:∀{names:List (Str×NameKind)} {h:Heap} {acc:List (Str×Addr)} {x y:Str} {c:Addr},(∀p∈acc,p.2<h.objs.size)→(∀x y c,(x,c)∈acc→(y,c)∈acc→x=y)→
  (x,c)∈cellsFrom h.objs.size names acc→(y,c)∈cellsFrom h.objs.size names acc→x=y
 | [],_,_,_,_,_,_,hi,h1,h2=>hi _ _ _ h1 h2
 |(n,k)::r,h,acc,x,y,c,hl,hi,h1,h2=>by
  unfold cellsFrom at h1 h2
  split at h1
  ·rename_i hk
   rw [if_pos hk] at h2
   rw [←Heap.size_push h {cls:=.type "cell",data:=.cell none}] at h1 h2
   refine cells_inj (h:=h.push _) (fun p hp=>?_) (fun x y c a b=>?_) h1 h2
   ·rw [Heap.size_push]
    rcases List.mem_cons.mp hp with rfl|hp
    ·exact Nat.lt_succ_self _
    ·exact Nat.lt_succ_of_lt (hl p hp)
   ·rcases List.mem_cons.mp a with e|a<;>rcases List.mem_cons.mp b with e'|b
    ·cases e;cases e';rfl
    ·cases e;exact absurd (hl _ b) (Nat.lt_irrefl _)
    ·cases e';exact absurd (hl _ a) (Nat.lt_irrefl _)
    ·exact hi _ _ _ a b
  ·rename_i hk
   rw [if_neg hk] at h2
   exact cells_inj hl hi h1 h2
theorem newEnv_comp {M:Model} {A:Around} {E:Value→Shared→Prop} {s:Shared} {scope:Scope} {globals:Addr} {closure:List (Str×Addr)} {qual:Str} {func:Option Addr} {code:Value} {around:Env} {builtins:Addr} {Q:Env→Shared→Prop}
  (h:Q (newEnv scope s.heap.objs.size globals (cellsFrom (s.heap.objs.size+1) scope.names closure) qual func code (some around) builtins)
   {s with heap:=pushCells (s.heap.push {cls:=.type "dict",data:=.dict #[]}) scope.names}):
  wpAny M A (newFunctionEnv scope globals closure [] qual func code (some around) builtins) Q E s:=by
 simp only [newFunctionEnv,Option.isSome_some,if_true]
 refine wpAny_bind (wpAny_alloc ?_)
 refine wpAny_bind (wpAny_layCells _ (fun n k c=>rfl) scope.names closure _ _ ?_)
 rw [show ({s with heap:=s.heap.push {cls:=.type "dict",data:=.dict #[]}}:Shared).heap.objs.size=s.heap.objs.size+1 from Heap.size_push ..]
 rw [List.forIn_nil]
 exact wpAny_bind (wpAny_pure (wpAny_pure h))
theorem lookup_relS {sc:Scope}:∀{names:List (Str×NameKind)} {x:Str} {k:NameKind},
  (names.map fun (n,k)=>if (k==NameKind.free&&sc.kind==.function&&sc.names.lookup n==some .cell) then (n,NameKind.cell) else (n,k)).lookup x=some k→
  ∃k',names.lookup x=some k'∧(k=k'∨(k'=.free∧k=.cell))
 | [],_,_,h=>by simp at h
 |(n,k₀)::r,x,k,h=>by
  have ih:= @lookup_relS sc r x k
  have h':List.lookup x ((if (k₀==NameKind.free&&sc.kind==.function&&sc.names.lookup n==some .cell)=true then (n,NameKind.cell) else (n,k₀))::(r.map _))=some k:=h
  cases hx:x==n with
  |true=>
   simp only [List.lookup_cons,hx]
   by_cases hc:(k₀==NameKind.free&&sc.kind==.function&&sc.names.lookup n==some .cell)=true
   ·rw [if_pos hc] at h'
    simp only [List.lookup_cons,hx] at h'
    cases h'
    simp only [Bool.and_eq_true,beq_iff_eq] at hc
    exact ⟨k₀,rfl,.inr ⟨hc.1.1,rfl⟩⟩
   ·rw [if_neg hc] at h'
    simp only [List.lookup_cons,hx] at h'
    cases h'
    exact ⟨_,rfl,.inl rfl⟩
  |false=>
   simp only [List.lookup_cons,hx]
   by_cases hc:(k₀==NameKind.free&&sc.kind==.function&&sc.names.lookup n==some .cell)=true
   ·rw [if_pos hc] at h'
    simp only [List.lookup_cons,hx] at h'
    exact ih h'
   ·rw [if_neg hc] at h'
    simp only [List.lookup_cons,hx] at h'
    exact ih h'
structure BlkOk (N:List Str) (sc scope:Scope) (own:List (Str×Nat)):Prop where
 kind:scope.kind=.function
 uniq:∀y∈scope.names,scope.names.lookup y.1=some y.2
 ix:∀p∈own,N[p.2]?=some p.1
 free:∀y∈scope.names,y.2=.free→sc.names.lookup y.1=some .cell∨sc.names.lookup y.1=some .free
 own:∀y∈scope.names,y.2=.local∨y.2=.cell→y.1∈own.map (·.1)∨y.1∉N
def wipe (σ:St):List Nat→St
 | []=>σ
 |v::vs=>(wipe σ vs).set v none
theorem wipe_length (σ:St):∀vs:List Nat,(wipe σ vs).length=σ.length
 | []=>rfl
 |v::vs=>by unfold wipe;rw [List.length_set,wipe_length σ vs]
theorem wipe_some {σ:St} {i:Nat} {x:V}:∀{vs:List Nat},(wipe σ vs)[i]?=some (some x)→σ[i]?=some (some x)∧i∉vs
 | [],h=>⟨h,by simp⟩
 |v::vs,h=>by
  unfold wipe at h
  by_cases hi:v=i
  ·subst hi
   by_cases hv:v<(wipe σ vs).length
   ·rw [List.getElem?_set_self hv] at h;cases h
   ·rw [List.getElem?_eq_none (by simpa using hv)] at h;cases h
  ·rw [List.getElem?_set_ne hi] at h
   obtain ⟨h1,h2⟩:=wipe_some h
   exact ⟨h1,by simp only [List.mem_cons,not_or];exact ⟨fun e=>hi e.symm,h2⟩⟩
abbrev Cx.blk (X:Cx) (s:Shared) (H:Hp) (scope:Scope) (cenv:Env) (fp:List Addr):Cx:={X with s_0:=s,H_0:=H,env:=cenv,outer:=X.stack,ex:=fp,fn:=fun x=>scope.names.lookup x==some .cell,pn:= [],xe:=fun _ _=>False}
section
variable {X:Cx} {pins:List (Addr×Obj)} {σ:St} {H:Hp} {s:Shared}
theorem block_start {scope:Scope} {own:List (Str×Nat)} {fp:List Addr} (I:Inv X pins σ H s) (ok:BlkOk X.N X.env.scope scope own) (hN:X.N.Nodup) (hfp:∀b∈fp,FpOk X pins H b∧b<s.heap.objs.size):
  Inv (X.blk s H scope (compEnvC scope (cellsFrom (s.heap.objs.size+1) scope.names (cloFrom X.env.cells scope.names [])) s.heap.objs.size X.env) fp) [] (wipe σ (own.map (·.2))) H {s with heap:=pushCells (s.heap.push {cls:=.type "dict",data:=.dict #[]}) scope.names}:=by
 have hfree:∀y∈scope.names,y.2=.free→∃c,X.env.cells.lookup y.1=some c:=fun y hy e=>by
  rcases ok.free y hy e with k|k
  ·exact I.ok.has _ (.inl k)
  ·exact I.ok.has _ (.inr k)
 generalize hcenv:compEnvC scope (cellsFrom (s.heap.objs.size+1) scope.names (cloFrom X.env.cells scope.names [])) s.heap.objs.size X.env=cenv
 have kp:∀b o,s.heap.get? b=some o→(pushCells (s.heap.push {cls:=.type "dict",data:=.dict #[]}) scope.names).get? b=some o:=fun b o e=>pushCells_keeps _ _ _ _ (Heap.get?_push_of_some _ e)
 have hL:cenv.locals=s.heap.objs.size:=by rw [←hcenv];rfl
 have hcl:cenv.cells=cellsFrom (s.heap.objs.size+1) scope.names (cloFrom X.env.cells scope.names []):=by rw [←hcenv];rfl
 have hsc:cenv.scope=relS scope X.env.scope:=by rw [←hcenv];rfl
 rw [←Heap.size_push s.heap {cls:=.type "dict",data:=.dict #[]}] at hcl
 have cm:∀{y c},(y,c)∈cloFrom X.env.cells scope.names []→X.env.cells.lookup y=some c∧c<s.heap.objs.size:=fun {y c} hm=>by
  rcases cloFrom_mem hm with hm|⟨h1,rfl⟩
  ·cases hm
  ·obtain ⟨c,hc⟩:=hfree _ h1 rfl
   rw [hc]
   obtain ⟨w,z⟩:=I.cell _ _ hc
   exact ⟨rfl,z.lt⟩
 have mem:∀{y c},cenv.cells.lookup y=some c→(X.env.cells.lookup y=some c∧c<s.heap.objs.size)∨(s.heap.objs.size+1≤c∧CellAt (pushCells (s.heap.push {cls:=.type "dict",data:=.dict #[]}) scope.names) c none):=fun {y c} e=>by
  rw [hcl] at e
  rcases cells_mem (PySem.mem_of_lookup e) with hm|⟨_,h2,h3⟩
  ·exact .inl (cm hm)
  ·rw [Heap.size_push] at h2;exact .inr ⟨h2,h3⟩
 have look:∀{y},scope.names.lookup y=some .free→∃c,cenv.cells.lookup y=some c∧X.env.cells.lookup y=some c:=fun {y} hl=>by
  have hy:(y,NameKind.free)∈scope.names:=PySem.mem_of_lookup hl
  obtain ⟨c',e'⟩:=mem_lookup (cells_acc (names:=scope.names) (n:=(s.heap.push {cls:=.type "dict",data:=.dict #[]}).objs.size) (cloFrom_has (cells:=X.env.cells) (acc:= []) hy))
  rw [←hcl] at e'
  refine ⟨c',e',?_⟩
  rw [hcl] at e'
  rcases cells_mem (PySem.mem_of_lookup e') with hm|⟨h1,_,_⟩
  ·exact (cm hm).1
  ·have:=ok.uniq _ h1
   rw [hl] at this;cases this
 have okB:(X.blk s H scope cenv fp).Ok:=by
  refine ⟨I.ok.mod,by show cenv.scope.kind=_;rw [hsc];exact ok.kind,by show cenv.globals=_;rw [←hcenv];exact I.ok.glob,by show cenv.builtins=_;rw [←hcenv];exact I.ok.blt,by show s.heap.objs.size≤cenv.locals;rw [hL];exact Nat.le_refl _,
   fun y z c e1 e2=>?_,fun y hy=>?_,fun y c z e=>?_,I.ok.hd,I.ok.frames,.inl rfl,fun b hb=>⟨?_,fun y c e z=>?_⟩,I.bs,Nat.le_trans I.ok.bsz I.sz,fun b o e hb=>?_,fun b hb z=>?_,I.stack,I.stkFree⟩
  ·have e1:cenv.cells.lookup y=some c:=e1
   have e2:cenv.cells.lookup z=some c:=e2
   rw [hcl] at e1 e2
   refine cells_inj (fun p hp=>?_) (fun y z c a b=>I.ok.inj y z c (cm a).1 (cm b).1) (PySem.mem_of_lookup e1) (PySem.mem_of_lookup e2)
   rw [Heap.size_push]
   exact Nat.lt_succ_of_lt (cm (y:=p.1) (c:=p.2) hp).2
  ·show∃c,cenv.cells.lookup y=some c
   have key:∀k,cenv.kindOf y=some k→(k=.cell∨k=.free)→∃c,cenv.cells.lookup y=some c:=fun k hk hk'=>by
    unfold Env.kindOf at hk
    rw [hsc] at hk
    obtain ⟨k',e,r⟩:=lookup_relS hk
    have:k'=.cell∨k'=.free:=by
     rcases r with rfl|⟨rfl,_⟩
     ·exact hk'
     ·exact .inr rfl
    rcases this with rfl|rfl
    ·obtain ⟨c,hm⟩:=cells_has (n:=(s.heap.push {cls:=.type "dict",data:=.dict #[]}).objs.size) (acc:=cloFrom X.env.cells scope.names []) (PySem.mem_of_lookup e)
     obtain ⟨c',e'⟩:=mem_lookup hm
     exact ⟨c',by rw [hcl];exact e'⟩
    ·obtain ⟨c,h1,_⟩:=look e
     exact ⟨c,h1⟩
   rcases hy with hy|hy
   ·exact key _ hy (.inl rfl)
   ·exact key _ hy (.inr rfl)
  ·have z:(scope.names.lookup y==some NameKind.cell)=true:=z
   have z:scope.names.lookup y=some .cell:=by simpa using z
   have e:cenv.cells.lookup y=some c:=e
   rw [hcl] at e
   rcases cells_mem (PySem.mem_of_lookup e) with hm|⟨_,h2,_⟩
   ·rcases cloFrom_mem hm with hm|⟨h1,_⟩
    ·cases hm
    ·have q:=ok.uniq _ h1
     rw [z] at q;cases q
   ·rw [Heap.size_push] at h2
    exact Nat.le_of_succ_le h2
  ·show b≠cenv.locals
   rw [hL];exact Nat.ne_of_lt (hfp b hb).2
  ·have e:cenv.cells.lookup y=some c:=e
   rcases mem e with ⟨h1,_⟩|⟨h1,_⟩
   ·exact (hfp b hb).1.2.2.2.2.1 y c h1 z
   ·have h2:s.heap.objs.size+1≤b:=by rw [←z];exact h1
    exact absurd (Nat.lt_of_lt_of_le (hfp b hb).2 (Nat.le_of_succ_le h2)) (Nat.lt_irrefl _)
  ·rcases (hfp b hb).1.2.2.2.1 with z|z
   ·exact I.ok.noex b o e z
   ·exact absurd (Nat.lt_of_lt_of_le (Heap.lt_size e) (Nat.le_trans I.ok.bsz z)) (Nat.lt_irrefl _)
  ·rcases List.mem_cons.mp (I.stkSub b z) with z|z
   ·exact (hfp b hb).1.2.1 z
   ·exact (hfp b hb).1.2.2.1 z
 refine ⟨okB,rfl,I.bare,Un.kept kp,⟨fun _=>none,?_,fun i y av e1 e2 e3=>?_⟩,fun y c e=>?_,?_,fun y c e=>?_,fun p hp=>?_,I.hok.kept kp,by rw [wipe_length];exact I.len⟩
 ·show Heap.Ns _ cenv.locals _
  rw [hL]
  exact Heap.Ns.keeps (Heap.Ns.new ..) fun b o e=>pushCells_keeps _ _ _ _ e
 ·obtain ⟨e2,hne⟩:=wipe_some e2
  have hfr:scope.names.lookup y=some .free∧(cenv.kindOf y=some .cell∨cenv.kindOf y=some .free):=by
   have key:∀k,cenv.scope.names.lookup y=some k→k=.local∨k=.cell∨k=.free→scope.names.lookup y=some .free∧(cenv.kindOf y=some .cell∨cenv.kindOf y=some .free):=fun k hk hk'=>by
    have hk0:=hk
    rw [hsc] at hk
    obtain ⟨k',e,r⟩:=lookup_relS hk
    have no:¬(k'=.local∨k'=.cell):=fun hh=>by
     rcases ok.own _ (PySem.mem_of_lookup e) hh with e'|e'
     ·obtain ⟨p,hp,hpy⟩:=List.mem_map.mp e'
      have e3:=ok.ix p hp
      have:p.1=y:=hpy
      rw [this] at e3
      exact hne (List.mem_map.mpr ⟨p,hp,nodup_ix hN e3 e1⟩)
     ·exact e' (List.mem_of_getElem? e1)
    rcases r with rfl|⟨rfl,rfl⟩
    ·rcases hk' with rfl|rfl|rfl
     ·exact absurd (.inl rfl) no
     ·exact absurd (.inr rfl) no
     ·exact ⟨e,.inr hk0⟩
    ·exact ⟨e,.inl hk0⟩
   have e3:Vis cenv.scope y:=e3
   rcases e3 with e3|e3|e3
   ·exact key _ e3 (.inl rfl)
   ·exact key _ e3 (.inr (.inl rfl))
   ·exact key _ e3 (.inr (.inr rfl))
  obtain ⟨m,hn,hl⟩:=I.loc
  have hvis:Vis X.env.scope y:=(ok.free _ (PySem.mem_of_lookup hfr.1) rfl).elim (fun k=>.inr (.inl k)) (fun k=>.inr (.inr k))
  obtain ⟨w,r,q⟩:=hl i y av e1 e2 hvis
  refine ⟨w,r,.inr ⟨hfr.2,?_⟩⟩
  obtain ⟨c,h1,h2⟩:=look hfr.1
  rcases q with ⟨k,_⟩|⟨_,c',e',z⟩
  ·have k:X.env.scope.names.lookup y=some .local:=k
   rcases ok.free _ (PySem.mem_of_lookup hfr.1) rfl with k'|k'<;>rw [show X.env.scope.names.lookup y=_ from k'] at k<;>cases k
  ·rw [h2] at e';cases e'
   exact ⟨c,h1,z.keeps kp⟩
 ·have e:cenv.cells.lookup y=some c:=e
  rcases mem e with ⟨h1,_⟩|⟨_,z⟩
  ·obtain ⟨w,z⟩:=I.cell y c h1
   exact ⟨w,z.keeps kp⟩
  ·exact ⟨_,z⟩
 ·show H cenv.locals=none
  rw [hL];exact I.hok.fresh (Nat.le_refl _)
 ·have e:cenv.cells.lookup y=some c:=e
  rcases mem e with ⟨h1,_⟩|⟨h1,_⟩
  ·exact I.freeC y c h1
  ·exact I.hok.fresh (Nat.le_of_succ_le h1)
 ·exact absurd (show p∈([]:List (Addr×Obj))++ [] from hp) (by simp)
theorem app_ok {E:Value→Shared→Prop} {D:Addr} {xs:List V} {y:V} {v:Value} {Q:Value→Shared→Prop} (I:Inv X pins σ H s) (hD:H D=some (.lst xs)) (hz:xs.length<sizeLine) (r:RelV y v)
  (h:∀s',Inv X pins σ (upd H D (.lst (xs++ [y]))) s'→Q .none s'):wpAny (model X.prog X.w) X.A (call (.builtin "list.append") [.ref D,v]) Q E s:=by
 obtain ⟨hz',its,n,ri,e⟩:=I.hok D _ hD
 have hl:=ri.length
 refine append_at (hsz:=by rw [List.size_toArray];omega) e fun h' sb ho'=>?_
 refine h {s with heap:=h'} (I.write (t':=s.toks) (by rw [hD];trivial) (.inl rfl) (fun b u hb q=>(sb.2 b hb).trans q) ⟨_,ho'⟩ ⟨by rw [List.length_append];exact hz,its++ [v],n+1,ri.append (.cons r .nil),?_⟩)
 rw [ho']
 simp
def PTs (X:Cx) (ifs:List Expr) (t:TT):Prop:=
 ∀(pins:List (Addr×Obj)) (s:Shared) (σ:St) (H:Hp) (Q:Bool→Hp→Prop),Inv X pins σ H s→t σ H Q→
  wpAny (model X.prog X.w) X.A (forIn ifs true fun c r=>if r=true then do let ok←isTrue c X.env (eval c X.env);pure (ForInStep.yield ok) else pure (ForInStep.yield r)) (TP X pins σ Q) X.xe s
def tYes:TT:=fun _ H Q=>Q true H
theorem pts_nil:PTs X [] tYes:=fun _ _ _ H _ I h=>wpAny_tests_nil ⟨H,I,h⟩
theorem pts_one {c:Expr} {t:TT} (h:PT X c t):PTs X [c] t:=fun pins s σ H Q I hw=>wpAny_tests_one (h pins s σ H Q I hw)
end
theorem thnF {α:Type} {t:Sem α} {Q Q':α→Shared→Prop} {M:Model} {A:Around} {E:Value→Shared→Prop} {s:Shared} (h:wpAny M A t Q (fun _ _=>False) s) (hQ:∀a s,Q a s→Q' a s):wpAny M A t Q' E s:=wpAny_mono h hQ fun _ _ z=>False.elim z
theorem compLoop_any {prog:Program} {w:World} {A:Around} {R:Result→Shared→Prop} {s:Shared} {elt target iter:Expr} {ifs:List Expr} {scope:Scope} {pos:Pos} {it acc:Value} {env:Env} (I:Nat→Shared→Prop)
  (turn:∀n s,I n s→wpAny (model prog w) A (pyNext it) (fun r s₁=>match r with
   |none=>R (.ok .next) s₁
   |some v=>wpAny (model prog w) A (letOwnedTupleGo target it v) (fun _ s₁'=>wpAny (model prog w) A (assign target env v) (fun _ s₂=>
     wpAny (model prog w) A (forIn ifs true fun c r=>if r=true then do let ok←isTrue c env (eval c env);pure (ForInStep.yield ok) else pure (ForInStep.yield r)) (fun ok s₃=>
      if ok=true then wpAny (model prog w) A (eval elt env) (fun x s₄=>
       wpAny (model prog w) A (call (.builtin "list.append") [acc,x]) (fun _ s₅=>∃m,m<n∧I m s₅) (notedBy (model prog w) A env fun e s'=>R (.error e) s') s₄) (notedBy (model prog w) A env fun e s'=>R (.error e) s') s₃
      else∃m,m<n∧I m s₃) (notedBy (model prog w) A env fun e s'=>R (.error e) s') s₂) (notedBy (model prog w) A env fun e s'=>R (.error e) s') s₁') (notedBy (model prog w) A env fun e s'=>R (.error e) s') s₁) (notedBy (model prog w) A env fun e s'=>R (.error e) s') s)
  (n:Nat) (h:I n s):
  codeAny (model prog w) A (.compLoop (.ListComp elt [⟨target,iter,ifs,0⟩] scope pos) 0 it acc env) R s:=by
 refine codeAny_loop rfl I (fun n s hI=>?_) n h
 show wpAny _ A ((compTurn (.ListComp elt [⟨target,iter,ifs,0⟩] scope pos) 0 it acc env).onRaise (fun x=>do noteFrame x env;theTreesLotGoes x)) _ _ s
 refine wpAny_noted ?_
 rw [compTurn_list]
 refine wpAny_bind (wpAny_standAt (wpAny_bind (wpAny_mono (turn n s hI) (fun r s₁ h₁=>?_) fun _ _ h'=>h')))
 cases r with
 |none=>exact wpAny_pure h₁
 |some v=>
  refine wpAny_bind (wpAny_mono h₁ (fun _ s₁' h₁'=>?_) fun _ _ h'=>h')
  refine wpAny_bind (wpAny_mono h₁' (fun _ s₂ h₂=>wpAny_bind (wpAny_mono h₂ (fun ok s₃ h₃=>?_) fun _ _ h'=>h')) fun _ _ h'=>h')
  cases ok with
  |false=>exact wpAny_pure ⟨rfl,h₃⟩
  |true=>
   exact wpAny_bind (wpAny_bind (wpAny_mono h₃ (fun x s₄ h₄=>wpAny_bind (wpAny_mono h₄ (fun _ s₅ h₅=>wpAny_pure (wpAny_pure ⟨rfl,h₅⟩)) fun _ _ h'=>h')) fun _ _ h'=>h'))
section
variable {X:Cx}
def tLc (wi:TI) (g:TG) (tt:TT) (te:TE) (vs:List Nat):TE:=fun σ H Q=>wi σ H fun J H1=>∀D,H1 D=none→∃W:Nat→Nat→Hp→Prop,(∃m,W 0 m (upd H1 D (.lst [])))∧∀i m H,W i m H→
 (J.stop i H∧Q (.ref D) H)∨(J.go i H∧∃Nx:Hp→Prop,(∀H',Nx H'→∃m',m'<m∧W (i+1) m' H')∧∀x H',J.yld i H x H'→g x (wipe σ vs) H' fun σ2 H2=>wipe σ2 vs=wipe σ vs∧tt σ2 H2 fun b H3=>
  if b=true then te σ2 H3 fun y H4=>∃acc,H4 D=some (.lst acc)∧acc.length<sizeLine∧Nx (upd H4 D (.lst (acc++ [y]))) else Nx H3)
theorem lc_core {pins:List (Addr×Obj)} {s:Shared} {σ:St} {H:Hp} {Q:VK} {elt tg iter:Expr} {ifs:List Expr} {scope:Scope} {own:List (Str×Nat)} {pos pos':Pos} {wi:TI} {g:TG} {tt:TT} {te:TE} {use:Option (Value→Sem Unit)} {Qf:Value→Shared→Prop}
  (hc:X.calm=true) (hN:X.N.Nodup) (I:Inv X pins σ H s) (hi:PI X tg iter wi) (ok:BlkOk X.N X.env.scope scope own)
  (hg:∀(s:Shared) (H:Hp) (C:Addr) (cl:List (Str×Addr)) (fp:List Addr),PG (X.blk s H scope (compEnvC scope cl C X.env) fp) tg g) (ht:∀(s:Shared) (H:Hp) (C:Addr) (cl:List (Str×Addr)) (fp:List Addr),PTs (X.blk s H scope (compEnvC scope cl C X.env) fp) ifs tt)
  (he:∀(s:Shared) (H:Hp) (C:Addr) (cl:List (Str×Addr)) (fp:List Addr),PE (X.blk s H scope (compEnvC scope cl C X.env) fp) elt te) (hs:∀x,foldedSetIterable iter X.env x=pure x)
  (h:tLc wi g tt te (own.map (·.2)) σ H Q)
  (hRR:∀D C s' m H',Inv X pins σ H' s'→Q (.ref D) H'→s'.heap.Ns C m→FpOk X pins H' C→compPost (model X.prog X.w) X.A X.xe use Qf (.ref D) C (.ok .next) s'):
  wpAny (model X.prog X.w) X.A (comprehension (.ListComp elt [⟨tg,iter,ifs,0⟩] scope pos) scope X.env pos' (newList []) false (eval iter X.env) use) Qf X.xe s:=by
 have hfree:∀y∈scope.names,y.2=.free→∃c,X.env.cells.lookup y.1=some c:=fun y hy e=>by
  rcases ok.free y hy e with k|k
  ·exact I.ok.has _ (.inl k)
  ·exact I.ok.has _ (.inr k)
 refine wpAny_comprehension_free (use:=use) rfl hs (closure_ok hfree) ok.kind (fun y hy e=>by rw [ok.uniq y hy,e])
  (thn (hi pins s σ H _ I h) fun xv s1 hx=>thn hx fun itv s2 h2=>?_)
 obtain ⟨it,fp,tn,J,H2,e,I2,T,st2,f2,q⟩:=h2
 subst e
 refine wpAny_newObj_type (newEnv_comp ?_) (by show 0≤sizeLine;decide)
 generalize hD:s2.heap.objs.size=D
 have hDn:H2 D=none:=I2.hok.fresh (Nat.le_of_eq hD)
 obtain ⟨W,⟨m0,w0⟩,turn⟩:=q D hDn
 generalize hs3:({s2 with heap:=s2.heap.push {cls:=.type "list",data:=.seq ([]:List Value).toArray}}:Shared)=s3
 have I3:Inv X pins σ (upd H2 D (.lst [])) s3:=by
  rw [←hs3]
  refine I2.laid (t':=s2.toks) (fun b o e=>Heap.get?_push_of_some _ e) (Nat.le_of_eq hD) ⟨Nat.zero_le _,[],0,.nil,?_⟩
  rw [←hD]
  exact Heap.get?_push_size _ rfl
 have h3:s3.heap=s2.heap.push {cls:=.type "list",data:=.seq ([]:List Value).toArray}:=by rw [←hs3]
 have sz:∀b∈fp,b<s2.heap.objs.size:=fun b hb=>by
  obtain ⟨o,e,_⟩:=T.obj _ _ st2 b hb
  exact Heap.lt_size e
 have f3:∀b∈fp,FpOk X pins (upd H2 D (.lst [])) b∧b<s3.heap.objs.size:=fun b hb=>by
  have hlt:=sz b hb
  refine ⟨⟨?_,(f2 b hb).2⟩,by rw [h3,Heap.size_push];exact Nat.lt_succ_of_lt hlt⟩
  rw [upd_ne (by rw [←hD];exact Nat.ne_of_lt hlt)]
  exact (f2 b hb).1
 have st3:tn 0 s3.heap:=T.keep _ _ _ st2 fun b _ o e=>by rw [h3];exact Heap.get?_push_of_some _ e
 have I4:=block_start I3 ok hN f3
 have pg:=hg s3 (upd H2 D (.lst [])) s3.heap.objs.size (cellsFrom (s3.heap.objs.size+1) scope.names (cloFrom X.env.cells scope.names [])) fp
 have pt:=ht s3 (upd H2 D (.lst [])) s3.heap.objs.size (cellsFrom (s3.heap.objs.size+1) scope.names (cloFrom X.env.cells scope.names [])) fp
 have pe:=he s3 (upd H2 D (.lst [])) s3.heap.objs.size (cellsFrom (s3.heap.objs.size+1) scope.names (cloFrom X.env.cells scope.names [])) fp
 show codeAny _ _ (.compStart (.ListComp elt [⟨tg,iter,ifs,0⟩] scope pos) 0 (.ref it) (.ref D) (compEnvC scope (cellsFrom (s3.heap.objs.size+1) scope.names (cloFrom X.env.cells scope.names [])) s3.heap.objs.size X.env)) (compPost (model X.prog X.w) X.A X.xe use Qf (.ref D) s3.heap.objs.size) {s3 with heap:=pushCells (s3.heap.push {cls:=.type "dict",data:=.dict #[]}) scope.names}
 have nfp:∀b∈fp,(upd H2 D (.lst [])) b=none:=fun b hb=>(f3 b hb).1.1
 generalize hce:compEnvC scope (cellsFrom (s3.heap.objs.size+1) scope.names (cloFrom X.env.cells scope.names [])) s3.heap.objs.size X.env=ce at I4 pg pt pe ⊢
 have cL:ce.locals=s3.heap.objs.size:=by subst hce;rfl
 generalize hH3:upd H2 D (.lst [])=H3 at I3 I4 pg pt pe w0 nfp f3
 generalize hs4:({s3 with heap:=pushCells (s3.heap.push {cls:=.type "dict",data:=.dict #[]}) scope.names}:Shared)=s4 at I4 ⊢
 have st4:tn 0 s4.heap:=T.keep _ _ _ st3 fun b _ o e=>by rw [←hs4];exact pushCells_keeps _ _ _ _ (Heap.get?_push_of_some _ e)
 have stat:∀{σ':St} {H':Hp} {s':Shared},Inv (X.blk s3 H3 scope ce fp) [] σ' H' s'→(∀b∈fp,H' b=none)→∀b∈fp,FpOk (X.blk s3 H3 scope ce fp) [] H' b:=fun {σ' H' s'} I' hn b hb=>
  ⟨hn b hb,(I'.ok.exf b hb).1,I'.ok.exfs b hb,.inl hb,fun x c e=>(I'.ok.exf b hb).2 x c e,fun p hp=>absurd (show p∈([]:List (Addr×Obj))++ [] from hp) (by simp)⟩
 have loop:codeAny (model X.prog X.w) X.A (.compLoop (.ListComp elt [⟨tg,iter,ifs,0⟩] scope pos) 0 (.ref it) (.ref D) ce) (compPost (model X.prog X.w) X.A X.xe use Qf (.ref D) s3.heap.objs.size) s4:=by
  refine compLoop_any (fun n s'=>∃i H',Inv (X.blk s3 H3 scope ce fp) [] (wipe σ (own.map (·.2))) H' s'∧tn i s'.heap∧(∀b∈fp,H' b=none)∧W i n H') ?_ m0 ⟨0,H3,I4,st4,nfp,w0⟩
  rintro n s5 ⟨i,H5,I5,st5,n5,w5⟩
  rcases turn i n H5 w5 with ⟨stop,qq⟩|⟨go,Nx,hNx,step⟩
  ·have td:=T.done (X.blk s3 H3 scope ce fp) rfl rfl rfl hc i [] s5 _ H5 (fun _ _=>False) I5 (stat I5 n5) st5 stop
   refine thnF td fun r s6 ⟨hr,I6⟩=>?_
   subst hr
   have I7:Inv X pins σ H5 s6:=I3.call' (ch:=fp) I6.os I6.base I6.hok I6.bare fun b hb=>⟨(f3 b hb).1.2.2.2.1,(f3 b hb).1.2.1,(f3 b hb).1.2.2.2.2.1,(f3 b hb).1.2.2.2.2.2⟩
   have nC:H5 s3.heap.objs.size=none:=by
    have z:H5 ce.locals=none:=I6.free
    rw [cL] at z
    exact z
   obtain ⟨m,hn,_⟩:=I6.loc
   have hn:s6.heap.Ns ce.locals m:=hn
   rw [cL] at hn
   exact hRR D s3.heap.objs.size s6 m H5 I7 qq hn (I3.fpOk (Nat.le_refl _) nC)
  ·have ti:=T.item (X.blk s3 H3 scope ce fp) rfl rfl rfl hc i [] s5 _ H5 (fun _ _=>False) I5 (stat I5 n5) st5 go
   refine thnF ti fun r s6 ⟨u,hr,h6⟩=>?_
   subst hr
   refine thnF h6 fun _ s7 ⟨x,H7,I7,r7,y7,st7,n7⟩=>?_
   have I7':=I7.pinned (stat I7 n7) (T.obj _ _ st7)
   refine thnF (pg _ s7 _ H7 x u _ I7' r7 (step x H7 y7)) fun _ s8 ⟨σ8,H8,I8,hw8,q8⟩=>?_
   refine thnF (pt _ s8 σ8 H8 _ I8 q8) fun b s9 ⟨H9,I9,q9⟩=>?_
   have fin:∀{s':Shared} {H':Hp},Inv (X.blk s3 H3 scope ce fp) ([]++pinsAt fp s7.heap) σ8 H' s'→Nx H'→∃m,m<n∧∃i H',Inv (X.blk s3 H3 scope ce fp) [] (wipe σ (own.map (·.2))) H' s'∧tn i s'.heap∧(∀b∈fp,H' b=none)∧W i m H':=fun {s' H'} I' nx=>by
    obtain ⟨m',hm,w'⟩:=hNx H' nx
    have pin':∀b∈fp,∀o,s7.heap.get? b=some o→s'.heap.get? b=some o∧H' b=none:=fun b hb o e=>
     let z:=I'.pin (b,o) (List.mem_append_right _ (List.mem_append_right _ (mem_pinsAt hb e)))
     ⟨z.1,z.2.1⟩
    have hl:(wipe σ (own.map (·.2))).length=σ8.length:=by rw [←hw8,wipe_length]
    refine ⟨m',hm,i+1,H',(I'.unpinned (pins:= [])).weak hl (fun j v e=>?_),T.keep _ _ _ st7 fun b hb o e=>(pin' b hb o e).1,fun b hb=>?_,w'⟩
    ·rw [←hw8] at e
     exact (wipe_some e).1
    ·obtain ⟨o,e,_⟩:=T.obj _ _ st7 b hb
     exact (pin' b hb o e).2
   cases b with
   |false=>
    simp only [Bool.false_eq_true,if_false] at q9 ⊢
    exact fin I9 q9
   |true=>
    simp only [if_true] at q9 ⊢
    refine thnF (pe _ s9 σ8 H9 _ I9 q9) fun z s10 ⟨yv,H10,I10,r10,acc,hD10,hz10,nx⟩=>?_
    exact app_ok (X:=X.blk s3 H3 scope ce fp) I10 hD10 hz10 r10 fun s11 I11=>fin I11 nx
 exact codeAny_compStart_list loop (T.self X.A 0 _ _ _ st4 loop)
theorem pe_lc {elt tg iter:Expr} {ifs:List Expr} {scope:Scope} {own:List (Str×Nat)} {pos:Pos} {wi:TI} {g:TG} {tt:TT} {te:TE} (hc:X.calm=true) (hN:X.N.Nodup) (hi:PI X tg iter wi) (ok:BlkOk X.N X.env.scope scope own)
  (hg:∀(s:Shared) (H:Hp) (C:Addr) (cl:List (Str×Addr)) (fp:List Addr),PG (X.blk s H scope (compEnvC scope cl C X.env) fp) tg g) (ht:∀(s:Shared) (H:Hp) (C:Addr) (cl:List (Str×Addr)) (fp:List Addr),PTs (X.blk s H scope (compEnvC scope cl C X.env) fp) ifs tt)
  (he:∀(s:Shared) (H:Hp) (C:Addr) (cl:List (Str×Addr)) (fp:List Addr),PE (X.blk s H scope (compEnvC scope cl C X.env) fp) elt te) (hs:∀x,foldedSetIterable iter X.env x=pure x:=by intro _;rfl):
  PE X (.ListComp elt [⟨tg,iter,ifs,0⟩] scope pos) (tLc wi g tt te (own.map (·.2))):=by
 intro pins s σ H Q I h
 rw [eval_ListComp]
 refine lc_core hc hN I hi ok hg ht he hs h fun D C s' m H' I' q hn f=>⟨m,hn,fun h'' sb=>?_⟩
 obtain ⟨f0,f1,f2,f3,f4,f5⟩:=f
 exact ⟨.ref D,H',I'.turned (t':=s'.toks) (fun b o hb e=>(sb.2 b hb).trans e) f0 f1 f3 f4 f5,rfl,q⟩
theorem ps_setLc {i:Nat} {y:Str} {py:Pos} {elt tg iter:Expr} {ifs:List Expr} {scope:Scope} {own:List (Str×Nat)} {pos spos:Pos} {wi:TI} {g:TG} {tt:TT} {te:TE} (hc:X.calm=true) (hN:X.N.Nodup) (hy:X.N[i]?=some y) (hyl:X.env.scope.names.lookup y=some .local)
  (hsw:swapsWith (.ListComp elt [⟨tg,iter,ifs,0⟩] scope pos) (some (.Name y py)) spos.line X.env=pure true) (hi:PI X tg iter wi) (ok:BlkOk X.N X.env.scope scope own)
  (hg:∀(s:Shared) (H:Hp) (C:Addr) (cl:List (Str×Addr)) (fp:List Addr),PG (X.blk s H scope (compEnvC scope cl C X.env) fp) tg g) (ht:∀(s:Shared) (H:Hp) (C:Addr) (cl:List (Str×Addr)) (fp:List Addr),PTs (X.blk s H scope (compEnvC scope cl C X.env) fp) ifs tt)
  (he:∀(s:Shared) (H:Hp) (C:Addr) (cl:List (Str×Addr)) (fp:List Addr),PE (X.blk s H scope (compEnvC scope cl C X.env) fp) elt te) (hs:∀x,foldedSetIterable iter X.env x=pure x:=by intro _;rfl):
  PS X (.Assign [.Name y py] (.ListComp elt [⟨tg,iter,ifs,0⟩] scope pos) spos) (tAsg (tLc wi g tt te (own.map (·.2))) (gName i)):=by
 intro pins s σ H D I h
 rw [exec_Assign_Name_used _ _ _ _ hsw]
 refine wpAny_bind (wpAny_standAt (wpAny_bind ?_))
 show wpAny _ X.A (do let _←comprehension (.ListComp elt [⟨tg,iter,ifs,0⟩] scope pos) scope X.env (firstIterPos [⟨tg,iter,ifs,0⟩] pos) (newList []) false (eval iter X.env) (some (assign (.Name y py) X.env))) _ _ s
 have h:tLc wi g tt te (own.map (·.2)) σ H (fun x H1=>gName i x σ H1 D.nx):=h
 refine wpAny_bind (thn (lc_core (Qf:=fun _ s'=>SP X pins D .next s') hc hN I hi ok hg ht he hs h fun L C s' m H' I' q hn f=>?_) fun _ s' hq=>wpAny_pure (wpAny_pure hq))
 show wpAny _ _ (assign (.Name y py) X.env (.ref L)) _ _ _
 refine wpAny_assign_Name (store_ok2 (v:=V.ref L) I' hN hy (.inl hyl) rfl (fun s2 I2 ⟨a,sb,ha⟩=>?_) (.inr hyl))
 obtain ⟨f0,f1,f2,f3,f4,f5⟩:=f
 have haC:C≠a:=by
  rcases ha with z|z
  ·rw [z];exact f1
  ·exact fun e=>f4 y a z e.symm
 refine ⟨m,hn.sameBut sb haC,fun h3 sb3=>?_⟩
 exact ⟨_,H',I2.turned (t':=s2.toks) (fun b o hb e=>(sb3.2 b hb).trans e) f0 f1 f3 f4 f5,q⟩
theorem sw_true {elt:Expr} {gs:List Comprehension} {scope:Scope} {pos py:Pos} {y:Str} {l:Nat} {env:Env} (hk:env.scope.kind=.function) (hy:env.scope.names.lookup y=some .local) (hl:(py.line==pos.line)=true)
  (ha:(scope.names.any fun (n,k)=>n==y&&(k==.local||k==.cell))=false):swapsWith (.ListComp elt gs scope pos) (some (.Name y py)) l env=pure true:=by
 have ky:env.kindOf y=some .local:=hy
 have hb:env.blockKind=.function:=by unfold Env.blockKind;rw [hk];rfl
 unfold swapsWith
 simp only [hb,ky,ha,Expr.pos,hl]
 rfl
end
theorem lc_range {lo:Int} {n:Nat} {g:TG} {tt:TT} {te:TE} {vs:List Nat} {σ:St} {H1:Hp} {D:Addr} {Qd:Hp→Prop} (Pv:Nat→Hp→Prop) (h0:Pv 0 (upd H1 D (.lst [])))
  (hs:∀i H,i<n→Pv i H→g (.int (lo+i)) (wipe σ vs) H fun σ2 H2=>wipe σ2 vs=wipe σ vs∧tt σ2 H2 fun b H3=>
   if b=true then te σ2 H3 fun y H4=>∃acc,H4 D=some (.lst acc)∧acc.length<sizeLine∧Pv (i+1) (upd H4 D (.lst (acc++ [y]))) else Pv (i+1) H3) (hd:∀H,Pv n H→Qd H):
  ∃W:Nat→Nat→Hp→Prop,(∃m,W 0 m (upd H1 D (.lst [])))∧∀i m H,W i m H→
   ((Itr lo n).stop i H∧Qd H)∨((Itr lo n).go i H∧∃Nx:Hp→Prop,(∀H',Nx H'→∃m',m'<m∧W (i+1) m' H')∧∀x H',(Itr lo n).yld i H x H'→g x (wipe σ vs) H' fun σ2 H2=>wipe σ2 vs=wipe σ vs∧tt σ2 H2 fun b H3=>
    if b=true then te σ2 H3 fun y H4=>∃acc,H4 D=some (.lst acc)∧acc.length<sizeLine∧Nx (upd H4 D (.lst (acc++ [y]))) else Nx H3):=by
 refine ⟨fun i m H=>m=n - i∧i≤n∧Pv i H,⟨n,by simp,Nat.zero_le _,h0⟩,?_⟩
 rintro i m H ⟨rfl,hi,p⟩
 by_cases hlt:i<n
 ·refine .inr ⟨hlt,Pv (i+1),fun H' p'=>⟨n - (i+1),by omega,rfl,hlt,p'⟩,fun x H' y=>?_⟩
  obtain ⟨e,y⟩:=y
  subst e y
  exact hs i _ hlt p
 ·have e:i=n:=by omega
  subst e
  exact .inl ⟨Nat.le_refl _,hd H p⟩
theorem lc_list {K:PySem.W.Frag} {a:Addr} {xs:List V} {g:TG} {tt:TT} {te:TE} {vs:List Nat} {σ:St} {H1:Hp} {D:Addr} {Qd:Hp→Prop} (Pv:Nat→Hp→Prop) (h0:Pv 0 (upd H1 D (.lst []))) (hl:∀i H,i≤xs.length→Pv i H→SqL K H a xs)
  (hs:∀i x H,xs[i]?=some x→Pv i H→g x (wipe σ vs) H fun σ2 H2=>wipe σ2 vs=wipe σ vs∧tt σ2 H2 fun b H3=>
   if b=true then te σ2 H3 fun y H4=>∃acc,H4 D=some (.lst acc)∧acc.length<sizeLine∧Pv (i+1) (upd H4 D (.lst (acc++ [y]))) else Pv (i+1) H3) (hd:∀H,Pv xs.length H→Qd H):
  ∃W:Nat→Nat→Hp→Prop,(∃m,W 0 m (upd H1 D (.lst [])))∧∀i m H,W i m H→
   ((Itl K a).stop i H∧Qd H)∨((Itl K a).go i H∧∃Nx:Hp→Prop,(∀H',Nx H'→∃m',m'<m∧W (i+1) m' H')∧∀x H',(Itl K a).yld i H x H'→g x (wipe σ vs) H' fun σ2 H2=>wipe σ2 vs=wipe σ vs∧tt σ2 H2 fun b H3=>
    if b=true then te σ2 H3 fun y H4=>∃acc,H4 D=some (.lst acc)∧acc.length<sizeLine∧Nx (upd H4 D (.lst (acc++ [y]))) else Nx H3):=by
 refine ⟨fun i m H=>m=xs.length - i∧i≤xs.length∧Pv i H,⟨xs.length,by simp,Nat.zero_le _,h0⟩,?_⟩
 rintro i m H ⟨rfl,hi,p⟩
 have q:=hl i H hi p
 by_cases hlt:i<xs.length
 ·refine .inr ⟨⟨xs,xs[i],q,by simp [hlt]⟩,Pv (i+1),fun H' p'=>⟨xs.length - (i+1),by omega,rfl,hlt,p'⟩,fun x H' y=>?_⟩
  obtain ⟨e,y⟩:=y
  subst e
  exact hs i x _ (y xs q) p
 ·have e:i=xs.length:=by omega
  subst e
  exact .inl ⟨⟨xs,q,Nat.le_refl _⟩,hd H p⟩
def blkC (N:List Str) (sc scope:Scope) (own:List (Str×Nat)):Bool:=
 (match scope.kind with| .function=>true|_=>false)&&(scope.names.all fun y=>decide (scope.names.lookup y.1=some y.2))&&(own.all fun p=>decide (N[p.2]?=some p.1))&&
  (scope.names.all fun y=>match y.2 with
   | .free=>(match sc.names.lookup y.1 with|some .cell=>true|some .free=>true|_=>false)
   | .local=>decide (y.1∈own.map (·.1))||decide (y.1∉N)
   | .cell=>decide (y.1∈own.map (·.1))||decide (y.1∉N)
   |_=>true)
theorem blkOk_by {N:List Str} {sc scope:Scope} {own:List (Str×Nat)} (h:blkC N sc scope own=true):BlkOk N sc scope own:=by
 unfold blkC at h
 simp only [Bool.and_eq_true,List.all_eq_true,decide_eq_true_eq] at h
 obtain ⟨⟨⟨h1,h2⟩,h3⟩,h4⟩:=h
 refine ⟨?_,h2,h3,fun y hy e=>?_,fun y hy e=>?_⟩
 ·split at h1
  ·assumption
  ·cases h1
 ·have q:=h4 y hy
  simp only [e] at q
  split at q<;>first|exact .inl (by assumption)|exact .inr (by assumption)|cases q
 ·have q:=h4 y hy
  rcases e with e|e<;>(simp only [e,Bool.or_eq_true,decide_eq_true_eq] at q;exact q)
end L2
namespace L2
open PySem PySem.Spec PyProof.Rows
section
variable {κ:Type} [DecidableEq κ]
def valV (kvs:List (κ×V)) (k:κ):Option V:=(kvs.find? fun kv=>decide (kv.1=k)).map (·.2)
def putK (kvs:List (κ×V)) (k:κ) (v:V):List (κ×V):=
 if (kvs.any fun kv=>decide (kv.1=k))=true then kvs.map (fun kv=>if kv.1=k then (kv.1,v) else kv) else kvs++ [(k,v)]
theorem valV_pos {p:κ×V} {r:List (κ×V)} {k:κ} (e:p.1=k):valV (p::r) k=some p.2:=by simp [valV,List.find?_cons,e]
theorem valV_neg {p:κ×V} {r:List (κ×V)} {k:κ} (e:¬p.1=k):valV (p::r) k=valV r k:=by simp [valV,List.find?_cons,e]
theorem valV_any (k:κ):∀kvs:List (κ×V),(kvs.any fun kv=>decide (kv.1=k))=(valV kvs k).isSome
 | []=>rfl
 |p::r=>by
  rw [List.any_cons]
  by_cases e:p.1=k
  ·simp only [valV_pos e,decide_eq_true e,Bool.true_or,Option.isSome_some]
  ·rw [valV_neg e,decide_eq_false e,Bool.false_or];exact valV_any k r
theorem valV_map (k j:κ) (y:V):∀kvs:List (κ×V),valV (kvs.map fun kv=>if kv.1=k then (kv.1,y) else kv) j=(valV kvs j).map fun x=>if j=k then y else x
 | []=>rfl
 |p::r=>by
  have ih:=valV_map k j y r
  rw [List.map_cons]
  by_cases h:p.1=k
  ·rw [if_pos h]
   by_cases e:p.1=j
   ·rw [valV_pos (p:=(p.1,y)) e,valV_pos e,Option.map_some,if_pos (e.symm.trans h)]
   ·rw [valV_neg (p:=(p.1,y)) e,valV_neg e,ih]
  ·rw [if_neg h]
   by_cases e:p.1=j
   ·rw [valV_pos (p:=p) e,valV_pos e,Option.map_some,if_neg (fun z=>h (e.trans z))]
   ·rw [valV_neg (p:=p) e,valV_neg e,ih]
theorem valV_snoc (k j:κ) (y:V):∀kvs:List (κ×V),valV kvs k=none→valV (kvs++ [(k,y)]) j=if j=k then some y else valV kvs j
 | [],_=>by
  by_cases e:k=j
  ·rw [if_pos e.symm];exact valV_pos (p:=(k,y)) e
  ·rw [if_neg (fun z=>e z.symm)];exact valV_neg (p:=(k,y)) e
 |p::r,hn=>by
  rw [List.cons_append]
  have hk:¬p.1=k:=fun z=>by rw [valV_pos z] at hn;cases hn
  rw [valV_neg hk] at hn
  have ih:=valV_snoc k j y r hn
  by_cases e:p.1=j
  ·rw [valV_pos e,valV_pos e,if_neg (fun z=>hk (e.trans z))]
  ·rw [valV_neg e,valV_neg e,ih]
theorem valV_put (kvs:List (κ×V)) (k j:κ) (y:V):valV (putK kvs k y) j=if j=k then some y else valV kvs j:=by
 unfold putK
 by_cases a:(kvs.any fun kv=>decide (kv.1=k))=true
 ·rw [if_pos a,valV_map]
  rw [valV_any] at a
  by_cases e:j=k
  ·obtain ⟨x,hx⟩:=Option.isSome_iff_exists.mp a
   rw [if_pos e,e,hx,Option.map_some,if_pos rfl]
  ·rw [if_neg e]
   cases valV kvs j with
   |none=>rfl
   |some x=>rw [Option.map_some,if_neg e]
 ·rw [if_neg a]
  refine valV_snoc k j y kvs ?_
  rw [valV_any] at a
  cases q:valV kvs k with
  |none=>rfl
  |some x=>rw [q] at a;exact (a rfl).elim
theorem length_putK (kvs:List (κ×V)) (k:κ) (v:V):(putK kvs k v).length≤kvs.length+1:=by
 unfold putK
 split
 ·rw [List.length_map];omega
 ·rw [List.length_append,List.length_cons,List.length_nil];omega
theorem putK_new {kvs:List (κ×V)} {k:κ} (v:V) (h:valV kvs k=none):putK kvs k v=kvs++ [(k,v)]:=by
 unfold putK
 rw [valV_any,h]
 exact if_neg (by decide)
theorem RelO.isSome_eq {o:Option V} {u:Option Value} (r:RelO o u):o.isSome=u.isSome:=by
 cases o with
 |none=>cases u with
  |none=>rfl
  |some _=>exact (show False from r).elim
 |some _=>cases u with
  |none=>exact (show False from r).elim
  |some _=>rfl
theorem RelO.getD {o:Option V} {u:Option Value} {d:V} {d':Value} (r:RelO o u) (rd:RelV d d'):RelV (o.getD d) (u.getD d'):=by
 cases o with
 |none=>cases u with
  |none=>exact rd
  |some _=>exact (show False from r).elim
 |some _=>cases u with
  |none=>exact (show False from r).elim
  |some _=>exact r
theorem KV.val {kvs:List (κ×V)} {vs:List (κ×Value)} (r:KV kvs vs) (k:κ):RelO (valV kvs k) (valueAt vs k):=by
 unfold KV at r
 induction r with
 |nil=>exact True.intro
 | @cons p q ps qs h t ih=>
  obtain ⟨h1,h2⟩:=h
  by_cases e:p.1=k
  ·have e':q.1=k:=h1.symm.trans e
   have b:valueAt (q::qs) k=some q.2:=by simp [valueAt,List.find?_cons,e']
   rw [valV_pos e,b];exact h2
  ·have e':¬q.1=k:=fun z=>e (h1.trans z)
   have b:valueAt (q::qs) k=valueAt qs k:=by simp [valueAt,List.find?_cons,e']
   rw [valV_neg e,b];exact ih
theorem KV.any {kvs:List (κ×V)} {vs:List (κ×Value)} (r:KV kvs vs) (k:κ):(kvs.any fun kv=>decide (kv.1=k))=vs.any fun kv=>decide (kv.1=k):=by
 unfold KV at r
 induction r with
 |nil=>rfl
 |cons h t ih=>rw [List.any_cons,List.any_cons,ih,h.1]
theorem KV.repl {kvs:List (κ×V)} {vs:List (κ×Value)} (r:KV kvs vs) (k:κ) {y:V} {u:Value} (ry:RelV y u):
  KV (kvs.map fun kv=>if kv.1=k then (kv.1,y) else kv) (vs.map fun kv=>if kv.1=k then (kv.1,u) else kv):=by
 unfold KV at r ⊢
 induction r with
 |nil=>exact .nil
 | @cons p q ps qs h t ih=>
  rw [List.map_cons,List.map_cons]
  refine .cons ?_ ih
  obtain ⟨h1,h2⟩:=h
  by_cases e:p.1=k
  ·rw [if_pos e,if_pos (h1.symm.trans e)];exact ⟨h1,ry⟩
  ·rw [if_neg e,if_neg (fun z=>e (h1.trans z))];exact ⟨h1,h2⟩
theorem KV.put {kvs:List (κ×V)} {vs:List (κ×Value)} (r:KV kvs vs) (k:κ) {y:V} {u:Value} (ry:RelV y u):KV (putK kvs k y) (stored vs k u):=by
 unfold putK stored
 rw [r.any k]
 by_cases e:(vs.any fun kv=>decide (kv.1=k))=true
 ·rw [if_pos e,if_pos e];exact r.repl k ry
 ·rw [if_neg e,if_neg e];exact Paired.snoc r ⟨rfl,ry⟩
theorem KV.length {kvs:List (κ×V)} {vs:List (κ×Value)} (r:KV kvs vs):kvs.length=vs.length:=Paired.length r
end
theorem kV_is {P:Program} {w:World} {k:Key} {u:Value} (r:RelV (kV k) u):(mixKind P w).is k u=true:=by
 cases k with
 |inl i=>obtain ⟨t,e⟩:=(show∃t,u=Value.int i t from r);subst e;exact mixKind_int P w i t
 |inr x=>obtain ⟨t,e⟩:=(show∃t,u=Value.str x t from r);subst e;exact mixKind_str P w x t
theorem items_are {P:Program} {w:World}:∀{ks:List Key} {us:List Value},Vals (ks.map kV) us→ItemsAre (mixKind P w) ks us
 | [],_,r=>by rw [List.map_nil] at r;cases r;exact .nil
 |k::ks,_,r=>by
  rw [List.map_cons] at r
  cases r with
  |cons h t=>exact .cons (kV_is h) (items_are t)
abbrev KT (H:Hp):List (List Key×V)→List (List Key×Addr×Value)→Prop:=Paired fun p q=>p.1=q.1∧H q.2.1=some (.tup (p.1.map kV))∧RelV p.2 q.2.2
theorem KT.val {H:Hp} {kvs:List (List Key×V)} {xs:List (List Key×Addr×Value)} (r:KT H kvs xs) (k:List Key):RelO (valV kvs k) ((atKey xs k).map (·.2)):=by
 induction r with
 |nil=>exact True.intro
 | @cons p q ps qs h t ih=>
  obtain ⟨h1,_,h2⟩:=h
  by_cases e:p.1=k
  ·have e':q.1=k:=h1.symm.trans e
   have b:atKey (q::qs) k=some q.2:=by simp [atKey,List.find?_cons,e']
   rw [valV_pos e,b];exact h2
  ·have e':¬q.1=k:=fun z=>e (h1.trans z)
   have b:atKey (q::qs) k=atKey qs k:=by simp [atKey,List.find?_cons,e']
   rw [valV_neg e,b];exact ih
theorem KT.repl {H:Hp} {kvs:List (List Key×V)} {xs:List (List Key×Addr×Value)} (r:KT H kvs xs) (k:List Key) {y:V} {u:Value} (ry:RelV y u):
  KT H (kvs.map fun kv=>if kv.1=k then (kv.1,y) else kv) (xs.map (putAt k u)):=by
 induction r with
 |nil=>exact .nil
 | @cons p q ps qs h t ih=>
  rw [List.map_cons,List.map_cons]
  refine .cons ?_ ih
  obtain ⟨h1,h2,h3⟩:=h
  unfold putAt
  by_cases e:p.1=k
  ·rw [if_pos e,if_pos (h1.symm.trans e)];exact ⟨h1,h2,ry⟩
  ·rw [if_neg e,if_neg (fun z=>e (h1.trans z))];exact ⟨h1,h2,h3⟩
theorem KT.put {H:Hp} {kvs:List (List Key×V)} {xs:List (List Key×Addr×Value)} (r:KT H kvs xs) (k:List Key) {b:Addr} {y:V} {u:Value} (hb:H b=some (.tup (k.map kV))) (ry:RelV y u):
  KT H (putK kvs k y) (storedH xs k b u):=by
 have e:(kvs.any fun kv=>decide (kv.1=k))=(atKey xs k).isSome:=by
  rw [valV_any,(r.val k).isSome_eq,Option.isSome_map]
 unfold putK storedH
 rw [e]
 by_cases q:(atKey xs k).isSome=true
 ·rw [if_pos q,if_pos q];exact r.repl k ry
 ·rw [if_neg q,if_neg q];exact Paired.snoc r ⟨rfl,hb,ry⟩
theorem KT.keeps {H H':Hp} {kvs:List (List Key×V)} {xs:List (List Key×Addr×Value)} (r:KT H kvs xs) (ht:∀b ys,H b=some (.tup ys)→H' b=some (.tup ys)):KT H' kvs xs:=
 Paired.mapP r fun _ _ z=>⟨z.1,ht _ _ z.2.1,z.2.2⟩
section
variable {P:Program} {w:World} {H:Hp} {h:Heap} {a:Addr}
theorem rd_of {u:HO} (ok:HOk P w H h) (e:Rd H a u):ObjOk P w H h a u:=e.ok ok
theorem dk_rd {kvs:List (Key×V)} (ok:HOk P w H h) (e:Rd H a (.dK kvs)):kvs.length≤sizeLine∧(a==sysModules)=false∧∃vs,KV kvs vs∧h.DictOf (mixKind P w) a vs:=
 show ObjOk P w H h a (.dK kvs) from rd_of ok e
theorem dk_of {kvs:List (Key×V)} (ok:HOk P w H h) (e:H a=some (.dK kvs)):kvs.length≤sizeLine∧(a==sysModules)=false∧∃vs,KV kvs vs∧h.DictOf (mixKind P w) a vs:=dk_rd ok (.inl e)
theorem key_of {ks:List Key} (ok:HOk P w H h) (e:H a=some (.tup (ks.map kV))):(tupleKind (mixKind P w)).is h ks a:=by
 obtain ⟨_,its,r,o,h1,h2,n,h3⟩:=(show ObjOk P w H h a (.tup (ks.map kV)) from ok a _ e)
 exact ⟨o,its.toArray,n,h1,h2,h3,by simpa using items_are r⟩
theorem dt_rd {kvs:List (List Key×V)} (ok:HOk P w H h) (e:Rd H a (.dT kvs)):kvs.length≤sizeLine∧(a==sysModules)=false∧
  ∃xs,KT H kvs xs∧h.DictOfH (tupleKind (mixKind P w)) a xs:=by
 obtain ⟨z,y,xs,r,o,es,ep,h1,h2,h3,h4,h5⟩:=(show ObjOk P w H h a (.dT kvs) from rd_of ok e)
 refine ⟨z,y,xs,r,o,es,ep,h1,h2,h3,h4,fun x hx=>?_,h5⟩
 have all:∀{l:List (List Key×V)} {m:List (List Key×Addr×Value)},KT H l m→∀x∈m,(tupleKind (mixKind P w)).is h x.1 x.2.1:=by
  intro l m q
  induction q with
  |nil=>intro x hx;exact nomatch hx
  | @cons p q ps qs hq t ih=>
   intro x hx
   rcases List.mem_cons.mp hx with e|hx
   ·subst e
    exact key_of ok (by rw [←hq.1];exact hq.2.1)
   ·exact ih x hx
 exact all r x hx
theorem dt_of {kvs:List (List Key×V)} (ok:HOk P w H h) (e:H a=some (.dT kvs)):kvs.length≤sizeLine∧(a==sysModules)=false∧
  ∃xs,KT H kvs xs∧h.DictOfH (tupleKind (mixKind P w)) a xs:=dt_rd ok (.inl e)
end
def DGet (H:Hp) (a:Addr) (y:V) (r:Option V):Prop:=
 (∃kvs k,Rd H a (.dK kvs)∧y=kV k∧r=valV kvs k)∨∃kvs k b,Rd H a (.dT kvs)∧y=.ref b∧H b=some (.tup (k.map kV))∧r=valV kvs k
def DPut (H:Hp) (a:Addr) (y v:V) (H':Hp):Prop:=
 (∃kvs k,H a=some (.dK kvs)∧y=kV k∧kvs.length<sizeLine∧H'=upd H a (.dK (putK kvs k v)))∨
 ∃kvs k b,H a=some (.dT kvs)∧y=.ref b∧H b=some (.tup (k.map kV))∧kvs.length<sizeLine∧H'=upd H a (.dT (putK kvs k v))
theorem DGet.t {H:Hp} {a b:Addr} {kvs:List (List Key×V)} {k:List Key} (e:H a=some (.dT kvs)) (eb:H b=some (.tup (k.map kV))):DGet H a (.ref b) (valV kvs k):=.inr ⟨kvs,k,b,.inl e,rfl,eb,rfl⟩
theorem DPut.t {H:Hp} {a b:Addr} {kvs:List (List Key×V)} {k:List Key} {v:V} (e:H a=some (.dT kvs)) (eb:H b=some (.tup (k.map kV))) (hl:kvs.length<sizeLine):
  DPut H a (.ref b) v (upd H a (.dT (putK kvs k v))):=.inr ⟨kvs,k,b,e,rfl,eb,hl,rfl⟩
section
variable {X:Cx} {pins:List (Addr×Obj)} {σ:St} {H:Hp} {s:Shared} {a:Addr} {y v:V} {u r:Value} {o:Option V} {A:Around} {E:Value→Shared→Prop}
theorem Inv.big (I:Inv X pins σ H s):sysModules<s.heap.objs.size:=by
 have h:mainGlobals<s.heap.objs.size:=(I.mod.glob.keeps I.bk).lt
 exact Nat.lt_trans (by decide) h
theorem d_getItem {Q:Value→Shared→Prop} (hu:A.units+1<cLine) (I:Inv X pins σ H s) (g:DGet H a y (some v)) (ry:RelV y u) (h:∀w' s',Inv X pins σ H s'→RelV v w'→Q w' s'):
  wpAny (model X.prog X.w) A (getItem (.ref a) u) Q E s:=by
 rcases g with ⟨kvs,k,e,ey,l⟩|⟨kvs,k,b,e,ey,eb,l⟩
 ·subst ey
  obtain ⟨z,hd,vs,rel,dd⟩:=dk_rd I.hok e
  obtain ⟨w',hw,rw'⟩:=RelO.some_of (v:=v) (o:=valueAt vs k) (by rw [l];exact rel.val k)
  exact wpAny_getItem_of (kV_is ry) dd.mapOf hw (h w' _ (I.tok _) rw')
 ·subst ey
  cases (show u=Value.ref b from ry)
  obtain ⟨z,hd,xs,rel,dd⟩:=dt_rd I.hok e
  obtain ⟨w',hw,rw'⟩:=RelO.some_of (v:=v) (o:=(atKey xs k).map (·.2)) (by rw [l];exact rel.val k)
  obtain ⟨p,hp,hp2⟩:=Option.map_eq_some_iff.mp hw
  refine wpAny_getItem_heap (tupleKind_room_in1 hu) (key_of I.hok eb) dd hp ?_
  rw [hp2]
  exact h w' _ (I.tok _) rw'
theorem d_in {Q:Value→Shared→Prop} (hu:A.units+1<cLine) (I:Inv X pins σ H s) (g:DGet H a y o) (ry:RelV y u) (h:∀s',Inv X pins σ H s'→Q (.bool o.isSome) s'):
  wpAny (model X.prog X.w) A (compareOp .In u (.ref a)) Q E s:=by
 rcases g with ⟨kvs,k,e,ey,l⟩|⟨kvs,k,b,e,ey,eb,l⟩
 ·subst ey
  obtain ⟨z,hd,vs,rel,dd⟩:=dk_rd I.hok e
  refine wpAny_in_of (kV_is ry) hd dd.mapOf ?_
  rw [←(rel.val k).isSome_eq,←l]
  exact h _ (I.tok _)
 ·subst ey
  cases (show u=Value.ref b from ry)
  obtain ⟨z,hd,xs,rel,dd⟩:=dt_rd I.hok e
  refine wpAny_in_heap (tupleKind_room_in1 hu) (key_of I.hok eb) hd dd ?_
  have q:=(rel.val k).isSome_eq
  rw [Option.isSome_map] at q
  rw [←q,←l]
  exact h _ (I.tok _)
theorem d_notIn {Q:Value→Shared→Prop} (hu:A.units+1<cLine) (I:Inv X pins σ H s) (g:DGet H a y o) (ry:RelV y u) (h:∀s',Inv X pins σ H s'→Q (.bool (!o.isSome)) s'):
  wpAny (model X.prog X.w) A (compareOp .NotIn u (.ref a)) Q E s:=by
 rcases g with ⟨kvs,k,e,ey,l⟩|⟨kvs,k,b,e,ey,eb,l⟩
 ·subst ey
  obtain ⟨z,hd,vs,rel,dd⟩:=dk_rd I.hok e
  refine wpAny_notIn_of (kV_is ry) hd dd.mapOf ?_
  rw [←(rel.val k).isSome_eq,←l]
  exact h _ (I.tok _)
 ·subst ey
  cases (show u=Value.ref b from ry)
  obtain ⟨z,hd,xs,rel,dd⟩:=dt_rd I.hok e
  refine wpAny_notIn_heap (tupleKind_room_in1 hu) (key_of I.hok eb) hd dd ?_
  have q:=(rel.val k).isSome_eq
  rw [Option.isSome_map] at q
  rw [←q,←l]
  exact h _ (I.tok _)
theorem d_write {h':Heap} {t':Nat} {ob:HO} (I:Inv X pins σ H s) (mu:Mut (H a)) (hs:Heap.SameBut a s.heap h') (he:∃q,h'.get? a=some q) (new:ObjOk X.prog X.w (upd H a ob) h' a ob):
  Inv X pins σ (upd H a ob) {s with heap:=h',toks:=t'}:=
 I.write (x:=a) (e:=a) mu (.inl rfl) (fun b q hb z=>(hs.2 b hb).trans z) he new
theorem dk_new {P:Program} {w:World} {H':Hp} {h':Heap} {kvs:List (Key×V)} {vs:List (Key×Value)} (z:kvs.length≤sizeLine) (hd:(a==sysModules)=false) (rel:KV kvs vs) (dd:h'.DictOf (mixKind P w) a vs):
  ObjOk P w H' h' a (.dK kvs):=⟨z,hd,vs,rel,dd⟩
theorem d_setItem {H':Hp} {Q:Unit→Shared→Prop} (hu:A.units+1<cLine) (I:Inv X pins σ H s) (g:DPut H a y v H') (ry:RelV y u) (rv:RelV v r) (h:∀s',Inv X pins σ H' s'→Q () s'):
  wpAny (model X.prog X.w) A (setItem (.ref a) u r) Q E s:=by
 rcases g with ⟨kvs,k,e,ey,l,eH⟩|⟨kvs,k,b,e,ey,eb,l,eH⟩
 ·subst ey eH
  obtain ⟨z,hd,vs,rel,dd⟩:=dk_of I.hok e
  have hz:vs.length≤sizeLine:=by rw [←rel.length];exact z
  have hl:(putK kvs k v).length≤sizeLine:=by have:=length_putK kvs k v;omega
  refine wpAny_setItem_pairs (hsz:=hz) (kV_is ry) dd fun h' dd' hs=>h _ ?_
  have he:∃q,h'.get? a=some q:=let ⟨q,_,_,hq,_⟩:=dd';⟨q,hq⟩
  exact d_write I (by rw [e];exact True.intro) hs he (dk_new hl hd (rel.put k rv) dd')
 ·subst ey eH
  cases (show u=Value.ref b from ry)
  obtain ⟨z,hd,xs,rel,dd⟩:=dt_of I.hok e
  have hz:xs.length≤sizeLine:=by rw [←Paired.length rel];exact z
  have hl:(putK kvs k v).length≤sizeLine:=by have:=length_putK kvs k v;omega
  refine wpAny_setItem_heap (hsz:=hz) (tupleKind_room_in1 hu) (key_of I.hok eb) dd fun h' dd' hs=>h _ ?_
  obtain ⟨q,es,ep,hq,h2,h3,h4,_,h5⟩:=dd'
  refine d_write I (by rw [e];exact True.intro) hs ⟨q,hq⟩ ⟨hl,hd,_,(rel.put k eb rv).keeps fun c ys ec=>?_,q,es,ep,hq,h2,h3,h4,h5⟩
  rw [upd_ne (ne_of ec e (fun z=>nomatch z))]
  exact ec
end
def NoSl (i:Expr):Prop:=∀ov iv,subscripted i false ov iv=operate [ov,iv] (getItem ov iv)
theorem subD_of {prog:Program} {w:World} {A:Around} {E:Value→Shared→Prop} {s:Shared} {env:Env} {value slice:Expr} {pos:Pos} {T id:String} {Q:Value→Shared→Prop}
  (hl:typeLookup (.type T) "__getitem__"=pure (some (.builtin id))) (hs:NoSl slice)
  (h:wpAny (model prog w) A (eval value env) (fun o s₁=>wpAny (model prog w) A (eval slice env) (fun i s₂=>s₂.TypeIs o T∧wpAny (model prog w) A (getItem o i) Q E s₂) E s₁) E s):
  wpAny (model prog w) A (eval (.Subscript value slice pos) env) Q E s:=by
 refine Subscript_ (wpAny_mono h (fun o s₁ h₁=>wpAny_mono h₁ (fun i s₂ h₂=>?_) fun _ _ x=>x) fun _ _ x=>x)
 obtain ⟨hT,h₂⟩:=h₂
 unfold subscriptTail
 refine wpAny_bind ?_
 rw [getitemInPython_of_ne hT.not_modules]
 refine wpAny_bind (wpAny_specialOf hT hl ?_)
 have fin:wpAny (model prog w) A (subscripted slice false o i) (fun r s₃=>wpAny (model prog w) A (letTemporaryGo value o r >>= fun _=>pure r) Q E s₃) E s₂:=by
  rw [hs o i]
  exact wpAny_operating (wpAny_mono h₂ (fun r s₃ h₃=>wpAny_bind (wpAny_letTemporaryGo (wpAny_pure h₃))) fun _ _ x=>x)
 first
  |exact wpAny_pure (wpAny_bind fin)
  |exact wpAny_bind (wpAny_pure (wpAny_bind fin))
  |exact wpAny_bind fin
theorem dict_typeIs {X:Cx} {pins:List (Addr×Obj)} {σ:St} {H:Hp} {s:Shared} {a:Addr} {y:V} {o:Option V} (I:Inv X pins σ H s) (g:DGet H a y o):s.TypeIs (.ref a) "dict":=by
 rcases g with ⟨kvs,k,e,_,_⟩|⟨kvs,k,b,e,_,_,_⟩
 ·obtain ⟨_,_,vs,_,dd⟩:=dk_rd I.hok e
  exact dd.typeIs
 ·obtain ⟨_,_,xs,_,dd⟩:=dt_rd I.hok e
  exact dd.typeIs
def tDGet (td ty:TE):TE:=fun σ H Q=>td σ H fun x H1=>ty σ H1 fun y H2=>∃a v,x=.ref a∧DGet H2 a y (some v)∧Q v H2
def tDIn (ty td:TE):TE:=fun σ H Q=>ty σ H fun y H1=>td σ H1 fun x H2=>∃a o,x=.ref a∧DGet H2 a y o∧Q (.bl o.isSome) H2
def tDNotIn (ty td:TE):TE:=fun σ H Q=>ty σ H fun y H1=>td σ H1 fun x H2=>∃a o,x=.ref a∧DGet H2 a y o∧Q (.bl (!o.isSome)) H2
def sDPut (td ty tv:TE):TS:=fun D σ H=>tv σ H fun v H1=>td σ H1 fun x H2=>ty σ H2 fun y H3=>∃a H4,x=.ref a∧DPut H3 a y v H4∧D.nx σ H4
section
variable {X:Cx} {o i e value:Expr} {pos pos' tpos:Pos} {td ty tv:TE}
theorem pe_dget (hu:X.A.units+1<cLine) (ho:PE X o td) (hi:PE X i ty) (hs:NoSl i):PE X (.Subscript o i pos) (tDGet td ty):=by
 intro pins s σ H Q I h
 refine subD_of PySem.F.slot_dict_getitem.lookup hs (thn (ho pins s σ H _ I h) fun u s1 ⟨x,H1,I1,rx,q1⟩=>thn (hi pins s1 σ H1 _ I1 q1) fun iv s2 ⟨y,H2,I2,ry,a,v,ex,g,q2⟩=>?_)
 subst ex
 obtain rfl:u=Value.ref a:=rx
 exact ⟨dict_typeIs I2 g,d_getItem hu I2 g ry fun w' s3 I3 rw'=>⟨v,H2,I3,rw',q2⟩⟩
theorem pc_din (hu:X.A.units+1<cLine) (hi:PE X i ty) (ho:PE X o td):PC X .In i o (tDIn ty td):=by
 intro pins s σ H Q I h
 refine thn (hi pins s σ H _ I h) fun iv s1 ⟨y,H1,I1,ry,q1⟩=>thn (ho pins s1 σ H1 _ I1 q1) fun u s2 ⟨x,H2,I2,rx,a,ov,ex,g,q2⟩=>?_
 subst ex
 obtain rfl:u=Value.ref a:=rx
 exact d_in hu I2 g ry fun s3 I3=>⟨.bl ov.isSome,H2,I3,rfl,q2⟩
theorem pc_dnotin (hu:X.A.units+1<cLine) (hi:PE X i ty) (ho:PE X o td):PC X .NotIn i o (tDNotIn ty td):=by
 intro pins s σ H Q I h
 refine thn (hi pins s σ H _ I h) fun iv s1 ⟨y,H1,I1,ry,q1⟩=>thn (ho pins s1 σ H1 _ I1 q1) fun u s2 ⟨x,H2,I2,rx,a,ov,ex,g,q2⟩=>?_
 subst ex
 obtain rfl:u=Value.ref a:=rx
 exact d_notIn hu I2 g ry fun s3 I3=>⟨.bl (!ov.isSome),H2,I3,rfl,q2⟩
theorem ps_dput (hu:X.A.units+1<cLine) (ho:PE X o td) (hi:PE X i ty) (hv:PE X value tv) (hs:swapsWith value (some (.Subscript o i pos')) pos.line X.env=pure false):
  PS X (.Assign [.Subscript o i pos'] value pos) (sDPut td ty tv):=by
 intro pins s σ H D I h
 refine wpAny_Assign_Subscript (thn (hv pins s σ H _ I h) fun r s1 ⟨v,H1,I1,rv,q1⟩=>thn (ho pins s1 σ H1 _ I1 q1) fun u s2 ⟨x,H2,I2,rx,q2⟩=>thn (hi pins s2 σ H2 _ I2 q2) fun iv s3 ⟨y,H3,I3,ry,a,H4,ex,g,q3⟩=>?_) hs
 subst ex
 obtain rfl:u=Value.ref a:=rx
 exact d_setItem hu I3 g ry rv fun s4 I4=>⟨σ,H4,I4,q3⟩
end
theorem dt_empty {P:Program} {w:World} {H:Hp} (h:Heap) (hb:sysModules<h.objs.size):ObjOk P w H (h.push {cls:=.type "dict",data:=.dict #[]}) h.objs.size (.dT []):=
 ⟨Nat.zero_le _,beq_eq_false_iff_ne.mpr (Ne.symm (Nat.ne_of_lt hb)),[],.nil,_, #[],0,Heap.get?_push_size _ rfl,⟨rfl,rfl,rfl⟩,rfl,rfl,List.nodup_nil⟩
def tDNewT:TE:=fun _ H Q=>∀p,H p=none→Q (.ref p) (upd H p (.dT []))
section
variable {X:Cx} {pos:Pos}
theorem pe_dnewT:PE X (.Dict [] [] pos) tDNewT:=fun pins s σ H Q I h=>
 wpAny_Dict_empty ⟨.ref s.heap.objs.size,_,I.laid (a:=s.heap.objs.size) (o:=.dT []) (t':=s.toks) (fun _ _ q=>Heap.get?_push_of_some _ q) (Nat.le_refl _) (dt_empty s.heap I.big),rfl,h _ (I.hok.fresh (Nat.le_refl _))⟩
end
structure M1 (X:Cx) (o:Expr) (m:Str) (apos:Pos) (e:Expr) (cpos:Pos):Prop where
 base:attributeBase o m X.env (eval o X.env)=eval o X.env
 few:((backTo cpos (starEach [e] X.env)).all (fun x=> !x.1)&&(backToKw cpos (keywordEach [] X.env)).all (fun x=>x.1.isSome)
  &&decide (([e]:List Expr).length+([]:List Keyword).length+(if ([]:List Keyword).isEmpty then 0 else 1)<30))=true
 line:(apos.endLine==cpos.line)=true
 trees:backTo cpos (starEach [e] X.env)= [(false,eval e X.env)]
structure M2 (X:Cx) (o:Expr) (m:Str) (apos:Pos) (e f:Expr) (cpos:Pos):Prop where
 base:attributeBase o m X.env (eval o X.env)=eval o X.env
 few:((backTo cpos (starEach [e,f] X.env)).all (fun x=> !x.1)&&(backToKw cpos (keywordEach [] X.env)).all (fun x=>x.1.isSome)
  &&decide (([e,f]:List Expr).length+([]:List Keyword).length+(if ([]:List Keyword).isEmpty then 0 else 1)<30))=true
 line:(apos.endLine==cpos.line)=true
 trees:backTo cpos (starEach [e,f] X.env)= [(false,eval e X.env),(false,eval f X.env)]
def IsD (H:Hp) (a:Addr):Prop:=(∃kvs,Rd H a (.dK kvs))∨∃kvs,Rd H a (.dT kvs)
theorem isD_at {X:Cx} {pins:List (Addr×Obj)} {σ:St} {H:Hp} {s:Shared} {a:Addr} (I:Inv X pins σ H s) (d:IsD H a):
  s.TypeIs (.ref a) "dict"∧(∀b,Value.ref a=.ref b→∃ob,s.heap.get? b=some ob∧ob.dict=none)∧(a==sysModules)=false:=by
 rcases d with ⟨kvs,e⟩|⟨kvs,e⟩
 ·obtain ⟨_,hd,vs,_,dd⟩:=dk_rd I.hok e
  refine ⟨dd.typeIs,fun b q=>?_,hd⟩
  cases q
  obtain ⟨ob,_,_,h1,h2,_⟩:=dd
  exact ⟨ob,h1,h2.2.1⟩
 ·obtain ⟨_,hd,xs,_,dd⟩:=dt_rd I.hok e
  refine ⟨dd.typeIs,fun b q=>?_,hd⟩
  cases q
  obtain ⟨ob,_,_,h1,h2,_⟩:=dd
  exact ⟨ob,h1,h2.2.1⟩
section
variable {X:Cx} {pins:List (Addr×Obj)} {σ:St} {H:Hp} {s:Shared} {a:Addr} {y d:V} {u r:Value} {o:Option V} {A:Around} {E:Value→Shared→Prop}
theorem d_get1 {Q:Value→Shared→Prop} (hu:A.units+1<cLine) (I:Inv X pins σ H s) (g:DGet H a y o) (ry:RelV y u) (h:∀w' s',Inv X pins σ H s'→RelV (o.getD .non) w'→Q w' s'):
  wpAny (model X.prog X.w) A (call (.builtin "dict.get") [.ref a,u]) Q E s:=by
 rcases g with ⟨kvs,k,e,ey,l⟩|⟨kvs,k,b,e,ey,eb,l⟩
 ·subst ey
  obtain ⟨z,hd,vs,rel,dd⟩:=dk_rd I.hok e
  refine call_meetsIn PySem.F.slot_dict_get dd.typeIs PySem.F.entry_dict_get (PySem.F.args_dict_get_2 _ _) (meets_dict_get (mixKind X.prog X.w) a (kV_is ry) hd) ⟨_,dd.mapOf,h _ _ (I.tok _) ?_⟩
  rw [l]
  exact (rel.val k).getD rfl
 ·subst ey
  cases (show u=Value.ref b from ry)
  obtain ⟨z,hd,xs,rel,dd⟩:=dt_rd I.hok e
  refine call_meetsIn PySem.F.slot_dict_get dd.typeIs PySem.F.entry_dict_get (PySem.F.args_dict_get_2 _ _) (meetsH_dict_get (tupleKind (mixKind X.prog X.w)) a b hd) ⟨tupleKind_room_in1 hu,k,xs,key_of I.hok eb,dd,h _ _ (I.tok _) ?_⟩
  rw [l]
  exact (rel.val k).getD rfl
theorem d_get2 {Q:Value→Shared→Prop} (hu:A.units+1<cLine) (I:Inv X pins σ H s) (g:DGet H a y o) (ry:RelV y u) (rd:RelV d r) (h:∀w' s',Inv X pins σ H s'→RelV (o.getD d) w'→Q w' s'):
  wpAny (model X.prog X.w) A (call (.builtin "dict.get") [.ref a,u,r]) Q E s:=by
 rcases g with ⟨kvs,k,e,ey,l⟩|⟨kvs,k,b,e,ey,eb,l⟩
 ·subst ey
  obtain ⟨z,hd,vs,rel,dd⟩:=dk_rd I.hok e
  refine call_meetsIn PySem.F.slot_dict_get dd.typeIs PySem.F.entry_dict_get (PySem.F.args_dict_get_3 _ _ _) (meets_dict_get_default (mixKind X.prog X.w) a (kV_is ry) hd r) ⟨_,dd.mapOf,h _ _ (I.tok _) ?_⟩
  rw [l]
  exact (rel.val k).getD rd
 ·subst ey
  cases (show u=Value.ref b from ry)
  obtain ⟨z,hd,xs,rel,dd⟩:=dt_rd I.hok e
  refine call_meetsIn PySem.F.slot_dict_get dd.typeIs PySem.F.entry_dict_get (PySem.F.args_dict_get_3 _ _ _) (meetsH_dict_get_default (tupleKind (mixKind X.prog X.w)) a b hd r) ⟨tupleKind_room_in1 hu,k,xs,key_of I.hok eb,dd,h _ _ (I.tok _) ?_⟩
  rw [l]
  exact (rel.val k).getD rd
end
def tDGet1 (td ty:TE):TE:=fun σ H Q=>td σ H fun x H1=>∃a,x=.ref a∧IsD H1 a∧ty σ H1 fun y H2=>∃o,DGet H2 a y o∧Q (o.getD .non) H2
def tDGet2 (td ty tx:TE):TE:=fun σ H Q=>td σ H fun x H1=>∃a,x=.ref a∧IsD H1 a∧ty σ H1 fun y H2=>tx σ H2 fun z H3=>∃o,DGet H3 a y o∧Q (o.getD z) H3
section
variable {X:Cx} {o e f:Expr} {apos cpos:Pos} {td ty tx:TE}
theorem pe_dget1 (hu:X.A.units+1<cLine) (ho:PE X o td) (he:PE X e ty) (m:M1 X o "get" apos e cpos):PE X (.Call (.Attribute o "get" apos) [e] [] cpos) (tDGet1 td ty):=by
 intro pins s σ H Q I h
 refine wpAny_Call_method m.base m.few m.line PySem.F.plainAttrs_dict PySem.F.slot_dict_get PySem.F.type_dict_get (thn (ho pins s σ H _ I h) fun u s1 ⟨x,H1,I1,rx,a,ex,d,q1⟩=>?_)
 subst ex
 obtain rfl:u=Value.ref a:=rx
 obtain ⟨t1,t2,_⟩:=isD_at I1 d
 refine ⟨t1,t2,?_⟩
 rw [m.trees]
 refine Calls.callWith_builtin rfl (Calls.evalArgs_plain (Calls.spliced_cons (thn (he pins s1 σ H1 _ I1 q1) fun iv s2 ⟨y,H2,I2,ry,ov,g,q2⟩=>Calls.spliced_nil ?_)))
 exact d_get1 hu I2 g ry fun w' s3 I3 rw'=>⟨_,H2,I3,rw',q2⟩
theorem pe_dget2 (hu:X.A.units+1<cLine) (ho:PE X o td) (he:PE X e ty) (hf:PE X f tx) (m:M2 X o "get" apos e f cpos):PE X (.Call (.Attribute o "get" apos) [e,f] [] cpos) (tDGet2 td ty tx):=by
 intro pins s σ H Q I h
 refine wpAny_Call_method m.base m.few m.line PySem.F.plainAttrs_dict PySem.F.slot_dict_get PySem.F.type_dict_get (thn (ho pins s σ H _ I h) fun u s1 ⟨x,H1,I1,rx,a,ex,d,q1⟩=>?_)
 subst ex
 obtain rfl:u=Value.ref a:=rx
 obtain ⟨t1,t2,_⟩:=isD_at I1 d
 refine ⟨t1,t2,?_⟩
 rw [m.trees]
 refine Calls.callWith_builtin rfl (Calls.evalArgs_plain (Calls.spliced_cons (thn (he pins s1 σ H1 _ I1 q1) fun iv s2 ⟨y,H2,I2,ry,q2⟩=>
  Calls.spliced_cons (thn (hf pins s2 σ H2 _ I2 q2) fun fv s3 ⟨z,H3,I3,rz,ov,g,q3⟩=>Calls.spliced_nil ?_))))
 exact d_get2 hu I3 g ry rz fun w' s4 I4 rw'=>⟨_,H3,I4,rw',q3⟩
end
end L2
namespace L2
open PySem PySem.Spec PyProof.Rows
theorem boot_reversed5:bootBuiltins "reversed"=some (.type "reversed"):=by decide+kernel
section
variable {X:Cx} {pins:List (Addr×Obj)} {σ:St} {H:Hp} {s:Shared} {h':Heap}
theorem Inv.turnedL {t':Nat} {ch:List Addr} (I:Inv X pins σ H s) (k:∀b o,b∉ch→s.heap.get? b=some o→h'.get? b=some o) (hf:∀b∈ch,FpOk X pins H b):Inv X pins σ H {s with heap:=h',toks:=t'}:=by
 have nit:∀b u,H b=some u→b∉ch:=fun b u e z=>by
  have q:=(hf b z).1
  rw [q] at e;cases e
 refine I.step (g':=s.gens) (d':=s.drawn) (ch:=ch) (fun b hb=>⟨(hf b hb).2.2.2.1,(hf b hb).2.1,(hf b hb).2.2.2.2.1,(hf b hb).2.2.2.2.2⟩) (fun b o _ _ hc e _=>k b o hc e) (fun b o _ _ hc e _=>⟨o.slots,k b o hc e⟩)
  (fun _ _ _ _ n=>n) (fun b o hc e=>⟨o,k b o hc e⟩) (fun _ _ e=>e) (fun _ _ _ e=>e) (fun b ps e=>⟨#[],by rw [e];simp⟩) (fun m hm=>?_) (fun b u e=>?_) I.bare
 ·obtain ⟨o,es,ep,ho,r⟩:=hm
  exact ⟨o,es,ep,k _ o (fun z=>(hf _ z).2.1 rfl) ho,r⟩
 ·refine (I.hok b u e).stay (fun c v hc q=>k c v ?_ q) (fun _ q=>q) fun _ _ q=>q
  rcases hc with z|z
  ·rw [z];exact nit b u e
  ·exact nit c _ z
theorem Inv.turnedNew {t':Nat} {ch:List Addr} {T:Addr} {ob:HO} (I:Inv X pins σ H s) (k:∀b o,b∉ch→s.heap.get? b=some o→h'.get? b=some o) (hf:∀b∈ch,FpOk X pins H b) (hT:s.heap.objs.size≤T)
  (new:ObjOk X.prog X.w (upd H T ob) h' T ob):Inv X pins σ (upd H T ob) {s with heap:=h',toks:=t'}:=by
 have hn:H T=none:=I.hok.fresh hT
 have nit:∀b u,H b=some u→b∉ch:=fun b u e z=>by
  have q:=(hf b z).1
  rw [q] at e;cases e
 refine I.step (g':=s.gens) (d':=s.drawn) (ch:=ch) (fun b hb=>⟨(hf b hb).2.2.2.1,(hf b hb).2.1,(hf b hb).2.2.2.2.1,(hf b hb).2.2.2.2.2⟩) (fun b o _ _ hc e _=>k b o hc e) (fun b o _ _ hc e _=>⟨o.slots,k b o hc e⟩)
  (fun b o _ e n=>?_) (fun b o hc e=>⟨o,k b o hc e⟩) (fun b xs e=>?_) (fun b o u e=>?_) (fun b ps e=>⟨#[],?_⟩) (fun m hm=>?_) (fun b u e=>?_) I.bare
 ·rw [upd_ne (Nat.ne_of_lt (Nat.lt_of_lt_of_le (Heap.lt_size e) hT))];exact n
 ·rw [upd_ne (ne_of_none e hn)];exact e
 ·rw [upd_ne (ne_of_none e hn)];exact e
 ·rw [upd_ne (ne_of_none e hn),e];simp
 ·obtain ⟨o,es,ep,ho,r⟩:=hm
  exact ⟨o,es,ep,k _ o (fun z=>(hf _ z).2.1 rfl) ho,r⟩
 ·by_cases hb:b=T
  ·subst hb
   rw [upd_same] at e
   cases e
   exact new
  ·rw [upd_ne hb] at e
   refine (I.hok b u e).stay (fun c v hc q=>k c v ?_ q) (fun c q=>by rw [upd_ne (ne_of_none q hn)];exact q) fun c xs q=>by rw [upd_ne (ne_of_none q hn)];exact q
   rcases hc with z|z
   ·rw [z];exact nit b u e
   ·exact nit c _ z
theorem Inv.lock {d:Addr} {u:HO} (I:Inv X pins σ H s) (h:H d=some u) (mu:Mut (some u)):∃od,Inv X pins σ (upd H d (.frz od u)) s:=by
 have x:=I.hok d u h
 have ex:∃od,s.heap.get? d=some od:=by
  cases u with
  |lst xs=>obtain ⟨_,_,_,_,e⟩:=x;exact ⟨_,e⟩
  |dK kvs=>obtain ⟨_,_,_,_,o,_,_,e,_⟩:=x;exact ⟨o,e⟩
  |dT kvs=>obtain ⟨_,_,_,_,o,_,_,e,_⟩:=x;exact ⟨o,e⟩
  |set S n=>obtain ⟨o,_,_,_,e,_⟩:=x;exact ⟨o,e⟩
  |ins C dx fs=>obtain ⟨_,_,_,e,_⟩:=x;exact ⟨_,e⟩
  |ext φ=>obtain ⟨_,⟨_,e⟩,_⟩:=x;exact ⟨_,e⟩
  |_=>exact False.elim mu
 obtain ⟨od,e⟩:=ex
 have new:ObjOk X.prog X.w (upd H d (.frz od u)) s.heap d (.frz od u):=by
  refine ⟨e,x.stay (fun b v _ q=>q) (fun b q=>?_) fun b xs q=>?_⟩
  ·rw [upd_ne (fun z=>by rw [z,h] at q;cases q;exact mu)];exact q
  ·rw [upd_ne (fun z=>by rw [z,h] at q;cases q;exact mu)];exact q
 exact ⟨od,I.write (x:=d) (e:=d) (t':=s.toks) (h':=s.heap) (by rw [h];exact mu) (.inl rfl) (fun b v _ q=>q) ⟨od,e⟩ new⟩
theorem Inv.nofrz {d:Addr} {u:HO} (I:Inv X pins σ H s) (h:H d=some u) (mu:Mut (some u)):∀o' u',X.H_0 d≠some (.frz o' u'):=fun o' u' e=>by
 have q:=I.base.frzs d o' u' e
 rw [h] at q
 cases q
 exact mu
theorem Inv.unlock {d:Addr} {od:Obj} {u:HO} (I:Inv X pins σ H s) (h:H d=some (.frz od u)) (hn:∀o' u',X.H_0 d≠some (.frz o' u')):Inv X pins σ (upd H d u) s:=by
 have neH:∀b o,H b=some o→(∀o' u',o≠.frz o' u')→b≠d:=fun b o e hne z=>by
  rw [z,h] at e
  cases e
  exact hne _ _ rfl
 have neN:∀b,H b=none→b≠d:=fun b e z=>by rw [z,h] at e;cases e
 refine ⟨I.ok,I.os,I.bare,⟨I.base.keep,I.base.slot,fun b o e n hx=>?_,I.base.there,fun b xs e=>?_,fun b o x e=>?_,fun b ps e=>?_⟩,I.loc,I.cell,?_,fun x c e=>?_,fun p hp=>?_,fun b o e=>?_,I.len⟩
 ·rw [upd_ne (neN b (I.base.free b o e n hx))];exact I.base.free b o e n hx
 ·have q:=I.base.tups b xs e
  rw [upd_ne (neH b _ q (fun _ _ z=>nomatch z))];exact q
 ·have q:=I.base.frzs b o x e
  rw [upd_ne (fun z=>by rw [z] at e;exact hn _ _ e)];exact q
 ·obtain ⟨m,q⟩:=I.base.tbls b ps e
  exact ⟨m,by rw [upd_ne (neH b _ q (fun _ _ z=>nomatch z))];exact q⟩
 ·rw [upd_ne (neN _ I.free)];exact I.free
 ·rw [upd_ne (neN c (I.freeC x c e))];exact I.freeC x c e
 ·obtain ⟨e,n,r⟩:=I.pin p hp
  exact ⟨e,by rw [upd_ne (neN _ n)];exact n,r⟩
 ·by_cases hb:b=d
  ·rw [hb,upd_same] at e
   cases e
   rw [hb]
   obtain ⟨_,x⟩:=I.hok d _ h
   exact x.stay (fun c v _ q=>q) (fun c q=>by rw [upd_ne (neH c _ q (fun _ _ z=>nomatch z))];exact q) fun c xs q=>by rw [upd_ne (neH c _ q (fun _ _ z=>nomatch z))];exact q
  ·rw [upd_ne hb] at e
   exact (I.hok b o e).stay (fun c v _ q=>q) (fun c q=>by rw [upd_ne (neH c _ q (fun _ _ z=>nomatch z))];exact q) fun c xs q=>by rw [upd_ne (neH c _ q (fun _ _ z=>nomatch z))];exact q
end
def tLock (t:TS):TS:=fun D σ H=>∃d u,H d=some u∧Mut (some u)∧∀od,t ⟨fun σ' H'=>H' d=some (.frz od u)∧D.nx σ' (upd H' d u),fun v H'=>H' d=some (.frz od u)∧D.rt v (upd H' d u),fun σ' H'=>H' d=some (.frz od u)∧D.bk σ' (upd H' d u),fun σ' H'=>H' d=some (.frz od u)∧D.ct σ' (upd H' d u)⟩ σ (upd H d (.frz od u))
def tLockE (t:TE):TE:=fun σ H Q=>∃d u,H d=some u∧Mut (some u)∧∀od,t σ (upd H d (.frz od u)) fun v H'=>H' d=some (.frz od u)∧Q v (upd H' d u)
section
variable {X:Cx}
theorem ps_lock {st:Stmt} {t:TS} (h:PS X st t):PS X st (tLock t):=by
 intro pins s σ H D I hw
 obtain ⟨d,u,hd,mu,hw⟩:=hw
 obtain ⟨od,I1⟩:=I.lock hd mu
 refine thn (h pins s σ _ _ I1 (hw od)) fun f s1 q=>?_
 cases f with
 |next=>obtain ⟨σ',H',I2,e,q⟩:=q;exact ⟨σ',_,I2.unlock e (I.nofrz hd mu),q⟩
 |brk=>obtain ⟨σ',H',I2,e,q⟩:=q;exact ⟨σ',_,I2.unlock e (I.nofrz hd mu),q⟩
 |cont=>obtain ⟨σ',H',I2,e,q⟩:=q;exact ⟨σ',_,I2.unlock e (I.nofrz hd mu),q⟩
 |ret v=>obtain ⟨x,σ',H',I2,r,e,q⟩:=q;exact ⟨x,σ',_,I2.unlock e (I.nofrz hd mu),r,q⟩
theorem pe_lock {e:Expr} {t:TE} (h:PE X e t):PE X e (tLockE t):=by
 intro pins s σ H Q I hw
 obtain ⟨d,u,hd,mu,hw⟩:=hw
 obtain ⟨od,I1⟩:=I.lock hd mu
 refine thn (h pins s σ _ _ I1 (hw od)) fun v s1 ⟨x,H1,I2,r,e2,q⟩=>?_
 exact ⟨x,_,I2.unlock e2 (I.nofrz hd mu),r,q⟩
theorem pi_one {tg:Expr} {pins:List (Addr×Obj)} {σ:St} {H:Hp} {s:Shared} {R:It→Hp→Prop} {J:It} {tn:Nat→Heap→Prop} {tk:Nat} (I:Inv X pins σ H s) (o:Obj)
  (T:Turn X.prog X.w X.K tg J [s.heap.objs.size] s.heap.objs.size tn) (st:tn 0 (s.heap.push o)) (q:R J H):PIE X pins σ tg R (.ref s.heap.objs.size) {s with heap:=s.heap.push o,toks:=tk}:=by
 refine ⟨s.heap.objs.size,[s.heap.objs.size],tn,J,H,rfl,I.kept fun b ob e=>Heap.get?_push_of_some _ e,T,st,fun b hb=>?_,q⟩
 have e:b=s.heap.objs.size:=by simpa using hb
 subst e
 exact I.fpOk (Nat.le_refl _) (I.hok.fresh (Nat.le_refl _))
end
def Itv (K:PySem.W.Frag) (a:Addr) (n:Nat):It:=
 ⟨fun i H=>i<n∧∃(xs:List V) (x:V),SqL K H a xs∧xs[n - 1 - i]?=some x,fun i H x H'=>H'=H∧∀xs,SqL K H a xs→xs[n - 1 - i]?=some x,fun i _=>n≤i⟩
theorem turn_rev {P:Program} {w:World} {K:PySem.W.Frag} {tg:Expr} (a it:Addr) (n:Nat):Turn P w K tg (Itv K a n) [it] it (fun i h=>i≤n∧h.IsRevIter it a ((n:Int) - 1 - (i:Nat))) where
 mem:=by simp
 obj:=fun i h st b hb=>by
  have e:b=it:=by simpa using hb
  subst e
  obtain ⟨_,o,e,c,d⟩:=st
  exact ⟨o,e,fun v z=>by rw [d] at z;cases z⟩
 keep:=fun i h h' st k=>⟨st.1,st.2.at fun o e=>k it (by simp) o e⟩
 item:=by
  intro X hP hw hK hc i pins s σ H E I hf st hg
  subst hP hw hK
  obtain ⟨hin,xs,x,hq,hx⟩:=hg
  obtain ⟨its,rv,p,hz⟩:=I.list hq
  obtain ⟨u,hu,ru⟩:=rv.get hx
  obtain ⟨f0,f1,f2,f3,f4,f5⟩:=hf it (by simp)
  obtain ⟨_,hit⟩:=st
  have e1:(n:Int) - 1 - ((i:Nat):Int)=((n - 1 - i:Nat):Int):=by omega
  rw [e1] at hit
  refine wpAny_pyNext_rev_item hit p.isList (x:=u) (by simpa using hu) fun h' st' sb=>?_
  have e2:((n - 1 - i:Nat):Int) - 1=(n:Int) - 1 - ((i+1:Nat):Int):=by omega
  rw [e2] at st'
  have I1:Inv X pins σ H {s with heap:=h'}:=I.turned (t':=s.toks) (fun b o hb e=>(sb.2 b hb).trans e) f0 f1 f3 f4 f5
  obtain ⟨o,e,c,d⟩:=id st'
  exact ⟨u,rfl,go_of (s:={s with heap:=h'}) e c d (by decide) ⟨x,H,I1,ru,⟨rfl,fun ys hy=>by rw [I.list_inj hy hq];exact hx⟩,⟨hin,st'⟩,fun b hb=>(hf b hb).1⟩⟩
 done:=by
  intro X hP hw hK hc i pins s σ H E I hf st hg
  subst hP hw hK
  obtain ⟨f0,f1,f2,f3,f4,f5⟩:=hf it (by simp)
  obtain ⟨hin,hit⟩:=st
  have hge:n≤i:=hg
  have e1:(n:Int) - 1 - ((i:Nat):Int)= -1:=by omega
  rw [e1] at hit
  exact wpAny_pyNext_rev_end (I.ok.hd hc) hit fun h' eb=>⟨rfl,I.turned (t':=s.toks) (fun b o hb e=>eb b o hb e) f0 f1 f3 f4 f5⟩
 self:=fun A i s Q E st h=>wpAny_pyIter_revIter st.2 h
def iRev (K:PySem.W.Frag) (ta:TA):TI:=fun σ H R=>ta σ H fun vs H1=>∃(a:Addr) (xs:List V),vs= [.ref a]∧SqL K H1 a xs∧R (Itv K a xs.length) H1
section
variable {X:Cx} {tg:Expr}
theorem pi_reversed {e:Expr} {ta:TA} {p pos:Pos} (hg:Gl X "reversed") (hm:X.mg "reversed"=none) (ha:PA X [e] ta) (hs:starEach [e] X.env= [(false,eval e X.env)]:=by rfl):PI X tg (.Call (.Name "reversed" p) [e] [] pos) (iRev X.K ta):=by
 intro pins s σ H R I h
 refine Call_ (ld_blt I hg hm boot_reversed5 (PyProof.Rows.callWith_type1 (thn (ha pos pins s σ H _ I h) fun us s1 ⟨vs,H1,I1,r1,q1⟩=>?_) hs rfl))
 obtain ⟨a,xs,e,hq,q⟩:=q1
 subst e
 cases r1 with
 |cons r rr=>
  cases rr
  cases r
  obtain ⟨its,rv,p',hz⟩:=I1.list hq
  have hl:=rv.length
  have e1:((its.toArray.size:Nat):Int) - 1=(xs.length:Int) - 1 - ((0:Nat):Int):=by simp only [List.size_toArray];omega
  refine call_reversed_list p'.isList (wpAny_pyIter_revIter (l:=a) (i:=((its.toArray.size:Nat):Int) - 1) ⟨_,Heap.get?_push_size _ rfl,rfl,rfl⟩ ?_)
  refine pi_one (tk:=s1.toks) I1 _ (turn_rev a _ xs.length) ⟨Nat.zero_le _,?_⟩ q
  rw [←e1]
  exact ⟨_,Heap.get?_push_size _ rfl,rfl,rfl⟩
end
theorem paired_get {α β:Type} {G:α→β→Prop} {l₁:List α} {l₂:List β} (h:Paired G l₁ l₂):∀{i:Nat} {a:α},l₁[i]?=some a→∃b,l₂[i]?=some b∧G a b:=by
 induction h with
 |nil=>intro i a e;simp at e
 | @cons a b l₁ l₂ r t ih=>
  intro i a' e
  cases i with
  |zero=>
   simp only [List.getElem?_cons_zero,Option.some.injEq] at e
   subst e
   exact ⟨b,rfl,r⟩
  |succ j=>
   simp only [List.getElem?_cons_succ] at e ⊢
   exact ih e
theorem dict_ep {o:Obj} {es es':Array DictEntry} {ep ep':Nat} (h:o.data=.dict es ep) (h':o.data=.dict es' ep'):es'=es∧ep'=ep:=by
 rw [h] at h'
 cases h'
 exact ⟨rfl,rfl⟩
def Ite (K:PySem.W.Frag) (a:Addr):It:=
 ⟨fun i H=>∃(xs:List V) (x:V),SqL K H a xs∧xs[i]?=some x,fun i H v H'=>∃T x,v=.ref T∧H T=none∧H'=upd H T (.tup [.int (i:Nat),x])∧∀xs,SqL K H a xs→xs[i]?=some x,fun i H=>∃xs:List V,SqL K H a xs∧xs.length≤i⟩
theorem turn_enum {P:Program} {w:World} {K:PySem.W.Frag} {elts:List Expr} {kk:Nat} {tpos:Pos} (a e it:Addr):
  Turn P w K (.Tuple elts kk tpos) (Ite K a) [e,it] e (fun i h=>(∃old,IsEnum h e it ((i:Nat):Int) old)∧h.IsListIter it a i∧e≠it) where
 mem:=by simp
 obj:=fun i h st b hb=>by
  obtain ⟨⟨old,he⟩,⟨o,ho,hc,hd⟩,_⟩:=st
  have e':b=e∨b=it:=by simpa using hb
  rcases e' with z|z
  ·rw [z];exact ⟨_,he,fun v q=>nomatch q⟩
  ·rw [z];exact ⟨o,ho,fun v q=>by rw [hd] at q;cases q⟩
 keep:=fun i h h' st k=>let ⟨⟨old,he⟩,hi,hne⟩:=st;⟨⟨old,k e (by simp) _ he⟩,hi.at fun o q=>k it (by simp) o q,hne⟩
 item:=by
  intro X hP hw hK hc i pins s σ H E I hf st hg
  subst hP hw hK
  obtain ⟨⟨old,he⟩,hit,hne⟩:=st
  obtain ⟨xs,x,hq,hx⟩:=hg
  obtain ⟨its,rv,p,hz⟩:=I.list hq
  obtain ⟨u,hu,ru⟩:=rv.get hx
  have hel:e<s.heap.objs.size:=Heap.lt_size he
  have hil:it<s.heap.objs.size:=by obtain ⟨_,q,_⟩:=hit;exact Heap.lt_size q
  refine wpAny_pyNext_enum_item he hit p.isList (x:=u) (by simpa using hu) hne fun h' ho hit' hT hsz hk=>?_
  refine ⟨_,rfl,wpAny_letOwnedTupleGo_enum (s:={s with heap:=h',toks:=s.toks+1}) ho fun h'' he' sb=>?_⟩
  have hT2:h''.get? s.heap.objs.size=some {cls:=.type "tuple",data:=.seq #[.int i s.toks,u]}:=(sb.2 _ (Nat.ne_of_gt hel)).trans hT
  have new:ObjOk X.prog X.w (upd H s.heap.objs.size (.tup [.int (i:Nat),x])) h'' s.heap.objs.size (.tup [.int (i:Nat),x]):=
   ⟨by show 2≤sizeLine;decide,[.int i s.toks,u],.cons ⟨_,rfl⟩ (.cons ru .nil),⟨_,hT2,rfl,_,rfl⟩⟩
  have I1:Inv X pins σ (upd H s.heap.objs.size (.tup [.int (i:Nat),x])) {s with heap:=h'',toks:=s.toks+1}:=
   I.turnedNew (ch:= [e,it]) (fun b ob hb q=>(sb.2 b (fun z=>hb (by simp [z]))).trans (hk b ob (fun z=>hb (by simp [z])) (fun z=>hb (by simp [z])) q)) hf (Nat.le_refl _) new
  refine ⟨.ref s.heap.objs.size,_,I1,rfl,⟨_,x,rfl,I.hok.fresh (Nat.le_refl _),rfl,fun ys hy=>by rw [I.list_inj hy hq];exact hx⟩,⟨⟨u,?_⟩,hit'.at fun o q=>(sb.2 it (Ne.symm hne)).trans q,hne⟩,fun b hb=>?_⟩
  ·have e1:((i+1:Nat):Int)=(i:Int)+1:=by omega
   rw [e1];exact he'
  ·have hb':b<s.heap.objs.size:=by
    have e':b=e∨b=it:=by simpa using hb
    rcases e' with z|z
    ·rw [z];exact hel
    ·rw [z];exact hil
   rw [upd_ne (Nat.ne_of_lt hb')]
   exact (hf b hb).1
 done:=by
  intro X hP hw hK hc i pins s σ H E I hf st hg
  subst hP hw hK
  obtain ⟨⟨old,he⟩,hit,hne⟩:=st
  obtain ⟨xs,hq,hx⟩:=hg
  obtain ⟨its,rv,p,hz⟩:=I.list hq
  obtain ⟨f0,f1,f2,f3,f4,f5⟩:=hf it (by simp)
  have hl:=rv.length
  exact wpAny_pyNext_enum_end (I.ok.hd hc) he hit p.isList (by simp;omega) fun h' eb=>⟨rfl,I.turned (t':=s.toks) (fun b o hb q=>eb b o hb q) f0 f1 f3 f4 f5⟩
 self:=fun A i s Q E st h=>let ⟨⟨_,he⟩,_⟩:=st;wpAny_pyIter_enum he h
def iEnum (K:PySem.W.Frag) (ta:TA):TI:=fun σ H R=>ta σ H fun vs H1=>∃a xs,vs= [.ref a]∧SqL K H1 a xs∧R (Ite K a) H1
theorem pi_enum {X:Cx} {e:Expr} {ta:TA} {p pos tpos:Pos} {elts:List Expr} {kk:Nat} (hg:Gl X "enumerate") (hm:X.mg "enumerate"=none) (ha:PA X [e] ta) (hs:starEach [e] X.env= [(false,eval e X.env)]:=by rfl):
  PI X (.Tuple elts kk tpos) (.Call (.Name "enumerate" p) [e] [] pos) (iEnum X.K ta):=by
 intro pins s σ H R I h
 refine Call_ (ld_blt I hg hm boot_enumerate (PyProof.Rows.callWith_type1 (thn (ha pos pins s σ H _ I h) fun us s1 ⟨vs,H1,I1,r1,q1⟩=>?_) hs rfl))
 obtain ⟨a,xs,ex,hq,q⟩:=q1
 subst ex
 cases r1 with
 |cons r rr=>
  cases rr
  cases r
  obtain ⟨its,rv,p',hz⟩:=I1.list hq
  refine call_enumerate_list p'.isList fun h' he hit hsz hk=>wpAny_pyIter_enum he ?_
  have I2:Inv X pins σ H1 {s1 with heap:=h'}:=I1.kept (t':=s1.toks) hk
  refine ⟨s1.heap.objs.size+1,[s1.heap.objs.size+1,s1.heap.objs.size],_,_,H1,rfl,I2,turn_enum a (s1.heap.objs.size+1) s1.heap.objs.size,⟨⟨.none,he⟩,hit,Nat.succ_ne_self _⟩,fun b hb=>?_,q⟩
  have e':b=s1.heap.objs.size+1∨b=s1.heap.objs.size:=by simpa using hb
  have hle:s1.heap.objs.size≤b:=by
   rcases e' with z|z
   ·rw [z];exact Nat.le_add_right _ _
   ·rw [z];exact Nat.le_refl _
  exact I1.fpOk hle (I1.hok.fresh hle)
theorem boot_zip5:bootBuiltins "zip"=some (.type "zip"):=by decide+kernel
def Itz (K:PySem.W.Frag) (a b:Addr):It:=
 ⟨fun i H=>∃(xs ys:List V) (x y:V),SqL K H a xs∧SqL K H b ys∧xs[i]?=some x∧ys[i]?=some y,
  fun i H v H'=>∃T x y,v=.ref T∧H T=none∧H'=upd H T (.tup [x,y])∧(∀xs,SqL K H a xs→xs[i]?=some x)∧∀ys,SqL K H b ys→ys[i]?=some y,
  fun i H=>∃xs ys:List V,SqL K H a xs∧SqL K H b ys∧(xs.length≤i∨ys.length≤i)⟩
theorem turn_zip {P:Program} {w:World} {K:PySem.W.Frag} {elts:List Expr} {kk:Nat} {tpos:Pos} {a b z TI TO i1 i2:Addr} (D:ZipApart z TI TO i1 i2 a b):
  Turn P w K (.Tuple elts kk tpos) (Itz K a b) [z,TI,TO,i1,i2] z (fun i h=>IsZip h z TI TO .none∧IsPair h TI (.ref i1) (.ref i2)∧(∃x y,IsPair h TO x y)∧h.IsListIter i1 a i∧h.IsListIter i2 b i) where
 mem:=by simp
 obj:=fun i h st c hc=>by
  obtain ⟨hz,hTI,⟨x,y,hTO⟩,⟨o1,e1,_,d1⟩,⟨o2,e2,_,d2⟩⟩:=st
  have e':c=z∨c=TI∨c=TO∨c=i1∨c=i2:=by simpa using hc
  rcases e' with q|q|q|q|q
  ·rw [q];exact ⟨_,hz,fun v q=>nomatch q⟩
  ·rw [q];exact ⟨_,hTI,fun v q=>nomatch q⟩
  ·rw [q];exact ⟨_,hTO,fun v q=>nomatch q⟩
  ·rw [q];exact ⟨o1,e1,fun v q=>by rw [d1] at q;cases q⟩
  ·rw [q];exact ⟨o2,e2,fun v q=>by rw [d2] at q;cases q⟩
 keep:=fun i h h' st k=>by
  obtain ⟨hz,hTI,⟨x,y,hTO⟩,h1,h2⟩:=st
  exact ⟨k z (by simp) _ hz,k TI (by simp) _ hTI,⟨x,y,k TO (by simp) _ hTO⟩,h1.at fun o q=>k i1 (by simp) o q,h2.at fun o q=>k i2 (by simp) o q⟩
 item:=by
  intro X hP hw hK hc i pins s σ H E I hf st hg
  subst hP hw hK
  obtain ⟨hz,hTI,⟨x0,y0,hTO⟩,h1,h2⟩:=st
  obtain ⟨xs,ys,x,y,hqx,hqy,hx,hy⟩:=hg
  obtain ⟨its,rv,p,_⟩:=I.list hqx
  obtain ⟨its2,rv2,p2,_⟩:=I.list hqy
  obtain ⟨u,hu,ru⟩:=rv.get hx
  obtain ⟨u2,hu2,ru2⟩:=rv2.get hy
  have hzl:z<s.heap.objs.size:=Heap.lt_size hz
  refine wpAny_pyNext_zip_item D hz hTI hTO h1 h2 p.isList p2.isList (x:=u) (y:=u2) (by simpa using hu) (by simpa using hu2) fun h' z' TO' h1' h2' hT hsz hk=>?_
  refine ⟨_,rfl,wpAny_letOwnedTupleGo_zip (s:={s with heap:=h'}) z' fun h'' z'' sb=>?_⟩
  have hT2:h''.get? s.heap.objs.size=some {cls:=.type "tuple",data:=.seq #[u,u2]}:=(sb.2 _ (Nat.ne_of_gt hzl)).trans hT
  have new:ObjOk X.prog X.w (upd H s.heap.objs.size (.tup [x,y])) h'' s.heap.objs.size (.tup [x,y]):=
   ⟨by show 2≤sizeLine;decide,[u,u2],.cons ru (.cons ru2 .nil),⟨_,hT2,rfl,_,rfl⟩⟩
  have I1:Inv X pins σ (upd H s.heap.objs.size (.tup [x,y])) {s with heap:=h''}:=
   I.turnedNew (t':=s.toks) (ch:= [z,TI,TO,i1,i2]) (fun c o hb q=>(sb.2 c (fun q'=>hb (by simp [q']))).trans (hk c o (fun q'=>hb (by simp [q'])) (fun q'=>hb (by simp [q'])) (fun q'=>hb (by simp [q'])) (fun q'=>hb (by simp [q'])) q)) hf (Nat.le_refl _) new
  refine ⟨.ref s.heap.objs.size,_,I1,rfl,⟨_,x,y,rfl,I.hok.fresh (Nat.le_refl _),rfl,fun l hl=>by rw [I.list_inj hl hqx];exact hx,fun l hl=>by rw [I.list_inj hl hqy];exact hy⟩,⟨z'',?_,⟨u,u2,?_⟩,?_,?_⟩,fun c hcm=>?_⟩
  ·exact (sb.2 _ D.TIz).trans (hk _ _ D.TIz D.TITO D.TIi1 D.TIi2 hTI)
  ·exact (sb.2 _ D.TOz).trans TO'
  ·exact h1'.at fun o q=>(sb.2 _ D.i1z).trans q
  ·exact h2'.at fun o q=>(sb.2 _ D.i2z).trans q
  ·have hlt:c<s.heap.objs.size:=by
    have e':c=z∨c=TI∨c=TO∨c=i1∨c=i2:=by simpa using hcm
    rcases e' with q|q|q|q|q
    ·rw [q];exact hzl
    ·rw [q];exact Heap.lt_size hTI
    ·rw [q];exact Heap.lt_size hTO
    ·rw [q];obtain ⟨_,e1,_⟩:=h1;exact Heap.lt_size e1
    ·rw [q];obtain ⟨_,e2,_⟩:=h2;exact Heap.lt_size e2
   rw [upd_ne (Nat.ne_of_lt hlt)]
   exact (hf c hcm).1
 done:=by
  intro X hP hw hK hc i pins s σ H E I hf st hg
  subst hP hw hK
  obtain ⟨hz,hTI,⟨x0,y0,hTO⟩,h1,h2⟩:=st
  obtain ⟨xs,ys,hqx,hqy,hend⟩:=hg
  obtain ⟨its,rv,p,_⟩:=I.list hqx
  obtain ⟨its2,rv2,p2,_⟩:=I.list hqy
  have l1:=rv.length
  have l2:=rv2.length
  have he:its.toArray[i]?=none∨its2.toArray[i]?=none:=by
   rcases hend with q|q
   ·exact .inl (by simp;omega)
   ·exact .inr (by simp;omega)
  exact wpAny_pyNext_zip_end (I.ok.hd hc) D hz hTI hTO h1 h2 p.isList p2.isList he fun h' hk=>⟨rfl,I.turnedL (t':=s.toks) (ch:= [z,TI,TO,i1,i2]) (fun c o hb q=>
   hk c o (fun q'=>hb (by simp [q'])) (fun q'=>hb (by simp [q'])) (fun q'=>hb (by simp [q'])) (fun q'=>hb (by simp [q'])) q) hf⟩
 self:=fun A i s Q E st h=>wpAny_pyIter_zip st.1 h
def iZip (K:PySem.W.Frag) (ta:TA):TI:=fun σ H R=>ta σ H fun vs H1=>∃a b xs ys,vs= [.ref a,.ref b]∧SqL K H1 a xs∧SqL K H1 b ys∧R (Itz K a b) H1
theorem pi_zip {X:Cx} {e e2:Expr} {ta:TA} {p pos tpos:Pos} {elts:List Expr} {kk:Nat} (hg:Gl X "zip") (hm:X.mg "zip"=none) (ha:PA X [e,e2] ta)
  (hs:starEach [e,e2] X.env=(false,eval e X.env)::starEach [e2] X.env:=by rfl) (hpl:(backTo pos (starEach [e2] X.env)).any (·.1)=false:=by rfl):
  PI X (.Tuple elts kk tpos) (.Call (.Name "zip" p) [e,e2] [] pos) (iZip X.K ta):=by
 intro pins s σ H R I h
 refine Call_ (ld_blt I hg hm boot_zip5 (PyProof.Rows.callWith_type1 (thn (ha pos pins s σ H _ I h) fun us s1 ⟨vs,H1,I1,r1,q1⟩=>?_) hs hpl))
 obtain ⟨a,b,xs,ys,ex,hqx,hqy,q⟩:=q1
 subst ex
 cases r1 with
 |cons r rr=>
  cases rr with
  |cons r' rr=>
   cases rr
   cases r
   cases r'
   obtain ⟨its,rv,p1,_⟩:=I1.list hqx
   obtain ⟨its2,rv2,p2,_⟩:=I1.list hqy
   have la:a<s1.heap.objs.size:=p1.lt
   have lb:b<s1.heap.objs.size:=p2.lt
   refine call_zip_2 p1.isList p2.isList fun h' hz hTI hTO h1 h2 hsz hk=>wpAny_pyIter_zip hz ?_
   have I2:Inv X pins σ H1 {s1 with heap:=h'}:=I1.kept (t':=s1.toks) hk
   refine ⟨s1.heap.objs.size+4,[s1.heap.objs.size+4,s1.heap.objs.size+2,s1.heap.objs.size+3,s1.heap.objs.size,s1.heap.objs.size+1],_,_,H1,rfl,I2,turn_zip (PySem.W.ktu_apart s1.heap.objs.size a b la lb),⟨hz,hTI,⟨_,_,hTO⟩,h1,h2⟩,fun c hcm=>?_,q⟩
   have e':c=s1.heap.objs.size+4∨c=s1.heap.objs.size+2∨c=s1.heap.objs.size+3∨c=s1.heap.objs.size∨c=s1.heap.objs.size+1:=by simpa using hcm
   have hle:s1.heap.objs.size≤c:=by
    rcases e' with z|z|z|z|z
    ·rw [z];exact Nat.le_add_right _ _
    ·rw [z];exact Nat.le_add_right _ _
    ·rw [z];exact Nat.le_add_right _ _
    ·rw [z];exact Nat.le_refl _
    ·rw [z];exact Nat.le_add_right _ _
   exact I1.fpOk hle (I1.hok.fresh hle)
end L2
namespace L2
open PySem PySem.Spec PyProof.Rows
def inClass (s:Stmt) (j:Nat):Stmt:=match s with
 | .ClassDef _ _ _ body _ _ _ _ _ _ _=>body.getD j (.Pass ⟨0,0,0,0⟩)
 |_=>.Pass ⟨0,0,0,0⟩
def defArgs (s:Stmt):Arguments:=match s with
 | .FunctionDef _ a _ _ _ _ _ _ _ _=>a
 |_=>{posonlyargs:= [],args:= [],vararg:=none,kwonlyargs:= [],kw_defaults:= [],kwarg:=none,defaults:= []}
def defBody (s:Stmt):List Stmt:=match s with
 | .FunctionDef _ _ b _ _ _ _ _ _ _=>b
 |_=> []
def defScope (s:Stmt):Scope:=match s with
 | .FunctionDef _ _ _ _ _ _ sc _ _ _=>sc
 |_=>{kind:=.function,names:= [],isGenerator:=false,isCoroutine:=false}
abbrev CX0:CXT:=fun _ _ _ _ _ _=>False
abbrev E0:XK:=fun _ _ _=>False
theorem pass0 {X:Cx}:Passes CX0 X E0:=fun _ _ _ _ _ _ _ h=>h.elim
structure Fun (K:PySem.W.Frag) (x qual:Str) (st:Stmt) (f:Addr) (fd:FuncData):Prop where
 ex:∃(oc:Value) (od:Option Addr) (kV doc pm:Value) (an:Option Addr) (cdv ct:Value) (osl:Array (Option Value)),
  fd=PySem.W.fnOf x qual (defArgs st) (defBody st) (defScope st) .none kV doc pm an cdv ct∧K.lookup f=some ⟨oc,od,.func fd,osl⟩∧PySem.W.codeIn K cdv qual=true
 kp:PySem.W.keepIn K (.ref f)=true
section
variable {P:Program} {w:World} {K:PySem.W.Frag} {mg:Str→Option Value} {base:Heap}
theorem Fun.ok {x qual:Str} {st:Stmt} {f:Addr} {fd:FuncData} {N ps:List Str} {k:Nat} {sp:Sp} (F:Fun K x qual st f fd) (S:FnScope N ps (defScope st)) (len:∀vs H Q E,sp vs H Q E→vs.length=ps.length)
  (hbody:∀(cdv:Value) (A:Around) (outer:List Env) (s:Shared) (H:Hp) (vs:List V) (Q:VK) (E:XK),Room k (A.deeper (envOfC qual (defScope st) s.heap.objs.size f cdv))→sp vs H Q E→
   ∃t,PSs (cxOf CX0 P w K mg base N qual (defScope st) f cdv A outer s H E).nox (defBody st) t∧t {nx:=fun _ H'=>Q .non H',rt:=Q} (start N vs) H):FnOk P w K mg base CX0 (k+1) f fd ps sp:=by
 obtain ⟨oc,od,kV,doc,pm,an,cdv,ct,osl,rfl,lk,hcd⟩:=F.ex
 refine fn_of lk hcd S len fun A outer s H vs Q E hr hsp=>?_
 obtain ⟨t,h,q⟩:=hbody cdv A outer s H vs Q E hr hsp
 exact ⟨t,h.nox,q⟩
theorem Fun.binds {x qual:Str} {st:Stmt} {f:Addr} {fd:FuncData} {ps:List Str} (F:Fun K x qual st f fd)
  (h:∀(kV doc pm:Value) (an:Option Addr) (cdv ct:Value) (us:List Value),us.length=ps.length→bindArgs (PySem.W.fnOf x qual (defArgs st) (defBody st) (defScope st) .none kV doc pm an cdv ct) ⟨us,[]⟩=pure (ps.zip us)):Binds K fd ps []:=by
 obtain ⟨oc,od,kV,doc,pm,an,cdv,ct,osl,rfl,lk,hcd⟩:=F.ex
 exact .all (h kV doc pm an cdv ct)
theorem fun_mk {x qual:Str} {st:Stmt} {f:Addr} {oc:Value} {od an:Option Addr} {osl:Array (Option Value)} {kV doc pm cdv ct:Value} (l:K.lookup f=some ⟨oc,od,.func (PySem.W.fnOf x qual (defArgs st) (defBody st) (defScope st) .none kV doc pm an cdv ct),osl⟩)
  (c:PySem.W.codeIn K cdv qual=true) (k:PySem.W.keepIn K (.ref f)=true):Fun K x qual st f (PySem.W.fnOf x qual (defArgs st) (defBody st) (defScope st) .none kV doc pm an cdv ct):=⟨⟨oc,od,kV,doc,pm,an,cdv,ct,osl,rfl,l,c⟩,k⟩
end
theorem hu_of {A:Around} {k:Nat} (hr:Room k A):A.units+1<cLine:=Nat.lt_of_le_of_lt (Nat.add_le_add_left (by decide:1≤64) _) hr.units
theorem small1000 {n:Nat} (h:n≤1000):n<sizeLine:=Nat.lt_of_le_of_lt h (by decide)
section
variable {X:Cx}
theorem pv (i:Nat) {x:Str} {pos:Pos} (hN:X.N[i]?=some x:=by rfl) (hv:Vis X.env.scope x:=by first|exact Or.inl rfl|exact Or.inr (Or.inl rfl)|exact Or.inr (Or.inr rfl)) (hd:(x==("__debug__":Str))=false:=by decide)
  (hcd:(x==("__classdict__":Str))=false:=by decide):PE X (.Name x pos) (tVar i):=pe_var hN hv hd hcd
end
theorem iteF {A B:Prop} (h:B):if false=true then A else B:=by
 rw [if_neg Bool.false_ne_true]
 exact h
theorem iteT {A B:Prop} (h:A):if true=true then A else B:=by
 rw [if_pos rfl]
 exact h
def Same (H H':Hp):Prop:=∀b o,H b=some o→H' b=some o
theorem Same.refl (H:Hp):Same H H:=fun _ _ h=>h
theorem Same.trans {H H1 H2:Hp} (a:Same H H1) (b:Same H1 H2):Same H H2:=fun c o h=>b c o (a c o h)
theorem Same.free {H H':Hp} (e:Same H H') {l:Addr} (h:H' l=Option.none):H l=Option.none:=by
 cases q:H l with
 |none=>rfl
 |some o=>
  rw [e l o q] at h
  cases h
theorem Same.seq {K:PySem.W.Frag} {H H':Hp} {a:Addr} {xs:List V} (e:Same H H') (h:SqL K H a xs):SqL K H' a xs:=by
 rcases h with (h|⟨o,h⟩)|h
 ·exact .inl (.inl (e _ _ h))
 ·exact .inl (.inr ⟨o,e _ _ h⟩)
 ·exact .inr h
section
variable {κ:Type} [DecidableEq κ]
theorem valV_not {kvs:List (κ×V)} {k:κ} (h:valV kvs k=none):¬k∈kvs.map (·.1):=by
 intro m
 obtain ⟨p,hp,e⟩:=List.mem_map.mp m
 have q:(kvs.any fun kv=>decide (kv.1=k))=true:=List.any_eq_true.mpr ⟨p,hp,decide_eq_true e⟩
 rw [valV_any,h] at q
 exact absurd q (by simp)
theorem valV_in {kvs:List (κ×V)} {k:κ} {v:V} (h:valV kvs k=some v):k∈kvs.map (·.1):=by
 have q:(kvs.any fun kv=>decide (kv.1=k))=true:=by
  rw [valV_any,h]
  all_goals rfl
 obtain ⟨p,hp,e⟩:=List.any_eq_true.mp q
 exact List.mem_map.mpr ⟨p,hp,of_decide_eq_true e⟩
theorem nd_snoc:∀{l:List κ} {k:κ},l.Nodup→¬k∈l→(l++ [k]).Nodup
 | [],k,_,_=>by simp
 |a::r,k,h,hk=>by
  obtain ⟨h1,h2⟩:=List.nodup_cons.mp h
  show (a::(r++ [k])).Nodup
  refine List.nodup_cons.mpr ⟨fun m=>?_,nd_snoc h2 fun m=>hk (List.mem_cons.mpr (Or.inr m))⟩
  rcases List.mem_append.mp m with q|q
  ·exact h1 q
  ·exact hk (List.mem_cons.mpr (Or.inl (List.mem_singleton.mp q).symm))
theorem nd_putK {kvs:List (κ×V)} {k:κ} (v:V) (hn:(kvs.map (·.1)).Nodup) (h:valV kvs k=none):((putK kvs k v).map (·.1)).Nodup:=by
 rw [putK_new v h,List.map_append]
 exact nd_snoc hn (valV_not h)
end
theorem at_of {xs:List V} {z:Int} {j:Nat} {v:V} (e:z=(j:Int)) (h:xs[j]?=some v):atI xs z=some v:=by
 rw [e]
 exact atI_nat h
theorem nd_ix {α:Type} {l:List α} (hN:l.Nodup) {i j:Nat} {x:α} (a:l[i]?=some x) (b:l[j]?=some x):i=j:=by
 obtain ⟨h1,e1⟩:=List.getElem?_eq_some_iff.mp a
 obtain ⟨h2,e2⟩:=List.getElem?_eq_some_iff.mp b
 exact (List.getElem_inj hN).mp (e1.trans e2.symm)
theorem Same.made {H H1:Hp} {x dx C:Addr} (nx:H x=Option.none) (nd:H dx=Option.none) (k:∀b o,(upd (upd H dx (.own x)) x (.ins C dx [])) b=some o→b≠x→H1 b=some o):Same H H1:=fun b o e=>
 k b o (by rw [upd_ne (ne_of_none e nx),upd_ne (ne_of_none e nd)];exact e) (ne_of_none e nx)
end L2
section
set_option maxHeartbeats 2000000
namespace L2
open PySem PySem.Spec PyProof.Rows
open PySem.W (WData Codec OpenSpec Well WellAll ReadsW ReadsAllW)
mutual
inductive Dw (K:PySem.W.Frag) (H:Hp):V→WData→Prop
 |non:Dw K H .non .none
 |bl (b:Bool):Dw K H (.bl b) (.bool b)
 |int (i:Int):Dw K H (.int i) (.int i)
 |str (x:Str):Dw K H (.str x) (.str x)
 |byt (b:Array UInt8):Dw K H (.byt b) (.bytes b.toList)
 |lst {a:Addr} {xs:List V} {ds:List WData}:SqL K H a xs→DwAll K H xs ds→Dw K H (.ref a) (.list ds)
 |tup {a:Addr} {xs:List V} {ds:List WData}:SqT K H a xs→DwAll K H xs ds→Dw K H (.ref a) (.tuple ds)
inductive DwAll (K:PySem.W.Frag) (H:Hp):List V→List WData→Prop
 |nil:DwAll K H [] []
 |cons {v:V} {vs:List V} {d:WData} {ds:List WData}:Dw K H v d→DwAll K H vs ds→DwAll K H (v::vs) (d::ds)
end
theorem dw_ints {K:PySem.W.Frag} {H:Hp}:∀ns:List Int,DwAll K H (ns.map V.int) (ns.map WData.int)
 | []=>.nil
 |n::r=>.cons (.int n) (dw_ints r)
theorem ints_dw {K:PySem.W.Frag} {H:Hp}:∀(ns:List Int) (xs:List V),DwAll K H xs (ns.map WData.int)→xs=ns.map V.int
 | [],xs,h=>by
  cases h
  rfl
 |n::r,xs,h=>by
  cases h with
  |cons h1 h2=>
   cases h1
   rw [ints_dw r _ h2]<;>rfl
section
variable {P:Program} {w:World} {K:PySem.W.Frag} {H:Hp} {h:Heap} {R:PySem.W.WRecords} {cl:Str→Option Addr}
theorem sqL_at {a:Addr} {xs:List V} (hok:HOk P w H h) (KX:K.In h) (q:SqL K H a xs):∃(its:List Value) (o:Obj) (n:Nat),Vals xs its∧h.get? a=some o∧o.cls=.type "list"∧o.data=.seq its.toArray n:=by
 rcases q with q|⟨o,its,n,e,hc,_,hd,_,hv⟩
 ·obtain ⟨_,its,n,hv,e⟩:=(show ObjOk P w H h a (.lst xs) from q.ok hok)
  exact ⟨its,_,n,hv,e,rfl,rfl⟩
 ·exact ⟨its.toList,o,n,hv,KX _ _ e,hc,by simp [hd]⟩
theorem sqT_at {a:Addr} {xs:List V} (hok:HOk P w H h) (KX:K.In h) (q:SqT K H a xs):∃(its:List Value) (o:Obj) (n:Nat),Vals xs its∧h.get? a=some o∧o.cls=.type "tuple"∧o.data=.seq its.toArray n:=by
 rcases q with q|⟨o,its,n,e,hc,hd,_,hv⟩
 ·obtain ⟨_,its,hv,o,e,hc,n,hd⟩:=(show ObjOk P w H h a (.tup xs) from q.ok hok)
  exact ⟨its,o,n,hv,e,hc,hd⟩
 ·exact ⟨its.toList,o,n,hv,KX _ _ e,hc,by simp [hd]⟩
mutual
theorem Dw.reads (hok:HOk P w H h) (KX:K.In h):∀(d:WData) (v:V) (u:Value),Dw K H v d→RelV v u→∃as,ReadsW R cl h u d as
 | .none,_,_,x,r=>by
  cases x
  cases r
  exact ⟨_,ReadsW.none⟩
 | .bool b,_,_,x,r=>by
  cases x
  cases r
  exact ⟨_,ReadsW.bool b⟩
 | .int i,_,_,x,r=>by
  cases x
  obtain ⟨t,rfl⟩:=r
  exact ⟨_,ReadsW.int i t⟩
 | .str s,_,_,x,r=>by
  cases x
  obtain ⟨t,rfl⟩:=r
  exact ⟨_,ReadsW.str s t⟩
 | .bytes b,_,_,x,r=>by
  cases x
  obtain ⟨t,rfl⟩:=r
  exact ⟨_,ReadsW.bytes _ t⟩
 | .list ds,_,_,x,r=>by
  cases x with
  |lst hs ha=>
   cases r
   obtain ⟨its,o,n,rv,ho,hc,hd⟩:=sqL_at hok KX hs
   obtain ⟨as,hr⟩:=Dw.readsAll hok KX ds _ its ha rv
   exact ⟨_,ReadsW.list ho hc hd hr⟩
 | .tuple ds,_,_,x,r=>by
  cases x with
  |tup hs ha=>
   cases r
   obtain ⟨its,o,n,rv,ho,hc,hd⟩:=sqT_at hok KX hs
   obtain ⟨as,hr⟩:=Dw.readsAll hok KX ds _ its ha rv
   exact ⟨_,ReadsW.tuple ho hc hd hr⟩
 | .float _,_,_,x,_=>by cases x
 | .dict _,_,_,x,_=>by cases x
 | .bytearray _,_,_,x,_=>by cases x
 | .set _,_,_,x,_=>by cases x
 | .frozenset _,_,_,x,_=>by cases x
 | .obj _ _,_,_,x,_=>by cases x
theorem Dw.readsAll (hok:HOk P w H h) (KX:K.In h):∀(ds:List WData) (vs:List V) (us:List Value),DwAll K H vs ds→Vals vs us→∃as,ReadsAllW R cl h us ds as
 | [],_,_,x,r=>by
  cases x
  cases r
  exact ⟨_,ReadsAllW.nil⟩
 |d::ds,_,_,x,r=>by
  cases x with
  |cons h1 h2=>
   cases r with
   |cons r1 r2=>
    obtain ⟨as,q1⟩:=Dw.reads hok KX d _ _ h1 r1
    obtain ⟨bs,q2⟩:=Dw.readsAll hok KX ds _ _ h2 r2
    exact ⟨_,ReadsAllW.cons q1 q2⟩
end
end
mutual
def plW:WData→Bool
 | .none=>true
 | .bool _=>true
 | .int _=>true
 | .str _=>true
 | .bytes _=>true
 | .list xs=>plWs xs
 | .tuple xs=>plWs xs
 |_=>false
def plWs:List WData→Bool
 | []=>true
 |x::r=>plW x&&plWs r
end
theorem plWs_map {α:Type} {f:α→WData} (h:∀a,plW (f a)=true):∀l:List α,plWs (l.map f)=true
 | []=>rfl
 |x::r=>by
  show (plW (f x)&&plWs (r.map f))=true
  rw [h x,plWs_map h r]<;>rfl
theorem pl_enc:∀(c:Codec) (a:c.denote),plW (c.enc a)=true
 | .unit,_=>rfl
 | .bool,_=>rfl
 | .int _ _,_=>rfl
 | .nat _ _,_=>rfl
 | .u8,_=>rfl
 | .bytes _ _,_=>rfl
 | .text _ _ _ _,_=>rfl
 | .list _ _ c,a=>plWs_map (fun x=>pl_enc c x) a
 | .pair c d,a=>by
  show (plW (c.enc a.1)&&(plW (d.enc a.2)&&true))=true
  rw [pl_enc c a.1,pl_enc d a.2]<;>rfl
 | .triple c d e,a=>by
  show (plW (c.enc a.1)&&(plW (d.enc a.2.1)&&(plW (e.enc a.2.2)&&true)))=true
  rw [pl_enc c a.1,pl_enc d a.2.1,pl_enc e a.2.2]<;>rfl
 | .option c,none=>rfl
 | .option c,some x=>pl_enc c x
theorem pl_encAll:∀(cs:List Codec) (a:Codec.denoteAll cs),plWs (Codec.encAll cs a)=true
 | [],_=>rfl
 |c::cs,a=>by
  show (plW (c.enc a.1)&&plWs (Codec.encAll cs a.2))=true
  rw [pl_enc c a.1,pl_encAll cs a.2]<;>rfl
theorem weight_mem:∀{xs:List WData} {d:WData},d∈xs→d.weight≤WData.weightAll xs
 | [],d,h=>absurd h (by simp)
 |x::r,d,h=>by
  show d.weight≤x.weight+1+WData.weightAll r
  rcases List.mem_cons.mp h with e|m
  ·rw [e]
   omega
  ·have z:=weight_mem m
   omega
def toV:Value→V
 | .none=>.non
 | .bool b=>.bl b
 | .int i _=>.int i
 | .str x _=>.str x
 | .bytes b _=>.byt b
 | .ref a=>.ref a
 |_=>.non
def OkU (A:List Addr):Value→Prop
 | .none=>True
 | .bool _=>True
 | .int _ _=>True
 | .str _ _=>True
 | .bytes _ _=>True
 | .ref a=>a∈A
 |_=>False
theorem OkU.mono {A B:List Addr} (h:∀a∈A,a∈B):∀{u:Value},OkU A u→OkU B u:=fun {u} x=>by
 cases u with
 |ref a=>exact h a x
 |none=>trivial
 |bool b=>trivial
 |int i t=>trivial
 |str s t=>trivial
 |bytes b t=>trivial
 |_=>exact False.elim x
theorem relV_toV {A:List Addr} {u:Value} (x:OkU A u):RelV (toV u) u:=by
 cases u with
 |ref a=>rfl
 |none=>rfl
 |bool b=>rfl
 |int i t=>exact ⟨t,rfl⟩
 |str s t=>exact ⟨t,rfl⟩
 |bytes b t=>exact ⟨t,rfl⟩
 |_=>exact False.elim x
theorem vals_toV {A:List Addr}:∀{vs:List Value},(∀u∈vs,OkU A u)→Vals (vs.map toV) vs
 | [],_=>.nil
 |u::r,h=>.cons (relV_toV (h u (List.mem_cons_self ..))) (vals_toV fun x hx=>h x (List.mem_cons_of_mem _ hx))
def ArgOb (h:Heap) (A:List Addr) (a:Addr):Prop:=∃vs:List Value,vs.length≤sizeLine∧(∀u∈vs,OkU A u)∧
 (h.get? a=some {cls:=.type "list",data:=.seq vs.toArray}∨h.get? a=some {cls:=.type "tuple",data:=.seq vs.toArray})
theorem ArgOb.mono {h:Heap} {A B:List Addr} {a:Addr} (k:∀a∈A,a∈B) (x:ArgOb h A a):ArgOb h B a:=by
 obtain ⟨vs,h1,h2,h3⟩:=x
 exact ⟨vs,h1,fun u hu=>(h2 u hu).mono k,h3⟩
theorem wellAll_len {P:Params} {h:Heap}:∀{vs:List Value} {ds:List WData},WellAll P h vs ds→vs.length=ds.length
 |_,_,.nil=>rfl
 |_,_,.cons _ b=>by
  show _+1=_+1
  rw [wellAll_len b]
theorem well_list {P:Params} {h:Heap} {v:Value} {ds:List WData} (x:Well P h v (.list ds)):∃(a:Addr) (vs:List Value),v=.ref a∧h.get? a=some {cls:=.type "list",data:=.seq vs.toArray}∧WellAll P h vs ds:=by
 cases x with
 |list ho hall=>exact ⟨_,_,rfl,ho,hall⟩
theorem well_tuple {P:Params} {h:Heap} {v:Value} {ds:List WData} (x:Well P h v (.tuple ds)):∃(a:Addr) (vs:List Value),v=.ref a∧h.get? a=some {cls:=.type "tuple",data:=.seq vs.toArray}∧WellAll P h vs ds:=by
 cases x with
 |tuple ho hall=>exact ⟨_,_,rfl,ho,hall⟩
theorem well_cons {P:Params} {h:Heap} {us:List Value} {d:WData} {ds:List WData} (x:WellAll P h us (d::ds)):∃(v:Value) (vs:List Value),us=v::vs∧Well P h v d∧WellAll P h vs ds:=by
 cases x with
 |cons a b=>exact ⟨_,_,rfl,a,b⟩
theorem line_of {n:Nat} (h:n≤1048576):n≤sizeLine:=Nat.le_trans h (by decide)
section
variable {P:Params} {h:Heap}
mutual
theorem area_one:∀(d:WData) (v:Value),Well P h v d→plW d=true→d.weight≤1048576→∃A:List Addr,OkU A v∧∀a∈A,ArgOb h A a
 | .none,_,x,_,_=>by
  cases x
  exact ⟨[],trivial,fun a m=>absurd m (by simp)⟩
 | .bool b,_,x,_,_=>by
  cases x
  exact ⟨[],trivial,fun a m=>absurd m (by simp)⟩
 | .int i,_,x,_,_=>by
  cases x
  exact ⟨[],trivial,fun a m=>absurd m (by simp)⟩
 | .str s,_,x,_,_=>by
  cases x
  exact ⟨[],trivial,fun a m=>absurd m (by simp)⟩
 | .bytes b,_,x,_,_=>by
  cases x
  exact ⟨[],trivial,fun a m=>absurd m (by simp)⟩
 | .list ds,_,x,p,z=>by
  obtain ⟨a,vs,rfl,ho,hall⟩:=well_list x
  have z2:WData.weightAll ds≤1048576:=z
  obtain ⟨A,h1,h2⟩:=area_all ds _ hall p fun d hd=>Nat.le_trans (weight_mem hd) z2
  have k:∀b∈A,b∈a::A:=fun b hb=>List.mem_cons_of_mem _ hb
  refine ⟨a::A,List.mem_cons_self ..,fun b hb=>?_⟩
  rcases List.mem_cons.mp hb with e|m
  ·rw [e]
   exact ⟨vs,line_of (by rw [wellAll_len hall];exact Nat.le_trans (PySem.W.length_le_weightAllW ds) z2),fun u hu=>(h1 u hu).mono k,.inl ho⟩
  ·exact (h2 b m).mono k
 | .tuple ds,_,x,p,z=>by
  obtain ⟨a,vs,rfl,ho,hall⟩:=well_tuple x
  have z2:WData.weightAll ds≤1048576:=z
  obtain ⟨A,h1,h2⟩:=area_all ds _ hall p fun d hd=>Nat.le_trans (weight_mem hd) z2
  have k:∀b∈A,b∈a::A:=fun b hb=>List.mem_cons_of_mem _ hb
  refine ⟨a::A,List.mem_cons_self ..,fun b hb=>?_⟩
  rcases List.mem_cons.mp hb with e|m
  ·rw [e]
   exact ⟨vs,line_of (by rw [wellAll_len hall];exact Nat.le_trans (PySem.W.length_le_weightAllW ds) z2),fun u hu=>(h1 u hu).mono k,.inr ho⟩
  ·exact (h2 b m).mono k
 | .float _,_,_,p,_=>Bool.noConfusion (show false=true from p)
 | .dict _,_,_,p,_=>Bool.noConfusion (show false=true from p)
 | .bytearray _,_,_,p,_=>Bool.noConfusion (show false=true from p)
 | .set _,_,_,p,_=>Bool.noConfusion (show false=true from p)
 | .frozenset _,_,_,p,_=>Bool.noConfusion (show false=true from p)
 | .obj _ _,_,_,p,_=>Bool.noConfusion (show false=true from p)
theorem area_all:∀(ds:List WData) (vs:List Value),WellAll P h vs ds→plWs ds=true→(∀d∈ds,d.weight≤1048576)→∃A:List Addr,(∀u∈vs,OkU A u)∧∀a∈A,ArgOb h A a
 | [],_,x,_,_=>by
  cases x
  exact ⟨[],fun u m=>absurd m (by simp),fun a m=>absurd m (by simp)⟩
 |d::ds,_,x,p,z=>by
  obtain ⟨v,vs,rfl,x1,x2⟩:=well_cons x
  have q:plW d=true∧plWs ds=true:=Bool.and_eq_true_iff.mp p
  obtain ⟨A,a1,a2⟩:=area_one d v x1 q.1 (z d (List.mem_cons_self ..))
  obtain ⟨B,b1,b2⟩:=area_all ds vs x2 q.2 fun e he=>z e (List.mem_cons_of_mem _ he)
  have kA:∀b∈A,b∈A++B:=fun b hb=>List.mem_append.mpr (.inl hb)
  have kB:∀b∈B,b∈A++B:=fun b hb=>List.mem_append.mpr (.inr hb)
  refine ⟨A++B,fun u hu=>?_,fun b hb=>?_⟩
  ·rcases List.mem_cons.mp hu with e|m
   ·rw [e]
    exact a1.mono kA
   ·exact (b1 u m).mono kB
  ·rcases List.mem_append.mp hb with m|m
   ·exact (a2 b m).mono kA
   ·exact (b2 b m).mono kB
end
end
def hoOf (o:Obj):Option HO:=match o.data with
 | .seq vs _=>if (o.cls==Value.type "list")=true then some (.frz o (.lst (vs.toList.map toV))) else some (.frz o (.tup (vs.toList.map toV)))
 |_=>none
def argH (K:PySem.W.Frag) (h:Heap) (A:List Addr):Hp:=fun b=>if b∈A then (if (K.lookup b).isNone=true then (h.get? b).bind hoOf else none) else none
def OnlyF (H:Hp):Prop:=∀b,H b=none∨∃o u,H b=some (.frz o u)
theorem hoOf_lst (vs:List Value):hoOf {cls:=.type "list",data:=.seq vs.toArray}=some (.frz {cls:=.type "list",data:=.seq vs.toArray} (.lst (vs.map toV))):=by
 show (if (Value.type "list"==Value.type "list")=true then some (HO.frz {cls:=.type "list",data:=.seq vs.toArray} (.lst (vs.toArray.toList.map toV))) else some (HO.frz {cls:=.type "list",data:=.seq vs.toArray} (.tup (vs.toArray.toList.map toV))))=_
 rw [if_pos (beq_self_eq_true _)]
theorem hoOf_tup (vs:List Value):hoOf {cls:=.type "tuple",data:=.seq vs.toArray}=some (.frz {cls:=.type "tuple",data:=.seq vs.toArray} (.tup (vs.map toV))):=by
 show (if (Value.type "tuple"==Value.type "list")=true then some (HO.frz {cls:=.type "tuple",data:=.seq vs.toArray} (.lst (vs.toArray.toList.map toV))) else some (HO.frz {cls:=.type "tuple",data:=.seq vs.toArray} (.tup (vs.toArray.toList.map toV))))=_
 rw [if_neg (by decide)]
section
variable {P:Program} {w:World} {K:PySem.W.Frag} {h:Heap} {A:List Addr}
theorem argH_at {b:Addr} {o:Obj} (hb:b∈A) (hk:K.lookup b=none) (e:h.get? b=some o):argH K h A b=hoOf o:=by
 unfold argH
 rw [if_pos hb,hk,if_pos (show (none:Option Obj).isNone=true from rfl),e]<;>rfl
theorem of_argH {b:Addr} {u:HO} (q:argH K h A b=some u):b∈A∧K.lookup b=none:=by
 unfold argH at q
 by_cases hb:b∈A
 ·rw [if_pos hb] at q
  cases hk:K.lookup b with
  |none=>exact ⟨hb,rfl⟩
  |some o=>
   rw [hk,if_neg (by simp)] at q
   cases q
 ·rw [if_neg hb] at q
  cases q
theorem argH_is (ar:∀a∈A,ArgOb h A a) {b:Addr} {u:HO} (q:argH K h A b=some u):K.lookup b=none∧∃vs:List Value,vs.length≤sizeLine∧(∀u∈vs,OkU A u)∧
  ((h.get? b=some {cls:=.type "list",data:=.seq vs.toArray}∧u=.frz {cls:=.type "list",data:=.seq vs.toArray} (.lst (vs.map toV)))∨
   (h.get? b=some {cls:=.type "tuple",data:=.seq vs.toArray}∧u=.frz {cls:=.type "tuple",data:=.seq vs.toArray} (.tup (vs.map toV)))):=by
 obtain ⟨hb,hk⟩:=of_argH q
 obtain ⟨vs,h1,h2,h3⟩:=ar b hb
 refine ⟨hk,vs,h1,h2,?_⟩
 rcases h3 with e|e
 ·rw [argH_at hb hk e,hoOf_lst] at q
  exact .inl ⟨e,(Option.some.inj q).symm⟩
 ·rw [argH_at hb hk e,hoOf_tup] at q
  exact .inr ⟨e,(Option.some.inj q).symm⟩
theorem argH_only (ar:∀a∈A,ArgOb h A a):OnlyF (argH K h A):=fun b=>by
 cases q:argH K h A b with
 |none=>exact .inl rfl
 |some u=>
  obtain ⟨_,vs,_,_,⟨_,e⟩|⟨_,e⟩⟩:=argH_is ar q
  ·exact .inr ⟨_,_,by rw [e]⟩
  ·exact .inr ⟨_,_,by rw [e]⟩
theorem argH_ok (ar:∀a∈A,ArgOb h A a):HOk P w (argH K h A) h:=fun b u q=>by
 obtain ⟨_,vs,h1,h2,⟨e,rfl⟩|⟨e,rfl⟩⟩:=argH_is ar q
 ·exact ⟨e,by rw [List.length_map];exact h1,vs,_,vals_toV h2,e⟩
 ·exact ⟨e,by rw [List.length_map];exact h1,vs,vals_toV h2,_,e,rfl,_,rfl⟩
theorem seq_inj {c c':Value} {vs us:List Value} (e:(some {cls:=c,data:=.seq vs.toArray}:Option Obj)=some {cls:=c',data:=.seq us.toArray}):c=c'∧vs=us:=by
 have e1:=Option.some.inj e
 have e2:c=c':=congrArg Obj.cls e1
 have e3:Data.seq vs.toArray=Data.seq us.toArray:=congrArg Obj.data e1
 injection e3 with e4
 refine ⟨e2,?_⟩
 have e5:=congrArg Array.toList e4
 simpa using e5
theorem argL (KX:K.In h) (ar:∀a∈A,ArgOb h A a) {a:Addr} {vs:List Value} (ha:a∈A) (e:h.get? a=some {cls:=.type "list",data:=.seq vs.toArray}):(∀u∈vs,OkU A u)∧SqL K (argH K h A) a (vs.map toV):=by
 obtain ⟨us,h1,h2,h3⟩:=ar a ha
 have hu:us=vs:=by
  rcases h3 with q|q
  ·rw [e] at q
   exact (seq_inj q).2.symm
  ·rw [e] at q
   exact absurd (Value.type.inj (seq_inj q).1) (by decide)
 subst hu
 refine ⟨h2,?_⟩
 cases hk:K.lookup a with
 |none=>exact .inl (.inr ⟨_,by rw [argH_at ha hk e,hoOf_lst]⟩)
 |some o=>
  have e2:=KX a o hk
  rw [e] at e2
  obtain rfl:=Option.some.inj e2
  exact .inr ⟨_,us.toArray,_,hk,rfl,rfl,rfl,by rw [List.size_toArray];exact h1,by simpa using vals_toV h2⟩
theorem argT (KX:K.In h) (ar:∀a∈A,ArgOb h A a) {a:Addr} {vs:List Value} (ha:a∈A) (e:h.get? a=some {cls:=.type "tuple",data:=.seq vs.toArray}):(∀u∈vs,OkU A u)∧SqT K (argH K h A) a (vs.map toV):=by
 obtain ⟨us,h1,h2,h3⟩:=ar a ha
 have hu:us=vs:=by
  rcases h3 with q|q
  ·rw [e] at q
   exact absurd (Value.type.inj (seq_inj q).1) (by decide)
  ·rw [e] at q
   exact (seq_inj q).2.symm
 subst hu
 refine ⟨h2,?_⟩
 cases hk:K.lookup a with
 |none=>exact .inl (.inr ⟨_,by rw [argH_at ha hk e,hoOf_tup]⟩)
 |some o=>
  have e2:=KX a o hk
  rw [e] at e2
  obtain rfl:=Option.some.inj e2
  exact .inr ⟨_,us.toArray,_,hk,rfl,rfl,by rw [List.size_toArray];exact h1,by simpa using vals_toV h2⟩
mutual
theorem dw_one {Pm:Params} (KX:K.In h) (ar:∀a∈A,ArgOb h A a):∀(d:WData) (v:Value),Well Pm h v d→plW d=true→OkU A v→Dw K (argH K h A) (toV v) d
 | .none,_,x,_,_=>by
  cases x
  exact .non
 | .bool b,_,x,_,_=>by
  cases x
  exact .bl b
 | .int i,_,x,_,_=>by
  cases x
  exact .int i
 | .str s,_,x,_,_=>by
  cases x
  exact .str s
 | .bytes b,_,x,_,_=>by
  cases x
  have z:=Dw.byt (K:=K) (H:=argH K h A) b.toArray
  exact z
 | .list ds,_,x,p,hu=>by
  obtain ⟨a,vs,rfl,ho,hall⟩:=well_list x
  obtain ⟨h2,hs⟩:=argL KX ar hu ho
  exact .lst hs (dw_all KX ar ds _ hall p h2)
 | .tuple ds,_,x,p,hu=>by
  obtain ⟨a,vs,rfl,ho,hall⟩:=well_tuple x
  obtain ⟨h2,hs⟩:=argT KX ar hu ho
  exact .tup hs (dw_all KX ar ds _ hall p h2)
 | .float _,_,_,p,_=>Bool.noConfusion (show false=true from p)
 | .dict _,_,_,p,_=>Bool.noConfusion (show false=true from p)
 | .bytearray _,_,_,p,_=>Bool.noConfusion (show false=true from p)
 | .set _,_,_,p,_=>Bool.noConfusion (show false=true from p)
 | .frozenset _,_,_,p,_=>Bool.noConfusion (show false=true from p)
 | .obj _ _,_,_,p,_=>Bool.noConfusion (show false=true from p)
theorem dw_all {Pm:Params} (KX:K.In h) (ar:∀a∈A,ArgOb h A a):∀(ds:List WData) (vs:List Value),WellAll Pm h vs ds→plWs ds=true→(∀u∈vs,OkU A u)→DwAll K (argH K h A) (vs.map toV) ds
 | [],_,x,_,_=>by
  cases x
  exact .nil
 |d::ds,_,x,p,hu=>by
  obtain ⟨v,vs,rfl,x1,x2⟩:=well_cons x
  have q:plW d=true∧plWs ds=true:=Bool.and_eq_true_iff.mp p
  exact .cons (dw_one KX ar d v x1 q.1 (hu _ (List.mem_cons_self ..))) (dw_all KX ar ds vs x2 q.2 fun u m=>hu u (List.mem_cons_of_mem _ m))
end
end
theorem spec_call {P:Program} {w:World} {K:PySem.W.Frag} {mg mb:Str→Option Value} {CX:CXT} {k:Nat} {fa:Addr} {fd:FuncData} {ps:List Str} {sp:Sp} {s₁:Shared} {vals:List Value} {ds:List WData} {R:PySem.W.WRecords} {cl:Str→Option Addr} {d0:WData}
  (KX:K.In s₁.heap) (hns:s₁.heap.Ns mainGlobals mg) (hb:s₁.heap.Ns builtinsNs mb) (hbb:∀x:Str,x≠"__name__"→mb x=bootBuiltins x) (hlim:s₁.heap.NoLimit) (hg:s₁.gens= #[])
  (hwl:WellAll w.params s₁.heap vals ds) (hpl:plWs ds=true) (hwt:∀d∈ds,d.weight≤1048576) (hr:Room k callerA)
  (F:∀base:Heap,K.In base→base.Ns mainGlobals mg→FnOk P w K mg base CX k fa fd ps sp) (hbind:∀(s:Shared) (us:List Value),us.length=ps.length→BindsTo s fd ⟨us,[]⟩ (ps.zip us)) (hlen:ds.length=ps.length)
  (hsp:∀(H:Hp) (xs:List V),OnlyF H→DwAll K H xs ds→sp xs H (fun v H'=>Dw K H' v d0) fun _ _ _=>False)
  (hCX:∀H e s',CX [] H s₁ (fun _ _ _=>False) e s'→False):
  codeAny (model P w) callerA (.call (.ref fa) ⟨vals,[]⟩) (fun r s'=>∃u as,r=.ok (.ret u)∧ReadsW R cl s'.heap u d0 as∧OldK s₁.heap s'.heap∧s'.os=s₁.os∧AllBare s'.gens) s₁:=by
 obtain ⟨A,ho,ar⟩:=area_all ds vals hwl hpl hwt
 have hO:OnlyF (argH K s₁.heap A):=argH_only ar
 have hok:HOk P w (argH K s₁.heap A) s₁.heap:=argH_ok ar
 have hS:=dw_all KX ar ds vals hwl hpl ho
 have hV:=vals_toV ho
 have hK:∀b u,argH K s₁.heap A b=some u→K.lookup b=none:=fun b u q=>(argH_is ar q).1
 have noA:∀{b:Addr} {o:Obj} {es:Array DictEntry} {ep:Nat},s₁.heap.get? b=some o→o.data=.dict es ep→argH K s₁.heap A b=none:=fun {b o es ep} e d=>by
  cases q:argH K s₁.heap A b with
  |none=>rfl
  |some u=>
   obtain ⟨_,vs,_,_,⟨e2,_⟩|⟨e2,_⟩⟩:=argH_is ar q
   ·rw [e2] at e
    cases e
    have d':Data.seq vs.toArray _=Data.dict es ep:=d
    cases d'
   ·rw [e2] at e
    cases e
    have d':Data.seq vs.toArray _=Data.dict es ep:=d
    cases d'
 generalize argH K s₁.heap A=H at hO hok hS hK noA
 have base_of:∀{b:Addr} {o:Obj},s₁.heap.get? b=some o→H b=none→(hidT s₁.heap H).get? b=some o:=fun e n=>hidT_get e n
 have nsK:∀{b:Addr} {m:Str→Option Value},s₁.heap.Ns b m→(hidT s₁.heap H).Ns b m:=fun {b m} ⟨o,es,ep,e,d,r⟩=>⟨o,es,ep,base_of e (noA e d),d,r⟩
 have nK:∀b o,K.lookup b=some o→H b=none:=fun b o e=>by
  cases q:H b with
  |none=>rfl
  |some u=>
   rw [hK b u q] at e
   cases e
 have hKb:K.In (hidT s₁.heap H):=fun b o e=>base_of (KX b o e) (nK b o e)
 have hM:Mod K mg (hidT s₁.heap H):=⟨hKb,nsK hns,⟨mb,nsK hb,hbb⟩,let ⟨mc,h1,h2⟩:=hlim;⟨mc,nsK h1,h2⟩⟩
 have e0:Env0 P w K mg (hidT s₁.heap H) callerA [] s₁ H:=⟨rfl,hM,fun b o e=>of_hidT e,Nat.le_of_eq (hidT_size _ _),trivial,fun b hb=>absurd (show b∈([]:List Addr) from hb) (by simp),hok,.of_eq hg⟩
 have hl:vals.length=ps.length:=by rw [wellAll_len hwl];exact hlen
 refine codeAny_mono ((F _ hKb (nsK hns)).run callerA [] s₁ H ⟨vals,[]⟩ vals (vals.map toV) _ _ hr e0 (hbind s₁ vals hl) hV (hsp H _ hO hS)) fun r s' x=>?_
 cases r with
 |error e=>exact (hCX H e s' x).elim
 |ok fl=>
  cases fl with
  |next=>exact False.elim x
  |brk=>exact False.elim x
  |cont=>exact False.elim x
  |ret u=>
   obtain ⟨v,H',os,bare,un,hok',r',q⟩:=x
   have kept:∀b o,s₁.heap.get? b=some o→s'.heap.get? b=some o:=fun b o e=>by
    cases q2:H b with
    |none=>exact un.keep b o e q2 (by intro z;exact absurd (show b∈([]:List Addr) from z) (by simp)) (by simp)
    |some u2=>
     rcases hO b with z|⟨ob,u3,z⟩
     ·rw [q2] at z
      cases z
     ·have z2:=un.frzs b ob _ z
      obtain ⟨e1,_⟩:=hok b _ z
      obtain ⟨e2,_⟩:=hok' b _ z2
      rw [e] at e1
      cases e1
      exact e2
   have KX':K.In s'.heap:=fun b o e=>kept b o (KX b o e)
   obtain ⟨as,hrd⟩:=Dw.reads (R:=R) (cl:=cl) hok' KX' d0 v u q r'
   exact ⟨u,as,rfl,hrd,OldK.of_keep kept,os,bare⟩
theorem layable_weight {ds:List WData} (h:WData.layableAll ds=true):∀d∈ds,d.weight≤1048576:=fun d hd=>
 (PySem.W.layableW_iff.mp (List.all_eq_true.mp h d hd)).2.2
theorem encAll_len:∀(cs:List Codec) (a:Codec.denoteAll cs),(Codec.encAll cs a).length=cs.length
 | [],_=>rfl
 |c::cs,a=>by
  show (Codec.encAll cs a.2).length+1=cs.length+1
  rw [encAll_len cs a.2]
theorem walk_spec {r:OpenSpec} {k:Nat} {q:Program} {loose:List Str} {XP:(Str→Option Value)→Heap→Prop} {YP:World→Heap→Prop} {d:DefRec} {K:Params→PySem.W.Frag} {CX:World→CXT} {ps:List Str} {sp:World→Sp}
  (hwell:r.wellSaid=true) (hdf:d.params.defaults= []) (hlen:r.args.length=ps.length) (hr:Room k callerA)
  (hY:∀(w:World) (h:Heap),YP w h→(K w.params).In h)
  (F:∀(w:World) (mg:Str→Option Value) (fa:Addr) (h:Heap),YP w h→(K w.params).In h→h.Ns mainGlobals mg→mg d.name=some (.ref fa)→
   ∃fd:FuncData,(∀(s:Shared) (us:List Value),us.length=ps.length→BindsTo s fd ⟨us,[]⟩ (ps.zip us))∧
    ∀base:Heap,(K w.params).In base→base.Ns mainGlobals mg→FnOk r.prog w (K w.params) mg base (CX w) k fa fd ps (sp w))
  (hsp:∀(w:World) (H:Hp) (xs:List V) (a:Codec.denoteAll r.args),OnlyF H→Codec.withinAll r.args a=true→Codec.app r.args r.asked a=true→DwAll (K w.params) H xs (Codec.encAll r.args a)→
   sp w xs H (fun v H'=>Dw (K w.params) H' v (r.ret.enc (Codec.app r.args r.f a))) fun _ _ _=>False)
  (hCX:∀(w:World) (H:Hp) (s:Shared) (e:Value) (s':Shared),CX w [] H s (fun _ _ _=>False) e s'→False):
  PySem.W.WalkOS q loose XP YP r d [] (fun f vs=>PySem.call f vs):=by
 intro w s_0 s₁ mg mb G Y fa o pm cd doc dV kV ho hd hcd hD hmg hg args vals as hpre hlay hrd hwl hlo
 obtain ⟨a,e1,e2⟩:=PySem.W.os_pre_some hpre
 obtain ⟨e3,hwi⟩:=Codec.encAll_of_decAll r.args args a e1
 subst e3
 have KX:=hY w _ Y
 obtain ⟨fd,hb,hF⟩:=F w mg fa _ Y KX G.T.g hmg
 refine PySem.W.enter_call (codeAny_mono (spec_call (R:= []) (cl:=classAt s_0.heap) (d0:=r.ret.enc (Codec.app r.args r.f a)) KX G.T.g G.T.b G.T.builtins G.T.nolimit hg hwl (pl_encAll _ _) (layable_weight hlay) hr hF hb (by rw [encAll_len];exact hlen)
  (fun H xs hO hS=>hsp w H xs a hO hwi e2 hS) fun H e s'=>hCX w H s₁ e s') fun r' s' hq=>?_)
 obtain ⟨u,as',rfl,h1,h2,h3,h4⟩:=hq
 exact ⟨.inl ⟨u,_,as',rfl,fun _=>rfl,h1,(OpenSpec.post_iff hwell hwi _ _).mpr rfl,fun z=>Bool.noConfusion (show false=true from z)⟩,h2,h3,h4⟩
theorem walk_specK {r:OpenSpec} {k:Nat} {q:Program} {loose:List Str} {XP:(Str→Option Value)→Heap→Prop} {YP:World→Heap→Prop} {d:DefRec} {K:Params→PySem.W.Frag} {CX:CXT} {ps:List Str} {sp:PySem.W.Frag→Sp}
  (hwell:r.wellSaid=true) (hdf:d.params.defaults= []) (hlen:r.args.length=ps.length) (hr:Room k callerA)
  (hY:∀(w:World) (h:Heap),YP w h→(K w.params).In h)
  (F:∀(w:World) (mg:Str→Option Value) (fa:Addr) (h:Heap),YP w h→(K w.params).In h→h.Ns mainGlobals mg→mg d.name=some (.ref fa)→
   ∃fd:FuncData,(∀(s:Shared) (us:List Value),us.length=ps.length→BindsTo s fd ⟨us,[]⟩ (ps.zip us))∧
    ∀base:Heap,(K w.params).In base→base.Ns mainGlobals mg→FnOk r.prog w (K w.params) mg base CX k fa fd ps (sp (K w.params)))
  (hsp:∀(K:PySem.W.Frag) (H:Hp) (xs:List V) (a:Codec.denoteAll r.args),OnlyF H→Codec.withinAll r.args a=true→Codec.app r.args r.asked a=true→DwAll K H xs (Codec.encAll r.args a)→
   sp K xs H (fun v H'=>Dw K H' v (r.ret.enc (Codec.app r.args r.f a))) fun _ _ _=>False)
  (hCX:∀(H:Hp) (s:Shared) (e:Value) (s':Shared),CX [] H s (fun _ _ _=>False) e s'→False):
  PySem.W.WalkOS q loose XP YP r d [] (fun f vs=>PySem.call f vs):=
 walk_spec (K:=K) (CX:=fun _=>CX) (sp:=fun w=>sp (K w.params)) hwell hdf hlen hr hY F (fun w H xs a h1 h2 h3 h4=>hsp (K w.params) H xs a h1 h2 h3 h4) fun _ H s e s'=>hCX H s e s'
end L2
end
namespace LX
open PySem PySem.Spec PyProof.Rows L2
section
variable {M:Model} {A:Around} {E:Value→Shared→Prop} {s:Shared}
theorem note_congr {e:Value} {c d:Env} (h:c.frame=d.frame):noteFrame e c=noteFrame e d:=by
 unfold noteFrame PySem.frameOf
 rw [h]
theorem note_any {B:Heap} {env:Env} {outer:List Env} {L e:Addr} {cls a0 fl:Value} {Q:Unit→Shared→Prop}
  (hfr:A.frames=some (env::outer)) (hf:env.frame=some L) (hl:s.heap.FunFrames B (env::outer))
  (ht:s.heap.TracedAtW B e cls a0 fl) (hB:B.StaysIn s.heap) (hen:B.get? e=none)
  (h:∀h',Heap.HeldW B (env::outer) e cls a0 L h'→s.heap.UpToSlots h'→Q () {s with heap:=h'}):
  wpAny M A (noteFrame (.ref e) env) Q E s:=by
 obtain ⟨oe,vs,T,oT,ts,he,⟨hc,h0⟩,hd,h1,nT,hTe,hT,hdT,h3⟩:=id ht
 by_cases q:fl=rawInt L
 ·subst q
  exact wpAny_noteFrame_againW hf ht (h s.heap ⟨hB,hen,hl,ht⟩ (Heap.UpToSlots.refl _))
 ·subst hc
  have oth:∀b,b≠T→(s.heap.update T (Obj.mapFields (·.setIfInBounds 3 Value.none))).get? b=s.heap.get? b:=
   fun b hb=>Heap.get?_update_other _ _ (Ne.symm hb)
  have nr:∀b o,s.heap.get? b=some o→(∀us,o.data≠.fields us)→b≠T:=fun b o hb nf z=>by
   rw [z,hT] at hb
   cases hb
   exact nf ts hdT
  unfold noteFrame
  simp only [hf]
  refine wpAny_bind (wpAny_field he hd h1 ?_)
  rw [if_pos (show (Value.ref T !=Value.none)=true by simp)]
  refine wpAny_bind (wpAny_field hT hdT h3 ?_)
  rw [if_neg (show¬((fl==rawInt L)=true) from fun z=>q (beq_iff_eq.mp z))]
  refine wpAny_bind (wpAny_setField hT hdT (Array.getElem?_eq_some_iff.mp h3).1 ?_)
  refine wpAny_entryW (a0:=a0) hfr ?_ hf ((oth e (Ne.symm hTe)).trans he) ?_ hen hd (Array.getElem?_eq_some_iff.mp h1).1 h0 ?_
  ·exact hl.of_keeps fun b o hb nf=>⟨o,(oth b (nr b o hb nf)).trans hb,rfl⟩
  ·intro b o hbo
   refine (oth b fun z=>?_).trans (hB b o hbo)
   rw [z,nT] at hbo
   cases hbo
  ·rintro h' ⟨x1,x2,x3,x4⟩
   exact h h' ⟨x1,hen,x2,x3⟩ fun b o hb nf=>x4 b o ((oth b (nr b o hb nf)).trans hb) nf
theorem leave_any {B:Heap} {env:Env} {outer:List Env} {L e:Addr} {cls a0 fl:Value} {Q:Unit→Shared→Prop}
  (hfr:A.frames=some (env::outer)) (hf:env.frame=some L) (hl:s.heap.FunFrames B (env::outer))
  (ht:s.heap.TracedAtW B e cls a0 fl) (hB:B.StaysIn s.heap) (hen:B.get? e=none)
  (h:∀h',Heap.FlyingW B outer e cls a0 h'→s.heap.UpToSlots h'→Q () {s with heap:=h'}):
  wpAny M A (leaving env (.ref e)) Q E s:=by
 unfold leaving
 refine wpAny_bind (note_any hfr hf hl ht hB hen fun h1 hh u1=>?_)
 refine wpAny_landsW (s:={s with heap:=h1}) hh fun h2 ⟨k1,k2,⟨_,_,k3⟩,k4⟩ u2=>?_
 exact h h2 ⟨k1,k2,k3,k4⟩ (u1.trans u2)
theorem pass_any {α:Type} {B:Heap} {l:List Env} {env:Env} {e:Addr} {cls a0 fl:Value} {what:String} {Q:α→Shared→Prop}
  (hl:s.heap.FunFrames B l) (ht:s.heap.TracedAtW B e cls a0 fl) (hB:B.StaysIn s.heap)
  (h:∀h' fl',B.StaysIn h'→h'.FunFrames B l→h'.TracedAtW B e cls a0 fl'→(∀b o,s.heap.get? b=some o→(∀vs,o.data≠.fields vs)→h'.get? b=some o)→E (.ref e) {s with heap:=h'}):
  wpAny M A (passOn what (.ref e) env:Sem α) Q E s:=by
 obtain ⟨oe,vs,T,oT,ts,he,hc,hd,h1,nT,hTe,hT,hdT,h3⟩:=ht
 have hz:3<ts.size:=(Array.getElem?_eq_some_iff.mp h3).1
 have oth:∀x b,b≠T→(s.heap.update T (Obj.mapFields (·.setIfInBounds 3 x))).get? b=s.heap.get? b:=
  fun x b hb=>Heap.get?_update_other _ _ (Ne.symm hb)
 have nr:∀b o,s.heap.get? b=some o→(∀us,o.data≠.fields us)→b≠T:=fun b o hb nf z=>by
  rw [z,hT] at hb
  cases hb
  exact nf ts hdT
 have go:wpAny M A (do setFlight (.ref e) env.frame;throw (Value.ref e):Sem α) Q E s:=by
  refine wpAny_bind ?_
  unfold setFlight
  refine wpAny_bind (wpAny_field he hd h1 ?_)
  rw [if_pos (show (Value.ref T !=Value.none)=true by simp)]
  refine wpAny_setField hT hdT hz (wpAny_throw (h _ (env.frame.elim .none fun f=>rawInt f) ?_ ?_ ?_ ?_))
  ·intro b o hbo
   refine (oth _ b fun z=>?_).trans (hB b o hbo)
   rw [z,nT] at hbo
   cases hbo
  ·exact hl.of_keeps fun b o hb nf=>⟨o,(oth _ b (nr b o hb nf)).trans hb,rfl⟩
  ·exact ⟨oe,vs,T,_,_,(oth _ e (Ne.symm hTe)).trans he,hc,hd,h1,nT,hTe,Heap.get?_update_self _ hT (Obj.isFreed_of_fields (Obj.data_mapFields hdT _)),Obj.data_mapFields hdT _,by simp [hz]⟩
  ·exact fun b o hb nf=>(oth _ b (nr b o hb nf)).trans hb
 unfold PySem.passOn
 refine wpAny_bind (wpAny_field he hd h1 ?_)
 rw [if_neg (show¬((Value.ref T==Value.none)=true) by simp)]
 first|exact go|exact wpAny_bind (wpAny_pure go)
end
def Fly (l:List Env) (old:Heap) (H:Hp) (C:Addr) (e:Value) (h:Heap):Prop:=
 ∃a B a0 fl,e=.ref a∧B.StaysIn h∧B.get? a=none∧h.FunFrames B l∧h.TracedAtW B a (.ref C) a0 fl∧
  ∀b o,h.get? b=some o→b∉frs l→(H b≠none∨∃o',old.get? b=some o')→B.get? b=some o
def CXL (P:Program) (w:World):CXT:=fun outer H s E e s'=>∃C H',E (.ref C) none H'∧s'.os=s.os∧AllBare s'.gens∧Un (frs outer) [] H H' s.heap s'.heap∧HOk P w H' s'.heap∧Fly outer s.heap H' C e s'.heap
structure Old (X:Cx) (pins:List (Addr×Obj)) (old:Heap):Prop where
 ent:∀b o,X.s_0.heap.get? b=some o→b∉X.ex→∃o',old.get? b=some o'
 pin:∀p∈X.pn++pins,∃o',old.get? p.1=some o'
def PassX (X:Cx) (E:XK):Prop:=∀(pins:List (Addr×Obj)) (σ:L2.St) (H:Hp) (s:Shared) (old:Heap) (C:Addr) (e:Value),
 Inv X pins σ H s→Old X pins old→Fly X.stack old H C e s.heap→E (.ref C) none H→X.xe e s
theorem Old.here {X:Cx} {pins:List (Addr×Obj)} {σ:L2.St} {H:Hp} {s:Shared} (I:Inv X pins σ H s):Old X pins s.heap:=
 ⟨fun b o e hx=>I.base.there b o e hx,fun p hp=>⟨_,(I.pin p hp).1⟩⟩
theorem PassX.passes {X:Cx} {E:XK} (p:PassX X E):Passes (CXL X.prog X.w) X E:=by
 rintro pins σ H s e s' I ⟨C,H',hE,ho,hb,un,hok,fl⟩
 have I':Inv X pins σ H' s':=I.call' (ch:= []) ho un hok hb fun _ z=>nomatch z
 exact p pins σ H' s' s.heap C e I' (Old.here I) fl hE
theorem ObjOk.at {P:Program} {w:World} {H:Hp} {h:Heap} {a:Addr} {o:HO} (x:ObjOk P w H h a o):∃u,h.get? a=some u:=by
 cases o with
 |lst xs=>obtain ⟨_,_,_,_,e⟩:=x;exact ⟨_,e⟩
 |tup xs=>obtain ⟨_,_,_,ob,e,_⟩:=x;exact ⟨_,e⟩
 |dK kvs=>obtain ⟨_,_,_,_,o,_,_,e,_⟩:=x;exact ⟨_,e⟩
 |dT kvs=>obtain ⟨_,_,_,_,o,_,_,e,_⟩:=x;exact ⟨_,e⟩
 |set S n=>obtain ⟨o,_,_,_,e,_⟩:=x;exact ⟨_,e⟩
 |ins C dx fs=>obtain ⟨_,_,_,e,_⟩:=x;exact ⟨_,e⟩
 |own y=>obtain ⟨_,e⟩:=x;exact ⟨_,e⟩
 |xd fs=>obtain ⟨_,⟨_,_,_,e,_⟩,_⟩:=x;exact ⟨_,e⟩
 |rng lo hi=>obtain ⟨_,_,_,e⟩:=x;exact ⟨_,e⟩
 |frz ob u=>obtain ⟨e,_⟩:=x;exact ⟨_,e⟩
 |tbl ps=>exact ⟨_,(show h.get? a=some _ from x)⟩
 |met f y=>exact ⟨_,(show h.get? a=some _ from x)⟩
 |ext φ=>obtain ⟨_,e,_⟩:=x;exact e
theorem un_fly {fs ex:List Addr} {H0 H:Hp} {h0 h h':Heap} (u:Un fs ex H0 H h0 h)
  (cov:∀b o,h.get? b=some o→b∉fs→(H b≠none∨∃o',h0.get? b=some o')→b∉ex→h'.get? b=some o)
  (up:∀b o,h.get? b=some o→b∈fs→∃sl,h'.get? b=some {o with slots:=sl}):Un fs ex H0 H h0 h' where
 keep:=fun b o e n hb hx=>cov b o (u.keep b o e n hb hx) hb (.inr ⟨o,e⟩) hx
 slot:=fun b o e n hb hx=>by
  obtain ⟨sl,e1⟩:=u.slot b o e n hb hx
  obtain ⟨sl',e2⟩:=up b _ e1 hb
  exact ⟨sl',e2⟩
 free:=u.free
 there:=fun b o e hx=>by
  obtain ⟨o',e1⟩:=u.there b o e hx
  by_cases hb:b∈fs
  ·obtain ⟨sl,e2⟩:=up b _ e1 hb
   exact ⟨_,e2⟩
  ·exact ⟨o',cov b o' e1 hb (.inr ⟨o,e⟩) hx⟩
 tups:=u.tups
 frzs:=u.frzs
 tbls:=u.tbls
theorem hok_fly {P:Program} {w:World} {H:Hp} {h h':Heap} (ok:HOk P w H h) (k:∀b o,h.get? b=some o→H b≠none→h'.get? b=some o):HOk P w H h':=fun b u e=>
 (ok b u e).stay (fun c v hc q=>k c v q (by
  rcases hc with z|z
  ·rw [z,e];exact fun z=>nomatch z
  ·rw [z];exact fun z=>nomatch z)) (fun _ q=>q) fun _ _ q=>q
section
variable {X:Cx} {pins:List (Addr×Obj)} {σ:L2.St} {H:Hp} {s:Shared} {h':Heap} {a C:Addr} {B:Heap} {a0:Value}
theorem fly_out (I:Inv X pins σ H s) (hex:X.ex= []) (hst:X.stack=X.env::X.outer) (hf:X.env.frame=some X.env.locals)
  (f:Heap.FlyingW B X.outer a (.ref C) a0 h') (up:s.heap.UpToSlots h')
  (cov:∀b o,s.heap.get? b=some o→b∉frs X.stack→(H b≠none∨∃o',X.s_0.heap.get? b=some o')→B.get? b=some o) {E:XK} (hE:E (.ref C) none H):
  CXL X.prog X.w X.outer X.H_0 X.s_0 E (.ref a) {s with heap:=h'}:=by
 obtain ⟨f1,f2,f3,f4⟩:=f
 have hL:∀b,b∈frs X.stack→b=X.env.locals∨b∈frs X.outer:=fun b hb=>by
  rw [hst] at hb
  unfold frs at hb ⊢
  rw [List.filterMap_cons,hf] at hb
  exact List.mem_cons.mp hb
 have fr:∀b,b∈frs X.outer→∃o,s.heap.get? b=some o∧∀vs,o.data≠.fields vs:=fun b hb=>(I.funs.mem hb).2
 have nL:∀b,(H b≠none∨∃o',X.s_0.heap.get? b=some o')→b≠X.env.locals:=fun b hb z=>by
  rcases hb with q|⟨o',q⟩
  ·exact q (by rw [z];exact I.free)
  ·rw [z] at q
   exact absurd (Nat.lt_of_lt_of_le (Heap.lt_size q) I.ok.above) (Nat.lt_irrefl _)
 have cov':∀b o,s.heap.get? b=some o→b∉frs X.outer→(H b≠none∨∃o',X.s_0.heap.get? b=some o')→B.get? b=some o:=fun b o e hb hk=>
  cov b o e (fun z=>(hL b z).elim (nL b hk) hb) hk
 have nfr:∀b,H b≠none→b∉frs X.outer:=fun b hb z=>hb (by
  obtain ⟨_,o,ho,_⟩:=I.ok.funs.mem z
  exact I.base.free b o ho (I.ok.frf b z) (by rw [hex];simp))
 have u0:Un (frs X.outer) [] X.H_0 H X.s_0.heap s.heap:=by
  have q:=I.base
  rw [hex] at q
  exact q
 refine ⟨C,H,hE,I.os,I.bare,?_,?_,a,B,a0,.none,rfl,f1,f2,f3,f4,?_⟩
 ·refine un_fly u0 (fun b o e hb hk _=>f1 b o (cov' b o e hb hk)) fun b o e hb=>?_
  obtain ⟨o',e',nf⟩:=fr b hb
  rw [e] at e'
  cases e'
  exact up b o e nf
 ·exact hok_fly I.hok fun b o e hk=>f1 b o (cov' b o e (nfr b hk) (.inl hk))
 ·intro b o e hb hk
  cases q:s.heap.get? b with
  |some o1=>
   have z:=f1 b o1 (cov' b o1 q hb hk)
   have e:h'.get? b=some o:=e
   rw [z] at e
   cases e
   exact cov' b o q hb hk
  |none=>
   exfalso
   rcases hk with hk|⟨o',hk⟩
   ·cases w:H b with
    |none=>exact hk w
    |some u=>
     obtain ⟨v,hv⟩:=ObjOk.at (I.hok b u w)
     rw [q] at hv
     cases hv
   ·obtain ⟨v,hv⟩:=I.base.there b o' hk (by rw [hex];simp)
    rw [q] at hv
    cases hv
end
theorem pass_body {P:Program} {w:World} {K:PySem.W.Frag} {mg:Str→Option Value} {base:Heap} {N:List Str} {qual:Str} {scope:Scope} {f:Addr} {cd:Value} {A:Around} {outer:List Env} {s0:Shared} {H0:Hp} {E:XK}:
  PassX (cxOf (CXL P w) P w K mg base N qual scope f cd A outer s0 H0 E) E:=by
 rintro pins σ H s old C e I O ⟨a,B,a0,fl,rfl,q2,q3,q4,q5,q6⟩ hE
 refine leave_any (L:=s0.heap.objs.size) I.ok.frames rfl q4 q5 q2 q3 fun h' f u=>fly_out I rfl rfl rfl f u (fun b o e1 e2 e3=>q6 b o e1 e2 ?_) hE
 rcases e3 with z|⟨o',z⟩
 ·exact .inl z
 ·exact .inr (O.ent b o' z (fun z=>nomatch z))
theorem own_body {P:Program} {w:World} {K:PySem.W.Frag} {mg:Str→Option Value} {base:Heap} {N:List Str} {qual:Str} {scope:Scope} {f:Addr} {cd:Value} {A:Around} {outer:List Env} {s0:Shared} {H0:Hp} {E:XK} {CX:CXT}:
  PassesOwn (model P w) (cxOf CX P w K mg base N qual scope f cd A outer s0 H0 E).A (cxOf CX P w K mg base N qual scope f cd A outer s0 H0 E).env (cxOf CX P w K mg base N qual scope f cd A outer s0 H0 E).xe:=by
 intro e s' h
 exact wpAny_leaving_again (SameStack.refl _) h
section
variable {X:Cx} {pins:List (Addr×Obj)} {σ:L2.St} {H:Hp} {s:Shared} {h':Heap} {old:Heap}
theorem inv_flown (I:Inv X pins σ H s) (O:Old X pins old) (cov:∀b o,s.heap.get? b=some o→b∉frs X.stack→(H b≠none∨∃o',old.get? b=some o')→h'.get? b=some o)
  (up:s.heap.UpToSlots h'):Inv X pins σ H {s with heap:=h'}:=by
 have fr:∀b,b∈X.fs→∃o,s.heap.get? b=some o∧∀vs,o.data≠.fields vs:=fun b hb=>(I.funs.mem hb).2
 have nst:∀b,b≠X.env.locals→b∉X.fs→b∉frs X.stack:=fun b h1 h2 z=>(List.mem_cons.mp (I.stkSub b z)).elim h1 h2
 have nL:∀b,(H b≠none∨∃o',X.s_0.heap.get? b=some o')→b≠X.env.locals:=fun b hb z=>by
  rcases hb with q|⟨o',q⟩
  ·exact q (by rw [z];exact I.free)
  ·rw [z] at q
   exact absurd (Nat.lt_of_lt_of_le (Heap.lt_size q) I.ok.above) (Nat.lt_irrefl _)
 have cellK:∀c v,s.heap.IsCell c v→h'.IsCell c v:=fun c v ⟨o,ho,hd⟩=>by
  obtain ⟨sl,q⟩:=up c o ho fun vs z=>by rw [hd] at z;cases z
  exact ⟨_,q,hd⟩
 refine ⟨I.ok,I.os,I.bare,?_,?_,fun x c e=>?_,I.free,I.freeC,fun p hp=>?_,?_,I.len⟩
 ·refine un_fly I.base (fun b o e hb hk hx=>cov b o e (nst b (nL b hk) hb) ?_) fun b o e hb=>?_
  ·rcases hk with z|⟨o',z⟩
   ·exact .inl z
   ·exact .inr (O.ent b o' z hx)
  ·obtain ⟨o',e',nf⟩:=fr b hb
   rw [e] at e'
   cases e'
   exact up b o e nf
 ·obtain ⟨m,hn,hl⟩:=I.loc
  refine ⟨m,up.ns hn,fun i x v e1 e2 e3=>?_⟩
  obtain ⟨u,r,l⟩:=hl i x v e1 e2 e3
  refine ⟨u,r,?_⟩
  rcases l with l|⟨k,c,e,z⟩
  ·exact .inl l
  ·exact .inr ⟨k,c,e,cellK c _ z⟩
 ·obtain ⟨v,z⟩:=I.cell x c e
  exact ⟨v,cellK c v z⟩
 ·obtain ⟨e,n,ne,nf,d⟩:=I.pin p hp
  exact ⟨cov p.1 p.2 e (nst _ ne nf) (.inr (O.pin p hp)),n,ne,nf,d⟩
 ·refine hok_fly I.hok fun b o e hk=>cov b o e (fun z=>hk (I.stkFree b z)) (.inl hk)
end
abbrev excMro:List Value:= [.type "Exception",.type "BaseException",.type "object"]
def ExcC (K:PySem.W.Frag) (C:Addr):Prop:=PySem.W.excIn K C excMro "Exception.__new__"=true
theorem exc_obj {K:PySem.W.Frag} {h:Heap} {C:Addr} {bmB:List Value} {newId:String} (X:K.In h) (q:PySem.W.excIn K C bmB newId=true):
  ∃bm N nm qn bs hdct sn sub ab col dd k0 k1 k2 k3 k5 mN,h.get? C=some (excClassObj nm qn C N bs bm hdct sn sub ab col dd k0 k1 k2 k3 k5 newId)∧
   h.Ns N mN∧mN "__init__"=none∧OwnTail h bmB bm:=by
 unfold PySem.W.excIn at q
 split at q
 ·rename_i dd cd sl hC
  split at q
  ·rename_i C' bm k0 k1 k2 k3 n k5 hm hsl
   rw [Bool.and_eq_true,Bool.and_eq_true,Bool.and_eq_true,Bool.and_eq_true,Bool.and_eq_true] at q
   obtain ⟨⟨⟨⟨⟨e1,e2⟩,e3⟩,e4⟩,e5⟩,e6⟩:=q
   have e1:=beq_iff_eq.mp e1
   have e2:=beq_iff_eq.mp e2
   subst e1 e2
   cases cd with
   |mk nm bs mro ns qn hd sn sub ab col del=>
    dsimp only at hm e3 e5 e6
    have e6:=beq_iff_eq.mp e6
    have e3:del=false:=by simpa using e3
    subst hm e3
    have esl:sl= #[k0,k1,k2,k3,some (.builtin n),k5]:=Array.toList_inj.mp hsl
    subst esl
    have i1:=Heap.Ns.of_isNs (PySem.W.isNs_of_in X e5)
    have i2:=PySem.W.nsMap_none_of_in X e5 e6
    exact ⟨bm,ns,nm,qn,bs,hd,sn,sub,ab,col,dd,k0,k1,k2,k3,k5,_,X _ _ hC,i1,i2,PySem.W.tail_of_in X e4⟩
  ·cases q
 ·cases q
def tRaise (C:Addr) (E:XK) (t:TA):TS:=fun _ σ H=>t σ H fun vs H1=>vs.length≤sizeLine∧E (.ref C) none H1
theorem ps_raise {P:Program} {w:World} {K:PySem.W.Frag} {mg:Str→Option Value} {base:Heap} {N:List Str} {qual:Str} {scope:Scope} {f:Addr} {cd:Value} {A:Around} {outer:List Env} {s0:Shared} {H0:Hp} {E:XK}
  {C:Addr} {x:Str} {np cpos pos:Pos} {e0:Expr} {es:List Expr} {t:TA} (q:ExcC K C)
  (hg:Gl (cxOf (CXL P w) P w K mg base N qual scope f cd A outer s0 H0 E) x) (hm:mg x=some (.ref C))
  (ha:PA (cxOf (CXL P w) P w K mg base N qual scope f cd A outer s0 H0 E) (e0::es) t) (hdb:(x==("__debug__":Str))=false:=by decide)
  (he:starEach (e0::es) (cxOf (CXL P w) P w K mg base N qual scope f cd A outer s0 H0 E).env=(false,eval e0 (cxOf (CXL P w) P w K mg base N qual scope f cd A outer s0 H0 E).env)::starEach es (cxOf (CXL P w) P w K mg base N qual scope f cd A outer s0 H0 E).env:=by rfl)
  (hpl:(backTo cpos (starEach es (cxOf (CXL P w) P w K mg base N qual scope f cd A outer s0 H0 E).env)).any (·.1)=false:=by rfl):
  PS (cxOf (CXL P w) P w K mg base N qual scope f cd A outer s0 H0 E) (.Raise (some (.Call (.Name x np) (e0::es) [] cpos)) none pos) (tRaise C E t):=by
 intro pins s σ H D I h
 obtain ⟨bm,Na,nm,qn,bs,hdct,sn,sub,ab,col,dd,k0,k1,k2,k3,k5,mN,hC,hN,hni,T⟩:=exc_obj I.ok.mod.kin q
 have FB:=PySem.F.excBase_Exception
 refine wpAny_Raise_call_subT (C:=C) (nm:=nm) (q:=qn) (N:=Na) (bs:=bs) (bm:=bm) (hdct:=hdct) (sn:=sn) (sub:=sub) (ab:=ab) (col:=col) (dd:=dd) (k0:=k0) (k1:=k1) (k2:=k2) (k3:=k3) (k5:=k5)
  FB (mN:=mN) (T.hasType FB.hasBase) (I.ok.hd rfl) (by rw [he];exact hpl) hni (ld_glob I hg hm ⟨rfl,?_⟩ hdb)
 have h2:=ha cpos pins s σ H _ I h
 rw [he] at h2 ⊢
 refine Calls.evalArgs_plain (wpAny_mono h2 (fun us s2 ⟨vs,H2,I2,r,hz,hE⟩=>?_) fun _ _ y=>y)
 refine ⟨rfl,by show us.length≤_;rw [←r.length];exact hz,I2.bk _ _ hC,hN.keeps I2.bk,T.keeps I2.bk,fun h' e hx=>?_⟩
 have hin:∀env∈(cxOf (CXL P w) P w K mg base N qual scope f cd A outer s0 H0 E).stack,∀a,env.frame=some a→a∈frs (cxOf (CXL P w) P w K mg base N qual scope f cd A outer s0 H0 E).stack:=fun env h1 a h2=>List.mem_filterMap.mpr ⟨env,h1,h2⟩
 refine wpAny_leaves_madeW (base:=PySem.W.hideAll s2.heap (frs (cxOf (CXL P w) P w K mg base N qual scope f cd A outer s0 H0 E).stack)) (h:=s2.heap) (L:=s0.heap.objs.size) I2.ok.frames rfl
  (fun b o z=>PySem.W.of_hideAll _ z) (PySem.W.funFrames_hide I2.stack hin) hx fun h3 t f3 _ _ u3=>?_
 exact fly_out I2 rfl rfl rfl f3 ((Heap.UpToSlots.of_keeps hx.keeps).trans u3) (fun b o e1 e2 _=>PySem.W.hideAll_get _ e1 e2) hE
section
variable {P:Program} {w:World} {K:PySem.W.Frag} {mg:Str→Option Value} {base:Heap}
theorem okX {x qual:Str} {st:Stmt} {f:Addr} {fd:FuncData} {N ps:List Str} {k:Nat} {sp:Sp} (F:Fun K x qual st f fd) (S:FnScope N ps (defScope st)) (len:∀vs H Q E,sp vs H Q E→vs.length=ps.length)
  (hbody:∀(cdv:Value) (A:Around) (outer:List Env) (s:Shared) (H:Hp) (vs:List V) (Q:VK) (E:XK),Room k (A.deeper (envOfC qual (defScope st) s.heap.objs.size f cdv))→sp vs H Q E→
   ∃t,PSs (cxOf (CXL P w) P w K mg base N qual (defScope st) f cdv A outer s H E) (defBody st) t∧t {nx:=fun _ H'=>Q .non H',rt:=Q} (L2.start N vs) H):FnOk P w K mg base (CXL P w) (k+1) f fd ps sp:=by
 obtain ⟨oc,od,kV,doc,pm,an,cdv,ct,osl,rfl,lk,hcd⟩:=F.ex
 exact fn_of lk hcd S len fun A outer s H vs Q E hr hsp=>hbody cdv A outer s H vs Q E hr hsp
end
section
variable {X:Cx} {C:Addr} {x:Str} {np hpos pos:Pos} {b0:Stmt} {body suite:List Stmt} {th:TS} {tb:XK→TS}
def tTry (C:Addr) (tb:XK→TS) (th:TS):TS:=fun D σ H=>tb (fun c _ H'=>c=.ref C∧th D (List.replicate σ.length none) H') D σ H
theorem ps_try (hcal:X.calm=true) (hst:X.stack=X.env::X.outer) (hf:X.env.frame=some X.env.locals) (q:ExcC X.K C) (hg:Gl X x) (hm:X.mg x=some (.ref C))
  (hb:∀pn E' E,PassX {X with pn:=pn,xe:=E'} E→PSs {X with pn:=pn,xe:=E'} body (tb E))
  (hs:∀A',PSs {X with A:=A',calm:=false,xe:=fun _ _=>False} (b0::suite) th) (hdb:(x==("__debug__":Str))=false:=by decide):
  PS X (.Try body [.ExceptHandler (some (.Name x np)) none (b0::suite) hpos] [] [] pos) (tTry C tb th):=by
 intro pins s σ H D I h
 have toZ:∀{A' c E'} {σ H s} {pn:List (Addr×Obj)},Inv X pn σ H s→A'.frames=some X.stack→(c=true→A'.handled=none)→Inv {X with A:=A',calm:=c,pn:=X.pn++pn,xe:=E'} [] σ H s:=by
  intro A' c E' σ H s pn J hA hc
  refine ⟨⟨J.ok.mod,J.ok.kind,J.ok.glob,J.ok.blt,J.ok.above,J.ok.inj,J.ok.has,J.ok.cab,hc,hA,J.ok.stk,J.ok.exf,J.ok.bs,J.ok.bsz,J.ok.noex,J.ok.exfs,J.ok.funs,J.ok.frf⟩,J.os,J.bare,J.base,J.loc,J.cell,J.free,J.freeC,fun p hp=>?_,J.hok,J.len⟩
  exact J.pin p (by simpa using hp)
 have ofZ:∀{A' c E'} {σ H s} {pn pl:List (Addr×Obj)},Inv {X with A:=A',calm:=c,pn:=X.pn++pn,xe:=E'} pl σ H s→Inv X pn σ H s:=by
  intro A' c E' σ H s pn pl J
  refine ⟨⟨J.ok.mod,J.ok.kind,J.ok.glob,J.ok.blt,J.ok.above,J.ok.inj,J.ok.has,J.ok.cab,I.ok.hd,I.ok.frames,J.ok.stk,J.ok.exf,J.ok.bs,J.ok.bsz,J.ok.noex,J.ok.exfs,J.ok.funs,J.ok.frf⟩,J.os,J.bare,J.base,J.loc,J.cell,J.free,J.freeC,fun p hp=>?_,J.hok,J.len⟩
  exact J.pin p (List.mem_append_left _ hp)
 refine wpAny_Try_except ?_
 generalize hE':(fun e s₁=>wpAny (model X.prog X.w) X.A (noteFrame e X.env) (fun _ s₂=>wpAny (model X.prog X.w) X.A (setFlight e none) (fun _ s₃=>wpAny (model X.prog X.w) X.A (handleBy e X.env [.ExceptHandler (some (.Name x np)) none (b0::suite) hpos]) (SP X pins D) X.xe s₃) X.xe s₂) X.xe s₁)=E'
 have pass:PassX {X with pn:=X.pn++pins,xe:=E'} (fun c _ H'=>c=.ref C∧th D (List.replicate σ.length none) H'):=by
  rintro pins' σ' H' s' old C' e J O ⟨a,B,a0,fl,rfl,q2,q3,q4,q5,q6⟩ ⟨hC,hth⟩
  cases hC
  show E' _ _
  rw [←hE']
  have q4:s'.heap.FunFrames B (X.env::X.outer):=by rw [←hst];exact q4
  have hfr:X.A.frames=some (X.env::X.outer):=by rw [←hst];exact I.ok.frames
  refine note_any hfr hf q4 q5 q2 q3 fun h2 hh u2=>?_
  refine wpAny_landsW (s:={s' with heap:=h2}) hh fun h3 f3 u3=>?_
  have up:=u2.trans u3
  have J3:=inv_flown J O (fun b o e1 e2 e3=>f3.1 b o (q6 b o e1 e2 e3)) up
  refine wpAny_handleBy_cons (codeAny_handlers_test ?_) (by intro z;cases z)
  have J4:Inv {X with A:=X.A.mark (some (.ref a)),calm:=false,pn:=X.pn++pins,xe:=fun _ _=>False} [] σ' H' {s' with heap:=h3}:=toZ (ofZ J3) I.ok.frames (fun z=>nomatch z)
  refine ld_glob (X:={X with A:=X.A.mark (some (.ref a)),calm:=false,pn:=X.pn++pins,xe:=fun _ _=>False}) J4 hg hm ?_ hdb
  obtain ⟨bm,Na,nm,qn,bs,hdct,sn,sub,ab,col,dd,k0,k1,k2,k3,k5,mN,hCo,hN,hni,T⟩:=exc_obj J4.kIn q
  obtain ⟨oe,he,hce⟩:=f3.there
  refine wpAny_excMatches_sub_self hCo he hce (T.hasType PySem.F.excBase_Exception.hasBase) ?_
  refine codeAny_handlers_suite (lands_againW (s:={s' with heap:=h3}) f3 fun h5 f5 u5=>?_)
  have J5:=inv_flown (s:=s') J O (fun b o e1 e2 e3=>f5.1 b o (q6 b o e1 e2 e3)) (up.trans u5)
  have J6:Inv {X with A:=X.A.mark (some (.ref a)),calm:=false,pn:=X.pn++pins,xe:=fun _ _=>False} [] σ' H' {s' with heap:=h5}:=toZ (ofZ J5) I.ok.frames (fun z=>nomatch z)
  have J7:Inv {X with A:=X.A.mark (some (.ref a)),calm:=false,xe:=fun _ _=>False} pins (List.replicate σ.length none) H' {s' with heap:=h5}:=by
   have z:=J6.weak (σ':=List.replicate σ.length none) (by rw [List.length_replicate,I.len];exact J6.len.symm) (fun i v e=>by
    rw [List.getElem?_replicate] at e
    split at e<;>cases e)
   exact ⟨⟨z.ok.mod,z.ok.kind,z.ok.glob,z.ok.blt,z.ok.above,z.ok.inj,z.ok.has,z.ok.cab,z.ok.hd,z.ok.frames,z.ok.stk,z.ok.exf,z.ok.bs,z.ok.bsz,z.ok.noex,z.ok.exfs,z.ok.funs,z.ok.frf⟩,z.os,z.bare,z.base,z.loc,z.cell,z.free,z.freeC,fun p hp=>z.pin p (List.mem_append_left _ hp),z.hok,z.len⟩
  refine wpAny_mono (hs (X.A.mark (some (.ref a))) pins _ _ H' D J7 hth) (fun fl s9 h9=>?_) fun _ _ z=>False.elim z
  have back:∀{σ H s},Inv {X with A:=X.A.mark (some (.ref a)),calm:=false,xe:=fun _ _=>False} pins σ H s→Inv X pins σ H s:=fun {σ H s} z=>
   ⟨⟨z.ok.mod,z.ok.kind,z.ok.glob,z.ok.blt,z.ok.above,z.ok.inj,z.ok.has,z.ok.cab,I.ok.hd,I.ok.frames,z.ok.stk,z.ok.exf,z.ok.bs,z.ok.bsz,z.ok.noex,z.ok.exfs,z.ok.funs,z.ok.frf⟩,z.os,z.bare,z.base,z.loc,z.cell,z.free,z.freeC,z.pin,z.hok,z.len⟩
  cases fl with
  |next=>obtain ⟨σ9,H9,J9,z⟩:=h9;exact ⟨σ9,H9,back J9,z⟩
  |brk=>obtain ⟨σ9,H9,J9,z⟩:=h9;exact ⟨σ9,H9,back J9,z⟩
  |cont=>obtain ⟨σ9,H9,J9,z⟩:=h9;exact ⟨σ9,H9,back J9,z⟩
  |ret v=>obtain ⟨x9,σ9,H9,J9,r9,z⟩:=h9;exact ⟨x9,σ9,H9,back J9,r9,z⟩
 have IZ:Inv {X with pn:=X.pn++pins,xe:=E'} [] σ H s:=toZ (A':=X.A) (c:=X.calm) I I.ok.frames I.ok.hd
 have run:=hb (X.pn++pins) E' _ pass [] s σ H D IZ h
 refine wpAny_mono run (fun fl s1 h1=>?_) fun _ _ z=>z
 have back:∀{σ H s},Inv {X with pn:=X.pn++pins,xe:=E'} [] σ H s→Inv X pins σ H s:=fun {σ H s} z=>ofZ (A':=X.A) (c:=X.calm) (E':=E') z
 cases fl with
 |next=>obtain ⟨σ9,H9,J9,z⟩:=h1;exact wpAny_execs_nil ⟨σ9,H9,back J9,z⟩
 |brk=>obtain ⟨σ9,H9,J9,z⟩:=h1;exact ⟨σ9,H9,back J9,z⟩
 |cont=>obtain ⟨σ9,H9,J9,z⟩:=h1;exact ⟨σ9,H9,back J9,z⟩
 |ret v=>obtain ⟨x9,σ9,H9,J9,r9,z⟩:=h1;exact ⟨x9,σ9,H9,back J9,r9,z⟩
end
end LX
namespace LX
open PySem PySem.Spec PyProof.Rows
open L2
section
variable {X:Cx} {pins:List (Addr×Obj)} {σ:L2.St} {H:Hp} {s:Shared}
theorem inv_xe {E':Value→Shared→Prop} (J:Inv X pins σ H s):Inv {X with xe:=E'} pins σ H s:=
 ⟨⟨J.ok.mod,J.ok.kind,J.ok.glob,J.ok.blt,J.ok.above,J.ok.inj,J.ok.has,J.ok.cab,J.ok.hd,J.ok.frames,J.ok.stk,J.ok.exf,J.ok.bs,J.ok.bsz,J.ok.noex,J.ok.exfs,J.ok.funs,J.ok.frf⟩,J.os,J.bare,J.base,J.loc,J.cell,J.free,J.freeC,J.pin,J.hok,J.len⟩
theorem frames_but {h h' B B':Heap}:∀{l:List Env},h.FunFrames B l→(∀b∈frs l,∀o,h.get? b=some o→h'.get? b=some o)→(∀b,B.get? b=none→B'.get? b=none)→h'.FunFrames B' l
 | [],_,_,_=>trivial
 |env::r,⟨hk,⟨L,o,hf,hn,ho,hd⟩,hr⟩,k,kb=>by
  have hm:L∈frs (env::r):=by unfold frs;rw [List.filterMap_cons,hf];exact List.mem_cons_self
  refine ⟨hk,⟨L,o,hf,kb L hn,k L hm o ho,hd⟩,frames_but hr (fun b hb=>k b ?_) kb⟩
  unfold frs at hb ⊢
  rw [List.filterMap_cons,hf]
  exact List.mem_cons_of_mem _ hb
theorem lcx_pass {E:XK} {s3:Shared} {H3:Hp} {scope:Scope} {ce:Env} {fp:List Addr} {use:Option (Value→Sem Unit)} {Qf:Value→Shared→Prop} {D:Value}
  (hst:X.stack=X.env::X.outer) (hf:X.env.frame=some X.env.locals) (hx:PassX X E) (I3:Inv X pins σ H3 s3) (cL:ce.locals=s3.heap.objs.size) (hce:ce.frame=X.env.frame) (f3:∀b∈fp,FpOk X pins H3 b):
  PassX {X.blk s3 H3 scope ce fp with xe:=notedBy (model X.prog X.w) X.A ce fun e s'=>compPost (model X.prog X.w) X.A X.xe use Qf D s3.heap.objs.size (.error e) s'} E:=by
 rintro pins' σ' H' s' old C' e J O ⟨a,B,a0,fl,rfl,q2,q3,q4,q5,q6⟩ hE
 have q4:s'.heap.FunFrames B (X.env::X.outer):=by rw [←hst];exact q4
 have q6:∀b o,s'.heap.get? b=some o→b∉frs X.stack→(H' b≠none∨∃o',old.get? b=some o')→B.get? b=some o:=q6
 have hfr:X.A.frames=some (X.env::X.outer):=by rw [←hst];exact I3.ok.frames
 have jfree:H' s3.heap.objs.size=none:=by rw [←cL];exact J.free
 have jbase:Un (frs X.stack) fp H3 H' s3.heap s'.heap:=J.base
 have jst:∀b∈frs X.stack,H' b=none:=J.stkFree
 have ent:∀b o,s3.heap.get? b=some o→b∉fp→∃o',old.get? b=some o':=O.ent
 obtain ⟨m,hn,_⟩:=J.loc
 have hn:s'.heap.Ns s3.heap.objs.size m:=by rw [←cL];exact hn
 have nC:∀b,(H' b≠none∨∃o',s3.heap.get? b=some o')→b≠s3.heap.objs.size:=fun b hb z=>by
  rcases hb with q|⟨o',q⟩
  ·exact q (by rw [z];exact jfree)
  ·rw [z] at q
   exact absurd (Heap.lt_size q) (Nat.lt_irrefl _)
 have frlt:∀b∈frs X.stack,b≠s3.heap.objs.size:=fun b hb=>by
  obtain ⟨_,o,ho,_⟩:=I3.stack.mem hb
  exact Nat.ne_of_lt (Heap.lt_size ho)
 show wpAny _ _ (noteFrame (.ref a) ce) _ _ s'
 rw [note_congr hce]
 refine note_any hfr hf q4 q5 q2 q3 fun h2 ⟨a1,a2,a3,a4⟩ u2=>?_
 refine ⟨m,u2.ns hn,fun h3 sb cenv hcl=>?_⟩
 have oC:∀b o vs,h2.get? b=some o→o.data=.fields vs→b≠s3.heap.objs.size:=fun b o vs e d z=>by
  obtain ⟨oc,es,ep,ho,hd,_⟩:=u2.ns hn
  rw [z,ho] at e
  cases e
  rw [hd] at d
  cases d
 obtain ⟨oe,vs,T,oT,ts,he,hc,hd,h1,nT,hTe,hT,hdT,hfl⟩:=a4
 have B':∀b o,(PySem.W.hideAll B [s3.heap.objs.size]).get? b=some o→B.get? b=some o∧b≠s3.heap.objs.size:=fun b o e=>by
  refine ⟨PySem.W.of_hideAll _ e,fun z=>?_⟩
  rw [z,PySem.W.hideAll_none _ (by simp)] at e
  cases e
 have Bn:∀b,B.get? b=none→(PySem.W.hideAll B [s3.heap.objs.size]).get? b=none:=fun b e=>by
  cases q:(PySem.W.hideAll B [s3.heap.objs.size]).get? b with
  |none=>rfl
  |some o=>
   rw [(B' b o q).1] at e
   cases e
 have t3:h3.TracedAtW (PySem.W.hideAll B [s3.heap.objs.size]) a (.ref C') a0 (rawInt X.env.locals):=
  ⟨oe,vs,T,oT,ts,(sb.2 a (oC a oe vs he hd)).trans he,hc,hd,h1,Bn T nT,hTe,(sb.2 T (oC T oT ts hT hdT)).trans hT,hdT,hfl⟩
 have fr3:h3.FunFrames (PySem.W.hideAll B [s3.heap.objs.size]) (X.env::X.outer):=frames_but a3 (fun b hb o e=>(sb.2 b (frlt b (by rw [hst];exact hb))).trans e) Bn
 refine pass_any (s:={s' with heap:=h3}) fr3 t3 (fun b o e=>(sb.2 b (B' b o e).2).trans (a1 b o (B' b o e).1)) fun h4 fl4 b1 b2 b3 b4=>?_
 have cov4:∀b o,s'.heap.get? b=some o→b∉frs X.stack→(H' b≠none∨∃o',s3.heap.get? b=some o')→b∉fp→(PySem.W.hideAll B [s3.heap.objs.size]).get? b=some o:=fun b o e hb hk hp=>by
  refine PySem.W.hideAll_get _ (q6 b o e hb ?_) (by simpa using nC b hk)
  rcases hk with z|⟨o',z⟩
  ·exact .inl z
  ·exact .inr (ent b o' z hp)
 have upS:∀b o,s'.heap.get? b=some o→b∈frs X.stack→∃sl,h4.get? b=some {o with slots:=sl}:=fun b o e hb=>by
  obtain ⟨_,o',e',nf⟩:=q4.mem (by rw [hst] at hb;exact hb)
  rw [e] at e'
  cases e'
  obtain ⟨sl,e2⟩:=u2 b o e nf
  exact ⟨sl,b4 b _ ((sb.2 b (frlt b hb)).trans e2) nf⟩
 have trk:∀b o,s'.heap.get? b=some o→H' b≠none→h4.get? b=some o:=fun b o e hk=>by
  have hb:b∉frs X.stack:=fun z=>hk (jst b z)
  exact b1 b o (PySem.W.hideAll_get _ (q6 b o e hb (.inl hk)) (by simpa using nC b (.inl hk)))
 have un4:Un (frs X.stack) fp H3 H' s3.heap h4:=un_fly jbase (fun b o e hb hk hp=>b1 b o (cov4 b o e hb hk hp)) upS
 have I4:Inv X pins σ H' {s' with heap:=h4}:=I3.call' (ch:=fp) J.os un4 (hok_fly J.hok trk) J.bare fun b hb=>⟨(f3 b hb).2.2.2.1,(f3 b hb).2.1,(f3 b hb).2.2.2.2.1,(f3 b hb).2.2.2.2.2⟩
 have there:∀b,(H' b≠none∨∃o',(PySem.W.hideAll s3.heap fp).get? b=some o')→(∃o1,s'.heap.get? b=some o1)∧(H' b≠none∨∃o',s3.heap.get? b=some o')∧(H' b≠none∨b∉fp):=fun b hb=>by
  rcases hb with q|⟨o',q⟩
  ·cases w:H' b with
   |none=>exact absurd w q
   |some u=>exact ⟨ObjOk.at (J.hok b u w),.inl (by simp),.inl (by simp)⟩
  ·have e:=PySem.W.of_hideAll _ q
   have nf:b∉fp:=fun z=>by
    rw [PySem.W.hideAll_none _ z] at q
    cases q
   exact ⟨jbase.there b o' e nf,.inr ⟨o',e⟩,.inr nf⟩
 refine hx pins σ H' _ (PySem.W.hideAll s3.heap fp) C' _ I4 ⟨fun b o e hb=>?_,fun p hp=>?_⟩ ⟨a,PySem.W.hideAll B [s3.heap.objs.size],a0,fl4,rfl,b1,Bn a q3,by rw [hst];exact b2,b3,fun b o e hb hk=>?_⟩ hE
 ·obtain ⟨o',e'⟩:=I3.base.there b o e hb
  refine ⟨o',PySem.W.hideAll_get _ e' fun z=>?_⟩
  rcases (f3 b z).2.2.2.1 with q|q
  ·exact hb q
  ·exact absurd (Nat.lt_of_lt_of_le (Heap.lt_size e) q) (Nat.lt_irrefl _)
 ·obtain ⟨e,_⟩:=I3.pin p hp
  exact ⟨p.2,PySem.W.hideAll_get _ e fun z=>(f3 p.1 z).2.2.2.2.2 p hp rfl⟩
 ·obtain ⟨⟨o1,e1⟩,k1,k2⟩:=there b hk
  have z:(PySem.W.hideAll B [s3.heap.objs.size]).get? b=some o1:=by
   refine PySem.W.hideAll_get _ (q6 b o1 e1 hb ?_) (by simpa using nC b k1)
   rcases k1 with z|⟨o',z⟩
   ·exact .inl z
   ·rcases k2 with y|y
    ·exact .inl y
    ·exact .inr (ent b o' z y)
  have e:h4.get? b=some o:=e
  rw [b1 b o1 z] at e
  cases e
  exact z
end
section
variable {X:Cx}
theorem lcx_core {E:XK} {pins:List (Addr×Obj)} {s:Shared} {σ:L2.St} {H:Hp} {Q:VK} {elt tg iter:Expr} {ifs:List Expr} {scope:Scope} {own:List (Str×Nat)} {pos pos':Pos} {wi:TI} {g:TG} {tt:TT} {te:TE} {use:Option (Value→Sem Unit)} {Qf:Value→Shared→Prop}
  (hst:X.stack=X.env::X.outer) (hf:X.env.frame=some X.env.locals) (hxp:PassX X E) (hc:X.calm=true) (hN:X.N.Nodup) (I:Inv X pins σ H s) (hi:PI X tg iter wi) (ok:BlkOk X.N X.env.scope scope own)
  (hg:∀(s:Shared) (H:Hp) (C:Addr) (cl:List (Str×Addr)) (fp:List Addr),PG (X.blk s H scope (compEnvC scope cl C X.env) fp) tg g) (ht:∀(s:Shared) (H:Hp) (C:Addr) (cl:List (Str×Addr)) (fp:List Addr),PTs (X.blk s H scope (compEnvC scope cl C X.env) fp) ifs tt)
  (he:∀(s:Shared) (H:Hp) (C:Addr) (cl:List (Str×Addr)) (fp:List Addr) (E':Value→Shared→Prop),PassX {X.blk s H scope (compEnvC scope cl C X.env) fp with xe:=E'} E→PE {X.blk s H scope (compEnvC scope cl C X.env) fp with xe:=E'} elt te) (hs:∀x,foldedSetIterable iter X.env x=pure x)
  (h:tLc wi g tt te (own.map (·.2)) σ H Q)
  (hRR:∀D C s' m H',Inv X pins σ H' s'→Q (.ref D) H'→s'.heap.Ns C m→FpOk X pins H' C→compPost (model X.prog X.w) X.A X.xe use Qf (.ref D) C (.ok .next) s'):
  wpAny (model X.prog X.w) X.A (comprehension (.ListComp elt [⟨tg,iter,ifs,0⟩] scope pos) scope X.env pos' (newList []) false (eval iter X.env) use) Qf X.xe s:=by
 have hfree:∀y∈scope.names,y.2=.free→∃c,X.env.cells.lookup y.1=some c:=fun y hy e=>by
  rcases ok.free y hy e with k|k
  ·exact I.ok.has _ (.inl k)
  ·exact I.ok.has _ (.inr k)
 refine wpAny_comprehension_free (use:=use) rfl hs (closure_ok hfree) ok.kind (fun y hy e=>by rw [ok.uniq y hy,e])
  (thn (hi pins s σ H _ I h) fun xv s1 hx=>thn hx fun itv s2 h2=>?_)
 obtain ⟨it,fp,tn,J,H2,e,I2,T,st2,f2,q⟩:=h2
 subst e
 refine wpAny_newObj_type (newEnv_comp ?_) (by show 0≤sizeLine;decide)
 generalize hD:s2.heap.objs.size=D
 have hDn:H2 D=none:=I2.hok.fresh (Nat.le_of_eq hD)
 obtain ⟨W,⟨m0,w0⟩,turn⟩:=q D hDn
 generalize hs3:({s2 with heap:=s2.heap.push {cls:=.type "list",data:=.seq ([]:List Value).toArray}}:Shared)=s3
 have I3:Inv X pins σ (upd H2 D (.lst [])) s3:=by
  rw [←hs3]
  refine I2.laid (t':=s2.toks) (fun b o e=>Heap.get?_push_of_some _ e) (Nat.le_of_eq hD) ⟨Nat.zero_le _,[],0,.nil,?_⟩
  rw [←hD]
  exact Heap.get?_push_size _ rfl
 have h3:s3.heap=s2.heap.push {cls:=.type "list",data:=.seq ([]:List Value).toArray}:=by rw [←hs3]
 have sz:∀b∈fp,b<s2.heap.objs.size:=fun b hb=>by
  obtain ⟨o,e,_⟩:=T.obj _ _ st2 b hb
  exact Heap.lt_size e
 have f3:∀b∈fp,FpOk X pins (upd H2 D (.lst [])) b∧b<s3.heap.objs.size:=fun b hb=>by
  have hlt:=sz b hb
  refine ⟨⟨?_,(f2 b hb).2⟩,by rw [h3,Heap.size_push];exact Nat.lt_succ_of_lt hlt⟩
  rw [upd_ne (by rw [←hD];exact Nat.ne_of_lt hlt)]
  exact (f2 b hb).1
 have st3:tn 0 s3.heap:=T.keep _ _ _ st2 fun b _ o e=>by rw [h3];exact Heap.get?_push_of_some _ e
 have I4:=block_start I3 ok hN f3
 have pg:=hg s3 (upd H2 D (.lst [])) s3.heap.objs.size (cellsFrom (s3.heap.objs.size+1) scope.names (cloFrom X.env.cells scope.names [])) fp
 have pt:=ht s3 (upd H2 D (.lst [])) s3.heap.objs.size (cellsFrom (s3.heap.objs.size+1) scope.names (cloFrom X.env.cells scope.names [])) fp
 have pe:=he s3 (upd H2 D (.lst [])) s3.heap.objs.size (cellsFrom (s3.heap.objs.size+1) scope.names (cloFrom X.env.cells scope.names [])) fp
 have hfce:(compEnvC scope (cellsFrom (s3.heap.objs.size+1) scope.names (cloFrom X.env.cells scope.names [])) s3.heap.objs.size X.env).frame=X.env.frame:=rfl
 show codeAny _ _ (.compStart (.ListComp elt [⟨tg,iter,ifs,0⟩] scope pos) 0 (.ref it) (.ref D) (compEnvC scope (cellsFrom (s3.heap.objs.size+1) scope.names (cloFrom X.env.cells scope.names [])) s3.heap.objs.size X.env)) (compPost (model X.prog X.w) X.A X.xe use Qf (.ref D) s3.heap.objs.size) {s3 with heap:=pushCells (s3.heap.push {cls:=.type "dict",data:=.dict #[]}) scope.names}
 have nfp:∀b∈fp,(upd H2 D (.lst [])) b=none:=fun b hb=>(f3 b hb).1.1
 generalize hce:compEnvC scope (cellsFrom (s3.heap.objs.size+1) scope.names (cloFrom X.env.cells scope.names [])) s3.heap.objs.size X.env=ce at I4 pg pt pe hfce ⊢
 have cL:ce.locals=s3.heap.objs.size:=by subst hce;rfl
 generalize hH3:upd H2 D (.lst [])=H3 at I3 I4 pg pt pe w0 nfp f3
 generalize hs4:({s3 with heap:=pushCells (s3.heap.push {cls:=.type "dict",data:=.dict #[]}) scope.names}:Shared)=s4 at I4 ⊢
 have st4:tn 0 s4.heap:=T.keep _ _ _ st3 fun b _ o e=>by rw [←hs4];exact pushCells_keeps _ _ _ _ (Heap.get?_push_of_some _ e)
 have stat:∀{σ':L2.St} {H':Hp} {s':Shared},Inv (X.blk s3 H3 scope ce fp) [] σ' H' s'→(∀b∈fp,H' b=none)→∀b∈fp,FpOk (X.blk s3 H3 scope ce fp) [] H' b:=fun {σ' H' s'} I' hn b hb=>
  ⟨hn b hb,(I'.ok.exf b hb).1,I'.ok.exfs b hb,.inl hb,fun x c e=>(I'.ok.exf b hb).2 x c e,fun p hp=>absurd (show p∈([]:List (Addr×Obj))++ [] from hp) (by simp)⟩
 have pass:PassX {X.blk s3 H3 scope ce fp with xe:=notedBy (model X.prog X.w) X.A ce fun e s'=>compPost (model X.prog X.w) X.A X.xe use Qf (.ref D) s3.heap.objs.size (.error e) s'} E:=
  lcx_pass hst hf hxp I3 cL hfce (fun b hb=>(f3 b hb).1)
 have loop:codeAny (model X.prog X.w) X.A (.compLoop (.ListComp elt [⟨tg,iter,ifs,0⟩] scope pos) 0 (.ref it) (.ref D) ce) (compPost (model X.prog X.w) X.A X.xe use Qf (.ref D) s3.heap.objs.size) s4:=by
  refine compLoop_any (fun n s'=>∃i H',Inv (X.blk s3 H3 scope ce fp) [] (wipe σ (own.map (·.2))) H' s'∧tn i s'.heap∧(∀b∈fp,H' b=none)∧W i n H') ?_ m0 ⟨0,H3,I4,st4,nfp,w0⟩
  rintro n s5 ⟨i,H5,I5,st5,n5,w5⟩
  rcases turn i n H5 w5 with ⟨stop,qq⟩|⟨go,Nx,hNx,step⟩
  ·have td:=T.done (X.blk s3 H3 scope ce fp) rfl rfl rfl hc i [] s5 _ H5 (fun _ _=>False) I5 (stat I5 n5) st5 stop
   refine thnF td fun r s6 ⟨hr,I6⟩=>?_
   subst hr
   have I7:Inv X pins σ H5 s6:=I3.call' (ch:=fp) I6.os I6.base I6.hok I6.bare fun b hb=>⟨(f3 b hb).1.2.2.2.1,(f3 b hb).1.2.1,(f3 b hb).1.2.2.2.2.1,(f3 b hb).1.2.2.2.2.2⟩
   have nC:H5 s3.heap.objs.size=none:=by
    have z:H5 ce.locals=none:=I6.free
    rw [cL] at z
    exact z
   obtain ⟨m,hn,_⟩:=I6.loc
   have hn:s6.heap.Ns ce.locals m:=hn
   rw [cL] at hn
   exact hRR D s3.heap.objs.size s6 m H5 I7 qq hn (I3.fpOk (Nat.le_refl _) nC)
  ·have ti:=T.item (X.blk s3 H3 scope ce fp) rfl rfl rfl hc i [] s5 _ H5 (fun _ _=>False) I5 (stat I5 n5) st5 go
   refine thnF ti fun r s6 ⟨u,hr,h6⟩=>?_
   subst hr
   refine thnF h6 fun _ s7 ⟨x,H7,I7,r7,y7,st7,n7⟩=>?_
   have I7':=I7.pinned (stat I7 n7) (T.obj _ _ st7)
   refine thnF (pg _ s7 _ H7 x u _ I7' r7 (step x H7 y7)) fun _ s8 ⟨σ8,H8,I8,hw8,q8⟩=>?_
   refine thnF (pt _ s8 σ8 H8 _ I8 q8) fun b s9 ⟨H9,I9,q9⟩=>?_
   have fin:∀{s':Shared} {H':Hp},Inv (X.blk s3 H3 scope ce fp) ([]++pinsAt fp s7.heap) σ8 H' s'→Nx H'→∃m,m<n∧∃i H',Inv (X.blk s3 H3 scope ce fp) [] (wipe σ (own.map (·.2))) H' s'∧tn i s'.heap∧(∀b∈fp,H' b=none)∧W i m H':=fun {s' H'} I' nx=>by
    obtain ⟨m',hm,w'⟩:=hNx H' nx
    have pin':∀b∈fp,∀o,s7.heap.get? b=some o→s'.heap.get? b=some o∧H' b=none:=fun b hb o e=>
     let z:=I'.pin (b,o) (List.mem_append_right _ (List.mem_append_right _ (mem_pinsAt hb e)))
     ⟨z.1,z.2.1⟩
    have hl:(wipe σ (own.map (·.2))).length=σ8.length:=by rw [←hw8,wipe_length]
    refine ⟨m',hm,i+1,H',(I'.unpinned (pins:= [])).weak hl (fun j v e=>?_),T.keep _ _ _ st7 fun b hb o e=>(pin' b hb o e).1,fun b hb=>?_,w'⟩
    ·rw [←hw8] at e
     exact (wipe_some e).1
    ·obtain ⟨o,e,_⟩:=T.obj _ _ st7 b hb
     exact (pin' b hb o e).2
   cases b with
   |false=>
    simp only [Bool.false_eq_true,if_false] at q9 ⊢
    exact fin I9 q9
   |true=>
    simp only [if_true] at q9 ⊢
    have I9x:Inv {X.blk s3 H3 scope ce fp with xe:=notedBy (model X.prog X.w) X.A ce fun e s'=>compPost (model X.prog X.w) X.A X.xe use Qf (.ref D) s3.heap.objs.size (.error e) s'} ([]++pinsAt fp s7.heap) σ8 H9 s9:=inv_xe I9
    refine wpAny_mono (pe _ pass _ s9 σ8 H9 _ I9x q9) (fun z s10 ⟨yv,H10,I10,r10,acc,hD10,hz10,nx⟩=>?_) fun _ _ z=>z
    exact app_ok (X:=X.blk s3 H3 scope ce fp) (inv_xe (E':=fun _ _=>False) I10) hD10 hz10 r10 fun s11 I11=>fin I11 nx
 exact codeAny_compStart_list loop (T.self X.A 0 _ _ _ st4 loop)
theorem ps_setLcx {E:XK} {i:Nat} {y:Str} {py:Pos} {elt tg iter:Expr} {ifs:List Expr} {scope:Scope} {own:List (Str×Nat)} {pos spos:Pos} {wi:TI} {g:TG} {tt:TT} {te:TE} (hst:X.stack=X.env::X.outer) (hf:X.env.frame=some X.env.locals) (hx:PassX X E) (hc:X.calm=true) (hN:X.N.Nodup) (hy:X.N[i]?=some y) (hyl:X.env.scope.names.lookup y=some .local)
  (hsw:swapsWith (.ListComp elt [⟨tg,iter,ifs,0⟩] scope pos) (some (.Name y py)) spos.line X.env=pure true) (hi:PI X tg iter wi) (ok:BlkOk X.N X.env.scope scope own)
  (hg:∀(s:Shared) (H:Hp) (C:Addr) (cl:List (Str×Addr)) (fp:List Addr),PG (X.blk s H scope (compEnvC scope cl C X.env) fp) tg g) (ht:∀(s:Shared) (H:Hp) (C:Addr) (cl:List (Str×Addr)) (fp:List Addr),PTs (X.blk s H scope (compEnvC scope cl C X.env) fp) ifs tt)
  (he:∀(s:Shared) (H:Hp) (C:Addr) (cl:List (Str×Addr)) (fp:List Addr) (E':Value→Shared→Prop),PassX {X.blk s H scope (compEnvC scope cl C X.env) fp with xe:=E'} E→PE {X.blk s H scope (compEnvC scope cl C X.env) fp with xe:=E'} elt te) (hs:∀x,foldedSetIterable iter X.env x=pure x:=by intro _;rfl):
  PS X (.Assign [.Name y py] (.ListComp elt [⟨tg,iter,ifs,0⟩] scope pos) spos) (tAsg (tLc wi g tt te (own.map (·.2))) (gName i)):=by
 intro pins s σ H D I h
 rw [exec_Assign_Name_used _ _ _ _ hsw]
 refine wpAny_bind (wpAny_standAt (wpAny_bind ?_))
 show wpAny _ X.A (do let _←comprehension (.ListComp elt [⟨tg,iter,ifs,0⟩] scope pos) scope X.env (firstIterPos [⟨tg,iter,ifs,0⟩] pos) (newList []) false (eval iter X.env) (some (assign (.Name y py) X.env))) _ _ s
 have h:tLc wi g tt te (own.map (·.2)) σ H (fun x H1=>gName i x σ H1 D.nx):=h
 refine wpAny_bind (thn (lcx_core (Qf:=fun _ s'=>SP X pins D .next s') hst hf hx hc hN I hi ok hg ht he hs h fun L C s' m H' I' q hn f=>?_) fun _ s' hq=>wpAny_pure (wpAny_pure hq))
 show wpAny _ _ (assign (.Name y py) X.env (.ref L)) _ _ _
 refine wpAny_assign_Name (store_ok2 (v:=V.ref L) I' hN hy (.inl hyl) rfl (fun s2 I2 ⟨a,sb,ha⟩=>?_) (.inr hyl))
 obtain ⟨f0,f1,f2,f3,f4,f5⟩:=f
 have haC:C≠a:=by
  rcases ha with z|z
  ·rw [z];exact f1
  ·exact fun e=>f4 y a z e.symm
 refine ⟨m,hn.sameBut sb haC,fun h3 sb3=>?_⟩
 exact ⟨_,H',I2.turned (t':=s2.toks) (fun b o hb e=>(sb3.2 b hb).trans e) f0 f1 f3 f4 f5,q⟩
end
end LX
namespace LX
open PySem PySem.Spec PyProof.Rows
open L2
section
variable {prog:Program} {w:World} {A:Around} {E:Value→Shared→Prop} {s:Shared} {od:Obj} {es:Array DictEntry} {ep:Nat} {d:Addr}
theorem raw_items (nd:(d==sysModules)=false) (T:s.TypeIs (.ref d) "dict"):
  MeetsIn prog w (Builtin.«dict.items» ⟨[.ref d],[]⟩) fun _ R s=>s.TypeIs (.ref d) "dict"∧
   R (.ok (.ret (.ref s.heap.objs.size))) {s with heap:=s.heap.push {cls:=.type "dict_items",data:=.fields #[.ref d]}}:=by
 refine .of_wp ?_
 intro A R s ⟨T,k⟩
 unfold Builtin.«dict.items»
 apply wpAny_bind
 unfold Builtin.Dict.noArgs
 apply wpAny_bind
 apply wpAny_notOrdered_dict T
 apply wpAny_pure (a:=d)
 show wpAny _ _ (Builtin.Dict.showsAll d >>= _) _ _ s
 unfold Builtin.Dict.showsAll
 have nd':¬((d==sysModules)=true):=by rw [nd];decide
 rw [if_neg nd']
 apply wpAny_bind
 apply wpAny_pure
 exact wpAny_bind (wpAny_newObj_type (wpAny_pure ⟨_,rfl,k⟩))
theorem raw_iter {v:Addr} {Q:Value→Shared→Prop} (hv:s.heap.IsItemsView v d) (ho:s.heap.get? d=some od) (hd:od.data=.dict es ep)
  (k:Q (.ref s.heap.objs.size) {s with heap:=s.heap.push {cls:=.type "dict_itemiterator",data:=.fields #[.none,.bool false,.ref d,.int 0 0,.int es.size 0,.int ep 0,.none,.none]}}):
  wpAny (model prog w) A (pyIter (.ref v)) Q E s:=by
 obtain ⟨vo,hvo,_,hvd⟩:=id hv
 apply wpAny_pyIter_slot hv.typeIs F.slot_dict_items_iter
 refine wpAny_call_entry F.slot_dict_items_iter hv.typeIs F.entry_dict_items_iter ?_ (F.args_dict_items_iter_1 _)
 unfold Builtin.«dict_items.__iter__»
 apply wpAny_bind
 apply wpAny_pure
 apply wpAny_bind
 unfold Builtin.Dict_items.dictOf
 refine wpAny_bind (wpAny_field hvo hvd (x:=.ref d) rfl (wpAny_pure ?_))
 apply wpAny_bind
 unfold Builtin.Dict_items.newIterator
 apply wpAny_bind
 apply wpAny_dictEntries ho hd
 apply wpAny_bind
 apply wpAny_dictEpoch ho hd
 have own:Builtin.Dict_items.ownsTuple "dict_itemiterator"=true:=by decide
 rw [own]
 simp only [if_true]
 refine wpAny_newObj_type (wpAny_pure ⟨_,rfl,"dict_itemiterator",_,⟨_,Heap.get?_push_size _ rfl,rfl⟩,F.slot_dict_itemiterator_next.lookup,?_⟩) ?_
 ·simpa [rawInt,Builtin.Dict_items.ownedTupleFields] using k
 ·simp only [sizeOk,Builtin.Dict_items.ownedTupleFields,List.size_toArray,List.length_append,List.length_cons]
  simp only [List.length_nil,sizeLine_eq]
  omega
theorem raw_item {it:Addr} {i n:Nat} {ok ov:Value} {en:DictEntry} {Q:Option Value→Shared→Prop} (hit:IsItemIter s.heap it d i n ep ok ov)
  (ho:s.heap.get? d=some od) (hd:od.data=.dict es ep) (hn:es.size=n) (hx:es[i]?=some en)
  (k:∀h',IsItemIterOut h' it d (i+1) n ep en.key en.val s.heap.objs.size→h'.get? s.heap.objs.size=some {cls:=.type "tuple",data:=.seq #[en.key,en.val]}→
   (∀b o,b≠it→s.heap.get? b=some o→h'.get? b=some o)→Q (some (.ref s.heap.objs.size)) {s with heap:=h'}):
  wpAny (model prog w) A (pyNext (.ref it)) Q E s:=by
 obtain ⟨H0,g,dr,tk,os⟩:=s
 have ty:Shared.TypeIs ⟨H0,g,dr,tk,os⟩ (.ref it) "dict_itemiterator":=⟨_,hit,rfl⟩
 obtain ⟨lt,ee⟩:=Array.getElem?_eq_some_iff.mp hx
 have lti:it<H0.objs.size:=Heap.lt_size hit
 have own:Builtin.Dict_items.ownsTuple "dict_itemiterator"=true:=by decide
 unfold pyNext
 apply wpAny_bind
 apply wpAny_attempt
 apply wpAny_callSpecial?_slot (name:=Str.ofString "__next__") ty F.slot_dict_itemiterator_next
 refine wpAny_call_entry F.slot_dict_itemiterator_next ty F.entry_dict_itemiterator_next ?_ (F.args_dict_itemiterator_next_1 _)
 apply wpAny_bind
 apply wpAny_pure
 apply wpAny_bind
 apply wpAny_bind
 apply wpAny_bind
 apply wpAny_typeNameOfWhole_itemiter ty
 apply wpAny_pure
 apply wpAny_bind
 apply wpAny_fieldsOf hit rfl
 simp only [own,if_true]
 show wpAny _ _ (if (Value.ref d==Value.none)=true then _ else _) _ _ _
 rw [if_neg (by intro z;cases z)]
 apply wpAny_bind
 apply wpAny_pure
 apply wpAny_bind
 apply wpAny_dictEntries ho hd
 rw [if_neg (by rw [hn];simp)]
 apply wpAny_bind
 apply wpAny_pure
 apply wpAny_bind
 apply wpAny_dictEpoch ho hd
 rw [if_neg (by simp)]
 apply wpAny_pure
 have nn:¬((i:Int)<0):=by omega
 simp only [nn,if_false,Int.toNat_natCast,Array.getElem?_eq_getElem lt]
 apply wpAny_bind
 apply wpAny_bind
 apply wpAny_typeNameOfWhole_itemiter ty
 apply wpAny_pure
 apply wpAny_bind
 apply wpAny_isOneOf_itemiter ty
 show wpAny _ _ (setField (.ref it) 3 (rawInt ((i:Int)+1)) >>= _) _ _ _
 apply wpAny_bind
 refine wpAny_setField_rec hit (by simp) ?_
 intro H1 e1 b1
 have b1:Heap.SameBut it H0 H1:=b1
 have e1:IsItemIter H1 it d (i+1) n ep ok ov:=by
  have z:((i+1:Nat):Int)=(i:Int)+1:=by omega
  unfold IsItemIter
  rw [z]
  simpa [rawInt] using e1
 have ty1:Shared.TypeIs ⟨H1,g,dr,tk,os⟩ (.ref it) "dict_itemiterator":=⟨_,e1,rfl⟩
 apply wpAny_bind
 apply wpAny_holding
 apply wpAny_bind
 apply wpAny_isOneOf_itemiter ty1
 apply wpAny_bind
 apply wpAny_isOneOf_itemiter ty1
 show wpAny _ _ (Builtin.Dict_items.pairFromOwner (.ref it) 6 es[i].key es[i].val) _ _ ⟨H1,g,dr,tk,os⟩
 rw [ee]
 unfold Builtin.Dict_items.pairFromOwner
 apply wpAny_bind
 refine wpAny_newTuple ?_
 have e2:IsItemIter (H1.push {cls:=.type "tuple",data:=.seq #[en.key,en.val]}) it d (i+1) n ep ok ov:=Heap.get?_push_of_some _ e1
 have sz1:H1.objs.size=H0.objs.size:=b1.1
 generalize hH2:H1.push {cls:=.type "tuple",data:=.seq #[en.key,en.val]}=H2 at e2
 have t2:H2.get? H0.objs.size=some {cls:=.type "tuple",data:=.seq #[en.key,en.val]}:=by
  rw [←hH2,←sz1]
  exact Heap.get?_push_size _ rfl
 have k2:∀b o,b≠it→H0.get? b=some o→H2.get? b=some o:=by
  intro b o hb e
  rw [←hH2]
  exact Heap.get?_push_of_some _ (b1.extBut b o hb e)
 show wpAny _ _ (Builtin.Dict_items.ownedTupleIsFree (.ref it) >>= _) _ _ ⟨H2,g,dr,tk,os⟩
 rw [sz1]
 apply wpAny_bind
 unfold Builtin.Dict_items.ownedTupleIsFree
 refine wpAny_bind (wpAny_field e2 rfl (x:=.none) rfl (wpAny_pure ?_))
 simp only [if_true]
 apply wpAny_bind
 refine wpAny_field e2 rfl (x:=ok) rfl ?_
 apply wpAny_bind
 refine wpAny_field e2 rfl (x:=ov) rfl ?_
 apply wpAny_bind
 refine wpAny_setField_rec e2 (by simp) fun H3 e3 b3=>?_
 have b3:Heap.SameBut it H2 H3:=b3
 have e3:IsItemIter H3 it d (i+1) n ep en.key ov:=e3
 apply wpAny_bind
 refine wpAny_setField_rec e3 (by simp) fun H4 e4 b4=>?_
 have b4:Heap.SameBut it H3 H4:=b4
 have e4:IsItemIter H4 it d (i+1) n ep en.key en.val:=e4
 apply wpAny_bind
 refine wpAny_setField_rec e4 (by simp) fun H5 e5 b5=>?_
 have b5:Heap.SameBut it H4 H5:=b5
 have e5:IsItemIterOut H5 it d (i+1) n ep en.key en.val H0.objs.size:=e5
 apply wpAny_bind
 refine wpAny_setField_rec e5 (by simp) fun H6 e6 b6=>?_
 have b6:Heap.SameBut it H5 H6:=b6
 have e6:IsItemIterOut H6 it d (i+1) n ep en.key en.val H0.objs.size:=e6
 have all:∀b o,b≠it→H2.get? b=some o→H6.get? b=some o:=fun b o hb e=>
  b6.extBut b o hb (b5.extBut b o hb (b4.extBut b o hb (b3.extBut b o hb e)))
 apply wpAny_bind
 apply wpAny_letGo
 exact wpAny_pure (wpAny_pure ⟨_,rfl,wpAny_pure (k H6 e6 (all _ _ (Nat.ne_of_gt lti) t2) fun b o hb e=>all b o hb (k2 b o hb e))⟩)
theorem raw_end {it:Addr} {i n:Nat} {ok ov:Value} {Q:Option Value→Shared→Prop} (hh:A.handled=none) (hit:IsItemIter s.heap it d i n ep ok ov)
  (ho:s.heap.get? d=some od) (hd:od.data=.dict es ep) (hn:es.size=n) (hx:n≤i)
  (k:∀h',Heap.ExtBut it s.heap h'→Q none {s with heap:=h'}):wpAny (model prog w) A (pyNext (.ref it)) Q E s:=by
 have ty:s.TypeIs (.ref it) "dict_itemiterator":=⟨_,hit,rfl⟩
 have own:Builtin.Dict_items.ownsTuple "dict_itemiterator"=true:=by decide
 have ge:es.size≤i:=by omega
 unfold pyNext
 apply wpAny_bind
 apply wpAny_attempt
 apply wpAny_callSpecial?_slot (name:=Str.ofString "__next__") ty F.slot_dict_itemiterator_next
 refine wpAny_call_entry F.slot_dict_itemiterator_next ty F.entry_dict_itemiterator_next ?_ (F.args_dict_itemiterator_next_1 _)
 apply wpAny_bind
 apply wpAny_pure
 apply wpAny_bind
 apply wpAny_bind
 apply wpAny_bind
 apply wpAny_typeNameOfWhole_itemiter ty
 apply wpAny_pure
 apply wpAny_bind
 apply wpAny_fieldsOf hit rfl
 simp only [own,if_true]
 show wpAny _ _ (if (Value.ref d==Value.none)=true then _ else _) _ _ _
 rw [if_neg (by intro z;cases z)]
 apply wpAny_bind
 apply wpAny_pure
 apply wpAny_bind
 apply wpAny_dictEntries ho hd
 rw [if_neg (by rw [hn];simp)]
 apply wpAny_bind
 apply wpAny_pure
 apply wpAny_bind
 apply wpAny_dictEpoch ho hd
 rw [if_neg (by simp)]
 apply wpAny_pure
 have nn:¬((i:Int)<0):=by omega
 simp only [nn,if_false,Int.toNat_natCast,Array.getElem?_eq_none ge]
 apply wpAny_bind
 apply wpAny_bind
 apply wpAny_typeNameOfWhole_itemiter ty
 apply wpAny_pure
 show wpAny _ _ (setField (.ref it) 2 .none >>= _) _ _ s
 apply wpAny_bind
 refine wpAny_setField hit rfl (by simp) ?_
 show wpAny _ _ (newExc (.type "StopIteration") [] >>= _) _ _ _
 apply wpAny_bind
 simp only [newExc,newTuple]
 apply wpAny_bind
 refine wpAny_newObj_type ?_ (by size_fits)
 apply wpAny_bind (m:=firstArgMember _ _)
 refine wpAny_of_eq (a:=Value.none) (by first|rfl|(simp only [firstArgMember];rfl)) ?_
 refine wpAny_newObj_type ?_ (by size_fits)
 simp only [raiseNew]
 apply wpAny_bind
 apply wpAny_handled
 rw [show A.in1.handled=none from hh]
 refine wpAny_throw ?_
 refine wpAny_bind ?_
 refine wpAny_isInstance (T:="StopIteration") (b:=true) ⟨_,Heap.get?_push_size _ rfl,rfl⟩ isSubtype_stop ?_
 exact wpAny_pure (k _ (((Heap.SameBut.update ..).extBut.push _).push _))
end
def ItiT (d:Addr) (o:Obj) (kvs:List (List Key×V)):It where
 go:=fun i H=>H d=some (.frz o (.dT kvs))∧i<kvs.length
 yld:=fun i H x H'=>∃T q k v,kvs[i]?=some (k,v)∧H q=some (.tup (k.map kV))∧x=.ref T∧H T=none∧H'=upd H T (.tup [.ref q,v])
 stop:=fun i H=>H d=some (.frz o (.dT kvs))∧kvs.length≤i
section
variable {X:Cx} {pins:List (Addr×Obj)} {σ:L2.St} {H:Hp} {s:Shared} {d:Addr} {o:Obj}
theorem frzT2 {kvs:List (List Key×V)} (I:Inv X pins σ H s) (h:H d=some (.frz o (.dT kvs))):
  (d==sysModules)=false∧s.heap.get? d=some o∧o.ExactDict∧∃(es:Array DictEntry) (ep:Nat),o.data=.dict es ep∧es.size=kvs.length∧
   ∀(i:Nat) (k:List Key) (v:V),kvs[i]?=some (k,v)→∃(en:DictEntry) (q:Addr),es[i]?=some en∧en.key=.ref q∧H q=some (.tup (k.map kV))∧RelV v en.val:=by
 obtain ⟨hd,z,hs,xs,pr,o',es,ep,ho,hx,hdt,he,_⟩:=I.hok d _ h
 rw [hd] at ho
 cases ho
 refine ⟨hs,hd,hx,es,ep,hdt,?_,fun i k v e=>?_⟩
 ·have l1:es.size=xs.length:=size_of_entries he
  have l2:kvs.length=xs.length:=Paired.length pr
  omega
 ·obtain ⟨b,hb,e1,e2,e3⟩:=paired_get pr e
  have q:=entry_at he i
  rw [hb] at q
  exact ⟨_,b.2.1,q,rfl,e2,e3⟩
end
theorem turn_itemsT {P:Program} {w:World} {K:PySem.W.Frag} {d:Addr} {o:Obj} {es:Array DictEntry} {ep:Nat} {kvs:List (List Key×V)} {elts:List Expr} {kk:Nat} {tpos:Pos} (it:Addr) (hod:o.data=.dict es ep):
  Turn P w K (.Tuple elts kk tpos) (ItiT d o kvs) [it] it (fun i h=>∃ok ov,IsItemIter h it d i kvs.length ep ok ov) where
 mem:=by simp
 obj:=fun i h st b hb=>by
  have e:b=it:=by simpa using hb
  subst e
  obtain ⟨ok,ov,e⟩:=st
  exact ⟨_,e,fun v z=>nomatch z⟩
 keep:=fun i h h' st k=>let ⟨ok,ov,e⟩:=st;⟨ok,ov,k it (by simp) _ e⟩
 item:=by
  intro X hP hw hK hc i pins s σ H E I hf st hg
  subst hP hw hK
  obtain ⟨hd,hi⟩:=hg
  obtain ⟨hs,hgd,hx,es',ep',hdt,hsz,ent⟩:=frzT2 I hd
  obtain ⟨rfl,rfl⟩:=dict_ep hod hdt
  obtain ⟨⟨k,v⟩,hkv⟩:∃p,kvs[i]?=some p:=⟨kvs[i],List.getElem?_eq_getElem hi⟩
  obtain ⟨en,q,hen,hkey,hq,ru⟩:=ent i k v hkv
  obtain ⟨ok,ov,he⟩:=st
  have hlt:it<s.heap.objs.size:=Heap.lt_size he
  refine raw_item he hgd hdt hsz hen fun h' ho hT hk=>?_
  refine ⟨_,rfl,wpAny_letOwnedTupleGo_items (s:={s with heap:=h'}) ho fun h'' he' sb=>?_⟩
  have hT2:h''.get? s.heap.objs.size=some {cls:=.type "tuple",data:=.seq #[en.key,en.val]}:=(sb.2 _ (Nat.ne_of_gt hlt)).trans hT
  have new:ObjOk X.prog X.w (upd H s.heap.objs.size (.tup [.ref q,v])) h'' s.heap.objs.size (.tup [.ref q,v]):=
   ⟨by show 2≤sizeLine;decide,[en.key,en.val],.cons hkey (.cons ru .nil),⟨_,hT2,rfl,_,rfl⟩⟩
  have I1:Inv X pins σ (upd H s.heap.objs.size (.tup [.ref q,v])) {s with heap:=h''}:=
   I.turnedNew (t':=s.toks) (ch:= [it]) (fun b ob hb e=>(sb.2 b (by simpa using hb)).trans (hk b ob (by simpa using hb) e)) hf (Nat.le_refl _) new
  refine ⟨.ref s.heap.objs.size,_,I1,rfl,⟨_,q,k,v,hkv,hq,rfl,I.hok.fresh (Nat.le_refl _),rfl⟩,⟨en.key,en.val,he'⟩,fun b hb=>?_⟩
  have e:b=it:=by simpa using hb
  rw [e,upd_ne (Nat.ne_of_lt hlt)]
  exact (hf it (by simp)).1
 done:=by
  intro X hP hw hK hc i pins s σ H E I hf st hg
  subst hP hw hK
  obtain ⟨hd,hi⟩:=hg
  obtain ⟨f0,f1,f2,f3,f4,f5⟩:=hf it (by simp)
  obtain ⟨hs,hgd,hx,es',ep',hdt,hsz,ent⟩:=frzT2 I hd
  obtain ⟨rfl,rfl⟩:=dict_ep hod hdt
  obtain ⟨ok,ov,he⟩:=st
  exact raw_end (I.ok.hd hc) he hgd hdt hsz hi fun h' eb=>⟨rfl,I.turned (t':=s.toks) (fun b ob hb e=>eb b ob hb e) f0 f1 f3 f4 f5⟩
 self:=fun A i s Q E st h=>let ⟨_,_,e⟩:=st;PySem.W.kcp_self e h
def iItemsT (td:TE):TI:=fun σ H R=>td σ H fun x H1=>∃d o kvs,x=.ref d∧H1 d=some (.frz o (.dT kvs))∧R (ItiT d o kvs) H1
theorem pi_itemsT {X:Cx} {e:Expr} {td:TE} {apos cpos:Pos} {elts:List Expr} {kk:Nat} {tpos:Pos} (he:PE X e td) (hbase:attributeBase e "items" X.env (eval e X.env)=eval e X.env:=by rfl) (hline:(apos.endLine==cpos.line)=true:=by rfl):
  PI X (.Tuple elts kk tpos) (.Call (.Attribute e "items" apos) [] [] cpos) (iItemsT td):=by
 intro pins s σ H R I h
 refine wpAny_Call_method (T:="dict") (id:="dict.items") hbase rfl hline F.plainAttrs_dict F.slot_dict_items F.type_dict_items (thn (he pins s σ H _ I h) fun u s1 ⟨x,H1,I1,rx,d,o,kvs,ex,hd,q⟩=>?_)
 subst ex
 obtain rfl:u=Value.ref d:=rx
 obtain ⟨hs,hgd,hx,es,ep,hdt,hsz,ent⟩:=frzT2 I1 hd
 have ty:s1.TypeIs (.ref d) "dict":=⟨o,hgd,hx.1⟩
 refine ⟨ty,?nod,?_⟩
 case nod=>exact fun a e=>by cases e;exact ⟨_,hgd,hx.2.1⟩
 have I2:Inv X pins σ H1 {s1 with heap:=s1.heap.push {cls:=.type "dict_items",data:=.fields #[.ref d]}}:=I1.kept (t':=s1.toks) fun b ob q=>Heap.get?_push_of_some _ q
 have fin:wpAny (model X.prog X.w) X.A (pyIter (.ref s1.heap.objs.size)) (PIE X pins σ (.Tuple elts kk tpos) R) X.xe {s1 with heap:=s1.heap.push {cls:=.type "dict_items",data:=.fields #[.ref d]}}:=by
  refine raw_iter (d:=d) ⟨_,Heap.get?_push_size _ rfl,rfl,rfl⟩ (Heap.get?_push_of_some _ hgd) hdt (pi_one (tk:=s1.toks) I2 _ (turn_itemsT _ hdt) ⟨.none,.none,?_⟩ q)
  rw [hsz]
  exact Heap.get?_push_size _ rfl
 show wpAny _ _ (callWith cpos (.builtin "dict.items") [.ref d] [] []) _ X.xe s1
 exact method_meetsIn F.slot_dict_items F.entry_dict_items rfl (PySem.evalArgs_none ⟨rfl,ty,F.args_dict_items_1 _,_,raw_items hs ty,ty,fin⟩)
end LX
namespace LX
open PySem PySem.Spec PyProof.Rows L2
theorem rv_len:typeLookup (.type "list_reverseiterator") "__len__"=pure none:=by rw [typeLookup_type,builtinLookup_eq_fast];kernel_rfl
theorem rv_hint:typeLookup (.type "list_reverseiterator") "__length_hint__"=pure (some (.builtin "list_reverseiterator.__length_hint__")):=by rw [typeLookup_type,builtinLookup_eq_fast];kernel_rfl
section
variable {prog:Program} {w:World} {A:Around} {E:Value→Shared→Prop} {s:Shared} {it l:Addr} {xs:Array Value}
theorem rv_silent {Q:Bool→Shared→Prop} (ty:s.TypeIs (.ref it) "list_reverseiterator") (q:Q false s):wpAny (model prog w) A (Builtin.List.listLengthHint (.ref it)) Q E s:=by
 unfold Builtin.List.listLengthHint
 refine wpAny_bind (wpAny_specialOf ty rv_len ?_)
 show wpAny _ A (specialOf (Value.ref it) (Str.ofString "__length_hint__") >>= _) _ _ s
 refine wpAny_bind (wpAny_specialOf ty rv_hint ?_)
 generalize hz:("list_reverseiterator.__length_hint__":String)=z
 wp_delta
 rw [show splitId z=some ("list_reverseiterator","__length_hint__") by subst hz;decide+kernel]
 subst hz
 refine wpAny_bind (wpAny_isInstance (T:="list_reverseiterator") (b:=true) ty (by rw [isSubtype_type];kernel_rfl) ?_)
 refine wpAny_ite_split (fun no=>absurd no (by decide)) fun _=>?_
 refine wpAny_ite_split (fun _=>?_) fun no=>absurd (by decide+kernel) no
 refine wpAny_ite_split (fun no=>absurd no (by decide)) fun _=>?_
 exact wpAny_pure q
theorem rv_extend {R:Result→Shared→Prop} {S:Addr} {c:Nat} (hh:A.handled=none) (hi:s.heap.IsRevIter it l ((xs.size:Int) - 1)) (hl:s.heap.IsList l xs) (n1:l≠it) (n2:S≠it) (n3:S≠l)
  (hS:s.heap.get? S=some {cls:=.type "list",data:=.seq #[] c}) (hz:xs.size≤sizeLine)
  (k:∀h' tk acc c',(∀b o,b≠S→b≠it→s.heap.get? b=some o→h'.get? b=some o)→h'.get? S=some {cls:=.type "list",dict:=none,data:=.seq acc c',slots:= #[]}→
   ItemsOf (fun i v=>xs[xs.size - 1 - i]?=some v) acc xs.size→R (.ok (.ret .none)) {s with heap:=h',toks:=tk}):
  wpAny (model prog w) A.in1 (Builtin.List.listExtendWith (.ref S) (.ref it) .none)
   (fun fin s'=>match fin with| .done f=>R (.ok f) s'| .again c'=>c'.quiet=true∧codeAny (model prog w) A c' R s') (fun e s'=>R (.error e) s') s:=by
 have W:=Walks.listRev (prog:=prog) (w:=w) (A:=A.in1) hh it l n1 xs
 unfold Builtin.List.listExtendWith
 refine wpAny_bind (wpAny_typeOf hi.typeIs ?_)
 rw [if_neg (by simp [Builtin.List.listSameRef,n2])]
 refine wpAny_bind (wpAny_pyIter_revIter hi ?_)
 refine wpAny_bind (wpAny_holding (rv_silent hi.typeIs ?_))
 rw [if_neg (by decide+kernel)]
 refine wpAny_pure ⟨plainId_quiet PySem.F.plain_extend_loop _,?_⟩
 refine codeAny_extend_loopS W.toS hz S (by simp [n2,n3]) .none xs.size 0 s #[] c rfl (Nat.zero_le _) ⟨Nat.zero_le _,by simpa using hi,hl⟩ hS (ItemsOf.nil _) fun s' acc c' mv e1 e2=>?_
 rw [Moved.eq_with mv]
 exact k s'.heap s'.toks acc c' (fun b o b1 b2 e=>mv.heap b o (by simp [b1,b2]) e) e1 e2
theorem rv_init {R:Result→Shared→Prop} {S:Addr} (hh:A.handled=none) (hi:s.heap.IsRevIter it l ((xs.size:Int) - 1)) (hl:s.heap.IsList l xs) (n1:l≠it) (n2:S≠it) (n3:S≠l)
  (hS:s.heap.get? S=some {cls:=.type "list",data:=.seq #[]}) (hz:xs.size≤sizeLine)
  (k:∀h' tk acc c',(∀b o,b≠S→b≠it→s.heap.get? b=some o→h'.get? b=some o)→h'.get? S=some {cls:=.type "list",dict:=none,data:=.seq acc c',slots:= #[]}→
   ItemsOf (fun i v=>xs[xs.size - 1 - i]?=some v) acc xs.size→R (.ok (.ret .none)) {s with heap:=h',toks:=tk}):
  wpAny (model prog w) A.in1 (Builtin.«list.__init__» ⟨[.ref S,.ref it],[]⟩)
   (fun fin s'=>match fin with| .done f=>R (.ok f) s'| .again c'=>c'.quiet=true∧codeAny (model prog w) A c' R s') (fun e s'=>R (.error e) s') s:=by
 show wpAny _ _ (do let was←Builtin.List.listItems (.ref S);Builtin.List.listUpdate (.ref S) (fun _=> #[]);letGo was.toList.reverse;Builtin.List.listExtendWith (.ref S) (.ref it) .none) _ _ s
 refine wpAny_bind ?_
 unfold Builtin.List.listItems
 refine wpAny_bind (wpAny_seqItems hS rfl (wpAny_pure ?_))
 show wpAny _ _ (updateSeq S (fun _=> #[]) >>= fun _=>letGo (#[]:Array Value).toList.reverse >>= fun _=>Builtin.List.listExtendWith (.ref S) (.ref it) .none) _ _ s
 refine wpAny_bind (wpAny_updateSeq hS rfl ?_)
 have new:=Heap.get?_update_self (Obj.mapSeq fun _=>(#[]:Array Value)) hS rfl
 have same:∀b o,b≠S→s.heap.get? b=some o→(s.heap.update S (Obj.mapSeq fun _=>(#[]:Array Value))).get? b=some o:=fun b o z e=>(Heap.get?_update_other _ _ (Ne.symm z)).trans e
 refine wpAny_bind (wpAny_letGo ?_)
 refine rv_extend (xs:=xs) hh (hi.at fun o e=>same it o (Ne.symm n2) e) (hl.at fun o e=>same l o (Ne.symm n3) e) n1 n2 n3 new hz fun h' tk acc c' kp e1 e2=>?_
 exact k h' tk acc c' (fun b o b1 b2 e=>kp b o b1 b2 (same b o b1 e)) e1 e2
theorem rv_call {Q:Value→Shared→Prop} (hh:A.handled=none) (hi:s.heap.IsRevIter it l ((xs.size:Int) - 1)) (hl:s.heap.IsList l xs) (n1:l≠it) (hz:xs.size≤sizeLine)
  (k:∀h' tk acc c',(∀b o,b≠it→s.heap.get? b=some o→h'.get? b=some o)→h'.get? s.heap.objs.size=some {cls:=.type "list",dict:=none,data:=.seq acc c',slots:= #[]}→
   ItemsOf (fun i v=>xs[xs.size - 1 - i]?=some v) acc xs.size→Q (.ref s.heap.objs.size) {s with heap:=h',toks:=tk}):
  wpAny (model prog w) A (call (.type "list") [.ref it]) Q E s:=by
 refine callType_codes (Q₁:=fun v s1=>v=.ref s.heap.objs.size∧s1={s with heap:=s.heap.push {cls:=.type "list",data:=.seq #[]}}) PySem.F.called_list (PySem.F.typeCall_list_1 _) PySem.F.entry_list_init (code_list_new _ ⟨rfl,rfl⟩) fun v s1 z=>?_
 obtain ⟨rfl,rfl⟩:=z
 have new:(s.heap.push {cls:=.type "list",data:=.seq #[]}).get? s.heap.objs.size=some {cls:=.type "list",data:=.seq #[]}:=Heap.get?_push_size _ rfl
 have l1:it<s.heap.objs.size:=let ⟨o,e,_⟩:=hi;Heap.lt_size e
 have l2:l<s.heap.objs.size:=let ⟨o,e,_⟩:=hl;Heap.lt_size e
 refine ⟨⟨_,new,rfl⟩,PySem.F.args_list_init_2 _ _,rv_init (A:=A.in1) (xs:=xs) hh (hi.at fun o e=>Heap.get?_push_of_some _ e) (hl.at fun o e=>Heap.get?_push_of_some _ e) n1 (Nat.ne_of_gt l1) (Nat.ne_of_gt l2) new hz fun h' tk acc c' kp e1 e2=>⟨rfl,?_⟩⟩
 exact k h' tk acc c' (fun b o b1 e=>kp b o (Nat.ne_of_lt (Heap.lt_size e)) b1 (Heap.get?_push_of_some _ e)) e1 e2
end
theorem Paired.rev {α β:Type} {F:α→β→Prop}:∀{l:List α} {m:List β},Paired F l m→Paired F l.reverse m.reverse
 |_,_,.nil=>.nil
 |_,_,.cons h r=>by
  rw [List.reverse_cons,List.reverse_cons]
  exact Paired.snoc (Paired.rev r) h
theorem items_rev {its:List Value} {acc:Array Value} (h:ItemsOf (fun i v=>its.toArray[its.toArray.size - 1 - i]?=some v) acc its.toArray.size):acc.toList=its.reverse:=by
 have h2:∀j v,acc[j]?=some v→its.toArray[its.toArray.size - 1 - j]?=some v:=h.2
 have h1:acc.size=its.length:=Eq.trans h.1 List.size_toArray
 apply List.ext_getElem?
 intro i
 rcases Nat.lt_or_ge i its.length with z|z
 ·have e:acc.toList[i]?=some (acc[i]'(by omega)):=by simp [h1,z]
  have q:=h2 i _ (Array.getElem?_eq_getElem (by omega))
  rw [List.size_toArray] at q
  rw [e,List.getElem?_reverse z]
  simpa using q.symm
 ·rw [List.getElem?_eq_none (by simp [h1];exact z),List.getElem?_eq_none (by simpa using z)]
def tLR (K:PySem.W.Frag) (te:TE):TE:=fun σ H Q=>te σ H fun x H1=>∃a xs,x=.ref a∧SqL K H1 a xs∧∀p,H1 p=none→Q (.ref p) (upd H1 p (.lst xs.reverse))
theorem pe_lr {X:Cx} {e:Expr} {te:TE} {p1 p2 pos1 pos2:Pos} (hc:X.calm=true) (hg1:Gl X "list") (hm1:X.mg "list"=none) (hg2:Gl X "reversed") (hm2:X.mg "reversed"=none) (he:PE X e te)
  (hs1:starEach [.Call (.Name "reversed" p2) [e] [] pos2] X.env= [(false,eval (.Call (.Name "reversed" p2) [e] [] pos2) X.env)]:=by rfl) (hs2:starEach [e] X.env= [(false,eval e X.env)]:=by rfl):
  PE X (.Call (.Name "list" p1) [.Call (.Name "reversed" p2) [e] [] pos2] [] pos1) (tLR X.K te):=by
 intro pins s σ H Q I h
 refine Call_ (ld_blt I hg1 hm1 PyProof.Rows.boot_list (PyProof.Rows.callWith_type1 ?_ hs1 rfl))
 rw [hs1]
 show wpAny _ _ (spliced ((false,eval (.Call (.Name "reversed" p2) [e] [] pos2) X.env)::backTo pos1 [])) _ _ s
 refine Calls.spliced_cons (Call_ (ld_blt I hg2 hm2 boot_reversed5 (PyProof.Rows.callWith_type1 ?_ hs2 rfl)))
 rw [hs2]
 show wpAny _ _ (spliced ((false,eval e X.env)::backTo pos2 [])) _ _ s
 refine Calls.spliced_cons (thn (he pins s σ H _ I h) fun u s1 ⟨x,H1,I1,r1,a,xs,ex,hq,q⟩=>?_)
 subst ex
 obtain rfl:u=Value.ref a:=r1
 obtain ⟨its,rv,pl,hz⟩:=I1.list hq
 have len:=rv.length
 refine Calls.spliced_nil (call_reversed_list pl.isList (Calls.spliced_nil ?_))
 have alt:a<s1.heap.objs.size:=let ⟨o,e,_⟩:=pl.isList;Heap.lt_size e
 have hl:=pl.isList
 refine rv_call (xs:=its.toArray) (it:=s1.heap.objs.size) (l:=a) (I1.ok.hd hc) ⟨_,Heap.get?_push_size _ rfl,rfl,rfl⟩ (hl.at fun o e=>Heap.get?_push_of_some _ e) (Nat.ne_of_lt alt) (by rw [List.size_toArray];omega) fun h' tk acc c' kp e1 e2=>?_
 have hi:=items_rev e2
 have sz:(s1.heap.push (revObj a ((its.toArray.size:Int) - 1))).objs.size=s1.heap.objs.size+1:=Heap.size_push _ _
 rw [sz] at e1
 refine ⟨.ref (s1.heap.objs.size+1),_,I1.laid (h':=h') (t':=tk) (fun b o z=>kp b o (Nat.ne_of_lt (Heap.lt_size z)) (Heap.get?_push_of_some _ z)) (Nat.le_succ _) (show ObjOk X.prog X.w _ h' _ (.lst xs.reverse) from ⟨by rw [List.length_reverse];exact hz,its.reverse,c',Paired.rev rv,?_⟩),?_,q _ (I1.hok.fresh (Nat.le_succ _))⟩
 ·rw [e1,←hi]
 ·show Value.ref _=Value.ref _
  rw [sz]
end LX
namespace LX
open PySem PySem.Spec PyProof.Rows L2 PySem.AutoSeq1
section
variable {X:Cx}
theorem call_min3 (hc:X.calm=true):CallR X (.builtin "min") (fun xs H Q=>∃i j k,xs= [.int i,.int j,.int k]∧Q (.int (min (min i j) k)) H):=by
 intro pins s σ H xs us Q I r h
 obtain ⟨i,j,k,rfl,q⟩:=h
 cases r with
 |cons r1 r=>
  cases r with
  |cons r2 r=>
   cases r with
   |cons r3 r=>
    cases r
    obtain ⟨t1,rfl⟩:=r1
    obtain ⟨t2,rfl⟩:=r2
    obtain ⟨t3,rfl⟩:=r3
    refine min_three_ints (I.ok.hd hc) fun h' tk kk=>⟨.int (min (min i j) k),H,I.kept kk,?_,q⟩
    by_cases h1:j<i
    ·rw [if_pos h1]
     by_cases h2:k<j
     ·rw [if_pos h2,show min (min i j) k=k by omega];exact ⟨_,rfl⟩
     ·rw [if_neg h2,show min (min i j) k=j by omega];exact ⟨_,rfl⟩
    ·rw [if_neg h1]
     by_cases h2:k<i
     ·rw [if_pos h2,show min (min i j) k=k by omega];exact ⟨_,rfl⟩
     ·rw [if_neg h2,show min (min i j) k=i by omega];exact ⟨_,rfl⟩
theorem ext_tup (l:Addr) (xs:Array Value) (n:Nat) (b:Addr) (ys:Array Value) (n2:Nat) (dd:Option Addr) (ss:Array (Option Value)) (h0:¬(!xs.isEmpty&&Builtin.List.listTooLong (xs.size+ys.size))=true) (h1:xs.size≤sizeLine) (h2:xs.size+ys.size≤sizeLine+1):
  Meets (Builtin.«list.extend» ⟨[.ref l,.ref b],[]⟩) (fun _ R s=>s.heap.get? l=some {cls:=.type "list",dict:=none,data:=.seq xs n,slots:= #[]}∧s.heap.get? b=some {cls:=.type "tuple",dict:=dd,data:=.seq ys n2,slots:=ss}∧
   R (.ok (.ret Value.none)) {s with heap:=s.heap.update l (Obj.mapSeq fun x=>x++ys),toks:=s.toks}):=
 .of_wp fun prog w A R s h=>by
  obtain ⟨hp,g,d,tk,os⟩:=s
  obtain ⟨e1,e2,h⟩:=h
  have g1:=idx_int;have g2:=AutoSeq1.sub_tuple_tuple;have g3:=AutoSeq1.sub_list_list;have g4:=AutoSeq1.sub_tuple_list;have g5:=AutoSeq1.sub_list_tuple
  have z:(xs++ys).size≤sizeLine+1:=by rw [Array.size_append];exact h2
  wp_walk using (wpAny_updateSeq e1 rfl (hz:=h1) (_hz':=z)),wpAny_loadPart' e1,wpAny_loadPart' e2;exact ⟨_,rfl,h⟩
def rExtT (K:PySem.W.Frag):V→List V→Hp→VK→Prop:=fun x vs H Q=>∃l b xs zs,x=.ref l∧vs= [.ref b]∧H l=some (.lst xs)∧SqT K H b zs∧xs.length+zs.length≤sizeLine∧Q .non (upd H l (.lst (xs++zs)))
theorem mt_extT:MtM X "list.extend" (rExtT X.K):=by
 intro pins s σ H x vs v us Q I rx rv h
 obtain ⟨l,b,xs,zs,rfl,rfl,hH,hB,hz,q⟩:=h
 cases rx
 obtain ⟨u,rfl,ru⟩:=rv.one
 cases ru
 obtain ⟨z,its,n,r,hl,e⟩:=I.lstM hH
 obtain ⟨its2,r2,pl,hz2⟩:=I.tuple hB
 have hl2:=r2.length
 have hsz:its.toArray.size+its2.toArray.size≤sizeLine:=by rw [List.size_toArray,List.size_toArray];omega
 have hlong:¬(!its.toArray.isEmpty&&Builtin.List.listTooLong (its.toArray.size+its2.toArray.size))=true:=by
  rw [notLongL hsz,Bool.and_false]
  exact Bool.false_ne_true
 obtain ⟨o,e2,hc,n2,hd⟩:=pl
 obtain ⟨c,dd,da,ss⟩:=o
 cases hc
 cases hd
 refine call_meets F.slot_list_extend ⟨_,e,rfl⟩ F.entry_list_extend (F.args_list_extend_2 _ _)
  (ext_tup l its.toArray n b its2.toArray n2 _ _ hlong (by rw [List.size_toArray];omega) (by omega)) ⟨e,e2,?_⟩
 exact ⟨.non,_,I.lset (its':=its++its2) hH e (by simp) (r.append r2) (by rw [List.length_append];omega),rfl,q⟩
end
end LX
namespace Vm
open Vaglrl
open Vaglrc (Sym Rule Grammar)
variable {A B:Type}
theorem over_row {n i:Nat} (f:Nat→Nat→A) (hi:i≤n):(overPieces n f).getD i []=(List.range (n+1 - i)).map (fun d=>f i (i+d)):=by
 unfold overPieces
 have h:i<n+1:=by omega
 simp [List.getD_eq_getElem?_getD,List.getElem?_map,List.getElem?_range h]
theorem over_get {n i j:Nat} (f:Nat→Nat→A) (d:A) (h1:i≤j) (h2:j≤n):((overPieces n f).getD i []).getD (j - i) d=f i j:=by
 rw [over_row f (by omega)]
 have h:j - i<n+1 - i:=by omega
 have e:i+(j - i)=j:=by omega
 simp [List.getD_eq_getElem?_getD,List.getElem?_map,List.getElem?_range h,e]
theorem over_len {n:Nat} (f:Nat→Nat→A):(overPieces n f).length=n+1:=by simp [overPieces]
def Shape (n:Nat) (c:List (List A)):Prop:=c.length=n+1∧∀i,i≤n→(c.getD i []).length=n+1 - i
theorem over_shape {n:Nat} (f:Nat→Nat→A):Shape n (overPieces n f):=⟨over_len f,fun i hi=>by rw [over_row f hi];simp⟩
theorem Shape.map {n:Nat} {c:List (List A)} (h:Shape n c) (g:A→B):Shape n (c.map fun l=>l.map g):=by
 refine ⟨by simp [h.1],fun i hi=>?_⟩
 have q:=h.2 i hi
 have hl:i<c.length:=by rw [h.1];omega
 simp [List.getD_eq_getElem?_getD,List.getElem?_map,List.getElem?_eq_getElem hl] at q ⊢
 exact q
def at2 (c:List (List (Option A))) (i j:Nat):Option A:=(c.getD i []).getD (j - i) none
theorem at2_map {n i j:Nat} {c:List (List (Option A))} (h:Shape n c) (g:A→B) (h1:i≤j) (h2:j≤n):at2 (c.map fun l=>l.map fun w=>w.map g) i j=(at2 c i j).map g:=by
 have hl:i<c.length:=by rw [h.1];omega
 have q:=h.2 i (by omega)
 unfold at2
 simp only [List.getD_eq_getElem?_getD,List.getElem?_map,List.getElem?_eq_getElem hl,Option.map_some,Option.getD_some] at q ⊢
 have hj:j - i<c[i].length:=by rw [q];omega
 simp [List.getElem?_eq_getElem hj]
theorem lowerAll_shape {n:Nat} {a b:List (List (Option Cell))} (ha:Shape n a) (hb:Shape n b):Shape n (lowerAll a b):=by
 unfold lowerAll
 refine ⟨by simp [ha.1,hb.1],fun i hi=>?_⟩
 have la:i<a.length:=by rw [ha.1];omega
 have lb:i<b.length:=by rw [hb.1];omega
 have qa:=ha.2 i hi
 have qb:=hb.2 i hi
 simp only [List.getD_eq_getElem?_getD,List.getElem?_eq_getElem la,List.getElem?_eq_getElem lb,Option.getD_some] at qa qb
 have lz:i<(a.zip b).length:=by simp;omega
 simp [List.getD_eq_getElem?_getD,List.getElem?_map,List.getElem?_eq_getElem lz,qa,qb]
theorem lowerAll_at {n i j:Nat} {a b:List (List (Option Cell))} (ha:Shape n a) (hb:Shape n b) (h1:i≤j) (h2:j≤n):at2 (lowerAll a b) i j=lower (at2 a i j) (at2 b i j):=by
 have la:i<a.length:=by rw [ha.1];omega
 have lb:i<b.length:=by rw [hb.1];omega
 have qa:=ha.2 i (by omega)
 have qb:=hb.2 i (by omega)
 simp only [List.getD_eq_getElem?_getD,List.getElem?_eq_getElem la,List.getElem?_eq_getElem lb,Option.getD_some] at qa qb
 have lz:i<(a.zip b).length:=by simp;omega
 unfold at2 lowerAll
 simp only [List.getD_eq_getElem?_getD,List.getElem?_map,List.getElem?_eq_getElem lz,List.getElem?_eq_getElem la,List.getElem?_eq_getElem lb,Option.map_some,Option.getD_some,List.getElem_zip]
 have ja:j - i<a[i].length:=by rw [qa];omega
 have jb:j - i<b[i].length:=by rw [qb];omega
 have jz:j - i<(a[i].zip b[i]).length:=by simp;omega
 simp [List.getElem?_eq_getElem ja,List.getElem?_eq_getElem jb,List.getElem?_eq_getElem jz]
section
variable (k:Costs) (x:Text) (t:Table)
theorem waysOf_shape:∀l:List Sym,Shape x.length (waysOf k x t l)
 | []=>over_shape _
 |_::_=>by unfold waysOf;exact over_shape _
def way (l:List Sym) (i j:Nat):Option (Nat×List Nat):=wayAt (waysOf k x t l) i j
theorem way_nil {i j:Nat} (h1:i≤j) (h2:j≤x.length):way k x t [] i j=some ((j - i) * k.delete,[]):=over_get _ _ h1 h2
def pick (s:Sym) (r:List Sym) (i j d:Nat):Option (Nat×List Nat):=match symCost k x t s i (i+d),way k x t r (i+d) j with
 |some c,some v=>some (c+v.1,(i+d)::v.2)
 |_,_=>none
theorem way_cons {s:Sym} {r:List Sym} {i j:Nat} (h1:i≤j) (h2:j≤x.length):
  way k x t (s::r) i j=cheapest ((List.range (j - i+1)).filterMap (pick k x t s r i j)):=by
 show wayAt (waysOf k x t (s::r)) i j=_
 rw [waysOf]
 exact over_get _ _ h1 h2
end
def ruleCell (k:Costs) (x:Text) (t:Table) (p:Nat×Rule) (i j:Nat):Option Cell:=(way k x t p.2.rhs i j).map fun v=>{cost:=v.1,rule:=p.1,ends:=v.2}
theorem ruleCells_shape {k:Costs} {x:Text} {t:Table} {p:Nat×Rule}:Shape x.length (ruleCells k x t p):=(waysOf_shape k x t p.2.rhs).map _
theorem ruleCells_at {k:Costs} {x:Text} {t:Table} {p:Nat×Rule} {i j:Nat} (h1:i≤j) (h2:j≤x.length):at2 (ruleCells k x t p) i j=ruleCell k x t p i j:=
 at2_map (waysOf_shape k x t p.2.rhs) _ h1 h2
def TShape (n:Nat) (x:Text) (t:Table):Prop:=t.length=n∧∀a,a<n→Shape x.length (t.getD a [])
theorem round_row {g:Grammar} {k:Costs} {x:Text} {t:Table} {a:Nat} (ha:a<t.length):
  (round g k x t).getD a []=(Vaglrc.numbered g).foldl (fun c r=>if r.2.lhs==a then lowerAll c (ruleCells k x t r) else c) (t.getD a []):=by
 unfold round
 have lz:a<((List.range t.length).zip t).length:=by simp;exact ha
 simp [List.getD_eq_getElem?_getD,List.getElem?_map,List.getElem?_eq_getElem lz,List.getElem?_eq_getElem ha]
theorem fold_row {k:Costs} {x:Text} {t:Table} {a:Nat}:∀(l:List (Nat×Rule)) {c:List (List (Option Cell))},Shape x.length c→
  Shape x.length (l.foldl (fun c r=>if r.2.lhs==a then lowerAll c (ruleCells k x t r) else c) c)∧
   ∀i j,i≤j→j≤x.length→at2 (l.foldl (fun c r=>if r.2.lhs==a then lowerAll c (ruleCells k x t r) else c) c) i j=
    l.foldl (fun c r=>if r.2.lhs==a then lower c (ruleCell k x t r i j) else c) (at2 c i j)
 | [],c,h=>⟨h,fun _ _ _ _=>rfl⟩
 |p::l,c,h=>by
  simp only [List.foldl_cons]
  by_cases q:(p.2.lhs==a)=true
  ·simp only [q,if_true]
   obtain ⟨s1,s2⟩:=fold_row (a:=a) l (lowerAll_shape h (ruleCells_shape (k:=k) (t:=t) (p:=p)))
   refine ⟨s1,fun i j h1 h2=>?_⟩
   rw [s2 i j h1 h2,lowerAll_at h ruleCells_shape h1 h2,ruleCells_at h1 h2]
  ·simp only [q]
   exact fold_row l h
theorem round_shape {g:Grammar} {k:Costs} {x:Text} {t:Table} {n:Nat} (h:TShape n x t):TShape n x (round g k x t):=by
 refine ⟨by unfold round;simp [h.1],fun a ha=>?_⟩
 rw [round_row (by rw [h.1];exact ha)]
 exact (fold_row _ (h.2 a ha)).1
theorem round_at {g:Grammar} {k:Costs} {x:Text} {t:Table} {n a i j:Nat} (h:TShape n x t) (ha:a<n) (h1:i≤j) (h2:j≤x.length):
  cellAt (round g k x t) a i j=(Vaglrc.numbered g).foldl (fun c r=>if r.2.lhs==a then lower c (ruleCell k x t r i j) else c) (cellAt t a i j):=by
 show at2 ((round g k x t).getD a []) i j=_
 rw [round_row (by rw [h.1];exact ha)]
 exact (fold_row _ (h.2 a ha)).2 i j h1 h2
theorem none_shape {g:Grammar} {x:Text}:TShape g.nons x (noCells g x):=by
 refine ⟨by simp [noCells],fun a ha=>?_⟩
 unfold noCells
 simp [List.getD_eq_getElem?_getD,List.getElem?_map,List.getElem?_range ha]
 exact over_shape _
theorem none_at {g:Grammar} {x:Text} {a i j:Nat}:cellAt (noCells g x) a i j=none:=by
 unfold cellAt noCells
 by_cases ha:a<g.nons
 ·by_cases hi:i≤x.length
  ·have e:((List.map (fun _=>overPieces x.length fun _ _=>(none:Option Cell)) (List.range g.nons)).getD a [])=overPieces x.length fun _ _=>none:=by
    simp [List.getD_eq_getElem?_getD,List.getElem?_map,List.getElem?_range ha]
   rw [e,over_row _ hi]
   simp only [List.getD_eq_getElem?_getD,List.getElem?_map]
   cases (List.range (x.length+1 - i))[j - i]?<;>rfl
  ·have e:((List.map (fun _=>overPieces x.length fun _ _=>(none:Option Cell)) (List.range g.nons)).getD a []).getD i []= []:=by
    simp [List.getD_eq_getElem?_getD,List.getElem?_map,List.getElem?_range ha]
    rw [List.getElem?_eq_none (by rw [over_len];omega)]
    rfl
   rw [e]
   simp
 ·have e:(List.map (fun _=>overPieces x.length fun _ _=>(none:Option Cell)) (List.range g.nons)).getD a []= []:=by
   simp [List.getD_eq_getElem?_getD,List.getElem?_eq_none (show (List.map (fun _=>overPieces x.length fun _ _=>(none:Option Cell)) (List.range g.nons)).length≤a by simp;omega)]
  rw [e]
  simp
end Vm
namespace Vm
open Vaglrl
open Vaglrc (Sym Rule Grammar)
abbrev W:=Nat×List Nat
abbrev chStep:Option W→W→Option W:=fun a w=>match a with
 |none=>some w
 |some b=>if w.1<b.1 then some w else some b
theorem cheap_some:∀(l:List W) (b:W),∃w,l.foldl chStep (some b)=some w∧
  ((w=b∧∀u∈l,b.1≤u.1)∨∃l1 l2,l=l1++w::l2∧w.1<b.1∧(∀u∈l1,w.1<u.1)∧∀u∈l2,w.1≤u.1)
 | [],b=>⟨b,rfl,.inl ⟨rfl,fun _ h=>nomatch h⟩⟩
 |y::l,b=>by
  by_cases h:y.1<b.1
  ·obtain ⟨w,e,r⟩:=cheap_some l y
   refine ⟨w,by rw [List.foldl_cons];simp only [chStep,h,if_true];exact e,.inr ?_⟩
   rcases r with ⟨rfl,r⟩|⟨l1,l2,rfl,r1,r2,r3⟩
   ·exact ⟨[],l,rfl,h,(fun _ h=>nomatch h),r⟩
   ·refine ⟨y::l1,l2,rfl,by omega,fun u hu=>?_,r3⟩
    rcases List.mem_cons.mp hu with rfl|hu
    ·exact r1
    ·exact r2 u hu
  ·obtain ⟨w,e,r⟩:=cheap_some l b
   refine ⟨w,by rw [List.foldl_cons];simp only [chStep,h,if_false];exact e,?_⟩
   rcases r with ⟨rfl,r⟩|⟨l1,l2,rfl,r1,r2,r3⟩
   ·refine .inl ⟨rfl,fun u hu=>?_⟩
    rcases List.mem_cons.mp hu with rfl|hu
    ·omega
    ·exact r u hu
   ·refine .inr ⟨y::l1,l2,rfl,r1,fun u hu=>?_,r3⟩
    rcases List.mem_cons.mp hu with rfl|hu
    ·omega
    ·exact r2 u hu
theorem cheapest_split {l:List W} {w:W} (h:cheapest l=some w):∃l1 l2,l=l1++w::l2∧(∀u∈l1,w.1<u.1)∧∀u∈l2,w.1≤u.1:=by
 cases l with
 |nil=>cases h
 |cons y l=>
  have h:l.foldl chStep (some y)=some w:=h
  obtain ⟨w',e,r⟩:=cheap_some l y
  rw [e] at h
  cases h
  rcases r with ⟨rfl,r⟩|⟨l1,l2,rfl,r1,r2,r3⟩
  ·exact ⟨[],l,rfl,(fun _ h=>nomatch h),r⟩
  ·refine ⟨y::l1,l2,rfl,fun u hu=>?_,r3⟩
   rcases List.mem_cons.mp hu with rfl|hu
   ·exact r1
   ·exact r2 u hu
theorem cheapest_mem {l:List W} {w:W} (h:cheapest l=some w):w∈l:=by
 obtain ⟨l1,l2,rfl,_⟩:=cheapest_split h
 simp
theorem cheapest_le {l:List W} {w u:W} (h:cheapest l=some w) (hu:u∈l):w.1≤u.1:=by
 obtain ⟨l1,l2,rfl,h1,h2⟩:=cheapest_split h
 rcases List.mem_append.mp hu with q|q
 ·exact Nat.le_of_lt (h1 u q)
 ·rcases List.mem_cons.mp q with rfl|q
  ·exact Nat.le_refl _
  ·exact h2 u q
theorem cheapest_has {l:List W} {u:W} (hu:u∈l):∃w,cheapest l=some w:=by
 cases l with
 |nil=>cases hu
 |cons y l=>
  obtain ⟨w,e,_⟩:=cheap_some l y
  exact ⟨w,e⟩
theorem cheapest_none {l:List W} (h:cheapest l=none):l= []:=by
 cases l with
 |nil=>rfl
 |cons y l=>
  obtain ⟨w,e⟩:=cheapest_has (l:=y::l) (u:=y) (by simp)
  rw [h] at e
  cases e
def Le (a b:Option Cell):Prop:=∀d,b=some d→∃c,a=some c∧c.cost≤d.cost
theorem Le.refl (a:Option Cell):Le a a:=fun d h=>⟨d,h,Nat.le_refl _⟩
theorem Le.trans {a b c:Option Cell} (h:Le a b) (h':Le b c):Le a c:=fun d hd=>by
 obtain ⟨e,he,h1⟩:=h' d hd
 obtain ⟨f,hf,h2⟩:=h e he
 exact ⟨f,hf,Nat.le_trans h2 h1⟩
theorem lower_left (a b:Option Cell):Le (lower a b) a:=fun d hd=>by
 subst hd
 cases b with
 |none=>exact ⟨d,rfl,Nat.le_refl _⟩
 |some e=>
  by_cases q:e.cost<d.cost
  ·exact ⟨e,by simp [lower,q],Nat.le_of_lt q⟩
  ·exact ⟨d,by simp [lower,q],Nat.le_refl _⟩
theorem lower_right (a b:Option Cell):Le (lower a b) b:=fun d hd=>by
 subst hd
 cases a with
 |none=>exact ⟨d,rfl,Nat.le_refl _⟩
 |some e=>
  by_cases q:d.cost<e.cost
  ·exact ⟨d,by simp [lower,q],Nat.le_refl _⟩
  ·exact ⟨e,by simp [lower,q],by omega⟩
theorem lower_stay {a b:Option Cell} (h:Le a b):lower a b=a:=by
 cases b with
 |none=>cases a<;>rfl
 |some d=>
  obtain ⟨c,rfl,q⟩:=h d rfl
  simp [lower,show¬d.cost<c.cost by omega]
theorem lower_new {a b:Option Cell} (h:¬Le a b):lower a b=b:=by
 cases b with
 |none=>exact absurd (fun d hd=>nomatch hd) h
 |some d=>
  cases a with
  |none=>rfl
  |some c=>
   have q:d.cost<c.cost:=by
    rcases Nat.lt_or_ge d.cost c.cost with q|q
    ·exact q
    ·exact absurd (fun e he=>by cases he;exact ⟨c,rfl,q⟩) h
   simp [lower,q]
theorem lower_or (a b:Option Cell):(Le a b∧lower a b=a)∨(¬Le a b∧lower a b=b):=by
 by_cases h:Le a b
 ·exact .inl ⟨h,lower_stay h⟩
 ·exact .inr ⟨h,lower_new h⟩
def lay (a:Nat) (f:Nat×Rule→Option Cell) (l:List (Nat×Rule)) (c:Option Cell):Option Cell:=l.foldl (fun c r=>if r.2.lhs==a then lower c (f r) else c) c
theorem lay_cons (a:Nat) (f:Nat×Rule→Option Cell) (p:Nat×Rule) (l:List (Nat×Rule)) (c:Option Cell):lay a f (p::l) c=lay a f l (if p.2.lhs==a then lower c (f p) else c):=rfl
theorem lay_left (a:Nat) (f:Nat×Rule→Option Cell):∀(l:List (Nat×Rule)) (c:Option Cell),Le (lay a f l c) c
 | [],c=>Le.refl c
 |p::l,c=>by
  rw [lay_cons]
  refine (lay_left a f l _).trans ?_
  by_cases q:(p.2.lhs==a)=true
  ·rw [if_pos q];exact lower_left _ _
  ·rw [if_neg q];exact Le.refl _
theorem lay_right (a:Nat) (f:Nat×Rule→Option Cell):∀(l:List (Nat×Rule)) (c:Option Cell) (r:Nat×Rule),r∈l→r.2.lhs=a→Le (lay a f l c) (f r)
 |p::l,c,r,hr,e=>by
  rcases List.mem_cons.mp hr with rfl|hr
  ·rw [lay_cons]
   refine (lay_left a f l _).trans ?_
   rw [if_pos (by simp [e])]
   exact lower_right _ _
  ·exact lay_right a f l _ r hr e
theorem lay_from (a:Nat) (f:Nat×Rule→Option Cell):∀(l:List (Nat×Rule)) (c:Option Cell),lay a f l c=c∨∃r∈l,r.2.lhs=a∧lay a f l c=f r∧¬Le c (f r)
 | [],c=>.inl rfl
 |p::l,c=>by
  show lay a f l (if p.2.lhs==a then lower c (f p) else c)=c∨_
  by_cases q:(p.2.lhs==a)=true
  ·have e:lay a f (p::l) c=lay a f l (lower c (f p)):=by rw [lay_cons,if_pos q]
   rw [if_pos q]
   rcases lower_or c (f p) with ⟨h1,h2⟩|⟨h1,h2⟩
   ·rw [h2]
    rcases lay_from a f l c with z|⟨r,hr,z1,z2,z3⟩
    ·exact .inl z
    ·exact .inr ⟨r,List.mem_cons_of_mem _ hr,z1,by rw [e,h2];exact z2,z3⟩
   ·rcases lay_from a f l (lower c (f p)) with z|⟨r,hr,z1,z2,z3⟩
    ·exact .inr ⟨p,List.mem_cons_self,by simpa using q,by rw [e,z,h2],h1⟩
    ·exact .inr ⟨r,List.mem_cons_of_mem _ hr,z1,by rw [e,z2],fun y=>z3 ((lower_left c (f p)).trans y)⟩
  ·have e:lay a f (p::l) c=lay a f l c:=by rw [lay_cons,if_neg q]
   rw [if_neg q]
   rcases lay_from a f l c with z|⟨r,hr,z1,z2,z3⟩
   ·exact .inl z
   ·exact .inr ⟨r,List.mem_cons_of_mem _ hr,z1,by rw [e];exact z2,z3⟩
theorem lay_stay {a:Nat} {f:Nat×Rule→Option Cell}:∀{l:List (Nat×Rule)} {c:Option Cell},(∀r∈l,r.2.lhs=a→Le c (f r))→lay a f l c=c
 | [],_,_=>rfl
 |p::l,c,h=>by
  show lay a f l (if p.2.lhs==a then lower c (f p) else c)=c
  have e:(if (p.2.lhs==a)=true then lower c (f p) else c)=c:=by
   by_cases q:(p.2.lhs==a)=true
   ·rw [if_pos q];exact lower_stay (h p List.mem_cons_self (by simpa using q))
   ·rw [if_neg q]
  rw [e]
  exact lay_stay fun r hr=>h r (List.mem_cons_of_mem _ hr)
section
variable {k:Costs} {x:Text} {t t':Table}
theorem pick_some {s:Sym} {r:List Sym} {i j d:Nat} {w:W} (h:pick k x t s r i j d=some w):
  ∃c v,symCost k x t s i (i+d)=some c∧way k x t r (i+d) j=some v∧w=(c+v.1,(i+d)::v.2):=by
 unfold pick at h
 split at h
 ·rename_i c v e1 e2
  exact ⟨c,v,e1,e2,(Option.some.inj h).symm⟩
 ·cases h
theorem pick_of {s:Sym} {r:List Sym} {i j d c:Nat} {v:W} (h1:symCost k x t s i (i+d)=some c) (h2:way k x t r (i+d) j=some v):
  pick k x t s r i j d=some (c+v.1,(i+d)::v.2):=by
 unfold pick
 rw [h1,h2]
theorem way_some {s:Sym} {r:List Sym} {i j:Nat} {w:W} (h1:i≤j) (h2:j≤x.length) (h:way k x t (s::r) i j=some w):
  ∃d c v,d≤j - i∧symCost k x t s i (i+d)=some c∧way k x t r (i+d) j=some v∧w=(c+v.1,(i+d)::v.2):=by
 rw [way_cons k x t h1 h2] at h
 obtain ⟨d,hd,e⟩:=List.mem_filterMap.mp (cheapest_mem h)
 obtain ⟨c,v,e1,e2,e3⟩:=pick_some e
 exact ⟨d,c,v,by have:=List.mem_range.mp hd;omega,e1,e2,e3⟩
theorem way_le {s:Sym} {r:List Sym} {i j d c:Nat} {v:W} (h1:i≤j) (h2:j≤x.length) (hd:d≤j - i) (e1:symCost k x t s i (i+d)=some c) (e2:way k x t r (i+d) j=some v):
  ∃w,way k x t (s::r) i j=some w∧w.1≤c+v.1:=by
 have hm:(c+v.1,(i+d)::v.2)∈(List.range (j - i+1)).filterMap (pick k x t s r i j):=
  List.mem_filterMap.mpr ⟨d,List.mem_range.mpr (by omega),pick_of e1 e2⟩
 obtain ⟨w,e⟩:=cheapest_has hm
 exact ⟨w,by rw [way_cons k x t h1 h2];exact e,cheapest_le e hm⟩
theorem way_congr:∀(l:List Sym) {i j:Nat},i≤j→j≤x.length→(∀s∈l,∀p e,i≤p→p≤e→e≤j→symCost k x t s p e=symCost k x t' s p e)→way k x t l i j=way k x t' l i j
 | [],i,j,h1,h2,_=>by rw [way_nil k x t h1 h2,way_nil k x t' h1 h2]
 |s::r,i,j,h1,h2,h=>by
  rw [way_cons k x t h1 h2,way_cons k x t' h1 h2]
  have e:∀d∈List.range (j - i+1),pick k x t s r i j d=pick k x t' s r i j d:=fun d hd=>by
   have hd:=List.mem_range.mp hd
   have e1:=h s List.mem_cons_self i (i+d) (by omega) (by omega) (by omega)
   have e2:=way_congr r (i:=i+d) (j:=j) (by omega) h2 fun s hs p e hp=>h s (List.mem_cons_of_mem _ hs) p e (by omega)
   unfold pick
   rw [e1,e2]
  congr 1
  have go:∀L:List Nat,(∀d∈L,pick k x t s r i j d=pick k x t' s r i j d)→L.filterMap (pick k x t s r i j)=L.filterMap (pick k x t' s r i j):=by
   intro L
   induction L with
   |nil=>intro _;rfl
   |cons d L ih=>
    intro hL
    rw [List.filterMap_cons,List.filterMap_cons,hL d List.mem_cons_self,ih fun d hd=>hL d (List.mem_cons_of_mem _ hd)]
  exact go _ e
theorem way_back:∀(l:List Sym) {i j:Nat} {w:W},i≤j→j≤x.length→way k x t l i j=some w→
  (∃w',way k x t' l i j=some w'∧w'.1≤w.1)∨∃b p e c,i≤p∧p≤e∧e≤j∧symCost k x t (.non b) p e=some c∧c≤w.1∧symCost k x t' (.non b) p e≠some c
 | [],i,j,w,h1,h2,h=>by
  rw [way_nil k x t h1 h2] at h
  exact .inl ⟨w,by rw [way_nil k x t' h1 h2];exact h,Nat.le_refl _⟩
 |s::r,i,j,w,h1,h2,h=>by
  obtain ⟨d,c,v,hd,e1,e2,rfl⟩:=way_some h1 h2 h
  by_cases q:symCost k x t' s i (i+d)=some c
  ·rcases way_back r (by omega) h2 e2 with ⟨w',e3,e4⟩|⟨b,p,e,c',z1,z2,z3,z4,z5,z6⟩
   ·obtain ⟨w2,e5,e6⟩:=way_le h1 h2 hd q e3
    exact .inl ⟨w2,e5,by show w2.1≤c+v.1;omega⟩
   ·exact .inr ⟨b,p,e,c',by omega,z2,z3,z4,by show c'≤c+v.1;omega,z6⟩
  ·cases s with
   |range lo hi=>exact absurd e1 q
   |non b=>exact .inr ⟨b,i,i+d,c,Nat.le_refl _,by omega,by omega,e1,Nat.le_add_right _ _,q⟩
end
section
variable (g:Grammar) (k:Costs) (x:Text)
def T:Nat→Table
 |0=>noCells g x
 |m+1=>round g k x (T m)
def C (m a i j:Nat):Option Cell:=cellAt (T g k x m) a i j
end
section
variable {g:Grammar} {k:Costs} {x:Text}
theorem T_shape:∀m,TShape g.nons x (T g k x m)
 |0=>none_shape
 |m+1=>round_shape (T_shape m)
theorem C_zero {a i j:Nat}:C g k x 0 a i j=none:=none_at
theorem C_succ {m a i j:Nat} (ha:a<g.nons) (h1:i≤j) (h2:j≤x.length):
  C g k x (m+1) a i j=lay a (fun r=>ruleCell k x (T g k x m) r i j) (Vaglrc.numbered g) (C g k x m a i j):=round_at (T_shape m) ha h1 h2
theorem C_out {m a i j:Nat} (ha:¬a<g.nons):C g k x m a i j=none:=by
 unfold C cellAt
 have e:(T g k x m).getD a []= []:=by
  rw [List.getD_eq_getElem?_getD,List.getElem?_eq_none (by rw [(T_shape m).1];omega)]
  rfl
 rw [e]
 simp
theorem C_mono {m a i j:Nat} (ha:a<g.nons) (h1:i≤j) (h2:j≤x.length):Le (C g k x (m+1) a i j) (C g k x m a i j):=by
 rw [C_succ ha h1 h2]
 exact lay_left _ _ _ _
theorem C_monos {m a i j:Nat} (ha:a<g.nons) (h1:i≤j) (h2:j≤x.length):∀n,Le (C g k x (m+n) a i j) (C g k x m a i j)
 |0=>Le.refl _
 |n+1=>(C_mono ha h1 h2).trans (C_monos ha h1 h2 n)
theorem sym_non {m b p e:Nat}:symCost k x (T g k x m) (.non b) p e=(C g k x m b p e).map (·.cost):=rfl
def Chg (m a i j:Nat) (g:Grammar) (k:Costs) (x:Text):Prop:=¬Le (C g k x m a i j) (C g k x (m+1) a i j)
theorem chg_some {m a i j:Nat} (h:Chg m a i j g k x):∃c,C g k x (m+1) a i j=some c∧∀d,C g k x m a i j=some d→c.cost<d.cost:=by
 unfold Chg at h
 cases e:C g k x (m+1) a i j with
 |none=>
  rw [e] at h
  exact absurd (fun d hd=>nomatch hd) h
 |some c=>
  refine ⟨c,rfl,fun d hd=>?_⟩
  rcases Nat.lt_or_ge c.cost d.cost with q|q
  ·exact q
  ·rw [e,hd] at h
   exact absurd (fun y hy=>by cases hy;exact ⟨d,rfl,q⟩) h
theorem chg_back {m a i j:Nat} {c:Cell} (ha:a<g.nons) (h1:i≤j) (h2:j≤x.length) (h:Chg (m+1) a i j g k x) (hc:C g k x (m+2) a i j=some c):
  ∃b p e c',b<g.nons∧p≤e∧e≤x.length∧Chg m b p e g k x∧C g k x (m+1) b p e=some c'∧c'.cost≤c.cost:=by
 have hs:=C_succ (g:=g) (k:=k) (x:=x) (m:=m+1) ha h1 h2
 rcases lay_from a (fun r=>ruleCell k x (T g k x (m+1)) r i j) (Vaglrc.numbered g) (C g k x (m+1) a i j) with q|⟨r,hr,e1,e2,e3⟩
 ·rw [q] at hs
  unfold Chg at h
  rw [hs] at h
  exact absurd (Le.refl _) h
 ·rw [e2,hc] at hs
  have hs:some c=(way k x (T g k x (m+1)) r.2.rhs i j).map fun v=>({cost:=v.1,rule:=r.1,ends:=v.2}:Cell):=hs
  cases w:way k x (T g k x (m+1)) r.2.rhs i j with
  |none=>rw [w] at hs;cases hs
  |some v=>
   rw [w] at hs
   have hs:c={cost:=v.1,rule:=r.1,ends:=v.2}:=Option.some.inj hs
   rcases way_back (t':=T g k x m) r.2.rhs h1 h2 w with ⟨v',z1,z2⟩|⟨b,p,e,cc,z1,z2,z3,z4,z5,z6⟩
   ·exfalso
    have hr2:=lay_right a (fun r=>ruleCell k x (T g k x m) r i j) (Vaglrc.numbered g) (C g k x m a i j) r hr e1
    rw [←C_succ ha h1 h2] at hr2
    obtain ⟨c1,y1,y2⟩:=hr2 {cost:=v'.1,rule:=r.1,ends:=v'.2} (by show (way k x (T g k x m) r.2.rhs i j).map _=_;rw [z1];rfl)
    obtain ⟨c2,w1,w2⟩:=chg_some h
    rw [hc] at w1
    cases w1
    have:=w2 c1 y1
    rw [hs] at this
    have y2:c1.cost≤v'.1:=y2
    have this:v.1<c1.cost:=this
    omega
   ·have hb:b<g.nons:=by
     rcases Nat.lt_or_ge b g.nons with q|q
     ·exact q
     ·rw [sym_non,C_out (by omega)] at z4
      cases z4
    rw [sym_non] at z4 z6
    cases y:C g k x (m+1) b p e with
    |none=>rw [y] at z4;cases z4
    |some c'=>
     rw [y] at z4
     have z4:c'.cost=cc:=Option.some.inj z4
     refine ⟨b,p,e,c',hb,z2,by omega,?_,y,by rw [z4,hs];exact z5⟩
     intro hle
     rw [y] at hle
     obtain ⟨d,d1,d2⟩:=hle c' rfl
     obtain ⟨f,f1,f2⟩:=C_mono (g:=g) (k:=k) (x:=x) (m:=m) hb z2 (by omega) d d1
     rw [y] at f1
     cases f1
     apply z6
     rw [d1]
     show some d.cost=some cc
     congr 1
     omega
abbrev Key:=Nat×Nat×Nat
def Valid (g:Grammar) (x:Text) (q:Key):Prop:=q.1<g.nons∧q.2.1≤q.2.2∧q.2.2≤x.length
theorem chg_chain:∀(m:Nat) {a i j:Nat} {c:Cell},a<g.nons→i≤j→j≤x.length→Chg m a i j g k x→C g k x (m+1) a i j=some c→
  ∃l:List Key,l.length=m+1∧l.Nodup∧(∀q∈l,Valid g x q)∧∀q∈l,∃n u,n≤m+1∧C g k x n q.1 q.2.1 q.2.2=some u∧u.cost≤c.cost
 |0,a,i,j,c,ha,h1,h2,h,hc=>by
  refine ⟨[(a,i,j)],rfl,by simp,fun q hq=>?_,fun q hq=>?_⟩
  ·rw [List.mem_singleton.mp hq];exact ⟨ha,h1,h2⟩
  ·rw [List.mem_singleton.mp hq];exact ⟨1,c,Nat.le_refl _,hc,Nat.le_refl _⟩
 |m+1,a,i,j,c,ha,h1,h2,h,hc=>by
  obtain ⟨b,p,e,c',z1,z2,z3,z4,z5,z6⟩:=chg_back ha h1 h2 h hc
  obtain ⟨l,l1,l2,l3,l4⟩:=chg_chain m z1 z2 z3 z4 z5
  refine ⟨(a,i,j)::l,by simp [l1],List.nodup_cons.mpr ⟨fun hm=>?_,l2⟩,fun q hq=>?_,fun q hq=>?_⟩
  ·obtain ⟨n,u,n1,n2,n3⟩:=l4 _ hm
   have n2:C g k x n a i j=some u:=n2
   obtain ⟨d,hd⟩:∃d,m+1=n+d:=⟨m+1 - n,by omega⟩
   obtain ⟨f,f1,f2⟩:=C_monos (g:=g) (k:=k) (x:=x) (m:=n) ha h1 h2 d u n2
   rw [←hd] at f1
   obtain ⟨c2,w1,w2⟩:=chg_some h
   rw [hc] at w1
   cases w1
   have:=w2 f f1
   omega
  ·rcases List.mem_cons.mp hq with rfl|hq
   ·exact ⟨ha,h1,h2⟩
   ·exact l3 q hq
  ·rcases List.mem_cons.mp hq with rfl|hq
   ·exact ⟨m+2,c,Nat.le_refl _,hc,Nat.le_refl _⟩
   ·obtain ⟨n,u,n1,n2,n3⟩:=l4 q hq
    exact ⟨n,u,by omega,n2,by omega⟩
theorem nodup_sub {α:Type} [DecidableEq α]:∀{l L:List α},l.Nodup→(∀q∈l,q∈L)→l.length≤L.length
 | [],_,_,_=>Nat.zero_le _
 |a::l,L,h,s=>by
  obtain ⟨h1,h2⟩:=List.nodup_cons.mp h
  have ha:=s a List.mem_cons_self
  have q:=nodup_sub (l:=l) (L:=L.erase a) h2 fun q hq=>(List.mem_erase_of_ne (fun e=>h1 (by rw [←e];exact hq))).mpr (s q (List.mem_cons_of_mem _ hq))
  rw [List.length_erase_of_mem ha] at q
  have:=List.length_pos_of_mem ha
  rw [List.length_cons]
  omega
def pieces12:List (Nat×Nat):=(List.range 13).flatMap fun i=>(List.range (13 - i)).map fun d=>(i,i+d)
def keys20:List Key:=(List.range 20).flatMap fun a=>pieces12.map fun p=>(a,p.1,p.2)
theorem keys20_len:keys20.length=1820:=by decide+kernel
theorem keys20_all {q:Key} (hn:g.nons≤20) (hx:x.length≤12) (h:Valid g x q):q∈keys20:=by
 obtain ⟨a,i,j⟩:=q
 obtain ⟨h1,h2,h3⟩:=h
 have h1:a<g.nons:=h1
 have h2:i≤j:=h2
 have h3:j≤x.length:=h3
 refine List.mem_flatMap.mpr ⟨a,List.mem_range.mpr (by omega),List.mem_map.mpr ⟨(i,j),?_,rfl⟩⟩
 refine List.mem_flatMap.mpr ⟨i,List.mem_range.mpr (by omega),List.mem_map.mpr ⟨j - i,List.mem_range.mpr (by omega),?_⟩⟩
 rw [show i+(j - i)=j by omega]
theorem chg_bound {m a i j:Nat} (hn:g.nons≤20) (hx:x.length≤12) (ha:a<g.nons) (h1:i≤j) (h2:j≤x.length) (h:Chg m a i j g k x):m+1≤1820:=by
 obtain ⟨c,hc,_⟩:=chg_some h
 obtain ⟨l,l1,l2,l3,_⟩:=chg_chain m ha h1 h2 h hc
 have q:=nodup_sub l2 fun q hq=>keys20_all hn hx (l3 q hq)
 rw [l1,keys20_len] at q
 exact q
def Still (m:Nat) (g:Grammar) (k:Costs) (x:Text):Prop:=∀a i j,a<g.nons→i≤j→j≤x.length→Le (C g k x m a i j) (C g k x (m+1) a i j)
theorem still_eq {m:Nat} (h:Still m g k x) {a i j:Nat} (h1:i≤j) (h2:j≤x.length):C g k x (m+1) a i j=C g k x m a i j:=by
 by_cases ha:a<g.nons
 ·have hs:=C_succ (g:=g) (k:=k) (x:=x) (m:=m) ha h1 h2
  rcases lay_from a (fun r=>ruleCell k x (T g k x m) r i j) (Vaglrc.numbered g) (C g k x m a i j) with q|⟨r,hr,e1,e2,e3⟩
  ·rw [hs,q]
  ·exfalso
   rw [e2] at hs
   have z:=h a i j ha h1 h2
   rw [hs] at z
   exact e3 z
 ·rw [C_out ha,C_out ha]
theorem still_next {m:Nat} (h:Still m g k x):Still (m+1) g k x:=fun a i j ha h1 h2=>by
 have e:C g k x (m+2) a i j=C g k x (m+1) a i j:=by
  have f:(fun r=>ruleCell k x (T g k x (m+1)) r i j)=fun r=>ruleCell k x (T g k x m) r i j:=by
   funext r
   unfold ruleCell
   rw [way_congr (t:=T g k x (m+1)) (t':=T g k x m) r.2.rhs h1 h2 fun s hs p e h3 h4 h5=>?_]
   cases s with
   |range lo hi=>rfl
   |non b=>rw [sym_non,sym_non,still_eq h h4 (by omega)]
  have g1:=C_succ (g:=g) (k:=k) (x:=x) (m:=m) ha h1 h2
  have g2:=C_succ (g:=g) (k:=k) (x:=x) (m:=m+1) ha h1 h2
  rw [f,still_eq h h1 h2,←g1,still_eq h h1 h2] at g2
  rw [g2,still_eq h h1 h2]
 rw [e]
 exact Le.refl _
theorem still_all {m:Nat} (h:Still m g k x):∀n,Still (m+n) g k x
 |0=>h
 |n+1=>still_next (still_all h n)
theorem still_same {m:Nat} (h:Still m g k x) {a i j:Nat} (h1:i≤j) (h2:j≤x.length):∀n,C g k x (m+n) a i j=C g k x m a i j
 |0=>rfl
 |n+1=>(still_eq (still_all h n) h1 h2).trans (still_same h h1 h2 n)
theorem still_late {m:Nat} (hn:g.nons≤20) (hx:x.length≤12) (hm:1820≤m):Still m g k x:=fun a i j ha h1 h2=>by
 by_cases q:Le (C g k x m a i j) (C g k x (m+1) a i j)
 ·exact q
 ·have:=chg_bound hn hx ha h1 h2 q
  omega
theorem costs_at {t u:Table} {a i j:Nat} (h:costsIn t=costsIn u):(cellAt t a i j).map (·.cost)=(cellAt u a i j).map (·.cost):=by
 have e:∀t:Table,((costsIn t).getD a []).getD i []=((t.getD a []).getD i []).map fun c=>c.map fun d=>d.cost:=fun t=>by
  unfold costsIn
  simp only [List.getD_eq_getElem?_getD,List.getElem?_map]
  cases t[a]? with
  |none=>simp
  |some r=>
   simp only [Option.map_some,Option.getD_some,List.getElem?_map]
   cases r[i]?<;>simp
 have f:∀t:Table,(((costsIn t).getD a []).getD i []).getD (j - i) none=(cellAt t a i j).map (·.cost):=fun t=>by
  rw [e]
  unfold cellAt
  simp only [List.getD_eq_getElem?_getD,List.getElem?_map]
  cases (((t[a]?).getD [])[i]?.getD [])[j - i]?<;>simp
 rw [←f t,←f u,h]
theorem settle_is (hn:g.nons≤20) (hx:x.length≤12):∀(n m:Nat),1820≤m+n→∃M,Still M g k x∧settle g k x n (T g k x m)=T g k x M
 |0,m,h=>⟨m,still_late hn hx h,rfl⟩
 |n+1,m,h=>by
  show∃M,Still M g k x∧(if costsIn (round g k x (T g k x m))==costsIn (T g k x m) then T g k x m else settle g k x n (round g k x (T g k x m)))=T g k x M
  by_cases q:(costsIn (round g k x (T g k x m))==costsIn (T g k x m))=true
  ·refine ⟨m,fun a i j ha h1 h2 d hd=>?_,by rw [if_pos q]⟩
   have z:=costs_at (a:=a) (i:=i) (j:=j) (eq_of_beq q)
   have z:(C g k x (m+1) a i j).map (·.cost)=(C g k x m a i j).map (·.cost):=z
   rw [hd] at z
   cases y:C g k x m a i j with
   |none=>rw [y] at z;cases z
   |some c=>
    rw [y] at z
    exact ⟨c,rfl,Nat.le_of_eq (Option.some.inj z).symm⟩
  ·rw [if_neg q]
   exact settle_is hn hx n (m+1) (by omega)
theorem table_is (hn:g.nons≤20) (hx:x.length≤12) {m:Nat} (hs:Still m g k x) {a i j:Nat} (h1:i≤j) (h2:j≤x.length):cellAt (tableOf g k x) a i j=C g k x m a i j:=by
 obtain ⟨M,s,e⟩:=settle_is (g:=g) (k:=k) (x:=x) hn hx ROUNDS 0 (by decide)
 show cellAt (settle g k x ROUNDS (T g k x 0)) a i j=_
 rw [e]
 show C g k x M a i j=_
 rcases Nat.le_total m M with q|q
 ·obtain ⟨d,rfl⟩:∃d,M=m+d:=⟨M - m,by omega⟩
  exact still_same hs h1 h2 d
 ·obtain ⟨d,rfl⟩:∃d,m=M+d:=⟨m - M,by omega⟩
  exact (still_same s h1 h2 d).symm
end
end Vm
namespace Vm
open Vaglrl
open Vaglrc (Sym Rule Grammar)
theorem cc_foldl (k:Costs):∀(l:List Change) (n:Nat),l.foldl (fun n c=>n+changeCost k c) n=n+changesCost k l
 | [],n=>rfl
 |c::l,n=>by
  show l.foldl _ (n+changeCost k c)=n+l.foldl _ (0+changeCost k c)
  rw [cc_foldl k l,cc_foldl k l]
  omega
theorem cc_cons (k:Costs) (c:Change) (l:List Change):changesCost k (c::l)=changeCost k c+changesCost k l:=by
 show l.foldl _ (0+changeCost k c)=_
 rw [cc_foldl k l]
 omega
theorem cc_append (k:Costs):∀(l m:List Change),changesCost k (l++m)=changesCost k l+changesCost k m
 | [],m=>by show changesCost k m=changesCost k []+_;rw [show changesCost k []=0 from rfl];omega
 |c::l,m=>by rw [List.cons_append,cc_cons,cc_cons,cc_append k l m];omega
theorem cc_deletes (k:Costs):∀n,changesCost k (deletes n)=n * k.delete
 |0=>by simp [deletes,changesCost]
 |n+1=>by
  have e:deletes (n+1)=.delete::deletes n:=rfl
  rw [e,cc_cons,cc_deletes k n,Nat.succ_mul]
  show k.delete+_=_
  omega
def hit (lo hi:Nat) (x:Text):Bool:=x.any fun b=>decide (lo≤b)&&decide (b≤hi)
def rc (k:Costs) (lo hi:Nat) (x:Text):Nat:=match x with
 | []=>k.insert
 |_::r=>(if hit lo hi x then 0 else if k.replace≤k.insert+k.delete then k.replace else k.insert+k.delete)+r.length * k.delete
theorem first_hit {lo hi:Nat} {x:Text}:(firstIn lo hi x).isSome=hit lo hi x:=by
 unfold firstIn hit
 rw [List.findIdx?_isSome]
theorem first_lt {lo hi i:Nat} {x:Text} (h:firstIn lo hi x=some i):i<x.length:=by
 unfold firstIn at h
 exact (List.findIdx?_eq_some_iff_getElem.mp h).1
theorem range_cost (k:Costs) (lo hi:Nat) (x:Text):changesCost k (rangeChanges k lo hi x)=rc k lo hi x:=by
 cases x with
 |nil=>
  show changesCost k (Change.insert lo::deletes 0)=k.insert
  rw [cc_cons,cc_deletes]
  show k.insert+0 * k.delete=_
  omega
 |cons b r=>
  have hp:changesCost k (Change.insert lo::deletes (b::r).length)=k.insert+(r.length+1) * k.delete:=by
   rw [cc_cons,cc_deletes]
   rfl
  unfold rangeChanges rc
  cases h:firstIn lo hi (b::r) with
  |some i=>
   have hh:hit lo hi (b::r)=true:=by rw [←first_hit,h];rfl
   have hi:=first_lt h
   have hs:changesCost k (deletes i++(Change.keep::deletes ((b::r).length - i - 1)))=r.length * k.delete:=by
    rw [cc_append,cc_cons,cc_deletes,cc_deletes]
    show i * k.delete+(0+((b::r).length - i - 1) * k.delete)=_
    rw [Nat.zero_add,←Nat.add_mul]
    congr 1
    rw [List.length_cons] at hi ⊢
    omega
   simp only [hh,if_true,hp,hs]
   rw [if_neg (by rw [Nat.succ_mul];omega),hs]
   omega
  |none=>
   have hh:hit lo hi (b::r)=false:=by rw [←first_hit,h];rfl
   have hs:changesCost k (Change.replace lo::deletes r.length)=k.replace+r.length * k.delete:=by
    rw [cc_cons,cc_deletes]
    rfl
   simp only [hh,hp,hs]
   by_cases q:k.replace≤k.insert+k.delete
   ·rw [if_neg (by rw [Nat.succ_mul];omega),hs]
    simp [q]
   ·rw [if_pos (by rw [Nat.succ_mul];omega),hp,Nat.succ_mul]
    simp [q]
    omega
structure CostsOk (k:Costs):Prop where
 i1:1≤k.insert
 i9:k.insert≤9
 d1:1≤k.delete
 d9:k.delete≤9
 r1:1≤k.replace
 r9:k.replace≤9
theorem rc_le {k:Costs} (ok:CostsOk k) {lo hi:Nat} {x:Text} (hx:x.length≤12):rc k lo hi x≤117:=by
 cases x with
 |nil=>show k.insert≤_;have:=ok.i9;omega
 |cons b r=>
  unfold rc
  have h1:r.length * k.delete≤11 * 9:=Nat.mul_le_mul (by rw [List.length_cons] at hx;omega) ok.d9
  have:=ok.i9
  have:=ok.r9
  have:=ok.d9
  dsimp only
  split
  ·omega
  ·split<;>omega
def Bd:Nat→Nat
 |0=>0
 |c+1=>8 * max (Bd c) 117+108
theorem Bd_mono1 (c:Nat):Bd c≤Bd (c+1):=by
 show Bd c≤8 * max (Bd c) 117+108
 have:=Nat.le_max_left (Bd c) 117
 omega
theorem Bd_mono {c d:Nat} (h:c≤d):Bd c≤Bd d:=by
 induction h with
 |refl=>exact Nat.le_refl _
 |step _ ih=>exact Nat.le_trans ih (Bd_mono1 _)
def NW:Nat:=1000000000000000000000000000000
theorem Bd_NW:8 * max (Bd 20) 117+108<NW:=by decide+kernel
structure GOk (g:Grammar):Prop where
 n1:1≤g.nons
 n20:g.nons≤20
 r60:g.rules.length≤60
 lhs:∀r∈g.rules,r.lhs<g.nons
 syms:∀r∈g.rules,r.rhs.length≤8
 sym:∀r∈g.rules,∀s∈r.rhs,match s with| .non b=>b<g.nons| .range lo hi=>lo≤hi∧hi<256
theorem numbered_mem {g:Grammar} {p:Nat×Rule} (h:p∈Vaglrc.numbered g):g.rules[p.1]?=some p.2:=by
 unfold Vaglrc.numbered at h
 obtain ⟨i,hi⟩:=List.mem_iff_getElem?.mp h
 rw [List.getElem?_zip_eq_some] at hi
 obtain ⟨h1,h2⟩:=hi
 have:i=p.1:=by
  have hl:i<g.rules.length:=(List.getElem?_eq_some_iff.mp h2).1
  rw [List.getElem?_range hl] at h1
  exact Option.some.inj h1
 rw [←this]
 exact h2
section
variable {k:Costs} {x:Text} {t:Table}
theorem way_bound {S:Nat} (ok:CostsOk k) (hx:x.length≤12) (hS:∀s p e c,p≤e→e≤x.length→symCost k x t s p e=some c→c≤S):
  ∀(l:List Sym) {i j:Nat} {w:W},i≤j→j≤x.length→way k x t l i j=some w→w.1≤l.length * S+108
 | [],i,j,w,h1,h2,h=>by
  rw [way_nil k x t h1 h2] at h
  cases h
  show (j - i) * k.delete≤_
  have:(j - i) * k.delete≤12 * 9:=Nat.mul_le_mul (by omega) ok.d9
  omega
 |s::r,i,j,w,h1,h2,h=>by
  obtain ⟨d,c,v,hd,e1,e2,rfl⟩:=way_some h1 h2 h
  have q1:=hS s i (i+d) c (by omega) (by omega) e1
  have q2:=way_bound ok hx hS r (by omega) h2 e2
  show c+v.1≤_
  rw [List.length_cons,Nat.succ_mul]
  omega
theorem piece_len {i j:Nat} (h2:j≤x.length):(piece x i j).length=j - i:=by
 unfold piece
 rw [List.length_take,List.length_drop]
 omega
theorem sym_range {lo hi i j:Nat}:symCost k x t (.range lo hi) i j=some (rc k lo hi (piece x i j)):=by
 show some _=_
 rw [range_cost]
end
section
variable {g:Grammar} {k:Costs} {x:Text}
def Has (m b:Nat) (g:Grammar) (k:Costs) (x:Text):Prop:=∃c,C g k x m b 0 0=some c
theorem way_has {m:Nat} (U:∀a i j,i≤j→j≤x.length→((∃c,C g k x m a i j=some c)↔Has m a g k x)):
  ∀(l:List Sym) {i j:Nat},i≤j→j≤x.length→((∃w,way k x (T g k x m) l i j=some w)↔∀b,Sym.non b∈l→Has m b g k x)
 | [],i,j,h1,h2=>⟨(fun _ _ h=>nomatch h),fun _=>⟨_,way_nil k x _ h1 h2⟩⟩
 |s::r,i,j,h1,h2=>by
  constructor
  ·rintro ⟨w,h⟩ b hb
   obtain ⟨d,c,v,hd,e1,e2,rfl⟩:=way_some h1 h2 h
   rcases List.mem_cons.mp hb with q|q
   ·subst q
    rw [sym_non] at e1
    cases y:C g k x m b i (i+d) with
    |none=>rw [y] at e1;cases e1
    |some c'=>exact (U b i (i+d) (by omega) (by omega)).mp ⟨c',y⟩
   ·exact (way_has U r (by omega) h2).mp ⟨v,e2⟩ b q
  ·intro h
   obtain ⟨v,e2⟩:=(way_has U r (i:=i+0) (j:=j) (by omega) h2).mpr fun b hb=>h b (List.mem_cons_of_mem _ hb)
   have e1:∃c,symCost k x (T g k x m) s i (i+0)=some c:=by
    cases s with
    |range lo hi=>exact ⟨_,rfl⟩
    |non b=>
     obtain ⟨c,hc⟩:=(U b i (i+0) (by omega) (by omega)).mpr (h b List.mem_cons_self)
     exact ⟨c.cost,by rw [sym_non,hc];rfl⟩
   obtain ⟨c,e1⟩:=e1
   obtain ⟨w,e,_⟩:=way_le h1 h2 (Nat.zero_le _) e1 e2
   exact ⟨w,e⟩
theorem C_has {m a i j:Nat} (ha:a<g.nons) (h1:i≤j) (h2:j≤x.length):
  (∃c,C g k x (m+1) a i j=some c)↔(∃c,C g k x m a i j=some c)∨∃r∈Vaglrc.numbered g,r.2.lhs=a∧∃w,way k x (T g k x m) r.2.rhs i j=some w:=by
 rw [C_succ ha h1 h2]
 constructor
 ·rintro ⟨c,hc⟩
  rcases lay_from a (fun r=>ruleCell k x (T g k x m) r i j) (Vaglrc.numbered g) (C g k x m a i j) with q|⟨r,hr,e1,e2,e3⟩
  ·rw [q] at hc
   exact .inl ⟨c,hc⟩
  ·rw [e2] at hc
   have hc:(way k x (T g k x m) r.2.rhs i j).map _=some c:=hc
   cases w:way k x (T g k x m) r.2.rhs i j with
   |none=>rw [w] at hc;cases hc
   |some v=>exact .inr ⟨r,hr,e1,v,w⟩
 ·rintro (⟨c,hc⟩|⟨r,hr,e1,w,hw⟩)
  ·obtain ⟨d,hd,_⟩:=lay_left a (fun r=>ruleCell k x (T g k x m) r i j) (Vaglrc.numbered g) (C g k x m a i j) c hc
   exact ⟨d,hd⟩
  ·obtain ⟨d,hd,_⟩:=lay_right a (fun r=>ruleCell k x (T g k x m) r i j) (Vaglrc.numbered g) (C g k x m a i j) r hr e1 {cost:=w.1,rule:=r.1,ends:=w.2} (by show (way k x (T g k x m) r.2.rhs i j).map _=_;rw [hw];rfl)
   exact ⟨d,hd⟩
theorem C_uni:∀(m:Nat) (a i j:Nat),i≤j→j≤x.length→((∃c,C g k x m a i j=some c)↔Has m a g k x)
 |0,a,i,j,_,_=>⟨fun ⟨c,h⟩=>(by rw [C_zero] at h;cases h),fun ⟨c,h⟩=>(by rw [C_zero] at h;cases h)⟩
 |m+1,a,i,j,h1,h2=>by
  by_cases ha:a<g.nons
  ·unfold Has
   rw [C_has ha h1 h2,C_has ha (Nat.le_refl 0) (Nat.zero_le _),C_uni m a i j h1 h2]
   constructor
   ·rintro (h|⟨r,hr,e,h⟩)
    ·exact .inl h
    ·exact .inr ⟨r,hr,e,(way_has (C_uni m) r.2.rhs (Nat.le_refl 0) (Nat.zero_le _)).mpr ((way_has (C_uni m) r.2.rhs h1 h2).mp h)⟩
   ·rintro (h|⟨r,hr,e,h⟩)
    ·exact .inl h
    ·exact .inr ⟨r,hr,e,(way_has (C_uni m) r.2.rhs h1 h2).mpr ((way_has (C_uni m) r.2.rhs (Nat.le_refl 0) (Nat.zero_le _)).mp h)⟩
  ·unfold Has
   rw [C_out ha,C_out ha]
def cnt (m:Nat) (g:Grammar) (k:Costs) (x:Text):Nat:=((List.range g.nons).filter fun a=>(C g k x m a 0 0).isSome).length
theorem filter_le {p q:Nat→Bool}:∀(l:List Nat),(∀a∈l,p a=true→q a=true)→(l.filter p).length≤(l.filter q).length
 | [],_=>Nat.le_refl _
 |a::l,h=>by
  have ih:=filter_le l fun b hb=>h b (List.mem_cons_of_mem _ hb)
  rw [List.filter_cons,List.filter_cons]
  by_cases hp:p a=true
  ·rw [if_pos hp,if_pos (h a List.mem_cons_self hp)]
   simp only [List.length_cons]
   omega
  ·rw [if_neg hp]
   split
   ·simp only [List.length_cons];omega
   ·exact ih
theorem filter_lt {p q:Nat→Bool}:∀(l:List Nat),(∀a∈l,p a=true→q a=true)→∀b∈l,p b=false→q b=true→(l.filter p).length<(l.filter q).length
 | [],_,_,hb,_,_=>nomatch hb
 |a::l,h,b,hb,h1,h2=>by
  have ihle:=filter_le l fun b hb=>h b (List.mem_cons_of_mem _ hb)
  rw [List.filter_cons,List.filter_cons]
  rcases List.mem_cons.mp hb with rfl|hb
  ·rw [if_neg (by rw [h1];decide),if_pos h2]
   simp only [List.length_cons]
   omega
  ·have ih:=filter_lt l (fun b hb=>h b (List.mem_cons_of_mem _ hb)) b hb h1 h2
   by_cases hp:p a=true
   ·rw [if_pos hp,if_pos (h a List.mem_cons_self hp)]
    simp only [List.length_cons]
    omega
   ·rw [if_neg hp]
    split
    ·simp only [List.length_cons];omega
    ·exact ih
theorem has_mono {m a:Nat} (h:(C g k x m a 0 0).isSome=true):(C g k x (m+1) a 0 0).isSome=true:=by
 by_cases ha:a<g.nons
 ·obtain ⟨c,hc⟩:=Option.isSome_iff_exists.mp h
  obtain ⟨d,hd,_⟩:=C_mono (g:=g) (k:=k) (x:=x) (m:=m) ha (Nat.le_refl 0) (Nat.zero_le _) c hc
  rw [hd]
  rfl
 ·rw [C_out ha] at h
  cases h
theorem cnt_mono (m:Nat):cnt m g k x≤cnt (m+1) g k x:=filter_le _ fun a _ h=>has_mono h
theorem cnt_20 (hn:g.nons≤20) (m:Nat):cnt m g k x≤20:=by
 unfold cnt
 refine Nat.le_trans (List.length_filter_le _ _) ?_
 rw [List.length_range]
 exact hn
theorem sym_le {m:Nat} (ok:CostsOk k) (hx:x.length≤12) (hB:∀a i j c,i≤j→j≤x.length→C g k x m a i j=some c→c.cost≤Bd (cnt m g k x)):
  ∀s p e c,p≤e→e≤x.length→symCost k x (T g k x m) s p e=some c→c≤max (Bd (cnt m g k x)) 117:=by
 intro s p e c h1 h2 h
 cases s with
 |range lo hi=>
  rw [sym_range] at h
  cases h
  exact Nat.le_trans (rc_le ok (by rw [piece_len h2];omega)) (Nat.le_max_right _ _)
 |non b=>
  rw [sym_non] at h
  cases y:C g k x m b p e with
  |none=>rw [y] at h;cases h
  |some c'=>
   rw [y] at h
   cases h
   exact Nat.le_trans (hB b p e c' h1 h2 y) (Nat.le_max_left _ _)
theorem C_bound (go:GOk g) (ok:CostsOk k) (hx:x.length≤12):∀(m:Nat) (a i j:Nat) (c:Cell),i≤j→j≤x.length→C g k x m a i j=some c→c.cost≤Bd (cnt m g k x)
 |0,a,i,j,c,_,_,h=>by rw [C_zero] at h;cases h
 |m+1,a,i,j,c,h1,h2,h=>by
  have ih:=C_bound go ok hx m
  by_cases ha:a<g.nons
  ·have up:Bd (cnt m g k x)≤Bd (cnt (m+1) g k x):=Bd_mono (cnt_mono m)
   have hs:=C_succ (g:=g) (k:=k) (x:=x) (m:=m) ha h1 h2
   rcases lay_from a (fun r=>ruleCell k x (T g k x m) r i j) (Vaglrc.numbered g) (C g k x m a i j) with q|⟨r,hr,e1,e2,e3⟩
   ·rw [h,q] at hs
    exact Nat.le_trans (ih a i j c h1 h2 hs.symm) up
   ·rw [h,e2] at hs
    have hs:some c=(way k x (T g k x m) r.2.rhs i j).map fun v=>({cost:=v.1,rule:=r.1,ends:=v.2}:Cell):=hs
    cases w:way k x (T g k x m) r.2.rhs i j with
    |none=>rw [w] at hs;cases hs
    |some v=>
     rw [w] at hs
     have hs:c={cost:=v.1,rule:=r.1,ends:=v.2}:=Option.some.inj hs
     cases y:C g k x m a i j with
     |some c0=>
      have z:c.cost<c0.cost:=by
       rcases Nat.lt_or_ge c.cost c0.cost with z|z
       ·exact z
       ·exfalso
        apply e3
        intro d hd
        refine ⟨c0,y,?_⟩
        have hd:(way k x (T g k x m) r.2.rhs i j).map _=some d:=hd
        rw [w] at hd
        have hd:({cost:=v.1,rule:=r.1,ends:=v.2}:Cell)=d:=Option.some.inj hd
        rw [←hd,←hs]
        exact z
      have:=ih a i j c0 h1 h2 y
      omega
     |none=>
      have hm:r.2∈g.rules:=List.mem_of_getElem? (numbered_mem hr)
      have b1:=way_bound ok hx (sym_le ok hx ih) r.2.rhs h1 h2 w
      have b2:r.2.rhs.length * max (Bd (cnt m g k x)) 117≤8 * max (Bd (cnt m g k x)) 117:=Nat.mul_le_mul_right _ (go.syms _ hm)
      have b3:cnt m g k x+1≤cnt (m+1) g k x:=by
       have n0:(C g k x m a 0 0).isSome=false:=by
        cases z:C g k x m a 0 0 with
        |none=>rfl
        |some c0=>
         obtain ⟨c1,hc1⟩:=(C_uni (g:=g) (k:=k) (x:=x) m a i j h1 h2).mpr ⟨c0,z⟩
         rw [y] at hc1
         cases hc1
       have n1:(C g k x (m+1) a 0 0).isSome=true:=by
        obtain ⟨c1,hc1⟩:=(C_uni (g:=g) (k:=k) (x:=x) (m+1) a i j h1 h2).mp ⟨c,h⟩
        rw [hc1]
        rfl
       exact filter_lt (List.range g.nons) (fun b _ z=>has_mono z) a (List.mem_range.mpr ha) n0 n1
      have b4:Bd (cnt m g k x+1)≤Bd (cnt (m+1) g k x):=Bd_mono b3
      have b5:Bd (cnt m g k x+1)=8 * max (Bd (cnt m g k x)) 117+108:=rfl
      rw [hs]
      show v.1≤_
      omega
  ·rw [C_out ha] at h
   cases h
def SB:Nat:=max (Bd 20) 117
theorem SB_NW:8 * SB+108<NW:=Bd_NW
theorem sym_SB (go:GOk g) (ok:CostsOk k) (hx:x.length≤12) {m:Nat} {s:Sym} {p e c:Nat} (h1:p≤e) (h2:e≤x.length) (h:symCost k x (T g k x m) s p e=some c):c≤SB:=by
 have q:=sym_le ok hx (C_bound go ok hx m) s p e c h1 h2 h
 have r:Bd (cnt m g k x)≤Bd 20:=Bd_mono (cnt_20 go.n20 m)
 unfold SB
 omega
end
end Vm
namespace Vm
open Vaglrl
open Vaglrc (Sym Rule Grammar)
def minOver (f:Nat→Int):Nat→Int
 |0=>f 0
 |n+1=>min (minOver f n) (f (n+1))
theorem minOver_le (f:Nat→Int):∀{n e:Nat},e≤n→minOver f n≤f e
 |0,e,h=>by
  have:e=0:=by omega
  subst this
  exact Int.le_refl _
 |n+1,e,h=>by
  show min (minOver f n) (f (n+1))≤f e
  by_cases q:e=n+1
  ·subst q;omega
  ·have:=minOver_le f (n:=n) (e:=e) (by omega)
   omega
theorem minOver_mem (f:Nat→Int):∀(n:Nat),∃e,e≤n∧minOver f n=f e
 |0=>⟨0,Nat.le_refl _,rfl⟩
 |n+1=>by
  obtain ⟨e,h1,h2⟩:=minOver_mem f n
  show∃e,e≤n+1∧min (minOver f n) (f (n+1))=f e
  by_cases q:minOver f n≤f (n+1)
  ·exact ⟨e,by omega,by rw [Int.min_eq_left q];exact h2⟩
  ·exact ⟨n+1,Nat.le_refl _,by rw [Int.min_eq_right (by omega)]⟩
theorem minOver_eq {f:Nat→Int} {n e:Nat} (he:e≤n) (h:∀d,d≤n→f e≤f d):minOver f n=f e:=by
 obtain ⟨d,h1,h2⟩:=minOver_mem f n
 have a:=h d h1
 have b:=minOver_le f he
 omega
theorem minOver_ge {f:Nat→Int} {n:Nat} {v:Int} (h:∀d,d≤n→v≤f d):v≤minOver f n:=by
 obtain ⟨d,h1,h2⟩:=minOver_mem f n
 rw [h2]
 exact h d h1
theorem min_unique {f:Nat→Int} {n:Nat} {v:Int} (h1:v∈(List.range (n+1)).map f) (h2:∀y∈(List.range (n+1)).map f,v≤y):v=minOver f n:=by
 obtain ⟨e,he,rfl⟩:=List.mem_map.mp h1
 refine (minOver_eq (by have:=List.mem_range.mp he;omega) fun d hd=>h2 _ (List.mem_map.mpr ⟨d,List.mem_range.mpr (by omega),rfl⟩)).symm
def restAt (tab:Sym→Nat→Nat→Int) (d:Int) (j:Nat):List Sym→Nat→Int
 | [],p=>d * ((j:Int) - p)
 |s::r,p=>minOver (fun e=>tab s p (p+e)+restAt tab d j r (p+e)) (j - p)
section
variable (k:Costs) (x:Text) (t:Table)
def tab (s:Sym) (i j:Nat):Int:=match symCost k x t s i j with
 |some c=>(c:Int)
 |none=>(NW:Int)
end
section
variable {k:Costs} {x:Text} {t:Table}
theorem tab_some {s:Sym} {i j c:Nat} (h:symCost k x t s i j=some c):tab k x t s i j=(c:Int):=by unfold tab;rw [h]
theorem tab_none {s:Sym} {i j:Nat} (h:symCost k x t s i j=none):tab k x t s i j=(NW:Int):=by unfold tab;rw [h]
theorem tab_nonneg {s:Sym} {i j:Nat}:0≤tab k x t s i j:=by
 unfold tab
 split
 ·omega
 ·unfold NW;omega
theorem rest_way {S:Nat} (ok:CostsOk k) (hx:x.length≤12) (hS:∀s p e c,p≤e→e≤x.length→symCost k x t s p e=some c→c≤S) {j:Nat} (h2:j≤x.length):
  ∀(l:List Sym) {p:Nat},p≤j→l.length * S+108<NW→
   (∀w,way k x t l p j=some w→restAt (tab k x t) k.delete j l p=(w.1:Int))∧(way k x t l p j=none→(NW:Int)≤restAt (tab k x t) k.delete j l p)∧0≤restAt (tab k x t) k.delete j l p
 | [],p,hp,_=>by
  have e:restAt (tab k x t) k.delete j [] p=(((j - p) * k.delete:Nat):Int):=by
   show (k.delete:Int) * ((j:Int) - p)=_
   rw [Int.natCast_mul,Int.mul_comm]
   congr 1
   omega
  rw [way_nil k x t hp h2,e]
  refine ⟨fun w h=>by cases h;rfl,(fun h=>nomatch h),by omega⟩
 |s::r,p,hp,hb=>by
  have hr:r.length * S+108<NW:=by
   rw [List.length_cons,Nat.succ_mul] at hb
   omega
  have f1:∀e u,e≤j - p→pick k x t s r p j e=some u→tab k x t s p (p+e)+restAt (tab k x t) k.delete j r (p+e)=(u.1:Int):=fun e u he h=>by
   obtain ⟨c,v,e1,e2,rfl⟩:=pick_some h
   rw [tab_some e1,(rest_way ok hx hS h2 r (p:=p+e) (by omega) hr).1 v e2]
   show _=((c+v.1:Nat):Int)
   omega
  have f2:∀e,e≤j - p→pick k x t s r p j e=none→(NW:Int)≤tab k x t s p (p+e)+restAt (tab k x t) k.delete j r (p+e):=fun e he h=>by
   obtain ⟨g1,g2,g3⟩:=rest_way ok hx hS h2 r (p:=p+e) (by omega) hr
   have n:=tab_nonneg (k:=k) (x:=x) (t:=t) (s:=s) (i:=p) (j:=p+e)
   cases y:symCost k x t s p (p+e) with
   |none=>
    rw [tab_none y]
    omega
   |some c=>
    cases z:way k x t r (p+e) j with
    |none=>
     have:=g2 z
     omega
    |some v=>
     rw [pick_of y z] at h
     cases h
  have f3:∀e,e≤j - p→0≤tab k x t s p (p+e)+restAt (tab k x t) k.delete j r (p+e):=fun e he=>by
   have g3:=(rest_way ok hx hS h2 r (p:=p+e) (by omega) hr).2.2
   have n:=tab_nonneg (k:=k) (x:=x) (t:=t) (s:=s) (i:=p) (j:=p+e)
   omega
  refine ⟨fun w h=>?_,fun h=>?_,minOver_ge f3⟩
  ·have bw:=way_bound ok hx hS (s::r) hp h2 h
   rw [way_cons k x t hp h2] at h
   obtain ⟨d,hd,e⟩:=List.mem_filterMap.mp (cheapest_mem h)
   have hd:d≤j - p:=by have:=List.mem_range.mp hd;omega
   have q:=f1 d w hd e
   rw [←q]
   refine minOver_eq (f:=fun e=>tab k x t s p (p+e)+restAt (tab k x t) k.delete j r (p+e)) hd fun e' he'=>?_
   cases y:pick k x t s r p j e' with
   |none=>
    have:=f2 e' he' y
    rw [q]
    omega
   |some u=>
    have z:=cheapest_le h (List.mem_filterMap.mpr ⟨e',List.mem_range.mpr (by omega),y⟩)
    rw [q,f1 e' u he' y]
    omega
  ·rw [way_cons k x t hp h2] at h
   have hn:=cheapest_none h
   refine minOver_ge fun e he=>f2 e he ?_
   cases y:pick k x t s r p j e with
   |none=>rfl
   |some u=>
    have:=List.mem_filterMap.mpr ⟨e,List.mem_range.mpr (show e<j - p+1 by omega),y⟩
    rw [hn] at this
    cases this
theorem way_first {S:Nat} (ok:CostsOk k) (hx:x.length≤12) (hS:∀s p e c,p≤e→e≤x.length→symCost k x t s p e=some c→c≤S) {j:Nat} (h2:j≤x.length)
  {s:Sym} {r:List Sym} {p:Nat} {w:W} (hp:p≤j) (hb:(s::r).length * S+108<NW) (h:way k x t (s::r) p j=some w):
  ∃d v,d≤j - p∧way k x t r (p+d) j=some v∧w.2=(p+d)::v.2∧
   tab k x t s p (p+d)+restAt (tab k x t) k.delete j r (p+d)≤restAt (tab k x t) k.delete j (s::r) p∧
   ∀e,e<d→restAt (tab k x t) k.delete j (s::r) p<tab k x t s p (p+e)+restAt (tab k x t) k.delete j r (p+e):=by
 have hr:r.length * S+108<NW:=by
  rw [List.length_cons,Nat.succ_mul] at hb
  omega
 have bw:=way_bound ok hx hS (s::r) hp h2 h
 have eq:=(rest_way ok hx hS h2 (s::r) hp hb).1 w h
 rw [eq]
 rw [way_cons k x t hp h2] at h
 obtain ⟨l1,l2,hl,q1,q2⟩:=cheapest_split h
 rw [List.filterMap_eq_append_iff] at hl
 obtain ⟨L1,L2,hL,m1,m2⟩:=hl
 rw [List.filterMap_eq_cons_iff] at m2
 obtain ⟨M1,d,M2,hM,n1,n2,n3⟩:=m2
 have hd:(List.range (j - p+1))[L1.length+M1.length]?=some d:=by
  rw [hL,hM,←List.append_assoc]
  have e:(L1++M1).length=L1.length+M1.length:=by simp
  rw [←e,List.getElem?_append_right (Nat.le_refl _)]
  simp
 have hlt:L1.length+M1.length<j - p+1:=by
  have:=(List.getElem?_eq_some_iff.mp hd).1
  rw [List.length_range] at this
  exact this
 rw [List.getElem?_range hlt] at hd
 have hd:L1.length+M1.length=d:=Option.some.inj hd
 obtain ⟨c,v,e1,e2,rfl⟩:=pick_some n2
 refine ⟨d,v,by omega,e2,rfl,?_,fun e he=>?_⟩
 ·rw [tab_some e1,(rest_way ok hx hS h2 r (p:=p+d) (by omega) hr).1 v e2]
  show (c:Int)+v.1≤((c+v.1:Nat):Int)
  omega
 ·have hmem:e∈L1++M1:=by
   have z:(List.range (j - p+1))[e]?=some e:=List.getElem?_range (by omega)
   rw [hL,hM,←List.append_assoc,List.getElem?_append_left (by simp;omega)] at z
   exact List.mem_of_getElem? z
  cases y:pick k x t s r p j e with
  |none=>
   have g1:=rest_way ok hx hS h2 r (p:=p+e) (by omega) hr
   have n:=tab_nonneg (k:=k) (x:=x) (t:=t) (s:=s) (i:=p) (j:=p+e)
   have big:(NW:Int)≤tab k x t s p (p+e)+restAt (tab k x t) k.delete j r (p+e):=by
    cases y1:symCost k x t s p (p+e) with
    |none=>
     rw [tab_none y1]
     have:=g1.2.2
     omega
    |some c'=>
     cases z:way k x t r (p+e) j with
     |none=>
      have:=g1.2.1 z
      omega
     |some v'=>
      rw [pick_of y1 z] at y
      cases y
   show ((c+v.1:Nat):Int)<_
   have bw:c+v.1≤(s::r).length * S+108:=bw
   omega
  |some u=>
   have lt:c+v.1<u.1:=by
    rcases List.mem_append.mp hmem with z|z
    ·exact q1 u (by rw [←m1];exact List.mem_filterMap.mpr ⟨e,z,y⟩)
    ·have:=n1 e z
     rw [this] at y
     cases y
   obtain ⟨c',v',e1',e2',rfl⟩:=pick_some y
   rw [tab_some e1',(rest_way ok hx hS h2 r (p:=p+e) (by omega) hr).1 v' e2']
   show ((c+v.1:Nat):Int)<_
   have lt:c+v.1<c'+v'.1:=lt
   omega
end
def layT (le:Nat→Option Nat) (a j:Nat) (f:Nat×Rule→Option Cell) (l:List (Nat×Rule)) (c:Option Cell):Option Cell:=
 l.foldl (fun c r=>match le r.1 with
  |some n=>if r.2.lhs==a&&decide (n≤j) then lower c (f r) else c
  |none=>c) c
theorem layT_cons (le:Nat→Option Nat) (a j:Nat) (f:Nat×Rule→Option Cell) (p:Nat×Rule) (l:List (Nat×Rule)) (c:Option Cell):layT le a j f (p::l) c=layT le a j f l (match le p.1 with
  |some n=>if p.2.lhs==a&&decide (n≤j) then lower c (f p) else c
  |none=>c):=rfl
def Skips (le:Nat→Option Nat) (r j:Nat):Prop:=∀n,le r=some n→j<n
theorem layT_eq {le:Nat→Option Nat} {a j:Nat} {f:Nat×Rule→Option Cell} {c0:Option Cell}:∀{l:List (Nat×Rule)} {c:Option Cell},Le c c0→
  (∀r∈l,r.2.lhs=a→Skips le r.1 j→Le c0 (f r))→layT le a j f l c=lay a f l c
 | [],_,_,_=>rfl
 |p::l,c,hc,h=>by
  rw [layT_cons,lay_cons]
  have e:(match le p.1 with
   |some n=>if p.2.lhs==a&&decide (n≤j) then lower c (f p) else c
   |none=>c)=if p.2.lhs==a then lower c (f p) else c:=by
   by_cases q:(p.2.lhs==a)=true
   ·rw [if_pos q]
    cases y:le p.1 with
    |none=>
     exact (lower_stay (hc.trans (h p List.mem_cons_self (by simpa using q) fun n hn=>by rw [y] at hn;cases hn))).symm
    |some n=>
     by_cases z:n≤j
     ·simp only [q,decide_eq_true z,Bool.and_self,if_true]
     ·simp only [q,decide_eq_false z,Bool.and_false]
      exact (lower_stay (hc.trans (h p List.mem_cons_self (by simpa using q) fun n' hn=>by rw [y] at hn;cases hn;omega))).symm
   ·rw [if_neg q]
    cases y:le p.1 with
    |none=>rfl
    |some n=>
     simp only [Bool.not_eq_true] at q
     simp only [q,Bool.false_and]
     rfl
  rw [e]
  refine layT_eq ?_ fun r hr=>h r (List.mem_cons_of_mem _ hr)
  by_cases q:(p.2.lhs==a)=true
  ·rw [if_pos q];exact (lower_left _ _).trans hc
  ·rw [if_neg q];exact hc
section
variable {g:Grammar} {k:Costs} {x:Text}
def Dom (le:Nat→Option Nat) (m:Nat) (g:Grammar) (k:Costs) (x:Text):Prop:=
 ∀r∈Vaglrc.numbered g,∀i j,i≤j→j≤x.length→Skips le r.1 j→Le (C g k x m r.2.lhs i j) (ruleCell k x (T g k x m) r i j)
theorem dom_first:Dom (fun _=>some 0) 0 g k x:=fun r _ i j _ _ h=>absurd (h 0 rfl) (by omega)
theorem dom_round {le:Nat→Option Nat} {m a i j:Nat} (h:Dom le m g k x) (ha:a<g.nons) (h1:i≤j) (h2:j≤x.length):
  layT le a j (fun r=>ruleCell k x (T g k x m) r i j) (Vaglrc.numbered g) (C g k x m a i j)=C g k x (m+1) a i j:=by
 rw [C_succ ha h1 h2]
 refine layT_eq (Le.refl _) fun r hr e hs=>?_
 have:=h r hr i j h1 h2 hs
 rw [e] at this
 exact this
theorem unchanged {m b p e:Nat} (hp:p≤e) (he:e≤x.length) (h:b<g.nons→¬Chg m b p e g k x):symCost k x (T g k x (m+1)) (.non b) p e=symCost k x (T g k x m) (.non b) p e:=by
 rw [sym_non,sym_non]
 by_cases hb:b<g.nons
 ·have q:Le (C g k x m b p e) (C g k x (m+1) b p e):=Classical.byContradiction (h hb)
  have r:=C_mono (g:=g) (k:=k) (x:=x) (m:=m) hb hp he
  cases y:C g k x (m+1) b p e with
  |none=>
   cases z:C g k x m b p e with
   |none=>rfl
   |some c=>
    obtain ⟨d,hd,_⟩:=r c z
    rw [y] at hd
    cases hd
  |some c=>
   obtain ⟨d,hd,l1⟩:=q c y
   obtain ⟨c',hc',l2⟩:=r d hd
   rw [y] at hc'
   cases hc'
   rw [hd]
   show some c.cost=some d.cost
   congr 1
   omega
 ·rw [C_out hb,C_out hb]
theorem dom_next {low le:Nat→Option Nat} {m:Nat} (go:GOk g)
  (hlow:∀b p e,b<g.nons→p≤e→e≤x.length→Chg m b p e g k x→∃n,low b=some n∧n≤e)
  (hle:∀r∈Vaglrc.numbered g,∀b n,Sym.non b∈r.2.rhs→low b=some n→∃n',le r.1=some n'∧n'≤n):Dom le (m+1) g k x:=by
 intro r hr i j h1 h2 hs
 have hm:r.2∈g.rules:=List.mem_of_getElem? (numbered_mem hr)
 have e:ruleCell k x (T g k x (m+1)) r i j=ruleCell k x (T g k x m) r i j:=by
  unfold ruleCell
  rw [way_congr (t:=T g k x (m+1)) (t':=T g k x m) r.2.rhs h1 h2 fun s hsm p e h3 h4 h5=>?_]
  cases s with
  |range lo hi=>rfl
  |non b=>
   refine unchanged h4 (by omega) fun hb hc=>?_
   obtain ⟨n,q1,q2⟩:=hlow b p e hb h4 (by omega) hc
   obtain ⟨n',q3,q4⟩:=hle r hr b n hsm q1
   have:=hs n' q3
   omega
 rw [e]
 have ha:=go.lhs _ hm
 rw [C_succ ha h1 h2]
 exact lay_right _ _ _ _ r hr rfl
theorem dom_still {m:Nat} (h:Dom (fun _=>none) m g k x):Still m g k x:=by
 intro a i j ha h1 h2
 rw [C_succ ha h1 h2]
 rw [lay_stay fun r hr e=>?_]
 ·exact Le.refl _
 ·have:=h r hr i j h1 h2 fun n hn=>nomatch hn
  rw [e] at this
  exact this
end
end Vm
namespace Vm
open Vaglrl
open Vaglrc (Sym Rule Grammar)
abbrev Ch:=Nat×Nat×Nat
def ann (x:Text):Nat→List Change→List Ch
 |_,[]=> []
 |p,.keep::l=>(0,p,x.getD p 0)::ann x (p+1) l
 |p,.delete::l=>(1,p,0)::ann x (p+1) l
 |p,.insert b::l=>(2,p,b)::ann x p l
 |p,.replace b::l=>(3,p,b)::ann x (p+1) l
def eat:Change→Nat
 | .insert _=>0
 |_=>1
def eats (l:List Change):Nat:=(l.map eat).sum
theorem eats_cons (c:Change) (l:List Change):eats (c::l)=eat c+eats l:=by simp [eats]
theorem eats_append (l m:List Change):eats (l++m)=eats l+eats m:=by simp [eats,List.sum_append]
theorem eats_deletes:∀n,eats (deletes n)=n
 |0=>rfl
 |n+1=>by
  have e:deletes (n+1)=.delete::deletes n:=rfl
  rw [e,eats_cons,eats_deletes n]
  show 1+n=n+1
  omega
theorem ann_append (x:Text):∀(l m:List Change) (p:Nat),ann x p (l++m)=ann x p l++ann x (p+eats l) m
 | [],m,p=>rfl
 |c::l,m,p=>by
  rw [List.cons_append,eats_cons]
  cases c with
  |keep=>
   show _::ann x (p+1) (l++m)=_::ann x (p+1) l++_
   rw [ann_append x l m,show p+(eat .keep+eats l)=p+1+eats l by show p+(1+eats l)=_;omega]
   rfl
  |delete=>
   show _::ann x (p+1) (l++m)=_::ann x (p+1) l++_
   rw [ann_append x l m,show p+(eat .delete+eats l)=p+1+eats l by show p+(1+eats l)=_;omega]
   rfl
  |insert b=>
   show _::ann x p (l++m)=_::ann x p l++_
   rw [ann_append x l m,show p+(eat (.insert b)+eats l)=p+eats l by show p+(0+eats l)=_;omega]
   rfl
  |replace b=>
   show _::ann x (p+1) (l++m)=_::ann x (p+1) l++_
   rw [ann_append x l m,show p+(eat (.replace b)+eats l)=p+1+eats l by show p+(1+eats l)=_;omega]
   rfl
def outs (i j:Nat):List Ch:=(List.range (j - i)).map fun d=>(1,i+d,0)
theorem ann_deletes (x:Text):∀(n p:Nat),ann x p (deletes n)=outs p (p+n)
 |0,p=>by simp [deletes,ann,outs]
 |n+1,p=>by
  have e:deletes (n+1)=.delete::deletes n:=rfl
  rw [e]
  show (1,p,0)::ann x (p+1) (deletes n)=_
  rw [ann_deletes x n (p+1)]
  unfold outs
  rw [show p+1+n - (p+1)=n by omega,show p+(n+1) - p=n+1 by omega,List.range_succ_eq_map,List.map_cons,List.map_map]
  congr 1
  apply List.map_congr_left
  intro d _
  show (1,p+1+d,0)=(1,p+(d+1),0)
  congr 2
  omega
section
variable {k:Costs} {lo hi:Nat} {x:Text}
theorem rch_some {d:Nat} (h:firstIn lo hi x=some d):rangeChanges k lo hi x=deletes d++(.keep::deletes (x.length - d - 1)):=by
 have hd:=first_lt h
 cases x with
 |nil=>cases hd
 |cons b r=>
  have e:=range_cost k lo hi (b::r)
  have hh:hit lo hi (b::r)=true:=by rw [←first_hit,h];rfl
  unfold rangeChanges at e ⊢
  rw [h] at e ⊢
  dsimp only at e ⊢
  by_cases q:changesCost k (Change.insert lo::deletes (b::r).length)<changesCost k (deletes d++(Change.keep::deletes ((b::r).length - d - 1)))
  ·exfalso
   rw [if_pos q] at e
   rw [e] at q
   have hs:changesCost k (deletes d++(Change.keep::deletes ((b::r).length - d - 1)))=r.length * k.delete:=by
    rw [cc_append,cc_cons,cc_deletes,cc_deletes]
    show d * k.delete+(0+((b::r).length - d - 1) * k.delete)=_
    rw [Nat.zero_add,←Nat.add_mul]
    congr 1
    rw [List.length_cons] at hd ⊢
    omega
   rw [hs] at q
   unfold rc at q
   simp only [hh,if_true] at q
   omega
  ·rw [if_neg q]
theorem rch_none (h:firstIn lo hi x=none):rangeChanges k lo hi x=if x≠ []∧k.replace≤k.insert+k.delete then .replace lo::deletes (x.length - 1) else .insert lo::deletes x.length:=by
 cases x with
 |nil=>
  rw [if_neg (fun z=>z.1 rfl)]
  rfl
 |cons b r=>
  unfold rangeChanges
  rw [h]
  dsimp only
  have hp:changesCost k (Change.insert lo::deletes (b::r).length)=k.insert+(r.length+1) * k.delete:=by
   rw [cc_cons,cc_deletes]
   rfl
  have hs:changesCost k (Change.replace lo::deletes r.length)=k.replace+r.length * k.delete:=by
   rw [cc_cons,cc_deletes]
   rfl
  rw [hp,hs,Nat.succ_mul]
  by_cases q:k.replace≤k.insert+k.delete
  ·rw [if_neg (by omega),if_pos ⟨by simp,q⟩]
   rfl
  ·rw [if_pos (by omega),if_neg (fun z=>q z.2)]
theorem rch_eats:eats (rangeChanges k lo hi x)=x.length:=by
 cases h:firstIn lo hi x with
 |some d=>
  have hd:=first_lt h
  rw [rch_some h,eats_append,eats_cons,eats_deletes,eats_deletes]
  show d+(1+(x.length - d - 1))=_
  omega
 |none=>
  rw [rch_none h]
  split
  ·rename_i q
   rw [eats_cons,eats_deletes]
   have:=List.length_pos_iff.mpr q.1
   show 1+(x.length - 1)=_
   omega
  ·rw [eats_cons,eats_deletes]
   show 0+x.length=_
   omega
end
end Vm
namespace Vm
open Vaglrl
open Vaglrc (Sym Rule Grammar)
def Fits (Pr:Sym→Nat→Nat→Prop):List Sym→List Nat→Nat→Nat→Prop
 | [],[],i,j=>i≤j
 |s::r,q::l,i,j=>i≤q∧q≤j∧Pr s i q∧Fits Pr r l q j
 |_,_,_,_=>False
theorem Fits.mono {Pr Pr':Sym→Nat→Nat→Prop} {J:Nat} (h:∀s i j,i≤j→j≤J→Pr s i j→Pr' s i j):∀{r:List Sym} {l:List Nat} {i j:Nat},j≤J→Fits Pr r l i j→Fits Pr' r l i j
 | [],[],i,j,_,f=>f
 |s::r,q::l,i,j,hj,⟨h1,h2,h3,h4⟩=>⟨h1,h2,h s i q h1 (Nat.le_trans h2 hj) h3,Fits.mono h hj h4⟩
 | [],_::_,_,_,_,f=>f.elim
 |_::_,[],_,_,_,f=>f.elim
theorem Fits.len {Pr:Sym→Nat→Nat→Prop}:∀{r:List Sym} {l:List Nat} {i j:Nat},Fits Pr r l i j→l.length=r.length
 | [],[],_,_,_=>rfl
 |s::r,q::l,i,j,⟨_,_,_,h4⟩=>by rw [List.length_cons,List.length_cons,Fits.len h4]
 | [],_::_,_,_,f=>f.elim
 |_::_,[],_,_,f=>f.elim
section
variable {g:Grammar} {k:Costs} {x:Text}
theorem way_fits {t:Table}:∀(l:List Sym) {i j:Nat} {w:Nat×List Nat},i≤j→j≤x.length→way k x t l i j=some w→Fits (fun s p e=>∃c,symCost k x t s p e=some c) l w.2 i j
 | [],i,j,w,h1,h2,h=>by
  rw [way_nil k x t h1 h2] at h
  cases h
  exact h1
 |s::r,i,j,w,h1,h2,h=>by
  obtain ⟨d,c,v,hd,e1,e2,rfl⟩:=way_some h1 h2 h
  exact ⟨by omega,by omega,⟨c,e1⟩,way_fits r (by omega) h2 e2⟩
theorem sym_stay {m:Nat} (s:Sym) (p e:Nat) (h1:p≤e) (h2:e≤x.length) (h:∃c,symCost k x (T g k x m) s p e=some c):∃c,symCost k x (T g k x (m+1)) s p e=some c:=by
 cases s with
 |range lo hi=>exact ⟨_,rfl⟩
 |non b=>
  obtain ⟨v,h⟩:=h
  rw [sym_non] at h
  cases e0:C g k x m b p e with
  |none=>rw [e0] at h;cases h
  |some c=>
   by_cases hb:b<g.nons
   ·obtain ⟨d,hd,_⟩:=C_mono (g:=g) (k:=k) (x:=x) (m:=m) hb h1 h2 c e0
    exact ⟨d.cost,by rw [sym_non,hd];rfl⟩
   ·rw [C_out hb] at e0
    cases e0
theorem C_fits:∀(m:Nat) {a i j:Nat} {c:Cell},i≤j→j≤x.length→C g k x m a i j=some c→∃r,g.rules[c.rule]?=some r∧Fits (fun s p e=>∃v,symCost k x (T g k x m) s p e=some v) r.rhs c.ends i j
 |0,a,i,j,c,_,_,h=>by rw [C_zero] at h;cases h
 |m+1,a,i,j,c,h1,h2,h=>by
  by_cases ha:a<g.nons
  ·have hs:=C_succ (g:=g) (k:=k) (x:=x) (m:=m) ha h1 h2
   rcases lay_from a (fun r=>ruleCell k x (T g k x m) r i j) (Vaglrc.numbered g) (C g k x m a i j) with q|⟨r,hr,e1,e2,e3⟩
   ·rw [h,q] at hs
    obtain ⟨r,hr,f⟩:=C_fits m h1 h2 hs.symm
    exact ⟨r,hr,f.mono sym_stay h2⟩
   ·rw [h,e2] at hs
    have hs:some c=(way k x (T g k x m) r.2.rhs i j).map fun v=>({cost:=v.1,rule:=r.1,ends:=v.2}:Cell):=hs
    cases w:way k x (T g k x m) r.2.rhs i j with
    |none=>rw [w] at hs;cases hs
    |some v=>
     rw [w] at hs
     have hs:c={cost:=v.1,rule:=r.1,ends:=v.2}:=Option.some.inj hs
     subst hs
     exact ⟨r.2,numbered_mem hr,(way_fits _ h1 h2 w).mono sym_stay h2⟩
  ·rw [C_out ha] at h
   cases h
def Can (g:Grammar) (k:Costs) (x:Text) (s:Sym) (i j:Nat):Prop:=match s with
 | .range _ _=>True
 | .non b=>b<g.nons∧∃c,cellAt (tableOf g k x) b i j=some c
theorem cell_fits (hn:g.nons≤20) (hx:x.length≤12) {a i j:Nat} {c:Cell} (h1:i≤j) (h2:j≤x.length) (h:cellAt (tableOf g k x) a i j=some c):∃r,g.rules[c.rule]?=some r∧Fits (Can g k x) r.rhs c.ends i j:=by
 obtain ⟨M,_,e⟩:=settle_is (g:=g) (k:=k) (x:=x) hn hx ROUNDS 0 (by decide)
 have e:tableOf g k x=T g k x M:=e
 rw [e] at h
 obtain ⟨r,hr,f⟩:=C_fits M h1 h2 h
 refine ⟨r,hr,f.mono (fun s p q z1 z2 z3=>?_) h2⟩
 cases s with
 |range lo hi=>trivial
 |non b=>
  obtain ⟨v,z3⟩:=z3
  rw [sym_non] at z3
  cases e0:C g k x M b p q with
  |none=>rw [e0] at z3;cases z3
  |some d=>
   by_cases hb:b<g.nons
   ·exact ⟨hb,d,by rw [e];exact e0⟩
   ·rw [C_out hb] at e0
    cases e0
end
abbrev Tk:=Option Sym×Nat×Nat
def tkT:Tk→Task
 |(some s,i,j)=>.sym s i j
 |(none,i,j)=>.out (j - i)
def tks:List Sym→List Nat→Nat→Nat→List Tk
 |s::r,q::l,i,j=>(some s,i,q)::tks r l q j
 |_,_,i,j=> [(none,i,j)]
theorem tks_task:∀(r:List Sym) (l:List Nat) (i j:Nat),(tks r l i j).map tkT=tasksOf r l i j
 |s::r,q::l,i,j=>by
  show tkT (some s,i,q)::(tks r l q j).map tkT=.sym s i q::tasksOf r l q j
  rw [tks_task r l q j]
  rfl
 | [],_,_,_=>by simp [tks,tasksOf,tkT]
 |_::_,[],_,_=>by simp [tks,tasksOf,tkT]
def Row (Pr:Sym→Nat→Nat→Prop):Nat→List Tk→Nat→Prop
 |p,[],e=>p=e
 |p,t::l,e=>t.2.1=p∧p≤t.2.2∧t.2.2≤e∧(∀s,t.1=some s→Pr s p t.2.2)∧Row Pr t.2.2 l e
theorem row_tks {Pr:Sym→Nat→Nat→Prop}:∀{r:List Sym} {l:List Nat} {i j:Nat},Fits Pr r l i j→Row Pr i (tks r l i j) j
 | [],[],i,j,f=>⟨rfl,f,Nat.le_refl _,(fun _ h=>nomatch h),rfl⟩
 |s::r,q::l,i,j,⟨h1,h2,h3,h4⟩=>⟨rfl,h1,h2,(fun s' h=>by cases h;exact h3),row_tks h4⟩
 | [],_::_,_,_,f=>f.elim
 |_::_,[],_,_,f=>f.elim
theorem Row.append {Pr:Sym→Nat→Nat→Prop}:∀{l:List Tk} {m:List Tk} {p q e:Nat},Row Pr p l q→q≤e→Row Pr q m e→Row Pr p (l++m) e
 | [],m,p,q,e,h,_,h2=>by
  have h:p=q:=h
  rw [h]
  exact h2
 |t::l,m,p,q,e,⟨h1,h2,h3,h4,h5⟩,hq,h6=>⟨h1,h2,Nat.le_trans h3 hq,h4,h5.append hq h6⟩
theorem ann_applied (x:Text):∀(l:List Change) (p:Nat),p+eats l≤x.length→((ann x p l).filter fun c=>c.1 !=1).map (fun c=>c.2.2)=applied l (x.drop p)
 | [],_,_=>rfl
 | .keep::l,p,h=>by
  rw [eats_cons] at h
  have h:p+(1+eats l)≤x.length:=h
  rw [List.drop_eq_getElem_cons (by omega)]
  show x.getD p 0::((ann x (p+1) l).filter fun c=>c.1 !=1).map (fun c=>c.2.2)=x[p]::applied l (x.drop (p+1))
  rw [ann_applied x l (p+1) (by omega),List.getD_eq_getElem?_getD,List.getElem?_eq_getElem (by omega)]
  rfl
 | .delete::l,p,h=>by
  rw [eats_cons] at h
  have h:p+(1+eats l)≤x.length:=h
  show ((ann x (p+1) l).filter fun c=>c.1 !=1).map (fun c=>c.2.2)=applied l ((x.drop p).drop 1)
  rw [ann_applied x l (p+1) (by omega),List.drop_drop]
 | .insert b::l,p,h=>by
  rw [eats_cons] at h
  have h:p+(0+eats l)≤x.length:=h
  show b::((ann x p l).filter fun c=>c.1 !=1).map (fun c=>c.2.2)=b::applied l (x.drop p)
  rw [ann_applied x l p (by omega)]
 | .replace b::l,p,h=>by
  rw [eats_cons] at h
  have h:p+(1+eats l)≤x.length:=h
  show b::((ann x (p+1) l).filter fun c=>c.1 !=1).map (fun c=>c.2.2)=b::applied l ((x.drop p).drop 1)
  rw [ann_applied x l (p+1) (by omega),List.drop_drop]
theorem ann_shown (x:Text):∀(l:List Change) (p:Nat),((ann x p l).filter fun c=>c.1 !=0).map (fun c=> [c.1,c.2.1,c.2.2])=shownChanges p l
 | [],_=>rfl
 | .keep::l,p=>ann_shown x l (p+1)
 | .delete::l,p=>by
  show [1,p,0]::((ann x (p+1) l).filter fun c=>c.1 !=0).map (fun c=> [c.1,c.2.1,c.2.2])=_
  rw [ann_shown x l (p+1)]
  rfl
 | .insert b::l,p=>by
  show [2,p,b]::((ann x p l).filter fun c=>c.1 !=0).map (fun c=> [c.1,c.2.1,c.2.2])=_
  rw [ann_shown x l p]
  rfl
 | .replace b::l,p=>by
  show [3,p,b]::((ann x (p+1) l).filter fun c=>c.1 !=0).map (fun c=> [c.1,c.2.1,c.2.2])=_
  rw [ann_shown x l (p+1)]
  rfl
end Vm
namespace Vm
open Vaglrl
def nextRow (k:Costs) (y:Text) (row:List Nat) (a:Nat):List Nat:=match row with
 | []=> []
 |d::_=>(d+k.delete)::distRow k a row y (d+k.delete)
def stepD (k:Costs) (a b up dg left:Nat):Nat:=min (min (up+if a=b then 0 else k.replace) (dg+k.delete)) (left+k.insert)
theorem distRow_len (k:Costs) (a:Nat):∀(row:List Nat) (y:Text) (left:Nat),row.length=y.length+1→(distRow k a row y left).length=y.length
 | [],_,_,h=>by simp at h
 | [u],[],left,_=>by simp [distRow]
 | [u],b::r,_,h=>by simp at h
 |u::d::m,[],_,h=>by simp at h
 |u::d::m,b::r,left,h=>by
  rw [distRow]
  show (distRow k a (d::m) r _).length+1=r.length+1
  rw [distRow_len k a (d::m) r _ (by simpa using h)]
theorem distRow_at (k:Costs) (a:Nat):∀(row:List Nat) (y:Text) (left i:Nat),row.length=y.length+1→i<y.length→
  (left::distRow k a row y left).getD (i+1) 0=stepD k a (y.getD i 0) (row.getD i 0) (row.getD (i+1) 0) ((left::distRow k a row y left).getD i 0)
 | [],_,_,_,h,_=>by simp at h
 |_,[],_,_,_,h=>by simp at h
 | [u],b::r,_,_,h,_=>by simp at h
 |u::d::m,b::r,left,0,h,_=>by
  rw [distRow]
  show (if a==b then min (min (min (u+k.replace) (left+k.insert)) (d+k.delete)) u else min (min (u+k.replace) (left+k.insert)) (d+k.delete))=min (min (u+if a=b then 0 else k.replace) (d+k.delete)) (left+k.insert)
  by_cases e:a=b
  ·rw [if_pos e,if_pos (by simpa using e)]
   omega
  ·rw [if_neg e,if_neg (by simpa using e)]
   omega
 |u::d::m,b::r,left,i+1,h,hi=>by
  rw [distRow]
  exact distRow_at k a (d::m) r _ i (by simpa using h) (by simpa using hi)
theorem nextRow_len {k:Costs} {y:Text} {row:List Nat} {a:Nat} (h:row.length=y.length+1):(nextRow k y row a).length=y.length+1:=by
 cases row with
 |nil=>simp at h
 |cons d m=>
  show (distRow k a (d::m) y _).length+1=_
  rw [distRow_len k a _ _ _ h]
theorem nextRow_at {k:Costs} {y:Text} {row:List Nat} {a i:Nat} (h:row.length=y.length+1) (hi:i<y.length):
  (nextRow k y row a).getD (i+1) 0=stepD k a (y.getD i 0) (row.getD i 0) (row.getD (i+1) 0) ((nextRow k y row a).getD i 0):=by
 cases row with
 |nil=>simp at h
 |cons d m=>exact distRow_at k a (d::m) y _ i h hi
theorem nextRow_0 {k:Costs} {y:Text} {row:List Nat} {a:Nat} (h:row.length=y.length+1):(nextRow k y row a).getD 0 0=row.getD 0 0+k.delete:=by
 cases row with
 |nil=>simp at h
 |cons d m=>rfl
def rowsTo (k:Costs) (x y:Text):List Nat:=x.foldl (nextRow k y) (firstRow k y)
theorem rowsTo_len (k:Costs) (y:Text) (x:Text):(rowsTo k x y).length=y.length+1:=by
 have:∀(x:Text) (row:List Nat),row.length=y.length+1→(x.foldl (nextRow k y) row).length=y.length+1:=by
  intro x
  induction x with
  |nil=>exact fun _ h=>h
  |cons a r ih=>exact fun row h=>ih _ (nextRow_len h)
 exact this x _ (by unfold firstRow;rw [List.length_map,List.length_range])
theorem distance_is (k:Costs) (x y:Text):distance k x y=(rowsTo k x y).getLastD 0:=by
 have e:(fun (row:List Nat) a=>match row with
   | []=> []
   |d::_=>(d+k.delete)::distRow k a row y (d+k.delete))=nextRow k y:=by
  funext row a
  cases row<;>rfl
 unfold distance rowsTo
 rw [←e]
 congr 2
theorem rowsTo_snoc (k:Costs) (x y:Text) (a:Nat):rowsTo k (x++ [a]) y=nextRow k y (rowsTo k x y) a:=by
 unfold rowsTo
 rw [List.foldl_append]
 rfl
end Vm
namespace Vm
open Vaglrl
def RowAt (calls:List Int) (n:Nat) (c:Int) (row:List Int) (m:Nat):Prop:=calls[n]?=some c∧∃len:Nat,calls[n+1]?=some (len:Int)∧n+1+1+len≤calls.length∧row=(calls.drop (n+1+1)).take len∧m=n+1+1+len
def ThreeAt (calls:List Int) (n:Nat) (c a b d:Int) (m:Nat):Prop:=calls[n]?=some c∧n+1+3≤calls.length∧(calls.drop (n+1)).take 3= [a,b,d]∧m=n+1+3
def Dec (calls:List Int) (n:Nat):Call→Nat→Prop
 | .load r,m=>RowAt calls n 0 r m
 | .costs a b d,m=>ThreeAt calls n 1 a b d m
 | .text r,m=>RowAt calls n 2 r m
 | .least,m=>calls[n]?=some 3∧m=n+1
 | .repair,m=>calls[n]?=some 4∧m=n+1
 | .changes,m=>calls[n]?=some 5∧m=n+1
 | .cost a b d,m=>ThreeAt calls n 6 a b d m
 | .way a b d,m=>ThreeAt calls n 7 a b d m
 | .distance r,m=>RowAt calls n 8 r m
 | .apply,m=>calls[n]?=some 9∧m=n+1
def callNo:Call→Int
 | .load _=>0
 | .costs _ _ _=>1
 | .text _=>2
 | .least=>3
 | .repair=>4
 | .changes=>5
 | .cost _ _ _=>6
 | .way _ _ _=>7
 | .distance _=>8
 | .apply=>9
theorem Dec.no {calls:List Int} {n m:Nat} {k:Call} (h:Dec calls n k m):calls[n]?=some (callNo k):=by
 cases k<;>exact h.1
theorem call_row {p:Int} {r t:List Int} {c:List (List Int)} (hs:PyVaglrl.shape p=some (0,1)) (h:PyFlat.call PyVaglrl.shape (p::r)=some (c,t)):∃(len:Nat) (s:List Int),r=(len:Int)::s∧len≤s.length∧c= [[p],s.take len]∧t=s.drop len:=by
 simp only [PyFlat.call,hs] at h
 rw [if_neg (Nat.not_lt_zero _),List.drop_zero] at h
 cases r with
 |nil=>simp [PyFlat.rows,PyFlat.row] at h
 |cons v s=>
  by_cases hv:0≤v∧v.toNat≤s.length
  ·simp only [PyFlat.rows,PyFlat.row,if_pos hv] at h
   simp at h
   obtain ⟨h1,h2⟩:=h
   exact ⟨v.toNat,s,by rw [Int.toNat_of_nonneg hv.1],hv.2,h1.symm,h2.symm⟩
  ·simp only [PyFlat.rows,PyFlat.row,if_neg hv] at h
   cases h
theorem call_three {p:Int} {r t:List Int} {c:List (List Int)} (hs:PyVaglrl.shape p=some (3,0)) (h:PyFlat.call PyVaglrl.shape (p::r)=some (c,t)):∃(a b d:Int),r=a::b::d::t∧c= [[p,a,b,d]]:=by
 simp only [PyFlat.call,hs] at h
 by_cases hl:r.length<3
 ·rw [if_pos hl] at h
  cases h
 ·rw [if_neg hl] at h
  match r,hl,h with
  |a::b::d::s,_,h=>
   simp [PyFlat.rows] at h
   obtain ⟨h1,h2⟩:=h
   exact ⟨a,b,d,by rw [h2],h1.symm⟩
  | [],hl,_=>exact absurd (by simp) hl
  | [_],hl,_=>exact absurd (by simp) hl
  | [_,_],hl,_=>exact absurd (by simp) hl
theorem call_none {p:Int} {r t:List Int} {c:List (List Int)} (hs:PyVaglrl.shape p=some (0,0)) (h:PyFlat.call PyVaglrl.shape (p::r)=some (c,t)):t=r∧c= [[p]]:=by
 simp only [PyFlat.call,hs] at h
 simp [PyFlat.rows] at h
 exact ⟨h.2.symm,h.1.symm⟩
theorem drop_cons {l r:List Int} {n:Nat} {p:Int} (e:l.drop n=p::r):l[n]?=some p∧l.drop (n+1)=r∧n+1+r.length=l.length:=by
 have h1:l[n]?=some p:=by rw [←List.head?_drop,e];rfl
 have h2:l.drop (n+1)=r:=by rw [←List.tail_drop,e];rfl
 have h3:=(List.getElem?_eq_some_iff.mp h1).1
 refine ⟨h1,h2,?_⟩
 rw [←h2,List.length_drop]
 omega
theorem rowAt_of {calls r:List Int} {n:Nat} {p:Int} {len:Nat} {s:List Int} (e:calls.drop n=p::r) (hr:r=(len:Int)::s) (hl:len≤s.length):
  RowAt calls n p (s.take len) (n+1+1+len)∧calls.drop (n+1+1+len)=s.drop len∧n+1+1+len≤calls.length:=by
 obtain ⟨h1,h2,h3⟩:=drop_cons e
 rw [hr] at h2
 obtain ⟨g1,g2,g3⟩:=drop_cons h2
 refine ⟨⟨h1,len,g1,by omega,by rw [g2],rfl⟩,by rw [←g2,List.drop_drop],by omega⟩
theorem threeAt_of {calls r t:List Int} {n:Nat} {p a b d:Int} (e:calls.drop n=p::r) (hr:r=a::b::d::t):ThreeAt calls n p a b d (n+1+3)∧calls.drop (n+1+3)=t∧n+1+3≤calls.length:=by
 obtain ⟨h1,h2,h3⟩:=drop_cons e
 have hl:r.length=t.length+3:=by rw [hr];rfl
 refine ⟨⟨h1,by omega,by rw [h2,hr];rfl,rfl⟩,?_,by omega⟩
 rw [←List.drop_drop,h2,hr]
 rfl
theorem decode {calls t:List Int} {n:Nat} {c:List (List Int)} (h:PyFlat.call PyVaglrl.shape (calls.drop n)=some (c,t)):
  ∃k m,VaglrlNeutral.callOf (PyVaglrl.whole c)=some k∧Dec calls n k m∧calls.drop m=t∧n<m∧m≤calls.length:=by
 cases e:calls.drop n with
 |nil=>rw [e] at h;simp [PyFlat.call] at h
 |cons p r=>
  rw [e] at h
  obtain ⟨h1,h2,h3⟩:=drop_cons e
  by_cases p0:p=0
  ·subst p0
   obtain ⟨len,s,hr,hl,rfl,rfl⟩:=call_row rfl h
   obtain ⟨z1,z2,z3⟩:=rowAt_of e hr hl
   exact ⟨.load _,_,rfl,z1,z2,by omega,z3⟩
  by_cases p1:p=1
  ·subst p1
   obtain ⟨a,b,d,hr,rfl⟩:=call_three rfl h
   obtain ⟨z1,z2,z3⟩:=threeAt_of e hr
   exact ⟨.costs a b d,_,rfl,z1,z2,by omega,z3⟩
  by_cases p2:p=2
  ·subst p2
   obtain ⟨len,s,hr,hl,rfl,rfl⟩:=call_row rfl h
   obtain ⟨z1,z2,z3⟩:=rowAt_of e hr hl
   exact ⟨.text _,_,rfl,z1,z2,by omega,z3⟩
  by_cases p3:p=3
  ·subst p3
   obtain ⟨rfl,rfl⟩:=call_none rfl h
   exact ⟨.least,_,rfl,⟨h1,rfl⟩,h2,by omega,by omega⟩
  by_cases p4:p=4
  ·subst p4
   obtain ⟨rfl,rfl⟩:=call_none rfl h
   exact ⟨.repair,_,rfl,⟨h1,rfl⟩,h2,by omega,by omega⟩
  by_cases p5:p=5
  ·subst p5
   obtain ⟨rfl,rfl⟩:=call_none rfl h
   exact ⟨.changes,_,rfl,⟨h1,rfl⟩,h2,by omega,by omega⟩
  by_cases p6:p=6
  ·subst p6
   obtain ⟨a,b,d,hr,rfl⟩:=call_three rfl h
   obtain ⟨z1,z2,z3⟩:=threeAt_of e hr
   exact ⟨.cost a b d,_,rfl,z1,z2,by omega,z3⟩
  by_cases p7:p=7
  ·subst p7
   obtain ⟨a,b,d,hr,rfl⟩:=call_three rfl h
   obtain ⟨z1,z2,z3⟩:=threeAt_of e hr
   exact ⟨.way a b d,_,rfl,z1,z2,by omega,z3⟩
  by_cases p8:p=8
  ·subst p8
   obtain ⟨len,s,hr,hl,rfl,rfl⟩:=call_row rfl h
   obtain ⟨z1,z2,z3⟩:=rowAt_of e hr hl
   exact ⟨.distance _,_,rfl,z1,z2,by omega,z3⟩
  by_cases p9:p=9
  ·subst p9
   obtain ⟨rfl,rfl⟩:=call_none rfl h
   exact ⟨.apply,_,rfl,⟨h1,rfl⟩,h2,by omega,by omega⟩
  have hs:PyVaglrl.shape p=none:=by
   unfold PyVaglrl.shape
   rw [if_neg p0,if_neg p1,if_neg p2,if_neg p3,if_neg p4,if_neg p5,if_neg p6,if_neg p7,if_neg p8,if_neg p9]
  simp only [PyFlat.call,hs] at h
  cases h
theorem calls_step {f:Nat} {l:List Int} {cs:List (List (List Int))} (hl:l≠ []) (h:PyFlat.calls PyVaglrl.shape f l=some cs):∃f' c t cs',PyFlat.call PyVaglrl.shape l=some (c,t)∧PyFlat.calls PyVaglrl.shape f' t=some cs'∧cs=c::cs':=by
 cases l with
 |nil=>exact absurd rfl hl
 |cons p r=>
  cases f with
  |zero=>simp [PyFlat.calls] at h
  |succ f=>
   rw [PyFlat.calls] at h
   cases e:PyFlat.call PyVaglrl.shape (p::r) with
   |none=>rw [e] at h;cases h
   |some ct=>
    obtain ⟨c,t⟩:=ct
    rw [e] at h
    dsimp only at h
    cases e2:PyFlat.calls PyVaglrl.shape f t with
    |none=>rw [e2] at h;cases h
    |some cs'=>
     rw [e2] at h
     dsimp only at h
     exact ⟨f,c,t,cs',rfl,e2,(Option.some.inj h).symm⟩
theorem calls_nil {f:Nat} {cs:List (List (List Int))} (h:PyFlat.calls PyVaglrl.shape f []=some cs):cs= []:=by
 cases f<;>(rw [PyFlat.calls] at h;exact (Option.some.inj h).symm)
def due (st:State) (cs:List (List (List Int))):List Int:=PyFlat.told (PyFlat.played VaglrlNeutral.step st (cs.map PyVaglrl.whole))
theorem due_step {st:State} {c:List (List Int)} {cs:List (List (List Int))} {k:Call} (h:VaglrlNeutral.callOf (PyVaglrl.whole c)=some k):due st (c::cs)=((step st k).2.length:Int)::(step st k).2++due (step st k).1 cs:=by
 have e:VaglrlNeutral.step st (PyVaglrl.whole c)=((step st k).1,(step st k).2):=by
  unfold VaglrlNeutral.step
  rw [h]
  rfl
 unfold due PyFlat.told
 rw [List.map_cons,PyFlat.played,List.flatMap_cons,e]
theorem asked_calls {l:List Int} (h:PyVaglrl.answers_asked l=true):∃cs,PyFlat.calls PyVaglrl.shape l.length l=some cs∧cs.length≤100∧PyVaglrl.answers l=due start cs:=by
 unfold PyVaglrl.answers_asked PyVaglrl.calls at h
 unfold PyVaglrl.answers PyVaglrl.calls
 cases e:PyFlat.calls PyVaglrl.shape l.length l with
 |none=>rw [e] at h;cases h
 |some cs=>
  rw [e] at h
  dsimp only at h
  rw [Bool.and_eq_true] at h
  have z:=of_decide_eq_true (show decide ((cs.map PyVaglrl.whole).length≤100)=true from h.1)
  rw [List.length_map] at z
  exact ⟨cs,rfl,z,rfl⟩
end Vm
namespace Lr
open PySem PySem.Spec PyProof.Rows L2 LX
def top (i:Nat):Stmt:=PySem.Challenge.pw_leastrepairs_s01_answers.main.body.getD i (.Pass ⟨0,0,0,0⟩)
abbrev sRuleInit:Stmt:=inClass (top 9) 0
abbrev sGrammarInit:Stmt:=inClass (top 10) 0
abbrev sRowReaderInit:Stmt:=inClass (top 11) 0
abbrev sRowReaderTake:Stmt:=inClass (top 11) 1
abbrev sRowReaderExpectEnd:Stmt:=inClass (top 11) 2
abbrev sReadGrammar:Stmt:=top 12
abbrev sReadRule:Stmt:=top 13
abbrev sReadSymbol:Stmt:=top 14
abbrev sCostsInit:Stmt:=inClass (top 20) 0
abbrev sReplacingIsTold:Stmt:=top 21
abbrev sLeftOut:Stmt:=top 22
abbrev sFirstWithin:Stmt:=top 23
abbrev sRangeChanges:Stmt:=top 24
abbrev sRangeTable:Stmt:=top 25
abbrev sRangeCostsFrom:Stmt:=top 26
abbrev sCellInit:Stmt:=inClass (top 29) 0
abbrev sCellsInit:Stmt:=inClass (top 30) 0
abbrev sCellsAt:Stmt:=inClass (top 30) 1
abbrev sCellsKnownCost:Stmt:=inClass (top 30) 2
abbrev sCellsPut:Stmt:=inClass (top 30) 3
abbrev sSymbolTables:Stmt:=top 31
abbrev sEmptyTable:Stmt:=top 32
abbrev sFindCells:Stmt:=top 33
abbrev sTouchedRules:Stmt:=top 34
abbrev sMakeRound:Stmt:=top 35
abbrev sLookAtRule:Stmt:=top 36
abbrev sCheapestRests:Stmt:=top 37
abbrev sCheapestSum:Stmt:=top 38
abbrev sFirstCheapestEnds:Stmt:=top 39
abbrev sDistanceBetween:Stmt:=top 41
abbrev sRowWithByte:Stmt:=top 42
abbrev sToldRepair:Stmt:=top 48
abbrev sRepaired:Stmt:=top 49
abbrev sToldChanges:Stmt:=top 50
abbrev sPartsOfCell:Stmt:=top 51
abbrev sPlainChanges:Stmt:=top 52
abbrev sHeldInit:Stmt:=inClass (top 77) 0
abbrev sCallReaderInit:Stmt:=inClass (top 78) 0
abbrev sCallReaderIsAtEnd:Stmt:=inClass (top 78) 1
abbrev sCallReaderTakeNumber:Stmt:=inClass (top 78) 2
abbrev sCallReaderTakeNumbers:Stmt:=inClass (top 78) 3
abbrev sCallReaderTakeRow:Stmt:=inClass (top 78) 4
abbrev sAnswers:Stmt:=top 79
abbrev sAnswerCall:Stmt:=top 80
abbrev sAnswerLoad:Stmt:=top 81
abbrev sAnswerCosts:Stmt:=top 82
abbrev sAnswerText:Stmt:=top 83
abbrev sRefusalOfBytes:Stmt:=top 84
abbrev sHoldText:Stmt:=top 85
abbrev sAnswerLeast:Stmt:=top 86
abbrev sAnswerByRepair:Stmt:=top 87
abbrev sAnswerRepair:Stmt:=top 88
abbrev sAnswerChanges:Stmt:=top 89
abbrev sAnswerApply:Stmt:=top 90
abbrev sAnswerByCell:Stmt:=top 91
abbrev sAnswerDistance:Stmt:=top 92
abbrev sWholeCell:Stmt:=top 93
abbrev sCellsOf:Stmt:=top 94
structure Ad where
 cNoGrammarRow:Addr
 cRule:Addr
 cGrammar:Addr
 cRowReader:Addr
 cCosts:Addr
 cCell:Addr
 cCells:Addr
 cTooLong:Addr
 cNoSuchCall:Addr
 cHeld:Addr
 cCallReader:Addr
structure Txt (A:Ad) (K:PySem.W.Frag) (mg:Str→Option Value):Prop where
 kNONTERMINAL:∃t,mg "NONTERMINAL"=some (.int 0 t)
 kRANGE:∃t,mg "RANGE"=some (.int 1 t)
 kSTART:∃t,mg "START"=some (.int 0 t)
 kMOST_NONTERMINALS:∃t,mg "MOST_NONTERMINALS"=some (.int 20 t)
 kMOST_RULES:∃t,mg "MOST_RULES"=some (.int 60 t)
 kMOST_SYMBOLS:∃t,mg "MOST_SYMBOLS"=some (.int 8 t)
 kHIGHEST_BYTE:∃t,mg "HIGHEST_BYTE"=some (.int 255 t)
 kKEPT:∃t,mg "KEPT"=some (.int 0 t)
 kLEFT_OUT:∃t,mg "LEFT_OUT"=some (.int 1 t)
 kPUT_IN:∃t,mg "PUT_IN"=some (.int 2 t)
 kREPLACED:∃t,mg "REPLACED"=some (.int 3 t)
 kNO_WAY:∃t,mg "NO_WAY"=some (.int 1000000000000000000000000000000 t)
 kTOO_MANY_STEPS:∃t,mg "TOO_MANY_STEPS"=some (.int 4000 t)
 kMOST_BYTES:∃t,mg "MOST_BYTES"=some (.int 64 t)
 kLOAD:∃t,mg "LOAD"=some (.int 0 t)
 kCOSTS:∃t,mg "COSTS"=some (.int 1 t)
 kTEXT:∃t,mg "TEXT"=some (.int 2 t)
 kLEAST:∃t,mg "LEAST"=some (.int 3 t)
 kREPAIR:∃t,mg "REPAIR"=some (.int 4 t)
 kCHANGES:∃t,mg "CHANGES"=some (.int 5 t)
 kCOST:∃t,mg "COST"=some (.int 6 t)
 kWAY:∃t,mg "WAY"=some (.int 7 t)
 kDISTANCE:∃t,mg "DISTANCE"=some (.int 8 t)
 kAPPLY:∃t,mg "APPLY"=some (.int 9 t)
 kDONE:∃t,mg "DONE"=some (.int 0 t)
 kNONE_THERE:∃t,mg "NONE_THERE"=some (.int 1 t)
 kWRONG_NUMBER:∃t,mg "WRONG_NUMBER"=some (.int (-1) t)
 kWRONG_ROW:∃t,mg "WRONG_ROW"=some (.int (-2) t)
 kTOO_MANY:∃t,mg "TOO_MANY"=some (.int (-3) t)
 kNO_NONTERMINAL:∃t,mg "NO_NONTERMINAL"=some (.int (-4) t)
 kOUT_OF_BOUNDS:∃t,mg "OUT_OF_BOUNDS"=some (.int (-5) t)
 kREPAIR_TOO_LONG:∃t,mg "REPAIR_TOO_LONG"=some (.int (-6) t)
 kLOWEST_COST:∃t,mg "LOWEST_COST"=some (.int 1 t)
 kHIGHEST_COST:∃t,mg "HIGHEST_COST"=some (.int 9 t)
 kMOST_LETTERS:∃t,mg "MOST_LETTERS"=some (.int 12 t)
 kMOST_OTHER_LETTERS:∃t,mg "MOST_OTHER_LETTERS"=some (.int 64 t)
 b_range:mg "range"=none
 b_len:mg "len"=none
 b_min:mg "min"=none
 b_max:mg "max"=none
 b_any:mg "any"=none
 b_list:mg "list"=none
 b_enumerate:mg "enumerate"=none
 b_zip:mg "zip"=none
 b_reversed:mg "reversed"=none
 mNoGrammarRow:mg "NoGrammarRow"=some (.ref A.cNoGrammarRow)
 mRule:mg "Rule"=some (.ref A.cRule)
 mGrammar:mg "Grammar"=some (.ref A.cGrammar)
 mRowReader:mg "RowReader"=some (.ref A.cRowReader)
 mCosts:mg "Costs"=some (.ref A.cCosts)
 mCell:mg "Cell"=some (.ref A.cCell)
 mCells:mg "Cells"=some (.ref A.cCells)
 mTooLong:mg "TooLong"=some (.ref A.cTooLong)
 mNoSuchCall:mg "NoSuchCall"=some (.ref A.cNoSuchCall)
 mHeld:mg "Held"=some (.ref A.cHeld)
 mCallReader:mg "CallReader"=some (.ref A.cCallReader)
 lRule:Cls K A.cRule
 lGrammar:Cls K A.cGrammar
 lRowReader:Cls K A.cRowReader
 lCosts:Cls K A.cCosts
 lCell:Cls K A.cCell
 lCells:Cls K A.cCells
 lHeld:Cls K A.cHeld
 lCallReader:Cls K A.cCallReader
 xNoGrammarRow:ExcC K A.cNoGrammarRow
 xTooLong:ExcC K A.cTooLong
 xNoSuchCall:ExcC K A.cNoSuchCall
 nRule_nonterminal:NoAttr K A.cRule "nonterminal"
 nRule_symbols:NoAttr K A.cRule "symbols"
 nGrammar_nonterminals:NoAttr K A.cGrammar "nonterminals"
 nGrammar_rules:NoAttr K A.cGrammar "rules"
 nRowReader_row:NoAttr K A.cRowReader "row"
 nRowReader_place:NoAttr K A.cRowReader "place"
 nCosts_putting:NoAttr K A.cCosts "putting"
 nCosts_leaving:NoAttr K A.cCosts "leaving"
 nCosts_replacing:NoAttr K A.cCosts "replacing"
 nCell_cost:NoAttr K A.cCell "cost"
 nCell_rule:NoAttr K A.cCell "rule"
 nCell_ends:NoAttr K A.cCell "ends"
 nCells_grammar:NoAttr K A.cCells "grammar"
 nCells_letters:NoAttr K A.cCells "letters"
 nCells_costs:NoAttr K A.cCells "costs"
 nCells_tables:NoAttr K A.cCells "tables"
 nCells_found:NoAttr K A.cCells "found"
 nHeld_grammar:NoAttr K A.cHeld "grammar"
 nHeld_costs:NoAttr K A.cHeld "costs"
 nHeld_letters:NoAttr K A.cHeld "letters"
 nHeld_cells:NoAttr K A.cHeld "cells"
 nCallReader_calls:NoAttr K A.cCallReader "calls"
 nCallReader_place:NoAttr K A.cCallReader "place"
end Lr
namespace Lr
open PySem PySem.Spec PyProof.Rows L2 LX
theorem putF_nil (f:Str) (v:V):putF f v []= [(f,v)]:=rfl
theorem putF_ne {f g:Str} {v x:V} {r:List (Str×V)} (h:g≠f):putF f v ((g,x)::r)=(g,x)::putF f v r:=by
 show (if g=f then (g,v)::r else (g,x)::putF f v r)=_
 rw [if_neg h]
theorem putF_eq {f:Str} {v x:V} {r:List (Str×V)}:putF f v ((f,x)::r)=(f,v)::r:=by
 show (if f=f then (f,v)::r else (f,x)::putF f v r)=_
 rw [if_pos rfl]
theorem look_ne {f g:Str} {x:V} {r:List (Str×V)} (h:f≠g):List.lookup f ((g,x)::r)=List.lookup f r:=by
 have hb:(f==g)=false:=beq_eq_false_iff_ne.mpr h
 simp only [List.lookup,hb]
theorem look_eq {f:Str} {x:V} {r:List (Str×V)}:List.lookup f ((f,x)::r)=some x:=by
 have hb:(f==f)=true:=beq_iff_eq.mpr rfl
 simp only [List.lookup,hb]
def fRule (v0 v1:V):List (Str×V):= [("nonterminal",v0),("symbols",v1)]
section
variable {v0 v1:V}
theorem fRule_mk:putF "symbols" v1 (putF "nonterminal" v0 ([]))=fRule v0 v1:=by
 unfold fRule
 repeat (first|rw [putF_nil]|rw [putF_ne (by decide+kernel)])
theorem fRule_nonterminal:(fRule v0 v1).lookup ("nonterminal":Str)=some v0:=by
 unfold fRule
 rw [look_eq]
theorem fRule_symbols:(fRule v0 v1).lookup ("symbols":Str)=some v1:=by
 unfold fRule
 rw [look_ne (by decide+kernel),look_eq]
end
def fGrammar (v0 v1:V):List (Str×V):= [("nonterminals",v0),("rules",v1)]
section
variable {v0 v1:V}
theorem fGrammar_mk:putF "rules" v1 (putF "nonterminals" v0 ([]))=fGrammar v0 v1:=by
 unfold fGrammar
 repeat (first|rw [putF_nil]|rw [putF_ne (by decide+kernel)])
theorem fGrammar_nonterminals:(fGrammar v0 v1).lookup ("nonterminals":Str)=some v0:=by
 unfold fGrammar
 rw [look_eq]
theorem fGrammar_rules:(fGrammar v0 v1).lookup ("rules":Str)=some v1:=by
 unfold fGrammar
 rw [look_ne (by decide+kernel),look_eq]
end
def fRowReader (v0 v1:V):List (Str×V):= [("row",v0),("place",v1)]
section
variable {v0 v1:V}
theorem fRowReader_mk:putF "place" v1 (putF "row" v0 ([]))=fRowReader v0 v1:=by
 unfold fRowReader
 repeat (first|rw [putF_nil]|rw [putF_ne (by decide+kernel)])
theorem fRowReader_row:(fRowReader v0 v1).lookup ("row":Str)=some v0:=by
 unfold fRowReader
 rw [look_eq]
theorem fRowReader_place:(fRowReader v0 v1).lookup ("place":Str)=some v1:=by
 unfold fRowReader
 rw [look_ne (by decide+kernel),look_eq]
theorem fRowReader_put_place {w:V}:putF ("place":Str) w (fRowReader v0 v1)=fRowReader v0 w:=by
 unfold fRowReader
 rw [putF_ne (by decide+kernel),putF_eq]
theorem fRowReader_no_take:(fRowReader v0 v1).lookup ("take":Str)=none:=by
 unfold fRowReader
 rw [look_ne (by decide+kernel),look_ne (by decide+kernel)]
 rfl
theorem fRowReader_no_expect_end:(fRowReader v0 v1).lookup ("expect_end":Str)=none:=by
 unfold fRowReader
 rw [look_ne (by decide+kernel),look_ne (by decide+kernel)]
 rfl
end
def fCosts (v0 v1 v2:V):List (Str×V):= [("putting",v0),("leaving",v1),("replacing",v2)]
section
variable {v0 v1 v2:V}
theorem fCosts_mk:putF "replacing" v2 (putF "leaving" v1 (putF "putting" v0 ([])))=fCosts v0 v1 v2:=by
 unfold fCosts
 repeat (first|rw [putF_nil]|rw [putF_ne (by decide+kernel)])
theorem fCosts_putting:(fCosts v0 v1 v2).lookup ("putting":Str)=some v0:=by
 unfold fCosts
 rw [look_eq]
theorem fCosts_leaving:(fCosts v0 v1 v2).lookup ("leaving":Str)=some v1:=by
 unfold fCosts
 rw [look_ne (by decide+kernel),look_eq]
theorem fCosts_replacing:(fCosts v0 v1 v2).lookup ("replacing":Str)=some v2:=by
 unfold fCosts
 rw [look_ne (by decide+kernel),look_ne (by decide+kernel),look_eq]
end
def fCell (v0 v1 v2:V):List (Str×V):= [("cost",v0),("rule",v1),("ends",v2)]
section
variable {v0 v1 v2:V}
theorem fCell_mk:putF "ends" v2 (putF "rule" v1 (putF "cost" v0 ([])))=fCell v0 v1 v2:=by
 unfold fCell
 repeat (first|rw [putF_nil]|rw [putF_ne (by decide+kernel)])
theorem fCell_cost:(fCell v0 v1 v2).lookup ("cost":Str)=some v0:=by
 unfold fCell
 rw [look_eq]
theorem fCell_rule:(fCell v0 v1 v2).lookup ("rule":Str)=some v1:=by
 unfold fCell
 rw [look_ne (by decide+kernel),look_eq]
theorem fCell_ends:(fCell v0 v1 v2).lookup ("ends":Str)=some v2:=by
 unfold fCell
 rw [look_ne (by decide+kernel),look_ne (by decide+kernel),look_eq]
end
def fCells (v0 v1 v2 v3 v4:V):List (Str×V):= [("grammar",v0),("letters",v1),("costs",v2),("tables",v3),("found",v4)]
section
variable {v0 v1 v2 v3 v4:V}
theorem fCells_mk:putF "found" v4 (putF "tables" v3 (putF "costs" v2 (putF "letters" v1 (putF "grammar" v0 ([])))))=fCells v0 v1 v2 v3 v4:=by
 unfold fCells
 repeat (first|rw [putF_nil]|rw [putF_ne (by decide+kernel)])
theorem fCells_grammar:(fCells v0 v1 v2 v3 v4).lookup ("grammar":Str)=some v0:=by
 unfold fCells
 rw [look_eq]
theorem fCells_letters:(fCells v0 v1 v2 v3 v4).lookup ("letters":Str)=some v1:=by
 unfold fCells
 rw [look_ne (by decide+kernel),look_eq]
theorem fCells_costs:(fCells v0 v1 v2 v3 v4).lookup ("costs":Str)=some v2:=by
 unfold fCells
 rw [look_ne (by decide+kernel),look_ne (by decide+kernel),look_eq]
theorem fCells_tables:(fCells v0 v1 v2 v3 v4).lookup ("tables":Str)=some v3:=by
 unfold fCells
 rw [look_ne (by decide+kernel),look_ne (by decide+kernel),look_ne (by decide+kernel),look_eq]
theorem fCells_found:(fCells v0 v1 v2 v3 v4).lookup ("found":Str)=some v4:=by
 unfold fCells
 rw [look_ne (by decide+kernel),look_ne (by decide+kernel),look_ne (by decide+kernel),look_ne (by decide+kernel),look_eq]
theorem fCells_no_at:(fCells v0 v1 v2 v3 v4).lookup ("at":Str)=none:=by
 unfold fCells
 rw [look_ne (by decide+kernel),look_ne (by decide+kernel),look_ne (by decide+kernel),look_ne (by decide+kernel),look_ne (by decide+kernel)]
 rfl
theorem fCells_no_known_cost:(fCells v0 v1 v2 v3 v4).lookup ("known_cost":Str)=none:=by
 unfold fCells
 rw [look_ne (by decide+kernel),look_ne (by decide+kernel),look_ne (by decide+kernel),look_ne (by decide+kernel),look_ne (by decide+kernel)]
 rfl
theorem fCells_no_put:(fCells v0 v1 v2 v3 v4).lookup ("put":Str)=none:=by
 unfold fCells
 rw [look_ne (by decide+kernel),look_ne (by decide+kernel),look_ne (by decide+kernel),look_ne (by decide+kernel),look_ne (by decide+kernel)]
 rfl
end
def fHeld (v0 v1 v2 v3:V):List (Str×V):= [("grammar",v0),("costs",v1),("letters",v2),("cells",v3)]
section
variable {v0 v1 v2 v3:V}
theorem fHeld_mk:putF "cells" v3 (putF "letters" v2 (putF "costs" v1 (putF "grammar" v0 ([]))))=fHeld v0 v1 v2 v3:=by
 unfold fHeld
 repeat (first|rw [putF_nil]|rw [putF_ne (by decide+kernel)])
theorem fHeld_grammar:(fHeld v0 v1 v2 v3).lookup ("grammar":Str)=some v0:=by
 unfold fHeld
 rw [look_eq]
theorem fHeld_put_grammar {w:V}:putF ("grammar":Str) w (fHeld v0 v1 v2 v3)=fHeld w v1 v2 v3:=by
 unfold fHeld
 rw [putF_eq]
theorem fHeld_costs:(fHeld v0 v1 v2 v3).lookup ("costs":Str)=some v1:=by
 unfold fHeld
 rw [look_ne (by decide+kernel),look_eq]
theorem fHeld_put_costs {w:V}:putF ("costs":Str) w (fHeld v0 v1 v2 v3)=fHeld v0 w v2 v3:=by
 unfold fHeld
 rw [putF_ne (by decide+kernel),putF_eq]
theorem fHeld_letters:(fHeld v0 v1 v2 v3).lookup ("letters":Str)=some v2:=by
 unfold fHeld
 rw [look_ne (by decide+kernel),look_ne (by decide+kernel),look_eq]
theorem fHeld_put_letters {w:V}:putF ("letters":Str) w (fHeld v0 v1 v2 v3)=fHeld v0 v1 w v3:=by
 unfold fHeld
 rw [putF_ne (by decide+kernel),putF_ne (by decide+kernel),putF_eq]
theorem fHeld_cells:(fHeld v0 v1 v2 v3).lookup ("cells":Str)=some v3:=by
 unfold fHeld
 rw [look_ne (by decide+kernel),look_ne (by decide+kernel),look_ne (by decide+kernel),look_eq]
theorem fHeld_put_cells {w:V}:putF ("cells":Str) w (fHeld v0 v1 v2 v3)=fHeld v0 v1 v2 w:=by
 unfold fHeld
 rw [putF_ne (by decide+kernel),putF_ne (by decide+kernel),putF_ne (by decide+kernel),putF_eq]
end
def fCallReader (v0 v1:V):List (Str×V):= [("calls",v0),("place",v1)]
section
variable {v0 v1:V}
theorem fCallReader_mk:putF "place" v1 (putF "calls" v0 ([]))=fCallReader v0 v1:=by
 unfold fCallReader
 repeat (first|rw [putF_nil]|rw [putF_ne (by decide+kernel)])
theorem fCallReader_calls:(fCallReader v0 v1).lookup ("calls":Str)=some v0:=by
 unfold fCallReader
 rw [look_eq]
theorem fCallReader_place:(fCallReader v0 v1).lookup ("place":Str)=some v1:=by
 unfold fCallReader
 rw [look_ne (by decide+kernel),look_eq]
theorem fCallReader_put_place {w:V}:putF ("place":Str) w (fCallReader v0 v1)=fCallReader v0 w:=by
 unfold fCallReader
 rw [putF_ne (by decide+kernel),putF_eq]
theorem fCallReader_no_is_at_end:(fCallReader v0 v1).lookup ("is_at_end":Str)=none:=by
 unfold fCallReader
 rw [look_ne (by decide+kernel),look_ne (by decide+kernel)]
 rfl
theorem fCallReader_no_take_number:(fCallReader v0 v1).lookup ("take_number":Str)=none:=by
 unfold fCallReader
 rw [look_ne (by decide+kernel),look_ne (by decide+kernel)]
 rfl
theorem fCallReader_no_take_numbers:(fCallReader v0 v1).lookup ("take_numbers":Str)=none:=by
 unfold fCallReader
 rw [look_ne (by decide+kernel),look_ne (by decide+kernel)]
 rfl
theorem fCallReader_no_take_row:(fCallReader v0 v1).lookup ("take_row":Str)=none:=by
 unfold fCallReader
 rw [look_ne (by decide+kernel),look_ne (by decide+kernel)]
 rfl
end
end Lr
namespace Lr
open PySem PySem.Spec PyProof.Rows L2 LX
section
variable {P:Program} {w:World} {K:PySem.W.Frag} {mg:Str→Option Value} {base:Heap} {A:Ad}
def spRule (A:Ad):Sp:=fun vs H Q _=>∃(p dx:Addr) (u0 u1:V),vs= [.ref p,u0,u1]∧H p=some (.ins A.cRule dx [])∧∀H':Hp,H' p=some (.ins A.cRule dx (fRule u0 u1))→(∀b o,H b=some o→b≠p→H' b=some o)→Q .non H'
theorem scRule:FnScope ["self","nonterminal","symbols"] ["self","nonterminal","symbols"] (defScope sRuleInit):=⟨rfl,rfl,rfl,by decide+kernel,rfl,by decide+kernel,by decide+kernel⟩
theorem okRule {f:Addr} {fd:FuncData} (F:Fun K "__init__" "Rule.__init__" sRuleInit f fd) (T:Txt A K mg):FnOk P w K mg base CX0 1 f fd ["self","nonterminal","symbols"] (spRule A):=by
 refine F.ok scRule (fun vs H Q E h=>?_) (fun cdv A' outer s H vs Q E hr h=>?_)
 ·obtain ⟨p,dx,u0,u1,rfl,_⟩:=h
  rfl
 ·obtain ⟨p,dx,u0,u1,rfl,hp,k⟩:=h
  refine ⟨_,(pss_cons (ps_fld (pv 0) (pv 1) rfl) (pss_one (ps_fld (pv 0) (pv 2) rfl))),?_⟩
  refine ⟨_,rfl,_,rfl,p,_,dx,_,rfl,hp,T.lRule,T.nRule_nonterminal,(by show 0<1000;decide),?_⟩
  refine ⟨_,rfl,_,rfl,p,_,dx,_,rfl,upd_same,T.lRule,T.nRule_symbols,(by repeat (first|rw [putF_nil]|rw [putF_ne (by decide+kernel)]);show 1<1000;decide),?_⟩
  refine k _ ?_ fun b o e hb=>?_
  ·rw [upd_same,fRule_mk]
  ·rw [upd_ne hb,upd_ne hb]
   exact e
def spGrammar (A:Ad):Sp:=fun vs H Q _=>∃(p dx:Addr) (u0 u1:V),vs= [.ref p,u0,u1]∧H p=some (.ins A.cGrammar dx [])∧∀H':Hp,H' p=some (.ins A.cGrammar dx (fGrammar u0 u1))→(∀b o,H b=some o→b≠p→H' b=some o)→Q .non H'
theorem scGrammar:FnScope ["self","nonterminals","rules"] ["self","nonterminals","rules"] (defScope sGrammarInit):=⟨rfl,rfl,rfl,by decide+kernel,rfl,by decide+kernel,by decide+kernel⟩
theorem okGrammar {f:Addr} {fd:FuncData} (F:Fun K "__init__" "Grammar.__init__" sGrammarInit f fd) (T:Txt A K mg):FnOk P w K mg base CX0 1 f fd ["self","nonterminals","rules"] (spGrammar A):=by
 refine F.ok scGrammar (fun vs H Q E h=>?_) (fun cdv A' outer s H vs Q E hr h=>?_)
 ·obtain ⟨p,dx,u0,u1,rfl,_⟩:=h
  rfl
 ·obtain ⟨p,dx,u0,u1,rfl,hp,k⟩:=h
  refine ⟨_,(pss_cons (ps_fld (pv 0) (pv 1) rfl) (pss_one (ps_fld (pv 0) (pv 2) rfl))),?_⟩
  refine ⟨_,rfl,_,rfl,p,_,dx,_,rfl,hp,T.lGrammar,T.nGrammar_nonterminals,(by show 0<1000;decide),?_⟩
  refine ⟨_,rfl,_,rfl,p,_,dx,_,rfl,upd_same,T.lGrammar,T.nGrammar_rules,(by repeat (first|rw [putF_nil]|rw [putF_ne (by decide+kernel)]);show 1<1000;decide),?_⟩
  refine k _ ?_ fun b o e hb=>?_
  ·rw [upd_same,fGrammar_mk]
  ·rw [upd_ne hb,upd_ne hb]
   exact e
def spRowReader (A:Ad):Sp:=fun vs H Q _=>∃(p dx:Addr) (u0:V),vs= [.ref p,u0]∧H p=some (.ins A.cRowReader dx [])∧∀H':Hp,H' p=some (.ins A.cRowReader dx (fRowReader u0 (.int 0)))→(∀b o,H b=some o→b≠p→H' b=some o)→Q .non H'
theorem scRowReader:FnScope ["self","row"] ["self","row"] (defScope sRowReaderInit):=⟨rfl,rfl,rfl,by decide+kernel,rfl,by decide+kernel,by decide+kernel⟩
theorem okRowReader {f:Addr} {fd:FuncData} (F:Fun K "__init__" "RowReader.__init__" sRowReaderInit f fd) (T:Txt A K mg):FnOk P w K mg base CX0 1 f fd ["self","row"] (spRowReader A):=by
 refine F.ok scRowReader (fun vs H Q E h=>?_) (fun cdv A' outer s H vs Q E hr h=>?_)
 ·obtain ⟨p,dx,u0,rfl,_⟩:=h
  rfl
 ·obtain ⟨p,dx,u0,rfl,hp,k⟩:=h
  refine ⟨_,(pss_cons (ps_fld (pv 0) (pv 1) rfl) (pss_one (ps_fld (pv 0) pe_int rfl))),?_⟩
  refine ⟨_,rfl,_,rfl,p,_,dx,_,rfl,hp,T.lRowReader,T.nRowReader_row,(by show 0<1000;decide),?_⟩
  refine ⟨_,rfl,p,_,dx,_,rfl,upd_same,T.lRowReader,T.nRowReader_place,(by repeat (first|rw [putF_nil]|rw [putF_ne (by decide+kernel)]);show 1<1000;decide),?_⟩
  refine k _ ?_ fun b o e hb=>?_
  ·rw [upd_same,fRowReader_mk]
  ·rw [upd_ne hb,upd_ne hb]
   exact e
def spCosts (A:Ad):Sp:=fun vs H Q _=>∃(p dx:Addr) (u0 u1 u2:V),vs= [.ref p,u0,u1,u2]∧H p=some (.ins A.cCosts dx [])∧∀H':Hp,H' p=some (.ins A.cCosts dx (fCosts u0 u1 u2))→(∀b o,H b=some o→b≠p→H' b=some o)→Q .non H'
theorem scCosts:FnScope ["self","putting","leaving","replacing"] ["self","putting","leaving","replacing"] (defScope sCostsInit):=⟨rfl,rfl,rfl,by decide+kernel,rfl,by decide+kernel,by decide+kernel⟩
theorem okCosts {f:Addr} {fd:FuncData} (F:Fun K "__init__" "Costs.__init__" sCostsInit f fd) (T:Txt A K mg):FnOk P w K mg base CX0 1 f fd ["self","putting","leaving","replacing"] (spCosts A):=by
 refine F.ok scCosts (fun vs H Q E h=>?_) (fun cdv A' outer s H vs Q E hr h=>?_)
 ·obtain ⟨p,dx,u0,u1,u2,rfl,_⟩:=h
  rfl
 ·obtain ⟨p,dx,u0,u1,u2,rfl,hp,k⟩:=h
  refine ⟨_,(pss_cons (ps_fld (pv 0) (pv 1) rfl) (pss_cons (ps_fld (pv 0) (pv 2) rfl) (pss_one (ps_fld (pv 0) (pv 3) rfl)))),?_⟩
  refine ⟨_,rfl,_,rfl,p,_,dx,_,rfl,hp,T.lCosts,T.nCosts_putting,(by show 0<1000;decide),?_⟩
  refine ⟨_,rfl,_,rfl,p,_,dx,_,rfl,upd_same,T.lCosts,T.nCosts_leaving,(by repeat (first|rw [putF_nil]|rw [putF_ne (by decide+kernel)]);show 1<1000;decide),?_⟩
  refine ⟨_,rfl,_,rfl,p,_,dx,_,rfl,upd_same,T.lCosts,T.nCosts_replacing,(by repeat (first|rw [putF_nil]|rw [putF_ne (by decide+kernel)]);show 2<1000;decide),?_⟩
  refine k _ ?_ fun b o e hb=>?_
  ·rw [upd_same,fCosts_mk]
  ·rw [upd_ne hb,upd_ne hb,upd_ne hb]
   exact e
def spCell (A:Ad):Sp:=fun vs H Q _=>∃(p dx:Addr) (u0 u1 u2:V),vs= [.ref p,u0,u1,u2]∧H p=some (.ins A.cCell dx [])∧∀H':Hp,H' p=some (.ins A.cCell dx (fCell u0 u1 u2))→(∀b o,H b=some o→b≠p→H' b=some o)→Q .non H'
theorem scCell:FnScope ["self","cost","rule","ends"] ["self","cost","rule","ends"] (defScope sCellInit):=⟨rfl,rfl,rfl,by decide+kernel,rfl,by decide+kernel,by decide+kernel⟩
theorem okCell {f:Addr} {fd:FuncData} (F:Fun K "__init__" "Cell.__init__" sCellInit f fd) (T:Txt A K mg):FnOk P w K mg base CX0 1 f fd ["self","cost","rule","ends"] (spCell A):=by
 refine F.ok scCell (fun vs H Q E h=>?_) (fun cdv A' outer s H vs Q E hr h=>?_)
 ·obtain ⟨p,dx,u0,u1,u2,rfl,_⟩:=h
  rfl
 ·obtain ⟨p,dx,u0,u1,u2,rfl,hp,k⟩:=h
  refine ⟨_,(pss_cons (ps_fld (pv 0) (pv 1) rfl) (pss_cons (ps_fld (pv 0) (pv 2) rfl) (pss_one (ps_fld (pv 0) (pv 3) rfl)))),?_⟩
  refine ⟨_,rfl,_,rfl,p,_,dx,_,rfl,hp,T.lCell,T.nCell_cost,(by show 0<1000;decide),?_⟩
  refine ⟨_,rfl,_,rfl,p,_,dx,_,rfl,upd_same,T.lCell,T.nCell_rule,(by repeat (first|rw [putF_nil]|rw [putF_ne (by decide+kernel)]);show 1<1000;decide),?_⟩
  refine ⟨_,rfl,_,rfl,p,_,dx,_,rfl,upd_same,T.lCell,T.nCell_ends,(by repeat (first|rw [putF_nil]|rw [putF_ne (by decide+kernel)]);show 2<1000;decide),?_⟩
  refine k _ ?_ fun b o e hb=>?_
  ·rw [upd_same,fCell_mk]
  ·rw [upd_ne hb,upd_ne hb,upd_ne hb]
   exact e
def spCallReader (A:Ad):Sp:=fun vs H Q _=>∃(p dx:Addr) (u0:V),vs= [.ref p,u0]∧H p=some (.ins A.cCallReader dx [])∧∀H':Hp,H' p=some (.ins A.cCallReader dx (fCallReader u0 (.int 0)))→(∀b o,H b=some o→b≠p→H' b=some o)→Q .non H'
theorem scCallReader:FnScope ["self","calls"] ["self","calls"] (defScope sCallReaderInit):=⟨rfl,rfl,rfl,by decide+kernel,rfl,by decide+kernel,by decide+kernel⟩
theorem okCallReader {f:Addr} {fd:FuncData} (F:Fun K "__init__" "CallReader.__init__" sCallReaderInit f fd) (T:Txt A K mg):FnOk P w K mg base CX0 1 f fd ["self","calls"] (spCallReader A):=by
 refine F.ok scCallReader (fun vs H Q E h=>?_) (fun cdv A' outer s H vs Q E hr h=>?_)
 ·obtain ⟨p,dx,u0,rfl,_⟩:=h
  rfl
 ·obtain ⟨p,dx,u0,rfl,hp,k⟩:=h
  refine ⟨_,(pss_cons (ps_fld (pv 0) (pv 1) rfl) (pss_one (ps_fld (pv 0) pe_int rfl))),?_⟩
  refine ⟨_,rfl,_,rfl,p,_,dx,_,rfl,hp,T.lCallReader,T.nCallReader_calls,(by show 0<1000;decide),?_⟩
  refine ⟨_,rfl,p,_,dx,_,rfl,upd_same,T.lCallReader,T.nCallReader_place,(by repeat (first|rw [putF_nil]|rw [putF_ne (by decide+kernel)]);show 1<1000;decide),?_⟩
  refine k _ ?_ fun b o e hb=>?_
  ·rw [upd_same,fCallReader_mk]
  ·rw [upd_ne hb,upd_ne hb]
   exact e
end
end Lr
namespace Lr
open PySem PySem.Spec PyProof.Rows L2 LX
open Vaglrl (Costs Text Cell)
def vN (n:Nat):V:=.int (n:Int)
def TupV (H:Hp) (v:V) (ws:List V):Prop:=∃q,v=.ref q∧H q=some (.tup ws)
theorem TupV.same {H H':Hp} {v:V} {ws:List V} (s:Same H H') (h:TupV H v ws):TupV H' v ws:=let ⟨q,e,h⟩:=h;⟨q,e,s _ _ h⟩
def CostsAt (A:Ad) (H:Hp) (a:Addr) (k:Costs):Prop:=∃dx,H a=some (.ins A.cCosts dx (fCosts (vN k.insert) (vN k.delete) (vN k.replace)))
theorem CostsAt.same {A:Ad} {H H':Hp} {a:Addr} {k:Costs} (s:Same H H') (h:CostsAt A H a k):CostsAt A H' a k:=let ⟨d,h⟩:=h;⟨d,s _ _ h⟩
def TextAt (H:Hp) (a:Addr) (x:Text):Prop:=H a=some (.lst (x.map vN))
theorem TextAt.same {H H':Hp} {a:Addr} {x:Text} (s:Same H H') (h:TextAt H a x):TextAt H' a x:=s _ _ h
theorem text_ix {x:Text} {j b:Nat} (h:x[j]?=some b):(x.map vN)[j]?=some (vN b):=by rw [List.getElem?_map,h];rfl
abbrev Ch:=Vm.Ch
def chV (c:Ch):List V:= [vN c.1,vN c.2.1,vN c.2.2]
def ChAt (H:Hp) (a:Addr) (l:List Ch):Prop:=∃vs,H a=some (.lst vs)∧Paired (fun v c=>TupV H v (chV c)) vs l
theorem Same.upd {H:Hp} {p:Addr} {o:HO} (h:H p=none):Same H (upd H p o):=fun b u e=>by rw [upd_ne (ne_of_none e h)];exact e
theorem ChAt.same {H H':Hp} {a:Addr} {l:List Ch} (s:Same H H') (h:ChAt H a l):ChAt H' a l:=
 let ⟨vs,e,p⟩:=h;⟨vs,s _ _ e,Paired.mapP p fun _ _ z=>z.same s⟩
def Kept (p:Addr) (H H':Hp):Prop:=∀b o,H b=some o→b≠p→H' b=some o
theorem Kept.refl (p:Addr) (H:Hp):Kept p H H:=fun _ _ e _=>e
theorem Kept.trans {p:Addr} {H H1 H2:Hp} (a:Kept p H H1) (b:Kept p H1 H2):Kept p H H2:=fun c o e n=>b c o (a c o e n) n
theorem Same.kept {p:Addr} {H H':Hp} (s:Same H H'):Kept p H H':=fun b o e _=>s b o e
theorem Kept.upd {p:Addr} {H:Hp} {o:HO}:Kept p H (upd H p o):=fun b u e n=>by rw [upd_ne n];exact e
theorem Kept.same {p:Addr} {H0 H H':Hp} (s:Same H0 H) (n:H0 p=none) (k:Kept p H H'):Same H0 H':=fun b o e=>k b o (s b o e) (ne_of_none e n)
theorem tyes {σ:L2.St} {H:Hp} {F G:Hp→Prop} (h:F H):tYes σ H fun b H3=>if b=true then F H3 else G H3:=by
 show (if true=true then F H else G H)
 rw [if_pos rfl]
 exact h
theorem iteB {b:Bool} {A B:Prop} (h1:b=true→A) (h2:b=false→B):if b=true then A else B:=by
 cases b with
 |true=>rw [if_pos rfl];exact h1 rfl
 |false=>rw [if_neg Bool.false_ne_true];exact h2 rfl
theorem iteD {c A B:Prop} [Decidable c] (h1:c→A) (h2:¬c→B):if decide c=true then A else B:=
 iteB (fun h=>h1 (of_decide_eq_true h)) fun h=>h2 (of_decide_eq_false h)
theorem tIf_val {t:TT} {ta tb:TE} {σ:L2.St} {H:Hp} {Q:VK} {v:V} (b:Bool) (ht:∀R:Bool→Hp→Prop,R b H→t σ H R) (ha:b=true→∀R:VK,R v H→ta σ H R) (hb:b=false→∀R:VK,R v H→tb σ H R) (h:Q v H):
  tIf t ta tb σ H Q:=ht _ (iteB (fun e=>ha e _ h) fun e=>hb e _ h)
theorem small12 {n:Nat} (h:n≤1000):n≤sizeLine:=Nat.le_of_lt (small1000 h)
structure Cl (P:Program) (w:World) (K:PySem.W.Frag) (mg:Str→Option Value) (base:Heap) (CX:CXT) (k:Nat) (x:Str) (f:Addr) (fd:FuncData) (ps:List Str) (sp:Sp):Prop where
 ok:FnOk P w K mg base CX k f fd ps sp
 b:Binds K fd ps []
 m:mg x=some (.ref f)
 kp:PySem.W.keepIn K (.ref f)=true
structure Mt (P:Program) (w:World) (K:PySem.W.Frag) (mg:Str→Option Value) (base:Heap) (CX:CXT) (k:Nat) (C:Addr) (x:Str) (f:Addr) (fd:FuncData) (ps:List Str) (sp:Sp):Prop where
 ok:FnOk P w K mg base CX k f fd ps sp
 b:Binds K fd ps []
 m:Meth K C x f
structure Ne (P:Program) (w:World) (K:PySem.W.Frag) (mg:Str→Option Value) (base:Heap) (CX:CXT) (k:Nat) (C:Addr) (f:Addr) (fd:FuncData) (ps:List Str) (sp:Sp):Prop where
 ok:FnOk P w K mg base CX k f fd ps sp
 b:Binds K fd ps []
 m:Mk K C f
section
variable {α:Type} {R:Hp→V→α→Prop} {D:Addr} {H:Hp} {l:List α}
def Part (R:Hp→V→α→Prop) (D:Addr) (H:Hp) (l:List α) (n:Nat) (H':Hp):Prop:=Same H H'∧∃vs,H' D=some (.lst vs)∧Paired (R H') vs (l.take n)
theorem Part.start (hD:H D=none):Part R D H l 0 (upd H D (.lst [])):=⟨Same.upd hD,[],upd_same,by simp;exact .nil⟩
theorem Part.next {n:Nat} {c:α} {H1 H4:Hp} {y:V} (mono:∀{H H':Hp} {v:V} {c:α},Kept D H H'→R H v c→R H' v c) (hD:H D=none) (hl:l.length≤1000) (p:Part R D H l n H1) (hc:l[n]?=some c) (s:Same H1 H4) (r:R H4 y c):
  ∃acc,H4 D=some (.lst acc)∧acc.length<sizeLine∧Part R D H l (n+1) (upd H4 D (.lst (acc++ [y]))):=by
 obtain ⟨s1,vs,h1,p1⟩:=p
 refine ⟨vs,s _ _ h1,small1000 ?_,fun b o e=>?_,vs++ [y],upd_same,?_⟩
 ·have:=p1.length
  rw [List.length_take] at this
  omega
 ·rw [upd_ne (ne_of_none e hD)]
  exact s _ _ (s1 _ _ e)
 ·rw [List.take_succ,hc]
  exact Paired.snoc (Paired.mapP p1 fun v c z=>mono Kept.upd (mono (Same.kept s) z)) (mono Kept.upd r)
theorem Part.done {H1:Hp} {n:Nat} (p:Part R D H l n H1) (hn:l.length≤n):Same H H1∧∃vs,H1 D=some (.lst vs)∧Paired (R H1) vs l:=by
 obtain ⟨s1,vs,h1,p1⟩:=p
 rw [List.take_of_length_le hn] at p1
 exact ⟨s1,vs,h1,p1⟩
end
def RP (rowf:Nat→List V) (D:Addr) (H:Hp) (n:Nat) (H':Hp):Prop:=Same H H'∧∃rs:List Addr,H' D=some (.lst (rs.map V.ref))∧rs.length=n∧rs.Nodup∧(∀r∈rs,H r=none∧r≠D)∧∀i r,rs[i]?=some r→H' r=some (.lst (rowf i))
theorem RP.start {rowf:Nat→List V} {D:Addr} {H:Hp} (hD:H D=none):RP rowf D H 0 (upd H D (.lst [])):=
 ⟨Same.upd hD,[],upd_same,rfl,by simp,(fun r hr=>nomatch hr),fun i r h=>by simp at h⟩
theorem RP.next {rowf:Nat→List V} {D r:Addr} {H H1 H4:Hp} {n:Nat} (hD:H D=none) (hn:n≤1000) (p:RP rowf D H n H1) (s:Same H1 H4) (hr:H1 r=none) (h4:H4 r=some (.lst (rowf n))):
  ∃acc,H4 D=some (.lst acc)∧acc.length<sizeLine∧RP rowf D H (n+1) (upd H4 D (.lst (acc++ [.ref r]))):=by
 obtain ⟨s1,rs,h1,l1,nd,fr,row⟩:=p
 have rD:r≠D:=fun e=>by rw [e,h1] at hr;cases hr
 refine ⟨rs.map V.ref,s _ _ h1,small1000 (by rw [List.length_map];omega),fun b o e=>?_,rs++ [r],by rw [upd_same,List.map_append];rfl,by simp [l1],?_,fun r' hr'=>?_,fun i r' hi=>?_⟩
 ·rw [upd_ne (ne_of_none e hD)]
  exact s _ _ (s1 _ _ e)
 ·refine nd_snoc nd fun hm=>?_
  obtain ⟨i,hi⟩:=List.mem_iff_getElem?.mp hm
  rw [row i r hi] at hr
  cases hr
 ·rcases List.mem_append.mp hr' with h|h
  ·exact fr r' h
  ·rw [List.mem_singleton.mp h]
   exact ⟨s1.free hr,rD⟩
 ·by_cases q:i<rs.length
  ·rw [List.getElem?_append_left q] at hi
   rw [upd_ne (fr r' (List.mem_of_getElem? hi)).2]
   exact s _ _ (row i r' hi)
  ·have hl:=(List.getElem?_eq_some_iff.mp hi).1
   rw [List.length_append] at hl
   have e:i=rs.length:=by have: [r].length=1:=rfl;omega
   subst e
   rw [List.getElem?_append_right (Nat.le_refl _)] at hi
   simp at hi
   subst hi
   rw [upd_ne rD,h4,l1]
def rowV (n:Nat) (f:Nat→Nat→Int) (i:Nat):List V:=(List.range (n+1 - i)).map fun d=>V.int (f i (i+d))
structure TabAt (H:Hp) (a:Addr) (rs:List Addr) (n:Nat) (f:Nat→Nat→Int):Prop where
 lst:H a=some (.lst (rs.map V.ref))
 len:rs.length=n+1
 row:∀i r,rs[i]?=some r→H r=some (.lst (rowV n f i))
theorem TabAt.same {H H':Hp} {a:Addr} {rs:List Addr} {n:Nat} {f:Nat→Nat→Int} (s:Same H H') (t:TabAt H a rs n f):TabAt H' a rs n f:=⟨s _ _ t.lst,t.len,fun i r h=>s _ _ (t.row i r h)⟩
structure NewTab (H:Hp) (a:Addr) (rs:List Addr):Prop where
 a0:H a=none
 r0:∀r∈rs,H r=none∧r≠a
 nd:rs.Nodup
theorem RP.tab {D:Addr} {H H1:Hp} {n:Nat} {f:Nat→Nat→Int} (hD:H D=none) (p:RP (rowV n f) D H (n+1) H1):Same H H1∧∃rs,TabAt H1 D rs n f∧NewTab H D rs:=by
 obtain ⟨s1,rs,h1,l1,nd,fr,row⟩:=p
 exact ⟨s1,rs,⟨h1,l1,row⟩,⟨hD,fr,nd⟩⟩
theorem paired_map {α β:Type} {f:α→V}:∀{vs:List V} {l:List α},Paired (fun v c=>v=f c) vs l→vs=l.map f
 |_,_,.nil=>rfl
 |_,_,.cons e r=>by rw [List.map_cons,←paired_map (β:=β) r,e]
end Lr
namespace Lr
open PySem PySem.Spec PyProof.Rows L2 LX
open Vaglrl (Costs Text Cell)
section
variable {P:Program} {w:World} {K:PySem.W.Frag} {mg:Str→Option Value} {base:Heap} {A:Ad}
def spRIT (A:Ad):Sp:=fun vs H Q _=>∃(c:Addr) (k:Costs),vs= [.ref c]∧CostsAt A H c k∧Q (.bl (decide (k.replace≤k.insert+k.delete))) H
theorem scRIT:FnScope ["costs"] ["costs"] (defScope sReplacingIsTold):=⟨rfl,rfl,rfl,by decide+kernel,rfl,by decide+kernel,by decide+kernel⟩
theorem okRIT {f:Addr} {fd:FuncData} (F:Fun K "replacing_is_told" "replacing_is_told" sReplacingIsTold f fd) (T:Txt A K mg):FnOk P w K mg base CX0 1 f fd ["costs"] (spRIT A):=by
 refine F.ok scRIT (fun vs H Q E h=>?_) (fun cdv A' outer s H vs Q E hr h=>?_)
 ·obtain ⟨c,k,rfl,_⟩:=h
  rfl
 ·obtain ⟨c,k,rfl,⟨dx,hc⟩,q⟩:=h
  refine ⟨_,pss_one (ps_ret (pe_cmpR op_le (pe_fld (pv 0) rfl) (pe_op op_add (pe_fld (pv 0) rfl) (pe_fld (pv 0) rfl)) (nomark _))),?_⟩
  refine ⟨_,rfl,c,_,dx,_,_,rfl,hc,T.lCosts,T.nCosts_replacing,fCosts_replacing,?_⟩
  refine ⟨_,rfl,c,_,dx,_,_,rfl,hc,T.lCosts,T.nCosts_putting,fCosts_putting,?_⟩
  refine ⟨_,rfl,c,_,dx,_,_,rfl,hc,T.lCosts,T.nCosts_leaving,fCosts_leaving,?_⟩
  refine ⟨_,_,rfl,rfl,_,_,rfl,rfl,?_⟩
  have e:decide ((k.replace:Int)≤(k.insert:Int)+(k.delete:Int))=decide (k.replace≤k.insert+k.delete):=by
   apply decide_eq_decide.mpr
   omega
  show Q (.bl (decide ((k.replace:Int)≤(k.insert:Int)+(k.delete:Int)))) H
  rw [e]
  exact q
open Vm (outs)
def spLO:Sp:=fun vs H Q _=>∃(i j:Nat),vs= [vN i,vN j]∧i≤100∧j≤100∧∀(H':Hp) (p:Addr),ChAt H' p (outs i j)→Same H H'→H p=none→Q (.ref p) H'
theorem scLO:FnScope ["i","j","place"] ["i","j"] (defScope sLeftOut):=⟨rfl,rfl,rfl,by decide+kernel,rfl,by decide+kernel,by decide+kernel⟩
theorem okLO {f:Addr} {fd:FuncData} (F:Fun K "left_out" "left_out" sLeftOut f fd) (T:Txt A K mg):FnOk P w K mg base CX0 1 f fd ["i","j"] spLO:=by
 obtain ⟨t0,hL⟩:=T.kLEFT_OUT
 refine F.ok scLO (fun vs H Q E h=>?_) (fun cdv A' outer s H vs Q E hr h=>?_)
 ·obtain ⟨i,j,rfl,_⟩:=h
  rfl
 ·obtain ⟨i,j,rfl,hi,hj,q⟩:=h
  refine ⟨_,pss_one (ps_ret (pe_lc (own:= [("place",2)]) rfl scLO.nd (pi_range2 rfl T.b_range (pa_cons (pv 0) (pa_cons (pv 1) pa_nil))) (blkOk_by (by show blkC ["i","j","place"] (defScope sLeftOut) _ _=true;decide+kernel))
   (fun s H C cl fp=>pg_name (i:=2) scLO.nd rfl (Or.inl rfl)) (fun s H C cl fp=>pts_nil)
   (fun s H C cl fp=>pe_tup (pa_cons (pe_glob (v:=.int 1) rfl hL ⟨_,rfl⟩) (pa_cons (pv 2) (pa_cons pe_int pa_nil)))))),?_⟩
  have mono:∀{D:Addr} {H H':Hp} {v:V} {c:Ch},Kept D H H'→(TupV H v (chV c)∧v≠.ref D)→TupV H' v (chV c)∧v≠.ref D:=by
   rintro D H H' v c k ⟨⟨q,rfl,h⟩,n⟩
   exact ⟨⟨q,rfl,k _ _ h fun e=>n (by rw [e])⟩,n⟩
  have hlen:(outs i j).length=j - i:=by unfold Vm.outs;simp
  refine ⟨_,rfl,_,rfl,(i:Int),(j:Int),rfl,by omega,fun D hD=>lc_range (Part (fun H v c=>TupV H v (chV c)∧v≠.ref D) D H (outs i j)) (Part.start hD) ?_ ?_⟩
  ·intro n H1 hn p
   refine ⟨rfl,tyes ?_⟩
   refine ⟨_,rfl,(by show 3≤sizeLine;decide),fun t ht=>?_⟩
   have hx:(outs i j)[n]?=some (1,i+n,0):=by
    unfold Vm.outs
    rw [List.getElem?_map,List.getElem?_range (by omega)]
    rfl
   obtain ⟨_,vs,h1,_⟩:=id p
   exact p.next mono hD (by omega) hx (Same.upd ht) ⟨⟨t,rfl,upd_same⟩,fun e=>by cases e;rw [h1] at ht;cases ht⟩
  ·intro H1 p
   obtain ⟨s1,vs,h1,p1⟩:=p.done (by rw [hlen];omega)
   exact q H1 D ⟨vs,h1,Paired.mapP p1 fun _ _ z=>z.1⟩ s1 hD
def firstV (i:Nat):Option Nat→V
 |some d=>vN (i+d)
 |none=>.non
def spFW:Sp:=fun vs H Q _=>∃(lo hi i j:Nat) (a:Addr) (x:Text),vs= [vN lo,vN hi,.ref a,vN i,vN j]∧TextAt H a x∧i≤j∧j≤x.length∧x.length≤100∧Q (firstV i (Vaglrl.firstIn lo hi (Vaglrl.piece x i j))) H
theorem scFW:FnScope ["lo","hi","letters","i","j","place"] ["lo","hi","letters","i","j"] (defScope sFirstWithin):=⟨rfl,rfl,rfl,by decide+kernel,rfl,by decide+kernel,by decide+kernel⟩
theorem piece_at {x:Text} {i j d:Nat} (h:i+d<j):(Vaglrl.piece x i j)[d]?=x[i+d]?:=by
 unfold Vaglrl.piece
 rw [List.getElem?_take_of_lt (by omega),List.getElem?_drop]
theorem first_from {lo hi:Nat} {x:Text} {d:Nat} (h:∀e,e<d→∀b,x[e]?=some b→¬(lo≤b∧b≤hi)):(∀b,x[d]?=some b→lo≤b→b≤hi→Vaglrl.firstIn lo hi x=some d)∧(x.length≤d→Vaglrl.firstIn lo hi x=none):=by
 unfold Vaglrl.firstIn
 refine ⟨fun b hb h1 h2=>?_,fun hl=>?_⟩
 ·obtain ⟨hlt,he⟩:=List.getElem?_eq_some_iff.mp hb
  refine List.findIdx?_eq_some_iff_getElem.mpr ⟨hlt,by rw [he];simp [h1,h2],fun e he'=>?_⟩
  have:=h e he' x[e] (List.getElem?_eq_getElem _)
  simp
  omega
 ·rw [List.findIdx?_eq_none_iff]
  intro b hb
  obtain ⟨e,he⟩:=List.mem_iff_getElem?.mp hb
  have:=h e (by have:=(List.getElem?_eq_some_iff.mp he).1;omega) b he
  simp
  omega
theorem okFW {f:Addr} {fd:FuncData} (F:Fun K "first_within" "first_within" sFirstWithin f fd) (T:Txt A K mg):FnOk P w K mg base CX0 1 f fd ["lo","hi","letters","i","j"] spFW:=by
 refine F.ok scFW (fun vs H Q E h=>?_) (fun cdv A' outer s H vs Q E hr h=>?_)
 ·obtain ⟨lo,hi,i,j,a,x,rfl,_⟩:=h
  rfl
 ·obtain ⟨lo,hi,i,j,a,x,rfl,hx,hij,hj,hl,q⟩:=h
  refine ⟨_,pss_cons (ps_for PassesOwn.never rfl (pi_range2 rfl T.b_range (pa_cons (pv 3) (pa_cons (pv 4) pa_nil))) (pg_name (i:=5) scFW.nd rfl (Or.inl rfl))
   (pss_one (ps_if (pt_chain op_le op_le (pv 0) (pe_ix ix_list (pv 2) (pv 5) (fun _ _=>rfl)) (pv 1)) (pss_one (ps_ret (pv 5))) pss_nil)))
   (pss_one (ps_ret pe_non)),?_⟩
  refine ⟨_,rfl,_,rfl,(i:Int),(j:Int),rfl,by omega,for_range (fun n σ H'=>H'=H∧(∃v,σ= [some (vN lo),some (vN hi),some (.ref a),some (vN i),some (vN j),v])∧n≤j - i∧∀e,e<n→∀b,(Vaglrl.piece x i j)[e]?=some b→¬(lo≤b∧b≤hi)) ?_ ?_ ?_⟩
  ·exact ⟨rfl,⟨none,rfl⟩,Nat.zero_le _,fun e he=>absurd he (by omega)⟩
  ·rintro n σ H' hn ⟨rfl,⟨v,rfl⟩,hn',no⟩
   have hlt:i+n<x.length:=by omega
   obtain ⟨b,hb⟩:∃b,x[i+n]?=some b:=⟨_,List.getElem?_eq_getElem hlt⟩
   have hp:(Vaglrl.piece x i j)[n]?=some b:=by rw [piece_at (by omega)];exact hb
   refine ⟨_,rfl,_,rfl,_,rfl,a,_,_,_,rfl,rfl,SqL.of hx,at_of (j:=i+n) (by omega) (text_ix hb),?_⟩
   refine ⟨_,_,rfl,rfl,_,rfl,?_⟩
   have fin:=first_from no
   have nxt:¬(lo≤b∧b≤hi)→∀e,e<n+1→∀b',(Vaglrl.piece x i j)[e]?=some b'→¬(lo≤b'∧b'≤hi):=fun nb e he b' hb'=>by
    by_cases q':e=n
    ·subst q'
     rw [hp] at hb'
     cases hb'
     exact nb
    ·exact no e (by omega) b' hb'
   refine iteD (fun h1=>?_) (fun h1=>?_)
   ·refine ⟨_,rfl,_,_,rfl,rfl,_,rfl,iteD (fun h2=>?_) (fun h2=>?_)⟩
    ·refine ⟨_,rfl,?_⟩
     rw [fin.1 b hp (by omega) (by omega)] at q
     have e:V.int ((i:Int)+n)=firstV i (some n):=by show V.int _=V.int _;congr 1
     rw [e]
     exact q
    ·exact ⟨rfl,⟨_,rfl⟩,by omega,nxt (by omega)⟩
   ·refine ⟨_,rfl,iteF ?_⟩
    exact ⟨rfl,⟨_,rfl⟩,by omega,nxt (by omega)⟩
  ·rintro σ H' ⟨rfl,_,_,no⟩
   rw [(first_from no).2 (by rw [Vm.piece_len hj];omega)] at q
   exact q
end
end Lr
namespace Lr
open PySem PySem.Spec PyProof.Rows L2 LX
open Vaglrl (Costs Text Cell)
section
variable {P:Program} {w:World} {K:PySem.W.Frag} {mg:Str→Option Value} {base:Heap} {A:Ad}
def ins0 (k:Costs):Nat:=if k.replace≤k.insert+k.delete then k.replace else k.insert+k.delete
theorem piece_snoc {x:Text} {i n b:Nat} (h:x[i+n]?=some b):Vaglrl.piece x i (i+n+1)=Vaglrl.piece x i (i+n)++ [b]:=by
 unfold Vaglrl.piece
 have e1:i+n+1 - i=n+1:=by omega
 have e2:i+n - i=n:=by omega
 rw [e1,e2,List.take_succ,List.getElem?_drop,h]
 rfl
theorem rc_succ {k:Costs} {lo hi i n b:Nat} {x:Text} (h:x[i+n]?=some b):
  Vm.rc k lo hi (Vaglrl.piece x i (i+n+1))=(if Vm.hit lo hi (Vaglrl.piece x i (i+n+1)) then 0 else ins0 k)+n * k.delete:=by
 have hl:=Vm.piece_len (x:=x) (i:=i) (j:=i+n+1) (by have:=(List.getElem?_eq_some_iff.mp h).1;omega)
 cases e:Vaglrl.piece x i (i+n+1) with
 |nil=>
  rw [e] at hl
  have hl:0=i+n+1 - i:=hl
  omega
 |cons c r=>
  rw [e] at hl
  have hl:r.length+1=i+n+1 - i:=hl
  have en:r.length=n:=by omega
  subst en
  rfl
theorem hit_snoc {lo hi b:Nat} {x:Text}:Vm.hit lo hi (x++ [b])=(Vm.hit lo hi x||(decide (lo≤b)&&decide (b≤hi))):=by
 unfold Vm.hit
 rw [List.any_append]
 simp
def rcRow (k:Costs) (lo hi:Nat) (x:Text) (i:Nat):List V:=(List.range (x.length+1 - i)).map fun d=>vN (Vm.rc k lo hi (Vaglrl.piece x i (i+d)))
def spRCF (A:Ad):Sp:=fun vs H Q _=>∃(lo hi i:Nat) (a c:Addr) (x:Text) (k:Costs),vs= [vN lo,vN hi,.ref a,vN i,.ref c]∧TextAt H a x∧CostsAt A H c k∧Vm.CostsOk k∧i≤x.length∧x.length≤100∧
 ∀(H':Hp) (p:Addr),H' p=some (.lst (rcRow k lo hi x i))→Same H H'→H p=none→Q (.ref p) H'
theorem scRCF:FnScope ["lo","hi","letters","i","costs","instead","row","place"] ["lo","hi","letters","i","costs"] (defScope sRangeCostsFrom):=⟨rfl,rfl,rfl,by decide+kernel,rfl,by decide+kernel,by decide+kernel⟩
theorem okRCF {f fR:Addr} {fd fdR:FuncData} (F:Fun K "range_costs_from" "range_costs_from" sRangeCostsFrom f fd) (T:Txt A K mg) (R:Cl P w K mg base CX0 1 "replacing_is_told" fR fdR ["costs"] (spRIT A)):
  FnOk P w K mg base CX0 2 f fd ["lo","hi","letters","i","costs"] (spRCF A):=by
 refine F.ok scRCF (fun vs H Q E h=>?_) (fun cdv A' outer s H vs Q E hr h=>?_)
 ·obtain ⟨lo,hi,i,a,c,x,k,rfl,_⟩:=h
  rfl
 ·obtain ⟨lo,hi,i,a,c,x,k,rfl,hx,⟨dx,hc⟩,ok,hi',hl,q⟩:=h
  refine ⟨_,pss_cons (ps_set (i:=5) scRCF.nd rfl (Or.inl rfl) (pe_ifExp (pt_val (pe_call R.ok hr rfl R.m R.kp R.b .nil pass0 (pa_cons (pv 4) pa_nil))) (pe_fld (pv 4) rfl) (pe_op op_add (pe_fld (pv 4) rfl) (pe_fld (pv 4) rfl))))
   (pss_cons (ps_set (i:=6) scRCF.nd rfl (Or.inl rfl) (pe_lst (pa_cons (pe_fld (pv 4) rfl) pa_nil)))
   (pss_cons (ps_for PassesOwn.never rfl (pi_range2 rfl T.b_range (pa_cons (pv 3) (pa_cons (pe_callB call_len_seq (by rfl) T.b_len PySem.boot_len (pa_cons (pv 2) pa_nil)) pa_nil))) (pg_name (i:=7) scRCF.nd rfl (Or.inl rfl))
    (pss_cons (ps_if (pt_chain op_le op_le (pv 0) (pe_ix ix_list (pv 2) (pv 7) (fun _ _=>rfl)) (pv 1)) (pss_one (ps_set (i:=5) scRCF.nd rfl (Or.inl rfl) pe_int)) pss_nil)
    (pss_one (ps_expr (pe_bm PySem.F.plainAttrs_list PySem.F.slot_list_append PySem.F.type_list_append mt_append (pv 6) (pa_cons (pe_op op_add (pv 5) (pe_op op_mul (pe_fld (pv 4) rfl) (pe_op op_sub (pv 7) (pv 3)))) pa_nil))))))
   (pss_one (ps_ret (pv 6))))),?_⟩
  refine tIf_val (v:=vN (ins0 k)) (decide (k.replace≤k.insert+k.delete)) (fun R hR=>⟨_,rfl,c,k,rfl,⟨dx,hc⟩,_,rfl,hR⟩) (fun h1 R hR=>?_) (fun h1 R hR=>?_) ?_
  ·have h1:=of_decide_eq_true h1
   have e:vN k.replace=vN (ins0 k):=by unfold ins0;rw [if_pos h1]
   rw [←e] at hR
   exact ⟨_,rfl,c,_,dx,_,_,rfl,hc,T.lCosts,T.nCosts_replacing,fCosts_replacing,hR⟩
  ·have h1:=of_decide_eq_false h1
   have e:V.int ((k.insert:Int)+(k.delete:Int))=vN (ins0 k):=by unfold ins0 vN;rw [if_neg h1];congr 1
   rw [←e] at hR
   exact ⟨_,rfl,c,_,dx,_,_,rfl,hc,T.lCosts,T.nCosts_putting,fCosts_putting,_,rfl,c,_,dx,_,_,rfl,hc,T.lCosts,T.nCosts_leaving,fCosts_leaving,_,_,rfl,rfl,hR⟩
  refine ⟨_,rfl,c,_,dx,_,_,rfl,hc,T.lCosts,T.nCosts_putting,fCosts_putting,(by show 1≤sizeLine;decide),fun p hp=>?_⟩
  have s1:Same H (upd H p (.lst [vN k.insert])):=Same.upd hp
  generalize hH1:upd H p (.lst [vN k.insert])=H1 at s1
  have h1:H1 p=some (.lst [vN k.insert]):=by rw [←hH1];exact upd_same
  refine ⟨_,rfl,_,rfl,a,_,rfl,.inl (SqL.of (s1 _ _ hx)),(i:Int),(x.length:Int),by rw [List.length_map];rfl,by omega,for_range (fun n σ H'=>Same H H'∧n≤x.length - i∧H' p=some (.lst ((List.range (n+1)).map fun d=>vN (Vm.rc k lo hi (Vaglrl.piece x i (i+d)))))∧
   ∃v,σ= [some (vN lo),some (vN hi),some (.ref a),some (vN i),some (.ref c),some (vN (if Vm.hit lo hi (Vaglrl.piece x i (i+n)) then 0 else ins0 k)),some (.ref p),v]) ?_ ?_ ?_⟩
  ·refine ⟨s1,Nat.zero_le _,?_,none,?_⟩
   ·rw [h1]
    have e:Vaglrl.piece x i (i+0)= []:=by unfold Vaglrl.piece;simp
    show some (HO.lst [vN k.insert])=some (HO.lst [vN (Vm.rc k lo hi (Vaglrl.piece x i (i+0)))])
    rw [e]
    rfl
   ·have e:Vaglrl.piece x i (i+0)= []:=by unfold Vaglrl.piece;simp
    rw [e]
    rfl
  ·rintro n σ H' hn ⟨s2,hn',h2,v,rfl⟩
   have hlt:i+n<x.length:=by omega
   obtain ⟨b,hb⟩:∃b,x[i+n]?=some b:=⟨_,List.getElem?_eq_getElem hlt⟩
   have hc2:=s2 _ _ hc
   have hx2:H' a=some (.lst (x.map vN)):=s2 _ _ hx
   have hs:=hit_snoc (lo:=lo) (hi:=hi) (b:=b) (x:=Vaglrl.piece x i (i+n))
   rw [←piece_snoc hb] at hs
   have fin:∀(u:Nat),u=(if Vm.hit lo hi (Vaglrl.piece x i (i+n+1)) then 0 else ins0 k)→
     (tDrop (tBM K "list" rAppend (tVar 6) (tCons (tOp (rI0 fun i j=>V.int (i+j)) (tVar 5) (tOp (rI CMul fun i j=>V.int (i * j)) (tFld K (tVar 4) (Str.ofString "leaving")) (tOp (rI0 fun i j=>V.int (i - j)) (tVar 7) (tVar 3)))) tNil)))
      {nx:=fun σ H'=>Same H H'∧n+1≤x.length - i∧H' p=some (.lst ((List.range (n+1+1)).map fun d=>vN (Vm.rc k lo hi (Vaglrl.piece x i (i+d)))))∧
       ∃v,σ= [some (vN lo),some (vN hi),some (.ref a),some (vN i),some (.ref c),some (vN (if Vm.hit lo hi (Vaglrl.piece x i (i+(n+1))) then 0 else ins0 k)),some (.ref p),v],rt:=Q}
      [some (vN lo),some (vN hi),some (.ref a),some (vN i),some (.ref c),some (vN u),some (.ref p),some (.int ((i:Int)+n))] H':=by
    intro u hu
    refine ⟨_,rfl,.inl ⟨rfl,_,SqL.of h2⟩,_,rfl,_,rfl,c,_,dx,_,_,rfl,hc2,T.lCosts,T.nCosts_leaving,fCosts_leaving,_,rfl,_,rfl,_,_,rfl,rfl,_,_,rfl,rfl,.inl ?_,_,_,rfl,rfl,p,_,_,rfl,rfl,h2,?_,?_⟩
    ·have:=ok.d9
     omega
    ·rw [List.length_map,List.length_range]
     exact small1000 (by omega)
    ·refine ⟨fun b' o e=>?_,by omega,?_,_,by rw [hu];rfl⟩
     ·rw [upd_ne (ne_of_none e hp)]
      exact s2 _ _ e
     ·have e0:List.range (n+1+1)=List.range (n+1)++ [n+1]:=List.range_succ
      rw [upd_same,e0,List.map_append,List.map_cons,List.map_nil]
      have e:=rc_succ (k:=k) (lo:=lo) (hi:=hi) hb
      rw [show i+(n+1)=i+n+1 by omega,e,←hu]
      have e2:((i:Int)+n - i)=n:=by omega
      have e3:(V.int ((u:Int)+(k.delete:Int) * ((i:Int)+n - i)))=vN (u+n * k.delete):=by
       unfold vN
       rw [e2]
       congr 1
       rw [Int.natCast_add,Int.natCast_mul,Int.mul_comm]
      show some (HO.lst (_++ [V.int ((u:Int)+(k.delete:Int) * ((i:Int)+n - i))]))=_
      rw [e3]
   refine ⟨_,rfl,_,rfl,_,rfl,a,_,_,_,rfl,rfl,SqL.of hx2,at_of (j:=i+n) (by omega) (text_ix hb),?_⟩
   refine ⟨_,_,rfl,rfl,_,rfl,?_⟩
   refine iteD (fun h3=>?_) (fun h3=>?_)
   ·refine ⟨_,rfl,_,_,rfl,rfl,_,rfl,iteD (fun h4=>?_) (fun h4=>?_)⟩
    ·refine fin 0 ?_
     rw [hs,show decide (lo≤b)=true from decide_eq_true (by omega),show decide (b≤hi)=true from decide_eq_true (by omega)]
     simp
    ·refine fin _ ?_
     rw [hs,show decide (b≤hi)=false from decide_eq_false (by omega)]
     simp
   ·refine ⟨_,rfl,iteF ?_⟩
    refine fin _ ?_
    rw [hs,show decide (lo≤b)=false from decide_eq_false (by omega)]
    simp
  ·rintro σ H' ⟨s2,_,h2,v,rfl⟩
   refine ⟨_,rfl,q H' p ?_ s2 hp⟩
   rw [h2]
   unfold rcRow
   have e:((x.length:Int) - i).toNat+1=x.length+1 - i:=by omega
   rw [e]
end
end Lr
namespace Lr
open PySem PySem.Spec PyProof.Rows L2 LX
open Vaglrl (Costs Text Cell)
section
variable {P:Program} {w:World} {K:PySem.W.Frag} {mg:Str→Option Value} {base:Heap} {A:Ad}
def rcF (k:Costs) (lo hi:Nat) (x:Text) (i j:Nat):Int:=(Vm.rc k lo hi (Vaglrl.piece x i j):Int)
def spRT (A:Ad):Sp:=fun vs H Q _=>∃(lo hi:Nat) (a c:Addr) (x:Text) (k:Costs),vs= [vN lo,vN hi,.ref a,.ref c]∧TextAt H a x∧CostsAt A H c k∧Vm.CostsOk k∧x.length≤100∧
 ∀(H':Hp) (p:Addr) (rs:List Addr),TabAt H' p rs x.length (rcF k lo hi x)→NewTab H p rs→Same H H'→Q (.ref p) H'
theorem scRT:FnScope ["lo","hi","letters","costs","i"] ["lo","hi","letters","costs"] (defScope sRangeTable):=⟨rfl,rfl,rfl,by decide+kernel,rfl,by decide+kernel,by decide+kernel⟩
theorem okRT {f fR:Addr} {fd fdR:FuncData} (F:Fun K "range_table" "range_table" sRangeTable f fd) (T:Txt A K mg) (R:Cl P w K mg base CX0 2 "range_costs_from" fR fdR ["lo","hi","letters","i","costs"] (spRCF A)):
  FnOk P w K mg base CX0 3 f fd ["lo","hi","letters","costs"] (spRT A):=by
 refine F.ok scRT (fun vs H Q E h=>?_) (fun cdv A' outer s H vs Q E hr h=>?_)
 ·obtain ⟨lo,hi,a,c,x,k,rfl,_⟩:=h
  rfl
 ·obtain ⟨lo,hi,a,c,x,k,rfl,hx,hc,ok,hl,q⟩:=h
  refine ⟨_,pss_one (ps_ret (pe_lc (own:= [("i",4)]) rfl scRT.nd (pi_range1 rfl T.b_range (pa_cons (pe_op op_add (pe_callB call_len_seq (by rfl) T.b_len PySem.boot_len (pa_cons (pv 2) pa_nil)) pe_int) pa_nil))
   (blkOk_by (by show blkC ["lo","hi","letters","costs","i"] (defScope sRangeTable) _ _=true;decide+kernel))
   (fun s H C cl fp=>pg_name (i:=4) scRT.nd rfl (Or.inl rfl)) (fun s H C cl fp=>pts_nil)
   (fun s H C cl fp=>pe_call R.ok hr rfl R.m R.kp R.b .nil pass0 (pa_cons (pv 0) (pa_cons (pv 1) (pa_cons (pv 2) (pa_cons (pv 4) (pa_cons (pv 3) pa_nil)))))))),?_⟩
  refine ⟨_,rfl,a,_,rfl,.inl (SqL.of hx),_,_,rfl,rfl,(x.length:Int)+1,by rw [List.length_map],by omega,by omega,fun D hD=>lc_range (RP (rowV x.length (rcF k lo hi x)) D H) (RP.start hD) ?_ ?_⟩
  ·intro n H1 hn p
   refine ⟨rfl,tyes ?_⟩
   have s1:=p.1
   refine ⟨_,rfl,_,rfl,_,rfl,_,rfl,_,rfl,lo,hi,n,a,c,x,k,by simp [vN],hx.same s1,hc.same s1,ok,by omega,hl,fun H4 r h4 s4 hr=>?_⟩
   exact p.next hD (by omega) s4 hr h4
  ·intro H1 p
   have e:((x.length:Int)+1).toNat=x.length+1:=by omega
   rw [e] at p
   obtain ⟨s1,rs,t1,n1⟩:=p.tab hD
   exact q H1 D rs t1 n1 s1
end
end Lr
namespace Lr
open PySem PySem.Spec PyProof.Rows L2 LX
open Vaglrl (Costs Text Cell)
section
variable {P:Program} {w:World} {K:PySem.W.Frag} {mg:Str→Option Value} {base:Heap} {A:Ad}
theorem Paired.app {α β:Type} {F:α→β→Prop}:∀{l1 m1:List α} {l2 m2:List β},Paired F l1 l2→Paired F m1 m2→Paired F (l1++m1) (l2++m2)
 |_,_,_,_,.nil,q=>q
 |_,_,_,_,.cons r t,q=>.cons r (Paired.app t q)
theorem cat_ok {H H0:Hp} {a b:Addr} {l m:List Ch} {Q:VK} (ha:ChAt H a l) (hb:ChAt H b m) (hl:l.length+m.length≤1000)
  (k:∀(H':Hp) (p:Addr),ChAt H' p (l++m)→Same H H'→H p=none→Q (.ref p) H'):rCat (.ref a) (.ref b) H Q:=by
 obtain ⟨vs,h1,p1⟩:=ha
 obtain ⟨us,h2,p2⟩:=hb
 refine ⟨a,b,vs,us,rfl,rfl,h1,h2,?_,fun p hp=>?_⟩
 ·rw [p1.length,p2.length]
  exact small12 hl
 ·have s:=Same.upd (o:=.lst (vs++us)) hp
  exact k _ p ⟨_,upd_same,Paired.mapP (Paired.app p1 p2) fun _ _ z=>z.same s⟩ s hp
theorem one_ch {H:Hp} {t b:Addr} {ws:List V} {c:Ch} (e:ws=chV c) (ht:H t=none) (hb:upd H t (.tup ws) b=none):
  ChAt (upd (upd H t (.tup ws)) b (.lst [.ref t])) b [c]∧Same H (upd (upd H t (.tup ws)) b (.lst [.ref t])):=by
 subst e
 have s2:=Same.upd (o:=.tup (chV c)) ht
 have s3:=Same.upd (o:=.lst [V.ref t]) hb
 exact ⟨⟨_,upd_same,.cons ⟨t,rfl,s3 _ _ upd_same⟩ .nil⟩,s2.trans s3⟩
def spRC (A:Ad):Sp:=fun vs H Q _=>∃(lo hi i j:Nat) (a c:Addr) (x:Text) (k:Costs),vs= [vN lo,vN hi,.ref a,vN i,vN j,.ref c]∧TextAt H a x∧CostsAt A H c k∧i≤j∧j≤x.length∧x.length≤90∧
 ∀(H':Hp) (p:Addr),ChAt H' p (Vm.ann x i (Vaglrl.rangeChanges k lo hi (Vaglrl.piece x i j)))→Same H H'→H p=none→Q (.ref p) H'
theorem scRC:FnScope ["lo","hi","letters","i","j","costs","kept"] ["lo","hi","letters","i","j","costs"] (defScope sRangeChanges):=⟨rfl,rfl,rfl,by decide+kernel,rfl,by decide+kernel,by decide+kernel⟩
theorem outs_len (i j:Nat):(Vm.outs i j).length=j - i:=by unfold Vm.outs;simp
theorem okRC {f fW fL fR:Addr} {fd fdW fdL fdR:FuncData} (F:Fun K "range_changes" "range_changes" sRangeChanges f fd) (T:Txt A K mg)
  (W:Cl P w K mg base CX0 1 "first_within" fW fdW ["lo","hi","letters","i","j"] spFW) (L:Cl P w K mg base CX0 1 "left_out" fL fdL ["i","j"] spLO)
  (R:Cl P w K mg base CX0 1 "replacing_is_told" fR fdR ["costs"] (spRIT A)):
  FnOk P w K mg base CX0 2 f fd ["lo","hi","letters","i","j","costs"] (spRC A):=by
 obtain ⟨t0,kK⟩:=T.kKEPT
 obtain ⟨t1,kR⟩:=T.kREPLACED
 obtain ⟨t2,kP⟩:=T.kPUT_IN
 refine F.ok scRC (fun vs H Q E h=>?_) (fun cdv A' outer s H vs Q E hr h=>?_)
 ·obtain ⟨lo,hi,i,j,a,c,x,k,rfl,_⟩:=h
  rfl
 ·obtain ⟨lo,hi,i,j,a,c,x,k,rfl,hx,hc,hij,hj,hl,q⟩:=h
  refine ⟨_,pss_cons (ps_set (i:=6) scRC.nd rfl (Or.inl rfl) (pe_call W.ok hr rfl W.m W.kp W.b .nil pass0 (pa_cons (pv 0) (pa_cons (pv 1) (pa_cons (pv 2) (pa_cons (pv 3) (pa_cons (pv 4) pa_nil)))))))
   (pss_cons (ps_if (pt_cmpR op_notN (pv 6) pe_non (nomark _))
    (pss_one (ps_ret (pe_op op_cat (pe_op op_cat (pe_call L.ok hr rfl L.m L.kp L.b .nil pass0 (pa_cons (pv 3) (pa_cons (pv 6) pa_nil)))
     (pe_lst (pa_cons (pe_tup (pa_cons (pe_glob (v:=.int 0) rfl kK ⟨_,rfl⟩) (pa_cons (pv 6) (pa_cons (pe_ix ix_list (pv 2) (pv 6) (fun _ _=>rfl)) pa_nil)))) pa_nil)))
     (pe_call L.ok hr rfl L.m L.kp L.b .nil pass0 (pa_cons (pe_op op_add (pv 6) pe_int) (pa_cons (pv 4) pa_nil)))))) pss_nil)
   (pss_cons (ps_if (PW.pt (pw_and (pt_cmpR op_lt (pv 3) (pv 4) (nomark _)) (pw_and1 (pt_val (pe_call R.ok hr rfl R.m R.kp R.b .nil pass0 (pa_cons (pv 5) pa_nil))))))
    (pss_one (ps_ret (pe_op op_cat (pe_lst (pa_cons (pe_tup (pa_cons (pe_glob (v:=.int 3) rfl kR ⟨_,rfl⟩) (pa_cons (pv 3) (pa_cons (pv 0) pa_nil)))) pa_nil))
     (pe_call L.ok hr rfl L.m L.kp L.b .nil pass0 (pa_cons (pe_op op_add (pv 3) pe_int) (pa_cons (pv 4) pa_nil)))))) pss_nil)
   (pss_one (ps_ret (pe_op op_cat (pe_lst (pa_cons (pe_tup (pa_cons (pe_glob (v:=.int 2) rfl kP ⟨_,rfl⟩) (pa_cons (pv 3) (pa_cons (pv 0) pa_nil)))) pa_nil))
    (pe_call L.ok hr rfl L.m L.kp L.b .nil pass0 (pa_cons (pv 3) (pa_cons (pv 4) pa_nil)))))))),?_⟩
  refine ⟨_,rfl,_,rfl,_,rfl,_,rfl,_,rfl,lo,hi,i,j,a,x,rfl,hx,hij,hj,by omega,?_⟩
  have hpl:=Vm.piece_len (x:=x) (i:=i) hj
  have two:∀(c0:Ch) (i2 j2:Nat) (H1:Hp) (b:Addr),i2≤100→j2≤100→Same H H1→ChAt H1 b [c0]→Vm.ann x i (Vaglrl.rangeChanges k lo hi (Vaglrl.piece x i j))=c0::Vm.outs i2 j2→
    spLO [vN i2,vN j2] H1 (fun y H2=>rCat (.ref b) y H2 Q) E0:=by
   intro c0 i2 j2 H1 b h1 h2 s1 hb e
   refine ⟨i2,j2,rfl,h1,h2,fun H2 b2 hb2 s2 _=>cat_ok (H0:=H) (hb.same s2) hb2 ?_ fun H3 p hp s3 np=>?_⟩
   ·rw [outs_len]
    show 1+(j2 - i2)≤1000
    omega
   ·refine q H3 p (by rw [e];exact hp) ((s1.trans s2).trans s3) ((s1.trans s2).free np)
  cases e:Vaglrl.firstIn lo hi (Vaglrl.piece x i j) with
  |some d=>
   have hd:=Vm.first_lt e
   rw [hpl] at hd
   have hlt:i+d<x.length:=by omega
   obtain ⟨b,hb⟩:∃b,x[i+d]?=some b:=⟨_,List.getElem?_eq_getElem hlt⟩
   refine ⟨_,rfl,rfl,_,rfl,iteT ?_⟩
   refine ⟨_,rfl,_,rfl,i,i+d,rfl,by omega,by omega,fun H1 b1 hb1 s1 n1=>?_⟩
   refine ⟨_,rfl,_,rfl,_,rfl,a,_,_,_,rfl,rfl,SqL.of (hx.same s1),at_of (j:=i+d) rfl (text_ix hb),(by show 3≤sizeLine;decide),fun tt ht=>?_⟩
   refine ⟨(by show 1≤sizeLine;decide),fun b2 hb2=>?_⟩
   obtain ⟨hb3,s2⟩:=one_ch (c:=(0,i+d,b)) rfl ht hb2
   refine cat_ok (H0:=H) (hb1.same s2) hb3 (by rw [outs_len];show i+d - i+1≤1000;omega) fun H3 b4 hb4 s3 n4=>?_
   refine ⟨_,rfl,_,_,rfl,rfl,_,rfl,i+d+1,j,by simp [vN],by omega,by omega,fun H4 b5 hb5 s4 n5=>?_⟩
   refine cat_ok (H0:=H) (hb4.same s4) hb5 (by rw [List.length_append,outs_len,outs_len];show i+d - i+1+(j - (i+d+1))≤1000;omega) fun H5 p hp s5 np=>?_
   have all:Same H H4:=((s1.trans s2).trans s3).trans s4
   refine q H5 p ?_ (all.trans s5) (all.free np)
   rw [Vm.rch_some e,Vm.ann_append,Vm.ann_deletes,Vm.eats_deletes]
   show ChAt H5 p (_++(0,i+d,x.getD (i+d) 0)::Vm.ann x (i+d+1) _)
   rw [Vm.ann_deletes,hpl]
   have e1:x.getD (i+d) 0=b:=by rw [List.getD_eq_getElem?_getD,hb];rfl
   have e2:i+d+1+(j - i - d - 1)=j:=by omega
   rw [e1,e2]
   rw [List.append_assoc] at hp
   exact hp
  |none=>
   refine ⟨_,rfl,rfl,_,rfl,iteF ?_⟩
   have en:=Vm.rch_none (k:=k) e
   have nil_iff:Vaglrl.piece x i j≠ []↔i<j:=by
    rw [←List.length_pos_iff,hpl]
    omega
   have put:¬(i<j∧k.replace≤k.insert+k.delete)→Vm.ann x i (Vaglrl.rangeChanges k lo hi (Vaglrl.piece x i j))=(2,i,lo)::Vm.outs i j:=fun z=>by
    rw [en,if_neg (fun y=>z ⟨nil_iff.mp y.1,y.2⟩),hpl]
    show (2,i,lo)::Vm.ann x i _=_
    rw [Vm.ann_deletes,show i+(j - i)=j by omega]
   have rep:i<j→k.replace≤k.insert+k.delete→Vm.ann x i (Vaglrl.rangeChanges k lo hi (Vaglrl.piece x i j))=(3,i,lo)::Vm.outs (i+1) j:=fun y z=>by
    rw [en,if_pos ⟨nil_iff.mpr y,z⟩,hpl]
    show (3,i,lo)::Vm.ann x (i+1) _=_
    rw [Vm.ann_deletes,show i+1+(j - i - 1)=j by omega]
   refine ⟨_,rfl,_,rfl,_,_,rfl,rfl,_,rfl,?_⟩
   refine iteD (fun h1=>?_) (fun h1=>?_)
   ·refine ⟨_,rfl,c,k,rfl,hc,_,rfl,?_⟩
    refine iteD (fun h2=>?_) (fun h2=>?_)
    ·refine ⟨_,rfl,_,rfl,(by show 3≤sizeLine;decide),fun tt ht=>⟨(by show 1≤sizeLine;decide),fun b2 hb2=>?_⟩⟩
     obtain ⟨hb3,s2⟩:=one_ch (c:=(3,i,lo)) rfl ht hb2
     refine ⟨_,rfl,_,_,rfl,rfl,_,rfl,?_⟩
     have:=two (3,i,lo) (i+1) j _ b2 (by omega) (by omega) s2 hb3 (rep (by omega) h2)
     exact this
    ·refine ⟨_,rfl,_,rfl,(by show 3≤sizeLine;decide),fun tt ht=>⟨(by show 1≤sizeLine;decide),fun b2 hb2=>?_⟩⟩
     obtain ⟨hb3,s2⟩:=one_ch (c:=(2,i,lo)) rfl ht hb2
     refine ⟨_,rfl,_,rfl,?_⟩
     exact two (2,i,lo) i j _ b2 (by omega) (by omega) s2 hb3 (put fun z=>h2 z.2)
   ·refine iteF ?_
    refine ⟨_,rfl,_,rfl,(by show 3≤sizeLine;decide),fun tt ht=>⟨(by show 1≤sizeLine;decide),fun b2 hb2=>?_⟩⟩
    obtain ⟨hb3,s2⟩:=one_ch (c:=(2,i,lo)) rfl ht hb2
    refine ⟨_,rfl,_,rfl,?_⟩
    exact two (2,i,lo) i j _ b2 (by omega) (by omega) s2 hb3 (put fun z=>h1 (by omega))
end
end Lr
namespace Lr
open PySem PySem.Spec PyProof.Rows L2 LX
theorem for_enum {K:PySem.W.Frag} {a:Addr} {xs:List V} {g:TG} {tb:TS} {D:Ends} {σ:L2.St} {H:Hp} (Pv:Nat→L2.St→Hp→Prop) (h0:Pv 0 σ H) (hl:∀i σ H,i≤xs.length→Pv i σ H→SqL K H a xs)
  (hs:∀i x σ H T,xs[i]?=some x→Pv i σ H→H T=none→g (.ref T) σ (upd H T (.tup [vN i,x])) fun σ2 H2=>tb {D with nx:=Pv (i+1),ct:=Pv (i+1),bk:=D.nx} σ2 H2) (hd:∀σ H,Pv xs.length σ H→D.nx σ H):
  ∃W:Nat→Nat→L2.St→Hp→Prop,(∃m,W 0 m σ H)∧∀i m σ H,W i m σ H→
   ((Ite K a).stop i H∧D.nx σ H)∨((Ite K a).go i H∧∃N:L2.St→Hp→Prop,(∀σ' H',N σ' H'→∃m',m'<m∧W (i+1) m' σ' H')∧∀x H',(Ite K a).yld i H x H'→g x σ H' fun σ2 H2=>tb {D with nx:=N,ct:=N,bk:=D.nx} σ2 H2):=by
 refine ⟨fun i m σ H=>m=xs.length - i∧i≤xs.length∧Pv i σ H,⟨xs.length,by simp,Nat.zero_le _,h0⟩,?_⟩
 rintro i m σ H ⟨rfl,hi,p⟩
 have q:=hl i σ H hi p
 by_cases hlt:i<xs.length
 ·refine .inr ⟨⟨xs,xs[i],q,by simp [hlt]⟩,Pv (i+1),fun σ' H' p'=>⟨xs.length - (i+1),by omega,rfl,hlt,p'⟩,fun v H' y=>?_⟩
  obtain ⟨T,x,rfl,hT,rfl,hx⟩:=y
  exact hs i x σ H T (hx xs q) p hT
 ·have e:i=xs.length:=by omega
  subst e
  exact .inl ⟨⟨xs,q,Nat.le_refl _⟩,hd σ H p⟩
theorem for_rev {K:PySem.W.Frag} {a:Addr} {xs:List V} {g:TG} {tb:TS} {D:Ends} {σ:L2.St} {H:Hp} (Pv:Nat→L2.St→Hp→Prop) (h0:Pv 0 σ H) (hl:∀i σ H,i≤xs.length→Pv i σ H→SqL K H a xs)
  (hs:∀i x σ H,i<xs.length→xs[xs.length - 1 - i]?=some x→Pv i σ H→g x σ H fun σ2 H2=>tb {D with nx:=Pv (i+1),ct:=Pv (i+1),bk:=D.nx} σ2 H2) (hd:∀σ H,Pv xs.length σ H→D.nx σ H):
  ∃W:Nat→Nat→L2.St→Hp→Prop,(∃m,W 0 m σ H)∧∀i m σ H,W i m σ H→
   ((Itv K a xs.length).stop i H∧D.nx σ H)∨((Itv K a xs.length).go i H∧∃N:L2.St→Hp→Prop,(∀σ' H',N σ' H'→∃m',m'<m∧W (i+1) m' σ' H')∧∀x H',(Itv K a xs.length).yld i H x H'→g x σ H' fun σ2 H2=>tb {D with nx:=N,ct:=N,bk:=D.nx} σ2 H2):=by
 refine ⟨fun i m σ H=>m=xs.length - i∧i≤xs.length∧Pv i σ H,⟨xs.length,by simp,Nat.zero_le _,h0⟩,?_⟩
 rintro i m σ H ⟨rfl,hi,p⟩
 have q:=hl i σ H hi p
 by_cases hlt:i<xs.length
 ·have hk:xs.length - 1 - i<xs.length:=by omega
  refine .inr ⟨⟨hlt,xs,xs[xs.length - 1 - i],q,List.getElem?_eq_getElem hk⟩,Pv (i+1),fun σ' H' p'=>⟨xs.length - (i+1),by omega,rfl,hlt,p'⟩,fun v H' y=>?_⟩
  obtain ⟨rfl,y⟩:=y
  exact hs i v σ _ hlt (y xs q) p
 ·have e:i=xs.length:=by omega
  subst e
  exact .inl ⟨Nat.le_refl _,hd σ H p⟩
theorem lc_zip {K:PySem.W.Frag} {a b:Addr} {xs ys:List V} {g:TG} {tt:TT} {te:TE} {vs:List Nat} {σ:L2.St} {H1:Hp} {D:Addr} {Qd:Hp→Prop} (Pv:Nat→Hp→Prop) (h0:Pv 0 (upd H1 D (.lst [])))
  (hl:∀i H,Pv i H→SqL K H a xs∧SqL K H b ys)
  (hs:∀i x y H T,xs[i]?=some x→ys[i]?=some y→Pv i H→H T=none→g (.ref T) (wipe σ vs) (upd H T (.tup [x,y])) fun σ2 H2=>wipe σ2 vs=wipe σ vs∧tt σ2 H2 fun b H3=>
   if b=true then te σ2 H3 fun y H4=>∃acc,H4 D=some (.lst acc)∧acc.length<sizeLine∧Pv (i+1) (upd H4 D (.lst (acc++ [y]))) else Pv (i+1) H3) (hd:∀i H,i=min xs.length ys.length→Pv i H→Qd H):
  ∃W:Nat→Nat→Hp→Prop,(∃m,W 0 m (upd H1 D (.lst [])))∧∀i m H,W i m H→
   ((Itz K a b).stop i H∧Qd H)∨((Itz K a b).go i H∧∃Nx:Hp→Prop,(∀H',Nx H'→∃m',m'<m∧W (i+1) m' H')∧∀x H',(Itz K a b).yld i H x H'→g x (wipe σ vs) H' fun σ2 H2=>wipe σ2 vs=wipe σ vs∧tt σ2 H2 fun b H3=>
    if b=true then te σ2 H3 fun y H4=>∃acc,H4 D=some (.lst acc)∧acc.length<sizeLine∧Nx (upd H4 D (.lst (acc++ [y]))) else Nx H3):=by
 refine ⟨fun i m H=>m=min xs.length ys.length - i∧i≤min xs.length ys.length∧Pv i H,⟨min xs.length ys.length,by simp,Nat.zero_le _,h0⟩,?_⟩
 rintro i m H ⟨rfl,hi,p⟩
 obtain ⟨q1,q2⟩:=hl i H p
 by_cases hlt:i<min xs.length ys.length
 ·have l1:i<xs.length:=by omega
  have l2:i<ys.length:=by omega
  refine .inr ⟨⟨xs,ys,xs[i],ys[i],q1,q2,by simp [l1],by simp [l2]⟩,Pv (i+1),fun H' p'=>⟨min xs.length ys.length - (i+1),by omega,rfl,by omega,p'⟩,fun x H' y=>?_⟩
  obtain ⟨T,u,v,rfl,hT,rfl,h1,h2⟩:=y
  exact hs i u v H T (h1 xs q1) (h2 ys q2) p hT
 ·exact .inl ⟨⟨xs,ys,q1,q2,by omega⟩,hd i H (by omega) p⟩
theorem for_zip {K:PySem.W.Frag} {a b:Addr} {xs ys:List V} {g:TG} {tb:TS} {D:Ends} {σ:L2.St} {H:Hp} (Pv:Nat→L2.St→Hp→Prop) (h0:Pv 0 σ H) (hl:∀i σ H,Pv i σ H→SqL K H a xs∧SqL K H b ys)
  (hs:∀i x y σ H T,xs[i]?=some x→ys[i]?=some y→Pv i σ H→H T=none→g (.ref T) σ (upd H T (.tup [x,y])) fun σ2 H2=>tb {D with nx:=Pv (i+1),ct:=Pv (i+1),bk:=D.nx} σ2 H2) (hd:∀i σ H,i=min xs.length ys.length→Pv i σ H→D.nx σ H):
  ∃W:Nat→Nat→L2.St→Hp→Prop,(∃m,W 0 m σ H)∧∀i m σ H,W i m σ H→
   ((Itz K a b).stop i H∧D.nx σ H)∨((Itz K a b).go i H∧∃N:L2.St→Hp→Prop,(∀σ' H',N σ' H'→∃m',m'<m∧W (i+1) m' σ' H')∧∀x H',(Itz K a b).yld i H x H'→g x σ H' fun σ2 H2=>tb {D with nx:=N,ct:=N,bk:=D.nx} σ2 H2):=by
 refine ⟨fun i m σ H=>m=min xs.length ys.length - i∧i≤min xs.length ys.length∧Pv i σ H,⟨min xs.length ys.length,by simp,Nat.zero_le _,h0⟩,?_⟩
 rintro i m σ H ⟨rfl,hi,p⟩
 obtain ⟨q1,q2⟩:=hl i σ H p
 by_cases hlt:i<min xs.length ys.length
 ·have l1:i<xs.length:=by omega
  have l2:i<ys.length:=by omega
  refine .inr ⟨⟨xs,ys,xs[i],ys[i],q1,q2,by simp [l1],by simp [l2]⟩,Pv (i+1),fun σ' H' p'=>⟨min xs.length ys.length - (i+1),by omega,rfl,by omega,p'⟩,fun x H' y=>?_⟩
  obtain ⟨T,u,v,rfl,hT,rfl,h1,h2⟩:=y
  exact hs i u v σ H T (h1 xs q1) (h2 ys q2) p hT
 ·exact .inl ⟨⟨xs,ys,q1,q2,by omega⟩,hd i σ H (by omega) p⟩
end Lr
namespace Lr
open PySem PySem.Spec PyProof.Rows L2 LX
open Vaglrl (Costs Text Cell)
section
variable {P:Program} {w:World} {K:PySem.W.Frag} {mg:Str→Option Value} {base:Heap} {A:Ad}
def spET:Sp:=fun vs H Q _=>∃n:Nat,vs= [vN n]∧n≤100∧∀(H':Hp) (p:Addr) (rs:List Addr),TabAt H' p rs n (fun _ _=>(Vm.NW:Int))→NewTab H p rs→Same H H'→Q (.ref p) H'
theorem scET:FnScope ["length","i"] ["length"] (defScope sEmptyTable):=⟨rfl,rfl,rfl,by decide+kernel,rfl,by decide+kernel,by decide+kernel⟩
theorem flat_rep {α β:Type} (x:α) (f:β→α) (l:List β) (h:∀b,f b=x):(List.replicate l.length [x]).flatten=l.map f:=by
 induction l with
 |nil=>rfl
 |cons b r ih=>rw [List.length_cons,List.replicate_succ,List.flatten_cons,ih,List.map_cons,h b];rfl
theorem okET {f:Addr} {fd:FuncData} (F:Fun K "empty_table" "empty_table" sEmptyTable f fd) (T:Txt A K mg):FnOk P w K mg base CX0 1 f fd ["length"] spET:=by
 obtain ⟨t0,kN⟩:=T.kNO_WAY
 refine F.ok scET (fun vs H Q E h=>?_) (fun cdv A' outer s H vs Q E hr h=>?_)
 ·obtain ⟨n,rfl,_⟩:=h
  rfl
 ·obtain ⟨n,rfl,hn,q⟩:=h
  refine ⟨_,pss_one (ps_ret (pe_lc (own:= [("i",1)]) rfl scET.nd (pi_range1 rfl T.b_range (pa_cons (pe_op op_add (pv 0) pe_int) pa_nil))
   (blkOk_by (by show blkC ["length","i"] (defScope sEmptyTable) _ _=true;decide+kernel))
   (fun s H C cl fp=>pg_name (i:=1) scET.nd rfl (Or.inl rfl)) (fun s H C cl fp=>pts_nil)
   (fun s H C cl fp=>pe_op op_rep (pe_lst (pa_cons (pe_glob (v:=.int 1000000000000000000000000000000) rfl kN ⟨_,rfl⟩) pa_nil)) (pe_op op_sub (pe_op op_add (pv 0) pe_int) (pv 1))))),?_⟩
  refine ⟨_,rfl,_,_,rfl,rfl,(n:Int)+1,rfl,by omega,by omega,fun D hD=>lc_range (RP (rowV n fun _ _=>(Vm.NW:Int)) D H) (RP.start hD) ?_ ?_⟩
  ·intro m H1 hm p
   refine ⟨rfl,tyes ?_⟩
   refine ⟨(by show 1≤sizeLine;decide),fun l0 h0=>?_⟩
   refine ⟨_,rfl,_,_,rfl,rfl,_,rfl,_,_,rfl,rfl,l0,_,_,rfl,rfl,upd_same,by omega,by omega,?_,fun r hr=>?_⟩
   ·show 1 * ((n:Int)+1 - (0+m)).toNat≤sizeLine
    exact small12 (by omega)
   ·have s1:=Same.upd (o:=.lst [V.int 1000000000000000000000000000000]) h0
    have s2:=Same.upd (o:=.lst (List.replicate ((n:Int)+1 - (0+(m:Int))).toNat [V.int 1000000000000000000000000000000]).flatten) hr
    refine p.next hD (by omega) (s1.trans s2) (s1.free hr) ?_
    rw [upd_same]
    have e:((n:Int)+1 - (0+(m:Int))).toNat=(List.range (n+1 - m)).length:=by rw [List.length_range];omega
    rw [e,flat_rep (V.int 1000000000000000000000000000000) (fun d=>V.int (Vm.NW:Int)) _ (fun _=>rfl)]
    rfl
  ·intro H1 p
   have e:((n:Int)+1).toNat=n+1:=by omega
   rw [e] at p
   obtain ⟨s1,rs,t1,n1⟩:=p.tab hD
   exact q H1 D rs t1 n1 s1
def spCS:Sp:=fun vs H Q _=>∃(a b:Addr) (us ws:List Int),vs= [.ref a,.ref b]∧H a=some (.lst (us.map V.int))∧H b=some (.lst (ws.map V.int))∧0<us.length∧0<ws.length∧us.length≤100∧
 ∀(H':Hp) (v:Int),Same H H'→v∈List.zipWith (·+·) us ws→(∀y∈List.zipWith (·+·) us ws,v≤y)→Q (.int v) H'
theorem scCS:FnScope ["symbol_costs","rest_costs","first","second"] ["symbol_costs","rest_costs"] (defScope sCheapestSum):=⟨rfl,rfl,rfl,by decide+kernel,rfl,by decide+kernel,by decide+kernel⟩
theorem getI {us:List Int} {i:Nat} {x:V} (h:(us.map V.int)[i]?=some x):∃u,us[i]?=some u∧x=.int u:=by
 rw [List.getElem?_map] at h
 cases e:us[i]? with
 |none=>rw [e] at h;cases h
 |some u=>rw [e] at h;exact ⟨u,rfl,(Option.some.inj h).symm⟩
theorem okCS {f:Addr} {fd:FuncData} (F:Fun K "cheapest_sum" "cheapest_sum" sCheapestSum f fd) (T:Txt A K mg):FnOk P w K mg base CX0 1 f fd ["symbol_costs","rest_costs"] spCS:=by
 refine F.ok scCS (fun vs H Q E h=>?_) (fun cdv A' outer s H vs Q E hr h=>?_)
 ·obtain ⟨a,b,us,ws,rfl,_⟩:=h
  rfl
 ·obtain ⟨a,b,us,ws,rfl,ha,hb,hu,hw,hl,q⟩:=h
  refine ⟨_,pss_one (ps_ret (pe_callB (cr_min rfl) (by rfl) T.b_min boot_min (pa_cons (pe_lc (own:= [("first",2),("second",3)]) (g:=gTup K 2 (gCons (gName 2) (gCons (gName 3) gNil))) rfl scCS.nd (pi_zip rfl T.b_zip (pa_cons (pv 0) (pa_cons (pv 1) pa_nil)))
   (blkOk_by (by show blkC ["symbol_costs","rest_costs","first","second"] (defScope sCheapestSum) _ _=true;decide+kernel))
   (fun s H C cl fp=>pg_tup rfl (pgs_cons (pg_name (i:=2) scCS.nd rfl (Or.inl rfl)) (pgs_cons (pg_name (i:=3) scCS.nd rfl (Or.inl rfl)) pgs_nil))) (fun s H C cl fp=>pts_nil)
   (fun s H C cl fp=>pe_op op_add (pv 2) (pv 3))) pa_nil))),?_⟩
  refine ⟨_,rfl,_,rfl,a,b,_,_,rfl,SqL.of ha,SqL.of hb,fun D hD=>lc_zip (xs:=us.map V.int) (ys:=ws.map V.int) (Part (fun H v c=>v=V.int c) D H (List.zipWith (·+·) us ws)) (Part.start hD) ?_ ?_ ?_⟩
  ·exact fun i H1 p=>⟨SqL.of (p.1 _ _ ha),SqL.of (p.1 _ _ hb)⟩
  ·intro i x y H1 tt hx hy p ht
   obtain ⟨u,hu',rfl⟩:=getI hx
   obtain ⟨v,hv',rfl⟩:=getI hy
   refine ⟨tt,_,rfl,SqT.of upd_same,rfl,_,_,rfl,_,_,rfl,rfl,rfl,tyes ?_⟩
   refine ⟨_,rfl,_,rfl,_,_,rfl,rfl,?_⟩
   refine p.next (fun _ e=>e) hD (by rw [List.length_zipWith];omega) (c:=u+v) ?_ (Same.upd ht) rfl
   rw [List.getElem?_zipWith,hu',hv']
  ·intro i H1 hi p
   rw [List.length_map,List.length_map] at hi
   obtain ⟨s1,vs,h1,p1⟩:=p.done (by rw [List.length_zipWith];omega)
   have e:=paired_map (β:=Unit) p1
   subst e
   refine ⟨D,List.zipWith (·+·) us ws,rfl,SqL.of h1,by rw [List.length_zipWith];omega,fun v hv hle=>q H1 v s1 hv hle⟩
end
end Lr
namespace Lr
open PySem PySem.Spec PyProof.Rows L2 LX
open Vaglrl (Costs Text Cell)
open Vaglrc (Sym)
section
variable {P:Program} {w:World} {K:PySem.W.Frag} {mg:Str→Option Value} {base:Heap} {A:Ad}
abbrev Tab:=Sym→Nat→Nat→Int
def restL (tab:Tab) (d j:Nat) (l:List Sym):List Int:=(List.range (j+1)).map fun p=>Vm.restAt tab d j l p
structure TabsAt (H:Hp) (a:Addr) (tas:List Addr) (l:List Sym) (n:Nat) (tab:Tab):Prop where
 lst:H a=some (.lst (tas.map V.ref))
 len:tas.length=l.length
 at_:∀(i:Nat) (t:Addr) (s:Sym),tas[i]?=some t→l[i]?=some s→∃rs,TabAt H t rs n (tab s)
structure RestsAt (H:Hp) (a:Addr) (qs:List Addr) (tab:Tab) (d j:Nat) (l:List Sym):Prop where
 lst:H a=some (.lst (qs.map V.ref))
 len:qs.length=l.length+1
 at_:∀(m:Nat) (q:Addr),qs[m]?=some q→H q=some (.lst ((restL tab d j (l.drop m)).map V.int))
def spCR:Sp:=fun vs H Q _=>∃(ta:Addr) (tas:List Addr) (l:List Sym) (tab:Tab) (n j d:Nat),vs= [.ref ta,vN j,vN d]∧TabsAt H ta tas l n tab∧j≤n∧n≤90∧d≤9∧l.length≤100∧
 ∀(H':Hp) (p:Addr) (qs:List Addr),RestsAt H' p qs tab d j l→Same H H'→H p=none→Q (.ref p) H'
theorem scCR:FnScope ["tables","j","leaving","rest","rests","table","p"] ["tables","j","leaving"] (defScope sCheapestRests):=⟨rfl,rfl,rfl,by decide+kernel,rfl,by decide+kernel,by decide+kernel⟩
theorem zip_rest {f h:Nat→Int} {n j p:Nat} (hp:p≤j) (hj:j≤n):
  List.zipWith (·+·) ((List.range (n+1 - p)).map f) (((List.range (j+1)).map h).drop p)=(List.range (j - p+1)).map fun e=>f e+h (p+e):=by
 apply List.ext_getElem?
 intro e
 rw [List.getElem?_zipWith,List.getElem?_map,List.getElem?_drop,List.getElem?_map,List.getElem?_map]
 by_cases q:e<j - p+1
 ·rw [List.getElem?_range (by omega),List.getElem?_range (by omega),List.getElem?_range q]
  rfl
 ·rw [List.getElem?_eq_none (l:=List.range (j+1)) (by rw [List.length_range];omega),List.getElem?_eq_none (l:=List.range (j - p+1)) (by rw [List.length_range];omega)]
  cases (List.range (n+1 - p))[e]?<;>rfl
theorem cut_drop {xs:List V} {p:Nat} (h:p≤xs.length):cutV xs (some (p:Int)) none=xs.drop p:=by
 unfold cutV
 rw [HT.sIx_nat,HT.sIx_none,Nat.min_eq_left h]
 apply List.take_of_length_le
 rw [List.length_drop]
 exact Nat.le_refl _
theorem rowV_int (n:Nat) (f:Nat→Nat→Int) (i:Nat):rowV n f i=((List.range (n+1 - i)).map fun d=>f i (i+d)).map V.int:=by
 unfold rowV
 rw [List.map_map]
 rfl
theorem okCR {f fS:Addr} {fd fdS:FuncData} (F:Fun K "cheapest_rests" "cheapest_rests" sCheapestRests f fd) (T:Txt A K mg) (S:Cl P w K mg base CX0 1 "cheapest_sum" fS fdS ["symbol_costs","rest_costs"] spCS):
  FnOk P w K mg base CX0 2 f fd ["tables","j","leaving"] spCR:=by
 refine F.ok scCR (fun vs H Q E h=>?_) (fun cdv A' outer s H vs Q E hr h=>?_)
 ·obtain ⟨ta,tas,l,tab,n,j,d,rfl,_⟩:=h
  rfl
 ·obtain ⟨ta,tas,l,tab,n,j,d,rfl,ht,hj,hn,hd,hl,q⟩:=h
  refine ⟨_,pss_cons (ps_set (i:=3) scCR.nd rfl (Or.inr rfl) (pe_lc (own:= [("p",6)]) rfl scCR.nd (pi_range1 rfl T.b_range (pa_cons (pe_op op_add (pv 1) pe_int) pa_nil))
    (blkOk_by (by show blkC ["tables","j","leaving","rest","rests","table","p"] (defScope sCheapestRests) _ _=true;decide+kernel))
    (fun s H C cl fp=>pg_name (i:=6) scCR.nd rfl (Or.inl rfl)) (fun s H C cl fp=>pts_nil)
    (fun s H C cl fp=>pe_op op_mul (pv 2) (pe_op op_sub (pv 1) (pv 6)))))
   (pss_cons (ps_set (i:=4) scCR.nd rfl (Or.inl rfl) (pe_lst (pa_cons (pv 3) pa_nil)))
   (pss_cons (ps_for PassesOwn.never rfl (pi_reversed rfl T.b_reversed (pa_cons (pv 0) pa_nil)) (pg_name (i:=5) scCR.nd rfl (Or.inr rfl))
    (pss_cons (ps_set (i:=3) scCR.nd rfl (Or.inr rfl) (pe_lc (own:= [("p",6)]) (te:=tCall spCS [] E0 (tCons (tOp (rIxL K) (tVar 5) (tVar 6)) (tCons (tSl (rSlL K) (tVar 3) (tPart (tVar 6)) tNoPart) tNil))) rfl scCR.nd (pi_range1 rfl T.b_range (pa_cons (pe_op op_add (pv 1) pe_int) pa_nil))
     (blkOk_by (by show blkC ["tables","j","leaving","rest","rests","table","p"] (defScope sCheapestRests) _ _=true;decide+kernel))
     (fun s H C cl fp=>pg_name (i:=6) scCR.nd rfl (Or.inl rfl)) (fun s H C cl fp=>pts_nil)
     (fun s H C cl fp=>pe_call S.ok hr rfl S.m S.kp S.b .nil pass0 (pa_cons (pe_ix ix_list (pv 5) (pv 6) (fun _ _=>rfl)) (pa_cons (pe_slice sl_list (pv 3) (po_some (pv 6)) po_none) pa_nil)))))
    (pss_one (ps_expr (pe_bm PySem.F.plainAttrs_list PySem.F.slot_list_append PySem.F.type_list_append mt_append (pv 4) (pa_cons (pv 3) pa_nil))))))
   (pss_cons (ps_expr (pe_bm0 PySem.F.plainAttrs_list PySem.F.slot_list_reverse PySem.F.type_list_reverse mt_reverse (pv 4)))
   (pss_one (ps_ret (pv 4)))))),?_⟩
  have rl:∀l,(restL tab d j l).length=j+1:=fun l=>by unfold restL;rw [List.length_map,List.length_range]
  have rx:∀l p,p≤j→(restL tab d j l)[p]?=some (Vm.restAt tab d j l p):=fun l p hp=>by unfold restL;rw [List.getElem?_map,List.getElem?_range (by omega)];rfl
  refine ⟨_,rfl,_,_,rfl,rfl,(j:Int)+1,rfl,by omega,by omega,fun D hD=>lc_range (Part (fun H v c=>v=V.int c) D H (restL tab d j [])) (Part.start hD) ?_ ?_⟩
  ·intro m H1 hm p
   refine ⟨rfl,tyes ?_⟩
   refine ⟨_,rfl,_,rfl,_,rfl,_,_,rfl,rfl,_,_,rfl,rfl,.inl (by omega),?_⟩
   refine p.next (fun _ e=>e) hD (by rw [rl];omega) (rx [] m (by omega)) (Same.refl _) ?_
   show V.int _=V.int ((d:Int) * ((j:Int) - m))
   rw [Int.zero_add]
  ·intro H1 p
   obtain ⟨s1,vs,h1,p1⟩:=p.done (by rw [rl];omega)
   have e:=paired_map (β:=Unit) p1
   subst e
   refine ⟨_,rfl,(by show 1≤sizeLine;decide),fun rp hrp=>?_⟩
   have s2:=Same.upd (o:=.lst [V.ref D]) hrp
   have hrp0:H rp=none:=s1.free hrp
   refine ⟨_,rfl,ta,tas.map V.ref,rfl,SqL.of (s2 _ _ (s1 _ _ ht.lst)),for_rev (xs:=tas.map V.ref) (fun i σ H'=>Same H H'∧∃(qs:List Addr) (q0:Addr) (v5:Option V),H' rp=some (.lst (qs.map V.ref))∧qs.length=i+1∧qs[i]?=some q0∧
    (∀m q',qs[m]?=some q'→q'≠rp∧H' q'=some (.lst ((restL tab d j (l.drop (l.length - m))).map V.int)))∧σ= [some (.ref ta),some (vN j),some (vN d),some (.ref q0),some (.ref rp),v5,none]) ?_ ?_ ?_ ?_⟩
   ·have nD:D≠rp:=ne_of_none h1 hrp
    refine ⟨s1.trans s2,[D],D,none,upd_same,rfl,rfl,fun m q' hm=>?_,rfl⟩
    cases m with
    |zero=>
     have e:D=q':=Option.some.inj hm
     subst e
     refine ⟨nD,?_⟩
     rw [Nat.sub_zero,List.drop_length]
     exact s2 _ _ h1
    |succ m=>simp at hm
   ·exact fun i σ H' _ h=>SqL.of (h.1 _ _ ht.lst)
   ·rintro i v σ H' hi hv ⟨s3,qs,q0,v5,hr0,hl0,hq0,hqs,rfl⟩
    rw [List.length_map] at hi hv
    have hi':i<l.length:=by rw [←ht.len];exact hi
    rw [List.getElem?_map] at hv
    obtain ⟨t,hte⟩:∃t,tas[tas.length - 1 - i]?=some t:=⟨_,List.getElem?_eq_getElem (by omega)⟩
    rw [hte] at hv
    have hv:V.ref t=v:=Option.some.inj hv
    subst hv
    obtain ⟨sy,hsy⟩:∃sy,l[tas.length - 1 - i]?=some sy:=⟨_,List.getElem?_eq_getElem (by rw [←ht.len];omega)⟩
    obtain ⟨rs,tt⟩:=ht.at_ _ _ _ hte hsy
    obtain ⟨nq0,hq0c⟩:=hqs i q0 hq0
    have hdrop:l.drop (l.length - (i+1))=sy::l.drop (l.length - i):=by
     rw [ht.len] at hsy
     have e:l.length - (i+1)=l.length - 1 - i:=by omega
     rw [e]
     have e2:l.length - i=l.length - 1 - i+1:=by omega
     rw [e2]
     obtain ⟨hlt,he⟩:=List.getElem?_eq_some_iff.mp hsy
     rw [←he]
     exact List.drop_eq_getElem_cons hlt
    refine ⟨_,rfl,_,_,rfl,rfl,(j:Int)+1,rfl,by omega,by omega,fun D2 hD2=>lc_range (Part (fun H v c=>v=V.int c) D2 H' (restL tab d j (sy::l.drop (l.length - i)))) (Part.start hD2) ?_ ?_⟩
    ·intro m H1 hm p
     refine ⟨rfl,tyes ?_⟩
     have s4:=p.1
     have hm':m≤j:=by omega
     obtain ⟨r,hre⟩:∃r,rs[m]?=some r:=⟨_,List.getElem?_eq_getElem (by rw [tt.len];omega)⟩
     have hrow:=s4 _ _ (s3 _ _ (tt.row m r hre))
     rw [rowV_int] at hrow
     refine ⟨_,rfl,_,rfl,t,_,_,_,rfl,rfl,SqL.of (s4 _ _ (s3 _ _ tt.lst)),at_of (j:=m) (by omega) (by rw [List.getElem?_map,hre];rfl),?_⟩
     refine ⟨_,rfl,_,rfl,_,rfl,q0,_,rfl,SqL.of (s4 _ _ hq0c),fun sl hsl=>?_⟩
     have e0:(0:Int)+(m:Int)=(m:Int):=by omega
     have ec:cutV ((restL tab d j (l.drop (l.length - i))).map V.int) (some ((0:Int)+(m:Int))) none=((restL tab d j (l.drop (l.length - i))).drop m).map V.int:=by
      rw [e0,cut_drop (by rw [List.length_map,rl];omega),List.map_drop]
     have s5:=Same.upd (o:=.lst (cutV ((restL tab d j (l.drop (l.length - i))).map V.int) (some ((0:Int)+(m:Int))) none)) hsl
     have hsum:=zip_rest (f:=fun e=>tab sy m (m+e)) (h:=fun p=>Vm.restAt tab d j (l.drop (l.length - i)) p) hm' hj
     refine ⟨r,sl,_,_,rfl,s5 _ _ hrow,by rw [upd_same,ec],?_,?_,?_,fun H6 v s6 hv hle=>?_⟩
     ·rw [List.length_map,List.length_range];omega
     ·rw [List.length_drop,rl];omega
     ·rw [List.length_map,List.length_range];omega
     ·unfold restL at hv hle
      rw [hsum] at hv hle
      have hmin:=Vm.min_unique hv hle
      refine p.next (fun _ e=>e) hD2 (by rw [rl];omega) (rx _ m hm') (s5.trans s6) ?_
      rw [hmin]
      rfl
    ·intro H1 p
     obtain ⟨s4,vs,h4,p4⟩:=p.done (by rw [rl];omega)
     have e:=paired_map (β:=Unit) p4
     subst e
     have nD2:D2≠rp:=fun e=>by rw [e,hr0] at hD2;cases hD2
     refine ⟨_,rfl,.inl ⟨rfl,_,SqL.of (s4 _ _ hr0)⟩,_,rfl,rp,_,_,rfl,rfl,s4 _ _ hr0,small1000 (by rw [List.length_map];omega),?_⟩
     refine ⟨fun b o e=>?_,qs++ [D2],D2,some (.ref t),by rw [upd_same,List.map_append];rfl,by simp [hl0],by rw [List.getElem?_append_right (by omega)];simp [hl0],fun m q' hm=>?_,rfl⟩
     ·rw [upd_ne (ne_of_none e hrp0)]
      exact s4 _ _ (s3 _ _ e)
     ·by_cases hlt:m<qs.length
      ·rw [List.getElem?_append_left hlt] at hm
       obtain ⟨z1,z2⟩:=hqs m q' hm
       exact ⟨z1,by rw [upd_ne z1];exact s4 _ _ z2⟩
      ·have hlm:=(List.getElem?_eq_some_iff.mp hm).1
       rw [List.length_append] at hlm
       have e:m=qs.length:=by have: [D2].length=1:=rfl;omega
       subst e
       rw [List.getElem?_append_right (Nat.le_refl _)] at hm
       simp at hm
       subst hm
       refine ⟨nD2,?_⟩
       rw [upd_ne nD2,h4,hl0,hdrop]
   ·rintro σ H' ⟨s3,qs,q0,v5,hr0,hl0,hq0,hqs,rfl⟩
    rw [List.length_map] at hl0
    refine ⟨_,rfl,.inl ⟨rfl,_,SqL.of hr0⟩,rp,_,rfl,rfl,hr0,_,rfl,?_⟩
    refine q _ rp qs.reverse ⟨by rw [upd_same,List.map_reverse],by rw [List.length_reverse,hl0,ht.len],fun m q' hm=>?_⟩ (fun b o e=>?_) hrp0
    ·have hlm:=(List.getElem?_eq_some_iff.mp hm).1
     rw [List.length_reverse] at hlm
     rw [List.getElem?_reverse hlm] at hm
     obtain ⟨z1,z2⟩:=hqs _ q' hm
     rw [upd_ne z1,z2]
     have e:l.length - (qs.length - 1 - m)=m:=by rw [hl0,ht.len];rw [hl0,ht.len] at hlm;omega
     rw [e]
    ·rw [upd_ne (ne_of_none e hrp0)]
     exact s3 _ _ e
end
end Lr
namespace Lr
open PySem PySem.Spec PyProof.Rows L2 LX
open Vaglrl (Costs Text Cell)
open Vaglrc (Sym)
def EndsAt (tab:Tab) (d j:Nat):List Sym→Nat→List Nat→Prop
 | [],_,es=>es= []
 |s::r,p,es=>∃e es',p+e≤j∧tab s p (p+e)+Vm.restAt tab d j r (p+e)≤Vm.restAt tab d j (s::r) p∧
   (∀e',e'<e→Vm.restAt tab d j (s::r) p<tab s p (p+e')+Vm.restAt tab d j r (p+e'))∧EndsAt tab d j r (p+e) es'∧es=(p+e)::es'
theorem ends_way {k:Costs} {x:Text} {t:Vaglrl.Table} {S:Nat} (ok:Vm.CostsOk k) (hx:x.length≤12) (hS:∀s p e c,p≤e→e≤x.length→Vaglrl.symCost k x t s p e=some c→c≤S) {j:Nat} (h2:j≤x.length):
  ∀(l:List Sym) {p:Nat} {w:Nat×List Nat},p≤j→l.length * S+108<Vm.NW→Vm.way k x t l p j=some w→EndsAt (Vm.tab k x t) k.delete j l p w.2
 | [],p,w,hp,hb,h=>by
  rw [Vm.way_nil k x t hp h2] at h
  cases h
  rfl
 |s::r,p,w,hp,hb,h=>by
  obtain ⟨d,v,h1,h3,h4,h5,h6⟩:=Vm.way_first ok hx hS h2 hp hb h
  have hb':r.length * S+108<Vm.NW:=by
   rw [List.length_cons,Nat.succ_mul] at hb
   omega
  exact ⟨d,v.2,by omega,h5,h6,ends_way ok hx hS h2 r (by omega) hb' h3,h4⟩
section
variable {P:Program} {w:World} {K:PySem.W.Frag} {mg:Str→Option Value} {base:Heap} {A:Ad}
def spFE:Sp:=fun vs H Q _=>∃(ta ra:Addr) (tas qs:List Addr) (l:List Sym) (tab:Tab) (n d i j:Nat) (es:List Nat),vs= [.ref ta,.ref ra,vN i,vN j]∧TabsAt H ta tas l n tab∧RestsAt H ra qs tab d j l∧i≤j∧j≤n∧n≤90∧l.length≤100∧
 EndsAt tab d j l i es∧∀(H':Hp) (p:Addr),H' p=some (.lst (es.map vN))→Same H H'→H p=none→Q (.ref p) H'
theorem scFE:FnScope ["tables","rests","i","j","ends","begin","k","table","end"] ["tables","rests","i","j"] (defScope sFirstCheapestEnds):=⟨rfl,rfl,rfl,by decide+kernel,rfl,by decide+kernel,by decide+kernel⟩
theorem tab_ix {H:Hp} {t:Addr} {rs:List Addr} {n p e:Nat} {f:Nat→Nat→Int} (tt:TabAt H t rs n f) (h:p+e≤n):∃r,rs[p]?=some r∧H r=some (.lst (rowV n f p))∧(rowV n f p)[e]?=some (.int (f p (p+e))):=by
 obtain ⟨r,hr⟩:∃r,rs[p]?=some r:=⟨_,List.getElem?_eq_getElem (by rw [tt.len];omega)⟩
 refine ⟨r,hr,tt.row p r hr,?_⟩
 unfold rowV
 rw [List.getElem?_map,List.getElem?_range (by omega)]
 rfl
theorem rest_ix {H:Hp} {a:Addr} {qs:List Addr} {tab:Tab} {d j m p:Nat} {l:List Sym} (r:RestsAt H a qs tab d j l) (hm:m≤l.length) (hp:p≤j):
  ∃q,(qs.map V.ref)[m]?=some (.ref q)∧H q=some (.lst ((restL tab d j (l.drop m)).map V.int))∧((restL tab d j (l.drop m)).map V.int)[p]?=some (.int (Vm.restAt tab d j (l.drop m) p)):=by
 obtain ⟨q,hq⟩:∃q,qs[m]?=some q:=⟨_,List.getElem?_eq_getElem (by rw [r.len];omega)⟩
 refine ⟨q,by rw [List.getElem?_map,hq];rfl,r.at_ m q hq,?_⟩
 unfold restL
 rw [List.getElem?_map,List.getElem?_map,List.getElem?_range (by omega)]
 rfl
theorem RestsAt.same {H H':Hp} {a:Addr} {qs:List Addr} {tab:Tab} {d j:Nat} {l:List Sym} (s:Same H H') (r:RestsAt H a qs tab d j l):RestsAt H' a qs tab d j l:=⟨s _ _ r.lst,r.len,fun m q h=>s _ _ (r.at_ m q h)⟩
theorem okFE {f:Addr} {fd:FuncData} (F:Fun K "first_cheapest_ends" "first_cheapest_ends" sFirstCheapestEnds f fd) (T:Txt A K mg):FnOk P w K mg base CX0 1 f fd ["tables","rests","i","j"] spFE:=by
 refine F.ok scFE (fun vs H Q E h=>?_) (fun cdv A' outer s H vs Q E hr h=>?_)
 ·obtain ⟨ta,ra,tas,qs,l,tab,n,d,i,j,es,rfl,_⟩:=h
  rfl
 ·obtain ⟨ta,ra,tas,qs,l,tab,n,d,i,j,es,rfl,ht,hra,hij,hj,hn,hl,hes,q⟩:=h
  refine ⟨_,pss_cons (ps_set (i:=4) scFE.nd rfl (Or.inl rfl) (pe_lst pa_nil)) (pss_cons (ps_set (i:=5) scFE.nd rfl (Or.inl rfl) (pv 2))
   (pss_cons (ps_for PassesOwn.never rfl (pi_enum rfl T.b_enumerate (pa_cons (pv 0) pa_nil)) (pg_tup rfl (pgs_cons (pg_name (i:=6) scFE.nd rfl (Or.inl rfl)) (pgs_cons (pg_name (i:=7) scFE.nd rfl (Or.inl rfl)) pgs_nil)))
    (pss_cons (ps_set (i:=8) scFE.nd rfl (Or.inl rfl) (pv 5))
    (pss_cons (ps_while PassesOwn.never (pt_cmpR op_gt (pe_op op_add (pe_ix ix_list (pe_ix ix_list (pv 7) (pv 5) (fun _ _=>rfl)) (pe_op op_sub (pv 8) (pv 5)) (fun _ _=>rfl)) (pe_ix ix_list (pe_ix ix_list (pv 1) (pe_op op_add (pv 6) pe_int) (fun _ _=>rfl)) (pv 8) (fun _ _=>rfl)))
      (pe_ix ix_list (pe_ix ix_list (pv 1) (pv 6) (fun _ _=>rfl)) (pv 5) (fun _ _=>rfl)) (nomark _)) (pss_one (ps_aug (i:=8) scFE.nd rfl (Or.inl rfl) pe_int ip_add)))
    (pss_cons (ps_expr (pe_bm PySem.F.plainAttrs_list PySem.F.slot_list_append PySem.F.type_list_append mt_append (pv 4) (pa_cons (pv 8) pa_nil)))
    (pss_one (ps_set (i:=5) scFE.nd rfl (Or.inl rfl) (pv 8)))))))
   (pss_one (ps_ret (pv 4))))),?_⟩
  refine ⟨Nat.zero_le _,fun ep hep=>?_⟩
  have s1:=Same.upd (o:=.lst []) hep
  refine ⟨_,rfl,_,rfl,ta,tas.map V.ref,rfl,SqL.of (s1 _ _ ht.lst),for_enum (xs:=tas.map V.ref) (fun m σ H'=>Same H H'∧∃(p:Nat) (dn es':List Nat) (v6 v7 v8:Option V),m≤l.length∧p≤j∧EndsAt tab d j (l.drop m) p es'∧es=dn++es'∧dn.length=m∧H' ep=some (.lst (dn.map vN))∧
   σ= [some (.ref ta),some (.ref ra),some (vN i),some (vN j),some (.ref ep),some (vN p),v6,v7,v8]) ?_ ?_ ?_ ?_⟩
  ·exact ⟨s1,i,[],es,none,none,none,Nat.zero_le _,hij,hes,rfl,rfl,upd_same,rfl⟩
  ·exact fun m σ H' _ h=>SqL.of (h.1 _ _ ht.lst)
  ·rintro m v σ H' tt hv ⟨s2,p,dn,es',v6,v7,v8,hm,hp,he,hsplit,hdn,hep',rfl⟩ htt
   rw [List.getElem?_map] at hv
   obtain ⟨t,hte⟩:∃t,tas[m]?=some t:=by
    cases e:tas[m]? with
    |none=>rw [e] at hv;cases hv
    |some t=>exact ⟨t,rfl⟩
   rw [hte] at hv
   have hv:V.ref t=v:=Option.some.inj hv
   subst hv
   have hml:m<l.length:=by rw [←ht.len];exact (List.getElem?_eq_some_iff.mp hte).1
   have hdrop:l.drop m=l[m]::l.drop (m+1):=List.drop_eq_getElem_cons hml
   obtain ⟨rs,tt1⟩:=ht.at_ m t l[m] hte (List.getElem?_eq_getElem hml)
   rw [hdrop] at he
   obtain ⟨e,es2,h1,h2,h3,h4,rfl⟩:=he
   have s3:=Same.upd (o:=.tup [vN m,V.ref t]) htt
   have sH:Same H (upd H' tt (.tup [vN m,V.ref t])):=s2.trans s3
   have htab:=tt1.same sH
   have hrr:=hra.same sH
   have hep2:=s3 _ _ hep'
   generalize hH2:upd H' tt (.tup [vN m,V.ref t])=H2 at sH htab hrr hep2
   refine ⟨tt,_,rfl,SqT.of (by rw [←hH2];exact upd_same),rfl,_,_,rfl,_,_,rfl,rfl,?_⟩
   refine ⟨_,rfl,?_⟩
   refine ⟨fun μ σ H3=>H3=H2∧∃e',e'≤e∧μ=e - e'∧σ= [some (.ref ta),some (.ref ra),some (vN i),some (vN j),some (.ref ep),some (vN p),some (vN m),some (.ref t),some (vN (p+e'))],⟨e,rfl,0,Nat.zero_le _,rfl,rfl⟩,?_⟩
   rintro μ σ H3 ⟨rfl,e',he',rfl,rfl⟩
   obtain ⟨r,hr1,hr2,hr3⟩:=tab_ix (p:=p) (e:=e') htab (by omega)
   obtain ⟨q1,a1,a2,a3⟩:=rest_ix (m:=m+1) (p:=p+e') hrr (by omega) (by omega)
   obtain ⟨q2,b1,b2,b3⟩:=rest_ix (m:=m) (p:=p) hrr (by omega) hp
   refine ⟨_,rfl,_,rfl,t,_,_,_,rfl,rfl,SqL.of htab.lst,at_of (j:=p) rfl (by rw [List.getElem?_map,hr1];rfl),_,rfl,_,rfl,_,_,rfl,rfl,r,_,_,_,rfl,rfl,SqL.of hr2,at_of (j:=e') (by show ((p+e':Nat):Int) - (p:Int)=_;omega) hr3,?_⟩
   refine ⟨_,rfl,_,rfl,_,_,rfl,rfl,ra,_,_,_,rfl,rfl,SqL.of hrr.lst,at_of (j:=m+1) (by show (m:Int)+1=_;omega) a1,_,rfl,q1,_,_,_,rfl,rfl,SqL.of a2,at_of (j:=p+e') rfl a3,?_⟩
   refine ⟨_,_,rfl,rfl,?_⟩
   refine ⟨_,rfl,_,rfl,ra,_,_,_,rfl,rfl,SqL.of hrr.lst,at_of (j:=m) rfl b1,_,rfl,q2,_,_,_,rfl,rfl,SqL.of b2,at_of (j:=p) rfl b3,?_⟩
   rw [hdrop] at *
   refine ⟨_,_,rfl,rfl,_,rfl,iteD (fun hgt=>?_) (fun hle=>?_)⟩
   ·have hne:e'≠e:=fun z=>by rw [z] at hgt;omega
    refine ⟨fun σ' H'=>H'=H3∧σ'= [some (.ref ta),some (.ref ra),some (vN i),some (vN j),some (.ref ep),some (vN p),some (vN m),some (.ref t),some (vN (p+(e'+1)))],?_,?_⟩
    ·rintro σ' H' ⟨rfl,rfl⟩
     exact ⟨e - (e'+1),by omega,rfl,e'+1,by omega,rfl,rfl⟩
    ·exact ⟨_,rfl,_,_,rfl,rfl,rfl,rfl⟩
   ·have heq:e'=e:=by
     rcases Nat.lt_or_ge e' e with z|z
     ·exact absurd (h3 e' z) hle
     ·omega
    subst heq
    refine ⟨_,rfl,.inl ⟨rfl,_,SqL.of hep2⟩,_,rfl,ep,_,_,rfl,rfl,hep2,small1000 (by rw [List.length_map];omega),_,rfl,?_⟩
    refine ⟨fun b o z=>?_,p+e',dn++ [p+e'],es2,_,_,_,by omega,h1,h4,by rw [hsplit,List.append_assoc];rfl,by simp [hdn],by rw [upd_same,List.map_append];rfl,rfl⟩
    rw [upd_ne (ne_of_none z hep)]
    exact sH _ _ z
  ·rintro σ H' ⟨s2,p,dn,es',v6,v7,v8,hm,hp,he,hsplit,hdn,hep',rfl⟩
   rw [List.length_map,ht.len,List.drop_length] at he
   have he:es'= []:=he
   subst he
   rw [List.append_nil] at hsplit
   subst hsplit
   exact ⟨_,rfl,q H' ep hep' s2 hep⟩
end
end Lr
namespace Lr
open PySem PySem.Spec PyProof.Rows L2 LX
open Vaglrl (Costs Text Cell)
open Vaglrc (Sym Rule Grammar)
def symK:Sym→List Key
 | .non b=> [.inl 0,.inl (b:Int)]
 | .range lo hi=> [.inl 1,.inl (lo:Int),.inl (hi:Int)]
def symV (s:Sym):List V:=(symK s).map kV
theorem symK_inj:∀{s t:Sym},symK s=symK t→s=t
 | .non a,.non b,h=>by
  have h:([.inl 0,.inl (a:Int)]:List Key)= [.inl 0,.inl (b:Int)]:=h
  simp at h
  have h:a=b:=by omega
  rw [h]
 | .non a,.range lo hi,h=>by
  have h:([.inl 0,.inl (a:Int)]:List Key)= [.inl 1,.inl (lo:Int),.inl (hi:Int)]:=h
  simp at h
 | .range lo hi,.non a,h=>by
  have h:([.inl 1,.inl (lo:Int),.inl (hi:Int)]:List Key)= [.inl 0,.inl (a:Int)]:=h
  simp at h
 | .range lo hi,.range lo' hi',h=>by
  have h:([.inl 1,.inl (lo:Int),.inl (hi:Int)]:List Key)= [.inl 1,.inl (lo':Int),.inl (hi':Int)]:=h
  simp at h
  have h1:lo=lo':=by omega
  have h2:hi=hi':=by omega
  rw [h1,h2]
structure SymsAt (H:Hp) (a:Addr) (qs:List Addr) (l:List Sym):Prop where
 lst:H a=some (.lst (qs.map V.ref))
 len:qs.length=l.length
 at_:∀(i:Nat) (q:Addr) (s:Sym),qs[i]?=some q→l[i]?=some s→H q=some (.tup (symV s))
def RuleAt (A:Ad) (H:Hp) (a:Addr) (r:Rule):Prop:=∃(dx sa:Addr) (qs:List Addr),H a=some (.ins A.cRule dx (fRule (vN r.lhs) (.ref sa)))∧SymsAt H sa qs r.rhs
structure RulesAt (A:Ad) (H:Hp) (a:Addr) (ps:List Addr) (rs:List Rule):Prop where
 lst:H a=some (.lst (ps.map V.ref))
 len:ps.length=rs.length
 at_:∀(i:Nat) (p:Addr) (r:Rule),ps[i]?=some p→rs[i]?=some r→RuleAt A H p r
def GramAt (A:Ad) (H:Hp) (a:Addr) (g:Grammar):Prop:=∃(dx ra:Addr) (ps:List Addr),H a=some (.ins A.cGrammar dx (fGrammar (vN g.nons) (.ref ra)))∧RulesAt A H ra ps g.rules
section
variable {A:Ad} {H H':Hp} {a:Addr}
theorem SymsAt.same {qs:List Addr} {l:List Sym} (s:Same H H') (h:SymsAt H a qs l):SymsAt H' a qs l:=⟨s _ _ h.lst,h.len,fun i q y h1 h2=>s _ _ (h.at_ i q y h1 h2)⟩
theorem RuleAt.same {r:Rule} (s:Same H H') (h:RuleAt A H a r):RuleAt A H' a r:=let ⟨dx,sa,qs,h1,h2⟩:=h;⟨dx,sa,qs,s _ _ h1,h2.same s⟩
theorem RulesAt.same {ps:List Addr} {rs:List Rule} (s:Same H H') (h:RulesAt A H a ps rs):RulesAt A H' a ps rs:=⟨s _ _ h.lst,h.len,fun i p r h1 h2=>(h.at_ i p r h1 h2).same s⟩
theorem GramAt.same {g:Grammar} (s:Same H H') (h:GramAt A H a g):GramAt A H' a g:=let ⟨dx,ra,ps,h1,h2⟩:=h;⟨dx,ra,ps,s _ _ h1,h2.same s⟩
end
def key3 (a i j:Nat):List Key:= [.inl (a:Int),.inl (i:Int),.inl (j:Int)]
theorem key3_inj {a i j a' i' j':Nat} (h:key3 a i j=key3 a' i' j'):a=a'∧i=i'∧j=j':=by
 unfold key3 at h
 simp at h
 omega
def CellAt (A:Ad) (R:Addr→Prop) (H:Hp) (ca:Addr) (c:Cell):Prop:=∃dx ea,H ca=some (.ins A.cCell dx (fCell (vN c.cost) (vN c.rule) (.ref ea)))∧H ea=some (.lst (c.ends.map vN))∧¬R ea
abbrev CMap:=Nat→Nat→Nat→Option Cell
structure MapAt (A:Ad) (R:Addr→Prop) (H:Hp) (d:Addr) (kvs:List (List Key×V)) (g:Grammar) (x:Text) (M:CMap):Prop where
 dict:H d=some (.dT kvs)
 nd:(kvs.map (·.1)).Nodup
 keys:∀k∈kvs.map (·.1),∃q:Vm.Key,Vm.Valid g x q∧k=key3 q.1 q.2.1 q.2.2
 no:∀a i j,Vm.Valid g x (a,i,j)→M a i j=none→valV kvs (key3 a i j)=none
 yes:∀a i j c,Vm.Valid g x (a,i,j)→M a i j=some c→∃ca,valV kvs (key3 a i j)=some (.ref ca)∧CellAt A R H ca c
theorem MapAt.short {A:Ad} {R:Addr→Prop} {H:Hp} {d:Addr} {kvs:List (List Key×V)} {g:Grammar} {x:Text} {M:CMap} (m:MapAt A R H d kvs g x M) (hn:g.nons≤20) (hx:x.length≤12):kvs.length≤1820:=by
 have q:=Vm.nodup_sub (L:=Vm.keys20.map fun q:Vm.Key=>key3 q.1 q.2.1 q.2.2) m.nd fun k hk=>by
  obtain ⟨q,h1,h2⟩:=m.keys k hk
  exact List.mem_map.mpr ⟨q,Vm.keys20_all hn hx h1,h2.symm⟩
 rw [List.length_map,List.length_map,Vm.keys20_len] at q
 exact q
def Fix (R:Addr→Prop) (p:Addr) (H H':Hp):Prop:=∀b o,H b=some o→¬R b→b≠p→H' b=some o
theorem CellAt.fix {A:Ad} {R:Addr→Prop} {p:Addr} {H H':Hp} {ca:Addr} {c:Cell} {kvs:List (List Key×V)} (hR:∀b,R b→∃xs,H b=some (.lst xs)) (hp:H p=some (.dT kvs)) (f:Fix R p H H') (h:CellAt A R H ca c):CellAt A R H' ca c:=by
 obtain ⟨dx,ea,h1,h2,h3⟩:=h
 refine ⟨dx,ea,f _ _ h1 (fun z=>?_) (ne_of h1 hp (by intro z;cases z)),f _ _ h2 h3 (ne_of h2 hp (by intro z;cases z)),h3⟩
 obtain ⟨xs,hx⟩:=hR _ z
 rw [h1] at hx
 cases hx
theorem MapAt.same {A:Ad} {R:Addr→Prop} {d:Addr} {H H':Hp} {kvs:List (List Key×V)} {g:Grammar} {x:Text} {M:CMap} (s:Same H H') (m:MapAt A R H d kvs g x M):MapAt A R H' d kvs g x M:=
 ⟨s _ _ m.dict,m.nd,m.keys,m.no,fun a i j c h1 h2=>let ⟨ca,z1,dx,ea,z2,z3,z4⟩:=m.yes a i j c h1 h2;⟨ca,z1,dx,ea,s _ _ z2,s _ _ z3,z4⟩⟩
def CMap.set (M:CMap) (a i j:Nat) (c:Cell):CMap:=fun a' i' j'=>if a'=a∧i'=i∧j'=j then some c else M a' i' j'
theorem MapAt.put {A:Ad} {R:Addr→Prop} {d ca:Addr} {H:Hp} {kvs:List (List Key×V)} {g:Grammar} {x:Text} {M:CMap} {a i j:Nat} {c:Cell} (m:MapAt A R H d kvs g x M) (hv:Vm.Valid g x (a,i,j)) (hc:CellAt A R H ca c):
  MapAt A R (upd H d (.dT (putK kvs (key3 a i j) (.ref ca)))) d (putK kvs (key3 a i j) (.ref ca)) g x (M.set a i j c):=by
 have keep:∀{cb:Addr} {e:Cell},CellAt A R H cb e→CellAt A R (upd H d (.dT (putK kvs (key3 a i j) (.ref ca)))) cb e:=by
  rintro cb e ⟨dx,ea,h1,h2,h3⟩
  exact ⟨dx,ea,by rw [upd_ne (ne_of h1 m.dict (by intro z;cases z))];exact h1,by rw [upd_ne (ne_of h2 m.dict (by intro z;cases z))];exact h2,h3⟩
 have km:∀k,k∈(putK kvs (key3 a i j) (.ref ca)).map (·.1)→k∈kvs.map (·.1)∨k=key3 a i j:=by
  intro k hk
  unfold putK at hk
  split at hk
  ·rw [List.map_map] at hk
   obtain ⟨p,hp,rfl⟩:=List.mem_map.mp hk
   refine .inl (List.mem_map.mpr ⟨p,hp,?_⟩)
   show p.1=(if p.1=key3 a i j then (p.1,V.ref ca) else p).1
   split<;>rfl
  ·rw [List.map_append] at hk
   rcases List.mem_append.mp hk with z|z
   ·exact .inl z
   ·exact .inr (by simpa using z)
 refine ⟨upd_same,?_,fun k hk=>?_,fun a' i' j' h1 h2=>?_,fun a' i' j' c' h1 h2=>?_⟩
 ·cases e:valV kvs (key3 a i j) with
  |none=>exact nd_putK _ m.nd e
  |some y=>
   have h:(putK kvs (key3 a i j) (.ref ca)).map (·.1)=kvs.map (·.1):=by
    unfold putK
    rw [valV_any,e,if_pos (show (some y).isSome=true from rfl),List.map_map]
    apply List.map_congr_left
    intro p _
    show (if p.1=key3 a i j then (p.1,V.ref ca) else p).1=p.1
    split<;>rfl
   rw [h]
   exact m.nd
 ·rcases km k hk with z|z
  ·exact m.keys k z
  ·exact ⟨(a,i,j),hv,z⟩
 ·unfold CMap.set at h2
  rw [valV_put]
  split at h2
  ·cases h2
  ·rename_i ne
   rw [if_neg (fun e=>ne (key3_inj e))]
   exact m.no a' i' j' h1 h2
 ·unfold CMap.set at h2
  rw [valV_put]
  split at h2
  ·rename_i e
   cases h2
   rw [if_pos (by rw [e.1,e.2.1,e.2.2])]
   exact ⟨ca,rfl,keep hc⟩
  ·rename_i ne
   rw [if_neg (fun e=>ne (key3_inj e))]
   obtain ⟨cb,z1,z2⟩:=m.yes a' i' j' c' h1 h2
   exact ⟨cb,z1,keep z2⟩
abbrev Ent:=Sym×Addr×List Addr
def flat (es:List Ent):List Addr:=es.flatMap fun e=>e.2.1::e.2.2
structure Tbs (H0 H:Hp) (tb:Addr) (L:Nat) (tab:Tab) (es:List Ent):Prop where
 dict:H tb=some (.dT (es.map fun e=>(symK e.1,V.ref e.2.1)))
 syms:(es.map (·.1)).Nodup
 tabs:∀e∈es,TabAt H e.2.1 e.2.2 L (tab e.1)
 nd:(flat es).Nodup
 new:∀b∈flat es,H0 b=none
theorem Tbs.same {H0 H H':Hp} {tb:Addr} {L:Nat} {tab:Tab} {es:List Ent} (s:Same H H') (t:Tbs H0 H tb L tab es):Tbs H0 H' tb L tab es:=
 ⟨s _ _ t.dict,t.syms,fun e he=>(t.tabs e he).same s,t.nd,t.new⟩
theorem ent_look:∀{es:List Ent} {e:Ent},(es.map (·.1)).Nodup→e∈es→valV (es.map fun e=>(symK e.1,V.ref e.2.1)) (symK e.1)=some (.ref e.2.1)
 |f::r,e,nd,h=>by
  rw [List.map_cons]
  have nd:(f.1::r.map (·.1)).Nodup:=nd
  obtain ⟨n1,n2⟩:=List.nodup_cons.mp nd
  rcases List.mem_cons.mp h with rfl|h
  ·exact valV_pos rfl
  ·have ne:¬symK f.1=symK e.1:=fun z=>n1 (by rw [symK_inj z];exact List.mem_map.mpr ⟨e,h,rfl⟩)
   rw [valV_neg (p:=(symK f.1,V.ref f.2.1)) ne]
   exact ent_look n2 h
theorem ent_none:∀{es:List Ent} {s:Sym},¬s∈es.map (·.1)→valV (es.map fun e=>(symK e.1,V.ref e.2.1)) (symK s)=none
 | [],_,_=>rfl
 |f::r,s,h=>by
  have ne:¬symK f.1=symK s:=fun z=>h (by rw [←symK_inj z];exact List.mem_cons_self)
  rw [List.map_cons,valV_neg (p:=(symK f.1,V.ref f.2.1)) ne]
  exact ent_none fun z=>h (List.mem_cons_of_mem _ z)
end Lr
namespace Lr
open PySem PySem.Spec PyProof.Rows L2 LX
open Vaglrl (Costs Text Cell)
open Vaglrc (Sym Rule Grammar)
def tabM (k:Costs) (x:Text) (M:CMap):Tab:=fun s i j=>match s with
 | .non a=>(match M a i j with
  |some c=>(c.cost:Int)
  |none=>(Vm.NW:Int))
 | .range lo hi=>rcF k lo hi x i j
def Rw (es:List Ent) (b:Addr):Prop:=b∈flat es
structure CellsSt (A:Ad) (H0 H:Hp) (cp:Addr) (g:Grammar) (k:Costs) (x:Text) (M:CMap) (tb fo:Addr) (kvs:List (List Key×V)) (es:List Ent):Prop where
 same:Same H0 H
 obj:∃dx ga la ca,H cp=some (.ins A.cCells dx (fCells (.ref ga) (.ref la) (.ref ca) (.ref tb) (.ref fo)))∧GramAt A H0 ga g∧TextAt H0 la x∧CostsAt A H0 ca k
 found:MapAt A (Rw es) H fo kvs g x M
 tbs:Tbs H0 H tb x.length (tabM k x M) es
 nons:∀a,a<g.nons→Sym.non a∈es.map (·.1)
 syms:∀r∈g.rules,∀s∈r.rhs,s∈es.map (·.1)
 fo0:H0 fo=none
 ft:fo≠tb
section
variable {A:Ad} {H0 H H':Hp} {cp tb fo:Addr} {g:Grammar} {k:Costs} {x:Text} {M:CMap} {kvs:List (List Key×V)} {es:List Ent}
theorem CellsSt.step (c:CellsSt A H0 H cp g k x M tb fo kvs es) (s:Same H H'):CellsSt A H0 H' cp g k x M tb fo kvs es:=
 ⟨c.same.trans s,let ⟨dx,ga,la,ca,h,r⟩:=c.obj;⟨dx,ga,la,ca,s _ _ h,r⟩,c.found.same s,c.tbs.same s,c.nons,c.syms,c.fo0,c.ft⟩
theorem mem_flat {e:Ent} {b:Addr} (he:e∈es) (hb:b=e.2.1∨b∈e.2.2):b∈flat es:=
 List.mem_flatMap.mpr ⟨e,he,hb.elim (fun z=>z▸List.mem_cons_self) fun z=>List.mem_cons_of_mem _ z⟩
theorem Tbs.lists {L:Nat} {tab:Tab} (t:Tbs H0 H tb L tab es):∀b,Rw es b→∃xs,H b=some (.lst xs):=by
 intro b hb
 obtain ⟨e,he,h⟩:=List.mem_flatMap.mp hb
 have tt:=t.tabs e he
 rcases List.mem_cons.mp h with z|z
 ·exact ⟨_,by rw [z];exact tt.lst⟩
 ·obtain ⟨i,hi⟩:=List.mem_iff_getElem?.mp z
  exact ⟨_,tt.row i b hi⟩
theorem Tbs.look {L:Nat} {tab:Tab} (t:Tbs H0 H tb L tab es) {s:Sym} (hs:s∈es.map (·.1)):∃ta rs,(s,ta,rs)∈es∧valV (es.map fun e=>(symK e.1,V.ref e.2.1)) (symK s)=some (.ref ta)∧TabAt H ta rs L (tab s):=by
 obtain ⟨e,he,rfl⟩:=List.mem_map.mp hs
 exact ⟨e.2.1,e.2.2,he,ent_look t.syms he,t.tabs e he⟩
theorem flat_nd:∀{es:List Ent},(flat es).Nodup→∀e∈es,∀f∈es,∀b,(b=e.2.1∨b∈e.2.2)→(b=f.2.1∨b∈f.2.2)→e=f
 |c::r,nd,e,he,f,hf,b,h1,h2=>by
  have nd:((c.2.1::c.2.2)++flat r).Nodup:=nd
  obtain ⟨n1,n2,n3⟩:=List.nodup_append.mp nd
  have inC:∀{d:Ent},(b=d.2.1∨b∈d.2.2)→b∈d.2.1::d.2.2:=fun h=>by
   rcases h with z|z
   ·rw [z];exact List.mem_cons_self
   ·exact List.mem_cons_of_mem _ z
  rcases List.mem_cons.mp he with he'|he'
  ·rcases List.mem_cons.mp hf with hf'|hf'
   ·rw [he',hf']
   ·rw [he'] at h1
    exact absurd rfl (n3 b (inC h1) b (mem_flat hf' h2))
  ·rcases List.mem_cons.mp hf with hf'|hf'
   ·rw [hf'] at h2
    exact absurd rfl (n3 b (inC h2) b (mem_flat he' h1))
   ·exact flat_nd n2 e he' f hf' b h1 h2
theorem ent_nd:∀{es:List Ent},(flat es).Nodup→∀e∈es,(e.2.1::e.2.2).Nodup
 |c::r,nd,e,he=>by
  have nd:((c.2.1::c.2.2)++flat r).Nodup:=nd
  obtain ⟨n1,n2,n3⟩:=List.nodup_append.mp nd
  rcases List.mem_cons.mp he with rfl|he
  ·exact n1
  ·exact ent_nd n2 e he
end
section
variable {P:Program} {w:World} {K:PySem.W.Frag} {mg:Str→Option Value} {base:Heap} {A:Ad}
def spAt (A:Ad):Sp:=fun vs H Q _=>∃(H0:Hp) (cp tb fo:Addr) (g:Grammar) (k:Costs) (x:Text) (M:CMap) (kvs:List (List Key×V)) (es:List Ent) (a i j:Nat),vs= [.ref cp,vN a,vN i,vN j]∧CellsSt A H0 H cp g k x M tb fo kvs es∧Vm.Valid g x (a,i,j)∧
 (M a i j=none→∀H',Same H H'→Q .non H')∧∀c,M a i j=some c→∀(H':Hp) (ca:Addr),CellAt A (Rw es) H' ca c→Same H H'→Q (.ref ca) H'
theorem scAt:FnScope ["self","nonterminal","i","j"] ["self","nonterminal","i","j"] (defScope sCellsAt):=⟨rfl,rfl,rfl,by decide+kernel,rfl,by decide+kernel,by decide+kernel⟩
theorem okAt {f:Addr} {fd:FuncData} (F:Fun K "at" "Cells.at" sCellsAt f fd) (T:Txt A K mg):FnOk P w K mg base CX0 1 f fd ["self","nonterminal","i","j"] (spAt A):=by
 refine F.ok scAt (fun vs H Q E h=>?_) (fun cdv A' outer s H vs Q E hr h=>?_)
 ·obtain ⟨H0,cp,tb,fo,g,k,x,M,kvs,es,a,i,j,rfl,_⟩:=h
  rfl
 ·obtain ⟨H0,cp,tb,fo,g,k,x,M,kvs,es,a,i,j,rfl,C,hv,q1,q2⟩:=h
  obtain ⟨dx,ga,la,ca,ho,_⟩:=C.obj
  refine ⟨_,pss_one (ps_ret (pe_dget1 (hu_of hr) (pe_fld (pv 0) rfl) (pe_tup (pa_cons (pv 1) (pa_cons (pv 2) (pa_cons (pv 3) pa_nil)))) ⟨rfl,rfl,rfl,rfl⟩)),?_⟩
  refine ⟨_,rfl,cp,_,dx,_,_,rfl,ho,T.lCells,T.nCells_found,fCells_found,fo,rfl,.inr ⟨kvs,.inl C.found.dict⟩,_,rfl,_,rfl,_,rfl,(by show 3≤sizeLine;decide),fun t ht=>?_⟩
  have s1:=Same.upd (o:=.tup [vN a,vN i,vN j]) ht
  have fm:=C.found.same s1
  refine ⟨_,DGet.t (k:=key3 a i j) fm.dict upd_same,?_⟩
  cases e:M a i j with
  |none=>
   rw [fm.no a i j hv e]
   exact q1 e _ s1
  |some c=>
   obtain ⟨cb,z1,z2⟩:=fm.yes a i j c hv e
   rw [z1]
   exact q2 c e _ cb z2 s1
def spKC (A:Ad):Sp:=fun vs H Q _=>∃(H0:Hp) (cp tb fo:Addr) (g:Grammar) (k:Costs) (x:Text) (M:CMap) (kvs:List (List Key×V)) (es:List Ent) (a i j:Nat),vs= [.ref cp,vN a,vN i,vN j]∧CellsSt A H0 H cp g k x M tb fo kvs es∧Vm.Valid g x (a,i,j)∧
 ∀H',Same H H'→Q (.int (tabM k x M (.non a) i j)) H'
theorem scKC:FnScope ["self","nonterminal","i","j"] ["self","nonterminal","i","j"] (defScope sCellsKnownCost):=⟨rfl,rfl,rfl,by decide+kernel,rfl,by decide+kernel,by decide+kernel⟩
theorem okKC {f:Addr} {fd:FuncData} (F:Fun K "known_cost" "Cells.known_cost" sCellsKnownCost f fd) (T:Txt A K mg):FnOk P w K mg base CX0 1 f fd ["self","nonterminal","i","j"] (spKC A):=by
 obtain ⟨t0,kN⟩:=T.kNONTERMINAL
 refine F.ok scKC (fun vs H Q E h=>?_) (fun cdv A' outer s H vs Q E hr h=>?_)
 ·obtain ⟨H0,cp,tb,fo,g,k,x,M,kvs,es,a,i,j,rfl,_⟩:=h
  rfl
 ·obtain ⟨H0,cp,tb,fo,g,k,x,M,kvs,es,a,i,j,rfl,C,hv,q⟩:=h
  obtain ⟨dx,ga,la,ca,ho,_⟩:=C.obj
  obtain ⟨ha,hij,hj⟩:=hv
  have ha:a<g.nons:=ha
  have hij:i≤j:=hij
  have hj:j≤x.length:=hj
  refine ⟨_,pss_one (ps_ret (pe_ix ix_list (pe_ix ix_list (pe_dget (hu_of hr) (pe_fld (pv 0) rfl) (pe_tup (pa_cons (pe_glob (v:=.int 0) rfl kN ⟨_,rfl⟩) (pa_cons (pv 1) pa_nil))) (fun _ _=>rfl)) (pv 2) (fun _ _=>rfl)) (pe_op op_sub (pv 3) (pv 2)) (fun _ _=>rfl))),?_⟩
  refine ⟨_,rfl,cp,_,dx,_,_,rfl,ho,T.lCells,T.nCells_tables,fCells_tables,_,rfl,(by show 2≤sizeLine;decide),fun t ht=>?_⟩
  have s1:=Same.upd (o:=.tup [.int 0,vN a]) ht
  have tm:=C.tbs.same s1
  obtain ⟨ta,rs,_,hlook,htab⟩:=tm.look (C.nons a ha)
  obtain ⟨r,r1,r2,r3⟩:=tab_ix (p:=i) (e:=j - i) htab (by omega)
  refine ⟨tb,.ref ta,rfl,by rw [←hlook];exact DGet.t (k:=symK (.non a)) tm.dict upd_same,?_⟩
  refine ⟨_,rfl,ta,_,_,_,rfl,rfl,SqL.of htab.lst,at_of (j:=i) rfl (by rw [List.getElem?_map,r1];rfl),_,rfl,_,rfl,_,_,rfl,rfl,r,_,_,_,rfl,rfl,SqL.of r2,at_of (j:=j - i) (by show (j:Int) - (i:Int)=_;omega) r3,?_⟩
  rw [show i+(j - i)=j by omega]
  exact q _ s1
end
end Lr
namespace Lr
open PySem PySem.Spec PyProof.Rows L2 LX
open Vaglrl (Costs Text Cell)
open Vaglrc (Sym Rule Grammar)
theorem rowV_congr {n i:Nat} {f f':Nat→Nat→Int} (h:∀j,f' i j=f i j):rowV n f' i=rowV n f i:=by
 unfold rowV
 apply List.map_congr_left
 intro d _
 rw [h]
theorem row_set {n i j:Nat} {f f':Nat→Nat→Int} {v:Int} (h0:i≤j) (h1:f' i j=v) (h2:∀j',j'≠j→f' i j'=f i j'):(rowV n f i).set (j - i) (.int v)=rowV n f' i:=by
 apply List.ext_getElem?
 intro d
 unfold rowV
 rw [List.getElem?_set,List.getElem?_map,List.getElem?_map,List.length_map,List.length_range]
 by_cases q:j - i=d
 ·subst q
  rw [if_pos rfl]
  by_cases z:j - i<n+1 - i
  ·rw [if_pos z,List.getElem?_range z]
   show some (V.int v)=some (V.int (f' i (i+(j - i))))
   rw [show i+(j - i)=j by omega,h1]
  ·rw [if_neg z,List.getElem?_eq_none (by rw [List.length_range];omega)]
   rfl
 ·rw [if_neg q]
  cases e:(List.range (n+1 - i))[d]? with
  |none=>rfl
  |some d'=>
   have hd:d'=d:=by
    have hl:=(List.getElem?_eq_some_iff.mp e).1
    rw [List.length_range] at hl
    rw [List.getElem?_range hl] at e
    exact (Option.some.inj e).symm
   show some (V.int (f i (i+d')))=some (V.int (f' i (i+d')))
   rw [h2 _ (by omega)]
section
variable {A:Ad} {H0 H H':Hp} {cp tb fo:Addr} {g:Grammar} {k:Costs} {x:Text} {M:CMap} {kvs:List (List Key×V)} {es:List Ent}
theorem Tbs.set {L:Nat} {tab tab':Tab} (t:Tbs H0 H tb L tab es) {a i j:Nat} {ta r:Addr} {rs:List Addr} {v:Int} (he:(Sym.non a,ta,rs)∈es) (hr:rs[i]?=some r) (hij:i≤j)
  (h1:tab' (.non a) i j=v) (h2:∀s i' j',¬(s=.non a∧i'=i∧j'=j)→tab' s i' j'=tab s i' j'):
  Tbs H0 (upd H r (.lst ((rowV L (tab (.non a)) i).set (j - i) (.int v)))) tb L tab' es:=by
 have tt:=t.tabs _ he
 have hrow:=tt.row i r hr
 have rmem:r∈rs:=List.mem_of_getElem? hr
 have nd0:=ent_nd t.nd _ he
 have nd0:(ta::rs).Nodup:=nd0
 obtain ⟨nta,ndr⟩:=List.nodup_cons.mp nd0
 refine ⟨by rw [upd_ne (ne_of t.dict hrow (by intro z;cases z))];exact t.dict,t.syms,fun e hem=>?_,t.nd,t.new⟩
 have te:=t.tabs e hem
 by_cases q:e=(Sym.non a,ta,rs)
 ·subst q
  refine ⟨?_,te.len,fun i' r' hi'=>?_⟩
  ·rw [upd_ne (fun z=>nta (by have z:ta=r:=z;rw [z];exact rmem))]
   exact te.lst
  ·by_cases z:r'=r
   ·subst z
    have:i'=i:=nd_ix ndr hi' hr
    subst this
    rw [upd_same]
    congr 2
    exact row_set hij h1 fun j' hj'=>h2 _ _ _ fun y=>hj' y.2.2
   ·rw [upd_ne z,te.row i' r' hi']
    congr 2
    refine (rowV_congr fun j'=>h2 _ _ _ fun y=>z ?_).symm
    rw [y.2.1] at hi'
    rw [hr] at hi'
    exact (Option.some.inj hi').symm
 ·have ns:e.1≠.non a:=fun z=>q (by
   obtain ⟨u,hu⟩:=List.mem_iff_getElem?.mp hem
   obtain ⟨y,hy⟩:=List.mem_iff_getElem?.mp he
   have:=nd_ix t.syms (i:=u) (j:=y) (x:=Sym.non a) (by rw [List.getElem?_map,hu];show some e.1=_;rw [z]) (by rw [List.getElem?_map,hy];rfl)
   rw [this,hy] at hu
   exact (Option.some.inj hu).symm)
  have nr:∀b,(b=e.2.1∨b∈e.2.2)→b≠r:=fun b hb z=>q (flat_nd t.nd e hem _ he b hb (.inr (by rw [z];exact rmem)))
  refine ⟨by rw [upd_ne (nr _ (.inl rfl))];exact te.lst,te.len,fun i' r' hi'=>?_⟩
  rw [upd_ne (nr _ (.inr (List.mem_of_getElem? hi'))),te.row i' r' hi']
  congr 2
  exact (rowV_congr fun j'=>h2 _ _ _ fun y=>ns y.1).symm
theorem tabM_set {a i j:Nat} {c:Cell}:tabM k x (M.set a i j c) (.non a) i j=(c.cost:Int):=by
 show (match (M.set a i j c) a i j with
  |some c=>(c.cost:Int)
  |none=>(Vm.NW:Int))=_
 rw [show (M.set a i j c) a i j=some c by unfold CMap.set;rw [if_pos ⟨rfl,rfl,rfl⟩]]
theorem tabM_ne {a i j:Nat} {c:Cell} (s:Sym) (i' j':Nat) (h:¬(s=.non a∧i'=i∧j'=j)):tabM k x (M.set a i j c) s i' j'=tabM k x M s i' j':=by
 cases s with
 |range lo hi=>rfl
 |non b=>
  have e:(M.set a i j c) b i' j'=M b i' j':=by
   unfold CMap.set
   rw [if_neg (fun z=>h ⟨by rw [z.1],z.2⟩)]
  show (match (M.set a i j c) b i' j' with
   |some c=>(c.cost:Int)
   |none=>(Vm.NW:Int))=_
  rw [e]
  rfl
end
section
variable {P:Program} {w:World} {K:PySem.W.Frag} {mg:Str→Option Value} {base:Heap} {A:Ad}
def spPut (A:Ad):Sp:=fun vs H Q _=>∃(H0:Hp) (cp tb fo ce:Addr) (g:Grammar) (k:Costs) (x:Text) (M:CMap) (kvs:List (List Key×V)) (es:List Ent) (a i j:Nat) (c:Cell),vs= [.ref cp,vN a,vN i,vN j,.ref ce]∧CellsSt A H0 H cp g k x M tb fo kvs es∧Vm.Valid g x (a,i,j)∧
 CellAt A (Rw es) H ce c∧g.nons≤20∧x.length≤12∧∀(H':Hp) (kvs':List (List Key×V)),CellsSt A H0 H' cp g k x (M.set a i j c) tb fo kvs' es→Fix (Rw es) fo H H'→Q .non H'
theorem scPut:FnScope ["self","nonterminal","i","j","cell"] ["self","nonterminal","i","j","cell"] (defScope sCellsPut):=⟨rfl,rfl,rfl,by decide+kernel,rfl,by decide+kernel,by decide+kernel⟩
theorem okPut {f:Addr} {fd:FuncData} (F:Fun K "put" "Cells.put" sCellsPut f fd) (T:Txt A K mg):FnOk P w K mg base CX0 1 f fd ["self","nonterminal","i","j","cell"] (spPut A):=by
 obtain ⟨t0,kN⟩:=T.kNONTERMINAL
 refine F.ok scPut (fun vs H Q E h=>?_) (fun cdv A' outer s H vs Q E hr h=>?_)
 ·obtain ⟨H0,cp,tb,fo,ce,g,k,x,M,kvs,es,a,i,j,c,rfl,_⟩:=h
  rfl
 ·obtain ⟨H0,cp,tb,fo,ce,g,k,x,M,kvs,es,a,i,j,c,rfl,C,hv,hce,hn,hx,q⟩:=h
  obtain ⟨dx,ga,la,ca,ho,hob⟩:=C.obj
  have hv':=hv
  obtain ⟨ha,hij,hj⟩:=hv
  have ha:a<g.nons:=ha
  have hij:i≤j:=hij
  have hj:j≤x.length:=hj
  refine ⟨_,pss_cons (ps_dput (hu_of hr) (pe_fld (pv 0) rfl) (pe_tup (pa_cons (pv 1) (pa_cons (pv 2) (pa_cons (pv 3) pa_nil)))) (pv 4) rfl)
   (pss_one (ps_asg (pe_fld (pv 4) rfl) (pg_sub (pe_ix ix_list (pe_dget (hu_of hr) (pe_fld (pv 0) rfl) (pe_tup (pa_cons (pe_glob (v:=.int 0) rfl kN ⟨_,rfl⟩) (pa_cons (pv 1) pa_nil))) (fun _ _=>rfl)) (pv 2) (fun _ _=>rfl)) (pe_op op_sub (pv 3) (pv 2)) set_list))),?_⟩
  refine ⟨_,rfl,_,rfl,cp,_,dx,_,_,rfl,ho,T.lCells,T.nCells_found,fCells_found,_,rfl,_,rfl,_,rfl,(by show 3≤sizeLine;decide),fun t ht=>?_⟩
  have s1:=Same.upd (o:=.tup [vN a,vN i,vN j]) ht
  have C1:=C.step s1
  have hce1:CellAt A (Rw es) (upd H t (.tup [vN a,vN i,vN j])) ce c:=by
   obtain ⟨d1,e1,z1,z2,z3⟩:=hce
   exact ⟨d1,e1,s1 _ _ z1,s1 _ _ z2,z3⟩
  have tupAt:(upd H t (.tup [vN a,vN i,vN j])) t=some (.tup ((key3 a i j).map kV)):=upd_same
  generalize hH1:upd H t (.tup [vN a,vN i,vN j])=H1 at s1 C1 hce1 tupAt
  have f1:=C1.found
  have kl:=f1.short hn hx
  refine ⟨fo,_,rfl,DPut.t (k:=key3 a i j) f1.dict tupAt (Nat.lt_of_le_of_lt kl (by decide)),?_⟩
  have m2:=f1.put hv' hce1
  have ne2:∀b o,H1 b=some o→b≠fo→(upd H1 fo (.dT (putK kvs (key3 a i j) (.ref ce)))) b=some o:=fun b o e nb=>by rw [upd_ne nb];exact e
  generalize hH2:upd H1 fo (.dT (putK kvs (key3 a i j) (.ref ce)))=H2 at m2 ne2
  have cpfo:cp≠fo:=ne_of (C1.obj.choose_spec.choose_spec.choose_spec.choose_spec.1) f1.dict (by intro z;cases z)
  have ho1:=s1 _ _ ho
  have ho2:=ne2 _ _ ho1 cpfo
  obtain ⟨d1,e1,z1,z2,z3⟩:=hce1
  have ce2:=ne2 _ _ z1 (ne_of z1 f1.dict (by intro z;cases z))
  refine ⟨_,rfl,ce,_,d1,_,_,rfl,ce2,T.lCell,T.nCell_cost,fCell_cost,?_⟩
  refine ⟨_,rfl,cp,_,dx,_,_,rfl,ho2,T.lCells,T.nCells_tables,fCells_tables,_,rfl,(by show 2≤sizeLine;decide),fun t2 ht2=>?_⟩
  have s3:=Same.upd (o:=.tup [.int 0,vN a]) ht2
  have tupAt2:(upd H2 t2 (.tup [.int 0,vN a])) t2=some (.tup ((symK (.non a)).map kV)):=upd_same
  generalize hH3:upd H2 t2 (.tup [.int 0,vN a])=H3 at s3 tupAt2
  have T3:Tbs H0 H3 tb x.length (tabM k x M) es:=by
   have t1:=C1.tbs
   have noFo:∀e∈es,∀b,(b=e.2.1∨b∈e.2.2)→b≠fo:=fun e he b hb z=>by
    obtain ⟨xs,hx'⟩:=t1.lists b (mem_flat he hb)
    rw [z,f1.dict] at hx'
    cases hx'
   refine ⟨s3 _ _ (ne2 _ _ t1.dict (Ne.symm C.ft)),t1.syms,fun e he=>?_,t1.nd,t1.new⟩
   have te:=t1.tabs e he
   exact ⟨s3 _ _ (ne2 _ _ te.lst (noFo e he _ (.inl rfl))),te.len,fun i' r' h'=>s3 _ _ (ne2 _ _ (te.row i' r' h') (noFo e he _ (.inr (List.mem_of_getElem? h'))))⟩
  obtain ⟨ta,rs,hent,hlook,htab⟩:=T3.look (C.nons a ha)
  obtain ⟨r,r1,r2,r3⟩:=tab_ix (p:=i) (e:=j - i) htab (by omega)
  refine ⟨tb,.ref ta,rfl,by rw [←hlook];exact DGet.t (k:=symK (.non a)) T3.dict tupAt2,?_⟩
  refine ⟨_,rfl,ta,_,_,_,rfl,rfl,SqL.of htab.lst,at_of (j:=i) rfl (by rw [List.getElem?_map,r1];rfl),_,rfl,_,rfl,_,_,rfl,rfl,r,_,_,j - i,rfl,rfl,r2,?_,?_⟩
  ·have hlt:=(List.getElem?_eq_some_iff.mp r3).1
   unfold ixN
   rw [if_pos (by show (0:Int)≤(j:Int) - (i:Int);omega),if_pos (by show (j:Int) - (i:Int)<_;omega)]
   congr 1
   show ((j:Int) - (i:Int)).toNat=_
   omega
  ·have rin:Rw es r:=mem_flat hent (.inr (List.mem_of_getElem? r1))
   have T4:=T3.set (tab':=tabM k x (M.set a i j c)) (v:=(c.cost:Int)) hent r1 hij tabM_set (fun s i' j' h=>tabM_ne s i' j' h)
   have m3:=m2.same s3
   have rl3:∀b,Rw es b→∃xs,H3 b=some (.lst xs):=T3.lists
   have fix4:∀b o,H3 b=some o→¬Rw es b→(upd H3 r (.lst ((rowV x.length (tabM k x M (.non a)) i).set (j - i) (vN c.cost)))) b=some o:=fun b o e nb=>by
    rw [upd_ne (fun z=>nb (by rw [z];exact rin))]
    exact e
   have foR:¬Rw es fo:=fun z=>by
    obtain ⟨xs,h'⟩:=rl3 _ z
    rw [m3.dict] at h'
    cases h'
   have r0:H0 r=none:=C.tbs.new r rin
   refine q _ (putK kvs (key3 a i j) (.ref ce)) ⟨fun b o e=>?_,⟨dx,ga,la,ca,?_,hob⟩,⟨fix4 _ _ m3.dict foR,m3.nd,m3.keys,m3.no,fun a' i' j' c' h1 h2=>?_⟩,T4,C.nons,C.syms,C.fo0,C.ft⟩ fun b o e h1 h2=>?_
   ·rw [upd_ne (ne_of_none e r0)]
    exact s3 _ _ (ne2 _ _ (s1 _ _ (C.same _ _ e)) (ne_of_none e C.fo0))
   ·refine fix4 _ _ (s3 _ _ ho2) fun z=>?_
    obtain ⟨xs,h'⟩:=rl3 _ z
    rw [s3 _ _ ho2] at h'
    cases h'
   ·obtain ⟨cb,y1,d2,e2,y2,y3,y4⟩:=m3.yes a' i' j' c' h1 h2
    refine ⟨cb,y1,d2,e2,fix4 _ _ y2 (fun z=>?_),fix4 _ _ y3 y4,y4⟩
    obtain ⟨xs,h'⟩:=rl3 _ z
    rw [y2] at h'
    cases h'
   ·exact fix4 _ _ (s3 _ _ (ne2 _ _ (s1 _ _ e) h2)) h1
end
end Lr
namespace Lr
open PySem PySem.Spec PyProof.Rows L2 LX
open Vaglrl (Costs Text Cell)
open Vaglrc (Sym Rule Grammar)
theorem flat_app (es fs:List Ent):flat (es++fs)=flat es++flat fs:=by unfold flat;rw [List.flatMap_append]
theorem flat_one (e:Ent):flat [e]=e.2.1::e.2.2:=by unfold flat;simp
theorem Tbs.add {H0 H H1:Hp} {tb ta:Addr} {L:Nat} {tab:Tab} {es:List Ent} {s:Sym} {rs:List Addr} (t:Tbs H0 H tb L tab es) (s0:Same H0 H) (hs:¬s∈es.map (·.1)) (sm:Same H H1) (tt:TabAt H1 ta rs L (tab s)) (nt:NewTab H ta rs):
  Tbs H0 (upd H1 tb (.dT (putK (es.map fun e=>(symK e.1,V.ref e.2.1)) (symK s) (.ref ta)))) tb L tab (es++ [(s,ta,rs)]):=by
 have dict1:=sm _ _ t.dict
 have keep:∀b xs,H1 b=some (.lst xs)→b≠tb:=fun b xs e=>ne_of e dict1 (by intro z;cases z)
 have stay:∀{a:Addr} {qs:List Addr} {f:Nat→Nat→Int},TabAt H1 a qs L f→TabAt (upd H1 tb (.dT (putK (es.map fun e=>(symK e.1,V.ref e.2.1)) (symK s) (.ref ta)))) a qs L f:=fun {a qs f} z=>
  ⟨by rw [upd_ne (keep _ _ z.lst)];exact z.lst,z.len,fun i r h=>by rw [upd_ne (keep _ _ (z.row i r h))];exact z.row i r h⟩
 refine ⟨?_,?_,fun e he=>?_,?_,fun b hb=>?_⟩
 ·rw [upd_same,putK_new _ (ent_none hs),List.map_append]
  rfl
 ·rw [List.map_append]
  refine List.nodup_append.mpr ⟨t.syms,by simp,fun a ha b hb e=>hs ?_⟩
  have hb:b=s:=by simpa using hb
  rw [←hb,←e]
  exact ha
 ·rcases List.mem_append.mp he with h|h
  ·exact stay ((t.tabs e h).same sm)
  ·rw [List.mem_singleton.mp h]
   exact stay tt
 ·rw [flat_app,flat_one]
  refine List.nodup_append.mpr ⟨t.nd,?_,fun a ha b hb z=>?_⟩
  ·exact List.nodup_cons.mpr ⟨fun m=>(nt.r0 _ m).2 rfl,nt.nd⟩
  ·obtain ⟨xs,hx⟩:=t.lists a ha
   have hn:H b=none:=by
    rcases List.mem_cons.mp hb with y|y
    ·rw [y];exact nt.a0
    ·exact (nt.r0 b y).1
   rw [z,hn] at hx
   cases hx
 ·rw [flat_app,flat_one] at hb
  rcases List.mem_append.mp hb with h|h
  ·exact t.new b h
  ·rcases List.mem_cons.mp h with y|y
   ·rw [y];exact s0.free nt.a0
   ·exact s0.free (nt.r0 b y).1
section
variable {P:Program} {w:World} {K:PySem.W.Frag} {mg:Str→Option Value} {base:Heap} {A:Ad}
def noM:CMap:=fun _ _ _=>none
def spST (A:Ad):Sp:=fun vs H Q _=>∃(ga la ca:Addr) (g:Grammar) (k:Costs) (x:Text),vs= [.ref ga,.ref la,.ref ca]∧GramAt A H ga g∧Vm.GOk g∧TextAt H la x∧CostsAt A H ca k∧Vm.CostsOk k∧x.length≤12∧
 ∀(H':Hp) (tb:Addr) (es:List Ent),Tbs H H' tb x.length (tabM k x noM) es→(∀a,a<g.nons→Sym.non a∈es.map (·.1))→(∀r∈g.rules,∀s∈r.rhs,s∈es.map (·.1))→Same H H'→H tb=none→Q (.ref tb) H'
theorem scST:FnScope ["grammar","letters","costs","tables","nonterminal","rule","symbol"] ["grammar","letters","costs"] (defScope sSymbolTables):=⟨rfl,rfl,rfl,by decide+kernel,rfl,by decide+kernel,by decide+kernel⟩
theorem okST {f fE fR:Addr} {fd fdE fdR:FuncData} (F:Fun K "symbol_tables" "symbol_tables" sSymbolTables f fd) (T:Txt A K mg) (ET:Cl P w K mg base CX0 1 "empty_table" fE fdE ["length"] spET)
  (RT:Cl P w K mg base CX0 3 "range_table" fR fdR ["lo","hi","letters","costs"] (spRT A)):FnOk P w K mg base CX0 4 f fd ["grammar","letters","costs"] (spST A):=by
 obtain ⟨t0,kN⟩:=T.kNONTERMINAL
 refine F.ok scST (fun vs H Q E h=>?_) (fun cdv A' outer s H vs Q E hr h=>?_)
 ·obtain ⟨ga,la,ca,g,k,x,rfl,_⟩:=h
  rfl
 ·obtain ⟨ga,la,ca,g,k,x,rfl,hg,go,hx,hc,ok,hl,q⟩:=h
  have hr1:Room 1 _:=hr.mono (by decide)
  refine ⟨_,pss_cons (ps_set (i:=3) scST.nd rfl (Or.inl rfl) pe_dnewT)
   (pss_cons (ps_for PassesOwn.never rfl (pi_range1 rfl T.b_range (pa_cons (pe_fld (pv 0) rfl) pa_nil)) (pg_name (i:=4) scST.nd rfl (Or.inl rfl))
    (pss_one (ps_dput (hu_of hr) (pv 3) (pe_tup (pa_cons (pe_glob (v:=.int 0) rfl kN ⟨_,rfl⟩) (pa_cons (pv 4) pa_nil))) (pe_call ET.ok hr1 rfl ET.m ET.kp ET.b .nil pass0 (pa_cons (pe_callB call_len_seq (by rfl) T.b_len PySem.boot_len (pa_cons (pv 1) pa_nil)) pa_nil)) rfl)))
   (pss_cons (ps_for PassesOwn.never rfl (pi_list (pe_fld (pv 0) rfl)) (pg_name (i:=5) scST.nd rfl (Or.inl rfl))
    (pss_one (ps_for PassesOwn.never rfl (pi_list (pe_fld (pv 5) rfl)) (pg_name (i:=6) scST.nd rfl (Or.inl rfl))
     (pss_one (ps_if (pt_cmp (pc_dnotin (hu_of hr) (pv 6) (pv 3)))
      (pss_one (ps_dput (hu_of hr) (pv 3) (pv 6) (pe_call RT.ok hr rfl RT.m RT.kp RT.b .nil pass0 (pa_cons (pe_ix ix_tup (pv 6) pe_int (fun _ _=>rfl)) (pa_cons (pe_ix ix_tup (pv 6) pe_int (fun _ _=>rfl)) (pa_cons (pv 1) (pa_cons (pv 2) pa_nil))))) rfl)) pss_nil)))))
   (pss_one (ps_ret (pv 3))))),?_⟩
  obtain ⟨dxg,ra,ps,hgo,hrs⟩:=hg
  intro tb htb
  have s1:=Same.upd (o:=.dT []) htb
  have t1:Tbs H (upd H tb (.dT [])) tb x.length (tabM k x noM) []:=⟨upd_same,by simp,(fun e he=>nomatch he),by simp [flat],fun b hb=>by simp [flat] at hb⟩
  generalize hH1:upd H tb (.dT [])=H1 at s1 t1
  refine ⟨_,rfl,ga,_,dxg,_,_,rfl,s1 _ _ hgo,T.lGrammar,T.nGrammar_nonterminals,fGrammar_nonterminals,(g.nons:Int),rfl,by omega,by have:=go.n20;omega,for_range (fun n σ H'=>Same H H'∧n≤g.nons∧∃(es:List Ent) (v4:Option V),Tbs H H' tb x.length (tabM k x noM) es∧es.map (·.1)=(List.range n).map Sym.non∧
   σ= [some (.ref ga),some (.ref la),some (.ref ca),some (.ref tb),v4,none,none]) ?_ ?_ ?_⟩
  ·exact ⟨s1,Nat.zero_le _,[],none,t1,rfl,rfl⟩
  ·rintro n σ H' hn ⟨s2,hn',es,v4,t2,hes,rfl⟩
   have hn:n<g.nons:=by omega
   have hel:es.length=n:=by
    have:=congrArg List.length hes
    rw [List.length_map,List.length_map,List.length_range] at this
    exact this
   have new:¬Sym.non n∈es.map (·.1):=fun z=>by
    rw [hes] at z
    obtain ⟨m,hm,e⟩:=List.mem_map.mp z
    cases e
    have:=List.mem_range.mp hm
    omega
   refine ⟨_,rfl,la,_,rfl,.inl (SqL.of (hx.same s2)),x.length,by rw [List.length_map];rfl,by omega,fun H4 ta rs tt nt s4=>?_⟩
   refine ⟨_,rfl,_,rfl,(by show 2≤sizeLine;decide),fun t ht=>?_⟩
   have s5:=Same.upd (o:=.tup [.int 0,.int (0+(n:Int))]) ht
   have tupAt:(upd H4 t (.tup [.int 0,.int (0+(n:Int))])) t=some (.tup ((symK (.non n)).map kV)):=by
    rw [upd_same]
    show some (HO.tup [V.int 0,V.int (0+(n:Int))])=some (HO.tup [V.int 0,V.int (n:Int)])
    rw [Int.zero_add]
   refine ⟨tb,_,rfl,DPut.t (k:=symK (.non n)) (s5 _ _ (s4 _ _ t2.dict)) tupAt (small1000 (by rw [List.length_map,hel];have:=go.n20;omega)),?_⟩
   have t3:=t2.add s2 new (s4.trans s5) (tt.same s5) nt
   refine ⟨fun b o e=>?_,by omega,es++ [(.non n,ta,rs)],_,t3,?_,rfl⟩
   ·rw [upd_ne (ne_of_none e htb)]
    exact s5 _ _ (s4 _ _ (s2 _ _ e))
   ·rw [List.map_append,hes,List.range_succ,List.map_append]
    rfl
  ·rintro σ H2 ⟨s2,_,es0,v40,t2,hes0,rfl⟩
   have e1:((g.nons:Int)).toNat=g.nons:=by omega
   rw [e1] at hes0
   have hel0:es0.length=g.nons:=by
    have:=congrArg List.length hes0
    rw [List.length_map,List.length_map,List.length_range] at this
    exact this
   have hnon0:∀a,a<g.nons→Sym.non a∈es0.map (·.1):=fun a ha=>by
    rw [hes0]
    exact List.mem_map.mpr ⟨a,List.mem_range.mpr ha,rfl⟩
   refine ⟨_,rfl,ga,_,dxg,_,_,rfl,s2 _ _ hgo,T.lGrammar,T.nGrammar_rules,fGrammar_rules,ra,rfl,⟨_,SqL.of (s2 _ _ hrs.lst)⟩,for_list (K:=K) (a:=ra) (xs:=ps.map V.ref) (fun m σ H'=>Same H H'∧∃(es:List Ent) (v4 v5 v6:Option V),Tbs H H' tb x.length (tabM k x noM) es∧(∀a,a<g.nons→Sym.non a∈es.map (·.1))∧
    (∀m',m'<m→∀r,g.rules[m']?=some r→∀s∈r.rhs,s∈es.map (·.1))∧es.length≤20+8 * m∧σ= [some (.ref ga),some (.ref la),some (.ref ca),some (.ref tb),v4,v5,v6]) ?_ ?_ ?_ ?_⟩
   ·exact ⟨s2,es0,_,_,_,t2,hnon0,(fun m' hm'=>absurd hm' (by omega)),by have:=go.n20;omega,rfl⟩
   ·exact fun m σ H' _ h=>SqL.of (h.1 _ _ hrs.lst)
   ·rintro m v σ H' hv ⟨s3,es,v4,v5,v6,t3,hnon,hru,hlen,rfl⟩
    rw [List.getElem?_map] at hv
    obtain ⟨p,hp⟩:∃p,ps[m]?=some p:=by
     cases e:ps[m]? with
     |none=>rw [e] at hv;cases hv
     |some p=>exact ⟨p,rfl⟩
    rw [hp] at hv
    have hv:V.ref p=v:=Option.some.inj hv
    subst hv
    have hml:m<g.rules.length:=by rw [←hrs.len];exact (List.getElem?_eq_some_iff.mp hp).1
    obtain ⟨dxr,sa,qs,hro,hsy⟩:=hrs.at_ m p g.rules[m] hp (List.getElem?_eq_getElem hml)
    have hmem:g.rules[m]∈g.rules:=List.getElem_mem hml
    have h60:=go.r60
    refine ⟨_,rfl,p,_,dxr,_,_,rfl,s3 _ _ hro,T.lRule,T.nRule_symbols,fRule_symbols,sa,rfl,⟨_,SqL.of (s3 _ _ hsy.lst)⟩,for_list (K:=K) (a:=sa) (xs:=qs.map V.ref) (fun i σ H'=>Same H H'∧∃(es:List Ent) (v4 v6:Option V),Tbs H H' tb x.length (tabM k x noM) es∧(∀a,a<g.nons→Sym.non a∈es.map (·.1))∧
     (∀m',m'<m→∀r,g.rules[m']?=some r→∀s∈r.rhs,s∈es.map (·.1))∧(∀i' s,i'<i→g.rules[m].rhs[i']?=some s→s∈es.map (·.1))∧es.length≤20+8 * m+i∧σ= [some (.ref ga),some (.ref la),some (.ref ca),some (.ref tb),v4,some (.ref p),v6]) ?_ ?_ ?_ ?_⟩
    ·exact ⟨s3,es,_,_,t3,hnon,hru,(fun i' s hi'=>absurd hi' (by omega)),by omega,rfl⟩
    ·exact fun i σ H' _ h=>SqL.of (h.1 _ _ hsy.lst)
    ·rintro i u σ H5 hu ⟨s5,es5,v45,v65,t5,hnon5,hru5,hsy5,hlen5,rfl⟩
     rw [List.getElem?_map] at hu
     obtain ⟨sq,hsq⟩:∃sq,qs[i]?=some sq:=by
      cases e:qs[i]? with
      |none=>rw [e] at hu;cases hu
      |some sq=>exact ⟨sq,rfl⟩
     rw [hsq] at hu
     have hu:V.ref sq=u:=Option.some.inj hu
     subst hu
     have hil:i<g.rules[m].rhs.length:=by rw [←hsy.len];exact (List.getElem?_eq_some_iff.mp hsq).1
     obtain ⟨sy,hsyi⟩:∃sy,g.rules[m].rhs[i]?=some sy:=⟨_,List.getElem?_eq_getElem hil⟩
     have htup:=s5 _ _ (hsy.at_ i sq sy hsq hsyi)
     have hsm:sy∈g.rules[m].rhs:=List.mem_of_getElem? hsyi
     have h8:=go.syms _ hmem
     have okS:=go.sym _ hmem sy hsm
     refine ⟨_,rfl,_,rfl,tb,_,rfl,DGet.t (k:=symK sy) t5.dict htup,_,rfl,?_⟩
     by_cases hin:sy∈es5.map (·.1)
     ·obtain ⟨ta,rs,_,hlook,_⟩:=t5.look hin
      rw [hlook]
      refine iteF ?_
      refine ⟨s5,es5,_,_,t5,hnon5,hru5,fun i' s' hi' hs'=>?_,by omega,rfl⟩
      by_cases z:i'=i
      ·rw [z,hsyi] at hs'
       cases hs'
       exact hin
      ·exact hsy5 i' s' (by omega) hs'
     ·rw [ent_none hin]
      refine iteT ?_
      cases sy with
      |non b=>exact absurd (hnon5 b okS) hin
      |range lo hi=>
       refine ⟨_,rfl,sq,_,_,_,rfl,rfl,SqT.of htup,at_of (j:=1) (v:=vN lo) rfl rfl,?_⟩
       refine ⟨_,rfl,sq,_,_,_,rfl,rfl,SqT.of htup,at_of (j:=2) (v:=vN hi) rfl rfl,?_⟩
       refine ⟨_,rfl,_,rfl,lo,hi,la,ca,x,k,rfl,hx.same s5,hc.same s5,ok,by omega,fun H6 ta rs tt nt s6=>?_⟩
       refine ⟨_,rfl,_,rfl,tb,_,rfl,DPut.t (k:=symK (.range lo hi)) (s6 _ _ t5.dict) (s6 _ _ htup) (small1000 (by rw [List.length_map];omega)),?_⟩
       have t7:=t5.add (tab:=tabM k x noM) (s:=.range lo hi) s5 hin s6 tt nt
       have sub:∀s',s'∈es5.map (·.1)→s'∈(es5++ [(Sym.range lo hi,ta,rs)]).map (·.1):=fun s' h'=>by
        rw [List.map_append]
        exact List.mem_append_left _ h'
       refine ⟨fun b o e=>?_,_,_,_,t7,fun a ha=>sub _ (hnon5 a ha),fun m' hm' r hr' s' hs'=>sub _ (hru5 m' hm' r hr' s' hs'),fun i' s' hi' hs'=>?_,by rw [List.length_append];show es5.length+1≤_;omega,rfl⟩
       ·rw [upd_ne (ne_of_none e htb)]
        exact s6 _ _ (s5 _ _ e)
       ·by_cases z:i'=i
        ·rw [z,hsyi] at hs'
         cases hs'
         rw [List.map_append]
         exact List.mem_append_right _ (by simp)
        ·exact sub _ (hsy5 i' s' (by omega) hs')
    ·rintro σ H5 ⟨s5,es5,v45,v65,t5,hnon5,hru5,hsy5,hlen5,rfl⟩
     have h8:=go.syms _ hmem
     rw [List.length_map,hsy.len] at hsy5 hlen5
     refine ⟨s5,es5,_,_,_,t5,hnon5,fun m' hm' r hr' s' hs'=>?_,by omega,rfl⟩
     by_cases z:m'=m
     ·rw [z,List.getElem?_eq_getElem hml] at hr'
      cases hr'
      obtain ⟨i',hi'⟩:=List.mem_iff_getElem?.mp hs'
      exact hsy5 i' s' ((List.getElem?_eq_some_iff.mp hi').1) hi'
     ·exact hru5 m' (by omega) r hr' s' hs'
   ·rintro σ H' ⟨s3,es,v4,v5,v6,t3,hnon,hru,hlen,rfl⟩
    rw [List.length_map,hrs.len] at hru
    refine ⟨_,rfl,q H' tb es t3 hnon (fun r hr' s' hs'=>?_) s3 htb⟩
    obtain ⟨m',hm'⟩:=List.mem_iff_getElem?.mp hr'
    exact hru m' ((List.getElem?_eq_some_iff.mp hm').1) r hm' s' hs'
end
end Lr
namespace Lr
open PySem PySem.Spec PyProof.Rows L2 LX
open Vaglrl (Costs Text Cell)
open Vaglrc (Sym Rule Grammar)
theorem Tbs.ins {H0 H H':Hp} {tb p C dx:Addr} {fs:List (Str×V)} {L:Nat} {tab:Tab} {es:List Ent} (hp:H p=some (.ins C dx fs)) (kp:Kept p H H') (t:Tbs H0 H tb L tab es):Tbs H0 H' tb L tab es:=by
 refine ⟨kp _ _ t.dict (ne_of t.dict hp (by intro z;cases z)),t.syms,fun e he=>?_,t.nd,t.new⟩
 have te:=t.tabs e he
 exact ⟨kp _ _ te.lst (ne_of te.lst hp (by intro z;cases z)),te.len,fun i r h=>kp _ _ (te.row i r h) (ne_of (te.row i r h) hp (by intro z;cases z))⟩
section
variable {P:Program} {w:World} {K:PySem.W.Frag} {mg:Str→Option Value} {base:Heap} {A:Ad}
def spCellsI (A:Ad):Sp:=fun vs H Q _=>∃(H0:Hp) (p dx ga la ca:Addr) (g:Grammar) (k:Costs) (x:Text),vs= [.ref p,.ref ga,.ref la,.ref ca]∧H p=some (.ins A.cCells dx [])∧Same H0 H∧H0 p=none∧
 GramAt A H0 ga g∧Vm.GOk g∧TextAt H0 la x∧CostsAt A H0 ca k∧Vm.CostsOk k∧x.length≤12∧
 ∀(H':Hp) (tb fo:Addr) (es:List Ent),CellsSt A H0 H' p g k x noM tb fo [] es→Kept p H H'→Q .non H'
theorem scCI:FnScope ["self","grammar","letters","costs"] ["self","grammar","letters","costs"] (defScope sCellsInit):=⟨rfl,rfl,rfl,by decide+kernel,rfl,by decide+kernel,by decide+kernel⟩
theorem okCI {f fS:Addr} {fd fdS:FuncData} (F:Fun K "__init__" "Cells.__init__" sCellsInit f fd) (T:Txt A K mg) (ST:Cl P w K mg base CX0 4 "symbol_tables" fS fdS ["grammar","letters","costs"] (spST A)):
  FnOk P w K mg base CX0 5 f fd ["self","grammar","letters","costs"] (spCellsI A):=by
 refine F.ok scCI (fun vs H Q E h=>?_) (fun cdv A' outer s H vs Q E hr h=>?_)
 ·obtain ⟨H0,p,dx,ga,la,ca,g,k,x,rfl,_⟩:=h
  rfl
 ·obtain ⟨H0,p,dx,ga,la,ca,g,k,x,rfl,hp,s0,p0,hg,go,hx,hc,ok,hl,q⟩:=h
  refine ⟨_,pss_cons (ps_fld (pv 0) (pv 1) rfl) (pss_cons (ps_fld (pv 0) (pv 2) rfl) (pss_cons (ps_fld (pv 0) (pv 3) rfl)
   (pss_cons (ps_fld (pv 0) (pe_call ST.ok hr rfl ST.m ST.kp ST.b .nil pass0 (pa_cons (pv 1) (pa_cons (pv 2) (pa_cons (pv 3) pa_nil)))) rfl)
   (pss_one (ps_fld (pv 0) pe_dnewT rfl))))),?_⟩
  refine ⟨_,rfl,_,rfl,p,_,dx,_,rfl,hp,T.lCells,T.nCells_grammar,(by show 0<1000;decide),?_⟩
  refine ⟨_,rfl,_,rfl,p,_,dx,_,rfl,upd_same,T.lCells,T.nCells_letters,(by repeat (first|rw [putF_nil]|rw [putF_ne (by decide+kernel)]);show 1<1000;decide),?_⟩
  refine ⟨_,rfl,_,rfl,p,_,dx,_,rfl,upd_same,T.lCells,T.nCells_costs,(by repeat (first|rw [putF_nil]|rw [putF_ne (by decide+kernel)]);show 2<1000;decide),?_⟩
  have hin:∀{v:V} {fs:List (Str×V)} {H1:Hp},Kept p H H1→Same H0 H1:=fun {v fs H1} kp b o e=>kp b o (s0 b o e) (ne_of_none e p0)
  have k1:Kept p H (upd (upd (upd H p (.ins A.cCells dx (putF "grammar" (.ref ga) []))) p (.ins A.cCells dx (putF "letters" (.ref la) (putF "grammar" (.ref ga) [])))) p (.ins A.cCells dx (putF "costs" (.ref ca) (putF "letters" (.ref la) (putF "grammar" (.ref ga) []))))):=
   (Kept.upd.trans Kept.upd).trans Kept.upd
  have hp1:(upd (upd (upd H p (.ins A.cCells dx (putF "grammar" (.ref ga) []))) p (.ins A.cCells dx (putF "letters" (.ref la) (putF "grammar" (.ref ga) [])))) p (.ins A.cCells dx (putF "costs" (.ref ca) (putF "letters" (.ref la) (putF "grammar" (.ref ga) []))))) p=some (.ins A.cCells dx (putF "costs" (.ref ca) (putF "letters" (.ref la) (putF "grammar" (.ref ga) [])))):=upd_same
  generalize hH1:(upd (upd (upd H p (.ins A.cCells dx (putF "grammar" (.ref ga) []))) p (.ins A.cCells dx (putF "letters" (.ref la) (putF "grammar" (.ref ga) [])))) p (.ins A.cCells dx (putF "costs" (.ref ca) (putF "letters" (.ref la) (putF "grammar" (.ref ga) [])))))=H1 at k1 hp1
  have s1:Same H0 H1:=hin (v:=.non) (fs:= []) k1
  refine ⟨_,rfl,_,rfl,_,rfl,ga,la,ca,g,k,x,rfl,hg.same s1,go,hx.same s1,hc.same s1,ok,hl,fun H2 tb es t2 hn hs s2 tb0=>?_⟩
  refine ⟨_,rfl,p,_,dx,_,rfl,s2 _ _ hp1,T.lCells,T.nCells_tables,(by repeat (first|rw [putF_nil]|rw [putF_ne (by decide+kernel)]);show 3<1000;decide),?_⟩
  intro fo hfo
  have pfo:p≠fo:=fun z=>by rw [←z,upd_same] at hfo;cases hfo
  refine ⟨_,rfl,p,_,dx,_,rfl,Eq.trans (upd_ne pfo) upd_same,T.lCells,T.nCells_found,(by repeat (first|rw [putF_nil]|rw [putF_ne (by decide+kernel)]);show 4<1000;decide),?_⟩
  ·skip
   have hp2:=s2 _ _ hp1
   have kA:Kept p H2 (upd H2 p (.ins A.cCells dx (putF "tables" (.ref tb) (putF "costs" (.ref ca) (putF "letters" (.ref la) (putF "grammar" (.ref ga) [])))))):=Kept.upd
   have sB:=Same.upd (o:=.dT []) hfo
   have hfo2:H2 fo=none:=by rw [upd_ne (Ne.symm pfo)] at hfo;exact hfo
   have fo0:H0 fo=none:=(s1.trans s2).free hfo2
   have t3:Tbs H0 H2 tb x.length (tabM k x noM) es:=⟨t2.dict,t2.syms,t2.tabs,t2.nd,fun b hb=>s1.free (t2.new b hb)⟩
   have t4:=(t3.ins hp2 kA).same sB
   have hp4:(upd (upd H2 p (.ins A.cCells dx (putF "tables" (.ref tb) (putF "costs" (.ref ca) (putF "letters" (.ref la) (putF "grammar" (.ref ga) [])))))) fo (.dT [])) p=some (.ins A.cCells dx (putF "tables" (.ref tb) (putF "costs" (.ref ca) (putF "letters" (.ref la) (putF "grammar" (.ref ga) []))))):=by
    rw [upd_ne pfo]
    exact upd_same
   have kall:Kept p H (upd (upd H2 p (.ins A.cCells dx (putF "tables" (.ref tb) (putF "costs" (.ref ca) (putF "letters" (.ref la) (putF "grammar" (.ref ga) [])))))) fo (.dT [])):=((k1.trans (Same.kept s2)).trans kA).trans (Same.kept sB)
   have t5:=t4.ins hp4 (Kept.upd (o:=.ins A.cCells dx (putF "found" (.ref fo) (putF "tables" (.ref tb) (putF "costs" (.ref ca) (putF "letters" (.ref la) (putF "grammar" (.ref ga) [])))))))
   refine q _ tb fo es ⟨hin (v:=.non) (fs:= []) (kall.trans Kept.upd),⟨dx,ga,la,ca,by rw [upd_same,fCells_mk],hg,hx,hc⟩,⟨?_,by simp,(fun k hk=>nomatch hk),(fun a i j _ _=>rfl),(fun a i j c _ h=>nomatch h)⟩,t5,hn,hs,fo0,?_⟩ (kall.trans Kept.upd)
   ·rw [upd_ne (Ne.symm pfo)]
    exact upd_same
   ·intro z
    rw [z,t2.dict] at hfo2
    cases hfo2
end
end Lr
namespace Lr
open PySem PySem.Spec PyProof.Rows L2 LX
open Vaglrl (Costs Text Cell)
open Vaglrc (Sym Rule Grammar)
theorem tabM_C {g:Grammar} {k:Costs} {x:Text} {m:Nat} (s:Sym) (i j:Nat):tabM k x (Vm.C g k x m) s i j=Vm.tab k x (Vm.T g k x m) s i j:=by
 cases s with
 |range lo hi=>
  unfold Vm.tab
  rw [Vm.sym_range]
  rfl
 |non a=>
  unfold Vm.tab
  rw [Vm.sym_non]
  show (match Vm.C g k x m a i j with
   |some c=>(c.cost:Int)
   |none=>(Vm.NW:Int))=_
  cases Vm.C g k x m a i j<;>rfl
def cur (C N:CMap):CMap:=fun a i j=>match N a i j with
 |some c=>some c
 |none=>C a i j
section
variable {A:Ad} {H0 H H':Hp} {cp tb fo nw:Addr} {g:Grammar} {k:Costs} {x:Text} {M:CMap} {kvs knv:List (List Key×V)} {es:List Ent}
theorem CellsSt.news (c:CellsSt A H0 H cp g k x M tb fo kvs es) (hn:H nw=some (.dT knv)) (h1:nw≠fo) (h2:nw≠tb) (h0:H0 nw=none) (kp:Kept nw H H'):CellsSt A H0 H' cp g k x M tb fo kvs es:=by
 refine ⟨fun b o e=>kp b o (c.same b o e) (ne_of_none e h0),?_,?_,?_,c.nons,c.syms,c.fo0,c.ft⟩
 ·obtain ⟨dx,ga,la,ca,h,r⟩:=c.obj
  exact ⟨dx,ga,la,ca,kp _ _ h (ne_of h hn (by intro z;cases z)),r⟩
 ·have f:=c.found
  refine ⟨kp _ _ f.dict (Ne.symm h1),f.nd,f.keys,f.no,fun a i j cc y1 y2=>?_⟩
  obtain ⟨ca,z1,dx,ea,z2,z3,z4⟩:=f.yes a i j cc y1 y2
  exact ⟨ca,z1,dx,ea,kp _ _ z2 (ne_of z2 hn (by intro z;cases z)),kp _ _ z3 (ne_of z3 hn (by intro z;cases z)),z4⟩
 ·have t:=c.tbs
  refine ⟨kp _ _ t.dict (Ne.symm h2),t.syms,fun e he=>?_,t.nd,t.new⟩
  have te:=t.tabs e he
  exact ⟨kp _ _ te.lst (ne_of te.lst hn (by intro z;cases z)),te.len,fun i r h=>kp _ _ (te.row i r h) (ne_of (te.row i r h) hn (by intro z;cases z))⟩
end
structure LRt (g:Grammar) (k:Costs) (x:Text) (m:Nat) (na:Nat) (r:Rule) (N:CMap) (pr:Nat→Nat→Prop) (N':CMap):Prop where
 yes:∀i j,i≤j→j≤x.length→pr i j→cur (Vm.C g k x m) N' r.lhs i j=Vaglrl.lower (cur (Vm.C g k x m) N r.lhs i j) (Vm.ruleCell k x (Vm.T g k x m) (na,r) i j)
 no:∀b i j,Vm.Valid g x (b,i,j)→¬(b=r.lhs∧pr i j)→N' b i j=N b i j
 imp:∀b i j c,Vm.Valid g x (b,i,j)→N' b i j=some c→¬Vm.Le (Vm.C g k x m b i j) (some c)∧c.cost<Vm.NW
section
variable {g:Grammar} {k:Costs} {x:Text} {m na:Nat} {r:Rule} {N N':CMap} {pr pr':Nat→Nat→Prop} {i j:Nat}
theorem LRt.congr (h:LRt g k x m na r N pr N') (e:∀i j,i≤j→j≤x.length→(pr' i j↔pr i j)):LRt g k x m na r N pr' N':=
 ⟨fun i j h1 h2 h3=>h.yes i j h1 h2 ((e i j h1 h2).mp h3),fun b i j h1 h2=>h.no b i j h1 fun z=>h2 ⟨z.1,(e i j h1.2.1 h1.2.2).mpr z.2⟩,h.imp⟩
theorem cur_same {C:CMap} {a i j:Nat} (h:N' a i j=N a i j):cur C N' a i j=cur C N a i j:=by unfold cur;rw [h]
theorem LRt.skip (h:LRt g k x m na r N pr N') (hv:Vm.Valid g x (r.lhs,i,j)) (np:¬pr i j) (hle:Vm.Le (cur (Vm.C g k x m) N' r.lhs i j) (Vm.ruleCell k x (Vm.T g k x m) (na,r) i j)):
  LRt g k x m na r N (fun i' j'=>pr i' j'∨(i'=i∧j'=j)) N':=by
 refine ⟨fun i' j' h1 h2 h3=>?_,fun b i' j' h1 h2=>h.no b i' j' h1 fun z=>h2 ⟨z.1,.inl z.2⟩,h.imp⟩
 rcases h3 with h3|⟨rfl,rfl⟩
 ·exact h.yes i' j' h1 h2 h3
 ·have e:=cur_same (C:=Vm.C g k x m) (h.no r.lhs i' j' hv fun z=>np z.2)
  rw [e] at hle ⊢
  exact (Vm.lower_stay hle).symm
theorem LRt.put {c:Cell} (h:LRt g k x m na r N pr N') (hv:Vm.Valid g x (r.lhs,i,j)) (np:¬pr i j) (hc:Vm.ruleCell k x (Vm.T g k x m) (na,r) i j=some c) (hle:¬Vm.Le (cur (Vm.C g k x m) N' r.lhs i j) (some c)) (hw:c.cost<Vm.NW):
  LRt g k x m na r N (fun i' j'=>pr i' j'∨(i'=i∧j'=j)) (N'.set r.lhs i j c):=by
 have ne:∀b i' j',¬(b=r.lhs∧i'=i∧j'=j)→(N'.set r.lhs i j c) b i' j'=N' b i' j':=fun b i' j' z=>by unfold CMap.set;rw [if_neg z]
 have eq:(N'.set r.lhs i j c) r.lhs i j=some c:=by unfold CMap.set;rw [if_pos ⟨rfl,rfl,rfl⟩]
 refine ⟨fun i' j' h1 h2 h3=>?_,fun b i' j' h1 h2=>?_,fun b i' j' c' h1 h2=>?_⟩
 ·by_cases z:i'=i∧j'=j
  ·obtain ⟨rfl,rfl⟩:=z
   have e:=cur_same (C:=Vm.C g k x m) (h.no r.lhs i' j' hv fun z=>np z.2)
   rw [e] at hle
   rw [hc,Vm.lower_new hle]
   unfold cur
   rw [eq]
  ·rw [cur_same (C:=Vm.C g k x m) (ne r.lhs i' j' fun y=>z y.2)]
   rcases h3 with h3|h3
   ·exact h.yes i' j' h1 h2 h3
   ·exact absurd h3 z
 ·rw [ne b i' j' fun z=>h2 ⟨z.1,.inr z.2⟩]
  exact h.no b i' j' h1 fun z=>h2 ⟨z.1,.inl z.2⟩
 ·by_cases z:b=r.lhs∧i'=i∧j'=j
  ·obtain ⟨rfl,rfl,rfl⟩:=z
   rw [eq] at h2
   cases h2
   refine ⟨fun hl=>hle ?_,hw⟩
   cases e:N' r.lhs i' j' with
   |none=>
    unfold cur
    rw [e]
    exact hl
   |some c0=>
    exfalso
    refine (h.imp _ _ _ c0 h1 e).1 fun d hd=>?_
    cases hd
    obtain ⟨d,y1,y2⟩:=hl c rfl
    have:c.cost<c0.cost:=by
     rcases Nat.lt_or_ge c.cost c0.cost with y|y
     ·exact y
     ·refine absurd (fun d' hd'=>?_) hle
      cases hd'
      refine ⟨c0,?_,y⟩
      unfold cur
      rw [e]
    exact ⟨d,y1,by omega⟩
  ·rw [ne b i' j' z] at h2
   exact h.imp b i' j' c' h1 h2
end
theorem pair_refs {es:List Ent}:∀{vs:List V} {l:List Sym},Paired (fun v s=>∃ta rs,v=V.ref ta∧(s,ta,rs)∈es) vs l→∃tas:List Addr,vs=tas.map V.ref∧tas.length=l.length∧∀(i:Nat) (t:Addr) (s:Sym),tas[i]?=some t→l[i]?=some s→∃rs,(s,t,rs)∈es
 |_,_,.nil=>⟨[],rfl,rfl,fun i t s h=>by simp at h⟩
 |_,_,.cons (b:=y) (l₂:=l2) ⟨ta,rs,e,h⟩ t=>by
  obtain ⟨tas,e1,e2,e3⟩:=pair_refs t
  refine ⟨ta::tas,by rw [e,e1];rfl,by simp [e2],fun i t s h1 h2=>?_⟩
  cases i with
  |zero=>
   simp at h1 h2
   subst h1 h2
   exact ⟨rs,h⟩
  |succ i=>
   simp at h1 h2
   exact e3 i t s h1 h2
theorem tIf_valS {t:TT} {ta tb:TE} {σ:L2.St} {H:Hp} {Q:VK} {v:V} (b:Bool) (ht:∀R:Bool→Hp→Prop,R b H→t σ H R) (ha:b=true→∀R:VK,(∀H',Same H H'→R v H')→ta σ H R) (hb:b=false→∀R:VK,(∀H',Same H H'→R v H')→tb σ H R) (h:∀H',Same H H'→Q v H'):
  tIf t ta tb σ H Q:=ht _ (iteB (fun e=>ha e _ h) fun e=>hb e _ h)
theorem g_name {i:Nat} {v:V} {σ:L2.St} {H:Hp} {Q:L2.St→Hp→Prop} (h:Q (σ.set i (some v)) H):gName i v σ H Q:=h
def knw (o:Option Cell):Int:=match o with
 |some c=>(c.cost:Int)
 |none=>(Vm.NW:Int)
section
variable {P:Program} {w:World} {K:PySem.W.Frag} {mg:Str→Option Value} {base:Heap} {A:Ad}
def Imp (g:Grammar) (k:Costs) (x:Text) (m:Nat) (N:CMap):Prop:=∀b i j c,Vm.Valid g x (b,i,j)→N b i j=some c→¬Vm.Le (Vm.C g k x m b i j) (some c)∧c.cost<Vm.NW
def spLR (A:Ad):Sp:=fun vs H Q _=>∃(H0:Hp) (cp tb fo nw:Addr) (g:Grammar) (k:Costs) (x:Text) (m na le:Nat) (r:Rule) (N:CMap) (kvs knv:List (List Key×V)) (es:List Ent),vs= [.ref cp,vN na,vN le,.ref nw]∧
 CellsSt A H0 H cp g k x (Vm.C g k x m) tb fo kvs es∧Vm.GOk g∧Vm.CostsOk k∧x.length≤12∧g.rules[na]?=some r∧le≤x.length+1∧MapAt A (Rw es) H nw knv g x N∧nw≠fo∧nw≠tb∧H0 nw=none∧Imp g k x m N∧
 ∀(H':Hp) (knv':List (List Key×V)) (N':CMap),MapAt A (Rw es) H' nw knv' g x N'→LRt g k x m na r N (fun _ j=>le≤j) N'→Kept nw H H'→Q .non H'
abbrev nLR:List Str:= ["cells","number","lowest_end","news","rule","tables","j","rests","i","cost","place","known","symbol"]
theorem scLR:FnScope nLR ["cells","number","lowest_end","news"] (defScope sLookAtRule):=⟨rfl,rfl,rfl,by decide+kernel,rfl,by decide+kernel,by decide+kernel⟩
theorem okLR {f fR fE fK fC:Addr} {fd fdR fdE fdK fdC:FuncData} (F:Fun K "look_at_rule" "look_at_rule" sLookAtRule f fd) (T:Txt A K mg) (CR:Cl P w K mg base CX0 2 "cheapest_rests" fR fdR ["tables","j","leaving"] spCR)
  (FE:Cl P w K mg base CX0 1 "first_cheapest_ends" fE fdE ["tables","rests","i","j"] spFE) (KC:Mt P w K mg base CX0 1 A.cCells "known_cost" fK fdK ["self","nonterminal","i","j"] (spKC A))
  (CE:Ne P w K mg base CX0 1 A.cCell fC fdC ["self","cost","rule","ends"] (spCell A)):FnOk P w K mg base CX0 3 f fd ["cells","number","lowest_end","news"] (spLR A):=by
 refine F.ok scLR (fun vs H Q E h=>?_) (fun cdv A' outer s H vs Q E hr h=>?_)
 ·obtain ⟨H0,cp,tb,fo,nw,g,k,x,m,na,le,r,N,kvs,knv,es,rfl,_⟩:=h
  rfl
 ·obtain ⟨H0,cp,tb,fo,nw,g,k,x,m,na,le,r,N,kvs,knv,es,rfl,C,go,ok,hx,hr0,hle,mN,nf,nt,n0,imp,q⟩:=h
  have hr1:Room 1 _:=hr.mono (by decide)
  refine ⟨_,pss_cons (ps_set (i:=4) scLR.nd rfl (Or.inl rfl) (pe_ix ix_list (pe_fld (pe_fld (pv 0) rfl) rfl) (pv 1) (fun _ _=>rfl)))
   (pss_cons (ps_setLc (i:=5) (own:= [("symbol",12)]) (te:=tDGet (tFld K (tVar 0) "tables") (tVar 12)) rfl scLR.nd rfl rfl (sw_true rfl rfl rfl rfl) (pi_list (pe_fld (pv 4) rfl)) (blkOk_by (by show blkC nLR (defScope sLookAtRule) _ _=true;decide+kernel))
    (fun s H C cl fp=>pg_name (i:=12) scLR.nd rfl (Or.inl rfl)) (fun s H C cl fp=>pts_nil) (fun s H C cl fp=>pe_dget (hu_of hr) (pe_fld (pv 0) rfl) (pv 12) (fun _ _=>rfl)))
   (pss_one (ps_for PassesOwn.never rfl (pi_range2 rfl T.b_range (pa_cons (pv 2) (pa_cons (pe_op op_add (pe_callB call_len_seq (by rfl) T.b_len PySem.boot_len (pa_cons (pe_fld (pv 0) rfl) pa_nil)) pe_int) pa_nil))) (pg_name (i:=6) scLR.nd rfl (Or.inl rfl))
    (pss_cons (ps_set (i:=7) scLR.nd rfl (Or.inl rfl) (pe_call CR.ok hr rfl CR.m CR.kp CR.b .nil pass0 (pa_cons (pv 5) (pa_cons (pv 6) (pa_cons (pe_fld (pe_fld (pv 0) rfl) rfl) pa_nil)))))
    (pss_one (ps_for PassesOwn.never rfl (pi_enum rfl T.b_enumerate (pa_cons (pe_ix ix_list (pv 7) pe_int (fun _ _=>rfl)) pa_nil)) (pg_tup rfl (pgs_cons (pg_name (i:=8) scLR.nd rfl (Or.inl rfl)) (pgs_cons (pg_name (i:=9) scLR.nd rfl (Or.inl rfl)) pgs_nil)))
     (pss_cons (ps_set (i:=10) scLR.nd rfl (Or.inl rfl) (pe_tup (pa_cons (pe_fld (pv 4) rfl) (pa_cons (pv 8) (pa_cons (pv 6) pa_nil)))))
     (pss_cons (ps_set (i:=11) scLR.nd rfl (Or.inl rfl) (pe_ifExp (pt_cmp (pc_din (hu_of hr) (pv 10) (pv 3))) (pe_fld (pe_dget (hu_of hr) (pv 3) (pv 10) (fun _ _=>rfl)) rfl)
      (pe_meth (pv 0) T.lCells KC.m KC.ok hr1 KC.b .nil pass0 (pa_cons (pe_fld (pv 4) rfl) (pa_cons (pv 8) (pa_cons (pv 6) pa_nil))))))
     (pss_one (ps_if (pt_cmpR op_lt (pv 9) (pv 11) (nomark _)) (pss_one (ps_dput (hu_of hr) (pv 3) (pv 10) (pe_make CE.m CE.ok hr rfl T.mCell CE.b .nil pass0 (pa_cons (pv 9) (pa_cons (pv 1) (pa_cons (pe_call FE.ok hr1 rfl FE.m FE.kp FE.b .nil pass0 (pa_cons (pv 5) (pa_cons (pv 7) (pa_cons (pv 8) (pa_cons (pv 6) pa_nil))))) pa_nil)))) rfl)) pss_nil)))))))))),?_⟩
  obtain ⟨dx,ga,la,ca,ho,⟨dxg,ra,ps,hgo,hrs⟩,hxt,⟨dxc,hco⟩⟩:=C.obj
  obtain ⟨hna,hre⟩:=List.getElem?_eq_some_iff.mp hr0
  have hmem:r∈g.rules:=List.mem_of_getElem? hr0
  obtain ⟨p,hp⟩:∃p,ps[na]?=some p:=⟨_,List.getElem?_eq_getElem (by rw [hrs.len];exact hna)⟩
  obtain ⟨dxr,sa,qs,hro,hsy⟩:=hrs.at_ na p r hp hr0
  have h8:=go.syms r hmem
  have hlhs:=go.lhs r hmem
  refine ⟨_,rfl,cp,_,dx,_,_,rfl,ho,T.lCells,T.nCells_grammar,fCells_grammar,ga,_,dxg,_,_,rfl,C.same _ _ hgo,T.lGrammar,T.nGrammar_rules,fGrammar_rules,_,rfl,ra,_,_,_,rfl,rfl,SqL.of (C.same _ _ hrs.lst),at_of (j:=na) rfl (by rw [List.getElem?_map,hp];rfl),?_⟩
  refine ⟨_,rfl,p,_,dxr,_,_,rfl,C.same _ _ hro,T.lRule,T.nRule_symbols,fRule_symbols,sa,rfl,⟨_,SqL.of (C.same _ _ hsy.lst)⟩,fun D hD=>lc_list (K:=K) (a:=sa) (xs:=qs.map V.ref) (Part (fun _ v s=>∃ta rs,v=V.ref ta∧(s,ta,rs)∈es) D H r.rhs) (Part.start hD) ?_ ?_ ?_⟩
  ·exact fun i H1 _ p1=>SqL.of (p1.1 _ _ (C.same _ _ hsy.lst))
  ·intro i v H1 hv p1
   rw [List.getElem?_map] at hv
   obtain ⟨sq,hsq⟩:∃sq,qs[i]?=some sq:=by
    cases e:qs[i]? with
    |none=>rw [e] at hv;cases hv
    |some sq=>exact ⟨sq,rfl⟩
   rw [hsq] at hv
   have hv:V.ref sq=v:=Option.some.inj hv
   subst hv
   have hil:i<r.rhs.length:=by rw [←hsy.len];exact (List.getElem?_eq_some_iff.mp hsq).1
   obtain ⟨sy,hsyi⟩:∃sy,r.rhs[i]?=some sy:=⟨_,List.getElem?_eq_getElem hil⟩
   have htup:=p1.1 _ _ (C.same _ _ (hsy.at_ i sq sy hsq hsyi))
   have t1:=C.tbs.same p1.1
   obtain ⟨ta,rs,hent,hlook,_⟩:=t1.look (C.syms r hmem sy (List.mem_of_getElem? hsyi))
   refine ⟨rfl,tyes ?_⟩
   refine ⟨_,rfl,cp,_,dx,_,_,rfl,p1.1 _ _ ho,T.lCells,T.nCells_tables,fCells_tables,_,rfl,tb,.ref ta,rfl,by rw [←hlook];exact DGet.t (k:=symK sy) t1.dict htup,?_⟩
   exact p1.next (fun _ z=>z) hD (by omega) hsyi (Same.refl _) ⟨ta,rs,rfl,hent⟩
  ·intro H1 p1
   obtain ⟨s1,vs,hD1,pp⟩:=p1.done (by rw [List.length_map,hsy.len];exact Nat.le_refl _)
   obtain ⟨tas,rfl,htl,hta⟩:=pair_refs pp
   have C1:=C.step s1
   have m1:=mN.same s1
   have nD:∀{H2:Hp},Kept nw H1 H2→CellsSt A H0 H2 cp g k x (Vm.C g k x m) tb fo kvs es∧TabsAt H2 D tas r.rhs x.length (tabM k x (Vm.C g k x m)):=fun {H2} kp=>by
    have C2:=C1.news m1.dict nf nt n0 kp
    refine ⟨C2,kp _ _ hD1 (ne_of hD1 m1.dict (by intro z;cases z)),htl,fun i t sy h1 h2=>?_⟩
    obtain ⟨rs,hm⟩:=hta i t sy h1 h2
    exact ⟨rs,C2.tbs.tabs _ hm⟩
   have tl:(Vm.NW:Int)=((Vm.NW:Nat):Int):=rfl
   have hS:=fun s p e c h1 h2 h3=>Vm.sym_SB (g:=g) (m:=m) (s:=s) (p:=p) (e:=e) (c:=c) go ok hx h1 h2 h3
   have hb8:r.rhs.length * Vm.SB+108<Vm.NW:=by
    have:=Nat.mul_le_mul_right Vm.SB h8
    have:=Vm.SB_NW
    omega
   have tabE:tabM k x (Vm.C g k x m)=Vm.tab k x (Vm.T g k x m):=by
    funext s' i' j'
    exact tabM_C s' i' j'
   refine ⟨_,rfl,_,rfl,cp,_,dx,_,_,rfl,s1 _ _ ho,T.lCells,T.nCells_letters,fCells_letters,la,_,rfl,.inl (SqL.of (C1.same _ _ hxt)),_,_,rfl,rfl,(le:Int),(x.length:Int)+1,by rw [List.length_map];rfl,by omega,for_range (fun n σ H'=>Kept nw H1 H'∧∃(knv':List (List Key×V)) (N':CMap) (v6 v7 v8 v9 v10 v11:Option V),MapAt A (Rw es) H' nw knv' g x N'∧LRt g k x m na r N (fun _ j=>le≤j∧j<le+n) N'∧
    σ= [some (.ref cp),some (vN na),some (vN le),some (.ref nw),some (.ref p),some (.ref D),v6,v7,v8,v9,v10,v11,none]) ?_ ?_ ?_⟩
   ·refine ⟨Kept.refl _ _,knv,N,_,_,_,_,_,_,m1,⟨fun i j _ _ h=>absurd h (by omega),fun b i j _ _=>rfl,imp⟩,rfl⟩
   ·rintro n σ H2 hn ⟨k2,knv2,N2,v6,v7,v8,v9,v10,v11,m2,l2,rfl⟩
    have hj:le+n≤x.length:=by omega
    have ej:V.int ((le:Int)+(n:Int))=vN (le+n):=by unfold vN;congr 1
    rw [ej]
    obtain ⟨C2,tb2⟩:=nD k2
    have ho2:H2 cp=some (.ins A.cCells dx (fCells (.ref ga) (.ref la) (.ref ca) (.ref tb) (.ref fo))):=k2 _ _ (s1 _ _ ho) (ne_of (s1 _ _ ho) m1.dict (by intro z;cases z))
    refine ⟨_,rfl,_,rfl,_,rfl,cp,_,dx,_,_,rfl,ho2,T.lCells,T.nCells_costs,fCells_costs,ca,_,dxc,_,_,rfl,C2.same _ _ hco,T.lCosts,T.nCosts_leaving,fCosts_leaving,D,tas,r.rhs,_,x.length,le+n,k.delete,rfl,tb2,hj,by omega,ok.d9,by omega,fun H3 ra3 qs3 R3 s3 n3=>?_⟩
    obtain ⟨q0,hq0⟩:∃q0,qs3[0]?=some q0:=⟨_,List.getElem?_eq_getElem (by rw [R3.len];omega)⟩
    have hq0c:=R3.at_ 0 q0 hq0
    rw [List.drop_zero] at hq0c
    have k3:Kept nw H1 H3:=k2.trans (Same.kept s3)
    have m3:=m2.same s3
    have rlen:((restL (tabM k x (Vm.C g k x m)) k.delete (le+n) r.rhs).map V.int).length=le+n+1:=by unfold restL;rw [List.length_map,List.length_map,List.length_range]
    refine ⟨_,rfl,ra3,_,_,_,rfl,rfl,SqL.of R3.lst,at_of (j:=0) rfl (by rw [List.getElem?_map,hq0];rfl),q0,_,rfl,SqL.of hq0c,for_enum (xs:=(restL (tabM k x (Vm.C g k x m)) k.delete (le+n) r.rhs).map V.int) (fun i σ H'=>Kept nw H3 H'∧∃(knv':List (List Key×V)) (N':CMap) (v8 v9 v10 v11:Option V),MapAt A (Rw es) H' nw knv' g x N'∧
     LRt g k x m na r N (fun i' j=>(le≤j∧j<le+n)∨(j=le+n∧i'<i)) N'∧σ= [some (.ref cp),some (vN na),some (vN le),some (.ref nw),some (.ref p),some (.ref D),some (vN (le+n)),some (.ref ra3),v8,v9,v10,v11,none]) ?_ ?_ ?_ ?_⟩
    ·exact ⟨Kept.refl _ _,knv2,N2,_,_,_,_,m3,l2.congr fun i' j' _ _=>⟨fun h=>by omega,fun h=>by omega⟩,rfl⟩
    ·exact fun i σ H' _ h=>SqL.of (h.1 _ _ hq0c (ne_of hq0c m3.dict (by intro z;cases z)))
    ·rintro i v σ H4 tt hv ⟨k4,knv4,N4,w8,w9,w10,w11,m4,l4,rfl⟩ htt
     obtain ⟨cost,hcost,rfl⟩:=getI hv
     have hi:i≤le+n:=by
      have:=(List.getElem?_eq_some_iff.mp hv).1
      rw [rlen] at this
      omega
     have hcE:cost=Vm.restAt (tabM k x (Vm.C g k x m)) k.delete (le+n) r.rhs i:=by
      unfold restL at hcost
      rw [List.getElem?_map,List.getElem?_range (by omega)] at hcost
      exact (Option.some.inj hcost).symm
     have hval:Vm.Valid g x (r.lhs,i,le+n):=⟨hlhs,hi,hj⟩
     have k14:Kept nw H1 H4:=k3.trans k4
     have st:=Same.upd (o:=.tup [vN i,V.int cost]) htt
     have k5:Kept nw H1 (upd H4 tt (.tup [vN i,V.int cost])):=k14.trans (Same.kept st)
     have m5:=m4.same st
     have tup5:(upd H4 tt (.tup [vN i,V.int cost])) tt=some (.tup [vN i,V.int cost]):=upd_same
     generalize hH5:upd H4 tt (.tup [vN i,V.int cost])=H5 at st k5 m5 tup5
     refine ⟨tt,_,rfl,SqT.of tup5,rfl,_,_,rfl,_,_,rfl,rfl,?_⟩
     obtain ⟨C5,_⟩:=nD k5
     refine ⟨_,rfl,p,_,dxr,_,_,rfl,C5.same _ _ hro,T.lRule,T.nRule_nonterminal,fRule_nonterminal,_,rfl,_,rfl,(by show 3≤sizeLine;decide),fun pt hpt=>?_⟩
     have sp:=Same.upd (o:=.tup [vN r.lhs,vN i,vN (le+n)]) hpt
     have k6:=k5.trans (Same.kept (p:=nw) sp)
     have m6:=m5.same sp
     have tup6:(upd H5 pt (.tup [vN r.lhs,vN i,vN (le+n)])) pt=some (.tup ((key3 r.lhs i (le+n)).map kV)):=upd_same
     generalize hH6:upd H5 pt (.tup [vN r.lhs,vN i,vN (le+n)])=H6 at sp k6 m6 tup6
     obtain ⟨C6,tb6⟩:=nD k6
     have ho6:H6 cp=some (.ins A.cCells dx (fCells (.ref ga) (.ref la) (.ref ca) (.ref tb) (.ref fo))):=k6 _ _ (s1 _ _ ho) (ne_of (s1 _ _ ho) m1.dict (by intro z;cases z))
     refine g_name ?_
     dsimp only
     refine tIf_valS (v:=.int (knw (cur (Vm.C g k x m) N4 r.lhs i (le+n)))) (N4 r.lhs i (le+n)).isSome (fun R hR=>?_) (fun hb R hR=>?_) (fun hb R hR=>?_) fun H7 s7=>?_
     ·refine ⟨_,rfl,_,rfl,nw,_,rfl,DGet.t (k:=key3 r.lhs i (le+n)) m6.dict tup6,_,rfl,?_⟩
      cases e:N4 r.lhs i (le+n) with
      |none=>rw [m6.no _ _ _ hval e];rw [e] at hR;exact hR
      |some c=>
       obtain ⟨cb,z1,_⟩:=m6.yes _ _ _ c hval e
       rw [z1]
       rw [e] at hR
       exact hR
     ·obtain ⟨c,e⟩:=Option.isSome_iff_exists.mp hb
      obtain ⟨cb,z1,d2,e2,z2,z3,z4⟩:=m6.yes _ _ _ c hval e
      have hk:knw (cur (Vm.C g k x m) N4 r.lhs i (le+n))=(c.cost:Int):=by unfold cur;rw [e];rfl
      rw [hk] at hR
      exact ⟨_,rfl,_,rfl,nw,.ref cb,rfl,by rw [←z1];exact DGet.t (k:=key3 r.lhs i (le+n)) m6.dict tup6,cb,_,d2,_,_,rfl,z2,T.lCell,T.nCell_cost,fCell_cost,hR _ (Same.refl _)⟩
     ·have e:N4 r.lhs i (le+n)=none:=by
       cases z:N4 r.lhs i (le+n) with
       |none=>rfl
       |some c=>rw [z] at hb;cases hb
      refine ⟨_,rfl,cp,dx,_,rfl,ho6,fCells_no_known_cost,_,rfl,p,_,dxr,_,_,rfl,C6.same _ _ hro,T.lRule,T.nRule_nonterminal,fRule_nonterminal,_,rfl,_,rfl,H0,cp,tb,fo,g,k,x,_,kvs,es,r.lhs,i,le+n,rfl,C6,hval,fun H7 s7=>?_⟩
      have hk:knw (cur (Vm.C g k x m) N4 r.lhs i (le+n))=tabM k x (Vm.C g k x m) (.non r.lhs) i (le+n):=by unfold cur;rw [e];rfl
      rw [hk] at hR
      exact hR H7 s7
     ·have k7:Kept nw H1 H7:=k6.trans (Same.kept s7)
      obtain ⟨C7,tb7⟩:=nD k7
      have m7:=m6.same s7
      have tup7:=s7 _ _ tup6
      have R7:RestsAt H7 ra3 qs3 (tabM k x (Vm.C g k x m)) k.delete (le+n) r.rhs:=by
       have kk:Kept nw H3 H7:=(k4.trans (Same.kept st)).trans ((Same.kept sp).trans (Same.kept s7))
       refine ⟨kk _ _ R3.lst (ne_of R3.lst m3.dict (by intro z;cases z)),R3.len,fun m' q' h'=>?_⟩
       have:=R3.at_ m' q' h'
       exact kk _ _ this (ne_of this m3.dict (by intro z;cases z))
      have k47:Kept nw H3 H7:=(k4.trans (Same.kept st)).trans ((Same.kept sp).trans (Same.kept s7))
      have pr0:¬((le≤le+n∧le+n<le+n)∨(le+n=le+n∧i<i)):=by omega
      have prI:∀i' j',i'≤j'→j'≤x.length→(((le≤j'∧j'<le+n)∨(j'=le+n∧i'<i+1))↔(((le≤j'∧j'<le+n)∨(j'=le+n∧i'<i))∨(i'=i∧j'=le+n))):=by
       intro i' j' _ _
       omega
      have rw1:=Vm.rest_way (x:=x) (t:=Vm.T g k x m) ok hx hS hj r.rhs hi hb8
      rw [←tabE,←hcE] at rw1
      have curB:∀c,cur (Vm.C g k x m) N4 r.lhs i (le+n)=some c→(c.cost:Int)<(Vm.NW:Int):=fun c hc=>by
       unfold cur at hc
       cases e:N4 r.lhs i (le+n) with
       |some c0=>
        rw [e] at hc
        cases hc
        have:=(l4.imp _ _ _ c hval e).2
        omega
       |none=>
        rw [e] at hc
        have:=Vm.sym_SB (g:=g) (k:=k) (x:=x) (m:=m) (s:=.non r.lhs) (p:=i) (e:=le+n) (c:=c.cost) go ok hx hi hj (by rw [Vm.sym_non];rw [show Vm.C g k x m r.lhs i (le+n)=some c from hc];rfl)
        have:=Vm.SB_NW
        omega
      refine ⟨_,rfl,_,rfl,_,_,rfl,rfl,_,rfl,iteD (fun hlt=>?_) (fun hge=>?_)⟩
      ·
       have knle:knw (cur (Vm.C g k x m) N4 r.lhs i (le+n))≤(Vm.NW:Int):=by
        cases e:cur (Vm.C g k x m) N4 r.lhs i (le+n) with
        |none=>exact Int.le_refl _
        |some c=>exact Int.le_of_lt (curB c e)
       cases hw:Vm.way k x (Vm.T g k x m) r.rhs i (le+n) with
       |none=>
        have:=rw1.2.1 hw
        omega
       |some wy=>
        have hcw:=rw1.1 wy hw
        have hends:=ends_way ok hx hS hj r.rhs hi hb8 hw
        rw [←tabE] at hends
        refine ⟨_,rfl,_,rfl,_,rfl,_,rfl,_,rfl,_,rfl,D,ra3,tas,qs3,r.rhs,_,x.length,k.delete,i,le+n,wy.2,rfl,tb7,R7,hi,hj,by omega,by omega,hends,fun H8 ep hep s8 n8=>?_⟩
        intro cx cdx n9 n10 n11
        refine ⟨cx,cdx,_,_,_,rfl,upd_same,fun H9 h9 k9=>⟨rfl,?_⟩⟩
        have s9:Same H8 H9:=Same.made n9 n10 k9
        have s79:=s8.trans s9
        have hcell:CellAt A (Rw es) H9 cx {cost:=wy.1,rule:=na,ends:=wy.2}:=by
         refine ⟨cdx,ep,by rw [h9];show some (HO.ins A.cCell cdx (fCell (V.int cost) (vN na) (.ref ep)))=_;rw [hcw];rfl,s9 _ _ hep,fun z=>?_⟩
         obtain ⟨xs,hxs⟩:=C7.tbs.lists ep z
         rw [n8] at hxs
         cases hxs
        have m9:=m7.same s79
        refine ⟨_,rfl,_,rfl,nw,_,rfl,DPut.t (k:=key3 r.lhs i (le+n)) m9.dict (s79 _ _ tup7) (Nat.lt_of_le_of_lt (m9.short go.n20 hx) (by decide)),?_⟩
        refine ⟨(k47.trans (Same.kept s79)).trans Kept.upd,_,_,_,_,_,_,m9.put hval hcell,(l4.put hval pr0 (c:={cost:=wy.1,rule:=na,ends:=wy.2}) (by unfold Vm.ruleCell;rw [hw];rfl) (fun hl=>?_) ?_).congr prI,rfl⟩
        ·obtain ⟨d,hd,hd2⟩:=hl _ rfl
         rw [hd] at hlt
         have hlt:cost<(d.cost:Int):=hlt
         have hd2:d.cost≤wy.1:=hd2
         omega
        ·have:=Vm.way_bound ok hx hS r.rhs hi hj hw
         show wy.1<Vm.NW
         omega
      ·
       refine ⟨k47,_,_,_,_,_,_,m7,(l4.skip hval pr0 fun d hd=>?_).congr prI,rfl⟩
       cases hw:Vm.way k x (Vm.T g k x m) r.rhs i (le+n) with
       |none=>
        unfold Vm.ruleCell at hd
        rw [show (na,r).2.rhs=r.rhs from rfl,hw] at hd
        cases hd
       |some wy=>
        unfold Vm.ruleCell at hd
        rw [show (na,r).2.rhs=r.rhs from rfl,hw] at hd
        have hd:({cost:=wy.1,rule:=na,ends:=wy.2}:Cell)=d:=Option.some.inj hd
        have hcw:=rw1.1 wy hw
        have hwb:=Vm.way_bound ok hx hS r.rhs hi hj hw
        cases e:cur (Vm.C g k x m) N4 r.lhs i (le+n) with
        |none=>
         rw [e] at hge
         have hge:¬cost<(Vm.NW:Int):=hge
         omega
        |some c=>
         rw [e] at hge
         have hge:¬cost<(c.cost:Int):=hge
         refine ⟨c,rfl,?_⟩
         rw [←hd]
         show c.cost≤wy.1
         omega
    ·rintro σ H4 ⟨k4,knv4,N4,w8,w9,w10,w11,m4,l4,rfl⟩
     rw [rlen] at l4
     exact ⟨k3.trans k4,knv4,N4,_,_,_,_,_,_,m4,l4.congr fun i' j' h1 h2=>⟨fun h=>by omega,fun h=>by omega⟩,rfl⟩
   ·rintro σ H2 ⟨k2,knv2,N2,v6,v7,v8,v9,v10,v11,m2,l2,rfl⟩
    exact q H2 knv2 N2 m2 (l2.congr fun i' j' h1 h2=>⟨fun h=>by omega,fun h=>by omega⟩) ((Same.kept s1).trans k2)
end
end Lr
namespace Lr
open PySem PySem.Spec PyProof.Rows L2 LX
open Vaglrl (Costs Text Cell)
open Vaglrc (Sym Rule Grammar)
theorem for_items {d:Addr} {o:Obj} {kvs:List (List Key×V)} {g:TG} {tb:TS} {D:Ends} {σ:L2.St} {H:Hp} (Pv:Nat→L2.St→Hp→Prop) (h0:Pv 0 σ H) (hl:∀i σ H,i≤kvs.length→Pv i σ H→H d=some (.frz o (.dT kvs)))
  (hs:∀i k v q σ H T,kvs[i]?=some (k,v)→H q=some (.tup (k.map kV))→Pv i σ H→H T=none→g (.ref T) σ (upd H T (.tup [.ref q,v])) fun σ2 H2=>tb {D with nx:=Pv (i+1),ct:=Pv (i+1),bk:=D.nx} σ2 H2) (hd:∀σ H,Pv kvs.length σ H→D.nx σ H):
  ∃W:Nat→Nat→L2.St→Hp→Prop,(∃m,W 0 m σ H)∧∀i m σ H,W i m σ H→
   ((ItiT d o kvs).stop i H∧D.nx σ H)∨((ItiT d o kvs).go i H∧∃N:L2.St→Hp→Prop,(∀σ' H',N σ' H'→∃m',m'<m∧W (i+1) m' σ' H')∧∀x H',(ItiT d o kvs).yld i H x H'→g x σ H' fun σ2 H2=>tb {D with nx:=N,ct:=N,bk:=D.nx} σ2 H2):=by
 refine ⟨fun i m σ H=>m=kvs.length - i∧i≤kvs.length∧Pv i σ H,⟨kvs.length,by simp,Nat.zero_le _,h0⟩,?_⟩
 rintro i m σ H ⟨rfl,hi,p⟩
 have q:=hl i σ H hi p
 by_cases hlt:i<kvs.length
 ·refine .inr ⟨⟨q,hlt⟩,Pv (i+1),fun σ' H' p'=>⟨kvs.length - (i+1),by omega,rfl,hlt,p'⟩,fun v H' y=>?_⟩
  obtain ⟨T,q',k,u,h1,h2,rfl,h3,rfl⟩:=y
  exact hs i k u q' σ H T h1 h2 p h3
 ·have e:i=kvs.length:=by omega
  subst e
  exact .inl ⟨⟨q,Nat.le_refl _⟩,hd σ H p⟩
section
variable {A:Ad} {H0 H H':Hp} {cp tb fo:Addr} {g:Grammar} {k:Costs} {x:Text} {M M':CMap} {kvs:List (List Key×V)} {es:List Ent}
theorem CellsSt.congr (c:CellsSt A H0 H cp g k x M tb fo kvs es) (h:∀a i j,i≤j→j≤x.length→M' a i j=M a i j):CellsSt A H0 H cp g k x M' tb fo kvs es:=by
 have f:=c.found
 have t:=c.tbs
 refine ⟨c.same,c.obj,⟨f.dict,f.nd,f.keys,fun a i j hv e=>f.no a i j hv (by rw [←h a i j hv.2.1 hv.2.2];exact e),fun a i j cc hv e=>f.yes a i j cc hv (by rw [←h a i j hv.2.1 hv.2.2];exact e)⟩,⟨t.dict,t.syms,fun e he=>?_,t.nd,t.new⟩,c.nons,c.syms,c.fo0,c.ft⟩
 have te:=t.tabs e he
 refine ⟨te.lst,te.len,fun i r hi=>?_⟩
 rw [te.row i r hi]
 congr 2
 unfold rowV
 apply List.map_congr_left
 intro d hd
 have hd:=List.mem_range.mp hd
 cases hs:e.1 with
 |range lo hi=>rfl
 |non a=>
  show V.int (match M a i (i+d) with
   |some c=>(c.cost:Int)
   |none=>(Vm.NW:Int))=V.int (match M' a i (i+d) with
   |some c=>(c.cost:Int)
   |none=>(Vm.NW:Int))
  rw [h a i (i+d) (by omega) (by omega)]
end
section
variable {A:Ad} {H0 H H':Hp} {cp tb fo nw:Addr} {g:Grammar} {k:Costs} {x:Text} {M:CMap} {kvs:List (List Key×V)} {es:List Ent}
theorem CellsSt.other (c:CellsSt A H0 H cp g k x M tb fo kvs es) (o1:∀C dx fs,H nw≠some (.ins C dx fs)) (o2:∀xs,H nw≠some (.lst xs)) (h1:nw≠fo) (h2:nw≠tb) (h0:H0 nw=none) (kp:Kept nw H H'):CellsSt A H0 H' cp g k x M tb fo kvs es:=by
 have ni:∀{b C dx:Addr} {fs:List (Str×V)},H b=some (.ins C dx fs)→b≠nw:=fun {b C dx fs} e z=>o1 C dx fs (by rw [←z];exact e)
 have nl:∀{b:Addr} {xs:List V},H b=some (.lst xs)→b≠nw:=fun {b xs} e z=>o2 xs (by rw [←z];exact e)
 refine ⟨fun b o e=>kp b o (c.same b o e) (ne_of_none e h0),?_,?_,?_,c.nons,c.syms,c.fo0,c.ft⟩
 ·obtain ⟨dx,ga,la,ca,h,r⟩:=c.obj
  exact ⟨dx,ga,la,ca,kp _ _ h (ni h),r⟩
 ·have f:=c.found
  refine ⟨kp _ _ f.dict (Ne.symm h1),f.nd,f.keys,f.no,fun a i j cc y1 y2=>?_⟩
  obtain ⟨ca,z1,dx,ea,z2,z3,z4⟩:=f.yes a i j cc y1 y2
  exact ⟨ca,z1,dx,ea,kp _ _ z2 (ni z2),kp _ _ z3 (nl z3),z4⟩
 ·have t:=c.tbs
  refine ⟨kp _ _ t.dict (Ne.symm h2),t.syms,fun e he=>?_,t.nd,t.new⟩
  have te:=t.tabs e he
  exact ⟨kp _ _ te.lst (nl te.lst),te.len,fun i r h=>kp _ _ (te.row i r h) (nl (te.row i r h))⟩
end
section
variable {κ:Type} [DecidableEq κ]
theorem putK_keys {kvs:List (κ×V)} {q:κ} {v:V} {y:κ} (h:y∈(putK kvs q v).map (·.1)):y∈kvs.map (·.1)∨y=q:=by
 unfold putK at h
 split at h
 ·rw [List.map_map] at h
  obtain ⟨p,hp,rfl⟩:=List.mem_map.mp h
  refine .inl (List.mem_map.mpr ⟨p,hp,?_⟩)
  show p.1=(if p.1=q then (p.1,v) else p).1
  split<;>rfl
 ·rw [List.map_append] at h
  rcases List.mem_append.mp h with z|z
  ·exact .inl z
  ·exact .inr (by simpa using z)
theorem putK_nd {kvs:List (κ×V)} {q:κ} {v:V} (nd:(kvs.map (·.1)).Nodup):((putK kvs q v).map (·.1)).Nodup:=by
 cases e:valV kvs q with
 |none=>exact nd_putK _ nd e
 |some y=>
  have h:(putK kvs q v).map (·.1)=kvs.map (·.1):=by
   unfold putK
   rw [valV_any,e,if_pos (show (some y).isSome=true from rfl),List.map_map]
   apply List.map_congr_left
   intro p _
   show (if p.1=q then (p.1,v) else p).1=p.1
   split<;>rfl
  rw [h]
  exact nd
theorem valV_at:∀{kvs:List (κ×V)} {t:Nat} {q:κ} {v:V},(kvs.map (·.1)).Nodup→kvs[t]?=some (q,v)→valV kvs q=some v
 |p::r,0,q,v,nd,h=>by
  have e:p=(q,v):=Option.some.inj h
  subst e
  exact valV_pos rfl
 |p::r,t+1,q,v,nd,h=>by
  have nd:(p.1::r.map (·.1)).Nodup:=nd
  obtain ⟨n1,n2⟩:=List.nodup_cons.mp nd
  have h:r[t]?=some (q,v):=h
  have ne:¬p.1=q:=fun z=>n1 (by rw [z];exact List.mem_map.mpr ⟨(q,v),List.mem_of_getElem? h,rfl⟩)
  rw [valV_neg ne]
  exact valV_at n2 h
end
def stepT (g:Grammar) (k:Costs) (x:Text) (m a i j:Nat) (c:Option Cell) (q:Nat×Nat):Option Cell:=match g.rules[q.1]? with
 |some r=>if r.lhs=a∧q.2≤j then Vaglrl.lower c (Vm.ruleCell k x (Vm.T g k x m) (q.1,r) i j) else c
 |none=>c
def touchedL (g:Grammar) (le:Nat→Option Nat):List (Nat×Nat):=(Vaglrc.numbered g).filterMap fun r=>(le r.1).map fun l=>(r.1,l)
theorem fold_touched {g:Grammar} {k:Costs} {x:Text} {m a i j:Nat} {le:Nat→Option Nat}:∀(l:List (Nat×Rule)) (c:Option Cell),(∀p∈l,g.rules[p.1]?=some p.2)→
  (l.filterMap fun r=>(le r.1).map fun n=>(r.1,n)).foldl (stepT g k x m a i j) c=Vm.layT le a j (fun r=>Vm.ruleCell k x (Vm.T g k x m) r i j) l c
 | [],_,_=>rfl
 |p::l,c,h=>by
  have hp:=h p List.mem_cons_self
  have ih:=fun c=>fold_touched (k:=k) (x:=x) (m:=m) (a:=a) (i:=i) (j:=j) (le:=le) l c fun q hq=>h q (List.mem_cons_of_mem _ hq)
  rw [List.filterMap_cons,Vm.layT_cons]
  cases e:le p.1 with
  |none=>exact ih c
  |some n=>
   show ((p.1,n)::_).foldl (stepT g k x m a i j) c=_
   rw [List.foldl_cons,ih]
   congr 1
   unfold stepT
   dsimp only
   rw [hp]
   dsimp only
   by_cases z:p.2.lhs=a∧n≤j
   ·rw [if_pos z,if_pos (by simp [z.1,z.2])]
   ·rw [if_neg z,if_neg (by simp;intro y1;have:=fun y2=>z ⟨y1,y2⟩;omega)]
theorem round_touched {g:Grammar} {k:Costs} {x:Text} {m a i j:Nat} {le:Nat→Option Nat} (hd:Vm.Dom le m g k x) (ha:a<g.nons) (h1:i≤j) (h2:j≤x.length):
  (touchedL g le).foldl (stepT g k x m a i j) (Vm.C g k x m a i j)=Vm.C g k x (m+1) a i j:=by
 unfold touchedL
 rw [fold_touched _ _ fun p hp=>Vm.numbered_mem hp]
 exact Vm.dom_round hd ha h1 h2
end Lr
namespace Lr
open PySem PySem.Spec PyProof.Rows L2 LX
open Vaglrl (Costs Text Cell)
open Vaglrc (Sym Rule Grammar)
def TouchedAt (H:Hp) (a:Addr) (tl:List (Nat×Nat)):Prop:=∃vs,H a=some (.lst vs)∧Paired (fun v c=>TupV H v [vN c.1,vN c.2]) vs tl
structure LowAt (H:Hp) (a:Addr) (kls:List (List Key×V)) (n:Nat) (low:Nat→Option Nat):Prop where
 dict:H a=some (.dT kls)
 at_:∀b,b<n→valV kls (symK (.non b))=(low b).map vN
 rng:∀lo hi,valV kls (symK (.range lo hi))=none
 len:kls.length≤n
 keys:∀q∈kls.map (·.1),∃b,b<n∧q=symK (.non b)
 nd:(kls.map (·.1)).Nodup
noncomputable def Mo (C N:CMap) (ks:List (List Key)):CMap:=fun a i j=> @ite _ (key3 a i j∈ks) (Classical.propDecidable _) (cur C N a i j) (C a i j)
theorem Mo_in {C N:CMap} {ks:List (List Key)} {a i j:Nat} (h:key3 a i j∈ks):Mo C N ks a i j=cur C N a i j:=by unfold Mo;rw [if_pos h]
theorem Mo_out {C N:CMap} {ks:List (List Key)} {a i j:Nat} (h:¬key3 a i j∈ks):Mo C N ks a i j=C a i j:=by unfold Mo;rw [if_neg h]
section
variable {P:Program} {w:World} {K:PySem.W.Frag} {mg:Str→Option Value} {base:Heap} {A:Ad}
def spMR (A:Ad):Sp:=fun vs H Q _=>∃(H0:Hp) (cp tb fo ta:Addr) (g:Grammar) (k:Costs) (x:Text) (m:Nat) (le:Nat→Option Nat) (kvs:List (List Key×V)) (es:List Ent),vs= [.ref cp,.ref ta]∧
 CellsSt A H0 H cp g k x (Vm.C g k x m) tb fo kvs es∧Vm.GOk g∧Vm.CostsOk k∧x.length≤12∧TouchedAt H ta (touchedL g le)∧¬Rw es ta∧(∀n l,le n=some l→l≤x.length+1)∧Vm.Dom le m g k x∧
 ∀(H':Hp) (lo:Addr) (kvs' kls:List (List Key×V)) (low:Nat→Option Nat),CellsSt A H0 H' cp g k x (Vm.C g k x (m+1)) tb fo kvs' es→LowAt H' lo kls g.nons low→
  (∀b p e,b<g.nons→p≤e→e≤x.length→Vm.Chg m b p e g k x→∃n,low b=some n∧n≤e)→(∀b n,b<g.nons→low b=some n→n≤x.length∧∃p e,p≤e∧e≤x.length∧Vm.Chg m b p e g k x)→Q (.ref lo) H'
abbrev nMR:List Str:= ["cells","touched","news","number","lowest_end","lowest_ends","place","cell","symbol"]
theorem scMR:FnScope nMR ["cells","touched"] (defScope sMakeRound):=⟨rfl,rfl,rfl,by decide+kernel,rfl,by decide+kernel,by decide+kernel⟩
theorem touched_get {g:Grammar} {le:Nat→Option Nat} {q:Nat×Nat} (h:q∈touchedL g le):∃r,g.rules[q.1]?=some r∧le q.1=some q.2:=by
 unfold touchedL at h
 obtain ⟨p,hp,e⟩:=List.mem_filterMap.mp h
 cases z:le p.1 with
 |none=>rw [z] at e;cases e
 |some n=>
  rw [z] at e
  have e:(p.1,n)=q:=Option.some.inj e
  subst e
  exact ⟨p.2,Vm.numbered_mem hp,z⟩
theorem okMR {f fL fP:Addr} {fd fdL fdP:FuncData} (F:Fun K "make_round" "make_round" sMakeRound f fd) (T:Txt A K mg) (LR:Cl P w K mg base CX0 3 "look_at_rule" fL fdL ["cells","number","lowest_end","news"] (spLR A))
  (PU:Mt P w K mg base CX0 1 A.cCells "put" fP fdP ["self","nonterminal","i","j","cell"] (spPut A)):FnOk P w K mg base CX0 4 f fd ["cells","touched"] (spMR A):=by
 obtain ⟨t0,kN⟩:=T.kNONTERMINAL
 refine F.ok scMR (fun vs H Q E h=>?_) (fun cdv A' outer s H vs Q E hr h=>?_)
 ·obtain ⟨H0,cp,tb,fo,ta,g,k,x,m,le,kvs,es,rfl,_⟩:=h
  rfl
 ·obtain ⟨H0,cp,tb,fo,ta,g,k,x,m,le,kvs,es,rfl,C,go,ok,hx,⟨tvs,hta,htp⟩,ntr,hle,dom,q⟩:=h
  have hr1:Room 1 _:=hr.mono (by decide)
  refine ⟨_,pss_cons (ps_set (i:=2) scMR.nd rfl (Or.inl rfl) pe_dnewT)
   (pss_cons (ps_for PassesOwn.never rfl (pi_list (pv 1)) (pg_tup rfl (pgs_cons (pg_name (i:=3) scMR.nd rfl (Or.inl rfl)) (pgs_cons (pg_name (i:=4) scMR.nd rfl (Or.inl rfl)) pgs_nil)))
    (pss_one (ps_expr (pe_call LR.ok hr rfl LR.m LR.kp LR.b .nil pass0 (pa_cons (pv 0) (pa_cons (pv 3) (pa_cons (pv 4) (pa_cons (pv 2) pa_nil))))))))
   (pss_cons (ps_set (i:=5) scMR.nd rfl (Or.inl rfl) pe_dnewT)
   (pss_cons (ps_lock (ps_for PassesOwn.never rfl (pi_itemsT (pv 2)) (pg_tup rfl (pgs_cons (pg_name (i:=6) scMR.nd rfl (Or.inl rfl)) (pgs_cons (pg_name (i:=7) scMR.nd rfl (Or.inl rfl)) pgs_nil)))
    (pss_cons (ps_expr (pe_meth (pv 0) T.lCells PU.m PU.ok hr1 PU.b .nil pass0 (pa_cons (pe_ix ix_tup (pv 6) pe_int (fun _ _=>rfl)) (pa_cons (pe_ix ix_tup (pv 6) pe_int (fun _ _=>rfl)) (pa_cons (pe_ix ix_tup (pv 6) pe_int (fun _ _=>rfl)) (pa_cons (pv 7) pa_nil))))))
    (pss_cons (ps_set (i:=8) scMR.nd rfl (Or.inl rfl) (pe_tup (pa_cons (pe_glob (v:=.int 0) rfl kN ⟨_,rfl⟩) (pa_cons (pe_ix ix_tup (pv 6) pe_int (fun _ _=>rfl)) pa_nil))))
    (pss_one (ps_dput (hu_of hr) (pv 5) (pv 8) (pe_callB (call_min2 rfl) (by rfl) T.b_min boot_min (pa_cons (pe_ix ix_tup (pv 6) pe_int (fun _ _=>rfl)) (pa_cons (pe_dget2 (hu_of hr) (pv 5) (pv 8) (pe_ix ix_tup (pv 6) pe_int (fun _ _=>rfl)) ⟨rfl,rfl,rfl,rfl⟩) pa_nil))) rfl))))))
   (pss_one (ps_ret (pv 5)))))),?_⟩
  obtain ⟨dx,ga,la,ca,ho,hob⟩:=C.obj
  have hn20:=go.n20
  intro nw hnw
  have s1:=Same.upd (o:=.dT []) hnw
  have C1:=C.step s1
  have m1:MapAt A (Rw es) (upd H nw (.dT [])) nw [] g x noM:=⟨upd_same,by simp,(fun k hk=>nomatch hk),(fun a i j _ _=>rfl),(fun a i j c _ h=>nomatch h)⟩
  generalize hH1:upd H nw (.dT [])=H1 at s1 C1 m1
  have n0:H0 nw=none:=C.same.free hnw
  have nf:nw≠fo:=fun z=>by rw [z,C.found.dict] at hnw;cases hnw
  have nt:nw≠tb:=fun z=>by rw [z,C.tbs.dict] at hnw;cases hnw
  have ho1:=s1 _ _ ho
  have nDict:∀{b:Addr} {o:HO},H1 b=some o→(∀kk,o≠.dT kk)→b≠nw:=fun {b o} e ne=>ne_of e m1.dict (ne _)
  refine ⟨_,rfl,ta,rfl,⟨_,SqL.of (s1 _ _ hta)⟩,for_list (K:=K) (a:=ta) (xs:=tvs) (fun t σ H'=>Kept nw H1 H'∧∃(knv:List (List Key×V)) (N:CMap) (v3 v4:Option V),MapAt A (Rw es) H' nw knv g x N∧Imp g k x m N∧
   (∀a i j,Vm.Valid g x (a,i,j)→cur (Vm.C g k x m) N a i j=((touchedL g le).take t).foldl (stepT g k x m a i j) (Vm.C g k x m a i j))∧
   σ= [some (.ref cp),some (.ref ta),some (.ref nw),v3,v4,none,none,none,none]) ?_ ?_ ?_ ?_⟩
  ·exact ⟨Kept.refl _ _,[],noM,_,_,m1,(fun b i j c _ h=>nomatch h),(fun a i j _=>rfl),rfl⟩
  ·exact fun t σ H' _ h=>SqL.of (h.1 _ _ (s1 _ _ hta) (nDict (s1 _ _ hta) (fun kk z=>nomatch z)))
  ·rintro t v σ H2 hv ⟨k2,knv,N,v3,v4,m2,imp2,cur2,rfl⟩
   obtain ⟨qt,hqt,⟨tt,rfl,htt⟩⟩:=paired_get htp hv
   have htt2:=k2 _ _ (s1 _ _ htt) (nDict (s1 _ _ htt) (fun kk z=>nomatch z))
   obtain ⟨r,hr0,hl0⟩:=touched_get (List.mem_of_getElem? hqt)
   have C2:=C1.news m1.dict nf nt n0 k2
   refine ⟨tt,_,rfl,SqT.of htt2,rfl,_,_,rfl,_,_,rfl,rfl,?_⟩
   refine ⟨_,rfl,_,rfl,_,rfl,_,rfl,H0,cp,tb,fo,nw,g,k,x,m,qt.1,qt.2,r,N,kvs,knv,es,rfl,C2,go,ok,hx,hr0,hle _ _ hl0,m2,nf,nt,n0,imp2,fun H3 knv3 N3 m3 l3 k3=>?_⟩
   refine ⟨k2.trans k3,knv3,N3,_,_,m3,l3.imp,fun a i j hv'=>?_,rfl⟩
   rw [List.take_succ,hqt,List.foldl_append]
   show _=stepT g k x m a i j _ qt
   rw [←cur2 a i j hv']
   unfold stepT
   rw [hr0]
   dsimp only
   by_cases z:r.lhs=a∧qt.2≤j
   ·rw [if_pos z]
    obtain ⟨rfl,z2⟩:=z
    exact l3.yes i j hv'.2.1 hv'.2.2 z2
   ·rw [if_neg z]
    exact cur_same (l3.no a i j hv' fun y=>z ⟨y.1.symm,y.2⟩)
  ·rintro σ H2 ⟨k2,knv,N,v3,v4,m2,imp2,cur2,rfl⟩
   have tll:tvs.length=(touchedL g le).length:=htp.length
   rw [tll,List.take_length] at cur2
   have curE:∀a i j,Vm.Valid g x (a,i,j)→cur (Vm.C g k x m) N a i j=Vm.C g k x (m+1) a i j:=fun a i j hv=>(cur2 a i j hv).trans (round_touched dom hv.1 hv.2.1 hv.2.2)
   have C2:=C1.news m1.dict nf nt n0 k2
   intro lo hlo
   have s3:=Same.upd (o:=.dT []) hlo
   have C3:=C2.step s3
   have m3:=m2.same s3
   have lo3:LowAt (upd H2 lo (.dT [])) lo [] g.nons (fun _=>none):=⟨upd_same,(fun b _=>rfl),(fun lo hi=>rfl),Nat.zero_le _,(fun q hq=>nomatch hq),by simp⟩
   have ho3:=s3 _ _ (k2 _ _ ho1 (nDict ho1 (fun kk z=>nomatch z)))
   generalize hH3:upd H2 lo (.dT [])=H3 at s3 C3 m3 lo3 ho3
   have lnw:lo≠nw:=fun z=>by rw [z,m2.dict] at hlo;cases hlo
   have lfo:lo≠fo:=fun z=>by rw [z,C2.found.dict] at hlo;cases hlo
   have lt:lo≠tb:=fun z=>by rw [z,C2.tbs.dict] at hlo;cases hlo
   have l0:H0 lo=none:=C2.same.free hlo
   refine ⟨nw,.dT knv,m3.dict,trivial,fun od=>?_⟩
   have k34:Kept nw H3 (upd H3 nw (.frz od (.dT knv))):=Kept.upd
   have C4:=C3.news m3.dict nf nt n0 k34
   have hf4:(upd H3 nw (.frz od (.dT knv))) nw=some (.frz od (.dT knv)):=upd_same
   have nD3:∀{b:Addr} {o:HO},H3 b=some o→(∀kk,o≠.dT kk)→b≠nw:=fun {b o} e ne=>ne_of e m3.dict (ne _)
   have lo4:LowAt (upd H3 nw (.frz od (.dT knv))) lo [] g.nons (fun _=>none):=⟨k34 _ _ lo3.dict lnw,lo3.at_,lo3.rng,lo3.len,lo3.keys,lo3.nd⟩
   have ce4:∀a i j c,Vm.Valid g x (a,i,j)→N a i j=some c→∃cb,valV knv (key3 a i j)=some (.ref cb)∧CellAt A (Rw es) (upd H3 nw (.frz od (.dT knv))) cb c:=fun a i j c hv e=>by
    obtain ⟨cb,z1,d2,e2,z2,z3,z4⟩:=m3.yes a i j c hv e
    exact ⟨cb,z1,d2,e2,k34 _ _ z2 (nD3 z2 (fun kk z=>nomatch z)),k34 _ _ z3 (nD3 z3 (fun kk z=>nomatch z)),z4⟩
   have ho4:=k34 _ _ ho3 (nD3 ho3 (fun kk z=>nomatch z))
   generalize hH4:upd H3 nw (.frz od (.dT knv))=H4 at k34 C4 hf4 lo4 ce4 ho4
   have hnR:∀{H':Hp} {M':CMap} {kvs':List (List Key×V)},CellsSt A H0 H' cp g k x M' tb fo kvs' es→∀{b:Addr} {o:HO},H' b=some o→(∀xs,o≠.lst xs)→¬Rw es b:=fun {H' M' kvs'} c {b o} e ne z=>by
    obtain ⟨xs,hxs⟩:=c.tbs.lists b z
    rw [e] at hxs
    exact ne xs (Option.some.inj hxs)
   refine ⟨_,rfl,nw,od,knv,rfl,hf4,for_items (kvs:=knv) (fun t σ H'=>H' nw=some (.frz od (.dT knv))∧∃(kvs' kls:List (List Key×V)) (low:Nat→Option Nat) (v6 v7 v8:Option V),
    CellsSt A H0 H' cp g k x (Mo (Vm.C g k x m) N ((knv.take t).map (·.1))) tb fo kvs' es∧LowAt H' lo kls g.nons low∧
    (∀a i j c,Vm.Valid g x (a,i,j)→N a i j=some c→∃cb,valV knv (key3 a i j)=some (.ref cb)∧CellAt A (Rw es) H' cb c)∧
    (∀t' b i j v,t'<t→knv[t']?=some (key3 b i j,v)→∃n,low b=some n∧n≤j)∧(∀b n,low b=some n→∃t' i j v,t'<t∧knv[t']?=some (key3 b i j,v)∧n=j)∧
    H' cp=some (.ins A.cCells dx (fCells (.ref ga) (.ref la) (.ref ca) (.ref tb) (.ref fo)))∧
    σ= [some (.ref cp),some (.ref ta),some (.ref nw),v3,v4,some (.ref lo),v6,v7,v8]) ?_ ?_ ?_ ?_⟩
   ·refine ⟨hf4,kvs,[],_,_,_,_,C4.congr fun a i j _ _=>?_,lo4,ce4,(fun t' b i j v h=>absurd h (by omega)),(fun b n h=>nomatch h),ho4,rfl⟩
    exact Mo_out (by simp)
   ·exact fun t σ H' _ h=>h.1
   ·rintro t kk v qa σ H5 TT hkv hqa ⟨hf5,kvs5,kls5,low5,v6,v7,v8,C5,lw5,ce5,la5,lb5,ho5,rfl⟩ hTT
    obtain ⟨⟨a,i,j⟩,hval,rfl⟩:=m3.keys kk (List.mem_map.mpr ⟨(kk,v),List.mem_of_getElem? hkv,rfl⟩)
    have hvv:valV knv (key3 a i j)=some v:=valV_at m3.nd hkv
    obtain ⟨c,hNc⟩:∃c,N a i j=some c:=by
     cases e:N a i j with
     |none=>rw [m3.no a i j hval e] at hvv;cases hvv
     |some c=>exact ⟨c,rfl⟩
    obtain ⟨cb,z1,hce⟩:=ce5 a i j c hval hNc
    rw [hvv] at z1
    have z1:v=.ref cb:=Option.some.inj z1
    subst z1
    have sT:=Same.upd (o:=.tup [.ref qa,.ref cb]) hTT
    have C6:=C5.step sT
    have hce6:CellAt A (Rw es) (upd H5 TT (.tup [.ref qa,.ref cb])) cb c:=by
     obtain ⟨d2,e2,y2,y3,y4⟩:=hce
     exact ⟨d2,e2,sT _ _ y2,sT _ _ y3,y4⟩
    have hq6:=sT _ _ hqa
    have ho6:=sT _ _ ho5
    have hf6:=sT _ _ hf5
    have tup6:(upd H5 TT (.tup [.ref qa,.ref cb])) TT=some (.tup [.ref qa,.ref cb]):=upd_same
    have lw6:LowAt (upd H5 TT (.tup [.ref qa,.ref cb])) lo kls5 g.nons low5:=⟨sT _ _ lw5.dict,lw5.at_,lw5.rng,lw5.len,lw5.keys,lw5.nd⟩
    have ce6:∀a i j c,Vm.Valid g x (a,i,j)→N a i j=some c→∃cb',valV knv (key3 a i j)=some (.ref cb')∧CellAt A (Rw es) (upd H5 TT (.tup [.ref qa,.ref cb])) cb' c:=fun a i j c hv e=>by
     obtain ⟨cb',y1,d2,e2,y2,y3,y4⟩:=ce5 a i j c hv e
     exact ⟨cb',y1,d2,e2,sT _ _ y2,sT _ _ y3,y4⟩
    generalize hH6:upd H5 TT (.tup [.ref qa,.ref cb])=H6 at sT C6 hce6 hq6 ho6 hf6 tup6 lw6 ce6
    refine ⟨TT,_,rfl,SqT.of tup6,rfl,_,_,rfl,_,_,rfl,rfl,?_⟩
    refine ⟨_,rfl,cp,dx,_,rfl,ho6,fCells_no_put,?_⟩
    refine ⟨_,rfl,qa,_,_,_,rfl,rfl,SqT.of hq6,at_of (j:=0) (v:=vN a) rfl rfl,_,rfl,qa,_,_,_,rfl,rfl,SqT.of hq6,at_of (j:=1) (v:=vN i) rfl rfl,_,rfl,qa,_,_,_,rfl,rfl,SqT.of hq6,at_of (j:=2) (v:=vN j) rfl rfl,_,rfl,?_⟩
    refine ⟨H0,cp,tb,fo,cb,g,k,x,_,kvs5,es,a,i,j,c,rfl,C6,hval,hce6,go.n20,hx,fun H7 kvs7 C7 fix7=>?_⟩
    have foD:=C6.found.dict
    have keep7:∀{b:Addr} {o:HO},H6 b=some o→(∀xs,o≠.lst xs)→b≠fo→H7 b=some o:=fun {b o} e ne nb=>fix7 _ _ e (hnR C6 e ne) nb
    have hq7:=keep7 hq6 (fun xs z=>nomatch z) (ne_of hq6 foD (by intro z;cases z))
    have ho7:=keep7 ho6 (fun xs z=>nomatch z) (ne_of ho6 foD (by intro z;cases z))
    have hf7:=keep7 hf6 (fun xs z=>nomatch z) nf
    have lo7:=keep7 lw6.dict (fun xs z=>nomatch z) lfo
    have ce7:∀a i j c,Vm.Valid g x (a,i,j)→N a i j=some c→∃cb',valV knv (key3 a i j)=some (.ref cb')∧CellAt A (Rw es) H7 cb' c:=fun a i j c hv e=>by
     obtain ⟨cb',y1,y2⟩:=ce6 a i j c hv e
     exact ⟨cb',y1,y2.fix C6.tbs.lists foD fix7⟩
    refine ⟨_,rfl,qa,_,_,_,rfl,rfl,SqT.of hq7,at_of (j:=0) (v:=vN a) rfl rfl,(by show 2≤sizeLine;decide),fun st hst=>?_⟩
    have sS:=Same.upd (o:=.tup [.int 0,vN a]) hst
    have tupS:(upd H7 st (.tup [.int 0,vN a])) st=some (.tup ((symK (.non a)).map kV)):=upd_same
    have C8:=C7.step sS
    generalize hH8:upd H7 st (.tup [.int 0,vN a])=H8 at sS tupS C8
    have lo8:=sS _ _ lo7
    have hq8:=sS _ _ hq7
    have ha:a<g.nons:=hval.1
    refine ⟨_,rfl,qa,_,_,_,rfl,rfl,SqT.of hq8,at_of (j:=2) (v:=vN j) rfl rfl,_,rfl,lo,rfl,.inr ⟨kls5,.inl lo8⟩,_,rfl,_,rfl,qa,_,_,_,rfl,rfl,SqT.of hq8,at_of (j:=2) (v:=vN j) rfl rfl,_,DGet.t (k:=symK (.non a)) lo8 tupS,?_⟩
    obtain ⟨nl,hnl,hnl1,hnl2⟩:∃nl:Nat,(∃y:Int,((valV kls5 (symK (.non a))).getD (vN j))=.int y∧(if y<(j:Int) then y else (j:Int))=(nl:Int))∧nl≤j∧((low5 a=none∧nl=j)∨∃n,low5 a=some n∧nl≤n∧(nl=n∨nl=j)):=by
     rw [lw5.at_ a ha]
     cases e:low5 a with
     |none=>exact ⟨j,⟨(j:Int),rfl,if_neg (by omega)⟩,Nat.le_refl _,.inl ⟨rfl,rfl⟩⟩
     |some n=>
      by_cases z:n<j
      ·exact ⟨n,⟨(n:Int),rfl,if_pos (by omega)⟩,by omega,.inr ⟨n,rfl,Nat.le_refl _,.inl rfl⟩⟩
      ·exact ⟨j,⟨(n:Int),rfl,if_neg (by omega)⟩,Nat.le_refl _,.inr ⟨n,rfl,by omega,.inr rfl⟩⟩
    obtain ⟨y,hy1,hy2⟩:=hnl
    rw [hy1]
    refine ⟨(j:Int),y,rfl,?_⟩
    rw [hy2]
    have kl5:=lw5.len
    refine ⟨_,rfl,_,rfl,lo,_,rfl,DPut.t (k:=symK (.non a)) lo8 tupS (small1000 (by omega)),?_⟩
    have k89:Kept lo H8 (upd H8 lo (.dT (putK kls5 (symK (.non a)) (.int (nl:Int))))):=Kept.upd
    have C9:=C8.news lo8 lfo lt l0 k89
    refine ⟨k89 _ _ (sS _ _ hf7) (Ne.symm lnw),kvs7,putK kls5 (symK (.non a)) (vN nl),(fun b=>if b=a then some nl else low5 b),_,_,_,C9.congr fun a' i' j' _ _=>?_,⟨upd_same,fun b hb=>?_,fun lo' hi'=>?_,?_,fun q' hq'=>?_,putK_nd lw5.nd⟩,fun a' i' j' c' hv' e'=>?_,fun t' b i' j' v' ht' hkv'=>?_,fun b n hb=>?_,k89 _ _ (sS _ _ ho7) (ne_of (sS _ _ ho7) lo8 (by intro z;cases z)),rfl⟩
    ·
     have hmem:∀y:List Key,y∈(knv.take (t+1)).map (·.1)↔y∈(knv.take t).map (·.1)∨y=key3 a i j:=fun y=>by
      rw [List.take_succ,hkv,List.map_append,List.mem_append]
      simp
     unfold CMap.set
     by_cases z:a'=a∧i'=i∧j'=j
     ·obtain ⟨rfl,rfl,rfl⟩:=z
      rw [Mo_in ((hmem _).mpr (.inr rfl)),if_pos ⟨rfl,rfl,rfl⟩]
      unfold cur
      rw [hNc]
     ·rw [if_neg z]
      by_cases z2:key3 a' i' j'∈(knv.take t).map (·.1)
      ·rw [Mo_in ((hmem _).mpr (.inl z2)),Mo_in z2]
      ·rw [Mo_out (fun z3=>((hmem _).mp z3).elim z2 fun z4=>z (key3_inj z4)),Mo_out z2]
    ·rw [valV_put]
     by_cases z:b=a
     ·subst z
      rw [if_pos rfl,if_pos rfl]
      all_goals rfl
     ·rw [if_neg (fun z2=>z (by have:=symK_inj z2;cases this;rfl)),if_neg z]
      exact lw5.at_ b hb
    ·rw [valV_put,if_neg (fun z2=>by have:=symK_inj z2;cases this)]
     exact lw5.rng lo' hi'
    ·have:=Vm.nodup_sub (L:=(List.range g.nons).map fun b=>symK (.non b)) (putK_nd (q:=symK (.non a)) (v:=vN nl) lw5.nd) fun q' hq'=>by
      rcases putK_keys hq' with z|z
      ·obtain ⟨b,hb,rfl⟩:=lw5.keys q' z
       exact List.mem_map.mpr ⟨b,List.mem_range.mpr hb,rfl⟩
      ·exact List.mem_map.mpr ⟨a,List.mem_range.mpr ha,z.symm⟩
     rw [List.length_map,List.length_map,List.length_range] at this
     exact this
    ·rcases putK_keys hq' with z|z
     ·exact lw5.keys q' z
     ·exact ⟨a,ha,z⟩
    ·obtain ⟨cb',y1,d2,e2,y2,y3,y4⟩:=ce7 a' i' j' c' hv' e'
     exact ⟨cb',y1,d2,e2,k89 _ _ (sS _ _ y2) (ne_of (sS _ _ y2) lo8 (by intro z;cases z)),k89 _ _ (sS _ _ y3) (ne_of (sS _ _ y3) lo8 (by intro z;cases z)),y4⟩
    ·by_cases z:t'=t
     ·subst z
      rw [hkv] at hkv'
      have hk:key3 a i j=key3 b i' j':=(Prod.mk.inj (Option.some.inj hkv')).1
      obtain ⟨rfl,rfl,rfl⟩:=key3_inj hk
      exact ⟨nl,if_pos rfl,hnl1⟩
     ·obtain ⟨n,y1,y2⟩:=la5 t' b i' j' v' (by omega) hkv'
      by_cases z2:b=a
      ·subst z2
       refine ⟨nl,if_pos rfl,?_⟩
       rcases hnl2 with ⟨y3,_⟩|⟨n',y3,y4,_⟩
       ·rw [y1] at y3;cases y3
       ·rw [y1] at y3
        cases y3
        omega
      ·exact ⟨n,by show (if b=a then some nl else low5 b)=_;rw [if_neg z2];exact y1,y2⟩
    ·by_cases z:b=a
     ·subst z
      have hb:some nl=some n:=by
       have hb:(if b=b then some nl else low5 b)=some n:=hb
       rw [if_pos rfl] at hb
       exact hb
      cases hb
      rcases hnl2 with ⟨_,y4⟩|⟨n',y3,y4,y5⟩
      ·exact ⟨t,i,j,_,by omega,hkv,y4⟩
      ·rcases y5 with y5|y5
       ·obtain ⟨t',i',j',v',w1,w2,w3⟩:=lb5 b n' y3
        exact ⟨t',i',j',v',by omega,w2,by omega⟩
       ·exact ⟨t,i,j,_,by omega,hkv,y5⟩
     ·have hb:low5 b=some n:=by
       have hb:(if b=a then some nl else low5 b)=some n:=hb
       rw [if_neg z] at hb
       exact hb
      obtain ⟨t',i',j',v',w1,w2,w3⟩:=lb5 b n hb
      exact ⟨t',i',j',v',by omega,w2,w3⟩
   ·rintro σ H5 ⟨hf5,kvs5,kls5,low5,v6,v7,v8,C5,lw5,ce5,la5,lb5,ho5,rfl⟩
    rw [List.take_length] at C5
    refine ⟨hf5,_,rfl,?_⟩
    have kE:Kept nw H5 (upd H5 nw (.dT knv)):=Kept.upd
    have C6:=C5.other (nw:=nw) (fun C dx fs z=>by rw [hf5] at z;cases z) (fun xs z=>by rw [hf5] at z;cases z) nf nt n0 kE
    have notin:∀a i j,Vm.Valid g x (a,i,j)→¬key3 a i j∈knv.map (·.1)→N a i j=none:=fun a i j hv hn'=>by
     cases e:N a i j with
     |none=>rfl
     |some c=>
      obtain ⟨cb,z1,_⟩:=m3.yes a i j c hv e
      exact absurd (valV_in z1) hn'
    have Nsome:∀b p e,Vm.Valid g x (b,p,e)→(Vm.Chg m b p e g k x↔∃c,N b p e=some c):=fun b p e hv=>by
     have hc:=curE b p e hv
     unfold Vm.Chg
     constructor
     ·intro h
      cases e':N b p e with
      |some c=>exact ⟨c,rfl⟩
      |none=>
       unfold cur at hc
       rw [e'] at hc
       have hc:Vm.C g k x m b p e=Vm.C g k x (m+1) b p e:=hc
       rw [←hc] at h
       exact absurd (Vm.Le.refl _) h
     ·rintro ⟨c,e'⟩
      unfold cur at hc
      rw [e'] at hc
      rw [←hc]
      exact (imp2 b p e c hv e').1
    refine q _ lo kvs5 kls5 low5 (C6.congr fun a i j h1 h2=>?_) ⟨kE _ _ lw5.dict lnw,lw5.at_,lw5.rng,lw5.len,lw5.keys,lw5.nd⟩ (fun b p e hb h1 h2 hc=>?_) (fun b n hb hl=>?_)
    ·by_cases ha:a<g.nons
     ·have hv:Vm.Valid g x (a,i,j):=⟨ha,h1,h2⟩
      by_cases z:key3 a i j∈knv.map (·.1)
      ·rw [Mo_in z]
       exact (curE a i j hv).symm
      ·rw [Mo_out z,←curE a i j hv]
       unfold cur
       rw [notin a i j hv z]
     ·rw [Vm.C_out ha]
      rw [Mo_out]
      ·rw [Vm.C_out ha]
      ·intro z
       obtain ⟨q',hv,e⟩:=m3.keys _ z
       have:=(key3_inj e).1
       rw [this] at ha
       exact ha hv.1
    ·obtain ⟨c,e'⟩:=(Nsome b p e ⟨hb,h1,h2⟩).mp hc
     obtain ⟨cb,z1,_⟩:=ce5 b p e c ⟨hb,h1,h2⟩ e'
     obtain ⟨y,hy,hy2⟩:=List.mem_map.mp (valV_in z1)
     obtain ⟨t',ht'⟩:=List.mem_iff_getElem?.mp hy
     exact la5 t' b p e y.2 ((List.getElem?_eq_some_iff.mp ht').1) (by rw [ht',←hy2])
    ·obtain ⟨t',i',j',v',w1,w2,w3⟩:=lb5 b n hl
     obtain ⟨q',hv,e⟩:=m3.keys (key3 b i' j') (List.mem_map.mpr ⟨_,List.mem_of_getElem? w2,rfl⟩)
     obtain ⟨e1,e2,e3⟩:=key3_inj e
     have hv':Vm.Valid g x (b,i',j'):=by
      rw [e1,e2,e3]
      exact hv
     refine ⟨by rw [w3];exact hv'.2.2,i',j',hv'.2.1,hv'.2.2,(Nsome b i' j' hv').mpr ?_⟩
     cases e':N b i' j' with
     |some c=>exact ⟨c,rfl⟩
     |none=>
      have:=m3.no b i' j' hv' e'
      rw [valV_at m3.nd w2] at this
      cases this
end
end Lr
namespace Lr
open PySem PySem.Spec PyProof.Rows L2 LX
open Vaglrl (Costs Text Cell)
open Vaglrc (Sym Rule Grammar)
def lowS (low:Nat→Option Nat):Sym→Option Nat
 | .non b=>low b
 | .range _ _=>none
def minO:List Nat→Option Nat
 | []=>none
 |a::r=>some (r.foldl min a)
theorem foldl_min_le:∀(r:List Nat) (a:Nat),r.foldl min a≤a∧∀y∈r,r.foldl min a≤y
 | [],a=>⟨Nat.le_refl _,fun y h=>nomatch h⟩
 |b::r,a=>by
  obtain ⟨h1,h2⟩:=foldl_min_le r (min a b)
  show (r.foldl min (min a b))≤a∧_
  refine ⟨by omega,fun y hy=>?_⟩
  rcases List.mem_cons.mp hy with rfl|hy
  ·show r.foldl min (min a y)≤y
   omega
  ·exact h2 y hy
theorem foldl_min_mem:∀(r:List Nat) (a:Nat),r.foldl min a=a∨r.foldl min a∈r
 | [],a=>.inl rfl
 |b::r,a=>by
  show r.foldl min (min a b)=a∨r.foldl min (min a b)∈b::r
  rcases foldl_min_mem r (min a b) with h|h
  ·rw [h]
   by_cases z:a≤b
   ·exact .inl (by omega)
   ·exact .inr (by rw [show min a b=b by omega];exact List.mem_cons_self)
  ·exact .inr (List.mem_cons_of_mem _ h)
theorem minO_some {l:List Nat} {n:Nat} (h:minO l=some n):n∈l∧∀y∈l,n≤y:=by
 cases l with
 |nil=>cases h
 |cons a r=>
  have h:r.foldl min a=n:=Option.some.inj h
  subst h
  obtain ⟨h1,h2⟩:=foldl_min_le r a
  refine ⟨?_,fun y hy=>?_⟩
  ·rcases foldl_min_mem r a with z|z
   ·rw [z];exact List.mem_cons_self
   ·exact List.mem_cons_of_mem _ z
  ·rcases List.mem_cons.mp hy with rfl|hy
   ·exact h1
   ·exact h2 y hy
theorem minO_of {l:List Nat} {n:Nat} (h1:n∈l) (h2:∀y∈l,n≤y):minO l=some n:=by
 cases l with
 |nil=>cases h1
 |cons a r=>
  have e:minO (a::r)=some (r.foldl min a):=rfl
  obtain ⟨z1,z2⟩:=minO_some e
  rw [e]
  have:=h2 _ z1
  have:=z2 n h1
  congr 1
  omega
def leOf (g:Grammar) (low:Nat→Option Nat) (num:Nat):Option Nat:=match g.rules[num]? with
 |some r=>minO (r.rhs.filterMap (lowS low))
 |none=>none
section
variable {P:Program} {w:World} {K:PySem.W.Frag} {mg:Str→Option Value} {base:Heap} {A:Ad}
def spTR (A:Ad):Sp:=fun vs H Q _=>∃(ga lo:Addr) (g:Grammar) (kls:List (List Key×V)) (low:Nat→Option Nat),vs= [.ref ga,.ref lo]∧GramAt A H ga g∧Vm.GOk g∧LowAt H lo kls g.nons low∧
 ∀(H':Hp) (ta:Addr),TouchedAt H' ta (touchedL g (leOf g low))→Same H H'→H ta=none→Q (.ref ta) H'
abbrev nTR:List Str:= ["grammar","lowest_ends","touched","number","rule","ends","symbol"]
theorem scTR:FnScope nTR ["grammar","lowest_ends"] (defScope sTouchedRules):=⟨rfl,rfl,rfl,by decide+kernel,rfl,by decide+kernel,by decide+kernel⟩
theorem numbered_at {g:Grammar} {t:Nat} {r:Rule} (h:g.rules[t]?=some r):(Vaglrc.numbered g)[t]?=some (t,r):=by
 have hl:=(List.getElem?_eq_some_iff.mp h).1
 unfold Vaglrc.numbered
 rw [List.getElem?_zip_eq_some]
 exact ⟨List.getElem?_range hl,h⟩
theorem okTR {f:Addr} {fd:FuncData} (F:Fun K "touched_rules" "touched_rules" sTouchedRules f fd) (T:Txt A K mg):FnOk P w K mg base CX0 1 f fd ["grammar","lowest_ends"] (spTR A):=by
 refine F.ok scTR (fun vs H Q E h=>?_) (fun cdv A' outer s H vs Q E hr h=>?_)
 ·obtain ⟨ga,lo,g,kls,low,rfl,_⟩:=h
  rfl
 ·obtain ⟨ga,lo,g,kls,low,rfl,⟨dxg,ra,ps,hgo,hrs⟩,go,lw,q⟩:=h
  refine ⟨_,pss_cons (ps_set (i:=2) scTR.nd rfl (Or.inl rfl) (pe_lst pa_nil))
   (pss_cons (ps_for PassesOwn.never rfl (pi_enum rfl T.b_enumerate (pa_cons (pe_fld (pv 0) rfl) pa_nil)) (pg_tup rfl (pgs_cons (pg_name (i:=3) scTR.nd rfl (Or.inl rfl)) (pgs_cons (pg_name (i:=4) scTR.nd rfl (Or.inl rfl)) pgs_nil)))
    (pss_cons (ps_setLc (i:=5) (own:= [("symbol",6)]) rfl scTR.nd rfl rfl (sw_true rfl rfl rfl rfl) (pi_list (pe_fld (pv 4) rfl)) (blkOk_by (by show blkC nTR (defScope sTouchedRules) _ _=true;decide+kernel))
     (fun s H C cl fp=>pg_name (i:=6) scTR.nd rfl (Or.inl rfl)) (fun s H C cl fp=>pts_one (pt_cmp (pc_din (hu_of hr) (pv 6) (pv 1)))) (fun s H C cl fp=>pe_dget (hu_of hr) (pv 1) (pv 6) (fun _ _=>rfl)))
    (pss_one (ps_if (pt_truth (pv 5) (fun _=>rfl)) (pss_one (ps_expr (pe_bm PySem.F.plainAttrs_list PySem.F.slot_list_append PySem.F.type_list_append mt_append (pv 2) (pa_cons (pe_tup (pa_cons (pv 3) (pa_cons (pe_callB (cr_min rfl) (by rfl) T.b_min boot_min (pa_cons (pv 5) pa_nil)) pa_nil))) pa_nil)))) pss_nil))))
   (pss_one (ps_ret (pv 2)))),?_⟩
  refine ⟨Nat.zero_le _,fun ta hta=>?_⟩
  have s1:=Same.upd (o:=.lst []) hta
  have h60:=go.r60
  refine ⟨_,rfl,ga,_,dxg,_,_,rfl,s1 _ _ hgo,T.lGrammar,T.nGrammar_rules,fGrammar_rules,ra,_,rfl,SqL.of (s1 _ _ hrs.lst),for_enum (xs:=ps.map V.ref) (fun t σ H'=>Same H H'∧∃(vs:List V) (v3 v4 v5:Option V),H' ta=some (.lst vs)∧vs.length≤t∧
   Paired (fun v c=>TupV H' v [vN c.1,vN c.2]) vs (((Vaglrc.numbered g).take t).filterMap fun r=>(leOf g low r.1).map fun l=>(r.1,l))∧σ= [some (.ref ga),some (.ref lo),some (.ref ta),v3,v4,v5,none]) ?_ ?_ ?_ ?_⟩
  ·exact ⟨s1,[],_,_,_,upd_same,Nat.zero_le _,by simp;exact .nil,rfl⟩
  ·exact fun t σ H' _ h=>SqL.of (h.1 _ _ hrs.lst)
  ·rintro t v σ H2 tt hv ⟨s2,vs,v3,v4,v5,hvs,hvl,hp,rfl⟩ htt
   rw [List.getElem?_map] at hv
   obtain ⟨p,hpp⟩:∃p,ps[t]?=some p:=by
    cases e:ps[t]? with
    |none=>rw [e] at hv;cases hv
    |some p=>exact ⟨p,rfl⟩
   rw [hpp] at hv
   have hv:V.ref p=v:=Option.some.inj hv
   subst hv
   have htl:t<g.rules.length:=by rw [←hrs.len];exact (List.getElem?_eq_some_iff.mp hpp).1
   obtain ⟨r,hr0⟩:∃r,g.rules[t]?=some r:=⟨_,List.getElem?_eq_getElem htl⟩
   have hmem:r∈g.rules:=List.mem_of_getElem? hr0
   obtain ⟨dxr,sa,qs,hro,hsy⟩:=hrs.at_ t p r hpp hr0
   have h8:=go.syms r hmem
   have sT:=Same.upd (o:=.tup [vN t,.ref p]) htt
   have tupT:(upd H2 tt (.tup [vN t,.ref p])) tt=some (.tup [vN t,.ref p]):=upd_same
   have s3:Same H (upd H2 tt (.tup [vN t,.ref p])):=s2.trans sT
   have hvs3:=sT _ _ hvs
   have hp3:Paired (fun v c=>TupV (upd H2 tt (.tup [vN t,.ref p])) v [vN c.1,vN c.2]) vs (((Vaglrc.numbered g).take t).filterMap fun r=>(leOf g low r.1).map fun l=>(r.1,l)):=Paired.mapP hp fun _ _ z=>z.same sT
   generalize hH3:upd H2 tt (.tup [vN t,.ref p])=H3 at sT tupT s3 hvs3 hp3
   refine ⟨tt,_,rfl,SqT.of tupT,rfl,_,_,rfl,_,_,rfl,rfl,?_⟩
   refine ⟨_,rfl,p,_,dxr,_,_,rfl,s3 _ _ hro,T.lRule,T.nRule_symbols,fRule_symbols,sa,rfl,⟨_,SqL.of (s3 _ _ hsy.lst)⟩,fun D hD=>lc_list (K:=K) (a:=sa) (xs:=qs.map V.ref) (fun i H'=>Same H3 H'∧H' D=some (.lst (((r.rhs.take i).filterMap (lowS low)).map vN))) ?_ ?_ ?_ ?_⟩
   ·exact ⟨Same.upd hD,upd_same⟩
   ·exact fun i H' _ h=>SqL.of (h.1 _ _ (s3 _ _ hsy.lst))
   ·rintro i u H4 hu ⟨s4,hD4⟩
    rw [List.getElem?_map] at hu
    obtain ⟨sq,hsq⟩:∃sq,qs[i]?=some sq:=by
     cases e:qs[i]? with
     |none=>rw [e] at hu;cases hu
     |some sq=>exact ⟨sq,rfl⟩
    rw [hsq] at hu
    have hu:V.ref sq=u:=Option.some.inj hu
    subst hu
    have hil:i<r.rhs.length:=by rw [←hsy.len];exact (List.getElem?_eq_some_iff.mp hsq).1
    obtain ⟨sy,hsyi⟩:∃sy,r.rhs[i]?=some sy:=⟨_,List.getElem?_eq_getElem hil⟩
    have htup:=s4 _ _ (s3 _ _ (hsy.at_ i sq sy hsq hsyi))
    have hlo:=s4 _ _ (s3 _ _ lw.dict)
    have okS:=go.sym _ hmem sy (List.mem_of_getElem? hsyi)
    have look:valV kls (symK sy)=(lowS low sy).map vN:=by
     cases sy with
     |non b=>exact lw.at_ b okS
     |range l h=>exact lw.rng l h
    have tk:(r.rhs.take (i+1)).filterMap (lowS low)=(r.rhs.take i).filterMap (lowS low)++(lowS low sy).toList:=by
     rw [List.take_succ,hsyi,List.filterMap_append]
     congr 1
    refine ⟨rfl,_,rfl,_,rfl,lo,_,rfl,DGet.t (k:=symK sy) hlo htup,_,rfl,?_⟩
    cases e:lowS low sy with
    |none=>
     rw [e] at look tk
     rw [look]
     refine iteF ⟨s4,?_⟩
     rw [hD4,tk]
     simp
    |some n=>
     rw [e] at look tk
     rw [look]
     refine iteT ?_
     refine ⟨_,rfl,_,rfl,lo,vN n,rfl,by rw [show some (vN n)=valV kls (symK sy) from look.symm];exact DGet.t (k:=symK sy) hlo htup,_,hD4,?_,fun b o z=>?_,?_⟩
     ·rw [List.length_map]
      refine small1000 (Nat.le_trans (List.length_filterMap_le _ _) ?_)
      rw [List.length_take]
      omega
     ·rw [upd_ne (ne_of_none z hD)]
      exact s4 _ _ z
     ·rw [upd_same,tk,List.map_append]
      rfl
   ·rintro H4 ⟨s4,hD4⟩
    rw [List.length_map,hsy.len,List.take_length] at hD4
    have num:=numbered_at hr0
    have leE:leOf g low t=minO (r.rhs.filterMap (lowS low)):=by unfold leOf;rw [hr0]
    have tk:((Vaglrc.numbered g).take (t+1)).filterMap (fun r=>(leOf g low r.1).map fun l=>(r.1,l))=(((Vaglrc.numbered g).take t).filterMap fun r=>(leOf g low r.1).map fun l=>(r.1,l))++((minO (r.rhs.filterMap (lowS low))).map fun l=>(t,l)).toList:=by
     rw [List.take_succ,num,List.filterMap_append]
     congr 1
     show [(t,r)].filterMap _=_
     rw [List.filterMap_cons]
     dsimp only
     rw [leE]
     cases minO (r.rhs.filterMap (lowS low))<;>rfl
    refine ⟨_,rfl,_,.inl ⟨_,SqL.of hD4,rfl⟩,?_⟩
    cases e:r.rhs.filterMap (lowS low) with
    |nil=>
     rw [e] at tk
     refine iteF ⟨s3.trans s4,vs,_,_,_,s4 _ _ hvs3,by omega,?_,rfl⟩
     rw [tk]
     show Paired _ vs (_++ [])
     rw [List.append_nil]
     exact Paired.mapP hp3 fun _ _ z=>z.same s4
    |cons n0 nr=>
     rw [e] at tk hD4
     refine iteT ?_
     refine ⟨_,rfl,.inl ⟨rfl,_,SqL.of (s4 _ _ hvs3)⟩,_,rfl,_,rfl,D,(n0::nr).map (fun n:Nat=>(n:Int)),rfl,SqL.of (by rw [hD4,List.map_map];rfl),by simp,fun mi hm1 hm2=>?_⟩
     obtain ⟨mn,hmn,rfl⟩:=List.mem_map.mp hm1
     have hmin:minO (n0::nr)=some mn:=minO_of hmn fun y hy=>by
      have:=hm2 (y:Int) (List.mem_map.mpr ⟨y,hy,rfl⟩)
      omega
     refine ⟨(by show 2≤sizeLine;decide),fun t2 ht2=>?_⟩
     have s5:=Same.upd (o:=.tup [vN t,.int (mn:Int)]) ht2
     have s345:=(s4.trans s5)
     refine ⟨ta,_,_,rfl,rfl,s345 _ _ hvs3,small1000 (by omega),?_⟩
     have tD:∀{v:V} {ws:List V},TupV (upd H4 t2 (.tup [vN t,.int (mn:Int)])) v ws→TupV (upd (upd H4 t2 (.tup [vN t,.int (mn:Int)])) ta (.lst (vs++ [.ref t2]))) v ws:=by
      rintro v ws ⟨q',rfl,hq'⟩
      refine ⟨q',rfl,?_⟩
      rw [upd_ne (ne_of hq' (s345 _ _ hvs3) (by intro z;cases z))]
      exact hq'
     refine ⟨fun b o z=>?_,vs++ [.ref t2],_,_,_,upd_same,by simp;omega,?_,rfl⟩
     ·rw [upd_ne (ne_of_none z hta)]
      exact s345 _ _ (s3 _ _ z)
     ·rw [tk,hmin]
      exact Paired.snoc (Paired.mapP hp3 fun _ _ z=>tD (z.same s345)) (tD ⟨t2,rfl,upd_same⟩)
  ·rintro σ H2 ⟨s2,vs,v3,v4,v5,hvs,hvl,hp,rfl⟩
   rw [List.length_map,hrs.len] at hp
   have nl:(Vaglrc.numbered g).length=g.rules.length:=by unfold Vaglrc.numbered;simp
   rw [←nl,List.take_length] at hp
   exact ⟨_,rfl,q H2 ta ⟨vs,hvs,hp⟩ s2 hta⟩
end
end Lr
namespace Lr
open PySem PySem.Spec PyProof.Rows L2 LX
open Vaglrl (Costs Text Cell)
open Vaglrc (Sym Rule Grammar)
theorem touched_first (g:Grammar):touchedL g (fun _=>some 0)=(List.range g.rules.length).map fun t=>(t,0):=by
 unfold touchedL
 have e:∀l:List (Nat×Rule),(l.filterMap fun r=>(some 0:Option Nat).map fun n=>(r.1,n))=(l.map (·.1)).map fun t=>(t,0):=by
  intro l
  induction l with
  |nil=>rfl
  |cons p l ih=>
   rw [List.filterMap_cons]
   show (p.1,0)::_=(p.1,0)::_
   rw [ih]
 rw [e]
 congr 1
 unfold Vaglrc.numbered
 rw [List.map_fst_zip]
 rw [List.length_range]
 exact Nat.le_refl _
theorem touched_none {g:Grammar} {le:Nat→Option Nat} (h:touchedL g le= []):∀r∈Vaglrc.numbered g,le r.1=none:=fun r hr=>by
 cases e:le r.1 with
 |none=>rfl
 |some n=>
  exfalso
  have:(r.1,n)∈touchedL g le:=List.mem_filterMap.mpr ⟨r,hr,by rw [e];rfl⟩
  rw [h] at this
  cases this
section
variable {P:Program} {w:World} {K:PySem.W.Frag} {mg:Str→Option Value} {base:Heap} {A:Ad}
def specM (g:Grammar) (k:Costs) (x:Text):CMap:=fun a i j=>Vaglrl.cellAt (Vaglrl.tableOf g k x) a i j
def spFC (A:Ad):Sp:=fun vs H Q _=>∃(ga la ca:Addr) (g:Grammar) (k:Costs) (x:Text),vs= [.ref ga,.ref la,.ref ca]∧GramAt A H ga g∧Vm.GOk g∧TextAt H la x∧CostsAt A H ca k∧Vm.CostsOk k∧x.length≤12∧
 ∀(H':Hp) (cp tb fo:Addr) (kvs:List (List Key×V)) (es:List Ent),CellsSt A H H' cp g k x (specM g k x) tb fo kvs es→H cp=none→Q (.ref cp) H'
abbrev nFC:List Str:= ["grammar","letters","costs","cells","touched","lowest_ends","number"]
theorem scFC:FnScope nFC ["grammar","letters","costs"] (defScope sFindCells):=⟨rfl,rfl,rfl,by decide+kernel,rfl,by decide+kernel,by decide+kernel⟩
theorem okFC {f fI fM fT:Addr} {fd fdI fdM fdT:FuncData} (F:Fun K "find_cells" "find_cells" sFindCells f fd) (T:Txt A K mg) (CI:Ne P w K mg base CX0 5 A.cCells fI fdI ["self","grammar","letters","costs"] (spCellsI A))
  (MR:Cl P w K mg base CX0 4 "make_round" fM fdM ["cells","touched"] (spMR A)) (TR:Cl P w K mg base CX0 1 "touched_rules" fT fdT ["grammar","lowest_ends"] (spTR A)):FnOk P w K mg base CX0 7 f fd ["grammar","letters","costs"] (spFC A):=by
 refine F.ok scFC (fun vs H Q E h=>?_) (fun cdv A' outer s H vs Q E hr h=>?_)
 ·obtain ⟨ga,la,ca,g,k,x,rfl,_⟩:=h
  rfl
 ·obtain ⟨ga,la,ca,g,k,x,rfl,hg,go,hx,hc,ok,hl,q⟩:=h
  have hr4:Room 4 _:=hr.mono (by decide)
  have hr1:Room 1 _:=hr.mono (by decide)
  obtain ⟨dxg,ra,ps,hgo,hrs⟩:=hg
  have h60:=go.r60
  refine ⟨_,pss_cons (ps_set (i:=3) scFC.nd rfl (Or.inl rfl) (pe_make CI.m CI.ok hr rfl T.mCells CI.b .nil pass0 (pa_cons (pv 0) (pa_cons (pv 1) (pa_cons (pv 2) pa_nil)))))
   (pss_cons (ps_setLc (i:=4) (own:= [("number",6)]) rfl scFC.nd rfl rfl (sw_true rfl rfl rfl rfl) (pi_range1 rfl T.b_range (pa_cons (pe_callB call_len_seq (by rfl) T.b_len PySem.boot_len (pa_cons (pe_fld (pv 0) rfl) pa_nil)) pa_nil)) (blkOk_by (by show blkC nFC (defScope sFindCells) _ _=true;decide+kernel))
    (fun s H C cl fp=>pg_name (i:=6) scFC.nd rfl (Or.inl rfl)) (fun s H C cl fp=>pts_nil) (fun s H C cl fp=>pe_tup (pa_cons (pv 6) (pa_cons pe_int pa_nil))))
   (pss_cons (ps_while PassesOwn.never (pt_truth (pv 4) (fun _=>rfl))
    (pss_cons (ps_set (i:=5) scFC.nd rfl (Or.inl rfl) (pe_call MR.ok hr4 rfl MR.m MR.kp MR.b .nil pass0 (pa_cons (pv 3) (pa_cons (pv 4) pa_nil))))
    (pss_one (ps_set (i:=4) scFC.nd rfl (Or.inl rfl) (pe_call TR.ok hr1 rfl TR.m TR.kp TR.b .nil pass0 (pa_cons (pv 0) (pa_cons (pv 5) pa_nil)))))))
   (pss_one (ps_ret (pv 3))))),?_⟩
  refine ⟨_,rfl,_,rfl,_,rfl,?_⟩
  intro cx cdx n1 n2 n3
  have s0:Same H (upd (upd H cdx (.own cx)) cx (.ins A.cCells cdx [])):=fun b o e=>by
   rw [upd_ne (ne_of_none e n1),upd_ne (ne_of_none e n2)]
   exact e
  refine ⟨H,cx,cdx,ga,la,ca,g,k,x,rfl,upd_same,s0,n1,⟨dxg,ra,ps,hgo,hrs⟩,go,hx,hc,ok,hl,fun H1 tb fo es C1 kp1=>⟨rfl,?_⟩⟩
  have C1':CellsSt A H H1 cx g k x (Vm.C g k x 0) tb fo [] es:=C1.congr fun a i j _ _=>Vm.C_zero
  have mono:∀{D:Addr} {H H':Hp} {v:V} {c:Nat×Nat},Kept D H H'→(TupV H v [vN c.1,vN c.2]∧v≠.ref D)→TupV H' v [vN c.1,vN c.2]∧v≠.ref D:=by
   rintro D H H' v c kk ⟨⟨q',rfl,h⟩,n⟩
   exact ⟨⟨q',rfl,kk _ _ h fun e=>n (by rw [e])⟩,n⟩
  refine ⟨_,rfl,ga,_,dxg,_,_,rfl,C1.same _ _ hgo,T.lGrammar,T.nGrammar_rules,fGrammar_rules,ra,_,rfl,.inl (SqL.of (C1.same _ _ hrs.lst)),(g.rules.length:Int),by rw [List.length_map,hrs.len],by omega,by omega,fun D hD=>lc_range (Part (fun H v c=>TupV H v [vN c.1,vN c.2]∧v≠.ref D) D H1 (touchedL g fun _=>some 0)) (Part.start hD) ?_ ?_⟩
  ·intro t H2 ht p
   refine ⟨rfl,tyes ?_⟩
   refine ⟨_,rfl,(by show 2≤sizeLine;decide),fun tt htt=>?_⟩
   obtain ⟨_,vs,h1,_⟩:=id p
   refine p.next mono hD (by rw [touched_first,List.length_map,List.length_range];omega) (c:=(t,0)) ?_ (Same.upd htt) ⟨⟨tt,rfl,?_⟩,fun e=>by cases e;rw [h1] at htt;cases htt⟩
   ·rw [touched_first,List.getElem?_map,List.getElem?_range (by omega)]
    rfl
   ·rw [upd_same]
    show some (HO.tup [V.int (0+(t:Int)),V.int 0])=some (HO.tup [V.int (t:Int),V.int 0])
    rw [Int.zero_add]
  ·intro H2 p
   obtain ⟨s2,vs2,hD2,pp⟩:=p.done (by rw [touched_first,List.length_map,List.length_range];omega)
   have C2:=C1'.step s2
   have nR:¬Rw es D:=fun z=>by
    obtain ⟨xs,hxs⟩:=C1.tbs.lists D z
    rw [hD] at hxs
    cases hxs
   refine ⟨fun μ σ H'=>∃(m:Nat) (le:Nat→Option Nat) (kvs:List (List Key×V)) (ta:Addr) (v5:Option V),CellsSt A H H' cx g k x (Vm.C g k x m) tb fo kvs es∧TouchedAt H' ta (touchedL g le)∧¬Rw es ta∧(∀n l,le n=some l→l≤x.length+1)∧Vm.Dom le m g k x∧(touchedL g le≠ []→m≤1820)∧μ=1822 - m∧
    σ= [some (.ref ga),some (.ref la),some (.ref ca),some (.ref cx),some (.ref ta),v5,none],⟨1822,0,_,_,D,_,C2,⟨vs2,hD2,Paired.mapP pp fun _ _ z=>z.1⟩,nR,(fun n l h=>by cases h;omega),Vm.dom_first,(fun _=>by omega),rfl,rfl⟩,?_⟩
   rintro μ σ H3 ⟨m,le,kvs,ta,v5,C3,⟨tvs,hta,htp⟩,ntr,hle,dom,hm,rfl,rfl⟩
   have tlen:=htp.length
   refine ⟨_,rfl,_,.inl ⟨tvs,SqL.of hta,rfl⟩,?_⟩
   refine iteB (fun hb=>?_) (fun hb=>?_)
   ·have hne:touchedL g le≠ []:=fun z=>by
     rw [z] at tlen
     have:tvs= []:=List.length_eq_zero_iff.mp tlen
     rw [this] at hb
     cases hb
    have hm':=hm hne
    refine ⟨fun σ' H'=>∃m',m'<1822 - m∧∃(m1:Nat) (le:Nat→Option Nat) (kvs:List (List Key×V)) (ta:Addr) (v5:Option V),CellsSt A H H' cx g k x (Vm.C g k x m1) tb fo kvs es∧TouchedAt H' ta (touchedL g le)∧¬Rw es ta∧(∀n l,le n=some l→l≤x.length+1)∧Vm.Dom le m1 g k x∧(touchedL g le≠ []→m1≤1820)∧m'=1822 - m1∧
     σ'= [some (.ref ga),some (.ref la),some (.ref ca),some (.ref cx),some (.ref ta),v5,none],fun σ' H' h=>h,?_⟩
    refine ⟨_,rfl,_,rfl,H,cx,tb,fo,ta,g,k,x,m,le,kvs,es,rfl,C3,go,ok,hl,⟨tvs,hta,htp⟩,ntr,hle,dom,fun H4 lo kvs4 kls low C4 lw hlow hlow2=>?_⟩
    refine ⟨_,rfl,_,rfl,ga,lo,g,kls,low,rfl,GramAt.same C4.same ⟨dxg,ra,ps,hgo,hrs⟩,go,lw,fun H5 ta5 htt5 s5 n5=>?_⟩
    have low_le:∀num l,leOf g low num=some l→∃b,b<g.nons∧low b=some l:=fun num l h=>by
     unfold leOf at h
     cases e:g.rules[num]? with
     |none=>rw [e] at h;cases h
     |some r=>
      rw [e] at h
      obtain ⟨y,hy,hy2⟩:=List.mem_filterMap.mp (minO_some h).1
      cases y with
      |range lo' hi'=>cases hy2
      |non b=>exact ⟨b,go.sym r (List.mem_of_getElem? e) _ hy,hy2⟩
    refine ⟨1822 - (m+1),by omega,m+1,leOf g low,kvs4,ta5,_,C4.step s5,htt5,fun z=>?_,fun n l h=>?_,Vm.dom_next go hlow (fun r hr b n hbm hbl=>?_),fun hne'=>?_,rfl,rfl⟩
    ·obtain ⟨xs,hxs⟩:=C4.tbs.lists ta5 z
     rw [n5] at hxs
     cases hxs
    ·obtain ⟨b,hb',hb2⟩:=low_le n l h
     have:=(hlow2 b l hb' hb2).1
     omega
    ·have hr2:=Vm.numbered_mem hr
     have hin:n∈r.2.rhs.filterMap (lowS low):=List.mem_filterMap.mpr ⟨_,hbm,hbl⟩
     unfold leOf
     rw [hr2]
     dsimp only
     cases e:minO (r.2.rhs.filterMap (lowS low)) with
     |none=>
      cases z:r.2.rhs.filterMap (lowS low) with
      |nil=>rw [z] at hin;cases hin
      |cons a0 r0=>rw [z] at e;cases e
     |some n'=>exact ⟨n',rfl,(minO_some e).2 n hin⟩
    ·obtain ⟨qt,hqt⟩:=List.exists_mem_of_ne_nil _ hne'
     obtain ⟨r,_,hl2⟩:=touched_get hqt
     obtain ⟨b,hb',hb2⟩:=low_le _ _ hl2
     obtain ⟨_,p',e',h1,h2,hch⟩:=hlow2 b _ hb' hb2
     exact Vm.chg_bound go.n20 hl hb' h1 h2 hch
   ·have hnil:touchedL g le= []:=by
     have:tvs= []:=by
      cases tvs with
      |nil=>rfl
      |cons a0 r0=>cases hb
     rw [this] at tlen
     exact List.length_eq_zero_iff.mp tlen.symm
    have still:Vm.Still m g k x:=Vm.dom_still fun r hr i j h1 h2 _=>dom r hr i j h1 h2 fun n hn=>by
     rw [touched_none hnil r hr] at hn
     cases hn
    exact ⟨_,rfl,q H3 cx tb fo kvs es (C3.congr fun a i j h1 h2=>Vm.table_is go.n20 hl still h1 h2) n1⟩
end
end Lr
namespace Lr
open PySem PySem.Spec PyProof.Rows L2 LX
open Vaglrl (Costs Text Cell)
open Vaglrc (Sym Rule Grammar)
structure RdAt (A:Ad) (H:Hp) (p ra:Addr) (row:List Int) (n:Nat):Prop where
 obj:∃dx,H p=some (.ins A.cRowReader dx (fRowReader (.ref ra) (vN n)))∧H ra=some (.lst (row.map V.int))
 le:n≤row.length
theorem RdAt.same {A:Ad} {H H':Hp} {p ra:Addr} {row:List Int} {n:Nat} (s:Same H H') (h:RdAt A H p ra row n):RdAt A H' p ra row n:=
 ⟨let ⟨dx,h1,h2⟩:=h.obj;⟨dx,s _ _ h1,s _ _ h2⟩,h.le⟩
section
variable {P:Program} {w:World} {K:PySem.W.Frag} {mg:Str→Option Value} {base:Heap} {A:Ad}
def tak (row:List Int) (n:Nat) (lo hi:Int):Option Int:=match row[n]? with
 |some v=>if lo≤v∧v≤hi then some v else none
 |none=>none
def spTake (A:Ad):Sp:=fun vs H Q E=>∃(p ra:Addr) (row:List Int) (n:Nat) (lo hi:Int),vs= [.ref p,.int lo,.int hi]∧RdAt A H p ra row n∧
 (tak row n lo hi=none→∀H',Kept p H H'→E (.ref A.cNoGrammarRow) none H')∧
 ∀v,tak row n lo hi=some v→∀H',RdAt A H' p ra row (n+1)→Kept p H H'→Q (.int v) H'
theorem scTake:FnScope ["self","lowest","highest","number"] ["self","lowest","highest"] (defScope sRowReaderTake):=⟨rfl,rfl,rfl,by decide+kernel,rfl,by decide+kernel,by decide+kernel⟩
theorem okTake {f:Addr} {fd:FuncData} (F:Fun K "take" "RowReader.take" sRowReaderTake f fd) (T:Txt A K mg):FnOk P w K mg base (CXL P w) 1 f fd ["self","lowest","highest"] (spTake A):=by
 refine okX F scTake (fun vs H Q E h=>?_) (fun cdv A' outer s H vs Q E hr h=>?_)
 ·obtain ⟨p,ra,row,n,lo,hi,rfl,_⟩:=h
  rfl
 ·obtain ⟨p,ra,row,n,lo,hi,rfl,R,q1,q2⟩:=h
  obtain ⟨⟨dx,h1,h2⟩,hle⟩:=R
  refine ⟨_,pss_cons (ps_if (pt_cmp (pc_eqI (pe_fld (pv 0) rfl) (pe_callB call_len_seq (by rfl) T.b_len PySem.boot_len (pa_cons (pe_fld (pv 0) rfl) pa_nil)))) (pss_one (ps_raise T.xNoGrammarRow rfl T.mNoGrammarRow (pa_cons pe_str pa_nil))) pss_nil)
   (pss_cons (ps_set (i:=3) scTake.nd rfl (Or.inl rfl) (pe_ix ix_list (pe_fld (pv 0) rfl) (pe_fld (pv 0) rfl) (fun _ _=>rfl)))
   (pss_cons (ps_if (pw_or (pt_cmpR op_lt (pv 3) (pv 1) (nomark _)) (pw_or1 (pt_cmpR op_gt (pv 3) (pv 2) (nomark _)))).pt (pss_one (ps_raise T.xNoGrammarRow rfl T.mNoGrammarRow (pa_cons pe_str pa_nil))) pss_nil)
   (pss_cons (ps_fldaug (pv 0) pe_int in_add)
   (pss_one (ps_ret (pv 3)))))),?_⟩
  refine ⟨_,rfl,p,_,dx,_,_,rfl,h1,T.lRowReader,T.nRowReader_place,fRowReader_place,_,rfl,p,_,dx,_,_,rfl,h1,T.lRowReader,T.nRowReader_row,fRowReader_row,ra,_,rfl,.inl (SqL.of h2),?_⟩
  refine ⟨_,_,rfl,rfl,_,rfl,iteD (fun e=>?_) (fun ne=>?_)⟩
  ·refine ⟨(by show 1≤sizeLine;decide),q1 ?_ H (Kept.refl _ _)⟩
   rw [List.length_map] at e
   unfold tak
   rw [List.getElem?_eq_none (by omega)]
  ·rw [List.length_map] at ne
   have hlt:n<row.length:=by omega
   have hv:row[n]?=some row[n]:=List.getElem?_eq_getElem hlt
   refine ⟨_,rfl,p,_,dx,_,_,rfl,h1,T.lRowReader,T.nRowReader_row,fRowReader_row,_,rfl,p,_,dx,_,_,rfl,h1,T.lRowReader,T.nRowReader_place,fRowReader_place,ra,_,_,_,rfl,rfl,SqL.of h2,at_of (j:=n) rfl (by rw [List.getElem?_map,hv];rfl),?_⟩
   have fin:lo≤row[n]→row[n]≤hi→∀H',RdAt A H' p ra row (n+1)→Kept p H H'→Q (.int row[n]) H':=fun a b=>q2 _ (by unfold tak;rw [hv];exact if_pos ⟨a,b⟩)
   have bad:¬(lo≤row[n]∧row[n]≤hi)→∀H',Kept p H H'→E (.ref A.cNoGrammarRow) none H':=fun a=>q1 (by unfold tak;rw [hv];exact if_neg a)
   refine ⟨_,rfl,_,rfl,_,_,rfl,rfl,_,rfl,iteD (fun e1=>iteT ?_) (fun e1=>?_)⟩
   ·exact ⟨(by show 1≤sizeLine;decide),bad (by omega) H (Kept.refl _ _)⟩
   ·refine ⟨_,rfl,_,rfl,_,_,rfl,rfl,_,rfl,iteD (fun e2=>?_) (fun e2=>?_)⟩
    ·exact ⟨(by show 1≤sizeLine;decide),bad (by omega) H (Kept.refl _ _)⟩
    ·refine ⟨_,rfl,p,_,dx,_,_,rfl,h1,T.lRowReader,T.nRowReader_place,fRowReader_place,_,_,rfl,rfl,dx,_,h1,(by show 2<1000;decide),_,rfl,fin (by omega) (by omega) _ ⟨⟨dx,?_,?_⟩,hlt⟩ Kept.upd⟩
     ·rw [upd_same,fRowReader_put_place]
      rfl
     ·rw [upd_ne (ne_of h2 h1 (by intro z;cases z))]
      exact h2
def spEE (A:Ad):Sp:=fun vs H Q E=>∃(p ra:Addr) (row:List Int) (n:Nat),vs= [.ref p]∧RdAt A H p ra row n∧(n<row.length→E (.ref A.cNoGrammarRow) none H)∧(n=row.length→Q .non H)
theorem scEE:FnScope ["self"] ["self"] (defScope sRowReaderExpectEnd):=⟨rfl,rfl,rfl,by decide+kernel,rfl,by decide+kernel,by decide+kernel⟩
theorem okEE {f:Addr} {fd:FuncData} (F:Fun K "expect_end" "RowReader.expect_end" sRowReaderExpectEnd f fd) (T:Txt A K mg):FnOk P w K mg base (CXL P w) 1 f fd ["self"] (spEE A):=by
 refine okX F scEE (fun vs H Q E h=>?_) (fun cdv A' outer s H vs Q E hr h=>?_)
 ·obtain ⟨p,ra,row,n,rfl,_⟩:=h
  rfl
 ·obtain ⟨p,ra,row,n,rfl,R,q1,q2⟩:=h
  obtain ⟨⟨dx,h1,h2⟩,hle⟩:=R
  refine ⟨_,pss_one (ps_if (pt_cmpR op_lt (pe_fld (pv 0) rfl) (pe_callB call_len_seq (by rfl) T.b_len PySem.boot_len (pa_cons (pe_fld (pv 0) rfl) pa_nil)) (nomark _)) (pss_one (ps_raise T.xNoGrammarRow rfl T.mNoGrammarRow (pa_cons pe_str pa_nil))) pss_nil),?_⟩
  refine ⟨_,rfl,p,_,dx,_,_,rfl,h1,T.lRowReader,T.nRowReader_place,fRowReader_place,_,rfl,p,_,dx,_,_,rfl,h1,T.lRowReader,T.nRowReader_row,fRowReader_row,ra,_,rfl,.inl (SqL.of h2),?_⟩
  refine ⟨_,_,rfl,rfl,_,rfl,iteD (fun e=>?_) (fun ne=>?_)⟩
  ·rw [List.length_map] at e
   exact ⟨(by show 1≤sizeLine;decide),q1 (by omega)⟩
  ·rw [List.length_map] at ne
   exact q2 (by omega)
end
end Lr
namespace Lr
open PySem PySem.Spec PyProof.Rows L2 LX
open Vaglrl (Costs Text Cell)
open Vaglrc (Sym Rule Grammar)
theorem tak_some {row:List Int} {n:Nat} {lo hi v:Int} (h:tak row n lo hi=some v):row[n]?=some v∧lo≤v∧v≤hi:=by
 unfold tak at h
 split at h
 ·rename_i u e
  split at h
  ·rename_i z
   cases h
   exact ⟨e,z⟩
  ·cases h
 ·cases h
def rdSym (row:List Int) (nn n:Nat):Option (Sym×Nat):=match tak row n 0 1 with
 |none=>none
 |some v=>if v=0 then (tak row (n+1) 0 ((nn:Int) - 1)).map fun a=>(Sym.non a.toNat,n+2) else
  match tak row (n+1) 0 255 with
  |none=>none
  |some lo=>(tak row (n+1+1) lo 255).map fun hi=>(Sym.range lo.toNat hi.toNat,n+3)
section
variable {P:Program} {w:World} {K:PySem.W.Frag} {mg:Str→Option Value} {base:Heap} {A:Ad}
def spRS (A:Ad):Sp:=fun vs H Q E=>∃(p ra:Addr) (row:List Int) (n nn:Nat),vs= [.ref p,vN nn]∧RdAt A H p ra row n∧
 (rdSym row nn n=none→∀H',Kept p H H'→E (.ref A.cNoGrammarRow) none H')∧
 ∀s m,rdSym row nn n=some (s,m)→∀(H':Hp) (q:Addr),RdAt A H' p ra row m→Kept p H H'→H' q=some (.tup (symV s))→Q (.ref q) H'
theorem scRS:FnScope ["reader","nonterminals","kind","lo","hi"] ["reader","nonterminals"] (defScope sReadSymbol):=⟨rfl,rfl,rfl,by decide+kernel,rfl,by decide+kernel,by decide+kernel⟩
theorem okRS {f fT:Addr} {fd fdT:FuncData} (F:Fun K "read_symbol" "read_symbol" sReadSymbol f fd) (T:Txt A K mg) (TK:Mt P w K mg base (CXL P w) 1 A.cRowReader "take" fT fdT ["self","lowest","highest"] (spTake A)):
  FnOk P w K mg base (CXL P w) 2 f fd ["reader","nonterminals"] (spRS A):=by
 obtain ⟨t0,kN⟩:=T.kNONTERMINAL
 obtain ⟨t1,kR⟩:=T.kRANGE
 obtain ⟨t2,kH⟩:=T.kHIGHEST_BYTE
 refine okX F scRS (fun vs H Q E h=>?_) (fun cdv A' outer s H vs Q E hr h=>?_)
 ·obtain ⟨p,ra,row,n,nn,rfl,_⟩:=h
  rfl
 ·obtain ⟨p,ra,row,n,nn,rfl,R,q1,q2⟩:=h
  refine ⟨_,pss_cons (ps_set (i:=2) scRS.nd rfl (Or.inl rfl) (pe_meth (pv 0) T.lRowReader TK.m TK.ok hr TK.b .nil pass_body.passes (pa_cons (pe_glob (v:=.int 0) rfl kN ⟨_,rfl⟩) (pa_cons (pe_glob (v:=.int 1) rfl kR ⟨_,rfl⟩) pa_nil))))
   (pss_cons (ps_if (pt_cmp (pc_eqI (pv 2) (pe_glob (v:=.int 0) rfl kN ⟨_,rfl⟩)))
    (pss_one (ps_ret (pe_tup (pa_cons (pe_glob (v:=.int 0) rfl kN ⟨_,rfl⟩) (pa_cons (pe_meth (pv 0) T.lRowReader TK.m TK.ok hr TK.b .nil pass_body.passes (pa_cons pe_int (pa_cons (pe_op op_sub (pv 1) pe_int) pa_nil))) pa_nil))))) pss_nil)
   (pss_cons (ps_set (i:=3) scRS.nd rfl (Or.inl rfl) (pe_meth (pv 0) T.lRowReader TK.m TK.ok hr TK.b .nil pass_body.passes (pa_cons pe_int (pa_cons (pe_glob (v:=.int 255) rfl kH ⟨_,rfl⟩) pa_nil))))
   (pss_cons (ps_set (i:=4) scRS.nd rfl (Or.inl rfl) (pe_meth (pv 0) T.lRowReader TK.m TK.ok hr TK.b .nil pass_body.passes (pa_cons (pv 3) (pa_cons (pe_glob (v:=.int 255) rfl kH ⟨_,rfl⟩) pa_nil))))
   (pss_one (ps_ret (pe_tup (pa_cons (pe_glob (v:=.int 1) rfl kR ⟨_,rfl⟩) (pa_cons (pv 3) (pa_cons (pv 4) pa_nil))))))))),?_⟩
  have bad:∀H1:Hp,Kept p H H1→rdSym row nn n=none→∀H',Kept p H1 H'→E (.ref A.cNoGrammarRow) none H':=fun H1 k1 e H' k2=>q1 e H' (k1.trans k2)
  obtain ⟨dx,h1,h2⟩:=R.obj
  refine ⟨_,rfl,p,dx,_,rfl,h1,fRowReader_no_take,p,ra,row,n,0,1,rfl,R,fun e=>bad H (Kept.refl _ _) (by unfold rdSym;rw [e]),fun v hv H1 R1 k1=>?_⟩
  obtain ⟨dx1,g1,g2⟩:=R1.obj
  refine ⟨_,rfl,_,_,rfl,rfl,_,rfl,iteD (fun e=>?_) (fun ne=>?_)⟩
  ·subst e
   have hS:rdSym row nn n=(tak row (n+1) 0 ((nn:Int) - 1)).map fun a=>(Sym.non a.toNat,n+2):=by unfold rdSym;rw [hv];rfl
   refine ⟨_,rfl,p,dx1,_,rfl,g1,fRowReader_no_take,_,rfl,_,_,rfl,rfl,p,ra,row,n+1,0,(nn:Int) - 1,rfl,R1,fun e=>bad H1 k1 (by rw [hS,e];rfl),fun a ha H2 R2 k2=>?_⟩
   refine ⟨(by show 2≤sizeLine;decide),fun q hq=>q2 _ _ (by rw [hS,ha];rfl) _ q (R2.same (Same.upd hq)) ((k1.trans k2).trans (Same.kept (Same.upd hq))) ?_⟩
   rw [upd_same]
   have:=tak_some ha
   show some (HO.tup [V.int 0,V.int a])=some (HO.tup [V.int 0,V.int ((a.toNat:Nat):Int)])
   rw [show ((a.toNat:Nat):Int)=a by omega]
  ·have hS:rdSym row nn n=(match tak row (n+1) 0 255 with
    |none=>none
    |some lo=>(tak row (n+1+1) lo 255).map fun hi=>(Sym.range lo.toNat hi.toNat,n+3)):=by unfold rdSym;rw [hv];exact if_neg ne
   refine ⟨_,rfl,p,dx1,_,rfl,g1,fRowReader_no_take,p,ra,row,n+1,0,255,rfl,R1,fun e=>bad H1 k1 (by rw [hS,e]),fun lo hlo H2 R2 k2=>?_⟩
   obtain ⟨dx2,f1,f2⟩:=R2.obj
   rw [hlo] at hS
   refine ⟨_,rfl,p,dx2,_,rfl,f1,fRowReader_no_take,_,rfl,p,ra,row,n+1+1,lo,255,rfl,R2,fun e=>bad H2 (k1.trans k2) (by rw [hS];dsimp only;rw [e];rfl),fun hi hhi H3 R3 k3=>?_⟩
   refine ⟨_,rfl,_,rfl,(by show 3≤sizeLine;decide),fun q hq=>q2 _ _ (by rw [hS];dsimp only;rw [hhi];rfl) _ q (R3.same (Same.upd hq)) (((k1.trans k2).trans k3).trans (Same.kept (Same.upd hq))) ?_⟩
   rw [upd_same]
   have:=tak_some hlo
   have:=tak_some hhi
   show some (HO.tup [V.int 1,V.int lo,V.int hi])=some (HO.tup [V.int 1,V.int ((lo.toNat:Nat):Int),V.int ((hi.toNat:Nat):Int)])
   rw [show ((lo.toNat:Nat):Int)=lo by omega,show ((hi.toNat:Nat):Int)=hi by omega]
end
end Lr
namespace Lr
open PySem PySem.Spec PyProof.Rows L2 LX
open Vaglrl (Costs Text Cell)
open Vaglrc (Sym Rule Grammar)
section
variable {α:Type}
def rdMany (rd:Nat→Option (α×Nat)):Nat→Nat→Option (List α×Nat)
 |0,n=>some ([],n)
 |k+1,n=>match rd n with
  |none=>none
  |some y=>(rdMany rd k y.2).map fun z=>(y.1::z.1,z.2)
variable {A:Ad} {R:Hp→V→α→Prop} {rd:Nat→Option (α×Nat)} {p ra D:Addr} {row:List Int} {H0 H H':Hp} {k n i:Nat}
def Rdg (A:Ad) (R:Hp→V→α→Prop) (rd:Nat→Option (α×Nat)) (p ra D:Addr) (row:List Int) (H0:Hp) (k n i:Nat) (H':Hp):Prop:=
 ∃(l:List α) (m:Nat) (vs:List V),rdMany rd k n=(rdMany rd (k - i) m).map (fun y=>(l++y.1,y.2))∧l.length=i∧RdAt A H' p ra row m∧Kept p H0 H'∧H' D=some (.lst vs)∧Paired (R H') vs l
theorem Rdg.start (h:RdAt A H p ra row n) (hD:H D=none):Rdg A R rd p ra D row H k n 0 (upd H D (.lst [])):=by
 refine ⟨[],n,[],?_,rfl,h.same (Same.upd hD),Same.kept (Same.upd hD),upd_same,.nil⟩
 show rdMany rd k n=(rdMany rd k n).map fun y=>(y.1,y.2)
 cases rdMany rd k n<;>rfl
theorem Rdg.next (g:Rdg A R rd p ra D row H0 k n i H') (hi:i<k) (hk:k≤1000) (hD:H0 D=none) (raD:ra≠D)
  (mono:∀{H H':Hp} {v:V} {c:α},(∀b o,H b=some o→b≠p→b≠D→H' b=some o)→R H v c→R H' v c):
  ∃m,RdAt A H' p ra row m∧Kept p H0 H'∧(∃vs,H' D=some (.lst vs))∧(rd m=none→rdMany rd k n=none)∧∀(a:α) (m':Nat),rd m=some (a,m')→∀(H4:Hp) (y:V),RdAt A H4 p ra row m'→Kept p H' H4→R H4 y a→
   ∃acc,H4 D=some (.lst acc)∧acc.length<sizeLine∧Rdg A R rd p ra D row H0 k n (i+1) (upd H4 D (.lst (acc++ [y]))):=by
 obtain ⟨l,m,vs,e,hl,hR,kp,hd,pr⟩:=g
 rw [show k - i=(k - (i+1))+1 by omega] at e
 refine ⟨m,hR,kp,⟨vs,hd⟩,fun z=>?_,fun a m' z H4 y h4 k4 r4=>?_⟩
 ·rw [e]
  show ((match rd m with
   |none=>none
   |some y=>(rdMany rd (k - (i+1)) y.2).map fun z=>(y.1::z.1,z.2)):Option (List α×Nat)).map _=none
  rw [z]
  rfl
 ·have e:rdMany rd k n=((match rd m with
   |none=>none
   |some y=>(rdMany rd (k - (i+1)) y.2).map fun z=>(y.1::z.1,z.2)):Option (List α×Nat)).map (fun y=>(l++y.1,y.2)):=e
  rw [z] at e
  have e:rdMany rd k n=((rdMany rd (k - (i+1)) m').map fun z=>(a::z.1,z.2)).map (fun y=>(l++y.1,y.2)):=e
  obtain ⟨dx,w1,w2⟩:=hR.obj
  have pD:D≠p:=fun z=>by rw [z,w1] at hd;cases hd
  have d4:=k4 _ _ hd pD
  have up:∀b o,H4 b=some o→b≠D→(upd H4 D (.lst (vs++ [y]))) b=some o:=fun b o q nb=>by rw [upd_ne nb];exact q
  have h5:RdAt A (upd H4 D (.lst (vs++ [y]))) p ra row m':=by
   obtain ⟨⟨dx4,u1,u2⟩,u3⟩:=h4
   refine ⟨⟨dx4,up _ _ u1 (Ne.symm pD),up _ _ u2 raD⟩,u3⟩
  refine ⟨vs,d4,small1000 (by rw [pr.length];omega),l++ [a],m',vs++ [y],?_,by simp [hl],h5,fun b o q nb=>?_,upd_same,?_⟩
  ·rw [e,Option.map_map]
   congr 1
   funext z
   show (l++(a::z.1),z.2)=((l++ [a])++z.1,z.2)
   rw [List.append_assoc]
   rfl
  ·exact up _ _ (k4 _ _ (kp _ _ q nb) nb) (ne_of_none q hD)
  ·exact Paired.snoc (Paired.mapP pr fun v c z=>mono (fun b o q n1 n2=>up _ _ (k4 _ _ q n1) n2) z) (mono (fun b o q n1 n2=>up _ _ q n2) r4)
theorem Rdg.done (g:Rdg A R rd p ra D row H0 k n k H'):∃(l:List α) (m:Nat) (vs:List V),rdMany rd k n=some (l,m)∧RdAt A H' p ra row m∧Kept p H0 H'∧H' D=some (.lst vs)∧Paired (R H') vs l:=by
 obtain ⟨l,m,vs,e,hl,hR,kp,hd,pr⟩:=g
 rw [Nat.sub_self] at e
 refine ⟨l,m,vs,?_,hR,kp,hd,pr⟩
 rw [e]
 show some (l++ [],m)=_
 rw [List.append_nil]
end
end Lr
namespace Lr
open PySem PySem.Spec PyProof.Rows L2 LX
open Vaglrl (Costs Text Cell)
open Vaglrc (Sym Rule Grammar)
theorem Kept.free {p b:Addr} {H H':Hp} {o:HO} (k:Kept p H H') (hp:H' p=some o) (hb:H' b=none):H b=none:=by
 cases e:H b with
 |none=>rfl
 |some u=>
  have ne:b≠p:=fun z=>by rw [z,hp] at hb;cases hb
  rw [k b u e ne] at hb
  cases hb
def rdRule (row:List Int) (nn n:Nat):Option (Rule×Nat):=match tak row n 0 ((nn:Int) - 1) with
 |none=>none
 |some a=>match tak row (n+1) 0 8 with
  |none=>none
  |some m=>(rdMany (rdSym row nn) m.toNat (n+1+1)).map fun y=>({lhs:=a.toNat,rhs:=y.1},y.2)
def SymR (p D:Addr) (H:Hp) (v:V) (s:Sym):Prop:=∃q,v=.ref q∧q≠p∧q≠D∧H q=some (.tup (symV s))
theorem SymR.mono {p D:Addr} {H H':Hp} {v:V} {s:Sym} (k:∀b o,H b=some o→b≠p→b≠D→H' b=some o) (h:SymR p D H v s):SymR p D H' v s:=
 let ⟨q,e,n1,n2,h⟩:=h;⟨q,e,n1,n2,k _ _ h n1 n2⟩
theorem syms_of {p D:Addr} {H:Hp}:∀{vs:List V} {l:List Sym},Paired (SymR p D H) vs l→∃qs:List Addr,vs=qs.map V.ref∧qs.length=l.length∧∀(i:Nat) (q:Addr) (s:Sym),qs[i]?=some q→l[i]?=some s→H q=some (.tup (symV s))
 |_,_,.nil=>⟨[],rfl,rfl,fun _ _ _ h=>nomatch h⟩
 |_,_,.cons (a:=v) (b:=s0) ⟨q0,e,_,_,h0⟩ r=>by
  obtain ⟨qs,e1,e2,e3⟩:=syms_of r
  refine ⟨q0::qs,by rw [e,e1];rfl,by simp [e2],fun i q s h1 h2=>?_⟩
  cases i with
  |zero=>
   have h1:some q0=some q:=h1
   have h2:some s0=some s:=h2
   cases h1
   cases h2
   exact h0
  |succ i=>exact e3 i q s h1 h2
section
variable {P:Program} {w:World} {K:PySem.W.Frag} {mg:Str→Option Value} {base:Heap} {A:Ad}
def spRR (A:Ad):Sp:=fun vs H Q E=>∃(p ra:Addr) (row:List Int) (n nn:Nat),vs= [.ref p,vN nn]∧RdAt A H p ra row n∧
 (rdRule row nn n=none→∀H',Kept p H H'→E (.ref A.cNoGrammarRow) none H')∧
 ∀r m,rdRule row nn n=some (r,m)→∀(H':Hp) (q dx sa:Addr) (qs:List Addr),RdAt A H' p ra row m→Kept p H H'→H q=none→H sa=none→H' q=some (.ins A.cRule dx (fRule (vN r.lhs) (.ref sa)))→SymsAt H' sa qs r.rhs→Q (.ref q) H'
abbrev nRR:List Str:= ["reader","nonterminals","nonterminal","how_many","symbols","number"]
theorem scRR:FnScope nRR ["reader","nonterminals"] (defScope sReadRule):=⟨rfl,rfl,rfl,by decide+kernel,rfl,by decide+kernel,by decide+kernel⟩
theorem okRR {f fT fS fR:Addr} {fd fdT fdS fdR:FuncData} (F:Fun K "read_rule" "read_rule" sReadRule f fd) (T:Txt A K mg) (TK:Mt P w K mg base (CXL P w) 1 A.cRowReader "take" fT fdT ["self","lowest","highest"] (spTake A))
  (RS:Cl P w K mg base (CXL P w) 2 "read_symbol" fS fdS ["reader","nonterminals"] (spRS A)) (RU:Ne P w K mg base CX0 1 A.cRule fR fdR ["self","nonterminal","symbols"] (spRule A)):
  FnOk P w K mg base (CXL P w) 3 f fd ["reader","nonterminals"] (spRR A):=by
 obtain ⟨t0,kM⟩:=T.kMOST_SYMBOLS
 refine okX F scRR (fun vs H Q E h=>?_) (fun cdv A' outer s H vs Q E hr h=>?_)
 ·obtain ⟨p,ra,row,n,nn,rfl,_⟩:=h
  rfl
 ·obtain ⟨p,ra,row,n,nn,rfl,R,q1,q2⟩:=h
  have hr1:Room 1 _:=hr.mono (by decide)
  refine ⟨_,pss_cons (ps_set (i:=2) scRR.nd rfl (Or.inl rfl) (pe_meth (pv 0) T.lRowReader TK.m TK.ok hr1 TK.b .nil pass_body.passes (pa_cons pe_int (pa_cons (pe_op op_sub (pv 1) pe_int) pa_nil))))
   (pss_cons (ps_set (i:=3) scRR.nd rfl (Or.inl rfl) (pe_meth (pv 0) T.lRowReader TK.m TK.ok hr1 TK.b .nil pass_body.passes (pa_cons pe_int (pa_cons (pe_glob (v:=.int 8) rfl kM ⟨_,rfl⟩) pa_nil))))
   (pss_cons (ps_setLcx (i:=4) (own:= [("number",5)]) rfl rfl pass_body rfl scRR.nd rfl rfl (sw_true rfl rfl rfl rfl) (pi_range1 rfl T.b_range (pa_cons (pv 3) pa_nil)) (blkOk_by (by show blkC nRR (defScope sReadRule) _ _=true;decide+kernel))
    (fun s H C cl fp=>pg_name (i:=5) scRR.nd rfl (Or.inl rfl)) (fun s H C cl fp=>pts_nil) (fun s H C cl fp E' px=>pe_call RS.ok hr rfl RS.m RS.kp RS.b .nil px.passes (pa_cons (pv 0) (pa_cons (pv 1) pa_nil))))
   (pss_one (ps_ret (pe_make RU.m RU.ok hr rfl T.mRule RU.b .nil pass0 (pa_cons (pv 2) (pa_cons (pv 4) pa_nil))))))),?_⟩
  have bad:∀H1:Hp,Kept p H H1→rdRule row nn n=none→∀H',Kept p H1 H'→E (.ref A.cNoGrammarRow) none H':=fun H1 k1 e H' k2=>q1 e H' (k1.trans k2)
  obtain ⟨dx,h1,h2⟩:=R.obj
  refine ⟨_,rfl,p,dx,_,rfl,h1,fRowReader_no_take,_,rfl,_,_,rfl,rfl,p,ra,row,n,0,(nn:Int) - 1,rfl,R,fun e=>bad H (Kept.refl _ _) (by unfold rdRule;rw [e]),fun a ha H1 R1 k1=>?_⟩
  obtain ⟨dx1,g1,g2⟩:=R1.obj
  refine ⟨_,rfl,p,dx1,_,rfl,g1,fRowReader_no_take,p,ra,row,n+1,0,8,rfl,R1,fun e=>bad H1 k1 (by unfold rdRule;rw [ha];dsimp only;rw [e]),fun m hm H2 R2 k2=>?_⟩
  have hm':=tak_some hm
  have ha':=tak_some ha
  have hS:rdRule row nn n=(rdMany (rdSym row nn) m.toNat (n+1+1)).map fun y=>({lhs:=a.toNat,rhs:=y.1},y.2):=by unfold rdRule;rw [ha];dsimp only;rw [hm]
  have k02:=k1.trans k2
  obtain ⟨dx2,f1,f2⟩:=R2.obj
  refine ⟨_,rfl,m,rfl,by omega,by omega,fun D hD=>lc_range (Rdg A (SymR p D) (rdSym row nn) p ra D row H2 m.toNat (n+1+1)) (Rdg.start R2 hD) ?_ ?_⟩
  ·intro i H3 hi G
   refine ⟨rfl,tyes ?_⟩
   obtain ⟨m3,R3,k3,⟨vs3,hd3⟩,b3,n3⟩:=G.next hi (by omega) hD (ne_of_none f2 hD) SymR.mono
   refine ⟨_,rfl,_,rfl,p,ra,row,m3,nn,rfl,R3,fun e=>bad H3 (k02.trans k3) (by rw [hS,b3 e];rfl),fun s4 m4 e4 H4 q4 R4 k4 t4=>?_⟩
   obtain ⟨dx4,u1,u2⟩:=R4.obj
   have pD:D≠p:=fun z=>by
    obtain ⟨dx3,w1,w2⟩:=R3.obj
    rw [z,w1] at hd3
    cases hd3
   exact n3 s4 m4 e4 H4 (.ref q4) R4 k4 ⟨q4,rfl,ne_of t4 u1 (by intro z;cases z),ne_of t4 (k4 _ _ hd3 pD) (by intro z;cases z),t4⟩
  ·intro H3 G
   obtain ⟨l,m3,vs3,e3,R3,k3,hd3,pr3⟩:=G.done
   obtain ⟨qs,rfl,ql,qa⟩:=syms_of pr3
   refine ⟨_,rfl,_,rfl,?_⟩
   intro cx cdx n1 n2 n3
   refine ⟨cx,cdx,_,_,rfl,upd_same,fun H4 h4 k4=>⟨rfl,?_⟩⟩
   have s4:Same H3 H4:=Same.made n1 n2 k4
   have k03:=k02.trans k3
   obtain ⟨dx3,w1,w2⟩:=R3.obj
   have hr:rdRule row nn n=some ({lhs:=a.toNat,rhs:=l},m3):=by rw [hS,e3];rfl
   refine q2 _ _ hr H4 cx cdx D qs (R3.same s4) (k03.trans (Same.kept s4)) (k03.free w1 n1) (k02.free f1 hD) ?_ ⟨s4 _ _ hd3,ql,fun i q s x1 x2=>s4 _ _ (qa i q s x1 x2)⟩
   rw [h4]
   show some (HO.ins A.cRule cdx (fRule (V.int a) (V.ref D)))=some (HO.ins A.cRule cdx (fRule (V.int ((a.toNat:Nat):Int)) (V.ref D)))
   rw [show ((a.toNat:Nat):Int)=a by omega]
end
end Lr
namespace Lr
open PySem PySem.Spec PyProof.Rows L2 LX
open Vaglrl (Costs Text Cell)
open Vaglrc (Sym Rule Grammar)
def rdGram (row:List Int):Option Grammar:=match tak row 0 1 20 with
 |none=>none
 |some nn=>match tak row (0+1) 0 60 with
  |none=>none
  |some m=>match rdMany (rdRule row nn.toNat) m.toNat (0+1+1) with
   |none=>none
   |some y=>if y.2=row.length then some {nons:=nn.toNat,rules:=y.1} else none
def RuleR (A:Ad) (p D:Addr) (H:Hp) (v:V) (r:Rule):Prop:=∃q dx sa qs,v=.ref q∧(q≠p∧q≠D)∧(sa≠p∧sa≠D)∧(∀x∈qs,x≠p∧x≠D)∧H q=some (.ins A.cRule dx (fRule (vN r.lhs) (.ref sa)))∧SymsAt H sa qs r.rhs
theorem RuleR.mono {A:Ad} {p D:Addr} {H H':Hp} {v:V} {r:Rule} (k:∀b o,H b=some o→b≠p→b≠D→H' b=some o) (h:RuleR A p D H v r):RuleR A p D H' v r:=by
 obtain ⟨q,dx,sa,qs,e,n1,n2,n3,h1,h2⟩:=h
 exact ⟨q,dx,sa,qs,e,n1,n2,n3,k _ _ h1 n1.1 n1.2,k _ _ h2.lst n2.1 n2.2,h2.len,fun i q s x1 x2=>let z:=n3 q (List.mem_of_getElem? x1);k _ _ (h2.at_ i q s x1 x2) z.1 z.2⟩
theorem rules_of {A:Ad} {p D:Addr} {H:Hp}:∀{vs:List V} {l:List Rule},Paired (RuleR A p D H) vs l→∃qs:List Addr,vs=qs.map V.ref∧qs.length=l.length∧∀(i:Nat) (q:Addr) (r:Rule),qs[i]?=some q→l[i]?=some r→RuleAt A H q r
 |_,_,.nil=>⟨[],rfl,rfl,fun _ _ _ h=>nomatch h⟩
 |_,_,.cons (a:=v) (b:=r0) ⟨q0,dx0,sa0,qs0,e,_,_,_,h1,h2⟩ r=>by
  obtain ⟨qs,e1,e2,e3⟩:=rules_of r
  refine ⟨q0::qs,by rw [e,e1];rfl,by simp [e2],fun i q s x1 x2=>?_⟩
  cases i with
  |zero=>
   have x1:some q0=some q:=x1
   have x2:some r0=some s:=x2
   cases x1
   cases x2
   exact ⟨dx0,sa0,qs0,h1,h2⟩
  |succ i=>exact e3 i q s x1 x2
section
variable {P:Program} {w:World} {K:PySem.W.Frag} {mg:Str→Option Value} {base:Heap} {A:Ad}
def spRG (A:Ad):Sp:=fun vs H Q E=>∃(ra:Addr) (row:List Int),vs= [.ref ra]∧H ra=some (.lst (row.map V.int))∧
 (rdGram row=none→∀H',Same H H'→E (.ref A.cNoGrammarRow) none H')∧
 ∀g,rdGram row=some g→∀(H':Hp) (ga:Addr),GramAt A H' ga g→Same H H'→H ga=none→Q (.ref ga) H'
abbrev nRG:List Str:= ["row","reader","nonterminals","how_many","rules","number"]
theorem scRG:FnScope nRG ["row"] (defScope sReadGrammar):=⟨rfl,rfl,rfl,by decide+kernel,rfl,by decide+kernel,by decide+kernel⟩
theorem okRG {f fI fT fE fR fG:Addr} {fd fdI fdT fdE fdR fdG:FuncData} (F:Fun K "read_grammar" "read_grammar" sReadGrammar f fd) (T:Txt A K mg) (RI:Ne P w K mg base CX0 1 A.cRowReader fI fdI ["self","row"] (spRowReader A))
  (TK:Mt P w K mg base (CXL P w) 1 A.cRowReader "take" fT fdT ["self","lowest","highest"] (spTake A)) (EE:Mt P w K mg base (CXL P w) 1 A.cRowReader "expect_end" fE fdE ["self"] (spEE A))
  (RR:Cl P w K mg base (CXL P w) 3 "read_rule" fR fdR ["reader","nonterminals"] (spRR A)) (GI:Ne P w K mg base CX0 1 A.cGrammar fG fdG ["self","nonterminals","rules"] (spGrammar A)):
  FnOk P w K mg base (CXL P w) 4 f fd ["row"] (spRG A):=by
 obtain ⟨t0,kN⟩:=T.kMOST_NONTERMINALS
 obtain ⟨t1,kR⟩:=T.kMOST_RULES
 refine okX F scRG (fun vs H Q E h=>?_) (fun cdv A' outer s H vs Q E hr h=>?_)
 ·obtain ⟨ra,row,rfl,_⟩:=h
  rfl
 ·obtain ⟨ra,row,rfl,hrow,q1,q2⟩:=h
  have hr1:Room 1 _:=hr.mono (by decide)
  have hr2:Room 2 _:=hr.mono (by decide)
  refine ⟨_,pss_cons (ps_set (i:=1) scRG.nd rfl (Or.inr rfl) (pe_make RI.m RI.ok hr2 rfl T.mRowReader RI.b .nil pass0 (pa_cons (pv 0) pa_nil)))
   (pss_cons (ps_set (i:=2) scRG.nd rfl (Or.inr rfl) (pe_meth (pv 1) T.lRowReader TK.m TK.ok hr1 TK.b .nil pass_body.passes (pa_cons pe_int (pa_cons (pe_glob (v:=.int 20) rfl kN ⟨_,rfl⟩) pa_nil))))
   (pss_cons (ps_set (i:=3) scRG.nd rfl (Or.inl rfl) (pe_meth (pv 1) T.lRowReader TK.m TK.ok hr1 TK.b .nil pass_body.passes (pa_cons pe_int (pa_cons (pe_glob (v:=.int 60) rfl kR ⟨_,rfl⟩) pa_nil))))
   (pss_cons (ps_setLcx (i:=4) (own:= [("number",5)]) rfl rfl pass_body rfl scRG.nd rfl rfl (sw_true rfl rfl rfl rfl) (pi_range1 rfl T.b_range (pa_cons (pv 3) pa_nil)) (blkOk_by (by show blkC nRG (defScope sReadGrammar) _ _=true;decide+kernel))
    (fun s H C cl fp=>pg_name (i:=5) scRG.nd rfl (Or.inl rfl)) (fun s H C cl fp=>pts_nil) (fun s H C cl fp E' px=>pe_call RR.ok hr rfl RR.m RR.kp RR.b .nil px.passes (pa_cons (pv 1) (pa_cons (pv 2) pa_nil))))
   (pss_cons (ps_expr (pe_meth0 (pv 1) T.lRowReader EE.m EE.ok hr1 EE.b .nil pass_body.passes))
   (pss_one (ps_ret (pe_make GI.m GI.ok hr2 rfl T.mGrammar GI.b .nil pass0 (pa_cons (pv 2) (pa_cons (pv 4) pa_nil))))))))),?_⟩
  refine ⟨_,rfl,?_⟩
  intro p pdx n1 n2 n3
  refine ⟨p,pdx,_,rfl,upd_same,fun H1 h1 kk1=>⟨rfl,?_⟩⟩
  have s1:Same H H1:=Same.made n1 n2 kk1
  have R1:RdAt A H1 p ra row 0:=⟨⟨pdx,h1,s1 _ _ hrow⟩,Nat.zero_le _⟩
  have bad:∀H2:Hp,Kept p H1 H2→rdGram row=none→∀H',Kept p H2 H'→E (.ref A.cNoGrammarRow) none H':=fun H2 k e H' k'=>q1 e H' (Kept.same s1 n1 (k.trans k'))
  refine ⟨_,rfl,p,pdx,_,rfl,h1,fRowReader_no_take,p,ra,row,0,1,20,rfl,R1,fun e=>bad H1 (Kept.refl _ _) (by unfold rdGram;rw [e]),fun a ha H2 R2 k2=>?_⟩
  have ha':=tak_some ha
  obtain ⟨a,rfl⟩:∃n:Nat,a=(n:Int):=⟨a.toNat,by omega⟩
  obtain ⟨dx2,g1,g2⟩:=R2.obj
  refine ⟨_,rfl,p,dx2,_,rfl,g1,fRowReader_no_take,p,ra,row,0+1,0,60,rfl,R2,fun e=>bad H2 k2 (by unfold rdGram;rw [ha];dsimp only;rw [e]),fun m hm H3 R3 k3=>?_⟩
  have hm':=tak_some hm
  have k13:=k2.trans k3
  obtain ⟨dx3,f1,f2⟩:=R3.obj
  have hS:rdGram row=(match rdMany (rdRule row a) m.toNat (0+1+1) with
   |none=>none
   |some y=>if y.2=row.length then some {nons:=a,rules:=y.1} else none):=by unfold rdGram;rw [ha];dsimp only;rw [hm];rfl
  refine ⟨_,rfl,m,rfl,by omega,by omega,fun D hD=>lc_range (Rdg A (RuleR A p D) (rdRule row a) p ra D row H3 m.toNat (0+1+1)) (Rdg.start R3 hD) ?_ ?_⟩
  ·intro i H4 hi G
   refine ⟨rfl,tyes ?_⟩
   obtain ⟨m4,R4,k4,⟨vs4,hd4⟩,b4,n4⟩:=G.next hi (by omega) hD (ne_of_none f2 hD) RuleR.mono
   refine ⟨_,rfl,_,rfl,p,ra,row,m4,a,rfl,R4,fun e=>bad H4 (k13.trans k4) (by rw [hS,b4 e]),fun r5 m5 e5 H5 q5 dx5 sa5 qs5 R5 k5 fq fs h5 y5=>?_⟩
   obtain ⟨dx4,w1,w2⟩:=R4.obj
   obtain ⟨dx5',u1,u2⟩:=R5.obj
   have pD:D≠p:=fun z=>by
    rw [z,w1] at hd4
    cases hd4
   refine n4 r5 m5 e5 H5 (.ref q5) R5 k5 ⟨q5,dx5,sa5,qs5,rfl,⟨Ne.symm (ne_of_none w1 fq),Ne.symm (ne_of_none hd4 fq)⟩,⟨Ne.symm (ne_of_none w1 fs),Ne.symm (ne_of_none hd4 fs)⟩,fun x hx=>?_,h5,y5⟩
   obtain ⟨j,hj⟩:=List.mem_iff_getElem?.mp hx
   have hl:j<r5.rhs.length:=by rw [←y5.len];exact (List.getElem?_eq_some_iff.mp hj).1
   have t5:=y5.at_ j x _ hj (List.getElem?_eq_getElem hl)
   exact ⟨ne_of t5 u1 (by intro z;cases z),ne_of t5 (k5 _ _ hd4 pD) (by intro z;cases z)⟩
  ·intro H4 G
   obtain ⟨l,m4,vs4,e4,R4,k4,hd4,pr4⟩:=G.done
   obtain ⟨qs,rfl,ql,qa⟩:=rules_of pr4
   rw [e4] at hS
   have hS:rdGram row=if m4=row.length then some {nons:=a,rules:=l} else none:=hS
   obtain ⟨dx4,w1,w2⟩:=R4.obj
   refine ⟨_,rfl,p,dx4,_,rfl,w1,fRowReader_no_expect_end,p,ra,row,m4,rfl,R4,fun hlt=>bad H4 (k13.trans k4) (by rw [hS,if_neg (by omega)]) H4 (Kept.refl _ _),fun heq=>?_⟩
   rw [if_pos heq] at hS
   refine ⟨_,rfl,_,rfl,?_⟩
   intro cx cdx c1 c2 c3
   refine ⟨cx,cdx,_,_,rfl,upd_same,fun H5 h5 k5=>⟨rfl,?_⟩⟩
   have s5:Same H4 H5:=Same.made c1 c2 k5
   have k14:=k13.trans k4
   have sAll:Same H H5:=(Kept.same s1 n1 k14).trans s5
   refine q2 _ hS H5 cx ⟨cdx,D,qs,h5,s5 _ _ hd4,ql,fun i q r x1 x2=>(qa i q r x1 x2).same s5⟩ sAll ?_
   exact (Kept.same s1 n1 k14).free c1
end
end Lr
namespace Lr
open Vaglrc (Sym Rule Grammar)
def toI (x:List Nat):List Int:=x.map fun n:Nat=>(n:Int)
section
variable {x:List Nat} {nn p a:Nat} {lo hi:Int}
theorem drop_at:(x[p]?=none∧x.drop p= [])∨∃a,x[p]?=some a∧x.drop p=a::x.drop (p+1):=by
 rcases Nat.lt_or_ge p x.length with h|h
 ·exact .inr ⟨x[p],List.getElem?_eq_getElem h,List.drop_eq_getElem_cons h⟩
 ·exact .inl ⟨List.getElem?_eq_none h,List.drop_eq_nil_of_le h⟩
theorem tak_none (h:x[p]?=none):tak (toI x) p lo hi=none:=by
 unfold tak toI
 rw [List.getElem?_map,h]
 rfl
theorem tak_in (h:x[p]?=some a) (h1:lo≤(a:Int)) (h2:(a:Int)≤hi):tak (toI x) p lo hi=some (a:Int):=by
 unfold tak toI
 rw [List.getElem?_map,h]
 exact if_pos ⟨h1,h2⟩
theorem tak_out (h:x[p]?=some a) (h1:¬(lo≤(a:Int)∧(a:Int)≤hi)):tak (toI x) p lo hi=none:=by
 unfold tak toI
 rw [List.getElem?_map,h]
 exact if_neg h1
theorem tak_lt {row:List Int} {v:Int} (h:tak row p lo hi=some v):p<row.length:=(List.getElem?_eq_some_iff.mp (tak_some h).1).1
def SymOk (nn:Nat) (s:Sym):Prop:=match s with
 | .non b=>b<nn
 | .range lo hi=>lo≤hi∧hi<256
theorem sym_ok {row:List Int} {n m:Nat} {s:Sym} (h1:1≤nn) (h:rdSym row nn n=some (s,m)):SymOk nn s∧m≤row.length:=by
 unfold rdSym at h
 split at h
 ·cases h
 ·split at h
  ·cases e:tak row (n+1) 0 ((nn:Int) - 1) with
   |none=>rw [e] at h;cases h
   |some a=>
    rw [e] at h
    cases h
    have:=tak_some e
    exact ⟨by show a.toNat<nn;omega,tak_lt e⟩
  ·split at h
   ·cases h
   ·rename_i lo hlo
    cases e:tak row (n+1+1) lo 255 with
    |none=>rw [e] at h;cases h
    |some hi=>
     rw [e] at h
     cases h
     have:=tak_some e
     have:=tak_some hlo
     exact ⟨by show lo.toNat≤hi.toNat∧hi.toNat<256;omega,tak_lt e⟩
theorem many_ok {α:Type} {rd:Nat→Option (α×Nat)} {L:Nat} {Pa:α→Prop} (h:∀n a m,rd n=some (a,m)→Pa a∧m≤L):∀(k:Nat) {n:Nat} {l:List α} {m:Nat},n≤L→rdMany rd k n=some (l,m)→l.length=k∧(∀a∈l,Pa a)∧m≤L
 |0,n,l,m,hn,e=>by
  cases e
  exact ⟨rfl,(fun _ z=>nomatch z),hn⟩
 |k+1,n,l,m,hn,e=>by
  unfold rdMany at e
  cases q:rd n with
  |none=>rw [q] at e;cases e
  |some y=>
   rw [q] at e
   dsimp only at e
   cases q2:rdMany rd k y.2 with
   |none=>rw [q2] at e;cases e
   |some z=>
    rw [q2] at e
    cases e
    have hy:=h n y.1 y.2 q
    obtain ⟨i1,i2,i3⟩:=many_ok h k hy.2 q2
    exact ⟨by simp [i1],fun a ha=>(List.mem_cons.mp ha).elim (fun z=>z▸hy.1) (i2 a),i3⟩
def RuleOk (nn:Nat) (r:Rule):Prop:=r.lhs<nn∧r.rhs.length≤8∧∀s∈r.rhs,SymOk nn s
theorem rule_ok {row:List Int} {n m:Nat} {r:Rule} (h1:1≤nn) (h:rdRule row nn n=some (r,m)):RuleOk nn r∧m≤row.length:=by
 unfold rdRule at h
 split at h
 ·cases h
 ·rename_i a ha
  split at h
  ·cases h
  ·rename_i k hk
   cases e:rdMany (rdSym row nn) k.toNat (n+1+1) with
   |none=>rw [e] at h;cases h
   |some y=>
    rw [e] at h
    cases h
    have:=tak_some ha
    have:=tak_some hk
    obtain ⟨i1,i2,i3⟩:=many_ok (fun n s m=>sym_ok h1) k.toNat (tak_lt hk) e
    exact ⟨⟨by show a.toNat<nn;omega,by show y.1.length≤8;omega,i2⟩,i3⟩
theorem gram_ok {row:List Int} {g:Grammar} (h:rdGram row=some g):Vm.GOk g:=by
 unfold rdGram at h
 split at h
 ·cases h
 ·rename_i a ha
  split at h
  ·cases h
  ·rename_i k hk
   split at h
   ·cases h
   ·rename_i y e
    split at h
    ·cases h
     have:=tak_some ha
     have:=tak_some hk
     have h1:1≤a.toNat:=by omega
     obtain ⟨i1,i2,i3⟩:=many_ok (fun n s m=>rule_ok h1) k.toNat (tak_lt hk) e
     exact ⟨h1,by show a.toNat≤20;omega,by show y.1.length≤60;omega,fun r hr=>(i2 r hr).1,fun r hr=>(i2 r hr).2.1,fun r hr s hs=>(i2 r hr).2.2 s hs⟩
    ·cases h
theorem syms_step (k:Nat) (h1:1≤nn):Vaglrc.readSyms nn (k+1) (x.drop p)=match rdSym (toI x) nn p with
  |none=>none
  |some y=>(Vaglrc.readSyms nn k (x.drop y.2)).map fun z=>(y.1::z.1,z.2):=by
 rcases drop_at (x:=x) (p:=p) with ⟨e,d⟩|⟨v,e,d⟩
 ·rw [d]
  unfold rdSym
  rw [tak_none e]
  rfl
 ·rw [d]
  match v,e with
  |0,e=>
   unfold rdSym
   rw [tak_in e (by omega) (by omega)]
   dsimp only
   rw [if_pos (by omega)]
   rcases drop_at (x:=x) (p:=p+1) with ⟨e1,d1⟩|⟨a,e1,d1⟩
   ·rw [d1,tak_none e1]
    rfl
   ·rw [d1]
    show (if a<nn then _ else none)=_
    by_cases z:a<nn
    ·rw [if_pos z,tak_in e1 (by omega) (by omega)]
     rfl
    ·rw [if_neg z,tak_out e1 (by omega)]
     rfl
  |1,e=>
   unfold rdSym
   rw [tak_in e (by omega) (by omega)]
   dsimp only
   rw [if_neg (by omega)]
   rcases drop_at (x:=x) (p:=p+1) with ⟨e1,d1⟩|⟨lo,e1,d1⟩
   ·rw [d1,tak_none e1]
    rfl
   ·rw [d1]
    rcases drop_at (x:=x) (p:=p+1+1) with ⟨e2,d2⟩|⟨hi,e2,d2⟩
    ·rw [d2]
     show none=_
     by_cases z:(lo:Int)≤255
     ·rw [tak_in e1 (by omega) z]
      dsimp only
      rw [tak_none e2]
      rfl
     ·rw [tak_out e1 (by omega)]
    ·rw [d2]
     show (if lo≤hi then (if hi<256 then _ else none) else none)=_
     by_cases z1:lo≤hi
     ·rw [if_pos z1]
      by_cases z2:hi<256
      ·rw [if_pos z2,tak_in e1 (by omega) (by omega)]
       dsimp only
       rw [tak_in e2 (by omega) (by omega)]
       rfl
      ·rw [if_neg z2]
       by_cases z:(lo:Int)≤255
       ·rw [tak_in e1 (by omega) z]
        dsimp only
        rw [tak_out e2 (by omega)]
        rfl
       ·rw [tak_out e1 (by omega)]
     ·rw [if_neg z1]
      by_cases z:(lo:Int)≤255
      ·rw [tak_in e1 (by omega) z]
       dsimp only
       rw [tak_out e2 (by omega)]
       rfl
      ·rw [tak_out e1 (by omega)]
  |v+2,e=>
   unfold rdSym
   rw [tak_out e (by omega)]
   rfl
theorem syms_read (h1:1≤nn):∀(k p:Nat),Vaglrc.readSyms nn k (x.drop p)=(rdMany (rdSym (toI x) nn) k p).map fun y=>(y.1,x.drop y.2)
 |0,p=>rfl
 |k+1,p=>by
  rw [syms_step k h1]
  unfold rdMany
  cases e:rdSym (toI x) nn p with
  |none=>rfl
  |some y=>
   dsimp only
   rw [syms_read h1 k y.2,Option.map_map,Option.map_map]
   rfl
theorem rules_step (k:Nat) (h1:1≤nn):Vaglrc.readRules nn (k+1) (x.drop p)=match rdRule (toI x) nn p with
  |none=>none
  |some y=>(Vaglrc.readRules nn k (x.drop y.2)).map fun z=>(y.1::z.1,z.2):=by
 rcases drop_at (x:=x) (p:=p) with ⟨e,d⟩|⟨a,e,d⟩
 ·rw [d]
  unfold rdRule
  rw [tak_none e]
  rfl
 ·rw [d]
  unfold rdRule
  rcases drop_at (x:=x) (p:=p+1) with ⟨e1,d1⟩|⟨m,e1,d1⟩
  ·rw [d1]
   show none=_
   by_cases z:a<nn
   ·rw [tak_in e (by omega) (by omega)]
    dsimp only
    rw [tak_none e1]
   ·rw [tak_out e (by omega)]
  ·rw [d1]
   show (if a<nn then (if m≤8 then _ else none) else none)=_
   by_cases z:a<nn
   ·rw [if_pos z,tak_in e (by omega) (by omega)]
    dsimp only
    by_cases z1:m≤8
    ·rw [if_pos z1,tak_in e1 (by omega) (by omega),syms_read h1]
     dsimp only
     rw [show ((m:Nat):Int).toNat=m by omega,show ((a:Nat):Int).toNat=a by omega]
     cases rdMany (rdSym (toI x) nn) m (p+1+1)<;>rfl
    ·rw [if_neg z1,tak_out e1 (by omega)]
   ·rw [if_neg z,tak_out e (by omega)]
theorem rules_read (h1:1≤nn):∀(k p:Nat),Vaglrc.readRules nn k (x.drop p)=(rdMany (rdRule (toI x) nn) k p).map fun y=>(y.1,x.drop y.2)
 |0,p=>rfl
 |k+1,p=>by
  rw [rules_step k h1]
  unfold rdMany
  cases e:rdRule (toI x) nn p with
  |none=>rfl
  |some y=>
   dsimp only
   rw [rules_read h1 k y.2,Option.map_map,Option.map_map]
   rfl
theorem gram_read:rdGram (toI x)=Vaglrc.readGrammar x:=by
 have d0:x=x.drop 0:=rfl
 have len:(toI x).length=x.length:=List.length_map ..
 rcases drop_at (x:=x) (p:=0) with ⟨e,d⟩|⟨nn,e,d⟩
 ·unfold rdGram
  rw [tak_none e,d0,d]
  rfl
 ·rcases drop_at (x:=x) (p:=0+1) with ⟨e1,d1⟩|⟨m,e1,d1⟩
  ·rw [show Vaglrc.readGrammar x=none by rw [d0,d,d1];rfl]
   unfold rdGram
   by_cases z:1≤nn∧nn≤20
   ·rw [tak_in e (by omega) (by omega)]
    dsimp only
    rw [tak_none e1]
   ·rw [tak_out e (by omega)]
  ·have hR:Vaglrc.readGrammar x=if 1≤nn then (if nn≤20 then (if m≤60 then (match Vaglrc.readRules nn m (x.drop (0+1+1)) with
     |some (l,[])=>some {nons:=nn,rules:=l}
     |_=>none) else none) else none) else none:=by
    conv=>lhs;rw [d0,d,d1]
    rfl
   rw [hR]
   unfold rdGram
   by_cases z0:1≤nn
   ·rw [if_pos z0]
    by_cases z1:nn≤20
    ·rw [if_pos z1,tak_in e (by omega) (by omega)]
     dsimp only
     by_cases z2:m≤60
     ·rw [if_pos z2,tak_in e1 (by omega) (by omega),rules_read z0]
      dsimp only
      rw [show ((m:Nat):Int).toNat=m by omega,show ((nn:Nat):Int).toNat=nn by omega]
      cases q:rdMany (rdRule (toI x) nn) m (0+1+1) with
      |none=>rfl
      |some y=>
       obtain ⟨i1,i2,i3⟩:=many_ok (fun n s m=>rule_ok z0) m (L:=(toI x).length) (by rw [len];exact (List.getElem?_eq_some_iff.mp e1).1) q
       rw [Option.map_some]
       dsimp only
       by_cases w:y.2=(toI x).length
       ·rw [if_pos w,List.drop_eq_nil_of_le (by omega)]
       ·rw [if_neg w,List.drop_eq_getElem_cons (by omega)]
     ·rw [if_neg z2,tak_out e1 (by omega)]
    ·rw [if_neg z1,tak_out e (by omega)]
   ·rw [if_neg z0,tak_out e (by omega)]
end
end Lr
namespace Lr
open PySem PySem.Spec PyProof.Rows L2 LX
open Vaglrl (Costs Text Cell)
open Vaglrc (Sym Rule Grammar)
open Vm (Tk)
structure REnd (K:PySem.W.Frag) (mg:Str→Option Value) (e:Addr):Prop where
 m:mg "RULE_END"=some (.ref e)
 sq:∀H:Hp,SqT K H e [.int 2]
def ofSym (H:Hp) (e q:Addr):Option Sym→Prop
 |some s=>H q=some (.tup (symV s))
 |none=>q=e
def symL:Option Sym→List V
 |some s=>symV s
 |none=> [.int 2]
def PartAt (e:Addr) (H:Hp) (v:V) (t:Tk):Prop:=∃p q,v=.ref p∧H p=some (.tup [.ref q,vN t.2.1,vN t.2.2])∧ofSym H e q t.1
theorem ofSym.same {H H':Hp} {e q:Addr} {o:Option Sym} (s:Same H H') (h:ofSym H e q o):ofSym H' e q o:=by
 cases o with
 |none=>exact h
 |some y=>exact s _ _ h
theorem PartAt.same {H H':Hp} {e:Addr} {v:V} {t:Tk} (s:Same H H') (h:PartAt e H v t):PartAt e H' v t:=let ⟨p,q,h1,h2,h3⟩:=h;⟨p,q,h1,s _ _ h2,h3.same s⟩
theorem REnd.sym {K:PySem.W.Frag} {mg:Str→Option Value} {e q:Addr} {H:Hp} {o:Option Sym} (r:REnd K mg e) (h:ofSym H e q o):SqT K H q (symL o):=by
 cases o with
 |none=>cases h;exact r.sq H
 |some y=>exact SqT.of h
def plainCh (k:Costs) (x:Text) (t:Tk):List Vaglrl.Change:=match t.1 with
 |some (.range lo hi)=>Vaglrl.rangeChanges k lo hi (Vaglrl.piece x t.2.1 t.2.2)
 |_=>Vaglrl.deletes (t.2.2 - t.2.1)
section
variable {P:Program} {w:World} {K:PySem.W.Frag} {mg:Str→Option Value} {base:Heap} {A:Ad}
def spPC (A:Ad) (re:Addr):Sp:=fun vs H Q _=>∃(H0:Hp) (cp tb fo p:Addr) (g:Grammar) (k:Costs) (x:Text) (M:CMap) (kvs:List (List Key×V)) (es:List Ent) (t:Tk),vs= [.ref cp,.ref p]∧CellsSt A H0 H cp g k x M tb fo kvs es∧PartAt re H (.ref p) t∧
 (∀a,t.1≠some (.non a))∧t.2.1≤t.2.2∧t.2.2≤x.length∧x.length≤12∧∀(H':Hp) (c:Addr),ChAt H' c (Vm.ann x t.2.1 (plainCh k x t))→Same H H'→H c=none→Q (.ref c) H'
theorem scPC:FnScope ["cells","part","symbol"] ["cells","part"] (defScope sPlainChanges):=⟨rfl,rfl,rfl,by decide+kernel,rfl,by decide+kernel,by decide+kernel⟩
theorem okPC {re f fR fL:Addr} {fd fdR fdL:FuncData} (F:Fun K "plain_changes" "plain_changes" sPlainChanges f fd) (T:Txt A K mg) (RE:REnd K mg re)
  (RC:Cl P w K mg base CX0 2 "range_changes" fR fdR ["lo","hi","letters","i","j","costs"] (spRC A)) (LO:Cl P w K mg base CX0 1 "left_out" fL fdL ["i","j"] spLO):
  FnOk P w K mg base CX0 3 f fd ["cells","part"] (spPC A re):=by
 obtain ⟨t1,kR⟩:=T.kRANGE
 refine F.ok scPC (fun vs H Q E h=>?_) (fun cdv A' outer s H vs Q E hr h=>?_)
 ·obtain ⟨H0,cp,tb,fo,p,g,k,x,M,kvs,es,t,rfl,_⟩:=h
  rfl
 ·obtain ⟨H0,cp,tb,fo,p,g,k,x,M,kvs,es,t,rfl,C,hp,hn,hij,hj,hx,q⟩:=h
  have hr1:Room 1 _:=hr.mono (by decide)
  obtain ⟨dx,ga,la,ca,ho,hg,hl,hc⟩:=C.obj
  obtain ⟨p',sq,e,h1,h2⟩:=hp
  cases e
  have hs:=RE.sym h2
  refine ⟨_,pss_cons (ps_set (i:=2) scPC.nd rfl (Or.inl rfl) (pe_ix ix_tup (pv 1) pe_int (fun _ _=>rfl)))
   (pss_cons (ps_if (pt_cmp (pc_eqI (pe_ix ix_tup (pv 2) pe_int (fun _ _=>rfl)) (pe_glob (v:=.int 1) rfl kR ⟨_,rfl⟩)))
    (pss_one (ps_ret (pe_call RC.ok hr rfl RC.m RC.kp RC.b .nil pass0 (pa_cons (pe_ix ix_tup (pv 2) pe_int (fun _ _=>rfl)) (pa_cons (pe_ix ix_tup (pv 2) pe_int (fun _ _=>rfl)) (pa_cons (pe_fld (pv 0) rfl) (pa_cons (pe_ix ix_tup (pv 1) pe_int (fun _ _=>rfl)) (pa_cons (pe_ix ix_tup (pv 1) pe_int (fun _ _=>rfl)) (pa_cons (pe_fld (pv 0) rfl) pa_nil))))))))) pss_nil)
   (pss_one (ps_ret (pe_call LO.ok hr1 rfl LO.m LO.kp LO.b .nil pass0 (pa_cons (pe_ix ix_tup (pv 1) pe_int (fun _ _=>rfl)) (pa_cons (pe_ix ix_tup (pv 1) pe_int (fun _ _=>rfl)) pa_nil)))))),?_⟩
  refine ⟨_,rfl,p,_,_,_,rfl,rfl,SqT.of h1,at_of (j:=0) rfl rfl,?_⟩
  obtain ⟨o,i,j⟩:=t
  cases o with
  |none=>
   refine ⟨_,rfl,sq,_,_,_,rfl,rfl,hs,at_of (j:=0) rfl rfl,_,_,rfl,rfl,_,rfl,iteD (fun z=>by omega) (fun _=>?_)⟩
   refine ⟨_,rfl,p,_,_,_,rfl,rfl,SqT.of h1,at_of (j:=1) rfl rfl,_,rfl,p,_,_,_,rfl,rfl,SqT.of h1,at_of (j:=2) rfl rfl,i,j,rfl,?_,?_,fun H' c hc' s' n'=>q H' c ?_ s' n'⟩
   ·show i≤100
    have:i≤j:=hij
    have:j≤x.length:=hj
    omega
   ·show j≤100
    have:j≤x.length:=hj
    omega
   ·show ChAt H' c (Vm.ann x i (Vaglrl.deletes (j - i)))
    have hij:i≤j:=hij
    rw [Vm.ann_deletes,show i+(j - i)=j by omega]
    exact hc'
  |some y=>cases y with
   |non a=>exact absurd rfl (hn a)
   |range lo hi=>
    have hs:SqT K H sq [.int 1,vN lo,vN hi]:=hs
    refine ⟨_,rfl,sq,_,_,_,rfl,rfl,hs,at_of (j:=0) rfl rfl,_,_,rfl,rfl,_,rfl,iteD (fun z=>?_) (fun z=>absurd rfl z)⟩
    refine ⟨_,rfl,sq,_,_,_,rfl,rfl,hs,at_of (j:=1) rfl rfl,_,rfl,sq,_,_,_,rfl,rfl,hs,at_of (j:=2) rfl rfl,_,rfl,cp,_,dx,_,_,rfl,ho,T.lCells,T.nCells_letters,fCells_letters,
     _,rfl,p,_,_,_,rfl,rfl,SqT.of h1,at_of (j:=1) rfl rfl,_,rfl,p,_,_,_,rfl,rfl,SqT.of h1,at_of (j:=2) rfl rfl,_,rfl,cp,_,dx,_,_,rfl,ho,T.lCells,T.nCells_costs,fCells_costs,
     lo,hi,i,j,la,ca,x,k,rfl,hl.same C.same,hc.same C.same,hij,hj,by omega,fun H' c hc' s' n'=>q H' c hc' s' n'⟩
end
end Lr
namespace Lr
open PySem PySem.Spec PyProof.Rows L2 LX
open Vaglrl (Costs Text Cell)
open Vaglrc (Sym Rule Grammar)
open Vm (Tk tks)
theorem PartAt.kept {H H':Hp} {e pa:Addr} {xs:List V} {v:V} {t:Tk} (h0:H pa=some (.lst xs)) (k:Kept pa H H') (h:PartAt e H v t):PartAt e H' v t:=by
 obtain ⟨p,q,h1,h2,h3⟩:=h
 refine ⟨p,q,h1,k _ _ h2 (ne_of h2 h0 (by intro z;cases z)),?_⟩
 obtain ⟨o,i,j⟩:=t
 cases o with
 |none=>exact h3
 |some s=>
  have h3:H q=some (.tup (symV s)):=h3
  exact k _ _ h3 (ne_of h3 h0 (by intro z;cases z))
theorem tks_len:∀(r:List Sym) (l:List Nat) (i j:Nat),(tks r l i j).length≤r.length+1
 |s::r,q::l,i,j=>by
  show (tks r l q j).length+1≤r.length+1+1
  have:=tks_len r l q j
  omega
 | [],_,_,_=>by simp [tks]
 |_::_,[],_,_=>by simp [tks]
section
variable {P:Program} {w:World} {K:PySem.W.Frag} {mg:Str→Option Value} {base:Heap} {A:Ad}
def spPOC (A:Ad) (re:Addr):Sp:=fun vs H Q _=>∃(H0:Hp) (cp tb fo p:Addr) (g:Grammar) (k:Costs) (x:Text) (M:CMap) (kvs:List (List Key×V)) (es:List Ent) (a i j:Nat) (c:Cell) (r:Rule),vs= [.ref cp,.ref p]∧CellsSt A H0 H cp g k x M tb fo kvs es∧PartAt re H (.ref p) (some (.non a),i,j)∧
 Vm.Valid g x (a,i,j)∧M a i j=some c∧g.rules[c.rule]?=some r∧r.rhs.length≤8∧c.ends.length=r.rhs.length∧∀(H':Hp) (b:Addr) (ws:List V),H' b=some (.lst ws)→Paired (PartAt re H') ws (tks r.rhs c.ends i j)→Same H H'→H b=none→Q (.ref b) H'
abbrev nPOC:List Str:= ["cells","part","symbol","cell","parts","begin","inner","end"]
theorem scPOC:FnScope nPOC ["cells","part"] (defScope sPartsOfCell):=⟨rfl,rfl,rfl,by decide+kernel,rfl,by decide+kernel,by decide+kernel⟩
theorem okPOC {re f fA:Addr} {fd fdA:FuncData} (F:Fun K "parts_of_cell" "parts_of_cell" sPartsOfCell f fd) (T:Txt A K mg) (RE:REnd K mg re)
  (AT:Mt P w K mg base CX0 1 A.cCells "at" fA fdA ["self","nonterminal","i","j"] (spAt A)):
  FnOk P w K mg base CX0 2 f fd ["cells","part"] (spPOC A re):=by
 refine F.ok scPOC (fun vs H Q E h=>?_) (fun cdv A' outer s H vs Q E hr h=>?_)
 ·obtain ⟨H0,cp,tb,fo,p,g,k,x,M,kvs,es,a,i,j,c,r,rfl,_⟩:=h
  rfl
 ·obtain ⟨H0,cp,tb,fo,p,g,k,x,M,kvs,es,a,i,j,c,r,rfl,C,hp,hv,hM,hrule,h8,hlen,q⟩:=h
  obtain ⟨dx,ga,la,ca,ho,hg,hl,hc⟩:=C.obj
  obtain ⟨p',sq,e,h1,h2⟩:=hp
  cases e
  have h2:H sq=some (.tup [.int 0,vN a]):=h2
  have h1:H p=some (.tup [.ref sq,vN i,vN j]):=h1
  obtain ⟨dxg,ra,ps,hgo,hrs⟩:=hg
  refine ⟨_,pss_cons (ps_set (i:=2) scPOC.nd rfl (Or.inl rfl) (pe_ix ix_tup (pv 1) pe_int (fun _ _=>rfl)))
   (pss_cons (ps_set (i:=3) scPOC.nd rfl (Or.inl rfl) (pe_meth (pv 0) T.lCells AT.m AT.ok hr AT.b .nil pass0 (pa_cons (pe_ix ix_tup (pv 2) pe_int (fun _ _=>rfl)) (pa_cons (pe_ix ix_tup (pv 1) pe_int (fun _ _=>rfl)) (pa_cons (pe_ix ix_tup (pv 1) pe_int (fun _ _=>rfl)) pa_nil)))))
   (pss_cons (ps_set (i:=4) scPOC.nd rfl (Or.inl rfl) (pe_lst pa_nil))
   (pss_cons (ps_set (i:=5) scPOC.nd rfl (Or.inl rfl) (pe_ix ix_tup (pv 1) pe_int (fun _ _=>rfl)))
   (pss_cons (ps_for PassesOwn.never rfl (pi_zip rfl T.b_zip (pa_cons (pe_fld (pe_ix ix_list (pe_fld (pe_fld (pv 0) rfl) rfl) (pe_fld (pv 3) rfl) (fun _ _=>rfl)) rfl) (pa_cons (pe_fld (pv 3) rfl) pa_nil)))
     (pg_tup rfl (pgs_cons (pg_name (i:=6) scPOC.nd rfl (Or.inl rfl)) (pgs_cons (pg_name (i:=7) scPOC.nd rfl (Or.inl rfl)) pgs_nil)))
    (pss_cons (ps_expr (pe_bm PySem.F.plainAttrs_list PySem.F.slot_list_append PySem.F.type_list_append mt_append (pv 4) (pa_cons (pe_tup (pa_cons (pv 6) (pa_cons (pv 5) (pa_cons (pv 7) pa_nil)))) pa_nil)))
    (pss_one (ps_set (i:=5) scPOC.nd rfl (Or.inl rfl) (pv 7)))))
   (pss_cons (ps_expr (pe_bm PySem.F.plainAttrs_list PySem.F.slot_list_append PySem.F.type_list_append mt_append (pv 4) (pa_cons (pe_tup (pa_cons (pe_glob (v:=.ref re) rfl RE.m rfl) (pa_cons (pv 5) (pa_cons (pe_ix ix_tup (pv 1) pe_int (fun _ _=>rfl)) pa_nil)))) pa_nil)))
   (pss_one (ps_ret (pv 4)))))))),?_⟩
  refine ⟨_,rfl,p,_,_,_,rfl,rfl,SqT.of h1,at_of (j:=0) rfl rfl,?_⟩
  refine ⟨_,rfl,cp,dx,_,rfl,ho,fCells_no_at,_,rfl,sq,_,_,_,rfl,rfl,SqT.of h2,at_of (j:=1) rfl rfl,_,rfl,p,_,_,_,rfl,rfl,SqT.of h1,at_of (j:=1) rfl rfl,_,rfl,p,_,_,_,rfl,rfl,SqT.of h1,at_of (j:=2) rfl rfl,
   H0,cp,tb,fo,g,k,x,M,kvs,es,a,i,j,rfl,C,hv,(fun e=>by rw [hM] at e;cases e),fun c' hc' H1 cb hcb s1=>?_⟩
  rw [hM] at hc'
  cases hc'
  obtain ⟨cdx,ea,c1,c2,c3⟩:=hcb
  refine ⟨Nat.zero_le _,fun pa hpa=>?_⟩
  have s2:=Same.upd (o:=.lst []) hpa
  have sH:=s1.trans s2
  have pa0:H pa=none:=s1.free hpa
  have hpa2:(upd H1 pa (.lst [])) pa=some (.lst []):=upd_same
  have eapa:ea≠pa:=ne_of_none c2 hpa
  generalize hH2:upd H1 pa (.lst [])=H2 at s2 sH hpa2
  have c1:=s2 _ _ c1
  have c2:=s2 _ _ c2
  obtain ⟨rp,hrp⟩:∃rp,ps[c.rule]?=some rp:=⟨_,List.getElem?_eq_getElem (by rw [hrs.len];exact (List.getElem?_eq_some_iff.mp hrule).1)⟩
  obtain ⟨rdx,sa,qs,hr1,hr2⟩:=hrs.at_ c.rule rp r hrp hrule
  have sG:=C.same.trans sH
  have sapa:sa≠pa:=ne_of_none (C.same _ _ hr2.lst) pa0
  refine ⟨_,rfl,p,_,_,_,rfl,rfl,SqT.of (sH _ _ h1),at_of (j:=1) rfl rfl,?_⟩
  refine ⟨_,rfl,cp,_,dx,_,_,rfl,sH _ _ ho,T.lCells,T.nCells_grammar,fCells_grammar,ga,_,dxg,_,_,rfl,sG _ _ hgo,T.lGrammar,T.nGrammar_rules,fGrammar_rules,
   _,rfl,cb,_,cdx,_,_,rfl,c1,T.lCell,T.nCell_rule,fCell_rule,ra,_,_,_,rfl,rfl,SqL.of (sG _ _ hrs.lst),at_of (j:=c.rule) rfl (by rw [List.getElem?_map,hrp];rfl),rp,_,rdx,_,_,rfl,sG _ _ hr1,T.lRule,T.nRule_symbols,fRule_symbols,
   _,rfl,cb,_,cdx,_,_,rfl,c1,T.lCell,T.nCell_ends,fCell_ends,sa,ea,qs.map V.ref,c.ends.map vN,rfl,SqL.of (sG _ _ hr2.lst),SqL.of c2,?_⟩
  refine for_zip (xs:=qs.map V.ref) (ys:=c.ends.map vN) (fun m σ H'=>Kept pa H2 H'∧∃(dn:List Tk) (b:Nat) (ws:List V) (v6 v7:Option V),m≤r.rhs.length∧tks r.rhs c.ends i j=dn++tks (r.rhs.drop m) (c.ends.drop m) b j∧dn.length=m∧H' pa=some (.lst ws)∧Paired (PartAt re H') ws dn∧
   σ= [some (.ref cp),some (.ref p),some (.ref sq),some (.ref cb),some (.ref pa),some (vN b),v6,v7]) ?_ ?_ ?_ ?_
  ·exact ⟨Kept.refl _ _,[],i,[],_,_,Nat.zero_le _,rfl,rfl,hpa2,.nil,rfl⟩
  ·rintro m σ H' ⟨kp,dn,b,ws,v6,v7,hm,ht,hdn,hpa',hpr,rfl⟩
   exact ⟨SqL.of (kp _ _ (sG _ _ hr2.lst) sapa),SqL.of (kp _ _ c2 eapa)⟩
  ·rintro m u y σ H' tt hu hy ⟨kp,dn,b,ws,v6,v7,hm,ht,hdn,hpa',hpr,rfl⟩ htt
   rw [List.getElem?_map] at hu hy
   obtain ⟨qm,hqm⟩:∃t,qs[m]?=some t:=by
    cases e:qs[m]? with
    |none=>rw [e] at hu;cases hu
    |some t=>exact ⟨t,rfl⟩
   rw [hqm] at hu
   have hu:V.ref qm=u:=Option.some.inj hu
   subst hu
   have hml:m<r.rhs.length:=by rw [←hr2.len];exact (List.getElem?_eq_some_iff.mp hqm).1
   have hme:m<c.ends.length:=by rw [hlen];exact hml
   rw [List.getElem?_eq_getElem hme] at hy
   have hy:vN c.ends[m]=y:=Option.some.inj hy
   subst hy
   have hsym:=hr2.at_ m qm r.rhs[m] hqm (List.getElem?_eq_getElem hml)
   rw [List.drop_eq_getElem_cons hml,List.drop_eq_getElem_cons hme] at ht
   have ht:tks r.rhs c.ends i j=dn++((some r.rhs[m],b,c.ends[m])::tks (r.rhs.drop (m+1)) (c.ends.drop (m+1)) c.ends[m] j):=ht
   have s3:=Same.upd (o:=.tup [V.ref qm,vN c.ends[m]]) htt
   have hpa3:=s3 _ _ hpa'
   have tupAt:(upd H' tt (.tup [V.ref qm,vN c.ends[m]])) tt=some (.tup [V.ref qm,vN c.ends[m]]):=upd_same
   generalize hH3:upd H' tt (.tup [V.ref qm,vN c.ends[m]])=H3 at s3 hpa3 tupAt
   refine ⟨tt,_,rfl,SqT.of tupAt,rfl,_,_,rfl,_,_,rfl,rfl,?_⟩
   refine ⟨_,rfl,.inl ⟨rfl,_,SqL.of hpa3⟩,_,rfl,_,rfl,_,rfl,(by show 3≤sizeLine;decide),fun t ht4=>?_⟩
   have s4:=Same.upd (o:=.tup [V.ref qm,vN b,vN c.ends[m]]) ht4
   have hpa4:=s4 _ _ hpa3
   have tupAt4:(upd H3 t (.tup [V.ref qm,vN b,vN c.ends[m]])) t=some (.tup [V.ref qm,vN b,vN c.ends[m]]):=upd_same
   generalize hH4:upd H3 t (.tup [V.ref qm,vN b,vN c.ends[m]])=H4 at s4 hpa4 tupAt4
   have s34:=s3.trans s4
   have wl:=hpr.length
   refine ⟨pa,ws,_,rfl,rfl,hpa4,small1000 (by omega),_,rfl,?_⟩
   have pn:PartAt re H4 (.ref t) (some r.rhs[m],b,c.ends[m]):=⟨t,qm,rfl,tupAt4,s34 _ _ (kp _ _ (sG _ _ hsym) (ne_of (sG _ _ hsym) hpa2 (by intro z;cases z)))⟩
   refine ⟨(kp.trans (Same.kept s34)).trans Kept.upd,dn++ [(some r.rhs[m],b,c.ends[m])],c.ends[m],_,_,_,hml,by rw [ht,List.append_assoc];rfl,by simp [hdn],upd_same,?_,rfl⟩
   exact Paired.snoc (Paired.mapP hpr fun v c z=>(z.same s34).kept hpa4 Kept.upd) (pn.kept hpa4 Kept.upd)
  ·rintro m σ H' hm0 ⟨kp,dn,b,ws,v6,v7,hm,ht,hdn,hpa',hpr,rfl⟩
   have hmm:m=r.rhs.length:=by
    rw [hm0,List.length_map,List.length_map,hr2.len,hlen]
    omega
   have ht:tks r.rhs c.ends i j=dn++ [(none,b,j)]:=by
    rw [ht,hmm,List.drop_length,List.drop_eq_nil_of_le (by omega)]
    rfl
   have hp':H' p=some (.tup [.ref sq,vN i,vN j]):=kp _ _ (sH _ _ h1) (ne_of (sH _ _ h1) hpa2 (by intro z;cases z))
   refine ⟨_,rfl,.inl ⟨rfl,_,SqL.of hpa'⟩,_,rfl,_,rfl,p,_,_,_,rfl,rfl,SqT.of hp',at_of (j:=2) rfl rfl,(by show 3≤sizeLine;decide),fun t ht4=>?_⟩
   have s4:=Same.upd (o:=.tup [V.ref re,vN b,vN j]) ht4
   have hpa4:=s4 _ _ hpa'
   have tupAt4:(upd H' t (.tup [V.ref re,vN b,vN j])) t=some (.tup [V.ref re,vN b,vN j]):=upd_same
   generalize hH4:upd H' t (.tup [V.ref re,vN b,vN j])=H4 at s4 hpa4 tupAt4
   have wl:=hpr.length
   refine ⟨pa,ws,_,rfl,rfl,hpa4,small1000 (by omega),_,rfl,q _ pa (ws++ [.ref t]) upd_same ?_ ?_ pa0⟩
   ·rw [ht]
    have pn:PartAt re H4 (.ref t) (none,b,j):=⟨t,re,rfl,tupAt4,rfl⟩
    exact Paired.snoc (Paired.mapP hpr fun v c z=>(z.same s4).kept hpa4 Kept.upd) (pn.kept hpa4 Kept.upd)
   ·exact Kept.same sH pa0 ((kp.trans (Same.kept s4)).trans Kept.upd)
end
end Lr
namespace Lr
open PySem PySem.Spec PyProof.Rows L2 LX
open Vaglrl (Costs Text Cell Change)
open Vaglrc (Sym Rule Grammar)
open Vm (Tk tks tkT Row Can ann eats)
section
variable {g:Grammar} {k:Costs} {x:Text} {t:Vaglrl.Table}
theorem work_plain {n:Nat} {p:Tk} {l:List Vaglrl.Task} (h:∀a,p.1≠some (.non a)):Vaglrl.work g k x t (n+1) (tkT p::l)=(Vaglrl.work g k x t n l).map fun r=>plainCh k x p++r:=by
 obtain ⟨o,i,j⟩:=p
 cases o with
 |none=>rfl
 |some s=>cases s with
  |non a=>exact absurd rfl (h a)
  |range lo hi=>rfl
theorem work_non {n a i j:Nat} {c:Cell} {r:Rule} {l:List Vaglrl.Task} (h:Vaglrl.cellAt t a i j=some c) (h2:g.rules[c.rule]?=some r):
  Vaglrl.work g k x t (n+1) (tkT (some (.non a),i,j)::l)=Vaglrl.work g k x t n ((tks r.rhs c.ends i j).map tkT++l):=by
 show (match Vaglrl.cellAt t a i j with
  |none=>none
  |some c=>match g.rules[c.rule]? with
   |none=>none
   |some r=>Vaglrl.work g k x t n (Vaglrl.tasksOf r.rhs c.ends i j++l))=_
 rw [h]
 dsimp only
 rw [h2,Vm.tks_task]
theorem work_one {p:Tk} {l:List Vaglrl.Task}:Vaglrl.work g k x t 1 (tkT p::l)=none:=by
 obtain ⟨o,i,j⟩:=p
 cases o with
 |none=>rfl
 |some s=>cases s with
  |range lo hi=>rfl
  |non a=>
   show (match Vaglrl.cellAt t a i j with
    |none=>none
    |some c=>match g.rules[c.rule]? with
     |none=>none
     |some r=>Vaglrl.work g k x t 0 (Vaglrl.tasksOf r.rhs c.ends i j++l))=none
   cases Vaglrl.cellAt t a i j with
   |none=>rfl
   |some c=>
    dsimp only
    cases g.rules[c.rule]?<;>rfl
theorem piece_len {i j:Nat} (h1:i≤j) (h2:j≤x.length):(Vaglrl.piece x i j).length=j - i:=by
 unfold Vaglrl.piece
 rw [List.length_take,List.length_drop]
 omega
theorem deletes_len (n:Nat):(Vaglrl.deletes n).length=n:=List.length_replicate
theorem rch_len (lo hi:Nat) (y:Text):(Vaglrl.rangeChanges k lo hi y).length≤y.length+1:=by
 cases e:Vaglrl.firstIn lo hi y with
 |some d=>
  have q:=Vm.rch_eats (k:=k) (lo:=lo) (hi:=hi) (x:=y)
  rw [Vm.rch_some e] at q ⊢
  rw [Vm.eats_append,Vm.eats_cons,Vm.eats_deletes,Vm.eats_deletes] at q
  have q:d+(1+(y.length - d - 1))=y.length:=q
  rw [List.length_append,List.length_cons,deletes_len,deletes_len]
  omega
 |none=>
  rw [Vm.rch_none e]
  split
  ·rw [List.length_cons,deletes_len]
   omega
  ·rw [List.length_cons,deletes_len]
   omega
theorem plain_eats {p:Tk} (h1:p.2.1≤p.2.2) (h2:p.2.2≤x.length):eats (plainCh k x p)=p.2.2 - p.2.1∧(plainCh k x p).length≤p.2.2 - p.2.1+1:=by
 obtain ⟨o,i,j⟩:=p
 have h1:i≤j:=h1
 have h2:j≤x.length:=h2
 have d:eats (Vaglrl.deletes (j - i))=j - i∧(Vaglrl.deletes (j - i)).length≤j - i+1:=⟨Vm.eats_deletes _,by rw [deletes_len];omega⟩
 cases o with
 |none=>exact d
 |some s=>cases s with
  |non a=>exact d
  |range lo hi=>
   have e:=piece_len h1 h2
   have q:=rch_len (k:=k) lo hi (Vaglrl.piece x i j)
   rw [e] at q
   exact ⟨by show eats (Vaglrl.rangeChanges k lo hi (Vaglrl.piece x i j))=_;rw [Vm.rch_eats,e],q⟩
end
theorem ann_len (x:Text):∀(l:List Change) (p:Nat),(ann x p l).length=l.length
 | [],_=>rfl
 | .keep::l,p=>by show (ann x (p+1) l).length+1=_;rw [ann_len x l];rfl
 | .delete::l,p=>by show (ann x (p+1) l).length+1=_;rw [ann_len x l];rfl
 | .insert b::l,p=>by show (ann x p l).length+1=_;rw [ann_len x l];rfl
 | .replace b::l,p=>by show (ann x (p+1) l).length+1=_;rw [ann_len x l];rfl
theorem sym0 (o:Option Sym):∃z:Int,(symL o)[0]?=some (.int z)∧(z=0↔∃a,o=some (.non a)):=by
 cases o with
 |none=>exact ⟨2,rfl,fun h=>absurd h (by decide),fun ⟨a,h⟩=>nomatch h⟩
 |some s=>cases s with
  |non a=>exact ⟨0,rfl,fun _=>⟨a,rfl⟩,fun _=>rfl⟩
  |range lo hi=>exact ⟨1,rfl,fun h=>absurd h (by decide),fun ⟨a,h⟩=>nomatch h⟩
theorem size_ok {n:Nat} (h:n≤100000):n≤sizeLine:=Nat.le_trans h (by rw [sizeLine_eq];decide)
section
variable {P:Program} {w:World} {K:PySem.W.Frag} {mg:Str→Option Value} {base:Heap} {A:Ad}
def spTC (A:Ad):Sp:=fun vs H Q E=>∃(H0:Hp) (cp tb fo:Addr) (g:Grammar) (k:Costs) (x:Text) (kvs:List (List Key×V)) (es:List Ent) (c0:Cell),vs= [.ref cp]∧CellsSt A H0 H cp g k x (specM g k x) tb fo kvs es∧Vm.GOk g∧x.length≤12∧specM g k x 0 0 x.length=some c0∧
 (Vaglrl.repairOf g k x=none→∀H',Same H H'→E (.ref A.cTooLong) none H')∧
 ∀l,Vaglrl.repairOf g k x=some l→eats l=x.length→l.length≤60000→∀(H':Hp) (c:Addr),ChAt H' c (ann x 0 l)→Same H H'→H c=none→Q (.ref c) H'
def TCI (g:Grammar) (k:Costs) (x:Text) (re:Addr) (H:Hp) (cp ch wa:Addr) (μ:Nat) (σ:L2.St) (H':Hp):Prop:=
 ∃(t:Nat) (dn:List Change) (pd:List Tk) (us cs:List V) (v4:Option V),μ=4000 - t∧t≤3999∧Vaglrl.repairOf g k x=(Vaglrl.work g k x (Vaglrl.tableOf g k x) (4000 - t) (pd.map tkT)).map (fun r=>dn++r)∧Row (Can g k x) (eats dn) pd x.length∧eats dn≤x.length∧pd.length≤1+8 * t∧dn.length≤13 * t∧
  Same H H'∧H' wa=some (.lst us.reverse)∧Paired (PartAt re H') us pd∧H' ch=some (.lst cs)∧Paired (fun v c=>TupV H' v (chV c)) cs (ann x 0 dn)∧σ= [some (.ref cp),some (.ref ch),some (.ref wa),some (vN t),v4]
theorem TupV.keptL {H H':Hp} {pa:Addr} {xs ws:List V} {v:V} (h0:H pa=some (.lst xs)) (k:Kept pa H H') (h:TupV H v ws):TupV H' v ws:=by
 obtain ⟨q,e,h⟩:=h
 exact ⟨q,e,k _ _ h (ne_of h h0 (by intro z;cases z))⟩
abbrev nTC:List Str:= ["cells","changes","waiting","steps","part"]
theorem scTC:FnScope nTC ["cells"] (defScope sToldChanges):=⟨rfl,rfl,rfl,by decide+kernel,rfl,by decide+kernel,by decide+kernel⟩
theorem okTC {re f fO fC:Addr} {fd fdO fdC:FuncData} (F:Fun K "told_changes" "told_changes" sToldChanges f fd) (T:Txt A K mg) (RE:REnd K mg re)
  (PO:Cl P w K mg base CX0 2 "parts_of_cell" fO fdO ["cells","part"] (spPOC A re)) (PC:Cl P w K mg base CX0 3 "plain_changes" fC fdC ["cells","part"] (spPC A re)):
  FnOk P w K mg base (CXL P w) 4 f fd ["cells"] (spTC A):=by
 obtain ⟨t0,kN⟩:=T.kNONTERMINAL
 obtain ⟨t1,kS⟩:=T.kSTART
 obtain ⟨t2,kM⟩:=T.kTOO_MANY_STEPS
 refine okX F scTC (fun vs H Q E h=>?_) (fun cdv A' outer s H vs Q E hr h=>?_)
 ·obtain ⟨H0,cp,tb,fo,g,k,x,kvs,es,c0,rfl,_⟩:=h
  rfl
 ·obtain ⟨H0,cp,tb,fo,g,k,x,kvs,es,c0,rfl,C,go,hx,hc0,q1,q2⟩:=h
  have hr2:Room 2 _:=hr.mono (by decide)
  obtain ⟨dx,ga,la,ca,ho,hg,hl,hc⟩:=C.obj
  refine ⟨_,pss_cons (ps_set (i:=1) scTC.nd rfl (Or.inl rfl) (pe_lst pa_nil))
   (pss_cons (ps_set (i:=2) scTC.nd rfl (Or.inl rfl) (pe_lst (pa_cons (pe_tup (pa_cons (pe_tup (pa_cons (pe_glob (v:=.int 0) rfl kN ⟨_,rfl⟩) (pa_cons (pe_glob (v:=.int 0) rfl kS ⟨_,rfl⟩) pa_nil))) (pa_cons pe_int (pa_cons (pe_callB call_len_seq (by rfl) T.b_len PySem.boot_len (pa_cons (pe_fld (pv 0) rfl) pa_nil)) pa_nil)))) pa_nil)))
   (pss_cons (ps_set (i:=3) scTC.nd rfl (Or.inl rfl) pe_int)
   (pss_cons (ps_while own_body (pt_truth (pv 2) (fun _=>rfl))
    (pss_cons (ps_aug (i:=3) scTC.nd rfl (Or.inl rfl) pe_int ip_add)
    (pss_cons (ps_if (pt_cmp (pc_eqI (pv 3) (pe_glob (v:=.int 4000) rfl kM ⟨_,rfl⟩))) (pss_one (ps_raise T.xTooLong rfl T.mTooLong (pa_cons pe_str pa_nil))) pss_nil)
    (pss_cons (ps_set (i:=4) scTC.nd rfl (Or.inl rfl) (pe_bm0 PySem.F.plainAttrs_list PySem.F.slot_list_pop PySem.F.type_list_pop mt_pop (pv 2)))
    (pss_one (ps_if (pt_cmp (pc_eqI (pe_ix ix_tup (pe_ix ix_tup (pv 4) pe_int (fun _ _=>rfl)) pe_int (fun _ _=>rfl)) (pe_glob (v:=.int 0) rfl kN ⟨_,rfl⟩)))
     (pss_one (ps_expr (pe_bm PySem.F.plainAttrs_list PySem.F.slot_list_extend PySem.F.type_list_extend mt_extend (pv 2) (pa_cons (pe_lr rfl rfl T.b_list rfl T.b_reversed (pe_call PO.ok hr2 rfl PO.m PO.kp PO.b .nil pass0 (pa_cons (pv 0) (pa_cons (pv 4) pa_nil)))) pa_nil))))
     (pss_one (ps_expr (pe_bm PySem.F.plainAttrs_list PySem.F.slot_list_extend PySem.F.type_list_extend mt_extend (pv 1) (pa_cons (pe_call PC.ok hr rfl PC.m PC.kp PC.b .nil pass0 (pa_cons (pv 0) (pa_cons (pv 4) pa_nil))) pa_nil))))))))))
   (pss_one (ps_ret (pv 1)))))),?_⟩
  refine ⟨Nat.zero_le _,fun ch hch=>?_⟩
  have s1:=Same.upd (o:=.lst []) hch
  have ch1:(upd H ch (.lst [])) ch=some (.lst []):=upd_same
  generalize hH1:upd H ch (.lst [])=H1 at s1 ch1
  refine ⟨(by show 2≤sizeLine;decide),fun tq htq=>?_⟩
  have s2:=Same.upd (o:=.tup [.int 0,.int 0]) htq
  have tq2:(upd H1 tq (.tup [.int 0,.int 0])) tq=some (.tup [.int 0,.int 0]):=upd_same
  generalize hH2:upd H1 tq (.tup [.int 0,.int 0])=H2 at s2 tq2
  have s12:=s1.trans s2
  refine ⟨_,rfl,cp,_,dx,_,_,rfl,s12 _ _ ho,T.lCells,T.nCells_letters,fCells_letters,la,_,rfl,.inl (SqL.of (s12 _ _ (C.same _ _ hl))),(by show 3≤sizeLine;decide),fun tp htp=>?_⟩
  have lenE:(.int ((x.map vN).length:Int):V)=vN x.length:=by rw [List.length_map];rfl
  rw [lenE]
  have s3:=Same.upd (o:=.tup [.ref tq,.int 0,vN x.length]) htp
  have tp3:(upd H2 tp (.tup [.ref tq,.int 0,vN x.length])) tp=some (.tup [.ref tq,.int 0,vN x.length]):=upd_same
  generalize hH3:upd H2 tp (.tup [.ref tq,.int 0,vN x.length])=H3 at s3 tp3
  refine ⟨(by show 1≤sizeLine;decide),fun wa hwa=>?_⟩
  have s4:=Same.upd (o:=.lst [.ref tp]) hwa
  have wa4:(upd H3 wa (.lst [.ref tp])) wa=some (.lst [.ref tp]):=upd_same
  generalize hH4:upd H3 wa (.lst [.ref tp])=H4 at s4 wa4
  have s34:=s3.trans s4
  have sH4:=s12.trans s34
  have ch4:=(s2.trans s34) _ _ ch1
  have chwa:ch≠wa:=fun z=>by rw [←z,(s2.trans s3) _ _ ch1] at hwa;cases hwa
  have waH:H wa=none:=(s12.trans s3).free hwa
  refine ⟨TCI g k x re H cp ch wa,⟨4000,?_⟩,?_⟩
  ·refine ⟨0,[],[(some (.non 0),0,x.length)],[.ref tp],[],none,rfl,Nat.zero_le _,?_,⟨rfl,Nat.zero_le _,Nat.le_refl _,(fun s e=>?_),rfl⟩,Nat.zero_le _,by simp,by simp,sH4,wa4,.cons ⟨tp,tq,rfl,s4 _ _ tp3,s34 _ _ tq2⟩ .nil,ch4,.nil,rfl⟩
   ·show Vaglrl.work g k x (Vaglrl.tableOf g k x) 4000 [.sym (.non 0) 0 x.length]=(Vaglrl.work g k x (Vaglrl.tableOf g k x) 4000 [.sym (.non 0) 0 x.length]).map fun r=>r
    cases Vaglrl.work g k x (Vaglrl.tableOf g k x) 4000 [.sym (.non 0) 0 x.length]<;>rfl
   ·cases e
    exact ⟨go.n1,c0,hc0⟩
  ·rintro μ σ H' ⟨t,dn,pd,us,cs,v4,rfl,ht,hwk,hrow,hle,hpl,hdl,sH,hwa',hpr,hch',hcs,rfl⟩
   have ul:=hpr.length
   have cl:=hcs.length
   rw [ann_len] at cl
   refine ⟨_,rfl,_,.inl ⟨us.reverse,SqL.of hwa',rfl⟩,iteB (fun hb=>?_) (fun hb=>?_)⟩
   ·cases hpr with
    |nil=>cases hb
    | @cons y t0 r rest py pr=>
    obtain ⟨i0,ij,jx,can,hrow'⟩:=hrow
    rw [List.reverse_cons] at hwa'
    have rl:=pr.length
    refine ⟨fun σ' H''=>∃m',m'<4000 - t∧TCI g k x re H cp ch wa m' σ' H'',fun _ _ h=>h,?_⟩
    refine ⟨_,rfl,_,_,rfl,rfl,?_⟩
    refine ⟨_,rfl,_,_,rfl,rfl,_,rfl,iteD (fun e=>?_) (fun ne=>?_)⟩
    ·have e:(t:Int)+1=4000:=e
     have et:t=3999:=by omega
     subst et
     refine ⟨(by show 1≤sizeLine;decide),q1 ?_ H' sH⟩
     rw [hwk]
     show (Vaglrl.work g k x (Vaglrl.tableOf g k x) 1 (tkT t0::rest.map tkT)).map _=none
     rw [work_one]
     rfl
    ·have ne:¬(t:Int)+1=4000:=ne
     obtain ⟨n,hn⟩:∃n,4000 - t=n+1:=⟨3999 - t,by omega⟩
     have hn':4000 - (t+1)=n:=by omega
     rw [hn] at hwk
     have hwk:Vaglrl.repairOf g k x=(Vaglrl.work g k x (Vaglrl.tableOf g k x) (n+1) (tkT t0::rest.map tkT)).map (fun r=>dn++r):=hwk
     refine ⟨_,rfl,.inl ⟨rfl,_,SqL.of hwa'⟩,wa,_,y,rfl,rfl,hwa',by simp,?_⟩
     rw [List.dropLast_concat]
     have k5:Kept wa H' (upd H' wa (.lst r.reverse)):=Kept.upd
     have wa5:(upd H' wa (.lst r.reverse)) wa=some (.lst r.reverse):=upd_same
     generalize hH5:upd H' wa (.lst r.reverse)=H5 at k5 wa5
     have sH5:Same H H5:=Kept.same sH waH k5
     have py5:=py.kept hwa' k5
     have pr5:=Paired.mapP pr fun v c z=>PartAt.kept hwa' k5 z
     have ch5:=k5 _ _ hch' chwa
     have cs5:=Paired.mapP hcs fun v c z=>TupV.keptL hwa' k5 z
     have C5:=C.step sH5
     obtain ⟨p0,q0,rfl,hp0,hq0⟩:=id py5
     have sq:=RE.sym hq0
     obtain ⟨o,i,j⟩:=t0
     have i0:i=eats dn:=i0
     have ij:eats dn≤j:=ij
     have jx:j≤x.length:=jx
     have hrow':Row (Can g k x) j rest x.length:=hrow'
     have pl:rest.length+1≤1+8 * t:=hpl
     obtain ⟨z0,hz0,hz1⟩:=sym0 o
     refine ⟨_,rfl,p0,_,_,_,rfl,rfl,SqT.of hp0,at_of (j:=0) rfl rfl,q0,_,_,_,rfl,rfl,sq,at_of (j:=0) rfl hz0,_,_,rfl,rfl,_,rfl,iteD (fun e=>?_) (fun ne0=>?_)⟩
     ·obtain ⟨a,rfl⟩:=hz1.mp e
      obtain ⟨ha,c,hc'⟩:=can _ rfl
      have hc':Vaglrl.cellAt (Vaglrl.tableOf g k x) a i j=some c:=by rw [show i=eats dn from i0];exact hc'
      obtain ⟨ru,hru,fit⟩:=Vm.cell_fits go.n20 hx (by omega) jx hc'
      have h8:=go.syms ru (List.mem_of_getElem? hru)
      rw [work_non hc' hru,←List.map_append] at hwk
      refine ⟨_,rfl,.inl ⟨rfl,_,SqL.of wa5⟩,_,rfl,_,rfl,H0,cp,tb,fo,p0,g,k,x,specM g k x,kvs,es,a,i,j,c,ru,rfl,C5,py5,⟨ha,by show i≤j;omega,jx⟩,hc',hru,h8,fit.len,fun H6 b ws hb6 pr6 s6 n6=>⟨b,ws,rfl,SqL.of hb6,fun zz hzz=>?_⟩⟩
      have s7:=Same.upd (o:=.lst ws.reverse) hzz
      have zz7:(upd H6 zz (.lst ws.reverse)) zz=some (.lst ws.reverse):=upd_same
      generalize hH7:upd H6 zz (.lst ws.reverse)=H7 at s7 zz7
      have s57:=s6.trans s7
      have wa7:=s57 _ _ wa5
      have wl:=pr6.length
      have tl:=tks_len ru.rhs c.ends i j
      refine ⟨wa,zz,_,_,rfl,rfl,wa7,zz7,size_ok (by rw [List.length_reverse,List.length_reverse];omega),?_⟩
      refine ⟨4000 - (t+1),by omega,t+1,dn,tks ru.rhs c.ends i j++rest,ws++r,cs,_,rfl,by omega,by rw [hn'];exact hwk,?_,by omega,by rw [List.length_append];omega,by omega,Kept.same (sH5.trans s57) waH Kept.upd,by rw [upd_same,List.reverse_append],?_,Kept.upd _ _ (s57 _ _ ch5) chwa,Paired.mapP cs5 fun v c z=>TupV.keptL wa7 Kept.upd (z.same s57),rfl⟩
      ·have rw1:=Vm.row_tks fit
       rw [←show i=eats dn from i0]
       exact rw1.append jx hrow'
      ·exact Paired.app (Paired.mapP pr6 fun v c z=>PartAt.kept wa7 Kept.upd (z.same s7)) (Paired.mapP pr5 fun v c z=>PartAt.kept wa7 Kept.upd (z.same s57))
     ·have hno:∀a,o≠some (.non a):=fun a z=>ne0 (hz1.mpr ⟨a,z⟩)
      have pe:=plain_eats (k:=k) (x:=x) (p:=(o,i,j)) (by show i≤j;omega) jx
      have pe1:eats (plainCh k x (o,i,j))=j - i:=pe.1
      have pe2:(plainCh k x (o,i,j)).length≤j - i+1:=pe.2
      rw [work_plain (p:=(o,i,j)) hno] at hwk
      refine ⟨_,rfl,.inl ⟨rfl,_,SqL.of ch5⟩,_,rfl,_,rfl,H0,cp,tb,fo,p0,g,k,x,specM g k x,kvs,es,(o,i,j),rfl,C5,py5,hno,by show i≤j;omega,jx,hx,fun H6 c6 hc6 s6 n6=>?_⟩
      obtain ⟨vs6,h6,pr6⟩:=hc6
      have ch6:=s6 _ _ ch5
      have vl:=pr6.length
      rw [ann_len] at vl
      refine ⟨ch,c6,_,vs6,rfl,rfl,ch6,h6,size_ok (by omega),?_⟩
      have ee:eats (dn++plainCh k x (o,i,j))=j:=by rw [Vm.eats_append,pe1];omega
      refine ⟨4000 - (t+1),by omega,t+1,dn++plainCh k x (o,i,j),rest,r,cs++vs6,_,rfl,by omega,?_,by rw [ee];exact hrow',by omega,by omega,by rw [List.length_append];omega,Kept.same (sH5.trans s6) hch Kept.upd,Kept.upd _ _ (s6 _ _ wa5) (Ne.symm chwa),Paired.mapP pr5 fun v c z=>PartAt.kept ch6 Kept.upd (z.same s6),upd_same,?_,rfl⟩
      ·rw [hwk,hn',Option.map_map]
       congr 1
       funext z
       show dn++(plainCh k x (o,i,j)++z)=_
       rw [List.append_assoc]
      ·rw [Vm.ann_append,show 0+eats dn=i by omega]
       exact Paired.app (Paired.mapP cs5 fun v c z=>TupV.keptL ch6 Kept.upd (z.same s6)) (Paired.mapP pr6 fun v c z=>TupV.keptL ch6 Kept.upd z)
   ·have hu:us= []:=by
     cases us with
     |nil=>rfl
     |cons a r=>simp at hb
    subst hu
    have hp:pd= []:=List.length_eq_zero_iff.mp ul.symm
    subst hp
    have hrow:eats dn=x.length:=hrow
    obtain ⟨n,hn⟩:∃n,4000 - t=n+1:=⟨3999 - t,by omega⟩
    rw [hn] at hwk
    have hwk:Vaglrl.repairOf g k x=some (dn++ []):=hwk
    rw [List.append_nil] at hwk
    exact ⟨_,rfl,q2 dn hwk hrow (by omega) H' ch ⟨cs,hch',hcs⟩ sH hch⟩
end
end Lr
namespace Lr
open PySem PySem.Spec PyProof.Rows L2 LX
open Vaglrl (Costs Text Cell Change)
open Vaglrc (Sym Rule Grammar)
open Vm (ann eats)
theorem Paired.at {α β:Type} {F:α→β→Prop}:∀{l:List α} {m:List β} {i:Nat} {a:α},Paired F l m→l[i]?=some a→∃b,m[i]?=some b∧F a b
 |_,_,0,a,.cons (b:=b) h r,e=>by
  cases e
  exact ⟨b,rfl,h⟩
 |_,_,i+1,a,.cons h r,e=>by
  obtain ⟨b,h1,h2⟩:=Paired.at (i:=i) r e
  exact ⟨b,h1,h2⟩
 |_,_,_,_,.nil,e=>nomatch e
def repL (l:List Ch):List Nat:=(l.filter fun c=>c.1 !=1).map fun c=>c.2.2
theorem repL_snoc (l:List Ch) (c:Ch):repL (l++ [c])=repL l++if c.1=1 then [] else [c.2.2]:=by
 unfold repL
 rw [List.filter_append,List.map_append]
 congr 1
 by_cases h:c.1=1
 ·rw [if_pos h,List.filter_cons_of_neg (by simp [h])]
  rfl
 ·rw [if_neg h,List.filter_cons_of_pos (by simp [h])]
  rfl
theorem repL_len (l:List Ch):(repL l).length≤l.length:=by
 unfold repL
 rw [List.length_map]
 exact List.length_filter_le ..
section
variable {P:Program} {w:World} {K:PySem.W.Frag} {mg:Str→Option Value} {base:Heap} {A:Ad}
def spRep:Sp:=fun vs H Q _=>∃(a:Addr) (l:List Ch),vs= [.ref a]∧ChAt H a l∧l.length≤60000∧∀(H':Hp) (p:Addr),H' p=some (.lst ((repL l).map vN))→Same H H'→H p=none→Q (.ref p) H'
abbrev nRep:List Str:= ["changes","kind","place","byte"]
theorem scRep:FnScope nRep ["changes"] (defScope sRepaired):=⟨rfl,rfl,rfl,by decide+kernel,rfl,by decide+kernel,by decide+kernel⟩
theorem okRep {f:Addr} {fd:FuncData} (F:Fun K "repaired" "repaired" sRepaired f fd) (T:Txt A K mg):FnOk P w K mg base CX0 1 f fd ["changes"] spRep:=by
 obtain ⟨t0,kL⟩:=T.kLEFT_OUT
 refine F.ok scRep (fun vs H Q E h=>?_) (fun cdv A' outer s H vs Q E hr h=>?_)
 ·obtain ⟨a,l,rfl,_⟩:=h
  rfl
 ·obtain ⟨a,l,rfl,⟨cs,ha,pr⟩,hl,q⟩:=h
  have cl:=pr.length
  refine ⟨_,pss_one (ps_ret (pe_lc (own:= [("kind",1),("place",2),("byte",3)]) (g:=gTup K 3 (gCons (gName 1) (gCons (gName 2) (gCons (gName 3) gNil)))) rfl scRep.nd (pi_list (pv 0)) (blkOk_by (by show blkC nRep (defScope sRepaired) _ _=true;decide+kernel))
   (fun s H C cl fp=>pg_tup rfl (pgs_cons (pg_name (i:=1) scRep.nd rfl (Or.inl rfl)) (pgs_cons (pg_name (i:=2) scRep.nd rfl (Or.inl rfl)) (pgs_cons (pg_name (i:=3) scRep.nd rfl (Or.inl rfl)) pgs_nil))))
   (fun s H C cl fp=>pts_one (pt_cmp (pc_neI (pv 1) (pe_glob (v:=.int 1) rfl kL ⟨_,rfl⟩)))) (fun s H C cl fp=>pv 3))),?_⟩
  refine ⟨_,rfl,a,rfl,⟨_,SqL.of ha⟩,fun D hD=>lc_list (K:=K) (a:=a) (xs:=cs) (fun i H'=>Same H H'∧H' D=some (.lst ((repL (l.take i)).map vN))) ⟨Same.upd hD,upd_same⟩ (fun i H' _ h=>SqL.of (h.1 _ _ ha)) ?_ ?_⟩
  ·rintro i v H' hv ⟨s1,h1⟩
   have hi:i<l.length:=by rw [←cl];exact (List.getElem?_eq_some_iff.mp hv).1
   obtain ⟨qa,rfl,hq⟩:TupV H v (chV l[i]):=by
    obtain ⟨b,hb,hF⟩:=Paired.at pr hv
    rw [List.getElem?_eq_getElem hi] at hb
    cases hb
    exact hF
   have tk:repL (l.take (i+1))=repL (l.take i)++if l[i].1=1 then [] else [l[i].2.2]:=by
    rw [List.take_succ,List.getElem?_eq_getElem hi]
    exact repL_snoc _ _
   refine ⟨qa,_,rfl,SqT.of (s1 _ _ hq),rfl,_,_,rfl,_,_,rfl,_,_,rfl,rfl,rfl,?_⟩
   refine ⟨_,rfl,_,_,rfl,rfl,_,rfl,iteB (fun hb=>?_) (fun hb=>?_)⟩
   ·have hk:¬l[i].1=1:=by
     intro z
     rw [z] at hb
     simp at hb
    rw [if_neg hk] at tk
    have len:=repL_len (l.take i)
    rw [List.length_take] at len
    refine ⟨_,rfl,_,h1,Nat.lt_of_lt_of_le (Nat.lt_succ_of_le (by rw [List.length_map];exact len)) (size_ok (by omega)),fun b o e=>?_,?_⟩
    ·rw [upd_ne (ne_of_none e hD)]
     exact s1 _ _ e
    ·rw [upd_same,tk,List.map_append]
     rfl
   ·have hk:l[i].1=1:=by
     have:¬¬((l[i].1:Int)=1):=by simpa using hb
     omega
    rw [if_pos hk,List.append_nil] at tk
    exact ⟨s1,by rw [tk];exact h1⟩
  ·rintro H' ⟨s1,h1⟩
   rw [cl,List.take_length] at h1
   exact q H' D h1 s1 hD
end
end Lr
namespace Lr
open PySem PySem.Spec PyProof.Rows L2 LX
open Vaglrl (Costs Text Cell Change)
open Vaglrc (Sym Rule Grammar)
open Vm (ann eats)
def toldOf (g:Grammar) (k:Costs) (x:Text):Option (List Change):=match Vaglrl.repairOf g k x with
 |none=>none
 |some l=>if 64<(Vaglrl.applied l x).length then none else some l
theorem repL_ann {x:Text} {l:List Change} (h:eats l=x.length):repL (ann x 0 l)=Vaglrl.applied l x:=Vm.ann_applied x l 0 (by omega)
section
variable {P:Program} {w:World} {K:PySem.W.Frag} {mg:Str→Option Value} {base:Heap} {A:Ad}
def spTell (A:Ad):Sp:=fun vs H Q E=>∃(H0:Hp) (cp tb fo:Addr) (g:Grammar) (k:Costs) (x:Text) (kvs:List (List Key×V)) (es:List Ent) (c0:Cell),vs= [.ref cp]∧CellsSt A H0 H cp g k x (specM g k x) tb fo kvs es∧Vm.GOk g∧x.length≤12∧specM g k x 0 0 x.length=some c0∧
 (toldOf g k x=none→∀H',Same H H'→E (.ref A.cTooLong) none H')∧
 ∀l,toldOf g k x=some l→eats l=x.length→l.length≤60000→(Vaglrl.applied l x).length≤64→∀(H':Hp) (c:Addr),ChAt H' c (ann x 0 l)→Same H H'→H c=none→Q (.ref c) H'
theorem scTell:FnScope ["cells","changes"] ["cells"] (defScope sToldRepair):=⟨rfl,rfl,rfl,by decide+kernel,rfl,by decide+kernel,by decide+kernel⟩
theorem okTell {f fC fR:Addr} {fd fdC fdR:FuncData} (F:Fun K "told_repair" "told_repair" sToldRepair f fd) (T:Txt A K mg)
  (TC:Cl P w K mg base (CXL P w) 4 "told_changes" fC fdC ["cells"] (spTC A)) (RP:Cl P w K mg base CX0 1 "repaired" fR fdR ["changes"] spRep):
  FnOk P w K mg base (CXL P w) 5 f fd ["cells"] (spTell A):=by
 obtain ⟨t0,kM⟩:=T.kMOST_BYTES
 refine okX F scTell (fun vs H Q E h=>?_) (fun cdv A' outer s H vs Q E hr h=>?_)
 ·obtain ⟨H0,cp,tb,fo,g,k,x,kvs,es,c0,rfl,_⟩:=h
  rfl
 ·obtain ⟨H0,cp,tb,fo,g,k,x,kvs,es,c0,rfl,C,go,hx,hc0,q1,q2⟩:=h
  have hr1:Room 1 _:=hr.mono (by decide)
  refine ⟨_,pss_cons (ps_set (i:=1) scTell.nd rfl (Or.inl rfl) (pe_call TC.ok hr rfl TC.m TC.kp TC.b .nil pass_body.passes (pa_cons (pv 0) pa_nil)))
   (pss_cons (ps_if (pt_cmpR op_gt (pe_callB call_len_seq (by rfl) T.b_len PySem.boot_len (pa_cons (pe_call RP.ok hr1 rfl RP.m RP.kp RP.b .nil pass0 (pa_cons (pv 1) pa_nil)) pa_nil)) (pe_glob (v:=.int 64) rfl kM ⟨_,rfl⟩) (nomark _)) (pss_one (ps_raise T.xTooLong rfl T.mTooLong (pa_cons pe_str pa_nil))) pss_nil)
   (pss_one (ps_ret (pv 1)))),?_⟩
  refine ⟨_,rfl,H0,cp,tb,fo,g,k,x,kvs,es,c0,rfl,C,go,hx,hc0,(fun e=>q1 (by unfold toldOf;rw [e])),fun l hl he hle H1 c hc s1 n1=>?_⟩
  have hT:toldOf g k x=if 64<(Vaglrl.applied l x).length then none else some l:=by unfold toldOf;rw [hl]
  refine ⟨_,rfl,c,ann x 0 l,rfl,hc,by rw [ann_len];exact hle,fun H2 p hp s2 n2=>?_⟩
  rw [repL_ann he] at hp
  refine ⟨p,_,rfl,.inl (SqL.of hp),_,_,rfl,rfl,_,rfl,iteD (fun e=>?_) (fun e=>?_)⟩
  ·rw [List.length_map] at e
   exact ⟨(by show 1≤sizeLine;decide),q1 (by rw [hT,if_pos (by omega)]) H2 (s1.trans s2)⟩
  ·rw [List.length_map] at e
   exact ⟨_,rfl,q2 l (by rw [hT,if_neg (by omega)]) he hle (by omega) H2 c (hc.same s2) (s1.trans s2) n1⟩
end
end Lr
namespace Lr
open PySem PySem.Spec PyProof.Rows L2 LX
theorem LsAt.kept {K:PySem.W.Frag} {H H':Hp} {a p C dx:Addr} {fs:List (Str×V)} {xs:List V} (k:Kept p H H') (hp:H p=some (.ins C dx fs)) (h:SqL K H a xs):SqL K H' a xs:=by
 rcases h with (h|⟨o,h⟩)|h
 ·exact .inl (.inl (k _ _ h (ne_of h hp (by intro z;cases z))))
 ·exact .inl (.inr ⟨o,k _ _ h (ne_of h hp (by intro z;cases z))⟩)
 ·exact .inr h
theorem LsAt.same {K:PySem.W.Frag} {H H':Hp} {a:Addr} {xs:List V} (k:Same H H') (h:SqL K H a xs):SqL K H' a xs:=Same.seq k h
structure CrAt (A:Ad) (K:PySem.W.Frag) (H:Hp) (p ca:Addr) (calls:List Int) (n:Nat):Prop where
 obj:∃dx,H p=some (.ins A.cCallReader dx (fCallReader (.ref ca) (vN n)))
 ls:SqL K H ca (calls.map V.int)
 le:n≤calls.length
theorem CrAt.same {A:Ad} {K:PySem.W.Frag} {H H':Hp} {p ca:Addr} {calls:List Int} {n:Nat} (s:Same H H') (h:CrAt A K H p ca calls n):CrAt A K H' p ca calls n:=
 ⟨let ⟨dx,e⟩:=h.obj;⟨dx,s _ _ e⟩,LsAt.same s h.ls,h.le⟩
theorem cut_mid {xs:List V} {n m:Nat} (h:n+m≤xs.length):cutV xs (some (n:Int)) (some ((n:Int)+(m:Int)))=(xs.drop n).take m:=by
 unfold cutV
 rw [show (n:Int)+(m:Int)=((n+m:Nat):Int) by omega,HT.sIx_nat,HT.sIx_nat,Nat.min_eq_left h,Nat.min_eq_left (show n≤xs.length by omega),Nat.add_sub_cancel_left]
section
variable {P:Program} {w:World} {K:PySem.W.Frag} {mg:Str→Option Value} {base:Heap} {A:Ad}
def spTN (A:Ad) (K:PySem.W.Frag):Sp:=fun vs H Q _=>∃(p ca:Addr) (calls:List Int) (n m:Nat),vs= [.ref p,vN m]∧CrAt A K H p ca calls n∧n+m≤calls.length∧
 ∀(H':Hp) (b:Addr),CrAt A K H' p ca calls (n+m)→Kept p H H'→H b=none→H' b=some (.lst (((calls.drop n).take m).map V.int))→Q (.ref b) H'
theorem scTN:FnScope ["self","how_many","begin"] ["self","how_many"] (defScope sCallReaderTakeNumbers):=⟨rfl,rfl,rfl,by decide+kernel,rfl,by decide+kernel,by decide+kernel⟩
theorem okTN {f:Addr} {fd:FuncData} (F:Fun K "take_numbers" "CallReader.take_numbers" sCallReaderTakeNumbers f fd) (T:Txt A K mg):FnOk P w K mg base CX0 1 f fd ["self","how_many"] (spTN A K):=by
 refine F.ok scTN (fun vs H Q E h=>?_) (fun cdv A' outer s H vs Q E hr h=>?_)
 ·obtain ⟨p,ca,calls,n,m,rfl,_⟩:=h
  rfl
 ·obtain ⟨p,ca,calls,n,m,rfl,R,hm,q⟩:=h
  obtain ⟨⟨dx,h1⟩,h2,hle⟩:=R
  refine ⟨_,pss_cons (ps_set (i:=2) scTN.nd rfl (Or.inl rfl) (pe_fld (pv 0) rfl))
   (pss_cons (ps_fldaug (pv 0) (pv 1) in_add)
   (pss_one (ps_ret (pe_slice sl_list (pe_fld (pv 0) rfl) (po_some (pv 2)) (po_some (pe_fld (pv 0) rfl)))))),?_⟩
  refine ⟨_,rfl,p,_,dx,_,_,rfl,h1,T.lCallReader,T.nCallReader_place,fCallReader_place,?_⟩
  refine ⟨_,rfl,p,_,dx,_,_,rfl,h1,T.lCallReader,T.nCallReader_place,fCallReader_place,_,rfl,_,_,rfl,rfl,dx,_,h1,(by show 2<1000;decide),?_⟩
  rw [fCallReader_put_place]
  have k1:Kept p H (upd H p (.ins A.cCallReader dx (fCallReader (.ref ca) (.int ((n:Int)+(m:Int)))))):=Kept.upd
  have p1:(upd H p (.ins A.cCallReader dx (fCallReader (.ref ca) (.int ((n:Int)+(m:Int)))))) p=some (.ins A.cCallReader dx (fCallReader (.ref ca) (.int ((n:Int)+(m:Int))))):=upd_same
  generalize hH1:upd H p (.ins A.cCallReader dx (fCallReader (.ref ca) (.int ((n:Int)+(m:Int)))))=H1 at k1 p1
  have l1:=LsAt.kept k1 h1 h2
  refine ⟨_,rfl,p,_,dx,_,_,rfl,p1,T.lCallReader,T.nCallReader_calls,fCallReader_calls,_,rfl,_,rfl,_,rfl,p,_,dx,_,_,rfl,p1,T.lCallReader,T.nCallReader_place,fCallReader_place,_,rfl,ca,_,rfl,l1,fun b hb=>?_⟩
  have s2:=Same.upd (o:=.lst (cutV (calls.map V.int) (some (n:Int)) (some ((n:Int)+(m:Int))))) hb
  refine q _ b ⟨⟨dx,s2 _ _ p1⟩,LsAt.same s2 l1,hm⟩ (k1.trans (Same.kept s2)) (k1.free p1 hb) ?_
  rw [upd_same,cut_mid (by rw [List.length_map];exact hm),←List.map_drop,←List.map_take]
end
end Lr
namespace Lr
open PySem PySem.Spec PyProof.Rows L2 LX
section
variable {P:Program} {w:World} {K:PySem.W.Frag} {mg:Str→Option Value} {base:Heap} {A:Ad}
def spEnd (A:Ad) (K:PySem.W.Frag):Sp:=fun vs H Q _=>∃(p ca:Addr) (calls:List Int) (n:Nat),vs= [.ref p]∧CrAt A K H p ca calls n∧Q (.bl (decide (n=calls.length))) H
theorem scEnd:FnScope ["self"] ["self"] (defScope sCallReaderIsAtEnd):=⟨rfl,rfl,rfl,by decide+kernel,rfl,by decide+kernel,by decide+kernel⟩
theorem okEnd {f:Addr} {fd:FuncData} (F:Fun K "is_at_end" "CallReader.is_at_end" sCallReaderIsAtEnd f fd) (T:Txt A K mg):FnOk P w K mg base CX0 1 f fd ["self"] (spEnd A K):=by
 refine F.ok scEnd (fun vs H Q E h=>?_) (fun cdv A' outer s H vs Q E hr h=>?_)
 ·obtain ⟨p,ca,calls,n,rfl,_⟩:=h
  rfl
 ·obtain ⟨p,ca,calls,n,rfl,R,q⟩:=h
  obtain ⟨⟨dx,h1⟩,h2,hle⟩:=R
  refine ⟨_,pss_one (ps_ret (pe_cmp (pc_eqI (pe_fld (pv 0) rfl) (pe_callB call_len_seq (by rfl) T.b_len PySem.boot_len (pa_cons (pe_fld (pv 0) rfl) pa_nil))))),?_⟩
  refine ⟨_,rfl,p,_,dx,_,_,rfl,h1,T.lCallReader,T.nCallReader_place,fCallReader_place,_,rfl,p,_,dx,_,_,rfl,h1,T.lCallReader,T.nCallReader_calls,fCallReader_calls,ca,_,rfl,.inl h2,?_⟩
  refine ⟨_,_,rfl,rfl,?_⟩
  have e:decide ((n:Int)=((calls.map V.int).length:Int))=decide (n=calls.length):=by
   rw [List.length_map]
   exact decide_eq_decide.mpr ⟨fun z=>by omega,fun z=>by omega⟩
  have q':Q (.bl (decide ((n:Int)=((calls.map V.int).length:Int)))) H:=by rw [e];exact q
  exact q'
def spT1 (A:Ad) (K:PySem.W.Frag):Sp:=fun vs H Q _=>∃(p ca:Addr) (calls:List Int) (n:Nat) (v:Int),vs= [.ref p]∧CrAt A K H p ca calls n∧calls[n]?=some v∧
 ∀(H':Hp),CrAt A K H' p ca calls (n+1)→Kept p H H'→Q (.int v) H'
theorem scT1:FnScope ["self"] ["self"] (defScope sCallReaderTakeNumber):=⟨rfl,rfl,rfl,by decide+kernel,rfl,by decide+kernel,by decide+kernel⟩
theorem okT1 {f fN:Addr} {fd fdN:FuncData} (F:Fun K "take_number" "CallReader.take_number" sCallReaderTakeNumber f fd) (T:Txt A K mg) (TN:Mt P w K mg base CX0 1 A.cCallReader "take_numbers" fN fdN ["self","how_many"] (spTN A K)):
  FnOk P w K mg base CX0 2 f fd ["self"] (spT1 A K):=by
 refine F.ok scT1 (fun vs H Q E h=>?_) (fun cdv A' outer s H vs Q E hr h=>?_)
 ·obtain ⟨p,ca,calls,n,v,rfl,_⟩:=h
  rfl
 ·obtain ⟨p,ca,calls,n,v,rfl,R,hv,q⟩:=h
  obtain ⟨dx,h1⟩:=R.obj
  have hlt:=(List.getElem?_eq_some_iff.mp hv).1
  refine ⟨_,pss_one (ps_ret (pe_ix ix_list (pe_meth (pv 0) T.lCallReader TN.m TN.ok hr TN.b .nil pass0 (pa_cons pe_int pa_nil)) pe_int (fun _ _=>rfl))),?_⟩
  refine ⟨_,rfl,p,dx,_,rfl,h1,fCallReader_no_take_numbers,p,ca,calls,n,1,rfl,R,hlt,fun H' b R' k' n' hb=>?_⟩
  refine ⟨b,_,_,_,rfl,rfl,SqL.of hb,at_of (j:=0) rfl ?_,q H' R' k'⟩
  rw [List.getElem?_map,List.getElem?_take_of_lt (by decide),List.getElem?_drop,Nat.add_zero,hv]
  rfl
def spRow (A:Ad) (K:PySem.W.Frag):Sp:=fun vs H Q _=>∃(p ca:Addr) (calls:List Int) (n m:Nat),vs= [.ref p]∧CrAt A K H p ca calls n∧calls[n]?=some (m:Int)∧n+1+m≤calls.length∧
 ∀(H':Hp) (b:Addr),CrAt A K H' p ca calls (n+1+m)→Kept p H H'→H b=none→H' b=some (.lst (((calls.drop (n+1)).take m).map V.int))→Q (.ref b) H'
theorem scRow:FnScope ["self"] ["self"] (defScope sCallReaderTakeRow):=⟨rfl,rfl,rfl,by decide+kernel,rfl,by decide+kernel,by decide+kernel⟩
theorem okRow {f fN f1:Addr} {fd fdN fd1:FuncData} (F:Fun K "take_row" "CallReader.take_row" sCallReaderTakeRow f fd) (T:Txt A K mg) (TN:Mt P w K mg base CX0 1 A.cCallReader "take_numbers" fN fdN ["self","how_many"] (spTN A K))
  (T1:Mt P w K mg base CX0 2 A.cCallReader "take_number" f1 fd1 ["self"] (spT1 A K)):FnOk P w K mg base CX0 3 f fd ["self"] (spRow A K):=by
 refine F.ok scRow (fun vs H Q E h=>?_) (fun cdv A' outer s H vs Q E hr h=>?_)
 ·obtain ⟨p,ca,calls,n,m,rfl,_⟩:=h
  rfl
 ·obtain ⟨p,ca,calls,n,m,rfl,R,hv,hm,q⟩:=h
  have hr1:Room 1 _:=hr.mono (by decide)
  obtain ⟨dx,h1⟩:=R.obj
  refine ⟨_,pss_one (ps_ret (pe_meth (pv 0) T.lCallReader TN.m TN.ok hr1 TN.b .nil pass0 (pa_cons (pe_meth0 (pv 0) T.lCallReader T1.m T1.ok hr T1.b .nil pass0) pa_nil))),?_⟩
  refine ⟨_,rfl,p,dx,_,rfl,h1,fCallReader_no_take_numbers,_,rfl,p,dx,_,rfl,h1,fCallReader_no_take_number,p,ca,calls,n,_,rfl,R,hv,fun H1 R1 k1=>?_⟩
  obtain ⟨dx1,g1⟩:=R1.obj
  refine ⟨p,ca,calls,n+1,m,rfl,R1,hm,fun H2 b R2 k2 n2 hb=>q H2 b R2 (k1.trans k2) (k1.free g1 n2) hb⟩
end
end Lr
namespace Lr
open PySem PySem.Spec PyProof.Rows L2 LX
open Vaglrl (Costs Text Cell Change)
open Vaglrc (Sym Rule Grammar)
structure Dis (A:Ad):Prop where
 h:A.cHeld≠A.cGrammar∧A.cHeld≠A.cRule∧A.cHeld≠A.cCosts∧A.cHeld≠A.cCells∧A.cHeld≠A.cCell
 r:A.cCallReader≠A.cGrammar∧A.cCallReader≠A.cRule∧A.cCallReader≠A.cCosts∧A.cCallReader≠A.cCells∧A.cCallReader≠A.cCell
def Cln (A:Ad) (o:HO):Prop:=(∀C dx fs,o=.ins C dx fs→C≠A.cHeld∧C≠A.cCallReader)∧∀ob u,o≠.frz ob u
def Off (A:Ad) (H H':Hp):Prop:=∀b o,H b=some o→Cln A o→H' b=some o
theorem Off.trans {A:Ad} {H H1 H2:Hp} (a:Off A H H1) (b:Off A H1 H2):Off A H H2:=fun c o e k=>b c o (a c o e k) k
theorem Same.off {A:Ad} {H H':Hp} (s:Same H H'):Off A H H':=fun b o e _=>s b o e
theorem cln_lst {A:Ad} {xs:List V}:Cln A (.lst xs):=⟨(fun _ _ _ h=>nomatch h),fun _ _ h=>nomatch h⟩
theorem cln_tup {A:Ad} {xs:List V}:Cln A (.tup xs):=⟨(fun _ _ _ h=>nomatch h),fun _ _ h=>nomatch h⟩
theorem cln_dT {A:Ad} {xs:List (List Key×V)}:Cln A (.dT xs):=⟨(fun _ _ _ h=>nomatch h),fun _ _ h=>nomatch h⟩
theorem cln_ins {A:Ad} {C dx:Addr} {fs:List (Str×V)} (h1:A.cHeld≠C) (h2:A.cCallReader≠C):Cln A (.ins C dx fs):=⟨(fun _ _ _ h=>by cases h;exact ⟨Ne.symm h1,Ne.symm h2⟩),fun _ _ h=>nomatch h⟩
theorem Kept.off {A:Ad} {H H':Hp} {p C dx:Addr} {fs:List (Str×V)} (k:Kept p H H') (hp:H p=some (.ins C dx fs)) (hC:C=A.cHeld∨C=A.cCallReader):Off A H H':=fun b o e c=>k b o e fun z=>by
 rw [z,hp] at e
 cases e
 obtain ⟨z1,z2⟩:=c.1 C dx fs rfl
 exact hC.elim z1 z2
section
variable {A:Ad} {H H':Hp} {a:Addr}
theorem TextAt.off {x:Text} (f:Off A H H') (h:TextAt H a x):TextAt H' a x:=f _ _ h cln_lst
theorem CostsAt.off {k:Costs} (d:Dis A) (f:Off A H H') (h:CostsAt A H a k):CostsAt A H' a k:=let ⟨dx,h⟩:=h;⟨dx,f _ _ h (cln_ins d.h.2.2.1 d.r.2.2.1)⟩
theorem SymsAt.off {qs:List Addr} {l:List Sym} (f:Off A H H') (h:SymsAt H a qs l):SymsAt H' a qs l:=⟨f _ _ h.lst cln_lst,h.len,fun i q y h1 h2=>f _ _ (h.at_ i q y h1 h2) cln_tup⟩
theorem RuleAt.off {r:Rule} (d:Dis A) (f:Off A H H') (h:RuleAt A H a r):RuleAt A H' a r:=let ⟨dx,sa,qs,h1,h2⟩:=h;⟨dx,sa,qs,f _ _ h1 (cln_ins d.h.2.1 d.r.2.1),h2.off f⟩
theorem GramAt.off {g:Grammar} (d:Dis A) (f:Off A H H') (h:GramAt A H a g):GramAt A H' a g:=
 let ⟨dx,ra,ps,h1,h2⟩:=h;⟨dx,ra,ps,f _ _ h1 (cln_ins d.h.1 d.r.1),f _ _ h2.lst cln_lst,h2.len,fun i p r z1 z2=>(h2.at_ i p r z1 z2).off d f⟩
def Clean (A:Ad) (H0:Hp):Prop:=∀b o,H0 b=some o→Cln A o
theorem CellsSt.off {H0:Hp} {cp tb fo:Addr} {g:Grammar} {k:Costs} {x:Text} {M:CMap} {kvs:List (List Key×V)} {es:List Ent} (d:Dis A) (c0:Clean A H0) (f:Off A H H') (c:CellsSt A H0 H cp g k x M tb fo kvs es):CellsSt A H0 H' cp g k x M tb fo kvs es:=by
 refine ⟨fun b o e=>f b o (c.same b o e) (c0 b o e),?_,⟨f _ _ c.found.dict cln_dT,c.found.nd,c.found.keys,c.found.no,fun a i j e h1 h2=>?_⟩,⟨f _ _ c.tbs.dict cln_dT,c.tbs.syms,fun e he=>?_,c.tbs.nd,c.tbs.new⟩,c.nons,c.syms,c.fo0,c.ft⟩
 ·obtain ⟨dx,ga,la,ca,h,r⟩:=c.obj
  exact ⟨dx,ga,la,ca,f _ _ h (cln_ins d.h.2.2.2.1 d.r.2.2.2.1),r⟩
 ·obtain ⟨ca,z1,dx,ea,z2,z3,z4⟩:=c.found.yes a i j e h1 h2
  exact ⟨ca,z1,dx,ea,f _ _ z2 (cln_ins d.h.2.2.2.2 d.r.2.2.2.2),f _ _ z3 cln_lst,z4⟩
 ·have te:=c.tbs.tabs e he
  exact ⟨f _ _ te.lst cln_lst,te.len,fun i r h=>f _ _ (te.row i r h) cln_lst⟩
open Classical in
noncomputable def cleanOf (A:Ad) (H:Hp):Hp:=fun b=>match H b with
 |some o=>if Cln A o then some o else none
 |none=>none
theorem cleanOf_some {b:Addr} {o:HO} (h:cleanOf A H b=some o):H b=some o∧Cln A o:=by
 unfold cleanOf at h
 split at h
 ·rename_i u e
  split at h
  ·rename_i c
   cases h
   exact ⟨e,c⟩
  ·cases h
 ·cases h
theorem cleanOf_is {b:Addr} {o:HO} (h:H b=some o) (c:Cln A o):cleanOf A H b=some o:=by
 unfold cleanOf
 rw [h]
 exact if_pos c
theorem cleanOf_clean:Clean A (cleanOf A H):=fun b o h=>(cleanOf_some h).2
theorem cleanOf_off:Off A H (cleanOf A H):=fun b o e c=>cleanOf_is e c
theorem cleanOf_none {b:Addr} (h:H b=none):cleanOf A H b=none:=by
 unfold cleanOf
 rw [h]
theorem CellsSt.clean {H0:Hp} {cp tb fo:Addr} {g:Grammar} {k:Costs} {x:Text} {M:CMap} {kvs:List (List Key×V)} {es:List Ent} (d:Dis A) (c:CellsSt A H0 H cp g k x M tb fo kvs es):CellsSt A (cleanOf A H0) H cp g k x M tb fo kvs es:=by
 refine ⟨fun b o e=>c.same b o (cleanOf_some e).1,?_,c.found,⟨c.tbs.dict,c.tbs.syms,c.tbs.tabs,c.tbs.nd,fun b hb=>cleanOf_none (c.tbs.new b hb)⟩,c.nons,c.syms,cleanOf_none c.fo0,c.ft⟩
 obtain ⟨dx,ga,la,ca,h,r1,r2,r3⟩:=c.obj
 exact ⟨dx,ga,la,ca,h,r1.off d cleanOf_off,r2.off cleanOf_off,r3.off d cleanOf_off⟩
end
structure HeldSt (A:Ad) (H:Hp) (hp:Addr) (st:Vaglrl.State):Prop where
 go:Vm.GOk st.grammar
 ok:Vm.CostsOk st.costs
 short:st.text.length≤12
 obj:∃dx ga ca la cv,H hp=some (.ins A.cHeld dx (fHeld (.ref ga) (.ref ca) (.ref la) cv))∧GramAt A H ga st.grammar∧CostsAt A H ca st.costs∧TextAt H la st.text∧
  (cv=.non∨∃(cp tb fo:Addr) (H0:Hp) (kvs:List (List Key×V)) (es:List Ent),cv=.ref cp∧Clean A H0∧CellsSt A H0 H cp st.grammar st.costs st.text (specM st.grammar st.costs st.text) tb fo kvs es)
theorem HeldSt.off {A:Ad} {H H':Hp} {hp:Addr} {st:Vaglrl.State} (d:Dis A) (f:Off A H H') (hh:H' hp=H hp) (h:HeldSt A H hp st):HeldSt A H' hp st:=by
 obtain ⟨dx,ga,ca,la,cv,h1,h2,h3,h4,h5⟩:=h.obj
 refine ⟨h.go,h.ok,h.short,dx,ga,ca,la,cv,by rw [hh];exact h1,h2.off d f,h3.off d f,h4.off f,?_⟩
 rcases h5 with z|⟨cp,tb,fo,H0,kvs,es,e,c0,c⟩
 ·exact .inl z
 ·exact .inr ⟨cp,tb,fo,H0,kvs,es,e,c0,c.off d c0 f⟩
theorem HeldSt.same {A:Ad} {H H':Hp} {hp:Addr} {st:Vaglrl.State} (d:Dis A) (s:Same H H') (h:HeldSt A H hp st):HeldSt A H' hp st:=by
 refine h.off d (Same.off s) ?_
 obtain ⟨dx,ga,ca,la,cv,h1,_⟩:=h.obj
 rw [h1,s _ _ h1]
end Lr
namespace Lr
open PySem PySem.Spec PyProof.Rows L2 LX
open Vaglrl (Costs Text Cell Change)
open Vaglrc (Sym Rule Grammar)
section
variable {P:Program} {w:World} {K:PySem.W.Frag} {mg:Str→Option Value} {base:Heap} {A:Ad}
def spCO (A:Ad):Sp:=fun vs H Q _=>∃(hp:Addr) (st:Vaglrl.State),vs= [.ref hp]∧HeldSt A H hp st∧
 ∀(H':Hp) (cp tb fo:Addr) (H0:Hp) (kvs:List (List Key×V)) (es:List Ent),HeldSt A H' hp st→Kept hp H H'→Clean A H0→CellsSt A H0 H' cp st.grammar st.costs st.text (specM st.grammar st.costs st.text) tb fo kvs es→Q (.ref cp) H'
theorem scCO:FnScope ["held"] ["held"] (defScope sCellsOf):=⟨rfl,rfl,rfl,by decide+kernel,rfl,by decide+kernel,by decide+kernel⟩
theorem okCO {f fF:Addr} {fd fdF:FuncData} (F:Fun K "cells_of" "cells_of" sCellsOf f fd) (T:Txt A K mg) (D:Dis A) (FC:Cl P w K mg base CX0 7 "find_cells" fF fdF ["grammar","letters","costs"] (spFC A)):
  FnOk P w K mg base CX0 8 f fd ["held"] (spCO A):=by
 refine F.ok scCO (fun vs H Q E h=>?_) (fun cdv A' outer s H vs Q E hr h=>?_)
 ·obtain ⟨hp,st,rfl,_⟩:=h
  rfl
 ·obtain ⟨hp,st,rfl,HS,q⟩:=h
  obtain ⟨dx,ga,ca,la,cv,h1,h2,h3,h4,h5⟩:=HS.obj
  refine ⟨_,pss_cons (ps_if (pt_cmp (pc_isN (pe_fld (pv 0) rfl))) (pss_one (ps_fld (pv 0) (pe_call FC.ok hr rfl FC.m FC.kp FC.b .nil pass0 (pa_cons (pe_fld (pv 0) rfl) (pa_cons (pe_fld (pv 0) rfl) (pa_cons (pe_fld (pv 0) rfl) pa_nil)))) rfl)) pss_nil)
   (pss_one (ps_ret (pe_fld (pv 0) rfl))),?_⟩
  rcases h5 with rfl|⟨cp,tb,fo,H0,kvs,es,rfl,c0,c⟩
  ·refine ⟨_,rfl,hp,_,dx,_,_,rfl,h1,T.lHeld,T.nHeld_cells,fHeld_cells,_,rfl,iteD (fun _=>?_) (fun z=>absurd rfl z)⟩
   refine ⟨_,rfl,hp,_,dx,_,_,rfl,h1,T.lHeld,T.nHeld_grammar,fHeld_grammar,_,rfl,hp,_,dx,_,_,rfl,h1,T.lHeld,T.nHeld_letters,fHeld_letters,_,rfl,hp,_,dx,_,_,rfl,h1,T.lHeld,T.nHeld_costs,fHeld_costs,
    ga,la,ca,st.grammar,st.costs,st.text,rfl,h2,HS.go,h4,h3,HS.ok,HS.short,fun H1 cp tb fo kvs es C1 n1=>?_⟩
   have hp1:=C1.same _ _ h1
   have k1:Kept hp H1 (upd H1 hp (.ins A.cHeld dx (fHeld (.ref ga) (.ref ca) (.ref la) (.ref cp)))):=Kept.upd
   have hp2:(upd H1 hp (.ins A.cHeld dx (fHeld (.ref ga) (.ref ca) (.ref la) (.ref cp)))) hp=some (.ins A.cHeld dx (fHeld (.ref ga) (.ref ca) (.ref la) (.ref cp))):=upd_same
   refine ⟨_,rfl,hp,_,dx,_,rfl,hp1,T.lHeld,T.nHeld_cells,(by show 4<1000;decide),?_⟩
   rw [fHeld_put_cells]
   generalize hH2:upd H1 hp (.ins A.cHeld dx (fHeld (.ref ga) (.ref ca) (.ref la) (.ref cp)))=H2 at k1 hp2
   have f1:Off A H1 H2:=Kept.off k1 hp1 (.inl rfl)
   have fa:Off A H H2:=(Same.off C1.same).trans f1
   have C2:=(C1.clean D).off D cleanOf_clean f1
   refine ⟨_,rfl,hp,_,dx,_,_,rfl,hp2,T.lHeld,T.nHeld_cells,fHeld_cells,q H2 cp tb fo _ kvs es ⟨HS.go,HS.ok,HS.short,dx,ga,ca,la,_,hp2,h2.off D fa,h3.off D fa,h4.off fa,.inr ⟨cp,tb,fo,_,kvs,es,rfl,cleanOf_clean,C2⟩⟩ ((Same.kept C1.same).trans k1) cleanOf_clean C2⟩
  ·refine ⟨_,rfl,hp,_,dx,_,_,rfl,h1,T.lHeld,T.nHeld_cells,fHeld_cells,_,rfl,iteD (fun z=>nomatch z) (fun _=>?_)⟩
   exact ⟨_,rfl,hp,_,dx,_,_,rfl,h1,T.lHeld,T.nHeld_cells,fHeld_cells,q H cp tb fo H0 kvs es HS (Kept.refl _ _) c0 c⟩
def spWC (A:Ad):Sp:=fun vs H Q _=>∃(hp:Addr) (st:Vaglrl.State),vs= [.ref hp]∧HeldSt A H hp st∧
 (specM st.grammar st.costs st.text 0 0 st.text.length=none→∀H',HeldSt A H' hp st→Kept hp H H'→Q .non H')∧
 ∀c,specM st.grammar st.costs st.text 0 0 st.text.length=some c→∀(H':Hp) (ca dx ea:Addr),HeldSt A H' hp st→Kept hp H H'→H' ca=some (.ins A.cCell dx (fCell (vN c.cost) (vN c.rule) (.ref ea)))→Q (.ref ca) H'
theorem scWC:FnScope ["held"] ["held"] (defScope sWholeCell):=⟨rfl,rfl,rfl,by decide+kernel,rfl,by decide+kernel,by decide+kernel⟩
theorem okWC {f fO fA:Addr} {fd fdO fdA:FuncData} (F:Fun K "whole_cell" "whole_cell" sWholeCell f fd) (T:Txt A K mg) (D:Dis A) (CO:Cl P w K mg base CX0 8 "cells_of" fO fdO ["held"] (spCO A))
  (AT:Mt P w K mg base CX0 1 A.cCells "at" fA fdA ["self","nonterminal","i","j"] (spAt A)):FnOk P w K mg base CX0 9 f fd ["held"] (spWC A):=by
 obtain ⟨t0,kS⟩:=T.kSTART
 refine F.ok scWC (fun vs H Q E h=>?_) (fun cdv A' outer s H vs Q E hr h=>?_)
 ·obtain ⟨hp,st,rfl,_⟩:=h
  rfl
 ·obtain ⟨hp,st,rfl,HS,q1,q2⟩:=h
  have hr1:Room 1 _:=hr.mono (by decide)
  refine ⟨_,pss_one (ps_ret (pe_meth (pe_call CO.ok hr rfl CO.m CO.kp CO.b .nil pass0 (pa_cons (pv 0) pa_nil)) T.lCells AT.m AT.ok hr1 AT.b .nil pass0 (pa_cons (pe_glob (v:=.int 0) rfl kS ⟨_,rfl⟩) (pa_cons pe_int (pa_cons (pe_callB call_len_seq (by rfl) T.b_len PySem.boot_len (pa_cons (pe_fld (pv 0) rfl) pa_nil)) pa_nil))))),?_⟩
  refine ⟨_,rfl,hp,st,rfl,HS,fun H1 cp tb fo H0 kvs es HS1 k1 c0 C1=>?_⟩
  obtain ⟨dxc,ga',la',ca',ho,_⟩:=C1.obj
  obtain ⟨dx,ga,ca,la,cv,h1,h2,h3,h4,h5⟩:=HS1.obj
  refine ⟨cp,dxc,_,rfl,ho,fCells_no_at,_,rfl,hp,_,dx,_,_,rfl,h1,T.lHeld,T.nHeld_letters,fHeld_letters,la,_,rfl,.inl (SqL.of h4),?_⟩
  refine ⟨H0,cp,tb,fo,st.grammar,st.costs,st.text,_,kvs,es,0,0,st.text.length,by rw [List.length_map];rfl,C1,⟨HS.go.n1,Nat.zero_le _,Nat.le_refl _⟩,fun e H2 s2=>?_,fun c e H2 cb hcb s2=>?_⟩
  ·exact q1 e H2 (HS1.same D s2) (k1.trans (Same.kept s2))
  ·obtain ⟨cdx,ea,z1,z2,z3⟩:=hcb
   exact q2 c e H2 cb cdx ea (HS1.same D s2) (k1.trans (Same.kept s2)) z1
end
end Lr
namespace Lr
open PySem PySem.Spec PyProof.Rows L2 LX
open Vaglrl (Costs Text Cell Change)
open Vaglrc (Sym Rule Grammar)
theorem toI_toNats {row:List Int} (h:∀v∈row,¬v<0):toI (Vaglrl.toNats row)=row:=by
 unfold toI Vaglrl.toNats
 rw [List.map_map]
 conv=>rhs;rw [←List.map_id row]
 apply List.map_congr_left
 intro v hv
 have:=h v hv
 show ((v.toNat:Nat):Int)=v
 omega
section
variable {P:Program} {w:World} {K:PySem.W.Frag} {mg:Str→Option Value} {base:Heap} {A:Ad}
def Ans (A:Ad) (hp:Addr) (H:Hp) (Q:VK) (y:Vaglrl.State×List Int):Prop:=∀(H':Hp) (b:Addr),HeldSt A H' hp y.1→Kept hp H H'→H b=none→y.2.length≤300→H' b=some (.lst (y.2.map V.int))→Q (.ref b) H'
theorem Ans.ret {hp:Addr} {H H1:Hp} {Q:VK} {st:Vaglrl.State} {out:List Int} {b:Addr} (q:Ans A hp H Q (st,out)) (D:Dis A) (k:Kept hp H H1) (hs:HeldSt A H1 hp st) (hl:out.length≤300) (hb:H1 b=none):Q (.ref b) (upd H1 b (.lst (out.map V.int))):=by
 obtain ⟨dx,ga,ca,la,cv,h1,_⟩:=hs.obj
 exact q _ b (hs.same D (Same.upd hb)) (k.trans (Same.kept (Same.upd hb))) (k.free h1 hb) hl upd_same
def spLoad (A:Ad):Sp:=fun vs H Q _=>∃(hp ra:Addr) (st:Vaglrl.State) (row:List Int),vs= [.ref hp,.ref ra]∧HeldSt A H hp st∧H ra=some (.lst (row.map V.int))∧row.length≤100000∧Ans A hp H Q (Vaglrl.loading st row)
abbrev nLd:List Str:= ["held","row","grammar","number"]
theorem scLd:FnScope nLd ["held","row"] (defScope sAnswerLoad):=⟨rfl,rfl,rfl,by decide+kernel,rfl,by decide+kernel,by decide+kernel⟩
theorem okLd {f fG:Addr} {fd fdG:FuncData} (F:Fun K "answer_load" "answer_load" sAnswerLoad f fd) (T:Txt A K mg) (D:Dis A) (RG:Cl P w K mg base (CXL P w) 4 "read_grammar" fG fdG ["row"] (spRG A)):
  FnOk P w K mg base CX0 5 f fd ["held","row"] (spLoad A):=by
 obtain ⟨t0,kN⟩:=T.kWRONG_NUMBER
 obtain ⟨t1,kR⟩:=T.kWRONG_ROW
 obtain ⟨t2,kD⟩:=T.kDONE
 refine F.ok scLd (fun vs H Q E h=>?_) (fun cdv A' outer s H vs Q E hr h=>?_)
 ·obtain ⟨hp,ra,st,row,rfl,_⟩:=h
  rfl
 ·obtain ⟨hp,ra,st,row,rfl,HS,hrow,hlen,q⟩:=h
  obtain ⟨dx,ga,ca,la,cv,h1,h2,h3,h4,h5⟩:=HS.obj
  refine ⟨_,pss_cons (ps_if (pt_val (pe_callB (cr_any rfl) (by rfl) T.b_any boot_any (pa_cons (pe_lc (own:= [("number",3)]) rfl scLd.nd (pi_list (pv 1)) (blkOk_by (by show blkC nLd (defScope sAnswerLoad) _ _=true;decide+kernel))
    (fun s H C cl fp=>pg_name (i:=3) scLd.nd rfl (Or.inl rfl)) (fun s H C cl fp=>pts_nil) (fun s H C cl fp=>pe_cmp (pc_lt (pv 3) pe_int))) pa_nil))) (pss_one (ps_ret (pe_lst (pa_cons (pe_glob (v:=.int (-1)) rfl kN ⟨_,rfl⟩) pa_nil)))) pss_nil)
   (pss_cons (ps_try (C:=A.cNoGrammarRow) rfl rfl rfl T.xNoGrammarRow rfl T.mNoGrammarRow
    (fun pn E' E px=>pss_one (ps_set (i:=2) scLd.nd rfl (Or.inl rfl) (pe_call RG.ok hr rfl RG.m RG.kp RG.b .nil px.passes (pa_cons (pv 1) pa_nil))))
    (fun A'=>pss_one (ps_ret (pe_lst (pa_cons (pe_glob (v:=.int (-2)) rfl kR ⟨_,rfl⟩) pa_nil)))))
   (pss_cons (ps_fld (pv 0) (pv 2) rfl) (pss_cons (ps_fld (pv 0) pe_non rfl)
   (pss_one (ps_ret (pe_lst (pa_cons (pe_glob (v:=.int 0) rfl kD ⟨_,rfl⟩) pa_nil))))))),?_⟩
  refine ⟨_,rfl,ra,rfl,⟨_,SqL.of hrow⟩,fun L hL=>lc_list (K:=K) (a:=ra) (xs:=row.map V.int) (fun i H'=>Same H H'∧H' L=some (.lst (((row.take i).map fun v=>decide (v<0)).map V.bl))) ⟨Same.upd hL,upd_same⟩ (fun i H' _ h=>SqL.of (h.1 _ _ hrow)) ?_ ?_⟩
  ·rintro i v H' hv ⟨s1,l1⟩
   obtain ⟨u,hu,rfl⟩:=getI hv
   have hi:=(List.getElem?_eq_some_iff.mp hu).1
   refine ⟨rfl,tyes ⟨_,rfl,_,_,rfl,rfl,_,l1,Nat.lt_of_lt_of_le (Nat.lt_succ_of_le (by rw [List.length_map,List.length_map,List.length_take];exact Nat.min_le_left _ _)) (size_ok (by omega)),fun b o e=>?_,?_⟩⟩
   ·rw [upd_ne (ne_of_none e hL)]
    exact s1 _ _ e
   ·rw [upd_same,List.take_succ,hu]
    simp
  ·rintro H1 ⟨s1,l1⟩
   rw [List.length_map,List.take_length] at l1
   have HS1:=HS.same D s1
   have an:((row.map fun v=>decide (v<0)).any id)=row.any fun n=>decide (n<0):=by rw [List.any_map];rfl
   refine ⟨L,_,rfl,SqL.of l1,_,rfl,iteB (fun hb=>?_) (fun hb=>?_)⟩
   ·rw [an] at hb
    have e:Vaglrl.loading st row=(st,[-1]):=by unfold Vaglrl.loading;rw [if_pos hb]
    rw [e] at q
    exact ⟨(by show 1≤sizeLine;decide),fun b hb=>q.ret D (Same.kept s1) HS1 (by decide) hb⟩
   ·rw [an] at hb
    have nn:∀v∈row,¬v<0:=fun v hv z=>by
     have:=(List.any_eq_true (p:=fun n=>decide (n<0))).mpr ⟨v,hv,decide_eq_true z⟩
     rw [hb] at this
     cases this
    have e:Vaglrl.loading st row=match rdGram row with
      |some g=>({st with grammar:=g},[0])
      |none=>(st,[-2]):=by
     unfold Vaglrl.loading
     rw [if_neg (by rw [hb];exact Bool.false_ne_true),←gram_read,toI_toNats nn]
     cases rdGram row<;>rfl
    rw [e] at q
    refine ⟨_,rfl,ra,row,rfl,s1 _ _ hrow,fun eg H2 s2=>⟨rfl,?_⟩,fun g eg H2 g2 hg2 s2 n2=>?_⟩
    ·rw [eg] at q
     exact ⟨(by show 1≤sizeLine;decide),fun b hb=>q.ret D (Same.kept (s1.trans s2)) (HS1.same D s2) (by decide) hb⟩
    ·rw [eg] at q
     have sA:=s1.trans s2
     have hp2:=sA _ _ h1
     refine ⟨_,rfl,_,rfl,hp,_,dx,_,rfl,hp2,T.lHeld,T.nHeld_grammar,(by show 4<1000;decide),?_⟩
     rw [fHeld_put_grammar]
     refine ⟨_,rfl,hp,_,dx,_,rfl,upd_same,T.lHeld,T.nHeld_cells,(by show 4<1000;decide),?_⟩
     rw [fHeld_put_cells]
     have k3:Kept hp H2 (upd (upd H2 hp (.ins A.cHeld dx (fHeld (.ref g2) (.ref ca) (.ref la) cv))) hp (.ins A.cHeld dx (fHeld (.ref g2) (.ref ca) (.ref la) .non))):=Kept.upd.trans Kept.upd
     have hp3:(upd (upd H2 hp (.ins A.cHeld dx (fHeld (.ref g2) (.ref ca) (.ref la) cv))) hp (.ins A.cHeld dx (fHeld (.ref g2) (.ref ca) (.ref la) .non))) hp=some (.ins A.cHeld dx (fHeld (.ref g2) (.ref ca) (.ref la) .non)):=upd_same
     generalize hH3:(upd (upd H2 hp (.ins A.cHeld dx (fHeld (.ref g2) (.ref ca) (.ref la) cv))) hp (.ins A.cHeld dx (fHeld (.ref g2) (.ref ca) (.ref la) .non)))=H3 at k3 hp3
     have f23:Off A H2 H3:=Kept.off k3 hp2 (.inl rfl)
     have f3:Off A H H3:=(Same.off sA).trans f23
     exact ⟨(by show 1≤sizeLine;decide),fun b hb=>q.ret D ((Same.kept sA).trans k3) ⟨gram_ok eg,HS.ok,HS.short,dx,g2,ca,la,.non,hp3,hg2.off D f23,h3.off D f3,h4.off f3,.inl rfl⟩ (by decide) hb⟩
end
end Lr
namespace Lr
open PySem PySem.Spec PyProof.Rows L2 LX
open Vaglrl (Costs Text Cell Change)
open Vaglrc (Sym Rule Grammar)
section
variable {P:Program} {w:World} {K:PySem.W.Frag} {mg:Str→Option Value} {base:Heap} {A:Ad}
def spLeast (A:Ad):Sp:=fun vs H Q _=>∃(hp:Addr) (st:Vaglrl.State),vs= [.ref hp]∧HeldSt A H hp st∧Ans A hp H Q (Vaglrl.step st .least)
theorem scLst:FnScope ["held","cell"] ["held"] (defScope sAnswerLeast):=⟨rfl,rfl,rfl,by decide+kernel,rfl,by decide+kernel,by decide+kernel⟩
theorem okLst {f fW:Addr} {fd fdW:FuncData} (F:Fun K "answer_least" "answer_least" sAnswerLeast f fd) (T:Txt A K mg) (D:Dis A) (WC:Cl P w K mg base CX0 9 "whole_cell" fW fdW ["held"] (spWC A)):
  FnOk P w K mg base CX0 10 f fd ["held"] (spLeast A):=by
 obtain ⟨t0,kN⟩:=T.kNONE_THERE
 obtain ⟨t2,kD⟩:=T.kDONE
 refine F.ok scLst (fun vs H Q E h=>?_) (fun cdv A' outer s H vs Q E hr h=>?_)
 ·obtain ⟨hp,st,rfl,_⟩:=h
  rfl
 ·obtain ⟨hp,st,rfl,HS,q⟩:=h
  refine ⟨_,pss_cons (ps_set (i:=1) scLst.nd rfl (Or.inl rfl) (pe_call WC.ok hr rfl WC.m WC.kp WC.b .nil pass0 (pa_cons (pv 0) pa_nil)))
   (pss_cons (ps_if (pt_cmp (pc_isN (pv 1))) (pss_one (ps_ret (pe_lst (pa_cons (pe_glob (v:=.int 1) rfl kN ⟨_,rfl⟩) pa_nil)))) pss_nil)
   (pss_one (ps_ret (pe_lst (pa_cons (pe_glob (v:=.int 0) rfl kD ⟨_,rfl⟩) (pa_cons (pe_fld (pv 1) rfl) pa_nil)))))),?_⟩
  refine ⟨_,rfl,hp,st,rfl,HS,fun e H1 HS1 k1=>?_,fun c e H1 ca dx ea HS1 k1 hc=>?_⟩
  ·refine ⟨_,rfl,_,rfl,iteD (fun _=>⟨(by show 1≤sizeLine;decide),fun b hb=>?_⟩) (fun z=>absurd rfl z)⟩
   have ql:Vaglrl.step st .least=(st,[1]):=by
    show (st,Vaglrl.onLeast st _)=_
    unfold Vaglrl.onLeast
    rw [show Vaglrl.cellAt (Vaglrl.tableOf st.grammar st.costs st.text) 0 0 st.text.length=none from e]
   rw [ql] at q
   exact q.ret D k1 HS1 (by decide) hb
  ·refine ⟨_,rfl,_,rfl,iteD (fun z=>nomatch z) (fun _=>⟨_,rfl,ca,_,dx,_,_,rfl,hc,T.lCell,T.nCell_cost,fCell_cost,(by show 2≤sizeLine;decide),fun b hb=>?_⟩)⟩
   have ql:Vaglrl.step st .least=(st,[0,(c.cost:Int)]):=by
    show (st,Vaglrl.onLeast st _)=_
    unfold Vaglrl.onLeast
    rw [show Vaglrl.cellAt (Vaglrl.tableOf st.grammar st.costs st.text) 0 0 st.text.length=some c from e]
   rw [ql] at q
   exact q.ret D k1 HS1 (by show 2≤300;decide) hb
def refV (row:List Int) (m:Nat):V:=if Vaglrl.badBytes row then .int (-1) else if m<row.length then .int (-3) else .non
def spRB:Sp:=fun vs H Q _=>∃(ra:Addr) (row:List Int) (m:Nat),vs= [.ref ra,vN m]∧H ra=some (.lst (row.map V.int))∧row.length≤100000∧∀H',Same H H'→Q (refV row m) H'
abbrev nRB:List Str:= ["row","most","number"]
theorem scRB:FnScope nRB ["row","most"] (defScope sRefusalOfBytes):=⟨rfl,rfl,rfl,by decide+kernel,rfl,by decide+kernel,by decide+kernel⟩
theorem okRB {f:Addr} {fd:FuncData} (F:Fun K "refusal_of_bytes" "refusal_of_bytes" sRefusalOfBytes f fd) (T:Txt A K mg):FnOk P w K mg base CX0 1 f fd ["row","most"] spRB:=by
 obtain ⟨t0,kN⟩:=T.kWRONG_NUMBER
 obtain ⟨t1,kM⟩:=T.kTOO_MANY
 obtain ⟨t3,kB⟩:=T.kHIGHEST_BYTE
 refine F.ok scRB (fun vs H Q E h=>?_) (fun cdv A' outer s H vs Q E hr h=>?_)
 ·obtain ⟨ra,row,m,rfl,_⟩:=h
  rfl
 ·obtain ⟨ra,row,m,rfl,hrow,hlen,q⟩:=h
  refine ⟨_,pss_cons (ps_if (pt_val (pe_callB (cr_any rfl) (by rfl) T.b_any boot_any (pa_cons (pe_lc (own:= [("number",2)]) rfl scRB.nd (pi_list (pv 0)) (blkOk_by (by show blkC nRB (defScope sRefusalOfBytes) _ _=true;decide+kernel))
    (fun s H C cl fp=>pg_name (i:=2) scRB.nd rfl (Or.inl rfl)) (fun s H C cl fp=>pts_nil) (fun s H C cl fp=>pe_or (pe_cmp (pc_lt (pv 2) pe_int)) (pe_one (pe_cmp (pc_gt (pv 2) (pe_glob (v:=.int 255) rfl kB ⟨_,rfl⟩)))))) pa_nil))) (pss_one (ps_ret (pe_glob (v:=.int (-1)) rfl kN ⟨_,rfl⟩))) pss_nil)
   (pss_cons (ps_if (pt_cmpR op_gt (pe_callB call_len_seq (by rfl) T.b_len PySem.boot_len (pa_cons (pv 0) pa_nil)) (pv 1) (nomark _)) (pss_one (ps_ret (pe_glob (v:=.int (-3)) rfl kM ⟨_,rfl⟩))) pss_nil)
   (pss_one (ps_ret pe_non))),?_⟩
  refine ⟨_,rfl,ra,rfl,⟨_,SqL.of hrow⟩,fun L hL=>lc_list (K:=K) (a:=ra) (xs:=row.map V.int) (fun i H'=>Same H H'∧H' L=some (.lst (((row.take i).map fun v=>decide (v<0)||decide (255<v)).map V.bl))) ⟨Same.upd hL,upd_same⟩ (fun i H' _ h=>SqL.of (h.1 _ _ hrow)) ?_ ?_⟩
  ·rintro i v H' hv ⟨s1,l1⟩
   obtain ⟨u,hu,rfl⟩:=getI hv
   have hi:=(List.getElem?_eq_some_iff.mp hu).1
   have sz:(((row.take i).map fun v=>decide (v<0)||decide (255<v)).map V.bl).length<sizeLine:=Nat.lt_of_lt_of_le (Nat.lt_succ_of_le (by rw [List.length_map,List.length_map,List.length_take];exact Nat.min_le_left _ _)) (size_ok (by omega))
   have fin:∀c:Bool,c=(decide (u<0)||decide (255<u))→Same H (upd H' L (.lst ((((row.take i).map fun v=>decide (v<0)||decide (255<v)).map V.bl)++ [.bl c])))∧(upd H' L (.lst ((((row.take i).map fun v=>decide (v<0)||decide (255<v)).map V.bl)++ [.bl c]))) L=some (.lst (((row.take (i+1)).map fun v=>decide (v<0)||decide (255<v)).map V.bl)):=by
    rintro c rfl
    refine ⟨fun b o e=>?_,?_⟩
    ·rw [upd_ne (ne_of_none e hL)]
     exact s1 _ _ e
    ·rw [upd_same,List.take_succ,hu]
     simp
   refine ⟨rfl,tyes ⟨_,rfl,_,_,rfl,rfl,_,rfl,iteB (fun hb=>?_) (fun hb=>?_)⟩⟩
   ·have hb:decide (u<0)=true:=hb
    exact ⟨_,l1,sz,fin true (by rw [hb];rfl)⟩
   ·have hb:decide (u<0)=false:=hb
    exact ⟨_,rfl,_,_,rfl,rfl,_,l1,sz,fin (decide (255<u)) (by rw [hb];rfl)⟩
  ·rintro H1 ⟨s1,l1⟩
   rw [List.length_map,List.take_length] at l1
   have an:((row.map fun v=>decide (v<0)||decide (255<v)).any id)=Vaglrl.badBytes row:=by rw [List.any_map];rfl
   have q:=q H1 s1
   unfold refV at q
   refine ⟨L,_,rfl,SqL.of l1,_,rfl,iteB (fun hb=>?_) (fun hb=>?_)⟩
   ·rw [an] at hb
    rw [if_pos hb] at q
    exact q
   ·rw [an] at hb
    rw [if_neg (by rw [hb];exact Bool.false_ne_true)] at q
    refine ⟨_,rfl,ra,_,rfl,.inl (SqL.of (s1 _ _ hrow)),_,rfl,_,_,rfl,rfl,_,rfl,iteD (fun e=>?_) (fun e=>?_)⟩
    ·rw [List.length_map] at e
     rw [if_pos (by omega)] at q
     exact q
    ·rw [List.length_map] at e
     rw [if_neg (by omega)] at q
     exact q
def spHT (A:Ad):Sp:=fun vs H Q _=>∃(hp ra:Addr) (st:Vaglrl.State) (x:Text),vs= [.ref hp,.ref ra]∧HeldSt A H hp st∧TextAt H ra x∧x.length≤12∧∀H',HeldSt A H' hp {st with text:=x}→Kept hp H H'→Q .non H'
theorem scHT:FnScope ["held","letters"] ["held","letters"] (defScope sHoldText):=⟨rfl,rfl,rfl,by decide+kernel,rfl,by decide+kernel,by decide+kernel⟩
theorem okHT {f:Addr} {fd:FuncData} (F:Fun K "hold_text" "hold_text" sHoldText f fd) (T:Txt A K mg) (D:Dis A):FnOk P w K mg base CX0 1 f fd ["held","letters"] (spHT A):=by
 refine F.ok scHT (fun vs H Q E h=>?_) (fun cdv A' outer s H vs Q E hr h=>?_)
 ·obtain ⟨hp,ra,st,x,rfl,_⟩:=h
  rfl
 ·obtain ⟨hp,ra,st,x,rfl,HS,tx,hx,q⟩:=h
  obtain ⟨dx,ga,ca,la,cv,h1,h2,h3,h4,h5⟩:=HS.obj
  refine ⟨_,pss_cons (ps_fld (pv 0) (pv 1) rfl) (pss_one (ps_fld (pv 0) pe_non rfl)),?_⟩
  refine ⟨_,rfl,_,rfl,hp,_,dx,_,rfl,h1,T.lHeld,T.nHeld_letters,(by show 4<1000;decide),?_⟩
  rw [fHeld_put_letters]
  refine ⟨_,rfl,hp,_,dx,_,rfl,upd_same,T.lHeld,T.nHeld_cells,(by show 4<1000;decide),?_⟩
  rw [fHeld_put_cells]
  have k3:Kept hp H (upd (upd H hp (.ins A.cHeld dx (fHeld (.ref ga) (.ref ca) (.ref ra) cv))) hp (.ins A.cHeld dx (fHeld (.ref ga) (.ref ca) (.ref ra) .non))):=Kept.upd.trans Kept.upd
  have hp3:(upd (upd H hp (.ins A.cHeld dx (fHeld (.ref ga) (.ref ca) (.ref ra) cv))) hp (.ins A.cHeld dx (fHeld (.ref ga) (.ref ca) (.ref ra) .non))) hp=some (.ins A.cHeld dx (fHeld (.ref ga) (.ref ca) (.ref ra) .non)):=upd_same
  generalize hH3:(upd (upd H hp (.ins A.cHeld dx (fHeld (.ref ga) (.ref ca) (.ref ra) cv))) hp (.ins A.cHeld dx (fHeld (.ref ga) (.ref ca) (.ref ra) .non)))=H3 at k3 hp3
  have f3:Off A H H3:=Kept.off k3 h1 (.inl rfl)
  exact q H3 ⟨HS.go,HS.ok,hx,dx,ga,ca,ra,.non,hp3,h2.off D f3,h3.off D f3,tx.off f3,.inl rfl⟩ k3
theorem bad_no {row:List Int} (h:Vaglrl.badBytes row=false):∀v∈row,¬v<0:=fun v hv z=>by
 have:=(List.any_eq_true (p:=fun n:Int=>decide (n<0)||decide (255<n))).mpr ⟨v,hv,by rw [decide_eq_true z];rfl⟩
 unfold Vaglrl.badBytes at h
 rw [h] at this
 cases this
theorem text_of {H:Hp} {ra:Addr} {row:List Int} (hrow:H ra=some (.lst (row.map V.int))) (nn:∀v∈row,¬v<0):TextAt H ra (Vaglrl.toNats row):=by
 show H ra=some (.lst ((Vaglrl.toNats row).map vN))
 rw [hrow]
 conv=>lhs;rw [←toI_toNats nn]
 unfold toI
 rw [List.map_map]
 rfl
def spText (A:Ad):Sp:=fun vs H Q _=>∃(hp ra:Addr) (st:Vaglrl.State) (row:List Int),vs= [.ref hp,.ref ra]∧HeldSt A H hp st∧H ra=some (.lst (row.map V.int))∧row.length≤100000∧Ans A hp H Q (Vaglrl.step st (.text row))
theorem scTx:FnScope ["held","row","refusal"] ["held","row"] (defScope sAnswerText):=⟨rfl,rfl,rfl,by decide+kernel,rfl,by decide+kernel,by decide+kernel⟩
theorem okTx {f fB fH:Addr} {fd fdB fdH:FuncData} (F:Fun K "answer_text" "answer_text" sAnswerText f fd) (T:Txt A K mg) (D:Dis A) (RB:Cl P w K mg base CX0 1 "refusal_of_bytes" fB fdB ["row","most"] spRB)
  (HT:Cl P w K mg base CX0 1 "hold_text" fH fdH ["held","letters"] (spHT A)):FnOk P w K mg base CX0 2 f fd ["held","row"] (spText A):=by
 obtain ⟨t2,kD⟩:=T.kDONE
 obtain ⟨t4,kL⟩:=T.kMOST_LETTERS
 refine F.ok scTx (fun vs H Q E h=>?_) (fun cdv A' outer s H vs Q E hr h=>?_)
 ·obtain ⟨hp,ra,st,row,rfl,_⟩:=h
  rfl
 ·obtain ⟨hp,ra,st,row,rfl,HS,hrow,hlen,q⟩:=h
  refine ⟨_,pss_cons (ps_set (i:=2) scTx.nd rfl (Or.inl rfl) (pe_call RB.ok hr rfl RB.m RB.kp RB.b .nil pass0 (pa_cons (pv 1) (pa_cons (pe_glob (v:=.int 12) rfl kL ⟨_,rfl⟩) pa_nil))))
   (pss_cons (ps_if (pt_cmp (pc_notN (pv 2))) (pss_one (ps_ret (pe_lst (pa_cons (pv 2) pa_nil)))) pss_nil)
   (pss_cons (ps_expr (pe_call HT.ok hr rfl HT.m HT.kp HT.b .nil pass0 (pa_cons (pv 0) (pa_cons (pv 1) pa_nil))))
   (pss_one (ps_ret (pe_lst (pa_cons (pe_glob (v:=.int 0) rfl kD ⟨_,rfl⟩) pa_nil)))))),?_⟩
  refine ⟨_,rfl,ra,row,12,rfl,hrow,hlen,fun H1 s1=>?_⟩
  have HS1:=HS.same D s1
  have qe:Vaglrl.step st (.text row)=if Vaglrl.badBytes row then (st,[-1]) else if 12<row.length then (st,[-3]) else ({st with text:=Vaglrl.toNats row},[0]):=rfl
  rw [qe] at q
  unfold refV
  by_cases hb:Vaglrl.badBytes row=true
  ·rw [if_pos hb] at q ⊢
   refine ⟨_,rfl,_,rfl,iteB (fun _=>⟨_,rfl,(by show 1≤sizeLine;decide),fun b hb=>q.ret D (Same.kept s1) HS1 (by decide) hb⟩) (fun z=>nomatch z)⟩
  ·rw [if_neg hb] at q ⊢
   have nn:=bad_no (Bool.eq_false_iff.mpr hb)
   by_cases hm:12<row.length
   ·rw [if_pos hm] at q ⊢
    refine ⟨_,rfl,_,rfl,iteB (fun _=>⟨_,rfl,(by show 1≤sizeLine;decide),fun b hb=>q.ret D (Same.kept s1) HS1 (by decide) hb⟩) (fun z=>nomatch z)⟩
   ·rw [if_neg hm] at q ⊢
    refine ⟨_,rfl,_,rfl,iteB (fun z=>nomatch z) (fun _=>?_)⟩
    refine ⟨_,rfl,_,rfl,hp,ra,st,_,rfl,HS1,text_of (s1 _ _ hrow) nn,by unfold Vaglrl.toNats;rw [List.length_map];omega,fun H2 HS2 k2=>?_⟩
    exact ⟨(by show 1≤sizeLine;decide),fun b hb=>q.ret D ((Same.kept s1).trans k2) HS2 (by decide) hb⟩
end
end Lr
namespace Lr
open PySem PySem.Spec PyProof.Rows L2 LX
open Vaglrl (Costs Text Cell Change)
open Vaglrc (Sym Rule Grammar)
section
variable {P:Program} {w:World} {K:PySem.W.Frag} {mg:Str→Option Value} {base:Heap} {A:Ad}
def spCst (A:Ad):Sp:=fun vs H Q _=>∃(hp ra:Addr) (st:Vaglrl.State) (i d r:Int),vs= [.ref hp,.ref ra]∧HeldSt A H hp st∧H ra=some (.lst ([i,d,r].map V.int))∧Ans A hp H Q (Vaglrl.step st (.costs i d r))
theorem scCst:FnScope ["held","three"] ["held","three"] (defScope sAnswerCosts):=⟨rfl,rfl,rfl,by decide+kernel,rfl,by decide+kernel,by decide+kernel⟩
theorem okCst {f fC:Addr} {fd fdC:FuncData} (F:Fun K "answer_costs" "answer_costs" sAnswerCosts f fd) (T:Txt A K mg) (D:Dis A) (CI:Ne P w K mg base CX0 1 A.cCosts fC fdC ["self","putting","leaving","replacing"] (spCosts A)):
  FnOk P w K mg base CX0 3 f fd ["held","three"] (spCst A):=by
 obtain ⟨t0,kO⟩:=T.kOUT_OF_BOUNDS
 obtain ⟨t1,kL⟩:=T.kLOWEST_COST
 obtain ⟨t2,kD⟩:=T.kDONE
 obtain ⟨t3,kH⟩:=T.kHIGHEST_COST
 refine F.ok scCst (fun vs H Q E h=>?_) (fun cdv A' outer s H vs Q E hr h=>?_)
 ·obtain ⟨hp,ra,st,i,d,r,rfl,_⟩:=h
  rfl
 ·obtain ⟨hp,ra,st,i,d,r,rfl,HS,hrow,q⟩:=h
  obtain ⟨dx,ga,ca,la,cv,h1,h2,h3,h4,h5⟩:=HS.obj
  refine ⟨_,pss_cons (ps_if (PW.pt (pw_or (pt_cmpR op_lt (pe_callB (cr_min rfl) (by rfl) T.b_min boot_min (pa_cons (pv 1) pa_nil)) (pe_glob (v:=.int 1) rfl kL ⟨_,rfl⟩) (nomark _)) (pw_or1 (pt_cmpR op_gt (pe_callB (cr_max rfl) (by rfl) T.b_max boot_max (pa_cons (pv 1) pa_nil)) (pe_glob (v:=.int 9) rfl kH ⟨_,rfl⟩) (nomark _))))) (pss_one (ps_ret (pe_lst (pa_cons (pe_glob (v:=.int (-5)) rfl kO ⟨_,rfl⟩) pa_nil)))) pss_nil)
   (pss_cons (ps_fld (pv 0) (pe_make CI.m CI.ok hr rfl T.mCosts CI.b .nil pass0 (pa_cons (pe_ix ix_list (pv 1) pe_int (fun _ _=>rfl)) (pa_cons (pe_ix ix_list (pv 1) pe_int (fun _ _=>rfl)) (pa_cons (pe_ix ix_list (pv 1) pe_int (fun _ _=>rfl)) pa_nil)))) rfl)
   (pss_cons (ps_fld (pv 0) pe_non rfl)
   (pss_one (ps_ret (pe_lst (pa_cons (pe_glob (v:=.int 0) rfl kD ⟨_,rfl⟩) pa_nil)))))),?_⟩
  have bad:¬(1≤i∧i≤9∧1≤d∧d≤9∧1≤r∧r≤9)→Vaglrl.step st (.costs i d r)=(st,[-5]):=fun z=>by
   show (if Vaglrl.isCost i&&(Vaglrl.isCost d&&Vaglrl.isCost r) then _ else _)=_
   rw [if_neg]
   unfold Vaglrl.isCost
   simp
   omega
  have good:1≤i∧i≤9∧1≤d∧d≤9∧1≤r∧r≤9→Vaglrl.step st (.costs i d r)=({st with costs:={insert:=i.toNat,delete:=d.toNat,replace:=r.toNat}},[0]):=fun z=>by
   show (if Vaglrl.isCost i&&(Vaglrl.isCost d&&Vaglrl.isCost r) then _ else _)=_
   rw [if_pos]
   unfold Vaglrl.isCost
   simp
   omega
  refine ⟨_,rfl,ra,[i,d,r],rfl,SqL.of hrow,(by simp),fun v hv hle=>?_⟩
  have hv:v=i∨v=d∨v=r:=by simpa using hv
  have li:=hle i (by simp)
  have ld:=hle d (by simp)
  have lr:=hle r (by simp)
  have ret:∀H1:Hp,Same H H1→Vaglrl.step st (.costs i d r)=(st,[-5])→∀b,H1 b=none→Q (.ref b) (upd H1 b (.lst [.int (-5)])):=fun H1 s1 e b hb=>by
   rw [e] at q
   exact q.ret D (Same.kept s1) (HS.same D s1) (by decide) hb
  refine ⟨_,_,rfl,rfl,_,rfl,iteD (fun e=>iteT ⟨(by show 1≤sizeLine;decide),ret H (Same.refl _) (bad (by omega))⟩) (fun e=>?_)⟩
  refine ⟨_,rfl,ra,[i,d,r],rfl,SqL.of hrow,(by simp),fun v2 hv2 hle2=>?_⟩
  have hv2:v2=i∨v2=d∨v2=r:=by simpa using hv2
  have li2:=hle2 i (by simp)
  have ld2:=hle2 d (by simp)
  have lr2:=hle2 r (by simp)
  refine ⟨_,_,rfl,rfl,_,rfl,iteD (fun e2=>⟨(by show 1≤sizeLine;decide),ret H (Same.refl _) (bad (by omega))⟩) (fun e2=>?_)⟩
  have gd:1≤i∧i≤9∧1≤d∧d≤9∧1≤r∧r≤9:=by omega
  rw [good gd] at q
  refine ⟨_,rfl,ra,_,_,_,rfl,rfl,SqL.of hrow,at_of (j:=0) rfl rfl,_,rfl,ra,_,_,_,rfl,rfl,SqL.of hrow,at_of (j:=1) rfl rfl,_,rfl,ra,_,_,_,rfl,rfl,SqL.of hrow,at_of (j:=2) rfl rfl,?_⟩
  intro cx cdx n1 n2 n3
  refine ⟨cx,cdx,_,_,_,rfl,upd_same,fun H1 c1 k1=>⟨rfl,?_⟩⟩
  have s1:Same H H1:=Same.made n1 n2 k1
  have hp2:=s1 _ _ h1
  refine ⟨_,rfl,hp,_,dx,_,rfl,hp2,T.lHeld,T.nHeld_costs,(by show 4<1000;decide),?_⟩
  rw [fHeld_put_costs]
  refine ⟨_,rfl,hp,_,dx,_,rfl,upd_same,T.lHeld,T.nHeld_cells,(by show 4<1000;decide),?_⟩
  rw [fHeld_put_cells]
  have k3:Kept hp H1 (upd (upd H1 hp (.ins A.cHeld dx (fHeld (.ref ga) (.ref cx) (.ref la) cv))) hp (.ins A.cHeld dx (fHeld (.ref ga) (.ref cx) (.ref la) .non))):=Kept.upd.trans Kept.upd
  have hp3:(upd (upd H1 hp (.ins A.cHeld dx (fHeld (.ref ga) (.ref cx) (.ref la) cv))) hp (.ins A.cHeld dx (fHeld (.ref ga) (.ref cx) (.ref la) .non))) hp=some (.ins A.cHeld dx (fHeld (.ref ga) (.ref cx) (.ref la) .non)):=upd_same
  generalize hH3:(upd (upd H1 hp (.ins A.cHeld dx (fHeld (.ref ga) (.ref cx) (.ref la) cv))) hp (.ins A.cHeld dx (fHeld (.ref ga) (.ref cx) (.ref la) .non)))=H3 at k3 hp3
  have f13:Off A H1 H3:=Kept.off k3 hp2 (.inl rfl)
  have f3:Off A H H3:=(Same.off s1).trans f13
  have hc:CostsAt A H1 cx {insert:=i.toNat,delete:=d.toNat,replace:=r.toNat}:=by
   refine ⟨cdx,?_⟩
   rw [c1]
   show some (HO.ins A.cCosts cdx (fCosts (V.int i) (V.int d) (V.int r)))=some (HO.ins A.cCosts cdx (fCosts (V.int ((i.toNat:Nat):Int)) (V.int ((d.toNat:Nat):Int)) (V.int ((r.toNat:Nat):Int))))
   rw [show ((i.toNat:Nat):Int)=i by omega,show ((d.toNat:Nat):Int)=d by omega,show ((r.toNat:Nat):Int)=r by omega]
  exact ⟨(by show 1≤sizeLine;decide),fun b hb=>q.ret D ((Same.kept s1).trans k3) ⟨HS.go,⟨by show 1≤i.toNat;omega,by show i.toNat≤9;omega,by show 1≤d.toNat;omega,by show d.toNat≤9;omega,by show 1≤r.toNat;omega,by show r.toNat≤9;omega⟩,HS.short,dx,ga,cx,la,.non,hp3,h2.off D f3,hc.off D f13,h4.off f3,.inl rfl⟩ (by decide) hb⟩
end
end Lr
namespace Lr
open PySem PySem.Spec PyProof.Rows L2 LX
open Vaglrl (Costs Text Cell Change)
open Vaglrc (Sym Rule Grammar)
open Vm (ann eats)
theorem ifY {b:Bool} {A B:Prop} (h:b=true) (a:A):if b=true then A else B:=by rw [if_pos h];exact a
theorem ifN {b:Bool} {A B:Prop} (h:b=false) (a:B):if b=true then A else B:=by rw [if_neg (by rw [h];exact Bool.false_ne_true)];exact a
section
variable {P:Program} {w:World} {K:PySem.W.Frag} {mg:Str→Option Value} {base:Heap} {A:Ad}
def spAR:Sp:=fun vs H Q _=>∃(p:Addr) (x:Text),vs= [.ref p]∧TextAt H p x∧x.length≤1000∧∀(H':Hp) (b:Addr),H' b=some (.lst ((0::Vaglrl.toInts (x.length::x)).map V.int))→Same H H'→H b=none→Q (.ref b) H'
theorem scAR:FnScope ["letters"] ["letters"] (defScope sAnswerRepair):=⟨rfl,rfl,rfl,by decide+kernel,rfl,by decide+kernel,by decide+kernel⟩
theorem okAR {f:Addr} {fd:FuncData} (F:Fun K "answer_repair" "answer_repair" sAnswerRepair f fd) (T:Txt A K mg):FnOk P w K mg base CX0 1 f fd ["letters"] spAR:=by
 obtain ⟨t2,kD⟩:=T.kDONE
 refine F.ok scAR (fun vs H Q E h=>?_) (fun cdv A' outer s H vs Q E hr h=>?_)
 ·obtain ⟨p,x,rfl,_⟩:=h
  rfl
 ·obtain ⟨p,x,rfl,hp,hx,q⟩:=h
  refine ⟨_,pss_one (ps_ret (pe_op op_cat (pe_lst (pa_cons (pe_glob (v:=.int 0) rfl kD ⟨_,rfl⟩) (pa_cons (pe_callB call_len_seq (by rfl) T.b_len PySem.boot_len (pa_cons (pv 0) pa_nil)) pa_nil))) (pv 0))),?_⟩
  refine ⟨_,rfl,p,_,rfl,.inl (SqL.of hp),(by show 2≤sizeLine;decide),fun z hz=>?_⟩
  have s5:=Same.upd (o:=.lst [.int 0,.int ((x.map vN).length:Int)]) hz
  refine ⟨_,rfl,z,p,_,_,rfl,rfl,upd_same,s5 _ _ hp,size_ok (by rw [List.length_map];show 2+_≤100000;omega),fun b hb=>?_⟩
  refine q _ b ?_ (s5.trans (Same.upd hb)) (s5.free hb)
  rw [upd_same,List.length_map]
  show some (HO.lst ([V.int 0,V.int _]++x.map vN))=some (HO.lst ((0::Vaglrl.toInts (x.length::x)).map V.int))
  unfold Vaglrl.toInts
  rw [List.map_cons,List.map_map,List.map_cons]
  rfl
def shL (l:List Ch):List Ch:=l.filter fun c=>c.1 !=0
def chI (c:Ch):List Int:= [(c.1:Int),(c.2.1:Int),(c.2.2:Int)]
theorem shL_snoc (l:List Ch) (c:Ch):shL (l++ [c])=shL l++if c.1=0 then [] else [c]:=by
 unfold shL
 rw [List.filter_append]
 congr 1
 by_cases h:c.1=0
 ·rw [if_pos h,List.filter_cons_of_neg (by simp [h])]
  rfl
 ·rw [if_neg h,List.filter_cons_of_pos (by simp [h])]
  rfl
theorem shL_len (l:List Ch):(shL l).length≤l.length:=List.length_filter_le ..
theorem chI_flat (L:List Ch):L.flatMap chI=((L.map fun c=> [c.1,c.2.1,c.2.2]).flatMap fun c=>c).map fun n:Nat=>(n:Int):=by
 induction L with
 |nil=>rfl
 |cons c r ih=>
  rw [List.flatMap_cons,ih,List.map_cons,List.flatMap_cons,List.map_append]
  rfl
theorem chI_len (L:List Ch):(L.flatMap chI).length=3 * L.length:=by
 induction L with
 |nil=>rfl
 |cons c r ih=>
  rw [List.flatMap_cons,List.length_append,ih,List.length_cons]
  show 3+_=_
  omega
def spAC:Sp:=fun vs H Q _=>∃(a:Addr) (l:List Ch),vs= [.ref a]∧ChAt H a l∧l.length≤1000∧∀(H':Hp) (b:Addr),H' b=some (.lst ((0::((shL l).length:Int)::(shL l).flatMap chI).map V.int))→Same H H'→H b=none→Q (.ref b) H'
abbrev nAC:List Str:= ["changes","told","answer","change"]
theorem scAC:FnScope nAC ["changes"] (defScope sAnswerChanges):=⟨rfl,rfl,rfl,by decide+kernel,rfl,by decide+kernel,by decide+kernel⟩
theorem okAC {f:Addr} {fd:FuncData} (F:Fun K "answer_changes" "answer_changes" sAnswerChanges f fd) (T:Txt A K mg):FnOk P w K mg base CX0 1 f fd ["changes"] spAC:=by
 obtain ⟨t2,kD⟩:=T.kDONE
 obtain ⟨t3,kK⟩:=T.kKEPT
 refine F.ok scAC (fun vs H Q E h=>?_) (fun cdv A' outer s H vs Q E hr h=>?_)
 ·obtain ⟨a,l,rfl,_⟩:=h
  rfl
 ·obtain ⟨a,l,rfl,⟨cs,ha,pr⟩,hl,q⟩:=h
  have cl:=pr.length
  refine ⟨_,pss_cons (ps_setLc (i:=1) (own:= [("change",3)]) (tt:=tB (tNeI (tOp (rIxT K) (tVar 3) (tC (.int 0))) (tC (.int 0)))) rfl scAC.nd rfl rfl (sw_true rfl rfl rfl rfl) (pi_list (pv 0)) (blkOk_by (by show blkC nAC (defScope sAnswerChanges) _ _=true;decide+kernel))
    (fun s H C cl fp=>pg_name (i:=3) scAC.nd rfl (Or.inl rfl)) (fun s H C cl fp=>pts_one (pt_cmp (pc_neI (pe_ix ix_tup (pv 3) pe_int (fun _ _=>rfl)) (pe_glob (v:=.int 0) rfl kK ⟨_,rfl⟩)))) (fun s H C cl fp=>pv 3))
   (pss_cons (ps_set (i:=2) scAC.nd rfl (Or.inl rfl) (pe_lst (pa_cons (pe_glob (v:=.int 0) rfl kD ⟨_,rfl⟩) (pa_cons (pe_callB call_len_seq (by rfl) T.b_len PySem.boot_len (pa_cons (pv 1) pa_nil)) pa_nil))))
   (pss_cons (ps_for PassesOwn.never rfl (pi_list (pv 1)) (pg_name (i:=3) scAC.nd rfl (Or.inl rfl)) (pss_one (ps_expr (pe_bm PySem.F.plainAttrs_list PySem.F.slot_list_extend PySem.F.type_list_extend mt_extT (pv 2) (pa_cons (pv 3) pa_nil)))))
   (pss_one (ps_ret (pv 2))))),?_⟩
  refine ⟨_,rfl,a,rfl,⟨_,SqL.of ha⟩,fun D hD=>lc_list (K:=K) (a:=a) (xs:=cs) (fun i H'=>Same H H'∧∃vs',H' D=some (.lst vs')∧Paired (fun v c=>TupV H v (chV c)) vs' (shL (l.take i))) ⟨Same.upd hD,[],upd_same,.nil⟩ (fun i H' _ h=>SqL.of (h.1 _ _ ha)) ?_ ?_⟩
  ·rintro i v H' hv ⟨s1,vs',h1,p1⟩
   have hi:i<l.length:=by rw [←cl];exact (List.getElem?_eq_some_iff.mp hv).1
   have hT:TupV H v (chV l[i]):=by
    obtain ⟨b,hb,hF⟩:=Paired.at pr hv
    rw [List.getElem?_eq_getElem hi] at hb
    cases hb
    exact hF
   obtain ⟨qa,rfl,hq⟩:=hT
   have tk:shL (l.take (i+1))=shL (l.take i)++if l[i].1=0 then [] else [l[i]]:=by
    rw [List.take_succ,List.getElem?_eq_getElem hi]
    exact shL_snoc _ _
   refine ⟨rfl,_,rfl,qa,_,_,_,rfl,rfl,SqT.of (s1 _ _ hq),at_of (j:=0) rfl rfl,_,_,rfl,rfl,_,rfl,iteB (fun hb=>?_) (fun hb=>?_)⟩
   ·have hk:¬l[i].1=0:=by
     intro z
     rw [z] at hb
     simp at hb
    rw [if_neg hk] at tk
    have len:=shL_len (l.take i)
    rw [List.length_take,←p1.length] at len
    refine ⟨_,rfl,_,h1,small1000 (by omega),fun b o e=>?_,_,upd_same,?_⟩
    ·rw [upd_ne (ne_of_none e hD)]
     exact s1 _ _ e
    ·rw [tk]
     exact Paired.snoc p1 ⟨qa,rfl,hq⟩
   ·have hk:l[i].1=0:=by
     have:¬¬((l[i].1:Int)=0):=by simpa using hb
     omega
    rw [if_pos hk,List.append_nil] at tk
    exact ⟨s1,vs',h1,by rw [tk];exact p1⟩
  ·rintro H1 ⟨s1,vs',h1,p1⟩
   rw [cl,List.take_length] at p1
   have pl:=p1.length
   have sl:=shL_len l
   refine ⟨_,rfl,D,_,rfl,.inl (SqL.of h1),(by show 2≤sizeLine;decide),fun ans hans=>?_⟩
   have s2:=Same.upd (o:=.lst [.int 0,.int (vs'.length:Int)]) hans
   have a2:(upd H1 ans (.lst [.int 0,.int (vs'.length:Int)])) ans=some (.lst [.int 0,.int (vs'.length:Int)]):=upd_same
   generalize hH2:upd H1 ans (.lst [.int 0,.int (vs'.length:Int)])=H2 at s2 a2
   have D2:=s2 _ _ h1
   refine ⟨_,rfl,D,rfl,⟨_,SqL.of D2⟩,for_list (xs:=vs') (fun i σ H'=>Same H1 H'∧H' ans=some (.lst ((0::((shL l).length:Int)::((shL l).take i).flatMap chI).map V.int))∧∃v3,σ= [some (.ref a),some (.ref D),some (.ref ans),v3]) ?_ ?_ ?_ ?_⟩
   ·refine ⟨s2,?_,_,rfl⟩
    rw [a2,pl]
    rfl
   ·exact fun i σ H' _ h=>SqL.of (h.1 _ _ h1)
   ·rintro i v σ H' hv ⟨s3,a3,v3,rfl⟩
    obtain ⟨c,hc,qa,rfl,hq⟩:=Paired.at p1 hv
    have hi:=(List.getElem?_eq_some_iff.mp hc).1
    have ln:(((0::((shL l).length:Int)::((shL l).take i).flatMap chI).map V.int)).length=2+3 * i:=by
     rw [List.length_map,List.length_cons,List.length_cons,chI_len,List.length_take,Nat.min_eq_left (by omega)]
     omega
    refine ⟨_,rfl,.inl ⟨rfl,_,SqL.of a3⟩,_,rfl,ans,qa,_,_,rfl,rfl,a3,SqT.of (s3 _ _ (s1 _ _ hq)),?_,?_⟩
    ·rw [ln]
     exact size_ok (by show 2+3 * i+3≤100000;omega)
    ·refine ⟨fun b o e=>?_,?_,_,rfl⟩
     ·rw [upd_ne (ne_of_none e hans)]
      exact s3 _ _ e
     ·rw [upd_same,List.take_succ,hc]
      show some (HO.lst (_++chV c))=some (HO.lst ((0::((shL l).length:Int)::((shL l).take i++ [c]).flatMap chI).map V.int))
      rw [List.flatMap_append]
      simp [chI,chV,vN]
   ·rintro σ H' ⟨s3,a3,v3,rfl⟩
    rw [pl,List.take_length] at a3
    exact ⟨_,rfl,q H' ans a3 (s1.trans s3) (s1.free hans)⟩
def spAA (A:Ad):Sp:=fun vs H Q _=>∃(hp p:Addr) (st:Vaglrl.State) (x:Text),vs= [.ref hp,.ref p]∧HeldSt A H hp st∧TextAt H p x∧Ans A hp H Q (if 12<x.length then (st,[-3]) else ({st with text:=x},[0]))
theorem scAA:FnScope ["held","letters"] ["held","letters"] (defScope sAnswerApply):=⟨rfl,rfl,rfl,by decide+kernel,rfl,by decide+kernel,by decide+kernel⟩
theorem okAA {f fH:Addr} {fd fdH:FuncData} (F:Fun K "answer_apply" "answer_apply" sAnswerApply f fd) (T:Txt A K mg) (D:Dis A) (HT:Cl P w K mg base CX0 1 "hold_text" fH fdH ["held","letters"] (spHT A)):FnOk P w K mg base CX0 2 f fd ["held","letters"] (spAA A):=by
 obtain ⟨t1,kM⟩:=T.kTOO_MANY
 obtain ⟨t2,kD⟩:=T.kDONE
 obtain ⟨t4,kL⟩:=T.kMOST_LETTERS
 refine F.ok scAA (fun vs H Q E h=>?_) (fun cdv A' outer s H vs Q E hr h=>?_)
 ·obtain ⟨hp,p,st,x,rfl,_⟩:=h
  rfl
 ·obtain ⟨hp,p,st,x,rfl,HS,tx,q⟩:=h
  refine ⟨_,pss_cons (ps_if (pt_cmpR op_gt (pe_callB call_len_seq (by rfl) T.b_len PySem.boot_len (pa_cons (pv 1) pa_nil)) (pe_glob (v:=.int 12) rfl kL ⟨_,rfl⟩) (nomark _)) (pss_one (ps_ret (pe_lst (pa_cons (pe_glob (v:=.int (-3)) rfl kM ⟨_,rfl⟩) pa_nil)))) pss_nil)
   (pss_cons (ps_expr (pe_call HT.ok hr rfl HT.m HT.kp HT.b .nil pass0 (pa_cons (pv 0) (pa_cons (pv 1) pa_nil))))
   (pss_one (ps_ret (pe_lst (pa_cons (pe_glob (v:=.int 0) rfl kD ⟨_,rfl⟩) pa_nil))))),?_⟩
  refine ⟨_,rfl,p,_,rfl,.inl (SqL.of tx),_,_,rfl,rfl,_,rfl,iteD (fun e=>?_) (fun e=>?_)⟩
  ·rw [List.length_map] at e
   rw [if_pos (by omega)] at q
   exact ⟨(by show 1≤sizeLine;decide),fun b hb=>q.ret D (Kept.refl _ _) HS (by decide) hb⟩
  ·rw [List.length_map] at e
   rw [if_neg (by omega)] at q
   refine ⟨_,rfl,_,rfl,hp,p,st,x,rfl,HS,tx,by omega,fun H2 HS2 k2=>?_⟩
   exact ⟨(by show 1≤sizeLine;decide),fun b hb=>q.ret D k2 HS2 (by decide) hb⟩
end
end Lr
namespace Lr
open PySem PySem.Spec PyProof.Rows L2 LX
open Vaglrl (Costs Text Cell Change)
open Vaglrc (Sym Rule Grammar)
open Vm (ann eats)
theorem onRepair_is {st:Vaglrl.State} {f:List Change→Vaglrl.State×List Int}:Vaglrl.onRepair st f=match specM st.grammar st.costs st.text 0 0 st.text.length with
  |none=>(st,[1])
  |some _=>match toldOf st.grammar st.costs st.text with
   |none=>(st,[-6])
   |some l=>f l:=by
 unfold Vaglrl.onRepair Vaglrl.leastOf toldOf specM
 cases Vaglrl.cellAt (Vaglrl.tableOf st.grammar st.costs st.text) 0 0 st.text.length with
 |none=>rfl
 |some c=>
  show (match Vaglrl.repairOf st.grammar st.costs st.text with
   |none=>(st,[-6])
   |some l=>if 64<(Vaglrl.applied l st.text).length then (st,[-6]) else f l)=_
  cases Vaglrl.repairOf st.grammar st.costs st.text with
  |none=>rfl
  |some l=>
   dsimp only
   split<;>rfl
theorem eats_cons (c:Change) (l:List Change):eats (c::l)=Vm.eat c+eats l:=by
 unfold eats
 rw [List.map_cons,List.sum_cons]
theorem ch_len:∀(l:List Change) (x:Text),l.length≤eats l+(Vaglrl.applied l x).length
 | [],_=>Nat.zero_le _
 | .insert b::l,x=>by
  have:=ch_len l x
  rw [eats_cons]
  show l.length+1≤0+eats l+((Vaglrl.applied l x).length+1)
  omega
 | .delete::l,x=>by
  have:=ch_len l (x.drop 1)
  rw [eats_cons]
  show l.length+1≤1+eats l+(Vaglrl.applied l (x.drop 1)).length
  omega
 | .replace b::l,x=>by
  have:=ch_len l (x.drop 1)
  rw [eats_cons]
  show l.length+1≤1+eats l+((Vaglrl.applied l (x.drop 1)).length+1)
  omega
 | .keep::l,[]=>by
  have:=ch_len l []
  rw [eats_cons]
  show l.length+1≤1+eats l+(Vaglrl.applied l []).length
  omega
 | .keep::l,a::r=>by
  have:=ch_len l r
  rw [eats_cons]
  show l.length+1≤1+eats l+((Vaglrl.applied l r).length+1)
  omega
def afterTold (st:Vaglrl.State) (k:Vaglrl.Call) (l:List Change):Vaglrl.State×List Int:=match k with
 | .repair=>(st,0::Vaglrl.toInts ((Vaglrl.applied l st.text).length::Vaglrl.applied l st.text))
 | .changes=>(st,0::Vaglrl.toInts ((Vaglrl.shownChanges 0 l).length::(Vaglrl.shownChanges 0 l).flatMap (fun c=>c)))
 |_=>if 12<(Vaglrl.applied l st.text).length then (st,[-3]) else ({st with text:=Vaglrl.applied l st.text},[0])
def byTold (k:Vaglrl.Call) (c:Int):Prop:=(c=4∧k=.repair)∨(c=5∧k=.changes)∨(c=9∧k=.apply)
theorem step_told {st:Vaglrl.State} {k:Vaglrl.Call} {c:Int} (h:byTold k c):Vaglrl.step st k=match specM st.grammar st.costs st.text 0 0 st.text.length with
  |none=>(st,[1])
  |some _=>match toldOf st.grammar st.costs st.text with
   |none=>(st,[-6])
   |some l=>afterTold st k l:=by
 rcases h with ⟨_,rfl⟩|⟨_,rfl⟩|⟨_,rfl⟩<;>exact onRepair_is
section
variable {P:Program} {w:World} {K:PySem.W.Frag} {mg:Str→Option Value} {base:Heap} {A:Ad}
def spBR (A:Ad):Sp:=fun vs H Q _=>∃(hp:Addr) (st:Vaglrl.State) (k:Vaglrl.Call) (c:Int),vs= [.ref hp,.int c]∧HeldSt A H hp st∧byTold k c∧Ans A hp H Q (Vaglrl.step st k)
theorem scBR:FnScope ["held","call","changes"] ["held","call"] (defScope sAnswerByRepair):=⟨rfl,rfl,rfl,by decide+kernel,rfl,by decide+kernel,by decide+kernel⟩
theorem okBR {f fW fO fT fR fA fC fP:Addr} {fd fdW fdO fdT fdR fdA fdC fdP:FuncData} (F:Fun K "answer_by_repair" "answer_by_repair" sAnswerByRepair f fd) (T:Txt A K mg) (D:Dis A) (WC:Cl P w K mg base CX0 9 "whole_cell" fW fdW ["held"] (spWC A))
  (CO:Cl P w K mg base CX0 8 "cells_of" fO fdO ["held"] (spCO A)) (TL:Cl P w K mg base (CXL P w) 5 "told_repair" fT fdT ["cells"] (spTell A)) (RP:Cl P w K mg base CX0 1 "repaired" fR fdR ["changes"] spRep)
  (AR:Cl P w K mg base CX0 1 "answer_repair" fA fdA ["letters"] spAR) (AC:Cl P w K mg base CX0 1 "answer_changes" fC fdC ["changes"] spAC) (AA:Cl P w K mg base CX0 2 "answer_apply" fP fdP ["held","letters"] (spAA A)):
  FnOk P w K mg base CX0 10 f fd ["held","call"] (spBR A):=by
 obtain ⟨t0,kN⟩:=T.kNONE_THERE
 obtain ⟨t1,kL⟩:=T.kREPAIR_TOO_LONG
 obtain ⟨t2,kR⟩:=T.kREPAIR
 obtain ⟨t3,kC⟩:=T.kCHANGES
 refine F.ok scBR (fun vs H Q E h=>?_) (fun cdv A' outer s H vs Q E hr h=>?_)
 ·obtain ⟨hp,st,k,c,rfl,_⟩:=h
  rfl
 ·obtain ⟨hp,st,k,c,rfl,HS,hk,q⟩:=h
  have hr8:Room 8 _:=hr.mono (by decide)
  have hr5:Room 5 _:=hr.mono (by decide)
  have hr2:Room 2 _:=hr.mono (by decide)
  have hr1:Room 1 _:=hr.mono (by decide)
  refine ⟨_,pss_cons (ps_if (pt_cmp (pc_isN (pe_call WC.ok hr rfl WC.m WC.kp WC.b .nil pass0 (pa_cons (pv 0) pa_nil)))) (pss_one (ps_ret (pe_lst (pa_cons (pe_glob (v:=.int 1) rfl kN ⟨_,rfl⟩) pa_nil)))) pss_nil)
   (pss_cons (ps_try (C:=A.cTooLong) rfl rfl rfl T.xTooLong rfl T.mTooLong
    (fun pn E' E px=>pss_one (ps_set (i:=2) scBR.nd rfl (Or.inl rfl) (pe_call TL.ok hr5 rfl TL.m TL.kp TL.b .nil px.passes (pa_cons (pe_call CO.ok hr8 rfl CO.m CO.kp CO.b .nil pass0 (pa_cons (pv 0) pa_nil)) pa_nil))))
    (fun A'=>pss_one (ps_ret (pe_lst (pa_cons (pe_glob (v:=.int (-6)) rfl kL ⟨_,rfl⟩) pa_nil)))))
   (pss_cons (ps_if (pt_cmp (pc_eqI (pv 1) (pe_glob (v:=.int 4) rfl kR ⟨_,rfl⟩))) (pss_one (ps_ret (pe_call AR.ok hr1 rfl AR.m AR.kp AR.b .nil pass0 (pa_cons (pe_call RP.ok hr1 rfl RP.m RP.kp RP.b .nil pass0 (pa_cons (pv 2) pa_nil)) pa_nil)))) pss_nil)
   (pss_cons (ps_if (pt_cmp (pc_eqI (pv 1) (pe_glob (v:=.int 5) rfl kC ⟨_,rfl⟩))) (pss_one (ps_ret (pe_call AC.ok hr1 rfl AC.m AC.kp AC.b .nil pass0 (pa_cons (pv 2) pa_nil)))) pss_nil)
   (pss_one (ps_ret (pe_call AA.ok hr2 rfl AA.m AA.kp AA.b .nil pass0 (pa_cons (pv 0) (pa_cons (pe_call RP.ok hr1 rfl RP.m RP.kp RP.b .nil pass0 (pa_cons (pv 2) pa_nil)) pa_nil)))))))),?_⟩
  rw [step_told hk] at q
  refine ⟨_,rfl,hp,st,rfl,HS,fun e H1 HS1 k1=>?_,fun c0 e H1 ca dx ea HS1 k1 hc=>?_⟩
  ·rw [e] at q
   exact ⟨_,rfl,iteD (fun _=>⟨(by show 1≤sizeLine;decide),fun b hb=>q.ret D k1 HS1 (by decide) hb⟩) (fun z=>absurd rfl z)⟩
  ·rw [e] at q
   dsimp only at q
   refine ⟨_,rfl,iteD (fun z=>nomatch z) (fun _=>?_)⟩
   refine ⟨_,rfl,hp,st,rfl,HS1,fun H2 cp tb fo H0 kvs es HS2 k2 c0' C2=>?_⟩
   have k12:=k1.trans k2
   refine ⟨H0,cp,tb,fo,st.grammar,st.costs,st.text,kvs,es,c0,rfl,C2,HS.go,HS.short,e,fun et H3 s3=>⟨rfl,?_⟩,fun l el he hle hal H3 ch hch s3 n3=>?_⟩
   ·rw [et] at q
    exact ⟨(by show 1≤sizeLine;decide),fun b hb=>q.ret D (k12.trans (Same.kept s3)) (HS2.same D s3) (by decide) hb⟩
   ·rw [el] at q
    dsimp only at q
    have HS3:=HS2.same D s3
    have k13:Kept hp H H3:=k12.trans (Same.kept s3)
    have l76:l.length≤76:=by
     have z1:=ch_len l st.text
     have z2:=HS.short
     omega
    have al:(ann st.text 0 l).length=l.length:=ann_len _ _ _
    have fr:∀{H4:Hp} {b:Addr},Same H3 H4→H4 b=none→H b=none:=fun {H4 b} s4 hb=>by
     obtain ⟨dx',ga',ca',la',cv',h1',_⟩:=HS3.obj
     exact k13.free h1' (s4.free hb)
    rcases hk with ⟨rfl,rfl⟩|⟨rfl,rfl⟩|⟨rfl,rfl⟩
    ·refine ⟨_,rfl,_,_,rfl,rfl,_,rfl,ifY (by decide) ?_⟩
     refine ⟨_,rfl,ch,ann st.text 0 l,rfl,hch,by omega,fun H4 p hp4 s4 n4=>?_⟩
     rw [repL_ann he] at hp4
     refine ⟨p,_,rfl,hp4,by omega,fun H5 b hb s5 n5=>?_⟩
     exact q H5 b ((HS3.same D s4).same D s5) (k13.trans (Same.kept (s4.trans s5))) (fr s4 n5) (by show (Vaglrl.toInts _).length+1≤300;unfold Vaglrl.toInts;rw [List.length_map,List.length_cons];omega) hb
    ·refine ⟨_,rfl,_,_,rfl,rfl,_,rfl,ifN (by decide) ?_⟩
     refine ⟨_,rfl,_,_,rfl,rfl,_,rfl,ifY (by decide) ?_⟩
     refine ⟨_,rfl,ch,ann st.text 0 l,rfl,hch,by omega,fun H4 b hb s4 n4=>?_⟩
     have sh:=shL_len (ann st.text 0 l)
     have e1:(0::((shL (ann st.text 0 l)).length:Int)::(shL (ann st.text 0 l)).flatMap chI)=0::Vaglrl.toInts ((Vaglrl.shownChanges 0 l).length::(Vaglrl.shownChanges 0 l).flatMap (fun c=>c)):=by
      rw [←Vm.ann_shown st.text l 0,chI_flat,List.length_map]
      rfl
     have ln:(0::Vaglrl.toInts ((Vaglrl.shownChanges 0 l).length::(Vaglrl.shownChanges 0 l).flatMap (fun c=>c))).length≤300:=by
      rw [←e1,List.length_cons,List.length_cons,chI_len]
      omega
     rw [e1] at hb
     exact q H4 b (HS3.same D s4) (k13.trans (Same.kept s4)) (fr (Same.refl _) n4) ln hb
    ·refine ⟨_,rfl,_,_,rfl,rfl,_,rfl,ifN (by decide) ?_⟩
     refine ⟨_,rfl,_,_,rfl,rfl,_,rfl,ifN (by decide) ?_⟩
     refine ⟨_,rfl,_,rfl,ch,ann st.text 0 l,rfl,hch,by omega,fun H4 p hp4 s4 n4=>?_⟩
     rw [repL_ann he] at hp4
     refine ⟨hp,p,st,_,rfl,HS3.same D s4,hp4,fun H5 b hs5 k5 n5 hl5 hb=>?_⟩
     exact q H5 b hs5 ((k13.trans (Same.kept s4)).trans k5) (fr s4 n5) hl5 hb
end
end Lr
namespace Lr
open PySem PySem.Spec PyProof.Rows L2 LX
open Vaglrl (Costs Text Cell Change)
open Vaglrc (Sym Rule Grammar)
section
variable {P:Program} {w:World} {K:PySem.W.Frag} {mg:Str→Option Value} {base:Heap} {A:Ad}
def spHeldI (A:Ad):Sp:=fun vs H Q _=>∃(p dx:Addr),vs= [.ref p]∧H p=some (.ins A.cHeld dx [])∧∀H',HeldSt A H' p Vaglrl.start→Kept p H H'→Q .non H'
theorem scHI:FnScope ["self"] ["self"] (defScope sHeldInit):=⟨rfl,rfl,rfl,by decide+kernel,rfl,by decide+kernel,by decide+kernel⟩
theorem start_gok:Vm.GOk Vaglrl.start.grammar:=⟨Nat.le_refl _,by decide,by decide,(fun _ h=>nomatch h),(fun _ h=>nomatch h),(fun _ h=>nomatch h)⟩
theorem start_ok:Vm.CostsOk Vaglrl.start.costs:=⟨by decide,by decide,by decide,by decide,by decide,by decide⟩
theorem okHI {f fG fC:Addr} {fd fdG fdC:FuncData} (F:Fun K "__init__" "Held.__init__" sHeldInit f fd) (T:Txt A K mg) (D:Dis A) (GI:Ne P w K mg base CX0 1 A.cGrammar fG fdG ["self","nonterminals","rules"] (spGrammar A))
  (CI:Ne P w K mg base CX0 1 A.cCosts fC fdC ["self","putting","leaving","replacing"] (spCosts A)):FnOk P w K mg base CX0 3 f fd ["self"] (spHeldI A):=by
 refine F.ok scHI (fun vs H Q E h=>?_) (fun cdv A' outer s H vs Q E hr h=>?_)
 ·obtain ⟨p,dx,rfl,_⟩:=h
  rfl
 ·obtain ⟨p,dx,rfl,hp,q⟩:=h
  refine ⟨_,pss_cons (ps_fld (pv 0) (pe_make GI.m GI.ok hr rfl T.mGrammar GI.b .nil pass0 (pa_cons pe_int (pa_cons (pe_lst pa_nil) pa_nil))) rfl)
   (pss_cons (ps_fld (pv 0) (pe_make CI.m CI.ok hr rfl T.mCosts CI.b .nil pass0 (pa_cons pe_int (pa_cons pe_int (pa_cons pe_int pa_nil)))) rfl)
   (pss_cons (ps_fld (pv 0) (pe_lst pa_nil) rfl)
   (pss_one (ps_fld (pv 0) pe_non rfl)))),?_⟩
  refine ⟨Nat.zero_le _,fun ra hra=>?_⟩
  have s1:=Same.upd (o:=.lst []) hra
  have ra1:(upd H ra (.lst [])) ra=some (.lst []):=upd_same
  generalize hH1:upd H ra (.lst [])=H1 at s1 ra1
  intro gx gdx n1 n2 n3
  refine ⟨gx,gdx,_,_,rfl,upd_same,fun H2 g2 kg=>⟨rfl,?_⟩⟩
  have s2:Same H1 H2:=Same.made n1 n2 kg
  have s12:=s1.trans s2
  have hp2:=s12 _ _ hp
  refine ⟨_,rfl,p,_,dx,_,rfl,hp2,T.lHeld,T.nHeld_grammar,(by show 0<1000;decide),?_⟩
  have k3:Kept p H2 (upd H2 p (.ins A.cHeld dx (putF "grammar" (.ref gx) []))):=Kept.upd
  have hp3:(upd H2 p (.ins A.cHeld dx (putF "grammar" (.ref gx) []))) p=some (.ins A.cHeld dx (putF "grammar" (.ref gx) [])):=upd_same
  generalize hH3:upd H2 p (.ins A.cHeld dx (putF "grammar" (.ref gx) []))=H3 at k3 hp3
  intro cx cdx m1 m2 m3
  refine ⟨cx,cdx,_,_,_,rfl,upd_same,fun H4 c4 kc=>⟨rfl,?_⟩⟩
  have s4:Same H3 H4:=Same.made m1 m2 kc
  have hp4:=s4 _ _ hp3
  refine ⟨_,rfl,p,_,dx,_,rfl,hp4,T.lHeld,T.nHeld_costs,(by repeat (first|rw [putF_nil]|rw [putF_ne (by decide+kernel)]);show 1<1000;decide),?_⟩
  have k5:Kept p H4 (upd H4 p (.ins A.cHeld dx (putF "costs" (.ref cx) (putF "grammar" (.ref gx) [])))):=Kept.upd
  have hp5:(upd H4 p (.ins A.cHeld dx (putF "costs" (.ref cx) (putF "grammar" (.ref gx) [])))) p=some (.ins A.cHeld dx (putF "costs" (.ref cx) (putF "grammar" (.ref gx) []))):=upd_same
  generalize hH5:upd H4 p (.ins A.cHeld dx (putF "costs" (.ref cx) (putF "grammar" (.ref gx) [])))=H5 at k5 hp5
  refine ⟨Nat.zero_le _,fun la hla=>?_⟩
  have s6:=Same.upd (o:=.lst []) hla
  have la6:(upd H5 la (.lst [])) la=some (.lst []):=upd_same
  generalize hH6:upd H5 la (.lst [])=H6 at s6 la6
  have hp6:=s6 _ _ hp5
  refine ⟨_,rfl,p,_,dx,_,rfl,hp6,T.lHeld,T.nHeld_letters,(by repeat (first|rw [putF_nil]|rw [putF_ne (by decide+kernel)]);show 2<1000;decide),?_⟩
  refine ⟨_,rfl,p,_,dx,_,rfl,upd_same,T.lHeld,T.nHeld_cells,(by repeat (first|rw [putF_nil]|rw [putF_ne (by decide+kernel)]);show 3<1000;decide),?_⟩
  rw [fHeld_mk]
  have k7:Kept p H6 (upd (upd H6 p (.ins A.cHeld dx (putF "letters" (.ref la) (putF "costs" (.ref cx) (putF "grammar" (.ref gx) []))))) p (.ins A.cHeld dx (fHeld (.ref gx) (.ref cx) (.ref la) .non))):=Kept.upd.trans Kept.upd
  have hp7:(upd (upd H6 p (.ins A.cHeld dx (putF "letters" (.ref la) (putF "costs" (.ref cx) (putF "grammar" (.ref gx) []))))) p (.ins A.cHeld dx (fHeld (.ref gx) (.ref cx) (.ref la) .non))) p=some (.ins A.cHeld dx (fHeld (.ref gx) (.ref cx) (.ref la) .non)):=upd_same
  generalize hH7:(upd (upd H6 p (.ins A.cHeld dx (putF "letters" (.ref la) (putF "costs" (.ref cx) (putF "grammar" (.ref gx) []))))) p (.ins A.cHeld dx (fHeld (.ref gx) (.ref cx) (.ref la) .non)))=H7 at k7 hp7
  have f67:Off A H6 H7:=Kept.off k7 hp6 (.inl rfl)
  have f47:Off A H4 H7:=(Kept.off k5 hp4 (.inl rfl)).trans ((Same.off s6).trans f67)
  have f27:Off A H2 H7:=(Kept.off k3 hp2 (.inl rfl)).trans ((Same.off s4).trans f47)
  have gA:GramAt A H2 gx Vaglrl.start.grammar:=⟨gdx,ra,[],g2,s2 _ _ ra1,rfl,(fun _ _ _ h=>nomatch h)⟩
  have cA:CostsAt A H4 cx Vaglrl.start.costs:=⟨cdx,c4⟩
  have tA:TextAt H6 la Vaglrl.start.text:=la6
  refine q H7 ⟨start_gok,start_ok,Nat.zero_le _,dx,gx,cx,la,.non,hp7,gA.off D f27,cA.off D f47,tA.off f67,.inl rfl⟩ ?_
  exact (Same.kept s12).trans (k3.trans ((Same.kept s4).trans (k5.trans ((Same.kept s6).trans k7))))
end
end Lr
namespace Lr
open PySem PySem.Spec PyProof.Rows L2 LX
open Vaglrl (Costs Text Cell Change)
open Vaglrc (Sym Rule Grammar)
open Vm (nextRow stepD rowsTo)
theorem at_getD {l:List Nat} {i:Nat} (h:i<l.length):l[i]?=some (l.getD i 0):=by
 rw [List.getElem?_eq_getElem h,List.getD_eq_getElem?_getD,List.getElem?_eq_getElem h]
 rfl
section
variable {P:Program} {w:World} {K:PySem.W.Frag} {mg:Str→Option Value} {base:Heap} {A:Ad}
def spRWB (A:Ad):Sp:=fun vs H Q _=>∃(ra ya ca:Addr) (row:List Nat) (y:Text) (k:Costs) (a:Nat),vs= [.ref ra,vN a,.ref ya,.ref ca]∧TextAt H ra row∧TextAt H ya y∧CostsAt A H ca k∧row.length=y.length+1∧y.length≤64∧
 ∀(H':Hp) (p:Addr),TextAt H' p (nextRow k y row a)→Same H H'→H p=none→Q (.ref p) H'
theorem scRWB:FnScope ["row","byte","second","costs","longer","k","other","kept_or_replaced"] ["row","byte","second","costs"] (defScope sRowWithByte):=⟨rfl,rfl,rfl,by decide+kernel,rfl,by decide+kernel,by decide+kernel⟩
theorem okRWB {f:Addr} {fd:FuncData} (F:Fun K "row_with_byte" "row_with_byte" sRowWithByte f fd) (T:Txt A K mg):FnOk P w K mg base CX0 1 f fd ["row","byte","second","costs"] (spRWB A):=by
 refine F.ok scRWB (fun vs H Q E h=>?_) (fun cdv A' outer s H vs Q E hr h=>?_)
 ·obtain ⟨ra,ya,ca,row,y,k,a,rfl,_⟩:=h
  rfl
 ·obtain ⟨ra,ya,ca,row,y,k,a,rfl,hra,hya,⟨cdx,hca⟩,hl,hy,q⟩:=h
  have nl:=Vm.nextRow_len (k:=k) (a:=a) hl
  refine ⟨_,pss_cons (ps_set (i:=4) scRWB.nd rfl (Or.inl rfl) (pe_lst (pa_cons (pe_op op_add (pe_ix ix_list (pv 0) pe_int (fun _ _=>rfl)) (pe_fld (pv 3) rfl)) pa_nil)))
   (pss_cons (ps_for PassesOwn.never rfl (pi_enum rfl T.b_enumerate (pa_cons (pv 2) pa_nil)) (pg_tup rfl (pgs_cons (pg_name (i:=5) scRWB.nd rfl (Or.inl rfl)) (pgs_cons (pg_name (i:=6) scRWB.nd rfl (Or.inl rfl)) pgs_nil)))
    (pss_cons (ps_set (i:=7) scRWB.nd rfl (Or.inl rfl) (pe_op op_add (pe_ix ix_list (pv 0) (pv 5) (fun _ _=>rfl)) (pe_ifExp (pt_cmp (pc_eqI (pv 1) (pv 6))) pe_int (pe_fld (pv 3) rfl))))
    (pss_one (ps_expr (pe_bm PySem.F.plainAttrs_list PySem.F.slot_list_append PySem.F.type_list_append mt_append (pv 4) (pa_cons (pe_callB (call_min3 rfl) (by rfl) T.b_min boot_min
     (pa_cons (pv 7) (pa_cons (pe_op op_add (pe_ix ix_list (pv 0) (pe_op op_add (pv 5) pe_int) (fun _ _=>rfl)) (pe_fld (pv 3) rfl)) (pa_cons (pe_op op_add (pe_ix ix_list (pv 4) (pv 5) (fun _ _=>rfl)) (pe_fld (pv 3) rfl)) pa_nil)))) pa_nil))))))
   (pss_one (ps_ret (pv 4)))),?_⟩
  refine ⟨_,rfl,ra,_,_,_,rfl,rfl,SqL.of hra,at_of (j:=0) rfl (text_ix (at_getD (by omega))),_,rfl,ca,_,cdx,_,_,rfl,hca,T.lCosts,T.nCosts_leaving,fCosts_leaving,_,_,rfl,rfl,(by show 1≤sizeLine;decide),fun lo hlo=>?_⟩
  have s1:=Same.upd (o:=.lst [.int ((row.getD 0 0:Nat)+(k.delete:Int))]) hlo
  have l1:(upd H lo (.lst [.int ((row.getD 0 0:Nat)+(k.delete:Int))])) lo=some (.lst (((nextRow k y row a).take (0+1)).map vN)):=by
   rw [upd_same]
   have e:(nextRow k y row a).take (0+1)= [row.getD 0 0+k.delete]:=by
    rw [List.take_succ,at_getD (by omega),Vm.nextRow_0 hl]
    rfl
   rw [e]
   show some (HO.lst [V.int _])=some (HO.lst [V.int ((row.getD 0 0+k.delete:Nat):Int)])
   rw [Int.natCast_add]
  generalize hH1:upd H lo (.lst [.int ((row.getD 0 0:Nat)+(k.delete:Int))])=H1 at s1 l1
  refine ⟨_,rfl,ya,y.map vN,rfl,SqL.of (s1 _ _ hya),for_enum (xs:=y.map vN) (fun i σ H'=>Same H H'∧H' lo=some (.lst (((nextRow k y row a).take (i+1)).map vN))∧∃v5 v6 v7,σ= [some (.ref ra),some (vN a),some (.ref ya),some (.ref ca),some (.ref lo),v5,v6,v7]) ?_ ?_ ?_ ?_⟩
  ·exact ⟨s1,l1,none,none,none,rfl⟩
  ·exact fun i σ H' _ h=>SqL.of (h.1 _ _ hya)
  ·rintro i v σ H' tt hv ⟨s2,l2,v5,v6,v7,rfl⟩ htt
   rw [List.getElem?_map] at hv
   have hi:i<y.length:=by
    rcases Nat.lt_or_ge i y.length with z|z
    ·exact z
    ·rw [List.getElem?_eq_none z] at hv
     cases hv
   rw [at_getD hi] at hv
   have hv:vN (y.getD i 0)=v:=Option.some.inj hv
   subst hv
   have s3:=Same.upd (o:=.tup [vN i,vN (y.getD i 0)]) htt
   have sH:Same H (upd H' tt (.tup [vN i,vN (y.getD i 0)])):=s2.trans s3
   have l3:=s3 _ _ l2
   have t3:(upd H' tt (.tup [vN i,vN (y.getD i 0)])) tt=some (.tup [vN i,vN (y.getD i 0)]):=upd_same
   generalize hH3:upd H' tt (.tup [vN i,vN (y.getD i 0)])=H3 at sH l3 t3
   have c3:=sH _ _ hca
   have r3:=sH _ _ hra
   refine ⟨tt,_,rfl,SqT.of t3,rfl,_,_,rfl,_,_,rfl,rfl,?_⟩
   refine ⟨_,rfl,_,rfl,ra,_,_,_,rfl,rfl,SqL.of r3,at_of (j:=i) rfl (text_ix (at_getD (by omega))),?_⟩
   refine tIf_val (v:=vN (if a=y.getD i 0 then 0 else k.replace)) (decide ((a:Int)=((y.getD i 0:Nat):Int))) (fun R hR=>⟨_,rfl,_,rfl,_,_,rfl,rfl,_,rfl,hR⟩) (fun e R hR=>?_) (fun e R hR=>?_) ?_
   ·have e:=of_decide_eq_true e
    rw [if_pos (by omega)] at hR
    exact hR
   ·have e:=of_decide_eq_false e
    rw [if_neg (by omega)] at hR
    exact ⟨_,rfl,ca,_,cdx,_,_,rfl,c3,T.lCosts,T.nCosts_replacing,fCosts_replacing,hR⟩
   refine ⟨_,_,rfl,rfl,?_⟩
   refine ⟨_,rfl,.inl ⟨rfl,_,SqL.of l3⟩,_,rfl,?_⟩
   refine ⟨_,rfl,_,rfl,_,_,rfl,rfl,ra,_,_,_,rfl,rfl,SqL.of r3,at_of (j:=i+1) (by show (i:Int)+1=_;omega) (text_ix (at_getD (by omega))),_,rfl,ca,_,cdx,_,_,rfl,c3,T.lCosts,T.nCosts_leaving,fCosts_leaving,_,_,rfl,rfl,?_⟩
   have li:((nextRow k y row a).take (i+1))[i]?=some ((nextRow k y row a).getD i 0):=by
    rw [List.getElem?_take_of_lt (by omega)]
    exact at_getD (by omega)
   refine ⟨_,rfl,_,rfl,lo,_,_,_,rfl,rfl,SqL.of l3,at_of (j:=i) rfl (text_ix li),_,rfl,ca,_,cdx,_,_,rfl,c3,T.lCosts,T.nCosts_putting,fCosts_putting,_,_,rfl,rfl,?_⟩
   refine ⟨_,_,_,rfl,lo,_,_,rfl,rfl,l3,small1000 (by rw [List.length_map,List.length_take];omega),?_⟩
   refine ⟨fun b o z=>?_,?_,_,_,_,rfl⟩
   ·rw [upd_ne (ne_of_none z hlo)]
    exact sH _ _ z
   ·rw [upd_same,List.take_succ (i:=i+1),at_getD (by omega),Vm.nextRow_at hl hi,List.map_append]
    show some (HO.lst (_++ [V.int _]))=some (HO.lst (_++ [V.int ((stepD k a (y.getD i 0) (row.getD i 0) (row.getD (i+1) 0) ((nextRow k y row a).getD i 0):Nat):Int)]))
    unfold stepD
    congr 5
    omega
  ·rintro σ H' ⟨s2,l2,v5,v6,v7,rfl⟩
   rw [List.length_map,List.take_of_length_le (by omega)] at l2
   exact ⟨_,rfl,q H' lo l2 s2 hlo⟩
def spDB (A:Ad):Sp:=fun vs H Q _=>∃(xa ya ca:Addr) (x y:Text) (k:Costs),vs= [.ref xa,.ref ya,.ref ca]∧TextAt H xa x∧TextAt H ya y∧CostsAt A H ca k∧Vm.CostsOk k∧y.length≤64∧∀H',Same H H'→Q (vN (Vaglrl.distance k x y)) H'
abbrev nDB:List Str:= ["first","second","costs","row","byte","k"]
theorem scDB:FnScope nDB ["first","second","costs"] (defScope sDistanceBetween):=⟨rfl,rfl,rfl,by decide+kernel,rfl,by decide+kernel,by decide+kernel⟩
theorem okDB {f fR:Addr} {fd fdR:FuncData} (F:Fun K "distance_between" "distance_between" sDistanceBetween f fd) (T:Txt A K mg) (RW:Cl P w K mg base CX0 1 "row_with_byte" fR fdR ["row","byte","second","costs"] (spRWB A)):
  FnOk P w K mg base CX0 2 f fd ["first","second","costs"] (spDB A):=by
 refine F.ok scDB (fun vs H Q E h=>?_) (fun cdv A' outer s H vs Q E hr h=>?_)
 ·obtain ⟨xa,ya,ca,x,y,k,rfl,_⟩:=h
  rfl
 ·obtain ⟨xa,ya,ca,x,y,k,rfl,hxa,hya,⟨cdx,hca⟩,ok,hy,q⟩:=h
  refine ⟨_,pss_cons (ps_setLc (i:=3) (own:= [("k",5)]) (te:=tOp (rI CMul fun i j=>.int (i * j)) (tFld K (tVar 2) "putting") (tVar 5)) rfl scDB.nd rfl rfl (sw_true rfl rfl rfl rfl) (pi_range1 rfl T.b_range (pa_cons (pe_op op_add (pe_callB call_len_seq (by rfl) T.b_len PySem.boot_len (pa_cons (pv 1) pa_nil)) pe_int) pa_nil)) (blkOk_by (by show blkC nDB (defScope sDistanceBetween) _ _=true;decide+kernel))
    (fun s H C cl fp=>pg_name (i:=5) scDB.nd rfl (Or.inl rfl)) (fun s H C cl fp=>pts_nil) (fun s H C cl fp=>pe_op op_mul (pe_fld (pv 2) rfl) (pv 5)))
   (pss_cons (ps_for PassesOwn.never rfl (pi_list (pv 0)) (pg_name (i:=4) scDB.nd rfl (Or.inl rfl))
    (pss_one (ps_set (i:=3) scDB.nd rfl (Or.inl rfl) (pe_call RW.ok hr rfl RW.m RW.kp RW.b .nil pass0 (pa_cons (pv 3) (pa_cons (pv 4) (pa_cons (pv 1) (pa_cons (pv 2) pa_nil))))))))
   (pss_one (ps_ret (pe_ix ix_list (pv 3) (pe_un un_neg pe_int) (fun _ _=>rfl))))),?_⟩
  refine ⟨_,rfl,ya,_,rfl,.inl (SqL.of hya),_,_,rfl,rfl,(y.length:Int)+1,by rw [List.length_map],by omega,by omega,fun D hD=>lc_range (fun i H'=>Same H H'∧H' D=some (.lst (((Vaglrl.firstRow k y).take i).map vN))) ⟨Same.upd hD,upd_same⟩ ?_ ?_⟩
  ·rintro i H' hi ⟨s1,d1⟩
   have hi:i<y.length+1:=by omega
   refine ⟨rfl,tyes ⟨_,rfl,ca,_,cdx,_,_,rfl,s1 _ _ hca,T.lCosts,T.nCosts_putting,fCosts_putting,_,rfl,_,_,rfl,rfl,.inl ⟨by have:=ok.i9;omega,by have:=ok.i9;omega⟩,_,d1,small1000 (by rw [List.length_map,List.length_take];omega),fun b o e=>?_,?_⟩⟩
   ·rw [upd_ne (ne_of_none e hD)]
    exact s1 _ _ e
   ·have hf:(Vaglrl.firstRow k y)[i]?=some (i * k.insert):=by
     unfold Vaglrl.firstRow
     rw [List.getElem?_map,List.getElem?_range hi]
     rfl
    rw [upd_same,List.take_succ,hf,List.map_append]
    show some (HO.lst (_++ [V.int ((k.insert:Int) * ((0:Int)+(i:Int)))]))=some (HO.lst (_++ [V.int ((i * k.insert:Nat):Int)]))
    rw [Int.zero_add,Int.natCast_mul,Int.mul_comm]
  ·rintro H1 ⟨s1,d1⟩
   have fl:(Vaglrl.firstRow k y).length=y.length+1:=by unfold Vaglrl.firstRow;rw [List.length_map,List.length_range]
   rw [List.take_of_length_le (by omega)] at d1
   refine ⟨_,rfl,xa,rfl,⟨_,SqL.of (s1 _ _ hxa)⟩,for_list (xs:=x.map vN) (fun i σ H'=>Same H H'∧∃ra v4,TextAt H' ra (rowsTo k (x.take i) y)∧σ= [some (.ref xa),some (.ref ya),some (.ref ca),some (.ref ra),v4,none]) ⟨s1,D,_,d1,rfl⟩ (fun i σ H' _ h=>SqL.of (h.1 _ _ hxa)) ?_ ?_⟩
   ·rintro i v σ H' hv ⟨s2,ra,v4,r2,rfl⟩
    rw [List.getElem?_map] at hv
    have hi:i<x.length:=by
     rcases Nat.lt_or_ge i x.length with z|z
     ·exact z
     ·rw [List.getElem?_eq_none z] at hv
      cases hv
    rw [at_getD hi] at hv
    have hv:vN (x.getD i 0)=v:=Option.some.inj hv
    subst hv
    refine ⟨_,rfl,_,rfl,_,rfl,_,rfl,ra,ya,ca,_,y,k,x.getD i 0,rfl,r2,s2 _ _ hya,⟨cdx,s2 _ _ hca⟩,Vm.rowsTo_len _ _ _,hy,fun H3 p hp s3 n3=>?_⟩
    refine ⟨s2.trans s3,p,_,?_,rfl⟩
    rw [List.take_succ,at_getD hi]
    show TextAt H3 p (rowsTo k (x.take i++ [x.getD i 0]) y)
    rw [Vm.rowsTo_snoc]
    exact hp
   ·rintro σ H' ⟨s2,ra,v4,r2,rfl⟩
    rw [List.length_map,List.take_length] at r2
    have ln:=Vm.rowsTo_len k y x
    obtain ⟨m,z,e⟩:∃m z,rowsTo k x y=m++ [z]:=by
     rcases List.eq_nil_or_concat (rowsTo k x y) with e|⟨m,z,e⟩
     ·rw [e] at ln
      simp at ln
     ·exact ⟨m,z,by rw [e];simp⟩
    have dz:Vaglrl.distance k x y=z:=by
     rw [Vm.distance_is,e]
     simp
    rw [e] at r2
    have r2':H' ra=some (.lst (m.map vN++ [vN z])):=by
     have:(m++ [z]).map vN=m.map vN++ [vN z]:=by rw [List.map_append];rfl
     rw [←this]
     exact r2
    have q:=q H' s2
    rw [dz] at q
    exact ⟨_,rfl,_,rfl,ra,_,_,_,rfl,rfl,SqL.of r2',atI_last _ _,q⟩
end
end Lr
namespace Lr
open PySem PySem.Spec PyProof.Rows L2 LX
open Vaglrl (Costs Text Cell Change)
open Vaglrc (Sym Rule Grammar)
section
variable {P:Program} {w:World} {K:PySem.W.Frag} {mg:Str→Option Value} {base:Heap} {A:Ad}
def spAD (A:Ad):Sp:=fun vs H Q _=>∃(hp ra:Addr) (st:Vaglrl.State) (row:List Int),vs= [.ref hp,.ref ra]∧HeldSt A H hp st∧H ra=some (.lst (row.map V.int))∧row.length≤100000∧Ans A hp H Q (Vaglrl.step st (.distance row))
theorem scAD:FnScope ["held","row","refusal"] ["held","row"] (defScope sAnswerDistance):=⟨rfl,rfl,rfl,by decide+kernel,rfl,by decide+kernel,by decide+kernel⟩
theorem okAD {f fB fD:Addr} {fd fdB fdD:FuncData} (F:Fun K "answer_distance" "answer_distance" sAnswerDistance f fd) (T:Txt A K mg) (D:Dis A) (RB:Cl P w K mg base CX0 1 "refusal_of_bytes" fB fdB ["row","most"] spRB)
  (DB:Cl P w K mg base CX0 2 "distance_between" fD fdD ["first","second","costs"] (spDB A)):FnOk P w K mg base CX0 3 f fd ["held","row"] (spAD A):=by
 obtain ⟨t2,kD⟩:=T.kDONE
 obtain ⟨t4,kL⟩:=T.kMOST_OTHER_LETTERS
 refine F.ok scAD (fun vs H Q E h=>?_) (fun cdv A' outer s H vs Q E hr h=>?_)
 ·obtain ⟨hp,ra,st,row,rfl,_⟩:=h
  rfl
 ·obtain ⟨hp,ra,st,row,rfl,HS,hrow,hlen,q⟩:=h
  have hr1:Room 1 _:=hr.mono (by decide)
  refine ⟨_,pss_cons (ps_set (i:=2) scAD.nd rfl (Or.inl rfl) (pe_call RB.ok hr1 rfl RB.m RB.kp RB.b .nil pass0 (pa_cons (pv 1) (pa_cons (pe_glob (v:=.int 64) rfl kL ⟨_,rfl⟩) pa_nil))))
   (pss_cons (ps_if (pt_cmp (pc_notN (pv 2))) (pss_one (ps_ret (pe_lst (pa_cons (pv 2) pa_nil)))) pss_nil)
   (pss_one (ps_ret (pe_lst (pa_cons (pe_glob (v:=.int 0) rfl kD ⟨_,rfl⟩) (pa_cons (pe_call DB.ok hr rfl DB.m DB.kp DB.b .nil pass0 (pa_cons (pe_fld (pv 0) rfl) (pa_cons (pv 1) (pa_cons (pe_fld (pv 0) rfl) pa_nil)))) pa_nil)))))),?_⟩
  refine ⟨_,rfl,ra,row,64,rfl,hrow,hlen,fun H1 s1=>?_⟩
  have HS1:=HS.same D s1
  have qe:Vaglrl.step st (.distance row)=(st,if Vaglrl.badBytes row then [-1] else if 64<row.length then [-3] else [0,(Vaglrl.distance st.costs st.text (Vaglrl.toNats row):Int)]):=rfl
  rw [qe] at q
  unfold refV
  by_cases hb:Vaglrl.badBytes row=true
  ·rw [if_pos hb] at q ⊢
   exact ⟨_,rfl,_,rfl,iteB (fun _=>⟨_,rfl,(by show 1≤sizeLine;decide),fun b hb=>q.ret D (Same.kept s1) HS1 (by decide) hb⟩) (fun z=>nomatch z)⟩
  ·rw [if_neg hb] at q ⊢
   have nn:=bad_no (Bool.eq_false_iff.mpr hb)
   by_cases hm:64<row.length
   ·rw [if_pos hm] at q ⊢
    exact ⟨_,rfl,_,rfl,iteB (fun _=>⟨_,rfl,(by show 1≤sizeLine;decide),fun b hb=>q.ret D (Same.kept s1) HS1 (by decide) hb⟩) (fun z=>nomatch z)⟩
   ·rw [if_neg hm] at q ⊢
    obtain ⟨dx,ga,ca,la,cv,h1,h2,h3,h4,h5⟩:=HS1.obj
    refine ⟨_,rfl,_,rfl,iteB (fun z=>nomatch z) (fun _=>?_)⟩
    refine ⟨_,rfl,hp,_,dx,_,_,rfl,h1,T.lHeld,T.nHeld_letters,fHeld_letters,_,rfl,_,rfl,hp,_,dx,_,_,rfl,h1,T.lHeld,T.nHeld_costs,fHeld_costs,?_⟩
    refine ⟨la,ra,ca,st.text,Vaglrl.toNats row,st.costs,rfl,h4,text_of (s1 _ _ hrow) nn,h3,HS.ok,by unfold Vaglrl.toNats;rw [List.length_map];omega,fun H2 s2=>?_⟩
    exact ⟨(by show 2≤sizeLine;decide),fun b hb=>q.ret D (Same.kept (s1.trans s2)) (HS1.same D s2) (by show 2≤300;decide) hb⟩
def byCell (k:Vaglrl.Call) (c a i j:Int):Prop:=(c=6∧k=.cost a i j)∨(c=7∧k=.way a i j)
def spBC (A:Ad):Sp:=fun vs H Q _=>∃(hp ra:Addr) (st:Vaglrl.State) (k:Vaglrl.Call) (c a i j:Int),vs= [.ref hp,.int c,.ref ra]∧HeldSt A H hp st∧H ra=some (.lst ([a,i,j].map V.int))∧byCell k c a i j∧Ans A hp H Q (Vaglrl.step st k)
theorem scBC:FnScope ["held","call","three","nonterminal","i","j","cell"] ["held","call","three"] (defScope sAnswerByCell):=⟨rfl,rfl,rfl,by decide+kernel,rfl,by decide+kernel,by decide+kernel⟩
theorem step_cell {st:Vaglrl.State} {k:Vaglrl.Call} {c a i j:Int} (h:byCell k c a i j):Vaglrl.step st k=(st,Vaglrl.onPiece st a i j (Vaglrl.cellAnswer st (decide (c=7)))):=by
 rcases h with ⟨rfl,rfl⟩|⟨rfl,rfl⟩<;>rfl
theorem okBC {f fO fA:Addr} {fd fdO fdA:FuncData} (F:Fun K "answer_by_cell" "answer_by_cell" sAnswerByCell f fd) (T:Txt A K mg) (D:Dis A) (CO:Cl P w K mg base CX0 8 "cells_of" fO fdO ["held"] (spCO A))
  (AT:Mt P w K mg base CX0 1 A.cCells "at" fA fdA ["self","nonterminal","i","j"] (spAt A)):FnOk P w K mg base CX0 9 f fd ["held","call","three"] (spBC A):=by
 obtain ⟨t0,kN⟩:=T.kNONE_THERE
 obtain ⟨t1,kT⟩:=T.kNO_NONTERMINAL
 obtain ⟨t2,kD⟩:=T.kDONE
 obtain ⟨t3,kO⟩:=T.kOUT_OF_BOUNDS
 obtain ⟨t4,kC⟩:=T.kCOST
 refine F.ok scBC (fun vs H Q E h=>?_) (fun cdv A' outer s H vs Q E hr h=>?_)
 ·obtain ⟨hp,ra,st,k,c,a,i,j,rfl,_⟩:=h
  rfl
 ·obtain ⟨hp,ra,st,k,c,a,i,j,rfl,HS,hrow,hk,q⟩:=h
  have hr1:Room 1 _:=hr.mono (by decide)
  obtain ⟨dx,ga,ca,la,cv,h1,h2,h3,h4,h5⟩:=HS.obj
  obtain ⟨gdx,gra,gps,hgo,hgr⟩:=h2
  refine ⟨_,pss_cons (ps_set (i:=3) scBC.nd rfl (Or.inl rfl) (pe_ix ix_list (pv 2) pe_int (fun _ _=>rfl)))
   (pss_cons (ps_set (i:=4) scBC.nd rfl (Or.inl rfl) (pe_ix ix_list (pv 2) pe_int (fun _ _=>rfl)))
   (pss_cons (ps_set (i:=5) scBC.nd rfl (Or.inl rfl) (pe_ix ix_list (pv 2) pe_int (fun _ _=>rfl)))
   (pss_cons (ps_if (PW.pt (pw_or (pt_cmpR op_lt (pv 3) pe_int (nomark _)) (pw_or1 (pt_cmpR op_ge (pv 3) (pe_fld (pe_fld (pv 0) rfl) rfl) (nomark _))))) (pss_one (ps_ret (pe_lst (pa_cons (pe_glob (v:=.int (-4)) rfl kT ⟨_,rfl⟩) pa_nil)))) pss_nil)
   (pss_cons (ps_if (PW.pt (pw_or (pt_cmpR op_lt (pv 4) pe_int (nomark _)) (pw_or (pt_cmpR op_lt (pv 5) (pv 4) (nomark _)) (pw_or1 (pt_cmpR op_gt (pv 5) (pe_callB call_len_seq (by rfl) T.b_len PySem.boot_len (pa_cons (pe_fld (pv 0) rfl) pa_nil)) (nomark _)))))) (pss_one (ps_ret (pe_lst (pa_cons (pe_glob (v:=.int (-5)) rfl kO ⟨_,rfl⟩) pa_nil)))) pss_nil)
   (pss_cons (ps_set (i:=6) scBC.nd rfl (Or.inl rfl) (pe_meth (pe_call CO.ok hr rfl CO.m CO.kp CO.b .nil pass0 (pa_cons (pv 0) pa_nil)) T.lCells AT.m AT.ok hr1 AT.b .nil pass0 (pa_cons (pv 3) (pa_cons (pv 4) (pa_cons (pv 5) pa_nil)))))
   (pss_cons (ps_if (pt_cmp (pc_isN (pv 6))) (pss_one (ps_ret (pe_lst (pa_cons (pe_glob (v:=.int 1) rfl kN ⟨_,rfl⟩) pa_nil)))) pss_nil)
   (pss_cons (ps_if (pt_cmp (pc_eqI (pv 1) (pe_glob (v:=.int 6) rfl kC ⟨_,rfl⟩))) (pss_one (ps_ret (pe_lst (pa_cons (pe_glob (v:=.int 0) rfl kD ⟨_,rfl⟩) (pa_cons (pe_fld (pv 6) rfl) pa_nil))))) pss_nil)
   (pss_one (ps_ret (pe_op op_cat (pe_lst (pa_cons (pe_glob (v:=.int 0) rfl kD ⟨_,rfl⟩) (pa_cons (pe_fld (pv 6) rfl) (pa_cons (pe_fld (pv 6) rfl) (pa_cons (pe_callB call_len_seq (by rfl) T.b_len PySem.boot_len (pa_cons (pe_fld (pv 6) rfl) pa_nil)) pa_nil))))) (pe_fld (pv 6) rfl))))))))))),?_⟩
  rw [step_cell hk] at q
  refine ⟨_,rfl,ra,_,_,_,rfl,rfl,SqL.of hrow,at_of (j:=0) rfl rfl,_,rfl,ra,_,_,_,rfl,rfl,SqL.of hrow,at_of (j:=1) rfl rfl,_,rfl,ra,_,_,_,rfl,rfl,SqL.of hrow,at_of (j:=2) rfl rfl,?_⟩
  have b4:a<0∨(st.grammar.nons:Int)≤a→∀b,H b=none→Q (.ref b) (upd H b (.lst [.int (-4)])):=fun z b hb=>by
   have e:Vaglrl.onPiece st a i j (Vaglrl.cellAnswer st (decide (c=7)))= [-4]:=by
    unfold Vaglrl.onPiece
    by_cases z1:a<0
    ·rw [if_pos z1]
    ·rw [if_neg z1,if_pos (by omega)]
   rw [e] at q
   exact q.ret D (Kept.refl _ _) HS (by decide) hb
  refine ⟨_,rfl,_,_,rfl,rfl,_,rfl,iteD (fun e=>iteT ⟨(by show 1≤sizeLine;decide),b4 (.inl e)⟩) (fun e0=>?_)⟩
  refine ⟨_,rfl,_,rfl,hp,_,dx,_,_,rfl,h1,T.lHeld,T.nHeld_grammar,fHeld_grammar,ga,_,gdx,_,_,rfl,hgo,T.lGrammar,T.nGrammar_nonterminals,fGrammar_nonterminals,_,_,rfl,rfl,_,rfl,iteD (fun e=>⟨(by show 1≤sizeLine;decide),b4 (.inr e)⟩) (fun e1=>?_)⟩
  have b5:i<0∨j<i∨(st.text.length:Int)<j→∀b,H b=none→Q (.ref b) (upd H b (.lst [.int (-5)])):=fun z b hb=>by
   have e:Vaglrl.onPiece st a i j (Vaglrl.cellAnswer st (decide (c=7)))= [-5]:=by
    unfold Vaglrl.onPiece
    rw [if_neg (by omega),if_neg (by omega)]
    by_cases z1:i<0
    ·rw [if_pos z1]
    ·rw [if_neg z1]
     by_cases z2:j<i
     ·rw [if_pos z2]
     ·rw [if_neg z2,if_pos (by omega)]
   rw [e] at q
   exact q.ret D (Kept.refl _ _) HS (by decide) hb
  refine ⟨_,rfl,_,_,rfl,rfl,_,rfl,iteD (fun e=>iteT ⟨(by show 1≤sizeLine;decide),b5 (.inl e)⟩) (fun e2=>?_)⟩
  refine ⟨_,rfl,_,rfl,_,_,rfl,rfl,_,rfl,iteD (fun e=>iteT ⟨(by show 1≤sizeLine;decide),b5 (.inr (.inl e))⟩) (fun e3=>?_)⟩
  refine ⟨_,rfl,_,rfl,hp,_,dx,_,_,rfl,h1,T.lHeld,T.nHeld_letters,fHeld_letters,la,_,rfl,.inl (SqL.of h4),_,_,rfl,rfl,_,rfl,iteD (fun e=>⟨(by show 1≤sizeLine;decide),b5 (.inr (.inr (by rw [List.length_map] at e;exact e)))⟩) (fun e4=>?_)⟩
  rw [List.length_map] at e4
  have qe:Vaglrl.onPiece st a i j (Vaglrl.cellAnswer st (decide (c=7)))=Vaglrl.cellAnswer st (decide (c=7)) a.toNat i.toNat j.toNat:=by
   unfold Vaglrl.onPiece
   rw [if_neg (by omega),if_neg (by omega),if_neg (by omega),if_neg (by omega),if_neg (by omega)]
  rw [qe] at q
  have ea:V.int a=vN a.toNat:=by show V.int a=V.int ((a.toNat:Nat):Int);rw [show ((a.toNat:Nat):Int)=a by omega]
  have ei:V.int i=vN i.toNat:=by show V.int i=V.int ((i.toNat:Nat):Int);rw [show ((i.toNat:Nat):Int)=i by omega]
  have ej:V.int j=vN j.toNat:=by show V.int j=V.int ((j.toNat:Nat):Int);rw [show ((j.toNat:Nat):Int)=j by omega]
  have va:Vm.Valid st.grammar st.text (a.toNat,i.toNat,j.toNat):=⟨by show a.toNat<_;omega,by show i.toNat≤j.toNat;omega,by show j.toNat≤_;omega⟩
  refine ⟨_,rfl,hp,st,rfl,HS,fun H1 cp tb fo H0 kvs es HS1 k1 c0 C1=>?_⟩
  obtain ⟨dxc,ga',la',ca',ho,_⟩:=C1.obj
  refine ⟨cp,dxc,_,rfl,ho,fCells_no_at,_,rfl,_,rfl,_,rfl,?_⟩
  refine ⟨H0,cp,tb,fo,st.grammar,st.costs,st.text,_,kvs,es,a.toNat,i.toNat,j.toNat,by rw [ea,ei,ej];rfl,C1,va,fun e H2 s2=>?_,fun cl e H2 cb hcb s2=>?_⟩
  ·have qn:Vaglrl.cellAnswer st (decide (c=7)) a.toNat i.toNat j.toNat= [1]:=by
    unfold Vaglrl.cellAnswer
    rw [show Vaglrl.cellAt (Vaglrl.tableOf st.grammar st.costs st.text) a.toNat i.toNat j.toNat=none from e]
   rw [qn] at q
   refine ⟨_,rfl,_,rfl,iteD (fun _=>⟨(by show 1≤sizeLine;decide),fun b hb=>q.ret D (k1.trans (Same.kept s2)) (HS1.same D s2) (by decide) hb⟩) (fun z=>absurd rfl z)⟩
  ·obtain ⟨cdx,eaa,z1,z2,z3⟩:=hcb
   have qn:Vaglrl.cellAnswer st (decide (c=7)) a.toNat i.toNat j.toNat=if decide (c=7) then 0::Vaglrl.toInts (cl.cost::cl.rule::cl.ends.length::cl.ends) else [0,(cl.cost:Int)]:=by
    unfold Vaglrl.cellAnswer
    rw [show Vaglrl.cellAt (Vaglrl.tableOf st.grammar st.costs st.text) a.toNat i.toNat j.toNat=some cl from e]
   rw [qn] at q
   have HS2:=HS1.same D s2
   have k2:Kept hp H H2:=k1.trans (Same.kept s2)
   have e8:cl.ends.length≤8:=by
    obtain ⟨r,hr1,hr2⟩:=Vm.cell_fits (g:=st.grammar) (k:=st.costs) (x:=st.text) HS.go.n20 HS.short va.2.1 va.2.2 e
    rw [hr2.len]
    exact HS.go.syms r (List.mem_of_getElem? hr1)
   refine ⟨_,rfl,_,rfl,iteD (fun z=>nomatch z) (fun _=>?_)⟩
   rcases hk with ⟨rfl,rfl⟩|⟨rfl,rfl⟩
   ·rw [if_neg (by decide)] at q
    refine ⟨_,rfl,_,_,rfl,rfl,_,rfl,ifY (by decide) ?_⟩
    exact ⟨_,rfl,cb,_,cdx,_,_,rfl,z1,T.lCell,T.nCell_cost,fCell_cost,(by show 2≤sizeLine;decide),fun b hb=>q.ret D k2 HS2 (by show 2≤300;decide) hb⟩
   ·rw [if_pos (by decide)] at q
    refine ⟨_,rfl,_,_,rfl,rfl,_,rfl,ifN (by decide) ?_⟩
    refine ⟨_,rfl,cb,_,cdx,_,_,rfl,z1,T.lCell,T.nCell_cost,fCell_cost,_,rfl,cb,_,cdx,_,_,rfl,z1,T.lCell,T.nCell_rule,fCell_rule,_,rfl,cb,_,cdx,_,_,rfl,z1,T.lCell,T.nCell_ends,fCell_ends,eaa,_,rfl,.inl (SqL.of z2),(by show 4≤sizeLine;decide),fun z hz=>?_⟩
    have s3:=Same.upd (o:=.lst [.int 0,vN cl.cost,vN cl.rule,.int ((cl.ends.map vN).length:Int)]) hz
    refine ⟨_,rfl,cb,_,cdx,_,_,rfl,s3 _ _ z1,T.lCell,T.nCell_ends,fCell_ends,z,eaa,_,_,rfl,rfl,upd_same,s3 _ _ z2,size_ok (by rw [List.length_map];show 4+_≤100000;omega),fun b hb=>?_⟩
    have ev:([.int 0,vN cl.cost,vN cl.rule,.int ((cl.ends.map vN).length:Int)]++cl.ends.map vN:List V)=(0::Vaglrl.toInts (cl.cost::cl.rule::cl.ends.length::cl.ends)).map V.int:=by
     rw [List.length_map]
     unfold Vaglrl.toInts
     rw [List.map_cons,List.map_map,List.map_cons,List.map_cons,List.map_cons]
     rfl
    rw [ev]
    exact q.ret D (k2.trans (Same.kept s3)) (HS2.same D s3) (by show (Vaglrl.toInts _).length+1≤300;unfold Vaglrl.toInts;rw [List.length_map,List.length_cons,List.length_cons,List.length_cons];omega) hb
end
end Lr
namespace Lr
open PySem PySem.Spec PyProof.Rows L2 LX
open Vaglrl (Costs Text Cell Change)
open Vaglrc (Sym Rule Grammar)
open Vm (callNo)
theorem is_load {k:Vaglrl.Call} (h:callNo k=0):∃r,k=.load r:=by cases k<;>first|exact ⟨_,rfl⟩|(simp [callNo] at h)
theorem is_costs {k:Vaglrl.Call} (h:callNo k=1):∃a b d,k=.costs a b d:=by cases k<;>first|exact ⟨_,_,_,rfl⟩|(simp [callNo] at h)
theorem is_text {k:Vaglrl.Call} (h:callNo k=2):∃r,k=.text r:=by cases k<;>first|exact ⟨_,rfl⟩|(simp [callNo] at h)
theorem is_least {k:Vaglrl.Call} (h:callNo k=3):k=.least:=by cases k<;>first|rfl|(simp [callNo] at h)
theorem is_dist {k:Vaglrl.Call} (h:callNo k=8):∃r,k=.distance r:=by cases k<;>first|exact ⟨_,rfl⟩|(simp [callNo] at h)
theorem in_told {k:Vaglrl.Call} (h:inV (.int (callNo k)) [.int 4,.int 5,.int 9]=true):byTold k (callNo k):=by
 cases k<;>first|exact .inl ⟨rfl,rfl⟩|exact .inr (.inl ⟨rfl,rfl⟩)|exact .inr (.inr ⟨rfl,rfl⟩)|exact absurd h (by show¬(false=true);decide)
theorem in_cell {k:Vaglrl.Call} (h:inV (.int (callNo k)) [.int 6,.int 7]=true):∃a i j,byCell k (callNo k) a i j:=by
 cases k<;>first|exact ⟨_,_,_,.inl ⟨rfl,rfl⟩⟩|exact ⟨_,_,_,.inr ⟨rfl,rfl⟩⟩|exact absurd h (by show¬(false=true);decide)
theorem in_none {k:Vaglrl.Call} (h0:¬callNo k=0) (h1:¬callNo k=1) (h2:¬callNo k=2) (h3:¬callNo k=3) (h4:inV (.int (callNo k)) [.int 4,.int 5,.int 9]=false) (h5:inV (.int (callNo k)) [.int 6,.int 7]=false) (h8:¬callNo k=8):False:=by
 cases k<;>first|exact h0 rfl|exact h1 rfl|exact h2 rfl|exact h3 rfl|exact h8 rfl|exact absurd h4 (by show¬(true=false);decide)|exact absurd h5 (by show¬(true=false);decide)
def Kept2 (p r:Addr) (H H':Hp):Prop:=∀b o,H b=some o→b≠p→b≠r→H' b=some o
section
variable {P:Program} {w:World} {K:PySem.W.Frag} {mg:Str→Option Value} {base:Heap} {A:Ad}
theorem HeldSt.rd {H H':Hp} {hp rp ca:Addr} {st:Vaglrl.State} {calls:List Int} {n:Nat} (h:HeldSt A H hp st) (D:Dis A) (ne:hp≠rp) (R:CrAt A K H rp ca calls n) (k:Kept rp H H'):HeldSt A H' hp st:=by
 obtain ⟨dx,ho⟩:=R.obj
 obtain ⟨dx',ga,ca',la,cv,h1,_⟩:=h.obj
 exact h.off D (Kept.off k ho (.inr rfl)) (by rw [h1,k _ _ h1 ne])
theorem CrAt.held {H H':Hp} {hp rp ca:Addr} {st:Vaglrl.State} {calls:List Int} {n:Nat} (R:CrAt A K H rp ca calls n) (h:HeldSt A H hp st) (ne:hp≠rp) (k:Kept hp H H'):CrAt A K H' rp ca calls n:=by
 obtain ⟨dx,ho⟩:=R.obj
 obtain ⟨dx',ga,ca',la,cv,h1,_⟩:=h.obj
 exact ⟨⟨dx,k _ _ ho (Ne.symm ne)⟩,LsAt.kept k h1 R.ls,R.le⟩
def spCall (A:Ad) (K:PySem.W.Frag):Sp:=fun vs H Q _=>∃(hp rp ca:Addr) (st:Vaglrl.State) (calls:List Int) (n m:Nat) (k:Vaglrl.Call),vs= [.ref hp,.ref rp]∧HeldSt A H hp st∧CrAt A K H rp ca calls n∧hp≠rp∧Vm.Dec calls n k m∧calls.length≤16000∧
 ∀(H':Hp) (b:Addr),HeldSt A H' hp (Vaglrl.step st k).1→CrAt A K H' rp ca calls m→Kept2 hp rp H H'→H b=none→(Vaglrl.step st k).2.length≤300→H' b=some (.lst ((Vaglrl.step st k).2.map V.int))→Q (.ref b) H'
theorem scCall:FnScope ["held","reader","call"] ["held","reader"] (defScope sAnswerCall):=⟨rfl,rfl,rfl,by decide+kernel,rfl,by decide+kernel,by decide+kernel⟩
theorem okCall {f f1 fN fR fL fC fT fM fB fE fD:Addr} {fd fd1 fdN fdR fdL fdC fdT fdM fdB fdE fdD:FuncData} (F:Fun K "answer_call" "answer_call" sAnswerCall f fd) (T:Txt A K mg) (D:Dis A)
  (T1:Mt P w K mg base CX0 2 A.cCallReader "take_number" f1 fd1 ["self"] (spT1 A K)) (TN:Mt P w K mg base CX0 1 A.cCallReader "take_numbers" fN fdN ["self","how_many"] (spTN A K)) (RO:Mt P w K mg base CX0 3 A.cCallReader "take_row" fR fdR ["self"] (spRow A K))
  (LD:Cl P w K mg base CX0 5 "answer_load" fL fdL ["held","row"] (spLoad A)) (CS:Cl P w K mg base CX0 3 "answer_costs" fC fdC ["held","three"] (spCst A)) (TX:Cl P w K mg base CX0 2 "answer_text" fT fdT ["held","row"] (spText A)) (LS:Cl P w K mg base CX0 10 "answer_least" fM fdM ["held"] (spLeast A))
  (BR:Cl P w K mg base CX0 10 "answer_by_repair" fB fdB ["held","call"] (spBR A)) (BC:Cl P w K mg base CX0 9 "answer_by_cell" fE fdE ["held","call","three"] (spBC A)) (AD:Cl P w K mg base CX0 3 "answer_distance" fD fdD ["held","row"] (spAD A)):
  FnOk P w K mg base CX0 11 f fd ["held","reader"] (spCall A K):=by
 obtain ⟨t0,k0⟩:=T.kLOAD
 obtain ⟨t1,k1'⟩:=T.kCOSTS
 obtain ⟨t2,k2'⟩:=T.kTEXT
 obtain ⟨t3,k3'⟩:=T.kLEAST
 obtain ⟨t4,k4'⟩:=T.kREPAIR
 obtain ⟨t5,k5'⟩:=T.kCHANGES
 obtain ⟨t6,k6'⟩:=T.kCOST
 obtain ⟨t7,k7'⟩:=T.kWAY
 obtain ⟨t8,k8'⟩:=T.kDISTANCE
 obtain ⟨t9,k9'⟩:=T.kAPPLY
 refine F.ok scCall (fun vs H Q E h=>?_) (fun cdv A' outer s H vs Q E hr h=>?_)
 ·obtain ⟨hp,rp,ca,st,calls,n,m,k,rfl,_⟩:=h
  rfl
 ·obtain ⟨hp,rp,ca,st,calls,n,m,k,rfl,HS,R,ne,hd,hl,q⟩:=h
  have r9:Room 9 _:=hr.mono (by decide)
  have r5:Room 5 _:=hr.mono (by decide)
  have r3:Room 3 _:=hr.mono (by decide)
  have r2:Room 2 _:=hr.mono (by decide)
  have r1:Room 1 _:=hr.mono (by decide)
  refine ⟨_,pss_cons (ps_set (i:=2) scCall.nd rfl (Or.inl rfl) (pe_meth0 (pv 1) T.lCallReader T1.m T1.ok r2 T1.b .nil pass0))
   (pss_cons (ps_if (pt_cmp (pc_eqI (pv 2) (pe_glob (v:=.int 0) rfl k0 ⟨_,rfl⟩))) (pss_one (ps_ret (pe_call LD.ok r5 rfl LD.m LD.kp LD.b .nil pass0 (pa_cons (pv 0) (pa_cons (pe_meth0 (pv 1) T.lCallReader RO.m RO.ok r3 RO.b .nil pass0) pa_nil))))) pss_nil)
   (pss_cons (ps_if (pt_cmp (pc_eqI (pv 2) (pe_glob (v:=.int 1) rfl k1' ⟨_,rfl⟩))) (pss_one (ps_ret (pe_call CS.ok r3 rfl CS.m CS.kp CS.b .nil pass0 (pa_cons (pv 0) (pa_cons (pe_meth (pv 1) T.lCallReader TN.m TN.ok r1 TN.b .nil pass0 (pa_cons pe_int pa_nil)) pa_nil))))) pss_nil)
   (pss_cons (ps_if (pt_cmp (pc_eqI (pv 2) (pe_glob (v:=.int 2) rfl k2' ⟨_,rfl⟩))) (pss_one (ps_ret (pe_call TX.ok r2 rfl TX.m TX.kp TX.b .nil pass0 (pa_cons (pv 0) (pa_cons (pe_meth0 (pv 1) T.lCallReader RO.m RO.ok r3 RO.b .nil pass0) pa_nil))))) pss_nil)
   (pss_cons (ps_if (pt_cmp (pc_eqI (pv 2) (pe_glob (v:=.int 3) rfl k3' ⟨_,rfl⟩))) (pss_one (ps_ret (pe_call LS.ok hr rfl LS.m LS.kp LS.b .nil pass0 (pa_cons (pv 0) pa_nil)))) pss_nil)
   (pss_cons (ps_if (pt_cmpR op_in_seq (pv 2) (pe_tup (pa_cons (pe_glob (v:=.int 4) rfl k4' ⟨_,rfl⟩) (pa_cons (pe_glob (v:=.int 5) rfl k5' ⟨_,rfl⟩) (pa_cons (pe_glob (v:=.int 9) rfl k9' ⟨_,rfl⟩) pa_nil)))) rfl) (pss_one (ps_ret (pe_call BR.ok hr rfl BR.m BR.kp BR.b .nil pass0 (pa_cons (pv 0) (pa_cons (pv 2) pa_nil))))) pss_nil)
   (pss_cons (ps_if (pt_cmpR op_in_seq (pv 2) (pe_tup (pa_cons (pe_glob (v:=.int 6) rfl k6' ⟨_,rfl⟩) (pa_cons (pe_glob (v:=.int 7) rfl k7' ⟨_,rfl⟩) pa_nil))) rfl) (pss_one (ps_ret (pe_call BC.ok r9 rfl BC.m BC.kp BC.b .nil pass0 (pa_cons (pv 0) (pa_cons (pv 2) (pa_cons (pe_meth (pv 1) T.lCallReader TN.m TN.ok r1 TN.b .nil pass0 (pa_cons pe_int pa_nil)) pa_nil)))))) pss_nil)
   (pss_cons (ps_if (pt_cmp (pc_eqI (pv 2) (pe_glob (v:=.int 8) rfl k8' ⟨_,rfl⟩))) (pss_one (ps_ret (pe_call AD.ok r3 rfl AD.m AD.kp AD.b .nil pass0 (pa_cons (pv 0) (pa_cons (pe_meth0 (pv 1) T.lCallReader RO.m RO.ok r3 RO.b .nil pass0) pa_nil))))) pss_nil)
   (pss_one ps_never)))))))),?_⟩
  obtain ⟨rdx,hro⟩:=R.obj
  refine ⟨_,rfl,rp,rdx,_,rfl,hro,fCallReader_no_take_number,rp,ca,calls,n,callNo k,rfl,R,hd.no,fun H1 R1 k1=>?_⟩
  have HS1:=HS.rd D ne R k1
  obtain ⟨rdx1,hro1⟩:=R1.obj
  have fin:∀{H2:Hp},CrAt A K H2 rp ca calls m→Kept rp H H2→HeldSt A H2 hp st→Ans A hp H2 Q (Vaglrl.step st k):=fun {H2} R2 k2 h2 H' b hs kk nb hl' hb=>by
   obtain ⟨rdx2,hro2⟩:=R2.obj
   exact q H' b hs (R2.held h2 ne kk) (fun c o e n1 n2=>kk c o (k2 c o e n2) n1) (k2.free hro2 nb) hl' hb
  have rowl:∀len:Nat,((calls.drop (n+1+1)).take len).length≤100000:=fun len=>by
   rw [List.length_take,List.length_drop]
   omega
  refine ⟨_,rfl,_,_,rfl,rfl,_,rfl,iteD (fun e=>?_) (fun n0=>?_)⟩
  ·obtain ⟨row,rfl⟩:=is_load e
   obtain ⟨_,len,hv,hle,rfl,rfl⟩:=hd
   refine ⟨_,rfl,_,rfl,rp,rdx1,_,rfl,hro1,fCallReader_no_take_row,rp,ca,calls,n+1,len,rfl,R1,hv,hle,fun H2 b R2 k2 nb hb=>?_⟩
   exact ⟨hp,b,st,_,rfl,HS1.rd D ne R1 k2,hb,rowl len,fin R2 (k1.trans k2) (HS1.rd D ne R1 k2)⟩
  refine ⟨_,rfl,_,_,rfl,rfl,_,rfl,iteD (fun e=>?_) (fun n1=>?_)⟩
  ·obtain ⟨x,y,z,rfl⟩:=is_costs e
   obtain ⟨_,hle,h3,rfl⟩:=hd
   refine ⟨_,rfl,_,rfl,rp,rdx1,_,rfl,hro1,fCallReader_no_take_numbers,rp,ca,calls,n+1,3,rfl,R1,hle,fun H2 b R2 k2 nb hb=>?_⟩
   rw [h3] at hb
   exact ⟨hp,b,st,x,y,z,rfl,HS1.rd D ne R1 k2,hb,fin R2 (k1.trans k2) (HS1.rd D ne R1 k2)⟩
  refine ⟨_,rfl,_,_,rfl,rfl,_,rfl,iteD (fun e=>?_) (fun n2=>?_)⟩
  ·obtain ⟨row,rfl⟩:=is_text e
   obtain ⟨_,len,hv,hle,rfl,rfl⟩:=hd
   refine ⟨_,rfl,_,rfl,rp,rdx1,_,rfl,hro1,fCallReader_no_take_row,rp,ca,calls,n+1,len,rfl,R1,hv,hle,fun H2 b R2 k2 nb hb=>?_⟩
   exact ⟨hp,b,st,_,rfl,HS1.rd D ne R1 k2,hb,rowl len,fin R2 (k1.trans k2) (HS1.rd D ne R1 k2)⟩
  refine ⟨_,rfl,_,_,rfl,rfl,_,rfl,iteD (fun e=>?_) (fun n3=>?_)⟩
  ·obtain rfl:=is_least e
   obtain ⟨_,rfl⟩:=hd
   exact ⟨_,rfl,hp,st,rfl,HS1,fin R1 k1 HS1⟩
  refine ⟨_,rfl,(by show 3≤sizeLine;decide),fun t ht=>⟨t,_,rfl,.inr (SqT.of upd_same),rfl,rfl,_,rfl,?_⟩⟩
  have s2:=Same.upd (o:=.tup [.int 4,.int 5,.int 9]) ht
  have HS2:=HS1.same D s2
  have R2:=R1.same s2
  have k2:Kept rp H _:=k1.trans (Same.kept s2)
  generalize hH2:upd H1 t (.tup [.int 4,.int 5,.int 9])=H2 at s2 HS2 R2 k2
  refine iteB (fun e=>?_) (fun n4=>?_)
  ·have e:=in_told (k:=k) e
   have hm:m=n+1:=by
    rcases e with ⟨_,rfl⟩|⟨_,rfl⟩|⟨_,rfl⟩<;>exact hd.2
   subst hm
   exact ⟨_,rfl,_,rfl,hp,st,k,_,rfl,HS2,e,fin R2 k2 HS2⟩
  refine ⟨_,rfl,(by show 2≤sizeLine;decide),fun t' ht'=>⟨t',_,rfl,.inr (SqT.of upd_same),rfl,rfl,_,rfl,?_⟩⟩
  have s3:=Same.upd (o:=.tup [.int 6,.int 7]) ht'
  have HS3:=HS2.same D s3
  have R3:=R2.same s3
  have k3:Kept rp H _:=k2.trans (Same.kept s3)
  generalize hH3:upd H2 t' (.tup [.int 6,.int 7])=H3 at s3 HS3 R3 k3
  obtain ⟨rdx3,hro3⟩:=R3.obj
  refine iteB (fun e=>?_) (fun n5=>?_)
  ·obtain ⟨x,y,z,e⟩:=in_cell (k:=k) e
   have h3:n+1+3≤calls.length∧(calls.drop (n+1)).take 3= [x,y,z]∧m=n+1+3:=by
    rcases e with ⟨_,rfl⟩|⟨_,rfl⟩<;>exact hd.2
   obtain ⟨hle,h3,rfl⟩:=h3
   refine ⟨_,rfl,_,rfl,_,rfl,rp,rdx3,_,rfl,hro3,fCallReader_no_take_numbers,rp,ca,calls,n+1,3,rfl,R3,hle,fun H4 b R4 k4 nb hb=>?_⟩
   rw [h3] at hb
   exact ⟨hp,b,st,k,_,x,y,z,rfl,HS3.rd D ne R3 k4,hb,e,fin R4 (k3.trans k4) (HS3.rd D ne R3 k4)⟩
  refine ⟨_,rfl,_,_,rfl,rfl,_,rfl,iteD (fun e=>?_) (fun n8=>?_)⟩
  ·obtain ⟨row,rfl⟩:=is_dist e
   obtain ⟨_,len,hv,hle,rfl,rfl⟩:=hd
   refine ⟨_,rfl,_,rfl,rp,rdx3,_,rfl,hro3,fCallReader_no_take_row,rp,ca,calls,n+1,len,rfl,R3,hv,hle,fun H4 b R4 k4 nb hb=>?_⟩
   exact ⟨hp,b,st,_,rfl,HS3.rd D ne R3 k4,hb,rowl len,fin R4 (k3.trans k4) (HS3.rd D ne R3 k4)⟩
  exact in_none n0 n1 n2 n3 n4 n5 n8
end
end Lr
namespace Lr
open PySem PySem.Spec PyProof.Rows L2 LX
open Vaglrl (Costs Text Cell Change)
open Vaglrc (Sym Rule Grammar)
def hide (t:Addr) (H:Hp):Hp:=fun b=>if b=t then none else H b
theorem hide_ne {t b:Addr} {H:Hp} (h:b≠t):hide t H b=H b:=if_neg h
theorem hide_some {t b:Addr} {H:Hp} {o:HO} (h:hide t H b=some o):b≠t∧H b=some o:=by
 by_cases e:b=t
 ·unfold hide at h
  rw [if_pos e] at h
  cases h
 ·rw [hide_ne e] at h
  exact ⟨e,h⟩
theorem hide_upd {t:Addr} {H:Hp} {o:HO}:hide t (upd H t o)=hide t H:=by
 funext b
 by_cases e:b=t
 ·unfold hide
  rw [if_pos e,if_pos e]
 ·rw [hide_ne e,hide_ne e,upd_ne e]
section
variable {P:Program} {w:World} {K:PySem.W.Frag} {mg:Str→Option Value} {base:Heap} {A:Ad}
def spAns (K:PySem.W.Frag):Sp:=fun vs H Q _=>∃(ca:Addr) (calls:List Int),vs= [.ref ca]∧SqL K H ca (calls.map V.int)∧calls.length≤16000∧PyVaglrl.answers_asked calls=true∧∀(H':Hp) (b:Addr),H' b=some (.lst ((PyVaglrl.answers calls).map V.int))→Q (.ref b) H'
theorem scAns:FnScope ["calls","held","reader","told","answer"] ["calls"] (defScope sAnswers):=⟨rfl,rfl,rfl,by decide+kernel,rfl,by decide+kernel,by decide+kernel⟩
theorem okAns {f fH fR fE fC:Addr} {fd fdH fdR fdE fdC:FuncData} (F:Fun K "answers" "answers" sAnswers f fd) (T:Txt A K mg) (D:Dis A) (HI:Ne P w K mg base CX0 3 A.cHeld fH fdH ["self"] (spHeldI A))
  (CR:Ne P w K mg base CX0 1 A.cCallReader fR fdR ["self","calls"] (spCallReader A)) (EN:Mt P w K mg base CX0 1 A.cCallReader "is_at_end" fE fdE ["self"] (spEnd A K)) (CL:Cl P w K mg base CX0 11 "answer_call" fC fdC ["held","reader"] (spCall A K)):
  FnOk P w K mg base CX0 12 f fd ["calls"] (spAns K):=by
 refine F.ok scAns (fun vs H Q E h=>?_) (fun cdv A' outer s H vs Q E hr h=>?_)
 ·obtain ⟨ca,calls,rfl,_⟩:=h
  rfl
 ·obtain ⟨ca,calls,rfl,hca,hl,hask,q⟩:=h
  have r4:Room 4 _:=hr.mono (by decide)
  have r2:Room 2 _:=hr.mono (by decide)
  have r1:Room 1 _:=hr.mono (by decide)
  obtain ⟨cs0,hcs0,h100,hans⟩:=Vm.asked_calls hask
  refine ⟨_,pss_cons (ps_set (i:=1) scAns.nd rfl (Or.inl rfl) (pe_make0 HI.m HI.ok r4 rfl T.mHeld HI.b .nil pass0))
   (pss_cons (ps_set (i:=2) scAns.nd rfl (Or.inl rfl) (pe_make CR.m CR.ok r2 rfl T.mCallReader CR.b .nil pass0 (pa_cons (pv 0) pa_nil)))
   (pss_cons (ps_set (i:=3) scAns.nd rfl (Or.inl rfl) (pe_lst pa_nil))
   (pss_cons (ps_while PassesOwn.never (pt_not (pt_val (pe_meth0 (pv 2) T.lCallReader EN.m EN.ok r1 EN.b .nil pass0)))
    (pss_cons (ps_set (i:=4) scAns.nd rfl (Or.inl rfl) (pe_lock (pe_call CL.ok hr rfl CL.m CL.kp CL.b .nil pass0 (pa_cons (pv 1) (pa_cons (pv 2) pa_nil)))))
    (pss_cons (ps_expr (pe_bm PySem.F.plainAttrs_list PySem.F.slot_list_append PySem.F.type_list_append mt_append (pv 3) (pa_cons (pe_callB call_len_seq (by rfl) T.b_len PySem.boot_len (pa_cons (pv 4) pa_nil)) pa_nil)))
    (pss_one (ps_expr (pe_bm PySem.F.plainAttrs_list PySem.F.slot_list_extend PySem.F.type_list_extend mt_extend (pv 3) (pa_cons (pv 4) pa_nil)))))))
   (pss_one (ps_ret (pv 3)))))),?_⟩
  intro hp hdx n1 n2 n3
  refine ⟨hp,hdx,rfl,upd_same,fun H1 HS1 kh=>⟨rfl,?_⟩⟩
  have s1:Same H H1:=Same.made n1 n2 kh
  refine ⟨_,rfl,?_⟩
  intro rp rdx m1 m2 m3
  refine ⟨rp,rdx,_,rfl,upd_same,fun H2 hr2 kr=>⟨rfl,?_⟩⟩
  have s2:Same H1 H2:=Same.made m1 m2 kr
  have HS2:=HS1.same D s2
  have hpne:hp≠rp:=by
   obtain ⟨dx',ga,ca',la,cv,e1,_⟩:=HS1.obj
   exact ne_of_none e1 m1
  have R2:CrAt A K H2 rp ca calls 0:=⟨⟨rdx,hr2⟩,LsAt.same (s1.trans s2) hca,Nat.zero_le _⟩
  refine ⟨Nat.zero_le _,fun to hto=>?_⟩
  have s3:=Same.upd (o:=.lst []) hto
  have to3:(upd H2 to (.lst [])) to=some (.lst []):=upd_same
  generalize hH3:upd H2 to (.lst [])=H3 at s3 to3
  have hs3:Same H2 (hide to H3):=fun b o e=>by rw [hide_ne (ne_of_none e hto)];exact s3 _ _ e
  have HS3:=HS2.same D hs3
  have R3:=R2.same hs3
  have hpto:to≠hp:=by
   obtain ⟨dx',ga,ca',la,cv,e1,_⟩:=HS2.obj
   exact Ne.symm (ne_of_none e1 hto)
  have rpto:to≠rp:=Ne.symm (ne_of_none hr2 hto)
  refine ⟨fun μ σ H'=>∃(st:Vaglrl.State) (n f:Nat) (cs:List (List (List Int))) (dn:List Int) (v4:Option V),μ=calls.length - n∧HeldSt A (hide to H') hp st∧CrAt A K (hide to H') rp ca calls n∧H' to=some (.lst (dn.map V.int))∧
   PyFlat.calls PyVaglrl.shape f (calls.drop n)=some cs∧PyVaglrl.answers calls=dn++Vm.due st cs∧dn.length+301 * cs.length≤30100∧σ= [some (.ref ca),some (.ref hp),some (.ref rp),some (.ref to),v4],⟨_,Vaglrl.start,0,_,cs0,[],none,rfl,HS3,R3,to3,hcs0,hans,by show 0+_≤_;omega,rfl⟩,?_⟩
  rintro μ σ H4 ⟨st,n,f4,cs,dn,v4,rfl,HS4,R4,to4,hcs,hdue,hlen,rfl⟩
  obtain ⟨rdx4,hro4⟩:=R4.obj
  have hle:=R4.le
  have sm4:Same (hide to H4) H4:=fun b o e=>(hide_some e).2
  refine ⟨_,rfl,rp,rdx4,_,rfl,sm4 _ _ hro4,fCallReader_no_is_at_end,rp,ca,calls,n,rfl,R4.same sm4,_,rfl,?_⟩
  by_cases hend:n=calls.length
  ·rw [decide_eq_true hend]
   show _
   subst hend
   rw [List.drop_length] at hcs
   have:=Vm.calls_nil hcs
   subst this
   have e:PyVaglrl.answers calls=dn:=by
    rw [hdue]
    show dn++ []=dn
    rw [List.append_nil]
   rw [←e] at to4
   exact ifN rfl ⟨_,rfl,q H4 to to4⟩
  ·rw [decide_eq_false hend]
   obtain ⟨f5,c,t,cs',hc,ht,rfl⟩:=Vm.calls_step (fun z=>hend (by have:=List.drop_eq_nil_iff.mp z;omega)) hcs
   obtain ⟨k,m,hk,hd,hmt,hnm,hml⟩:=Vm.decode hc
   have due:=Vm.due_step (st:=st) (cs:=cs') hk
   rw [List.length_cons] at hlen
   refine ifY rfl ⟨fun σ' H'=>∃(st':Vaglrl.State) (dn':List Int) (v4:Option V),HeldSt A (hide to H') hp st'∧CrAt A K (hide to H') rp ca calls m∧H' to=some (.lst (dn'.map V.int))∧PyVaglrl.answers calls=dn'++Vm.due st' cs'∧dn'.length+301 * cs'.length≤30100∧σ'= [some (.ref ca),some (.ref hp),some (.ref rp),some (.ref to),v4],?_,?_⟩
   ·rintro σ' H' ⟨st',dn',v4',z1,z2,z3,z4,z5,z6⟩
    exact ⟨calls.length - m,by omega,st',m,f5,cs',dn',v4',rfl,z1,z2,z3,by rw [hmt];exact ht,z4,z5,z6⟩
   refine ⟨to,_,to4,trivial,fun od=>?_⟩
   have smL:Same (hide to H4) (upd H4 to (.frz od (.lst (dn.map V.int)))):=fun b o e=>by rw [upd_ne (hide_some e).1];exact (hide_some e).2
   have toL:(upd H4 to (.frz od (.lst (dn.map V.int)))) to=some (.frz od (.lst (dn.map V.int))):=upd_same
   generalize hHL:upd H4 to (.frz od (.lst (dn.map V.int)))=HL at smL toL
   have HSL:=HS4.same D smL
   refine ⟨_,rfl,_,rfl,hp,rp,ca,st,calls,n,m,k,rfl,HSL,R4.same smL,hpne,hd,hl,fun H5 b HS5 R5 kk nb ln hb=>⟨kk _ _ toL hpto rpto,?_⟩⟩
   have bto:b≠to:=Ne.symm (ne_of_none toL nb)
   have f5:Off A H5 (hide to H5):=fun c o e cl=>by
    rw [hide_ne fun z=>by rw [z,kk _ _ toL hpto rpto] at e;cases e;exact cl.2 _ _ rfl]
    exact e
   have HS6:HeldSt A (hide to H5) hp (Vaglrl.step st k).1:=HS5.off D f5 (hide_ne (Ne.symm hpto))
   have R6:CrAt A K (hide to H5) rp ca calls m:=by
    obtain ⟨rdx5,hro5⟩:=R5.obj
    obtain ⟨dxh,gah,cah,lah,cvh,h1h,_⟩:=HSL.obj
    have mv:∀(o:HO),(∀C dx fs,o≠.ins C dx fs)→hide to H4 ca=some o→hide to H5 ca=some o:=fun o no e=>by
     have e1:=smL _ _ e
     rw [hide_ne (hide_some e).1]
     exact kk _ _ e1 (ne_of e1 h1h (no _ _ _)) (ne_of e1 (smL _ _ hro4) (no _ _ _))
    refine ⟨⟨rdx5,by rw [hide_ne (Ne.symm rpto)];exact hro5⟩,?_,hml⟩
    rcases R4.ls with (h|⟨o,h⟩)|h
    ·exact .inl (.inl (mv _ (fun _ _ _ z=>nomatch z) h))
    ·exact .inl (.inr ⟨o,mv _ (fun _ _ _ z=>nomatch z) h⟩)
    ·exact .inr h
   have hb':(upd H5 to (.lst (dn.map V.int))) b=some (.lst ((Vaglrl.step st k).2.map V.int)):=by rw [upd_ne bto];exact hb
   have to5:(upd H5 to (.lst (dn.map V.int))) to=some (.lst (dn.map V.int)):=upd_same
   have hd5:hide to (upd H5 to (.lst (dn.map V.int)))=hide to H5:=hide_upd
   rw [←hd5] at HS6 R6
   generalize hH5:upd H5 to (.lst (dn.map V.int))=H5' at hb' to5 hd5 HS6 R6
   refine ⟨_,rfl,.inl ⟨rfl,_,SqL.of to5⟩,_,rfl,b,_,rfl,.inl (SqL.of hb'),to,_,_,rfl,rfl,to5,Nat.lt_of_lt_of_le (Nat.lt_succ_of_le (Nat.le_refl _)) (size_ok (by rw [List.length_map];omega)),?_⟩
   rw [List.length_map]
   have h6b:(upd H5' to (.lst (dn.map V.int++ [.int (((Vaglrl.step st k).2).length:Int)]))) b=some (.lst ((Vaglrl.step st k).2.map V.int)):=by rw [upd_ne bto];exact hb'
   have h6t:(upd H5' to (.lst (dn.map V.int++ [.int (((Vaglrl.step st k).2).length:Int)]))) to=some (.lst (dn.map V.int++ [.int (((Vaglrl.step st k).2).length:Int)])):=upd_same
   have hd6:hide to (upd H5' to (.lst (dn.map V.int++ [.int (((Vaglrl.step st k).2).length:Int)])))=hide to H5':=hide_upd
   generalize hH6:upd H5' to (.lst (dn.map V.int++ [.int (((Vaglrl.step st k).2).length:Int)]))=H6 at h6b h6t hd6
   refine ⟨_,rfl,.inl ⟨rfl,_,SqL.of h6t⟩,_,rfl,to,b,_,_,rfl,rfl,h6t,h6b,size_ok (by rw [List.length_append,List.length_map,List.length_map];show dn.length+1+_≤_;omega),?_⟩
   refine ⟨(Vaglrl.step st k).1,dn++((Vaglrl.step st k).2.length:Int)::(Vaglrl.step st k).2,_,?_,?_,?_,?_,?_,rfl⟩
   ·rw [hide_upd,hd6]
    exact HS6
   ·rw [hide_upd,hd6]
    exact R6
   ·rw [upd_same,List.map_append,List.append_assoc]
    rfl
   ·rw [hdue,due,List.append_assoc]
   ·rw [List.length_append,List.length_cons]
    omega
end
end Lr
set_option maxHeartbeats 4000000
namespace Lr
open PySem PySem.Spec PyProof.Rows L2 LX
theorem ln1 {x0:Str} {C:List Value→Prop} (h:∀a,C [a]):∀us:List Value,us.length= [x0].length→C us:=fun us e=>by
 rcases us with _|⟨v0,us⟩
 ·cases e
 rcases us with _|⟨v9,us⟩
 ·exact h v0
 ·simp at e
theorem ln2 {x0 x1:Str} {C:List Value→Prop} (h:∀a b,C [a,b]):∀us:List Value,us.length= [x0,x1].length→C us:=fun us e=>by
 rcases us with _|⟨v0,us⟩
 ·cases e
 rcases us with _|⟨v1,us⟩
 ·cases e
 rcases us with _|⟨v9,us⟩
 ·exact h v0 v1
 ·simp at e
theorem ln3 {x0 x1 x2:Str} {C:List Value→Prop} (h:∀a b c,C [a,b,c]):∀us:List Value,us.length= [x0,x1,x2].length→C us:=fun us e=>by
 rcases us with _|⟨v0,us⟩
 ·cases e
 rcases us with _|⟨v1,us⟩
 ·cases e
 rcases us with _|⟨v2,us⟩
 ·cases e
 rcases us with _|⟨v9,us⟩
 ·exact h v0 v1 v2
 ·simp at e
theorem ln4 {x0 x1 x2 x3:Str} {C:List Value→Prop} (h:∀a b c d,C [a,b,c,d]):∀us:List Value,us.length= [x0,x1,x2,x3].length→C us:=fun us e=>by
 rcases us with _|⟨v0,us⟩
 ·cases e
 rcases us with _|⟨v1,us⟩
 ·cases e
 rcases us with _|⟨v2,us⟩
 ·cases e
 rcases us with _|⟨v3,us⟩
 ·cases e
 rcases us with _|⟨v9,us⟩
 ·exact h v0 v1 v2 v3
 ·simp at e
theorem ln5 {x0 x1 x2 x3 x4:Str} {C:List Value→Prop} (h:∀a b c d e,C [a,b,c,d,e]):∀us:List Value,us.length= [x0,x1,x2,x3,x4].length→C us:=fun us e=>by
 rcases us with _|⟨v0,us⟩
 ·cases e
 rcases us with _|⟨v1,us⟩
 ·cases e
 rcases us with _|⟨v2,us⟩
 ·cases e
 rcases us with _|⟨v3,us⟩
 ·cases e
 rcases us with _|⟨v4,us⟩
 ·cases e
 rcases us with _|⟨v9,us⟩
 ·exact h v0 v1 v2 v3 v4
 ·simp at e
theorem ln6 {x0 x1 x2 x3 x4 x5:Str} {C:List Value→Prop} (h:∀a b c d e f,C [a,b,c,d,e,f]):∀us:List Value,us.length= [x0,x1,x2,x3,x4,x5].length→C us:=fun us e=>by
 rcases us with _|⟨v0,us⟩
 ·cases e
 rcases us with _|⟨v1,us⟩
 ·cases e
 rcases us with _|⟨v2,us⟩
 ·cases e
 rcases us with _|⟨v3,us⟩
 ·cases e
 rcases us with _|⟨v4,us⟩
 ·cases e
 rcases us with _|⟨v5,us⟩
 ·cases e
 rcases us with _|⟨v9,us⟩
 ·exact h v0 v1 v2 v3 v4 v5
 ·simp at e
theorem all_mk {P:Program} {w:World} {K:PySem.W.Frag} {h:Heap} {mg:Str→Option Value} {fa:Addr} (X:K.In h) (G:h.Ns mainGlobals mg) (hfa:mg "answers"=some (.ref fa))
  {aNoGrammarRow aRule aGrammar aRowReader aCosts aCell aCells aTooLong aNoSuchCall aHeld aCallReader re:Addr}
  {tNONTERMINAL tRANGE tSTART tMOST_NONTERMINALS tMOST_RULES tMOST_SYMBOLS tHIGHEST_BYTE tKEPT tLEFT_OUT tPUT_IN tREPLACED tNO_WAY tTOO_MANY_STEPS tMOST_BYTES tLOAD tCOSTS tTEXT tLEAST tREPAIR tCHANGES tCOST tWAY tDISTANCE tAPPLY tDONE tNONE_THERE tWRONG_NUMBER tWRONG_ROW tTOO_MANY tNO_NONTERMINAL tOUT_OF_BOUNDS tREPAIR_TOO_LONG tLOWEST_COST tHIGHEST_COST tMOST_LETTERS tMOST_OTHER_LETTERS tRe:Tok}
  {odRe:Option Addr} {nRe:Nat} {slRe:Array (Option Value)}
  {f0:Addr} {od0 an0:Option Addr} {sl0:Array (Option Value)} {oc0 kV0 dc0 pm0 cd0 ct0:Value}
  {f1:Addr} {od1 an1:Option Addr} {sl1:Array (Option Value)} {oc1 kV1 dc1 pm1 cd1 ct1:Value}
  {f2:Addr} {od2 an2:Option Addr} {sl2:Array (Option Value)} {oc2 kV2 dc2 pm2 cd2 ct2:Value}
  {f3:Addr} {od3 an3:Option Addr} {sl3:Array (Option Value)} {oc3 kV3 dc3 pm3 cd3 ct3:Value}
  {f4:Addr} {od4 an4:Option Addr} {sl4:Array (Option Value)} {oc4 kV4 dc4 pm4 cd4 ct4:Value}
  {f5:Addr} {od5 an5:Option Addr} {sl5:Array (Option Value)} {oc5 kV5 dc5 pm5 cd5 ct5:Value}
  {f6:Addr} {od6 an6:Option Addr} {sl6:Array (Option Value)} {oc6 kV6 dc6 pm6 cd6 ct6:Value}
  {f7:Addr} {od7 an7:Option Addr} {sl7:Array (Option Value)} {oc7 kV7 dc7 pm7 cd7 ct7:Value}
  {f8:Addr} {od8 an8:Option Addr} {sl8:Array (Option Value)} {oc8 kV8 dc8 pm8 cd8 ct8:Value}
  {f9:Addr} {od9 an9:Option Addr} {sl9:Array (Option Value)} {oc9 kV9 dc9 pm9 cd9 ct9:Value}
  {f10:Addr} {od10 an10:Option Addr} {sl10:Array (Option Value)} {oc10 kV10 dc10 pm10 cd10 ct10:Value}
  {f11:Addr} {od11 an11:Option Addr} {sl11:Array (Option Value)} {oc11 kV11 dc11 pm11 cd11 ct11:Value}
  {f12:Addr} {od12 an12:Option Addr} {sl12:Array (Option Value)} {oc12 kV12 dc12 pm12 cd12 ct12:Value}
  {f13:Addr} {od13 an13:Option Addr} {sl13:Array (Option Value)} {oc13 kV13 dc13 pm13 cd13 ct13:Value}
  {f14:Addr} {od14 an14:Option Addr} {sl14:Array (Option Value)} {oc14 kV14 dc14 pm14 cd14 ct14:Value}
  {f15:Addr} {od15 an15:Option Addr} {sl15:Array (Option Value)} {oc15 kV15 dc15 pm15 cd15 ct15:Value}
  {f16:Addr} {od16 an16:Option Addr} {sl16:Array (Option Value)} {oc16 kV16 dc16 pm16 cd16 ct16:Value}
  {f17:Addr} {od17 an17:Option Addr} {sl17:Array (Option Value)} {oc17 kV17 dc17 pm17 cd17 ct17:Value}
  {f18:Addr} {od18 an18:Option Addr} {sl18:Array (Option Value)} {oc18 kV18 dc18 pm18 cd18 ct18:Value}
  {f19:Addr} {od19 an19:Option Addr} {sl19:Array (Option Value)} {oc19 kV19 dc19 pm19 cd19 ct19:Value}
  {f20:Addr} {od20 an20:Option Addr} {sl20:Array (Option Value)} {oc20 kV20 dc20 pm20 cd20 ct20:Value}
  {f21:Addr} {od21 an21:Option Addr} {sl21:Array (Option Value)} {oc21 kV21 dc21 pm21 cd21 ct21:Value}
  {f22:Addr} {od22 an22:Option Addr} {sl22:Array (Option Value)} {oc22 kV22 dc22 pm22 cd22 ct22:Value}
  {f23:Addr} {od23 an23:Option Addr} {sl23:Array (Option Value)} {oc23 kV23 dc23 pm23 cd23 ct23:Value}
  {f24:Addr} {od24 an24:Option Addr} {sl24:Array (Option Value)} {oc24 kV24 dc24 pm24 cd24 ct24:Value}
  {f25:Addr} {od25 an25:Option Addr} {sl25:Array (Option Value)} {oc25 kV25 dc25 pm25 cd25 ct25:Value}
  {f26:Addr} {od26 an26:Option Addr} {sl26:Array (Option Value)} {oc26 kV26 dc26 pm26 cd26 ct26:Value}
  {f27:Addr} {od27 an27:Option Addr} {sl27:Array (Option Value)} {oc27 kV27 dc27 pm27 cd27 ct27:Value}
  {f28:Addr} {od28 an28:Option Addr} {sl28:Array (Option Value)} {oc28 kV28 dc28 pm28 cd28 ct28:Value}
  {f29:Addr} {od29 an29:Option Addr} {sl29:Array (Option Value)} {oc29 kV29 dc29 pm29 cd29 ct29:Value}
  {f30:Addr} {od30 an30:Option Addr} {sl30:Array (Option Value)} {oc30 kV30 dc30 pm30 cd30 ct30:Value}
  {f31:Addr} {od31 an31:Option Addr} {sl31:Array (Option Value)} {oc31 kV31 dc31 pm31 cd31 ct31:Value}
  {f32:Addr} {od32 an32:Option Addr} {sl32:Array (Option Value)} {oc32 kV32 dc32 pm32 cd32 ct32:Value}
  {f33:Addr} {od33 an33:Option Addr} {sl33:Array (Option Value)} {oc33 kV33 dc33 pm33 cd33 ct33:Value}
  {f34:Addr} {od34 an34:Option Addr} {sl34:Array (Option Value)} {oc34 kV34 dc34 pm34 cd34 ct34:Value}
  {f35:Addr} {od35 an35:Option Addr} {sl35:Array (Option Value)} {oc35 kV35 dc35 pm35 cd35 ct35:Value}
  {f36:Addr} {od36 an36:Option Addr} {sl36:Array (Option Value)} {oc36 kV36 dc36 pm36 cd36 ct36:Value}
  {f37:Addr} {od37 an37:Option Addr} {sl37:Array (Option Value)} {oc37 kV37 dc37 pm37 cd37 ct37:Value}
  {f38:Addr} {od38 an38:Option Addr} {sl38:Array (Option Value)} {oc38 kV38 dc38 pm38 cd38 ct38:Value}
  {f39:Addr} {od39 an39:Option Addr} {sl39:Array (Option Value)} {oc39 kV39 dc39 pm39 cd39 ct39:Value}
  {f40:Addr} {od40 an40:Option Addr} {sl40:Array (Option Value)} {oc40 kV40 dc40 pm40 cd40 ct40:Value}
  {f41:Addr} {od41 an41:Option Addr} {sl41:Array (Option Value)} {oc41 kV41 dc41 pm41 cd41 ct41:Value}
  {f42:Addr} {od42 an42:Option Addr} {sl42:Array (Option Value)} {oc42 kV42 dc42 pm42 cd42 ct42:Value}
  {f43:Addr} {od43 an43:Option Addr} {sl43:Array (Option Value)} {oc43 kV43 dc43 pm43 cd43 ct43:Value}
  {f44:Addr} {od44 an44:Option Addr} {sl44:Array (Option Value)} {oc44 kV44 dc44 pm44 cd44 ct44:Value}
  {f45:Addr} {od45 an45:Option Addr} {sl45:Array (Option Value)} {oc45 kV45 dc45 pm45 cd45 ct45:Value}
  {f46:Addr} {od46 an46:Option Addr} {sl46:Array (Option Value)} {oc46 kV46 dc46 pm46 cd46 ct46:Value}
  {f47:Addr} {od47 an47:Option Addr} {sl47:Array (Option Value)} {oc47 kV47 dc47 pm47 cd47 ct47:Value}
  {f48:Addr} {od48 an48:Option Addr} {sl48:Array (Option Value)} {oc48 kV48 dc48 pm48 cd48 ct48:Value}
  {f49:Addr} {od49 an49:Option Addr} {sl49:Array (Option Value)} {oc49 kV49 dc49 pm49 cd49 ct49:Value}
  {f50:Addr} {od50 an50:Option Addr} {sl50:Array (Option Value)} {oc50 kV50 dc50 pm50 cd50 ct50:Value}
  {f51:Addr} {od51 an51:Option Addr} {sl51:Array (Option Value)} {oc51 kV51 dc51 pm51 cd51 ct51:Value}
  {f52:Addr} {od52 an52:Option Addr} {sl52:Array (Option Value)} {oc52 kV52 dc52 pm52 cd52 ct52:Value}
  {f53:Addr} {od53 an53:Option Addr} {sl53:Array (Option Value)} {oc53 kV53 dc53 pm53 cd53 ct53:Value}
  {f54:Addr} {od54 an54:Option Addr} {sl54:Array (Option Value)} {oc54 kV54 dc54 pm54 cd54 ct54:Value}
  {f55:Addr} {od55 an55:Option Addr} {sl55:Array (Option Value)} {oc55 kV55 dc55 pm55 cd55 ct55:Value}
  {f56:Addr} {od56 an56:Option Addr} {sl56:Array (Option Value)} {oc56 kV56 dc56 pm56 cd56 ct56:Value}
  {f57:Addr} {od57 an57:Option Addr} {sl57:Array (Option Value)} {oc57 kV57 dc57 pm57 cd57 ct57:Value}
  (mNoGrammarRow:PySem.W.nsIn K mainGlobals "NoGrammarRow"=some (some (.ref aNoGrammarRow)))
  (mRule:PySem.W.nsIn K mainGlobals "Rule"=some (some (.ref aRule)))
  (mGrammar:PySem.W.nsIn K mainGlobals "Grammar"=some (some (.ref aGrammar)))
  (mRowReader:PySem.W.nsIn K mainGlobals "RowReader"=some (some (.ref aRowReader)))
  (mCosts:PySem.W.nsIn K mainGlobals "Costs"=some (some (.ref aCosts)))
  (mCell:PySem.W.nsIn K mainGlobals "Cell"=some (some (.ref aCell)))
  (mCells:PySem.W.nsIn K mainGlobals "Cells"=some (some (.ref aCells)))
  (mTooLong:PySem.W.nsIn K mainGlobals "TooLong"=some (some (.ref aTooLong)))
  (mNoSuchCall:PySem.W.nsIn K mainGlobals "NoSuchCall"=some (some (.ref aNoSuchCall)))
  (mHeld:PySem.W.nsIn K mainGlobals "Held"=some (some (.ref aHeld)))
  (mCallReader:PySem.W.nsIn K mainGlobals "CallReader"=some (some (.ref aCallReader)))
  (kNONTERMINAL:PySem.W.nsIn K mainGlobals "NONTERMINAL"=some (some (.int 0 tNONTERMINAL)))
  (kRANGE:PySem.W.nsIn K mainGlobals "RANGE"=some (some (.int 1 tRANGE)))
  (kSTART:PySem.W.nsIn K mainGlobals "START"=some (some (.int 0 tSTART)))
  (kMOST_NONTERMINALS:PySem.W.nsIn K mainGlobals "MOST_NONTERMINALS"=some (some (.int 20 tMOST_NONTERMINALS)))
  (kMOST_RULES:PySem.W.nsIn K mainGlobals "MOST_RULES"=some (some (.int 60 tMOST_RULES)))
  (kMOST_SYMBOLS:PySem.W.nsIn K mainGlobals "MOST_SYMBOLS"=some (some (.int 8 tMOST_SYMBOLS)))
  (kHIGHEST_BYTE:PySem.W.nsIn K mainGlobals "HIGHEST_BYTE"=some (some (.int 255 tHIGHEST_BYTE)))
  (kKEPT:PySem.W.nsIn K mainGlobals "KEPT"=some (some (.int 0 tKEPT)))
  (kLEFT_OUT:PySem.W.nsIn K mainGlobals "LEFT_OUT"=some (some (.int 1 tLEFT_OUT)))
  (kPUT_IN:PySem.W.nsIn K mainGlobals "PUT_IN"=some (some (.int 2 tPUT_IN)))
  (kREPLACED:PySem.W.nsIn K mainGlobals "REPLACED"=some (some (.int 3 tREPLACED)))
  (kNO_WAY:PySem.W.nsIn K mainGlobals "NO_WAY"=some (some (.int 1000000000000000000000000000000 tNO_WAY)))
  (kTOO_MANY_STEPS:PySem.W.nsIn K mainGlobals "TOO_MANY_STEPS"=some (some (.int 4000 tTOO_MANY_STEPS)))
  (kMOST_BYTES:PySem.W.nsIn K mainGlobals "MOST_BYTES"=some (some (.int 64 tMOST_BYTES)))
  (kLOAD:PySem.W.nsIn K mainGlobals "LOAD"=some (some (.int 0 tLOAD)))
  (kCOSTS:PySem.W.nsIn K mainGlobals "COSTS"=some (some (.int 1 tCOSTS)))
  (kTEXT:PySem.W.nsIn K mainGlobals "TEXT"=some (some (.int 2 tTEXT)))
  (kLEAST:PySem.W.nsIn K mainGlobals "LEAST"=some (some (.int 3 tLEAST)))
  (kREPAIR:PySem.W.nsIn K mainGlobals "REPAIR"=some (some (.int 4 tREPAIR)))
  (kCHANGES:PySem.W.nsIn K mainGlobals "CHANGES"=some (some (.int 5 tCHANGES)))
  (kCOST:PySem.W.nsIn K mainGlobals "COST"=some (some (.int 6 tCOST)))
  (kWAY:PySem.W.nsIn K mainGlobals "WAY"=some (some (.int 7 tWAY)))
  (kDISTANCE:PySem.W.nsIn K mainGlobals "DISTANCE"=some (some (.int 8 tDISTANCE)))
  (kAPPLY:PySem.W.nsIn K mainGlobals "APPLY"=some (some (.int 9 tAPPLY)))
  (kDONE:PySem.W.nsIn K mainGlobals "DONE"=some (some (.int 0 tDONE)))
  (kNONE_THERE:PySem.W.nsIn K mainGlobals "NONE_THERE"=some (some (.int 1 tNONE_THERE)))
  (kWRONG_NUMBER:PySem.W.nsIn K mainGlobals "WRONG_NUMBER"=some (some (.int (-1) tWRONG_NUMBER)))
  (kWRONG_ROW:PySem.W.nsIn K mainGlobals "WRONG_ROW"=some (some (.int (-2) tWRONG_ROW)))
  (kTOO_MANY:PySem.W.nsIn K mainGlobals "TOO_MANY"=some (some (.int (-3) tTOO_MANY)))
  (kNO_NONTERMINAL:PySem.W.nsIn K mainGlobals "NO_NONTERMINAL"=some (some (.int (-4) tNO_NONTERMINAL)))
  (kOUT_OF_BOUNDS:PySem.W.nsIn K mainGlobals "OUT_OF_BOUNDS"=some (some (.int (-5) tOUT_OF_BOUNDS)))
  (kREPAIR_TOO_LONG:PySem.W.nsIn K mainGlobals "REPAIR_TOO_LONG"=some (some (.int (-6) tREPAIR_TOO_LONG)))
  (kLOWEST_COST:PySem.W.nsIn K mainGlobals "LOWEST_COST"=some (some (.int 1 tLOWEST_COST)))
  (kHIGHEST_COST:PySem.W.nsIn K mainGlobals "HIGHEST_COST"=some (some (.int 9 tHIGHEST_COST)))
  (kMOST_LETTERS:PySem.W.nsIn K mainGlobals "MOST_LETTERS"=some (some (.int 12 tMOST_LETTERS)))
  (kMOST_OTHER_LETTERS:PySem.W.nsIn K mainGlobals "MOST_OTHER_LETTERS"=some (some (.int 64 tMOST_OTHER_LETTERS)))
  (brange:PySem.W.nsIn K mainGlobals "range"=some none)
  (blen:PySem.W.nsIn K mainGlobals "len"=some none)
  (bmin:PySem.W.nsIn K mainGlobals "min"=some none)
  (bmax:PySem.W.nsIn K mainGlobals "max"=some none)
  (bany:PySem.W.nsIn K mainGlobals "any"=some none)
  (blist:PySem.W.nsIn K mainGlobals "list"=some none)
  (benumerate:PySem.W.nsIn K mainGlobals "enumerate"=some none)
  (bzip:PySem.W.nsIn K mainGlobals "zip"=some none)
  (breversed:PySem.W.nsIn K mainGlobals "reversed"=some none)
  (pgRule:PySem.W.plainGet K aRule Str.empty=true)
  (hdRule:PySem.W.hasDictIn K aRule=true)
  (poRule:PySem.W.plainOver K aRule=true)
  (saRule:PySem.W.findIn K (.ref aRule) "__setattr__"=some (some (.builtin "object.__setattr__")))
  (mkRule:PySem.W.makesIn K aRule=true)
  (kcRule:PySem.W.keepIn K (.ref aRule)=true)
  (nRule_nonterminal:PySem.W.findIn K (.ref aRule) "nonterminal"=some none)
  (nRule_symbols:PySem.W.findIn K (.ref aRule) "symbols"=some none)
  (pgGrammar:PySem.W.plainGet K aGrammar Str.empty=true)
  (hdGrammar:PySem.W.hasDictIn K aGrammar=true)
  (poGrammar:PySem.W.plainOver K aGrammar=true)
  (saGrammar:PySem.W.findIn K (.ref aGrammar) "__setattr__"=some (some (.builtin "object.__setattr__")))
  (mkGrammar:PySem.W.makesIn K aGrammar=true)
  (kcGrammar:PySem.W.keepIn K (.ref aGrammar)=true)
  (nGrammar_nonterminals:PySem.W.findIn K (.ref aGrammar) "nonterminals"=some none)
  (nGrammar_rules:PySem.W.findIn K (.ref aGrammar) "rules"=some none)
  (pgRowReader:PySem.W.plainGet K aRowReader Str.empty=true)
  (hdRowReader:PySem.W.hasDictIn K aRowReader=true)
  (poRowReader:PySem.W.plainOver K aRowReader=true)
  (saRowReader:PySem.W.findIn K (.ref aRowReader) "__setattr__"=some (some (.builtin "object.__setattr__")))
  (mkRowReader:PySem.W.makesIn K aRowReader=true)
  (kcRowReader:PySem.W.keepIn K (.ref aRowReader)=true)
  (nRowReader_row:PySem.W.findIn K (.ref aRowReader) "row"=some none)
  (nRowReader_place:PySem.W.findIn K (.ref aRowReader) "place"=some none)
  (pgCosts:PySem.W.plainGet K aCosts Str.empty=true)
  (hdCosts:PySem.W.hasDictIn K aCosts=true)
  (poCosts:PySem.W.plainOver K aCosts=true)
  (saCosts:PySem.W.findIn K (.ref aCosts) "__setattr__"=some (some (.builtin "object.__setattr__")))
  (mkCosts:PySem.W.makesIn K aCosts=true)
  (kcCosts:PySem.W.keepIn K (.ref aCosts)=true)
  (nCosts_putting:PySem.W.findIn K (.ref aCosts) "putting"=some none)
  (nCosts_leaving:PySem.W.findIn K (.ref aCosts) "leaving"=some none)
  (nCosts_replacing:PySem.W.findIn K (.ref aCosts) "replacing"=some none)
  (pgCell:PySem.W.plainGet K aCell Str.empty=true)
  (hdCell:PySem.W.hasDictIn K aCell=true)
  (poCell:PySem.W.plainOver K aCell=true)
  (saCell:PySem.W.findIn K (.ref aCell) "__setattr__"=some (some (.builtin "object.__setattr__")))
  (mkCell:PySem.W.makesIn K aCell=true)
  (kcCell:PySem.W.keepIn K (.ref aCell)=true)
  (nCell_cost:PySem.W.findIn K (.ref aCell) "cost"=some none)
  (nCell_rule:PySem.W.findIn K (.ref aCell) "rule"=some none)
  (nCell_ends:PySem.W.findIn K (.ref aCell) "ends"=some none)
  (pgCells:PySem.W.plainGet K aCells Str.empty=true)
  (hdCells:PySem.W.hasDictIn K aCells=true)
  (poCells:PySem.W.plainOver K aCells=true)
  (saCells:PySem.W.findIn K (.ref aCells) "__setattr__"=some (some (.builtin "object.__setattr__")))
  (mkCells:PySem.W.makesIn K aCells=true)
  (kcCells:PySem.W.keepIn K (.ref aCells)=true)
  (nCells_grammar:PySem.W.findIn K (.ref aCells) "grammar"=some none)
  (nCells_letters:PySem.W.findIn K (.ref aCells) "letters"=some none)
  (nCells_costs:PySem.W.findIn K (.ref aCells) "costs"=some none)
  (nCells_tables:PySem.W.findIn K (.ref aCells) "tables"=some none)
  (nCells_found:PySem.W.findIn K (.ref aCells) "found"=some none)
  (pgHeld:PySem.W.plainGet K aHeld Str.empty=true)
  (hdHeld:PySem.W.hasDictIn K aHeld=true)
  (poHeld:PySem.W.plainOver K aHeld=true)
  (saHeld:PySem.W.findIn K (.ref aHeld) "__setattr__"=some (some (.builtin "object.__setattr__")))
  (mkHeld:PySem.W.makesIn K aHeld=true)
  (kcHeld:PySem.W.keepIn K (.ref aHeld)=true)
  (nHeld_grammar:PySem.W.findIn K (.ref aHeld) "grammar"=some none)
  (nHeld_costs:PySem.W.findIn K (.ref aHeld) "costs"=some none)
  (nHeld_letters:PySem.W.findIn K (.ref aHeld) "letters"=some none)
  (nHeld_cells:PySem.W.findIn K (.ref aHeld) "cells"=some none)
  (pgCallReader:PySem.W.plainGet K aCallReader Str.empty=true)
  (hdCallReader:PySem.W.hasDictIn K aCallReader=true)
  (poCallReader:PySem.W.plainOver K aCallReader=true)
  (saCallReader:PySem.W.findIn K (.ref aCallReader) "__setattr__"=some (some (.builtin "object.__setattr__")))
  (mkCallReader:PySem.W.makesIn K aCallReader=true)
  (kcCallReader:PySem.W.keepIn K (.ref aCallReader)=true)
  (nCallReader_calls:PySem.W.findIn K (.ref aCallReader) "calls"=some none)
  (nCallReader_place:PySem.W.findIn K (.ref aCallReader) "place"=some none)
  (xNoGrammarRow:PySem.W.excIn K aNoGrammarRow excMro "Exception.__new__"=true)
  (xTooLong:PySem.W.excIn K aTooLong excMro "Exception.__new__"=true)
  (xNoSuchCall:PySem.W.excIn K aNoSuchCall excMro "Exception.__new__"=true)
  (mRe:PySem.W.nsIn K mainGlobals "RULE_END"=some (some (.ref re)))
  (lRe:K.lookup re=some ⟨.type "tuple",odRe,.seq #[.int 2 tRe] nRe,slRe⟩)
  (dis:Dis ⟨aNoGrammarRow,aRule,aGrammar,aRowReader,aCosts,aCell,aCells,aTooLong,aNoSuchCall,aHeld,aCallReader⟩)
  (a0:PySem.W.findIn K (.ref aGrammar) "__init__"=some (some (.ref f0)))
  (i0:PySem.W.isFn K (.ref f0)=true)
  (l0:K.lookup f0=some ⟨oc0,od0,.func (PySem.W.fnOf "__init__" "Grammar.__init__" (defArgs sGrammarInit) (defBody sGrammarInit) (defScope sGrammarInit) .none kV0 dc0 pm0 an0 cd0 ct0),sl0⟩)
  (c0:PySem.W.codeIn K cd0 "Grammar.__init__"=true)
  (e0:PySem.W.keepIn K (.ref f0)=true)
  (a1:PySem.W.findIn K (.ref aCosts) "__init__"=some (some (.ref f1)))
  (i1:PySem.W.isFn K (.ref f1)=true)
  (l1:K.lookup f1=some ⟨oc1,od1,.func (PySem.W.fnOf "__init__" "Costs.__init__" (defArgs sCostsInit) (defBody sCostsInit) (defScope sCostsInit) .none kV1 dc1 pm1 an1 cd1 ct1),sl1⟩)
  (c1:PySem.W.codeIn K cd1 "Costs.__init__"=true)
  (e1:PySem.W.keepIn K (.ref f1)=true)
  (a2:PySem.W.findIn K (.ref aHeld) "__init__"=some (some (.ref f2)))
  (i2:PySem.W.isFn K (.ref f2)=true)
  (l2:K.lookup f2=some ⟨oc2,od2,.func (PySem.W.fnOf "__init__" "Held.__init__" (defArgs sHeldInit) (defBody sHeldInit) (defScope sHeldInit) .none kV2 dc2 pm2 an2 cd2 ct2),sl2⟩)
  (c2:PySem.W.codeIn K cd2 "Held.__init__"=true)
  (e2:PySem.W.keepIn K (.ref f2)=true)
  (a3:PySem.W.findIn K (.ref aCallReader) "__init__"=some (some (.ref f3)))
  (i3:PySem.W.isFn K (.ref f3)=true)
  (l3:K.lookup f3=some ⟨oc3,od3,.func (PySem.W.fnOf "__init__" "CallReader.__init__" (defArgs sCallReaderInit) (defBody sCallReaderInit) (defScope sCallReaderInit) .none kV3 dc3 pm3 an3 cd3 ct3),sl3⟩)
  (c3:PySem.W.codeIn K cd3 "CallReader.__init__"=true)
  (e3:PySem.W.keepIn K (.ref f3)=true)
  (a4:PySem.W.findIn K (.ref aCallReader) "is_at_end"=some (some (.ref f4)))
  (i4:PySem.W.isFn K (.ref f4)=true)
  (l4:K.lookup f4=some ⟨oc4,od4,.func (PySem.W.fnOf "is_at_end" "CallReader.is_at_end" (defArgs sCallReaderIsAtEnd) (defBody sCallReaderIsAtEnd) (defScope sCallReaderIsAtEnd) .none kV4 dc4 pm4 an4 cd4 ct4),sl4⟩)
  (c4:PySem.W.codeIn K cd4 "CallReader.is_at_end"=true)
  (e4:PySem.W.keepIn K (.ref f4)=true)
  (a5:PySem.W.findIn K (.ref aCallReader) "take_numbers"=some (some (.ref f5)))
  (i5:PySem.W.isFn K (.ref f5)=true)
  (l5:K.lookup f5=some ⟨oc5,od5,.func (PySem.W.fnOf "take_numbers" "CallReader.take_numbers" (defArgs sCallReaderTakeNumbers) (defBody sCallReaderTakeNumbers) (defScope sCallReaderTakeNumbers) .none kV5 dc5 pm5 an5 cd5 ct5),sl5⟩)
  (c5:PySem.W.codeIn K cd5 "CallReader.take_numbers"=true)
  (e5:PySem.W.keepIn K (.ref f5)=true)
  (a6:PySem.W.findIn K (.ref aCallReader) "take_number"=some (some (.ref f6)))
  (i6:PySem.W.isFn K (.ref f6)=true)
  (l6:K.lookup f6=some ⟨oc6,od6,.func (PySem.W.fnOf "take_number" "CallReader.take_number" (defArgs sCallReaderTakeNumber) (defBody sCallReaderTakeNumber) (defScope sCallReaderTakeNumber) .none kV6 dc6 pm6 an6 cd6 ct6),sl6⟩)
  (c6:PySem.W.codeIn K cd6 "CallReader.take_number"=true)
  (e6:PySem.W.keepIn K (.ref f6)=true)
  (a7:PySem.W.findIn K (.ref aCallReader) "take_row"=some (some (.ref f7)))
  (i7:PySem.W.isFn K (.ref f7)=true)
  (l7:K.lookup f7=some ⟨oc7,od7,.func (PySem.W.fnOf "take_row" "CallReader.take_row" (defArgs sCallReaderTakeRow) (defBody sCallReaderTakeRow) (defScope sCallReaderTakeRow) .none kV7 dc7 pm7 an7 cd7 ct7),sl7⟩)
  (c7:PySem.W.codeIn K cd7 "CallReader.take_row"=true)
  (e7:PySem.W.keepIn K (.ref f7)=true)
  (a8:PySem.W.findIn K (.ref aRowReader) "__init__"=some (some (.ref f8)))
  (i8:PySem.W.isFn K (.ref f8)=true)
  (l8:K.lookup f8=some ⟨oc8,od8,.func (PySem.W.fnOf "__init__" "RowReader.__init__" (defArgs sRowReaderInit) (defBody sRowReaderInit) (defScope sRowReaderInit) .none kV8 dc8 pm8 an8 cd8 ct8),sl8⟩)
  (c8:PySem.W.codeIn K cd8 "RowReader.__init__"=true)
  (e8:PySem.W.keepIn K (.ref f8)=true)
  (a9:PySem.W.findIn K (.ref aRowReader) "take"=some (some (.ref f9)))
  (i9:PySem.W.isFn K (.ref f9)=true)
  (l9:K.lookup f9=some ⟨oc9,od9,.func (PySem.W.fnOf "take" "RowReader.take" (defArgs sRowReaderTake) (defBody sRowReaderTake) (defScope sRowReaderTake) .none kV9 dc9 pm9 an9 cd9 ct9),sl9⟩)
  (c9:PySem.W.codeIn K cd9 "RowReader.take"=true)
  (e9:PySem.W.keepIn K (.ref f9)=true)
  (a10:PySem.W.findIn K (.ref aRowReader) "expect_end"=some (some (.ref f10)))
  (i10:PySem.W.isFn K (.ref f10)=true)
  (l10:K.lookup f10=some ⟨oc10,od10,.func (PySem.W.fnOf "expect_end" "RowReader.expect_end" (defArgs sRowReaderExpectEnd) (defBody sRowReaderExpectEnd) (defScope sRowReaderExpectEnd) .none kV10 dc10 pm10 an10 cd10 ct10),sl10⟩)
  (c10:PySem.W.codeIn K cd10 "RowReader.expect_end"=true)
  (e10:PySem.W.keepIn K (.ref f10)=true)
  (a11:PySem.W.nsIn K mainGlobals "read_symbol"=some (some (.ref f11)))
  (l11:K.lookup f11=some ⟨oc11,od11,.func (PySem.W.fnOf "read_symbol" "read_symbol" (defArgs sReadSymbol) (defBody sReadSymbol) (defScope sReadSymbol) .none kV11 dc11 pm11 an11 cd11 ct11),sl11⟩)
  (c11:PySem.W.codeIn K cd11 "read_symbol"=true)
  (e11:PySem.W.keepIn K (.ref f11)=true)
  (a12:PySem.W.findIn K (.ref aRule) "__init__"=some (some (.ref f12)))
  (i12:PySem.W.isFn K (.ref f12)=true)
  (l12:K.lookup f12=some ⟨oc12,od12,.func (PySem.W.fnOf "__init__" "Rule.__init__" (defArgs sRuleInit) (defBody sRuleInit) (defScope sRuleInit) .none kV12 dc12 pm12 an12 cd12 ct12),sl12⟩)
  (c12:PySem.W.codeIn K cd12 "Rule.__init__"=true)
  (e12:PySem.W.keepIn K (.ref f12)=true)
  (a13:PySem.W.nsIn K mainGlobals "read_rule"=some (some (.ref f13)))
  (l13:K.lookup f13=some ⟨oc13,od13,.func (PySem.W.fnOf "read_rule" "read_rule" (defArgs sReadRule) (defBody sReadRule) (defScope sReadRule) .none kV13 dc13 pm13 an13 cd13 ct13),sl13⟩)
  (c13:PySem.W.codeIn K cd13 "read_rule"=true)
  (e13:PySem.W.keepIn K (.ref f13)=true)
  (a14:PySem.W.nsIn K mainGlobals "read_grammar"=some (some (.ref f14)))
  (l14:K.lookup f14=some ⟨oc14,od14,.func (PySem.W.fnOf "read_grammar" "read_grammar" (defArgs sReadGrammar) (defBody sReadGrammar) (defScope sReadGrammar) .none kV14 dc14 pm14 an14 cd14 ct14),sl14⟩)
  (c14:PySem.W.codeIn K cd14 "read_grammar"=true)
  (e14:PySem.W.keepIn K (.ref f14)=true)
  (a15:PySem.W.nsIn K mainGlobals "answer_load"=some (some (.ref f15)))
  (l15:K.lookup f15=some ⟨oc15,od15,.func (PySem.W.fnOf "answer_load" "answer_load" (defArgs sAnswerLoad) (defBody sAnswerLoad) (defScope sAnswerLoad) .none kV15 dc15 pm15 an15 cd15 ct15),sl15⟩)
  (c15:PySem.W.codeIn K cd15 "answer_load"=true)
  (e15:PySem.W.keepIn K (.ref f15)=true)
  (a16:PySem.W.nsIn K mainGlobals "answer_costs"=some (some (.ref f16)))
  (l16:K.lookup f16=some ⟨oc16,od16,.func (PySem.W.fnOf "answer_costs" "answer_costs" (defArgs sAnswerCosts) (defBody sAnswerCosts) (defScope sAnswerCosts) .none kV16 dc16 pm16 an16 cd16 ct16),sl16⟩)
  (c16:PySem.W.codeIn K cd16 "answer_costs"=true)
  (e16:PySem.W.keepIn K (.ref f16)=true)
  (a17:PySem.W.nsIn K mainGlobals "refusal_of_bytes"=some (some (.ref f17)))
  (l17:K.lookup f17=some ⟨oc17,od17,.func (PySem.W.fnOf "refusal_of_bytes" "refusal_of_bytes" (defArgs sRefusalOfBytes) (defBody sRefusalOfBytes) (defScope sRefusalOfBytes) .none kV17 dc17 pm17 an17 cd17 ct17),sl17⟩)
  (c17:PySem.W.codeIn K cd17 "refusal_of_bytes"=true)
  (e17:PySem.W.keepIn K (.ref f17)=true)
  (a18:PySem.W.nsIn K mainGlobals "hold_text"=some (some (.ref f18)))
  (l18:K.lookup f18=some ⟨oc18,od18,.func (PySem.W.fnOf "hold_text" "hold_text" (defArgs sHoldText) (defBody sHoldText) (defScope sHoldText) .none kV18 dc18 pm18 an18 cd18 ct18),sl18⟩)
  (c18:PySem.W.codeIn K cd18 "hold_text"=true)
  (e18:PySem.W.keepIn K (.ref f18)=true)
  (a19:PySem.W.nsIn K mainGlobals "answer_text"=some (some (.ref f19)))
  (l19:K.lookup f19=some ⟨oc19,od19,.func (PySem.W.fnOf "answer_text" "answer_text" (defArgs sAnswerText) (defBody sAnswerText) (defScope sAnswerText) .none kV19 dc19 pm19 an19 cd19 ct19),sl19⟩)
  (c19:PySem.W.codeIn K cd19 "answer_text"=true)
  (e19:PySem.W.keepIn K (.ref f19)=true)
  (a20:PySem.W.nsIn K mainGlobals "empty_table"=some (some (.ref f20)))
  (l20:K.lookup f20=some ⟨oc20,od20,.func (PySem.W.fnOf "empty_table" "empty_table" (defArgs sEmptyTable) (defBody sEmptyTable) (defScope sEmptyTable) .none kV20 dc20 pm20 an20 cd20 ct20),sl20⟩)
  (c20:PySem.W.codeIn K cd20 "empty_table"=true)
  (e20:PySem.W.keepIn K (.ref f20)=true)
  (a21:PySem.W.nsIn K mainGlobals "replacing_is_told"=some (some (.ref f21)))
  (l21:K.lookup f21=some ⟨oc21,od21,.func (PySem.W.fnOf "replacing_is_told" "replacing_is_told" (defArgs sReplacingIsTold) (defBody sReplacingIsTold) (defScope sReplacingIsTold) .none kV21 dc21 pm21 an21 cd21 ct21),sl21⟩)
  (c21:PySem.W.codeIn K cd21 "replacing_is_told"=true)
  (e21:PySem.W.keepIn K (.ref f21)=true)
  (a22:PySem.W.nsIn K mainGlobals "range_costs_from"=some (some (.ref f22)))
  (l22:K.lookup f22=some ⟨oc22,od22,.func (PySem.W.fnOf "range_costs_from" "range_costs_from" (defArgs sRangeCostsFrom) (defBody sRangeCostsFrom) (defScope sRangeCostsFrom) .none kV22 dc22 pm22 an22 cd22 ct22),sl22⟩)
  (c22:PySem.W.codeIn K cd22 "range_costs_from"=true)
  (e22:PySem.W.keepIn K (.ref f22)=true)
  (a23:PySem.W.nsIn K mainGlobals "range_table"=some (some (.ref f23)))
  (l23:K.lookup f23=some ⟨oc23,od23,.func (PySem.W.fnOf "range_table" "range_table" (defArgs sRangeTable) (defBody sRangeTable) (defScope sRangeTable) .none kV23 dc23 pm23 an23 cd23 ct23),sl23⟩)
  (c23:PySem.W.codeIn K cd23 "range_table"=true)
  (e23:PySem.W.keepIn K (.ref f23)=true)
  (a24:PySem.W.nsIn K mainGlobals "symbol_tables"=some (some (.ref f24)))
  (l24:K.lookup f24=some ⟨oc24,od24,.func (PySem.W.fnOf "symbol_tables" "symbol_tables" (defArgs sSymbolTables) (defBody sSymbolTables) (defScope sSymbolTables) .none kV24 dc24 pm24 an24 cd24 ct24),sl24⟩)
  (c24:PySem.W.codeIn K cd24 "symbol_tables"=true)
  (e24:PySem.W.keepIn K (.ref f24)=true)
  (a25:PySem.W.findIn K (.ref aCells) "__init__"=some (some (.ref f25)))
  (i25:PySem.W.isFn K (.ref f25)=true)
  (l25:K.lookup f25=some ⟨oc25,od25,.func (PySem.W.fnOf "__init__" "Cells.__init__" (defArgs sCellsInit) (defBody sCellsInit) (defScope sCellsInit) .none kV25 dc25 pm25 an25 cd25 ct25),sl25⟩)
  (c25:PySem.W.codeIn K cd25 "Cells.__init__"=true)
  (e25:PySem.W.keepIn K (.ref f25)=true)
  (a26:PySem.W.nsIn K mainGlobals "cheapest_sum"=some (some (.ref f26)))
  (l26:K.lookup f26=some ⟨oc26,od26,.func (PySem.W.fnOf "cheapest_sum" "cheapest_sum" (defArgs sCheapestSum) (defBody sCheapestSum) (defScope sCheapestSum) .none kV26 dc26 pm26 an26 cd26 ct26),sl26⟩)
  (c26:PySem.W.codeIn K cd26 "cheapest_sum"=true)
  (e26:PySem.W.keepIn K (.ref f26)=true)
  (a27:PySem.W.nsIn K mainGlobals "cheapest_rests"=some (some (.ref f27)))
  (l27:K.lookup f27=some ⟨oc27,od27,.func (PySem.W.fnOf "cheapest_rests" "cheapest_rests" (defArgs sCheapestRests) (defBody sCheapestRests) (defScope sCheapestRests) .none kV27 dc27 pm27 an27 cd27 ct27),sl27⟩)
  (c27:PySem.W.codeIn K cd27 "cheapest_rests"=true)
  (e27:PySem.W.keepIn K (.ref f27)=true)
  (a28:PySem.W.nsIn K mainGlobals "first_cheapest_ends"=some (some (.ref f28)))
  (l28:K.lookup f28=some ⟨oc28,od28,.func (PySem.W.fnOf "first_cheapest_ends" "first_cheapest_ends" (defArgs sFirstCheapestEnds) (defBody sFirstCheapestEnds) (defScope sFirstCheapestEnds) .none kV28 dc28 pm28 an28 cd28 ct28),sl28⟩)
  (c28:PySem.W.codeIn K cd28 "first_cheapest_ends"=true)
  (e28:PySem.W.keepIn K (.ref f28)=true)
  (a29:PySem.W.findIn K (.ref aCells) "known_cost"=some (some (.ref f29)))
  (i29:PySem.W.isFn K (.ref f29)=true)
  (l29:K.lookup f29=some ⟨oc29,od29,.func (PySem.W.fnOf "known_cost" "Cells.known_cost" (defArgs sCellsKnownCost) (defBody sCellsKnownCost) (defScope sCellsKnownCost) .none kV29 dc29 pm29 an29 cd29 ct29),sl29⟩)
  (c29:PySem.W.codeIn K cd29 "Cells.known_cost"=true)
  (e29:PySem.W.keepIn K (.ref f29)=true)
  (a30:PySem.W.findIn K (.ref aCell) "__init__"=some (some (.ref f30)))
  (i30:PySem.W.isFn K (.ref f30)=true)
  (l30:K.lookup f30=some ⟨oc30,od30,.func (PySem.W.fnOf "__init__" "Cell.__init__" (defArgs sCellInit) (defBody sCellInit) (defScope sCellInit) .none kV30 dc30 pm30 an30 cd30 ct30),sl30⟩)
  (c30:PySem.W.codeIn K cd30 "Cell.__init__"=true)
  (e30:PySem.W.keepIn K (.ref f30)=true)
  (a31:PySem.W.nsIn K mainGlobals "look_at_rule"=some (some (.ref f31)))
  (l31:K.lookup f31=some ⟨oc31,od31,.func (PySem.W.fnOf "look_at_rule" "look_at_rule" (defArgs sLookAtRule) (defBody sLookAtRule) (defScope sLookAtRule) .none kV31 dc31 pm31 an31 cd31 ct31),sl31⟩)
  (c31:PySem.W.codeIn K cd31 "look_at_rule"=true)
  (e31:PySem.W.keepIn K (.ref f31)=true)
  (a32:PySem.W.findIn K (.ref aCells) "put"=some (some (.ref f32)))
  (i32:PySem.W.isFn K (.ref f32)=true)
  (l32:K.lookup f32=some ⟨oc32,od32,.func (PySem.W.fnOf "put" "Cells.put" (defArgs sCellsPut) (defBody sCellsPut) (defScope sCellsPut) .none kV32 dc32 pm32 an32 cd32 ct32),sl32⟩)
  (c32:PySem.W.codeIn K cd32 "Cells.put"=true)
  (e32:PySem.W.keepIn K (.ref f32)=true)
  (a33:PySem.W.nsIn K mainGlobals "make_round"=some (some (.ref f33)))
  (l33:K.lookup f33=some ⟨oc33,od33,.func (PySem.W.fnOf "make_round" "make_round" (defArgs sMakeRound) (defBody sMakeRound) (defScope sMakeRound) .none kV33 dc33 pm33 an33 cd33 ct33),sl33⟩)
  (c33:PySem.W.codeIn K cd33 "make_round"=true)
  (e33:PySem.W.keepIn K (.ref f33)=true)
  (a34:PySem.W.nsIn K mainGlobals "touched_rules"=some (some (.ref f34)))
  (l34:K.lookup f34=some ⟨oc34,od34,.func (PySem.W.fnOf "touched_rules" "touched_rules" (defArgs sTouchedRules) (defBody sTouchedRules) (defScope sTouchedRules) .none kV34 dc34 pm34 an34 cd34 ct34),sl34⟩)
  (c34:PySem.W.codeIn K cd34 "touched_rules"=true)
  (e34:PySem.W.keepIn K (.ref f34)=true)
  (a35:PySem.W.nsIn K mainGlobals "find_cells"=some (some (.ref f35)))
  (l35:K.lookup f35=some ⟨oc35,od35,.func (PySem.W.fnOf "find_cells" "find_cells" (defArgs sFindCells) (defBody sFindCells) (defScope sFindCells) .none kV35 dc35 pm35 an35 cd35 ct35),sl35⟩)
  (c35:PySem.W.codeIn K cd35 "find_cells"=true)
  (e35:PySem.W.keepIn K (.ref f35)=true)
  (a36:PySem.W.nsIn K mainGlobals "cells_of"=some (some (.ref f36)))
  (l36:K.lookup f36=some ⟨oc36,od36,.func (PySem.W.fnOf "cells_of" "cells_of" (defArgs sCellsOf) (defBody sCellsOf) (defScope sCellsOf) .none kV36 dc36 pm36 an36 cd36 ct36),sl36⟩)
  (c36:PySem.W.codeIn K cd36 "cells_of"=true)
  (e36:PySem.W.keepIn K (.ref f36)=true)
  (a37:PySem.W.findIn K (.ref aCells) "at"=some (some (.ref f37)))
  (i37:PySem.W.isFn K (.ref f37)=true)
  (l37:K.lookup f37=some ⟨oc37,od37,.func (PySem.W.fnOf "at" "Cells.at" (defArgs sCellsAt) (defBody sCellsAt) (defScope sCellsAt) .none kV37 dc37 pm37 an37 cd37 ct37),sl37⟩)
  (c37:PySem.W.codeIn K cd37 "Cells.at"=true)
  (e37:PySem.W.keepIn K (.ref f37)=true)
  (a38:PySem.W.nsIn K mainGlobals "whole_cell"=some (some (.ref f38)))
  (l38:K.lookup f38=some ⟨oc38,od38,.func (PySem.W.fnOf "whole_cell" "whole_cell" (defArgs sWholeCell) (defBody sWholeCell) (defScope sWholeCell) .none kV38 dc38 pm38 an38 cd38 ct38),sl38⟩)
  (c38:PySem.W.codeIn K cd38 "whole_cell"=true)
  (e38:PySem.W.keepIn K (.ref f38)=true)
  (a39:PySem.W.nsIn K mainGlobals "answer_least"=some (some (.ref f39)))
  (l39:K.lookup f39=some ⟨oc39,od39,.func (PySem.W.fnOf "answer_least" "answer_least" (defArgs sAnswerLeast) (defBody sAnswerLeast) (defScope sAnswerLeast) .none kV39 dc39 pm39 an39 cd39 ct39),sl39⟩)
  (c39:PySem.W.codeIn K cd39 "answer_least"=true)
  (e39:PySem.W.keepIn K (.ref f39)=true)
  (a40:PySem.W.nsIn K mainGlobals "parts_of_cell"=some (some (.ref f40)))
  (l40:K.lookup f40=some ⟨oc40,od40,.func (PySem.W.fnOf "parts_of_cell" "parts_of_cell" (defArgs sPartsOfCell) (defBody sPartsOfCell) (defScope sPartsOfCell) .none kV40 dc40 pm40 an40 cd40 ct40),sl40⟩)
  (c40:PySem.W.codeIn K cd40 "parts_of_cell"=true)
  (e40:PySem.W.keepIn K (.ref f40)=true)
  (a41:PySem.W.nsIn K mainGlobals "first_within"=some (some (.ref f41)))
  (l41:K.lookup f41=some ⟨oc41,od41,.func (PySem.W.fnOf "first_within" "first_within" (defArgs sFirstWithin) (defBody sFirstWithin) (defScope sFirstWithin) .none kV41 dc41 pm41 an41 cd41 ct41),sl41⟩)
  (c41:PySem.W.codeIn K cd41 "first_within"=true)
  (e41:PySem.W.keepIn K (.ref f41)=true)
  (a42:PySem.W.nsIn K mainGlobals "left_out"=some (some (.ref f42)))
  (l42:K.lookup f42=some ⟨oc42,od42,.func (PySem.W.fnOf "left_out" "left_out" (defArgs sLeftOut) (defBody sLeftOut) (defScope sLeftOut) .none kV42 dc42 pm42 an42 cd42 ct42),sl42⟩)
  (c42:PySem.W.codeIn K cd42 "left_out"=true)
  (e42:PySem.W.keepIn K (.ref f42)=true)
  (a43:PySem.W.nsIn K mainGlobals "range_changes"=some (some (.ref f43)))
  (l43:K.lookup f43=some ⟨oc43,od43,.func (PySem.W.fnOf "range_changes" "range_changes" (defArgs sRangeChanges) (defBody sRangeChanges) (defScope sRangeChanges) .none kV43 dc43 pm43 an43 cd43 ct43),sl43⟩)
  (c43:PySem.W.codeIn K cd43 "range_changes"=true)
  (e43:PySem.W.keepIn K (.ref f43)=true)
  (a44:PySem.W.nsIn K mainGlobals "plain_changes"=some (some (.ref f44)))
  (l44:K.lookup f44=some ⟨oc44,od44,.func (PySem.W.fnOf "plain_changes" "plain_changes" (defArgs sPlainChanges) (defBody sPlainChanges) (defScope sPlainChanges) .none kV44 dc44 pm44 an44 cd44 ct44),sl44⟩)
  (c44:PySem.W.codeIn K cd44 "plain_changes"=true)
  (e44:PySem.W.keepIn K (.ref f44)=true)
  (a45:PySem.W.nsIn K mainGlobals "told_changes"=some (some (.ref f45)))
  (l45:K.lookup f45=some ⟨oc45,od45,.func (PySem.W.fnOf "told_changes" "told_changes" (defArgs sToldChanges) (defBody sToldChanges) (defScope sToldChanges) .none kV45 dc45 pm45 an45 cd45 ct45),sl45⟩)
  (c45:PySem.W.codeIn K cd45 "told_changes"=true)
  (e45:PySem.W.keepIn K (.ref f45)=true)
  (a46:PySem.W.nsIn K mainGlobals "repaired"=some (some (.ref f46)))
  (l46:K.lookup f46=some ⟨oc46,od46,.func (PySem.W.fnOf "repaired" "repaired" (defArgs sRepaired) (defBody sRepaired) (defScope sRepaired) .none kV46 dc46 pm46 an46 cd46 ct46),sl46⟩)
  (c46:PySem.W.codeIn K cd46 "repaired"=true)
  (e46:PySem.W.keepIn K (.ref f46)=true)
  (a47:PySem.W.nsIn K mainGlobals "told_repair"=some (some (.ref f47)))
  (l47:K.lookup f47=some ⟨oc47,od47,.func (PySem.W.fnOf "told_repair" "told_repair" (defArgs sToldRepair) (defBody sToldRepair) (defScope sToldRepair) .none kV47 dc47 pm47 an47 cd47 ct47),sl47⟩)
  (c47:PySem.W.codeIn K cd47 "told_repair"=true)
  (e47:PySem.W.keepIn K (.ref f47)=true)
  (a48:PySem.W.nsIn K mainGlobals "answer_repair"=some (some (.ref f48)))
  (l48:K.lookup f48=some ⟨oc48,od48,.func (PySem.W.fnOf "answer_repair" "answer_repair" (defArgs sAnswerRepair) (defBody sAnswerRepair) (defScope sAnswerRepair) .none kV48 dc48 pm48 an48 cd48 ct48),sl48⟩)
  (c48:PySem.W.codeIn K cd48 "answer_repair"=true)
  (e48:PySem.W.keepIn K (.ref f48)=true)
  (a49:PySem.W.nsIn K mainGlobals "answer_changes"=some (some (.ref f49)))
  (l49:K.lookup f49=some ⟨oc49,od49,.func (PySem.W.fnOf "answer_changes" "answer_changes" (defArgs sAnswerChanges) (defBody sAnswerChanges) (defScope sAnswerChanges) .none kV49 dc49 pm49 an49 cd49 ct49),sl49⟩)
  (c49:PySem.W.codeIn K cd49 "answer_changes"=true)
  (e49:PySem.W.keepIn K (.ref f49)=true)
  (a50:PySem.W.nsIn K mainGlobals "answer_apply"=some (some (.ref f50)))
  (l50:K.lookup f50=some ⟨oc50,od50,.func (PySem.W.fnOf "answer_apply" "answer_apply" (defArgs sAnswerApply) (defBody sAnswerApply) (defScope sAnswerApply) .none kV50 dc50 pm50 an50 cd50 ct50),sl50⟩)
  (c50:PySem.W.codeIn K cd50 "answer_apply"=true)
  (e50:PySem.W.keepIn K (.ref f50)=true)
  (a51:PySem.W.nsIn K mainGlobals "answer_by_repair"=some (some (.ref f51)))
  (l51:K.lookup f51=some ⟨oc51,od51,.func (PySem.W.fnOf "answer_by_repair" "answer_by_repair" (defArgs sAnswerByRepair) (defBody sAnswerByRepair) (defScope sAnswerByRepair) .none kV51 dc51 pm51 an51 cd51 ct51),sl51⟩)
  (c51:PySem.W.codeIn K cd51 "answer_by_repair"=true)
  (e51:PySem.W.keepIn K (.ref f51)=true)
  (a52:PySem.W.nsIn K mainGlobals "answer_by_cell"=some (some (.ref f52)))
  (l52:K.lookup f52=some ⟨oc52,od52,.func (PySem.W.fnOf "answer_by_cell" "answer_by_cell" (defArgs sAnswerByCell) (defBody sAnswerByCell) (defScope sAnswerByCell) .none kV52 dc52 pm52 an52 cd52 ct52),sl52⟩)
  (c52:PySem.W.codeIn K cd52 "answer_by_cell"=true)
  (e52:PySem.W.keepIn K (.ref f52)=true)
  (a53:PySem.W.nsIn K mainGlobals "row_with_byte"=some (some (.ref f53)))
  (l53:K.lookup f53=some ⟨oc53,od53,.func (PySem.W.fnOf "row_with_byte" "row_with_byte" (defArgs sRowWithByte) (defBody sRowWithByte) (defScope sRowWithByte) .none kV53 dc53 pm53 an53 cd53 ct53),sl53⟩)
  (c53:PySem.W.codeIn K cd53 "row_with_byte"=true)
  (e53:PySem.W.keepIn K (.ref f53)=true)
  (a54:PySem.W.nsIn K mainGlobals "distance_between"=some (some (.ref f54)))
  (l54:K.lookup f54=some ⟨oc54,od54,.func (PySem.W.fnOf "distance_between" "distance_between" (defArgs sDistanceBetween) (defBody sDistanceBetween) (defScope sDistanceBetween) .none kV54 dc54 pm54 an54 cd54 ct54),sl54⟩)
  (c54:PySem.W.codeIn K cd54 "distance_between"=true)
  (e54:PySem.W.keepIn K (.ref f54)=true)
  (a55:PySem.W.nsIn K mainGlobals "answer_distance"=some (some (.ref f55)))
  (l55:K.lookup f55=some ⟨oc55,od55,.func (PySem.W.fnOf "answer_distance" "answer_distance" (defArgs sAnswerDistance) (defBody sAnswerDistance) (defScope sAnswerDistance) .none kV55 dc55 pm55 an55 cd55 ct55),sl55⟩)
  (c55:PySem.W.codeIn K cd55 "answer_distance"=true)
  (e55:PySem.W.keepIn K (.ref f55)=true)
  (a56:PySem.W.nsIn K mainGlobals "answer_call"=some (some (.ref f56)))
  (l56:K.lookup f56=some ⟨oc56,od56,.func (PySem.W.fnOf "answer_call" "answer_call" (defArgs sAnswerCall) (defBody sAnswerCall) (defScope sAnswerCall) .none kV56 dc56 pm56 an56 cd56 ct56),sl56⟩)
  (c56:PySem.W.codeIn K cd56 "answer_call"=true)
  (e56:PySem.W.keepIn K (.ref f56)=true)
  (a57:PySem.W.nsIn K mainGlobals "answers"=some (some (.ref f57)))
  (l57:K.lookup f57=some ⟨oc57,od57,.func (PySem.W.fnOf "answers" "answers" (defArgs sAnswers) (defBody sAnswers) (defScope sAnswers) .none kV57 dc57 pm57 an57 cd57 ct57),sl57⟩)
  (c57:PySem.W.codeIn K cd57 "answers"=true)
  (e57:PySem.W.keepIn K (.ref f57)=true)
  :∃fd:FuncData,(∀(s:Shared) (us:List Value),us.length=(["calls"]:List Str).length→BindsTo s fd ⟨us,[]⟩ ((["calls"]:List Str).zip us))∧∀base:Heap,K.In base→base.Ns mainGlobals mg→FnOk P w K mg base CX0 12 fa fd ["calls"] (spAns K):=by
 have e:=hfa.symm.trans (PySem.W.mg_of X G a57)
 cases e
 have T:Txt ⟨aNoGrammarRow,aRule,aGrammar,aRowReader,aCosts,aCell,aCells,aTooLong,aNoSuchCall,aHeld,aCallReader⟩ K mg:=⟨⟨_,PySem.W.mg_of X G kNONTERMINAL⟩,⟨_,PySem.W.mg_of X G kRANGE⟩,⟨_,PySem.W.mg_of X G kSTART⟩,⟨_,PySem.W.mg_of X G kMOST_NONTERMINALS⟩,⟨_,PySem.W.mg_of X G kMOST_RULES⟩,⟨_,PySem.W.mg_of X G kMOST_SYMBOLS⟩,⟨_,PySem.W.mg_of X G kHIGHEST_BYTE⟩,⟨_,PySem.W.mg_of X G kKEPT⟩,⟨_,PySem.W.mg_of X G kLEFT_OUT⟩,⟨_,PySem.W.mg_of X G kPUT_IN⟩,⟨_,PySem.W.mg_of X G kREPLACED⟩,⟨_,PySem.W.mg_of X G kNO_WAY⟩,⟨_,PySem.W.mg_of X G kTOO_MANY_STEPS⟩,⟨_,PySem.W.mg_of X G kMOST_BYTES⟩,⟨_,PySem.W.mg_of X G kLOAD⟩,⟨_,PySem.W.mg_of X G kCOSTS⟩,⟨_,PySem.W.mg_of X G kTEXT⟩,⟨_,PySem.W.mg_of X G kLEAST⟩,⟨_,PySem.W.mg_of X G kREPAIR⟩,⟨_,PySem.W.mg_of X G kCHANGES⟩,⟨_,PySem.W.mg_of X G kCOST⟩,⟨_,PySem.W.mg_of X G kWAY⟩,⟨_,PySem.W.mg_of X G kDISTANCE⟩,⟨_,PySem.W.mg_of X G kAPPLY⟩,⟨_,PySem.W.mg_of X G kDONE⟩,⟨_,PySem.W.mg_of X G kNONE_THERE⟩,⟨_,PySem.W.mg_of X G kWRONG_NUMBER⟩,⟨_,PySem.W.mg_of X G kWRONG_ROW⟩,⟨_,PySem.W.mg_of X G kTOO_MANY⟩,⟨_,PySem.W.mg_of X G kNO_NONTERMINAL⟩,⟨_,PySem.W.mg_of X G kOUT_OF_BOUNDS⟩,⟨_,PySem.W.mg_of X G kREPAIR_TOO_LONG⟩,⟨_,PySem.W.mg_of X G kLOWEST_COST⟩,⟨_,PySem.W.mg_of X G kHIGHEST_COST⟩,⟨_,PySem.W.mg_of X G kMOST_LETTERS⟩,⟨_,PySem.W.mg_of X G kMOST_OTHER_LETTERS⟩,PySem.W.mg_none_of X G brange,PySem.W.mg_none_of X G blen,PySem.W.mg_none_of X G bmin,PySem.W.mg_none_of X G bmax,PySem.W.mg_none_of X G bany,PySem.W.mg_none_of X G blist,PySem.W.mg_none_of X G benumerate,PySem.W.mg_none_of X G bzip,PySem.W.mg_none_of X G breversed,PySem.W.mg_of X G mNoGrammarRow,PySem.W.mg_of X G mRule,PySem.W.mg_of X G mGrammar,PySem.W.mg_of X G mRowReader,PySem.W.mg_of X G mCosts,PySem.W.mg_of X G mCell,PySem.W.mg_of X G mCells,PySem.W.mg_of X G mTooLong,PySem.W.mg_of X G mNoSuchCall,PySem.W.mg_of X G mHeld,PySem.W.mg_of X G mCallReader,⟨pgRule,hdRule,poRule,saRule⟩,⟨pgGrammar,hdGrammar,poGrammar,saGrammar⟩,⟨pgRowReader,hdRowReader,poRowReader,saRowReader⟩,⟨pgCosts,hdCosts,poCosts,saCosts⟩,⟨pgCell,hdCell,poCell,saCell⟩,⟨pgCells,hdCells,poCells,saCells⟩,⟨pgHeld,hdHeld,poHeld,saHeld⟩,⟨pgCallReader,hdCallReader,poCallReader,saCallReader⟩,xNoGrammarRow,xTooLong,xNoSuchCall,nRule_nonterminal,nRule_symbols,nGrammar_nonterminals,nGrammar_rules,nRowReader_row,nRowReader_place,nCosts_putting,nCosts_leaving,nCosts_replacing,nCell_cost,nCell_rule,nCell_ends,nCells_grammar,nCells_letters,nCells_costs,nCells_tables,nCells_found,nHeld_grammar,nHeld_costs,nHeld_letters,nHeld_cells,nCallReader_calls,nCallReader_place⟩
 have RE:REnd K mg re:=⟨PySem.W.mg_of X G mRe,fun H=>.inr ⟨_,_,_,lRe,rfl,rfl,(by show 1≤sizeLine;decide),.cons ⟨_,rfl⟩ .nil⟩⟩
 have F0:=fun_mk (st:=sGrammarInit) l0 c0 e0
 have B0:=F0.binds (ps:= ["self","nonterminals","rules"]) fun _ _ _ _ _ _=>ln3 fun _ _ _=>rfl
 have F1:=fun_mk (st:=sCostsInit) l1 c1 e1
 have B1:=F1.binds (ps:= ["self","putting","leaving","replacing"]) fun _ _ _ _ _ _=>ln4 fun _ _ _ _=>rfl
 have F2:=fun_mk (st:=sHeldInit) l2 c2 e2
 have B2:=F2.binds (ps:= ["self"]) fun _ _ _ _ _ _=>ln1 fun _=>rfl
 have F3:=fun_mk (st:=sCallReaderInit) l3 c3 e3
 have B3:=F3.binds (ps:= ["self","calls"]) fun _ _ _ _ _ _=>ln2 fun _ _=>rfl
 have F4:=fun_mk (st:=sCallReaderIsAtEnd) l4 c4 e4
 have B4:=F4.binds (ps:= ["self"]) fun _ _ _ _ _ _=>ln1 fun _=>rfl
 have F5:=fun_mk (st:=sCallReaderTakeNumbers) l5 c5 e5
 have B5:=F5.binds (ps:= ["self","how_many"]) fun _ _ _ _ _ _=>ln2 fun _ _=>rfl
 have F6:=fun_mk (st:=sCallReaderTakeNumber) l6 c6 e6
 have B6:=F6.binds (ps:= ["self"]) fun _ _ _ _ _ _=>ln1 fun _=>rfl
 have F7:=fun_mk (st:=sCallReaderTakeRow) l7 c7 e7
 have B7:=F7.binds (ps:= ["self"]) fun _ _ _ _ _ _=>ln1 fun _=>rfl
 have F8:=fun_mk (st:=sRowReaderInit) l8 c8 e8
 have B8:=F8.binds (ps:= ["self","row"]) fun _ _ _ _ _ _=>ln2 fun _ _=>rfl
 have F9:=fun_mk (st:=sRowReaderTake) l9 c9 e9
 have B9:=F9.binds (ps:= ["self","lowest","highest"]) fun _ _ _ _ _ _=>ln3 fun _ _ _=>rfl
 have F10:=fun_mk (st:=sRowReaderExpectEnd) l10 c10 e10
 have B10:=F10.binds (ps:= ["self"]) fun _ _ _ _ _ _=>ln1 fun _=>rfl
 have F11:=fun_mk (st:=sReadSymbol) l11 c11 e11
 have B11:=F11.binds (ps:= ["reader","nonterminals"]) fun _ _ _ _ _ _=>ln2 fun _ _=>rfl
 have F12:=fun_mk (st:=sRuleInit) l12 c12 e12
 have B12:=F12.binds (ps:= ["self","nonterminal","symbols"]) fun _ _ _ _ _ _=>ln3 fun _ _ _=>rfl
 have F13:=fun_mk (st:=sReadRule) l13 c13 e13
 have B13:=F13.binds (ps:= ["reader","nonterminals"]) fun _ _ _ _ _ _=>ln2 fun _ _=>rfl
 have F14:=fun_mk (st:=sReadGrammar) l14 c14 e14
 have B14:=F14.binds (ps:= ["row"]) fun _ _ _ _ _ _=>ln1 fun _=>rfl
 have F15:=fun_mk (st:=sAnswerLoad) l15 c15 e15
 have B15:=F15.binds (ps:= ["held","row"]) fun _ _ _ _ _ _=>ln2 fun _ _=>rfl
 have F16:=fun_mk (st:=sAnswerCosts) l16 c16 e16
 have B16:=F16.binds (ps:= ["held","three"]) fun _ _ _ _ _ _=>ln2 fun _ _=>rfl
 have F17:=fun_mk (st:=sRefusalOfBytes) l17 c17 e17
 have B17:=F17.binds (ps:= ["row","most"]) fun _ _ _ _ _ _=>ln2 fun _ _=>rfl
 have F18:=fun_mk (st:=sHoldText) l18 c18 e18
 have B18:=F18.binds (ps:= ["held","letters"]) fun _ _ _ _ _ _=>ln2 fun _ _=>rfl
 have F19:=fun_mk (st:=sAnswerText) l19 c19 e19
 have B19:=F19.binds (ps:= ["held","row"]) fun _ _ _ _ _ _=>ln2 fun _ _=>rfl
 have F20:=fun_mk (st:=sEmptyTable) l20 c20 e20
 have B20:=F20.binds (ps:= ["length"]) fun _ _ _ _ _ _=>ln1 fun _=>rfl
 have F21:=fun_mk (st:=sReplacingIsTold) l21 c21 e21
 have B21:=F21.binds (ps:= ["costs"]) fun _ _ _ _ _ _=>ln1 fun _=>rfl
 have F22:=fun_mk (st:=sRangeCostsFrom) l22 c22 e22
 have B22:=F22.binds (ps:= ["lo","hi","letters","i","costs"]) fun _ _ _ _ _ _=>ln5 fun _ _ _ _ _=>rfl
 have F23:=fun_mk (st:=sRangeTable) l23 c23 e23
 have B23:=F23.binds (ps:= ["lo","hi","letters","costs"]) fun _ _ _ _ _ _=>ln4 fun _ _ _ _=>rfl
 have F24:=fun_mk (st:=sSymbolTables) l24 c24 e24
 have B24:=F24.binds (ps:= ["grammar","letters","costs"]) fun _ _ _ _ _ _=>ln3 fun _ _ _=>rfl
 have F25:=fun_mk (st:=sCellsInit) l25 c25 e25
 have B25:=F25.binds (ps:= ["self","grammar","letters","costs"]) fun _ _ _ _ _ _=>ln4 fun _ _ _ _=>rfl
 have F26:=fun_mk (st:=sCheapestSum) l26 c26 e26
 have B26:=F26.binds (ps:= ["symbol_costs","rest_costs"]) fun _ _ _ _ _ _=>ln2 fun _ _=>rfl
 have F27:=fun_mk (st:=sCheapestRests) l27 c27 e27
 have B27:=F27.binds (ps:= ["tables","j","leaving"]) fun _ _ _ _ _ _=>ln3 fun _ _ _=>rfl
 have F28:=fun_mk (st:=sFirstCheapestEnds) l28 c28 e28
 have B28:=F28.binds (ps:= ["tables","rests","i","j"]) fun _ _ _ _ _ _=>ln4 fun _ _ _ _=>rfl
 have F29:=fun_mk (st:=sCellsKnownCost) l29 c29 e29
 have B29:=F29.binds (ps:= ["self","nonterminal","i","j"]) fun _ _ _ _ _ _=>ln4 fun _ _ _ _=>rfl
 have F30:=fun_mk (st:=sCellInit) l30 c30 e30
 have B30:=F30.binds (ps:= ["self","cost","rule","ends"]) fun _ _ _ _ _ _=>ln4 fun _ _ _ _=>rfl
 have F31:=fun_mk (st:=sLookAtRule) l31 c31 e31
 have B31:=F31.binds (ps:= ["cells","number","lowest_end","news"]) fun _ _ _ _ _ _=>ln4 fun _ _ _ _=>rfl
 have F32:=fun_mk (st:=sCellsPut) l32 c32 e32
 have B32:=F32.binds (ps:= ["self","nonterminal","i","j","cell"]) fun _ _ _ _ _ _=>ln5 fun _ _ _ _ _=>rfl
 have F33:=fun_mk (st:=sMakeRound) l33 c33 e33
 have B33:=F33.binds (ps:= ["cells","touched"]) fun _ _ _ _ _ _=>ln2 fun _ _=>rfl
 have F34:=fun_mk (st:=sTouchedRules) l34 c34 e34
 have B34:=F34.binds (ps:= ["grammar","lowest_ends"]) fun _ _ _ _ _ _=>ln2 fun _ _=>rfl
 have F35:=fun_mk (st:=sFindCells) l35 c35 e35
 have B35:=F35.binds (ps:= ["grammar","letters","costs"]) fun _ _ _ _ _ _=>ln3 fun _ _ _=>rfl
 have F36:=fun_mk (st:=sCellsOf) l36 c36 e36
 have B36:=F36.binds (ps:= ["held"]) fun _ _ _ _ _ _=>ln1 fun _=>rfl
 have F37:=fun_mk (st:=sCellsAt) l37 c37 e37
 have B37:=F37.binds (ps:= ["self","nonterminal","i","j"]) fun _ _ _ _ _ _=>ln4 fun _ _ _ _=>rfl
 have F38:=fun_mk (st:=sWholeCell) l38 c38 e38
 have B38:=F38.binds (ps:= ["held"]) fun _ _ _ _ _ _=>ln1 fun _=>rfl
 have F39:=fun_mk (st:=sAnswerLeast) l39 c39 e39
 have B39:=F39.binds (ps:= ["held"]) fun _ _ _ _ _ _=>ln1 fun _=>rfl
 have F40:=fun_mk (st:=sPartsOfCell) l40 c40 e40
 have B40:=F40.binds (ps:= ["cells","part"]) fun _ _ _ _ _ _=>ln2 fun _ _=>rfl
 have F41:=fun_mk (st:=sFirstWithin) l41 c41 e41
 have B41:=F41.binds (ps:= ["lo","hi","letters","i","j"]) fun _ _ _ _ _ _=>ln5 fun _ _ _ _ _=>rfl
 have F42:=fun_mk (st:=sLeftOut) l42 c42 e42
 have B42:=F42.binds (ps:= ["i","j"]) fun _ _ _ _ _ _=>ln2 fun _ _=>rfl
 have F43:=fun_mk (st:=sRangeChanges) l43 c43 e43
 have B43:=F43.binds (ps:= ["lo","hi","letters","i","j","costs"]) fun _ _ _ _ _ _=>ln6 fun _ _ _ _ _ _=>rfl
 have F44:=fun_mk (st:=sPlainChanges) l44 c44 e44
 have B44:=F44.binds (ps:= ["cells","part"]) fun _ _ _ _ _ _=>ln2 fun _ _=>rfl
 have F45:=fun_mk (st:=sToldChanges) l45 c45 e45
 have B45:=F45.binds (ps:= ["cells"]) fun _ _ _ _ _ _=>ln1 fun _=>rfl
 have F46:=fun_mk (st:=sRepaired) l46 c46 e46
 have B46:=F46.binds (ps:= ["changes"]) fun _ _ _ _ _ _=>ln1 fun _=>rfl
 have F47:=fun_mk (st:=sToldRepair) l47 c47 e47
 have B47:=F47.binds (ps:= ["cells"]) fun _ _ _ _ _ _=>ln1 fun _=>rfl
 have F48:=fun_mk (st:=sAnswerRepair) l48 c48 e48
 have B48:=F48.binds (ps:= ["letters"]) fun _ _ _ _ _ _=>ln1 fun _=>rfl
 have F49:=fun_mk (st:=sAnswerChanges) l49 c49 e49
 have B49:=F49.binds (ps:= ["changes"]) fun _ _ _ _ _ _=>ln1 fun _=>rfl
 have F50:=fun_mk (st:=sAnswerApply) l50 c50 e50
 have B50:=F50.binds (ps:= ["held","letters"]) fun _ _ _ _ _ _=>ln2 fun _ _=>rfl
 have F51:=fun_mk (st:=sAnswerByRepair) l51 c51 e51
 have B51:=F51.binds (ps:= ["held","call"]) fun _ _ _ _ _ _=>ln2 fun _ _=>rfl
 have F52:=fun_mk (st:=sAnswerByCell) l52 c52 e52
 have B52:=F52.binds (ps:= ["held","call","three"]) fun _ _ _ _ _ _=>ln3 fun _ _ _=>rfl
 have F53:=fun_mk (st:=sRowWithByte) l53 c53 e53
 have B53:=F53.binds (ps:= ["row","byte","second","costs"]) fun _ _ _ _ _ _=>ln4 fun _ _ _ _=>rfl
 have F54:=fun_mk (st:=sDistanceBetween) l54 c54 e54
 have B54:=F54.binds (ps:= ["first","second","costs"]) fun _ _ _ _ _ _=>ln3 fun _ _ _=>rfl
 have F55:=fun_mk (st:=sAnswerDistance) l55 c55 e55
 have B55:=F55.binds (ps:= ["held","row"]) fun _ _ _ _ _ _=>ln2 fun _ _=>rfl
 have F56:=fun_mk (st:=sAnswerCall) l56 c56 e56
 have B56:=F56.binds (ps:= ["held","reader"]) fun _ _ _ _ _ _=>ln2 fun _ _=>rfl
 have F57:=fun_mk (st:=sAnswers) l57 c57 e57
 have B57:=F57.binds (ps:= ["calls"]) fun _ _ _ _ _ _=>ln1 fun _=>rfl
 refine ⟨PySem.W.fnOf "answers" "answers" (defArgs sAnswers) (defBody sAnswers) (defScope sAnswers) .none kV57 dc57 pm57 an57 cd57 ct57,fun s=>ln1 fun _=>.of_eq rfl,fun base _ _=>?_⟩
 have C0:=Ne.mk (okGrammar (P:=P) (w:=w) (base:=base) F0 T) B0 ⟨mkGrammar,a0,i0,kcGrammar⟩
 have C1:=Ne.mk (okCosts (P:=P) (w:=w) (base:=base) F1 T) B1 ⟨mkCosts,a1,i1,kcCosts⟩
 have C2:=Ne.mk (okHI (P:=P) (w:=w) (base:=base) F2 T dis C0 C1) B2 ⟨mkHeld,a2,i2,kcHeld⟩
 have C3:=Ne.mk (okCallReader (P:=P) (w:=w) (base:=base) F3 T) B3 ⟨mkCallReader,a3,i3,kcCallReader⟩
 have C4:=Mt.mk (okEnd (P:=P) (w:=w) (base:=base) F4 T) B4 ⟨a4,i4,e4⟩
 have C5:=Mt.mk (okTN (P:=P) (w:=w) (base:=base) F5 T) B5 ⟨a5,i5,e5⟩
 have C6:=Mt.mk (okT1 (P:=P) (w:=w) (base:=base) F6 T C5) B6 ⟨a6,i6,e6⟩
 have C7:=Mt.mk (okRow (P:=P) (w:=w) (base:=base) F7 T C5 C6) B7 ⟨a7,i7,e7⟩
 have C8:=Ne.mk (okRowReader (P:=P) (w:=w) (base:=base) F8 T) B8 ⟨mkRowReader,a8,i8,kcRowReader⟩
 have C9:=Mt.mk (okTake (P:=P) (w:=w) (base:=base) F9 T) B9 ⟨a9,i9,e9⟩
 have C10:=Mt.mk (okEE (P:=P) (w:=w) (base:=base) F10 T) B10 ⟨a10,i10,e10⟩
 have C11:=Cl.mk (okRS (P:=P) (w:=w) (base:=base) F11 T C9) B11 (PySem.W.mg_of X G a11) e11
 have C12:=Ne.mk (okRule (P:=P) (w:=w) (base:=base) F12 T) B12 ⟨mkRule,a12,i12,kcRule⟩
 have C13:=Cl.mk (okRR (P:=P) (w:=w) (base:=base) F13 T C9 C11 C12) B13 (PySem.W.mg_of X G a13) e13
 have C14:=Cl.mk (okRG (P:=P) (w:=w) (base:=base) F14 T C8 C9 C10 C13 C0) B14 (PySem.W.mg_of X G a14) e14
 have C15:=Cl.mk (okLd (P:=P) (w:=w) (base:=base) F15 T dis C14) B15 (PySem.W.mg_of X G a15) e15
 have C16:=Cl.mk (okCst (P:=P) (w:=w) (base:=base) F16 T dis C1) B16 (PySem.W.mg_of X G a16) e16
 have C17:=Cl.mk (okRB (P:=P) (w:=w) (base:=base) F17 T) B17 (PySem.W.mg_of X G a17) e17
 have C18:=Cl.mk (okHT (P:=P) (w:=w) (base:=base) F18 T dis) B18 (PySem.W.mg_of X G a18) e18
 have C19:=Cl.mk (okTx (P:=P) (w:=w) (base:=base) F19 T dis C17 C18) B19 (PySem.W.mg_of X G a19) e19
 have C20:=Cl.mk (okET (P:=P) (w:=w) (base:=base) F20 T) B20 (PySem.W.mg_of X G a20) e20
 have C21:=Cl.mk (okRIT (P:=P) (w:=w) (base:=base) F21 T) B21 (PySem.W.mg_of X G a21) e21
 have C22:=Cl.mk (okRCF (P:=P) (w:=w) (base:=base) F22 T C21) B22 (PySem.W.mg_of X G a22) e22
 have C23:=Cl.mk (okRT (P:=P) (w:=w) (base:=base) F23 T C22) B23 (PySem.W.mg_of X G a23) e23
 have C24:=Cl.mk (okST (P:=P) (w:=w) (base:=base) F24 T C20 C23) B24 (PySem.W.mg_of X G a24) e24
 have C25:=Ne.mk (okCI (P:=P) (w:=w) (base:=base) F25 T C24) B25 ⟨mkCells,a25,i25,kcCells⟩
 have C26:=Cl.mk (okCS (P:=P) (w:=w) (base:=base) F26 T) B26 (PySem.W.mg_of X G a26) e26
 have C27:=Cl.mk (okCR (P:=P) (w:=w) (base:=base) F27 T C26) B27 (PySem.W.mg_of X G a27) e27
 have C28:=Cl.mk (okFE (P:=P) (w:=w) (base:=base) F28 T) B28 (PySem.W.mg_of X G a28) e28
 have C29:=Mt.mk (okKC (P:=P) (w:=w) (base:=base) F29 T) B29 ⟨a29,i29,e29⟩
 have C30:=Ne.mk (okCell (P:=P) (w:=w) (base:=base) F30 T) B30 ⟨mkCell,a30,i30,kcCell⟩
 have C31:=Cl.mk (okLR (P:=P) (w:=w) (base:=base) F31 T C27 C28 C29 C30) B31 (PySem.W.mg_of X G a31) e31
 have C32:=Mt.mk (okPut (P:=P) (w:=w) (base:=base) F32 T) B32 ⟨a32,i32,e32⟩
 have C33:=Cl.mk (okMR (P:=P) (w:=w) (base:=base) F33 T C31 C32) B33 (PySem.W.mg_of X G a33) e33
 have C34:=Cl.mk (okTR (P:=P) (w:=w) (base:=base) F34 T) B34 (PySem.W.mg_of X G a34) e34
 have C35:=Cl.mk (okFC (P:=P) (w:=w) (base:=base) F35 T C25 C33 C34) B35 (PySem.W.mg_of X G a35) e35
 have C36:=Cl.mk (okCO (P:=P) (w:=w) (base:=base) F36 T dis C35) B36 (PySem.W.mg_of X G a36) e36
 have C37:=Mt.mk (okAt (P:=P) (w:=w) (base:=base) F37 T) B37 ⟨a37,i37,e37⟩
 have C38:=Cl.mk (okWC (P:=P) (w:=w) (base:=base) F38 T dis C36 C37) B38 (PySem.W.mg_of X G a38) e38
 have C39:=Cl.mk (okLst (P:=P) (w:=w) (base:=base) F39 T dis C38) B39 (PySem.W.mg_of X G a39) e39
 have C40:=Cl.mk (okPOC (P:=P) (w:=w) (base:=base) F40 T RE C37) B40 (PySem.W.mg_of X G a40) e40
 have C41:=Cl.mk (okFW (P:=P) (w:=w) (base:=base) F41 T) B41 (PySem.W.mg_of X G a41) e41
 have C42:=Cl.mk (okLO (P:=P) (w:=w) (base:=base) F42 T) B42 (PySem.W.mg_of X G a42) e42
 have C43:=Cl.mk (okRC (P:=P) (w:=w) (base:=base) F43 T C41 C42 C21) B43 (PySem.W.mg_of X G a43) e43
 have C44:=Cl.mk (okPC (P:=P) (w:=w) (base:=base) F44 T RE C43 C42) B44 (PySem.W.mg_of X G a44) e44
 have C45:=Cl.mk (okTC (P:=P) (w:=w) (base:=base) F45 T RE C40 C44) B45 (PySem.W.mg_of X G a45) e45
 have C46:=Cl.mk (okRep (P:=P) (w:=w) (base:=base) F46 T) B46 (PySem.W.mg_of X G a46) e46
 have C47:=Cl.mk (okTell (P:=P) (w:=w) (base:=base) F47 T C45 C46) B47 (PySem.W.mg_of X G a47) e47
 have C48:=Cl.mk (okAR (P:=P) (w:=w) (base:=base) F48 T) B48 (PySem.W.mg_of X G a48) e48
 have C49:=Cl.mk (okAC (P:=P) (w:=w) (base:=base) F49 T) B49 (PySem.W.mg_of X G a49) e49
 have C50:=Cl.mk (okAA (P:=P) (w:=w) (base:=base) F50 T dis C18) B50 (PySem.W.mg_of X G a50) e50
 have C51:=Cl.mk (okBR (P:=P) (w:=w) (base:=base) F51 T dis C38 C36 C47 C46 C48 C49 C50) B51 (PySem.W.mg_of X G a51) e51
 have C52:=Cl.mk (okBC (P:=P) (w:=w) (base:=base) F52 T dis C36 C37) B52 (PySem.W.mg_of X G a52) e52
 have C53:=Cl.mk (okRWB (P:=P) (w:=w) (base:=base) F53 T) B53 (PySem.W.mg_of X G a53) e53
 have C54:=Cl.mk (okDB (P:=P) (w:=w) (base:=base) F54 T C53) B54 (PySem.W.mg_of X G a54) e54
 have C55:=Cl.mk (okAD (P:=P) (w:=w) (base:=base) F55 T dis C17 C54) B55 (PySem.W.mg_of X G a55) e55
 have C56:=Cl.mk (okCall (P:=P) (w:=w) (base:=base) F56 T dis C6 C5 C7 C15 C16 C19 C39 C51 C52 C55) B56 (PySem.W.mg_of X G a56) e56
 exact okAns F57 T dis C2 C3 C4 C56
end Lr
namespace PySem.W.Fast
def tw7597057284158809792:=0
def tw17475835115434286382:=0
def tw6533558633139365143:=0
def tw12541254078617367325:=0
def tw15998301234472688791:=0
def tw17646903192286983177:=0
def tw6540832259326868895:=0
def tw14023810018533776900:=0
def tw10726497614665263400:=0
def tw1524499407911284311:=0
def tw8674048200391417669:=0
def tw667552881931091912:=0
def tw12578702450355586938:=0
def tw17215023011252080084:=0
def tw12594297441471431189:=0
def tw16211105713859116009:=0
def tw6242335727914020331:=0
def tw13692355708772633951:=0
def tw9881314522671777920:=0
def tw4547498904847934584:=0
def tw5986656858792866766:=0
def tw4568634397341777619:=0
def tw14907118668757530241:=0
def tw9833418568546847380:=0
def tw11915419986347387530:=0
def tw6835310463874770760:=0
def tw458884191847198680:=0
def tw7896729585250535424:=0
def tw17169018690619202223:=0
def tw9821855309465226721:=0
def tw15656445990547721664:=0
def tw13243622066467156457:=0
def tw11612314688224145872:=0
def tw1072688177528316066:=0
def tw12476119757251754317:=0
def tw3979048708750426875:=0
def tw12252796056690301463:=0
def tw772954344929799983:=0
def tw8524754738203011241:=0
def tw15906554376576799574:=0
def tw15641569898901747730:=0
def tw3501948133626619480:=0
def tw17430194539954997778:=0
def tw2478654438623369276:=0
def tw2987984862452886101:=0
def tw11035207611793078819:=0
def tw4107643288253604808:=0
def tw3363437829313920490:=0
def tw17613329835757766649:=0
def tw18286790490951120394:=0
def tw3154124970872762885:=0
def tw17664689681317457987:=0
def tw7107586033843096778:=0
def tw2212223002920575214:=0
def tw7858782336794595148:=0
def tw4623047438357182792:=0
def tw6508164994520338455:=0
def tw18389342141732470691:=0
def tw16079178694270414416:=0
def tw433747067371694738:=0
def tw10092147193913183669:=0
def tw6671678345768130636:=0
def tw4448298191969586878:=0
def tw16682202312124186315:=0
def tw10949020310522621143:=0
def tw3666393444471258953:=0
def tw10081538853578160530:=0
def tw10988631940868916787:=0
def tw621091072891205126:=0
def tw2557644594453361686:=0
def tw16448465684744066535:=0
def tw9312462234699460342:=0
def tw16336684067756917233:=0
def tw4167028152837893600:=0
def tw5792076165155841845:=0
def tw17924347478981142745:=0
def tw3878900704821140659:=0
def tw3933784608943367875:=0
def tw6366297790680976679:=0
def tw6424138882318297796:=0
def tw3149856228740845520:=0
def tw4426026138895575241:=0
def tw17968421371663729852:=0
def tw12821525092638804297:=0
def tw12173771322801305078:=0
def tw13284063959934770366:=0
def tw337406340735821092:=0
def tw13831801601138267125:=0
def tw11752026617677427710:=0
def tw1658311518067106513:=0
def tw1218804977959842765:=0
def tw9602810347471009878:=0
def tw53582688763377410:=0
def tw13434170832236592280:=0
def tw5833229755790248753:=0
def tw11710784439925191218:=0
def tw12315018534187288167:=0
def tw7330940650270264315:=0
def tw8749236773549102039:=0
def tw744431106241643780:=0
def tw18219444287031612211:=0
def tw6366764526323402565:=0
def tw18349216858824962562:=0
def tw10744453733475364665:=0
def tw7004971721320394009:=0
def tw5190939255353116112:=0
def tw7643797314814248927:=0
def tw17033016744405810747:=0
def tw10227942059704190946:=0
def tw885170307759111233:=0
def tw3334655156115067137:=0
def tw5709404765804189581:=0
def tw4111294113224875095:=0
def tw14584047637575607790:=0
def tw9499130930823600523:=0
def tw15140802060985780508:=0
def tw16841277644920475431:=0
def tw16774823277788372398:=0
def tw10399672528389508784:=0
def tw5745910299529278680:=0
def tw1816520262313917412:=0
def tw3970712004972325007:=0
def tw9632773216092329916:=0
def tw15342907386700475644:=0
def tw14217211245480998437:=0
def tw5673113224460326632:=0
def tw6398929001574902775:=0
def tw8819943567896527677:=0
def tw2102173955003819490:=0
def tw5264408715848752609:=0
def tw9359288392115742236:=0
def tw4910630422998104626:=0
def tw15412354320160239625:=0
def tw16760506378692303197:=0
def tw17020647680552001740:=0
def tw3669967326371276407:=0
def tw2033376781380012645:=0
def tw577881041714515735:=0
def tw14809145038900520497:=0
def tw18425660178424356233:=0
def tw15037998841005558846:=0
def tw14161306343152523445:=0
def tw9280112521429519500:=0
def tw3988148511474263132:=0
def tw17491016925535719569:=0
def tw4100693434934528200:=0
def tw7364489510571188386:=0
def tw8899301874385491931:=0
def tw12530193329662594446:=0
def tw11639760343720776150:=0
def tw16884885510928151834:=0
def tw11133181062324687343:=0
def tw10899227633316392044:=0
def tw14068658293984324977:=0
def tw6634481116177412410:=0
def tw1719763387291506077:=0
def tw14524823668123304659:=0
def tw17780100991817003157:=0
def tw12690158292961173950:=0
def tw17620914912274417689:=0
def tw9704926623873423909:=0
def tw8100397871652656752:=0
def tw17502198527140508113:=0
def tw1348975485040419137:=0
def tw4527981787932970024:=0
def tw11195175897387826777:=0
def tw5479461085664516242:=0
def tw9997833659615950725:=0
def tw12530327910748788095:=0
def tw7481061105317146979:=0
def tw17588006105068071859:=0
def tw5652743161098690332:=0
def tw3689500908730959002:=0
def tw12034812773514769022:=0
def tw9329369419632394653:=0
def tw5458737577560518700:=0
def tw6084347708530707174:=0
def tw15470596998668982580:=0
def tw18030575101812019772:=0
def tw2567096426647923985:=0
def tw550405969921050886:=0
def tw86070028169751648:=0
def tw9289228444283574102:=0
def tw9391614243401749593:=0
def tw10775239088434545052:=0
def tw10060468612976729678:=0
def tw17081369441915283604:=0
def tw17542433277783473543:=0
def tw8372209906851988790:=0
def tw10638073413404349949:=0
def tw15778639883910811752:=0
def tw9777468524280816235:=0
def tw9506360378807295163:=0
def tw8549460255020781853:=0
def tw15148095974707630259:=0
def tw984998385694002993:=0
def tw5297683499267181507:=0
def tw1994654049336959018:=0
def tw669641260355660894:=0
def tw17313471588216953243:=0
def tw14990599420085149469:=0
def tw1760217203788390074:=0
def tw1356476075235423904:=0
def tw17860893435673119746:=0
def tw16080626830445820841:=0
def tw8731965756508652444:=0
def tw14310307748334370800:=0
def tw17677621683093076914:=0
def tw7949154118270996567:=0
def tw18177727297432467564:=0
def tw11981256237546421841:=0
def tw7476617161782800377:=0
def tw16732381031149296003:=0
def tw10876892493652779092:=0
def tw3420947782077286168:=0
def tw9787339286062224271:=0
def tw17773215558407088757:=0
def tw17230667388724781027:=0
def tw9021057227268134530:=0
def tw2113722511308694966:=0
def tw10902799422838455410:=0
def tw1584915526107645703:=0
def tw10117698369348363449:=0
def tw18258345163366715287:=0
def tw9034356457258807873:=0
def tw9382789435436150223:=0
def tw2340344390722798145:=0
def tw11154387656152672527:=0
def tw12298605578923938045:=0
def tw4667233300241637774:=0
def tw1916395287924743478:=0
def tw16724591851207350334:=0
def tw9875919077885887735:=0
def tw4753864413317340416:=0
def tw9860633879274352633:=0
def tw16250185000602152668:=0
def tw7078959377062937543:=0
def tw17295626920961479576:=0
def tw2801761019655054322:=0
def tw8240848518984909334:=0
def tw3923812075564381058:=0
def tw3370495677909862768:=0
def tw5368044066792853258:=0
def tw932752663593504682:=0
def tw10945724631606652129:=0
def tw14522014859601480120:=0
def tw18182364329923073630:=0
def tw17331884225530308017:=0
def tw7493220427663842225:=0
def tw16798122831412672248:=0
def tw16204718582576084369:=0
def tw14869885770790805694:=0
def tw17392047090577395425:=0
def tw14349251659383624515:=0
def tw3175425084147079121:=0
def tw3026422812039833477:=0
def tw883936569949319389:=0
def tw15030217258897512200:=0
def tw14531523771608642394:=0
def tw2238828445451772582:=0
def tw16905557130123653217:=0
def tw17552961696592153231:=0
def tw7315108667879781936:=0
def tw14263804146352614888:=0
def tw2245299930945174708:=0
def tw8585314910100034588:=0
def tw13736879693698185266:=0
def tw2793377706262260843:=0
def tw9389208765493599110:=0
def tw1656675456009583208:=0
def tw15191997494949777768:=0
def tw9583621205333733933:=0
def tw10879447870200409117:=0
def tw13791094346462866004:=0
def tw16112467557392170322:=0
def tw5738750661929612555:=0
def tw4537206946588171508:=0
def tw4901929572736550864:=0
def tw16957584891249533786:=0
def tw16665207016993096396:=0
def tw8980817304029990652:=0
def tw1886874398862662952:=0
def tw2324952421466538876:=0
def tw1017910380192579993:=0
def tw17210401837957650516:=0
def tw12262096961845876529:=0
def tw7134846695626954555:=0
def tw6577591472891638101:=0
def tw13106039030364227570:=0
def tw8203512262350789395:=0
def tw13860087859843639648:=0
def tw17866521120785172269:=0
def tw2055254920924228787:=0
def tw14415840000214387095:=0
def tw18260103468601097343:=0
def tw2992392461681981650:=0
def tw9464914431206485393:=0
def tw176265344183678937:=0
def tw5749004907123231067:=0
def tw6204577101882966981:=0
def tw5266332966606276441:=0
def tw2807241626519154892:=0
def tw3388076143460527032:=0
def tw12241898236931506388:=0
def tw5133179822487126418:=0
def tw2020573757977010007:=0
def tw606118395310410493:=0
def tw10889100017209158096:=0
def tw12444758129540970638:=0
def tw14178276269928827138:=0
def tw17803386507375609960:=0
def tw3488818334599126801:=0
def tw15288750429200238645:=0
def tw17724305733623030787:=0
def tw7824014005189404718:=0
def tw4732211206632792578:=0
def tw14847820520403596167:=0
def tw12747973700329906277:=0
def tw16816920113604466823:=0
def tw15386273733160432799:=0
def tw8155807652004958288:=0
def tw4471941225346694490:=0
def tw8318770950104343383:=0
def tw18009859607974175551:=0
def tw11029788491451874915:=0
def tw13930601563559657366:=0
def tw5021204746711380381:=0
def tw12163680329309192382:=0
def tw12154873327686037964:=0
def tw3410063476315921717:=0
def tw6813198940399391596:=0
def tw3616602304849072988:=0
def tw10734224933693904605:=0
def tw6099562874069350441:=0
def tw2804666668402682714:=0
def tw2108991822346370920:=0
def tw17205613965286336620:=0
def tw6709145565609366123:=0
def tw13536179471619639291:=0
def tw5506645152147352355:=0
def tw1730452131359331137:=0
def tw6222454611268533961:=0
def tw3994898039785189030:=0
def tw6139400122682887485:=0
def tw14745293894507438251:=0
def tw6051059550196844371:=0
def tw6837950780431444525:=0
def tw17082926858145850853:=0
def tw7142105488227615220:=0
def tw3289933941198180912:=0
def tw4845503501270990232:=0
def tw5526653799940425645:=0
def tw706526215645569972:=0
def tw16417287943650579545:=0
def tw4231162975931620409:=0
def tw13575881662107843213:=0
def tw10218429581230475839:=0
def tw16417807017768570541:=0
def tw15142262647852592303:=0
def tw14147719580393816925:=0
def tw11603293785792927971:=0
def tw6272706762992969749:=0
def tw1619101739184618407:=0
def tw536853082135340820:=0
def tw9705864118240582720:=0
def tw17434183252215705961:=0
def tw2083743210689683531:=0
def tw10927906321834153772:=0
def tw8961689658439835086:=0
def tw6906930097377212784:=0
def tw17450478455255116996:=0
def tw5748816602943500209:=0
def tw837788296140363507:=0
def tw15479713113535889063:=0
def tw198643592079921183:=0
def tw10842517723585963513:=0
def tw3325048757215543084:=0
def tw1868054283104390692:=0
def tw12144500809768150825:=0
def tw15297583606088687192:=0
def tw15645127414701862307:=0
def tw14918454935354570500:=0
def tw9662523850904173216:=0
def tw10783184731181570833:=0
def tw15404412249777280745:=0
def tw9316427455430539335:=0
def tw17830637025128917789:=0
def tw6393238014981370442:=0
def tw10386607480254306285:=0
def tw16301522003846745929:=0
def tw5539923599081317882:=0
def tw18010583039941905634:=0
def tw10226202308566889594:=0
def tw3748373683228577329:=0
def tw10625843149416246769:=0
def tw476565051474789359:=0
def tw16152833457739629646:=0
def tw6622317454280818137:=0
def tw9300069574733991335:=0
def tw13617697553090346145:=0
def tw9843006363458859682:=0
def tw3641122214600635728:=0
def tw6806007798079737522:=0
def tw5847743348882175879:=0
def tw8388048814644238392:=0
def tw12509070944700574924:=0
def tw13504466164498668836:=0
def tw12772569236074459421:=0
def tw13760686864219740022:=0
def tw7408665503721008172:=0
def tw7988583423690615039:=0
def tw11233028221993672288:=0
def tw3843670093778993092:=0
def tw785716298613349198:=0
def tw799300999349295213:=0
def tw3900530346188536752:=0
def tw17248319108436762604:=0
def tw3882238312689007246:=0
def tw12270997278714753043:=0
def tw3417332532537511981:=0
def tw14412714812622793642:=0
def tw12577688429925189971:=0
def tw12792408512133740232:=0
def tw421364757214901767:=0
def tw6863824232820287412:=0
def tw1818456936359329340:=0
def tw10131923387645299716:=0
def tw5975669684245258457:=0
def tw17711390905576501957:=0
def tw3074522133856144950:=0
def tw1681492507428521310:=0
def tw15825034052665513353:=0
def tw15627861426065742295:=0
def tw10148300571072508440:=0
def tw17872411861456622008:=0
def tw8529303467847967079:=0
def tw646906724273627633:=0
def tw14333955785525827567:=0
def tw6915933018259433111:=0
def tw9111272132767633257:=0
def tw14919130007122513725:=0
def tw16646672445674148909:=0
def tw17844065651541468900:=0
def tw7523853679561464348:=0
def tw6771898817643633854:=0
def tw7998335234428530026:=0
def tw10840486842649777176:=0
def tw2382055198074310504:=0
def tw15417692635655063977:=0
def tw1753010970558544765:=0
def tw16124035492657502824:=0
def tw9504715695831010689:=0
def tw3061135677962078926:=0
def tw442897495409343393:=0
def tw9342030744198416912:=0
def tw16589067610494454042:=0
def tw13164946415265891979:=0
def tw12764385474783756732:=0
def tw3928280213392763454:=0
def tw5726965334695590787:=0
def tw5063194166786455120:=0
def tw14053044611921566761:=0
def tw8283336700129111452:=0
def tw7565593832483317710:=0
def tw8747861669824640381:=0
def tw3266800614072585056:=0
def tw15390388093683674738:=0
def tw10353777871245356977:=0
def tw11985432556896745563:=0
def tw11618723623486728218:=0
def tw10946580317560311942:=0
def tw796382520691796433:=0
def tw88495031384149746:=0
def tw12709645216520358503:=0
def tw5253266930416424756:=0
def tw16674600699926552056:=0
def tw13354359105047839607:=0
def tw5665116786501658122:=0
def tw6724852704165334689:=0
def tw2517327742477534309:=0
def tw8492094897696795013:=0
def tw568421555236529079:=0
end PySem.W.Fast
open PySem PySem.W PyProof.Rows
set_option maxRecDepth 100000 in
set_option maxHeartbeats 0 in
theorem PySem.Challenge.cw_leastrepairs_s01_answers_holds : PySem.Challenge.rw_leastrepairs_s01_answers.Holds := by
 w_on;k_headS;(case hw=>exact ⟨[.list [.int 3]],by decide+kernel,by decide+kernel⟩)
 k_fillS
 refine L2.walk_specK (r:=PySem.Challenge.rw_leastrepairs_s01_answers) (k:=12) (CX:=L2.CX0) (ps:= ["calls"]) (sp:=Lr.spAns) (by decide+kernel) rfl rfl ⟨rfl,by decide,by decide⟩ (fun w h Y=>PySem.W.kIn_of Y) ?F ?S (fun _ _ _ _ z=>z)
 case F=>
  intro w mg fa h Y KX G hmg
  refine' Lr.all_mk KX G hmg ?mNoGrammarRow ?mRule ?mGrammar ?mRowReader ?mCosts ?mCell ?mCells ?mTooLong ?mNoSuchCall ?mHeld ?mCallReader ?kNONTERMINAL ?kRANGE ?kSTART ?kMOST_NONTERMINALS ?kMOST_RULES ?kMOST_SYMBOLS ?kHIGHEST_BYTE ?kKEPT ?kLEFT_OUT ?kPUT_IN ?kREPLACED ?kNO_WAY ?kTOO_MANY_STEPS ?kMOST_BYTES ?kLOAD ?kCOSTS ?kTEXT ?kLEAST ?kREPAIR ?kCHANGES ?kCOST ?kWAY ?kDISTANCE ?kAPPLY ?kDONE ?kNONE_THERE ?kWRONG_NUMBER ?kWRONG_ROW ?kTOO_MANY ?kNO_NONTERMINAL ?kOUT_OF_BOUNDS ?kREPAIR_TOO_LONG ?kLOWEST_COST ?kHIGHEST_COST ?kMOST_LETTERS ?kMOST_OTHER_LETTERS ?brange ?blen ?bmin ?bmax ?bany ?blist ?benumerate ?bzip ?breversed ?pgRule ?hdRule ?poRule ?saRule ?mkRule ?kcRule ?nRule_nonterminal ?nRule_symbols ?pgGrammar ?hdGrammar ?poGrammar ?saGrammar ?mkGrammar ?kcGrammar ?nGrammar_nonterminals ?nGrammar_rules ?pgRowReader ?hdRowReader ?poRowReader ?saRowReader ?mkRowReader ?kcRowReader ?nRowReader_row ?nRowReader_place ?pgCosts ?hdCosts ?poCosts ?saCosts ?mkCosts ?kcCosts ?nCosts_putting ?nCosts_leaving ?nCosts_replacing ?pgCell ?hdCell ?poCell ?saCell ?mkCell ?kcCell ?nCell_cost ?nCell_rule ?nCell_ends ?pgCells ?hdCells ?poCells ?saCells ?mkCells ?kcCells ?nCells_grammar ?nCells_letters ?nCells_costs ?nCells_tables ?nCells_found ?pgHeld ?hdHeld ?poHeld ?saHeld ?mkHeld ?kcHeld ?nHeld_grammar ?nHeld_costs ?nHeld_letters ?nHeld_cells ?pgCallReader ?hdCallReader ?poCallReader ?saCallReader ?mkCallReader ?kcCallReader ?nCallReader_calls ?nCallReader_place ?xNoGrammarRow ?xTooLong ?xNoSuchCall ?mRe ?lRe ?dis ?a0 ?i0 ?l0 ?c0 ?e0 ?a1 ?i1 ?l1 ?c1 ?e1 ?a2 ?i2 ?l2 ?c2 ?e2 ?a3 ?i3 ?l3 ?c3 ?e3 ?a4 ?i4 ?l4 ?c4 ?e4 ?a5 ?i5 ?l5 ?c5 ?e5 ?a6 ?i6 ?l6 ?c6 ?e6 ?a7 ?i7 ?l7 ?c7 ?e7 ?a8 ?i8 ?l8 ?c8 ?e8 ?a9 ?i9 ?l9 ?c9 ?e9 ?a10 ?i10 ?l10 ?c10 ?e10 ?a11 ?l11 ?c11 ?e11 ?a12 ?i12 ?l12 ?c12 ?e12 ?a13 ?l13 ?c13 ?e13 ?a14 ?l14 ?c14 ?e14 ?a15 ?l15 ?c15 ?e15 ?a16 ?l16 ?c16 ?e16 ?a17 ?l17 ?c17 ?e17 ?a18 ?l18 ?c18 ?e18 ?a19 ?l19 ?c19 ?e19 ?a20 ?l20 ?c20 ?e20 ?a21 ?l21 ?c21 ?e21 ?a22 ?l22 ?c22 ?e22 ?a23 ?l23 ?c23 ?e23 ?a24 ?l24 ?c24 ?e24 ?a25 ?i25 ?l25 ?c25 ?e25 ?a26 ?l26 ?c26 ?e26 ?a27 ?l27 ?c27 ?e27 ?a28 ?l28 ?c28 ?e28 ?a29 ?i29 ?l29 ?c29 ?e29 ?a30 ?i30 ?l30 ?c30 ?e30 ?a31 ?l31 ?c31 ?e31 ?a32 ?i32 ?l32 ?c32 ?e32 ?a33 ?l33 ?c33 ?e33 ?a34 ?l34 ?c34 ?e34 ?a35 ?l35 ?c35 ?e35 ?a36 ?l36 ?c36 ?e36 ?a37 ?i37 ?l37 ?c37 ?e37 ?a38 ?l38 ?c38 ?e38 ?a39 ?l39 ?c39 ?e39 ?a40 ?l40 ?c40 ?e40 ?a41 ?l41 ?c41 ?e41 ?a42 ?l42 ?c42 ?e42 ?a43 ?l43 ?c43 ?e43 ?a44 ?l44 ?c44 ?e44 ?a45 ?l45 ?c45 ?e45 ?a46 ?l46 ?c46 ?e46 ?a47 ?l47 ?c47 ?e47 ?a48 ?l48 ?c48 ?e48 ?a49 ?l49 ?c49 ?e49 ?a50 ?l50 ?c50 ?e50 ?a51 ?l51 ?c51 ?e51 ?a52 ?l52 ?c52 ?e52 ?a53 ?l53 ?c53 ?e53 ?a54 ?l54 ?c54 ?e54 ?a55 ?l55 ?c55 ?e55 ?a56 ?l56 ?c56 ?e56 ?a57 ?l57 ?c57 ?e57
  (case mNoGrammarRow=>k_is);(case mRule=>k_is);(case mGrammar=>k_is);(case mRowReader=>k_is);(case mCosts=>k_is);(case mCell=>k_is);(case mCells=>k_is);(case mTooLong=>k_is);(case mNoSuchCall=>k_is)
  (case mHeld=>k_is);(case mCallReader=>k_is);(case kNONTERMINAL=>k_is);(case kRANGE=>k_is);(case kSTART=>k_is);(case kMOST_NONTERMINALS=>k_is);(case kMOST_RULES=>k_is);(case kMOST_SYMBOLS=>k_is)
  (case kHIGHEST_BYTE=>k_is);(case kKEPT=>k_is);(case kLEFT_OUT=>k_is);(case kPUT_IN=>k_is);(case kREPLACED=>k_is);(case kNO_WAY=>k_is);(case kTOO_MANY_STEPS=>k_is);(case kMOST_BYTES=>k_is);(case kLOAD=>k_is)
  (case kCOSTS=>k_is);(case kTEXT=>k_is);(case kLEAST=>k_is);(case kREPAIR=>k_is);(case kCHANGES=>k_is);(case kCOST=>k_is);(case kWAY=>k_is);(case kDISTANCE=>k_is);(case kAPPLY=>k_is);(case kDONE=>k_is)
  (case kNONE_THERE=>k_is);(case kWRONG_NUMBER=>k_is);(case kWRONG_ROW=>k_is);(case kTOO_MANY=>k_is);(case kNO_NONTERMINAL=>k_is);(case kOUT_OF_BOUNDS=>k_is);(case kREPAIR_TOO_LONG=>k_is);(case kLOWEST_COST=>k_is)
  (case kHIGHEST_COST=>k_is);(case kMOST_LETTERS=>k_is);(case kMOST_OTHER_LETTERS=>k_is);(case brange=>k_is);(case blen=>k_is);(case bmin=>k_is);(case bmax=>k_is);(case bany=>k_is);(case blist=>k_is)
  (case benumerate=>k_is);(case bzip=>k_is);(case breversed=>k_is);(case pgRule=>k_is);(case hdRule=>k_is);(case poRule=>k_is);(case saRule=>k_is);(case mkRule=>k_is);(case kcRule=>k_is);(case nRule_nonterminal=>k_is)
  (case nRule_symbols=>k_is);(case pgGrammar=>k_is);(case hdGrammar=>k_is);(case poGrammar=>k_is);(case saGrammar=>k_is);(case mkGrammar=>k_is);(case kcGrammar=>k_is);(case nGrammar_nonterminals=>k_is)
  (case nGrammar_rules=>k_is);(case pgRowReader=>k_is);(case hdRowReader=>k_is);(case poRowReader=>k_is);(case saRowReader=>k_is);(case mkRowReader=>k_is);(case kcRowReader=>k_is);(case nRowReader_row=>k_is)
  (case nRowReader_place=>k_is);(case pgCosts=>k_is);(case hdCosts=>k_is);(case poCosts=>k_is);(case saCosts=>k_is);(case mkCosts=>k_is);(case kcCosts=>k_is);(case nCosts_putting=>k_is);(case nCosts_leaving=>k_is)
  (case nCosts_replacing=>k_is);(case pgCell=>k_is);(case hdCell=>k_is);(case poCell=>k_is);(case saCell=>k_is);(case mkCell=>k_is);(case kcCell=>k_is);(case nCell_cost=>k_is);(case nCell_rule=>k_is)
  (case nCell_ends=>k_is);(case pgCells=>k_is);(case hdCells=>k_is);(case poCells=>k_is);(case saCells=>k_is);(case mkCells=>k_is);(case kcCells=>k_is);(case nCells_grammar=>k_is);(case nCells_letters=>k_is)
  (case nCells_costs=>k_is);(case nCells_tables=>k_is);(case nCells_found=>k_is);(case pgHeld=>k_is);(case hdHeld=>k_is);(case poHeld=>k_is);(case saHeld=>k_is);(case mkHeld=>k_is);(case kcHeld=>k_is)
  (case nHeld_grammar=>k_is);(case nHeld_costs=>k_is);(case nHeld_letters=>k_is);(case nHeld_cells=>k_is);(case pgCallReader=>k_is);(case hdCallReader=>k_is);(case poCallReader=>k_is);(case saCallReader=>k_is)
  (case mkCallReader=>k_is);(case kcCallReader=>k_is);(case nCallReader_calls=>k_is);(case nCallReader_place=>k_is);(case xNoGrammarRow=>kernel_rfl);(case xTooLong=>kernel_rfl);(case xNoSuchCall=>kernel_rfl)
  (case mRe=>k_is);(case lRe=>k_is);(case dis=>exact ⟨by decide,by decide⟩);(case a0=>k_is);(case i0=>k_is);(case l0=>k_is);(case c0=>k_is);(case e0=>k_is);(case a1=>k_is);(case i1=>k_is);(case l1=>k_is)
  (case c1=>k_is);(case e1=>k_is);(case a2=>k_is);(case i2=>k_is);(case l2=>k_is);(case c2=>k_is);(case e2=>k_is);(case a3=>k_is);(case i3=>k_is);(case l3=>k_is);(case c3=>k_is);(case e3=>k_is)
  (case a4=>k_is);(case i4=>k_is);(case l4=>k_is);(case c4=>k_is);(case e4=>k_is);(case a5=>k_is);(case i5=>k_is);(case l5=>k_is);(case c5=>k_is);(case e5=>k_is);(case a6=>k_is);(case i6=>k_is)
  (case l6=>k_is);(case c6=>k_is);(case e6=>k_is);(case a7=>k_is);(case i7=>k_is);(case l7=>k_is);(case c7=>k_is);(case e7=>k_is);(case a8=>k_is);(case i8=>k_is);(case l8=>k_is);(case c8=>k_is)
  (case e8=>k_is);(case a9=>k_is);(case i9=>k_is);(case l9=>k_is);(case c9=>k_is);(case e9=>k_is);(case a10=>k_is);(case i10=>k_is);(case l10=>k_is);(case c10=>k_is);(case e10=>k_is);(case a11=>k_is)
  (case l11=>k_is);(case c11=>k_is);(case e11=>k_is);(case a12=>k_is);(case i12=>k_is);(case l12=>k_is);(case c12=>k_is);(case e12=>k_is);(case a13=>k_is);(case l13=>k_is);(case c13=>k_is)
  (case e13=>k_is);(case a14=>k_is);(case l14=>k_is);(case c14=>k_is);(case e14=>k_is);(case a15=>k_is);(case l15=>k_is);(case c15=>k_is);(case e15=>k_is);(case a16=>k_is);(case l16=>k_is)
  (case c16=>k_is);(case e16=>k_is);(case a17=>k_is);(case l17=>k_is);(case c17=>k_is);(case e17=>k_is);(case a18=>k_is);(case l18=>k_is);(case c18=>k_is);(case e18=>k_is);(case a19=>k_is)
  (case l19=>k_is);(case c19=>k_is);(case e19=>k_is);(case a20=>k_is);(case l20=>k_is);(case c20=>k_is);(case e20=>k_is);(case a21=>k_is);(case l21=>k_is);(case c21=>k_is);(case e21=>k_is)
  (case a22=>k_is);(case l22=>k_is);(case c22=>k_is);(case e22=>k_is);(case a23=>k_is);(case l23=>k_is);(case c23=>k_is);(case e23=>k_is);(case a24=>k_is);(case l24=>k_is);(case c24=>k_is)
  (case e24=>k_is);(case a25=>k_is);(case i25=>k_is);(case l25=>k_is);(case c25=>k_is);(case e25=>k_is);(case a26=>k_is);(case l26=>k_is);(case c26=>k_is);(case e26=>k_is);(case a27=>k_is)
  (case l27=>k_is);(case c27=>k_is);(case e27=>k_is);(case a28=>k_is);(case l28=>k_is);(case c28=>k_is);(case e28=>k_is);(case a29=>k_is);(case i29=>k_is);(case l29=>k_is);(case c29=>k_is)
  (case e29=>k_is);(case a30=>k_is);(case i30=>k_is);(case l30=>k_is);(case c30=>k_is);(case e30=>k_is);(case a31=>k_is);(case l31=>k_is);(case c31=>k_is);(case e31=>k_is);(case a32=>k_is)
  (case i32=>k_is);(case l32=>k_is);(case c32=>k_is);(case e32=>k_is);(case a33=>k_is);(case l33=>k_is);(case c33=>k_is);(case e33=>k_is);(case a34=>k_is);(case l34=>k_is);(case c34=>k_is)
  (case e34=>k_is);(case a35=>k_is);(case l35=>k_is);(case c35=>k_is);(case e35=>k_is);(case a36=>k_is);(case l36=>k_is);(case c36=>k_is);(case e36=>k_is);(case a37=>k_is);(case i37=>k_is)
  (case l37=>k_is);(case c37=>k_is);(case e37=>k_is);(case a38=>k_is);(case l38=>k_is);(case c38=>k_is);(case e38=>k_is);(case a39=>k_is);(case l39=>k_is);(case c39=>k_is);(case e39=>k_is)
  (case a40=>k_is);(case l40=>k_is);(case c40=>k_is);(case e40=>k_is);(case a41=>k_is);(case l41=>k_is);(case c41=>k_is);(case e41=>k_is);(case a42=>k_is);(case l42=>k_is);(case c42=>k_is)
  (case e42=>k_is);(case a43=>k_is);(case l43=>k_is);(case c43=>k_is);(case e43=>k_is);(case a44=>k_is);(case l44=>k_is);(case c44=>k_is);(case e44=>k_is);(case a45=>k_is);(case l45=>k_is)
  (case c45=>k_is);(case e45=>k_is);(case a46=>k_is);(case l46=>k_is);(case c46=>k_is);(case e46=>k_is);(case a47=>k_is);(case l47=>k_is);(case c47=>k_is);(case e47=>k_is);(case a48=>k_is)
  (case l48=>k_is);(case c48=>k_is);(case e48=>k_is);(case a49=>k_is);(case l49=>k_is);(case c49=>k_is);(case e49=>k_is);(case a50=>k_is);(case l50=>k_is);(case c50=>k_is);(case e50=>k_is)
  (case a51=>k_is);(case l51=>k_is);(case c51=>k_is);(case e51=>k_is);(case a52=>k_is);(case l52=>k_is);(case c52=>k_is);(case e52=>k_is);(case a53=>k_is);(case l53=>k_is);(case c53=>k_is)
  (case e53=>k_is);(case a54=>k_is);(case l54=>k_is);(case c54=>k_is);(case e54=>k_is);(case a55=>k_is);(case l55=>k_is);(case c55=>k_is);(case e55=>k_is);(case a56=>k_is);(case l56=>k_is)
  (case c56=>k_is);(case e56=>k_is);(case a57=>k_is);(case l57=>k_is);(case c57=>k_is);(case e57=>k_is)
 case S=>
  intro K H xs a hO hwi hask hx
  cases hx with
  |cons h1 h2=>
   cases h2
   cases h1 with
   |lst hs ha=>
    have e:=L2.ints_dw a.1 _ ha
    subst e
    have q:((Codec.inLen 0 16000 a.1&&a.1.all (Codec.inInt (-1000000000000000000) 1000000000000000000))&&true)=true:=hwi
    rw [Bool.and_eq_true,Bool.and_eq_true] at q
    exact ⟨_,a.1,rfl,hs,(Codec.inNat_iff.mp q.1.1).2,hask,fun H' p hp=>.lst (L2.SqL.of hp) (L2.dw_ints _)⟩
