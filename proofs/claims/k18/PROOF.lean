import PyProof.Rows.All
import Wide.All
import OpenK.AllK
import Wide.FinOn
import Lean
import PyProof.EqAt
import PyProof.EqKinds
import PyProof.TupleCall
import PyProof.P3In
import PyProof.NeData
import PyProof.MaxThree
import PySem.Challenge.RW_stavemill_k18_whole_signs_are_heard
set_option Elab.async false
set_option linter.all false
set_option maxRecDepth 100000
local macro_rules | `(tactic| trivial) => `(tactic| first | exact Or.inl rfl | exact Or.inr rfl | exact Or.inr (Or.inl rfl) | exact Or.inr (Or.inr rfl))
namespace L2
open PySem PySem.Spec PyProof.Rows
noncomputable abbrev Key:=Sum Int Str
noncomputable def keyIs:Key→Value→Bool
 | .inl k,v=>Value.isInt k v
 | .inr x,v=>Value.isStrOf x v
noncomputable def keyH (w:World):Key→Int
 | .inl k=>hashInt k
 | .inr x=>hashStr w x
theorem keyIs_shape:∀ {k:Key} {v:Value},keyIs k v=true→(∃ i t,k=Sum.inl i∧v=Value.int i t)∨(∃ x t,k=Sum.inr x∧v=Value.str x t)
 | .inl i,v,h=>by
  obtain ⟨t,e⟩:=Value.isInt_shape (k:=i) (v:=v) h
  exact .inl ⟨i,t,rfl,e⟩
 | .inr x,v,h=>by
  obtain ⟨t,e⟩:=Value.isStrOf_shape (x:=x) (v:=v) h
  exact .inr ⟨x,t,rfl,e⟩
theorem keyIs_int (i:Int) (t:Tok):keyIs (.inl i) (.int i t)=true:=by simp [keyIs,Value.isInt]
theorem keyIs_str (x:Str) (t:Tok):keyIs (.inr x) (.str x t)=true:=by simp [keyIs,Value.isStrOf]
theorem key_ll (a b:Int):decide ((Sum.inl a:Key)=Sum.inl b)=(a == b):=by
 by_cases e:a=b
 ·subst e; simp
 ·have h:¬ (Sum.inl a:Key)=Sum.inl b:=fun q=>e (Sum.inl.inj q)
  rw [decide_eq_false h]
  exact (beq_eq_false_iff_ne.mpr e).symm
theorem key_rr (a b:Str):decide ((Sum.inr a:Key)=Sum.inr b)=decide (a=b):=by
 by_cases e:a=b
 ·subst e; simp
 ·have h:¬ (Sum.inr a:Key)=Sum.inr b:=fun q=>e (Sum.inr.inj q)
  rw [decide_eq_false h,decide_eq_false e]
theorem key_lr (a:Int) (b:Str):decide ((Sum.inl a:Key)=Sum.inr b)=false:=decide_eq_false (fun q=>nomatch q)
theorem key_rl (a:Str) (b:Int):decide ((Sum.inr a:Key)=Sum.inl b)=false:=decide_eq_false (fun q=>nomatch q)
noncomputable def mixKind (prog:Program) (w:World):PySem.KeyKind prog w Key where
 is:=keyIs
 hash:=keyH w
 inj:=fun v a b ha hb=>by
  rcases keyIs_shape ha with ⟨i,t,rfl,rfl⟩|⟨x,t,rfl,rfl⟩
  ·rcases keyIs_shape hb with ⟨j,u,rfl,e⟩|⟨y,u,rfl,e⟩
   ·injection e with e1 _; rw [e1]
   ·exact nomatch e
  ·rcases keyIs_shape hb with ⟨j,u,rfl,e⟩|⟨y,u,rfl,e⟩
   ·exact nomatch e
   ·injection e with e1 _; rw [e1]
 byValue:=fun k v h=>by
  rcases keyIs_shape h with ⟨i,t,rfl,rfl⟩|⟨x,t,rfl,rfl⟩ <;> rfl
 pyHash:=fun hv h=>by
  rcases keyIs_shape hv with ⟨i,t,rfl,rfl⟩|⟨x,t,rfl,rfl⟩
  ·exact wpAny_pyHash_int h
  ·exact wpAny_pyHash_str h
 eqBool:=fun hu hv h=>by
  rcases keyIs_shape hu with ⟨i,t,rfl,rfl⟩|⟨x,t,rfl,rfl⟩
  ·rcases keyIs_shape hv with ⟨j,u,rfl,rfl⟩|⟨y,u,rfl,rfl⟩
   ·rw [key_ll] at h; exact wpAny_eqBool_int h
   ·rw [key_lr] at h; exact SeqAt.EqAt.int_str i t y u _ _ _ _ h
  ·rcases keyIs_shape hv with ⟨j,u,rfl,rfl⟩|⟨y,u,rfl,rfl⟩
   ·rw [key_rl] at h; exact SeqAt.EqAt.str_int x t j u _ _ _ _ h
   ·rw [key_rr] at h; exact wpAny_eqBool_str h
 «strs»:=fun k x t v h=>by
  rcases keyIs_shape h with ⟨i,u,rfl,e⟩|⟨y,u,rfl,e⟩
  ·exact nomatch e
  ·injection e with e1 _
   subst e1
   cases v <;> rfl
theorem mixKind_int (prog:Program) (w:World) (i:Int) (t:Tok):(mixKind prog w).is (.inl i) (.int i t)=true:=keyIs_int i t
theorem mixKind_str (prog:Program) (w:World) (x:Str) (t:Tok):(mixKind prog w).is (.inr x) (.str x t)=true:=keyIs_str x t
end L2
namespace L2
open PySem PySem.Spec PyProof.Rows
inductive V where
 | non|bl (b:Bool)|int (i:Int)|str (x:Str)|byt (b:Array UInt8)|flt (b:UInt64)|ref (a:Addr)|ty (n:String)
 deriving DecidableEq
noncomputable def RelV:V→Value→Prop
 | .non,u=>u=Value.none
 | .bl b,u=>u=Value.bool b
 | .int i,u=>∃ t,u=Value.int i t
 | .str x,u=>∃ t,u=Value.str x t
 | .byt b,u=>∃ t,u=Value.bytes b t
 | .flt b,u=>∃ t,u=Value.float b t
 | .ref a,u=>u=Value.ref a
 | .ty n,u=>u=Value.type n
noncomputable abbrev Vals:List V→List Value→Prop:=Paired RelV
theorem Vals.length {xs:List V} {us:List Value} (r:Vals xs us):xs.length=us.length:=Paired.length r
theorem Vals.get:∀ {xs:List V} {us:List Value} {i:Nat} {x:V},Vals xs us→xs[i]?=some x→∃ u,us[i]?=some u∧RelV x u
 | _,_,_,_,.nil,e=>by simp at e
 | _,_,0,_,.cons r _,e=>by simp at e; subst e; exact ⟨_,rfl,r⟩
 | _,_,i+1,x,.cons _ t,e=>by
  obtain ⟨u,h1,h2⟩:=Vals.get (i:=i) (x:=x) t (by simpa using e)
  exact ⟨u,by simpa using h1,h2⟩
theorem Vals.set {x:V} {u:Value} (r:RelV x u):∀ {xs:List V} {us:List Value} (i:Nat),Vals xs us→Vals (xs.set i x) (us.set i u)
 | _,_,_,.nil=>.nil
 | _,_,0,.cons _ t=>.cons r t
 | _,_,i+1,.cons q t=>.cons q (Vals.set r i t)
theorem Vals.append:∀ {xs ys:List V} {us ws:List Value},Vals xs us→Vals ys ws→Vals (xs++ys) (us++ws)
 | _,_,_,_,.nil,s=>s
 | _,_,_,_,.cons r t,s=>.cons r (Vals.append t s)
noncomputable def RelO:Option V→Option Value→Prop
 | some v,some u=>RelV v u
 | none,none=>True
 | _,_=>False
noncomputable def KV {κ:Type}:List (κ×V)→List (κ×Value)→Prop:=Paired fun (p:κ×V) (q:κ×Value)=>p.1=q.1∧RelV p.2 q.2
noncomputable def kV:Key→V
 | .inl i=>.int i
 | .inr x=>.str x
inductive HO where
 | lst (xs:List V)
 | tup (xs:List V)
 | dK (kvs:List (Key×V))|dT (kvs:List (List Key×V))
 | set (S:Int→Bool) (n:Nat)
 | ins (C dx:Addr) (fs:List (Str×V))
 | own (x:Addr)
 | xd (fs:List (Str×V))
 | met (f x:Addr)
 | rng (lo hi:Int)
 | frz (o:Obj) (u:HO)
 | tbl (ps:Array Value)
 | ext (φ:Heap→Prop)
noncomputable abbrev Hp:=Addr→Option HO
noncomputable def upd (H:Hp) (a:Addr) (o:HO):Hp:=fun b=>if b=a then some o else H b
theorem upd_same {H:Hp} {a:Addr} {o:HO}:upd H a o a=some o:=by unfold upd; rw [if_pos rfl]
theorem upd_ne {H:Hp} {a b:Addr} {o:HO} (h:b≠a):upd H a o b=H b:=by unfold upd; rw [if_neg h]
theorem ne_of {H:Hp} {a b:Addr} {o u:HO} (h:H a=some o) (h':H b=some u) (d:o≠u):a≠b:=by
 intro e; subst e; rw [h] at h'; exact d (Option.some.inj h')
theorem ne_of_none {H:Hp} {a b:Addr} {o:HO} (h:H a=some o) (h':H b=none):a≠b:=by
 intro e; subst e; rw [h] at h'; cases h'
section
variable (P:Program) (w:World)
noncomputable def ObjOk (H:Hp) (h:Heap) (a:Addr):HO→Prop
 | .lst xs=>xs.length ≤ sizeLine∧∃ (its:List Value) (n:Nat),Vals xs its∧h.get? a=some { cls:=.type "list",data:=.seq its.toArray n }
 | .tup xs=>xs.length ≤ sizeLine∧∃ its:List Value,Vals xs its∧IsTup h a its.toArray
 | .dK kvs=>kvs.length ≤ sizeLine∧(a == sysModules)=false∧∃ vs,KV kvs vs∧h.DictOf (mixKind P w) a vs
 | .dT kvs=>kvs.length ≤ sizeLine∧(a == sysModules)=false∧∃ xs:List (List Key×Addr×Value),
   Paired (fun (p:List Key×V) (q:List Key×Addr×Value)=>p.1=q.1∧H q.2.1=some (.tup (p.1.map kV))∧RelV p.2 q.2.2) kvs xs ∧
   ∃ o es ep,h.get? a=some o∧o.ExactDict∧o.data=.dict es ep∧es.toList=xs.map (entryOfKey (tupleKind (mixKind P w)))∧(xs.map (·.1)).Nodup
 | .set S n=>h.SetOf (intKind P w) a S n
 | .ins C dx fs=>H dx=some (.own a)∧fs.length ≤ 1000∧dx≠a∧h.get? a=some (PySem.W.instObj C dx) ∧
   ∃ mA,h.Ns1 dx mA∧(∀ f,RelO (fs.lookup f) (mA f))∧PySem.Within mA (fs.map (·.1))
 | .own _=>∃ o,h.get? a=some o
 | .xd fs=>∃ mA,h.Ns1 a mA∧∀ f,RelO (fs.lookup f) (mA f)
 | .rng lo hi=>∃ t u v,h.get? a=some { cls:=.type "range",data:=.fields #[.int lo t,.int hi u,.int 1 v] }
 | .frz o u=>h.get? a=some o∧ObjOk H h a u
 | .tbl ps=>h.get? a=some { cls:=.none,data:=.fields ps }
 | .met f x=>h.get? a=some (PySem.W.methodObj (.ref f) (.ref x))
 | .ext φ=>φ h∧(∃ o,h.get? a=some o)∧∀ h1 h2:Heap,φ h1→(∀ o,h1.get? a=some o→h2.get? a=some o)→φ h2
noncomputable def HOk (H:Hp) (h:Heap):Prop:=∀ a o,H a=some o→ObjOk P w H h a o
end
section
variable {P:Program} {w:World} {H H':Hp} {h h':Heap} {a:Addr} {o:HO}
theorem ObjOk.lt (x:ObjOk P w H h a o):a < h.objs.size:=by
 cases o with
 | lst xs=>obtain ⟨_,_,_,_,e⟩:=x; exact Heap.lt_size e
 | tup xs=>obtain ⟨_,_,_,p⟩:=x; exact p.lt
 | dK kvs=>obtain ⟨_,_,_,_,o,_,_,e,_⟩:=x; exact Heap.lt_size e
 | dT kvs=>obtain ⟨_,_,_,_,o,_,_,e,_⟩:=x; exact Heap.lt_size e
 | set S n=>obtain ⟨o,_,_,_,e,_⟩:=x; exact Heap.lt_size e
 | ins C dx fs=>obtain ⟨_,_,_,e,_⟩:=x; exact Heap.lt_size e
 | own y=>obtain ⟨_,e⟩:=x; exact Heap.lt_size e
 | xd fs=>obtain ⟨_,⟨_,_,_,e,_⟩,_⟩:=x; exact Heap.lt_size e
 | rng lo hi=>obtain ⟨_,_,_,e⟩:=x; exact Heap.lt_size e
 | frz ob u=>obtain ⟨e,_⟩:=x; exact Heap.lt_size e
 | tbl ps=>exact Heap.lt_size (show h.get? a=some _ from x)
 | met f y=>exact Heap.lt_size (show h.get? a=some _ from x)
 | ext φ=>obtain ⟨_,⟨_,e⟩,_⟩:=x; exact Heap.lt_size e
theorem Paired.mapP {α β:Type} {F G:α→β→Prop}:∀ {l₁:List α} {l₂:List β},Paired F l₁ l₂→(∀ a b,F a b→G a b)→Paired G l₁ l₂
 | _,_,.nil,_=>.nil
 | _,_,.cons r t,f=>.cons (f _ _ r) (Paired.mapP t f)
theorem ObjOk.stay (x:ObjOk P w H h a o) (k:∀ b u,(b=a∨H b=some (.own a))→h.get? b=some u→h'.get? b=some u)
  (ho:∀ b,H b=some (.own a)→H' b=some (.own a)) (ht:∀ b xs,H b=some (.tup xs)→H' b=some (.tup xs)):ObjOk P w H' h' a o:=by
 induction o with
 | lst xs=>obtain ⟨z,its,n,r,e⟩:=x; exact ⟨z,its,n,r,k _ _ (.inl rfl) e⟩
 | tup xs=>obtain ⟨z,its,r,ob,e,c⟩:=x; exact ⟨z,its,r,ob,k _ _ (.inl rfl) e,c⟩
 | dK kvs=>obtain ⟨z,y,vs,r,ob,es,ep,e,c⟩:=x; exact ⟨z,y,vs,r,ob,es,ep,k _ _ (.inl rfl) e,c⟩
 | dT kvs =>
  obtain ⟨z,y,xs,r,ob,es,ep,e,c⟩:=x
  exact ⟨z,y,xs,Paired.mapP r fun p q z=>⟨z.1,ht _ _ z.2.1,z.2.2⟩,ob,es,ep,k _ _ (.inl rfl) e,c⟩
 | set S n=>obtain ⟨ob,es,ep,t,e,c⟩:=x; exact ⟨ob,es,ep,t,k _ _ (.inl rfl) e,c⟩
 | ins C dx fs =>
  obtain ⟨d,z,ne,e,mA,⟨od,es,ep,e2,c⟩,r⟩:=x
  exact ⟨ho _ d,z,ne,k _ _ (.inl rfl) e,mA,⟨od,es,ep,k _ _ (.inr d) e2,c⟩,r⟩
 | own y=>obtain ⟨ob,e⟩:=x; exact ⟨ob,k _ _ (.inl rfl) e⟩
 | xd fs=>obtain ⟨mA,⟨od,es,ep,e,c⟩,r⟩:=x; exact ⟨mA,⟨od,es,ep,k _ _ (.inl rfl) e,c⟩,r⟩
 | rng lo hi=>obtain ⟨t,u,v,e⟩:=x; exact ⟨t,u,v,k _ _ (.inl rfl) e⟩
 | frz ob u ih=>obtain ⟨e,q⟩:=x; exact ⟨k _ _ (.inl rfl) e,ih q⟩
 | tbl ps =>
  have e:h.get? a=some { cls:=.none,data:=.fields ps }:=x
  show h'.get? a=some { cls:=.none,data:=.fields ps }
  exact k a _ (.inl rfl) e
 | met f y =>
  have e:h.get? a=some (PySem.W.methodObj (.ref f) (.ref y)):=x
  show h'.get? a=some (PySem.W.methodObj (.ref f) (.ref y))
  exact k a _ (.inl rfl) e
 | ext φ=>obtain ⟨p,⟨o,e⟩,st⟩:=x; exact ⟨st _ _ p fun o q=>k _ _ (.inl rfl) q,⟨o,k _ _ (.inl rfl) e⟩,st⟩
theorem HOk.lt (x:HOk P w H h) (e:H a=some o):a < h.objs.size:=(x a o e).lt
theorem HOk.fresh (x:HOk P w H h) (e:h.objs.size ≤ a):H a=none:=by
 cases q:H a with
 | none=>rfl
 | some u=>exact absurd (Nat.lt_of_lt_of_le (x.lt q) e) (Nat.lt_irrefl _)
theorem HOk.kept (x:HOk P w H h) (k:∀ b u,h.get? b=some u→h'.get? b=some u):HOk P w H h':=fun a o e =>
 (x a o e).stay (fun b u _ q=>k b u q) (fun _ q=>q) fun _ _ q=>q
theorem HOk.laid (x:HOk P w H h) (k:∀ b u,h.get? b=some u→h'.get? b=some u) (hp:h.objs.size ≤ a) (new:ObjOk P w (upd H a o) h' a o):HOk P w (upd H a o) h':=fun b u e=>by
 have hn:=x.fresh hp
 by_cases hb:b=a
 ·subst hb; rw [upd_same] at e; cases e; exact new
 ·rw [upd_ne hb] at e
  exact (x b u e).stay (fun c v _ q=>k c v q) (fun c q=>by rw [upd_ne (ne_of_none q hn)]; exact q) fun c xs q=>by rw [upd_ne (ne_of_none q hn)]; exact q
end
noncomputable def Rd (H:Hp) (a:Addr) (u:HO):Prop:=H a=some u∨∃ o,H a=some (.frz o u)
theorem Rd.of {H:Hp} {a:Addr} {u:HO} (h:H a=some u):Rd H a u:=.inl h
theorem Rd.ok {P:Program} {w:World} {H:Hp} {h:Heap} {a:Addr} {u:HO} (r:Rd H a u) (x:HOk P w H h):ObjOk P w H h a u:=by
 rcases r with r|⟨o,r⟩
 ·exact x a u r
 ·obtain ⟨_,q⟩:=x a _ r
  exact q
noncomputable def Mut:Option HO→Prop
 | some (.lst _)=>True
 | some (.dK _)=>True
 | some (.dT _)=>True
 | some (.set _ _)=>True
 | some (.ins _ _ _)=>True
 | some (.ext _)=>True
 | _=>False
section
variable {P:Program} {w:World} {H:Hp} {h h':Heap} {x e:Addr} {o':HO}
theorem HOk.write (ok:HOk P w H h) (mu:Mut (H x)) (he:e=x∨H e=some (.own x)) (k:∀ b u,b≠e→h.get? b=some u→h'.get? b=some u) (heo:∃ u,h'.get? e=some u)
  (new:ObjOk P w (upd H x o') h' x o'):HOk P w (upd H x o') h':=fun b u q=>by
 have nown:∀ c y,H c=some (.own y)→c≠x:=fun c y r z=>by subst z; rw [r] at mu; exact mu
 have ntup:∀ c xs,H c=some (.tup xs)→c≠x:=fun c xs r z=>by subst z; rw [r] at mu; exact mu
 by_cases hb:b=x
 ·subst hb; rw [upd_same] at q; cases q; exact new
 ·rw [upd_ne hb] at q
  by_cases hbe:b=e
  ·have q':H b=some (.own x):=by
    rcases he with z|z
    ·exact absurd (hbe.trans z) hb
    ·rw [hbe]; exact z
   rw [q] at q'; cases q'
   obtain ⟨v,hv⟩:=heo
   exact ⟨v,by rw [hbe]; exact hv⟩
  ·refine (ok b u q).stay (fun c v hc r=>k c v ?_ r) (fun c r=>by rw [upd_ne (nown c b r)]; exact r) fun c xs r=>by rw [upd_ne (ntup c xs r)]; exact r
   rcases hc with rfl|hc
   ·exact hbe
   ·rintro rfl
    rcases he with z|z
    ·exact nown c b hc z
    ·rw [hc] at z; cases z; exact hb rfl
end
structure Un (fs ex:List Addr) (H H':Hp) (h h':Heap):Prop where
 keep:∀ b o,h.get? b=some o→H b=none→b ∉ fs→b ∉ ex→h'.get? b=some o
 slot:∀ b o,h.get? b=some o→H b=none→b∈fs→b ∉ ex→∃ sl,h'.get? b=some { o with slots:=sl }
 free:∀ b o,h.get? b=some o→H b=none→b ∉ ex→H' b=none
 there:∀ b o,h.get? b=some o→b ∉ ex→∃ o',h'.get? b=some o'
 tups:∀ b xs,H b=some (.tup xs)→H' b=some (.tup xs)
 frzs:∀ b o u,H b=some (.frz o u)→H' b=some (.frz o u)
 tbls:∀ b ps,H b=some (.tbl ps)→∃ more,H' b=some (.tbl (ps++more))
section
variable {fs fs' ex ex':List Addr} {H H1 H2:Hp} {h h1 h2 h':Heap} {a x e:Addr} {o:HO}
theorem Un.any (u:Un fs ex H H1 h h1) {b:Addr} {ob:Obj} (q:h.get? b=some ob) (n:H b=none) (hx:b ∉ ex):∃ sl,h1.get? b=some { ob with slots:=sl }:=by
 by_cases hb:b∈fs
 ·exact u.slot b ob q n hb hx
 ·exact ⟨ob.slots,u.keep b ob q n hb hx⟩
theorem Un.kept (k:∀ b u,h.get? b=some u→h'.get? b=some u):Un fs ex H H h h' :=
 ⟨fun b ob q _ _ _=>k b ob q,fun b ob q _ _ _=>⟨ob.slots,k b ob q⟩,fun _ _ _ n _=>n,fun b ob q _=>⟨ob,k b ob q⟩,fun _ _ q=>q,fun _ _ _ q=>q,fun _ ps q=>⟨#[],by rw [q]; simp⟩⟩
theorem Un.refl:Un fs ex H H h h:=Un.kept fun _ _ q=>q
theorem Un.laid (k:∀ b u,h.get? b=some u→h'.get? b=some u) (hp:h.objs.size ≤ a) (hn:H a=none):Un fs ex H (upd H a o) h h' where
 keep:=fun b u q _ _ _=>k b u q
 slot:=fun b u q _ _ _=>⟨u.slots,k b u q⟩
 free:=fun b u q n _=>by rw [upd_ne (Nat.ne_of_lt (Nat.lt_of_lt_of_le (Heap.lt_size q) hp))]; exact n
 there:=fun b u q _=>⟨u,k b u q⟩
 tups:=fun b xs q=>by rw [upd_ne (ne_of_none q hn)]; exact q
 frzs:=fun b u xs q=>by rw [upd_ne (ne_of_none q hn)]; exact q
 tbls:=fun b ps q=>⟨#[],by rw [upd_ne (ne_of_none q hn),q]; simp⟩
theorem Un.write (mu:Mut (H x)) (he:e=x∨H e=some (.own x)) (k:∀ b u,b≠e→h.get? b=some u→h'.get? b=some u) (heo:∃ u,h'.get? e=some u):Un fs ex H (upd H x o) h h':=by
 have hx:∀ b,H b=none→b≠x:=fun b n z=>by subst z; rw [n] at mu; exact mu
 have hb:∀ b,H b=none→b≠e:=fun b n z=>by
  subst z
  rcases he with r|r
  ·exact hx b n r
  ·rw [n] at r; cases r
 have hm:∀ b u,H b=some u→¬ Mut (some u)→b≠x:=fun b u q nm z=>by subst z; rw [q] at mu; exact nm mu
 refine ⟨fun b u q n _ _=>k b u (hb b n) q,fun b u q n _ _=>⟨u.slots,k b u (hb b n) q⟩,fun b u q n _=>by rw [upd_ne (hx b n)]; exact n,fun b u q _=>?_,
  fun b xs q=>by rw [upd_ne (hm b _ q fun z=>z)]; exact q,fun b u xs q=>by rw [upd_ne (hm b _ q fun z=>z)]; exact q,fun b ps q=>⟨#[],by rw [upd_ne (hm b _ q fun z=>z),q]; simp⟩⟩
 by_cases hbe:b=e
 ·subst hbe; exact heo
 ·exact ⟨u,k b u hbe q⟩
end
noncomputable def trk (h:Heap) (H:Hp):List Addr:=(List.range h.objs.size).filter fun a=>(H a).isSome
noncomputable def hidT (h:Heap) (H:Hp):Heap:=PySem.W.hideAll h (trk h H)
theorem hidT_size (h:Heap) (H:Hp):(hidT h H).objs.size=h.objs.size:=PySem.W.hideAll_size _ _
theorem hidT_get {h:Heap} {H:Hp} {b:Addr} {o:Obj} (e:h.get? b=some o) (n:H b=none):(hidT h H).get? b=some o :=
 PySem.W.hideAll_get _ e fun hm=>by
  have q:(H b).isSome=true:=(List.mem_filter.mp hm).2
  rw [n] at q; simp at q
theorem of_hidT {h:Heap} {H:Hp} {b:Addr} {o:Obj} (e:(hidT h H).get? b=some o):h.get? b=some o∧H b=none:=by
 have e':h.get? b=some o:=PySem.W.of_hideAll (trk h H) e
 refine ⟨e',?_⟩
 cases q:H b with
 | none=>rfl
 | some x =>
  have hm:b∈trk h H:=List.mem_filter.mpr ⟨List.mem_range.mpr (Heap.lt_size e'),by simp [q]⟩
  have z:(hidT h H).get? b=none:=PySem.W.hideAll_none (trk h H) hm
  rw [z] at e; cases e
noncomputable def allNews (g h:Heap) (L:Addr):List (Addr×Obj):=(List.range h.objs.size).filterMap fun a=>if a=L∨(g.get? a).isSome=true then none else (h.get? a).map fun o=>(a,o)
noncomputable def rest (g h:Heap) (L d:Addr):List (Addr×Obj):=(allNews g h L).filter fun p=>decide (p.1≠d)
end L2
namespace L2
open PySem PySem.Spec PyProof.Rows
structure Mod (K:PySem.W.Frag) (mg:Str→Option Value) (base:Heap):Prop where
 kin:K.In base
 glob:base.Ns mainGlobals mg
 blt:∃ mb,base.Ns builtinsNs mb∧∀ x:Str,x≠"__name__"→mb x=bootBuiltins x
 nolimit:base.NoLimit
/-- the context: a def's body (or a comprehension's block) running. base: fixed through the whole law; s₀,H₀: the entry; outer: the frames whose slots others may change (a def's callers); stack: all frames that run;
   ex: iterators that were made ahead of the entry and are walked here (a comprehension's); fn: the names whose cells were made at the entry (a def: all; a comprehension's block: its own); calm: not within an except suite; pn: pins that every state bears; xe: what is wanted of an exception that leaves the code -/
structure Cx where
 prog:Program
 w:World
 K:PySem.W.Frag
 mg:Str→Option Value
 base:Heap
 A:Around
 N:List Str
 s₀:Shared
 H₀:Hp
 env:Env
 outer:List Env
 stack:List Env
 ex:List Addr
 fn:Str→Bool
 calm:Bool
 pn:List (Addr×Obj)
 xe:Value→Shared→Prop
noncomputable def frs (l:List Env):List Addr:=l.filterMap (·.frame)
noncomputable abbrev Cx.fs (X:Cx):List Addr:=frs X.outer
noncomputable def Vis (sc:Scope) (x:Str):Prop:=sc.names.lookup x=some .local∨sc.names.lookup x=some .cell∨sc.names.lookup x=some .free
noncomputable def Loc (sc:Scope) (x:Str):Prop:=sc.names.lookup x=some .local∨sc.names.lookup x=some .cell
noncomputable def Look (env:Env) (h:Heap) (m:Str→Option Value) (x:Str) (u:Value):Prop :=
 (env.kindOf x=some .local∧m x=some u)∨((env.kindOf x=some .cell∨env.kindOf x=some .free)∧∃ c,env.cells.lookup x=some c∧h.IsCell c (some u))
structure Cx.Ok (X:Cx):Prop where
 mod:Mod X.K X.mg X.base
 kind:X.env.scope.kind=.function
 glob:X.env.globals=mainGlobals
 blt:X.env.builtins=builtinsNs
 above:X.s₀.heap.objs.size ≤ X.env.locals
 inj:∀ x y c,X.env.cells.lookup x=some c→X.env.cells.lookup y=some c→x=y
 has:∀ x,(X.env.kindOf x=some .cell∨X.env.kindOf x=some .free)→∃ c,X.env.cells.lookup x=some c
 cab:∀ x c,X.fn x=true→X.env.cells.lookup x=some c→X.s₀.heap.objs.size ≤ c
 hd:X.calm=true→X.A.handled=none
 frames:X.A.frames=some X.stack
 stk:X.stack=X.outer∨(X.stack=X.env::X.outer∧X.env.frame=some X.env.locals)
 exf:∀ b∈X.ex,b≠X.env.locals∧∀ x c,X.env.cells.lookup x=some c→c≠b
 bs:∀ b o,X.base.get? b=some o→X.s₀.heap.get? b=some o∧X.H₀ b=none
 bsz:X.base.objs.size ≤ X.s₀.heap.objs.size
 noex:∀ b o,X.base.get? b=some o→b ∉ X.ex
 exfs:∀ b∈X.ex,b ∉ X.fs
 funs:X.s₀.heap.FunFrames X.base X.outer
 frf:∀ b∈X.fs,X.H₀ b=none
structure Inv (X:Cx) (pins:List (Addr×Obj)) (σ:List (Option V)) (H:Hp) (s:Shared):Prop where
 ok:X.Ok
 os:s.os=X.s₀.os
 bare:AllBare s.gens
 base:Un X.fs X.ex X.H₀ H X.s₀.heap s.heap
 loc:∃ m,s.heap.Ns X.env.locals m∧∀ (i:Nat) (x:Str) (v:V),X.N[i]?=some x→σ[i]?=some (some v)→Vis X.env.scope x→∃ u,RelV v u∧Look X.env s.heap m x u
 cell:∀ x c,X.env.cells.lookup x=some c→∃ v,s.heap.IsCell c v
 free:H X.env.locals=none
 freeC:∀ x c,X.env.cells.lookup x=some c→H c=none
 pin:∀ p∈X.pn++pins,s.heap.get? p.1=some p.2∧H p.1=none∧p.1≠X.env.locals∧p.1 ∉ X.fs∧∀ v,p.2.data≠.cell v
 hok:HOk X.prog X.w H s.heap
 len:σ.length=X.N.length
section
variable {X:Cx} {pins:List (Addr×Obj)} {σ:List (Option V)} {H H':Hp} {s:Shared} {h':Heap}
theorem Cx.Ok.nofr (ok:X.Ok) {b:Addr} {o:Obj} (e:X.base.get? b=some o):b ∉ X.fs:=fun hb=>by
 have:=(ok.funs.mem hb).1
 rw [e] at this; cases this
theorem Inv.bs (I:Inv X pins σ H s):∀ b o,X.base.get? b=some o→s.heap.get? b=some o∧H b=none:=fun b o e =>
 ⟨I.base.keep b o (I.ok.bs b o e).1 (I.ok.bs b o e).2 (I.ok.nofr e) (I.ok.noex b o e),I.base.free b o (I.ok.bs b o e).1 (I.ok.bs b o e).2 (I.ok.noex b o e)⟩
theorem Inv.bk (I:Inv X pins σ H s):∀ b o,X.base.get? b=some o→s.heap.get? b=some o:=fun b o e=>(I.bs b o e).1
theorem Inv.mod (I:Inv X pins σ H s):Mod X.K X.mg X.base:=I.ok.mod
theorem Inv.kIn (I:Inv X pins σ H s):X.K.In s.heap:=I.ok.mod.kin.keeps I.bk
theorem Inv.lt (I:Inv X pins σ H s):X.env.locals < s.heap.objs.size:=let ⟨_,hn,_⟩:=I.loc; hn.lt
theorem Inv.sz (I:Inv X pins σ H s):X.s₀.heap.objs.size ≤ s.heap.objs.size:=Nat.le_trans I.ok.above (Nat.le_of_lt I.lt)
theorem Inv.nofs (I:Inv X pins σ H s) {a:Addr} (h:s.heap.objs.size ≤ a):a ∉ X.fs:=fun hb=>by
 obtain ⟨_,o,ho,_⟩:=I.ok.funs.mem hb
 exact absurd (Nat.lt_of_lt_of_le (Heap.lt_size ho) (Nat.le_trans I.sz h)) (Nat.lt_irrefl _)
theorem Inv.cne (I:Inv X pins σ H s):∀ x c,X.env.cells.lookup x=some c→c≠X.env.locals:=fun x c e z=>by
 obtain ⟨v,o,ho,hd⟩:=I.cell x c e
 obtain ⟨m,⟨o',es,ep,ho',hd',_⟩,_⟩:=I.loc
 rw [z,ho'] at ho; cases ho; rw [hd'] at hd; cases hd
theorem Inv.funs (I:Inv X pins σ H s):s.heap.FunFrames X.base X.outer:=by
 have all:∀ (l:List Env),(∀ b∈frs l,b∈X.fs)→X.s₀.heap.FunFrames X.base l→s.heap.FunFrames X.base l:=by
  intro l
  induction l with
  | nil=>intro _ _; trivial
  | cons env r ih =>
   intro hs hl
   obtain ⟨hk,⟨L,o,hf,hn,ho,hd⟩,hr⟩:=hl
   have hL:L∈X.fs:=hs L (by unfold frs; rw [List.filterMap_cons,hf]; exact List.mem_cons_self)
   obtain ⟨sl,e⟩:=I.base.slot L o ho (I.ok.frf L hL) hL fun z=>I.ok.exfs L z hL
   exact ⟨hk,⟨L,_,hf,hn,e,hd⟩,ih (fun b hb=>hs b (by unfold frs; rw [List.filterMap_cons,hf]; exact List.mem_cons_of_mem _ hb)) hr⟩
 exact all X.outer (fun _ hb=>hb) I.ok.funs
theorem Inv.stack (I:Inv X pins σ H s):s.heap.FunFrames X.base X.stack:=by
 rcases I.ok.stk with e|⟨e,hf⟩
 ·rw [e]; exact I.funs
 ·rw [e]
  obtain ⟨m,hn,_⟩:=I.loc
  refine .cons (by rw [I.ok.kind]; decide) hf hn ?_ I.funs
  exact Heap.get?_none_of_le (Nat.le_trans I.ok.bsz I.ok.above)
theorem Inv.stkSub (I:Inv X pins σ H s):∀ b∈frs X.stack,b∈X.env.locals::X.fs:=fun b hb=>by
 rcases I.ok.stk with e|⟨e,hf⟩
 ·rw [e] at hb; exact List.mem_cons_of_mem _ hb
 ·rw [e] at hb
  unfold frs at hb
  rw [List.filterMap_cons,hf] at hb
  exact hb
theorem Inv.stkFree (I:Inv X pins σ H s):∀ b∈frs X.stack,H b=none:=fun b hb=>by
 rcases List.mem_cons.mp (I.stkSub b hb) with e|hb
 ·rw [e]; exact I.free
 ·obtain ⟨_,o,ho,_⟩:=I.ok.funs.mem hb
  exact I.base.free b o ho (I.ok.frf b hb) fun z=>I.ok.exfs b z hb
theorem Inv.step {g':Array GenState} {t':Nat} {d':Drawn} {ch:List Addr} (I:Inv X pins σ H s)
  (hch:∀ b∈ch,(b∈X.ex∨X.s₀.heap.objs.size ≤ b)∧b≠X.env.locals∧(∀ x c,X.env.cells.lookup x=some c→c≠b)∧∀ p∈X.pn++pins,p.1≠b)
  (keep:∀ b o,b≠X.env.locals→b ∉ X.fs→b ∉ ch→s.heap.get? b=some o→H b=none→h'.get? b=some o)
  (slot:∀ b o,b≠X.env.locals→b∈X.fs→b ∉ ch→s.heap.get? b=some o→H b=none→∃ sl,h'.get? b=some { o with slots:=sl }) (free:∀ b o,b ∉ ch→s.heap.get? b=some o→H b=none→H' b=none)
  (there:∀ b o,b ∉ ch→s.heap.get? b=some o→∃ o',h'.get? b=some o')
  (tups:∀ b xs,H b=some (.tup xs)→H' b=some (.tup xs)) (frzs:∀ b o u,H b=some (.frz o u)→H' b=some (.frz o u)) (tbls:∀ b ps,H b=some (.tbl ps)→∃ more,H' b=some (.tbl (ps++more)))
  (ns:∀ m,s.heap.Ns X.env.locals m→h'.Ns X.env.locals m) (hok:HOk X.prog X.w H' h') (hg:AllBare g') :
  Inv X pins σ H' { s with heap:=h',gens:=g',drawn:=d',toks:=t' }:=by
 have neL:∀ b o,X.s₀.heap.get? b=some o→b≠X.env.locals:=fun b o e=>Nat.ne_of_lt (Nat.lt_of_lt_of_le (Heap.lt_size e) I.ok.above)
 have neC:∀ b o,X.s₀.heap.get? b=some o→b ∉ X.ex→b ∉ ch:=fun b o e hx hb=>by
  rcases (hch b hb).1 with z|z
  ·exact hx z
  ·exact absurd (Nat.lt_of_lt_of_le (Heap.lt_size e) z) (Nat.lt_irrefl _)
 have cellK:∀ x c,X.env.cells.lookup x=some c→∀ v,s.heap.IsCell c v→h'.IsCell c v:=fun x c e v ⟨o,ho,hd⟩=>by
  have nch:c ∉ ch:=fun z=>(hch c z).2.2.1 x c e rfl
  by_cases hc:c∈X.fs
  ·obtain ⟨sl,q⟩:=slot c o (I.cne x c e) hc nch ho (I.freeC x c e)
   exact ⟨_,q,hd⟩
  ·exact ⟨o,keep c o (I.cne x c e) hc nch ho (I.freeC x c e),hd⟩
 refine ⟨I.ok,I.os,hg,⟨fun b o e n hb hx=>?_,fun b o e n hb hx=>?_,fun b o e n hx=>?_,fun b o e hx=>?_,fun b xs e=>tups b xs (I.base.tups b xs e),fun b o xs e=>frzs b o xs (I.base.frzs b o xs e),fun b ps e=>?_⟩,?_,fun x c e=>?_,?_,fun x c e=>?_,fun p hp=>?_,hok,I.len⟩
 ·exact keep b o (neL b o e) hb (neC b o e hx) (I.base.keep b o e n hb hx) (I.base.free b o e n hx)
 ·obtain ⟨sl,e1⟩:=I.base.slot b o e n hb hx
  obtain ⟨sl',e2⟩:=slot b _ (neL b o e) hb (neC b o e hx) e1 (I.base.free b o e n hx)
  exact ⟨sl',e2⟩
 ·obtain ⟨o',e1⟩:=I.base.there b o e hx
  exact free b o' (neC b o e hx) e1 (I.base.free b o e n hx)
 ·obtain ⟨o',e1⟩:=I.base.there b o e hx
  exact there b o' (neC b o e hx) e1
 ·obtain ⟨m1,e1⟩:=I.base.tbls b ps e
  obtain ⟨m2,e2⟩:=tbls b _ e1
  exact ⟨m1++m2,by rw [e2,Array.append_assoc]⟩
 ·obtain ⟨m,hn,hl⟩:=I.loc
  refine ⟨m,ns m hn,fun i x v e1 e2 e3=>?_⟩
  obtain ⟨u,r,l⟩:=hl i x v e1 e2 e3
  refine ⟨u,r,?_⟩
  rcases l with l|⟨k,c,e,z⟩
  ·exact .inl l
  ·exact .inr ⟨k,c,e,cellK x c e _ z⟩
 ·obtain ⟨v,z⟩:=I.cell x c e
  exact ⟨v,cellK x c e v z⟩
 ·obtain ⟨m,⟨o,_,_,ho,_⟩,_⟩:=I.loc
  exact free _ o (fun z=>(hch _ z).2.1 rfl) ho I.free
 ·obtain ⟨v,o,ho,hd⟩:=I.cell x c e
  exact free c o (fun z=>(hch c z).2.2.1 x c e rfl) ho (I.freeC x c e)
 ·obtain ⟨e,n,ne,nf,d⟩:=I.pin p hp
  have nch:p.1 ∉ ch:=fun z=>(hch p.1 z).2.2.2 p hp rfl
  exact ⟨keep p.1 p.2 ne nf nch e n,free p.1 p.2 nch e n,ne,nf,d⟩
theorem Inv.un {t':Nat} (I:Inv X pins σ H s) (u:Un X.fs [] H H' s.heap h') (hok:HOk X.prog X.w H' h'):Inv X pins σ H' { s with heap:=h',toks:=t' }:=by
 obtain ⟨m,⟨o,es,ep,ho,r⟩,_⟩:=id I.loc
 obtain ⟨sl,hL⟩:=u.any ho I.free (by simp)
 exact I.step (g':=s.gens) (d':=s.drawn) (ch:=[]) (fun _ z=>nomatch z) (fun b o _ hb _ e n=>u.keep b o e n hb (by simp)) (fun b o _ hb _ e n=>u.slot b o e n hb (by simp)) (fun b o _ e n=>u.free b o e n (by simp)) (fun b o _ e=>u.there b o e (by simp)) u.tups u.frzs u.tbls (fun m' hm=>by
  obtain ⟨o',es',ep',ho',r'⟩:=hm
  rw [ho] at ho'; cases ho'
  exact ⟨_,es',ep',hL,r'⟩) hok I.bare
theorem Inv.call {g':Array GenState} {t':Nat} {d':Drawn} {ch:List Addr} (I:Inv X pins σ H s) (u:Un (frs X.stack) ch H H' s.heap h') (hok:HOk X.prog X.w H' h') (hg:AllBare g')
  (hch:∀ b∈ch,(b∈X.ex∨X.s₀.heap.objs.size ≤ b)∧b≠X.env.locals∧(∀ x c,X.env.cells.lookup x=some c→c≠b)∧∀ p∈X.pn++pins,p.1≠b) :
  Inv X pins σ H' { s with heap:=h',gens:=g',drawn:=d',toks:=t' }:=by
 obtain ⟨m,⟨o,es,ep,ho,r⟩,_⟩:=id I.loc
 obtain ⟨sl,hL⟩:=u.any ho I.free fun z=>(hch _ z).2.1 rfl
 exact I.step (ch:=ch) hch (fun b o hL hb hc e n=>u.keep b o e n (fun z=>(List.mem_cons.mp (I.stkSub b z)).elim hL hb) hc) (fun b o _ _ hc e n=>u.any e n hc) (fun b o hc e n=>u.free b o e n hc) (fun b o hc e=>u.there b o e hc) u.tups u.frzs u.tbls (fun m' hm=>by
  obtain ⟨o',es',ep',ho',r'⟩:=hm
  rw [ho] at ho'; cases ho'
  exact ⟨_,es',ep',hL,r'⟩) hok hg
theorem Inv.turned {t':Nat} {it:Addr} (I:Inv X pins σ H s) (k:∀ b o,b≠it→s.heap.get? b=some o→h'.get? b=some o) (hn:H it=none) (hL:it≠X.env.locals)
  (h1:it∈X.ex∨X.s₀.heap.objs.size ≤ it) (h2:∀ x c,X.env.cells.lookup x=some c→c≠it) (h3:∀ p∈X.pn++pins,p.1≠it):Inv X pins σ H { s with heap:=h',toks:=t' }:=by
 have nit:∀ b u,H b=some u→b≠it:=fun b u e z=>by rw [z,hn] at e; cases e
 refine I.step (g':=s.gens) (d':=s.drawn) (ch:=[it]) (fun b hb=>?_) (fun b o _ _ hc e _=>k b o (fun z=>hc (by simp [z])) e) (fun b o _ _ hc e _=>⟨o.slots,k b o (fun z=>hc (by simp [z])) e⟩) (fun _ _ _ _ n=>n)
  (fun b o hc e=>⟨o,k b o (fun z=>hc (by simp [z])) e⟩) (fun _ _ e=>e) (fun _ _ _ e=>e) (fun b ps e=>⟨#[],by rw [e]; simp⟩) (fun m hm=>?_) (fun b u e=>?_) I.bare
 ·have e:b=it:=by simpa using hb
  subst e
  exact ⟨h1,hL,h2,h3⟩
 ·obtain ⟨o,es,ep,ho,r⟩:=hm
  exact ⟨o,es,ep,k _ o (Ne.symm hL) ho,r⟩
 ·refine (I.hok b u e).stay (fun c v hc q=>k c v ?_ q) (fun _ q=>q) fun _ _ q=>q
  rcases hc with z|z
  ·rw [z]; exact nit b u e
  ·exact nit c _ z
theorem Inv.tok (I:Inv X pins σ H s) (t:Nat):Inv X pins σ H { s with toks:=t }:=I.un (h':=s.heap) (t':=t) Un.refl I.hok
theorem Inv.kept {t':Nat} (I:Inv X pins σ H s) (k:∀ b u,s.heap.get? b=some u→h'.get? b=some u):Inv X pins σ H { s with heap:=h',toks:=t' }:=I.un (Un.kept k) (I.hok.kept k)
theorem Inv.laid {a:Addr} {o:HO} {t':Nat} (I:Inv X pins σ H s) (k:∀ b u,s.heap.get? b=some u→h'.get? b=some u) (hp:s.heap.objs.size ≤ a) (new:ObjOk X.prog X.w (upd H a o) h' a o) :
  Inv X pins σ (upd H a o) { s with heap:=h',toks:=t' }:=I.un (Un.laid k hp (I.hok.fresh hp)) (I.hok.laid k hp new)
theorem Inv.write {x e:Addr} {o:HO} {t':Nat} (I:Inv X pins σ H s) (mu:Mut (H x)) (he:e=x∨H e=some (.own x)) (k:∀ b u,b≠e→s.heap.get? b=some u→h'.get? b=some u) (heo:∃ u,h'.get? e=some u)
  (new:ObjOk X.prog X.w (upd H x o) h' x o):Inv X pins σ (upd H x o) { s with heap:=h',toks:=t' }:=I.un (Un.write mu he k heo) (I.hok.write mu he k heo new)
theorem Inv.pins_of {pins':List (Addr×Obj)} (I:Inv X pins σ H s) (h:∀ p∈pins',s.heap.get? p.1=some p.2∧H p.1=none∧p.1≠X.env.locals∧p.1 ∉ X.fs∧∀ v,p.2.data≠.cell v):Inv X pins' σ H s :=
 ⟨I.ok,I.os,I.bare,I.base,I.loc,I.cell,I.free,I.freeC,fun p hp=>(List.mem_append.mp hp).elim (fun z=>I.pin p (List.mem_append_left _ z)) (h p),I.hok,I.len⟩
theorem nodup_ix {N:List Str} (hN:N.Nodup) {i j:Nat} {x:Str} (a:N[i]?=some x) (b:N[j]?=some x):i=j:=by
 obtain ⟨h1,e1⟩:=List.getElem?_eq_some_iff.mp a
 obtain ⟨h2,e2⟩:=List.getElem?_eq_some_iff.mp b
 exact (List.getElem_inj hN).mp (e1.trans e2.symm)
theorem store_ok2 {M:Model} {A:Around} {E:Value→Shared→Prop} {i:Nat} {x:Str} {v:V} {u:Value} {Q:Unit→Shared→Prop} (I:Inv X pins σ H s) (hN:X.N.Nodup) (hi:X.N[i]?=some x) (hx:Loc X.env.scope x) (r:RelV v u)
  (h:∀ s',Inv X pins (σ.set i (some v)) H s'→(∃ a,Heap.SameBut a s.heap s'.heap∧(a=X.env.locals∨X.env.cells.lookup x=some a))→Q () s') (hf:X.fn x=true∨X.env.scope.names.lookup x=some .local:=by trivial):wpAny M A (storeName X.env x u) Q E s:=by
 obtain ⟨m,hn,hl⟩:=id I.loc
 have hcls:(X.env.scope.kind == .class || (X.env.scope.kind == .module && X.env.locals != X.env.globals))=false:=by rw [I.ok.kind]; rfl
 have hiσ:i < σ.length:=by rw [I.len]; exact (List.getElem?_eq_some_iff.mp hi).1
 have cne:=I.cne
 have tracked:∀ {a:Addr} {h':Heap},(∃ o,s.heap.get? a=some o∧H a=none)→Heap.SameBut a s.heap h'→HOk X.prog X.w H h':=fun {a h'} ha hs b ob e=>by
  obtain ⟨_,_,hfree⟩:=ha
  refine (I.hok b ob e).stay (fun c w' hc q=>(hs.2 c ?_).trans q) (fun _ q=>q) fun _ _ q=>q
  rintro rfl
  rcases hc with rfl|hc
  ·rw [hfree] at e; cases e
  ·rw [hfree] at hc; cases hc
 rcases hx with hk|hk
 ·refine wpAny_storeName_local hk hn (fun h' hn' hs=>?_) hcls
  obtain ⟨oL,_,_,hoL,_⟩:=id hn
  refine h _ ⟨I.ok,I.os,I.bare,⟨fun b o e n hb hx=>?_,fun b o e n hb hx=>?_,I.base.free,fun b o e hx=>?_,I.base.tups,I.base.frzs,I.base.tbls⟩,⟨_,hn',fun j y v' e1 e2 e3=>?_⟩,fun y c e=>?_,I.free,I.freeC,fun p hp=>?_,tracked ⟨oL,hoL,I.free⟩ hs,by simpa using I.len⟩ ⟨_,hs,.inl rfl⟩
  ·exact (hs.2 b (Nat.ne_of_lt (Nat.lt_of_lt_of_le (Heap.lt_size e) I.ok.above))).trans (I.base.keep b o e n hb hx)
  ·obtain ⟨sl,e1⟩:=I.base.slot b o e n hb hx
   exact ⟨sl,(hs.2 b (Nat.ne_of_lt (Nat.lt_of_lt_of_le (Heap.lt_size e) I.ok.above))).trans e1⟩
  ·obtain ⟨o',e1⟩:=I.base.there b o e hx
   exact ⟨o',(hs.2 b (Nat.ne_of_lt (Nat.lt_of_lt_of_le (Heap.lt_size e) I.ok.above))).trans e1⟩
  ·by_cases hj:j=i
   ·subst hj
    rw [hi] at e1; cases e1
    rw [List.getElem?_set_self hiσ] at e2
    cases e2
    exact ⟨u,r,.inl ⟨hk,by simp⟩⟩
   ·rw [List.getElem?_set_ne (Ne.symm hj)] at e2
    obtain ⟨u',r',q⟩:=hl j y v' e1 e2 e3
    refine ⟨u',r',?_⟩
    rcases q with ⟨k,e⟩|⟨k,c,e,z⟩
    ·refine .inl ⟨k,?_⟩
     have:y≠x:=fun e=>hj (nodup_ix hN e1 (e ▸ hi))
     simp [this,e]
    ·exact .inr ⟨k,c,e,z.sameBut hs (cne y c e)⟩
  ·obtain ⟨w',z⟩:=I.cell y c e
   exact ⟨w',z.sameBut hs (cne y c e)⟩
  ·obtain ⟨e,n,ne,nf,d⟩:=I.pin p hp
   exact ⟨(hs.2 p.1 ne).trans e,n,ne,nf,d⟩
 ·have hfn:X.fn x=true:=by
   rcases hf with z|z
   ·exact z
   ·rw [z] at hk; cases hk
  obtain ⟨c,hc⟩:=I.ok.has x (.inl hk)
  obtain ⟨w',z⟩:=I.cell x c hc
  refine wpAny_storeName_cell I.ok.kind hk hc z (fun h' hc' hs=>?_)
  obtain ⟨oc,hoc,hocd⟩:=id z
  refine h { s with heap:=h' } ⟨I.ok,I.os,I.bare,⟨fun b o e n hb hx=>?_,fun b o e n hb hx=>?_,I.base.free,fun b o e hx=>?_,I.base.tups,I.base.frzs,I.base.tbls⟩,⟨m,hn.sameBut hs (Ne.symm (cne x c hc)),fun j y v' e1 e2 e3=>?_⟩,fun y c' e=>?_,I.free,I.freeC,fun p hp=>?_,tracked ⟨oc,hoc,I.freeC x c hc⟩ hs,by simpa using I.len⟩ ⟨c,hs,.inr hc⟩
  ·exact (hs.2 b (Nat.ne_of_lt (Nat.lt_of_lt_of_le (Heap.lt_size e) (I.ok.cab x c hfn hc)))).trans (I.base.keep b o e n hb hx)
  ·obtain ⟨sl,e1⟩:=I.base.slot b o e n hb hx
   exact ⟨sl,(hs.2 b (Nat.ne_of_lt (Nat.lt_of_lt_of_le (Heap.lt_size e) (I.ok.cab x c hfn hc)))).trans e1⟩
  ·obtain ⟨o',e1⟩:=I.base.there b o e hx
   exact ⟨o',(hs.2 b (Nat.ne_of_lt (Nat.lt_of_lt_of_le (Heap.lt_size e) (I.ok.cab x c hfn hc)))).trans e1⟩
  ·by_cases hj:j=i
   ·subst hj
    rw [hi] at e1; cases e1
    rw [List.getElem?_set_self hiσ] at e2
    cases e2
    exact ⟨u,r,.inr ⟨.inl hk,c,hc,hc'⟩⟩
   ·rw [List.getElem?_set_ne (Ne.symm hj)] at e2
    obtain ⟨u',r',q⟩:=hl j y v' e1 e2 e3
    refine ⟨u',r',?_⟩
    rcases q with q|⟨k,c',e,z'⟩
    ·exact .inl q
    ·refine .inr ⟨k,c',e,z'.sameBut hs ?_⟩
     rintro rfl
     exact hj (nodup_ix hN e1 (I.ok.inj _ _ _ e hc ▸ hi))
  ·by_cases hcc:c'=c
   ·subst hcc; exact ⟨_,hc'⟩
   ·obtain ⟨w2,z2⟩:=I.cell y c' e
    exact ⟨w2,z2.sameBut hs hcc⟩
  ·obtain ⟨e,n,ne,nf,d⟩:=I.pin p hp
   refine ⟨(hs.2 p.1 ?_).trans e,n,ne,nf,d⟩
   intro q
   rw [q,hoc] at e
   have q':oc=p.2:=Option.some.inj e
   exact d w' (by rw [← q']; exact hocd)
theorem store_ok {M:Model} {A:Around} {E:Value→Shared→Prop} {i:Nat} {x:Str} {v:V} {u:Value} {Q:Unit→Shared→Prop} (I:Inv X pins σ H s) (hN:X.N.Nodup) (hi:X.N[i]?=some x) (hx:Loc X.env.scope x) (r:RelV v u)
  (h:∀ s',Inv X pins (σ.set i (some v)) H s'→Q () s') (hf:X.fn x=true∨X.env.scope.names.lookup x=some .local:=by trivial):wpAny M A (storeName X.env x u) Q E s :=
 store_ok2 I hN hi hx r (fun s' I' _=>h s' I') hf
theorem Inv.call' {s':Shared} {ch:List Addr} (I:Inv X pins σ H s) (ho:s'.os=s.os) (u:Un (frs X.stack) ch H H' s.heap s'.heap) (hok:HOk X.prog X.w H' s'.heap) (hg:AllBare s'.gens)
  (hch:∀ b∈ch,(b∈X.ex∨X.s₀.heap.objs.size ≤ b)∧b≠X.env.locals∧(∀ x c,X.env.cells.lookup x=some c→c≠b)∧∀ p∈X.pn++pins,p.1≠b):Inv X pins σ H' s':=by
 obtain ⟨h',g',d',t',o'⟩:=s'
 have e:o'=s.os:=ho
 subst e
 exact I.call (g':=g') (t':=t') (d':=d') u hok hg hch
end
noncomputable abbrev XK:=Value→Option Addr→Hp→Prop
noncomputable abbrev St:=List (Option V)
noncomputable abbrev VK:=V→Hp→Prop
noncomputable abbrev TE:=St→Hp→VK→Prop
noncomputable abbrev TT:=St→Hp→(Bool→Hp→Prop)→Prop
noncomputable abbrev TA:=St→Hp→(List V→Hp→Prop)→Prop
structure Ends where
 nx:St→Hp→Prop
 rt:VK
 bk:St→Hp→Prop:=fun _ _=>False
 ct:St→Hp→Prop:=fun _ _=>False
noncomputable abbrev TS:=Ends→St→Hp→Prop
noncomputable def EP (X:Cx) (pins:List (Addr×Obj)) (σ:St) (Q:VK) (u:Value) (s':Shared):Prop:=∃ v H',Inv X pins σ H' s'∧RelV v u∧Q v H'
noncomputable def TP (X:Cx) (pins:List (Addr×Obj)) (σ:St) (Q:Bool→Hp→Prop) (b:Bool) (s':Shared):Prop:=∃ H',Inv X pins σ H' s'∧Q b H'
noncomputable def AP (X:Cx) (pins:List (Addr×Obj)) (σ:St) (Q:List V→Hp→Prop) (us:List Value) (s':Shared):Prop:=∃ vs H',Inv X pins σ H' s'∧Vals vs us∧Q vs H'
noncomputable def SP (X:Cx) (pins:List (Addr×Obj)) (D:Ends) (f:Flow) (s':Shared):Prop :=
 match f with
 | .next=>∃ σ' H',Inv X pins σ' H' s'∧D.nx σ' H'
 | .brk=>∃ σ' H',Inv X pins σ' H' s'∧D.bk σ' H'
 | .cont=>∃ σ' H',Inv X pins σ' H' s'∧D.ct σ' H'
 | .ret u=>∃ v σ' H',Inv X pins σ' H' s'∧RelV v u∧D.rt v H'
noncomputable def PE (X:Cx) (e:Expr) (t:TE):Prop :=
 ∀ (pins:List (Addr×Obj)) (s:Shared) (σ:St) (H:Hp) (Q:VK),Inv X pins σ H s→t σ H Q→wpAny (model X.prog X.w) X.A (eval e X.env) (EP X pins σ Q) X.xe s
noncomputable def PT (X:Cx) (e:Expr) (t:TT):Prop :=
 ∀ (pins:List (Addr×Obj)) (s:Shared) (σ:St) (H:Hp) (Q:Bool→Hp→Prop),Inv X pins σ H s→t σ H Q→wpAny (model X.prog X.w) X.A (isTrue e X.env (eval e X.env)) (TP X pins σ Q) X.xe s
noncomputable def PA (X:Cx) (es:List Expr) (t:TA):Prop :=
 ∀ (pos:Pos) (pins:List (Addr×Obj)) (s:Shared) (σ:St) (H:Hp) (Q:List V→Hp→Prop),Inv X pins σ H s→t σ H Q→wpAny (model X.prog X.w) X.A (spliced (backTo pos (starEach es X.env))) (AP X pins σ Q) X.xe s
noncomputable def PS (X:Cx) (st:Stmt) (t:TS):Prop :=
 ∀ (pins:List (Addr×Obj)) (s:Shared) (σ:St) (H:Hp) (D:Ends),Inv X pins σ H s→t D σ H→wpAny (model X.prog X.w) X.A (exec st X.env) (SP X pins D) X.xe s
noncomputable def PSs (X:Cx) (st:List Stmt) (t:TS):Prop :=
 ∀ (pins:List (Addr×Obj)) (s:Shared) (σ:St) (H:Hp) (D:Ends),Inv X pins σ H s→t D σ H→wpAny (model X.prog X.w) X.A (execs st X.env) (SP X pins D) X.xe s
theorem thn {α:Type} {t:Sem α} {Q Q':α→Shared→Prop} {M:Model} {A:Around} {E:Value→Shared→Prop} {s:Shared} (h:wpAny M A t Q E s) (hQ:∀ a s,Q a s→Q' a s):wpAny M A t Q' E s:=wpAny_mono h hQ fun _ _ x=>x
end L2
namespace L2
open PySem PySem.Spec PyProof.Rows
section
variable {X:Cx}
noncomputable def tVar (i:Nat):TE:=fun σ H Q=>∃ v,σ[i]?=some (some v)∧Q v H
noncomputable def tC (v:V):TE:=fun _ H Q=>Q v H
theorem pe_var {i:Nat} {x:Str} {pos:Pos} (hN:X.N[i]?=some x) (hv:Vis X.env.scope x) (hd:(x == ("__debug__":Str))=false:=by decide) (hcd:(x == ("__classdict__":Str))=false:=by decide):PE X (.Name x pos) (tVar i):=by
 intro pins s σ H Q I h
 obtain ⟨v,e,h⟩:=h
 obtain ⟨m,hn,hl⟩:=I.loc
 obtain ⟨u,r,l⟩:=hl i x v hN e hv
 have fin:EP X pins σ Q u s:=⟨v,H,I,r,h⟩
 rcases l with ⟨hk,hm⟩|⟨hk,c,hc,hcell⟩
 ·exact wpAny_Name (wpAny_loadName_local I.ok.kind hk hn hm fin) hd
 ·rcases hk with hk|hk
  ·exact wpAny_Name (wpAny_loadName_cell I.ok.kind hk hc hcell fin) hd
  ·exact wpAny_Name (wpAny_loadName_free I.ok.kind hk hc hcell fin hcd) hd
theorem pe_int {i j pos}:PE X (.Constant (.int i) j pos) (tC (.int i)):=fun _ _ _ H _ I h=>wpAny_Constant_int ⟨.int i,H,I.tok _,⟨_,rfl⟩,h⟩
theorem pe_bl {b j pos}:PE X (.Constant (.bool b) j pos) (tC (.bl b)):=fun _ _ _ H _ I h=>Constant_bool ⟨.bl b,H,I,rfl,h⟩
theorem pe_non {j pos}:PE X (.Constant .none j pos) (tC .non):=fun _ _ _ H _ I h=>Constant_none ⟨.non,H,I,rfl,h⟩
theorem pe_str {x j pos}:PE X (.Constant (.str x) j pos) (tC (.str x)):=fun _ _ _ H _ I h=>Calls.Constant_str ⟨.str x,H,I.tok _,⟨_,rfl⟩,h⟩
noncomputable def Gl (X:Cx) (x:Str):Prop:=X.env.kindOf x=some .globalImplicit
theorem ld_glob {E:Value→Shared→Prop} {pins:List (Addr×Obj)} {s:Shared} {σ:St} {H:Hp} {x:Str} {u:Value} {pos:Pos} {Q:Value→Shared→Prop} (I:Inv X pins σ H s) (hg:Gl X x) (hm:X.mg x=some u) (h:Q u s)
  (hd:(x == ("__debug__":Str))=false:=by decide):wpAny (model X.prog X.w) X.A (eval (.Name x pos) X.env) Q E s :=
 Calls.Name_function_global I.ok.kind hg (Calls.loadGlobal_global (by rw [I.ok.glob]; exact I.mod.glob.keeps I.bk) hm h) hd
theorem ld_blt {E:Value→Shared→Prop} {pins:List (Addr×Obj)} {s:Shared} {σ:St} {H:Hp} {x:Str} {u:Value} {pos:Pos} {Q:Value→Shared→Prop} (I:Inv X pins σ H s) (hg:Gl X x) (hm:X.mg x=none) (hv:bootBuiltins x=some u) (h:Q u s)
  (hn:x≠"__name__":=by decide) (hd:(x == ("__debug__":Str))=false:=by decide):wpAny (model X.prog X.w) X.A (eval (.Name x pos) X.env) Q E s:=by
 obtain ⟨mb,h1,h2⟩:=I.mod.blt
 exact Calls.Name_function_global I.ok.kind hg (Calls.loadGlobal_builtin (by rw [I.ok.glob]; exact I.mod.glob.keeps I.bk) hm (by rw [I.ok.blt]; exact h1.keeps I.bk) ((h2 x hn).trans hv) h) hd
theorem pe_glob {x:Str} {v:V} {u:Value} {pos:Pos} (hg:Gl X x) (hm:X.mg x=some u) (r:RelV v u) (hd:(x == ("__debug__":Str))=false:=by decide):PE X (.Name x pos) (tC v) :=
 fun _ _ _ H _ I h=>ld_glob I hg hm ⟨v,H,I,r,h⟩ hd
variable {a b:Expr} {ta tb:TE} {pos:Pos}
theorem nobehind (b:Expr) {op:CmpOp} (h:op≠.In) (h2:op≠.NotIn):behindInMarks op b=false:=by
 have e1:(op == CmpOp.In)=false:=by cases op <;> first|rfl|exact absurd rfl h
 have e2:(op == CmpOp.NotIn)=false:=by cases op <;> first|rfl|exact absurd rfl h2
 cases b <;> simp [behindInMarks,e1,e2]
variable {tA tB':TT} {rest:List Expr}
noncomputable def tAnd (t u:TT):TT:=fun σ H Q=>t σ H fun c H1=>if c=true then u σ H1 Q else Q false H1
noncomputable def tOr (t u:TT):TT:=fun σ H Q=>t σ H fun c H1=>if c=true then Q true H1 else u σ H1 Q
noncomputable def tNot (t:TT):TT:=fun σ H Q=>t σ H fun c H1=>Q (!c) H1
end
end L2
namespace L2
open PySem PySem.Spec PyProof.Rows
noncomputable def SqL (K:PySem.W.Frag) (H:Hp) (a:Addr) (xs:List V):Prop :=
 Rd H a (.lst xs) ∨
  ∃ (o:Obj) (its:Array Value) (n:Nat),K.lookup a=some o∧o.cls=.type "list"∧o.dict=none∧o.data=.seq its n∧its.size ≤ sizeLine∧Vals xs its.toList
noncomputable def SqT (K:PySem.W.Frag) (H:Hp) (a:Addr) (xs:List V):Prop :=
 Rd H a (.tup xs) ∨
  ∃ (o:Obj) (its:Array Value) (n:Nat),K.lookup a=some o∧o.cls=.type "tuple"∧o.data=.seq its n∧its.size ≤ sizeLine∧Vals xs its.toList
noncomputable def absV:Value→Option V
 | .none=>some .non
 | .bool b=>some (.bl b)
 | .int i _=>some (.int i)
 | .str x _=>some (.str x)
 | .bytes b _=>some (.byt b)
 | .float b _=>some (.flt b)
 | .ref a=>some (.ref a)
 | .type n=>some (.ty n)
 | _=>none
theorem RelV.abs {x:V} {u:Value} (r:RelV x u):absV u=some x:=by
 cases x with
 | non=>cases r; rfl
 | bl _=>cases r; rfl
 | int _=>obtain ⟨t,rfl⟩:=r; rfl
 | str _=>obtain ⟨t,rfl⟩:=r; rfl
 | byt _=>obtain ⟨t,rfl⟩:=r; rfl
 | flt _=>obtain ⟨t,rfl⟩:=r; rfl
 | ref _=>cases r; rfl
 | ty _=>cases r; rfl
theorem RelV.inj {x y:V} {u:Value} (r:RelV x u) (q:RelV y u):x=y:=Option.some.inj (r.abs.symm.trans q.abs)
theorem Vals.inj:∀ {xs ys:List V} {us:List Value},Vals xs us→Vals ys us→xs=ys
 | _,_,_,.nil,.nil=>rfl
 | _,_,_,.cons r t,.cons r' t'=>by rw [r.inj r',Vals.inj t t']
section
variable {X:Cx} {pins:List (Addr×Obj)} {σ:St} {H:Hp} {s:Shared} {a:Addr} {xs ys:List V}
theorem SqL.of {K:PySem.W.Frag} (h:H a=some (.lst xs)):SqL K H a xs:=.inl (.inl h)
theorem SqT.of {K:PySem.W.Frag} (h:H a=some (.tup xs)):SqT K H a xs:=.inl (.inl h)
theorem Inv.list (I:Inv X pins σ H s) (h:SqL X.K H a xs):∃ its:List Value,Vals xs its∧PlainL s.heap a its.toArray∧xs.length ≤ sizeLine:=by
 rcases h with h|⟨o,its,n,hk,hc,hd,hs,hz,r⟩
 ·obtain ⟨z,its,n,r,e⟩:=h.ok I.hok
  exact ⟨its,r,⟨_,n,e,rfl,rfl,rfl⟩,z⟩
 ·refine ⟨its.toList,r,⟨o,n,I.kIn a o hk,hc,hd,by simpa using hs⟩,?_⟩
  have e:=r.length
  simp only [Array.length_toList] at e
  omega
theorem Inv.tuple (I:Inv X pins σ H s) (h:SqT X.K H a xs):∃ its:List Value,Vals xs its∧IsTup s.heap a its.toArray∧xs.length ≤ sizeLine:=by
 rcases h with h|⟨o,its,n,hk,hc,hs,hz,r⟩
 ·obtain ⟨z,its,r,p⟩:=h.ok I.hok
  exact ⟨its,r,p,z⟩
 ·refine ⟨its.toList,r,⟨o,I.kIn a o hk,hc,n,by simpa using hs⟩,?_⟩
  have e:=r.length
  simp only [Array.length_toList] at e
  omega
theorem Inv.list_inj (I:Inv X pins σ H s) (h:SqL X.K H a xs) (h':SqL X.K H a ys):xs=ys:=by
 obtain ⟨its,r,⟨o,n,e,_,_,d⟩,_⟩:=I.list h
 obtain ⟨its',r',⟨o',n',e',_,_,d'⟩,_⟩:=I.list h'
 rw [e] at e'; cases e'
 rw [d] at d'
 injection d' with d1 _
 have:its=its':=by simpa using congrArg Array.toList d1
 subst this
 exact r.inj r'
theorem Inv.tuple_inj (I:Inv X pins σ H s) (h:SqT X.K H a xs) (h':SqT X.K H a ys):xs=ys:=by
 obtain ⟨its,r,⟨o,e,_,n,d⟩,_⟩:=I.tuple h
 obtain ⟨its',r',⟨o',e',_,n',d'⟩,_⟩:=I.tuple h'
 rw [e] at e'; cases e'
 rw [d] at d'
 injection d' with d1 _
 have:its=its':=by simpa using congrArg Array.toList d1
 subst this
 exact r.inj r'
end
noncomputable abbrev Cx.wish (X:Cx) (E:Value→Shared→Prop):Cx:={ X with xe:=E }
noncomputable abbrev Cx.nox (X:Cx):Cx:=X.wish fun _ _=>False
theorem Cx.Ok.wish {X:Cx} (ok:X.Ok) (E:Value→Shared→Prop):(X.wish E).Ok :=
 ⟨ok.mod,ok.kind,ok.glob,ok.blt,ok.above,ok.inj,ok.has,ok.cab,ok.hd,ok.frames,ok.stk,ok.exf,ok.bs,ok.bsz,ok.noex,ok.exfs,ok.funs,ok.frf⟩
theorem Cx.Ok.unwish {X:Cx} {E:Value→Shared→Prop} (ok:(X.wish E).Ok):X.Ok :=
 ⟨ok.mod,ok.kind,ok.glob,ok.blt,ok.above,ok.inj,ok.has,ok.cab,ok.hd,ok.frames,ok.stk,ok.exf,ok.bs,ok.bsz,ok.noex,ok.exfs,ok.funs,ok.frf⟩
section
variable {X:Cx} {pins:List (Addr×Obj)} {σ:St} {H:Hp} {s:Shared} {E:Value→Shared→Prop}
theorem Inv.wish (I:Inv X pins σ H s) (E:Value→Shared→Prop):Inv (X.wish E) pins σ H s:=⟨I.ok.wish E,I.os,I.bare,I.base,I.loc,I.cell,I.free,I.freeC,I.pin,I.hok,I.len⟩
theorem Inv.unwish (I:Inv (X.wish E) pins σ H s):Inv X pins σ H s:=⟨I.ok.unwish,I.os,I.bare,I.base,I.loc,I.cell,I.free,I.freeC,I.pin,I.hok,I.len⟩
theorem SP.unwish {D:Ends} {f:Flow} {s':Shared} (h:SP (X.wish E) pins D f s'):SP X pins D f s':=by
 cases f with
 | next=>obtain ⟨σ',H',I,q⟩:=h; exact ⟨σ',H',I.unwish,q⟩
 | brk=>obtain ⟨σ',H',I,q⟩:=h; exact ⟨σ',H',I.unwish,q⟩
 | cont=>obtain ⟨σ',H',I,q⟩:=h; exact ⟨σ',H',I.unwish,q⟩
 | ret u=>obtain ⟨v,σ',H',I,r,q⟩:=h; exact ⟨v,σ',H',I.unwish,r,q⟩
theorem PSs.nox {st:List Stmt} {t:TS} (h:PSs X.nox st t):PSs X st t:=fun pins s σ H D I hw =>
 wpAny_mono (h pins s σ H D (I.wish _) hw) (fun _ _ q=>q.unwish) fun _ _ z=>False.elim z
end
section
variable {X:Cx} {st:Stmt} {rest:List Stmt} {t u:TS} {e:Expr} {te:TE} {pos:Pos}
theorem Inv.quiet {pins:List (Addr×Obj)} {σ:St} {H:Hp} {s:Shared} (I:Inv X pins σ H s):interactive X.env=false:=by simp [interactive,I.ok.kind]
noncomputable def tDrop (te:TE):TS:=fun D σ H=>te σ H fun _ H1=>D.nx σ H1
theorem ps_expr (he:PE X e te) (hs:swapsWith e none pos.line X.env=pure false:=by rfl):PS X (.Expr e pos) (tDrop te):=by
 intro pins s σ H D I h
 exact wpAny_Expr_any (thn (he pins s σ H _ I h) fun v s1 ⟨x,H1,I1,r1,q1⟩=>⟨σ,H1,I1,q1⟩) I.quiet hs
noncomputable def tRet (te:TE):TS:=fun D σ H=>te σ H D.rt
theorem ps_ret (he:PE X e te):PS X (.Return (some e) pos) (tRet te):=by
 intro pins s σ H D I h
 exact wpAny_Return_some (thn (he pins s σ H _ I h) fun v s1 ⟨x,H1,I1,r1,q1⟩=>⟨x,σ,H1,I1,r1,q1⟩)
end
noncomputable abbrev TG:=V→St→Hp→(St→Hp→Prop)→Prop
noncomputable abbrev TGs:=List V→St→Hp→(St→Hp→Prop)→Prop
noncomputable def PG (X:Cx) (target:Expr) (t:TG):Prop :=
 ∀ (pins:List (Addr×Obj)) (s:Shared) (σ:St) (H:Hp) (v:V) (u:Value) (Q:St→Hp→Prop),Inv X pins σ H s→RelV v u→t v σ H Q →
  wpAny (model X.prog X.w) X.A (assign target X.env u) (fun _ s'=>∃ σ' H',Inv X pins σ' H' s'∧Q σ' H') X.xe s
noncomputable def PGs (X:Cx) (ts:List Expr) (t:TGs):Prop :=
 ∀ (pins:List (Addr×Obj)) (s:Shared) (σ:St) (H:Hp) (vs:List V) (us:List Value) (Q:St→Hp→Prop),Inv X pins σ H s→Vals vs us→t vs σ H Q →
  wpAny (model X.prog X.w) X.A (assignInOrder ((assignEach ts X.env).map (·.2)) us) (fun _ s'=>∃ σ' H',Inv X pins σ' H' s'∧Q σ' H') X.xe s
noncomputable abbrev TSet:=V→V→V→Hp→(Hp→Prop)→Prop
noncomputable def PSet (X:Cx) (t:TSet):Prop :=
 ∀ (pins:List (Addr×Obj)) (s:Shared) (σ:St) (H:Hp) (o i v:V) (ov iv u:Value) (Q:Hp→Prop),Inv X pins σ H s→RelV o ov→RelV i iv→RelV v u→t o i v H Q →
  wpAny (model X.prog X.w) X.A (setItem ov iv u) (fun _ s'=>∃ H',Inv X pins σ H' s'∧Q H') X.xe s
noncomputable abbrev TIp:=V→V→Hp→VK→Prop
noncomputable def PIp (X:Cx) (op:Operator) (t:TIp):Prop :=
 ∀ (pins:List (Addr×Obj)) (s:Shared) (σ:St) (H:Hp) (x y:V) (v u:Value) (Q:VK),Inv X pins σ H s→RelV x v→RelV y u→t x y H Q →
  wpAny (model X.prog X.w) X.A (inplaceOp op v u) (EP X pins σ Q) X.xe s
section
variable {X:Cx} {pos:Pos}
noncomputable def gName (i:Nat):TG:=fun v σ H Q=>Q (σ.set i (some v)) H
theorem pg_name {i:Nat} {x:Str} (hN:X.N.Nodup) (hi:X.N[i]?=some x) (hx:Loc X.env.scope x) (hf:X.fn x=true∨X.env.scope.names.lookup x=some .local:=by trivial):PG X (.Name x pos) (gName i):=by
 intro pins s σ H v u Q I r h
 exact wpAny_assign_Name (store_ok I hN hi hx r (fun s' I'=>⟨_,H,I',h⟩) hf)
noncomputable def gNil:TGs:=fun vs σ H Q=>vs=[]∧Q σ H
noncomputable def gCons (t:TG) (u:TGs):TGs:=fun vs σ H Q=>∃ v r,vs=v::r∧t v σ H fun σ' H'=>u r σ' H' Q
theorem pgs_nil:PGs X [] gNil:=by
 intro pins s σ H vs us Q I r h
 obtain ⟨e,h⟩:=h
 subst e
 cases r
 exact assignInOrder_nil ⟨σ,H,I,h⟩
theorem pgs_cons {e:Expr} {es:List Expr} {t:TG} {u:TGs} (h1:PG X e t) (h2:PGs X es u)
  (hs:(assignEach (e::es) X.env).map (·.2)=assign e X.env::(assignEach es X.env).map (·.2):=by rfl):PGs X (e::es) (gCons t u):=by
 intro pins s σ H vs us Q I r h
 obtain ⟨v,vr,e1,h⟩:=h
 subst e1
 cases r with
 | cons r rr =>
  rw [hs]
  refine assignInOrder_cons (thn (h1 pins s σ H _ _ _ I r h) fun _ s1 ⟨σ1,H1,I1,q1⟩=>?_)
  exact h2 pins s1 σ1 H1 _ _ Q I1 rr q1
noncomputable def gTup (K:PySem.W.Frag) (n:Nat) (t:TGs):TG:=fun v σ H Q=>∃ a xs,v=.ref a∧SqT K H a xs∧xs.length=n∧t xs σ H Q
theorem pg_tup {es:List Expr} {k:Nat} {t:TGs} {n:Nat} (hc:X.calm=true) (h:PGs X es t)
  (hn:(assignEach es X.env).length=n:=by rfl) (hst:(assignEach es X.env).findIdx? (·.1)=none:=by rfl):PG X (.Tuple es k pos) (gTup X.K n t):=by
 intro pins s σ H v u Q I r hw
 obtain ⟨a,xs,e1,hq,hl,hw⟩:=hw
 subst e1
 cases r
 obtain ⟨its,rv,ht,hz⟩:=I.tuple hq
 refine assign_Tuple_tuple (I.ok.hd hc) ht (by simp [hn,← hl,rv.length]) hst fun h' hx=>?_
 have I1:Inv X pins σ H { s with heap:=h' }:=I.kept (t':=s.toks) fun b o e=>hx b o (Nat.ne_of_lt (Heap.lt_size e)) e
 exact h pins _ σ H xs _ Q I1 (by simpa using rv) hw
noncomputable def gSub (to ti:TE) (t:TSet):TG:=fun v σ H Q=>to σ H fun o H1=>ti σ H1 fun i H2=>t o i v H2 fun H3=>Q σ H3
theorem pg_sub {o i:Expr} {to ti:TE} {t:TSet} (ho:PE X o to) (hi:PE X i ti) (hs:PSet X t)
  (ha:∀ v,assign (.Subscript o i pos) X.env v=(do
   let ov ← holding [v] (eval o X.env)
   let iv ← holding [v,ov] (eval i X.env)
   standAt pos
   holding [v,ov,iv] (setItem ov iv v)
   release [v,ov,iv] []):=by intro _; rfl):PG X (.Subscript o i pos) (gSub to ti t):=by
 intro pins s σ H v u Q I r h
 rw [ha]
 refine wpAny_bind (wpAny_holding (thn (ho pins s σ H _ I h) fun ov s1 ⟨x,H1,I1,r1,q1⟩=>?_))
 refine wpAny_bind (wpAny_holding (thn (hi pins s1 σ H1 _ I1 q1) fun iv s2 ⟨y,H2,I2,r2,q2⟩=>?_))
 refine wpAny_bind (wpAny_standAt (wpAny_bind (wpAny_holding (thn (hs pins s2 σ H2 x y v ov iv u _ I2 r1 r2 r q2) fun _ s3 ⟨H3,I3,q3⟩=>?_))))
 exact wpAny_release ⟨σ,H3,I3,q3⟩
noncomputable def tAsg (te:TE) (g:TG):TS:=fun D σ H=>te σ H fun x H1=>g x σ H1 D.nx
theorem ps_asg {tg e:Expr} {te:TE} {g:TG} (he:PE X e te) (hg:PG X tg g) (hs:swapsWithSole [tg] e pos.line X.env=pure false:=by rfl) (hw:swappedStores [tg] e X.env=pure none:=by rfl)
  (h1:(assignEach [tg] X.env).map (·.2)=[assign tg X.env]:=by rfl):PS X (.Assign [tg] e pos) (tAsg te g):=by
 intro pins s σ H D I h
 refine wpAny_Assign_stores (thn (he pins s σ H _ I h) fun v s1 ⟨x,H1,I1,r1,q1⟩=>?_) hs hw
 rw [h1]
 exact thn (hg pins s1 σ H1 x v _ I1 r1 q1) fun _ s2 q=>q
theorem ps_set {i:Nat} {x:Str} {e:Expr} {te:TE} {pos':Pos} (hN:X.N.Nodup) (hi:X.N[i]?=some x) (hx:Loc X.env.scope x) (he:PE X e te) (hs:swapsWith e (some (.Name x pos')) pos.line X.env=pure false:=by rfl) (hf:X.fn x=true∨X.env.scope.names.lookup x=some .local:=by trivial) :
  PS X (.Assign [.Name x pos'] e pos) (tAsg te (gName i)):=by
 intro pins s σ H D I h
 refine wpAny_Assign_Name (thn (he pins s σ H _ I h) fun v s1 ⟨y,H1,I1,r1,q1⟩=>?_) hs
 exact store_ok I1 hN hi hx r1 (fun s2 I2=>⟨_,H1,I2,q1⟩) hf
noncomputable def tAug (i:Nat) (te:TE) (ti:TIp):TS:=fun D σ H=>∃ x,σ[i]?=some (some x)∧te σ H fun y H1=>ti x y H1 fun z H2=>D.nx (σ.set i (some z)) H2
theorem ps_aug {i:Nat} {x:Str} {e:Expr} {te:TE} {op:Operator} {ti:TIp} {pos':Pos} (hN:X.N.Nodup) (hi:X.N[i]?=some x) (hx:Loc X.env.scope x) (he:PE X e te) (ho:PIp X op ti) (hf:X.fn x=true∨X.env.scope.names.lookup x=some .local:=by trivial) :
  PS X (.AugAssign (.Name x pos') op e pos) (tAug i te ti):=by
 intro pins s σ H D I h
 obtain ⟨v,e1,h⟩:=h
 obtain ⟨m,hn,hl⟩:=I.loc
 have vis:Vis X.env.scope x:=by rcases hx with k|k; exact .inl k; exact .inr (.inl k)
 obtain ⟨u,r,l⟩:=hl i x v hi e1 vis
 refine wpAny_AugAssign_Name ?_
 have go:wpAny (model X.prog X.w) X.A (eval e X.env) (fun w s₂=>wpAny (model X.prog X.w) X.A (inplaceOp op u w) (fun r s₃=>wpAny (model X.prog X.w) X.A (storeName X.env x r) (fun _=>SP X pins D .next) X.xe s₃) X.xe s₂) X.xe s:=by
  refine thn (he pins s σ H _ I h) fun w s1 ⟨y,H1,I1,r1,q1⟩=>?_
  refine thn (ho pins s1 σ H1 v y u w _ I1 r r1 q1) fun z s2 ⟨zv,H2,I2,r2,q2⟩=>?_
  exact store_ok I2 hN hi hx r2 (fun s3 I3=>⟨_,H2,I3,q2⟩) hf
 rcases l with ⟨hk,hm⟩|⟨hk,c,hc,hcell⟩
 ·exact wpAny_loadName_local I.ok.kind hk hn hm go
 ·rcases hk with hk|hk
  ·exact wpAny_loadName_cell I.ok.kind hk hc hcell go
  ·rcases hx with k|k
   ·have:X.env.scope.names.lookup x=some .free:=hk
    rw [k] at this; cases this
   ·have:X.env.scope.names.lookup x=some .free:=hk
    rw [k] at this; cases this
end
section
variable {X:Cx} {pos:Pos}
noncomputable def tWhile (c:TT) (tb:TS):TS:=fun D σ H=>∃ W:Nat→St→Hp→Prop,(∃ m,W m σ H)∧∀ m σ H,W m σ H →
 c σ H fun b H1=>if b=true then ∃ N:St→Hp→Prop,(∀ σ' H',N σ' H'→∃ m',m' < m∧W m' σ' H')∧tb { D with nx:=N,ct:=N,bk:=D.nx } σ H1 else D.nx σ H1
theorem ps_while {c:Expr} {body:List Stmt} {tc:TT} {tb:TS} (hp:PassesOwn (model X.prog X.w) X.A X.env X.xe) (hc:PT X c tc) (hb:PSs X body tb):PS X (.While c body [] pos) (tWhile tc tb):=by
 intro pins s σ H D I h
 obtain ⟨W,⟨m0,w0⟩,turn⟩:=h
 refine wpAny_While (codeAny_whileLoop (fun n s'=>∃ σ' H',Inv X pins σ' H' s'∧W n σ' H') ?_ m0 ⟨σ,H,I,w0⟩)
 rintro n s1 ⟨σ1,H1,I1,w1⟩
 refine wpAny_passesOwn hp (thn (hc pins s1 σ1 H1 _ I1 (turn n σ1 H1 w1)) fun b s2 ⟨H2,I2,q2⟩=>?_)
 cases b with
 | true =>
  obtain ⟨N,hN,q2⟩:=q2
  rw [if_pos rfl]
  refine wpAny_passesOwn hp (thn (hb pins s2 σ1 H2 _ I2 q2) fun f s3 q3=>?_)
  cases f with
  | next =>
   obtain ⟨σ3,H3,I3,n3⟩:=q3
   obtain ⟨m',hm,w3⟩:=hN σ3 H3 n3
   exact ⟨m',hm,σ3,H3,I3,w3⟩
  | cont =>
   obtain ⟨σ3,H3,I3,n3⟩:=q3
   obtain ⟨m',hm,w3⟩:=hN σ3 H3 n3
   exact ⟨m',hm,σ3,H3,I3,w3⟩
  | brk=>exact q3
  | ret v=>exact q3
 | false =>
  rw [if_neg Bool.false_ne_true]
  exact wpAny_execs_nil ⟨σ1,H2,I2,q2⟩
end
structure It where
 go:Nat→Hp→Prop
 yld:Nat→Hp→V→Hp→Prop
 stop:Nat→Hp→Prop
noncomputable def FpOk (X:Cx) (pins:List (Addr×Obj)) (H:Hp) (b:Addr):Prop :=
 H b=none∧b≠X.env.locals∧b ∉ X.fs∧(b∈X.ex∨X.s₀.heap.objs.size ≤ b)∧(∀ x c,X.env.cells.lookup x=some c→c≠b)∧∀ p∈X.pn++pins,p.1≠b
theorem Inv.fpOk {X:Cx} {pins:List (Addr×Obj)} {σ:St} {H H':Hp} {s:Shared} {b:Addr} (I:Inv X pins σ H s) (hb:s.heap.objs.size ≤ b) (hn:H' b=none):FpOk X pins H' b:=by
 refine ⟨hn,Nat.ne_of_gt (Nat.lt_of_lt_of_le I.lt hb),I.nofs hb,.inr (Nat.le_trans I.sz hb),fun x c e z=>?_,fun p hp z=>?_⟩
 ·obtain ⟨v,q⟩:=I.cell x c e
  exact absurd (Nat.lt_of_lt_of_le q.lt (by rw [z]; exact hb)) (Nat.lt_irrefl _)
 ·exact absurd (Nat.lt_of_lt_of_le (Heap.lt_size (I.pin p hp).1) (by rw [z]; exact hb)) (Nat.lt_irrefl _)
structure Turn (P:Program) (w:World) (K:PySem.W.Frag) (tg:Expr) (J:It) (fp:List Addr) (it:Addr) (tn:Nat→Heap→Prop):Prop where
 mem:it∈fp
 obj:∀ i h,tn i h→∀ b∈fp,∃ o,h.get? b=some o∧∀ v,o.data≠.cell v
 keep:∀ i h h',tn i h→(∀ b∈fp,∀ o,h.get? b=some o→h'.get? b=some o)→tn i h'
 item:∀ (X:Cx),X.prog=P→X.w=w→X.K=K→X.calm=true→∀ (i:Nat) (pins:List (Addr×Obj)) (s:Shared) (σ:St) (H:Hp) (E:Value→Shared→Prop),Inv X pins σ H s→(∀ b∈fp,FpOk X pins H b)→tn i s.heap→J.go i H →
  wpAny (model P w) X.A (pyNext (.ref it)) (fun r s1=>∃ u,r=some u ∧
   wpAny (model P w) X.A (letOwnedTupleGo tg (.ref it) u) (fun _ s2=>∃ x H',Inv X pins σ H' s2∧RelV x u∧J.yld i H x H'∧tn (i+1) s2.heap∧∀ b∈fp,H' b=none) E s1) E s
 done:∀ (X:Cx),X.prog=P→X.w=w→X.K=K→X.calm=true→∀ (i:Nat) (pins:List (Addr×Obj)) (s:Shared) (σ:St) (H:Hp) (E:Value→Shared→Prop),Inv X pins σ H s→(∀ b∈fp,FpOk X pins H b)→tn i s.heap→J.stop i H →
  wpAny (model P w) X.A (pyNext (.ref it)) (fun r s1=>r=none∧Inv X pins σ H s1) E s
 self:∀ (A:Around) (i:Nat) (s:Shared) (Q:Value→Shared→Prop) (E:Value→Shared→Prop),tn i s.heap→Q (.ref it) s→wpAny (model P w) A (pyIter (.ref it)) Q E s
noncomputable abbrev TI:=St→Hp→(It→Hp→Prop)→Prop
noncomputable def PIE (X:Cx) (pins:List (Addr×Obj)) (σ:St) (tg:Expr) (R:It→Hp→Prop) (itv:Value) (s2:Shared):Prop :=
 ∃ (it:Addr) (fp:List Addr) (tn:Nat→Heap→Prop) (J:It) (H':Hp),itv=.ref it∧Inv X pins σ H' s2∧Turn X.prog X.w X.K tg J fp it tn∧tn 0 s2.heap∧(∀ b∈fp,FpOk X pins H' b)∧R J H'
noncomputable def PI (X:Cx) (tg iter:Expr) (wi:TI):Prop :=
 ∀ (pins:List (Addr×Obj)) (s:Shared) (σ:St) (H:Hp) (R:It→Hp→Prop),Inv X pins σ H s→wi σ H R →
  wpAny (model X.prog X.w) X.A (eval iter X.env) (fun v s1=>wpAny (model X.prog X.w) X.A (pyIter v) (PIE X pins σ tg R) X.xe s1) X.xe s
theorem go_of {M:Model} {A:Around} {E:Value→Shared→Prop} {s:Shared} {tg:Expr} {it:Addr} {u:Value} {o:Obj} {n:String} {vs:Array Value} {Q:Unit→Shared→Prop} (ho:s.heap.get? it=some o) (hc:o.cls=.type n) (hd:o.data=.fields vs)
    (hn:["enumerate","zip","dict_itemiterator","dict_reverseitemiterator","odict_iterator","itertools.zip_longest","itertools.pairwise"].contains n=false) (hQ:Q () s):wpAny M A (letOwnedTupleGo tg (.ref it) u) Q E s:=by
  unfold letOwnedTupleGo
  cases tg <;> first
    | exact wpAny_pure hQ
    | (cases u <;> first
        | exact wpAny_pure hQ
        | (refine wpAny_bind (wpAny_load ho ?_)
           rw [hc,hd]
           show wpAny M A (if (["enumerate","zip","dict_itemiterator","dict_reverseitemiterator","odict_iterator","itertools.zip_longest","itertools.pairwise"].contains n && vs[0]? == some (rawInt _))=true then _ else _) Q E s
           rw [if_neg (by intro h; rw [hn,Bool.false_and] at h; cases h)]
           exact wpAny_pure hQ))
noncomputable def Itl (K:PySem.W.Frag) (a:Addr):It :=
 ⟨fun i H=>∃ xs x,SqL K H a xs∧xs[i]?=some x,fun i H x H'=>H'=H∧∀ xs,SqL K H a xs→xs[i]?=some x,fun i H=>∃ xs,SqL K H a xs∧xs.length ≤ i⟩
noncomputable def Itt (K:PySem.W.Frag) (a:Addr):It :=
 ⟨fun i H=>∃ xs x,SqT K H a xs∧xs[i]?=some x,fun i H x H'=>H'=H∧∀ xs,SqT K H a xs→xs[i]?=some x,fun i H=>∃ xs,SqT K H a xs∧xs.length ≤ i⟩
noncomputable def Itr (lo:Int) (n:Nat):It:=⟨fun i _=>i < n,fun i H x H'=>H'=H∧x=.int (lo+i),fun i _=>n ≤ i⟩
theorem turn_list {P:Program} {w:World} {K:PySem.W.Frag} {tg:Expr} (a it:Addr):Turn P w K tg (Itl K a) [it] it (fun i h=>h.IsListIter it a i) where
 mem:=by simp
 obj:=fun i h st b hb=>by
  have e:b=it:=by simpa using hb
  subst e
  obtain ⟨o,e,c,d⟩:=st
  exact ⟨o,e,fun v z=>by rw [d] at z; cases z⟩
 keep:=fun i h h' st k=>st.at fun o e=>k it (by simp) o e
 item:=by
  intro X hP hw hK hc i pins s σ H E I hf st hg
  subst hP hw hK
  obtain ⟨xs,x,hq,hx⟩:=hg
  obtain ⟨its,rv,p,hz⟩:=I.list hq
  obtain ⟨u,hu,ru⟩:=rv.get hx
  obtain ⟨f0,f1,f2,f3,f4,f5⟩:=hf it (by simp)
  refine wpAny_pyNext_list_item st p.isList (x:=u) (by simpa using hu) fun h' st' sb=>?_
  have I1:Inv X pins σ H { s with heap:=h' }:=I.turned (t':=s.toks) (fun b o hb e=>(sb.2 b hb).trans e) f0 f1 f3 f4 f5
  obtain ⟨o,e,c,d⟩:=id st'
  exact ⟨u,rfl,go_of (s:={ s with heap:=h' }) e c d (by decide) ⟨x,H,I1,ru,⟨rfl,fun ys hy=>by rw [I.list_inj hy hq]; exact hx⟩,st',fun b hb=>(hf b hb).1⟩⟩
 done:=by
  intro X hP hw hK hc i pins s σ H E I hf st hg
  subst hP hw hK
  obtain ⟨xs,hq,hx⟩:=hg
  obtain ⟨its,rv,p,hz⟩:=I.list hq
  obtain ⟨f0,f1,f2,f3,f4,f5⟩:=hf it (by simp)
  have hl:=rv.length
  exact wpAny_pyNext_list_end (I.ok.hd hc) st p.isList (by simp; omega) fun h' eb=>⟨rfl,I.turned (t':=s.toks) (fun b o hb e=>eb b o hb e) f0 f1 f3 f4 f5⟩
 self:=fun _ _ _ _ _ st h=>wpAny_pyIter_listiter st h
theorem turn_tuple {P:Program} {w:World} {K:PySem.W.Frag} {tg:Expr} (a it:Addr):Turn P w K tg (Itt K a) [it] it (fun i h=>h.IsTupleIter it a i) where
 mem:=by simp
 obj:=fun i h st b hb=>by
  have e:b=it:=by simpa using hb
  subst e
  obtain ⟨o,e,c,d⟩:=st
  exact ⟨o,e,fun v z=>by rw [d] at z; cases z⟩
 keep:=fun i h h' st k=>st.at fun o e=>k it (by simp) o e
 item:=by
  intro X hP hw hK hc i pins s σ H E I hf st hg
  subst hP hw hK
  obtain ⟨xs,x,hq,hx⟩:=hg
  obtain ⟨its,rv,p,hz⟩:=I.tuple hq
  obtain ⟨u,hu,ru⟩:=rv.get hx
  obtain ⟨f0,f1,f2,f3,f4,f5⟩:=hf it (by simp)
  refine wpAny_pyNext_tuple_item st (show s.heap.IsTuple a its.toArray from p) (x:=u) (by simpa using hu) fun h' st' sb=>?_
  have I1:Inv X pins σ H { s with heap:=h' }:=I.turned (t':=s.toks) (fun b o hb e=>(sb.2 b hb).trans e) f0 f1 f3 f4 f5
  obtain ⟨o,e,c,d⟩:=id st'
  exact ⟨u,rfl,go_of (s:={ s with heap:=h' }) e c d (by decide) ⟨x,H,I1,ru,⟨rfl,fun ys hy=>by rw [I.tuple_inj hy hq]; exact hx⟩,st',fun b hb=>(hf b hb).1⟩⟩
 done:=by
  intro X hP hw hK hc i pins s σ H E I hf st hg
  subst hP hw hK
  obtain ⟨xs,hq,hx⟩:=hg
  obtain ⟨its,rv,p,hz⟩:=I.tuple hq
  obtain ⟨f0,f1,f2,f3,f4,f5⟩:=hf it (by simp)
  have hl:=rv.length
  exact wpAny_pyNext_tuple_end (I.ok.hd hc) st (show s.heap.IsTuple a its.toArray from p) (by simp; omega) fun h' eb=>⟨rfl,I.turned (t':=s.toks) (fun b o hb e=>eb b o hb e) f0 f1 f3 f4 f5⟩
 self:=fun _ _ _ _ _ st h=>wpAny_pyIter_tupleiter st h
theorem turn_range {P:Program} {w:World} {K:PySem.W.Frag} {tg:Expr} (it:Addr) (lo:Int) (n:Nat):Turn P w K tg (Itr lo n) [it] it (fun i h=>IsRangeIter h it (lo+(i:Nat) * 1) ((n:Int) - (i:Nat)) 1) where
 mem:=by simp
 obj:=fun i h st b hb=>by
  have e:b=it:=by simpa using hb
  subst e
  exact ⟨_,st,fun v z=>by
   have z':Data.fields _=Data.cell v:=z
   cases z'⟩
 keep:=fun i h h' st k=>k it (by simp) _ st
 item:=by
  intro X hP hw hK hc i pins s σ H E I hf st hg
  subst hP hw hK
  obtain ⟨f0,f1,f2,f3,f4,f5⟩:=hf it (by simp)
  have W:=Walks.range (prog:=X.prog) (w:=X.w) (I.ok.hd hc) it lo 1 n
  refine W.item i s _ _ hg st fun v h' tk hv st' kk=>?_
  obtain ⟨t,rfl⟩:=hv
  have I1:Inv X pins σ H { s with heap:=h',toks:=tk }:=I.turned (fun b o hb e=>kk b o (by simpa using hb) e) f0 f1 f3 f4 f5
  refine ⟨_,rfl,go_of (s:={ s with heap:=h',toks:=tk }) (n:="range_iterator") st' rfl rfl (by decide) ⟨.int (lo+i),H,I1,⟨t,?_⟩,⟨rfl,rfl⟩,st',fun b hb=>(hf b hb).1⟩⟩
  rw [Int.mul_one]
 done:=by
  intro X hP hw hK hc i pins s σ H E I hf st hg
  subst hP hw hK
  obtain ⟨f0,f1,f2,f3,f4,f5⟩:=hf it (by simp)
  exact wpAny_pyNext_range_end (I.ok.hd hc) st (by have:n ≤ i:=hg; omega) fun h' eb=>⟨rfl,I.turned (t':=s.toks) (fun b o hb e=>eb b o hb e) f0 f1 f3 f4 f5⟩
 self:=fun _ _ _ _ _ st h=>wpAny_pyIter_rangeiter st h
end L2
namespace L2
open PySem PySem.Spec PyProof.Rows
section
variable {X:Cx} {tg:Expr}
noncomputable def iList (K:PySem.W.Frag) (tl:TE):TI:=fun σ H R=>tl σ H fun x H1=>∃ a,x=.ref a∧(∃ xs,SqL K H1 a xs)∧R (Itl K a) H1
noncomputable def iTup (K:PySem.W.Frag) (tl:TE):TI:=fun σ H R=>tl σ H fun x H1=>∃ a,x=.ref a∧(∃ xs,SqT K H1 a xs)∧R (Itt K a) H1
theorem pi_list {l:Expr} {tl:TE} (hl:PE X l tl):PI X tg l (iList X.K tl):=by
 intro pins s σ H R I h
 refine thn (hl pins s σ H _ I h) fun v s1 ⟨x,H1,I1,r1,q1⟩=>?_
 obtain ⟨a,e,⟨xs,hq⟩,q⟩:=q1
 subst e
 cases r1
 obtain ⟨its,rv,p,hz⟩:=I1.list hq
 refine wpAny_pyIter_list p.isList ?_
 refine ⟨s1.heap.objs.size,[s1.heap.objs.size],_,_,H1,rfl,I1.kept (t':=s1.toks) fun b o e=>Heap.get?_push_of_some _ e,turn_list a _,⟨_,Heap.get?_push_size _ rfl,rfl,rfl⟩,fun b hb=>?_,q⟩
 have e:b=s1.heap.objs.size:=by simpa using hb
 subst e
 exact I1.fpOk (Nat.le_refl _) (I1.hok.fresh (Nat.le_refl _))
theorem pi_tup {l:Expr} {tl:TE} (hl:PE X l tl):PI X tg l (iTup X.K tl):=by
 intro pins s σ H R I h
 refine thn (hl pins s σ H _ I h) fun v s1 ⟨x,H1,I1,r1,q1⟩=>?_
 obtain ⟨a,e,⟨xs,hq⟩,q⟩:=q1
 subst e
 cases r1
 obtain ⟨its,rv,p,hz⟩:=I1.tuple hq
 refine wpAny_pyIter_tuple (show s1.heap.IsTuple a its.toArray from p) ?_
 refine ⟨s1.heap.objs.size,[s1.heap.objs.size],_,_,H1,rfl,I1.kept (t':=s1.toks) fun b o e=>Heap.get?_push_of_some _ e,turn_tuple a _,⟨_,Heap.get?_push_size _ rfl,rfl,rfl⟩,fun b hb=>?_,q⟩
 have e:b=s1.heap.objs.size:=by simpa using hb
 subst e
 exact I1.fpOk (Nat.le_refl _) (I1.hok.fresh (Nat.le_refl _))
theorem range_it {pins:List (Addr×Obj)} {σ:St} {H:Hp} {s:Shared} {R:It→Hp→Prop} {E:Value→Shared→Prop} {lo hi:Int} {t u v:Tok} {tk:Nat} (I:Inv X pins σ H s) (h1:-(2 ^ 62) ≤ lo) (h2:lo < 2 ^ 62) (h3:-(2 ^ 62) ≤ hi) (h4:hi < 2 ^ 62)
  (q:R (Itr lo (hi - lo).toNat) H):wpAny (model X.prog X.w) X.A (pyIter (.ref s.heap.objs.size)) (PIE X pins σ tg R) E { s with heap:=s.heap.push { cls:=.type "range",data:=.fields #[.int lo t,.int hi u,.int 1 v] },toks:=tk }:=by
 refine wpAny_pyIter_range (IsRange.new ..) (small_one h1 h2 h3 h4) ?_
 have I1:Inv X pins σ H { s with heap:=s.heap.push { cls:=.type "range",data:=.fields #[.int lo t,.int hi u,.int 1 v] },toks:=tk }:=I.kept fun b o e=>Heap.get?_push_of_some _ e
 refine ⟨(s.heap.push { cls:=.type "range",data:=.fields #[.int lo t,.int hi u,.int 1 v] }).objs.size,[(s.heap.push { cls:=.type "range",data:=.fields #[.int lo t,.int hi u,.int 1 v] }).objs.size],_,_,H,rfl,
  I1.kept (t':=tk) fun b o e=>Heap.get?_push_of_some _ e,turn_range _ lo (hi - lo).toNat,?_,fun b hb=>?_,q⟩
 ·have e1:lo+((0:Nat):Int) * 1=lo:=by simp
  have e2:(((hi - lo).toNat:Nat):Int) - ((0:Nat):Int)=Builtin.Range.rangeSize lo hi 1:=by rw [rangeSize_one]; split <;> omega
  show IsRangeIter _ _ (lo+((0:Nat):Int) * 1) ((((hi - lo).toNat:Nat):Int) - ((0:Nat):Int)) 1
  rw [e1,e2]
  exact Heap.get?_push_size _ rfl
 ·have e:b=(s.heap.push { cls:=.type "range",data:=.fields #[.int lo t,.int hi u,.int 1 v] }).objs.size:=by simpa using hb
  subst e
  exact I1.fpOk (Nat.le_refl _) (I1.hok.fresh (Nat.le_refl _))
noncomputable def iRng1 (ta:TA):TI:=fun σ H R=>ta σ H fun vs H1=>∃ j:Int,vs=[.int j]∧-(2 ^ 62) ≤ j∧j < 2 ^ 62∧R (Itr 0 j.toNat) H1
theorem pi_range1 {a:Expr} {ta:TA} {p pos:Pos} (hg:Gl X "range") (hm:X.mg "range"=none) (ha:PA X [a] ta) (hs:starEach [a] X.env=[(false,eval a X.env)]:=by rfl):PI X tg (.Call (.Name "range" p) [a] [] pos) (iRng1 ta):=by
 intro pins s σ H R I h
 refine Call_ (ld_blt I hg hm boot_range (PyProof.Rows.callWith_type1 (thn (ha pos pins s σ H _ I h) fun us s1 ⟨vs,H1,I1,r1,q1⟩=>?_) hs rfl))
 obtain ⟨j,e,q1,q2,q⟩:=q1
 subst e
 cases r1 with
 | cons r rr =>
  cases rr
  obtain ⟨t,rfl⟩:=r
  exact call_range_1 (range_it I1 (by omega) (by omega) q1 q2 (by simpa using q))
noncomputable def tFor (wi:TI) (g:TG) (tb:TS):TS:=fun D σ H=>wi σ H fun J H1=>∃ W:Nat→Nat→St→Hp→Prop,(∃ m,W 0 m σ H1)∧∀ i m σ H,W i m σ H →
 (J.stop i H∧D.nx σ H)∨(J.go i H∧∃ N:St→Hp→Prop,(∀ σ' H',N σ' H'→∃ m',m' < m∧W (i+1) m' σ' H')∧∀ x H',J.yld i H x H'→g x σ H' fun σ2 H2=>tb { D with nx:=N,ct:=N,bk:=D.nx } σ2 H2)
noncomputable def pinsAt (fp:List Addr) (h:Heap):List (Addr×Obj):=fp.filterMap fun b=>(h.get? b).map fun o=>(b,o)
theorem mem_pinsAt {fp:List Addr} {h:Heap} {b:Addr} {o:Obj} (hb:b∈fp) (e:h.get? b=some o):(b,o)∈pinsAt fp h:=List.mem_filterMap.mpr ⟨b,hb,by rw [e]; rfl⟩
theorem of_pinsAt {fp:List Addr} {h:Heap} {p:Addr×Obj} (hp:p∈pinsAt fp h):p.1∈fp∧h.get? p.1=some p.2:=by
 obtain ⟨b,hb,e⟩:=List.mem_filterMap.mp hp
 cases q:h.get? b with
 | none=>rw [q] at e; cases e
 | some o =>
  rw [q] at e
  have e':(b,o)=p:=Option.some.inj e
  subst e'
  exact ⟨hb,q⟩
theorem Inv.pinned {pins:List (Addr×Obj)} {σ:St} {H:Hp} {s:Shared} {fp:List Addr} (I:Inv X pins σ H s) (hf:∀ b∈fp,FpOk X pins H b) (ho:∀ b∈fp,∃ o,s.heap.get? b=some o∧∀ v,o.data≠.cell v):Inv X (pins++pinsAt fp s.heap) σ H s :=
 I.pins_of fun p hp=>(List.mem_append.mp hp).elim (fun z=>I.pin p (List.mem_append_right _ z)) fun z=>by
  obtain ⟨hb,e⟩:=of_pinsAt z
  obtain ⟨f0,f1,f2,_⟩:=hf p.1 hb
  obtain ⟨o,e',d⟩:=ho p.1 hb
  rw [e] at e'; cases e'
  exact ⟨e,f0,f1,f2,d⟩
theorem Inv.unpinned {pins pl:List (Addr×Obj)} {σ:St} {H:Hp} {s:Shared} (I:Inv X (pins++pl) σ H s):Inv X pins σ H s:=I.pins_of fun p hp=>I.pin p (List.mem_append_right _ (List.mem_append_left _ hp))
theorem ps_for {iter:Expr} {body:List Stmt} {wi:TI} {g:TG} {tb:TS} {pos:Pos} (hp:PassesOwn (model X.prog X.w) X.A X.env X.xe) (hc:X.calm=true) (hi:PI X tg iter wi) (hg:PG X tg g) (hb:PSs X body tb)
  (hs:∀ x,foldedSetIterable iter X.env x=pure x:=by intro _; rfl):PS X (.For tg iter body [] pos) (tFor wi g tb):=by
 intro pins s σ H D I h
 refine wpAny_For (thn (hi pins s σ H _ I h) fun v s1 h1=>thn h1 fun itv s2 h2=>?_) hs
 obtain ⟨it,fp,tn,J,H2,e,I2,T,st2,f2,W,⟨m0,w0⟩,turn⟩:=h2
 subst e
 -- what stays true of the iterator's objects through the loop
 have stat:∀ {H':Hp},(∀ b∈fp,H' b=none)→∀ b∈fp,FpOk X pins H' b:=fun hn b hb=>⟨hn b hb,(f2 b hb).2⟩
 refine codeAny_forLoop_any (fun n s'=>∃ i σ' H',Inv X pins σ' H' s'∧tn i s'.heap∧(∀ b∈fp,H' b=none)∧W i n σ' H') ?_ m0 ⟨0,σ,H2,I2,st2,fun b hb=>(f2 b hb).1,w0⟩
 rintro n s3 ⟨i,σ3,H3,I3,st3,fr3,w3⟩
 rcases turn i n σ3 H3 w3 with ⟨stop,qn⟩|⟨go,N,hN,step⟩
 ·refine wpAny_passesOwn hp (thn (T.done X rfl rfl rfl hc i pins s3 σ3 H3 X.xe I3 (stat fr3) st3 stop) fun r s4 ⟨hr,I4⟩=>?_)
  subst hr
  exact wpAny_execs_nil ⟨σ3,H3,I4,qn⟩
 ·refine wpAny_passesOwn hp (thn (T.item X rfl rfl rfl hc i pins s3 σ3 H3 X.xe I3 (stat fr3) st3 go) fun r s4 ⟨u,hr,h4⟩=>?_)
  subst hr
  refine wpAny_passesOwn hp (thn h4 fun _ s5 ⟨x,H5,I5,r5,y5,st5,fr5⟩=>?_)
  have I5':=I5.pinned (stat fr5) (T.obj _ _ st5)
  refine wpAny_passesOwn hp (thn (hg _ s5 σ3 H5 x u _ I5' r5 (step x H5 y5)) fun _ s6 ⟨σ6,H6,I6,q6⟩=>?_)
  refine wpAny_passesOwn hp (thn (hb _ s6 σ6 H6 _ I6 q6) fun f s7 q7=>?_)
  have again:∀ {σ7:St} {H7:Hp},Inv X (pins++pinsAt fp s5.heap) σ7 H7 s7→N σ7 H7→∃ m,m < n∧∃ i σ' H',Inv X pins σ' H' s7∧tn i s7.heap∧(∀ b∈fp,H' b=none)∧W i m σ' H':=fun {σ7 H7} I7 n7=>by
   obtain ⟨m',hm,w7⟩:=hN σ7 H7 n7
   refine ⟨m',hm,i+1,σ7,H7,I7.unpinned,T.keep _ _ _ st5 fun b hb o e=>(I7.pin (b,o) (List.mem_append_right _ (List.mem_append_right _ (mem_pinsAt hb e)))).1,fun b hb=>?_,w7⟩
   obtain ⟨o,e,d⟩:=T.obj _ _ st5 b hb
   exact (I7.pin (b,o) (List.mem_append_right _ (List.mem_append_right _ (mem_pinsAt hb e)))).2.1
  cases f with
  | next=>obtain ⟨σ7,H7,I7,n7⟩:=q7; exact again I7 n7
  | cont=>obtain ⟨σ7,H7,I7,n7⟩:=q7; exact again I7 n7
  | brk=>obtain ⟨σ7,H7,I7,q7⟩:=q7; exact ⟨σ7,H7,I7.unpinned,q7⟩
  | ret v=>obtain ⟨x7,σ7,H7,I7,r7,q7⟩:=q7; exact ⟨x7,σ7,H7,I7.unpinned,r7,q7⟩
end
end L2
namespace L2
open PySem PySem.Spec PyProof.Rows
noncomputable abbrev R2:=V→V→Hp→VK→Prop
noncomputable def OpR (X:Cx) (f:Value→Value→Sem Value) (r:R2):Prop :=
 ∀ (pins:List (Addr×Obj)) (s:Shared) (σ:St) (H:Hp) (x y:V) (v u:Value) (Q:VK),Inv X pins σ H s→RelV x v→RelV y u→r x y H Q →
  wpAny (model X.prog X.w) X.A (f v u) (EP X pins σ Q) X.xe s
noncomputable def CallR (X:Cx) (f:Value) (r:List V→Hp→VK→Prop):Prop :=
 ∀ (pins:List (Addr×Obj)) (s:Shared) (σ:St) (H:Hp) (xs:List V) (us:List Value) (Q:VK),Inv X pins σ H s→Vals xs us→r xs H Q →
  wpAny (model X.prog X.w) X.A (call f us) (EP X pins σ Q) X.xe s
noncomputable def TruR (X:Cx) (r:V→Hp→(Bool→Hp→Prop)→Prop):Prop :=
 ∀ (pins:List (Addr×Obj)) (s:Shared) (σ:St) (H:Hp) (x:V) (v:Value) (Q:Bool→Hp→Prop),Inv X pins σ H s→RelV x v→r x H Q →
  wpAny (model X.prog X.w) X.A (truthy v) (TP X pins σ Q) X.xe s
noncomputable def tOp (r:R2) (ta tb:TE):TE:=fun σ H Q=>ta σ H fun x H1=>tb σ H1 fun y H2=>r x y H2 Q
noncomputable def rI (C:Int→Int→Prop) (g:Int→Int→V):R2:=fun x y H Q=>∃ i j,x=.int i∧y=.int j∧C i j∧Q (g i j) H
noncomputable def rI0 (g:Int→Int→V):R2:=fun x y H Q=>∃ i j,x=.int i∧y=.int j∧Q (g i j) H
section
variable {X:Cx} {a b c:Expr} {ta tb tc:TE} {pos:Pos}
theorem binT (ha:PE X a ta) (hb:PE X b tb) {pins:List (Addr×Obj)} {s:Shared} {σ:St} {H:Hp} {R:V→V→Hp→Prop} (I:Inv X pins σ H s)
  (h:ta σ H fun x H1=>tb σ H1 fun y H2=>R x y H2) {Q:Value→Shared→Prop} {f:Value→Value→Sem Value}
  (hf:∀ v u s2 x y H2,Inv X pins σ H2 s2→RelV x v→RelV y u→R x y H2→wpAny (model X.prog X.w) X.A (f v u) Q X.xe s2) :
  wpAny (model X.prog X.w) X.A (eval a X.env) (fun v s₁=>wpAny (model X.prog X.w) X.A (eval b X.env) (fun u s₂=>wpAny (model X.prog X.w) X.A (f v u) Q X.xe s₂) X.xe s₁) X.xe s:=by
 refine thn (ha pins s σ H _ I h) fun v s1 ⟨x,H1,I1,r1,q1⟩=>?_
 refine thn (hb pins s1 σ H1 _ I1 q1) fun u s2 ⟨y,H2,I2,r2,q2⟩=>?_
 exact hf v u s2 x y H2 I2 r1 r2 q2
theorem augR {op:Operator} {r:R2} (ho:OpR X (inplaceOp op) r) {pins:List (Addr×Obj)} {s:Shared} {σ:St} {H:Hp} {x y:V} {v u:Value} {Q:VK} (I:Inv X pins σ H s)
  (rx:RelV x v) (ry:RelV y u) (q:r x y H Q):wpAny (model X.prog X.w) X.A (inplaceOp op v u) (EP X pins σ Q) X.xe s:=ho pins s σ H x y v u Q I rx ry q
theorem opI {f:Value→Value→Sem Value} {C:Int→Int→Prop} {g:Int→Int→Int}
  (rule:∀ (i j:Int) (t u:Tok) (s:Shared) (Q:Value→Shared→Prop) (E:Value→Shared→Prop),C i j→Q (.int (g i j) s.toks) { s with toks:=s.toks+1 }→wpAny (model X.prog X.w) X.A (f (.int i t) (.int j u)) Q E s) :
  OpR X f (rI C fun i j=>.int (g i j)):=by
 intro pins s σ H x y v u Q I rx ry h
 obtain ⟨i,j,rfl,rfl,hc,q⟩:=h
 obtain ⟨t,rfl⟩:=rx
 obtain ⟨t',rfl⟩:=ry
 exact rule i j t t' s _ _ hc ⟨.int (g i j),H,I.tok _,⟨_,rfl⟩,q⟩
theorem opI0 {f:Value→Value→Sem Value} {g:Int→Int→Int}
  (rule:∀ (i j:Int) (t u:Tok) (s:Shared) (Q:Value→Shared→Prop) (E:Value→Shared→Prop),Q (.int (g i j) s.toks) { s with toks:=s.toks+1 }→wpAny (model X.prog X.w) X.A (f (.int i t) (.int j u)) Q E s) :
  OpR X f (rI0 fun i j=>.int (g i j)):=by
 intro pins s σ H x y v u Q I rx ry h
 obtain ⟨i,j,rfl,rfl,q⟩:=h
 obtain ⟨t,rfl⟩:=rx
 obtain ⟨t',rfl⟩:=ry
 exact rule i j t t' s _ _ ⟨.int (g i j),H,I.tok _,⟨_,rfl⟩,q⟩
theorem opB0 {f:Value→Value→Sem Value} {g:Int→Int→Bool}
  (rule:∀ (i j:Int) (t u:Tok) (s:Shared) (Q:Value→Shared→Prop) (E:Value→Shared→Prop),Q (.bool (g i j)) s→wpAny (model X.prog X.w) X.A (f (.int i t) (.int j u)) Q E s) :
  OpR X f (rI0 fun i j=>.bl (g i j)):=by
 intro pins s σ H x y v u Q I rx ry h
 obtain ⟨i,j,rfl,rfl,q⟩:=h
 obtain ⟨t,rfl⟩:=rx
 obtain ⟨t',rfl⟩:=ry
 exact rule i j t t' s _ _ ⟨.bl (g i j),H,I,rfl,q⟩
noncomputable def CDiv (i j:Int):Prop:=0 < j∧j < 1073741824
noncomputable def CMul (i j:Int):Prop:=(-(2 ^ 64) < i∧i < 2 ^ 64)∨(-(2 ^ 64) < j∧j < 2 ^ 64)
theorem CMul.ok {i j:Int} (h:CMul i j):IntMulOk i j:=by
 rcases h with ⟨h1,h2⟩|⟨h1,h2⟩
 ·exact .of_left (intBits_le_64 h1 h2)
 ·exact .of_right (intBits_le_64 h1 h2)
theorem op_add:OpR X (binaryOp .Add) (rI0 fun i j=>.int (i+j)):=opI0 fun _ _ _ _ _ _ _ q=>add_int q
theorem op_sub:OpR X (binaryOp .Sub) (rI0 fun i j=>.int (i - j)):=opI0 fun _ _ _ _ _ _ _ q=>sub_int q
theorem op_mul:OpR X (binaryOp .Mult) (rI CMul fun i j=>.int (i * j)):=opI fun _ _ _ _ _ _ _ hc q=>mul_int q hc.ok
theorem op_fdiv:OpR X (binaryOp .FloorDiv) (rI CDiv fun i j=>.int (i / j)):=opI fun i j _ _ _ _ _ hc q=>by
 have h1:(0:Int) < j:=hc.1
 have h2:j < 1073741824:=hc.2
 exact floordiv_int (by omega) (by rw [Int.fdiv_eq_ediv_of_nonneg i (by omega)]; exact q) (.inl (PyProof.noPylong_small (by omega)))
theorem op_mod:OpR X (binaryOp .Mod) (rI (fun _ j=>0 < j) fun i j=>.int (i % j)):=opI fun i j _ _ _ _ _ hc q=>by
 have h1:(0:Int) < j:=hc
 exact mod_int' (by omega) (by rw [Int.fmod_eq_emod_of_nonneg i (by omega)]; exact q)
theorem iop_add:OpR X (inplaceOp .Add) (rI0 fun i j=>.int (i+j)):=opI0 fun _ _ _ _ _ _ _ q=>iadd_int q
end
section
variable {X:Cx} {a b c:Expr} {ta tb tc:TE} {pos:Pos}
theorem fin_bl {pins:List (Addr×Obj)} {σ:St} {H:Hp} {s:Shared} {Q:VK} {k k':Bool} (I:Inv X pins σ H s) (q:Q (.bl k) H) (e:k=k'):EP X pins σ Q (.bool k') s:=by
 subst e
 exact ⟨.bl k,H,I,rfl,q⟩
theorem op_lt:OpR X (compareOp .Lt) (rI0 fun i j=>.bl (decide (i < j))):=opB0 fun _ _ _ _ _ _ _ q=>lt_int q
theorem op_gt:OpR X (compareOp .Gt) (rI0 fun i j=>.bl (decide (j < i))):=opB0 fun _ _ _ _ _ _ _ q=>gt_int q
theorem op_isN:OpR X (compareOp .Is) (fun x y H Q=>y=.non∧Q (.bl (decide (x=.non))) H):=by
 intro pins s σ H x y v u Q I rx ry h
 obtain ⟨rfl,q⟩:=h
 cases ry
 refine is_none_gen (fin_bl I q ?_)
 cases x <;> first
  | (cases rx; rfl)
  | (obtain ⟨t,rfl⟩:=rx; rfl)
theorem op_notN:OpR X (compareOp .IsNot) (fun x y H Q=>y=.non∧Q (.bl (!decide (x=.non))) H):=by
 intro pins s σ H x y v u Q I rx ry h
 obtain ⟨rfl,q⟩:=h
 cases ry
 refine isnot_none_gen (fin_bl I q ?_)
 cases x <;> first
  | (cases rx; rfl)
  | (obtain ⟨t,rfl⟩:=rx; rfl)
noncomputable def TruV (K:PySem.W.Frag) (x:V) (H:Hp) (k:Bool):Prop :=
 match x with
 | .non=>k=false
 | .bl b=>k=b
 | .int i=>k=(i != 0)
 | .str y=>y.length ≤ sizeLine∧k=((y.length:Int) != 0)
 | .byt y=>y.size ≤ sizeLine∧k=((y.size:Int) != 0)
 | .ref p=>(∃ xs,SqL K H p xs∧k=!xs.isEmpty)∨(∃ xs,SqT K H p xs∧k=!xs.isEmpty)∨∃ kvs,H p=some (.dK kvs)∧k=!kvs.isEmpty
 | _=>False
theorem isEmpty_kv {κ:Type} {kvs:List (κ×V)} {vs:List (κ×Value)} (r:KV kvs vs):(!vs.isEmpty)=!kvs.isEmpty:=by
 cases r <;> rfl
theorem isEmpty_of {xs:List V} {its:List Value} (r:Vals xs its):(!its.toArray.isEmpty)=!xs.isEmpty:=by
 cases r <;> simp
theorem line63:(sizeLine:Nat) < 2 ^ 63:=by rw [sizeLine_eq]; decide
theorem tru_ok:TruR X (fun x H Q=>∃ k,TruV X.K x H k∧Q k H):=by
 intro pins s σ H x v Q I rx h
 obtain ⟨k,e,q⟩:=h
 have hl:=line63
 have hs:sizeLine=16777216:=sizeLine_eq
 cases x with
 | non =>
  cases rx
  have e':k=false:=e
  subst e'
  exact truthy_none ⟨H,I,q⟩
 | bl b =>
  cases rx
  have e':k=b:=e
  subst e'
  exact wpAny_truthy_bool ⟨H,I,q⟩
 | int i =>
  obtain ⟨t,rfl⟩:=rx
  have e':k=(i != 0):=e
  subst e'
  exact PySem.P.truthy_int ⟨H,I,q⟩
 | str y =>
  obtain ⟨t,rfl⟩:=rx
  obtain ⟨hy,e'⟩:y.length ≤ sizeLine∧k=((y.length:Int) != 0):=e
  subst e'
  exact PySem.P.truthy_str (by omega) ⟨H,I.tok _,q⟩
 | byt y =>
  obtain ⟨t,rfl⟩:=rx
  obtain ⟨hy,e'⟩:y.size ≤ sizeLine∧k=((y.size:Int) != 0):=e
  subst e'
  exact PySem.W.truthy_bytes (by omega) ⟨H,I.tok _,q⟩
 | ref p =>
  cases rx
  have e':(∃ xs,SqL X.K H p xs∧k=!xs.isEmpty)∨(∃ xs,SqT X.K H p xs∧k=!xs.isEmpty)∨∃ kvs,H p=some (.dK kvs)∧k=!kvs.isEmpty:=e
  rcases e' with ⟨xs,hx,e'⟩|⟨xs,hx,e'⟩|⟨kvs,hx,e'⟩
  ·subst e'
   obtain ⟨its,r,pl,hz⟩:=I.list hx
   have hlen:=r.length
   exact wpAny_truthy_list pl.isList (by simp only [List.size_toArray]; omega) ⟨H,I.tok _,by rw [isEmpty_of r]; exact q⟩
  ·subst e'
   obtain ⟨its,r,pl,hz⟩:=I.tuple hx
   have hlen:=r.length
   exact truthy_tuple pl (by simp only [List.size_toArray]; omega) ⟨H,I.tok _,by rw [isEmpty_of r]; exact q⟩
  ·subst e'
   obtain ⟨hz,hS,vs,r,m⟩:kvs.length ≤ sizeLine∧(p == sysModules)=false∧∃ vs,KV kvs vs∧s.heap.DictOf (mixKind X.prog X.w) p vs:=I.hok p _ hx
   have hlen:kvs.length=vs.length:=Paired.length r
   exact wpAny_truthy_dict hS m (by omega) ⟨H,I.tok _,by rw [isEmpty_kv r]; exact q⟩
 | _=>exact (show False from e).elim
theorem vals1 {x:V} {us:List Value} (r:Vals [x] us):∃ u,us=[u]∧RelV x u:=by
 cases r with
 | cons r1 r2=>cases r2; exact ⟨_,rfl,r1⟩
end
end L2
namespace L2
open PySem PySem.Spec PyProof.Rows
section
variable {prog:Program} {w:World} {A:Around} {E:Value→Shared→Prop} {s:Shared} {K:PySem.W.Frag} {x dx C f:Addr} {mA:Str→Option Value} {name:Str} {v:Value}
end
theorem RelO.some_of {v:V} {o:Option Value} (r:RelO (some v) o):∃ u,o=some u∧RelV v u:=by
 cases o with
 | none=>exact (show False from r).elim
 | some u=>exact ⟨u,rfl,r⟩
section
variable {P:Program} {w:World} {H H':Hp} {h h':Heap} {a C dx:Addr} {fs fs':List (Str×V)}
end
structure Cls (K:PySem.W.Frag) (C:Addr):Prop where
 pg:PySem.W.plainGet K C Str.empty=true
 hd:PySem.W.hasDictIn K C=true
 po:PySem.W.plainOver K C=true
 sa:PySem.W.findIn K (.ref C) "__setattr__"=some (some (.builtin "object.__setattr__"))
theorem Cls.get {K:PySem.W.Frag} {C:Addr} (c:Cls K C) (f:Str):PySem.W.plainGet K C f=true:=c.pg
section
variable {X:Cx} {pins:List (Addr×Obj)} {σ:St} {H:Hp} {s:Shared} {a C dx:Addr} {fs:List (Str×V)} {f:Str} {v:V} {A:Around} {E:Value→Shared→Prop}
end
section
variable {X:Cx} {o e value:Expr} {f:Str} {pos pos' tpos:Pos} {ta tv:TE}
end
section
variable {X:Cx} {pins:List (Addr×Obj)} {σ:St} {H:Hp} {s:Shared} {A:Around} {E:Value→Shared→Prop} {Q:Value→Shared→Prop} {c:Value} {b:Bool}
end
end L2
namespace L2
open PySem PySem.Spec PyProof.Rows
structure Room (k:Nat) (A:Around):Prop where
 hd:A.handled=none
 dp:A.depth+3 * k+5 < recursionLimit
 un:A.units+16 * k+200 < cLine
theorem Room.mono {j k:Nat} {A:Around} (r:Room k A) (h:j ≤ k):Room j A:=⟨r.hd,by have:=r.dp; omega,by have:=r.un; omega⟩
theorem Room.deeper {k:Nat} {A:Around} (r:Room (k+1) A) (env:Env):Room k (A.deeper env) :=
 ⟨r.hd,by have:=r.dp; show A.depth+1+3 * k+5 < _; omega,by have:=r.un; show A.units+3+16 * k+200 < _; omega⟩
theorem Room.depth {k:Nat} {A:Around} (r:Room k A):A.depth < recursionLimit:=by have:=r.dp; omega
noncomputable def tNil:TA:=fun _ H Q=>Q [] H
noncomputable def tCons (ta:TE) (tr:TA):TA:=fun σ H Q=>ta σ H fun x H1=>tr σ H1 fun xs H2=>Q (x::xs) H2
section
variable {X:Cx} {e:Expr} {es:List Expr} {te:TE} {t:TA} {pos:Pos}
theorem pa_nil:PA X [] tNil:=fun _ _ _ _ H Q I h=>Calls.spliced_nil ⟨[],H,I,.nil,h⟩
theorem pa_cons (ha:PE X e te) (hr:PA X es t) (hs:starEach (e::es) X.env=(false,eval e X.env)::starEach es X.env:=by rfl):PA X (e::es) (tCons te t):=by
 intro pos pins s σ H Q I h
 rw [hs]
 show wpAny _ _ (spliced ((false,eval e X.env)::backTo pos (starEach es X.env))) _ _ s
 refine Calls.spliced_cons (thn (ha pins s σ H _ I h) fun u s1 ⟨x,H1,I1,r1,q1⟩=>?_)
 exact thn (hr pos pins s1 σ H1 _ I1 q1) fun us s2 ⟨xs,H2,I2,r2,q2⟩=>⟨x::xs,H2,I2,.cons r1 r2,q2⟩
noncomputable def tTup (t:TA):TE:=fun σ H Q=>t σ H fun xs H1=>xs.length ≤ sizeLine∧∀ p,H1 p=none→Q (.ref p) (upd H1 p (.tup xs))
theorem pe_tup {x1} (h:PA X es t):PE X (.Tuple es x1 pos) (tTup t):=by
 intro pins s σ H Q I hq
 refine wpAny_Tuple_spliced (thn (h pos pins s σ H _ I hq) fun us s1 ⟨xs,H1,I1,r,z,q⟩=>⟨by rw [← r.length]; exact z,?_⟩)
 have hf:H1 s1.heap.objs.size=none:=I1.hok.fresh (Nat.le_refl _)
 refine ⟨.ref s1.heap.objs.size,upd H1 s1.heap.objs.size (.tup xs),I1.laid (t':=s1.toks) (fun b u e=>Heap.get?_push_of_some _ e) (Nat.le_refl _) ?_,rfl,q _ hf⟩
 exact ⟨z,us,r,⟨_,Heap.get?_push_size _ rfl,rfl,_,rfl⟩⟩
end
noncomputable abbrev Sp:=List V→Hp→VK→XK→Prop
noncomputable abbrev CXT:=List Env→Hp→Shared→XK→Value→Shared→Prop
structure Env0 (P:Program) (w:World) (K:PySem.W.Frag) (mg:Str→Option Value) (base:Heap) (A:Around) (outer:List Env) (s:Shared) (H:Hp):Prop where
 frames:A.frames=some outer
 mod:Mod K mg base
 bs:∀ b o,base.get? b=some o→s.heap.get? b=some o∧H b=none
 bsz:base.objs.size ≤ s.heap.objs.size
 funs:s.heap.FunFrames base outer
 frf:∀ b∈frs outer,H b=none
 hok:HOk P w H s.heap
 bare:AllBare s.gens
noncomputable def CE (outer:List Env) (P:Program) (w:World) (H:Hp) (s:Shared) (Q:VK) (u:Value) (s':Shared):Prop :=
 ∃ v H',s'.os=s.os∧AllBare s'.gens∧Un (frs outer) [] H H' s.heap s'.heap∧HOk P w H' s'.heap∧RelV v u∧Q v H'
noncomputable def CR (CX:CXT) (outer:List Env) (P:Program) (w:World) (H:Hp) (s:Shared) (Q:VK) (E:XK) (r:Result) (s':Shared):Prop :=
 match r with
 | .ok (.ret u)=>CE outer P w H s Q u s'
 | .ok _=>False
 | .error e=>CX outer H s E e s'
structure FnOk (P:Program) (w:World) (K:PySem.W.Frag) (mg:Str→Option Value) (base:Heap) (CX:CXT) (k:Nat) (f:Addr) (fd:FuncData) (ps:List Str) (sp:Sp):Prop where
 len:∀ vs H Q E,sp vs H Q E→vs.length=ps.length
 run:∀ (A:Around) (outer:List Env) (s:Shared) (H:Hp) (args:Args) (us:List Value) (vs:List V) (Q:VK) (E:XK),Room k A→Env0 P w K mg base A outer s H→BindsTo s fd args (ps.zip us)→Vals vs us→sp vs H Q E →
  codeAny (model P w) A (.call (.ref f) args) (CR CX outer P w H s Q E) s
theorem FnOk.imp {P:Program} {w:World} {K:PySem.W.Frag} {mg:Str→Option Value} {base:Heap} {CX:CXT} {k:Nat} {f:Addr} {fd:FuncData} {ps:List Str} {sp sp':Sp} (F:FnOk P w K mg base CX k f fd ps sp)
  (h:∀ vs H Q E,sp' vs H Q E→sp vs H Q E):FnOk P w K mg base CX k f fd ps sp' :=
 ⟨fun vs H Q E q=>F.len vs H Q E (h _ _ _ _ q),fun A outer s H args us vs Q E hr he hb hv hs=>F.run A outer s H args us vs Q E hr he hb hv (h _ _ _ _ hs)⟩
section
variable {X:Cx} {pins:List (Addr×Obj)} {σ:St} {H:Hp} {s s':Shared}
theorem Inv.env0 (I:Inv X pins σ H s):Env0 X.prog X.w X.K X.mg X.base X.A X.stack s H :=
 ⟨I.ok.frames,I.ok.mod,I.bs,Nat.le_trans I.ok.bsz I.sz,I.stack,I.stkFree,I.hok,I.bare⟩
theorem Inv.after {Q:VK} {u:Value} (I:Inv X pins σ H s) (h:CE X.stack X.prog X.w H s Q u s'):EP X pins σ Q u s':=by
 obtain ⟨v,H',os,bare,un,hok,r,q⟩:=h
 obtain ⟨hh,g,d,t,os'⟩:=s'
 obtain rfl:os'=s.os:=os
 exact ⟨v,H',I.call (h':=hh) (g':=g) (d':=d) (t':=t) (ch:=[]) un hok bare (fun b z=>absurd z (by simp)),r,q⟩
end
noncomputable def tCall (sp:Sp) (dvs:List V) (E:XK) (t:TA):TE:=fun σ H Q=>t σ H fun vs H1=>sp (vs++dvs) H1 Q E
noncomputable def Binds (K:PySem.W.Frag) (fd:FuncData) (ps:List Str) (ds:List Value):Prop :=
 ∀ (s:Shared) (us:List Value),K.In s.heap→(us++ds).length=ps.length→BindsTo s fd ⟨us,[]⟩ (ps.zip (us++ds))
theorem Binds.all {K:PySem.W.Frag} {fd:FuncData} {ps:List Str} (h:∀ us:List Value,us.length=ps.length→bindArgs fd ⟨us,[]⟩=pure (ps.zip us)):Binds K fd ps []:=fun s us _ hl=>by
 rw [List.append_nil] at hl ⊢
 exact .of_eq (h us hl)
noncomputable def Passes (CX:CXT) (X:Cx) (E:XK):Prop:=∀ (pins:List (Addr×Obj)) (σ:St) (H:Hp) (s:Shared) (e:Value) (s':Shared),Inv X pins σ H s→CX X.stack H s E e s'→X.xe e s'
section
variable {X:Cx} {CX:CXT} {k:Nat} {f C:Addr} {fd:FuncData} {ps:List Str} {sp:Sp} {dvs:List V} {ds:List Value} {E:XK} {x m:Str} {p pos apos:Pos} {e o:Expr} {es:List Expr} {ta:TE} {t:TA}
theorem run_fn {pins:List (Addr×Obj)} {σ:St} {H:Hp} {s:Shared} {Q:VK} {us:List Value} {vs:List V} (F:FnOk X.prog X.w X.K X.mg X.base CX k f fd ps sp) (hr:Room k X.A) (hb:Binds X.K fd ps ds) (hd:Vals dvs ds) (hx:Passes CX X E)
  (I:Inv X pins σ H s) (r:Vals vs us) (h:sp (vs++dvs) H Q E):wpAny (model X.prog X.w) X.A (call (.ref f) us) (EP X pins σ Q) X.xe s:=by
 have r2:Vals (vs++dvs) (us++ds):=r.append hd
 have hl:(us++ds).length=ps.length:=by rw [← r2.length]; exact F.len _ _ _ _ h
 refine wpAny_call (codeAny_mono (F.run X.A X.stack s H ⟨us,[]⟩ (us++ds) (vs++dvs) Q E hr I.env0 (hb s us I.kIn hl) r2 h) fun r s' hq=>?_)
 cases r with
 | error e=>exact hx pins σ H s e s' I hq
 | ok fl =>
  cases fl with
  | ret u=>exact I.after hq
  | next=>exact False.elim hq
  | brk=>exact False.elim hq
  | cont=>exact False.elim hq
theorem pe_call (F:FnOk X.prog X.w X.K X.mg X.base CX k f fd ps sp) (hr:Room k X.A) (hg:Gl X x) (hm:X.mg x=some (.ref f)) (hk:PySem.W.keepIn X.K (.ref f)=true) (hb:Binds X.K fd ps ds) (hd:Vals dvs ds) (hx:Passes CX X E)
  (ha:PA X (e::es) t) (hdb:(x == ("__debug__":Str))=false:=by decide) (he:starEach (e::es) X.env=(false,eval e X.env)::starEach es X.env:=by rfl) (hpl:(backTo pos (starEach es X.env)).any (·.1)=false:=by rfl) :
  PE X (.Call (.Name x p) (e::es) [] pos) (tCall sp dvs E t):=by
 intro pins s σ H Q I h
 refine wpAny_Call_Name_kw (ld_glob I hg hm ?_ hdb)
 refine PySem.W.callWith_K (h₀:=X.base) I.ok.mod.kin hk (thn (ha pos pins s σ H _ I h) fun us s1 ⟨vs,H1,I1,r,q⟩=>⟨I1.kIn,?_⟩) he hpl
 exact run_fn F hr hb hd hx I1 r q
end
section
variable {X:Cx} {CX:CXT} {k:Nat} {f C:Addr} {fd:FuncData} {ps ks:List Str} {sp:Sp} {E:XK} {x m:Str} {p pos apos kpos:Pos} {e o:Expr} {es:List Expr} {kws:List Keyword} {te ta:TE} {t tk:TA} {nm:Option Str}
variable {g:List Value→List Value→List Value} {gV:List V→List V→List V}
end
structure FnScope (N P:List Str) (sc:Scope):Prop where
 kind:sc.kind=.function
 co:sc.isCoroutine=false
 gen:sc.isGenerator=false
 nd:N.Nodup
 pre:N.take P.length=P
 par:∀ x∈P,sc.names.lookup x=some .local∨sc.names.lookup x=some .cell
 nofree:∀ y∈sc.names,y.2≠.free
theorem bindL_out {kindOf:Str→Option NameKind} {x:Str}:∀ {binds:List (Str×Value)} {m:Str→Option Value},(∀ v,(x,v) ∉ binds)→bindL kindOf binds m x=m x
 | [],_,_=>rfl
 | (n,v)::r,m,h=>by
  unfold bindL
  rw [bindL_out fun w hw=>h w (List.mem_cons_of_mem _ hw)]
  split
  ·have:x≠n:=by rintro rfl; exact h v List.mem_cons_self
   simp [this]
  ·rfl
theorem bindC_out {kindOf:Str→Option NameKind} {x:Str}:∀ {binds:List (Str×Value)} {m:Str→Option Value},(∀ v,(x,v) ∉ binds)→bindC kindOf binds m x=m x
 | [],_,_=>rfl
 | (n,v)::r,m,h=>by
  unfold bindC
  rw [bindC_out fun w hw=>h w (List.mem_cons_of_mem _ hw)]
  split
  ·rfl
  ·have:x≠n:=by rintro rfl; exact h v List.mem_cons_self
   simp [this]
theorem bindL_get {kindOf:Str→Option NameKind} {x:Str} {v:Value}:∀ {P:List Str} {vs:List Value} {i:Nat} {m:Str→Option Value},P.Nodup→P[i]?=some x→vs[i]?=some v→kindOf x=some .local →
  bindL kindOf (P.zip vs) m x=some v
 | [],_,_,_,_,h,_,_=>by simp at h
 | _::_,[],_,_,_,_,h,_=>by simp at h
 | p::P,w::vs,0,m,nd,h1,h2,hk=>by
  simp at h1 h2; subst h1; subst h2
  show bindL kindOf ((p,w)::P.zip vs) m p=_
  unfold bindL
  rw [bindL_out fun v hv=>(List.nodup_cons.mp nd).1 (List.of_mem_zip hv).1,if_pos hk]
  simp
 | p::P,w::vs,i+1,m,nd,h1,h2,hk=>by
  show bindL kindOf ((p,w)::P.zip vs) m x=_
  unfold bindL
  exact bindL_get (i:=i) (List.nodup_cons.mp nd).2 (by simpa using h1) (by simpa using h2) hk
theorem bindC_get {kindOf:Str→Option NameKind} {x:Str} {v:Value}:∀ {P:List Str} {vs:List Value} {i:Nat} {m:Str→Option Value},P.Nodup→P[i]?=some x→vs[i]?=some v→kindOf x≠some .local →
  bindC kindOf (P.zip vs) m x=some v
 | [],_,_,_,_,h,_,_=>by simp at h
 | _::_,[],_,_,_,_,h,_=>by simp at h
 | p::P,w::vs,0,m,nd,h1,h2,hk=>by
  simp at h1 h2; subst h1; subst h2
  show bindC kindOf ((p,w)::P.zip vs) m p=_
  unfold bindC
  rw [bindC_out fun v hv=>(List.nodup_cons.mp nd).1 (List.of_mem_zip hv).1,if_neg hk]
  simp
 | p::P,w::vs,i+1,m,nd,h1,h2,hk=>by
  show bindC kindOf ((p,w)::P.zip vs) m x=_
  unfold bindC
  exact bindC_get (i:=i) (List.nodup_cons.mp nd).2 (by simpa using h1) (by simpa using h2) hk
noncomputable def start (N:List Str) (vs:List V):St:=vs.map some++List.replicate (N.length - vs.length) none
noncomputable def cxOf (CX:CXT) (P:Program) (w:World) (K:PySem.W.Frag) (mg:Str→Option Value) (base:Heap) (N:List Str) (qual:Str) (scope:Scope) (f:Addr) (cd:Value) (A:Around) (outer:List Env) (s:Shared) (H:Hp) (E:XK):Cx where
 prog:=P
 w:=w
 K:=K
 mg:=mg
 base:=base
 A:=A.deeper (envOfC qual scope s.heap.objs.size f cd)
 N:=N
 s₀:=s
 H₀:=H
 env:=envOfC qual scope s.heap.objs.size f cd
 outer:=outer
 stack:=envOfC qual scope s.heap.objs.size f cd::outer
 ex:=[]
 calm:=true
 fn:=fun _=>true
 pn:=[]
 xe:=fun e s'=>wpAny (model P w) (A.deeper (envOfC qual scope s.heap.objs.size f cd)) (leaving (envOfC qual scope s.heap.objs.size f cd) e) (fun _ s''=>CX outer H s E e s'') (fun e' s''=>CX outer H s E e' s'') s'
theorem cell_has {sc:Scope} {n:Nat} {x:Str} (h:sc.names.lookup x=some .cell):∃ c,(cellsFrom n sc.names []).lookup x=some c:=by
 have q:=PySem.W.cellsFrom_some sc.names n [] (.inl h)
 exact Option.isSome_iff_exists.mp q
theorem inv_start {CX:CXT} {P:Program} {w:World} {K:PySem.W.Frag} {mg:Str→Option Value} {base:Heap} {N ps:List Str} {qual:Str} {scope:Scope} {f:Addr} {cd:Value} {A:Around} {outer:List Env} {s s1:Shared} {H:Hp} {E:XK} {us:List Value} {vs:List V}
  (S:FnScope N ps scope) (hd:A.handled=none) (e0:Env0 P w K mg base A outer s H) (hl:vs.length=ps.length) (r:Vals vs us)
  (x:InCallC s s.heap.objs.size (bindL (envOfC qual scope s.heap.objs.size f cd).kindOf (ps.zip us) fun _=>none) (cellsFrom (s.heap.objs.size+1) scope.names []) (bindC (envOfC qual scope s.heap.objs.size f cd).kindOf (ps.zip us) fun _=>none) s1) :
  Inv (cxOf CX P w K mg base N qual scope f cd A outer s H E) [] (start N vs) H s1:=by
 have hpl:ps.length ≤ N.length:=by have:=congrArg List.length S.pre; rw [List.length_take] at this; omega
 obtain ⟨h1,tk,rfl,hk⟩:=x.done
 have noA:∀ b:Addr,b ∉ (cxOf CX P w K mg base N qual scope f cd A outer s H E).ex:=fun b z=>absurd (show b∈([]:List Addr) from z) (by simp)
 refine ⟨⟨e0.mod,S.kind,rfl,rfl,Nat.le_refl _,fun y z c h1 h2=>?_,fun y hy=>?_,fun y c _ h=>?_,fun _=>hd,Around.frames_deeper e0.frames,.inr ⟨rfl,rfl⟩,fun b z=>absurd z (noA b),e0.bs,e0.bsz,fun b _ _=>noA b,fun b z=>absurd z (noA b),e0.funs,e0.frf⟩,
  rfl,e0.bare,Un.kept hk,⟨_,x.toInCall.ns,fun i y v h1 h2 h3=>?_⟩,fun y c h=>⟨_,x.cell y c h⟩,e0.hok.fresh (Nat.le_refl _),fun y c h=>?_,fun p hp=>absurd (show p∈([]:List (Addr×Obj)) from hp) (by simp),e0.hok.kept hk,?_⟩
 ·exact name_of_addr x.apart (PySem.mem_of_lookup h1) (PySem.mem_of_lookup h2)
 ·have hy:scope.names.lookup y=some .cell∨scope.names.lookup y=some .free:=hy
  rcases hy with hy|hy
  ·exact cell_has hy
  ·exact absurd rfl (S.nofree _ (PySem.mem_of_lookup hy))
 ·exact Nat.le_of_lt (x.above y c (PySem.mem_of_lookup h))
 ·have hi:i < vs.length:=by
   unfold start at h2
   by_cases hi:i < vs.length
   ·exact hi
   ·rw [List.getElem?_append_right (by simpa using hi)] at h2
    rw [List.getElem?_replicate] at h2
    split at h2 <;> cases h2
  have ha:vs[i]?=some v:=by
   unfold start at h2
   rw [List.getElem?_append_left (by simpa using hi),List.getElem?_map] at h2
   cases e:vs[i]? with
   | none=>rw [e] at h2; cases h2
   | some a=>rw [e] at h2; cases h2; rfl
  obtain ⟨u,hu,rv⟩:=r.get ha
  have hp:ps[i]?=some y:=by
   rw [← S.pre,List.getElem?_take_of_lt (by omega)]; exact h1
  have ndP:ps.Nodup:=by rw [← S.pre]; exact S.nd.sublist (List.take_sublist _ _)
  refine ⟨u,rv,?_⟩
  rcases S.par y (List.mem_of_getElem? hp) with k|k
  ·exact .inl ⟨k,bindL_get ndP hp hu k⟩
  ·obtain ⟨c,e⟩:=cell_has (n:=s.heap.objs.size+1) k
   refine .inr ⟨.inl k,c,e,?_⟩
   have q:=x.cell y c e
   rw [bindC_get ndP hp hu (by show scope.names.lookup y≠_; rw [k]; decide)] at q
   exact q
 ·exact e0.hok.fresh (Nat.le_of_lt (x.above y c (PySem.mem_of_lookup h)))
 ·unfold start
  show _=N.length
  rw [List.length_append,List.length_map,List.length_replicate]
  omega
theorem fn_of {CX:CXT} {P:Program} {w:World} {K:PySem.W.Frag} {mg:Str→Option Value} {base:Heap} {k:Nat} {f:Addr} {name qual:Str} {params:Arguments} {body:List Stmt} {scope:Scope} {dV kV doc pm cdv ct oc:Value} {an od:Option Addr}
  {osl:Array (Option Value)} {N ps:List Str} {sp:Sp} (lk:K.lookup f=some ⟨oc,od,.func (PySem.W.fnOf name qual params body scope dV kV doc pm an cdv ct),osl⟩) (hcd:PySem.W.codeIn K cdv qual=true) (S:FnScope N ps scope)
  (len:∀ vs H Q E,sp vs H Q E→vs.length=ps.length)
  (hbody:∀ (A:Around) (outer:List Env) (s:Shared) (H:Hp) (vs:List V) (Q:VK) (E:XK),Room k (A.deeper (envOfC qual scope s.heap.objs.size f cdv))→sp vs H Q E →
   ∃ t,PSs (cxOf CX P w K mg base N qual scope f cdv A outer s H E) body t∧t { nx:=fun _ H'=>Q .non H',rt:=Q } (start N vs) H) :
  FnOk P w K mg base CX (k+1) f (PySem.W.fnOf name qual params body scope dV kV doc pm an cdv ct) ps sp:=by
 refine ⟨len,fun A outer s H args us vs Q E hr e0 hb r hsp=>?_⟩
 have hl:=len _ _ _ _ hsp
 have KX:K.In s.heap:=e0.mod.kin.keeps fun b o e=>(e0.bs b o e).1
 have lim:s.heap.NoLimit:=e0.mod.nolimit.keeps fun b o e=>(e0.bs b o e).1
 have hkind:∀ y∈ps.zip us,scope.names.lookup y.1=some .local∨(scope.names.lookup y.1=some .cell∧((cellsFrom (s.heap.objs.size+1) scope.names []).lookup y.1).isSome=true):=fun ⟨n,v⟩ hy=>by
  rcases S.par n (List.of_mem_zip hy).1 with q|q
  ·exact .inl q
  ·exact .inr ⟨q,PySem.W.cellsFrom_some _ _ _ (.inl q)⟩
 refine codeAny_call_function hr.depth (KX _ _ lk) rfl S.co S.gen rfl (PySem.W.codeRec_of KX hcd) (hb _ _ _ _ ?_)
 refine wpAny_newFunctionEnv_cells S.kind hkind fun env he s1 x=>?_
 subst he
 refine ⟨lim.keeps x.toInCall.keep,codeAny_func ?_⟩
 obtain ⟨t,ht,hq⟩:=hbody A outer s H vs Q E (hr.deeper _) hsp
 have I:Inv (cxOf CX P w K mg base N qual scope f cdv A outer s H E) [] (start N vs) H s1:=inv_start S hr.hd e0 hl r x
 refine wpAny_mono (ht [] s1 (start N vs) H _ I hq) (fun fl s' hs=>?_) fun e s' hs=>hs
 have fin:∀ {σ':St} {H':Hp} {v:V} {u:Value},Inv (cxOf CX P w K mg base N qual scope f cdv A outer s H E) [] σ' H' s'→RelV v u→Q v H'→CE outer P w H s Q u s' :=
  fun {σ' H' v u} J rv q=>⟨v,H',J.os,J.bare,J.base,J.hok,rv,q⟩
 cases fl with
 | ret u =>
  obtain ⟨v,σ',H',J,rv,q⟩:=hs
  exact fin J rv q
 | next =>
  obtain ⟨σ',H',J,q⟩:=hs
  exact fin (v:=V.non) (u:=Value.none) J rfl q
 | brk =>
  obtain ⟨_,_,_,q⟩:=hs
  exact False.elim q
 | cont =>
  obtain ⟨_,_,_,q⟩:=hs
  exact False.elim q
end L2
namespace L2
open PySem PySem.Spec PyProof.Rows
section
variable {X:Cx} {x:Str} {p pos:Pos} {e:Expr} {es:List Expr} {t:TA} {id T:String} {r:List V→Hp→VK→Prop}
end
end L2
namespace HT
open PySem PyProof.Rows
noncomputable def lexLt:List Int→List Int→Bool
 | [],[]=>false
 | [],_::_=>true
 | _::_,[]=>false
 | x::xs,y::ys=>if x=y then lexLt xs ys else decide (x < y)
theorem lexLt_cons (x y:Int) (xs ys:List Int):lexLt (x::xs) (y::ys)=if x=y then lexLt xs ys else decide (x < y):=rfl
theorem lexLt_nil_nil:lexLt [] []=false:=rfl
theorem lexLt_nil_cons (y:Int) (ys:List Int):lexLt [] (y::ys)=true:=rfl
theorem lexLt_cons_nil (x:Int) (xs:List Int):lexLt (x::xs) []=false:=rfl
section
open PySem.SeqAt
open PySem.AutoSeq1 (wpAny_loadPart')
open PySem.MeetsSeq PySem.MeetsSeq2 PySem.MeetsSeq3
end
section
variable {prog:Program} {w:World} {A:Around} {E:Value→Shared→Prop} {s:Shared}
theorem cat_tup {t b:Addr} {vs ws:List Value} {Q:Value→Shared→Prop} (ht:IsTup s.heap t vs.toArray) (hb:IsTup s.heap b ws.toArray) (hv:vs≠[])
  (h1:ws=[]→Q (.ref t) s) (h2:ws≠[]→Q (.ref s.heap.objs.size) { s with heap:=s.heap.push { cls:=.type "tuple",data:=.seq (vs++ws).toArray } })
  (hsz:vs.length+ws.length ≤ sizeLine):wpAny (model prog w) A (binaryOp .Add (.ref t) (.ref b)) Q E s:=by
 obtain ⟨⟨cls,dd,data,sl⟩,ho,hc,n,hd⟩:=id ht
 obtain ⟨⟨cls2,dd2,data2,sl2⟩,ho2,hc2,n2,hd2⟩:=id hb
 simp only at hc hd hc2 hd2
 subst hc hd hc2 hd2
 have e:vs.toArray++ws.toArray=(vs++ws).toArray:=by simp
 by_cases hw:ws=[]
 ·exact concat_meets ⟨_,ho,rfl⟩ ⟨_,ho2,rfl⟩ noFill_tuple_add seq_tuple_add PySem.F.slot_tuple_add PySem.F.entry_tuple_add (PySem.F.args_tuple_add_2 _ _)
   (tuple_addW1 t b vs.toArray ws.toArray n n2 dd dd2 sl sl2 (by simpa using hv) (by simp [hw])) ⟨ho,ho2,h1 hw⟩
 ·refine concat_meets ⟨_,ho,rfl⟩ ⟨_,ho2,rfl⟩ noFill_tuple_add seq_tuple_add PySem.F.slot_tuple_add PySem.F.entry_tuple_add (PySem.F.args_tuple_add_2 _ _)
   (tuple_addW2 t b vs.toArray ws.toArray n n2 dd dd2 sl sl2 (by simpa using hv) (by simpa using hw) (by rw [List.size_toArray,List.size_toArray]; exact hsz)) ⟨ho,ho2,?_⟩
  rw [e]
  exact h2 hw
noncomputable def sIx (n d:Nat):Option Int→Nat
 | none=>d
 | some v=>if v < 0 then (v+(n:Int)).toNat else min v.toNat n
end
end HT
namespace L2
open PySem PySem.Spec PyProof.Rows
noncomputable abbrev TO:=St→Hp→(Option Int→Hp→Prop)→Prop
theorem intsAre_of {ns:List Int}:∀ {us:List Value},Vals (ns.map V.int) us→IntsAre us ns:=by
 induction ns with
 | nil=>intro us r; rw [List.map_nil] at r; cases r; exact .nil
 | cons n ns ih =>
  intro us r
  rw [List.map_cons] at r
  cases r with
  | cons r1 r2 =>
   obtain ⟨t,e⟩:=r1
   subst e
   exact .cons n t (ih r2)
section
variable {X:Cx} {e:Expr} {te:TE} {lo hi:Option Expr} {tl th:TO} {pos p2:Pos}
noncomputable def rCatT (K:PySem.W.Frag):R2:=fun x y H Q=>∃ a b xs ys,x=.ref a∧y=.ref b∧SqT K H a xs∧SqT K H b ys∧xs≠[]∧xs.length+ys.length ≤ sizeLine ∧
 (ys=[]→Q (.ref a) H)∧(ys≠[]→∀ p,H p=none→Q (.ref p) (upd H p (.tup (xs++ys))))
theorem Vals.nil_iff {xs:List V} {us:List Value} (r:Vals xs us):us=[] ↔ xs=[]:=by
 cases r with
 | nil=>simp
 | cons _ _=>simp
theorem op_catT:OpR X (binaryOp .Add) (rCatT X.K):=by
 intro pins s σ H x y v u Q I rx ry h
 obtain ⟨a,b,xs,ys,rfl,rfl,ha,hb,hx,hz,q1,q2⟩:=h
 cases rx
 cases ry
 obtain ⟨its,r1,p1,_⟩:=I.tuple ha
 obtain ⟨its2,r2,p2,_⟩:=I.tuple hb
 refine HT.cat_tup p1 p2 (fun z=>hx (r1.nil_iff.mp z)) (fun z=>⟨.ref a,H,I,rfl,q1 (r2.nil_iff.mp z)⟩) (fun z=>?_) (by rw [← r1.length,← r2.length]; exact hz)
 refine ⟨.ref s.heap.objs.size,_,I.laid (t':=s.toks) (o:=.tup (xs++ys)) (fun b ob q=>Heap.get?_push_of_some _ q) (Nat.le_refl _) ?_,rfl,q2 (fun w=>z (r2.nil_iff.mpr w)) _ (I.hok.fresh (Nat.le_refl _))⟩
 exact ⟨by rw [List.length_append]; exact hz,_,r1.append r2,IsTup.new _ _⟩
end
end L2
namespace L2
open PySem PySem.Spec PyProof.Rows
noncomputable def ixN (n:Nat) (i:Int):Option Nat:=if 0 ≤ i then (if i < n then some i.toNat else none) else if -(n:Int) ≤ i then some (i+n).toNat else none
noncomputable def atI {α:Type} (xs:List α) (i:Int):Option α:=(ixN xs.length i).bind fun j=>xs[j]?
theorem ixN_seq {n:Nat} {i:Int} {j:Nat} (h:ixN n i=some j):seqIndex? i n=some j∧j < n∧-(n:Int) ≤ i∧i < n:=by
 unfold ixN at h
 by_cases h0:0 ≤ i
 ·rw [if_pos h0] at h
  by_cases h1:i < n
  ·rw [if_pos h1] at h
   have e:i.toNat=j:=Option.some.inj h
   exact ⟨by rw [seqIndex_of h0 h1,e],by omega,by omega,h1⟩
  ·rw [if_neg h1] at h; cases h
 ·rw [if_neg h0] at h
  by_cases h1:-(n:Int) ≤ i
  ·rw [if_pos h1] at h
   have e:(i+n).toNat=j:=Option.some.inj h
   exact ⟨by rw [seqIndex_neg (by omega) h1,e],by omega,h1,by omega⟩
  ·rw [if_neg h1] at h; cases h
theorem atI_get {α:Type} {xs:List α} {i:Int} {v:α} (h:atI xs i=some v):∃ j,seqIndex? i xs.length=some j∧xs[j]?=some v∧j < xs.length∧-(xs.length:Int) ≤ i∧i < xs.length:=by
 unfold atI at h
 cases e:ixN xs.length i with
 | none=>rw [e] at h; cases h
 | some j =>
  rw [e] at h
  obtain ⟨h1,h2,h3,h4⟩:=ixN_seq e
  exact ⟨j,h1,h,h2,h3,h4⟩
noncomputable def PlainIx (b:Expr):Prop:=∀ o i,subscripted b false o i=operate [o,i] (getItem o i)
noncomputable def IxR (X:Cx) (r:R2):Prop :=
 ∀ (value slice:Expr) (pins:List (Addr×Obj)) (s:Shared) (σ:St) (H:Hp) (x y:V) (v u:Value) (Q:VK),Inv X pins σ H s→RelV x v→RelV y u→r x y H Q →
  subscripted slice false v u=operate [v,u] (getItem v u)→wpAny (model X.prog X.w) X.A (subscriptTail value slice v u) (EP X pins σ Q) X.xe s
noncomputable def MtR (X:Cx) (id:String) (r:V→List V→Hp→VK→Prop):Prop :=
 ∀ (pins:List (Addr×Obj)) (s:Shared) (σ:St) (H:Hp) (x:V) (xs:List V) (v:Value) (us:List Value) (Q:VK),Inv X pins σ H s→RelV x v→Vals xs us→r x xs H Q →
  wpAny (model X.prog X.w) X.A (call (.builtin id) (v::us)) (EP X pins σ Q) X.xe s
section
variable {X:Cx} {a b:Expr} {ta tb:TE} {pos:Pos}
theorem pe_ix {r:R2} (hr:IxR X r) (ha:PE X a ta) (hb:PE X b tb) (hs:PlainIx b):PE X (.Subscript a b pos) (tOp r ta tb):=by
 intro pins s σ H Q I h
 exact Subscript_ (binT ha hb I h fun v u s2 x y H2 I2 rx ry q=>hr a b pins s2 σ H2 x y v u Q I2 rx ry q (hs _ _))
noncomputable def rIxL (K:PySem.W.Frag):R2:=fun x y H Q=>∃ p xs i v,x=.ref p∧y=.int i∧SqL K H p xs∧atI xs i=some v∧Q v H
noncomputable def rIxT (K:PySem.W.Frag):R2:=fun x y H Q=>∃ p xs i v,x=.ref p∧y=.int i∧SqT K H p xs∧atI xs i=some v∧Q v H
noncomputable def rIxS:R2:=fun x y H Q=>∃ z i c,x=.str z∧y=.int i∧z.length ≤ sizeLine∧atI z.cps.toList i=some c∧Q (.str ⟨#[c]⟩) H
theorem ix_list:IxR X (rIxL X.K):=by
 intro value slice pins s σ H x y v u Q I rx ry h hs
 obtain ⟨p,xs,i,z,rfl,rfl,hq,he,q⟩:=h
 cases rx
 obtain ⟨t,rfl⟩:=ry
 obtain ⟨its,r,pl,hz⟩:=I.list hq
 obtain ⟨j,h1,h2,h3,h4,h5⟩:=atI_get he
 obtain ⟨w,ew,rw'⟩:=r.get h2
 have hl:=r.length
 have hn:=line63
 have fin:EP X pins σ Q w s:=⟨z,H,I,rw',q⟩
 by_cases h0:0 ≤ i
 ·have hj:i.toNat=j:=by
   rw [seqIndex_of h0 h5] at h1
   exact Option.some.inj h1
  exact item_listR pl.isList h0 (by omega) (by rw [hj]; simpa using ew) fin hs
 ·have hj:(i+(its.toArray.size:Int)).toNat=j:=by
   rw [seqIndex_neg (by omega) h4] at h1
   rw [List.size_toArray,← hl]
   exact Option.some.inj h1
  exact subscriptTail_builtinR (x:=w) pl.isList.typeIs slot_list_getitem.lookup
   (wpAny_getItem_list_neg (Q:=fun r s'=>r=w∧EP X pins σ Q r s') pl.isList (by omega) (by rw [List.size_toArray] <;> omega) (by omega) (by rw [hj]; simpa using ew) ⟨rfl,fin⟩) hs
theorem ix_tup:IxR X (rIxT X.K):=by
 intro value slice pins s σ H x y v u Q I rx ry h hs
 obtain ⟨p,xs,i,z,rfl,rfl,hq,he,q⟩:=h
 cases rx
 obtain ⟨t,rfl⟩:=ry
 obtain ⟨its,r,pl,hz⟩:=I.tuple hq
 obtain ⟨j,h1,h2,h3,h4,h5⟩:=atI_get he
 obtain ⟨w,ew,rw'⟩:=r.get h2
 have hl:=r.length
 have hn:=line63
 have fin:EP X pins σ Q w s:=⟨z,H,I,rw',q⟩
 exact subscriptTail_builtinR (x:=w) pl.typeIs slot_tuple_getitem.lookup
  (getItem_tuple (j:=j) (Q:=fun r s'=>r=w∧EP X pins σ Q r s') pl (by omega) (by omega) (by rw [List.size_toArray,← hl]; exact h1) (by simpa using ew) ⟨rfl,fin⟩) hs
theorem ix_str:IxR X rIxS:=by
 intro value slice pins s σ H x y v u Q I rx ry h hs
 obtain ⟨z,i,c,rfl,rfl,hz,he,q⟩:=h
 obtain ⟨t,rfl⟩:=rx
 obtain ⟨t',rfl⟩:=ry
 obtain ⟨j,h1,h2,h3,h4,h5⟩:=atI_get he
 have hl:z.cps.toList.length=z.length:=by simp [Str.length]
 rw [hl] at h1 h4 h5
 have hn:=line63
 exact tail_any (typeIs_str s z t) slot_str_getitem.lookup (getItem_str (c:=c) (by
  have e1:decide (i < -(2 ^ 63:Int))=false:=decide_eq_false (by omega)
  have e2:decide (i ≥ 2 ^ 63)=false:=decide_eq_false (by omega)
  rw [e1,e2,Bool.or_false]) (by rw [h1]; simpa using h2) ⟨.str ⟨#[c]⟩,H,I.tok _,⟨_,rfl⟩,q⟩) hs
theorem mapSeq_set (its:List Value) (n j:Nat) (u:Value):Obj.mapSeq (·.setIfInBounds j u) { cls:=.type "list",data:=.seq its.toArray n }={ cls:=.type "list",data:=.seq (its.set j u).toArray n }:=by
 simp [Obj.mapSeq]
theorem Inv.lst {pins:List (Addr×Obj)} {σ:St} {H:Hp} {s:Shared} {p:Addr} {xs:List V} (I:Inv X pins σ H s) (h:H p=some (.lst xs)) :
  ∃ (its:List Value) (n:Nat),Vals xs its∧s.heap.get? p=some { cls:=.type "list",data:=.seq its.toArray n }∧xs.length ≤ sizeLine:=by
 obtain ⟨z,its,n,r,e⟩:=I.hok p _ h
 exact ⟨its,n,r,e,z⟩
theorem Inv.lstUpd {pins:List (Addr×Obj)} {σ:St} {H:Hp} {s:Shared} {p:Addr} {xs ys:List V} {its its':List Value} {n n':Nat} {f:Obj→Obj} (I:Inv X pins σ H s) (h:H p=some (.lst xs))
  (ho:s.heap.get? p=some { cls:=.type "list",data:=.seq its.toArray n }) (hf:f { cls:=.type "list",data:=.seq its.toArray n }={ cls:=.type "list",data:=.seq its'.toArray n' }) (r:Vals ys its') (hz:ys.length ≤ sizeLine) (t:Nat) :
  Inv X pins σ (upd H p (.lst ys)) { s with heap:=s.heap.update p f,toks:=t }:=by
 have e:(s.heap.update p f).get? p=some { cls:=.type "list",data:=.seq its'.toArray n' }:=by
  rw [Heap.get?_update_self f ho (by rw [hf] <;> rfl),hf]
 refine I.write (x:=p) (e:=p) (by rw [h]; trivial) (.inl rfl) (fun b u hb q=>(Heap.get?_update_other _ _ (Ne.symm hb)).trans q) ⟨_,e⟩ ?_
 exact ⟨hz,its',n',r,e⟩
noncomputable def rSetL:V→V→V→Hp→(Hp→Prop)→Prop:=fun o i v H Q=>∃ p xs k j,o=.ref p∧i=.int k∧H p=some (.lst xs)∧ixN xs.length k=some j∧Q (upd H p (.lst (xs.set j v)))
theorem set_list:PSet X rSetL:=by
 intro pins s σ H o i v ov iv u Q I ro ri rv h
 obtain ⟨p,xs,k,j,rfl,rfl,hp,hj,q⟩:=h
 cases ro
 obtain ⟨t,rfl⟩:=ri
 obtain ⟨its,n,r,ho,hz⟩:=I.lst hp
 obtain ⟨h1,h2,h3,h4⟩:=ixN_seq hj
 have hl:=r.length
 have hn:=line63
 have I':Inv X pins σ (upd H p (.lst (xs.set j v))) { s with heap:=s.heap.update p (Obj.mapSeq (·.setIfInBounds j u)) } :=
  I.lstUpd hp ho (mapSeq_set its n j u) (r.set rv j) (by rw [List.length_set]; exact hz) s.toks
 by_cases h0:0 ≤ k
 ·have hk:k.toNat=j:=by
   rw [seqIndex_of h0 h4] at h1
   exact Option.some.inj h1
  exact PySem.W.ki_setAt ho h0 (by omega) (by rw [List.size_toArray,← hl]; exact h4) (by rw [hk]; exact ⟨_,I',q⟩)
 ·have hk:(k+(its.toArray.size:Int)).toNat=j:=by
   rw [seqIndex_neg (by omega) h3] at h1
   rw [List.size_toArray,← hl]
   exact Option.some.inj h1
  exact PySem.W.ki_setBack ho (by omega) (by rw [List.size_toArray,← hl]; exact h3) (by omega) (by rw [hk]; exact ⟨_,I',q⟩)
noncomputable def flatV:V→Bool
 | .non=>true
 | .bl _=>true
 | .int _=>true
 | .str _=>true
 | _=>false
theorem call_len_seq:CallR X (.builtin "len") (fun xs H Q=>∃ p ys,xs=[.ref p]∧(SqL X.K H p ys∨SqT X.K H p ys)∧Q (.int ys.length) H):=by
 intro pins s σ H xs us Q I r h
 obtain ⟨p,ys,rfl,hq,q⟩:=h
 obtain ⟨u,rfl,rx⟩:=vals1 r
 cases rx
 have hn:=line63
 rcases hq with hq|hq
 ·obtain ⟨its,r',pl,hz⟩:=I.list hq
  have hlen:=r'.length
  exact Calls.call_len_list pl.isList (by simp only [List.size_toArray] <;> omega) ⟨.int ys.length,H,I.tok _,⟨s.toks+1,by rw [List.size_toArray,hlen]⟩,q⟩
 ·obtain ⟨its,r',pl,hz⟩:=I.tuple hq
  have hlen:=r'.length
  exact len_tuple pl (by simp only [List.size_toArray] <;> omega) ⟨.int ys.length,H,I.tok _,⟨s.toks+1,by rw [List.size_toArray,hlen]⟩,q⟩
theorem call_list_of:CallR X (.type "list") (fun xs H Q=>∃ p ys,xs=[.ref p]∧(SqL X.K H p ys∨SqT X.K H p ys)∧∀ l,H l=none→Q (.ref l) (upd H l (.lst ys))):=by
 intro pins s σ H xs us Q I r h
 obtain ⟨p,ys,rfl,hq,q⟩:=h
 obtain ⟨u,rfl,rx⟩:=vals1 r
 cases rx
 have fin:∀ (its:List Value),Vals ys its→ys.length ≤ sizeLine→∀ (h':Heap) (c':Nat),(∀ b o',s.heap.get? b=some o'→h'.get? b=some o') →
   h'.get? s.heap.objs.size=some { cls:=.type "list",dict:=none,data:=.seq its.toArray c',slots:=#[] }→EP X pins σ Q (.ref s.heap.objs.size) { s with heap:=h' }:=fun its r' hz h' c' kp e =>
  ⟨.ref s.heap.objs.size,_,I.laid (t':=s.toks) kp (Nat.le_refl _) (show ObjOk X.prog X.w _ h' _ (.lst ys) from ⟨hz,its,c',r',e⟩),rfl,q _ (I.hok.fresh (Nat.le_refl _))⟩
 rcases hq with hq|hq
 ·obtain ⟨its,r',pl,hz⟩:=I.list hq
  have hlen:=r'.length
  obtain ⟨o,ho,hc,n,hd⟩:=pl.isList
  exact call_list_seq p (.inl rfl) ho hc hd (fun h' c' kp e=>fin its r' hz h' c' kp e) (by simp only [List.size_toArray] <;> omega)
 ·obtain ⟨its,r',pl,hz⟩:=I.tuple hq
  have hlen:=r'.length
  obtain ⟨o,ho,hc,n,hd⟩:=pl
  exact call_list_seq p (.inr rfl) ho hc hd (fun h' c' kp e=>fin its r' hz h' c' kp e) (by simp only [List.size_toArray] <;> omega)
theorem call_tuple_of:CallR X (.type "tuple") (fun xs H Q=>∃ p ys,xs=[.ref p]∧((SqL X.K H p ys∧∀ l,H l=none→Q (.ref l) (upd H l (.tup ys)))∨(SqT X.K H p ys∧Q (.ref p) H))):=by
 intro pins s σ H xs us Q I r h
 obtain ⟨p,ys,rfl,h⟩:=h
 obtain ⟨u,rfl,rx⟩:=vals1 r
 cases rx
 rcases h with ⟨hq,q⟩|⟨hq,q⟩
 ·obtain ⟨its,r',pl,hz⟩:=I.list hq
  have hlen:=r'.length
  refine call_tuple_list pl.isList (fun h' kp=>?_) (by simp only [List.size_toArray] <;> omega)
  have I1:Inv X pins σ H { s with heap:=h' }:=I.kept (t':=s.toks) kp
  have I2:Inv X pins σ (upd H h'.objs.size (.tup ys)) { s with heap:=h'.push { cls:=.type "tuple",data:=.seq its.toArray } } :=
   I1.laid (t':=s.toks) (fun b o e=>Heap.get?_push_of_some _ e) (Nat.le_refl _) (show ObjOk X.prog X.w _ _ _ (.tup ys) from ⟨hz,its,r',IsTup.new _ _⟩)
  exact ⟨.ref h'.objs.size,_,I2,rfl,q _ (I1.hok.fresh (Nat.le_refl _))⟩
 ·obtain ⟨its,r',pl,hz⟩:=I.tuple hq
  exact call_tuple_same pl ⟨.ref p,H,I,rfl,q⟩
noncomputable def tyV (K:PySem.W.Frag) (T:String) (x:V) (H:Hp):Prop:=match x with
 | .str _=>T="str"
 | .int _=>T="int"
 | .ref p=>(T="list"∧∃ xs,SqL K H p xs)∨(T="tuple"∧∃ o,K.lookup p=some o∧o.cls=.type "tuple"∧o.dict=none) ∨
   (T="dict"∧((∃ kvs,H p=some (.dK kvs))∨∃ kvs,H p=some (.dT kvs)))∨(T="set"∧∃ S n,H p=some (.set S n))
 | _=>False
theorem tyV_is {pins:List (Addr×Obj)} {σ:St} {H:Hp} {s:Shared} {T:String} {x:V} {v:Value} (I:Inv X pins σ H s) (r:RelV x v) (ty:tyV X.K T x H) :
  s.TypeIs v T∧∀ a,v=.ref a→∃ ob,s.heap.get? a=some ob∧ob.dict=none:=by
 cases x with
 | str z =>
  obtain ⟨t,rfl⟩:=r
  cases (show T="str" from ty)
  exact ⟨typeIs_str s z t,fun _ e=>nomatch e⟩
 | int i =>
  obtain ⟨t,rfl⟩:=r
  cases (show T="int" from ty)
  exact ⟨typeIs_int s i t,fun _ e=>nomatch e⟩
 | ref p =>
  cases r
  rcases ty with ⟨rfl,xs,hq⟩|⟨rfl,o,hk,hc,hd⟩|⟨rfl,hk⟩|⟨rfl,S,n,hk⟩
  ·obtain ⟨its,_,pl,_⟩:=I.list hq
   refine ⟨pl.isList.typeIs,fun a e=>?_⟩
   cases e
   obtain ⟨o,n,e,c,hd,_⟩:=pl
   exact ⟨o,e,hd⟩
  ·refine ⟨⟨o,I.kIn p o hk,hc⟩,fun a e=>?_⟩
   cases e
   exact ⟨o,I.kIn _ o hk,hd⟩
  ·have z:∃ o,s.heap.get? p=some o∧o.ExactDict:=by
    rcases hk with ⟨kvs,hk⟩|⟨kvs,hk⟩
    ·obtain ⟨_,_,_,_,o,_,_,e,ex,_⟩:=I.hok p _ hk
     exact ⟨o,e,ex⟩
    ·obtain ⟨_,_,_,_,o,_,_,e,ex,_⟩:=I.hok p _ hk
     exact ⟨o,e,ex⟩
   obtain ⟨o,e,ex⟩:=z
   refine ⟨⟨o,e,ex.1⟩,fun a e2=>?_⟩
   cases e2
   exact ⟨o,e,ex.2.1⟩
  ·obtain ⟨o,_,_,_,e,ex,_⟩:=I.hok p _ hk
   refine ⟨⟨o,e,ex.1⟩,fun a e2=>?_⟩
   cases e2
   exact ⟨o,e,ex.2.1⟩
 | _=>exact False.elim ty
noncomputable def tBM (K:PySem.W.Frag) (T:String) (r:V→List V→Hp→VK→Prop) (to:TE) (t:TA):TE:=fun σ H Q=>to σ H fun x H1=>tyV K T x H1∧t σ H1 fun xs H2=>r x xs H2 Q
variable {o e:Expr} {es:List Expr} {to:TE} {t:TA} {name:Str} {apos cpos:Pos} {T id:String} {r:V→List V→Hp→VK→Prop}
theorem pe_bm (pa:PlainAttrs T) (slot:Slot T name id) (hty:typeOf (.builtin id)=pure (.type "method_descriptor")) (hm:MtR X id r) (ho:PE X o to) (ha:PA X (e::es) t)
  (hbase:attributeBase o name X.env (eval o X.env)=eval o X.env:=by rfl)
  (hfew:((backTo cpos (starEach (e::es) X.env)).all (fun x=>!x.1) && (backToKw cpos (keywordEach [] X.env)).all (fun x=>x.1.isSome)
   && decide ((e::es).length+([]:List Keyword).length+(if ([]:List Keyword).isEmpty then 0 else 1) < 30))=true:=by rfl)
  (hline:(apos.endLine == cpos.line)=true:=by rfl) (hs:starEach (e::es) X.env=(false,eval e X.env)::starEach es X.env:=by rfl) (hplain:(backTo cpos (starEach es X.env)).any (·.1)=false:=by rfl) :
  PE X (.Call (.Attribute o name apos) (e::es) [] cpos) (tBM X.K T r to t):=by
 intro pins s σ H Q I h
 refine wpAny_Call_method_late hbase hfew hline rfl (thn (ho pins s σ H _ I h) fun v s1 ⟨x,H1,I1,r1,ty,q1⟩=>?_)
 obtain ⟨h1,h2⟩:=tyV_is I1 r1 ty
 refine ⟨T,id,pa,slot,hty,h1,h2,?_⟩
 have hA:=ha cpos pins s1 σ H1 _ I1 q1
 rw [hs] at hA ⊢
 refine Calls.callWith_builtin (by show (false || (backTo cpos (starEach es X.env)).any (·.1))=false; rw [hplain] <;> rfl) (Calls.evalArgs_plain ?_)
 exact thn hA fun us s2 ⟨vs,H2,I2,r2,q2⟩=>hm pins s2 σ H2 x vs v us Q I2 r1 r2 q2
/- xs.append(e),list.index on a module's tuple .. are MtR facts of 06m -/
end
end L2
namespace L2
open PySem PySem.Spec PyProof.Rows
noncomputable def MtM (X:Cx) (id:String) (r:V→List V→Hp→VK→Prop):Prop :=
 ∀ (pins:List (Addr×Obj)) (s:Shared) (σ:St) (H:Hp) (x:V) (xs:List V) (v:Value) (us:List Value) (Q:VK),Inv X pins σ H s→RelV x v→Vals xs us→r x xs H Q →
  wpAny (model X.prog X.w) X.A (call (.builtin id) (v::us)) (EP X pins σ Q) X.xe s
theorem Vals.one:∀ {x:V} {us:List Value},Vals [x] us→∃ u,us=[u]∧RelV x u
 | _,_,.cons r .nil=>⟨_,rfl,r⟩
section
variable {X:Cx} {pins:List (Addr×Obj)} {σ:St} {H:Hp} {s:Shared} {l b:Addr} {xs ys zs:List V}
theorem Inv.lset {its its':List Value} {n:Nat} {f:Array Value→Array Value} {t':Nat} (I:Inv X pins σ H s) (hH:H l=some (.lst xs))
  (e:s.heap.get? l=some { cls:=.type "list",data:=.seq its.toArray n }) (hf:f its.toArray=its'.toArray) (hv:Vals ys its') (hz:ys.length ≤ sizeLine) :
  Inv X pins σ (upd H l (.lst ys)) { s with heap:=s.heap.update l (Obj.mapSeq f),toks:=t' }:=by
 have q:=PySem.IsL.update e f
 rw [hf] at q
 refine I.write (x:=l) (e:=l) (by rw [hH]; exact trivial) (.inl rfl) (fun b' u hb hu=>(Heap.get?_update_other s.heap (Obj.mapSeq f) (Ne.symm hb)).trans hu) ⟨_,q⟩ ?_
 exact ⟨hz,its',_,hv,q⟩
theorem Inv.lstM (I:Inv X pins σ H s) (hH:H l=some (.lst xs)):xs.length ≤ sizeLine∧∃ (its:List Value) (n:Nat),Vals xs its∧xs.length=its.length∧s.heap.get? l=some { cls:=.type "list",data:=.seq its.toArray n }:=by
 obtain ⟨z,its,n,r,e⟩:=I.hok l _ hH
 exact ⟨z,its,n,r,r.length,e⟩
end
section
variable {X:Cx}
noncomputable def rAppend:V→List V→Hp→VK→Prop:=fun x vs H Q=>∃ l xs y,x=.ref l∧vs=[y]∧H l=some (.lst xs)∧xs.length < sizeLine∧Q .non (upd H l (.lst (xs++[y])))
theorem mt_append:MtM X "list.append" rAppend:=by
 intro pins s σ H x vs v us Q I rx rv h
 obtain ⟨l,xs,y,rfl,rfl,hH,hz,q⟩:=h
 cases rx
 obtain ⟨u,rfl,ru⟩:=rv.one
 obtain ⟨z,its,n,r,hl,e⟩:=I.lstM hH
 refine call_meets F.slot_list_append ⟨_,e,rfl⟩ F.entry_list_append (F.args_list_append_2 _ _) (PySem.list_append l its.toArray n u (by rw [List.size_toArray]; omega)) ⟨e,?_⟩
 refine ⟨.non,_,I.lset (its':=its++[u]) hH e (by simp) (r.append (.cons ru .nil)) ?_,rfl,q⟩
 rw [List.length_append,List.length_singleton]
 omega
end
section
variable {prog:Program} {w:World} {A:Around} {E:Value→Shared→Prop} {s:Shared}
set_option maxRecDepth 100000 in
end
section
variable {X:Cx}
end
end L2
namespace L2
open PySem PySem.Spec PyProof.Rows
section
variable {κ:Type} [DecidableEq κ]
noncomputable def valV (kvs:List (κ×V)) (k:κ):Option V:=(kvs.find? fun kv=>decide (kv.1=k)).map (·.2)
noncomputable def putK (kvs:List (κ×V)) (k:κ) (v:V):List (κ×V) :=
 if (kvs.any fun kv=>decide (kv.1=k))=true then kvs.map (fun kv=>if kv.1=k then (kv.1,v) else kv) else kvs++[(k,v)]
theorem valV_pos {p:κ×V} {r:List (κ×V)} {k:κ} (e:p.1=k):valV (p::r) k=some p.2:=by simp [valV,List.find?_cons,e]
theorem valV_neg {p:κ×V} {r:List (κ×V)} {k:κ} (e:¬ p.1=k):valV (p::r) k=valV r k:=by simp [valV,List.find?_cons,e]
theorem valV_any (k:κ):∀ kvs:List (κ×V),(kvs.any fun kv=>decide (kv.1=k))=(valV kvs k).isSome
 | []=>rfl
 | p::r=>by
  rw [List.any_cons]
  by_cases e:p.1=k
  ·simp only [valV_pos e,decide_eq_true e,Bool.true_or,Option.isSome_some]
  ·rw [valV_neg e,decide_eq_false e,Bool.false_or]; exact valV_any k r
theorem length_putK (kvs:List (κ×V)) (k:κ) (v:V):(putK kvs k v).length ≤ kvs.length+1:=by
 unfold putK
 split
 ·rw [List.length_map]; omega
 ·rw [List.length_append,List.length_cons,List.length_nil]; omega
theorem RelO.isSome_eq {o:Option V} {u:Option Value} (r:RelO o u):o.isSome=u.isSome:=by
 cases o with
 | none=>cases u with
  | none=>rfl
  | some _=>exact (show False from r).elim
 | some _=>cases u with
  | none=>exact (show False from r).elim
  | some _=>rfl
theorem RelO.getD {o:Option V} {u:Option Value} {d:V} {d':Value} (r:RelO o u) (rd:RelV d d'):RelV (o.getD d) (u.getD d'):=by
 cases o with
 | none=>cases u with
  | none=>exact rd
  | some _=>exact (show False from r).elim
 | some _=>cases u with
  | none=>exact (show False from r).elim
  | some _=>exact r
theorem KV.val {kvs:List (κ×V)} {vs:List (κ×Value)} (r:KV kvs vs) (k:κ):RelO (valV kvs k) (valueAt vs k):=by
 unfold KV at r
 induction r with
 | nil=>exact True.intro
 | @cons p q ps qs h t ih =>
  obtain ⟨h1,h2⟩:=h
  by_cases e:p.1=k
  ·have e':q.1=k:=h1.symm.trans e
   have b:valueAt (q::qs) k=some q.2:=by simp [valueAt,List.find?_cons,e']
   rw [valV_pos e,b]; exact h2
  ·have e':¬ q.1=k:=fun z=>e (h1.trans z)
   have b:valueAt (q::qs) k=valueAt qs k:=by simp [valueAt,List.find?_cons,e']
   rw [valV_neg e,b]; exact ih
theorem KV.any {kvs:List (κ×V)} {vs:List (κ×Value)} (r:KV kvs vs) (k:κ):(kvs.any fun kv=>decide (kv.1=k))=vs.any fun kv=>decide (kv.1=k):=by
 unfold KV at r
 induction r with
 | nil=>rfl
 | cons h t ih=>rw [List.any_cons,List.any_cons,ih,h.1]
theorem KV.repl {kvs:List (κ×V)} {vs:List (κ×Value)} (r:KV kvs vs) (k:κ) {y:V} {u:Value} (ry:RelV y u) :
  KV (kvs.map fun kv=>if kv.1=k then (kv.1,y) else kv) (vs.map fun kv=>if kv.1=k then (kv.1,u) else kv):=by
 unfold KV at r ⊢
 induction r with
 | nil=>exact .nil
 | @cons p q ps qs h t ih =>
  rw [List.map_cons,List.map_cons]
  refine .cons ?_ ih
  obtain ⟨h1,h2⟩:=h
  by_cases e:p.1=k
  ·rw [if_pos e,if_pos (h1.symm.trans e)]; exact ⟨h1,ry⟩
  ·rw [if_neg e,if_neg (fun z=>e (h1.trans z))]; exact ⟨h1,h2⟩
theorem KV.put {kvs:List (κ×V)} {vs:List (κ×Value)} (r:KV kvs vs) (k:κ) {y:V} {u:Value} (ry:RelV y u):KV (putK kvs k y) (stored vs k u):=by
 unfold putK stored
 rw [r.any k]
 by_cases e:(vs.any fun kv=>decide (kv.1=k))=true
 ·rw [if_pos e,if_pos e]; exact r.repl k ry
 ·rw [if_neg e,if_neg e]; exact Paired.snoc r ⟨rfl,ry⟩
theorem KV.length {kvs:List (κ×V)} {vs:List (κ×Value)} (r:KV kvs vs):kvs.length=vs.length:=Paired.length r
end
theorem kV_is {P:Program} {w:World} {k:Key} {u:Value} (r:RelV (kV k) u):(mixKind P w).is k u=true:=by
 cases k with
 | inl i=>obtain ⟨t,e⟩:=(show ∃ t,u=Value.int i t from r); subst e; exact mixKind_int P w i t
 | inr x=>obtain ⟨t,e⟩:=(show ∃ t,u=Value.str x t from r); subst e; exact mixKind_str P w x t
theorem items_are {P:Program} {w:World}:∀ {ks:List Key} {us:List Value},Vals (ks.map kV) us→ItemsAre (mixKind P w) ks us
 | [],_,r=>by rw [List.map_nil] at r; cases r; exact .nil
 | k::ks,_,r=>by
  rw [List.map_cons] at r
  cases r with
  | cons h t=>exact .cons (kV_is h) (items_are t)
noncomputable abbrev KT (H:Hp):List (List Key×V)→List (List Key×Addr×Value)→Prop:=Paired fun p q=>p.1=q.1∧H q.2.1=some (.tup (p.1.map kV))∧RelV p.2 q.2.2
theorem KT.val {H:Hp} {kvs:List (List Key×V)} {xs:List (List Key×Addr×Value)} (r:KT H kvs xs) (k:List Key):RelO (valV kvs k) ((atKey xs k).map (·.2)):=by
 induction r with
 | nil=>exact True.intro
 | @cons p q ps qs h t ih =>
  obtain ⟨h1,_,h2⟩:=h
  by_cases e:p.1=k
  ·have e':q.1=k:=h1.symm.trans e
   have b:atKey (q::qs) k=some q.2:=by simp [atKey,List.find?_cons,e']
   rw [valV_pos e,b]; exact h2
  ·have e':¬ q.1=k:=fun z=>e (h1.trans z)
   have b:atKey (q::qs) k=atKey qs k:=by simp [atKey,List.find?_cons,e']
   rw [valV_neg e,b]; exact ih
theorem KT.repl {H:Hp} {kvs:List (List Key×V)} {xs:List (List Key×Addr×Value)} (r:KT H kvs xs) (k:List Key) {y:V} {u:Value} (ry:RelV y u) :
  KT H (kvs.map fun kv=>if kv.1=k then (kv.1,y) else kv) (xs.map (putAt k u)):=by
 induction r with
 | nil=>exact .nil
 | @cons p q ps qs h t ih =>
  rw [List.map_cons,List.map_cons]
  refine .cons ?_ ih
  obtain ⟨h1,h2,h3⟩:=h
  unfold putAt
  by_cases e:p.1=k
  ·rw [if_pos e,if_pos (h1.symm.trans e)]; exact ⟨h1,h2,ry⟩
  ·rw [if_neg e,if_neg (fun z=>e (h1.trans z))]; exact ⟨h1,h2,h3⟩
theorem KT.put {H:Hp} {kvs:List (List Key×V)} {xs:List (List Key×Addr×Value)} (r:KT H kvs xs) (k:List Key) {b:Addr} {y:V} {u:Value} (hb:H b=some (.tup (k.map kV))) (ry:RelV y u) :
  KT H (putK kvs k y) (storedH xs k b u):=by
 have e:(kvs.any fun kv=>decide (kv.1=k))=(atKey xs k).isSome:=by
  rw [valV_any,(r.val k).isSome_eq,Option.isSome_map]
 unfold putK storedH
 rw [e]
 by_cases q:(atKey xs k).isSome=true
 ·rw [if_pos q,if_pos q]; exact r.repl k ry
 ·rw [if_neg q,if_neg q]; exact Paired.snoc r ⟨rfl,hb,ry⟩
theorem KT.keeps {H H':Hp} {kvs:List (List Key×V)} {xs:List (List Key×Addr×Value)} (r:KT H kvs xs) (ht:∀ b ys,H b=some (.tup ys)→H' b=some (.tup ys)):KT H' kvs xs :=
 Paired.mapP r fun _ _ z=>⟨z.1,ht _ _ z.2.1,z.2.2⟩
section
variable {P:Program} {w:World} {H:Hp} {h:Heap} {a:Addr}
theorem rd_of {u:HO} (ok:HOk P w H h) (e:Rd H a u):ObjOk P w H h a u:=e.ok ok
theorem dk_rd {kvs:List (Key×V)} (ok:HOk P w H h) (e:Rd H a (.dK kvs)):kvs.length ≤ sizeLine∧(a == sysModules)=false∧∃ vs,KV kvs vs∧h.DictOf (mixKind P w) a vs :=
 show ObjOk P w H h a (.dK kvs) from rd_of ok e
theorem dk_of {kvs:List (Key×V)} (ok:HOk P w H h) (e:H a=some (.dK kvs)):kvs.length ≤ sizeLine∧(a == sysModules)=false∧∃ vs,KV kvs vs∧h.DictOf (mixKind P w) a vs:=dk_rd ok (.inl e)
theorem key_of {ks:List Key} (ok:HOk P w H h) (e:H a=some (.tup (ks.map kV))):(tupleKind (mixKind P w)).is h ks a:=by
 obtain ⟨_,its,r,o,h1,h2,n,h3⟩:=(show ObjOk P w H h a (.tup (ks.map kV)) from ok a _ e)
 exact ⟨o,its.toArray,n,h1,h2,h3,by simpa using items_are r⟩
theorem dt_rd {kvs:List (List Key×V)} (ok:HOk P w H h) (e:Rd H a (.dT kvs)):kvs.length ≤ sizeLine∧(a == sysModules)=false ∧
  ∃ xs,KT H kvs xs∧h.DictOfH (tupleKind (mixKind P w)) a xs:=by
 obtain ⟨z,y,xs,r,o,es,ep,h1,h2,h3,h4,h5⟩:=(show ObjOk P w H h a (.dT kvs) from rd_of ok e)
 refine ⟨z,y,xs,r,o,es,ep,h1,h2,h3,h4,fun x hx=>?_,h5⟩
 have all:∀ {l:List (List Key×V)} {m:List (List Key×Addr×Value)},KT H l m→∀ x∈m,(tupleKind (mixKind P w)).is h x.1 x.2.1:=by
  intro l m q
  induction q with
  | nil=>intro x hx; exact nomatch hx
  | @cons p q ps qs hq t ih =>
   intro x hx
   rcases List.mem_cons.mp hx with e|hx
   ·subst e
    exact key_of ok (by rw [← hq.1]; exact hq.2.1)
   ·exact ih x hx
 exact all r x hx
theorem dt_of {kvs:List (List Key×V)} (ok:HOk P w H h) (e:H a=some (.dT kvs)):kvs.length ≤ sizeLine∧(a == sysModules)=false ∧
  ∃ xs,KT H kvs xs∧h.DictOfH (tupleKind (mixKind P w)) a xs:=dt_rd ok (.inl e)
end
noncomputable def DGet (H:Hp) (a:Addr) (y:V) (r:Option V):Prop :=
 (∃ kvs k,Rd H a (.dK kvs)∧y=kV k∧r=valV kvs k)∨∃ kvs k b,Rd H a (.dT kvs)∧y=.ref b∧H b=some (.tup (k.map kV))∧r=valV kvs k
noncomputable def DPut (H:Hp) (a:Addr) (y v:V) (H':Hp):Prop :=
 (∃ kvs k,H a=some (.dK kvs)∧y=kV k∧kvs.length < sizeLine∧H'=upd H a (.dK (putK kvs k v))) ∨
 ∃ kvs k b,H a=some (.dT kvs)∧y=.ref b∧H b=some (.tup (k.map kV))∧kvs.length < sizeLine∧H'=upd H a (.dT (putK kvs k v))
theorem DGet.k {H:Hp} {a:Addr} {kvs:List (Key×V)} {k:Key} (e:H a=some (.dK kvs)):DGet H a (kV k) (valV kvs k):=.inl ⟨kvs,k,.inl e,rfl,rfl⟩
theorem DGet.t {H:Hp} {a b:Addr} {kvs:List (List Key×V)} {k:List Key} (e:H a=some (.dT kvs)) (eb:H b=some (.tup (k.map kV))):DGet H a (.ref b) (valV kvs k):=.inr ⟨kvs,k,b,.inl e,rfl,eb,rfl⟩
theorem DPut.k {H:Hp} {a:Addr} {kvs:List (Key×V)} {k:Key} {v:V} (e:H a=some (.dK kvs)) (hl:kvs.length < sizeLine):DPut H a (kV k) v (upd H a (.dK (putK kvs k v))):=.inl ⟨kvs,k,e,rfl,hl,rfl⟩
theorem DPut.t {H:Hp} {a b:Addr} {kvs:List (List Key×V)} {k:List Key} {v:V} (e:H a=some (.dT kvs)) (eb:H b=some (.tup (k.map kV))) (hl:kvs.length < sizeLine) :
  DPut H a (.ref b) v (upd H a (.dT (putK kvs k v))):=.inr ⟨kvs,k,b,e,rfl,eb,hl,rfl⟩
section
variable {X:Cx} {pins:List (Addr×Obj)} {σ:St} {H:Hp} {s:Shared} {a:Addr} {y v:V} {u r:Value} {o:Option V} {A:Around} {E:Value→Shared→Prop}
theorem Inv.big (I:Inv X pins σ H s):sysModules < s.heap.objs.size:=by
 have h:mainGlobals < s.heap.objs.size:=(I.mod.glob.keeps I.bk).lt
 exact Nat.lt_trans (by decide) h
theorem d_write {h':Heap} {t':Nat} {ob:HO} (I:Inv X pins σ H s) (mu:Mut (H a)) (hs:Heap.SameBut a s.heap h') (he:∃ q,h'.get? a=some q) (new:ObjOk X.prog X.w (upd H a ob) h' a ob) :
  Inv X pins σ (upd H a ob) { s with heap:=h',toks:=t' } :=
 I.write (x:=a) (e:=a) mu (.inl rfl) (fun b q hb z=>(hs.2 b hb).trans z) he new
theorem dk_new {P:Program} {w:World} {H':Hp} {h':Heap} {kvs:List (Key×V)} {vs:List (Key×Value)} (z:kvs.length ≤ sizeLine) (hd:(a == sysModules)=false) (rel:KV kvs vs) (dd:h'.DictOf (mixKind P w) a vs) :
  ObjOk P w H' h' a (.dK kvs):=⟨z,hd,vs,rel,dd⟩
theorem d_setItem {H':Hp} {Q:Unit→Shared→Prop} (hu:A.units+1 < cLine) (I:Inv X pins σ H s) (g:DPut H a y v H') (ry:RelV y u) (rv:RelV v r) (h:∀ s',Inv X pins σ H' s'→Q () s') :
  wpAny (model X.prog X.w) A (setItem (.ref a) u r) Q E s:=by
 rcases g with ⟨kvs,k,e,ey,l,eH⟩|⟨kvs,k,b,e,ey,eb,l,eH⟩
 ·subst ey eH
  obtain ⟨z,hd,vs,rel,dd⟩:=dk_of I.hok e
  have hz:vs.length ≤ sizeLine:=by rw [← rel.length]; exact z
  have hl:(putK kvs k v).length ≤ sizeLine:=by have:=length_putK kvs k v; omega
  refine wpAny_setItem_pairs (hsz:=hz) (kV_is ry) dd fun h' dd' hs=>h _ ?_
  have he:∃ q,h'.get? a=some q:=let ⟨q,_,_,hq,_⟩:=dd'; ⟨q,hq⟩
  exact d_write I (by rw [e]; exact True.intro) hs he (dk_new hl hd (rel.put k rv) dd')
 ·subst ey eH
  cases (show u=Value.ref b from ry)
  obtain ⟨z,hd,xs,rel,dd⟩:=dt_of I.hok e
  have hz:xs.length ≤ sizeLine:=by rw [← Paired.length rel]; exact z
  have hl:(putK kvs k v).length ≤ sizeLine:=by have:=length_putK kvs k v; omega
  refine wpAny_setItem_heap (hsz:=hz) (tupleKind_room_in1 hu) (key_of I.hok eb) dd fun h' dd' hs=>h _ ?_
  obtain ⟨q,es,ep,hq,h2,h3,h4,_,h5⟩:=dd'
  refine d_write I (by rw [e]; exact True.intro) hs ⟨q,hq⟩ ⟨hl,hd,_,(rel.put k eb rv).keeps fun c ys ec=>?_,q,es,ep,hq,h2,h3,h4,h5⟩
  rw [upd_ne (ne_of ec e (fun z=>nomatch z))]
  exact ec
end
section
variable {X:Cx} {pins:List (Addr×Obj)} {σ:St} {H:Hp} {s:Shared} {a:Addr} {kvs:List (Key×V)} {k:Key} {u:Value} {A:Around} {E:Value→Shared→Prop}
end
noncomputable def sDPut (td ty tv:TE):TS:=fun D σ H=>tv σ H fun v H1=>td σ H1 fun x H2=>ty σ H2 fun y H3=>∃ a H4,x=.ref a∧DPut H3 a y v H4∧D.nx σ H4
section
variable {X:Cx} {o i e value:Expr} {pos pos' tpos:Pos} {td ty tv:TE}
theorem ps_dput (hu:X.A.units+1 < cLine) (ho:PE X o td) (hi:PE X i ty) (hv:PE X value tv) (hs:swapsWith value (some (.Subscript o i pos')) pos.line X.env=pure false) :
  PS X (.Assign [.Subscript o i pos'] value pos) (sDPut td ty tv):=by
 intro pins s σ H D I h
 refine wpAny_Assign_Subscript (thn (hv pins s σ H _ I h) fun r s1 ⟨v,H1,I1,rv,q1⟩=>thn (ho pins s1 σ H1 _ I1 q1) fun u s2 ⟨x,H2,I2,rx,q2⟩=>thn (hi pins s2 σ H2 _ I2 q2) fun iv s3 ⟨y,H3,I3,ry,a,H4,ex,g,q3⟩=>?_) hs
 subst ex
 obtain rfl:u=Value.ref a:=rx
 exact d_setItem hu I3 g ry rv fun s4 I4=>⟨σ,H4,I4,q3⟩
end
theorem dk_empty {P:Program} {w:World} {H:Hp} (h:Heap) (hb:sysModules < h.objs.size):ObjOk P w H (h.push { cls:=.type "dict",data:=.dict #[] }) h.objs.size (.dK []) :=
 ⟨Nat.zero_le _,beq_eq_false_iff_ne.mpr (Ne.symm (Nat.ne_of_lt hb)),[],.nil,Heap.DictOf.new h⟩
theorem dt_empty {P:Program} {w:World} {H:Hp} (h:Heap) (hb:sysModules < h.objs.size):ObjOk P w H (h.push { cls:=.type "dict",data:=.dict #[] }) h.objs.size (.dT []) :=
 ⟨Nat.zero_le _,beq_eq_false_iff_ne.mpr (Ne.symm (Nat.ne_of_lt hb)),[],.nil,_,#[],0,Heap.get?_push_size _ rfl,⟨rfl,rfl,rfl⟩,rfl,rfl,List.nodup_nil⟩
noncomputable def tDNewK:TE:=fun _ H Q=>∀ p,H p=none→Q (.ref p) (upd H p (.dK []))
noncomputable def tDNewT:TE:=fun _ H Q=>∀ p,H p=none→Q (.ref p) (upd H p (.dT []))
section
variable {X:Cx} {pos:Pos}
theorem pe_dnewK:PE X (.Dict [] [] pos) tDNewK:=fun pins s σ H Q I h =>
 wpAny_Dict_empty ⟨.ref s.heap.objs.size,_,I.laid (a:=s.heap.objs.size) (o:=.dK []) (t':=s.toks) (fun _ _ q=>Heap.get?_push_of_some _ q) (Nat.le_refl _) (dk_empty s.heap I.big),rfl,h _ (I.hok.fresh (Nat.le_refl _))⟩
theorem pe_dnewT:PE X (.Dict [] [] pos) tDNewT:=fun pins s σ H Q I h =>
 wpAny_Dict_empty ⟨.ref s.heap.objs.size,_,I.laid (a:=s.heap.objs.size) (o:=.dT []) (t':=s.toks) (fun _ _ q=>Heap.get?_push_of_some _ q) (Nat.le_refl _) (dt_empty s.heap I.big),rfl,h _ (I.hok.fresh (Nat.le_refl _))⟩
end
structure M1 (X:Cx) (o:Expr) (m:Str) (apos:Pos) (e:Expr) (cpos:Pos):Prop where
 base:attributeBase o m X.env (eval o X.env)=eval o X.env
 few:((backTo cpos (starEach [e] X.env)).all (fun x=>!x.1) && (backToKw cpos (keywordEach [] X.env)).all (fun x=>x.1.isSome)
  && decide (([e]:List Expr).length+([]:List Keyword).length+(if ([]:List Keyword).isEmpty then 0 else 1) < 30))=true
 line:(apos.endLine == cpos.line)=true
 trees:backTo cpos (starEach [e] X.env)=[(false,eval e X.env)]
structure M2 (X:Cx) (o:Expr) (m:Str) (apos:Pos) (e f:Expr) (cpos:Pos):Prop where
 base:attributeBase o m X.env (eval o X.env)=eval o X.env
 few:((backTo cpos (starEach [e,f] X.env)).all (fun x=>!x.1) && (backToKw cpos (keywordEach [] X.env)).all (fun x=>x.1.isSome)
  && decide (([e,f]:List Expr).length+([]:List Keyword).length+(if ([]:List Keyword).isEmpty then 0 else 1) < 30))=true
 line:(apos.endLine == cpos.line)=true
 trees:backTo cpos (starEach [e,f] X.env)=[(false,eval e X.env),(false,eval f X.env)]
noncomputable def IsD (H:Hp) (a:Addr):Prop:=(∃ kvs,Rd H a (.dK kvs))∨∃ kvs,Rd H a (.dT kvs)
theorem isD_at {X:Cx} {pins:List (Addr×Obj)} {σ:St} {H:Hp} {s:Shared} {a:Addr} (I:Inv X pins σ H s) (d:IsD H a) :
  s.TypeIs (.ref a) "dict"∧(∀ b,Value.ref a=.ref b→∃ ob,s.heap.get? b=some ob∧ob.dict=none)∧(a == sysModules)=false:=by
 rcases d with ⟨kvs,e⟩|⟨kvs,e⟩
 ·obtain ⟨_,hd,vs,_,dd⟩:=dk_rd I.hok e
  refine ⟨dd.typeIs,fun b q=>?_,hd⟩
  cases q
  obtain ⟨ob,_,_,h1,h2,_⟩:=dd
  exact ⟨ob,h1,h2.2.1⟩
 ·obtain ⟨_,hd,xs,_,dd⟩:=dt_rd I.hok e
  refine ⟨dd.typeIs,fun b q=>?_,hd⟩
  cases q
  obtain ⟨ob,_,_,h1,h2,_⟩:=dd
  exact ⟨ob,h1,h2.2.1⟩
section
variable {X:Cx} {pins:List (Addr×Obj)} {σ:St} {H:Hp} {s:Shared} {a:Addr} {y d:V} {u r:Value} {o:Option V} {A:Around} {E:Value→Shared→Prop}
theorem d_get2 {Q:Value→Shared→Prop} (hu:A.units+1 < cLine) (I:Inv X pins σ H s) (g:DGet H a y o) (ry:RelV y u) (rd:RelV d r) (h:∀ w' s',Inv X pins σ H s'→RelV (o.getD d) w'→Q w' s') :
  wpAny (model X.prog X.w) A (call (.builtin "dict.get") [.ref a,u,r]) Q E s:=by
 rcases g with ⟨kvs,k,e,ey,l⟩|⟨kvs,k,b,e,ey,eb,l⟩
 ·subst ey
  obtain ⟨z,hd,vs,rel,dd⟩:=dk_rd I.hok e
  refine call_meetsIn PySem.F.slot_dict_get dd.typeIs PySem.F.entry_dict_get (PySem.F.args_dict_get_3 _ _ _) (meets_dict_get_default (mixKind X.prog X.w) a (kV_is ry) hd r) ⟨_,dd.mapOf,h _ _ (I.tok _) ?_⟩
  rw [l]
  exact (rel.val k).getD rd
 ·subst ey
  cases (show u=Value.ref b from ry)
  obtain ⟨z,hd,xs,rel,dd⟩:=dt_rd I.hok e
  refine call_meetsIn PySem.F.slot_dict_get dd.typeIs PySem.F.entry_dict_get (PySem.F.args_dict_get_3 _ _ _) (meetsH_dict_get_default (tupleKind (mixKind X.prog X.w)) a b hd r) ⟨tupleKind_room_in1 hu,k,xs,key_of I.hok eb,dd,h _ _ (I.tok _) ?_⟩
  rw [l]
  exact (rel.val k).getD rd
end
noncomputable def tDGet2 (td ty tx:TE):TE:=fun σ H Q=>td σ H fun x H1=>∃ a,x=.ref a∧IsD H1 a∧ty σ H1 fun y H2=>tx σ H2 fun z H3=>∃ o,DGet H3 a y o∧Q (o.getD z) H3
section
variable {X:Cx} {o e f:Expr} {apos cpos:Pos} {td ty tx:TE}
theorem pe_dget2 (hu:X.A.units+1 < cLine) (ho:PE X o td) (he:PE X e ty) (hf:PE X f tx) (m:M2 X o "get" apos e f cpos):PE X (.Call (.Attribute o "get" apos) [e,f] [] cpos) (tDGet2 td ty tx):=by
 intro pins s σ H Q I h
 refine wpAny_Call_method m.base m.few m.line PySem.F.plainAttrs_dict PySem.F.slot_dict_get PySem.F.type_dict_get (thn (ho pins s σ H _ I h) fun u s1 ⟨x,H1,I1,rx,a,ex,d,q1⟩=>?_)
 subst ex
 obtain rfl:u=Value.ref a:=rx
 obtain ⟨t1,t2,_⟩:=isD_at I1 d
 refine ⟨t1,t2,?_⟩
 rw [m.trees]
 refine Calls.callWith_builtin rfl (Calls.evalArgs_plain (Calls.spliced_cons (thn (he pins s1 σ H1 _ I1 q1) fun iv s2 ⟨y,H2,I2,ry,q2⟩ =>
  Calls.spliced_cons (thn (hf pins s2 σ H2 _ I2 q2) fun fv s3 ⟨z,H3,I3,rz,ov,g,q3⟩=>Calls.spliced_nil ?_))))
 exact d_get2 hu I3 g ry rz fun w' s4 I4 rw'=>⟨_,H3,I4,rw',q3⟩
end
section
variable {X:Cx} {pins:List (Addr×Obj)} {σ:St} {H:Hp} {s:Shared} {a:Addr} {kvs:List (Key×V)} {A:Around} {E:Value→Shared→Prop}
end
section
variable {X:Cx} {pins:List (Addr×Obj)} {σ:St} {H:Hp} {s:Shared} {a:Addr} {y:V} {u:Value} {A:Around} {E:Value→Shared→Prop}
end
end L2
namespace Att
open PySem PySem.W PySem.Calls PyProof.Rows
theorem ints_of_wellAll {P:Params} {h:Heap}:∀ (ns:List Int) (vs:List Value),WellAll P h vs (ns.map WData.int)→IntsAre vs ns:=by
 intro ns
 induction ns with
 | nil =>
  intro vs w
  rw [List.map_nil] at w
  cases w
  exact .nil
 | cons n ns ih =>
  intro vs w
  rw [List.map_cons] at w
  cases w with
  | cons a b =>
   cases a
   exact .cons _ _ (ih _ b)
theorem script_of {l:OpenLaw} {n:Nat} (hn:l.most=some n) {P:Params} {h:Heap} {args:List WData} {vals:List Value}
  (hpre:l.row.toRowW.claim.pre args=true) (hwl:WellAll P h vals args) :
  ∃ a vs ns,vals=[Value.ref a]∧args=[WData.list (ns.map WData.int)]∧h.get? a=some { cls:=.type "list",data:=.seq vs.toArray }∧IntsAre vs ns∧ns.length ≤ n:=by
 have hsh:WShape.hasAll [] args [.list .int]=true:=(pre_splitW hpre).1
 have hc:l.pre.holds [] { args:=args }=true:=(pre_splitW hpre).2
 obtain ⟨d,r,rfl,h1,h2⟩:=hasAllW_cons hsh
 obtain rfl:=hasAllW_nil h2
 obtain ⟨xs,rfl,h3⟩:=hasW_list h1
 obtain ⟨ns,rfl⟩:=items_int h3
 have hlen:ns.length ≤ n:=by
  unfold OpenLaw.pre at hc
  have h4:(WTm.not (.lt (.lit (.int (n:Int))) (.len (.arg 0)))).holds [] { args:=[.list (ns.map .int)] }=true:=by
   have h4:=(holds_andW hc).1
   rw [hn] at h4
   exact h4
  have h5:=condW_of h4 (w_not (w_lt w_lit (w_len_list (w_arg rfl))))
  rw [List.length_map] at h5
  refine Nat.le_of_not_lt fun q=>?_
  have q':(n:Int) < ((ns.length:Nat):Int):=by omega
  first
   | (rw [decide_eq_true q'] at h5; exact absurd h5 (by decide))
   | (simp at h5; omega)
 cases hwl with
 | cons w1 w2 =>
  cases w2
  cases w1 with
  | list ho hall=>exact ⟨_,_,ns,rfl,rfl,ho,ints_of_wellAll ns _ hall,hlen⟩
theorem post_true (l:OpenLaw) (args:List WData):l.row.toRowW.claim.post args (.bool true) args=true :=
 postW_of (r:=l.row.toRowW) (X:=(true == true))
  (show WShape.has [] (.bool true) .bool=true by first|rfl|decide|simp [WShape.has,WShape.arms,WShape.armsAll])
  (show (WTm.eq .res (.lit (.bool true))).value [] { args:=args,res:=some (.bool true),after:=args }=some (.bool (true == true)) from w_eq_bool (w_res rfl) w_lit) rfl
theorem attach_call {l:OpenLaw} {n:Nat} {q:Program} {loose:List Str} {XP:(Str→Option Value)→Heap→Prop} {YP:World→Heap→Prop} {d:DefRec}
  (hn:l.most=some n) (hdf:d.params.defaults=[])
  (call:∀ (w:World) (s₀ s₁:Shared) (mg mb:Str→Option Value) (fa:Addr) (o:Obj) (pm cd doc:Value) (a:Addr) (vs:List Value) (ns:List Int),
   Ground q loose [] XP w s₀ mg mb s₁.heap→YP w s₁.heap →
   s₁.heap.get? fa=some o→o.data=.func (docDef d.name d.params d.body d.scope pm cd doc)→s₁.heap.CodeRec cd d.name→mg d.name=some (.ref fa) →
   s₁.heap.get? a=some { cls:=.type "list",data:=.seq vs.toArray }→IntsAre vs ns→ns.length ≤ n→s₁.gens=#[] →
   codeAny (model l.prog w) callerA (.call (.ref fa) ⟨[.ref a],[]⟩) (fun r s'=>r=.ok (.ret (.bool true))∧OldK s₁.heap s'.heap∧s'.os=s₁.os∧AllBare s'.gens) s₁) :
  WalkO q loose XP YP l.row.toRowW d [] (fun f vs=>PySem.call f vs):=by
 intro w s₀ s₁ mg mb G Y fa o pm cd doc dV kV ho hd hcd hD hmg hg args vals as hpre hlay hrd hwl hlo
 obtain rfl:dV=.none:=Dflts.none hD hdf
 obtain rfl:kV=.none:=Dflts.noKw hD
 obtain ⟨a,vs,ns,rfl,rfl,hobj,hints,hlen⟩:=script_of hn hpre hwl
 refine enter_call (codeAny_mono (call w s₀ s₁ mg mb fa o pm cd doc a vs ns G Y ho (fd_plain hd) hcd hmg hobj hints hlen hg) fun r s' hq=>?_)
 obtain ⟨rfl,h2,h3,h4⟩:=hq
 exact ⟨.inl ⟨.bool true,.bool true,[],rfl,fun _=>rfl,.bool true,post_true l _,fun _=>⟨List.Pairwise.nil,fun _ hm=>(nomatch hm)⟩⟩,h2,h3,h4⟩
section
variable {prog:Program} {w:World} {A:Around} {E:Value→Shared→Prop} {s:Shared} {K:Frag}
noncomputable def ledger (h:Heap) (L d:Addr):List (Addr×Obj):=(List.range h.objs.size).filterMap fun a=>if a=L∨a=d then none else (h.get? a).map fun o=>(a,o)
end
end Att
namespace L2
open PySem PySem.Spec PyProof.Rows
theorem vals_ints:∀ {vs:List Value} {ns:List Int},IntsAre vs ns→Vals (ns.map V.int) vs
 | _,_,.nil=>.nil
 | _,_,.cons n t h=>.cons ⟨t,rfl⟩ (vals_ints h)
noncomputable def Only (H:Hp):Prop:=∀ b,H b=none∨∃ o xs,H b=some (.frz o (.lst xs))
theorem law_call {P:Program} {w:World} {K:PySem.W.Frag} {mg mb:Str→Option Value} {CX:CXT} {k:Nat} {fa a:Addr} {fd:FuncData} {x:Str} {sp:Sp} {s₁:Shared} {vs:List Value} {ns:List Int}
  (KX:K.In s₁.heap) (hns:s₁.heap.Ns mainGlobals mg) (hb:s₁.heap.Ns builtinsNs mb) (hbb:∀ x:Str,x≠"__name__"→mb x=bootBuiltins x) (hlim:s₁.heap.NoLimit) (hg:s₁.gens=#[])
  (ha:s₁.heap.get? a=some { cls:=.type "list",data:=.seq vs.toArray }) (hi:IntsAre vs ns) (hl:ns.length ≤ sizeLine) (hr:Room k callerA)
  (F:∀ base:Heap,K.In base→base.Ns mainGlobals mg→FnOk P w K mg base CX k fa fd [x] sp) (hbind:∀ (s:Shared) (u:Value),BindsTo s fd ⟨[u],[]⟩ [(x,u)])
  (hsp:∀ H:Hp,Only H→SqL K H a (ns.map V.int)→sp [.ref a] H (fun v _=>v=.bl true) fun _ _ _=>False)
  (hCX:∀ H e s',CX [] H s₁ (fun _ _ _=>False) e s'→False) :
  codeAny (model P w) callerA (.call (.ref fa) ⟨[.ref a],[]⟩) (fun r s'=>r=.ok (.ret (.bool true))∧OldK s₁.heap s'.heap∧s'.os=s₁.os∧AllBare s'.gens) s₁:=by
 have rv:=vals_ints hi
 have lenV:=hi.length
 -- from an abstract heap in which nothing but the script may be tracked
 have core:∀ H:Hp,Only H→SqL K H a (ns.map V.int)→HOk P w H s₁.heap→(∀ b,H b≠none→b=a)→(H a≠none→K.lookup a=none) →
   codeAny (model P w) callerA (.call (.ref fa) ⟨[.ref a],[]⟩) (fun r s'=>r=.ok (.ret (.bool true))∧OldK s₁.heap s'.heap∧s'.os=s₁.os∧AllBare s'.gens) s₁:=by
  intro H hO hS hok hA hK
  have base_of:∀ {b:Addr} {o:Obj},s₁.heap.get? b=some o→H b=none→(hidT s₁.heap H).get? b=some o:=fun e n=>hidT_get e n
  have noA:∀ {b:Addr} {o:Obj} {es:Array DictEntry} {ep:Nat},s₁.heap.get? b=some o→o.data=.dict es ep→H b=none:=fun {b o es ep} e d=>by
   cases q:H b with
   | none=>rfl
   | some u =>
    have e':b=a:=hA b (by rw [q]; simp)
    subst e'
    rw [ha] at e; cases e
    have d':Data.seq vs.toArray _=Data.dict es ep:=d
    cases d'
  have nsK:∀ {b:Addr} {m:Str→Option Value},s₁.heap.Ns b m→(hidT s₁.heap H).Ns b m:=fun {b m} ⟨o,es,ep,e,d,r⟩=>⟨o,es,ep,base_of e (noA e d),d,r⟩
  have hKb:K.In (hidT s₁.heap H):=fun b o e=>base_of (KX b o e) (by
   cases q:H b with
   | none=>rfl
   | some u =>
    have e':b=a:=hA b (by rw [q]; simp)
    subst e'
    rw [hK (by rw [q]; simp)] at e; cases e)
  have hM:Mod K mg (hidT s₁.heap H):=⟨hKb,nsK hns,⟨mb,nsK hb,hbb⟩,let ⟨mc,h1,h2⟩:=hlim; ⟨mc,nsK h1,h2⟩⟩
  have e0:Env0 P w K mg (hidT s₁.heap H) callerA [] s₁ H:=⟨rfl,hM,fun b o e=>of_hidT e,Nat.le_of_eq (hidT_size _ _),trivial,fun b hb=>absurd (show b∈([]:List Addr) from hb) (by simp),hok,.of_eq hg⟩
  refine codeAny_mono ((F _ hKb (nsK hns)).run callerA [] s₁ H ⟨[.ref a],[]⟩ [.ref a] [.ref a] _ _ hr e0 (hbind s₁ (.ref a)) (.cons rfl .nil) (hsp H hO hS)) fun r s' h=>?_
  cases r with
  | error e=>exact (hCX H e s' h).elim
  | ok fl =>
   cases fl with
   | next=>exact False.elim h
   | brk=>exact False.elim h
   | cont=>exact False.elim h
   | ret u =>
    obtain ⟨v,H',os,bare,un,hok',r',q⟩:=h
    have q':v=.bl true:=q
    subst q'
    obtain rfl:u=Value.bool true:=r'
    refine ⟨rfl,OldK.of_keep fun b o e=>?_,os,bare⟩
    cases q:H b with
    | none=>exact un.keep b o e q (by intro z; exact absurd (show b∈([]:List Addr) from z) (by simp)) (by simp)
    | some u =>
     rcases hO b with z|⟨ob,xs,z⟩
     ·rw [q] at z; cases z
     ·have z2:=un.frzs b ob _ z
      obtain ⟨e1,_⟩:=hok b _ z
      obtain ⟨e2,_⟩:=hok' b _ z2
      rw [e] at e1; cases e1
      exact e2
 cases hk:K.lookup a with
 | some o =>
  -- the script is one of the module's own objects
  have e:=KX a o hk
  rw [ha] at e
  cases e
  refine core (fun _=>none) (fun _=>.inl rfl) (.inr ⟨_,vs.toArray,_,hk,rfl,rfl,rfl,by rw [List.size_toArray,lenV]; exact hl,by simpa using rv⟩) (fun b u z=>by have z':(none:Option HO)=some u:=z; cases z') (fun b z=>absurd rfl z) fun z=>absurd rfl z
 | none =>
  refine core (fun b=>if b=a then some (.frz { cls:=.type "list",data:=.seq vs.toArray } (.lst (ns.map V.int))) else none) (fun b=>?_) (.inl (.inr ⟨{ cls:=.type "list",data:=.seq vs.toArray },if_pos rfl⟩)) (fun b u z=>?_) (fun b z=>?_) fun _=>hk
  ·by_cases hb:b=a
   ·exact .inr ⟨_,_,if_pos hb⟩
   ·exact .inl (if_neg hb)
  ·by_cases hb:b=a
   ·have z':=(if_pos hb).symm.trans z
    cases z'
    subst hb
    exact ⟨ha,by rw [List.length_map]; exact hl,vs,_,rv,ha⟩
   ·have z':=(if_neg hb).symm.trans z
    cases z'
  ·by_cases hb:b=a
   ·exact hb
   ·exact absurd (if_neg hb) z
end L2
namespace L2
open PySem PySem.Spec PyProof.Rows
noncomputable abbrev KOf {K:PySem.W.Frag} {h:Heap} (_:K.In h):PySem.W.Frag:=K
theorem walk_of {l:PySem.W.OpenLaw} {n k:Nat} {q:Program} {loose:List Str} {XP:(Str→Option Value)→Heap→Prop} {YP:World→Heap→Prop} {d:DefRec} {K:Params→PySem.W.Frag} {CX:World→CXT} {sp:World→Sp} {x:Str}
  (hn:l.most=some n) (hn2:n ≤ sizeLine) (hdf:d.params.defaults=[]) (hr:Room k callerA)
  (hY:∀ (w:World) (h:Heap),YP w h→(K w.params).In h)
  (F:∀ (w:World) (mg:Str→Option Value) (fa:Addr) (h:Heap),(K w.params).In h→h.Ns mainGlobals mg→mg d.name=some (.ref fa) →
   ∃ fd:FuncData,(∀ (s:Shared) (u:Value),BindsTo s fd ⟨[u],[]⟩ [(x,u)]) ∧
    ∀ base:Heap,(K w.params).In base→base.Ns mainGlobals mg→FnOk l.prog w (K w.params) mg base (CX w) k fa fd [x] (sp w))
  (hsp:∀ (w:World) (H:Hp) (a:Addr) (ns:List Int),ns.length ≤ n→Only H→SqL (K w.params) H a (ns.map V.int)→sp w [.ref a] H (fun v _=>v=.bl true) fun _ _ _=>False)
  (hCX:∀ (w:World) (H:Hp) (s:Shared) (e:Value) (s':Shared),CX w [] H s (fun _ _ _=>False) e s'→False) :
  PySem.W.WalkO q loose XP YP l.row.toRowW d [] (fun f vs=>PySem.call f vs):=by
 refine Att.attach_call hn hdf fun w s₀ s₁ mg mb fa o pm cd doc a vs ns G Y ho hd hcd hmg hobj hints hlen hg=>?_
 have KX:=hY w _ Y
 obtain ⟨fd,hb,hF⟩:=F w mg fa _ KX G.T.g hmg
 exact law_call KX G.T.g G.T.b G.T.builtins G.T.nolimit hg hobj hints (Nat.le_trans hlen hn2) hr hF hb (fun H hO hS=>hsp w H a ns hlen hO hS) fun H e s'=>hCX w H s₁ e s'
end L2
/- THE LAST THEOREM (shape; LID,My.* are yours):
   My.Adr: a structure of the addresses that your layer names (classes,functions); My.Txt K t: a structure (Prop) of the equations over K;
   My.txt_mk:{K} {implicit addresses ..} (e1:nsIn K mainGlobals "law"=some (some (.ref f))) (e2:K.lookup f=some ⟨oc,od,.func (fnOf "law" "law" params body scope dV kV doc pm an cdv ct),sl⟩) (e3:codeIn K cdv "law"=true) ..:∃ t,My.Txt K t
set_option maxRecDepth 100000 in
set_option maxHeartbeats 0 in
theorem PySem.Challenge.cw_LID_holds : PySem.Challenge.rw_LID.Holds := by
 w_on; o_law; k_head; (case hw=>w_witness2)
 k_fill
 refine L2.walk_of (l:=PySem.Challenge.rw_LID) (n:=63) (k:=40) (x:="script") (CX:=fun w=>..) (sp:=fun _=>My.sp_law) rfl (by decide) rfl ⟨rfl,by decide,by decide⟩ (fun w h Y=>PySem.W.kIn_of Y) ?F ?S ?C
 case F =>
  intro w mg fa h KX G hmg
  have T:∃ t,My.Txt (L2.KOf KX) t:=by
   dsimp only [L2.KOf]                          -- K must stand as «<heap const> w.params» for k_is
   refine' My.txt_mk ?e1 ?e2 ?e3 ..
   (case e1=>PySem.W.k_is)                    -- in the order: a name -> its address -> its object -> its parts
   (case e2=>PySem.W.k_is)
   ..
  obtain ⟨t,T⟩:=T
  have e0:=hmg.symm.trans (PySem.W.mg_of KX G T.law)
  cases e0                                       -- fa is the law's own address
  exact ⟨_,fun s u=>.of_eq rfl,fun base kb nb=>My.law_fn T kb nb⟩     -- if «.of_eq rfl» comes too early: refine' ⟨_,?b,fun base kb nb=>My.law_fn T kb nb⟩; exact fun s u=>.of_eq rfl
 case S=>exact fun w H a ns hl hO hS=>..
 case C=>exact ..
(the tactic k_is has no namespace: write k_is) -/
namespace L2
open PySem PySem.Spec PyProof.Rows
noncomputable def defArgs (s:Stmt):Arguments:=match s with
 | .FunctionDef _ a _ _ _ _ _ _ _ _=>a
 | _=>{ posonlyargs:=[],args:=[],vararg:=none,kwonlyargs:=[],kw_defaults:=[],kwarg:=none,defaults:=[] }
noncomputable def defBody (s:Stmt):List Stmt:=match s with
 | .FunctionDef _ _ b _ _ _ _ _ _ _=>b
 | _=>[]
noncomputable def defScope (s:Stmt):Scope:=match s with
 | .FunctionDef _ _ _ _ _ _ sc _ _ _=>sc
 | _=>{ kind:=.function,names:=[],isGenerator:=false,isCoroutine:=false }
noncomputable abbrev CX0:CXT:=fun _ _ _ _ _ _=>False
noncomputable abbrev E0:XK:=fun _ _ _=>False
theorem pass0 {X:Cx}:Passes CX0 X E0:=fun _ _ _ _ _ _ _ h=>h.elim
structure Fun (K:PySem.W.Frag) (x qual:Str) (st:Stmt) (f:Addr) (fd:FuncData):Prop where
 ex:∃ (oc:Value) (od:Option Addr) (kV doc pm:Value) (an:Option Addr) (cdv ct:Value) (osl:Array (Option Value)),
  fd=PySem.W.fnOf x qual (defArgs st) (defBody st) (defScope st) .none kV doc pm an cdv ct∧K.lookup f=some ⟨oc,od,.func fd,osl⟩∧PySem.W.codeIn K cdv qual=true
 kp:PySem.W.keepIn K (.ref f)=true
section
variable {P:Program} {w:World} {K:PySem.W.Frag} {mg:Str→Option Value} {base:Heap}
theorem Fun.ok {x qual:Str} {st:Stmt} {f:Addr} {fd:FuncData} {N ps:List Str} {k:Nat} {sp:Sp} (F:Fun K x qual st f fd) (S:FnScope N ps (defScope st)) (len:∀ vs H Q E,sp vs H Q E→vs.length=ps.length)
  (hbody:∀ (cdv:Value) (A:Around) (outer:List Env) (s:Shared) (H:Hp) (vs:List V) (Q:VK) (E:XK),Room k (A.deeper (envOfC qual (defScope st) s.heap.objs.size f cdv))→sp vs H Q E →
   ∃ t,PSs (cxOf CX0 P w K mg base N qual (defScope st) f cdv A outer s H E).nox (defBody st) t∧t { nx:=fun _ H'=>Q .non H',rt:=Q } (start N vs) H):FnOk P w K mg base CX0 (k+1) f fd ps sp:=by
 obtain ⟨oc,od,kV,doc,pm,an,cdv,ct,osl,rfl,lk,hcd⟩:=F.ex
 refine fn_of lk hcd S len fun A outer s H vs Q E hr hsp=>?_
 obtain ⟨t,h,q⟩:=hbody cdv A outer s H vs Q E hr hsp
 exact ⟨t,h.nox,q⟩
theorem Fun.binds {x qual:Str} {st:Stmt} {f:Addr} {fd:FuncData} {ps:List Str} (F:Fun K x qual st f fd)
  (h:∀ (kV doc pm:Value) (an:Option Addr) (cdv ct:Value) (us:List Value),us.length=ps.length→bindArgs (PySem.W.fnOf x qual (defArgs st) (defBody st) (defScope st) .none kV doc pm an cdv ct) ⟨us,[]⟩=pure (ps.zip us)):Binds K fd ps []:=by
 obtain ⟨oc,od,kV,doc,pm,an,cdv,ct,osl,rfl,lk,hcd⟩:=F.ex
 exact .all (h kV doc pm an cdv ct)
theorem fun_mk {x qual:Str} {st:Stmt} {f:Addr} {oc:Value} {od an:Option Addr} {osl:Array (Option Value)} {kV doc pm cdv ct:Value} (l:K.lookup f=some ⟨oc,od,.func (PySem.W.fnOf x qual (defArgs st) (defBody st) (defScope st) .none kV doc pm an cdv ct),osl⟩)
  (c:PySem.W.codeIn K cdv qual=true) (k:PySem.W.keepIn K (.ref f)=true):Fun K x qual st f (PySem.W.fnOf x qual (defArgs st) (defBody st) (defScope st) .none kV doc pm an cdv ct):=⟨⟨oc,od,kV,doc,pm,an,cdv,ct,osl,rfl,l,c⟩,k⟩
end
section
variable {X:Cx}
theorem pv (i:Nat) {x:Str} {pos:Pos} (hN:X.N[i]?=some x:=by rfl) (hv:Vis X.env.scope x:=by trivial) (hd:(x == ("__debug__":Str))=false:=by decide)
  (hcd:(x == ("__classdict__":Str))=false:=by decide):PE X (.Name x pos) (tVar i):=pe_var hN hv hd hcd
end
noncomputable def Same (H H':Hp):Prop:=∀ b o,H b=some o→H' b=some o
theorem Same.refl (H:Hp):Same H H:=fun _ _ h=>h
section
variable {κ:Type} [DecidableEq κ]
end
end L2
set_option Elab.async false
set_option linter.all false
set_option maxRecDepth 100000
set_option maxHeartbeats 4000000
namespace L3
open PySem
inductive D where
 | non|bl (b:Bool)|int (i:Int)|str (x:Str)|tup (xs:List D)|lst (xs:List D)
 | dK (kvs:List (Sum Int Str×D))|dT (kvs:List (List (Sum Int Str)×D))|xc (cls:Str) (fs:List (Str×D))
 deriving Inhabited
inductive En where
 | fz (d:D)|ow (d:D)|br (d:D)|lk (d:D)|od (d:D)
 deriving Inhabited
@[reducible] def En.d:En→D
 | .fz d=>d|.ow d=>d|.br d=>d|.lk d=>d|.od _=>.xc "" []
structure Xc where
 cls:Str
 fs:List (Str×D)
inductive R (α:Type) where
 | ok (a:α)|exc (x:Xc)|stuck
@[reducible] def R.bind {α β:Type} (r:R α) (f:α→R β):R β:=match r with
 | .ok a=>f a|.exc x=>.exc x|.stuck=>.stuck
@[simp] theorem R.bind_ok {α β:Type} (a:α) (f:α→R β):(R.ok a).bind f=f a:=rfl
@[simp] theorem R.bind_exc {α β:Type} (x:Xc) (f:α→R β):(R.exc x:R α).bind f=.exc x:=rfl
@[simp] theorem R.bind_stuck {α β:Type} (f:α→R β):(R.stuck:R α).bind f=.stuck:=rfl
noncomputable abbrev Rho:=List (Option En)
noncomputable abbrev EF:=Rho→R En
noncomputable abbrev TF:=Rho→R Bool
inductive Out where
 | nx (ρ:Rho)|rt (w:En)|bk (ρ:Rho)|ct (ρ:Rho)|exc (x:Xc)|stuck
noncomputable abbrev SF:=Rho→Out
noncomputable abbrev Den:=List En→R En
@[reducible] def En.st:En→R D
 | .fz d=>.ok d|.ow d=>.ok d|_=>.stuck
@[reducible] def En.arg:En→R En
 | .fz d=>.ok (.fz d)|.ow d=>.ok (.fz d)|.br d=>.ok (.br d)|.lk _=>.stuck|.od (.dK kds)=>.ok (.fz (.lst (kds.map Prod.snd)))|.od _=>.stuck
@[reducible] def En.nm:En→R En
 | .fz d=>.ok (.fz d)|.ow d=>.ok (.ow d)|_=>.stuck
noncomputable def stAll:List En→R (List D)
 | []=>.ok []
 | x::r=>x.st.bind fun d=>(stAll r).bind fun ds=>.ok (d::ds)
noncomputable def argAll:List En→R (List En)
 | []=>.ok []
 | x::r=>x.arg.bind fun d=>(argAll r).bind fun ds=>.ok (d::ds)
noncomputable def eVar (i:Nat):EF:=fun ρ=>match ρ[i]? with
 | some (some (.fz d))=>.ok (.fz d)
 | some (some (.ow d))=>.ok (.br d)
 | some (some (.br d))=>.ok (.br d)
 | some (some (.lk d))=>.ok (.fz d)
 | _=>.stuck
noncomputable def eC (d:D):EF:=fun _=>.ok (.fz d)
noncomputable def eOp (g:D→D→R En) (a b:EF):EF:=fun ρ=>(a ρ).bind fun x=>(b ρ).bind fun y=>g x.d y.d
noncomputable def eUn (g:D→R En) (a:EF):EF:=fun ρ=>(a ρ).bind fun x=>g x.d
noncomputable def evs:List EF→Rho→R (List En)
 | [],_=>.ok []
 | a::r,ρ=>(a ρ).bind fun x=>(evs r ρ).bind fun xs=>.ok (x::xs)
noncomputable def sz:Nat:=16777216
noncomputable def eLst (a:List EF):EF:=fun ρ=>(evs a ρ).bind fun xs=>(stAll xs).bind fun ds=>if ds.length ≤ sz then .ok (.ow (.lst ds)) else .stuck
noncomputable def eTup (a:List EF):EF:=fun ρ=>(evs a ρ).bind fun xs=>(stAll xs).bind fun ds=>if ds.length ≤ sz then .ok (.fz (.tup ds)) else .stuck
noncomputable def eCall (den:Den) (a:List EF):EF:=fun ρ=>(evs a ρ).bind fun xs=>(argAll xs).bind fun ys=>den ys
noncomputable def eB (g:List D→R En) (a:List EF):EF:=fun ρ=>(evs a ρ).bind fun xs=>g (xs.map En.d)
@[reducible] def okI (i:Int):R En:=.ok (.fz (.int i))
@[reducible] def okB (b:Bool):R En:=.ok (.fz (.bl b))
noncomputable def dSub:D→D→R En
 | .int i,.int j=>okI (i - j)
 | _,_=>.stuck
noncomputable def fits (b:Nat):Int→Bool
 | .ofNat n=>Nat.ble n b
 | .negSucc n=>Nat.ble n b
theorem fits_iff {b:Nat} {i:Int}:fits b i=true ↔ -((b:Int)+1) ≤ i∧i ≤ b:=by
 cases i with
 | ofNat n =>
  show Nat.ble n b=true ↔ _
  rw [Nat.ble_eq]
  simp only [Int.ofNat_eq_natCast]
  (first|lia|omega)
 | negSucc n =>
  show Nat.ble n b=true ↔ _
  rw [Nat.ble_eq]
  (first|lia|omega)
noncomputable abbrev b64:Nat:=18446744073709551614
noncomputable abbrev b62:Nat:=4611686018427387903
theorem b64e:((b64:Nat):Int)=18446744073709551614:=rfl
theorem b62e:((b62:Nat):Int)=4611686018427387903:=rfl
noncomputable def dMul:D→D→R En
 | .int i,.int j=>if (fits b64 i || fits b64 j)=true then okI (i * j) else .stuck
 | _,_=>.stuck
noncomputable def dMod:D→D→R En
 | .int i,.int j=>if 0 < j then okI (i % j) else .stuck
 | _,_=>.stuck
noncomputable def dDiv:D→D→R En
 | .int i,.int j=>if 0 < j∧j < 1073741824 then okI (i / j) else .stuck
 | _,_=>.stuck
noncomputable def dLt:D→D→R En
 | .int i,.int j=>okB (decide (i < j))
 | _,_=>.stuck
noncomputable def dLe:D→D→R En
 | .int i,.int j=>okB (decide (i ≤ j))
 | _,_=>.stuck
noncomputable def dGt:D→D→R En
 | .int i,.int j=>okB (decide (j < i))
 | _,_=>.stuck
noncomputable def dGe:D→D→R En
 | .int i,.int j=>okB (decide (j ≤ i))
 | _,_=>.stuck
noncomputable def b2i (b:Bool):Int:=if b then 1 else 0
mutual
noncomputable def deq:D→D→Bool
 | .non,.non=>true
 | .bl a,.bl b=>a == b
 | .bl a,.int b=>b2i a == b
 | .int a,.bl b=>a == b2i b
 | .int a,.int b=>a == b
 | .str a,.str b=>a == b
 | .tup a,.tup b=>deqs a b
 | .lst a,.lst b=>deqs a b
 | _,_=>false
noncomputable def deqs:List D→List D→Bool
 | [],[]=>true
 | x::xs,y::ys=>deq x y && deqs xs ys
 | _,_=>false
end
noncomputable def eqokN:Nat→D→Bool
 | _,.non=>true|_,.bl _=>true|_,.int _=>true|_,.str x=>PyData.strOk x
 | n+1,.tup a=>a.all (eqokN n)
 | n+1,.lst a=>a.all (eqokN n)
 | _,_=>false
noncomputable def eqok (d:D):Bool:=eqokN 8 d
noncomputable def dEq (a b:D):R En:=if eqok a && eqok b then okB (deq a b) else .stuck
noncomputable def dNe (a b:D):R En:=if eqok a && eqok b then okB (!deq a b) else .stuck
noncomputable def ixn (n:Nat) (i:Int):Option Nat:=if 0 ≤ i then (if i < n then some i.toNat else none) else if -(n:Int) ≤ i then some (i+n).toNat else none
noncomputable def ati {α:Type} (xs:List α) (i:Int):Option α:=(ixn xs.length i).bind fun j=>xs[j]?
noncomputable def keyOf:D→Option (Sum Int Str)
 | .int i=>some (.inl i)
 | .str x=>some (.inr x)
 | _=>none
noncomputable def keysOf:List D→Option (List (Sum Int Str))
 | []=>some []
 | x::r=>(keyOf x).bind fun k=>(keysOf r).map fun ks=>k::ks
noncomputable def look {κ:Type} [DecidableEq κ] (k:κ):List (κ×D)→Option D
 | []=>none
 | (x,d)::r=>if x=k then some d else look k r
noncomputable def okD (o:Option D):R En:=match o with
 | some d=>.ok (.fz d)
 | none=>.stuck
noncomputable def dList:List D→R En
 | [.lst xs]=>.ok (.ow (.lst xs))
 | [.tup xs]=>.ok (.ow (.lst xs))
 | _=>.stuck
noncomputable def dTuple:List D→R En
 | [.lst xs]=>.ok (.fz (.tup xs))
 | [.tup xs]=>.ok (.fz (.tup xs))
 | _=>.stuck
noncomputable def dMin2:List D→R En
 | [.int i,.int j]=>okI (if j < i then j else i)
 | _=>.stuck
inductive Ty|int|bool|str|list|tuple|dict
noncomputable def tyIs:D→Ty→Bool
 | .int _,.int=>true|.bl _,.int=>true|.bl _,.bool=>true|.str _,.str=>true
 | .lst _,.list=>true|.tup _,.tuple=>true|.dK _,.dict=>true|.dT _,.dict=>true
 | _,_=>false
noncomputable def dIs (t:Ty):D→R En
 | .xc _ _=>.stuck
 | d=>okB (tyIs d t)
noncomputable def truth:D→R Bool
 | .non=>.ok false|.bl b=>.ok b|.int i=>.ok (i != 0)|.str x=>if x.length ≤ sz then .ok ((x.length:Int) != 0) else .stuck
 | .lst xs=>.ok (!xs.isEmpty)|.tup xs=>.ok (!xs.isEmpty)|_=>.stuck
noncomputable def tE (e:EF):TF:=fun ρ=>(e ρ).bind fun x=>truth x.d
noncomputable def tNot (t:TF):TF:=fun ρ=>(t ρ).bind fun b=>.ok (!b)
noncomputable def tAnd (t u:TF):TF:=fun ρ=>(t ρ).bind fun b=>if b=true then u ρ else .ok false
noncomputable def tOr (t u:TF):TF:=fun ρ=>(t ρ).bind fun b=>if b=true then .ok true else u ρ
noncomputable def isB:D→R Bool
 | .bl b=>.ok b
 | _=>.stuck
noncomputable def eNot (e:EF):EF:=fun ρ=>(e ρ).bind fun x=>(isB x.d).bind fun b=>okB (!b)
noncomputable def eAnd (a b:EF):EF:=fun ρ=>(a ρ).bind fun x=>(isB x.d).bind fun c=>if c=true then b ρ else okB false
noncomputable def eOr (a b:EF):EF:=fun ρ=>(a ρ).bind fun x=>(isB x.d).bind fun c=>if c=true then okB true else b ρ
noncomputable def eIf (t:TF) (a b:EF):EF:=fun ρ=>(t ρ).bind fun c=>if c=true then a ρ else b ρ
noncomputable def sNext:SF:=fun ρ=>.nx ρ
noncomputable def sSeq (a b:SF):SF:=fun ρ=>match a ρ with
 | .nx ρ'=>b ρ'
 | o=>o
noncomputable def sOf {α:Type} (r:R α) (k:α→Out):Out:=match r with
 | .ok a=>k a|.exc _=>.stuck|.stuck=>.stuck
noncomputable def sSet (i:Nat) (e:EF):SF:=fun ρ=>sOf ((e ρ).bind En.nm) fun w=>.nx (ρ.set i (some w))
noncomputable def sRet (e:EF):SF:=fun ρ=>sOf ((e ρ).bind En.nm) .rt
noncomputable def sRetV (i:Nat):SF:=fun ρ=>match ρ[i]? with
 | some (some (.fz d))=>.rt (.fz d)
 | some (some (.ow d))=>.rt (.ow d)
 | _=>.stuck
noncomputable def sRetN:SF:=fun _=>.rt (.fz .non)
noncomputable def sIf (t:TF) (a b:SF):SF:=fun ρ=>sOf (t ρ) fun c=>if c=true then a ρ else b ρ
noncomputable def sBreak:SF:=fun ρ=>.bk ρ
noncomputable def sCont:SF:=fun ρ=>.ct ρ
noncomputable def sExpr (e:EF):SF:=fun ρ=>sOf (e ρ) fun _=>.nx ρ
noncomputable def sAug (i:Nat) (g:D→D→R En) (e:EF):SF:=fun ρ=>match ρ[i]? with
 | some (some (.fz x))=>sOf ((e ρ).bind fun y=>(g x y.d).bind En.nm) fun w=>.nx (ρ.set i (some w))
 | _=>.stuck
noncomputable def sApp (i:Nat) (e:EF):SF:=fun ρ=>match ρ[i]? with
 | some (some (.ow (.lst xs)))=>sOf ((e ρ).bind En.st) fun d=>if xs.length < sz then .nx (ρ.set i (some (.ow (.lst (xs++[d]))))) else .stuck
 | _=>.stuck
noncomputable def frz (i:Nat) (ρ:Rho):Rho:=match ρ[i]? with
 | some (some (.ow d))=>ρ.set i (some (.fz d))
 | _=>ρ
noncomputable def sFrz (i:Nat) (s:SF):SF:=fun ρ=>s (frz i ρ)
noncomputable abbrev GF:=D→Rho→R Rho
noncomputable def gV (i:Nat):GF:=fun d ρ=>.ok (ρ.set i (some (.fz d)))
noncomputable def gVs:List Nat→List D→Rho→R Rho
 | [],[],ρ=>.ok ρ
 | i::is,d::ds,ρ=>gVs is ds (ρ.set i (some (.fz d)))
 | _,_,_=>.stuck
noncomputable def gT (is:List Nat):GF:=fun d ρ=>match d with
 | .tup ds=>gVs is ds ρ
 | _=>.stuck
noncomputable def forD (g:GF) (b:SF):List D→Rho→Out
 | [],ρ=>.nx ρ
 | x::xs,ρ=>match g x ρ with
  | .ok ρ1=>(match b ρ1 with
   | .nx ρ2=>forD g b xs ρ2
   | .ct ρ2=>forD g b xs ρ2
   | .bk ρ2=>.nx ρ2
   | o=>o)
  | .exc _=>.stuck
  | .stuck=>.stuck
noncomputable def items:D→R (List D)
 | .lst xs=>.ok xs
 | .tup xs=>.ok xs
 | .dK kvs=>.ok (kvs.map fun p=>match p.1 with|.inl i=>.int i|.inr x=>.str x)
 | _=>.stuck
noncomputable abbrev IF:=Rho→R (List D)
noncomputable def seqOf:D→R (List D)
 | .lst xs=>.ok xs
 | .tup xs=>.ok xs
 | _=>.stuck
noncomputable def iV (i:Nat):IF:=fun ρ=>match ρ[i]? with
 | some (some (.fz d))=>seqOf d
 | some (some (.br d))=>seqOf d
 | _=>.stuck
noncomputable def iVc (i:Nat):IF:=fun ρ=>match ρ[i]? with
 | some (some (.od _))=>.stuck
 | some (some (.lk _))=>.stuck
 | some (some w)=>seqOf w.d
 | _=>.stuck
noncomputable def iSeq (e:EF):IF:=fun ρ=>(e ρ).bind fun w=>w.st.bind seqOf
noncomputable def rngD (lo:Int):Nat→List D
 | 0=>[]
 | n+1=>.int lo::rngD (lo+1) n
noncomputable def iR1 (a:EF):IF:=fun ρ=>(a ρ).bind fun x=>match x.d with
 | .int j=>if fits b62 j=true then .ok (rngD 0 j.toNat) else .stuck
 | _=>.stuck
noncomputable def sFor (it:IF) (g:GF) (b:SF):SF:=fun ρ=>sOf (it ρ) fun xs=>forD g b xs ρ
noncomputable def whileD (t:TF) (b:SF):Nat→Rho→Out
 | 0,_=>.stuck
 | n+1,ρ=>sOf (t ρ) fun c=>if c=true then (match b ρ with
   | .nx ρ2=>whileD t b n ρ2
   | .ct ρ2=>whileD t b n ρ2
   | .bk ρ2=>.nx ρ2
   | o=>o) else .nx ρ
noncomputable def sWhile (n:Nat) (t:TF) (b:SF):SF:=whileD t b n
noncomputable def fin:Out→R En
 | .nx _=>.ok (.fz .non)
 | .rt w=>.ok w
 | .exc x=>.exc x
 | _=>.stuck
noncomputable def den (n:Nat) (b:SF):Den:=fun as=>fin (b (as.map some++List.replicate (n - as.length) none))
noncomputable def isT:R En→Bool
 | .ok (.fz (.bl b))=>b
 | _=>false
end L3
set_option Elab.async false
set_option linter.all false
set_option maxRecDepth 100000
set_option maxHeartbeats 4000000
namespace L3
open PySem PySem.Spec PyProof.Rows L2
noncomputable abbrev St:=L2.St
structure Kx where
 P:Program
 w:World
 K:PySem.W.Frag
noncomputable abbrev kx (X:Cx):Kx:=⟨X.prog,X.w,X.K⟩
noncomputable def SqK (κ:Kx) (F:Hp) (a:Addr) (kvs:List (Key×V)):Prop :=
 Rd F a (.dK kvs)∨(a == sysModules)=false∧∃ (o:Obj) (es:Array DictEntry) (ep:Nat) (vs:List (Key×Value)),κ.K.lookup a=some o∧o.ExactDict∧o.data=.dict es ep ∧
  PySem.KeysOf (mixKind κ.P κ.w) es∧PySem.Pairs (mixKind κ.P κ.w) es.toList vs∧(vs.map (·.1)).Nodup∧KV kvs vs
noncomputable def FnV (κ:Kx) (v:V) (c:Str) (fs:List (Str×D)):Prop:=match fs with
 | [(_,.non)]=>∀ f:Addr,PySem.W.nsIn κ.K mainGlobals c=some (some (.ref f))→v=.ref f
 | _=>True
mutual
noncomputable def Rep (κ:Kx) (F:Hp):V→D→Prop
 | v,.non=>v=.non
 | v,.bl b=>v=.bl b
 | v,.int i=>v=.int i
 | v,.str x=>v=.str x
 | v,.tup ds=>∃ a vs,v=.ref a∧SqT κ.K F a vs∧Reps κ F vs ds
 | v,.lst ds=>∃ a vs,v=.ref a∧SqL κ.K F a vs∧Reps κ F vs ds
 | v,.dK kds=>∃ a kvs,v=.ref a∧SqK κ F a kvs∧RepK κ F kvs kds
 | v,.dT kds=>∃ a kvs,v=.ref a∧Rd F a (.dT kvs)∧RepT κ F kvs kds
 | v,.xc c fs=>FnV κ v c fs
noncomputable def Reps (κ:Kx) (F:Hp):List V→List D→Prop
 | vs,[]=>vs=[]
 | vs,d::ds=>∃ v r,vs=v::r∧Rep κ F v d∧Reps κ F r ds
noncomputable def RepK (κ:Kx) (F:Hp):List (Key×V)→List (Sum Int Str×D)→Prop
 | kvs,[]=>kvs=[]
 | kvs,(k,d)::r=>∃ v kr,kvs=(k,v)::kr∧Rep κ F v d∧RepK κ F kr r
noncomputable def RepT (κ:Kx) (F:Hp):List (List Key×V)→List (List (Sum Int Str)×D)→Prop
 | kvs,[]=>kvs=[]
 | kvs,(k,d)::r=>∃ v kr,kvs=(k,v)::kr∧Rep κ F v d∧RepT κ F kr r
end
noncomputable abbrev Le (F H:Hp):Prop:=∀ a o,F a=some o→H a=some o
theorem Rd.le {F F':Hp} (l:Le F F') {a:Addr} {u:HO} (h:Rd F a u):Rd F' a u:=by
 rcases h with h|⟨o,h⟩
 ·exact .inl (l _ _ h)
 ·exact .inr ⟨o,l _ _ h⟩
theorem SqL.le {K:PySem.W.Frag} {F F':Hp} (l:Le F F') {a:Addr} {vs:List V} (h:SqL K F a vs):SqL K F' a vs:=by
 rcases h with h|h
 ·exact .inl (Rd.le l h)
 ·exact .inr h
theorem SqT.le {K:PySem.W.Frag} {F F':Hp} (l:Le F F') {a:Addr} {vs:List V} (h:SqT K F a vs):SqT K F' a vs:=by
 rcases h with h|h
 ·exact .inl (Rd.le l h)
 ·exact .inr h
theorem SqK.le {κ:Kx} {F F':Hp} (l:Le F F') {a:Addr} {vs:List (Key×V)} (h:SqK κ F a vs):SqK κ F' a vs:=by
 rcases h with h|h
 ·exact .inl (Rd.le l h)
 ·exact .inr h
mutual
theorem Rep.le {κ:Kx} {F F':Hp} (l:Le F F'):∀ (d:D) {v:V},Rep κ F v d→Rep κ F' v d
 | .non,_,h=>h
 | .bl _,_,h=>h
 | .int _,_,h=>h
 | .str _,_,h=>h
 | .tup ds,_,h=>by
  obtain ⟨a,vs,e,q,r⟩:=h
  exact ⟨a,vs,e,SqT.le l q,Reps.le l ds r⟩
 | .lst ds,_,h=>by
  obtain ⟨a,vs,e,q,r⟩:=h
  exact ⟨a,vs,e,SqL.le l q,Reps.le l ds r⟩
 | .dK ds,_,h=>by
  obtain ⟨a,vs,e,q,r⟩:=h
  exact ⟨a,vs,e,SqK.le l q,RepK.le l ds r⟩
 | .dT ds,_,h=>by
  obtain ⟨a,vs,e,q,r⟩:=h
  exact ⟨a,vs,e,Rd.le l q,RepT.le l ds r⟩
 | .xc _ _,_,h=>h
theorem Reps.le {κ:Kx} {F F':Hp} (l:Le F F'):∀ (ds:List D) {vs:List V},Reps κ F vs ds→Reps κ F' vs ds
 | [],_,h=>h
 | d::ds,_,h=>by
  obtain ⟨v,r,e,h1,h2⟩:=h
  exact ⟨v,r,e,Rep.le l d h1,Reps.le l ds h2⟩
theorem RepK.le {κ:Kx} {F F':Hp} (l:Le F F'):∀ (ds:List (Sum Int Str×D)) {vs:List (Key×V)},RepK κ F vs ds→RepK κ F' vs ds
 | [],_,h=>h
 | (k,d)::ds,_,h=>by
  obtain ⟨v,r,e,h1,h2⟩:=h
  exact ⟨v,r,e,Rep.le l d h1,RepK.le l ds h2⟩
theorem RepT.le {κ:Kx} {F F':Hp} (l:Le F F'):∀ (ds:List (List (Sum Int Str)×D)) {vs:List (List Key×V)},RepT κ F vs ds→RepT κ F' vs ds
 | [],_,h=>h
 | (k,d)::ds,_,h=>by
  obtain ⟨v,r,e,h1,h2⟩:=h
  exact ⟨v,r,e,Rep.le l d h1,RepT.le l ds h2⟩
end
section
variable {κ:Kx} {F:Hp}
theorem Reps.length:∀ {ds:List D} {vs:List V},Reps κ F vs ds→vs.length=ds.length
 | [],_,h=>by cases (show _=_ from h); rfl
 | d::ds,_,h=>by
  obtain ⟨v,r,rfl,h1,h2⟩:=h
  simp [Reps.length h2]
theorem Reps.get:∀ {ds:List D} {vs:List V} {i:Nat} {d:D},Reps κ F vs ds→ds[i]?=some d→∃ v,vs[i]?=some v∧Rep κ F v d
 | [],_,_,_,_,e=>by simp at e
 | d::ds,_,0,_,h,e=>by
  obtain ⟨v,r,rfl,h1,h2⟩:=h
  simp at e
  subst e
  exact ⟨v,rfl,h1⟩
 | d::ds,_,i+1,d',h,e=>by
  obtain ⟨v,r,rfl,h1,h2⟩:=h
  obtain ⟨u,e1,e2⟩:=Reps.get (i:=i) (d:=d') h2 (by simpa using e)
  exact ⟨u,by simpa using e1,e2⟩
theorem Reps.append:∀ {ds es:List D} {vs us:List V},Reps κ F vs ds→Reps κ F us es→Reps κ F (vs++us) (ds++es)
 | [],_,_,_,h,k=>by cases (show _=_ from h); exact k
 | d::ds,_,_,_,h,k=>by
  obtain ⟨v,r,rfl,h1,h2⟩:=h
  exact ⟨v,r++_,rfl,h1,Reps.append h2 k⟩
theorem Reps.one {v:V} {d:D} (h:Rep κ F v d):Reps κ F [v] [d]:=⟨v,[],rfl,h,rfl⟩
end
structure Gr (F H F' H':Hp):Prop where
 f:Le F F'
 h:Le H H'
 s:Le F' H'
 n:∀ a,F' a≠none→F a≠none∨H a=none∨∃ xs,H a=some (.tup xs)
theorem Le.refl {F:Hp}:Le F F:=fun _ _ h=>h
theorem Le.trans {F G H:Hp} (a:Le F G) (b:Le G H):Le F H:=fun x o h=>b x o (a x o h)
theorem Gr.refl {F H:Hp} (s:Le F H):Gr F H F H:=⟨Le.refl,Le.refl,s,fun _ h=>.inl h⟩
theorem Le.none {F H:Hp} (l:Le F H) {a:Addr} (h:H a=none):F a=none:=by
 cases e:F a with
 | none=>rfl
 | some o=>rw [l a o e] at h; cases h
theorem Gr.trans {F H F1 H1 F2 H2:Hp} (a:Gr F H F1 H1) (b:Gr F1 H1 F2 H2):Gr F H F2 H2 :=
 ⟨Le.trans a.f b.f,Le.trans a.h b.h,b.s,fun x h=>by
  rcases b.n x h with q|q|⟨xs,q⟩
  ·exact a.n x q
  ·exact .inr (.inl (Le.none a.h q))
  ·cases e:H x with
   | none=>exact .inr (.inl rfl)
   | some o =>
    have:=a.h x o e
    rw [q] at this
    cases this
    exact .inr (.inr ⟨xs,rfl⟩)⟩
theorem Gr.new {F H:Hp} (s:Le F H) {p:Addr} {o:HO} (hp:H p=none):Gr F H F (upd H p o) :=
 ⟨Le.refl,fun a u h=>by rw [upd_ne (ne_of_none h hp)]; exact h,fun a u h=>by rw [upd_ne (ne_of_none (s a u h) hp)]; exact s a u h,fun _ h=>.inl h⟩
theorem Gr.newF {F H:Hp} (s:Le F H) {p:Addr} {o:HO} (hp:H p=none):Gr F H (upd F p o) (upd H p o):=by
 have hf:F p=none:=Le.none s hp
 refine ⟨fun a u h=>by rw [upd_ne (ne_of_none h hf)]; exact h,fun a u h=>by rw [upd_ne (ne_of_none h hp)]; exact h,fun a u h=>?_,fun a h=>?_⟩
 ·by_cases e:a=p
  ·subst e; rw [upd_same] at h ⊢; exact h
  ·rw [upd_ne e] at h ⊢; exact s a u h
 ·by_cases e:a=p
  ·subst e; exact .inr (.inl hp)
  ·rw [upd_ne e] at h; exact .inl h
noncomputable def fzAll (H F' H':Hp):Hp:=fun b=>match H b with
 | none=>H' b
 | some _=>F' b
theorem fzAll_gr {F H F' H':Hp} (s:Le F H) (g:Gr F H F' H'):Gr F H (fzAll H F' H') H'∧Le F' (fzAll H F' H'):=by
 refine ⟨⟨fun a u h=>?_,g.h,fun a u h=>?_,fun a h=>?_⟩,fun a u h=>?_⟩
 ·unfold fzAll; rw [s a u h]; exact g.f a u h
 ·unfold fzAll at h
  cases e:H a with
  | none=>rw [e] at h; exact h
  | some o=>rw [e] at h; exact g.s a u h
 ·cases e:H a with
  | none=>exact .inr (.inl rfl)
  | some o =>
   unfold fzAll at h; rw [e] at h
   rcases g.n a h with q|q|q
   ·exact .inl q
   ·rw [e] at q; cases q
   ·rw [e] at q; exact .inr (.inr q)
 ·unfold fzAll
  cases e:H a with
  | none=>exact g.s a u h
  | some o=>exact h
noncomputable def OwnO (κ:Kx) (F:Hp):HO→D→Prop
 | .lst vs,.lst ds=>Reps κ F vs ds
 | .dK kvs,.dK kds=>RepK κ F kvs kds
 | .dT kvs,.dT kds=>RepT κ F kvs kds
 | _,_=>False
theorem OwnO.le {κ:Kx} {F F':Hp} (l:Le F F') {o:HO} {d:D} (h:OwnO κ F o d):OwnO κ F' o d:=by
 cases o <;> cases d <;> first
  | exact h
  | exact Reps.le l _ h
  | exact RepK.le l _ h
  | exact RepT.le l _ h
noncomputable def RdV (κ:Kx) (F H:Hp) (v:V) (d:D):Prop:=Rep κ F v d∨∃ a o,v=.ref a∧H a=some o∧OwnO κ F o d
noncomputable def Inn (κ:Kx) (H0 F H:Hp):List Addr→List D→Prop
 | [],[]=>True
 | b::bs,e::es=>(∃ us xs,e=.lst xs∧H0 b=none∧F b=none∧H b=some (.lst us)∧Reps κ F us xs)∧Inn κ H0 F H bs es
 | _,_=>False
noncomputable def In2 (κ:Kx) (H0 F H:Hp):List Addr→List (List Addr)→List D→Prop
 | [],[],[]=>True
 | b::bs,cs::css,e::es=>(∃ xs,e=.lst xs∧H0 b=none∧F b=none∧H b=some (.lst (cs.map V.ref))∧Inn κ H0 F H cs xs)∧In2 κ H0 F H bs css es
 | _,_,_=>False
noncomputable def DV2 (κ:Kx) (H F H':Hp) (v:V) (ds:List D):Prop:=∃ a bs,v=.ref a∧H a=none∧F a=none∧(a::bs).Nodup∧H' a=some (.lst (bs.map V.ref))∧Inn κ H F H' bs ds
noncomputable def DV3 (κ:Kx) (H F H':Hp) (v:V) (ds:List D):Prop:=∃ a bs css,v=.ref a∧H a=none∧F a=none∧(a::(bs++css.flatten)).Nodup∧H' a=some (.lst (bs.map V.ref))∧In2 κ H F H' bs css ds
noncomputable def DVp (κ:Kx) (H F H':Hp) (v:V) (ds:List D) (g:D):Prop:=∃ t b us vg,v=.ref t∧H t=none∧H' t=some (.tup [.ref b,vg])∧H b=none∧F b=none∧H' b=some (.lst us)∧Reps κ F us ds∧Rep κ F vg g
noncomputable def DVi (κ:Kx) (H F H':Hp) (v:V) (a:Addr) (dd g:D):Prop:=∃ o,H a=none∧F a=none∧H' a=some o∧OwnO κ F o dd∧Rep κ F v g
noncomputable def DV (κ:Kx) (H F H':Hp) (v:V) (d:D):Prop :=
 (∃ ds,d=.lst ds∧DV2 κ H F H' v ds)∨(∃ kds:List (Sum Int Str×D),d=.dK kds∧DV3 κ H F H' v (kds.map Prod.snd))∨(∃ ds g,d=.tup [.lst ds,g]∧DVp κ H F H' v ds g)∨∃ (a:Addr) (dd g:D),d=.tup [.int (a:Int),dd,g]∧DVi κ H F H' v a dd g
noncomputable def Vok (κ:Kx) (H F' H':Hp) (v:V):En→Prop
 | .fz d=>Rep κ F' v d
 | .ow d=>∃ a o,v=.ref a∧H a=none∧F' a=none∧H' a=some o∧OwnO κ F' o d
 | .br d=>∃ a o,v=.ref a∧H' a=some o∧OwnO κ F' o d
 | .lk _=>False
 | .od d=>DV κ H F' H' v d
section
variable {κ:Kx} {H F F' H' F1 H1 F2 H2:Hp} {v:V} {w:En} {d:D}
theorem Vok.rd (h:Vok κ H F' H' v w):RdV κ F' H' v w.d:=by
 cases w with
 | fz d=>exact .inl h
 | ow d=>obtain ⟨a,o,e,_,_,e2,r⟩:=h; exact .inr ⟨a,o,e,e2,r⟩
 | br d=>obtain ⟨a,o,e,e2,r⟩:=h; exact .inr ⟨a,o,e,e2,r⟩
 | lk d=>exact h.elim
 | od d=>exact .inl trivial
theorem OwnO.noTup {o:HO} (h:OwnO κ F o d):∀ xs,o≠.tup xs:=fun xs z=>by
 subst z
 cases d <;> exact h.elim
theorem Gr.no (g:Gr F H F' H') {a:Addr} {o:HO} (e3:F a=none) (e2:H a=some o) (nt:∀ xs,o≠.tup xs:=by intro _ z; cases z):F' a=none:=by
 cases q:F' a with
 | none=>rfl
 | some u =>
  rcases g.n a (by rw [q]; exact Option.some_ne_none _) with z|z|⟨xs,z⟩
  ·exact absurd e3 z
  ·rw [e2] at z; cases z
  ·rw [e2] at z; cases z; exact absurd rfl (nt xs)
theorem Inn.gr {H0:Hp} (g:Gr F H F' H'):∀ {bs:List Addr} {ds:List D},Inn κ H0 F H bs ds→Inn κ H0 F' H' bs ds
 | [],[],h=>h
 | [],_::_,h=>h
 | _::_,[],h=>h
 | b::bs,e::es,⟨⟨us,xs,e1,h0,hf,hh,r⟩,h⟩=>⟨⟨us,xs,e1,h0,g.no hf hh,g.h _ _ hh,Reps.le g.f _ r⟩,Inn.gr g h⟩
theorem In2.gr {H0:Hp} (g:Gr F H F' H'):∀ {bs:List Addr} {css:List (List Addr)} {ds:List D},In2 κ H0 F H bs css ds→In2 κ H0 F' H' bs css ds
 | [],[],[],h=>h
 | [],_::_,_,h=>by cases h
 | [],[],_::_,h=>by cases h
 | _::_,[],_,h=>by cases h
 | _::_,_::_,[],h=>by cases h
 | b::bs,cs::css,e::es,⟨⟨xs,e1,h0,hf,hh,r⟩,h⟩=>⟨⟨xs,e1,h0,g.no hf hh,g.h _ _ hh,Inn.gr g r⟩,In2.gr g h⟩
theorem Inn.older {G:Hp} (l:∀ a,H a=none→G a=none):∀ {bs:List Addr} {ds:List D},Inn κ H F' H' bs ds→Inn κ G F' H' bs ds
 | [],[],h=>h
 | [],_::_,h=>h
 | _::_,[],h=>h
 | b::bs,e::es,⟨⟨us,xs,e1,h0,r⟩,h⟩=>⟨⟨us,xs,e1,l _ h0,r⟩,Inn.older l h⟩
theorem In2.older {G:Hp} (l:∀ a,H a=none→G a=none):∀ {bs:List Addr} {css:List (List Addr)} {ds:List D},In2 κ H F' H' bs css ds→In2 κ G F' H' bs css ds
 | [],[],[],h=>h
 | [],_::_,_,h=>by cases h
 | [],[],_::_,h=>by cases h
 | _::_,[],_,h=>by cases h
 | _::_,_::_,[],h=>by cases h
 | b::bs,cs::css,e::es,⟨⟨xs,e1,h0,hf,hh,r⟩,h⟩=>⟨⟨xs,e1,l _ h0,hf,hh,Inn.older l r⟩,In2.older l h⟩
theorem Inn.reps {H0 G:Hp}:∀ {bs:List Addr} {ds:List D},Inn κ H0 F H bs ds→(∀ b∈bs,G b=H b)→Le F G→Reps κ G (bs.map V.ref) ds
 | [],[],_,_,_=>rfl
 | [],_::_,h,_,_=>h.elim
 | _::_,[],h,_,_=>h.elim
 | b::bs,e::es,⟨⟨us,xs,e1,_,_,hh,r⟩,h⟩,k,l=>by
  subst e1
  exact ⟨.ref b,bs.map V.ref,rfl,⟨b,us,rfl,SqL.of ((k b (by simp)).trans hh),Reps.le l _ r⟩,Inn.reps h (fun c m=>k c (List.mem_cons_of_mem _ m)) l⟩
theorem In2.reps {H0 G:Hp}:∀ {bs:List Addr} {css:List (List Addr)} {ds:List D},In2 κ H0 F H bs css ds→(∀ b∈bs++css.flatten,G b=H b)→Le F G→Reps κ G (bs.map V.ref) ds
 | [],[],[],_,_,_=>rfl
 | [],_::_,_,h,_,_=>by cases h
 | [],[],_::_,h,_,_=>by cases h
 | _::_,[],_,h,_,_=>by cases h
 | _::_,_::_,[],h,_,_=>by cases h
 | b::bs,cs::css,e::es,⟨⟨xs,e1,_,_,hh,r⟩,h⟩,k,l=>by
  subst e1
  have sub:∀ c∈bs++css.flatten,c∈(b::bs)++(cs::css).flatten:=fun c m=>by
   rw [List.flatten_cons]
   rcases List.mem_append.mp m with m|m
   ·exact List.mem_append_left _ (List.mem_cons_of_mem _ m)
   ·exact List.mem_append_right _ (List.mem_append_right _ m)
  have subc:∀ c∈cs,c∈(b::bs)++(cs::css).flatten:=fun c m=>by
   rw [List.flatten_cons]
   exact List.mem_append_right _ (List.mem_append_left _ m)
  exact ⟨.ref b,bs.map V.ref,rfl,⟨b,cs.map V.ref,rfl,SqL.of ((k b (by simp)).trans hh),Inn.reps r (fun c m=>k c (subc c m)) l⟩,In2.reps h (fun c m=>k c (sub c m)) l⟩
theorem DV.gr (g:Gr F1 H1 F2 H2) (h:DV κ H F1 H1 v d):DV κ H F2 H2 v d:=by
 rcases h with ⟨ds,e,a,bs,e1,h0,hf,nd,hh,i⟩|⟨ds,e,a,bs,css,e1,h0,hf,nd,hh,i⟩|⟨ds,y,e,t,b,us,vg,e1,t0,th,b0,bf,bh,rs,r⟩|⟨a,dd,y,e,o,h0,hf,hh,ro,r⟩
 ·exact .inl ⟨ds,e,a,bs,e1,h0,g.no hf hh,nd,g.h _ _ hh,Inn.gr g i⟩
 ·exact .inr (.inl ⟨ds,e,a,bs,css,e1,h0,g.no hf hh,nd,g.h _ _ hh,In2.gr g i⟩)
 ·exact .inr (.inr (.inl ⟨ds,y,e,t,b,us,vg,e1,t0,g.h _ _ th,b0,g.no bf bh,g.h _ _ bh,Reps.le g.f _ rs,Rep.le g.f _ r⟩))
 ·exact .inr (.inr (.inr ⟨a,dd,y,e,o,h0,g.no hf hh (OwnO.noTup ro),g.h _ _ hh,OwnO.le g.f ro,Rep.le g.f _ r⟩))
theorem DV.older {G:Hp} (l:∀ a,H a=none→G a=none) (h:DV κ H F' H' v d):DV κ G F' H' v d:=by
 rcases h with ⟨ds,e,a,bs,e1,h0,hf,nd,hh,i⟩|⟨ds,e,a,bs,css,e1,h0,hf,nd,hh,i⟩|⟨ds,y,e,t,b,us,vg,e1,t0,th,b0,bf,bh,rs,r⟩|⟨a,dd,y,e,o,h0,hf,hh,ro,r⟩
 ·exact .inl ⟨ds,e,a,bs,e1,l _ h0,hf,nd,hh,Inn.older l i⟩
 ·exact .inr (.inl ⟨ds,e,a,bs,css,e1,l _ h0,hf,nd,hh,In2.older l i⟩)
 ·exact .inr (.inr (.inl ⟨ds,y,e,t,b,us,vg,e1,l _ t0,th,l _ b0,bf,bh,rs,r⟩))
 ·exact .inr (.inr (.inr ⟨a,dd,y,e,o,l _ h0,hf,hh,ro,r⟩))
theorem Vok.gr (g:Gr F1 H1 F2 H2) (h:Vok κ H F1 H1 v w):Vok κ H F2 H2 v w:=by
 cases w with
 | fz d=>exact Rep.le g.f d h
 | ow d =>
  obtain ⟨a,o,e,e1,e3,e2,r⟩:=h
  exact ⟨a,o,e,e1,g.no e3 e2 (OwnO.noTup r),g.h _ _ e2,OwnO.le g.f r⟩
 | br d=>obtain ⟨a,o,e,e2,r⟩:=h; exact ⟨a,o,e,g.h _ _ e2,OwnO.le g.f r⟩
 | lk d=>exact h
 | od d=>exact DV.gr g h
theorem RdV.gr (g:Gr F1 H1 F2 H2) (h:RdV κ F1 H1 v d):RdV κ F2 H2 v d:=by
 rcases h with h|⟨a,o,e,e2,r⟩
 ·exact .inl (Rep.le g.f d h)
 ·exact .inr ⟨a,o,e,g.h _ _ e2,OwnO.le g.f r⟩
theorem own_none {o:HO} (h:OwnO κ F o d):(∃ ds,d=.lst ds)∨(∃ ds,d=.dK ds)∨∃ ds,d=.dT ds:=by
 cases o <;> cases d <;> first
  | exact h.elim
  | exact .inl ⟨_,rfl⟩
  | exact .inr (.inl ⟨_,rfl⟩)
  | exact .inr (.inr ⟨_,rfl⟩)
theorem RdV.flat (h:RdV κ F H v d) (n1:∀ ds,d≠.lst ds) (n2:∀ ds,d≠.dK ds) (n3:∀ ds,d≠.dT ds):Rep κ F v d:=by
 rcases h with h|⟨a,o,e,e2,r⟩
 ·exact h
 ·rcases own_none r with ⟨ds,z⟩|⟨ds,z⟩|⟨ds,z⟩
  ·exact absurd z (n1 ds)
  ·exact absurd z (n2 ds)
  ·exact absurd z (n3 ds)
theorem RdV.int {i:Int} (h:RdV κ F H v (.int i)):v=.int i:=RdV.flat h (fun _ e=>nomatch e) (fun _ e=>nomatch e) fun _ e=>nomatch e
theorem RdV.bl {b:Bool} (h:RdV κ F H v (.bl b)):v=.bl b:=RdV.flat h (fun _ e=>nomatch e) (fun _ e=>nomatch e) fun _ e=>nomatch e
theorem RdV.str {x:Str} (h:RdV κ F H v (.str x)):v=.str x:=RdV.flat h (fun _ e=>nomatch e) (fun _ e=>nomatch e) fun _ e=>nomatch e
theorem RdV.non (h:RdV κ F H v .non):v=.non:=RdV.flat h (fun _ e=>nomatch e) (fun _ e=>nomatch e) fun _ e=>nomatch e
theorem RdV.tup {ds:List D} (s:Le F H) (h:RdV κ F H v (.tup ds)):∃ a vs,v=.ref a∧SqT κ.K H a vs∧SqT κ.K F a vs∧Reps κ F vs ds:=by
 obtain ⟨a,vs,e,q,r⟩:=RdV.flat h (fun _ e=>nomatch e) (fun _ e=>nomatch e) fun _ e=>nomatch e
 exact ⟨a,vs,e,SqT.le s q,q,r⟩
theorem RdV.lst {ds:List D} (s:Le F H) (h:RdV κ F H v (.lst ds)):∃ a vs,v=.ref a∧SqL κ.K H a vs∧Reps κ F vs ds:=by
 rcases h with ⟨a,vs,e,q,r⟩|⟨a,o,e,e2,r⟩
 ·exact ⟨a,vs,e,SqL.le s q,r⟩
 ·cases o with
  | lst vs=>exact ⟨a,vs,e,SqL.of e2,r⟩
  | _=>exact r.elim
theorem RdV.dK {ds:List (Sum Int Str×D)} (s:Le F H) (h:RdV κ F H v (.dK ds)):∃ a kvs,v=.ref a∧SqK κ H a kvs∧RepK κ F kvs ds:=by
 rcases h with ⟨a,vs,e,q,r⟩|⟨a,o,e,e2,r⟩
 ·exact ⟨a,vs,e,SqK.le s q,r⟩
 ·cases o with
  | dK vs=>exact ⟨a,vs,e,.inl (.inl e2),r⟩
  | _=>exact r.elim
theorem Vok.st (s:Le F H) (g:Gr F H F' H') (h:Vok κ H F' H' v w) (e:w.st=.ok d):Rep κ (fzAll H F' H') v d:=by
 obtain ⟨_,l⟩:=fzAll_gr s g
 cases w with
 | fz d'=>cases e; exact Rep.le l d h
 | ow d' =>
  cases e
  obtain ⟨a,o,ea,e1,e3,e2,r⟩:=h
  have q:fzAll H F' H' a=some o:=by unfold fzAll; rw [e1]; exact e2
  have r:=OwnO.le l r
  cases o <;> cases d <;> first
   | exact r.elim
   | exact ⟨a,_,ea,.inl (.inl q),r⟩
   | exact ⟨a,_,ea,.inl q,r⟩
 | br d'=>cases e
 | lk d'=>cases e
 | od d'=>cases e
end
noncomputable def Voks (κ:Kx) (H F' H':Hp):List V→List En→Prop
 | vs,[]=>vs=[]
 | vs,w::ws=>∃ v r,vs=v::r∧Vok κ H F' H' v w∧Voks κ H F' H' r ws
section
variable {κ:Kx} {H F F' H' F1 H1 F2 H2:Hp}
theorem Vok.older {G:Hp} (l:∀ a,H a=none→G a=none) {v:V} {w:En} (h:Vok κ H F' H' v w):Vok κ G F' H' v w:=by
 cases w with
 | fz d=>exact h
 | ow d=>obtain ⟨a,o,e,e1,r⟩:=h; exact ⟨a,o,e,l a e1,r⟩
 | br d=>exact h
 | lk d=>exact h
 | od d=>exact DV.older l h
theorem Voks.older {G:Hp} (l:∀ a,H a=none→G a=none):∀ {ws:List En} {vs:List V},Voks κ H F' H' vs ws→Voks κ G F' H' vs ws
 | [],_,h=>h
 | w::ws,_,h=>by
  obtain ⟨v,r,e,h1,h2⟩:=h
  exact ⟨v,r,e,Vok.older l h1,Voks.older l h2⟩
theorem Voks.stAll (s:Le F H) (g:Gr F H F' H'):∀ {ws:List En} {vs:List V} {ds:List D},Voks κ H F' H' vs ws→stAll ws=.ok ds→Reps κ (fzAll H F' H') vs ds
 | [],_,_,h,e=>by cases e; exact h
 | w::ws,_,ds,h,e=>by
  obtain ⟨v,r,rfl,h1,h2⟩:=h
  unfold L3.stAll at e
  cases e1:w.st with
  | ok d =>
   cases e2:L3.stAll ws with
   | ok ds' =>
    rw [e1,e2] at e
    cases e
    exact ⟨v,r,rfl,Vok.st s g h1 e1,Voks.stAll s g h2 e2⟩
   | exc x=>rw [e1,e2] at e; cases e
   | stuck=>rw [e1,e2] at e; cases e
  | exc x=>rw [e1] at e; cases e
  | stuck=>rw [e1] at e; cases e
theorem Voks.rd:∀ {ws:List En} {vs:List V},Voks κ H F' H' vs ws→Paired (RdV κ F' H') vs (ws.map En.d)
 | [],_,h=>by cases (show _=_ from h); exact .nil
 | w::ws,_,h=>by
  obtain ⟨v,r,rfl,h1,h2⟩:=h
  exact .cons (Vok.rd h1) (Voks.rd h2)
end
noncomputable def DeepI (κ:Kx) (F H:Hp) (a:Addr) (bs:List Addr) (xs:List D):Prop:=bs=[]∧∃ o d,xs=[.int (a:Int),d]∧H a=some o∧OwnO κ F o d
noncomputable def Deep (κ:Kx) (H0 F H:Hp) (a:Addr) (bs:List Addr):D→Prop
 | .lst ds=>H a=some (.lst (bs.map V.ref))∧Inn κ H0 F H bs ds
 | .dT kds=>H a=some (.dT ((kds.map Prod.fst).zip (bs.map V.ref)))∧Inn κ H0 F H bs (kds.map Prod.snd)
 | .dK kds=>∃ b1 css,bs=b1++List.flatten css∧H a=some (.lst (b1.map V.ref))∧In2 κ H0 F H b1 css (kds.map Prod.snd)
 | .tup xs=>DeepI κ F H a bs xs
 | _=>False
noncomputable def RawT (F:Hp) (v:V):Prop:=∃ a ob kvs,v=.ref a∧F a=some (.frz ob (.dT kvs))
theorem RawT.le {F F':Hp} (l:Le F F') {v:V} (h:RawT F v):RawT F' v:=let ⟨a,ob,kvs,e,q⟩:=h; ⟨a,ob,kvs,e,l _ _ q⟩
noncomputable def Eok (κ:Kx) (H0 F H:Hp) (v:V):En→Prop
 | .fz d=>Rep κ F v d
 | .ow d=>∃ a o,v=.ref a∧H0 a=none∧F a=none∧H a=some o∧OwnO κ F o d
 | .lk d=>Rep κ F v d∧RawT F v
 | .br d=>∃ a o,v=.ref a∧H0 a=some o∧OwnO κ F o d
 | .od _=>∃ a o,v=.ref a∧H0 a=none∧F a=none∧H a=some o∧∀ xs,o≠.tup xs
noncomputable def En.own:En→Bool
 | .ow _=>true|.od _=>true|_=>false
noncomputable def shal (i:Nat) (ρ:Rho):Prop:=∀ (j:Nat) (d:D),j≠i→ρ[j]?≠some (some (.od d))
structure StOk (κ:Kx) (F0 H0 F H:Hp) (ρ:Rho) (σ:St):Prop where
 gr:Gr F0 H0 F H
 len:ρ.length=σ.length
 val:∀ (i:Nat) (w:En),ρ[i]?=some (some w)→∃ v,σ[i]?=some (some v)∧Eok κ H0 F H v w
 sep:∀ (i j:Nat) (w w':En) (a:Addr),i≠j→ρ[i]?=some (some w)→ρ[j]?=some (some w')→w.own=true→w'.own=true→σ[i]?=some (some (.ref a))→σ[j]?=some (some (.ref a))→False
 dp:∀ (i:Nat) (d:D),ρ[i]?=some (some (.od d))→shal i ρ∧∃ a bs,σ[i]?=some (some (.ref a))∧H0 a=none∧F a=none∧(a::bs).Nodup∧Deep κ H0 F H a bs d ∧
  ∀ (j:Nat) (w:En) (b:Addr),j≠i→ρ[j]?=some (some w)→w.own=true→b∈a::bs→σ[j]?≠some (some (.ref b))
section
variable {κ:Kx} {F0 H0 F H F' H':Hp} {ρ:Rho} {σ:St}
theorem Deep.gr (g:Gr F H F' H') {a:Addr} {bs:List Addr} {d:D} (h:Deep κ H0 F H a bs d):Deep κ H0 F' H' a bs d:=by
 cases d <;> first|exact (False.elim h)|exact ⟨g.h _ _ h.1,Inn.gr g h.2⟩|skip
 ·obtain ⟨e,o,d,ex,h1,h2⟩:=h
  exact ⟨e,o,d,ex,g.h _ _ h1,OwnO.le g.f h2⟩
 obtain ⟨b1,css,e,h1,h2⟩:=h
 exact ⟨b1,css,e,g.h _ _ h1,In2.gr g h2⟩
theorem Inn.at:∀ {bs:List Addr} {ds:List D} {b:Addr},Inn κ H0 F H bs ds→b∈bs→∃ us,H0 b=none∧F b=none∧H b=some (.lst us)
 | [],_,_,_,m=>by cases m
 | _::_,[],_,h,_=>h.elim
 | c::bs,e::es,b,⟨⟨us,xs,e1,h0,hf,hh,r⟩,h⟩,m=>by
  rcases List.mem_cons.mp m with rfl|m
  ·exact ⟨us,h0,hf,hh⟩
  ·exact Inn.at h m
theorem In2.at:∀ {bs:List Addr} {css:List (List Addr)} {ds:List D} {b:Addr},In2 κ H0 F H bs css ds→b∈bs++css.flatten→∃ us,H0 b=none∧F b=none∧H b=some (.lst us)
 | [],[],[],_,_,m=>by simp at m
 | [],_::_,_,_,h,_=>by cases h
 | [],[],_::_,_,h,_=>by cases h
 | _::_,[],_,_,h,_=>by cases h
 | _::_,_::_,[],_,h,_=>by cases h
 | c::bs,cs::css,e::es,b,⟨⟨xs,e1,h0,hf,hh,r⟩,h⟩,m=>by
  rw [List.flatten_cons,List.cons_append] at m
  rcases List.mem_cons.mp m with rfl|m
  ·exact ⟨_,h0,hf,hh⟩
  ·rcases List.mem_append.mp m with m|m
   ·exact In2.at h (List.mem_append_left _ m)
   ·rcases List.mem_append.mp m with m|m
    ·exact Inn.at r m
    ·exact In2.at h (List.mem_append_right _ m)
theorem Deep.top {a:Addr} {bs:List Addr} {d:D} (h:Deep κ H0 F H a bs d):∃ o,H a=some o∧∀ xs,o≠.tup xs:=by
 cases d <;> first|exact (False.elim h)|exact ⟨_,h.1,fun _ z=>nomatch z⟩|skip
 ·obtain ⟨e,o,d,ex,h1,h2⟩:=h
  exact ⟨o,h1,OwnO.noTup h2⟩
 obtain ⟨b1,css,e,h1,h2⟩:=h
 exact ⟨_,h1,fun _ z=>nomatch z⟩
theorem Deep.inn {a b:Addr} {bs:List Addr} {d:D} (h:Deep κ H0 F H a bs d) (m:b∈bs):∃ us,H0 b=none∧F b=none∧H b=some (.lst us):=by
 cases d <;> first|exact (False.elim h)|exact Inn.at h.2 m|skip
 ·obtain ⟨e,_⟩:=h
  subst e
  cases m
 obtain ⟨b1,css,e,h1,h2⟩:=h
 subst e
 exact In2.at h2 m
theorem Inn.same {G G':Hp}:∀ {bs:List Addr} {ds:List D},(∀ b∈bs,H b=H' b)→(∀ b∈bs,F b=none→F' b=none)→Le F F'→Inn κ H0 F H bs ds→Inn κ H0 F' H' bs ds
 | [],[],_,_,_,h=>h
 | [],_::_,_,_,_,h=>h
 | _::_,[],_,_,_,h=>h
 | b::bs,e::es,k,n,l,⟨⟨us,xs,e1,h0,hf,hh,r⟩,h⟩ =>
  ⟨⟨us,xs,e1,h0,n b (by simp) hf,(k b (by simp)).symm.trans hh,Reps.le l _ r⟩,Inn.same (G:=G) (G':=G') (fun c m=>k c (List.mem_cons_of_mem _ m)) (fun c m=>n c (List.mem_cons_of_mem _ m)) l h⟩
theorem In2.same:∀ {bs:List Addr} {css:List (List Addr)} {ds:List D},(∀ b∈bs++css.flatten,H b=H' b)→(∀ b∈bs++css.flatten,F b=none→F' b=none)→Le F F'→In2 κ H0 F H bs css ds→In2 κ H0 F' H' bs css ds
 | [],[],[],_,_,_,h=>h
 | [],_::_,_,_,_,_,h=>by cases h
 | [],[],_::_,_,_,_,h=>by cases h
 | _::_,[],_,_,_,_,h=>by cases h
 | _::_,_::_,[],_,_,_,h=>by cases h
 | b::bs,cs::css,e::es,k,n,l,⟨⟨xs,e1,h0,hf,hh,r⟩,h⟩=>by
  have sub:∀ c∈bs++css.flatten,c∈(b::bs)++(cs::css).flatten:=fun c m=>by
   rw [List.flatten_cons]
   rcases List.mem_append.mp m with m|m
   ·exact List.mem_append_left _ (List.mem_cons_of_mem _ m)
   ·exact List.mem_append_right _ (List.mem_append_right _ m)
  have subc:∀ c∈cs,c∈(b::bs)++(cs::css).flatten:=fun c m=>by
   rw [List.flatten_cons]
   exact List.mem_append_right _ (List.mem_append_left _ m)
  exact ⟨⟨xs,e1,h0,n b (by simp) hf,(k b (by simp)).symm.trans hh,Inn.same (G:=H) (G':=H) (fun c m=>k c (subc c m)) (fun c m=>n c (subc c m)) l r⟩,In2.same (fun c m=>k c (sub c m)) (fun c m=>n c (sub c m)) l h⟩
theorem Deep.same {a:Addr} {bs:List Addr} {d:D} (k:∀ b∈a::bs,H b=H' b) (n:∀ b∈bs,F b=none→F' b=none) (l:Le F F') (h:Deep κ H0 F H a bs d):Deep κ H0 F' H' a bs d:=by
 cases d <;> first|exact (False.elim h)|exact ⟨(k a (by simp)).symm.trans h.1,Inn.same (G:=H) (G':=H) (fun c m=>k c (List.mem_cons_of_mem _ m)) n l h.2⟩|skip
 ·obtain ⟨e,o,d,ex,h1,h2⟩:=h
  exact ⟨e,o,d,ex,(k a (by simp)).symm.trans h1,OwnO.le l h2⟩
 obtain ⟨b1,css,e,h1,h2⟩:=h
 subst e
 exact ⟨b1,css,rfl,(k a (by simp)).symm.trans h1,In2.same (fun c m=>k c (List.mem_cons_of_mem _ m)) n l h2⟩
theorem Eok.gr (g:Gr F H F' H') {v:V} {w:En} (h:Eok κ H0 F H v w):Eok κ H0 F' H' v w:=by
 cases w with
 | fz d=>exact Rep.le g.f d h
 | ow d=>obtain ⟨a,o,e,e1,e3,e2,r⟩:=h; exact ⟨a,o,e,e1,g.no e3 e2 (OwnO.noTup r),g.h _ _ e2,OwnO.le g.f r⟩
 | lk d=>exact ⟨Rep.le g.f d h.1,RawT.le g.f h.2⟩
 | br d=>obtain ⟨a,o,e,e2,r⟩:=h; exact ⟨a,o,e,e2,OwnO.le g.f r⟩
 | od d=>obtain ⟨a,o,e,e1,e3,e2,nt⟩:=h; exact ⟨a,o,e,e1,g.no e3 e2 nt,g.h _ _ e2,nt⟩
theorem StOk.grow (S:StOk κ F0 H0 F H ρ σ) (g:Gr F H F' H'):StOk κ F0 H0 F' H' ρ σ :=
 ⟨S.gr.trans g,S.len,fun i w e=>let ⟨v,e1,q⟩:=S.val i w e; ⟨v,e1,Eok.gr g q⟩,S.sep,fun i d e=>by
  obtain ⟨s1,a,bs,e1,h0,hf,nd,dp,sp⟩:=S.dp i d e
  obtain ⟨o,ho,nt⟩:=Deep.top dp
  exact ⟨s1,a,bs,e1,h0,g.no hf ho nt,nd,Deep.gr g dp,sp⟩⟩
theorem StOk.s (S:StOk κ F0 H0 F H ρ σ):Le F H:=S.gr.s
theorem set_get {α:Type} {l:List α} {i j:Nat} {x y:α} (h:(l.set i x)[j]?=some y):(j=i∧y=x)∨(j≠i∧l[j]?=some y):=by
 by_cases e:j=i
 ·subst e
  by_cases hl:j < l.length
  ·rw [List.getElem?_set_self hl] at h; cases h; exact .inl ⟨rfl,rfl⟩
  ·rw [List.getElem?_eq_none (by rw [List.length_set]; (first|lia|omega))] at h; cases h
 ·rw [List.getElem?_set_ne (Ne.symm e)] at h; exact .inr ⟨e,h⟩
theorem StOk.setF (S:StOk κ F0 H0 F H ρ σ) {i:Nat} {v:V} {d:D} (r:Rep κ F v d):StOk κ F0 H0 F H (ρ.set i (some (.fz d))) (σ.set i (some v)):=by
 refine ⟨S.gr,by simp [S.len],fun j w e=>?_,fun j k w w' a hjk ej ek oj ok sj sk=>?_,fun j y e=>?_⟩
 ·rcases set_get e with ⟨rfl,z⟩|⟨ne,z⟩
  ·cases z
   have hl:j < σ.length:=by
    rw [← S.len]
    have:=(List.getElem?_eq_some_iff.mp e).1
    simpa using this
   exact ⟨v,List.getElem?_set_self hl,r⟩
  ·obtain ⟨u,e1,q⟩:=S.val j w z
   exact ⟨u,by rw [List.getElem?_set_ne (Ne.symm ne)]; exact e1,q⟩
 ·rcases set_get ej with ⟨_,z⟩|⟨nj,ej⟩
  ·cases z; cases oj
  rcases set_get ek with ⟨_,z⟩|⟨nk,ek⟩
  ·cases z; cases ok
  rw [List.getElem?_set_ne (Ne.symm nj)] at sj
  rw [List.getElem?_set_ne (Ne.symm nk)] at sk
  exact S.sep j k w w' a hjk ej ek oj ok sj sk
 ·rcases set_get e with ⟨_,z⟩|⟨nj,ej⟩
  ·cases z
  obtain ⟨s1,a,bs,e1,h0,hf,nd,dp,sp⟩:=S.dp j y ej
  refine ⟨fun k z hk ek=>?_,a,bs,by rw [List.getElem?_set_ne (Ne.symm nj)]; exact e1,h0,hf,nd,dp,fun k w b hk ek ok m sk=>?_⟩
  ·rcases set_get ek with ⟨_,q⟩|⟨_,q⟩
   ·cases q
   ·exact s1 k z hk q
  ·rcases set_get ek with ⟨_,q⟩|⟨nk,q⟩
   ·cases q; cases ok
   ·rw [List.getElem?_set_ne (Ne.symm nk)] at sk
    exact sp k w b hk q ok m sk
theorem StOk.setO (S:StOk κ F0 H0 F H ρ σ) {i:Nat} {a:Addr} {o:HO} {d:D} (h0:H0 a=none) (hf:F a=none) (ha:H a=some o) (r:OwnO κ F o d)
  (nw:∀ (j:Nat) (w:En),j≠i→ρ[j]?=some (some w)→w.own=true→σ[j]?≠some (some (.ref a)))
  (nw2:∀ (j:Nat) (y:D),j≠i→ρ[j]?=some (some (.od y))→shal j ρ∧∃ c bs,σ[j]?=some (some (.ref c))∧H0 c=none∧F c=none∧(c::bs).Nodup∧Deep κ H0 F H c bs y ∧
   (∀ (k:Nat) (w:En) (b:Addr),k≠j→ρ[k]?=some (some w)→w.own=true→b∈c::bs→σ[k]?≠some (some (.ref b)))∧a ∉ c::bs):StOk κ F0 H0 F H (ρ.set i (some (.ow d))) (σ.set i (some (.ref a))):=by
 refine ⟨S.gr,by simp [S.len],fun j w e=>?_,fun j k w w' b hjk ej ek oj ok sj sk=>?_,fun j y e=>?_⟩
 ·rcases set_get e with ⟨rfl,z⟩|⟨ne,z⟩
  ·cases z
   have hl:j < σ.length:=by
    rw [← S.len]
    have:=(List.getElem?_eq_some_iff.mp e).1
    simpa using this
   exact ⟨.ref a,List.getElem?_set_self hl,a,o,rfl,h0,hf,ha,r⟩
  ·obtain ⟨u,e1,q⟩:=S.val j w z
   exact ⟨u,by rw [List.getElem?_set_ne (Ne.symm ne)]; exact e1,q⟩
 ·have at_:∀ {m:Nat},m≠i→(σ.set i (some (.ref a)))[m]?=some (some (.ref b))→σ[m]?=some (some (.ref b)):=fun {m} hm h=>by
   rw [List.getElem?_set_ne (Ne.symm hm)] at h; exact h
  rcases set_get ej with ⟨e1,z⟩|⟨nj,ej'⟩
  ·rcases set_get ek with ⟨e2,_⟩|⟨nk,ek'⟩
   ·exact hjk (e1.trans e2.symm)
   ·subst e1
    have hl:j < σ.length:=by have:=(List.getElem?_eq_some_iff.mp sj).1; simpa using this
    rw [List.getElem?_set_self hl] at sj
    cases sj
    exact nw k w' nk ek' ok (at_ nk sk)
  ·rcases set_get ek with ⟨e2,z⟩|⟨nk,ek'⟩
   ·subst e2
    have hl:k < σ.length:=by have:=(List.getElem?_eq_some_iff.mp sk).1; simpa using this
    rw [List.getElem?_set_self hl] at sk
    cases sk
    exact nw j w nj ej' oj (at_ nj sj)
   ·exact S.sep j k w w' b hjk ej' ek' oj ok (at_ nj sj) (at_ nk sk)
 ·rcases set_get e with ⟨_,z⟩|⟨nj,ej⟩
  ·cases z
  obtain ⟨s1,c,bs,e1,c0,cf,nd,dp,sp,nc⟩:=nw2 j y nj ej
  refine ⟨fun k z hk ek=>?_,c,bs,by rw [List.getElem?_set_ne (Ne.symm nj)]; exact e1,c0,cf,nd,dp,fun k w b hk ek ok m sk=>?_⟩
  ·rcases set_get ek with ⟨_,q⟩|⟨_,q⟩
   ·cases q
   ·exact s1 k z hk q
  ·rcases set_get ek with ⟨rfl,_⟩|⟨nk,q⟩
   ·have hl:k < σ.length:=by have:=(List.getElem?_eq_some_iff.mp sk).1; simpa using this
    rw [List.getElem?_set_self hl] at sk
    cases sk
    exact nc m
   ·rw [List.getElem?_set_ne (Ne.symm nk)] at sk
    exact sp k w b hk q ok m sk
theorem StOk.ownAt (S:StOk κ F0 H0 F H ρ σ) {j:Nat} {w:En} {a:Addr} (e:ρ[j]?=some (some w)) (o:w.own=true) (s:σ[j]?=some (some (.ref a))):∃ u,H a=some u:=by
 obtain ⟨v,e1,q⟩:=S.val j w e
 rw [s] at e1
 cases e1
 cases w with
 | ow d=>obtain ⟨b,u,eb,_,_,e2,_⟩:=q; cases eb; exact ⟨u,e2⟩
 | lk d=>cases o
 | od d=>obtain ⟨b,u,eb,_,_,e2,_⟩:=q; cases eb; exact ⟨u,e2⟩
 | fz d=>cases o
 | br d=>cases o
theorem StOk.setW (S:StOk κ F0 H0 F H ρ σ) (g:Gr F H F' H') {i:Nat} {v:V} {w w':En} (q:Vok κ H F' H' v w) (e:w.nm=.ok w'):StOk κ F0 H0 F' H' (ρ.set i (some w')) (σ.set i (some v)):=by
 have S':=S.grow g
 cases w with
 | fz d=>cases e; exact S'.setF q
 | ow d =>
  cases e
  obtain ⟨a,o,rfl,e1,e3,e2,r⟩:=q
  refine S'.setO (Le.none S.gr.h e1) e3 e2 r (fun j w hj ej oj sj=>?_) fun j y hj ej=>?_
  ·obtain ⟨u,z⟩:=S.ownAt ej oj sj
   rw [e1] at z; cases z
  ·obtain ⟨s1,c,bs,sj,h0,hf,nd,dp,sp⟩:=S.dp j y ej
   obtain ⟨o',ho',nt'⟩:=Deep.top dp
   refine ⟨s1,c,bs,sj,h0,g.no hf ho' nt',nd,Deep.gr g dp,sp,fun m=>?_⟩
   rcases List.mem_cons.mp m with rfl|m
   ·rw [e1] at ho'; cases ho'
   ·obtain ⟨us,_,_,z⟩:=Deep.inn dp m
    rw [e1] at z; cases z
 | br d=>cases e
 | lk d=>cases e
 | od d=>cases e
end
set_option Elab.async false
set_option linter.all false
set_option maxRecDepth 100000
set_option maxHeartbeats 4000000
noncomputable def Way (H:Hp) (n:Nat) (h:Heap) (e:Addr) (cl:Value) (dd:Option Addr) (q:Option Value):Prop :=
 ∃ oe vs,h.get? e=some oe∧oe.cls=cl∧oe.dict=dd∧oe.data=.fields vs∧1 < vs.size∧n ≤ e∧H e=none ∧
  ((vs[1]?=some .none∧q=none) ∨
   ∃ T oT ts fl,vs[1]?=some (.ref T)∧T≠e∧n ≤ T∧H T=none∧h.get? T=some oT∧oT.data=.fields ts∧ts[3]?=some fl∧q=some fl)
section
variable {H:Hp} {n:Nat} {fs:List Addr} {h h' h'':Heap} {e:Addr} {cl:Value} {dd:Option Addr} {q:Option Value}
end
section
variable {M:Model} {A:Around} {E:Value→Shared→Prop} {s:Shared} {H:Hp} {n:Nat} {base:Heap} {env:Env} {outer:List Env} {L e:Addr} {cl:Value} {dd:Option Addr}
end
noncomputable def flatV:D→Value→Prop
 | .non,u=>u=.none
 | .int i,u=>∃ t,u=.int i t
 | _,_=>False
noncomputable def AtIs (H:Hp) (n:Nat) (h:Heap) (dd:Option Addr):List (Str×D)→Prop
 | []=>True
 | (nm,d)::_=>∃ dx mA u,dd=some dx∧n ≤ dx∧H dx=none∧h.Ns1 dx mA∧mA nm=some u∧flatV d u
inductive XOk:Xc→Prop
 | nof (c:Str):XOk (Xc.mk c [])
 | nonf (c:Str):XOk (Xc.mk c [("at",D.non)])
 | intf (c:Str) (n:Nat):XOk (Xc.mk c [("at",D.int n)])
noncomputable def atc (x:Xc):Option Addr:=match x.fs with
 | []=>none
 | [(_,.int i)]=>some (i.toNat+1)
 | _=>some 0
structure Fl (P:Program) (w:World) (mg:Str→Option Value) (outer:List Env) (H:Hp) (s:Shared) (H':Hp) (s':Shared) (e:Addr) (x:Xc) (q:Option Value):Prop where
 os:s'.os=s.os
 bare:AllBare s'.gens
 un:Un (frs outer) [] H H' s.heap s'.heap
 hok:HOk P w H' s'.heap
 sz:s.heap.objs.size ≤ s'.heap.objs.size
 ok:XOk x
 way:∃ C dd,mg x.cls=some (.ref C)∧Way H' s.heap.objs.size s'.heap e (.ref C) dd q∧AtIs H' s.heap.objs.size s'.heap dd x.fs
noncomputable def KE {α:Type} (x:Xc→Prop) (r:R α) (k:α→Prop):Prop:=match r with
 | .ok a=>k a
 | .exc e=>x e
 | .stuck=>False
theorem KE.bind {α β:Type} {x:Xc→Prop} {r:R α} {f:α→R β} {k:β→Prop} (h:KE x (r.bind f) k):KE x r fun a=>KE x (f a) k:=by
 cases r <;> exact h
theorem KE.imp {α:Type} {x:Xc→Prop} {r:R α} {k k':α→Prop} (h:KE x r k) (i:∀ a,k a→k' a):KE x r k':=by
 cases r with
 | ok a=>exact i a h
 | exc e=>exact h
 | stuck=>exact h
theorem KE.impX {α:Type} {x x':Xc→Prop} {r:R α} {k k':α→Prop} (h:KE x r k) (i:∀ a,k a→k' a) (j:∀ e,x e→x' e):KE x' r k':=by
 cases r with
 | ok a=>exact i a h
 | exc e=>exact j e h
 | stuck=>exact h
theorem KE_ok {α:Type} {x:Xc→Prop} {a:α} {k:α→Prop}:KE x (R.ok a) k=k a:=rfl
noncomputable def XP (X:Cx) (F0 H0:Hp) (x:Xc):Prop:=False
noncomputable def XPS (X:Cx) (F0 H0:Hp) (x:Xc):Prop:=∀ (pins:List (Addr×Obj)) (σ:St) (H:Hp) (s:Shared) (F' H':Hp) (s':Shared) (e:Addr) (q:Option Value),(q=none∨q=some .none)→Gr F0 H0 F' H'→Inv X pins σ H s →
 Fl X.prog X.w X.mg X.stack H s H' s' e x q→X.xe (.ref e) s'
noncomputable def SE (X:Cx) (F0 H0:Hp) (e:Expr) (f:EF):Prop :=
 ∀ (pins:List (Addr×Obj)) (s:Shared) (σ:St) (F H:Hp) (ρ:Rho) (Q:Value→Shared→Prop),StOk (kx X) F0 H0 F H ρ σ→Inv X pins σ H s →
  KE (XP X F0 H0) (f ρ) (fun w=>∀ v u F' H' s',Gr F H F' H'→Vok (kx X) H F' H' v w→RelV v u→Inv X pins σ H' s'→Q u s') →
  wpAny (model X.prog X.w) X.A (eval e X.env) Q X.xe s
noncomputable def ST (X:Cx) (F0 H0:Hp) (e:Expr) (f:TF):Prop :=
 ∀ (pins:List (Addr×Obj)) (s:Shared) (σ:St) (F H:Hp) (ρ:Rho) (Q:Bool→Shared→Prop),StOk (kx X) F0 H0 F H ρ σ→Inv X pins σ H s →
  KE (XP X F0 H0) (f ρ) (fun b=>∀ F' H' s',Gr F H F' H'→Inv X pins σ H' s'→Q b s') →
  wpAny (model X.prog X.w) X.A (isTrue e X.env (eval e X.env)) Q X.xe s
noncomputable def SW (X:Cx) (F0 H0:Hp) (e:Expr) (f:TF):Prop :=
 ∀ (whole:Sem Value) (pins:List (Addr×Obj)) (s:Shared) (σ:St) (F H:Hp) (ρ:Rho) (Q:Bool→Shared→Prop),StOk (kx X) F0 H0 F H ρ σ→Inv X pins σ H s →
  KE (XP X F0 H0) (f ρ) (fun b=>∀ F' H' s',Gr F H F' H'→Inv X pins σ H' s'→Q b s') →
  wpAny (model X.prog X.w) X.A (isTrue e X.env whole) Q X.xe s
noncomputable def SA (X:Cx) (F0 H0:Hp) (es:List Expr) (f:List EF):Prop :=
 ∀ (pos:Pos) (pins:List (Addr×Obj)) (s:Shared) (σ:St) (F H:Hp) (ρ:Rho) (Q:List Value→Shared→Prop),StOk (kx X) F0 H0 F H ρ σ→Inv X pins σ H s →
  KE (XP X F0 H0) (evs f ρ) (fun ws=>∀ vs us F' H' s',Gr F H F' H'→Voks (kx X) H F' H' vs ws→Vals vs us→Inv X pins σ H' s'→Q us s') →
  wpAny (model X.prog X.w) X.A (spliced (backTo pos (starEach es X.env))) Q X.xe s
noncomputable def PostS (X:Cx) (F0 H0 F:Hp) (D:Ends):Out→Prop
 | .nx ρ'=>∀ σ' F' H',Le F F'→StOk (kx X) F0 H0 F' H' ρ' σ'→D.nx σ' H'
 | .bk ρ'=>∀ σ' F' H',Le F F'→StOk (kx X) F0 H0 F' H' ρ' σ'→D.bk σ' H'
 | .ct ρ'=>∀ σ' F' H',Le F F'→StOk (kx X) F0 H0 F' H' ρ' σ'→D.ct σ' H'
 | .rt w=>∀ v F' H',Gr F0 H0 F' H'→Vok (kx X) H0 F' H' v w→D.rt v H'
 | .exc x=>XPS X F0 H0 x
 | .stuck=>False
noncomputable def SS (X:Cx) (F0 H0:Hp) (st:Stmt) (f:SF):Prop :=
 ∀ (pins:List (Addr×Obj)) (s:Shared) (σ:St) (F H:Hp) (ρ:Rho) (D:Ends),StOk (kx X) F0 H0 F H ρ σ→Inv X pins σ H s→PostS X F0 H0 F D (f ρ) →
  wpAny (model X.prog X.w) X.A (exec st X.env) (SP X pins D) X.xe s
noncomputable def SSs (X:Cx) (F0 H0:Hp) (sts:List Stmt) (f:SF):Prop :=
 ∀ (pins:List (Addr×Obj)) (s:Shared) (σ:St) (F H:Hp) (ρ:Rho) (D:Ends),StOk (kx X) F0 H0 F H ρ σ→Inv X pins σ H s→PostS X F0 H0 F D (f ρ) →
  wpAny (model X.prog X.w) X.A (execs sts X.env) (SP X pins D) X.xe s
theorem PostS.le {X:Cx} {F0 H0 F F':Hp} {D:Ends} (l:Le F F') {o:Out} (h:PostS X F0 H0 F D o):PostS X F0 H0 F' D o:=by
 cases o with
 | nx ρ=>exact fun σ' F2 H2 l2 S=>h σ' F2 H2 (Le.trans l l2) S
 | bk ρ=>exact fun σ' F2 H2 l2 S=>h σ' F2 H2 (Le.trans l l2) S
 | ct ρ=>exact fun σ' F2 H2 l2 S=>h σ' F2 H2 (Le.trans l l2) S
 | rt w=>exact h
 | exc x=>exact h
 | stuck=>exact h
theorem PostS.of {α:Type} {X:Cx} {F0 H0 F:Hp} {D:Ends} {r:R α} {k:α→Out} (h:PostS X F0 H0 F D (sOf r k)):KE (XP X F0 H0) r fun a=>PostS X F0 H0 F D (k a):=by
 cases r <;> exact h
noncomputable def tSem (X:Cx) (e:Expr):TE:=fun σ H Q=>∀ (pins:List (Addr×Obj)) (s:Shared),Inv X pins σ H s→wpAny (model X.prog X.w) X.A (eval e X.env) (EP X pins σ Q) X.xe s
theorem pe_sem {X:Cx} {e:Expr}:PE X e (tSem X e):=fun pins s σ H Q I h=>h pins s I
theorem SE.sem {X:Cx} {F0 H0:Hp} {e:Expr} {f:EF} (h:SE X F0 H0 e f) {σ:St} {F H:Hp} {ρ:Rho} {Q:VK} (S:StOk (kx X) F0 H0 F H ρ σ)
  (k:KE (XP X F0 H0) (f ρ) fun w=>∀ v F' H',Gr F H F' H'→Vok (kx X) H F' H' v w→Q v H'):tSem X e σ H Q :=
 fun pins s I=>h pins s σ F H ρ _ S I (k.imp fun w q v u F' H' s' g vo r I'=>⟨v,H',I',r,q v F' H' g vo⟩)
noncomputable def tSemT (X:Cx) (e:Expr):TT:=fun σ H Q=>∀ (pins:List (Addr×Obj)) (s:Shared),Inv X pins σ H s→wpAny (model X.prog X.w) X.A (isTrue e X.env (eval e X.env)) (TP X pins σ Q) X.xe s
theorem pt_sem {X:Cx} {e:Expr}:PT X e (tSemT X e):=fun pins s σ H Q I h=>h pins s I
noncomputable def tSemS (X:Cx) (st:List Stmt):TS:=fun D σ H=>∀ (pins:List (Addr×Obj)) (s:Shared),Inv X pins σ H s→wpAny (model X.prog X.w) X.A (execs st X.env) (SP X pins D) X.xe s
theorem pss_sem {X:Cx} {st:List Stmt}:PSs X st (tSemS X st):=fun pins s σ H D I h=>h pins s I
section
variable {X:Cx} {F0 H0:Hp}
theorem se_var (i:Nat) {x:Str} {pos:Pos} (hN:X.N[i]?=some x:=by rfl) (hv:Vis X.env.scope x:=by trivial) (hd:(x == ("__debug__":Str))=false:=by decide)
  (hcd:(x == ("__classdict__":Str))=false:=by decide):SE X F0 H0 (.Name x pos) (eVar i):=by
 intro pins s σ F H ρ Q S I h
 have go:∀ w w':En,ρ[i]?=some (some w)→(∀ v,Eok (kx X) H0 F H v w→Vok (kx X) H F H v w') →
   (∀ v u F' H' s',Gr F H F' H'→Vok (kx X) H F' H' v w'→RelV v u→Inv X pins σ H' s'→Q u s')→wpAny (model X.prog X.w) X.A (eval (.Name x pos) X.env) Q X.xe s:=fun w w' e t k=>by
  obtain ⟨v,e1,q⟩:=S.val i w e
  refine thn (pe_var hN hv hd hcd pins s σ H (fun v' H'=>v'=v∧H'=H) I ⟨v,e1,rfl,rfl⟩) fun u s' ⟨v',H',I',r,ev,eh⟩=>?_
  subst ev eh
  exact k v' u F H' s' (Gr.refl S.s) (t v' q) r I'
 cases e:ρ[i]? with
 | none=>unfold eVar at h; rw [e] at h; exact h.elim
 | some w =>
  cases w with
  | none=>unfold eVar at h; rw [e] at h; exact h.elim
  | some w =>
   unfold eVar at h
   rw [e] at h
   cases w with
   | fz d=>exact go _ (.fz d) e (fun v q=>q) h
   | ow d=>exact go _ (.br d) e (fun v ⟨a,o,e1,_,_,e2,r⟩=>⟨a,o,e1,e2,r⟩) h
   | lk d=>exact go _ (.fz d) e (fun v q=>q.1) h
   | od d=>exact h.elim
   | br d=>exact go _ (.br d) e (fun v ⟨a,o,e1,e2,r⟩=>⟨a,o,e1,S.gr.h _ _ e2,r⟩) h
theorem se_of {e:Expr} {v:V} {d:D} (h:PE X e (tC v)) (r:∀ F,Rep (kx X) F v d):SE X F0 H0 e (eC d):=by
 intro pins s σ F H ρ Q S I k
 refine thn (h pins s σ H (fun v' H'=>v'=v∧H'=H) I ⟨rfl,rfl⟩) fun u s' ⟨v',H',I',rv,ev,eh⟩=>?_
 subst ev eh
 exact k v' u F H' s' (Gr.refl S.s) (r F) rv I'
theorem se_int {i:Int} {j pos}:SE X F0 H0 (.Constant (.int i) j pos) (eC (.int i)):=se_of pe_int fun _=>rfl
theorem se_bl {b:Bool} {j pos}:SE X F0 H0 (.Constant (.bool b) j pos) (eC (.bl b)):=se_of pe_bl fun _=>rfl
theorem se_non {j pos}:SE X F0 H0 (.Constant .none j pos) (eC .non):=se_of pe_non fun _=>rfl
theorem se_str {x:Str} {j pos}:SE X F0 H0 (.Constant (.str x) j pos) (eC (.str x)):=se_of pe_str fun _=>rfl
theorem se_glob {x:Str} {v:V} {u:Value} {d:D} {pos:Pos} (hm:X.mg x=some u) (r:RelV v u) (q:∀ F,Rep (kx X) F v d) (hg:Gl X x:=by rfl) (hd:(x == ("__debug__":Str))=false:=by decide) :
  SE X F0 H0 (.Name x pos) (eC d):=se_of (pe_glob hg hm r hd) q
noncomputable abbrev Wish (X:Cx) (F H:Hp) (r:R En) (Q:VK):Prop:=KE (fun _=>False) r fun w=>∀ v F' H',Gr F H F' H'→Vok (kx X) H F' H' v w→Q v H'
noncomputable def OpD (X:Cx) (f:Value→Value→Sem Value) (g:D→D→R En):Prop :=
 ∀ (pins:List (Addr×Obj)) (s:Shared) (σ:St) (F H:Hp) (x y:V) (v u:Value) (dx dy:D) (Q:VK),Inv X pins σ H s→Le F H→RelV x v→RelV y u→RdV (kx X) F H x dx→RdV (kx X) F H y dy→Wish X F H (g dx dy) Q →
  wpAny (model X.prog X.w) X.A (f v u) (EP X pins σ Q) X.xe s
noncomputable def CallD (X:Cx) (f:Value) (g:List D→R En):Prop :=
 ∀ (pins:List (Addr×Obj)) (s:Shared) (σ:St) (F H:Hp) (xs:List V) (us:List Value) (ds:List D) (Q:VK),Inv X pins σ H s→Le F H→Vals xs us→Paired (RdV (kx X) F H) xs ds→Wish X F H (g ds) Q →
  wpAny (model X.prog X.w) X.A (call f us) (EP X pins σ Q) X.xe s
variable {a b:Expr} {fa fb:EF} {pos:Pos} {g:D→D→R En}
theorem wish_end {F H F2 H2:Hp} {r:R En} {Q:Value→Shared→Prop} {pins:List (Addr×Obj)} {σ:St} (g2:Gr F H F2 H2)
  (h:KE (XP X F0 H0) r fun w=>∀ v u F' H' s',Gr F H F' H'→Vok (kx X) H F' H' v w→RelV v u→Inv X pins σ H' s'→Q u s') :
  Wish X F2 H2 r fun v H'=>∀ u s',RelV v u→Inv X pins σ H' s'→Q u s':=by
 refine KE.impX h (fun w k v F' H' g' q u s' r I=>?_) fun _ z=>z.elim
 exact k v u F' H' s' (g2.trans g') (Vok.older (fun a e=>Le.none g2.h e) q) r I
theorem ep_end {Q:Value→Shared→Prop} {pins:List (Addr×Obj)} {σ:St} {t:Sem Value} {s:Shared}
  (h:wpAny (model X.prog X.w) X.A t (EP X pins σ fun v H'=>∀ u s',RelV v u→Inv X pins σ H' s'→Q u s') X.xe s):wpAny (model X.prog X.w) X.A t Q X.xe s :=
 thn h fun u s' ⟨v,H',I',r,q⟩=>q u s' r I'
theorem two {f:Value→Value→Sem Value} (ha:SE X F0 H0 a fa) (hb:SE X F0 H0 b fb) {pins:List (Addr×Obj)} {s:Shared} {σ:St} {F H:Hp} {ρ:Rho} {Q:Value→Shared→Prop} (S:StOk (kx X) F0 H0 F H ρ σ) (I:Inv X pins σ H s)
  (h:KE (XP X F0 H0) (eOp g fa fb ρ) fun w=>∀ v u F' H' s',Gr F H F' H'→Vok (kx X) H F' H' v w→RelV v u→Inv X pins σ H' s'→Q u s')
  (ho:∀ (s:Shared) (F H:Hp) (x y:V) (v u:Value) (dx dy:D) (Q:VK),Inv X pins σ H s→Le F H→RelV x v→RelV y u→RdV (kx X) F H x dx→RdV (kx X) F H y dy→Wish X F H (g dx dy) Q →
   wpAny (model X.prog X.w) X.A (f v u) (EP X pins σ Q) X.xe s) :
  wpAny (model X.prog X.w) X.A (eval a X.env) (fun v s₁=>wpAny (model X.prog X.w) X.A (eval b X.env) (fun u s₂=>wpAny (model X.prog X.w) X.A (f v u) Q X.xe s₂) X.xe s₁) X.xe s:=by
 refine ha pins s σ F H ρ _ S I ((KE.bind h).imp fun wx h1 v u F1 H1 s1 g1 q1 r1 I1=>?_)
 refine hb pins s1 σ F1 H1 ρ _ (S.grow g1) I1 ((KE.bind h1).imp fun wy h2 v2 u2 F2 H2 s2 g2 q2 r2 I2=>?_)
 exact ep_end (ho s2 F2 H2 v v2 u u2 wx.d wy.d _ I2 g2.s r1 r2 (RdV.gr g2 (Vok.rd q1)) (Vok.rd q2) (wish_end (g1.trans g2) h2))
theorem se_op {op:Operator} (ho:OpD X (binaryOp op) g) (ha:SE X F0 H0 a fa) (hb:SE X F0 H0 b fb):SE X F0 H0 (.BinOp a op b pos) (eOp g fa fb) :=
 fun pins s σ F H ρ Q S I h=>wpAny_BinOp (two ha hb S I h fun s F H x y v u dx dy Q=>ho pins s σ F H x y v u dx dy Q)
theorem se_cmp {op:CmpOp} (ho:OpD X (compareOp op) g) (ha:SE X F0 H0 a fa) (hb:SE X F0 H0 b fb) (hm:behindInMarks op b=false:=by first|exact nobehind _ (by decide) (by decide)|rfl) :
  SE X F0 H0 (.Compare a [op] [b] pos) (eOp g fa fb) :=
 fun pins s σ F H ρ Q S I h=>wpAny_Compare1 (two ha hb S I h fun s F H x y v u dx dy Q=>ho pins s σ F H x y v u dx dy Q) hm
theorem wish_fz {F H:Hp} {v:V} {d:D} {Q:VK} (s:Le F H) (h:Wish X F H (.ok (.fz d)) Q) (r:Rep (kx X) F v d):Q v H:=h v F H (Gr.refl s) r
theorem opd_of {f:Value→Value→Sem Value} {r:R2} (ho:OpR X f r)
  (h:∀ F H x y dx dy Q,Le F H→RdV (kx X) F H x dx→RdV (kx X) F H y dy→Wish X F H (g dx dy) Q→r x y H Q):OpD X f g :=
 fun pins s σ F H x y v u dx dy Q I l rx ry qx qy w=>ho pins s σ H x y v u Q I rx ry (h F H x y dx dy Q l qx qy w)
theorem od_sub:OpD X (binaryOp .Sub) dSub:=opd_of op_sub fun F H x y dx dy Q l qx qy w=>by
 cases dx <;> first|exact w.elim|skip
 cases dy <;> first|exact w.elim|skip
 exact ⟨_,_,RdV.int qx,RdV.int qy,wish_fz l (v:=.int _) w rfl⟩
theorem od_mul:OpD X (binaryOp .Mult) dMul:=opd_of op_mul fun F H x y dx dy Q l qx qy w=>by
 cases dx <;> first|exact w.elim|skip
 cases dy <;> first|exact w.elim|skip
 rename_i i j
 unfold dMul at w
 dsimp only at w
 by_cases c:(fits b64 i || fits b64 j)=true
 ·rw [if_pos c] at w
  have p64:(2:Int) ^ 64=18446744073709551616:=by simp
  have c:(-(2 ^ 64) < i∧i < 2 ^ 64)∨(-(2 ^ 64) < j∧j < 2 ^ 64):=by
   rw [Bool.or_eq_true,fits_iff,fits_iff,b64e] at c
   rw [p64]
   (first|lia|omega)
  exact ⟨_,_,RdV.int qx,RdV.int qy,c,wish_fz l (v:=.int _) w rfl⟩
 ·rw [if_neg c] at w; exact w.elim
theorem od_mod:OpD X (binaryOp .Mod) dMod:=opd_of op_mod fun F H x y dx dy Q l qx qy w=>by
 cases dx <;> first|exact w.elim|skip
 cases dy <;> first|exact w.elim|skip
 rename_i i j
 unfold dMod at w
 dsimp only at w
 by_cases c:0 < j
 ·rw [if_pos c] at w
  exact ⟨_,_,RdV.int qx,RdV.int qy,c,wish_fz l (v:=.int _) w rfl⟩
 ·rw [if_neg c] at w; exact w.elim
theorem od_div:OpD X (binaryOp .FloorDiv) dDiv:=opd_of op_fdiv fun F H x y dx dy Q l qx qy w=>by
 cases dx <;> first|exact w.elim|skip
 cases dy <;> first|exact w.elim|skip
 rename_i i j
 unfold dDiv at w
 dsimp only at w
 by_cases c:0 < j∧j < 1073741824
 ·rw [if_pos c] at w
  exact ⟨_,_,RdV.int qx,RdV.int qy,c,wish_fz l (v:=.int _) w rfl⟩
 ·rw [if_neg c] at w; exact w.elim
theorem od_lt:OpD X (compareOp .Lt) dLt:=opd_of op_lt fun F H x y dx dy Q l qx qy w=>by
 cases dx <;> first|exact w.elim|skip
 cases dy <;> first|exact w.elim|skip
 exact ⟨_,_,RdV.int qx,RdV.int qy,wish_fz l (v:=.bl _) w rfl⟩
theorem od_gt:OpD X (compareOp .Gt) dGt:=opd_of op_gt fun F H x y dx dy Q l qx qy w=>by
 cases dx <;> first|exact w.elim|skip
 cases dy <;> first|exact w.elim|skip
 exact ⟨_,_,RdV.int qx,RdV.int qy,wish_fz l (v:=.bl _) w rfl⟩
end
end L3
namespace L3
open PySem PySem.Spec PyProof.Rows L2
mutual
noncomputable def toPy:D→PyData
 | .non=>.none|.bl b=>.bool b|.int i=>.int i|.str x=>.str x
 | .tup xs=>.tuple (toPys xs)|.lst xs=>.list (toPys xs)
 | _=>.none
noncomputable def toPys:List D→List PyData
 | []=>[]
 | x::xs=>toPy x::toPys xs
end
mutual
theorem deq_py:∀ (n m:Nat) (a b:D),eqokN n a=true→eqokN m b=true→PyData.eqv (toPy a) (toPy b)=deq a b
 | n,m,a,b,ha,hb=>by
  cases a <;> cases b <;> first
   | rfl
   | (simp [eqokN] at ha; done)
   | (simp [eqokN] at hb; done)
   | skip
  ·rename_i xs ys
   cases n with
   | zero=>simp [eqokN] at ha
   | succ n =>
    cases m with
    | zero=>simp [eqokN] at hb
    | succ m=>exact deqs_py n m xs ys ha hb
  ·rename_i xs ys
   cases n with
   | zero=>simp [eqokN] at ha
   | succ n =>
    cases m with
    | zero=>simp [eqokN] at hb
    | succ m=>exact deqs_py n m xs ys ha hb
theorem deqs_py:∀ (n m:Nat) (a b:List D),a.all (eqokN n)=true→b.all (eqokN m)=true→PyData.eqvAll (toPys a) (toPys b)=deqs a b
 | _,_,[],[],_,_=>rfl
 | _,_,[],_::_,_,_=>rfl
 | _,_,_::_,[],_,_=>rfl
 | n,m,x::xs,y::ys,ha,hb=>by
  rw [List.all_cons,Bool.and_eq_true] at ha hb
  show (PyData.eqv (toPy x) (toPy y) && PyData.eqvAll (toPys xs) (toPys ys))=(deq x y && deqs xs ys)
  rw [deq_py n m x y ha.1 hb.1,deqs_py n m xs ys ha.2 hb.2]
end
theorem lay_py:∀ (n:Nat) (d:D),eqokN n d=true→(toPy d).canLay0=true∧(toPy d).depth ≤ n
 | n,.non,_=>⟨rfl,Nat.zero_le _⟩
 | n,.bl _,_=>⟨rfl,Nat.zero_le _⟩
 | n,.int _,_=>⟨rfl,Nat.zero_le _⟩
 | n,.str x,h=>⟨by cases n <;> exact h,Nat.zero_le _⟩
 | 0,.tup _,h=>by simp [eqokN] at h
 | 0,.lst _,h=>by simp [eqokN] at h
 | n+1,.tup xs,h=>by
  have k:∀ ys:List D,ys.all (eqokN n)=true→PyData.canLayAll0 (toPys ys)=true∧PyData.depthAll (toPys ys) ≤ n:=by
   intro ys
   induction ys with
   | nil=>intro _; exact ⟨rfl,Nat.zero_le _⟩
   | cons y ys ih =>
    intro hy
    rw [List.all_cons,Bool.and_eq_true] at hy
    obtain ⟨a1,a2⟩:=lay_py n y hy.1
    obtain ⟨b1,b2⟩:=ih hy.2
    refine ⟨?_,?_⟩
    ·show ((toPy y).canLay0 && PyData.canLayAll0 (toPys ys))=true
     rw [a1,b1]; rfl
    ·show max (toPy y).depth (PyData.depthAll (toPys ys)) ≤ n
     (first|lia|omega)
  obtain ⟨k1,k2⟩:=k xs h
  exact ⟨k1,Nat.succ_le_succ k2⟩
 | n+1,.lst xs,h=>by
  have k:∀ ys:List D,ys.all (eqokN n)=true→PyData.canLayAll0 (toPys ys)=true∧PyData.depthAll (toPys ys) ≤ n:=by
   intro ys
   induction ys with
   | nil=>intro _; exact ⟨rfl,Nat.zero_le _⟩
   | cons y ys ih =>
    intro hy
    rw [List.all_cons,Bool.and_eq_true] at hy
    obtain ⟨a1,a2⟩:=lay_py n y hy.1
    obtain ⟨b1,b2⟩:=ih hy.2
    refine ⟨?_,?_⟩
    ·show ((toPy y).canLay0 && PyData.canLayAll0 (toPys ys))=true
     rw [a1,b1]; rfl
    ·show max (toPy y).depth (PyData.depthAll (toPys ys)) ≤ n
     (first|lia|omega)
  obtain ⟨k1,k2⟩:=k xs h
  exact ⟨k1,Nat.succ_le_succ k2⟩
 | n,.dK _,h=>by cases n <;> simp [eqokN] at h
 | n,.dT _,h=>by cases n <;> simp [eqokN] at h
 | n,.xc _ _,h=>by cases n <;> simp [eqokN] at h
section
variable {X:Cx} {pins:List (Addr×Obj)} {σ:St} {F H:Hp} {s:Shared}
mutual
theorem rep_reads (I:Inv X pins σ H s) (l:Le F H):∀ (n:Nat) (d:D) {v:V} {u:Value},eqokN n d=true→Rep (kx X) F v d→RelV v u→∃ as,Reads s.heap u (toPy d) as
 | _,.non,v,u,_,r,q=>by cases (show v=.non from r); cases (show u=Value.none from q); exact ⟨_,.none⟩
 | _,.bl b,v,u,_,r,q=>by cases (show v=.bl b from r); cases (show u=Value.bool b from q); exact ⟨_,.bool b⟩
 | _,.int i,v,u,_,r,q=>by cases (show v=.int i from r); obtain ⟨t,rfl⟩:=(show ∃ t,u=Value.int i t from q); exact ⟨_,.int i t⟩
 | _,.str x,v,u,_,r,q=>by cases (show v=.str x from r); obtain ⟨t,rfl⟩:=(show ∃ t,u=Value.str x t from q); exact ⟨_,.str x t⟩
 | 0,.tup _,_,_,h,_,_=>by simp [eqokN] at h
 | 0,.lst _,_,_,h,_,_=>by simp [eqokN] at h
 | n+1,.tup ds,v,u,h,r,q=>by
  obtain ⟨a,vs,rfl,hq,rs⟩:=r
  cases (show u=Value.ref a from q)
  obtain ⟨its,rv,⟨o,e1,e2,m,e3⟩,hz⟩:=I.tuple (SqT.le l hq)
  obtain ⟨as,hr⟩:=reps_reads I l n ds h rs rv
  exact ⟨_,.tuple e1 e2 e3 (by simpa using hr)⟩
 | n+1,.lst ds,v,u,h,r,q=>by
  obtain ⟨a,vs,rfl,hq,rs⟩:=r
  cases (show u=Value.ref a from q)
  obtain ⟨its,rv,⟨o,m,e1,e2,_,e3⟩,hz⟩:=I.list (SqL.le l hq)
  obtain ⟨as,hr⟩:=reps_reads I l n ds h rs rv
  exact ⟨_,.list e1 e2 e3 (by simpa using hr)⟩
 | n,.dK _,_,_,h,_,_=>by cases n <;> simp [eqokN] at h
 | n,.dT _,_,_,h,_,_=>by cases n <;> simp [eqokN] at h
 | n,.xc _ _,_,_,h,_,_=>by cases n <;> simp [eqokN] at h
theorem reps_reads (I:Inv X pins σ H s) (l:Le F H):∀ (n:Nat) (ds:List D) {vs:List V} {us:List Value},ds.all (eqokN n)=true→Reps (kx X) F vs ds→Vals vs us→∃ as,ReadsAll s.heap us (toPys ds) as
 | n,[],vs,us,_,r,q=>by
  cases (show vs=[] from r)
  cases q
  exact ⟨_,.nil⟩
 | n,d::ds,vs,us,h,r,q=>by
  obtain ⟨v,r',rfl,r1,r2⟩:=r
  rw [List.all_cons,Bool.and_eq_true] at h
  cases q with
  | cons q1 q2 =>
   obtain ⟨as,h1⟩:=rep_reads I l n d h.1 r1 q1
   obtain ⟨bs,h2⟩:=reps_reads I l n ds h.2 r2 q2
   exact ⟨_,.cons h1 h2⟩
end
theorem rd_reads (I:Inv X pins σ H s) (l:Le F H) {n:Nat} {d:D} {v:V} {u:Value} (h:eqokN n d=true) (r:RdV (kx X) F H v d) (q:RelV v u):∃ as,Reads s.heap u (toPy d) as:=by
 rcases r with r|⟨a,o,rfl,e2,r⟩
 ·exact rep_reads I l n d h r q
 ·cases d with
  | lst ds =>
   cases n with
   | zero=>simp [eqokN] at h
   | succ n =>
    cases o with
    | lst vs =>
     cases (show u=Value.ref a from q)
     obtain ⟨its,rv,⟨o,m,e1,e2,_,e3⟩,hz⟩:=I.list (SqL.of e2)
     obtain ⟨as,hr⟩:=reps_reads I l n ds h r rv
     exact ⟨_,.list e1 e2 e3 (by simpa using hr)⟩
    | _=>exact r.elim
  | _=>exact rep_reads I l n _ h (RdV.flat (.inr ⟨a,o,rfl,e2,r⟩:RdV (kx X) F H _ _) (fun _ e=>nomatch e) (fun _ e=>by cases e <;> (cases n <;> simp [eqokN] at h)) (fun _ e=>by cases e <;> (cases n <;> simp [eqokN] at h))) q
end
section
variable {X:Cx} {F0 H0:Hp}
theorem od_eq (hu:X.A.units+10 < cLine):OpD X (compareOp .Eq) dEq:=by
 intro pins s σ F H x y v u dx dy Q I l rx ry qx qy w
 unfold dEq at w
 by_cases c:(eqok dx && eqok dy)=true
 ·rw [if_pos c] at w
  rw [Bool.and_eq_true] at c
  obtain ⟨as,h1⟩:=rd_reads I l c.1 qx rx
  obtain ⟨bs,h2⟩:=rd_reads I l c.2 qy ry
  obtain ⟨a1,a2⟩:=lay_py 8 dx c.1
  obtain ⟨b1,b2⟩:=lay_py 8 dy c.2
  refine SeqAt.compareEq_reads h1 h2 a1 b1 (by (first|lia|omega)) ?_
  rw [deq_py 8 8 dx dy c.1 c.2]
  exact ⟨.bl _,H,I,rfl,wish_fz (X:=X) l (v:=.bl _) w rfl⟩
 ·rw [if_neg c] at w; exact w.elim
theorem od_ne (hu:X.A.units+10 < cLine):OpD X (compareOp .NotEq) dNe:=by
 intro pins s σ F H x y v u dx dy Q I l rx ry qx qy w
 unfold dNe at w
 by_cases c:(eqok dx && eqok dy)=true
 ·rw [if_pos c] at w
  rw [Bool.and_eq_true] at c
  obtain ⟨as,h1⟩:=rd_reads I l c.1 qx rx
  obtain ⟨bs,h2⟩:=rd_reads I l c.2 qy ry
  obtain ⟨a1,a2⟩:=lay_py 8 dx c.1
  obtain ⟨b1,b2⟩:=lay_py 8 dy c.2
  refine SeqAt.compareNe_reads h1 h2 a1 b1 (by (first|lia|omega)) ?_
  rw [deq_py 8 8 dx dy c.1 c.2]
  exact ⟨.bl _,H,I,rfl,wish_fz (X:=X) l (v:=.bl _) w rfl⟩
 ·rw [if_neg c] at w; exact w.elim
theorem RepK.look {κ:Kx} {F:Hp}:∀ {kds:List (Sum Int Str×D)} {kvs:List (Key×V)} (k:Key),RepK κ F kvs kds→(∃ v d,valV kvs k=some v∧look k kds=some d∧Rep κ F v d)∨(valV kvs k=none∧look k kds=none)
 | [],_,k,h=>by cases (show _=_ from h); exact .inr ⟨rfl,rfl⟩
 | (q,d)::r,_,k,h=>by
  obtain ⟨v,kr,rfl,h1,h2⟩:=h
  by_cases e:q=k
  ·refine .inl ⟨v,d,?_,?_,h1⟩
   ·simp [valV,e]
   ·simp [L3.look,e]
  ·rcases RepK.look k h2 with ⟨v',d',a,b,c⟩|⟨a,b⟩
   ·refine .inl ⟨v',d',?_,?_,c⟩
    ·simpa [valV,e] using a
    ·simpa [L3.look,e] using b
   ·refine .inr ⟨?_,?_⟩
    ·simpa [valV,e] using a
    ·simpa [L3.look,e] using b
theorem RepK.length {κ:Kx} {F:Hp}:∀ {kds:List (Sum Int Str×D)} {kvs:List (Key×V)},RepK κ F kvs kds→kvs.length=kds.length
 | [],_,h=>by cases (show _=_ from h); rfl
 | (q,d)::r,_,h=>by
  obtain ⟨v,kr,rfl,h1,h2⟩:=h
  simp [RepK.length h2]
theorem Inv.dictK {pins:List (Addr×Obj)} {σ:St} {H:Hp} {s:Shared} {a:Addr} {kvs:List (Key×V)} (I:Inv X pins σ H s) (h:SqK (kx X) H a kvs) :
  (a == sysModules)=false∧∃ vs,KV kvs vs∧s.heap.DictOf (mixKind X.prog X.w) a vs:=by
 rcases h with h|⟨hs,o,es,ep,vs,hk,h1,h2,h3,h4,h5,h6⟩
 ·obtain ⟨_,hd,vs,rel,dd⟩:=dk_rd I.hok h
  exact ⟨hd,vs,rel,dd⟩
 ·exact ⟨hs,vs,h6,o,es,ep,I.kIn a o hk,h1,h2,h3,h4,h5⟩
theorem key_rel {κ:Kx} {F H:Hp} {v:V} {u:Value} {d:D} {k:Key} (e:keyOf d=some k) (r:RdV κ F H v d) (q:RelV v u):RelV (kV k) u:=by
 cases d with
 | int i=>cases e; cases RdV.int r; exact q
 | str x=>cases e; cases RdV.str r; exact q
 | _=>cases e
noncomputable def IxD (X:Cx) (g:D→D→R En):Prop :=
 ∀ (value slice:Expr) (pins:List (Addr×Obj)) (s:Shared) (σ:St) (F H:Hp) (x y:V) (v u:Value) (dx dy:D) (Q:VK),Inv X pins σ H s→Le F H→RelV x v→RelV y u→RdV (kx X) F H x dx→RdV (kx X) F H y dy→Wish X F H (g dx dy) Q →
  subscripted slice false v u=operate [v,u] (getItem v u)→wpAny (model X.prog X.w) X.A (subscriptTail value slice v u) (EP X pins σ Q) X.xe s
variable {a b:Expr} {fa fb:EF} {pos:Pos} {g:D→D→R En}
theorem se_ixr (ho:IxD X g) (ha:SE X F0 H0 a fa) (hb:SE X F0 H0 b fb) (hs:PlainIx b:=by exact fun _ _=>rfl):SE X F0 H0 (.Subscript a b pos) (eOp g fa fb) :=
 fun pins s σ F H ρ Q S I h=>Subscript_ (two (f:=fun v u=>subscriptTail a b v u) ha hb S I h fun s F H x y v u dx dy Q I l rx ry qx qy w=>ho a b pins s σ F H x y v u dx dy Q I l rx ry qx qy w (hs _ _))
theorem ati_len {α β:Type} {xs:List α} {ys:List β} (h:xs.length=ys.length) {i:Int} {x:α} (e:ati xs i=some x):∃ j:Nat,xs[j]?=some x∧∀ y,ys[j]?=some y→atI ys i=some y:=by
 unfold ati at e
 cases q:ixn xs.length i with
 | none=>rw [q] at e; cases e
 | some j =>
  rw [q] at e
  refine ⟨j,e,fun y hy=>?_⟩
  unfold atI
  have:ixN ys.length i=some j:=by rw [← h]; exact q
  rw [this]; exact hy
noncomputable def dIxS:D→D→R En
 | .lst xs,.int i=>okD (ati xs i)
 | .tup xs,.int i=>okD (ati xs i)
 | _,_=>.stuck
theorem ixd_seq:IxD X dIxS:=by
 intro value slice pins s σ F H x y v u dx dy Q I l rx ry qx qy w hs
 cases dx <;> first|exact w.elim|skip
 ·rename_i ds
  cases dy <;> first|exact w.elim|skip
  rename_i i
  unfold dIxS at w
  dsimp only at w
  cases e:ati ds i with
  | none=>rw [e] at w; exact w.elim
  | some d =>
   rw [e] at w
   obtain ⟨p,vs,rfl,hq,_,rs⟩:=RdV.tup l qx
   obtain ⟨j,ej,k⟩:=ati_len (Reps.length rs).symm e
   obtain ⟨z,ez,rz⟩:=Reps.get rs ej
   exact ix_tup value slice pins s σ H _ _ v u Q I rx ry ⟨p,vs,i,z,rfl,RdV.int qy,hq,k z ez,wish_fz (X:=X) l w rz⟩ hs
 ·rename_i ds
  cases dy <;> first|exact w.elim|skip
  rename_i i
  unfold dIxS at w
  dsimp only at w
  cases e:ati ds i with
  | none=>rw [e] at w; exact w.elim
  | some d =>
   rw [e] at w
   obtain ⟨p,vs,rfl,hq,rs⟩:=RdV.lst l qx
   obtain ⟨j,ej,k⟩:=ati_len (Reps.length rs).symm e
   obtain ⟨z,ez,rz⟩:=Reps.get rs ej
   exact ix_list value slice pins s σ H _ _ v u Q I rx ry ⟨p,vs,i,z,rfl,RdV.int qy,hq,k z ez,wish_fz (X:=X) l w rz⟩ hs
theorem se_ix (ha:SE X F0 H0 a fa) (hb:SE X F0 H0 b fb) (hs:PlainIx b:=by exact fun _ _=>rfl):SE X F0 H0 (.Subscript a b pos) (eOp dIxS fa fb):=se_ixr ixd_seq ha hb hs
noncomputable def dIxK:D→D→R En
 | .dK kvs,k=>(match keyOf k with|some q=>okD (look q kvs)|none=>.stuck)
 | _,_=>.stuck
theorem ixd_K:IxD X dIxK:=by
 intro value slice pins s σ F H x y v u dx dy Q I l rx ry qx qy w hs
 cases dx <;> first|exact w.elim|skip
 rename_i kds
 unfold dIxK at w
 dsimp only at w
 cases e:keyOf dy with
 | none=>rw [e] at w; exact w.elim
 | some k =>
  rw [e] at w
  dsimp only at w
  obtain ⟨p,kvs,rfl,hq,rk⟩:=RdV.dK l qx
  cases (show v=Value.ref p from rx)
  obtain ⟨hd,vs,rel,dd⟩:=Inv.dictK I hq
  rcases RepK.look k rk with ⟨z,d,a1,a2,rz⟩|⟨_,a2⟩
  ·rw [a2] at w
   obtain ⟨w',hw,rw'⟩:=RelO.some_of (v:=z) (o:=valueAt vs k) (by rw [← a1]; exact rel.val k)
   exact tail_any dd.typeIs PySem.F.slot_dict_getitem.lookup (wpAny_getItem_of (kV_is (key_rel e qy ry)) dd.mapOf hw ⟨z,H,I.tok _,rw',wish_fz (X:=X) l w rz⟩) hs
  ·rw [a2] at w; exact w.elim
theorem se_ixK (ha:SE X F0 H0 a fa) (hb:SE X F0 H0 b fb) (hs:PlainIx b:=by exact fun _ _=>rfl):SE X F0 H0 (.Subscript a b pos) (eOp dIxK fa fb):=se_ixr ixd_K ha hb hs
theorem sa_nil:SA X F0 H0 [] []:=fun pos pins s σ F H ρ Q S I h=>Calls.spliced_nil (h [] [] F H s (Gr.refl S.s) rfl .nil I)
theorem sa_cons {e:Expr} {es:List Expr} {f:EF} {r:List EF} (he:SE X F0 H0 e f) (hr:SA X F0 H0 es r) (hs:starEach (e::es) X.env=(false,eval e X.env)::starEach es X.env:=by rfl):SA X F0 H0 (e::es) (f::r):=by
 intro pos pins s σ F H ρ Q S I h
 rw [hs]
 refine Calls.spliced_cons (he pins s σ F H ρ _ S I ((KE.bind h).imp fun w h1 v u F1 H1 s1 g1 q1 r1 I1=>?_))
 refine hr pos pins s1 σ F1 H1 ρ _ (S.grow g1) I1 ((KE.bind h1).imp fun ws h2 vs us F2 H2 s2 g2 q2 r2 I2=>?_)
 exact h2 (v::vs) (u::us) F2 H2 s2 (g1.trans g2) ⟨v,vs,rfl,Vok.gr g2 q1,Voks.older (fun a e=>Le.none g1.h e) q2⟩ (.cons r1 r2) I2
theorem sz_eq:sz=sizeLine:=sizeLine_eq.symm
theorem new_lst {F H F1 H1:Hp} {p:Addr} {vs:List V} {ds:List D} (s:Le F H) (g:Gr F H F1 H1) (hp:H1 p=none) (r:Reps (kx X) (fzAll H F1 H1) vs ds) :
  Gr F H (fzAll H F1 H1) (upd H1 p (.lst vs))∧Vok (kx X) H (fzAll H F1 H1) (upd H1 p (.lst vs)) (.ref p) (.ow (.lst ds)):=by
 obtain ⟨g2,_⟩:=fzAll_gr s g
 have g3:=g2.trans (Gr.new (o:=.lst vs) g2.s hp)
 exact ⟨g3,p,_,rfl,Le.none g.h hp,Le.none g2.s hp,upd_same,r⟩
theorem new_tup {F H F1 H1:Hp} {p:Addr} {vs:List V} {ds:List D} (s:Le F H) (g:Gr F H F1 H1) (hp:H1 p=none) (r:Reps (kx X) (fzAll H F1 H1) vs ds) :
  Gr F H (upd (fzAll H F1 H1) p (.tup vs)) (upd H1 p (.tup vs))∧Vok (kx X) H (upd (fzAll H F1 H1) p (.tup vs)) (upd H1 p (.tup vs)) (.ref p) (.fz (.tup ds)):=by
 obtain ⟨g2,_⟩:=fzAll_gr s g
 have g3:=Gr.newF (o:=.tup vs) g2.s hp
 exact ⟨g2.trans g3,p,vs,rfl,SqT.of upd_same,Reps.le g3.f _ r⟩
theorem se_lst {es:List Expr} {f:List EF} (h:SA X F0 H0 es f):SE X F0 H0 (.List es pos) (eLst f):=by
 intro pins s σ F H ρ Q S I k
 refine wpAny_List_spliced (h pos pins s σ F H ρ _ S I ((KE.bind k).imp fun ws k1 vs us F1 H1 s1 g1 q1 r1 I1=>?_))
 cases e:stAll ws with
 | exc x=>rw [e] at k1; exact k1.elim
 | stuck=>rw [e] at k1; exact k1.elim
 | ok ds =>
  rw [e] at k1
  have rs:=Voks.stAll S.s g1 q1 e
  by_cases c:ds.length ≤ sz
  ·have k2:KE (XP X F0 H0) (R.ok (En.ow (.lst ds))) fun w=>∀ v u F' H' s',Gr F H F' H'→Vok (kx X) H F' H' v w→RelV v u→Inv X pins σ H' s'→Q u s':=by
    simpa [R.bind,if_pos c] using k1
   have hz:vs.length ≤ sizeLine:=by rw [Reps.length rs,← sz_eq]; exact c
   refine ⟨by rw [← r1.length]; exact hz,?_⟩
   have hf:H1 s1.heap.objs.size=none:=I1.hok.fresh (Nat.le_refl _)
   obtain ⟨g3,q3⟩:=new_lst (X:=X) S.s g1 hf rs
   exact k2 _ _ _ _ _ g3 q3 rfl (I1.laid (t':=s1.toks) (fun b u e=>Heap.get?_push_of_some _ e) (Nat.le_refl _) ⟨hz,us,0,r1,Heap.get?_push_size _ rfl⟩)
  ·have:False:=by simpa [R.bind,if_neg c,KE] using k1
   exact this.elim
theorem se_tup {es:List Expr} {f:List EF} {x1:Nat} (h:SA X F0 H0 es f):SE X F0 H0 (.Tuple es x1 pos) (eTup f):=by
 intro pins s σ F H ρ Q S I k
 refine wpAny_Tuple_spliced (h pos pins s σ F H ρ _ S I ((KE.bind k).imp fun ws k1 vs us F1 H1 s1 g1 q1 r1 I1=>?_))
 cases e:stAll ws with
 | exc x=>rw [e] at k1; exact k1.elim
 | stuck=>rw [e] at k1; exact k1.elim
 | ok ds =>
  rw [e] at k1
  have rs:=Voks.stAll S.s g1 q1 e
  by_cases c:ds.length ≤ sz
  ·have k2:KE (XP X F0 H0) (R.ok (En.fz (.tup ds))) fun w=>∀ v u F' H' s',Gr F H F' H'→Vok (kx X) H F' H' v w→RelV v u→Inv X pins σ H' s'→Q u s':=by
    simpa [R.bind,if_pos c] using k1
   have hz:vs.length ≤ sizeLine:=by rw [Reps.length rs,← sz_eq]; exact c
   refine ⟨by rw [← r1.length]; exact hz,?_⟩
   have hf:H1 s1.heap.objs.size=none:=I1.hok.fresh (Nat.le_refl _)
   obtain ⟨g3,q3⟩:=new_tup (X:=X) S.s g1 hf rs
   exact k2 _ _ _ _ _ g3 q3 rfl (I1.laid (t':=s1.toks) (fun b u e=>Heap.get?_push_of_some _ e) (Nat.le_refl _) ⟨hz,us,r1,⟨_,Heap.get?_push_size _ rfl,rfl,_,rfl⟩⟩)
  ·have:False:=by simpa [R.bind,if_neg c,KE] using k1
   exact this.elim
variable {x:Str} {e:Expr} {es:List Expr} {p:Pos} {id T:String} {gc:List D→R En} {f:List EF}
theorem se_callB (hc:CallD X (.builtin id) gc) (hm:X.mg x=none) (hv:bootBuiltins x=some (.builtin id)) (ha:SA X F0 H0 (e::es) f) (hg:Gl X x:=by rfl) (hn:x≠"__name__":=by decide) (hdb:(x == ("__debug__":Str))=false:=by decide)
  (he:starEach (e::es) X.env=(false,eval e X.env)::starEach es X.env:=by rfl) (hpl:(backTo pos (starEach es X.env)).any (·.1)=false:=by rfl):SE X F0 H0 (.Call (.Name x p) (e::es) [] pos) (eB gc f):=by
 intro pins s σ F H ρ Q S I h
 refine wpAny_Call_Name_kw (ld_blt I hg hm hv ?_ hn hdb)
 refine PyProof.Rows.callWith_builtin1 (ha pos pins s σ F H ρ _ S I ((KE.bind h).imp fun ws h1 vs us F1 H1 s1 g1 q1 r1 I1=>?_)) he hpl
 exact ep_end (hc pins s1 σ F1 H1 vs us _ _ I1 g1.s r1 (Voks.rd q1) (wish_end g1 h1))
theorem se_callTy (hc:CallD X (.type T) gc) (hm:X.mg x=none) (hv:bootBuiltins x=some (.type T)) (ha:SA X F0 H0 (e::es) f) (hg:Gl X x:=by rfl) (hn:x≠"__name__":=by decide) (hdb:(x == ("__debug__":Str))=false:=by decide)
  (he:starEach (e::es) X.env=(false,eval e X.env)::starEach es X.env:=by rfl) (hpl:(backTo pos (starEach es X.env)).any (·.1)=false:=by rfl):SE X F0 H0 (.Call (.Name x p) (e::es) [] pos) (eB gc f):=by
 intro pins s σ F H ρ Q S I h
 refine wpAny_Call_Name_kw (ld_blt I hg hm hv ?_ hn hdb)
 refine PyProof.Rows.callWith_type1 (ha pos pins s σ F H ρ _ S I ((KE.bind h).imp fun ws h1 vs us F1 H1 s1 g1 q1 r1 I1=>?_)) he hpl
 exact ep_end (hc pins s1 σ F1 H1 vs us _ _ I1 g1.s r1 (Voks.rd q1) (wish_end g1 h1))
theorem calld_of {fv:Value} {r:List V→Hp→VK→Prop} (hc:CallR X fv r) (h:∀ F H xs ds Q,Le F H→Paired (RdV (kx X) F H) xs ds→Wish X F H (gc ds) Q→r xs H Q):CallD X fv gc :=
 fun pins s σ F H xs us ds Q I l rx qx w=>hc pins s σ H xs us Q I rx (h F H xs ds Q l qx w)
noncomputable def dLenS:List D→R En
 | [.lst xs]=>okI xs.length
 | [.tup xs]=>okI xs.length
 | _=>.stuck
theorem cd_len:CallD X (.builtin "len") dLenS:=calld_of call_len_seq fun F H xs ds Q l qx w=>by
 cases qx with
 | nil=>exact w.elim
 | @cons x d xs ds q1 q2 =>
  cases q2 with
  | cons _ _=>cases d <;> exact w.elim
  | nil =>
   cases d <;> first|exact w.elim|skip
   ·obtain ⟨p,vs,rfl,hq,_,rs⟩:=RdV.tup l q1
    refine ⟨p,vs,rfl,.inr hq,?_⟩
    rw [Reps.length rs]
    exact wish_fz (X:=X) l (v:=.int _) w rfl
   ·obtain ⟨p,vs,rfl,hq,rs⟩:=RdV.lst l q1
    refine ⟨p,vs,rfl,.inl hq,?_⟩
    rw [Reps.length rs]
    exact wish_fz (X:=X) l (v:=.int _) w rfl
theorem cd_list:CallD X (.type "list") dList:=calld_of call_list_of fun F H xs ds Q l qx w=>by
 cases qx with
 | nil=>exact w.elim
 | @cons x d xs ds q1 q2 =>
  cases q2 with
  | cons _ _=>cases d <;> exact w.elim
  | nil =>
   cases d <;> first|exact w.elim|skip
   ·obtain ⟨p,vs,rfl,hq,_,rs⟩:=RdV.tup l q1
    refine ⟨p,vs,rfl,.inr hq,fun q hn=>?_⟩
    exact w _ _ _ (Gr.new l hn) ⟨q,_,rfl,hn,Le.none l hn,upd_same,rs⟩
   ·obtain ⟨p,vs,rfl,hq,rs⟩:=RdV.lst l q1
    refine ⟨p,vs,rfl,.inl hq,fun q hn=>?_⟩
    exact w _ _ _ (Gr.new l hn) ⟨q,_,rfl,hn,Le.none l hn,upd_same,rs⟩
end
end L3
namespace L3
open PySem PySem.Spec PyProof.Rows L2
section
variable {X:Cx} {F0 H0:Hp} {a b e:Expr} {fa fb f:EF} {pos:Pos} {g:D→D→R En} {t u:TF}
theorem truth_ok {pins:List (Addr×Obj)} {s:Shared} {σ:St} {F H:Hp} {x:V} {v:Value} {d:D} {Q:Bool→Shared→Prop} (I:Inv X pins σ H s) (l:Le F H) (rx:RelV x v) (q:RdV (kx X) F H x d)
  (h:KE (XP X F0 H0) (truth d) fun b=>∀ s',Inv X pins σ H s'→Q b s'):wpAny (model X.prog X.w) X.A (truthy v) Q X.xe s:=by
 have go:∀ b,TruV X.K x H b→(∀ s',Inv X pins σ H s'→Q b s')→wpAny (model X.prog X.w) X.A (truthy v) Q X.xe s:=fun b tv k =>
  thn (tru_ok pins s σ H x v (fun b' H'=>b'=b∧H'=H) I rx ⟨b,tv,rfl,rfl⟩) fun b' s' ⟨H',I',eb,eh⟩=>by
   subst eb eh
   exact k s' I'
 cases d with
 | non=>cases RdV.non q; exact go false rfl h
 | bl b=>cases RdV.bl q; exact go b rfl h
 | int i=>cases RdV.int q; exact go (i != 0) rfl h
 | str y =>
  cases RdV.str q
  unfold truth at h
  dsimp only at h
  by_cases c:y.length ≤ sz
  ·rw [if_pos c] at h
   exact go _ ⟨by rw [← sz_eq]; exact c,rfl⟩ h
  ·rw [if_neg c] at h; exact h.elim
 | tup ds =>
  obtain ⟨p,vs,rfl,hq,_,rs⟩:=RdV.tup l q
  refine go (!ds.isEmpty) (.inr (.inl ⟨vs,hq,?_⟩)) h
  have:=Reps.length rs
  cases vs <;> cases ds <;> simp_all
 | lst ds =>
  obtain ⟨p,vs,rfl,hq,rs⟩:=RdV.lst l q
  refine go (!ds.isEmpty) (.inl ⟨vs,hq,?_⟩) h
  have:=Reps.length rs
  cases vs <;> cases ds <;> simp_all
 | dK _=>exact h.elim
 | dT _=>exact h.elim
 | xc _ _=>exact h.elim
theorem st_cmp {op:CmpOp} (ho:OpD X (compareOp op) g) (ha:SE X F0 H0 a fa) (hb:SE X F0 H0 b fb) (hm:behindInMarks op b=false:=by first|exact nobehind _ (by decide) (by decide)|rfl) :
  ST X F0 H0 (.Compare a [op] [b] pos) (tE (eOp g fa fb)):=by
 intro pins s σ F H ρ Q S I h
 refine wpAny_isTrue_Compare1 (two (Q:=fun v s'=>wpAny (model X.prog X.w) X.A (truthy v) Q X.xe s') ha hb S I ((KE.bind h).imp fun w h1 v u F' H' s' g' q r I'=>?_) fun s F H x y v u dx dy Q=>ho pins s σ F H x y v u dx dy Q) hm
 exact truth_ok I' g'.s r (Vok.rd q) (h1.imp fun b k s2 I2=>k F' H' s2 g' I2)
theorem st_val (he:SE X F0 H0 e f) (hp:∀ whole,isTrue e X.env whole=(do let v ← whole; standAt e.pos; holding [v] (truthy v)):=by intro _; rfl):ST X F0 H0 e (tE f):=by
 intro pins s σ F H ρ Q S I h
 refine isTrue_plain (he pins s σ F H ρ _ S I ((KE.bind h).imp fun w h1 v u F' H' s' g' q r I'=>?_)) (hp _)
 exact truth_ok I' g'.s r (Vok.rd q) (h1.imp fun b k s2 I2=>k F' H' s2 g' I2)
theorem st_not (ha:ST X F0 H0 a t):ST X F0 H0 (.UnaryOp .Not a pos) (tNot t):=by
 intro pins s σ F H ρ Q S I h
 exact isTrue_not (ha pins s σ F H ρ _ S I ((KE.bind h).imp fun b k F' H' s' g' I'=>k F' H' s' g' I'))
variable {rest:List Expr}
theorem sw_and1 (ha:ST X F0 H0 a t):SW X F0 H0 (.BoolOp .And [a] pos) t:=by
 intro wh pins s σ F H ρ Q S I h
 refine isTrue_and (ha pins s σ F H ρ _ S I (h.imp fun c k F' H' s' g' I'=>?_))
 cases c with
 | true=>exact isTrue_and_nil (k F' H' s' g' I')
 | false=>exact k F' H' s' g' I'
theorem sw_or1 (ha:ST X F0 H0 a t):SW X F0 H0 (.BoolOp .Or [a] pos) t:=by
 intro wh pins s σ F H ρ Q S I h
 refine isTrue_or (ha pins s σ F H ρ _ S I (h.imp fun c k F' H' s' g' I'=>?_))
 cases c with
 | false=>exact isTrue_or_nil (k F' H' s' g' I')
 | true=>exact k F' H' s' g' I'
theorem ke_gr {F H F' H':Hp} {pins:List (Addr×Obj)} {σ:St} {Q:Bool→Shared→Prop} (g':Gr F H F' H') {r:R Bool} (h:KE (XP X F0 H0) r fun b=>∀ F2 H2 s2,Gr F H F2 H2→Inv X pins σ H2 s2→Q b s2) :
  KE (XP X F0 H0) r fun b=>∀ F2 H2 s2,Gr F' H' F2 H2→Inv X pins σ H2 s2→Q b s2:=h.imp fun b k F2 H2 s2 g2 I2=>k F2 H2 s2 (g'.trans g2) I2
theorem sw_and (ha:ST X F0 H0 a t) (hb:SW X F0 H0 (.BoolOp .And (b::rest) pos) u):SW X F0 H0 (.BoolOp .And (a::b::rest) pos) (tAnd t u):=by
 intro wh pins s σ F H ρ Q S I h
 refine isTrue_and (ha pins s σ F H ρ _ S I ((KE.bind h).imp fun c k F' H' s' g' I'=>?_))
 cases c with
 | true=>exact hb wh pins s' σ F' H' ρ Q (S.grow g') I' (ke_gr g' k)
 | false=>exact k F' H' s' g' I'
theorem sw_or (ha:ST X F0 H0 a t) (hb:SW X F0 H0 (.BoolOp .Or (b::rest) pos) u):SW X F0 H0 (.BoolOp .Or (a::b::rest) pos) (tOr t u):=by
 intro wh pins s σ F H ρ Q S I h
 refine isTrue_or (ha pins s σ F H ρ _ S I ((KE.bind h).imp fun c k F' H' s' g' I'=>?_))
 cases c with
 | false=>exact hb wh pins s' σ F' H' ρ Q (S.grow g') I' (ke_gr g' k)
 | true=>exact k F' H' s' g' I'
theorem st_w (h:SW X F0 H0 e t):ST X F0 H0 e t:=h _
theorem ke_grE {F H F' H':Hp} {pins:List (Addr×Obj)} {σ:St} {Q:Value→Shared→Prop} (g':Gr F H F' H') {r:R En}
  (h:KE (XP X F0 H0) r fun w=>∀ v u F2 H2 s2,Gr F H F2 H2→Vok (kx X) H F2 H2 v w→RelV v u→Inv X pins σ H2 s2→Q u s2) :
  KE (XP X F0 H0) r fun w=>∀ v u F2 H2 s2,Gr F' H' F2 H2→Vok (kx X) H' F2 H2 v w→RelV v u→Inv X pins σ H2 s2→Q u s2 :=
 h.imp fun w k v u F2 H2 s2 g2 q r I2=>k v u F2 H2 s2 (g'.trans g2) (Vok.older (fun a e=>Le.none g'.h e) q) r I2
theorem isB_ok {F H:Hp} {x:V} {v:Value} {d:D} {P:Bool→Prop} (q:RdV (kx X) F H x d) (r:RelV x v) (h:KE (XP X F0 H0) (isB d) P):∃ b,v=.bool b∧P b:=by
 cases d <;> first|exact h.elim|skip
 cases RdV.bl q
 cases r
 exact ⟨_,rfl,h⟩
theorem se_one {op} (h:SE X F0 H0 a fa):SE X F0 H0 (.BoolOp op [a] pos) fa:=fun pins s σ F H ρ Q S I k=>BoolOp_one (h pins s σ F H ρ Q S I k)
theorem se_and (ha:SE X F0 H0 a fa) (hb:SE X F0 H0 (.BoolOp .And (b::rest) pos) fb):SE X F0 H0 (.BoolOp .And (a::b::rest) pos) (eAnd fa fb):=by
 intro pins s σ F H ρ Q S I h
 refine BoolOp_and (ha pins s σ F H ρ _ S I ((KE.bind h).imp fun w h1 v u F' H' s' g' q r I'=>?_))
 obtain ⟨c,rfl,h2⟩:=isB_ok (Vok.rd q) r (KE.bind h1)
 refine wpAny_truthy_bool ?_
 cases c with
 | true=>exact hb pins s' σ F' H' ρ Q (S.grow g') I' (ke_grE g' h2)
 | false=>exact h2 (.bl false) _ F' H' s' g' rfl rfl I'
end
section
variable {X:Cx} {F0 H0:Hp} {e:Expr} {f:EF} {pos pos':Pos} {st:Stmt} {rest:List Stmt} {p q:SF} {t:TF}
theorem sss_nil:SSs X F0 H0 [] sNext:=fun pins s σ F H ρ D S I h=>wpAny_execs_nil ⟨σ,H,I,h σ F H Le.refl S⟩
theorem sss_cons (h1:SS X F0 H0 st p) (h2:SSs X F0 H0 rest q):SSs X F0 H0 (st::rest) (sSeq p q):=by
 intro pins s σ F H ρ D S I h
 have go:∀ D':Ends,D'.rt=D.rt→D'.bk=D.bk→D'.ct=D.ct→PostS X F0 H0 F D' (p ρ)→(∀ σ' H' s',D'.nx σ' H'→Inv X pins σ' H' s'→wpAny (model X.prog X.w) X.A (execs rest X.env) (SP X pins D) X.xe s') →
   wpAny (model X.prog X.w) X.A (execs (st::rest) X.env) (SP X pins D) X.xe s:=fun D' er eb ec hp hn=>by
  refine wpAny_execs_cons (thn (h1 pins s σ F H ρ D' S I hp) fun fl s1 r=>?_)
  cases fl with
  | next=>obtain ⟨σ',H',I',r⟩:=r; exact hn σ' H' s1 r I'
  | ret v=>obtain ⟨x,σ',H',I',rv,r⟩:=r; exact ⟨x,σ',H',I',rv,by rw [← er]; exact r⟩
  | brk=>obtain ⟨σ',H',I',r⟩:=r; exact ⟨σ',H',I',by rw [← eb]; exact r⟩
  | cont=>obtain ⟨σ',H',I',r⟩:=r; exact ⟨σ',H',I',by rw [← ec]; exact r⟩
 unfold sSeq at h
 cases ep:p ρ with
 | nx ρ' =>
  rw [ep] at h
  refine go { D with nx:=fun σ' H'=>∃ F',Le F F'∧StOk (kx X) F0 H0 F' H' ρ' σ' } rfl rfl rfl (by rw [ep]; exact fun σ' F' H' l S'=>⟨F',l,S'⟩) fun σ' H' s' ⟨F',l,S'⟩ I'=>?_
  exact h2 pins s' σ' F' H' ρ' D S' I' (PostS.le l h)
 | rt w=>rw [ep] at h; exact go { D with nx:=fun _ _=>False } rfl rfl rfl (by rw [ep]; exact h) fun _ _ _ z=>z.elim
 | bk ρ'=>rw [ep] at h; exact go { D with nx:=fun _ _=>False } rfl rfl rfl (by rw [ep]; exact h) fun _ _ _ z=>z.elim
 | ct ρ'=>rw [ep] at h; exact go { D with nx:=fun _ _=>False } rfl rfl rfl (by rw [ep]; exact h) fun _ _ _ z=>z.elim
 | exc x=>rw [ep] at h; exact go { D with nx:=fun _ _=>False } rfl rfl rfl (by rw [ep]; exact h) fun _ _ _ z=>z.elim
 | stuck=>rw [ep] at h; exact h.elim
theorem sss_one (h1:SS X F0 H0 st p):SSs X F0 H0 [st] p:=by
 intro pins s σ F H ρ D S I h
 refine wpAny_execs_cons (thn (h1 pins s σ F H ρ D S I h) fun fl s1 r=>?_)
 cases fl with
 | next=>exact wpAny_execs_nil r
 | ret v=>exact r
 | brk=>exact r
 | cont=>exact r
theorem ss_continue:SS X F0 H0 (.Continue pos) sCont:=fun pins s σ F H ρ D S I h=>wpAny_Continue ⟨σ,H,I,h σ F H Le.refl S⟩
theorem nm_ok {w:En} {P:En→Prop} (h:KE (XP X F0 H0) w.nm P):∃ w',w.nm=.ok w'∧P w'∧w'=w:=by
 cases w with
 | fz d=>exact ⟨_,rfl,h,rfl⟩
 | ow d=>exact ⟨_,rfl,h,rfl⟩
 | br d=>exact h.elim
 | lk d=>exact h.elim
 | od d=>exact h.elim
theorem ss_set (i:Nat) {x:Str} (hN:X.N.Nodup) (he:SE X F0 H0 e f) (hi:X.N[i]?=some x:=by rfl) (hx:Loc X.env.scope x:=by trivial)
  (hs:swapsWith e (some (.Name x pos')) pos.line X.env=pure false:=by rfl) (hf:X.fn x=true∨X.env.scope.names.lookup x=some .local:=by trivial) :
  SS X F0 H0 (.Assign [.Name x pos'] e pos) (sSet i f):=by
 intro pins s σ F H ρ D S I h
 refine wpAny_Assign_Name (he pins s σ F H ρ _ S I ((KE.bind (PostS.of h)).imp fun w k v u F' H' s' g q r I'=>?_)) hs
 obtain ⟨w',e1,k2,rfl⟩:=nm_ok k
 exact store_ok I' hN hi hx r (fun s2 I2=>⟨_,H',I2,k2 _ F' H' g.f (S.setW g q e1)⟩) hf
theorem ss_ret (he:SE X F0 H0 e f):SS X F0 H0 (.Return (some e) pos) (sRet f):=by
 intro pins s σ F H ρ D S I h
 refine wpAny_Return_some (he pins s σ F H ρ _ S I ((KE.bind (PostS.of h)).imp fun w k v u F' H' s' g q r I'=>?_))
 obtain ⟨w',e1,k2,rfl⟩:=nm_ok k
 exact ⟨v,σ,H',I',r,k2 v F' H' (S.gr.trans g) (Vok.older (fun a e=>Le.none S.gr.h e) q)⟩
theorem ss_retV (i:Nat) {x:Str} {pos':Pos} (hN:X.N[i]?=some x:=by rfl) (hv:Vis X.env.scope x:=by trivial) (hd:(x == ("__debug__":Str))=false:=by decide)
  (hcd:(x == ("__classdict__":Str))=false:=by decide):SS X F0 H0 (.Return (some (.Name x pos')) pos) (sRetV i):=by
 intro pins s σ F H ρ D S I h
 have go:∀ w:En,ρ[i]?=some (some w)→(∀ v,Eok (kx X) H0 F H v w→Vok (kx X) H0 F H v w)→(∀ v F' H',Gr F0 H0 F' H'→Vok (kx X) H0 F' H' v w→D.rt v H') →
   wpAny (model X.prog X.w) X.A (exec (.Return (some (.Name x pos')) pos) X.env) (SP X pins D) X.xe s:=fun w ew t k=>by
  obtain ⟨v,e1,q⟩:=S.val i w ew
  refine wpAny_Return_some (thn (pe_var hN hv hd hcd pins s σ H (fun v' H'=>v'=v∧H'=H) I ⟨v,e1,rfl,rfl⟩) fun u s' ⟨v',H',I',r,ev,eh⟩=>?_)
  subst ev eh
  exact ⟨v',σ,H',I',r,k v' F H' S.gr (t v' q)⟩
 unfold sRetV at h
 cases ew:ρ[i]? with
 | none=>rw [ew] at h; exact h.elim
 | some w =>
  rw [ew] at h
  cases w with
  | none=>exact h.elim
  | some w =>
   cases w with
   | fz d=>exact go _ ew (fun v q=>q) h
   | ow d=>exact go _ ew (fun v q=>q) h
   | br d=>exact h.elim
   | lk d=>exact h.elim
   | od d=>exact h.elim
theorem ss_if {c:Expr} {as bs:List Stmt} (hc:ST X F0 H0 c t) (ha:SSs X F0 H0 as p) (hb:SSs X F0 H0 bs q):SS X F0 H0 (.If c as bs pos) (sIf t p q):=by
 intro pins s σ F H ρ D S I h
 refine wpAny_If (hc pins s σ F H ρ _ S I ((PostS.of h).imp fun d k F' H' s' g I'=>?_))
 cases d with
 | true=>exact ha pins s' σ F' H' ρ D (S.grow g) I' (PostS.le g.f k)
 | false=>exact hb pins s' σ F' H' ρ D (S.grow g) I' (PostS.le g.f k)
theorem ss_aug (i:Nat) {x:Str} {op:Operator} {g:D→D→R En} (hN:X.N.Nodup) (ho:OpD X (inplaceOp op) g) (he:SE X F0 H0 e f) (hi:X.N[i]?=some x:=by rfl) (hx:Loc X.env.scope x:=by trivial)
  (hf:X.fn x=true∨X.env.scope.names.lookup x=some .local:=by trivial):SS X F0 H0 (.AugAssign (.Name x pos') op e pos) (sAug i g f):=by
 intro pins s σ F H ρ D S I h
 unfold sAug at h
 cases ew:ρ[i]? with
 | none=>rw [ew] at h; exact h.elim
 | some w =>
  rw [ew] at h
  cases w with
  | none=>exact h.elim
  | some w =>
   cases w with
   | ow d=>exact h.elim
   | br d=>exact h.elim
   | lk d=>exact h.elim
   | od d=>exact h.elim
   | fz d =>
    obtain ⟨v,e1,q⟩:=S.val i _ ew
    have h:=KE.bind (PostS.of h)
    have ip:PIp X op (fun x y H' Q'=>∃ F' dx dy,Le F' H'∧RdV (kx X) F' H' x dx∧RdV (kx X) F' H' y dy∧Wish X F' H' (g dx dy) Q'):=fun pins s σ H x y v u Q I rx ry ⟨F',dx,dy,l,qx,qy,w⟩=>ho pins s σ F' H x y v u dx dy Q I l rx ry qx qy w
    refine ps_aug hN hi hx (pe_sem (e:=e)) ip hf pins s σ H D I ⟨v,e1,he.sem S (h.imp fun wy k y F1 H1 g1 q1=>⟨F1,d,wy.d,g1.s,Rep.le g1.f d q |> Or.inl,Vok.rd q1,?_⟩)⟩
    refine KE.impX (KE.bind k) (fun w k2 z F2 H2 g2 q2=>?_) fun _ z=>z.elim
    obtain ⟨w',e2,k3,rfl⟩:=nm_ok k2
    exact k3 _ F2 H2 (Le.trans g1.f g2.f) ((S.grow g1).setW g2 q2 e2)
theorem StOk.mut {κ:Kx} {F0 H0 F H:Hp} {ρ:Rho} {σ:St} {i:Nat} {d d':D} {a:Addr} {o:HO} (S:StOk κ F0 H0 F H ρ σ) (ei:ρ[i]?=some (some (.ow d))) (si:σ[i]?=some (some (.ref a))) (r:OwnO κ F o d') :
  StOk κ F0 H0 F (upd H a o) (ρ.set i (some (.ow d'))) σ:=by
 obtain ⟨v,e1,q⟩:=S.val i _ ei
 rw [si] at e1
 cases e1
 obtain ⟨b,ob,eb,h0,hf,hh,_⟩:=q
 cases eb
 refine ⟨⟨S.gr.f,fun c u h=>?_,fun c u h=>?_,S.gr.n⟩,by simpa using S.len,fun j w e=>?_,fun j k w w' c hjk ej ek oj ok sj sk=>?_,fun j y e=>?_⟩
 ·rw [upd_ne (ne_of_none h h0)]; exact S.gr.h c u h
 ·rw [upd_ne (ne_of_none h hf)]; exact S.gr.s c u h
 ·rcases set_get e with ⟨rfl,z⟩|⟨ne,z⟩
  ·cases z
   exact ⟨_,si,a,o,rfl,h0,hf,upd_same,r⟩
  ·obtain ⟨v,e1,q⟩:=S.val j w z
   refine ⟨v,e1,?_⟩
   have nb:∀ {c},v=.ref c→w.own=true→c≠a:=fun {c} ev ow ec=>by
    subst ev ec
    exact S.sep j i w _ c ne z ei ow rfl e1 si
   cases w with
   | fz d=>exact q
   | br d=>exact q
   | ow d =>
    obtain ⟨c,oc,ec,c0,cf,ch,cr⟩:=q
    exact ⟨c,oc,ec,c0,cf,by rw [upd_ne (nb ec rfl)]; exact ch,cr⟩
   | lk d=>exact q
   | od d =>
    obtain ⟨c,oc,ec,c0,cf,ch⟩:=q
    exact ⟨c,oc,ec,c0,cf,by rw [upd_ne (nb ec rfl)]; exact ch⟩
 ·have at_:∀ {m:Nat} {y:En},(ρ.set i (some (.ow d')))[m]?=some (some y)→y.own=true→∃ y',ρ[m]?=some (some y')∧y'.own=true:=fun {m y} h oy=>by
   rcases set_get h with ⟨rfl,_⟩|⟨_,z⟩
   ·exact ⟨_,ei,rfl⟩
   ·exact ⟨y,z,oy⟩
  obtain ⟨y,ej',oj'⟩:=at_ ej oj
  obtain ⟨y',ek',ok'⟩:=at_ ek ok
  exact S.sep j k y y' c hjk ej' ek' oj' ok' sj sk
 ·rcases set_get e with ⟨_,z⟩|⟨nj,ej⟩
  ·cases z
  obtain ⟨s1,c,bs,e1,c0,cf,nd,dp,sp⟩:=S.dp j y ej
  refine ⟨fun k z hk ek=>?_,c,bs,e1,c0,cf,nd,Deep.same (fun b m=>?_) (fun _ _ z=>z) Le.refl dp,fun k w b hk ek ok m=>?_⟩
  ·rcases set_get ek with ⟨_,q⟩|⟨_,q⟩
   ·cases q
   ·exact s1 k z hk q
  ·refine (upd_ne fun z=>?_).symm
   subst z
   exact sp i _ _ (Ne.symm nj) ei rfl m si
  ·rcases set_get ek with ⟨rfl,_⟩|⟨_,q⟩
   ·exact sp k _ b hk ei rfl m
   ·exact sp k w b hk q ok m
theorem ss_app (i:Nat) {x:Str} {apos cpos np:Pos} (he:SE X F0 H0 e f) (hN:X.N[i]?=some x:=by rfl) (hv:Vis X.env.scope x:=by trivial) (hd:(x == ("__debug__":Str))=false:=by decide)
  (hcd:(x == ("__classdict__":Str))=false:=by decide) (hbase:attributeBase (.Name x np) "append" X.env (eval (.Name x np) X.env)=eval (.Name x np) X.env:=by rfl)
  (hfew:((backTo cpos (starEach [e] X.env)).all (fun x=>!x.1) && (backToKw cpos (keywordEach [] X.env)).all (fun x=>x.1.isSome)
   && decide ([e].length+([]:List Keyword).length+(if ([]:List Keyword).isEmpty then 0 else 1) < 30))=true:=by rfl)
  (hline:(apos.endLine == cpos.line)=true:=by rfl) (hst:starEach [e] X.env=(false,eval e X.env)::starEach [] X.env:=by rfl) (hplain:(backTo cpos (starEach [] X.env)).any (·.1)=false:=by rfl)
  (hs:swapsWith (.Call (.Attribute (.Name x np) "append" apos) [e] [] cpos) none pos.line X.env=pure false:=by rfl) :
  SS X F0 H0 (.Expr (.Call (.Attribute (.Name x np) "append" apos) [e] [] cpos) pos) (sApp i f):=by
 intro pins s σ F H ρ D S I h
 unfold sApp at h
 cases ew:ρ[i]? with
 | none=>rw [ew] at h; exact h.elim
 | some w =>
  rw [ew] at h
  cases w with
  | none=>exact h.elim
  | some w =>
   cases w with
   | fz d=>exact h.elim
   | br d=>exact h.elim
   | lk d=>exact h.elim
   | od d=>exact h.elim
   | ow d =>
    cases d <;> first|exact h.elim|skip
    rename_i ds
    have h:=KE.bind (PostS.of h)
    obtain ⟨v,e1,a,o,rfl,h0,hf,hh,ro⟩:=S.val i _ ew
    cases o <;> first|exact ro.elim|skip
    rename_i vs
    have P:=ps_expr (pos:=pos) (pe_bm (X:=X) PySem.F.plainAttrs_list PySem.F.slot_list_append PySem.F.type_list_append mt_append (pe_var (pos:=np) hN hv hd hcd) (pa_cons (pe_sem (e:=e)) pa_nil hst) hbase hfew hline hst hplain) hs
    refine P pins s σ H D I ⟨_,e1,.inl ⟨rfl,vs,SqL.of hh⟩,he.sem S (h.imp fun w k y F1 H1 g1 q1=>?_)⟩
    cases es:w.st with
    | exc x=>rw [es] at k; exact k.elim
    | stuck=>rw [es] at k; exact k.elim
    | ok d =>
     rw [es] at k
     have ry:=Vok.st S.s g1 q1 es
     obtain ⟨g2,_⟩:=fzAll_gr S.s g1
     have lv:vs.length=ds.length:=Reps.length ro
     by_cases c:ds.length < sz
     ·have k2:PostS X F0 H0 F D (.nx (ρ.set i (some (.ow (.lst (ds++[d])))))):=by simpa [if_pos c,KE] using k
      refine ⟨a,vs,y,rfl,rfl,g1.h _ _ hh,by rw [lv,← sz_eq]; exact c,?_⟩
      exact k2 σ _ _ g2.f ((S.grow g2).mut ew e1 (o:=.lst (vs++[y])) (Reps.append (Reps.le g2.f _ ro) (Reps.one ry)))
     ·have:False:=by simpa [if_neg c,PostS,KE] using k
      exact this.elim
end
end L3
namespace L3
open PySem PySem.Spec PyProof.Rows L2
section
variable {X:Cx} {F0 H0:Hp} {pos:Pos} {t:TF} {p:SF}
theorem ss_while (n:Nat) {c:Expr} {body:List Stmt} (hp:PassesOwn (model X.prog X.w) X.A X.env X.xe) (hc:ST X F0 H0 c t) (hb:SSs X F0 H0 body p):SS X F0 H0 (.While c body [] pos) (sWhile n t p):=by
 intro pins s σ F H ρ D S I h
 refine ps_while hp (pt_sem (e:=c)) (pss_sem (st:=body)) pins s σ H D I
  ⟨fun m σ H=>∃ F' ρ,Le F F'∧StOk (kx X) F0 H0 F' H ρ σ∧PostS X F0 H0 F' D (whileD t p m ρ),⟨n,F,ρ,Le.refl,S,h⟩,?_⟩
 rintro m σ1 H1 ⟨F1,ρ1,l1,S1,h1⟩
 cases m with
 | zero=>exact h1.elim
 | succ m =>
  intro pins' s' I'
  refine hc pins' s' σ1 F1 H1 ρ1 _ S1 I' ((PostS.of h1).imp fun b k F2 H2 s2 g2 I2=>⟨H2,I2,?_⟩)
  cases b with
  | false=>exact k σ1 F2 H2 g2.f (S1.grow g2)
  | true =>
   show ∃ N:St→Hp→Prop,_
   refine ⟨fun σ' H'=>∃ F' ρ,Le F F'∧StOk (kx X) F0 H0 F' H' ρ σ'∧PostS X F0 H0 F' D (whileD t p m ρ),fun σ' H' q=>⟨m,Nat.lt_succ_self m,q⟩,fun pins3 s3 I3=>?_⟩
   refine hb pins3 s3 σ1 F2 H2 ρ1 _ (S1.grow g2) I3 ?_
   have k:PostS X F0 H0 F1 D (match p ρ1 with|.nx ρ2=>whileD t p m ρ2|.ct ρ2=>whileD t p m ρ2|.bk ρ2=>.nx ρ2|o=>o):=k
   cases ep:p ρ1 with
   | nx ρ2=>rw [ep] at k; exact fun σ' F' H' l S'=>⟨F',ρ2,Le.trans l1 (Le.trans g2.f l),S',PostS.le (Le.trans g2.f l) k⟩
   | ct ρ2=>rw [ep] at k; exact fun σ' F' H' l S'=>⟨F',ρ2,Le.trans l1 (Le.trans g2.f l),S',PostS.le (Le.trans g2.f l) k⟩
   | bk ρ2=>rw [ep] at k; exact fun σ' F' H' l S'=>k σ' F' H' (Le.trans g2.f l) S'
   | rt w=>rw [ep] at k; exact k
   | exc x=>rw [ep] at k; exact k
   | stuck=>rw [ep] at k; exact k
end
structure Walk (κ:Kx) (J:It) (F1 G:Hp) (ds:List D):Prop where
 go:∀ (i:Nat) (d:D) (F H:Hp),ds[i]?=some d→Le F1 F→Le F H→Le G H→J.go i H∧∀ x H',J.yld i H x H'→∃ F',Gr F H F' H'∧Rep κ F' x d
 stop:∀ (i:Nat) (F H:Hp),ds.length ≤ i→Le F1 F→Le F H→Le G H→J.stop i H
theorem Walk.more {κ:Kx} {J:It} {F1 G G':Hp} {ds:List D} (W:Walk κ J F1 G ds) (l:Le G G'):Walk κ J F1 G' ds :=
 ⟨fun i d F H e l1 l2 l3=>W.go i d F H e l1 l2 (Le.trans l l3),fun i F H e l1 l2 l3=>W.stop i F H e l1 l2 (Le.trans l l3)⟩
noncomputable def SI (X:Cx) (F0 H0:Hp) (tg iter:Expr) (fi:IF):Prop :=
 ∃ wi,PI X tg iter wi∧∀ (σ:St) (F H:Hp) (ρ:Rho) (R:It→Hp→Prop),StOk (kx X) F0 H0 F H ρ σ →
  KE (XP X F0 H0) (fi ρ) (fun ds=>∀ F1 H1 J,Gr F H F1 H1→Walk (kx X) J F1 H0 ds→R J H1)→wi σ H R
noncomputable def SIc (X:Cx) (F0 H0:Hp) (tg iter:Expr) (fi:IF):Prop :=
 ∃ wi,PI X tg iter wi∧∀ (σ:St) (F H:Hp) (ρ:Rho) (R:It→Hp→Prop),StOk (kx X) F0 H0 F H ρ σ →
  KE (XP X F0 H0) (fi ρ) (fun ds=>∀ F1 H1 J,Gr F H F1 H1→Walk (kx X) J F1 H1 ds→R J H1)→wi σ H R
theorem SI.c {X:Cx} {F0 H0:Hp} {tg iter:Expr} {fi:IF} (h:SI X F0 H0 tg iter fi):SIc X F0 H0 tg iter fi:=by
 obtain ⟨wi,P,k⟩:=h
 exact ⟨wi,P,fun σ F H ρ R S q=>k σ F H ρ R S (q.imp fun ds z F1 H1 J g W=>z F1 H1 J g (W.more (Le.trans S.gr.h g.h)))⟩
noncomputable def SG (X:Cx) (F0 H0:Hp) (tg:Expr) (gf:GF):Prop :=
 ∃ tgv,PG X tg tgv∧∀ (σ:St) (F H:Hp) (ρ:Rho) (v:V) (d:D) (Q:St→Hp→Prop),StOk (kx X) F0 H0 F H ρ σ→Rep (kx X) F v d →
  KE (fun _=>False) (gf d ρ) (fun ρ1=>∀ σ1,StOk (kx X) F0 H0 F H ρ1 σ1→Q σ1 H)→tgv v σ H Q
section
variable {X:Cx} {F0 H0:Hp} {pos:Pos} {tg iter:Expr} {fi:IF} {gf:GF} {p:SF} {f:EF}
theorem sg_name (i:Nat) {x:Str} (hN:X.N.Nodup) (hi:X.N[i]?=some x:=by rfl) (hx:Loc X.env.scope x:=by trivial)
  (hf:X.fn x=true∨X.env.scope.names.lookup x=some .local:=by trivial):SG X F0 H0 (.Name x pos) (gV i) :=
 ⟨_,pg_name hN hi hx hf,fun σ F H ρ v d Q S r h=>h _ (S.setF r)⟩
theorem gVs_ok {F H:Hp} {Q:St→Hp→Prop}:∀ (is:List Nat) (ds:List D) (vs:List V) (ρ:Rho) (σ:St),StOk (kx X) F0 H0 F H ρ σ→Reps (kx X) F vs ds →
  KE (fun _=>False) (gVs is ds ρ) (fun ρ1=>∀ σ1,StOk (kx X) F0 H0 F H ρ1 σ1→Q σ1 H)→Q (List.foldl (fun s (iv:Nat×V)=>s.set iv.1 (some iv.2)) σ (is.zip vs)) H∧is.length=vs.length
 | [],[],vs,ρ,σ,S,r,h=>by cases (show vs=[] from r); exact ⟨h σ S,rfl⟩
 | [],_::_,_,_,_,_,_,h=>h.elim
 | _::_,[],_,_,_,_,_,h=>h.elim
 | i::is,d::ds,_,ρ,σ,S,r,h=>by
  obtain ⟨v,vr,rfl,r1,r2⟩:=r
  obtain ⟨q1,q2⟩:=gVs_ok is ds vr _ _ (S.setF (i:=i) r1) r2 h
  exact ⟨q1,by simp [q2]⟩
noncomputable def SGs (X:Cx) (es:List Expr) (is:List Nat):Prop:=PGs X es (fun vs σ H Q=>is.length=vs.length∧Q (List.foldl (fun s (iv:Nat×V)=>s.set iv.1 (some iv.2)) σ (is.zip vs)) H)
theorem sgs_nil:SGs X [] []:=by
 intro pins s σ H vs us Q I r h
 obtain ⟨e,q⟩:=h
 cases r with
 | nil=>exact pgs_nil pins s σ H [] [] Q I .nil ⟨rfl,q⟩
 | cons _ _=>cases e
theorem sgs_cons (i:Nat) {x:Str} {xp:Pos} {es:List Expr} {is:List Nat} (hN:X.N.Nodup) (h:SGs X es is) (hi:X.N[i]?=some x:=by rfl) (hx:Loc X.env.scope x:=by trivial)
  (hf:X.fn x=true∨X.env.scope.names.lookup x=some .local:=by trivial)
  (hs:(assignEach (.Name x xp::es) X.env).map (·.2)=assign (.Name x xp) X.env::(assignEach es X.env).map (·.2):=by rfl):SGs X (.Name x xp::es) (i::is):=by
 intro pins s σ H vs us Q I r k
 obtain ⟨e,q⟩:=k
 cases r with
 | nil=>cases e
 | cons r1 r2=>exact pgs_cons (pg_name hN hi hx hf) h hs pins s σ H _ _ Q I (.cons r1 r2) ⟨_,_,rfl,by simpa using e,q⟩
theorem sg_tup {es:List Expr} {k:Nat} {is:List Nat} (hc:X.calm=true) (h:SGs X es is) (hn:(assignEach es X.env).length=is.length:=by rfl) (hst:(assignEach es X.env).findIdx? (·.1)=none:=by rfl):SG X F0 H0 (.Tuple es k pos) (gT is):=by
 refine ⟨_,pg_tup hc h hn hst,fun σ F H ρ v d Q S r w=>?_⟩
 cases d <;> first|exact w.elim|skip
 rename_i ds
 obtain ⟨a,vs,rfl,hq,rs⟩:=r
 obtain ⟨q1,q2⟩:=gVs_ok is ds vs ρ σ S rs w
 exact ⟨a,vs,rfl,SqT.le S.s hq,q2.symm,q2,q1⟩
noncomputable def sAsg (gf:GF) (f:EF):SF:=fun ρ=>sOf ((f ρ).bind fun w=>w.st.bind fun d=>gf d ρ) .nx
theorem ss_for {body:List Stmt} (hp:PassesOwn (model X.prog X.w) X.A X.env X.xe) (hc:X.calm=true) (hi:SI X F0 H0 tg iter fi) (hg:SG X F0 H0 tg gf) (hb:SSs X F0 H0 body p)
  (hs:∀ x,foldedSetIterable iter X.env x=pure x:=by intro _; rfl):SS X F0 H0 (.For tg iter body [] pos) (sFor fi gf p):=by
 intro pins s σ F H ρ D S I h
 obtain ⟨wi,PIv,hwi⟩:=hi
 obtain ⟨tgv,PGv,hgv⟩:=hg
 refine ps_for hp hc PIv PGv (pss_sem (st:=body)) hs pins s σ H D I (hwi σ F H ρ _ S ((PostS.of h).imp fun ds k F1 H1 J g1 W=>?_))
 refine ⟨fun i m σ H=>m=ds.length - i∧i ≤ ds.length∧∃ F' ρ,Le F F'∧Le F1 F'∧StOk (kx X) F0 H0 F' H ρ σ∧PostS X F0 H0 F' D (forD gf p (ds.drop i) ρ),
  ⟨ds.length,by simp,Nat.zero_le _,F1,ρ,g1.f,Le.refl,S.grow g1,PostS.le g1.f (by simpa using k)⟩,?_⟩
 rintro i m σ2 H2 ⟨rfl,hi,F2,ρ2,lF,l1,S2,h2⟩
 by_cases hlt:i < ds.length
 ·have ed:ds[i]?=some ds[i]:=by simp [hlt]
  have edr:ds.drop i=ds[i]::ds.drop (i+1):=List.drop_eq_getElem_cons hlt
  obtain ⟨go,yl⟩:=W.go i ds[i] F2 H2 ed l1 S2.s S2.gr.h
  refine .inr ⟨go,fun σ' H'=>∃ F' ρ,Le F F'∧Le F1 F'∧StOk (kx X) F0 H0 F' H' ρ σ'∧PostS X F0 H0 F' D (forD gf p (ds.drop (i+1)) ρ),fun σ' H' q=>⟨ds.length - (i+1),by (first|lia|omega),rfl,hlt,q⟩,fun x H' y=>?_⟩
  obtain ⟨F3,g3,rx⟩:=yl x H' y
  rw [edr] at h2
  have S3:=S2.grow g3
  refine hgv σ2 F3 H' ρ2 x ds[i] _ S3 rx ?_
  cases eg:gf ds[i] ρ2 with
  | exc e=>unfold forD at h2; rw [eg] at h2; exact h2.elim
  | stuck=>unfold forD at h2; rw [eg] at h2; exact h2.elim
  | ok ρ3 =>
   have h3:PostS X F0 H0 F2 D (match p ρ3 with|.nx ρ4=>forD gf p (ds.drop (i+1)) ρ4|.ct ρ4=>forD gf p (ds.drop (i+1)) ρ4|.bk ρ4=>.nx ρ4|o=>o):=by
    unfold forD at h2; rw [eg] at h2; exact h2
   refine fun σ3 S4 pins3 s3 I3=>hb pins3 s3 σ3 F3 H' ρ3 _ S4 I3 ?_
   cases ep:p ρ3 with
   | nx ρ4=>rw [ep] at h3; exact fun σ' F' H' l S'=>⟨F',ρ4,Le.trans lF (Le.trans g3.f l),Le.trans l1 (Le.trans g3.f l),S',PostS.le (Le.trans g3.f l) h3⟩
   | ct ρ4=>rw [ep] at h3; exact fun σ' F' H' l S'=>⟨F',ρ4,Le.trans lF (Le.trans g3.f l),Le.trans l1 (Le.trans g3.f l),S',PostS.le (Le.trans g3.f l) h3⟩
   | bk ρ4=>rw [ep] at h3; exact fun σ' F' H' l S'=>h3 σ' F' H' (Le.trans g3.f l) S'
   | rt w=>rw [ep] at h3; exact h3
   | exc x=>rw [ep] at h3; exact h3
   | stuck=>rw [ep] at h3; exact h3
 ·have e:i=ds.length:=by (first|lia|omega)
  subst e
  rw [List.drop_length] at h2
  exact .inl ⟨W.stop _ F2 H2 (Nat.le_refl _) l1 S2.s S2.gr.h,h2 σ2 F2 H2 Le.refl S2⟩
theorem walk_lst {κ:Kx} {F1 G:Hp} {a:Addr} {vs:List V} {ds:List D} (hq:SqL κ.K F1 a vs) (rs:Reps κ F1 vs ds):Walk κ (Itl κ.K a) F1 G ds where
 go:=fun i d F H ed l1 l _=>by
  obtain ⟨v,ev,rv⟩:=Reps.get rs ed
  have q:=SqL.le l (SqL.le l1 hq)
  refine ⟨⟨vs,v,q,ev⟩,fun x H' y=>?_⟩
  obtain ⟨e,y⟩:=y
  subst e
  have:=y vs q
  rw [ev] at this
  cases this
  exact ⟨F,Gr.refl l,Rep.le l1 d rv⟩
 stop:=fun i F H hi l1 l _=>⟨vs,SqL.le l (SqL.le l1 hq),by rw [Reps.length rs]; exact hi⟩
theorem walk_tup {κ:Kx} {F1 G:Hp} {a:Addr} {vs:List V} {ds:List D} (hq:SqT κ.K F1 a vs) (rs:Reps κ F1 vs ds):Walk κ (Itt κ.K a) F1 G ds where
 go:=fun i d F H ed l1 l _=>by
  obtain ⟨v,ev,rv⟩:=Reps.get rs ed
  have q:=SqT.le l (SqT.le l1 hq)
  refine ⟨⟨vs,v,q,ev⟩,fun x H' y=>?_⟩
  obtain ⟨e,y⟩:=y
  subst e
  have:=y vs q
  rw [ev] at this
  cases this
  exact ⟨F,Gr.refl l,Rep.le l1 d rv⟩
 stop:=fun i F H hi l1 l _=>⟨vs,SqT.le l (SqT.le l1 hq),by rw [Reps.length rs]; exact hi⟩
theorem walk_brl {κ:Kx} {F1 G:Hp} {a:Addr} {vs:List V} {ds:List D} (hq:SqL κ.K G a vs) (rs:Reps κ F1 vs ds):Walk κ (Itl κ.K a) F1 G ds where
 go:=fun i d F H ed l1 l lg=>by
  obtain ⟨v,ev,rv⟩:=Reps.get rs ed
  have q:=SqL.le lg hq
  refine ⟨⟨vs,v,q,ev⟩,fun x H' y=>?_⟩
  obtain ⟨e,y⟩:=y
  subst e
  have:=y vs q
  rw [ev] at this
  cases this
  exact ⟨F,Gr.refl l,Rep.le l1 d rv⟩
 stop:=fun i F H hi l1 l lg=>⟨vs,SqL.le lg hq,by rw [Reps.length rs]; exact hi⟩
theorem PI.or {iter:Expr} {w1 w2:TI} (h1:PI X tg iter w1) (h2:PI X tg iter w2):PI X tg iter (fun σ H R=>w1 σ H R∨w2 σ H R):=fun pins s σ H R I h=>by
 rcases h with h|h
 ·exact h1 pins s σ H R I h
 ·exact h2 pins s σ H R I h
theorem si_seq {iter:Expr} (he:SE X F0 H0 iter f):SI X F0 H0 tg iter (iSeq f):=by
 refine ⟨_,PI.or (pi_list (pe_sem (e:=iter))) (pi_tup (pe_sem (e:=iter))),fun σ F H ρ R S h=>?_⟩
 have h:=KE.bind h
 cases ew:f ρ with
 | exc x=>rw [ew] at h; exact h.elim
 | stuck=>rw [ew] at h; exact h.elim
 | ok w =>
  rw [ew] at h
  cases es:w.st with
  | exc x=>rw [KE_ok,es] at h; exact h.elim
  | stuck=>rw [KE_ok,es] at h; exact h.elim
  | ok d =>
   rw [KE_ok,es] at h
   cases d <;> first|exact h.elim|skip
   ·rename_i ds
    refine .inr (he.sem S ?_)
    rw [ew,KE_ok]
    intro v F1 H1 g1 q1
    obtain ⟨g2,_⟩:=fzAll_gr S.s g1
    obtain ⟨a,vs,rfl,hq,rs⟩:=Vok.st S.s g1 q1 es
    exact ⟨a,rfl,⟨vs,SqT.le g2.s hq⟩,h _ H1 _ g2 (walk_tup (κ:=kx X) hq rs)⟩
   ·rename_i ds
    refine .inl (he.sem S ?_)
    rw [ew,KE_ok]
    intro v F1 H1 g1 q1
    obtain ⟨g2,_⟩:=fzAll_gr S.s g1
    obtain ⟨a,vs,rfl,hq,rs⟩:=Vok.st S.s g1 q1 es
    exact ⟨a,rfl,⟨vs,SqL.le g2.s hq⟩,h _ H1 _ g2 (walk_lst (κ:=kx X) hq rs)⟩
theorem si_var (i:Nat) {x:Str} {pos:Pos} (hN:X.N[i]?=some x:=by rfl) (hv:Vis X.env.scope x:=by trivial) (hd:(x == ("__debug__":Str))=false:=by decide)
  (hcd:(x == ("__classdict__":Str))=false:=by decide):SI X F0 H0 tg (.Name x pos) (iV i):=by
 refine ⟨_,PI.or (pi_list (pe_var (pos:=pos) hN hv hd hcd)) (pi_tup (pe_var (pos:=pos) hN hv hd hcd)),fun σ F H ρ R S h=>?_⟩
 unfold iV at h
 cases ew:ρ[i]? with
 | none=>rw [ew] at h; exact h.elim
 | some w =>
  rw [ew] at h
  cases w with
  | none=>exact h.elim
  | some w =>
   obtain ⟨v,e1,q⟩:=S.val i w ew
   cases w with
   | ow d=>exact h.elim
   | lk d=>exact h.elim
   | od d=>exact h.elim
   | fz d =>
    cases d <;> first|exact h.elim|skip
    ·obtain ⟨a,vs,rfl,hq,rs⟩:=q
     exact .inr ⟨_,e1,a,rfl,⟨vs,SqT.le S.s hq⟩,h F H _ (Gr.refl S.s) (walk_tup (κ:=kx X) hq rs)⟩
    ·obtain ⟨a,vs,rfl,hq,rs⟩:=q
     exact .inl ⟨_,e1,a,rfl,⟨vs,SqL.le S.s hq⟩,h F H _ (Gr.refl S.s) (walk_lst (κ:=kx X) hq rs)⟩
   | br d =>
    obtain ⟨a,o,rfl,eh,ro⟩:=q
    cases d <;> first|exact h.elim|skip
    ·cases o <;> exact ro.elim
    ·cases o <;> first|exact ro.elim|skip
     exact .inl ⟨_,e1,a,rfl,⟨_,SqL.of (S.gr.h _ _ eh)⟩,h F H _ (Gr.refl S.s) (walk_brl (κ:=kx X) (SqL.of eh) ro)⟩
theorem sic_var (i:Nat) {x:Str} {pos:Pos} (hN:X.N[i]?=some x:=by rfl) (hv:Vis X.env.scope x:=by trivial) (hd:(x == ("__debug__":Str))=false:=by decide)
  (hcd:(x == ("__classdict__":Str))=false:=by decide):SIc X F0 H0 tg (.Name x pos) (iVc i):=by
 refine ⟨_,PI.or (pi_list (pe_var (pos:=pos) hN hv hd hcd)) (pi_tup (pe_var (pos:=pos) hN hv hd hcd)),fun σ F H ρ R S h=>?_⟩
 unfold iVc at h
 cases ew:ρ[i]? with
 | none=>rw [ew] at h; exact h.elim
 | some w =>
  rw [ew] at h
  cases w with
  | none=>exact h.elim
  | some w =>
   obtain ⟨v,e1,q⟩:=S.val i w ew
   have own:∀ {d:D} {a:Addr} {o:HO},v=.ref a→H a=some o→OwnO (kx X) F o d→KE (XP X F0 H0) (seqOf d) (fun ds=>∀ F1 H1 J,Gr F H F1 H1→Walk (kx X) J F1 H1 ds→R J H1) →
     iList X.K (tVar i) σ H R∨iTup X.K (tVar i) σ H R:=fun {d a o} ev eh ro h=>by
    subst ev
    cases d <;> first|exact h.elim|skip
    ·cases o <;> exact ro.elim
    ·cases o <;> first|exact ro.elim|skip
     exact .inl ⟨_,e1,a,rfl,⟨_,SqL.of eh⟩,h F H _ (Gr.refl S.s) (walk_brl (κ:=kx X) (SqL.of eh) ro)⟩
   cases w with
   | ow d=>obtain ⟨a,o,ev,_,_,eh,ro⟩:=q; exact own ev eh ro h
   | lk d=>exact h.elim
   | od d=>exact h.elim
   | br d=>obtain ⟨a,o,ev,eh,ro⟩:=q; exact own ev (S.gr.h _ _ eh) ro h
   | fz d =>
    dsimp only at h
    cases d <;> first|exact h.elim|skip
    ·obtain ⟨a,vs,rfl,hq,rs⟩:=q
     exact .inr ⟨_,e1,a,rfl,⟨vs,SqT.le S.s hq⟩,h F H _ (Gr.refl S.s) (walk_tup (κ:=kx X) hq rs)⟩
    ·obtain ⟨a,vs,rfl,hq,rs⟩:=q
     exact .inl ⟨_,e1,a,rfl,⟨vs,SqL.le S.s hq⟩,h F H _ (Gr.refl S.s) (walk_lst (κ:=kx X) hq rs)⟩
theorem rngD_get:∀ (n:Nat) (lo:Int) (i:Nat),(rngD lo n)[i]?=if i < n then some (.int (lo+i)) else none
 | 0,lo,i=>by simp [rngD]
 | n+1,lo,0=>by simp [rngD]
 | n+1,lo,i+1=>by
  have:=rngD_get n (lo+1) i
  simp only [rngD,List.getElem?_cons_succ,this]
  by_cases h:i < n
  ·rw [if_pos h,if_pos (by (first|lia|omega))]
   congr 2
   (first|lia|omega)
  ·rw [if_neg h,if_neg (by (first|lia|omega))]
theorem rngD_len:∀ (n:Nat) (lo:Int),(rngD lo n).length=n
 | 0,_=>rfl
 | n+1,lo=>by simp [rngD,rngD_len n]
theorem walk_rng {κ:Kx} {F1 G:Hp} (lo:Int) (n:Nat):Walk κ (Itr lo n) F1 G (rngD lo n) where
 go:=fun i d F H ed l1 l _=>by
  rw [rngD_get] at ed
  by_cases h:i < n
  ·rw [if_pos h] at ed
   cases ed
   refine ⟨h,fun x H' y=>?_⟩
   obtain ⟨e,y⟩:=y
   subst e y
   exact ⟨F,Gr.refl l,rfl⟩
  ·rw [if_neg h] at ed; cases ed
 stop:=fun i F H hi l1 l _=>by rw [rngD_len] at hi; exact hi
theorem si_range1 {a:Expr} {fa:EF} {np cp:Pos} (ha:SE X F0 H0 a fa) (hm:X.mg "range"=none) (hg:Gl X "range":=by rfl) (hs:starEach [a] X.env=[(false,eval a X.env)]:=by rfl):SI X F0 H0 tg (.Call (.Name "range" np) [a] [] cp) (iR1 fa):=by
 refine ⟨_,pi_range1 hg hm (pa_cons (pe_sem (e:=a)) pa_nil hs) hs,fun σ F H ρ R S h=>ha.sem S ((KE.bind h).imp fun w k v F1 H1 g1 q1=>?_)⟩
 have r:=Vok.rd q1
 revert k
 generalize w.d=d at r
 intro k
 cases d <;> first|exact k.elim|skip
 rename_i j
 dsimp only at k
 by_cases c:fits b62 j=true
 ·rw [if_pos c] at k
  have p62:(2:Int) ^ 62=4611686018427387904:=by simp
  have c:-(2 ^ 62) ≤ j∧j < 2 ^ 62:=by
   rw [fits_iff,b62e] at c
   rw [p62]
   (first|lia|omega)
  cases RdV.int r
  exact ⟨j,rfl,c.1,c.2,k F1 H1 _ g1 (walk_rng 0 j.toNat)⟩
 ·rw [if_neg c] at k; exact k.elim
end
noncomputable def Args (κ:Kx) (F H:Hp):List V→List En→Prop
 | vs,[]=>vs=[]
 | vs,.fz d::ws=>∃ v r,vs=v::r∧Rep κ F v d∧Args κ F H r ws
 | vs,.br d::ws=>∃ v r,vs=v::r∧(∃ a o,v=.ref a∧H a=some o∧OwnO κ F o d)∧Args κ F H r ws
 | _,_=>False
noncomputable def spD (κ:Kx) (dn:Den) (n:Nat):Sp:=fun vs H Q _=>vs.length=n∧∃ F ws,Le F H∧Args κ F H vs ws ∧
 KE (fun _=>False) (dn ws) fun w=>∀ v F' H',Gr F H F' H'→Vok κ H F' H' v w→Q v H'
section
variable {P:Program} {w:World} {K:PySem.W.Frag} {mg:Str→Option Value} {base:Heap}
theorem args_st {κ:Kx} {F H:Hp}:∀ {vs:List V} {ws:List En},Args κ F H vs ws→∀ (i:Nat) (w:En),(ws.map some)[i]?=some (some w)→∃ v,(vs.map some)[i]?=some (some v)∧Eok κ H F H v w∧w.own=false
 | _,[],_,i,w,e=>by simp at e
 | _,.fz d::ws,h,0,w,e=>by
  obtain ⟨v,r,rfl,h1,h2⟩:=h
  simp at e; subst e
  exact ⟨v,rfl,h1,rfl⟩
 | _,.br d::ws,h,0,w,e=>by
  obtain ⟨v,r,rfl,h1,h2⟩:=h
  simp at e; subst e
  exact ⟨v,rfl,h1,rfl⟩
 | _,.fz d::ws,h,i+1,w,e=>by
  obtain ⟨v,r,rfl,h1,h2⟩:=h
  simpa using args_st h2 i w (by simpa using e)
 | _,.br d::ws,h,i+1,w,e=>by
  obtain ⟨v,r,rfl,h1,h2⟩:=h
  simpa using args_st h2 i w (by simpa using e)
theorem args_len {κ:Kx} {F H:Hp}:∀ {vs:List V} {ws:List En},Args κ F H vs ws→vs.length=ws.length
 | _,[],h=>by cases (show _=_ from h); rfl
 | _,.fz d::ws,h=>by obtain ⟨v,r,rfl,h1,h2⟩:=h; simp [args_len h2]
 | _,.br d::ws,h=>by obtain ⟨v,r,rfl,h1,h2⟩:=h; simp [args_len h2]
theorem start_st {κ:Kx} {F H:Hp} {N:List Str} {vs:List V} {ws:List En} (l:Le F H) (h:Args κ F H vs ws):StOk κ F H F H (ws.map some++List.replicate (N.length - ws.length) none) (L2.start N vs):=by
 have hl:=args_len h
 have at_:∀ (i:Nat) (w:En),(ws.map some++List.replicate (N.length - ws.length) none)[i]?=some (some w)→(ws.map some)[i]?=some (some w):=fun i w e=>by
  by_cases hi:i < ws.length
  ·rwa [List.getElem?_append_left (by simpa using hi)] at e
  ·rw [List.getElem?_append_right (by simpa using hi),List.getElem?_replicate] at e
   split at e <;> cases e
 refine ⟨Gr.refl l,by simp [L2.start,hl],fun i w e=>?_,fun i j w w' a hij ei ej oi oj si sj=>?_,fun i y e=>by obtain ⟨v,e1,q,z⟩:=args_st h i _ (at_ i _ e); cases z⟩
 ·obtain ⟨v,e1,q,_⟩:=args_st h i w (at_ i w e)
  refine ⟨v,?_,q⟩
  unfold L2.start
  have hi:i < vs.length:=by have:=(List.getElem?_eq_some_iff.mp e1).1; simpa using this
  rw [List.getElem?_append_left (by simpa using hi)]
  exact e1
 ·obtain ⟨v,_,_,z⟩:=args_st h i w (at_ i w ei)
  rw [oi] at z; cases z
theorem fnD {x qual:Str} {st:Stmt} {f:Addr} {fd:FuncData} {N ps:List Str} {k:Nat} {body:SF} (F:Fun K x qual st f fd) (S:FnScope N ps (defScope st))
  (h:∀ (cdv:Value) (A:Around) (outer:List Env) (s:Shared) (H F0:Hp),Room k (A.deeper (envOfC qual (defScope st) s.heap.objs.size f cdv)) →
   SSs (cxOf CX0 P w K mg base N qual (defScope st) f cdv A outer s H E0).nox F0 H (defBody st) body):FnOk P w K mg base CX0 (k+1) f fd ps (spD ⟨P,w,K⟩ (den N.length body) ps.length):=by
 refine F.ok S (fun vs H Q E q=>q.1) (fun cdv A outer s H vs Q E hr q=>?_)
 obtain ⟨hl,F0,ws,l,ha,q⟩:=q
 refine ⟨tSemS _ _,pss_sem,fun pins s' I=>?_⟩
 have B:=h cdv A outer s H F0 hr
 have B':SSs (cxOf CX0 P w K mg base N qual (defScope st) f cdv A outer s H E).nox F0 H (defBody st) body:=B
 refine B' pins s' (L2.start N vs) F0 H _ _ (start_st (N:=N) l ha) I ?_
 have e:KE (fun _=>False) (den N.length body ws) fun w'=>∀ v F' H',Gr F0 H F' H'→Vok ⟨P,w,K⟩ H F' H' v w'→Q v H':=q
 unfold den fin at e
 cases eb:body (ws.map some++List.replicate (N.length - ws.length) none) with
 | nx ρ=>rw [eb] at e; exact fun σ' F' H' l' S'=>e .non F' H' S'.gr rfl
 | rt w'=>rw [eb] at e; exact e
 | bk ρ=>rw [eb] at e; exact e.elim
 | ct ρ=>rw [eb] at e; exact e.elim
 | exc x=>rw [eb] at e; exact e.elim
 | stuck=>rw [eb] at e; exact e.elim
end
section
variable {X:Cx} {F0 H0:Hp} {pos p:Pos} {e:Expr} {es:List Expr} {fa:List EF} {x:Str} {k n:Nat} {f:Addr} {fd:FuncData} {ps:List Str} {dn:Den}
theorem argAll_ok {κ:Kx} {H F' H':Hp} (s:Le F' H'):∀ {vs:List V} {ws ys:List En},Voks κ H F' H' vs ws→argAll ws=.ok ys→∀ G,Le F' G→(∀ a o,H a=none→H' a=some o→G a=some o)→Args κ G H' vs ys
 | _,[],ys,h,e,G,l,lk=>by cases e; exact h
 | _,w::ws,ys,h,e,G,l,lk=>by
  obtain ⟨v,r,rfl,h1,h2⟩:=h
  unfold argAll at e
  cases e1:w.arg with
  | exc x=>rw [e1] at e; cases e
  | stuck=>rw [e1] at e; cases e
  | ok y =>
   cases e2:argAll ws with
   | exc x=>rw [e1,e2] at e; cases e
   | stuck=>rw [e1,e2] at e; cases e
   | ok ys' =>
    rw [e1,e2] at e
    cases e
    have rest:=argAll_ok s h2 e2 G l lk
    cases w with
    | fz d=>cases e1; exact ⟨v,r,rfl,Rep.le l d h1,rest⟩
    | br d =>
     cases e1
     obtain ⟨a,o,ea,e2',ro⟩:=h1
     exact ⟨v,r,rfl,⟨a,o,ea,e2',OwnO.le l ro⟩,rest⟩
    | lk d=>cases e1
    | od d =>
     cases d <;> first|(cases e1; done)|skip
     cases e1
     rename_i kds
     have h1:DV κ H F' H' v (.dK kds):=h1
     rcases h1 with ⟨_,z,_⟩|⟨ds,z,a,bs,css,rfl,h0,hf,nd,hh,i⟩|⟨_,_,z,_⟩|⟨_,_,_,z,_⟩
     ·cases z
     ·cases z
      have at_:∀ b∈bs++css.flatten,G b=H' b:=fun b m=>by
       obtain ⟨us,z0,z1,z2⟩:=In2.at i m
       rw [z2]; exact lk b _ z0 z2
      exact ⟨.ref a,r,rfl,⟨a,bs.map V.ref,rfl,SqL.of (lk a _ h0 hh),In2.reps i at_ l⟩,rest⟩
     ·cases z
     ·cases z
    | ow d =>
     cases e1
     obtain ⟨a,o,ea,e0,ef,e2',ro⟩:=h1
     have q:=lk a o e0 e2'
     have ro:=OwnO.le l ro
     refine ⟨v,r,rfl,?_,rest⟩
     cases o <;> cases d <;> first
      | exact ro.elim
      | exact ⟨a,_,ea,.inl (.inl q),ro⟩
      | exact ⟨a,_,ea,.inl q,ro⟩
theorem evs_len:∀ (fs:List EF) (ρ:Rho) (ws:List En),evs fs ρ=.ok ws→ws.length=fs.length
 | [],_,_,h=>by cases h; rfl
 | a::r,ρ,ws,h=>by
  unfold evs at h
  cases ea:a ρ with
  | exc x=>rw [ea] at h; cases h
  | stuck=>rw [ea] at h; cases h
  | ok x =>
   cases er:evs r ρ with
   | exc x=>rw [ea,er] at h; cases h
   | stuck=>rw [ea,er] at h; cases h
   | ok xs=>rw [ea,er] at h; cases h; simp [evs_len r ρ xs er]
theorem se_call (G:FnOk X.prog X.w X.K X.mg X.base CX0 k f fd ps (spD (kx X) dn n)) (hr:Room k X.A) (hm:X.mg x=some (.ref f)) (hk:PySem.W.keepIn X.K (.ref f)=true) (hb:Binds X.K fd ps []) (ha:SA X F0 H0 (e::es) fa)
  (hn:fa.length=n:=by rfl)
  (hg:Gl X x:=by rfl) (hdb:(x == ("__debug__":Str))=false:=by decide) (he:starEach (e::es) X.env=(false,eval e X.env)::starEach es X.env:=by rfl) (hpl:(backTo pos (starEach es X.env)).any (·.1)=false:=by rfl) :
  SE X F0 H0 (.Call (.Name x p) (e::es) [] pos) (eCall dn fa):=by
 intro pins s σ F H ρ Q S I h
 refine wpAny_Call_Name_kw (ld_glob I hg hm ?_ hdb)
 refine PySem.W.callWith_K (h₀:=X.base) I.ok.mod.kin hk (ha pos pins s σ F H ρ _ S I ?_) he hpl
 cases ef:evs fa ρ with
 | exc x=>have h:=KE.bind h; rw [ef] at h; exact h
 | stuck=>have h:=KE.bind h; rw [ef] at h; exact h
 | ok ws =>
  have h:=KE.bind h
  rw [ef] at h
  intro vs us F1 H1 s1 g1 q1 r1 I1
  refine ⟨I1.kIn,?_⟩
  have h:KE (XP X F0 H0) ((argAll ws).bind fun ys=>dn ys) _:=h
  cases ea:argAll ws with
  | exc x=>rw [ea] at h; exact h.elim
  | stuck=>rw [ea] at h; exact h.elim
  | ok ys =>
   rw [ea] at h
   obtain ⟨g2,l2⟩:=fzAll_gr S.s g1
   have A:=argAll_ok (κ:=kx X) g1.s q1 ea (fzAll H F1 H1) l2 (fun a o e0 e2=>by unfold fzAll; rw [e0]; exact e2)
   have hl:vs.length=n:=by
    rw [← hn,← evs_len fa ρ ws ef]
    clear A ea h r1
    revert vs
    have:∀ (ws:List En) (vs:List V),Voks (kx X) H F1 H1 vs ws→vs.length=ws.length:=by
     intro ws
     induction ws with
     | nil=>intro vs h; cases (show vs=[] from h); rfl
     | cons w ws ih =>
      intro vs h
      obtain ⟨v,r,rfl,_,h2⟩:=h
      simp [ih r h2]
    intro vs h
    exact this ws vs h
   refine ep_end (run_fn G hr hb (dvs:=[]) .nil pass0 I1 r1 ?_)
   rw [List.append_nil]
   refine ⟨hl,fzAll H F1 H1,ys,g2.s,A,KE.impX h (fun w k v F' H' g' q' u s' r' I'=>?_) fun _ z=>z.elim⟩
   exact k v u F' H' s' (g2.trans g') (Vok.older (fun a e=>Le.none g1.h e) q') r' I'
end
end L3
namespace L3
open PySem PySem.Spec PyProof.Rows L2
theorem hu10 {k:Nat} {A:Around} (hr:Room k A):A.units+10 < cLine:=by have:=hr.un; (first|lia|omega)
section
variable {X:Cx} {F0 H0:Hp} {pos p:Pos} {x:Str} {k:Nat} {f:Addr} {fd:FuncData} {dn:Den}
noncomputable def Ty.nm:Ty→String
 | .int=>"int"|.bool=>"bool"|.str=>"str"|.list=>"list"|.tuple=>"tuple"|.dict=>"dict"
noncomputable def dTy:D→String
 | .non=>"NoneType"|.bl _=>"bool"|.int _=>"int"|.str _=>"str"|.tup _=>"tuple"|.lst _=>"list"|.dK _=>"dict"|.dT _=>"dict"|.xc _ _=>"?"
theorem kit_ty (K:PySem.W.Frag) (d:D) (t:Ty) (h:∀ c fs,d≠.xc c fs):PySem.W.kitOne K (.type (dTy d)) (.type t.nm)=some (tyIs d t):=by
 cases d <;> first
  | exact absurd rfl (h _ _)
  | (cases t <;> first|rfl|kernel_rfl)
theorem isi_ok {pins:List (Addr×Obj)} {s:Shared} {σ:St} {F H:Hp} {v:V} {u:Value} {d:D} {t:Ty} {Q:Value→Shared→Prop} (I:Inv X pins σ H s) (l:Le F H) (r:RelV v u) (q:RdV (kx X) F H v d) (hx:∀ c fs,d≠.xc c fs)
  (h:∀ tk,Q (.bool (tyIs d t)) { s with toks:=tk }):wpAny (model X.prog X.w) X.A (call (.builtin "isinstance") [u,.type t.nm]) Q X.xe s:=by
 have e:=kit_ty X.K d t hx
 cases d with
 | non=>cases RdV.non q; cases (show u=Value.none from r); exact PySem.W.kia_one PySem.W.kitx_none I.kIn True.intro e (fun z=>nomatch z) h
 | bl b=>cases RdV.bl q; cases (show u=Value.bool b from r); exact PySem.W.kia_one PySem.W.kitx_bool I.kIn True.intro e (fun z=>nomatch z) h
 | int i=>cases RdV.int q; obtain ⟨tk,rfl⟩:=(show ∃ tk,u=Value.int i tk from r); exact PySem.W.kia_one PySem.W.kitx_int I.kIn True.intro e (fun z=>nomatch z) h
 | str y=>cases RdV.str q; obtain ⟨tk,rfl⟩:=(show ∃ tk,u=Value.str y tk from r); exact PySem.W.kia_one PySem.W.kitx_str I.kIn True.intro e (fun z=>nomatch z) h
 | tup ds =>
  obtain ⟨a,vs,rfl,hq,_,_⟩:=RdV.tup l q
  cases (show u=Value.ref a from r)
  obtain ⟨its,_,⟨o,e1,e2,_⟩,_⟩:=I.tuple hq
  exact PySem.W.kia_one PySem.W.kitx_tuple I.kIn ⟨o,e1,e2⟩ e (fun z=>nomatch z) h
 | lst ds =>
  obtain ⟨a,vs,rfl,hq,_⟩:=RdV.lst l q
  cases (show u=Value.ref a from r)
  obtain ⟨its,_,⟨o,n,e1,e2,_⟩,_⟩:=I.list hq
  exact PySem.W.kia_one PySem.W.kitx_list I.kIn ⟨o,e1,e2⟩ e (fun z=>nomatch z) h
 | dK ds =>
  obtain ⟨a,vs,rfl,hq,_⟩:=RdV.dK l q
  cases (show u=Value.ref a from r)
  obtain ⟨_,vs,_,o,es,ep,e1,e2,_⟩:=Inv.dictK I hq
  exact PySem.W.kia_one PySem.W.kitx_dict I.kIn ⟨o,e1,e2.1⟩ e (fun z=>nomatch z) h
 | dT ds =>
  have hq:∃ a kvs,v=.ref a∧Rd H a (.dT kvs):=by
   rcases q with ⟨a,vs,e,q,_⟩|⟨a,o,e,e2,r⟩
   ·exact ⟨a,vs,e,Rd.le l q⟩
   ·cases o <;> first|exact r.elim|exact ⟨a,_,e,.inl e2⟩
  obtain ⟨a,kvs,rfl,hq⟩:=hq
  cases (show u=Value.ref a from r)
  obtain ⟨_,_,xs,_,o,es,ep,e1,e2,_⟩:=hq.ok I.hok
  exact PySem.W.kia_one PySem.W.kitx_dict I.kIn ⟨o,e1,e2.1⟩ e (fun z=>nomatch z) h
 | xc c fs=>exact absurd rfl (hx c fs)
theorem boot_ty (t:Ty):bootBuiltins t.nm=some (.type t.nm):=by cases t <;> decide +kernel
theorem se_isi (t:Ty) {e:Expr} {fe:EF} {p2:Pos} (he:SE X F0 H0 e fe) (hm:X.mg "isinstance"=none) (hmt:X.mg t.nm=none) (hg:Gl X "isinstance":=by rfl) (hgt:Gl X t.nm:=by rfl)
  (hnt:(Str.ofString t.nm)≠"__name__":=by decide) (hdt:((Str.ofString t.nm) == ("__debug__":Str))=false:=by decide)
  (hs1:starEach [e,.Name t.nm p2] X.env=(false,eval e X.env)::starEach [.Name t.nm p2] X.env:=by rfl) (hs2:starEach [.Name t.nm p2] X.env=[(false,eval (.Name t.nm p2) X.env)]:=by rfl)
  (hpl:(backTo pos (starEach [.Name t.nm p2] X.env)).any (·.1)=false:=by rfl):SE X F0 H0 (.Call (.Name "isinstance" p) [e,.Name t.nm p2] [] pos) (eUn (dIs t) fe):=by
 intro pins s σ F H ρ Q S I h
 refine wpAny_Call_Name_kw (ld_blt I hg hm boot_isinstance ?_)
 refine PyProof.Rows.callWith_builtin1 ?_ hs1 hpl
 rw [hs1]
 refine Calls.spliced_cons (he pins s σ F H ρ _ S I ((KE.bind h).imp fun w k v u F' H' s' g q r I'=>?_))
 rw [hs2]
 refine Calls.spliced_cons (ld_blt I' hgt hmt (boot_ty t) (Calls.spliced_nil ?_) hnt hdt)
 have k2:∀ c fs,w.d≠.xc c fs:=fun c fs e=>by rw [e] at k; exact k.elim
 have k3:KE (XP X F0 H0) (okB (tyIs w.d t)) fun w=>∀ v u F' H' s',Gr F H F' H'→Vok (kx X) H F' H' v w→RelV v u→Inv X pins σ H' s'→Q u s':=by
  revert k
  generalize w.d=d at *
  intro k
  cases d <;> first|exact k|exact absurd rfl (k2 _ _)
 exact isi_ok I' g.s r (Vok.rd q) k2 fun tk=>k3 (.bl _) _ F' H' _ g rfl rfl (I'.tok tk)
noncomputable def dNeg:D→R En
 | .int i=>okI (-i)
 | _=>.stuck
theorem se_neg {e:Expr} {fe:EF} (he:SE X F0 H0 e fe):SE X F0 H0 (.UnaryOp .USub e pos) (eUn dNeg fe):=by
 intro pins s σ F H ρ Q S I h
 refine UnaryOp_ (he pins s σ F H ρ _ S I ((KE.bind h).imp fun w k v u F' H' s' g q r I'=>?_))
 have q:=Vok.rd q
 revert k
 generalize w.d=d at q
 intro k
 cases d <;> first|exact k.elim|skip
 cases RdV.int q
 obtain ⟨t,rfl⟩:=r
 exact PyProof.Rows.neg_int (k (.int _) _ F' H' _ g rfl ⟨_,rfl⟩ (I'.tok _))
noncomputable def dAddI:D→D→R En
 | .int i,.int j=>okI (i+j)
 | _,_=>.stuck
theorem od_addI:OpD X (binaryOp .Add) dAddI:=opd_of op_add fun F H x y dx dy Q l qx qy w=>by
 cases dx <;> first|exact w.elim|skip
 cases dy <;> first|exact w.elim|skip
 exact ⟨_,_,RdV.int qx,RdV.int qy,wish_fz l (v:=.int _) w rfl⟩
end
theorem reps_ints {κ:Kx} {F:Hp}:∀ ns:List Int,Reps κ F (ns.map V.int) (ns.map D.int)
 | []=>rfl
 | n::ns=>⟨.int n,ns.map V.int,rfl,rfl,reps_ints ns⟩
theorem law_end {κ:Kx} {H:Hp} {a:Addr} {E:XK} (dn:Den) (ns:List Int) (hS:SqL κ.K H a (ns.map V.int)) (h:dn [.fz (.lst (ns.map D.int))]=.ok (.fz (.bl true))):spD κ dn 1 [.ref a] H (fun v _=>v=.bl true) E :=
 ⟨rfl,H,[.fz (.lst (ns.map D.int))],Le.refl,⟨.ref a,[],rfl,⟨a,_,rfl,hS,reps_ints ns⟩,rfl⟩,by rw [h]; exact fun v F' H' g q=>q⟩
end L3
namespace L3
open PySem PySem.Spec PyProof.Rows L2
section
variable {X:Cx}
theorem oi_addI:OpD X (inplaceOp .Add) dAddI:=opd_of iop_add fun F H x y dx dy Q l qx qy w=>by
 cases dx <;> first|exact w.elim|skip
 cases dy <;> first|exact w.elim|skip
 exact ⟨_,_,RdV.int qx,RdV.int qy,wish_fz l (v:=.int _) w rfl⟩
end
noncomputable def optAll {α β:Type} (f:α→Option β):List α→Option (List β)
 | []=>some []
 | x::r=>match f x with
  | some y=>(match optAll f r with|some ys=>some (y::ys)|none=>none)
  | none=>none
theorem optAll_cons {α β:Type} {f:α→Option β} {x:α} {r:List α} {l:List β} (h:optAll f (x::r)=some l):∃ y ys,f x=some y∧optAll f r=some ys∧l=y::ys:=by
 unfold optAll at h
 cases e:f x with
 | none=>rw [e] at h; cases h
 | some y =>
  cases e2:optAll f r with
  | none=>rw [e,e2] at h; cases h
  | some ys=>rw [e,e2] at h; cases h; exact ⟨y,ys,rfl,rfl,rfl⟩
noncomputable def datIn (K:PySem.W.Frag):Nat→Value→Option D
 | 0,_=>none
 | n+1,v=>match v with
  | .none=>some .non
  | .bool b=>some (.bl b)
  | .int i _=>some (.int i)
  | .str x _=>some (.str x)
  | .ref a=>(match K.lookup a with
   | some o=>(match o.data with
    | .seq its _ =>
     if its.size ≤ 100000 then
      (if o.cls == .type "tuple" then (optAll (datIn K n) its.toList).map .tup
      else if o.cls == .type "list" && o.dict == none then (optAll (datIn K n) its.toList).map .lst else none)
     else none
    | .dict es _ =>
     if o.cls == .type "dict" && o.dict == none && o.slots.size == 0 && !(a == sysModules) then
      (match optAll (fun e:DictEntry=>match e.key with
       | .int i _=>if e.hash=hashInt i then (datIn K n e.val).map fun d=>((Sum.inl i:Sum Int Str),d) else none
       | _=>none) es.toList with
      | some l=>if (l.map (·.1)).Nodup then some (.dK l) else none
      | none=>none)
     else none
    | _=>none)
   | none=>none)
  | _=>none
theorem datIn_ok {κ:Kx}:∀ (n:Nat) (v:Value) (d:D),datIn κ.K n v=some d→∃ x,RelV x v∧∀ F,Rep κ F x d:=by
 intro n
 induction n with
 | zero=>intro v d h; cases h
 | succ n ih =>
  have all:∀ (vs:List Value) (ds:List D),optAll (datIn κ.K n) vs=some ds→∃ xs,Vals xs vs∧∀ F,Reps κ F xs ds:=by
   intro vs
   induction vs with
   | nil=>intro ds h; cases h; exact ⟨[],.nil,fun _=>rfl⟩
   | cons v vs ihv =>
    intro ds h
    obtain ⟨d,ds',h1,h2,rfl⟩:=optAll_cons h
    obtain ⟨x,rx,qx⟩:=ih v d h1
    obtain ⟨xs,rs,qs⟩:=ihv ds' h2
    exact ⟨x::xs,.cons rx rs,fun F=>⟨x,xs,rfl,qx F,qs F⟩⟩
  have allK:∀ (es:List DictEntry) (l:List (Sum Int Str×D)),optAll (fun e:DictEntry=>match e.key with
       | .int i _=>if e.hash=hashInt i then (datIn κ.K n e.val).map fun d=>((Sum.inl i:Sum Int Str),d) else none
       | _=>none) es=some l →
    ∃ kvs vs,KV kvs vs∧PySem.Pairs (mixKind κ.P κ.w) es vs∧vs.map (·.1)=l.map (·.1)∧(∀ e∈es,∃ k,(mixKind κ.P κ.w).is k e.key=true∧e.hash=(mixKind κ.P κ.w).hash k)∧∀ F,RepK κ F kvs l:=by
   intro es
   induction es with
   | nil=>intro l h; cases h; exact ⟨[],[],.nil,.nil,rfl,fun e he=>(nomatch he),fun _=>rfl⟩
   | cons e es ihe =>
    intro l h
    obtain ⟨y,ys,h1,h2,rfl⟩:=optAll_cons h
    obtain ⟨kvs,vs,r1,r2,r3,r4,r5⟩:=ihe ys h2
    cases ek:e.key with
    | int i t =>
     rw [ek] at h1
     dsimp only at h1
     by_cases c:e.hash=hashInt i
     ·rw [if_pos c] at h1
      cases ed:datIn κ.K n e.val with
      | none=>rw [ed] at h1; cases h1
      | some d =>
       rw [ed] at h1
       cases h1
       obtain ⟨x,rx,qx⟩:=ih e.val d ed
       have hk:(mixKind κ.P κ.w).is (Sum.inl i) e.key=true:=by rw [ek]; exact mixKind_int _ _ i t
       refine ⟨(Sum.inl i,x)::kvs,(Sum.inl i,e.val)::vs,.cons ⟨rfl,rx⟩ r1,.cons hk rfl r2,by simp [r3],fun e' he=>?_,fun F=>⟨x,kvs,rfl,qx F,r5 F⟩⟩
       rcases List.mem_cons.mp he with rfl|he
       ·exact ⟨Sum.inl i,hk,c⟩
       ·exact r4 e' he
     ·rw [if_neg c] at h1; cases h1
    | _=>rw [ek] at h1; cases h1
  intro v d h
  unfold datIn at h
  cases v <;> first|(cases h; done)|skip
  ·cases h; exact ⟨.non,rfl,fun _=>rfl⟩
  ·cases h; exact ⟨.bl _,rfl,fun _=>rfl⟩
  ·cases h; exact ⟨.int _,⟨_,rfl⟩,fun _=>rfl⟩
  ·cases h; exact ⟨.str _,⟨_,rfl⟩,fun _=>rfl⟩
  ·rename_i a
   dsimp only at h
   cases ek:κ.K.lookup a with
   | none=>rw [ek] at h; cases h
   | some o =>
    rw [ek] at h
    dsimp only at h
    cases ed:o.data with
    | seq its m =>
     rw [ed] at h
     dsimp only at h
     by_cases c:its.size ≤ 100000
     ·rw [if_pos c] at h
      have hz:its.size ≤ sizeLine:=by rw [sizeLine_eq]; (first|lia|omega)
      by_cases c1:(o.cls == Value.type "tuple")=true
      ·rw [if_pos c1] at h
       cases e2:optAll (datIn κ.K n) its.toList with
       | none=>rw [e2] at h; cases h
       | some ds =>
        rw [e2] at h
        cases h
        obtain ⟨xs,rs,qs⟩:=all its.toList ds e2
        exact ⟨.ref a,rfl,fun F=>⟨a,xs,rfl,.inr ⟨o,its,m,ek,by simpa using c1,ed,hz,rs⟩,qs F⟩⟩
      ·rw [if_neg c1] at h
       by_cases c2:(o.cls == Value.type "list" && o.dict == none)=true
       ·rw [if_pos c2] at h
        rw [Bool.and_eq_true] at c2
        cases e2:optAll (datIn κ.K n) its.toList with
        | none=>rw [e2] at h; cases h
        | some ds =>
         rw [e2] at h
         cases h
         obtain ⟨xs,rs,qs⟩:=all its.toList ds e2
         exact ⟨.ref a,rfl,fun F=>⟨a,xs,rfl,.inr ⟨o,its,m,ek,by simpa using c2.1,by simpa using c2.2,ed,hz,rs⟩,qs F⟩⟩
       ·rw [if_neg c2] at h; cases h
     ·rw [if_neg c] at h; cases h
    | dict es ep =>
     rw [ed] at h
     dsimp only at h
     by_cases c:(o.cls == Value.type "dict" && o.dict == none && o.slots.size == 0 && !(a == sysModules))=true
     ·rw [if_pos c] at h
      simp only [Bool.and_eq_true] at c
      obtain ⟨⟨⟨c1,c2⟩,c3⟩,c4⟩:=c
      revert h
      generalize e2:optAll _ es.toList=ol
      intro h
      cases ol with
      | none=>cases h
      | some l =>
       dsimp only at h
       by_cases c5:(l.map (·.1)).Nodup
       ·rw [if_pos c5] at h
        cases h
        obtain ⟨kvs,vs,r1,r2,r3,r4,r5⟩:=allK es.toList l e2
        have hsl:o.slots=#[]:=by
         have:o.slots.size=0:=by simpa using c3
         exact Array.eq_empty_of_size_eq_zero this
        refine ⟨.ref a,rfl,fun F=>⟨a,kvs,rfl,.inr ⟨by simpa using c4,o,es,ep,vs,ek,⟨by simpa using c1,by simpa using c2,hsl⟩,ed,fun e he=>r4 e (by simpa using he),r2,by rw [r3]; exact c5,r1⟩,r5 F⟩⟩
       ·rw [if_neg c5] at h; cases h
     ·rw [if_neg c] at h; cases h
    | _=>rw [ed] at h; cases h
end L3
namespace L3
open PySem PySem.Spec PyProof.Rows L2
noncomputable def ro:Option En→Option En
 | some (.ow d)=>some (.br d)
 | some (.od _)=>none
 | o=>o
noncomputable def cRho (n:Nat) (ρ:Rho):Rho:=ρ.map ro++List.replicate n none
noncomputable def tTrue:TF:=fun _=>.ok true
theorem compLoop {prog:Program} {w:World} {A:Around} {R:Result→Shared→Prop} {s:Shared} {elt target iter:Expr} {ifs:List Expr} {scope:Scope} {pos:Pos} {it acc:Value} {env:Env} (I:Nat→Shared→Prop)
  (turn:∀ n s,I n s→wpAny (model prog w) A (pyNext it) (fun r s₁=>match r with
   | none=>R (.ok .next) s₁
   | some v=>wpAny (model prog w) A (letOwnedTupleGo target it v) (fun _ s₀=>wpAny (model prog w) A (assign target env v) (fun _ s₂ =>
     wpAny (model prog w) A (forIn ifs true fun c r=>if r=true then do let ok ← isTrue c env (eval c env); pure (ForInStep.yield ok) else pure (ForInStep.yield r)) (fun ok s₃ =>
      if ok=true then wpAny (model prog w) A (eval elt env) (fun x s₄ =>
       wpAny (model prog w) A (call (.builtin "list.append") [acc,x]) (fun _ s₅=>∃ m,m < n∧I m s₅) (fun _ _=>False) s₄) (fun _ _=>False) s₃
      else ∃ m,m < n∧I m s₃) (fun _ _=>False) s₂) (fun _ _=>False) s₀) (fun _ _=>False) s₁) (fun _ _=>False) s)
  (n:Nat) (h:I n s):codeAny (model prog w) A (.compLoop (.ListComp elt [⟨target,iter,ifs,0⟩] scope pos) 0 it acc env) R s:=by
 refine codeAny_loop rfl I (fun n s hI=>?_) n h
 show wpAny _ A ((compTurn (.ListComp elt [⟨target,iter,ifs,0⟩] scope pos) 0 it acc env).onRaise (fun x=>do noteFrame x env; theTreesLotGoes x)) _ _ s
 refine wpAny_noted ?_
 rw [compTurn_list]
 refine wpAny_bind (wpAny_standAt (wpAny_bind (wpAny_mono (turn n s hI) (fun r s₁ h₁=>?_) fun _ _ h'=>h'.elim)))
 cases r with
 | none=>exact wpAny_pure h₁
 | some v =>
  refine wpAny_bind (wpAny_mono h₁ (fun _ s₀ h₀=>wpAny_bind (wpAny_mono h₀ (fun _ s₂ h₂=>wpAny_bind (wpAny_mono h₂ (fun ok s₃ h₃=>?_) fun _ _ h'=>h'.elim)) fun _ _ h'=>h'.elim)) fun _ _ h'=>h'.elim)
  cases ok with
  | false=>exact wpAny_pure ⟨rfl,h₃⟩
  | true=>exact wpAny_bind (wpAny_bind (wpAny_mono h₃ (fun x s₄ h₄=>wpAny_bind (wpAny_mono h₄ (fun _ s₅ h₅=>wpAny_pure (wpAny_pure ⟨rfl,h₅⟩)) fun _ _ h'=>h'.elim)) fun _ _ h'=>h'.elim))
noncomputable def Cap (env:Env) (cl:List (Str×Addr)):List (Str×NameKind)→Prop
 | []=>True
 | (n,k)::r=>(k≠.cell∧(k=.free→env.kindOf n=some .cell∧cl.lookup n=env.cells.lookup n))∧Cap env cl r
noncomputable def ClIn (env:Env):List (Str×Addr)→Prop
 | []=>True
 | (n,c)::r=>env.cells.lookup n=some c∧ClIn env r
theorem ClIn.look {env:Env}:∀ {cl:List (Str×Addr)},ClIn env cl→∀ {x c},cl.lookup x=some c→env.cells.lookup x=some c
 | [],_,x,c,h=>by simp at h
 | (n,a)::r,q,x,c,h=>by
  obtain ⟨q1,q2⟩:=q
  by_cases e:x=n
  ·subst e
   simp [List.lookup] at h
   subst h
   exact q1
  ·have:(x == n)=false:=by simpa using e
   simp [List.lookup,this] at h
   exact ClIn.look q2 h
theorem Cap.mem {env:Env} {cl:List (Str×Addr)}:∀ {names:List (Str×NameKind)},Cap env cl names→∀ y∈names,y.2≠.cell∧(y.2=.free→env.kindOf y.1=some .cell∧cl.lookup y.1=env.cells.lookup y.1)
 | [],_,y,hy=>by cases hy
 | (n,k)::r,h,y,hy=>by
  rcases List.mem_cons.mp hy with rfl|hy
  ·exact h.1
  ·exact Cap.mem h.2 y hy
theorem relabel_free {env:Env}:∀ {names:List (Str×NameKind)} {x:Str},(∀ y∈names,y.2≠.cell) →
    ((names.map fun (n,k)=>if (k == NameKind.free && env.scope.kind == .function && env.kindOf n == some .cell) then (n,NameKind.cell) else (n,k)).lookup x=some .cell ∨
     (names.map fun (n,k)=>if (k == NameKind.free && env.scope.kind == .function && env.kindOf n == some .cell) then (n,NameKind.cell) else (n,k)).lookup x=some .free)→(x,NameKind.free)∈names
  | [],_,_,h=>by rcases h with h|h <;> simp at h
  | (n,k)::r,x,hc,h=>by
    have ih:=@relabel_free env r x (fun y hy=>hc y (List.mem_cons_of_mem _ hy))
    have hk:=hc (n,k) List.mem_cons_self
    rw [List.map_cons] at h
    by_cases hx:x=n
    · subst hx
      by_cases q:(k == NameKind.free && env.scope.kind == .function && env.kindOf x == some .cell)=true
      · have:k=.free:=by
          simp only [Bool.and_eq_true] at q
          simpa using q.1.1
        subst this
        exact List.mem_cons_self
      · dsimp only at h
        rw [if_neg q] at h
        simp only [List.lookup,beq_self_eq_true] at h
        rcases h with h|h
        · cases h; exact absurd rfl hk
        · cases h; exact List.mem_cons_self
    · have hb:(x == n)=false:=by simpa using hx
      refine List.mem_cons_of_mem _ (ih ?_)
      dsimp only at h
      by_cases q:(k == NameKind.free && env.scope.kind == .function && env.kindOf n == some .cell)=true
      · rw [if_pos q] at h
        simpa only [List.lookup_cons,hb] using h
      · rw [if_neg q] at h
        simpa only [List.lookup_cons,hb] using h
noncomputable def cxC (X:Cx) (s₂:Shared) (H₂:Hp) (scope:Scope) (cl:List (Str×Addr)) (C:Addr) (fp:List Addr) (N:List Str):Cx where
 prog:=X.prog
 w:=X.w
 K:=X.K
 mg:=X.mg
 base:=X.base
 A:=X.A
 N:=N
 s₀:=s₂
 H₀:=H₂
 env:=compEnvC scope cl C X.env
 outer:=X.stack
 stack:=X.stack
 ex:=fp
 fn:=fun _=>false
 calm:=X.calm
 pn:=[]
 xe:=fun _ _=>False
noncomputable def slotsB (sc:List (Str×NameKind)):List Str→List Str→Bool
 | a::as,b::bs=>(match sc.lookup b with|some .local=>false|some .free=>false|some .cell=>a == b|_=>true) && slotsB sc as bs
 | [],_=>true
 | _::_,[]=>true
noncomputable def SlotsOk (sc:Scope) (M N:List Str):Prop:=∀ (i:Nat) (x:Str),i < M.length→N[i]?=some x→Vis sc x→M[i]?=some x∧sc.names.lookup x=some .cell
theorem slots_ok {sc:Scope}:∀ {M N:List Str},slotsB sc.names M N=true→SlotsOk sc M N
 | [],_,_,i,x,hi,_,_=>by simp at hi
 | _::_,[],_,i,x,_,e,_=>by simp at e
 | a::as,b::bs,h,0,x,_,e,v=>by
  unfold slotsB at h
  rw [Bool.and_eq_true] at h
  simp at e
  subst e
  cases q:sc.names.lookup b with
  | none=>rcases v with v|v|v <;> rw [q] at v <;> cases v
  | some k =>
   rw [q] at h
   rcases v with v|v|v
   ·rw [q] at v; cases v; exact absurd h.1 Bool.false_ne_true
   ·rw [q] at v; cases v
    have:a=b:=by simpa using h.1
    subst this
    exact ⟨rfl,rfl⟩
   ·rw [q] at v; cases v; exact absurd h.1 Bool.false_ne_true
 | a::as,b::bs,h,i+1,x,hi,e,v=>by
  unfold slotsB at h
  rw [Bool.and_eq_true] at h
  have:=slots_ok h.2 i x (by simpa using hi) (by simpa using e) v
  exact ⟨by simpa using this.1,this.2⟩
theorem ro_st {κ:Kx} {F0 H0 F H:Hp} {ρ:Rho} {σ:St} (n:Nat) (S:StOk κ F0 H0 F H ρ σ):StOk κ F H F H (cRho n ρ) (σ++List.replicate n none):=by
 have at_:∀ (i:Nat) (w:En),(cRho n ρ)[i]?=some (some w)→∃ w',ρ[i]?=some (some w')∧ro (some w')=some w:=fun i w e=>by
  unfold cRho at e
  by_cases hi:i < ρ.length
  ·rw [List.getElem?_append_left (by simpa using hi),List.getElem?_map] at e
   cases q:ρ[i]? with
   | none=>rw [q] at e; cases e
   | some y =>
    rw [q] at e
    cases y with
    | none=>cases e
    | some w'=>exact ⟨w',rfl,by simpa using e⟩
  ·rw [List.getElem?_append_right (by simpa using hi),List.getElem?_replicate] at e
   split at e <;> cases e
 refine ⟨Gr.refl S.s,by simp [cRho,S.len],fun i w e=>?_,fun i j w w' a hij ei ej oi oj si sj=>?_,fun i y e=>?_⟩
 ·obtain ⟨w',e1,e2⟩:=at_ i w e
  obtain ⟨v,ev,q⟩:=S.val i w' e1
  have hi:i < σ.length:=(List.getElem?_eq_some_iff.mp ev).1
  refine ⟨v,by rw [List.getElem?_append_left hi]; exact ev,?_⟩
  cases w' with
  | fz d=>cases e2; exact q
  | ow d=>cases e2; obtain ⟨a,o,e,_,_,eh,r⟩:=q; exact ⟨a,o,e,eh,r⟩
  | lk d=>cases e2; exact q
  | od d=>cases e2
  | br d=>cases e2; obtain ⟨a,o,e,eh,r⟩:=q; exact ⟨a,o,e,S.gr.h _ _ eh,r⟩
 ·obtain ⟨w1,e1,e2⟩:=at_ i w ei
  cases w1 <;> cases e2 <;> cases oi
 ·obtain ⟨w',e1,e2⟩:=at_ i _ e
  cases w' <;> cases e2
theorem StOk.side {κ:Kx} {F0 H0 F H:Hp} {ρ:Rho} {σ:St} {p:Addr} {o:HO} (S:StOk κ F0 H0 F H ρ σ) (h0:H0 p=none) (hf:F p=none) (no:∀ (i:Nat) (w:En),ρ[i]?=some (some w)→w.own=false):StOk κ F0 H0 F (upd H p o) ρ σ:=by
 refine ⟨⟨S.gr.f,fun a u h=>?_,fun a u h=>?_,S.gr.n⟩,S.len,fun i w e=>?_,S.sep,fun i d e=>by cases no i _ e⟩
 ·rw [upd_ne (ne_of_none h h0)]; exact S.gr.h a u h
 ·rw [upd_ne (ne_of_none h hf)]; exact S.gr.s a u h
 ·obtain ⟨v,e1,q⟩:=S.val i w e
  refine ⟨v,e1,?_⟩
  have:=no i w e
  cases w with
  | fz d=>exact q
  | br d=>exact q
  | ow d=>cases this
  | lk d=>exact q
  | od d=>cases this
end L3
namespace L3
open PySem PySem.Spec PyProof.Rows L2
section
variable {X:Cx} {pins:List (Addr×Obj)} {σ:St} {H₂:Hp} {s₂:Shared} {fp:List Addr} {it:Addr} {tn:Nat→Heap→Prop} {J:It} {tg:Expr} {scope:Scope} {cl:List (Str×Addr)} {N:List Str} {n:Nat}
theorem block_ok (I2:Inv X pins σ H₂ s₂) (T:Turn X.prog X.w X.K tg J fp it tn) (st:tn 0 s₂.heap) (f2:∀ b∈fp,FpOk X pins H₂ b) (hkind:scope.kind=.function) (hcap:Cap X.env cl scope.names) (hcl:ClIn X.env cl)
  {C:Addr} (hC:s₂.heap.objs.size ≤ C):(cxC X s₂ H₂ scope cl C fp N).Ok:=by
 have hfree:∀ x,((cxC X s₂ H₂ scope cl C fp N).env.kindOf x=some .cell∨(cxC X s₂ H₂ scope cl C fp N).env.kindOf x=some .free)→(x,NameKind.free)∈scope.names:=fun x h =>
  relabel_free (env:=X.env) (fun y hy=>(Cap.mem hcap y hy).1) h
 refine ⟨I2.ok.mod,hkind,I2.ok.glob,I2.ok.blt,hC,fun x y c h1 h2=>I2.ok.inj x y c (ClIn.look hcl h1) (ClIn.look hcl h2),fun x hx=>?_,fun x c h=>(by cases h),I2.ok.hd,I2.ok.frames,.inl rfl,fun b hb=>?_,I2.bs,Nat.le_trans I2.ok.bsz I2.sz,fun b o e hb=>?_,fun b hb z=>?_,I2.stack,I2.stkFree⟩
 ·obtain ⟨q1,q2⟩:=(Cap.mem hcap _ (hfree x hx)).2 rfl
  obtain ⟨c,hc⟩:=I2.ok.has x (.inl q1)
  exact ⟨c,q2.trans hc⟩
 ·obtain ⟨f0,f1,f3,f4,f5,f6⟩:=f2 b hb
  obtain ⟨o,ho,_⟩:=T.obj 0 _ st b hb
  exact ⟨Nat.ne_of_lt (Nat.lt_of_lt_of_le (Heap.lt_size ho) hC),fun x c e=>f5 x c (ClIn.look hcl e)⟩
 ·obtain ⟨f0,f1,f3,f4,f5,f6⟩:=f2 b hb
  rcases f4 with f4|f4
  ·exact I2.ok.noex b o e f4
  ·exact absurd (Nat.lt_of_lt_of_le (Heap.lt_size (I2.ok.bs b o e).1) f4) (Nat.lt_irrefl _)
 ·obtain ⟨f0,f1,f3,f4,f5,f6⟩:=f2 b hb
  rcases List.mem_cons.mp (I2.stkSub b z) with q|q
  ·exact f1 q
  ·exact f3 q
theorem block_start (I2:Inv X pins σ H₂ s₂) (T:Turn X.prog X.w X.K tg J fp it tn) (st:tn 0 s₂.heap) (f2:∀ b∈fp,FpOk X pins H₂ b) (hkind:scope.kind=.function) (hcap:Cap X.env cl scope.names) (hcl:ClIn X.env cl)
  (hsl:SlotsOk (relabel scope X.env) X.N N) (hlen:N.length=X.N.length+n) {C tk:Nat} {h₁:Heap} {m:Str→Option Value} (hC:s₂.heap.objs.size < C) (hns:h₁.Ns C m) (old:∀ b o,s₂.heap.get? b=some o→h₁.get? b=some o)
  (hacc:h₁.get? s₂.heap.objs.size=some { cls:=.type "list",data:=.seq #[] 0 }) :
  Inv (cxC X s₂ H₂ scope cl C fp N) [] (σ++List.replicate n none) (upd H₂ s₂.heap.objs.size (.lst [])) { s₂ with heap:=h₁,toks:=tk }:=by
 have hf:H₂ s₂.heap.objs.size=none:=I2.hok.fresh (Nat.le_refl _)
 have hfC:H₂ C=none:=I2.hok.fresh (Nat.le_of_lt hC)
 have cellOld:∀ x c,X.env.cells.lookup x=some c→∀ v,s₂.heap.IsCell c v→h₁.IsCell c v:=fun x c _ v ⟨o,ho,hd⟩=>⟨o,old _ _ ho,hd⟩
 have cne:∀ x c,X.env.cells.lookup x=some c→c < s₂.heap.objs.size:=fun x c e=>by
  obtain ⟨v,o,ho,_⟩:=I2.cell x c e
  exact Heap.lt_size ho
 refine ⟨block_ok I2 T st f2 hkind hcap hcl (Nat.le_of_lt hC),rfl,I2.bare,Un.laid old (Nat.le_refl _) hf,⟨m,hns,fun i x v e1 e2 e3=>?_⟩,fun x c e=>?_,?_,fun x c e=>?_,fun p hp=>absurd (show p∈([]:List (Addr×Obj)) from hp) (by simp),?_,?_⟩
 ·have hi:i < σ.length:=by
   by_cases hi:i < σ.length
   ·exact hi
   ·rw [List.getElem?_append_right (by (first|lia|omega)),List.getElem?_replicate] at e2
    split at e2 <;> cases e2
  rw [List.getElem?_append_left hi] at e2
  obtain ⟨q1,q2⟩:=hsl i x (by rw [← I2.len]; exact hi) e1 e3
  have q3:(x,NameKind.free)∈scope.names:=relabel_free (env:=X.env) (fun y hy=>(Cap.mem hcap y hy).1) (.inl q2)
  obtain ⟨k1,k2⟩:=(Cap.mem hcap _ q3).2 rfl
  obtain ⟨m2,hn2,hl⟩:=I2.loc
  obtain ⟨u,ru,lk⟩:=hl i x v q1 e2 (.inr (.inl k1))
  refine ⟨u,ru,?_⟩
  rcases lk with ⟨z,_⟩|⟨_,c,hc,hcell⟩
  ·rw [show X.env.kindOf x=some .cell from k1] at z; cases z
  ·exact .inr ⟨.inl q2,c,by show cl.lookup x=some c; exact k2.trans hc,cellOld x c hc _ hcell⟩
 ·obtain ⟨v,q⟩:=I2.cell x c (ClIn.look hcl e)
  exact ⟨v,cellOld x c (ClIn.look hcl e) v q⟩
 ·show upd H₂ s₂.heap.objs.size (.lst []) C=none
  rw [upd_ne (Nat.ne_of_gt hC)]; exact hfC
 ·have:=cne x c (ClIn.look hcl e)
  show upd H₂ s₂.heap.objs.size (.lst []) c=none
  rw [upd_ne (Nat.ne_of_lt this)]
  exact I2.freeC x c (ClIn.look hcl e)
 ·exact I2.hok.laid old (Nat.le_refl _) ⟨Nat.zero_le _,[],0,.nil,hacc⟩
 ·simp [I2.len,hlen,cxC]
noncomputable def NoOwn (ρ:Rho):Prop:=∀ (i:Nat) (w:En),ρ[i]?=some (some w)→w.own=false
noncomputable def KeepsNo (gf:GF):Prop:=∀ d ρ ρ1,NoOwn ρ→gf d ρ=.ok ρ1→NoOwn ρ1
theorem noOwn_set {ρ:Rho} (h:NoOwn ρ) (i:Nat) (d:D):NoOwn (ρ.set i (some (.fz d))):=fun j w e=>by
 rcases set_get e with ⟨_,z⟩|⟨_,z⟩
 ·cases z; rfl
 ·exact h j w z
theorem no_gV (i:Nat):KeepsNo (gV i):=fun d ρ ρ1 h e=>by cases e; exact noOwn_set h i d
theorem noOwn_ro (n:Nat) (ρ:Rho):NoOwn (cRho n ρ):=fun i w e=>by
 unfold cRho at e
 by_cases hi:i < ρ.length
 ·rw [List.getElem?_append_left (by simpa using hi),List.getElem?_map] at e
  cases q:ρ[i]? with
  | none=>rw [q] at e; cases e
  | some y =>
   rw [q] at e
   cases y with
   | none=>cases e
   | some w'=>cases w' <;> first|(simp [ro] at e; done)|(simp [ro] at e; subst e; rfl)
 ·rw [List.getElem?_append_right (by simpa using hi),List.getElem?_replicate] at e
  split at e <;> cases e
inductive Tests (X:Cx) (F0 H0:Hp):List Expr→TF→Prop
 | nil:Tests X F0 H0 [] tTrue
 | one {c:Expr} {t:TF}:ST X F0 H0 c t→Tests X F0 H0 [c] t
theorem tests_ok {X:Cx} {F0 H0:Hp} {ifs:List Expr} {t:TF} (h:Tests X F0 H0 ifs t) {pins:List (Addr×Obj)} {s:Shared} {σ:St} {F H:Hp} {ρ:Rho} {Q:Bool→Shared→Prop} (S:StOk (kx X) F0 H0 F H ρ σ) (I:Inv X pins σ H s)
  (k:KE (XP X F0 H0) (t ρ) fun b=>∀ F' H' s',Gr F H F' H'→Inv X pins σ H' s'→Q b s') :
  wpAny (model X.prog X.w) X.A (forIn ifs true fun c r=>if r=true then do let ok ← isTrue c X.env (eval c X.env); pure (ForInStep.yield ok) else pure (ForInStep.yield r)) Q X.xe s:=by
 cases h with
 | nil=>exact wpAny_tests_nil (k F H s (Gr.refl S.s) I)
 | one h=>exact wpAny_tests_one (h pins s σ F H ρ Q S I k)
end
end L3
namespace L3
open PySem PySem.Spec PyProof.Rows L2
noncomputable def clOf (env:Env):List (Str×NameKind)→List (Str×Addr)→List (Str×Addr)
 | [],cs=>cs
 | (n,k)::r,cs=>if k == .free then clOf env r ((n,(env.cells.lookup n).getD 0)::cs) else clOf env r cs
noncomputable def capB (env:Env) (names:List (Str×NameKind)):Bool:=names.all fun y=>y.2 != .cell && (y.2 != .free || env.kindOf y.1 == some .cell)
theorem closure_ok {scope:Scope} {env:Env} (hb:capB env scope.names=true) (has:∀ n,env.kindOf n=some .cell→∃ c,env.cells.lookup n=some c):closureFor scope env=pure (clOf env scope.names []):=by
 unfold closureFor
 have go:∀ (names:List (Str×NameKind)) (cs:List (Str×Addr)),capB env names=true →
   (forIn names cs fun (x:Str×NameKind) (r:List (Str×Addr))=>match x with|(name,kind)=>if (kind == NameKind.free)=true then do let y ← cellOf env name; pure (ForInStep.yield ((name,y)::r)) else pure (ForInStep.yield r):Sem (List (Str×Addr)))=pure (clOf env names cs):=by
  intro names
  induction names with
  | nil=>intro cs _; rfl
  | cons y r ih =>
   intro cs hb
   obtain ⟨n,k⟩:=y
   unfold capB at hb
   rw [List.all_cons,Bool.and_eq_true,Bool.and_eq_true] at hb
   rw [List.forIn_cons]
   by_cases hk:(k == NameKind.free)=true
   ·have hk':k=.free:=by simpa using hk
    have:env.kindOf n=some .cell:=by
     have:=hb.1.2
     simp [hk'] at this
     simpa using this
    obtain ⟨c,hc⟩:=has n this
    have e:cellOf env n=pure c:=by simp [cellOf,hc]
    simp only [hk,if_true,e,clOf,hc]
    exact ih _ hb.2
   ·simp only [hk,clOf,Bool.false_eq_true,if_false]
    exact ih _ hb.2
 exact congrArg (fun (m:Sem (List (Str×Addr)))=>m >>= fun s=>pure s) (go scope.names [] hb)
theorem clOf_in {env:Env}:∀ (names:List (Str×NameKind)) (cs:List (Str×Addr)),capB env names=true→(∀ n,env.kindOf n=some .cell→∃ c,env.cells.lookup n=some c)→ClIn env cs→ClIn env (clOf env names cs)
 | [],cs,_,_,h=>h
 | (n,k)::r,cs,hb,has,h=>by
  unfold capB at hb
  rw [List.all_cons,Bool.and_eq_true,Bool.and_eq_true] at hb
  unfold clOf
  by_cases hk:(k == NameKind.free)=true
  ·rw [if_pos hk]
   have hk':k=.free:=by simpa using hk
   have:env.kindOf n=some .cell:=by
    have:=hb.1.2
    simp [hk'] at this
    simpa using this
   obtain ⟨c,hc⟩:=has n this
   exact clOf_in r _ hb.2 has ⟨by rw [hc]; rfl,h⟩
  ·rw [if_neg hk]
   exact clOf_in r _ hb.2 has h
theorem clOf_look {env:Env}:∀ (names:List (Str×NameKind)) (cs:List (Str×Addr)),capB env names=true→(∀ n,env.kindOf n=some .cell→∃ c,env.cells.lookup n=some c)→ClIn env cs →
  ∀ n,((n,NameKind.free)∈names∨(∃ c,cs.lookup n=some c))→∃ c,(clOf env names cs).lookup n=some c
 | [],cs,_,_,_,n,h=>by
  rcases h with h|h
  ·cases h
  ·exact h
 | (m,k)::r,cs,hb,has,hcs,n,h=>by
  have hb0:=hb
  unfold capB at hb
  rw [List.all_cons,Bool.and_eq_true,Bool.and_eq_true] at hb
  unfold clOf
  by_cases hk:(k == NameKind.free)=true
  ·rw [if_pos hk]
   have hk':k=.free:=by simpa using hk
   have hc:env.kindOf m=some .cell:=by
    have:=hb.1.2
    simp [hk'] at this
    simpa using this
   obtain ⟨c,hc⟩:=has m hc
   refine clOf_look r ((m,(env.cells.lookup m).getD 0)::cs) hb.2 has (And.intro (by rw [hc]; rfl) hcs) n ?_
   by_cases e:n=m
   ·subst e
    exact .inr ⟨(env.cells.lookup n).getD 0,by simp [List.lookup]⟩
   ·rcases h with h|⟨c',h⟩
    ·rcases List.mem_cons.mp h with z|z
     ·exact absurd (congrArg Prod.fst z) e
     ·exact .inl z
    ·have:(n == m)=false:=by simpa using e
     exact .inr ⟨c',by simp [List.lookup,this,h]⟩
  ·rw [if_neg hk]
   refine clOf_look r _ hb.2 has hcs n ?_
   rcases h with h|h
   ·rcases List.mem_cons.mp h with z|z
    ·have:k=.free:=(congrArg Prod.snd z).symm
     rw [this] at hk
     exact absurd rfl hk
    ·exact .inl z
   ·exact .inr h
theorem cap_ok {scope:Scope} {env:Env} (hb:capB env scope.names=true) (has:∀ n,env.kindOf n=some .cell→∃ c,env.cells.lookup n=some c):Cap env (clOf env scope.names []) scope.names:=by
 have hin:=clOf_in scope.names [] hb has trivial
 have all:∀ (names:List (Str×NameKind)),(∀ y∈names,y∈scope.names)→Cap env (clOf env scope.names []) names:=by
  intro names
  induction names with
  | nil=>intro _; trivial
  | cons y r ih =>
   intro h
   obtain ⟨n,k⟩:=y
   have hy:=h (n,k) List.mem_cons_self
   have q:=List.all_eq_true.mp hb (n,k) hy
   simp only [Bool.and_eq_true] at q
   refine ⟨⟨by simpa using q.1,fun hk=>?_⟩,ih fun z hz=>h z (List.mem_cons_of_mem _ hz)⟩
   subst hk
   have q2:env.kindOf n=some .cell:=by
    have:=q.2
    simp at this
    simpa using this
   obtain ⟨c,hc⟩:=clOf_look scope.names [] hb has trivial n (.inl hy)
   exact ⟨q2,hc.trans (ClIn.look hin hc).symm⟩
 exact all scope.names fun y hy=>hy
section
variable {X:Cx} {F0 H0:Hp} {pos:Pos} {tg elt iter:Expr} {ifs:List Expr} {scope:Scope} {fi:IF} {gf:GF} {t:TF} {e:EF}
noncomputable abbrev cxD (X:Cx) (scope:Scope) (N:List Str) (s₂:Shared) (H₂:Hp) (C:Addr) (fp:List Addr):Cx:=cxC X s₂ H₂ scope (clOf X.env scope.names []) C fp N
end
end L3
namespace L3
open PySem PySem.Spec PyProof.Rows L2
noncomputable def intsOf:List D→Option (List Int)
 | []=>some []
 | .int i::r=>(match intsOf r with|some l=>some (i::l)|none=>none)
 | _::_=>none
noncomputable def maxL:Int→List Int→Int
 | m,[]=>m
 | m,x::r=>maxL (if x > m then x else m) r
theorem intsOf_reps {κ:Kx} {F:Hp}:∀ {ds:List D} {vs:List V} {ns:List Int},intsOf ds=some ns→Reps κ F vs ds→vs=ns.map V.int
 | [],vs,ns,h,r=>by cases h; exact r
 | d::ds,vs,ns,h,r=>by
  obtain ⟨v,vr,rfl,r1,r2⟩:=r
  cases d <;> first|(cases h; done)|skip
  rename_i i
  unfold intsOf at h
  cases e:intsOf ds with
  | none=>rw [e] at h; cases h
  | some l =>
   rw [e] at h
   cases h
   cases (show v=.int i from r1)
   rw [intsOf_reps e r2]
   rfl
section
variable {X:Cx} {F0 H0:Hp}
theorem repK_keys {κ:Kx} {F:Hp}:∀ {kds:List (Sum Int Str×D)} {kvs:List (Key×V)},RepK κ F kvs kds→kvs.map (·.1)=kds.map (·.1)
 | [],_,h=>by cases (show _=_ from h); rfl
 | (k,d)::r,_,h=>by
  obtain ⟨v,kr,rfl,h1,h2⟩:=h
  simp [repK_keys h2]
end
end L3
namespace L3
open PySem PySem.Spec PyProof.Rows L2
theorem StOk.frz {κ:Kx} {F0 H0 F H:Hp} {ρ:Rho} {σ:St} {i:Nat} {d:D} {a:Addr} (S:StOk κ F0 H0 F H ρ σ) (ei:ρ[i]?=some (some (.ow d))):∃ F',Le F F'∧StOk κ F0 H0 F' H (ρ.set i (some (.fz d))) σ:=by
 obtain ⟨v,si,b,o,rfl,h0,hf,hh,ro⟩:=S.val i _ ei
 have l:Le F (upd F b o):=fun c u h=>by rw [upd_ne (ne_of_none h hf)]; exact h
 refine ⟨upd F b o,l,⟨⟨Le.trans S.gr.f l,S.gr.h,fun c u h=>?_,fun c h=>?_⟩,by simpa using S.len,fun j w e=>?_,fun j k w w' c hjk ej ek oj ok sj sk=>?_,fun j y e=>?_⟩⟩
 ·by_cases e:c=b
  ·subst e; rw [upd_same] at h; cases h; exact hh
  ·rw [upd_ne e] at h; exact S.gr.s c u h
 ·by_cases e:c=b
  ·subst e; exact .inr (.inl h0)
  ·rw [upd_ne e] at h; exact S.gr.n c h
 ·rcases set_get e with ⟨rfl,z⟩|⟨ne,z⟩
  ·cases z
   refine ⟨_,si,?_⟩
   have r:=OwnO.le l ro
   cases o <;> cases d <;> first
    | exact r.elim
    | exact ⟨b,_,rfl,.inl (.inl upd_same),r⟩
    | exact ⟨b,_,rfl,.inl upd_same,r⟩
  ·obtain ⟨v,e1,q⟩:=S.val j w z
   refine ⟨v,e1,?_⟩
   have nb:∀ {c},v=.ref c→w.own=true→c≠b:=fun {c} ev ow ec=>by
    subst ev ec
    exact S.sep j i w _ c ne z ei ow rfl e1 si
   cases w with
   | fz d=>exact Rep.le l d q
   | br d=>obtain ⟨c,oc,ec,eh,cr⟩:=q; exact ⟨c,oc,ec,eh,OwnO.le l cr⟩
   | ow d=>obtain ⟨c,oc,ec,c0,cf,ch,cr⟩:=q; exact ⟨c,oc,ec,c0,by rw [upd_ne (nb ec rfl)]; exact cf,ch,OwnO.le l cr⟩
   | lk d=>exact ⟨Rep.le l d q.1,RawT.le l q.2⟩
   | od d=>obtain ⟨c,oc,ec,c0,cf,ch⟩:=q; exact ⟨c,oc,ec,c0,by rw [upd_ne (nb ec rfl)]; exact cf,ch⟩
 ·rcases set_get ej with ⟨_,z⟩|⟨nj,ej⟩
  ·cases z; cases oj
  rcases set_get ek with ⟨_,z⟩|⟨nk,ek⟩
  ·cases z; cases ok
  exact S.sep j k w w' c hjk ej ek oj ok sj sk
 ·rcases set_get e with ⟨_,z⟩|⟨nj,ej⟩
  ·cases z
  obtain ⟨s1,c,bs,e1,c0,cf,nd,dp,sp⟩:=S.dp j y ej
  have nb:∀ x∈c::bs,x≠b:=fun x m z=>by subst z; exact sp i _ _ (Ne.symm nj) ei rfl m si
  refine ⟨fun k z hk ek=>?_,c,bs,e1,c0,by rw [upd_ne (nb c (by simp))]; exact cf,nd,Deep.same (fun _ _=>rfl) (fun x m z=>by rw [upd_ne (nb x (List.mem_cons_of_mem _ m))]; exact z) l dp,fun k w x hk ek ok m=>?_⟩
  ·rcases set_get ek with ⟨_,q⟩|⟨_,q⟩
   ·cases q
   ·exact s1 k z hk q
  ·rcases set_get ek with ⟨_,q⟩|⟨_,q⟩
   ·cases q; cases ok
   ·exact sp k w x hk q ok m
theorem ss_frz {X:Cx} {F0 H0:Hp} {st:Stmt} {f:SF} (i:Nat) (h:SS X F0 H0 st f):SS X F0 H0 st (sFrz i f):=by
 intro pins s σ F H ρ D S I k
 unfold sFrz L3.frz at k
 split at k
 ·rename_i d e
  obtain ⟨F',l,S'⟩:=S.frz (a:=0) e
  exact h pins s σ F' H _ D S' I (PostS.le l k)
 ·exact h pins s σ F H ρ D S I k
end L3
namespace L3
open PySem PySem.Spec PyProof.Rows L2
noncomputable def putM {κ:Type} [DecidableEq κ] (k:κ) (v:D) (kds:List (κ×D)):List (κ×D) :=
 if (kds.any fun kv=>decide (kv.1=k))=true then kds.map (fun kv=>if kv.1=k then (kv.1,v) else kv) else kds++[(k,v)]
noncomputable def eDK:EF:=fun _=>.ok (.ow (.dK []))
noncomputable def eDT:EF:=fun _=>.ok (.ow (.dT []))
theorem repK_append {κ:Kx} {F:Hp}:∀ {kds es:List (Sum Int Str×D)} {kvs us:List (Key×V)},RepK κ F kvs kds→RepK κ F us es→RepK κ F (kvs++us) (kds++es)
 | [],_,_,_,h,k=>by cases (show _=_ from h); exact k
 | (q,d)::r,_,_,_,h,k=>by
  obtain ⟨v,kr,rfl,h1,h2⟩:=h
  exact ⟨v,kr++_,rfl,h1,repK_append h2 k⟩
theorem repK_map {κ:Kx} {F:Hp} {k:Key} {v:V} {d:D} (hv:Rep κ F v d):∀ {kds:List (Sum Int Str×D)} {kvs:List (Key×V)},RepK κ F kvs kds →
  RepK κ F (kvs.map (fun kv=>if kv.1=k then (kv.1,v) else kv)) (kds.map (fun kv=>if kv.1=k then (kv.1,d) else kv))
 | [],_,h=>by cases (show _=_ from h); rfl
 | (q,e)::r,_,h=>by
  obtain ⟨u,kr,rfl,h1,h2⟩:=h
  by_cases c:q=k
  ·subst c
   have hr:=repK_map (k:=q) hv h2
   simp only [List.map_cons,if_pos]
   exact ⟨v,_,rfl,hv,hr⟩
  ·have hr:=repK_map (k:=k) hv h2
   simp only [List.map_cons,if_neg c]
   exact ⟨u,_,rfl,h1,hr⟩
theorem repK_any {κ:Kx} {F:Hp} (k:Key) {kds:List (Sum Int Str×D)} {kvs:List (Key×V)} (h:RepK κ F kvs kds):(kvs.any fun kv=>decide (kv.1=k))=(kds.any fun kv=>decide (kv.1=k)):=by
 have e:=repK_keys h
 have a:∀ {α:Type} (l:List (Key×α)),(l.any fun kv=>decide (kv.1=k))=(l.map (·.1)).any fun q=>decide (q=k):=fun l=>by rw [List.any_map]; rfl
 rw [a,a,e]
theorem putM_rep {κ:Kx} {F:Hp} {k:Key} {v:V} {d:D} (hv:Rep κ F v d) {kds:List (Sum Int Str×D)} {kvs:List (Key×V)} (h:RepK κ F kvs kds):RepK κ F (putK kvs k v) (putM k d kds):=by
 unfold putK putM
 rw [repK_any k h]
 by_cases c:(kds.any fun kv=>decide (kv.1=k))=true
 ·rw [if_pos c,if_pos c]; exact repK_map hv h
 ·rw [if_neg c,if_neg c]; exact repK_append h ⟨v,[],rfl,hv,rfl⟩
section
variable {X:Cx} {F0 H0:Hp} {pos pos':Pos}
theorem se_dK:SE X F0 H0 (.Dict [] [] pos) eDK:=by
 intro pins s σ F H ρ Q S I h
 refine thn (pe_dnewK (pos:=pos) pins s σ H (fun v H'=>∃ p,v=.ref p∧H p=none∧H'=upd H p (.dK [])) I (fun p hp=>⟨p,rfl,hp,rfl⟩)) fun u s' ⟨v,H',I',r,p,ev,hp,eh⟩=>?_
 subst ev eh
 exact h (.ref p) u F (upd H p (.dK [])) s' (Gr.new S.s hp) ⟨p,_,rfl,hp,Le.none S.s hp,upd_same,rfl⟩ r I'
theorem se_dT:SE X F0 H0 (.Dict [] [] pos) eDT:=by
 intro pins s σ F H ρ Q S I h
 refine thn (pe_dnewT (pos:=pos) pins s σ H (fun v H'=>∃ p,v=.ref p∧H p=none∧H'=upd H p (.dT [])) I (fun p hp=>⟨p,rfl,hp,rfl⟩)) fun u s' ⟨v,H',I',r,p,ev,hp,eh⟩=>?_
 subst ev eh
 exact h (.ref p) u F (upd H p (.dT [])) s' (Gr.new S.s hp) ⟨p,_,rfl,hp,Le.none S.s hp,upd_same,rfl⟩ r I'
noncomputable def sPutK (i:Nat) (k e:EF):SF:=fun ρ=>match ρ[i]? with
 | some (some (.ow (.dK kvs)))=>sOf ((e ρ).bind En.st) fun d=>sOf (k ρ) fun q=>match keyOf q.d with
  | some key=>if kvs.length < sz then .nx (ρ.set i (some (.ow (.dK (putM key d kvs))))) else .stuck
  | none=>.stuck
 | _=>.stuck
theorem ss_putK (i:Nat) {x:Str} {np:Pos} {k e:Expr} {fk fe:EF} (hu:X.A.units+10 < cLine) (hk:SE X F0 H0 k fk) (he:SE X F0 H0 e fe) (hN:X.N[i]?=some x:=by rfl) (hv:Vis X.env.scope x:=by trivial) (hd:(x == ("__debug__":Str))=false:=by decide)
  (hcd:(x == ("__classdict__":Str))=false:=by decide) (hs:swapsWith e (some (.Subscript (.Name x np) k pos')) pos.line X.env=pure false:=by rfl) :
  SS X F0 H0 (.Assign [.Subscript (.Name x np) k pos'] e pos) (sPutK i fk fe):=by
 intro pins s σ F H ρ D S I h
 unfold sPutK at h
 cases ew:ρ[i]? with
 | none=>rw [ew] at h; exact h.elim
 | some w =>
  rw [ew] at h
  cases w with
  | none=>exact h.elim
  | some w =>
   cases w with
   | fz d=>exact h.elim
   | br d=>exact h.elim
   | lk d=>exact h.elim
   | od d=>exact h.elim
   | ow d =>
    cases d <;> first|exact h.elim|skip
    rename_i kds
    have h:=KE.bind (PostS.of h)
    obtain ⟨v,e1,a,o,rfl,h0,hf,hh,ro⟩:=S.val i _ ew
    cases o <;> first|exact ro.elim|skip
    rename_i kvs
    refine ps_dput (pos:=pos) (pos':=pos') (by (first|lia|omega)) (pe_var (pos:=np) hN hv hd hcd) (pe_sem (e:=k)) (pe_sem (e:=e)) hs pins s σ H D I (he.sem S (h.imp fun w k1 y F1 H1 g1 q1=>?_))
    cases es:w.st with
    | exc x=>rw [es] at k1; exact k1.elim
    | stuck=>rw [es] at k1; exact k1.elim
    | ok d =>
     rw [es] at k1
     have ry:=Vok.st S.s g1 q1 es
     obtain ⟨g2,_⟩:=fzAll_gr S.s g1
     have S2:=S.grow g2
     refine ⟨_,e1,hk.sem S2 ((PostS.of (show PostS X F0 H0 F D _ from k1)).imp fun wk k2 y2 F3 H3 g3 q3=>?_)⟩
     cases ek:keyOf wk.d with
     | none=>rw [ek] at k2; exact k2.elim
     | some key =>
      rw [ek] at k2
      have ey:y2=kV key:=by
       have r:=Vok.rd q3
       cases ed:wk.d with
       | int j=>rw [ed] at ek r; cases ek; exact RdV.int r
       | str j=>rw [ed] at ek r; cases ek; exact RdV.str r
       | _=>rw [ed] at ek; cases ek
      subst ey
      have lv:kvs.length=kds.length:=RepK.length ro
      by_cases c:kds.length < sz
      ·have k3:PostS X F0 H0 F D (.nx (ρ.set i (some (.ow (.dK (putM key d kds)))))):=by simpa [if_pos c,KE] using k2
       refine ⟨a,_,rfl,DPut.k (g3.h _ _ (g1.h _ _ hh)) (by rw [lv,← sz_eq]; exact c),?_⟩
       refine k3 σ _ _ (Le.trans g2.f g3.f) ((S2.grow g3).mut ew e1 (o:=.dK (putK kvs key y)) ?_)
       exact putM_rep (Rep.le g3.f _ ry) (RepK.le (Le.trans g2.f g3.f) _ ro)
      ·have:False:=by simpa [if_neg c,PostS,KE] using k2
       exact this.elim
noncomputable def dMax2:List D→R En
 | [.int i,.int j]=>okI (if j > i then j else i)
 | _=>.stuck
noncomputable def eChain (g g':D→D→R En) (a b c:EF):EF:=fun ρ=>(a ρ).bind fun x=>(b ρ).bind fun y=>(g x.d y.d).bind fun r=>(isB r.d).bind fun t=>if t=true then (c ρ).bind fun z=>g' y.d z.d else okB false
section
variable {a b c:Expr} {fa fb fc:EF} {g g':D→D→R En} {op op':CmpOp}
end
noncomputable def sStuck:SF:=fun _=>.stuck
end
end L3
namespace L3
open PySem
noncomputable def Turned (I:Rho→Prop) (Q:Out→Prop):Out→Prop
 | .nx ρ=>I ρ
 | .ct ρ=>I ρ
 | .bk ρ=>Q (.nx ρ)
 | o=>Q o
theorem for_post {g:GF} {b:SF} {Q:Out→Prop}:∀ (xs:List D) (I:Nat→Rho→Prop) {ρ:Rho},I 0 ρ →
  (∀ i x ρ,xs[i]?=some x→I i ρ→∃ ρ1,g x ρ=.ok ρ1∧Turned (I (i+1)) Q (b ρ1))→(∀ ρ,I xs.length ρ→Q (.nx ρ))→Q (forD g b xs ρ)
 | [],I,ρ,h0,_,fin=>fin ρ h0
 | x::xs,I,ρ,h0,step,fin=>by
  obtain ⟨ρ1,e1,t⟩:=step 0 x ρ rfl h0
  have rec_:∀ ρ2,I 1 ρ2→Q (forD g b xs ρ2):=fun ρ2 h =>
   for_post xs (fun i=>I (i+1)) h (fun i y ρ e hi=>step (i+1) y ρ (by simpa using e) hi) (fun ρ h=>fin ρ (by simpa using h))
  unfold forD
  rw [e1]
  dsimp only
  cases eb:b ρ1 with
  | nx ρ2=>rw [eb] at t; exact rec_ ρ2 t
  | ct ρ2=>rw [eb] at t; exact rec_ ρ2 t
  | bk ρ2=>rw [eb] at t; exact t
  | rt w=>rw [eb] at t; exact t
  | exc w=>rw [eb] at t; exact t
  | stuck=>rw [eb] at t; exact t
theorem for_nx {g:GF} {b:SF} (xs:List D) (I:Nat→Rho→Prop) {ρ:Rho} (h0:I 0 ρ) (step:∀ i x ρ,xs[i]?=some x→I i ρ→∃ ρ1 ρ2,g x ρ=.ok ρ1∧(b ρ1=.nx ρ2∨b ρ1=.ct ρ2)∧I (i+1) ρ2) :
  ∃ ρ',forD g b xs ρ=.nx ρ'∧I xs.length ρ':=by
 refine for_post (Q:=fun o=>∃ ρ',o=.nx ρ'∧I xs.length ρ') xs I h0 (fun i x ρ e hi=>?_) fun ρ h=>⟨ρ,rfl,h⟩
 obtain ⟨ρ1,ρ2,e1,e2,h⟩:=step i x ρ e hi
 refine ⟨ρ1,e1,?_⟩
 rcases e2 with e2|e2 <;> (rw [e2]; exact h)
theorem rng_nx {g:GF} {b:SF} (n:Nat) (I:Nat→Rho→Prop) {ρ:Rho} (h0:I 0 ρ) (step:∀ i ρ,i < n→I i ρ→∃ ρ1 ρ2,g (.int i) ρ=.ok ρ1∧(b ρ1=.nx ρ2∨b ρ1=.ct ρ2)∧I (i+1) ρ2) :
  ∃ ρ',forD g b (rngD 0 n) ρ=.nx ρ'∧I n ρ':=by
 have:=for_nx (g:=g) (b:=b) (rngD 0 n) I h0 fun i x ρ e hi=>by
  rw [rngD_get] at e
  by_cases h:i < n
  ·rw [if_pos h] at e
   cases e
   have:=step i ρ h hi
   simpa using this
  ·rw [if_neg h] at e; cases e
 rw [rngD_len] at this
 exact this
theorem ati_nat {α:Type} {xs:List α} {i:Nat}:ati xs (i:Int)=xs[i]?:=by
 unfold ati ixn
 rw [if_pos (by (first|lia|omega))]
 by_cases h:i < xs.length
 ·rw [if_pos (by (first|lia|omega))]; simp
 ·rw [if_neg (by (first|lia|omega))]; simp at h; simp [List.getElem?_eq_none h]
theorem ati_last {α:Type} {xs:List α}:ati xs (-1)=xs.getLast?:=by
 unfold ati ixn
 cases xs with
 | nil=>rfl
 | cons x r =>
  rw [if_neg (by decide),if_pos (by simp; (first|lia|omega))]
  have:((-1:Int)+((x::r).length:Int)).toNat=(x::r).length - 1:=by (first|lia|omega)
  rw [this,List.getLast?_eq_getElem?]
  rfl
end L3
namespace L3
open PySem
noncomputable def Out.th (o:Out) (b:SF):Out:=match o with
 | .nx ρ=>b ρ
 | o=>o
noncomputable def pickS (a b:SF) (ρ:Rho) (c:Bool):Out:=if c=true then a ρ else b ρ
noncomputable def pickE (a b:EF) (ρ:Rho) (c:Bool):R En:=if c=true then a ρ else b ρ
noncomputable def pickT (a b:TF) (ρ:Rho) (c:Bool):R Bool:=if c=true then a ρ else b ρ
noncomputable def kF:EF:=fun _=>okB false
noncomputable def kT:EF:=fun _=>okB true
noncomputable def kfB:TF:=fun _=>.ok false
noncomputable def ktB:TF:=fun _=>.ok true
noncomputable def varR (o:Option (Option En)):R En:=match o with
 | some (some (.fz d))=>.ok (.fz d)
 | some (some (.ow d))=>.ok (.br d)
 | some (some (.br d))=>.ok (.br d)
 | some (some (.lk d))=>.ok (.fz d)
 | _=>.stuck
noncomputable def retR (o:Option (Option En)):Out:=match o with
 | some (some (.fz d))=>.rt (.fz d)
 | some (some (.ow d))=>.rt (.ow d)
 | _=>.stuck
noncomputable def R.b {α β:Type} (r:R α) (f:α→R β):R β:=r.bind f
theorem x_b_ok {α β:Type} {a:α} {f:α→R β}:(R.ok a).b f=f a:=rfl
theorem x_b_stuck {α β:Type} {f:α→R β}:(R.stuck:R α).b f=.stuck:=rfl
noncomputable def mkLst (ds:List D):R En:=if ds.length ≤ sz then .ok (.ow (.lst ds)) else .stuck
noncomputable def mkTup (ds:List D):R En:=if ds.length ≤ sz then .ok (.fz (.tup ds)) else .stuck
theorem mkLst_ok {ds:List D} (h:ds.length ≤ sz):mkLst ds=.ok (.ow (.lst ds)):=if_pos h
theorem mkTup_ok {ds:List D} (h:ds.length ≤ sz):mkTup ds=.ok (.fz (.tup ds)):=if_pos h
noncomputable def En.dd (w:En):D:=w.d
noncomputable def En.sto (w:En):R D:=w.st
noncomputable def En.argo (w:En):R En:=w.arg
noncomputable def En.nmo (w:En):R En:=w.nm
section
variable {a b:SF} {ρ ρ':Rho} {w:En} {x:Xc} {d:D} {e f:EF} {t u:TF} {i j:Nat} {α β:Type} {k:α→Out} {v:α} {l:List EF}
theorem x_th_nx:Out.th (.nx ρ) b=b ρ:=rfl
theorem x_th_rt:Out.th (.rt w) b=.rt w:=rfl
theorem x_th_bk:Out.th (.bk ρ) b=.bk ρ:=rfl
theorem x_th_ct:Out.th (.ct ρ) b=.ct ρ:=rfl
theorem x_th_stuck:Out.th .stuck b=.stuck:=rfl
theorem x_seq:sSeq a b ρ=Out.th (a ρ) b:=by unfold sSeq Out.th; cases a ρ <;> rfl
theorem x_of_ok:sOf (.ok v) k=k v:=rfl
theorem x_of_stuck:sOf (.stuck:R α) k=.stuck:=rfl
theorem x_pickS_t:pickS a b ρ true=a ρ:=rfl
theorem x_pickS_f:pickS a b ρ false=b ρ:=rfl
theorem x_pickE_t:pickE e f ρ true=e ρ:=rfl
theorem x_pickE_f:pickE e f ρ false=f ρ:=rfl
theorem x_pickT_t:pickT t u ρ true=t ρ:=rfl
theorem x_pickT_f:pickT t u ρ false=u ρ:=rfl
theorem x_kF:kF ρ=.ok (.fz (.bl false)):=rfl
theorem x_kT:kT ρ=.ok (.fz (.bl true)):=rfl
theorem x_kfB:kfB ρ=.ok false:=rfl
theorem x_ktB:ktB ρ=.ok true:=rfl
theorem x_set:sSet i e ρ=sOf ((e ρ).b En.nmo) fun w=>.nx (ρ.set i (some w)):=rfl
theorem x_ret:sRet e ρ=sOf ((e ρ).b En.nmo) .rt:=rfl
theorem x_retV:sRetV i ρ=retR ρ[i]?:=rfl
theorem x_retR_fz:retR (some (some (.fz d)))=.rt (.fz d):=rfl
theorem x_retR_ow:retR (some (some (.ow d)))=.rt (.ow d):=rfl
theorem x_retN:sRetN ρ=.rt (.fz .non):=rfl
theorem x_next:sNext ρ=.nx ρ:=rfl
theorem x_break:sBreak ρ=.bk ρ:=rfl
theorem x_cont:sCont ρ=.ct ρ:=rfl
theorem x_expr:sExpr e ρ=sOf (e ρ) fun _=>.nx ρ:=rfl
theorem x_if:sIf t a b ρ=sOf (t ρ) (pickS a b ρ):=rfl
theorem x_nm_fz:En.nmo (.fz d)=.ok (.fz d):=rfl
theorem x_nm_ow:En.nmo (.ow d)=.ok (.ow d):=rfl
theorem x_st_fz:En.sto (.fz d)=.ok d:=rfl
theorem x_st_ow:En.sto (.ow d)=.ok d:=rfl
theorem x_arg_fz:En.argo (.fz d)=.ok (.fz d):=rfl
theorem x_arg_ow:En.argo (.ow d)=.ok (.fz d):=rfl
theorem x_arg_br:En.argo (.br d)=.ok (.br d):=rfl
theorem x_d_fz:En.dd (.fz d)=d:=rfl
theorem x_d_ow:En.dd (.ow d)=d:=rfl
theorem x_d_br:En.dd (.br d)=d:=rfl
theorem x_d_lk:En.dd (.lk d)=d:=rfl
theorem x_var:eVar i ρ=varR ρ[i]?:=rfl
theorem x_varR_fz:varR (some (some (.fz d)))=.ok (.fz d):=rfl
theorem x_varR_ow:varR (some (some (.ow d)))=.ok (.br d):=rfl
theorem x_varR_br:varR (some (some (.br d)))=.ok (.br d):=rfl
theorem x_varR_lk:varR (some (some (.lk d)))=.ok (.fz d):=rfl
theorem x_c:eC d ρ=.ok (.fz d):=rfl
theorem x_op {g:D→D→R En}:eOp g e f ρ=(e ρ).b fun x=>(f ρ).b fun y=>g x.dd y.dd:=rfl
theorem x_un {g:D→R En}:eUn g e ρ=(e ρ).b fun x=>g x.dd:=rfl
theorem x_evs_nil:evs [] ρ=.ok []:=rfl
theorem x_evs:evs (e::l) ρ=(e ρ).b fun x=>(evs l ρ).b fun xs=>.ok (x::xs):=rfl
theorem x_stA_nil:stAll []=.ok []:=rfl
theorem x_stA {w:En} {ws:List En}:stAll (w::ws)=w.sto.b fun d=>(stAll ws).b fun ds=>.ok (d::ds):=rfl
theorem x_argA_nil:argAll []=.ok []:=rfl
theorem x_argA {w:En} {ws:List En}:argAll (w::ws)=w.argo.b fun d=>(argAll ws).b fun ds=>.ok (d::ds):=rfl
theorem x_lst:eLst l ρ=(evs l ρ).b fun xs=>(stAll xs).b mkLst:=rfl
theorem x_tup:eTup l ρ=(evs l ρ).b fun xs=>(stAll xs).b mkTup:=rfl
theorem x_mkL0:mkLst []=.ok (.ow (.lst [])):=mkLst_ok (Nat.le_of_lt (Nat.lt_of_lt_of_le (show [].length < 17 by simp) (by decide)))
theorem x_mkT0:mkTup []=.ok (.fz (.tup [])):=mkTup_ok (Nat.le_of_lt (Nat.lt_of_lt_of_le (show [].length < 17 by simp) (by decide)))
theorem x_mkL1 {a0:D}:mkLst [a0]=.ok (.ow (.lst [a0])):=mkLst_ok (Nat.le_of_lt (Nat.lt_of_lt_of_le (show [a0].length < 17 by simp) (by decide)))
theorem x_mkT1 {a0:D}:mkTup [a0]=.ok (.fz (.tup [a0])):=mkTup_ok (Nat.le_of_lt (Nat.lt_of_lt_of_le (show [a0].length < 17 by simp) (by decide)))
theorem x_mkL2 {a0 a1:D}:mkLst [a0,a1]=.ok (.ow (.lst [a0,a1])):=mkLst_ok (Nat.le_of_lt (Nat.lt_of_lt_of_le (show [a0,a1].length < 17 by simp) (by decide)))
theorem x_mkT2 {a0 a1:D}:mkTup [a0,a1]=.ok (.fz (.tup [a0,a1])):=mkTup_ok (Nat.le_of_lt (Nat.lt_of_lt_of_le (show [a0,a1].length < 17 by simp) (by decide)))
theorem x_mkL3 {a0 a1 a2:D}:mkLst [a0,a1,a2]=.ok (.ow (.lst [a0,a1,a2])):=mkLst_ok (Nat.le_of_lt (Nat.lt_of_lt_of_le (show [a0,a1,a2].length < 17 by simp) (by decide)))
theorem x_mkT3 {a0 a1 a2:D}:mkTup [a0,a1,a2]=.ok (.fz (.tup [a0,a1,a2])):=mkTup_ok (Nat.le_of_lt (Nat.lt_of_lt_of_le (show [a0,a1,a2].length < 17 by simp) (by decide)))
theorem x_mkL4 {a0 a1 a2 a3:D}:mkLst [a0,a1,a2,a3]=.ok (.ow (.lst [a0,a1,a2,a3])):=mkLst_ok (Nat.le_of_lt (Nat.lt_of_lt_of_le (show [a0,a1,a2,a3].length < 17 by simp) (by decide)))
theorem x_mkT4 {a0 a1 a2 a3:D}:mkTup [a0,a1,a2,a3]=.ok (.fz (.tup [a0,a1,a2,a3])):=mkTup_ok (Nat.le_of_lt (Nat.lt_of_lt_of_le (show [a0,a1,a2,a3].length < 17 by simp) (by decide)))
theorem x_mkL5 {a0 a1 a2 a3 a4:D}:mkLst [a0,a1,a2,a3,a4]=.ok (.ow (.lst [a0,a1,a2,a3,a4])):=mkLst_ok (Nat.le_of_lt (Nat.lt_of_lt_of_le (show [a0,a1,a2,a3,a4].length < 17 by simp) (by decide)))
theorem x_mkT5 {a0 a1 a2 a3 a4:D}:mkTup [a0,a1,a2,a3,a4]=.ok (.fz (.tup [a0,a1,a2,a3,a4])):=mkTup_ok (Nat.le_of_lt (Nat.lt_of_lt_of_le (show [a0,a1,a2,a3,a4].length < 17 by simp) (by decide)))
theorem x_mkL6 {a0 a1 a2 a3 a4 a5:D}:mkLst [a0,a1,a2,a3,a4,a5]=.ok (.ow (.lst [a0,a1,a2,a3,a4,a5])):=mkLst_ok (Nat.le_of_lt (Nat.lt_of_lt_of_le (show [a0,a1,a2,a3,a4,a5].length < 17 by simp) (by decide)))
theorem x_mkL7 {a0 a1 a2 a3 a4 a5 a6:D}:mkLst [a0,a1,a2,a3,a4,a5,a6]=.ok (.ow (.lst [a0,a1,a2,a3,a4,a5,a6])):=mkLst_ok (Nat.le_of_lt (Nat.lt_of_lt_of_le (show [a0,a1,a2,a3,a4,a5,a6].length < 17 by simp) (by decide)))
theorem x_mkL8 {a0 a1 a2 a3 a4 a5 a6 a7:D}:mkLst [a0,a1,a2,a3,a4,a5,a6,a7]=.ok (.ow (.lst [a0,a1,a2,a3,a4,a5,a6,a7])):=mkLst_ok (Nat.le_of_lt (Nat.lt_of_lt_of_le (show [a0,a1,a2,a3,a4,a5,a6,a7].length < 17 by simp) (by decide)))
theorem x_mkL9 {a0 a1 a2 a3 a4 a5 a6 a7 a8:D}:mkLst [a0,a1,a2,a3,a4,a5,a6,a7,a8]=.ok (.ow (.lst [a0,a1,a2,a3,a4,a5,a6,a7,a8])):=mkLst_ok (Nat.le_of_lt (Nat.lt_of_lt_of_le (show [a0,a1,a2,a3,a4,a5,a6,a7,a8].length < 17 by simp) (by decide)))
theorem x_mkL10 {a0 a1 a2 a3 a4 a5 a6 a7 a8 a9:D}:mkLst [a0,a1,a2,a3,a4,a5,a6,a7,a8,a9]=.ok (.ow (.lst [a0,a1,a2,a3,a4,a5,a6,a7,a8,a9])):=mkLst_ok (Nat.le_of_lt (Nat.lt_of_lt_of_le (show [a0,a1,a2,a3,a4,a5,a6,a7,a8,a9].length < 17 by simp) (by decide)))
theorem x_mkL11 {a0 a1 a2 a3 a4 a5 a6 a7 a8 a9 a10:D}:mkLst [a0,a1,a2,a3,a4,a5,a6,a7,a8,a9,a10]=.ok (.ow (.lst [a0,a1,a2,a3,a4,a5,a6,a7,a8,a9,a10])):=mkLst_ok (Nat.le_of_lt (Nat.lt_of_lt_of_le (show [a0,a1,a2,a3,a4,a5,a6,a7,a8,a9,a10].length < 17 by simp) (by decide)))
theorem x_mkL12 {a0 a1 a2 a3 a4 a5 a6 a7 a8 a9 a10 a11:D}:mkLst [a0,a1,a2,a3,a4,a5,a6,a7,a8,a9,a10,a11]=.ok (.ow (.lst [a0,a1,a2,a3,a4,a5,a6,a7,a8,a9,a10,a11])):=mkLst_ok (Nat.le_of_lt (Nat.lt_of_lt_of_le (show [a0,a1,a2,a3,a4,a5,a6,a7,a8,a9,a10,a11].length < 17 by simp) (by decide)))
theorem x_mkL13 {a0 a1 a2 a3 a4 a5 a6 a7 a8 a9 a10 a11 a12:D}:mkLst [a0,a1,a2,a3,a4,a5,a6,a7,a8,a9,a10,a11,a12]=.ok (.ow (.lst [a0,a1,a2,a3,a4,a5,a6,a7,a8,a9,a10,a11,a12])):=mkLst_ok (Nat.le_of_lt (Nat.lt_of_lt_of_le (show [a0,a1,a2,a3,a4,a5,a6,a7,a8,a9,a10,a11,a12].length < 17 by simp) (by decide)))
theorem x_mkL14 {a0 a1 a2 a3 a4 a5 a6 a7 a8 a9 a10 a11 a12 a13:D}:mkLst [a0,a1,a2,a3,a4,a5,a6,a7,a8,a9,a10,a11,a12,a13]=.ok (.ow (.lst [a0,a1,a2,a3,a4,a5,a6,a7,a8,a9,a10,a11,a12,a13])):=mkLst_ok (Nat.le_of_lt (Nat.lt_of_lt_of_le (show [a0,a1,a2,a3,a4,a5,a6,a7,a8,a9,a10,a11,a12,a13].length < 17 by simp) (by decide)))
theorem x_mkL15 {a0 a1 a2 a3 a4 a5 a6 a7 a8 a9 a10 a11 a12 a13 a14:D}:mkLst [a0,a1,a2,a3,a4,a5,a6,a7,a8,a9,a10,a11,a12,a13,a14]=.ok (.ow (.lst [a0,a1,a2,a3,a4,a5,a6,a7,a8,a9,a10,a11,a12,a13,a14])):=mkLst_ok (Nat.le_of_lt (Nat.lt_of_lt_of_le (show [a0,a1,a2,a3,a4,a5,a6,a7,a8,a9,a10,a11,a12,a13,a14].length < 17 by simp) (by decide)))
theorem x_mkL16 {a0 a1 a2 a3 a4 a5 a6 a7 a8 a9 a10 a11 a12 a13 a14 a15:D}:mkLst [a0,a1,a2,a3,a4,a5,a6,a7,a8,a9,a10,a11,a12,a13,a14,a15]=.ok (.ow (.lst [a0,a1,a2,a3,a4,a5,a6,a7,a8,a9,a10,a11,a12,a13,a14,a15])):=mkLst_ok (Nat.le_of_lt (Nat.lt_of_lt_of_le (show [a0,a1,a2,a3,a4,a5,a6,a7,a8,a9,a10,a11,a12,a13,a14,a15].length < 17 by simp) (by decide)))
theorem x_call {dn:Den}:eCall dn l ρ=(evs l ρ).b fun xs=>(argAll xs).b fun ys=>dn ys:=rfl
theorem x_B {g:List D→R En}:eB g l ρ=(evs l ρ).b fun xs=>g (xs.map En.dd):=rfl
theorem x_tE:tE e ρ=(e ρ).b fun x=>truth x.dd:=rfl
theorem x_tNot:tNot t ρ=(t ρ).b fun b=>.ok (!b):=rfl
theorem x_tAnd:tAnd t u ρ=(t ρ).b (pickT u kfB ρ):=rfl
theorem x_tOr:tOr t u ρ=(t ρ).b (pickT ktB u ρ):=rfl
theorem x_eNot:eNot e ρ=(e ρ).b fun x=>(isB x.dd).b fun b=>.ok (.fz (.bl (!b))):=rfl
theorem x_eAnd:eAnd e f ρ=(e ρ).b fun x=>(isB x.dd).b (pickE f kF ρ):=rfl
theorem x_eOr:eOr e f ρ=(e ρ).b fun x=>(isB x.dd).b (pickE kT f ρ):=rfl
theorem x_eIf:eIf t e f ρ=(t ρ).b (pickE e f ρ):=rfl
theorem x_isB {c:Bool}:isB (.bl c)=.ok c:=rfl
theorem x_truth_bl {c:Bool}:truth (.bl c)=.ok c:=rfl
theorem x_truth_int {c:Int}:truth (.int c)=.ok (c != 0):=rfl
theorem x_truth_lst {c:List D}:truth (.lst c)=.ok (!c.isEmpty):=rfl
theorem x_truth_tup {c:List D}:truth (.tup c)=.ok (!c.isEmpty):=rfl
theorem x_truth_non:truth .non=.ok false:=rfl
theorem x_for {it:IF} {g:GF}:sFor it g a ρ=sOf (it ρ) fun xs=>forD g a xs ρ:=rfl
theorem x_add {i j:Int}:dAddI (.int i) (.int j)=.ok (.fz (.int (i+j))):=rfl
theorem x_sub {i j:Int}:dSub (.int i) (.int j)=.ok (.fz (.int (i - j))):=rfl
theorem x_lt {i j:Int}:dLt (.int i) (.int j)=.ok (.fz (.bl (decide (i < j)))):=rfl
theorem x_le {i j:Int}:dLe (.int i) (.int j)=.ok (.fz (.bl (decide (i ≤ j)))):=rfl
theorem x_gt {i j:Int}:dGt (.int i) (.int j)=.ok (.fz (.bl (decide (j < i)))):=rfl
theorem x_ge {i j:Int}:dGe (.int i) (.int j)=.ok (.fz (.bl (decide (j ≤ i)))):=rfl
theorem x_eq {i j:Int}:dEq (.int i) (.int j)=.ok (.fz (.bl (i == j))):=rfl
theorem x_ne {i j:Int}:dNe (.int i) (.int j)=.ok (.fz (.bl (!(i == j)))):=rfl
theorem x_neg {i:Int}:dNeg (.int i)=.ok (.fz (.int (-i))):=rfl
theorem x_mod {i j:Int} (h:0 < j):dMod (.int i) (.int j)=.ok (.fz (.int (i % j))):=by unfold dMod; dsimp only; rw [if_pos h]
theorem x_div {i j:Int} (h:0 < j) (h2:j < 1073741824):dDiv (.int i) (.int j)=.ok (.fz (.int (i / j))):=by unfold dDiv; dsimp only; rw [if_pos ⟨h,h2⟩]
theorem x_mulr {i j:Int} (h1:-1000000000000 < j) (h2:j < 1000000000000):dMul (.int i) (.int j)=.ok (.fz (.int (i * j))):=by
 unfold dMul; dsimp only; rw [if_pos]; rw [Bool.or_eq_true]; exact .inr (fits_iff.mpr (by rw [b64e]; (first|lia|omega)))
theorem x_mull {i j:Int} (h1:-1000000000000 < i) (h2:i < 1000000000000):dMul (.int i) (.int j)=.ok (.fz (.int (i * j))):=by
 unfold dMul; dsimp only; rw [if_pos]; rw [Bool.or_eq_true]; exact .inl (fits_iff.mpr (by rw [b64e]; (first|lia|omega)))
theorem x_len_l {xs:List D}:dLenS [.lst xs]=.ok (.fz (.int xs.length)):=rfl
theorem x_len_t {xs:List D}:dLenS [.tup xs]=.ok (.fz (.int xs.length)):=rfl
theorem x_list_l {xs:List D}:dList [.lst xs]=.ok (.ow (.lst xs)):=rfl
theorem x_list_t {xs:List D}:dList [.tup xs]=.ok (.ow (.lst xs)):=rfl
theorem x_tuple_l {xs:List D}:dTuple [.lst xs]=.ok (.fz (.tup xs)):=rfl
theorem x_tuple_t {xs:List D}:dTuple [.tup xs]=.ok (.fz (.tup xs)):=rfl
theorem x_min {i j:Int}:dMin2 [.int i,.int j]=.ok (.fz (.int (if j < i then j else i))):=rfl
theorem x_max {i j:Int}:dMax2 [.int i,.int j]=.ok (.fz (.int (if j > i then j else i))):=rfl
theorem x_ix_l {xs:List D} {i:Int}:dIxS (.lst xs) (.int i)=okD (ati xs i):=rfl
theorem x_ix_t {xs:List D} {i:Int}:dIxS (.tup xs) (.int i)=okD (ati xs i):=rfl
theorem x_ati0 {d:D} {r:List D}:okD (ati (d::r) 0)=.ok (.fz d):=by
 rw [show (0:Int)=((0:Nat):Int) from rfl,ati_nat]; rfl
theorem x_ati1 {c d:D} {r:List D}:okD (ati (c::d::r) 1)=.ok (.fz d):=by
 rw [show (1:Int)=((1:Nat):Int) from rfl,ati_nat]; rfl
theorem x_ati2 {b c d:D} {r:List D}:okD (ati (b::c::d::r) 2)=.ok (.fz d):=by
 rw [show (2:Int)=((2:Nat):Int) from rfl,ati_nat]; rfl
theorem x_ati3 {a b c d:D} {r:List D}:okD (ati (a::b::c::d::r) 3)=.ok (.fz d):=by
 rw [show (3:Int)=((3:Nat):Int) from rfl,ati_nat]; rfl
theorem x_okD {d:D}:okD (some d)=.ok (.fz d):=rfl
theorem x_is_int {n:Int}:dIs .int (.int n)=.ok (.fz (.bl true)):=rfl
theorem x_is_bool {n:Int}:dIs .bool (.int n)=.ok (.fz (.bl false)):=rfl
theorem x_is_list {n:List D}:dIs .list (.lst n)=.ok (.fz (.bl true)):=rfl
theorem x_is_tuple {n:List D}:dIs .tuple (.tup n)=.ok (.fz (.bl true)):=rfl
theorem x_stuck:sStuck ρ=.stuck:=rfl
theorem x_gV:gV i d ρ=.ok (ρ.set i (some (.fz d))):=rfl
theorem x_dK:eDK ρ=.ok (.ow (.dK [])):=rfl
theorem x_dT:eDT ρ=.ok (.ow (.dT [])):=rfl
theorem x_den {n:Nat} {ws:List En}:den n a ws=fin (a (ws.map some++List.replicate (n - ws.length) none)):=rfl
theorem x_fin_rt:fin (.rt w)=.ok w:=rfl
theorem x_fin_nx:fin (.nx ρ)=.ok (.fz .non):=rfl
theorem x_iVc {ds:List D} {w:En} (h:ρ[i]?=some (some w)) (h2:w.d=.lst ds) (h3:(match w with|.od _=>true|.lk _=>true|_=>false)=false:=by rfl):iVc i ρ=.ok ds:=by
 unfold iVc; rw [h]; cases w <;> first|(cases h3; done)|(cases h2; rfl)
theorem x_iR {e:EF} {ρ:Rho} {j:Int} (h:e ρ=.ok (.fz (.int j))) (c:fits b62 j=true):iR1 e ρ=.ok (rngD 0 j.toNat):=by
 unfold iR1
 rw [h,R.bind_ok]
 dsimp only [En.d]
 rw [if_pos c]
theorem x_iR1 {e:EF} {ρ:Rho} {n:Nat} (h:e ρ=.ok (.fz (.int n))) (hn:n < 1000000):iR1 e ρ=.ok (rngD 0 n):=by
 rw [x_iR h (fits_iff.mpr (by rw [b62e]; (first|lia|omega))),Int.toNat_natCast]
theorem x_app {xs:List D} {i:Nat} (h:ρ[i]?=some (some (.ow (.lst xs)))) (hl:xs.length < sz) (h2:(e ρ).b En.sto=.ok d):sApp i e ρ=.nx (ρ.set i (some (.ow (.lst (xs++[d]))))):=by
 unfold sApp; have h2:(e ρ).bind En.st=.ok d:=h2
 rw [h]; dsimp only; rw [h2]; unfold sOf; dsimp only; rw [if_pos hl]
theorem x_put {kvs:List (Sum Int Str×D)} {i:Nat} {k:EF} {w:En} {key:Sum Int Str} (h:ρ[i]?=some (some (.ow (.dK kvs)))) (h2:(e ρ).b En.sto=.ok d) (h3:k ρ=.ok w) (h4:keyOf w.d=some key) (hl:kvs.length < sz) :
  sPutK i k e ρ=.nx (ρ.set i (some (.ow (.dK (putM key d kvs))))):=by
 have h2:(e ρ).bind En.st=.ok d:=h2
 unfold sPutK
 rw [h]; dsimp only; rw [h2]; unfold sOf; dsimp only; rw [h3]; dsimp only; rw [h4]; dsimp only; rw [if_pos hl]
theorem deq_self:∀ (n:Nat) (d:D),eqokN n d=true→deq d d=true
 | _,.non,_=>rfl
 | _,.bl _,_=>by simp [deq]
 | _,.int _,_=>by simp [deq]
 | _,.str _,_=>by simp [deq]
 | 0,.tup _,h=>by simp [eqokN] at h
 | 0,.lst _,h=>by simp [eqokN] at h
 | n+1,.tup xs,h=>by
  have k:∀ ys:List D,ys.all (eqokN n)=true→deqs ys ys=true:=by
   intro ys
   induction ys with
   | nil=>intro _; rfl
   | cons y ys ih =>
    intro hy
    rw [List.all_cons,Bool.and_eq_true] at hy
    show (deq y y && deqs ys ys)=true
    rw [deq_self n y hy.1,ih hy.2]; rfl
  exact k xs h
 | n+1,.lst xs,h=>by
  have k:∀ ys:List D,ys.all (eqokN n)=true→deqs ys ys=true:=by
   intro ys
   induction ys with
   | nil=>intro _; rfl
   | cons y ys ih =>
    intro hy
    rw [List.all_cons,Bool.and_eq_true] at hy
    show (deq y y && deqs ys ys)=true
    rw [deq_self n y hy.1,ih hy.2]; rfl
  exact k xs h
 | n,.dK _,h=>by cases n <;> simp [eqokN] at h
 | n,.dT _,h=>by cases n <;> simp [eqokN] at h
 | n,.xc _ _,h=>by cases n <;> simp [eqokN] at h
theorem x_eq_self (h:eqok d=true):dEq d d=.ok (.fz (.bl true)):=by
 unfold dEq; rw [h,deq_self 8 d h]; rfl
theorem eqok_lst {xs:List D} (h:∀ x∈xs,eqokN 7 x=true):eqok (.lst xs)=true:=by
 show xs.all (eqokN 7)=true
 exact List.all_eq_true.mpr h
theorem x_asg {gf:GF}:sAsg gf e ρ=sOf ((e ρ).b fun w=>w.sto.b fun d=>gf d ρ) .nx:=rfl
theorem x_gT {is:List Nat} {ds:List D}:gT is (.tup ds) ρ=gVs is ds ρ:=rfl
theorem x_gVs0:gVs [] [] ρ=.ok ρ:=rfl
theorem x_gVs {is:List Nat} {ds:List D}:gVs (i::is) (d::ds) ρ=gVs is ds (ρ.set i (some (.fz d))):=rfl
end
end L3
namespace L3
open PySem PySem.Spec PyProof.Rows L2
section
variable {prog:Program} {w:World} {A:Around} {E:Value→Shared→Prop} {s:Shared} {kd:SortKind} {rk:Value→Int} {ini:Array Keyed}
noncomputable def av (rk:Value→Int) (xs:Array Keyed) (i:Nat):Int:=match xs[i]? with
 | some p=>rk p.1
 | none=>0
theorem av_bub {xs:Array Keyed} {a d:Nat} (h1:a < xs.size) (h2:d ≤ a) (k:Nat) :
  av rk (bubble xs a d) k=if k=a - d then av rk xs a else if a - d < k∧k ≤ a then av rk xs (k - 1) else av rk xs k:=by
 have e:=getElem?_bubble h1 d h2 k
 by_cases c1:k=a - d
 ·rw [if_pos c1] at e ⊢
  unfold av; rw [e]
 ·rw [if_neg c1] at e ⊢
  by_cases c2:a - d < k∧k ≤ a
  ·rw [if_pos c2] at e ⊢
   unfold av; rw [e]
  ·rw [if_neg c2] at e ⊢
   unfold av; rw [e]
theorem av_mir {xs:Array Keyed} {i j:Nat} (h:j ≤ xs.size) (k:Nat):av rk (mirror xs i j ((j - i) / 2)) k=if i ≤ k∧k < j then av rk xs (i+j - 1 - k) else av rk xs k:=by
 have e:=getElem?_mirror_all (i:=i) h k
 by_cases c:i ≤ k∧k < j
 ·rw [if_pos c] at e ⊢
  unfold av; rw [e]
 ·rw [if_neg c] at e ⊢
  unfold av; rw [e]
structure Mid (kd:SortKind) (ini:Array Keyed) (st:SortSt):Prop where
 pm:(arrOf st).Perm ini
 kd:kindOf st=kd
 fl:failedOf st=none
 pd:pendingOf st=#[]
theorem Mid.sz {st:SortSt} (m:Mid kd ini st):(arrOf st).size=ini.size:=m.pm.size_eq
structure Tells (prog:Program) (w:World) (A:Around) (s:Shared) (kd:SortKind) (rk:Value→Int) (ini:Array Keyed):Prop where
 lt:∀ p∈ini.toList,∀ q∈ini.toList,∀ (E:Value→Shared→Prop) (Q:Bool→Shared→Prop),Q (decide (rk p.1 < rk q.1)) s→wpAny (model prog w) A (keyLt' kd p.1 q.1) Q E s
 nd:(ini.toList.map fun p=>rk p.1).Nodup
theorem Mid.get {st:SortSt} (m:Mid kd ini st) {i:Nat} (hi:i < ini.size):∃ p,(arrOf st)[i]?=some p∧p∈ini.toList∧av rk (arrOf st) i=rk p.1:=by
 have h:i < (arrOf st).size:=by rw [m.sz]; exact hi
 have e:(arrOf st)[i]?=some (arrOf st)[i]:=getElem?_pos _ i h
 refine ⟨(arrOf st)[i],e,?_,?_⟩
 ·exact (Array.perm_iff_toList_perm.mp m.pm).mem_iff.mp (by simp)
 ·unfold av; rw [e]
theorem ask {st:SortSt} {i j:Nat} {Q:Option Bool→SortSt→Prop} (T:Tells prog w A s kd rk ini) (m:Mid kd ini st) (hi:i < ini.size) (hj:j < ini.size) (h:Q (some (decide (av rk (arrOf st) i < av rk (arrOf st) j))) st) :
  wpS (model prog w) A E s (ltAt' i j) Q st:=by
 obtain ⟨p,e1,m1,a1⟩:=m.get (rk:=rk) hi
 obtain ⟨q,e2,m2,a2⟩:=m.get (rk:=rk) hj
 rw [a1,a2] at h
 rw [ltAt'_eq]
 refine wpS_bind (wpS_get ?_)
 dsimp only
 rw [elem'_eq,elem'_eq,e1,e2]
 refine wpS_bind (wpS_pure (wpS_bind (wpS_pure ?_)))
 rw [lt'_eq]
 refine wpS_bind (wpS_get ?_)
 rw [m.kd]
 exact wpS_bind (wpS_lift (wpAny_attempt (T.lt p m1 q m2 _ _ ⟨rfl,wpS_pure h⟩)))
end
end L3
namespace L3
open PySem PySem.Spec PyProof.Rows L2
theorem lex_irr:∀ a:List Int,HT.lexLt a a=false
 | []=>rfl
 | x::r=>by rw [HT.lexLt_cons,if_pos rfl]; exact lex_irr r
theorem lex_tr:∀ {a b c:List Int},HT.lexLt a b=true→HT.lexLt b c=true→HT.lexLt a c=true
 | [],[],_,h,_=>by simp [HT.lexLt_nil_nil] at h
 | [],_::_,[],_,h=>by simp [HT.lexLt_cons_nil] at h
 | [],_::_,_::_,_,_=>rfl
 | _::_,[],_,h,_=>by simp [HT.lexLt_cons_nil] at h
 | _::_,_::_,[],_,h=>by simp [HT.lexLt_cons_nil] at h
 | x::a,y::b,z::c,h,k=>by
  rw [HT.lexLt_cons] at h k ⊢
  by_cases e1:x=y
  ·subst e1
   rw [if_pos rfl] at h
   by_cases e2:x=z
   ·subst e2
    rw [if_pos rfl] at k ⊢
    exact lex_tr h k
   ·rw [if_neg e2] at k ⊢; exact k
  ·rw [if_neg e1] at h
   by_cases e2:y=z
   ·subst e2
    rw [if_neg e1]; exact h
   ·rw [if_neg e2] at k
    simp at h k
    rw [if_neg (by (first|lia|omega))]
    simp; (first|lia|omega)
theorem lex_tot:∀ {a b:List Int},HT.lexLt a b=false→HT.lexLt b a=false→a=b
 | [],[],_,_=>rfl
 | [],_::_,h,_=>by simp [HT.lexLt_nil_cons] at h
 | _::_,[],_,h=>by simp [HT.lexLt_nil_cons] at h
 | x::a,y::b,h,k=>by
  rw [HT.lexLt_cons] at h k
  by_cases e:x=y
  ·subst e
   rw [if_pos rfl] at h k
   rw [lex_tot h k]
  ·rw [if_neg e] at h
   rw [if_neg (Ne.symm e)] at k
   simp at h k
   (first|lia|omega)
noncomputable def lexLe (a b:List Int):Bool:=!HT.lexLt b a
theorem lexLe_tr (a b c:List Int) (h:lexLe a b=true) (k:lexLe b c=true):lexLe a c=true:=by
 unfold lexLe at *
 cases e:HT.lexLt c a with
 | false=>rfl
 | true =>
  simp at h k
  cases e2:HT.lexLt a b with
  | true=>rw [lex_tr e e2] at k; cases k
  | false=>rw [lex_tot e2 h,k] at e; cases e
theorem lexLe_tot (a b:List Int):(lexLe a b || lexLe b a)=true:=by
 unfold lexLe
 cases e:HT.lexLt b a with
 | false=>rfl
 | true =>
  cases e2:HT.lexLt a b with
  | false=>rfl
  | true=>have:=lex_tr e e2; rw [lex_irr] at this; cases this
noncomputable def sortR (rs:List (List Int)):List (List Int):=rs.mergeSort lexLe
theorem sortR_perm (rs:List (List Int)):(sortR rs).Perm rs:=List.mergeSort_perm rs lexLe
theorem sortR_le (rs:List (List Int)):(sortR rs).Pairwise fun a b=>HT.lexLt b a=false:=by
 have h:=List.pairwise_mergeSort lexLe_tr lexLe_tot rs
 exact h.imp fun {a b} q=>by simpa [lexLe] using q
theorem sorted_one:∀ {xs ys:List (List Int)},xs.Perm ys→xs.Pairwise (fun a b=>HT.lexLt b a=false)→ys.Pairwise (fun a b=>HT.lexLt b a=false)→xs=ys
 | [],ys,p,_,_=>by rw [List.nil_perm.mp p]
 | x::xs,[],p,_,_=>by have:=p.length_eq; simp at this
 | x::xs,y::ys,p,hx,hy=>by
  rw [List.pairwise_cons] at hx hy
  have e:x=y:=by
   have m1:x∈y::ys:=p.mem_iff.mp List.mem_cons_self
   have m2:y∈x::xs:=p.mem_iff.mpr List.mem_cons_self
   rcases List.mem_cons.mp m1 with q|q
   ·exact q
   ·rcases List.mem_cons.mp m2 with q2|q2
    ·exact q2.symm
    ·exact lex_tot (hy.1 x q) (hx.1 y q2)
  subst e
  rw [sorted_one (List.Perm.cons_inv p) hx.2 hy.2]
noncomputable def rankR (rs:List (List Int)) (r:List Int):Int:=(rs.countP fun q=>HT.lexLt q r:Nat)
theorem rank_lt {rs:List (List Int)} {a b:List Int} (ha:a∈rs):(rankR rs a < rankR rs b) ↔ HT.lexLt a b=true:=by
 unfold rankR
 constructor
 ·intro h
  cases e:HT.lexLt a b with
  | true=>rfl
  | false =>
   have:(rs.countP fun q=>HT.lexLt q b) ≤ rs.countP fun q=>HT.lexLt q a:=List.countP_mono_left fun q _ hq=>by
    cases e2:HT.lexLt b a with
    | true=>exact lex_tr hq e2
    | false=>rw [lex_tot e e2]; exact hq
   (first|lia|omega)
 ·intro h
  have:(rs.countP fun q=>HT.lexLt q a) < rs.countP fun q=>HT.lexLt q b:=by
   obtain ⟨l,r,rfl⟩:=List.append_of_mem ha
   have m:∀ l:List (List Int),(l.countP fun q=>HT.lexLt q a) ≤ l.countP fun q=>HT.lexLt q b:=fun l=>List.countP_mono_left fun q _ hq=>lex_tr hq h
   have m1:=m l
   have m2:=m r
   rw [List.countP_append,List.countP_append,List.countP_cons_of_neg (by simp [lex_irr]),List.countP_cons_of_pos (p:=fun q=>HT.lexLt q b) h]
   (first|lia|omega)
  (first|lia|omega)
section
variable {prog:Program} {w:World} {A:Around} {E:Value→Shared→Prop} {s:Shared}
theorem one_int (f:Bool) {a b:Int} {t u:Tok} {Q:Bool→Shared→Prop} (h:Q (decide (a < b)) s):wpAny (model prog w) A (oneLt' f (.int a t) (.int b u)) Q E s:=by
 cases f with
 | true=>exact oneLt_int h
 | false =>
  rw [oneLt'_eq]
  simp only [Bool.false_eq_true,if_false]
  exact wpAny_bind (wpAny_richCompare_same (op:=.Lt) (typeIs_int s a t) (typeIs_int s b u) slot_int_lt (call_int_lt ⟨(fun z=>nomatch z),wpAny_truthy_bool h⟩))
theorem lex_walk (f:Bool) {Q:Option Bool×Unit→Shared→Prop}:∀ {xs ys:List Value} {ns ms:List Int} (k:Nat),IntsAre xs ns→IntsAre ys ms →
  (∀ r:Option Bool×Unit,(match r.1 with|some b=>b=HT.lexLt ns ms|none=>HT.lexLt ns ms=decide (xs.length < ys.length))→Q r s) →
  wpAny (model prog w) A (forIn ((xs.zip ys).zipIdx k) ((none,()):Option Bool×Unit) fun x _=>match x with
   | ((p,q),i)=>do
    let e ← eqBool p q
    if (!e)=true then do
     let l ← oneLt' (f && i == 0) p q
     pure (ForInStep.done (some l,()))
    else pure (ForInStep.yield (none,()))) Q E s
 | _,_,_,_,k,.nil,.nil,h=>wpAny_pure (h (none,()) (by rfl))
 | _,_,_,_,k,.nil,.cons _ _ _,h=>wpAny_pure (h (none,()) (by simp [HT.lexLt_nil_cons]))
 | _,_,_,_,k,.cons _ _ _,.nil,h=>wpAny_pure (h (none,()) (by simp [HT.lexLt_cons_nil]))
 | _,_,_,_,k,.cons (ns:=ns) a t hx,.cons (ns:=ms) b u hy,h=>by
  rw [List.zip_cons_cons,List.zipIdx_cons,List.forIn_cons]
  refine wpAny_bind (wpAny_bind (wpAny_eqBool_int ?_))
  by_cases c:a=b
  ·subst c
   rw [beq_self_eq_true]
   refine wpAny_pure (lex_walk f (k+1) hx hy fun r hr=>h r ?_)
   obtain ⟨r1,_⟩:=r
   cases r1 with
   | none=>dsimp only at hr ⊢; rw [HT.lexLt_cons,if_pos rfl,hr]; simp
   | some v=>dsimp only at hr ⊢; rw [HT.lexLt_cons,if_pos rfl]; exact hr
  ·have:(a == b)=false:=by simpa using c
   rw [this]
   refine wpAny_bind (one_int _ (wpAny_pure (wpAny_pure (h (some (decide (a < b)),()) ?_))))
   rw [HT.lexLt_cons,if_neg c]
theorem key_lt {a b:Addr} {xs ys:List Value} {ns ms:List Int} {Q:Bool→Shared→Prop} (ha:IsTup s.heap a xs.toArray) (hb:IsTup s.heap b ys.toArray) (hx:IntsAre xs ns) (hy:IntsAre ys ms) (h:Q (HT.lexLt ns ms) s) :
  wpAny (model prog w) A (keyLt' (tuples' true) (.ref a) (.ref b)) Q E s:=by
 obtain ⟨oa,ea,ca,na,da⟩:=ha
 obtain ⟨ob,eb,cb,nb,db⟩:=hb
 refine wpAny_bind (m:=Builtin.List.listItems (.ref a)) (listItems_at ea da ?_)
 refine wpAny_bind (m:=Builtin.List.listItems (.ref b)) (listItems_at eb db ?_)
 refine wpAny_bind (lex_walk true 0 hx hy fun r hr=>?_)
 obtain ⟨r1,_⟩:=r
 cases r1 with
 | some v=>dsimp only at hr ⊢; subst hr; exact wpAny_pure h
 | none=>dsimp only at hr ⊢; rw [hr] at h; simpa using wpAny_pure h
noncomputable def rowV (h:Heap):Value→List Int
 | .ref a=>(match h.get? a with
  | some o=>(match o.data with|.seq its _=>numsOf its.toList|_=>[])
  | none=>[])
 | _=>[]
noncomputable def Rows (h:Heap) (vs:List Value):Prop:=∀ v∈vs,∃ a its ns,v=.ref a∧IsTup h a (its:List Value).toArray∧IntsAre its (ns:List Int)∧ns≠[]
theorem rowV_is {h:Heap} {a:Addr} {its:List Value} {ns:List Int} (p:IsTup h a its.toArray) (q:IntsAre its ns):rowV h (.ref a)=ns:=by
 obtain ⟨o,e,c,n,d⟩:=p
 unfold rowV
 dsimp only
 rw [e]
 dsimp only
 rw [d]
 exact q.numsOf
theorem Rows.stay {h h':Heap} {vs:List Value} (R:Rows h vs) (k:∀ b o,h.get? b=some o→h'.get? b=some o):Rows h' vs∧∀ v∈vs,rowV h' v=rowV h v:=by
 have go:∀ v∈vs,∃ a its ns,v=.ref a∧IsTup h a (its:List Value).toArray∧IsTup h' a its.toArray∧IntsAre its (ns:List Int)∧ns≠[]:=fun v hv=>by
  obtain ⟨a,its,ns,e,p,q,n⟩:=R v hv
  obtain ⟨o,e2,c⟩:=p
  exact ⟨a,its,ns,e,⟨o,e2,c⟩,⟨o,k _ _ e2,c⟩,q,n⟩
 refine ⟨fun v hv=>?_,fun v hv=>?_⟩
 ·obtain ⟨a,its,ns,e,_,p,q,n⟩:=go v hv
  exact ⟨a,its,ns,e,p,q,n⟩
 ·obtain ⟨a,its,ns,rfl,p,p',q,n⟩:=go v hv
  rw [rowV_is p q,rowV_is p' q]
theorem firsts_ok:∀ {vs:List Value} {Q:List (Option Value)→Shared→Prop},Rows s.heap vs→(∀ fs:List Value,fs.length=vs.length→(∀ f∈fs,∃ n t,f=.int n t)→Q (fs.map some) s)→wpAny (model prog w) A (vs.mapM firstOfTuple') Q E s
 | [],Q,_,h=>by rw [List.mapM_nil]; exact wpAny_pure (h [] rfl fun f hf=>by simp at hf)
 | v::vs,Q,R,h=>by
  obtain ⟨a,its,ns,rfl,p,q,n⟩:=R v List.mem_cons_self
  obtain ⟨o,e,c,m,d⟩:=p
  rw [List.mapM_cons]
  have first:∃ x t r,its=.int x t::r:=by
   cases q with
   | nil=>exact absurd rfl n
   | cons x t r=>exact ⟨x,t,_,rfl⟩
  obtain ⟨x,t,r,rfl⟩:=first
  refine wpAny_bind (wpAny_bind (m:=typeOf (.ref a)) (wpAny_typeOf (T:="tuple") ⟨o,e,c⟩ ?_))
  have ht:(Value.type "tuple" != Value.type "tuple")=false:=by rfl
  rw [if_neg (by rw [ht]; exact Bool.false_ne_true)]
  refine wpAny_bind (listItems_at e d (wpAny_pure ?_))
  refine wpAny_bind (firsts_ok (fun v hv=>R v (List.mem_cons_of_mem _ hv)) fun fs hl hf=>wpAny_pure ?_)
  have:=h (.int x t::fs) (by simp [hl]) fun f hf'=>by
   rcases List.mem_cons.mp hf' with rfl|hf'
   ·exact ⟨x,t,rfl⟩
   ·exact hf f hf'
  simpa using this
theorem types_ok:∀ {fs:List Value},(∀ f∈fs,∃ n t,f=.int n t)→fs.mapM typeOf=pure (fs.map fun _=>Value.type "int")
 | [],_=>by simp
 | f::fs,h=>by
  obtain ⟨n,t,rfl⟩:=h f List.mem_cons_self
  rw [List.mapM_cons,types_ok fun f hf=>h f (List.mem_cons_of_mem _ hf)]
  show (pure (Value.type "int") >>= fun b=>pure _ >>= fun bs=>pure (b::bs))=_
  simp
theorem kind_ok {vs:List Value} {Q:SortKind→Shared→Prop} (R:Rows s.heap vs) (hv:vs≠[]) (h:Q (tuples' true) s):wpAny (model prog w) A (keyKind' vs.toArray) Q E s:=by
 rw [keyKind'_eq,List.mapM_toArray,map_eq_pure_bind,bind_assoc]
 refine wpAny_bind (firsts_ok R fun fs hl hf=>?_)
 simp only [pure_bind]
 rw [if_pos (by simp)]
 refine wpAny_bind (wpAny_rule ?_)
 have e:(fs.map some).toArray.filterMap id=fs.toArray:=by simp
 rw [e,oneTypeOnly'_eq,List.mapM_toArray,types_ok hf]
 simp only [map_pure,pure_bind]
 cases fs with
 | nil=>simp at hl; exact absurd (List.length_eq_zero_iff.mp hl.symm) hv
 | cons f fs =>
  have h0:(List.map (fun _=>Value.type "int") (f::fs)).toArray[0]?=some (Value.type "int"):=by simp
  have ha:((List.map (fun _=>Value.type "int") (f::fs)).toArray.all fun x=>x == Value.type "int")=true:=by
   simp only [List.all_toArray,List.all_map,List.all_eq_true]
   intro _ _
   rfl
  rw [h0]
  simp only [ha,if_true,pure_bind]
  exact wpAny_pure h
end
end L3
namespace L3
open PySem PySem.Spec PyProof.Rows L2
section
variable {prog:Program} {w:World} {A:Around} {E:Value→Shared→Prop} {s:Shared}
end
noncomputable def rowD (r:List Int):D:=.tup (r.map .int)
noncomputable def rowsOf:List D→Option (List (List Int))
 | []=>some []
 | .tup xs::r=>(match intsOf xs,rowsOf r with|some a,some b=>some (a::b)|_,_=>none)
 | _::_=>none
noncomputable def toV:Value→V
 | .ref a=>.ref a
 | _=>.non
theorem rows_rep {X:Cx} {pins:List (Addr×Obj)} {σ:St} {F H:Hp} {s:Shared} (I:Inv X pins σ H s) (l:Le F H):∀ {ds:List D} {rs:List (List Int)} {vs:List V} {us:List Value},rowsOf ds=some rs→Reps (kx X) F vs ds→Vals vs us →
  us.map (rowV s.heap)=rs∧∀ u∈us,∃ a its ns,u=.ref a∧IsTup s.heap a (its:List Value).toArray∧IntsAre its ns∧Rep (kx X) F (.ref a) (rowD ns)∧ns∈rs
 | [],rs,vs,us,h,r,q=>by
  cases h
  cases (show vs=[] from r)
  cases q
  exact ⟨rfl,fun u hu=>by simp at hu⟩
 | d::ds,rs,vs,us,h,r,q=>by
  obtain ⟨v,vr,rfl,r1,r2⟩:=r
  cases d <;> first|(cases h; done)|skip
  rename_i xs
  unfold rowsOf at h
  cases e1:intsOf xs with
  | none=>rw [e1] at h; cases h
  | some ns =>
   cases e2:rowsOf ds with
   | none=>rw [e1,e2] at h; cases h
   | some rs' =>
    rw [e1,e2] at h
    cases h
    cases q with
    | cons q1 q2 =>
     obtain ⟨m,k⟩:=rows_rep I l e2 r2 q2
     obtain ⟨a,ws,rfl,hq,rw'⟩:=id r1
     cases (show _=Value.ref a from q1)
     have ev:=intsOf_reps e1 rw'
     subst ev
     obtain ⟨its,rv,ht,_⟩:=I.tuple (SqT.le l hq)
     have hi:IntsAre its ns:=intsAre_of rv
     have rep:Rep (kx X) F (.ref a) (rowD ns):=by
      refine ⟨a,_,rfl,hq,?_⟩
      exact reps_ints ns
     refine ⟨by rw [List.map_cons,m,rowV_is ht hi],fun u hu=>?_⟩
     rcases List.mem_cons.mp hu with rfl|hu
     ·exact ⟨a,its,ns,rfl,ht,hi,rep,List.mem_cons_self⟩
     ·obtain ⟨a',its',ns',e,p1,p2,p3,p4⟩:=k u hu
      exact ⟨a',its',ns',e,p1,p2,p3,List.mem_cons_of_mem _ p4⟩
section
variable {X:Cx} {F0 H0:Hp}
end
noncomputable def cutD {α:Type} (xs:List α) (lo hi:Option Int):List α:=(xs.drop (HT.sIx xs.length 0 lo)).take (HT.sIx xs.length xs.length hi - HT.sIx xs.length 0 lo)
noncomputable def dSl:D→Option Int→Option Int→R En
 | .lst xs,lo,hi=>.ok (.ow (.lst (cutD xs lo hi)))
 | .tup xs,lo,hi=>if HT.sIx xs.length 0 lo=0∧HT.sIx xs.length xs.length hi=xs.length then .stuck else .ok (.fz (.tup (cutD xs lo hi)))
 | _,_,_=>.stuck
noncomputable abbrev OF:=Rho→R (Option Int)
noncomputable def oNo:OF:=fun _=>.ok none
noncomputable def isI:D→R (Option Int)
 | .int i=>.ok (some i)
 | _=>.stuck
noncomputable def oE (e:EF):OF:=fun ρ=>(e ρ).bind fun w=>isI w.d
noncomputable def eSl (a:EF) (lo hi:OF):EF:=fun ρ=>(a ρ).bind fun x=>(lo ρ).bind fun l=>(hi ρ).bind fun u=>dSl x.d l u
section
variable {X:Cx} {F0 H0:Hp} {pos p2:Pos}
noncomputable def sSetI (i:Nat) (k e:EF):SF:=fun ρ=>match ρ[i]? with
 | some (some (.ow (.lst xs)))=>sOf ((e ρ).bind En.st) fun d=>sOf ((k ρ).bind fun q=>isI q.d) fun j=>match ixn xs.length (j.getD 0) with
  | some n=>.nx (ρ.set i (some (.ow (.lst (xs.set n d)))))
  | none=>.stuck
 | _=>.stuck
theorem Reps.set {κ:Kx} {F:Hp} {v:V} {d:D} (h:Rep κ F v d):∀ (n:Nat) {ds:List D} {vs:List V},Reps κ F vs ds→Reps κ F (vs.set n v) (ds.set n d)
 | _,[],_,h2=>by cases (show _=_ from h2); rfl
 | 0,_::ds,_,h2=>by
  obtain ⟨u,r,rfl,h3,h4⟩:=h2
  exact ⟨v,r,rfl,h,h4⟩
 | n+1,_::ds,_,h2=>by
  obtain ⟨u,r,rfl,h3,h4⟩:=h2
  exact ⟨u,r.set n v,rfl,h3,Reps.set h n h4⟩
theorem ss_setI (i:Nat) {x:Str} {np pos':Pos} {k e:Expr} {fk fe:EF} (hk:SE X F0 H0 k fk) (he:SE X F0 H0 e fe) (hN:X.N[i]?=some x:=by rfl) (hv:Vis X.env.scope x:=by trivial) (hd:(x == ("__debug__":Str))=false:=by decide)
  (hcd:(x == ("__classdict__":Str))=false:=by decide)
  (ha:∀ v,assign (.Subscript (.Name x np) k pos') X.env v=(do
   let ov ← holding [v] (eval (.Name x np) X.env); let iv ← holding [v,ov] (eval k X.env); standAt pos'; holding [v,ov,iv] (setItem ov iv v); release [v,ov,iv] []):=by intro _; rfl)
  (hs:swapsWithSole [.Subscript (.Name x np) k pos'] e pos.line X.env=pure false:=by rfl) (hw:swappedStores [.Subscript (.Name x np) k pos'] e X.env=pure none:=by rfl)
  (h1:(assignEach [.Subscript (.Name x np) k pos'] X.env).map (·.2)=[assign (.Subscript (.Name x np) k pos') X.env]:=by rfl) :
  SS X F0 H0 (.Assign [.Subscript (.Name x np) k pos'] e pos) (sSetI i fk fe):=by
 intro pins s σ F H ρ D S I h
 unfold sSetI at h
 cases ew:ρ[i]? with
 | none=>rw [ew] at h; exact h.elim
 | some w =>
  rw [ew] at h
  cases w with
  | none=>exact h.elim
  | some w =>
   cases w with
   | fz d=>exact h.elim
   | br d=>exact h.elim
   | lk d=>exact h.elim
   | od d=>exact h.elim
   | ow d =>
    cases d <;> first|exact h.elim|skip
    rename_i ds
    have h:=KE.bind (PostS.of h)
    obtain ⟨v,e1,a,o,rfl,h0,hf,hh,ro⟩:=S.val i _ ew
    cases o <;> first|exact ro.elim|skip
    rename_i vs
    refine ps_asg (pos:=pos) (pe_sem (e:=e)) (pg_sub (pos:=pos') (pe_var (pos:=np) hN hv hd hcd) (pe_sem (e:=k)) set_list ha) hs hw h1 pins s σ H D I (he.sem S (h.imp fun w k1 y F1 H1 g1 q1=>?_))
    cases es:w.st with
    | exc x=>rw [es] at k1; exact k1.elim
    | stuck=>rw [es] at k1; exact k1.elim
    | ok d =>
     rw [es] at k1
     have ry:=Vok.st S.s g1 q1 es
     obtain ⟨g2,_⟩:=fzAll_gr S.s g1
     have S2:=S.grow g2
     refine ⟨_,e1,hk.sem S2 ((KE.bind (PostS.of (show PostS X F0 H0 F D _ from k1))).imp fun wk k2 y2 F3 H3 g3 q3=>?_)⟩
     have r:=Vok.rd q3
     revert k2 r
     generalize wk.d=dk
     intro k2 r
     cases dk <;> first|exact k2.elim|skip
     rename_i j
     have k2:PostS X F0 H0 F D (match ixn ds.length j with|some n=>.nx (ρ.set i (some (.ow (.lst (ds.set n d)))))|none=>.stuck):=k2
     cases ej:ixn ds.length j with
     | none=>rw [ej] at k2; exact k2.elim
     | some n =>
      rw [ej] at k2
      refine ⟨a,vs,j,n,rfl,RdV.int r,g3.h _ _ (g1.h _ _ hh),by rw [Reps.length ro]; exact ej,?_⟩
      refine k2 σ _ _ (Le.trans g2.f g3.f) ((S2.grow g3).mut ew e1 (o:=.lst (vs.set n y)) ?_)
      exact Reps.set (Rep.le g3.f _ ry) n (Reps.le (Le.trans g2.f g3.f) _ ro)
noncomputable def dAddA:D→D→R En
 | .int i,.int j=>okI (i+j)
 | .lst xs,.lst ys=>if xs.length+ys.length ≤ sz then .ok (.ow (.lst (xs++ys))) else .stuck
 | .tup xs,.tup ys=>if xs.length+ys.length ≤ sz∧xs≠[]∧ys≠[] then .ok (.fz (.tup (xs++ys))) else .stuck
 | _,_=>.stuck
theorem od_addA:OpD X (binaryOp .Add) dAddA:=by
 intro pins s σ F H x y v u dx dy Q I l rx ry qx qy w
 cases dx <;> first|exact w.elim|skip
 ·cases dy <;> first|exact w.elim|skip
  exact od_addI pins s σ F H x y v u _ _ Q I l rx ry qx qy w
 ·rename_i xs
  cases dy <;> first|exact w.elim|skip
  rename_i ys
  unfold dAddA at w
  dsimp only at w
  by_cases c:xs.length+ys.length ≤ sz∧xs≠[]∧ys≠[]
  ·rw [if_pos c] at w
   obtain ⟨a,vs,rfl,hq,_,rs⟩:=RdV.tup l qx
   obtain ⟨b,us,rfl,hq2,_,rs2⟩:=RdV.tup l qy
   have n1:vs≠[]:=fun z=>by subst z; have:=Reps.length rs; simp at this; exact c.2.1 (List.length_eq_zero_iff.mp this.symm)
   have n2:us≠[]:=fun z=>by subst z; have:=Reps.length rs2; simp at this; exact c.2.2 (List.length_eq_zero_iff.mp this.symm)
   refine op_catT pins s σ H _ _ v u Q I rx ry ⟨a,b,vs,us,rfl,rfl,hq,hq2,n1,by rw [Reps.length rs,Reps.length rs2,← sz_eq]; exact c.1,fun z=>absurd z n2,fun _ p hp=>?_⟩
   have gn:=Gr.newF (o:=.tup (vs++us)) l hp
   exact w (.ref p) _ _ gn ⟨p,_,rfl,.inl (.inl upd_same),Reps.le gn.f _ (Reps.append rs rs2)⟩
  ·rw [if_neg c] at w; exact w.elim
 ·rename_i xs
  cases dy <;> first|exact w.elim|skip
  rename_i ys
  unfold dAddA at w
  dsimp only at w
  by_cases c:xs.length+ys.length ≤ sz
  ·rw [if_pos c] at w
   obtain ⟨a,vs,rfl,hq,rs⟩:=RdV.lst l qx
   obtain ⟨b,us,rfl,hq2,rs2⟩:=RdV.lst l qy
   cases (show v=Value.ref a from rx)
   cases (show u=Value.ref b from ry)
   obtain ⟨its,rv,pl,hz⟩:=I.list hq
   obtain ⟨its2,rv2,pl2,hz2⟩:=I.list hq2
   obtain ⟨⟨cls,dd,data,sl⟩,ho,hc,n,hd⟩:=pl.isList
   obtain ⟨⟨cls2,dd2,data2,sl2⟩,ho2,hc2,n2,hd2⟩:=pl2.isList
   simp only at hc hd hc2 hd2
   subst hc hd hc2 hd2
   have hl:its.length+its2.length ≤ sizeLine:=by rw [← rv.length,← rv2.length,Reps.length rs,Reps.length rs2,← sz_eq]; exact c
   refine concat_meets ⟨_,ho,rfl⟩ ⟨_,ho2,rfl⟩ noFill_list_add seq_list_add PySem.F.slot_list_add PySem.F.entry_list_add (PySem.F.args_list_add_2 _ _) (list_addW a b its.toArray its2.toArray n n2 dd dd2 sl sl2 (by simpa using hl)) ⟨ho,ho2,?_⟩
   have ea:its.toArray++its2.toArray=(its++its2).toArray:=by simp
   rw [ea]
   have hp:H s.heap.objs.size=none:=I.hok.fresh (Nat.le_refl _)
   refine ⟨.ref s.heap.objs.size,upd H s.heap.objs.size (.lst (vs++us)),I.laid (t':=s.toks) (fun b o q=>Heap.get?_push_of_some _ q) (Nat.le_refl _) ⟨?_,its++its2,0,rv.append rv2,Heap.get?_push_size _ rfl⟩,rfl,?_⟩
   ·rw [List.length_append,rv.length,rv2.length]; exact hl
   ·exact w _ _ _ (Gr.new l hp) ⟨_,_,rfl,hp,Le.none l hp,upd_same,Reps.append rs rs2⟩
  ·rw [if_neg c] at w; exact w.elim
end
end L3
namespace L3
open PySem PySem.Spec PyProof.Rows L2
section
variable {prog:Program} {w:World} {A:Around} {E:Value→Shared→Prop} {s:Shared}
theorem meets_len (d:Addr) (hd:(d == sysModules)=false) :
  MeetsIn prog w (Builtin.«dict.__len__» ⟨[.ref d],[]⟩) (fun _ R s=>∃ o es ep,s.heap.get? d=some o∧o.data=.dict es ep∧R (.ok (.ret (.int es.size s.toks))) { s with toks:=s.toks+1 }) :=
 .of_wp fun A R s ⟨o,es,ep,ho,hdat,h⟩=>by
  refine wpAny_bind (m:=dictSize d) (wpAny_bind (wpAny_dictEntries ho hdat (wpAny_pure ?_)))
  refine wpAny_bind (m:=Builtin.Dict.pendingCount d) (wpAny_pendingCount_other hd (wpAny_ret_mkInt ?_))
  rw [Nat.add_zero]; exact h
theorem len_any {d:Addr} {o:Obj} {es:Array DictEntry} {ep:Nat} {Q:Value→Shared→Prop} (hd:(d == sysModules)=false) (ho:s.heap.get? d=some o) (hx:o.ExactDict) (hdat:o.data=.dict es ep) (hz:es.size ≤ sizeLine)
  (h:Q (.int es.size (s.toks+1)) { s with toks:=s.toks+1+1 }):wpAny (model prog w) A (call (.builtin "len") [.ref d]) Q E s:=by
 rw [sizeLine_eq] at hz
 have ty:s.TypeIs (.ref d) "dict":=⟨o,ho,hx.1⟩
 refine Calls.call_function_entry kind_len plain_len entry_len (args_len1 _) ?_
 unfold Builtin.«len»
 refine wpAny_bind (m:=oneArg "len" _) (wpAny_pure ?_)
 refine wpAny_bind (m:=callSpecial? (.ref d) (Str.ofString "__len__")) (wpAny_callSpecial?_slot (name:=Str.ofString "__len__") ty PySem.F.slot_dict_len
  (call_meetsIn PySem.F.slot_dict_len ty PySem.F.entry_dict_len (PySem.F.args_dict_len_1 _) (meets_len d hd) ⟨o,es,ep,ho,hdat,?_⟩))
 refine wpAny_bind (wpAny_holding (wpAny_pure (wpAny_bind (wpAny_letGo ?_))))
 have c1:¬ ((es.size:Nat):Int) < 0:=by (first|lia|omega)
 have c2:¬ ((es.size:Nat):Int) ≥ 2 ^ 63:=by (first|lia|omega)
 show wpAny _ _ (if ((es.size:Nat):Int) < 0 then _ else _) _ _ _
 rw [if_neg c1]
 show wpAny _ _ (if ((es.size:Nat):Int) ≥ 2 ^ 63 then _ else _) _ _ _
 rw [if_neg c2]
 exact wpAny_bind (wpAny_mkInt (wpAny_pure ⟨_,rfl,h⟩))
end
noncomputable def dLenA:List D→R En
 | [.lst xs]=>okI xs.length
 | [.tup xs]=>okI xs.length
 | [.dK kvs]=>if kvs.length ≤ sz then okI kvs.length else .stuck
 | [.dT kvs]=>okI kvs.length
 | _=>.stuck
theorem RepT.length {κ:Kx} {F:Hp}:∀ {kds:List (List (Sum Int Str)×D)} {kvs:List (List Key×V)},RepT κ F kvs kds→kvs.length=kds.length
 | [],_,h=>by cases (show _=_ from h); rfl
 | (q,d)::r,_,h=>by
  obtain ⟨v,kr,rfl,h1,h2⟩:=h
  simp [RepT.length h2]
theorem RdV.dT {κ:Kx} {F H:Hp} {v:V} {ds:List (List (Sum Int Str)×D)} (s:Le F H) (h:RdV κ F H v (.dT ds)):∃ a kvs,v=.ref a∧Rd H a (.dT kvs)∧RepT κ F kvs ds:=by
 rcases h with ⟨a,vs,e,q,r⟩|⟨a,o,e,e2,r⟩
 ·exact ⟨a,vs,e,Rd.le s q,r⟩
 ·cases o with
  | dT vs=>exact ⟨a,vs,e,.inl e2,r⟩
  | _=>exact r.elim
section
variable {X:Cx} {F0 H0:Hp}
theorem cd_lenA:CallD X (.builtin "len") dLenA:=by
 intro pins s σ F H xs us ds Q I l rx qx w
 cases qx with
 | nil=>exact w.elim
 | @cons x d xs ds q1 q2 =>
  cases q2 with
  | cons _ _=>cases d <;> exact w.elim
  | nil =>
   cases d <;> first|exact w.elim|skip
   ·exact cd_len pins s σ F H _ _ [.tup _] Q I l rx (.cons q1 .nil) w
   ·exact cd_len pins s σ F H _ _ [.lst _] Q I l rx (.cons q1 .nil) w
   ·rename_i kds
    obtain ⟨p,kvs,rfl,hq,rk⟩:=RdV.dK l q1
    cases rx with
    | cons r1 r2 =>
     cases r2
     cases r1
     obtain ⟨hd,vs,rel,o,es,ep,ho,hx,hdat,hk,hp,hn⟩:=Inv.dictK I hq
     have e1:es.size=kds.length:=by
      have a1:es.toList.length=vs.length:=hp.length
      have a2:=rel.length
      have a3:=RepK.length rk
      simp at a1
      (first|lia|omega)
     unfold dLenA at w
     dsimp only at w
     by_cases c:kds.length ≤ sz
     ·rw [if_pos c] at w
      refine len_any hd ho hx hdat (by rw [e1,← sz_eq]; exact c) ?_
      rw [e1]
      exact ⟨.int _,H,I.tok _,⟨_,rfl⟩,wish_fz (X:=X) l (v:=.int _) w rfl⟩
     ·rw [if_neg c] at w; exact w.elim
   ·rename_i kds
    obtain ⟨p,kvs,rfl,hq,rk⟩:=RdV.dT l q1
    cases rx with
    | cons r1 r2 =>
     cases r2
     cases r1
     obtain ⟨hz,hd,zs,rel,o,es,ep,ho,hx,hdat,h4,h5⟩:=hq.ok I.hok
     have e1:es.size=kvs.length:=by
      have a1:es.toList.length=zs.length:=by rw [h4,List.length_map]
      have a2:=rel.length
      simp at a1
      (first|lia|omega)
     refine len_any hd ho hx hdat (by (first|lia|omega)) ?_
     rw [e1,RepT.length rk]
     exact ⟨.int _,H,I.tok _,⟨_,rfl⟩,wish_fz (X:=X) l (v:=.int _) w rfl⟩
theorem repT_keys {κ:Kx} {F:Hp}:∀ {kds:List (List (Sum Int Str)×D)} {kvs:List (List Key×V)},RepT κ F kvs kds→kvs.map (·.1)=kds.map (·.1)
 | [],_,h=>by cases (show _=_ from h); rfl
 | (k,d)::r,_,h=>by
  obtain ⟨v,kr,rfl,h1,h2⟩:=h
  simp [repT_keys h2]
theorem repT_append {κ:Kx} {F:Hp}:∀ {kds es:List (List (Sum Int Str)×D)} {kvs us:List (List Key×V)},RepT κ F kvs kds→RepT κ F us es→RepT κ F (kvs++us) (kds++es)
 | [],_,_,_,h,k=>by cases (show _=_ from h); exact k
 | (q,d)::r,_,_,_,h,k=>by
  obtain ⟨v,kr,rfl,h1,h2⟩:=h
  exact ⟨v,kr++_,rfl,h1,repT_append h2 k⟩
theorem repT_map {κ:Kx} {F:Hp} {k:List Key} {v:V} {d:D} (hv:Rep κ F v d):∀ {kds:List (List (Sum Int Str)×D)} {kvs:List (List Key×V)},RepT κ F kvs kds →
  RepT κ F (kvs.map (fun kv=>if kv.1=k then (kv.1,v) else kv)) (kds.map (fun kv=>if kv.1=k then (kv.1,d) else kv))
 | [],_,h=>by cases (show _=_ from h); rfl
 | (q,e)::r,_,h=>by
  obtain ⟨u,kr,rfl,h1,h2⟩:=h
  have hr:=repT_map (k:=k) hv h2
  by_cases c:q=k
  ·simp only [List.map_cons,if_pos c]
   exact ⟨v,_,rfl,hv,hr⟩
  ·simp only [List.map_cons,if_neg c]
   exact ⟨u,_,rfl,h1,hr⟩
theorem putM_repT {κ:Kx} {F:Hp} {k:List Key} {v:V} {d:D} (hv:Rep κ F v d) {kds:List (List (Sum Int Str)×D)} {kvs:List (List Key×V)} (h:RepT κ F kvs kds):RepT κ F (putK kvs k v) (putM k d kds):=by
 have e:=repT_keys h
 have a:∀ {α:Type} (l:List (List Key×α)),(l.any fun kv=>decide (kv.1=k))=(l.map (·.1)).any fun q=>decide (q=k):=fun l=>by rw [List.any_map]; rfl
 unfold putK putM
 rw [a,a,e]
 by_cases c:((kds.map (·.1)).any fun q=>decide (q=k))=true
 ·rw [if_pos c,if_pos c]; exact repT_map hv h
 ·rw [if_neg c,if_neg c]; exact repT_append h ⟨v,[],rfl,hv,rfl⟩
theorem keys_ok {κ:Kx} {H F' H':Hp}:∀ {ws:List En} {vs:List V} {q:List Key},Voks κ H F' H' vs ws→keysOf (ws.map En.d)=some q→vs=q.map kV
 | [],vs,q,h,e=>by cases e; exact h
 | w::ws,vs,q,h,e=>by
  obtain ⟨v,r,rfl,h1,h2⟩:=h
  rw [List.map_cons] at e
  unfold keysOf at e
  cases e1:keyOf w.d with
  | none=>rw [e1] at e; cases e
  | some k =>
   cases e2:keysOf (ws.map En.d) with
   | none=>rw [e1,e2] at e; cases e
   | some ks =>
    rw [e1,e2] at e
    cases e
    have r1:=Vok.rd h1
    have ev:v=kV k:=by
     cases ed:w.d with
     | int j=>rw [ed] at e1 r1; cases e1; exact RdV.int r1
     | str j=>rw [ed] at e1 r1; cases e1; exact RdV.str r1
     | _=>rw [ed] at e1; cases e1
    rw [ev,keys_ok h2 e2]
    rfl
theorem tup_sem {es:List Expr} {fs:List EF} {k:Nat} {tp:Pos} (ha:SA X F0 H0 es fs) {σ:St} {F H:Hp} {ρ:Rho} {Q:VK} (S:StOk (kx X) F0 H0 F H ρ σ)
  (h:KE (XP X F0 H0) (evs fs ρ) fun ws=>∀ vs F' H' p,Gr F H F' H'→Voks (kx X) H F' H' vs ws→H' p=none→vs.length ≤ sizeLine∧Q (.ref p) (upd H' p (.tup vs))):tSem X (.Tuple es k tp) σ H Q:=by
 intro pins s I
 refine wpAny_Tuple_spliced (ha tp pins s σ F H ρ _ S I (h.imp fun ws k1 vs us F1 H1 s1 g1 q1 r1 I1=>?_))
 have hf:H1 s1.heap.objs.size=none:=I1.hok.fresh (Nat.le_refl _)
 obtain ⟨z,q⟩:=k1 vs F1 H1 s1.heap.objs.size g1 q1 hf
 refine ⟨by rw [← r1.length]; exact z,?_⟩
 refine ⟨.ref s1.heap.objs.size,upd H1 s1.heap.objs.size (.tup vs),I1.laid (t':=s1.toks) (fun b u e=>Heap.get?_push_of_some _ e) (Nat.le_refl _) ?_,rfl,q⟩
 exact ⟨z,us,r1,⟨_,Heap.get?_push_size _ rfl,rfl,_,rfl⟩⟩
end
end L3
namespace L3
open PySem PySem.Spec PyProof.Rows L2
noncomputable def chE (g:D→D→R En) (y:D) (c:EF):EF:=fun ρ=>(c ρ).bind fun z=>g y z.d
section
variable {ρ:Rho} {d:D} {e f:EF} {i:Nat} {a b c:EF}
theorem x_addA {i j:Int}:dAddA (.int i) (.int j)=.ok (.fz (.int (i+j))):=rfl
theorem x_lenA_l {xs:List D}:dLenA [.lst xs]=.ok (.fz (.int xs.length)):=rfl
theorem x_lenA_t {xs:List D}:dLenA [.tup xs]=.ok (.fz (.int xs.length)):=rfl
theorem x_lenA_dT {xs:List (List (Sum Int Str)×D)}:dLenA [.dT xs]=.ok (.fz (.int xs.length)):=rfl
theorem x_sl {lo hi:OF}:eSl a lo hi ρ=(a ρ).b fun x=>(lo ρ).b fun l=>(hi ρ).b fun u=>dSl x.dd l u:=rfl
theorem x_oNo:oNo ρ=.ok none:=rfl
theorem x_oE:oE e ρ=(e ρ).b fun w=>isI w.dd:=rfl
theorem x_isI {j:Int}:isI (.int j)=.ok (some j):=rfl
theorem x_sl_l {xs:List D} {lo hi:Option Int}:dSl (.lst xs) lo hi=.ok (.ow (.lst (cutD xs lo hi))):=rfl
theorem x_sl_t32 {x y z:D}:dSl (.tup [x,y,z]) none (some 2)=.ok (.fz (.tup [x,y])):=rfl
theorem x_chain {g g':D→D→R En}:eChain g g' a b c ρ=(a ρ).b fun x=>(b ρ).b fun y=>(g x.dd y.dd).b fun r=>(isB r.dd).b (pickE (chE g' y.dd c) kF ρ):=rfl
theorem x_chE {g:D→D→R En}:chE g d c ρ=(c ρ).b fun z=>g d z.dd:=rfl
theorem x_setI {xs:List D} {k:EF} {w:En} {j:Int} {n:Nat} (h:ρ[i]?=some (some (.ow (.lst xs)))) (h2:(e ρ).b En.sto=.ok d) (h3:k ρ=.ok w) (h4:w.d=.int j) (h5:ixn xs.length j=some n) :
  sSetI i k e ρ=.nx (ρ.set i (some (.ow (.lst (xs.set n d))))):=by
 have h2:(e ρ).bind En.st=.ok d:=h2
 unfold sSetI
 rw [h]; dsimp only; rw [h2]; unfold sOf; dsimp only; rw [h3,R.bind_ok,h4]
 show (match ixn xs.length j with|some n=>_|none=>_)=_
 rw [h5]
theorem ixn_last {n:Nat} (h:0 < n):ixn n (-1)=some (n - 1):=by
 unfold ixn
 rw [if_neg (by decide),if_pos (by (first|lia|omega))]
 congr 1
 (first|lia|omega)
theorem set_last {α:Type} {xs:List α} {d:α} (h:xs≠[]):xs.set (xs.length - 1) d=xs.dropLast++[d]:=by
 obtain ⟨ys,y,rfl⟩:∃ ys y,xs=ys++[y]:=⟨xs.dropLast,xs.getLast h,(List.dropLast_concat_getLast h).symm⟩
 simp
theorem x_iSeq {w:En} {ds:List D} (h:e ρ=.ok w) (h2:w.st=.ok (.lst ds)):iSeq e ρ=.ok ds:=by unfold iSeq; rw [h,R.bind_ok,h2,R.bind_ok]; rfl
theorem eq_pair {a b c d:Int}:dEq (.tup [.int a,.int b]) (.tup [.int c,.int d])=.ok (.fz (.bl (a == c && b == d))):=by
 show okB (deq _ _)=_
 simp [deq,deqs]
theorem ne_pair {a b c d:Int}:dNe (.tup [.int a,.int b]) (.tup [.int c,.int d])=.ok (.fz (.bl (!(a == c && b == d)))):=by
 show okB (!deq _ _)=_
 simp [deq,deqs]
theorem rowsOf_map:∀ rs:List (List Int),rowsOf (rs.map rowD)=some rs
 | []=>rfl
 | r::rs=>by
  show (match intsOf (r.map .int),rowsOf (rs.map rowD) with|some a,some b=>some (a::b)|_,_=>none)=_
  have e:∀ ns:List Int,intsOf (ns.map D.int)=some ns:=by
   intro ns
   induction ns with
   | nil=>rfl
   | cons n ns ih =>
    show (match intsOf (ns.map D.int) with|some l=>some (n::l)|none=>none)=_
    rw [ih]
  rw [e,rowsOf_map rs]
end
end L3
namespace L3
open PySem PySem.Spec PyProof.Rows L2
section
variable {prog:Program} {w:World} {A:Around} {R:Result→Shared→Prop} {it:Addr} {fp wr:List Addr} {n:Nat} {P:Nat→Value→Prop} {St:Nat→Heap→Prop}
end
section
variable {prog:Program} {w:World} {A:Around} {E:Value→Shared→Prop} {s:Shared}
end
noncomputable def dMaxD:D→D→R En
 | .lst ds,.int d=>(match intsOf ds with|some []=>okI d|some (i::r)=>okI (maxL i r)|none=>.stuck)
 | _,_=>.stuck
section
variable {X:Cx} {F0 H0:Hp} {pos p kp:Pos}
noncomputable def isNon:D→Bool
 | .non=>true
 | _=>false
noncomputable def dIsN2:D→D→R En
 | .xc _ _,_=>.stuck
 | d,.non=>okB (isNon d)
 | _,_=>.stuck
noncomputable def dIsNot2:D→D→R En
 | .xc _ _,_=>.stuck
 | d,.non=>okB (!isNon d)
 | _,_=>.stuck
theorem rd_non {κ:Kx} {F H:Hp} {v:V} {d:D} (l:Le F H) (q:RdV κ F H v d) (hx:∀ c fs,d≠.xc c fs):decide (v=.non)=isNon d:=by
 cases d with
 | non=>rw [RdV.non q]; rfl
 | bl b=>rw [RdV.bl q]; rfl
 | int b=>rw [RdV.int q]; rfl
 | str b=>rw [RdV.str q]; rfl
 | tup ds=>obtain ⟨a,vs,rfl,_⟩:=RdV.tup l q; rfl
 | lst ds=>obtain ⟨a,vs,rfl,_⟩:=RdV.lst l q; rfl
 | dK ds=>obtain ⟨a,vs,rfl,_⟩:=RdV.dK l q; rfl
 | dT ds=>obtain ⟨a,vs,rfl,_⟩:=RdV.dT l q; rfl
 | xc c fs=>exact absurd rfl (hx c fs)
theorem od_isN:OpD X (compareOp .Is) dIsN2:=opd_of op_isN fun F H x y dx dy Q l qx qy w=>by
 have hx:∀ c fs,dx≠.xc c fs:=fun c fs z=>by subst z; exact w.elim
 cases dy <;> first|(cases dx <;> exact w.elim)|skip
 have w:Wish X F H (okB (isNon dx)) Q:=by cases dx <;> first|exact w|exact w.elim
 refine ⟨RdV.non qy,?_⟩
 rw [rd_non l qx hx]
 exact wish_fz l (v:=.bl _) w rfl
theorem od_isNotN:OpD X (compareOp .IsNot) dIsNot2:=opd_of op_notN fun F H x y dx dy Q l qx qy w=>by
 have hx:∀ c fs,dx≠.xc c fs:=fun c fs z=>by subst z; exact w.elim
 cases dy <;> first|(cases dx <;> exact w.elim)|skip
 have w:Wish X F H (okB (!isNon dx)) Q:=by cases dx <;> first|exact w|exact w.elim
 refine ⟨RdV.non qy,?_⟩
 rw [rd_non l qx hx]
 exact wish_fz l (v:=.bl _) w rfl
end
end L3
namespace L3
section
variable {ρ:Rho} {d:D} {e:EF} {i:Nat}
noncomputable def augR (o:Option (Option En)) (i:Nat) (g:D→D→R En) (e:EF) (ρ:Rho):Out:=match o with
 | some (some (.fz x))=>sOf ((e ρ).b fun y=>(g x y.dd).b En.nmo) fun w=>.nx (ρ.set i (some w))
 | _=>.stuck
theorem x_aug {g:D→D→R En}:sAug i g e ρ=augR ρ[i]? i g e ρ:=rfl
theorem x_augR {g:D→D→R En}:augR (some (some (.fz d))) i g e ρ=sOf ((e ρ).b fun y=>(g d y.dd).b En.nmo) fun w=>.nx (ρ.set i (some w)):=rfl
theorem x_maxD_nil {d:Int}:dMaxD (.lst []) (.int d)=.ok (.fz (.int d)):=rfl
theorem x_isN_non:dIsN2 .non .non=.ok (.fz (.bl true)):=rfl
theorem x_isN_tup {xs:List D}:dIsN2 (.tup xs) .non=.ok (.fz (.bl false)):=rfl
theorem x_isN_lst {xs:List D}:dIsN2 (.lst xs) .non=.ok (.fz (.bl false)):=rfl
theorem x_isN_int {j:Int}:dIsN2 (.int j) .non=.ok (.fz (.bl false)):=rfl
theorem x_isNot_non:dIsNot2 .non .non=.ok (.fz (.bl false)):=rfl
theorem x_isNot_tup {xs:List D}:dIsNot2 (.tup xs) .non=.ok (.fz (.bl true)):=rfl
theorem x_isNot_lst {xs:List D}:dIsNot2 (.lst xs) .non=.ok (.fz (.bl true)):=rfl
theorem x_isNot_int {j:Int}:dIsNot2 (.int j) .non=.ok (.fz (.bl true)):=rfl
end
end L3
namespace L3
open PySem
noncomputable def frzR (o:Option (Option En)) (i:Nat) (ρ:Rho):Rho:=match o with
 | some (some (.ow d))=>ρ.set i (some (.fz d))
 | _=>ρ
section
variable {i:Nat} {ρ:Rho} {a:SF} {d:D}
theorem x_frzS:sFrz i a ρ=a (frzR ρ[i]? i ρ):=by unfold sFrz frz frzR; rfl
theorem x_frzR_ow:frzR (some (some (.ow d))) i ρ=ρ.set i (some (.fz d)):=rfl
theorem x_frzR_fz:frzR (some (some (.fz d))) i ρ=ρ:=rfl
theorem x_frzR_br:frzR (some (some (.br d))) i ρ=ρ:=rfl
theorem x_frzR_lk:frzR (some (some (.lk d))) i ρ=ρ:=rfl
theorem x_frzR_no:frzR (some none) i ρ=ρ:=rfl
end
noncomputable def EV0:= And.intro @x_den
 (And.intro @x_fin_rt
 (And.intro @x_fin_nx
 (And.intro @List.map_cons.{0,0}
 (And.intro @List.map_nil.{0,0}
 (And.intro @List.length_cons.{0}
 (And.intro @List.length_nil.{0}
 (And.intro @List.replicate_succ.{0}
 (And.intro @List.replicate_zero.{0}
 (And.intro @List.cons_append.{0}
 (And.intro @List.nil_append.{0}
 (And.intro @Nat.zero_add
 (And.intro @x_th_nx
 (And.intro @x_th_rt
 (And.intro @x_th_bk
 (And.intro @x_th_ct
 (And.intro @x_th_stuck
 (And.intro @x_seq
 (And.intro @x_of_ok
 (And.intro @x_of_stuck
 (And.intro @x_pickS_t
 (And.intro @x_pickS_f
 (And.intro @x_pickE_t
 (And.intro @x_pickE_f
 (And.intro @x_pickT_t
 (And.intro @x_pickT_f
 (And.intro @x_kF
 (And.intro @x_kT
 (And.intro @x_kfB
 (And.intro @x_ktB
 (And.intro @x_set
 (And.intro @x_ret
 (And.intro @x_retV
 (And.intro @x_retR_fz
 (And.intro @x_retR_ow
 (And.intro @x_retN
 (And.intro @x_next
 (And.intro @x_break
 (And.intro @x_cont
 (And.intro @x_expr
 (And.intro @x_if
 (And.intro @x_nm_fz
 (And.intro @x_nm_ow
 (And.intro @x_st_fz
 (And.intro @x_st_ow
 (And.intro @x_arg_fz
 (And.intro @x_arg_ow
 (And.intro @x_arg_br
 (And.intro @x_d_fz
 (And.intro @x_d_ow
 (And.intro @x_d_br
 (And.intro @x_d_lk
 (And.intro @x_var
 (And.intro @x_varR_fz
 (And.intro @x_varR_ow
 (And.intro @x_varR_br
 (And.intro @x_varR_lk
 (And.intro @x_c
 (And.intro @x_op
 (And.intro @x_un
 (And.intro @x_evs_nil
 (And.intro @x_evs
 (And.intro @x_stA_nil
 (And.intro @x_stA
 (And.intro @x_argA_nil
 (And.intro @x_argA
 (And.intro @x_lst
 (And.intro @x_tup
 (And.intro @x_call
 (And.intro @x_B
 (And.intro @x_tE
 (And.intro @x_tNot
 (And.intro @x_tAnd
 (And.intro @x_tOr
 (And.intro @x_eNot
 (And.intro @x_eAnd
 (And.intro @x_eOr
 (And.intro @x_eIf
 (And.intro @x_isB
 (And.intro @x_truth_bl
 (And.intro @x_truth_int
 (And.intro @x_truth_lst
 (And.intro @x_truth_tup
 (And.intro @x_truth_non
 (And.intro @x_for
 (And.intro @x_add
 (And.intro @x_sub
 (And.intro @x_lt
 (And.intro @x_le
 (And.intro @x_gt
 (And.intro @x_ge
 (And.intro @x_eq
 (And.intro @x_ne
 (And.intro @x_neg
 (And.intro @x_len_l
 (And.intro @x_len_t
 (And.intro @x_list_l
 (And.intro @x_list_t
 (And.intro @x_tuple_l
 (And.intro @x_tuple_t
 (And.intro @x_min
 (And.intro @x_max
 (And.intro @x_ix_l
 (And.intro @x_ix_t
 (And.intro @x_ati0
 (And.intro @x_ati1
 (And.intro @x_ati2
 (And.intro @x_ati3
 (And.intro @x_okD
 (And.intro @x_is_int
 (And.intro @x_is_bool
 (And.intro @x_is_list
 (And.intro @x_is_tuple
 (And.intro @x_stuck
 (And.intro @x_gV
 (And.intro @x_dK
 (And.intro @x_dT
 (And.intro @x_b_ok
 (And.intro @x_b_stuck
 (And.intro @List.getElem?_cons_zero.{0}
 (And.intro @List.getElem?_cons_succ.{0}
 (And.intro @List.set_cons_zero.{0}
 (And.intro @List.set_cons_succ.{0}
 (And.intro @if_true.{1}
 (And.intro @Bool.not_true
 (And.intro @Bool.not_false
 (And.intro @ite_true.{1}
 (And.intro @x_mkL0
 (And.intro @x_mkL1
 (And.intro @x_mkL2
 (And.intro @x_mkL3
 (And.intro @x_mkL4
 (And.intro @x_mkL5
 (And.intro @x_mkL6
 (And.intro @x_mkL7
 (And.intro @x_mkL8
 (And.intro @x_mkL9
 (And.intro @x_mkL10
 (And.intro @x_mkL11
 (And.intro @x_mkL12
 (And.intro @x_mkL13
 (And.intro @x_mkL14
 (And.intro @x_mkL15
 (And.intro @x_mkL16
 (And.intro @x_mkT0
 (And.intro @x_mkT1
 (And.intro @x_mkT2
 (And.intro @x_mkT3
 (And.intro @x_mkT4
 (And.intro @x_mkT5
 (And.intro @x_asg
 (And.intro @x_gT
 (And.intro @x_gVs0
 (And.intro @x_gVs
 (And.intro @Int.cast_ofNat_Int
 (And.intro @x_addA
 (And.intro @x_lenA_l
 (And.intro @x_lenA_t
 (And.intro @x_lenA_dT
 (And.intro @x_sl
 (And.intro @x_oNo
 (And.intro @x_oE
 (And.intro @x_isI
 (And.intro @x_sl_l
 (And.intro @x_sl_t32
 (And.intro @x_chain
 (And.intro @x_chE
 (And.intro @eq_pair
 (And.intro @ne_pair
 (And.intro @x_aug
 (And.intro @x_augR
 (And.intro @x_maxD_nil
 (And.intro @x_isN_non
 (And.intro @x_isN_tup
 (And.intro @x_isN_lst
 (And.intro @x_isN_int
 (And.intro @x_isNot_non
 (And.intro @x_isNot_tup
 (And.intro @x_isNot_lst
 (And.intro @x_isNot_int
 (And.intro @x_frzS
 (And.intro @x_frzR_ow
 (And.intro @x_frzR_fz
 (And.intro @x_frzR_br
 (And.intro @x_frzR_lk
 (@x_frzR_no)))))))))))))))))))))))))))))))))))))))))))))))))))))))))))))))))))))))))))))))))))))))))))))))))))))))))))))))))))))))))))))))))))))))))))))))))))))))))))))))))))))))))))))))))))))))))
theorem EV:type_of% EV0:=EV0
end L3
set_option Elab.async false
set_option linter.all false
set_option maxRecDepth 100000
set_option maxHeartbeats 4000000
namespace L3
open PySem PySem.Spec PyProof.Rows L2
open PySem.Builtin PySem.Builtin.ObjectAttr
section
variable {prog:Program} {w:World} {A:Around} {E:Value→Shared→Prop} {s:Shared} {K:PySem.W.Frag} {x C:Addr} {vs:Array Value} {sl:Array (Option Value)} {cd:ClassData} {name:Str} {v:Value}
end
end L3
namespace L3
open PySem PySem.Spec PyProof.Rows L2
section
variable {prog:Program} {w:World} {A:Around} {E:Value→Shared→Prop} {s:Shared} {K:PySem.W.Frag} {C f:Addr} {rest:List Value} {R:Result→Shared→Prop}
end
end L3
namespace L3
open PySem PySem.Spec PyProof.Rows L2
section
variable {P:Program} {w:World} {K:PySem.W.Frag} {mg:Str→Option Value} {base:Heap}
end
end L3
namespace L3
open PySem PySem.Spec PyProof.Rows L2
end L3
namespace L3
open PySem PySem.Spec PyProof.Rows L2
section
variable {X:Cx} {F0 H0:Hp}
end
end L3
namespace L3
open PySem PySem.Spec PyProof.Rows L2
section
variable {prog:Program} {w:World} {A:Around} {E:Value→Shared→Prop} {s:Shared} {K:PySem.W.Frag} {C:Addr} {rest:List Value} {R:Result→Shared→Prop}
end
section
variable {X:Cx} {F0 H0:Hp}
end
end L3
namespace L3
open PySem PySem.Spec PyProof.Rows L2
noncomputable def CX1 (P:Program) (w:World) (mg:Str→Option Value):CXT:=fun outer H s E e s'=>∃ (x:Xc) (H':Hp) (a:Addr),e=.ref a∧Fl P w mg outer H s H' s' a x (some .none)∧E (.str x.cls 0) (atc x) H'
noncomputable def spX (κ:Kx) (dn:Den) (n:Nat):Sp:=fun vs H Q E=>vs.length=n∧∃ F ws,Le F H∧Args κ F H vs ws ∧
 KE (fun x=>∀ F' H',Gr F H F' H'→E (.str x.cls 0) (atc x) H') (dn ws) fun w=>∀ v F' H',Gr F H F' H'→Vok κ H F' H' v w→Q v H'
section
variable {P:Program} {w:World} {K:PySem.W.Frag} {mg:Str→Option Value} {base:Heap}
theorem calm {k:Nat} {f:Addr} {fd:FuncData} {ps:List Str} {κ:Kx} {dn:Den} {n:Nat} (G:FnOk P w K mg base (CX1 P w mg) k f fd ps (spX κ dn n)):FnOk P w K mg base CX0 k f fd ps (spD κ dn n):=by
 have imp:∀ vs H Q,spD κ dn n vs H Q E0→spX κ dn n vs H Q E0:=fun vs H Q q=>by
  obtain ⟨l,F,ws,a,b,c⟩:=q
  exact ⟨l,F,ws,a,b,KE.impX c (fun _ z=>z) fun _ z=>z.elim⟩
 refine ⟨fun vs H Q E q=>G.len vs H Q E0 (imp vs H Q q),fun A outer s H args us vs Q E hr e0 hb hv hs=>?_⟩
 refine codeAny_mono (G.run A outer s H args us vs Q E0 hr e0 hb hv (imp vs H Q hs)) fun r s' z=>?_
 cases r with
 | error e=>obtain ⟨_,_,_,_,_,z⟩:=z; exact z.elim
 | ok fl=>cases fl <;> exact z
end
section
variable {X:Cx} {F0 H0:Hp} {pos p pos2:Pos} {e:Expr} {es:List Expr} {fa:List EF} {x:Str} {k n:Nat} {f:Addr} {fd:FuncData} {ps:List Str} {dn:Den}
noncomputable def nrm (x:Xc):Xc:=⟨x.cls,match atc x with
 | none=>[]
 | some 0=>[("at",.non)]
 | some (n+1)=>[("at",.int n)]⟩
end
end L3
namespace L3
open PySem PySem.Spec PyProof.Rows L2
section
variable {M:Model} {A:Around} {E:Value→Shared→Prop} {s:Shared} {K:PySem.W.Frag} {C S e:Addr} {oe:Obj}
end
end L3
namespace L3
open PySem PySem.Spec PyProof.Rows L2
section
variable {X:Cx} {pins pn:List (Addr×Obj)} {σ:St} {H:Hp} {s:Shared} {E:Value→Shared→Prop} {e:Addr} {D:Ends} {fl:Flow}
end
end L3
namespace L3
open PySem PySem.Spec PyProof.Rows L2
section
variable {X:Cx} {F0 H0:Hp} {cN n:Str} {S:Addr} {i:Nat} {ex:Expr} {cs:List Str} {hd:Xc→R En} {cp rp hp:Pos}
end
end L3
namespace L3
open PySem PySem.Spec PyProof.Rows L2
section
variable {X:Cx} {F0 H0:Hp} {n:Str} {i:Nat} {cs:List Str} {rp np apos tp bp vp ip cp:Pos} {j1 j2:Nat}
end
end L3
set_option Elab.async false
set_option linter.all false
set_option maxRecDepth 100000
set_option maxHeartbeats 4000000
namespace L3
open PySem PySem.Spec PyProof.Rows L2
section
variable {X:Cx} {pins:List (Addr×Obj)} {σ:St} {H:Hp} {s:Shared} {h':Heap} {fp:List Addr} {t':Nat}
theorem ne_fp {b:Addr} {u:HO} (hf:∀ b∈fp,FpOk X pins H b) (hb:H b=some u):b ∉ fp:=fun z=>by rw [(hf b z).1] at hb; cases hb
theorem turnE (I:Inv X pins σ H s) (hf:∀ b∈fp,FpOk X pins H b) (k:∀ b o,b ∉ fp→s.heap.get? b=some o→h'.get? b=some o):Inv X pins σ H { s with heap:=h',toks:=t' }:=by
 refine I.call (ch:=fp) (g':=s.gens) (d':=s.drawn) ⟨fun b o e _ _ nc=>k b o nc e,fun b o e _ _ nc=>⟨o.slots,k b o nc e⟩,fun _ _ _ n _=>n,fun b o e nc=>⟨o,k b o nc e⟩,fun _ _ z=>z,fun _ _ _ z=>z,fun b ps z=>⟨#[],by rw [z]; simp⟩⟩ (fun b u hb=>?_) I.bare
  fun b hb=>⟨(hf b hb).2.2.2.1,(hf b hb).2.1,(hf b hb).2.2.2.2.1,(hf b hb).2.2.2.2.2⟩
 refine (I.hok b u hb).stay (fun d v hd q=>k d v ?_ q) (fun _ z=>z) fun _ _ z=>z
 rcases hd with rfl|z
 ·exact ne_fp hf hb
 ·exact ne_fp hf z
theorem turnT {T:Addr} {its:List Value} {xs:List V} (I:Inv X pins σ H s) (hf:∀ b∈fp,FpOk X pins H b) (k:∀ b o,b ∉ fp→s.heap.get? b=some o→h'.get? b=some o) (hT:s.heap.objs.size ≤ T) (tup:IsTup h' T its.toArray) (r:Vals xs its) (hz:xs.length ≤ sizeLine) :
  Inv X pins σ (upd H T (.tup xs)) { s with heap:=h',toks:=t' }:=by
 have nT:H T=none:=I.hok.fresh hT
 have ne:∀ b o,s.heap.get? b=some o→b≠T:=fun b o e z=>absurd (Nat.lt_of_lt_of_le (Heap.lt_size e) (z ▸ hT)) (Nat.lt_irrefl _)
 have up:∀ b u,H b=some u→upd H T (.tup xs) b=some u:=fun b u e=>by rw [upd_ne (ne_of_none e nT)]; exact e
 refine I.call (ch:=fp) (g':=s.gens) (d':=s.drawn) ⟨fun b o e _ _ nc=>k b o nc e,fun b o e _ _ nc=>⟨o.slots,k b o nc e⟩,fun b o e n _=>?_,fun b o e nc=>⟨o,k b o nc e⟩,fun b _ z=>up b _ z,fun b _ _ z=>up b _ z,fun b ps z=>⟨#[],by rw [up b _ z]; simp⟩⟩ (fun b u hb=>?_) I.bare
  fun b hb=>⟨(hf b hb).2.2.2.1,(hf b hb).2.1,(hf b hb).2.2.2.2.1,(hf b hb).2.2.2.2.2⟩
 ·rw [upd_ne (ne b o e)]; exact n
 ·by_cases z:b=T
  ·subst z
   rw [upd_same] at hb
   cases hb
   exact ⟨hz,its,r,tup⟩
  ·rw [upd_ne z] at hb
   refine (I.hok b u hb).stay (fun d v hd q=>k d v ?_ q) (fun c y=>up c _ y) fun c ys y=>up c _ y
   rcases hd with rfl|y
   ·exact ne_fp hf hb
   ·exact ne_fp hf y
end
noncomputable def Ite (K:PySem.W.Frag) (a:Addr):It :=
 ⟨fun i H=>∃ xs x,SqL K H a xs∧xs[i]?=some x,fun i H x H'=>∃ p y,H p=none∧x=.ref p∧H'=upd H p (.tup [.int i,y])∧∀ xs,SqL K H a xs→xs[i]?=some y,fun i H=>∃ xs,SqL K H a xs∧xs.length ≤ i⟩
theorem turn_enum {P:Program} {w:World} {K:PySem.W.Frag} {es:List Expr} {k:Nat} {tp:Pos} (a it e:Addr) (ne:e≠it) :
  Turn P w K (.Tuple es k tp) (Ite K a) [e,it] e (fun i h=>(∃ old,IsEnum h e it i old)∧h.IsListIter it a i) where
 mem:=by simp
 obj:=fun i h ⟨⟨old,he⟩,hi⟩ b hb=>by
  rcases List.mem_cons.mp hb with rfl|hb
  ·exact ⟨_,he,fun v z=>by cases z⟩
  ·obtain rfl:b=it:=by simpa using hb
   obtain ⟨o,e,c,d⟩:=hi
   exact ⟨o,e,fun v z=>by rw [d] at z; cases z⟩
 keep:=fun i h h' ⟨⟨old,he⟩,hi⟩ kk=>⟨⟨old,kk e (by simp) _ he⟩,hi.at fun o q=>kk it (by simp) o q⟩
 item:=by
  intro X hP hw hK hc i pins s σ H E I hf ⟨⟨old,he⟩,hi⟩ hg
  subst hP hw hK
  obtain ⟨xs,x,hq,hx⟩:=hg
  obtain ⟨its,rv,p,hz⟩:=I.list hq
  obtain ⟨u,hu,ru⟩:=rv.get hx
  refine wpAny_pyNext_enum_item he hi p.isList (x:=u) (by simpa using hu) ne fun h1 ho hi1 hT hsz hk=>⟨_,rfl,?_⟩
  refine wpAny_letOwnedTupleGo_enum (s:={ s with heap:=h1,toks:=s.toks+1 }) ho fun h2 he2 sb=>?_
  have neE:s.heap.objs.size≠e:=Nat.ne_of_gt (Heap.lt_size he)
  have T2:h2.get? s.heap.objs.size=some { cls:=.type "tuple",data:=.seq #[.int i s.toks,u] }:=(sb.2 _ neE).trans hT
  refine ⟨.ref s.heap.objs.size,upd H s.heap.objs.size (.tup [.int i,x]),turnT (s:=s) (t':=s.toks+1) (its:=[.int i s.toks,u]) I hf (fun b o nb ho=>?_) (Nat.le_refl _) ⟨_,T2,rfl,_,rfl⟩ (.cons ⟨_,rfl⟩ (.cons ru .nil)) (by simp [sizeLine_eq]),rfl,
   ⟨_,x,I.hok.fresh (Nat.le_refl _),rfl,rfl,fun ys hy=>by rw [I.list_inj hy hq]; exact hx⟩,⟨⟨u,by simpa using he2⟩,hi1.at fun o q=>(sb.2 it (Ne.symm ne)).trans q⟩,fun b hb=>?_⟩
  ·have nb1:b≠e:=fun z=>nb (by simp [z])
   have nb2:b≠it:=fun z=>nb (by simp [z])
   exact (sb.2 b nb1).trans (hk b o nb1 nb2 ho)
  ·rw [upd_ne]
   ·exact (hf b hb).1
   ·rcases List.mem_cons.mp hb with rfl|hb
    ·exact Ne.symm neE
    ·obtain rfl:b=it:=by simpa using hb
     obtain ⟨o,q,_⟩:=hi
     exact Nat.ne_of_lt (Heap.lt_size q)
 done:=by
  intro X hP hw hK hc i pins s σ H E I hf ⟨⟨old,he⟩,hi⟩ hg
  subst hP hw hK
  obtain ⟨xs,hq,hx⟩:=hg
  obtain ⟨its,rv,p,hz⟩:=I.list hq
  have hl:=rv.length
  refine wpAny_pyNext_enum_end (I.ok.hd hc) he hi p.isList (by simp; (first|lia|omega)) fun h1 eb=>⟨rfl,turnE (t':=s.toks) I hf fun b o nb ho=>eb b o (fun z=>nb (by simp [z])) ho⟩
 self:=fun _ _ _ _ _ ⟨⟨old,he⟩,_⟩ h=>wpAny_pyIter_enum he h
noncomputable def numd:Nat→List D→List D
 | _,[]=>[]
 | n,d::r=>.tup [.int n,d]::numd (n+1) r
theorem numd_get:∀ (ds:List D) (n i:Nat) (x:D),(numd n ds)[i]?=some x→∃ d,ds[i]?=some d∧x=.tup [.int (n+i:Nat),d]
 | [],_,_,_,h=>by simp [numd] at h
 | d::r,n,0,x,h=>by simp [numd] at h; exact ⟨d,rfl,by rw [← h]; rfl⟩
 | d::r,n,i+1,x,h=>by
  obtain ⟨y,e1,e2⟩:=numd_get r (n+1) i x (by simpa [numd] using h)
  exact ⟨y,by simpa using e1,by rw [e2]; congr 3; (first|lia|omega)⟩
theorem numd_len:∀ (ds:List D) (n:Nat),(numd n ds).length=ds.length
 | [],_=>rfl
 | d::r,n=>by simp [numd,numd_len r]
theorem walk_enum {κ:Kx} {F1 G:Hp} {a:Addr} {vs:List V} {ds:List D} (hq:∀ F H,Le F1 F→Le F H→Le G H→SqL κ.K H a vs) (rs:Reps κ F1 vs ds):Walk κ (Ite κ.K a) F1 G (numd 0 ds) where
 go:=fun i x F H ed l1 l lg=>by
  obtain ⟨d,e1,rfl⟩:=numd_get ds 0 i x ed
  obtain ⟨v,ev,rv⟩:=Reps.get rs e1
  have q:=hq F H l1 l lg
  refine ⟨⟨vs,v,q,ev⟩,fun y H' z=>?_⟩
  obtain ⟨p,y,hp,rfl,rfl,w⟩:=z
  have:=w vs q
  rw [ev] at this
  cases this
  refine ⟨_,Gr.newF (o:=.tup [.int i,v]) l hp,p,[.int i,v],rfl,.inl (.inl upd_same),?_⟩
  exact ⟨_,_,rfl,by rw [Nat.zero_add]; rfl,_,_,rfl,Rep.le (fun b o z=>by rw [upd_ne (ne_of_none z (Le.none l hp))]; exact z) d (Rep.le l1 d rv),rfl⟩
 stop:=fun i F H hi l1 l lg=>⟨vs,hq F H l1 l lg,by rw [Reps.length rs]; rw [numd_len] at hi; exact hi⟩
noncomputable def iEnum (i:Nat):IF:=fun ρ=>match ρ[i]? with
 | some (some (.fz (.lst ds)))=>.ok (numd 0 ds)
 | some (some (.br (.lst ds)))=>.ok (numd 0 ds)
 | _=>.stuck
theorem si_enum (i:Nat) {X:Cx} {F0 H0:Hp} {es:List Expr} {k:Nat} {x:Str} {tp pos np cp:Pos} (hm:X.mg "enumerate"=none) (hN:X.N[i]?=some x:=by rfl) (hv:Vis X.env.scope x:=by trivial) (hd:(x == ("__debug__":Str))=false:=by decide)
  (hcd:(x == ("__classdict__":Str))=false:=by decide) (hg:Gl X "enumerate":=by rfl) (hs:starEach [.Name x pos] X.env=[(false,eval (.Name x pos) X.env)]:=by rfl) :
  SI X F0 H0 (.Tuple es k tp) (.Call (.Name "enumerate" np) [.Name x pos] [] cp) (iEnum i):=by
 refine ⟨fun σ H R=>∃ a,σ[i]?=some (some (.ref a))∧(∃ xs,SqL X.K H a xs)∧R (Ite X.K a) H,fun pins s σ H R I ⟨a,hσ,⟨xs,hq⟩,hR⟩=>?_,fun σ F H ρ R S h=>?_⟩
 ·refine Call_ (ld_blt I hg hm boot_enumerate (PyProof.Rows.callWith_type1 ?_ hs rfl))
  rw [hs]
  refine Calls.spliced_cons (thn (pe_var (pos:=pos) hN hv hd hcd pins s σ H (fun v' H'=>v'=.ref a∧H'=H) I ⟨_,hσ,rfl,rfl⟩) fun u s1 ⟨v1,H1,I1,r1,e1,e2⟩=>?_)
  subst e1 e2
  obtain rfl:u=Value.ref a:=r1
  refine Calls.spliced_nil ?_
  obtain ⟨its,rv,p,hz⟩:=I1.list hq
  refine call_enumerate_list p.isList fun h' he hi hsz kp=>?_
  refine wpAny_pyIter_enum (s:={ s1 with heap:=h' }) he ?_
  refine ⟨_,_,_,_,H1,rfl,I1.kept (t':=s1.toks) kp,turn_enum a s1.heap.objs.size (s1.heap.objs.size+1) (Nat.ne_of_gt (Nat.lt_succ_self _)),⟨⟨_,he⟩,hi⟩,fun b hb=>?_,hR⟩
  have lb:s1.heap.objs.size ≤ b:=by
   rcases List.mem_cons.mp hb with rfl|hb
   ·exact Nat.le_succ _
   ·obtain rfl:b=s1.heap.objs.size:=by simpa using hb
    exact Nat.le_refl _
  exact I1.fpOk lb (I1.hok.fresh lb)
 ·unfold iEnum at h
  cases ew:ρ[i]? with
  | none=>rw [ew] at h; exact h.elim
  | some w =>
   rw [ew] at h
   cases w with
   | none=>exact h.elim
   | some w =>
    obtain ⟨v,e1,q⟩:=S.val i w ew
    cases w with
    | ow d=>exact h.elim
    | lk d=>exact h.elim
    | od d=>exact h.elim
    | fz d =>
     cases d <;> first|exact h.elim|skip
     obtain ⟨a,vs,rfl,hq,rs⟩:=q
     exact ⟨a,e1,⟨vs,SqL.le S.s hq⟩,h F H _ (Gr.refl S.s) (walk_enum (κ:=kx X) (fun F' H' l1 l _=>SqL.le l (SqL.le l1 hq)) rs)⟩
    | br d =>
     obtain ⟨a,o,rfl,eh,ro⟩:=q
     cases d <;> first|exact h.elim|skip
     cases o <;> first|exact ro.elim|skip
     exact ⟨a,e1,⟨_,SqL.of (S.gr.h _ _ eh)⟩,h F H _ (Gr.refl S.s) (walk_enum (κ:=kx X) (fun F' H' _ _ lg=>SqL.le lg (SqL.of eh)) ro)⟩
end L3
set_option Elab.async false
set_option linter.all false
set_option maxRecDepth 100000
set_option maxHeartbeats 4000000
namespace L3
open PySem PySem.Spec PyProof.Rows L2
section
variable {prog:Program} {w:World} {A:Around} {E:Value→Shared→Prop} {s:Shared}
end
section
variable {prog:Program} {w:World} {A:Around} {E:Value→Shared→Prop} {s:Shared}
end
end L3
set_option Elab.async false
set_option linter.all false
set_option maxRecDepth 100000
set_option maxHeartbeats 4000000
namespace L3
open PySem PySem.Spec PyProof.Rows L2
section
variable {X:Cx}
end
section
variable {X:Cx}
theorem cd_tuple:CallD X (.type "tuple") dTuple:=calld_of call_tuple_of fun F H xs ds Q l qx w=>by
 cases qx with
 | nil=>exact w.elim
 | @cons x d xs ds q1 q2 =>
  cases q2 with
  | cons _ _=>cases d <;> exact w.elim
  | nil =>
   cases d <;> first|exact w.elim|skip
   ·obtain ⟨p,vs,rfl,hq,hq2,rs⟩:=RdV.tup l q1
    exact ⟨p,vs,rfl,.inr ⟨hq,w _ F H (Gr.refl l) ⟨p,vs,rfl,hq2,rs⟩⟩⟩
   ·obtain ⟨p,vs,rfl,hq,rs⟩:=RdV.lst l q1
    refine ⟨p,vs,rfl,.inl ⟨hq,fun q hn=>?_⟩⟩
    have up:Le F (upd F q (.tup vs)):=fun c o z=>by rw [upd_ne (ne_of_none z (Le.none l hn))]; exact z
    exact w _ _ _ (Gr.newF (o:=.tup vs) l hn) ⟨q,vs,rfl,.inl (.inl upd_same),Reps.le up _ rs⟩
end
end L3
namespace L3
open PySem PySem.Spec PyProof.Rows L2
section
variable {prog:Program} {w:World} {A:Around} {E:Value→Shared→Prop} {s:Shared} {I l:Addr} {items:Array Value}
end
section
variable {X:Cx} {F0 H0:Hp} {p p2 c1 c2:Pos}
end
end L3
namespace L3
open PySem PySem.Spec PyProof.Rows L2
section
variable {X:Cx}
end
section
variable {X:Cx} {F0 H0:Hp} {pos:Pos}
end
section
open PySem.SeqAt PySem.MeetsSeq PySem.MeetsSeq2 PySem.MeetsSeq3
open PySem.AutoSeq1 (wpAny_loadPart')
end
section
variable {X:Cx}
end
end L3
set_option Elab.async false
set_option linter.all false
set_option maxRecDepth 100000
set_option maxHeartbeats 4000000
namespace L3
open PySem PySem.Spec PyProof.Rows L2
noncomputable def fzIn (F H:Hp) (bs:List Addr):Hp:=fun a=>if a∈bs then H a else F a
section
variable {κ:Kx} {F0 H0 F H:Hp} {ρ:Rho} {σ:St}
theorem Inn.repT {G:Hp}:∀ {bs:List Addr} {kds:List (List (Sum Int Str)×D)},Inn κ H0 F H bs (kds.map Prod.snd)→(∀ b∈bs,G b=H b)→Le F G→RepT κ G ((kds.map Prod.fst).zip (bs.map V.ref)) kds
 | [],[],_,_,_=>rfl
 | [],_::_,h,_,_=>h.elim
 | _::_,[],h,_,_=>h.elim
 | b::bs,(k0,e)::es,h,k,l=>by
  obtain ⟨⟨us,xs,e1,_,_,hh,r⟩,h⟩:=h
  simp only at e1
  subst e1
  exact ⟨.ref b,(es.map Prod.fst).zip (bs.map V.ref),rfl,⟨b,us,rfl,SqL.of ((k b (by simp)).trans hh),Reps.le l _ r⟩,Inn.repT h (fun c m=>k c (List.mem_cons_of_mem _ m)) l⟩
theorem Inn.len:∀ {bs:List Addr} {ds:List D},Inn κ H0 F H bs ds→bs.length=ds.length
 | [],[],_=>rfl
 | [],_::_,h=>h.elim
 | _::_,[],h=>h.elim
 | b::bs,e::es,h=>by rw [List.length_cons,List.length_cons,Inn.len h.2]
theorem StOk.shutG {i:Nat} {d d':D} (S:StOk κ F0 H0 F H ρ σ) (ei:ρ[i]?=some (some (.od d)))
  (ow:∀ a bs o,Deep κ H0 F H a bs d→(∀ c∈bs,fzIn F H bs c=H c)→Le F (fzIn F H bs)→H a=some o→OwnO κ (fzIn F H bs) o d'):∃ F',Le F F'∧StOk κ F0 H0 F' H (ρ.set i (some (.ow d'))) σ:=by
 obtain ⟨sh,a,bs,si,h0,hf,nd,dp,sp⟩:=S.dp i d ei
 have na:a ∉ bs:=(List.nodup_cons.mp nd).1
 have out:∀ {c},c ∉ bs→fzIn F H bs c=F c:=fun {c} n=>if_neg n
 have inn:∀ {c},c∈bs→fzIn F H bs c=H c:=fun {c} n=>if_pos n
 have l:Le F (fzIn F H bs):=fun c u h=>by
  by_cases m:c∈bs
  ·rw [inn m]; exact S.s c u h
  ·rw [out m]; exact h
 have own:∀ {o:HO},H a=some o→OwnO κ (fzIn F H bs) o d':=fun {o} ho=>ow a bs o dp (fun c m=>inn m) l ho
 refine ⟨fzIn F H bs,l,⟨⟨Le.trans S.gr.f l,S.gr.h,fun c u h=>?_,fun c h=>?_⟩,by simpa using S.len,fun j w e=>?_,fun j k w w' c hjk ej ek oj ok sj sk=>?_,fun j y e=>?_⟩⟩
 ·by_cases m:c∈bs
  ·rw [inn m] at h; exact h
  ·rw [out m] at h; exact S.s c u h
 ·by_cases m:c∈bs
  ·obtain ⟨us,z,_⟩:=Deep.inn dp m
   exact .inr (.inl z)
  ·rw [out m] at h; exact S.gr.n c h
 ·rcases set_get e with ⟨rfl,z⟩|⟨ne,z⟩
  ·cases z
   obtain ⟨o,ho,_⟩:=Deep.top dp
   exact ⟨_,si,a,o,rfl,h0,by rw [out na]; exact hf,ho,own ho⟩
  ·obtain ⟨v,e1,q⟩:=S.val j w z
   refine ⟨v,e1,?_⟩
   have nb:∀ {c},v=.ref c→w.own=true→c ∉ bs:=fun {c} ev ow m=>by
    subst ev
    exact sp j w c ne z ow (List.mem_cons_of_mem _ m) e1
   cases w with
   | fz d=>exact Rep.le l d q
   | br d=>obtain ⟨c,oc,ec,eh,cr⟩:=q; exact ⟨c,oc,ec,eh,OwnO.le l cr⟩
   | ow d=>obtain ⟨c,oc,ec,c0,cf,ch,cr⟩:=q; exact ⟨c,oc,ec,c0,by rw [out (nb ec rfl)]; exact cf,ch,OwnO.le l cr⟩
   | lk d=>exact ⟨Rep.le l d q.1,RawT.le l q.2⟩
   | od d=>exact (sh j d ne z).elim
 ·have at_:∀ {m:Nat} {y:En},(ρ.set i (some (.ow d')))[m]?=some (some y)→y.own=true→∃ y',ρ[m]?=some (some y')∧y'.own=true:=fun {m y} h oy=>by
   rcases set_get h with ⟨rfl,_⟩|⟨_,z⟩
   ·exact ⟨_,ei,rfl⟩
   ·exact ⟨y,z,oy⟩
  obtain ⟨y,ej',oj'⟩:=at_ ej oj
  obtain ⟨y',ek',ok'⟩:=at_ ek ok
  exact S.sep j k y y' c hjk ej' ek' oj' ok' sj sk
 ·rcases set_get e with ⟨_,z⟩|⟨ne,z⟩
  ·cases z
  ·exact (sh j y ne z).elim
theorem StOk.shut {i:Nat} {d:D} (S:StOk κ F0 H0 F H ρ σ) (ei:ρ[i]?=some (some (.od d))) (nk:∀ k,d≠.dK k) (nt:∀ k,d≠.tup k):∃ F',Le F F'∧StOk κ F0 H0 F' H (ρ.set i (some (.ow d))) σ :=
 S.shutG ei fun a bs o dp inn l ho=>by
  cases d <;> first|exact (False.elim dp)|exact (nk _ rfl).elim|exact (nt _ rfl).elim|skip
  ·have e:=dp.1
   rw [ho] at e
   cases e
   exact Inn.reps dp.2 (fun b m=>inn b m) l
  ·have e:=dp.1
   rw [ho] at e
   cases e
   exact Inn.repT dp.2 (fun b m=>inn b m) l
noncomputable def shalB (i:Nat) (ρ:Rho):Bool:=(ρ.set i none).all fun o=>match o with|some (.od _)=>false|_=>true
theorem shal_of {i:Nat} (h:shalB i ρ=true):shal i ρ:=fun j d hj e=>by
 have m:(ρ.set i none)[j]?=some (some (.od d)):=by rw [List.getElem?_set_ne (Ne.symm hj)]; exact e
 have:=List.all_eq_true.mp h _ (List.mem_of_getElem? m)
 cases this
theorem StOk.turn {i:Nat} {d d':D} {a:Addr} {bs bs':List Addr} {H':Hp} (S:StOk κ F0 H0 F H ρ σ) (ei:ρ[i]?=some (some (.od d))) (si:σ[i]?=some (some (.ref a))) (sh:shal i ρ)
  (sp:∀ (j:Nat) (w:En) (b:Addr),j≠i→ρ[j]?=some (some w)→w.own=true→b∈a::bs→σ[j]?≠some (some (.ref b)))
  (same:∀ c,c ∉ a::bs'→H' c=H c) (sub:∀ b∈bs',b∈bs∨∀ (j:Nat) (w:En),ρ[j]?=some (some w)→w.own=true→σ[j]?≠some (some (.ref b)))
  (h0:∀ c∈a::bs',H0 c=none) (hf:∀ c∈a::bs',F c=none) (nd:(a::bs').Nodup) (dp:Deep κ H0 F H' a bs' d'):StOk κ F0 H0 F H' (ρ.set i (some (.od d'))) σ:=by
 have sp':∀ (j:Nat) (w:En) (b:Addr),j≠i→ρ[j]?=some (some w)→w.own=true→b∈a::bs'→σ[j]?≠some (some (.ref b)):=fun j w b hj ej ow m=>by
  rcases List.mem_cons.mp m with rfl|m
  ·exact sp j w _ hj ej ow (by simp)
  ·rcases sub b m with z|z
   ·exact sp j w b hj ej ow (List.mem_cons_of_mem _ z)
   ·exact z j w ej ow
 have at_:∀ {m:Nat} {y:En},(ρ.set i (some (.od d')))[m]?=some (some y)→y.own=true→∃ y',ρ[m]?=some (some y')∧y'.own=true:=fun {m y} h oy=>by
  rcases set_get h with ⟨rfl,_⟩|⟨_,z⟩
  ·exact ⟨_,ei,rfl⟩
  ·exact ⟨y,z,oy⟩
 have out0:∀ {c u},H0 c=some u→c ∉ a::bs':=fun {c u} e m=>by rw [h0 c m] at e; cases e
 have outF:∀ {c u},F c=some u→c ∉ a::bs':=fun {c u} e m=>by rw [hf c m] at e; cases e
 refine ⟨⟨S.gr.f,fun c u h=>(same c (out0 h)).trans (S.gr.h c u h),fun c u h=>(same c (outF h)).trans (S.s c u h),S.gr.n⟩,by simpa using S.len,fun j w e=>?_,fun j k w w' c hjk ej ek oj ok sj sk=>?_,fun j y e=>?_⟩
 ·rcases set_get e with ⟨rfl,z⟩|⟨ne,z⟩
  ·cases z
   obtain ⟨o,ho,nt⟩:=Deep.top dp
   exact ⟨_,si,a,o,rfl,h0 a (by simp),hf a (by simp),ho,nt⟩
  ·obtain ⟨v,e1,q⟩:=S.val j w z
   refine ⟨v,e1,?_⟩
   have nb:∀ {c},v=.ref c→w.own=true→c ∉ a::bs':=fun {c} ev ow m=>by
    subst ev
    exact sp' j w c ne z ow m e1
   cases w with
   | fz d=>exact q
   | br d=>exact q
   | ow d=>obtain ⟨c,oc,ec,c0,cf,ch,cr⟩:=q; exact ⟨c,oc,ec,c0,cf,(same c (nb ec rfl)).trans ch,cr⟩
   | lk d=>exact q
   | od d=>exact (sh j d ne z).elim
 ·obtain ⟨y,ej',oj'⟩:=at_ ej oj
  obtain ⟨y',ek',ok'⟩:=at_ ek ok
  exact S.sep j k y y' c hjk ej' ek' oj' ok' sj sk
 ·rcases set_get e with ⟨rfl,z⟩|⟨ne,z⟩
  ·cases z
   refine ⟨fun k z hk ek=>?_,a,bs',si,h0 a (by simp),hf a (by simp),nd,dp,fun k w b hk ek ok m=>?_⟩
   ·rcases set_get ek with ⟨rfl,_⟩|⟨_,q⟩
    ·exact hk rfl
    ·exact sh k z hk q
   ·rcases set_get ek with ⟨rfl,_⟩|⟨_,q⟩
    ·exact (hk rfl).elim
    ·exact sp' k w b hk q ok m
  ·exact (sh j y ne z).elim
theorem Inn.app {b:Addr} {y:V} {d:D} (ry:Rep κ F y d):∀ {bs:List Addr} {ds:List D} {k:Nat},Inn κ H0 F H bs ds→bs.Nodup→bs[k]?=some b →
  ∃ us xs,ds[k]?=some (.lst xs)∧H b=some (.lst us)∧us.length=xs.length∧Inn κ H0 F (upd H b (.lst (us++[y]))) bs (ds.set k (.lst (xs++[d])))
 | [],_,_,_,_,e=>by simp at e
 | _::_,[],_,h,_,_=>h.elim
 | c::bs,e::es,0,h,nd,ek=>by
  obtain ⟨⟨us,xs,e1,c0,cf,ch,r⟩,h⟩:=h
  obtain rfl:c=b:=by simpa using ek
  subst e1
  have nb:=(List.nodup_cons.mp nd).1
  refine ⟨us,xs,rfl,ch,Reps.length r,⟨us++[y],xs++[d],rfl,c0,cf,upd_same,Reps.append r (Reps.one ry)⟩,?_⟩
  exact Inn.same (G:=H) (G':=H) (fun x m=>(upd_ne fun z:x=c=>nb (by rw [← z]; exact m)).symm) (fun _ _ z=>z) Le.refl h
 | c::bs,e::es,k+1,h,nd,ek=>by
  obtain ⟨⟨us,xs,e1,c0,cf,ch,r⟩,h⟩:=h
  obtain ⟨nb,nd⟩:=List.nodup_cons.mp nd
  obtain ⟨us2,xs2,q1,q2,q3,q4⟩:=Inn.app ry (k:=k) h nd (by simpa using ek)
  have mb:b∈bs:=List.mem_of_getElem? (i:=k) (by simpa using ek)
  exact ⟨us2,xs2,by simpa using q1,q2,q3,⟨us,xs,e1,c0,cf,(upd_ne fun z:c=b=>nb (by rw [z]; exact mb)).trans ch,r⟩,q4⟩
theorem Inn.snoc {b:Addr} {us:List V} {xs:List D} (h0:H0 b=none) (hf:F b=none) (hh:H b=some (.lst us)) (r:Reps κ F us xs):∀ {bs:List Addr} {ds:List D},Inn κ H0 F H bs ds→Inn κ H0 F H (bs++[b]) (ds++[.lst xs])
 | [],[],_=>⟨⟨us,xs,rfl,h0,hf,hh,r⟩,trivial⟩
 | [],_::_,h=>h.elim
 | _::_,[],h=>h.elim
 | _::_,_::_,h=>⟨h.1,Inn.snoc h0 hf hh r h.2⟩
end
section
variable {X:Cx} {F0 H0:Hp} {pos pos':Pos}
noncomputable def shut (i:Nat) (ρ:Rho):Rho:=match ρ[i]? with
 | some (some (.od (.dK _)))=>ρ
 | some (some (.od (.tup _)))=>ρ
 | some (some (.od d))=>ρ.set i (some (.ow d))
 | _=>ρ
noncomputable def sShut (i:Nat) (s:SF):SF:=fun ρ=>s (shut i ρ)
theorem ss_shut {st:Stmt} {f:SF} (i:Nat) (h:SS X F0 H0 st f):SS X F0 H0 st (sShut i f):=by
 intro pins s σ F H ρ D S I k
 unfold sShut L3.shut at k
 split at k
 ·exact h pins s σ F H ρ D S I k
 ·exact h pins s σ F H ρ D S I k
 ·rename_i d nk nt e
  obtain ⟨F',l,S'⟩:=S.shut e (fun k z=>nk k (by rw [z])) (fun k z=>nt k (by rw [z]))
  exact h pins s σ F' H _ D S' I (PostS.le l k)
 ·exact h pins s σ F H ρ D S I k
end
noncomputable def appIxO (i:Nat) (ρ:Rho) (ds:List D) (k:Nat) (d:D):Option D→Out
 | some (.lst xs)=>if xs.length < sz then .nx (ρ.set i (some (.od (.lst (ds.set k (.lst (xs++[d]))))))) else .stuck
 | _=>.stuck
noncomputable def appIxR (i:Nat) (ρ:Rho) (ds:List D):En→En→Out
 | .fz (.int k),.fz d=>if 0 ≤ k then appIxO i ρ ds k.toNat d ds[k.toNat]? else .stuck
 | _,_=>.stuck
noncomputable def sAppIx (i:Nat) (ek e:EF):SF:=fun ρ=>match ρ[i]? with
 | some (some (.od (.lst ds)))=>sOf (ek ρ) fun wk=>sOf (e ρ) fun w=>appIxR i ρ ds wk w
 | _=>.stuck
theorem appIx_fact {i:Nat} {ρ:Rho} {ds:List D} {P:Out→Prop} (hP:P .stuck→False):∀ {wk w:En},P (appIxR i ρ ds wk w)→∃ (kk:Int) (xs:List D),wk=.fz (.int kk)∧0 ≤ kk∧ds[kk.toNat]?=some (.lst xs)∧xs.length < sz:=by
 intro wk w k
 have go:∀ (kk:Int) (d:D),P (appIxR i ρ ds (.fz (.int kk)) (.fz d))→0 ≤ kk∧∃ xs,ds[kk.toNat]?=some (.lst xs)∧xs.length < sz:=fun kk d k=>by
  unfold appIxR at k
  dsimp only at k
  by_cases c:0 ≤ kk
  ·rw [if_pos c] at k
   refine ⟨c,?_⟩
   generalize ds[kk.toNat]?=o at k
   cases o with
   | none=>exact (hP k).elim
   | some y =>
    cases y with
    | lst xs =>
     unfold appIxO at k
     dsimp only at k
     by_cases c2:xs.length < sz
     ·exact ⟨xs,rfl,c2⟩
     ·rw [if_neg c2] at k; exact (hP k).elim
    | _=>exact (hP k).elim
  ·rw [if_neg c] at k; exact (hP k).elim
 cases wk with
 | fz d =>
  cases d with
  | int kk =>
   cases w with
   | fz y=>obtain ⟨c,xs,h1,h2⟩:=go kk y k; exact ⟨kk,xs,rfl,c,h1,h2⟩
   | _=>exact (hP k).elim
  | _=>exact (hP k).elim
 | _=>exact (hP k).elim
section
variable {X:Cx} {F0 H0:Hp} {pos:Pos}
theorem ss_appIx (i:Nat) {x:Str} {apos cpos np xp:Pos} {ek e:Expr} {fk f:EF} (hk:SE X F0 H0 ek fk) (he:SE X F0 H0 e f) (hsx:PlainIx ek:=by exact fun _ _=>rfl) (hN:X.N[i]?=some x:=by rfl) (hv:Vis X.env.scope x:=by trivial) (hd:(x == ("__debug__":Str))=false:=by decide)
  (hcd:(x == ("__classdict__":Str))=false:=by decide) (hbase:attributeBase (.Subscript (.Name x np) ek xp) "append" X.env (eval (.Subscript (.Name x np) ek xp) X.env)=eval (.Subscript (.Name x np) ek xp) X.env:=by rfl)
  (hfew:((backTo cpos (starEach [e] X.env)).all (fun x=>!x.1) && (backToKw cpos (keywordEach [] X.env)).all (fun x=>x.1.isSome)
   && decide ([e].length+([]:List Keyword).length+(if ([]:List Keyword).isEmpty then 0 else 1) < 30))=true:=by rfl)
  (hline:(apos.endLine == cpos.line)=true:=by rfl) (hst:starEach [e] X.env=(false,eval e X.env)::starEach [] X.env:=by rfl) (hplain:(backTo cpos (starEach [] X.env)).any (·.1)=false:=by rfl)
  (hs:swapsWith (.Call (.Attribute (.Subscript (.Name x np) ek xp) "append" apos) [e] [] cpos) none pos.line X.env=pure false:=by rfl) :
  SS X F0 H0 (.Expr (.Call (.Attribute (.Subscript (.Name x np) ek xp) "append" apos) [e] [] cpos) pos) (sAppIx i fk f):=by
 intro pins s σ F H ρ D S I h
 unfold sAppIx at h
 split at h
 ·rename_i ds ei
  have h:=PostS.of h
  obtain ⟨sh,a,bs,si,h0,hf,nd,dp,sp⟩:=S.dp i _ ei
  have P:=ps_expr (pos:=pos) (pe_bm (X:=X) PySem.F.plainAttrs_list PySem.F.slot_list_append PySem.F.type_list_append mt_append (pe_ix (pos:=xp) ix_list (pe_var (pos:=np) hN hv hd hcd) (pe_sem (e:=ek)) hsx) (pa_cons (pe_sem (e:=e)) pa_nil hst) hbase hfew hline hst hplain) hs
  refine P pins s σ H D I ⟨_,si,hk.sem S (h.imp fun wk k y F1 H1 g1 q1=>?_)⟩
  have k:=PostS.of k
  have fact:∃ (kk:Int) (xs:List L3.D),wk=.fz (.int kk)∧0 ≤ kk∧ds[kk.toNat]?=some (.lst xs)∧xs.length < sz:=by
   cases fe:f ρ with
   | exc _=>rw [fe] at k; exact k.elim
   | stuck=>rw [fe] at k; exact k.elim
   | ok w =>
    rw [fe] at k
    exact appIx_fact (P:=PostS X F0 H0 F D) (fun z=>z) k
  obtain ⟨kk,xs,rfl,c0,ed,c2⟩:=fact
  obtain rfl:y=V.int kk:=q1
  have lb:bs.length=ds.length:=Inn.len dp.2
  have kl:kk.toNat < bs.length:=by rw [lb]; exact (List.getElem?_eq_some_iff.mp ed).1
  have eb:bs[kk.toNat]?=some bs[kk.toNat]:=List.getElem?_eq_getElem kl
  generalize bs[kk.toNat]=b at eb
  have mb:b∈bs:=List.mem_of_getElem? eb
  have at_:atI (bs.map V.ref) kk=some (.ref b):=by
   unfold atI ixN
   rw [if_pos c0,if_pos (by rw [List.length_map]; (first|lia|omega)),Option.bind_some,List.getElem?_map,eb]
   rfl
  obtain ⟨us0,_,_,hb⟩:=Deep.inn dp mb
  refine ⟨a,bs.map V.ref,kk,.ref b,rfl,rfl,SqL.of (g1.h _ _ dp.1),at_,.inl ⟨rfl,us0,SqL.of (g1.h _ _ hb)⟩,he.sem (S.grow g1) (k.imp fun w k y F2 H2 g2 q2=>?_)⟩
  cases w <;> first|exact k.elim|skip
  rename_i d
  unfold appIxR at k
  dsimp only at k
  rw [if_pos c0,ed] at k
  unfold appIxO at k
  dsimp only at k
  rw [if_pos c2] at k
  have G:=g1.trans g2
  obtain ⟨ndA,ndB⟩:=List.nodup_cons.mp nd
  obtain ⟨us,xs',e1,e2,e3,inn⟩:=Inn.app (y:=y) (d:=d) q2 (Inn.gr G dp.2) ndB eb
  rw [ed] at e1
  cases e1
  refine ⟨b,us,y,rfl,rfl,e2,by rw [e3,← sz_eq]; exact c2,?_⟩
  refine k σ _ _ G.f ((S.grow G).turn (bs:=bs) (bs':=bs) ei si sh sp (fun z hz=>upd_ne fun e=>hz (by rw [e]; exact List.mem_cons_of_mem _ mb)) (fun z hz=>.inl hz) (fun z hz=>?_) (fun z hz=>?_) nd ⟨?_,inn⟩)
  ·rcases List.mem_cons.mp hz with rfl|hz
   ·exact h0
   ·obtain ⟨_,e4,_⟩:=Deep.inn dp hz; exact e4
  ·rcases List.mem_cons.mp hz with rfl|hz
   ·exact G.no hf dp.1
   ·obtain ⟨_,_,e4,e5⟩:=Deep.inn dp hz; exact G.no e4 e5
  ·exact (upd_ne fun e=>ndA (by rw [e]; exact mb)).trans (G.h _ _ dp.1)
 ·exact h.elim
end
end L3
set_option Elab.async false
set_option linter.all false
set_option maxRecDepth 100000
set_option maxHeartbeats 4000000
namespace L3
open PySem PySem.Spec PyProof.Rows L2
section
variable {prog:Program} {w:World} {K:Type} [DecidableEq K] {knd:HeapKind prog w K} {A:Around} {E:Value→Shared→Prop} {s:Shared} {d a:Addr} {k:K} {xs:List (K×Addr×Value)} {dv:Value}
end
section
variable {X:Cx}
end
noncomputable def short:D→Bool
 | .lst xs=>decide (xs.length < sz)
 | _=>false
section
variable {X:Cx} {F0 H0:Hp} {pos:Pos}
end
section
variable {prog:Program} {w:World} {A:Around} {E:Value→Shared→Prop} {s:Shared} {d it:Addr} {o:Obj} {es:Array DictEntry} {ep i:Nat}
end
theorem Gr.tup {F H:Hp} (s:Le F H) {q:Addr} {xs:List V} (hq:H q=some (.tup xs)):Gr F H (upd F q (.tup xs)) H:=by
 refine ⟨fun a u h=>?_,Le.refl,fun a u h=>?_,fun a h=>?_⟩
 ·by_cases e:a=q
  ·subst e
   have:=s a u h
   rw [hq] at this
   cases this
   exact upd_same
  ·rw [upd_ne e]; exact h
 ·by_cases e:a=q
  ·subst e; rw [upd_same] at h; cases h; exact hq
  ·rw [upd_ne e] at h; exact s a u h
 ·by_cases e:a=q
  ·subst e; exact .inr (.inr ⟨xs,hq⟩)
  ·rw [upd_ne e] at h; exact .inl h
section
variable {κ:Kx} {F0 H0 F H:Hp} {ρ:Rho} {σ:St}
end
section
variable {X:Cx} {F0 H0:Hp} {a b:Expr} {fa fb:EF} {pos:Pos}
end
end L3
set_option Elab.async false
set_option linter.all false
set_option maxRecDepth 100000
set_option maxHeartbeats 4000000
namespace L3
open PySem PySem.Spec PyProof.Rows L2
open PySem.Builtin PySem.Builtin.Str
noncomputable def iEnumE (e:EF):IF:=fun ρ=>(e ρ).bind fun w=>w.st.bind fun d=>match d with
 | .lst ds=>.ok (numd 0 ds)
 | _=>.stuck
section
variable {X:Cx} {F0 H0:Hp} {tg:Expr} {pos:Pos}
theorem si_enumE {es:List Expr} {k:Nat} {a:Expr} {fa:EF} {tp np cp:Pos} (ha:SE X F0 H0 a fa) (hm:X.mg "enumerate"=none) (hg:Gl X "enumerate":=by rfl) (hs:starEach [a] X.env=[(false,eval a X.env)]:=by rfl) :
  SI X F0 H0 (.Tuple es k tp) (.Call (.Name "enumerate" np) [a] [] cp) (iEnumE fa):=by
 refine ⟨fun σ H R=>tSem X a σ H fun v H'=>∃ p,v=.ref p∧(∃ xs,SqL X.K H' p xs)∧R (Ite X.K p) H',fun pins s σ H R I h=>?_,fun σ F H ρ R S h=>?_⟩
 ·refine Call_ (ld_blt I hg hm boot_enumerate (PyProof.Rows.callWith_type1 ?_ hs rfl))
  rw [hs]
  refine Calls.spliced_cons (thn (h pins s I) fun u s1 ⟨v1,H1,I1,r1,p,e1,⟨xs,hq⟩,hR⟩=>?_)
  subst e1
  obtain rfl:u=Value.ref p:=r1
  refine Calls.spliced_nil ?_
  obtain ⟨its,rv,pl,hz⟩:=I1.list hq
  refine call_enumerate_list pl.isList fun h' he hi hsz kp=>?_
  refine wpAny_pyIter_enum (s:={ s1 with heap:=h' }) he ?_
  refine ⟨_,_,_,_,H1,rfl,I1.kept (t':=s1.toks) kp,turn_enum p s1.heap.objs.size (s1.heap.objs.size+1) (Nat.ne_of_gt (Nat.lt_succ_self _)),⟨⟨_,he⟩,hi⟩,fun b hb=>?_,hR⟩
  have lb:s1.heap.objs.size ≤ b:=by
   rcases List.mem_cons.mp hb with rfl|hb
   ·exact Nat.le_succ _
   ·obtain rfl:b=s1.heap.objs.size:=by simpa using hb
    exact Nat.le_refl _
  exact I1.fpOk lb (I1.hok.fresh lb)
 ·have h:=KE.bind h
  cases ew:fa ρ with
  | exc x=>rw [ew] at h; exact h.elim
  | stuck=>rw [ew] at h; exact h.elim
  | ok w =>
   rw [ew] at h
   cases es':w.st with
   | exc x=>rw [KE_ok,es'] at h; exact h.elim
   | stuck=>rw [KE_ok,es'] at h; exact h.elim
   | ok d =>
    rw [KE_ok,es'] at h
    cases d <;> first|exact h.elim|skip
    refine ha.sem S ?_
    rw [ew,KE_ok]
    intro v F1 H1 g1 q1
    obtain ⟨g2,_⟩:=fzAll_gr S.s g1
    obtain ⟨p,vs,rfl,hq,rs⟩:=Vok.st S.s g1 q1 es'
    exact ⟨p,rfl,⟨vs,SqL.le g2.s hq⟩,h _ H1 _ g2 (walk_enum (κ:=kx X) (fun F' H' l1 l _=>SqL.le l (SqL.le l1 hq)) rs)⟩
noncomputable def rIdx:V→List V→Hp→VK→Prop:=fun x vs H Q=>∃ a b i r,x=.str a∧vs=[.str b]∧occurrences a b 0 a.length 1=i::r∧Q (.int i) H
theorem mt_idx:MtR X "str.index" rIdx:=by
 intro pins s σ H x vs v us Q I rx rv h
 obtain ⟨a,b,i,r,rfl,rfl,ho,q⟩:=h
 obtain ⟨t,rfl⟩:=rx
 obtain ⟨u,rfl,ru⟩:=rv.one
 obtain ⟨t2,rfl⟩:=ru
 refine call_gives PySem.F.slot_str_index (typeIs_str s a t) PySem.F.entry_str_index (PySem.F.args_str_index_2 _ _) (gives_str_index a b t t2 i r ho) ?_
 exact ⟨.int i,H,I.tok _,⟨_,rfl⟩,q⟩
noncomputable def dIdx2:D→D→R En
 | .str x,.str y=>(match occurrences x y 0 x.length 1 with|i::_=>okI i|[]=>.stuck)
 | _,_=>.stuck
theorem se_idx {o e:Expr} {fo f:EF} {apos cpos:Pos} (ho:SE X F0 H0 o fo) (he:SE X F0 H0 e f)
  (hbase:attributeBase o "index" X.env (eval o X.env)=eval o X.env:=by rfl)
  (hfew:((backTo cpos (starEach [e] X.env)).all (fun x=>!x.1) && (backToKw cpos (keywordEach [] X.env)).all (fun x=>x.1.isSome)
   && decide ([e].length+([]:List Keyword).length+(if ([]:List Keyword).isEmpty then 0 else 1) < 30))=true:=by rfl)
  (hline:(apos.endLine == cpos.line)=true:=by rfl) (hst:starEach [e] X.env=(false,eval e X.env)::starEach [] X.env:=by rfl) (hplain:(backTo cpos (starEach [] X.env)).any (·.1)=false:=by rfl) :
  SE X F0 H0 (.Call (.Attribute o "index" apos) [e] [] cpos) (eOp dIdx2 fo f):=by
 intro pins s σ F H ρ Q S I h
 have P:=pe_bm (X:=X) PySem.F.plainAttrs_str PySem.F.slot_str_index PySem.F.type_str_index mt_idx (pe_sem (e:=o)) (pa_cons (pe_sem (e:=e)) pa_nil hst) hbase hfew hline hst hplain
 refine ep_end (pins:=pins) (σ:=σ) (P pins s σ H _ I (ho.sem S ((KE.bind h).imp fun w0 k0 y0 F0' H0' g0 q0=>?_)))
 have r0:=Vok.rd q0
 revert k0
 generalize w0.d=d0 at r0
 intro k0
 cases d0 <;> first|(cases fe:f ρ with|exc _=>rw [fe] at k0; exact k0.elim|stuck=>rw [fe] at k0; exact k0.elim|ok w=>rw [fe] at k0; exact (show False from k0).elim)|skip
 rename_i x
 cases RdV.str r0
 refine ⟨rfl,he.sem (S.grow g0) ((KE.bind k0).imp fun w k y F1 H1 g1 q1=>?_)⟩
 have r:=Vok.rd q1
 revert k
 generalize w.d=d at r
 intro k
 cases d <;> first|exact k.elim|skip
 rename_i y'
 unfold dIdx2 at k
 dsimp only at k
 cases eo:occurrences x y' 0 x.length 1 with
 | nil=>rw [eo] at k; exact k.elim
 | cons i r' =>
  rw [eo] at k
  cases RdV.str r
  exact ⟨x,y',i,r',rfl,rfl,eo,fun u s' rv I'=>k (.int i) u F1 H1 s' (g0.trans g1) rfl rv I'⟩
end
end L3
set_option Elab.async false
set_option linter.all false
set_option maxRecDepth 100000
set_option maxHeartbeats 4000000
namespace L3
open PySem PySem.Spec PyProof.Rows L2
noncomputable def one (c:Nat):D:=.str ⟨#[c]⟩
noncomputable def okC:Option Nat→R En
 | some c=>.ok (.fz (one c))
 | none=>.stuck
noncomputable def dIxA:D→D→R En
 | .str x,.int i=>if x.length ≤ sz then okC (ati x.cps.toList i) else .stuck
 | x,y=>dIxS x y
section
variable {X:Cx} {F0 H0:Hp} {a b:Expr} {fa fb:EF} {pos:Pos}
theorem ixd_A:IxD X dIxA:=by
 intro value slice pins s σ F H x y v u dx dy Q I l rx ry qx qy w hs
 by_cases c:∃ z i,dx=.str z∧dy=.int i
 ·obtain ⟨z,i,rfl,rfl⟩:=c
  unfold dIxA at w
  dsimp only at w
  by_cases hz:z.length ≤ sz
  ·rw [if_pos hz] at w
   cases e:ati z.cps.toList i with
   | none=>rw [e] at w; exact w.elim
   | some ch =>
    rw [e] at w
    exact ix_str value slice pins s σ H _ _ v u Q I rx ry ⟨z,i,ch,RdV.str qx,RdV.int qy,by rw [← sz_eq]; exact hz,e,wish_fz (X:=X) l (v:=.str _) w rfl⟩ hs
  ·rw [if_neg hz] at w; exact w.elim
 ·refine ixd_seq value slice pins s σ F H x y v u dx dy Q I l rx ry qx qy ?_ hs
  unfold dIxA at w
  split at w
  ·exact (c ⟨_,_,rfl,rfl⟩).elim
  ·exact w
theorem se_ixA (ha:SE X F0 H0 a fa) (hb:SE X F0 H0 b fb) (hs:PlainIx b:=by exact fun _ _=>rfl):SE X F0 H0 (.Subscript a b pos) (eOp dIxA fa fb):=se_ixr ixd_A ha hb hs
end
section
variable {X:Cx} {F0 H0:Hp} {pos:Pos}
end
end L3
namespace L3
section
open PySem PySem.Spec PyProof.Rows L2
variable {X:Cx}
end
end L3
set_option Elab.async false
set_option linter.all false
set_option maxRecDepth 100000
set_option maxHeartbeats 4000000
namespace L3
open PySem PySem.Spec PyProof.Rows L2
noncomputable def adO:En→R D
 | .ow (.lst xs)=>.ok (.lst xs)
 | _=>.stuck
noncomputable def adD:En→R D
 | .od (.lst xs)=>.ok (.lst xs)
 | _=>.stuck
noncomputable def compG (ad:En→R D) (gf:GF) (e:EF):List D→Rho→R (List D)
 | [],_=>.ok []
 | d::r,ρ=>(gf d ρ).bind fun ρ1=>(e ρ1).bind fun w=>(ad w).bind fun y=>(compG ad gf e r ρ1).bind fun ys=>.ok (y::ys)
noncomputable def eCompG (ad:En→R D) (mk:List D→D) (n:Nat) (it:IF) (gf:GF) (e:EF):EF:=fun ρ=>(it ρ).bind fun ds=>if ds.length ≤ sz then (compG ad gf e ds (cRho n ρ)).bind fun ys=>.ok (.od (mk ys)) else .stuck
noncomputable def mk3 (ys:List D):D:=.dK (ys.map fun y=>(Sum.inl 0,y))
noncomputable abbrev eCompO:=eCompG adO D.lst
noncomputable abbrev eCompD:=eCompG adD mk3
structure Mem (κ:Kx) (H₂:Hp) (p:Addr) (ad:En→R D) (mk:List D→D) where
 RL:Hp→Hp→List V→List D→Prop
 nil:∀ F H,RL F H [] []
 len:∀ {F H vs as},RL F H vs as→vs.length=as.length
 gr:∀ {F H F' H' vs as},Gr F H F' H'→RL F H vs as→RL F' H' vs as
 step:∀ {F H F' H' vs as v w y},Gr F H F' H'→Le H₂ H→H p=some (.lst vs)→Vok κ H F' H' v w→ad w=.ok y→RL F H vs as→RL F' (upd H' p (.lst (vs++[v]))) (vs++[v]) (as++[y])
 fin:∀ {F H vs as},H₂ p=none→F p=none→H p=some (.lst vs)→RL F H vs as→DV κ H₂ F H (.ref p) (mk as)
section
variable {κ:Kx} {H0 F H F' H':Hp}
theorem In2.len:∀ {bs:List Addr} {css:List (List Addr)} {ds:List D},In2 κ H0 F H bs css ds→bs.length=ds.length
 | [],[],[],_=>rfl
 | [],_::_,_,h=>by cases h
 | [],[],_::_,h=>by cases h
 | _::_,[],_,h=>by cases h
 | _::_,_::_,[],h=>by cases h
 | b::bs,cs::css,e::es,h=>by rw [List.length_cons,List.length_cons,In2.len h.2]
theorem In2.snoc {b:Addr} {cs:List Addr} {xs:List D} (h0:H0 b=none) (hf:F b=none) (hh:H b=some (.lst (cs.map V.ref))) (r:Inn κ H0 F H cs xs):∀ {bs:List Addr} {css:List (List Addr)} {ds:List D},In2 κ H0 F H bs css ds→In2 κ H0 F H (bs++[b]) (css++[cs]) (ds++[.lst xs])
 | [],[],[],_=>⟨⟨xs,rfl,h0,hf,hh,r⟩,trivial⟩
 | [],_::_,_,h=>by cases h
 | [],[],_::_,h=>by cases h
 | _::_,[],_,h=>by cases h
 | _::_,_::_,[],h=>by cases h
 | _::_,_::_,_::_,h=>⟨h.1,In2.snoc h0 hf hh r h.2⟩
end
noncomputable def memO (κ:Kx) (H₂:Hp) (p:Addr):Mem κ H₂ p adO D.lst where
 RL F H vs as:=∃ bs:List Addr,vs=bs.map V.ref∧(p::bs).Nodup∧Inn κ H₂ F H bs as
 nil F H:=⟨[],rfl,by simp,trivial⟩
 len:=fun ⟨bs,e,_,i⟩=>by subst e; rw [List.length_map]; exact Inn.len i
 gr:=fun g ⟨bs,e,nd,i⟩=>⟨bs,e,nd,Inn.gr g i⟩
 step:=fun {F H F' H' vs as v w y} g l hp q e ⟨bs,ev,nd,i⟩=>by
  cases w <;> first|(cases e; done)|skip
  rename_i d
  cases d <;> first|(cases e; done)|skip
  cases e
  obtain ⟨a,o,rfl,h0,hf,hh,r⟩:=q
  cases o <;> first|exact r.elim|skip
  rename_i us
  subst ev
  have na:a ∉ p::bs:=fun m=>by
   rcases List.mem_cons.mp m with rfl|m
   ·rw [hp] at h0; cases h0
   ·obtain ⟨_,_,_,z⟩:=Inn.at i m
    rw [z] at h0; cases h0
  have nd2:((p::bs)++[a]).Nodup:=List.nodup_append.mpr ⟨nd,by simp,fun x hx y hy e=>by
   obtain rfl:y=a:=by simpa using hy
   exact na (by rw [← e]; exact hx)⟩
  refine ⟨bs++[a],by simp,nd2,?_⟩
  refine Inn.same (G:=H) (G':=H) (H:=H') (fun z hz=>(upd_ne fun e=>?_).symm) (fun _ _ q=>q) Le.refl (Inn.snoc (Le.none l h0) hf hh r (Inn.gr g i))
  subst e
  exact (List.nodup_cons.mp nd2).1 hz
 fin:=fun {F H vs as} h0 hf hh ⟨bs,e,nd,i⟩=>by
  subst e
  exact .inl ⟨as,rfl,p,bs,rfl,h0,hf,nd,hh,i⟩
noncomputable def memD (κ:Kx) (H₂:Hp) (p:Addr):Mem κ H₂ p adD mk3 where
 RL F H vs as:=∃ (bs:List Addr) (css:List (List Addr)),vs=bs.map V.ref∧(p::(bs++css.flatten)).Nodup∧In2 κ H₂ F H bs css as
 nil F H:=⟨[],[],rfl,by simp,trivial⟩
 len:=fun ⟨bs,css,e,_,i⟩=>by subst e; rw [List.length_map]; exact In2.len i
 gr:=fun g ⟨bs,css,e,nd,i⟩=>⟨bs,css,e,nd,In2.gr g i⟩
 step:=fun {F H F' H' vs as v w y} g l hp q e ⟨bs,css,ev,nd,i⟩=>by
  cases w <;> first|(cases e; done)|skip
  rename_i d
  cases d <;> first|(cases e; done)|skip
  rename_i xs
  cases e
  have q:DV κ H F' H' v (.lst xs):=q
  rcases q with ⟨ds,e,a,cs,rfl,h0,hf,ndc,hh,r⟩|⟨ds,e,_⟩|⟨ds,y,e,_⟩|⟨_,_,_,e,_⟩
  ·cases e
   subst ev
   have cn:∀ c∈a::cs,H c=none:=fun c m=>by
    rcases List.mem_cons.mp m with rfl|m
    ·exact h0
    ·obtain ⟨_,z,_⟩:=Inn.at r m
     exact z
   have ps:∀ c∈p::(bs++css.flatten),∃ o,H c=some o:=fun c m=>by
    rcases List.mem_cons.mp m with rfl|m
    ·exact ⟨_,hp⟩
    ·obtain ⟨_,_,_,z⟩:=In2.at i m
     exact ⟨_,z⟩
   have nd1:((p::(bs++css.flatten))++(a::cs)).Nodup:=List.nodup_append.mpr ⟨nd,ndc,fun x hx y hy e=>by
    obtain ⟨o,z⟩:=ps x hx
    rw [e,cn y hy] at z; cases z⟩
   have pm:((p::(bs++css.flatten))++(a::cs)).Perm (p::((bs++[a])++(css++[cs]).flatten)):=by
    rw [List.cons_append,List.append_assoc,List.append_assoc,List.flatten_append]
    refine List.Perm.cons p (List.Perm.append_left bs ?_)
    have:=List.perm_middle (l₁:=css.flatten) (l₂:=cs) (a:=a)
    simpa using this
   have nd2:=pm.nodup_iff.mp nd1
   refine ⟨bs++[a],css++[cs],by simp,nd2,?_⟩
   refine In2.same (H:=H') (fun z hz=>(upd_ne fun e=>?_).symm) (fun _ _ q=>q) Le.refl (In2.snoc (Le.none l h0) hf hh (Inn.older (fun c z=>Le.none l z) r) (In2.gr g i))
   subst e
   exact (List.nodup_cons.mp nd2).1 hz
  ·cases e
  ·cases e
  ·cases e
 fin:=fun {F H vs as} h0 hf hh ⟨bs,css,e,nd,i⟩=>by
  subst e
  refine .inr (.inl ⟨as.map fun y=>(Sum.inl 0,y),rfl,p,bs,css,rfl,h0,hf,nd,hh,?_⟩)
  rw [List.map_map]
  have:(Prod.snd ∘ fun y:D=>((Sum.inl 0:Sum Int Str),y))=id:=rfl
  rw [this,List.map_id]
  exact i
theorem block_runG {X:Cx} {pins:List (Addr×Obj)} {σ:St} {F₂ H₂:Hp} {s₂ s₄:Shared} {fp:List Addr} {it:Addr} {tn:Nat→Heap→Prop} {J:It} {tg elt iter:Expr} {scope:Scope} {cl:List (Str×Addr)} {N:List Str} {C p:Addr}
  {σ':St} {ρ':Rho} {ds:List D} {pos:Pos} {gf:GF} {e:EF} {RR:Result→Shared→Prop} {ad:En→R D} {mk:List D→D} (M:Mem (kx X) H₂ p ad mk) (l₂:Le F₂ H₂) (T:Turn X.prog X.w X.K tg J fp it tn) (hc:X.calm=true) (st:tn 0 s₄.heap) (Wk:Walk (kx X) J F₂ H₂ ds)
  (hfp:∀ b∈fp,FpOk (cxC X s₂ H₂ scope cl C fp N) [] (upd H₂ p (.lst [])) b) (hp:H₂ p=none) (I4:Inv (cxC X s₂ H₂ scope cl C fp N) [] σ' (upd H₂ p (.lst [])) s₄) (S4:StOk (kx X) F₂ H₂ F₂ H₂ ρ' σ') (no:NoOwn ρ') (hno:KeepsNo gf)
  (hg:SG (cxC X s₂ H₂ scope cl C fp N) F₂ H₂ tg gf) (he:SE (cxC X s₂ H₂ scope cl C fp N) F₂ H₂ elt e) (hsz:ds.length ≤ sz)
  (k:KE (fun _=>False) (compG ad gf e ds ρ') fun ys=>∀ σ1 F1 H1 vs s1,Gr F₂ H₂ F1 H1→F1 p=none→H1 p=some (.lst vs)→M.RL F1 H1 vs ys→Inv (cxC X s₂ H₂ scope cl C fp N) [] σ1 H1 s1→RR (.ok .next) s1) :
  codeAny (model X.prog X.w) X.A (.compLoop (.ListComp elt [⟨tg,iter,[],0⟩] scope pos) 0 (.ref it) (.ref p) (compEnvC scope cl C X.env)) RR s₄:=by
 have stat:∀ {H':Hp},(∀ b∈fp,H' b=none)→∀ b∈fp,FpOk (cxC X s₂ H₂ scope cl C fp N) [] H' b:=fun hn b hb=>⟨hn b hb,(hfp b hb).2⟩
 obtain ⟨tgv,PGv,hgv⟩:=hg
 refine compLoop (fun m s=>∃ i σ1 F1 H1 ρ1 vs,∃ as:List D,m=ds.length - i∧i ≤ ds.length∧Inv (cxC X s₂ H₂ scope cl C fp N) [] σ1 H1 s∧tn i s.heap∧(∀ b∈fp,H1 b=none)∧StOk (kx X) F₂ H₂ F1 H1 ρ1 σ1∧NoOwn ρ1 ∧
  F1 p=none∧H1 p=some (.lst vs)∧M.RL F1 H1 vs as∧as.length ≤ i ∧
  KE (fun _=>False) (compG ad gf e (ds.drop i) ρ1) (fun ys=>∀ σ1 F1 H1 vs s1,Gr F₂ H₂ F1 H1→F1 p=none→H1 p=some (.lst vs)→M.RL F1 H1 vs (as++ys)→Inv (cxC X s₂ H₂ scope cl C fp N) [] σ1 H1 s1→RR (.ok .next) s1)) ?_ ds.length
  ⟨0,σ',F₂,upd H₂ p (.lst []),ρ',[],[],by simp,Nat.zero_le _,I4,st,fun b hb=>(hfp b hb).1,S4.side hp (Le.none l₂ hp) no,no,Le.none l₂ hp,upd_same,M.nil _ _,Nat.le_refl _,by simpa using k⟩
 rintro m s ⟨i,σ1,F1,H1,ρ1,vs,as,rfl,hi,I1,st1,fr1,S1,no1,fp1,hp1,rs1,la,k1⟩
 by_cases hlt:i < ds.length
 ·have ed:ds[i]?=some ds[i]:=by simp [hlt]
  have edr:ds.drop i=ds[i]::ds.drop (i+1):=List.drop_eq_getElem_cons hlt
  obtain ⟨go,yl⟩:=Wk.go i ds[i] F1 H1 ed S1.gr.f S1.s S1.gr.h
  rw [edr] at k1
  refine thn (T.item (cxC X s₂ H₂ scope cl C fp N) rfl rfl rfl hc i [] s σ1 H1 _ I1 (stat fr1) st1 go) fun r s1' ⟨u,hr,h4⟩=>?_
  subst hr
  refine thn h4 fun _ s5 ⟨x,H5,I5,r5,y5,st5,fr5⟩=>?_
  obtain ⟨F5,g5,rx⟩:=yl x H5 y5
  have I5':=I5.pinned (stat fr5) (T.obj _ _ st5)
  have S5:=S1.grow g5
  have k1:=KE.bind k1
  cases eg:gf ds[i] ρ1 with
  | exc z=>rw [eg] at k1; exact k1.elim
  | stuck=>rw [eg] at k1; exact k1.elim
  | ok ρ2 =>
   rw [eg] at k1
   have no2:=hno _ _ _ no1 eg
   have k1:KE (fun _=>False) ((e ρ2).bind fun w=>(ad w).bind fun y=>(compG ad gf e (ds.drop (i+1)) ρ2).bind fun ys=>.ok (y::ys)) _:=k1
   refine thn (PGv _ s5 σ1 H5 x u (fun σ6 H6=>H6=H5∧StOk (kx X) F₂ H₂ F5 H5 ρ2 σ6) I5' r5 (hgv σ1 F5 H5 ρ1 x ds[i] _ S5 rx (by rw [eg]; exact fun σ1 S=>⟨rfl,S⟩))) fun _ s6 ⟨σ6,H6,I6,e6,S6⟩=>?_
   subst e6
   have again:∀ {σ7:St} {F7 H7:Hp} {s7:Shared} {vs7:List V} {as7:List D},Inv (cxC X s₂ H₂ scope cl C fp N) ([]++pinsAt fp s5.heap) σ7 H7 s7→StOk (kx X) F₂ H₂ F7 H7 ρ2 σ7→F7 p=none→H7 p=some (.lst vs7)→M.RL F7 H7 vs7 as7→as7.length ≤ i+1 →
     KE (fun _=>False) (compG ad gf e (ds.drop (i+1)) ρ2) (fun ys=>∀ σ1 F1 H1 vs s1,Gr F₂ H₂ F1 H1→F1 p=none→H1 p=some (.lst vs)→M.RL F1 H1 vs (as7++ys)→Inv (cxC X s₂ H₂ scope cl C fp N) [] σ1 H1 s1→RR (.ok .next) s1) →
     ∃ m,m < ds.length - i∧∃ i σ1 F1 H1 ρ1 vs,∃ (as:List D),m=ds.length - i∧i ≤ ds.length∧Inv (cxC X s₂ H₂ scope cl C fp N) [] σ1 H1 s7∧tn i s7.heap∧(∀ b∈fp,H1 b=none)∧StOk (kx X) F₂ H₂ F1 H1 ρ1 σ1∧NoOwn ρ1 ∧
      F1 p=none∧H1 p=some (.lst vs)∧M.RL F1 H1 vs as∧as.length ≤ i ∧
      KE (fun _=>False) (compG ad gf e (ds.drop i) ρ1) (fun ys=>∀ σ1 F1 H1 vs s1,Gr F₂ H₂ F1 H1→F1 p=none→H1 p=some (.lst vs)→M.RL F1 H1 vs (as++ys)→Inv (cxC X s₂ H₂ scope cl C fp N) [] σ1 H1 s1→RR (.ok .next) s1):=by
    intro σ7 F7 H7 s7 vs7 as7 I7 S7 f7 h7 r7 l7 k7
    refine ⟨ds.length - (i+1),by (first|lia|omega),i+1,σ7,F7,H7,ρ2,vs7,as7,rfl,hlt,I7.unpinned,T.keep _ _ _ st5 fun b hb o e=>(I7.pin (b,o) (List.mem_append_right _ (List.mem_append_right _ (mem_pinsAt hb e)))).1,fun b hb=>?_,S7,no2,f7,h7,r7,l7,k7⟩
    obtain ⟨o,e,d⟩:=T.obj _ _ st5 b hb
    exact (I7.pin (b,o) (List.mem_append_right _ (List.mem_append_right _ (mem_pinsAt hb e)))).2.1
   have nf5:F5 p=none:=g5.no fp1 (hp1)
   refine tests_ok (X:=cxC X s₂ H₂ scope cl C fp N) (t:=tTrue) .nil S6 I6 (fun F7 H7 s7 g7 I7=>?_)
   have nf7:F7 p=none:=g7.no nf5 (g5.h _ _ hp1)
   have hp7:H7 p=some (.lst vs):=g7.h _ _ (g5.h _ _ hp1)
   have g17:Gr F1 H1 F7 H7:=g5.trans g7
   have l27:Le H₂ H7:=Le.trans S1.gr.h g17.h
   rw [if_pos rfl]
   refine he _ s7 σ6 F7 H7 ρ2 _ (S6.grow g7) I7 (KE.impX (KE.bind k1) (fun wv kw v u F8 H8 s8 g8 q8 r8 I8=>?_) fun _ z=>z)
   cases es:ad wv with
   | exc z=>rw [es] at kw; exact kw.elim
   | stuck=>rw [es] at kw; exact kw.elim
   | ok y =>
    rw [es] at kw
    have kw:KE (fun _=>False) ((compG ad gf e (ds.drop (i+1)) ρ2).bind fun ys=>.ok (y::ys)) _:=kw
    have kw:=KE.bind kw
    have S9:=(S6.grow g7).grow g8
    have nf9:F8 p=none:=g8.no nf7 hp7
    have lv:vs.length=as.length:=M.len rs1
    refine thn (mt_append (X:=cxC X s₂ H₂ scope cl C fp N) _ s8 σ6 H8 (.ref p) [v] (.ref p) [u] (fun _ H9=>H9=upd H8 p (.lst (vs++[v]))) I8 rfl (.cons r8 .nil) ⟨p,vs,v,rfl,rfl,g8.h _ _ hp7,by rw [lv,← sz_eq]; (first|lia|omega),rfl⟩) fun _ s9 ⟨_,H9,I9,_,e9⟩=>?_
    subst e9
    refine again I9 (S9.side hp nf9 no2) nf9 upd_same (M.step g8 l27 hp7 q8 es (M.gr g17 rs1)) (by simp; (first|lia|omega)) ?_
    exact kw.imp fun ys q σ1 F1 H1 vs s1=>by
     have:(as++[y])++ys=as++(y::ys):=by simp
     rw [this]
     exact q σ1 F1 H1 vs s1
 ·have ei:i=ds.length:=by (first|lia|omega)
  subst ei
  rw [List.drop_length] at k1
  refine thn (T.done (cxC X s₂ H₂ scope cl C fp N) rfl rfl rfl hc _ [] s σ1 H1 _ I1 (stat fr1) st1 (Wk.stop _ F1 H1 (Nat.le_refl _) S1.gr.f S1.s S1.gr.h)) fun r s4' ⟨hr,I4'⟩=>?_
  subst hr
  exact k1 σ1 F1 H1 vs s4' S1.gr fp1 hp1 (by simpa using rs1) I4'
section
variable {X:Cx} {F0 H0:Hp} {pos:Pos} {tg elt iter:Expr} {scope:Scope} {fi:IF} {gf:GF} {e:EF} {ad:En→R D} {mk:List D→D}
theorem comp_coreG {n:Nat} (N:List Str) (M:∀ H₂ p,Mem (kx X) H₂ p ad mk) {use:Option (Value→Sem Unit)} (hi:SIc X F0 H0 tg iter fi) (hno:KeepsNo gf)
  (hg:∀ s₂ F₂ H₂ C fp,SG (cxD X scope N s₂ H₂ C fp) F₂ H₂ tg gf) (he:∀ s₂ F₂ H₂ C fp,SE (cxD X scope N s₂ H₂ C fp) F₂ H₂ elt e)
  (hc:X.calm=true) (hkind:scope.kind=.function) (hcap:capB X.env scope.names=true) (hslots:slotsB (relabel scope X.env).names X.N N=true) (hlen:N.length=X.N.length+n)
  (hnames:∀ x∈scope.names,x.2=.local→scope.names.lookup x.1=some .local) (hs:∀ x,foldedSetIterable iter X.env x=pure x)
  {pins:List (Addr×Obj)} {s:Shared} {σ:St} {F H:Hp} {ρ:Rho} {Q:Value→Shared→Prop} {ipos:Pos} (S:StOk (kx X) F0 H0 F H ρ σ) (I:Inv X pins σ H s)
  (h:KE (XP X F0 H0) (eCompG ad mk n fi gf e ρ) fun w=>∀ (p C:Addr) F1 H1 s1 m,Gr F H F1 H1→Vok (kx X) H F1 H1 (.ref p) w→Inv X pins σ H1 s1→s1.heap.Ns C m →
   (∀ (s2:Shared) H2 h' (σ':St),Inv X pins σ' H2 s2→H2 C=none→(∀ b o,b≠C→s2.heap.get? b=some o→h'.get? b=some o)→Inv X pins σ' H2 { s2 with heap:=h' })→H1 C=none→C≠X.env.locals→(∀ x c,X.env.cells.lookup x=some c→c≠C) →
   compPost (model X.prog X.w) X.A X.xe use Q (.ref p) C (.ok .next) s1) :
  wpAny (model X.prog X.w) X.A (comprehension (.ListComp elt [⟨tg,iter,[],0⟩] scope pos) scope X.env ipos (newList []) false (eval iter X.env) use) Q X.xe s:=by
 have has:∀ n,X.env.kindOf n=some .cell→∃ c,X.env.cells.lookup n=some c:=fun n hn=>I.ok.has n (.inl hn)
 have hCl:=clOf_in scope.names [] hcap has trivial
 have hCp:=cap_ok hcap has
 refine wpAny_comprehension_free rfl hs (closure_ok hcap has) hkind hnames ?_
 obtain ⟨wi,PIv,hwi⟩:=hi
 cases ed:fi ρ with
 | exc x=>have h:=KE.bind h; rw [ed] at h; exact h.elim
 | stuck=>have h:=KE.bind h; rw [ed] at h; exact h.elim
 | ok ds =>
  have h:=KE.bind h
  rw [ed] at h
  refine thn (PIv pins s σ H (fun J H1=>∃ F1,Gr F H F1 H1∧Walk (kx X) J F1 H1 ds) I (hwi σ F H ρ _ S (by rw [ed]; exact fun F1 H1 J g W=>⟨F1,g,W⟩))) fun v s1 h1=>thn h1 fun itv s₂ h2=>?_
  obtain ⟨it,fp,tn,J,H₂,rfl,I2,T,st2,f2,F₂,g2,Wk⟩:=h2
  refine wpAny_newObj_type (wpAny_newFunctionEnv (fun x hx=>(Cap.mem hCp x hx).1) (by intro y hy; simp at hy) (fun h₁ hns₁ hsb₁=>?_) hkind)
  dsimp only at hns₁ hsb₁ ⊢
  generalize hH2:s₂.heap.push { cls:=.type "list",dict:=none,data:=.seq ([]:List Value).toArray }=HP at hns₁ hsb₁ ⊢
  have hC:HP.objs.size=s₂.heap.objs.size+1:=by rw [← hH2,Heap.size_push]
  have hDC:s₂.heap.objs.size≠HP.objs.size:=by rw [hC]; exact Nat.ne_of_lt (Nat.lt_succ_self _)
  have old:∀ b o,s₂.heap.get? b=some o→h₁.get? b=some o:=fun b o e =>
   hsb₁.extBut b o (Nat.ne_of_lt (by rw [hC]; exact Nat.lt_succ_of_lt (Heap.lt_size e))) (Heap.get?_push_of_some _ (hH2 ▸ Heap.get?_push_of_some _ e))
  have hacc:h₁.get? s₂.heap.objs.size=some { cls:=.type "list",data:=.seq #[] 0 }:=hsb₁.extBut _ _ hDC (Heap.get?_push_of_some _ (hH2 ▸ Heap.get?_push_size _ rfl))
  have hp:H₂ s₂.heap.objs.size=none:=I2.hok.fresh (Nat.le_refl _)
  have hCl2:s₂.heap.objs.size < HP.objs.size:=by rw [hC]; exact Nat.lt_succ_self _
  have hfC:H₂ HP.objs.size=none:=I2.hok.fresh (Nat.le_of_lt hCl2)
  have I4:=block_start (N:=N) (n:=n) (tk:=s₂.toks+([]:List (Str×Value)).length) I2 T st2 f2 hkind hCp hCl (slots_ok hslots) hlen hCl2 hns₁ old hacc
  have st4:tn 0 h₁:=T.keep _ _ _ st2 fun b hb o e=>old b o e
  have S4:StOk (kx X) F₂ H₂ F₂ H₂ (cRho n ρ) (σ++List.replicate n none):=ro_st n (S.grow g2)
  have hfp4:∀ b∈fp,FpOk (cxD X scope N s₂ H₂ HP.objs.size fp) [] (upd H₂ s₂.heap.objs.size (.lst [])) b:=fun b hb=>by
   obtain ⟨f0,f1,f3,f4,f5,f6⟩:=f2 b hb
   obtain ⟨o,ho,_⟩:=T.obj 0 _ st2 b hb
   have lb:=Heap.lt_size ho
   refine ⟨by rw [upd_ne (Nat.ne_of_lt lb)]; exact f0,(show b≠HP.objs.size from Nat.ne_of_lt (Nat.lt_trans lb hCl2)),fun z=>?_,.inl hb,fun x c e=>f5 x c (ClIn.look hCl e),fun q hq=>absurd (show q∈([]:List (Addr×Obj)) from hq) (by simp)⟩
   rcases List.mem_cons.mp (I2.stkSub b z) with q|q
   ·exact f1 q
   ·exact f3 q
  rw [KE_ok] at h
  by_cases csz:ds.length ≤ sz
  ·rw [if_pos csz] at h
   have run:∀ s₄:Shared,s₄={ s₂ with heap:=h₁,toks:=s₂.toks+([]:List (Str×Value)).length } →
     codeAny (model X.prog X.w) X.A (.compLoop (.ListComp elt [⟨tg,iter,[],0⟩] scope pos) 0 (.ref it) (.ref s₂.heap.objs.size) (compEnvC scope (clOf X.env scope.names []) HP.objs.size X.env))
      (compPost (model X.prog X.w) X.A X.xe use Q (.ref s₂.heap.objs.size) HP.objs.size) s₄:=by
    rintro s₄ rfl
    refine block_runG (pins:=pins) (σ:=σ) (N:=N) (s₂:=s₂) (F₂:=F₂) (M H₂ s₂.heap.objs.size) g2.s T hc st4 Wk hfp4 hp I4 S4 (noOwn_ro n ρ) hno (hg _ _ _ _ _) (he _ _ _ _ _) csz (KE.impX (KE.bind h) (fun ys k σ1 F1 H1 vs s1 g1 nf hv rs I1=>?_) fun _ z=>z)
    have J1:Inv X pins σ H1 s1:=I2.call' (ch:=fp) I1.os I1.base I1.hok I1.bare fun b hb=>by
     obtain ⟨f0,f1,f3,f4,f5,f6⟩:=f2 b hb
     exact ⟨f4,f1,f5,f6⟩
    obtain ⟨m1,hn1,_⟩:=I1.loc
    have cl2:∀ x c,X.env.cells.lookup x=some c→c≠HP.objs.size:=fun x c e z=>by
     obtain ⟨v,o,ho,_⟩:=I2.cell x c e
     exact Nat.lt_irrefl _ (Nat.lt_trans (Heap.lt_size ho) (z ▸ hCl2))
    have lne:HP.objs.size≠X.env.locals:=Ne.symm (Nat.ne_of_lt (Nat.lt_trans I2.lt hCl2))
    have dv:Vok (kx X) H F1 H1 (.ref s₂.heap.objs.size) (.od (mk ys)):=DV.older (fun c z=>Le.none g2.h z) ((M H₂ s₂.heap.objs.size).fin hp nf hv rs)
    refine k s₂.heap.objs.size HP.objs.size F1 H1 s1 m1 (g2.trans g1) dv J1 hn1 (fun s2 H2 h' σ' J2 hn kk=>?_) I1.free lne cl2
    refine J2.turned (t':=s2.toks) kk hn lne (.inr (Nat.le_trans I2.sz (Nat.le_of_lt hCl2))) cl2 fun q hq z=>?_
    exact Nat.lt_irrefl _ (Nat.lt_trans (Heap.lt_size (I2.pin q hq).1) (z ▸ hCl2))
   exact codeAny_compStart_list (run _ rfl) (T.self _ 0 _ _ _ st4 (run _ rfl))
  ·rw [if_neg csz] at h; exact h.elim
theorem se_compG {n:Nat} (N:List Str) (M:∀ H₂ p,Mem (kx X) H₂ p ad mk) (hi:SIc X F0 H0 tg iter fi) (hno:KeepsNo gf)
  (hg:∀ s₂ F₂ H₂ C fp,SG (cxD X scope N s₂ H₂ C fp) F₂ H₂ tg gf) (he:∀ s₂ F₂ H₂ C fp,SE (cxD X scope N s₂ H₂ C fp) F₂ H₂ elt e)
  (hc:X.calm=true:=by rfl) (hkind:scope.kind=.function:=by rfl) (hcap:capB X.env scope.names=true:=by rfl) (hslots:slotsB (relabel scope X.env).names X.N N=true:=by rfl) (hlen:N.length=X.N.length+n:=by rfl)
  (hnames:∀ x∈scope.names,x.2=.local→scope.names.lookup x.1=some .local:=by decide +kernel) (hs:∀ x,foldedSetIterable iter X.env x=pure x:=by intro _; rfl) :
  SE X F0 H0 (.ListComp elt [⟨tg,iter,[],0⟩] scope pos) (eCompG ad mk n fi gf e):=by
 intro pins s σ F H ρ Q S I h
 rw [eval_ListComp]
 refine comp_coreG N M hi hno hg he hc hkind hcap hslots hlen hnames hs S I (h.imp fun w k p C F1 H1 s1 m g q I1 hn turn hC _ _=>⟨m,hn,fun h' sb=>?_⟩)
 exact k (.ref p) (.ref p) F1 H1 _ g q rfl (turn s1 H1 h' σ I1 hC fun b o hb e=>(sb.2 b hb).trans e)
theorem DV.deep {κ:Kx} {H F' H':Hp} {v:V} {d:D} (h:DV κ H F' H' v d) (nt:∀ xs,d≠.tup xs):∃ a bs,v=.ref a∧(∀ c∈a::bs,H c=none)∧F' a=none∧(a::bs).Nodup∧Deep κ H F' H' a bs d:=by
 rcases h with ⟨ds,rfl,a,bs,e1,h0,hf,nd,hh,i⟩|⟨ds,rfl,a,bs,css,e1,h0,hf,nd,hh,i⟩|⟨ds,y,e,_⟩|⟨_,_,_,e,_⟩
 ·refine ⟨a,bs,e1,fun c m=>?_,hf,nd,hh,i⟩
  rcases List.mem_cons.mp m with rfl|m
  ·exact h0
  ·obtain ⟨_,z,_⟩:=Inn.at i m; exact z
 ·refine ⟨a,bs++css.flatten,e1,fun c m=>?_,hf,nd,bs,css,rfl,hh,i⟩
  rcases List.mem_cons.mp m with rfl|m
  ·exact h0
  ·obtain ⟨_,z,_⟩:=In2.at i m; exact z
 ·exact (nt _ e).elim
 ·exact (nt _ e).elim
theorem Deep.older {κ:Kx} {H G F' H':Hp} {a:Addr} {bs:List Addr} {d:D} (l:∀ a,H a=none→G a=none) (h:Deep κ H F' H' a bs d):Deep κ G F' H' a bs d:=by
 cases d <;> first|exact (False.elim h)|exact ⟨h.1,Inn.older l h.2⟩|exact h|skip
 obtain ⟨b1,css,e,h1,h2⟩:=h
 exact ⟨b1,css,e,h1,In2.older l h2⟩
theorem StOk.setD {κ:Kx} {F0 H0 F H F' H':Hp} {ρ:Rho} {σ:St} (S:StOk κ F0 H0 F H ρ σ) (g:Gr F H F' H') {i:Nat} {v:V} {d:D} (q:DV κ H F' H' v d) (nt:∀ xs,d≠.tup xs) (sh:shal i ρ) :
  StOk κ F0 H0 F' H' (ρ.set i (some (.od d))) (σ.set i (some v)):=by
 obtain ⟨a,bs,rfl,hn,hf,nd,dp⟩:=DV.deep q nt
 have S':=S.grow g
 obtain ⟨o,ho,no⟩:=Deep.top dp
 have h0:∀ c∈a::bs,H0 c=none:=fun c m=>Le.none S.gr.h (hn c m)
 have away:∀ (k:Nat) (w:En) (b:Addr),k≠i→ρ[k]?=some (some w)→w.own=true→b∈a::bs→σ[k]?≠some (some (.ref b)):=fun k w b hk ek ok m sk=>by
  obtain ⟨u,z⟩:=S.ownAt ek ok sk
  rw [hn b m] at z; cases z
 refine ⟨S'.gr,by simp [S.len],fun j w e=>?_,fun j k w w' b hjk ej ek oj ok sj sk=>?_,fun j y e=>?_⟩
 ·rcases set_get e with ⟨rfl,z⟩|⟨ne,z⟩
  ·cases z
   have hl:j < σ.length:=by
    rw [← S.len]
    have:=(List.getElem?_eq_some_iff.mp e).1
    simpa using this
   exact ⟨.ref a,List.getElem?_set_self hl,a,o,rfl,h0 a (by simp),hf,ho,no⟩
  ·obtain ⟨u,e1,q⟩:=S'.val j w z
   exact ⟨u,by rw [List.getElem?_set_ne (Ne.symm ne)]; exact e1,q⟩
 ·have at_:∀ {m:Nat},m≠i→(σ.set i (some (.ref a)))[m]?=some (some (.ref b))→σ[m]?=some (some (.ref b)):=fun {m} hm h=>by
   rw [List.getElem?_set_ne (Ne.symm hm)] at h; exact h
  rcases set_get ej with ⟨e1,z⟩|⟨nj,ej'⟩
  ·rcases set_get ek with ⟨e2,_⟩|⟨nk,ek'⟩
   ·exact hjk (e1.trans e2.symm)
   ·subst e1
    have hl:j < σ.length:=by have:=(List.getElem?_eq_some_iff.mp sj).1; simpa using this
    rw [List.getElem?_set_self hl] at sj
    cases sj
    exact away k w' a nk ek' ok (by simp) (at_ nk sk)
  ·rcases set_get ek with ⟨e2,z⟩|⟨nk,ek'⟩
   ·subst e2
    have hl:k < σ.length:=by have:=(List.getElem?_eq_some_iff.mp sk).1; simpa using this
    rw [List.getElem?_set_self hl] at sk
    cases sk
    exact away j w a nj ej' oj (by simp) (at_ nj sj)
   ·exact S.sep j k w w' b hjk ej' ek' oj ok (at_ nj sj) (at_ nk sk)
 ·rcases set_get e with ⟨rfl,z⟩|⟨nj,ej⟩
  ·cases z
   have hl:j < σ.length:=by
    rw [← S.len]
    have:=(List.getElem?_eq_some_iff.mp e).1
    simpa using this
   refine ⟨fun k z hk ek=>?_,a,bs,List.getElem?_set_self hl,h0 a (by simp),hf,nd,Deep.older (fun c z=>Le.none S.gr.h z) dp,fun k w b hk ek ok m sk=>?_⟩
   ·rcases set_get ek with ⟨rfl,_⟩|⟨_,q⟩
    ·exact hk rfl
    ·exact sh k z hk q
   ·rcases set_get ek with ⟨rfl,_⟩|⟨nk,q⟩
    ·exact hk rfl
    ·rw [List.getElem?_set_ne (Ne.symm nk)] at sk
     exact away k w b hk q ok m sk
  ·exact (sh j y nj ej).elim
noncomputable def setOR (i:Nat) (ρ:Rho):En→Out
 | .od (.tup _)=>.stuck
 | .od d=>if shalB i ρ=true then .nx (ρ.set i (some (.od d))) else .stuck
 | _=>.stuck
noncomputable def sSetO (i:Nat) (e:EF):SF:=fun ρ=>sOf (e ρ) (setOR i ρ)
theorem setOR_fact {i:Nat} {ρ:Rho} {P:Out→Prop} (hP:P .stuck→False) {w:En} (h:P (setOR i ρ w)):∃ d,w=.od d∧(∀ xs,d≠.tup xs)∧shalB i ρ=true∧P (.nx (ρ.set i (some (.od d)))):=by
 unfold setOR at h
 split at h
 ·exact (hP h).elim
 ·rename_i d nt
  by_cases c:shalB i ρ=true
  ·rw [if_pos c] at h; exact ⟨d,rfl,fun xs z=>nt xs (by rw [z]),c,h⟩
  ·rw [if_neg c] at h; exact (hP h).elim
 ·exact (hP h).elim
theorem ss_setO (i:Nat) {x:Str} {ex:Expr} {f:EF} {pos':Pos} (hN:X.N.Nodup) (he:SE X F0 H0 ex f) (hi:X.N[i]?=some x:=by rfl) (hx:Loc X.env.scope x:=by trivial)
  (hs:swapsWith ex (some (.Name x pos')) pos.line X.env=pure false:=by rfl) (hf:X.fn x=true∨X.env.scope.names.lookup x=some .local:=by trivial) :
  SS X F0 H0 (.Assign [.Name x pos'] ex pos) (sSetO i f):=by
 intro pins s σ F H ρ D S I h
 refine wpAny_Assign_Name (he pins s σ F H ρ _ S I ((PostS.of h).imp fun w k v u F' H' s' g q r I'=>?_)) hs
 obtain ⟨d,rfl,nt,c,k2⟩:=setOR_fact (P:=PostS X F0 H0 F D) (fun z=>z) k
 exact store_ok I' hN hi hx r (fun s2 I2=>⟨_,H',I2,k2 _ F' H' g.f (S.setD g q nt (shal_of c))⟩) hf
theorem ss_setCG (i:Nat) {x:Str} {pos' pos₂:Pos} {n:Nat} (N:List Str) (M:∀ H₂ p,Mem (kx X) H₂ p ad mk) (hN:X.N.Nodup) (hi:SIc X F0 H0 tg iter fi) (hno:KeepsNo gf)
  (hg:∀ s₂ F₂ H₂ C fp,SG (cxD X scope N s₂ H₂ C fp) F₂ H₂ tg gf) (he:∀ s₂ F₂ H₂ C fp,SE (cxD X scope N s₂ H₂ C fp) F₂ H₂ elt e)
  (hix:X.N[i]?=some x:=by rfl) (hx:Loc X.env.scope x:=by trivial) (hsw:swapsWith (.ListComp elt [⟨tg,iter,[],0⟩] scope pos) (some (.Name x pos')) pos₂.line X.env=pure true:=by rfl)
  (hf:X.fn x=true∨X.env.scope.names.lookup x=some .local:=by trivial)
  (hc:X.calm=true:=by rfl) (hkind:scope.kind=.function:=by rfl) (hcap:capB X.env scope.names=true:=by rfl) (hslots:slotsB (relabel scope X.env).names X.N N=true:=by rfl) (hlen:N.length=X.N.length+n:=by rfl)
  (hnames:∀ x∈scope.names,x.2=.local→scope.names.lookup x.1=some .local:=by decide +kernel) (hs:∀ x,foldedSetIterable iter X.env x=pure x:=by intro _; rfl) :
  SS X F0 H0 (.Assign [.Name x pos'] (.ListComp elt [⟨tg,iter,[],0⟩] scope pos) pos₂) (sSetO i (eCompG ad mk n fi gf e)):=by
 intro pins s σ F H ρ D S I h
 rw [exec_Assign_Name_used _ _ _ _ hsw]
 refine wpAny_bind (wpAny_standAt (wpAny_bind ?_))
 show wpAny _ X.A (do let _ ← comprehension (.ListComp elt [⟨tg,iter,[],0⟩] scope pos) scope X.env _ (newList []) false (eval iter X.env) (some (assign (.Name x pos') X.env))) _ _ s
 refine wpAny_bind (wpAny_mono (comp_coreG (use:=some (assign (.Name x pos') X.env)) (Q:=fun _ s'=>SP X pins D .next s') N M hi hno hg he hc hkind hcap hslots hlen hnames hs S I ((PostS.of h).imp fun w k p C F1 H1 s1 m g q I1 hn turn hC hL hcl=>?_)) (fun _ s' hq=>wpAny_pure (wpAny_pure hq)) fun _ _ e=>e)
 obtain ⟨d,rfl,nt,c,k2⟩:=setOR_fact (P:=PostS X F0 H0 F D) (fun z=>z) k
 show wpAny _ X.A (assign (.Name x pos') X.env (.ref p)) _ _ _
 refine wpAny_assign_Name (store_ok2 I1 hN hix hx (v:=.ref p) rfl (fun s2 I2 hch=>?_) hf)
 obtain ⟨a,sb,ha⟩:=hch
 have aC:C≠a:=by
  rcases ha with z|z
  ·rw [z]; exact hL
  ·exact fun q=>hcl x a z q.symm
 refine ⟨m,hn.sameBut sb aC,fun h' sb2=>⟨_,H1,turn s2 H1 h' _ I2 hC fun b o hb e=>(sb2.2 b hb).trans e,k2 _ F1 H1 g.f (S.setD g q nt (shal_of c))⟩⟩
noncomputable def retO:En→Out
 | .od d=>.rt (.od d)
 | _=>.stuck
noncomputable def sRetO (e:EF):SF:=fun ρ=>sOf (e ρ) retO
theorem ss_retO {ex:Expr} {f:EF} (he:SE X F0 H0 ex f):SS X F0 H0 (.Return (some ex) pos) (sRetO f):=by
 intro pins s σ F H ρ D S I h
 refine wpAny_Return_some (he pins s σ F H ρ _ S I ((PostS.of h).imp fun w k v u F' H' s' g q r I'=>?_))
 cases w <;> first|exact k.elim|skip
 exact ⟨v,σ,H',I',r,k v F' H' (S.gr.trans g) (Vok.older (fun a e=>Le.none S.gr.h e) q)⟩
end
end L3
set_option Elab.async false
set_option linter.all false
set_option maxRecDepth 100000
set_option maxHeartbeats 4000000
namespace L3
open PySem PySem.Spec PyProof.Rows L2
noncomputable def sRetP (i j:Nat):SF:=fun ρ=>match ρ[i]?,ρ[j]? with
 | some (some (.ow (.lst ds))),some (some (.fz g))=>.rt (.od (.tup [.lst ds,g]))
 | _,_=>.stuck
section
variable {X:Cx} {F0 H0:Hp} {pos:Pos}
theorem ss_retP (i j:Nat) {x y:Str} {xp yp tp:Pos} {n:Nat} (hi:X.N[i]?=some x:=by rfl) (hj:X.N[j]?=some y:=by rfl)
  (vi:Vis X.env.scope x:=by trivial) (vj:Vis X.env.scope y:=by trivial)
  (d1:(x == ("__debug__":Str))=false:=by decide) (d2:(x == ("__classdict__":Str))=false:=by decide) (d3:(y == ("__debug__":Str))=false:=by decide) (d4:(y == ("__classdict__":Str))=false:=by decide)
  (s1:starEach [.Name x xp,.Name y yp] X.env=(false,eval (.Name x xp) X.env)::starEach [.Name y yp] X.env:=by rfl) (s2:starEach [.Name y yp] X.env=(false,eval (.Name y yp) X.env)::starEach [] X.env:=by rfl) :
  SS X F0 H0 (.Return (some (.Tuple [.Name x xp,.Name y yp] n tp)) pos) (sRetP i j):=by
 intro pins s σ F H ρ D S I h
 unfold sRetP at h
 split at h
 ·rename_i ds g ei ej
  obtain ⟨v,si,a,o,rfl,h0,hf,hh,ro⟩:=S.val i _ ei
  obtain ⟨vg,sj,rg⟩:=S.val j _ ej
  cases o <;> first|exact ro.elim|skip
  rename_i us
  refine ps_ret (pos:=pos) (pe_tup (pos:=tp) (x1:=n) (pa_cons (pe_var (pos:=xp) hi vi d1 d2) (pa_cons (pe_var (pos:=yp) hj vj d3 d4) pa_nil s2) s1)) pins s σ H D I ⟨_,si,_,sj,?_⟩
  refine ⟨by rw [← sz_eq]; show 2 ≤ sz; decide,fun p hp=>h (.ref p) F _ (S.gr.trans (Gr.new S.s hp)) (.inr (.inr (.inl ⟨ds,g,rfl,p,a,us,vg,rfl,Le.none S.gr.h hp,upd_same,h0,hf,?_,ro,rg⟩)))⟩
  rw [upd_ne (ne_of_none hh hp)]; exact hh
 ·exact h.elim
noncomputable def asgPR (i j:Nat) (ρ:Rho):En→Out
 | .od (.tup [.lst ds,g])=>.nx ((ρ.set i (some (.ow (.lst ds)))).set j (some (.fz g)))
 | _=>.stuck
noncomputable def sAsgP (i j:Nat) (e:EF):SF:=fun ρ=>sOf (e ρ) (asgPR i j ρ)
theorem ss_asgP (i j:Nat) {x y:Str} {xp yp tp:Pos} {n:Nat} {e:Expr} {f:EF} (hN:X.N.Nodup) (he:SE X F0 H0 e f) (hi:X.N[i]?=some x:=by rfl) (hj:X.N[j]?=some y:=by rfl)
  (li:Loc X.env.scope x:=by trivial) (lj:Loc X.env.scope y:=by trivial)
  (fi:X.fn x=true∨X.env.scope.names.lookup x=some .local:=by trivial) (fj:X.fn y=true∨X.env.scope.names.lookup y=some .local:=by trivial)
  (hc:X.calm=true:=by rfl)
  (a1:(assignEach [.Name x xp,.Name y yp] X.env).map (·.2)=assign (.Name x xp) X.env::(assignEach [.Name y yp] X.env).map (·.2):=by rfl) (a2:(assignEach [.Name y yp] X.env).map (·.2)=assign (.Name y yp) X.env::(assignEach [] X.env).map (·.2):=by rfl)
  (hn:(assignEach [.Name x xp,.Name y yp] X.env).length=2:=by rfl) (hst:(assignEach [.Name x xp,.Name y yp] X.env).findIdx? (·.1)=none:=by rfl)
  (hs:swapsWithSole [.Tuple [.Name x xp,.Name y yp] n tp] e pos.line X.env=pure false:=by rfl) (hw:swappedStores [.Tuple [.Name x xp,.Name y yp] n tp] e X.env=pure none:=by rfl)
  (h1:(assignEach [.Tuple [.Name x xp,.Name y yp] n tp] X.env).map (·.2)=[assign (.Tuple [.Name x xp,.Name y yp] n tp) X.env]:=by rfl) :
  SS X F0 H0 (.Assign [.Tuple [.Name x xp,.Name y yp] n tp] e pos) (sAsgP i j f):=by
 intro pins s σ F H ρ D S I h
 refine ps_asg (pos:=pos) (pe_sem (e:=e)) (pg_tup (pos:=tp) (k:=n) hc (pgs_cons (pg_name (pos:=xp) hN hi li fi) (pgs_cons (pg_name (pos:=yp) hN hj lj fj) pgs_nil a2) a1) hn hst) hs hw h1 pins s σ H D I (he.sem S ((PostS.of h).imp fun w k v F1 H1 g1 q1=>?_))
 unfold asgPR at k
 split at k
 ·rename_i ds g
  have q1:DV (kx X) H F1 H1 v (.tup [.lst ds,g]):=q1
  rcases q1 with ⟨_,z,_⟩|⟨_,z,_⟩|⟨ds',g',z,t,b,us,vg,rfl,t0,th,b0,bf,bh,rs,r⟩|⟨_,_,_,z,_⟩
  ·cases z
  ·cases z
  ·cases z
   have S1:=S.setW g1 (i:=i) (v:=.ref b) (w:=.ow (.lst ds)) (w':=.ow (.lst ds)) ⟨b,.lst us,rfl,b0,bf,bh,rs⟩ rfl
   exact ⟨t,[.ref b,vg],rfl,.inl (.inl th),rfl,.ref b,[vg],rfl,vg,[],rfl,rfl,k _ F1 H1 g1.f (S1.setF r)⟩
  ·cases z
 ·exact k.elim
end
noncomputable def sMove (i:Nat) (dn:Den):SF:=fun ρ=>match ρ[i]? with
 | some (some (.ow d))=>sOf ((dn [.ow d]).bind En.nm) fun w=>.nx (ρ.set i (some w))
 | _=>.stuck
noncomputable def but (H:Hp) (a:Addr):Hp:=fun c=>if c=a then none else H c
theorem but_same {H:Hp} {a:Addr}:but H a a=none:=if_pos rfl
theorem but_ne {H:Hp} {a c:Addr} (h:c≠a):but H a c=H c:=if_neg h
theorem but_le {H:Hp} {a:Addr}:Le (but H a) H:=fun c u h=>by
 by_cases e:c=a
 ·subst e; rw [but_same] at h; cases h
 ·rw [but_ne e] at h; exact h
noncomputable def spM (κ:Kx) (dn:Den):Sp:=fun vs H Q _=>∃ F a o d,vs=[.ref a]∧Le F (but H a)∧H a=some o∧OwnO κ F o d ∧
 KE (fun _=>False) (dn [.ow d]) fun w=>∀ v F' H',Gr F (but H a) F' H'→Vok κ (but H a) F' H' v w→Q v H'
section
variable {P:Program} {w:World} {K:PySem.W.Frag} {mg:Str→Option Value} {base:Heap}
theorem fnM {x qual:Str} {st:Stmt} {f:Addr} {fd:FuncData} {N:List Str} {p:Str} {k:Nat} {body:SF} (F:Fun K x qual st f fd) (S:FnScope N [p] (defScope st)) (hN:0 < N.length)
  (h:∀ (cdv:Value) (A:Around) (outer:List Env) (s:Shared) (H F0 H0:Hp),Room k (A.deeper (envOfC qual (defScope st) s.heap.objs.size f cdv)) →
   SSs (cxOf CX0 P w K mg base N qual (defScope st) f cdv A outer s H E0).nox F0 H0 (defBody st) body):FnOk P w K mg base CX0 (k+1) f fd [p] (spM ⟨P,w,K⟩ (den N.length body)):=by
 refine F.ok S (fun vs H Q E q=>by obtain ⟨_,_,_,_,rfl,_⟩:=q; rfl) (fun cdv A outer s H vs Q E hr q=>?_)
 obtain ⟨F0,a,o,d,rfl,l,ho,ro,q⟩:=q
 refine ⟨tSemS _ _,pss_sem,fun pins s' I=>?_⟩
 have B:=h cdv A outer s H F0 (but H a) hr
 have B':SSs (cxOf CX0 P w K mg base N qual (defScope st) f cdv A outer s H E).nox F0 (but H a) (defBody st) body:=B
 have fa:F0 a=none:=Le.none l but_same
 have st0:StOk ⟨P,w,K⟩ F0 (but H a) F0 H ([En.ow d].map some++List.replicate (N.length - [En.ow d].length) none) (L2.start N [.ref a]):=by
  have at_:∀ (i:Nat) (w:En),([En.ow d].map some++List.replicate (N.length - [En.ow d].length) none)[i]?=some (some w)→i=0∧w=.ow d:=fun i w e=>by
   cases i with
   | zero=>simp at e; exact ⟨rfl,e.symm⟩
   | succ i =>
    simp only [List.map_cons,List.map_nil,List.cons_append,List.nil_append,List.getElem?_cons_succ,List.getElem?_replicate] at e
    split at e <;> cases e
  refine ⟨⟨Le.refl,but_le,Le.trans l but_le,fun _ z=>.inl z⟩,by simp [L2.start],fun i w e=>?_,fun i j w w' b hij ei ej oi oj si sj=>?_,fun i y e=>?_⟩
  ·obtain ⟨rfl,rfl⟩:=at_ i w e
   exact ⟨.ref a,by simp [L2.start],a,o,rfl,but_same,fa,ho,ro⟩
  ·exact hij ((at_ i w ei).1.trans (at_ j w' ej).1.symm)
  ·cases (at_ i _ e).2
 refine B' pins s' (L2.start N [.ref a]) F0 H _ _ st0 I ?_
 have e:KE (fun _=>False) (den N.length body [.ow d]) fun w'=>∀ v F' H',Gr F0 (but H a) F' H'→Vok ⟨P,w,K⟩ (but H a) F' H' v w'→Q v H':=q
 unfold den fin at e
 cases eb:body ([En.ow d].map some++List.replicate (N.length - [En.ow d].length) none) with
 | nx ρ=>rw [eb] at e; exact fun σ' F' H' l' S'=>e .non F' H' S'.gr rfl
 | rt w'=>rw [eb] at e; exact e
 | bk ρ=>rw [eb] at e; exact e.elim
 | ct ρ=>rw [eb] at e; exact e.elim
 | exc x=>rw [eb] at e; exact e.elim
 | stuck=>rw [eb] at e; exact e.elim
end
theorem StOk.forget {κ:Kx} {F0 H0 F H:Hp} {ρ:Rho} {σ:St} {i:Nat} {d:D} {a:Addr} (S:StOk κ F0 H0 F H ρ σ) (ei:ρ[i]?=some (some (.ow d))) (si:σ[i]?=some (some (.ref a))):StOk κ F0 H0 F (but H a) (ρ.set i none) σ:=by
 obtain ⟨v,e1,b,o,rfl,h0,hf,hh,ro⟩:=S.val i _ ei
 rw [si] at e1
 cases e1
 refine ⟨⟨S.gr.f,fun c u h=>?_,fun c u h=>?_,S.gr.n⟩,by simpa using S.len,fun j w e=>?_,fun j k w w' c hjk ej ek oj ok sj sk=>?_,fun j y e=>?_⟩
 ·rw [but_ne (ne_of_none h h0)]; exact S.gr.h c u h
 ·rw [but_ne (ne_of_none h hf)]; exact S.gr.s c u h
 ·rcases set_get e with ⟨_,z⟩|⟨ne,z⟩
  ·cases z
  obtain ⟨v,e1,q⟩:=S.val j w z
  refine ⟨v,e1,?_⟩
  have nb:∀ {c},v=.ref c→w.own=true→c≠a:=fun {c} ev ow ec=>by
   subst ev ec
   exact S.sep j i w _ c ne z ei ow rfl e1 si
  cases w with
  | fz d=>exact q
  | br d=>exact q
  | ow d=>obtain ⟨c,oc,ec,c0,cf,ch,cr⟩:=q; exact ⟨c,oc,ec,c0,cf,(but_ne (nb ec rfl)).trans ch,cr⟩
  | lk d=>exact q
  | od d=>obtain ⟨c,oc,ec,c0,cf,ch,nt⟩:=q; exact ⟨c,oc,ec,c0,cf,(but_ne (nb ec rfl)).trans ch,nt⟩
 ·rcases set_get ej with ⟨_,z⟩|⟨nj,ej⟩
  ·cases z
  rcases set_get ek with ⟨_,z⟩|⟨nk,ek⟩
  ·cases z
  exact S.sep j k w w' c hjk ej ek oj ok sj sk
 ·rcases set_get e with ⟨_,z⟩|⟨nj,ej⟩
  ·cases z
  obtain ⟨s1,c,bs,e1,c0,cf,nd,dp,sp⟩:=S.dp j y ej
  have nb:∀ x∈c::bs,x≠a:=fun x m z=>by subst z; exact sp i _ _ (Ne.symm nj) ei rfl m si
  refine ⟨fun k z hk ek=>?_,c,bs,e1,c0,cf,nd,Deep.same (fun x m=>(but_ne (nb x m)).symm) (fun x m z=>z) Le.refl dp,fun k w x hk ek ok m=>?_⟩
  ·rcases set_get ek with ⟨_,q⟩|⟨_,q⟩
   ·cases q
   ·exact s1 k z hk q
  ·rcases set_get ek with ⟨_,q⟩|⟨_,q⟩
   ·cases q
   ·exact sp k w x hk q ok m
section
variable {X:Cx} {F0 H0:Hp} {pos:Pos}
theorem ss_move (i:Nat) {x fx p:Str} {xp np fp pos':Pos} {k:Nat} {f:Addr} {fd:FuncData} {dn:Den} (hN:X.N.Nodup) (G:FnOk X.prog X.w X.K X.mg X.base CX0 k f fd [p] (spM (kx X) dn)) (hr:Room k X.A) (hm:X.mg fx=some (.ref f)) (hk:PySem.W.keepIn X.K (.ref f)=true) (hb:Binds X.K fd [p] [])
  (hi:X.N[i]?=some x:=by rfl) (vi:Vis X.env.scope x:=by trivial) (li:Loc X.env.scope x:=by trivial)
  (d1:(x == ("__debug__":Str))=false:=by decide) (d2:(x == ("__classdict__":Str))=false:=by decide) (hf:X.fn x=true∨X.env.scope.names.lookup x=some .local:=by trivial)
  (hg:Gl X fx:=by rfl) (hdb:(fx == ("__debug__":Str))=false:=by decide) (s1:starEach [.Name x np] X.env=(false,eval (.Name x np) X.env)::starEach [] X.env:=by rfl) (hpl:(backTo pos' (starEach [] X.env)).any (·.1)=false:=by rfl)
  (hs:swapsWith (.Call (.Name fx fp) [.Name x np] [] pos') (some (.Name x xp)) pos.line X.env=pure false:=by rfl) :
  SS X F0 H0 (.Assign [.Name x xp] (.Call (.Name fx fp) [.Name x np] [] pos') pos) (sMove i dn):=by
 intro pins s σ F H ρ D S I h
 unfold sMove at h
 split at h
 ·rename_i d ei
  obtain ⟨v,si,a,o,rfl,h0,hf',hh,ro⟩:=S.val i _ ei
  refine ps_set (pos:=pos) (pos':=xp) hN hi li (pe_call (pos:=pos') (p:=fp) G hr hg hm hk hb .nil pass0 (pa_cons (pe_var (pos:=np) hi vi d1 d2) pa_nil s1) hdb s1 hpl) hs hf pins s σ H D I ⟨_,si,?_⟩
  have h:=KE.bind (PostS.of h)
  have S1:=S.forget ei si
  refine ⟨F,a,o,d,rfl,fun c u z=>(but_ne (ne_of_none z hf')).trans (S.s c u z),hh,ro,KE.impX h (fun w k v F' H' g q=>?_) fun _ z=>z.elim⟩
  obtain ⟨w',e1,k2,rfl⟩:=nm_ok k
  have S2:=S1.setW g (i:=i) q e1
  rw [List.set_set] at S2
  exact k2 _ F' H' g.f S2
 ·exact h.elim
end
section
variable {κ:Kx} {H0 F H:Hp}
end
section
variable {X:Cx} {F0 H0:Hp} {pos:Pos}
end
end L3
set_option Elab.async false
set_option linter.all false
set_option maxRecDepth 100000
set_option maxHeartbeats 4000000
namespace L3
open PySem PySem.Spec PyProof.Rows L2
section
variable {X:Cx} {F0 H0:Hp} {tg:Expr} {pos:Pos}
noncomputable def setSR (i:Nat) (ρ:Rho):En→Out
 | .od (.dK kds)=>if shalB i ρ=true then .nx (ρ.set i (some (.ow (.lst (kds.map Prod.snd))))) else .stuck
 | _=>.stuck
noncomputable def sSetS (i:Nat) (e:EF):SF:=fun ρ=>sOf (e ρ) (setSR i ρ)
theorem ss_setS (i:Nat) {x:Str} {ex:Expr} {f:EF} {pos':Pos} (hN:X.N.Nodup) (he:SE X F0 H0 ex f) (hi:X.N[i]?=some x:=by rfl) (hx:Loc X.env.scope x:=by trivial)
  (hs:swapsWith ex (some (.Name x pos')) pos.line X.env=pure false:=by rfl) (hf:X.fn x=true∨X.env.scope.names.lookup x=some .local:=by trivial) :
  SS X F0 H0 (.Assign [.Name x pos'] ex pos) (sSetS i f):=by
 intro pins s σ F H ρ D S I h
 refine wpAny_Assign_Name (he pins s σ F H ρ _ S I ((PostS.of h).imp fun w k v u F' H' s' g q r I'=>?_)) hs
 unfold setSR at k
 split at k
 ·rename_i kds
  by_cases c:shalB i ρ=true
  ·rw [if_pos c] at k
   have S1:=S.setD (i:=i) g q (fun xs z=>by cases z) (shal_of c)
   refine store_ok I' hN hi hx r (fun s2 I2=>?_) hf
   by_cases hl:i < ρ.length
   ·have e1:(ρ.set i (some (.od (.dK kds))))[i]?=some (some (.od (.dK kds))):=List.getElem?_set_self hl
    obtain ⟨F2,l2,S2⟩:=S1.shutG (d':=.lst (kds.map Prod.snd)) e1 fun a bs o dp inn l ho=>by
     obtain ⟨b1,css,rfl,h1,h2⟩:=dp
     rw [ho] at h1
     cases h1
     exact In2.reps h2 (fun b m=>inn b m) l
    rw [List.set_set] at S2
    exact ⟨_,H',I2,k _ F2 H' (Le.trans g.f l2) S2⟩
   ·have e0:∀ y:Option En,ρ.set i y=ρ:=fun y=>List.set_eq_of_length_le (by (first|lia|omega))
    rw [e0] at S1 k
    exact ⟨_,H',I2,k _ F' H' g.f S1⟩
  ·rw [if_neg c] at k; exact k.elim
 ·exact k.elim
end
end L3
set_option Elab.async false
set_option linter.all false
set_option maxRecDepth 100000
set_option maxHeartbeats 4000000
namespace L3
open PySem PySem.Spec PyProof.Rows L2
inductive EntS (w:World) (K:PySem.W.Frag):List DictEntry→List (Sum Int Str×D)→Prop
 | nil:EntS w K [] []
 | cons {e:DictEntry} {es:List DictEntry} {x:Str} {t:Tok} {d:D} {r:List (Sum Int Str×D)}:e.key=.str x t→e.hash=hashStr w x→datIn K 8 e.val=some d→EntS w K es r→EntS w K (e::es) ((.inr x,d)::r)
noncomputable def DatS (w:World) (K:PySem.W.Frag) (a:Addr) (l:List (Sum Int Str×D)):Prop:=∃ o es ep,K.lookup a=some o∧o.data=.dict es ep∧(o.cls == Value.type "dict" && o.dict == none && o.slots.size == 0 && !(a == sysModules))=true∧(l.map (·.1)).Nodup∧EntS w K es.toList l
theorem entS_ok {κ:Kx} {es:List DictEntry} {l:List (Sum Int Str×D)} (h:EntS κ.w κ.K es l) :
  ∃ kvs vs,KV kvs vs∧PySem.Pairs (mixKind κ.P κ.w) es vs∧vs.map (·.1)=l.map (·.1)∧(∀ e∈es,∃ k,(mixKind κ.P κ.w).is k e.key=true∧e.hash=(mixKind κ.P κ.w).hash k)∧∀ F,RepK κ F kvs l:=by
 induction h with
 | nil=>exact ⟨[],[],.nil,.nil,rfl,fun e he=>(nomatch he),fun _=>rfl⟩
 | @cons e es x t d r ek eh ed _ ih =>
  obtain ⟨kvs,vs,r1,r2,r3,r4,r5⟩:=ih
  obtain ⟨v,rv,qv⟩:=datIn_ok 8 e.val d ed
  have hk:(mixKind κ.P κ.w).is (Sum.inr x) e.key=true:=by rw [ek]; exact mixKind_str _ _ x t
  refine ⟨(Sum.inr x,v)::kvs,(Sum.inr x,e.val)::vs,.cons ⟨rfl,rv⟩ r1,.cons hk rfl r2,by simp [r3],fun e' he=>?_,fun F=>⟨v,kvs,rfl,qv F,r5 F⟩⟩
  rcases List.mem_cons.mp he with z|he
  ·subst z; exact ⟨Sum.inr x,hk,eh⟩
  ·exact r4 e' he
theorem datS_ok {κ:Kx} {a:Addr} {l:List (Sum Int Str×D)} (h:DatS κ.w κ.K a l):∃ x,RelV x (.ref a)∧∀ F,Rep κ F x (.dK l):=by
 obtain ⟨o,es,ep,lk,ed,c,nd,en⟩:=h
 simp only [Bool.and_eq_true] at c
 obtain ⟨⟨⟨c1,c2⟩,c3⟩,c4⟩:=c
 obtain ⟨kvs,vs,r1,r2,r3,r4,r5⟩:=entS_ok en
 have hsl:o.slots=#[]:=by
  have:o.slots.size=0:=by simpa using c3
  exact Array.eq_empty_of_size_eq_zero this
 exact ⟨.ref a,rfl,fun F=>⟨a,kvs,rfl,.inr ⟨by simpa using c4,o,es,ep,vs,lk,⟨by simpa using c1,by simpa using c2,hsl⟩,ed,fun e he=>r4 e (by simpa using he),r2,by rw [r3]; exact nd,r1⟩,r5 F⟩⟩
end L3
set_option Elab.async false
set_option linter.all false
set_option maxRecDepth 100000
set_option maxHeartbeats 4000000
namespace L3
open PySem PySem.Spec PyProof.Rows L2
section
open PySem.SeqAt PySem.MeetsSeq PySem.MeetsSeq2 PySem.MeetsSeq3
open PySem.AutoSeq1 (wpAny_loadPart')
end
section
variable {X:Cx}
end
section
variable {X:Cx}
end
section
variable {X:Cx} {F0 H0:Hp}
end
end L3
set_option Elab.async false
set_option linter.all false
set_option maxRecDepth 100000
set_option maxHeartbeats 4000000
namespace L3
open PySem L2
section
variable {X:Cx}
end
section
variable {prog:Program} {w:World} {A:Around} {R:Result→Shared→Prop} {I l S:Addr} {us:List Value} {rk:Value→List Int} {h0:Heap} {M:List Int}
end
end L3
set_option Elab.async false
set_option linter.all false
set_option maxRecDepth 100000
set_option maxHeartbeats 4000000
namespace L3
open PySem PySem.Spec PyProof.Rows L2
end L3
set_option Elab.async false
set_option linter.all false
set_option maxRecDepth 100000
set_option maxHeartbeats 4000000
namespace L3
open PySem PySem.Spec PyProof.Rows L2
section
variable {prog:Program} {w:World} {A:Around} {E:Value→Shared→Prop} {s:Shared}
end
section
variable {prog:Program} {w:World} {A:Around} {E:Value→Shared→Prop} {s:Shared}
end
end L3
set_option Elab.async false
set_option linter.all false
set_option maxRecDepth 100000
set_option maxHeartbeats 4000000
namespace L3
open PySem PySem.Spec PyProof.Rows L2
noncomputable def raiseOf (dn:Den) (fa:List EF) (ρ:Rho):Option Xc:=match evs fa ρ with
 | .ok ws=>(match argAll ws with
  | .ok ys=>(match dn ys with
   | .exc x=>some x
   | _=>none)
  | _=>none)
 | _=>none
noncomputable def sX (dn:Den) (fa:List EF) (st:SF):SF:=fun ρ=>match raiseOf dn fa ρ with
 | some x=>.exc (nrm x)
 | none=>st ρ
section
variable {X:Cx} {F0 H0:Hp} {pos p pos2:Pos} {e:Expr} {es:List Expr} {fa:List EF} {x:Str} {k n:Nat} {f:Addr} {fd:FuncData} {ps:List Str} {dn:Den} {st:SF}
end
end L3
set_option Elab.async false
set_option linter.all false
set_option maxRecDepth 100000
set_option maxHeartbeats 4000000
namespace L3
open PySem PySem.Spec PyProof.Rows L2
noncomputable def gallop':Bool→Keyed→Array Keyed→Nat→Nat→Nat→StateT SortSt Sem (Option Nat):=sortPriv% PySem.Builtin.gallop
noncomputable def setMinGallop':Nat→StateT SortSt Sem Unit:=sortPriv% PySem.Builtin.setMinGallop
noncomputable def mergeLo':Array Keyed→Array Keyed→StateT SortSt Sem (Array Keyed):=sortPriv% PySem.Builtin.mergeLo
noncomputable def mergeHi':Array Keyed→Array Keyed→StateT SortSt Sem (Array Keyed):=sortPriv% PySem.Builtin.mergeHi
section
variable {prog:Program} {w:World} {A:Around} {E:Value→Shared→Prop} {s:Shared} {kd:SortKind} {rk:Value→Int} {ini:Array Keyed}
theorem ask2 {st:SortSt} {p q:Keyed} {Q:Option Bool→SortSt→Prop} (T:Tells prog w A s kd rk ini) (hk:kindOf st=kd) (hp:p∈ini.toList) (hq:q∈ini.toList) (h:Q (some (decide (rk p.1 < rk q.1))) st):wpS (model prog w) A E s (lt' p q) Q st:=by
 rw [lt'_eq]
 refine wpS_bind (wpS_get ?_)
 rw [hk]
 exact wpS_bind (wpS_lift (wpAny_attempt (T.lt p hp q hq _ _ ⟨rfl,wpS_pure h⟩)))
theorem at_ok {st:SortSt} {xs:Array Keyed} {i:Nat} {p:Keyed} {Q:Keyed→SortSt→Prop} (h:xs[i]?=some p) (q:Q p st):wpS (model prog w) A E s (elem' xs i) Q st:=by
 rw [elem'_eq,h]
 exact wpS_pure q
noncomputable abbrev bey (left:Bool) (key:Keyed) (arr:Array Keyed) (base i:Nat):StateT SortSt Sem (Option Bool):=elem' arr (base+i) >>= fun x=>if left=true then lt' x key else lt' key x >>= fun o=>pure (o.map not)
theorem bey_ok {st:SortSt} {left:Bool} {key p:Keyed} {arr:Array Keyed} {base i:Nat} {Q:Option Bool→SortSt→Prop} (T:Tells prog w A s kd rk ini) (hk:kindOf st=kd) (hkey:key∈ini.toList) (hp:arr[base+i]?=some p) (hpi:p∈ini.toList) (ne:rk p.1≠rk key.1)
  (h:Q (some (decide (rk p.1 < rk key.1))) st):wpS (model prog w) A E s (bey left key arr base i) Q st:=by
 refine wpS_bind (at_ok hp ?_)
 cases left
 ·rw [if_neg (by decide)]
  refine wpS_bind (ask2 T hk hkey hpi ?_)
  refine wpS_pure ?_
  have e:(!decide (rk key.1 < rk p.1))=decide (rk p.1 < rk key.1):=by
   by_cases c:rk key.1 < rk p.1
   ·simp [c]; (first|lia|omega)
   ·simp [c]; (first|lia|omega)
  simpa [e] using h
 ·rw [if_pos rfl]
  exact ask2 T hk hpi hkey h
structure Seg (rk:Value→Int) (ini arr:Array Keyed) (key:Keyed) (base n:Nat):Prop where
 sz:base+n ≤ arr.size
 mem:∀ p∈arr.toList,p∈ini.toList
 hkey:key∈ini.toList
 up:∀ i j,i < j→j < n→av rk arr (base+i) < av rk arr (base+j)
 ne:∀ i,i < n→av rk arr (base+i)≠rk key.1
theorem Seg.get {arr:Array Keyed} {key:Keyed} {base n:Nat} (S:Seg rk ini arr key base n) {i:Nat} (h:i < n):∃ p,arr[base+i]?=some p∧p∈ini.toList∧av rk arr (base+i)=rk p.1:=by
 have hi:base+i < arr.size:=by have:=S.sz; (first|lia|omega)
 refine ⟨arr[base+i],getElem?_pos arr (base+i) hi,S.mem _ (by simp),?_⟩
 unfold av
 rw [getElem?_pos arr (base+i) hi]
theorem Seg.ask {st:SortSt} {left:Bool} {key:Keyed} {arr:Array Keyed} {base n i:Nat} {Q:Option Bool→SortSt→Prop} (T:Tells prog w A s kd rk ini) (hk:kindOf st=kd) (S:Seg rk ini arr key base n) (h:i < n)
  (q:Q (some (decide (av rk arr (base+i) < rk key.1))) st):wpS (model prog w) A E s (bey left key arr base i) Q st:=by
 obtain ⟨p,h1,h2,h3⟩:=S.get h
 have ne:=S.ne i h
 rw [h3] at ne q
 exact bey_ok T hk S.hkey h1 h2 ne q
theorem Seg.le {arr:Array Keyed} {key:Keyed} {base n:Nat} (S:Seg rk ini arr key base n) {i j:Nat} (h:i ≤ j) (hj:j < n):av rk arr (base+i) ≤ av rk arr (base+j):=by
 rcases Nat.lt_or_ge i j with c|c
 ·exact Int.le_of_lt (S.up i j c hj)
 ·rw [show i=j by (first|lia|omega)]; exact Int.le_refl _
noncomputable def Place (rk:Value→Int) (arr:Array Keyed) (key:Keyed) (base n k:Nat):Prop:=k ≤ n∧(∀ i,i < k→av rk arr (base+i) < rk key.1)∧∀ i,k ≤ i→i < n→rk key.1 < av rk arr (base+i)
theorem gallop_ok {st:SortSt} {left:Bool} {key:Keyed} {arr:Array Keyed} {base n hint:Nat} {Q:Option Nat→SortSt→Prop} (T:Tells prog w A s kd rk ini) (hk:kindOf st=kd) (S:Seg rk ini arr key base n) (hh:hint < n)
  (h:∀ k,Place rk arr key base n k→Q (some k) st):wpS (model prog w) A E s (gallop' left key arr base n hint) Q st:=by
 have fin:∀ (f:Nat→Option (Option Nat)×Nat×Nat→StateT SortSt Sem (ForInStep (Option (Option Nat)×Nat×Nat))) (lo hi:Nat),
   (∀ (x l r:Nat) (R:ForInStep (Option (Option Nat)×Nat×Nat)→SortSt→Prop),r ≤ n→(r ≤ l→R (.done (none,l,r)) st)→(l < r→R (if av rk arr (base+(l+(r - l) / 2)) < rk key.1 then .yield (none,l+(r - l) / 2+1,r) else .yield (none,l,l+(r - l) / 2)) st)→wpS (model prog w) A E s (f x (none,l,r)) R st) →
   lo ≤ hi→hi ≤ n→(∀ i,i < lo→av rk arr (base+i) < rk key.1)→(∀ i,hi ≤ i→i < n→rk key.1 < av rk arr (base+i)) →
   wpS (model prog w) A E s (forIn [:n] ((none,lo,hi):Option (Option Nat)×Nat×Nat) f) (fun c z=>c.1=none∧z=st∧Place rk arr key base n c.2.2) st:=by
  intro f lo hi hf l1 l2 l3 l4
  refine wpS_forRange (fun x c z=>z=st∧∃ lo hi,c=(none,lo,hi)∧lo ≤ hi∧hi ≤ n∧hi - lo ≤ n - x∧(∀ i,i < lo→av rk arr (base+i) < rk key.1)∧(∀ i,hi ≤ i→i < n→rk key.1 < av rk arr (base+i))) (fun x c z _ lx hI=>?_) (fun c z hI=>?_) ⟨rfl,lo,hi,rfl,l1,l2,by (first|lia|omega),l3,l4⟩
  ·obtain ⟨rfl,lo,hi,rfl,a1,a2,a3,a4,a5⟩:=hI
   refine hf x lo hi _ a2 (fun c=>?_) fun c=>?_
   ·have e:lo=hi:=by (first|lia|omega)
    subst e
    exact ⟨rfl,rfl,a2,a4,a5⟩
   ·by_cases d:av rk arr (base+(lo+(hi - lo) / 2)) < rk key.1
    ·rw [if_pos d]
     refine ⟨rfl,_,_,rfl,by (first|lia|omega),a2,by (first|lia|omega),fun i hi'=>?_,a5⟩
     have:=S.le (i:=i) (j:=lo+(hi - lo) / 2) (by (first|lia|omega)) (by (first|lia|omega))
     (first|lia|omega)
    ·rw [if_neg d]
     refine ⟨rfl,_,_,rfl,by (first|lia|omega),by (first|lia|omega),by (first|lia|omega),a4,fun i g1 g2=>?_⟩
     have:=S.le (i:=lo+(hi - lo) / 2) (j:=i) g1 g2
     have:=S.ne (lo+(hi - lo) / 2) (by (first|lia|omega))
     (first|lia|omega)
  ·obtain ⟨rfl,lo,hi,rfl,a1,a2,a3,a4,a5⟩:=hI
   have e:lo=hi:=by (first|lia|omega)
   subst e
   exact ⟨rfl,rfl,a2,a4,a5⟩
 refine wpS_bind (m:=bey left key arr base hint) (S.ask T hk hh ?_)
 dsimp only
 by_cases c:av rk arr (base+hint) < rk key.1
 ·rw [decide_eq_true c,if_pos rfl]
  refine wpS_bind (wpS_mono (wpS_forRange (fun x c z=>z=st∧∃ lf of,c=(none,lf,of)∧lf < of∧lf < n - hint∧x+1 ≤ of∧av rk arr (base+(hint+lf)) < rk key.1)
   (Q:=fun c z=>z=st∧∃ lf of,c=(none,lf,of)∧lf < of∧lf < n - hint∧av rk arr (base+(hint+lf)) < rk key.1∧(n - hint ≤ of∨rk key.1 < av rk arr (base+(hint+of)))) (fun x c z _ lx hI=>?_) (fun c z hI=>?_) ⟨rfl,0,1,rfl,by (first|lia|omega),by (first|lia|omega),by (first|lia|omega),by simpa using c⟩) fun c z hc=>?_)
  ·obtain ⟨rfl,lf,of,rfl,a1,a2,a3,a4⟩:=hI
   dsimp only
   by_cases d:of ≥ n - hint
   ·rw [if_pos d]
    exact wpS_pure ⟨rfl,lf,of,rfl,a1,a2,a4,.inl d⟩
   ·rw [if_neg d]
    refine wpS_bind (m:=bey left key arr base (hint+of)) (S.ask T hk (by (first|lia|omega)) ?_)
    by_cases e:av rk arr (base+(hint+of)) < rk key.1
    ·rw [decide_eq_true e]
     exact wpS_pure ⟨rfl,of,2 * of+1,rfl,by (first|lia|omega),by (first|lia|omega),by (first|lia|omega),e⟩
    ·rw [decide_eq_false e]
     have:=S.ne (hint+of) (by (first|lia|omega))
     exact wpS_pure ⟨rfl,lf,of,rfl,a1,a2,a4,.inr (by (first|lia|omega))⟩
  ·obtain ⟨rfl,lf,of,rfl,a1,a2,a3,a4⟩:=hI
   exact ⟨rfl,lf,of,rfl,a1,a2,a4,.inl (by (first|lia|omega))⟩
  ·obtain ⟨rfl,lf,of,rfl,a1,a2,a4,a5⟩:=hc
   dsimp only
   refine wpS_bind (wpS_mono (fin _ (hint+lf+1) (hint+min of (n - hint)) (fun x l r R hr g1 g2=>by
    dsimp only
    by_cases d:l ≥ r
    ·rw [if_pos d]
     exact wpS_pure (g1 d)
    ·rw [if_neg d]
     have g2:=g2 (by (first|lia|omega))
     refine wpS_bind (m:=bey left key arr base (l+(r - l) / 2)) (S.ask T hk (by (first|lia|omega)) ?_)
     by_cases e:av rk arr (base+(l+(r - l) / 2)) < rk key.1
     ·rw [if_pos e] at g2
      rw [decide_eq_true e]
      exact wpS_pure g2
     ·rw [if_neg e] at g2
      rw [decide_eq_false e]
      exact wpS_pure g2) (by (first|lia|omega)) (by (first|lia|omega)) (fun i hi=>?_) fun i g1 g2=>?_) fun c z hc=>?_)
   ·have:=S.le (i:=i) (j:=hint+lf) (by (first|lia|omega)) (by (first|lia|omega))
    (first|lia|omega)
   ·rcases a5 with a5|a5
    ·(first|lia|omega)
    ·have:=S.le (i:=hint+of) (j:=i) (by (first|lia|omega)) g2
     (first|lia|omega)
   ·obtain ⟨c1,rfl,pl⟩:=hc
    rw [c1]
    exact wpS_pure (h _ pl)
 ·rw [decide_eq_false c,if_neg (by decide)]
  have ne0:=S.ne hint hh
  refine wpS_bind (wpS_mono (wpS_forRange (fun x c z=>z=st∧∃ lf of,c=(none,lf,of)∧lf < of∧lf ≤ hint∧x+1 ≤ of∧rk key.1 < av rk arr (base+(hint - lf)))
   (Q:=fun c z=>z=st∧∃ lf of,c=(none,lf,of)∧lf < of∧lf ≤ hint∧rk key.1 < av rk arr (base+(hint - lf))∧(hint+1 ≤ of∨(of ≤ hint∧av rk arr (base+(hint - of)) < rk key.1))) (fun x c z _ lx hI=>?_) (fun c z hI=>?_) ⟨rfl,0,1,rfl,by (first|lia|omega),by (first|lia|omega),by (first|lia|omega),by simp; (first|lia|omega)⟩) fun c z hc=>?_)
  ·obtain ⟨rfl,lf,of,rfl,a1,a2,a3,a4⟩:=hI
   dsimp only
   by_cases d:of ≥ hint+1
   ·rw [if_pos d]
    exact wpS_pure ⟨rfl,lf,of,rfl,a1,a2,a4,.inl d⟩
   ·rw [if_neg d]
    refine wpS_bind (m:=bey left key arr base (hint - of)) (S.ask T hk (by (first|lia|omega)) ?_)
    by_cases e:av rk arr (base+(hint - of)) < rk key.1
    ·rw [decide_eq_true e]
     exact wpS_pure ⟨rfl,lf,of,rfl,a1,a2,a4,.inr ⟨by (first|lia|omega),e⟩⟩
    ·rw [decide_eq_false e]
     have:=S.ne (hint - of) (by (first|lia|omega))
     exact wpS_pure ⟨rfl,of,2 * of+1,rfl,by (first|lia|omega),by (first|lia|omega),by (first|lia|omega),by (first|lia|omega)⟩
  ·obtain ⟨rfl,lf,of,rfl,a1,a2,a3,a4⟩:=hI
   exact ⟨rfl,lf,of,rfl,a1,a2,a4,.inl (by (first|lia|omega))⟩
  ·obtain ⟨rfl,lf,of,rfl,a1,a2,a4,a5⟩:=hc
   dsimp only
   refine wpS_bind (wpS_mono (fin _ (hint+1 - min of (hint+1)) (hint - lf) (fun x l r R hr g1 g2=>by
    dsimp only
    by_cases d:l ≥ r
    ·rw [if_pos d]
     exact wpS_pure (g1 d)
    ·rw [if_neg d]
     have g2:=g2 (by (first|lia|omega))
     refine wpS_bind (m:=bey left key arr base (l+(r - l) / 2)) (S.ask T hk (by (first|lia|omega)) ?_)
     by_cases e:av rk arr (base+(l+(r - l) / 2)) < rk key.1
     ·rw [if_pos e] at g2
      rw [decide_eq_true e]
      exact wpS_pure g2
     ·rw [if_neg e] at g2
      rw [decide_eq_false e]
      exact wpS_pure g2) (by (first|lia|omega)) (by (first|lia|omega)) (fun i hi=>?_) fun i g1 g2=>?_) fun c z hc=>?_)
   ·rcases a5 with a5|⟨a5,a6⟩
    ·(first|lia|omega)
    ·have:=S.le (i:=i) (j:=hint - of) (by (first|lia|omega)) (by (first|lia|omega))
     (first|lia|omega)
   ·have:=S.le (i:=hint - lf) (j:=i) g1 g2
    (first|lia|omega)
   ·obtain ⟨c1,rfl,pl⟩:=hc
    rw [c1]
    exact wpS_pure (h _ pl)
end
end L3
namespace L3
open PySem PySem.Spec PyProof.Rows L2
section
variable {rk:Value→Int} {ini:Array Keyed}
noncomputable abbrev Ris (rk:Value→Int) (l:List Keyed):Prop:=l.Pairwise fun p q=>rk p.1 < rk q.1
noncomputable abbrev Blw (rk:Value→Int) (l m:List Keyed):Prop:=∀ p∈l,∀ q∈m,rk p.1 < rk q.1
structure JL (rk:Value→Int) (a b:List Keyed) (o:List Keyed) (ia ib:Nat):Prop where
 la:ia ≤ a.length
 lb:ib ≤ b.length
 pm:o.Perm (a.take ia++b.take ib)
 up:Ris rk o
 ba:Blw rk o (a.drop ia)
 bb:Blw rk o (b.drop ib)
theorem JL.len {a b o:List Keyed} {ia ib:Nat} (J:JL rk a b o ia ib):o.length=ia+ib:=by
 have:=J.pm.length_eq
 rw [List.length_append,List.length_take,List.length_take,Nat.min_eq_left J.la,Nat.min_eq_left J.lb] at this
 exact this
theorem ris_drop {l:List Keyed} {i k:Nat} (h:Ris rk l):Blw rk ((l.drop i).take k) (l.drop (i+k))∧Ris rk ((l.drop i).take k):=by
 have h1:Ris rk (l.drop i):=h.drop
 have e:l.drop i=(l.drop i).take k++l.drop (i+k):=by rw [← List.drop_drop,List.take_append_drop]
 rw [e] at h1
 obtain ⟨x,_,z⟩:=List.pairwise_append.mp h1
 exact ⟨fun p hp q hq=>z p hp q hq,x⟩
theorem JL.chunkA {a b o:List Keyed} {ia ib:Nat} (J:JL rk a b o ia ib) (ra:Ris rk a) {k:Nat} (hk:ia+k ≤ a.length) (h:Blw rk ((a.drop ia).take k) (b.drop ib)):JL rk a b (o++(a.drop ia).take k) (ia+k) ib:=by
 obtain ⟨c1,c2⟩:=ris_drop (i:=ia) (k:=k) ra
 have sub:∀ p∈(a.drop ia).take k,p∈a.drop ia:=fun p hp=>List.mem_of_mem_take hp
 have sub2:∀ p∈a.drop (ia+k),p∈a.drop ia:=fun p hp=>by rw [← List.drop_drop] at hp; exact List.mem_of_mem_drop hp
 refine ⟨hk,J.lb,?_,List.pairwise_append.mpr ⟨J.up,c2,fun p hp q hq=>J.ba p hp q (sub q hq)⟩,fun p hp q hq=>?_,fun p hp q hq=>?_⟩
 ·rw [List.take_add]
  refine (J.pm.append_right _).trans ?_
  rw [List.append_assoc,List.append_assoc]
  exact List.Perm.append_left _ List.perm_append_comm
 ·rcases List.mem_append.mp hp with hp|hp
  ·exact J.ba p hp q (sub2 q hq)
  ·exact c1 p hp q hq
 ·rcases List.mem_append.mp hp with hp|hp
  ·exact J.bb p hp q hq
  ·exact h p hp q hq
theorem JL.chunkB {a b o:List Keyed} {ia ib:Nat} (J:JL rk a b o ia ib) (rb:Ris rk b) {k:Nat} (hk:ib+k ≤ b.length) (h:Blw rk ((b.drop ib).take k) (a.drop ia)):JL rk a b (o++(b.drop ib).take k) ia (ib+k):=by
 obtain ⟨c1,c2⟩:=ris_drop (i:=ib) (k:=k) rb
 have sub:∀ p∈(b.drop ib).take k,p∈b.drop ib:=fun p hp=>List.mem_of_mem_take hp
 have sub2:∀ p∈b.drop (ib+k),p∈b.drop ib:=fun p hp=>by rw [← List.drop_drop] at hp; exact List.mem_of_mem_drop hp
 refine ⟨J.la,hk,?_,List.pairwise_append.mpr ⟨J.up,c2,fun p hp q hq=>J.bb p hp q (sub q hq)⟩,fun p hp q hq=>?_,fun p hp q hq=>?_⟩
 ·rw [List.take_add,← List.append_assoc]
  exact J.pm.append_right _
 ·rcases List.mem_append.mp hp with hp|hp
  ·exact J.ba p hp q hq
  ·exact h p hp q hq
 ·rcases List.mem_append.mp hp with hp|hp
  ·exact J.bb p hp q (sub2 q hq)
  ·exact c1 p hp q hq
noncomputable def Fin2 (rk:Value→Int) (a b o:List Keyed):Prop:=o.Perm (a++b)∧Ris rk o
theorem JL.endA {a b o:List Keyed} {ia ib:Nat} (J:JL rk a b o ia ib) (ra:Ris rk a) (h:ib=b.length):Fin2 rk a b (o++a.drop ia):=by
 have:=J.chunkA ra (k:=a.length - ia) (by have:=J.la; (first|lia|omega)) (by rw [h,List.drop_length]; exact fun p _ q hq=>nomatch hq)
 have e:(a.drop ia).take (a.length - ia)=a.drop ia:=List.take_of_length_le (by rw [List.length_drop]; exact Nat.le_refl _)
 rw [e] at this
 refine ⟨?_,this.up⟩
 have p:=this.pm
 rw [h,List.take_length,List.take_of_length_le (by have:=J.la; (first|lia|omega))] at p
 exact p
theorem JL.endB {a b o:List Keyed} {ia ib:Nat} (J:JL rk a b o ia ib) (rb:Ris rk b) (h:ia=a.length):Fin2 rk a b (o++b.drop ib):=by
 have:=J.chunkB rb (k:=b.length - ib) (by have:=J.lb; (first|lia|omega)) (by rw [h,List.drop_length]; exact fun p _ q hq=>nomatch hq)
 have e:(b.drop ib).take (b.length - ib)=b.drop ib:=List.take_of_length_le (by rw [List.length_drop]; exact Nat.le_refl _)
 rw [e] at this
 refine ⟨?_,this.up⟩
 have p:=this.pm
 rw [h,List.take_length,List.take_of_length_le (by have:=J.lb; (first|lia|omega))] at p
 exact p
theorem JL.endL {a b o:List Keyed} {ia ib:Nat} (J:JL rk a b o ia ib) (ra:Ris rk a) (rb:Ris rk b) (h:Blw rk b (a.drop ia)):Fin2 rk a b (o++b.drop ib++a.drop ia):=by
 have e:(b.drop ib).take (b.length - ib)=b.drop ib:=List.take_of_length_le (by rw [List.length_drop]; exact Nat.le_refl _)
 have j2:=J.chunkB rb (k:=b.length - ib) (by have:=J.lb; (first|lia|omega)) (fun p hp q hq=>h p (by rw [e] at hp; exact List.mem_of_mem_drop hp) q hq)
 rw [e] at j2
 exact j2.endA ra (by have:=J.lb; (first|lia|omega))
structure JH (rk:Value→Int) (a b:List Keyed) (o:List Keyed) (na nb:Nat):Prop where
 la:na ≤ a.length
 lb:nb ≤ b.length
 pm:o.Perm (a.drop na++b.drop nb)
 up:Ris rk o
 ba:Blw rk (a.take na) o
 bb:Blw rk (b.take nb) o
theorem JH.len {a b o:List Keyed} {na nb:Nat} (J:JH rk a b o na nb):o.length+na+nb=a.length+b.length:=by
 have:=J.pm.length_eq
 rw [List.length_append,List.length_drop,List.length_drop] at this
 have:=J.la
 have:=J.lb
 (first|lia|omega)
theorem ris_take {l:List Keyed} {i n:Nat} (h:Ris rk l) (hi:i ≤ n):Blw rk (l.take i) ((l.take n).drop i)∧Ris rk ((l.take n).drop i):=by
 have h1:Ris rk (l.take n):=h.take
 have e:l.take n=l.take i++(l.take n).drop i:=by
  have:=List.take_append_drop i (l.take n)
  rw [List.take_take,Nat.min_eq_left hi] at this
  exact this.symm
 rw [e] at h1
 obtain ⟨_,y,z⟩:=List.pairwise_append.mp h1
 exact ⟨fun p hp q hq=>z p hp q hq,y⟩
theorem JH.chunkA {a b o:List Keyed} {na nb:Nat} (J:JH rk a b o na nb) (ra:Ris rk a) {i:Nat} (hi:i ≤ na) (h:Blw rk (b.take nb) ((a.take na).drop i)):JH rk a b ((a.take na).drop i++o) i nb:=by
 obtain ⟨c1,c2⟩:=ris_take (i:=i) (n:=na) ra hi
 have sub:∀ p∈(a.take na).drop i,p∈a.take na:=fun p hp=>List.mem_of_mem_drop hp
 have sub2:∀ p∈a.take i,p∈a.take na:=fun p hp=>by
  have e:a.take i=(a.take na).take i:=by rw [List.take_take,Nat.min_eq_left hi]
  rw [e] at hp
  exact List.mem_of_mem_take hp
 refine ⟨by have:=J.la; (first|lia|omega),J.lb,?_,List.pairwise_append.mpr ⟨c2,J.up,fun p hp q hq=>J.ba p (sub p hp) q hq⟩,fun p hp q hq=>?_,fun p hp q hq=>?_⟩
 ·have e:a.drop i=(a.take na).drop i++a.drop na:=by
   conv=>lhs; rw [← List.take_append_drop na a]
   rw [List.drop_append_of_le_length (by rw [List.length_take]; have:=J.la; (first|lia|omega))]
  rw [e,List.append_assoc]
  exact List.Perm.append_left _ J.pm
 ·rcases List.mem_append.mp hq with hq|hq
  ·exact c1 p hp q hq
  ·exact J.ba p (sub2 p hp) q hq
 ·rcases List.mem_append.mp hq with hq|hq
  ·exact h p hp q hq
  ·exact J.bb p hp q hq
theorem JH.chunkB {a b o:List Keyed} {na nb:Nat} (J:JH rk a b o na nb) (rb:Ris rk b) {i:Nat} (hi:i ≤ nb) (h:Blw rk (a.take na) ((b.take nb).drop i)):JH rk a b ((b.take nb).drop i++o) na i:=by
 obtain ⟨c1,c2⟩:=ris_take (i:=i) (n:=nb) rb hi
 have sub:∀ p∈(b.take nb).drop i,p∈b.take nb:=fun p hp=>List.mem_of_mem_drop hp
 have sub2:∀ p∈b.take i,p∈b.take nb:=fun p hp=>by
  have e:b.take i=(b.take nb).take i:=by rw [List.take_take,Nat.min_eq_left hi]
  rw [e] at hp
  exact List.mem_of_mem_take hp
 refine ⟨J.la,by have:=J.lb; (first|lia|omega),?_,List.pairwise_append.mpr ⟨c2,J.up,fun p hp q hq=>J.bb p (sub p hp) q hq⟩,fun p hp q hq=>?_,fun p hp q hq=>?_⟩
 ·have e:b.drop i=(b.take nb).drop i++b.drop nb:=by
   conv=>lhs; rw [← List.take_append_drop nb b]
   rw [List.drop_append_of_le_length (by rw [List.length_take]; have:=J.lb; (first|lia|omega))]
  rw [e]
  refine (List.Perm.append_left _ J.pm).trans ?_
  rw [← List.append_assoc,← List.append_assoc]
  exact List.Perm.append_right _ List.perm_append_comm
 ·rcases List.mem_append.mp hq with hq|hq
  ·exact h p hp q hq
  ·exact J.ba p hp q hq
 ·rcases List.mem_append.mp hq with hq|hq
  ·exact c1 p hp q hq
  ·exact J.bb p (sub2 p hp) q hq
theorem JH.endA {a b o:List Keyed} {na nb:Nat} (J:JH rk a b o na nb) (ra:Ris rk a) (h:nb=0):Fin2 rk a b (a.take na++o):=by
 have j:=J.chunkA ra (i:=0) (Nat.zero_le _) (by rw [h,List.take_zero]; exact fun p hp=>nomatch hp)
 rw [List.drop_zero] at j
 refine ⟨?_,j.up⟩
 have p:=j.pm
 rw [h,List.drop_zero,List.drop_zero] at p
 exact p
theorem JH.endB {a b o:List Keyed} {na nb:Nat} (J:JH rk a b o na nb) (rb:Ris rk b) (h:na=0):Fin2 rk a b (b.take nb++o):=by
 have j:=J.chunkB rb (i:=0) (Nat.zero_le _) (by rw [h,List.take_zero]; exact fun p hp=>nomatch hp)
 rw [List.drop_zero] at j
 refine ⟨?_,j.up⟩
 have p:=j.pm
 rw [h,List.drop_zero,List.drop_zero] at p
 exact p
theorem JH.endF {a b o:List Keyed} {na nb:Nat} (J:JH rk a b o na nb) (ra:Ris rk a) (rb:Ris rk b) (h:Blw rk (b.take nb) a):Fin2 rk a b (b.take nb++(a.take na++o)):=by
 have j:=J.chunkA ra (i:=0) (Nat.zero_le _) (fun p hp q hq=>h p hp q (by rw [List.drop_zero] at hq; exact List.mem_of_mem_take hq))
 rw [List.drop_zero] at j
 exact j.endB rb rfl
end
end L3
namespace L3
open PySem PySem.Spec PyProof.Rows L2
section
variable {prog:Program} {w:World} {A:Around} {E:Value→Shared→Prop} {s:Shared} {kd:SortKind} {rk:Value→Int} {ini:Array Keyed}
structure Two (rk:Value→Int) (ini a b:Array Keyed):Prop where
 ra:Ris rk a.toList
 rb:Ris rk b.toList
 ma:∀ p∈a.toList,p∈ini.toList
 mb:∀ p∈b.toList,p∈ini.toList
 ne:∀ p∈a.toList,∀ q∈b.toList,rk p.1≠rk q.1
structure Same (st z:SortSt):Prop where
 kd:kindOf z=kindOf st
 ar:arrOf z=arrOf st
 pd:pendingOf z=pendingOf st
 fl:failedOf z=failedOf st
theorem Same.rfl' (st:SortSt):Same st st:=⟨rfl,rfl,rfl,rfl⟩
theorem Same.tr {x y z:SortSt} (h:Same x y) (k:Same y z):Same x z:=⟨k.kd.trans h.kd,k.ar.trans h.ar,k.pd.trans h.pd,k.fl.trans h.fl⟩
theorem setG_ok {st:SortSt} {g:Nat} {Q:Unit→SortSt→Prop} (h:∀ z,Same st z→Q () z):wpS (model prog w) A E s (setMinGallop' g) Q st:=by
 refine wpS_modify (h _ ⟨rfl,rfl,rfl,rfl⟩)
theorem av_get {a:Array Keyed} {i:Nat} (h:i < a.size):av rk a i=rk a[i].1:=by unfold av; rw [getElem?_pos a i h]
theorem ris_lt {a:Array Keyed} (ra:Ris rk a.toList) {i j:Nat} (h:i < j) (hj:j < a.size):av rk a i < av rk a j:=by
 rw [av_get (by (first|lia|omega)),av_get hj]
 have:=List.pairwise_iff_getElem.mp ra i j (by simp; (first|lia|omega)) (by simpa using hj) h
 simpa using this
theorem seg_of {a:Array Keyed} {key:Keyed} {base n:Nat} (ra:Ris rk a.toList) (ma:∀ p∈a.toList,p∈ini.toList) (hk:key∈ini.toList) (ne:∀ p∈a.toList,rk p.1≠rk key.1) (hs:base+n ≤ a.size):Seg rk ini a key base n where
 sz:=hs
 mem:=ma
 hkey:=hk
 up:=fun i j h hj=>ris_lt ra (by (first|lia|omega)) (by (first|lia|omega))
 ne:=fun i h=>by rw [av_get (by (first|lia|omega))]; exact ne _ (by simp)
theorem mem_take_drop {a:Array Keyed} {i k:Nat} {p:Keyed} (h:p∈(a.toList.drop i).take k):∃ j,j < k∧∃ hj:i+j < a.size,p=a[i+j]:=by
 obtain ⟨j,hj,e⟩:=List.mem_iff_getElem.mp h
 rw [List.length_take,List.length_drop] at hj
 have hs:i+j < a.size:=by simp at hj; (first|lia|omega)
 refine ⟨j,by (first|lia|omega),hs,?_⟩
 rw [← e]
 simp
theorem mem_drop {a:Array Keyed} {i:Nat} {p:Keyed} (h:p∈a.toList.drop i):∃ j,i ≤ j∧∃ hj:j < a.size,p=a[j]:=by
 obtain ⟨j,hj,e⟩:=List.mem_iff_getElem.mp h
 rw [List.length_drop] at hj
 have hs:i+j < a.size:=by simp at hj; (first|lia|omega)
 refine ⟨i+j,by (first|lia|omega),hs,?_⟩
 rw [← e]
 simp
theorem place_of {a:Array Keyed} {key:Keyed} {base n k:Nat} (P:Place rk a key base n k) (hn:base+n=a.size):(∀ p∈(a.toList.drop base).take k,rk p.1 < rk key.1)∧∀ p∈a.toList.drop (base+k),rk key.1 < rk p.1:=by
 obtain ⟨p1,p2,p3⟩:=P
 constructor
 ·intro p hp
  obtain ⟨j,hj,hs,rfl⟩:=mem_take_drop hp
  have:=p2 j hj
  rwa [av_get hs] at this
 ·intro p hp
  obtain ⟨j,hj,hs,rfl⟩:=mem_drop hp
  have:=p3 (j - base) (by (first|lia|omega)) (by (first|lia|omega))
  rwa [show base+(j - base)=j by (first|lia|omega),av_get hs] at this
theorem one_take {a:Array Keyed} {i:Nat} (h:i < a.size):(a.toList.drop i).take 1=[a[i]]:=by
 rw [List.drop_eq_getElem_cons (by simpa using h)]
 simp
theorem head_le {a:Array Keyed} (ra:Ris rk a.toList) {i:Nat} (h:i < a.size) {p:Keyed} (hp:p∈a.toList.drop i):rk a[i].1 ≤ rk p.1:=by
 obtain ⟨j,hj,hs,rfl⟩:=mem_drop hp
 rcases Nat.lt_or_ge i j with c|c
 ·have:=ris_lt ra c hs
  rw [av_get h,av_get hs] at this
  (first|lia|omega)
 ·have:i=j:=by (first|lia|omega)
  subst this
  exact Int.le_refl _
theorem ext_list (a:Array Keyed) (i k:Nat):(a.extract i (i+k)).toList=(a.toList.drop i).take k:=by
 rw [Array.toList_extract,List.extract_eq_take_drop]
 simp
theorem ext_all (a:Array Keyed) (i:Nat):(a.extract i).toList=a.toList.drop i:=by
 rw [Array.toList_extract,List.extract_eq_take_drop]
 exact List.take_of_length_le (by simp)
theorem ite_ok {σ α:Type} {c:Prop} [Decidable c] {M:Model} {x y:StateT σ Sem α} {Q:α→σ→Prop} {st:σ} (h1:c→wpS M A E s x Q st) (h2:¬c→wpS M A E s y Q st):wpS M A E s (if c then x else y) Q st:=by
 by_cases h:c
 ·rw [if_pos h]; exact h1 h
 ·rw [if_neg h]; exact h2 h
theorem loop_s {σ:Type} {M:Model} {β γ:Type} {a b:Nat} {f:Nat→β→StateT σ Sem (ForInStep β)} {g:β→StateT σ Sem γ} (I:Nat→β→σ→Prop) {Q:β→σ→Prop} {R:γ→σ→Prop}
  (hstep:∀ (F:Nat→β→StateT σ Sem (ForInStep β)) (P:ForInStep β→σ→Prop),F=f→∀ i c st,a ≤ i→i < b→I i c st→(∀ c' st',Q c' st'→P (.done c') st')→(∀ c' st',I (i+1) c' st'→P (.yield c') st')→wpS M A E s (F i c) P st)
  (hend:∀ c st,I (max a b) c st→Q c st) {c:β} {st:σ} (h:I a c st) (post:∀ G,G=g→∀ c st,Q c st→wpS M A E s (G c) R st):wpS M A E s (forIn [a:b] c f >>= g) R st :=
 wpS_bind (wpS_mono (wpS_forRange I (fun i c st h1 h2 h3=>hstep f _ rfl i c st h1 h2 h3 (fun _ _ h=>h) (fun _ _ h=>h)) hend h) (post g rfl))
theorem ite_same {σ α:Type} {c:Prop} {dc:Decidable c} {M:Model} {f:Nat→StateT σ Sem α} {m n:Nat} {Q:α→σ→Prop} {st:σ} (h:∀ m,wpS M A E s (f m) Q st):wpS M A E s (if c then f m else f n) Q st:=ite_ok (fun _=>h m) (fun _=>h n)
theorem jp2_ok {σ α:Type} {M:Model} {f:Array Keyed→Nat→StateT σ Sem α} {P:Array Keyed→Nat→Prop} {x:StateT σ Sem α} {Q:α→σ→Prop} {st:σ} (h:∀ o i,P o i→wpS M A E s (f o i) Q st) (k:(∀ o i,P o i→wpS M A E s (f o i) Q st)→wpS M A E s x Q st):wpS M A E s x Q st:=k h
theorem jpr_ok {σ α:Type} {M:Model} {f:Nat→Array Keyed→StateT σ Sem α} {P:Nat→Array Keyed→Prop} {x:StateT σ Sem α} {Q:α→σ→Prop} {st:σ} (h:∀ i o,P i o→wpS M A E s (f i o) Q st) (k:(∀ i o,P i o→wpS M A E s (f i o) Q st)→wpS M A E s x Q st):wpS M A E s x Q st:=k h
theorem mergeLo_ok {st:SortSt} {a b:Array Keyed} {Q:Array Keyed→SortSt→Prop} (T:Tells prog w A s kd rk ini) (hk:kindOf st=kd) (W:Two rk ini a b) (ha:1 ≤ a.size) (hb:1 ≤ b.size)
  (first:∀ p∈a.toList,rk b[0].1 < rk p.1) (last:∀ q∈b.toList,rk q.1 < rk a[a.size - 1].1)
  (h:∀ o z,Fin2 rk a.toList b.toList o.toList→Same st z→Q o z):wpS (model prog w) A E s (mergeLo' a b) Q st:=by
 have la:a.toList.length=a.size:=by simp
 have lb:b.toList.length=b.size:=by simp
 have lst:∀ ia,ia+1=a.size→Blw rk b.toList (a.toList.drop ia):=fun ia e p hp q hq=>by
  obtain ⟨j,hj,hs,rfl⟩:=mem_drop hq
  have:=last p hp
  have e2:a[j]=a[a.size - 1]:=by congr 1; (first|lia|omega)
  rw [e2]
  exact this
 -- the three ends
 have dn:∀ (o:Array Keyed) ia ib z,JL rk a.toList b.toList o.toList ia ib→Same st z→(ia=a.size∨ib=b.size)→Q (o++a.extract ia++b.extract ib) z:=fun o ia ib z J hz hc=>by
  refine h _ z ?_ hz
  rw [Array.toList_append,Array.toList_append,ext_all,ext_all]
  rcases hc with hc|hc
  ·rw [List.drop_of_length_le (i:=ia) (by (first|lia|omega)),List.append_nil]
   exact J.endB W.rb (by (first|lia|omega))
  ·rw [List.drop_of_length_le (i:=ib) (l:=b.toList) (by (first|lia|omega)),List.append_nil]
   exact J.endA W.ra (by (first|lia|omega))
 have dl:∀ (o:Array Keyed) ia ib z,JL rk a.toList b.toList o.toList ia ib→Same st z→ia+1=a.size→Q (o++b.extract ib++a.extract ia) z:=fun o ia ib z J hz hc=>by
  refine h _ z ?_ hz
  rw [Array.toList_append,Array.toList_append,ext_all,ext_all]
  exact J.endL W.ra W.rb (lst ia hc)
 -- steps
 have pushB:∀ (o:Array Keyed) ia ib (hi:ib < b.size),JL rk a.toList b.toList o.toList ia ib→(∀ q∈a.toList.drop ia,rk b[ib].1 < rk q.1)→JL rk a.toList b.toList (o.push b[ib]).toList ia (ib+1):=fun o ia ib hi J hq=>by
  have:=J.chunkB W.rb (k:=1) (by (first|lia|omega)) (by rw [one_take hi]; intro p hp q hq'; rw [List.mem_singleton.mp hp]; exact hq q hq')
  rw [one_take hi] at this
  rw [Array.toList_push]
  exact this
 have pushA:∀ (o:Array Keyed) ia ib (hi:ia < a.size),JL rk a.toList b.toList o.toList ia ib→(∀ q∈b.toList.drop ib,rk a[ia].1 < rk q.1)→JL rk a.toList b.toList (o.push a[ia]).toList (ia+1) ib:=fun o ia ib hi J hq=>by
  have:=J.chunkA W.ra (k:=1) (by (first|lia|omega)) (by rw [one_take hi]; intro p hp q hq'; rw [List.mem_singleton.mp hp]; exact hq q hq')
  rw [one_take hi] at this
  rw [Array.toList_push]
  exact this
 have gA:∀ {i} (hi:i < a.size),a[i]?=some a[i]:=fun hi=>getElem?_pos a _ hi
 have gB:∀ {i} (hi:i < b.size),b[i]?=some b[i]:=fun hi=>getElem?_pos b _ hi
 refine wpS_bind (wpS_lift (wpAny_rule ⟨rfl,?_⟩))
 try dsimp -zeta -zetaHave only
 refine wpS_bind (at_ok (gB (show 0 < b.size by (first|lia|omega))) ?_)
 try dsimp -zeta -zetaHave only
 have J0:JL rk a.toList b.toList (#[]:Array Keyed).toList 0 0:=⟨Nat.zero_le _,Nat.zero_le _,by simp,by simp,fun p hp=>by simp at hp,fun p hp=>by simp at hp⟩
 have J1:JL rk a.toList b.toList (#[b[0]]:Array Keyed).toList 0 1:=pushB #[] 0 0 (by (first|lia|omega)) J0 (fun q hq=>first q (by simpa using hq))
 by_cases c1:1=b.size
 ·rw [if_pos (by simpa using c1)]
  exact wpS_pure (dn _ 0 1 st J1 (.rfl' st) (.inr c1))
 rw [if_neg (by simpa using c1)]
 by_cases c2:0+1=a.size
 ·rw [if_pos (by simpa using c2)]
  exact wpS_pure (dl _ 0 1 st J1 (.rfl' st) c2)
 rw [if_neg (by simpa using c2)]
 refine wpS_bind (wpS_get ?_)
 refine loop_s
  (fun x c z=>Same st z∧∃ o ia ib mg,c=(none,o,ia,ib,mg)∧JL rk a.toList b.toList o.toList ia ib∧ia+1 < a.size∧ib < b.size∧x+1 ≤ ia+ib)
  (Q:=fun c z=>∃ o,c.1=some o∧Q o z) (fun F P hF x c z _ lx hI hD hY=>?_) (fun c z hI=>?_) ⟨.rfl' st,_,_,_,_,rfl,J1,by (first|lia|omega),by (first|lia|omega),by (first|lia|omega)⟩ fun G hG c z hc=>?_
 ·obtain ⟨hz,o,ia,ib,mg,rfl,J,i1,i2,i3⟩:=hI
  subst hF
  dsimp -zeta -zetaHave only
  refine loop_s
   (fun x c y=>y=z∧∃ o ia' ib' ac bc,c=(none,o,ia',ib',ac,bc)∧JL rk a.toList b.toList o.toList ia' ib'∧ia'+1 < a.size∧ib' < b.size∧ia+ib ≤ ia'+ib')
   (Q:=fun c y=>(∃ o,c.1=some o∧Q o y)∨(y=z∧∃ o ia' ib' ac bc,c=(none,o,ia',ib',ac,bc)∧JL rk a.toList b.toList o.toList ia' ib'∧ia'+1 < a.size∧ib' < b.size∧ia+ib ≤ ia'+ib')) (fun F P hF x2 c y _ lx2 hK hD hY=>?_) (fun c y hK=>.inr hK) ⟨rfl,_,_,_,_,_,rfl,J,i1,i2,Nat.le_refl _⟩ fun G hG c y hc=>?_
  ·obtain ⟨rfl,o,ja,jb,ac,bc,rfl,J,k1,k2,k3⟩:=hK
   subst hF
   dsimp -zeta -zetaHave only
   have ja':ja < a.size:=by (first|lia|omega)
   refine wpS_bind (at_ok (gB k2) (wpS_bind (at_ok (gA ja') (wpS_bind (ask2 T (hz.kd.trans hk) (W.mb _ (by simp)) (W.ma _ (by simp)) ?_)))))
   by_cases d:rk b[jb].1 < rk a[ja].1
   ·rw [decide_eq_true d]
    try dsimp -zeta -zetaHave only
    rw [if_pos rfl]
    refine wpS_bind (at_ok (gB k2) ?_)
    try dsimp -zeta -zetaHave only
    have J':=pushB o ja jb k2 J (fun q hq=>by have:=head_le W.ra ja' hq; (first|lia|omega))
    by_cases e:jb+1=b.size
    ·rw [if_pos (by simpa using e)]
     exact wpS_pure (hD _ _ (.inl ⟨_,rfl,dn _ _ _ _ J' hz (.inr e)⟩))
    ·rw [if_neg (by simpa using e)]
     by_cases f:bc+1 ≥ mg
     ·rw [if_pos f]
      exact wpS_pure (hD _ _ (.inr ⟨rfl,_,_,_,_,_,rfl,J',k1,by (first|lia|omega),by (first|lia|omega)⟩))
     ·rw [if_neg f]
      exact wpS_pure (hY _ _ ⟨rfl,_,_,_,_,_,rfl,J',k1,by (first|lia|omega),by (first|lia|omega)⟩)
   ·rw [decide_eq_false d]
    try dsimp -zeta -zetaHave only
    rw [if_neg (by decide)]
    refine wpS_bind (at_ok (gA ja') ?_)
    try dsimp -zeta -zetaHave only
    have ne:=W.ne a[ja] (by simp) b[jb] (by simp)
    have J':=pushA o ja jb ja' J (fun q hq=>by have:=head_le W.rb k2 hq; (first|lia|omega))
    by_cases e:ja+1+1=a.size
    ·rw [if_pos (by simpa using e)]
     exact wpS_pure (hD _ _ (.inl ⟨_,rfl,dl _ _ _ _ J' hz e⟩))
    ·rw [if_neg (by simpa using e)]
     by_cases f:ac+1 ≥ mg
     ·rw [if_pos f]
      exact wpS_pure (hD _ _ (.inr ⟨rfl,_,_,_,_,_,rfl,J',by (first|lia|omega),k2,by (first|lia|omega)⟩))
     ·rw [if_neg f]
      exact wpS_pure (hY _ _ ⟨rfl,_,_,_,_,_,rfl,J',by (first|lia|omega),k2,by (first|lia|omega)⟩)
  ·rcases hc with ⟨o,e,q⟩|⟨rfl,o,ja,jb,ac,bc,rfl,J,k1,k2,k3⟩
   ·subst hG
    dsimp -zeta -zetaHave only
    rw [e]
    exact wpS_pure (hD _ _ ⟨o,rfl,q⟩)
   ·subst hG
    dsimp -zeta -zetaHave only
    refine wpS_bind (wpS_lift (wpAny_rule ⟨rfl,?_⟩))
    refine loop_s
     (fun x c y=>Same st y∧∃ o ia' ib' mg ac bc,c=(none,o,ia',ib',mg,ac,bc)∧JL rk a.toList b.toList o.toList ia' ib'∧ia'+1 < a.size∧ib' < b.size∧ia+ib+min x 1 ≤ ia'+ib')
     (Q:=fun c y=>(∃ o,c.1=some o∧Q o y)∨(Same st y∧∃ o ia' ib' mg ac bc,c=(none,o,ia',ib',mg,ac,bc)∧JL rk a.toList b.toList o.toList ia' ib'∧ia'+1 < a.size∧ib' < b.size∧ia+ib+1 ≤ ia'+ib')) (fun F P hF x3 c y _ lx3 hK hD hY=>?_) (fun c y hK=>?_) ⟨hz,_,_,_,_,_,_,rfl,J,k1,k2,by show _ ≤ ja+jb; (first|lia|omega)⟩ fun G hG c y hc=>?_
    ·clear J k1 k2 k3
     obtain ⟨hy0,o,ja,jb,mg2,ac,bc,rfl,J,k1,k2,k3⟩:=hK
     subst hF
     dsimp -zeta -zetaHave only
     extract_lets n1 n2 n3 n4 n5 n6 n7 n8 n9 n10 n11 n12 jp
     revert jp
     dsimp -zeta -zetaHave only [n1,n2,n3,n4,n5,n6,n7,n8,n9,n10,n11,n12]
     intro jp
     refine ite_same ?_
     intro mg3
     refine wpS_bind (setG_ok fun y2 hy2=>?_)
     have hy:=hy0.tr hy2
     have ja':ja < a.size:=by (first|lia|omega)
     refine wpS_bind (at_ok (gB k2) ?_)
     refine wpS_bind (gallop_ok T (hy.kd.trans hk) (seg_of W.ra W.ma (W.mb _ (by simp)) (fun p hp=>W.ne p hp b[jb] (by simp)) (by (first|lia|omega))) (by (first|lia|omega)) fun ka P=>?_)
     try dsimp -zeta -zetaHave only
     extract_lets acc jpB
     obtain ⟨pa1,pa2⟩:=place_of P (by (first|lia|omega))
     have kal:=P.1
     refine jp2_ok (f:=jpB ()) (P:=fun (o1:Array Keyed) (i1:Nat)=>JL rk a.toList b.toList o1.toList i1 jb∧i1+1 < a.size∧(∀ p∈a.toList.drop i1,rk b[jb].1 < rk p.1)∧ja ≤ i1) ?_ fun KB=>?_
     ·intro o1 i1 ⟨J1,hl1,pl2,ile⟩
      refine wpS_bind (at_ok (gB k2) ?_)
      try dsimp -zeta -zetaHave only
      extract_lets o2 i4
      have J2:JL rk a.toList b.toList o2.toList i1 (jb+1):=pushB o1 i1 jb k2 J1 pl2
      refine ite_ok (fun e3=>?_) fun e3=>?_
      ·have e3:jb+1=b.size:=by simpa using e3
       exact wpS_pure (hD _ _ (.inl ⟨_,rfl,dn _ _ _ _ J2 hy (.inr e3)⟩))
      have e3:¬ jb+1=b.size:=by simpa using e3
      have hi1:i1 < a.size:=by (first|lia|omega)
      refine wpS_bind (at_ok (gA hi1) ?_)
      refine wpS_bind (gallop_ok T (hy.kd.trans hk) (seg_of W.rb W.mb (W.ma _ (by simp)) (fun p hp=>(W.ne a[i1] (by simp) p hp).symm) (by (first|lia|omega))) (by (first|lia|omega)) fun kb P2=>?_)
      try dsimp -zeta -zetaHave only
      extract_lets bcc jpC
      obtain ⟨pb1,pb2⟩:=place_of P2 (by (first|lia|omega))
      have kbl:=P2.1
      refine jp2_ok (f:=jpC ()) (P:=fun (o3:Array Keyed) (j3:Nat)=>JL rk a.toList b.toList o3.toList i1 j3∧j3 < b.size∧(∀ p∈b.toList.drop j3,rk a[i1].1 < rk p.1)∧jb+1 ≤ j3) ?_ fun KC=>?_
      ·intro o3 j3 ⟨J3,hj3,pb,jle⟩
       refine wpS_bind (at_ok (gA hi1) ?_)
       try dsimp -zeta -zetaHave only
       extract_lets o4
       have J4:JL rk a.toList b.toList o4.toList (i1+1) j3:=pushA o3 i1 j3 hi1 J3 pb
       refine ite_ok (fun e5=>?_) fun e5=>?_
       ·have e5:i1+1+1=a.size:=by simpa using e5
        exact wpS_pure (hD _ _ (.inl ⟨_,rfl,dl _ _ _ _ J4 hy e5⟩))
       have e5:¬ i1+1+1=a.size:=by simpa using e5
       have f1:i1+1+1 < a.size:=by (first|lia|omega)
       have f2:ia+ib+1 ≤ i1+1+j3:=by (first|lia|omega)
       refine ite_ok (fun _=>wpS_pure (hD _ _ (.inr ⟨hy,_,_,_,_,_,_,rfl,J4,f1,hj3,f2⟩))) fun _=>wpS_pure (hY _ _ ⟨hy,_,_,_,_,_,_,rfl,J4,f1,hj3,by (first|lia|omega)⟩)
      ·refine ite_ok (fun kp2=>?_) fun kp2=>?_
       ·have J3:=J2.chunkB W.rb (k:=kb) (by (first|lia|omega)) (fun p hp q hq=>by have:=pb1 p hp; have:=head_le W.ra hi1 hq; (first|lia|omega))
        rw [← ext_list,← Array.toList_append] at J3
        refine ite_ok (fun e4=>?_) fun e4=>?_
        ·have e4:jb+1+kb=b.size:=by simpa using e4
         exact wpS_pure (hD _ _ (.inl ⟨_,rfl,dn _ _ _ _ J3 hy (.inr e4)⟩))
        have e4:¬ jb+1+kb=b.size:=by simpa using e4
        exact KC _ _ ⟨J3,by (first|lia|omega),pb2,by (first|lia|omega)⟩
       ·have kz:kb=0:=by (first|lia|omega)
        exact KC _ _ ⟨J2,by (first|lia|omega),by rw [kz] at pb2; simpa using pb2,Nat.le_refl _⟩
     ·refine ite_ok (fun kp=>?_) fun kp=>?_
      ·have J1:=J.chunkA W.ra (k:=ka) (by (first|lia|omega)) (fun p hp q hq=>by have:=pa1 p hp; have:=head_le W.rb k2 hq; (first|lia|omega))
       rw [← ext_list,← Array.toList_append] at J1
       refine ite_ok (fun e1=>?_) fun e1=>?_
       ·have e1:ja+ka+1=a.size:=by simpa using e1
        exact wpS_pure (hD _ _ (.inl ⟨_,rfl,dl _ _ _ _ J1 hy e1⟩))
       have e1:¬ ja+ka+1=a.size:=by simpa using e1
       refine ite_ok (fun e2=>?_) fun e2=>?_
       ·have e2:ja+ka=a.size:=by simpa using e2
        exact wpS_pure (hD _ _ (.inl ⟨_,rfl,dn _ _ _ _ J1 hy (.inl e2)⟩))
       have e2:¬ ja+ka=a.size:=by simpa using e2
       exact KB _ _ ⟨J1,by (first|lia|omega),pa2,by (first|lia|omega)⟩
      ·have kz0:ka=0:=by (first|lia|omega)
       exact KB _ _ ⟨J,k1,by rw [kz0] at pa2; simpa using pa2,Nat.le_refl _⟩
    ·obtain ⟨hy,o,ja,jb,mg2,ac,bc,rfl,J,k1,k2,k3⟩:=hK
     have mx:min (max 0 (a.size+b.size)) 1=1:=by (first|lia|omega)
     rw [mx] at k3
     exact .inr ⟨hy,_,_,_,_,_,_,rfl,J,k1,k2,k3⟩
    ·rcases hc with ⟨o,e,q⟩|⟨hy,o,ja,jb,mg2,ac,bc,rfl,J,k1,k2,k3⟩
     ·subst hG
      dsimp -zeta -zetaHave only
      rw [e]
      exact wpS_pure (hD _ _ ⟨o,rfl,q⟩)
     ·subst hG
      try dsimp -zeta -zetaHave only
      refine wpS_bind (setG_ok fun y2 hy2=>wpS_pure (hY _ _ ⟨hy.tr hy2,_,_,_,_,rfl,J,k1,k2,by show _ ≤ ja+jb; (first|lia|omega)⟩))
 ·obtain ⟨hz,o,ia,ib,mg,rfl,J,i1,i2,i3⟩:=hI
  (first|lia|omega)
 ·obtain ⟨o,e,q⟩:=hc
  subst hG
  dsimp -zeta -zetaHave only
  rw [e]
  exact wpS_pure q
end
end L3
namespace L3
open PySem PySem.Spec PyProof.Rows L2
section
variable {prog:Program} {w:World} {A:Around} {E:Value→Shared→Prop} {s:Shared} {kd:SortKind} {rk:Value→Int} {ini:Array Keyed}
theorem mem_take {a:Array Keyed} {n:Nat} {p:Keyed} (h:p∈a.toList.take n):∃ j,j < n∧∃ hj:j < a.size,p=a[j]:=by
 obtain ⟨j,hj,e⟩:=List.mem_iff_getElem.mp h
 rw [List.length_take] at hj
 have hs:j < a.size:=by simp at hj; (first|lia|omega)
 refine ⟨j,by (first|lia|omega),hs,?_⟩
 rw [← e]
 simp
theorem mem_take_drop2 {a:Array Keyed} {i n:Nat} {p:Keyed} (h:p∈(a.toList.take n).drop i):∃ j,i ≤ j∧j < n∧∃ hj:j < a.size,p=a[j]:=by
 obtain ⟨j,hj,e⟩:=List.mem_iff_getElem.mp h
 rw [List.length_drop,List.length_take] at hj
 have hs:i+j < a.size:=by simp at hj; (first|lia|omega)
 refine ⟨i+j,by (first|lia|omega),by (first|lia|omega),hs,?_⟩
 rw [← e]
 simp
theorem placeH_of {a:Array Keyed} {key:Keyed} {n k:Nat} (P:Place rk a key 0 n k) (hn:n ≤ a.size):(∀ p∈a.toList.take k,rk p.1 < rk key.1)∧∀ p∈(a.toList.take n).drop k,rk key.1 < rk p.1:=by
 obtain ⟨p1,p2,p3⟩:=P
 constructor
 ·intro p hp
  obtain ⟨j,hj,hs,rfl⟩:=mem_take hp
  have:=p2 j hj
  rwa [Nat.zero_add,av_get hs] at this
 ·intro p hp
  obtain ⟨j,hj,hj2,hs,rfl⟩:=mem_take_drop2 hp
  have:=p3 j hj hj2
  rwa [Nat.zero_add,av_get hs] at this
theorem one_dropH {a:Array Keyed} {n:Nat} (h1:1 ≤ n) (h:n ≤ a.size):(a.toList.take n).drop (n - 1)=[a[n - 1]]:=by
 rw [List.drop_eq_getElem_cons (by rw [List.length_take]; simp; (first|lia|omega)),List.drop_of_length_le (by rw [List.length_take]; (first|lia|omega))]
 simp
theorem last_ge {a:Array Keyed} (ra:Ris rk a.toList) {n:Nat} (h1:1 ≤ n) (h:n ≤ a.size) {p:Keyed} (hp:p∈a.toList.take n):rk p.1 ≤ rk a[n - 1].1:=by
 obtain ⟨j,hj,hs,rfl⟩:=mem_take hp
 rcases Nat.lt_or_ge j (n - 1) with c|c
 ·have:=ris_lt ra c (by (first|lia|omega))
  rw [av_get hs,av_get (by (first|lia|omega))] at this
  (first|lia|omega)
 ·have:j=n - 1:=by (first|lia|omega)
  subst this
  exact Int.le_refl _
theorem ext_listH (a:Array Keyed) {i n:Nat} (h:i ≤ n):(a.extract i n).toList=(a.toList.take n).drop i:=by
 rw [Array.toList_extract,List.extract_eq_take_drop,List.drop_take]
theorem ext_lead (a:Array Keyed) (n:Nat):(a.extract 0 n).toList=a.toList.take n:=by
 rw [Array.toList_extract,List.extract_eq_take_drop]
 simp
theorem mergeHi_ok {st:SortSt} {a b:Array Keyed} {Q:Array Keyed→SortSt→Prop} (T:Tells prog w A s kd rk ini) (hk:kindOf st=kd) (W:Two rk ini a b) (ha:1 ≤ a.size) (hb:1 ≤ b.size)
  (first:∀ p∈a.toList,rk b[0].1 < rk p.1) (last:∀ q∈b.toList,rk q.1 < rk a[a.size - 1].1)
  (h:∀ o z,Fin2 rk a.toList b.toList o.toList→Same st z→Q o z):wpS (model prog w) A E s (mergeHi' a b) Q st:=by
 have la:a.toList.length=a.size:=by simp
 have lb:b.toList.length=b.size:=by simp
 have dn:∀ (o:Array Keyed) na nb z,JH rk a.toList b.toList o.toList.reverse na nb→Same st z→(na=0∨nb=0)→Q (a.extract 0 na++b.extract 0 nb++o.reverse) z:=fun o na nb z J hz hc=>by
  refine h _ z ?_ hz
  rw [Array.toList_append,Array.toList_append,ext_lead,ext_lead,Array.toList_reverse]
  rcases hc with hc|hc
  ·subst hc
   rw [List.take_zero,List.nil_append]
   exact J.endB W.rb rfl
  ·subst hc
   rw [List.take_zero,List.append_nil]
   exact J.endA W.ra rfl
 have df:∀ (o:Array Keyed) na nb z,JH rk a.toList b.toList o.toList.reverse na nb→Same st z→nb=1→Q (b.extract 0 nb++a.extract 0 na++o.reverse) z:=fun o na nb z J hz hc=>by
  refine h _ z ?_ hz
  rw [Array.toList_append,Array.toList_append,ext_lead,ext_lead,Array.toList_reverse,List.append_assoc]
  refine J.endF W.ra W.rb fun p hp q hq=>?_
  obtain ⟨j,hj,hs,rfl⟩:=mem_take hp
  have e:b[j]=b[0]:=by congr 1; (first|lia|omega)
  rw [e]
  exact first q hq
 have pushB:∀ (o:Array Keyed) na nb (h1:1 ≤ nb) (hi:nb ≤ b.size),JH rk a.toList b.toList o.toList.reverse na nb→(∀ q∈a.toList.take na,rk q.1 < rk b[nb - 1].1)→JH rk a.toList b.toList (o.push b[nb - 1]).toList.reverse na (nb - 1):=fun o na nb h1 hi J hq=>by
  have:=J.chunkB W.rb (i:=nb - 1) (by (first|lia|omega)) (by rw [one_dropH h1 hi]; intro p hp q hq'; rw [List.mem_singleton.mp hq']; exact hq p hp)
  rw [one_dropH h1 hi] at this
  rw [Array.toList_push,List.reverse_append]
  exact this
 have pushA:∀ (o:Array Keyed) na nb (h1:1 ≤ na) (hi:na ≤ a.size),JH rk a.toList b.toList o.toList.reverse na nb→(∀ q∈b.toList.take nb,rk q.1 < rk a[na - 1].1)→JH rk a.toList b.toList (o.push a[na - 1]).toList.reverse (na - 1) nb:=fun o na nb h1 hi J hq=>by
  have:=J.chunkA W.ra (i:=na - 1) (by (first|lia|omega)) (by rw [one_dropH h1 hi]; intro p hp q hq'; rw [List.mem_singleton.mp hq']; exact hq p hp)
  rw [one_dropH h1 hi] at this
  rw [Array.toList_push,List.reverse_append]
  exact this
 have revA:∀ (o:Array Keyed) i n,i ≤ n→(o++(a.extract i n).reverse).toList.reverse=(a.toList.take n).drop i++o.toList.reverse:=fun o i n hi=>by
  rw [Array.toList_append,List.reverse_append,Array.toList_reverse,List.reverse_reverse,ext_listH a hi]
 have revB:∀ (o:Array Keyed) i n,i ≤ n→(o++(b.extract i n).reverse).toList.reverse=(b.toList.take n).drop i++o.toList.reverse:=fun o i n hi=>by
  rw [Array.toList_append,List.reverse_append,Array.toList_reverse,List.reverse_reverse,ext_listH b hi]
 have gA:∀ {i} (hi:i < a.size),a[i]?=some a[i]:=fun hi=>getElem?_pos a _ hi
 have gB:∀ {i} (hi:i < b.size),b[i]?=some b[i]:=fun hi=>getElem?_pos b _ hi
 refine wpS_bind (wpS_lift (wpAny_rule ⟨rfl,?_⟩))
 try dsimp -zeta -zetaHave only
 refine wpS_bind (at_ok (gA (show a.size - 1 < a.size by (first|lia|omega))) ?_)
 have J0:JH rk a.toList b.toList (#[]:Array Keyed).toList.reverse a.size b.size:=⟨by (first|lia|omega),by (first|lia|omega),by simp,by simp,fun p _ q hq=>by simp at hq,fun p _ q hq=>by simp at hq⟩
 have J1:JH rk a.toList b.toList (#[a[a.size - 1]]:Array Keyed).toList.reverse (a.size - 1) b.size:=pushA #[] a.size b.size ha (Nat.le_refl _) J0 (fun q hq=>last q (List.mem_of_mem_take hq))
 by_cases c1:a.size - 1=0
 ·rw [if_pos (by simpa using c1)]
  exact wpS_pure (dn _ _ _ st J1 (.rfl' st) (.inl c1))
 rw [if_neg (by simpa using c1)]
 by_cases c2:b.size=1
 ·rw [if_pos (by simpa using c2)]
  exact wpS_pure (df _ _ _ st J1 (.rfl' st) c2)
 rw [if_neg (by simpa using c2)]
 refine wpS_bind (wpS_get ?_)
 refine loop_s
  (fun x c z=>Same st z∧∃ na nb o mg,c=(none,na,nb,o,mg)∧JH rk a.toList b.toList o.toList.reverse na nb∧1 ≤ na∧2 ≤ nb∧x+1+(na+nb) ≤ a.size+b.size)
  (Q:=fun c z=>∃ o,c.1=some o∧Q o z) (fun F P hF x c z _ lx hI hD hY=>?_) (fun c z hI=>?_) ⟨.rfl' st,_,_,_,_,rfl,J1,by (first|lia|omega),by (first|lia|omega),by (first|lia|omega)⟩ fun G hG c z hc=>?_
 ·obtain ⟨hz,na,nb,o,mg,rfl,J,i1,i2,i3⟩:=hI
  subst hF
  dsimp -zeta -zetaHave only
  refine loop_s
   (fun x c y=>y=z∧∃ na' nb' o ac bc,c=(none,na',nb',o,ac,bc)∧JH rk a.toList b.toList o.toList.reverse na' nb'∧1 ≤ na'∧2 ≤ nb'∧na'+nb' ≤ na+nb)
   (Q:=fun c y=>(∃ o,c.1=some o∧Q o y)∨(y=z∧∃ na' nb' o ac bc,c=(none,na',nb',o,ac,bc)∧JH rk a.toList b.toList o.toList.reverse na' nb'∧1 ≤ na'∧2 ≤ nb'∧na'+nb' ≤ na+nb)) (fun F P hF x2 c y _ lx2 hK hD hY=>?_) (fun c y hK=>.inr hK) ⟨rfl,_,_,_,_,_,rfl,J,i1,i2,Nat.le_refl _⟩ fun G hG c y hc=>?_
  ·obtain ⟨rfl,ja,jb,o,ac,bc,rfl,J,k1,k2,k3⟩:=hK
   subst hF
   dsimp -zeta -zetaHave only
   have jal:ja ≤ a.size:=by have:=J.la; (first|lia|omega)
   have jbl:jb ≤ b.size:=by have:=J.lb; (first|lia|omega)
   have ja':ja - 1 < a.size:=by (first|lia|omega)
   have jb':jb - 1 < b.size:=by (first|lia|omega)
   refine wpS_bind (at_ok (gB jb') (wpS_bind (at_ok (gA ja') (wpS_bind (ask2 T (hz.kd.trans hk) (W.mb _ (by simp)) (W.ma _ (by simp)) ?_)))))
   by_cases d:rk b[jb - 1].1 < rk a[ja - 1].1
   ·rw [decide_eq_true d]
    try dsimp -zeta -zetaHave only
    rw [if_pos rfl]
    refine wpS_bind (at_ok (gA ja') ?_)
    try dsimp -zeta -zetaHave only
    have J':=pushA o ja jb k1 jal J (fun q hq=>by have:=last_ge W.rb (by (first|lia|omega)) jbl hq; (first|lia|omega))
    by_cases e:ja - 1=0
    ·rw [if_pos (by simpa using e)]
     exact wpS_pure (hD _ _ (.inl ⟨_,rfl,dn _ _ _ _ J' hz (.inl e)⟩))
    ·rw [if_neg (by simpa using e)]
     refine ite_ok (fun _=>wpS_pure (hD _ _ (.inr ⟨rfl,_,_,_,_,_,rfl,J',by (first|lia|omega),k2,by (first|lia|omega)⟩))) fun _=>wpS_pure (hY _ _ ⟨rfl,_,_,_,_,_,rfl,J',by (first|lia|omega),k2,by (first|lia|omega)⟩)
   ·rw [decide_eq_false d]
    try dsimp -zeta -zetaHave only
    rw [if_neg (by decide)]
    refine wpS_bind (at_ok (gB jb') ?_)
    try dsimp -zeta -zetaHave only
    have ne:=W.ne a[ja - 1] (by simp) b[jb - 1] (by simp)
    have J':=pushB o ja jb (by (first|lia|omega)) jbl J (fun q hq=>by have:=last_ge W.ra k1 jal hq; (first|lia|omega))
    by_cases e:jb - 1=1
    ·rw [if_pos (by simpa using e)]
     exact wpS_pure (hD _ _ (.inl ⟨_,rfl,df _ _ _ _ J' hz e⟩))
    ·rw [if_neg (by simpa using e)]
     refine ite_ok (fun _=>wpS_pure (hD _ _ (.inr ⟨rfl,_,_,_,_,_,rfl,J',k1,by (first|lia|omega),by (first|lia|omega)⟩))) fun _=>wpS_pure (hY _ _ ⟨rfl,_,_,_,_,_,rfl,J',k1,by (first|lia|omega),by (first|lia|omega)⟩)
  ·rcases hc with ⟨o,e,q⟩|⟨rfl,ja,jb,o,ac,bc,rfl,J,k1,k2,k3⟩
   ·subst hG
    dsimp -zeta -zetaHave only
    rw [e]
    exact wpS_pure (hD _ _ ⟨o,rfl,q⟩)
   ·subst hG
    try dsimp -zeta -zetaHave only
    refine wpS_bind (wpS_lift (wpAny_rule ⟨rfl,?_⟩))
    refine loop_s
     (fun x c y=>Same st y∧∃ na' nb' o mg ac bc,c=(none,na',nb',o,mg,ac,bc)∧JH rk a.toList b.toList o.toList.reverse na' nb'∧1 ≤ na'∧2 ≤ nb'∧na'+nb'+min x 1 ≤ na+nb)
     (Q:=fun c y=>(∃ o,c.1=some o∧Q o y)∨(Same st y∧∃ na' nb' o mg ac bc,c=(none,na',nb',o,mg,ac,bc)∧JH rk a.toList b.toList o.toList.reverse na' nb'∧1 ≤ na'∧2 ≤ nb'∧na'+nb'+1 ≤ na+nb)) (fun F P hF x3 c y _ lx3 hK hD hY=>?_) (fun c y hK=>?_) ⟨hz,_,_,_,_,_,_,rfl,J,k1,k2,by show ja+jb+_ ≤ _; (first|lia|omega)⟩ fun G hG c y hc=>?_
    ·clear J k1 k2 k3
     obtain ⟨hy0,ja,jb,o,mg2,ac,bc,rfl,J,k1,k2,k3⟩:=hK
     subst hF
     dsimp -zeta -zetaHave only
     extract_lets n1 n2 n3 n4 n5 n6 n7 n8 n9 n10 n11 n12 jp
     revert jp
     dsimp -zeta -zetaHave only [n1,n2,n3,n4,n5,n6,n7,n8,n9,n10,n11,n12]
     intro jp
     refine ite_same ?_
     intro mg3
     refine wpS_bind (setG_ok fun y2 hy2=>?_)
     have hy:=hy0.tr hy2
     have jal:ja ≤ a.size:=by have:=J.la; (first|lia|omega)
     have jbl:jb ≤ b.size:=by have:=J.lb; (first|lia|omega)
     have jb':jb - 1 < b.size:=by (first|lia|omega)
     refine wpS_bind (at_ok (gB jb') ?_)
     refine wpS_bind (gallop_ok T (hy.kd.trans hk) (seg_of W.ra W.ma (W.mb _ (by simp)) (fun p hp=>W.ne p hp b[jb - 1] (by simp)) (by (first|lia|omega))) (by (first|lia|omega)) fun ka P=>?_)
     try dsimp -zeta -zetaHave only
     extract_lets k0 acc jpB
     obtain ⟨pa1,pa2⟩:=placeH_of P (by (first|lia|omega))
     have kal:=P.1
     refine jpr_ok (f:=jpB ()) (P:=fun (i1:Nat) (o1:Array Keyed)=>JH rk a.toList b.toList o1.toList.reverse i1 jb∧1 ≤ i1∧i1 ≤ a.size∧(∀ p∈a.toList.take i1,rk p.1 < rk b[jb - 1].1)∧i1 ≤ ja) ?_ fun KB=>?_
     ·intro i1 o1 ⟨J1,hi1,ial,pl2,ile⟩
      refine wpS_bind (at_ok (gB jb') ?_)
      try dsimp -zeta -zetaHave only
      extract_lets o2
      have J2:JH rk a.toList b.toList o2.toList.reverse i1 (jb - 1):=pushB o1 i1 jb (by (first|lia|omega)) jbl J1 pl2
      refine ite_ok (fun e3=>?_) fun e3=>?_
      ·have e3:jb - 1=1:=by simpa using e3
       exact wpS_pure (hD _ _ (.inl ⟨_,rfl,df _ _ _ _ J2 hy e3⟩))
      have e3:¬ jb - 1=1:=by simpa using e3
      refine wpS_bind (at_ok (gA (show i1 - 1 < a.size by (first|lia|omega))) ?_)
      refine wpS_bind (gallop_ok T (hy.kd.trans hk) (seg_of W.rb W.mb (W.ma _ (by simp)) (fun p hp=>(W.ne a[i1 - 1] (by simp) p hp).symm) (by (first|lia|omega))) (by (first|lia|omega)) fun kb P2=>?_)
      try dsimp -zeta -zetaHave only
      extract_lets k5 bcc jpC
      obtain ⟨pb1,pb2⟩:=placeH_of P2 (by (first|lia|omega))
      have kbl:=P2.1
      refine jpr_ok (f:=jpC ()) (P:=fun (j3:Nat) (o3:Array Keyed)=>JH rk a.toList b.toList o3.toList.reverse i1 j3∧2 ≤ j3∧(∀ p∈b.toList.take j3,rk p.1 < rk a[i1 - 1].1)∧j3 < jb) ?_ fun KC=>?_
      ·intro j3 o3 ⟨J3,hj3,pb,jle⟩
       refine wpS_bind (at_ok (gA (show i1 - 1 < a.size by (first|lia|omega))) ?_)
       try dsimp -zeta -zetaHave only
       extract_lets o4
       have J4:JH rk a.toList b.toList o4.toList.reverse (i1 - 1) j3:=pushA o3 i1 j3 hi1 ial J3 pb
       refine ite_ok (fun e5=>?_) fun e5=>?_
       ·have e5:i1 - 1=0:=by simpa using e5
        exact wpS_pure (hD _ _ (.inl ⟨_,rfl,dn _ _ _ _ J4 hy (.inl e5)⟩))
       have e5:¬ i1 - 1=0:=by simpa using e5
       have f1:1 ≤ i1 - 1:=by (first|lia|omega)
       have f2:i1 - 1+j3+1 ≤ na+nb:=by (first|lia|omega)
       refine ite_ok (fun _=>wpS_pure (hD _ _ (.inr ⟨hy,_,_,_,_,_,_,rfl,J4,f1,hj3,f2⟩))) fun _=>wpS_pure (hY _ _ ⟨hy,_,_,_,_,_,_,rfl,J4,f1,hj3,by (first|lia|omega)⟩)
      ·refine ite_ok (fun kp2=>?_) fun kp2=>?_
       ·have kp2:jb - 1 - kb > 0:=kp2
        have J3:=J2.chunkB W.rb (i:=kb) (by (first|lia|omega)) (fun p hp q hq=>by have:=pb2 q hq; have:=last_ge W.ra hi1 ial hp; (first|lia|omega))
        rw [← revB _ _ _ (by (first|lia|omega))] at J3
        refine ite_ok (fun e4=>?_) fun e4=>?_
        ·have e4:kb=1:=by simpa using e4
         exact wpS_pure (hD _ _ (.inl ⟨_,rfl,df _ _ _ _ J3 hy e4⟩))
        have e4:¬ kb=1:=by simpa using e4
        refine ite_ok (fun e6=>?_) fun e6=>?_
        ·have e6:kb=0:=by simpa using e6
         exact wpS_pure (hD _ _ (.inl ⟨_,rfl,dn _ _ _ _ J3 hy (.inr e6)⟩))
        have e6:¬ kb=0:=by simpa using e6
        exact KC _ _ ⟨J3,by (first|lia|omega),pb1,by (first|lia|omega)⟩
       ·have kp2:¬ jb - 1 - kb > 0:=kp2
        have kz:kb=jb - 1:=by (first|lia|omega)
        exact KC _ _ ⟨J2,by (first|lia|omega),by rw [kz] at pb1; exact pb1,by (first|lia|omega)⟩
     ·refine ite_ok (fun kp=>?_) fun kp=>?_
      ·have kp:ja - ka > 0:=kp
       have J1:=J.chunkA W.ra (i:=ka) (by (first|lia|omega)) (fun p hp q hq=>by have:=pa2 q hq; have:=last_ge W.rb (by (first|lia|omega)) jbl hp; (first|lia|omega))
       rw [← revA _ _ _ (by (first|lia|omega))] at J1
       refine ite_ok (fun e1=>?_) fun e1=>?_
       ·have e1:ka=0:=by simpa using e1
        exact wpS_pure (hD _ _ (.inl ⟨_,rfl,dn _ _ _ _ J1 hy (.inl e1)⟩))
       have e1:¬ ka=0:=by simpa using e1
       exact KB _ _ ⟨J1,by (first|lia|omega),by (first|lia|omega),pa1,by (first|lia|omega)⟩
      ·have kp:¬ ja - ka > 0:=kp
       have kz0:ka=ja:=by (first|lia|omega)
       exact KB _ _ ⟨J,k1,jal,by rw [kz0] at pa1; exact pa1,Nat.le_refl _⟩
    ·obtain ⟨hy,ja,jb,o,mg2,ac,bc,rfl,J,k1,k2,k3⟩:=hK
     have mx:min (max 0 (a.size+b.size)) 1=1:=by (first|lia|omega)
     rw [mx] at k3
     exact .inr ⟨hy,_,_,_,_,_,_,rfl,J,k1,k2,k3⟩
    ·rcases hc with ⟨o,e,q⟩|⟨hy,ja,jb,o,mg2,ac,bc,rfl,J,k1,k2,k3⟩
     ·subst hG
      dsimp -zeta -zetaHave only
      rw [e]
      exact wpS_pure (hD _ _ ⟨o,rfl,q⟩)
     ·subst hG
      try dsimp -zeta -zetaHave only
      refine wpS_bind (setG_ok fun y2 hy2=>wpS_pure (hY _ _ ⟨hy.tr hy2,_,_,_,_,rfl,J,k1,k2,by show _+(ja+jb) ≤ _; (first|lia|omega)⟩))
 ·obtain ⟨hz,na,nb,o,mg,rfl,J,i1,i2,i3⟩:=hI
  (first|lia|omega)
 ·obtain ⟨o,e,q⟩:=hc
  subst hG
  dsimp -zeta -zetaHave only
  rw [e]
  exact wpS_pure q
end
end L3
namespace L3
open PySem PySem.Spec PyProof.Rows L2
section
variable {prog:Program} {w:World} {A:Around} {E:Value→Shared→Prop} {s:Shared} {kd:SortKind} {rk:Value→Int} {ini:Array Keyed}
theorem wpS_put {σ:Type} {M:Model} {x st:σ} {Q:PUnit→σ→Prop} (h:Q ⟨⟩ x):wpS M A E s (set x:StateT σ Sem PUnit) Q st:=by
 unfold wpS
 show wpAny M A (pure (PUnit.unit,x)) _ E s
 exact wpAny_pure ⟨rfl,h⟩
theorem write_list:∀ (m:List Keyed) (k:Nat) (xs:Array Keyed) (i:Nat),i+k+m.length ≤ xs.toList.length →
  ((m.zipIdx k).foldl (fun (a:Array Keyed) (p:Keyed×Nat)=>a.setIfInBounds (i+p.2) p.1) xs).toList=xs.toList.take (i+k)++m++xs.toList.drop (i+k+m.length)
 | [],k,xs,i,h=>by simp
 | p::m,k,xs,i,h=>by
  rw [List.length_cons] at h
  have hs:i+k < xs.toList.length:=by (first|lia|omega)
  have ln:(xs.setIfInBounds (i+k) p).toList.length=xs.toList.length:=by simp
  rw [List.zipIdx_cons,List.foldl_cons,write_list m (k+1) _ i (by rw [ln]; (first|lia|omega))]
  simp only [Array.toList_setIfInBounds]
  rw [List.take_set,List.drop_set,if_pos (by (first|lia|omega))]
  have e1:(xs.toList.take (i+(k+1))).set (i+k) p=xs.toList.take (i+k)++[p]:=by
   rw [show i+(k+1)=i+k+1 by (first|lia|omega),List.take_succ_eq_append_getElem hs,List.set_append_right _ _ (by rw [List.length_take]; (first|lia|omega)),List.length_take,Nat.min_eq_left (by (first|lia|omega)),Nat.sub_self]
   rfl
  rw [e1,List.append_assoc,List.append_assoc,List.append_assoc,List.length_cons,show i+(k+1)+m.length=i+k+(m.length+1) by (first|lia|omega)]
  rfl
theorem av_list {arr:Array Keyed} {P X R:List Keyed} (e:arr.toList=P++(X++R)) {i:Nat} (h:i < X.length):arr[P.length+i]?=some X[i]∧av rk arr (P.length+i)=rk X[i].1:=by
 have g:arr[P.length+i]?=some X[i]:=by
  have:arr[P.length+i]?=arr.toList[P.length+i]?:=by simp
  rw [this,e,List.getElem?_append_right (by (first|lia|omega)),Nat.add_sub_cancel_left,List.getElem?_append_left h,List.getElem?_eq_getElem h]
 exact ⟨g,by unfold av; rw [g]⟩
theorem mergeAt_ok {st:SortSt} {i pw pw2:Nat} {P X Y R:List Keyed} {Q:Bool→SortSt→Prop} (T:Tells prog w A s kd rk ini) (hk:kindOf st=kd) (hf:failedOf st=none) (ar:(arrOf st).toList=P++(X++(Y++R))) (pm:(arrOf st).toList.Perm ini.toList)
  (hx:1 ≤ X.length) (hy:1 ≤ Y.length) (rx:Ris rk X) (ry:Ris rk Y) (p1:(pendingOf st)[i]?=some (P.length,X.length,pw)) (p2:(pendingOf st)[i+1]?=some (P.length+X.length,Y.length,pw2))
  (h:∀ z M,M.Perm (X++Y)→Ris rk M→(arrOf z).toList=P++(M++R)→kindOf z=kd→failedOf z=none→pendingOf z=((pendingOf st).setIfInBounds i (P.length,X.length+Y.length,pw)).eraseIdxIfInBounds (i+1)→Q true z) :
  wpS (model prog w) A E s (mergeAt' i) Q st:=by
 have ar2:(arrOf st).toList=(P++X)++(Y++R):=by rw [ar,List.append_assoc]
 have lpx:(P++X).length=P.length+X.length:=List.length_append
 have mem:∀ p∈(arrOf st).toList,p∈ini.toList:=fun p hp=>pm.mem_iff.mp hp
 have mX:∀ p∈X,p∈ini.toList:=fun p hp=>mem p (by rw [ar]; simp [hp])
 have mY:∀ p∈Y,p∈ini.toList:=fun p hp=>mem p (by rw [ar]; simp [hp])
 have nd:((arrOf st).toList.map fun p=>rk p.1).Nodup:=(pm.map _).nodup_iff.mpr T.nd
 have dis:∀ p∈X,∀ q∈Y,rk p.1≠rk q.1:=by
  rw [ar,List.map_append,List.map_append,List.map_append] at nd
  have n2:=(List.nodup_append.mp nd).2.1
  have n3:=(List.nodup_append.mp n2).2.2
  intro p hp q hq
  exact n3 _ (List.mem_map.mpr ⟨p,hp,rfl⟩) _ (List.mem_append_left _ (List.mem_map.mpr ⟨q,hq,rfl⟩))
 have size:(arrOf st).size=P.length+X.length+Y.length+R.length:=by
  have:=congrArg List.length ar
  simp at this
  (first|lia|omega)
 have gX:∀ {j} (hj:j < X.length),(arrOf st)[P.length+j]?=some X[j]∧av rk (arrOf st) (P.length+j)=rk X[j].1:=fun hj=>av_list ar hj
 have gY:∀ {j} (hj:j < Y.length),(arrOf st)[P.length+X.length+j]?=some Y[j]∧av rk (arrOf st) (P.length+X.length+j)=rk Y[j].1:=fun {j} hj=>by
  have:=av_list (rk:=rk) ar2 hj
  rwa [lpx] at this
 have rX:∀ i j (h:i < j) (hj:j < X.length),rk (X[i]'(by (first|lia|omega))).1 < rk X[j].1:=fun i j h hj=>List.pairwise_iff_getElem.mp rx i j (by (first|lia|omega)) hj h
 have rY:∀ i j (h:i < j) (hj:j < Y.length),rk (Y[i]'(by (first|lia|omega))).1 < rk Y[j].1:=fun i j h hj=>List.pairwise_iff_getElem.mp ry i j (by (first|lia|omega)) hj h
 have y0:0 < Y.length:=by (first|lia|omega)
 -- a whole row that rises
 have whole:(∀ p∈X,∀ q∈Y,rk p.1 < rk q.1)→Ris rk (X++Y):=fun z=>List.pairwise_append.mpr ⟨rx,ry,z⟩
 have headY:∀ q∈Y,rk (Y[0]'y0).1 ≤ rk q.1:=fun q hq=>by
  obtain ⟨j,hj,rfl⟩:=List.mem_iff_getElem.mp hq
  rcases Nat.eq_zero_or_pos j with c|c
  ·subst c; exact Int.le_refl _
  ·exact Int.le_of_lt (rY 0 j c hj)
 have lastX:∀ p∈X,rk p.1 ≤ rk (X[X.length - 1]'(by (first|lia|omega))).1:=fun p hp=>by
  obtain ⟨j,hj,rfl⟩:=List.mem_iff_getElem.mp hp
  rcases Nat.lt_or_ge j (X.length - 1) with c|c
  ·exact Int.le_of_lt (rX j _ c (by (first|lia|omega)))
  ·have:j=X.length - 1:=by (first|lia|omega)
   subst this
   exact Int.le_refl _
 refine wpS_bind (wpS_get ?_)
 try dsimp only
 rw [show (pendingOf st)[i]?=_ from p1,show (pendingOf st)[i+1]?=_ from p2]
 try dsimp only
 refine wpS_bind (wpS_put ?_)
 show wpS (model prog w) A E s _ Q (SortSt.mk' (kindOf st) (arrOf st) (((pendingOf st).setIfInBounds i (P.length,X.length+Y.length,pw)).eraseIdxIfInBounds (i+1)) (gallopOf st) (failedOf st))
 generalize ez:SortSt.mk' (kindOf st) (arrOf st) (((pendingOf st).setIfInBounds i (P.length,X.length+Y.length,pw)).eraseIdxIfInBounds (i+1)) (gallopOf st) (failedOf st)=z0
 have z1:arrOf z0=arrOf st:=by rw [← ez]
 have z2:kindOf z0=kd:=by rw [← ez]; exact hk
 have z3:failedOf z0=none:=by rw [← ez]; exact hf
 have z4:pendingOf z0=((pendingOf st).setIfInBounds i (P.length,X.length+Y.length,pw)).eraseIdxIfInBounds (i+1):=by rw [← ez]
 have fin:(∀ p∈X,∀ q∈Y,rk p.1 < rk q.1)→Q true z0:=fun hh=>h z0 (X++Y) (List.Perm.refl _) (whole hh) (by rw [z1,ar,List.append_assoc]) z2 z3 z4
 have sg1:Seg rk ini (arrOf st) (Y[0]'y0) P.length X.length:=⟨by (first|lia|omega),mem,mY _ (by simp),fun a b hab hb=>by rw [(gX (by (first|lia|omega))).2,(gX hb).2]; exact rX a b hab hb,fun a ha=>by rw [(gX ha).2]; exact dis _ (by simp) _ (by simp)⟩
 refine wpS_bind (at_ok (p:=Y[0]'y0) (by have:=(gY y0).1; simpa using this) ?_)
 refine wpS_bind (gallop_ok T z2 sg1 (by (first|lia|omega)) fun k P1=>?_)
 obtain ⟨q1,q2,q3⟩:=P1
 have q2:∀ j (hj:j < k),rk (X[j]'(by (first|lia|omega))).1 < rk (Y[0]'y0).1:=fun j hj=>by have:=q2 j hj; rwa [(gX (by (first|lia|omega))).2] at this
 have q3:∀ j (h1:k ≤ j) (hj:j < X.length),rk (Y[0]'y0).1 < rk X[j].1:=fun j h1 hj=>by have:=q3 j h1 hj; rwa [(gX hj).2] at this
 try dsimp only
 by_cases c1:X.length - k=0
 ·rw [if_pos (by simpa using c1)]
  refine wpS_pure (fin fun p hp q hq=>?_)
  obtain ⟨j,hj,rfl⟩:=List.mem_iff_getElem.mp hp
  have:=q2 j (by (first|lia|omega))
  have:=headY q hq
  (first|lia|omega)
 rw [if_neg (by simpa using c1)]
 have xl:X.length - 1 < X.length:=by (first|lia|omega)
 have sg2:Seg rk ini (arrOf st) X[X.length - 1] (P.length+X.length) Y.length:=⟨by (first|lia|omega),mem,mX _ (by simp),fun a b hab hb=>by rw [(gY (by (first|lia|omega))).2,(gY hb).2]; exact rY a b hab hb,fun a ha=>by rw [(gY ha).2]; exact (dis _ (by simp) _ (by simp)).symm⟩
 refine wpS_bind (at_ok (p:=X[X.length - 1]) (by
  have:=(gX xl).1
  rw [show P.length+k+(X.length - k) - 1=P.length+(X.length - 1) by (first|lia|omega)]
  exact this) ?_)
 refine wpS_bind (gallop_ok T z2 sg2 (by (first|lia|omega)) fun kb P2=>?_)
 obtain ⟨r1,r2,r3⟩:=P2
 have r2:∀ j (hj:j < kb),rk (Y[j]'(by (first|lia|omega))).1 < rk X[X.length - 1].1:=fun j hj=>by have:=r2 j hj; rwa [(gY (by (first|lia|omega))).2] at this
 have r3:∀ j (h1:kb ≤ j) (hj:j < Y.length),rk X[X.length - 1].1 < rk Y[j].1:=fun j h1 hj=>by have:=r3 j h1 hj; rwa [(gY hj).2] at this
 try dsimp only
 by_cases c2:kb=0
 ·rw [if_pos (by simpa using c2)]
  refine wpS_pure (fin fun p hp q hq=>?_)
  obtain ⟨j,hj,rfl⟩:=List.mem_iff_getElem.mp hq
  have:=r3 j (by (first|lia|omega)) hj
  have:=lastX p hp
  (first|lia|omega)
 rw [if_neg (by simpa using c2)]
 -- the two parts
 generalize eX:(arrOf st).extract (P.length+k) (P.length+X.length)=x
 generalize eY:(arrOf st).extract (P.length+X.length) (P.length+X.length+kb)=y
 have lx:x.toList=X.drop k:=by
  rw [← eX,ext_listH _ (by (first|lia|omega)),ar,List.take_append,List.take_of_length_le (by (first|lia|omega)),List.drop_append,List.drop_of_length_le (by (first|lia|omega)),List.nil_append,show P.length+X.length - P.length=X.length by (first|lia|omega),List.take_append_of_le_length (Nat.le_refl _),List.take_length,show P.length+k - P.length=k by (first|lia|omega)]
 have ly:y.toList=Y.take kb:=by
  rw [← eY,ext_list,ar2,List.drop_append,List.drop_of_length_le (by (first|lia|omega)),List.nil_append,lpx,Nat.sub_self,List.drop_zero,List.take_append_of_le_length r1]
 have sx:x.size=X.length - k:=by have:=congrArg List.length lx; rw [List.length_drop] at this; simpa using this
 have sy:y.size=kb:=by have:=congrArg List.length ly; rw [List.length_take,Nat.min_eq_left r1] at this; simpa using this
 have W:Two rk ini x y:=⟨by rw [lx]; exact rx.drop,by rw [ly]; exact ry.take,fun p hp=>mX p (by rw [lx] at hp; exact List.mem_of_mem_drop hp),fun p hp=>mY p (by rw [ly] at hp; exact List.mem_of_mem_take hp),fun p hp q hq=>dis p (by rw [lx] at hp; exact List.mem_of_mem_drop hp) q (by rw [ly] at hq; exact List.mem_of_mem_take hq)⟩
 have eY0:y[0]=Y[0]'y0:=by
  have:y[0]?=(Y[0]?):=by
   have e:y[0]?=y.toList[0]?:=by simp
   rw [e,ly,List.getElem?_take,if_pos (by (first|lia|omega))]
  rw [getElem?_pos y 0 (by (first|lia|omega)),List.getElem?_eq_getElem y0] at this
  exact Option.some.inj this
 have eXl:x[x.size - 1]'(by (first|lia|omega))=X[X.length - 1]:=by
  have:x[x.size - 1]?=X[X.length - 1]?:=by
   have e:x[x.size - 1]?=x.toList[x.size - 1]?:=by simp
   rw [e,lx,List.getElem?_drop,sx]
   congr 1
   (first|lia|omega)
  rw [getElem?_pos x (x.size - 1) (by (first|lia|omega)),List.getElem?_eq_getElem xl] at this
  exact Option.some.inj this
 have first:∀ p∈x.toList,rk (y[0]'(by (first|lia|omega))).1 < rk p.1:=fun p hp=>by
  rw [lx] at hp
  obtain ⟨j,hj,rfl⟩:=List.mem_iff_getElem.mp hp
  rw [List.length_drop] at hj
  rw [eY0,List.getElem_drop]
  exact q3 (k+j) (by (first|lia|omega)) (by (first|lia|omega))
 have last:∀ q∈y.toList,rk q.1 < rk (x[x.size - 1]'(by (first|lia|omega))).1:=fun q hq=>by
  rw [ly] at hq
  obtain ⟨j,hj,rfl⟩:=List.mem_iff_getElem.mp hq
  rw [List.length_take] at hj
  rw [eXl,List.getElem_take]
  exact r2 j (by (first|lia|omega))
 have fin2:∀ (o:Array Keyed) (z:SortSt),Fin2 rk x.toList y.toList o.toList→Same z0 z→Q true (SortSt.mk' (kindOf z) (o.toList.zipIdx.foldl (fun a p=>a.setIfInBounds (P.length+k+p.2) p.1) (arrOf z)) (pendingOf z) (gallopOf z) (failedOf z)):=fun o z F hz=>by
  obtain ⟨fp,fu⟩:=F
  rw [lx,ly] at fp
  have ol:o.toList.length=X.length - k+kb:=by
   have:=fp.length_eq
   rw [List.length_append,List.length_drop,List.length_take,Nat.min_eq_left r1] at this
   exact this
  have memo:∀ p∈o.toList,p∈X.drop k∨p∈Y.take kb:=fun p hp=>List.mem_append.mp (fp.mem_iff.mp hp)
  have az:arrOf z=arrOf st:=hz.ar.trans z1
  have wl:=write_list o.toList 0 (arrOf st) (P.length+k) (by
   have e:(arrOf st).toList.length=(arrOf st).size:=by simp
   rw [e,size,ol]
   (first|lia|omega))
  rw [Nat.add_zero] at wl
  have t1:(arrOf st).toList.take (P.length+k)=P++X.take k:=by
   rw [ar,List.take_append,List.take_of_length_le (by (first|lia|omega)),show P.length+k - P.length=k by (first|lia|omega),List.take_append_of_le_length q1]
  have t2:(arrOf st).toList.drop (P.length+k+o.toList.length)=Y.drop kb++R:=by
   rw [ar2,ol,List.drop_append,List.drop_of_length_le (by (first|lia|omega)),List.nil_append,lpx,show P.length+k+(X.length - k+kb) - (P.length+X.length)=kb by (first|lia|omega),List.drop_append_of_le_length r1]
  rw [t1,t2] at wl
  refine h _ (X.take k++(o.toList++Y.drop kb)) ?_ ?_ ?_ (hz.kd.trans z2) (hz.fl.trans z3) (hz.pd.trans z4)
  ·have e:X++Y=X.take k++((X.drop k++Y.take kb)++Y.drop kb):=by
    rw [List.append_assoc,List.take_append_drop,← List.append_assoc,List.take_append_drop]
   rw [e]
   exact List.Perm.append_left _ (fp.append_right _)
  ·have lo:∀ p∈X.take k,∀ q∈Y,rk p.1 < rk q.1:=fun p hp q hq=>by
    obtain ⟨j,hj,rfl⟩:=List.mem_iff_getElem.mp hp
    rw [List.length_take] at hj
    rw [List.getElem_take]
    have:=q2 j (by (first|lia|omega))
    have:=headY q hq
    (first|lia|omega)
   have hi:∀ p∈X,∀ q∈Y.drop kb,rk p.1 < rk q.1:=fun p hp q hq=>by
    obtain ⟨j,hj,rfl⟩:=List.mem_iff_getElem.mp hq
    rw [List.length_drop] at hj
    rw [List.getElem_drop]
    have:=r3 (kb+j) (by (first|lia|omega)) (by (first|lia|omega))
    have:=lastX p hp
    (first|lia|omega)
   have sX:=List.pairwise_append.mp (show Ris rk (X.take k++X.drop k) by rw [List.take_append_drop]; exact rx)
   have sY:=List.pairwise_append.mp (show Ris rk (Y.take kb++Y.drop kb) by rw [List.take_append_drop]; exact ry)
   refine List.pairwise_append.mpr ⟨rx.take,List.pairwise_append.mpr ⟨fu,ry.drop,fun p hp q hq=>?_⟩,fun p hp q hq=>?_⟩
   ·rcases memo p hp with hp|hp
    ·exact hi p (List.mem_of_mem_drop hp) q hq
    ·exact sY.2.2 p hp q hq
   ·rcases List.mem_append.mp hq with hq|hq
    ·rcases memo q hq with hq|hq
     ·exact sX.2.2 p hp q hq
     ·exact lo p hp q (List.mem_of_mem_take hq)
    ·exact lo p hp q (List.mem_of_mem_drop hq)
  ·show (o.toList.zipIdx.foldl (fun a p=>a.setIfInBounds (P.length+k+p.2) p.1) (arrOf z)).toList=_
   rw [az,wl]
   simp
 refine ite_ok (fun _=>?_) fun _=>?_
 ·refine wpS_bind (mergeLo_ok T z2 W (by (first|lia|omega)) (by (first|lia|omega)) first last fun o z F hz=>?_)
  refine wpS_bind (wpS_modify ?_)
  refine wpS_bind (wpS_get ?_)
  have e:(failedOf z).isNone=true:=by rw [hz.fl,z3]; rfl
  have:=fin2 o z F hz
  refine wpS_pure ?_
  show Q (failedOf z).isNone _
  rw [e]
  exact this
 ·refine wpS_bind (mergeHi_ok T z2 W (by (first|lia|omega)) (by (first|lia|omega)) first last fun o z F hz=>?_)
  refine wpS_bind (wpS_modify ?_)
  refine wpS_bind (wpS_get ?_)
  have e:(failedOf z).isNone=true:=by rw [hz.fl,z3]; rfl
  have:=fin2 o z F hz
  refine wpS_pure ?_
  show Q (failedOf z).isNone _
  rw [e]
  exact this
end
end L3
namespace L3
open PySem PySem.Spec PyProof.Rows L2
section
variable {prog:Program} {w:World} {A:Around} {E:Value→Shared→Prop} {s:Shared} {kd:SortKind} {rk:Value→Int} {ini:Array Keyed} {pd:Array (Nat×Nat×Nat)} {hd:List Keyed}
structure Md (kd:SortKind) (ini:Array Keyed) (pd:Array (Nat×Nat×Nat)) (hd:List Keyed) (z:SortSt):Prop where
 pm:(arrOf z).Perm ini
 kd:kindOf z=kd
 fl:failedOf z=none
 pn:pendingOf z=pd
 hd:(arrOf z).toList.take hd.length=hd
theorem Md.sz {z:SortSt} (m:Md kd ini pd hd z):(arrOf z).size=ini.size:=m.pm.size_eq
theorem Md.le {z:SortSt} (m:Md kd ini pd hd z):hd.length ≤ ini.size:=by
 have:=congrArg List.length m.hd
 rw [List.length_take] at this
 have e:(arrOf z).toList.length=ini.size:=by simp; exact m.sz
 (first|lia|omega)
theorem Md.put {z:SortSt} (m:Md kd ini pd hd z) {xs:Array Keyed} (p:xs.Perm (arrOf z)) (hx:∀ i,i < hd.length→xs[i]?=(arrOf z)[i]?):Md kd ini pd hd (setArr z xs):=by
 refine ⟨p.trans m.pm,m.kd,m.fl,m.pn,?_⟩
 show xs.toList.take hd.length=hd
 rw [← m.hd]
 apply List.ext_getElem?
 intro i
 rw [List.length_take]
 have hl:min hd.length (arrOf z).toList.length=hd.length:=by
  have:=m.le
  have e:(arrOf z).toList.length=ini.size:=by simp; exact m.sz
  (first|lia|omega)
 rw [hl,List.getElem?_take,List.getElem?_take]
 by_cases c:i < hd.length
 ·rw [if_pos c,if_pos c]
  have:=hx i c
  simpa using this
 ·rw [if_neg c,if_neg c]
theorem Md.get {z:SortSt} (m:Md kd ini pd hd z) {i:Nat} (hi:i < ini.size):∃ p,(arrOf z)[i]?=some p∧p∈ini.toList∧av rk (arrOf z) i=rk p.1:=by
 have h:i < (arrOf z).size:=by rw [m.sz]; exact hi
 have e:(arrOf z)[i]?=some (arrOf z)[i]:=getElem?_pos _ i h
 refine ⟨(arrOf z)[i],e,?_,?_⟩
 ·exact (Array.perm_iff_toList_perm.mp m.pm).mem_iff.mp (by simp)
 ·unfold av; rw [e]
theorem Md.ask {z:SortSt} {i j:Nat} {Q:Option Bool→SortSt→Prop} (T:Tells prog w A s kd rk ini) (m:Md kd ini pd hd z) (hi:i < ini.size) (hj:j < ini.size) (h:Q (some (decide (av rk (arrOf z) i < av rk (arrOf z) j))) z) :
  wpS (model prog w) A E s (ltAt' i j) Q z:=by
 obtain ⟨p,e1,m1,a1⟩:=m.get (rk:=rk) hi
 obtain ⟨q,e2,m2,a2⟩:=m.get (rk:=rk) hj
 rw [a1,a2] at h
 rw [ltAt'_eq]
 refine wpS_bind (wpS_get ?_)
 refine wpS_bind (at_ok e1 (wpS_bind (at_ok e2 ?_)))
 exact ask2 T m.kd m1 m2 h
theorem Md.ne {z:SortSt} (T:Tells prog w A s kd rk ini) (m:Md kd ini pd hd z) {i j:Nat} (hi:i < ini.size) (hj:j < ini.size) (h:i≠j):av rk (arrOf z) i≠av rk (arrOf z) j:=by
 have nd:=((Array.perm_iff_toList_perm.mp m.pm).map fun p=>rk p.1).nodup_iff.mpr T.nd
 have li:i < (arrOf z).size:=by rw [m.sz]; exact hi
 have lj:j < (arrOf z).size:=by rw [m.sz]; exact hj
 rw [av_get li,av_get lj]
 intro q
 refine h ((List.getElem_inj (i:=i) (j:=j) (h₀:=by simpa using li) (h₁:=by simpa using lj) nd).mp ?_)
 simpa using q
noncomputable abbrev Upl (rk:Value→Int) (z:SortSt) (lo k:Nat):Prop:=∀ i j,i < j→j < k→av rk (arrOf z) (lo+i) < av rk (arrOf z) (lo+j)
noncomputable abbrev Dnl (rk:Value→Int) (z:SortSt) (lo k:Nat):Prop:=∀ i j,i < j→j < k→av rk (arrOf z) (lo+j) < av rk (arrOf z) (lo+i)
theorem Upl.more {z:SortSt} {lo x:Nat} (u:Upl rk z lo x) (hx:1 ≤ x) (h:av rk (arrOf z) (lo+x - 1) < av rk (arrOf z) (lo+x)):Upl rk z lo (x+1):=fun i j h1 h2=>by
 by_cases c:j < x
 ·exact u i j h1 c
 ·have ej:j=x:=by (first|lia|omega)
  subst ej
  by_cases ci:i=j - 1
  ·subst ci
   rw [show lo+(j - 1)=lo+j - 1 by (first|lia|omega)]
   exact h
  ·have:=u i (j - 1) (by (first|lia|omega)) (by (first|lia|omega))
   rw [show lo+(j - 1)=lo+j - 1 by (first|lia|omega)] at this
   (first|lia|omega)
theorem Dnl.more {z:SortSt} {lo x:Nat} (u:Dnl rk z lo x) (hx:1 ≤ x) (h:av rk (arrOf z) (lo+x) < av rk (arrOf z) (lo+x - 1)):Dnl rk z lo (x+1):=fun i j h1 h2=>by
 by_cases c:j < x
 ·exact u i j h1 c
 ·have ej:j=x:=by (first|lia|omega)
  subst ej
  by_cases ci:i=j - 1
  ·subst ci
   rw [show lo+(j - 1)=lo+j - 1 by (first|lia|omega)]
   exact h
  ·have:=u i (j - 1) (by (first|lia|omega)) (by (first|lia|omega))
   rw [show lo+(j - 1)=lo+j - 1 by (first|lia|omega)] at this
   (first|lia|omega)
theorem count_l {z:SortSt} {n:Nat} {Q:Option Nat→SortSt→Prop} (T:Tells prog w A s kd rk ini) (m:Md kd ini pd hd z) (hn:hd.length+n=ini.size) (h1:1 ≤ n)
  (h:∀ r y,Md kd ini pd hd y→1 ≤ r→r ≤ n→Upl rk y hd.length r→Q (some r) y):wpS (model prog w) A E s (countRun' hd.length n) Q z:=by
 generalize el:hd.length=lo at *
 refine wpS_bind (wpS_mono (wpS_forRange (fun x c y=>y=z∧c=(none,x)∧Upl rk z lo x) (Q:=fun c y=>y=z∧∃ x,c=(none,x)∧1 ≤ x∧x ≤ n∧Upl rk z lo x∧(x=n∨av rk (arrOf z) (lo+x) < av rk (arrOf z) (lo+x - 1))) (fun x c y lx hx hI=>?_) (fun c y hI=>?_) ⟨rfl,rfl,fun i j a b=>by (first|lia|omega)⟩) fun c y hc=>?_)
 ·obtain ⟨rfl,rfl,u⟩:=hI
  try dsimp only
  refine wpS_bind (m.ask T (by (first|lia|omega)) (by (first|lia|omega)) ?_)
  by_cases c:av rk (arrOf y) (lo+x) < av rk (arrOf y) (lo+x - 1)
  ·rw [decide_eq_true c]
   exact wpS_pure ⟨rfl,x,rfl,lx,by (first|lia|omega),u,.inr c⟩
  ·rw [decide_eq_false c]
   have:=m.ne T (i:=lo+x) (j:=lo+x - 1) (by (first|lia|omega)) (by (first|lia|omega)) (by (first|lia|omega))
   exact wpS_pure ⟨rfl,rfl,u.more lx (by (first|lia|omega))⟩
 ·obtain ⟨rfl,rfl,u⟩:=hI
  have e:max 1 n=n:=by (first|lia|omega)
  rw [e] at u ⊢
  exact ⟨rfl,n,rfl,h1,Nat.le_refl _,u,.inl rfl⟩
 ·obtain ⟨rfl,k,rfl,k1,k2,u,o⟩:=hc
  try dsimp only
  by_cases c:k=n
  ·rw [if_pos (by simpa using c)]
   exact wpS_pure (h k y m k1 k2 u)
  ·rw [if_neg (by simpa using c)]
   have lt:=o.resolve_left c
   by_cases c1:k > 1
   ·rw [if_pos c1]
    refine wpS_bind (m.ask T (by (first|lia|omega)) (by (first|lia|omega)) ?_)
    have le:=u 0 (k - 1) (by (first|lia|omega)) (by (first|lia|omega))
    rw [Nat.add_zero,show lo+(k - 1)=lo+k - 1 by (first|lia|omega)] at le
    rw [decide_eq_true le]
    exact wpS_pure (h k y m k1 k2 u)
   ·rw [if_neg c1]
    have e:k=1:=by (first|lia|omega)
    subst e
    refine wpS_bind (wpS_lift (wpAny_rule ⟨rfl,?_⟩))
    refine wpS_bind (wpS_mono (wpS_forRange (fun x c v=>v=y∧c=(none,x,0)∧Dnl rk y lo x) (Q:=fun c v=>v=y∧∃ x,c=(none,x,0)∧2 ≤ x∧x ≤ n∧Dnl rk y lo x) (fun x c v lx hx hI=>?_) (fun c v hI=>?_) ⟨rfl,rfl,fun i j a b=>?_⟩) fun c v hc=>?_)
    ·obtain ⟨rfl,rfl,u'⟩:=hI
     try dsimp only
     refine wpS_bind (m.ask T (by (first|lia|omega)) (by (first|lia|omega)) ?_)
     by_cases c:av rk (arrOf v) (lo+x) < av rk (arrOf v) (lo+x - 1)
     ·rw [decide_eq_true c]
      try dsimp only
      rw [if_pos rfl,if_neg (by (first|lia|omega))]
      exact wpS_pure ⟨rfl,rfl,u'.more (by (first|lia|omega)) c⟩
     ·rw [decide_eq_false c]
      try dsimp only
      rw [if_neg (by decide)]
      have:=m.ne T (i:=lo+x) (j:=lo+x - 1) (by (first|lia|omega)) (by (first|lia|omega)) (by (first|lia|omega))
      refine wpS_bind (m.ask T (by (first|lia|omega)) (by (first|lia|omega)) ?_)
      rw [decide_eq_true (show av rk (arrOf v) (lo+x - 1) < av rk (arrOf v) (lo+x) by (first|lia|omega))]
      exact wpS_pure ⟨rfl,x,rfl,by (first|lia|omega),by (first|lia|omega),u'⟩
    ·obtain ⟨rfl,rfl,u'⟩:=hI
     have e:max (1+1) n=n:=by (first|lia|omega)
     rw [e] at u' ⊢
     exact ⟨rfl,n,rfl,by (first|lia|omega),Nat.le_refl _,u'⟩
    ·have e1:i=0:=by (first|lia|omega)
     have e2:j=1:=by (first|lia|omega)
     subst e1 e2
     simpa using lt
    ·obtain ⟨rfl,x,rfl,x1,x2,u'⟩:=hc
     try dsimp only
     rw [if_neg (by (first|lia|omega))]
     have hz:lo+x ≤ (arrOf v).size:=by rw [m.sz]; (first|lia|omega)
     have gm:=fun k=>getElem?_mirror_all (i:=lo) hz k
     have m2:Md kd ini pd hd (setArr v (mirror (arrOf v) lo (lo+x) ((lo+x - lo) / 2))):=m.put (mirror_perm _ _ _ _) (fun i hi=>by rw [gm,if_neg (by (first|lia|omega))])
     refine wpS_bind (wpS_reverse ?_)
     generalize ey:setArr v (mirror (arrOf v) lo (lo+x) ((lo+x - lo) / 2))=y2 at m2
     have u2:Upl rk y2 lo x:=fun i j a b=>by
      rw [← ey]
      show av rk (mirror (arrOf v) lo (lo+x) ((lo+x - lo) / 2)) (lo+i) < av rk (mirror (arrOf v) lo (lo+x) ((lo+x - lo) / 2)) (lo+j)
      rw [av_mir hz,av_mir hz,if_pos (by (first|lia|omega)),if_pos (by (first|lia|omega))]
      have:=u' (x - 1 - j) (x - 1 - i) (by (first|lia|omega)) (by (first|lia|omega))
      rw [show lo+(lo+x) - 1 - (lo+i)=lo+(x - 1 - i) by (first|lia|omega),show lo+(lo+x) - 1 - (lo+j)=lo+(x - 1 - j) by (first|lia|omega)]
      exact this
     refine wpS_bind (wpS_mono (wpS_forRange (fun t c v=>v=y2∧c=(none,t)∧Upl rk y2 lo t) (Q:=fun c v=>v=y2∧∃ t,c=(none,t)∧1 ≤ t∧t ≤ n∧Upl rk y2 lo t) (fun t c v lx hx hI=>?_) (fun c v hI=>?_) ⟨rfl,rfl,u2⟩) fun c v hc=>?_)
     ·obtain ⟨rfl,rfl,u3⟩:=hI
      try dsimp only
      refine wpS_bind (m2.ask T (by (first|lia|omega)) (by (first|lia|omega)) ?_)
      by_cases c:av rk (arrOf v) (lo+t) < av rk (arrOf v) (lo+t - 1)
      ·rw [decide_eq_true c]
       exact wpS_pure ⟨rfl,t,rfl,by (first|lia|omega),by (first|lia|omega),u3⟩
      ·rw [decide_eq_false c]
       have:=m2.ne T (i:=lo+t) (j:=lo+t - 1) (by (first|lia|omega)) (by (first|lia|omega)) (by (first|lia|omega))
       exact wpS_pure ⟨rfl,rfl,u3.more (by (first|lia|omega)) (by (first|lia|omega))⟩
     ·obtain ⟨rfl,rfl,u3⟩:=hI
      have e:max x n=n:=by (first|lia|omega)
      rw [e] at u3 ⊢
      exact ⟨rfl,n,rfl,h1,Nat.le_refl _,u3⟩
     ·obtain ⟨rfl,t,rfl,t1,t2,u3⟩:=hc
      exact wpS_pure (h t v m2 t1 t2 u3)
theorem ins_l {z:SortSt} {n ok:Nat} {Q:Bool→SortSt→Prop} (T:Tells prog w A s kd rk ini) (m:Md kd ini pd hd z) (hn:hd.length+n ≤ ini.size) (h2:ok ≤ n) (u:Upl rk z hd.length ok)
  (h:∀ y,Md kd ini pd hd y→Upl rk y hd.length n→Q true y):wpS (model prog w) A E s (binarySort' hd.length n ok) Q z:=by
 generalize el:hd.length=lo at *
 refine wpS_bind (wpS_mono (wpS_forRange (fun k c y=>c=(none,())∧Md kd ini pd hd y∧Upl rk y lo (min k n)) (Q:=fun c y=>c=(none,())∧Md kd ini pd hd y∧Upl rk y lo n) (fun k c y l1 l2 hI=>?_) (fun c y hI=>?_) ⟨rfl,m,?_⟩) fun c y hc=>?_)
 ·obtain ⟨rfl,m',u'⟩:=hI
  have ek:min k n=k:=by (first|lia|omega)
  rw [ek] at u'
  have ul:∀ i j,i ≤ j→j < k→av rk (arrOf y) (lo+i) ≤ av rk (arrOf y) (lo+j):=fun i j a b=>by
   rcases Nat.lt_or_ge i j with c|c
   ·exact Int.le_of_lt (u' i j c b)
   ·rw [show i=j by (first|lia|omega)]; exact Int.le_refl _
  refine wpS_bind (wpS_mono (wpS_forRange (fun x c v=>v=y∧∃ l r,c=(none,l,r)∧l ≤ r∧r ≤ k∧r - l ≤ k - x∧(∀ i,i < l→av rk (arrOf y) (lo+i) < av rk (arrOf y) (lo+k))∧∀ i,r ≤ i→i < k→av rk (arrOf y) (lo+k) < av rk (arrOf y) (lo+i))
   (Q:=fun c v=>v=y∧∃ l r,c=(none,l,r)∧l ≤ k∧(∀ i,i < l→av rk (arrOf y) (lo+i) < av rk (arrOf y) (lo+k))∧∀ i,l ≤ i→i < k→av rk (arrOf y) (lo+k) < av rk (arrOf y) (lo+i))
   (fun x c v _ lx hJ=>?_) (fun c v hJ=>?_) ⟨rfl,0,k,rfl,by (first|lia|omega),by (first|lia|omega),by (first|lia|omega),fun i hi=>by (first|lia|omega),fun i a b=>by (first|lia|omega)⟩) fun c v hJ=>?_)
  ·obtain ⟨rfl,l,r,rfl,lr,rk',sz',lo',hi⟩:=hJ
   try dsimp only
   by_cases ge:l ≥ r
   ·rw [if_pos ge]
    have:l=r:=by (first|lia|omega)
    subst this
    exact wpS_pure ⟨rfl,l,l,rfl,rk',lo',hi⟩
   ·rw [if_neg ge]
    refine wpS_bind (m'.ask T (by (first|lia|omega)) (by (first|lia|omega)) ?_)
    have ne:=m'.ne T (i:=lo+k) (j:=lo+(l+r) / 2) (by (first|lia|omega)) (by (first|lia|omega)) (by (first|lia|omega))
    by_cases c:av rk (arrOf v) (lo+k) < av rk (arrOf v) (lo+(l+r) / 2)
    ·rw [decide_eq_true c]
     refine wpS_pure ⟨rfl,l,(l+r) / 2,rfl,by (first|lia|omega),by (first|lia|omega),by (first|lia|omega),lo',fun i a b=>?_⟩
     have:=ul ((l+r) / 2) i a b
     (first|lia|omega)
    ·rw [decide_eq_false c]
     refine wpS_pure ⟨rfl,(l+r) / 2+1,r,rfl,by (first|lia|omega),by (first|lia|omega),by (first|lia|omega),fun i a=>?_,hi⟩
     have:=ul i ((l+r) / 2) (by (first|lia|omega)) (by (first|lia|omega))
     (first|lia|omega)
  ·obtain ⟨rfl,l,r,rfl,lr,rk',sz',lo',hi⟩:=hJ
   have:l=r:=by (first|lia|omega)
   subst this
   exact ⟨rfl,l,l,rfl,rk',lo',hi⟩
  ·obtain ⟨rfl,l,r,rfl,lk,lo',hi⟩:=hJ
   try dsimp only
   have hz:lo+k < (arrOf v).size:=by rw [m'.sz]; (first|lia|omega)
   have gb:=fun t=>getElem?_bubble hz (lo+k - (lo+l)) (by (first|lia|omega)) t
   refine wpS_bind (wpS_modify (wpS_pure ⟨rfl,m'.put (bubble_perm _ _ _) (fun i hi'=>?_),?_⟩))
   ·have:=gb i
    rw [if_neg (by (first|lia|omega)),if_neg (by (first|lia|omega))] at this
    exact this
   ·have e1:min (k+1) n=k+1:=by (first|lia|omega)
    have e2:lo+k - (lo+k - (lo+l))=lo+l:=by (first|lia|omega)
    rw [e1]
    intro i j a b
    show av rk (bubble (arrOf v) (lo+k) (lo+k - (lo+l))) (lo+i) < av rk (bubble (arrOf v) (lo+k) (lo+k - (lo+l))) (lo+j)
    rw [av_bub hz (by (first|lia|omega)),av_bub hz (by (first|lia|omega)),e2]
    by_cases i1:i=l
    ·rw [if_pos (by (first|lia|omega)),if_neg (by (first|lia|omega)),if_pos (by (first|lia|omega)),show lo+j - 1=lo+(j - 1) by (first|lia|omega)]
     exact hi _ (by (first|lia|omega)) (by (first|lia|omega))
    ·rw [if_neg (by (first|lia|omega))]
     by_cases i2:l < i∧i ≤ k
     ·rw [if_pos (by (first|lia|omega)),if_neg (by (first|lia|omega)),if_pos (by (first|lia|omega)),show lo+i - 1=lo+(i - 1) by (first|lia|omega),show lo+j - 1=lo+(j - 1) by (first|lia|omega)]
      exact u' _ _ (by (first|lia|omega)) (by (first|lia|omega))
     ·rw [if_neg (by (first|lia|omega))]
      by_cases j1:j=l
      ·rw [if_pos (by (first|lia|omega))]
       exact lo' _ (by (first|lia|omega))
      ·rw [if_neg (by (first|lia|omega))]
       by_cases j2:l < j∧j ≤ k
       ·rw [if_pos (by (first|lia|omega)),show lo+j - 1=lo+(j - 1) by (first|lia|omega)]
        by_cases q:i < j - 1
        ·exact u' _ _ q (by (first|lia|omega))
        ·(first|lia|omega)
       ·rw [if_neg (by (first|lia|omega))]
        exact u' _ _ a (by (first|lia|omega))
 ·obtain ⟨hc,m',u'⟩:=hI
  have e:min (max (max ok 1) n) n=n:=by (first|lia|omega)
  rw [e] at u'
  exact ⟨hc,m',u'⟩
 ·intro i j a b
  exact u i j a (by (first|lia|omega))
 ·obtain ⟨rfl,m',u'⟩:=hc
  exact wpS_pure (h y m' u')
end
end L3
namespace L3
open PySem PySem.Spec PyProof.Rows L2
section
variable {prog:Program} {w:World} {A:Around} {E:Value→Shared→Prop} {s:Shared} {kd:SortKind} {rk:Value→Int} {ini:Array Keyed}
noncomputable def PM:Nat→List (Nat×Nat×Nat)→List (List Keyed)→Prop
 | _,[],[]=>True
 | off,p::pd,R::rs=>p.1=off∧p.2.1=R.length∧PM (off+R.length) pd rs
 | _,_,_=>False
theorem PM.len:∀ {off:Nat} {pd:List (Nat×Nat×Nat)} {rs:List (List Keyed)},PM off pd rs→pd.length=rs.length
 | _,[],[],_=>rfl
 | _,p::pd,R::rs,h=>by rw [List.length_cons,List.length_cons,PM.len h.2.2]
 | _,[],_::_,h=>h.elim
 | _,_::_,[],h=>h.elim
theorem PM.split:∀ {pre:List (List Keyed)} {off:Nat} {pd:List (Nat×Nat×Nat)} {rs:List (List Keyed)},PM off pd (pre++rs)→∃ p1 p2,pd=p1++p2∧PM off p1 pre∧PM (off+pre.flatten.length) p2 rs
 | [],off,pd,rs,h=>⟨[],pd,rfl,trivial,by simpa using h⟩
 | R::pre,off,[],rs,h=>h.elim
 | R::pre,off,p::pd,rs,h=>by
  obtain ⟨h1,h2,h3⟩:=h
  obtain ⟨p1,p2,e,g1,g2⟩:=PM.split h3
  refine ⟨p::p1,p2,by rw [e]; rfl,⟨h1,h2,g1⟩,?_⟩
  rw [List.flatten_cons,List.length_append,← Nat.add_assoc]
  exact g2
theorem PM.join:∀ {pre:List (List Keyed)} {off:Nat} {p1 p2:List (Nat×Nat×Nat)} {rs:List (List Keyed)},PM off p1 pre→PM (off+pre.flatten.length) p2 rs→PM off (p1++p2) (pre++rs)
 | [],off,[],p2,rs,_,h=>by simpa using h
 | [],off,_::_,p2,rs,h,_=>h.elim
 | R::pre,off,[],p2,rs,h,_=>h.elim
 | R::pre,off,p::p1,p2,rs,h,k=>by
  obtain ⟨h1,h2,h3⟩:=h
  rw [List.flatten_cons,List.length_append,← Nat.add_assoc] at k
  exact ⟨h1,h2,PM.join h3 k⟩
structure Rn (kd:SortKind) (rk:Value→Int) (ini:Array Keyed) (runs:List (List Keyed)) (rest:List Keyed) (z:SortSt):Prop where
 ar:(arrOf z).toList=runs.flatten++rest
 pm:(arrOf z).Perm ini
 kd:kindOf z=kd
 fl:failedOf z=none
 ok:∀ R∈runs,1 ≤ R.length∧Ris rk R
 st:PM 0 (pendingOf z).toList runs
theorem Rn.merge {z:SortSt} {runs:List (List Keyed)} {rest:List Keyed} {i:Nat} {Q:Bool→SortSt→Prop} (T:Tells prog w A s kd rk ini) (R:Rn kd rk ini runs rest z) (hi:i+1 < runs.length)
  (h:∀ y rs,rs.flatten.length=runs.flatten.length→rs.length+1=runs.length→Rn kd rk ini rs rest y→Q true y):wpS (model prog w) A E s (mergeAt' i) Q z:=by
 have e1:runs=runs.take i++(runs[i]::runs[i+1]::runs.drop (i+2)):=by
  rw [← List.drop_eq_getElem_cons hi,← List.drop_eq_getElem_cons (show i < runs.length by (first|lia|omega)),List.take_append_drop]
 generalize hp:runs.take i=pre at e1
 generalize runs[i]=X at e1
 generalize runs[i+1]=Y at e1
 generalize runs.drop (i+2)=post at e1
 have pl:pre.length=i:=by rw [← hp,List.length_take]; (first|lia|omega)
 have okX:=R.ok X (by rw [e1]; simp)
 have okY:=R.ok Y (by rw [e1]; simp)
 have st:=R.st
 rw [e1] at st
 obtain ⟨p1,p2,ep,g1,g2⟩:=st.split
 have l1:=g1.len
 cases p2 with
 | nil=>exact g2.elim
 | cons q1 p2 =>
  cases p2 with
  | nil=>exact g2.2.2.elim
  | cons q2 p3 =>
   obtain ⟨a1,a2,b1,b2,g3⟩:=g2
   rw [Nat.zero_add] at a1 b1
   have x1:(pendingOf z)[i]?=some (pre.flatten.length,X.length,q1.2.2):=by
    have e:(pendingOf z)[i]?=(pendingOf z).toList[i]?:=by simp
    rw [e,ep,List.getElem?_append_right (by (first|lia|omega)),show i - p1.length=0 by (first|lia|omega)]
    obtain ⟨u,v,t⟩:=q1
    simp at a1 a2 ⊢
    exact ⟨a1,a2⟩
   have x2:(pendingOf z)[i+1]?=some (pre.flatten.length+X.length,Y.length,q2.2.2):=by
    have e:(pendingOf z)[i+1]?=(pendingOf z).toList[i+1]?:=by simp
    rw [e,ep,List.getElem?_append_right (by (first|lia|omega)),show i+1 - p1.length=1 by (first|lia|omega)]
    obtain ⟨u,v,t⟩:=q2
    simp at b1 b2 ⊢
    exact ⟨b1,b2⟩
   refine mergeAt_ok (P:=pre.flatten) (X:=X) (Y:=Y) (R:=post.flatten++rest) T R.kd R.fl (by rw [R.ar,e1]; simp) (Array.perm_iff_toList_perm.mp R.pm) okX.1 okY.1 okX.2 okY.2 x1 x2 fun y M pmM uM arM kM fM pM=>?_
   have ml:M.length=X.length+Y.length:=by rw [pmM.length_eq,List.length_append]
   refine h y (pre++(M::post)) (by rw [e1]; simp; (first|lia|omega)) (by rw [e1]; simp; (first|lia|omega)) ⟨by rw [arM]; simp,?_,kM,fM,fun S hS=>?_,?_⟩
   ·refine Array.perm_iff_toList_perm.mpr (List.Perm.trans ?_ (Array.perm_iff_toList_perm.mp R.pm))
    rw [arM,R.ar,e1]
    simp only [List.flatten_append,List.flatten_cons,List.append_assoc]
    refine List.Perm.append_left _ ?_
    rw [← List.append_assoc X Y]
    exact pmM.append_right _
   ·rcases List.mem_append.mp hS with hS|hS
    ·exact R.ok S (by rw [e1]; exact List.mem_append_left _ hS)
    ·rcases List.mem_cons.mp hS with rfl|hS
     ·exact ⟨by have:=okX.1; (first|lia|omega),uM⟩
     ·exact R.ok S (by rw [e1]; simp [hS])
   ·have ep2:(pendingOf y).toList=p1++((pre.flatten.length,X.length+Y.length,q1.2.2)::p3):=by
     rw [pM]
     have:(((pendingOf z).setIfInBounds i (pre.flatten.length,X.length+Y.length,q1.2.2)).eraseIdxIfInBounds (i+1)).toList=((pendingOf z).toList.set i (pre.flatten.length,X.length+Y.length,q1.2.2)).eraseIdx (i+1):=by
      simp [Array.toList_eraseIdxIfInBounds]
     rw [this,ep,List.set_append_right _ _ (by (first|lia|omega)),show i - p1.length=0 by (first|lia|omega),List.set_cons_zero,List.eraseIdx_append_of_length_le (by (first|lia|omega)),show i+1 - p1.length=1 by (first|lia|omega)]
     rfl
    rw [ep2]
    refine g1.join ⟨by rw [Nat.zero_add],ml.symm,?_⟩
    rw [ml,← Nat.add_assoc]
    exact g3
theorem PM.repower:∀ {off:Nat} {pd:List (Nat×Nat×Nat)} {rs:List (List Keyed)} (f:Nat×Nat×Nat→Nat×Nat×Nat) (k:Nat),(∀ p,(f p).1=p.1∧(f p).2.1=p.2.1)→PM off pd rs→PM off (pd.modify k f) rs
 | _,[],[],f,k,_,_=>by simp [PM]
 | _,[],_::_,f,k,_,h=>h.elim
 | _,_::_,[],f,k,_,h=>h.elim
 | off,p::pd,R::rs,f,0,hf,h=>by
  obtain ⟨h1,h2,h3⟩:=h
  rw [List.modify_zero_cons]
  exact ⟨(hf p).1.trans h1,(hf p).2.trans h2,h3⟩
 | off,p::pd,R::rs,f,k+1,hf,h=>by
  obtain ⟨h1,h2,h3⟩:=h
  rw [List.modify_succ_cons]
  exact ⟨h1,h2,PM.repower f k hf h3⟩
theorem runs_le:∀ {rs:List (List Keyed)},(∀ R∈rs,1 ≤ R.length)→rs.length ≤ rs.flatten.length
 | [],_=>Nat.le_refl _
 | R::rs,h=>by
  have a:=h R (by simp)
  have b:=runs_le (rs:=rs) fun S hS=>h S (List.mem_cons_of_mem _ hS)
  rw [List.flatten_cons,List.length_append,List.length_cons]
  (first|lia|omega)
theorem md_run {pd:Array (Nat×Nat×Nat)} {hd:List Keyed} {y:SortSt} {n:Nat} (m:Md kd ini pd hd y) (hn:hd.length+n ≤ ini.size) (u:Upl rk y hd.length n):∃ N rest,(arrOf y).toList=hd++(N++rest)∧N.length=n∧Ris rk N:=by
 have e:(arrOf y).toList.length=ini.size:=by simp; exact m.sz
 refine ⟨((arrOf y).toList.drop hd.length).take n,((arrOf y).toList.drop hd.length).drop n,?_,?_,?_⟩
 ·rw [List.take_append_drop]
  conv=>lhs; rw [← List.take_append_drop hd.length (arrOf y).toList,m.hd]
 ·rw [List.length_take,List.length_drop]
  (first|lia|omega)
 ·refine List.pairwise_iff_getElem.mpr ?_
  intro i j hi hj hij
  rw [List.length_take,List.length_drop] at hi hj
  have:=u i j hij (by (first|lia|omega))
  rw [av_get (by rw [m.sz]; (first|lia|omega)),av_get (by rw [m.sz]; (first|lia|omega))] at this
  simpa using this
theorem ite_le2 {c:Prop} [Decidable c] {a b n:Nat} (h1:a ≤ n) (h2:b ≤ n):(if c then a else b) ≤ n:=by by_cases h:c <;> simp [h,h1,h2]
theorem jp1_ok {σ α:Type} {M:Model} {f:Nat→StateT σ Sem α} {P:Nat→σ→Prop} {x:StateT σ Sem α} {Q:α→σ→Prop} {st:σ} (h:∀ r y,P r y→wpS M A E s (f r) Q y) (k:(∀ r y,P r y→wpS M A E s (f r) Q y)→wpS M A E s x Q st):wpS M A E s x Q st:=k h
theorem sort_any {st:SortSt} {Q:Unit→SortSt→Prop} (T:Tells prog w A s kd rk ini) (p0:(arrOf st).Perm ini) (k0:kindOf st=kd) (f0:failedOf st=none) (d0:pendingOf st=#[])
  (h:∀ z,(arrOf z).Perm ini→failedOf z=none→Ris rk (arrOf z).toList→Q () z):wpS (model prog w) A E s sortRuns' Q st:=by
 refine wpS_bind (wpS_get ?_)
 try dsimp -zeta -zetaHave only
 have sz0:(arrOf st).size=ini.size:=p0.size_eq
 rw [show (arrOf st).size=ini.size from sz0]
 have R0:Rn kd rk ini [] (arrOf st).toList st:=⟨rfl,p0,k0,f0,(fun _ hr=>nomatch hr),by rw [d0]; trivial⟩
 refine wpS_bind (wpS_mono (wpS_forRange (fun x c z=>∃ lo runs rest,c=(none,lo)∧Rn kd rk ini runs rest z∧lo=runs.flatten.length∧x ≤ lo) (Q:=fun c z=>c.1=none∧∃ runs,Rn kd rk ini runs [] z) (fun x c z _ lx hI=>?_) (fun c z hI=>?_) ⟨0,[],_,rfl,R0,rfl,Nat.le_refl _⟩) fun c z hc=>?_)
 ·obtain ⟨lo,runs,rest,rfl,R,rfl,hx⟩:=hI
  try dsimp -zeta -zetaHave only
  have zl:(arrOf z).toList.length=ini.size:=by simp; exact R.pm.size_eq
  have ll:runs.flatten.length+rest.length=ini.size:=by rw [← zl,R.ar,List.length_append]
  by_cases c:runs.flatten.length ≥ ini.size
  ·rw [if_pos c]
   have er:rest=[]:=List.length_eq_zero_iff.mp (by (first|lia|omega))
   subst er
   exact wpS_pure ⟨rfl,runs,R⟩
  rw [if_neg c]
  have M0:Md kd ini (pendingOf z) runs.flatten z:=⟨R.pm,R.kd,R.fl,rfl,by rw [R.ar,List.take_left]⟩
  refine wpS_bind (count_l T M0 (by (first|lia|omega)) (by (first|lia|omega)) fun r y my r1 r2 uy=>?_)
  try dsimp -zeta -zetaHave only
  extract_lets n0 jp force0
  refine jp1_ok (f:=jp ()) (P:=fun (force:Nat) (y:SortSt)=>Md kd ini (pendingOf z) runs.flatten y∧Upl rk y runs.flatten.length force∧1 ≤ force∧runs.flatten.length+force ≤ ini.size) ?_ fun K=>?_
  ·intro force y ⟨my,uy,fo1,hrun⟩
   refine wpS_bind (wpS_get ?_)
   obtain ⟨N,rest',ey,nl,un⟩:=md_run my hrun uy
   have Ry:Rn kd rk ini runs (N++rest') y:=⟨ey,my.pm,my.kd,my.fl,R.ok,by rw [my.pn]; exact R.st⟩
   have last:∀ v rs,Rn kd rk ini rs (N++rest') v→rs.flatten.length=runs.flatten.length→Rn kd rk ini (rs++[N]) rest' (setPending v ((pendingOf v).push (runs.flatten.length,force,0))):=fun v rs Rv hl=>by
    refine ⟨by rw [show arrOf (setPending v ((pendingOf v).push (runs.flatten.length,force,0)))=arrOf v from rfl,Rv.ar]; simp,Rv.pm,Rv.kd,Rv.fl,fun S hS=>?_,?_⟩
    ·rcases List.mem_append.mp hS with hS|hS
     ·exact Rv.ok S hS
     ·rw [List.mem_singleton.mp hS]
      exact ⟨by (first|lia|omega),un⟩
    ·show PM 0 ((pendingOf v).push (runs.flatten.length,force,0)).toList (rs++[N])
     rw [Array.toList_push]
     exact Rv.st.join ⟨by rw [Nat.zero_add]; exact hl.symm,nl.symm,trivial⟩
   have fl2:∀ rs:List (List Keyed),rs.flatten.length=runs.flatten.length→(rs++[N]).flatten.length=runs.flatten.length+force:=fun rs hl=>by rw [List.flatten_append,List.length_append,hl,List.flatten_cons,List.flatten_nil,List.append_nil,nl]
   cases hb:(pendingOf y).back? with
   | none =>
    try rw [hb]
    exact wpS_bind (wpS_modify (wpS_pure ⟨_,_,_,rfl,last y runs Ry rfl,(fl2 runs rfl).symm,by (first|lia|omega)⟩))
   | some q =>
    try rw [hb]
    obtain ⟨s1,n1,w1⟩:=q
    try dsimp only
    refine wpS_bind (wpS_mono (wpS_forRange (fun _ c v=>c=(none,())∧∃ rs,Rn kd rk ini rs (N++rest') v∧rs.flatten.length=runs.flatten.length) (Q:=fun c v=>c=(none,())∧∃ rs,Rn kd rk ini rs (N++rest') v∧rs.flatten.length=runs.flatten.length) (fun x2 c v _ _ hK=>?_) (fun c v hK=>hK) ⟨rfl,runs,Ry,rfl⟩) fun c v hc=>?_)
    ·obtain ⟨rfl,rs,Rv,hl⟩:=hK
     refine wpS_bind (wpS_get ?_)
     have pl:(pendingOf v).size=rs.length:=by rw [← Rv.st.len]; simp
     by_cases c:(pendingOf v).size > 1
     ·rw [if_pos c]
      have g:(pendingOf v)[(pendingOf v).size - 2]?=some ((pendingOf v)[(pendingOf v).size - 2]'(by (first|lia|omega))):=getElem?_pos _ _ (by (first|lia|omega))
      rw [g]
      generalize ((pendingOf v)[(pendingOf v).size - 2]'(by (first|lia|omega)))=q
      obtain ⟨u1,u2,u3⟩:=q
      try dsimp only
      refine ite_ok (fun _=>wpS_pure ⟨rfl,rs,Rv,hl⟩) fun _=>?_
      have hm:(pendingOf v).size - 2+1 < rs.length:=by (first|lia|omega)
      refine wpS_bind (Rv.merge T hm fun v2 rs2 e1 e2 Rv2=>?_)
      exact wpS_pure ⟨rfl,rs2,Rv2,e1.trans hl⟩
     ·rw [if_neg c]
      exact wpS_pure ⟨rfl,rs,Rv,hl⟩
    ·obtain ⟨rfl,rs,Rv,hl⟩:=hc
     try dsimp only
     refine wpS_bind (wpS_modify (wpS_bind (wpS_modify (wpS_pure ⟨_,_,_,rfl,last _ rs ⟨Rv.ar,Rv.pm,Rv.kd,Rv.fl,Rv.ok,?_⟩ hl,(fl2 rs hl).symm,by (first|lia|omega)⟩))))
     show PM 0 ((pendingOf v).modify ((pendingOf v).size - 1) _).toList rs
     rw [Array.toList_modify]
     exact Rv.st.repower _ _ (fun p=>⟨rfl,rfl⟩)
  ·refine ite_ok (fun c2=>?_) fun _=>?_
   ·refine wpS_bind (wpS_lift (wpAny_rule ⟨rfl,?_⟩))
    have f1:r ≤ force0:=by
     show r ≤ min _ _
     have c3:r < _:=c2
     (first|lia|omega)
    have f2:force0 ≤ ini.size - runs.flatten.length:=Nat.min_le_left _ _
    refine wpS_bind (ins_l T my (by (first|lia|omega)) f1 uy fun y my uy=>?_)
    rw [if_neg (by decide)]
    exact K _ _ ⟨my,uy,by (first|lia|omega),by (first|lia|omega)⟩
   ·exact K _ _ ⟨my,uy,by (first|lia|omega),by (first|lia|omega)⟩
 ·obtain ⟨lo,runs,rest,rfl,R,rfl,hx⟩:=hI
  have zl:(arrOf z).toList.length=ini.size:=by simp; exact R.pm.size_eq
  have ll:runs.flatten.length+rest.length=ini.size:=by rw [← zl,R.ar,List.length_append]
  have er:rest=[]:=List.length_eq_zero_iff.mp (by (first|lia|omega))
  subst er
  exact ⟨rfl,runs,R⟩
 ·obtain ⟨c1,runs,R⟩:=hc
  rw [c1]
  try dsimp only
  have zl:(arrOf z).toList.length=ini.size:=by simp; exact R.pm.size_eq
  have ll:runs.flatten.length=ini.size:=by rw [← zl,R.ar,List.append_nil]
  refine wpS_bind (wpS_mono (wpS_forRange (fun x c v=>c=(none,())∧∃ rs,Rn kd rk ini rs [] v∧(rs.length ≤ 1∨rs.length+x ≤ ini.size)) (Q:=fun c v=>c=(none,())∧∃ rs,Rn kd rk ini rs [] v∧rs.length ≤ 1) (fun x c v _ lx hK=>?_) (fun c v hK=>?_) ⟨rfl,runs,R,.inr (by have:=runs_le fun S hS=>(R.ok S hS).1; (first|lia|omega))⟩) fun c v hc=>?_)
  ·obtain ⟨rfl,rs,Rv,hl⟩:=hK
   refine wpS_bind (wpS_get ?_)
   have pl:(pendingOf v).size=rs.length:=by rw [← Rv.st.len]; simp
   try dsimp only
   by_cases c:(pendingOf v).size ≤ 1
   ·rw [if_pos c]
    exact wpS_pure ⟨rfl,rs,Rv,by (first|lia|omega)⟩
   ·rw [if_neg c]
    generalize hij:(if (Option.any _ _:Bool)=true then _ else _)=ij
    have hlt:ij+1 < rs.length:=by
     have:ij ≤ (pendingOf v).size - 2:=by
      rw [← hij]
      exact ite_le2 (Nat.sub_le_sub_left (show 2 ≤ 3 by decide) _) (Nat.le_refl _)
     (first|lia|omega)
    refine wpS_bind (Rv.merge T hlt fun v2 rs2 e1 e2 Rv2=>?_)
    exact wpS_pure ⟨rfl,rs2,Rv2,.inr (by (first|lia|omega))⟩
  ·obtain ⟨hc,rs,Rv,hl⟩:=hK
   exact ⟨hc,rs,Rv,by (first|lia|omega)⟩
  ·obtain ⟨rfl,rs,Rv,hl⟩:=hc
   refine wpS_pure (h v Rv.pm Rv.fl ?_)
   rw [Rv.ar,List.append_nil]
   cases rs with
   | nil=>exact List.Pairwise.nil
   | cons S rs =>
    have:rs=[]:=List.length_eq_zero_iff.mp (by rw [List.length_cons] at hl; (first|lia|omega))
    subst this
    rw [List.flatten_cons,List.flatten_nil,List.append_nil]
    exact (Rv.ok S (by simp)).2
end
end L3
namespace L3
open PySem PySem.Spec PyProof.Rows L2
section
variable {prog:Program} {w:World} {A:Around} {E:Value→Shared→Prop} {s:Shared}
theorem ris_up {rk:Value→Int} {a:Array Keyed} {n:Nat} (hn:a.size=n) (h:Ris rk a.toList):∀ i j,i ≤ j→j < n→av rk a i ≤ av rk a j:=by
 intro i j hij hj
 rw [av_get (by (first|lia|omega)),av_get (by (first|lia|omega))]
 rcases Nat.eq_or_lt_of_le hij with e|e
 ·subst e; exact Int.le_refl _
 ·have:=List.pairwise_iff_getElem.mp h i j (by simp; (first|lia|omega)) (by simp; (first|lia|omega)) e
  simp only [Array.getElem_toList] at this
  (first|lia|omega)
theorem sort_okB {a:Addr} {vs:List Value} {n:Nat} {P:Fin→Shared→Prop} (ho:s.heap.get? a=some (seqObj "list" vs.toArray n)) (R:Rows s.heap vs) (na:.ref a ∉ vs) (nd:(vs.map (rowV s.heap)).Nodup) (h64:vs.length ≤ 5000)
  (h:∀ us:List Value,us.Perm vs→(us.map (rowV s.heap)).Pairwise (fun x y=>HT.lexLt y x=false)→P (.done (.ret .none)) { s with heap:=sortedHeap s.heap a vs us.toArray }) :
  wpAny (model prog w) A (Builtin.«list.sort» ⟨[.ref a],[]⟩) P E s:=by
 have la:a < s.heap.objs.size:=Heap.lt_size ho
 rw [list_sort_plain]
 refine wpAny_bind (listItems_at ho rfl (wpAny_bind (listUpdate_at ho rfl ?_)))
 obtain ⟨c1,o1⟩:∃ c1,(s.heap.update a (Obj.mapSeq fun _=>#[])).get? a=some (seqObj "list" #[] c1):=⟨_,get?_update_seq ho (fun _=>#[])⟩
 refine wpAny_bind (seqEpoch_at o1 rfl (wpAny_bind (wpAny_newTuple (wpAny_bind (wpAny_newList (wpAny_holding ?_))))))
 show wpAny (model prog w) A _ P E { s with heap:=((s.heap.update a (Obj.mapSeq fun _=>#[])).push (seqObj "tuple" vs.toArray 0)).push (seqObj "list" #[] 0) }
 generalize eM:((s.heap.update a (Obj.mapSeq fun _=>#[])).push (seqObj "tuple" vs.toArray 0)).push (seqObj "list" #[] 0)=hM
 have old:∀ b o,b≠a→s.heap.get? b=some o→hM.get? b=some o:=fun b o ne e=>by
  have lb:=Heap.lt_size e
  rw [← eM,Heap.get?_push_ne _ _ _ (by rw [size_push',Heap.size_update]; exact Nat.ne_of_lt (Nat.lt_succ_of_lt lb)),Heap.get?_push_ne _ _ _ (by rw [Heap.size_update]; exact Nat.ne_of_lt lb),Heap.get?_update_ne _ _ _ _ ne]
  exact e
 have o2:hM.get? a=some (seqObj "list" #[] c1):=by
  rw [← eM,Heap.get?_push_ne _ _ _ (by rw [size_push',Heap.size_update]; exact Nat.ne_of_lt (Nat.lt_succ_of_lt la)),Heap.get?_push_ne _ _ _ (by rw [Heap.size_update]; exact Nat.ne_of_lt la)]
  exact o1
 have tupOld:∀ v∈vs,∃ b its ns,v=.ref b∧IsTup s.heap b (its:List Value).toArray∧IsTup hM b its.toArray∧IntsAre its (ns:List Int)∧ns≠[]:=fun v hv=>by
  obtain ⟨b,its,ns,e,⟨o,e2,c⟩,q,nn⟩:=R v hv
  refine ⟨b,its,ns,e,⟨o,e2,c⟩,⟨o,old b o (fun z=>?_) e2,c⟩,q,nn⟩
  subst z e
  exact na hv
 have R2:Rows hM vs:=fun v hv=>let ⟨b,its,ns,e,_,p,q,nn⟩:=tupOld v hv; ⟨b,its,ns,e,p,q,nn⟩
 dsimp only
 have done_:∀ st:SortSt,(arrOf st).Perm (pairsOf vs)→(∀ i j,i ≤ j→j < (pairsOf vs).size→av (fun v=>rankR (vs.map (rowV s.heap)) (rowV s.heap v)) (arrOf st) i ≤ av (fun v=>rankR (vs.map (rowV s.heap)) (rowV s.heap v)) (arrOf st) j) →
   P (.done (.ret .none)) { s with heap:=hM.update a (Obj.mapSeq fun _=>(arrOf st).map (·.2)) }:=fun st pm up=>by
  have hp:(arrOf st).toList.Perm (vs.zip vs):=by rw [← pairsOf_toList]; exact Array.perm_iff_toList_perm.mp pm
  have mem:∀ p∈(arrOf st).toList,p.1=p.2∧p.1∈vs:=fun p hp'=>mem_zip_self (hp.mem_iff.mp hp')
  have e2:((arrOf st).map (·.2)).toList=(arrOf st).toList.map (·.1):=by
   rw [Array.toList_map]
   exact List.map_congr_left fun p hp'=>(mem p hp').1.symm
  have pv:((arrOf st).map (·.2)).toList.Perm vs:=by
   rw [e2]
   have:=hp.map Prod.fst
   rwa [List.map_fst_zip (Nat.le_refl _)] at this
  have q:=h ((arrOf st).map (·.2)).toList pv (by
   rw [e2,List.map_map,List.pairwise_map,List.pairwise_iff_getElem]
   intro i j hi hj hij
   have hi':i < (arrOf st).size:=by simpa using hi
   have hj':j < (arrOf st).size:=by simpa using hj
   have u:=up i j (Nat.le_of_lt hij) (by rw [← pm.size_eq]; exact hj')
   unfold av at u
   rw [getElem?_pos _ i hi',getElem?_pos _ j hj'] at u
   dsimp only at u
   show HT.lexLt (rowV s.heap (arrOf st).toList[j].1) (rowV s.heap (arrOf st).toList[i].1)=false
   cases el:HT.lexLt (rowV s.heap (arrOf st).toList[j].1) (rowV s.heap (arrOf st).toList[i].1) with
   | false=>rfl
   | true =>
    have mj:=(mem (arrOf st).toList[j] (List.getElem_mem _)).2
    have:=(rank_lt (rs:=vs.map (rowV s.heap)) (List.mem_map.mpr ⟨_,mj,rfl⟩)).mpr el
    simp only [Array.getElem_toList] at this
    (first|lia|omega))
  rw [Array.toArray_toList] at q
  have:sortedHeap s.heap a vs ((arrOf st).map (·.2))=hM.update a (Obj.mapSeq fun _=>(arrOf st).map (·.2)):=by unfold sortedHeap; rw [eM]
  rw [← this]
  exact q
 have hz:vs.toArray.size=vs.length:=by simp
 by_cases c2:vs.toArray.size < 2
 ·rw [if_pos c2,if_pos c2]
  refine wpAny_bind (wpAny_pure ?_)
  rw [StateT.run_pure]
  refine wpAny_bind (wpAny_pure ?_)
  dsimp only
  refine wpAny_bind (seqEpoch_at o2 rfl (wpAny_bind (listUpdate_at o2 rfl ?_ (hsz2:=by rw [Array.size_map]; show (pairsOf vs).size ≤ _; rw [pairsOf_size,sizeLine_eq]; (first|lia|omega)))))
  simp only [bne_self_eq_false,Bool.false_eq_true,if_false]
  refine wpAny_pure (done_ (SortSt.mk' general' (vs.toArray.zip vs.toArray) #[] 7 none) (Array.Perm.refl _) fun i j l1 l2=>?_)
  rw [pairsOf_size] at l2
  have:i=j:=by (first|lia|omega)
  subst this
  exact Int.le_refl _
 ·rw [if_neg c2,if_neg c2]
  have hv:vs≠[]:=fun z=>by subst z; simp at c2
  refine wpAny_bind (kind_ok R2 hv ?_)
  have T:Tells prog w A { s with heap:=hM } (tuples' true) (fun v=>rankR (vs.map (rowV s.heap)) (rowV s.heap v)) (pairsOf vs):=by
   refine ⟨fun p hp q hq E Q hQ=>?_,?_⟩
   ·rw [pairsOf_toList] at hp hq
    have mp:=(mem_zip_self hp).2
    have mq:=(mem_zip_self hq).2
    obtain ⟨b1,i1,n1,e1,p1,p1',q1,_⟩:=tupOld _ mp
    obtain ⟨b2,i2,n2,e2,p2,p2',q2,_⟩:=tupOld _ mq
    have r1:=rowV_is p1 q1
    have r2:=rowV_is p2 q2
    rw [e1,e2] at hQ ⊢
    refine key_lt p1' p2' q1 q2 ?_
    have:=rank_lt (rs:=vs.map (rowV s.heap)) (a:=rowV s.heap (.ref b1)) (b:=rowV s.heap (.ref b2)) (List.mem_map.mpr ⟨_,mp,by rw [e1]⟩)
    rw [r1,r2] at this
    rw [r1,r2] at hQ
    have e3:decide (rankR (vs.map (rowV s.heap)) n1 < rankR (vs.map (rowV s.heap)) n2)=HT.lexLt n1 n2:=by
     cases el:HT.lexLt n1 n2 with
     | true=>exact decide_eq_true (this.mpr el)
     | false=>exact decide_eq_false fun z=>by rw [this.mp z] at el; cases el
    rw [e3] at hQ
    exact hQ
   ·rw [pairsOf_toList]
    have e:(vs.zip vs).map (fun p=>rankR (vs.map (rowV s.heap)) (rowV s.heap p.1))=(vs.map (rowV s.heap)).map (rankR (vs.map (rowV s.heap))):=by
     have:(vs.zip vs).map (fun p=>rankR (vs.map (rowV s.heap)) (rowV s.heap p.1))=((vs.zip vs).map Prod.fst).map fun v=>rankR (vs.map (rowV s.heap)) (rowV s.heap v):=by rw [List.map_map]; rfl
     rw [this,List.map_fst_zip (Nat.le_refl _),List.map_map]
     rfl
    rw [e]
    show List.Pairwise _ _
    rw [List.pairwise_map]
    refine List.Pairwise.imp_of_mem (fun {x y} hx hy ne z=>?_) nd
    have k1:=rank_lt (rs:=vs.map (rowV s.heap)) (b:=y) hx
    have k2:=rank_lt (rs:=vs.map (rowV s.heap)) (b:=x) hy
    refine ne (lex_tot ?_ ?_)
    ·cases el:HT.lexLt x y with
     | false=>rfl
     | true=>have:=k1.mpr el; (first|lia|omega)
    ·cases el:HT.lexLt y x with
     | false=>rfl
     | true=>have:=k2.mpr el; (first|lia|omega)
  refine wpAny_bind (wpAny_mono (sort_any (E:=E) (st:=SortSt.mk' (tuples' true) (vs.toArray.zip vs.toArray) #[] 7 none) (ini:=pairsOf vs)
   (Q:=fun _ z=>(arrOf z).Perm (pairsOf vs)∧failedOf z=none∧Ris (fun v=>rankR (vs.map (rowV s.heap)) (rowV s.heap v)) (arrOf z).toList) T (Array.Perm.refl _) rfl rfl rfl fun z a1 a2 a3=>⟨a1,a2,a3⟩) ?_ fun _ _ e=>e)
  rintro ⟨⟨⟩,z⟩ s' ⟨rfl,pm,fl,up⟩
  dsimp only
  refine wpAny_bind (seqEpoch_at o2 rfl (wpAny_bind (listUpdate_at o2 rfl ?_ (hsz2:=by refine Nat.le_trans (Nat.le_of_eq ((Array.size_map ..).trans (pm.size_eq.trans (pairsOf_size _)))) ?_; rw [sizeLine_eq]; (first|lia|omega)))))
  rw [fl]
  simp only [bne_self_eq_false,Bool.false_eq_true,if_false]
  exact wpAny_pure (done_ z pm (ris_up (by rw [pm.size_eq]) up))
theorem sorted_okB {l:Addr} {vs:List Value} {Q:Value→Shared→Prop} (hl:s.heap.IsList l vs.toArray) (R:Rows s.heap vs) (nd:(vs.map (rowV s.heap)).Nodup) (h64:vs.length ≤ 5000)
  (h:∀ us:List Value,us.Perm vs→(us.map (rowV s.heap)).Pairwise (fun x y=>HT.lexLt y x=false)→Q (.ref (s.heap.objs.size+1)) { s with heap:=sortedAll s.heap vs us.toArray }) :
  wpAny (model prog w) A (call (.builtin "sorted") [.ref l]) Q E s:=by
 refine Calls.call_function_entry kind_sorted plain_sorted entry_sorted (args_sorted1 _) ?_
 unfold Builtin.«sorted»
 refine wpAny_bind (m:=checkCount "sorted" 1 1 _) (wpAny_pure (wpAny_bind (collect_list hl (wpAny_bind (wpAny_newList ?_)) (by rw [sizeLine_eq]; (first|lia|omega)))))
 have z1:((s.heap.push (seqObj "list" #[] 0)).update s.heap.objs.size (Obj.mapSeq (·++vs.toArray))).objs.size=s.heap.objs.size+1:=by rw [Heap.size_update,size_push']
 show wpAny _ _ _ _ _ { s with heap:=((s.heap.push (seqObj "list" #[] 0)).update s.heap.objs.size (Obj.mapSeq (·++vs.toArray))).push (seqObj "list" vs.toArray 0) }
 rw [z1]
 generalize eM:((s.heap.push (seqObj "list" #[] 0)).update s.heap.objs.size (Obj.mapSeq (·++vs.toArray))).push (seqObj "list" vs.toArray 0)=hM
 have o1:hM.get? (s.heap.objs.size+1)=some (seqObj "list" vs.toArray 0):=by
  rw [← eM,← z1]; exact Heap.get?_push_size _ rfl
 have old:∀ b o,s.heap.get? b=some o→hM.get? b=some o:=fun b o e=>by
  have lb:=Heap.lt_size e
  rw [← eM,Heap.get?_push_ne _ _ _ (by rw [z1]; exact Nat.ne_of_lt (Nat.lt_succ_of_lt lb)),Heap.get?_update_ne _ _ _ _ (Nat.ne_of_lt lb),Heap.get?_push_ne _ _ _ (Nat.ne_of_lt lb)]
  exact e
 obtain ⟨R2,rw2⟩:=R.stay old
 have mp:vs.map (rowV hM)=vs.map (rowV s.heap):=List.map_congr_left rw2
 have na:Value.ref (s.heap.objs.size+1) ∉ vs:=fun z=>by
  obtain ⟨a,its,ns,e,⟨o,e2,_⟩,_⟩:=R _ z
  cases e
  exact absurd (Heap.lt_size e2) (Nat.not_lt.mpr (Nat.le_succ _))
 refine wpAny_bind (wpAny_holding (wpAny_call_entry slot_list_sort ⟨_,o1,rfl⟩ entry_list_sort ?_ (args_list_sort _)))
 refine sort_okB (s:={ s with heap:=hM }) o1 R2 na (by rw [mp]; exact nd) h64 fun us pm up=>⟨_,rfl,wpAny_pure ⟨_,rfl,?_⟩⟩
 have q:=h us pm (by
  have:us.map (rowV hM)=us.map (rowV s.heap):=List.map_congr_left fun v hv=>rw2 v (pm.mem_iff.mp hv)
  rw [← this]; exact up)
 unfold sortedAll at q
 rw [eM] at q
 exact q
end
noncomputable def dSortedB:List D→R En
 | [.lst ds]=>(match rowsOf ds with
  | some rs=>if rs.Nodup∧rs.length ≤ 5000∧[] ∉ rs then .ok (.ow (.lst ((sortR rs).map rowD))) else .stuck
  | none=>.stuck)
 | _=>.stuck
section
variable {X:Cx} {F0 H0:Hp}
theorem cd_sortedB:CallD X (.builtin "sorted") dSortedB:=by
 intro pins s σ F H xs us ds Q I l rx qx w
 cases qx with
 | nil=>exact w.elim
 | @cons x d xs ds q1 q2 =>
  cases q2 with
  | cons _ _=>cases d <;> exact w.elim
  | nil =>
   cases d <;> first|exact w.elim|skip
   rename_i ds
   unfold dSortedB at w
   dsimp only at w
   cases e:rowsOf ds with
   | none=>rw [e] at w; exact w.elim
   | some rs =>
    rw [e] at w
    dsimp only at w
    by_cases c:rs.Nodup∧rs.length ≤ 5000∧[] ∉ rs
    ·rw [if_pos c] at w
     obtain ⟨p,vs,rfl,hq,rs'⟩:=RdV.lst l q1
     cases rx with
     | cons r1 r2 =>
      cases r2
      cases r1
      obtain ⟨its,rv,pl,hz⟩:=I.list hq
      obtain ⟨m,k⟩:=rows_rep I l e rs' rv
      have len:its.length=rs.length:=by rw [← m,List.length_map]
      refine sorted_okB pl.isList (fun v hv=>?_) (by rw [m]; exact c.1) (by rw [len]; exact c.2.1) fun ys pm up=>?_
      ·obtain ⟨a,i2,ns,e,p1,p2,_,p4⟩:=k v hv
       exact ⟨a,i2,ns,e,p1,p2,fun z=>c.2.2 (z ▸ p4)⟩
      ·have em:ys.map (rowV s.heap)=sortR rs:=sorted_one ((pm.map _).trans (by rw [m]; exact (sortR_perm rs).symm)) up (sortR_le rs)
       have go:∀ zs:List Value,(∀ u∈zs,u∈its)→Vals (zs.map toV) zs∧Reps (kx X) F (zs.map toV) ((zs.map (rowV s.heap)).map rowD):=by
        intro zs
        induction zs with
        | nil=>intro _; exact ⟨.nil,rfl⟩
        | cons z zs ih =>
         intro hz
         obtain ⟨i1,i2⟩:=ih fun u hu=>hz u (List.mem_cons_of_mem _ hu)
         obtain ⟨a,i3,ns,rfl,p1,p2,p3,_⟩:=k z (hz z List.mem_cons_self)
         refine ⟨.cons rfl i1,⟨.ref a,_,rfl,?_,i2⟩⟩
         rw [rowV_is p1 p2]
         exact p3
       obtain ⟨g1,g2⟩:=go ys fun u hu=>pm.mem_iff.mp hu
       rw [em] at g2
       obtain ⟨c',he⟩:=sortedAll_at s.heap its ys.toArray
       have hp:H (s.heap.objs.size+1)=none:=I.hok.fresh (Nat.le_succ _)
       have hl2:(ys.map toV).length ≤ sizeLine:=by
        rw [List.length_map,pm.length_eq,sizeLine_eq]
        have:=c.2.1
        (first|lia|omega)
       refine ⟨.ref (s.heap.objs.size+1),upd H (s.heap.objs.size+1) (.lst (ys.map toV)),I.laid (t':=s.toks) (fun b o q=>sortedAll_old q) (Nat.le_succ _) ⟨hl2,ys,c',g1,he⟩,rfl,?_⟩
       exact w _ _ _ (Gr.new l hp) ⟨_,_,rfl,hp,Le.none l hp,upd_same,g2⟩
    ·rw [if_neg c] at w; exact w.elim
end
end L3
namespace L3
open PySem PySem.Spec PyProof.Rows L2
section
variable {X:Cx} {F0 H0:Hp} {pos pos2 p p2:Pos}
end
end L3
namespace L3
open PySem PySem.Spec PyProof.Rows L2
theorem args_fz {κ:Kx} {F H G:Hp}:∀ {vs:List V} {ws:List En},(ws.all fun w=>match w with|.fz _=>true|_=>false)=true→Args κ F H vs ws→Args κ F G vs ws
 | _,[],_,h=>h
 | _,.fz d::ws,c,h=>by
  obtain ⟨v,r,e,h1,h2⟩:=h
  exact ⟨v,r,e,h1,args_fz (by simpa using c) h2⟩
 | _,.br d::ws,c,h=>by simp at c
 | _,.ow d::ws,c,h=>by simp at c
 | _,.lk d::ws,c,h=>by simp at c
 | _,.od d::ws,c,h=>by simp at c
noncomputable def ioD (a:Addr) (d:D):En:=.od (.tup [.int (a:Int),d])
noncomputable def spI (κ:Kx) (dn:Den) (n:Nat):Sp:=fun vs H Q _=>vs.length=n∧∃ F a o d pre post v1 v2,vs=v1++.ref a::v2∧Le F (but H a)∧H a=some o∧OwnO κ F o d∧Args κ F (but H a) v1 pre∧Args κ F (but H a) v2 post ∧
 KE (fun _=>False) (dn (pre++ioD a d::post)) fun w=>∀ v F' H',Gr F (but H a) F' H'→Vok κ (but H a) F' H' v w→Q v H'
theorem eok_up {κ:Kx} {H0 F H H':Hp} {v:V} {w:En} (h:Eok κ H0 F H v w) (o:w.own=false):Eok κ H0 F H' v w:=by
 cases w with
 | fz d=>exact h
 | ow d=>cases o
 | lk d=>exact h
 | br d=>exact h
 | od d=>cases o
theorem start_io {κ:Kx} {F H:Hp} {N:List Str} {a:Addr} {o:HO} {d:D} {v1 v2:List V} {pre post:List En} (l:Le F (but H a)) (ho:H a=some o) (ro:OwnO κ F o d) (h1:Args κ F (but H a) v1 pre) (h2:Args κ F (but H a) v2 post) :
  StOk κ F (but H a) F H ((pre++ioD a d::post).map some++List.replicate (N.length - (pre++ioD a d::post).length) none) (L2.start N (v1++.ref a::v2)):=by
 have l1:=args_len h1
 have l2:=args_len h2
 have fa:F a=none:=Le.none l but_same
 have sv:∀ (i:Nat) (v:V),(v1++.ref a::v2)[i]?=some v→(L2.start N (v1++.ref a::v2))[i]?=some (some v):=fun i v e=>by
  unfold L2.start
  have hi:=(List.getElem?_eq_some_iff.mp e).1
  rw [List.getElem?_append_left (by simpa using hi),List.getElem?_map,e]
  rfl
 have at_:∀ (i:Nat) (w:En),((pre++ioD a d::post).map some++List.replicate (N.length - (pre++ioD a d::post).length) none)[i]?=some (some w)→(pre++ioD a d::post)[i]?=some w:=fun i w e=>by
  by_cases hi:i < (pre++ioD a d::post).length
  ·rw [List.getElem?_append_left (by simpa using hi),List.getElem?_map] at e
   cases q:(pre++ioD a d::post)[i]? with
   | none=>rw [q] at e; cases e
   | some y=>rw [q] at e; simpa using e
  ·rw [List.getElem?_append_right (by simpa using hi),List.getElem?_replicate] at e
   split at e <;> cases e
 have cs:∀ (i:Nat) (w:En),(pre++ioD a d::post)[i]?=some w→(i=pre.length∧w=ioD a d)∨(i≠pre.length∧w.own=false∧∃ v,(v1++.ref a::v2)[i]?=some v∧Eok κ (but H a) F (but H a) v w):=fun i w e=>by
  rcases Nat.lt_trichotomy i pre.length with c|c|c
  ·rw [List.getElem?_append_left c] at e
   obtain ⟨v,q1,q2,q3⟩:=args_st h1 i w (by rw [List.getElem?_map,e]; rfl)
   refine .inr ⟨Nat.ne_of_lt c,q3,v,?_,q2⟩
   rw [List.getElem?_append_left (by (first|lia|omega))]
   rw [List.getElem?_map] at q1
   cases z:v1[i]? with
   | none=>rw [z] at q1; cases q1
   | some y=>rw [z] at q1; simpa using q1
  ·subst c
   rw [List.getElem?_append_right (Nat.le_refl _),Nat.sub_self] at e
   exact .inl ⟨rfl,by simpa using e.symm⟩
  ·rw [List.getElem?_append_right (Nat.le_of_lt c)] at e
   obtain ⟨j,hj⟩:∃ j,i - pre.length=j+1:=⟨i - pre.length - 1,by (first|lia|omega)⟩
   rw [hj,List.getElem?_cons_succ] at e
   obtain ⟨v,q1,q2,q3⟩:=args_st h2 j w (by rw [List.getElem?_map,e]; rfl)
   refine .inr ⟨Nat.ne_of_gt c,q3,v,?_,q2⟩
   rw [List.getElem?_append_right (by (first|lia|omega)),show i - v1.length=j+1 by (first|lia|omega),List.getElem?_cons_succ]
   rw [List.getElem?_map] at q1
   cases z:v2[j]? with
   | none=>rw [z] at q1; cases q1
   | some y=>rw [z] at q1; simpa using q1
 have sa:(v1++.ref a::v2)[pre.length]?=some (.ref a):=by rw [← l1,List.getElem?_append_right (Nat.le_refl _),Nat.sub_self]; rfl
 refine ⟨⟨Le.refl,but_le,Le.trans l but_le,fun _ z=>.inl z⟩,by simp [L2.start,l1,l2],fun i w e=>?_,fun i j w w' b hij ei ej oi oj si sj=>?_,fun i y e=>?_⟩
 ·rcases cs i w (at_ i w e) with ⟨rfl,rfl⟩|⟨_,ow,v,q1,q2⟩
  ·exact ⟨.ref a,sv _ _ sa,a,o,rfl,but_same,fa,ho,OwnO.noTup ro⟩
  ·exact ⟨v,sv i v q1,eok_up q2 ow⟩
 ·rcases cs i w (at_ i w ei) with ⟨rfl,_⟩|⟨_,z,_⟩
  ·rcases cs j w' (at_ j w' ej) with ⟨rfl,_⟩|⟨_,z,_⟩
   ·exact hij rfl
   ·rw [oj] at z; cases z
  ·rw [oi] at z; cases z
 ·rcases cs i _ (at_ i _ e) with ⟨rfl,z⟩|⟨_,z,_⟩
  ·cases z
   refine ⟨fun j z hj ej=>?_,a,[],sv _ _ sa,but_same,fa,by simp,⟨rfl,o,d,rfl,ho,ro⟩,fun j w b hj ej oj m sj=>?_⟩
   ·rcases cs j _ (at_ j _ ej) with ⟨q,_⟩|⟨_,q,_⟩
    ·exact hj q
    ·cases q
   ·rcases cs j _ (at_ j _ ej) with ⟨q,_⟩|⟨_,q,_⟩
    ·exact hj q
    ·rw [oj] at q; cases q
  ·cases z
section
variable {P:Program} {w:World} {K:PySem.W.Frag} {mg:Str→Option Value} {base:Heap}
theorem fnI {x qual:Str} {st:Stmt} {f:Addr} {fd:FuncData} {N ps:List Str} {k:Nat} {body:SF} (F:Fun K x qual st f fd) (S:FnScope N ps (defScope st))
  (h:∀ (cdv:Value) (A:Around) (outer:List Env) (s:Shared) (H F0 H0:Hp),Room k (A.deeper (envOfC qual (defScope st) s.heap.objs.size f cdv)) →
   SSs (cxOf CX0 P w K mg base N qual (defScope st) f cdv A outer s H E0).nox F0 H0 (defBody st) body):FnOk P w K mg base CX0 (k+1) f fd ps (spI ⟨P,w,K⟩ (den N.length body) ps.length):=by
 refine F.ok S (fun vs H Q E q=>q.1) (fun cdv A outer s H vs Q E hr q=>?_)
 obtain ⟨hl,F0,a,o,d,pre,post,v1,v2,rfl,l,ho,ro,a1,a2,q⟩:=q
 refine ⟨tSemS _ _,pss_sem,fun pins s' I=>?_⟩
 have B:=h cdv A outer s H F0 (but H a) hr
 have B':SSs (cxOf CX0 P w K mg base N qual (defScope st) f cdv A outer s H E).nox F0 (but H a) (defBody st) body:=B
 refine B' pins s' (L2.start N (v1++.ref a::v2)) F0 H _ _ (start_io (N:=N) l ho ro a1 a2) I ?_
 have e:KE (fun _=>False) (den N.length body (pre++ioD a d::post)) fun w'=>∀ v F' H',Gr F0 (but H a) F' H'→Vok ⟨P,w,K⟩ (but H a) F' H' v w'→Q v H':=q
 unfold den fin at e
 cases eb:body ((pre++ioD a d::post).map some++List.replicate (N.length - (pre++ioD a d::post).length) none) with
 | nx ρ=>rw [eb] at e; exact fun σ' F' H' l' S'=>e .non F' H' S'.gr rfl
 | rt w'=>rw [eb] at e; exact e
 | bk ρ=>rw [eb] at e; exact e.elim
 | ct ρ=>rw [eb] at e; exact e.elim
 | exc x=>rw [eb] at e; exact e.elim
 | stuck=>rw [eb] at e; exact e.elim
end
noncomputable def ioR (o:Option (Option En)):Option (Int×D):=match o with
 | some (some (.od (.tup [.int a,d])))=>some (a,d)
 | _=>none
theorem ioR_eq {o:Option (Option En)} {a:Int} {d:D} (h:ioR o=some (a,d)):o=some (some (.od (.tup [.int a,d]))):=by
 unfold ioR at h
 split at h
 ·cases h; rfl
 ·cases h
noncomputable def eVarI (i:Nat):EF:=fun ρ=>match ioR ρ[i]? with
 | some (_,d)=>.ok (.br d)
 | none=>.stuck
theorem StOk.io {κ:Kx} {F0 H0 F H:Hp} {ρ:Rho} {σ:St} {i:Nat} {ai:Int} {d:D} (S:StOk κ F0 H0 F H ρ σ) (e:ρ[i]?=some (some (.od (.tup [.int ai,d])))) :
  shal i ρ∧∃ (a:Addr) (o:HO),ai=(a:Int)∧σ[i]?=some (some (.ref a))∧H0 a=none∧F a=none∧H a=some o∧OwnO κ F o d ∧
   ∀ (j:Nat) (w:En) (b:Addr),j≠i→ρ[j]?=some (some w)→w.own=true→b∈a::[]→σ[j]?≠some (some (.ref b)):=by
 obtain ⟨sh,a,bs,si,h0,hf,nd,dp,sp⟩:=S.dp i _ e
 obtain ⟨eb,o,d',ex,ho,ro⟩:=dp
 subst eb
 injection ex with e1 e2
 injection e1 with e1
 injection e2 with e2 _
 subst e2
 exact ⟨sh,a,o,e1,si,h0,hf,ho,ro,sp⟩
section
variable {X:Cx} {F0 H0:Hp} {pos:Pos}
theorem se_varI (i:Nat) {x:Str} {pos:Pos} (hN:X.N[i]?=some x:=by rfl) (hv:Vis X.env.scope x:=by trivial) (hd:(x == ("__debug__":Str))=false:=by decide)
  (hcd:(x == ("__classdict__":Str))=false:=by decide):SE X F0 H0 (.Name x pos) (eVarI i):=by
 intro pins s σ F H ρ Q S I h
 unfold eVarI at h
 cases e:ioR ρ[i]? with
 | none=>rw [e] at h; exact h.elim
 | some p =>
  obtain ⟨ai,d⟩:=p
  rw [e] at h
  obtain ⟨_,a,o,_,si,h0,hf,ho,ro,_⟩:=S.io (ioR_eq e)
  refine thn (pe_var hN hv hd hcd pins s σ H (fun v' H'=>v'=.ref a∧H'=H) I ⟨.ref a,si,rfl,rfl⟩) fun u s' ⟨v',H',I',r,ev,eh⟩=>?_
  subst ev eh
  exact h (.ref a) u F H' s' (Gr.refl S.s) ⟨a,o,rfl,ho,ro⟩ r I'
noncomputable def retI (a:Int) (d:D):En→Out
 | .fz g=>.rt (.od (.tup [.int a,d,g]))
 | _=>.stuck
noncomputable def sRetI (i:Nat) (e:EF):SF:=fun ρ=>match ioR ρ[i]? with
 | some (a,d)=>sOf (e ρ) (retI a d)
 | none=>.stuck
theorem ss_retI (i:Nat) {e:Expr} {f:EF} (he:SE X F0 H0 e f):SS X F0 H0 (.Return (some e) pos) (sRetI i f):=by
 intro pins s σ F H ρ D S I h
 unfold sRetI at h
 cases ei:ioR ρ[i]? with
 | none=>rw [ei] at h; exact h.elim
 | some p =>
  obtain ⟨ai,d⟩:=p
  rw [ei] at h
  obtain ⟨_,a,o,ea,si,h0,hf,ho,ro,_⟩:=S.io (ioR_eq ei)
  refine ps_ret (pos:=pos) (pe_sem (e:=e)) pins s σ H D I (he.sem S ((PostS.of h).imp fun w k v F1 H1 g1 q1=>?_))
  cases w <;> first|exact k.elim|skip
  rename_i g
  subst ea
  have r:Rep (kx X) F1 v g:=q1
  exact k v F1 H1 (S.gr.trans g1) (.inr (.inr (.inr ⟨a,d,g,rfl,o,h0,g1.no hf ho (OwnO.noTup ro),g1.h _ _ ho,OwnO.le g1.f ro,r⟩)))
noncomputable def sPutI (i:Nat) (k:List EF) (e:EF):SF:=fun ρ=>match ioR ρ[i]? with
 | some (a,.dT kvs)=>sOf ((e ρ).bind En.st) fun d=>sOf (evs k ρ) fun ws=>match keysOf (ws.map En.d) with
  | some key=>if kvs.length < sz∧key.length ≤ sz then .nx (ρ.set i (some (.od (.tup [.int a,.dT (putM key d kvs)])))) else .stuck
  | none=>.stuck
 | _=>.stuck
theorem ss_putI (i:Nat) {x:Str} {np tp pos pos':Pos} {ks:List Expr} {e:Expr} {n:Nat} {fk:List EF} {fe:EF} (hu:X.A.units+10 < cLine) (hk:SA X F0 H0 ks fk) (he:SE X F0 H0 e fe) (hN:X.N[i]?=some x:=by rfl) (hv:Vis X.env.scope x:=by trivial) (hd:(x == ("__debug__":Str))=false:=by decide)
  (hcd:(x == ("__classdict__":Str))=false:=by decide) (hs:swapsWith e (some (.Subscript (.Name x np) (.Tuple ks n tp) pos')) pos.line X.env=pure false:=by rfl) :
  SS X F0 H0 (.Assign [.Subscript (.Name x np) (.Tuple ks n tp) pos'] e pos) (sPutI i fk fe):=by
 intro pins s σ F H ρ D S I h
 unfold sPutI at h
 cases ei:ioR ρ[i]? with
 | none=>rw [ei] at h; exact h.elim
 | some p =>
  obtain ⟨ai,d⟩:=p
  rw [ei] at h
  cases d <;> first|exact h.elim|skip
  rename_i kds
  have ew:=ioR_eq ei
  obtain ⟨sh,a,o,ea,e1,h0,hf,hh,ro,sp⟩:=S.io ew
  cases o <;> first|exact ro.elim|skip
  rename_i kvs
  have h:=KE.bind (PostS.of h)
  refine ps_dput (pos:=pos) (pos':=pos') (by (first|lia|omega)) (pe_var (pos:=np) hN hv hd hcd) (pe_sem (e:=.Tuple ks n tp)) (pe_sem (e:=e)) hs pins s σ H D I (he.sem S (h.imp fun w k1 y F1 H1 g1 q1=>?_))
  cases es:w.st with
  | exc x=>rw [es] at k1; exact k1.elim
  | stuck=>rw [es] at k1; exact k1.elim
  | ok d =>
   rw [es] at k1
   have ry:=Vok.st S.s g1 q1 es
   obtain ⟨g2,_⟩:=fzAll_gr S.s g1
   have S2:=S.grow g2
   refine ⟨_,e1,tup_sem hk S2 ((PostS.of (show PostS X F0 H0 F D _ from k1)).imp fun ws k2 vs F3 H3 p g3 q3 hp=>?_)⟩
   cases ek:keysOf (ws.map En.d) with
   | none=>rw [ek] at k2; exact k2.elim
   | some key =>
    rw [ek] at k2
    have ev:=keys_ok q3 ek
    subst ev
    have lv:kvs.length=kds.length:=RepT.length ro
    by_cases c:kds.length < sz∧key.length ≤ sz
    ·have k3:PostS X F0 H0 F D (.nx (ρ.set i (some (.od (.tup [.int ai,.dT (putM key d kds)]))))):=by simpa [if_pos c,KE] using k2
     refine ⟨by rw [List.length_map,← sz_eq]; exact c.2,a,_,rfl,DPut.t (e:=?_) upd_same (by rw [lv,← sz_eq]; exact c.1),?_⟩
     ·rw [upd_ne (ne_of_none (g3.h _ _ (g1.h _ _ hh)) hp)]; exact g3.h _ _ (g1.h _ _ hh)
     ·have g4:=Gr.new (o:=.tup (key.map kV)) g3.s hp
      have S4:=(S2.grow g3).grow g4
      obtain ⟨sh4,a4,o4,ea4,e4,h04,hf4,hh4,ro4,sp4⟩:=S4.io ew
      rw [e1] at e4
      cases e4
      refine k3 σ _ _ (Le.trans g2.f (Le.trans g3.f g4.f)) (S4.turn (bs:=[]) (bs':=[]) ew e1 sh4 sp4 (fun c hc=>upd_ne fun z=>hc (by rw [z]; simp)) (fun b hb=>by cases hb) (fun c hc=>?_) (fun c hc=>?_) (by simp) ⟨rfl,.dT (putK kvs key y),_,by rw [ea],upd_same,?_⟩)
      ·rw [List.mem_singleton.mp hc]; exact h04
      ·rw [List.mem_singleton.mp hc]; exact hf4
      ·exact putM_repT (Rep.le (Le.trans g3.f g4.f) _ ry) (RepT.le (Le.trans g2.f (Le.trans g3.f g4.f)) _ ro)
    ·have:False:=by simpa [if_neg c,PostS,KE] using k2
     exact this.elim
noncomputable abbrev IOF:=Rho→R (D×Rho)
noncomputable def SIO (X:Cx) (F0 H0:Hp) (e:Expr) (f:IOF):Prop :=
 ∀ (pins:List (Addr×Obj)) (s:Shared) (σ:St) (F H:Hp) (ρ:Rho) (Q:Value→Shared→Prop),StOk (kx X) F0 H0 F H ρ σ→Inv X pins σ H s →
  KE (XP X F0 H0) (f ρ) (fun p=>∀ v u F' H' s',Le F F'→StOk (kx X) F0 H0 F' H' p.2 σ→Rep (kx X) F' v p.1→RelV v u→Inv X pins σ H' s'→Q u s') →
  wpAny (model X.prog X.w) X.A (eval e X.env) Q X.xe s
noncomputable def SAI (X:Cx) (F0 H0:Hp) (i:Nat) (es:List Expr) (pre post:List EF):Prop :=
 ∀ (pos:Pos) (pins:List (Addr×Obj)) (s:Shared) (σ:St) (F H:Hp) (ρ:Rho) (Q:List Value→Shared→Prop) (a:Addr),StOk (kx X) F0 H0 F H ρ σ→Inv X pins σ H s→σ[i]?=some (some (.ref a)) →
  KE (XP X F0 H0) (evs pre ρ) (fun ws=>KE (XP X F0 H0) (evs post ρ) fun ws2=>∀ v1 v2 us F' H' s',Gr F H F' H'→Voks (kx X) H F' H' v1 ws→Voks (kx X) H F' H' v2 ws2→Vals (v1++.ref a::v2) us→Inv X pins σ H' s'→Q us s') →
  wpAny (model X.prog X.w) X.A (spliced (backTo pos (starEach es X.env))) Q X.xe s
theorem sai_here (i:Nat) {x:Str} {np:Pos} {es:List Expr} {post:List EF} (hr:SA X F0 H0 es post) (hN:X.N[i]?=some x:=by rfl) (hv:Vis X.env.scope x:=by trivial) (hd:(x == ("__debug__":Str))=false:=by decide)
  (hcd:(x == ("__classdict__":Str))=false:=by decide) (hs:starEach (.Name x np::es) X.env=(false,eval (.Name x np) X.env)::starEach es X.env:=by rfl):SAI X F0 H0 i (.Name x np::es) [] post:=by
 intro pos pins s σ F H ρ Q a S I si h
 rw [hs]
 refine Calls.spliced_cons (thn (pe_var hN hv hd hcd pins s σ H (fun v' H'=>v'=.ref a∧H'=H) I ⟨.ref a,si,rfl,rfl⟩) fun u s1 ⟨v',H',I1,r,ev,eh⟩=>?_)
 subst ev eh
 refine hr pos pins s1 σ F H' ρ _ S I1 (KE.imp (show KE (XP X F0 H0) (evs post ρ) _ from h) fun ws2 k vs us F2 H2 s2 g q r2 I2=>?_)
 exact k [] vs (u::us) F2 H2 s2 g rfl q (.cons r r2) I2
theorem sai_cons {i:Nat} {e:Expr} {es:List Expr} {f:EF} {pre post:List EF} (he:SE X F0 H0 e f) (hr:SAI X F0 H0 i es pre post) (hs:starEach (e::es) X.env=(false,eval e X.env)::starEach es X.env:=by rfl):SAI X F0 H0 i (e::es) (f::pre) post:=by
 intro pos pins s σ F H ρ Q a S I si h
 rw [hs]
 refine Calls.spliced_cons (he pins s σ F H ρ _ S I ((KE.bind h).imp fun w h1 v u F1 H1 s1 g1 q1 r1 I1=>?_))
 refine hr pos pins s1 σ F1 H1 ρ _ a (S.grow g1) I1 si ((KE.bind h1).imp fun ws h2=>?_)
 have h2:KE (XP X F0 H0) (evs post ρ) _:=h2
 refine h2.imp fun ws2 k v1 v2 us F2 H2 s2 g2 q2 q3 r2 I2=>?_
 exact k (v::v1) v2 (u::us) F2 H2 s2 (g1.trans g2) ⟨v,v1,rfl,Vok.gr g2 q1,Voks.older (fun a e=>Le.none g1.h e) q2⟩ (Voks.older (fun a e=>Le.none g1.h e) q3) (.cons r1 r2) I2
noncomputable def allFz (ys:List En):Bool:=ys.all fun w=>match w with|.fz _=>true|_=>false
open Classical in
noncomputable def ioVal (dn:Den) (pre:List En) (d:D) (post:List En):R (D×D) :=
 if h:∃ r:D×D,∀ a:Addr,dn (pre++ioD a d::post)=.ok (.od (.tup [.int (a:Int),r.1,r.2])) then .ok h.choose else .stuck
theorem ioVal_eq {dn:Den} {pre:List En} {d:D} {post:List En} {d' g:D} (h:∀ a:Addr,dn (pre++ioD a d::post)=.ok (.od (.tup [.int (a:Int),d',g]))):ioVal dn pre d post=.ok (d',g):=by
 unfold ioVal
 have ex:∃ r:D×D,∀ a:Addr,dn (pre++ioD a d::post)=.ok (.od (.tup [.int (a:Int),r.1,r.2])):=⟨(d',g),h⟩
 rw [dif_pos ex]
 have q:=ex.choose_spec 0
 rw [h 0] at q
 injection q with q
 injection q with q
 injection q with q
 injection q with _ q
 injection q with q1 q
 injection q with q2 _
 rw [← show ex.choose.1=d' from q1.symm,← show ex.choose.2=g from q2.symm]
noncomputable def eIO (dn:Den) (i:Nat) (pre post:List EF):IOF:=fun ρ=>match ρ[i]? with
 | some (some (.ow d))=>(evs pre ρ).bind fun xs=>(argAll xs).bind fun ys=>(evs post ρ).bind fun xs2=>(argAll xs2).bind fun ys2=>if (allFz ys && allFz ys2)=true then (ioVal dn ys d ys2).bind fun r=>.ok (r.2,ρ.set i (some (.ow r.1))) else .stuck
 | _=>.stuck
theorem voks_len {κ:Kx} {H F H':Hp}:∀ {ws:List En} {vs:List V},Voks κ H F H' vs ws→vs.length=ws.length
 | [],vs,h=>by cases (show vs=[] from h); rfl
 | w::ws,vs,h=>by obtain ⟨v,r,rfl,_,h2⟩:=h; simp [voks_len h2]
theorem io_core {e:Expr} {es:List Expr} {k n i:Nat} {f:Addr} {fd:FuncData} {ps:List Str} {dn:Den} {pre post:List EF} (G:FnOk X.prog X.w X.K X.mg X.base CX0 k f fd ps (spI (kx X) dn n)) (hr:Room k X.A) (hk:PySem.W.keepIn X.K (.ref f)=true) (hb:Binds X.K fd ps [])
  (ha:SAI X F0 H0 i (e::es) pre post) (hn:pre.length+(post.length+1)=n) (he:starEach (e::es) X.env=(false,eval e X.env)::starEach es X.env) (hpl:(backTo pos (starEach es X.env)).any (·.1)=false)
  {pins:List (Addr×Obj)} {s:Shared} {σ:St} {F H:Hp} {ρ:Rho} {Q:Value→Shared→Prop} (S:StOk (kx X) F0 H0 F H ρ σ) (I:Inv X pins σ H s)
  (h:KE (XP X F0 H0) (eIO dn i pre post ρ) (fun p=>∀ v u F' H' s',Le F F'→StOk (kx X) F0 H0 F' H' p.2 σ→Rep (kx X) F' v p.1→RelV v u→Inv X pins σ H' s'→Q u s')) :
  wpAny (model X.prog X.w) X.A (callWith pos (.ref f) [] (backTo pos (starEach (e::es) X.env)) []) Q X.xe s:=by
 unfold eIO at h
 split at h
 ·rename_i d ei
  obtain ⟨v0,si,a,o,rfl,h0,hf,hh,ro⟩:=S.val i _ ei
  refine PySem.W.callWith_K (h₀:=X.base) I.ok.mod.kin hk (ha pos pins s σ F H ρ _ a S I si ?_) he hpl
  have h:=KE.bind h
  cases ef:evs pre ρ with
  | exc x=>rw [ef] at h; exact h
  | stuck=>rw [ef] at h; exact h
  | ok ws =>
   rw [ef] at h
   have h:KE (XP X F0 H0) ((argAll ws).bind fun ys=>(evs post ρ).bind fun xs2=>(argAll xs2).bind fun ys2=>if (allFz ys && allFz ys2)=true then (ioVal dn ys d ys2).bind fun r=>.ok (r.2,ρ.set i (some (.ow r.1))) else .stuck) _:=h
   cases ea:argAll ws with
   | exc x=>rw [ea] at h; exact h.elim
   | stuck=>rw [ea] at h; exact h.elim
   | ok ys =>
    rw [ea] at h
    have h:=KE.bind (show KE (XP X F0 H0) ((evs post ρ).bind fun xs2=>(argAll xs2).bind fun ys2=>if (allFz ys && allFz ys2)=true then (ioVal dn ys d ys2).bind fun r=>.ok (r.2,ρ.set i (some (.ow r.1))) else .stuck) _ from h)
    show KE (XP X F0 H0) (evs post ρ) _
    cases ef2:evs post ρ with
    | exc x=>rw [ef2] at h; exact h
    | stuck=>rw [ef2] at h; exact h
    | ok ws2 =>
     rw [ef2] at h
     intro v1 v2 us F1 H1 s1 g1 q1 q2 r1 I1
     refine ⟨I1.kIn,?_⟩
     have h:KE (XP X F0 H0) ((argAll ws2).bind fun ys2=>if (allFz ys && allFz ys2)=true then (ioVal dn ys d ys2).bind fun r=>.ok (r.2,ρ.set i (some (.ow r.1))) else .stuck) _:=h
     cases ea2:argAll ws2 with
     | exc x=>rw [ea2] at h; exact h.elim
     | stuck=>rw [ea2] at h; exact h.elim
     | ok ys2 =>
      rw [ea2] at h
      have h:KE (XP X F0 H0) (if (allFz ys && allFz ys2)=true then (ioVal dn ys d ys2).bind fun r=>.ok (r.2,ρ.set i (some (.ow r.1))) else .stuck) _:=h
      by_cases c:(allFz ys && allFz ys2)=true
      ·rw [if_pos c] at h
       rw [Bool.and_eq_true] at c
       obtain ⟨g2,l2⟩:=fzAll_gr S.s g1
       have A1:=args_fz (G:=but H1 a) c.1 (argAll_ok (κ:=kx X) g1.s q1 ea (fzAll H F1 H1) l2 (fun a o e0 e2=>by unfold fzAll; rw [e0]; exact e2))
       have A2:=args_fz (G:=but H1 a) c.2 (argAll_ok (κ:=kx X) g1.s q2 ea2 (fzAll H F1 H1) l2 (fun a o e0 e2=>by unfold fzAll; rw [e0]; exact e2))
       have ga:fzAll H F1 H1 a=none:=g2.no hf hh (OwnO.noTup ro)
       have S1:=(S.grow g2).forget ei si
       refine ep_end (run_fn G hr hb (dvs:=[]) .nil pass0 I1 r1 ?_)
       rw [List.append_nil]
       refine ⟨?_,fzAll H F1 H1,a,o,d,ys,ys2,v1,v2,rfl,fun c u z=>(but_ne (ne_of_none z ga)).trans (g2.s c u z),g1.h _ _ hh,OwnO.le g2.f ro,A1,A2,?_⟩
       ·rw [List.length_append,List.length_cons,voks_len q1,voks_len q2,evs_len pre ρ ws ef,evs_len post ρ ws2 ef2]
        exact hn
       ·have h:=KE.bind h
        unfold ioVal at h
        by_cases ex:∃ r:D×D,∀ a:Addr,dn (ys++ioD a d::ys2)=.ok (.od (.tup [.int (a:Int),r.1,r.2]))
        ·rw [dif_pos ex] at h
         have sp:=ex.choose_spec a
         generalize ex.choose=r at h sp
         rw [sp]
         intro v F' H' g q u s' r' I'
         have q:DV (kx X) (but H1 a) F' H' v (.tup [.int (a:Int),r.1,r.2]):=q
         rcases q with ⟨_,z,_⟩|⟨_,z,_⟩|⟨_,_,z,_⟩|⟨a',dd,y,z,o',c0,cf,ch,co,cr⟩
         ·cases z
         ·cases z
         ·cases z
         ·injection z with z
          injection z with z1 z
          injection z with z2 z
          injection z with z3 _
          injection z1 with z1
          have:a'=a:=(Int.ofNat.inj z1).symm
          subst this
          subst z2
          subst z3
          have S2:=S1.setW g (i:=i) (v:=.ref a') (w:=.ow r.1) (w':=.ow r.1) ⟨a',o',rfl,but_same,cf,ch,co⟩ rfl
          rw [List.set_set] at S2
          have se:σ.set i (some (.ref a'))=σ:=by
           obtain ⟨hl,e2⟩:=List.getElem?_eq_some_iff.mp si
           rw [← e2,List.set_getElem_self]
          rw [se] at S2
          exact h v u F' H' s' (Le.trans g2.f g.f) S2 cr r' I'
        ·rw [dif_neg ex] at h; exact h.elim
      ·rw [if_neg c] at h; exact h.elim
 ·exact h.elim
noncomputable def dFn (x:Str):D:=.xc x [("fn",.non)]
theorem se_fn {x:Str} {f:Addr} {p:Pos} (hm:X.mg x=some (.ref f)) (hns:PySem.W.nsIn X.K mainGlobals x=some (some (.ref f))) (hg:Gl X x:=by rfl) (hd:(x == ("__debug__":Str))=false:=by decide):SE X F0 H0 (.Name x p) (eC (dFn x)) :=
 se_glob (v:=.ref f) hm rfl (fun F=>show FnV (kx X) (.ref f) x [("fn",.non)] from fun f' e=>by rw [hns] at e; cases e; rfl) hg hd
noncomputable def fnOf (o:Option (Option En)):Option Str:=match o with
 | some (some (.fz (.xc x [(_,.non)])))=>some x
 | _=>none
noncomputable def eIOV2 (j:Nat) (x1:Str) (d1:Den) (x2:Str) (d2:Den) (i:Nat) (pre post:List EF):IOF:=fun ρ=>match fnOf ρ[j]? with
 | some x=>if x=x1 then eIO d1 i pre post ρ else if x=x2 then eIO d2 i pre post ρ else .stuck
 | none=>.stuck
theorem fnOf_at {o:Option (Option En)} {x:Str} (h:fnOf o=some x):∃ y,o=some (some (.fz (.xc x [(y,.non)]))):=by
 unfold fnOf at h
 split at h
 ·cases h; exact ⟨_,rfl⟩
 ·cases h
theorem sio_callV2 (j:Nat) {e:Expr} {es:List Expr} {x x1 x2:Str} {p:Pos} {k1 k2 n i:Nat} {f1 f2:Addr} {fd1 fd2:FuncData} {ps1 ps2:List Str} {d1 d2:Den} {pre post:List EF}
  (G1:FnOk X.prog X.w X.K X.mg X.base CX0 k1 f1 fd1 ps1 (spI (kx X) d1 n)) (hr1:Room k1 X.A) (hk1:PySem.W.keepIn X.K (.ref f1)=true) (hb1:Binds X.K fd1 ps1 []) (n1:PySem.W.nsIn X.K mainGlobals x1=some (some (.ref f1)))
  (G2:FnOk X.prog X.w X.K X.mg X.base CX0 k2 f2 fd2 ps2 (spI (kx X) d2 n)) (hr2:Room k2 X.A) (hk2:PySem.W.keepIn X.K (.ref f2)=true) (hb2:Binds X.K fd2 ps2 []) (n2:PySem.W.nsIn X.K mainGlobals x2=some (some (.ref f2)))
  (ha:SAI X F0 H0 i (e::es) pre post) (hn:pre.length+(post.length+1)=n:=by rfl) (hN:X.N[j]?=some x:=by rfl) (hv:Vis X.env.scope x:=by trivial) (hd:(x == ("__debug__":Str))=false:=by decide)
  (hcd:(x == ("__classdict__":Str))=false:=by decide) (he:starEach (e::es) X.env=(false,eval e X.env)::starEach es X.env:=by rfl) (hpl:(backTo pos (starEach es X.env)).any (·.1)=false:=by rfl) :
  SIO X F0 H0 (.Call (.Name x p) (e::es) [] pos) (eIOV2 j x1 d1 x2 d2 i pre post):=by
 intro pins s σ F H ρ Q S I h
 unfold eIOV2 at h
 cases ef:fnOf ρ[j]? with
 | none=>rw [ef] at h; exact h.elim
 | some y =>
  rw [ef] at h
  dsimp only at h
  obtain ⟨z,ej⟩:=fnOf_at ef
  obtain ⟨v,sj,r⟩:=S.val j _ ej
  have r:∀ f:Addr,PySem.W.nsIn X.K mainGlobals y=some (some (.ref f))→v=.ref f:=r
  refine wpAny_Call_Name_kw (thn (pe_var hN hv hd hcd pins s σ H (fun v' H'=>v'=v∧H'=H) I ⟨v,sj,rfl,rfl⟩) fun u s1 ⟨v',H',I1,rv,ev,eh⟩=>?_)
  subst ev eh
  by_cases c1:y=x1
  ·rw [if_pos c1] at h
   subst c1
   cases r f1 n1
   cases (show u=Value.ref f1 from rv)
   exact io_core G1 hr1 hk1 hb1 ha hn he hpl S I1 h
  ·rw [if_neg c1] at h
   by_cases c2:y=x2
   ·rw [if_pos c2] at h
    subst c2
    cases r f2 n2
    cases (show u=Value.ref f2 from rv)
    exact io_core G2 hr2 hk2 hb2 ha hn he hpl S I1 h
   ·rw [if_neg c2] at h; exact h.elim
end
end L3
namespace L3
open PySem PySem.Spec PyProof.Rows L2
theorem RepT.look {κ:Kx} {F:Hp}:∀ {kds:List (List (Sum Int Str)×D)} {kvs:List (List Key×V)} (k:List Key),RepT κ F kvs kds→(∃ v d,valV kvs k=some v∧L3.look k kds=some d∧Rep κ F v d)∨(valV kvs k=none∧L3.look k kds=none)
 | [],_,k,h=>by cases (show _=_ from h); exact .inr ⟨rfl,rfl⟩
 | (q,d)::r,_,k,h=>by
  obtain ⟨v,kr,rfl,h1,h2⟩:=h
  by_cases e:q=k
  ·subst e
   exact .inl ⟨v,d,by unfold valV; simp,by unfold L3.look; rw [if_pos rfl],h1⟩
  ·rcases RepT.look k h2 with ⟨v',d',a1,a2,a3⟩|⟨a1,a2⟩
   ·refine .inl ⟨v',d',?_,by unfold L3.look; rw [if_neg e]; exact a2,a3⟩
    unfold valV at a1 ⊢
    rw [List.find?_cons_of_neg (by simpa using e)]
    exact a1
   ·refine .inr ⟨?_,by unfold L3.look; rw [if_neg e]; exact a2⟩
    unfold valV at a1 ⊢
    rw [List.find?_cons_of_neg (by simpa using e)]
    exact a1
noncomputable def getT (kvs:List (List (Sum Int Str)×D)) (q:List (Sum Int Str)) (wx:En):R En:=match look q kvs with|some d=>.ok (.fz d)|none=>.ok wx
noncomputable def keyIf (k:Option (List (Sum Int Str))) (g:List (Sum Int Str)→R En):R En:=match k with
 | some q=>if q.length ≤ sz then g q else .stuck
 | none=>.stuck
noncomputable def eGetT (d:EF) (k:List EF) (x:EF):EF:=fun ρ=>(d ρ).bind fun wd=>match wd.d with
 | .dT kvs=>(evs k ρ).bind fun ws=>keyIf (keysOf (ws.map En.d)) fun q=>(x ρ).bind fun wx=>getT kvs q wx
 | _=>.stuck
section
variable {X:Cx} {F0 H0:Hp} {pos:Pos}
theorem se_getT {o f:Expr} {ks:List Expr} {n:Nat} {tp apos cpos:Pos} {fo ff:EF} {fk:List EF} (hu:X.A.units+10 < cLine) (ho:SE X F0 H0 o fo) (hk:SA X F0 H0 ks fk) (hf:SE X F0 H0 f ff) (m:M2 X o "get" apos (.Tuple ks n tp) f cpos:=by exact ⟨rfl,rfl,rfl,rfl⟩) :
  SE X F0 H0 (.Call (.Attribute o "get" apos) [.Tuple ks n tp,f] [] cpos) (eGetT fo fk ff):=by
 intro pins s σ F H ρ Q S I h
 refine ep_end (pe_dget2 (by (first|lia|omega)) (pe_sem (e:=o)) (pe_sem (e:=.Tuple ks n tp)) (pe_sem (e:=f)) m pins s σ H (fun v H'=>∀ u s',RelV v u→Inv X pins σ H' s'→Q u s') I ?_)
 refine ho.sem S ((KE.bind h).imp fun wd h1 v F1 H1 g1 q1=>?_)
 have qd:=Vok.rd q1
 revert h1 qd
 generalize wd.d=dd
 intro h1 qd
 cases dd <;> first|exact h1.elim|skip
 rename_i kds
 obtain ⟨p,kvs,rfl,hq,rk⟩:=RdV.dT g1.s qd
 refine ⟨p,rfl,.inr ⟨_,hq⟩,tup_sem hk (S.grow g1) ((KE.bind h1).imp fun ws h2 vs F2 H2 b g2 q2 hb=>?_)⟩
 unfold keyIf at h2
 cases ek:keysOf (ws.map En.d) with
 | none=>rw [ek] at h2; exact h2.elim
 | some key =>
  rw [ek] at h2
  dsimp only at h2
  by_cases c:key.length ≤ sz
  ·rw [if_pos c] at h2
   have ev:=keys_ok q2 ek
   subst ev
   have g4:=Gr.new (o:=.tup (key.map kV)) g2.s hb
   refine ⟨by rw [List.length_map,← sz_eq]; exact c,hf.sem (S.grow (g1.trans (g2.trans g4))) ((KE.bind h2).imp fun wx h3 v3 F3 H3 g3 q3=>?_)⟩
   have l13:Le H1 H3:=Le.trans (g2.trans g4).h g3.h
   have gA:=g1.trans ((g2.trans g4).trans g3)
   refine ⟨valV kvs key,.inr ⟨kvs,key,b,Rd.le l13 hq,rfl,g3.h _ _ upd_same,rfl⟩,fun u s' ru I'=>?_⟩
   unfold getT at h3
   rcases RepT.look key rk with ⟨z,d,a1,a2,rz⟩|⟨a1,a2⟩
   ·rw [a2] at h3
    rw [a1] at ru
    exact h3 z u F3 H3 s' gA (Rep.le (Le.trans (g2.trans g4).f g3.f) _ rz) ru I'
   ·rw [a2] at h3
    rw [a1] at ru
    exact h3 v3 u F3 H3 s' gA (Vok.older (fun a e=>Le.none (Le.trans g1.h (g2.trans g4).h) e) q3) ru I'
  ·rw [if_neg c] at h2; exact h2.elim
noncomputable def eGet1 (d k:EF):EF:=fun ρ=>(d ρ).bind fun wd=>match wd.d with
 | .dK kvs=>(k ρ).bind fun wk=>(match keyOf wk.d with
  | some q=>(match look q kvs with|some d=>.ok (.fz d)|none=>.ok (.fz .non))
  | none=>.stuck)
 | _=>.stuck
theorem se_get1 {o e:Expr} {apos cpos:Pos} {fo fe:EF} (ho:SE X F0 H0 o fo) (he:SE X F0 H0 e fe) (m:M1 X o "get" apos e cpos:=by exact ⟨rfl,rfl,rfl,rfl⟩) :
  SE X F0 H0 (.Call (.Attribute o "get" apos) [e] [] cpos) (eGet1 fo fe):=by
 intro pins s σ F H ρ Q S I h
 refine wpAny_Call_method m.base m.few m.line PySem.F.plainAttrs_dict PySem.F.slot_dict_get PySem.F.type_dict_get (ho pins s σ F H ρ _ S I ((KE.bind h).imp fun wd h1 v u F1 H1 s1 g1 q1 r1 I1=>?_))
 have qd:=Vok.rd q1
 revert h1 qd
 generalize wd.d=dd
 intro h1 qd
 cases dd <;> first|exact h1.elim|skip
 rename_i kds
 obtain ⟨p,kvs,rfl,hq,rk⟩:=RdV.dK g1.s qd
 cases (show u=Value.ref p from r1)
 obtain ⟨hd,vs,rel,dd⟩:=Inv.dictK I1 hq
 refine ⟨dd.typeIs,fun b q=>?_,?_⟩
 ·cases q
  obtain ⟨ob,_,_,e1,e2,_⟩:=dd
  exact ⟨ob,e1,e2.2.1⟩
 rw [m.trees]
 refine Calls.callWith_builtin rfl (Calls.evalArgs_plain (Calls.spliced_cons (he pins s1 σ F1 H1 ρ _ (S.grow g1) I1 ((KE.bind h1).imp fun wk h2 v2 u2 F2 H2 s2 g2 q2 r2 I2=>Calls.spliced_nil ?_))))
 cases ek:keyOf wk.d with
 | none=>rw [ek] at h2; exact h2.elim
 | some key =>
  rw [ek] at h2
  dsimp only at h2
  have ry:RelV (kV key) u2:=key_rel ek (Vok.rd q2) r2
  obtain ⟨hd3,vs3,rel3,dd3⟩:=Inv.dictK I2 (SqK.le g2.h hq)
  refine call_meetsIn PySem.F.slot_dict_get dd3.typeIs PySem.F.entry_dict_get (PySem.F.args_dict_get_2 _ _) (meets_dict_get (mixKind X.prog X.w) p (kV_is ry) hd3) ⟨_,dd3.mapOf,?_⟩
  have rg:=(rel3.val key).getD (show RelV V.non Value.none from rfl)
  have g12:=g1.trans g2
  rcases RepK.look key rk with ⟨z,d,a1,a2,rz⟩|⟨a1,a2⟩
  ·rw [a2] at h2
   rw [a1] at rg
   exact h2 z _ F2 H2 _ g12 (Rep.le g2.f _ rz) rg (I2.tok _)
  ·rw [a2] at h2
   rw [a1] at rg
   exact h2 .non _ F2 H2 _ g12 rfl rg (I2.tok _)
noncomputable abbrev XF:=Rho→R (List D×Rho)
noncomputable def SAX (X:Cx) (F0 H0:Hp) (es:List Expr) (f:XF):Prop :=
 ∀ (pos:Pos) (pins:List (Addr×Obj)) (s:Shared) (σ:St) (F H:Hp) (ρ:Rho) (Q:List Value→Shared→Prop),StOk (kx X) F0 H0 F H ρ σ→Inv X pins σ H s →
  KE (XP X F0 H0) (f ρ) (fun p=>∀ vs us F' H' s',Le F F'→StOk (kx X) F0 H0 F' H' p.2 σ→Reps (kx X) F' vs p.1→Vals vs us→Inv X pins σ H' s'→Q us s') →
  wpAny (model X.prog X.w) X.A (spliced (backTo pos (starEach es X.env))) Q X.xe s
noncomputable def xNil:XF:=fun ρ=>.ok ([],ρ)
noncomputable def fzR:En→R D
 | .fz d=>.ok d
 | _=>.stuck
noncomputable def xPure (f:EF) (r:XF):XF:=fun ρ=>(f ρ).bind fun w=>(fzR w).bind fun d=>(r ρ).bind fun q=>.ok (d::q.1,q.2)
noncomputable def xIO (f:IOF) (r:XF):XF:=fun ρ=>(f ρ).bind fun p=>(r p.2).bind fun q=>.ok (p.1::q.1,q.2)
theorem sax_nil:SAX X F0 H0 [] xNil:=fun pos pins s σ F H ρ Q S I h=>Calls.spliced_nil (h [] [] F H s Le.refl S rfl .nil I)
theorem sax_pure {e:Expr} {es:List Expr} {f:EF} {r:XF} (he:SE X F0 H0 e f) (hr:SAX X F0 H0 es r) (hs:starEach (e::es) X.env=(false,eval e X.env)::starEach es X.env:=by rfl):SAX X F0 H0 (e::es) (xPure f r):=by
 intro pos pins s σ F H ρ Q S I h
 rw [hs]
 refine Calls.spliced_cons (he pins s σ F H ρ _ S I ((KE.bind h).imp fun w h1 v u F1 H1 s1 g1 q1 r1 I1=>?_))
 cases w <;> first|exact h1.elim|skip
 rename_i d
 have q1:Rep (kx X) F1 v d:=q1
 refine hr pos pins s1 σ F1 H1 ρ _ (S.grow g1) I1 ((KE.bind (show KE (XP X F0 H0) ((r ρ).bind fun q=>.ok (d::q.1,q.2)) _ from h1)).imp fun q h2 vs us F2 H2 s2 l2 S2 rs r2 I2=>?_)
 exact h2 (v::vs) (u::us) F2 H2 s2 (Le.trans g1.f l2) S2 ⟨v,vs,rfl,Rep.le l2 _ q1,rs⟩ (.cons r1 r2) I2
theorem sax_io {e:Expr} {es:List Expr} {f:IOF} {r:XF} (he:SIO X F0 H0 e f) (hr:SAX X F0 H0 es r) (hs:starEach (e::es) X.env=(false,eval e X.env)::starEach es X.env:=by rfl):SAX X F0 H0 (e::es) (xIO f r):=by
 intro pos pins s σ F H ρ Q S I h
 rw [hs]
 refine Calls.spliced_cons (he pins s σ F H ρ _ S I ((KE.bind h).imp fun p h1 v u F1 H1 s1 l1 S1 q1 r1 I1=>?_))
 refine hr pos pins s1 σ F1 H1 p.2 _ S1 I1 ((KE.bind (show KE (XP X F0 H0) ((r p.2).bind fun q=>.ok (p.1::q.1,q.2)) _ from h1)).imp fun q h2 vs us F2 H2 s2 l2 S2 rs r2 I2=>?_)
 exact h2 (v::vs) (u::us) F2 H2 s2 (Le.trans l1 l2) S2 ⟨v,vs,rfl,Rep.le l2 _ q1,rs⟩ (.cons r1 r2) I2
noncomputable def eIOT (f:XF):IOF:=fun ρ=>(f ρ).bind fun p=>if p.1.length ≤ sz then .ok (.tup p.1,p.2) else .stuck
theorem sio_tup {es:List Expr} {f:XF} {x1:Nat} (h:SAX X F0 H0 es f):SIO X F0 H0 (.Tuple es x1 pos) (eIOT f):=by
 intro pins s σ F H ρ Q S I k
 refine wpAny_Tuple_spliced (h pos pins s σ F H ρ _ S I ((KE.bind k).imp fun p k1 vs us F1 H1 s1 l1 S1 rs r1 I1=>?_))
 by_cases c:p.1.length ≤ sz
 ·rw [if_pos c] at k1
  have hz:vs.length ≤ sizeLine:=by rw [Reps.length rs,← sz_eq]; exact c
  refine ⟨by rw [← r1.length]; exact hz,?_⟩
  have hf:H1 s1.heap.objs.size=none:=I1.hok.fresh (Nat.le_refl _)
  have gn:=Gr.newF (o:=.tup vs) S1.s hf
  exact k1 (.ref s1.heap.objs.size) _ _ _ _ (Le.trans l1 gn.f) (S1.grow gn) ⟨_,vs,rfl,.inl (.inl upd_same),Reps.le gn.f _ rs⟩ rfl (I1.laid (t':=s1.toks) (fun b u e=>Heap.get?_push_of_some _ e) (Nat.le_refl _) ⟨hz,us,r1,⟨_,Heap.get?_push_size _ rfl,rfl,_,rfl⟩⟩)
 ·rw [if_neg c] at k1; exact k1.elim
noncomputable def sIO (i:Nat) (f:IOF):SF:=fun ρ=>sOf (f ρ) fun p=>.nx (p.2.set i (some (.fz p.1)))
theorem ss_io (i:Nat) {x:Str} {e:Expr} {f:IOF} {pos':Pos} (hN:X.N.Nodup) (he:SIO X F0 H0 e f) (hi:X.N[i]?=some x:=by rfl) (hx:Loc X.env.scope x:=by trivial)
  (hs:swapsWith e (some (.Name x pos')) pos.line X.env=pure false:=by rfl) (hf:X.fn x=true∨X.env.scope.names.lookup x=some .local:=by trivial) :
  SS X F0 H0 (.Assign [.Name x pos'] e pos) (sIO i f):=by
 intro pins s σ F H ρ D S I h
 refine wpAny_Assign_Name (he pins s σ F H ρ _ S I ((PostS.of h).imp fun p k v u F' H' s' l S' q r I'=>?_)) hs
 exact store_ok I' hN hi hx r (fun s2 I2=>⟨_,H',I2,k _ F' H' l (S'.setF q)⟩) hf
end
end L3
set_option Elab.async false
set_option linter.all false
set_option maxRecDepth 100000
set_option maxHeartbeats 4000000
namespace L3
open PySem PySem.Spec PyProof.Rows L2
theorem len1 {α:Type}:∀ {us:List α},us.length=1→∃ a,us=[a]
 | [a],_=>⟨a,rfl⟩
theorem len2 {α:Type}:∀ {us:List α},us.length=2→∃ a b,us=[a,b]
 | [a,b],_=>⟨a,b,rfl⟩
theorem len3 {α:Type}:∀ {us:List α},us.length=3→∃ a b c,us=[a,b,c]
 | [a,b,c],_=>⟨a,b,c,rfl⟩
theorem len4 {α:Type}:∀ {us:List α},us.length=4→∃ a b c d,us=[a,b,c,d]
 | [a,b,c,d],_=>⟨a,b,c,d,rfl⟩
noncomputable def shutE:En→R En
 | .od (.dK kds)=>.ok (.fz (.lst (kds.map Prod.snd)))
 | _=>.stuck
noncomputable def eShut (e:EF):EF:=fun ρ=>(e ρ).bind shutE
section
variable {X:Cx} {F0 H0:Hp}
theorem se_shut {ex:Expr} {f:EF} (he:SE X F0 H0 ex f):SE X F0 H0 ex (eShut f):=by
 intro pins s σ F H ρ Q S I h
 refine he pins s σ F H ρ Q S I ((KE.bind h).imp fun w k v u F' H' s' g q r I'=>?_)
 unfold shutE at k
 split at k
 ·rename_i kds
  obtain ⟨g2,l2⟩:=fzAll_gr S.s g
  have fz:∀ b,H b=none→fzAll H F' H' b=H' b:=fun b e=>by unfold fzAll; rw [e]
  rcases q with ⟨ds,e,_⟩|⟨kd2,e,a,bs,css,e1,h0,hf,nd,hh,i⟩|⟨ds,y,e,_⟩|⟨a,dd,y,e,_⟩
  ·cases e
  ·cases e
   subst e1
   refine k (.ref a) u (fzAll H F' H') H' s' g2 ?_ r I'
   exact ⟨a,bs.map V.ref,rfl,SqL.of ((fz a h0).trans hh),In2.reps i (fun b m=>by obtain ⟨us,z,_⟩:=In2.at i m; exact fz b z) l2⟩
  ·cases e
  ·cases e
 ·exact k.elim
end
end L3
set_option maxHeartbeats 4000000
namespace My
open PySem PySem.Spec PyProof.Rows L2 L3
noncomputable def top (i:Nat):Stmt:=PySem.Challenge.pw_stavemill_k18_whole_signs_are_heard.main.body.getD i (.Pass ⟨0,0,0,0⟩)
noncomputable def c_LETTERS_BY_FIFTHS:D:=.str "FCGDAEB"
noncomputable def kv_PITCHES:List (Sum Int Str×D):=[(.inr "C",.int 0),(.inr "D",.int 2),(.inr "E",.int 4),(.inr "F",.int 5),(.inr "G",.int 7),(.inr "A",.int 9),(.inr "B",.int 11)]
noncomputable def c_PITCHES:D:=.dK kv_PITCHES
noncomputable abbrev s_first_alike:Stmt:=top 3
noncomputable def B_first_alike:SF :=
 (sRet (eOp dAddA (eVar 0) (eOp dMod (eOp dSub (eVar 1) (eVar 0)) (eVar 2))))
noncomputable def D_first_alike:Den:=den 3 B_first_alike
noncomputable abbrev s_alter_at:Stmt:=top 5
noncomputable def B_alter_at:SF :=
 (sRet (eOp dDiv (eOp dAddA (eVar 0) (eC (.int 1))) (eC (.int 7))))
noncomputable def D_alter_at:Den:=den 1 B_alter_at
noncomputable abbrev s_pitch_of:Stmt:=top 7
noncomputable def B_pitch_of:SF :=
 (sRet (eOp dAddA (eOp dAddA (eOp dMul (eC (.int 12)) (eOp dIxS (eVar 0) (eC (.int 2)))) (eOp dIxK (eC c_PITCHES) (eOp dIxS (eVar 0) (eC (.int 0))))) (eOp dIxS (eVar 0) (eC (.int 1)))))
noncomputable def D_pitch_of:Den:=den 1 B_pitch_of
noncomputable abbrev s_in_order:Stmt:=top 10
noncomputable def B_in_order:SF :=
 (sSeq (sSet 1 (eLst []))
 (sSeq (sFor (iEnum 0) (gT [2,3]) (sSeq (sSet 4 (eC (.int 0)))
 (sFor (iEnum 3) (gT [5,6]) (sSeq (sApp 1 (eTup [(eVar 4),(eVar 2),(eVar 5)]))
 (sAug 4 dAddI (eOp dIxS (eVar 6) (eC (.int 1))))))))
 (sRet (eB dSortedB [(eVar 1)]))))
noncomputable def D_in_order:Den:=den 7 B_in_order
noncomputable abbrev s_tied_to_next:Stmt:=top 11
noncomputable def B_tied_to_next:SF :=
 (sSeq (sIf (tOr (tE (eOp dIsN2 (eVar 0) (eC .non))) (tOr (tE (eOp dEq (eOp dIxS (eVar 0) (eC (.int 0))) (eC (.str "rest")))) (tNot (tE (eOp dIxS (eVar 0) (eC (.int 3))))))) (sRet (eC .non)) sNext)
 (sRet (eOp dIxS (eVar 0) (eC (.int 2)))))
noncomputable def D_tied_to_next:Den:=den 1 B_tied_to_next
noncomputable abbrev s__law_cell:Stmt:=top 19
noncomputable def B__law_cell:SF :=
 (sSeq (sIf (tE (eOp dLt (eVar 1) (eB dLenA [(eVar 0)]))) (sRet (eOp dIxS (eVar 0) (eVar 1))) sNext)
 (sRet (eC (.int 0))))
noncomputable def D__law_cell:Den:=den 2 B__law_cell
noncomputable abbrev s__law_mix:Stmt:=top 20
noncomputable def B__law_mix:SF :=
 (sRet (eOp dMod (eOp dMod (eOp dMul (eVar 0) (eC (.int 48271))) (eVar 1)) (eVar 2)))
noncomputable def D__law_mix:Den:=den 3 B__law_mix
noncomputable abbrev s__law_let_go:Stmt:=top 25
noncomputable def B__law_let_go:SF :=
 (sSeq (sIf (tAnd (tE (eVar 0)) (tE (eOp dEq (eOp dIxS (eOp dIxS (eVar 0) (eUn dNeg (eC (.int 1)))) (eC (.int 0))) (eC (.str "note"))))) (sSetI 0 (eUn dNeg (eC (.int 1))) (eTup [(eC (.str "note")),(eOp dIxS (eOp dIxS (eVar 0) (eUn dNeg (eC (.int 1)))) (eC (.int 1))),(eOp dIxS (eOp dIxS (eVar 0) (eUn dNeg (eC (.int 1)))) (eC (.int 2))),(eC (.bl false))])) sNext)
 (sRetV 0))
noncomputable def D__law_let_go:Den:=den 1 B__law_let_go
noncomputable abbrev s__law_copy:Stmt:=top 27
noncomputable def B__law_copy:SF :=
 (sRetO (eCompD 1 (iVc 0) (gV 1) (eCompO 1 (iVc 1) (gV 2) (eB dList [(eVar 2)]))))
noncomputable def D__law_copy:Den:=den 1 B__law_copy
noncomputable abbrev s_fifth:Stmt:=top 4
noncomputable def B_fifth:SF :=
 (sRet (eCall D_first_alike [(eOp dSub (eVar 1) (eC (.int 4))),(eOp dMul (eC (.int 7)) (eVar 0)),(eC (.int 12))]))
noncomputable def D_fifth:Den:=den 2 B_fifth
noncomputable abbrev s_own_alter:Stmt:=top 8
noncomputable def B_own_alter:SF :=
 (sRet (eCall D_alter_at [(eCall D_first_alike [(eOp dSub (eVar 1) (eC (.int 1))),(eOp dSub (eOp dIdx2 (eC c_LETTERS_BY_FIFTHS) (eVar 0)) (eC (.int 1))),(eC (.int 7))])]))
noncomputable def D_own_alter:Den:=den 2 B_own_alter
noncomputable abbrev s__law_large:Stmt:=top 21
noncomputable def B__law_large:SF :=
 (sRet (eOp dEq (eCall D__law_mix [(eOp dAddA (eCall D__law_cell [(eVar 0),(eC (.int 0))]) (eOp dMul (eC (.int 7)) (eB dLenA [(eVar 0)]))),(eC (.int 9871)),(eC (.int 8))]) (eC (.int 3))))
noncomputable def D__law_large:Den:=den 1 B__law_large
noncomputable abbrev s__law_filled:Stmt:=top 22
noncomputable def B__law_filled:SF :=
 (sSeq (sSet 2 (eLst []))
 (sSeq (sWhile 41 (tE (eOp dGt (eVar 1) (eC (.int 0)))) (sSeq (sSet 3 (eOp dIxS (eLst [(eC (.int 12)),(eC (.int 8)),(eC (.int 6)),(eC (.int 4)),(eC (.int 3)),(eC (.int 2)),(eC (.int 1))]) (eCall D__law_mix [(eOp dAddA (eVar 0) (eOp dMul (eOp dMul (eC (.int 31)) (eB dLenA [(eVar 2)])) (eB dLenA [(eVar 2)]))),(eC (.int 9973)),(eC (.int 7))])))
 (sSeq (sIf (tE (eOp dGt (eVar 3) (eVar 1))) (sSet 3 (eC (.int 1))) sNext)
 (sSeq (sApp 2 (eVar 3))
 (sSet 1 (eOp dSub (eVar 1) (eVar 3)))))))
 (sRetV 2)))
noncomputable def D__law_filled:Den:=den 4 B__law_filled
noncomputable abbrev s__law_pitches:Stmt:=top 23
noncomputable def B__law_pitches:SF :=
 (sSeq (sSet 2 (eOp dAddA (eC (.int 55)) (eCall D__law_mix [(eVar 0),(eC (.int 10007)),(eC (.int 18))])))
 (sSeq (sIf (tE (eVar 1)) (sSet 2 (eCall D__law_mix [(eVar 0),(eC (.int 10007)),(eC (.int 128))])) sNext)
 (sSeq (sSet 3 (eLst [(eVar 2)]))
 (sSeq (sFor (iR1 (eCall D__law_mix [(eVar 0),(eC (.int 9967)),(eC (.int 3))])) (gV 4) (sIf (tE (eOp dLt (eOp dIxS (eVar 3) (eUn dNeg (eC (.int 1)))) (eC (.int 120)))) (sApp 3 (eOp dAddA (eOp dAddA (eOp dIxS (eVar 3) (eUn dNeg (eC (.int 1)))) (eC (.int 1))) (eCall D__law_mix [(eOp dAddA (eVar 0) (eOp dMul (eOp dMul (eC (.int 7)) (eVar 4)) (eVar 4))),(eC (.int 9949)),(eC (.int 5))]))) sNext))
 (sRet (eB dTuple [(eVar 3)]))))))
noncomputable def D__law_pitches:Den:=den 5 B__law_pitches
noncomputable abbrev s_name_of:Stmt:=top 6
noncomputable def B_name_of:SF :=
 (sSeq (sSet 2 (eCall D_fifth [(eVar 0),(eVar 1)]))
 (sSeq (sSet 3 (eOp dIxA (eC c_LETTERS_BY_FIFTHS) (eOp dMod (eOp dAddA (eVar 2) (eC (.int 1))) (eC (.int 7)))))
 (sSeq (sSet 4 (eCall D_alter_at [(eVar 2)]))
 (sSeq (sSet 5 (eOp dDiv (eOp dSub (eOp dSub (eVar 0) (eOp dIxK (eC c_PITCHES) (eVar 3))) (eVar 4)) (eC (.int 12))))
 (sRet (eTup [(eVar 3),(eVar 4),(eVar 5)]))))))
noncomputable def D_name_of:Den:=den 6 B_name_of
noncomputable abbrev s_alter_by_then:Stmt:=top 12
noncomputable def B_alter_by_then:SF :=
 (sRet (eGetT (eVar 2) [(eVar 0),(eVar 1)] (eCall D_own_alter [(eVar 0),(eVar 3)])))
noncomputable def D_alter_by_then:Den:=den 4 B_alter_by_then
noncomputable abbrev s__law_played_row:Stmt:=top 24
noncomputable def B__law_played_row:SF :=
 (sSeq (sSet 4 (eLst []))
 (sSeq (sFor (iEnumE (eCall D__law_filled [(eVar 0),(eVar 3)])) (gT [5,6]) (sSeq (sSet 7 (eOp dAddA (eVar 0) (eOp dMul (eOp dMul (eC (.int 977)) (eVar 5)) (eVar 5))))
 (sSeq (sIf (tAnd (tE (eOp dIsN2 (eVar 1) (eC .non))) (tE (eOp dEq (eCall D__law_mix [(eVar 7),(eC (.int 9941)),(eC (.int 5))]) (eC (.int 0))))) (sSeq (sApp 4 (eTup [(eC (.str "rest")),(eVar 6)]))
 sCont) sNext)
 (sSeq (sIf (tE (eOp dIsN2 (eVar 1) (eC .non))) (sSet 1 (eCall D__law_pitches [(eVar 7),(eVar 2)])) sNext)
 (sSeq (sSet 8 (eOp dEq (eCall D__law_mix [(eVar 7),(eC (.int 9931)),(eC (.int 3))]) (eC (.int 0))))
 (sSeq (sApp 4 (eTup [(eC (.str "note")),(eVar 6),(eVar 1),(eVar 8)]))
 (sIf (tNot (tE (eVar 8))) (sSet 1 (eC .non)) sNext)))))))
 (sRetP 4 1)))
noncomputable def D__law_played_row:Den:=den 9 B__law_played_row
noncomputable abbrev s_heads_of:Stmt:=top 13
noncomputable def B_heads_of:SF :=
 (sSeq (sSet 4 (eLst []))
 (sSeq (sFrz 0 (sFor (iV 0) (gV 5) (sSeq (sSet 6 (eCall D_name_of [(eVar 5),(eVar 3)]))
 (sSeq (sSet 7 (eOp dIxS (eVar 6) (eC (.int 0))))
 (sSeq (sSet 8 (eOp dIxS (eVar 6) (eC (.int 2))))
 (sSeq (sSet 9 (eC .non))
 (sSeq (sIf (tAnd (tE (eOp dIsN2 (eVar 1) (eC .non))) (tE (eOp dNe (eCall D_alter_by_then [(eVar 7),(eVar 8),(eVarI 2),(eVar 3)]) (eOp dIxS (eVar 6) (eC (.int 1)))))) (sSeq (sSet 9 (eOp dIxS (eVar 6) (eC (.int 1))))
 (sPutI 2 [(eVar 7),(eVar 8)] (eVar 9))) sNext)
 (sApp 4 (eTup [(eVar 7),(eVar 8),(eVar 9)])))))))))
 (sRetI 2 (eB dTuple [(eVar 4)]))))
noncomputable def D_heads_of:Den:=den 10 B_heads_of
noncomputable abbrev s_pitches_of:Stmt:=top 14
noncomputable def B_pitches_of:SF :=
 (sSeq (sIf (tE (eOp dIsNot2 (eVar 1) (eC .non))) (sRetI 2 (eVar 1)) sNext)
 (sSeq (sSet 4 (eLst []))
 (sSeq (sFrz 0 (sFor (iV 0) (gV 5) (sSeq (sSet 6 (eOp dIxS (eVar 5) (eC (.int 0))))
 (sSeq (sSet 7 (eOp dIxS (eVar 5) (eC (.int 1))))
 (sSeq (sIf (tE (eOp dIsNot2 (eOp dIxS (eVar 5) (eC (.int 2))) (eC .non))) (sPutI 2 [(eVar 6),(eVar 7)] (eOp dIxS (eVar 5) (eC (.int 2)))) sNext)
 (sApp 4 (eCall D_pitch_of [(eTup [(eVar 6),(eCall D_alter_by_then [(eVar 6),(eVar 7),(eVarI 2),(eVar 3)]),(eVar 7)])])))))))
 (sRetI 2 (eB dTuple [(eVar 4)])))))
noncomputable def D_pitches_of:Den:=den 8 B_pitches_of
noncomputable abbrev s__law_bars:Stmt:=top 26
noncomputable def B__law_bars:SF :=
 (sSeq (sSet 2 (eC (.int 3)))
 (sSeq (sIf (tE (eCall D__law_large [(eVar 0)])) (sSet 2 (eC (.int 5))) sNext)
 (sSeq (sIf (tE (eOp dGt (eB dLenA [(eVar 0)]) (eC (.int 63)))) (sSet 2 (eC (.int 8))) sNext)
 (sSeq (sSet 3 (eOp dAddA (eC (.int 1)) (eOp dMod (eOp dDiv (eCall D__law_cell [(eVar 0),(eC (.int 0))]) (eC (.int 4))) (eVar 2))))
 (sSeq (sSet 4 (eOp dAddA (eC (.int 1)) (eOp dMod (eCall D__law_cell [(eVar 0),(eC (.int 1))]) (eC (.int 4)))))
 (sSeq (sSetO 5 (eCompO 1 (iR1 (eVar 4)) (gV 11) (eLst [])))
 (sSeq (sFor (iR1 (eVar 3)) (gV 6) (sSeq (sSet 7 (eC .non))
 (sFor (iR1 (eVar 4)) (gV 8) (sSeq (sSet 9 (eOp dAddA (eOp dAddA (eCall D__law_cell [(eVar 0),(eOp dAddA (eC (.int 2)) (eOp dMod (eOp dAddA (eOp dMul (eC (.int 5)) (eVar 6)) (eVar 8)) (eC (.int 40))))]) (eOp dMul (eOp dMul (eC (.int 101)) (eVar 6)) (eVar 6))) (eOp dMul (eOp dMul (eC (.int 17)) (eVar 8)) (eVar 8))))
 (sSeq (sAsgP 10 7 (eCall D__law_played_row [(eVar 9),(eVar 7),(eVar 1),(eOp dIxS (eLst [(eC (.int 24)),(eC (.int 16)),(eC (.int 40)),(eC (.int 24))]) (eVar 8))]))
 (sSeq (sIf (tE (eOp dEq (eVar 8) (eOp dSub (eVar 4) (eC (.int 1))))) (sMove 10 D__law_let_go) sNext)
 (sFrz 10 (sAppIx 5 (eVar 8) (eVar 10)))))))))
 (sShut 5 (sRetV 5)))))))))
noncomputable def D__law_bars:Den:=den 11 B__law_bars
noncomputable abbrev s_turned:Stmt:=top 15
noncomputable def B_turned:SF :=
 (sSeq (sSet 3 (eLst []))
 (sSeq (sSet 4 eDK)
 (sSeq (sFrz 0 (sFor (iV 0) (gV 5) (sSeq (sSet 6 eDT)
 (sSeq (sSetO 7 (eCompO 1 (iVc 5) (gV 12) (eLst [])))
 (sSeq (sFor (iSeq (eCall D_in_order [(eVar 5)])) (gV 8) (sSeq (sSet 9 (eOp dIxS (eVar 8) (eC (.int 1))))
 (sSeq (sSet 10 (eOp dIxS (eOp dIxS (eVar 5) (eVar 9)) (eOp dIxS (eVar 8) (eC (.int 2)))))
 (sSeq (sIf (tE (eOp dEq (eOp dIxS (eVar 10) (eC (.int 0))) (eC (.str "note")))) (sSeq (sSet 11 (eCall D_tied_to_next [(eGet1 (eVar 4) (eVar 9))]))
 (sIO 10 (eIOT (xPure (eC (.str "note")) (xPure (eOp dIxS (eVar 10) (eC (.int 1))) (xIO (eIOV2 2 "heads_of" D_heads_of "pitches_of" D_pitches_of 6 [(eOp dIxS (eVar 10) (eC (.int 2))),(eVar 11)] [(eVar 1)]) (xPure (eOp dIxS (eVar 10) (eC (.int 3))) xNil))))))) sNext)
 (sSeq (sAppIx 7 (eVar 9) (eVar 10))
 (sPutK 4 (eVar 9) (eVar 10)))))))
 (sShut 7 (sFrz 7 (sApp 3 (eVar 7)))))))))
 (sRetV 3))))
noncomputable def D_turned:Den:=den 12 B_turned
noncomputable abbrev s_signed:Stmt:=top 16
noncomputable def B_signed:SF :=
 (sRet (eCall D_turned [(eVar 0),(eVar 1),(eC (dFn "heads_of"))]))
noncomputable def D_signed:Den:=den 2 B_signed
noncomputable abbrev s_heard:Stmt:=top 17
noncomputable def B_heard:SF :=
 (sRet (eCall D_turned [(eVar 0),(eVar 1),(eC (dFn "pitches_of"))]))
noncomputable def D_heard:Den:=den 2 B_heard
noncomputable abbrev s_law:Stmt:=top 28
noncomputable def B_law:SF :=
 (sSeq (sSet 1 (eCall D__law_bars [(eVar 0),(eOp dEq (eOp dMod (eCall D__law_cell [(eVar 0),(eC (.int 0))]) (eC (.int 4))) (eC (.int 3)))]))
 (sSeq (sSet 2 (eOp dSub (eOp dMod (eCall D__law_cell [(eVar 0),(eC (.int 5))]) (eC (.int 15))) (eC (.int 7))))
 (sSeq (sSet 3 (eCall D_signed [(eShut (eCall D__law_copy [(eVar 1)])),(eVar 2)]))
 (sSeq (sSetS 4 (eCall D__law_copy [(eVar 3)]))
 (sSeq (sSet 5 (eCall D_heard [(eVar 4),(eVar 2)]))
 (sRet (eAnd (eUn (dIs .list) (eVar 5)) (eAnd (eOp dEq (eVar 5) (eVar 1)) (eOp dEq (eVar 4) (eVar 3))))))))))
noncomputable def D_law:Den:=den 6 B_law
noncomputable def cell (ns:List Int) (k:Nat):Int:=ns.getD k 0
theorem cell_eq (ns:List Int) (k:Nat):D__law_cell [.fz (.lst (ns.map D.int)),.fz (.int (k:Int))]=.ok (.fz (.int (cell ns k))):=by
 unfold D__law_cell B__law_cell
 simp only [EV,Nat.reduceAdd,Nat.reduceSub,Nat.reduceLeDiff,ati_nat,List.length_map,cell,List.getD_eq_getElem?_getD]
 by_cases h:(k:Int) < (ns.length:Int)
 ·have h2:k < ns.length:=by (first|lia|omega)
  simp [h,h2,EV,Nat.reduceAdd,Nat.reduceSub,Nat.reduceLeDiff,ati_nat]
 ·have h2:¬ k < ns.length:=by (first|lia|omega)
  simp [h,h2,EV,Nat.reduceAdd,Nat.reduceSub,Nat.reduceLeDiff,ati_nat]
noncomputable def mixN (c p m:Int):Int:=c * 48271 % p % m
theorem mix_eq (c p m:Int) (hp:0 < p) (hm:0 < m):D__law_mix [.fz (.int c),.fz (.int p),.fz (.int m)]=.ok (.fz (.int (mixN c p m))):=by
 unfold D__law_mix B__law_mix
 simp only [EV,Nat.reduceAdd,Nat.reduceSub,Nat.reduceLeDiff,x_mulr (i:=c) (j:=48271) (by decide) (by decide),x_mod hp,x_mod hm,mixN]
theorem mix_lt (c p m:Int) (hm:0 < m):0 ≤ mixN c p m∧mixN c p m < m:=⟨Int.emod_nonneg _ (by (first|lia|omega)),Int.emod_lt_of_pos _ hm⟩
theorem x_forD_nil {g:GF} {b:SF} {ρ:Rho}:forD g b [] ρ=.nx ρ:=rfl
noncomputable def turn (g:GF) (b:SF) (xs:List D) (o:Out):Out:=match o with
 | .nx ρ2=>forD g b xs ρ2
 | .ct ρ2=>forD g b xs ρ2
 | .bk ρ2=>.nx ρ2
 | o=>o
theorem x_forD {g:GF} {b:SF} {x:D} {xs:List D} {ρ ρ1:Rho} (h:g x ρ=.ok ρ1):forD g b (x::xs) ρ=turn g b xs (b ρ1):=by
 show (match g x ρ with|.ok ρ1=>_|.exc x=>_|.stuck=>_)=_
 rw [h]
 unfold turn
 first|(dsimp only; cases b ρ1 <;> rfl)|dsimp only|rfl
theorem x_turn_nx {g:GF} {b:SF} {xs:List D} {ρ:Rho}:turn g b xs (.nx ρ)=forD g b xs ρ:=rfl
theorem x_appIx {i k:Nat} {ek e:EF} {ρ:Rho} {ds xs:List D} {d:D} (h:ρ[i]?=some (some (.od (.lst ds)))) (h1:ek ρ=.ok (.fz (.int (k:Int)))) (h2:e ρ=.ok (.fz d)) (h3:ds[k]?=some (.lst xs)) (hl:xs.length < sz) :
  sAppIx i ek e ρ=.nx (ρ.set i (some (.od (.lst (ds.set k (.lst (xs++[d]))))))):=by
 unfold sAppIx
 rw [h]
 dsimp only
 rw [h1,h2]
 show appIxR i ρ ds (.fz (.int (k:Int))) (.fz d)=_
 unfold appIxR
 dsimp only
 rw [if_pos (Int.natCast_nonneg k),Int.toNat_natCast,h3]
 unfold appIxO
 dsimp only
 rw [if_pos hl]
theorem x_shutV {i:Nat} {ρ:Rho} {d:D} (h:ρ[i]?=some (some (.od d))) (nk:∀ k,d≠.dK k:=by intro _ z; cases z) (nt:∀ k,d≠.tup k:=by intro _ z; cases z):sShut i (sRetV i) ρ=.rt (.ow d):=by
 have hl:i < ρ.length:=(List.getElem?_eq_some_iff.mp h).1
 unfold sShut L3.shut
 rw [h]
 cases d <;> first
  | exact absurd rfl (nk _)
  | exact absurd rfl (nt _)
  | (dsimp only; unfold sRetV; rw [List.getElem?_set_self hl])
theorem x_turn_ct {g:GF} {b:SF} {xs:List D} {ρ:Rho}:turn g b xs (.ct ρ)=forD g b xs ρ:=rfl
theorem while_f {t:TF} {b:SF} {n:Nat} {ρ:Rho} (h:t ρ=.ok false):whileD t b (n+1) ρ=.nx ρ:=by
 unfold whileD
 rw [h]
 rfl
theorem while_t {t:TF} {b:SF} {n:Nat} {ρ ρ2:Rho} (h:t ρ=.ok true) (h2:b ρ=.nx ρ2):whileD t b (n+1) ρ=whileD t b n ρ2:=by
 show sOf (t ρ) (fun c=>if c=true then (match b ρ with|.nx ρ2=>whileD t b n ρ2|.ct ρ2=>whileD t b n ρ2|.bk ρ2=>.nx ρ2|o=>o) else .nx ρ)=_
 rw [h,h2]
 rfl
theorem x_while {t:TF} {b:SF} {n:Nat} {ρ:Rho}:sWhile n t b ρ=whileD t b n ρ:=rfl
theorem x_retP {i j:Nat} {ρ:Rho} {ds:List D} {g:D} (h:ρ[i]?=some (some (.ow (.lst ds)))) (h2:ρ[j]?=some (some (.fz g))):sRetP i j ρ=.rt (.od (.tup [.lst ds,g])):=by unfold sRetP; rw [h,h2]
theorem x_asgP {i j:Nat} {ρ:Rho} {e:EF} {ds:List D} {g:D} (h:e ρ=.ok (.od (.tup [.lst ds,g]))):sAsgP i j e ρ=.nx ((ρ.set i (some (.ow (.lst ds)))).set j (some (.fz g))):=by unfold sAsgP; rw [h]; rfl
theorem x_move {i:Nat} {ρ:Rho} {dn:Den} {d d':D} (h:ρ[i]?=some (some (.ow d))) (h2:dn [.ow d]=.ok (.ow d')):sMove i dn ρ=.nx (ρ.set i (some (.ow d'))):=by unfold sMove; rw [h]; dsimp only; rw [h2]; rfl
theorem x_setO2 {i:Nat} {ρ:Rho} {e:EF} {ds:List D} (h:e ρ=.ok (.od (.lst ds))) (hs:shalB i ρ=true):sSetO i e ρ=.nx (ρ.set i (some (.od (.lst ds)))):=by
 unfold sSetO; rw [h]
 show setOR i ρ (.od (.lst ds))=_
 unfold setOR; dsimp only; rw [if_pos hs]
theorem x_setS {i:Nat} {ρ:Rho} {e:EF} {ds:List (Sum Int Str×D)} (h:e ρ=.ok (.od (.dK ds))) (hs:shalB i ρ=true):sSetS i e ρ=.nx (ρ.set i (some (.ow (.lst (ds.map Prod.snd))))):=by
 unfold sSetS; rw [h]
 show setSR i ρ (.od (.dK ds))=_
 unfold setSR; dsimp only; rw [if_pos hs]
theorem compG_all (ad:En→R D) (i:Nat) {e:EF} (f:D→D):∀ (ds:List D) (ρ:Rho),(∀ d∈ds,∃ w,e (ρ.set i (some (.fz d)))=.ok w∧ad w=.ok (f d))→compG ad (gV i) e ds ρ=.ok (ds.map f)
 | [],_,_=>rfl
 | d::ds,ρ,h=>by
  obtain ⟨w,e1,e2⟩:=h d List.mem_cons_self
  have rec_:=compG_all ad i (e:=e) f ds (ρ.set i (some (.fz d))) fun x hx=>by
   rw [List.set_set]
   exact h x (List.mem_cons_of_mem _ hx)
  show (R.bind (e (ρ.set i (some (.fz d)))) fun w=>(ad w).bind fun y=>(compG ad (gV i) e ds (ρ.set i (some (.fz d)))).bind fun ys=>.ok (y::ys))=_
  rw [e1,R.bind_ok,e2,R.bind_ok,rec_]
  rfl
theorem eCompG_eq {ad:En→R D} {mk:List D→D} {n:Nat} {it:IF} {gf:GF} {e:EF} {ρ:Rho} {ds ys:List D} (h:it ρ=.ok ds) (hl:ds.length ≤ sz) (h2:compG ad gf e ds (cRho n ρ)=.ok ys):eCompG ad mk n it gf e ρ=.ok (.od (mk ys)):=by
 unfold eCompG
 rw [h,R.bind_ok,if_pos hl,h2,R.bind_ok]
theorem some7 (k:Int) (h0:0 ≤ k) (h1:k < 7):∃ v:Int,okD (ati [D.int 12,.int 8,.int 6,.int 4,.int 3,.int 2,.int 1] k)=.ok (.fz (.int v))∧1 ≤ v∧v ≤ 12:=by
 obtain ⟨m,hm0⟩:=Int.eq_ofNat_of_zero_le h0; subst hm0
 rw [ati_nat]
 have hm:m < 7:=by (first|lia|omega)
 match m,hm with
 | 0,_=>exact ⟨_,rfl,by decide,by decide⟩
 | 1,_=>exact ⟨_,rfl,by decide,by decide⟩
 | 2,_=>exact ⟨_,rfl,by decide,by decide⟩
 | 3,_=>exact ⟨_,rfl,by decide,by decide⟩
 | 4,_=>exact ⟨_,rfl,by decide,by decide⟩
 | 5,_=>exact ⟨_,rfl,by decide,by decide⟩
 | 6,_=>exact ⟨_,rfl,by decide,by decide⟩
 | n+7,h=>exact absurd h (by (first|lia|omega))
theorem filled_go (c:Int):∀ (n:Nat) (acc:List Int) (left:Int) (j3:Option En),0 ≤ left→left < n→acc.length+n ≤ 100→(∀ v∈acc,1 ≤ v) →
  ∃ vs:List Int,(vs.length ≤ acc.length+left.toNat∧vs.sum=acc.sum+left)∧(∀ v∈vs,1 ≤ v)∧fin ((whileD (tE (eOp dGt (eVar 1) (eC (.int 0)))) (sSeq (sSet 3 (eOp dIxS (eLst [(eC (.int 12)),(eC (.int 8)),(eC (.int 6)),(eC (.int 4)),(eC (.int 3)),(eC (.int 2)),(eC (.int 1))]) (eCall D__law_mix [(eOp dAddA (eVar 0) (eOp dMul (eOp dMul (eC (.int 31)) (eB dLenA [(eVar 2)])) (eB dLenA [(eVar 2)]))),(eC (.int 9973)),(eC (.int 7))])))
   (sSeq (sIf (tE (eOp dGt (eVar 3) (eVar 1))) (sSet 3 (eC (.int 1))) sNext)
   (sSeq (sApp 2 (eVar 3))
   (sSet 1 (eOp dSub (eVar 1) (eVar 3)))))) n [some (.fz (.int c)),some (.fz (.int left)),some (.ow (.lst (acc.map D.int))),j3]).th (sRetV 2))=.ok (.ow (.lst (vs.map D.int))):=by
 have hz:sz=16777216:=rfl
 intro n
 induction n with
 | zero=>intro acc left j3 h0 h1; exact absurd h1 (by (first|lia|omega))
 | succ n ih =>
  intro acc left j3 h0 h1 hb ha
  by_cases hp:0 < left
  ·have tt:decide ((0:Int) < left)=true:=by simpa using hp
   have mx:=mix_eq (c+31 * (acc.length:Int) * (acc.length:Int)) 9973 7 (by decide) (by decide)
   have ml:=mix_lt (c+31 * (acc.length:Int) * (acc.length:Int)) 9973 7 (by decide)
   obtain ⟨v,hv,v1,v2⟩:=some7 _ ml.1 ml.2
   have m1:=x_mull (i:=31) (j:=(acc.length:Int)) (by decide) (by decide)
   have m2:=x_mulr (i:=31 * (acc.length:Int)) (j:=(acc.length:Int)) (by (first|lia|omega)) (by (first|lia|omega))
   have step:∀ u:Int,(if left < v then 1 else v)=u→1 ≤ u∧u ≤ left:=fun u hu=>by
    by_cases g:left < v
    ·rw [if_pos g] at hu; (first|lia|omega)
    ·rw [if_neg g] at hu; (first|lia|omega)
   obtain ⟨u1,u2⟩:=step _ rfl
   generalize hu:(if left < v then 1 else v)=u at u1 u2
   rw [while_t (ρ2:=[some (.fz (.int c)),some (.fz (.int (left - u))),some (.ow (.lst ((acc++[u]).map D.int))),some (.fz (.int u))]) (by simp only [EV,Nat.reduceAdd,Nat.reduceSub,Nat.reduceLeDiff,tt]) (by
    simp only [EV,Nat.reduceAdd,Nat.reduceSub,Nat.reduceLeDiff,List.length_map,m1,m2,mx,hv]
    by_cases g:left < v
    ·have d:decide (left < v)=true:=by simpa using g
     rw [if_pos g] at hu
     subst hu
     simp only [EV,Nat.reduceAdd,Nat.reduceSub,Nat.reduceLeDiff,d]
     rw [x_app (xs:=acc.map D.int) (d:=.int 1) rfl (by rw [List.length_map]; (first|lia|omega)) (by simp only [EV,Nat.reduceAdd,Nat.reduceSub,Nat.reduceLeDiff])]
     simp only [EV,Nat.reduceAdd,Nat.reduceSub,Nat.reduceLeDiff,List.map_append]
    ·have d:decide (left < v)=false:=by simpa using g
     rw [if_neg g] at hu
     subst hu
     simp only [EV,Nat.reduceAdd,Nat.reduceSub,Nat.reduceLeDiff,d]
     rw [x_app (xs:=acc.map D.int) (d:=.int v) rfl (by rw [List.length_map]; (first|lia|omega)) (by simp only [EV,Nat.reduceAdd,Nat.reduceSub,Nat.reduceLeDiff])]
     simp only [EV,Nat.reduceAdd,Nat.reduceSub,Nat.reduceLeDiff,List.map_append])]
   obtain ⟨vs,q1,q2,q3⟩:=ih (acc++[u]) (left - u) _ (by (first|lia|omega)) (by (first|lia|omega)) (by rw [List.length_append]; simp; (first|lia|omega)) (fun x hx=>by
    rcases List.mem_append.mp hx with hx1|hx1
    ·exact ha x hx1
    ·simp at hx1; (first|lia|omega))
   exact ⟨vs,by rw [List.length_append,List.sum_append] at q1; simp only [List.length_cons,List.length_nil,List.sum_cons,List.sum_nil] at q1; (first|lia|omega),q2,q3⟩
  ·have tf:decide ((0:Int) < left)=false:=by simpa using hp
   rw [while_f (by simp only [EV,Nat.reduceAdd,Nat.reduceSub,Nat.reduceLeDiff,tf])]
   exact ⟨acc,by (first|lia|omega),ha,by simp only [EV,Nat.reduceAdd,Nat.reduceSub,Nat.reduceLeDiff]⟩
theorem filled_eq (c left:Int) (h0:0 ≤ left) (h1:left ≤ 40):∃ vs:List Int,(vs.length ≤ 40∧vs.sum=left)∧(∀ v∈vs,1 ≤ v)∧D__law_filled [.fz (.int c),.fz (.int left)]=.ok (.ow (.lst (vs.map D.int))):=by
 obtain ⟨vs,q1,q2,q3⟩:=filled_go c 41 [] left none h0 (by (first|lia|omega)) (by simp) (by simp)
 refine ⟨vs,by simp only [List.length_nil,List.sum_nil] at q1; (first|lia|omega),q2,?_⟩
 unfold D__law_filled B__law_filled
 simp only [EV,Nat.reduceAdd,Nat.reduceSub,Nat.reduceLeDiff,x_while]
 exact q3
noncomputable def PsOk (ps:List Int):Prop:=ps≠[]∧ps.length ≤ 3∧(∀ p∈ps,0 ≤ p∧p ≤ 127)∧ps.Pairwise (· < ·)
theorem pitches_eq (c:Int) (wd:Bool):∃ ps,PsOk ps∧D__law_pitches [.fz (.int c),.fz (.bl wd)]=.ok (.fz (.tup (ps.map D.int))):=by
 have hz:sz=16777216:=rfl
 have mA:=mix_eq c 10007 18 (by decide) (by decide)
 have mB:=mix_eq c 10007 128 (by decide) (by decide)
 have mC:=mix_eq c 9967 3 (by decide) (by decide)
 have lA:=mix_lt c 10007 18 (by decide)
 have lB:=mix_lt c 10007 128 (by decide)
 have lC:=mix_lt c 9967 3 (by decide)
 have go:∀ p:Int,0 ≤ p→p ≤ 127→∃ ps,PsOk ps∧fin (((sSeq (sSet 3 (eLst [(eVar 2)]))
   (sSeq (sFor (iR1 (eCall D__law_mix [(eVar 0),(eC (.int 9967)),(eC (.int 3))])) (gV 4) (sIf (tE (eOp dLt (eOp dIxS (eVar 3) (eUn dNeg (eC (.int 1)))) (eC (.int 120)))) (sApp 3 (eOp dAddA (eOp dAddA (eOp dIxS (eVar 3) (eUn dNeg (eC (.int 1)))) (eC (.int 1))) (eCall D__law_mix [(eOp dAddA (eVar 0) (eOp dMul (eOp dMul (eC (.int 7)) (eVar 4)) (eVar 4))),(eC (.int 9949)),(eC (.int 5))]))) sNext))
   (sRet (eB dTuple [(eVar 3)])))) [some (.fz (.int c)),some (.fz (.bl wd)),some (.fz (.int p)),none,none]))=.ok (.fz (.tup (ps.map D.int))):=fun p p0 p1=>by
  obtain ⟨m,em⟩:=Int.eq_ofNat_of_zero_le lC.1
  simp only [EV,Nat.reduceAdd,Nat.reduceSub,Nat.reduceLeDiff]
  rw [x_iR1 (n:=m) (by simp only [EV,Nat.reduceAdd,Nat.reduceSub,Nat.reduceLeDiff,mC]; rw [em]) (by (first|lia|omega))]
  simp only [EV,Nat.reduceAdd,Nat.reduceSub,Nat.reduceLeDiff]
  obtain ⟨ρ,e,acc,l,j4,hρ,hl,hn,hr,hm,hp⟩:=rng_nx m (fun i ρ=>∃ (acc:List Int) (l:Int) (j4:Option En),ρ=[some (.fz (.int c)),some (.fz (.bl wd)),some (.fz (.int p)),some (.ow (.lst (acc.map D.int))),j4]∧acc.getLast?=some l∧acc.length ≤ i+1∧(∀ x∈acc,0 ≤ x∧x ≤ 127)∧(∀ x∈acc,x ≤ l)∧acc.Pairwise (· < ·))
   (g:=gV 4) (b:=(sIf (tE (eOp dLt (eOp dIxS (eVar 3) (eUn dNeg (eC (.int 1)))) (eC (.int 120)))) (sApp 3 (eOp dAddA (eOp dAddA (eOp dIxS (eVar 3) (eUn dNeg (eC (.int 1)))) (eC (.int 1))) (eCall D__law_mix [(eOp dAddA (eVar 0) (eOp dMul (eOp dMul (eC (.int 7)) (eVar 4)) (eVar 4))),(eC (.int 9949)),(eC (.int 5))]))) sNext))
   (ρ:=[some (.fz (.int c)),some (.fz (.bl wd)),some (.fz (.int p)),some (.ow (.lst [.int p])),none]) ⟨[p],p,none,rfl,rfl,by simp,by simp; (first|lia|omega),by simp,by simp⟩ (fun i ρ hi ⟨acc,l,j4,hρ,hl,hn,hr,hm,hp⟩=>by
    subst hρ
    have la:okD (ati (acc.map D.int) (-1))=.ok (.fz (.int l)):=by rw [ati_last,List.getLast?_map,hl]; rfl
    have mx:=mix_eq (c+7 * (i:Int) * (i:Int)) 9949 5 (by decide) (by decide)
    have ml:=mix_lt (c+7 * (i:Int) * (i:Int)) 9949 5 (by decide)
    have m1:=x_mull (i:=7) (j:=(i:Int)) (by decide) (by decide)
    have m2:=x_mulr (i:=7 * (i:Int)) (j:=(i:Int)) (by (first|lia|omega)) (by (first|lia|omega))
    have lm:=hr l (List.mem_of_getLast? hl)
    by_cases g:l < 120
    ·have d:decide (l < 120)=true:=by simpa using g
     refine ⟨_,_,rfl,.inl ?_,acc++[l+1+mixN (c+7 * (i:Int) * (i:Int)) 9949 5],l+1+mixN (c+7 * (i:Int) * (i:Int)) 9949 5,some (.fz (.int (i:Int))),rfl,by simp,by rw [List.length_append]; simp; (first|lia|omega),fun x hx=>?_,fun x hx=>?_,?_⟩
     ·simp only [EV,Nat.reduceAdd,Nat.reduceSub,Nat.reduceLeDiff,Int.reduceNeg,la,d]
      rw [x_app (xs:=acc.map D.int) (d:=.int (l+1+mixN (c+7 * (i:Int) * (i:Int)) 9949 5)) rfl (by rw [List.length_map]; (first|lia|omega)) (by simp only [EV,Nat.reduceAdd,Nat.reduceSub,Nat.reduceLeDiff,Int.reduceNeg,la,m1,m2,mx])]
      simp only [EV,Nat.reduceAdd,Nat.reduceSub,Nat.reduceLeDiff,List.map_append]
     ·rcases List.mem_append.mp hx with hx1|hx1
      ·exact hr x hx1
      ·simp at hx1; (first|lia|omega)
     ·rcases List.mem_append.mp hx with hx1|hx1
      ·have:=hm x hx1; (first|lia|omega)
      ·simp at hx1; (first|lia|omega)
     ·refine List.pairwise_append.mpr ⟨hp,by simp,fun x hx y hy=>?_⟩
      have:=hm x hx
      simp at hy
      (first|lia|omega)
    ·have d:decide (l < 120)=false:=by simpa using g
     refine ⟨_,_,rfl,.inl ?_,acc,l,some (.fz (.int (i:Int))),rfl,hl,by (first|lia|omega),hr,hm,hp⟩
     simp only [EV,Nat.reduceAdd,Nat.reduceSub,Nat.reduceLeDiff,Int.reduceNeg,la,d])
  rw [e]
  subst hρ
  refine ⟨acc,⟨fun z=>by subst z; simp at hl,by (first|lia|omega),hr,hp⟩,?_⟩
  simp only [EV,Nat.reduceAdd,Nat.reduceSub,Nat.reduceLeDiff]
 unfold D__law_pitches B__law_pitches
 cases wd
 ·obtain ⟨ps,h1,h2⟩:=go (55+mixN c 10007 18) (by (first|lia|omega)) (by (first|lia|omega))
  refine ⟨ps,h1,?_⟩
  simp only [EV,Nat.reduceAdd,Nat.reduceSub,Nat.reduceLeDiff,mA] at h2 ⊢
  exact h2
 ·obtain ⟨ps,h1,h2⟩:=go (mixN c 10007 128) (by (first|lia|omega)) (by (first|lia|omega))
  refine ⟨ps,h1,?_⟩
  simp only [EV,Nat.reduceAdd,Nat.reduceSub,Nat.reduceLeDiff,mA,mB] at h2 ⊢
  exact h2
theorem eqS_rn:dEq (.str "rest") (.str "note")=.ok (.fz (.bl false)):=by kernel_rfl
theorem eqS_nn:dEq (.str "note") (.str "note")=.ok (.fz (.bl true)):=by kernel_rfl
inductive PE where
 | rest (v:Int)
 | note (v:Int) (ps:List Int) (t:Bool)
noncomputable def peD:PE→D
 | .rest v=>.tup [.str "rest",.int v]
 | .note v ps t=>.tup [.str "note",.int v,.tup (ps.map D.int),.bl t]
noncomputable def pv:PE→Int
 | .rest v=>v
 | .note v _ _=>v
noncomputable def PeOk:PE→Prop
 | .rest v=>1 ≤ v
 | .note v ps _=>1 ≤ v∧PsOk ps
noncomputable def TieB:Option (List Int)→List PE→Option (List Int)→Prop
 | g,[],g'=>g'=g
 | g,.rest _::r,g'=>g=none∧TieB none r g'
 | g,.note _ ps t::r,g'=>(g=none∨g=some ps)∧TieB (if t then some ps else none) r g'
noncomputable def goD:Option (List Int)→D
 | none=>.non
 | some ps=>.tup (ps.map D.int)
noncomputable def GOk (g:Option (List Int)):Prop:=∀ ps,g=some ps→PsOk ps
theorem row_go (c:Int) (wd:Bool) (size:D):∀ (vs:List Int) (k:Nat) (acc:List PE) (g:Option (List Int)) (j5 j6 j7 j8:Option En),acc.length+vs.length ≤ 100→k+vs.length ≤ 100→(∀ v∈vs,1 ≤ v)→GOk g →
  ∃ (row:List PE) (g':Option (List Int)),TieB g row g'∧GOk g'∧(∀ e∈row,PeOk e)∧(row.length=vs.length∧row.map pv=vs) ∧
   fin ((forD (gT [5,6]) (sSeq (sSet 7 (eOp dAddA (eVar 0) (eOp dMul (eOp dMul (eC (.int 977)) (eVar 5)) (eVar 5))))
    (sSeq (sIf (L3.tAnd (tE (eOp dIsN2 (eVar 1) (eC .non))) (tE (eOp dEq (eCall D__law_mix [(eVar 7),(eC (.int 9941)),(eC (.int 5))]) (eC (.int 0))))) (sSeq (sApp 4 (eTup [(eC (.str "rest")),(eVar 6)]))
    sCont) sNext)
    (sSeq (sIf (tE (eOp dIsN2 (eVar 1) (eC .non))) (sSet 1 (eCall D__law_pitches [(eVar 7),(eVar 2)])) sNext)
    (sSeq (sSet 8 (eOp dEq (eCall D__law_mix [(eVar 7),(eC (.int 9931)),(eC (.int 3))]) (eC (.int 0))))
    (sSeq (sApp 4 (eTup [(eC (.str "note")),(eVar 6),(eVar 1),(eVar 8)]))
    (sIf (L3.tNot (tE (eVar 8))) (sSet 1 (eC .non)) sNext)))))) (numd k (vs.map D.int))
    [some (.fz (.int c)),some (.fz (goD g)),some (.fz (.bl wd)),some (.fz size),some (.ow (.lst (acc.map peD))),j5,j6,j7,j8]).th (sRetP 4 1))=.ok (.od (.tup [.lst ((acc++row).map peD),goD g'])):=by
 have hz:sz=16777216:=rfl
 intro vs
 induction vs with
 | nil =>
  intro k acc g j5 j6 j7 j8 _ _ _ hg
  refine ⟨[],g,rfl,hg,by simp,⟨rfl,rfl⟩,?_⟩
  simp only [List.map_nil,numd,x_forD_nil,EV,Nat.reduceAdd,Nat.reduceSub,Nat.reduceLeDiff]
  rw [x_retP (ds:=acc.map peD) (g:=goD g) rfl rfl,List.append_nil]
  rfl
 | cons v vs ih =>
  intro k acc g j5 j6 j7 j8 hb hk hv hg
  rw [List.length_cons] at hb hk
  have v1:1 ≤ v:=hv v (by simp)
  have hv':∀ x∈vs,1 ≤ x:=fun x hx=>hv x (List.mem_cons_of_mem _ hx)
  have m1:=x_mull (i:=977) (j:=(k:Int)) (by decide) (by decide)
  have m2:=x_mulr (i:=977 * (k:Int)) (j:=(k:Int)) (by (first|lia|omega)) (by (first|lia|omega))
  generalize ho:c+977 * (k:Int) * (k:Int)=o
  have mx:=mix_eq o 9941 5 (by decide) (by decide)
  have my:=mix_eq o 9931 3 (by decide) (by decide)
  rw [List.map_cons]
  show ∃ row g',_∧_∧_∧_∧fin ((forD _ _ (.tup [.int (k:Int),.int v]::numd (k+1) (vs.map D.int)) _).th _)=_
  have tgt:gT [5,6] (.tup [.int (k:Int),.int v]) [some (.fz (.int c)),some (.fz (goD g)),some (.fz (.bl wd)),some (.fz size),some (.ow (.lst (acc.map peD))),j5,j6,j7,j8]=.ok [some (.fz (.int c)),some (.fz (goD g)),some (.fz (.bl wd)),some (.fz size),some (.ow (.lst (acc.map peD))),some (.fz (.int (k:Int))),some (.fz (.int v)),j7,j8]:=rfl
  rw [x_forD tgt]
  -- a note: of going pitches,or of new ones
  have note:∀ (ps:List Int) (g0:Option (List Int)),PsOk ps→(g=none∨g=some ps)→∀ (b:Bool),(mixN o 9931 3 == 0)=b →
    ∃ (row:List PE) (g':Option (List Int)),TieB g row g'∧GOk g'∧(∀ e∈row,PeOk e)∧(row.length=(v::vs).length∧row.map pv=v::vs) ∧
     ∀ body:SF,fin ((turn (gT [5,6]) (sSeq (sSet 7 (eOp dAddA (eVar 0) (eOp dMul (eOp dMul (eC (.int 977)) (eVar 5)) (eVar 5))))
    (sSeq (sIf (L3.tAnd (tE (eOp dIsN2 (eVar 1) (eC .non))) (tE (eOp dEq (eCall D__law_mix [(eVar 7),(eC (.int 9941)),(eC (.int 5))]) (eC (.int 0))))) (sSeq (sApp 4 (eTup [(eC (.str "rest")),(eVar 6)]))
    sCont) sNext)
    (sSeq (sIf (tE (eOp dIsN2 (eVar 1) (eC .non))) (sSet 1 (eCall D__law_pitches [(eVar 7),(eVar 2)])) sNext)
    (sSeq (sSet 8 (eOp dEq (eCall D__law_mix [(eVar 7),(eC (.int 9931)),(eC (.int 3))]) (eC (.int 0))))
    (sSeq (sApp 4 (eTup [(eC (.str "note")),(eVar 6),(eVar 1),(eVar 8)]))
    (sIf (L3.tNot (tE (eVar 8))) (sSet 1 (eC .non)) sNext)))))) (numd (k+1) (vs.map D.int))
     (.nx [some (.fz (.int c)),some (.fz (goD (if b then some ps else none))),some (.fz (.bl wd)),some (.fz size),some (.ow (.lst ((acc++[PE.note v ps b]).map peD))),some (.fz (.int (k:Int))),some (.fz (.int v)),some (.fz (.int o)),some (.fz (.bl b))])).th (sRetP 4 1))=.ok (.od (.tup [.lst ((acc++row).map peD),goD g'])):=fun ps g0 hps hgp b hb'=>by
   obtain ⟨row,g',q1,q2,q3,q4,q5⟩:=ih (k+1) (acc++[PE.note v ps b]) (if b then some ps else none) (some (.fz (.int (k:Int)))) (some (.fz (.int v))) (some (.fz (.int o))) (some (.fz (.bl b))) (by rw [List.length_append]; simp; (first|lia|omega)) (by (first|lia|omega)) hv' (fun x hx=>by
    cases b
    ·simp at hx
    ·simp at hx; subst hx; exact hps)
   refine ⟨PE.note v ps b::row,g',⟨hgp,q1⟩,q2,fun e he=>?_,by simp [q4,pv],fun _=>?_⟩
   ·rcases List.mem_cons.mp he with z|he1
    ·subst z; exact ⟨v1,hps⟩
    ·exact q3 e he1
   ·rw [x_turn_nx,q5,List.append_assoc]
    rfl
  cases g with
  | none =>
   cases r:(mixN o 9941 5 == 0)
   ·obtain ⟨ps,hps,hpe⟩:=pitches_eq o wd
    obtain ⟨row,g',q1,q2,q3,q4,q5⟩:=note ps none hps (.inl rfl) (mixN o 9931 3 == 0) rfl
    refine ⟨row,g',q1,q2,q3,q4,?_⟩
    rw [← q5 sNext]
    congr 3
    simp only [EV,Nat.reduceAdd,Nat.reduceSub,Nat.reduceLeDiff,goD,m1,m2,ho,mx,r,hpe,my]
    rw [x_app (xs:=acc.map peD) (d:=peD (.note v ps (mixN o 9931 3 == 0))) rfl (by rw [List.length_map]; (first|lia|omega)) (by simp only [EV,Nat.reduceAdd,Nat.reduceSub,Nat.reduceLeDiff,peD])]
    cases t:(mixN o 9931 3 == 0)
    ·simp only [EV,Nat.reduceAdd,Nat.reduceSub,Nat.reduceLeDiff,List.map_append,Bool.false_eq_true,if_false]
    ·simp only [EV,Nat.reduceAdd,Nat.reduceSub,Nat.reduceLeDiff,List.map_append,if_true]
   ·obtain ⟨row,g',q1,q2,q3,q4,q5⟩:=ih (k+1) (acc++[PE.rest v]) none (some (.fz (.int (k:Int)))) (some (.fz (.int v))) (some (.fz (.int o))) j8 (by rw [List.length_append]; simp; (first|lia|omega)) (by (first|lia|omega)) hv' (fun x hx=>by cases hx)
    refine ⟨PE.rest v::row,g',⟨rfl,q1⟩,q2,fun e he=>?_,by simp [q4,pv],?_⟩
    ·rcases List.mem_cons.mp he with z|he1
     ·subst z; exact v1
     ·exact q3 e he1
    ·rw [show acc++PE.rest v::row=(acc++[PE.rest v])++row by simp,← q5,← x_turn_ct]
     congr 3
     simp only [EV,Nat.reduceAdd,Nat.reduceSub,Nat.reduceLeDiff,goD,m1,m2,ho,mx,r]
     rw [x_app (xs:=acc.map peD) (d:=peD (.rest v)) rfl (by rw [List.length_map]; (first|lia|omega)) (by simp only [EV,Nat.reduceAdd,Nat.reduceSub,Nat.reduceLeDiff,peD])]
     simp only [EV,Nat.reduceAdd,Nat.reduceSub,Nat.reduceLeDiff,List.map_append]
  | some ps =>
   have hps:PsOk ps:=hg ps rfl
   obtain ⟨row,g',q1,q2,q3,q4,q5⟩:=note ps none hps (.inr rfl) (mixN o 9931 3 == 0) rfl
   refine ⟨row,g',q1,q2,q3,q4,?_⟩
   rw [← q5 sNext]
   congr 3
   simp only [EV,Nat.reduceAdd,Nat.reduceSub,Nat.reduceLeDiff,goD,m1,m2,ho,my]
   rw [x_app (xs:=acc.map peD) (d:=peD (.note v ps (mixN o 9931 3 == 0))) rfl (by rw [List.length_map]; (first|lia|omega)) (by simp only [EV,Nat.reduceAdd,Nat.reduceSub,Nat.reduceLeDiff,peD])]
   cases t:(mixN o 9931 3 == 0)
   ·simp only [EV,Nat.reduceAdd,Nat.reduceSub,Nat.reduceLeDiff,List.map_append,Bool.false_eq_true,if_false]
   ·simp only [EV,Nat.reduceAdd,Nat.reduceSub,Nat.reduceLeDiff,List.map_append,if_true]
theorem played_eq (c:Int) (g:Option (List Int)) (wd:Bool) (size:Int) (h0:0 ≤ size) (h1:size ≤ 40) (hg:GOk g) :
  ∃ (row:List PE) (g':Option (List Int)),TieB g row g'∧GOk g'∧(∀ e∈row,PeOk e)∧(row.length ≤ 40∧(row.map pv).sum=size)∧D__law_played_row [.fz (.int c),.fz (goD g),.fz (.bl wd),.fz (.int size)]=.ok (.od (.tup [.lst (row.map peD),goD g'])):=by
 obtain ⟨vs,l1,l2,l3⟩:=filled_eq c size h0 h1
 obtain ⟨row,g',q1,q2,q3,q4,q5⟩:=row_go c wd (.int size) vs 0 [] g none none none none (by simp; (first|lia|omega)) (by (first|lia|omega)) l2 hg
 refine ⟨row,g',q1,q2,q3,⟨by (first|lia|omega),by rw [q4.2]; exact l1.2⟩,?_⟩
 unfold D__law_played_row B__law_played_row
 simp only [EV,Nat.reduceAdd,Nat.reduceSub,Nat.reduceLeDiff]
 have it:iEnumE (eCall D__law_filled [(eVar 0),(eVar 3)]) [some (.fz (.int c)),some (.fz (goD g)),some (.fz (.bl wd)),some (.fz (.int size)),some (.ow (.lst [])),none,none,none,none]=.ok (numd 0 (vs.map D.int)):=by
  unfold iEnumE
  have e:(eCall D__law_filled [(eVar 0),(eVar 3)]) [some (.fz (.int c)),some (.fz (goD g)),some (.fz (.bl wd)),some (.fz (.int size)),some (.ow (.lst [])),none,none,none,none]=.ok (.ow (.lst (vs.map D.int))):=by simp only [EV,Nat.reduceAdd,Nat.reduceSub,Nat.reduceLeDiff,l3]
  first|(rw [e]; rfl)|rw [e]
 rw [it]
 simp only [EV,Nat.reduceAdd,Nat.reduceSub,Nat.reduceLeDiff]
 exact q5
noncomputable def letGo (row:List PE):List PE:=match row.getLast? with
 | some (.note v ps _)=>row.dropLast++[.note v ps false]
 | _=>row
theorem let_eq (row:List PE):D__law_let_go [.ow (.lst (row.map peD))]=.ok (.ow (.lst ((letGo row).map peD))):=by
 unfold D__law_let_go B__law_let_go letGo
 cases hg:row.getLast? with
 | none =>
  have:=List.getLast?_eq_none_iff.mp hg
  subst this
  simp only [EV,Nat.reduceAdd,Nat.reduceSub,Nat.reduceLeDiff,List.isEmpty_nil]
 | some e =>
  have ne:(row.map peD).isEmpty=false:=by
   cases row with
   | nil=>simp at hg
   | cons a b=>rfl
  have la:okD (ati (row.map peD) (-1))=.ok (.fz (peD e)):=by rw [ati_last,List.getLast?_map,hg]; rfl
  simp only [EV,Nat.reduceAdd,Nat.reduceSub,Nat.reduceLeDiff,ne,Int.reduceNeg,la]
  cases e with
  | rest v =>
   simp only [EV,Nat.reduceAdd,Nat.reduceSub,Nat.reduceLeDiff,peD,eqS_rn]
  | note v ps t =>
   have la':okD (ati (row.map peD) (-1))=.ok (.fz (.tup [.str "note",.int v,.tup (ps.map D.int),.bl t])):=la
   simp only [EV,Nat.reduceAdd,Nat.reduceSub,Nat.reduceLeDiff,peD,eqS_nn]
   rw [x_setI (xs:=row.map peD) (d:=peD (.note v ps false)) (w:=.fz (.int (-1))) (j:=-1) (n:=(row.map peD).length - 1) rfl (by simp only [EV,Nat.reduceAdd,Nat.reduceSub,Nat.reduceLeDiff,Int.reduceNeg,la',peD]) rfl rfl (ixn_last (by cases row with|nil=>simp at hg|cons a b=>simp))]
   rw [set_last (by intro z; rw [z] at ne; simp at ne)]
   simp only [EV,Nat.reduceAdd,Nat.reduceSub,Nat.reduceLeDiff,List.map_append,List.map_dropLast]
theorem letGo_tie:∀ (row:List PE) (g g':Option (List Int)),TieB g row g'→(row=[]→g=none)→TieB g (letGo row) none:=by
 have key:∀ (row:List PE) (g g':Option (List Int)) (e:PE),TieB g (row++[e]) g'→TieB g (row++[match e with|.note v ps _=>PE.note v ps false|x=>x]) none:=by
  intro row
  induction row with
  | nil =>
   intro g g' e h
   cases e with
   | rest v=>exact ⟨h.1,rfl⟩
   | note v ps t=>exact ⟨h.1,rfl⟩
  | cons a row ih =>
   intro g g' e h
   cases a with
   | rest v=>exact ⟨h.1,ih _ _ e h.2⟩
   | note v ps t=>exact ⟨h.1,ih _ _ e h.2⟩
 intro row g g' h h0
 unfold letGo
 cases hg:row.getLast? with
 | none =>
  have:=List.getLast?_eq_none_iff.mp hg
  subst this
  exact (h0 rfl).symm
 | some e =>
  have ne:row≠[]:=by intro z; subst z; simp at hg
  have er:row=row.dropLast++[e]:=by
   have:=List.dropLast_concat_getLast ne
   rw [List.getLast?_eq_some_getLast ne] at hg
   cases hg
   exact this.symm
  rw [er] at h
  have k:=key row.dropLast g g' e h
  cases e with
  | rest v=>rw [er]; simpa using k
  | note v ps t=>simpa using k
theorem letGo_ok {row:List PE} (h:∀ e∈row,PeOk e):∀ e∈letGo row,PeOk e:=by
 unfold letGo
 cases hg:row.getLast? with
 | none=>exact h
 | some x =>
  cases x with
  | rest v=>exact h
  | note v ps t =>
   intro e he
   rcases List.mem_append.mp he with he1|he1
   ·exact h e (List.dropLast_subset _ he1)
   ·simp at he1
    subst he1
    exact (show PeOk (.note v ps t) from h (.note v ps t) (List.mem_of_getLast? hg))
theorem letGo_len (row:List PE):(letGo row).length=row.length:=by
 unfold letGo
 cases hg:row.getLast? with
 | none=>rfl
 | some x =>
  cases x with
  | rest v=>rfl
  | note v ps t =>
   have:0 < row.length:=by
    cases row with
    | nil=>simp at hg
    | cons a b=>simp
   simp
   (first|lia|omega)
theorem letGo_pv (row:List PE):(letGo row).map pv=row.map pv:=by
 unfold letGo
 cases hg:row.getLast? with
 | none=>rfl
 | some x =>
  cases x with
  | rest v=>rfl
  | note v ps t =>
   have ne:row≠[]:=by intro z; subst z; simp at hg
   have er:row=row.dropLast++[PE.note v ps t]:=by
    have:=List.dropLast_concat_getLast ne
    rw [List.getLast?_eq_some_getLast ne] at hg
    rw [Option.some.inj hg] at this
    exact this.symm
   conv=>rhs; rw [er]
   rw [List.map_append,List.map_append]
   rfl
noncomputable def RowOk (r:List PE):Prop:=(∀ e∈r,PeOk e)∧r.length ≤ 40∧(r.map pv).sum ≤ 40∧1 ≤ r.length
noncomputable def rwD (r:List PE):D:=.lst (r.map peD)
noncomputable def brD (bar:List (List PE)):D:=.lst (bar.map rwD)
noncomputable def addR:List (List (List PE))→List (List PE)→List (List (List PE))
 | bar::F,r::Rs=>(bar++[r])::addR F Rs
 | F,_=>F
theorem addR_nil (F:List (List (List PE))):addR F []=F:=by cases F <;> rfl
theorem addR_len:∀ (F:List (List (List PE))) (Rs:List (List PE)),(addR F Rs).length=F.length
 | [],[]=>rfl
 | [],_::_=>rfl
 | _::_,[]=>rfl
 | a::F,r::Rs=>by simp [addR,addR_len F Rs]
theorem addR_get:∀ (F:List (List (List PE))) (Rs:List (List PE)) (bar:List (List PE)),F[Rs.length]?=some bar→(addR F Rs)[Rs.length]?=some bar
 | [],_,_,h=>by simp at h
 | a::F,[],bar,h=>by simpa [addR] using h
 | a::F,r::Rs,bar,h=>by
  simp at h
  simpa [addR] using addR_get F Rs bar h
theorem addR_snoc:∀ (F:List (List (List PE))) (Rs:List (List PE)) (bar:List (List PE)) (r:List PE),F[Rs.length]?=some bar→(addR F Rs).set Rs.length (bar++[r])=addR F (Rs++[r])
 | [],_,_,_,h=>by simp at h
 | a::F,[],bar,r,h=>by
  simp at h
  subst h
  simp [addR,addR_nil]
 | a::F,x::Rs,bar,r,h=>by
  simp at h
  simp [addR,addR_snoc F Rs bar r h]
theorem addR_all {n:Nat}:∀ (F:List (List (List PE))) (Rs:List (List PE)),Rs.length=F.length→(∀ bar∈F,bar.length=n∧∀ r∈bar,RowOk r)→(∀ r∈Rs,RowOk r)→∀ bar∈addR F Rs,bar.length=n+1∧∀ r∈bar,RowOk r
 | [],[],_,_,_,bar,h=>by simp [addR] at h
 | [],_::_,h,_,_,_,_=>by simp at h
 | _::_,[],h,_,_,_,_=>by simp at h
 | a::F,x::Rs,h,hF,hR,bar,hb=>by
  simp at h
  rcases List.mem_cons.mp hb with z|hb1
  ·subst z
   obtain ⟨q1,q2⟩:=hF a (by simp)
   refine ⟨by simp [q1],fun r hr=>?_⟩
   rcases List.mem_append.mp hr with hr1|hr1
   ·exact q2 r hr1
   ·simp at hr1; subst hr1; exact hR r (by simp)
  ·exact addR_all F Rs h (fun b hb2=>hF b (List.mem_cons_of_mem _ hb2)) (fun r hr=>hR r (List.mem_cons_of_mem _ hr)) bar hb1
noncomputable def colR (F:List (List (List PE))) (u:Nat):List (List PE):=F.map fun bar=>bar.getD u []
theorem colR_old {n:Nat}:∀ (F:List (List (List PE))) (Rs:List (List PE)),(∀ bar∈F,bar.length=n)→∀ u,u < n→colR (addR F Rs) u=colR F u
 | [],[],_,_,_=>rfl
 | [],_::_,_,_,_=>rfl
 | _::_,[],_,_,_=>rfl
 | a::F,x::Rs,h,u,hu=>by
  have e:(a++[x]).getD u []=a.getD u []:=by
   rw [List.getD_eq_getElem?_getD,List.getD_eq_getElem?_getD,List.getElem?_append_left (by rw [h a (by simp)]; exact hu)]
  show (a++[x]).getD u []::colR (addR F Rs) u=a.getD u []::colR F u
  rw [e,colR_old F Rs (fun b hb=>h b (List.mem_cons_of_mem _ hb)) u hu]
theorem colR_new {n:Nat}:∀ (F:List (List (List PE))) (Rs:List (List PE)),Rs.length=F.length→(∀ bar∈F,bar.length=n)→colR (addR F Rs) n=Rs
 | [],[],_,_=>rfl
 | [],_::_,h,_=>by simp at h
 | _::_,[],h,_=>by simp at h
 | a::F,x::Rs,h,hn=>by
  have e:(a++[x]).getD n []=x:=by
   rw [List.getD_eq_getElem?_getD,List.getElem?_append_right (by rw [hn a (by simp)]; exact Nat.le_refl _),hn a (by simp),Nat.sub_self]
   rfl
  show (a++[x]).getD n []::colR (addR F Rs) n=x::Rs
  rw [e,colR_new F Rs (by simpa using h) (fun b hb=>hn b (List.mem_cons_of_mem _ hb))]
theorem TieB_app:∀ (r1 r2:List PE) (g g1 g2:Option (List Int)),TieB g r1 g1→TieB g1 r2 g2→TieB g (r1++r2) g2
 | [],_,_,_,_,h,h2=>by
  have h:_=_:=h
  subst h
  exact h2
 | .rest _::r1,r2,g,g1,g2,h,h2=>⟨h.1,TieB_app r1 r2 _ g1 g2 h.2 h2⟩
 | .note _ ps t::r1,r2,g,g1,g2,h,h2=>⟨h.1,TieB_app r1 r2 _ g1 g2 h.2 h2⟩
theorem TieB_split:∀ (r1 r2:List PE) (g g2:Option (List Int)),TieB g (r1++r2) g2→∃ g1,TieB g r1 g1∧TieB g1 r2 g2
 | [],_,g,_,h=>⟨g,rfl,h⟩
 | .rest _::r1,r2,g,g2,h=>by
  obtain ⟨g1,a,b⟩:=TieB_split r1 r2 _ g2 h.2
  exact ⟨g1,⟨h.1,a⟩,b⟩
 | .note _ ps t::r1,r2,g,g2,h=>by
  obtain ⟨g1,a,b⟩:=TieB_split r1 r2 _ g2 h.2
  exact ⟨g1,⟨h.1,a⟩,b⟩
theorem some4 (k:Nat) (h:k < 4):∃ v:Int,okD (ati [D.int 24,.int 16,.int 40,.int 24] (k:Int))=.ok (.fz (.int v))∧1 ≤ v∧v ≤ 40:=by
 rw [ati_nat]
 match k,h with
 | 0,_=>exact ⟨_,rfl,by decide,by decide⟩
 | 1,_=>exact ⟨_,rfl,by decide,by decide⟩
 | 2,_=>exact ⟨_,rfl,by decide,by decide⟩
 | 3,_=>exact ⟨_,rfl,by decide,by decide⟩
 | n+4,h=>exact absurd h (by (first|lia|omega))
noncomputable abbrev bodyV:SF:=(sSeq (sSet 9 (eOp dAddA (eOp dAddA (eCall D__law_cell [(eVar 0),(eOp dAddA (eC (.int 2)) (eOp dMod (eOp dAddA (eOp dMul (eC (.int 5)) (eVar 6)) (eVar 8)) (eC (.int 40))))]) (eOp dMul (eOp dMul (eC (.int 101)) (eVar 6)) (eVar 6))) (eOp dMul (eOp dMul (eC (.int 17)) (eVar 8)) (eVar 8))))
 (sSeq (sAsgP 10 7 (eCall D__law_played_row [(eVar 9),(eVar 7),(eVar 1),(eOp dIxS (eLst [(eC (.int 24)),(eC (.int 16)),(eC (.int 40)),(eC (.int 24))]) (eVar 8))]))
 (sSeq (sIf (tE (eOp dEq (eVar 8) (eOp dSub (eVar 4) (eC (.int 1))))) (sMove 10 D__law_let_go) sNext)
 (sFrz 10 (sAppIx 5 (eVar 8) (eVar 10))))))
theorem voice_step (ns:List Int) (wd:Bool) (R2 R3:Option En) (many v b:Nat) (hm:many ≤ 4) (hb:b < many) (hv:v < 100) (g:Option (List Int)) (hg:GOk g) (F:List (List (List PE))) (bar:List (List PE)) (hF:F[b]?=some bar) (hl:bar.length ≤ 100) (j9 j10:Option En) :
  ∃ (r:List PE) (g':Option (List Int)) (c:Int),RowOk r∧GOk g'∧(∃ g2,TieB g r g2∧(b+1=many∨g2=g')) ∧
   bodyV [some (.fz (.lst (ns.map D.int))),some (.fz (.bl wd)),R2,R3,some (.fz (.int (many:Int))),some (.od (.lst (F.map brD))),some (.fz (.int (v:Int))),some (.fz (goD g)),some (.fz (.int (b:Int))),j9,j10]
   = .nx [some (.fz (.lst (ns.map D.int))),some (.fz (.bl wd)),R2,R3,some (.fz (.int (many:Int))),some (.od (.lst ((F.set b (bar++[r])).map brD))),some (.fz (.int (v:Int))),some (.fz (goD g')),some (.fz (.int (b:Int))),some (.fz (.int c)),some (.fz (rwD r))]:=by
 have hz:sz=16777216:=rfl
 have ek:(2:Int)+(5 * (v:Int)+(b:Int)) % 40=((2+(5 * v+b) % 40:Nat):Int):=by (first|lia|omega)
 have ce:=cell_eq ns (2+(5 * v+b) % 40)
 rw [← ek] at ce
 have m1:=x_mull (i:=5) (j:=(v:Int)) (by decide) (by decide)
 have m2:=x_mull (i:=101) (j:=(v:Int)) (by decide) (by decide)
 have m3:=x_mulr (i:=101 * (v:Int)) (j:=(v:Int)) (by (first|lia|omega)) (by (first|lia|omega))
 have m4:=x_mull (i:=17) (j:=(b:Int)) (by decide) (by decide)
 have m5:=x_mulr (i:=17 * (b:Int)) (j:=(b:Int)) (by (first|lia|omega)) (by (first|lia|omega))
 have md:=x_mod (i:=5 * (v:Int)+(b:Int)) (j:=40) (by decide)
 generalize hc:cell ns (2+(5 * v+b) % 40)+101 * (v:Int) * (v:Int)+17 * (b:Int) * (b:Int)=c
 obtain ⟨size,s1,s2,s3⟩:=some4 b (by (first|lia|omega))
 obtain ⟨row,g',q1,q2,q3,q4,q5⟩:=played_eq c g wd size (by (first|lia|omega)) s3 hg
 have rl:1 ≤ row.length:=by
  cases row with
  | nil=>have:=q4.2; simp at this; (first|lia|omega)
  | cons a b=>simp
 have hf:(F.map brD)[b]?=some (.lst (bar.map rwD)):=by rw [List.getElem?_map,hF]; rfl
 have fin':∀ r:List PE,RowOk r→(sFrz 10 (sAppIx 5 (eVar 8) (eVar 10))) [some (.fz (.lst (ns.map D.int))),some (.fz (.bl wd)),R2,R3,some (.fz (.int (many:Int))),some (.od (.lst (F.map brD))),some (.fz (.int (v:Int))),some (.fz (goD g')),some (.fz (.int (b:Int))),some (.fz (.int c)),some (.ow (.lst (r.map peD)))]
   = .nx [some (.fz (.lst (ns.map D.int))),some (.fz (.bl wd)),R2,R3,some (.fz (.int (many:Int))),some (.od (.lst ((F.set b (bar++[r])).map brD))),some (.fz (.int (v:Int))),some (.fz (goD g')),some (.fz (.int (b:Int))),some (.fz (.int c)),some (.fz (rwD r))]:=fun r hr=>by
  simp only [EV,Nat.reduceAdd,Nat.reduceSub,Nat.reduceLeDiff]
  rw [x_appIx (k:=b) (ds:=F.map brD) (xs:=bar.map rwD) (d:=rwD r) rfl (by simp only [EV,Nat.reduceAdd,Nat.reduceSub,Nat.reduceLeDiff]) (by simp only [EV,Nat.reduceAdd,Nat.reduceSub,Nat.reduceLeDiff,rwD]) hf (by rw [List.length_map]; (first|lia|omega))]
  simp only [EV,Nat.reduceAdd,Nat.reduceSub,Nat.reduceLeDiff,List.map_set,brD,List.map_append,rwD]
 unfold bodyV
 simp only [EV,Nat.reduceAdd,Nat.reduceSub,Nat.reduceLeDiff,m1,md,ce,m2,m3,m4,m5,hc]
 rw [x_asgP (ds:=row.map peD) (g:=goD g') (by simp only [EV,Nat.reduceAdd,Nat.reduceSub,Nat.reduceLeDiff,s1,q5])]
 simp only [EV,Nat.reduceAdd,Nat.reduceSub,Nat.reduceLeDiff]
 cases t:((b:Int) == (many:Int) - 1)
 ·have ro:RowOk row:=⟨q3,q4.1,by rw [q4.2]; exact s3,rl⟩
  refine ⟨row,g',c,ro,q2,⟨g',q1,.inr rfl⟩,?_⟩
  simp only [EV,Nat.reduceAdd,Nat.reduceSub,Nat.reduceLeDiff]
  have:=fin' row ro
  simp only [EV,Nat.reduceAdd,Nat.reduceSub,Nat.reduceLeDiff] at this
  exact this
 ·have ro:RowOk (letGo row):=⟨letGo_ok q3,by rw [letGo_len]; exact q4.1,by rw [letGo_pv,q4.2]; exact s3,by rw [letGo_len]; exact rl⟩
  have tm:b+1=many:=by have:=eq_of_beq t; (first|lia|omega)
  refine ⟨letGo row,g',c,ro,q2,⟨none,letGo_tie row g g' q1 (fun z=>by subst z; simp at rl),.inl tm⟩,?_⟩
  simp only [EV,Nat.reduceAdd,Nat.reduceSub,Nat.reduceLeDiff]
  rw [x_move (d:=.lst (row.map peD)) (d':=.lst ((letGo row).map peD)) rfl (let_eq row)]
  simp only [EV,Nat.reduceAdd,Nat.reduceSub,Nat.reduceLeDiff]
  have:=fin' (letGo row) ro
  simp only [EV,Nat.reduceAdd,Nat.reduceSub,Nat.reduceLeDiff] at this
  exact this
theorem voice_run (ns:List Int) (wd:Bool) (R2 R3:Option En) (many v:Nat) (hm:many ≤ 4) (hv:v < 100) (F:List (List (List PE))) (hF:F.length=many) (hl:∀ bar∈F,bar.length=v∧∀ r∈bar,RowOk r) (j8 j9 j10:Option En) :
  ∃ (G:List (List (List PE))) (g:Option (List Int)) (k8 k9 k10:Option En),G.length=many∧(∀ bar∈G,bar.length=v+1∧∀ r∈bar,RowOk r)∧(∀ u,u < v→colR G u=colR F u)∧(∃ g2,TieB none (colR G v).flatten g2) ∧
   forD (gV 8) bodyV (rngD 0 many) [some (.fz (.lst (ns.map D.int))),some (.fz (.bl wd)),R2,R3,some (.fz (.int (many:Int))),some (.od (.lst (F.map brD))),some (.fz (.int (v:Int))),some (.fz .non),j8,j9,j10]
   = .nx [some (.fz (.lst (ns.map D.int))),some (.fz (.bl wd)),R2,R3,some (.fz (.int (many:Int))),some (.od (.lst (G.map brD))),some (.fz (.int (v:Int))),some (.fz (goD g)),k8,k9,k10]:=by
 obtain ⟨ρ,e,Rs,g,k8,k9,k10,hρ,h1,h2,h3,⟨g2,t1,_⟩⟩:=rng_nx many (fun i ρ=>∃ (Rs:List (List PE)) (g:Option (List Int)) (k8 k9 k10:Option En),ρ=[some (.fz (.lst (ns.map D.int))),some (.fz (.bl wd)),R2,R3,some (.fz (.int (many:Int))),some (.od (.lst ((addR F Rs).map brD))),some (.fz (.int (v:Int))),some (.fz (goD g)),k8,k9,k10]∧Rs.length=i∧(∀ r∈Rs,RowOk r)∧GOk g∧∃ g2,TieB none Rs.flatten g2∧(i=many∨g2=g))
  (g:=gV 8) (b:=bodyV)
  (ρ:=[some (.fz (.lst (ns.map D.int))),some (.fz (.bl wd)),R2,R3,some (.fz (.int (many:Int))),some (.od (.lst (F.map brD))),some (.fz (.int (v:Int))),some (.fz .non),j8,j9,j10]) ⟨[],none,j8,j9,j10,by rw [addR_nil]; rfl,rfl,by simp,(fun _ h=>by cases h),none,rfl,.inr rfl⟩ (fun i ρ hi ⟨Rs,g,k8,k9,k10,hρ,h1,h2,h3,⟨g2,t1,t2⟩⟩=>by
   subst hρ
   subst h1
   have hb:F[Rs.length]?=some F[Rs.length]:=List.getElem?_eq_getElem (by (first|lia|omega))
   obtain ⟨l1,l2⟩:=hl F[Rs.length] (List.getElem_mem _)
   have t2:g2=g:=t2.resolve_left (by (first|lia|omega))
   rw [t2] at t1
   obtain ⟨r,g',c,q1,q2,⟨g3,u1,u2⟩,q3⟩:=voice_step ns wd R2 R3 many v Rs.length hm hi hv g h3 (addR F Rs) F[Rs.length] (addR_get F Rs _ hb) (by (first|lia|omega)) k9 k10
   rw [addR_snoc F Rs _ r hb] at q3
   refine ⟨_,_,rfl,.inl q3,Rs++[r],g',_,_,_,rfl,by simp,fun x hx=>?_,q2,g3,by rw [List.flatten_append]; exact TieB_app _ _ _ _ _ t1 (by simpa using u1),u2⟩
   rcases List.mem_append.mp hx with hx1|hx1
   ·exact h2 x hx1
   ·simp at hx1; subst hx1; exact q1)
 subst hρ
 exact ⟨addR F Rs,g,k8,k9,k10,by rw [addR_len,hF],addR_all F Rs (by (first|lia|omega)) hl h2,colR_old F Rs (fun b hb=>(hl b hb).1),⟨g2,by rw [colR_new F Rs (by (first|lia|omega)) (fun b hb=>(hl b hb).1)]; exact t1⟩,e⟩
theorem large_eqB (ns:List Int):D__law_large [.fz (.lst (ns.map D.int))]=.ok (.fz (.bl (mixN (cell ns 0+7 * (ns.length:Int)) 9871 8 == 3))):=by
 have c0:=cell_eq ns 0
 rw [show ((0:Nat):Int)=0 from rfl] at c0
 have mx:=mix_eq (cell ns 0+7 * (ns.length:Int)) 9871 8 (by decide) (by decide)
 unfold D__law_large B__law_large
 simp only [EV,Nat.reduceAdd,Nat.reduceSub,Nat.reduceLeDiff,c0,List.length_map,x_mull (i:=7) (by decide) (by decide),mx]
theorem bars_eq3 (ns:List Int) (hl:ns.length ≤ 63) (wd:Bool):∃ (F:List (List (List PE))) (vo:Nat),vo ≤ 5∧1 ≤ F.length∧F.length ≤ 4∧(∀ bar∈F,bar.length=vo∧∀ r∈bar,RowOk r)∧(∀ u,u < vo→∃ g,TieB none (colR F u).flatten g)∧D__law_bars [.fz (.lst (ns.map D.int)),.fz (.bl wd)]=.ok (.ow (.lst (F.map brD))):=by
 have hz:sz=16777216:=rfl
 have lg:=large_eqB ns
 have d63:decide ((63:Int) < (ns.length:Int))=false:=by simp; (first|lia|omega)
 have c0:D__law_cell [.fz (.lst (ns.map D.int)),.fz (.int 0)]=.ok (.fz (.int (cell ns 0))):=cell_eq ns 0
 have c1:D__law_cell [.fz (.lst (ns.map D.int)),.fz (.int 1)]=.ok (.fz (.int (cell ns 1))):=cell_eq ns 1
 have dv:=x_div (i:=cell ns 0) (j:=4) (by decide) (by decide)
 have dm:=x_mod (i:=cell ns 1) (j:=4) (by decide)
 have a0:=Int.emod_nonneg (cell ns 1) (show (4:Int)≠0 by decide)
 have a1:=Int.emod_lt_of_pos (cell ns 1) (show (0:Int) < 4 by decide)
 obtain ⟨k,ek⟩:=Int.eq_ofNat_of_zero_le a0
 have go:∀ (most:Int) (vo:Nat),1 ≤ vo→vo ≤ 5→∃ F:List (List (List PE)),1 ≤ F.length∧F.length ≤ 4∧(∀ bar∈F,bar.length=vo∧∀ r∈bar,RowOk r)∧(∀ u,u < vo→∃ g,TieB none (colR F u).flatten g) ∧
   fin ((sSeq (sSetO 5 (eCompO 1 (iR1 (eVar 4)) (gV 11) (eLst [])))
    (sSeq (sFor (iR1 (eVar 3)) (gV 6) (sSeq (sSet 7 (eC .non)) (sFor (iR1 (eVar 4)) (gV 8) bodyV)))
    (sShut 5 (sRetV 5)))) [some (.fz (.lst (ns.map D.int))),some (.fz (.bl wd)),some (.fz (.int most)),some (.fz (.int (vo:Int))),some (.fz (.int ((k+1:Nat):Int))),none,none,none,none,none,none])=.ok (.ow (.lst (F.map brD))):=fun most vo v1 v2=>by
  rw [x_seq,x_setO2 (ds:=(rngD 0 (k+1)).map fun _=>D.lst []) (eCompG_eq (ds:=rngD 0 (k+1)) (x_iR1 (by simp only [EV,Nat.reduceAdd,Nat.reduceSub,Nat.reduceLeDiff]) (by (first|lia|omega))) (by rw [rngD_len]; (first|lia|omega)) (compG_all adO 11 (fun _=>D.lst []) _ _ fun d _=>⟨.ow (.lst []),rfl,rfl⟩)) rfl]
  simp only [EV,Nat.reduceAdd,Nat.reduceSub,Nat.reduceLeDiff]
  rw [x_iR1 (n:=vo) (by simp only [EV,Nat.reduceAdd,Nat.reduceSub,Nat.reduceLeDiff]) (by (first|lia|omega))]
  simp only [EV,Nat.reduceAdd,Nat.reduceSub,Nat.reduceLeDiff]
  have f0:(rngD 0 (k+1)).map (fun _=>D.lst [])=(List.replicate (k+1) ([]:List (List PE))).map brD:=by
   rw [List.map_replicate]
   apply List.ext_getElem?
   intro i
   rw [List.getElem?_map,rngD_get,List.getElem?_replicate]
   split <;> rfl
  rw [f0]
  obtain ⟨ρ,e,F,j6,j7,j8,j9,j10,hρ,h1,h2,h3⟩:=rng_nx vo (fun i ρ=>∃ (F:List (List (List PE))) (j6 j7 j8 j9 j10:Option En),ρ=[some (.fz (.lst (ns.map D.int))),some (.fz (.bl wd)),some (.fz (.int most)),some (.fz (.int (vo:Int))),some (.fz (.int ((k+1:Nat):Int))),some (.od (.lst (F.map brD))),j6,j7,j8,j9,j10]∧F.length=k+1∧(∀ bar∈F,bar.length=i∧∀ r∈bar,RowOk r)∧∀ u,u < i→∃ g,TieB none (colR F u).flatten g)
   (g:=gV 6) (b:=(sSeq (sSet 7 (eC .non)) (sFor (iR1 (eVar 4)) (gV 8) bodyV)))
   (ρ:=[some (.fz (.lst (ns.map D.int))),some (.fz (.bl wd)),some (.fz (.int most)),some (.fz (.int (vo:Int))),some (.fz (.int ((k+1:Nat):Int))),some (.od (.lst ((List.replicate (k+1) ([]:List (List PE))).map brD))),none,none,none,none,none]) ⟨List.replicate (k+1) [],none,none,none,none,none,rfl,by simp,(fun bar hb=>by
    rw [List.mem_replicate] at hb
    rw [hb.2]
    exact ⟨rfl,by simp⟩),fun u hu=>by (first|lia|omega)⟩ (fun i ρ hi ⟨F,j6,j7,j8,j9,j10,hρ,h1,h2,h3⟩=>by
    subst hρ
    obtain ⟨G,g,k8,k9,k10,q1,q2,q4,q5,q3⟩:=voice_run ns wd (some (.fz (.int most))) (some (.fz (.int (vo:Int)))) (k+1) i (by (first|lia|omega)) (by (first|lia|omega)) F h1 h2 j8 j9 j10
    refine ⟨_,_,rfl,.inl ?_,G,some (.fz (.int (i:Int))),some (.fz (goD g)),k8,k9,k10,rfl,q1,q2,fun u hu=>?_⟩
    rotate_left
    ·by_cases c:u < i
     ·rw [q4 u c]; exact h3 u c
     ·obtain rfl:u=i:=by (first|lia|omega)
      exact q5
    rw [x_seq,x_set]
    simp only [x_c,x_b_ok,x_nm_fz,x_of_ok,x_th_nx,List.set_cons_zero,List.set_cons_succ]
    rw [x_for,x_iR1 (n:=k+1) (by simp only [EV,Nat.reduceAdd,Nat.reduceSub,Nat.reduceLeDiff]) (by (first|lia|omega)),x_of_ok]
    exact q3)
  rw [e]
  subst hρ
  refine ⟨F,by (first|lia|omega),by (first|lia|omega),fun bar hb=>?_,h3,?_⟩
  ·obtain ⟨z1,z2⟩:=h2 bar hb
   exact ⟨by (first|lia|omega),z2⟩
  ·simp only [EV,Nat.reduceAdd,Nat.reduceSub,Nat.reduceLeDiff]
   rw [x_shutV (d:=.lst (F.map brD)) rfl]
   rfl
 unfold D__law_bars B__law_bars
 simp only [EV,Nat.reduceAdd,Nat.reduceSub,Nat.reduceLeDiff,lg]
 cases t:(mixN (cell ns 0+7 * (ns.length:Int)) 9871 8 == 3)
 ·have dm3:=x_mod (i:=cell ns 0 / 4) (j:=3) (by decide)
  have b0:=Int.emod_nonneg (cell ns 0 / 4) (show (3:Int)≠0 by decide)
  have b1:=Int.emod_lt_of_pos (cell ns 0 / 4) (show (0:Int) < 3 by decide)
  obtain ⟨vk,ev⟩:=Int.eq_ofNat_of_zero_le b0
  obtain ⟨F,q1,q2,q3,q5,q4⟩:=go 3 (vk+1) (by (first|lia|omega)) (by (first|lia|omega))
  refine ⟨F,vk+1,by (first|lia|omega),q1,q2,q3,q5,?_⟩
  rw [← q4]
  simp only [EV,Nat.reduceAdd,Nat.reduceSub,Nat.reduceLeDiff,List.length_map,d63,c0,c1,dv,dm,dm3]
  rw [ek,ev,show (1:Int)+((k:Nat):Int)=((k+1:Nat):Int) by (first|lia|omega),show (1:Int)+((vk:Nat):Int)=((vk+1:Nat):Int) by (first|lia|omega)]
 ·have dm3:=x_mod (i:=cell ns 0 / 4) (j:=5) (by decide)
  have b0:=Int.emod_nonneg (cell ns 0 / 4) (show (5:Int)≠0 by decide)
  have b1:=Int.emod_lt_of_pos (cell ns 0 / 4) (show (0:Int) < 5 by decide)
  obtain ⟨vk,ev⟩:=Int.eq_ofNat_of_zero_le b0
  obtain ⟨F,q1,q2,q3,q5,q4⟩:=go 5 (vk+1) (by (first|lia|omega)) (by (first|lia|omega))
  refine ⟨F,vk+1,by (first|lia|omega),q1,q2,q3,q5,?_⟩
  rw [← q4]
  simp only [EV,Nat.reduceAdd,Nat.reduceSub,Nat.reduceLeDiff,List.length_map,d63,c0,c1,dv,dm,dm3]
  rw [ek,ev,show (1:Int)+((k:Nat):Int)=((k+1:Nat):Int) by (first|lia|omega),show (1:Int)+((vk:Nat):Int)=((vk+1:Nat):Int) by (first|lia|omega)]
noncomputable def spotsR (v:Int):Int→Int→List Int→List (List Int)
 | _,_,[]=>[]
 | p,n,x::r=>[p,v,n]::spotsR v (p+x) (n+1) r
noncomputable def spotsB:Int→List (List Int)→List (List Int)
 | _,[]=>[]
 | v,r::rs=>spotsR v 0 0 r++spotsB (v+1) rs
theorem spotsR_len (v:Int):∀ (r:List Int) (p n:Int),(spotsR v p n r).length=r.length
 | [],_,_=>rfl
 | x::r,p,n=>by simp [spotsR,spotsR_len v r]
theorem spotsR_mem (v:Int):∀ (r:List Int) (p n:Int) (x:List Int),x∈spotsR v p n r→∃ q m,x=[q,v,m]∧n ≤ m
 | [],_,_,x,h=>by simp [spotsR] at h
 | y::r,p,n,x,h=>by
  rcases List.mem_cons.mp h with z|h
  ·exact ⟨p,n,z,Int.le_refl _⟩
  ·obtain ⟨q,m,e,l⟩:=spotsR_mem v r (p+y) (n+1) x h
   exact ⟨q,m,e,by (first|lia|omega)⟩
theorem spotsR_nd (v:Int):∀ (r:List Int) (p n:Int),(spotsR v p n r).Nodup
 | [],_,_=>List.Pairwise.nil
 | y::r,p,n=>by
  refine List.nodup_cons.mpr ⟨fun h=>?_,spotsR_nd v r (p+y) (n+1)⟩
  obtain ⟨q,m,e,l⟩:=spotsR_mem v r (p+y) (n+1) _ h
  simp at e
  (first|lia|omega)
theorem spotsB_mem:∀ (rs:List (List Int)) (v:Int) (x:List Int),x∈spotsB v rs→∃ q u m,x=[q,u,m]∧v ≤ u
 | [],_,x,h=>by simp [spotsB] at h
 | r::rs,v,x,h=>by
  rcases List.mem_append.mp h with h|h
  ·obtain ⟨q,m,e,_⟩:=spotsR_mem v r 0 0 x h
   exact ⟨q,v,m,e,Int.le_refl _⟩
  ·obtain ⟨q,u,m,e,l⟩:=spotsB_mem rs (v+1) x h
   exact ⟨q,u,m,e,by (first|lia|omega)⟩
theorem spotsB_nd:∀ (rs:List (List Int)) (v:Int),(spotsB v rs).Nodup
 | [],_=>List.Pairwise.nil
 | r::rs,v=>by
  refine List.nodup_append.mpr ⟨spotsR_nd v r 0 0,spotsB_nd rs (v+1),fun a ha b hb e=>?_⟩
  obtain ⟨q,m,e1,_⟩:=spotsR_mem v r 0 0 a ha
  obtain ⟨q2,u,m2,e2,l⟩:=spotsB_mem rs (v+1) b hb
  rw [e1,e2] at e
  simp at e
  (first|lia|omega)
theorem spotsB_len (k:Nat):∀ (rs:List (List Int)) (v:Int),(∀ r∈rs,r.length ≤ k)→(spotsB v rs).length ≤ k * rs.length
 | [],_,_=>by simp [spotsB]
 | r::rs,v,h=>by
  have a:=h r (by simp)
  have b:=spotsB_len k rs (v+1) fun x hx=>h x (List.mem_cons_of_mem _ hx)
  rw [spotsB,List.length_append,spotsR_len,List.length_cons,Nat.mul_add]
  (first|lia|omega)
theorem x_sortedB {rs:List (List Int)} (h1:rs.Nodup) (h2:rs.length ≤ 5000) (h3:[] ∉ rs):dSortedB [.lst (rs.map rowD)]=.ok (.ow (.lst ((sortR rs).map rowD))):=by
 unfold dSortedB
 dsimp only
 rw [rowsOf_map]
 dsimp only
 rw [if_pos ⟨h1,h2,h3⟩]
noncomputable abbrev Ev:=D×Int
noncomputable def EvOk (e:Ev):Prop:=dIxS e.1 (.int 1)=.ok (.fz (.int e.2))
noncomputable def evB (rs:List (List Ev)):D:=.lst (rs.map fun r=>.lst (r.map Prod.fst))
theorem row_spots (W R3:Option En) (v:Int):∀ (r:List Ev) (acc:List (List Int)) (p:Int) (n:Nat) (j5 j6:Option En),(∀ e∈r,EvOk e)→acc.length+r.length ≤ 100000→∃ (q:Int) (i5 i6:Option En),
  forD (gT [5,6]) (sSeq (sApp 1 (eTup [(eVar 4),(eVar 2),(eVar 5)])) (sAug 4 dAddI (eOp dIxS (eVar 6) (eC (.int 1))))) (numd n (r.map Prod.fst)) [W,some (.ow (.lst (acc.map rowD))),some (.fz (.int v)),R3,some (.fz (.int p)),j5,j6]
  = .nx [W,some (.ow (.lst ((acc++spotsR v p (n:Int) (r.map Prod.snd)).map rowD))),some (.fz (.int v)),R3,some (.fz (.int q)),i5,i6]:=by
 have hz:sz=16777216:=rfl
 intro r
 induction r with
 | nil=>intro acc p n j5 j6 _ _; exact ⟨p,j5,j6,by simp [spotsR,numd,x_forD_nil]⟩
 | cons e r ih =>
  intro acc p n j5 j6 hok hl
  rw [List.length_cons] at hl
  have ek:dIxS e.1 (.int 1)=.ok (.fz (.int e.2)):=hok e (by simp)
  obtain ⟨q,i5,i6,h⟩:=ih (acc++[[p,v,(n:Int)]]) (p+e.2) (n+1) (some (.fz (.int (n:Int)))) (some (.fz e.1)) (fun x hx=>hok x (List.mem_cons_of_mem _ hx)) (by rw [List.length_append]; simp; (first|lia|omega))
  refine ⟨q,i5,i6,?_⟩
  rw [List.map_cons]
  show forD _ _ (.tup [.int (n:Int),e.1]::numd (n+1) (r.map Prod.fst)) _=_
  rw [x_forD (ρ1:=[W,some (.ow (.lst (acc.map rowD))),some (.fz (.int v)),R3,some (.fz (.int p)),some (.fz (.int (n:Int))),some (.fz e.1)]) rfl]
  rw [x_seq,x_app (xs:=acc.map rowD) (d:=rowD [p,v,(n:Int)]) rfl (by rw [List.length_map]; (first|lia|omega)) (by simp only [EV,Nat.reduceAdd,Nat.reduceSub,Nat.reduceLeDiff]; rfl)]
  have au:∀ A:D,(sAug 4 dAddI (eOp dIxS (eVar 6) (eC (.int 1)))) [W,some (.ow A),some (.fz (.int v)),R3,some (.fz (.int p)),some (.fz (.int (n:Int))),some (.fz e.1)]=.nx [W,some (.ow A),some (.fz (.int v)),R3,some (.fz (.int (p+e.2))),some (.fz (.int (n:Int))),some (.fz e.1)]:=fun A=>by
   have ad:dAddI (.int p) (.int e.2)=.ok (.fz (.int (p+e.2))):=rfl
   simp only [EV,Nat.reduceAdd,Nat.reduceSub,Nat.reduceLeDiff,ek,ad,x_aug,x_augR]
  rw [x_th_nx]
  simp only [List.set_cons_zero,List.set_cons_succ]
  rw [au,x_turn_nx]
  have e2:(acc++[[p,v,(n:Int)]])++spotsR v (p+e.2) ((n+1:Nat):Int) (r.map Prod.snd)=acc++spotsR v p (n:Int) ((e::r).map Prod.snd):=by
   rw [List.append_assoc,List.map_cons,spotsR]
   simp
  rw [e2] at h
  rw [← h,List.map_append]
  rfl
theorem bar_spots (W:Option En):∀ (rs:List (List Ev)) (acc:List (List Int)) (v:Nat) (j2 j3 j4 j5 j6:Option En),(∀ r∈rs,∀ e∈r,EvOk e)→(∀ r∈rs,r.length ≤ 100)→acc.length+100 * rs.length ≤ 100000→∃ (i2 i3 i4 i5 i6:Option En),
  forD (gT [2,3]) (sSeq (sSet 4 (eC (.int 0))) (sFor (iEnum 3) (gT [5,6]) (sSeq (sApp 1 (eTup [(eVar 4),(eVar 2),(eVar 5)])) (sAug 4 dAddI (eOp dIxS (eVar 6) (eC (.int 1))))))) (numd v (rs.map fun r=>.lst (r.map Prod.fst))) [W,some (.ow (.lst (acc.map rowD))),j2,j3,j4,j5,j6]
  = .nx [W,some (.ow (.lst ((acc++spotsB (v:Int) (rs.map (·.map Prod.snd))).map rowD))),i2,i3,i4,i5,i6]:=by
 intro rs
 induction rs with
 | nil=>intro acc v j2 j3 j4 j5 j6 _ _ _; exact ⟨j2,j3,j4,j5,j6,by simp [spotsB,numd,x_forD_nil]⟩
 | cons r rs ih =>
  intro acc v j2 j3 j4 j5 j6 hok hr hl
  rw [List.length_cons] at hl
  have r1:=hr r (by simp)
  obtain ⟨q,k5,k6,h1⟩:=row_spots W (some (.fz (.lst (r.map Prod.fst)))) (v:Int) r acc 0 0 j5 j6 (hok r (by simp)) (by (first|lia|omega))
  obtain ⟨i2,i3,i4,i5,i6,h2⟩:=ih (acc++spotsR (v:Int) 0 ((0:Nat):Int) (r.map Prod.snd)) (v+1) (some (.fz (.int (v:Int)))) (some (.fz (.lst (r.map Prod.fst)))) (some (.fz (.int q))) k5 k6 (fun x hx=>hok x (List.mem_cons_of_mem _ hx)) (fun x hx=>hr x (List.mem_cons_of_mem _ hx)) (by rw [List.length_append,spotsR_len,List.length_map]; (first|lia|omega))
  refine ⟨i2,i3,i4,i5,i6,?_⟩
  rw [List.map_cons]
  show forD _ _ (.tup [.int (v:Int),.lst (r.map Prod.fst)]::numd (v+1) (rs.map fun r=>.lst (r.map Prod.fst))) _=_
  rw [x_forD (ρ1:=[W,some (.ow (.lst (acc.map rowD))),some (.fz (.int (v:Int))),some (.fz (.lst (r.map Prod.fst))),j4,j5,j6]) rfl]
  rw [x_seq]
  have s4:(sSet 4 (eC (.int 0))) [W,some (.ow (.lst (acc.map rowD))),some (.fz (.int (v:Int))),some (.fz (.lst (r.map Prod.fst))),j4,j5,j6]=.nx [W,some (.ow (.lst (acc.map rowD))),some (.fz (.int (v:Int))),some (.fz (.lst (r.map Prod.fst))),some (.fz (.int 0)),j5,j6]:=by simp only [EV,Nat.reduceAdd,Nat.reduceSub,Nat.reduceLeDiff]
  rw [s4,x_th_nx,x_for]
  have it:iEnum 3 [W,some (.ow (.lst (acc.map rowD))),some (.fz (.int (v:Int))),some (.fz (.lst (r.map Prod.fst))),some (.fz (.int 0)),j5,j6]=.ok (numd 0 (r.map Prod.fst)):=rfl
  rw [it,x_of_ok,h1,x_turn_nx,h2]
  have e3:(acc++spotsR (v:Int) 0 ((0:Nat):Int) (r.map Prod.snd))++spotsB ((v+1:Nat):Int) (rs.map (·.map Prod.snd))=acc++spotsB (v:Int) ((r::rs).map (·.map Prod.snd)):=by
   rw [List.append_assoc,List.map_cons,spotsB]
   rfl
  rw [e3]
theorem in_order_eq (rs:List (List Ev)) (hok:∀ r∈rs,∀ e∈r,EvOk e) (hr:∀ r∈rs,r.length ≤ 100) (hl:rs.length ≤ 50) (w:En) (hw:w=.fz (evB rs)∨w=.br (evB rs)) :
  D_in_order [w]=.ok (.ow (.lst ((sortR (spotsB 0 (rs.map (·.map Prod.snd)))).map rowD))):=by
 obtain ⟨i2,i3,i4,i5,i6,h⟩:=bar_spots (some w) rs [] 0 none none none none none hok hr (by simp; (first|lia|omega))
 have it:iEnum 0 [some w,some (.ow (.lst [])),none,none,none,none,none]=.ok (numd 0 (rs.map fun r=>.lst (r.map Prod.fst))):=by rcases hw with z|z <;> (subst z; rfl)
 have bl:=spotsB_len 100 (rs.map (·.map Prod.snd)) 0 (fun r hr2=>by
  obtain ⟨x,hx,hxe⟩:=List.mem_map.mp hr2
  subst hxe
  rw [List.length_map]
  exact hr x hx)
 rw [List.length_map] at bl
 have so:=x_sortedB (spotsB_nd (rs.map (·.map Prod.snd)) 0) (by (first|lia|omega)) (fun z=>by
  obtain ⟨_,_,_,e,_⟩:=spotsB_mem _ _ _ z
  cases e)
 unfold D_in_order B_in_order
 simp only [EV,Nat.reduceAdd,Nat.reduceSub,Nat.reduceLeDiff,it]
 have h:forD (gT [2,3]) (sSeq (sSet 4 (eC (.int 0))) (sFor (iEnum 3) (gT [5,6]) (sSeq (sApp 1 (eTup [(eVar 4),(eVar 2),(eVar 5)])) (sAug 4 dAddI (eOp dIxS (eVar 6) (eC (.int 1))))))) (numd 0 (rs.map fun r=>.lst (r.map Prod.fst))) [some w,some (.ow (.lst [])),none,none,none,none,none]=.nx [some w,some (.ow (.lst ((spotsB 0 (rs.map (·.map Prod.snd))).map rowD))),i2,i3,i4,i5,i6]:=h
 rw [h]
 simp only [EV,Nat.reduceAdd,Nat.reduceSub,Nat.reduceLeDiff,so]
noncomputable def fcg:Nat→Str
 | 0=>"F"|1=>"C"|2=>"G"|3=>"D"|4=>"A"|5=>"E"|_=>"B"
noncomputable def grd:Nat→Int
 | 0=>5|1=>0|2=>7|3=>2|4=>9|5=>4|_=>11
theorem fcg_ok:∀ m:Nat,m < 7→dIxA (.str "FCGDAEB") (.int (m:Int))=.ok (.fz (.str (fcg m)))∧dIdx2 (.str "FCGDAEB") (.str (fcg m))=.ok (.fz (.int (m:Int)))∧dIxK c_PITCHES (.str (fcg m))=.ok (.fz (.int (grd m)))∧keyOf (.str (fcg m))=some (Sum.inr (fcg m))∧PyData.strOk (fcg m)=true
 | 0,_=>⟨by kernel_rfl,by kernel_rfl,by kernel_rfl,rfl,by kernel_rfl⟩
 | 1,_=>⟨by kernel_rfl,by kernel_rfl,by kernel_rfl,rfl,by kernel_rfl⟩
 | 2,_=>⟨by kernel_rfl,by kernel_rfl,by kernel_rfl,rfl,by kernel_rfl⟩
 | 3,_=>⟨by kernel_rfl,by kernel_rfl,by kernel_rfl,rfl,by kernel_rfl⟩
 | 4,_=>⟨by kernel_rfl,by kernel_rfl,by kernel_rfl,rfl,by kernel_rfl⟩
 | 5,_=>⟨by kernel_rfl,by kernel_rfl,by kernel_rfl,rfl,by kernel_rfl⟩
 | 6,_=>⟨by kernel_rfl,by kernel_rfl,by kernel_rfl,rfl,by kernel_rfl⟩
 | n+7,h=>absurd h (by (first|lia|omega))
noncomputable def ffN (p k:Int):Int:=k - 4+(7 * p - (k - 4)) % 12
noncomputable def ltN (p k:Int):Nat:=((ffN p k+1) % 7).toNat
noncomputable def alN (p k:Int):Int:=(ffN p k+1) / 7
noncomputable def ocN (p k:Int):Int:=(p - grd (ltN p k) - alN p k) / 12
noncomputable def ownN (m:Nat) (k:Int):Int:=(k - 1+((m:Int) - 1 - (k - 1)) % 7+1) / 7
theorem ltN_lt (p k:Int):ltN p k < 7:=by unfold ltN; (first|lia|omega)
theorem ltN_at (p k:Int):((ltN p k:Nat):Int)=(ffN p k+1) % 7:=by unfold ltN; (first|lia|omega)
theorem alike_eq (a b c:Int) (hc:0 < c):D_first_alike [.fz (.int a),.fz (.int b),.fz (.int c)]=.ok (.fz (.int (a+(b - a) % c))):=by
 unfold D_first_alike B_first_alike
 simp only [EV,Nat.reduceAdd,Nat.reduceSub,Nat.reduceLeDiff,x_mod hc]
theorem alter_eq (f:Int):D_alter_at [.fz (.int f)]=.ok (.fz (.int ((f+1) / 7))):=by
 unfold D_alter_at B_alter_at
 simp only [EV,Nat.reduceAdd,Nat.reduceSub,Nat.reduceLeDiff,x_div (i:=f+1) (j:=7) (by decide) (by decide)]
theorem fifth_eq (p k:Int):D_fifth [.fz (.int p),.fz (.int k)]=.ok (.fz (.int (ffN p k))):=by
 unfold D_fifth B_fifth
 simp only [EV,Nat.reduceAdd,Nat.reduceSub,Nat.reduceLeDiff,x_mull (i:=7) (j:=p) (by decide) (by decide),alike_eq _ _ 12 (by decide),ffN]
theorem name_eq (p k:Int):D_name_of [.fz (.int p),.fz (.int k)]=.ok (.fz (.tup [.str (fcg (ltN p k)),.int (alN p k),.int (ocN p k)])):=by
 obtain ⟨a,b,c,_⟩:=fcg_ok (ltN p k) (ltN_lt p k)
 rw [ltN_at] at a
 unfold D_name_of B_name_of
 simp only [EV,Nat.reduceAdd,Nat.reduceSub,Nat.reduceLeDiff,fifth_eq,c_LETTERS_BY_FIFTHS,x_mod (i:=ffN p k+1) (j:=7) (by decide),a,alter_eq,c,x_div (i:=p - grd (ltN p k) - (ffN p k+1) / 7) (j:=12) (by decide) (by decide),alN,ocN]
theorem own_eq (m:Nat) (hm:m < 7) (k:Int):D_own_alter [.fz (.str (fcg m)),.fz (.int k)]=.ok (.fz (.int (ownN m k))):=by
 obtain ⟨a,b,c,_⟩:=fcg_ok m hm
 unfold D_own_alter B_own_alter
 simp only [EV,Nat.reduceAdd,Nat.reduceSub,Nat.reduceLeDiff,c_LETTERS_BY_FIFTHS,b,alike_eq _ _ 7 (by decide),alter_eq,ownN]
noncomputable abbrev Kd:=List (List (Sum Int Str)×D)
noncomputable def KI (kds:Kd):Prop:=∀ kv∈kds,∃ n:Int,kv.2=.int n
noncomputable def kyN (p k:Int):List (Sum Int Str):=[.inr (fcg (ltN p k)),.inl (ocN p k)]
noncomputable def byN (kds:Kd) (p k:Int):Int:=match look (kyN p k) kds with|some (.int n)=>n|_=>ownN (ltN p k) k
noncomputable def wr (kds:Kd) (go:Bool) (p k:Int):Bool:=!go && !(byN kds p k == alN p k)
noncomputable def hdK (kds:Kd) (go:Bool) (p k:Int):Kd:=if wr kds go p k=true then putM (kyN p k) (.int (alN p k)) kds else kds
noncomputable def hdH (kds:Kd) (go:Bool) (p k:Int):D:=.tup [.str (fcg (ltN p k)),.int (ocN p k),if wr kds go p k=true then .int (alN p k) else .non]
noncomputable def hdsK (go:Bool) (k:Int):Kd→List Int→Kd
 | kds,[]=>kds
 | kds,p::ps=>hdsK go k (hdK kds go p k) ps
noncomputable def hdsH (go:Bool) (k:Int):Kd→List Int→List D
 | _,[]=>[]
 | kds,p::ps=>hdH kds go p k::hdsH go k (hdK kds go p k) ps
theorem look_KI {kds:Kd} (h:KI kds) (q:List (Sum Int Str)):look q kds=none∨∃ n:Int,look q kds=some (.int n):=by
 induction kds with
 | nil=>exact .inl rfl
 | cons kv r ih =>
  obtain ⟨x,d⟩:=kv
  unfold look
  by_cases c:x=q
  ·rw [if_pos c]
   obtain ⟨n,e⟩:=h (x,d) (by simp)
   exact .inr ⟨n,by rw [show d=.int n from e]⟩
  ·rw [if_neg c]
   exact ih fun kv hk=>h kv (List.mem_cons_of_mem _ hk)
theorem putM_KI {kds:Kd} (h:KI kds) (q:List (Sum Int Str)) (n:Int):KI (putM q (.int n) kds)∧(putM q (.int n) kds).length ≤ kds.length+1:=by
 unfold putM
 split
 ·refine ⟨fun kv hk=>?_,by simp⟩
  obtain ⟨x,hx,rfl⟩:=List.mem_map.mp hk
  by_cases c:x.1=q
  ·rw [if_pos c]; exact ⟨n,rfl⟩
  ·rw [if_neg c]; exact h x hx
 ·refine ⟨fun kv hk=>?_,by simp⟩
  rcases List.mem_append.mp hk with hk|hk
  ·exact h kv hk
  ·rw [List.mem_singleton.mp hk]; exact ⟨n,rfl⟩
theorem hdK_KI {kds:Kd} (h:KI kds) (go:Bool) (p k:Int):KI (hdK kds go p k)∧(hdK kds go p k).length ≤ kds.length+1:=by
 unfold hdK
 split
 ·exact putM_KI h _ _
 ·exact ⟨h,by (first|lia|omega)⟩
theorem hdsK_KI (go:Bool) (k:Int):∀ (ps:List Int) (kds:Kd),KI kds→KI (hdsK go k kds ps)∧(hdsK go k kds ps).length ≤ kds.length+ps.length
 | [],kds,h=>⟨h,by simp [hdsK]⟩
 | p::ps,kds,h=>by
  obtain ⟨a,b⟩:=hdK_KI h go p k
  obtain ⟨c,d⟩:=hdsK_KI go k ps _ a
  exact ⟨c,by rw [hdsK,List.length_cons]; (first|lia|omega)⟩
theorem ky_ok (p k:Int):keysOf [.str (fcg (ltN p k)),.int (ocN p k)]=some (kyN p k):=rfl
theorem getT_eq {kds:Kd} (h:KI kds) (p k:Int):getT kds (kyN p k) (.fz (.int (ownN (ltN p k) k)))=.ok (.fz (.int (byN kds p k))):=by
 unfold getT byN
 rcases look_KI h (kyN p k) with e|⟨n,e⟩ <;> rw [e]
theorem by_eq {kds:Kd} (h:KI kds) (p k:Int) (w:En) (hw:w=.br (.dT kds)∨w=.fz (.dT kds)):D_alter_by_then [.fz (.str (fcg (ltN p k))),.fz (.int (ocN p k)),w,.fz (.int k)]=.ok (.fz (.int (byN kds p k))):=by
 have hz:sz=16777216:=rfl
 have g:=getT_eq h p k
 have o:=own_eq (ltN p k) (ltN_lt p k) k
 unfold D_alter_by_then B_alter_by_then
 rw [x_den]
 show fin ((sRet (eGetT (eVar 2) [(eVar 0),(eVar 1)] (eCall D_own_alter [(eVar 0),(eVar 3)]))) [some (.fz (.str (fcg (ltN p k)))),some (.fz (.int (ocN p k))),some w,some (.fz (.int k))])=_
 have e:eGetT (eVar 2) [(eVar 0),(eVar 1)] (eCall D_own_alter [(eVar 0),(eVar 3)]) [some (.fz (.str (fcg (ltN p k)))),some (.fz (.int (ocN p k))),some w,some (.fz (.int k))]=.ok (.fz (.int (byN kds p k))):=by
  have ve:(eVar 2) [some (.fz (.str (fcg (ltN p k)))),some (.fz (.int (ocN p k))),some w,some (.fz (.int k))]=.ok w:=by rcases hw with z|z <;> (subst z; rfl)
  have oe:(eCall D_own_alter [(eVar 0),(eVar 3)]) [some (.fz (.str (fcg (ltN p k)))),some (.fz (.int (ocN p k))),some w,some (.fz (.int k))]=.ok (.fz (.int (ownN (ltN p k) k))):=by simp only [EV,Nat.reduceAdd,Nat.reduceSub,Nat.reduceLeDiff,o]
  have wd:w.d=.dT kds:=by rcases hw with z|z <;> (subst z; rfl)
  unfold eGetT
  rw [ve,R.bind_ok,wd]
  show (R.ok [En.fz (.str (fcg (ltN p k))),.fz (.int (ocN p k))]).bind _=_
  rw [R.bind_ok]
  show keyIf (keysOf [.str (fcg (ltN p k)),.int (ocN p k)]) _=_
  rw [ky_ok]
  unfold keyIf
  dsimp only
  rw [if_pos (by show 2 ≤ sz; (first|lia|omega)),oe,R.bind_ok,g]
 rw [x_ret,e]
 rfl
noncomputable abbrev bodyH:SF:=(sSeq (sSet 6 (eCall D_name_of [(eVar 5),(eVar 3)]))
 (sSeq (sSet 7 (eOp dIxS (eVar 6) (eC (.int 0))))
 (sSeq (sSet 8 (eOp dIxS (eVar 6) (eC (.int 2))))
 (sSeq (sSet 9 (eC .non))
 (sSeq (sIf (L3.tAnd (tE (eOp dIsN2 (eVar 1) (eC .non))) (tE (eOp dNe (eCall D_alter_by_then [(eVar 7),(eVar 8),(eVarI 2),(eVar 3)]) (eOp dIxS (eVar 6) (eC (.int 1)))))) (sSeq (sSet 9 (eOp dIxS (eVar 6) (eC (.int 1))))
 (sPutI 2 [(eVar 7),(eVar 8)] (eVar 9))) sNext)
 (sApp 4 (eTup [(eVar 7),(eVar 8),(eVar 9)])))))))
theorem x_putI {i:Nat} {k:List EF} {e:EF} {ρ:Rho} {a:Int} {kds:Kd} {d:D} {ws:List En} {q:List (Sum Int Str)} (h:ρ[i]?=some (some (.od (.tup [.int a,.dT kds])))) (he:e ρ=.ok (.fz d)) (hk:evs k ρ=.ok ws) (hq:keysOf (ws.map En.d)=some q) (h1:kds.length < sz) (h2:q.length ≤ sz) :
  sPutI i k e ρ=.nx (ρ.set i (some (.od (.tup [.int a,.dT (putM q d kds)])))):=by
 unfold sPutI
 rw [h]
 rw [show ioR (some (some (.od (.tup [.int a,.dT kds]))))=some (a,.dT kds) from rfl]
 dsimp only
 rw [he,R.bind_ok]
 show sOf (R.ok d) _=_
 unfold sOf
 dsimp only
 rw [hk]
 dsimp only
 rw [hq]
 dsimp only
 rw [if_pos ⟨h1,h2⟩]
theorem x_varI {i:Nat} {ρ:Rho} {a:Int} {d:D} (h:ρ[i]?=some (some (.od (.tup [.int a,d])))):eVarI i ρ=.ok (.br d):=by
 unfold eVarI
 rw [h]
 rfl
theorem heads_go (a:Addr) (T:D) (go:Bool) (k:Int) (hT:dIsN2 T .non=.ok (.fz (.bl (!go)))) (R0:Option En):∀ (ps:List Int) (kds:Kd) (acc:List D) (j5 j6 j7 j8 j9:Option En),KI kds→kds.length+ps.length ≤ 10000→acc.length+ps.length ≤ 10000→∃ i5 i6 i7 i8 i9:Option En,
  forD (gV 5) bodyH (ps.map D.int) [R0,some (.fz T),some (ioD a (.dT kds)),some (.fz (.int k)),some (.ow (.lst acc)),j5,j6,j7,j8,j9]
  = .nx [R0,some (.fz T),some (ioD a (.dT (hdsK go k kds ps))),some (.fz (.int k)),some (.ow (.lst (acc++hdsH go k kds ps))),i5,i6,i7,i8,i9]:=by
 have hz:sz=16777216:=rfl
 intro ps
 induction ps with
 | nil=>intro kds acc j5 j6 j7 j8 j9 _ _ _; exact ⟨j5,j6,j7,j8,j9,by simp [hdsK,hdsH,x_forD_nil]⟩
 | cons p ps ih =>
  intro kds acc j5 j6 j7 j8 j9 hk hl ha
  rw [List.length_cons] at hl ha
  obtain ⟨k1,k2⟩:=hdK_KI hk go p k
  obtain ⟨i5,i6,i7,i8,i9,h⟩:=ih (hdK kds go p k) (acc++[hdH kds go p k]) (some (.fz (.int p))) (some (.fz (.tup [.str (fcg (ltN p k)),.int (alN p k),.int (ocN p k)]))) (some (.fz (.str (fcg (ltN p k))))) (some (.fz (.int (ocN p k)))) (some (.fz (if wr kds go p k=true then .int (alN p k) else .non))) k1 (by (first|lia|omega)) (by rw [List.length_append]; simp; (first|lia|omega))
  refine ⟨i5,i6,i7,i8,i9,?_⟩
  rw [List.map_cons,x_forD (x_gV)]
  simp only [List.set_cons_zero,List.set_cons_succ]
  have be:=fun w hw=>by_eq hk p k w hw
  have bd:bodyH [R0,some (.fz T),some (ioD a (.dT kds)),some (.fz (.int k)),some (.ow (.lst acc)),some (.fz (.int p)),j6,j7,j8,j9]=.nx [R0,some (.fz T),some (ioD a (.dT (hdK kds go p k))),some (.fz (.int k)),some (.ow (.lst (acc++[hdH kds go p k]))),some (.fz (.int p)),some (.fz (.tup [.str (fcg (ltN p k)),.int (alN p k),.int (ocN p k)])),some (.fz (.str (fcg (ltN p k)))),some (.fz (.int (ocN p k))),some (.fz (if wr kds go p k=true then .int (alN p k) else .non))]:=by
   unfold bodyH
   simp only [EV,Nat.reduceAdd,Nat.reduceSub,Nat.reduceLeDiff,name_eq]
   have vi:∀ (A B C D E F:Option En),(eVarI 2) [R0,some (.fz T),some (ioD a (.dT kds)),some (.fz (.int k)),A,B,C,D,E,F]=.ok (.br (.dT kds)):=fun A B C D E F=>x_varI (a:=(a:Int)) rfl
   have be:=be (.br (.dT kds)) (.inl rfl)
   cases go
   ·cases c:(byN kds p k == alN p k)
    ·have w:wr kds false p k=true:=by unfold wr; rw [c]; rfl
     simp only [hT,EV,Nat.reduceAdd,Nat.reduceSub,Nat.reduceLeDiff,Bool.not_false,vi,be,c]
     rw [x_putI (a:=(a:Int)) (kds:=kds) (d:=.int (alN p k)) (ws:=[.fz (.str (fcg (ltN p k))),.fz (.int (ocN p k))]) (q:=kyN p k) rfl (by simp only [EV,Nat.reduceAdd,Nat.reduceSub,Nat.reduceLeDiff]) rfl (ky_ok p k) (by (first|lia|omega)) (by show 2 ≤ sz; (first|lia|omega))]
     simp only [EV,Nat.reduceAdd,Nat.reduceSub,Nat.reduceLeDiff]
     rw [x_app (xs:=acc) (d:=hdH kds false p k) rfl (by (first|lia|omega)) (by simp only [EV,Nat.reduceAdd,Nat.reduceSub,Nat.reduceLeDiff,hdH,w])]
     simp only [EV,Nat.reduceAdd,Nat.reduceSub,Nat.reduceLeDiff,hdK,w]
     rfl
    ·have w:wr kds false p k=false:=by unfold wr; rw [c]; rfl
     simp only [hT,EV,Nat.reduceAdd,Nat.reduceSub,Nat.reduceLeDiff,Bool.not_false,Bool.not_true,vi,be,c]
     rw [x_app (xs:=acc) (d:=hdH kds false p k) rfl (by (first|lia|omega)) (by simp only [EV,Nat.reduceAdd,Nat.reduceSub,Nat.reduceLeDiff,hdH,w]; rfl)]
     simp only [EV,Nat.reduceAdd,Nat.reduceSub,Nat.reduceLeDiff,hdK,w]
     rfl
   ·have w:wr kds true p k=false:=rfl
    simp only [hT,EV,Nat.reduceAdd,Nat.reduceSub,Nat.reduceLeDiff,Bool.not_true]
    rw [x_app (xs:=acc) (d:=hdH kds true p k) rfl (by (first|lia|omega)) (by simp only [EV,Nat.reduceAdd,Nat.reduceSub,Nat.reduceLeDiff,hdH,w]; rfl)]
    simp only [EV,Nat.reduceAdd,Nat.reduceSub,Nat.reduceLeDiff,hdK,w]
    rfl
  rw [bd,x_turn_nx,h,hdsK,hdsH]
  simp
theorem x_retI {i:Nat} {e:EF} {ρ:Rho} {a:Int} {d g:D} (h:ρ[i]?=some (some (.od (.tup [.int a,d])))) (he:e ρ=.ok (.fz g)):sRetI i e ρ=.rt (.od (.tup [.int a,d,g])):=by
 unfold sRetI
 rw [h,show ioR (some (some (.od (.tup [.int a,d]))))=some (a,d) from rfl]
 dsimp only
 rw [he]
 rfl
theorem heads_eq (a:Addr) (T:D) (go:Bool) (k:Int) (hT:dIsN2 T .non=.ok (.fz (.bl (!go)))) (ps:List Int) (kds:Kd) (hk:KI kds) (hl:kds.length+ps.length ≤ 10000) :
  D_heads_of [.fz (.tup (ps.map D.int)),.fz T,ioD a (.dT kds),.fz (.int k)]=.ok (.od (.tup [.int (a:Int),.dT (hdsK go k kds ps),.tup (hdsH go k kds ps)])):=by
 obtain ⟨i5,i6,i7,i8,i9,h⟩:=heads_go a T go k hT (some (.fz (.tup (ps.map D.int)))) ps kds [] none none none none none hk hl (by simp; (first|lia|omega))
 rw [List.nil_append] at h
 unfold D_heads_of B_heads_of
 rw [x_den]
 show fin (sSeq (sSet 4 (eLst [])) _ [some (.fz (.tup (ps.map D.int))),some (.fz T),some (ioD a (.dT kds)),some (.fz (.int k)),none,none,none,none,none,none])=_
 simp only [EV,Nat.reduceAdd,Nat.reduceSub,Nat.reduceLeDiff]
 have it:iV 0 [some (.fz (.tup (ps.map D.int))),some (.fz T),some (ioD a (.dT kds)),some (.fz (.int k)),some (.ow (.lst [])),none,none,none,none,none]=.ok (ps.map D.int):=rfl
 rw [it,x_of_ok,h,x_th_nx,x_retI (a:=(a:Int)) (d:=.dT (hdsK go k kds ps)) (g:=.tup (hdsH go k kds ps)) rfl (by simp only [EV,Nat.reduceAdd,Nat.reduceSub,Nat.reduceLeDiff])]
 rfl
noncomputable def vof (s:List Int):Int:=s.getD 1 0
noncomputable def pof (s:List Int):Int:=s.getD 0 0
theorem spotsR_pl' (v:Int):∀ (r:List Int) (p n:Int),(∀ x∈r,0 ≤ x)→∀ s∈spotsR v p n r,p ≤ pof s
 | [],_,_,_,s,h=>by simp [spotsR] at h
 | x::r,p,n,hx,s,h=>by
  rcases List.mem_cons.mp h with z|h
  ·subst z; exact Int.le_refl _
  ·have a:=hx x (by simp)
   have:=spotsR_pl' v r (p+x) (n+1) (fun y hy=>hx y (List.mem_cons_of_mem _ hy)) s h
   (first|lia|omega)
theorem lex_pl {p q v u n m:Int} (h:p < q):HT.lexLt [q,v,n] [p,u,m]=false:=by
 rw [HT.lexLt_cons,if_neg (by (first|lia|omega))]
 simp
 (first|lia|omega)
theorem spotsR_up (v:Int):∀ (r:List Int) (p n:Int),(∀ x∈r,1 ≤ x)→(spotsR v p n r).Pairwise fun a b=>HT.lexLt b a=false
 | [],_,_,_=>List.Pairwise.nil
 | x::r,p,n,hx=>by
  refine List.Pairwise.cons (fun s hs=>?_) (spotsR_up v r (p+x) (n+1) fun y hy=>hx y (List.mem_cons_of_mem _ hy))
  have a:=hx x (by simp)
  have b:=spotsR_pl' v r (p+x) (n+1) (fun y hy=>by have:=hx y (List.mem_cons_of_mem _ hy); (first|lia|omega)) s hs
  obtain ⟨q,m,e,_⟩:=spotsR_mem v r (p+x) (n+1) s hs
  subst e
  exact lex_pl (show p < q by have:p+x ≤ q:=b; (first|lia|omega))
theorem spotsR_vof (v:Int) {r:List Int} {p n:Int} {s:List Int} (h:s∈spotsR v p n r):vof s=v:=by
 obtain ⟨q,m,e,_⟩:=spotsR_mem v r p n s h
 subst e
 rfl
theorem spotsB_voice:∀ (rs:List (List Int)) (w:Int) (v:Nat) (r:List Int),rs[v]?=some r→(spotsB w rs).filter (fun s=>vof s == w+(v:Int))=spotsR (w+(v:Int)) 0 0 r
 | [],_,_,_,h=>by simp at h
 | q::rs,w,0,r,h=>by
  obtain rfl:q=r:=by simpa using h
  rw [spotsB,List.filter_append]
  have a:(spotsR w 0 0 q).filter (fun s=>vof s == w+((0:Nat):Int))=spotsR w 0 0 q:=List.filter_eq_self.mpr fun s hs=>by rw [spotsR_vof w hs]; simp
  have b:(spotsB (w+1) rs).filter (fun s=>vof s == w+((0:Nat):Int))=[]:=List.filter_eq_nil_iff.mpr fun s hs=>by
   obtain ⟨x,u,m,e,l⟩:=spotsB_mem rs (w+1) s hs
   subst e
   simp [vof]
   (first|lia|omega)
  rw [a,b,List.append_nil]
  simp
 | q::rs,w,v+1,r,h=>by
  have ih:=spotsB_voice rs (w+1) v r (by simpa using h)
  rw [spotsB,List.filter_append]
  have a:(spotsR w 0 0 q).filter (fun s=>vof s == w+((v+1:Nat):Int))=[]:=List.filter_eq_nil_iff.mpr fun s hs=>by rw [spotsR_vof w hs]; simp; (first|lia|omega)
  have e:w+((v+1:Nat):Int)=w+1+(v:Int):=by (first|lia|omega)
  rw [a,List.nil_append,e]
  exact ih
theorem sort_filter {S:List (List Int)} {T:List (List Int)} (P:List Int→Bool) (h:S.filter P=T) (up:T.Pairwise fun a b=>HT.lexLt b a=false):(sortR S).filter P=T:=by
 refine sorted_one ?_ ?_ up
 ·rw [← h]; exact (sortR_perm S).filter P
 ·exact (sortR_le S).filter P
theorem sort_voice (rs:List (List Int)) (hp:∀ r∈rs,∀ x∈r,1 ≤ x) (v:Nat) (r:List Int) (h:rs[v]?=some r):(sortR (spotsB 0 rs)).filter (fun s=>vof s == (v:Int))=spotsR (v:Int) 0 0 r:=by
 have e:=spotsB_voice rs 0 v r h
 rw [Int.zero_add] at e
 exact sort_filter _ e (spotsR_up _ r 0 0 (hp r (List.mem_of_getElem? h)))
theorem spotsR_at (v:Int):∀ (r:List Int) (p n:Int) (i:Nat) (s:List Int),(spotsR v p n r)[i]?=some s→∃ q,s=[q,v,n+(i:Int)]∧i < r.length
 | [],_,_,_,_,h=>by simp [spotsR] at h
 | x::r,p,n,0,s,h=>by
  have:s=[p,v,n]:=by simpa [spotsR] using h.symm
  exact ⟨p,by rw [this]; simp,by simp⟩
 | x::r,p,n,i+1,s,h=>by
  obtain ⟨q,e,l⟩:=spotsR_at v r (p+x) (n+1) i s (by simpa [spotsR] using h)
  exact ⟨q,by rw [e]; simp; (first|lia|omega),by simp; (first|lia|omega)⟩
theorem spotsB_in:∀ (rs:List (List Int)) (w:Int) (s:List Int),s∈spotsB w rs→∃ (v:Nat) (r:List Int),vof s=w+(v:Int)∧rs[v]?=some r
 | [],_,s,h=>by simp [spotsB] at h
 | q::rs,w,s,h=>by
  rcases List.mem_append.mp h with h|h
  ·exact ⟨0,q,by rw [spotsR_vof w h]; simp,rfl⟩
  ·obtain ⟨v,r,e,l⟩:=spotsB_in rs (w+1) s h
   exact ⟨v+1,r,by rw [e]; (first|lia|omega),by simpa using l⟩
theorem spot_at (rs:List (List Int)) (hp:∀ r∈rs,∀ x∈r,1 ≤ x) {S1 S2:List (List Int)} {s:List Int} (h:sortR (spotsB 0 rs)=S1++s::S2) :
  ∃ (q:Int) (v n:Nat) (r:List Int),s=[q,(v:Int),(n:Int)]∧rs[v]?=some r∧n < r.length∧n=(S1.filter fun t=>vof t == (v:Int)).length:=by
 have ms:s∈spotsB 0 rs:=(sortR_perm _).mem_iff.mp (by rw [h]; simp)
 obtain ⟨v,r,e,er⟩:=spotsB_in rs 0 s ms
 rw [Int.zero_add] at e
 have sv:=sort_voice rs hp v r er
 rw [h,List.filter_append,List.filter_cons_of_pos (by simpa using e)] at sv
 have g:(spotsR (v:Int) 0 0 r)[(S1.filter fun t=>vof t == (v:Int)).length]?=some s:=by rw [← sv,List.getElem?_append_right (Nat.le_refl _),Nat.sub_self]; rfl
 obtain ⟨q,e2,l⟩:=spotsR_at (v:Int) r 0 0 _ s g
 exact ⟨q,v,_,r,by rw [e2,Int.zero_add],er,l,rfl⟩
noncomputable def c3 (B:List (List (List D))):List D:=B.map fun b=>.lst (b.map D.lst)
theorem copy_eq (w:En) (B:List (List (List D))) (hr:ro (some w)=some w) (hw:∀ ρ:Rho,ρ[0]?=some (some w)→iVc 0 ρ=.ok (c3 B)) (h1:B.length ≤ 100) (h2:∀ b∈B,b.length ≤ 100):D__law_copy [w]=.ok (.od (mk3 (c3 B))):=by
 have hz:sz=16777216:=rfl
 unfold D__law_copy B__law_copy
 rw [x_den]
 show fin (sOf (eCompG adD mk3 1 (iVc 0) (gV 1) (eCompG adO D.lst 1 (iVc 1) (gV 2) (eB dList [(eVar 2)])) [some w]) retO)=_
 rw [eCompG_eq (ds:=c3 B) (ys:=(c3 B).map fun d=>d) (hw _ rfl) (by unfold c3; rw [List.length_map]; (first|lia|omega)) (compG_all adD 1 (fun d=>d) _ _ fun d hd=>?_),List.map_id']
 ·rfl
 ·obtain ⟨b,hb,hbe⟩:=List.mem_map.mp hd
  subst hbe
  have e0:(cRho 1 [some w]).set 1 (some (.fz (.lst (b.map D.lst))))=[some w,some (.fz (.lst (b.map D.lst)))]:=by
   show [ro (some w),some (En.fz (.lst (b.map D.lst)))]=_
   rw [hr]
  rw [e0]
  refine ⟨.od (.lst (b.map D.lst)),?_,rfl⟩
  rw [eCompG_eq (ds:=b.map D.lst) (ys:=(b.map D.lst).map fun d=>d) (x_iVc (w:=.fz (.lst (b.map D.lst))) rfl rfl) (by rw [List.length_map]; have:=h2 b hb; (first|lia|omega)) (compG_all adO 2 (fun d=>d) _ _ fun d hd=>?_),List.map_id']
  obtain ⟨r,hr2,hre⟩:=List.mem_map.mp hd
  subst hre
  have e1:(cRho 1 [some w,some (.fz (.lst (b.map D.lst)))]).set 2 (some (.fz (.lst r)))=[some w,some (.fz (.lst (b.map D.lst))),some (.fz (.lst r))]:=by
   show [ro (some w),some (En.fz (.lst (b.map D.lst))),some (En.fz (.lst r))]=_
   rw [hr]
  rw [e1]
  exact ⟨.ow (.lst r),by simp only [EV,Nat.reduceAdd,Nat.reduceSub,Nat.reduceLeDiff],rfl⟩
noncomputable def tieO:Option D→Bool
 | some (.tup [_,_,_,.bl b])=>b
 | _=>false
noncomputable def tiedD:Option D→D
 | some (.tup [_,_,h,.bl true])=>h
 | _=>.non
noncomputable def TeOk (d:D):Prop:=(∃ v:Int,d=.tup [.str "rest",.int v])∨∃ (v:Int) (hs:List D) (t:Bool),d=.tup [.str "note",.int v,.tup hs,.bl t]
theorem eqS_rr:dEq (.str "rest") (.str "rest")=.ok (.fz (.bl true)):=by kernel_rfl
theorem eqS_nr:dEq (.str "note") (.str "rest")=.ok (.fz (.bl false)):=by kernel_rfl
theorem tied_eq (o:Option D) (h:∀ d,o=some d→TeOk d):D_tied_to_next [.fz (o.getD .non)]=.ok (.fz (tiedD o))∧dIsN2 (tiedD o) .non=.ok (.fz (.bl (!tieO o))):=by
 cases o with
 | none=>exact ⟨by kernel_rfl,rfl⟩
 | some d =>
  rcases h d rfl with ⟨v,e⟩|⟨v,hs,t,e⟩
  ·subst e
   refine ⟨?_,rfl⟩
   unfold D_tied_to_next B_tied_to_next
   simp only [Option.getD_some,EV,Nat.reduceAdd,Nat.reduceSub,Nat.reduceLeDiff,eqS_rr]
   rfl
  ·subst e
   cases t
   ·refine ⟨?_,rfl⟩
    unfold D_tied_to_next B_tied_to_next
    simp only [Option.getD_some,EV,Nat.reduceAdd,Nat.reduceSub,Nat.reduceLeDiff,eqS_nr]
    rfl
   ·refine ⟨?_,rfl⟩
    unfold D_tied_to_next B_tied_to_next
    simp only [Option.getD_some,EV,Nat.reduceAdd,Nat.reduceSub,Nat.reduceLeDiff,eqS_nr]
    rfl
structure TS where
 kds:Kd
 rows:List (List D)
 ah:List (Sum Int Str×D)
inductive GE (α:Type) where
 | rest (v:Int)
 | note (v:Int) (x:α) (t:Bool)
structure TF (α:Type) where
 enc:α→D
 fx:α→D→Kd→D
 fk:α→D→Kd→Kd
 ok:α→Prop
noncomputable def geD {α:Type} (F:TF α):GE α→D
 | .rest v=>.tup [.str "rest",.int v]
 | .note v x t=>.tup [.str "note",.int v,F.enc x,.bl t]
noncomputable def gv {α:Type}:GE α→Int
 | .rest v=>v
 | .note v _ _=>v
noncomputable def GeOk {α:Type} (F:TF α):GE α→Prop
 | .rest v=>1 ≤ v
 | .note v x _=>1 ≤ v∧F.ok x
noncomputable def gwD {α:Type} (F:TF α) (r:List (GE α)):D:=.lst (r.map (geD F))
noncomputable def grD {α:Type} (F:TF α) (R:List (List (GE α))):D:=.lst (R.map (gwD F))
noncomputable def gEv {α:Type} (F:TF α) (T:D) (kds:Kd):GE α→D
 | .rest v=>.tup [.str "rest",.int v]
 | .note v x t=>.tup [.str "note",.int v,F.fx x T kds,.bl t]
noncomputable def gKd {α:Type} (F:TF α) (T:D) (kds:Kd):GE α→Kd
 | .rest _=>kds
 | .note _ x _=>F.fk x T kds
noncomputable def tOf (st:TS) (v:Nat):D:=tiedD (look (Sum.inl (v:Int)) st.ah)
noncomputable def stepV {α:Type} (F:TF α) (st:TS) (v:Nat) (e:GE α):TS :=
 ⟨gKd F (tOf st v) st.kds e,st.rows.set v ((st.rows.getD v [])++[gEv F (tOf st v) st.kds e]),putM (Sum.inl (v:Int)) (gEv F (tOf st v) st.kds e) st.ah⟩
noncomputable def evAt {α:Type} (R:List (List (GE α))) (s:List Int):Option (GE α):=(R[(vof s).toNat]?).bind fun r=>r[(s.getD 2 0).toNat]?
noncomputable def stepS {α:Type} (F:TF α) (R:List (List (GE α))) (st:TS) (s:List Int):TS:=match evAt R s with
 | some e=>stepV F st (vof s).toNat e
 | none=>st
noncomputable def TnOk (T:D):Prop:=T=.non∨∃ hs,T=.tup hs
structure TurnOk {α:Type} (F:TF α) (k:Int) (fn:D) (io:IOF):Prop where
 run:∀ (R0 told A:Option En) (ah:List (Sum Int Str×D)) (br:D) (kds:Kd) (rows:D) (v va:Int) (x:α) (t:Bool) (T:D),F.ok x→TnOk T→KI kds→kds.length ≤ 5000 →
  io [R0,some (.fz (.int k)),some (.fz fn),told,some (.ow (.dK ah)),some (.fz br),some (.ow (.dT kds)),some (.od rows),A,some (.fz (.int v)),some (.fz (geD F (.note va x t))),some (.fz T)]
   = .ok (F.fx x T kds,[R0,some (.fz (.int k)),some (.fz fn),told,some (.ow (.dK ah)),some (.fz br),some (.ow (.dT (F.fk x T kds))),some (.od rows),A,some (.fz (.int v)),some (.fz (geD F (.note va x t))),some (.fz T)])
 ki:∀ (x:α) (T:D) (kds:Kd),F.ok x→TnOk T→KI kds→KI (F.fk x T kds)∧(F.fk x T kds).length ≤ kds.length+3
 tp:∀ (x:α) (T:D) (kds:Kd),F.ok x→TnOk T→KI kds→∃ hs,F.fx x T kds=.tup hs
noncomputable abbrev bodyT (io:IOF):SF:=(sSeq (sSet 9 (eOp dIxS (eVar 8) (eC (.int 1))))
 (sSeq (sSet 10 (eOp dIxS (eOp dIxS (eVar 5) (eVar 9)) (eOp dIxS (eVar 8) (eC (.int 2)))))
 (sSeq (sIf (tE (eOp dEq (eOp dIxS (eVar 10) (eC (.int 0))) (eC (.str "note")))) (sSeq (sSet 11 (eCall D_tied_to_next [(eGet1 (eVar 4) (eVar 9))]))
 (sIO 10 (eIOT (xPure (eC (.str "note")) (xPure (eOp dIxS (eVar 10) (eC (.int 1))) (xIO io (xPure (eOp dIxS (eVar 10) (eC (.int 3))) xNil))))))) sNext)
 (sSeq (sAppIx 7 (eVar 9) (eVar 10))
 (sPutK 4 (eVar 9) (eVar 10))))))
theorem x_get1 {d k:EF} {ρ:Rho} {wd wk:En} {kvs:List (Sum Int Str×D)} {q:Sum Int Str} (hd:d ρ=.ok wd) (h1:wd.d=.dK kvs) (hk:k ρ=.ok wk) (h2:keyOf wk.d=some q):eGet1 d k ρ=.ok (.fz ((look q kvs).getD .non)):=by
 unfold eGet1
 rw [hd,R.bind_ok,h1]
 dsimp only
 rw [hk,R.bind_ok,h2]
 dsimp only
 cases look q kvs <;> rfl
theorem x_putK {kvs:List (Sum Int Str×D)} {i:Nat} {k e:EF} {ρ:Rho} {d:D} {w:En} {key:Sum Int Str} (h:ρ[i]?=some (some (.ow (.dK kvs)))) (h2:e ρ=.ok (.fz d)) (h3:k ρ=.ok w) (h4:keyOf w.d=some key) (hl:kvs.length < sz) :
  sPutK i k e ρ=.nx (ρ.set i (some (.ow (.dK (putM key d kvs))))):=x_put h (by rw [h2]; rfl) h3 h4 hl
noncomputable def AhOk (ah:List (Sum Int Str×D)):Prop:=∀ kv∈ah,TeOk kv.2
theorem look_mem {q:Sum Int Str} {d:D}:∀ {l:List (Sum Int Str×D)},look q l=some d→∃ kv∈l,kv.2=d
 | [],h=>by cases h
 | (x,y)::l,h=>by
  unfold look at h
  by_cases c:x=q
  ·rw [if_pos c] at h
   exact ⟨(x,y),by simp,by simpa using h⟩
  ·rw [if_neg c] at h
   obtain ⟨kv,m,e⟩:=look_mem h
   exact ⟨kv,List.mem_cons_of_mem _ m,e⟩
theorem putM_ah {ah:List (Sum Int Str×D)} {q:Sum Int Str} {d:D} (h:AhOk ah) (hd:TeOk d):AhOk (putM q d ah)∧(putM q d ah).length ≤ ah.length+1:=by
 unfold putM
 split
 ·refine ⟨fun kv hk=>?_,by simp⟩
  obtain ⟨x,hx,rfl⟩:=List.mem_map.mp hk
  by_cases c:x.1=q
  ·rw [if_pos c]; exact hd
  ·rw [if_neg c]; exact h x hx
 ·refine ⟨fun kv hk=>?_,by simp⟩
  rcases List.mem_append.mp hk with hk|hk
  ·exact h kv hk
  ·rw [List.mem_singleton.mp hk]; exact hd
theorem look_put {q q2:Sum Int Str} {d:D}:∀ (l:List (Sum Int Str×D)),look q2 (putM q d l)=if q=q2 then some d else look q2 l:=by
 intro l
 have mp:∀ l:List (Sum Int Str×D),look q2 (l.map fun kv=>if kv.1=q then (kv.1,d) else kv)=if q=q2∧(l.any fun kv=>decide (kv.1=q))=true then some d else look q2 l:=by
  intro l
  induction l with
  | nil=>simp [look]
  | cons kv r ih =>
   obtain ⟨x,y⟩:=kv
   rw [List.map_cons]
   by_cases c:x=q
   ·rw [if_pos c]
    unfold look
    by_cases c2:x=q2
    ·rw [if_pos c2,if_pos ⟨c.symm.trans c2,by simp [c]⟩]
    ·rw [if_neg c2,ih]
     have n1:¬ (q=q2):=fun z=>c2 (c.trans z)
     rw [if_neg (fun z=>n1 z.1),if_neg (fun z=>n1 z.1),if_neg c2]
   ·rw [if_neg c]
    unfold look
    by_cases c2:x=q2
    ·rw [if_pos c2]
     have n1:¬ (q=q2):=fun z=>c (c2.trans z.symm)
     rw [if_neg (fun z=>n1 z.1),if_pos c2]
    ·rw [if_neg c2,ih,if_neg c2,List.any_cons]
     rw [show decide ((x,y).1=q)=false from by simpa using c,Bool.false_or]
 have ap:∀ l:List (Sum Int Str×D),(l.any fun kv=>decide (kv.1=q))=false→look q2 (l++[(q,d)])=if q=q2 then some d else look q2 l:=by
  intro l
  induction l with
  | nil=>intro _; simp [look]
  | cons kv r ih =>
   intro h
   obtain ⟨x,y⟩:=kv
   rw [List.any_cons,Bool.or_eq_false_iff] at h
   have xq:x≠q:=by simpa using h.1
   rw [List.cons_append]
   unfold look
   by_cases c2:x=q2
   ·rw [if_pos c2,if_neg (fun z=>xq (c2.trans z.symm)),if_pos c2]
   ·rw [if_neg c2,ih h.2,if_neg c2]
 unfold putM
 cases c:(l.any fun kv=>decide (kv.1=q))
 ·rw [if_neg (by simp),ap l c]
 ·rw [if_pos rfl,mp l,c]
  simp
structure TsOk {α:Type} (L:Nat) (R:List (List (GE α))) (st:TS) (m:Nat):Prop where
 ki:KI st.kds
 kl:st.kds.length ≤ 3 * m
 ah:AhOk st.ah
 al:st.ah.length ≤ L+m
 rl:st.rows.length=R.length
 rr:∀ r∈st.rows,r.length ≤ m
theorem tied_ok (o:Option D) (h:∀ d,o=some d→TeOk d):TnOk (tiedD o):=by
 cases o with
 | none=>exact .inl rfl
 | some d =>
  rcases h d rfl with ⟨v,e⟩|⟨v,hs,t,e⟩
  ·subst e; exact .inl rfl
  ·subst e
   cases t
   ·exact .inl rfl
   ·exact .inr ⟨hs,rfl⟩
theorem tOf_ok {st:TS} (h:AhOk st.ah) (v:Nat):TnOk (tOf st v):=tied_ok _ fun d hd=>by obtain ⟨kv,m1,m2⟩:=look_mem hd; rw [← m2]; exact h kv m1
theorem gEv_ok {α:Type} {F:TF α} {k:Int} {fn:D} {io:IOF} (hF:TurnOk F k fn io) {T:D} {kds:Kd} (hT:TnOk T) (hk:KI kds) (e:GE α) (he:GeOk F e):TeOk (gEv F T kds e):=by
 cases e with
 | rest v=>exact .inl ⟨v,rfl⟩
 | note v x t =>
  obtain ⟨hs,h⟩:=hF.tp x T kds he.2 hT hk
  exact .inr ⟨v,hs,t,by show D.tup [.str "note",.int v,F.fx x T kds,.bl t]=_; rw [h]⟩
theorem gKd_ok {α:Type} {F:TF α} {k:Int} {fn:D} {io:IOF} (hF:TurnOk F k fn io) {T:D} {kds:Kd} (hT:TnOk T) (hk:KI kds) (e:GE α) (he:GeOk F e):KI (gKd F T kds e)∧(gKd F T kds e).length ≤ kds.length+3:=by
 cases e with
 | rest v=>exact ⟨hk,by simp [gKd]⟩
 | note v x t=>exact hF.ki x T kds he.2 hT hk
theorem stepV_ok {α:Type} {F:TF α} {k:Int} {fn:D} {io:IOF} (hF:TurnOk F k fn io) {L:Nat} {R:List (List (GE α))} {st:TS} {m v:Nat} (h:TsOk L R st m) (hv:v < R.length) (e:GE α) (he:GeOk F e):TsOk L R (stepV F st v e) (m+1):=by
 obtain ⟨a,b⟩:=gKd_ok hF (tOf_ok h.ah v) h.ki e he
 obtain ⟨c,d⟩:=putM_ah (q:=Sum.inl (v:Int)) h.ah (gEv_ok hF (tOf_ok h.ah v) h.ki e he)
 refine ⟨a,by have:=h.kl; show (gKd F (tOf st v) st.kds e).length ≤ _; (first|lia|omega),c,by have:=h.al; show (putM _ _ st.ah).length ≤ _; (first|lia|omega),by show (st.rows.set v _).length=_; rw [List.length_set]; exact h.rl,fun r hr=>?_⟩
 have hr:r∈st.rows.set v ((st.rows.getD v [])++[gEv F (tOf st v) st.kds e]):=hr
 rcases List.mem_or_eq_of_mem_set hr with z|z
 ·have:=h.rr r z; (first|lia|omega)
 ·subst z
  have hv2:v < st.rows.length:=by rw [h.rl]; exact hv
  have:(st.rows.getD v []).length ≤ m:=by
   rw [List.getD_eq_getElem?_getD,List.getElem?_eq_getElem hv2]
   exact h.rr _ (List.getElem_mem hv2)
  rw [List.length_append,List.length_singleton]
  (first|lia|omega)
theorem x_io {dn:Den} {i:Nat} {pre post:List EF} {ρ:Rho} {d d' g:D} {ws ws2 ys ys2:List En} (h:ρ[i]?=some (some (.ow d))) (e1:evs pre ρ=.ok ws) (a1:argAll ws=.ok ys) (e2:evs post ρ=.ok ws2) (a2:argAll ws2=.ok ys2) (f:(allFz ys && allFz ys2)=true) (io:ioVal dn ys d ys2=.ok (d',g)) :
  eIO dn i pre post ρ=.ok (g,ρ.set i (some (.ow d'))):=by
 unfold eIO
 rw [h]
 dsimp only
 rw [e1,R.bind_ok,a1,R.bind_ok,e2,R.bind_ok,a2,R.bind_ok,if_pos f,io,R.bind_ok]
theorem step_eq {α:Type} {F:TF α} {k:Int} {fn:D} {io:IOF} (hF:TurnOk F k fn io) (R:List (List (GE α))) (R0 told:Option En) (st:TS) (m L:Nat) (h:TsOk L R st m) (hL:L ≤ 1000000) (hm:m ≤ 1000) (v n:Nat) (q:Int) (r:List (GE α)) (e:GE α) (er:R[v]?=some r) (ee:r[n]?=some e) (he:GeOk F e) (j9 j10:Option En) (j11:Option D):∃ i11:Option D,
  bodyT io [R0,some (.fz (.int k)),some (.fz fn),told,some (.ow (.dK st.ah)),some (.fz (grD F R)),some (.ow (.dT st.kds)),some (.od (.lst (st.rows.map D.lst))),some (.fz (rowD [q,(v:Int),(n:Int)])),j9,j10,j11.map En.fz]
  = .nx [R0,some (.fz (.int k)),some (.fz fn),told,some (.ow (.dK (stepV F st v e).ah)),some (.fz (grD F R)),some (.ow (.dT (stepV F st v e).kds)),some (.od (.lst ((stepV F st v e).rows.map D.lst))),some (.fz (rowD [q,(v:Int),(n:Int)])),some (.fz (.int (v:Int))),some (.fz (gEv F (tOf st v) st.kds e)),i11.map En.fz]:=by
 have hz:sz=16777216:=rfl
 have hv:v < R.length:=(List.getElem?_eq_some_iff.mp er).1
 have hv2:v < st.rows.length:=by rw [h.rl]; exact hv
 have i1:dIxS (rowD [q,(v:Int),(n:Int)]) (.int 1)=.ok (.fz (.int (v:Int))):=rfl
 have i2:dIxS (rowD [q,(v:Int),(n:Int)]) (.int 2)=.ok (.fz (.int (n:Int))):=rfl
 have b1:dIxS (grD F R) (.int (v:Int))=.ok (.fz (gwD F r)):=by
  show okD (ati (R.map (gwD F)) (v:Int))=_
  rw [ati_nat,List.getElem?_map,er]
  rfl
 have b2:dIxS (gwD F r) (.int (n:Int))=.ok (.fz (geD F e)):=by
  show okD (ati (r.map (geD F)) (n:Int))=_
  rw [ati_nat,List.getElem?_map,ee]
  rfl
 have tl:∀ (A C:Option En) (K:Kd) (x:D),(sSeq (sAppIx 7 (eVar 9) (eVar 10)) (sPutK 4 (eVar 9) (eVar 10))) [R0,some (.fz (.int k)),some (.fz fn),told,some (.ow (.dK st.ah)),some (.fz (grD F R)),some (.ow (.dT K)),some (.od (.lst (st.rows.map D.lst))),A,some (.fz (.int (v:Int))),some (.fz x),C]
   = .nx [R0,some (.fz (.int k)),some (.fz fn),told,some (.ow (.dK (putM (Sum.inl (v:Int)) x st.ah))),some (.fz (grD F R)),some (.ow (.dT K)),some (.od (.lst ((st.rows.set v ((st.rows.getD v [])++[x])).map D.lst))),A,some (.fz (.int (v:Int))),some (.fz x),C]:=fun A C K x=>by
  have gd:st.rows.getD v []=st.rows[v]:=by rw [List.getD_eq_getElem?_getD,List.getElem?_eq_getElem hv2]; rfl
  have rl:=h.rr _ (List.getElem_mem hv2)
  rw [x_seq,x_appIx (k:=v) (ds:=st.rows.map D.lst) (xs:=st.rows[v]) (d:=x) rfl (by simp only [EV,Nat.reduceAdd,Nat.reduceSub,Nat.reduceLeDiff]) (by simp only [EV,Nat.reduceAdd,Nat.reduceSub,Nat.reduceLeDiff]) (by rw [List.getElem?_map,List.getElem?_eq_getElem hv2]; rfl) (by (first|lia|omega)),x_th_nx]
  rw [x_putK (kvs:=st.ah) (d:=x) (w:=.fz (.int (v:Int))) (key:=Sum.inl (v:Int)) rfl (by simp only [EV,Nat.reduceAdd,Nat.reduceSub,Nat.reduceLeDiff]) (by simp only [EV,Nat.reduceAdd,Nat.reduceSub,Nat.reduceLeDiff]) rfl (by have:=h.al; (first|lia|omega))]
  rw [gd,List.map_set]
  rfl
 have s9:(sSet 9 (eOp dIxS (eVar 8) (eC (.int 1)))) [R0,some (.fz (.int k)),some (.fz fn),told,some (.ow (.dK st.ah)),some (.fz (grD F R)),some (.ow (.dT st.kds)),some (.od (.lst (st.rows.map D.lst))),some (.fz (rowD [q,(v:Int),(n:Int)])),j9,j10,j11.map En.fz]=.nx [R0,some (.fz (.int k)),some (.fz fn),told,some (.ow (.dK st.ah)),some (.fz (grD F R)),some (.ow (.dT st.kds)),some (.od (.lst (st.rows.map D.lst))),some (.fz (rowD [q,(v:Int),(n:Int)])),some (.fz (.int (v:Int))),j10,j11.map En.fz]:=by simp only [EV,Nat.reduceAdd,Nat.reduceSub,Nat.reduceLeDiff,i1]
 have s10:(sSet 10 (eOp dIxS (eOp dIxS (eVar 5) (eVar 9)) (eOp dIxS (eVar 8) (eC (.int 2))))) [R0,some (.fz (.int k)),some (.fz fn),told,some (.ow (.dK st.ah)),some (.fz (grD F R)),some (.ow (.dT st.kds)),some (.od (.lst (st.rows.map D.lst))),some (.fz (rowD [q,(v:Int),(n:Int)])),some (.fz (.int (v:Int))),j10,j11.map En.fz]=.nx [R0,some (.fz (.int k)),some (.fz fn),told,some (.ow (.dK st.ah)),some (.fz (grD F R)),some (.ow (.dT st.kds)),some (.od (.lst (st.rows.map D.lst))),some (.fz (rowD [q,(v:Int),(n:Int)])),some (.fz (.int (v:Int))),some (.fz (geD F e)),j11.map En.fz]:=by simp only [EV,Nat.reduceAdd,Nat.reduceSub,Nat.reduceLeDiff,b1,i2,b2]
 cases e with
 | rest va =>
  refine ⟨j11,?_⟩
  have i0:dIxS (geD F (.rest va)) (.int 0)=.ok (.fz (.str "rest")):=rfl
  have nq:(tE (eOp dEq (eOp dIxS (eVar 10) (eC (.int 0))) (eC (.str "note")))) [R0,some (.fz (.int k)),some (.fz fn),told,some (.ow (.dK st.ah)),some (.fz (grD F R)),some (.ow (.dT st.kds)),some (.od (.lst (st.rows.map D.lst))),some (.fz (rowD [q,(v:Int),(n:Int)])),some (.fz (.int (v:Int))),some (.fz (geD F (.rest va))),j11.map En.fz]=.ok false:=by simp only [EV,Nat.reduceAdd,Nat.reduceSub,Nat.reduceLeDiff,i0,eqS_rn]
  unfold bodyT
  rw [x_seq,s9,x_th_nx,x_seq,s10,x_th_nx,x_seq,x_if,nq,x_of_ok,x_pickS_f,x_next,x_th_nx,tl]
  rfl
 | note va x t =>
  obtain ⟨te,_⟩:=tied_eq (look (Sum.inl (v:Int)) st.ah) (fun d hd=>by obtain ⟨kv,m1,m2⟩:=look_mem hd; rw [← m2]; exact h.ah kv m1)
  have i0:dIxS (geD F (.note va x t)) (.int 0)=.ok (.fz (.str "note")):=rfl
  refine ⟨some (tOf st v),?_⟩
  have go:∀ A:Option En,(sIO 10 (eIOT (xPure (eC (.str "note")) (xPure (eOp dIxS (eVar 10) (eC (.int 1))) (xIO io (xPure (eOp dIxS (eVar 10) (eC (.int 3))) xNil)))))) [R0,some (.fz (.int k)),some (.fz fn),told,some (.ow (.dK st.ah)),some (.fz (grD F R)),some (.ow (.dT st.kds)),some (.od (.lst (st.rows.map D.lst))),A,some (.fz (.int (v:Int))),some (.fz (geD F (.note va x t))),some (.fz (tOf st v))]
    = .nx [R0,some (.fz (.int k)),some (.fz fn),told,some (.ow (.dK st.ah)),some (.fz (grD F R)),some (.ow (.dT (F.fk x (tOf st v) st.kds))),some (.od (.lst (st.rows.map D.lst))),A,some (.fz (.int (v:Int))),some (.fz (gEv F (tOf st v) st.kds (.note va x t))),some (.fz (tOf st v))]:=fun A=>by
   have iv:=hF.run R0 told A st.ah (grD F R) st.kds (.lst (st.rows.map D.lst)) (v:Int) va x t (tOf st v) he.2 (tOf_ok h.ah v) h.ki (by have:=h.kl; (first|lia|omega))
   have xe:(eIOT (xPure (eC (.str "note")) (xPure (eOp dIxS (eVar 10) (eC (.int 1))) (xIO io (xPure (eOp dIxS (eVar 10) (eC (.int 3))) xNil))))) [R0,some (.fz (.int k)),some (.fz fn),told,some (.ow (.dK st.ah)),some (.fz (grD F R)),some (.ow (.dT st.kds)),some (.od (.lst (st.rows.map D.lst))),A,some (.fz (.int (v:Int))),some (.fz (geD F (.note va x t))),some (.fz (tOf st v))]
     = .ok (gEv F (tOf st v) st.kds (.note va x t),[R0,some (.fz (.int k)),some (.fz fn),told,some (.ow (.dK st.ah)),some (.fz (grD F R)),some (.ow (.dT (F.fk x (tOf st v) st.kds))),some (.od (.lst (st.rows.map D.lst))),A,some (.fz (.int (v:Int))),some (.fz (geD F (.note va x t))),some (.fz (tOf st v))]):=by
    unfold eIOT xPure xIO
    rw [show (eC (.str "note")) [R0,some (.fz (.int k)),some (.fz fn),told,some (.ow (.dK st.ah)),some (.fz (grD F R)),some (.ow (.dT st.kds)),some (.od (.lst (st.rows.map D.lst))),A,some (.fz (.int (v:Int))),some (.fz (geD F (.note va x t))),some (.fz (tOf st v))]=.ok (.fz (.str "note")) from rfl]
    rw [show (eOp dIxS (eVar 10) (eC (.int 1))) [R0,some (.fz (.int k)),some (.fz fn),told,some (.ow (.dK st.ah)),some (.fz (grD F R)),some (.ow (.dT st.kds)),some (.od (.lst (st.rows.map D.lst))),A,some (.fz (.int (v:Int))),some (.fz (geD F (.note va x t))),some (.fz (tOf st v))]=.ok (.fz (.int va)) from rfl,iv]
    rfl
   unfold sIO
   rw [xe]
   rfl
  have nq:(tE (eOp dEq (eOp dIxS (eVar 10) (eC (.int 0))) (eC (.str "note")))) [R0,some (.fz (.int k)),some (.fz fn),told,some (.ow (.dK st.ah)),some (.fz (grD F R)),some (.ow (.dT st.kds)),some (.od (.lst (st.rows.map D.lst))),some (.fz (rowD [q,(v:Int),(n:Int)])),some (.fz (.int (v:Int))),some (.fz (geD F (.note va x t))),j11.map En.fz]=.ok true:=by simp only [EV,Nat.reduceAdd,Nat.reduceSub,Nat.reduceLeDiff,i0,eqS_nn]
  have ge:(eGet1 (eVar 4) (eVar 9)) [R0,some (.fz (.int k)),some (.fz fn),told,some (.ow (.dK st.ah)),some (.fz (grD F R)),some (.ow (.dT st.kds)),some (.od (.lst (st.rows.map D.lst))),some (.fz (rowD [q,(v:Int),(n:Int)])),some (.fz (.int (v:Int))),some (.fz (geD F (.note va x t))),j11.map En.fz]=.ok (.fz ((look (Sum.inl (v:Int)) st.ah).getD .non)):=x_get1 (wd:=.br (.dK st.ah)) (wk:=.fz (.int (v:Int))) rfl rfl rfl rfl
  have s11:(sSet 11 (eCall D_tied_to_next [(eGet1 (eVar 4) (eVar 9))])) [R0,some (.fz (.int k)),some (.fz fn),told,some (.ow (.dK st.ah)),some (.fz (grD F R)),some (.ow (.dT st.kds)),some (.od (.lst (st.rows.map D.lst))),some (.fz (rowD [q,(v:Int),(n:Int)])),some (.fz (.int (v:Int))),some (.fz (geD F (.note va x t))),j11.map En.fz]=.nx [R0,some (.fz (.int k)),some (.fz fn),told,some (.ow (.dK st.ah)),some (.fz (grD F R)),some (.ow (.dT st.kds)),some (.od (.lst (st.rows.map D.lst))),some (.fz (rowD [q,(v:Int),(n:Int)])),some (.fz (.int (v:Int))),some (.fz (geD F (.note va x t))),some (.fz (tOf st v))]:=by simp only [EV,Nat.reduceAdd,Nat.reduceSub,Nat.reduceLeDiff,ge,te,tOf]
  unfold bodyT
  rw [x_seq,s9,x_th_nx,x_seq,s10,x_th_nx,x_seq,x_if,nq,x_of_ok,x_pickS_t,x_seq,s11,x_th_nx,go,x_th_nx,tl]
  rfl
section
variable {α:Type} {F:TF α} {k:Int} {fn:D} {io:IOF}
theorem gv_pos1 {e:GE α} (h:GeOk F e):1 ≤ gv e:=by
 cases e with
 | rest v=>exact h
 | note v x t=>exact h.1
noncomputable abbrev valsP {α:Type} (R:List (List (GE α))):List (List Int):=R.map (·.map gv)
theorem vals_pos {R:List (List (GE α))} (hR:∀ r∈R,∀ e∈r,GeOk F e):∀ r∈valsP R,∀ x∈r,1 ≤ x:=by
 intro r hr x hx
 obtain ⟨q,hq,rfl⟩:=List.mem_map.mp hr
 obtain ⟨e,he,rfl⟩:=List.mem_map.mp hx
 exact gv_pos1 (hR q hq e he)
theorem spot_ev {R:List (List (GE α))} (hR:∀ r∈R,∀ e∈r,GeOk F e) {S1 S2:List (List Int)} {s:List Int} (h:sortR (spotsB 0 (valsP R))=S1++s::S2) :
  ∃ (q:Int) (v n:Nat) (r:List (GE α)) (e:GE α),s=[q,(v:Int),(n:Int)]∧R[v]?=some r∧r[n]?=some e∧n=(S1.filter fun t=>vof t == (v:Int)).length∧evAt R s=some e∧∀ st,stepS F R st s=stepV F st v e:=by
 obtain ⟨q,v,n,r',e1,e2,e3,e4⟩:=spot_at (valsP R) (vals_pos hR) h
 rw [List.getElem?_map] at e2
 cases er:R[v]? with
 | none=>rw [er] at e2; cases e2
 | some r =>
  rw [er] at e2
  obtain rfl:r.map gv=r':=by simpa using e2
  rw [List.length_map] at e3
  have ee:r[n]?=some r[n]:=List.getElem?_eq_getElem e3
  have ev:evAt R s=some r[n]:=by
   subst e1
   unfold evAt vof
   show (R[((v:Int)).toNat]?).bind _=_
   rw [Int.toNat_natCast,er]
   show r[((n:Int)).toNat]?=_
   rw [Int.toNat_natCast,ee]
  refine ⟨q,v,n,r,r[n],e1,er,ee,e4,ev,fun st=>?_⟩
  unfold stepS
  rw [ev]
  subst e1
  show stepV F st ((v:Int)).toNat r[n]=_
  rw [Int.toNat_natCast]
theorem spots_run (hF:TurnOk F k fn io) (R:List (List (GE α))) (hR:∀ r∈R,∀ e∈r,GeOk F e) (R0 told:Option En) (L:Nat) (hL:L ≤ 1000000) (hl:(sortR (spotsB 0 (valsP R))).length ≤ 1000):∀ (S2 S1:List (List Int)) (st:TS) (j8 j9 j10 j11:Option D),sortR (spotsB 0 (valsP R))=S1++S2→TsOk L R st S1.length →
  (∃ i8 i9 i10 i11:Option D,forD (gV 8) (bodyT io) (S2.map rowD) [R0,some (.fz (.int k)),some (.fz fn),told,some (.ow (.dK st.ah)),some (.fz (grD F R)),some (.ow (.dT st.kds)),some (.od (.lst (st.rows.map D.lst))),j8.map En.fz,j9.map En.fz,j10.map En.fz,j11.map En.fz]
  = .nx [R0,some (.fz (.int k)),some (.fz fn),told,some (.ow (.dK (S2.foldl (stepS F R) st).ah)),some (.fz (grD F R)),some (.ow (.dT (S2.foldl (stepS F R) st).kds)),some (.od (.lst ((S2.foldl (stepS F R) st).rows.map D.lst))),i8.map En.fz,i9.map En.fz,i10.map En.fz,i11.map En.fz])∧TsOk L R (S2.foldl (stepS F R) st) (S1++S2).length:=by
 intro S2
 induction S2 with
 | nil=>intro S1 st j8 j9 j10 j11 _ h; exact ⟨⟨j8,j9,j10,j11,rfl⟩,by simpa using h⟩
 | cons s S2 ih =>
  intro S1 st j8 j9 j10 j11 e h
  obtain ⟨q,v,n,r,ev,e1,er,ee,_,_,sp⟩:=spot_ev hR e
  have pe:GeOk F ev:=hR r (List.mem_of_getElem? er) ev (List.mem_of_getElem? ee)
  have hm:S1.length ≤ 1000:=by rw [e,List.length_append] at hl; (first|lia|omega)
  obtain ⟨i11,se⟩:=step_eq hF R R0 told st S1.length L h hL hm v n q r ev er ee pe (j9.map En.fz) (j10.map En.fz) j11
  have h2:=stepV_ok hF h (List.getElem?_eq_some_iff.mp er).1 ev pe
  obtain ⟨⟨i8,i9,i10,i11',f⟩,t⟩:=ih (S1++[s]) (stepV F st v ev) (some (rowD s)) (some (.int (v:Int))) (some (gEv F (tOf st v) st.kds ev)) i11 (by rw [e]; simp) (by rw [List.length_append]; exact h2)
  rw [List.foldl_cons,sp]
  refine ⟨⟨i8,i9,i10,i11',?_⟩,by simpa using t⟩
  rw [List.map_cons,x_forD (x_gV)]
  simp only [List.set_cons_zero,List.set_cons_succ]
  subst e1
  rw [se,x_turn_nx]
  exact f
noncomputable def bar0 {α:Type} (R:List (List (GE α))) (ah:List (Sum Int Str×D)):TS:=⟨[],R.map fun _=>[],ah⟩
noncomputable def barT {α:Type} (F:TF α) (R:List (List (GE α))) (ah:List (Sum Int Str×D)):TS:=(sortR (spotsB 0 (valsP R))).foldl (stepS F R) (bar0 R ah)
noncomputable def barD (t:TS):D:=.lst (t.rows.map D.lst)
theorem spots_len {R:List (List (GE α))} (hl:R.length ≤ 8) (hR:∀ r∈R,r.length ≤ 40):(sortR (spotsB 0 (valsP R))).length ≤ 320:=by
 rw [(sortR_perm _).length_eq]
 have:=spotsB_len 40 (valsP R) 0 fun r hr=>by
  obtain ⟨q,hq,rfl⟩:=List.mem_map.mp hr
  rw [List.length_map]
  exact hR q hq
 rw [List.length_map] at this
 (first|lia|omega)
theorem bar_ok {L:Nat} {R:List (List (GE α))} {ah:List (Sum Int Str×D)} (ha:AhOk ah) (hb:ah.length ≤ L):TsOk L R (bar0 R ah) 0:=by
 refine ⟨fun _ h=>(by cases h),Nat.zero_le _,ha,hb,?_,fun r hr=>?_⟩
 ·show (R.map fun _=>([]:List D)).length=_
  rw [List.length_map]
 ·obtain ⟨x,_,e⟩:=List.mem_map.mp (show r∈R.map fun _=>([]:List D) from hr)
  rw [← e]
  exact Nat.le_refl _
noncomputable def GRowOk {α:Type} (F:TF α) (r:List (GE α)):Prop:=(∀ e∈r,GeOk F e)∧r.length ≤ 40∧1 ≤ r.length
noncomputable def GBarOk {α:Type} (F:TF α) (R:List (List (GE α))):Prop:=R.length ≤ 8∧∀ r∈R,GRowOk F r
noncomputable abbrev bodyB (io:IOF):SF:=(sSeq (sSet 6 eDT)
 (sSeq (sSetO 7 (eCompO 1 (iVc 5) (gV 12) (eLst [])))
 (sSeq (sFor (iSeq (eCall D_in_order [(eVar 5)])) (gV 8) (bodyT io))
 (sShut 7 (sFrz 7 (sApp 3 (eVar 7)))))))
noncomputable def evsP {α:Type} (F:TF α) (R:List (List (GE α))):List (List Ev):=R.map fun r=>r.map fun e=>(geD F e,gv e)
theorem evB_P (R:List (List (GE α))):evB (evsP F R)=grD F R:=by
 unfold evB evsP grD
 rw [List.map_map]
 congr 1
 apply List.map_congr_left
 intro r _
 show D.lst ((r.map fun e=>(geD F e,gv e)).map Prod.fst)=_
 rw [List.map_map]
 rfl
theorem evs_P (R:List (List (GE α))):(evsP F R).map (·.map Prod.snd)=valsP R:=by
 unfold evsP
 rw [List.map_map]
 apply List.map_congr_left
 intro r _
 show (r.map fun e=>(geD F e,gv e)).map Prod.snd=_
 rw [List.map_map]
 rfl
theorem order_P (R:List (List (GE α))) (h:GBarOk F R) (w:En) (hw:w=.fz (grD F R)∨w=.br (grD F R)):D_in_order [w]=.ok (.ow (.lst ((sortR (spotsB 0 (valsP R))).map rowD))):=by
 have io:=in_order_eq (evsP F R) (fun r hr e he=>by
  obtain ⟨q,hq,rfl⟩:=List.mem_map.mp hr
  obtain ⟨x,hx,rfl⟩:=List.mem_map.mp he
  show dIxS (geD F x) (.int 1)=.ok (.fz (.int (gv x)))
  cases x <;> rfl) (fun r hr=>by
  obtain ⟨q,hq,rfl⟩:=List.mem_map.mp hr
  rw [List.length_map]
  have:=(h.2 q hq).2.1
  (first|lia|omega)) (by unfold evsP; rw [List.length_map]; have:=h.1; (first|lia|omega)) w (by rw [evB_P]; exact hw)
 rw [evs_P] at io
 exact io
theorem bar_run (hF:TurnOk F k fn io) (R:List (List (GE α))) (h:GBarOk F R) (W:En) (B:D) (hW:W=.fz B∨W=.br B) (T:List D) (hT:T.length ≤ 1000) (ah:List (Sum Int Str×D)) (ha:AhOk ah) (L:Nat) (hL:L ≤ 1000000) (hb:ah.length ≤ L) (x6:Option Kd) (j7 j8 j9 j10 j11:Option D):∃ i8 i9 i10 i11:Option D,
  (bodyB io) [some W,some (.fz (.int k)),some (.fz fn),some (.ow (.lst T)),some (.ow (.dK ah)),some (.fz (grD F R)),x6.map (fun q=>En.ow (.dT q)),j7.map En.fz,j8.map En.fz,j9.map En.fz,j10.map En.fz,j11.map En.fz]
  = .nx [some W,some (.fz (.int k)),some (.fz fn),some (.ow (.lst (T++[barD (barT F R ah)]))),some (.ow (.dK (barT F R ah).ah)),some (.fz (grD F R)),some (.ow (.dT (barT F R ah).kds)),some (.fz (barD (barT F R ah))),i8.map En.fz,i9.map En.fz,i10.map En.fz,i11.map En.fz]:=by
 have hz:sz=16777216:=rfl
 have hR:∀ r∈R,∀ e∈r,GeOk F e:=fun r hr=>(h.2 r hr).1
 have ln:=spots_len h.1 fun r hr=>(h.2 r hr).2.1
 have r0:(bar0 R ah).rows.map D.lst=(R.map (gwD F)).map fun _=>D.lst []:=by
  show (R.map fun _=>([]:List D)).map D.lst=_
  rw [List.map_map,List.map_map]
  rfl
 obtain ⟨⟨i8,i9,i10,i11,f⟩,t⟩:=spots_run hF R hR (some W) (some (.ow (.lst T))) L hL (by (first|lia|omega)) (sortR (spotsB 0 (valsP R))) [] (bar0 R ah) j8 j9 j10 j11 rfl (bar_ok ha hb)
 rw [show (bar0 R ah).ah=ah from rfl,show (bar0 R ah).kds=[] from rfl,r0] at f
 rw [show (sortR (spotsB 0 (valsP R))).foldl (stepS F R) (bar0 R ah)=barT F R ah from rfl] at f
 refine ⟨i8,i9,i10,i11,?_⟩
 unfold bodyB
 rw [x_seq,show (sSet 6 eDT) [some W,some (.fz (.int k)),some (.fz fn),some (.ow (.lst T)),some (.ow (.dK ah)),some (.fz (grD F R)),x6.map (fun q=>En.ow (.dT q)),j7.map En.fz,j8.map En.fz,j9.map En.fz,j10.map En.fz,j11.map En.fz]=.nx [some W,some (.fz (.int k)),some (.fz fn),some (.ow (.lst T)),some (.ow (.dK ah)),some (.fz (grD F R)),some (.ow (.dT [])),j7.map En.fz,j8.map En.fz,j9.map En.fz,j10.map En.fz,j11.map En.fz] from rfl,x_th_nx]
 rw [x_seq,x_setO2 (ds:=(R.map (gwD F)).map fun _=>D.lst []) (eCompG_eq (ds:=R.map (gwD F)) (x_iVc (w:=.fz (grD F R)) rfl rfl) (by rw [List.length_map]; have:=h.1; (first|lia|omega)) (compG_all adO 12 (fun _=>D.lst []) _ _ fun d _=>⟨.ow (.lst []),rfl,rfl⟩)) (by rcases hW with z|z <;> (subst z; cases j7 <;> cases j8 <;> cases j9 <;> cases j10 <;> cases j11 <;> rfl)),x_th_nx]
 simp only [List.set_cons_zero,List.set_cons_succ]
 have it:iSeq (eCall D_in_order [(eVar 5)]) [some W,some (.fz (.int k)),some (.fz fn),some (.ow (.lst T)),some (.ow (.dK ah)),some (.fz (grD F R)),some (.ow (.dT [])),some (.od (.lst ((R.map (gwD F)).map fun _=>D.lst []))),j8.map En.fz,j9.map En.fz,j10.map En.fz,j11.map En.fz]=.ok ((sortR (spotsB 0 (valsP R))).map rowD) :=
  x_iSeq (w:=.ow (.lst ((sortR (spotsB 0 (valsP R))).map rowD))) (by simp only [EV,Nat.reduceAdd,Nat.reduceSub,Nat.reduceLeDiff,order_P R h _ (.inl rfl)]) rfl
 rw [x_seq,x_for,it,x_of_ok,f,x_th_nx]
 show (sFrz 7 (sApp 3 (eVar 7))) [some W,some (.fz (.int k)),some (.fz fn),some (.ow (.lst T)),some (.ow (.dK (barT F R ah).ah)),some (.fz (grD F R)),some (.ow (.dT (barT F R ah).kds)),some (.ow (barD (barT F R ah))),i8.map En.fz,i9.map En.fz,i10.map En.fz,i11.map En.fz]=_
 rw [x_frzS]
 show (sApp 3 (eVar 7)) [some W,some (.fz (.int k)),some (.fz fn),some (.ow (.lst T)),some (.ow (.dK (barT F R ah).ah)),some (.fz (grD F R)),some (.ow (.dT (barT F R ah).kds)),some (.fz (barD (barT F R ah))),i8.map En.fz,i9.map En.fz,i10.map En.fz,i11.map En.fz]=_
 rw [x_app (xs:=T) (d:=barD (barT F R ah)) rfl (by (first|lia|omega)) rfl]
 rfl
noncomputable def barsT {α:Type} (F:TF α):List (List (List (GE α)))→List (Sum Int Str×D)→List TS
 | [],_=>[]
 | R::Rs,ah=>barT F R ah::barsT F Rs (barT F R ah).ah
theorem barT_ah (hF:TurnOk F k fn io) (R:List (List (GE α))) (h:GBarOk F R) (ah:List (Sum Int Str×D)) (ha:AhOk ah) (L:Nat) (hL:L ≤ 1000000) (hb:ah.length ≤ L):TsOk L R (barT F R ah) (sortR (spotsB 0 (valsP R))).length:=by
 have hR:∀ r∈R,∀ e∈r,GeOk F e:=fun r hr=>(h.2 r hr).1
 have ln:=spots_len h.1 fun r hr=>(h.2 r hr).2.1
 have:=(spots_run hF R hR none none L hL (by (first|lia|omega)) (sortR (spotsB 0 (valsP R))) [] (bar0 R ah) none none none none rfl (bar_ok ha hb)).2
 rw [List.nil_append] at this
 exact this
theorem bars_run (hF:TurnOk F k fn io) (W:En) (B:D) (hW:W=.fz B∨W=.br B):∀ (Rs:List (List (List (GE α)))) (T:List D) (ah:List (Sum Int Str×D)) (L:Nat) (x5:Option D) (x6:Option Kd) (j7 j8 j9 j10 j11:Option D),(∀ R∈Rs,GBarOk F R)→T.length+Rs.length ≤ 1000→AhOk ah→ah.length ≤ L→L+320 * Rs.length ≤ 1000000→∃ ρ:Rho,
  forD (gV 5) (bodyB io) (Rs.map (grD F)) [some W,some (.fz (.int k)),some (.fz fn),some (.ow (.lst T)),some (.ow (.dK ah)),x5.map En.fz,x6.map (fun q=>En.ow (.dT q)),j7.map En.fz,j8.map En.fz,j9.map En.fz,j10.map En.fz,j11.map En.fz]=.nx ρ∧ρ[3]?=some (some (.ow (.lst (T++(barsT F Rs ah).map barD)))):=by
 intro Rs
 induction Rs with
 | nil=>intro T ah L x5 x6 j7 j8 j9 j10 j11 _ _ _ _ _; exact ⟨_,rfl,by simp [barsT]⟩
 | cons R Rs ih =>
  intro T ah L x5 x6 j7 j8 j9 j10 j11 hk hT ha hl hL
  rw [List.length_cons] at hT hL
  have h:=hk R (by simp)
  have ln:=spots_len h.1 fun r hr=>(h.2 r hr).2.1
  obtain ⟨i8,i9,i10,i11,e⟩:=bar_run hF R h W B hW T (by (first|lia|omega)) ah ha L (by (first|lia|omega)) hl x6 j7 j8 j9 j10 j11
  have to:=barT_ah hF R h ah ha L (by (first|lia|omega)) hl
  obtain ⟨ρ,e2,e3⟩:=ih (T++[barD (barT F R ah)]) (barT F R ah).ah (L+320) (some (grD F R)) (some (barT F R ah).kds) (some (barD (barT F R ah))) i8 i9 i10 i11 (fun x hx=>hk x (List.mem_cons_of_mem _ hx)) (by rw [List.length_append]; simp; (first|lia|omega)) to.ah (by have:=to.al; (first|lia|omega)) (by (first|lia|omega))
  refine ⟨ρ,?_,by rw [e3]; simp [barsT]⟩
  rw [List.map_cons,x_forD (x_gV)]
  simp only [List.set_cons_zero,List.set_cons_succ]
  rw [e,x_turn_nx]
  exact e2
noncomputable abbrev turnedB (io:IOF):SF:=(sSeq (sSet 3 (eLst []))
 (sSeq (sSet 4 eDK)
 (sSeq (sFrz 0 (sFor (iV 0) (gV 5) (bodyB io)))
 (sRetV 3))))
theorem turned_eq (hF:TurnOk F k fn io) (Rs:List (List (List (GE α)))) (h:∀ R∈Rs,GBarOk F R) (hl:Rs.length ≤ 500) (w:En) (hw:w=.fz (.lst (Rs.map (grD F)))∨w=.br (.lst (Rs.map (grD F)))) :
  den 12 (turnedB io) [w,.fz (.int k),.fz fn]=.ok (.ow (.lst ((barsT F Rs []).map barD))):=by
 obtain ⟨ρ,e,e3⟩:=bars_run hF w (.lst (Rs.map (grD F))) hw Rs [] [] 0 none none none none none none none h (by simp; (first|lia|omega)) (fun _ z=>(by cases z)) (Nat.le_refl _) (by (first|lia|omega))
 rw [List.nil_append] at e3
 have it:iV 0 [some w,some (.fz (.int k)),some (.fz fn),some (.ow (.lst [])),some (.ow (.dK [])),none,none,none,none,none,none,none]=.ok (Rs.map (grD F)):=by rcases hw with z|z <;> (subst z; rfl)
 have fr:frzR (some (some w)) 0 [some w,some (.fz (.int k)),some (.fz fn),some (.ow (.lst [])),some (.ow (.dK [])),none,none,none,none,none,none,none]=[some w,some (.fz (.int k)),some (.fz fn),some (.ow (.lst [])),some (.ow (.dK [])),none,none,none,none,none,none,none]:=by rcases hw with z|z <;> (subst z; rfl)
 unfold turnedB
 rw [x_den]
 show fin (sSeq (sSet 3 (eLst [])) _ [some w,some (.fz (.int k)),some (.fz fn),none,none,none,none,none,none,none,none,none])=_
 rw [x_seq,show (sSet 3 (eLst [])) [some w,some (.fz (.int k)),some (.fz fn),none,none,none,none,none,none,none,none,none]=.nx [some w,some (.fz (.int k)),some (.fz fn),some (.ow (.lst [])),none,none,none,none,none,none,none,none] from rfl,x_th_nx]
 rw [x_seq,show (sSet 4 eDK) [some w,some (.fz (.int k)),some (.fz fn),some (.ow (.lst [])),none,none,none,none,none,none,none,none]=.nx [some w,some (.fz (.int k)),some (.fz fn),some (.ow (.lst [])),some (.ow (.dK [])),none,none,none,none,none,none,none] from rfl,x_th_nx]
 rw [x_seq,x_frzS]
 rw [show ([some w,some (.fz (.int k)),some (.fz fn),some (.ow (.lst [])),some (.ow (.dK [])),none,none,none,none,none,none,none]:Rho)[0]?=some (some w) from rfl,fr,x_for,it,x_of_ok]
 have e:forD (gV 5) (bodyB io) (Rs.map (grD F)) [some w,some (.fz (.int k)),some (.fz fn),some (.ow (.lst [])),some (.ow (.dK [])),none,none,none,none,none,none,none]=.nx ρ:=e
 rw [e,x_th_nx]
 show fin (sRetV 3 ρ)=_
 unfold sRetV
 rw [e3]
 rfl
end
section
variable {α:Type} {F:TF α}
noncomputable def tieP {α:Type}:GE α→Bool
 | .rest _=>false
 | .note _ _ t=>t
theorem tieO_ev (T:D) (kds:Kd) (e:GE α):tieO (some (gEv F T kds e))=tieP e:=by cases e <;> rfl
noncomputable def cnt (S1:List (List Int)) (v:Nat):Nat:=(S1.filter fun t=>vof t == (v:Int)).length
noncomputable def reach {α:Type} (r:List (GE α)) (c:Nat) (b:Bool):Bool:=match c with
 | 0=>b
 | c+1=>match r[c]? with|some e=>tieP e|none=>false
noncomputable def Tr {α:Type} (R:List (List (GE α))) (ah:List (Sum Int Str×D)) (S1:List (List Int)) (st:TS):Prop :=
 st.rows.length=R.length∧∀ (v:Nat) (r:List (GE α)),R[v]?=some r→(st.rows.getD v []).length=cnt S1 v∧tieO (look (Sum.inl (v:Int)) st.ah)=reach r (cnt S1 v) (tieO (look (Sum.inl (v:Int)) ah))
theorem tr_0 (R:List (List (GE α))) (ah:List (Sum Int Str×D)):Tr R ah [] (bar0 R ah):=by
 refine ⟨by show (R.map fun _=>([]:List D)).length=_; rw [List.length_map],fun v r h=>⟨?_,rfl⟩⟩
 show ((R.map fun _=>([]:List D)).getD v []).length=0
 rw [List.getD_eq_getElem?_getD,List.getElem?_map,h]
 rfl
theorem cnt_snoc (S1:List (List Int)) (s:List Int) (v:Nat):cnt (S1++[s]) v=cnt S1 v+if vof s=(v:Int) then 1 else 0:=by
 unfold cnt
 rw [List.filter_append,List.length_append]
 congr 1
 by_cases c:vof s=(v:Int)
 ·rw [if_pos c,List.filter_cons_of_pos (by simpa using c)]; rfl
 ·rw [if_neg c,List.filter_cons_of_neg (by simpa using c)]; rfl
theorem tr_step {R:List (List (GE α))} (hR:∀ r∈R,∀ e∈r,GeOk F e) {ah:List (Sum Int Str×D)} {S1 S2:List (List Int)} {s:List Int} {st:TS} (h:sortR (spotsB 0 (valsP R))=S1++s::S2) (t:Tr R ah S1 st):Tr R ah (S1++[s]) (stepS F R st s):=by
 obtain ⟨q,v,n,r,e,e1,er,ee,en,_,sp⟩:=spot_ev hR h
 rw [sp]
 obtain ⟨tl,tt⟩:=t
 have hv:v < st.rows.length:=by rw [tl]; exact (List.getElem?_eq_some_iff.mp er).1
 have vs:vof s=(v:Int):=by subst e1; rfl
 refine ⟨by show (st.rows.set v _).length=_; rw [List.length_set]; exact tl,fun u ru hu=>?_⟩
 obtain ⟨a,b⟩:=tt u ru hu
 rw [cnt_snoc]
 by_cases c:u=v
 ·subst c
  rw [er] at hu
  cases hu
  rw [if_pos vs]
  constructor
  ·show ((st.rows.set u _).getD u []).length=_
   rw [List.getD_eq_getElem?_getD,List.getElem?_set_self hv]
   show (st.rows.getD u []++[_]).length=_
   rw [List.length_append,a]
   rfl
  ·show tieO (look (Sum.inl (u:Int)) (putM (Sum.inl (u:Int)) _ st.ah))=_
   rw [look_put,if_pos rfl,tieO_ev]
   show _=(match r[cnt S1 u]? with|some e=>tieP e|none=>false)
   rw [show cnt S1 u=n from en.symm,ee]
 ·have ne:¬ (vof s=(u:Int)):=by rw [vs]; (first|lia|omega)
  rw [if_neg ne,Nat.add_zero]
  constructor
  ·show ((st.rows.set v _).getD u []).length=_
   rw [List.getD_eq_getElem?_getD,List.getElem?_set_ne (Ne.symm c),← List.getD_eq_getElem?_getD]
   exact a
  ·show tieO (look (Sum.inl (u:Int)) (putM (Sum.inl (v:Int)) _ st.ah))=_
   rw [look_put,if_neg (by intro z; injection z with z; (first|lia|omega))]
   exact b
theorem rows_grow {R:List (List (GE α))} (hR:∀ r∈R,∀ e∈r,GeOk F e) {ah:List (Sum Int Str×D)}:∀ (S2 S1:List (List Int)) (st:TS),sortR (spotsB 0 (valsP R))=S1++S2→Tr R ah S1 st→∀ (v n:Nat) (x:D),(st.rows.getD v [])[n]?=some x→((S2.foldl (stepS F R) st).rows.getD v [])[n]?=some x:=by
 intro S2
 induction S2 with
 | nil=>intro S1 st _ _ v n x h; exact h
 | cons s S2 ih =>
  intro S1 st h t u n x hx
  rw [List.foldl_cons]
  refine ih (S1++[s]) (stepS F R st s) (by rw [h]; simp) (tr_step hR h t) u n x ?_
  obtain ⟨q,v,m,r,e,e1,er,ee,en,_,sp⟩:=spot_ev hR h
  rw [sp]
  have hv:v < st.rows.length:=by rw [t.1]; exact (List.getElem?_eq_some_iff.mp er).1
  show ((st.rows.set v _).getD u [])[n]?=some x
  by_cases c:u=v
  ·subst c
   rw [List.getD_eq_getElem?_getD,List.getElem?_set_self hv]
   show (st.rows.getD u []++[_])[n]?=_
   rw [List.getElem?_append_left (List.getElem?_eq_some_iff.mp hx).1]
   exact hx
  ·rw [List.getD_eq_getElem?_getD,List.getElem?_set_ne (Ne.symm c),← List.getD_eq_getElem?_getD]
   exact hx
theorem row_end {R:List (List (GE α))} (hR:∀ r∈R,∀ e∈r,GeOk F e) {ah:List (Sum Int Str×D)} {S1 S2:List (List Int)} {s:List Int} {st:TS} (h:sortR (spotsB 0 (valsP R))=S1++s::S2) (t:Tr R ah S1 st) (ht:barT F R ah=(s::S2).foldl (stepS F R) st)
  {q:Int} {v n:Nat} {r:List (GE α)} {e:GE α} (e1:s=[q,(v:Int),(n:Int)]) (er:R[v]?=some r) (ee:r[n]?=some e):((barT F R ah).rows.getD v [])[n]?=some (gEv F (tOf st v) st.kds e)∧tieO (look (Sum.inl (v:Int)) st.ah)=reach r n (tieO (look (Sum.inl (v:Int)) ah)):=by
 obtain ⟨q',v',n',r',e',f1,f2,f3,f4,_,sp⟩:=spot_ev hR h
 rw [e1] at f1
 injection f1 with _ f1
 injection f1 with g1 f1
 injection f1 with g2 _
 have z1:v=v':=by (first|lia|omega)
 have z2:n=n':=by (first|lia|omega)
 subst z1 z2
 rw [er] at f2
 cases f2
 rw [ee] at f3
 cases f3
 obtain ⟨a,b⟩:=t.2 v r er
 have cn:cnt S1 v=n:=f4.symm
 rw [cn] at a b
 refine ⟨?_,b⟩
 rw [ht,List.foldl_cons]
 refine rows_grow hR S2 (S1++[s]) (stepS F R st s) (by rw [h]; simp) (tr_step hR h t) v n _ ?_
 rw [sp]
 have hv:v < st.rows.length:=by rw [t.1]; exact (List.getElem?_eq_some_iff.mp er).1
 show ((st.rows.set v _).getD v [])[n]?=_
 rw [List.getD_eq_getElem?_getD,List.getElem?_set_self hv]
 show (st.rows.getD v []++[_])[n]?=_
 rw [List.getElem?_append_right (by (first|lia|omega)),a,Nat.sub_self]
 rfl
end
section
variable {α:Type} {F:TF α}
theorem tr_all {R:List (List (GE α))} (hR:∀ r∈R,∀ e∈r,GeOk F e) {ah:List (Sum Int Str×D)}:∀ (A S1 B:List (List Int)) (st:TS),sortR (spotsB 0 (valsP R))=S1++(A++B)→Tr R ah S1 st→Tr R ah (S1++A) (A.foldl (stepS F R) st)
 | [],S1,B,st,_,t=>by rw [List.append_nil]; exact t
 | s::A,S1,B,st,h,t=>by
  have h1:sortR (spotsB 0 (valsP R))=S1++s::(A++B):=h
  have:=tr_all hR A (S1++[s]) B (stepS F R st s) (by rw [h1]; simp) (tr_step hR h1 t)
  rw [List.foldl_cons]
  simpa using this
theorem tr_bar {R:List (List (GE α))} (hR:∀ r∈R,∀ e∈r,GeOk F e) (ah:List (Sum Int Str×D)):Tr R ah (sortR (spotsB 0 (valsP R))) (barT F R ah):=by
 have:=tr_all hR (sortR (spotsB 0 (valsP R))) [] [] (bar0 R ah) (by simp) (tr_0 R ah)
 rw [List.nil_append] at this
 exact this
theorem cnt_all {R:List (List (GE α))} (hR:∀ r∈R,∀ e∈r,GeOk F e) {v:Nat} {r:List (GE α)} (er:R[v]?=some r):cnt (sortR (spotsB 0 (valsP R))) v=r.length:=by
 have sv:=sort_voice (valsP R) (vals_pos hR) v (r.map gv) (by rw [List.getElem?_map,er]; rfl)
 unfold cnt
 rw [sv,spotsR_len,List.length_map]
theorem bar_len {R:List (List (GE α))} (hR:∀ r∈R,∀ e∈r,GeOk F e) (ah:List (Sum Int Str×D)):(barT F R ah).rows.length=R.length∧∀ (v:Nat) (r:List (GE α)),R[v]?=some r→((barT F R ah).rows.getD v []).length=r.length∧tieO (look (Sum.inl (v:Int)) (barT F R ah).ah)=reach r r.length (tieO (look (Sum.inl (v:Int)) ah)):=by
 obtain ⟨a,b⟩:=tr_bar hR ah
 refine ⟨a,fun v r er=>?_⟩
 obtain ⟨c,d⟩:=b v r er
 rw [cnt_all hR er] at c d
 exact ⟨c,d⟩
theorem spotsR_get (v:Int):∀ (r:List Int) (p n:Int) (i:Nat),i < r.length→∃ q,(spotsR v p n r)[i]?=some [q,v,n+(i:Int)]
 | [],_,_,_,h=>by simp at h
 | x::r,p,n,0,h=>⟨p,by simp [spotsR]⟩
 | x::r,p,n,i+1,h=>by
  obtain ⟨q,e⟩:=spotsR_get v r (p+x) (n+1) i (by simpa using h)
  exact ⟨q,by rw [spotsR,List.getElem?_cons_succ,e]; simp; (first|lia|omega)⟩
theorem spot_in {R:List (List (GE α))} (hR:∀ r∈R,∀ e∈r,GeOk F e) {v n:Nat} {r:List (GE α)} (er:R[v]?=some r) (hn:n < r.length):∃ q S1 S2,sortR (spotsB 0 (valsP R))=S1++[q,(v:Int),(n:Int)]::S2:=by
 have sv:=sort_voice (valsP R) (vals_pos hR) v (r.map gv) (by rw [List.getElem?_map,er]; rfl)
 obtain ⟨q,e⟩:=spotsR_get (v:Int) (r.map gv) 0 0 n (by rw [List.length_map]; exact hn)
 rw [Int.zero_add] at e
 have m:[q,(v:Int),(n:Int)]∈sortR (spotsB 0 (valsP R)):=by
  have:[q,(v:Int),(n:Int)]∈(sortR (spotsB 0 (valsP R))).filter fun s=>vof s == (v:Int):=by
   rw [sv]
   exact List.mem_of_getElem? e
  exact (List.mem_filter.mp this).1
 obtain ⟨S1,S2,h⟩:=List.append_of_mem m
 exact ⟨q,S1,S2,h⟩
theorem row_at {R:List (List (GE α))} (hR:∀ r∈R,∀ e∈r,GeOk F e) (ah:List (Sum Int Str×D)) {v n:Nat} {r:List (GE α)} {e:GE α} (er:R[v]?=some r) (ee:r[n]?=some e):∃ T kds,((barT F R ah).rows.getD v [])[n]?=some (gEv F T kds e):=by
 obtain ⟨q,S1,S2,h⟩:=spot_in hR er (List.getElem?_eq_some_iff.mp ee).1
 have t:=tr_all hR S1 [] ([q,(v:Int),(n:Int)]::S2) (bar0 R ah) (by rw [List.nil_append]; exact h) (tr_0 R ah)
 rw [List.nil_append] at t
 have ht:barT F R ah=([q,(v:Int),(n:Int)]::S2).foldl (stepS F R) (S1.foldl (stepS F R) (bar0 R ah)):=by
  unfold barT
  rw [h,List.foldl_append]
 exact ⟨_,_,(row_end hR h t ht rfl er ee).1⟩
end
structure H3 where
 m:Nat
 o:Int
 s:Option Int
noncomputable def sD:Option Int→D
 | none=>.non
 | some n=>.int n
noncomputable def h3D (h:H3):D:=.tup [.str (fcg h.m),.int h.o,sD h.s]
noncomputable def kyM (m:Nat) (o:Int):List (Sum Int Str):=[.inr (fcg m),.inl o]
noncomputable def byM (kds:Kd) (m:Nat) (o k:Int):Int:=match look (kyM m o) kds with|some (.int n)=>n|_=>ownN m k
noncomputable def pcK (kds:Kd) (h:H3):Kd:=match h.s with|some n=>putM (kyM h.m h.o) (.int n) kds|none=>kds
noncomputable def pcP (k:Int) (kds:Kd) (h:H3):Int:=12 * h.o+grd h.m+byM (pcK kds h) h.m h.o k
noncomputable def pcsK:Kd→List H3→Kd
 | kds,[]=>kds
 | kds,h::hs=>pcsK (pcK kds h) hs
noncomputable def pcsP (k:Int):Kd→List H3→List Int
 | _,[]=>[]
 | kds,h::hs=>pcP k kds h::pcsP k (pcK kds h) hs
theorem pcK_KI {kds:Kd} (hk:KI kds) (h:H3):KI (pcK kds h)∧(pcK kds h).length ≤ kds.length+1:=by
 unfold pcK
 cases h.s with
 | none=>exact ⟨hk,by simp⟩
 | some n=>exact putM_KI hk _ _
theorem pcsK_KI:∀ (hs:List H3) (kds:Kd),KI kds→KI (pcsK kds hs)∧(pcsK kds hs).length ≤ kds.length+hs.length
 | [],kds,h=>⟨h,by simp [pcsK]⟩
 | x::hs,kds,h=>by
  obtain ⟨a,b⟩:=pcK_KI h x
  obtain ⟨c,d⟩:=pcsK_KI hs _ a
  exact ⟨c,by rw [pcsK,List.length_cons]; (first|lia|omega)⟩
theorem kyM_ok (m:Nat) (o:Int):keysOf [.str (fcg m),.int o]=some (kyM m o):=rfl
theorem getM_eq {kds:Kd} (h:KI kds) (m:Nat) (o k:Int):getT kds (kyM m o) (.fz (.int (ownN m k)))=.ok (.fz (.int (byM kds m o k))):=by
 unfold getT byM
 rcases look_KI h (kyM m o) with e|⟨n,e⟩ <;> rw [e]
theorem byM_eq {kds:Kd} (h:KI kds) (m:Nat) (hm:m < 7) (o k:Int) (w:En) (hw:w=.br (.dT kds)∨w=.fz (.dT kds)):D_alter_by_then [.fz (.str (fcg m)),.fz (.int o),w,.fz (.int k)]=.ok (.fz (.int (byM kds m o k))):=by
 have hz:sz=16777216:=rfl
 have g:=getM_eq h m o k
 have oq:=own_eq m hm k
 unfold D_alter_by_then B_alter_by_then
 rw [x_den]
 show fin ((sRet (eGetT (eVar 2) [(eVar 0),(eVar 1)] (eCall D_own_alter [(eVar 0),(eVar 3)]))) [some (.fz (.str (fcg m))),some (.fz (.int o)),some w,some (.fz (.int k))])=_
 have e:eGetT (eVar 2) [(eVar 0),(eVar 1)] (eCall D_own_alter [(eVar 0),(eVar 3)]) [some (.fz (.str (fcg m))),some (.fz (.int o)),some w,some (.fz (.int k))]=.ok (.fz (.int (byM kds m o k))):=by
  have ve:(eVar 2) [some (.fz (.str (fcg m))),some (.fz (.int o)),some w,some (.fz (.int k))]=.ok w:=by rcases hw with z|z <;> (subst z; rfl)
  have oe:(eCall D_own_alter [(eVar 0),(eVar 3)]) [some (.fz (.str (fcg m))),some (.fz (.int o)),some w,some (.fz (.int k))]=.ok (.fz (.int (ownN m k))):=by simp only [EV,Nat.reduceAdd,Nat.reduceSub,Nat.reduceLeDiff,oq]
  have wd:w.d=.dT kds:=by rcases hw with z|z <;> (subst z; rfl)
  unfold eGetT
  rw [ve,R.bind_ok,wd]
  show (R.ok [En.fz (.str (fcg m)),.fz (.int o)]).bind _=_
  rw [R.bind_ok]
  show keyIf (keysOf [.str (fcg m),.int o]) _=_
  rw [kyM_ok]
  unfold keyIf
  dsimp only
  rw [if_pos (by show 2 ≤ sz; (first|lia|omega)),oe,R.bind_ok,g]
 rw [x_ret,e]
 rfl
theorem pitch_eq (m:Nat) (hm:m < 7) (al o:Int):D_pitch_of [.fz (.tup [.str (fcg m),.int al,.int o])]=.ok (.fz (.int (12 * o+grd m+al))):=by
 obtain ⟨_,_,c,_⟩:=fcg_ok m hm
 unfold D_pitch_of B_pitch_of
 simp only [EV,Nat.reduceAdd,Nat.reduceSub,Nat.reduceLeDiff,c,x_mull (i:=12) (j:=o) (by decide) (by decide)]
theorem isNot_non:dIsNot2 .non .non=.ok (.fz (.bl false)):=rfl
theorem isNot_int (n:Int):dIsNot2 (.int n) .non=.ok (.fz (.bl true)):=rfl
theorem isNot_tup (xs:List D):dIsNot2 (.tup xs) .non=.ok (.fz (.bl true)):=rfl
noncomputable abbrev bodyP:SF:=(sSeq (sSet 6 (eOp dIxS (eVar 5) (eC (.int 0))))
 (sSeq (sSet 7 (eOp dIxS (eVar 5) (eC (.int 1))))
 (sSeq (sIf (tE (eOp dIsNot2 (eOp dIxS (eVar 5) (eC (.int 2))) (eC .non))) (sPutI 2 [(eVar 6),(eVar 7)] (eOp dIxS (eVar 5) (eC (.int 2)))) sNext)
 (sApp 4 (eCall D_pitch_of [(eTup [(eVar 6),(eCall D_alter_by_then [(eVar 6),(eVar 7),(eVarI 2),(eVar 3)]),(eVar 7)])])))))
theorem pitches_go (a:Addr) (k:Int) (R0 R1:Option En):∀ (hs:List H3) (kds:Kd) (acc:List Int) (j5 j6 j7:Option En),(∀ h∈hs,h.m < 7)→KI kds→kds.length+hs.length ≤ 10000→acc.length+hs.length ≤ 10000→∃ i5 i6 i7:Option En,
  forD (gV 5) bodyP (hs.map h3D) [R0,R1,some (ioD a (.dT kds)),some (.fz (.int k)),some (.ow (.lst (acc.map D.int))),j5,j6,j7]
  = .nx [R0,R1,some (ioD a (.dT (pcsK kds hs))),some (.fz (.int k)),some (.ow (.lst ((acc++pcsP k kds hs).map D.int))),i5,i6,i7]:=by
 have hz:sz=16777216:=rfl
 intro hs
 induction hs with
 | nil=>intro kds acc j5 j6 j7 _ _ _ _; exact ⟨j5,j6,j7,by simp [pcsK,pcsP,x_forD_nil]⟩
 | cons h hs ih =>
  intro kds acc j5 j6 j7 hm hk hl ha
  rw [List.length_cons] at hl ha
  obtain ⟨k1,k2⟩:=pcK_KI hk h
  have h7:=hm h (by simp)
  obtain ⟨i5,i6,i7,e⟩:=ih (pcK kds h) (acc++[pcP k kds h]) (some (.fz (h3D h))) (some (.fz (.str (fcg h.m)))) (some (.fz (.int h.o))) (fun x hx=>hm x (List.mem_cons_of_mem _ hx)) k1 (by (first|lia|omega)) (by rw [List.length_append]; simp; (first|lia|omega))
  refine ⟨i5,i6,i7,?_⟩
  rw [List.map_cons,x_forD (x_gV)]
  simp only [List.set_cons_zero,List.set_cons_succ]
  have be:=byM_eq k1 h.m h7 h.o k (.br (.dT (pcK kds h))) (.inl rfl)
  have pe:=pitch_eq h.m h7 (byM (pcK kds h) h.m h.o k) h.o
  have ap:∀ A B C:Option En,(sApp 4 (eCall D_pitch_of [(eTup [(eVar 6),(eCall D_alter_by_then [(eVar 6),(eVar 7),(eVarI 2),(eVar 3)]),(eVar 7)])])) [R0,R1,some (ioD a (.dT (pcK kds h))),some (.fz (.int k)),some (.ow (.lst (acc.map D.int))),A,some (.fz (.str (fcg h.m))),some (.fz (.int h.o))]=.nx [R0,R1,some (ioD a (.dT (pcK kds h))),some (.fz (.int k)),some (.ow (.lst ((acc++[pcP k kds h]).map D.int))),A,some (.fz (.str (fcg h.m))),some (.fz (.int h.o))]:=fun A B C=>by
   have vi:(eVarI 2) [R0,R1,some (ioD a (.dT (pcK kds h))),some (.fz (.int k)),some (.ow (.lst (acc.map D.int))),A,some (.fz (.str (fcg h.m))),some (.fz (.int h.o))]=.ok (.br (.dT (pcK kds h))):=x_varI (a:=(a:Int)) rfl
   rw [x_app (xs:=acc.map D.int) (d:=.int (pcP k kds h)) rfl (by rw [List.length_map]; (first|lia|omega)) (by simp only [EV,Nat.reduceAdd,Nat.reduceSub,Nat.reduceLeDiff,vi,be,pe,pcP])]
   simp only [EV,Nat.reduceAdd,Nat.reduceSub,Nat.reduceLeDiff,List.map_append]
  have bd:bodyP [R0,R1,some (ioD a (.dT kds)),some (.fz (.int k)),some (.ow (.lst (acc.map D.int))),some (.fz (h3D h)),j6,j7]=.nx [R0,R1,some (ioD a (.dT (pcK kds h))),some (.fz (.int k)),some (.ow (.lst ((acc++[pcP k kds h]).map D.int))),some (.fz (h3D h)),some (.fz (.str (fcg h.m))),some (.fz (.int h.o))]:=by
   have x0:dIxS (h3D h) (.int 0)=.ok (.fz (.str (fcg h.m))):=rfl
   have x1:dIxS (h3D h) (.int 1)=.ok (.fz (.int h.o)):=rfl
   have x2:dIxS (h3D h) (.int 2)=.ok (.fz (sD h.s)):=rfl
   have s6:(sSet 6 (eOp dIxS (eVar 5) (eC (.int 0)))) [R0,R1,some (ioD a (.dT kds)),some (.fz (.int k)),some (.ow (.lst (acc.map D.int))),some (.fz (h3D h)),j6,j7]=.nx [R0,R1,some (ioD a (.dT kds)),some (.fz (.int k)),some (.ow (.lst (acc.map D.int))),some (.fz (h3D h)),some (.fz (.str (fcg h.m))),j7]:=by simp only [EV,Nat.reduceAdd,Nat.reduceSub,Nat.reduceLeDiff,x0]
   have s7:(sSet 7 (eOp dIxS (eVar 5) (eC (.int 1)))) [R0,R1,some (ioD a (.dT kds)),some (.fz (.int k)),some (.ow (.lst (acc.map D.int))),some (.fz (h3D h)),some (.fz (.str (fcg h.m))),j7]=.nx [R0,R1,some (ioD a (.dT kds)),some (.fz (.int k)),some (.ow (.lst (acc.map D.int))),some (.fz (h3D h)),some (.fz (.str (fcg h.m))),some (.fz (.int h.o))]:=by simp only [EV,Nat.reduceAdd,Nat.reduceSub,Nat.reduceLeDiff,x1]
   have s8:(sIf (tE (eOp dIsNot2 (eOp dIxS (eVar 5) (eC (.int 2))) (eC .non))) (sPutI 2 [(eVar 6),(eVar 7)] (eOp dIxS (eVar 5) (eC (.int 2)))) sNext) [R0,R1,some (ioD a (.dT kds)),some (.fz (.int k)),some (.ow (.lst (acc.map D.int))),some (.fz (h3D h)),some (.fz (.str (fcg h.m))),some (.fz (.int h.o))]=.nx [R0,R1,some (ioD a (.dT (pcK kds h))),some (.fz (.int k)),some (.ow (.lst (acc.map D.int))),some (.fz (h3D h)),some (.fz (.str (fcg h.m))),some (.fz (.int h.o))]:=by
    rw [x_if]
    unfold pcK
    cases hs2:h.s with
    | none =>
     rw [hs2] at x2
     simp only [EV,Nat.reduceAdd,Nat.reduceSub,Nat.reduceLeDiff,x2,sD,isNot_non]
    | some n =>
     rw [hs2] at x2
     have tt:(tE (eOp dIsNot2 (eOp dIxS (eVar 5) (eC (.int 2))) (eC .non))) [R0,R1,some (ioD a (.dT kds)),some (.fz (.int k)),some (.ow (.lst (acc.map D.int))),some (.fz (h3D h)),some (.fz (.str (fcg h.m))),some (.fz (.int h.o))]=.ok true:=by simp only [EV,Nat.reduceAdd,Nat.reduceSub,Nat.reduceLeDiff,x2,sD,isNot_int]
     rw [tt,x_of_ok,x_pickS_t,x_putI (a:=(a:Int)) (kds:=kds) (d:=.int n) (ws:=[.fz (.str (fcg h.m)),.fz (.int h.o)]) (q:=kyM h.m h.o) rfl (by simp only [EV,Nat.reduceAdd,Nat.reduceSub,Nat.reduceLeDiff,x2,sD]) rfl (kyM_ok h.m h.o) (by (first|lia|omega)) (by show 2 ≤ sz; (first|lia|omega))]
     rfl
   unfold bodyP
   rw [x_seq,s6,x_th_nx,x_seq,s7,x_th_nx,x_seq,s8,x_th_nx,ap _ none none]
  rw [bd,x_turn_nx,e,pcsK,pcsP,List.append_assoc]
  rfl
theorem pitches_eq2 (a:Addr) (k:Int) (hs:List H3) (hm:∀ h∈hs,h.m < 7) (kds:Kd) (hk:KI kds) (hl:kds.length+hs.length ≤ 10000) :
  D_pitches_of [.fz (.tup (hs.map h3D)),.fz .non,ioD a (.dT kds),.fz (.int k)]=.ok (.od (.tup [.int (a:Int),.dT (pcsK kds hs),.tup ((pcsP k kds hs).map D.int)])):=by
 obtain ⟨i5,i6,i7,h⟩:=pitches_go a k (some (.fz (.tup (hs.map h3D)))) (some (.fz .non)) hs kds [] none none none hm hk hl (by simp; (first|lia|omega))
 rw [List.nil_append] at h
 unfold D_pitches_of B_pitches_of
 rw [x_den]
 show fin (sSeq (sIf _ _ sNext) _ [some (.fz (.tup (hs.map h3D))),some (.fz .non),some (ioD a (.dT kds)),some (.fz (.int k)),none,none,none,none])=_
 simp only [EV,Nat.reduceAdd,Nat.reduceSub,Nat.reduceLeDiff,isNot_non]
 have it:iV 0 [some (.fz (.tup (hs.map h3D))),some (.fz .non),some (ioD a (.dT kds)),some (.fz (.int k)),some (.ow (.lst [])),none,none,none]=.ok (hs.map h3D):=rfl
 have h:forD (gV 5) bodyP (hs.map h3D) [some (.fz (.tup (hs.map h3D))),some (.fz .non),some (ioD a (.dT kds)),some (.fz (.int k)),some (.ow (.lst [])),none,none,none]=_:=h
 rw [it,x_of_ok,h,x_th_nx,x_retI (a:=(a:Int)) (d:=.dT (pcsK kds hs)) (g:=.tup ((pcsP k kds hs).map D.int)) rfl (by simp only [EV,Nat.reduceAdd,Nat.reduceSub,Nat.reduceLeDiff])]
 rfl
theorem pitches_tied (a:Addr) (k:Int) (x:D) (xs:List D) (kds:Kd) :
  D_pitches_of [.fz x,.fz (.tup xs),ioD a (.dT kds),.fz (.int k)]=.ok (.od (.tup [.int (a:Int),.dT kds,.tup xs])):=by
 unfold D_pitches_of B_pitches_of
 rw [x_den]
 show fin (sSeq (sIf _ _ sNext) _ [some (.fz x),some (.fz (.tup xs)),some (ioD a (.dT kds)),some (.fz (.int k)),none,none,none,none])=_
 simp only [EV,Nat.reduceAdd,Nat.reduceSub,Nat.reduceLeDiff,isNot_tup]
 rw [x_retI (a:=(a:Int)) (d:=.dT kds) (g:=.tup xs) rfl (by simp only [EV,Nat.reduceAdd,Nat.reduceSub,Nat.reduceLeDiff])]
 rfl
theorem x_iov2a {j:Nat} {x1 x2:Str} {d1 d2:Den} {i:Nat} {pre post:List EF} {ρ:Rho} {r:R (D×Rho)} (h:fnOf ρ[j]?=some x1) (e:eIO d1 i pre post ρ=r):eIOV2 j x1 d1 x2 d2 i pre post ρ=r:=by
 unfold eIOV2
 rw [h]
 dsimp only
 rw [if_pos rfl]
 exact e
theorem x_iov2b {j:Nat} {x1 x2:Str} {d1 d2:Den} {i:Nat} {pre post:List EF} {ρ:Rho} {r:R (D×Rho)} (ne:x2≠x1) (h:fnOf ρ[j]?=some x2) (e:eIO d2 i pre post ρ=r):eIOV2 j x1 d1 x2 d2 i pre post ρ=r:=by
 unfold eIOV2
 rw [h]
 dsimp only
 rw [if_neg ne,if_pos rfl]
 exact e
noncomputable abbrev io0:IOF:=eIOV2 2 "heads_of" D_heads_of "pitches_of" D_pitches_of 6 [(eOp dIxS (eVar 10) (eC (.int 2))),(eVar 11)] [(eVar 1)]
noncomputable def isT:D→Bool
 | .non=>false
 | _=>true
noncomputable def FH (k:Int):TF (List Int):=⟨fun ps=>.tup (ps.map D.int),fun ps T kds=>.tup (hdsH (isT T) k kds ps),fun ps T kds=>hdsK (isT T) k kds ps,PsOk⟩
theorem FH_ok (k:Int):TurnOk (FH k) k (dFn "heads_of") io0 where
 run:=fun R0 told A ah br kds rows v va x t T hx hT hk hl=>by
  have hn:dIsN2 T .non=.ok (.fz (.bl (!isT T))):=by rcases hT with z|⟨hs,z⟩ <;> (subst z; rfl)
  have io:=ioVal_eq (dn:=D_heads_of) (pre:=[.fz (.tup (x.map D.int)),.fz T]) (d:=.dT kds) (post:=[.fz (.int k)]) (fun a=>heads_eq a T (isT T) k hn x kds hk (by have:x.length ≤ 3:=hx.2.1; (first|lia|omega)))
  have ie:=x_io (dn:=D_heads_of) (i:=6) (pre:=[(eOp dIxS (eVar 10) (eC (.int 2))),(eVar 11)]) (post:=[(eVar 1)]) (ρ:=[R0,some (.fz (.int k)),some (.fz (dFn "heads_of")),told,some (.ow (.dK ah)),some (.fz br),some (.ow (.dT kds)),some (.od rows),A,some (.fz (.int v)),some (.fz (geD (FH k) (.note va x t))),some (.fz T)]) (d:=.dT kds) (ws:=[.fz (.tup (x.map D.int)),.fz T]) (ws2:=[.fz (.int k)]) rfl rfl rfl rfl rfl rfl io
  exact x_iov2a rfl ie
 ki:=fun x T kds hx hT hk=>by
  obtain ⟨a,b⟩:=hdsK_KI (isT T) k x kds hk
  have:x.length ≤ 3:=hx.2.1
  exact ⟨a,by show (hdsK (isT T) k kds x).length ≤ _; (first|lia|omega)⟩
 tp:=fun x T kds _ _ _=>⟨_,rfl⟩
noncomputable def FP (k:Int):TF (List H3):=⟨fun hs=>.tup (hs.map h3D),fun hs T kds=>if isT T=true then T else .tup ((pcsP k kds hs).map D.int),fun hs T kds=>if isT T=true then kds else pcsK kds hs,fun hs=>hs.length ≤ 3∧∀ h∈hs,h.m < 7⟩
theorem FP_ok (k:Int):TurnOk (FP k) k (dFn "pitches_of") io0 where
 run:=fun R0 told A ah br kds rows v va x t T hx hT hk hl=>by
  have io:ioVal D_pitches_of [.fz (.tup (x.map h3D)),.fz T] (.dT kds) [.fz (.int k)]=.ok (.dT ((FP k).fk x T kds),(FP k).fx x T kds):=by
   rcases hT with z|⟨hs,z⟩
   ·subst z
    exact ioVal_eq (dn:=D_pitches_of) (pre:=[.fz (.tup (x.map h3D)),.fz .non]) (d:=.dT kds) (post:=[.fz (.int k)]) (fun a=>pitches_eq2 a k x hx.2 kds hk (by have:=hx.1; (first|lia|omega)))
   ·subst z
    exact ioVal_eq (dn:=D_pitches_of) (pre:=[.fz (.tup (x.map h3D)),.fz (.tup hs)]) (d:=.dT kds) (post:=[.fz (.int k)]) (fun a=>pitches_tied a k (.tup (x.map h3D)) hs kds)
  have ie:=x_io (dn:=D_pitches_of) (i:=6) (pre:=[(eOp dIxS (eVar 10) (eC (.int 2))),(eVar 11)]) (post:=[(eVar 1)]) (ρ:=[R0,some (.fz (.int k)),some (.fz (dFn "pitches_of")),told,some (.ow (.dK ah)),some (.fz br),some (.ow (.dT kds)),some (.od rows),A,some (.fz (.int v)),some (.fz (geD (FP k) (.note va x t))),some (.fz T)]) (d:=.dT kds) (ws:=[.fz (.tup (x.map h3D)),.fz T]) (ws2:=[.fz (.int k)]) rfl rfl rfl rfl rfl (by rcases hT with z|⟨hs,z⟩ <;> (subst z; rfl)) io
  exact x_iov2b (by decide) rfl ie
 ki:=fun x T kds hx hT hk=>by
  show KI (if isT T=true then kds else pcsK kds x)∧(if isT T=true then kds else pcsK kds x).length ≤ _
  split
  ·exact ⟨hk,by (first|lia|omega)⟩
  ·obtain ⟨a,b⟩:=pcsK_KI x kds hk
   exact ⟨a,by have:=hx.1; (first|lia|omega)⟩
 tp:=fun x T kds hx hT hk=>by
  show ∃ hs,(if isT T=true then T else .tup ((pcsP k kds x).map D.int))=.tup hs
  rcases hT with z|⟨hs,z⟩
  ·subst z; exact ⟨_,rfl⟩
  ·subst z; exact ⟨hs,rfl⟩
theorem look_selfT {q:List (Sum Int Str)} {d:D}:∀ (l:Kd),look q (putM q d l)=some d:=by
 intro l
 have mp:∀ l:Kd,(l.any fun kv=>decide (kv.1=q))=true→look q (l.map fun kv=>if kv.1=q then (kv.1,d) else kv)=some d:=by
  intro l
  induction l with
  | nil=>intro h; cases h
  | cons kv r ih =>
   intro h
   obtain ⟨x,y⟩:=kv
   rw [List.map_cons]
   by_cases c:x=q
   ·rw [if_pos c]
    unfold look
    rw [if_pos c]
   ·rw [if_neg c]
    unfold look
    rw [if_neg c]
    rw [List.any_cons,show decide ((x,y).1=q)=false from by simpa using c,Bool.false_or] at h
    exact ih h
 have ap:∀ l:Kd,(l.any fun kv=>decide (kv.1=q))=false→look q (l++[(q,d)])=some d:=by
  intro l
  induction l with
  | nil=>intro _; simp [look]
  | cons kv r ih =>
   intro h
   obtain ⟨x,y⟩:=kv
   rw [List.any_cons,Bool.or_eq_false_iff] at h
   have xq:x≠q:=by simpa using h.1
   rw [List.cons_append]
   unfold look
   rw [if_neg xq]
   exact ih h.2
 unfold putM
 cases c:(l.any fun kv=>decide (kv.1=q))
 ·rw [if_neg (by simp)]; exact ap l c
 ·rw [if_pos rfl]; exact mp l c
theorem p_round (p k:Int):12 * ocN p k+grd (ltN p k)+alN p k=p:=by
 have h1:(7 * p - ffN p k) % 12=0:=by unfold ffN; (first|lia|omega)
 have h2:ffN p k+1=7 * alN p k+(ltN p k:Int):=by rw [ltN_at]; unfold alN; (first|lia|omega)
 have h3:=ltN_lt p k
 unfold ocN
 generalize alN p k=a at *
 generalize ffN p k=f at *
 generalize ltN p k=m at *
 match m,h3 with
 | 0,_=>show 12 * ((p - 5 - a) / 12)+5+a=p; (first|lia|omega)
 | 1,_=>show 12 * ((p - 0 - a) / 12)+0+a=p; (first|lia|omega)
 | 2,_=>show 12 * ((p - 7 - a) / 12)+7+a=p; (first|lia|omega)
 | 3,_=>show 12 * ((p - 2 - a) / 12)+2+a=p; (first|lia|omega)
 | 4,_=>show 12 * ((p - 9 - a) / 12)+9+a=p; (first|lia|omega)
 | 5,_=>show 12 * ((p - 4 - a) / 12)+4+a=p; (first|lia|omega)
 | 6,_=>show 12 * ((p - 11 - a) / 12)+11+a=p; (first|lia|omega)
 | n+7,h=>(first|lia|omega)
noncomputable def hd3 (kds:Kd) (go:Bool) (p k:Int):H3:=⟨ltN p k,ocN p k,if wr kds go p k=true then some (alN p k) else none⟩
theorem hd3_D (kds:Kd) (go:Bool) (p k:Int):h3D (hd3 kds go p k)=hdH kds go p k:=by
 unfold h3D hd3 hdH
 cases c:wr kds go p k <;> rfl
theorem hd3_K (kds:Kd) (go:Bool) (p k:Int):pcK kds (hd3 kds go p k)=hdK kds go p k:=by
 unfold pcK hd3 hdK
 cases c:wr kds go p k <;> rfl
theorem hd3_P (kds:Kd) (p k:Int) (hk:KI kds):pcP k kds (hd3 kds false p k)=p:=by
 unfold pcP
 rw [hd3_K]
 show 12 * ocN p k+grd (ltN p k)+byM (hdK kds false p k) (ltN p k) (ocN p k) k=p
 have b:byM (hdK kds false p k) (ltN p k) (ocN p k) k=alN p k:=by
  unfold hdK
  cases c:wr kds false p k
  ·rw [if_neg (by simp)]
   have e:(byN kds p k == alN p k)=true:=by
    unfold wr at c
    simpa using c
   have e2:byN kds p k=alN p k:=by simpa using e
   exact e2
  ·rw [if_pos rfl]
   unfold byM
   rw [show kyM (ltN p k) (ocN p k)=kyN p k from rfl,look_selfT]
 rw [b]
 exact p_round p k
noncomputable def hds3 (go:Bool) (k:Int):Kd→List Int→List H3
 | _,[]=>[]
 | kds,p::ps=>hd3 kds go p k::hds3 go k (hdK kds go p k) ps
theorem hds3_D (go:Bool) (k:Int):∀ (ps:List Int) (kds:Kd),(hds3 go k kds ps).map h3D=hdsH go k kds ps
 | [],_=>rfl
 | p::ps,kds=>by rw [hds3,hdsH,List.map_cons,hd3_D,hds3_D go k ps]
theorem hds3_ok (go:Bool) (k:Int):∀ (ps:List Int) (kds:Kd),(hds3 go k kds ps).length=ps.length∧∀ h∈hds3 go k kds ps,h.m < 7
 | [],_=>⟨rfl,fun _ h=>by cases h⟩
 | p::ps,kds=>by
  obtain ⟨a,b⟩:=hds3_ok go k ps (hdK kds go p k)
  refine ⟨by rw [hds3,List.length_cons,List.length_cons,a],fun h hh=>?_⟩
  rcases List.mem_cons.mp hh with z|z
  ·subst z; exact ltN_lt p k
  ·exact b h z
theorem round_eq (k:Int):∀ (ps:List Int) (kds:Kd),KI kds→pcsP k kds (hds3 false k kds ps)=ps∧pcsK kds (hds3 false k kds ps)=hdsK false k kds ps
 | [],_,_=>⟨rfl,rfl⟩
 | p::ps,kds,hk=>by
  obtain ⟨a,b⟩:=round_eq k ps (hdK kds false p k) (hdK_KI hk false p k).1
  rw [hds3,pcsP,pcsK,hd3_P kds p k hk,hd3_K,a,b,hdsK]
  exact ⟨rfl,rfl⟩
theorem go_K (k:Int):∀ (ps:List Int) (kds:Kd),hdsK true k kds ps=kds
 | [],_=>rfl
 | p::ps,kds=>by
  rw [hdsK,show hdK kds true p k=kds from rfl]
  exact go_K k ps kds
noncomputable def letX (x:Str):Nat:=if x=fcg 0 then 0 else if x=fcg 1 then 1 else if x=fcg 2 then 2 else if x=fcg 3 then 3 else if x=fcg 4 then 4 else if x=fcg 5 then 5 else 6
theorem letX_ok:∀ m:Nat,m < 7→letX (fcg m)=m
 | 0,_=>by decide
 | 1,_=>by decide
 | 2,_=>by decide
 | 3,_=>by decide
 | 4,_=>by decide
 | 5,_=>by decide
 | 6,_=>by decide
 | n+7,h=>absurd h (by (first|lia|omega))
noncomputable def decH:D→H3
 | .tup [.str x,.int o,.int n]=>⟨letX x,o,some n⟩
 | .tup [.str x,.int o,_]=>⟨letX x,o,none⟩
 | _=>⟨0,0,none⟩
theorem decH_ok (h:H3) (hm:h.m < 7):decH (h3D h)=h:=by
 obtain ⟨m,o,s⟩:=h
 have e:=letX_ok m hm
 cases s with
 | none=>show (⟨letX (fcg m),o,none⟩:H3)=_; rw [e]
 | some n=>show (⟨letX (fcg m),o,some n⟩:H3)=_; rw [e]
noncomputable def dec:D→GE (List H3)
 | .tup [_,.int v]=>.rest v
 | .tup [_,.int v,.tup hs,.bl t]=>.note v (hs.map decH) t
 | _=>.rest 0
noncomputable def hEv (k:Int) (T:D) (kds:Kd):GE (List Int)→GE (List H3)
 | .rest v=>.rest v
 | .note v ps t=>.note v (hds3 (isT T) k kds ps) t
theorem dec_ev (k:Int) (T:D) (kds:Kd) (e:GE (List Int)):dec (gEv (FH k) T kds e)=hEv k T kds e:=by
 cases e with
 | rest v=>rfl
 | note v ps t =>
  show GE.note v ((hdsH (isT T) k kds ps).map decH) t=GE.note v (hds3 (isT T) k kds ps) t
  rw [← hds3_D,List.map_map]
  congr 1
  have:∀ l:List H3,(∀ h∈l,h.m < 7)→l.map (decH ∘ h3D)=l:=by
   intro l
   induction l with
   | nil=>intro _; rfl
   | cons a l ih =>
    intro h
    rw [List.map_cons,ih fun x hx=>h x (List.mem_cons_of_mem _ hx)]
    show decH (h3D a)::l=_
    rw [decH_ok a (h a (by simp))]
  exact this _ (hds3_ok (isT T) k ps kds).2
theorem hEv_D (k:Int) (T:D) (kds:Kd) (e:GE (List Int)):geD (FP k) (hEv k T kds e)=gEv (FH k) T kds e:=by
 cases e with
 | rest v=>rfl
 | note v ps t =>
  show D.tup [.str "note",.int v,.tup ((hds3 (isT T) k kds ps).map h3D),.bl t]=_
  rw [hds3_D]
  rfl
theorem hEv_gv (k:Int) (T:D) (kds:Kd) (e:GE (List Int)):gv (hEv k T kds e)=gv e:=by cases e <;> rfl
theorem hEv_ok (k:Int) (T:D) (kds:Kd) (e:GE (List Int)) (h:GeOk (FH k) e):GeOk (FP k) (hEv k T kds e):=by
 cases e with
 | rest v=>exact h
 | note v ps t =>
  have h2:PsOk ps:=h.2
  have l3:ps.length ≤ 3:=h2.2.1
  obtain ⟨a,b⟩:=hds3_ok (isT T) k ps kds
  exact ⟨h.1,by (first|lia|omega),b⟩
noncomputable def Qof (k:Int) (R:List (List (GE (List Int)))) (ah:List (Sum Int Str×D)):List (List (GE (List H3))):=(barT (FH k) R ah).rows.map (·.map dec)
theorem Q_row {k:Int} {R:List (List (GE (List Int)))} (hR:∀ r∈R,∀ e∈r,GeOk (FH k) e) (ah:List (Sum Int Str×D)) {v:Nat} {r:List (GE (List Int))} (er:R[v]?=some r) :
  ∃ row:List D,(barT (FH k) R ah).rows[v]?=some row∧row.length=r.length∧(Qof k R ah)[v]?=some (row.map dec)∧∀ (n:Nat) (e:GE (List Int)),r[n]?=some e→∃ T kds,row[n]?=some (gEv (FH k) T kds e):=by
 obtain ⟨a,b⟩:=bar_len hR ah
 have hv:v < (barT (FH k) R ah).rows.length:=by rw [a]; exact (List.getElem?_eq_some_iff.mp er).1
 have e1:(barT (FH k) R ah).rows[v]?=some ((barT (FH k) R ah).rows[v]):=List.getElem?_eq_getElem hv
 have gd:(barT (FH k) R ah).rows.getD v []=(barT (FH k) R ah).rows[v]:=by rw [List.getD_eq_getElem?_getD,e1]; rfl
 refine ⟨_,e1,by rw [← gd]; exact (b v r er).1,by unfold Qof; rw [List.getElem?_map,e1]; rfl,fun n e ee=>?_⟩
 obtain ⟨T,kds,f⟩:=row_at hR ah er ee
 rw [gd] at f
 exact ⟨T,kds,f⟩
theorem Q_len {k:Int} {R:List (List (GE (List Int)))} (hR:∀ r∈R,∀ e∈r,GeOk (FH k) e) (ah:List (Sum Int Str×D)):(Qof k R ah).length=R.length:=by
 unfold Qof
 rw [List.length_map,(bar_len hR ah).1]
theorem Q_at {k:Int} {R:List (List (GE (List Int)))} (hR:∀ r∈R,∀ e∈r,GeOk (FH k) e) (ah:List (Sum Int Str×D)) {v n:Nat} {r:List (GE (List Int))} {d:D} (er:R[v]?=some r) (hd:((barT (FH k) R ah).rows.getD v [])[n]?=some d):∃ rq,(Qof k R ah)[v]?=some rq∧rq[n]?=some (dec d):=by
 obtain ⟨row,e1,_,e3,_⟩:=Q_row hR ah er
 refine ⟨row.map dec,e3,?_⟩
 rw [List.getD_eq_getElem?_getD,e1] at hd
 rw [List.getElem?_map,show row[n]?=some d from hd]
 rfl
theorem Q_vals {k:Int} {R:List (List (GE (List Int)))} (hR:∀ r∈R,∀ e∈r,GeOk (FH k) e) (ah:List (Sum Int Str×D)):valsP (Qof k R ah)=valsP R:=by
 apply List.ext_getElem?
 intro v
 show ((Qof k R ah).map (·.map gv))[v]?=(R.map (·.map gv))[v]?
 rw [List.getElem?_map,List.getElem?_map]
 cases er:R[v]? with
 | none =>
  have:(Qof k R ah)[v]?=none:=by
   rw [List.getElem?_eq_none_iff] at er ⊢
   rw [Q_len hR ah]
   exact er
  rw [this]
  rfl
 | some r =>
  obtain ⟨row,e1,e2,e3,e4⟩:=Q_row hR ah er
  rw [e3]
  show some ((row.map dec).map gv)=some (r.map gv)
  congr 1
  apply List.ext_getElem?
  intro n
  rw [List.getElem?_map,List.getElem?_map,List.getElem?_map]
  cases ee:r[n]? with
  | none =>
   have:row[n]?=none:=by
    rw [List.getElem?_eq_none_iff] at ee ⊢
    (first|lia|omega)
   rw [this]
   rfl
  | some e =>
   obtain ⟨T,kds,f⟩:=e4 n e ee
   rw [f]
   show some (gv (dec (gEv (FH k) T kds e)))=some (gv e)
   rw [dec_ev,hEv_gv]
theorem Q_ev {k:Int} {R:List (List (GE (List Int)))} (hR:∀ r∈R,∀ e∈r,GeOk (FH k) e) (ah:List (Sum Int Str×D)) {row:List D} (hm:row∈(barT (FH k) R ah).rows):∃ r∈R,row.length=r.length∧∀ d∈row,∃ T kds,∃ e∈r,d=gEv (FH k) T kds e:=by
 obtain ⟨v,hv,e0⟩:=List.mem_iff_getElem.mp hm
 have hv2:v < R.length:=by rw [← (bar_len hR ah).1]; exact hv
 have er:R[v]?=some R[v]:=List.getElem?_eq_getElem hv2
 obtain ⟨row',e1,e2,e3,e4⟩:=Q_row hR ah er
 have:row'=row:=by
  rw [List.getElem?_eq_getElem hv,e0] at e1
  exact (Option.some.inj e1).symm
 subst this
 refine ⟨R[v],List.getElem_mem hv2,e2,fun d hd=>?_⟩
 obtain ⟨n,hn,en⟩:=List.mem_iff_getElem.mp hd
 have ee:R[v][n]?=some R[v][n]:=List.getElem?_eq_getElem (by (first|lia|omega))
 obtain ⟨T,kds,f⟩:=e4 n _ ee
 rw [List.getElem?_eq_getElem hn,en] at f
 exact ⟨T,kds,R[v][n],List.getElem_mem _,Option.some.inj f⟩
theorem Q_D {k:Int} {R:List (List (GE (List Int)))} (hR:∀ r∈R,∀ e∈r,GeOk (FH k) e) (ah:List (Sum Int Str×D)):grD (FP k) (Qof k R ah)=barD (barT (FH k) R ah):=by
 unfold grD Qof barD
 rw [List.map_map]
 congr 1
 apply List.map_congr_left
 intro row hm
 show D.lst ((row.map dec).map (geD (FP k)))=D.lst row
 rw [List.map_map]
 congr 1
 obtain ⟨r,_,_,h⟩:=Q_ev hR ah hm
 refine Eq.trans (List.map_congr_left (g:=fun d=>d) fun d hd=>?_) (List.map_id' _)
 obtain ⟨T,kds,e,_,z⟩:=h d hd
 subst z
 show geD (FP k) (dec (gEv (FH k) T kds e))=_
 rw [dec_ev,hEv_D]
theorem Q_ok {k:Int} {R:List (List (GE (List Int)))} (h:GBarOk (FH k) R) (ah:List (Sum Int Str×D)):GBarOk (FP k) (Qof k R ah):=by
 have hR:∀ r∈R,∀ e∈r,GeOk (FH k) e:=fun r hr=>(h.2 r hr).1
 refine ⟨by rw [Q_len hR ah]; exact h.1,fun rq hq=>?_⟩
 obtain ⟨row,hm,e0⟩:=List.mem_map.mp hq
 obtain ⟨r,hr,hl,he⟩:=Q_ev hR ah hm
 obtain ⟨a,b,c⟩:=h.2 r hr
 subst e0
 refine ⟨fun x hx=>?_,by rw [List.length_map]; (first|lia|omega),by rw [List.length_map]; (first|lia|omega)⟩
 obtain ⟨d,hd,ed⟩:=List.mem_map.mp hx
 obtain ⟨T,kds,e,me,z⟩:=he d hd
 subst z
 subst ed
 rw [dec_ev]
 exact hEv_ok k T kds e (a e me)
noncomputable def prv (r:List (GE (List Int))) (c:Nat) (o:Option (GE (List Int))):Option (GE (List Int)):=match c with
 | 0=>o
 | c+1=>r[c]?
noncomputable def tieG:Option (GE (List Int))→Bool
 | some e=>tieP e
 | none=>false
theorem reach_prv (r:List (GE (List Int))) (c:Nat) (o:Option (GE (List Int))):reach r c (tieG o)=tieG (prv r c o):=by
 cases c with
 | zero=>rfl
 | succ c =>
  unfold reach prv
  dsimp only
  cases r[c]? <;> rfl
noncomputable def gA:Option (GE (List Int))→Option (List Int)
 | some (.note _ ps true)=>some ps
 | _=>none
noncomputable def TieOk (r:List (GE (List Int))) (o:Option (GE (List Int))):Prop:=∀ (n:Nat) (e:GE (List Int)),r[n]?=some e→∀ ps,gA (prv r n o)=some ps→∃ va t,e=.note va ps t
theorem isT_tied (o:Option D) (h:∀ d,o=some d→TeOk d):isT (tiedD o)=tieO o:=by
 cases o with
 | none=>rfl
 | some d =>
  rcases h d rfl with ⟨v,e⟩|⟨v,hs,t,e⟩
  ·subst e; rfl
  ·subst e; cases t <;> rfl
theorem one_heard (k:Int) (kds:Kd) (hk:KI kds) (TS:D) (p:Option (GE (List Int))) (hT:isT TS=tieG p) (e:GE (List Int)) (ht:∀ ps,gA p=some ps→∃ va t,e=.note va ps t) :
  gEv (FP k) (tiedD (p.map (geD (FH k)))) kds (hEv k TS kds e)=geD (FH k) e∧gKd (FP k) (tiedD (p.map (geD (FH k)))) kds (hEv k TS kds e)=gKd (FH k) TS kds e:=by
 cases e with
 | rest v=>exact ⟨rfl,rfl⟩
 | note v ps t =>
  have no:tieG p=false→tiedD (p.map (geD (FH k)))=.non:=fun z=>by
   cases p with
   | none=>rfl
   | some x =>
    cases x with
    | rest _=>rfl
    | note a b c =>
     have:c=false:=z
     subst this
     rfl
  cases c:tieG p with
  | false =>
   rw [no c]
   rw [c] at hT
   obtain ⟨a,b⟩:=round_eq k ps kds hk
   constructor
   ·show D.tup [.str "note",.int v,.tup ((pcsP k kds (hds3 (isT TS) k kds ps)).map D.int),.bl t]=_
    rw [hT,a]
    rfl
   ·show pcsK kds (hds3 (isT TS) k kds ps)=hdsK (isT TS) k kds ps
    rw [hT,b]
  | true =>
   rw [c] at hT
   cases p with
   | none=>cases c
   | some x =>
    cases x with
    | rest _=>cases c
    | note a b d =>
     have:d=true:=c
     subst this
     obtain ⟨va,t2,z⟩:=ht b rfl
     cases z
     constructor
     ·rfl
     ·show kds=hdsK (isT TS) k kds ps
      rw [hT,go_K]
structure Lk (k:Int) (R:List (List (GE (List Int)))) (o:Nat→Option (GE (List Int))) (S1:List (List Int)) (sS sH:TS):Prop where
 kd:sH.kds=sS.kds
 rl:sH.rows.length=R.length
 rw:∀ (v:Nat) (r:List (GE (List Int))),R[v]?=some r→sH.rows.getD v []=(r.map (geD (FH k))).take (cnt S1 v)
 ah:∀ (v:Nat) (r:List (GE (List Int))),R[v]?=some r→look (Sum.inl (v:Int)) sH.ah=(prv r (cnt S1 v) (o v)).map (geD (FH k))
theorem lock (k:Int) (R:List (List (GE (List Int)))) (h:GBarOk (FH k) R) (ahS:List (Sum Int Str×D)) (o:Nat→Option (GE (List Int))) (ho:∀ v,v < R.length→tieO (look (Sum.inl (v:Int)) ahS)=tieG (o v)) (ht:∀ (v:Nat) (r:List (GE (List Int))),R[v]?=some r→TieOk r (o v)) :
  ∀ (S2 S1:List (List Int)) (sS sH:TS),sortR (spotsB 0 (valsP R))=S1++S2→Tr R ahS S1 sS→KI sS.kds→AhOk sS.ah→barT (FH k) R ahS=S2.foldl (stepS (FH k) R) sS→Lk k R o S1 sS sH →
   Lk k R o (S1++S2) (S2.foldl (stepS (FH k) R) sS) (S2.foldl (stepS (FP k) (Qof k R ahS)) sH):=by
 have hR:∀ r∈R,∀ e∈r,GeOk (FH k) e:=fun r hr=>(h.2 r hr).1
 intro S2
 induction S2 with
 | nil=>intro S1 sS sH _ _ _ _ _ l; rw [List.append_nil]; exact l
 | cons s S2 ih =>
  intro S1 sS sH e0 t hk ha hb l
  obtain ⟨q,v,n,r,e,e1,er,ee,en,at_,sp⟩:=spot_ev hR e0
  have pe:GeOk (FH k) e:=hR r (List.mem_of_getElem? er) e (List.mem_of_getElem? ee)
  have hv:v < R.length:=(List.getElem?_eq_some_iff.mp er).1
  have cn:cnt S1 v=n:=en.symm
  have vs:vof s=(v:Int):=by subst e1; rfl
  obtain ⟨f,g⟩:=row_end hR e0 t hb e1 er ee
  obtain ⟨rq,q1,q2⟩:=Q_at hR ahS er f
  rw [dec_ev] at q2
  have spQ:stepS (FP k) (Qof k R ahS) sH s=stepV (FP k) sH v (hEv k (tOf sS v) sS.kds e):=by
   have evQ:evAt (Qof k R ahS) s=some (hEv k (tOf sS v) sS.kds e):=by
    subst e1
    unfold evAt vof
    show ((Qof k R ahS)[((v:Int)).toNat]?).bind _=_
    rw [Int.toNat_natCast,q1]
    show rq[((n:Int)).toNat]?=_
    rw [Int.toNat_natCast,q2]
   unfold stepS
   rw [evQ]
   subst e1
   show stepV (FP k) sH ((v:Int)).toNat _=_
   rw [Int.toNat_natCast]
  have hT:isT (tOf sS v)=tieG (prv r n (o v)):=by
   unfold tOf
   rw [isT_tied _ (fun d hd=>by obtain ⟨kv,m1,m2⟩:=look_mem hd; rw [← m2]; exact ha kv m1),g,ho v hv,reach_prv]
  have tH:tOf sH v=tiedD ((prv r n (o v)).map (geD (FH k))):=by
   unfold tOf
   rw [l.ah v r er,cn]
  obtain ⟨o1,o2⟩:=one_heard k sS.kds hk (tOf sS v) (prv r n (o v)) hT e (ht v r er n e ee)
  rw [← tH,← l.kd] at o1 o2
  have st:=gKd_ok (FH_ok k) (tOf_ok ha v) hk e pe
  have sa:=putM_ah (q:=Sum.inl (v:Int)) ha (gEv_ok (FH_ok k) (tOf_ok ha v) hk e pe)
  rw [List.foldl_cons,List.foldl_cons,show S1++s::S2=(S1++[s])++S2 by simp]
  refine ih (S1++[s]) (stepS (FH k) R sS s) (stepS (FP k) (Qof k R ahS) sH s) (by rw [e0]; simp) (tr_step hR e0 t) (by rw [sp]; exact st.1) (by rw [sp]; exact sa.1) (by rw [hb,List.foldl_cons]) ?_
  rw [sp,spQ]
  have hv2:v < sH.rows.length:=by rw [l.rl]; exact hv
  have n1:∀ kk:Kd,kk=sS.kds→gKd (FP k) (tOf sH v) sH.kds (hEv k (tOf sS v) kk e)=gKd (FH k) (tOf sS v) kk e:=fun kk z=>by rw [z,← l.kd]; exact o2
  have n2:gEv (FP k) (tOf sH v) sH.kds (hEv k (tOf sS v) sS.kds e)=geD (FH k) e:=by rw [← l.kd]; exact o1
  refine ⟨n1 sS.kds rfl,by show (sH.rows.set v _).length=_; rw [List.length_set]; exact l.rl,fun u ru hu=>?_,fun u ru hu=>?_⟩
  ·rw [cnt_snoc]
   by_cases c:u=v
   ·subst c
    rw [er] at hu
    cases hu
    rw [if_pos vs,cn]
    show (sH.rows.set u (sH.rows.getD u []++[gEv (FP k) (tOf sH u) sH.kds (hEv k (tOf sS u) sS.kds e)])).getD u []=_
    rw [List.getD_eq_getElem?_getD,List.getElem?_set_self hv2]
    show sH.rows.getD u []++[gEv (FP k) (tOf sH u) sH.kds (hEv k (tOf sS u) sS.kds e)]=_
    rw [n2,l.rw u r er,cn,List.take_succ,List.getElem?_map,ee]
    rfl
   ·have ne:¬ (vof s=(u:Int)):=by rw [vs]; (first|lia|omega)
    rw [if_neg ne,Nat.add_zero]
    show (sH.rows.set v _).getD u []=_
    rw [List.getD_eq_getElem?_getD,List.getElem?_set_ne (Ne.symm c),← List.getD_eq_getElem?_getD]
    exact l.rw u ru hu
  ·rw [cnt_snoc]
   by_cases c:u=v
   ·subst c
    rw [er] at hu
    cases hu
    rw [if_pos vs,cn]
    show look (Sum.inl (u:Int)) (putM (Sum.inl (u:Int)) (gEv (FP k) (tOf sH u) sH.kds (hEv k (tOf sS u) sS.kds e)) sH.ah)=_
    rw [look_put,if_pos rfl,n2]
    show _=(r[n]?).map (geD (FH k))
    rw [ee]
    rfl
   ·have ne:¬ (vof s=(u:Int)):=by rw [vs]; (first|lia|omega)
    rw [if_neg ne,Nat.add_zero]
    show look (Sum.inl (u:Int)) (putM (Sum.inl (v:Int)) _ sH.ah)=_
    rw [look_put,if_neg (by intro z; injection z with z; (first|lia|omega))]
    exact l.ah u ru hu
theorem lock_bar (k:Int) (R:List (List (GE (List Int)))) (h:GBarOk (FH k) R) (ahS ahH:List (Sum Int Str×D)) (hA:AhOk ahS) (o:Nat→Option (GE (List Int))) (ho:∀ v,v < R.length→tieO (look (Sum.inl (v:Int)) ahS)=tieG (o v)) (hH:∀ v,v < R.length→look (Sum.inl (v:Int)) ahH=(o v).map (geD (FH k))) (ht:∀ (v:Nat) (r:List (GE (List Int))),R[v]?=some r→TieOk r (o v)) :
  barD (barT (FP k) (Qof k R ahS) ahH)=grD (FH k) R∧∀ (v:Nat) (r:List (GE (List Int))),R[v]?=some r→look (Sum.inl (v:Int)) (barT (FP k) (Qof k R ahS) ahH).ah=(prv r r.length (o v)).map (geD (FH k))∧tieO (look (Sum.inl (v:Int)) (barT (FH k) R ahS).ah)=tieG (prv r r.length (o v)):=by
 have hR:∀ r∈R,∀ e∈r,GeOk (FH k) e:=fun r hr=>(h.2 r hr).1
 have l:=lock k R h ahS o ho ht (sortR (spotsB 0 (valsP R))) [] (bar0 R ahS) (bar0 (Qof k R ahS) ahH) rfl (tr_0 _ _) (fun _ z=>by cases z) hA rfl ⟨rfl,by show ((Qof k R ahS).map fun _=>([]:List D)).length=_; rw [List.length_map,Q_len hR ahS],fun v r er=>by
   show ((Qof k R ahS).map fun _=>([]:List D)).getD v []=_
   rw [List.getD_eq_getElem?_getD,List.getElem?_map]
   show _=(r.map (geD (FH k))).take 0
   cases (Qof k R ahS)[v]? <;> rfl,fun v r er=>hH v (List.getElem?_eq_some_iff.mp er).1⟩
 rw [List.nil_append] at l
 have bt:barT (FP k) (Qof k R ahS) ahH=(sortR (spotsB 0 (valsP R))).foldl (stepS (FP k) (Qof k R ahS)) (bar0 (Qof k R ahS) ahH):=by
  unfold barT
  rw [Q_vals hR ahS]
 rw [← bt] at l
 have l:Lk k R o (sortR (spotsB 0 (valsP R))) (barT (FH k) R ahS) (barT (FP k) (Qof k R ahS) ahH):=l
 constructor
 ·unfold barD grD
  congr 1
  apply List.ext_getElem?
  intro v
  rw [List.getElem?_map,List.getElem?_map]
  cases er:R[v]? with
  | none =>
   have:(barT (FP k) (Qof k R ahS) ahH).rows[v]?=none:=by
    rw [List.getElem?_eq_none_iff] at er ⊢
    rw [l.rl]
    exact er
   rw [this]
   rfl
  | some r =>
   have hv:v < (barT (FP k) (Qof k R ahS) ahH).rows.length:=by rw [l.rl]; exact (List.getElem?_eq_some_iff.mp er).1
   have x:=l.rw v r er
   rw [cnt_all hR er,List.getD_eq_getElem?_getD,List.getElem?_eq_getElem hv] at x
   have x:(barT (FP k) (Qof k R ahS) ahH).rows[v]=(r.map (geD (FH k))).take r.length:=x
   rw [List.getElem?_eq_getElem hv,x,List.take_of_length_le (by rw [List.length_map]; exact Nat.le_refl _)]
   rfl
 ·intro v r er
  have x:=l.ah v r er
  rw [cnt_all hR er] at x
  refine ⟨x,?_⟩
  rw [((bar_len hR ahS).2 v r er).2,ho v (List.getElem?_eq_some_iff.mp er).1,reach_prv]
noncomputable def gOf:PE→GE (List Int)
 | .rest v=>.rest v
 | .note v ps t=>.note v ps t
noncomputable def gR (R:List (List PE)):List (List (GE (List Int))):=R.map (·.map gOf)
theorem gOf_D (k:Int) (e:PE):geD (FH k) (gOf e)=peD e:=by cases e <;> rfl
theorem gR_D (k:Int) (R:List (List PE)):grD (FH k) (gR R)=brD R:=by
 unfold grD gR brD
 rw [List.map_map]
 congr 1
 apply List.map_congr_left
 intro r _
 show D.lst ((r.map gOf).map (geD (FH k)))=D.lst (r.map peD)
 rw [List.map_map]
 congr 1
 apply List.map_congr_left
 intro e _
 exact gOf_D k e
theorem gR_ok (k:Int) (R:List (List PE)) (h:R.length ≤ 8∧∀ r∈R,RowOk r):GBarOk (FH k) (gR R):=by
 refine ⟨by unfold gR; rw [List.length_map]; exact h.1,fun r hr=>?_⟩
 obtain ⟨q,hq,e⟩:=List.mem_map.mp hr
 subst e
 obtain ⟨a,b,_,c⟩:=h.2 q hq
 refine ⟨fun x hx=>?_,by rw [List.length_map]; exact b,by rw [List.length_map]; exact c⟩
 obtain ⟨y,hy,ey⟩:=List.mem_map.mp hx
 subst ey
 have:=a y hy
 cases y with
 | rest v=>exact this
 | note v ps t=>exact this
theorem prv_cons (x:GE (List Int)) (l:List (GE (List Int))) (n:Nat) (o:Option (GE (List Int))):prv (x::l) (n+1) o=prv l n (some x):=by
 cases n with
 | zero=>rfl
 | succ n=>rfl
theorem TieB_ok:∀ (r:List PE) (o:Option (GE (List Int))) (g:Option (List Int)),TieB (gA o) r g→TieOk (r.map gOf) o∧g=gA (prv (r.map gOf) r.length o)
 | [],o,g,h=>⟨fun n e ee=>by simp at ee,h⟩
 | .rest v::r,o,g,h=>by
  obtain ⟨a,b⟩:=TieB_ok r (some (.rest v)) g h.2
  refine ⟨fun n e ee ps hp=>?_,by rw [b,List.map_cons,List.length_cons]; exact (congrArg gA (prv_cons _ _ _ o)).symm⟩
  cases n with
  | zero=>rw [show prv ((PE.rest v::r).map gOf) 0 o=o from rfl,h.1] at hp; cases hp
  | succ n=>exact a n e (by simpa using ee) ps (by rw [← prv_cons _ _ _ o]; exact hp)
 | .note v qs t::r,o,g,h=>by
  have hg:(if t then some qs else none)=gA (some (.note v qs t)):=by cases t <;> rfl
  have h2:=h.2
  rw [hg] at h2
  obtain ⟨a,b⟩:=TieB_ok r (some (.note v qs t)) g h2
  refine ⟨fun n e ee ps hp=>?_,by rw [b,List.map_cons,List.length_cons]; exact (congrArg gA (prv_cons _ _ _ o)).symm⟩
  cases n with
  | zero =>
   have hp:gA o=some ps:=hp
   rw [hp] at h
   obtain rfl:e=.note v qs t:=by simpa [gOf] using ee.symm
   rcases h.1 with z|z
   ·cases z
   ·cases z
    exact ⟨v,t,rfl⟩
  | succ n=>exact a n e (by simpa using ee) ps (by rw [← prv_cons _ _ _ o]; exact hp)
noncomputable def QsOf (k:Int):List (List (List PE))→List (Sum Int Str×D)→List (List (List (GE (List H3))))
 | [],_=>[]
 | R::Rs,ah=>Qof k (gR R) ah::QsOf k Rs (barT (FH k) (gR R) ah).ah
theorem lock_bars (k:Int) (vo:Nat) (hv:vo ≤ 8):∀ (Rs:List (List (List PE))) (ahS ahH:List (Sum Int Str×D)) (o:Nat→Option (GE (List Int))),(∀ R∈Rs,R.length=vo∧∀ r∈R,RowOk r)→AhOk ahS→ahS.length+320 * Rs.length ≤ 1000000 →
  (∀ v,v < vo→tieO (look (Sum.inl (v:Int)) ahS)=tieG (o v))→(∀ v,v < vo→look (Sum.inl (v:Int)) ahH=(o v).map (geD (FH k)))→(∀ v,v < vo→∃ g,TieB (gA (o v)) (colR Rs v).flatten g) →
  (barsT (FP k) (QsOf k Rs ahS) ahH).map barD=Rs.map brD∧(QsOf k Rs ahS).map (grD (FP k))=(barsT (FH k) (Rs.map gR) ahS).map barD∧∀ Q∈QsOf k Rs ahS,GBarOk (FP k) Q:=by
 intro Rs
 induction Rs with
 | nil=>intro ahS ahH o _ _ _ _ _ _; exact ⟨rfl,rfl,fun _ z=>by cases z⟩
 | cons R Rs ih =>
  intro ahS ahH o hk ha hL ho hH ht
  rw [List.length_cons] at hL
  obtain ⟨r1,r2⟩:=hk R (by simp)
  have gk:=gR_ok k R ⟨by (first|lia|omega),r2⟩
  have gl:(gR R).length=vo:=by unfold gR; rw [List.length_map]; exact r1
  have hR:∀ r∈gR R,∀ e∈r,GeOk (FH k) e:=fun r hr=>(gk.2 r hr).1
  have sp:∀ v,v < vo→∃ r,R[v]?=some r∧(gR R)[v]?=some (r.map gOf)∧TieOk (r.map gOf) (o v)∧∃ g,TieB (gA (prv (r.map gOf) r.length (o v))) (colR Rs v).flatten g:=fun v hv2=>by
   have er:R[v]?=some R[v]:=List.getElem?_eq_getElem (by (first|lia|omega))
   obtain ⟨g,t⟩:=ht v hv2
   have cr:(colR (R::Rs) v).flatten=R[v]++(colR Rs v).flatten:=by
    show (R.getD v []::colR Rs v).flatten=_
    rw [List.flatten_cons,List.getD_eq_getElem?_getD,er]
    rfl
   rw [cr] at t
   obtain ⟨g1,t1,t2⟩:=TieB_split _ _ _ _ t
   obtain ⟨x1,x2⟩:=TieB_ok _ _ _ t1
   refine ⟨R[v],er,by unfold gR; rw [List.getElem?_map,er]; rfl,x1,g,by rw [← x2]; exact t2⟩
  have tk:∀ (v:Nat) (r:List (GE (List Int))),(gR R)[v]?=some r→TieOk r (o v):=fun v r er=>by
   have hv2:v < vo:=by rw [← gl]; exact (List.getElem?_eq_some_iff.mp er).1
   obtain ⟨r0,_,e2,e3,_⟩:=sp v hv2
   rw [e2] at er
   cases er
   exact e3
  obtain ⟨b1,b2⟩:=lock_bar k (gR R) gk ahS ahH ha o (fun v h=>ho v (by (first|lia|omega))) (fun v h=>hH v (by (first|lia|omega))) tk
  have ln:=spots_len gk.1 fun r hr=>(gk.2 r hr).2.1
  have to:=barT_ah (FH_ok k) (gR R) gk ahS ha ahS.length (by (first|lia|omega)) (Nat.le_refl _)
  obtain ⟨c1,c2,c3⟩:=ih (barT (FH k) (gR R) ahS).ah (barT (FP k) (Qof k (gR R) ahS) ahH).ah (fun v=>prv (((gR R)[v]?).getD []) (((gR R)[v]?).getD []).length (o v)) (fun x hx=>hk x (List.mem_cons_of_mem _ hx)) to.ah (by have:=to.al; (first|lia|omega))
   (fun v hv2=>by obtain ⟨r,_,e2,_⟩:=sp v hv2; rw [e2]; exact (b2 v _ e2).2)
   (fun v hv2=>by obtain ⟨r,_,e2,_⟩:=sp v hv2; rw [e2]; exact (b2 v _ e2).1)
   (fun v hv2=>by obtain ⟨r,_,e2,_,e4⟩:=sp v hv2; rw [e2]; show ∃ g,TieB (gA (prv (r.map gOf) (r.map gOf).length (o v))) _ g; rw [List.length_map]; exact e4)
  refine ⟨?_,?_,fun Q hQ=>?_⟩
  ·rw [QsOf,barsT,List.map_cons,c1,b1,gR_D,List.map_cons]
  ·rw [QsOf,List.map_cons,List.map_cons,barsT,List.map_cons,c2,Q_D hR ahS]
  ·rcases List.mem_cons.mp hQ with z|z
   ·subst z; exact Q_ok gk ahS
   ·exact c3 Q z
theorem turned_D:D_turned=den 12 (turnedB io0):=rfl
theorem call_turned (fn:D) (k:Int) (w:En) (B r:D) (hw:w=.fz B∨w=.br B) (t:D_turned [w,.fz (.int k),.fz fn]=.ok (.ow r)):fin ((sRet (eCall D_turned [(eVar 0),(eVar 1),(eC fn)])) [some w,some (.fz (.int k))])=.ok (.ow r):=by
 have ve:(eVar 0) [some w,some (.fz (.int k))]=.ok w:=by rcases hw with z|z <;> (subst z; rfl)
 have va:w.arg=.ok w:=by rcases hw with z|z <;> (subst z; rfl)
 have c:(eCall D_turned [(eVar 0),(eVar 1),(eC fn)]) [some w,some (.fz (.int k))]=.ok (.ow r):=by
  unfold eCall
  have e:evs [(eVar 0),(eVar 1),(eC fn)] [some w,some (.fz (.int k))]=.ok [w,.fz (.int k),.fz fn]:=by
   unfold evs
   rw [ve]
   rfl
  have a:argAll [w,.fz (.int k),.fz fn]=.ok [w,.fz (.int k),.fz fn]:=by
   unfold argAll
   rw [va]
   rfl
  rw [e,R.bind_ok,a,R.bind_ok,t]
 rw [x_ret,c]
 rfl
theorem signed_eq (k:Int) (Rs:List (List (List (GE (List Int))))) (h:∀ R∈Rs,GBarOk (FH k) R) (hl:Rs.length ≤ 500) (w:En) (hw:w=.fz (.lst (Rs.map (grD (FH k))))∨w=.br (.lst (Rs.map (grD (FH k))))) :
  D_signed [w,.fz (.int k)]=.ok (.ow (.lst ((barsT (FH k) Rs []).map barD))):=by
 have t:=turned_eq (FH_ok k) Rs h hl w hw
 rw [← turned_D] at t
 unfold D_signed B_signed
 rw [x_den]
 exact call_turned _ k w _ _ hw t
theorem heard_eq (k:Int) (Rs:List (List (List (GE (List H3))))) (h:∀ R∈Rs,GBarOk (FP k) R) (hl:Rs.length ≤ 500) (w:En) (hw:w=.fz (.lst (Rs.map (grD (FP k))))∨w=.br (.lst (Rs.map (grD (FP k))))) :
  D_heard [w,.fz (.int k)]=.ok (.ow (.lst ((barsT (FP k) Rs []).map barD))):=by
 have t:=turned_eq (FP_ok k) Rs h hl w hw
 rw [← turned_D] at t
 unfold D_heard B_heard
 rw [x_den]
 exact call_turned _ k w _ _ hw t
theorem pe_eqok (e:PE):eqokN 5 (peD e)=true:=by
 cases e with
 | rest v=>show eqokN 5 (.tup [.str "rest",.int v])=true; kernel_rfl
 | note v ps t =>
  have a:eqokN 4 (.str "note")=true:=by kernel_rfl
  have b:eqokN 4 (.tup (ps.map D.int))=true:=by
   show (ps.map D.int).all (eqokN 3)=true
   refine List.all_eq_true.mpr fun d hd=>?_
   obtain ⟨x,_,hxe⟩:=List.mem_map.mp hd
   subst hxe
   rfl
  show ([D.str "note",.int v,.tup (ps.map D.int),.bl t].all (eqokN 4))=true
  simp only [List.all_cons,List.all_nil,a,b,Bool.and_true,Bool.true_and]
  rfl
theorem bs_eqok (Rs:List (List (List PE))):eqok (.lst (Rs.map brD))=true:=eqok_lst fun x hx=>by
 obtain ⟨b,hb,hbe⟩:=List.mem_map.mp hx
 subst hbe
 show (b.map rwD).all (eqokN 6)=true
 refine List.all_eq_true.mpr fun d hd=>?_
 obtain ⟨r,hr,hre⟩:=List.mem_map.mp hd
 subst hre
 show (r.map peD).all (eqokN 5)=true
 refine List.all_eq_true.mpr fun d hd=>?_
 obtain ⟨e,he,hee⟩:=List.mem_map.mp hd
 subst hee
 exact pe_eqok e
theorem gp_eqok (k:Int) (e:GE (List H3)) (h:GeOk (FP k) e):eqokN 5 (geD (FP k) e)=true:=by
 cases e with
 | rest v=>show eqokN 5 (.tup [.str "rest",.int v])=true; kernel_rfl
 | note v hs t =>
  have a:eqokN 4 (.str "note")=true:=by kernel_rfl
  have b:eqokN 4 (.tup (hs.map h3D))=true:=by
   show (hs.map h3D).all (eqokN 3)=true
   refine List.all_eq_true.mpr fun d hd=>?_
   obtain ⟨x,hx,hxe⟩:=List.mem_map.mp hd
   subst hxe
   have c1:eqokN 2 (.str (fcg x.m))=true:=(fcg_ok x.m (h.2.2 x hx)).2.2.2.2
   have c2:eqokN 2 (sD x.s)=true:=by cases x.s <;> rfl
   show ([D.str (fcg x.m),.int x.o,sD x.s].all (eqokN 2))=true
   simp only [List.all_cons,List.all_nil,c1,c2,Bool.and_true,Bool.true_and]
   rfl
  show ([D.str "note",.int v,.tup (hs.map h3D),.bl t].all (eqokN 4))=true
  simp only [List.all_cons,List.all_nil,a,b,Bool.and_true,Bool.true_and]
  rfl
theorem fs_eqok (k:Int) (Qs:List (List (List (GE (List H3))))) (h:∀ Q∈Qs,GBarOk (FP k) Q):eqok (.lst (Qs.map (grD (FP k))))=true:=eqok_lst fun x hx=>by
 obtain ⟨b,hb,hbe⟩:=List.mem_map.mp hx
 subst hbe
 show (b.map (gwD (FP k))).all (eqokN 6)=true
 refine List.all_eq_true.mpr fun d hd=>?_
 obtain ⟨r,hr,hre⟩:=List.mem_map.mp hd
 subst hre
 show (r.map (geD (FP k))).all (eqokN 5)=true
 refine List.all_eq_true.mpr fun d hd=>?_
 obtain ⟨e,he,hee⟩:=List.mem_map.mp hd
 subst hee
 exact gp_eqok k e (((h b hb).2 r hr).1 e he)
theorem mk3_snd (ys:List D):(ys.map fun y=>((Sum.inl 0:Sum Int Str),y)).map Prod.snd=ys:=by
 rw [List.map_map]
 exact List.map_id ys
theorem law_true (ns:List Int) (hl:ns.length ≤ 63):D_law [.fz (.lst (ns.map D.int))]=.ok (.fz (.bl true)):=by
 obtain ⟨F,vo,v5,f1,f2,f3,f5,f4⟩:=bars_eq3 ns hl (cell ns 0 % 4 == 3)
 have c0:D__law_cell [.fz (.lst (ns.map D.int)),.fz (.int 0)]=.ok (.fz (.int (cell ns 0))):=cell_eq ns 0
 have c5:D__law_cell [.fz (.lst (ns.map D.int)),.fz (.int 5)]=.ok (.fz (.int (cell ns 5))):=cell_eq ns 5
 have m4:=x_mod (i:=cell ns 0) (j:=4) (by decide)
 have m15:=x_mod (i:=cell ns 5) (j:=15) (by decide)
 generalize hk:cell ns 5 % 15 - 7=k at *
 obtain ⟨l1,l2,l3⟩:=lock_bars k vo (by (first|lia|omega)) F [] [] (fun _=>none) f3 (fun _ z=>by cases z) (by simp; (first|lia|omega)) (fun _ _=>rfl) (fun _ _=>rfl) f5
 have gF:F.map brD=(F.map gR).map (grD (FH k)):=by
  rw [List.map_map]
  apply List.map_congr_left
  intro R _
  exact (gR_D k R).symm
 have se:D_signed [.fz (.lst (F.map brD)),.fz (.int k)]=.ok (.ow (.lst ((QsOf k F []).map (grD (FP k))))):=by
  rw [l2]
  exact signed_eq k (F.map gR) (fun R hR=>by
   obtain ⟨Q,hQ,e⟩:=List.mem_map.mp hR
   subst e
   exact gR_ok k Q ⟨by rw [(f3 Q hQ).1]; (first|lia|omega),(f3 Q hQ).2⟩) (by rw [List.length_map]; (first|lia|omega)) _ (.inl (by rw [gF]))
 have ql:∀ (Rs:List (List (List PE))) (ah:List (Sum Int Str×D)),(QsOf k Rs ah).length=Rs.length:=by
  intro Rs
  induction Rs with
  | nil=>intro _; rfl
  | cons R Rs ih=>intro ah; rw [QsOf,List.length_cons,List.length_cons,ih]
 have he:D_heard [.br (.lst ((QsOf k F []).map (grD (FP k)))),.fz (.int k)]=.ok (.ow (.lst (F.map brD))):=by
  rw [← l1]
  exact heard_eq k (QsOf k F []) l3 (by rw [ql]; (first|lia|omega)) _ (.inr rfl)
 have c3F:F.map brD=c3 (F.map fun bar=>bar.map fun r=>r.map peD):=by
  unfold c3
  rw [List.map_map]
  apply List.map_congr_left
  intro bar _
  show D.lst (bar.map rwD)=D.lst ((bar.map fun r=>r.map peD).map D.lst)
  rw [List.map_map]
  rfl
 have cpF:=copy_eq (.br (.lst (F.map brD))) (F.map fun bar=>bar.map fun r=>r.map peD) rfl (fun ρ h=>x_iVc h (by first|(rw [c3F]; done)|(rw [c3F]; rfl))) (by rw [List.length_map]; (first|lia|omega)) (fun b hb=>by
  obtain ⟨bar,hb1,hb2⟩:=List.mem_map.mp hb
  subst hb2
  have:=(f3 bar hb1).1
  rw [List.length_map]; (first|lia|omega))
 have c3Q:(QsOf k F []).map (grD (FP k))=c3 ((QsOf k F []).map fun bar=>bar.map fun r=>r.map (geD (FP k))):=by
  unfold c3
  rw [List.map_map]
  apply List.map_congr_left
  intro bar _
  show D.lst (bar.map (gwD (FP k)))=D.lst ((bar.map fun r=>r.map (geD (FP k))).map D.lst)
  rw [List.map_map]
  rfl
 have cpQ:=copy_eq (.br (.lst ((QsOf k F []).map (grD (FP k))))) ((QsOf k F []).map fun bar=>bar.map fun r=>r.map (geD (FP k))) rfl (fun ρ h=>x_iVc h (by first|(rw [c3Q]; done)|(rw [c3Q]; rfl))) (by rw [List.length_map,ql]; (first|lia|omega)) (fun b hb=>by
  obtain ⟨bar,hb1,hb2⟩:=List.mem_map.mp hb
  subst hb2
  have:=(l3 bar hb1).1
  rw [List.length_map]; (first|lia|omega))
 rw [← c3F] at cpF
 rw [← c3Q] at cpQ
 have eF:=x_eq_self (bs_eqok F)
 have eQ:=x_eq_self (fs_eqok k _ l3)
 generalize F.map brD=fD at *
 generalize (QsOf k F []).map (grD (FP k))=qD at *
 have sh:(eShut (eCall D__law_copy [(eVar 1)])) [some (.fz (.lst (ns.map D.int))),some (.ow (.lst fD)),some (.fz (.int k)),none,none,none]=.ok (.fz (.lst fD)):=by
  unfold eShut
  rw [show (eCall D__law_copy [(eVar 1)]) [some (.fz (.lst (ns.map D.int))),some (.ow (.lst fD)),some (.fz (.int k)),none,none,none]=.ok (.od (mk3 fD)) by simp only [EV,Nat.reduceAdd,Nat.reduceSub,Nat.reduceLeDiff,cpF]]
  show R.ok (En.fz (.lst ((fD.map fun y=>((Sum.inl 0:Sum Int Str),y)).map Prod.snd)))=_
  rw [mk3_snd]
 have s3:(sSet 3 (eCall D_signed [(eShut (eCall D__law_copy [(eVar 1)])),(eVar 2)])) [some (.fz (.lst (ns.map D.int))),some (.ow (.lst fD)),some (.fz (.int k)),none,none,none]=.nx [some (.fz (.lst (ns.map D.int))),some (.ow (.lst fD)),some (.fz (.int k)),some (.ow (.lst qD)),none,none]:=by simp only [EV,Nat.reduceAdd,Nat.reduceSub,Nat.reduceLeDiff,sh,se]
 have s4:(sSetS 4 (eCall D__law_copy [(eVar 3)])) [some (.fz (.lst (ns.map D.int))),some (.ow (.lst fD)),some (.fz (.int k)),some (.ow (.lst qD)),none,none]=.nx [some (.fz (.lst (ns.map D.int))),some (.ow (.lst fD)),some (.fz (.int k)),some (.ow (.lst qD)),some (.ow (.lst qD)),none]:=by
  rw [x_setS (ds:=qD.map fun y=>(Sum.inl 0,y)) (by simp only [EV,Nat.reduceAdd,Nat.reduceSub,Nat.reduceLeDiff,cpQ]; rfl) rfl,mk3_snd]
  rfl
 have s1:(sSet 1 (eCall D__law_bars [(eVar 0),(eOp dEq (eOp dMod (eCall D__law_cell [(eVar 0),(eC (.int 0))]) (eC (.int 4))) (eC (.int 3)))])) [some (.fz (.lst (ns.map D.int))),none,none,none,none,none]=.nx [some (.fz (.lst (ns.map D.int))),some (.ow (.lst fD)),none,none,none,none]:=by simp only [EV,Nat.reduceAdd,Nat.reduceSub,Nat.reduceLeDiff,c0,m4,f4]
 have s2:(sSet 2 (eOp dSub (eOp dMod (eCall D__law_cell [(eVar 0),(eC (.int 5))]) (eC (.int 15))) (eC (.int 7)))) [some (.fz (.lst (ns.map D.int))),some (.ow (.lst fD)),none,none,none,none]=.nx [some (.fz (.lst (ns.map D.int))),some (.ow (.lst fD)),some (.fz (.int k)),none,none,none]:=by simp only [EV,Nat.reduceAdd,Nat.reduceSub,Nat.reduceLeDiff,c5,m15,hk]
 have s5:(sSet 5 (eCall D_heard [(eVar 4),(eVar 2)])) [some (.fz (.lst (ns.map D.int))),some (.ow (.lst fD)),some (.fz (.int k)),some (.ow (.lst qD)),some (.ow (.lst qD)),none]=.nx [some (.fz (.lst (ns.map D.int))),some (.ow (.lst fD)),some (.fz (.int k)),some (.ow (.lst qD)),some (.ow (.lst qD)),some (.ow (.lst fD))]:=by simp only [EV,Nat.reduceAdd,Nat.reduceSub,Nat.reduceLeDiff,he]
 unfold D_law B_law
 rw [x_den]
 show fin ((sSeq (sSet 1 _) _) [some (.fz (.lst (ns.map D.int))),none,none,none,none,none])=_
 rw [x_seq,s1,x_th_nx,x_seq,s2,x_th_nx,x_seq,s3,x_th_nx,x_seq,s4,x_th_nx,x_seq,s5,x_th_nx]
 simp only [EV,Nat.reduceAdd,Nat.reduceSub,Nat.reduceLeDiff,eF,eQ]
section
variable {P:Program} {w:World} {K:PySem.W.Frag} {mg:Str→Option Value} {base:Heap}
theorem sc_first_alike:FnScope ["low","number","divisor"] ["low","number","divisor"] (defScope s_first_alike):=⟨rfl,rfl,rfl,by decide +kernel,rfl,by decide +kernel,by decide +kernel⟩
theorem ok_first_alike {f:Addr} {fd:FuncData} (F:Fun K "first_alike" "first_alike" s_first_alike f fd) :
  FnOk P w K mg base CX0 1 f fd ["low","number","divisor"] (spD ⟨P,w,K⟩ D_first_alike 3):=by
 refine fnD (N:=["low","number","divisor"]) F sc_first_alike (fun cdv A outer s H F0 hr=>?_)
 have nd:=sc_first_alike.nd
 have hu:=hu10 hr
 exact (sss_one (ss_ret (se_op od_addA (se_var 0) (se_op od_mod (se_op od_sub (se_var 1) (se_var 0)) (se_var 2)))))
theorem sc_alter_at:FnScope ["fifths"] ["fifths"] (defScope s_alter_at):=⟨rfl,rfl,rfl,by decide +kernel,rfl,by decide +kernel,by decide +kernel⟩
theorem ok_alter_at {f:Addr} {fd:FuncData} (F:Fun K "alter_at" "alter_at" s_alter_at f fd) :
  FnOk P w K mg base CX0 1 f fd ["fifths"] (spD ⟨P,w,K⟩ D_alter_at 1):=by
 refine fnD (N:=["fifths"]) F sc_alter_at (fun cdv A outer s H F0 hr=>?_)
 have nd:=sc_alter_at.nd
 have hu:=hu10 hr
 exact (sss_one (ss_ret (se_op od_div (se_op od_addA (se_var 0) se_int) se_int)))
theorem sc_pitch_of:FnScope ["name"] ["name"] (defScope s_pitch_of):=⟨rfl,rfl,rfl,by decide +kernel,rfl,by decide +kernel,by decide +kernel⟩
theorem ok_pitch_of {f:Addr} {fd:FuncData} (F:Fun K "pitch_of" "pitch_of" s_pitch_of f fd)
  {u_PITCHES:Value} {v_PITCHES:V} (m_PITCHES:mg "PITCHES"=some u_PITCHES) (r_PITCHES:RelV v_PITCHES u_PITCHES) (q_PITCHES:∀ F,Rep ⟨P,w,K⟩ F v_PITCHES c_PITCHES) :
  FnOk P w K mg base CX0 1 f fd ["name"] (spD ⟨P,w,K⟩ D_pitch_of 1):=by
 refine fnD (N:=["name"]) F sc_pitch_of (fun cdv A outer s H F0 hr=>?_)
 have nd:=sc_pitch_of.nd
 have hu:=hu10 hr
 exact (sss_one (ss_ret (se_op od_addA (se_op od_addA (se_op od_mul se_int (se_ix (se_var 0) se_int)) (se_ixK (se_glob m_PITCHES r_PITCHES q_PITCHES) (se_ix (se_var 0) se_int))) (se_ix (se_var 0) se_int))))
theorem sc_in_order:FnScope ["bar","spots","voice","row","place","number","event"] ["bar"] (defScope s_in_order):=⟨rfl,rfl,rfl,by decide +kernel,rfl,by decide +kernel,by decide +kernel⟩
theorem ok_in_order {f:Addr} {fd:FuncData} (F:Fun K "in_order" "in_order" s_in_order f fd)
  (b_enumerate:mg "enumerate"=none)
  (b_sorted:mg "sorted"=none) :
  FnOk P w K mg base CX0 1 f fd ["bar"] (spD ⟨P,w,K⟩ D_in_order 1):=by
 refine fnD (N:=["bar","spots","voice","row","place","number","event"]) F sc_in_order (fun cdv A outer s H F0 hr=>?_)
 have nd:=sc_in_order.nd
 have hu:=hu10 hr
 exact (sss_cons (ss_set 1 nd (se_lst sa_nil))
 (sss_cons (ss_for PassesOwn.never rfl (si_enum 0 b_enumerate) (sg_tup rfl (sgs_cons 2 nd (sgs_cons 3 nd sgs_nil))) (sss_cons (ss_set 4 nd se_int)
 (sss_one (ss_for PassesOwn.never rfl (si_enum 3 b_enumerate) (sg_tup rfl (sgs_cons 5 nd (sgs_cons 6 nd sgs_nil))) (sss_cons (ss_app 1 (se_tup (sa_cons (se_var 4) (sa_cons (se_var 2) (sa_cons (se_var 5) sa_nil)))))
 (sss_one (ss_aug 4 nd oi_addI (se_ix (se_var 6) se_int))))))))
 (sss_one (ss_ret (se_callB cd_sortedB b_sorted PyProof.Rows.boot_sorted (sa_cons (se_var 1) sa_nil))))))
theorem sc_tied_to_next:FnScope ["event"] ["event"] (defScope s_tied_to_next):=⟨rfl,rfl,rfl,by decide +kernel,rfl,by decide +kernel,by decide +kernel⟩
theorem ok_tied_to_next {f:Addr} {fd:FuncData} (F:Fun K "tied_to_next" "tied_to_next" s_tied_to_next f fd) :
  FnOk P w K mg base CX0 1 f fd ["event"] (spD ⟨P,w,K⟩ D_tied_to_next 1):=by
 refine fnD (N:=["event"]) F sc_tied_to_next (fun cdv A outer s H F0 hr=>?_)
 have nd:=sc_tied_to_next.nd
 have hu:=hu10 hr
 exact (sss_cons (ss_if (st_w (sw_or (st_cmp od_isN (se_var 0) se_non) (sw_or (st_cmp (od_eq hu) (se_ix (se_var 0) se_int) se_str) (sw_or1 (st_not (st_val (se_ix (se_var 0) se_int))))))) (sss_one (ss_ret se_non)) sss_nil)
 (sss_one (ss_ret (se_ix (se_var 0) se_int))))
theorem sc__law_cell:FnScope ["_law_script","_law_k"] ["_law_script","_law_k"] (defScope s__law_cell):=⟨rfl,rfl,rfl,by decide +kernel,rfl,by decide +kernel,by decide +kernel⟩
theorem ok__law_cell {f:Addr} {fd:FuncData} (F:Fun K "_law_cell" "_law_cell" s__law_cell f fd)
  (b_len:mg "len"=none) :
  FnOk P w K mg base CX0 1 f fd ["_law_script","_law_k"] (spD ⟨P,w,K⟩ D__law_cell 2):=by
 refine fnD (N:=["_law_script","_law_k"]) F sc__law_cell (fun cdv A outer s H F0 hr=>?_)
 have nd:=sc__law_cell.nd
 have hu:=hu10 hr
 exact (sss_cons (ss_if (st_cmp od_lt (se_var 1) (se_callB cd_lenA b_len PySem.boot_len (sa_cons (se_var 0) sa_nil))) (sss_one (ss_ret (se_ix (se_var 0) (se_var 1)))) sss_nil)
 (sss_one (ss_ret se_int)))
theorem sc__law_mix:FnScope ["_law_cell_here","_law_prime","_law_many"] ["_law_cell_here","_law_prime","_law_many"] (defScope s__law_mix):=⟨rfl,rfl,rfl,by decide +kernel,rfl,by decide +kernel,by decide +kernel⟩
theorem ok__law_mix {f:Addr} {fd:FuncData} (F:Fun K "_law_mix" "_law_mix" s__law_mix f fd) :
  FnOk P w K mg base CX0 1 f fd ["_law_cell_here","_law_prime","_law_many"] (spD ⟨P,w,K⟩ D__law_mix 3):=by
 refine fnD (N:=["_law_cell_here","_law_prime","_law_many"]) F sc__law_mix (fun cdv A outer s H F0 hr=>?_)
 have nd:=sc__law_mix.nd
 have hu:=hu10 hr
 exact (sss_one (ss_ret (se_op od_mod (se_op od_mod (se_op od_mul (se_var 0) se_int) (se_var 1)) (se_var 2))))
theorem sc__law_let_go:FnScope ["_law_row"] ["_law_row"] (defScope s__law_let_go):=⟨rfl,rfl,rfl,by decide +kernel,rfl,by decide +kernel,by decide +kernel⟩
theorem ok__law_let_go {f:Addr} {fd:FuncData} (F:Fun K "_law_let_go" "_law_let_go" s__law_let_go f fd) :
  FnOk P w K mg base CX0 1 f fd ["_law_row"] (spM ⟨P,w,K⟩ D__law_let_go):=by
 refine fnM (N:=["_law_row"]) F sc__law_let_go (by decide) (fun cdv A outer s H F0 H0 hr=>?_)
 have nd:=sc__law_let_go.nd
 have hu:=hu10 hr
 exact (sss_cons (ss_if (st_w (sw_and (st_val (se_var 0)) (sw_and1 (st_cmp (od_eq hu) (se_ix (se_ix (se_var 0) (se_neg se_int)) se_int) se_str)))) (sss_one (ss_setI 0 (se_neg se_int) (se_tup (sa_cons se_str (sa_cons (se_ix (se_ix (se_var 0) (se_neg se_int)) se_int) (sa_cons (se_ix (se_ix (se_var 0) (se_neg se_int)) se_int) (sa_cons se_bl sa_nil))))))) sss_nil)
 (sss_one (ss_retV 0)))
theorem sc__law_copy:FnScope ["_law_bars_here"] ["_law_bars_here"] (defScope s__law_copy):=⟨rfl,rfl,rfl,by decide +kernel,rfl,by decide +kernel,by decide +kernel⟩
theorem ok__law_copy {f:Addr} {fd:FuncData} (F:Fun K "_law_copy" "_law_copy" s__law_copy f fd)
  (b_list:mg "list"=none) :
  FnOk P w K mg base CX0 1 f fd ["_law_bars_here"] (spD ⟨P,w,K⟩ D__law_copy 1):=by
 refine fnD (N:=["_law_bars_here"]) F sc__law_copy (fun cdv A outer s H F0 hr=>?_)
 have nd:=sc__law_copy.nd
 have hu:=hu10 hr
 have nd1:(["_law_bars_here","_law_bar"]:List Str).Nodup:=by decide +kernel
 have nd2:(["_law_bars_here","_law_bar","_law_row"]:List Str).Nodup:=by decide +kernel
 exact (sss_one (ss_retO (se_compG (n:=1) ["_law_bars_here","_law_bar"] (fun _ _=>memD _ _ _) (sic_var 0) (no_gV 1) (fun _ _ _ _ _=>(sg_name 1 nd1)) (fun _ _ _ _ _=>(se_compG (n:=1) ["_law_bars_here","_law_bar","_law_row"] (fun _ _=>memO _ _ _) (sic_var 1) (no_gV 2) (fun _ _ _ _ _=>(sg_name 2 nd2)) (fun _ _ _ _ _=>(se_callTy cd_list b_list PyProof.Rows.boot_list (sa_cons (se_var 2) sa_nil))))))))
theorem sc_fifth:FnScope ["pitch","key"] ["pitch","key"] (defScope s_fifth):=⟨rfl,rfl,rfl,by decide +kernel,rfl,by decide +kernel,by decide +kernel⟩
theorem ok_fifth {f:Addr} {fd:FuncData} (F:Fun K "fifth" "fifth" s_fifth f fd)
  {f_first_alike:Addr} {fd_first_alike:FuncData} (G_first_alike:FnOk P w K mg base CX0 1 f_first_alike fd_first_alike ["low","number","divisor"] (spD ⟨P,w,K⟩ D_first_alike 3)) (m_first_alike:mg "first_alike"=some (.ref f_first_alike)) (k_first_alike:PySem.W.keepIn K (.ref f_first_alike)=true) (b_first_alike:Binds K fd_first_alike ["low","number","divisor"] []) :
  FnOk P w K mg base CX0 2 f fd ["pitch","key"] (spD ⟨P,w,K⟩ D_fifth 2):=by
 refine fnD (N:=["pitch","key"]) F sc_fifth (fun cdv A outer s H F0 hr=>?_)
 have nd:=sc_fifth.nd
 have hu:=hu10 hr
 exact (sss_one (ss_ret (se_call G_first_alike (hr.mono (by decide)) m_first_alike k_first_alike b_first_alike (sa_cons (se_op od_sub (se_var 1) se_int) (sa_cons (se_op od_mul se_int (se_var 0)) (sa_cons se_int sa_nil))))))
theorem sc_own_alter:FnScope ["letter","key"] ["letter","key"] (defScope s_own_alter):=⟨rfl,rfl,rfl,by decide +kernel,rfl,by decide +kernel,by decide +kernel⟩
theorem ok_own_alter {f:Addr} {fd:FuncData} (F:Fun K "own_alter" "own_alter" s_own_alter f fd)
  {f_first_alike:Addr} {fd_first_alike:FuncData} (G_first_alike:FnOk P w K mg base CX0 1 f_first_alike fd_first_alike ["low","number","divisor"] (spD ⟨P,w,K⟩ D_first_alike 3)) (m_first_alike:mg "first_alike"=some (.ref f_first_alike)) (k_first_alike:PySem.W.keepIn K (.ref f_first_alike)=true) (b_first_alike:Binds K fd_first_alike ["low","number","divisor"] [])
  {f_alter_at:Addr} {fd_alter_at:FuncData} (G_alter_at:FnOk P w K mg base CX0 1 f_alter_at fd_alter_at ["fifths"] (spD ⟨P,w,K⟩ D_alter_at 1)) (m_alter_at:mg "alter_at"=some (.ref f_alter_at)) (k_alter_at:PySem.W.keepIn K (.ref f_alter_at)=true) (b_alter_at:Binds K fd_alter_at ["fifths"] [])
  {u_LETTERS_BY_FIFTHS:Value} {v_LETTERS_BY_FIFTHS:V} (m_LETTERS_BY_FIFTHS:mg "LETTERS_BY_FIFTHS"=some u_LETTERS_BY_FIFTHS) (r_LETTERS_BY_FIFTHS:RelV v_LETTERS_BY_FIFTHS u_LETTERS_BY_FIFTHS) (q_LETTERS_BY_FIFTHS:∀ F,Rep ⟨P,w,K⟩ F v_LETTERS_BY_FIFTHS c_LETTERS_BY_FIFTHS) :
  FnOk P w K mg base CX0 2 f fd ["letter","key"] (spD ⟨P,w,K⟩ D_own_alter 2):=by
 refine fnD (N:=["letter","key"]) F sc_own_alter (fun cdv A outer s H F0 hr=>?_)
 have nd:=sc_own_alter.nd
 have hu:=hu10 hr
 exact (sss_one (ss_ret (se_call G_alter_at (hr.mono (by decide)) m_alter_at k_alter_at b_alter_at (sa_cons (se_call G_first_alike (hr.mono (by decide)) m_first_alike k_first_alike b_first_alike (sa_cons (se_op od_sub (se_var 1) se_int) (sa_cons (se_op od_sub (se_idx (se_glob m_LETTERS_BY_FIFTHS r_LETTERS_BY_FIFTHS q_LETTERS_BY_FIFTHS) (se_var 0)) se_int) (sa_cons se_int sa_nil)))) sa_nil))))
theorem sc__law_large:FnScope ["_law_script"] ["_law_script"] (defScope s__law_large):=⟨rfl,rfl,rfl,by decide +kernel,rfl,by decide +kernel,by decide +kernel⟩
theorem ok__law_large {f:Addr} {fd:FuncData} (F:Fun K "_law_large" "_law_large" s__law_large f fd)
  {f__law_cell:Addr} {fd__law_cell:FuncData} (G__law_cell:FnOk P w K mg base CX0 1 f__law_cell fd__law_cell ["_law_script","_law_k"] (spD ⟨P,w,K⟩ D__law_cell 2)) (m__law_cell:mg "_law_cell"=some (.ref f__law_cell)) (k__law_cell:PySem.W.keepIn K (.ref f__law_cell)=true) (b__law_cell:Binds K fd__law_cell ["_law_script","_law_k"] [])
  {f__law_mix:Addr} {fd__law_mix:FuncData} (G__law_mix:FnOk P w K mg base CX0 1 f__law_mix fd__law_mix ["_law_cell_here","_law_prime","_law_many"] (spD ⟨P,w,K⟩ D__law_mix 3)) (m__law_mix:mg "_law_mix"=some (.ref f__law_mix)) (k__law_mix:PySem.W.keepIn K (.ref f__law_mix)=true) (b__law_mix:Binds K fd__law_mix ["_law_cell_here","_law_prime","_law_many"] [])
  (b_len:mg "len"=none) :
  FnOk P w K mg base CX0 2 f fd ["_law_script"] (spD ⟨P,w,K⟩ D__law_large 1):=by
 refine fnD (N:=["_law_script"]) F sc__law_large (fun cdv A outer s H F0 hr=>?_)
 have nd:=sc__law_large.nd
 have hu:=hu10 hr
 exact (sss_one (ss_ret (se_cmp (od_eq hu) (se_call G__law_mix (hr.mono (by decide)) m__law_mix k__law_mix b__law_mix (sa_cons (se_op od_addA (se_call G__law_cell (hr.mono (by decide)) m__law_cell k__law_cell b__law_cell (sa_cons (se_var 0) (sa_cons se_int sa_nil))) (se_op od_mul se_int (se_callB cd_lenA b_len PySem.boot_len (sa_cons (se_var 0) sa_nil)))) (sa_cons se_int (sa_cons se_int sa_nil)))) se_int)))
theorem sc__law_filled:FnScope ["_law_cell_here","_law_left","_law_found","_law_value"] ["_law_cell_here","_law_left"] (defScope s__law_filled):=⟨rfl,rfl,rfl,by decide +kernel,rfl,by decide +kernel,by decide +kernel⟩
theorem ok__law_filled {f:Addr} {fd:FuncData} (F:Fun K "_law_filled" "_law_filled" s__law_filled f fd)
  {f__law_mix:Addr} {fd__law_mix:FuncData} (G__law_mix:FnOk P w K mg base CX0 1 f__law_mix fd__law_mix ["_law_cell_here","_law_prime","_law_many"] (spD ⟨P,w,K⟩ D__law_mix 3)) (m__law_mix:mg "_law_mix"=some (.ref f__law_mix)) (k__law_mix:PySem.W.keepIn K (.ref f__law_mix)=true) (b__law_mix:Binds K fd__law_mix ["_law_cell_here","_law_prime","_law_many"] [])
  (b_len:mg "len"=none) :
  FnOk P w K mg base CX0 2 f fd ["_law_cell_here","_law_left"] (spD ⟨P,w,K⟩ D__law_filled 2):=by
 refine fnD (N:=["_law_cell_here","_law_left","_law_found","_law_value"]) F sc__law_filled (fun cdv A outer s H F0 hr=>?_)
 have nd:=sc__law_filled.nd
 have hu:=hu10 hr
 exact (sss_cons (ss_set 2 nd (se_lst sa_nil))
 (sss_cons (ss_while 41 PassesOwn.never (st_cmp od_gt (se_var 1) se_int) (sss_cons (ss_set 3 nd (se_ix (se_lst (sa_cons se_int (sa_cons se_int (sa_cons se_int (sa_cons se_int (sa_cons se_int (sa_cons se_int (sa_cons se_int sa_nil)))))))) (se_call G__law_mix (hr.mono (by decide)) m__law_mix k__law_mix b__law_mix (sa_cons (se_op od_addA (se_var 0) (se_op od_mul (se_op od_mul se_int (se_callB cd_lenA b_len PySem.boot_len (sa_cons (se_var 2) sa_nil))) (se_callB cd_lenA b_len PySem.boot_len (sa_cons (se_var 2) sa_nil)))) (sa_cons se_int (sa_cons se_int sa_nil))))))
 (sss_cons (ss_if (st_cmp od_gt (se_var 3) (se_var 1)) (sss_one (ss_set 3 nd se_int)) sss_nil)
 (sss_cons (ss_app 2 (se_var 3))
 (sss_one (ss_set 1 nd (se_op od_sub (se_var 1) (se_var 3))))))))
 (sss_one (ss_retV 2))))
theorem sc__law_pitches:FnScope ["_law_cell_here","_law_wide","_law_pitch","_law_found","_law_k"] ["_law_cell_here","_law_wide"] (defScope s__law_pitches):=⟨rfl,rfl,rfl,by decide +kernel,rfl,by decide +kernel,by decide +kernel⟩
theorem ok__law_pitches {f:Addr} {fd:FuncData} (F:Fun K "_law_pitches" "_law_pitches" s__law_pitches f fd)
  {f__law_mix:Addr} {fd__law_mix:FuncData} (G__law_mix:FnOk P w K mg base CX0 1 f__law_mix fd__law_mix ["_law_cell_here","_law_prime","_law_many"] (spD ⟨P,w,K⟩ D__law_mix 3)) (m__law_mix:mg "_law_mix"=some (.ref f__law_mix)) (k__law_mix:PySem.W.keepIn K (.ref f__law_mix)=true) (b__law_mix:Binds K fd__law_mix ["_law_cell_here","_law_prime","_law_many"] [])
  (b_range:mg "range"=none)
  (b_tuple:mg "tuple"=none) :
  FnOk P w K mg base CX0 2 f fd ["_law_cell_here","_law_wide"] (spD ⟨P,w,K⟩ D__law_pitches 2):=by
 refine fnD (N:=["_law_cell_here","_law_wide","_law_pitch","_law_found","_law_k"]) F sc__law_pitches (fun cdv A outer s H F0 hr=>?_)
 have nd:=sc__law_pitches.nd
 have hu:=hu10 hr
 exact (sss_cons (ss_set 2 nd (se_op od_addA se_int (se_call G__law_mix (hr.mono (by decide)) m__law_mix k__law_mix b__law_mix (sa_cons (se_var 0) (sa_cons se_int (sa_cons se_int sa_nil))))))
 (sss_cons (ss_if (st_val (se_var 1)) (sss_one (ss_set 2 nd (se_call G__law_mix (hr.mono (by decide)) m__law_mix k__law_mix b__law_mix (sa_cons (se_var 0) (sa_cons se_int (sa_cons se_int sa_nil)))))) sss_nil)
 (sss_cons (ss_set 3 nd (se_lst (sa_cons (se_var 2) sa_nil)))
 (sss_cons (ss_for PassesOwn.never rfl (si_range1 (se_call G__law_mix (hr.mono (by decide)) m__law_mix k__law_mix b__law_mix (sa_cons (se_var 0) (sa_cons se_int (sa_cons se_int sa_nil)))) b_range) (sg_name 4 nd) (sss_one (ss_if (st_cmp od_lt (se_ix (se_var 3) (se_neg se_int)) se_int) (sss_one (ss_app 3 (se_op od_addA (se_op od_addA (se_ix (se_var 3) (se_neg se_int)) se_int) (se_call G__law_mix (hr.mono (by decide)) m__law_mix k__law_mix b__law_mix (sa_cons (se_op od_addA (se_var 0) (se_op od_mul (se_op od_mul se_int (se_var 4)) (se_var 4))) (sa_cons se_int (sa_cons se_int sa_nil))))))) sss_nil)))
 (sss_one (ss_ret (se_callTy cd_tuple b_tuple PyProof.Rows.boot_tuple (sa_cons (se_var 3) sa_nil))))))))
theorem sc_name_of:FnScope ["pitch","key","fifths","letter","alter","octave"] ["pitch","key"] (defScope s_name_of):=⟨rfl,rfl,rfl,by decide +kernel,rfl,by decide +kernel,by decide +kernel⟩
theorem ok_name_of {f:Addr} {fd:FuncData} (F:Fun K "name_of" "name_of" s_name_of f fd)
  {f_fifth:Addr} {fd_fifth:FuncData} (G_fifth:FnOk P w K mg base CX0 2 f_fifth fd_fifth ["pitch","key"] (spD ⟨P,w,K⟩ D_fifth 2)) (m_fifth:mg "fifth"=some (.ref f_fifth)) (k_fifth:PySem.W.keepIn K (.ref f_fifth)=true) (b_fifth:Binds K fd_fifth ["pitch","key"] [])
  {f_alter_at:Addr} {fd_alter_at:FuncData} (G_alter_at:FnOk P w K mg base CX0 1 f_alter_at fd_alter_at ["fifths"] (spD ⟨P,w,K⟩ D_alter_at 1)) (m_alter_at:mg "alter_at"=some (.ref f_alter_at)) (k_alter_at:PySem.W.keepIn K (.ref f_alter_at)=true) (b_alter_at:Binds K fd_alter_at ["fifths"] [])
  {u_LETTERS_BY_FIFTHS:Value} {v_LETTERS_BY_FIFTHS:V} (m_LETTERS_BY_FIFTHS:mg "LETTERS_BY_FIFTHS"=some u_LETTERS_BY_FIFTHS) (r_LETTERS_BY_FIFTHS:RelV v_LETTERS_BY_FIFTHS u_LETTERS_BY_FIFTHS) (q_LETTERS_BY_FIFTHS:∀ F,Rep ⟨P,w,K⟩ F v_LETTERS_BY_FIFTHS c_LETTERS_BY_FIFTHS)
  {u_PITCHES:Value} {v_PITCHES:V} (m_PITCHES:mg "PITCHES"=some u_PITCHES) (r_PITCHES:RelV v_PITCHES u_PITCHES) (q_PITCHES:∀ F,Rep ⟨P,w,K⟩ F v_PITCHES c_PITCHES) :
  FnOk P w K mg base CX0 3 f fd ["pitch","key"] (spD ⟨P,w,K⟩ D_name_of 2):=by
 refine fnD (N:=["pitch","key","fifths","letter","alter","octave"]) F sc_name_of (fun cdv A outer s H F0 hr=>?_)
 have nd:=sc_name_of.nd
 have hu:=hu10 hr
 exact (sss_cons (ss_set 2 nd (se_call G_fifth (hr.mono (by decide)) m_fifth k_fifth b_fifth (sa_cons (se_var 0) (sa_cons (se_var 1) sa_nil))))
 (sss_cons (ss_set 3 nd (se_ixA (se_glob m_LETTERS_BY_FIFTHS r_LETTERS_BY_FIFTHS q_LETTERS_BY_FIFTHS) (se_op od_mod (se_op od_addA (se_var 2) se_int) se_int)))
 (sss_cons (ss_set 4 nd (se_call G_alter_at (hr.mono (by decide)) m_alter_at k_alter_at b_alter_at (sa_cons (se_var 2) sa_nil)))
 (sss_cons (ss_set 5 nd (se_op od_div (se_op od_sub (se_op od_sub (se_var 0) (se_ixK (se_glob m_PITCHES r_PITCHES q_PITCHES) (se_var 3))) (se_var 4)) se_int))
 (sss_one (ss_ret (se_tup (sa_cons (se_var 3) (sa_cons (se_var 4) (sa_cons (se_var 5) sa_nil))))))))))
theorem sc_alter_by_then:FnScope ["letter","octave","alters","key"] ["letter","octave","alters","key"] (defScope s_alter_by_then):=⟨rfl,rfl,rfl,by decide +kernel,rfl,by decide +kernel,by decide +kernel⟩
theorem ok_alter_by_then {f:Addr} {fd:FuncData} (F:Fun K "alter_by_then" "alter_by_then" s_alter_by_then f fd)
  {f_own_alter:Addr} {fd_own_alter:FuncData} (G_own_alter:FnOk P w K mg base CX0 2 f_own_alter fd_own_alter ["letter","key"] (spD ⟨P,w,K⟩ D_own_alter 2)) (m_own_alter:mg "own_alter"=some (.ref f_own_alter)) (k_own_alter:PySem.W.keepIn K (.ref f_own_alter)=true) (b_own_alter:Binds K fd_own_alter ["letter","key"] []) :
  FnOk P w K mg base CX0 3 f fd ["letter","octave","alters","key"] (spD ⟨P,w,K⟩ D_alter_by_then 4):=by
 refine fnD (N:=["letter","octave","alters","key"]) F sc_alter_by_then (fun cdv A outer s H F0 hr=>?_)
 have nd:=sc_alter_by_then.nd
 have hu:=hu10 hr
 exact (sss_one (ss_ret (se_getT hu (se_var 2) (sa_cons (se_var 0) (sa_cons (se_var 1) sa_nil)) (se_call G_own_alter (hr.mono (by decide)) m_own_alter k_own_alter b_own_alter (sa_cons (se_var 0) (sa_cons (se_var 3) sa_nil))))))
theorem sc__law_played_row:FnScope ["_law_cell_here","_law_going","_law_wide","_law_size","_law_row","_law_k","_law_value","_law_other","_law_tied"] ["_law_cell_here","_law_going","_law_wide","_law_size"] (defScope s__law_played_row):=⟨rfl,rfl,rfl,by decide +kernel,rfl,by decide +kernel,by decide +kernel⟩
theorem ok__law_played_row {f:Addr} {fd:FuncData} (F:Fun K "_law_played_row" "_law_played_row" s__law_played_row f fd)
  {f__law_filled:Addr} {fd__law_filled:FuncData} (G__law_filled:FnOk P w K mg base CX0 2 f__law_filled fd__law_filled ["_law_cell_here","_law_left"] (spD ⟨P,w,K⟩ D__law_filled 2)) (m__law_filled:mg "_law_filled"=some (.ref f__law_filled)) (k__law_filled:PySem.W.keepIn K (.ref f__law_filled)=true) (b__law_filled:Binds K fd__law_filled ["_law_cell_here","_law_left"] [])
  {f__law_mix:Addr} {fd__law_mix:FuncData} (G__law_mix:FnOk P w K mg base CX0 1 f__law_mix fd__law_mix ["_law_cell_here","_law_prime","_law_many"] (spD ⟨P,w,K⟩ D__law_mix 3)) (m__law_mix:mg "_law_mix"=some (.ref f__law_mix)) (k__law_mix:PySem.W.keepIn K (.ref f__law_mix)=true) (b__law_mix:Binds K fd__law_mix ["_law_cell_here","_law_prime","_law_many"] [])
  {f__law_pitches:Addr} {fd__law_pitches:FuncData} (G__law_pitches:FnOk P w K mg base CX0 2 f__law_pitches fd__law_pitches ["_law_cell_here","_law_wide"] (spD ⟨P,w,K⟩ D__law_pitches 2)) (m__law_pitches:mg "_law_pitches"=some (.ref f__law_pitches)) (k__law_pitches:PySem.W.keepIn K (.ref f__law_pitches)=true) (b__law_pitches:Binds K fd__law_pitches ["_law_cell_here","_law_wide"] [])
  (b_enumerate:mg "enumerate"=none) :
  FnOk P w K mg base CX0 3 f fd ["_law_cell_here","_law_going","_law_wide","_law_size"] (spD ⟨P,w,K⟩ D__law_played_row 4):=by
 refine fnD (N:=["_law_cell_here","_law_going","_law_wide","_law_size","_law_row","_law_k","_law_value","_law_other","_law_tied"]) F sc__law_played_row (fun cdv A outer s H F0 hr=>?_)
 have nd:=sc__law_played_row.nd
 have hu:=hu10 hr
 exact (sss_cons (ss_set 4 nd (se_lst sa_nil))
 (sss_cons (ss_for PassesOwn.never rfl (si_enumE (se_call G__law_filled (hr.mono (by decide)) m__law_filled k__law_filled b__law_filled (sa_cons (se_var 0) (sa_cons (se_var 3) sa_nil))) b_enumerate) (sg_tup rfl (sgs_cons 5 nd (sgs_cons 6 nd sgs_nil))) (sss_cons (ss_set 7 nd (se_op od_addA (se_var 0) (se_op od_mul (se_op od_mul se_int (se_var 5)) (se_var 5))))
 (sss_cons (ss_if (st_w (sw_and (st_cmp od_isN (se_var 1) se_non) (sw_and1 (st_cmp (od_eq hu) (se_call G__law_mix (hr.mono (by decide)) m__law_mix k__law_mix b__law_mix (sa_cons (se_var 7) (sa_cons se_int (sa_cons se_int sa_nil)))) se_int)))) (sss_cons (ss_app 4 (se_tup (sa_cons se_str (sa_cons (se_var 6) sa_nil))))
 (sss_one ss_continue)) sss_nil)
 (sss_cons (ss_if (st_cmp od_isN (se_var 1) se_non) (sss_one (ss_set 1 nd (se_call G__law_pitches (hr.mono (by decide)) m__law_pitches k__law_pitches b__law_pitches (sa_cons (se_var 7) (sa_cons (se_var 2) sa_nil))))) sss_nil)
 (sss_cons (ss_set 8 nd (se_cmp (od_eq hu) (se_call G__law_mix (hr.mono (by decide)) m__law_mix k__law_mix b__law_mix (sa_cons (se_var 7) (sa_cons se_int (sa_cons se_int sa_nil)))) se_int))
 (sss_cons (ss_app 4 (se_tup (sa_cons se_str (sa_cons (se_var 6) (sa_cons (se_var 1) (sa_cons (se_var 8) sa_nil))))))
 (sss_one (ss_if (st_not (st_val (se_var 8))) (sss_one (ss_set 1 nd se_non)) sss_nil))))))))
 (sss_one (ss_retP 4 1))))
theorem sc_heads_of:FnScope ["pitches","tied","alters","key","heads","pitch","name","letter","octave","sign"] ["pitches","tied","alters","key"] (defScope s_heads_of):=⟨rfl,rfl,rfl,by decide +kernel,rfl,by decide +kernel,by decide +kernel⟩
theorem ok_heads_of {f:Addr} {fd:FuncData} (F:Fun K "heads_of" "heads_of" s_heads_of f fd)
  {f_name_of:Addr} {fd_name_of:FuncData} (G_name_of:FnOk P w K mg base CX0 3 f_name_of fd_name_of ["pitch","key"] (spD ⟨P,w,K⟩ D_name_of 2)) (m_name_of:mg "name_of"=some (.ref f_name_of)) (k_name_of:PySem.W.keepIn K (.ref f_name_of)=true) (b_name_of:Binds K fd_name_of ["pitch","key"] [])
  {f_alter_by_then:Addr} {fd_alter_by_then:FuncData} (G_alter_by_then:FnOk P w K mg base CX0 3 f_alter_by_then fd_alter_by_then ["letter","octave","alters","key"] (spD ⟨P,w,K⟩ D_alter_by_then 4)) (m_alter_by_then:mg "alter_by_then"=some (.ref f_alter_by_then)) (k_alter_by_then:PySem.W.keepIn K (.ref f_alter_by_then)=true) (b_alter_by_then:Binds K fd_alter_by_then ["letter","octave","alters","key"] [])
  (b_tuple:mg "tuple"=none) :
  FnOk P w K mg base CX0 4 f fd ["pitches","tied","alters","key"] (spI ⟨P,w,K⟩ D_heads_of 4):=by
 refine fnI (N:=["pitches","tied","alters","key","heads","pitch","name","letter","octave","sign"]) F sc_heads_of (fun cdv A outer s H F0 H0 hr=>?_)
 have nd:=sc_heads_of.nd
 have hu:=hu10 hr
 exact (sss_cons (ss_set 4 nd (se_lst sa_nil))
 (sss_cons (ss_frz 0 (ss_for PassesOwn.never rfl (si_var 0) (sg_name 5 nd) (sss_cons (ss_set 6 nd (se_call G_name_of (hr.mono (by decide)) m_name_of k_name_of b_name_of (sa_cons (se_var 5) (sa_cons (se_var 3) sa_nil))))
 (sss_cons (ss_set 7 nd (se_ix (se_var 6) se_int))
 (sss_cons (ss_set 8 nd (se_ix (se_var 6) se_int))
 (sss_cons (ss_set 9 nd se_non)
 (sss_cons (ss_if (st_w (sw_and (st_cmp od_isN (se_var 1) se_non) (sw_and1 (st_cmp (od_ne hu) (se_call G_alter_by_then (hr.mono (by decide)) m_alter_by_then k_alter_by_then b_alter_by_then (sa_cons (se_var 7) (sa_cons (se_var 8) (sa_cons (se_varI 2) (sa_cons (se_var 3) sa_nil))))) (se_ix (se_var 6) se_int))))) (sss_cons (ss_set 9 nd (se_ix (se_var 6) se_int))
 (sss_one (ss_putI 2 hu (sa_cons (se_var 7) (sa_cons (se_var 8) sa_nil)) (se_var 9)))) sss_nil)
 (sss_one (ss_app 4 (se_tup (sa_cons (se_var 7) (sa_cons (se_var 8) (sa_cons (se_var 9) sa_nil)))))))))))))
 (sss_one (ss_retI 2 (se_callTy cd_tuple b_tuple PyProof.Rows.boot_tuple (sa_cons (se_var 4) sa_nil))))))
theorem sc_pitches_of:FnScope ["heads","tied","alters","key","pitches","head","letter","octave"] ["heads","tied","alters","key"] (defScope s_pitches_of):=⟨rfl,rfl,rfl,by decide +kernel,rfl,by decide +kernel,by decide +kernel⟩
theorem ok_pitches_of {f:Addr} {fd:FuncData} (F:Fun K "pitches_of" "pitches_of" s_pitches_of f fd)
  {f_alter_by_then:Addr} {fd_alter_by_then:FuncData} (G_alter_by_then:FnOk P w K mg base CX0 3 f_alter_by_then fd_alter_by_then ["letter","octave","alters","key"] (spD ⟨P,w,K⟩ D_alter_by_then 4)) (m_alter_by_then:mg "alter_by_then"=some (.ref f_alter_by_then)) (k_alter_by_then:PySem.W.keepIn K (.ref f_alter_by_then)=true) (b_alter_by_then:Binds K fd_alter_by_then ["letter","octave","alters","key"] [])
  {f_pitch_of:Addr} {fd_pitch_of:FuncData} (G_pitch_of:FnOk P w K mg base CX0 1 f_pitch_of fd_pitch_of ["name"] (spD ⟨P,w,K⟩ D_pitch_of 1)) (m_pitch_of:mg "pitch_of"=some (.ref f_pitch_of)) (k_pitch_of:PySem.W.keepIn K (.ref f_pitch_of)=true) (b_pitch_of:Binds K fd_pitch_of ["name"] [])
  (b_tuple:mg "tuple"=none) :
  FnOk P w K mg base CX0 4 f fd ["heads","tied","alters","key"] (spI ⟨P,w,K⟩ D_pitches_of 4):=by
 refine fnI (N:=["heads","tied","alters","key","pitches","head","letter","octave"]) F sc_pitches_of (fun cdv A outer s H F0 H0 hr=>?_)
 have nd:=sc_pitches_of.nd
 have hu:=hu10 hr
 exact (sss_cons (ss_if (st_cmp od_isNotN (se_var 1) se_non) (sss_one (ss_retI 2 (se_var 1))) sss_nil)
 (sss_cons (ss_set 4 nd (se_lst sa_nil))
 (sss_cons (ss_frz 0 (ss_for PassesOwn.never rfl (si_var 0) (sg_name 5 nd) (sss_cons (ss_set 6 nd (se_ix (se_var 5) se_int))
 (sss_cons (ss_set 7 nd (se_ix (se_var 5) se_int))
 (sss_cons (ss_if (st_cmp od_isNotN (se_ix (se_var 5) se_int) se_non) (sss_one (ss_putI 2 hu (sa_cons (se_var 6) (sa_cons (se_var 7) sa_nil)) (se_ix (se_var 5) se_int))) sss_nil)
 (sss_one (ss_app 4 (se_call G_pitch_of (hr.mono (by decide)) m_pitch_of k_pitch_of b_pitch_of (sa_cons (se_tup (sa_cons (se_var 6) (sa_cons (se_call G_alter_by_then (hr.mono (by decide)) m_alter_by_then k_alter_by_then b_alter_by_then (sa_cons (se_var 6) (sa_cons (se_var 7) (sa_cons (se_varI 2) (sa_cons (se_var 3) sa_nil))))) (sa_cons (se_var 7) sa_nil)))) sa_nil)))))))))
 (sss_one (ss_retI 2 (se_callTy cd_tuple b_tuple PyProof.Rows.boot_tuple (sa_cons (se_var 4) sa_nil)))))))
theorem sc__law_bars:FnScope ["_law_script","_law_wide","_law_most","_law_voices","_law_many","_law_found","_law_v","_law_going","_law_b","_law_cell_here","_law_row"] ["_law_script","_law_wide"] (defScope s__law_bars):=⟨rfl,rfl,rfl,by decide +kernel,rfl,by decide +kernel,by decide +kernel⟩
theorem ok__law_bars {f:Addr} {fd:FuncData} (F:Fun K "_law_bars" "_law_bars" s__law_bars f fd)
  {f__law_large:Addr} {fd__law_large:FuncData} (G__law_large:FnOk P w K mg base CX0 2 f__law_large fd__law_large ["_law_script"] (spD ⟨P,w,K⟩ D__law_large 1)) (m__law_large:mg "_law_large"=some (.ref f__law_large)) (k__law_large:PySem.W.keepIn K (.ref f__law_large)=true) (b__law_large:Binds K fd__law_large ["_law_script"] [])
  {f__law_cell:Addr} {fd__law_cell:FuncData} (G__law_cell:FnOk P w K mg base CX0 1 f__law_cell fd__law_cell ["_law_script","_law_k"] (spD ⟨P,w,K⟩ D__law_cell 2)) (m__law_cell:mg "_law_cell"=some (.ref f__law_cell)) (k__law_cell:PySem.W.keepIn K (.ref f__law_cell)=true) (b__law_cell:Binds K fd__law_cell ["_law_script","_law_k"] [])
  {f__law_played_row:Addr} {fd__law_played_row:FuncData} (G__law_played_row:FnOk P w K mg base CX0 3 f__law_played_row fd__law_played_row ["_law_cell_here","_law_going","_law_wide","_law_size"] (spD ⟨P,w,K⟩ D__law_played_row 4)) (m__law_played_row:mg "_law_played_row"=some (.ref f__law_played_row)) (k__law_played_row:PySem.W.keepIn K (.ref f__law_played_row)=true) (b__law_played_row:Binds K fd__law_played_row ["_law_cell_here","_law_going","_law_wide","_law_size"] [])
  {f__law_let_go:Addr} {fd__law_let_go:FuncData} (G__law_let_go:FnOk P w K mg base CX0 1 f__law_let_go fd__law_let_go ["_law_row"] (spM ⟨P,w,K⟩ D__law_let_go)) (m__law_let_go:mg "_law_let_go"=some (.ref f__law_let_go)) (k__law_let_go:PySem.W.keepIn K (.ref f__law_let_go)=true) (b__law_let_go:Binds K fd__law_let_go ["_law_row"] [])
  (b_len:mg "len"=none)
  (b_range:mg "range"=none) :
  FnOk P w K mg base CX0 4 f fd ["_law_script","_law_wide"] (spD ⟨P,w,K⟩ D__law_bars 2):=by
 refine fnD (N:=["_law_script","_law_wide","_law_most","_law_voices","_law_many","_law_found","_law_v","_law_going","_law_b","_law_cell_here","_law_row"]) F sc__law_bars (fun cdv A outer s H F0 hr=>?_)
 have nd:=sc__law_bars.nd
 have hu:=hu10 hr
 have nd1:(["_law_script","_law_wide","_law_most","_law_voices","_law_many","_law_found","_law_v","_law_going","_law_b","_law_cell_here","_law_row","_law_k"]:List Str).Nodup:=by decide +kernel
 exact (sss_cons (ss_set 2 nd se_int)
 (sss_cons (ss_if (st_val (se_call G__law_large (hr.mono (by decide)) m__law_large k__law_large b__law_large (sa_cons (se_var 0) sa_nil))) (sss_one (ss_set 2 nd se_int)) sss_nil)
 (sss_cons (ss_if (st_cmp od_gt (se_callB cd_lenA b_len PySem.boot_len (sa_cons (se_var 0) sa_nil)) se_int) (sss_one (ss_set 2 nd se_int)) sss_nil)
 (sss_cons (ss_set 3 nd (se_op od_addA se_int (se_op od_mod (se_op od_div (se_call G__law_cell (hr.mono (by decide)) m__law_cell k__law_cell b__law_cell (sa_cons (se_var 0) (sa_cons se_int sa_nil))) se_int) (se_var 2))))
 (sss_cons (ss_set 4 nd (se_op od_addA se_int (se_op od_mod (se_call G__law_cell (hr.mono (by decide)) m__law_cell k__law_cell b__law_cell (sa_cons (se_var 0) (sa_cons se_int sa_nil))) se_int)))
 (sss_cons (by first|exact ss_setCG 5 (n:=1) ["_law_script","_law_wide","_law_most","_law_voices","_law_many","_law_found","_law_v","_law_going","_law_b","_law_cell_here","_law_row","_law_k"] (fun _ _=>memO _ _ _) nd (SI.c (si_range1 (se_var 4) b_range)) (no_gV 11) (fun _ _ _ _ _=>(sg_name 11 nd1)) (fun _ _ _ _ _=>(se_lst sa_nil))|exact ss_setO 5 nd (se_compG (n:=1) ["_law_script","_law_wide","_law_most","_law_voices","_law_many","_law_found","_law_v","_law_going","_law_b","_law_cell_here","_law_row","_law_k"] (fun _ _=>memO _ _ _) (SI.c (si_range1 (se_var 4) b_range)) (no_gV 11) (fun _ _ _ _ _=>(sg_name 11 nd1)) (fun _ _ _ _ _=>(se_lst sa_nil))))
 (sss_cons (ss_for PassesOwn.never rfl (si_range1 (se_var 3) b_range) (sg_name 6 nd) (sss_cons (ss_set 7 nd se_non)
 (sss_one (ss_for PassesOwn.never rfl (si_range1 (se_var 4) b_range) (sg_name 8 nd) (sss_cons (ss_set 9 nd (se_op od_addA (se_op od_addA (se_call G__law_cell (hr.mono (by decide)) m__law_cell k__law_cell b__law_cell (sa_cons (se_var 0) (sa_cons (se_op od_addA se_int (se_op od_mod (se_op od_addA (se_op od_mul se_int (se_var 6)) (se_var 8)) se_int)) sa_nil))) (se_op od_mul (se_op od_mul se_int (se_var 6)) (se_var 6))) (se_op od_mul (se_op od_mul se_int (se_var 8)) (se_var 8))))
 (sss_cons (ss_asgP 10 7 nd (se_call G__law_played_row (hr.mono (by decide)) m__law_played_row k__law_played_row b__law_played_row (sa_cons (se_var 9) (sa_cons (se_var 7) (sa_cons (se_var 1) (sa_cons (se_ix (se_lst (sa_cons se_int (sa_cons se_int (sa_cons se_int (sa_cons se_int sa_nil))))) (se_var 8)) sa_nil))))))
 (sss_cons (ss_if (st_cmp (od_eq hu) (se_var 8) (se_op od_sub (se_var 4) se_int)) (sss_one (ss_move 10 nd G__law_let_go (hr.mono (by decide)) m__law_let_go k__law_let_go b__law_let_go)) sss_nil)
 (sss_one (ss_frz 10 (ss_appIx 5 (se_var 8) (se_var 10)))))))))))
 (sss_one (ss_shut 5 (ss_retV 5))))))))))
theorem sc_turned:FnScope ["bars","key","turn","told","ahead","bar","alters","rows","spot","voice","event","tied"] ["bars","key","turn"] (defScope s_turned):=⟨rfl,rfl,rfl,by decide +kernel,rfl,by decide +kernel,by decide +kernel⟩
theorem ok_turned {f:Addr} {fd:FuncData} (F:Fun K "turned" "turned" s_turned f fd)
  {f_in_order:Addr} {fd_in_order:FuncData} (G_in_order:FnOk P w K mg base CX0 1 f_in_order fd_in_order ["bar"] (spD ⟨P,w,K⟩ D_in_order 1)) (m_in_order:mg "in_order"=some (.ref f_in_order)) (k_in_order:PySem.W.keepIn K (.ref f_in_order)=true) (b_in_order:Binds K fd_in_order ["bar"] [])
  {f_tied_to_next:Addr} {fd_tied_to_next:FuncData} (G_tied_to_next:FnOk P w K mg base CX0 1 f_tied_to_next fd_tied_to_next ["event"] (spD ⟨P,w,K⟩ D_tied_to_next 1)) (m_tied_to_next:mg "tied_to_next"=some (.ref f_tied_to_next)) (k_tied_to_next:PySem.W.keepIn K (.ref f_tied_to_next)=true) (b_tied_to_next:Binds K fd_tied_to_next ["event"] [])
  {f_heads_of:Addr} {fd_heads_of:FuncData} (G_heads_of:FnOk P w K mg base CX0 4 f_heads_of fd_heads_of ["pitches","tied","alters","key"] (spI ⟨P,w,K⟩ D_heads_of 4)) (m_heads_of:mg "heads_of"=some (.ref f_heads_of)) (k_heads_of:PySem.W.keepIn K (.ref f_heads_of)=true) (b_heads_of:Binds K fd_heads_of ["pitches","tied","alters","key"] [])
  {f_pitches_of:Addr} {fd_pitches_of:FuncData} (G_pitches_of:FnOk P w K mg base CX0 4 f_pitches_of fd_pitches_of ["heads","tied","alters","key"] (spI ⟨P,w,K⟩ D_pitches_of 4)) (m_pitches_of:mg "pitches_of"=some (.ref f_pitches_of)) (k_pitches_of:PySem.W.keepIn K (.ref f_pitches_of)=true) (b_pitches_of:Binds K fd_pitches_of ["heads","tied","alters","key"] [])
  (n_heads_of:PySem.W.nsIn K mainGlobals "heads_of"=some (some (.ref f_heads_of)))
  (n_pitches_of:PySem.W.nsIn K mainGlobals "pitches_of"=some (some (.ref f_pitches_of))) :
  FnOk P w K mg base CX0 5 f fd ["bars","key","turn"] (spD ⟨P,w,K⟩ D_turned 3):=by
 refine fnD (N:=["bars","key","turn","told","ahead","bar","alters","rows","spot","voice","event","tied"]) F sc_turned (fun cdv A outer s H F0 hr=>?_)
 have nd:=sc_turned.nd
 have hu:=hu10 hr
 have nd1:(["bars","key","turn","told","ahead","bar","alters","rows","spot","voice","event","tied","row"]:List Str).Nodup:=by decide +kernel
 exact (sss_cons (ss_set 3 nd (se_lst sa_nil))
 (sss_cons (ss_set 4 nd se_dK)
 (sss_cons (ss_frz 0 (ss_for PassesOwn.never rfl (si_var 0) (sg_name 5 nd) (sss_cons (ss_set 6 nd se_dT)
 (sss_cons (by first|exact ss_setCG 7 (n:=1) ["bars","key","turn","told","ahead","bar","alters","rows","spot","voice","event","tied","row"] (fun _ _=>memO _ _ _) nd (sic_var 5) (no_gV 12) (fun _ _ _ _ _=>(sg_name 12 nd1)) (fun _ _ _ _ _=>(se_lst sa_nil))|exact ss_setO 7 nd (se_compG (n:=1) ["bars","key","turn","told","ahead","bar","alters","rows","spot","voice","event","tied","row"] (fun _ _=>memO _ _ _) (sic_var 5) (no_gV 12) (fun _ _ _ _ _=>(sg_name 12 nd1)) (fun _ _ _ _ _=>(se_lst sa_nil))))
 (sss_cons (ss_for PassesOwn.never rfl (si_seq (se_call G_in_order (hr.mono (by decide)) m_in_order k_in_order b_in_order (sa_cons (se_var 5) sa_nil))) (sg_name 8 nd) (sss_cons (ss_set 9 nd (se_ix (se_var 8) se_int))
 (sss_cons (ss_set 10 nd (se_ix (se_ix (se_var 5) (se_var 9)) (se_ix (se_var 8) se_int)))
 (sss_cons (ss_if (st_cmp (od_eq hu) (se_ix (se_var 10) se_int) se_str) (sss_cons (ss_set 11 nd (se_call G_tied_to_next (hr.mono (by decide)) m_tied_to_next k_tied_to_next b_tied_to_next (sa_cons (se_get1 (se_var 4) (se_var 9)) sa_nil)))
 (sss_one (ss_io 10 nd (sio_tup (sax_pure se_str (sax_pure (se_ix (se_var 10) se_int) (sax_io (sio_callV2 2 G_heads_of (hr.mono (by decide)) k_heads_of b_heads_of n_heads_of G_pitches_of (hr.mono (by decide)) k_pitches_of b_pitches_of n_pitches_of (sai_cons (se_ix (se_var 10) se_int) (sai_cons (se_var 11) (sai_here 6 (sa_cons (se_var 1) sa_nil))))) (sax_pure (se_ix (se_var 10) se_int) sax_nil)))))))) sss_nil)
 (sss_cons (ss_appIx 7 (se_var 9) (se_var 10))
 (sss_one (ss_putK 4 hu (se_var 9) (se_var 10))))))))
 (sss_one (ss_shut 7 (ss_frz 7 (ss_app 3 (se_var 7))))))))))
 (sss_one (ss_retV 3)))))
theorem sc_signed:FnScope ["bars","key"] ["bars","key"] (defScope s_signed):=⟨rfl,rfl,rfl,by decide +kernel,rfl,by decide +kernel,by decide +kernel⟩
theorem ok_signed {f:Addr} {fd:FuncData} (F:Fun K "signed" "signed" s_signed f fd)
  {f_heads_of:Addr} {fd_heads_of:FuncData} (G_heads_of:FnOk P w K mg base CX0 4 f_heads_of fd_heads_of ["pitches","tied","alters","key"] (spI ⟨P,w,K⟩ D_heads_of 4)) (m_heads_of:mg "heads_of"=some (.ref f_heads_of)) (k_heads_of:PySem.W.keepIn K (.ref f_heads_of)=true) (b_heads_of:Binds K fd_heads_of ["pitches","tied","alters","key"] [])
  {f_turned:Addr} {fd_turned:FuncData} (G_turned:FnOk P w K mg base CX0 5 f_turned fd_turned ["bars","key","turn"] (spD ⟨P,w,K⟩ D_turned 3)) (m_turned:mg "turned"=some (.ref f_turned)) (k_turned:PySem.W.keepIn K (.ref f_turned)=true) (b_turned:Binds K fd_turned ["bars","key","turn"] [])
  (n_heads_of:PySem.W.nsIn K mainGlobals "heads_of"=some (some (.ref f_heads_of))) :
  FnOk P w K mg base CX0 6 f fd ["bars","key"] (spD ⟨P,w,K⟩ D_signed 2):=by
 refine fnD (N:=["bars","key"]) F sc_signed (fun cdv A outer s H F0 hr=>?_)
 have nd:=sc_signed.nd
 have hu:=hu10 hr
 exact (sss_one (ss_ret (se_call G_turned (hr.mono (by decide)) m_turned k_turned b_turned (sa_cons (se_var 0) (sa_cons (se_var 1) (sa_cons (se_fn m_heads_of n_heads_of) sa_nil))))))
theorem sc_heard:FnScope ["bars","key"] ["bars","key"] (defScope s_heard):=⟨rfl,rfl,rfl,by decide +kernel,rfl,by decide +kernel,by decide +kernel⟩
theorem ok_heard {f:Addr} {fd:FuncData} (F:Fun K "heard" "heard" s_heard f fd)
  {f_pitches_of:Addr} {fd_pitches_of:FuncData} (G_pitches_of:FnOk P w K mg base CX0 4 f_pitches_of fd_pitches_of ["heads","tied","alters","key"] (spI ⟨P,w,K⟩ D_pitches_of 4)) (m_pitches_of:mg "pitches_of"=some (.ref f_pitches_of)) (k_pitches_of:PySem.W.keepIn K (.ref f_pitches_of)=true) (b_pitches_of:Binds K fd_pitches_of ["heads","tied","alters","key"] [])
  {f_turned:Addr} {fd_turned:FuncData} (G_turned:FnOk P w K mg base CX0 5 f_turned fd_turned ["bars","key","turn"] (spD ⟨P,w,K⟩ D_turned 3)) (m_turned:mg "turned"=some (.ref f_turned)) (k_turned:PySem.W.keepIn K (.ref f_turned)=true) (b_turned:Binds K fd_turned ["bars","key","turn"] [])
  (n_pitches_of:PySem.W.nsIn K mainGlobals "pitches_of"=some (some (.ref f_pitches_of))) :
  FnOk P w K mg base CX0 6 f fd ["bars","key"] (spD ⟨P,w,K⟩ D_heard 2):=by
 refine fnD (N:=["bars","key"]) F sc_heard (fun cdv A outer s H F0 hr=>?_)
 have nd:=sc_heard.nd
 have hu:=hu10 hr
 exact (sss_one (ss_ret (se_call G_turned (hr.mono (by decide)) m_turned k_turned b_turned (sa_cons (se_var 0) (sa_cons (se_var 1) (sa_cons (se_fn m_pitches_of n_pitches_of) sa_nil))))))
theorem sc_law:FnScope ["_law_script","_law_bars_here","_law_key","_law_found","_law_kept","_law_told"] ["_law_script"] (defScope s_law):=⟨rfl,rfl,rfl,by decide +kernel,rfl,by decide +kernel,by decide +kernel⟩
theorem ok_law {f:Addr} {fd:FuncData} (F:Fun K "law" "law" s_law f fd)
  {f__law_cell:Addr} {fd__law_cell:FuncData} (G__law_cell:FnOk P w K mg base CX0 1 f__law_cell fd__law_cell ["_law_script","_law_k"] (spD ⟨P,w,K⟩ D__law_cell 2)) (m__law_cell:mg "_law_cell"=some (.ref f__law_cell)) (k__law_cell:PySem.W.keepIn K (.ref f__law_cell)=true) (b__law_cell:Binds K fd__law_cell ["_law_script","_law_k"] [])
  {f__law_bars:Addr} {fd__law_bars:FuncData} (G__law_bars:FnOk P w K mg base CX0 4 f__law_bars fd__law_bars ["_law_script","_law_wide"] (spD ⟨P,w,K⟩ D__law_bars 2)) (m__law_bars:mg "_law_bars"=some (.ref f__law_bars)) (k__law_bars:PySem.W.keepIn K (.ref f__law_bars)=true) (b__law_bars:Binds K fd__law_bars ["_law_script","_law_wide"] [])
  {f__law_copy:Addr} {fd__law_copy:FuncData} (G__law_copy:FnOk P w K mg base CX0 1 f__law_copy fd__law_copy ["_law_bars_here"] (spD ⟨P,w,K⟩ D__law_copy 1)) (m__law_copy:mg "_law_copy"=some (.ref f__law_copy)) (k__law_copy:PySem.W.keepIn K (.ref f__law_copy)=true) (b__law_copy:Binds K fd__law_copy ["_law_bars_here"] [])
  {f_signed:Addr} {fd_signed:FuncData} (G_signed:FnOk P w K mg base CX0 6 f_signed fd_signed ["bars","key"] (spD ⟨P,w,K⟩ D_signed 2)) (m_signed:mg "signed"=some (.ref f_signed)) (k_signed:PySem.W.keepIn K (.ref f_signed)=true) (b_signed:Binds K fd_signed ["bars","key"] [])
  {f_heard:Addr} {fd_heard:FuncData} (G_heard:FnOk P w K mg base CX0 6 f_heard fd_heard ["bars","key"] (spD ⟨P,w,K⟩ D_heard 2)) (m_heard:mg "heard"=some (.ref f_heard)) (k_heard:PySem.W.keepIn K (.ref f_heard)=true) (b_heard:Binds K fd_heard ["bars","key"] [])
  (b_isinstance:mg "isinstance"=none)
  (b_list:mg "list"=none) :
  FnOk P w K mg base CX0 7 f fd ["_law_script"] (spD ⟨P,w,K⟩ D_law 1):=by
 refine fnD (N:=["_law_script","_law_bars_here","_law_key","_law_found","_law_kept","_law_told"]) F sc_law (fun cdv A outer s H F0 hr=>?_)
 have nd:=sc_law.nd
 have hu:=hu10 hr
 exact (sss_cons (ss_set 1 nd (se_call G__law_bars (hr.mono (by decide)) m__law_bars k__law_bars b__law_bars (sa_cons (se_var 0) (sa_cons (se_cmp (od_eq hu) (se_op od_mod (se_call G__law_cell (hr.mono (by decide)) m__law_cell k__law_cell b__law_cell (sa_cons (se_var 0) (sa_cons se_int sa_nil))) se_int) se_int) sa_nil))))
 (sss_cons (ss_set 2 nd (se_op od_sub (se_op od_mod (se_call G__law_cell (hr.mono (by decide)) m__law_cell k__law_cell b__law_cell (sa_cons (se_var 0) (sa_cons se_int sa_nil))) se_int) se_int))
 (sss_cons (ss_set 3 nd (se_call G_signed (hr.mono (by decide)) m_signed k_signed b_signed (sa_cons (se_shut (se_call G__law_copy (hr.mono (by decide)) m__law_copy k__law_copy b__law_copy (sa_cons (se_var 1) sa_nil))) (sa_cons (se_var 2) sa_nil))))
 (sss_cons (ss_setS 4 nd (se_call G__law_copy (hr.mono (by decide)) m__law_copy k__law_copy b__law_copy (sa_cons (se_var 3) sa_nil)))
 (sss_cons (ss_set 5 nd (se_call G_heard (hr.mono (by decide)) m_heard k_heard b_heard (sa_cons (se_var 4) (sa_cons (se_var 2) sa_nil))))
 (sss_one (ss_ret (se_and (se_isi .list (se_var 5) b_isinstance b_list) (se_and (se_cmp (od_eq hu) (se_var 5) (se_var 1)) (se_one (se_cmp (od_eq hu) (se_var 4) (se_var 3))))))))))))
end
theorem all_mk {l:PySem.W.OpenLaw} {w:World} {K:PySem.W.Frag} {h:Heap} {mg:Str→Option Value} {fa:Addr} (X:K.In h) (G:h.Ns mainGlobals mg) (hfa:mg "law"=some (.ref fa))
  {f_first_alike:Addr} {od_first_alike an_first_alike:Option Addr} {sl_first_alike:Array (Option Value)} {oc_first_alike kV_first_alike dc_first_alike pm_first_alike cd_first_alike ct_first_alike:Value}
  {f_alter_at:Addr} {od_alter_at an_alter_at:Option Addr} {sl_alter_at:Array (Option Value)} {oc_alter_at kV_alter_at dc_alter_at pm_alter_at cd_alter_at ct_alter_at:Value}
  {f_pitch_of:Addr} {od_pitch_of an_pitch_of:Option Addr} {sl_pitch_of:Array (Option Value)} {oc_pitch_of kV_pitch_of dc_pitch_of pm_pitch_of cd_pitch_of ct_pitch_of:Value}
  {f_in_order:Addr} {od_in_order an_in_order:Option Addr} {sl_in_order:Array (Option Value)} {oc_in_order kV_in_order dc_in_order pm_in_order cd_in_order ct_in_order:Value}
  {f_tied_to_next:Addr} {od_tied_to_next an_tied_to_next:Option Addr} {sl_tied_to_next:Array (Option Value)} {oc_tied_to_next kV_tied_to_next dc_tied_to_next pm_tied_to_next cd_tied_to_next ct_tied_to_next:Value}
  {f__law_cell:Addr} {od__law_cell an__law_cell:Option Addr} {sl__law_cell:Array (Option Value)} {oc__law_cell kV__law_cell dc__law_cell pm__law_cell cd__law_cell ct__law_cell:Value}
  {f__law_mix:Addr} {od__law_mix an__law_mix:Option Addr} {sl__law_mix:Array (Option Value)} {oc__law_mix kV__law_mix dc__law_mix pm__law_mix cd__law_mix ct__law_mix:Value}
  {f__law_let_go:Addr} {od__law_let_go an__law_let_go:Option Addr} {sl__law_let_go:Array (Option Value)} {oc__law_let_go kV__law_let_go dc__law_let_go pm__law_let_go cd__law_let_go ct__law_let_go:Value}
  {f__law_copy:Addr} {od__law_copy an__law_copy:Option Addr} {sl__law_copy:Array (Option Value)} {oc__law_copy kV__law_copy dc__law_copy pm__law_copy cd__law_copy ct__law_copy:Value}
  {f_fifth:Addr} {od_fifth an_fifth:Option Addr} {sl_fifth:Array (Option Value)} {oc_fifth kV_fifth dc_fifth pm_fifth cd_fifth ct_fifth:Value}
  {f_own_alter:Addr} {od_own_alter an_own_alter:Option Addr} {sl_own_alter:Array (Option Value)} {oc_own_alter kV_own_alter dc_own_alter pm_own_alter cd_own_alter ct_own_alter:Value}
  {f__law_large:Addr} {od__law_large an__law_large:Option Addr} {sl__law_large:Array (Option Value)} {oc__law_large kV__law_large dc__law_large pm__law_large cd__law_large ct__law_large:Value}
  {f__law_filled:Addr} {od__law_filled an__law_filled:Option Addr} {sl__law_filled:Array (Option Value)} {oc__law_filled kV__law_filled dc__law_filled pm__law_filled cd__law_filled ct__law_filled:Value}
  {f__law_pitches:Addr} {od__law_pitches an__law_pitches:Option Addr} {sl__law_pitches:Array (Option Value)} {oc__law_pitches kV__law_pitches dc__law_pitches pm__law_pitches cd__law_pitches ct__law_pitches:Value}
  {f_name_of:Addr} {od_name_of an_name_of:Option Addr} {sl_name_of:Array (Option Value)} {oc_name_of kV_name_of dc_name_of pm_name_of cd_name_of ct_name_of:Value}
  {f_alter_by_then:Addr} {od_alter_by_then an_alter_by_then:Option Addr} {sl_alter_by_then:Array (Option Value)} {oc_alter_by_then kV_alter_by_then dc_alter_by_then pm_alter_by_then cd_alter_by_then ct_alter_by_then:Value}
  {f__law_played_row:Addr} {od__law_played_row an__law_played_row:Option Addr} {sl__law_played_row:Array (Option Value)} {oc__law_played_row kV__law_played_row dc__law_played_row pm__law_played_row cd__law_played_row ct__law_played_row:Value}
  {f_heads_of:Addr} {od_heads_of an_heads_of:Option Addr} {sl_heads_of:Array (Option Value)} {oc_heads_of kV_heads_of dc_heads_of pm_heads_of cd_heads_of ct_heads_of:Value}
  {f_pitches_of:Addr} {od_pitches_of an_pitches_of:Option Addr} {sl_pitches_of:Array (Option Value)} {oc_pitches_of kV_pitches_of dc_pitches_of pm_pitches_of cd_pitches_of ct_pitches_of:Value}
  {f__law_bars:Addr} {od__law_bars an__law_bars:Option Addr} {sl__law_bars:Array (Option Value)} {oc__law_bars kV__law_bars dc__law_bars pm__law_bars cd__law_bars ct__law_bars:Value}
  {f_turned:Addr} {od_turned an_turned:Option Addr} {sl_turned:Array (Option Value)} {oc_turned kV_turned dc_turned pm_turned cd_turned ct_turned:Value}
  {f_signed:Addr} {od_signed an_signed:Option Addr} {sl_signed:Array (Option Value)} {oc_signed kV_signed dc_signed pm_signed cd_signed ct_signed:Value}
  {f_heard:Addr} {od_heard an_heard:Option Addr} {sl_heard:Array (Option Value)} {oc_heard kV_heard dc_heard pm_heard cd_heard ct_heard:Value}
  {f_law:Addr} {od_law an_law:Option Addr} {sl_law:Array (Option Value)} {oc_law kV_law dc_law pm_law cd_law ct_law:Value}
  {A_PITCHES:Addr}
  {u_LETTERS_BY_FIFTHS:Value}
  (a_first_alike:PySem.W.nsIn K mainGlobals "first_alike"=some (some (.ref f_first_alike))) (l_first_alike:K.lookup f_first_alike=some ⟨oc_first_alike,od_first_alike,.func (PySem.W.fnOf "first_alike" "first_alike" (defArgs s_first_alike) (defBody s_first_alike) (defScope s_first_alike) .none kV_first_alike dc_first_alike pm_first_alike an_first_alike cd_first_alike ct_first_alike),sl_first_alike⟩) (c_first_alike':PySem.W.codeIn K cd_first_alike "first_alike"=true) (k_first_alike:PySem.W.keepIn K (.ref f_first_alike)=true)
  (a_alter_at:PySem.W.nsIn K mainGlobals "alter_at"=some (some (.ref f_alter_at))) (l_alter_at:K.lookup f_alter_at=some ⟨oc_alter_at,od_alter_at,.func (PySem.W.fnOf "alter_at" "alter_at" (defArgs s_alter_at) (defBody s_alter_at) (defScope s_alter_at) .none kV_alter_at dc_alter_at pm_alter_at an_alter_at cd_alter_at ct_alter_at),sl_alter_at⟩) (c_alter_at':PySem.W.codeIn K cd_alter_at "alter_at"=true) (k_alter_at:PySem.W.keepIn K (.ref f_alter_at)=true)
  (a_pitch_of:PySem.W.nsIn K mainGlobals "pitch_of"=some (some (.ref f_pitch_of))) (l_pitch_of:K.lookup f_pitch_of=some ⟨oc_pitch_of,od_pitch_of,.func (PySem.W.fnOf "pitch_of" "pitch_of" (defArgs s_pitch_of) (defBody s_pitch_of) (defScope s_pitch_of) .none kV_pitch_of dc_pitch_of pm_pitch_of an_pitch_of cd_pitch_of ct_pitch_of),sl_pitch_of⟩) (c_pitch_of':PySem.W.codeIn K cd_pitch_of "pitch_of"=true) (k_pitch_of:PySem.W.keepIn K (.ref f_pitch_of)=true)
  (a_in_order:PySem.W.nsIn K mainGlobals "in_order"=some (some (.ref f_in_order))) (l_in_order:K.lookup f_in_order=some ⟨oc_in_order,od_in_order,.func (PySem.W.fnOf "in_order" "in_order" (defArgs s_in_order) (defBody s_in_order) (defScope s_in_order) .none kV_in_order dc_in_order pm_in_order an_in_order cd_in_order ct_in_order),sl_in_order⟩) (c_in_order':PySem.W.codeIn K cd_in_order "in_order"=true) (k_in_order:PySem.W.keepIn K (.ref f_in_order)=true)
  (a_tied_to_next:PySem.W.nsIn K mainGlobals "tied_to_next"=some (some (.ref f_tied_to_next))) (l_tied_to_next:K.lookup f_tied_to_next=some ⟨oc_tied_to_next,od_tied_to_next,.func (PySem.W.fnOf "tied_to_next" "tied_to_next" (defArgs s_tied_to_next) (defBody s_tied_to_next) (defScope s_tied_to_next) .none kV_tied_to_next dc_tied_to_next pm_tied_to_next an_tied_to_next cd_tied_to_next ct_tied_to_next),sl_tied_to_next⟩) (c_tied_to_next':PySem.W.codeIn K cd_tied_to_next "tied_to_next"=true) (k_tied_to_next:PySem.W.keepIn K (.ref f_tied_to_next)=true)
  (a__law_cell:PySem.W.nsIn K mainGlobals "_law_cell"=some (some (.ref f__law_cell))) (l__law_cell:K.lookup f__law_cell=some ⟨oc__law_cell,od__law_cell,.func (PySem.W.fnOf "_law_cell" "_law_cell" (defArgs s__law_cell) (defBody s__law_cell) (defScope s__law_cell) .none kV__law_cell dc__law_cell pm__law_cell an__law_cell cd__law_cell ct__law_cell),sl__law_cell⟩) (c__law_cell':PySem.W.codeIn K cd__law_cell "_law_cell"=true) (k__law_cell:PySem.W.keepIn K (.ref f__law_cell)=true)
  (a__law_mix:PySem.W.nsIn K mainGlobals "_law_mix"=some (some (.ref f__law_mix))) (l__law_mix:K.lookup f__law_mix=some ⟨oc__law_mix,od__law_mix,.func (PySem.W.fnOf "_law_mix" "_law_mix" (defArgs s__law_mix) (defBody s__law_mix) (defScope s__law_mix) .none kV__law_mix dc__law_mix pm__law_mix an__law_mix cd__law_mix ct__law_mix),sl__law_mix⟩) (c__law_mix':PySem.W.codeIn K cd__law_mix "_law_mix"=true) (k__law_mix:PySem.W.keepIn K (.ref f__law_mix)=true)
  (a__law_let_go:PySem.W.nsIn K mainGlobals "_law_let_go"=some (some (.ref f__law_let_go))) (l__law_let_go:K.lookup f__law_let_go=some ⟨oc__law_let_go,od__law_let_go,.func (PySem.W.fnOf "_law_let_go" "_law_let_go" (defArgs s__law_let_go) (defBody s__law_let_go) (defScope s__law_let_go) .none kV__law_let_go dc__law_let_go pm__law_let_go an__law_let_go cd__law_let_go ct__law_let_go),sl__law_let_go⟩) (c__law_let_go':PySem.W.codeIn K cd__law_let_go "_law_let_go"=true) (k__law_let_go:PySem.W.keepIn K (.ref f__law_let_go)=true)
  (a__law_copy:PySem.W.nsIn K mainGlobals "_law_copy"=some (some (.ref f__law_copy))) (l__law_copy:K.lookup f__law_copy=some ⟨oc__law_copy,od__law_copy,.func (PySem.W.fnOf "_law_copy" "_law_copy" (defArgs s__law_copy) (defBody s__law_copy) (defScope s__law_copy) .none kV__law_copy dc__law_copy pm__law_copy an__law_copy cd__law_copy ct__law_copy),sl__law_copy⟩) (c__law_copy':PySem.W.codeIn K cd__law_copy "_law_copy"=true) (k__law_copy:PySem.W.keepIn K (.ref f__law_copy)=true)
  (a_fifth:PySem.W.nsIn K mainGlobals "fifth"=some (some (.ref f_fifth))) (l_fifth:K.lookup f_fifth=some ⟨oc_fifth,od_fifth,.func (PySem.W.fnOf "fifth" "fifth" (defArgs s_fifth) (defBody s_fifth) (defScope s_fifth) .none kV_fifth dc_fifth pm_fifth an_fifth cd_fifth ct_fifth),sl_fifth⟩) (c_fifth':PySem.W.codeIn K cd_fifth "fifth"=true) (k_fifth:PySem.W.keepIn K (.ref f_fifth)=true)
  (a_own_alter:PySem.W.nsIn K mainGlobals "own_alter"=some (some (.ref f_own_alter))) (l_own_alter:K.lookup f_own_alter=some ⟨oc_own_alter,od_own_alter,.func (PySem.W.fnOf "own_alter" "own_alter" (defArgs s_own_alter) (defBody s_own_alter) (defScope s_own_alter) .none kV_own_alter dc_own_alter pm_own_alter an_own_alter cd_own_alter ct_own_alter),sl_own_alter⟩) (c_own_alter':PySem.W.codeIn K cd_own_alter "own_alter"=true) (k_own_alter:PySem.W.keepIn K (.ref f_own_alter)=true)
  (a__law_large:PySem.W.nsIn K mainGlobals "_law_large"=some (some (.ref f__law_large))) (l__law_large:K.lookup f__law_large=some ⟨oc__law_large,od__law_large,.func (PySem.W.fnOf "_law_large" "_law_large" (defArgs s__law_large) (defBody s__law_large) (defScope s__law_large) .none kV__law_large dc__law_large pm__law_large an__law_large cd__law_large ct__law_large),sl__law_large⟩) (c__law_large':PySem.W.codeIn K cd__law_large "_law_large"=true) (k__law_large:PySem.W.keepIn K (.ref f__law_large)=true)
  (a__law_filled:PySem.W.nsIn K mainGlobals "_law_filled"=some (some (.ref f__law_filled))) (l__law_filled:K.lookup f__law_filled=some ⟨oc__law_filled,od__law_filled,.func (PySem.W.fnOf "_law_filled" "_law_filled" (defArgs s__law_filled) (defBody s__law_filled) (defScope s__law_filled) .none kV__law_filled dc__law_filled pm__law_filled an__law_filled cd__law_filled ct__law_filled),sl__law_filled⟩) (c__law_filled':PySem.W.codeIn K cd__law_filled "_law_filled"=true) (k__law_filled:PySem.W.keepIn K (.ref f__law_filled)=true)
  (a__law_pitches:PySem.W.nsIn K mainGlobals "_law_pitches"=some (some (.ref f__law_pitches))) (l__law_pitches:K.lookup f__law_pitches=some ⟨oc__law_pitches,od__law_pitches,.func (PySem.W.fnOf "_law_pitches" "_law_pitches" (defArgs s__law_pitches) (defBody s__law_pitches) (defScope s__law_pitches) .none kV__law_pitches dc__law_pitches pm__law_pitches an__law_pitches cd__law_pitches ct__law_pitches),sl__law_pitches⟩) (c__law_pitches':PySem.W.codeIn K cd__law_pitches "_law_pitches"=true) (k__law_pitches:PySem.W.keepIn K (.ref f__law_pitches)=true)
  (a_name_of:PySem.W.nsIn K mainGlobals "name_of"=some (some (.ref f_name_of))) (l_name_of:K.lookup f_name_of=some ⟨oc_name_of,od_name_of,.func (PySem.W.fnOf "name_of" "name_of" (defArgs s_name_of) (defBody s_name_of) (defScope s_name_of) .none kV_name_of dc_name_of pm_name_of an_name_of cd_name_of ct_name_of),sl_name_of⟩) (c_name_of':PySem.W.codeIn K cd_name_of "name_of"=true) (k_name_of:PySem.W.keepIn K (.ref f_name_of)=true)
  (a_alter_by_then:PySem.W.nsIn K mainGlobals "alter_by_then"=some (some (.ref f_alter_by_then))) (l_alter_by_then:K.lookup f_alter_by_then=some ⟨oc_alter_by_then,od_alter_by_then,.func (PySem.W.fnOf "alter_by_then" "alter_by_then" (defArgs s_alter_by_then) (defBody s_alter_by_then) (defScope s_alter_by_then) .none kV_alter_by_then dc_alter_by_then pm_alter_by_then an_alter_by_then cd_alter_by_then ct_alter_by_then),sl_alter_by_then⟩) (c_alter_by_then':PySem.W.codeIn K cd_alter_by_then "alter_by_then"=true) (k_alter_by_then:PySem.W.keepIn K (.ref f_alter_by_then)=true)
  (a__law_played_row:PySem.W.nsIn K mainGlobals "_law_played_row"=some (some (.ref f__law_played_row))) (l__law_played_row:K.lookup f__law_played_row=some ⟨oc__law_played_row,od__law_played_row,.func (PySem.W.fnOf "_law_played_row" "_law_played_row" (defArgs s__law_played_row) (defBody s__law_played_row) (defScope s__law_played_row) .none kV__law_played_row dc__law_played_row pm__law_played_row an__law_played_row cd__law_played_row ct__law_played_row),sl__law_played_row⟩) (c__law_played_row':PySem.W.codeIn K cd__law_played_row "_law_played_row"=true) (k__law_played_row:PySem.W.keepIn K (.ref f__law_played_row)=true)
  (a_heads_of:PySem.W.nsIn K mainGlobals "heads_of"=some (some (.ref f_heads_of))) (l_heads_of:K.lookup f_heads_of=some ⟨oc_heads_of,od_heads_of,.func (PySem.W.fnOf "heads_of" "heads_of" (defArgs s_heads_of) (defBody s_heads_of) (defScope s_heads_of) .none kV_heads_of dc_heads_of pm_heads_of an_heads_of cd_heads_of ct_heads_of),sl_heads_of⟩) (c_heads_of':PySem.W.codeIn K cd_heads_of "heads_of"=true) (k_heads_of:PySem.W.keepIn K (.ref f_heads_of)=true)
  (a_pitches_of:PySem.W.nsIn K mainGlobals "pitches_of"=some (some (.ref f_pitches_of))) (l_pitches_of:K.lookup f_pitches_of=some ⟨oc_pitches_of,od_pitches_of,.func (PySem.W.fnOf "pitches_of" "pitches_of" (defArgs s_pitches_of) (defBody s_pitches_of) (defScope s_pitches_of) .none kV_pitches_of dc_pitches_of pm_pitches_of an_pitches_of cd_pitches_of ct_pitches_of),sl_pitches_of⟩) (c_pitches_of':PySem.W.codeIn K cd_pitches_of "pitches_of"=true) (k_pitches_of:PySem.W.keepIn K (.ref f_pitches_of)=true)
  (a__law_bars:PySem.W.nsIn K mainGlobals "_law_bars"=some (some (.ref f__law_bars))) (l__law_bars:K.lookup f__law_bars=some ⟨oc__law_bars,od__law_bars,.func (PySem.W.fnOf "_law_bars" "_law_bars" (defArgs s__law_bars) (defBody s__law_bars) (defScope s__law_bars) .none kV__law_bars dc__law_bars pm__law_bars an__law_bars cd__law_bars ct__law_bars),sl__law_bars⟩) (c__law_bars':PySem.W.codeIn K cd__law_bars "_law_bars"=true) (k__law_bars:PySem.W.keepIn K (.ref f__law_bars)=true)
  (a_turned:PySem.W.nsIn K mainGlobals "turned"=some (some (.ref f_turned))) (l_turned:K.lookup f_turned=some ⟨oc_turned,od_turned,.func (PySem.W.fnOf "turned" "turned" (defArgs s_turned) (defBody s_turned) (defScope s_turned) .none kV_turned dc_turned pm_turned an_turned cd_turned ct_turned),sl_turned⟩) (c_turned':PySem.W.codeIn K cd_turned "turned"=true) (k_turned:PySem.W.keepIn K (.ref f_turned)=true)
  (a_signed:PySem.W.nsIn K mainGlobals "signed"=some (some (.ref f_signed))) (l_signed:K.lookup f_signed=some ⟨oc_signed,od_signed,.func (PySem.W.fnOf "signed" "signed" (defArgs s_signed) (defBody s_signed) (defScope s_signed) .none kV_signed dc_signed pm_signed an_signed cd_signed ct_signed),sl_signed⟩) (c_signed':PySem.W.codeIn K cd_signed "signed"=true) (k_signed:PySem.W.keepIn K (.ref f_signed)=true)
  (a_heard:PySem.W.nsIn K mainGlobals "heard"=some (some (.ref f_heard))) (l_heard:K.lookup f_heard=some ⟨oc_heard,od_heard,.func (PySem.W.fnOf "heard" "heard" (defArgs s_heard) (defBody s_heard) (defScope s_heard) .none kV_heard dc_heard pm_heard an_heard cd_heard ct_heard),sl_heard⟩) (c_heard':PySem.W.codeIn K cd_heard "heard"=true) (k_heard:PySem.W.keepIn K (.ref f_heard)=true)
  (a_law:PySem.W.nsIn K mainGlobals "law"=some (some (.ref f_law))) (l_law:K.lookup f_law=some ⟨oc_law,od_law,.func (PySem.W.fnOf "law" "law" (defArgs s_law) (defBody s_law) (defScope s_law) .none kV_law dc_law pm_law an_law cd_law ct_law),sl_law⟩) (c_law':PySem.W.codeIn K cd_law "law"=true) (k_law:PySem.W.keepIn K (.ref f_law)=true)
  (z_enumerate:PySem.W.nsIn K mainGlobals "enumerate"=some none)
  (z_sorted:PySem.W.nsIn K mainGlobals "sorted"=some none)
  (z_len:PySem.W.nsIn K mainGlobals "len"=some none)
  (z_list:PySem.W.nsIn K mainGlobals "list"=some none)
  (z_range:PySem.W.nsIn K mainGlobals "range"=some none)
  (z_tuple:PySem.W.nsIn K mainGlobals "tuple"=some none)
  (z_isinstance:PySem.W.nsIn K mainGlobals "isinstance"=some none)
  (n_PITCHES:PySem.W.nsIn K mainGlobals "PITCHES"=some (some (.ref A_PITCHES))) (d_PITCHES:DatS w K A_PITCHES kv_PITCHES)
  (n_LETTERS_BY_FIFTHS:PySem.W.nsIn K mainGlobals "LETTERS_BY_FIFTHS"=some (some u_LETTERS_BY_FIFTHS)) (d_LETTERS_BY_FIFTHS:datIn K 9 u_LETTERS_BY_FIFTHS=some c_LETTERS_BY_FIFTHS) :
  ∃ fd:FuncData,(∀ (s:Shared) (v:Value),BindsTo s fd ⟨[v],[]⟩ [("_law_script",v)])∧∀ base:Heap,K.In base→base.Ns mainGlobals mg→FnOk l.prog w K mg base CX0 7 fa fd ["_law_script"] (spD ⟨l.prog,w,K⟩ D_law 1):=by
 have e:=hfa.symm.trans (PySem.W.mg_of X G a_law)
 cases e
 have F_first_alike:=fun_mk (st:=s_first_alike) l_first_alike c_first_alike' k_first_alike
 have b_first_alike:=F_first_alike.binds (ps:=["low","number","divisor"]) fun _ _ _ _ _ _ us hl=>by obtain ⟨_,_,_,rfl⟩:=len3 hl; rfl
 have m_first_alike:=PySem.W.mg_of X G a_first_alike
 have F_alter_at:=fun_mk (st:=s_alter_at) l_alter_at c_alter_at' k_alter_at
 have b_alter_at:=F_alter_at.binds (ps:=["fifths"]) fun _ _ _ _ _ _ us hl=>by obtain ⟨_,rfl⟩:=len1 hl; rfl
 have m_alter_at:=PySem.W.mg_of X G a_alter_at
 have F_pitch_of:=fun_mk (st:=s_pitch_of) l_pitch_of c_pitch_of' k_pitch_of
 have b_pitch_of:=F_pitch_of.binds (ps:=["name"]) fun _ _ _ _ _ _ us hl=>by obtain ⟨_,rfl⟩:=len1 hl; rfl
 have m_pitch_of:=PySem.W.mg_of X G a_pitch_of
 have F_in_order:=fun_mk (st:=s_in_order) l_in_order c_in_order' k_in_order
 have b_in_order:=F_in_order.binds (ps:=["bar"]) fun _ _ _ _ _ _ us hl=>by obtain ⟨_,rfl⟩:=len1 hl; rfl
 have m_in_order:=PySem.W.mg_of X G a_in_order
 have F_tied_to_next:=fun_mk (st:=s_tied_to_next) l_tied_to_next c_tied_to_next' k_tied_to_next
 have b_tied_to_next:=F_tied_to_next.binds (ps:=["event"]) fun _ _ _ _ _ _ us hl=>by obtain ⟨_,rfl⟩:=len1 hl; rfl
 have m_tied_to_next:=PySem.W.mg_of X G a_tied_to_next
 have F__law_cell:=fun_mk (st:=s__law_cell) l__law_cell c__law_cell' k__law_cell
 have b__law_cell:=F__law_cell.binds (ps:=["_law_script","_law_k"]) fun _ _ _ _ _ _ us hl=>by obtain ⟨_,_,rfl⟩:=len2 hl; rfl
 have m__law_cell:=PySem.W.mg_of X G a__law_cell
 have F__law_mix:=fun_mk (st:=s__law_mix) l__law_mix c__law_mix' k__law_mix
 have b__law_mix:=F__law_mix.binds (ps:=["_law_cell_here","_law_prime","_law_many"]) fun _ _ _ _ _ _ us hl=>by obtain ⟨_,_,_,rfl⟩:=len3 hl; rfl
 have m__law_mix:=PySem.W.mg_of X G a__law_mix
 have F__law_let_go:=fun_mk (st:=s__law_let_go) l__law_let_go c__law_let_go' k__law_let_go
 have b__law_let_go:=F__law_let_go.binds (ps:=["_law_row"]) fun _ _ _ _ _ _ us hl=>by obtain ⟨_,rfl⟩:=len1 hl; rfl
 have m__law_let_go:=PySem.W.mg_of X G a__law_let_go
 have F__law_copy:=fun_mk (st:=s__law_copy) l__law_copy c__law_copy' k__law_copy
 have b__law_copy:=F__law_copy.binds (ps:=["_law_bars_here"]) fun _ _ _ _ _ _ us hl=>by obtain ⟨_,rfl⟩:=len1 hl; rfl
 have m__law_copy:=PySem.W.mg_of X G a__law_copy
 have F_fifth:=fun_mk (st:=s_fifth) l_fifth c_fifth' k_fifth
 have b_fifth:=F_fifth.binds (ps:=["pitch","key"]) fun _ _ _ _ _ _ us hl=>by obtain ⟨_,_,rfl⟩:=len2 hl; rfl
 have m_fifth:=PySem.W.mg_of X G a_fifth
 have F_own_alter:=fun_mk (st:=s_own_alter) l_own_alter c_own_alter' k_own_alter
 have b_own_alter:=F_own_alter.binds (ps:=["letter","key"]) fun _ _ _ _ _ _ us hl=>by obtain ⟨_,_,rfl⟩:=len2 hl; rfl
 have m_own_alter:=PySem.W.mg_of X G a_own_alter
 have F__law_large:=fun_mk (st:=s__law_large) l__law_large c__law_large' k__law_large
 have b__law_large:=F__law_large.binds (ps:=["_law_script"]) fun _ _ _ _ _ _ us hl=>by obtain ⟨_,rfl⟩:=len1 hl; rfl
 have m__law_large:=PySem.W.mg_of X G a__law_large
 have F__law_filled:=fun_mk (st:=s__law_filled) l__law_filled c__law_filled' k__law_filled
 have b__law_filled:=F__law_filled.binds (ps:=["_law_cell_here","_law_left"]) fun _ _ _ _ _ _ us hl=>by obtain ⟨_,_,rfl⟩:=len2 hl; rfl
 have m__law_filled:=PySem.W.mg_of X G a__law_filled
 have F__law_pitches:=fun_mk (st:=s__law_pitches) l__law_pitches c__law_pitches' k__law_pitches
 have b__law_pitches:=F__law_pitches.binds (ps:=["_law_cell_here","_law_wide"]) fun _ _ _ _ _ _ us hl=>by obtain ⟨_,_,rfl⟩:=len2 hl; rfl
 have m__law_pitches:=PySem.W.mg_of X G a__law_pitches
 have F_name_of:=fun_mk (st:=s_name_of) l_name_of c_name_of' k_name_of
 have b_name_of:=F_name_of.binds (ps:=["pitch","key"]) fun _ _ _ _ _ _ us hl=>by obtain ⟨_,_,rfl⟩:=len2 hl; rfl
 have m_name_of:=PySem.W.mg_of X G a_name_of
 have F_alter_by_then:=fun_mk (st:=s_alter_by_then) l_alter_by_then c_alter_by_then' k_alter_by_then
 have b_alter_by_then:=F_alter_by_then.binds (ps:=["letter","octave","alters","key"]) fun _ _ _ _ _ _ us hl=>by obtain ⟨_,_,_,_,rfl⟩:=len4 hl; rfl
 have m_alter_by_then:=PySem.W.mg_of X G a_alter_by_then
 have F__law_played_row:=fun_mk (st:=s__law_played_row) l__law_played_row c__law_played_row' k__law_played_row
 have b__law_played_row:=F__law_played_row.binds (ps:=["_law_cell_here","_law_going","_law_wide","_law_size"]) fun _ _ _ _ _ _ us hl=>by obtain ⟨_,_,_,_,rfl⟩:=len4 hl; rfl
 have m__law_played_row:=PySem.W.mg_of X G a__law_played_row
 have F_heads_of:=fun_mk (st:=s_heads_of) l_heads_of c_heads_of' k_heads_of
 have b_heads_of:=F_heads_of.binds (ps:=["pitches","tied","alters","key"]) fun _ _ _ _ _ _ us hl=>by obtain ⟨_,_,_,_,rfl⟩:=len4 hl; rfl
 have m_heads_of:=PySem.W.mg_of X G a_heads_of
 have F_pitches_of:=fun_mk (st:=s_pitches_of) l_pitches_of c_pitches_of' k_pitches_of
 have b_pitches_of:=F_pitches_of.binds (ps:=["heads","tied","alters","key"]) fun _ _ _ _ _ _ us hl=>by obtain ⟨_,_,_,_,rfl⟩:=len4 hl; rfl
 have m_pitches_of:=PySem.W.mg_of X G a_pitches_of
 have F__law_bars:=fun_mk (st:=s__law_bars) l__law_bars c__law_bars' k__law_bars
 have b__law_bars:=F__law_bars.binds (ps:=["_law_script","_law_wide"]) fun _ _ _ _ _ _ us hl=>by obtain ⟨_,_,rfl⟩:=len2 hl; rfl
 have m__law_bars:=PySem.W.mg_of X G a__law_bars
 have F_turned:=fun_mk (st:=s_turned) l_turned c_turned' k_turned
 have b_turned:=F_turned.binds (ps:=["bars","key","turn"]) fun _ _ _ _ _ _ us hl=>by obtain ⟨_,_,_,rfl⟩:=len3 hl; rfl
 have m_turned:=PySem.W.mg_of X G a_turned
 have F_signed:=fun_mk (st:=s_signed) l_signed c_signed' k_signed
 have b_signed:=F_signed.binds (ps:=["bars","key"]) fun _ _ _ _ _ _ us hl=>by obtain ⟨_,_,rfl⟩:=len2 hl; rfl
 have m_signed:=PySem.W.mg_of X G a_signed
 have F_heard:=fun_mk (st:=s_heard) l_heard c_heard' k_heard
 have b_heard:=F_heard.binds (ps:=["bars","key"]) fun _ _ _ _ _ _ us hl=>by obtain ⟨_,_,rfl⟩:=len2 hl; rfl
 have m_heard:=PySem.W.mg_of X G a_heard
 have F_law:=fun_mk (st:=s_law) l_law c_law' k_law
 have b_enumerate:=PySem.W.mg_none_of X G z_enumerate
 have b_sorted:=PySem.W.mg_none_of X G z_sorted
 have b_len:=PySem.W.mg_none_of X G z_len
 have b_list:=PySem.W.mg_none_of X G z_list
 have b_range:=PySem.W.mg_none_of X G z_range
 have b_tuple:=PySem.W.mg_none_of X G z_tuple
 have b_isinstance:=PySem.W.mg_none_of X G z_isinstance
 have m_PITCHES:=PySem.W.mg_of X G n_PITCHES
 obtain ⟨v_PITCHES,r_PITCHES,q_PITCHES⟩:=datS_ok (κ:=⟨l.prog,w,K⟩) d_PITCHES
 have m_LETTERS_BY_FIFTHS:=PySem.W.mg_of X G n_LETTERS_BY_FIFTHS
 obtain ⟨v_LETTERS_BY_FIFTHS,r_LETTERS_BY_FIFTHS,q_LETTERS_BY_FIFTHS⟩:=datIn_ok (κ:=⟨l.prog,w,K⟩) 9 u_LETTERS_BY_FIFTHS _ d_LETTERS_BY_FIFTHS
 refine ⟨PySem.W.fnOf "law" "law" (defArgs s_law) (defBody s_law) (defScope s_law) .none kV_law dc_law pm_law an_law cd_law ct_law,fun s v=>.of_eq rfl,fun base _ _=>?_⟩
 have G_first_alike:=ok_first_alike (P:=l.prog) (w:=w) (mg:=mg) (base:=base) F_first_alike
 have G_alter_at:=ok_alter_at (P:=l.prog) (w:=w) (mg:=mg) (base:=base) F_alter_at
 have G_pitch_of:=ok_pitch_of (P:=l.prog) (w:=w) (mg:=mg) (base:=base) F_pitch_of m_PITCHES r_PITCHES q_PITCHES
 have G_in_order:=ok_in_order (P:=l.prog) (w:=w) (mg:=mg) (base:=base) F_in_order b_enumerate b_sorted
 have G_tied_to_next:=ok_tied_to_next (P:=l.prog) (w:=w) (mg:=mg) (base:=base) F_tied_to_next
 have G__law_cell:=ok__law_cell (P:=l.prog) (w:=w) (mg:=mg) (base:=base) F__law_cell b_len
 have G__law_mix:=ok__law_mix (P:=l.prog) (w:=w) (mg:=mg) (base:=base) F__law_mix
 have G__law_let_go:=ok__law_let_go (P:=l.prog) (w:=w) (mg:=mg) (base:=base) F__law_let_go
 have G__law_copy:=ok__law_copy (P:=l.prog) (w:=w) (mg:=mg) (base:=base) F__law_copy b_list
 have G_fifth:=ok_fifth (P:=l.prog) (w:=w) (mg:=mg) (base:=base) F_fifth G_first_alike m_first_alike k_first_alike b_first_alike
 have G_own_alter:=ok_own_alter (P:=l.prog) (w:=w) (mg:=mg) (base:=base) F_own_alter G_first_alike m_first_alike k_first_alike b_first_alike G_alter_at m_alter_at k_alter_at b_alter_at m_LETTERS_BY_FIFTHS r_LETTERS_BY_FIFTHS q_LETTERS_BY_FIFTHS
 have G__law_large:=ok__law_large (P:=l.prog) (w:=w) (mg:=mg) (base:=base) F__law_large G__law_cell m__law_cell k__law_cell b__law_cell G__law_mix m__law_mix k__law_mix b__law_mix b_len
 have G__law_filled:=ok__law_filled (P:=l.prog) (w:=w) (mg:=mg) (base:=base) F__law_filled G__law_mix m__law_mix k__law_mix b__law_mix b_len
 have G__law_pitches:=ok__law_pitches (P:=l.prog) (w:=w) (mg:=mg) (base:=base) F__law_pitches G__law_mix m__law_mix k__law_mix b__law_mix b_range b_tuple
 have G_name_of:=ok_name_of (P:=l.prog) (w:=w) (mg:=mg) (base:=base) F_name_of G_fifth m_fifth k_fifth b_fifth G_alter_at m_alter_at k_alter_at b_alter_at m_LETTERS_BY_FIFTHS r_LETTERS_BY_FIFTHS q_LETTERS_BY_FIFTHS m_PITCHES r_PITCHES q_PITCHES
 have G_alter_by_then:=ok_alter_by_then (P:=l.prog) (w:=w) (mg:=mg) (base:=base) F_alter_by_then G_own_alter m_own_alter k_own_alter b_own_alter
 have G__law_played_row:=ok__law_played_row (P:=l.prog) (w:=w) (mg:=mg) (base:=base) F__law_played_row G__law_filled m__law_filled k__law_filled b__law_filled G__law_mix m__law_mix k__law_mix b__law_mix G__law_pitches m__law_pitches k__law_pitches b__law_pitches b_enumerate
 have G_heads_of:=ok_heads_of (P:=l.prog) (w:=w) (mg:=mg) (base:=base) F_heads_of G_name_of m_name_of k_name_of b_name_of G_alter_by_then m_alter_by_then k_alter_by_then b_alter_by_then b_tuple
 have G_pitches_of:=ok_pitches_of (P:=l.prog) (w:=w) (mg:=mg) (base:=base) F_pitches_of G_alter_by_then m_alter_by_then k_alter_by_then b_alter_by_then G_pitch_of m_pitch_of k_pitch_of b_pitch_of b_tuple
 have G__law_bars:=ok__law_bars (P:=l.prog) (w:=w) (mg:=mg) (base:=base) F__law_bars G__law_large m__law_large k__law_large b__law_large G__law_cell m__law_cell k__law_cell b__law_cell G__law_played_row m__law_played_row k__law_played_row b__law_played_row G__law_let_go m__law_let_go k__law_let_go b__law_let_go b_len b_range
 have G_turned:=ok_turned (P:=l.prog) (w:=w) (mg:=mg) (base:=base) F_turned G_in_order m_in_order k_in_order b_in_order G_tied_to_next m_tied_to_next k_tied_to_next b_tied_to_next G_heads_of m_heads_of k_heads_of b_heads_of G_pitches_of m_pitches_of k_pitches_of b_pitches_of a_heads_of a_pitches_of
 have G_signed:=ok_signed (P:=l.prog) (w:=w) (mg:=mg) (base:=base) F_signed G_heads_of m_heads_of k_heads_of b_heads_of G_turned m_turned k_turned b_turned a_heads_of
 have G_heard:=ok_heard (P:=l.prog) (w:=w) (mg:=mg) (base:=base) F_heard G_pitches_of m_pitches_of k_pitches_of b_pitches_of G_turned m_turned k_turned b_turned a_pitches_of
 exact ok_law (P:=l.prog) (w:=w) (mg:=mg) (base:=base) F_law G__law_cell m__law_cell k__law_cell b__law_cell G__law_bars m__law_bars k__law_bars b__law_bars G__law_copy m__law_copy k__law_copy b__law_copy G_signed m_signed k_signed b_signed G_heard m_heard k_heard b_heard b_isinstance b_list
theorem walk {l:PySem.W.OpenLaw} {q:Program} {loose:List Str} {XP:(Str→Option Value)→Heap→Prop} {YP:World→Heap→Prop} {d:DefRec} {K:Params→PySem.W.Frag} (hn:l.most=some 63) (hdf:d.params.defaults=[])
  (hY:∀ (w:World) (h:Heap),YP w h→(K w.params).In h)
  (F:∀ (w:World) (mg:Str→Option Value) (fa:Addr) (h:Heap),(K w.params).In h→h.Ns mainGlobals mg→mg d.name=some (.ref fa) →
   ∃ fd:FuncData,(∀ (s:Shared) (u:Value),BindsTo s fd ⟨[u],[]⟩ [("_law_script",u)])∧∀ base:Heap,(K w.params).In base→base.Ns mainGlobals mg→FnOk l.prog w (K w.params) mg base CX0 7 fa fd ["_law_script"] (spD ⟨l.prog,w,K w.params⟩ D_law 1)) :
  PySem.W.WalkO q loose XP YP l.row.toRowW d [] (fun f vs=>PySem.call f vs) :=
 L2.walk_of (n:=63) (k:=7) (x:="_law_script") (CX:=fun _=>CX0) (sp:=fun w=>spD ⟨l.prog,w,K w.params⟩ D_law 1) hn (by decide) hdf ⟨rfl,by decide,by decide⟩ hY F (fun w H a ns hl _ hS=>law_end D_law ns hS (law_true ns hl)) fun _ _ _ _ _ z=>z
end My
open PySem PySem.W PyProof.Rows
set_option maxRecDepth 100000 in
set_option maxHeartbeats 0 in
theorem PySem.Challenge.cw_stavemill_k18_whole_signs_are_heard_holds : PySem.Challenge.rw_stavemill_k18_whole_signs_are_heard.Holds := by
 w_on; o_law; k_head; (case hw=>w_witness2)
 k_fill
 refine My.walk (l:=PySem.Challenge.rw_stavemill_k18_whole_signs_are_heard) rfl rfl (fun w h Y=>PySem.W.kIn_of Y) ?F
 case F =>
  intro w mg fa h KX G hmg
  refine' My.all_mk KX G hmg ?a_first_alike ?l_first_alike ?c_first_alike ?k_first_alike ?a_alter_at ?l_alter_at ?c_alter_at ?k_alter_at ?a_pitch_of ?l_pitch_of ?c_pitch_of ?k_pitch_of ?a_in_order ?l_in_order ?c_in_order ?k_in_order ?a_tied_to_next ?l_tied_to_next ?c_tied_to_next ?k_tied_to_next ?a__law_cell ?l__law_cell ?c__law_cell ?k__law_cell ?a__law_mix ?l__law_mix ?c__law_mix ?k__law_mix ?a__law_let_go ?l__law_let_go ?c__law_let_go ?k__law_let_go ?a__law_copy ?l__law_copy ?c__law_copy ?k__law_copy ?a_fifth ?l_fifth ?c_fifth ?k_fifth ?a_own_alter ?l_own_alter ?c_own_alter ?k_own_alter ?a__law_large ?l__law_large ?c__law_large ?k__law_large ?a__law_filled ?l__law_filled ?c__law_filled ?k__law_filled ?a__law_pitches ?l__law_pitches ?c__law_pitches ?k__law_pitches ?a_name_of ?l_name_of ?c_name_of ?k_name_of ?a_alter_by_then ?l_alter_by_then ?c_alter_by_then ?k_alter_by_then ?a__law_played_row ?l__law_played_row ?c__law_played_row ?k__law_played_row ?a_heads_of ?l_heads_of ?c_heads_of ?k_heads_of ?a_pitches_of ?l_pitches_of ?c_pitches_of ?k_pitches_of ?a__law_bars ?l__law_bars ?c__law_bars ?k__law_bars ?a_turned ?l_turned ?c_turned ?k_turned ?a_signed ?l_signed ?c_signed ?k_signed ?a_heard ?l_heard ?c_heard ?k_heard ?a_law ?l_law ?c_law ?k_law ?z_enumerate ?z_sorted ?z_len ?z_list ?z_range ?z_tuple ?z_isinstance ?n_PITCHES ?d_PITCHES ?n_LETTERS_BY_FIFTHS ?d_LETTERS_BY_FIFTHS
  (case a_first_alike=>k_is)
  (case l_first_alike=>k_is)
  (case c_first_alike=>k_is)
  (case k_first_alike=>k_is)
  (case a_alter_at=>k_is)
  (case l_alter_at=>k_is)
  (case c_alter_at=>k_is)
  (case k_alter_at=>k_is)
  (case a_pitch_of=>k_is)
  (case l_pitch_of=>k_is)
  (case c_pitch_of=>k_is)
  (case k_pitch_of=>k_is)
  (case a_in_order=>k_is)
  (case l_in_order=>k_is)
  (case c_in_order=>k_is)
  (case k_in_order=>k_is)
  (case a_tied_to_next=>k_is)
  (case l_tied_to_next=>k_is)
  (case c_tied_to_next=>k_is)
  (case k_tied_to_next=>k_is)
  (case a__law_cell=>k_is)
  (case l__law_cell=>k_is)
  (case c__law_cell=>k_is)
  (case k__law_cell=>k_is)
  (case a__law_mix=>k_is)
  (case l__law_mix=>k_is)
  (case c__law_mix=>k_is)
  (case k__law_mix=>k_is)
  (case a__law_let_go=>k_is)
  (case l__law_let_go=>k_is)
  (case c__law_let_go=>k_is)
  (case k__law_let_go=>k_is)
  (case a__law_copy=>k_is)
  (case l__law_copy=>k_is)
  (case c__law_copy=>k_is)
  (case k__law_copy=>k_is)
  (case a_fifth=>k_is)
  (case l_fifth=>k_is)
  (case c_fifth=>k_is)
  (case k_fifth=>k_is)
  (case a_own_alter=>k_is)
  (case l_own_alter=>k_is)
  (case c_own_alter=>k_is)
  (case k_own_alter=>k_is)
  (case a__law_large=>k_is)
  (case l__law_large=>k_is)
  (case c__law_large=>k_is)
  (case k__law_large=>k_is)
  (case a__law_filled=>k_is)
  (case l__law_filled=>k_is)
  (case c__law_filled=>k_is)
  (case k__law_filled=>k_is)
  (case a__law_pitches=>k_is)
  (case l__law_pitches=>k_is)
  (case c__law_pitches=>k_is)
  (case k__law_pitches=>k_is)
  (case a_name_of=>k_is)
  (case l_name_of=>k_is)
  (case c_name_of=>k_is)
  (case k_name_of=>k_is)
  (case a_alter_by_then=>k_is)
  (case l_alter_by_then=>k_is)
  (case c_alter_by_then=>k_is)
  (case k_alter_by_then=>k_is)
  (case a__law_played_row=>k_is)
  (case l__law_played_row=>k_is)
  (case c__law_played_row=>k_is)
  (case k__law_played_row=>k_is)
  (case a_heads_of=>k_is)
  (case l_heads_of=>k_is)
  (case c_heads_of=>k_is)
  (case k_heads_of=>k_is)
  (case a_pitches_of=>k_is)
  (case l_pitches_of=>k_is)
  (case c_pitches_of=>k_is)
  (case k_pitches_of=>k_is)
  (case a__law_bars=>k_is)
  (case l__law_bars=>k_is)
  (case c__law_bars=>k_is)
  (case k__law_bars=>k_is)
  (case a_turned=>k_is)
  (case l_turned=>k_is)
  (case c_turned=>k_is)
  (case k_turned=>k_is)
  (case a_signed=>k_is)
  (case l_signed=>k_is)
  (case c_signed=>k_is)
  (case k_signed=>k_is)
  (case a_heard=>k_is)
  (case l_heard=>k_is)
  (case c_heard=>k_is)
  (case k_heard=>k_is)
  (case a_law=>k_is)
  (case l_law=>k_is)
  (case c_law=>k_is)
  (case k_law=>k_is)
  (case z_enumerate=>k_is)
  (case z_sorted=>k_is)
  (case z_len=>k_is)
  (case z_list=>k_is)
  (case z_range=>k_is)
  (case z_tuple=>k_is)
  (case z_isinstance=>k_is)
  (case n_PITCHES=>k_is)
  (case d_PITCHES=>refine ⟨?o,?es,?ep,?lk,?dt,?cl,?nd,?en⟩; (case lk=>exact rfl); (case dt=>rfl); (case cl=>kernel_rfl); (case nd=>decide +kernel); (case en=>exact .cons rfl rfl rfl (.cons rfl rfl rfl (.cons rfl rfl rfl (.cons rfl rfl rfl (.cons rfl rfl rfl (.cons rfl rfl rfl (.cons rfl rfl rfl (.nil)))))))))
  (case n_LETTERS_BY_FIFTHS=>k_is)
  (case d_LETTERS_BY_FIFTHS=>kernel_rfl)
#print axioms PySem.Challenge.cw_stavemill_k18_whole_signs_are_heard_holds