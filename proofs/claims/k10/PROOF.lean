import PyProof.Rows.All
import Wide.All
import OpenK.AllK
import Wide.FinOn
import Lean
import PyProof.EqAt
import PyProof.EqKinds
import PyProof.TupleCall
import PyProof.P3In
import PyProof.NeData
import PyProof.MaxThree
import PySem.Challenge.RW_stavemill_k10_bars_are_filled
set_option Elab.async false
set_option linter.all false
set_option maxRecDepth 100000
local macro_rules | `(tactic| trivial) => `(tactic| first | exact Or.inl rfl | exact Or.inr rfl | exact Or.inr (Or.inl rfl) | exact Or.inr (Or.inr rfl))
namespace L2
open PySem PySem.Spec PyProof.Rows
noncomputable abbrev Key:=Sum Int Str
noncomputable def keyIs:Key→Value→Bool
 | .inl k,v=>Value.isInt k v
 | .inr x,v=>Value.isStrOf x v
noncomputable def keyH (w:World):Key→Int
 | .inl k=>hashInt k
 | .inr x=>hashStr w x
theorem keyIs_shape:∀ {k:Key} {v:Value},keyIs k v=true→(∃ i t,k=Sum.inl i∧v=Value.int i t)∨(∃ x t,k=Sum.inr x∧v=Value.str x t)
 | .inl i,v,h=>by
  obtain ⟨t,e⟩:=Value.isInt_shape (k:=i) (v:=v) h
  exact .inl ⟨i,t,rfl,e⟩
 | .inr x,v,h=>by
  obtain ⟨t,e⟩:=Value.isStrOf_shape (x:=x) (v:=v) h
  exact .inr ⟨x,t,rfl,e⟩
theorem keyIs_int (i:Int) (t:Tok):keyIs (.inl i) (.int i t)=true:=by simp [keyIs,Value.isInt]
theorem keyIs_str (x:Str) (t:Tok):keyIs (.inr x) (.str x t)=true:=by simp [keyIs,Value.isStrOf]
theorem key_ll (a b:Int):decide ((Sum.inl a:Key)=Sum.inl b)=(a == b):=by
 by_cases e:a=b
 ·subst e; simp
 ·have h:¬ (Sum.inl a:Key)=Sum.inl b:=fun q=>e (Sum.inl.inj q)
  rw [decide_eq_false h]
  exact (beq_eq_false_iff_ne.mpr e).symm
theorem key_rr (a b:Str):decide ((Sum.inr a:Key)=Sum.inr b)=decide (a=b):=by
 by_cases e:a=b
 ·subst e; simp
 ·have h:¬ (Sum.inr a:Key)=Sum.inr b:=fun q=>e (Sum.inr.inj q)
  rw [decide_eq_false h,decide_eq_false e]
theorem key_lr (a:Int) (b:Str):decide ((Sum.inl a:Key)=Sum.inr b)=false:=decide_eq_false (fun q=>nomatch q)
theorem key_rl (a:Str) (b:Int):decide ((Sum.inr a:Key)=Sum.inl b)=false:=decide_eq_false (fun q=>nomatch q)
noncomputable def mixKind (prog:Program) (w:World):PySem.KeyKind prog w Key where
 is:=keyIs
 hash:=keyH w
 inj:=fun v a b ha hb=>by
  rcases keyIs_shape ha with ⟨i,t,rfl,rfl⟩|⟨x,t,rfl,rfl⟩
  ·rcases keyIs_shape hb with ⟨j,u,rfl,e⟩|⟨y,u,rfl,e⟩
   ·injection e with e1 _; rw [e1]
   ·exact nomatch e
  ·rcases keyIs_shape hb with ⟨j,u,rfl,e⟩|⟨y,u,rfl,e⟩
   ·exact nomatch e
   ·injection e with e1 _; rw [e1]
 byValue:=fun k v h=>by
  rcases keyIs_shape h with ⟨i,t,rfl,rfl⟩|⟨x,t,rfl,rfl⟩ <;> rfl
 pyHash:=fun hv h=>by
  rcases keyIs_shape hv with ⟨i,t,rfl,rfl⟩|⟨x,t,rfl,rfl⟩
  ·exact wpAny_pyHash_int h
  ·exact wpAny_pyHash_str h
 eqBool:=fun hu hv h=>by
  rcases keyIs_shape hu with ⟨i,t,rfl,rfl⟩|⟨x,t,rfl,rfl⟩
  ·rcases keyIs_shape hv with ⟨j,u,rfl,rfl⟩|⟨y,u,rfl,rfl⟩
   ·rw [key_ll] at h; exact wpAny_eqBool_int h
   ·rw [key_lr] at h; exact SeqAt.EqAt.int_str i t y u _ _ _ _ h
  ·rcases keyIs_shape hv with ⟨j,u,rfl,rfl⟩|⟨y,u,rfl,rfl⟩
   ·rw [key_rl] at h; exact SeqAt.EqAt.str_int x t j u _ _ _ _ h
   ·rw [key_rr] at h; exact wpAny_eqBool_str h
 «strs»:=fun k x t v h=>by
  rcases keyIs_shape h with ⟨i,u,rfl,e⟩|⟨y,u,rfl,e⟩
  ·exact nomatch e
  ·injection e with e1 _
   subst e1
   cases v <;> rfl
theorem mixKind_int (prog:Program) (w:World) (i:Int) (t:Tok):(mixKind prog w).is (.inl i) (.int i t)=true:=keyIs_int i t
theorem mixKind_str (prog:Program) (w:World) (x:Str) (t:Tok):(mixKind prog w).is (.inr x) (.str x t)=true:=keyIs_str x t
end L2
namespace L2
open PySem PySem.Spec PyProof.Rows
inductive V where
 | non|bl (b:Bool)|int (i:Int)|str (x:Str)|byt (b:Array UInt8)|flt (b:UInt64)|ref (a:Addr)|ty (n:String)
 deriving DecidableEq
noncomputable def RelV:V→Value→Prop
 | .non,u=>u=Value.none
 | .bl b,u=>u=Value.bool b
 | .int i,u=>∃ t,u=Value.int i t
 | .str x,u=>∃ t,u=Value.str x t
 | .byt b,u=>∃ t,u=Value.bytes b t
 | .flt b,u=>∃ t,u=Value.float b t
 | .ref a,u=>u=Value.ref a
 | .ty n,u=>u=Value.type n
noncomputable abbrev Vals:List V→List Value→Prop:=Paired RelV
theorem Vals.length {xs:List V} {us:List Value} (r:Vals xs us):xs.length=us.length:=Paired.length r
theorem Vals.get:∀ {xs:List V} {us:List Value} {i:Nat} {x:V},Vals xs us→xs[i]?=some x→∃ u,us[i]?=some u∧RelV x u
 | _,_,_,_,.nil,e=>by simp at e
 | _,_,0,_,.cons r _,e=>by simp at e; subst e; exact ⟨_,rfl,r⟩
 | _,_,i+1,x,.cons _ t,e=>by
  obtain ⟨u,h1,h2⟩:=Vals.get (i:=i) (x:=x) t (by simpa using e)
  exact ⟨u,by simpa using h1,h2⟩
theorem Vals.set {x:V} {u:Value} (r:RelV x u):∀ {xs:List V} {us:List Value} (i:Nat),Vals xs us→Vals (xs.set i x) (us.set i u)
 | _,_,_,.nil=>.nil
 | _,_,0,.cons _ t=>.cons r t
 | _,_,i+1,.cons q t=>.cons q (Vals.set r i t)
theorem Vals.append:∀ {xs ys:List V} {us ws:List Value},Vals xs us→Vals ys ws→Vals (xs++ys) (us++ws)
 | _,_,_,_,.nil,s=>s
 | _,_,_,_,.cons r t,s=>.cons r (Vals.append t s)
theorem Vals.take:∀ {xs:List V} {us:List Value} (n:Nat),Vals xs us→Vals (xs.take n) (us.take n)
 | _,_,0,_=>.nil
 | _,_,_+1,.nil=>.nil
 | _,_,n+1,.cons r t=>.cons r (Vals.take n t)
theorem Vals.drop:∀ {xs:List V} {us:List Value} (n:Nat),Vals xs us→Vals (xs.drop n) (us.drop n)
 | _,_,0,r=>r
 | _,_,_+1,.nil=>.nil
 | _,_,n+1,.cons _ t=>Vals.drop n t
noncomputable def RelO:Option V→Option Value→Prop
 | some v,some u=>RelV v u
 | none,none=>True
 | _,_=>False
noncomputable def KV {κ:Type}:List (κ×V)→List (κ×Value)→Prop:=Paired fun (p:κ×V) (q:κ×Value)=>p.1=q.1∧RelV p.2 q.2
noncomputable def kV:Key→V
 | .inl i=>.int i
 | .inr x=>.str x
inductive HO where
 | lst (xs:List V)
 | tup (xs:List V)
 | dK (kvs:List (Key×V))|dT (kvs:List (List Key×V))
 | set (S:Int→Bool) (n:Nat)
 | ins (C dx:Addr) (fs:List (Str×V))
 | own (x:Addr)
 | xd (fs:List (Str×V))
 | met (f x:Addr)
 | rng (lo hi:Int)
 | frz (o:Obj) (u:HO)
 | tbl (ps:Array Value)
 | ext (φ:Heap→Prop)
noncomputable abbrev Hp:=Addr→Option HO
noncomputable def upd (H:Hp) (a:Addr) (o:HO):Hp:=fun b=>if b=a then some o else H b
theorem upd_same {H:Hp} {a:Addr} {o:HO}:upd H a o a=some o:=by unfold upd; rw [if_pos rfl]
theorem upd_ne {H:Hp} {a b:Addr} {o:HO} (h:b≠a):upd H a o b=H b:=by unfold upd; rw [if_neg h]
theorem ne_of {H:Hp} {a b:Addr} {o u:HO} (h:H a=some o) (h':H b=some u) (d:o≠u):a≠b:=by
 intro e; subst e; rw [h] at h'; exact d (Option.some.inj h')
theorem ne_of_none {H:Hp} {a b:Addr} {o:HO} (h:H a=some o) (h':H b=none):a≠b:=by
 intro e; subst e; rw [h] at h'; cases h'
section
variable (P:Program) (w:World)
noncomputable def ObjOk (H:Hp) (h:Heap) (a:Addr):HO→Prop
 | .lst xs=>xs.length ≤ sizeLine∧∃ (its:List Value) (n:Nat),Vals xs its∧h.get? a=some { cls:=.type "list",data:=.seq its.toArray n }
 | .tup xs=>xs.length ≤ sizeLine∧∃ its:List Value,Vals xs its∧IsTup h a its.toArray
 | .dK kvs=>kvs.length ≤ sizeLine∧(a == sysModules)=false∧∃ vs,KV kvs vs∧h.DictOf (mixKind P w) a vs
 | .dT kvs=>kvs.length ≤ sizeLine∧(a == sysModules)=false∧∃ xs:List (List Key×Addr×Value),
   Paired (fun (p:List Key×V) (q:List Key×Addr×Value)=>p.1=q.1∧H q.2.1=some (.tup (p.1.map kV))∧RelV p.2 q.2.2) kvs xs ∧
   ∃ o es ep,h.get? a=some o∧o.ExactDict∧o.data=.dict es ep∧es.toList=xs.map (entryOfKey (tupleKind (mixKind P w)))∧(xs.map (·.1)).Nodup
 | .set S n=>h.SetOf (intKind P w) a S n
 | .ins C dx fs=>H dx=some (.own a)∧fs.length ≤ 1000∧dx≠a∧h.get? a=some (PySem.W.instObj C dx) ∧
   ∃ mA,h.Ns1 dx mA∧(∀ f,RelO (fs.lookup f) (mA f))∧PySem.Within mA (fs.map (·.1))
 | .own _=>∃ o,h.get? a=some o
 | .xd fs=>∃ mA,h.Ns1 a mA∧∀ f,RelO (fs.lookup f) (mA f)
 | .rng lo hi=>∃ t u v,h.get? a=some { cls:=.type "range",data:=.fields #[.int lo t,.int hi u,.int 1 v] }
 | .frz o u=>h.get? a=some o∧ObjOk H h a u
 | .tbl ps=>h.get? a=some { cls:=.none,data:=.fields ps }
 | .met f x=>h.get? a=some (PySem.W.methodObj (.ref f) (.ref x))
 | .ext φ=>φ h∧(∃ o,h.get? a=some o)∧∀ h1 h2:Heap,φ h1→(∀ o,h1.get? a=some o→h2.get? a=some o)→φ h2
noncomputable def HOk (H:Hp) (h:Heap):Prop:=∀ a o,H a=some o→ObjOk P w H h a o
end
section
variable {P:Program} {w:World} {H H':Hp} {h h':Heap} {a:Addr} {o:HO}
theorem ObjOk.lt (x:ObjOk P w H h a o):a < h.objs.size:=by
 cases o with
 | lst xs=>obtain ⟨_,_,_,_,e⟩:=x; exact Heap.lt_size e
 | tup xs=>obtain ⟨_,_,_,p⟩:=x; exact p.lt
 | dK kvs=>obtain ⟨_,_,_,_,o,_,_,e,_⟩:=x; exact Heap.lt_size e
 | dT kvs=>obtain ⟨_,_,_,_,o,_,_,e,_⟩:=x; exact Heap.lt_size e
 | set S n=>obtain ⟨o,_,_,_,e,_⟩:=x; exact Heap.lt_size e
 | ins C dx fs=>obtain ⟨_,_,_,e,_⟩:=x; exact Heap.lt_size e
 | own y=>obtain ⟨_,e⟩:=x; exact Heap.lt_size e
 | xd fs=>obtain ⟨_,⟨_,_,_,e,_⟩,_⟩:=x; exact Heap.lt_size e
 | rng lo hi=>obtain ⟨_,_,_,e⟩:=x; exact Heap.lt_size e
 | frz ob u=>obtain ⟨e,_⟩:=x; exact Heap.lt_size e
 | tbl ps=>exact Heap.lt_size (show h.get? a=some _ from x)
 | met f y=>exact Heap.lt_size (show h.get? a=some _ from x)
 | ext φ=>obtain ⟨_,⟨_,e⟩,_⟩:=x; exact Heap.lt_size e
theorem Paired.mapP {α β:Type} {F G:α→β→Prop}:∀ {l₁:List α} {l₂:List β},Paired F l₁ l₂→(∀ a b,F a b→G a b)→Paired G l₁ l₂
 | _,_,.nil,_=>.nil
 | _,_,.cons r t,f=>.cons (f _ _ r) (Paired.mapP t f)
theorem ObjOk.stay (x:ObjOk P w H h a o) (k:∀ b u,(b=a∨H b=some (.own a))→h.get? b=some u→h'.get? b=some u)
  (ho:∀ b,H b=some (.own a)→H' b=some (.own a)) (ht:∀ b xs,H b=some (.tup xs)→H' b=some (.tup xs)):ObjOk P w H' h' a o:=by
 induction o with
 | lst xs=>obtain ⟨z,its,n,r,e⟩:=x; exact ⟨z,its,n,r,k _ _ (.inl rfl) e⟩
 | tup xs=>obtain ⟨z,its,r,ob,e,c⟩:=x; exact ⟨z,its,r,ob,k _ _ (.inl rfl) e,c⟩
 | dK kvs=>obtain ⟨z,y,vs,r,ob,es,ep,e,c⟩:=x; exact ⟨z,y,vs,r,ob,es,ep,k _ _ (.inl rfl) e,c⟩
 | dT kvs =>
  obtain ⟨z,y,xs,r,ob,es,ep,e,c⟩:=x
  exact ⟨z,y,xs,Paired.mapP r fun p q z=>⟨z.1,ht _ _ z.2.1,z.2.2⟩,ob,es,ep,k _ _ (.inl rfl) e,c⟩
 | set S n=>obtain ⟨ob,es,ep,t,e,c⟩:=x; exact ⟨ob,es,ep,t,k _ _ (.inl rfl) e,c⟩
 | ins C dx fs =>
  obtain ⟨d,z,ne,e,mA,⟨od,es,ep,e2,c⟩,r⟩:=x
  exact ⟨ho _ d,z,ne,k _ _ (.inl rfl) e,mA,⟨od,es,ep,k _ _ (.inr d) e2,c⟩,r⟩
 | own y=>obtain ⟨ob,e⟩:=x; exact ⟨ob,k _ _ (.inl rfl) e⟩
 | xd fs=>obtain ⟨mA,⟨od,es,ep,e,c⟩,r⟩:=x; exact ⟨mA,⟨od,es,ep,k _ _ (.inl rfl) e,c⟩,r⟩
 | rng lo hi=>obtain ⟨t,u,v,e⟩:=x; exact ⟨t,u,v,k _ _ (.inl rfl) e⟩
 | frz ob u ih=>obtain ⟨e,q⟩:=x; exact ⟨k _ _ (.inl rfl) e,ih q⟩
 | tbl ps =>
  have e:h.get? a=some { cls:=.none,data:=.fields ps }:=x
  show h'.get? a=some { cls:=.none,data:=.fields ps }
  exact k a _ (.inl rfl) e
 | met f y =>
  have e:h.get? a=some (PySem.W.methodObj (.ref f) (.ref y)):=x
  show h'.get? a=some (PySem.W.methodObj (.ref f) (.ref y))
  exact k a _ (.inl rfl) e
 | ext φ=>obtain ⟨p,⟨o,e⟩,st⟩:=x; exact ⟨st _ _ p fun o q=>k _ _ (.inl rfl) q,⟨o,k _ _ (.inl rfl) e⟩,st⟩
theorem HOk.lt (x:HOk P w H h) (e:H a=some o):a < h.objs.size:=(x a o e).lt
theorem HOk.fresh (x:HOk P w H h) (e:h.objs.size ≤ a):H a=none:=by
 cases q:H a with
 | none=>rfl
 | some u=>exact absurd (Nat.lt_of_lt_of_le (x.lt q) e) (Nat.lt_irrefl _)
theorem HOk.kept (x:HOk P w H h) (k:∀ b u,h.get? b=some u→h'.get? b=some u):HOk P w H h':=fun a o e =>
 (x a o e).stay (fun b u _ q=>k b u q) (fun _ q=>q) fun _ _ q=>q
theorem HOk.laid (x:HOk P w H h) (k:∀ b u,h.get? b=some u→h'.get? b=some u) (hp:h.objs.size ≤ a) (new:ObjOk P w (upd H a o) h' a o):HOk P w (upd H a o) h':=fun b u e=>by
 have hn:=x.fresh hp
 by_cases hb:b=a
 ·subst hb; rw [upd_same] at e; cases e; exact new
 ·rw [upd_ne hb] at e
  exact (x b u e).stay (fun c v _ q=>k c v q) (fun c q=>by rw [upd_ne (ne_of_none q hn)]; exact q) fun c xs q=>by rw [upd_ne (ne_of_none q hn)]; exact q
end
noncomputable def Rd (H:Hp) (a:Addr) (u:HO):Prop:=H a=some u∨∃ o,H a=some (.frz o u)
theorem Rd.ok {P:Program} {w:World} {H:Hp} {h:Heap} {a:Addr} {u:HO} (r:Rd H a u) (x:HOk P w H h):ObjOk P w H h a u:=by
 rcases r with r|⟨o,r⟩
 ·exact x a u r
 ·obtain ⟨_,q⟩:=x a _ r
  exact q
noncomputable def Mut:Option HO→Prop
 | some (.lst _)=>True
 | some (.dK _)=>True
 | some (.dT _)=>True
 | some (.set _ _)=>True
 | some (.ins _ _ _)=>True
 | some (.ext _)=>True
 | _=>False
section
variable {P:Program} {w:World} {H:Hp} {h h':Heap} {x e:Addr} {o':HO}
theorem HOk.write (ok:HOk P w H h) (mu:Mut (H x)) (he:e=x∨H e=some (.own x)) (k:∀ b u,b≠e→h.get? b=some u→h'.get? b=some u) (heo:∃ u,h'.get? e=some u)
  (new:ObjOk P w (upd H x o') h' x o'):HOk P w (upd H x o') h':=fun b u q=>by
 have nown:∀ c y,H c=some (.own y)→c≠x:=fun c y r z=>by subst z; rw [r] at mu; exact mu
 have ntup:∀ c xs,H c=some (.tup xs)→c≠x:=fun c xs r z=>by subst z; rw [r] at mu; exact mu
 by_cases hb:b=x
 ·subst hb; rw [upd_same] at q; cases q; exact new
 ·rw [upd_ne hb] at q
  by_cases hbe:b=e
  ·have q':H b=some (.own x):=by
    rcases he with z|z
    ·exact absurd (hbe.trans z) hb
    ·rw [hbe]; exact z
   rw [q] at q'; cases q'
   obtain ⟨v,hv⟩:=heo
   exact ⟨v,by rw [hbe]; exact hv⟩
  ·refine (ok b u q).stay (fun c v hc r=>k c v ?_ r) (fun c r=>by rw [upd_ne (nown c b r)]; exact r) fun c xs r=>by rw [upd_ne (ntup c xs r)]; exact r
   rcases hc with rfl|hc
   ·exact hbe
   ·rintro rfl
    rcases he with z|z
    ·exact nown c b hc z
    ·rw [hc] at z; cases z; exact hb rfl
end
structure Un (fs ex:List Addr) (H H':Hp) (h h':Heap):Prop where
 keep:∀ b o,h.get? b=some o→H b=none→b ∉ fs→b ∉ ex→h'.get? b=some o
 slot:∀ b o,h.get? b=some o→H b=none→b∈fs→b ∉ ex→∃ sl,h'.get? b=some { o with slots:=sl }
 free:∀ b o,h.get? b=some o→H b=none→b ∉ ex→H' b=none
 there:∀ b o,h.get? b=some o→b ∉ ex→∃ o',h'.get? b=some o'
 tups:∀ b xs,H b=some (.tup xs)→H' b=some (.tup xs)
 frzs:∀ b o u,H b=some (.frz o u)→H' b=some (.frz o u)
 tbls:∀ b ps,H b=some (.tbl ps)→∃ more,H' b=some (.tbl (ps++more))
section
variable {fs fs' ex ex':List Addr} {H H1 H2:Hp} {h h1 h2 h':Heap} {a x e:Addr} {o:HO}
theorem Un.any (u:Un fs ex H H1 h h1) {b:Addr} {ob:Obj} (q:h.get? b=some ob) (n:H b=none) (hx:b ∉ ex):∃ sl,h1.get? b=some { ob with slots:=sl }:=by
 by_cases hb:b∈fs
 ·exact u.slot b ob q n hb hx
 ·exact ⟨ob.slots,u.keep b ob q n hb hx⟩
theorem Un.kept (k:∀ b u,h.get? b=some u→h'.get? b=some u):Un fs ex H H h h' :=
 ⟨fun b ob q _ _ _=>k b ob q,fun b ob q _ _ _=>⟨ob.slots,k b ob q⟩,fun _ _ _ n _=>n,fun b ob q _=>⟨ob,k b ob q⟩,fun _ _ q=>q,fun _ _ _ q=>q,fun _ ps q=>⟨#[],by rw [q]; simp⟩⟩
theorem Un.refl:Un fs ex H H h h:=Un.kept fun _ _ q=>q
theorem Un.laid (k:∀ b u,h.get? b=some u→h'.get? b=some u) (hp:h.objs.size ≤ a) (hn:H a=none):Un fs ex H (upd H a o) h h' where
 keep:=fun b u q _ _ _=>k b u q
 slot:=fun b u q _ _ _=>⟨u.slots,k b u q⟩
 free:=fun b u q n _=>by rw [upd_ne (Nat.ne_of_lt (Nat.lt_of_lt_of_le (Heap.lt_size q) hp))]; exact n
 there:=fun b u q _=>⟨u,k b u q⟩
 tups:=fun b xs q=>by rw [upd_ne (ne_of_none q hn)]; exact q
 frzs:=fun b u xs q=>by rw [upd_ne (ne_of_none q hn)]; exact q
 tbls:=fun b ps q=>⟨#[],by rw [upd_ne (ne_of_none q hn),q]; simp⟩
theorem Un.write (mu:Mut (H x)) (he:e=x∨H e=some (.own x)) (k:∀ b u,b≠e→h.get? b=some u→h'.get? b=some u) (heo:∃ u,h'.get? e=some u):Un fs ex H (upd H x o) h h':=by
 have hx:∀ b,H b=none→b≠x:=fun b n z=>by subst z; rw [n] at mu; exact mu
 have hb:∀ b,H b=none→b≠e:=fun b n z=>by
  subst z
  rcases he with r|r
  ·exact hx b n r
  ·rw [n] at r; cases r
 have hm:∀ b u,H b=some u→¬ Mut (some u)→b≠x:=fun b u q nm z=>by subst z; rw [q] at mu; exact nm mu
 refine ⟨fun b u q n _ _=>k b u (hb b n) q,fun b u q n _ _=>⟨u.slots,k b u (hb b n) q⟩,fun b u q n _=>by rw [upd_ne (hx b n)]; exact n,fun b u q _=>?_,
  fun b xs q=>by rw [upd_ne (hm b _ q fun z=>z)]; exact q,fun b u xs q=>by rw [upd_ne (hm b _ q fun z=>z)]; exact q,fun b ps q=>⟨#[],by rw [upd_ne (hm b _ q fun z=>z),q]; simp⟩⟩
 by_cases hbe:b=e
 ·subst hbe; exact heo
 ·exact ⟨u,k b u hbe q⟩
end
noncomputable def trk (h:Heap) (H:Hp):List Addr:=(List.range h.objs.size).filter fun a=>(H a).isSome
noncomputable def hidT (h:Heap) (H:Hp):Heap:=PySem.W.hideAll h (trk h H)
theorem hidT_size (h:Heap) (H:Hp):(hidT h H).objs.size=h.objs.size:=PySem.W.hideAll_size _ _
theorem hidT_get {h:Heap} {H:Hp} {b:Addr} {o:Obj} (e:h.get? b=some o) (n:H b=none):(hidT h H).get? b=some o :=
 PySem.W.hideAll_get _ e fun hm=>by
  have q:(H b).isSome=true:=(List.mem_filter.mp hm).2
  rw [n] at q; simp at q
theorem of_hidT {h:Heap} {H:Hp} {b:Addr} {o:Obj} (e:(hidT h H).get? b=some o):h.get? b=some o∧H b=none:=by
 have e':h.get? b=some o:=PySem.W.of_hideAll (trk h H) e
 refine ⟨e',?_⟩
 cases q:H b with
 | none=>rfl
 | some x =>
  have hm:b∈trk h H:=List.mem_filter.mpr ⟨List.mem_range.mpr (Heap.lt_size e'),by simp [q]⟩
  have z:(hidT h H).get? b=none:=PySem.W.hideAll_none (trk h H) hm
  rw [z] at e; cases e
noncomputable def allNews (g h:Heap) (L:Addr):List (Addr×Obj):=(List.range h.objs.size).filterMap fun a=>if a=L∨(g.get? a).isSome=true then none else (h.get? a).map fun o=>(a,o)
noncomputable def rest (g h:Heap) (L d:Addr):List (Addr×Obj):=(allNews g h L).filter fun p=>decide (p.1≠d)
end L2
namespace L2
open PySem PySem.Spec PyProof.Rows
structure Mod (K:PySem.W.Frag) (mg:Str→Option Value) (base:Heap):Prop where
 kin:K.In base
 glob:base.Ns mainGlobals mg
 blt:∃ mb,base.Ns builtinsNs mb∧∀ x:Str,x≠"__name__"→mb x=bootBuiltins x
 nolimit:base.NoLimit
/-- the context: a def's body (or a comprehension's block) running. base: fixed through the whole law; s₀,H₀: the entry; outer: the frames whose slots others may change (a def's callers); stack: all frames that run;
   ex: iterators that were made ahead of the entry and are walked here (a comprehension's); fn: the names whose cells were made at the entry (a def: all; a comprehension's block: its own); calm: not within an except suite; pn: pins that every state bears; xe: what is wanted of an exception that leaves the code -/
structure Cx where
 prog:Program
 w:World
 K:PySem.W.Frag
 mg:Str→Option Value
 base:Heap
 A:Around
 N:List Str
 s₀:Shared
 H₀:Hp
 env:Env
 outer:List Env
 stack:List Env
 ex:List Addr
 fn:Str→Bool
 calm:Bool
 pn:List (Addr×Obj)
 xe:Value→Shared→Prop
noncomputable def frs (l:List Env):List Addr:=l.filterMap (·.frame)
noncomputable abbrev Cx.fs (X:Cx):List Addr:=frs X.outer
noncomputable def Vis (sc:Scope) (x:Str):Prop:=sc.names.lookup x=some .local∨sc.names.lookup x=some .cell∨sc.names.lookup x=some .free
noncomputable def Loc (sc:Scope) (x:Str):Prop:=sc.names.lookup x=some .local∨sc.names.lookup x=some .cell
noncomputable def Look (env:Env) (h:Heap) (m:Str→Option Value) (x:Str) (u:Value):Prop :=
 (env.kindOf x=some .local∧m x=some u)∨((env.kindOf x=some .cell∨env.kindOf x=some .free)∧∃ c,env.cells.lookup x=some c∧h.IsCell c (some u))
structure Cx.Ok (X:Cx):Prop where
 mod:Mod X.K X.mg X.base
 kind:X.env.scope.kind=.function
 glob:X.env.globals=mainGlobals
 blt:X.env.builtins=builtinsNs
 above:X.s₀.heap.objs.size ≤ X.env.locals
 inj:∀ x y c,X.env.cells.lookup x=some c→X.env.cells.lookup y=some c→x=y
 has:∀ x,(X.env.kindOf x=some .cell∨X.env.kindOf x=some .free)→∃ c,X.env.cells.lookup x=some c
 cab:∀ x c,X.fn x=true→X.env.cells.lookup x=some c→X.s₀.heap.objs.size ≤ c
 hd:X.calm=true→X.A.handled=none
 frames:X.A.frames=some X.stack
 stk:X.stack=X.outer∨(X.stack=X.env::X.outer∧X.env.frame=some X.env.locals)
 exf:∀ b∈X.ex,b≠X.env.locals∧∀ x c,X.env.cells.lookup x=some c→c≠b
 bs:∀ b o,X.base.get? b=some o→X.s₀.heap.get? b=some o∧X.H₀ b=none
 bsz:X.base.objs.size ≤ X.s₀.heap.objs.size
 noex:∀ b o,X.base.get? b=some o→b ∉ X.ex
 exfs:∀ b∈X.ex,b ∉ X.fs
 funs:X.s₀.heap.FunFrames X.base X.outer
 frf:∀ b∈X.fs,X.H₀ b=none
structure Inv (X:Cx) (pins:List (Addr×Obj)) (σ:List (Option V)) (H:Hp) (s:Shared):Prop where
 ok:X.Ok
 os:s.os=X.s₀.os
 bare:AllBare s.gens
 base:Un X.fs X.ex X.H₀ H X.s₀.heap s.heap
 loc:∃ m,s.heap.Ns X.env.locals m∧∀ (i:Nat) (x:Str) (v:V),X.N[i]?=some x→σ[i]?=some (some v)→Vis X.env.scope x→∃ u,RelV v u∧Look X.env s.heap m x u
 cell:∀ x c,X.env.cells.lookup x=some c→∃ v,s.heap.IsCell c v
 free:H X.env.locals=none
 freeC:∀ x c,X.env.cells.lookup x=some c→H c=none
 pin:∀ p∈X.pn++pins,s.heap.get? p.1=some p.2∧H p.1=none∧p.1≠X.env.locals∧p.1 ∉ X.fs∧∀ v,p.2.data≠.cell v
 hok:HOk X.prog X.w H s.heap
 len:σ.length=X.N.length
section
variable {X:Cx} {pins:List (Addr×Obj)} {σ:List (Option V)} {H H':Hp} {s:Shared} {h':Heap}
theorem Cx.Ok.nofr (ok:X.Ok) {b:Addr} {o:Obj} (e:X.base.get? b=some o):b ∉ X.fs:=fun hb=>by
 have:=(ok.funs.mem hb).1
 rw [e] at this; cases this
theorem Inv.bs (I:Inv X pins σ H s):∀ b o,X.base.get? b=some o→s.heap.get? b=some o∧H b=none:=fun b o e =>
 ⟨I.base.keep b o (I.ok.bs b o e).1 (I.ok.bs b o e).2 (I.ok.nofr e) (I.ok.noex b o e),I.base.free b o (I.ok.bs b o e).1 (I.ok.bs b o e).2 (I.ok.noex b o e)⟩
theorem Inv.bk (I:Inv X pins σ H s):∀ b o,X.base.get? b=some o→s.heap.get? b=some o:=fun b o e=>(I.bs b o e).1
theorem Inv.mod (I:Inv X pins σ H s):Mod X.K X.mg X.base:=I.ok.mod
theorem Inv.kIn (I:Inv X pins σ H s):X.K.In s.heap:=I.ok.mod.kin.keeps I.bk
theorem Inv.lt (I:Inv X pins σ H s):X.env.locals < s.heap.objs.size:=let ⟨_,hn,_⟩:=I.loc; hn.lt
theorem Inv.sz (I:Inv X pins σ H s):X.s₀.heap.objs.size ≤ s.heap.objs.size:=Nat.le_trans I.ok.above (Nat.le_of_lt I.lt)
theorem Inv.nofs (I:Inv X pins σ H s) {a:Addr} (h:s.heap.objs.size ≤ a):a ∉ X.fs:=fun hb=>by
 obtain ⟨_,o,ho,_⟩:=I.ok.funs.mem hb
 exact absurd (Nat.lt_of_lt_of_le (Heap.lt_size ho) (Nat.le_trans I.sz h)) (Nat.lt_irrefl _)
theorem Inv.cne (I:Inv X pins σ H s):∀ x c,X.env.cells.lookup x=some c→c≠X.env.locals:=fun x c e z=>by
 obtain ⟨v,o,ho,hd⟩:=I.cell x c e
 obtain ⟨m,⟨o',es,ep,ho',hd',_⟩,_⟩:=I.loc
 rw [z,ho'] at ho; cases ho; rw [hd'] at hd; cases hd
theorem Inv.funs (I:Inv X pins σ H s):s.heap.FunFrames X.base X.outer:=by
 have all:∀ (l:List Env),(∀ b∈frs l,b∈X.fs)→X.s₀.heap.FunFrames X.base l→s.heap.FunFrames X.base l:=by
  intro l
  induction l with
  | nil=>intro _ _; trivial
  | cons env r ih =>
   intro hs hl
   obtain ⟨hk,⟨L,o,hf,hn,ho,hd⟩,hr⟩:=hl
   have hL:L∈X.fs:=hs L (by unfold frs; rw [List.filterMap_cons,hf]; exact List.mem_cons_self)
   obtain ⟨sl,e⟩:=I.base.slot L o ho (I.ok.frf L hL) hL fun z=>I.ok.exfs L z hL
   exact ⟨hk,⟨L,_,hf,hn,e,hd⟩,ih (fun b hb=>hs b (by unfold frs; rw [List.filterMap_cons,hf]; exact List.mem_cons_of_mem _ hb)) hr⟩
 exact all X.outer (fun _ hb=>hb) I.ok.funs
theorem Inv.stack (I:Inv X pins σ H s):s.heap.FunFrames X.base X.stack:=by
 rcases I.ok.stk with e|⟨e,hf⟩
 ·rw [e]; exact I.funs
 ·rw [e]
  obtain ⟨m,hn,_⟩:=I.loc
  refine .cons (by rw [I.ok.kind]; decide) hf hn ?_ I.funs
  exact Heap.get?_none_of_le (Nat.le_trans I.ok.bsz I.ok.above)
theorem Inv.stkSub (I:Inv X pins σ H s):∀ b∈frs X.stack,b∈X.env.locals::X.fs:=fun b hb=>by
 rcases I.ok.stk with e|⟨e,hf⟩
 ·rw [e] at hb; exact List.mem_cons_of_mem _ hb
 ·rw [e] at hb
  unfold frs at hb
  rw [List.filterMap_cons,hf] at hb
  exact hb
theorem Inv.stkFree (I:Inv X pins σ H s):∀ b∈frs X.stack,H b=none:=fun b hb=>by
 rcases List.mem_cons.mp (I.stkSub b hb) with e|hb
 ·rw [e]; exact I.free
 ·obtain ⟨_,o,ho,_⟩:=I.ok.funs.mem hb
  exact I.base.free b o ho (I.ok.frf b hb) fun z=>I.ok.exfs b z hb
theorem Inv.step {g':Array GenState} {t':Nat} {d':Drawn} {ch:List Addr} (I:Inv X pins σ H s)
  (hch:∀ b∈ch,(b∈X.ex∨X.s₀.heap.objs.size ≤ b)∧b≠X.env.locals∧(∀ x c,X.env.cells.lookup x=some c→c≠b)∧∀ p∈X.pn++pins,p.1≠b)
  (keep:∀ b o,b≠X.env.locals→b ∉ X.fs→b ∉ ch→s.heap.get? b=some o→H b=none→h'.get? b=some o)
  (slot:∀ b o,b≠X.env.locals→b∈X.fs→b ∉ ch→s.heap.get? b=some o→H b=none→∃ sl,h'.get? b=some { o with slots:=sl }) (free:∀ b o,b ∉ ch→s.heap.get? b=some o→H b=none→H' b=none)
  (there:∀ b o,b ∉ ch→s.heap.get? b=some o→∃ o',h'.get? b=some o')
  (tups:∀ b xs,H b=some (.tup xs)→H' b=some (.tup xs)) (frzs:∀ b o u,H b=some (.frz o u)→H' b=some (.frz o u)) (tbls:∀ b ps,H b=some (.tbl ps)→∃ more,H' b=some (.tbl (ps++more)))
  (ns:∀ m,s.heap.Ns X.env.locals m→h'.Ns X.env.locals m) (hok:HOk X.prog X.w H' h') (hg:AllBare g') :
  Inv X pins σ H' { s with heap:=h',gens:=g',drawn:=d',toks:=t' }:=by
 have neL:∀ b o,X.s₀.heap.get? b=some o→b≠X.env.locals:=fun b o e=>Nat.ne_of_lt (Nat.lt_of_lt_of_le (Heap.lt_size e) I.ok.above)
 have neC:∀ b o,X.s₀.heap.get? b=some o→b ∉ X.ex→b ∉ ch:=fun b o e hx hb=>by
  rcases (hch b hb).1 with z|z
  ·exact hx z
  ·exact absurd (Nat.lt_of_lt_of_le (Heap.lt_size e) z) (Nat.lt_irrefl _)
 have cellK:∀ x c,X.env.cells.lookup x=some c→∀ v,s.heap.IsCell c v→h'.IsCell c v:=fun x c e v ⟨o,ho,hd⟩=>by
  have nch:c ∉ ch:=fun z=>(hch c z).2.2.1 x c e rfl
  by_cases hc:c∈X.fs
  ·obtain ⟨sl,q⟩:=slot c o (I.cne x c e) hc nch ho (I.freeC x c e)
   exact ⟨_,q,hd⟩
  ·exact ⟨o,keep c o (I.cne x c e) hc nch ho (I.freeC x c e),hd⟩
 refine ⟨I.ok,I.os,hg,⟨fun b o e n hb hx=>?_,fun b o e n hb hx=>?_,fun b o e n hx=>?_,fun b o e hx=>?_,fun b xs e=>tups b xs (I.base.tups b xs e),fun b o xs e=>frzs b o xs (I.base.frzs b o xs e),fun b ps e=>?_⟩,?_,fun x c e=>?_,?_,fun x c e=>?_,fun p hp=>?_,hok,I.len⟩
 ·exact keep b o (neL b o e) hb (neC b o e hx) (I.base.keep b o e n hb hx) (I.base.free b o e n hx)
 ·obtain ⟨sl,e1⟩:=I.base.slot b o e n hb hx
  obtain ⟨sl',e2⟩:=slot b _ (neL b o e) hb (neC b o e hx) e1 (I.base.free b o e n hx)
  exact ⟨sl',e2⟩
 ·obtain ⟨o',e1⟩:=I.base.there b o e hx
  exact free b o' (neC b o e hx) e1 (I.base.free b o e n hx)
 ·obtain ⟨o',e1⟩:=I.base.there b o e hx
  exact there b o' (neC b o e hx) e1
 ·obtain ⟨m1,e1⟩:=I.base.tbls b ps e
  obtain ⟨m2,e2⟩:=tbls b _ e1
  exact ⟨m1++m2,by rw [e2,Array.append_assoc]⟩
 ·obtain ⟨m,hn,hl⟩:=I.loc
  refine ⟨m,ns m hn,fun i x v e1 e2 e3=>?_⟩
  obtain ⟨u,r,l⟩:=hl i x v e1 e2 e3
  refine ⟨u,r,?_⟩
  rcases l with l|⟨k,c,e,z⟩
  ·exact .inl l
  ·exact .inr ⟨k,c,e,cellK x c e _ z⟩
 ·obtain ⟨v,z⟩:=I.cell x c e
  exact ⟨v,cellK x c e v z⟩
 ·obtain ⟨m,⟨o,_,_,ho,_⟩,_⟩:=I.loc
  exact free _ o (fun z=>(hch _ z).2.1 rfl) ho I.free
 ·obtain ⟨v,o,ho,hd⟩:=I.cell x c e
  exact free c o (fun z=>(hch c z).2.2.1 x c e rfl) ho (I.freeC x c e)
 ·obtain ⟨e,n,ne,nf,d⟩:=I.pin p hp
  have nch:p.1 ∉ ch:=fun z=>(hch p.1 z).2.2.2 p hp rfl
  exact ⟨keep p.1 p.2 ne nf nch e n,free p.1 p.2 nch e n,ne,nf,d⟩
theorem Inv.un {t':Nat} (I:Inv X pins σ H s) (u:Un X.fs [] H H' s.heap h') (hok:HOk X.prog X.w H' h'):Inv X pins σ H' { s with heap:=h',toks:=t' }:=by
 obtain ⟨m,⟨o,es,ep,ho,r⟩,_⟩:=id I.loc
 obtain ⟨sl,hL⟩:=u.any ho I.free (by simp)
 exact I.step (g':=s.gens) (d':=s.drawn) (ch:=[]) (fun _ z=>nomatch z) (fun b o _ hb _ e n=>u.keep b o e n hb (by simp)) (fun b o _ hb _ e n=>u.slot b o e n hb (by simp)) (fun b o _ e n=>u.free b o e n (by simp)) (fun b o _ e=>u.there b o e (by simp)) u.tups u.frzs u.tbls (fun m' hm=>by
  obtain ⟨o',es',ep',ho',r'⟩:=hm
  rw [ho] at ho'; cases ho'
  exact ⟨_,es',ep',hL,r'⟩) hok I.bare
theorem Inv.call {g':Array GenState} {t':Nat} {d':Drawn} {ch:List Addr} (I:Inv X pins σ H s) (u:Un (frs X.stack) ch H H' s.heap h') (hok:HOk X.prog X.w H' h') (hg:AllBare g')
  (hch:∀ b∈ch,(b∈X.ex∨X.s₀.heap.objs.size ≤ b)∧b≠X.env.locals∧(∀ x c,X.env.cells.lookup x=some c→c≠b)∧∀ p∈X.pn++pins,p.1≠b) :
  Inv X pins σ H' { s with heap:=h',gens:=g',drawn:=d',toks:=t' }:=by
 obtain ⟨m,⟨o,es,ep,ho,r⟩,_⟩:=id I.loc
 obtain ⟨sl,hL⟩:=u.any ho I.free fun z=>(hch _ z).2.1 rfl
 exact I.step (ch:=ch) hch (fun b o hL hb hc e n=>u.keep b o e n (fun z=>(List.mem_cons.mp (I.stkSub b z)).elim hL hb) hc) (fun b o _ _ hc e n=>u.any e n hc) (fun b o hc e n=>u.free b o e n hc) (fun b o hc e=>u.there b o e hc) u.tups u.frzs u.tbls (fun m' hm=>by
  obtain ⟨o',es',ep',ho',r'⟩:=hm
  rw [ho] at ho'; cases ho'
  exact ⟨_,es',ep',hL,r'⟩) hok hg
theorem Inv.turned {t':Nat} {it:Addr} (I:Inv X pins σ H s) (k:∀ b o,b≠it→s.heap.get? b=some o→h'.get? b=some o) (hn:H it=none) (hL:it≠X.env.locals)
  (h1:it∈X.ex∨X.s₀.heap.objs.size ≤ it) (h2:∀ x c,X.env.cells.lookup x=some c→c≠it) (h3:∀ p∈X.pn++pins,p.1≠it):Inv X pins σ H { s with heap:=h',toks:=t' }:=by
 have nit:∀ b u,H b=some u→b≠it:=fun b u e z=>by rw [z,hn] at e; cases e
 refine I.step (g':=s.gens) (d':=s.drawn) (ch:=[it]) (fun b hb=>?_) (fun b o _ _ hc e _=>k b o (fun z=>hc (by simp [z])) e) (fun b o _ _ hc e _=>⟨o.slots,k b o (fun z=>hc (by simp [z])) e⟩) (fun _ _ _ _ n=>n)
  (fun b o hc e=>⟨o,k b o (fun z=>hc (by simp [z])) e⟩) (fun _ _ e=>e) (fun _ _ _ e=>e) (fun b ps e=>⟨#[],by rw [e]; simp⟩) (fun m hm=>?_) (fun b u e=>?_) I.bare
 ·have e:b=it:=by simpa using hb
  subst e
  exact ⟨h1,hL,h2,h3⟩
 ·obtain ⟨o,es,ep,ho,r⟩:=hm
  exact ⟨o,es,ep,k _ o (Ne.symm hL) ho,r⟩
 ·refine (I.hok b u e).stay (fun c v hc q=>k c v ?_ q) (fun _ q=>q) fun _ _ q=>q
  rcases hc with z|z
  ·rw [z]; exact nit b u e
  ·exact nit c _ z
theorem Inv.tok (I:Inv X pins σ H s) (t:Nat):Inv X pins σ H { s with toks:=t }:=I.un (h':=s.heap) (t':=t) Un.refl I.hok
theorem Inv.kept {t':Nat} (I:Inv X pins σ H s) (k:∀ b u,s.heap.get? b=some u→h'.get? b=some u):Inv X pins σ H { s with heap:=h',toks:=t' }:=I.un (Un.kept k) (I.hok.kept k)
theorem Inv.laid {a:Addr} {o:HO} {t':Nat} (I:Inv X pins σ H s) (k:∀ b u,s.heap.get? b=some u→h'.get? b=some u) (hp:s.heap.objs.size ≤ a) (new:ObjOk X.prog X.w (upd H a o) h' a o) :
  Inv X pins σ (upd H a o) { s with heap:=h',toks:=t' }:=I.un (Un.laid k hp (I.hok.fresh hp)) (I.hok.laid k hp new)
theorem Inv.write {x e:Addr} {o:HO} {t':Nat} (I:Inv X pins σ H s) (mu:Mut (H x)) (he:e=x∨H e=some (.own x)) (k:∀ b u,b≠e→s.heap.get? b=some u→h'.get? b=some u) (heo:∃ u,h'.get? e=some u)
  (new:ObjOk X.prog X.w (upd H x o) h' x o):Inv X pins σ (upd H x o) { s with heap:=h',toks:=t' }:=I.un (Un.write mu he k heo) (I.hok.write mu he k heo new)
theorem Inv.pins_of {pins':List (Addr×Obj)} (I:Inv X pins σ H s) (h:∀ p∈pins',s.heap.get? p.1=some p.2∧H p.1=none∧p.1≠X.env.locals∧p.1 ∉ X.fs∧∀ v,p.2.data≠.cell v):Inv X pins' σ H s :=
 ⟨I.ok,I.os,I.bare,I.base,I.loc,I.cell,I.free,I.freeC,fun p hp=>(List.mem_append.mp hp).elim (fun z=>I.pin p (List.mem_append_left _ z)) (h p),I.hok,I.len⟩
theorem nodup_ix {N:List Str} (hN:N.Nodup) {i j:Nat} {x:Str} (a:N[i]?=some x) (b:N[j]?=some x):i=j:=by
 obtain ⟨h1,e1⟩:=List.getElem?_eq_some_iff.mp a
 obtain ⟨h2,e2⟩:=List.getElem?_eq_some_iff.mp b
 exact (List.getElem_inj hN).mp (e1.trans e2.symm)
theorem store_ok2 {M:Model} {A:Around} {E:Value→Shared→Prop} {i:Nat} {x:Str} {v:V} {u:Value} {Q:Unit→Shared→Prop} (I:Inv X pins σ H s) (hN:X.N.Nodup) (hi:X.N[i]?=some x) (hx:Loc X.env.scope x) (r:RelV v u)
  (h:∀ s',Inv X pins (σ.set i (some v)) H s'→(∃ a,Heap.SameBut a s.heap s'.heap∧(a=X.env.locals∨X.env.cells.lookup x=some a))→Q () s') (hf:X.fn x=true∨X.env.scope.names.lookup x=some .local:=by trivial):wpAny M A (storeName X.env x u) Q E s:=by
 obtain ⟨m,hn,hl⟩:=id I.loc
 have hcls:(X.env.scope.kind == .class || (X.env.scope.kind == .module && X.env.locals != X.env.globals))=false:=by rw [I.ok.kind]; rfl
 have hiσ:i < σ.length:=by rw [I.len]; exact (List.getElem?_eq_some_iff.mp hi).1
 have cne:=I.cne
 have tracked:∀ {a:Addr} {h':Heap},(∃ o,s.heap.get? a=some o∧H a=none)→Heap.SameBut a s.heap h'→HOk X.prog X.w H h':=fun {a h'} ha hs b ob e=>by
  obtain ⟨_,_,hfree⟩:=ha
  refine (I.hok b ob e).stay (fun c w' hc q=>(hs.2 c ?_).trans q) (fun _ q=>q) fun _ _ q=>q
  rintro rfl
  rcases hc with rfl|hc
  ·rw [hfree] at e; cases e
  ·rw [hfree] at hc; cases hc
 rcases hx with hk|hk
 ·refine wpAny_storeName_local hk hn (fun h' hn' hs=>?_) hcls
  obtain ⟨oL,_,_,hoL,_⟩:=id hn
  refine h _ ⟨I.ok,I.os,I.bare,⟨fun b o e n hb hx=>?_,fun b o e n hb hx=>?_,I.base.free,fun b o e hx=>?_,I.base.tups,I.base.frzs,I.base.tbls⟩,⟨_,hn',fun j y v' e1 e2 e3=>?_⟩,fun y c e=>?_,I.free,I.freeC,fun p hp=>?_,tracked ⟨oL,hoL,I.free⟩ hs,by simpa using I.len⟩ ⟨_,hs,.inl rfl⟩
  ·exact (hs.2 b (Nat.ne_of_lt (Nat.lt_of_lt_of_le (Heap.lt_size e) I.ok.above))).trans (I.base.keep b o e n hb hx)
  ·obtain ⟨sl,e1⟩:=I.base.slot b o e n hb hx
   exact ⟨sl,(hs.2 b (Nat.ne_of_lt (Nat.lt_of_lt_of_le (Heap.lt_size e) I.ok.above))).trans e1⟩
  ·obtain ⟨o',e1⟩:=I.base.there b o e hx
   exact ⟨o',(hs.2 b (Nat.ne_of_lt (Nat.lt_of_lt_of_le (Heap.lt_size e) I.ok.above))).trans e1⟩
  ·by_cases hj:j=i
   ·subst hj
    rw [hi] at e1; cases e1
    rw [List.getElem?_set_self hiσ] at e2
    cases e2
    exact ⟨u,r,.inl ⟨hk,by simp⟩⟩
   ·rw [List.getElem?_set_ne (Ne.symm hj)] at e2
    obtain ⟨u',r',q⟩:=hl j y v' e1 e2 e3
    refine ⟨u',r',?_⟩
    rcases q with ⟨k,e⟩|⟨k,c,e,z⟩
    ·refine .inl ⟨k,?_⟩
     have:y≠x:=fun e=>hj (nodup_ix hN e1 (e ▸ hi))
     simp [this,e]
    ·exact .inr ⟨k,c,e,z.sameBut hs (cne y c e)⟩
  ·obtain ⟨w',z⟩:=I.cell y c e
   exact ⟨w',z.sameBut hs (cne y c e)⟩
  ·obtain ⟨e,n,ne,nf,d⟩:=I.pin p hp
   exact ⟨(hs.2 p.1 ne).trans e,n,ne,nf,d⟩
 ·have hfn:X.fn x=true:=by
   rcases hf with z|z
   ·exact z
   ·rw [z] at hk; cases hk
  obtain ⟨c,hc⟩:=I.ok.has x (.inl hk)
  obtain ⟨w',z⟩:=I.cell x c hc
  refine wpAny_storeName_cell I.ok.kind hk hc z (fun h' hc' hs=>?_)
  obtain ⟨oc,hoc,hocd⟩:=id z
  refine h { s with heap:=h' } ⟨I.ok,I.os,I.bare,⟨fun b o e n hb hx=>?_,fun b o e n hb hx=>?_,I.base.free,fun b o e hx=>?_,I.base.tups,I.base.frzs,I.base.tbls⟩,⟨m,hn.sameBut hs (Ne.symm (cne x c hc)),fun j y v' e1 e2 e3=>?_⟩,fun y c' e=>?_,I.free,I.freeC,fun p hp=>?_,tracked ⟨oc,hoc,I.freeC x c hc⟩ hs,by simpa using I.len⟩ ⟨c,hs,.inr hc⟩
  ·exact (hs.2 b (Nat.ne_of_lt (Nat.lt_of_lt_of_le (Heap.lt_size e) (I.ok.cab x c hfn hc)))).trans (I.base.keep b o e n hb hx)
  ·obtain ⟨sl,e1⟩:=I.base.slot b o e n hb hx
   exact ⟨sl,(hs.2 b (Nat.ne_of_lt (Nat.lt_of_lt_of_le (Heap.lt_size e) (I.ok.cab x c hfn hc)))).trans e1⟩
  ·obtain ⟨o',e1⟩:=I.base.there b o e hx
   exact ⟨o',(hs.2 b (Nat.ne_of_lt (Nat.lt_of_lt_of_le (Heap.lt_size e) (I.ok.cab x c hfn hc)))).trans e1⟩
  ·by_cases hj:j=i
   ·subst hj
    rw [hi] at e1; cases e1
    rw [List.getElem?_set_self hiσ] at e2
    cases e2
    exact ⟨u,r,.inr ⟨.inl hk,c,hc,hc'⟩⟩
   ·rw [List.getElem?_set_ne (Ne.symm hj)] at e2
    obtain ⟨u',r',q⟩:=hl j y v' e1 e2 e3
    refine ⟨u',r',?_⟩
    rcases q with q|⟨k,c',e,z'⟩
    ·exact .inl q
    ·refine .inr ⟨k,c',e,z'.sameBut hs ?_⟩
     rintro rfl
     exact hj (nodup_ix hN e1 (I.ok.inj _ _ _ e hc ▸ hi))
  ·by_cases hcc:c'=c
   ·subst hcc; exact ⟨_,hc'⟩
   ·obtain ⟨w2,z2⟩:=I.cell y c' e
    exact ⟨w2,z2.sameBut hs hcc⟩
  ·obtain ⟨e,n,ne,nf,d⟩:=I.pin p hp
   refine ⟨(hs.2 p.1 ?_).trans e,n,ne,nf,d⟩
   intro q
   rw [q,hoc] at e
   have q':oc=p.2:=Option.some.inj e
   exact d w' (by rw [← q']; exact hocd)
theorem store_ok {M:Model} {A:Around} {E:Value→Shared→Prop} {i:Nat} {x:Str} {v:V} {u:Value} {Q:Unit→Shared→Prop} (I:Inv X pins σ H s) (hN:X.N.Nodup) (hi:X.N[i]?=some x) (hx:Loc X.env.scope x) (r:RelV v u)
  (h:∀ s',Inv X pins (σ.set i (some v)) H s'→Q () s') (hf:X.fn x=true∨X.env.scope.names.lookup x=some .local:=by trivial):wpAny M A (storeName X.env x u) Q E s :=
 store_ok2 I hN hi hx r (fun s' I' _=>h s' I') hf
theorem Inv.call' {s':Shared} {ch:List Addr} (I:Inv X pins σ H s) (ho:s'.os=s.os) (u:Un (frs X.stack) ch H H' s.heap s'.heap) (hok:HOk X.prog X.w H' s'.heap) (hg:AllBare s'.gens)
  (hch:∀ b∈ch,(b∈X.ex∨X.s₀.heap.objs.size ≤ b)∧b≠X.env.locals∧(∀ x c,X.env.cells.lookup x=some c→c≠b)∧∀ p∈X.pn++pins,p.1≠b):Inv X pins σ H' s':=by
 obtain ⟨h',g',d',t',o'⟩:=s'
 have e:o'=s.os:=ho
 subst e
 exact I.call (g':=g') (t':=t') (d':=d') u hok hg hch
end
noncomputable abbrev XK:=Value→Option Addr→Hp→Prop
noncomputable abbrev St:=List (Option V)
noncomputable abbrev VK:=V→Hp→Prop
noncomputable abbrev TE:=St→Hp→VK→Prop
noncomputable abbrev TT:=St→Hp→(Bool→Hp→Prop)→Prop
noncomputable abbrev TA:=St→Hp→(List V→Hp→Prop)→Prop
structure Ends where
 nx:St→Hp→Prop
 rt:VK
 bk:St→Hp→Prop:=fun _ _=>False
 ct:St→Hp→Prop:=fun _ _=>False
noncomputable abbrev TS:=Ends→St→Hp→Prop
noncomputable def EP (X:Cx) (pins:List (Addr×Obj)) (σ:St) (Q:VK) (u:Value) (s':Shared):Prop:=∃ v H',Inv X pins σ H' s'∧RelV v u∧Q v H'
noncomputable def TP (X:Cx) (pins:List (Addr×Obj)) (σ:St) (Q:Bool→Hp→Prop) (b:Bool) (s':Shared):Prop:=∃ H',Inv X pins σ H' s'∧Q b H'
noncomputable def AP (X:Cx) (pins:List (Addr×Obj)) (σ:St) (Q:List V→Hp→Prop) (us:List Value) (s':Shared):Prop:=∃ vs H',Inv X pins σ H' s'∧Vals vs us∧Q vs H'
noncomputable def SP (X:Cx) (pins:List (Addr×Obj)) (D:Ends) (f:Flow) (s':Shared):Prop :=
 match f with
 | .next=>∃ σ' H',Inv X pins σ' H' s'∧D.nx σ' H'
 | .brk=>∃ σ' H',Inv X pins σ' H' s'∧D.bk σ' H'
 | .cont=>∃ σ' H',Inv X pins σ' H' s'∧D.ct σ' H'
 | .ret u=>∃ v σ' H',Inv X pins σ' H' s'∧RelV v u∧D.rt v H'
noncomputable def PE (X:Cx) (e:Expr) (t:TE):Prop :=
 ∀ (pins:List (Addr×Obj)) (s:Shared) (σ:St) (H:Hp) (Q:VK),Inv X pins σ H s→t σ H Q→wpAny (model X.prog X.w) X.A (eval e X.env) (EP X pins σ Q) X.xe s
noncomputable def PT (X:Cx) (e:Expr) (t:TT):Prop :=
 ∀ (pins:List (Addr×Obj)) (s:Shared) (σ:St) (H:Hp) (Q:Bool→Hp→Prop),Inv X pins σ H s→t σ H Q→wpAny (model X.prog X.w) X.A (isTrue e X.env (eval e X.env)) (TP X pins σ Q) X.xe s
noncomputable def PA (X:Cx) (es:List Expr) (t:TA):Prop :=
 ∀ (pos:Pos) (pins:List (Addr×Obj)) (s:Shared) (σ:St) (H:Hp) (Q:List V→Hp→Prop),Inv X pins σ H s→t σ H Q→wpAny (model X.prog X.w) X.A (spliced (backTo pos (starEach es X.env))) (AP X pins σ Q) X.xe s
noncomputable def PS (X:Cx) (st:Stmt) (t:TS):Prop :=
 ∀ (pins:List (Addr×Obj)) (s:Shared) (σ:St) (H:Hp) (D:Ends),Inv X pins σ H s→t D σ H→wpAny (model X.prog X.w) X.A (exec st X.env) (SP X pins D) X.xe s
noncomputable def PSs (X:Cx) (st:List Stmt) (t:TS):Prop :=
 ∀ (pins:List (Addr×Obj)) (s:Shared) (σ:St) (H:Hp) (D:Ends),Inv X pins σ H s→t D σ H→wpAny (model X.prog X.w) X.A (execs st X.env) (SP X pins D) X.xe s
theorem thn {α:Type} {t:Sem α} {Q Q':α→Shared→Prop} {M:Model} {A:Around} {E:Value→Shared→Prop} {s:Shared} (h:wpAny M A t Q E s) (hQ:∀ a s,Q a s→Q' a s):wpAny M A t Q' E s:=wpAny_mono h hQ fun _ _ x=>x
end L2
namespace L2
open PySem PySem.Spec PyProof.Rows
section
variable {X:Cx}
noncomputable def tVar (i:Nat):TE:=fun σ H Q=>∃ v,σ[i]?=some (some v)∧Q v H
noncomputable def tC (v:V):TE:=fun _ H Q=>Q v H
theorem pe_var {i:Nat} {x:Str} {pos:Pos} (hN:X.N[i]?=some x) (hv:Vis X.env.scope x) (hd:(x == ("__debug__":Str))=false:=by decide) (hcd:(x == ("__classdict__":Str))=false:=by decide):PE X (.Name x pos) (tVar i):=by
 intro pins s σ H Q I h
 obtain ⟨v,e,h⟩:=h
 obtain ⟨m,hn,hl⟩:=I.loc
 obtain ⟨u,r,l⟩:=hl i x v hN e hv
 have fin:EP X pins σ Q u s:=⟨v,H,I,r,h⟩
 rcases l with ⟨hk,hm⟩|⟨hk,c,hc,hcell⟩
 ·exact wpAny_Name (wpAny_loadName_local I.ok.kind hk hn hm fin) hd
 ·rcases hk with hk|hk
  ·exact wpAny_Name (wpAny_loadName_cell I.ok.kind hk hc hcell fin) hd
  ·exact wpAny_Name (wpAny_loadName_free I.ok.kind hk hc hcell fin hcd) hd
theorem pe_int {i j pos}:PE X (.Constant (.int i) j pos) (tC (.int i)):=fun _ _ _ H _ I h=>wpAny_Constant_int ⟨.int i,H,I.tok _,⟨_,rfl⟩,h⟩
theorem pe_bl {b j pos}:PE X (.Constant (.bool b) j pos) (tC (.bl b)):=fun _ _ _ H _ I h=>Constant_bool ⟨.bl b,H,I,rfl,h⟩
theorem pe_str {x j pos}:PE X (.Constant (.str x) j pos) (tC (.str x)):=fun _ _ _ H _ I h=>Calls.Constant_str ⟨.str x,H,I.tok _,⟨_,rfl⟩,h⟩
noncomputable def Gl (X:Cx) (x:Str):Prop:=X.env.kindOf x=some .globalImplicit
theorem ld_glob {E:Value→Shared→Prop} {pins:List (Addr×Obj)} {s:Shared} {σ:St} {H:Hp} {x:Str} {u:Value} {pos:Pos} {Q:Value→Shared→Prop} (I:Inv X pins σ H s) (hg:Gl X x) (hm:X.mg x=some u) (h:Q u s)
  (hd:(x == ("__debug__":Str))=false:=by decide):wpAny (model X.prog X.w) X.A (eval (.Name x pos) X.env) Q E s :=
 Calls.Name_function_global I.ok.kind hg (Calls.loadGlobal_global (by rw [I.ok.glob]; exact I.mod.glob.keeps I.bk) hm h) hd
theorem ld_blt {E:Value→Shared→Prop} {pins:List (Addr×Obj)} {s:Shared} {σ:St} {H:Hp} {x:Str} {u:Value} {pos:Pos} {Q:Value→Shared→Prop} (I:Inv X pins σ H s) (hg:Gl X x) (hm:X.mg x=none) (hv:bootBuiltins x=some u) (h:Q u s)
  (hn:x≠"__name__":=by decide) (hd:(x == ("__debug__":Str))=false:=by decide):wpAny (model X.prog X.w) X.A (eval (.Name x pos) X.env) Q E s:=by
 obtain ⟨mb,h1,h2⟩:=I.mod.blt
 exact Calls.Name_function_global I.ok.kind hg (Calls.loadGlobal_builtin (by rw [I.ok.glob]; exact I.mod.glob.keeps I.bk) hm (by rw [I.ok.blt]; exact h1.keeps I.bk) ((h2 x hn).trans hv) h) hd
variable {a b:Expr} {ta tb:TE} {pos:Pos}
theorem nobehind (b:Expr) {op:CmpOp} (h:op≠.In) (h2:op≠.NotIn):behindInMarks op b=false:=by
 have e1:(op == CmpOp.In)=false:=by cases op <;> first|rfl|exact absurd rfl h
 have e2:(op == CmpOp.NotIn)=false:=by cases op <;> first|rfl|exact absurd rfl h2
 cases b <;> simp [behindInMarks,e1,e2]
variable {tA tB':TT} {rest:List Expr}
noncomputable def tAnd (t u:TT):TT:=fun σ H Q=>t σ H fun c H1=>if c=true then u σ H1 Q else Q false H1
noncomputable def tOr (t u:TT):TT:=fun σ H Q=>t σ H fun c H1=>if c=true then Q true H1 else u σ H1 Q
noncomputable def tNot (t:TT):TT:=fun σ H Q=>t σ H fun c H1=>Q (!c) H1
end
end L2
namespace L2
open PySem PySem.Spec PyProof.Rows
noncomputable def SqL (K:PySem.W.Frag) (H:Hp) (a:Addr) (xs:List V):Prop :=
 Rd H a (.lst xs) ∨
  ∃ (o:Obj) (its:Array Value) (n:Nat),K.lookup a=some o∧o.cls=.type "list"∧o.dict=none∧o.data=.seq its n∧its.size ≤ sizeLine∧Vals xs its.toList
noncomputable def SqT (K:PySem.W.Frag) (H:Hp) (a:Addr) (xs:List V):Prop :=
 Rd H a (.tup xs) ∨
  ∃ (o:Obj) (its:Array Value) (n:Nat),K.lookup a=some o∧o.cls=.type "tuple"∧o.data=.seq its n∧its.size ≤ sizeLine∧Vals xs its.toList
noncomputable def absV:Value→Option V
 | .none=>some .non
 | .bool b=>some (.bl b)
 | .int i _=>some (.int i)
 | .str x _=>some (.str x)
 | .bytes b _=>some (.byt b)
 | .float b _=>some (.flt b)
 | .ref a=>some (.ref a)
 | .type n=>some (.ty n)
 | _=>none
theorem RelV.abs {x:V} {u:Value} (r:RelV x u):absV u=some x:=by
 cases x with
 | non=>cases r; rfl
 | bl _=>cases r; rfl
 | int _=>obtain ⟨t,rfl⟩:=r; rfl
 | str _=>obtain ⟨t,rfl⟩:=r; rfl
 | byt _=>obtain ⟨t,rfl⟩:=r; rfl
 | flt _=>obtain ⟨t,rfl⟩:=r; rfl
 | ref _=>cases r; rfl
 | ty _=>cases r; rfl
theorem RelV.inj {x y:V} {u:Value} (r:RelV x u) (q:RelV y u):x=y:=Option.some.inj (r.abs.symm.trans q.abs)
theorem Vals.inj:∀ {xs ys:List V} {us:List Value},Vals xs us→Vals ys us→xs=ys
 | _,_,_,.nil,.nil=>rfl
 | _,_,_,.cons r t,.cons r' t'=>by rw [r.inj r',Vals.inj t t']
section
variable {X:Cx} {pins:List (Addr×Obj)} {σ:St} {H:Hp} {s:Shared} {a:Addr} {xs ys:List V}
theorem SqL.of {K:PySem.W.Frag} (h:H a=some (.lst xs)):SqL K H a xs:=.inl (.inl h)
theorem SqT.of {K:PySem.W.Frag} (h:H a=some (.tup xs)):SqT K H a xs:=.inl (.inl h)
theorem Inv.list (I:Inv X pins σ H s) (h:SqL X.K H a xs):∃ its:List Value,Vals xs its∧PlainL s.heap a its.toArray∧xs.length ≤ sizeLine:=by
 rcases h with h|⟨o,its,n,hk,hc,hd,hs,hz,r⟩
 ·obtain ⟨z,its,n,r,e⟩:=h.ok I.hok
  exact ⟨its,r,⟨_,n,e,rfl,rfl,rfl⟩,z⟩
 ·refine ⟨its.toList,r,⟨o,n,I.kIn a o hk,hc,hd,by simpa using hs⟩,?_⟩
  have e:=r.length
  simp only [Array.length_toList] at e
  omega
theorem Inv.tuple (I:Inv X pins σ H s) (h:SqT X.K H a xs):∃ its:List Value,Vals xs its∧IsTup s.heap a its.toArray∧xs.length ≤ sizeLine:=by
 rcases h with h|⟨o,its,n,hk,hc,hs,hz,r⟩
 ·obtain ⟨z,its,r,p⟩:=h.ok I.hok
  exact ⟨its,r,p,z⟩
 ·refine ⟨its.toList,r,⟨o,I.kIn a o hk,hc,n,by simpa using hs⟩,?_⟩
  have e:=r.length
  simp only [Array.length_toList] at e
  omega
theorem Inv.list_inj (I:Inv X pins σ H s) (h:SqL X.K H a xs) (h':SqL X.K H a ys):xs=ys:=by
 obtain ⟨its,r,⟨o,n,e,_,_,d⟩,_⟩:=I.list h
 obtain ⟨its',r',⟨o',n',e',_,_,d'⟩,_⟩:=I.list h'
 rw [e] at e'; cases e'
 rw [d] at d'
 injection d' with d1 _
 have:its=its':=by simpa using congrArg Array.toList d1
 subst this
 exact r.inj r'
theorem Inv.tuple_inj (I:Inv X pins σ H s) (h:SqT X.K H a xs) (h':SqT X.K H a ys):xs=ys:=by
 obtain ⟨its,r,⟨o,e,_,n,d⟩,_⟩:=I.tuple h
 obtain ⟨its',r',⟨o',e',_,n',d'⟩,_⟩:=I.tuple h'
 rw [e] at e'; cases e'
 rw [d] at d'
 injection d' with d1 _
 have:its=its':=by simpa using congrArg Array.toList d1
 subst this
 exact r.inj r'
end
noncomputable abbrev Cx.wish (X:Cx) (E:Value→Shared→Prop):Cx:={ X with xe:=E }
noncomputable abbrev Cx.nox (X:Cx):Cx:=X.wish fun _ _=>False
theorem Cx.Ok.wish {X:Cx} (ok:X.Ok) (E:Value→Shared→Prop):(X.wish E).Ok :=
 ⟨ok.mod,ok.kind,ok.glob,ok.blt,ok.above,ok.inj,ok.has,ok.cab,ok.hd,ok.frames,ok.stk,ok.exf,ok.bs,ok.bsz,ok.noex,ok.exfs,ok.funs,ok.frf⟩
theorem Cx.Ok.unwish {X:Cx} {E:Value→Shared→Prop} (ok:(X.wish E).Ok):X.Ok :=
 ⟨ok.mod,ok.kind,ok.glob,ok.blt,ok.above,ok.inj,ok.has,ok.cab,ok.hd,ok.frames,ok.stk,ok.exf,ok.bs,ok.bsz,ok.noex,ok.exfs,ok.funs,ok.frf⟩
section
variable {X:Cx} {pins:List (Addr×Obj)} {σ:St} {H:Hp} {s:Shared} {E:Value→Shared→Prop}
theorem Inv.wish (I:Inv X pins σ H s) (E:Value→Shared→Prop):Inv (X.wish E) pins σ H s:=⟨I.ok.wish E,I.os,I.bare,I.base,I.loc,I.cell,I.free,I.freeC,I.pin,I.hok,I.len⟩
theorem Inv.unwish (I:Inv (X.wish E) pins σ H s):Inv X pins σ H s:=⟨I.ok.unwish,I.os,I.bare,I.base,I.loc,I.cell,I.free,I.freeC,I.pin,I.hok,I.len⟩
theorem SP.unwish {D:Ends} {f:Flow} {s':Shared} (h:SP (X.wish E) pins D f s'):SP X pins D f s':=by
 cases f with
 | next=>obtain ⟨σ',H',I,q⟩:=h; exact ⟨σ',H',I.unwish,q⟩
 | brk=>obtain ⟨σ',H',I,q⟩:=h; exact ⟨σ',H',I.unwish,q⟩
 | cont=>obtain ⟨σ',H',I,q⟩:=h; exact ⟨σ',H',I.unwish,q⟩
 | ret u=>obtain ⟨v,σ',H',I,r,q⟩:=h; exact ⟨v,σ',H',I.unwish,r,q⟩
theorem PSs.nox {st:List Stmt} {t:TS} (h:PSs X.nox st t):PSs X st t:=fun pins s σ H D I hw =>
 wpAny_mono (h pins s σ H D (I.wish _) hw) (fun _ _ q=>q.unwish) fun _ _ z=>False.elim z
end
section
variable {X:Cx} {st:Stmt} {rest:List Stmt} {t u:TS} {e:Expr} {te:TE} {pos:Pos}
theorem Inv.quiet {pins:List (Addr×Obj)} {σ:St} {H:Hp} {s:Shared} (I:Inv X pins σ H s):interactive X.env=false:=by simp [interactive,I.ok.kind]
noncomputable def tDrop (te:TE):TS:=fun D σ H=>te σ H fun _ H1=>D.nx σ H1
theorem ps_expr (he:PE X e te) (hs:swapsWith e none pos.line X.env=pure false:=by rfl):PS X (.Expr e pos) (tDrop te):=by
 intro pins s σ H D I h
 exact wpAny_Expr_any (thn (he pins s σ H _ I h) fun v s1 ⟨x,H1,I1,r1,q1⟩=>⟨σ,H1,I1,q1⟩) I.quiet hs
end
noncomputable abbrev TG:=V→St→Hp→(St→Hp→Prop)→Prop
noncomputable def PG (X:Cx) (target:Expr) (t:TG):Prop :=
 ∀ (pins:List (Addr×Obj)) (s:Shared) (σ:St) (H:Hp) (v:V) (u:Value) (Q:St→Hp→Prop),Inv X pins σ H s→RelV v u→t v σ H Q →
  wpAny (model X.prog X.w) X.A (assign target X.env u) (fun _ s'=>∃ σ' H',Inv X pins σ' H' s'∧Q σ' H') X.xe s
noncomputable abbrev TSet:=V→V→V→Hp→(Hp→Prop)→Prop
noncomputable def PSet (X:Cx) (t:TSet):Prop :=
 ∀ (pins:List (Addr×Obj)) (s:Shared) (σ:St) (H:Hp) (o i v:V) (ov iv u:Value) (Q:Hp→Prop),Inv X pins σ H s→RelV o ov→RelV i iv→RelV v u→t o i v H Q →
  wpAny (model X.prog X.w) X.A (setItem ov iv u) (fun _ s'=>∃ H',Inv X pins σ H' s'∧Q H') X.xe s
noncomputable abbrev TIp:=V→V→Hp→VK→Prop
noncomputable def PIp (X:Cx) (op:Operator) (t:TIp):Prop :=
 ∀ (pins:List (Addr×Obj)) (s:Shared) (σ:St) (H:Hp) (x y:V) (v u:Value) (Q:VK),Inv X pins σ H s→RelV x v→RelV y u→t x y H Q →
  wpAny (model X.prog X.w) X.A (inplaceOp op v u) (EP X pins σ Q) X.xe s
section
variable {X:Cx} {pos:Pos}
noncomputable def gName (i:Nat):TG:=fun v σ H Q=>Q (σ.set i (some v)) H
theorem pg_name {i:Nat} {x:Str} (hN:X.N.Nodup) (hi:X.N[i]?=some x) (hx:Loc X.env.scope x) (hf:X.fn x=true∨X.env.scope.names.lookup x=some .local:=by trivial):PG X (.Name x pos) (gName i):=by
 intro pins s σ H v u Q I r h
 exact wpAny_assign_Name (store_ok I hN hi hx r (fun s' I'=>⟨_,H,I',h⟩) hf)
noncomputable def gSub (to ti:TE) (t:TSet):TG:=fun v σ H Q=>to σ H fun o H1=>ti σ H1 fun i H2=>t o i v H2 fun H3=>Q σ H3
theorem pg_sub {o i:Expr} {to ti:TE} {t:TSet} (ho:PE X o to) (hi:PE X i ti) (hs:PSet X t)
  (ha:∀ v,assign (.Subscript o i pos) X.env v=(do
   let ov ← holding [v] (eval o X.env)
   let iv ← holding [v,ov] (eval i X.env)
   standAt pos
   holding [v,ov,iv] (setItem ov iv v)
   release [v,ov,iv] []):=by intro _; rfl):PG X (.Subscript o i pos) (gSub to ti t):=by
 intro pins s σ H v u Q I r h
 rw [ha]
 refine wpAny_bind (wpAny_holding (thn (ho pins s σ H _ I h) fun ov s1 ⟨x,H1,I1,r1,q1⟩=>?_))
 refine wpAny_bind (wpAny_holding (thn (hi pins s1 σ H1 _ I1 q1) fun iv s2 ⟨y,H2,I2,r2,q2⟩=>?_))
 refine wpAny_bind (wpAny_standAt (wpAny_bind (wpAny_holding (thn (hs pins s2 σ H2 x y v ov iv u _ I2 r1 r2 r q2) fun _ s3 ⟨H3,I3,q3⟩=>?_))))
 exact wpAny_release ⟨σ,H3,I3,q3⟩
noncomputable def tAsg (te:TE) (g:TG):TS:=fun D σ H=>te σ H fun x H1=>g x σ H1 D.nx
theorem ps_asg {tg e:Expr} {te:TE} {g:TG} (he:PE X e te) (hg:PG X tg g) (hs:swapsWithSole [tg] e pos.line X.env=pure false:=by rfl) (hw:swappedStores [tg] e X.env=pure none:=by rfl)
  (h1:(assignEach [tg] X.env).map (·.2)=[assign tg X.env]:=by rfl):PS X (.Assign [tg] e pos) (tAsg te g):=by
 intro pins s σ H D I h
 refine wpAny_Assign_stores (thn (he pins s σ H _ I h) fun v s1 ⟨x,H1,I1,r1,q1⟩=>?_) hs hw
 rw [h1]
 exact thn (hg pins s1 σ H1 x v _ I1 r1 q1) fun _ s2 q=>q
noncomputable def tAug (i:Nat) (te:TE) (ti:TIp):TS:=fun D σ H=>∃ x,σ[i]?=some (some x)∧te σ H fun y H1=>ti x y H1 fun z H2=>D.nx (σ.set i (some z)) H2
theorem ps_aug {i:Nat} {x:Str} {e:Expr} {te:TE} {op:Operator} {ti:TIp} {pos':Pos} (hN:X.N.Nodup) (hi:X.N[i]?=some x) (hx:Loc X.env.scope x) (he:PE X e te) (ho:PIp X op ti) (hf:X.fn x=true∨X.env.scope.names.lookup x=some .local:=by trivial) :
  PS X (.AugAssign (.Name x pos') op e pos) (tAug i te ti):=by
 intro pins s σ H D I h
 obtain ⟨v,e1,h⟩:=h
 obtain ⟨m,hn,hl⟩:=I.loc
 have vis:Vis X.env.scope x:=by rcases hx with k|k; exact .inl k; exact .inr (.inl k)
 obtain ⟨u,r,l⟩:=hl i x v hi e1 vis
 refine wpAny_AugAssign_Name ?_
 have go:wpAny (model X.prog X.w) X.A (eval e X.env) (fun w s₂=>wpAny (model X.prog X.w) X.A (inplaceOp op u w) (fun r s₃=>wpAny (model X.prog X.w) X.A (storeName X.env x r) (fun _=>SP X pins D .next) X.xe s₃) X.xe s₂) X.xe s:=by
  refine thn (he pins s σ H _ I h) fun w s1 ⟨y,H1,I1,r1,q1⟩=>?_
  refine thn (ho pins s1 σ H1 v y u w _ I1 r r1 q1) fun z s2 ⟨zv,H2,I2,r2,q2⟩=>?_
  exact store_ok I2 hN hi hx r2 (fun s3 I3=>⟨_,H2,I3,q2⟩) hf
 rcases l with ⟨hk,hm⟩|⟨hk,c,hc,hcell⟩
 ·exact wpAny_loadName_local I.ok.kind hk hn hm go
 ·rcases hk with hk|hk
  ·exact wpAny_loadName_cell I.ok.kind hk hc hcell go
  ·rcases hx with k|k
   ·have:X.env.scope.names.lookup x=some .free:=hk
    rw [k] at this; cases this
   ·have:X.env.scope.names.lookup x=some .free:=hk
    rw [k] at this; cases this
end
section
variable {X:Cx} {pos:Pos}
noncomputable def tWhile (c:TT) (tb:TS):TS:=fun D σ H=>∃ W:Nat→St→Hp→Prop,(∃ m,W m σ H)∧∀ m σ H,W m σ H →
 c σ H fun b H1=>if b=true then ∃ N:St→Hp→Prop,(∀ σ' H',N σ' H'→∃ m',m' < m∧W m' σ' H')∧tb { D with nx:=N,ct:=N,bk:=D.nx } σ H1 else D.nx σ H1
theorem ps_while {c:Expr} {body:List Stmt} {tc:TT} {tb:TS} (hp:PassesOwn (model X.prog X.w) X.A X.env X.xe) (hc:PT X c tc) (hb:PSs X body tb):PS X (.While c body [] pos) (tWhile tc tb):=by
 intro pins s σ H D I h
 obtain ⟨W,⟨m0,w0⟩,turn⟩:=h
 refine wpAny_While (codeAny_whileLoop (fun n s'=>∃ σ' H',Inv X pins σ' H' s'∧W n σ' H') ?_ m0 ⟨σ,H,I,w0⟩)
 rintro n s1 ⟨σ1,H1,I1,w1⟩
 refine wpAny_passesOwn hp (thn (hc pins s1 σ1 H1 _ I1 (turn n σ1 H1 w1)) fun b s2 ⟨H2,I2,q2⟩=>?_)
 cases b with
 | true =>
  obtain ⟨N,hN,q2⟩:=q2
  rw [if_pos rfl]
  refine wpAny_passesOwn hp (thn (hb pins s2 σ1 H2 _ I2 q2) fun f s3 q3=>?_)
  cases f with
  | next =>
   obtain ⟨σ3,H3,I3,n3⟩:=q3
   obtain ⟨m',hm,w3⟩:=hN σ3 H3 n3
   exact ⟨m',hm,σ3,H3,I3,w3⟩
  | cont =>
   obtain ⟨σ3,H3,I3,n3⟩:=q3
   obtain ⟨m',hm,w3⟩:=hN σ3 H3 n3
   exact ⟨m',hm,σ3,H3,I3,w3⟩
  | brk=>exact q3
  | ret v=>exact q3
 | false =>
  rw [if_neg Bool.false_ne_true]
  exact wpAny_execs_nil ⟨σ1,H2,I2,q2⟩
end
structure It where
 go:Nat→Hp→Prop
 yld:Nat→Hp→V→Hp→Prop
 stop:Nat→Hp→Prop
noncomputable def FpOk (X:Cx) (pins:List (Addr×Obj)) (H:Hp) (b:Addr):Prop :=
 H b=none∧b≠X.env.locals∧b ∉ X.fs∧(b∈X.ex∨X.s₀.heap.objs.size ≤ b)∧(∀ x c,X.env.cells.lookup x=some c→c≠b)∧∀ p∈X.pn++pins,p.1≠b
theorem Inv.fpOk {X:Cx} {pins:List (Addr×Obj)} {σ:St} {H H':Hp} {s:Shared} {b:Addr} (I:Inv X pins σ H s) (hb:s.heap.objs.size ≤ b) (hn:H' b=none):FpOk X pins H' b:=by
 refine ⟨hn,Nat.ne_of_gt (Nat.lt_of_lt_of_le I.lt hb),I.nofs hb,.inr (Nat.le_trans I.sz hb),fun x c e z=>?_,fun p hp z=>?_⟩
 ·obtain ⟨v,q⟩:=I.cell x c e
  exact absurd (Nat.lt_of_lt_of_le q.lt (by rw [z]; exact hb)) (Nat.lt_irrefl _)
 ·exact absurd (Nat.lt_of_lt_of_le (Heap.lt_size (I.pin p hp).1) (by rw [z]; exact hb)) (Nat.lt_irrefl _)
structure Turn (P:Program) (w:World) (K:PySem.W.Frag) (tg:Expr) (J:It) (fp:List Addr) (it:Addr) (tn:Nat→Heap→Prop):Prop where
 mem:it∈fp
 obj:∀ i h,tn i h→∀ b∈fp,∃ o,h.get? b=some o∧∀ v,o.data≠.cell v
 keep:∀ i h h',tn i h→(∀ b∈fp,∀ o,h.get? b=some o→h'.get? b=some o)→tn i h'
 item:∀ (X:Cx),X.prog=P→X.w=w→X.K=K→X.calm=true→∀ (i:Nat) (pins:List (Addr×Obj)) (s:Shared) (σ:St) (H:Hp) (E:Value→Shared→Prop),Inv X pins σ H s→(∀ b∈fp,FpOk X pins H b)→tn i s.heap→J.go i H →
  wpAny (model P w) X.A (pyNext (.ref it)) (fun r s1=>∃ u,r=some u ∧
   wpAny (model P w) X.A (letOwnedTupleGo tg (.ref it) u) (fun _ s2=>∃ x H',Inv X pins σ H' s2∧RelV x u∧J.yld i H x H'∧tn (i+1) s2.heap∧∀ b∈fp,H' b=none) E s1) E s
 done:∀ (X:Cx),X.prog=P→X.w=w→X.K=K→X.calm=true→∀ (i:Nat) (pins:List (Addr×Obj)) (s:Shared) (σ:St) (H:Hp) (E:Value→Shared→Prop),Inv X pins σ H s→(∀ b∈fp,FpOk X pins H b)→tn i s.heap→J.stop i H →
  wpAny (model P w) X.A (pyNext (.ref it)) (fun r s1=>r=none∧Inv X pins σ H s1) E s
 self:∀ (A:Around) (i:Nat) (s:Shared) (Q:Value→Shared→Prop) (E:Value→Shared→Prop),tn i s.heap→Q (.ref it) s→wpAny (model P w) A (pyIter (.ref it)) Q E s
noncomputable abbrev TI:=St→Hp→(It→Hp→Prop)→Prop
noncomputable def PIE (X:Cx) (pins:List (Addr×Obj)) (σ:St) (tg:Expr) (R:It→Hp→Prop) (itv:Value) (s2:Shared):Prop :=
 ∃ (it:Addr) (fp:List Addr) (tn:Nat→Heap→Prop) (J:It) (H':Hp),itv=.ref it∧Inv X pins σ H' s2∧Turn X.prog X.w X.K tg J fp it tn∧tn 0 s2.heap∧(∀ b∈fp,FpOk X pins H' b)∧R J H'
noncomputable def PI (X:Cx) (tg iter:Expr) (wi:TI):Prop :=
 ∀ (pins:List (Addr×Obj)) (s:Shared) (σ:St) (H:Hp) (R:It→Hp→Prop),Inv X pins σ H s→wi σ H R →
  wpAny (model X.prog X.w) X.A (eval iter X.env) (fun v s1=>wpAny (model X.prog X.w) X.A (pyIter v) (PIE X pins σ tg R) X.xe s1) X.xe s
theorem go_of {M:Model} {A:Around} {E:Value→Shared→Prop} {s:Shared} {tg:Expr} {it:Addr} {u:Value} {o:Obj} {n:String} {vs:Array Value} {Q:Unit→Shared→Prop} (ho:s.heap.get? it=some o) (hc:o.cls=.type n) (hd:o.data=.fields vs)
    (hn:["enumerate","zip","dict_itemiterator","dict_reverseitemiterator","odict_iterator","itertools.zip_longest","itertools.pairwise"].contains n=false) (hQ:Q () s):wpAny M A (letOwnedTupleGo tg (.ref it) u) Q E s:=by
  unfold letOwnedTupleGo
  cases tg <;> first
    | exact wpAny_pure hQ
    | (cases u <;> first
        | exact wpAny_pure hQ
        | (refine wpAny_bind (wpAny_load ho ?_)
           rw [hc,hd]
           show wpAny M A (if (["enumerate","zip","dict_itemiterator","dict_reverseitemiterator","odict_iterator","itertools.zip_longest","itertools.pairwise"].contains n && vs[0]? == some (rawInt _))=true then _ else _) Q E s
           rw [if_neg (by intro h; rw [hn,Bool.false_and] at h; cases h)]
           exact wpAny_pure hQ))
noncomputable def Itl (K:PySem.W.Frag) (a:Addr):It :=
 ⟨fun i H=>∃ xs x,SqL K H a xs∧xs[i]?=some x,fun i H x H'=>H'=H∧∀ xs,SqL K H a xs→xs[i]?=some x,fun i H=>∃ xs,SqL K H a xs∧xs.length ≤ i⟩
noncomputable def Itt (K:PySem.W.Frag) (a:Addr):It :=
 ⟨fun i H=>∃ xs x,SqT K H a xs∧xs[i]?=some x,fun i H x H'=>H'=H∧∀ xs,SqT K H a xs→xs[i]?=some x,fun i H=>∃ xs,SqT K H a xs∧xs.length ≤ i⟩
noncomputable def Itr (lo:Int) (n:Nat):It:=⟨fun i _=>i < n,fun i H x H'=>H'=H∧x=.int (lo+i),fun i _=>n ≤ i⟩
theorem turn_list {P:Program} {w:World} {K:PySem.W.Frag} {tg:Expr} (a it:Addr):Turn P w K tg (Itl K a) [it] it (fun i h=>h.IsListIter it a i) where
 mem:=by simp
 obj:=fun i h st b hb=>by
  have e:b=it:=by simpa using hb
  subst e
  obtain ⟨o,e,c,d⟩:=st
  exact ⟨o,e,fun v z=>by rw [d] at z; cases z⟩
 keep:=fun i h h' st k=>st.at fun o e=>k it (by simp) o e
 item:=by
  intro X hP hw hK hc i pins s σ H E I hf st hg
  subst hP hw hK
  obtain ⟨xs,x,hq,hx⟩:=hg
  obtain ⟨its,rv,p,hz⟩:=I.list hq
  obtain ⟨u,hu,ru⟩:=rv.get hx
  obtain ⟨f0,f1,f2,f3,f4,f5⟩:=hf it (by simp)
  refine wpAny_pyNext_list_item st p.isList (x:=u) (by simpa using hu) fun h' st' sb=>?_
  have I1:Inv X pins σ H { s with heap:=h' }:=I.turned (t':=s.toks) (fun b o hb e=>(sb.2 b hb).trans e) f0 f1 f3 f4 f5
  obtain ⟨o,e,c,d⟩:=id st'
  exact ⟨u,rfl,go_of (s:={ s with heap:=h' }) e c d (by decide) ⟨x,H,I1,ru,⟨rfl,fun ys hy=>by rw [I.list_inj hy hq]; exact hx⟩,st',fun b hb=>(hf b hb).1⟩⟩
 done:=by
  intro X hP hw hK hc i pins s σ H E I hf st hg
  subst hP hw hK
  obtain ⟨xs,hq,hx⟩:=hg
  obtain ⟨its,rv,p,hz⟩:=I.list hq
  obtain ⟨f0,f1,f2,f3,f4,f5⟩:=hf it (by simp)
  have hl:=rv.length
  exact wpAny_pyNext_list_end (I.ok.hd hc) st p.isList (by simp; omega) fun h' eb=>⟨rfl,I.turned (t':=s.toks) (fun b o hb e=>eb b o hb e) f0 f1 f3 f4 f5⟩
 self:=fun _ _ _ _ _ st h=>wpAny_pyIter_listiter st h
theorem turn_tuple {P:Program} {w:World} {K:PySem.W.Frag} {tg:Expr} (a it:Addr):Turn P w K tg (Itt K a) [it] it (fun i h=>h.IsTupleIter it a i) where
 mem:=by simp
 obj:=fun i h st b hb=>by
  have e:b=it:=by simpa using hb
  subst e
  obtain ⟨o,e,c,d⟩:=st
  exact ⟨o,e,fun v z=>by rw [d] at z; cases z⟩
 keep:=fun i h h' st k=>st.at fun o e=>k it (by simp) o e
 item:=by
  intro X hP hw hK hc i pins s σ H E I hf st hg
  subst hP hw hK
  obtain ⟨xs,x,hq,hx⟩:=hg
  obtain ⟨its,rv,p,hz⟩:=I.tuple hq
  obtain ⟨u,hu,ru⟩:=rv.get hx
  obtain ⟨f0,f1,f2,f3,f4,f5⟩:=hf it (by simp)
  refine wpAny_pyNext_tuple_item st (show s.heap.IsTuple a its.toArray from p) (x:=u) (by simpa using hu) fun h' st' sb=>?_
  have I1:Inv X pins σ H { s with heap:=h' }:=I.turned (t':=s.toks) (fun b o hb e=>(sb.2 b hb).trans e) f0 f1 f3 f4 f5
  obtain ⟨o,e,c,d⟩:=id st'
  exact ⟨u,rfl,go_of (s:={ s with heap:=h' }) e c d (by decide) ⟨x,H,I1,ru,⟨rfl,fun ys hy=>by rw [I.tuple_inj hy hq]; exact hx⟩,st',fun b hb=>(hf b hb).1⟩⟩
 done:=by
  intro X hP hw hK hc i pins s σ H E I hf st hg
  subst hP hw hK
  obtain ⟨xs,hq,hx⟩:=hg
  obtain ⟨its,rv,p,hz⟩:=I.tuple hq
  obtain ⟨f0,f1,f2,f3,f4,f5⟩:=hf it (by simp)
  have hl:=rv.length
  exact wpAny_pyNext_tuple_end (I.ok.hd hc) st (show s.heap.IsTuple a its.toArray from p) (by simp; omega) fun h' eb=>⟨rfl,I.turned (t':=s.toks) (fun b o hb e=>eb b o hb e) f0 f1 f3 f4 f5⟩
 self:=fun _ _ _ _ _ st h=>wpAny_pyIter_tupleiter st h
theorem turn_range {P:Program} {w:World} {K:PySem.W.Frag} {tg:Expr} (it:Addr) (lo:Int) (n:Nat):Turn P w K tg (Itr lo n) [it] it (fun i h=>IsRangeIter h it (lo+(i:Nat) * 1) ((n:Int) - (i:Nat)) 1) where
 mem:=by simp
 obj:=fun i h st b hb=>by
  have e:b=it:=by simpa using hb
  subst e
  exact ⟨_,st,fun v z=>by
   have z':Data.fields _=Data.cell v:=z
   cases z'⟩
 keep:=fun i h h' st k=>k it (by simp) _ st
 item:=by
  intro X hP hw hK hc i pins s σ H E I hf st hg
  subst hP hw hK
  obtain ⟨f0,f1,f2,f3,f4,f5⟩:=hf it (by simp)
  have W:=Walks.range (prog:=X.prog) (w:=X.w) (I.ok.hd hc) it lo 1 n
  refine W.item i s _ _ hg st fun v h' tk hv st' kk=>?_
  obtain ⟨t,rfl⟩:=hv
  have I1:Inv X pins σ H { s with heap:=h',toks:=tk }:=I.turned (fun b o hb e=>kk b o (by simpa using hb) e) f0 f1 f3 f4 f5
  refine ⟨_,rfl,go_of (s:={ s with heap:=h',toks:=tk }) (n:="range_iterator") st' rfl rfl (by decide) ⟨.int (lo+i),H,I1,⟨t,?_⟩,⟨rfl,rfl⟩,st',fun b hb=>(hf b hb).1⟩⟩
  rw [Int.mul_one]
 done:=by
  intro X hP hw hK hc i pins s σ H E I hf st hg
  subst hP hw hK
  obtain ⟨f0,f1,f2,f3,f4,f5⟩:=hf it (by simp)
  exact wpAny_pyNext_range_end (I.ok.hd hc) st (by have:n ≤ i:=hg; omega) fun h' eb=>⟨rfl,I.turned (t':=s.toks) (fun b o hb e=>eb b o hb e) f0 f1 f3 f4 f5⟩
 self:=fun _ _ _ _ _ st h=>wpAny_pyIter_rangeiter st h
end L2
namespace L2
open PySem PySem.Spec PyProof.Rows
section
variable {X:Cx} {tg:Expr}
noncomputable def iList (K:PySem.W.Frag) (tl:TE):TI:=fun σ H R=>tl σ H fun x H1=>∃ a,x=.ref a∧(∃ xs,SqL K H1 a xs)∧R (Itl K a) H1
noncomputable def iTup (K:PySem.W.Frag) (tl:TE):TI:=fun σ H R=>tl σ H fun x H1=>∃ a,x=.ref a∧(∃ xs,SqT K H1 a xs)∧R (Itt K a) H1
theorem pi_list {l:Expr} {tl:TE} (hl:PE X l tl):PI X tg l (iList X.K tl):=by
 intro pins s σ H R I h
 refine thn (hl pins s σ H _ I h) fun v s1 ⟨x,H1,I1,r1,q1⟩=>?_
 obtain ⟨a,e,⟨xs,hq⟩,q⟩:=q1
 subst e
 cases r1
 obtain ⟨its,rv,p,hz⟩:=I1.list hq
 refine wpAny_pyIter_list p.isList ?_
 refine ⟨s1.heap.objs.size,[s1.heap.objs.size],_,_,H1,rfl,I1.kept (t':=s1.toks) fun b o e=>Heap.get?_push_of_some _ e,turn_list a _,⟨_,Heap.get?_push_size _ rfl,rfl,rfl⟩,fun b hb=>?_,q⟩
 have e:b=s1.heap.objs.size:=by simpa using hb
 subst e
 exact I1.fpOk (Nat.le_refl _) (I1.hok.fresh (Nat.le_refl _))
theorem pi_tup {l:Expr} {tl:TE} (hl:PE X l tl):PI X tg l (iTup X.K tl):=by
 intro pins s σ H R I h
 refine thn (hl pins s σ H _ I h) fun v s1 ⟨x,H1,I1,r1,q1⟩=>?_
 obtain ⟨a,e,⟨xs,hq⟩,q⟩:=q1
 subst e
 cases r1
 obtain ⟨its,rv,p,hz⟩:=I1.tuple hq
 refine wpAny_pyIter_tuple (show s1.heap.IsTuple a its.toArray from p) ?_
 refine ⟨s1.heap.objs.size,[s1.heap.objs.size],_,_,H1,rfl,I1.kept (t':=s1.toks) fun b o e=>Heap.get?_push_of_some _ e,turn_tuple a _,⟨_,Heap.get?_push_size _ rfl,rfl,rfl⟩,fun b hb=>?_,q⟩
 have e:b=s1.heap.objs.size:=by simpa using hb
 subst e
 exact I1.fpOk (Nat.le_refl _) (I1.hok.fresh (Nat.le_refl _))
theorem range_it {pins:List (Addr×Obj)} {σ:St} {H:Hp} {s:Shared} {R:It→Hp→Prop} {E:Value→Shared→Prop} {lo hi:Int} {t u v:Tok} {tk:Nat} (I:Inv X pins σ H s) (h1:-(2 ^ 62) ≤ lo) (h2:lo < 2 ^ 62) (h3:-(2 ^ 62) ≤ hi) (h4:hi < 2 ^ 62)
  (q:R (Itr lo (hi - lo).toNat) H):wpAny (model X.prog X.w) X.A (pyIter (.ref s.heap.objs.size)) (PIE X pins σ tg R) E { s with heap:=s.heap.push { cls:=.type "range",data:=.fields #[.int lo t,.int hi u,.int 1 v] },toks:=tk }:=by
 refine wpAny_pyIter_range (IsRange.new ..) (small_one h1 h2 h3 h4) ?_
 have I1:Inv X pins σ H { s with heap:=s.heap.push { cls:=.type "range",data:=.fields #[.int lo t,.int hi u,.int 1 v] },toks:=tk }:=I.kept fun b o e=>Heap.get?_push_of_some _ e
 refine ⟨(s.heap.push { cls:=.type "range",data:=.fields #[.int lo t,.int hi u,.int 1 v] }).objs.size,[(s.heap.push { cls:=.type "range",data:=.fields #[.int lo t,.int hi u,.int 1 v] }).objs.size],_,_,H,rfl,
  I1.kept (t':=tk) fun b o e=>Heap.get?_push_of_some _ e,turn_range _ lo (hi - lo).toNat,?_,fun b hb=>?_,q⟩
 ·have e1:lo+((0:Nat):Int) * 1=lo:=by simp
  have e2:(((hi - lo).toNat:Nat):Int) - ((0:Nat):Int)=Builtin.Range.rangeSize lo hi 1:=by rw [rangeSize_one]; split <;> omega
  show IsRangeIter _ _ (lo+((0:Nat):Int) * 1) ((((hi - lo).toNat:Nat):Int) - ((0:Nat):Int)) 1
  rw [e1,e2]
  exact Heap.get?_push_size _ rfl
 ·have e:b=(s.heap.push { cls:=.type "range",data:=.fields #[.int lo t,.int hi u,.int 1 v] }).objs.size:=by simpa using hb
  subst e
  exact I1.fpOk (Nat.le_refl _) (I1.hok.fresh (Nat.le_refl _))
noncomputable def iRng1 (ta:TA):TI:=fun σ H R=>ta σ H fun vs H1=>∃ j:Int,vs=[.int j]∧-(2 ^ 62) ≤ j∧j < 2 ^ 62∧R (Itr 0 j.toNat) H1
theorem pi_range1 {a:Expr} {ta:TA} {p pos:Pos} (hg:Gl X "range") (hm:X.mg "range"=none) (ha:PA X [a] ta) (hs:starEach [a] X.env=[(false,eval a X.env)]:=by rfl):PI X tg (.Call (.Name "range" p) [a] [] pos) (iRng1 ta):=by
 intro pins s σ H R I h
 refine Call_ (ld_blt I hg hm boot_range (PyProof.Rows.callWith_type1 (thn (ha pos pins s σ H _ I h) fun us s1 ⟨vs,H1,I1,r1,q1⟩=>?_) hs rfl))
 obtain ⟨j,e,q1,q2,q⟩:=q1
 subst e
 cases r1 with
 | cons r rr =>
  cases rr
  obtain ⟨t,rfl⟩:=r
  exact call_range_1 (range_it I1 (by omega) (by omega) q1 q2 (by simpa using q))
noncomputable def tFor (wi:TI) (g:TG) (tb:TS):TS:=fun D σ H=>wi σ H fun J H1=>∃ W:Nat→Nat→St→Hp→Prop,(∃ m,W 0 m σ H1)∧∀ i m σ H,W i m σ H →
 (J.stop i H∧D.nx σ H)∨(J.go i H∧∃ N:St→Hp→Prop,(∀ σ' H',N σ' H'→∃ m',m' < m∧W (i+1) m' σ' H')∧∀ x H',J.yld i H x H'→g x σ H' fun σ2 H2=>tb { D with nx:=N,ct:=N,bk:=D.nx } σ2 H2)
noncomputable def pinsAt (fp:List Addr) (h:Heap):List (Addr×Obj):=fp.filterMap fun b=>(h.get? b).map fun o=>(b,o)
theorem mem_pinsAt {fp:List Addr} {h:Heap} {b:Addr} {o:Obj} (hb:b∈fp) (e:h.get? b=some o):(b,o)∈pinsAt fp h:=List.mem_filterMap.mpr ⟨b,hb,by rw [e]; rfl⟩
theorem of_pinsAt {fp:List Addr} {h:Heap} {p:Addr×Obj} (hp:p∈pinsAt fp h):p.1∈fp∧h.get? p.1=some p.2:=by
 obtain ⟨b,hb,e⟩:=List.mem_filterMap.mp hp
 cases q:h.get? b with
 | none=>rw [q] at e; cases e
 | some o =>
  rw [q] at e
  have e':(b,o)=p:=Option.some.inj e
  subst e'
  exact ⟨hb,q⟩
theorem Inv.pinned {pins:List (Addr×Obj)} {σ:St} {H:Hp} {s:Shared} {fp:List Addr} (I:Inv X pins σ H s) (hf:∀ b∈fp,FpOk X pins H b) (ho:∀ b∈fp,∃ o,s.heap.get? b=some o∧∀ v,o.data≠.cell v):Inv X (pins++pinsAt fp s.heap) σ H s :=
 I.pins_of fun p hp=>(List.mem_append.mp hp).elim (fun z=>I.pin p (List.mem_append_right _ z)) fun z=>by
  obtain ⟨hb,e⟩:=of_pinsAt z
  obtain ⟨f0,f1,f2,_⟩:=hf p.1 hb
  obtain ⟨o,e',d⟩:=ho p.1 hb
  rw [e] at e'; cases e'
  exact ⟨e,f0,f1,f2,d⟩
theorem Inv.unpinned {pins pl:List (Addr×Obj)} {σ:St} {H:Hp} {s:Shared} (I:Inv X (pins++pl) σ H s):Inv X pins σ H s:=I.pins_of fun p hp=>I.pin p (List.mem_append_right _ (List.mem_append_left _ hp))
theorem ps_for {iter:Expr} {body:List Stmt} {wi:TI} {g:TG} {tb:TS} {pos:Pos} (hp:PassesOwn (model X.prog X.w) X.A X.env X.xe) (hc:X.calm=true) (hi:PI X tg iter wi) (hg:PG X tg g) (hb:PSs X body tb)
  (hs:∀ x,foldedSetIterable iter X.env x=pure x:=by intro _; rfl):PS X (.For tg iter body [] pos) (tFor wi g tb):=by
 intro pins s σ H D I h
 refine wpAny_For (thn (hi pins s σ H _ I h) fun v s1 h1=>thn h1 fun itv s2 h2=>?_) hs
 obtain ⟨it,fp,tn,J,H2,e,I2,T,st2,f2,W,⟨m0,w0⟩,turn⟩:=h2
 subst e
 -- what stays true of the iterator's objects through the loop
 have stat:∀ {H':Hp},(∀ b∈fp,H' b=none)→∀ b∈fp,FpOk X pins H' b:=fun hn b hb=>⟨hn b hb,(f2 b hb).2⟩
 refine codeAny_forLoop_any (fun n s'=>∃ i σ' H',Inv X pins σ' H' s'∧tn i s'.heap∧(∀ b∈fp,H' b=none)∧W i n σ' H') ?_ m0 ⟨0,σ,H2,I2,st2,fun b hb=>(f2 b hb).1,w0⟩
 rintro n s3 ⟨i,σ3,H3,I3,st3,fr3,w3⟩
 rcases turn i n σ3 H3 w3 with ⟨stop,qn⟩|⟨go,N,hN,step⟩
 ·refine wpAny_passesOwn hp (thn (T.done X rfl rfl rfl hc i pins s3 σ3 H3 X.xe I3 (stat fr3) st3 stop) fun r s4 ⟨hr,I4⟩=>?_)
  subst hr
  exact wpAny_execs_nil ⟨σ3,H3,I4,qn⟩
 ·refine wpAny_passesOwn hp (thn (T.item X rfl rfl rfl hc i pins s3 σ3 H3 X.xe I3 (stat fr3) st3 go) fun r s4 ⟨u,hr,h4⟩=>?_)
  subst hr
  refine wpAny_passesOwn hp (thn h4 fun _ s5 ⟨x,H5,I5,r5,y5,st5,fr5⟩=>?_)
  have I5':=I5.pinned (stat fr5) (T.obj _ _ st5)
  refine wpAny_passesOwn hp (thn (hg _ s5 σ3 H5 x u _ I5' r5 (step x H5 y5)) fun _ s6 ⟨σ6,H6,I6,q6⟩=>?_)
  refine wpAny_passesOwn hp (thn (hb _ s6 σ6 H6 _ I6 q6) fun f s7 q7=>?_)
  have again:∀ {σ7:St} {H7:Hp},Inv X (pins++pinsAt fp s5.heap) σ7 H7 s7→N σ7 H7→∃ m,m < n∧∃ i σ' H',Inv X pins σ' H' s7∧tn i s7.heap∧(∀ b∈fp,H' b=none)∧W i m σ' H':=fun {σ7 H7} I7 n7=>by
   obtain ⟨m',hm,w7⟩:=hN σ7 H7 n7
   refine ⟨m',hm,i+1,σ7,H7,I7.unpinned,T.keep _ _ _ st5 fun b hb o e=>(I7.pin (b,o) (List.mem_append_right _ (List.mem_append_right _ (mem_pinsAt hb e)))).1,fun b hb=>?_,w7⟩
   obtain ⟨o,e,d⟩:=T.obj _ _ st5 b hb
   exact (I7.pin (b,o) (List.mem_append_right _ (List.mem_append_right _ (mem_pinsAt hb e)))).2.1
  cases f with
  | next=>obtain ⟨σ7,H7,I7,n7⟩:=q7; exact again I7 n7
  | cont=>obtain ⟨σ7,H7,I7,n7⟩:=q7; exact again I7 n7
  | brk=>obtain ⟨σ7,H7,I7,q7⟩:=q7; exact ⟨σ7,H7,I7.unpinned,q7⟩
  | ret v=>obtain ⟨x7,σ7,H7,I7,r7,q7⟩:=q7; exact ⟨x7,σ7,H7,I7.unpinned,r7,q7⟩
end
end L2
namespace L2
open PySem PySem.Spec PyProof.Rows
noncomputable abbrev R2:=V→V→Hp→VK→Prop
noncomputable def OpR (X:Cx) (f:Value→Value→Sem Value) (r:R2):Prop :=
 ∀ (pins:List (Addr×Obj)) (s:Shared) (σ:St) (H:Hp) (x y:V) (v u:Value) (Q:VK),Inv X pins σ H s→RelV x v→RelV y u→r x y H Q →
  wpAny (model X.prog X.w) X.A (f v u) (EP X pins σ Q) X.xe s
noncomputable def CallR (X:Cx) (f:Value) (r:List V→Hp→VK→Prop):Prop :=
 ∀ (pins:List (Addr×Obj)) (s:Shared) (σ:St) (H:Hp) (xs:List V) (us:List Value) (Q:VK),Inv X pins σ H s→Vals xs us→r xs H Q →
  wpAny (model X.prog X.w) X.A (call f us) (EP X pins σ Q) X.xe s
noncomputable def TruR (X:Cx) (r:V→Hp→(Bool→Hp→Prop)→Prop):Prop :=
 ∀ (pins:List (Addr×Obj)) (s:Shared) (σ:St) (H:Hp) (x:V) (v:Value) (Q:Bool→Hp→Prop),Inv X pins σ H s→RelV x v→r x H Q →
  wpAny (model X.prog X.w) X.A (truthy v) (TP X pins σ Q) X.xe s
noncomputable def rI (C:Int→Int→Prop) (g:Int→Int→V):R2:=fun x y H Q=>∃ i j,x=.int i∧y=.int j∧C i j∧Q (g i j) H
noncomputable def rI0 (g:Int→Int→V):R2:=fun x y H Q=>∃ i j,x=.int i∧y=.int j∧Q (g i j) H
section
variable {X:Cx} {a b c:Expr} {ta tb tc:TE} {pos:Pos}
theorem augR {op:Operator} {r:R2} (ho:OpR X (inplaceOp op) r) {pins:List (Addr×Obj)} {s:Shared} {σ:St} {H:Hp} {x y:V} {v u:Value} {Q:VK} (I:Inv X pins σ H s)
  (rx:RelV x v) (ry:RelV y u) (q:r x y H Q):wpAny (model X.prog X.w) X.A (inplaceOp op v u) (EP X pins σ Q) X.xe s:=ho pins s σ H x y v u Q I rx ry q
theorem opI {f:Value→Value→Sem Value} {C:Int→Int→Prop} {g:Int→Int→Int}
  (rule:∀ (i j:Int) (t u:Tok) (s:Shared) (Q:Value→Shared→Prop) (E:Value→Shared→Prop),C i j→Q (.int (g i j) s.toks) { s with toks:=s.toks+1 }→wpAny (model X.prog X.w) X.A (f (.int i t) (.int j u)) Q E s) :
  OpR X f (rI C fun i j=>.int (g i j)):=by
 intro pins s σ H x y v u Q I rx ry h
 obtain ⟨i,j,rfl,rfl,hc,q⟩:=h
 obtain ⟨t,rfl⟩:=rx
 obtain ⟨t',rfl⟩:=ry
 exact rule i j t t' s _ _ hc ⟨.int (g i j),H,I.tok _,⟨_,rfl⟩,q⟩
theorem opI0 {f:Value→Value→Sem Value} {g:Int→Int→Int}
  (rule:∀ (i j:Int) (t u:Tok) (s:Shared) (Q:Value→Shared→Prop) (E:Value→Shared→Prop),Q (.int (g i j) s.toks) { s with toks:=s.toks+1 }→wpAny (model X.prog X.w) X.A (f (.int i t) (.int j u)) Q E s) :
  OpR X f (rI0 fun i j=>.int (g i j)):=by
 intro pins s σ H x y v u Q I rx ry h
 obtain ⟨i,j,rfl,rfl,q⟩:=h
 obtain ⟨t,rfl⟩:=rx
 obtain ⟨t',rfl⟩:=ry
 exact rule i j t t' s _ _ ⟨.int (g i j),H,I.tok _,⟨_,rfl⟩,q⟩
theorem opB0 {f:Value→Value→Sem Value} {g:Int→Int→Bool}
  (rule:∀ (i j:Int) (t u:Tok) (s:Shared) (Q:Value→Shared→Prop) (E:Value→Shared→Prop),Q (.bool (g i j)) s→wpAny (model X.prog X.w) X.A (f (.int i t) (.int j u)) Q E s) :
  OpR X f (rI0 fun i j=>.bl (g i j)):=by
 intro pins s σ H x y v u Q I rx ry h
 obtain ⟨i,j,rfl,rfl,q⟩:=h
 obtain ⟨t,rfl⟩:=rx
 obtain ⟨t',rfl⟩:=ry
 exact rule i j t t' s _ _ ⟨.bl (g i j),H,I,rfl,q⟩
noncomputable def CDiv (i j:Int):Prop:=0 < j∧j < 1073741824
noncomputable def CMul (i j:Int):Prop:=(-(2 ^ 64) < i∧i < 2 ^ 64)∨(-(2 ^ 64) < j∧j < 2 ^ 64)
theorem CMul.ok {i j:Int} (h:CMul i j):IntMulOk i j:=by
 rcases h with ⟨h1,h2⟩|⟨h1,h2⟩
 ·exact .of_left (intBits_le_64 h1 h2)
 ·exact .of_right (intBits_le_64 h1 h2)
theorem op_add:OpR X (binaryOp .Add) (rI0 fun i j=>.int (i+j)):=opI0 fun _ _ _ _ _ _ _ q=>add_int q
theorem op_sub:OpR X (binaryOp .Sub) (rI0 fun i j=>.int (i - j)):=opI0 fun _ _ _ _ _ _ _ q=>sub_int q
theorem op_mul:OpR X (binaryOp .Mult) (rI CMul fun i j=>.int (i * j)):=opI fun _ _ _ _ _ _ _ hc q=>mul_int q hc.ok
theorem op_fdiv:OpR X (binaryOp .FloorDiv) (rI CDiv fun i j=>.int (i / j)):=opI fun i j _ _ _ _ _ hc q=>by
 have h1:(0:Int) < j:=hc.1
 have h2:j < 1073741824:=hc.2
 exact floordiv_int (by omega) (by rw [Int.fdiv_eq_ediv_of_nonneg i (by omega)]; exact q) (.inl (PyProof.noPylong_small (by omega)))
theorem op_mod:OpR X (binaryOp .Mod) (rI (fun _ j=>0 < j) fun i j=>.int (i % j)):=opI fun i j _ _ _ _ _ hc q=>by
 have h1:(0:Int) < j:=hc
 exact mod_int' (by omega) (by rw [Int.fmod_eq_emod_of_nonneg i (by omega)]; exact q)
theorem iop_add:OpR X (inplaceOp .Add) (rI0 fun i j=>.int (i+j)):=opI0 fun _ _ _ _ _ _ _ q=>iadd_int q
theorem iop_sub:OpR X (inplaceOp .Sub) (rI0 fun i j=>.int (i - j)):=opI0 fun _ _ _ _ _ _ _ q=>isub_int q
end
section
variable {X:Cx} {a b c:Expr} {ta tb tc:TE} {pos:Pos}
theorem op_lt:OpR X (compareOp .Lt) (rI0 fun i j=>.bl (decide (i < j))):=opB0 fun _ _ _ _ _ _ _ q=>lt_int q
theorem op_le:OpR X (compareOp .LtE) (rI0 fun i j=>.bl (decide (i ≤ j))):=opB0 fun _ _ _ _ _ _ _ q=>le_int q
theorem op_gt:OpR X (compareOp .Gt) (rI0 fun i j=>.bl (decide (j < i))):=opB0 fun _ _ _ _ _ _ _ q=>gt_int q
noncomputable def TruV (K:PySem.W.Frag) (x:V) (H:Hp) (k:Bool):Prop :=
 match x with
 | .non=>k=false
 | .bl b=>k=b
 | .int i=>k=(i != 0)
 | .str y=>y.length ≤ sizeLine∧k=((y.length:Int) != 0)
 | .byt y=>y.size ≤ sizeLine∧k=((y.size:Int) != 0)
 | .ref p=>(∃ xs,SqL K H p xs∧k=!xs.isEmpty)∨(∃ xs,SqT K H p xs∧k=!xs.isEmpty)∨∃ kvs,H p=some (.dK kvs)∧k=!kvs.isEmpty
 | _=>False
theorem isEmpty_kv {κ:Type} {kvs:List (κ×V)} {vs:List (κ×Value)} (r:KV kvs vs):(!vs.isEmpty)=!kvs.isEmpty:=by
 cases r <;> rfl
theorem isEmpty_of {xs:List V} {its:List Value} (r:Vals xs its):(!its.toArray.isEmpty)=!xs.isEmpty:=by
 cases r <;> simp
theorem line63:(sizeLine:Nat) < 2 ^ 63:=by rw [sizeLine_eq]; decide
theorem tru_ok:TruR X (fun x H Q=>∃ k,TruV X.K x H k∧Q k H):=by
 intro pins s σ H x v Q I rx h
 obtain ⟨k,e,q⟩:=h
 have hl:=line63
 have hs:sizeLine=16777216:=sizeLine_eq
 cases x with
 | non =>
  cases rx
  have e':k=false:=e
  subst e'
  exact truthy_none ⟨H,I,q⟩
 | bl b =>
  cases rx
  have e':k=b:=e
  subst e'
  exact wpAny_truthy_bool ⟨H,I,q⟩
 | int i =>
  obtain ⟨t,rfl⟩:=rx
  have e':k=(i != 0):=e
  subst e'
  exact PySem.P.truthy_int ⟨H,I,q⟩
 | str y =>
  obtain ⟨t,rfl⟩:=rx
  obtain ⟨hy,e'⟩:y.length ≤ sizeLine∧k=((y.length:Int) != 0):=e
  subst e'
  exact PySem.P.truthy_str (by omega) ⟨H,I.tok _,q⟩
 | byt y =>
  obtain ⟨t,rfl⟩:=rx
  obtain ⟨hy,e'⟩:y.size ≤ sizeLine∧k=((y.size:Int) != 0):=e
  subst e'
  exact PySem.W.truthy_bytes (by omega) ⟨H,I.tok _,q⟩
 | ref p =>
  cases rx
  have e':(∃ xs,SqL X.K H p xs∧k=!xs.isEmpty)∨(∃ xs,SqT X.K H p xs∧k=!xs.isEmpty)∨∃ kvs,H p=some (.dK kvs)∧k=!kvs.isEmpty:=e
  rcases e' with ⟨xs,hx,e'⟩|⟨xs,hx,e'⟩|⟨kvs,hx,e'⟩
  ·subst e'
   obtain ⟨its,r,pl,hz⟩:=I.list hx
   have hlen:=r.length
   exact wpAny_truthy_list pl.isList (by simp only [List.size_toArray]; omega) ⟨H,I.tok _,by rw [isEmpty_of r]; exact q⟩
  ·subst e'
   obtain ⟨its,r,pl,hz⟩:=I.tuple hx
   have hlen:=r.length
   exact truthy_tuple pl (by simp only [List.size_toArray]; omega) ⟨H,I.tok _,by rw [isEmpty_of r]; exact q⟩
  ·subst e'
   obtain ⟨hz,hS,vs,r,m⟩:kvs.length ≤ sizeLine∧(p == sysModules)=false∧∃ vs,KV kvs vs∧s.heap.DictOf (mixKind X.prog X.w) p vs:=I.hok p _ hx
   have hlen:kvs.length=vs.length:=Paired.length r
   exact wpAny_truthy_dict hS m (by omega) ⟨H,I.tok _,by rw [isEmpty_kv r]; exact q⟩
 | _=>exact (show False from e).elim
theorem vals1 {x:V} {us:List Value} (r:Vals [x] us):∃ u,us=[u]∧RelV x u:=by
 cases r with
 | cons r1 r2=>cases r2; exact ⟨_,rfl,r1⟩
theorem vals2 {x y:V} {us:List Value} (r:Vals [x,y] us):∃ u w',us=[u,w']∧RelV x u∧RelV y w':=by
 cases r with
 | cons r1 r2 =>
  cases r2 with
  | cons r3 r4=>cases r4; exact ⟨_,_,rfl,r1,r3⟩
theorem call_max2 (hc:X.calm=true):CallR X (.builtin "max") (fun xs H Q=>∃ i j,xs=[.int i,.int j]∧Q (.int (if j > i then j else i)) H):=by
 intro pins s σ H xs us Q I r h
 obtain ⟨i,j,rfl,q⟩:=h
 obtain ⟨u,w',rfl,⟨t,rfl⟩,⟨t',rfl⟩⟩:=vals2 r
 refine max_two_ints (I.ok.hd hc) fun h' tk k=>⟨_,H,I.kept k,?_,q⟩
 by_cases hj:j > i
 ·rw [if_pos hj,if_pos hj]; exact ⟨_,rfl⟩
 ·rw [if_neg hj,if_neg hj]; exact ⟨_,rfl⟩
theorem call_min2 (hc:X.calm=true):CallR X (.builtin "min") (fun xs H Q=>∃ i j,xs=[.int i,.int j]∧Q (.int (if j < i then j else i)) H):=by
 intro pins s σ H xs us Q I r h
 obtain ⟨i,j,rfl,q⟩:=h
 obtain ⟨u,w',rfl,⟨t,rfl⟩,⟨t',rfl⟩⟩:=vals2 r
 refine min_two_ints (I.ok.hd hc) fun h' tk k=>⟨_,H,I.kept k,?_,q⟩
 by_cases hj:j < i
 ·rw [if_pos hj,if_pos hj]; exact ⟨_,rfl⟩
 ·rw [if_neg hj,if_neg hj]; exact ⟨_,rfl⟩
end
end L2
namespace L2
open PySem PySem.Spec PyProof.Rows
structure ObjM (h:Heap) (x dx C:Addr) (mA:Str→Option Value):Prop where
 obj:h.get? x=some (PySem.W.instObj C dx)
 ns:h.Ns1 dx mA
 ne:dx≠x
theorem lookIn_ns {h:Heap} {dx:Addr} {mA:Str→Option Value} (n:h.Ns1 dx mA):∃ od,h.get? dx=some od∧∀ name,PySem.W.lookIn name od=some (mA name):=by
 obtain ⟨o,es,ep,ho,hd,hk,_,hm⟩:=n
 refine ⟨o,ho,fun name=>?_⟩
 have e:=hm name
 unfold nsFind findBy at e
 rw [← Array.find?_toList] at e
 unfold PySem.W.lookIn
 rw [hd]
 dsimp only
 split
 ·rename_i y q
  rw [q] at e
  exact congrArg some e
 ·rename_i q
  rw [q] at e
  have a:es.toList.any (·.refKey)=false:=by
   rw [List.any_eq_false]
   intro y hy
   obtain ⟨z,t,hkey⟩:=hk y (Array.mem_toList_iff.mp hy)
   simp [DictEntry.refKey,hkey]
  have a':¬ es.toList.any (·.refKey)=true:=by rw [a]; exact Bool.false_ne_true
  rw [if_neg a']
  exact congrArg some e
theorem ObjM.look {h:Heap} {x dx C:Addr} {mA:Str→Option Value} (I:ObjM h x dx C mA):∃ od,PySem.W.InstAt h x (PySem.W.instObj C dx) C (some od)∧∀ name,PySem.W.lookIn name od=some (mA name) :=
 let ⟨od,ho,hl⟩:=lookIn_ns I.ns
 ⟨od,⟨I.obj,rfl,rfl,ho⟩,hl⟩
section
variable {prog:Program} {w:World} {A:Around} {E:Value→Shared→Prop} {s:Shared} {K:PySem.W.Frag} {x dx C f:Addr} {mA:Str→Option Value} {name:Str} {v:Value}
end
section
variable {P:Program} {w:World} {H H':Hp} {h h':Heap} {a C dx:Addr} {fs fs':List (Str×V)}
end
section
variable {X:Cx} {pins:List (Addr×Obj)} {σ:St} {H:Hp} {s:Shared} {a C dx:Addr} {fs:List (Str×V)} {f:Str} {v:V} {A:Around} {E:Value→Shared→Prop}
end
section
variable {X:Cx} {o e value:Expr} {f:Str} {pos pos' tpos:Pos} {ta tv:TE}
end
section
variable {X:Cx} {pins:List (Addr×Obj)} {σ:St} {H:Hp} {s:Shared} {A:Around} {E:Value→Shared→Prop} {Q:Value→Shared→Prop} {c:Value} {b:Bool}
end
end L2
namespace L2
open PySem PySem.Spec PyProof.Rows
structure Room (k:Nat) (A:Around):Prop where
 hd:A.handled=none
 dp:A.depth+3 * k+5 < recursionLimit
 un:A.units+16 * k+200 < cLine
theorem Room.mono {j k:Nat} {A:Around} (r:Room k A) (h:j ≤ k):Room j A:=⟨r.hd,by have:=r.dp; omega,by have:=r.un; omega⟩
theorem Room.deeper {k:Nat} {A:Around} (r:Room (k+1) A) (env:Env):Room k (A.deeper env) :=
 ⟨r.hd,by have:=r.dp; show A.depth+1+3 * k+5 < _; omega,by have:=r.un; show A.units+3+16 * k+200 < _; omega⟩
theorem Room.depth {k:Nat} {A:Around} (r:Room k A):A.depth < recursionLimit:=by have:=r.dp; omega
noncomputable def tNil:TA:=fun _ H Q=>Q [] H
noncomputable def tCons (ta:TE) (tr:TA):TA:=fun σ H Q=>ta σ H fun x H1=>tr σ H1 fun xs H2=>Q (x::xs) H2
section
variable {X:Cx} {e:Expr} {es:List Expr} {te:TE} {t:TA} {pos:Pos}
theorem pa_nil:PA X [] tNil:=fun _ _ _ _ H Q I h=>Calls.spliced_nil ⟨[],H,I,.nil,h⟩
theorem pa_cons (ha:PE X e te) (hr:PA X es t) (hs:starEach (e::es) X.env=(false,eval e X.env)::starEach es X.env:=by rfl):PA X (e::es) (tCons te t):=by
 intro pos pins s σ H Q I h
 rw [hs]
 show wpAny _ _ (spliced ((false,eval e X.env)::backTo pos (starEach es X.env))) _ _ s
 refine Calls.spliced_cons (thn (ha pins s σ H _ I h) fun u s1 ⟨x,H1,I1,r1,q1⟩=>?_)
 exact thn (hr pos pins s1 σ H1 _ I1 q1) fun us s2 ⟨xs,H2,I2,r2,q2⟩=>⟨x::xs,H2,I2,.cons r1 r2,q2⟩
end
noncomputable abbrev Sp:=List V→Hp→VK→XK→Prop
noncomputable abbrev CXT:=List Env→Hp→Shared→XK→Value→Shared→Prop
structure Env0 (P:Program) (w:World) (K:PySem.W.Frag) (mg:Str→Option Value) (base:Heap) (A:Around) (outer:List Env) (s:Shared) (H:Hp):Prop where
 frames:A.frames=some outer
 mod:Mod K mg base
 bs:∀ b o,base.get? b=some o→s.heap.get? b=some o∧H b=none
 bsz:base.objs.size ≤ s.heap.objs.size
 funs:s.heap.FunFrames base outer
 frf:∀ b∈frs outer,H b=none
 hok:HOk P w H s.heap
 bare:AllBare s.gens
noncomputable def CE (outer:List Env) (P:Program) (w:World) (H:Hp) (s:Shared) (Q:VK) (u:Value) (s':Shared):Prop :=
 ∃ v H',s'.os=s.os∧AllBare s'.gens∧Un (frs outer) [] H H' s.heap s'.heap∧HOk P w H' s'.heap∧RelV v u∧Q v H'
noncomputable def CR (CX:CXT) (outer:List Env) (P:Program) (w:World) (H:Hp) (s:Shared) (Q:VK) (E:XK) (r:Result) (s':Shared):Prop :=
 match r with
 | .ok (.ret u)=>CE outer P w H s Q u s'
 | .ok _=>False
 | .error e=>CX outer H s E e s'
structure FnOk (P:Program) (w:World) (K:PySem.W.Frag) (mg:Str→Option Value) (base:Heap) (CX:CXT) (k:Nat) (f:Addr) (fd:FuncData) (ps:List Str) (sp:Sp):Prop where
 len:∀ vs H Q E,sp vs H Q E→vs.length=ps.length
 run:∀ (A:Around) (outer:List Env) (s:Shared) (H:Hp) (args:Args) (us:List Value) (vs:List V) (Q:VK) (E:XK),Room k A→Env0 P w K mg base A outer s H→BindsTo s fd args (ps.zip us)→Vals vs us→sp vs H Q E →
  codeAny (model P w) A (.call (.ref f) args) (CR CX outer P w H s Q E) s
theorem FnOk.imp {P:Program} {w:World} {K:PySem.W.Frag} {mg:Str→Option Value} {base:Heap} {CX:CXT} {k:Nat} {f:Addr} {fd:FuncData} {ps:List Str} {sp sp':Sp} (F:FnOk P w K mg base CX k f fd ps sp)
  (h:∀ vs H Q E,sp' vs H Q E→sp vs H Q E):FnOk P w K mg base CX k f fd ps sp' :=
 ⟨fun vs H Q E q=>F.len vs H Q E (h _ _ _ _ q),fun A outer s H args us vs Q E hr he hb hv hs=>F.run A outer s H args us vs Q E hr he hb hv (h _ _ _ _ hs)⟩
section
variable {X:Cx} {pins:List (Addr×Obj)} {σ:St} {H:Hp} {s s':Shared}
theorem Inv.env0 (I:Inv X pins σ H s):Env0 X.prog X.w X.K X.mg X.base X.A X.stack s H :=
 ⟨I.ok.frames,I.ok.mod,I.bs,Nat.le_trans I.ok.bsz I.sz,I.stack,I.stkFree,I.hok,I.bare⟩
theorem Inv.after {Q:VK} {u:Value} (I:Inv X pins σ H s) (h:CE X.stack X.prog X.w H s Q u s'):EP X pins σ Q u s':=by
 obtain ⟨v,H',os,bare,un,hok,r,q⟩:=h
 obtain ⟨hh,g,d,t,os'⟩:=s'
 obtain rfl:os'=s.os:=os
 exact ⟨v,H',I.call (h':=hh) (g':=g) (d':=d) (t':=t) (ch:=[]) un hok bare (fun b z=>absurd z (by simp)),r,q⟩
end
noncomputable def Binds (K:PySem.W.Frag) (fd:FuncData) (ps:List Str) (ds:List Value):Prop :=
 ∀ (s:Shared) (us:List Value),K.In s.heap→(us++ds).length=ps.length→BindsTo s fd ⟨us,[]⟩ (ps.zip (us++ds))
theorem Binds.all {K:PySem.W.Frag} {fd:FuncData} {ps:List Str} (h:∀ us:List Value,us.length=ps.length→bindArgs fd ⟨us,[]⟩=pure (ps.zip us)):Binds K fd ps []:=fun s us _ hl=>by
 rw [List.append_nil] at hl ⊢
 exact .of_eq (h us hl)
noncomputable def Passes (CX:CXT) (X:Cx) (E:XK):Prop:=∀ (pins:List (Addr×Obj)) (σ:St) (H:Hp) (s:Shared) (e:Value) (s':Shared),Inv X pins σ H s→CX X.stack H s E e s'→X.xe e s'
section
variable {X:Cx} {CX:CXT} {k:Nat} {f C:Addr} {fd:FuncData} {ps:List Str} {sp:Sp} {dvs:List V} {ds:List Value} {E:XK} {x m:Str} {p pos apos:Pos} {e o:Expr} {es:List Expr} {ta:TE} {t:TA}
theorem run_fn {pins:List (Addr×Obj)} {σ:St} {H:Hp} {s:Shared} {Q:VK} {us:List Value} {vs:List V} (F:FnOk X.prog X.w X.K X.mg X.base CX k f fd ps sp) (hr:Room k X.A) (hb:Binds X.K fd ps ds) (hd:Vals dvs ds) (hx:Passes CX X E)
  (I:Inv X pins σ H s) (r:Vals vs us) (h:sp (vs++dvs) H Q E):wpAny (model X.prog X.w) X.A (call (.ref f) us) (EP X pins σ Q) X.xe s:=by
 have r2:Vals (vs++dvs) (us++ds):=r.append hd
 have hl:(us++ds).length=ps.length:=by rw [← r2.length]; exact F.len _ _ _ _ h
 refine wpAny_call (codeAny_mono (F.run X.A X.stack s H ⟨us,[]⟩ (us++ds) (vs++dvs) Q E hr I.env0 (hb s us I.kIn hl) r2 h) fun r s' hq=>?_)
 cases r with
 | error e=>exact hx pins σ H s e s' I hq
 | ok fl =>
  cases fl with
  | ret u=>exact I.after hq
  | next=>exact False.elim hq
  | brk=>exact False.elim hq
  | cont=>exact False.elim hq
end
section
variable {X:Cx} {CX:CXT} {k:Nat} {f C:Addr} {fd:FuncData} {ps ks:List Str} {sp:Sp} {E:XK} {x m:Str} {p pos apos kpos:Pos} {e o:Expr} {es:List Expr} {kws:List Keyword} {te ta:TE} {t tk:TA} {nm:Option Str}
variable {g:List Value→List Value→List Value} {gV:List V→List V→List V}
end
structure FnScope (N P:List Str) (sc:Scope):Prop where
 kind:sc.kind=.function
 co:sc.isCoroutine=false
 gen:sc.isGenerator=false
 nd:N.Nodup
 pre:N.take P.length=P
 par:∀ x∈P,sc.names.lookup x=some .local∨sc.names.lookup x=some .cell
 nofree:∀ y∈sc.names,y.2≠.free
theorem bindL_out {kindOf:Str→Option NameKind} {x:Str}:∀ {binds:List (Str×Value)} {m:Str→Option Value},(∀ v,(x,v) ∉ binds)→bindL kindOf binds m x=m x
 | [],_,_=>rfl
 | (n,v)::r,m,h=>by
  unfold bindL
  rw [bindL_out fun w hw=>h w (List.mem_cons_of_mem _ hw)]
  split
  ·have:x≠n:=by rintro rfl; exact h v List.mem_cons_self
   simp [this]
  ·rfl
theorem bindC_out {kindOf:Str→Option NameKind} {x:Str}:∀ {binds:List (Str×Value)} {m:Str→Option Value},(∀ v,(x,v) ∉ binds)→bindC kindOf binds m x=m x
 | [],_,_=>rfl
 | (n,v)::r,m,h=>by
  unfold bindC
  rw [bindC_out fun w hw=>h w (List.mem_cons_of_mem _ hw)]
  split
  ·rfl
  ·have:x≠n:=by rintro rfl; exact h v List.mem_cons_self
   simp [this]
theorem bindL_get {kindOf:Str→Option NameKind} {x:Str} {v:Value}:∀ {P:List Str} {vs:List Value} {i:Nat} {m:Str→Option Value},P.Nodup→P[i]?=some x→vs[i]?=some v→kindOf x=some .local →
  bindL kindOf (P.zip vs) m x=some v
 | [],_,_,_,_,h,_,_=>by simp at h
 | _::_,[],_,_,_,_,h,_=>by simp at h
 | p::P,w::vs,0,m,nd,h1,h2,hk=>by
  simp at h1 h2; subst h1; subst h2
  show bindL kindOf ((p,w)::P.zip vs) m p=_
  unfold bindL
  rw [bindL_out fun v hv=>(List.nodup_cons.mp nd).1 (List.of_mem_zip hv).1,if_pos hk]
  simp
 | p::P,w::vs,i+1,m,nd,h1,h2,hk=>by
  show bindL kindOf ((p,w)::P.zip vs) m x=_
  unfold bindL
  exact bindL_get (i:=i) (List.nodup_cons.mp nd).2 (by simpa using h1) (by simpa using h2) hk
theorem bindC_get {kindOf:Str→Option NameKind} {x:Str} {v:Value}:∀ {P:List Str} {vs:List Value} {i:Nat} {m:Str→Option Value},P.Nodup→P[i]?=some x→vs[i]?=some v→kindOf x≠some .local →
  bindC kindOf (P.zip vs) m x=some v
 | [],_,_,_,_,h,_,_=>by simp at h
 | _::_,[],_,_,_,_,h,_=>by simp at h
 | p::P,w::vs,0,m,nd,h1,h2,hk=>by
  simp at h1 h2; subst h1; subst h2
  show bindC kindOf ((p,w)::P.zip vs) m p=_
  unfold bindC
  rw [bindC_out fun v hv=>(List.nodup_cons.mp nd).1 (List.of_mem_zip hv).1,if_neg hk]
  simp
 | p::P,w::vs,i+1,m,nd,h1,h2,hk=>by
  show bindC kindOf ((p,w)::P.zip vs) m x=_
  unfold bindC
  exact bindC_get (i:=i) (List.nodup_cons.mp nd).2 (by simpa using h1) (by simpa using h2) hk
noncomputable def start (N:List Str) (vs:List V):St:=vs.map some++List.replicate (N.length - vs.length) none
noncomputable def cxOf (CX:CXT) (P:Program) (w:World) (K:PySem.W.Frag) (mg:Str→Option Value) (base:Heap) (N:List Str) (qual:Str) (scope:Scope) (f:Addr) (cd:Value) (A:Around) (outer:List Env) (s:Shared) (H:Hp) (E:XK):Cx where
 prog:=P
 w:=w
 K:=K
 mg:=mg
 base:=base
 A:=A.deeper (envOfC qual scope s.heap.objs.size f cd)
 N:=N
 s₀:=s
 H₀:=H
 env:=envOfC qual scope s.heap.objs.size f cd
 outer:=outer
 stack:=envOfC qual scope s.heap.objs.size f cd::outer
 ex:=[]
 calm:=true
 fn:=fun _=>true
 pn:=[]
 xe:=fun e s'=>wpAny (model P w) (A.deeper (envOfC qual scope s.heap.objs.size f cd)) (leaving (envOfC qual scope s.heap.objs.size f cd) e) (fun _ s''=>CX outer H s E e s'') (fun e' s''=>CX outer H s E e' s'') s'
theorem cell_has {sc:Scope} {n:Nat} {x:Str} (h:sc.names.lookup x=some .cell):∃ c,(cellsFrom n sc.names []).lookup x=some c:=by
 have q:=PySem.W.cellsFrom_some sc.names n [] (.inl h)
 exact Option.isSome_iff_exists.mp q
theorem inv_start {CX:CXT} {P:Program} {w:World} {K:PySem.W.Frag} {mg:Str→Option Value} {base:Heap} {N ps:List Str} {qual:Str} {scope:Scope} {f:Addr} {cd:Value} {A:Around} {outer:List Env} {s s1:Shared} {H:Hp} {E:XK} {us:List Value} {vs:List V}
  (S:FnScope N ps scope) (hd:A.handled=none) (e0:Env0 P w K mg base A outer s H) (hl:vs.length=ps.length) (r:Vals vs us)
  (x:InCallC s s.heap.objs.size (bindL (envOfC qual scope s.heap.objs.size f cd).kindOf (ps.zip us) fun _=>none) (cellsFrom (s.heap.objs.size+1) scope.names []) (bindC (envOfC qual scope s.heap.objs.size f cd).kindOf (ps.zip us) fun _=>none) s1) :
  Inv (cxOf CX P w K mg base N qual scope f cd A outer s H E) [] (start N vs) H s1:=by
 have hpl:ps.length ≤ N.length:=by have:=congrArg List.length S.pre; rw [List.length_take] at this; omega
 obtain ⟨h1,tk,rfl,hk⟩:=x.done
 have noA:∀ b:Addr,b ∉ (cxOf CX P w K mg base N qual scope f cd A outer s H E).ex:=fun b z=>absurd (show b∈([]:List Addr) from z) (by simp)
 refine ⟨⟨e0.mod,S.kind,rfl,rfl,Nat.le_refl _,fun y z c h1 h2=>?_,fun y hy=>?_,fun y c _ h=>?_,fun _=>hd,Around.frames_deeper e0.frames,.inr ⟨rfl,rfl⟩,fun b z=>absurd z (noA b),e0.bs,e0.bsz,fun b _ _=>noA b,fun b z=>absurd z (noA b),e0.funs,e0.frf⟩,
  rfl,e0.bare,Un.kept hk,⟨_,x.toInCall.ns,fun i y v h1 h2 h3=>?_⟩,fun y c h=>⟨_,x.cell y c h⟩,e0.hok.fresh (Nat.le_refl _),fun y c h=>?_,fun p hp=>absurd (show p∈([]:List (Addr×Obj)) from hp) (by simp),e0.hok.kept hk,?_⟩
 ·exact name_of_addr x.apart (PySem.mem_of_lookup h1) (PySem.mem_of_lookup h2)
 ·have hy:scope.names.lookup y=some .cell∨scope.names.lookup y=some .free:=hy
  rcases hy with hy|hy
  ·exact cell_has hy
  ·exact absurd rfl (S.nofree _ (PySem.mem_of_lookup hy))
 ·exact Nat.le_of_lt (x.above y c (PySem.mem_of_lookup h))
 ·have hi:i < vs.length:=by
   unfold start at h2
   by_cases hi:i < vs.length
   ·exact hi
   ·rw [List.getElem?_append_right (by simpa using hi)] at h2
    rw [List.getElem?_replicate] at h2
    split at h2 <;> cases h2
  have ha:vs[i]?=some v:=by
   unfold start at h2
   rw [List.getElem?_append_left (by simpa using hi),List.getElem?_map] at h2
   cases e:vs[i]? with
   | none=>rw [e] at h2; cases h2
   | some a=>rw [e] at h2; cases h2; rfl
  obtain ⟨u,hu,rv⟩:=r.get ha
  have hp:ps[i]?=some y:=by
   rw [← S.pre,List.getElem?_take_of_lt (by omega)]; exact h1
  have ndP:ps.Nodup:=by rw [← S.pre]; exact S.nd.sublist (List.take_sublist _ _)
  refine ⟨u,rv,?_⟩
  rcases S.par y (List.mem_of_getElem? hp) with k|k
  ·exact .inl ⟨k,bindL_get ndP hp hu k⟩
  ·obtain ⟨c,e⟩:=cell_has (n:=s.heap.objs.size+1) k
   refine .inr ⟨.inl k,c,e,?_⟩
   have q:=x.cell y c e
   rw [bindC_get ndP hp hu (by show scope.names.lookup y≠_; rw [k]; decide)] at q
   exact q
 ·exact e0.hok.fresh (Nat.le_of_lt (x.above y c (PySem.mem_of_lookup h)))
 ·unfold start
  show _=N.length
  rw [List.length_append,List.length_map,List.length_replicate]
  omega
theorem fn_of {CX:CXT} {P:Program} {w:World} {K:PySem.W.Frag} {mg:Str→Option Value} {base:Heap} {k:Nat} {f:Addr} {name qual:Str} {params:Arguments} {body:List Stmt} {scope:Scope} {dV kV doc pm cdv ct oc:Value} {an od:Option Addr}
  {osl:Array (Option Value)} {N ps:List Str} {sp:Sp} (lk:K.lookup f=some ⟨oc,od,.func (PySem.W.fnOf name qual params body scope dV kV doc pm an cdv ct),osl⟩) (hcd:PySem.W.codeIn K cdv qual=true) (S:FnScope N ps scope)
  (len:∀ vs H Q E,sp vs H Q E→vs.length=ps.length)
  (hbody:∀ (A:Around) (outer:List Env) (s:Shared) (H:Hp) (vs:List V) (Q:VK) (E:XK),Room k (A.deeper (envOfC qual scope s.heap.objs.size f cdv))→sp vs H Q E →
   ∃ t,PSs (cxOf CX P w K mg base N qual scope f cdv A outer s H E) body t∧t { nx:=fun _ H'=>Q .non H',rt:=Q } (start N vs) H) :
  FnOk P w K mg base CX (k+1) f (PySem.W.fnOf name qual params body scope dV kV doc pm an cdv ct) ps sp:=by
 refine ⟨len,fun A outer s H args us vs Q E hr e0 hb r hsp=>?_⟩
 have hl:=len _ _ _ _ hsp
 have KX:K.In s.heap:=e0.mod.kin.keeps fun b o e=>(e0.bs b o e).1
 have lim:s.heap.NoLimit:=e0.mod.nolimit.keeps fun b o e=>(e0.bs b o e).1
 have hkind:∀ y∈ps.zip us,scope.names.lookup y.1=some .local∨(scope.names.lookup y.1=some .cell∧((cellsFrom (s.heap.objs.size+1) scope.names []).lookup y.1).isSome=true):=fun ⟨n,v⟩ hy=>by
  rcases S.par n (List.of_mem_zip hy).1 with q|q
  ·exact .inl q
  ·exact .inr ⟨q,PySem.W.cellsFrom_some _ _ _ (.inl q)⟩
 refine codeAny_call_function hr.depth (KX _ _ lk) rfl S.co S.gen rfl (PySem.W.codeRec_of KX hcd) (hb _ _ _ _ ?_)
 refine wpAny_newFunctionEnv_cells S.kind hkind fun env he s1 x=>?_
 subst he
 refine ⟨lim.keeps x.toInCall.keep,codeAny_func ?_⟩
 obtain ⟨t,ht,hq⟩:=hbody A outer s H vs Q E (hr.deeper _) hsp
 have I:Inv (cxOf CX P w K mg base N qual scope f cdv A outer s H E) [] (start N vs) H s1:=inv_start S hr.hd e0 hl r x
 refine wpAny_mono (ht [] s1 (start N vs) H _ I hq) (fun fl s' hs=>?_) fun e s' hs=>hs
 have fin:∀ {σ':St} {H':Hp} {v:V} {u:Value},Inv (cxOf CX P w K mg base N qual scope f cdv A outer s H E) [] σ' H' s'→RelV v u→Q v H'→CE outer P w H s Q u s' :=
  fun {σ' H' v u} J rv q=>⟨v,H',J.os,J.bare,J.base,J.hok,rv,q⟩
 cases fl with
 | ret u =>
  obtain ⟨v,σ',H',J,rv,q⟩:=hs
  exact fin J rv q
 | next =>
  obtain ⟨σ',H',J,q⟩:=hs
  exact fin (v:=V.non) (u:=Value.none) J rfl q
 | brk =>
  obtain ⟨_,_,_,q⟩:=hs
  exact False.elim q
 | cont =>
  obtain ⟨_,_,_,q⟩:=hs
  exact False.elim q
end L2
namespace L2
open PySem PySem.Spec PyProof.Rows
section
variable {X:Cx} {x:Str} {p pos:Pos} {e:Expr} {es:List Expr} {t:TA} {id T:String} {r:List V→Hp→VK→Prop}
end
end L2
namespace HT
open PySem PyProof.Rows
noncomputable def lexLt:List Int→List Int→Bool
 | [],[]=>false
 | [],_::_=>true
 | _::_,[]=>false
 | x::xs,y::ys=>if x=y then lexLt xs ys else decide (x < y)
theorem lexLt_cons (x y:Int) (xs ys:List Int):lexLt (x::xs) (y::ys)=if x=y then lexLt xs ys else decide (x < y):=rfl
theorem lexLt_nil_nil:lexLt [] []=false:=rfl
theorem lexLt_nil_cons (y:Int) (ys:List Int):lexLt [] (y::ys)=true:=rfl
theorem lexLt_cons_nil (x:Int) (xs:List Int):lexLt (x::xs) []=false:=rfl
section
open PySem.SeqAt
open PySem.AutoSeq1 (wpAny_loadPart')
open PySem.MeetsSeq PySem.MeetsSeq2 PySem.MeetsSeq3
end
section
variable {prog:Program} {w:World} {A:Around} {E:Value→Shared→Prop} {s:Shared}
theorem cat_tup {t b:Addr} {vs ws:List Value} {Q:Value→Shared→Prop} (ht:IsTup s.heap t vs.toArray) (hb:IsTup s.heap b ws.toArray) (hv:vs≠[])
  (h1:ws=[]→Q (.ref t) s) (h2:ws≠[]→Q (.ref s.heap.objs.size) { s with heap:=s.heap.push { cls:=.type "tuple",data:=.seq (vs++ws).toArray } })
  (hsz:vs.length+ws.length ≤ sizeLine):wpAny (model prog w) A (binaryOp .Add (.ref t) (.ref b)) Q E s:=by
 obtain ⟨⟨cls,dd,data,sl⟩,ho,hc,n,hd⟩:=id ht
 obtain ⟨⟨cls2,dd2,data2,sl2⟩,ho2,hc2,n2,hd2⟩:=id hb
 simp only at hc hd hc2 hd2
 subst hc hd hc2 hd2
 have e:vs.toArray++ws.toArray=(vs++ws).toArray:=by simp
 by_cases hw:ws=[]
 ·exact concat_meets ⟨_,ho,rfl⟩ ⟨_,ho2,rfl⟩ noFill_tuple_add seq_tuple_add PySem.F.slot_tuple_add PySem.F.entry_tuple_add (PySem.F.args_tuple_add_2 _ _)
   (tuple_addW1 t b vs.toArray ws.toArray n n2 dd dd2 sl sl2 (by simpa using hv) (by simp [hw])) ⟨ho,ho2,h1 hw⟩
 ·refine concat_meets ⟨_,ho,rfl⟩ ⟨_,ho2,rfl⟩ noFill_tuple_add seq_tuple_add PySem.F.slot_tuple_add PySem.F.entry_tuple_add (PySem.F.args_tuple_add_2 _ _)
   (tuple_addW2 t b vs.toArray ws.toArray n n2 dd dd2 sl sl2 (by simpa using hv) (by simpa using hw) (by rw [List.size_toArray,List.size_toArray]; exact hsz)) ⟨ho,ho2,?_⟩
  rw [e]
  exact h2 hw
noncomputable def sIx (n d:Nat):Option Int→Nat
 | none=>d
 | some v=>if v < 0 then (v+(n:Int)).toNat else min v.toNat n
theorem sIx_none (n d:Nat):sIx n d none=d:=rfl
theorem sIx_nat (n d k:Nat):sIx n d (some (k:Int))=min k n:=by
 show (if (k:Int) < 0 then ((k:Int)+(n:Int)).toNat else min (k:Int).toNat n)=min k n
 rw [if_neg (by omega),Int.toNat_natCast]
theorem sIx_le (n d:Nat) (hd:d ≤ n) (o:Option Int):sIx n d o ≤ n:=by
 cases o with
 | none=>exact hd
 | some v =>
  show (if v < 0 then (v+(n:Int)).toNat else min v.toNat n) ≤ n
  by_cases hv:v < 0
  ·rw [if_pos hv]; omega
  ·rw [if_neg hv]; exact Nat.min_le_right _ _
theorem clip_eq (v:Int) (n d:Nat):(if v < 0 then max (v+(n:Int)) 0 else min v (n:Int))=((sIx n d (some v):Nat):Int):=by
 show (if v < 0 then max (v+(n:Int)) 0 else min v (n:Int))=(((if v < 0 then (v+(n:Int)).toNat else min v.toNat n):Nat):Int)
 by_cases hv:v < 0
 ·simp only [if_pos hv]; omega
 ·simp only [if_neg hv]; omega
theorem adjust_gen (lo hi:Option Int) (n:Nat):Builtin.Slice.sliceAdjust lo hi 1 (n:Int)=(((sIx n 0 lo:Nat):Int),((sIx n n hi:Nat):Int)):=by
 have h1:¬ ((1:Int) < 0):=by omega
 unfold Builtin.Slice.sliceAdjust
 simp only [h1,if_false]
 refine Prod.ext ?_ ?_
 ·cases lo with
  | none=>rfl
  | some v=>exact clip_eq v n 0
 ·cases hi with
  | none=>rfl
  | some v=>exact clip_eq v n n
theorem places_gen (i j:Nat):Builtin.Slice.slicePlaces (i:Int) (j:Int) 1=j - i:=by
 unfold Builtin.Slice.slicePlaces
 have h1:(1:Int) > 0:=by omega
 simp only [h1,if_true,Int.ediv_one]
 split <;> omega
theorem slicePart_ {v:Value} {o:Option Int} {Q:Option Int→Shared→Prop} (p:IsPart v o) (h:Q o s):wpAny (model prog w) A (Builtin.Slice.slicePartIndex v) Q E s:=by
 cases p with
 | none=>exact slicePart_none h
 | int i t=>exact slicePart_int h
theorem sliceApplied_gen {sl:Addr} {vl vu:Value} {lo hi:Option Int} {n:Nat} {Q:Int×Int×Nat→Shared→Prop} (hs:s.heap.IsSliceOf sl vl vu .none) (pl:IsPart vl lo) (pu:IsPart vu hi)
  (h:Q (((sIx n 0 lo:Nat):Int),1,sIx n n hi - sIx n 0 lo) s):wpAny (model prog w) A (Builtin.Slice.sliceApplied (.ref sl) (pure (n:Int))) Q E s:=by
 obtain ⟨os,hos,hcs,hds⟩:=id hs
 unfold Builtin.Slice.sliceApplied Builtin.Slice.sliceFields
 refine wpAny_bind (wpAny_bind (wpAny_field hos hds (x:=vl) rfl (wpAny_bind (wpAny_field hos hds (x:=vu) rfl (wpAny_bind (wpAny_field hos hds (x:=.none) rfl (wpAny_pure ?_)))))))
 refine wpAny_bind (slicePart_none ?_)
 show wpAny _ _ (if ((1:Int) == 0)=true then _ else _) _ _ s
 rw [if_neg (by decide)]
 refine wpAny_bind (slicePart_ pl (wpAny_bind (slicePart_ pu (wpAny_bind (wpAny_pure ?_)))))
 show wpAny _ _ (match Builtin.Slice.sliceAdjust lo hi 1 (n:Int) with|(lo,hi)=>pure (lo,(1:Int),Builtin.Slice.slicePlaces lo hi 1)) _ _ s
 rw [adjust_gen lo hi n]
 show wpAny _ _ (pure (((sIx n 0 lo:Nat):Int),(1:Int),Builtin.Slice.slicePlaces ((sIx n 0 lo:Nat):Int) ((sIx n n hi:Nat):Int) 1)) _ _ s
 rw [places_gen]
 exact wpAny_pure h
theorem pick_gen (xs:Array Value) (i k:Nat):((List.range k).filterMap fun (m:Nat)=>xs[((i:Int)+(m:Int) * 1).toNat]?).toArray=((xs.toList.drop i).take k).toArray:=by
 have e:(fun (m:Nat)=>xs[((i:Int)+(m:Int) * 1).toNat]?)=fun m=>xs[i+m]?:=by
  funext m
  have:((i:Int)+(m:Int) * 1).toNat=i+m:=by omega
  rw [this]
 rw [e]
 have:=pick_run xs i k
 rw [List.filterMap_map] at this
 have e2:((fun x=>xs[x]?) ∘ fun x=>i+x)=fun m=>xs[i+m]?:=rfl
 rw [e2] at this
 rw [this]
theorem getItem_tuple_cut {t sl:Addr} {items:Array Value} {vl vu:Value} {lo hi:Option Int} {Q:Value→Shared→Prop} (ht:IsTup s.heap t items) (hs:s.heap.IsSliceOf sl vl vu .none) (pl:IsPart vl lo) (pu:IsPart vu hi)
  (hw:¬ (sIx items.size 0 lo=0∧sIx items.size items.size hi=items.size))
  (h:Q (.ref s.heap.objs.size) { s with heap:=s.heap.push { cls:=.type "tuple",data:=.seq ((items.toList.drop (sIx items.size 0 lo)).take (sIx items.size items.size hi - sIx items.size 0 lo)).toArray } })
  (hsz:items.size ≤ sizeLine):wpAny (model prog w) A (getItem (.ref t) (.ref sl)) Q E s:=by
 have htake:sizeOk (.seq ((items.toList.drop (sIx items.size 0 lo)).take (sIx items.size items.size hi - sIx items.size 0 lo)).toArray):=by
  show ((items.toList.drop (sIx items.size 0 lo)).take (sIx items.size items.size hi - sIx items.size 0 lo)).toArray.size ≤ sizeLine
  rw [List.size_toArray,List.length_take,List.length_drop,Array.length_toList]
  omega
 have hj:sIx items.size items.size hi ≤ items.size:=sIx_le _ _ (Nat.le_refl _) hi
 obtain ⟨os,hos,hcs,hds⟩:=id hs
 have hTs:s.TypeIs (.ref sl) "slice":=⟨os,hos,hcs⟩
 unfold getItem
 try with_reducible refine wpAny_holding ?_
 first|refine wpAny_bind (wpAny_pure ?_)|skip
 refine wpAny_bind (wpAny_sequenceKey ht.typeIs (by decide) ?_)
 refine wpAny_bind (wpAny_callSpecial?_slot (name:=Str.ofString "__getitem__") ht.typeIs PyProof.Rows.slot_tuple_getitem
  (wpAny_call_entry PyProof.Rows.slot_tuple_getitem ht.typeIs entry_tuple_getitem ?_ (args_tuple_getitem _ _)))
 show wpAny _ _ (Builtin.Tuple.tupleItemsOf (.ref t) >>= _) _ _ s
 refine wpAny_bind (tupleItemsOf_ ht ?_)
 refine wpAny_bind (wpAny_typeOf hTs ?_)
 rw [if_pos (by decide)]
 refine wpAny_bind (sliceApplied_gen hs pl pu ?_)
 have hno:¬ ((((sIx items.size 0 lo:Nat):Int) == 0 && (1:Int) == 1 && (sIx items.size items.size hi - sIx items.size 0 lo) == items.size)=true):=by
  intro q
  rw [Bool.and_eq_true,Bool.and_eq_true] at q
  have q1:((sIx items.size 0 lo:Nat):Int)=0:=eq_of_beq q.1.1
  have q2:sIx items.size items.size hi - sIx items.size 0 lo=items.size:=eq_of_beq q.2
  exact hw ⟨by omega,by omega⟩
 show wpAny _ _ (if (((sIx items.size 0 lo:Nat):Int) == 0 && (1:Int) == 1 && (sIx items.size items.size hi - sIx items.size 0 lo) == items.size)=true then _ else _) _ _ s
 rw [if_neg hno,pick_gen]
 first
  | exact wpAny_bind (m:=Builtin.Tuple.tupleExact _) (wpAny_newObj_type (wpAny_pure ⟨_,rfl,wpAny_pure h⟩) htake)
  | exact wpAny_bind (m:=Builtin.Tuple.tupleExact _) (wpAny_newObj_type (wpAny_bind (wpAny_pure (wpAny_pure ⟨_,rfl,wpAny_pure h⟩))) htake)
  | exact wpAny_bind (wpAny_bind (m:=Builtin.Tuple.tupleExact _) (wpAny_newObj_type (wpAny_pure (wpAny_pure ⟨_,rfl,wpAny_pure h⟩)) htake))
  | exact wpAny_bind (wpAny_bind (m:=Builtin.Tuple.tupleExact _) (wpAny_newObj_type (wpAny_pure ⟨_,rfl,wpAny_pure h⟩) htake))
end
end HT
namespace L2
open PySem PySem.Spec PyProof.Rows
noncomputable abbrev TO:=St→Hp→(Option Int→Hp→Prop)→Prop
noncomputable def PO (X:Cx) (e:Option Expr) (t:TO):Prop :=
 ∀ (pins:List (Addr×Obj)) (s:Shared) (σ:St) (H:Hp) (Q:Option Int→Hp→Prop),Inv X pins σ H s→t σ H Q →
  wpAny (model X.prog X.w) X.A (evalPart e X.env) (fun u s'=>∃ o H',Inv X pins σ H' s'∧IsPart u o∧Q o H') X.xe s
noncomputable def tNoPart:TO:=fun _ H Q=>Q none H
noncomputable def tPart (t:TE):TO:=fun σ H Q=>t σ H fun x H1=>∃ i,x=.int i∧Q (some i) H1
theorem intsAre_of {ns:List Int}:∀ {us:List Value},Vals (ns.map V.int) us→IntsAre us ns:=by
 induction ns with
 | nil=>intro us r; rw [List.map_nil] at r; cases r; exact .nil
 | cons n ns ih =>
  intro us r
  rw [List.map_cons] at r
  cases r with
  | cons r1 r2 =>
   obtain ⟨t,e⟩:=r1
   subst e
   exact .cons n t (ih r2)
section
variable {X:Cx} {e:Expr} {te:TE} {lo hi:Option Expr} {tl th:TO} {pos p2:Pos}
theorem po_none:PO X none tNoPart:=by
 intro pins s σ H Q I h
 rw [evalPart_none]
 exact wpAny_pure ⟨none,H,I,.none,h⟩
theorem po_some (h:PE X e te):PO X (some e) (tPart te):=by
 intro pins s σ H Q I hw
 rw [evalPart_some]
 refine thn (h pins s σ H _ I hw) fun u s1 ⟨x,H1,I1,r1,q1⟩=>?_
 obtain ⟨i,rfl,q⟩:=q1
 obtain ⟨t,rfl⟩:=r1
 exact ⟨some i,H1,I1,.int i t,q⟩
noncomputable def SlR (X:Cx) (r:V→Option Int→Option Int→Hp→VK→Prop):Prop :=
 ∀ (pins:List (Addr×Obj)) (s:Shared) (σ:St) (H:Hp) (x:V) (v vl vu:Value) (lo hi:Option Int) (sl:Addr) (Q:VK),Inv X pins σ H s→RelV x v→s.heap.IsSliceOf sl vl vu .none→IsPart vl lo→IsPart vu hi→r x lo hi H Q →
  ∃ T id,typeLookup (.type T) "__getitem__"=pure (some (.builtin id))∧s.TypeIs v T∧wpAny (model X.prog X.w) X.A (getItem v (.ref sl)) (EP X pins σ Q) X.xe s
theorem SlR.or {r r':V→Option Int→Option Int→Hp→VK→Prop} (h:SlR X r) (h':SlR X r'):SlR X (fun x lo hi H Q=>r x lo hi H Q∨r' x lo hi H Q):=by
 intro pins s σ H x v vl vu lo hi sl Q I rx hs pl pu q
 rcases q with q|q
 ·exact h pins s σ H x v vl vu lo hi sl Q I rx hs pl pu q
 ·exact h' pins s σ H x v vl vu lo hi sl Q I rx hs pl pu q
noncomputable def tSl (r:V→Option Int→Option Int→Hp→VK→Prop) (te:TE) (tl th:TO):TE:=fun σ H Q=>te σ H fun x H1=>tl σ H1 fun l H2=>th σ H2 fun u H3=>r x l u H3 Q
theorem pe_slice {r:V→Option Int→Option Int→Hp→VK→Prop} (hr:SlR X r) (he:PE X e te) (hl:PO X lo tl) (hu:PO X hi th):PE X (.Subscript e (.Slice lo hi none p2) pos) (tSl r te tl th):=by
 intro pins s σ H Q I h
 refine Subscript_ (thn (he pins s σ H _ I h) fun v s1 ⟨x,H1,I1,r1,q1⟩=>?_)
 refine wpAny_Slice (thn (hl pins s1 σ H1 _ I1 q1) fun vl s2 ⟨l,H2,I2,pl,q2⟩=>thn (hu pins s2 σ H2 _ I2 q2) fun vu s3 ⟨u,H3,I3,pu,q3⟩=>?_)
 rw [evalPart_none]
 refine wpAny_pure ?_
 have I4:Inv X pins σ H3 { s3 with heap:=s3.heap.push { cls:=.type "slice",data:=.fields #[vl,vu,.none] } }:=I3.kept (t':=s3.toks) fun b ob q=>Heap.get?_push_of_some _ q
 obtain ⟨T,id,hT,ht,hg⟩:=hr pins { s3 with heap:=s3.heap.push { cls:=.type "slice",data:=.fields #[vl,vu,.none] } } σ H3 x v vl vu l u s3.heap.objs.size Q I4 r1 (Heap.IsSliceOf.new ..) pl pu q3
 show wpAny (model X.prog X.w) X.A (subscriptTail e (.Slice lo hi none p2) v (.ref s3.heap.objs.size)) (EP X pins σ Q) X.xe { s3 with heap:=s3.heap.push { cls:=.type "slice",data:=.fields #[vl,vu,.none] } }
 exact tail_any (ops:=[.ref s3.heap.objs.size,v]) ht hT hg (by with_unfolding_all rfl)
noncomputable def cutV (xs:List V) (lo hi:Option Int):List V:=(xs.drop (HT.sIx xs.length 0 lo)).take (HT.sIx xs.length xs.length hi - HT.sIx xs.length 0 lo)
theorem cutV_length (xs:List V) (lo hi:Option Int):(cutV xs lo hi).length ≤ xs.length:=by
 unfold cutV
 rw [List.length_take,List.length_drop]
 omega
noncomputable def rSlT (K:PySem.W.Frag):V→Option Int→Option Int→Hp→VK→Prop:=fun x lo hi H Q=>∃ a xs,x=.ref a∧SqT K H a xs ∧
 ¬ (HT.sIx xs.length 0 lo=0∧HT.sIx xs.length xs.length hi=xs.length)∧∀ p,H p=none→Q (.ref p) (upd H p (.tup (cutV xs lo hi)))
theorem sl_tup:SlR X (rSlT X.K):=by
 intro pins s σ H x v vl vu lo hi sl Q I rx hs pl pu h
 obtain ⟨a,xs,rfl,hx,hw,q⟩:=h
 cases rx
 obtain ⟨its,r,ht,hz⟩:=I.tuple hx
 have hlen:its.toArray.size=xs.length:=by rw [List.size_toArray]; exact r.length.symm
 refine ⟨"tuple",_,PyProof.Rows.slot_tuple_getitem.lookup,ht.typeIs,?_⟩
 refine HT.getItem_tuple_cut ht hs pl pu (by rw [hlen]; exact hw) ?_ (by rw [hlen]; exact hz)
 rw [hlen]
 refine ⟨.ref s.heap.objs.size,_,I.laid (t':=s.toks) (o:=.tup (cutV xs lo hi)) (fun b ob q=>Heap.get?_push_of_some _ q) (Nat.le_refl _) ?_,rfl,q _ (I.hok.fresh (Nat.le_refl _))⟩
 exact ⟨Nat.le_trans (cutV_length xs lo hi) hz,_,(r.drop (HT.sIx xs.length 0 lo)).take (HT.sIx xs.length xs.length hi - HT.sIx xs.length 0 lo),IsTup.new _ _⟩
noncomputable def rCatT (K:PySem.W.Frag):R2:=fun x y H Q=>∃ a b xs ys,x=.ref a∧y=.ref b∧SqT K H a xs∧SqT K H b ys∧xs≠[]∧xs.length+ys.length ≤ sizeLine ∧
 (ys=[]→Q (.ref a) H)∧(ys≠[]→∀ p,H p=none→Q (.ref p) (upd H p (.tup (xs++ys))))
theorem Vals.nil_iff {xs:List V} {us:List Value} (r:Vals xs us):us=[] ↔ xs=[]:=by
 cases r with
 | nil=>simp
 | cons _ _=>simp
theorem op_catT:OpR X (binaryOp .Add) (rCatT X.K):=by
 intro pins s σ H x y v u Q I rx ry h
 obtain ⟨a,b,xs,ys,rfl,rfl,ha,hb,hx,hz,q1,q2⟩:=h
 cases rx
 cases ry
 obtain ⟨its,r1,p1,_⟩:=I.tuple ha
 obtain ⟨its2,r2,p2,_⟩:=I.tuple hb
 refine HT.cat_tup p1 p2 (fun z=>hx (r1.nil_iff.mp z)) (fun z=>⟨.ref a,H,I,rfl,q1 (r2.nil_iff.mp z)⟩) (fun z=>?_) (by rw [← r1.length,← r2.length]; exact hz)
 refine ⟨.ref s.heap.objs.size,_,I.laid (t':=s.toks) (o:=.tup (xs++ys)) (fun b ob q=>Heap.get?_push_of_some _ q) (Nat.le_refl _) ?_,rfl,q2 (fun w=>z (r2.nil_iff.mpr w)) _ (I.hok.fresh (Nat.le_refl _))⟩
 exact ⟨by rw [List.length_append]; exact hz,_,r1.append r2,IsTup.new _ _⟩
end
end L2
namespace L2
open PySem PySem.Spec PyProof.Rows
noncomputable def ixN (n:Nat) (i:Int):Option Nat:=if 0 ≤ i then (if i < n then some i.toNat else none) else if -(n:Int) ≤ i then some (i+n).toNat else none
noncomputable def atI {α:Type} (xs:List α) (i:Int):Option α:=(ixN xs.length i).bind fun j=>xs[j]?
theorem ixN_seq {n:Nat} {i:Int} {j:Nat} (h:ixN n i=some j):seqIndex? i n=some j∧j < n∧-(n:Int) ≤ i∧i < n:=by
 unfold ixN at h
 by_cases h0:0 ≤ i
 ·rw [if_pos h0] at h
  by_cases h1:i < n
  ·rw [if_pos h1] at h
   have e:i.toNat=j:=Option.some.inj h
   exact ⟨by rw [seqIndex_of h0 h1,e],by omega,by omega,h1⟩
  ·rw [if_neg h1] at h; cases h
 ·rw [if_neg h0] at h
  by_cases h1:-(n:Int) ≤ i
  ·rw [if_pos h1] at h
   have e:(i+n).toNat=j:=Option.some.inj h
   exact ⟨by rw [seqIndex_neg (by omega) h1,e],by omega,h1,by omega⟩
  ·rw [if_neg h1] at h; cases h
theorem atI_get {α:Type} {xs:List α} {i:Int} {v:α} (h:atI xs i=some v):∃ j,seqIndex? i xs.length=some j∧xs[j]?=some v∧j < xs.length∧-(xs.length:Int) ≤ i∧i < xs.length:=by
 unfold atI at h
 cases e:ixN xs.length i with
 | none=>rw [e] at h; cases h
 | some j =>
  rw [e] at h
  obtain ⟨h1,h2,h3,h4⟩:=ixN_seq e
  exact ⟨j,h1,h,h2,h3,h4⟩
noncomputable def PlainIx (b:Expr):Prop:=∀ o i,subscripted b false o i=operate [o,i] (getItem o i)
noncomputable def IxR (X:Cx) (r:R2):Prop :=
 ∀ (value slice:Expr) (pins:List (Addr×Obj)) (s:Shared) (σ:St) (H:Hp) (x y:V) (v u:Value) (Q:VK),Inv X pins σ H s→RelV x v→RelV y u→r x y H Q →
  subscripted slice false v u=operate [v,u] (getItem v u)→wpAny (model X.prog X.w) X.A (subscriptTail value slice v u) (EP X pins σ Q) X.xe s
noncomputable def MtR (X:Cx) (id:String) (r:V→List V→Hp→VK→Prop):Prop :=
 ∀ (pins:List (Addr×Obj)) (s:Shared) (σ:St) (H:Hp) (x:V) (xs:List V) (v:Value) (us:List Value) (Q:VK),Inv X pins σ H s→RelV x v→Vals xs us→r x xs H Q →
  wpAny (model X.prog X.w) X.A (call (.builtin id) (v::us)) (EP X pins σ Q) X.xe s
section
variable {X:Cx} {a b:Expr} {ta tb:TE} {pos:Pos}
noncomputable def rIxL (K:PySem.W.Frag):R2:=fun x y H Q=>∃ p xs i v,x=.ref p∧y=.int i∧SqL K H p xs∧atI xs i=some v∧Q v H
noncomputable def rIxT (K:PySem.W.Frag):R2:=fun x y H Q=>∃ p xs i v,x=.ref p∧y=.int i∧SqT K H p xs∧atI xs i=some v∧Q v H
theorem ix_list:IxR X (rIxL X.K):=by
 intro value slice pins s σ H x y v u Q I rx ry h hs
 obtain ⟨p,xs,i,z,rfl,rfl,hq,he,q⟩:=h
 cases rx
 obtain ⟨t,rfl⟩:=ry
 obtain ⟨its,r,pl,hz⟩:=I.list hq
 obtain ⟨j,h1,h2,h3,h4,h5⟩:=atI_get he
 obtain ⟨w,ew,rw'⟩:=r.get h2
 have hl:=r.length
 have hn:=line63
 have fin:EP X pins σ Q w s:=⟨z,H,I,rw',q⟩
 by_cases h0:0 ≤ i
 ·have hj:i.toNat=j:=by
   rw [seqIndex_of h0 h5] at h1
   exact Option.some.inj h1
  exact item_listR pl.isList h0 (by omega) (by rw [hj]; simpa using ew) fin hs
 ·have hj:(i+(its.toArray.size:Int)).toNat=j:=by
   rw [seqIndex_neg (by omega) h4] at h1
   rw [List.size_toArray,← hl]
   exact Option.some.inj h1
  exact subscriptTail_builtinR (x:=w) pl.isList.typeIs slot_list_getitem.lookup
   (wpAny_getItem_list_neg (Q:=fun r s'=>r=w∧EP X pins σ Q r s') pl.isList (by omega) (by rw [List.size_toArray] <;> omega) (by omega) (by rw [hj]; simpa using ew) ⟨rfl,fin⟩) hs
theorem ix_tup:IxR X (rIxT X.K):=by
 intro value slice pins s σ H x y v u Q I rx ry h hs
 obtain ⟨p,xs,i,z,rfl,rfl,hq,he,q⟩:=h
 cases rx
 obtain ⟨t,rfl⟩:=ry
 obtain ⟨its,r,pl,hz⟩:=I.tuple hq
 obtain ⟨j,h1,h2,h3,h4,h5⟩:=atI_get he
 obtain ⟨w,ew,rw'⟩:=r.get h2
 have hl:=r.length
 have hn:=line63
 have fin:EP X pins σ Q w s:=⟨z,H,I,rw',q⟩
 exact subscriptTail_builtinR (x:=w) pl.typeIs slot_tuple_getitem.lookup
  (getItem_tuple (j:=j) (Q:=fun r s'=>r=w∧EP X pins σ Q r s') pl (by omega) (by omega) (by rw [List.size_toArray,← hl]; exact h1) (by simpa using ew) ⟨rfl,fin⟩) hs
theorem mapSeq_set (its:List Value) (n j:Nat) (u:Value):Obj.mapSeq (·.setIfInBounds j u) { cls:=.type "list",data:=.seq its.toArray n }={ cls:=.type "list",data:=.seq (its.set j u).toArray n }:=by
 simp [Obj.mapSeq]
theorem Inv.lst {pins:List (Addr×Obj)} {σ:St} {H:Hp} {s:Shared} {p:Addr} {xs:List V} (I:Inv X pins σ H s) (h:H p=some (.lst xs)) :
  ∃ (its:List Value) (n:Nat),Vals xs its∧s.heap.get? p=some { cls:=.type "list",data:=.seq its.toArray n }∧xs.length ≤ sizeLine:=by
 obtain ⟨z,its,n,r,e⟩:=I.hok p _ h
 exact ⟨its,n,r,e,z⟩
theorem Inv.lstUpd {pins:List (Addr×Obj)} {σ:St} {H:Hp} {s:Shared} {p:Addr} {xs ys:List V} {its its':List Value} {n n':Nat} {f:Obj→Obj} (I:Inv X pins σ H s) (h:H p=some (.lst xs))
  (ho:s.heap.get? p=some { cls:=.type "list",data:=.seq its.toArray n }) (hf:f { cls:=.type "list",data:=.seq its.toArray n }={ cls:=.type "list",data:=.seq its'.toArray n' }) (r:Vals ys its') (hz:ys.length ≤ sizeLine) (t:Nat) :
  Inv X pins σ (upd H p (.lst ys)) { s with heap:=s.heap.update p f,toks:=t }:=by
 have e:(s.heap.update p f).get? p=some { cls:=.type "list",data:=.seq its'.toArray n' }:=by
  rw [Heap.get?_update_self f ho (by rw [hf] <;> rfl),hf]
 refine I.write (x:=p) (e:=p) (by rw [h]; trivial) (.inl rfl) (fun b u hb q=>(Heap.get?_update_other _ _ (Ne.symm hb)).trans q) ⟨_,e⟩ ?_
 exact ⟨hz,its',n',r,e⟩
noncomputable def rSetL:V→V→V→Hp→(Hp→Prop)→Prop:=fun o i v H Q=>∃ p xs k j,o=.ref p∧i=.int k∧H p=some (.lst xs)∧ixN xs.length k=some j∧Q (upd H p (.lst (xs.set j v)))
theorem set_list:PSet X rSetL:=by
 intro pins s σ H o i v ov iv u Q I ro ri rv h
 obtain ⟨p,xs,k,j,rfl,rfl,hp,hj,q⟩:=h
 cases ro
 obtain ⟨t,rfl⟩:=ri
 obtain ⟨its,n,r,ho,hz⟩:=I.lst hp
 obtain ⟨h1,h2,h3,h4⟩:=ixN_seq hj
 have hl:=r.length
 have hn:=line63
 have I':Inv X pins σ (upd H p (.lst (xs.set j v))) { s with heap:=s.heap.update p (Obj.mapSeq (·.setIfInBounds j u)) } :=
  I.lstUpd hp ho (mapSeq_set its n j u) (r.set rv j) (by rw [List.length_set]; exact hz) s.toks
 by_cases h0:0 ≤ k
 ·have hk:k.toNat=j:=by
   rw [seqIndex_of h0 h4] at h1
   exact Option.some.inj h1
  exact PySem.W.ki_setAt ho h0 (by omega) (by rw [List.size_toArray,← hl]; exact h4) (by rw [hk]; exact ⟨_,I',q⟩)
 ·have hk:(k+(its.toArray.size:Int)).toNat=j:=by
   rw [seqIndex_neg (by omega) h3] at h1
   rw [List.size_toArray,← hl]
   exact Option.some.inj h1
  exact PySem.W.ki_setBack ho (by omega) (by rw [List.size_toArray,← hl]; exact h3) (by omega) (by rw [hk]; exact ⟨_,I',q⟩)
theorem slice_bounds (lo hi:Option Int) (n:Nat):(sliceBounds lo hi none n).1=((HT.sIx n 0 lo:Nat):Int)∧(sliceBounds lo hi none n).2.1=((HT.sIx n n hi:Nat):Int)∧(sliceBounds lo hi none n).2.2=1:=by
 refine ⟨?_,?_,rfl⟩
 ·cases lo with
  | none=>simp [sliceBounds,HT.sIx]
  | some i =>
   simp only [sliceBounds,HT.sIx,Option.getD_none,show (1:Int) > 0 by decide,if_true]
   by_cases h:i < 0
   ·simp only [h,if_true] <;> omega
   ·simp only [h,if_false] <;> omega
 ·cases hi with
  | none=>simp [sliceBounds,HT.sIx]
  | some i =>
   simp only [sliceBounds,HT.sIx,Option.getD_none,show (1:Int) > 0 by decide,if_true]
   by_cases h:i < 0
   ·simp only [h,if_true] <;> omega
   ·simp only [h,if_false] <;> omega
theorem slicePick_cut (its:List Value) (lo hi:Option Int):slicePick its.toArray lo hi none=((its.drop (HT.sIx its.length 0 lo)).take (HT.sIx its.length its.length hi - HT.sIx its.length 0 lo)).toArray:=by
 obtain ⟨h1,h2,h3⟩:=slice_bounds lo hi its.toArray.size
 unfold slicePick
 rw [h1,h2,h3]
 simp only [sliceRange_one,pick_run,List.size_toArray] <;> rfl
noncomputable def rSlL (K:PySem.W.Frag):V→Option Int→Option Int→Hp→VK→Prop:=fun x lo hi H Q=>∃ a xs,x=.ref a∧SqL K H a xs∧∀ p,H p=none→Q (.ref p) (upd H p (.lst (cutV xs lo hi)))
theorem sl_list:SlR X (rSlL X.K):=by
 intro pins s σ H x v vl vu lo hi sl Q I rx hs pl pu h
 obtain ⟨a,xs,rfl,hx,q⟩:=h
 cases rx
 obtain ⟨its,r,ht,hz⟩:=I.list hx
 have hlen:=r.length
 refine ⟨"list",_,slot_list_getitem.lookup,ht.isList.typeIs,?_⟩
 refine wpAny_getItem_list_slice ht.isList hs pl pu .none (by simp) ?_ (by rw [List.size_toArray] <;> omega)
 rw [slicePick_cut,← hlen]
 refine ⟨.ref s.heap.objs.size,_,I.laid (t':=s.toks) (o:=.lst (cutV xs lo hi)) (fun b ob q=>Heap.get?_push_of_some _ q) (Nat.le_refl _) ?_,rfl,q _ (I.hok.fresh (Nat.le_refl _))⟩
 exact ⟨Nat.le_trans (cutV_length xs lo hi) hz,_,0,(r.drop (HT.sIx xs.length 0 lo)).take (HT.sIx xs.length xs.length hi - HT.sIx xs.length 0 lo),Heap.get?_push_size _ rfl⟩
noncomputable def flatV:V→Bool
 | .non=>true
 | .bl _=>true
 | .int _=>true
 | .str _=>true
 | _=>false
theorem call_len_seq:CallR X (.builtin "len") (fun xs H Q=>∃ p ys,xs=[.ref p]∧(SqL X.K H p ys∨SqT X.K H p ys)∧Q (.int ys.length) H):=by
 intro pins s σ H xs us Q I r h
 obtain ⟨p,ys,rfl,hq,q⟩:=h
 obtain ⟨u,rfl,rx⟩:=vals1 r
 cases rx
 have hn:=line63
 rcases hq with hq|hq
 ·obtain ⟨its,r',pl,hz⟩:=I.list hq
  have hlen:=r'.length
  exact Calls.call_len_list pl.isList (by simp only [List.size_toArray] <;> omega) ⟨.int ys.length,H,I.tok _,⟨s.toks+1,by rw [List.size_toArray,hlen]⟩,q⟩
 ·obtain ⟨its,r',pl,hz⟩:=I.tuple hq
  have hlen:=r'.length
  exact len_tuple pl (by simp only [List.size_toArray] <;> omega) ⟨.int ys.length,H,I.tok _,⟨s.toks+1,by rw [List.size_toArray,hlen]⟩,q⟩
theorem call_list_of:CallR X (.type "list") (fun xs H Q=>∃ p ys,xs=[.ref p]∧(SqL X.K H p ys∨SqT X.K H p ys)∧∀ l,H l=none→Q (.ref l) (upd H l (.lst ys))):=by
 intro pins s σ H xs us Q I r h
 obtain ⟨p,ys,rfl,hq,q⟩:=h
 obtain ⟨u,rfl,rx⟩:=vals1 r
 cases rx
 have fin:∀ (its:List Value),Vals ys its→ys.length ≤ sizeLine→∀ (h':Heap) (c':Nat),(∀ b o',s.heap.get? b=some o'→h'.get? b=some o') →
   h'.get? s.heap.objs.size=some { cls:=.type "list",dict:=none,data:=.seq its.toArray c',slots:=#[] }→EP X pins σ Q (.ref s.heap.objs.size) { s with heap:=h' }:=fun its r' hz h' c' kp e =>
  ⟨.ref s.heap.objs.size,_,I.laid (t':=s.toks) kp (Nat.le_refl _) (show ObjOk X.prog X.w _ h' _ (.lst ys) from ⟨hz,its,c',r',e⟩),rfl,q _ (I.hok.fresh (Nat.le_refl _))⟩
 rcases hq with hq|hq
 ·obtain ⟨its,r',pl,hz⟩:=I.list hq
  have hlen:=r'.length
  obtain ⟨o,ho,hc,n,hd⟩:=pl.isList
  exact call_list_seq p (.inl rfl) ho hc hd (fun h' c' kp e=>fin its r' hz h' c' kp e) (by simp only [List.size_toArray] <;> omega)
 ·obtain ⟨its,r',pl,hz⟩:=I.tuple hq
  have hlen:=r'.length
  obtain ⟨o,ho,hc,n,hd⟩:=pl
  exact call_list_seq p (.inr rfl) ho hc hd (fun h' c' kp e=>fin its r' hz h' c' kp e) (by simp only [List.size_toArray] <;> omega)
noncomputable def tyV (K:PySem.W.Frag) (T:String) (x:V) (H:Hp):Prop:=match x with
 | .str _=>T="str"
 | .int _=>T="int"
 | .ref p=>(T="list"∧∃ xs,SqL K H p xs)∨(T="tuple"∧∃ o,K.lookup p=some o∧o.cls=.type "tuple"∧o.dict=none) ∨
   (T="dict"∧((∃ kvs,H p=some (.dK kvs))∨∃ kvs,H p=some (.dT kvs)))∨(T="set"∧∃ S n,H p=some (.set S n))
 | _=>False
theorem tyV_is {pins:List (Addr×Obj)} {σ:St} {H:Hp} {s:Shared} {T:String} {x:V} {v:Value} (I:Inv X pins σ H s) (r:RelV x v) (ty:tyV X.K T x H) :
  s.TypeIs v T∧∀ a,v=.ref a→∃ ob,s.heap.get? a=some ob∧ob.dict=none:=by
 cases x with
 | str z =>
  obtain ⟨t,rfl⟩:=r
  cases (show T="str" from ty)
  exact ⟨typeIs_str s z t,fun _ e=>nomatch e⟩
 | int i =>
  obtain ⟨t,rfl⟩:=r
  cases (show T="int" from ty)
  exact ⟨typeIs_int s i t,fun _ e=>nomatch e⟩
 | ref p =>
  cases r
  rcases ty with ⟨rfl,xs,hq⟩|⟨rfl,o,hk,hc,hd⟩|⟨rfl,hk⟩|⟨rfl,S,n,hk⟩
  ·obtain ⟨its,_,pl,_⟩:=I.list hq
   refine ⟨pl.isList.typeIs,fun a e=>?_⟩
   cases e
   obtain ⟨o,n,e,c,hd,_⟩:=pl
   exact ⟨o,e,hd⟩
  ·refine ⟨⟨o,I.kIn p o hk,hc⟩,fun a e=>?_⟩
   cases e
   exact ⟨o,I.kIn _ o hk,hd⟩
  ·have z:∃ o,s.heap.get? p=some o∧o.ExactDict:=by
    rcases hk with ⟨kvs,hk⟩|⟨kvs,hk⟩
    ·obtain ⟨_,_,_,_,o,_,_,e,ex,_⟩:=I.hok p _ hk
     exact ⟨o,e,ex⟩
    ·obtain ⟨_,_,_,_,o,_,_,e,ex,_⟩:=I.hok p _ hk
     exact ⟨o,e,ex⟩
   obtain ⟨o,e,ex⟩:=z
   refine ⟨⟨o,e,ex.1⟩,fun a e2=>?_⟩
   cases e2
   exact ⟨o,e,ex.2.1⟩
  ·obtain ⟨o,_,_,_,e,ex,_⟩:=I.hok p _ hk
   refine ⟨⟨o,e,ex.1⟩,fun a e2=>?_⟩
   cases e2
   exact ⟨o,e,ex.2.1⟩
 | _=>exact False.elim ty
noncomputable def tBM (K:PySem.W.Frag) (T:String) (r:V→List V→Hp→VK→Prop) (to:TE) (t:TA):TE:=fun σ H Q=>to σ H fun x H1=>tyV K T x H1∧t σ H1 fun xs H2=>r x xs H2 Q
variable {o e:Expr} {es:List Expr} {to:TE} {t:TA} {name:Str} {apos cpos:Pos} {T id:String} {r:V→List V→Hp→VK→Prop}
theorem pe_bm (pa:PlainAttrs T) (slot:Slot T name id) (hty:typeOf (.builtin id)=pure (.type "method_descriptor")) (hm:MtR X id r) (ho:PE X o to) (ha:PA X (e::es) t)
  (hbase:attributeBase o name X.env (eval o X.env)=eval o X.env:=by rfl)
  (hfew:((backTo cpos (starEach (e::es) X.env)).all (fun x=>!x.1) && (backToKw cpos (keywordEach [] X.env)).all (fun x=>x.1.isSome)
   && decide ((e::es).length+([]:List Keyword).length+(if ([]:List Keyword).isEmpty then 0 else 1) < 30))=true:=by rfl)
  (hline:(apos.endLine == cpos.line)=true:=by rfl) (hs:starEach (e::es) X.env=(false,eval e X.env)::starEach es X.env:=by rfl) (hplain:(backTo cpos (starEach es X.env)).any (·.1)=false:=by rfl) :
  PE X (.Call (.Attribute o name apos) (e::es) [] cpos) (tBM X.K T r to t):=by
 intro pins s σ H Q I h
 refine wpAny_Call_method_late hbase hfew hline rfl (thn (ho pins s σ H _ I h) fun v s1 ⟨x,H1,I1,r1,ty,q1⟩=>?_)
 obtain ⟨h1,h2⟩:=tyV_is I1 r1 ty
 refine ⟨T,id,pa,slot,hty,h1,h2,?_⟩
 have hA:=ha cpos pins s1 σ H1 _ I1 q1
 rw [hs] at hA ⊢
 refine Calls.callWith_builtin (by show (false || (backTo cpos (starEach es X.env)).any (·.1))=false; rw [hplain] <;> rfl) (Calls.evalArgs_plain ?_)
 exact thn hA fun us s2 ⟨vs,H2,I2,r2,q2⟩=>hm pins s2 σ H2 x vs v us Q I2 r1 r2 q2
/- xs.append(e),list.index on a module's tuple .. are MtR facts of 06m -/
end
end L2
namespace L2
open PySem PySem.Spec PyProof.Rows
noncomputable def MtM (X:Cx) (id:String) (r:V→List V→Hp→VK→Prop):Prop :=
 ∀ (pins:List (Addr×Obj)) (s:Shared) (σ:St) (H:Hp) (x:V) (xs:List V) (v:Value) (us:List Value) (Q:VK),Inv X pins σ H s→RelV x v→Vals xs us→r x xs H Q →
  wpAny (model X.prog X.w) X.A (call (.builtin id) (v::us)) (EP X pins σ Q) X.xe s
theorem Vals.one:∀ {x:V} {us:List Value},Vals [x] us→∃ u,us=[u]∧RelV x u
 | _,_,.cons r .nil=>⟨_,rfl,r⟩
section
variable {X:Cx} {pins:List (Addr×Obj)} {σ:St} {H:Hp} {s:Shared} {l b:Addr} {xs ys zs:List V}
theorem Inv.lset {its its':List Value} {n:Nat} {f:Array Value→Array Value} {t':Nat} (I:Inv X pins σ H s) (hH:H l=some (.lst xs))
  (e:s.heap.get? l=some { cls:=.type "list",data:=.seq its.toArray n }) (hf:f its.toArray=its'.toArray) (hv:Vals ys its') (hz:ys.length ≤ sizeLine) :
  Inv X pins σ (upd H l (.lst ys)) { s with heap:=s.heap.update l (Obj.mapSeq f),toks:=t' }:=by
 have q:=PySem.IsL.update e f
 rw [hf] at q
 refine I.write (x:=l) (e:=l) (by rw [hH]; exact trivial) (.inl rfl) (fun b' u hb hu=>(Heap.get?_update_other s.heap (Obj.mapSeq f) (Ne.symm hb)).trans hu) ⟨_,q⟩ ?_
 exact ⟨hz,its',_,hv,q⟩
theorem Inv.lstM (I:Inv X pins σ H s) (hH:H l=some (.lst xs)):xs.length ≤ sizeLine∧∃ (its:List Value) (n:Nat),Vals xs its∧xs.length=its.length∧s.heap.get? l=some { cls:=.type "list",data:=.seq its.toArray n }:=by
 obtain ⟨z,its,n,r,e⟩:=I.hok l _ hH
 exact ⟨z,its,n,r,r.length,e⟩
theorem notLongL {n:Nat} (h:n ≤ sizeLine):Builtin.List.listTooLong n=false:=by
 unfold Builtin.List.listTooLong
 exact decide_eq_false (by omega)
end
section
variable {X:Cx}
noncomputable def rAppend:V→List V→Hp→VK→Prop:=fun x vs H Q=>∃ l xs y,x=.ref l∧vs=[y]∧H l=some (.lst xs)∧xs.length < sizeLine∧Q .non (upd H l (.lst (xs++[y])))
theorem mt_append:MtM X "list.append" rAppend:=by
 intro pins s σ H x vs v us Q I rx rv h
 obtain ⟨l,xs,y,rfl,rfl,hH,hz,q⟩:=h
 cases rx
 obtain ⟨u,rfl,ru⟩:=rv.one
 obtain ⟨z,its,n,r,hl,e⟩:=I.lstM hH
 refine call_meets F.slot_list_append ⟨_,e,rfl⟩ F.entry_list_append (F.args_list_append_2 _ _) (PySem.list_append l its.toArray n u (by rw [List.size_toArray]; omega)) ⟨e,?_⟩
 refine ⟨.non,_,I.lset (its':=its++[u]) hH e (by simp) (r.append (.cons ru .nil)) ?_,rfl,q⟩
 rw [List.length_append,List.length_singleton]
 omega
noncomputable def rExtend:V→List V→Hp→VK→Prop:=fun x vs H Q=>∃ l b xs zs,x=.ref l∧vs=[.ref b]∧H l=some (.lst xs)∧H b=some (.lst zs)∧xs.length+zs.length ≤ sizeLine∧Q .non (upd H l (.lst (xs++zs)))
theorem mt_extend:MtM X "list.extend" rExtend:=by
 intro pins s σ H x vs v us Q I rx rv h
 obtain ⟨l,b,xs,zs,rfl,rfl,hH,hB,hz,q⟩:=h
 cases rx
 obtain ⟨u,rfl,ru⟩:=rv.one
 cases ru
 obtain ⟨z,its,n,r,hl,e⟩:=I.lstM hH
 obtain ⟨z2,its2,n2,r2,hl2,e2⟩:=I.lstM hB
 have hsz:its.toArray.size+its2.toArray.size ≤ sizeLine:=by rw [List.size_toArray,List.size_toArray]; omega
 have hlong:¬ (!its.toArray.isEmpty && Builtin.List.listTooLong (its.toArray.size+its2.toArray.size))=true:=by
  rw [notLongL hsz,Bool.and_false]
  exact Bool.false_ne_true
 refine call_meets F.slot_list_extend ⟨_,e,rfl⟩ F.entry_list_extend (F.args_list_extend_2 _ _)
  (AutoSeq1.list_extend_list_list_0 l its.toArray n b its2.toArray n2 hlong (by rw [List.size_toArray]; omega) (by omega)) ⟨e,e2,?_⟩
 refine ⟨.non,_,I.lset (its':=its++its2) hH e (by simp) (r.append r2) ?_,rfl,q⟩
 rw [List.length_append]
 omega
end
section
variable {prog:Program} {w:World} {A:Around} {E:Value→Shared→Prop} {s:Shared}
set_option maxRecDepth 100000 in
end
section
variable {X:Cx}
end
end L2
namespace L2
open PySem PySem.Spec PyProof.Rows
section
variable {κ:Type} [DecidableEq κ]
noncomputable def valV (kvs:List (κ×V)) (k:κ):Option V:=(kvs.find? fun kv=>decide (kv.1=k)).map (·.2)
noncomputable def putK (kvs:List (κ×V)) (k:κ) (v:V):List (κ×V) :=
 if (kvs.any fun kv=>decide (kv.1=k))=true then kvs.map (fun kv=>if kv.1=k then (kv.1,v) else kv) else kvs++[(k,v)]
theorem valV_pos {p:κ×V} {r:List (κ×V)} {k:κ} (e:p.1=k):valV (p::r) k=some p.2:=by simp [valV,List.find?_cons,e]
theorem valV_neg {p:κ×V} {r:List (κ×V)} {k:κ} (e:¬ p.1=k):valV (p::r) k=valV r k:=by simp [valV,List.find?_cons,e]
theorem valV_any (k:κ):∀ kvs:List (κ×V),(kvs.any fun kv=>decide (kv.1=k))=(valV kvs k).isSome
 | []=>rfl
 | p::r=>by
  rw [List.any_cons]
  by_cases e:p.1=k
  ·simp only [valV_pos e,decide_eq_true e,Bool.true_or,Option.isSome_some]
  ·rw [valV_neg e,decide_eq_false e,Bool.false_or]; exact valV_any k r
theorem length_putK (kvs:List (κ×V)) (k:κ) (v:V):(putK kvs k v).length ≤ kvs.length+1:=by
 unfold putK
 split
 ·rw [List.length_map]; omega
 ·rw [List.length_append,List.length_cons,List.length_nil]; omega
theorem RelO.isSome_eq {o:Option V} {u:Option Value} (r:RelO o u):o.isSome=u.isSome:=by
 cases o with
 | none=>cases u with
  | none=>rfl
  | some _=>exact (show False from r).elim
 | some _=>cases u with
  | none=>exact (show False from r).elim
  | some _=>rfl
theorem KV.any {kvs:List (κ×V)} {vs:List (κ×Value)} (r:KV kvs vs) (k:κ):(kvs.any fun kv=>decide (kv.1=k))=vs.any fun kv=>decide (kv.1=k):=by
 unfold KV at r
 induction r with
 | nil=>rfl
 | cons h t ih=>rw [List.any_cons,List.any_cons,ih,h.1]
theorem KV.repl {kvs:List (κ×V)} {vs:List (κ×Value)} (r:KV kvs vs) (k:κ) {y:V} {u:Value} (ry:RelV y u) :
  KV (kvs.map fun kv=>if kv.1=k then (kv.1,y) else kv) (vs.map fun kv=>if kv.1=k then (kv.1,u) else kv):=by
 unfold KV at r ⊢
 induction r with
 | nil=>exact .nil
 | @cons p q ps qs h t ih =>
  rw [List.map_cons,List.map_cons]
  refine .cons ?_ ih
  obtain ⟨h1,h2⟩:=h
  by_cases e:p.1=k
  ·rw [if_pos e,if_pos (h1.symm.trans e)]; exact ⟨h1,ry⟩
  ·rw [if_neg e,if_neg (fun z=>e (h1.trans z))]; exact ⟨h1,h2⟩
theorem KV.put {kvs:List (κ×V)} {vs:List (κ×Value)} (r:KV kvs vs) (k:κ) {y:V} {u:Value} (ry:RelV y u):KV (putK kvs k y) (stored vs k u):=by
 unfold putK stored
 rw [r.any k]
 by_cases e:(vs.any fun kv=>decide (kv.1=k))=true
 ·rw [if_pos e,if_pos e]; exact r.repl k ry
 ·rw [if_neg e,if_neg e]; exact Paired.snoc r ⟨rfl,ry⟩
theorem KV.keys {kvs:List (κ×V)} {vs:List (κ×Value)} (r:KV kvs vs):kvs.map (·.1)=vs.map (·.1):=by
 unfold KV at r
 induction r with
 | nil=>rfl
 | cons h t ih=>rw [List.map_cons,List.map_cons,ih,h.1]
theorem KV.length {kvs:List (κ×V)} {vs:List (κ×Value)} (r:KV kvs vs):kvs.length=vs.length:=Paired.length r
end
theorem kV_is {P:Program} {w:World} {k:Key} {u:Value} (r:RelV (kV k) u):(mixKind P w).is k u=true:=by
 cases k with
 | inl i=>obtain ⟨t,e⟩:=(show ∃ t,u=Value.int i t from r); subst e; exact mixKind_int P w i t
 | inr x=>obtain ⟨t,e⟩:=(show ∃ t,u=Value.str x t from r); subst e; exact mixKind_str P w x t
theorem items_are {P:Program} {w:World}:∀ {ks:List Key} {us:List Value},Vals (ks.map kV) us→ItemsAre (mixKind P w) ks us
 | [],_,r=>by rw [List.map_nil] at r; cases r; exact .nil
 | k::ks,_,r=>by
  rw [List.map_cons] at r
  cases r with
  | cons h t=>exact .cons (kV_is h) (items_are t)
noncomputable abbrev KT (H:Hp):List (List Key×V)→List (List Key×Addr×Value)→Prop:=Paired fun p q=>p.1=q.1∧H q.2.1=some (.tup (p.1.map kV))∧RelV p.2 q.2.2
theorem KT.val {H:Hp} {kvs:List (List Key×V)} {xs:List (List Key×Addr×Value)} (r:KT H kvs xs) (k:List Key):RelO (valV kvs k) ((atKey xs k).map (·.2)):=by
 induction r with
 | nil=>exact True.intro
 | @cons p q ps qs h t ih =>
  obtain ⟨h1,_,h2⟩:=h
  by_cases e:p.1=k
  ·have e':q.1=k:=h1.symm.trans e
   have b:atKey (q::qs) k=some q.2:=by simp [atKey,List.find?_cons,e']
   rw [valV_pos e,b]; exact h2
  ·have e':¬ q.1=k:=fun z=>e (h1.trans z)
   have b:atKey (q::qs) k=atKey qs k:=by simp [atKey,List.find?_cons,e']
   rw [valV_neg e,b]; exact ih
theorem KT.repl {H:Hp} {kvs:List (List Key×V)} {xs:List (List Key×Addr×Value)} (r:KT H kvs xs) (k:List Key) {y:V} {u:Value} (ry:RelV y u) :
  KT H (kvs.map fun kv=>if kv.1=k then (kv.1,y) else kv) (xs.map (putAt k u)):=by
 induction r with
 | nil=>exact .nil
 | @cons p q ps qs h t ih =>
  rw [List.map_cons,List.map_cons]
  refine .cons ?_ ih
  obtain ⟨h1,h2,h3⟩:=h
  unfold putAt
  by_cases e:p.1=k
  ·rw [if_pos e,if_pos (h1.symm.trans e)]; exact ⟨h1,h2,ry⟩
  ·rw [if_neg e,if_neg (fun z=>e (h1.trans z))]; exact ⟨h1,h2,h3⟩
theorem KT.put {H:Hp} {kvs:List (List Key×V)} {xs:List (List Key×Addr×Value)} (r:KT H kvs xs) (k:List Key) {b:Addr} {y:V} {u:Value} (hb:H b=some (.tup (k.map kV))) (ry:RelV y u) :
  KT H (putK kvs k y) (storedH xs k b u):=by
 have e:(kvs.any fun kv=>decide (kv.1=k))=(atKey xs k).isSome:=by
  rw [valV_any,(r.val k).isSome_eq,Option.isSome_map]
 unfold putK storedH
 rw [e]
 by_cases q:(atKey xs k).isSome=true
 ·rw [if_pos q,if_pos q]; exact r.repl k ry
 ·rw [if_neg q,if_neg q]; exact Paired.snoc r ⟨rfl,hb,ry⟩
theorem KT.keeps {H H':Hp} {kvs:List (List Key×V)} {xs:List (List Key×Addr×Value)} (r:KT H kvs xs) (ht:∀ b ys,H b=some (.tup ys)→H' b=some (.tup ys)):KT H' kvs xs :=
 Paired.mapP r fun _ _ z=>⟨z.1,ht _ _ z.2.1,z.2.2⟩
section
variable {P:Program} {w:World} {H:Hp} {h:Heap} {a:Addr}
theorem rd_of {u:HO} (ok:HOk P w H h) (e:Rd H a u):ObjOk P w H h a u:=e.ok ok
theorem dk_rd {kvs:List (Key×V)} (ok:HOk P w H h) (e:Rd H a (.dK kvs)):kvs.length ≤ sizeLine∧(a == sysModules)=false∧∃ vs,KV kvs vs∧h.DictOf (mixKind P w) a vs :=
 show ObjOk P w H h a (.dK kvs) from rd_of ok e
theorem dk_of {kvs:List (Key×V)} (ok:HOk P w H h) (e:H a=some (.dK kvs)):kvs.length ≤ sizeLine∧(a == sysModules)=false∧∃ vs,KV kvs vs∧h.DictOf (mixKind P w) a vs:=dk_rd ok (.inl e)
theorem key_of {ks:List Key} (ok:HOk P w H h) (e:H a=some (.tup (ks.map kV))):(tupleKind (mixKind P w)).is h ks a:=by
 obtain ⟨_,its,r,o,h1,h2,n,h3⟩:=(show ObjOk P w H h a (.tup (ks.map kV)) from ok a _ e)
 exact ⟨o,its.toArray,n,h1,h2,h3,by simpa using items_are r⟩
theorem dt_rd {kvs:List (List Key×V)} (ok:HOk P w H h) (e:Rd H a (.dT kvs)):kvs.length ≤ sizeLine∧(a == sysModules)=false ∧
  ∃ xs,KT H kvs xs∧h.DictOfH (tupleKind (mixKind P w)) a xs:=by
 obtain ⟨z,y,xs,r,o,es,ep,h1,h2,h3,h4,h5⟩:=(show ObjOk P w H h a (.dT kvs) from rd_of ok e)
 refine ⟨z,y,xs,r,o,es,ep,h1,h2,h3,h4,fun x hx=>?_,h5⟩
 have all:∀ {l:List (List Key×V)} {m:List (List Key×Addr×Value)},KT H l m→∀ x∈m,(tupleKind (mixKind P w)).is h x.1 x.2.1:=by
  intro l m q
  induction q with
  | nil=>intro x hx; exact nomatch hx
  | @cons p q ps qs hq t ih =>
   intro x hx
   rcases List.mem_cons.mp hx with e|hx
   ·subst e
    exact key_of ok (by rw [← hq.1]; exact hq.2.1)
   ·exact ih x hx
 exact all r x hx
theorem dt_of {kvs:List (List Key×V)} (ok:HOk P w H h) (e:H a=some (.dT kvs)):kvs.length ≤ sizeLine∧(a == sysModules)=false ∧
  ∃ xs,KT H kvs xs∧h.DictOfH (tupleKind (mixKind P w)) a xs:=dt_rd ok (.inl e)
end
noncomputable def DGet (H:Hp) (a:Addr) (y:V) (r:Option V):Prop :=
 (∃ kvs k,Rd H a (.dK kvs)∧y=kV k∧r=valV kvs k)∨∃ kvs k b,Rd H a (.dT kvs)∧y=.ref b∧H b=some (.tup (k.map kV))∧r=valV kvs k
noncomputable def DPut (H:Hp) (a:Addr) (y v:V) (H':Hp):Prop :=
 (∃ kvs k,H a=some (.dK kvs)∧y=kV k∧kvs.length < sizeLine∧H'=upd H a (.dK (putK kvs k v))) ∨
 ∃ kvs k b,H a=some (.dT kvs)∧y=.ref b∧H b=some (.tup (k.map kV))∧kvs.length < sizeLine∧H'=upd H a (.dT (putK kvs k v))
theorem DGet.k {H:Hp} {a:Addr} {kvs:List (Key×V)} {k:Key} (e:H a=some (.dK kvs)):DGet H a (kV k) (valV kvs k):=.inl ⟨kvs,k,.inl e,rfl,rfl⟩
theorem DGet.t {H:Hp} {a b:Addr} {kvs:List (List Key×V)} {k:List Key} (e:H a=some (.dT kvs)) (eb:H b=some (.tup (k.map kV))):DGet H a (.ref b) (valV kvs k):=.inr ⟨kvs,k,b,.inl e,rfl,eb,rfl⟩
theorem DPut.k {H:Hp} {a:Addr} {kvs:List (Key×V)} {k:Key} {v:V} (e:H a=some (.dK kvs)) (hl:kvs.length < sizeLine):DPut H a (kV k) v (upd H a (.dK (putK kvs k v))):=.inl ⟨kvs,k,e,rfl,hl,rfl⟩
theorem DPut.t {H:Hp} {a b:Addr} {kvs:List (List Key×V)} {k:List Key} {v:V} (e:H a=some (.dT kvs)) (eb:H b=some (.tup (k.map kV))) (hl:kvs.length < sizeLine) :
  DPut H a (.ref b) v (upd H a (.dT (putK kvs k v))):=.inr ⟨kvs,k,b,e,rfl,eb,hl,rfl⟩
section
variable {X:Cx} {pins:List (Addr×Obj)} {σ:St} {H:Hp} {s:Shared} {a:Addr} {y v:V} {u r:Value} {o:Option V} {A:Around} {E:Value→Shared→Prop}
theorem Inv.big (I:Inv X pins σ H s):sysModules < s.heap.objs.size:=by
 have h:mainGlobals < s.heap.objs.size:=(I.mod.glob.keeps I.bk).lt
 exact Nat.lt_trans (by decide) h
theorem d_write {h':Heap} {t':Nat} {ob:HO} (I:Inv X pins σ H s) (mu:Mut (H a)) (hs:Heap.SameBut a s.heap h') (he:∃ q,h'.get? a=some q) (new:ObjOk X.prog X.w (upd H a ob) h' a ob) :
  Inv X pins σ (upd H a ob) { s with heap:=h',toks:=t' } :=
 I.write (x:=a) (e:=a) mu (.inl rfl) (fun b q hb z=>(hs.2 b hb).trans z) he new
theorem dk_new {P:Program} {w:World} {H':Hp} {h':Heap} {kvs:List (Key×V)} {vs:List (Key×Value)} (z:kvs.length ≤ sizeLine) (hd:(a == sysModules)=false) (rel:KV kvs vs) (dd:h'.DictOf (mixKind P w) a vs) :
  ObjOk P w H' h' a (.dK kvs):=⟨z,hd,vs,rel,dd⟩
theorem d_setItem {H':Hp} {Q:Unit→Shared→Prop} (hu:A.units+1 < cLine) (I:Inv X pins σ H s) (g:DPut H a y v H') (ry:RelV y u) (rv:RelV v r) (h:∀ s',Inv X pins σ H' s'→Q () s') :
  wpAny (model X.prog X.w) A (setItem (.ref a) u r) Q E s:=by
 rcases g with ⟨kvs,k,e,ey,l,eH⟩|⟨kvs,k,b,e,ey,eb,l,eH⟩
 ·subst ey eH
  obtain ⟨z,hd,vs,rel,dd⟩:=dk_of I.hok e
  have hz:vs.length ≤ sizeLine:=by rw [← rel.length]; exact z
  have hl:(putK kvs k v).length ≤ sizeLine:=by have:=length_putK kvs k v; omega
  refine wpAny_setItem_pairs (hsz:=hz) (kV_is ry) dd fun h' dd' hs=>h _ ?_
  have he:∃ q,h'.get? a=some q:=let ⟨q,_,_,hq,_⟩:=dd'; ⟨q,hq⟩
  exact d_write I (by rw [e]; exact True.intro) hs he (dk_new hl hd (rel.put k rv) dd')
 ·subst ey eH
  cases (show u=Value.ref b from ry)
  obtain ⟨z,hd,xs,rel,dd⟩:=dt_of I.hok e
  have hz:xs.length ≤ sizeLine:=by rw [← Paired.length rel]; exact z
  have hl:(putK kvs k v).length ≤ sizeLine:=by have:=length_putK kvs k v; omega
  refine wpAny_setItem_heap (hsz:=hz) (tupleKind_room_in1 hu) (key_of I.hok eb) dd fun h' dd' hs=>h _ ?_
  obtain ⟨q,es,ep,hq,h2,h3,h4,_,h5⟩:=dd'
  refine d_write I (by rw [e]; exact True.intro) hs ⟨q,hq⟩ ⟨hl,hd,_,(rel.put k eb rv).keeps fun c ys ec=>?_,q,es,ep,hq,h2,h3,h4,h5⟩
  rw [upd_ne (ne_of ec e (fun z=>nomatch z))]
  exact ec
end
section
variable {X:Cx} {pins:List (Addr×Obj)} {σ:St} {H:Hp} {s:Shared} {a:Addr} {kvs:List (Key×V)} {k:Key} {u:Value} {A:Around} {E:Value→Shared→Prop}
end
noncomputable def sDPut (td ty tv:TE):TS:=fun D σ H=>tv σ H fun v H1=>td σ H1 fun x H2=>ty σ H2 fun y H3=>∃ a H4,x=.ref a∧DPut H3 a y v H4∧D.nx σ H4
section
variable {X:Cx} {o i e value:Expr} {pos pos' tpos:Pos} {td ty tv:TE}
theorem ps_dput (hu:X.A.units+1 < cLine) (ho:PE X o td) (hi:PE X i ty) (hv:PE X value tv) (hs:swapsWith value (some (.Subscript o i pos')) pos.line X.env=pure false) :
  PS X (.Assign [.Subscript o i pos'] value pos) (sDPut td ty tv):=by
 intro pins s σ H D I h
 refine wpAny_Assign_Subscript (thn (hv pins s σ H _ I h) fun r s1 ⟨v,H1,I1,rv,q1⟩=>thn (ho pins s1 σ H1 _ I1 q1) fun u s2 ⟨x,H2,I2,rx,q2⟩=>thn (hi pins s2 σ H2 _ I2 q2) fun iv s3 ⟨y,H3,I3,ry,a,H4,ex,g,q3⟩=>?_) hs
 subst ex
 obtain rfl:u=Value.ref a:=rx
 exact d_setItem hu I3 g ry rv fun s4 I4=>⟨σ,H4,I4,q3⟩
end
theorem dt_empty {P:Program} {w:World} {H:Hp} (h:Heap) (hb:sysModules < h.objs.size):ObjOk P w H (h.push { cls:=.type "dict",data:=.dict #[] }) h.objs.size (.dT []) :=
 ⟨Nat.zero_le _,beq_eq_false_iff_ne.mpr (Ne.symm (Nat.ne_of_lt hb)),[],.nil,_,#[],0,Heap.get?_push_size _ rfl,⟨rfl,rfl,rfl⟩,rfl,rfl,List.nodup_nil⟩
noncomputable def tDNewT:TE:=fun _ H Q=>∀ p,H p=none→Q (.ref p) (upd H p (.dT []))
section
variable {X:Cx} {pos:Pos}
theorem pe_dnewT:PE X (.Dict [] [] pos) tDNewT:=fun pins s σ H Q I h =>
 wpAny_Dict_empty ⟨.ref s.heap.objs.size,_,I.laid (a:=s.heap.objs.size) (o:=.dT []) (t':=s.toks) (fun _ _ q=>Heap.get?_push_of_some _ q) (Nat.le_refl _) (dt_empty s.heap I.big),rfl,h _ (I.hok.fresh (Nat.le_refl _))⟩
end
section
variable {X:Cx} {pins:List (Addr×Obj)} {σ:St} {H:Hp} {s:Shared} {a:Addr} {y d:V} {u r:Value} {o:Option V} {A:Around} {E:Value→Shared→Prop}
end
section
variable {X:Cx} {o e f:Expr} {apos cpos:Pos} {td ty tx:TE}
end
section
variable {X:Cx} {pins:List (Addr×Obj)} {σ:St} {H:Hp} {s:Shared} {a:Addr} {kvs:List (Key×V)} {A:Around} {E:Value→Shared→Prop}
end
section
variable {X:Cx} {pins:List (Addr×Obj)} {σ:St} {H:Hp} {s:Shared} {a:Addr} {y:V} {u:Value} {A:Around} {E:Value→Shared→Prop}
end
end L2
namespace Att
open PySem PySem.W PySem.Calls PyProof.Rows
theorem ints_of_wellAll {P:Params} {h:Heap}:∀ (ns:List Int) (vs:List Value),WellAll P h vs (ns.map WData.int)→IntsAre vs ns:=by
 intro ns
 induction ns with
 | nil =>
  intro vs w
  rw [List.map_nil] at w
  cases w
  exact .nil
 | cons n ns ih =>
  intro vs w
  rw [List.map_cons] at w
  cases w with
  | cons a b =>
   cases a
   exact .cons _ _ (ih _ b)
theorem script_of {l:OpenLaw} {n:Nat} (hn:l.most=some n) {P:Params} {h:Heap} {args:List WData} {vals:List Value}
  (hpre:l.row.toRowW.claim.pre args=true) (hwl:WellAll P h vals args) :
  ∃ a vs ns,vals=[Value.ref a]∧args=[WData.list (ns.map WData.int)]∧h.get? a=some { cls:=.type "list",data:=.seq vs.toArray }∧IntsAre vs ns∧ns.length ≤ n:=by
 have hsh:WShape.hasAll [] args [.list .int]=true:=(pre_splitW hpre).1
 have hc:l.pre.holds [] { args:=args }=true:=(pre_splitW hpre).2
 obtain ⟨d,r,rfl,h1,h2⟩:=hasAllW_cons hsh
 obtain rfl:=hasAllW_nil h2
 obtain ⟨xs,rfl,h3⟩:=hasW_list h1
 obtain ⟨ns,rfl⟩:=items_int h3
 have hlen:ns.length ≤ n:=by
  unfold OpenLaw.pre at hc
  have h4:(WTm.not (.lt (.lit (.int (n:Int))) (.len (.arg 0)))).holds [] { args:=[.list (ns.map .int)] }=true:=by
   have h4:=(holds_andW hc).1
   rw [hn] at h4
   exact h4
  have h5:=condW_of h4 (w_not (w_lt w_lit (w_len_list (w_arg rfl))))
  rw [List.length_map] at h5
  refine Nat.le_of_not_lt fun q=>?_
  have q':(n:Int) < ((ns.length:Nat):Int):=by omega
  first
   | (rw [decide_eq_true q'] at h5; exact absurd h5 (by decide))
   | (simp at h5; omega)
 cases hwl with
 | cons w1 w2 =>
  cases w2
  cases w1 with
  | list ho hall=>exact ⟨_,_,ns,rfl,rfl,ho,ints_of_wellAll ns _ hall,hlen⟩
theorem post_true (l:OpenLaw) (args:List WData):l.row.toRowW.claim.post args (.bool true) args=true :=
 postW_of (r:=l.row.toRowW) (X:=(true == true))
  (show WShape.has [] (.bool true) .bool=true by first|rfl|decide|simp [WShape.has,WShape.arms,WShape.armsAll])
  (show (WTm.eq .res (.lit (.bool true))).value [] { args:=args,res:=some (.bool true),after:=args }=some (.bool (true == true)) from w_eq_bool (w_res rfl) w_lit) rfl
theorem attach_call {l:OpenLaw} {n:Nat} {q:Program} {loose:List Str} {XP:(Str→Option Value)→Heap→Prop} {YP:World→Heap→Prop} {d:DefRec}
  (hn:l.most=some n) (hdf:d.params.defaults=[])
  (call:∀ (w:World) (s₀ s₁:Shared) (mg mb:Str→Option Value) (fa:Addr) (o:Obj) (pm cd doc:Value) (a:Addr) (vs:List Value) (ns:List Int),
   Ground q loose [] XP w s₀ mg mb s₁.heap→YP w s₁.heap →
   s₁.heap.get? fa=some o→o.data=.func (docDef d.name d.params d.body d.scope pm cd doc)→s₁.heap.CodeRec cd d.name→mg d.name=some (.ref fa) →
   s₁.heap.get? a=some { cls:=.type "list",data:=.seq vs.toArray }→IntsAre vs ns→ns.length ≤ n→s₁.gens=#[] →
   codeAny (model l.prog w) callerA (.call (.ref fa) ⟨[.ref a],[]⟩) (fun r s'=>r=.ok (.ret (.bool true))∧OldK s₁.heap s'.heap∧s'.os=s₁.os∧AllBare s'.gens) s₁) :
  WalkO q loose XP YP l.row.toRowW d [] (fun f vs=>PySem.call f vs):=by
 intro w s₀ s₁ mg mb G Y fa o pm cd doc dV kV ho hd hcd hD hmg hg args vals as hpre hlay hrd hwl hlo
 obtain rfl:dV=.none:=Dflts.none hD hdf
 obtain rfl:kV=.none:=Dflts.noKw hD
 obtain ⟨a,vs,ns,rfl,rfl,hobj,hints,hlen⟩:=script_of hn hpre hwl
 refine enter_call (codeAny_mono (call w s₀ s₁ mg mb fa o pm cd doc a vs ns G Y ho (fd_plain hd) hcd hmg hobj hints hlen hg) fun r s' hq=>?_)
 obtain ⟨rfl,h2,h3,h4⟩:=hq
 exact ⟨.inl ⟨.bool true,.bool true,[],rfl,fun _=>rfl,.bool true,post_true l _,fun _=>⟨List.Pairwise.nil,fun _ hm=>(nomatch hm)⟩⟩,h2,h3,h4⟩
section
variable {prog:Program} {w:World} {A:Around} {E:Value→Shared→Prop} {s:Shared} {K:Frag}
noncomputable def ledger (h:Heap) (L d:Addr):List (Addr×Obj):=(List.range h.objs.size).filterMap fun a=>if a=L∨a=d then none else (h.get? a).map fun o=>(a,o)
end
end Att
namespace L2
open PySem PySem.Spec PyProof.Rows
theorem vals_ints:∀ {vs:List Value} {ns:List Int},IntsAre vs ns→Vals (ns.map V.int) vs
 | _,_,.nil=>.nil
 | _,_,.cons n t h=>.cons ⟨t,rfl⟩ (vals_ints h)
noncomputable def Only (H:Hp):Prop:=∀ b,H b=none∨∃ o xs,H b=some (.frz o (.lst xs))
theorem law_call {P:Program} {w:World} {K:PySem.W.Frag} {mg mb:Str→Option Value} {CX:CXT} {k:Nat} {fa a:Addr} {fd:FuncData} {x:Str} {sp:Sp} {s₁:Shared} {vs:List Value} {ns:List Int}
  (KX:K.In s₁.heap) (hns:s₁.heap.Ns mainGlobals mg) (hb:s₁.heap.Ns builtinsNs mb) (hbb:∀ x:Str,x≠"__name__"→mb x=bootBuiltins x) (hlim:s₁.heap.NoLimit) (hg:s₁.gens=#[])
  (ha:s₁.heap.get? a=some { cls:=.type "list",data:=.seq vs.toArray }) (hi:IntsAre vs ns) (hl:ns.length ≤ sizeLine) (hr:Room k callerA)
  (F:∀ base:Heap,K.In base→base.Ns mainGlobals mg→FnOk P w K mg base CX k fa fd [x] sp) (hbind:∀ (s:Shared) (u:Value),BindsTo s fd ⟨[u],[]⟩ [(x,u)])
  (hsp:∀ H:Hp,Only H→SqL K H a (ns.map V.int)→sp [.ref a] H (fun v _=>v=.bl true) fun _ _ _=>False)
  (hCX:∀ H e s',CX [] H s₁ (fun _ _ _=>False) e s'→False) :
  codeAny (model P w) callerA (.call (.ref fa) ⟨[.ref a],[]⟩) (fun r s'=>r=.ok (.ret (.bool true))∧OldK s₁.heap s'.heap∧s'.os=s₁.os∧AllBare s'.gens) s₁:=by
 have rv:=vals_ints hi
 have lenV:=hi.length
 -- from an abstract heap in which nothing but the script may be tracked
 have core:∀ H:Hp,Only H→SqL K H a (ns.map V.int)→HOk P w H s₁.heap→(∀ b,H b≠none→b=a)→(H a≠none→K.lookup a=none) →
   codeAny (model P w) callerA (.call (.ref fa) ⟨[.ref a],[]⟩) (fun r s'=>r=.ok (.ret (.bool true))∧OldK s₁.heap s'.heap∧s'.os=s₁.os∧AllBare s'.gens) s₁:=by
  intro H hO hS hok hA hK
  have base_of:∀ {b:Addr} {o:Obj},s₁.heap.get? b=some o→H b=none→(hidT s₁.heap H).get? b=some o:=fun e n=>hidT_get e n
  have noA:∀ {b:Addr} {o:Obj} {es:Array DictEntry} {ep:Nat},s₁.heap.get? b=some o→o.data=.dict es ep→H b=none:=fun {b o es ep} e d=>by
   cases q:H b with
   | none=>rfl
   | some u =>
    have e':b=a:=hA b (by rw [q]; simp)
    subst e'
    rw [ha] at e; cases e
    have d':Data.seq vs.toArray _=Data.dict es ep:=d
    cases d'
  have nsK:∀ {b:Addr} {m:Str→Option Value},s₁.heap.Ns b m→(hidT s₁.heap H).Ns b m:=fun {b m} ⟨o,es,ep,e,d,r⟩=>⟨o,es,ep,base_of e (noA e d),d,r⟩
  have hKb:K.In (hidT s₁.heap H):=fun b o e=>base_of (KX b o e) (by
   cases q:H b with
   | none=>rfl
   | some u =>
    have e':b=a:=hA b (by rw [q]; simp)
    subst e'
    rw [hK (by rw [q]; simp)] at e; cases e)
  have hM:Mod K mg (hidT s₁.heap H):=⟨hKb,nsK hns,⟨mb,nsK hb,hbb⟩,let ⟨mc,h1,h2⟩:=hlim; ⟨mc,nsK h1,h2⟩⟩
  have e0:Env0 P w K mg (hidT s₁.heap H) callerA [] s₁ H:=⟨rfl,hM,fun b o e=>of_hidT e,Nat.le_of_eq (hidT_size _ _),trivial,fun b hb=>absurd (show b∈([]:List Addr) from hb) (by simp),hok,.of_eq hg⟩
  refine codeAny_mono ((F _ hKb (nsK hns)).run callerA [] s₁ H ⟨[.ref a],[]⟩ [.ref a] [.ref a] _ _ hr e0 (hbind s₁ (.ref a)) (.cons rfl .nil) (hsp H hO hS)) fun r s' h=>?_
  cases r with
  | error e=>exact (hCX H e s' h).elim
  | ok fl =>
   cases fl with
   | next=>exact False.elim h
   | brk=>exact False.elim h
   | cont=>exact False.elim h
   | ret u =>
    obtain ⟨v,H',os,bare,un,hok',r',q⟩:=h
    have q':v=.bl true:=q
    subst q'
    obtain rfl:u=Value.bool true:=r'
    refine ⟨rfl,OldK.of_keep fun b o e=>?_,os,bare⟩
    cases q:H b with
    | none=>exact un.keep b o e q (by intro z; exact absurd (show b∈([]:List Addr) from z) (by simp)) (by simp)
    | some u =>
     rcases hO b with z|⟨ob,xs,z⟩
     ·rw [q] at z; cases z
     ·have z2:=un.frzs b ob _ z
      obtain ⟨e1,_⟩:=hok b _ z
      obtain ⟨e2,_⟩:=hok' b _ z2
      rw [e] at e1; cases e1
      exact e2
 cases hk:K.lookup a with
 | some o =>
  -- the script is one of the module's own objects
  have e:=KX a o hk
  rw [ha] at e
  cases e
  refine core (fun _=>none) (fun _=>.inl rfl) (.inr ⟨_,vs.toArray,_,hk,rfl,rfl,rfl,by rw [List.size_toArray,lenV]; exact hl,by simpa using rv⟩) (fun b u z=>by have z':(none:Option HO)=some u:=z; cases z') (fun b z=>absurd rfl z) fun z=>absurd rfl z
 | none =>
  refine core (fun b=>if b=a then some (.frz { cls:=.type "list",data:=.seq vs.toArray } (.lst (ns.map V.int))) else none) (fun b=>?_) (.inl (.inr ⟨{ cls:=.type "list",data:=.seq vs.toArray },if_pos rfl⟩)) (fun b u z=>?_) (fun b z=>?_) fun _=>hk
  ·by_cases hb:b=a
   ·exact .inr ⟨_,_,if_pos hb⟩
   ·exact .inl (if_neg hb)
  ·by_cases hb:b=a
   ·have z':=(if_pos hb).symm.trans z
    cases z'
    subst hb
    exact ⟨ha,by rw [List.length_map]; exact hl,vs,_,rv,ha⟩
   ·have z':=(if_neg hb).symm.trans z
    cases z'
  ·by_cases hb:b=a
   ·exact hb
   ·exact absurd (if_neg hb) z
end L2
namespace L2
open PySem PySem.Spec PyProof.Rows
noncomputable abbrev KOf {K:PySem.W.Frag} {h:Heap} (_:K.In h):PySem.W.Frag:=K
theorem walk_of {l:PySem.W.OpenLaw} {n k:Nat} {q:Program} {loose:List Str} {XP:(Str→Option Value)→Heap→Prop} {YP:World→Heap→Prop} {d:DefRec} {K:Params→PySem.W.Frag} {CX:World→CXT} {sp:World→Sp} {x:Str}
  (hn:l.most=some n) (hn2:n ≤ sizeLine) (hdf:d.params.defaults=[]) (hr:Room k callerA)
  (hY:∀ (w:World) (h:Heap),YP w h→(K w.params).In h)
  (F:∀ (w:World) (mg:Str→Option Value) (fa:Addr) (h:Heap),(K w.params).In h→h.Ns mainGlobals mg→mg d.name=some (.ref fa) →
   ∃ fd:FuncData,(∀ (s:Shared) (u:Value),BindsTo s fd ⟨[u],[]⟩ [(x,u)]) ∧
    ∀ base:Heap,(K w.params).In base→base.Ns mainGlobals mg→FnOk l.prog w (K w.params) mg base (CX w) k fa fd [x] (sp w))
  (hsp:∀ (w:World) (H:Hp) (a:Addr) (ns:List Int),ns.length ≤ n→Only H→SqL (K w.params) H a (ns.map V.int)→sp w [.ref a] H (fun v _=>v=.bl true) fun _ _ _=>False)
  (hCX:∀ (w:World) (H:Hp) (s:Shared) (e:Value) (s':Shared),CX w [] H s (fun _ _ _=>False) e s'→False) :
  PySem.W.WalkO q loose XP YP l.row.toRowW d [] (fun f vs=>PySem.call f vs):=by
 refine Att.attach_call hn hdf fun w s₀ s₁ mg mb fa o pm cd doc a vs ns G Y ho hd hcd hmg hobj hints hlen hg=>?_
 have KX:=hY w _ Y
 obtain ⟨fd,hb,hF⟩:=F w mg fa _ KX G.T.g hmg
 exact law_call KX G.T.g G.T.b G.T.builtins G.T.nolimit hg hobj hints (Nat.le_trans hlen hn2) hr hF hb (fun H hO hS=>hsp w H a ns hlen hO hS) fun H e s'=>hCX w H s₁ e s'
end L2
/- THE LAST THEOREM (shape; LID,My.* are yours):
   My.Adr: a structure of the addresses that your layer names (classes,functions); My.Txt K t: a structure (Prop) of the equations over K;
   My.txt_mk:{K} {implicit addresses ..} (e1:nsIn K mainGlobals "law"=some (some (.ref f))) (e2:K.lookup f=some ⟨oc,od,.func (fnOf "law" "law" params body scope dV kV doc pm an cdv ct),sl⟩) (e3:codeIn K cdv "law"=true) ..:∃ t,My.Txt K t
set_option maxRecDepth 100000 in
set_option maxHeartbeats 0 in
theorem PySem.Challenge.cw_LID_holds : PySem.Challenge.rw_LID.Holds := by
 w_on; o_law; k_head; (case hw=>w_witness2)
 k_fill
 refine L2.walk_of (l:=PySem.Challenge.rw_LID) (n:=63) (k:=40) (x:="script") (CX:=fun w=>..) (sp:=fun _=>My.sp_law) rfl (by decide) rfl ⟨rfl,by decide,by decide⟩ (fun w h Y=>PySem.W.kIn_of Y) ?F ?S ?C
 case F =>
  intro w mg fa h KX G hmg
  have T:∃ t,My.Txt (L2.KOf KX) t:=by
   dsimp only [L2.KOf]                          -- K must stand as «<heap const> w.params» for k_is
   refine' My.txt_mk ?e1 ?e2 ?e3 ..
   (case e1=>PySem.W.k_is)                    -- in the order: a name -> its address -> its object -> its parts
   (case e2=>PySem.W.k_is)
   ..
  obtain ⟨t,T⟩:=T
  have e0:=hmg.symm.trans (PySem.W.mg_of KX G T.law)
  cases e0                                       -- fa is the law's own address
  exact ⟨_,fun s u=>.of_eq rfl,fun base kb nb=>My.law_fn T kb nb⟩     -- if «.of_eq rfl» comes too early: refine' ⟨_,?b,fun base kb nb=>My.law_fn T kb nb⟩; exact fun s u=>.of_eq rfl
 case S=>exact fun w H a ns hl hO hS=>..
 case C=>exact ..
(the tactic k_is has no namespace: write k_is) -/
namespace L2
open PySem PySem.Spec PyProof.Rows
noncomputable def defArgs (s:Stmt):Arguments:=match s with
 | .FunctionDef _ a _ _ _ _ _ _ _ _=>a
 | _=>{ posonlyargs:=[],args:=[],vararg:=none,kwonlyargs:=[],kw_defaults:=[],kwarg:=none,defaults:=[] }
noncomputable def defBody (s:Stmt):List Stmt:=match s with
 | .FunctionDef _ _ b _ _ _ _ _ _ _=>b
 | _=>[]
noncomputable def defScope (s:Stmt):Scope:=match s with
 | .FunctionDef _ _ _ _ _ _ sc _ _ _=>sc
 | _=>{ kind:=.function,names:=[],isGenerator:=false,isCoroutine:=false }
noncomputable abbrev CX0:CXT:=fun _ _ _ _ _ _=>False
noncomputable abbrev E0:XK:=fun _ _ _=>False
theorem pass0 {X:Cx}:Passes CX0 X E0:=fun _ _ _ _ _ _ _ h=>h.elim
structure Fun (K:PySem.W.Frag) (x qual:Str) (st:Stmt) (f:Addr) (fd:FuncData):Prop where
 ex:∃ (oc:Value) (od:Option Addr) (kV doc pm:Value) (an:Option Addr) (cdv ct:Value) (osl:Array (Option Value)),
  fd=PySem.W.fnOf x qual (defArgs st) (defBody st) (defScope st) .none kV doc pm an cdv ct∧K.lookup f=some ⟨oc,od,.func fd,osl⟩∧PySem.W.codeIn K cdv qual=true
 kp:PySem.W.keepIn K (.ref f)=true
section
variable {P:Program} {w:World} {K:PySem.W.Frag} {mg:Str→Option Value} {base:Heap}
theorem Fun.ok {x qual:Str} {st:Stmt} {f:Addr} {fd:FuncData} {N ps:List Str} {k:Nat} {sp:Sp} (F:Fun K x qual st f fd) (S:FnScope N ps (defScope st)) (len:∀ vs H Q E,sp vs H Q E→vs.length=ps.length)
  (hbody:∀ (cdv:Value) (A:Around) (outer:List Env) (s:Shared) (H:Hp) (vs:List V) (Q:VK) (E:XK),Room k (A.deeper (envOfC qual (defScope st) s.heap.objs.size f cdv))→sp vs H Q E →
   ∃ t,PSs (cxOf CX0 P w K mg base N qual (defScope st) f cdv A outer s H E).nox (defBody st) t∧t { nx:=fun _ H'=>Q .non H',rt:=Q } (start N vs) H):FnOk P w K mg base CX0 (k+1) f fd ps sp:=by
 obtain ⟨oc,od,kV,doc,pm,an,cdv,ct,osl,rfl,lk,hcd⟩:=F.ex
 refine fn_of lk hcd S len fun A outer s H vs Q E hr hsp=>?_
 obtain ⟨t,h,q⟩:=hbody cdv A outer s H vs Q E hr hsp
 exact ⟨t,h.nox,q⟩
theorem Fun.binds {x qual:Str} {st:Stmt} {f:Addr} {fd:FuncData} {ps:List Str} (F:Fun K x qual st f fd)
  (h:∀ (kV doc pm:Value) (an:Option Addr) (cdv ct:Value) (us:List Value),us.length=ps.length→bindArgs (PySem.W.fnOf x qual (defArgs st) (defBody st) (defScope st) .none kV doc pm an cdv ct) ⟨us,[]⟩=pure (ps.zip us)):Binds K fd ps []:=by
 obtain ⟨oc,od,kV,doc,pm,an,cdv,ct,osl,rfl,lk,hcd⟩:=F.ex
 exact .all (h kV doc pm an cdv ct)
theorem fun_mk {x qual:Str} {st:Stmt} {f:Addr} {oc:Value} {od an:Option Addr} {osl:Array (Option Value)} {kV doc pm cdv ct:Value} (l:K.lookup f=some ⟨oc,od,.func (PySem.W.fnOf x qual (defArgs st) (defBody st) (defScope st) .none kV doc pm an cdv ct),osl⟩)
  (c:PySem.W.codeIn K cdv qual=true) (k:PySem.W.keepIn K (.ref f)=true):Fun K x qual st f (PySem.W.fnOf x qual (defArgs st) (defBody st) (defScope st) .none kV doc pm an cdv ct):=⟨⟨oc,od,kV,doc,pm,an,cdv,ct,osl,rfl,l,c⟩,k⟩
end
section
variable {X:Cx}
theorem pv (i:Nat) {x:Str} {pos:Pos} (hN:X.N[i]?=some x:=by rfl) (hv:Vis X.env.scope x:=by trivial) (hd:(x == ("__debug__":Str))=false:=by decide)
  (hcd:(x == ("__classdict__":Str))=false:=by decide):PE X (.Name x pos) (tVar i):=pe_var hN hv hd hcd
end
noncomputable def Same (H H':Hp):Prop:=∀ b o,H b=some o→H' b=some o
theorem Same.refl (H:Hp):Same H H:=fun _ _ h=>h
section
variable {κ:Type} [DecidableEq κ]
end
end L2
set_option Elab.async false
set_option linter.all false
set_option maxRecDepth 100000
set_option maxHeartbeats 4000000
namespace L3
open PySem
inductive D where
 | non|bl (b:Bool)|int (i:Int)|str (x:Str)|tup (xs:List D)|lst (xs:List D)
 | dK (kvs:List (Sum Int Str×D))|dT (kvs:List (List (Sum Int Str)×D))|xc (cls:Str) (fs:List (Str×D))
 deriving Inhabited
inductive En where
 | fz (d:D)|ow (d:D)|br (d:D)|lk (d:D)|od (d:D)
 deriving Inhabited
@[reducible] def En.d:En→D
 | .fz d=>d|.ow d=>d|.br d=>d|.lk d=>d|.od _=>.xc "" []
structure Xc where
 cls:Str
 fs:List (Str×D)
inductive R (α:Type) where
 | ok (a:α)|exc (x:Xc)|stuck
@[reducible] def R.bind {α β:Type} (r:R α) (f:α→R β):R β:=match r with
 | .ok a=>f a|.exc x=>.exc x|.stuck=>.stuck
@[simp] theorem R.bind_ok {α β:Type} (a:α) (f:α→R β):(R.ok a).bind f=f a:=rfl
@[simp] theorem R.bind_exc {α β:Type} (x:Xc) (f:α→R β):(R.exc x:R α).bind f=.exc x:=rfl
@[simp] theorem R.bind_stuck {α β:Type} (f:α→R β):(R.stuck:R α).bind f=.stuck:=rfl
noncomputable abbrev Rho:=List (Option En)
noncomputable abbrev EF:=Rho→R En
noncomputable abbrev TF:=Rho→R Bool
inductive Out where
 | nx (ρ:Rho)|rt (w:En)|bk (ρ:Rho)|ct (ρ:Rho)|exc (x:Xc)|stuck
noncomputable abbrev SF:=Rho→Out
noncomputable abbrev Den:=List En→R En
@[reducible] def En.st:En→R D
 | .fz d=>.ok d|.ow d=>.ok d|_=>.stuck
@[reducible] def En.arg:En→R En
 | .fz d=>.ok (.fz d)|.ow d=>.ok (.fz d)|.br d=>.ok (.br d)|.lk _=>.stuck|.od (.dK kds)=>.ok (.fz (.lst (kds.map Prod.snd)))|.od _=>.stuck
@[reducible] def En.nm:En→R En
 | .fz d=>.ok (.fz d)|.ow d=>.ok (.ow d)|_=>.stuck
noncomputable def stAll:List En→R (List D)
 | []=>.ok []
 | x::r=>x.st.bind fun d=>(stAll r).bind fun ds=>.ok (d::ds)
noncomputable def argAll:List En→R (List En)
 | []=>.ok []
 | x::r=>x.arg.bind fun d=>(argAll r).bind fun ds=>.ok (d::ds)
noncomputable def eVar (i:Nat):EF:=fun ρ=>match ρ[i]? with
 | some (some (.fz d))=>.ok (.fz d)
 | some (some (.ow d))=>.ok (.br d)
 | some (some (.br d))=>.ok (.br d)
 | some (some (.lk d))=>.ok (.fz d)
 | _=>.stuck
noncomputable def eC (d:D):EF:=fun _=>.ok (.fz d)
noncomputable def eOp (g:D→D→R En) (a b:EF):EF:=fun ρ=>(a ρ).bind fun x=>(b ρ).bind fun y=>g x.d y.d
noncomputable def eUn (g:D→R En) (a:EF):EF:=fun ρ=>(a ρ).bind fun x=>g x.d
noncomputable def evs:List EF→Rho→R (List En)
 | [],_=>.ok []
 | a::r,ρ=>(a ρ).bind fun x=>(evs r ρ).bind fun xs=>.ok (x::xs)
noncomputable def sz:Nat:=16777216
noncomputable def eLst (a:List EF):EF:=fun ρ=>(evs a ρ).bind fun xs=>(stAll xs).bind fun ds=>if ds.length ≤ sz then .ok (.ow (.lst ds)) else .stuck
noncomputable def eTup (a:List EF):EF:=fun ρ=>(evs a ρ).bind fun xs=>(stAll xs).bind fun ds=>if ds.length ≤ sz then .ok (.fz (.tup ds)) else .stuck
noncomputable def eCall (den:Den) (a:List EF):EF:=fun ρ=>(evs a ρ).bind fun xs=>(argAll xs).bind fun ys=>den ys
noncomputable def eB (g:List D→R En) (a:List EF):EF:=fun ρ=>(evs a ρ).bind fun xs=>g (xs.map En.d)
@[reducible] def okI (i:Int):R En:=.ok (.fz (.int i))
@[reducible] def okB (b:Bool):R En:=.ok (.fz (.bl b))
noncomputable def dSub:D→D→R En
 | .int i,.int j=>okI (i - j)
 | _,_=>.stuck
noncomputable def fits (b:Nat):Int→Bool
 | .ofNat n=>Nat.ble n b
 | .negSucc n=>Nat.ble n b
theorem fits_iff {b:Nat} {i:Int}:fits b i=true ↔ -((b:Int)+1) ≤ i∧i ≤ b:=by
 cases i with
 | ofNat n =>
  show Nat.ble n b=true ↔ _
  rw [Nat.ble_eq]
  simp only [Int.ofNat_eq_natCast]
  (first|lia|omega)
 | negSucc n =>
  show Nat.ble n b=true ↔ _
  rw [Nat.ble_eq]
  (first|lia|omega)
noncomputable abbrev b64:Nat:=18446744073709551614
noncomputable abbrev b62:Nat:=4611686018427387903
theorem b64e:((b64:Nat):Int)=18446744073709551614:=rfl
theorem b62e:((b62:Nat):Int)=4611686018427387903:=rfl
noncomputable def dMul:D→D→R En
 | .int i,.int j=>if (fits b64 i || fits b64 j)=true then okI (i * j) else .stuck
 | _,_=>.stuck
noncomputable def dMod:D→D→R En
 | .int i,.int j=>if 0 < j then okI (i % j) else .stuck
 | _,_=>.stuck
noncomputable def dDiv:D→D→R En
 | .int i,.int j=>if 0 < j∧j < 1073741824 then okI (i / j) else .stuck
 | _,_=>.stuck
noncomputable def dLt:D→D→R En
 | .int i,.int j=>okB (decide (i < j))
 | _,_=>.stuck
noncomputable def dLe:D→D→R En
 | .int i,.int j=>okB (decide (i ≤ j))
 | _,_=>.stuck
noncomputable def dGt:D→D→R En
 | .int i,.int j=>okB (decide (j < i))
 | _,_=>.stuck
noncomputable def dGe:D→D→R En
 | .int i,.int j=>okB (decide (j ≤ i))
 | _,_=>.stuck
noncomputable def b2i (b:Bool):Int:=if b then 1 else 0
mutual
noncomputable def deq:D→D→Bool
 | .non,.non=>true
 | .bl a,.bl b=>a == b
 | .bl a,.int b=>b2i a == b
 | .int a,.bl b=>a == b2i b
 | .int a,.int b=>a == b
 | .str a,.str b=>a == b
 | .tup a,.tup b=>deqs a b
 | .lst a,.lst b=>deqs a b
 | _,_=>false
noncomputable def deqs:List D→List D→Bool
 | [],[]=>true
 | x::xs,y::ys=>deq x y && deqs xs ys
 | _,_=>false
end
noncomputable def eqokN:Nat→D→Bool
 | _,.non=>true|_,.bl _=>true|_,.int _=>true|_,.str x=>PyData.strOk x
 | n+1,.tup a=>a.all (eqokN n)
 | n+1,.lst a=>a.all (eqokN n)
 | _,_=>false
noncomputable def eqok (d:D):Bool:=eqokN 8 d
noncomputable def dEq (a b:D):R En:=if eqok a && eqok b then okB (deq a b) else .stuck
noncomputable def dNe (a b:D):R En:=if eqok a && eqok b then okB (!deq a b) else .stuck
noncomputable def ixn (n:Nat) (i:Int):Option Nat:=if 0 ≤ i then (if i < n then some i.toNat else none) else if -(n:Int) ≤ i then some (i+n).toNat else none
noncomputable def ati {α:Type} (xs:List α) (i:Int):Option α:=(ixn xs.length i).bind fun j=>xs[j]?
noncomputable def keyOf:D→Option (Sum Int Str)
 | .int i=>some (.inl i)
 | .str x=>some (.inr x)
 | _=>none
noncomputable def keysOf:List D→Option (List (Sum Int Str))
 | []=>some []
 | x::r=>(keyOf x).bind fun k=>(keysOf r).map fun ks=>k::ks
noncomputable def look {κ:Type} [DecidableEq κ] (k:κ):List (κ×D)→Option D
 | []=>none
 | (x,d)::r=>if x=k then some d else look k r
noncomputable def okD (o:Option D):R En:=match o with
 | some d=>.ok (.fz d)
 | none=>.stuck
noncomputable def dList:List D→R En
 | [.lst xs]=>.ok (.ow (.lst xs))
 | [.tup xs]=>.ok (.ow (.lst xs))
 | _=>.stuck
noncomputable def dTuple:List D→R En
 | [.lst xs]=>.ok (.fz (.tup xs))
 | [.tup xs]=>.ok (.fz (.tup xs))
 | _=>.stuck
noncomputable def dMin2:List D→R En
 | [.int i,.int j]=>okI (if j < i then j else i)
 | _=>.stuck
inductive Ty|int|bool|str|list|tuple|dict
noncomputable def tyIs:D→Ty→Bool
 | .int _,.int=>true|.bl _,.int=>true|.bl _,.bool=>true|.str _,.str=>true
 | .lst _,.list=>true|.tup _,.tuple=>true|.dK _,.dict=>true|.dT _,.dict=>true
 | _,_=>false
noncomputable def dIs (t:Ty):D→R En
 | .xc _ _=>.stuck
 | d=>okB (tyIs d t)
noncomputable def truth:D→R Bool
 | .non=>.ok false|.bl b=>.ok b|.int i=>.ok (i != 0)|.str x=>if x.length ≤ sz then .ok ((x.length:Int) != 0) else .stuck
 | .lst xs=>.ok (!xs.isEmpty)|.tup xs=>.ok (!xs.isEmpty)|_=>.stuck
noncomputable def tE (e:EF):TF:=fun ρ=>(e ρ).bind fun x=>truth x.d
noncomputable def tNot (t:TF):TF:=fun ρ=>(t ρ).bind fun b=>.ok (!b)
noncomputable def tAnd (t u:TF):TF:=fun ρ=>(t ρ).bind fun b=>if b=true then u ρ else .ok false
noncomputable def tOr (t u:TF):TF:=fun ρ=>(t ρ).bind fun b=>if b=true then .ok true else u ρ
noncomputable def isB:D→R Bool
 | .bl b=>.ok b
 | _=>.stuck
noncomputable def eNot (e:EF):EF:=fun ρ=>(e ρ).bind fun x=>(isB x.d).bind fun b=>okB (!b)
noncomputable def eAnd (a b:EF):EF:=fun ρ=>(a ρ).bind fun x=>(isB x.d).bind fun c=>if c=true then b ρ else okB false
noncomputable def eOr (a b:EF):EF:=fun ρ=>(a ρ).bind fun x=>(isB x.d).bind fun c=>if c=true then okB true else b ρ
noncomputable def eIf (t:TF) (a b:EF):EF:=fun ρ=>(t ρ).bind fun c=>if c=true then a ρ else b ρ
noncomputable def sNext:SF:=fun ρ=>.nx ρ
noncomputable def sSeq (a b:SF):SF:=fun ρ=>match a ρ with
 | .nx ρ'=>b ρ'
 | o=>o
noncomputable def sOf {α:Type} (r:R α) (k:α→Out):Out:=match r with
 | .ok a=>k a|.exc _=>.stuck|.stuck=>.stuck
noncomputable def sSet (i:Nat) (e:EF):SF:=fun ρ=>sOf ((e ρ).bind En.nm) fun w=>.nx (ρ.set i (some w))
noncomputable def sRet (e:EF):SF:=fun ρ=>sOf ((e ρ).bind En.nm) .rt
noncomputable def sRetV (i:Nat):SF:=fun ρ=>match ρ[i]? with
 | some (some (.fz d))=>.rt (.fz d)
 | some (some (.ow d))=>.rt (.ow d)
 | _=>.stuck
noncomputable def sRetN:SF:=fun _=>.rt (.fz .non)
noncomputable def sIf (t:TF) (a b:SF):SF:=fun ρ=>sOf (t ρ) fun c=>if c=true then a ρ else b ρ
noncomputable def sBreak:SF:=fun ρ=>.bk ρ
noncomputable def sCont:SF:=fun ρ=>.ct ρ
noncomputable def sExpr (e:EF):SF:=fun ρ=>sOf (e ρ) fun _=>.nx ρ
noncomputable def sAug (i:Nat) (g:D→D→R En) (e:EF):SF:=fun ρ=>match ρ[i]? with
 | some (some (.fz x))=>sOf ((e ρ).bind fun y=>(g x y.d).bind En.nm) fun w=>.nx (ρ.set i (some w))
 | _=>.stuck
noncomputable def sApp (i:Nat) (e:EF):SF:=fun ρ=>match ρ[i]? with
 | some (some (.ow (.lst xs)))=>sOf ((e ρ).bind En.st) fun d=>if xs.length < sz then .nx (ρ.set i (some (.ow (.lst (xs++[d]))))) else .stuck
 | _=>.stuck
noncomputable def frz (i:Nat) (ρ:Rho):Rho:=match ρ[i]? with
 | some (some (.ow d))=>ρ.set i (some (.fz d))
 | _=>ρ
noncomputable def sFrz (i:Nat) (s:SF):SF:=fun ρ=>s (frz i ρ)
noncomputable abbrev GF:=D→Rho→R Rho
noncomputable def gV (i:Nat):GF:=fun d ρ=>.ok (ρ.set i (some (.fz d)))
noncomputable def gVs:List Nat→List D→Rho→R Rho
 | [],[],ρ=>.ok ρ
 | i::is,d::ds,ρ=>gVs is ds (ρ.set i (some (.fz d)))
 | _,_,_=>.stuck
noncomputable def gT (is:List Nat):GF:=fun d ρ=>match d with
 | .tup ds=>gVs is ds ρ
 | _=>.stuck
noncomputable def forD (g:GF) (b:SF):List D→Rho→Out
 | [],ρ=>.nx ρ
 | x::xs,ρ=>match g x ρ with
  | .ok ρ1=>(match b ρ1 with
   | .nx ρ2=>forD g b xs ρ2
   | .ct ρ2=>forD g b xs ρ2
   | .bk ρ2=>.nx ρ2
   | o=>o)
  | .exc _=>.stuck
  | .stuck=>.stuck
noncomputable def items:D→R (List D)
 | .lst xs=>.ok xs
 | .tup xs=>.ok xs
 | .dK kvs=>.ok (kvs.map fun p=>match p.1 with|.inl i=>.int i|.inr x=>.str x)
 | _=>.stuck
noncomputable abbrev IF:=Rho→R (List D)
noncomputable def seqOf:D→R (List D)
 | .lst xs=>.ok xs
 | .tup xs=>.ok xs
 | _=>.stuck
noncomputable def iV (i:Nat):IF:=fun ρ=>match ρ[i]? with
 | some (some (.fz d))=>seqOf d
 | some (some (.br d))=>seqOf d
 | _=>.stuck
noncomputable def iVc (i:Nat):IF:=fun ρ=>match ρ[i]? with
 | some (some (.od _))=>.stuck
 | some (some (.lk _))=>.stuck
 | some (some w)=>seqOf w.d
 | _=>.stuck
noncomputable def iSeq (e:EF):IF:=fun ρ=>(e ρ).bind fun w=>w.st.bind seqOf
noncomputable def rngD (lo:Int):Nat→List D
 | 0=>[]
 | n+1=>.int lo::rngD (lo+1) n
noncomputable def iR1 (a:EF):IF:=fun ρ=>(a ρ).bind fun x=>match x.d with
 | .int j=>if fits b62 j=true then .ok (rngD 0 j.toNat) else .stuck
 | _=>.stuck
noncomputable def sFor (it:IF) (g:GF) (b:SF):SF:=fun ρ=>sOf (it ρ) fun xs=>forD g b xs ρ
noncomputable def whileD (t:TF) (b:SF):Nat→Rho→Out
 | 0,_=>.stuck
 | n+1,ρ=>sOf (t ρ) fun c=>if c=true then (match b ρ with
   | .nx ρ2=>whileD t b n ρ2
   | .ct ρ2=>whileD t b n ρ2
   | .bk ρ2=>.nx ρ2
   | o=>o) else .nx ρ
noncomputable def sWhile (n:Nat) (t:TF) (b:SF):SF:=whileD t b n
noncomputable def fin:Out→R En
 | .nx _=>.ok (.fz .non)
 | .rt w=>.ok w
 | .exc x=>.exc x
 | _=>.stuck
noncomputable def den (n:Nat) (b:SF):Den:=fun as=>fin (b (as.map some++List.replicate (n - as.length) none))
end L3
set_option Elab.async false
set_option linter.all false
set_option maxRecDepth 100000
set_option maxHeartbeats 4000000
namespace L3
open PySem PySem.Spec PyProof.Rows L2
noncomputable abbrev St:=L2.St
structure Kx where
 P:Program
 w:World
 K:PySem.W.Frag
noncomputable abbrev kx (X:Cx):Kx:=⟨X.prog,X.w,X.K⟩
noncomputable def SqK (κ:Kx) (F:Hp) (a:Addr) (kvs:List (Key×V)):Prop :=
 Rd F a (.dK kvs)∨(a == sysModules)=false∧∃ (o:Obj) (es:Array DictEntry) (ep:Nat) (vs:List (Key×Value)),κ.K.lookup a=some o∧o.ExactDict∧o.data=.dict es ep ∧
  PySem.KeysOf (mixKind κ.P κ.w) es∧PySem.Pairs (mixKind κ.P κ.w) es.toList vs∧(vs.map (·.1)).Nodup∧KV kvs vs
noncomputable def FnV (κ:Kx) (v:V) (c:Str) (fs:List (Str×D)):Prop:=match fs with
 | [(_,.non)]=>∀ f:Addr,PySem.W.nsIn κ.K mainGlobals c=some (some (.ref f))→v=.ref f
 | _=>True
mutual
noncomputable def Rep (κ:Kx) (F:Hp):V→D→Prop
 | v,.non=>v=.non
 | v,.bl b=>v=.bl b
 | v,.int i=>v=.int i
 | v,.str x=>v=.str x
 | v,.tup ds=>∃ a vs,v=.ref a∧SqT κ.K F a vs∧Reps κ F vs ds
 | v,.lst ds=>∃ a vs,v=.ref a∧SqL κ.K F a vs∧Reps κ F vs ds
 | v,.dK kds=>∃ a kvs,v=.ref a∧SqK κ F a kvs∧RepK κ F kvs kds
 | v,.dT kds=>∃ a kvs,v=.ref a∧Rd F a (.dT kvs)∧RepT κ F kvs kds
 | v,.xc c fs=>FnV κ v c fs
noncomputable def Reps (κ:Kx) (F:Hp):List V→List D→Prop
 | vs,[]=>vs=[]
 | vs,d::ds=>∃ v r,vs=v::r∧Rep κ F v d∧Reps κ F r ds
noncomputable def RepK (κ:Kx) (F:Hp):List (Key×V)→List (Sum Int Str×D)→Prop
 | kvs,[]=>kvs=[]
 | kvs,(k,d)::r=>∃ v kr,kvs=(k,v)::kr∧Rep κ F v d∧RepK κ F kr r
noncomputable def RepT (κ:Kx) (F:Hp):List (List Key×V)→List (List (Sum Int Str)×D)→Prop
 | kvs,[]=>kvs=[]
 | kvs,(k,d)::r=>∃ v kr,kvs=(k,v)::kr∧Rep κ F v d∧RepT κ F kr r
end
noncomputable abbrev Le (F H:Hp):Prop:=∀ a o,F a=some o→H a=some o
theorem Rd.le {F F':Hp} (l:Le F F') {a:Addr} {u:HO} (h:Rd F a u):Rd F' a u:=by
 rcases h with h|⟨o,h⟩
 ·exact .inl (l _ _ h)
 ·exact .inr ⟨o,l _ _ h⟩
theorem SqL.le {K:PySem.W.Frag} {F F':Hp} (l:Le F F') {a:Addr} {vs:List V} (h:SqL K F a vs):SqL K F' a vs:=by
 rcases h with h|h
 ·exact .inl (Rd.le l h)
 ·exact .inr h
theorem SqT.le {K:PySem.W.Frag} {F F':Hp} (l:Le F F') {a:Addr} {vs:List V} (h:SqT K F a vs):SqT K F' a vs:=by
 rcases h with h|h
 ·exact .inl (Rd.le l h)
 ·exact .inr h
theorem SqK.le {κ:Kx} {F F':Hp} (l:Le F F') {a:Addr} {vs:List (Key×V)} (h:SqK κ F a vs):SqK κ F' a vs:=by
 rcases h with h|h
 ·exact .inl (Rd.le l h)
 ·exact .inr h
mutual
theorem Rep.le {κ:Kx} {F F':Hp} (l:Le F F'):∀ (d:D) {v:V},Rep κ F v d→Rep κ F' v d
 | .non,_,h=>h
 | .bl _,_,h=>h
 | .int _,_,h=>h
 | .str _,_,h=>h
 | .tup ds,_,h=>by
  obtain ⟨a,vs,e,q,r⟩:=h
  exact ⟨a,vs,e,SqT.le l q,Reps.le l ds r⟩
 | .lst ds,_,h=>by
  obtain ⟨a,vs,e,q,r⟩:=h
  exact ⟨a,vs,e,SqL.le l q,Reps.le l ds r⟩
 | .dK ds,_,h=>by
  obtain ⟨a,vs,e,q,r⟩:=h
  exact ⟨a,vs,e,SqK.le l q,RepK.le l ds r⟩
 | .dT ds,_,h=>by
  obtain ⟨a,vs,e,q,r⟩:=h
  exact ⟨a,vs,e,Rd.le l q,RepT.le l ds r⟩
 | .xc _ _,_,h=>h
theorem Reps.le {κ:Kx} {F F':Hp} (l:Le F F'):∀ (ds:List D) {vs:List V},Reps κ F vs ds→Reps κ F' vs ds
 | [],_,h=>h
 | d::ds,_,h=>by
  obtain ⟨v,r,e,h1,h2⟩:=h
  exact ⟨v,r,e,Rep.le l d h1,Reps.le l ds h2⟩
theorem RepK.le {κ:Kx} {F F':Hp} (l:Le F F'):∀ (ds:List (Sum Int Str×D)) {vs:List (Key×V)},RepK κ F vs ds→RepK κ F' vs ds
 | [],_,h=>h
 | (k,d)::ds,_,h=>by
  obtain ⟨v,r,e,h1,h2⟩:=h
  exact ⟨v,r,e,Rep.le l d h1,RepK.le l ds h2⟩
theorem RepT.le {κ:Kx} {F F':Hp} (l:Le F F'):∀ (ds:List (List (Sum Int Str)×D)) {vs:List (List Key×V)},RepT κ F vs ds→RepT κ F' vs ds
 | [],_,h=>h
 | (k,d)::ds,_,h=>by
  obtain ⟨v,r,e,h1,h2⟩:=h
  exact ⟨v,r,e,Rep.le l d h1,RepT.le l ds h2⟩
end
section
variable {κ:Kx} {F:Hp}
theorem Reps.length:∀ {ds:List D} {vs:List V},Reps κ F vs ds→vs.length=ds.length
 | [],_,h=>by cases (show _=_ from h); rfl
 | d::ds,_,h=>by
  obtain ⟨v,r,rfl,h1,h2⟩:=h
  simp [Reps.length h2]
theorem Reps.get:∀ {ds:List D} {vs:List V} {i:Nat} {d:D},Reps κ F vs ds→ds[i]?=some d→∃ v,vs[i]?=some v∧Rep κ F v d
 | [],_,_,_,_,e=>by simp at e
 | d::ds,_,0,_,h,e=>by
  obtain ⟨v,r,rfl,h1,h2⟩:=h
  simp at e
  subst e
  exact ⟨v,rfl,h1⟩
 | d::ds,_,i+1,d',h,e=>by
  obtain ⟨v,r,rfl,h1,h2⟩:=h
  obtain ⟨u,e1,e2⟩:=Reps.get (i:=i) (d:=d') h2 (by simpa using e)
  exact ⟨u,by simpa using e1,e2⟩
theorem Reps.append:∀ {ds es:List D} {vs us:List V},Reps κ F vs ds→Reps κ F us es→Reps κ F (vs++us) (ds++es)
 | [],_,_,_,h,k=>by cases (show _=_ from h); exact k
 | d::ds,_,_,_,h,k=>by
  obtain ⟨v,r,rfl,h1,h2⟩:=h
  exact ⟨v,r++_,rfl,h1,Reps.append h2 k⟩
theorem Reps.one {v:V} {d:D} (h:Rep κ F v d):Reps κ F [v] [d]:=⟨v,[],rfl,h,rfl⟩
end
structure Gr (F H F' H':Hp):Prop where
 f:Le F F'
 h:Le H H'
 s:Le F' H'
 n:∀ a,F' a≠none→F a≠none∨H a=none∨∃ xs,H a=some (.tup xs)
theorem Le.refl {F:Hp}:Le F F:=fun _ _ h=>h
theorem Le.trans {F G H:Hp} (a:Le F G) (b:Le G H):Le F H:=fun x o h=>b x o (a x o h)
theorem Gr.refl {F H:Hp} (s:Le F H):Gr F H F H:=⟨Le.refl,Le.refl,s,fun _ h=>.inl h⟩
theorem Le.none {F H:Hp} (l:Le F H) {a:Addr} (h:H a=none):F a=none:=by
 cases e:F a with
 | none=>rfl
 | some o=>rw [l a o e] at h; cases h
theorem Gr.trans {F H F1 H1 F2 H2:Hp} (a:Gr F H F1 H1) (b:Gr F1 H1 F2 H2):Gr F H F2 H2 :=
 ⟨Le.trans a.f b.f,Le.trans a.h b.h,b.s,fun x h=>by
  rcases b.n x h with q|q|⟨xs,q⟩
  ·exact a.n x q
  ·exact .inr (.inl (Le.none a.h q))
  ·cases e:H x with
   | none=>exact .inr (.inl rfl)
   | some o =>
    have:=a.h x o e
    rw [q] at this
    cases this
    exact .inr (.inr ⟨xs,rfl⟩)⟩
theorem Gr.new {F H:Hp} (s:Le F H) {p:Addr} {o:HO} (hp:H p=none):Gr F H F (upd H p o) :=
 ⟨Le.refl,fun a u h=>by rw [upd_ne (ne_of_none h hp)]; exact h,fun a u h=>by rw [upd_ne (ne_of_none (s a u h) hp)]; exact s a u h,fun _ h=>.inl h⟩
theorem Gr.newF {F H:Hp} (s:Le F H) {p:Addr} {o:HO} (hp:H p=none):Gr F H (upd F p o) (upd H p o):=by
 have hf:F p=none:=Le.none s hp
 refine ⟨fun a u h=>by rw [upd_ne (ne_of_none h hf)]; exact h,fun a u h=>by rw [upd_ne (ne_of_none h hp)]; exact h,fun a u h=>?_,fun a h=>?_⟩
 ·by_cases e:a=p
  ·subst e; rw [upd_same] at h ⊢; exact h
  ·rw [upd_ne e] at h ⊢; exact s a u h
 ·by_cases e:a=p
  ·subst e; exact .inr (.inl hp)
  ·rw [upd_ne e] at h; exact .inl h
noncomputable def fzAll (H F' H':Hp):Hp:=fun b=>match H b with
 | none=>H' b
 | some _=>F' b
theorem fzAll_gr {F H F' H':Hp} (s:Le F H) (g:Gr F H F' H'):Gr F H (fzAll H F' H') H'∧Le F' (fzAll H F' H'):=by
 refine ⟨⟨fun a u h=>?_,g.h,fun a u h=>?_,fun a h=>?_⟩,fun a u h=>?_⟩
 ·unfold fzAll; rw [s a u h]; exact g.f a u h
 ·unfold fzAll at h
  cases e:H a with
  | none=>rw [e] at h; exact h
  | some o=>rw [e] at h; exact g.s a u h
 ·cases e:H a with
  | none=>exact .inr (.inl rfl)
  | some o =>
   unfold fzAll at h; rw [e] at h
   rcases g.n a h with q|q|q
   ·exact .inl q
   ·rw [e] at q; cases q
   ·rw [e] at q; exact .inr (.inr q)
 ·unfold fzAll
  cases e:H a with
  | none=>exact g.s a u h
  | some o=>exact h
noncomputable def OwnO (κ:Kx) (F:Hp):HO→D→Prop
 | .lst vs,.lst ds=>Reps κ F vs ds
 | .dK kvs,.dK kds=>RepK κ F kvs kds
 | .dT kvs,.dT kds=>RepT κ F kvs kds
 | _,_=>False
theorem OwnO.le {κ:Kx} {F F':Hp} (l:Le F F') {o:HO} {d:D} (h:OwnO κ F o d):OwnO κ F' o d:=by
 cases o <;> cases d <;> first
  | exact h
  | exact Reps.le l _ h
  | exact RepK.le l _ h
  | exact RepT.le l _ h
noncomputable def RdV (κ:Kx) (F H:Hp) (v:V) (d:D):Prop:=Rep κ F v d∨∃ a o,v=.ref a∧H a=some o∧OwnO κ F o d
noncomputable def Inn (κ:Kx) (H0 F H:Hp):List Addr→List D→Prop
 | [],[]=>True
 | b::bs,e::es=>(∃ us xs,e=.lst xs∧H0 b=none∧F b=none∧H b=some (.lst us)∧Reps κ F us xs)∧Inn κ H0 F H bs es
 | _,_=>False
noncomputable def In2 (κ:Kx) (H0 F H:Hp):List Addr→List (List Addr)→List D→Prop
 | [],[],[]=>True
 | b::bs,cs::css,e::es=>(∃ xs,e=.lst xs∧H0 b=none∧F b=none∧H b=some (.lst (cs.map V.ref))∧Inn κ H0 F H cs xs)∧In2 κ H0 F H bs css es
 | _,_,_=>False
noncomputable def DV2 (κ:Kx) (H F H':Hp) (v:V) (ds:List D):Prop:=∃ a bs,v=.ref a∧H a=none∧F a=none∧(a::bs).Nodup∧H' a=some (.lst (bs.map V.ref))∧Inn κ H F H' bs ds
noncomputable def DV3 (κ:Kx) (H F H':Hp) (v:V) (ds:List D):Prop:=∃ a bs css,v=.ref a∧H a=none∧F a=none∧(a::(bs++css.flatten)).Nodup∧H' a=some (.lst (bs.map V.ref))∧In2 κ H F H' bs css ds
noncomputable def DVp (κ:Kx) (H F H':Hp) (v:V) (ds:List D) (g:D):Prop:=∃ t b us vg,v=.ref t∧H t=none∧H' t=some (.tup [.ref b,vg])∧H b=none∧F b=none∧H' b=some (.lst us)∧Reps κ F us ds∧Rep κ F vg g
noncomputable def DVi (κ:Kx) (H F H':Hp) (v:V) (a:Addr) (dd g:D):Prop:=∃ o,H a=none∧F a=none∧H' a=some o∧OwnO κ F o dd∧Rep κ F v g
noncomputable def DV (κ:Kx) (H F H':Hp) (v:V) (d:D):Prop :=
 (∃ ds,d=.lst ds∧DV2 κ H F H' v ds)∨(∃ kds:List (Sum Int Str×D),d=.dK kds∧DV3 κ H F H' v (kds.map Prod.snd))∨(∃ ds g,d=.tup [.lst ds,g]∧DVp κ H F H' v ds g)∨∃ (a:Addr) (dd g:D),d=.tup [.int (a:Int),dd,g]∧DVi κ H F H' v a dd g
noncomputable def Vok (κ:Kx) (H F' H':Hp) (v:V):En→Prop
 | .fz d=>Rep κ F' v d
 | .ow d=>∃ a o,v=.ref a∧H a=none∧F' a=none∧H' a=some o∧OwnO κ F' o d
 | .br d=>∃ a o,v=.ref a∧H' a=some o∧OwnO κ F' o d
 | .lk _=>False
 | .od d=>DV κ H F' H' v d
section
variable {κ:Kx} {H F F' H' F1 H1 F2 H2:Hp} {v:V} {w:En} {d:D}
theorem Vok.rd (h:Vok κ H F' H' v w):RdV κ F' H' v w.d:=by
 cases w with
 | fz d=>exact .inl h
 | ow d=>obtain ⟨a,o,e,_,_,e2,r⟩:=h; exact .inr ⟨a,o,e,e2,r⟩
 | br d=>obtain ⟨a,o,e,e2,r⟩:=h; exact .inr ⟨a,o,e,e2,r⟩
 | lk d=>exact h.elim
 | od d=>exact .inl trivial
theorem OwnO.noTup {o:HO} (h:OwnO κ F o d):∀ xs,o≠.tup xs:=fun xs z=>by
 subst z
 cases d <;> exact h.elim
theorem Gr.no (g:Gr F H F' H') {a:Addr} {o:HO} (e3:F a=none) (e2:H a=some o) (nt:∀ xs,o≠.tup xs:=by intro _ z; cases z):F' a=none:=by
 cases q:F' a with
 | none=>rfl
 | some u =>
  rcases g.n a (by rw [q]; exact Option.some_ne_none _) with z|z|⟨xs,z⟩
  ·exact absurd e3 z
  ·rw [e2] at z; cases z
  ·rw [e2] at z; cases z; exact absurd rfl (nt xs)
theorem Inn.gr {H0:Hp} (g:Gr F H F' H'):∀ {bs:List Addr} {ds:List D},Inn κ H0 F H bs ds→Inn κ H0 F' H' bs ds
 | [],[],h=>h
 | [],_::_,h=>h
 | _::_,[],h=>h
 | b::bs,e::es,⟨⟨us,xs,e1,h0,hf,hh,r⟩,h⟩=>⟨⟨us,xs,e1,h0,g.no hf hh,g.h _ _ hh,Reps.le g.f _ r⟩,Inn.gr g h⟩
theorem In2.gr {H0:Hp} (g:Gr F H F' H'):∀ {bs:List Addr} {css:List (List Addr)} {ds:List D},In2 κ H0 F H bs css ds→In2 κ H0 F' H' bs css ds
 | [],[],[],h=>h
 | [],_::_,_,h=>by cases h
 | [],[],_::_,h=>by cases h
 | _::_,[],_,h=>by cases h
 | _::_,_::_,[],h=>by cases h
 | b::bs,cs::css,e::es,⟨⟨xs,e1,h0,hf,hh,r⟩,h⟩=>⟨⟨xs,e1,h0,g.no hf hh,g.h _ _ hh,Inn.gr g r⟩,In2.gr g h⟩
theorem Inn.older {G:Hp} (l:∀ a,H a=none→G a=none):∀ {bs:List Addr} {ds:List D},Inn κ H F' H' bs ds→Inn κ G F' H' bs ds
 | [],[],h=>h
 | [],_::_,h=>h
 | _::_,[],h=>h
 | b::bs,e::es,⟨⟨us,xs,e1,h0,r⟩,h⟩=>⟨⟨us,xs,e1,l _ h0,r⟩,Inn.older l h⟩
theorem In2.older {G:Hp} (l:∀ a,H a=none→G a=none):∀ {bs:List Addr} {css:List (List Addr)} {ds:List D},In2 κ H F' H' bs css ds→In2 κ G F' H' bs css ds
 | [],[],[],h=>h
 | [],_::_,_,h=>by cases h
 | [],[],_::_,h=>by cases h
 | _::_,[],_,h=>by cases h
 | _::_,_::_,[],h=>by cases h
 | b::bs,cs::css,e::es,⟨⟨xs,e1,h0,hf,hh,r⟩,h⟩=>⟨⟨xs,e1,l _ h0,hf,hh,Inn.older l r⟩,In2.older l h⟩
theorem Inn.reps {H0 G:Hp}:∀ {bs:List Addr} {ds:List D},Inn κ H0 F H bs ds→(∀ b∈bs,G b=H b)→Le F G→Reps κ G (bs.map V.ref) ds
 | [],[],_,_,_=>rfl
 | [],_::_,h,_,_=>h.elim
 | _::_,[],h,_,_=>h.elim
 | b::bs,e::es,⟨⟨us,xs,e1,_,_,hh,r⟩,h⟩,k,l=>by
  subst e1
  exact ⟨.ref b,bs.map V.ref,rfl,⟨b,us,rfl,SqL.of ((k b (by simp)).trans hh),Reps.le l _ r⟩,Inn.reps h (fun c m=>k c (List.mem_cons_of_mem _ m)) l⟩
theorem In2.reps {H0 G:Hp}:∀ {bs:List Addr} {css:List (List Addr)} {ds:List D},In2 κ H0 F H bs css ds→(∀ b∈bs++css.flatten,G b=H b)→Le F G→Reps κ G (bs.map V.ref) ds
 | [],[],[],_,_,_=>rfl
 | [],_::_,_,h,_,_=>by cases h
 | [],[],_::_,h,_,_=>by cases h
 | _::_,[],_,h,_,_=>by cases h
 | _::_,_::_,[],h,_,_=>by cases h
 | b::bs,cs::css,e::es,⟨⟨xs,e1,_,_,hh,r⟩,h⟩,k,l=>by
  subst e1
  have sub:∀ c∈bs++css.flatten,c∈(b::bs)++(cs::css).flatten:=fun c m=>by
   rw [List.flatten_cons]
   rcases List.mem_append.mp m with m|m
   ·exact List.mem_append_left _ (List.mem_cons_of_mem _ m)
   ·exact List.mem_append_right _ (List.mem_append_right _ m)
  have subc:∀ c∈cs,c∈(b::bs)++(cs::css).flatten:=fun c m=>by
   rw [List.flatten_cons]
   exact List.mem_append_right _ (List.mem_append_left _ m)
  exact ⟨.ref b,bs.map V.ref,rfl,⟨b,cs.map V.ref,rfl,SqL.of ((k b (by simp)).trans hh),Inn.reps r (fun c m=>k c (subc c m)) l⟩,In2.reps h (fun c m=>k c (sub c m)) l⟩
theorem DV.gr (g:Gr F1 H1 F2 H2) (h:DV κ H F1 H1 v d):DV κ H F2 H2 v d:=by
 rcases h with ⟨ds,e,a,bs,e1,h0,hf,nd,hh,i⟩|⟨ds,e,a,bs,css,e1,h0,hf,nd,hh,i⟩|⟨ds,y,e,t,b,us,vg,e1,t0,th,b0,bf,bh,rs,r⟩|⟨a,dd,y,e,o,h0,hf,hh,ro,r⟩
 ·exact .inl ⟨ds,e,a,bs,e1,h0,g.no hf hh,nd,g.h _ _ hh,Inn.gr g i⟩
 ·exact .inr (.inl ⟨ds,e,a,bs,css,e1,h0,g.no hf hh,nd,g.h _ _ hh,In2.gr g i⟩)
 ·exact .inr (.inr (.inl ⟨ds,y,e,t,b,us,vg,e1,t0,g.h _ _ th,b0,g.no bf bh,g.h _ _ bh,Reps.le g.f _ rs,Rep.le g.f _ r⟩))
 ·exact .inr (.inr (.inr ⟨a,dd,y,e,o,h0,g.no hf hh (OwnO.noTup ro),g.h _ _ hh,OwnO.le g.f ro,Rep.le g.f _ r⟩))
theorem DV.older {G:Hp} (l:∀ a,H a=none→G a=none) (h:DV κ H F' H' v d):DV κ G F' H' v d:=by
 rcases h with ⟨ds,e,a,bs,e1,h0,hf,nd,hh,i⟩|⟨ds,e,a,bs,css,e1,h0,hf,nd,hh,i⟩|⟨ds,y,e,t,b,us,vg,e1,t0,th,b0,bf,bh,rs,r⟩|⟨a,dd,y,e,o,h0,hf,hh,ro,r⟩
 ·exact .inl ⟨ds,e,a,bs,e1,l _ h0,hf,nd,hh,Inn.older l i⟩
 ·exact .inr (.inl ⟨ds,e,a,bs,css,e1,l _ h0,hf,nd,hh,In2.older l i⟩)
 ·exact .inr (.inr (.inl ⟨ds,y,e,t,b,us,vg,e1,l _ t0,th,l _ b0,bf,bh,rs,r⟩))
 ·exact .inr (.inr (.inr ⟨a,dd,y,e,o,l _ h0,hf,hh,ro,r⟩))
theorem Vok.gr (g:Gr F1 H1 F2 H2) (h:Vok κ H F1 H1 v w):Vok κ H F2 H2 v w:=by
 cases w with
 | fz d=>exact Rep.le g.f d h
 | ow d =>
  obtain ⟨a,o,e,e1,e3,e2,r⟩:=h
  exact ⟨a,o,e,e1,g.no e3 e2 (OwnO.noTup r),g.h _ _ e2,OwnO.le g.f r⟩
 | br d=>obtain ⟨a,o,e,e2,r⟩:=h; exact ⟨a,o,e,g.h _ _ e2,OwnO.le g.f r⟩
 | lk d=>exact h
 | od d=>exact DV.gr g h
theorem RdV.gr (g:Gr F1 H1 F2 H2) (h:RdV κ F1 H1 v d):RdV κ F2 H2 v d:=by
 rcases h with h|⟨a,o,e,e2,r⟩
 ·exact .inl (Rep.le g.f d h)
 ·exact .inr ⟨a,o,e,g.h _ _ e2,OwnO.le g.f r⟩
theorem own_none {o:HO} (h:OwnO κ F o d):(∃ ds,d=.lst ds)∨(∃ ds,d=.dK ds)∨∃ ds,d=.dT ds:=by
 cases o <;> cases d <;> first
  | exact h.elim
  | exact .inl ⟨_,rfl⟩
  | exact .inr (.inl ⟨_,rfl⟩)
  | exact .inr (.inr ⟨_,rfl⟩)
theorem RdV.flat (h:RdV κ F H v d) (n1:∀ ds,d≠.lst ds) (n2:∀ ds,d≠.dK ds) (n3:∀ ds,d≠.dT ds):Rep κ F v d:=by
 rcases h with h|⟨a,o,e,e2,r⟩
 ·exact h
 ·rcases own_none r with ⟨ds,z⟩|⟨ds,z⟩|⟨ds,z⟩
  ·exact absurd z (n1 ds)
  ·exact absurd z (n2 ds)
  ·exact absurd z (n3 ds)
theorem RdV.int {i:Int} (h:RdV κ F H v (.int i)):v=.int i:=RdV.flat h (fun _ e=>nomatch e) (fun _ e=>nomatch e) fun _ e=>nomatch e
theorem RdV.bl {b:Bool} (h:RdV κ F H v (.bl b)):v=.bl b:=RdV.flat h (fun _ e=>nomatch e) (fun _ e=>nomatch e) fun _ e=>nomatch e
theorem RdV.str {x:Str} (h:RdV κ F H v (.str x)):v=.str x:=RdV.flat h (fun _ e=>nomatch e) (fun _ e=>nomatch e) fun _ e=>nomatch e
theorem RdV.non (h:RdV κ F H v .non):v=.non:=RdV.flat h (fun _ e=>nomatch e) (fun _ e=>nomatch e) fun _ e=>nomatch e
theorem RdV.tup {ds:List D} (s:Le F H) (h:RdV κ F H v (.tup ds)):∃ a vs,v=.ref a∧SqT κ.K H a vs∧SqT κ.K F a vs∧Reps κ F vs ds:=by
 obtain ⟨a,vs,e,q,r⟩:=RdV.flat h (fun _ e=>nomatch e) (fun _ e=>nomatch e) fun _ e=>nomatch e
 exact ⟨a,vs,e,SqT.le s q,q,r⟩
theorem RdV.lst {ds:List D} (s:Le F H) (h:RdV κ F H v (.lst ds)):∃ a vs,v=.ref a∧SqL κ.K H a vs∧Reps κ F vs ds:=by
 rcases h with ⟨a,vs,e,q,r⟩|⟨a,o,e,e2,r⟩
 ·exact ⟨a,vs,e,SqL.le s q,r⟩
 ·cases o with
  | lst vs=>exact ⟨a,vs,e,SqL.of e2,r⟩
  | _=>exact r.elim
theorem RdV.dK {ds:List (Sum Int Str×D)} (s:Le F H) (h:RdV κ F H v (.dK ds)):∃ a kvs,v=.ref a∧SqK κ H a kvs∧RepK κ F kvs ds:=by
 rcases h with ⟨a,vs,e,q,r⟩|⟨a,o,e,e2,r⟩
 ·exact ⟨a,vs,e,SqK.le s q,r⟩
 ·cases o with
  | dK vs=>exact ⟨a,vs,e,.inl (.inl e2),r⟩
  | _=>exact r.elim
theorem Vok.st (s:Le F H) (g:Gr F H F' H') (h:Vok κ H F' H' v w) (e:w.st=.ok d):Rep κ (fzAll H F' H') v d:=by
 obtain ⟨_,l⟩:=fzAll_gr s g
 cases w with
 | fz d'=>cases e; exact Rep.le l d h
 | ow d' =>
  cases e
  obtain ⟨a,o,ea,e1,e3,e2,r⟩:=h
  have q:fzAll H F' H' a=some o:=by unfold fzAll; rw [e1]; exact e2
  have r:=OwnO.le l r
  cases o <;> cases d <;> first
   | exact r.elim
   | exact ⟨a,_,ea,.inl (.inl q),r⟩
   | exact ⟨a,_,ea,.inl q,r⟩
 | br d'=>cases e
 | lk d'=>cases e
 | od d'=>cases e
end
noncomputable def Voks (κ:Kx) (H F' H':Hp):List V→List En→Prop
 | vs,[]=>vs=[]
 | vs,w::ws=>∃ v r,vs=v::r∧Vok κ H F' H' v w∧Voks κ H F' H' r ws
section
variable {κ:Kx} {H F F' H' F1 H1 F2 H2:Hp}
theorem Vok.older {G:Hp} (l:∀ a,H a=none→G a=none) {v:V} {w:En} (h:Vok κ H F' H' v w):Vok κ G F' H' v w:=by
 cases w with
 | fz d=>exact h
 | ow d=>obtain ⟨a,o,e,e1,r⟩:=h; exact ⟨a,o,e,l a e1,r⟩
 | br d=>exact h
 | lk d=>exact h
 | od d=>exact DV.older l h
theorem Voks.older {G:Hp} (l:∀ a,H a=none→G a=none):∀ {ws:List En} {vs:List V},Voks κ H F' H' vs ws→Voks κ G F' H' vs ws
 | [],_,h=>h
 | w::ws,_,h=>by
  obtain ⟨v,r,e,h1,h2⟩:=h
  exact ⟨v,r,e,Vok.older l h1,Voks.older l h2⟩
theorem Voks.stAll (s:Le F H) (g:Gr F H F' H'):∀ {ws:List En} {vs:List V} {ds:List D},Voks κ H F' H' vs ws→stAll ws=.ok ds→Reps κ (fzAll H F' H') vs ds
 | [],_,_,h,e=>by cases e; exact h
 | w::ws,_,ds,h,e=>by
  obtain ⟨v,r,rfl,h1,h2⟩:=h
  unfold L3.stAll at e
  cases e1:w.st with
  | ok d =>
   cases e2:L3.stAll ws with
   | ok ds' =>
    rw [e1,e2] at e
    cases e
    exact ⟨v,r,rfl,Vok.st s g h1 e1,Voks.stAll s g h2 e2⟩
   | exc x=>rw [e1,e2] at e; cases e
   | stuck=>rw [e1,e2] at e; cases e
  | exc x=>rw [e1] at e; cases e
  | stuck=>rw [e1] at e; cases e
theorem Voks.rd:∀ {ws:List En} {vs:List V},Voks κ H F' H' vs ws→Paired (RdV κ F' H') vs (ws.map En.d)
 | [],_,h=>by cases (show _=_ from h); exact .nil
 | w::ws,_,h=>by
  obtain ⟨v,r,rfl,h1,h2⟩:=h
  exact .cons (Vok.rd h1) (Voks.rd h2)
end
noncomputable def DeepI (κ:Kx) (F H:Hp) (a:Addr) (bs:List Addr) (xs:List D):Prop:=bs=[]∧∃ o d,xs=[.int (a:Int),d]∧H a=some o∧OwnO κ F o d
noncomputable def Deep (κ:Kx) (H0 F H:Hp) (a:Addr) (bs:List Addr):D→Prop
 | .lst ds=>H a=some (.lst (bs.map V.ref))∧Inn κ H0 F H bs ds
 | .dT kds=>H a=some (.dT ((kds.map Prod.fst).zip (bs.map V.ref)))∧Inn κ H0 F H bs (kds.map Prod.snd)
 | .dK kds=>∃ b1 css,bs=b1++List.flatten css∧H a=some (.lst (b1.map V.ref))∧In2 κ H0 F H b1 css (kds.map Prod.snd)
 | .tup xs=>DeepI κ F H a bs xs
 | _=>False
noncomputable def RawT (F:Hp) (v:V):Prop:=∃ a ob kvs,v=.ref a∧F a=some (.frz ob (.dT kvs))
theorem RawT.le {F F':Hp} (l:Le F F') {v:V} (h:RawT F v):RawT F' v:=let ⟨a,ob,kvs,e,q⟩:=h; ⟨a,ob,kvs,e,l _ _ q⟩
noncomputable def Eok (κ:Kx) (H0 F H:Hp) (v:V):En→Prop
 | .fz d=>Rep κ F v d
 | .ow d=>∃ a o,v=.ref a∧H0 a=none∧F a=none∧H a=some o∧OwnO κ F o d
 | .lk d=>Rep κ F v d∧RawT F v
 | .br d=>∃ a o,v=.ref a∧H0 a=some o∧OwnO κ F o d
 | .od _=>∃ a o,v=.ref a∧H0 a=none∧F a=none∧H a=some o∧∀ xs,o≠.tup xs
noncomputable def En.own:En→Bool
 | .ow _=>true|.od _=>true|_=>false
noncomputable def shal (i:Nat) (ρ:Rho):Prop:=∀ (j:Nat) (d:D),j≠i→ρ[j]?≠some (some (.od d))
structure StOk (κ:Kx) (F0 H0 F H:Hp) (ρ:Rho) (σ:St):Prop where
 gr:Gr F0 H0 F H
 len:ρ.length=σ.length
 val:∀ (i:Nat) (w:En),ρ[i]?=some (some w)→∃ v,σ[i]?=some (some v)∧Eok κ H0 F H v w
 sep:∀ (i j:Nat) (w w':En) (a:Addr),i≠j→ρ[i]?=some (some w)→ρ[j]?=some (some w')→w.own=true→w'.own=true→σ[i]?=some (some (.ref a))→σ[j]?=some (some (.ref a))→False
 dp:∀ (i:Nat) (d:D),ρ[i]?=some (some (.od d))→shal i ρ∧∃ a bs,σ[i]?=some (some (.ref a))∧H0 a=none∧F a=none∧(a::bs).Nodup∧Deep κ H0 F H a bs d ∧
  ∀ (j:Nat) (w:En) (b:Addr),j≠i→ρ[j]?=some (some w)→w.own=true→b∈a::bs→σ[j]?≠some (some (.ref b))
section
variable {κ:Kx} {F0 H0 F H F' H':Hp} {ρ:Rho} {σ:St}
theorem Deep.gr (g:Gr F H F' H') {a:Addr} {bs:List Addr} {d:D} (h:Deep κ H0 F H a bs d):Deep κ H0 F' H' a bs d:=by
 cases d <;> first|exact (False.elim h)|exact ⟨g.h _ _ h.1,Inn.gr g h.2⟩|skip
 ·obtain ⟨e,o,d,ex,h1,h2⟩:=h
  exact ⟨e,o,d,ex,g.h _ _ h1,OwnO.le g.f h2⟩
 obtain ⟨b1,css,e,h1,h2⟩:=h
 exact ⟨b1,css,e,g.h _ _ h1,In2.gr g h2⟩
theorem Inn.at:∀ {bs:List Addr} {ds:List D} {b:Addr},Inn κ H0 F H bs ds→b∈bs→∃ us,H0 b=none∧F b=none∧H b=some (.lst us)
 | [],_,_,_,m=>by cases m
 | _::_,[],_,h,_=>h.elim
 | c::bs,e::es,b,⟨⟨us,xs,e1,h0,hf,hh,r⟩,h⟩,m=>by
  rcases List.mem_cons.mp m with rfl|m
  ·exact ⟨us,h0,hf,hh⟩
  ·exact Inn.at h m
theorem In2.at:∀ {bs:List Addr} {css:List (List Addr)} {ds:List D} {b:Addr},In2 κ H0 F H bs css ds→b∈bs++css.flatten→∃ us,H0 b=none∧F b=none∧H b=some (.lst us)
 | [],[],[],_,_,m=>by simp at m
 | [],_::_,_,_,h,_=>by cases h
 | [],[],_::_,_,h,_=>by cases h
 | _::_,[],_,_,h,_=>by cases h
 | _::_,_::_,[],_,h,_=>by cases h
 | c::bs,cs::css,e::es,b,⟨⟨xs,e1,h0,hf,hh,r⟩,h⟩,m=>by
  rw [List.flatten_cons,List.cons_append] at m
  rcases List.mem_cons.mp m with rfl|m
  ·exact ⟨_,h0,hf,hh⟩
  ·rcases List.mem_append.mp m with m|m
   ·exact In2.at h (List.mem_append_left _ m)
   ·rcases List.mem_append.mp m with m|m
    ·exact Inn.at r m
    ·exact In2.at h (List.mem_append_right _ m)
theorem Deep.top {a:Addr} {bs:List Addr} {d:D} (h:Deep κ H0 F H a bs d):∃ o,H a=some o∧∀ xs,o≠.tup xs:=by
 cases d <;> first|exact (False.elim h)|exact ⟨_,h.1,fun _ z=>nomatch z⟩|skip
 ·obtain ⟨e,o,d,ex,h1,h2⟩:=h
  exact ⟨o,h1,OwnO.noTup h2⟩
 obtain ⟨b1,css,e,h1,h2⟩:=h
 exact ⟨_,h1,fun _ z=>nomatch z⟩
theorem Deep.inn {a b:Addr} {bs:List Addr} {d:D} (h:Deep κ H0 F H a bs d) (m:b∈bs):∃ us,H0 b=none∧F b=none∧H b=some (.lst us):=by
 cases d <;> first|exact (False.elim h)|exact Inn.at h.2 m|skip
 ·obtain ⟨e,_⟩:=h
  subst e
  cases m
 obtain ⟨b1,css,e,h1,h2⟩:=h
 subst e
 exact In2.at h2 m
theorem Inn.same {G G':Hp}:∀ {bs:List Addr} {ds:List D},(∀ b∈bs,H b=H' b)→(∀ b∈bs,F b=none→F' b=none)→Le F F'→Inn κ H0 F H bs ds→Inn κ H0 F' H' bs ds
 | [],[],_,_,_,h=>h
 | [],_::_,_,_,_,h=>h
 | _::_,[],_,_,_,h=>h
 | b::bs,e::es,k,n,l,⟨⟨us,xs,e1,h0,hf,hh,r⟩,h⟩ =>
  ⟨⟨us,xs,e1,h0,n b (by simp) hf,(k b (by simp)).symm.trans hh,Reps.le l _ r⟩,Inn.same (G:=G) (G':=G') (fun c m=>k c (List.mem_cons_of_mem _ m)) (fun c m=>n c (List.mem_cons_of_mem _ m)) l h⟩
theorem In2.same:∀ {bs:List Addr} {css:List (List Addr)} {ds:List D},(∀ b∈bs++css.flatten,H b=H' b)→(∀ b∈bs++css.flatten,F b=none→F' b=none)→Le F F'→In2 κ H0 F H bs css ds→In2 κ H0 F' H' bs css ds
 | [],[],[],_,_,_,h=>h
 | [],_::_,_,_,_,_,h=>by cases h
 | [],[],_::_,_,_,_,h=>by cases h
 | _::_,[],_,_,_,_,h=>by cases h
 | _::_,_::_,[],_,_,_,h=>by cases h
 | b::bs,cs::css,e::es,k,n,l,⟨⟨xs,e1,h0,hf,hh,r⟩,h⟩=>by
  have sub:∀ c∈bs++css.flatten,c∈(b::bs)++(cs::css).flatten:=fun c m=>by
   rw [List.flatten_cons]
   rcases List.mem_append.mp m with m|m
   ·exact List.mem_append_left _ (List.mem_cons_of_mem _ m)
   ·exact List.mem_append_right _ (List.mem_append_right _ m)
  have subc:∀ c∈cs,c∈(b::bs)++(cs::css).flatten:=fun c m=>by
   rw [List.flatten_cons]
   exact List.mem_append_right _ (List.mem_append_left _ m)
  exact ⟨⟨xs,e1,h0,n b (by simp) hf,(k b (by simp)).symm.trans hh,Inn.same (G:=H) (G':=H) (fun c m=>k c (subc c m)) (fun c m=>n c (subc c m)) l r⟩,In2.same (fun c m=>k c (sub c m)) (fun c m=>n c (sub c m)) l h⟩
theorem Deep.same {a:Addr} {bs:List Addr} {d:D} (k:∀ b∈a::bs,H b=H' b) (n:∀ b∈bs,F b=none→F' b=none) (l:Le F F') (h:Deep κ H0 F H a bs d):Deep κ H0 F' H' a bs d:=by
 cases d <;> first|exact (False.elim h)|exact ⟨(k a (by simp)).symm.trans h.1,Inn.same (G:=H) (G':=H) (fun c m=>k c (List.mem_cons_of_mem _ m)) n l h.2⟩|skip
 ·obtain ⟨e,o,d,ex,h1,h2⟩:=h
  exact ⟨e,o,d,ex,(k a (by simp)).symm.trans h1,OwnO.le l h2⟩
 obtain ⟨b1,css,e,h1,h2⟩:=h
 subst e
 exact ⟨b1,css,rfl,(k a (by simp)).symm.trans h1,In2.same (fun c m=>k c (List.mem_cons_of_mem _ m)) n l h2⟩
theorem Eok.gr (g:Gr F H F' H') {v:V} {w:En} (h:Eok κ H0 F H v w):Eok κ H0 F' H' v w:=by
 cases w with
 | fz d=>exact Rep.le g.f d h
 | ow d=>obtain ⟨a,o,e,e1,e3,e2,r⟩:=h; exact ⟨a,o,e,e1,g.no e3 e2 (OwnO.noTup r),g.h _ _ e2,OwnO.le g.f r⟩
 | lk d=>exact ⟨Rep.le g.f d h.1,RawT.le g.f h.2⟩
 | br d=>obtain ⟨a,o,e,e2,r⟩:=h; exact ⟨a,o,e,e2,OwnO.le g.f r⟩
 | od d=>obtain ⟨a,o,e,e1,e3,e2,nt⟩:=h; exact ⟨a,o,e,e1,g.no e3 e2 nt,g.h _ _ e2,nt⟩
theorem StOk.grow (S:StOk κ F0 H0 F H ρ σ) (g:Gr F H F' H'):StOk κ F0 H0 F' H' ρ σ :=
 ⟨S.gr.trans g,S.len,fun i w e=>let ⟨v,e1,q⟩:=S.val i w e; ⟨v,e1,Eok.gr g q⟩,S.sep,fun i d e=>by
  obtain ⟨s1,a,bs,e1,h0,hf,nd,dp,sp⟩:=S.dp i d e
  obtain ⟨o,ho,nt⟩:=Deep.top dp
  exact ⟨s1,a,bs,e1,h0,g.no hf ho nt,nd,Deep.gr g dp,sp⟩⟩
theorem StOk.s (S:StOk κ F0 H0 F H ρ σ):Le F H:=S.gr.s
theorem set_get {α:Type} {l:List α} {i j:Nat} {x y:α} (h:(l.set i x)[j]?=some y):(j=i∧y=x)∨(j≠i∧l[j]?=some y):=by
 by_cases e:j=i
 ·subst e
  by_cases hl:j < l.length
  ·rw [List.getElem?_set_self hl] at h; cases h; exact .inl ⟨rfl,rfl⟩
  ·rw [List.getElem?_eq_none (by rw [List.length_set]; (first|lia|omega))] at h; cases h
 ·rw [List.getElem?_set_ne (Ne.symm e)] at h; exact .inr ⟨e,h⟩
theorem StOk.setF (S:StOk κ F0 H0 F H ρ σ) {i:Nat} {v:V} {d:D} (r:Rep κ F v d):StOk κ F0 H0 F H (ρ.set i (some (.fz d))) (σ.set i (some v)):=by
 refine ⟨S.gr,by simp [S.len],fun j w e=>?_,fun j k w w' a hjk ej ek oj ok sj sk=>?_,fun j y e=>?_⟩
 ·rcases set_get e with ⟨rfl,z⟩|⟨ne,z⟩
  ·cases z
   have hl:j < σ.length:=by
    rw [← S.len]
    have:=(List.getElem?_eq_some_iff.mp e).1
    simpa using this
   exact ⟨v,List.getElem?_set_self hl,r⟩
  ·obtain ⟨u,e1,q⟩:=S.val j w z
   exact ⟨u,by rw [List.getElem?_set_ne (Ne.symm ne)]; exact e1,q⟩
 ·rcases set_get ej with ⟨_,z⟩|⟨nj,ej⟩
  ·cases z; cases oj
  rcases set_get ek with ⟨_,z⟩|⟨nk,ek⟩
  ·cases z; cases ok
  rw [List.getElem?_set_ne (Ne.symm nj)] at sj
  rw [List.getElem?_set_ne (Ne.symm nk)] at sk
  exact S.sep j k w w' a hjk ej ek oj ok sj sk
 ·rcases set_get e with ⟨_,z⟩|⟨nj,ej⟩
  ·cases z
  obtain ⟨s1,a,bs,e1,h0,hf,nd,dp,sp⟩:=S.dp j y ej
  refine ⟨fun k z hk ek=>?_,a,bs,by rw [List.getElem?_set_ne (Ne.symm nj)]; exact e1,h0,hf,nd,dp,fun k w b hk ek ok m sk=>?_⟩
  ·rcases set_get ek with ⟨_,q⟩|⟨_,q⟩
   ·cases q
   ·exact s1 k z hk q
  ·rcases set_get ek with ⟨_,q⟩|⟨nk,q⟩
   ·cases q; cases ok
   ·rw [List.getElem?_set_ne (Ne.symm nk)] at sk
    exact sp k w b hk q ok m sk
theorem StOk.setO (S:StOk κ F0 H0 F H ρ σ) {i:Nat} {a:Addr} {o:HO} {d:D} (h0:H0 a=none) (hf:F a=none) (ha:H a=some o) (r:OwnO κ F o d)
  (nw:∀ (j:Nat) (w:En),j≠i→ρ[j]?=some (some w)→w.own=true→σ[j]?≠some (some (.ref a)))
  (nw2:∀ (j:Nat) (y:D),j≠i→ρ[j]?=some (some (.od y))→shal j ρ∧∃ c bs,σ[j]?=some (some (.ref c))∧H0 c=none∧F c=none∧(c::bs).Nodup∧Deep κ H0 F H c bs y ∧
   (∀ (k:Nat) (w:En) (b:Addr),k≠j→ρ[k]?=some (some w)→w.own=true→b∈c::bs→σ[k]?≠some (some (.ref b)))∧a ∉ c::bs):StOk κ F0 H0 F H (ρ.set i (some (.ow d))) (σ.set i (some (.ref a))):=by
 refine ⟨S.gr,by simp [S.len],fun j w e=>?_,fun j k w w' b hjk ej ek oj ok sj sk=>?_,fun j y e=>?_⟩
 ·rcases set_get e with ⟨rfl,z⟩|⟨ne,z⟩
  ·cases z
   have hl:j < σ.length:=by
    rw [← S.len]
    have:=(List.getElem?_eq_some_iff.mp e).1
    simpa using this
   exact ⟨.ref a,List.getElem?_set_self hl,a,o,rfl,h0,hf,ha,r⟩
  ·obtain ⟨u,e1,q⟩:=S.val j w z
   exact ⟨u,by rw [List.getElem?_set_ne (Ne.symm ne)]; exact e1,q⟩
 ·have at_:∀ {m:Nat},m≠i→(σ.set i (some (.ref a)))[m]?=some (some (.ref b))→σ[m]?=some (some (.ref b)):=fun {m} hm h=>by
   rw [List.getElem?_set_ne (Ne.symm hm)] at h; exact h
  rcases set_get ej with ⟨e1,z⟩|⟨nj,ej'⟩
  ·rcases set_get ek with ⟨e2,_⟩|⟨nk,ek'⟩
   ·exact hjk (e1.trans e2.symm)
   ·subst e1
    have hl:j < σ.length:=by have:=(List.getElem?_eq_some_iff.mp sj).1; simpa using this
    rw [List.getElem?_set_self hl] at sj
    cases sj
    exact nw k w' nk ek' ok (at_ nk sk)
  ·rcases set_get ek with ⟨e2,z⟩|⟨nk,ek'⟩
   ·subst e2
    have hl:k < σ.length:=by have:=(List.getElem?_eq_some_iff.mp sk).1; simpa using this
    rw [List.getElem?_set_self hl] at sk
    cases sk
    exact nw j w nj ej' oj (at_ nj sj)
   ·exact S.sep j k w w' b hjk ej' ek' oj ok (at_ nj sj) (at_ nk sk)
 ·rcases set_get e with ⟨_,z⟩|⟨nj,ej⟩
  ·cases z
  obtain ⟨s1,c,bs,e1,c0,cf,nd,dp,sp,nc⟩:=nw2 j y nj ej
  refine ⟨fun k z hk ek=>?_,c,bs,by rw [List.getElem?_set_ne (Ne.symm nj)]; exact e1,c0,cf,nd,dp,fun k w b hk ek ok m sk=>?_⟩
  ·rcases set_get ek with ⟨_,q⟩|⟨_,q⟩
   ·cases q
   ·exact s1 k z hk q
  ·rcases set_get ek with ⟨rfl,_⟩|⟨nk,q⟩
   ·have hl:k < σ.length:=by have:=(List.getElem?_eq_some_iff.mp sk).1; simpa using this
    rw [List.getElem?_set_self hl] at sk
    cases sk
    exact nc m
   ·rw [List.getElem?_set_ne (Ne.symm nk)] at sk
    exact sp k w b hk q ok m sk
theorem StOk.ownAt (S:StOk κ F0 H0 F H ρ σ) {j:Nat} {w:En} {a:Addr} (e:ρ[j]?=some (some w)) (o:w.own=true) (s:σ[j]?=some (some (.ref a))):∃ u,H a=some u:=by
 obtain ⟨v,e1,q⟩:=S.val j w e
 rw [s] at e1
 cases e1
 cases w with
 | ow d=>obtain ⟨b,u,eb,_,_,e2,_⟩:=q; cases eb; exact ⟨u,e2⟩
 | lk d=>cases o
 | od d=>obtain ⟨b,u,eb,_,_,e2,_⟩:=q; cases eb; exact ⟨u,e2⟩
 | fz d=>cases o
 | br d=>cases o
theorem StOk.setW (S:StOk κ F0 H0 F H ρ σ) (g:Gr F H F' H') {i:Nat} {v:V} {w w':En} (q:Vok κ H F' H' v w) (e:w.nm=.ok w'):StOk κ F0 H0 F' H' (ρ.set i (some w')) (σ.set i (some v)):=by
 have S':=S.grow g
 cases w with
 | fz d=>cases e; exact S'.setF q
 | ow d =>
  cases e
  obtain ⟨a,o,rfl,e1,e3,e2,r⟩:=q
  refine S'.setO (Le.none S.gr.h e1) e3 e2 r (fun j w hj ej oj sj=>?_) fun j y hj ej=>?_
  ·obtain ⟨u,z⟩:=S.ownAt ej oj sj
   rw [e1] at z; cases z
  ·obtain ⟨s1,c,bs,sj,h0,hf,nd,dp,sp⟩:=S.dp j y ej
   obtain ⟨o',ho',nt'⟩:=Deep.top dp
   refine ⟨s1,c,bs,sj,h0,g.no hf ho' nt',nd,Deep.gr g dp,sp,fun m=>?_⟩
   rcases List.mem_cons.mp m with rfl|m
   ·rw [e1] at ho'; cases ho'
   ·obtain ⟨us,_,_,z⟩:=Deep.inn dp m
    rw [e1] at z; cases z
 | br d=>cases e
 | lk d=>cases e
 | od d=>cases e
end
set_option Elab.async false
set_option linter.all false
set_option maxRecDepth 100000
set_option maxHeartbeats 4000000
noncomputable def Way (H:Hp) (n:Nat) (h:Heap) (e:Addr) (cl:Value) (dd:Option Addr) (q:Option Value):Prop :=
 ∃ oe vs,h.get? e=some oe∧oe.cls=cl∧oe.dict=dd∧oe.data=.fields vs∧1 < vs.size∧n ≤ e∧H e=none ∧
  ((vs[1]?=some .none∧q=none) ∨
   ∃ T oT ts fl,vs[1]?=some (.ref T)∧T≠e∧n ≤ T∧H T=none∧h.get? T=some oT∧oT.data=.fields ts∧ts[3]?=some fl∧q=some fl)
section
variable {H:Hp} {n:Nat} {fs:List Addr} {h h' h'':Heap} {e:Addr} {cl:Value} {dd:Option Addr} {q:Option Value}
end
section
variable {M:Model} {A:Around} {E:Value→Shared→Prop} {s:Shared} {H:Hp} {n:Nat} {base:Heap} {env:Env} {outer:List Env} {L e:Addr} {cl:Value} {dd:Option Addr}
end
noncomputable def flatV:D→Value→Prop
 | .non,u=>u=.none
 | .int i,u=>∃ t,u=.int i t
 | _,_=>False
noncomputable def AtIs (H:Hp) (n:Nat) (h:Heap) (dd:Option Addr):List (Str×D)→Prop
 | []=>True
 | (nm,d)::_=>∃ dx mA u,dd=some dx∧n ≤ dx∧H dx=none∧h.Ns1 dx mA∧mA nm=some u∧flatV d u
inductive XOk:Xc→Prop
 | nof (c:Str):XOk (Xc.mk c [])
 | nonf (c:Str):XOk (Xc.mk c [("at",D.non)])
 | intf (c:Str) (n:Nat):XOk (Xc.mk c [("at",D.int n)])
noncomputable def atc (x:Xc):Option Addr:=match x.fs with
 | []=>none
 | [(_,.int i)]=>some (i.toNat+1)
 | _=>some 0
structure Fl (P:Program) (w:World) (mg:Str→Option Value) (outer:List Env) (H:Hp) (s:Shared) (H':Hp) (s':Shared) (e:Addr) (x:Xc) (q:Option Value):Prop where
 os:s'.os=s.os
 bare:AllBare s'.gens
 un:Un (frs outer) [] H H' s.heap s'.heap
 hok:HOk P w H' s'.heap
 sz:s.heap.objs.size ≤ s'.heap.objs.size
 ok:XOk x
 way:∃ C dd,mg x.cls=some (.ref C)∧Way H' s.heap.objs.size s'.heap e (.ref C) dd q∧AtIs H' s.heap.objs.size s'.heap dd x.fs
noncomputable def KE {α:Type} (x:Xc→Prop) (r:R α) (k:α→Prop):Prop:=match r with
 | .ok a=>k a
 | .exc e=>x e
 | .stuck=>False
theorem KE.bind {α β:Type} {x:Xc→Prop} {r:R α} {f:α→R β} {k:β→Prop} (h:KE x (r.bind f) k):KE x r fun a=>KE x (f a) k:=by
 cases r <;> exact h
theorem KE.imp {α:Type} {x:Xc→Prop} {r:R α} {k k':α→Prop} (h:KE x r k) (i:∀ a,k a→k' a):KE x r k':=by
 cases r with
 | ok a=>exact i a h
 | exc e=>exact h
 | stuck=>exact h
theorem KE.impX {α:Type} {x x':Xc→Prop} {r:R α} {k k':α→Prop} (h:KE x r k) (i:∀ a,k a→k' a) (j:∀ e,x e→x' e):KE x' r k':=by
 cases r with
 | ok a=>exact i a h
 | exc e=>exact j e h
 | stuck=>exact h
theorem KE_ok {α:Type} {x:Xc→Prop} {a:α} {k:α→Prop}:KE x (R.ok a) k=k a:=rfl
noncomputable def XP (X:Cx) (F0 H0:Hp) (x:Xc):Prop:=False
noncomputable def XPS (X:Cx) (F0 H0:Hp) (x:Xc):Prop:=∀ (pins:List (Addr×Obj)) (σ:St) (H:Hp) (s:Shared) (F' H':Hp) (s':Shared) (e:Addr) (q:Option Value),(q=none∨q=some .none)→Gr F0 H0 F' H'→Inv X pins σ H s →
 Fl X.prog X.w X.mg X.stack H s H' s' e x q→X.xe (.ref e) s'
noncomputable def SE (X:Cx) (F0 H0:Hp) (e:Expr) (f:EF):Prop :=
 ∀ (pins:List (Addr×Obj)) (s:Shared) (σ:St) (F H:Hp) (ρ:Rho) (Q:Value→Shared→Prop),StOk (kx X) F0 H0 F H ρ σ→Inv X pins σ H s →
  KE (XP X F0 H0) (f ρ) (fun w=>∀ v u F' H' s',Gr F H F' H'→Vok (kx X) H F' H' v w→RelV v u→Inv X pins σ H' s'→Q u s') →
  wpAny (model X.prog X.w) X.A (eval e X.env) Q X.xe s
noncomputable def ST (X:Cx) (F0 H0:Hp) (e:Expr) (f:TF):Prop :=
 ∀ (pins:List (Addr×Obj)) (s:Shared) (σ:St) (F H:Hp) (ρ:Rho) (Q:Bool→Shared→Prop),StOk (kx X) F0 H0 F H ρ σ→Inv X pins σ H s →
  KE (XP X F0 H0) (f ρ) (fun b=>∀ F' H' s',Gr F H F' H'→Inv X pins σ H' s'→Q b s') →
  wpAny (model X.prog X.w) X.A (isTrue e X.env (eval e X.env)) Q X.xe s
noncomputable def SW (X:Cx) (F0 H0:Hp) (e:Expr) (f:TF):Prop :=
 ∀ (whole:Sem Value) (pins:List (Addr×Obj)) (s:Shared) (σ:St) (F H:Hp) (ρ:Rho) (Q:Bool→Shared→Prop),StOk (kx X) F0 H0 F H ρ σ→Inv X pins σ H s →
  KE (XP X F0 H0) (f ρ) (fun b=>∀ F' H' s',Gr F H F' H'→Inv X pins σ H' s'→Q b s') →
  wpAny (model X.prog X.w) X.A (isTrue e X.env whole) Q X.xe s
noncomputable def SA (X:Cx) (F0 H0:Hp) (es:List Expr) (f:List EF):Prop :=
 ∀ (pos:Pos) (pins:List (Addr×Obj)) (s:Shared) (σ:St) (F H:Hp) (ρ:Rho) (Q:List Value→Shared→Prop),StOk (kx X) F0 H0 F H ρ σ→Inv X pins σ H s →
  KE (XP X F0 H0) (evs f ρ) (fun ws=>∀ vs us F' H' s',Gr F H F' H'→Voks (kx X) H F' H' vs ws→Vals vs us→Inv X pins σ H' s'→Q us s') →
  wpAny (model X.prog X.w) X.A (spliced (backTo pos (starEach es X.env))) Q X.xe s
noncomputable def PostS (X:Cx) (F0 H0 F:Hp) (D:Ends):Out→Prop
 | .nx ρ'=>∀ σ' F' H',Le F F'→StOk (kx X) F0 H0 F' H' ρ' σ'→D.nx σ' H'
 | .bk ρ'=>∀ σ' F' H',Le F F'→StOk (kx X) F0 H0 F' H' ρ' σ'→D.bk σ' H'
 | .ct ρ'=>∀ σ' F' H',Le F F'→StOk (kx X) F0 H0 F' H' ρ' σ'→D.ct σ' H'
 | .rt w=>∀ v F' H',Gr F0 H0 F' H'→Vok (kx X) H0 F' H' v w→D.rt v H'
 | .exc x=>XPS X F0 H0 x
 | .stuck=>False
noncomputable def SS (X:Cx) (F0 H0:Hp) (st:Stmt) (f:SF):Prop :=
 ∀ (pins:List (Addr×Obj)) (s:Shared) (σ:St) (F H:Hp) (ρ:Rho) (D:Ends),StOk (kx X) F0 H0 F H ρ σ→Inv X pins σ H s→PostS X F0 H0 F D (f ρ) →
  wpAny (model X.prog X.w) X.A (exec st X.env) (SP X pins D) X.xe s
noncomputable def SSs (X:Cx) (F0 H0:Hp) (sts:List Stmt) (f:SF):Prop :=
 ∀ (pins:List (Addr×Obj)) (s:Shared) (σ:St) (F H:Hp) (ρ:Rho) (D:Ends),StOk (kx X) F0 H0 F H ρ σ→Inv X pins σ H s→PostS X F0 H0 F D (f ρ) →
  wpAny (model X.prog X.w) X.A (execs sts X.env) (SP X pins D) X.xe s
theorem PostS.le {X:Cx} {F0 H0 F F':Hp} {D:Ends} (l:Le F F') {o:Out} (h:PostS X F0 H0 F D o):PostS X F0 H0 F' D o:=by
 cases o with
 | nx ρ=>exact fun σ' F2 H2 l2 S=>h σ' F2 H2 (Le.trans l l2) S
 | bk ρ=>exact fun σ' F2 H2 l2 S=>h σ' F2 H2 (Le.trans l l2) S
 | ct ρ=>exact fun σ' F2 H2 l2 S=>h σ' F2 H2 (Le.trans l l2) S
 | rt w=>exact h
 | exc x=>exact h
 | stuck=>exact h
theorem PostS.of {α:Type} {X:Cx} {F0 H0 F:Hp} {D:Ends} {r:R α} {k:α→Out} (h:PostS X F0 H0 F D (sOf r k)):KE (XP X F0 H0) r fun a=>PostS X F0 H0 F D (k a):=by
 cases r <;> exact h
noncomputable def tSem (X:Cx) (e:Expr):TE:=fun σ H Q=>∀ (pins:List (Addr×Obj)) (s:Shared),Inv X pins σ H s→wpAny (model X.prog X.w) X.A (eval e X.env) (EP X pins σ Q) X.xe s
theorem pe_sem {X:Cx} {e:Expr}:PE X e (tSem X e):=fun pins s σ H Q I h=>h pins s I
theorem SE.sem {X:Cx} {F0 H0:Hp} {e:Expr} {f:EF} (h:SE X F0 H0 e f) {σ:St} {F H:Hp} {ρ:Rho} {Q:VK} (S:StOk (kx X) F0 H0 F H ρ σ)
  (k:KE (XP X F0 H0) (f ρ) fun w=>∀ v F' H',Gr F H F' H'→Vok (kx X) H F' H' v w→Q v H'):tSem X e σ H Q :=
 fun pins s I=>h pins s σ F H ρ _ S I (k.imp fun w q v u F' H' s' g vo r I'=>⟨v,H',I',r,q v F' H' g vo⟩)
noncomputable def tSemT (X:Cx) (e:Expr):TT:=fun σ H Q=>∀ (pins:List (Addr×Obj)) (s:Shared),Inv X pins σ H s→wpAny (model X.prog X.w) X.A (isTrue e X.env (eval e X.env)) (TP X pins σ Q) X.xe s
theorem pt_sem {X:Cx} {e:Expr}:PT X e (tSemT X e):=fun pins s σ H Q I h=>h pins s I
noncomputable def tSemS (X:Cx) (st:List Stmt):TS:=fun D σ H=>∀ (pins:List (Addr×Obj)) (s:Shared),Inv X pins σ H s→wpAny (model X.prog X.w) X.A (execs st X.env) (SP X pins D) X.xe s
theorem pss_sem {X:Cx} {st:List Stmt}:PSs X st (tSemS X st):=fun pins s σ H D I h=>h pins s I
section
variable {X:Cx} {F0 H0:Hp}
theorem se_var (i:Nat) {x:Str} {pos:Pos} (hN:X.N[i]?=some x:=by rfl) (hv:Vis X.env.scope x:=by trivial) (hd:(x == ("__debug__":Str))=false:=by decide)
  (hcd:(x == ("__classdict__":Str))=false:=by decide):SE X F0 H0 (.Name x pos) (eVar i):=by
 intro pins s σ F H ρ Q S I h
 have go:∀ w w':En,ρ[i]?=some (some w)→(∀ v,Eok (kx X) H0 F H v w→Vok (kx X) H F H v w') →
   (∀ v u F' H' s',Gr F H F' H'→Vok (kx X) H F' H' v w'→RelV v u→Inv X pins σ H' s'→Q u s')→wpAny (model X.prog X.w) X.A (eval (.Name x pos) X.env) Q X.xe s:=fun w w' e t k=>by
  obtain ⟨v,e1,q⟩:=S.val i w e
  refine thn (pe_var hN hv hd hcd pins s σ H (fun v' H'=>v'=v∧H'=H) I ⟨v,e1,rfl,rfl⟩) fun u s' ⟨v',H',I',r,ev,eh⟩=>?_
  subst ev eh
  exact k v' u F H' s' (Gr.refl S.s) (t v' q) r I'
 cases e:ρ[i]? with
 | none=>unfold eVar at h; rw [e] at h; exact h.elim
 | some w =>
  cases w with
  | none=>unfold eVar at h; rw [e] at h; exact h.elim
  | some w =>
   unfold eVar at h
   rw [e] at h
   cases w with
   | fz d=>exact go _ (.fz d) e (fun v q=>q) h
   | ow d=>exact go _ (.br d) e (fun v ⟨a,o,e1,_,_,e2,r⟩=>⟨a,o,e1,e2,r⟩) h
   | lk d=>exact go _ (.fz d) e (fun v q=>q.1) h
   | od d=>exact h.elim
   | br d=>exact go _ (.br d) e (fun v ⟨a,o,e1,e2,r⟩=>⟨a,o,e1,S.gr.h _ _ e2,r⟩) h
theorem se_of {e:Expr} {v:V} {d:D} (h:PE X e (tC v)) (r:∀ F,Rep (kx X) F v d):SE X F0 H0 e (eC d):=by
 intro pins s σ F H ρ Q S I k
 refine thn (h pins s σ H (fun v' H'=>v'=v∧H'=H) I ⟨rfl,rfl⟩) fun u s' ⟨v',H',I',rv,ev,eh⟩=>?_
 subst ev eh
 exact k v' u F H' s' (Gr.refl S.s) (r F) rv I'
theorem se_int {i:Int} {j pos}:SE X F0 H0 (.Constant (.int i) j pos) (eC (.int i)):=se_of pe_int fun _=>rfl
theorem se_bl {b:Bool} {j pos}:SE X F0 H0 (.Constant (.bool b) j pos) (eC (.bl b)):=se_of pe_bl fun _=>rfl
theorem se_str {x:Str} {j pos}:SE X F0 H0 (.Constant (.str x) j pos) (eC (.str x)):=se_of pe_str fun _=>rfl
noncomputable abbrev Wish (X:Cx) (F H:Hp) (r:R En) (Q:VK):Prop:=KE (fun _=>False) r fun w=>∀ v F' H',Gr F H F' H'→Vok (kx X) H F' H' v w→Q v H'
noncomputable def OpD (X:Cx) (f:Value→Value→Sem Value) (g:D→D→R En):Prop :=
 ∀ (pins:List (Addr×Obj)) (s:Shared) (σ:St) (F H:Hp) (x y:V) (v u:Value) (dx dy:D) (Q:VK),Inv X pins σ H s→Le F H→RelV x v→RelV y u→RdV (kx X) F H x dx→RdV (kx X) F H y dy→Wish X F H (g dx dy) Q →
  wpAny (model X.prog X.w) X.A (f v u) (EP X pins σ Q) X.xe s
noncomputable def CallD (X:Cx) (f:Value) (g:List D→R En):Prop :=
 ∀ (pins:List (Addr×Obj)) (s:Shared) (σ:St) (F H:Hp) (xs:List V) (us:List Value) (ds:List D) (Q:VK),Inv X pins σ H s→Le F H→Vals xs us→Paired (RdV (kx X) F H) xs ds→Wish X F H (g ds) Q →
  wpAny (model X.prog X.w) X.A (call f us) (EP X pins σ Q) X.xe s
variable {a b:Expr} {fa fb:EF} {pos:Pos} {g:D→D→R En}
theorem wish_end {F H F2 H2:Hp} {r:R En} {Q:Value→Shared→Prop} {pins:List (Addr×Obj)} {σ:St} (g2:Gr F H F2 H2)
  (h:KE (XP X F0 H0) r fun w=>∀ v u F' H' s',Gr F H F' H'→Vok (kx X) H F' H' v w→RelV v u→Inv X pins σ H' s'→Q u s') :
  Wish X F2 H2 r fun v H'=>∀ u s',RelV v u→Inv X pins σ H' s'→Q u s':=by
 refine KE.impX h (fun w k v F' H' g' q u s' r I=>?_) fun _ z=>z.elim
 exact k v u F' H' s' (g2.trans g') (Vok.older (fun a e=>Le.none g2.h e) q) r I
theorem ep_end {Q:Value→Shared→Prop} {pins:List (Addr×Obj)} {σ:St} {t:Sem Value} {s:Shared}
  (h:wpAny (model X.prog X.w) X.A t (EP X pins σ fun v H'=>∀ u s',RelV v u→Inv X pins σ H' s'→Q u s') X.xe s):wpAny (model X.prog X.w) X.A t Q X.xe s :=
 thn h fun u s' ⟨v,H',I',r,q⟩=>q u s' r I'
theorem two {f:Value→Value→Sem Value} (ha:SE X F0 H0 a fa) (hb:SE X F0 H0 b fb) {pins:List (Addr×Obj)} {s:Shared} {σ:St} {F H:Hp} {ρ:Rho} {Q:Value→Shared→Prop} (S:StOk (kx X) F0 H0 F H ρ σ) (I:Inv X pins σ H s)
  (h:KE (XP X F0 H0) (eOp g fa fb ρ) fun w=>∀ v u F' H' s',Gr F H F' H'→Vok (kx X) H F' H' v w→RelV v u→Inv X pins σ H' s'→Q u s')
  (ho:∀ (s:Shared) (F H:Hp) (x y:V) (v u:Value) (dx dy:D) (Q:VK),Inv X pins σ H s→Le F H→RelV x v→RelV y u→RdV (kx X) F H x dx→RdV (kx X) F H y dy→Wish X F H (g dx dy) Q →
   wpAny (model X.prog X.w) X.A (f v u) (EP X pins σ Q) X.xe s) :
  wpAny (model X.prog X.w) X.A (eval a X.env) (fun v s₁=>wpAny (model X.prog X.w) X.A (eval b X.env) (fun u s₂=>wpAny (model X.prog X.w) X.A (f v u) Q X.xe s₂) X.xe s₁) X.xe s:=by
 refine ha pins s σ F H ρ _ S I ((KE.bind h).imp fun wx h1 v u F1 H1 s1 g1 q1 r1 I1=>?_)
 refine hb pins s1 σ F1 H1 ρ _ (S.grow g1) I1 ((KE.bind h1).imp fun wy h2 v2 u2 F2 H2 s2 g2 q2 r2 I2=>?_)
 exact ep_end (ho s2 F2 H2 v v2 u u2 wx.d wy.d _ I2 g2.s r1 r2 (RdV.gr g2 (Vok.rd q1)) (Vok.rd q2) (wish_end (g1.trans g2) h2))
theorem se_op {op:Operator} (ho:OpD X (binaryOp op) g) (ha:SE X F0 H0 a fa) (hb:SE X F0 H0 b fb):SE X F0 H0 (.BinOp a op b pos) (eOp g fa fb) :=
 fun pins s σ F H ρ Q S I h=>wpAny_BinOp (two ha hb S I h fun s F H x y v u dx dy Q=>ho pins s σ F H x y v u dx dy Q)
theorem se_cmp {op:CmpOp} (ho:OpD X (compareOp op) g) (ha:SE X F0 H0 a fa) (hb:SE X F0 H0 b fb) (hm:behindInMarks op b=false:=by first|exact nobehind _ (by decide) (by decide)|rfl) :
  SE X F0 H0 (.Compare a [op] [b] pos) (eOp g fa fb) :=
 fun pins s σ F H ρ Q S I h=>wpAny_Compare1 (two ha hb S I h fun s F H x y v u dx dy Q=>ho pins s σ F H x y v u dx dy Q) hm
theorem wish_fz {F H:Hp} {v:V} {d:D} {Q:VK} (s:Le F H) (h:Wish X F H (.ok (.fz d)) Q) (r:Rep (kx X) F v d):Q v H:=h v F H (Gr.refl s) r
theorem opd_of {f:Value→Value→Sem Value} {r:R2} (ho:OpR X f r)
  (h:∀ F H x y dx dy Q,Le F H→RdV (kx X) F H x dx→RdV (kx X) F H y dy→Wish X F H (g dx dy) Q→r x y H Q):OpD X f g :=
 fun pins s σ F H x y v u dx dy Q I l rx ry qx qy w=>ho pins s σ H x y v u Q I rx ry (h F H x y dx dy Q l qx qy w)
theorem od_sub:OpD X (binaryOp .Sub) dSub:=opd_of op_sub fun F H x y dx dy Q l qx qy w=>by
 cases dx <;> first|exact w.elim|skip
 cases dy <;> first|exact w.elim|skip
 exact ⟨_,_,RdV.int qx,RdV.int qy,wish_fz l (v:=.int _) w rfl⟩
theorem od_mul:OpD X (binaryOp .Mult) dMul:=opd_of op_mul fun F H x y dx dy Q l qx qy w=>by
 cases dx <;> first|exact w.elim|skip
 cases dy <;> first|exact w.elim|skip
 rename_i i j
 unfold dMul at w
 dsimp only at w
 by_cases c:(fits b64 i || fits b64 j)=true
 ·rw [if_pos c] at w
  have p64:(2:Int) ^ 64=18446744073709551616:=by simp
  have c:(-(2 ^ 64) < i∧i < 2 ^ 64)∨(-(2 ^ 64) < j∧j < 2 ^ 64):=by
   rw [Bool.or_eq_true,fits_iff,fits_iff,b64e] at c
   rw [p64]
   (first|lia|omega)
  exact ⟨_,_,RdV.int qx,RdV.int qy,c,wish_fz l (v:=.int _) w rfl⟩
 ·rw [if_neg c] at w; exact w.elim
theorem od_mod:OpD X (binaryOp .Mod) dMod:=opd_of op_mod fun F H x y dx dy Q l qx qy w=>by
 cases dx <;> first|exact w.elim|skip
 cases dy <;> first|exact w.elim|skip
 rename_i i j
 unfold dMod at w
 dsimp only at w
 by_cases c:0 < j
 ·rw [if_pos c] at w
  exact ⟨_,_,RdV.int qx,RdV.int qy,c,wish_fz l (v:=.int _) w rfl⟩
 ·rw [if_neg c] at w; exact w.elim
theorem od_div:OpD X (binaryOp .FloorDiv) dDiv:=opd_of op_fdiv fun F H x y dx dy Q l qx qy w=>by
 cases dx <;> first|exact w.elim|skip
 cases dy <;> first|exact w.elim|skip
 rename_i i j
 unfold dDiv at w
 dsimp only at w
 by_cases c:0 < j∧j < 1073741824
 ·rw [if_pos c] at w
  exact ⟨_,_,RdV.int qx,RdV.int qy,c,wish_fz l (v:=.int _) w rfl⟩
 ·rw [if_neg c] at w; exact w.elim
theorem od_lt:OpD X (compareOp .Lt) dLt:=opd_of op_lt fun F H x y dx dy Q l qx qy w=>by
 cases dx <;> first|exact w.elim|skip
 cases dy <;> first|exact w.elim|skip
 exact ⟨_,_,RdV.int qx,RdV.int qy,wish_fz l (v:=.bl _) w rfl⟩
theorem od_le:OpD X (compareOp .LtE) dLe:=opd_of op_le fun F H x y dx dy Q l qx qy w=>by
 cases dx <;> first|exact w.elim|skip
 cases dy <;> first|exact w.elim|skip
 exact ⟨_,_,RdV.int qx,RdV.int qy,wish_fz l (v:=.bl _) w rfl⟩
theorem od_gt:OpD X (compareOp .Gt) dGt:=opd_of op_gt fun F H x y dx dy Q l qx qy w=>by
 cases dx <;> first|exact w.elim|skip
 cases dy <;> first|exact w.elim|skip
 exact ⟨_,_,RdV.int qx,RdV.int qy,wish_fz l (v:=.bl _) w rfl⟩
end
end L3
namespace L3
open PySem PySem.Spec PyProof.Rows L2
mutual
noncomputable def toPy:D→PyData
 | .non=>.none|.bl b=>.bool b|.int i=>.int i|.str x=>.str x
 | .tup xs=>.tuple (toPys xs)|.lst xs=>.list (toPys xs)
 | _=>.none
noncomputable def toPys:List D→List PyData
 | []=>[]
 | x::xs=>toPy x::toPys xs
end
mutual
theorem deq_py:∀ (n m:Nat) (a b:D),eqokN n a=true→eqokN m b=true→PyData.eqv (toPy a) (toPy b)=deq a b
 | n,m,a,b,ha,hb=>by
  cases a <;> cases b <;> first
   | rfl
   | (simp [eqokN] at ha; done)
   | (simp [eqokN] at hb; done)
   | skip
  ·rename_i xs ys
   cases n with
   | zero=>simp [eqokN] at ha
   | succ n =>
    cases m with
    | zero=>simp [eqokN] at hb
    | succ m=>exact deqs_py n m xs ys ha hb
  ·rename_i xs ys
   cases n with
   | zero=>simp [eqokN] at ha
   | succ n =>
    cases m with
    | zero=>simp [eqokN] at hb
    | succ m=>exact deqs_py n m xs ys ha hb
theorem deqs_py:∀ (n m:Nat) (a b:List D),a.all (eqokN n)=true→b.all (eqokN m)=true→PyData.eqvAll (toPys a) (toPys b)=deqs a b
 | _,_,[],[],_,_=>rfl
 | _,_,[],_::_,_,_=>rfl
 | _,_,_::_,[],_,_=>rfl
 | n,m,x::xs,y::ys,ha,hb=>by
  rw [List.all_cons,Bool.and_eq_true] at ha hb
  show (PyData.eqv (toPy x) (toPy y) && PyData.eqvAll (toPys xs) (toPys ys))=(deq x y && deqs xs ys)
  rw [deq_py n m x y ha.1 hb.1,deqs_py n m xs ys ha.2 hb.2]
end
theorem lay_py:∀ (n:Nat) (d:D),eqokN n d=true→(toPy d).canLay0=true∧(toPy d).depth ≤ n
 | n,.non,_=>⟨rfl,Nat.zero_le _⟩
 | n,.bl _,_=>⟨rfl,Nat.zero_le _⟩
 | n,.int _,_=>⟨rfl,Nat.zero_le _⟩
 | n,.str x,h=>⟨by cases n <;> exact h,Nat.zero_le _⟩
 | 0,.tup _,h=>by simp [eqokN] at h
 | 0,.lst _,h=>by simp [eqokN] at h
 | n+1,.tup xs,h=>by
  have k:∀ ys:List D,ys.all (eqokN n)=true→PyData.canLayAll0 (toPys ys)=true∧PyData.depthAll (toPys ys) ≤ n:=by
   intro ys
   induction ys with
   | nil=>intro _; exact ⟨rfl,Nat.zero_le _⟩
   | cons y ys ih =>
    intro hy
    rw [List.all_cons,Bool.and_eq_true] at hy
    obtain ⟨a1,a2⟩:=lay_py n y hy.1
    obtain ⟨b1,b2⟩:=ih hy.2
    refine ⟨?_,?_⟩
    ·show ((toPy y).canLay0 && PyData.canLayAll0 (toPys ys))=true
     rw [a1,b1]; rfl
    ·show max (toPy y).depth (PyData.depthAll (toPys ys)) ≤ n
     (first|lia|omega)
  obtain ⟨k1,k2⟩:=k xs h
  exact ⟨k1,Nat.succ_le_succ k2⟩
 | n+1,.lst xs,h=>by
  have k:∀ ys:List D,ys.all (eqokN n)=true→PyData.canLayAll0 (toPys ys)=true∧PyData.depthAll (toPys ys) ≤ n:=by
   intro ys
   induction ys with
   | nil=>intro _; exact ⟨rfl,Nat.zero_le _⟩
   | cons y ys ih =>
    intro hy
    rw [List.all_cons,Bool.and_eq_true] at hy
    obtain ⟨a1,a2⟩:=lay_py n y hy.1
    obtain ⟨b1,b2⟩:=ih hy.2
    refine ⟨?_,?_⟩
    ·show ((toPy y).canLay0 && PyData.canLayAll0 (toPys ys))=true
     rw [a1,b1]; rfl
    ·show max (toPy y).depth (PyData.depthAll (toPys ys)) ≤ n
     (first|lia|omega)
  obtain ⟨k1,k2⟩:=k xs h
  exact ⟨k1,Nat.succ_le_succ k2⟩
 | n,.dK _,h=>by cases n <;> simp [eqokN] at h
 | n,.dT _,h=>by cases n <;> simp [eqokN] at h
 | n,.xc _ _,h=>by cases n <;> simp [eqokN] at h
section
variable {X:Cx} {pins:List (Addr×Obj)} {σ:St} {F H:Hp} {s:Shared}
mutual
theorem rep_reads (I:Inv X pins σ H s) (l:Le F H):∀ (n:Nat) (d:D) {v:V} {u:Value},eqokN n d=true→Rep (kx X) F v d→RelV v u→∃ as,Reads s.heap u (toPy d) as
 | _,.non,v,u,_,r,q=>by cases (show v=.non from r); cases (show u=Value.none from q); exact ⟨_,.none⟩
 | _,.bl b,v,u,_,r,q=>by cases (show v=.bl b from r); cases (show u=Value.bool b from q); exact ⟨_,.bool b⟩
 | _,.int i,v,u,_,r,q=>by cases (show v=.int i from r); obtain ⟨t,rfl⟩:=(show ∃ t,u=Value.int i t from q); exact ⟨_,.int i t⟩
 | _,.str x,v,u,_,r,q=>by cases (show v=.str x from r); obtain ⟨t,rfl⟩:=(show ∃ t,u=Value.str x t from q); exact ⟨_,.str x t⟩
 | 0,.tup _,_,_,h,_,_=>by simp [eqokN] at h
 | 0,.lst _,_,_,h,_,_=>by simp [eqokN] at h
 | n+1,.tup ds,v,u,h,r,q=>by
  obtain ⟨a,vs,rfl,hq,rs⟩:=r
  cases (show u=Value.ref a from q)
  obtain ⟨its,rv,⟨o,e1,e2,m,e3⟩,hz⟩:=I.tuple (SqT.le l hq)
  obtain ⟨as,hr⟩:=reps_reads I l n ds h rs rv
  exact ⟨_,.tuple e1 e2 e3 (by simpa using hr)⟩
 | n+1,.lst ds,v,u,h,r,q=>by
  obtain ⟨a,vs,rfl,hq,rs⟩:=r
  cases (show u=Value.ref a from q)
  obtain ⟨its,rv,⟨o,m,e1,e2,_,e3⟩,hz⟩:=I.list (SqL.le l hq)
  obtain ⟨as,hr⟩:=reps_reads I l n ds h rs rv
  exact ⟨_,.list e1 e2 e3 (by simpa using hr)⟩
 | n,.dK _,_,_,h,_,_=>by cases n <;> simp [eqokN] at h
 | n,.dT _,_,_,h,_,_=>by cases n <;> simp [eqokN] at h
 | n,.xc _ _,_,_,h,_,_=>by cases n <;> simp [eqokN] at h
theorem reps_reads (I:Inv X pins σ H s) (l:Le F H):∀ (n:Nat) (ds:List D) {vs:List V} {us:List Value},ds.all (eqokN n)=true→Reps (kx X) F vs ds→Vals vs us→∃ as,ReadsAll s.heap us (toPys ds) as
 | n,[],vs,us,_,r,q=>by
  cases (show vs=[] from r)
  cases q
  exact ⟨_,.nil⟩
 | n,d::ds,vs,us,h,r,q=>by
  obtain ⟨v,r',rfl,r1,r2⟩:=r
  rw [List.all_cons,Bool.and_eq_true] at h
  cases q with
  | cons q1 q2 =>
   obtain ⟨as,h1⟩:=rep_reads I l n d h.1 r1 q1
   obtain ⟨bs,h2⟩:=reps_reads I l n ds h.2 r2 q2
   exact ⟨_,.cons h1 h2⟩
end
theorem rd_reads (I:Inv X pins σ H s) (l:Le F H) {n:Nat} {d:D} {v:V} {u:Value} (h:eqokN n d=true) (r:RdV (kx X) F H v d) (q:RelV v u):∃ as,Reads s.heap u (toPy d) as:=by
 rcases r with r|⟨a,o,rfl,e2,r⟩
 ·exact rep_reads I l n d h r q
 ·cases d with
  | lst ds =>
   cases n with
   | zero=>simp [eqokN] at h
   | succ n =>
    cases o with
    | lst vs =>
     cases (show u=Value.ref a from q)
     obtain ⟨its,rv,⟨o,m,e1,e2,_,e3⟩,hz⟩:=I.list (SqL.of e2)
     obtain ⟨as,hr⟩:=reps_reads I l n ds h r rv
     exact ⟨_,.list e1 e2 e3 (by simpa using hr)⟩
    | _=>exact r.elim
  | _=>exact rep_reads I l n _ h (RdV.flat (.inr ⟨a,o,rfl,e2,r⟩:RdV (kx X) F H _ _) (fun _ e=>nomatch e) (fun _ e=>by cases e <;> (cases n <;> simp [eqokN] at h)) (fun _ e=>by cases e <;> (cases n <;> simp [eqokN] at h))) q
end
section
variable {X:Cx} {F0 H0:Hp}
theorem od_eq (hu:X.A.units+10 < cLine):OpD X (compareOp .Eq) dEq:=by
 intro pins s σ F H x y v u dx dy Q I l rx ry qx qy w
 unfold dEq at w
 by_cases c:(eqok dx && eqok dy)=true
 ·rw [if_pos c] at w
  rw [Bool.and_eq_true] at c
  obtain ⟨as,h1⟩:=rd_reads I l c.1 qx rx
  obtain ⟨bs,h2⟩:=rd_reads I l c.2 qy ry
  obtain ⟨a1,a2⟩:=lay_py 8 dx c.1
  obtain ⟨b1,b2⟩:=lay_py 8 dy c.2
  refine SeqAt.compareEq_reads h1 h2 a1 b1 (by (first|lia|omega)) ?_
  rw [deq_py 8 8 dx dy c.1 c.2]
  exact ⟨.bl _,H,I,rfl,wish_fz (X:=X) l (v:=.bl _) w rfl⟩
 ·rw [if_neg c] at w; exact w.elim
theorem od_ne (hu:X.A.units+10 < cLine):OpD X (compareOp .NotEq) dNe:=by
 intro pins s σ F H x y v u dx dy Q I l rx ry qx qy w
 unfold dNe at w
 by_cases c:(eqok dx && eqok dy)=true
 ·rw [if_pos c] at w
  rw [Bool.and_eq_true] at c
  obtain ⟨as,h1⟩:=rd_reads I l c.1 qx rx
  obtain ⟨bs,h2⟩:=rd_reads I l c.2 qy ry
  obtain ⟨a1,a2⟩:=lay_py 8 dx c.1
  obtain ⟨b1,b2⟩:=lay_py 8 dy c.2
  refine SeqAt.compareNe_reads h1 h2 a1 b1 (by (first|lia|omega)) ?_
  rw [deq_py 8 8 dx dy c.1 c.2]
  exact ⟨.bl _,H,I,rfl,wish_fz (X:=X) l (v:=.bl _) w rfl⟩
 ·rw [if_neg c] at w; exact w.elim
theorem RepK.look {κ:Kx} {F:Hp}:∀ {kds:List (Sum Int Str×D)} {kvs:List (Key×V)} (k:Key),RepK κ F kvs kds→(∃ v d,valV kvs k=some v∧look k kds=some d∧Rep κ F v d)∨(valV kvs k=none∧look k kds=none)
 | [],_,k,h=>by cases (show _=_ from h); exact .inr ⟨rfl,rfl⟩
 | (q,d)::r,_,k,h=>by
  obtain ⟨v,kr,rfl,h1,h2⟩:=h
  by_cases e:q=k
  ·refine .inl ⟨v,d,?_,?_,h1⟩
   ·simp [valV,e]
   ·simp [L3.look,e]
  ·rcases RepK.look k h2 with ⟨v',d',a,b,c⟩|⟨a,b⟩
   ·refine .inl ⟨v',d',?_,?_,c⟩
    ·simpa [valV,e] using a
    ·simpa [L3.look,e] using b
   ·refine .inr ⟨?_,?_⟩
    ·simpa [valV,e] using a
    ·simpa [L3.look,e] using b
theorem RepK.length {κ:Kx} {F:Hp}:∀ {kds:List (Sum Int Str×D)} {kvs:List (Key×V)},RepK κ F kvs kds→kvs.length=kds.length
 | [],_,h=>by cases (show _=_ from h); rfl
 | (q,d)::r,_,h=>by
  obtain ⟨v,kr,rfl,h1,h2⟩:=h
  simp [RepK.length h2]
theorem Inv.dictK {pins:List (Addr×Obj)} {σ:St} {H:Hp} {s:Shared} {a:Addr} {kvs:List (Key×V)} (I:Inv X pins σ H s) (h:SqK (kx X) H a kvs) :
  (a == sysModules)=false∧∃ vs,KV kvs vs∧s.heap.DictOf (mixKind X.prog X.w) a vs:=by
 rcases h with h|⟨hs,o,es,ep,vs,hk,h1,h2,h3,h4,h5,h6⟩
 ·obtain ⟨_,hd,vs,rel,dd⟩:=dk_rd I.hok h
  exact ⟨hd,vs,rel,dd⟩
 ·exact ⟨hs,vs,h6,o,es,ep,I.kIn a o hk,h1,h2,h3,h4,h5⟩
noncomputable def IxD (X:Cx) (g:D→D→R En):Prop :=
 ∀ (value slice:Expr) (pins:List (Addr×Obj)) (s:Shared) (σ:St) (F H:Hp) (x y:V) (v u:Value) (dx dy:D) (Q:VK),Inv X pins σ H s→Le F H→RelV x v→RelV y u→RdV (kx X) F H x dx→RdV (kx X) F H y dy→Wish X F H (g dx dy) Q →
  subscripted slice false v u=operate [v,u] (getItem v u)→wpAny (model X.prog X.w) X.A (subscriptTail value slice v u) (EP X pins σ Q) X.xe s
variable {a b:Expr} {fa fb:EF} {pos:Pos} {g:D→D→R En}
theorem se_ixr (ho:IxD X g) (ha:SE X F0 H0 a fa) (hb:SE X F0 H0 b fb) (hs:PlainIx b:=by exact fun _ _=>rfl):SE X F0 H0 (.Subscript a b pos) (eOp g fa fb) :=
 fun pins s σ F H ρ Q S I h=>Subscript_ (two (f:=fun v u=>subscriptTail a b v u) ha hb S I h fun s F H x y v u dx dy Q I l rx ry qx qy w=>ho a b pins s σ F H x y v u dx dy Q I l rx ry qx qy w (hs _ _))
theorem ati_len {α β:Type} {xs:List α} {ys:List β} (h:xs.length=ys.length) {i:Int} {x:α} (e:ati xs i=some x):∃ j:Nat,xs[j]?=some x∧∀ y,ys[j]?=some y→atI ys i=some y:=by
 unfold ati at e
 cases q:ixn xs.length i with
 | none=>rw [q] at e; cases e
 | some j =>
  rw [q] at e
  refine ⟨j,e,fun y hy=>?_⟩
  unfold atI
  have:ixN ys.length i=some j:=by rw [← h]; exact q
  rw [this]; exact hy
noncomputable def dIxS:D→D→R En
 | .lst xs,.int i=>okD (ati xs i)
 | .tup xs,.int i=>okD (ati xs i)
 | _,_=>.stuck
theorem ixd_seq:IxD X dIxS:=by
 intro value slice pins s σ F H x y v u dx dy Q I l rx ry qx qy w hs
 cases dx <;> first|exact w.elim|skip
 ·rename_i ds
  cases dy <;> first|exact w.elim|skip
  rename_i i
  unfold dIxS at w
  dsimp only at w
  cases e:ati ds i with
  | none=>rw [e] at w; exact w.elim
  | some d =>
   rw [e] at w
   obtain ⟨p,vs,rfl,hq,_,rs⟩:=RdV.tup l qx
   obtain ⟨j,ej,k⟩:=ati_len (Reps.length rs).symm e
   obtain ⟨z,ez,rz⟩:=Reps.get rs ej
   exact ix_tup value slice pins s σ H _ _ v u Q I rx ry ⟨p,vs,i,z,rfl,RdV.int qy,hq,k z ez,wish_fz (X:=X) l w rz⟩ hs
 ·rename_i ds
  cases dy <;> first|exact w.elim|skip
  rename_i i
  unfold dIxS at w
  dsimp only at w
  cases e:ati ds i with
  | none=>rw [e] at w; exact w.elim
  | some d =>
   rw [e] at w
   obtain ⟨p,vs,rfl,hq,rs⟩:=RdV.lst l qx
   obtain ⟨j,ej,k⟩:=ati_len (Reps.length rs).symm e
   obtain ⟨z,ez,rz⟩:=Reps.get rs ej
   exact ix_list value slice pins s σ H _ _ v u Q I rx ry ⟨p,vs,i,z,rfl,RdV.int qy,hq,k z ez,wish_fz (X:=X) l w rz⟩ hs
theorem se_ix (ha:SE X F0 H0 a fa) (hb:SE X F0 H0 b fb) (hs:PlainIx b:=by exact fun _ _=>rfl):SE X F0 H0 (.Subscript a b pos) (eOp dIxS fa fb):=se_ixr ixd_seq ha hb hs
theorem sa_nil:SA X F0 H0 [] []:=fun pos pins s σ F H ρ Q S I h=>Calls.spliced_nil (h [] [] F H s (Gr.refl S.s) rfl .nil I)
theorem sa_cons {e:Expr} {es:List Expr} {f:EF} {r:List EF} (he:SE X F0 H0 e f) (hr:SA X F0 H0 es r) (hs:starEach (e::es) X.env=(false,eval e X.env)::starEach es X.env:=by rfl):SA X F0 H0 (e::es) (f::r):=by
 intro pos pins s σ F H ρ Q S I h
 rw [hs]
 refine Calls.spliced_cons (he pins s σ F H ρ _ S I ((KE.bind h).imp fun w h1 v u F1 H1 s1 g1 q1 r1 I1=>?_))
 refine hr pos pins s1 σ F1 H1 ρ _ (S.grow g1) I1 ((KE.bind h1).imp fun ws h2 vs us F2 H2 s2 g2 q2 r2 I2=>?_)
 exact h2 (v::vs) (u::us) F2 H2 s2 (g1.trans g2) ⟨v,vs,rfl,Vok.gr g2 q1,Voks.older (fun a e=>Le.none g1.h e) q2⟩ (.cons r1 r2) I2
theorem sz_eq:sz=sizeLine:=sizeLine_eq.symm
theorem new_lst {F H F1 H1:Hp} {p:Addr} {vs:List V} {ds:List D} (s:Le F H) (g:Gr F H F1 H1) (hp:H1 p=none) (r:Reps (kx X) (fzAll H F1 H1) vs ds) :
  Gr F H (fzAll H F1 H1) (upd H1 p (.lst vs))∧Vok (kx X) H (fzAll H F1 H1) (upd H1 p (.lst vs)) (.ref p) (.ow (.lst ds)):=by
 obtain ⟨g2,_⟩:=fzAll_gr s g
 have g3:=g2.trans (Gr.new (o:=.lst vs) g2.s hp)
 exact ⟨g3,p,_,rfl,Le.none g.h hp,Le.none g2.s hp,upd_same,r⟩
theorem new_tup {F H F1 H1:Hp} {p:Addr} {vs:List V} {ds:List D} (s:Le F H) (g:Gr F H F1 H1) (hp:H1 p=none) (r:Reps (kx X) (fzAll H F1 H1) vs ds) :
  Gr F H (upd (fzAll H F1 H1) p (.tup vs)) (upd H1 p (.tup vs))∧Vok (kx X) H (upd (fzAll H F1 H1) p (.tup vs)) (upd H1 p (.tup vs)) (.ref p) (.fz (.tup ds)):=by
 obtain ⟨g2,_⟩:=fzAll_gr s g
 have g3:=Gr.newF (o:=.tup vs) g2.s hp
 exact ⟨g2.trans g3,p,vs,rfl,SqT.of upd_same,Reps.le g3.f _ r⟩
theorem se_lst {es:List Expr} {f:List EF} (h:SA X F0 H0 es f):SE X F0 H0 (.List es pos) (eLst f):=by
 intro pins s σ F H ρ Q S I k
 refine wpAny_List_spliced (h pos pins s σ F H ρ _ S I ((KE.bind k).imp fun ws k1 vs us F1 H1 s1 g1 q1 r1 I1=>?_))
 cases e:stAll ws with
 | exc x=>rw [e] at k1; exact k1.elim
 | stuck=>rw [e] at k1; exact k1.elim
 | ok ds =>
  rw [e] at k1
  have rs:=Voks.stAll S.s g1 q1 e
  by_cases c:ds.length ≤ sz
  ·have k2:KE (XP X F0 H0) (R.ok (En.ow (.lst ds))) fun w=>∀ v u F' H' s',Gr F H F' H'→Vok (kx X) H F' H' v w→RelV v u→Inv X pins σ H' s'→Q u s':=by
    simpa [R.bind,if_pos c] using k1
   have hz:vs.length ≤ sizeLine:=by rw [Reps.length rs,← sz_eq]; exact c
   refine ⟨by rw [← r1.length]; exact hz,?_⟩
   have hf:H1 s1.heap.objs.size=none:=I1.hok.fresh (Nat.le_refl _)
   obtain ⟨g3,q3⟩:=new_lst (X:=X) S.s g1 hf rs
   exact k2 _ _ _ _ _ g3 q3 rfl (I1.laid (t':=s1.toks) (fun b u e=>Heap.get?_push_of_some _ e) (Nat.le_refl _) ⟨hz,us,0,r1,Heap.get?_push_size _ rfl⟩)
  ·have:False:=by simpa [R.bind,if_neg c,KE] using k1
   exact this.elim
theorem se_tup {es:List Expr} {f:List EF} {x1:Nat} (h:SA X F0 H0 es f):SE X F0 H0 (.Tuple es x1 pos) (eTup f):=by
 intro pins s σ F H ρ Q S I k
 refine wpAny_Tuple_spliced (h pos pins s σ F H ρ _ S I ((KE.bind k).imp fun ws k1 vs us F1 H1 s1 g1 q1 r1 I1=>?_))
 cases e:stAll ws with
 | exc x=>rw [e] at k1; exact k1.elim
 | stuck=>rw [e] at k1; exact k1.elim
 | ok ds =>
  rw [e] at k1
  have rs:=Voks.stAll S.s g1 q1 e
  by_cases c:ds.length ≤ sz
  ·have k2:KE (XP X F0 H0) (R.ok (En.fz (.tup ds))) fun w=>∀ v u F' H' s',Gr F H F' H'→Vok (kx X) H F' H' v w→RelV v u→Inv X pins σ H' s'→Q u s':=by
    simpa [R.bind,if_pos c] using k1
   have hz:vs.length ≤ sizeLine:=by rw [Reps.length rs,← sz_eq]; exact c
   refine ⟨by rw [← r1.length]; exact hz,?_⟩
   have hf:H1 s1.heap.objs.size=none:=I1.hok.fresh (Nat.le_refl _)
   obtain ⟨g3,q3⟩:=new_tup (X:=X) S.s g1 hf rs
   exact k2 _ _ _ _ _ g3 q3 rfl (I1.laid (t':=s1.toks) (fun b u e=>Heap.get?_push_of_some _ e) (Nat.le_refl _) ⟨hz,us,r1,⟨_,Heap.get?_push_size _ rfl,rfl,_,rfl⟩⟩)
  ·have:False:=by simpa [R.bind,if_neg c,KE] using k1
   exact this.elim
variable {x:Str} {e:Expr} {es:List Expr} {p:Pos} {id T:String} {gc:List D→R En} {f:List EF}
theorem se_callB (hc:CallD X (.builtin id) gc) (hm:X.mg x=none) (hv:bootBuiltins x=some (.builtin id)) (ha:SA X F0 H0 (e::es) f) (hg:Gl X x:=by rfl) (hn:x≠"__name__":=by decide) (hdb:(x == ("__debug__":Str))=false:=by decide)
  (he:starEach (e::es) X.env=(false,eval e X.env)::starEach es X.env:=by rfl) (hpl:(backTo pos (starEach es X.env)).any (·.1)=false:=by rfl):SE X F0 H0 (.Call (.Name x p) (e::es) [] pos) (eB gc f):=by
 intro pins s σ F H ρ Q S I h
 refine wpAny_Call_Name_kw (ld_blt I hg hm hv ?_ hn hdb)
 refine PyProof.Rows.callWith_builtin1 (ha pos pins s σ F H ρ _ S I ((KE.bind h).imp fun ws h1 vs us F1 H1 s1 g1 q1 r1 I1=>?_)) he hpl
 exact ep_end (hc pins s1 σ F1 H1 vs us _ _ I1 g1.s r1 (Voks.rd q1) (wish_end g1 h1))
theorem se_callTy (hc:CallD X (.type T) gc) (hm:X.mg x=none) (hv:bootBuiltins x=some (.type T)) (ha:SA X F0 H0 (e::es) f) (hg:Gl X x:=by rfl) (hn:x≠"__name__":=by decide) (hdb:(x == ("__debug__":Str))=false:=by decide)
  (he:starEach (e::es) X.env=(false,eval e X.env)::starEach es X.env:=by rfl) (hpl:(backTo pos (starEach es X.env)).any (·.1)=false:=by rfl):SE X F0 H0 (.Call (.Name x p) (e::es) [] pos) (eB gc f):=by
 intro pins s σ F H ρ Q S I h
 refine wpAny_Call_Name_kw (ld_blt I hg hm hv ?_ hn hdb)
 refine PyProof.Rows.callWith_type1 (ha pos pins s σ F H ρ _ S I ((KE.bind h).imp fun ws h1 vs us F1 H1 s1 g1 q1 r1 I1=>?_)) he hpl
 exact ep_end (hc pins s1 σ F1 H1 vs us _ _ I1 g1.s r1 (Voks.rd q1) (wish_end g1 h1))
theorem calld_of {fv:Value} {r:List V→Hp→VK→Prop} (hc:CallR X fv r) (h:∀ F H xs ds Q,Le F H→Paired (RdV (kx X) F H) xs ds→Wish X F H (gc ds) Q→r xs H Q):CallD X fv gc :=
 fun pins s σ F H xs us ds Q I l rx qx w=>hc pins s σ H xs us Q I rx (h F H xs ds Q l qx w)
noncomputable def dLenS:List D→R En
 | [.lst xs]=>okI xs.length
 | [.tup xs]=>okI xs.length
 | _=>.stuck
theorem cd_len:CallD X (.builtin "len") dLenS:=calld_of call_len_seq fun F H xs ds Q l qx w=>by
 cases qx with
 | nil=>exact w.elim
 | @cons x d xs ds q1 q2 =>
  cases q2 with
  | cons _ _=>cases d <;> exact w.elim
  | nil =>
   cases d <;> first|exact w.elim|skip
   ·obtain ⟨p,vs,rfl,hq,_,rs⟩:=RdV.tup l q1
    refine ⟨p,vs,rfl,.inr hq,?_⟩
    rw [Reps.length rs]
    exact wish_fz (X:=X) l (v:=.int _) w rfl
   ·obtain ⟨p,vs,rfl,hq,rs⟩:=RdV.lst l q1
    refine ⟨p,vs,rfl,.inl hq,?_⟩
    rw [Reps.length rs]
    exact wish_fz (X:=X) l (v:=.int _) w rfl
theorem cd_list:CallD X (.type "list") dList:=calld_of call_list_of fun F H xs ds Q l qx w=>by
 cases qx with
 | nil=>exact w.elim
 | @cons x d xs ds q1 q2 =>
  cases q2 with
  | cons _ _=>cases d <;> exact w.elim
  | nil =>
   cases d <;> first|exact w.elim|skip
   ·obtain ⟨p,vs,rfl,hq,_,rs⟩:=RdV.tup l q1
    refine ⟨p,vs,rfl,.inr hq,fun q hn=>?_⟩
    exact w _ _ _ (Gr.new l hn) ⟨q,_,rfl,hn,Le.none l hn,upd_same,rs⟩
   ·obtain ⟨p,vs,rfl,hq,rs⟩:=RdV.lst l q1
    refine ⟨p,vs,rfl,.inl hq,fun q hn=>?_⟩
    exact w _ _ _ (Gr.new l hn) ⟨q,_,rfl,hn,Le.none l hn,upd_same,rs⟩
end
end L3
namespace L3
open PySem PySem.Spec PyProof.Rows L2
section
variable {X:Cx} {F0 H0:Hp} {a b e:Expr} {fa fb f:EF} {pos:Pos} {g:D→D→R En} {t u:TF}
theorem truth_ok {pins:List (Addr×Obj)} {s:Shared} {σ:St} {F H:Hp} {x:V} {v:Value} {d:D} {Q:Bool→Shared→Prop} (I:Inv X pins σ H s) (l:Le F H) (rx:RelV x v) (q:RdV (kx X) F H x d)
  (h:KE (XP X F0 H0) (truth d) fun b=>∀ s',Inv X pins σ H s'→Q b s'):wpAny (model X.prog X.w) X.A (truthy v) Q X.xe s:=by
 have go:∀ b,TruV X.K x H b→(∀ s',Inv X pins σ H s'→Q b s')→wpAny (model X.prog X.w) X.A (truthy v) Q X.xe s:=fun b tv k =>
  thn (tru_ok pins s σ H x v (fun b' H'=>b'=b∧H'=H) I rx ⟨b,tv,rfl,rfl⟩) fun b' s' ⟨H',I',eb,eh⟩=>by
   subst eb eh
   exact k s' I'
 cases d with
 | non=>cases RdV.non q; exact go false rfl h
 | bl b=>cases RdV.bl q; exact go b rfl h
 | int i=>cases RdV.int q; exact go (i != 0) rfl h
 | str y =>
  cases RdV.str q
  unfold truth at h
  dsimp only at h
  by_cases c:y.length ≤ sz
  ·rw [if_pos c] at h
   exact go _ ⟨by rw [← sz_eq]; exact c,rfl⟩ h
  ·rw [if_neg c] at h; exact h.elim
 | tup ds =>
  obtain ⟨p,vs,rfl,hq,_,rs⟩:=RdV.tup l q
  refine go (!ds.isEmpty) (.inr (.inl ⟨vs,hq,?_⟩)) h
  have:=Reps.length rs
  cases vs <;> cases ds <;> simp_all
 | lst ds =>
  obtain ⟨p,vs,rfl,hq,rs⟩:=RdV.lst l q
  refine go (!ds.isEmpty) (.inl ⟨vs,hq,?_⟩) h
  have:=Reps.length rs
  cases vs <;> cases ds <;> simp_all
 | dK _=>exact h.elim
 | dT _=>exact h.elim
 | xc _ _=>exact h.elim
theorem st_cmp {op:CmpOp} (ho:OpD X (compareOp op) g) (ha:SE X F0 H0 a fa) (hb:SE X F0 H0 b fb) (hm:behindInMarks op b=false:=by first|exact nobehind _ (by decide) (by decide)|rfl) :
  ST X F0 H0 (.Compare a [op] [b] pos) (tE (eOp g fa fb)):=by
 intro pins s σ F H ρ Q S I h
 refine wpAny_isTrue_Compare1 (two (Q:=fun v s'=>wpAny (model X.prog X.w) X.A (truthy v) Q X.xe s') ha hb S I ((KE.bind h).imp fun w h1 v u F' H' s' g' q r I'=>?_) fun s F H x y v u dx dy Q=>ho pins s σ F H x y v u dx dy Q) hm
 exact truth_ok I' g'.s r (Vok.rd q) (h1.imp fun b k s2 I2=>k F' H' s2 g' I2)
theorem st_val (he:SE X F0 H0 e f) (hp:∀ whole,isTrue e X.env whole=(do let v ← whole; standAt e.pos; holding [v] (truthy v)):=by intro _; rfl):ST X F0 H0 e (tE f):=by
 intro pins s σ F H ρ Q S I h
 refine isTrue_plain (he pins s σ F H ρ _ S I ((KE.bind h).imp fun w h1 v u F' H' s' g' q r I'=>?_)) (hp _)
 exact truth_ok I' g'.s r (Vok.rd q) (h1.imp fun b k s2 I2=>k F' H' s2 g' I2)
theorem st_not (ha:ST X F0 H0 a t):ST X F0 H0 (.UnaryOp .Not a pos) (tNot t):=by
 intro pins s σ F H ρ Q S I h
 exact isTrue_not (ha pins s σ F H ρ _ S I ((KE.bind h).imp fun b k F' H' s' g' I'=>k F' H' s' g' I'))
variable {rest:List Expr}
theorem sw_and1 (ha:ST X F0 H0 a t):SW X F0 H0 (.BoolOp .And [a] pos) t:=by
 intro wh pins s σ F H ρ Q S I h
 refine isTrue_and (ha pins s σ F H ρ _ S I (h.imp fun c k F' H' s' g' I'=>?_))
 cases c with
 | true=>exact isTrue_and_nil (k F' H' s' g' I')
 | false=>exact k F' H' s' g' I'
theorem sw_or1 (ha:ST X F0 H0 a t):SW X F0 H0 (.BoolOp .Or [a] pos) t:=by
 intro wh pins s σ F H ρ Q S I h
 refine isTrue_or (ha pins s σ F H ρ _ S I (h.imp fun c k F' H' s' g' I'=>?_))
 cases c with
 | false=>exact isTrue_or_nil (k F' H' s' g' I')
 | true=>exact k F' H' s' g' I'
theorem ke_gr {F H F' H':Hp} {pins:List (Addr×Obj)} {σ:St} {Q:Bool→Shared→Prop} (g':Gr F H F' H') {r:R Bool} (h:KE (XP X F0 H0) r fun b=>∀ F2 H2 s2,Gr F H F2 H2→Inv X pins σ H2 s2→Q b s2) :
  KE (XP X F0 H0) r fun b=>∀ F2 H2 s2,Gr F' H' F2 H2→Inv X pins σ H2 s2→Q b s2:=h.imp fun b k F2 H2 s2 g2 I2=>k F2 H2 s2 (g'.trans g2) I2
theorem sw_and (ha:ST X F0 H0 a t) (hb:SW X F0 H0 (.BoolOp .And (b::rest) pos) u):SW X F0 H0 (.BoolOp .And (a::b::rest) pos) (tAnd t u):=by
 intro wh pins s σ F H ρ Q S I h
 refine isTrue_and (ha pins s σ F H ρ _ S I ((KE.bind h).imp fun c k F' H' s' g' I'=>?_))
 cases c with
 | true=>exact hb wh pins s' σ F' H' ρ Q (S.grow g') I' (ke_gr g' k)
 | false=>exact k F' H' s' g' I'
theorem sw_or (ha:ST X F0 H0 a t) (hb:SW X F0 H0 (.BoolOp .Or (b::rest) pos) u):SW X F0 H0 (.BoolOp .Or (a::b::rest) pos) (tOr t u):=by
 intro wh pins s σ F H ρ Q S I h
 refine isTrue_or (ha pins s σ F H ρ _ S I ((KE.bind h).imp fun c k F' H' s' g' I'=>?_))
 cases c with
 | false=>exact hb wh pins s' σ F' H' ρ Q (S.grow g') I' (ke_gr g' k)
 | true=>exact k F' H' s' g' I'
theorem st_w (h:SW X F0 H0 e t):ST X F0 H0 e t:=h _
theorem ke_grE {F H F' H':Hp} {pins:List (Addr×Obj)} {σ:St} {Q:Value→Shared→Prop} (g':Gr F H F' H') {r:R En}
  (h:KE (XP X F0 H0) r fun w=>∀ v u F2 H2 s2,Gr F H F2 H2→Vok (kx X) H F2 H2 v w→RelV v u→Inv X pins σ H2 s2→Q u s2) :
  KE (XP X F0 H0) r fun w=>∀ v u F2 H2 s2,Gr F' H' F2 H2→Vok (kx X) H' F2 H2 v w→RelV v u→Inv X pins σ H2 s2→Q u s2 :=
 h.imp fun w k v u F2 H2 s2 g2 q r I2=>k v u F2 H2 s2 (g'.trans g2) (Vok.older (fun a e=>Le.none g'.h e) q) r I2
theorem isB_ok {F H:Hp} {x:V} {v:Value} {d:D} {P:Bool→Prop} (q:RdV (kx X) F H x d) (r:RelV x v) (h:KE (XP X F0 H0) (isB d) P):∃ b,v=.bool b∧P b:=by
 cases d <;> first|exact h.elim|skip
 cases RdV.bl q
 cases r
 exact ⟨_,rfl,h⟩
theorem se_one {op} (h:SE X F0 H0 a fa):SE X F0 H0 (.BoolOp op [a] pos) fa:=fun pins s σ F H ρ Q S I k=>BoolOp_one (h pins s σ F H ρ Q S I k)
theorem se_and (ha:SE X F0 H0 a fa) (hb:SE X F0 H0 (.BoolOp .And (b::rest) pos) fb):SE X F0 H0 (.BoolOp .And (a::b::rest) pos) (eAnd fa fb):=by
 intro pins s σ F H ρ Q S I h
 refine BoolOp_and (ha pins s σ F H ρ _ S I ((KE.bind h).imp fun w h1 v u F' H' s' g' q r I'=>?_))
 obtain ⟨c,rfl,h2⟩:=isB_ok (Vok.rd q) r (KE.bind h1)
 refine wpAny_truthy_bool ?_
 cases c with
 | true=>exact hb pins s' σ F' H' ρ Q (S.grow g') I' (ke_grE g' h2)
 | false=>exact h2 (.bl false) _ F' H' s' g' rfl rfl I'
theorem se_not (ha:SE X F0 H0 a fa):SE X F0 H0 (.UnaryOp .Not a pos) (eNot fa):=by
 intro pins s σ F H ρ Q S I h
 refine UnaryOp_ (ha pins s σ F H ρ _ S I ((KE.bind h).imp fun w h1 v u F' H' s' g' q r I'=>?_))
 obtain ⟨c,rfl,h2⟩:=isB_ok (Vok.rd q) r (KE.bind h1)
 exact not_of (wpAny_truthy_bool (h2 (.bl (!c)) _ F' H' s' g' rfl rfl I'))
end
section
variable {X:Cx} {F0 H0:Hp} {e:Expr} {f:EF} {pos pos':Pos} {st:Stmt} {rest:List Stmt} {p q:SF} {t:TF}
theorem sss_nil:SSs X F0 H0 [] sNext:=fun pins s σ F H ρ D S I h=>wpAny_execs_nil ⟨σ,H,I,h σ F H Le.refl S⟩
theorem sss_cons (h1:SS X F0 H0 st p) (h2:SSs X F0 H0 rest q):SSs X F0 H0 (st::rest) (sSeq p q):=by
 intro pins s σ F H ρ D S I h
 have go:∀ D':Ends,D'.rt=D.rt→D'.bk=D.bk→D'.ct=D.ct→PostS X F0 H0 F D' (p ρ)→(∀ σ' H' s',D'.nx σ' H'→Inv X pins σ' H' s'→wpAny (model X.prog X.w) X.A (execs rest X.env) (SP X pins D) X.xe s') →
   wpAny (model X.prog X.w) X.A (execs (st::rest) X.env) (SP X pins D) X.xe s:=fun D' er eb ec hp hn=>by
  refine wpAny_execs_cons (thn (h1 pins s σ F H ρ D' S I hp) fun fl s1 r=>?_)
  cases fl with
  | next=>obtain ⟨σ',H',I',r⟩:=r; exact hn σ' H' s1 r I'
  | ret v=>obtain ⟨x,σ',H',I',rv,r⟩:=r; exact ⟨x,σ',H',I',rv,by rw [← er]; exact r⟩
  | brk=>obtain ⟨σ',H',I',r⟩:=r; exact ⟨σ',H',I',by rw [← eb]; exact r⟩
  | cont=>obtain ⟨σ',H',I',r⟩:=r; exact ⟨σ',H',I',by rw [← ec]; exact r⟩
 unfold sSeq at h
 cases ep:p ρ with
 | nx ρ' =>
  rw [ep] at h
  refine go { D with nx:=fun σ' H'=>∃ F',Le F F'∧StOk (kx X) F0 H0 F' H' ρ' σ' } rfl rfl rfl (by rw [ep]; exact fun σ' F' H' l S'=>⟨F',l,S'⟩) fun σ' H' s' ⟨F',l,S'⟩ I'=>?_
  exact h2 pins s' σ' F' H' ρ' D S' I' (PostS.le l h)
 | rt w=>rw [ep] at h; exact go { D with nx:=fun _ _=>False } rfl rfl rfl (by rw [ep]; exact h) fun _ _ _ z=>z.elim
 | bk ρ'=>rw [ep] at h; exact go { D with nx:=fun _ _=>False } rfl rfl rfl (by rw [ep]; exact h) fun _ _ _ z=>z.elim
 | ct ρ'=>rw [ep] at h; exact go { D with nx:=fun _ _=>False } rfl rfl rfl (by rw [ep]; exact h) fun _ _ _ z=>z.elim
 | exc x=>rw [ep] at h; exact go { D with nx:=fun _ _=>False } rfl rfl rfl (by rw [ep]; exact h) fun _ _ _ z=>z.elim
 | stuck=>rw [ep] at h; exact h.elim
theorem sss_one (h1:SS X F0 H0 st p):SSs X F0 H0 [st] p:=by
 intro pins s σ F H ρ D S I h
 refine wpAny_execs_cons (thn (h1 pins s σ F H ρ D S I h) fun fl s1 r=>?_)
 cases fl with
 | next=>exact wpAny_execs_nil r
 | ret v=>exact r
 | brk=>exact r
 | cont=>exact r
theorem nm_ok {w:En} {P:En→Prop} (h:KE (XP X F0 H0) w.nm P):∃ w',w.nm=.ok w'∧P w'∧w'=w:=by
 cases w with
 | fz d=>exact ⟨_,rfl,h,rfl⟩
 | ow d=>exact ⟨_,rfl,h,rfl⟩
 | br d=>exact h.elim
 | lk d=>exact h.elim
 | od d=>exact h.elim
theorem ss_set (i:Nat) {x:Str} (hN:X.N.Nodup) (he:SE X F0 H0 e f) (hi:X.N[i]?=some x:=by rfl) (hx:Loc X.env.scope x:=by trivial)
  (hs:swapsWith e (some (.Name x pos')) pos.line X.env=pure false:=by rfl) (hf:X.fn x=true∨X.env.scope.names.lookup x=some .local:=by trivial) :
  SS X F0 H0 (.Assign [.Name x pos'] e pos) (sSet i f):=by
 intro pins s σ F H ρ D S I h
 refine wpAny_Assign_Name (he pins s σ F H ρ _ S I ((KE.bind (PostS.of h)).imp fun w k v u F' H' s' g q r I'=>?_)) hs
 obtain ⟨w',e1,k2,rfl⟩:=nm_ok k
 exact store_ok I' hN hi hx r (fun s2 I2=>⟨_,H',I2,k2 _ F' H' g.f (S.setW g q e1)⟩) hf
theorem ss_ret (he:SE X F0 H0 e f):SS X F0 H0 (.Return (some e) pos) (sRet f):=by
 intro pins s σ F H ρ D S I h
 refine wpAny_Return_some (he pins s σ F H ρ _ S I ((KE.bind (PostS.of h)).imp fun w k v u F' H' s' g q r I'=>?_))
 obtain ⟨w',e1,k2,rfl⟩:=nm_ok k
 exact ⟨v,σ,H',I',r,k2 v F' H' (S.gr.trans g) (Vok.older (fun a e=>Le.none S.gr.h e) q)⟩
theorem ss_retV (i:Nat) {x:Str} {pos':Pos} (hN:X.N[i]?=some x:=by rfl) (hv:Vis X.env.scope x:=by trivial) (hd:(x == ("__debug__":Str))=false:=by decide)
  (hcd:(x == ("__classdict__":Str))=false:=by decide):SS X F0 H0 (.Return (some (.Name x pos')) pos) (sRetV i):=by
 intro pins s σ F H ρ D S I h
 have go:∀ w:En,ρ[i]?=some (some w)→(∀ v,Eok (kx X) H0 F H v w→Vok (kx X) H0 F H v w)→(∀ v F' H',Gr F0 H0 F' H'→Vok (kx X) H0 F' H' v w→D.rt v H') →
   wpAny (model X.prog X.w) X.A (exec (.Return (some (.Name x pos')) pos) X.env) (SP X pins D) X.xe s:=fun w ew t k=>by
  obtain ⟨v,e1,q⟩:=S.val i w ew
  refine wpAny_Return_some (thn (pe_var hN hv hd hcd pins s σ H (fun v' H'=>v'=v∧H'=H) I ⟨v,e1,rfl,rfl⟩) fun u s' ⟨v',H',I',r,ev,eh⟩=>?_)
  subst ev eh
  exact ⟨v',σ,H',I',r,k v' F H' S.gr (t v' q)⟩
 unfold sRetV at h
 cases ew:ρ[i]? with
 | none=>rw [ew] at h; exact h.elim
 | some w =>
  rw [ew] at h
  cases w with
  | none=>exact h.elim
  | some w =>
   cases w with
   | fz d=>exact go _ ew (fun v q=>q) h
   | ow d=>exact go _ ew (fun v q=>q) h
   | br d=>exact h.elim
   | lk d=>exact h.elim
   | od d=>exact h.elim
theorem ss_if {c:Expr} {as bs:List Stmt} (hc:ST X F0 H0 c t) (ha:SSs X F0 H0 as p) (hb:SSs X F0 H0 bs q):SS X F0 H0 (.If c as bs pos) (sIf t p q):=by
 intro pins s σ F H ρ D S I h
 refine wpAny_If (hc pins s σ F H ρ _ S I ((PostS.of h).imp fun d k F' H' s' g I'=>?_))
 cases d with
 | true=>exact ha pins s' σ F' H' ρ D (S.grow g) I' (PostS.le g.f k)
 | false=>exact hb pins s' σ F' H' ρ D (S.grow g) I' (PostS.le g.f k)
theorem ss_aug (i:Nat) {x:Str} {op:Operator} {g:D→D→R En} (hN:X.N.Nodup) (ho:OpD X (inplaceOp op) g) (he:SE X F0 H0 e f) (hi:X.N[i]?=some x:=by rfl) (hx:Loc X.env.scope x:=by trivial)
  (hf:X.fn x=true∨X.env.scope.names.lookup x=some .local:=by trivial):SS X F0 H0 (.AugAssign (.Name x pos') op e pos) (sAug i g f):=by
 intro pins s σ F H ρ D S I h
 unfold sAug at h
 cases ew:ρ[i]? with
 | none=>rw [ew] at h; exact h.elim
 | some w =>
  rw [ew] at h
  cases w with
  | none=>exact h.elim
  | some w =>
   cases w with
   | ow d=>exact h.elim
   | br d=>exact h.elim
   | lk d=>exact h.elim
   | od d=>exact h.elim
   | fz d =>
    obtain ⟨v,e1,q⟩:=S.val i _ ew
    have h:=KE.bind (PostS.of h)
    have ip:PIp X op (fun x y H' Q'=>∃ F' dx dy,Le F' H'∧RdV (kx X) F' H' x dx∧RdV (kx X) F' H' y dy∧Wish X F' H' (g dx dy) Q'):=fun pins s σ H x y v u Q I rx ry ⟨F',dx,dy,l,qx,qy,w⟩=>ho pins s σ F' H x y v u dx dy Q I l rx ry qx qy w
    refine ps_aug hN hi hx (pe_sem (e:=e)) ip hf pins s σ H D I ⟨v,e1,he.sem S (h.imp fun wy k y F1 H1 g1 q1=>⟨F1,d,wy.d,g1.s,Rep.le g1.f d q |> Or.inl,Vok.rd q1,?_⟩)⟩
    refine KE.impX (KE.bind k) (fun w k2 z F2 H2 g2 q2=>?_) fun _ z=>z.elim
    obtain ⟨w',e2,k3,rfl⟩:=nm_ok k2
    exact k3 _ F2 H2 (Le.trans g1.f g2.f) ((S.grow g1).setW g2 q2 e2)
theorem StOk.mut {κ:Kx} {F0 H0 F H:Hp} {ρ:Rho} {σ:St} {i:Nat} {d d':D} {a:Addr} {o:HO} (S:StOk κ F0 H0 F H ρ σ) (ei:ρ[i]?=some (some (.ow d))) (si:σ[i]?=some (some (.ref a))) (r:OwnO κ F o d') :
  StOk κ F0 H0 F (upd H a o) (ρ.set i (some (.ow d'))) σ:=by
 obtain ⟨v,e1,q⟩:=S.val i _ ei
 rw [si] at e1
 cases e1
 obtain ⟨b,ob,eb,h0,hf,hh,_⟩:=q
 cases eb
 refine ⟨⟨S.gr.f,fun c u h=>?_,fun c u h=>?_,S.gr.n⟩,by simpa using S.len,fun j w e=>?_,fun j k w w' c hjk ej ek oj ok sj sk=>?_,fun j y e=>?_⟩
 ·rw [upd_ne (ne_of_none h h0)]; exact S.gr.h c u h
 ·rw [upd_ne (ne_of_none h hf)]; exact S.gr.s c u h
 ·rcases set_get e with ⟨rfl,z⟩|⟨ne,z⟩
  ·cases z
   exact ⟨_,si,a,o,rfl,h0,hf,upd_same,r⟩
  ·obtain ⟨v,e1,q⟩:=S.val j w z
   refine ⟨v,e1,?_⟩
   have nb:∀ {c},v=.ref c→w.own=true→c≠a:=fun {c} ev ow ec=>by
    subst ev ec
    exact S.sep j i w _ c ne z ei ow rfl e1 si
   cases w with
   | fz d=>exact q
   | br d=>exact q
   | ow d =>
    obtain ⟨c,oc,ec,c0,cf,ch,cr⟩:=q
    exact ⟨c,oc,ec,c0,cf,by rw [upd_ne (nb ec rfl)]; exact ch,cr⟩
   | lk d=>exact q
   | od d =>
    obtain ⟨c,oc,ec,c0,cf,ch⟩:=q
    exact ⟨c,oc,ec,c0,cf,by rw [upd_ne (nb ec rfl)]; exact ch⟩
 ·have at_:∀ {m:Nat} {y:En},(ρ.set i (some (.ow d')))[m]?=some (some y)→y.own=true→∃ y',ρ[m]?=some (some y')∧y'.own=true:=fun {m y} h oy=>by
   rcases set_get h with ⟨rfl,_⟩|⟨_,z⟩
   ·exact ⟨_,ei,rfl⟩
   ·exact ⟨y,z,oy⟩
  obtain ⟨y,ej',oj'⟩:=at_ ej oj
  obtain ⟨y',ek',ok'⟩:=at_ ek ok
  exact S.sep j k y y' c hjk ej' ek' oj' ok' sj sk
 ·rcases set_get e with ⟨_,z⟩|⟨nj,ej⟩
  ·cases z
  obtain ⟨s1,c,bs,e1,c0,cf,nd,dp,sp⟩:=S.dp j y ej
  refine ⟨fun k z hk ek=>?_,c,bs,e1,c0,cf,nd,Deep.same (fun b m=>?_) (fun _ _ z=>z) Le.refl dp,fun k w b hk ek ok m=>?_⟩
  ·rcases set_get ek with ⟨_,q⟩|⟨_,q⟩
   ·cases q
   ·exact s1 k z hk q
  ·refine (upd_ne fun z=>?_).symm
   subst z
   exact sp i _ _ (Ne.symm nj) ei rfl m si
  ·rcases set_get ek with ⟨rfl,_⟩|⟨_,q⟩
   ·exact sp k _ b hk ei rfl m
   ·exact sp k w b hk q ok m
theorem ss_app (i:Nat) {x:Str} {apos cpos np:Pos} (he:SE X F0 H0 e f) (hN:X.N[i]?=some x:=by rfl) (hv:Vis X.env.scope x:=by trivial) (hd:(x == ("__debug__":Str))=false:=by decide)
  (hcd:(x == ("__classdict__":Str))=false:=by decide) (hbase:attributeBase (.Name x np) "append" X.env (eval (.Name x np) X.env)=eval (.Name x np) X.env:=by rfl)
  (hfew:((backTo cpos (starEach [e] X.env)).all (fun x=>!x.1) && (backToKw cpos (keywordEach [] X.env)).all (fun x=>x.1.isSome)
   && decide ([e].length+([]:List Keyword).length+(if ([]:List Keyword).isEmpty then 0 else 1) < 30))=true:=by rfl)
  (hline:(apos.endLine == cpos.line)=true:=by rfl) (hst:starEach [e] X.env=(false,eval e X.env)::starEach [] X.env:=by rfl) (hplain:(backTo cpos (starEach [] X.env)).any (·.1)=false:=by rfl)
  (hs:swapsWith (.Call (.Attribute (.Name x np) "append" apos) [e] [] cpos) none pos.line X.env=pure false:=by rfl) :
  SS X F0 H0 (.Expr (.Call (.Attribute (.Name x np) "append" apos) [e] [] cpos) pos) (sApp i f):=by
 intro pins s σ F H ρ D S I h
 unfold sApp at h
 cases ew:ρ[i]? with
 | none=>rw [ew] at h; exact h.elim
 | some w =>
  rw [ew] at h
  cases w with
  | none=>exact h.elim
  | some w =>
   cases w with
   | fz d=>exact h.elim
   | br d=>exact h.elim
   | lk d=>exact h.elim
   | od d=>exact h.elim
   | ow d =>
    cases d <;> first|exact h.elim|skip
    rename_i ds
    have h:=KE.bind (PostS.of h)
    obtain ⟨v,e1,a,o,rfl,h0,hf,hh,ro⟩:=S.val i _ ew
    cases o <;> first|exact ro.elim|skip
    rename_i vs
    have P:=ps_expr (pos:=pos) (pe_bm (X:=X) PySem.F.plainAttrs_list PySem.F.slot_list_append PySem.F.type_list_append mt_append (pe_var (pos:=np) hN hv hd hcd) (pa_cons (pe_sem (e:=e)) pa_nil hst) hbase hfew hline hst hplain) hs
    refine P pins s σ H D I ⟨_,e1,.inl ⟨rfl,vs,SqL.of hh⟩,he.sem S (h.imp fun w k y F1 H1 g1 q1=>?_)⟩
    cases es:w.st with
    | exc x=>rw [es] at k; exact k.elim
    | stuck=>rw [es] at k; exact k.elim
    | ok d =>
     rw [es] at k
     have ry:=Vok.st S.s g1 q1 es
     obtain ⟨g2,_⟩:=fzAll_gr S.s g1
     have lv:vs.length=ds.length:=Reps.length ro
     by_cases c:ds.length < sz
     ·have k2:PostS X F0 H0 F D (.nx (ρ.set i (some (.ow (.lst (ds++[d])))))):=by simpa [if_pos c,KE] using k
      refine ⟨a,vs,y,rfl,rfl,g1.h _ _ hh,by rw [lv,← sz_eq]; exact c,?_⟩
      exact k2 σ _ _ g2.f ((S.grow g2).mut ew e1 (o:=.lst (vs++[y])) (Reps.append (Reps.le g2.f _ ro) (Reps.one ry)))
     ·have:False:=by simpa [if_neg c,PostS,KE] using k
      exact this.elim
end
end L3
namespace L3
open PySem PySem.Spec PyProof.Rows L2
section
variable {X:Cx} {F0 H0:Hp} {pos:Pos} {t:TF} {p:SF}
theorem ss_while (n:Nat) {c:Expr} {body:List Stmt} (hp:PassesOwn (model X.prog X.w) X.A X.env X.xe) (hc:ST X F0 H0 c t) (hb:SSs X F0 H0 body p):SS X F0 H0 (.While c body [] pos) (sWhile n t p):=by
 intro pins s σ F H ρ D S I h
 refine ps_while hp (pt_sem (e:=c)) (pss_sem (st:=body)) pins s σ H D I
  ⟨fun m σ H=>∃ F' ρ,Le F F'∧StOk (kx X) F0 H0 F' H ρ σ∧PostS X F0 H0 F' D (whileD t p m ρ),⟨n,F,ρ,Le.refl,S,h⟩,?_⟩
 rintro m σ1 H1 ⟨F1,ρ1,l1,S1,h1⟩
 cases m with
 | zero=>exact h1.elim
 | succ m =>
  intro pins' s' I'
  refine hc pins' s' σ1 F1 H1 ρ1 _ S1 I' ((PostS.of h1).imp fun b k F2 H2 s2 g2 I2=>⟨H2,I2,?_⟩)
  cases b with
  | false=>exact k σ1 F2 H2 g2.f (S1.grow g2)
  | true =>
   show ∃ N:St→Hp→Prop,_
   refine ⟨fun σ' H'=>∃ F' ρ,Le F F'∧StOk (kx X) F0 H0 F' H' ρ σ'∧PostS X F0 H0 F' D (whileD t p m ρ),fun σ' H' q=>⟨m,Nat.lt_succ_self m,q⟩,fun pins3 s3 I3=>?_⟩
   refine hb pins3 s3 σ1 F2 H2 ρ1 _ (S1.grow g2) I3 ?_
   have k:PostS X F0 H0 F1 D (match p ρ1 with|.nx ρ2=>whileD t p m ρ2|.ct ρ2=>whileD t p m ρ2|.bk ρ2=>.nx ρ2|o=>o):=k
   cases ep:p ρ1 with
   | nx ρ2=>rw [ep] at k; exact fun σ' F' H' l S'=>⟨F',ρ2,Le.trans l1 (Le.trans g2.f l),S',PostS.le (Le.trans g2.f l) k⟩
   | ct ρ2=>rw [ep] at k; exact fun σ' F' H' l S'=>⟨F',ρ2,Le.trans l1 (Le.trans g2.f l),S',PostS.le (Le.trans g2.f l) k⟩
   | bk ρ2=>rw [ep] at k; exact fun σ' F' H' l S'=>k σ' F' H' (Le.trans g2.f l) S'
   | rt w=>rw [ep] at k; exact k
   | exc x=>rw [ep] at k; exact k
   | stuck=>rw [ep] at k; exact k
end
structure Walk (κ:Kx) (J:It) (F1 G:Hp) (ds:List D):Prop where
 go:∀ (i:Nat) (d:D) (F H:Hp),ds[i]?=some d→Le F1 F→Le F H→Le G H→J.go i H∧∀ x H',J.yld i H x H'→∃ F',Gr F H F' H'∧Rep κ F' x d
 stop:∀ (i:Nat) (F H:Hp),ds.length ≤ i→Le F1 F→Le F H→Le G H→J.stop i H
theorem Walk.more {κ:Kx} {J:It} {F1 G G':Hp} {ds:List D} (W:Walk κ J F1 G ds) (l:Le G G'):Walk κ J F1 G' ds :=
 ⟨fun i d F H e l1 l2 l3=>W.go i d F H e l1 l2 (Le.trans l l3),fun i F H e l1 l2 l3=>W.stop i F H e l1 l2 (Le.trans l l3)⟩
noncomputable def SI (X:Cx) (F0 H0:Hp) (tg iter:Expr) (fi:IF):Prop :=
 ∃ wi,PI X tg iter wi∧∀ (σ:St) (F H:Hp) (ρ:Rho) (R:It→Hp→Prop),StOk (kx X) F0 H0 F H ρ σ →
  KE (XP X F0 H0) (fi ρ) (fun ds=>∀ F1 H1 J,Gr F H F1 H1→Walk (kx X) J F1 H0 ds→R J H1)→wi σ H R
noncomputable def SIc (X:Cx) (F0 H0:Hp) (tg iter:Expr) (fi:IF):Prop :=
 ∃ wi,PI X tg iter wi∧∀ (σ:St) (F H:Hp) (ρ:Rho) (R:It→Hp→Prop),StOk (kx X) F0 H0 F H ρ σ →
  KE (XP X F0 H0) (fi ρ) (fun ds=>∀ F1 H1 J,Gr F H F1 H1→Walk (kx X) J F1 H1 ds→R J H1)→wi σ H R
theorem SI.c {X:Cx} {F0 H0:Hp} {tg iter:Expr} {fi:IF} (h:SI X F0 H0 tg iter fi):SIc X F0 H0 tg iter fi:=by
 obtain ⟨wi,P,k⟩:=h
 exact ⟨wi,P,fun σ F H ρ R S q=>k σ F H ρ R S (q.imp fun ds z F1 H1 J g W=>z F1 H1 J g (W.more (Le.trans S.gr.h g.h)))⟩
noncomputable def SG (X:Cx) (F0 H0:Hp) (tg:Expr) (gf:GF):Prop :=
 ∃ tgv,PG X tg tgv∧∀ (σ:St) (F H:Hp) (ρ:Rho) (v:V) (d:D) (Q:St→Hp→Prop),StOk (kx X) F0 H0 F H ρ σ→Rep (kx X) F v d →
  KE (fun _=>False) (gf d ρ) (fun ρ1=>∀ σ1,StOk (kx X) F0 H0 F H ρ1 σ1→Q σ1 H)→tgv v σ H Q
section
variable {X:Cx} {F0 H0:Hp} {pos:Pos} {tg iter:Expr} {fi:IF} {gf:GF} {p:SF} {f:EF}
theorem sg_name (i:Nat) {x:Str} (hN:X.N.Nodup) (hi:X.N[i]?=some x:=by rfl) (hx:Loc X.env.scope x:=by trivial)
  (hf:X.fn x=true∨X.env.scope.names.lookup x=some .local:=by trivial):SG X F0 H0 (.Name x pos) (gV i) :=
 ⟨_,pg_name hN hi hx hf,fun σ F H ρ v d Q S r h=>h _ (S.setF r)⟩
noncomputable def sAsg (gf:GF) (f:EF):SF:=fun ρ=>sOf ((f ρ).bind fun w=>w.st.bind fun d=>gf d ρ) .nx
theorem ss_for {body:List Stmt} (hp:PassesOwn (model X.prog X.w) X.A X.env X.xe) (hc:X.calm=true) (hi:SI X F0 H0 tg iter fi) (hg:SG X F0 H0 tg gf) (hb:SSs X F0 H0 body p)
  (hs:∀ x,foldedSetIterable iter X.env x=pure x:=by intro _; rfl):SS X F0 H0 (.For tg iter body [] pos) (sFor fi gf p):=by
 intro pins s σ F H ρ D S I h
 obtain ⟨wi,PIv,hwi⟩:=hi
 obtain ⟨tgv,PGv,hgv⟩:=hg
 refine ps_for hp hc PIv PGv (pss_sem (st:=body)) hs pins s σ H D I (hwi σ F H ρ _ S ((PostS.of h).imp fun ds k F1 H1 J g1 W=>?_))
 refine ⟨fun i m σ H=>m=ds.length - i∧i ≤ ds.length∧∃ F' ρ,Le F F'∧Le F1 F'∧StOk (kx X) F0 H0 F' H ρ σ∧PostS X F0 H0 F' D (forD gf p (ds.drop i) ρ),
  ⟨ds.length,by simp,Nat.zero_le _,F1,ρ,g1.f,Le.refl,S.grow g1,PostS.le g1.f (by simpa using k)⟩,?_⟩
 rintro i m σ2 H2 ⟨rfl,hi,F2,ρ2,lF,l1,S2,h2⟩
 by_cases hlt:i < ds.length
 ·have ed:ds[i]?=some ds[i]:=by simp [hlt]
  have edr:ds.drop i=ds[i]::ds.drop (i+1):=List.drop_eq_getElem_cons hlt
  obtain ⟨go,yl⟩:=W.go i ds[i] F2 H2 ed l1 S2.s S2.gr.h
  refine .inr ⟨go,fun σ' H'=>∃ F' ρ,Le F F'∧Le F1 F'∧StOk (kx X) F0 H0 F' H' ρ σ'∧PostS X F0 H0 F' D (forD gf p (ds.drop (i+1)) ρ),fun σ' H' q=>⟨ds.length - (i+1),by (first|lia|omega),rfl,hlt,q⟩,fun x H' y=>?_⟩
  obtain ⟨F3,g3,rx⟩:=yl x H' y
  rw [edr] at h2
  have S3:=S2.grow g3
  refine hgv σ2 F3 H' ρ2 x ds[i] _ S3 rx ?_
  cases eg:gf ds[i] ρ2 with
  | exc e=>unfold forD at h2; rw [eg] at h2; exact h2.elim
  | stuck=>unfold forD at h2; rw [eg] at h2; exact h2.elim
  | ok ρ3 =>
   have h3:PostS X F0 H0 F2 D (match p ρ3 with|.nx ρ4=>forD gf p (ds.drop (i+1)) ρ4|.ct ρ4=>forD gf p (ds.drop (i+1)) ρ4|.bk ρ4=>.nx ρ4|o=>o):=by
    unfold forD at h2; rw [eg] at h2; exact h2
   refine fun σ3 S4 pins3 s3 I3=>hb pins3 s3 σ3 F3 H' ρ3 _ S4 I3 ?_
   cases ep:p ρ3 with
   | nx ρ4=>rw [ep] at h3; exact fun σ' F' H' l S'=>⟨F',ρ4,Le.trans lF (Le.trans g3.f l),Le.trans l1 (Le.trans g3.f l),S',PostS.le (Le.trans g3.f l) h3⟩
   | ct ρ4=>rw [ep] at h3; exact fun σ' F' H' l S'=>⟨F',ρ4,Le.trans lF (Le.trans g3.f l),Le.trans l1 (Le.trans g3.f l),S',PostS.le (Le.trans g3.f l) h3⟩
   | bk ρ4=>rw [ep] at h3; exact fun σ' F' H' l S'=>h3 σ' F' H' (Le.trans g3.f l) S'
   | rt w=>rw [ep] at h3; exact h3
   | exc x=>rw [ep] at h3; exact h3
   | stuck=>rw [ep] at h3; exact h3
 ·have e:i=ds.length:=by (first|lia|omega)
  subst e
  rw [List.drop_length] at h2
  exact .inl ⟨W.stop _ F2 H2 (Nat.le_refl _) l1 S2.s S2.gr.h,h2 σ2 F2 H2 Le.refl S2⟩
theorem walk_lst {κ:Kx} {F1 G:Hp} {a:Addr} {vs:List V} {ds:List D} (hq:SqL κ.K F1 a vs) (rs:Reps κ F1 vs ds):Walk κ (Itl κ.K a) F1 G ds where
 go:=fun i d F H ed l1 l _=>by
  obtain ⟨v,ev,rv⟩:=Reps.get rs ed
  have q:=SqL.le l (SqL.le l1 hq)
  refine ⟨⟨vs,v,q,ev⟩,fun x H' y=>?_⟩
  obtain ⟨e,y⟩:=y
  subst e
  have:=y vs q
  rw [ev] at this
  cases this
  exact ⟨F,Gr.refl l,Rep.le l1 d rv⟩
 stop:=fun i F H hi l1 l _=>⟨vs,SqL.le l (SqL.le l1 hq),by rw [Reps.length rs]; exact hi⟩
theorem walk_tup {κ:Kx} {F1 G:Hp} {a:Addr} {vs:List V} {ds:List D} (hq:SqT κ.K F1 a vs) (rs:Reps κ F1 vs ds):Walk κ (Itt κ.K a) F1 G ds where
 go:=fun i d F H ed l1 l _=>by
  obtain ⟨v,ev,rv⟩:=Reps.get rs ed
  have q:=SqT.le l (SqT.le l1 hq)
  refine ⟨⟨vs,v,q,ev⟩,fun x H' y=>?_⟩
  obtain ⟨e,y⟩:=y
  subst e
  have:=y vs q
  rw [ev] at this
  cases this
  exact ⟨F,Gr.refl l,Rep.le l1 d rv⟩
 stop:=fun i F H hi l1 l _=>⟨vs,SqT.le l (SqT.le l1 hq),by rw [Reps.length rs]; exact hi⟩
theorem walk_brl {κ:Kx} {F1 G:Hp} {a:Addr} {vs:List V} {ds:List D} (hq:SqL κ.K G a vs) (rs:Reps κ F1 vs ds):Walk κ (Itl κ.K a) F1 G ds where
 go:=fun i d F H ed l1 l lg=>by
  obtain ⟨v,ev,rv⟩:=Reps.get rs ed
  have q:=SqL.le lg hq
  refine ⟨⟨vs,v,q,ev⟩,fun x H' y=>?_⟩
  obtain ⟨e,y⟩:=y
  subst e
  have:=y vs q
  rw [ev] at this
  cases this
  exact ⟨F,Gr.refl l,Rep.le l1 d rv⟩
 stop:=fun i F H hi l1 l lg=>⟨vs,SqL.le lg hq,by rw [Reps.length rs]; exact hi⟩
theorem PI.or {iter:Expr} {w1 w2:TI} (h1:PI X tg iter w1) (h2:PI X tg iter w2):PI X tg iter (fun σ H R=>w1 σ H R∨w2 σ H R):=fun pins s σ H R I h=>by
 rcases h with h|h
 ·exact h1 pins s σ H R I h
 ·exact h2 pins s σ H R I h
theorem si_seq {iter:Expr} (he:SE X F0 H0 iter f):SI X F0 H0 tg iter (iSeq f):=by
 refine ⟨_,PI.or (pi_list (pe_sem (e:=iter))) (pi_tup (pe_sem (e:=iter))),fun σ F H ρ R S h=>?_⟩
 have h:=KE.bind h
 cases ew:f ρ with
 | exc x=>rw [ew] at h; exact h.elim
 | stuck=>rw [ew] at h; exact h.elim
 | ok w =>
  rw [ew] at h
  cases es:w.st with
  | exc x=>rw [KE_ok,es] at h; exact h.elim
  | stuck=>rw [KE_ok,es] at h; exact h.elim
  | ok d =>
   rw [KE_ok,es] at h
   cases d <;> first|exact h.elim|skip
   ·rename_i ds
    refine .inr (he.sem S ?_)
    rw [ew,KE_ok]
    intro v F1 H1 g1 q1
    obtain ⟨g2,_⟩:=fzAll_gr S.s g1
    obtain ⟨a,vs,rfl,hq,rs⟩:=Vok.st S.s g1 q1 es
    exact ⟨a,rfl,⟨vs,SqT.le g2.s hq⟩,h _ H1 _ g2 (walk_tup (κ:=kx X) hq rs)⟩
   ·rename_i ds
    refine .inl (he.sem S ?_)
    rw [ew,KE_ok]
    intro v F1 H1 g1 q1
    obtain ⟨g2,_⟩:=fzAll_gr S.s g1
    obtain ⟨a,vs,rfl,hq,rs⟩:=Vok.st S.s g1 q1 es
    exact ⟨a,rfl,⟨vs,SqL.le g2.s hq⟩,h _ H1 _ g2 (walk_lst (κ:=kx X) hq rs)⟩
theorem si_var (i:Nat) {x:Str} {pos:Pos} (hN:X.N[i]?=some x:=by rfl) (hv:Vis X.env.scope x:=by trivial) (hd:(x == ("__debug__":Str))=false:=by decide)
  (hcd:(x == ("__classdict__":Str))=false:=by decide):SI X F0 H0 tg (.Name x pos) (iV i):=by
 refine ⟨_,PI.or (pi_list (pe_var (pos:=pos) hN hv hd hcd)) (pi_tup (pe_var (pos:=pos) hN hv hd hcd)),fun σ F H ρ R S h=>?_⟩
 unfold iV at h
 cases ew:ρ[i]? with
 | none=>rw [ew] at h; exact h.elim
 | some w =>
  rw [ew] at h
  cases w with
  | none=>exact h.elim
  | some w =>
   obtain ⟨v,e1,q⟩:=S.val i w ew
   cases w with
   | ow d=>exact h.elim
   | lk d=>exact h.elim
   | od d=>exact h.elim
   | fz d =>
    cases d <;> first|exact h.elim|skip
    ·obtain ⟨a,vs,rfl,hq,rs⟩:=q
     exact .inr ⟨_,e1,a,rfl,⟨vs,SqT.le S.s hq⟩,h F H _ (Gr.refl S.s) (walk_tup (κ:=kx X) hq rs)⟩
    ·obtain ⟨a,vs,rfl,hq,rs⟩:=q
     exact .inl ⟨_,e1,a,rfl,⟨vs,SqL.le S.s hq⟩,h F H _ (Gr.refl S.s) (walk_lst (κ:=kx X) hq rs)⟩
   | br d =>
    obtain ⟨a,o,rfl,eh,ro⟩:=q
    cases d <;> first|exact h.elim|skip
    ·cases o <;> exact ro.elim
    ·cases o <;> first|exact ro.elim|skip
     exact .inl ⟨_,e1,a,rfl,⟨_,SqL.of (S.gr.h _ _ eh)⟩,h F H _ (Gr.refl S.s) (walk_brl (κ:=kx X) (SqL.of eh) ro)⟩
theorem sic_var (i:Nat) {x:Str} {pos:Pos} (hN:X.N[i]?=some x:=by rfl) (hv:Vis X.env.scope x:=by trivial) (hd:(x == ("__debug__":Str))=false:=by decide)
  (hcd:(x == ("__classdict__":Str))=false:=by decide):SIc X F0 H0 tg (.Name x pos) (iVc i):=by
 refine ⟨_,PI.or (pi_list (pe_var (pos:=pos) hN hv hd hcd)) (pi_tup (pe_var (pos:=pos) hN hv hd hcd)),fun σ F H ρ R S h=>?_⟩
 unfold iVc at h
 cases ew:ρ[i]? with
 | none=>rw [ew] at h; exact h.elim
 | some w =>
  rw [ew] at h
  cases w with
  | none=>exact h.elim
  | some w =>
   obtain ⟨v,e1,q⟩:=S.val i w ew
   have own:∀ {d:D} {a:Addr} {o:HO},v=.ref a→H a=some o→OwnO (kx X) F o d→KE (XP X F0 H0) (seqOf d) (fun ds=>∀ F1 H1 J,Gr F H F1 H1→Walk (kx X) J F1 H1 ds→R J H1) →
     iList X.K (tVar i) σ H R∨iTup X.K (tVar i) σ H R:=fun {d a o} ev eh ro h=>by
    subst ev
    cases d <;> first|exact h.elim|skip
    ·cases o <;> exact ro.elim
    ·cases o <;> first|exact ro.elim|skip
     exact .inl ⟨_,e1,a,rfl,⟨_,SqL.of eh⟩,h F H _ (Gr.refl S.s) (walk_brl (κ:=kx X) (SqL.of eh) ro)⟩
   cases w with
   | ow d=>obtain ⟨a,o,ev,_,_,eh,ro⟩:=q; exact own ev eh ro h
   | lk d=>exact h.elim
   | od d=>exact h.elim
   | br d=>obtain ⟨a,o,ev,eh,ro⟩:=q; exact own ev (S.gr.h _ _ eh) ro h
   | fz d =>
    dsimp only at h
    cases d <;> first|exact h.elim|skip
    ·obtain ⟨a,vs,rfl,hq,rs⟩:=q
     exact .inr ⟨_,e1,a,rfl,⟨vs,SqT.le S.s hq⟩,h F H _ (Gr.refl S.s) (walk_tup (κ:=kx X) hq rs)⟩
    ·obtain ⟨a,vs,rfl,hq,rs⟩:=q
     exact .inl ⟨_,e1,a,rfl,⟨vs,SqL.le S.s hq⟩,h F H _ (Gr.refl S.s) (walk_lst (κ:=kx X) hq rs)⟩
theorem rngD_get:∀ (n:Nat) (lo:Int) (i:Nat),(rngD lo n)[i]?=if i < n then some (.int (lo+i)) else none
 | 0,lo,i=>by simp [rngD]
 | n+1,lo,0=>by simp [rngD]
 | n+1,lo,i+1=>by
  have:=rngD_get n (lo+1) i
  simp only [rngD,List.getElem?_cons_succ,this]
  by_cases h:i < n
  ·rw [if_pos h,if_pos (by (first|lia|omega))]
   congr 2
   (first|lia|omega)
  ·rw [if_neg h,if_neg (by (first|lia|omega))]
theorem rngD_len:∀ (n:Nat) (lo:Int),(rngD lo n).length=n
 | 0,_=>rfl
 | n+1,lo=>by simp [rngD,rngD_len n]
theorem walk_rng {κ:Kx} {F1 G:Hp} (lo:Int) (n:Nat):Walk κ (Itr lo n) F1 G (rngD lo n) where
 go:=fun i d F H ed l1 l _=>by
  rw [rngD_get] at ed
  by_cases h:i < n
  ·rw [if_pos h] at ed
   cases ed
   refine ⟨h,fun x H' y=>?_⟩
   obtain ⟨e,y⟩:=y
   subst e y
   exact ⟨F,Gr.refl l,rfl⟩
  ·rw [if_neg h] at ed; cases ed
 stop:=fun i F H hi l1 l _=>by rw [rngD_len] at hi; exact hi
theorem si_range1 {a:Expr} {fa:EF} {np cp:Pos} (ha:SE X F0 H0 a fa) (hm:X.mg "range"=none) (hg:Gl X "range":=by rfl) (hs:starEach [a] X.env=[(false,eval a X.env)]:=by rfl):SI X F0 H0 tg (.Call (.Name "range" np) [a] [] cp) (iR1 fa):=by
 refine ⟨_,pi_range1 hg hm (pa_cons (pe_sem (e:=a)) pa_nil hs) hs,fun σ F H ρ R S h=>ha.sem S ((KE.bind h).imp fun w k v F1 H1 g1 q1=>?_)⟩
 have r:=Vok.rd q1
 revert k
 generalize w.d=d at r
 intro k
 cases d <;> first|exact k.elim|skip
 rename_i j
 dsimp only at k
 by_cases c:fits b62 j=true
 ·rw [if_pos c] at k
  have p62:(2:Int) ^ 62=4611686018427387904:=by simp
  have c:-(2 ^ 62) ≤ j∧j < 2 ^ 62:=by
   rw [fits_iff,b62e] at c
   rw [p62]
   (first|lia|omega)
  cases RdV.int r
  exact ⟨j,rfl,c.1,c.2,k F1 H1 _ g1 (walk_rng 0 j.toNat)⟩
 ·rw [if_neg c] at k; exact k.elim
end
noncomputable def Args (κ:Kx) (F H:Hp):List V→List En→Prop
 | vs,[]=>vs=[]
 | vs,.fz d::ws=>∃ v r,vs=v::r∧Rep κ F v d∧Args κ F H r ws
 | vs,.br d::ws=>∃ v r,vs=v::r∧(∃ a o,v=.ref a∧H a=some o∧OwnO κ F o d)∧Args κ F H r ws
 | _,_=>False
noncomputable def spD (κ:Kx) (dn:Den) (n:Nat):Sp:=fun vs H Q _=>vs.length=n∧∃ F ws,Le F H∧Args κ F H vs ws ∧
 KE (fun _=>False) (dn ws) fun w=>∀ v F' H',Gr F H F' H'→Vok κ H F' H' v w→Q v H'
section
variable {P:Program} {w:World} {K:PySem.W.Frag} {mg:Str→Option Value} {base:Heap}
theorem args_st {κ:Kx} {F H:Hp}:∀ {vs:List V} {ws:List En},Args κ F H vs ws→∀ (i:Nat) (w:En),(ws.map some)[i]?=some (some w)→∃ v,(vs.map some)[i]?=some (some v)∧Eok κ H F H v w∧w.own=false
 | _,[],_,i,w,e=>by simp at e
 | _,.fz d::ws,h,0,w,e=>by
  obtain ⟨v,r,rfl,h1,h2⟩:=h
  simp at e; subst e
  exact ⟨v,rfl,h1,rfl⟩
 | _,.br d::ws,h,0,w,e=>by
  obtain ⟨v,r,rfl,h1,h2⟩:=h
  simp at e; subst e
  exact ⟨v,rfl,h1,rfl⟩
 | _,.fz d::ws,h,i+1,w,e=>by
  obtain ⟨v,r,rfl,h1,h2⟩:=h
  simpa using args_st h2 i w (by simpa using e)
 | _,.br d::ws,h,i+1,w,e=>by
  obtain ⟨v,r,rfl,h1,h2⟩:=h
  simpa using args_st h2 i w (by simpa using e)
theorem args_len {κ:Kx} {F H:Hp}:∀ {vs:List V} {ws:List En},Args κ F H vs ws→vs.length=ws.length
 | _,[],h=>by cases (show _=_ from h); rfl
 | _,.fz d::ws,h=>by obtain ⟨v,r,rfl,h1,h2⟩:=h; simp [args_len h2]
 | _,.br d::ws,h=>by obtain ⟨v,r,rfl,h1,h2⟩:=h; simp [args_len h2]
theorem start_st {κ:Kx} {F H:Hp} {N:List Str} {vs:List V} {ws:List En} (l:Le F H) (h:Args κ F H vs ws):StOk κ F H F H (ws.map some++List.replicate (N.length - ws.length) none) (L2.start N vs):=by
 have hl:=args_len h
 have at_:∀ (i:Nat) (w:En),(ws.map some++List.replicate (N.length - ws.length) none)[i]?=some (some w)→(ws.map some)[i]?=some (some w):=fun i w e=>by
  by_cases hi:i < ws.length
  ·rwa [List.getElem?_append_left (by simpa using hi)] at e
  ·rw [List.getElem?_append_right (by simpa using hi),List.getElem?_replicate] at e
   split at e <;> cases e
 refine ⟨Gr.refl l,by simp [L2.start,hl],fun i w e=>?_,fun i j w w' a hij ei ej oi oj si sj=>?_,fun i y e=>by obtain ⟨v,e1,q,z⟩:=args_st h i _ (at_ i _ e); cases z⟩
 ·obtain ⟨v,e1,q,_⟩:=args_st h i w (at_ i w e)
  refine ⟨v,?_,q⟩
  unfold L2.start
  have hi:i < vs.length:=by have:=(List.getElem?_eq_some_iff.mp e1).1; simpa using this
  rw [List.getElem?_append_left (by simpa using hi)]
  exact e1
 ·obtain ⟨v,_,_,z⟩:=args_st h i w (at_ i w ei)
  rw [oi] at z; cases z
theorem fnD {x qual:Str} {st:Stmt} {f:Addr} {fd:FuncData} {N ps:List Str} {k:Nat} {body:SF} (F:Fun K x qual st f fd) (S:FnScope N ps (defScope st))
  (h:∀ (cdv:Value) (A:Around) (outer:List Env) (s:Shared) (H F0:Hp),Room k (A.deeper (envOfC qual (defScope st) s.heap.objs.size f cdv)) →
   SSs (cxOf CX0 P w K mg base N qual (defScope st) f cdv A outer s H E0).nox F0 H (defBody st) body):FnOk P w K mg base CX0 (k+1) f fd ps (spD ⟨P,w,K⟩ (den N.length body) ps.length):=by
 refine F.ok S (fun vs H Q E q=>q.1) (fun cdv A outer s H vs Q E hr q=>?_)
 obtain ⟨hl,F0,ws,l,ha,q⟩:=q
 refine ⟨tSemS _ _,pss_sem,fun pins s' I=>?_⟩
 have B:=h cdv A outer s H F0 hr
 have B':SSs (cxOf CX0 P w K mg base N qual (defScope st) f cdv A outer s H E).nox F0 H (defBody st) body:=B
 refine B' pins s' (L2.start N vs) F0 H _ _ (start_st (N:=N) l ha) I ?_
 have e:KE (fun _=>False) (den N.length body ws) fun w'=>∀ v F' H',Gr F0 H F' H'→Vok ⟨P,w,K⟩ H F' H' v w'→Q v H':=q
 unfold den fin at e
 cases eb:body (ws.map some++List.replicate (N.length - ws.length) none) with
 | nx ρ=>rw [eb] at e; exact fun σ' F' H' l' S'=>e .non F' H' S'.gr rfl
 | rt w'=>rw [eb] at e; exact e
 | bk ρ=>rw [eb] at e; exact e.elim
 | ct ρ=>rw [eb] at e; exact e.elim
 | exc x=>rw [eb] at e; exact e.elim
 | stuck=>rw [eb] at e; exact e.elim
end
section
variable {X:Cx} {F0 H0:Hp} {pos p:Pos} {e:Expr} {es:List Expr} {fa:List EF} {x:Str} {k n:Nat} {f:Addr} {fd:FuncData} {ps:List Str} {dn:Den}
theorem argAll_ok {κ:Kx} {H F' H':Hp} (s:Le F' H'):∀ {vs:List V} {ws ys:List En},Voks κ H F' H' vs ws→argAll ws=.ok ys→∀ G,Le F' G→(∀ a o,H a=none→H' a=some o→G a=some o)→Args κ G H' vs ys
 | _,[],ys,h,e,G,l,lk=>by cases e; exact h
 | _,w::ws,ys,h,e,G,l,lk=>by
  obtain ⟨v,r,rfl,h1,h2⟩:=h
  unfold argAll at e
  cases e1:w.arg with
  | exc x=>rw [e1] at e; cases e
  | stuck=>rw [e1] at e; cases e
  | ok y =>
   cases e2:argAll ws with
   | exc x=>rw [e1,e2] at e; cases e
   | stuck=>rw [e1,e2] at e; cases e
   | ok ys' =>
    rw [e1,e2] at e
    cases e
    have rest:=argAll_ok s h2 e2 G l lk
    cases w with
    | fz d=>cases e1; exact ⟨v,r,rfl,Rep.le l d h1,rest⟩
    | br d =>
     cases e1
     obtain ⟨a,o,ea,e2',ro⟩:=h1
     exact ⟨v,r,rfl,⟨a,o,ea,e2',OwnO.le l ro⟩,rest⟩
    | lk d=>cases e1
    | od d =>
     cases d <;> first|(cases e1; done)|skip
     cases e1
     rename_i kds
     have h1:DV κ H F' H' v (.dK kds):=h1
     rcases h1 with ⟨_,z,_⟩|⟨ds,z,a,bs,css,rfl,h0,hf,nd,hh,i⟩|⟨_,_,z,_⟩|⟨_,_,_,z,_⟩
     ·cases z
     ·cases z
      have at_:∀ b∈bs++css.flatten,G b=H' b:=fun b m=>by
       obtain ⟨us,z0,z1,z2⟩:=In2.at i m
       rw [z2]; exact lk b _ z0 z2
      exact ⟨.ref a,r,rfl,⟨a,bs.map V.ref,rfl,SqL.of (lk a _ h0 hh),In2.reps i at_ l⟩,rest⟩
     ·cases z
     ·cases z
    | ow d =>
     cases e1
     obtain ⟨a,o,ea,e0,ef,e2',ro⟩:=h1
     have q:=lk a o e0 e2'
     have ro:=OwnO.le l ro
     refine ⟨v,r,rfl,?_,rest⟩
     cases o <;> cases d <;> first
      | exact ro.elim
      | exact ⟨a,_,ea,.inl (.inl q),ro⟩
      | exact ⟨a,_,ea,.inl q,ro⟩
theorem evs_len:∀ (fs:List EF) (ρ:Rho) (ws:List En),evs fs ρ=.ok ws→ws.length=fs.length
 | [],_,_,h=>by cases h; rfl
 | a::r,ρ,ws,h=>by
  unfold evs at h
  cases ea:a ρ with
  | exc x=>rw [ea] at h; cases h
  | stuck=>rw [ea] at h; cases h
  | ok x =>
   cases er:evs r ρ with
   | exc x=>rw [ea,er] at h; cases h
   | stuck=>rw [ea,er] at h; cases h
   | ok xs=>rw [ea,er] at h; cases h; simp [evs_len r ρ xs er]
theorem se_call (G:FnOk X.prog X.w X.K X.mg X.base CX0 k f fd ps (spD (kx X) dn n)) (hr:Room k X.A) (hm:X.mg x=some (.ref f)) (hk:PySem.W.keepIn X.K (.ref f)=true) (hb:Binds X.K fd ps []) (ha:SA X F0 H0 (e::es) fa)
  (hn:fa.length=n:=by rfl)
  (hg:Gl X x:=by rfl) (hdb:(x == ("__debug__":Str))=false:=by decide) (he:starEach (e::es) X.env=(false,eval e X.env)::starEach es X.env:=by rfl) (hpl:(backTo pos (starEach es X.env)).any (·.1)=false:=by rfl) :
  SE X F0 H0 (.Call (.Name x p) (e::es) [] pos) (eCall dn fa):=by
 intro pins s σ F H ρ Q S I h
 refine wpAny_Call_Name_kw (ld_glob I hg hm ?_ hdb)
 refine PySem.W.callWith_K (h₀:=X.base) I.ok.mod.kin hk (ha pos pins s σ F H ρ _ S I ?_) he hpl
 cases ef:evs fa ρ with
 | exc x=>have h:=KE.bind h; rw [ef] at h; exact h
 | stuck=>have h:=KE.bind h; rw [ef] at h; exact h
 | ok ws =>
  have h:=KE.bind h
  rw [ef] at h
  intro vs us F1 H1 s1 g1 q1 r1 I1
  refine ⟨I1.kIn,?_⟩
  have h:KE (XP X F0 H0) ((argAll ws).bind fun ys=>dn ys) _:=h
  cases ea:argAll ws with
  | exc x=>rw [ea] at h; exact h.elim
  | stuck=>rw [ea] at h; exact h.elim
  | ok ys =>
   rw [ea] at h
   obtain ⟨g2,l2⟩:=fzAll_gr S.s g1
   have A:=argAll_ok (κ:=kx X) g1.s q1 ea (fzAll H F1 H1) l2 (fun a o e0 e2=>by unfold fzAll; rw [e0]; exact e2)
   have hl:vs.length=n:=by
    rw [← hn,← evs_len fa ρ ws ef]
    clear A ea h r1
    revert vs
    have:∀ (ws:List En) (vs:List V),Voks (kx X) H F1 H1 vs ws→vs.length=ws.length:=by
     intro ws
     induction ws with
     | nil=>intro vs h; cases (show vs=[] from h); rfl
     | cons w ws ih =>
      intro vs h
      obtain ⟨v,r,rfl,_,h2⟩:=h
      simp [ih r h2]
    intro vs h
    exact this ws vs h
   refine ep_end (run_fn G hr hb (dvs:=[]) .nil pass0 I1 r1 ?_)
   rw [List.append_nil]
   refine ⟨hl,fzAll H F1 H1,ys,g2.s,A,KE.impX h (fun w k v F' H' g' q' u s' r' I'=>?_) fun _ z=>z.elim⟩
   exact k v u F' H' s' (g2.trans g') (Vok.older (fun a e=>Le.none g1.h e) q') r' I'
end
end L3
namespace L3
open PySem PySem.Spec PyProof.Rows L2
theorem hu10 {k:Nat} {A:Around} (hr:Room k A):A.units+10 < cLine:=by have:=hr.un; (first|lia|omega)
section
variable {X:Cx} {F0 H0:Hp} {pos p:Pos} {x:Str} {k:Nat} {f:Addr} {fd:FuncData} {dn:Den}
noncomputable def Ty.nm:Ty→String
 | .int=>"int"|.bool=>"bool"|.str=>"str"|.list=>"list"|.tuple=>"tuple"|.dict=>"dict"
noncomputable def dTy:D→String
 | .non=>"NoneType"|.bl _=>"bool"|.int _=>"int"|.str _=>"str"|.tup _=>"tuple"|.lst _=>"list"|.dK _=>"dict"|.dT _=>"dict"|.xc _ _=>"?"
theorem kit_ty (K:PySem.W.Frag) (d:D) (t:Ty) (h:∀ c fs,d≠.xc c fs):PySem.W.kitOne K (.type (dTy d)) (.type t.nm)=some (tyIs d t):=by
 cases d <;> first
  | exact absurd rfl (h _ _)
  | (cases t <;> first|rfl|kernel_rfl)
theorem isi_ok {pins:List (Addr×Obj)} {s:Shared} {σ:St} {F H:Hp} {v:V} {u:Value} {d:D} {t:Ty} {Q:Value→Shared→Prop} (I:Inv X pins σ H s) (l:Le F H) (r:RelV v u) (q:RdV (kx X) F H v d) (hx:∀ c fs,d≠.xc c fs)
  (h:∀ tk,Q (.bool (tyIs d t)) { s with toks:=tk }):wpAny (model X.prog X.w) X.A (call (.builtin "isinstance") [u,.type t.nm]) Q X.xe s:=by
 have e:=kit_ty X.K d t hx
 cases d with
 | non=>cases RdV.non q; cases (show u=Value.none from r); exact PySem.W.kia_one PySem.W.kitx_none I.kIn True.intro e (fun z=>nomatch z) h
 | bl b=>cases RdV.bl q; cases (show u=Value.bool b from r); exact PySem.W.kia_one PySem.W.kitx_bool I.kIn True.intro e (fun z=>nomatch z) h
 | int i=>cases RdV.int q; obtain ⟨tk,rfl⟩:=(show ∃ tk,u=Value.int i tk from r); exact PySem.W.kia_one PySem.W.kitx_int I.kIn True.intro e (fun z=>nomatch z) h
 | str y=>cases RdV.str q; obtain ⟨tk,rfl⟩:=(show ∃ tk,u=Value.str y tk from r); exact PySem.W.kia_one PySem.W.kitx_str I.kIn True.intro e (fun z=>nomatch z) h
 | tup ds =>
  obtain ⟨a,vs,rfl,hq,_,_⟩:=RdV.tup l q
  cases (show u=Value.ref a from r)
  obtain ⟨its,_,⟨o,e1,e2,_⟩,_⟩:=I.tuple hq
  exact PySem.W.kia_one PySem.W.kitx_tuple I.kIn ⟨o,e1,e2⟩ e (fun z=>nomatch z) h
 | lst ds =>
  obtain ⟨a,vs,rfl,hq,_⟩:=RdV.lst l q
  cases (show u=Value.ref a from r)
  obtain ⟨its,_,⟨o,n,e1,e2,_⟩,_⟩:=I.list hq
  exact PySem.W.kia_one PySem.W.kitx_list I.kIn ⟨o,e1,e2⟩ e (fun z=>nomatch z) h
 | dK ds =>
  obtain ⟨a,vs,rfl,hq,_⟩:=RdV.dK l q
  cases (show u=Value.ref a from r)
  obtain ⟨_,vs,_,o,es,ep,e1,e2,_⟩:=Inv.dictK I hq
  exact PySem.W.kia_one PySem.W.kitx_dict I.kIn ⟨o,e1,e2.1⟩ e (fun z=>nomatch z) h
 | dT ds =>
  have hq:∃ a kvs,v=.ref a∧Rd H a (.dT kvs):=by
   rcases q with ⟨a,vs,e,q,_⟩|⟨a,o,e,e2,r⟩
   ·exact ⟨a,vs,e,Rd.le l q⟩
   ·cases o <;> first|exact r.elim|exact ⟨a,_,e,.inl e2⟩
  obtain ⟨a,kvs,rfl,hq⟩:=hq
  cases (show u=Value.ref a from r)
  obtain ⟨_,_,xs,_,o,es,ep,e1,e2,_⟩:=hq.ok I.hok
  exact PySem.W.kia_one PySem.W.kitx_dict I.kIn ⟨o,e1,e2.1⟩ e (fun z=>nomatch z) h
 | xc c fs=>exact absurd rfl (hx c fs)
theorem boot_ty (t:Ty):bootBuiltins t.nm=some (.type t.nm):=by cases t <;> decide +kernel
theorem se_isi (t:Ty) {e:Expr} {fe:EF} {p2:Pos} (he:SE X F0 H0 e fe) (hm:X.mg "isinstance"=none) (hmt:X.mg t.nm=none) (hg:Gl X "isinstance":=by rfl) (hgt:Gl X t.nm:=by rfl)
  (hnt:(Str.ofString t.nm)≠"__name__":=by decide) (hdt:((Str.ofString t.nm) == ("__debug__":Str))=false:=by decide)
  (hs1:starEach [e,.Name t.nm p2] X.env=(false,eval e X.env)::starEach [.Name t.nm p2] X.env:=by rfl) (hs2:starEach [.Name t.nm p2] X.env=[(false,eval (.Name t.nm p2) X.env)]:=by rfl)
  (hpl:(backTo pos (starEach [.Name t.nm p2] X.env)).any (·.1)=false:=by rfl):SE X F0 H0 (.Call (.Name "isinstance" p) [e,.Name t.nm p2] [] pos) (eUn (dIs t) fe):=by
 intro pins s σ F H ρ Q S I h
 refine wpAny_Call_Name_kw (ld_blt I hg hm boot_isinstance ?_)
 refine PyProof.Rows.callWith_builtin1 ?_ hs1 hpl
 rw [hs1]
 refine Calls.spliced_cons (he pins s σ F H ρ _ S I ((KE.bind h).imp fun w k v u F' H' s' g q r I'=>?_))
 rw [hs2]
 refine Calls.spliced_cons (ld_blt I' hgt hmt (boot_ty t) (Calls.spliced_nil ?_) hnt hdt)
 have k2:∀ c fs,w.d≠.xc c fs:=fun c fs e=>by rw [e] at k; exact k.elim
 have k3:KE (XP X F0 H0) (okB (tyIs w.d t)) fun w=>∀ v u F' H' s',Gr F H F' H'→Vok (kx X) H F' H' v w→RelV v u→Inv X pins σ H' s'→Q u s':=by
  revert k
  generalize w.d=d at *
  intro k
  cases d <;> first|exact k|exact absurd rfl (k2 _ _)
 exact isi_ok I' g.s r (Vok.rd q) k2 fun tk=>k3 (.bl _) _ F' H' _ g rfl rfl (I'.tok tk)
noncomputable def dNeg:D→R En
 | .int i=>okI (-i)
 | _=>.stuck
theorem se_neg {e:Expr} {fe:EF} (he:SE X F0 H0 e fe):SE X F0 H0 (.UnaryOp .USub e pos) (eUn dNeg fe):=by
 intro pins s σ F H ρ Q S I h
 refine UnaryOp_ (he pins s σ F H ρ _ S I ((KE.bind h).imp fun w k v u F' H' s' g q r I'=>?_))
 have q:=Vok.rd q
 revert k
 generalize w.d=d at q
 intro k
 cases d <;> first|exact k.elim|skip
 cases RdV.int q
 obtain ⟨t,rfl⟩:=r
 exact PyProof.Rows.neg_int (k (.int _) _ F' H' _ g rfl ⟨_,rfl⟩ (I'.tok _))
noncomputable def dAddI:D→D→R En
 | .int i,.int j=>okI (i+j)
 | _,_=>.stuck
theorem od_addI:OpD X (binaryOp .Add) dAddI:=opd_of op_add fun F H x y dx dy Q l qx qy w=>by
 cases dx <;> first|exact w.elim|skip
 cases dy <;> first|exact w.elim|skip
 exact ⟨_,_,RdV.int qx,RdV.int qy,wish_fz l (v:=.int _) w rfl⟩
end
theorem reps_ints {κ:Kx} {F:Hp}:∀ ns:List Int,Reps κ F (ns.map V.int) (ns.map D.int)
 | []=>rfl
 | n::ns=>⟨.int n,ns.map V.int,rfl,rfl,reps_ints ns⟩
theorem law_end {κ:Kx} {H:Hp} {a:Addr} {E:XK} (dn:Den) (ns:List Int) (hS:SqL κ.K H a (ns.map V.int)) (h:dn [.fz (.lst (ns.map D.int))]=.ok (.fz (.bl true))):spD κ dn 1 [.ref a] H (fun v _=>v=.bl true) E :=
 ⟨rfl,H,[.fz (.lst (ns.map D.int))],Le.refl,⟨.ref a,[],rfl,⟨a,_,rfl,hS,reps_ints ns⟩,rfl⟩,by rw [h]; exact fun v F' H' g q=>q⟩
end L3
namespace L3
open PySem PySem.Spec PyProof.Rows L2
section
variable {X:Cx}
theorem oi_sub:OpD X (inplaceOp .Sub) dSub:=opd_of iop_sub fun F H x y dx dy Q l qx qy w=>by
 cases dx <;> first|exact w.elim|skip
 cases dy <;> first|exact w.elim|skip
 exact ⟨_,_,RdV.int qx,RdV.int qy,wish_fz l (v:=.int _) w rfl⟩
theorem oi_addI:OpD X (inplaceOp .Add) dAddI:=opd_of iop_add fun F H x y dx dy Q l qx qy w=>by
 cases dx <;> first|exact w.elim|skip
 cases dy <;> first|exact w.elim|skip
 exact ⟨_,_,RdV.int qx,RdV.int qy,wish_fz l (v:=.int _) w rfl⟩
end
noncomputable def optAll {α β:Type} (f:α→Option β):List α→Option (List β)
 | []=>some []
 | x::r=>match f x with
  | some y=>(match optAll f r with|some ys=>some (y::ys)|none=>none)
  | none=>none
theorem optAll_cons {α β:Type} {f:α→Option β} {x:α} {r:List α} {l:List β} (h:optAll f (x::r)=some l):∃ y ys,f x=some y∧optAll f r=some ys∧l=y::ys:=by
 unfold optAll at h
 cases e:f x with
 | none=>rw [e] at h; cases h
 | some y =>
  cases e2:optAll f r with
  | none=>rw [e,e2] at h; cases h
  | some ys=>rw [e,e2] at h; cases h; exact ⟨y,ys,rfl,rfl,rfl⟩
noncomputable def datIn (K:PySem.W.Frag):Nat→Value→Option D
 | 0,_=>none
 | n+1,v=>match v with
  | .none=>some .non
  | .bool b=>some (.bl b)
  | .int i _=>some (.int i)
  | .str x _=>some (.str x)
  | .ref a=>(match K.lookup a with
   | some o=>(match o.data with
    | .seq its _ =>
     if its.size ≤ 100000 then
      (if o.cls == .type "tuple" then (optAll (datIn K n) its.toList).map .tup
      else if o.cls == .type "list" && o.dict == none then (optAll (datIn K n) its.toList).map .lst else none)
     else none
    | .dict es _ =>
     if o.cls == .type "dict" && o.dict == none && o.slots.size == 0 && !(a == sysModules) then
      (match optAll (fun e:DictEntry=>match e.key with
       | .int i _=>if e.hash=hashInt i then (datIn K n e.val).map fun d=>((Sum.inl i:Sum Int Str),d) else none
       | _=>none) es.toList with
      | some l=>if (l.map (·.1)).Nodup then some (.dK l) else none
      | none=>none)
     else none
    | _=>none)
   | none=>none)
  | _=>none
theorem datIn_ok {κ:Kx}:∀ (n:Nat) (v:Value) (d:D),datIn κ.K n v=some d→∃ x,RelV x v∧∀ F,Rep κ F x d:=by
 intro n
 induction n with
 | zero=>intro v d h; cases h
 | succ n ih =>
  have all:∀ (vs:List Value) (ds:List D),optAll (datIn κ.K n) vs=some ds→∃ xs,Vals xs vs∧∀ F,Reps κ F xs ds:=by
   intro vs
   induction vs with
   | nil=>intro ds h; cases h; exact ⟨[],.nil,fun _=>rfl⟩
   | cons v vs ihv =>
    intro ds h
    obtain ⟨d,ds',h1,h2,rfl⟩:=optAll_cons h
    obtain ⟨x,rx,qx⟩:=ih v d h1
    obtain ⟨xs,rs,qs⟩:=ihv ds' h2
    exact ⟨x::xs,.cons rx rs,fun F=>⟨x,xs,rfl,qx F,qs F⟩⟩
  have allK:∀ (es:List DictEntry) (l:List (Sum Int Str×D)),optAll (fun e:DictEntry=>match e.key with
       | .int i _=>if e.hash=hashInt i then (datIn κ.K n e.val).map fun d=>((Sum.inl i:Sum Int Str),d) else none
       | _=>none) es=some l →
    ∃ kvs vs,KV kvs vs∧PySem.Pairs (mixKind κ.P κ.w) es vs∧vs.map (·.1)=l.map (·.1)∧(∀ e∈es,∃ k,(mixKind κ.P κ.w).is k e.key=true∧e.hash=(mixKind κ.P κ.w).hash k)∧∀ F,RepK κ F kvs l:=by
   intro es
   induction es with
   | nil=>intro l h; cases h; exact ⟨[],[],.nil,.nil,rfl,fun e he=>(nomatch he),fun _=>rfl⟩
   | cons e es ihe =>
    intro l h
    obtain ⟨y,ys,h1,h2,rfl⟩:=optAll_cons h
    obtain ⟨kvs,vs,r1,r2,r3,r4,r5⟩:=ihe ys h2
    cases ek:e.key with
    | int i t =>
     rw [ek] at h1
     dsimp only at h1
     by_cases c:e.hash=hashInt i
     ·rw [if_pos c] at h1
      cases ed:datIn κ.K n e.val with
      | none=>rw [ed] at h1; cases h1
      | some d =>
       rw [ed] at h1
       cases h1
       obtain ⟨x,rx,qx⟩:=ih e.val d ed
       have hk:(mixKind κ.P κ.w).is (Sum.inl i) e.key=true:=by rw [ek]; exact mixKind_int _ _ i t
       refine ⟨(Sum.inl i,x)::kvs,(Sum.inl i,e.val)::vs,.cons ⟨rfl,rx⟩ r1,.cons hk rfl r2,by simp [r3],fun e' he=>?_,fun F=>⟨x,kvs,rfl,qx F,r5 F⟩⟩
       rcases List.mem_cons.mp he with rfl|he
       ·exact ⟨Sum.inl i,hk,c⟩
       ·exact r4 e' he
     ·rw [if_neg c] at h1; cases h1
    | _=>rw [ek] at h1; cases h1
  intro v d h
  unfold datIn at h
  cases v <;> first|(cases h; done)|skip
  ·cases h; exact ⟨.non,rfl,fun _=>rfl⟩
  ·cases h; exact ⟨.bl _,rfl,fun _=>rfl⟩
  ·cases h; exact ⟨.int _,⟨_,rfl⟩,fun _=>rfl⟩
  ·cases h; exact ⟨.str _,⟨_,rfl⟩,fun _=>rfl⟩
  ·rename_i a
   dsimp only at h
   cases ek:κ.K.lookup a with
   | none=>rw [ek] at h; cases h
   | some o =>
    rw [ek] at h
    dsimp only at h
    cases ed:o.data with
    | seq its m =>
     rw [ed] at h
     dsimp only at h
     by_cases c:its.size ≤ 100000
     ·rw [if_pos c] at h
      have hz:its.size ≤ sizeLine:=by rw [sizeLine_eq]; (first|lia|omega)
      by_cases c1:(o.cls == Value.type "tuple")=true
      ·rw [if_pos c1] at h
       cases e2:optAll (datIn κ.K n) its.toList with
       | none=>rw [e2] at h; cases h
       | some ds =>
        rw [e2] at h
        cases h
        obtain ⟨xs,rs,qs⟩:=all its.toList ds e2
        exact ⟨.ref a,rfl,fun F=>⟨a,xs,rfl,.inr ⟨o,its,m,ek,by simpa using c1,ed,hz,rs⟩,qs F⟩⟩
      ·rw [if_neg c1] at h
       by_cases c2:(o.cls == Value.type "list" && o.dict == none)=true
       ·rw [if_pos c2] at h
        rw [Bool.and_eq_true] at c2
        cases e2:optAll (datIn κ.K n) its.toList with
        | none=>rw [e2] at h; cases h
        | some ds =>
         rw [e2] at h
         cases h
         obtain ⟨xs,rs,qs⟩:=all its.toList ds e2
         exact ⟨.ref a,rfl,fun F=>⟨a,xs,rfl,.inr ⟨o,its,m,ek,by simpa using c2.1,by simpa using c2.2,ed,hz,rs⟩,qs F⟩⟩
       ·rw [if_neg c2] at h; cases h
     ·rw [if_neg c] at h; cases h
    | dict es ep =>
     rw [ed] at h
     dsimp only at h
     by_cases c:(o.cls == Value.type "dict" && o.dict == none && o.slots.size == 0 && !(a == sysModules))=true
     ·rw [if_pos c] at h
      simp only [Bool.and_eq_true] at c
      obtain ⟨⟨⟨c1,c2⟩,c3⟩,c4⟩:=c
      revert h
      generalize e2:optAll _ es.toList=ol
      intro h
      cases ol with
      | none=>cases h
      | some l =>
       dsimp only at h
       by_cases c5:(l.map (·.1)).Nodup
       ·rw [if_pos c5] at h
        cases h
        obtain ⟨kvs,vs,r1,r2,r3,r4,r5⟩:=allK es.toList l e2
        have hsl:o.slots=#[]:=by
         have:o.slots.size=0:=by simpa using c3
         exact Array.eq_empty_of_size_eq_zero this
        refine ⟨.ref a,rfl,fun F=>⟨a,kvs,rfl,.inr ⟨by simpa using c4,o,es,ep,vs,ek,⟨by simpa using c1,by simpa using c2,hsl⟩,ed,fun e he=>r4 e (by simpa using he),r2,by rw [r3]; exact c5,r1⟩,r5 F⟩⟩
       ·rw [if_neg c5] at h; cases h
     ·rw [if_neg c] at h; cases h
    | _=>rw [ed] at h; cases h
end L3
namespace L3
open PySem PySem.Spec PyProof.Rows L2
noncomputable def ro:Option En→Option En
 | some (.ow d)=>some (.br d)
 | some (.od _)=>none
 | o=>o
noncomputable def compD (gf:GF) (t:TF) (e:EF):List D→Rho→R (List D)
 | [],_=>.ok []
 | d::r,ρ=>(gf d ρ).bind fun ρ1=>(t ρ1).bind fun b=>if b=true then (e ρ1).bind fun w=>w.st.bind fun y=>(compD gf t e r ρ1).bind fun ys=>.ok (y::ys) else compD gf t e r ρ1
noncomputable def cRho (n:Nat) (ρ:Rho):Rho:=ρ.map ro++List.replicate n none
noncomputable def eComp (n:Nat) (it:IF) (gf:GF) (t:TF) (e:EF):EF:=fun ρ=>(it ρ).bind fun ds=>if ds.length ≤ sz then (compD gf t e ds (cRho n ρ)).bind fun ys=>.ok (.ow (.lst ys)) else .stuck
noncomputable def tTrue:TF:=fun _=>.ok true
theorem compLoop {prog:Program} {w:World} {A:Around} {R:Result→Shared→Prop} {s:Shared} {elt target iter:Expr} {ifs:List Expr} {scope:Scope} {pos:Pos} {it acc:Value} {env:Env} (I:Nat→Shared→Prop)
  (turn:∀ n s,I n s→wpAny (model prog w) A (pyNext it) (fun r s₁=>match r with
   | none=>R (.ok .next) s₁
   | some v=>wpAny (model prog w) A (letOwnedTupleGo target it v) (fun _ s₀=>wpAny (model prog w) A (assign target env v) (fun _ s₂ =>
     wpAny (model prog w) A (forIn ifs true fun c r=>if r=true then do let ok ← isTrue c env (eval c env); pure (ForInStep.yield ok) else pure (ForInStep.yield r)) (fun ok s₃ =>
      if ok=true then wpAny (model prog w) A (eval elt env) (fun x s₄ =>
       wpAny (model prog w) A (call (.builtin "list.append") [acc,x]) (fun _ s₅=>∃ m,m < n∧I m s₅) (fun _ _=>False) s₄) (fun _ _=>False) s₃
      else ∃ m,m < n∧I m s₃) (fun _ _=>False) s₂) (fun _ _=>False) s₀) (fun _ _=>False) s₁) (fun _ _=>False) s)
  (n:Nat) (h:I n s):codeAny (model prog w) A (.compLoop (.ListComp elt [⟨target,iter,ifs,0⟩] scope pos) 0 it acc env) R s:=by
 refine codeAny_loop rfl I (fun n s hI=>?_) n h
 show wpAny _ A ((compTurn (.ListComp elt [⟨target,iter,ifs,0⟩] scope pos) 0 it acc env).onRaise (fun x=>do noteFrame x env; theTreesLotGoes x)) _ _ s
 refine wpAny_noted ?_
 rw [compTurn_list]
 refine wpAny_bind (wpAny_standAt (wpAny_bind (wpAny_mono (turn n s hI) (fun r s₁ h₁=>?_) fun _ _ h'=>h'.elim)))
 cases r with
 | none=>exact wpAny_pure h₁
 | some v =>
  refine wpAny_bind (wpAny_mono h₁ (fun _ s₀ h₀=>wpAny_bind (wpAny_mono h₀ (fun _ s₂ h₂=>wpAny_bind (wpAny_mono h₂ (fun ok s₃ h₃=>?_) fun _ _ h'=>h'.elim)) fun _ _ h'=>h'.elim)) fun _ _ h'=>h'.elim)
  cases ok with
  | false=>exact wpAny_pure ⟨rfl,h₃⟩
  | true=>exact wpAny_bind (wpAny_bind (wpAny_mono h₃ (fun x s₄ h₄=>wpAny_bind (wpAny_mono h₄ (fun _ s₅ h₅=>wpAny_pure (wpAny_pure ⟨rfl,h₅⟩)) fun _ _ h'=>h'.elim)) fun _ _ h'=>h'.elim))
noncomputable def Cap (env:Env) (cl:List (Str×Addr)):List (Str×NameKind)→Prop
 | []=>True
 | (n,k)::r=>(k≠.cell∧(k=.free→env.kindOf n=some .cell∧cl.lookup n=env.cells.lookup n))∧Cap env cl r
noncomputable def ClIn (env:Env):List (Str×Addr)→Prop
 | []=>True
 | (n,c)::r=>env.cells.lookup n=some c∧ClIn env r
theorem ClIn.look {env:Env}:∀ {cl:List (Str×Addr)},ClIn env cl→∀ {x c},cl.lookup x=some c→env.cells.lookup x=some c
 | [],_,x,c,h=>by simp at h
 | (n,a)::r,q,x,c,h=>by
  obtain ⟨q1,q2⟩:=q
  by_cases e:x=n
  ·subst e
   simp [List.lookup] at h
   subst h
   exact q1
  ·have:(x == n)=false:=by simpa using e
   simp [List.lookup,this] at h
   exact ClIn.look q2 h
theorem Cap.mem {env:Env} {cl:List (Str×Addr)}:∀ {names:List (Str×NameKind)},Cap env cl names→∀ y∈names,y.2≠.cell∧(y.2=.free→env.kindOf y.1=some .cell∧cl.lookup y.1=env.cells.lookup y.1)
 | [],_,y,hy=>by cases hy
 | (n,k)::r,h,y,hy=>by
  rcases List.mem_cons.mp hy with rfl|hy
  ·exact h.1
  ·exact Cap.mem h.2 y hy
theorem relabel_free {env:Env}:∀ {names:List (Str×NameKind)} {x:Str},(∀ y∈names,y.2≠.cell) →
    ((names.map fun (n,k)=>if (k == NameKind.free && env.scope.kind == .function && env.kindOf n == some .cell) then (n,NameKind.cell) else (n,k)).lookup x=some .cell ∨
     (names.map fun (n,k)=>if (k == NameKind.free && env.scope.kind == .function && env.kindOf n == some .cell) then (n,NameKind.cell) else (n,k)).lookup x=some .free)→(x,NameKind.free)∈names
  | [],_,_,h=>by rcases h with h|h <;> simp at h
  | (n,k)::r,x,hc,h=>by
    have ih:=@relabel_free env r x (fun y hy=>hc y (List.mem_cons_of_mem _ hy))
    have hk:=hc (n,k) List.mem_cons_self
    rw [List.map_cons] at h
    by_cases hx:x=n
    · subst hx
      by_cases q:(k == NameKind.free && env.scope.kind == .function && env.kindOf x == some .cell)=true
      · have:k=.free:=by
          simp only [Bool.and_eq_true] at q
          simpa using q.1.1
        subst this
        exact List.mem_cons_self
      · dsimp only at h
        rw [if_neg q] at h
        simp only [List.lookup,beq_self_eq_true] at h
        rcases h with h|h
        · cases h; exact absurd rfl hk
        · cases h; exact List.mem_cons_self
    · have hb:(x == n)=false:=by simpa using hx
      refine List.mem_cons_of_mem _ (ih ?_)
      dsimp only at h
      by_cases q:(k == NameKind.free && env.scope.kind == .function && env.kindOf n == some .cell)=true
      · rw [if_pos q] at h
        simpa only [List.lookup_cons,hb] using h
      · rw [if_neg q] at h
        simpa only [List.lookup_cons,hb] using h
noncomputable def cxC (X:Cx) (s₂:Shared) (H₂:Hp) (scope:Scope) (cl:List (Str×Addr)) (C:Addr) (fp:List Addr) (N:List Str):Cx where
 prog:=X.prog
 w:=X.w
 K:=X.K
 mg:=X.mg
 base:=X.base
 A:=X.A
 N:=N
 s₀:=s₂
 H₀:=H₂
 env:=compEnvC scope cl C X.env
 outer:=X.stack
 stack:=X.stack
 ex:=fp
 fn:=fun _=>false
 calm:=X.calm
 pn:=[]
 xe:=fun _ _=>False
noncomputable def slotsB (sc:List (Str×NameKind)):List Str→List Str→Bool
 | a::as,b::bs=>(match sc.lookup b with|some .local=>false|some .free=>false|some .cell=>a == b|_=>true) && slotsB sc as bs
 | [],_=>true
 | _::_,[]=>true
noncomputable def SlotsOk (sc:Scope) (M N:List Str):Prop:=∀ (i:Nat) (x:Str),i < M.length→N[i]?=some x→Vis sc x→M[i]?=some x∧sc.names.lookup x=some .cell
theorem slots_ok {sc:Scope}:∀ {M N:List Str},slotsB sc.names M N=true→SlotsOk sc M N
 | [],_,_,i,x,hi,_,_=>by simp at hi
 | _::_,[],_,i,x,_,e,_=>by simp at e
 | a::as,b::bs,h,0,x,_,e,v=>by
  unfold slotsB at h
  rw [Bool.and_eq_true] at h
  simp at e
  subst e
  cases q:sc.names.lookup b with
  | none=>rcases v with v|v|v <;> rw [q] at v <;> cases v
  | some k =>
   rw [q] at h
   rcases v with v|v|v
   ·rw [q] at v; cases v; exact absurd h.1 Bool.false_ne_true
   ·rw [q] at v; cases v
    have:a=b:=by simpa using h.1
    subst this
    exact ⟨rfl,rfl⟩
   ·rw [q] at v; cases v; exact absurd h.1 Bool.false_ne_true
 | a::as,b::bs,h,i+1,x,hi,e,v=>by
  unfold slotsB at h
  rw [Bool.and_eq_true] at h
  have:=slots_ok h.2 i x (by simpa using hi) (by simpa using e) v
  exact ⟨by simpa using this.1,this.2⟩
theorem ro_st {κ:Kx} {F0 H0 F H:Hp} {ρ:Rho} {σ:St} (n:Nat) (S:StOk κ F0 H0 F H ρ σ):StOk κ F H F H (cRho n ρ) (σ++List.replicate n none):=by
 have at_:∀ (i:Nat) (w:En),(cRho n ρ)[i]?=some (some w)→∃ w',ρ[i]?=some (some w')∧ro (some w')=some w:=fun i w e=>by
  unfold cRho at e
  by_cases hi:i < ρ.length
  ·rw [List.getElem?_append_left (by simpa using hi),List.getElem?_map] at e
   cases q:ρ[i]? with
   | none=>rw [q] at e; cases e
   | some y =>
    rw [q] at e
    cases y with
    | none=>cases e
    | some w'=>exact ⟨w',rfl,by simpa using e⟩
  ·rw [List.getElem?_append_right (by simpa using hi),List.getElem?_replicate] at e
   split at e <;> cases e
 refine ⟨Gr.refl S.s,by simp [cRho,S.len],fun i w e=>?_,fun i j w w' a hij ei ej oi oj si sj=>?_,fun i y e=>?_⟩
 ·obtain ⟨w',e1,e2⟩:=at_ i w e
  obtain ⟨v,ev,q⟩:=S.val i w' e1
  have hi:i < σ.length:=(List.getElem?_eq_some_iff.mp ev).1
  refine ⟨v,by rw [List.getElem?_append_left hi]; exact ev,?_⟩
  cases w' with
  | fz d=>cases e2; exact q
  | ow d=>cases e2; obtain ⟨a,o,e,_,_,eh,r⟩:=q; exact ⟨a,o,e,eh,r⟩
  | lk d=>cases e2; exact q
  | od d=>cases e2
  | br d=>cases e2; obtain ⟨a,o,e,eh,r⟩:=q; exact ⟨a,o,e,S.gr.h _ _ eh,r⟩
 ·obtain ⟨w1,e1,e2⟩:=at_ i w ei
  cases w1 <;> cases e2 <;> cases oi
 ·obtain ⟨w',e1,e2⟩:=at_ i _ e
  cases w' <;> cases e2
theorem StOk.side {κ:Kx} {F0 H0 F H:Hp} {ρ:Rho} {σ:St} {p:Addr} {o:HO} (S:StOk κ F0 H0 F H ρ σ) (h0:H0 p=none) (hf:F p=none) (no:∀ (i:Nat) (w:En),ρ[i]?=some (some w)→w.own=false):StOk κ F0 H0 F (upd H p o) ρ σ:=by
 refine ⟨⟨S.gr.f,fun a u h=>?_,fun a u h=>?_,S.gr.n⟩,S.len,fun i w e=>?_,S.sep,fun i d e=>by cases no i _ e⟩
 ·rw [upd_ne (ne_of_none h h0)]; exact S.gr.h a u h
 ·rw [upd_ne (ne_of_none h hf)]; exact S.gr.s a u h
 ·obtain ⟨v,e1,q⟩:=S.val i w e
  refine ⟨v,e1,?_⟩
  have:=no i w e
  cases w with
  | fz d=>exact q
  | br d=>exact q
  | ow d=>cases this
  | lk d=>exact q
  | od d=>cases this
end L3
namespace L3
open PySem PySem.Spec PyProof.Rows L2
section
variable {X:Cx} {pins:List (Addr×Obj)} {σ:St} {H₂:Hp} {s₂:Shared} {fp:List Addr} {it:Addr} {tn:Nat→Heap→Prop} {J:It} {tg:Expr} {scope:Scope} {cl:List (Str×Addr)} {N:List Str} {n:Nat}
theorem block_ok (I2:Inv X pins σ H₂ s₂) (T:Turn X.prog X.w X.K tg J fp it tn) (st:tn 0 s₂.heap) (f2:∀ b∈fp,FpOk X pins H₂ b) (hkind:scope.kind=.function) (hcap:Cap X.env cl scope.names) (hcl:ClIn X.env cl)
  {C:Addr} (hC:s₂.heap.objs.size ≤ C):(cxC X s₂ H₂ scope cl C fp N).Ok:=by
 have hfree:∀ x,((cxC X s₂ H₂ scope cl C fp N).env.kindOf x=some .cell∨(cxC X s₂ H₂ scope cl C fp N).env.kindOf x=some .free)→(x,NameKind.free)∈scope.names:=fun x h =>
  relabel_free (env:=X.env) (fun y hy=>(Cap.mem hcap y hy).1) h
 refine ⟨I2.ok.mod,hkind,I2.ok.glob,I2.ok.blt,hC,fun x y c h1 h2=>I2.ok.inj x y c (ClIn.look hcl h1) (ClIn.look hcl h2),fun x hx=>?_,fun x c h=>(by cases h),I2.ok.hd,I2.ok.frames,.inl rfl,fun b hb=>?_,I2.bs,Nat.le_trans I2.ok.bsz I2.sz,fun b o e hb=>?_,fun b hb z=>?_,I2.stack,I2.stkFree⟩
 ·obtain ⟨q1,q2⟩:=(Cap.mem hcap _ (hfree x hx)).2 rfl
  obtain ⟨c,hc⟩:=I2.ok.has x (.inl q1)
  exact ⟨c,q2.trans hc⟩
 ·obtain ⟨f0,f1,f3,f4,f5,f6⟩:=f2 b hb
  obtain ⟨o,ho,_⟩:=T.obj 0 _ st b hb
  exact ⟨Nat.ne_of_lt (Nat.lt_of_lt_of_le (Heap.lt_size ho) hC),fun x c e=>f5 x c (ClIn.look hcl e)⟩
 ·obtain ⟨f0,f1,f3,f4,f5,f6⟩:=f2 b hb
  rcases f4 with f4|f4
  ·exact I2.ok.noex b o e f4
  ·exact absurd (Nat.lt_of_lt_of_le (Heap.lt_size (I2.ok.bs b o e).1) f4) (Nat.lt_irrefl _)
 ·obtain ⟨f0,f1,f3,f4,f5,f6⟩:=f2 b hb
  rcases List.mem_cons.mp (I2.stkSub b z) with q|q
  ·exact f1 q
  ·exact f3 q
theorem block_start (I2:Inv X pins σ H₂ s₂) (T:Turn X.prog X.w X.K tg J fp it tn) (st:tn 0 s₂.heap) (f2:∀ b∈fp,FpOk X pins H₂ b) (hkind:scope.kind=.function) (hcap:Cap X.env cl scope.names) (hcl:ClIn X.env cl)
  (hsl:SlotsOk (relabel scope X.env) X.N N) (hlen:N.length=X.N.length+n) {C tk:Nat} {h₁:Heap} {m:Str→Option Value} (hC:s₂.heap.objs.size < C) (hns:h₁.Ns C m) (old:∀ b o,s₂.heap.get? b=some o→h₁.get? b=some o)
  (hacc:h₁.get? s₂.heap.objs.size=some { cls:=.type "list",data:=.seq #[] 0 }) :
  Inv (cxC X s₂ H₂ scope cl C fp N) [] (σ++List.replicate n none) (upd H₂ s₂.heap.objs.size (.lst [])) { s₂ with heap:=h₁,toks:=tk }:=by
 have hf:H₂ s₂.heap.objs.size=none:=I2.hok.fresh (Nat.le_refl _)
 have hfC:H₂ C=none:=I2.hok.fresh (Nat.le_of_lt hC)
 have cellOld:∀ x c,X.env.cells.lookup x=some c→∀ v,s₂.heap.IsCell c v→h₁.IsCell c v:=fun x c _ v ⟨o,ho,hd⟩=>⟨o,old _ _ ho,hd⟩
 have cne:∀ x c,X.env.cells.lookup x=some c→c < s₂.heap.objs.size:=fun x c e=>by
  obtain ⟨v,o,ho,_⟩:=I2.cell x c e
  exact Heap.lt_size ho
 refine ⟨block_ok I2 T st f2 hkind hcap hcl (Nat.le_of_lt hC),rfl,I2.bare,Un.laid old (Nat.le_refl _) hf,⟨m,hns,fun i x v e1 e2 e3=>?_⟩,fun x c e=>?_,?_,fun x c e=>?_,fun p hp=>absurd (show p∈([]:List (Addr×Obj)) from hp) (by simp),?_,?_⟩
 ·have hi:i < σ.length:=by
   by_cases hi:i < σ.length
   ·exact hi
   ·rw [List.getElem?_append_right (by (first|lia|omega)),List.getElem?_replicate] at e2
    split at e2 <;> cases e2
  rw [List.getElem?_append_left hi] at e2
  obtain ⟨q1,q2⟩:=hsl i x (by rw [← I2.len]; exact hi) e1 e3
  have q3:(x,NameKind.free)∈scope.names:=relabel_free (env:=X.env) (fun y hy=>(Cap.mem hcap y hy).1) (.inl q2)
  obtain ⟨k1,k2⟩:=(Cap.mem hcap _ q3).2 rfl
  obtain ⟨m2,hn2,hl⟩:=I2.loc
  obtain ⟨u,ru,lk⟩:=hl i x v q1 e2 (.inr (.inl k1))
  refine ⟨u,ru,?_⟩
  rcases lk with ⟨z,_⟩|⟨_,c,hc,hcell⟩
  ·rw [show X.env.kindOf x=some .cell from k1] at z; cases z
  ·exact .inr ⟨.inl q2,c,by show cl.lookup x=some c; exact k2.trans hc,cellOld x c hc _ hcell⟩
 ·obtain ⟨v,q⟩:=I2.cell x c (ClIn.look hcl e)
  exact ⟨v,cellOld x c (ClIn.look hcl e) v q⟩
 ·show upd H₂ s₂.heap.objs.size (.lst []) C=none
  rw [upd_ne (Nat.ne_of_gt hC)]; exact hfC
 ·have:=cne x c (ClIn.look hcl e)
  show upd H₂ s₂.heap.objs.size (.lst []) c=none
  rw [upd_ne (Nat.ne_of_lt this)]
  exact I2.freeC x c (ClIn.look hcl e)
 ·exact I2.hok.laid old (Nat.le_refl _) ⟨Nat.zero_le _,[],0,.nil,hacc⟩
 ·simp [I2.len,hlen,cxC]
noncomputable def NoOwn (ρ:Rho):Prop:=∀ (i:Nat) (w:En),ρ[i]?=some (some w)→w.own=false
noncomputable def KeepsNo (gf:GF):Prop:=∀ d ρ ρ1,NoOwn ρ→gf d ρ=.ok ρ1→NoOwn ρ1
theorem noOwn_set {ρ:Rho} (h:NoOwn ρ) (i:Nat) (d:D):NoOwn (ρ.set i (some (.fz d))):=fun j w e=>by
 rcases set_get e with ⟨_,z⟩|⟨_,z⟩
 ·cases z; rfl
 ·exact h j w z
theorem no_gV (i:Nat):KeepsNo (gV i):=fun d ρ ρ1 h e=>by cases e; exact noOwn_set h i d
theorem noOwn_ro (n:Nat) (ρ:Rho):NoOwn (cRho n ρ):=fun i w e=>by
 unfold cRho at e
 by_cases hi:i < ρ.length
 ·rw [List.getElem?_append_left (by simpa using hi),List.getElem?_map] at e
  cases q:ρ[i]? with
  | none=>rw [q] at e; cases e
  | some y =>
   rw [q] at e
   cases y with
   | none=>cases e
   | some w'=>cases w' <;> first|(simp [ro] at e; done)|(simp [ro] at e; subst e; rfl)
 ·rw [List.getElem?_append_right (by simpa using hi),List.getElem?_replicate] at e
  split at e <;> cases e
inductive Tests (X:Cx) (F0 H0:Hp):List Expr→TF→Prop
 | nil:Tests X F0 H0 [] tTrue
 | one {c:Expr} {t:TF}:ST X F0 H0 c t→Tests X F0 H0 [c] t
theorem tests_ok {X:Cx} {F0 H0:Hp} {ifs:List Expr} {t:TF} (h:Tests X F0 H0 ifs t) {pins:List (Addr×Obj)} {s:Shared} {σ:St} {F H:Hp} {ρ:Rho} {Q:Bool→Shared→Prop} (S:StOk (kx X) F0 H0 F H ρ σ) (I:Inv X pins σ H s)
  (k:KE (XP X F0 H0) (t ρ) fun b=>∀ F' H' s',Gr F H F' H'→Inv X pins σ H' s'→Q b s') :
  wpAny (model X.prog X.w) X.A (forIn ifs true fun c r=>if r=true then do let ok ← isTrue c X.env (eval c X.env); pure (ForInStep.yield ok) else pure (ForInStep.yield r)) Q X.xe s:=by
 cases h with
 | nil=>exact wpAny_tests_nil (k F H s (Gr.refl S.s) I)
 | one h=>exact wpAny_tests_one (h pins s σ F H ρ Q S I k)
theorem block_run {X:Cx} {pins:List (Addr×Obj)} {σ:St} {F₂ H₂:Hp} {s₂ s₄:Shared} {fp:List Addr} {it:Addr} {tn:Nat→Heap→Prop} {J:It} {tg elt iter:Expr} {ifs:List Expr} {scope:Scope} {cl:List (Str×Addr)} {N:List Str} {C p:Addr}
  {σ':St} {ρ':Rho} {ds:List D} {pos:Pos} {gf:GF} {t:TF} {e:EF} {RR:Result→Shared→Prop} (l₂:Le F₂ H₂) (T:Turn X.prog X.w X.K tg J fp it tn) (hc:X.calm=true) (st:tn 0 s₄.heap) (Wk:Walk (kx X) J F₂ H₂ ds)
  (hfp:∀ b∈fp,FpOk (cxC X s₂ H₂ scope cl C fp N) [] (upd H₂ p (.lst [])) b) (hp:H₂ p=none) (I4:Inv (cxC X s₂ H₂ scope cl C fp N) [] σ' (upd H₂ p (.lst [])) s₄) (S4:StOk (kx X) F₂ H₂ F₂ H₂ ρ' σ') (no:NoOwn ρ') (hno:KeepsNo gf)
  (hg:SG (cxC X s₂ H₂ scope cl C fp N) F₂ H₂ tg gf) (ht:Tests (cxC X s₂ H₂ scope cl C fp N) F₂ H₂ ifs t) (he:SE (cxC X s₂ H₂ scope cl C fp N) F₂ H₂ elt e) (hsz:ds.length ≤ sz)
  (k:KE (fun _=>False) (compD gf t e ds ρ') fun ys=>∀ σ1 F1 H1 vs s1,Gr F₂ H₂ F1 H1→F1 p=none→H1 p=some (.lst vs)→Reps (kx X) F1 vs ys→Inv (cxC X s₂ H₂ scope cl C fp N) [] σ1 H1 s1→RR (.ok .next) s1) :
  codeAny (model X.prog X.w) X.A (.compLoop (.ListComp elt [⟨tg,iter,ifs,0⟩] scope pos) 0 (.ref it) (.ref p) (compEnvC scope cl C X.env)) RR s₄:=by
 have stat:∀ {H':Hp},(∀ b∈fp,H' b=none)→∀ b∈fp,FpOk (cxC X s₂ H₂ scope cl C fp N) [] H' b:=fun hn b hb=>⟨hn b hb,(hfp b hb).2⟩
 obtain ⟨tgv,PGv,hgv⟩:=hg
 refine compLoop (fun m s=>∃ i σ1 F1 H1 ρ1 vs,∃ as:List D,m=ds.length - i∧i ≤ ds.length∧Inv (cxC X s₂ H₂ scope cl C fp N) [] σ1 H1 s∧tn i s.heap∧(∀ b∈fp,H1 b=none)∧StOk (kx X) F₂ H₂ F1 H1 ρ1 σ1∧NoOwn ρ1 ∧
  F1 p=none∧H1 p=some (.lst vs)∧Reps (kx X) F1 vs as∧as.length ≤ i ∧
  KE (fun _=>False) (compD gf t e (ds.drop i) ρ1) (fun ys=>∀ σ1 F1 H1 vs s1,Gr F₂ H₂ F1 H1→F1 p=none→H1 p=some (.lst vs)→Reps (kx X) F1 vs (as++ys)→Inv (cxC X s₂ H₂ scope cl C fp N) [] σ1 H1 s1→RR (.ok .next) s1)) ?_ ds.length
  ⟨0,σ',F₂,upd H₂ p (.lst []),ρ',[],[],by simp,Nat.zero_le _,I4,st,fun b hb=>(hfp b hb).1,S4.side hp (Le.none l₂ hp) no,no,Le.none l₂ hp,upd_same,rfl,Nat.le_refl _,by simpa using k⟩
 rintro m s ⟨i,σ1,F1,H1,ρ1,vs,as,rfl,hi,I1,st1,fr1,S1,no1,fp1,hp1,rs1,la,k1⟩
 by_cases hlt:i < ds.length
 ·have ed:ds[i]?=some ds[i]:=by simp [hlt]
  have edr:ds.drop i=ds[i]::ds.drop (i+1):=List.drop_eq_getElem_cons hlt
  obtain ⟨go,yl⟩:=Wk.go i ds[i] F1 H1 ed S1.gr.f S1.s S1.gr.h
  rw [edr] at k1
  refine thn (T.item (cxC X s₂ H₂ scope cl C fp N) rfl rfl rfl hc i [] s σ1 H1 _ I1 (stat fr1) st1 go) fun r s1' ⟨u,hr,h4⟩=>?_
  subst hr
  refine thn h4 fun _ s5 ⟨x,H5,I5,r5,y5,st5,fr5⟩=>?_
  obtain ⟨F5,g5,rx⟩:=yl x H5 y5
  have I5':=I5.pinned (stat fr5) (T.obj _ _ st5)
  have S5:=S1.grow g5
  have k1:=KE.bind k1
  cases eg:gf ds[i] ρ1 with
  | exc z=>rw [eg] at k1; exact k1.elim
  | stuck=>rw [eg] at k1; exact k1.elim
  | ok ρ2 =>
   rw [eg] at k1
   have no2:=hno _ _ _ no1 eg
   have k1:KE (fun _=>False) (t ρ2) _:=KE.bind k1
   refine thn (PGv _ s5 σ1 H5 x u (fun σ6 H6=>H6=H5∧StOk (kx X) F₂ H₂ F5 H5 ρ2 σ6) I5' r5 (hgv σ1 F5 H5 ρ1 x ds[i] _ S5 rx (by rw [eg]; exact fun σ1 S=>⟨rfl,S⟩))) fun _ s6 ⟨σ6,H6,I6,e6,S6⟩=>?_
   subst e6
   have again:∀ {σ7:St} {F7 H7:Hp} {s7:Shared} {vs7:List V} {as7:List D},Inv (cxC X s₂ H₂ scope cl C fp N) ([]++pinsAt fp s5.heap) σ7 H7 s7→StOk (kx X) F₂ H₂ F7 H7 ρ2 σ7→F7 p=none→H7 p=some (.lst vs7)→Reps (kx X) F7 vs7 as7→as7.length ≤ i+1 →
     KE (fun _=>False) (compD gf t e (ds.drop (i+1)) ρ2) (fun ys=>∀ σ1 F1 H1 vs s1,Gr F₂ H₂ F1 H1→F1 p=none→H1 p=some (.lst vs)→Reps (kx X) F1 vs (as7++ys)→Inv (cxC X s₂ H₂ scope cl C fp N) [] σ1 H1 s1→RR (.ok .next) s1) →
     ∃ m,m < ds.length - i∧∃ i σ1 F1 H1 ρ1 vs,∃ (as:List D),m=ds.length - i∧i ≤ ds.length∧Inv (cxC X s₂ H₂ scope cl C fp N) [] σ1 H1 s7∧tn i s7.heap∧(∀ b∈fp,H1 b=none)∧StOk (kx X) F₂ H₂ F1 H1 ρ1 σ1∧NoOwn ρ1 ∧
      F1 p=none∧H1 p=some (.lst vs)∧Reps (kx X) F1 vs as∧as.length ≤ i ∧
      KE (fun _=>False) (compD gf t e (ds.drop i) ρ1) (fun ys=>∀ σ1 F1 H1 vs s1,Gr F₂ H₂ F1 H1→F1 p=none→H1 p=some (.lst vs)→Reps (kx X) F1 vs (as++ys)→Inv (cxC X s₂ H₂ scope cl C fp N) [] σ1 H1 s1→RR (.ok .next) s1):=by
    intro σ7 F7 H7 s7 vs7 as7 I7 S7 f7 h7 r7 l7 k7
    refine ⟨ds.length - (i+1),by (first|lia|omega),i+1,σ7,F7,H7,ρ2,vs7,as7,rfl,hlt,I7.unpinned,T.keep _ _ _ st5 fun b hb o e=>(I7.pin (b,o) (List.mem_append_right _ (List.mem_append_right _ (mem_pinsAt hb e)))).1,fun b hb=>?_,S7,no2,f7,h7,r7,l7,k7⟩
    obtain ⟨o,e,d⟩:=T.obj _ _ st5 b hb
    exact (I7.pin (b,o) (List.mem_append_right _ (List.mem_append_right _ (mem_pinsAt hb e)))).2.1
   have nf5:F5 p=none:=g5.no fp1 (hp1)
   refine tests_ok ht S6 I6 (KE.impX k1 (fun b kb F7 H7 s7 g7 I7=>?_) fun _ z=>z)
   have nf7:F7 p=none:=g7.no nf5 (g5.h _ _ hp1)
   have hp7:H7 p=some (.lst vs):=g7.h _ _ (g5.h _ _ hp1)
   have l17:Le F1 F7:=Le.trans g5.f g7.f
   cases b with
   | false =>
    rw [if_neg Bool.false_ne_true]
    exact again I7 (S6.grow g7) nf7 hp7 (Reps.le l17 _ rs1) (by (first|lia|omega)) kb
   | true =>
    rw [if_pos rfl]
    have kb:KE (fun _=>False) ((e ρ2).bind fun w=>w.st.bind fun y=>(compD gf t e (ds.drop (i+1)) ρ2).bind fun ys=>.ok (y::ys)) _:=kb
    refine he _ s7 σ6 F7 H7 ρ2 _ (S6.grow g7) I7 (KE.impX (KE.bind kb) (fun wv kw v u F8 H8 s8 g8 q8 r8 I8=>?_) fun _ z=>z)
    cases es:wv.st with
    | exc z=>rw [es] at kw; exact kw.elim
    | stuck=>rw [es] at kw; exact kw.elim
    | ok y =>
     rw [es] at kw
     have kw:KE (fun _=>False) ((compD gf t e (ds.drop (i+1)) ρ2).bind fun ys=>.ok (y::ys)) _:=kw
     have kw:=KE.bind kw
     have ry:=Vok.st g7.s g8 q8 es
     obtain ⟨g9,_⟩:=fzAll_gr g7.s g8
     have S9:=(S6.grow g7).grow g9
     have nf9:fzAll H7 F8 H8 p=none:=g9.no nf7 hp7
     have lv:vs.length=as.length:=Reps.length rs1
     refine thn (mt_append (X:=cxC X s₂ H₂ scope cl C fp N) _ s8 σ6 H8 (.ref p) [v] (.ref p) [u] (fun _ H9=>H9=upd H8 p (.lst (vs++[v]))) I8 rfl (.cons r8 .nil) ⟨p,vs,v,rfl,rfl,g8.h _ _ hp7,by rw [lv,← sz_eq]; (first|lia|omega),rfl⟩) fun _ s9 ⟨_,H9,I9,_,e9⟩=>?_
     subst e9
     refine again I9 (S9.side hp nf9 no2) nf9 upd_same (Reps.append (Reps.le (Le.trans l17 g9.f) _ rs1) (Reps.one ry)) (by simp; (first|lia|omega)) ?_
     exact kw.imp fun ys q σ1 F1 H1 vs s1=>by
      have:(as++[y])++ys=as++(y::ys):=by simp
      rw [this]
      exact q σ1 F1 H1 vs s1
 ·have ei:i=ds.length:=by (first|lia|omega)
  subst ei
  rw [List.drop_length] at k1
  refine thn (T.done (cxC X s₂ H₂ scope cl C fp N) rfl rfl rfl hc _ [] s σ1 H1 _ I1 (stat fr1) st1 (Wk.stop _ F1 H1 (Nat.le_refl _) S1.gr.f S1.s S1.gr.h)) fun r s4' ⟨hr,I4'⟩=>?_
  subst hr
  exact k1 σ1 F1 H1 vs s4' S1.gr fp1 hp1 (by simpa using rs1) I4'
end
end L3
namespace L3
open PySem PySem.Spec PyProof.Rows L2
noncomputable def clOf (env:Env):List (Str×NameKind)→List (Str×Addr)→List (Str×Addr)
 | [],cs=>cs
 | (n,k)::r,cs=>if k == .free then clOf env r ((n,(env.cells.lookup n).getD 0)::cs) else clOf env r cs
noncomputable def capB (env:Env) (names:List (Str×NameKind)):Bool:=names.all fun y=>y.2 != .cell && (y.2 != .free || env.kindOf y.1 == some .cell)
theorem closure_ok {scope:Scope} {env:Env} (hb:capB env scope.names=true) (has:∀ n,env.kindOf n=some .cell→∃ c,env.cells.lookup n=some c):closureFor scope env=pure (clOf env scope.names []):=by
 unfold closureFor
 have go:∀ (names:List (Str×NameKind)) (cs:List (Str×Addr)),capB env names=true →
   (forIn names cs fun (x:Str×NameKind) (r:List (Str×Addr))=>match x with|(name,kind)=>if (kind == NameKind.free)=true then do let y ← cellOf env name; pure (ForInStep.yield ((name,y)::r)) else pure (ForInStep.yield r):Sem (List (Str×Addr)))=pure (clOf env names cs):=by
  intro names
  induction names with
  | nil=>intro cs _; rfl
  | cons y r ih =>
   intro cs hb
   obtain ⟨n,k⟩:=y
   unfold capB at hb
   rw [List.all_cons,Bool.and_eq_true,Bool.and_eq_true] at hb
   rw [List.forIn_cons]
   by_cases hk:(k == NameKind.free)=true
   ·have hk':k=.free:=by simpa using hk
    have:env.kindOf n=some .cell:=by
     have:=hb.1.2
     simp [hk'] at this
     simpa using this
    obtain ⟨c,hc⟩:=has n this
    have e:cellOf env n=pure c:=by simp [cellOf,hc]
    simp only [hk,if_true,e,clOf,hc]
    exact ih _ hb.2
   ·simp only [hk,clOf,Bool.false_eq_true,if_false]
    exact ih _ hb.2
 exact congrArg (fun (m:Sem (List (Str×Addr)))=>m >>= fun s=>pure s) (go scope.names [] hb)
theorem clOf_in {env:Env}:∀ (names:List (Str×NameKind)) (cs:List (Str×Addr)),capB env names=true→(∀ n,env.kindOf n=some .cell→∃ c,env.cells.lookup n=some c)→ClIn env cs→ClIn env (clOf env names cs)
 | [],cs,_,_,h=>h
 | (n,k)::r,cs,hb,has,h=>by
  unfold capB at hb
  rw [List.all_cons,Bool.and_eq_true,Bool.and_eq_true] at hb
  unfold clOf
  by_cases hk:(k == NameKind.free)=true
  ·rw [if_pos hk]
   have hk':k=.free:=by simpa using hk
   have:env.kindOf n=some .cell:=by
    have:=hb.1.2
    simp [hk'] at this
    simpa using this
   obtain ⟨c,hc⟩:=has n this
   exact clOf_in r _ hb.2 has ⟨by rw [hc]; rfl,h⟩
  ·rw [if_neg hk]
   exact clOf_in r _ hb.2 has h
theorem clOf_look {env:Env}:∀ (names:List (Str×NameKind)) (cs:List (Str×Addr)),capB env names=true→(∀ n,env.kindOf n=some .cell→∃ c,env.cells.lookup n=some c)→ClIn env cs →
  ∀ n,((n,NameKind.free)∈names∨(∃ c,cs.lookup n=some c))→∃ c,(clOf env names cs).lookup n=some c
 | [],cs,_,_,_,n,h=>by
  rcases h with h|h
  ·cases h
  ·exact h
 | (m,k)::r,cs,hb,has,hcs,n,h=>by
  have hb0:=hb
  unfold capB at hb
  rw [List.all_cons,Bool.and_eq_true,Bool.and_eq_true] at hb
  unfold clOf
  by_cases hk:(k == NameKind.free)=true
  ·rw [if_pos hk]
   have hk':k=.free:=by simpa using hk
   have hc:env.kindOf m=some .cell:=by
    have:=hb.1.2
    simp [hk'] at this
    simpa using this
   obtain ⟨c,hc⟩:=has m hc
   refine clOf_look r ((m,(env.cells.lookup m).getD 0)::cs) hb.2 has (And.intro (by rw [hc]; rfl) hcs) n ?_
   by_cases e:n=m
   ·subst e
    exact .inr ⟨(env.cells.lookup n).getD 0,by simp [List.lookup]⟩
   ·rcases h with h|⟨c',h⟩
    ·rcases List.mem_cons.mp h with z|z
     ·exact absurd (congrArg Prod.fst z) e
     ·exact .inl z
    ·have:(n == m)=false:=by simpa using e
     exact .inr ⟨c',by simp [List.lookup,this,h]⟩
  ·rw [if_neg hk]
   refine clOf_look r _ hb.2 has hcs n ?_
   rcases h with h|h
   ·rcases List.mem_cons.mp h with z|z
    ·have:k=.free:=(congrArg Prod.snd z).symm
     rw [this] at hk
     exact absurd rfl hk
    ·exact .inl z
   ·exact .inr h
theorem cap_ok {scope:Scope} {env:Env} (hb:capB env scope.names=true) (has:∀ n,env.kindOf n=some .cell→∃ c,env.cells.lookup n=some c):Cap env (clOf env scope.names []) scope.names:=by
 have hin:=clOf_in scope.names [] hb has trivial
 have all:∀ (names:List (Str×NameKind)),(∀ y∈names,y∈scope.names)→Cap env (clOf env scope.names []) names:=by
  intro names
  induction names with
  | nil=>intro _; trivial
  | cons y r ih =>
   intro h
   obtain ⟨n,k⟩:=y
   have hy:=h (n,k) List.mem_cons_self
   have q:=List.all_eq_true.mp hb (n,k) hy
   simp only [Bool.and_eq_true] at q
   refine ⟨⟨by simpa using q.1,fun hk=>?_⟩,ih fun z hz=>h z (List.mem_cons_of_mem _ hz)⟩
   subst hk
   have q2:env.kindOf n=some .cell:=by
    have:=q.2
    simp at this
    simpa using this
   obtain ⟨c,hc⟩:=clOf_look scope.names [] hb has trivial n (.inl hy)
   exact ⟨q2,hc.trans (ClIn.look hin hc).symm⟩
 exact all scope.names fun y hy=>hy
section
variable {X:Cx} {F0 H0:Hp} {pos:Pos} {tg elt iter:Expr} {ifs:List Expr} {scope:Scope} {fi:IF} {gf:GF} {t:TF} {e:EF}
noncomputable abbrev cxD (X:Cx) (scope:Scope) (N:List Str) (s₂:Shared) (H₂:Hp) (C:Addr) (fp:List Addr):Cx:=cxC X s₂ H₂ scope (clOf X.env scope.names []) C fp N
theorem comp_core {n:Nat} (N:List Str) {use:Option (Value→Sem Unit)} (hi:SIc X F0 H0 tg iter fi) (hno:KeepsNo gf)
  (hg:∀ s₂ F₂ H₂ C fp,SG (cxD X scope N s₂ H₂ C fp) F₂ H₂ tg gf) (ht:∀ s₂ F₂ H₂ C fp,Tests (cxD X scope N s₂ H₂ C fp) F₂ H₂ ifs t) (he:∀ s₂ F₂ H₂ C fp,SE (cxD X scope N s₂ H₂ C fp) F₂ H₂ elt e)
  (hc:X.calm=true) (hkind:scope.kind=.function) (hcap:capB X.env scope.names=true) (hslots:slotsB (relabel scope X.env).names X.N N=true) (hlen:N.length=X.N.length+n)
  (hnames:∀ x∈scope.names,x.2=.local→scope.names.lookup x.1=some .local) (hs:∀ x,foldedSetIterable iter X.env x=pure x)
  {pins:List (Addr×Obj)} {s:Shared} {σ:St} {F H:Hp} {ρ:Rho} {Q:Value→Shared→Prop} {ipos:Pos} (S:StOk (kx X) F0 H0 F H ρ σ) (I:Inv X pins σ H s)
  (h:KE (XP X F0 H0) (eComp n fi gf t e ρ) fun w=>∀ (p C:Addr) F1 H1 s1 m,Gr F H F1 H1→Vok (kx X) H F1 H1 (.ref p) w→Inv X pins σ H1 s1→s1.heap.Ns C m →
   (∀ (s2:Shared) H2 h' (σ':St),Inv X pins σ' H2 s2→H2 C=none→(∀ b o,b≠C→s2.heap.get? b=some o→h'.get? b=some o)→Inv X pins σ' H2 { s2 with heap:=h' })→H1 C=none→C≠X.env.locals→(∀ x c,X.env.cells.lookup x=some c→c≠C) →
   compPost (model X.prog X.w) X.A X.xe use Q (.ref p) C (.ok .next) s1) :
  wpAny (model X.prog X.w) X.A (comprehension (.ListComp elt [⟨tg,iter,ifs,0⟩] scope pos) scope X.env ipos (newList []) false (eval iter X.env) use) Q X.xe s:=by
 have has:∀ n,X.env.kindOf n=some .cell→∃ c,X.env.cells.lookup n=some c:=fun n hn=>I.ok.has n (.inl hn)
 have hCl:=clOf_in scope.names [] hcap has trivial
 have hCp:=cap_ok hcap has
 refine wpAny_comprehension_free rfl hs (closure_ok hcap has) hkind hnames ?_
 obtain ⟨wi,PIv,hwi⟩:=hi
 cases ed:fi ρ with
 | exc x=>have h:=KE.bind h; rw [ed] at h; exact h.elim
 | stuck=>have h:=KE.bind h; rw [ed] at h; exact h.elim
 | ok ds =>
  have h:=KE.bind h
  rw [ed] at h
  refine thn (PIv pins s σ H (fun J H1=>∃ F1,Gr F H F1 H1∧Walk (kx X) J F1 H1 ds) I (hwi σ F H ρ _ S (by rw [ed]; exact fun F1 H1 J g W=>⟨F1,g,W⟩))) fun v s1 h1=>thn h1 fun itv s₂ h2=>?_
  obtain ⟨it,fp,tn,J,H₂,rfl,I2,T,st2,f2,F₂,g2,Wk⟩:=h2
  refine wpAny_newObj_type (wpAny_newFunctionEnv (fun x hx=>(Cap.mem hCp x hx).1) (by intro y hy; simp at hy) (fun h₁ hns₁ hsb₁=>?_) hkind)
  dsimp only at hns₁ hsb₁ ⊢
  generalize hH2:s₂.heap.push { cls:=.type "list",dict:=none,data:=.seq ([]:List Value).toArray }=HP at hns₁ hsb₁ ⊢
  have hC:HP.objs.size=s₂.heap.objs.size+1:=by rw [← hH2,Heap.size_push]
  have hDC:s₂.heap.objs.size≠HP.objs.size:=by rw [hC]; exact Nat.ne_of_lt (Nat.lt_succ_self _)
  have old:∀ b o,s₂.heap.get? b=some o→h₁.get? b=some o:=fun b o e =>
   hsb₁.extBut b o (Nat.ne_of_lt (by rw [hC]; exact Nat.lt_succ_of_lt (Heap.lt_size e))) (Heap.get?_push_of_some _ (hH2 ▸ Heap.get?_push_of_some _ e))
  have hacc:h₁.get? s₂.heap.objs.size=some { cls:=.type "list",data:=.seq #[] 0 }:=hsb₁.extBut _ _ hDC (Heap.get?_push_of_some _ (hH2 ▸ Heap.get?_push_size _ rfl))
  have hp:H₂ s₂.heap.objs.size=none:=I2.hok.fresh (Nat.le_refl _)
  have hCl2:s₂.heap.objs.size < HP.objs.size:=by rw [hC]; exact Nat.lt_succ_self _
  have hfC:H₂ HP.objs.size=none:=I2.hok.fresh (Nat.le_of_lt hCl2)
  have I4:=block_start (N:=N) (n:=n) (tk:=s₂.toks+([]:List (Str×Value)).length) I2 T st2 f2 hkind hCp hCl (slots_ok hslots) hlen hCl2 hns₁ old hacc
  have st4:tn 0 h₁:=T.keep _ _ _ st2 fun b hb o e=>old b o e
  have S4:StOk (kx X) F₂ H₂ F₂ H₂ (cRho n ρ) (σ++List.replicate n none):=ro_st n (S.grow g2)
  have hfp4:∀ b∈fp,FpOk (cxD X scope N s₂ H₂ HP.objs.size fp) [] (upd H₂ s₂.heap.objs.size (.lst [])) b:=fun b hb=>by
   obtain ⟨f0,f1,f3,f4,f5,f6⟩:=f2 b hb
   obtain ⟨o,ho,_⟩:=T.obj 0 _ st2 b hb
   have lb:=Heap.lt_size ho
   refine ⟨by rw [upd_ne (Nat.ne_of_lt lb)]; exact f0,(show b≠HP.objs.size from Nat.ne_of_lt (Nat.lt_trans lb hCl2)),fun z=>?_,.inl hb,fun x c e=>f5 x c (ClIn.look hCl e),fun q hq=>absurd (show q∈([]:List (Addr×Obj)) from hq) (by simp)⟩
   rcases List.mem_cons.mp (I2.stkSub b z) with q|q
   ·exact f1 q
   ·exact f3 q
  rw [KE_ok] at h
  by_cases csz:ds.length ≤ sz
  ·rw [if_pos csz] at h
   have run:∀ s₄:Shared,s₄={ s₂ with heap:=h₁,toks:=s₂.toks+([]:List (Str×Value)).length } →
     codeAny (model X.prog X.w) X.A (.compLoop (.ListComp elt [⟨tg,iter,ifs,0⟩] scope pos) 0 (.ref it) (.ref s₂.heap.objs.size) (compEnvC scope (clOf X.env scope.names []) HP.objs.size X.env))
      (compPost (model X.prog X.w) X.A X.xe use Q (.ref s₂.heap.objs.size) HP.objs.size) s₄:=by
    rintro s₄ rfl
    refine block_run (pins:=pins) (σ:=σ) (N:=N) (s₂:=s₂) (F₂:=F₂) g2.s T hc st4 Wk hfp4 hp I4 S4 (noOwn_ro n ρ) hno (hg _ _ _ _ _) (ht _ _ _ _ _) (he _ _ _ _ _) csz (KE.impX (KE.bind h) (fun ys k σ1 F1 H1 vs s1 g1 nf hv rs I1=>?_) fun _ z=>z)
    have J1:Inv X pins σ H1 s1:=I2.call' (ch:=fp) I1.os I1.base I1.hok I1.bare fun b hb=>by
     obtain ⟨f0,f1,f3,f4,f5,f6⟩:=f2 b hb
     exact ⟨f4,f1,f5,f6⟩
    obtain ⟨m1,hn1,_⟩:=I1.loc
    have cl2:∀ x c,X.env.cells.lookup x=some c→c≠HP.objs.size:=fun x c e z=>by
     obtain ⟨v,o,ho,_⟩:=I2.cell x c e
     exact Nat.lt_irrefl _ (Nat.lt_trans (Heap.lt_size ho) (z ▸ hCl2))
    have lne:HP.objs.size≠X.env.locals:=Ne.symm (Nat.ne_of_lt (Nat.lt_trans I2.lt hCl2))
    refine k s₂.heap.objs.size HP.objs.size F1 H1 s1 m1 (g2.trans g1) ⟨_,_,rfl,Le.none g2.h hp,nf,hv,rs⟩ J1 hn1 (fun s2 H2 h' σ' J2 hn kk=>?_) I1.free lne cl2
    refine J2.turned (t':=s2.toks) kk hn lne (.inr (Nat.le_trans I2.sz (Nat.le_of_lt hCl2))) cl2 fun q hq z=>?_
    exact Nat.lt_irrefl _ (Nat.lt_trans (Heap.lt_size (I2.pin q hq).1) (z ▸ hCl2))
   exact codeAny_compStart_list (run _ rfl) (T.self _ 0 _ _ _ st4 (run _ rfl))
  ·rw [if_neg csz] at h; exact h.elim
theorem se_comp {n:Nat} (N:List Str) (hi:SIc X F0 H0 tg iter fi) (hno:KeepsNo gf)
  (hg:∀ s₂ F₂ H₂ C fp,SG (cxD X scope N s₂ H₂ C fp) F₂ H₂ tg gf) (ht:∀ s₂ F₂ H₂ C fp,Tests (cxD X scope N s₂ H₂ C fp) F₂ H₂ ifs t) (he:∀ s₂ F₂ H₂ C fp,SE (cxD X scope N s₂ H₂ C fp) F₂ H₂ elt e)
  (hc:X.calm=true:=by rfl) (hkind:scope.kind=.function:=by rfl) (hcap:capB X.env scope.names=true:=by rfl) (hslots:slotsB (relabel scope X.env).names X.N N=true:=by rfl) (hlen:N.length=X.N.length+n:=by rfl)
  (hnames:∀ x∈scope.names,x.2=.local→scope.names.lookup x.1=some .local:=by decide +kernel) (hs:∀ x,foldedSetIterable iter X.env x=pure x:=by intro _; rfl) :
  SE X F0 H0 (.ListComp elt [⟨tg,iter,ifs,0⟩] scope pos) (eComp n fi gf t e):=by
 intro pins s σ F H ρ Q S I h
 rw [eval_ListComp]
 refine comp_core N hi hno hg ht he hc hkind hcap hslots hlen hnames hs S I (h.imp fun w k p C F1 H1 s1 m g q I1 hn turn hC _ _=>⟨m,hn,fun h' sb=>?_⟩)
 exact k (.ref p) (.ref p) F1 H1 _ g q rfl (turn s1 H1 h' σ I1 hC fun b o hb e=>(sb.2 b hb).trans e)
theorem ss_setC (i:Nat) {x:Str} {pos' pos₂:Pos} {n:Nat} (N:List Str) (hN:X.N.Nodup) (hi:SIc X F0 H0 tg iter fi) (hno:KeepsNo gf)
  (hg:∀ s₂ F₂ H₂ C fp,SG (cxD X scope N s₂ H₂ C fp) F₂ H₂ tg gf) (ht:∀ s₂ F₂ H₂ C fp,Tests (cxD X scope N s₂ H₂ C fp) F₂ H₂ ifs t) (he:∀ s₂ F₂ H₂ C fp,SE (cxD X scope N s₂ H₂ C fp) F₂ H₂ elt e)
  (hix:X.N[i]?=some x:=by rfl) (hx:Loc X.env.scope x:=by trivial) (hsw:swapsWith (.ListComp elt [⟨tg,iter,ifs,0⟩] scope pos) (some (.Name x pos')) pos₂.line X.env=pure true:=by rfl)
  (hf:X.fn x=true∨X.env.scope.names.lookup x=some .local:=by trivial)
  (hc:X.calm=true:=by rfl) (hkind:scope.kind=.function:=by rfl) (hcap:capB X.env scope.names=true:=by rfl) (hslots:slotsB (relabel scope X.env).names X.N N=true:=by rfl) (hlen:N.length=X.N.length+n:=by rfl)
  (hnames:∀ x∈scope.names,x.2=.local→scope.names.lookup x.1=some .local:=by decide +kernel) (hs:∀ x,foldedSetIterable iter X.env x=pure x:=by intro _; rfl) :
  SS X F0 H0 (.Assign [.Name x pos'] (.ListComp elt [⟨tg,iter,ifs,0⟩] scope pos) pos₂) (sSet i (eComp n fi gf t e)):=by
 intro pins s σ F H ρ D S I h
 rw [exec_Assign_Name_used _ _ _ _ hsw]
 refine wpAny_bind (wpAny_standAt (wpAny_bind ?_))
 show wpAny _ X.A (do let _ ← comprehension (.ListComp elt [⟨tg,iter,ifs,0⟩] scope pos) scope X.env _ (newList []) false (eval iter X.env) (some (assign (.Name x pos') X.env))) _ _ s
 refine wpAny_bind (wpAny_mono (comp_core (use:=some (assign (.Name x pos') X.env)) (Q:=fun _ s'=>SP X pins D .next s') N hi hno hg ht he hc hkind hcap hslots hlen hnames hs S I ((KE.bind (PostS.of h)).imp fun w k p C F1 H1 s1 m g q I1 hn turn hC hL hcl=>?_)) (fun _ s' hq=>wpAny_pure (wpAny_pure hq)) fun _ _ e=>e)
 obtain ⟨w',e1,k2,rfl⟩:=nm_ok k
 show wpAny _ X.A (assign (.Name x pos') X.env (.ref p)) _ _ _
 refine wpAny_assign_Name (store_ok2 I1 hN hix hx (v:=.ref p) rfl (fun s2 I2 hch=>?_) hf)
 obtain ⟨a,sb,ha⟩:=hch
 have aC:C≠a:=by
  rcases ha with z|z
  ·rw [z]; exact hL
  ·exact fun q=>hcl x a z q.symm
 refine ⟨m,hn.sameBut sb aC,fun h' sb2=>⟨_,H1,turn s2 H1 h' _ I2 hC fun b o hb e=>(sb2.2 b hb).trans e,k2 _ F1 H1 g.f (S.setW g q e1)⟩⟩
end
end L3
namespace L3
open PySem PySem.Spec PyProof.Rows L2
noncomputable def intsOf:List D→Option (List Int)
 | []=>some []
 | .int i::r=>(match intsOf r with|some l=>some (i::l)|none=>none)
 | _::_=>none
noncomputable def maxL:Int→List Int→Int
 | m,[]=>m
 | m,x::r=>maxL (if x > m then x else m) r
theorem maxL_ok:∀ (r:List Int) (m:Int),(maxL m r∈m::r)∧∀ a∈m::r,a ≤ maxL m r
 | [],m=>⟨List.mem_cons_self,fun a ha=>by simp at ha; subst ha; exact Int.le_refl _⟩
 | x::r,m=>by
  obtain ⟨h1,h2⟩:=maxL_ok r (if x > m then x else m)
  have e:maxL m (x::r)=maxL (if x > m then x else m) r:=rfl
  rw [e]
  by_cases c:x > m
  ·rw [if_pos c] at h1 h2 ⊢
   refine ⟨List.mem_cons_of_mem _ h1,fun a ha=>?_⟩
   rcases List.mem_cons.mp ha with rfl|ha
   ·have:=h2 x List.mem_cons_self; (first|lia|omega)
   ·exact h2 a ha
  ·rw [if_neg c] at h1 h2 ⊢
   refine ⟨?_,fun a ha=>?_⟩
   ·rcases List.mem_cons.mp h1 with q|q
    ·rw [q]; exact List.mem_cons_self
    ·exact List.mem_cons_of_mem _ (List.mem_cons_of_mem _ q)
   ·rcases List.mem_cons.mp ha with rfl|ha
    ·exact h2 _ List.mem_cons_self
    ·rcases List.mem_cons.mp ha with rfl|ha
     ·have:=h2 m List.mem_cons_self; (first|lia|omega)
     ·exact h2 a (List.mem_cons_of_mem _ ha)
theorem intsOf_reps {κ:Kx} {F:Hp}:∀ {ds:List D} {vs:List V} {ns:List Int},intsOf ds=some ns→Reps κ F vs ds→vs=ns.map V.int
 | [],vs,ns,h,r=>by cases h; exact r
 | d::ds,vs,ns,h,r=>by
  obtain ⟨v,vr,rfl,r1,r2⟩:=r
  cases d <;> first|(cases h; done)|skip
  rename_i i
  unfold intsOf at h
  cases e:intsOf ds with
  | none=>rw [e] at h; cases h
  | some l =>
   rw [e] at h
   cases h
   cases (show v=.int i from r1)
   rw [intsOf_reps e r2]
   rfl
section
variable {X:Cx} {F0 H0:Hp}
noncomputable def keyD:Sum Int Str→D
 | .inl i=>.int i
 | .inr x=>.str x
noncomputable def iDct (e:EF):IF:=fun ρ=>(e ρ).bind fun w=>w.st.bind fun d=>match d with
 | .dK kvs=>.ok (kvs.map fun p=>keyD p.1)
 | _=>.stuck
noncomputable def ItK (ks:List Key):It:=⟨fun i _=>i < ks.length,fun i H x H'=>H'=H∧∃ k,ks[i]?=some k∧x=kV k,fun i _=>ks.length ≤ i⟩
theorem kV_rel {P:Program} {w:World} {k:Key} {u:Value} (h:(mixKind P w).is k u=true):RelV (kV k) u:=by
 rcases keyIs_shape (k:=k) (v:=u) h with ⟨i,t,rfl,rfl⟩|⟨x,t,rfl,rfl⟩
 ·exact ⟨t,rfl⟩
 ·exact ⟨t,rfl⟩
theorem turn_dictK {P:Program} {w:World} {K:PySem.W.Frag} {tg:Expr} {a it:Addr} {o:Obj} {es:Array DictEntry} {ep:Nat} {vs:List (Key×Value)} (hk:K.lookup a=some o) (h1:o.ExactDict) (h2:o.data=.dict es ep)
  (h3:PySem.KeysOf (mixKind P w) es) (h4:PySem.Pairs (mixKind P w) es.toList vs) (h5:(vs.map (·.1)).Nodup):Turn P w K tg (ItK (vs.map (·.1))) [it] it (fun i h=>h.IsKeyIter it a i vs.length ep) where
 mem:=by simp
 obj:=fun i h st b hb=>by
  have e:b=it:=by simpa using hb
  subst e
  obtain ⟨o,e,c,d⟩:=st
  exact ⟨o,e,fun v z=>by rw [d] at z; cases z⟩
 keep:=fun i h h' st k=>by
  obtain ⟨o,e,r⟩:=st
  exact ⟨o,k it (by simp) o e,r⟩
 item:=by
  intro X hP hw hK hc i pins s σ H E I hf st hg
  subst hP hw hK
  have hm:s.heap.DictAt (mixKind X.prog X.w) a vs ep:=⟨o,es,I.kIn a o hk,h1,h2,h3,h4,h5⟩
  have hg:i < (vs.map (·.1)).length:=hg
  rw [List.length_map] at hg
  obtain ⟨f0,f1,f2,f3,f4,f5⟩:=hf it (by simp)
  have hx:vs[i]?=some ((vs[i]).1,(vs[i]).2):=by simp [hg]
  refine wpAny_pyNext_dict_item st hm hx fun key h' ik st' sb=>?_
  have I1:Inv X pins σ H { s with heap:=h' }:=I.turned (t':=s.toks) (fun b o hb e=>(sb.2 b hb).trans e) f0 f1 f3 f4 f5
  obtain ⟨o',e,c,d⟩:=id st'
  exact ⟨key,rfl,go_of (s:={ s with heap:=h' }) e c d (by decide) ⟨kV (vs[i]).1,H,I1,kV_rel ik,⟨rfl,(vs[i]).1,by simp [hg],rfl⟩,st',fun b hb=>(hf b hb).1⟩⟩
 done:=by
  intro X hP hw hK hc i pins s σ H E I hf st hg
  subst hP hw hK
  have hm:s.heap.DictAt (mixKind X.prog X.w) a vs ep:=⟨o,es,I.kIn a o hk,h1,h2,h3,h4,h5⟩
  have hg:(vs.map (·.1)).length ≤ i:=hg
  rw [List.length_map] at hg
  obtain ⟨f0,f1,f2,f3,f4,f5⟩:=hf it (by simp)
  exact wpAny_pyNext_dict_end (I.ok.hd hc) st hm (by simp; (first|lia|omega)) fun h' eb=>⟨rfl,I.turned (t':=s.toks) (fun b o hb e=>eb b o hb e) f0 f1 f3 f4 f5⟩
 self:=fun _ _ _ _ _ st h=>wpAny_pyIter_keyiter st h
theorem repK_keys {κ:Kx} {F:Hp}:∀ {kds:List (Sum Int Str×D)} {kvs:List (Key×V)},RepK κ F kvs kds→kvs.map (·.1)=kds.map (·.1)
 | [],_,h=>by cases (show _=_ from h); rfl
 | (k,d)::r,_,h=>by
  obtain ⟨v,kr,rfl,h1,h2⟩:=h
  simp [repK_keys h2]
theorem si_dictK {x:Str} {v:V} {u:Value} {d:D} {tg:Expr} {pos:Pos} (hm:X.mg x=some u) (r:RelV v u) (q:∀ F,Rep (kx X) F v d) (hg:Gl X x:=by rfl) (hd:(x == ("__debug__":Str))=false:=by decide) :
  SI X F0 H0 tg (.Name x pos) (iDct (eC d)):=by
 refine ⟨fun σ H R=>∃ kds,d=.dK kds∧R (ItK (kds.map (·.1))) H,?_,fun σ F H ρ R S h=>?_⟩
 ·intro pins s σ H R I ⟨kds,ed,hR⟩
  subst ed
  obtain ⟨a,kvs,ev,hq,rk⟩:=q (fun _=>none)
  subst ev
  cases (show u=Value.ref a from r)
  rcases hq with (hq|⟨_,hq⟩)|⟨hs,o,es,ep,vs,hk,h1,h2,h3,h4,h5,h6⟩
  ·cases hq
  ·cases hq
  ·refine ld_glob I hg hm ?_ hd
   have hmm:s.heap.DictAt (mixKind X.prog X.w) a vs ep:=⟨o,es,I.kIn a o hk,h1,h2,h3,h4,h5⟩
   have ek:vs.map (·.1)=kds.map (·.1):=by rw [← repK_keys rk]; exact (KV.keys h6).symm
   refine wpAny_pyIter_dict hs hmm ?_
   refine ⟨s.heap.objs.size,[s.heap.objs.size],_,_,H,rfl,I.kept (t':=s.toks) fun b o e=>Heap.get?_push_of_some _ e,turn_dictK hk h1 h2 h3 h4 h5,⟨_,Heap.get?_push_size _ rfl,rfl,rfl⟩,fun b hb=>?_,?_⟩
   ·have e:b=s.heap.objs.size:=by simpa using hb
    subst e
    exact I.fpOk (Nat.le_refl _) (I.hok.fresh (Nat.le_refl _))
   ·rw [ek]; exact hR
 ·cases d <;> first|exact h.elim|skip
  rename_i kds
  refine ⟨kds,rfl,?_⟩
  have h:∀ F1 H1 J,Gr F H F1 H1→Walk (kx X) J F1 H0 (kds.map fun p=>keyD p.1)→R J H1:=h
  refine h F H _ (Gr.refl S.s) ⟨fun i dd F2 H2 e l1 l2 _=>?_,fun i F2 H2 hi l1 l2 _=>?_⟩
  ·rw [List.getElem?_map] at e
   cases ek:kds[i]? with
   | none=>rw [ek] at e; cases e
   | some p =>
    rw [ek] at e
    have e:keyD p.1=dd:=by simpa using e
    have hi:i < kds.length:=(List.getElem?_eq_some_iff.mp ek).1
    refine ⟨by simpa [ItK] using hi,fun y H' hy=>?_⟩
    obtain ⟨eh,k,e1,e2⟩:=hy
    subst eh
    refine ⟨F2,Gr.refl l2,?_⟩
    rw [List.getElem?_map,ek] at e1
    have e1:p.1=k:=by simpa using e1
    subst e1 e2 e
    cases p.1 <;> rfl
  ·simpa [ItK] using hi
end
end L3
namespace L3
open PySem PySem.Spec PyProof.Rows L2
theorem StOk.frz {κ:Kx} {F0 H0 F H:Hp} {ρ:Rho} {σ:St} {i:Nat} {d:D} {a:Addr} (S:StOk κ F0 H0 F H ρ σ) (ei:ρ[i]?=some (some (.ow d))):∃ F',Le F F'∧StOk κ F0 H0 F' H (ρ.set i (some (.fz d))) σ:=by
 obtain ⟨v,si,b,o,rfl,h0,hf,hh,ro⟩:=S.val i _ ei
 have l:Le F (upd F b o):=fun c u h=>by rw [upd_ne (ne_of_none h hf)]; exact h
 refine ⟨upd F b o,l,⟨⟨Le.trans S.gr.f l,S.gr.h,fun c u h=>?_,fun c h=>?_⟩,by simpa using S.len,fun j w e=>?_,fun j k w w' c hjk ej ek oj ok sj sk=>?_,fun j y e=>?_⟩⟩
 ·by_cases e:c=b
  ·subst e; rw [upd_same] at h; cases h; exact hh
  ·rw [upd_ne e] at h; exact S.gr.s c u h
 ·by_cases e:c=b
  ·subst e; exact .inr (.inl h0)
  ·rw [upd_ne e] at h; exact S.gr.n c h
 ·rcases set_get e with ⟨rfl,z⟩|⟨ne,z⟩
  ·cases z
   refine ⟨_,si,?_⟩
   have r:=OwnO.le l ro
   cases o <;> cases d <;> first
    | exact r.elim
    | exact ⟨b,_,rfl,.inl (.inl upd_same),r⟩
    | exact ⟨b,_,rfl,.inl upd_same,r⟩
  ·obtain ⟨v,e1,q⟩:=S.val j w z
   refine ⟨v,e1,?_⟩
   have nb:∀ {c},v=.ref c→w.own=true→c≠b:=fun {c} ev ow ec=>by
    subst ev ec
    exact S.sep j i w _ c ne z ei ow rfl e1 si
   cases w with
   | fz d=>exact Rep.le l d q
   | br d=>obtain ⟨c,oc,ec,eh,cr⟩:=q; exact ⟨c,oc,ec,eh,OwnO.le l cr⟩
   | ow d=>obtain ⟨c,oc,ec,c0,cf,ch,cr⟩:=q; exact ⟨c,oc,ec,c0,by rw [upd_ne (nb ec rfl)]; exact cf,ch,OwnO.le l cr⟩
   | lk d=>exact ⟨Rep.le l d q.1,RawT.le l q.2⟩
   | od d=>obtain ⟨c,oc,ec,c0,cf,ch⟩:=q; exact ⟨c,oc,ec,c0,by rw [upd_ne (nb ec rfl)]; exact cf,ch⟩
 ·rcases set_get ej with ⟨_,z⟩|⟨nj,ej⟩
  ·cases z; cases oj
  rcases set_get ek with ⟨_,z⟩|⟨nk,ek⟩
  ·cases z; cases ok
  exact S.sep j k w w' c hjk ej ek oj ok sj sk
 ·rcases set_get e with ⟨_,z⟩|⟨nj,ej⟩
  ·cases z
  obtain ⟨s1,c,bs,e1,c0,cf,nd,dp,sp⟩:=S.dp j y ej
  have nb:∀ x∈c::bs,x≠b:=fun x m z=>by subst z; exact sp i _ _ (Ne.symm nj) ei rfl m si
  refine ⟨fun k z hk ek=>?_,c,bs,e1,c0,by rw [upd_ne (nb c (by simp))]; exact cf,nd,Deep.same (fun _ _=>rfl) (fun x m z=>by rw [upd_ne (nb x (List.mem_cons_of_mem _ m))]; exact z) l dp,fun k w x hk ek ok m=>?_⟩
  ·rcases set_get ek with ⟨_,q⟩|⟨_,q⟩
   ·cases q
   ·exact s1 k z hk q
  ·rcases set_get ek with ⟨_,q⟩|⟨_,q⟩
   ·cases q; cases ok
   ·exact sp k w x hk q ok m
theorem ss_frz {X:Cx} {F0 H0:Hp} {st:Stmt} {f:SF} (i:Nat) (h:SS X F0 H0 st f):SS X F0 H0 st (sFrz i f):=by
 intro pins s σ F H ρ D S I k
 unfold sFrz L3.frz at k
 split at k
 ·rename_i d e
  obtain ⟨F',l,S'⟩:=S.frz (a:=0) e
  exact h pins s σ F' H _ D S' I (PostS.le l k)
 ·exact h pins s σ F H ρ D S I k
end L3
namespace L3
open PySem PySem.Spec PyProof.Rows L2
noncomputable def putM {κ:Type} [DecidableEq κ] (k:κ) (v:D) (kds:List (κ×D)):List (κ×D) :=
 if (kds.any fun kv=>decide (kv.1=k))=true then kds.map (fun kv=>if kv.1=k then (kv.1,v) else kv) else kds++[(k,v)]
noncomputable def eDK:EF:=fun _=>.ok (.ow (.dK []))
noncomputable def eDT:EF:=fun _=>.ok (.ow (.dT []))
section
variable {X:Cx} {F0 H0:Hp} {pos pos':Pos}
theorem se_dT:SE X F0 H0 (.Dict [] [] pos) eDT:=by
 intro pins s σ F H ρ Q S I h
 refine thn (pe_dnewT (pos:=pos) pins s σ H (fun v H'=>∃ p,v=.ref p∧H p=none∧H'=upd H p (.dT [])) I (fun p hp=>⟨p,rfl,hp,rfl⟩)) fun u s' ⟨v,H',I',r,p,ev,hp,eh⟩=>?_
 subst ev eh
 exact h (.ref p) u F (upd H p (.dT [])) s' (Gr.new S.s hp) ⟨p,_,rfl,hp,Le.none S.s hp,upd_same,rfl⟩ r I'
noncomputable def dMax2:List D→R En
 | [.int i,.int j]=>okI (if j > i then j else i)
 | _=>.stuck
theorem cd_max2 (hc:X.calm=true:=by rfl):CallD X (.builtin "max") dMax2:=calld_of (call_max2 hc) fun F H xs ds Q l qx w=>by
 cases qx with
 | nil=>exact w.elim
 | @cons x d xs ds q1 q2 =>
  cases q2 with
  | nil=>cases d <;> exact w.elim
  | @cons y e ys es q2 q3 =>
   cases q3 with
   | cons _ _=>cases d <;> first|exact w.elim|(cases e <;> exact w.elim)
   | nil =>
    cases d <;> first|exact w.elim|skip
    cases e <;> first|exact w.elim|skip
    cases RdV.int q1
    cases RdV.int q2
    exact ⟨_,_,rfl,wish_fz (X:=X) l (v:=.int _) w rfl⟩
theorem cd_min2 (hc:X.calm=true:=by rfl):CallD X (.builtin "min") dMin2:=calld_of (call_min2 hc) fun F H xs ds Q l qx w=>by
 cases qx with
 | nil=>exact w.elim
 | @cons x d xs ds q1 q2 =>
  cases q2 with
  | nil=>cases d <;> exact w.elim
  | @cons y e ys es q2 q3 =>
   cases q3 with
   | cons _ _=>cases d <;> first|exact w.elim|(cases e <;> exact w.elim)
   | nil =>
    cases d <;> first|exact w.elim|skip
    cases e <;> first|exact w.elim|skip
    cases RdV.int q1
    cases RdV.int q2
    exact ⟨_,_,rfl,wish_fz (X:=X) l (v:=.int _) w rfl⟩
noncomputable def dSum:List D→R En
 | [.lst ds]=>(match intsOf ds with|some ns=>okI ns.sum|none=>.stuck)
 | _=>.stuck
theorem cd_sum (hc:X.calm=true:=by rfl):CallD X (.builtin "sum") dSum:=by
 intro pins s σ F H xs us ds Q I l rx qx w
 cases qx with
 | nil=>exact w.elim
 | @cons x d xs ds q1 q2 =>
  cases q2 with
  | cons _ _=>cases d <;> exact w.elim
  | nil =>
   cases d <;> first|exact w.elim|skip
   rename_i ds
   unfold dSum at w
   dsimp only at w
   cases e:intsOf ds with
   | none=>rw [e] at w; exact w.elim
   | some ns =>
    rw [e] at w
    dsimp only at w
    obtain ⟨p,vs,rfl,hq,rs⟩:=RdV.lst l q1
    have ev:=intsOf_reps e rs
    subst ev
    cases rx with
    | cons r1 r2 =>
     cases r2
     cases r1
     obtain ⟨its,rv,pl,hz⟩:=I.list hq
     have hi:IntsAre its ns:=intsAre_of rv
     obtain ⟨ys,ey⟩:=hi.allInts.items
     have hns:ns=ys.toList.map (·.1):=by rw [← hi.numsOf,← nums_intItems,← ey]
     have hl:=pl.isList
     rw [ey] at hl
     refine sum_intListG (I.ok.hd hc) hl fun h' tk t' hk=>?_
     rw [preSum_eq,List.take_of_length_le (by simp),← hns]
     exact ⟨.int _,H,I.kept hk,⟨_,rfl⟩,wish_fz (X:=X) l (v:=.int _) w rfl⟩
noncomputable def eChain (g g':D→D→R En) (a b c:EF):EF:=fun ρ=>(a ρ).bind fun x=>(b ρ).bind fun y=>(g x.d y.d).bind fun r=>(isB r.d).bind fun t=>if t=true then (c ρ).bind fun z=>g' y.d z.d else okB false
section
variable {a b c:Expr} {fa fb fc:EF} {g g':D→D→R En} {op op':CmpOp}
end
noncomputable def sStuck:SF:=fun _=>.stuck
end
end L3
namespace L3
open PySem
noncomputable def Turned (I:Rho→Prop) (Q:Out→Prop):Out→Prop
 | .nx ρ=>I ρ
 | .ct ρ=>I ρ
 | .bk ρ=>Q (.nx ρ)
 | o=>Q o
theorem for_post {g:GF} {b:SF} {Q:Out→Prop}:∀ (xs:List D) (I:Nat→Rho→Prop) {ρ:Rho},I 0 ρ →
  (∀ i x ρ,xs[i]?=some x→I i ρ→∃ ρ1,g x ρ=.ok ρ1∧Turned (I (i+1)) Q (b ρ1))→(∀ ρ,I xs.length ρ→Q (.nx ρ))→Q (forD g b xs ρ)
 | [],I,ρ,h0,_,fin=>fin ρ h0
 | x::xs,I,ρ,h0,step,fin=>by
  obtain ⟨ρ1,e1,t⟩:=step 0 x ρ rfl h0
  have rec_:∀ ρ2,I 1 ρ2→Q (forD g b xs ρ2):=fun ρ2 h =>
   for_post xs (fun i=>I (i+1)) h (fun i y ρ e hi=>step (i+1) y ρ (by simpa using e) hi) (fun ρ h=>fin ρ (by simpa using h))
  unfold forD
  rw [e1]
  dsimp only
  cases eb:b ρ1 with
  | nx ρ2=>rw [eb] at t; exact rec_ ρ2 t
  | ct ρ2=>rw [eb] at t; exact rec_ ρ2 t
  | bk ρ2=>rw [eb] at t; exact t
  | rt w=>rw [eb] at t; exact t
  | exc w=>rw [eb] at t; exact t
  | stuck=>rw [eb] at t; exact t
theorem for_nx {g:GF} {b:SF} (xs:List D) (I:Nat→Rho→Prop) {ρ:Rho} (h0:I 0 ρ) (step:∀ i x ρ,xs[i]?=some x→I i ρ→∃ ρ1 ρ2,g x ρ=.ok ρ1∧(b ρ1=.nx ρ2∨b ρ1=.ct ρ2)∧I (i+1) ρ2) :
  ∃ ρ',forD g b xs ρ=.nx ρ'∧I xs.length ρ':=by
 refine for_post (Q:=fun o=>∃ ρ',o=.nx ρ'∧I xs.length ρ') xs I h0 (fun i x ρ e hi=>?_) fun ρ h=>⟨ρ,rfl,h⟩
 obtain ⟨ρ1,ρ2,e1,e2,h⟩:=step i x ρ e hi
 refine ⟨ρ1,e1,?_⟩
 rcases e2 with e2|e2 <;> (rw [e2]; exact h)
theorem rngD_eq (n:Nat):rngD 0 n=(List.range n).map fun k:Nat=>D.int k:=by
 apply List.ext_getElem?
 intro i
 rw [rngD_get,List.getElem?_map]
 by_cases h:i < n
 ·rw [if_pos h,List.getElem?_range h]; simp
 ·rw [if_neg h,List.getElem?_eq_none (by simpa using h)]; rfl
theorem rng_nx {g:GF} {b:SF} (n:Nat) (I:Nat→Rho→Prop) {ρ:Rho} (h0:I 0 ρ) (step:∀ i ρ,i < n→I i ρ→∃ ρ1 ρ2,g (.int i) ρ=.ok ρ1∧(b ρ1=.nx ρ2∨b ρ1=.ct ρ2)∧I (i+1) ρ2) :
  ∃ ρ',forD g b (rngD 0 n) ρ=.nx ρ'∧I n ρ':=by
 have:=for_nx (g:=g) (b:=b) (rngD 0 n) I h0 fun i x ρ e hi=>by
  rw [rngD_get] at e
  by_cases h:i < n
  ·rw [if_pos h] at e
   cases e
   have:=step i ρ h hi
   simpa using this
  ·rw [if_neg h] at e; cases e
 rw [rngD_len] at this
 exact this
theorem comp_gV (i:Nat) {t:TF} {e:EF} (p:D→Bool) (f:D→D):∀ (ds:List D) (ρ:Rho),
  (∀ d∈ds,t (ρ.set i (some (.fz d)))=.ok (p d)∧(p d=true→∃ w,e (ρ.set i (some (.fz d)))=.ok w∧w.st=.ok (f d)))→compD (gV i) t e ds ρ=.ok ((ds.filter p).map f)
 | [],_,_=>rfl
 | d::ds,ρ,h=>by
  obtain ⟨h1,h2⟩:=h d List.mem_cons_self
  have rec_:=comp_gV i (t:=t) (e:=e) p f ds (ρ.set i (some (.fz d))) fun x hx=>by
   rw [List.set_set]
   exact h x (List.mem_cons_of_mem _ hx)
  show (R.bind (t (ρ.set i (some (.fz d)))) fun b=>if b=true then (e (ρ.set i (some (.fz d)))).bind fun w=>w.st.bind fun y=>(compD (gV i) t e ds (ρ.set i (some (.fz d)))).bind fun ys=>.ok (y::ys) else compD (gV i) t e ds (ρ.set i (some (.fz d))))=_
  rw [h1,R.bind_ok]
  by_cases c:p d=true
  ·obtain ⟨w,e1,e2⟩:=h2 c
   rw [if_pos c,e1,R.bind_ok,e2,R.bind_ok,rec_]
   simp [c]
  ·rw [if_neg c,rec_]
   simp [c]
theorem comp_all (i:Nat) {e:EF} (f:D→D) (ds:List D) (ρ:Rho) (h:∀ d∈ds,∃ w,e (ρ.set i (some (.fz d)))=.ok w∧w.st=.ok (f d)):compD (gV i) tTrue e ds ρ=.ok (ds.map f):=by
 have:=comp_gV i (t:=tTrue) (e:=e) (fun _=>true) f ds ρ fun d hd=>⟨rfl,fun _=>h d hd⟩
 rw [this]
 congr 2
 exact List.filter_eq_self.mpr fun _ _=>rfl
theorem ati_nat {α:Type} {xs:List α} {i:Nat}:ati xs (i:Int)=xs[i]?:=by
 unfold ati ixn
 rw [if_pos (by (first|lia|omega))]
 by_cases h:i < xs.length
 ·rw [if_pos (by (first|lia|omega))]; simp
 ·rw [if_neg (by (first|lia|omega))]; simp at h; simp [List.getElem?_eq_none h]
theorem ati_last {α:Type} {xs:List α}:ati xs (-1)=xs.getLast?:=by
 unfold ati ixn
 cases xs with
 | nil=>rfl
 | cons x r =>
  rw [if_neg (by decide),if_pos (by simp; (first|lia|omega))]
  have:((-1:Int)+((x::r).length:Int)).toNat=(x::r).length - 1:=by (first|lia|omega)
  rw [this,List.getLast?_eq_getElem?]
  rfl
theorem comp_eq {n:Nat} {it:IF} {gf:GF} {t:TF} {e:EF} {ρ:Rho} {ds ys:List D} (h:it ρ=.ok ds) (hl:ds.length ≤ sz) (h2:compD gf t e ds (cRho n ρ)=.ok ys):eComp n it gf t e ρ=.ok (.ow (.lst ys)):=by
 unfold eComp
 rw [h,R.bind_ok,if_pos hl,h2,R.bind_ok]
end L3
namespace L3
open PySem
noncomputable def Out.th (o:Out) (b:SF):Out:=match o with
 | .nx ρ=>b ρ
 | o=>o
noncomputable def pickS (a b:SF) (ρ:Rho) (c:Bool):Out:=if c=true then a ρ else b ρ
noncomputable def pickE (a b:EF) (ρ:Rho) (c:Bool):R En:=if c=true then a ρ else b ρ
noncomputable def pickT (a b:TF) (ρ:Rho) (c:Bool):R Bool:=if c=true then a ρ else b ρ
noncomputable def kF:EF:=fun _=>okB false
noncomputable def kT:EF:=fun _=>okB true
noncomputable def kfB:TF:=fun _=>.ok false
noncomputable def ktB:TF:=fun _=>.ok true
noncomputable def varR (o:Option (Option En)):R En:=match o with
 | some (some (.fz d))=>.ok (.fz d)
 | some (some (.ow d))=>.ok (.br d)
 | some (some (.br d))=>.ok (.br d)
 | some (some (.lk d))=>.ok (.fz d)
 | _=>.stuck
noncomputable def retR (o:Option (Option En)):Out:=match o with
 | some (some (.fz d))=>.rt (.fz d)
 | some (some (.ow d))=>.rt (.ow d)
 | _=>.stuck
noncomputable def R.b {α β:Type} (r:R α) (f:α→R β):R β:=r.bind f
theorem x_b_ok {α β:Type} {a:α} {f:α→R β}:(R.ok a).b f=f a:=rfl
theorem x_b_stuck {α β:Type} {f:α→R β}:(R.stuck:R α).b f=.stuck:=rfl
noncomputable def mkLst (ds:List D):R En:=if ds.length ≤ sz then .ok (.ow (.lst ds)) else .stuck
noncomputable def mkTup (ds:List D):R En:=if ds.length ≤ sz then .ok (.fz (.tup ds)) else .stuck
theorem mkLst_ok {ds:List D} (h:ds.length ≤ sz):mkLst ds=.ok (.ow (.lst ds)):=if_pos h
theorem mkTup_ok {ds:List D} (h:ds.length ≤ sz):mkTup ds=.ok (.fz (.tup ds)):=if_pos h
noncomputable def En.dd (w:En):D:=w.d
noncomputable def En.sto (w:En):R D:=w.st
noncomputable def En.argo (w:En):R En:=w.arg
noncomputable def En.nmo (w:En):R En:=w.nm
section
variable {a b:SF} {ρ ρ':Rho} {w:En} {x:Xc} {d:D} {e f:EF} {t u:TF} {i j:Nat} {α β:Type} {k:α→Out} {v:α} {l:List EF}
theorem x_th_nx:Out.th (.nx ρ) b=b ρ:=rfl
theorem x_th_rt:Out.th (.rt w) b=.rt w:=rfl
theorem x_th_bk:Out.th (.bk ρ) b=.bk ρ:=rfl
theorem x_th_ct:Out.th (.ct ρ) b=.ct ρ:=rfl
theorem x_th_stuck:Out.th .stuck b=.stuck:=rfl
theorem x_seq:sSeq a b ρ=Out.th (a ρ) b:=by unfold sSeq Out.th; cases a ρ <;> rfl
theorem x_of_ok:sOf (.ok v) k=k v:=rfl
theorem x_of_stuck:sOf (.stuck:R α) k=.stuck:=rfl
theorem x_pickS_t:pickS a b ρ true=a ρ:=rfl
theorem x_pickS_f:pickS a b ρ false=b ρ:=rfl
theorem x_pickE_t:pickE e f ρ true=e ρ:=rfl
theorem x_pickE_f:pickE e f ρ false=f ρ:=rfl
theorem x_pickT_t:pickT t u ρ true=t ρ:=rfl
theorem x_pickT_f:pickT t u ρ false=u ρ:=rfl
theorem x_kF:kF ρ=.ok (.fz (.bl false)):=rfl
theorem x_kT:kT ρ=.ok (.fz (.bl true)):=rfl
theorem x_kfB:kfB ρ=.ok false:=rfl
theorem x_ktB:ktB ρ=.ok true:=rfl
theorem x_set:sSet i e ρ=sOf ((e ρ).b En.nmo) fun w=>.nx (ρ.set i (some w)):=rfl
theorem x_ret:sRet e ρ=sOf ((e ρ).b En.nmo) .rt:=rfl
theorem x_retV:sRetV i ρ=retR ρ[i]?:=rfl
theorem x_retR_fz:retR (some (some (.fz d)))=.rt (.fz d):=rfl
theorem x_retR_ow:retR (some (some (.ow d)))=.rt (.ow d):=rfl
theorem x_retN:sRetN ρ=.rt (.fz .non):=rfl
theorem x_next:sNext ρ=.nx ρ:=rfl
theorem x_break:sBreak ρ=.bk ρ:=rfl
theorem x_cont:sCont ρ=.ct ρ:=rfl
theorem x_expr:sExpr e ρ=sOf (e ρ) fun _=>.nx ρ:=rfl
theorem x_if:sIf t a b ρ=sOf (t ρ) (pickS a b ρ):=rfl
theorem x_nm_fz:En.nmo (.fz d)=.ok (.fz d):=rfl
theorem x_nm_ow:En.nmo (.ow d)=.ok (.ow d):=rfl
theorem x_st_fz:En.sto (.fz d)=.ok d:=rfl
theorem x_st_ow:En.sto (.ow d)=.ok d:=rfl
theorem x_arg_fz:En.argo (.fz d)=.ok (.fz d):=rfl
theorem x_arg_ow:En.argo (.ow d)=.ok (.fz d):=rfl
theorem x_arg_br:En.argo (.br d)=.ok (.br d):=rfl
theorem x_d_fz:En.dd (.fz d)=d:=rfl
theorem x_d_ow:En.dd (.ow d)=d:=rfl
theorem x_d_br:En.dd (.br d)=d:=rfl
theorem x_d_lk:En.dd (.lk d)=d:=rfl
theorem x_var:eVar i ρ=varR ρ[i]?:=rfl
theorem x_varR_fz:varR (some (some (.fz d)))=.ok (.fz d):=rfl
theorem x_varR_ow:varR (some (some (.ow d)))=.ok (.br d):=rfl
theorem x_varR_br:varR (some (some (.br d)))=.ok (.br d):=rfl
theorem x_varR_lk:varR (some (some (.lk d)))=.ok (.fz d):=rfl
theorem x_c:eC d ρ=.ok (.fz d):=rfl
theorem x_op {g:D→D→R En}:eOp g e f ρ=(e ρ).b fun x=>(f ρ).b fun y=>g x.dd y.dd:=rfl
theorem x_un {g:D→R En}:eUn g e ρ=(e ρ).b fun x=>g x.dd:=rfl
theorem x_evs_nil:evs [] ρ=.ok []:=rfl
theorem x_evs:evs (e::l) ρ=(e ρ).b fun x=>(evs l ρ).b fun xs=>.ok (x::xs):=rfl
theorem x_stA_nil:stAll []=.ok []:=rfl
theorem x_stA {w:En} {ws:List En}:stAll (w::ws)=w.sto.b fun d=>(stAll ws).b fun ds=>.ok (d::ds):=rfl
theorem x_argA_nil:argAll []=.ok []:=rfl
theorem x_argA {w:En} {ws:List En}:argAll (w::ws)=w.argo.b fun d=>(argAll ws).b fun ds=>.ok (d::ds):=rfl
theorem x_lst:eLst l ρ=(evs l ρ).b fun xs=>(stAll xs).b mkLst:=rfl
theorem x_tup:eTup l ρ=(evs l ρ).b fun xs=>(stAll xs).b mkTup:=rfl
theorem x_mkL0:mkLst []=.ok (.ow (.lst [])):=mkLst_ok (Nat.le_of_lt (Nat.lt_of_lt_of_le (show [].length < 17 by simp) (by decide)))
theorem x_mkT0:mkTup []=.ok (.fz (.tup [])):=mkTup_ok (Nat.le_of_lt (Nat.lt_of_lt_of_le (show [].length < 17 by simp) (by decide)))
theorem x_mkL1 {a0:D}:mkLst [a0]=.ok (.ow (.lst [a0])):=mkLst_ok (Nat.le_of_lt (Nat.lt_of_lt_of_le (show [a0].length < 17 by simp) (by decide)))
theorem x_mkT1 {a0:D}:mkTup [a0]=.ok (.fz (.tup [a0])):=mkTup_ok (Nat.le_of_lt (Nat.lt_of_lt_of_le (show [a0].length < 17 by simp) (by decide)))
theorem x_mkL2 {a0 a1:D}:mkLst [a0,a1]=.ok (.ow (.lst [a0,a1])):=mkLst_ok (Nat.le_of_lt (Nat.lt_of_lt_of_le (show [a0,a1].length < 17 by simp) (by decide)))
theorem x_mkT2 {a0 a1:D}:mkTup [a0,a1]=.ok (.fz (.tup [a0,a1])):=mkTup_ok (Nat.le_of_lt (Nat.lt_of_lt_of_le (show [a0,a1].length < 17 by simp) (by decide)))
theorem x_mkL3 {a0 a1 a2:D}:mkLst [a0,a1,a2]=.ok (.ow (.lst [a0,a1,a2])):=mkLst_ok (Nat.le_of_lt (Nat.lt_of_lt_of_le (show [a0,a1,a2].length < 17 by simp) (by decide)))
theorem x_mkT3 {a0 a1 a2:D}:mkTup [a0,a1,a2]=.ok (.fz (.tup [a0,a1,a2])):=mkTup_ok (Nat.le_of_lt (Nat.lt_of_lt_of_le (show [a0,a1,a2].length < 17 by simp) (by decide)))
theorem x_mkL4 {a0 a1 a2 a3:D}:mkLst [a0,a1,a2,a3]=.ok (.ow (.lst [a0,a1,a2,a3])):=mkLst_ok (Nat.le_of_lt (Nat.lt_of_lt_of_le (show [a0,a1,a2,a3].length < 17 by simp) (by decide)))
theorem x_mkT4 {a0 a1 a2 a3:D}:mkTup [a0,a1,a2,a3]=.ok (.fz (.tup [a0,a1,a2,a3])):=mkTup_ok (Nat.le_of_lt (Nat.lt_of_lt_of_le (show [a0,a1,a2,a3].length < 17 by simp) (by decide)))
theorem x_mkL5 {a0 a1 a2 a3 a4:D}:mkLst [a0,a1,a2,a3,a4]=.ok (.ow (.lst [a0,a1,a2,a3,a4])):=mkLst_ok (Nat.le_of_lt (Nat.lt_of_lt_of_le (show [a0,a1,a2,a3,a4].length < 17 by simp) (by decide)))
theorem x_mkT5 {a0 a1 a2 a3 a4:D}:mkTup [a0,a1,a2,a3,a4]=.ok (.fz (.tup [a0,a1,a2,a3,a4])):=mkTup_ok (Nat.le_of_lt (Nat.lt_of_lt_of_le (show [a0,a1,a2,a3,a4].length < 17 by simp) (by decide)))
theorem x_mkL6 {a0 a1 a2 a3 a4 a5:D}:mkLst [a0,a1,a2,a3,a4,a5]=.ok (.ow (.lst [a0,a1,a2,a3,a4,a5])):=mkLst_ok (Nat.le_of_lt (Nat.lt_of_lt_of_le (show [a0,a1,a2,a3,a4,a5].length < 17 by simp) (by decide)))
theorem x_mkL7 {a0 a1 a2 a3 a4 a5 a6:D}:mkLst [a0,a1,a2,a3,a4,a5,a6]=.ok (.ow (.lst [a0,a1,a2,a3,a4,a5,a6])):=mkLst_ok (Nat.le_of_lt (Nat.lt_of_lt_of_le (show [a0,a1,a2,a3,a4,a5,a6].length < 17 by simp) (by decide)))
theorem x_mkL8 {a0 a1 a2 a3 a4 a5 a6 a7:D}:mkLst [a0,a1,a2,a3,a4,a5,a6,a7]=.ok (.ow (.lst [a0,a1,a2,a3,a4,a5,a6,a7])):=mkLst_ok (Nat.le_of_lt (Nat.lt_of_lt_of_le (show [a0,a1,a2,a3,a4,a5,a6,a7].length < 17 by simp) (by decide)))
theorem x_mkL9 {a0 a1 a2 a3 a4 a5 a6 a7 a8:D}:mkLst [a0,a1,a2,a3,a4,a5,a6,a7,a8]=.ok (.ow (.lst [a0,a1,a2,a3,a4,a5,a6,a7,a8])):=mkLst_ok (Nat.le_of_lt (Nat.lt_of_lt_of_le (show [a0,a1,a2,a3,a4,a5,a6,a7,a8].length < 17 by simp) (by decide)))
theorem x_mkL10 {a0 a1 a2 a3 a4 a5 a6 a7 a8 a9:D}:mkLst [a0,a1,a2,a3,a4,a5,a6,a7,a8,a9]=.ok (.ow (.lst [a0,a1,a2,a3,a4,a5,a6,a7,a8,a9])):=mkLst_ok (Nat.le_of_lt (Nat.lt_of_lt_of_le (show [a0,a1,a2,a3,a4,a5,a6,a7,a8,a9].length < 17 by simp) (by decide)))
theorem x_mkL11 {a0 a1 a2 a3 a4 a5 a6 a7 a8 a9 a10:D}:mkLst [a0,a1,a2,a3,a4,a5,a6,a7,a8,a9,a10]=.ok (.ow (.lst [a0,a1,a2,a3,a4,a5,a6,a7,a8,a9,a10])):=mkLst_ok (Nat.le_of_lt (Nat.lt_of_lt_of_le (show [a0,a1,a2,a3,a4,a5,a6,a7,a8,a9,a10].length < 17 by simp) (by decide)))
theorem x_mkL12 {a0 a1 a2 a3 a4 a5 a6 a7 a8 a9 a10 a11:D}:mkLst [a0,a1,a2,a3,a4,a5,a6,a7,a8,a9,a10,a11]=.ok (.ow (.lst [a0,a1,a2,a3,a4,a5,a6,a7,a8,a9,a10,a11])):=mkLst_ok (Nat.le_of_lt (Nat.lt_of_lt_of_le (show [a0,a1,a2,a3,a4,a5,a6,a7,a8,a9,a10,a11].length < 17 by simp) (by decide)))
theorem x_mkL13 {a0 a1 a2 a3 a4 a5 a6 a7 a8 a9 a10 a11 a12:D}:mkLst [a0,a1,a2,a3,a4,a5,a6,a7,a8,a9,a10,a11,a12]=.ok (.ow (.lst [a0,a1,a2,a3,a4,a5,a6,a7,a8,a9,a10,a11,a12])):=mkLst_ok (Nat.le_of_lt (Nat.lt_of_lt_of_le (show [a0,a1,a2,a3,a4,a5,a6,a7,a8,a9,a10,a11,a12].length < 17 by simp) (by decide)))
theorem x_mkL14 {a0 a1 a2 a3 a4 a5 a6 a7 a8 a9 a10 a11 a12 a13:D}:mkLst [a0,a1,a2,a3,a4,a5,a6,a7,a8,a9,a10,a11,a12,a13]=.ok (.ow (.lst [a0,a1,a2,a3,a4,a5,a6,a7,a8,a9,a10,a11,a12,a13])):=mkLst_ok (Nat.le_of_lt (Nat.lt_of_lt_of_le (show [a0,a1,a2,a3,a4,a5,a6,a7,a8,a9,a10,a11,a12,a13].length < 17 by simp) (by decide)))
theorem x_mkL15 {a0 a1 a2 a3 a4 a5 a6 a7 a8 a9 a10 a11 a12 a13 a14:D}:mkLst [a0,a1,a2,a3,a4,a5,a6,a7,a8,a9,a10,a11,a12,a13,a14]=.ok (.ow (.lst [a0,a1,a2,a3,a4,a5,a6,a7,a8,a9,a10,a11,a12,a13,a14])):=mkLst_ok (Nat.le_of_lt (Nat.lt_of_lt_of_le (show [a0,a1,a2,a3,a4,a5,a6,a7,a8,a9,a10,a11,a12,a13,a14].length < 17 by simp) (by decide)))
theorem x_mkL16 {a0 a1 a2 a3 a4 a5 a6 a7 a8 a9 a10 a11 a12 a13 a14 a15:D}:mkLst [a0,a1,a2,a3,a4,a5,a6,a7,a8,a9,a10,a11,a12,a13,a14,a15]=.ok (.ow (.lst [a0,a1,a2,a3,a4,a5,a6,a7,a8,a9,a10,a11,a12,a13,a14,a15])):=mkLst_ok (Nat.le_of_lt (Nat.lt_of_lt_of_le (show [a0,a1,a2,a3,a4,a5,a6,a7,a8,a9,a10,a11,a12,a13,a14,a15].length < 17 by simp) (by decide)))
theorem x_call {dn:Den}:eCall dn l ρ=(evs l ρ).b fun xs=>(argAll xs).b fun ys=>dn ys:=rfl
theorem x_B {g:List D→R En}:eB g l ρ=(evs l ρ).b fun xs=>g (xs.map En.dd):=rfl
theorem x_tE:tE e ρ=(e ρ).b fun x=>truth x.dd:=rfl
theorem x_tNot:tNot t ρ=(t ρ).b fun b=>.ok (!b):=rfl
theorem x_tAnd:tAnd t u ρ=(t ρ).b (pickT u kfB ρ):=rfl
theorem x_tOr:tOr t u ρ=(t ρ).b (pickT ktB u ρ):=rfl
theorem x_eNot:eNot e ρ=(e ρ).b fun x=>(isB x.dd).b fun b=>.ok (.fz (.bl (!b))):=rfl
theorem x_eAnd:eAnd e f ρ=(e ρ).b fun x=>(isB x.dd).b (pickE f kF ρ):=rfl
theorem x_eOr:eOr e f ρ=(e ρ).b fun x=>(isB x.dd).b (pickE kT f ρ):=rfl
theorem x_eIf:eIf t e f ρ=(t ρ).b (pickE e f ρ):=rfl
theorem x_isB {c:Bool}:isB (.bl c)=.ok c:=rfl
theorem x_truth_bl {c:Bool}:truth (.bl c)=.ok c:=rfl
theorem x_truth_int {c:Int}:truth (.int c)=.ok (c != 0):=rfl
theorem x_truth_lst {c:List D}:truth (.lst c)=.ok (!c.isEmpty):=rfl
theorem x_truth_tup {c:List D}:truth (.tup c)=.ok (!c.isEmpty):=rfl
theorem x_truth_non:truth .non=.ok false:=rfl
theorem x_for {it:IF} {g:GF}:sFor it g a ρ=sOf (it ρ) fun xs=>forD g a xs ρ:=rfl
theorem x_add {i j:Int}:dAddI (.int i) (.int j)=.ok (.fz (.int (i+j))):=rfl
theorem x_sub {i j:Int}:dSub (.int i) (.int j)=.ok (.fz (.int (i - j))):=rfl
theorem x_lt {i j:Int}:dLt (.int i) (.int j)=.ok (.fz (.bl (decide (i < j)))):=rfl
theorem x_le {i j:Int}:dLe (.int i) (.int j)=.ok (.fz (.bl (decide (i ≤ j)))):=rfl
theorem x_gt {i j:Int}:dGt (.int i) (.int j)=.ok (.fz (.bl (decide (j < i)))):=rfl
theorem x_ge {i j:Int}:dGe (.int i) (.int j)=.ok (.fz (.bl (decide (j ≤ i)))):=rfl
theorem x_eq {i j:Int}:dEq (.int i) (.int j)=.ok (.fz (.bl (i == j))):=rfl
theorem x_ne {i j:Int}:dNe (.int i) (.int j)=.ok (.fz (.bl (!(i == j)))):=rfl
theorem x_neg {i:Int}:dNeg (.int i)=.ok (.fz (.int (-i))):=rfl
theorem x_mod {i j:Int} (h:0 < j):dMod (.int i) (.int j)=.ok (.fz (.int (i % j))):=by unfold dMod; dsimp only; rw [if_pos h]
theorem x_div {i j:Int} (h:0 < j) (h2:j < 1073741824):dDiv (.int i) (.int j)=.ok (.fz (.int (i / j))):=by unfold dDiv; dsimp only; rw [if_pos ⟨h,h2⟩]
theorem x_mulr {i j:Int} (h1:-1000000000000 < j) (h2:j < 1000000000000):dMul (.int i) (.int j)=.ok (.fz (.int (i * j))):=by
 unfold dMul; dsimp only; rw [if_pos]; rw [Bool.or_eq_true]; exact .inr (fits_iff.mpr (by rw [b64e]; (first|lia|omega)))
theorem x_mull {i j:Int} (h1:-1000000000000 < i) (h2:i < 1000000000000):dMul (.int i) (.int j)=.ok (.fz (.int (i * j))):=by
 unfold dMul; dsimp only; rw [if_pos]; rw [Bool.or_eq_true]; exact .inl (fits_iff.mpr (by rw [b64e]; (first|lia|omega)))
theorem x_len_l {xs:List D}:dLenS [.lst xs]=.ok (.fz (.int xs.length)):=rfl
theorem x_len_t {xs:List D}:dLenS [.tup xs]=.ok (.fz (.int xs.length)):=rfl
theorem x_list_l {xs:List D}:dList [.lst xs]=.ok (.ow (.lst xs)):=rfl
theorem x_list_t {xs:List D}:dList [.tup xs]=.ok (.ow (.lst xs)):=rfl
theorem x_tuple_l {xs:List D}:dTuple [.lst xs]=.ok (.fz (.tup xs)):=rfl
theorem x_tuple_t {xs:List D}:dTuple [.tup xs]=.ok (.fz (.tup xs)):=rfl
theorem x_min {i j:Int}:dMin2 [.int i,.int j]=.ok (.fz (.int (if j < i then j else i))):=rfl
theorem x_max {i j:Int}:dMax2 [.int i,.int j]=.ok (.fz (.int (if j > i then j else i))):=rfl
theorem x_ix_l {xs:List D} {i:Int}:dIxS (.lst xs) (.int i)=okD (ati xs i):=rfl
theorem x_ix_t {xs:List D} {i:Int}:dIxS (.tup xs) (.int i)=okD (ati xs i):=rfl
theorem x_ati0 {d:D} {r:List D}:okD (ati (d::r) 0)=.ok (.fz d):=by
 rw [show (0:Int)=((0:Nat):Int) from rfl,ati_nat]; rfl
theorem x_ati1 {c d:D} {r:List D}:okD (ati (c::d::r) 1)=.ok (.fz d):=by
 rw [show (1:Int)=((1:Nat):Int) from rfl,ati_nat]; rfl
theorem x_ati2 {b c d:D} {r:List D}:okD (ati (b::c::d::r) 2)=.ok (.fz d):=by
 rw [show (2:Int)=((2:Nat):Int) from rfl,ati_nat]; rfl
theorem x_ati3 {a b c d:D} {r:List D}:okD (ati (a::b::c::d::r) 3)=.ok (.fz d):=by
 rw [show (3:Int)=((3:Nat):Int) from rfl,ati_nat]; rfl
theorem x_okD {d:D}:okD (some d)=.ok (.fz d):=rfl
theorem x_is_int {n:Int}:dIs .int (.int n)=.ok (.fz (.bl true)):=rfl
theorem x_is_bool {n:Int}:dIs .bool (.int n)=.ok (.fz (.bl false)):=rfl
theorem x_is_list {n:List D}:dIs .list (.lst n)=.ok (.fz (.bl true)):=rfl
theorem x_is_tuple {n:List D}:dIs .tuple (.tup n)=.ok (.fz (.bl true)):=rfl
theorem x_stuck:sStuck ρ=.stuck:=rfl
theorem x_gV:gV i d ρ=.ok (ρ.set i (some (.fz d))):=rfl
theorem x_dK:eDK ρ=.ok (.ow (.dK [])):=rfl
theorem x_dT:eDT ρ=.ok (.ow (.dT [])):=rfl
theorem x_den {n:Nat} {ws:List En}:den n a ws=fin (a (ws.map some++List.replicate (n - ws.length) none)):=rfl
theorem x_fin_rt:fin (.rt w)=.ok w:=rfl
theorem x_fin_nx:fin (.nx ρ)=.ok (.fz .non):=rfl
theorem x_iV_fz {ds:List D} (h:ρ[i]?=some (some (.fz (.lst ds)))):iV i ρ=.ok ds:=by unfold iV; rw [h]; rfl
theorem x_iV_br {ds:List D} (h:ρ[i]?=some (some (.br (.lst ds)))):iV i ρ=.ok ds:=by unfold iV; rw [h]; rfl
theorem x_iVc {ds:List D} {w:En} (h:ρ[i]?=some (some w)) (h2:w.d=.lst ds) (h3:(match w with|.od _=>true|.lk _=>true|_=>false)=false:=by rfl):iVc i ρ=.ok ds:=by
 unfold iVc; rw [h]; cases w <;> first|(cases h3; done)|(cases h2; rfl)
theorem x_iR {e:EF} {ρ:Rho} {j:Int} (h:e ρ=.ok (.fz (.int j))) (c:fits b62 j=true):iR1 e ρ=.ok (rngD 0 j.toNat):=by
 unfold iR1
 rw [h,R.bind_ok]
 dsimp only [En.d]
 rw [if_pos c]
theorem x_iR1 {e:EF} {ρ:Rho} {n:Nat} (h:e ρ=.ok (.fz (.int n))) (hn:n < 1000000):iR1 e ρ=.ok (rngD 0 n):=by
 rw [x_iR h (fits_iff.mpr (by rw [b62e]; (first|lia|omega))),Int.toNat_natCast]
theorem x_app {xs:List D} {i:Nat} (h:ρ[i]?=some (some (.ow (.lst xs)))) (hl:xs.length < sz) (h2:(e ρ).b En.sto=.ok d):sApp i e ρ=.nx (ρ.set i (some (.ow (.lst (xs++[d]))))):=by
 unfold sApp; have h2:(e ρ).bind En.st=.ok d:=h2
 rw [h]; dsimp only; rw [h2]; unfold sOf; dsimp only; rw [if_pos hl]
theorem deq_self:∀ (n:Nat) (d:D),eqokN n d=true→deq d d=true
 | _,.non,_=>rfl
 | _,.bl _,_=>by simp [deq]
 | _,.int _,_=>by simp [deq]
 | _,.str _,_=>by simp [deq]
 | 0,.tup _,h=>by simp [eqokN] at h
 | 0,.lst _,h=>by simp [eqokN] at h
 | n+1,.tup xs,h=>by
  have k:∀ ys:List D,ys.all (eqokN n)=true→deqs ys ys=true:=by
   intro ys
   induction ys with
   | nil=>intro _; rfl
   | cons y ys ih =>
    intro hy
    rw [List.all_cons,Bool.and_eq_true] at hy
    show (deq y y && deqs ys ys)=true
    rw [deq_self n y hy.1,ih hy.2]; rfl
  exact k xs h
 | n+1,.lst xs,h=>by
  have k:∀ ys:List D,ys.all (eqokN n)=true→deqs ys ys=true:=by
   intro ys
   induction ys with
   | nil=>intro _; rfl
   | cons y ys ih =>
    intro hy
    rw [List.all_cons,Bool.and_eq_true] at hy
    show (deq y y && deqs ys ys)=true
    rw [deq_self n y hy.1,ih hy.2]; rfl
  exact k xs h
 | n,.dK _,h=>by cases n <;> simp [eqokN] at h
 | n,.dT _,h=>by cases n <;> simp [eqokN] at h
 | n,.xc _ _,h=>by cases n <;> simp [eqokN] at h
theorem x_ne_self (h:eqok d=true):dNe d d=.ok (.fz (.bl false)):=by
 unfold dNe; rw [h,deq_self 8 d h]; rfl
theorem x_eq_self (h:eqok d=true):dEq d d=.ok (.fz (.bl true)):=by
 unfold dEq; rw [h,deq_self 8 d h]; rfl
theorem eqok_lst {xs:List D} (h:∀ x∈xs,eqokN 7 x=true):eqok (.lst xs)=true:=by
 show xs.all (eqokN 7)=true
 exact List.all_eq_true.mpr h
theorem x_asg {gf:GF}:sAsg gf e ρ=sOf ((e ρ).b fun w=>w.sto.b fun d=>gf d ρ) .nx:=rfl
theorem x_gT {is:List Nat} {ds:List D}:gT is (.tup ds) ρ=gVs is ds ρ:=rfl
theorem x_gVs0:gVs [] [] ρ=.ok ρ:=rfl
theorem x_gVs {is:List Nat} {ds:List D}:gVs (i::is) (d::ds) ρ=gVs is ds (ρ.set i (some (.fz d))):=rfl
end
end L3
namespace L3
open PySem PySem.Spec PyProof.Rows L2
section
variable {prog:Program} {w:World} {A:Around} {E:Value→Shared→Prop} {s:Shared} {kd:SortKind} {rk:Value→Int} {ini:Array Keyed}
noncomputable def av (rk:Value→Int) (xs:Array Keyed) (i:Nat):Int:=match xs[i]? with
 | some p=>rk p.1
 | none=>0
theorem av_bub {xs:Array Keyed} {a d:Nat} (h1:a < xs.size) (h2:d ≤ a) (k:Nat) :
  av rk (bubble xs a d) k=if k=a - d then av rk xs a else if a - d < k∧k ≤ a then av rk xs (k - 1) else av rk xs k:=by
 have e:=getElem?_bubble h1 d h2 k
 by_cases c1:k=a - d
 ·rw [if_pos c1] at e ⊢
  unfold av; rw [e]
 ·rw [if_neg c1] at e ⊢
  by_cases c2:a - d < k∧k ≤ a
  ·rw [if_pos c2] at e ⊢
   unfold av; rw [e]
  ·rw [if_neg c2] at e ⊢
   unfold av; rw [e]
theorem av_mir {xs:Array Keyed} {i j:Nat} (h:j ≤ xs.size) (k:Nat):av rk (mirror xs i j ((j - i) / 2)) k=if i ≤ k∧k < j then av rk xs (i+j - 1 - k) else av rk xs k:=by
 have e:=getElem?_mirror_all (i:=i) h k
 by_cases c:i ≤ k∧k < j
 ·rw [if_pos c] at e ⊢
  unfold av; rw [e]
 ·rw [if_neg c] at e ⊢
  unfold av; rw [e]
structure Mid (kd:SortKind) (ini:Array Keyed) (st:SortSt):Prop where
 pm:(arrOf st).Perm ini
 kd:kindOf st=kd
 fl:failedOf st=none
 pd:pendingOf st=#[]
theorem Mid.sz {st:SortSt} (m:Mid kd ini st):(arrOf st).size=ini.size:=m.pm.size_eq
theorem Mid.put {st:SortSt} (m:Mid kd ini st) {xs:Array Keyed} (p:xs.Perm (arrOf st)):Mid kd ini (setArr st xs):=⟨p.trans m.pm,m.kd,m.fl,m.pd⟩
structure Tells (prog:Program) (w:World) (A:Around) (s:Shared) (kd:SortKind) (rk:Value→Int) (ini:Array Keyed):Prop where
 lt:∀ p∈ini.toList,∀ q∈ini.toList,∀ (E:Value→Shared→Prop) (Q:Bool→Shared→Prop),Q (decide (rk p.1 < rk q.1)) s→wpAny (model prog w) A (keyLt' kd p.1 q.1) Q E s
 nd:(ini.toList.map fun p=>rk p.1).Nodup
theorem Mid.get {st:SortSt} (m:Mid kd ini st) {i:Nat} (hi:i < ini.size):∃ p,(arrOf st)[i]?=some p∧p∈ini.toList∧av rk (arrOf st) i=rk p.1:=by
 have h:i < (arrOf st).size:=by rw [m.sz]; exact hi
 have e:(arrOf st)[i]?=some (arrOf st)[i]:=getElem?_pos _ i h
 refine ⟨(arrOf st)[i],e,?_,?_⟩
 ·exact (Array.perm_iff_toList_perm.mp m.pm).mem_iff.mp (by simp)
 ·unfold av; rw [e]
theorem Mid.ne {st:SortSt} (T:Tells prog w A s kd rk ini) (m:Mid kd ini st) {i j:Nat} (hi:i < ini.size) (hj:j < ini.size) (h:i≠j):av rk (arrOf st) i≠av rk (arrOf st) j:=by
 have hp:=(Array.perm_iff_toList_perm.mp m.pm).map fun p=>rk p.1
 have nd:=hp.nodup_iff.mpr T.nd
 have li:i < ((arrOf st).toList.map fun p=>rk p.1).length:=by simp; rw [m.sz]; exact hi
 have lj:j < ((arrOf st).toList.map fun p=>rk p.1).length:=by simp; rw [m.sz]; exact hj
 have key:∀ k,(hk:k < ((arrOf st).toList.map fun p=>rk p.1).length)→av rk (arrOf st) k=((arrOf st).toList.map fun p=>rk p.1)[k]:=fun k hk=>by
  have hk':k < (arrOf st).size:=by simpa using hk
  unfold av
  rw [getElem?_pos _ k hk']
  simp
 rw [key i li,key j lj]
 intro z
 exact h ((List.getElem_inj nd).mp z)
theorem ask {st:SortSt} {i j:Nat} {Q:Option Bool→SortSt→Prop} (T:Tells prog w A s kd rk ini) (m:Mid kd ini st) (hi:i < ini.size) (hj:j < ini.size) (h:Q (some (decide (av rk (arrOf st) i < av rk (arrOf st) j))) st) :
  wpS (model prog w) A E s (ltAt' i j) Q st:=by
 obtain ⟨p,e1,m1,a1⟩:=m.get (rk:=rk) hi
 obtain ⟨q,e2,m2,a2⟩:=m.get (rk:=rk) hj
 rw [a1,a2] at h
 rw [ltAt'_eq]
 refine wpS_bind (wpS_get ?_)
 dsimp only
 rw [elem'_eq,elem'_eq,e1,e2]
 refine wpS_bind (wpS_pure (wpS_bind (wpS_pure ?_)))
 rw [lt'_eq]
 refine wpS_bind (wpS_get ?_)
 rw [m.kd]
 exact wpS_bind (wpS_lift (wpAny_attempt (T.lt p m1 q m2 _ _ ⟨rfl,wpS_pure h⟩)))
noncomputable abbrev Up (rk:Value→Int) (st:SortSt) (k:Nat):Prop:=∀ i j,i ≤ j→j < k→av rk (arrOf st) i ≤ av rk (arrOf st) j
noncomputable abbrev Dn (rk:Value→Int) (st:SortSt) (k:Nat):Prop:=∀ i j,i ≤ j→j < k→av rk (arrOf st) j ≤ av rk (arrOf st) i
theorem Up.one (st:SortSt):Up rk st 1:=fun i j h1 h2=>by
 have:i=j:=by (first|lia|omega)
 subst this
 exact Int.le_refl _
theorem Up.more {st:SortSt} {x:Nat} (u:Up rk st x) (h:av rk (arrOf st) (x - 1) ≤ av rk (arrOf st) x):Up rk st (x+1):=fun i j h1 h2=>by
 by_cases c:j < x
 ·exact u i j h1 c
 ·have ej:j=x:=by (first|lia|omega)
  subst ej
  by_cases ci:i=j
  ·subst ci; exact Int.le_refl _
  ·exact Int.le_trans (u i (j - 1) (by (first|lia|omega)) (by (first|lia|omega))) h
theorem Dn.more {st:SortSt} {x:Nat} (u:Dn rk st x) (h:av rk (arrOf st) x ≤ av rk (arrOf st) (x - 1)):Dn rk st (x+1):=fun i j h1 h2=>by
 by_cases c:j < x
 ·exact u i j h1 c
 ·have ej:j=x:=by (first|lia|omega)
  subst ej
  by_cases ci:i=j
  ·subst ci; exact Int.le_refl _
  ·exact Int.le_trans h (u i (j - 1) (by (first|lia|omega)) (by (first|lia|omega)))
theorem asc_run {st:SortSt} {a n:Nat} {Q:AscSt→SortSt→Prop} (T:Tells prog w A s kd rk ini) (m:Mid kd ini st) (hn:n ≤ ini.size) (h1:1 ≤ a) (h2:a ≤ n) (u:Up rk st a)
  (h:∀ k,a ≤ k→k ≤ n→Up rk st k→(k=n∨av rk (arrOf st) k < av rk (arrOf st) (k - 1))→Q (none,k) st):wpS (model prog w) A E s (ascLoop a n) Q st:=by
 unfold ascLoop
 refine wpS_forRange (fun x c z=>z=st∧c=(none,x)∧Up rk st x) (fun x c z l1 l2 hI=>?_) (fun c z hI=>?_) ⟨rfl,rfl,u⟩
 ·obtain ⟨rfl,rfl,u'⟩:=hI
  dsimp only
  refine wpS_bind (ask T m (by (first|lia|omega)) (by (first|lia|omega)) ?_)
  by_cases c:av rk (arrOf z) x < av rk (arrOf z) (x - 1)
  ·rw [decide_eq_true c]
   exact wpS_pure (h x l1 (by (first|lia|omega)) u' (.inr c))
  ·rw [decide_eq_false c]
   exact wpS_pure ⟨rfl,rfl,u'.more (by (first|lia|omega))⟩
 ·obtain ⟨rfl,rfl,u'⟩:=hI
  have e:max a n=n:=by (first|lia|omega)
  rw [e] at u' ⊢
  exact h n h2 (Nat.le_refl _) u' (.inl rfl)
theorem tail_run {st:SortSt} {k n:Nat} {Q:Option Nat→SortSt→Prop} (T:Tells prog w A s kd rk ini) (m:Mid kd ini st) (hn:n ≤ ini.size) (h1:1 ≤ k) (h2:k ≤ n) (u:Dn rk st k)
  (h:∀ r z,Mid kd ini z→1 ≤ r→r ≤ n→Up rk z r→Q (some r) z):wpS (model prog w) A E s (tail3 k n) Q st:=by
 unfold tail3
 have hz:k ≤ (arrOf st).size:=by rw [m.sz]; (first|lia|omega)
 have m2:Mid kd ini (setArr st (mirror (arrOf st) 0 k ((k - 0) / 2))):=m.put (mirror_perm _ _ _ _)
 refine wpS_bind (wpS_reverse (wpS_bind (asc_run T m2 hn h1 h2 (fun i j l1 l2=>?_) fun r r1 r2 u2 _=>wpS_pure (h r _ m2 (by (first|lia|omega)) r2 u2))))
 show av rk (mirror (arrOf st) 0 k ((k - 0) / 2)) i ≤ av rk (mirror (arrOf st) 0 k ((k - 0) / 2)) j
 rw [av_mir hz,av_mir hz,if_pos (by (first|lia|omega)),if_pos (by (first|lia|omega))]
 exact u _ _ (by (first|lia|omega)) (by (first|lia|omega))
theorem desc_run {st:SortSt} {k n:Nat} {Q:DescSt→SortSt→Prop} (T:Tells prog w A s kd rk ini) (m:Mid kd ini st) (hn:n ≤ ini.size) (h1:1 ≤ k) (h2:k ≤ n) (u:Dn rk st k)
  (h:∀ r,k ≤ r→r ≤ n→Dn rk st r→Q (none,r,0) st):wpS (model prog w) A E s (descLoop k n) Q st:=by
 unfold descLoop
 refine wpS_forRange (fun x c z=>z=st∧c=(none,x,0)∧Dn rk st x) (fun x c z l1 l2 hI=>?_) (fun c z hI=>?_) ⟨rfl,rfl,u⟩
 ·obtain ⟨rfl,rfl,u'⟩:=hI
  dsimp only
  refine wpS_bind (ask T m (by (first|lia|omega)) (by (first|lia|omega)) ?_)
  by_cases c:av rk (arrOf z) x < av rk (arrOf z) (x - 1)
  ·rw [decide_eq_true c]
   exact wpS_pure ⟨rfl,rfl,u'.more (by (first|lia|omega))⟩
  ·rw [decide_eq_false c]
   refine wpS_bind (ask T m (by (first|lia|omega)) (by (first|lia|omega)) ?_)
   have ne:=m.ne T (i:=x) (j:=x - 1) (by (first|lia|omega)) (by (first|lia|omega)) (by (first|lia|omega))
   have c2:av rk (arrOf z) (x - 1) < av rk (arrOf z) x:=by (first|lia|omega)
   rw [decide_eq_true c2]
   exact wpS_pure (h x l1 (by (first|lia|omega)) u')
 ·obtain ⟨rfl,rfl,u'⟩:=hI
  have e:max k n=n:=by (first|lia|omega)
  rw [e] at u' ⊢
  exact h n h2 (Nat.le_refl _) u'
theorem part_run {st:SortSt} {k n:Nat} {Q:Option Nat→SortSt→Prop} (T:Tells prog w A s kd rk ini) (m:Mid kd ini st) (hn:n ≤ ini.size) (h2:k+1 ≤ n) (u:Dn rk st (k+1))
  (h:∀ r z,Mid kd ini z→1 ≤ r→r ≤ n→Up rk z r→Q (some r) z):wpS (model prog w) A E s (descPart k n) Q st:=by
 unfold descPart
 refine wpS_bind (wpS_lift (wpAny_rule ⟨rfl,?_⟩))
 refine wpS_bind (desc_run T m hn (by (first|lia|omega)) h2 u fun r r1 r2 u2=>?_)
 dsimp only
 rw [if_neg (Nat.lt_irrefl 0)]
 exact tail_run T m hn (by (first|lia|omega)) r2 u2 h
theorem count_run {st:SortSt} {n:Nat} {Q:Option Nat→SortSt→Prop} (T:Tells prog w A s kd rk ini) (m:Mid kd ini st) (hn:n ≤ ini.size) (h1:1 ≤ n)
  (h:∀ r z,Mid kd ini z→1 ≤ r→r ≤ n→Up rk z r→Q (some r) z):wpS (model prog w) A E s (countRun' 0 n) Q st:=by
 rw [countRun0_eq]
 refine wpS_bind (asc_run T m hn (Nat.le_refl 1) h1 (Up.one st) fun k k1 k2 u o=>?_)
 dsimp only
 by_cases c:k=n
 ·rw [if_pos (by simpa using c)]
  exact wpS_pure (h k st m k1 k2 u)
 ·rw [if_neg (by simpa using c)]
  have lt:=o.resolve_left c
  by_cases c1:k > 1
  ·rw [if_pos c1]
   refine wpS_bind (ask T m (by (first|lia|omega)) (by (first|lia|omega)) ?_)
   have ne:=m.ne T (i:=0) (j:=k - 1) (by (first|lia|omega)) (by (first|lia|omega)) (by (first|lia|omega))
   have le:=u 0 (k - 1) (by (first|lia|omega)) (by (first|lia|omega))
   rw [decide_eq_true (show av rk (arrOf st) 0 < av rk (arrOf st) (k - 1) by (first|lia|omega))]
   exact wpS_pure (h k st m k1 k2 u)
  ·rw [if_neg c1]
   have e:k=1:=by (first|lia|omega)
   subst e
   refine part_run T m hn (by (first|lia|omega)) (fun i j l1 l2=>?_) h
   by_cases ci:i=j
   ·subst ci; exact Int.le_refl _
   ·have e1:i=0:=by (first|lia|omega)
    have e2:j=1:=by (first|lia|omega)
    subst e1 e2
    exact Int.le_of_lt lt
theorem ins_run {st:SortSt} {n ok:Nat} {Q:Bool→SortSt→Prop} (T:Tells prog w A s kd rk ini) (m:Mid kd ini st) (hn:n ≤ ini.size) (h2:ok ≤ n) (u:Up rk st ok)
  (h:∀ z,Mid kd ini z→Up rk z n→Q true z):wpS (model prog w) A E s (binarySort' 0 n ok) Q st:=by
 rw [binarySort'_eq]
 simp only [Nat.zero_add]
 refine wpS_bind (wpS_mono (wpS_forRange (fun k c z=>c=(none,())∧Mid kd ini z∧Up rk z (min k n)) (Q:=fun c z=>c=(none,())∧Mid kd ini z∧Up rk z n) (fun k c z l1 l2 hI=>?_) (fun c z hI=>?_) ⟨rfl,m,?_⟩) fun c z hc=>?_)
 ·obtain ⟨rfl,m',u'⟩:=hI
  have ek:min k n=k:=by (first|lia|omega)
  rw [ek] at u'
  refine wpS_bind (wpS_mono (wpS_forRange (fun x c y=>y=z∧∃ l r,c=(none,l,r)∧l ≤ r∧r ≤ k∧r - l ≤ k - x∧(∀ i,i < l→av rk (arrOf z) i < av rk (arrOf z) k)∧∀ i,r ≤ i→i < k→av rk (arrOf z) k < av rk (arrOf z) i)
   (Q:=fun c y=>y=z∧∃ l r,c=(none,l,r)∧l ≤ k∧(∀ i,i < l→av rk (arrOf z) i < av rk (arrOf z) k)∧∀ i,l ≤ i→i < k→av rk (arrOf z) k < av rk (arrOf z) i)
   (fun x c y _ lx hJ=>?_) (fun c y hJ=>?_) ⟨rfl,0,k,rfl,by (first|lia|omega),by (first|lia|omega),by (first|lia|omega),fun i hi=>by (first|lia|omega),fun i a b=>by (first|lia|omega)⟩) fun c y hJ=>?_)
  ·obtain ⟨rfl,l,r,rfl,lr,rk',sz',lo,hi⟩:=hJ
   dsimp only
   by_cases ge:l ≥ r
   ·rw [if_pos ge]
    have:l=r:=by (first|lia|omega)
    subst this
    exact wpS_pure ⟨rfl,l,l,rfl,rk',lo,hi⟩
   ·rw [if_neg ge]
    refine wpS_bind (ask T m' (by (first|lia|omega)) (by (first|lia|omega)) ?_)
    have ne:=m'.ne T (i:=k) (j:=(l+r) / 2) (by (first|lia|omega)) (by (first|lia|omega)) (by (first|lia|omega))
    by_cases c:av rk (arrOf y) k < av rk (arrOf y) ((l+r) / 2)
    ·rw [decide_eq_true c]
     refine wpS_pure ⟨rfl,l,(l+r) / 2,rfl,by (first|lia|omega),by (first|lia|omega),by (first|lia|omega),lo,fun i a b=>?_⟩
     have:=u' ((l+r) / 2) i a b
     (first|lia|omega)
    ·rw [decide_eq_false c]
     refine wpS_pure ⟨rfl,(l+r) / 2+1,r,rfl,by (first|lia|omega),by (first|lia|omega),by (first|lia|omega),fun i a=>?_,hi⟩
     have:=u' i ((l+r) / 2) (by (first|lia|omega)) (by (first|lia|omega))
     (first|lia|omega)
  ·obtain ⟨rfl,l,r,rfl,lr,rk',sz',lo,hi⟩:=hJ
   have:l=r:=by (first|lia|omega)
   subst this
   exact ⟨rfl,l,l,rfl,rk',lo,hi⟩
  ·obtain ⟨rfl,l,r,rfl,lk,lo,hi⟩:=hJ
   dsimp only
   rw [moveDown'_eq]
   refine wpS_bind (wpS_modify (wpS_pure ⟨rfl,m'.put (bubble_perm _ _ _),?_⟩))
   have e1:min (k+1) n=k+1:=by (first|lia|omega)
   have hz:k < (arrOf y).size:=by rw [m'.sz]; (first|lia|omega)
   have e2:k - (k - l)=l:=by (first|lia|omega)
   rw [e1]
   intro i j a b
   show av rk (bubble (arrOf y) k (k - l)) i ≤ av rk (bubble (arrOf y) k (k - l)) j
   rw [av_bub hz (by (first|lia|omega)),av_bub hz (by (first|lia|omega)),e2]
   have lo':=fun t (ht:t < l)=>Int.le_of_lt (lo t ht)
   have hi':=fun t (h1:l ≤ t) (h2:t < k)=>Int.le_of_lt (hi t h1 h2)
   by_cases i1:i=l
   ·rw [if_pos i1]
    by_cases j1:j=l
    ·rw [if_pos j1]; exact Int.le_refl _
    ·rw [if_neg j1,if_pos (by (first|lia|omega))]; exact hi' _ (by (first|lia|omega)) (by (first|lia|omega))
   ·rw [if_neg i1]
    by_cases i2:l < i∧i ≤ k
    ·rw [if_pos i2,if_neg (by (first|lia|omega)),if_pos (by (first|lia|omega))]
     exact u' _ _ (by (first|lia|omega)) (by (first|lia|omega))
    ·rw [if_neg i2]
     by_cases j1:j=l
     ·rw [if_pos j1]; exact lo' _ (by (first|lia|omega))
     ·rw [if_neg j1]
      by_cases j2:l < j∧j ≤ k
      ·rw [if_pos j2]; exact u' _ _ (by (first|lia|omega)) (by (first|lia|omega))
      ·rw [if_neg j2]; exact u' _ _ (by (first|lia|omega)) (by (first|lia|omega))
 ·obtain ⟨hc,m',u'⟩:=hI
  have e:min (max (max ok 1) n) n=n:=by (first|lia|omega)
  rw [e] at u'
  exact ⟨hc,m',u'⟩
 ·intro i j a b
  by_cases c:ok=0
  ·have:i=j:=by (first|lia|omega)
   subst this; exact Int.le_refl _
  ·exact u i j a (by (first|lia|omega))
 ·obtain ⟨rfl,m',u'⟩:=hc
  exact wpS_pure (h z m' u')
theorem whole_run {st:SortSt} {Q:Unit→SortSt→Prop} (T:Tells prog w A s kd rk ini) (m:Mid kd ini st) (h2:2 ≤ ini.size) (h64:ini.size < 64)
  (h:∀ z,(arrOf z).Perm ini→failedOf z=none→Up rk z ini.size→Q () z):wpS (model prog w) A E s sortRuns' Q st:=by
 rw [sortRuns'_eq]
 refine wpS_bind (wpS_get ?_)
 dsimp only
 have mr:minRun' ini.size ini.size 0=ini.size:=by
  have e:ini.size=(ini.size - 1)+1:=by (first|lia|omega)
  have q:=minRun'_succ (ini.size - 1) ini.size 0
  rw [← e,if_pos h64] at q
  exact q
 simp only [m.sz,mr]
 refine wpS_bind (wpS_mono (wpS_forRange
  (fun x c z=>(x=0∧c=(none,0)∧Mid kd ini z)∨(1 ≤ x∧c=(none,ini.size)∧(arrOf z).Perm ini∧failedOf z=none∧pendingOf z=#[(0,ini.size,0)]∧Up rk z ini.size))
  (Q:=fun c z=>c=(none,ini.size)∧(arrOf z).Perm ini∧failedOf z=none∧pendingOf z=#[(0,ini.size,0)]∧Up rk z ini.size) (fun x c z _ lx hI=>?_) (fun c z hI=>?_) (.inl ⟨rfl,rfl,m⟩)) fun c z hc=>?_)
 ·rcases hI with ⟨rfl,rfl,m'⟩|⟨x1,rfl,hD⟩
  ·dsimp only
   rw [if_neg (by (first|lia|omega))]
   simp only [Nat.sub_zero,Nat.min_self,Nat.zero_add]
   have last:∀ {y:SortSt},Mid kd ini y→Up rk y ini.size→pendingOf (setPending y ((pendingOf y).push (0,ini.size,0)))=#[(0,ini.size,0)]:=fun {y} my uy=>by
    show (pendingOf y).push _=_
    rw [my.pd]; rfl
   refine wpS_bind (count_run T m' (Nat.le_refl _) (by (first|lia|omega)) fun r y my r1 r2 uy=>?_)
   dsimp only
   by_cases c:r < ini.size
   ·rw [if_pos c]
    refine wpS_bind (wpS_lift (wpAny_rule ⟨rfl,?_⟩))
    refine wpS_bind (ins_run T my (Nat.le_refl _) r2 uy fun y2 my2 uy2=>?_)
    simp only [Bool.not_true,Bool.false_eq_true,if_false]
    refine wpS_bind (wpS_get ?_)
    have hb:(pendingOf y2).back?=none:=by rw [my2.pd]; rfl
    rw [hb]
    exact wpS_bind (wpS_modify (wpS_pure (.inr ⟨by (first|lia|omega),rfl,my2.pm,my2.fl,last my2 uy2,uy2⟩)))
   ·rw [if_neg c]
    have e:r=ini.size:=by (first|lia|omega)
    subst e
    refine wpS_bind (wpS_get ?_)
    have hb:(pendingOf y).back?=none:=by rw [my.pd]; rfl
    rw [hb]
    exact wpS_bind (wpS_modify (wpS_pure (.inr ⟨by (first|lia|omega),rfl,my.pm,my.fl,last my uy,uy⟩)))
  ·dsimp only
   rw [if_pos (Nat.le_refl _)]
   exact wpS_pure ⟨rfl,hD⟩
 ·rcases hI with ⟨hx,_,_⟩|⟨_,hc,hD⟩
  ·(first|lia|omega)
  ·exact ⟨hc,hD⟩
 ·obtain ⟨rfl,d1,d2,d3,d4⟩:=hc
  dsimp only
  refine wpS_bind (wpS_mono (wpS_forRange (fun _ c y=>y=z∧c=(none,())) (Q:=fun c y=>y=z∧c=(none,())) (fun x c y _ _ hI=>?_) (fun _ _ q=>q) ⟨rfl,rfl⟩) fun c y hc=>?_)
  ·obtain ⟨rfl,rfl⟩:=hI
   refine wpS_bind (wpS_get ?_)
   rw [if_pos (by rw [d3]; exact Nat.le_refl 1)]
   exact wpS_pure ⟨rfl,rfl⟩
  ·obtain ⟨rfl,rfl⟩:=hc
   exact wpS_pure (h _ d1 d2 d4)
end
end L3
namespace L3
open PySem PySem.Spec PyProof.Rows L2
theorem lex_irr:∀ a:List Int,HT.lexLt a a=false
 | []=>rfl
 | x::r=>by rw [HT.lexLt_cons,if_pos rfl]; exact lex_irr r
theorem lex_tr:∀ {a b c:List Int},HT.lexLt a b=true→HT.lexLt b c=true→HT.lexLt a c=true
 | [],[],_,h,_=>by simp [HT.lexLt_nil_nil] at h
 | [],_::_,[],_,h=>by simp [HT.lexLt_cons_nil] at h
 | [],_::_,_::_,_,_=>rfl
 | _::_,[],_,h,_=>by simp [HT.lexLt_cons_nil] at h
 | _::_,_::_,[],_,h=>by simp [HT.lexLt_cons_nil] at h
 | x::a,y::b,z::c,h,k=>by
  rw [HT.lexLt_cons] at h k ⊢
  by_cases e1:x=y
  ·subst e1
   rw [if_pos rfl] at h
   by_cases e2:x=z
   ·subst e2
    rw [if_pos rfl] at k ⊢
    exact lex_tr h k
   ·rw [if_neg e2] at k ⊢; exact k
  ·rw [if_neg e1] at h
   by_cases e2:y=z
   ·subst e2
    rw [if_neg e1]; exact h
   ·rw [if_neg e2] at k
    simp at h k
    rw [if_neg (by (first|lia|omega))]
    simp; (first|lia|omega)
theorem lex_tot:∀ {a b:List Int},HT.lexLt a b=false→HT.lexLt b a=false→a=b
 | [],[],_,_=>rfl
 | [],_::_,h,_=>by simp [HT.lexLt_nil_cons] at h
 | _::_,[],_,h=>by simp [HT.lexLt_nil_cons] at h
 | x::a,y::b,h,k=>by
  rw [HT.lexLt_cons] at h k
  by_cases e:x=y
  ·subst e
   rw [if_pos rfl] at h k
   rw [lex_tot h k]
  ·rw [if_neg e] at h
   rw [if_neg (Ne.symm e)] at k
   simp at h k
   (first|lia|omega)
noncomputable def lexLe (a b:List Int):Bool:=!HT.lexLt b a
theorem lexLe_tr (a b c:List Int) (h:lexLe a b=true) (k:lexLe b c=true):lexLe a c=true:=by
 unfold lexLe at *
 cases e:HT.lexLt c a with
 | false=>rfl
 | true =>
  simp at h k
  cases e2:HT.lexLt a b with
  | true=>rw [lex_tr e e2] at k; cases k
  | false=>rw [lex_tot e2 h,k] at e; cases e
theorem lexLe_tot (a b:List Int):(lexLe a b || lexLe b a)=true:=by
 unfold lexLe
 cases e:HT.lexLt b a with
 | false=>rfl
 | true =>
  cases e2:HT.lexLt a b with
  | false=>rfl
  | true=>have:=lex_tr e e2; rw [lex_irr] at this; cases this
noncomputable def sortR (rs:List (List Int)):List (List Int):=rs.mergeSort lexLe
theorem sortR_perm (rs:List (List Int)):(sortR rs).Perm rs:=List.mergeSort_perm rs lexLe
theorem sortR_le (rs:List (List Int)):(sortR rs).Pairwise fun a b=>HT.lexLt b a=false:=by
 have h:=List.pairwise_mergeSort lexLe_tr lexLe_tot rs
 exact h.imp fun {a b} q=>by simpa [lexLe] using q
theorem sorted_one:∀ {xs ys:List (List Int)},xs.Perm ys→xs.Pairwise (fun a b=>HT.lexLt b a=false)→ys.Pairwise (fun a b=>HT.lexLt b a=false)→xs=ys
 | [],ys,p,_,_=>by rw [List.nil_perm.mp p]
 | x::xs,[],p,_,_=>by have:=p.length_eq; simp at this
 | x::xs,y::ys,p,hx,hy=>by
  rw [List.pairwise_cons] at hx hy
  have e:x=y:=by
   have m1:x∈y::ys:=p.mem_iff.mp List.mem_cons_self
   have m2:y∈x::xs:=p.mem_iff.mpr List.mem_cons_self
   rcases List.mem_cons.mp m1 with q|q
   ·exact q
   ·rcases List.mem_cons.mp m2 with q2|q2
    ·exact q2.symm
    ·exact lex_tot (hy.1 x q) (hx.1 y q2)
  subst e
  rw [sorted_one (List.Perm.cons_inv p) hx.2 hy.2]
noncomputable def rankR (rs:List (List Int)) (r:List Int):Int:=(rs.countP fun q=>HT.lexLt q r:Nat)
theorem rank_lt {rs:List (List Int)} {a b:List Int} (ha:a∈rs):(rankR rs a < rankR rs b) ↔ HT.lexLt a b=true:=by
 unfold rankR
 constructor
 ·intro h
  cases e:HT.lexLt a b with
  | true=>rfl
  | false =>
   have:(rs.countP fun q=>HT.lexLt q b) ≤ rs.countP fun q=>HT.lexLt q a:=List.countP_mono_left fun q _ hq=>by
    cases e2:HT.lexLt b a with
    | true=>exact lex_tr hq e2
    | false=>rw [lex_tot e e2]; exact hq
   (first|lia|omega)
 ·intro h
  have:(rs.countP fun q=>HT.lexLt q a) < rs.countP fun q=>HT.lexLt q b:=by
   obtain ⟨l,r,rfl⟩:=List.append_of_mem ha
   have m:∀ l:List (List Int),(l.countP fun q=>HT.lexLt q a) ≤ l.countP fun q=>HT.lexLt q b:=fun l=>List.countP_mono_left fun q _ hq=>lex_tr hq h
   have m1:=m l
   have m2:=m r
   rw [List.countP_append,List.countP_append,List.countP_cons_of_neg (by simp [lex_irr]),List.countP_cons_of_pos (p:=fun q=>HT.lexLt q b) h]
   (first|lia|omega)
  (first|lia|omega)
section
variable {prog:Program} {w:World} {A:Around} {E:Value→Shared→Prop} {s:Shared}
theorem one_int (f:Bool) {a b:Int} {t u:Tok} {Q:Bool→Shared→Prop} (h:Q (decide (a < b)) s):wpAny (model prog w) A (oneLt' f (.int a t) (.int b u)) Q E s:=by
 cases f with
 | true=>exact oneLt_int h
 | false =>
  rw [oneLt'_eq]
  simp only [Bool.false_eq_true,if_false]
  exact wpAny_bind (wpAny_richCompare_same (op:=.Lt) (typeIs_int s a t) (typeIs_int s b u) slot_int_lt (call_int_lt ⟨(fun z=>nomatch z),wpAny_truthy_bool h⟩))
theorem lex_walk (f:Bool) {Q:Option Bool×Unit→Shared→Prop}:∀ {xs ys:List Value} {ns ms:List Int} (k:Nat),IntsAre xs ns→IntsAre ys ms →
  (∀ r:Option Bool×Unit,(match r.1 with|some b=>b=HT.lexLt ns ms|none=>HT.lexLt ns ms=decide (xs.length < ys.length))→Q r s) →
  wpAny (model prog w) A (forIn ((xs.zip ys).zipIdx k) ((none,()):Option Bool×Unit) fun x _=>match x with
   | ((p,q),i)=>do
    let e ← eqBool p q
    if (!e)=true then do
     let l ← oneLt' (f && i == 0) p q
     pure (ForInStep.done (some l,()))
    else pure (ForInStep.yield (none,()))) Q E s
 | _,_,_,_,k,.nil,.nil,h=>wpAny_pure (h (none,()) (by rfl))
 | _,_,_,_,k,.nil,.cons _ _ _,h=>wpAny_pure (h (none,()) (by simp [HT.lexLt_nil_cons]))
 | _,_,_,_,k,.cons _ _ _,.nil,h=>wpAny_pure (h (none,()) (by simp [HT.lexLt_cons_nil]))
 | _,_,_,_,k,.cons (ns:=ns) a t hx,.cons (ns:=ms) b u hy,h=>by
  rw [List.zip_cons_cons,List.zipIdx_cons,List.forIn_cons]
  refine wpAny_bind (wpAny_bind (wpAny_eqBool_int ?_))
  by_cases c:a=b
  ·subst c
   rw [beq_self_eq_true]
   refine wpAny_pure (lex_walk f (k+1) hx hy fun r hr=>h r ?_)
   obtain ⟨r1,_⟩:=r
   cases r1 with
   | none=>dsimp only at hr ⊢; rw [HT.lexLt_cons,if_pos rfl,hr]; simp
   | some v=>dsimp only at hr ⊢; rw [HT.lexLt_cons,if_pos rfl]; exact hr
  ·have:(a == b)=false:=by simpa using c
   rw [this]
   refine wpAny_bind (one_int _ (wpAny_pure (wpAny_pure (h (some (decide (a < b)),()) ?_))))
   rw [HT.lexLt_cons,if_neg c]
theorem key_lt {a b:Addr} {xs ys:List Value} {ns ms:List Int} {Q:Bool→Shared→Prop} (ha:IsTup s.heap a xs.toArray) (hb:IsTup s.heap b ys.toArray) (hx:IntsAre xs ns) (hy:IntsAre ys ms) (h:Q (HT.lexLt ns ms) s) :
  wpAny (model prog w) A (keyLt' (tuples' true) (.ref a) (.ref b)) Q E s:=by
 obtain ⟨oa,ea,ca,na,da⟩:=ha
 obtain ⟨ob,eb,cb,nb,db⟩:=hb
 refine wpAny_bind (m:=Builtin.List.listItems (.ref a)) (listItems_at ea da ?_)
 refine wpAny_bind (m:=Builtin.List.listItems (.ref b)) (listItems_at eb db ?_)
 refine wpAny_bind (lex_walk true 0 hx hy fun r hr=>?_)
 obtain ⟨r1,_⟩:=r
 cases r1 with
 | some v=>dsimp only at hr ⊢; subst hr; exact wpAny_pure h
 | none=>dsimp only at hr ⊢; rw [hr] at h; simpa using wpAny_pure h
noncomputable def rowV (h:Heap):Value→List Int
 | .ref a=>(match h.get? a with
  | some o=>(match o.data with|.seq its _=>numsOf its.toList|_=>[])
  | none=>[])
 | _=>[]
noncomputable def Rows (h:Heap) (vs:List Value):Prop:=∀ v∈vs,∃ a its ns,v=.ref a∧IsTup h a (its:List Value).toArray∧IntsAre its (ns:List Int)∧ns≠[]
theorem rowV_is {h:Heap} {a:Addr} {its:List Value} {ns:List Int} (p:IsTup h a its.toArray) (q:IntsAre its ns):rowV h (.ref a)=ns:=by
 obtain ⟨o,e,c,n,d⟩:=p
 unfold rowV
 dsimp only
 rw [e]
 dsimp only
 rw [d]
 exact q.numsOf
theorem Rows.stay {h h':Heap} {vs:List Value} (R:Rows h vs) (k:∀ b o,h.get? b=some o→h'.get? b=some o):Rows h' vs∧∀ v∈vs,rowV h' v=rowV h v:=by
 have go:∀ v∈vs,∃ a its ns,v=.ref a∧IsTup h a (its:List Value).toArray∧IsTup h' a its.toArray∧IntsAre its (ns:List Int)∧ns≠[]:=fun v hv=>by
  obtain ⟨a,its,ns,e,p,q,n⟩:=R v hv
  obtain ⟨o,e2,c⟩:=p
  exact ⟨a,its,ns,e,⟨o,e2,c⟩,⟨o,k _ _ e2,c⟩,q,n⟩
 refine ⟨fun v hv=>?_,fun v hv=>?_⟩
 ·obtain ⟨a,its,ns,e,_,p,q,n⟩:=go v hv
  exact ⟨a,its,ns,e,p,q,n⟩
 ·obtain ⟨a,its,ns,rfl,p,p',q,n⟩:=go v hv
  rw [rowV_is p q,rowV_is p' q]
theorem firsts_ok:∀ {vs:List Value} {Q:List (Option Value)→Shared→Prop},Rows s.heap vs→(∀ fs:List Value,fs.length=vs.length→(∀ f∈fs,∃ n t,f=.int n t)→Q (fs.map some) s)→wpAny (model prog w) A (vs.mapM firstOfTuple') Q E s
 | [],Q,_,h=>by rw [List.mapM_nil]; exact wpAny_pure (h [] rfl fun f hf=>by simp at hf)
 | v::vs,Q,R,h=>by
  obtain ⟨a,its,ns,rfl,p,q,n⟩:=R v List.mem_cons_self
  obtain ⟨o,e,c,m,d⟩:=p
  rw [List.mapM_cons]
  have first:∃ x t r,its=.int x t::r:=by
   cases q with
   | nil=>exact absurd rfl n
   | cons x t r=>exact ⟨x,t,_,rfl⟩
  obtain ⟨x,t,r,rfl⟩:=first
  refine wpAny_bind (wpAny_bind (m:=typeOf (.ref a)) (wpAny_typeOf (T:="tuple") ⟨o,e,c⟩ ?_))
  have ht:(Value.type "tuple" != Value.type "tuple")=false:=by rfl
  rw [if_neg (by rw [ht]; exact Bool.false_ne_true)]
  refine wpAny_bind (listItems_at e d (wpAny_pure ?_))
  refine wpAny_bind (firsts_ok (fun v hv=>R v (List.mem_cons_of_mem _ hv)) fun fs hl hf=>wpAny_pure ?_)
  have:=h (.int x t::fs) (by simp [hl]) fun f hf'=>by
   rcases List.mem_cons.mp hf' with rfl|hf'
   ·exact ⟨x,t,rfl⟩
   ·exact hf f hf'
  simpa using this
theorem types_ok:∀ {fs:List Value},(∀ f∈fs,∃ n t,f=.int n t)→fs.mapM typeOf=pure (fs.map fun _=>Value.type "int")
 | [],_=>by simp
 | f::fs,h=>by
  obtain ⟨n,t,rfl⟩:=h f List.mem_cons_self
  rw [List.mapM_cons,types_ok fun f hf=>h f (List.mem_cons_of_mem _ hf)]
  show (pure (Value.type "int") >>= fun b=>pure _ >>= fun bs=>pure (b::bs))=_
  simp
theorem kind_ok {vs:List Value} {Q:SortKind→Shared→Prop} (R:Rows s.heap vs) (hv:vs≠[]) (h:Q (tuples' true) s):wpAny (model prog w) A (keyKind' vs.toArray) Q E s:=by
 rw [keyKind'_eq,List.mapM_toArray,map_eq_pure_bind,bind_assoc]
 refine wpAny_bind (firsts_ok R fun fs hl hf=>?_)
 simp only [pure_bind]
 rw [if_pos (by simp)]
 refine wpAny_bind (wpAny_rule ?_)
 have e:(fs.map some).toArray.filterMap id=fs.toArray:=by simp
 rw [e,oneTypeOnly'_eq,List.mapM_toArray,types_ok hf]
 simp only [map_pure,pure_bind]
 cases fs with
 | nil=>simp at hl; exact absurd (List.length_eq_zero_iff.mp hl.symm) hv
 | cons f fs =>
  have h0:(List.map (fun _=>Value.type "int") (f::fs)).toArray[0]?=some (Value.type "int"):=by simp
  have ha:((List.map (fun _=>Value.type "int") (f::fs)).toArray.all fun x=>x == Value.type "int")=true:=by
   simp only [List.all_toArray,List.all_map,List.all_eq_true]
   intro _ _
   rfl
  rw [h0]
  simp only [ha,if_true,pure_bind]
  exact wpAny_pure h
theorem sort_ok {a:Addr} {vs:List Value} {n:Nat} {P:Fin→Shared→Prop} (ho:s.heap.get? a=some (seqObj "list" vs.toArray n)) (R:Rows s.heap vs) (na:.ref a ∉ vs) (nd:(vs.map (rowV s.heap)).Nodup) (h64:vs.length < 64)
  (h:∀ us:List Value,us.Perm vs→(us.map (rowV s.heap)).Pairwise (fun x y=>HT.lexLt y x=false)→P (.done (.ret .none)) { s with heap:=sortedHeap s.heap a vs us.toArray }) :
  wpAny (model prog w) A (Builtin.«list.sort» ⟨[.ref a],[]⟩) P E s:=by
 have la:a < s.heap.objs.size:=Heap.lt_size ho
 rw [list_sort_plain]
 refine wpAny_bind (listItems_at ho rfl (wpAny_bind (listUpdate_at ho rfl ?_)))
 obtain ⟨c1,o1⟩:∃ c1,(s.heap.update a (Obj.mapSeq fun _=>#[])).get? a=some (seqObj "list" #[] c1):=⟨_,get?_update_seq ho (fun _=>#[])⟩
 refine wpAny_bind (seqEpoch_at o1 rfl (wpAny_bind (wpAny_newTuple (wpAny_bind (wpAny_newList (wpAny_holding ?_))))))
 show wpAny (model prog w) A _ P E { s with heap:=((s.heap.update a (Obj.mapSeq fun _=>#[])).push (seqObj "tuple" vs.toArray 0)).push (seqObj "list" #[] 0) }
 generalize eM:((s.heap.update a (Obj.mapSeq fun _=>#[])).push (seqObj "tuple" vs.toArray 0)).push (seqObj "list" #[] 0)=hM
 have old:∀ b o,b≠a→s.heap.get? b=some o→hM.get? b=some o:=fun b o ne e=>by
  have lb:=Heap.lt_size e
  rw [← eM,Heap.get?_push_ne _ _ _ (by rw [size_push',Heap.size_update]; exact Nat.ne_of_lt (Nat.lt_succ_of_lt lb)),Heap.get?_push_ne _ _ _ (by rw [Heap.size_update]; exact Nat.ne_of_lt lb),Heap.get?_update_ne _ _ _ _ ne]
  exact e
 have o2:hM.get? a=some (seqObj "list" #[] c1):=by
  rw [← eM,Heap.get?_push_ne _ _ _ (by rw [size_push',Heap.size_update]; exact Nat.ne_of_lt (Nat.lt_succ_of_lt la)),Heap.get?_push_ne _ _ _ (by rw [Heap.size_update]; exact Nat.ne_of_lt la)]
  exact o1
 have tupOld:∀ v∈vs,∃ b its ns,v=.ref b∧IsTup s.heap b (its:List Value).toArray∧IsTup hM b its.toArray∧IntsAre its (ns:List Int)∧ns≠[]:=fun v hv=>by
  obtain ⟨b,its,ns,e,⟨o,e2,c⟩,q,nn⟩:=R v hv
  refine ⟨b,its,ns,e,⟨o,e2,c⟩,⟨o,old b o (fun z=>?_) e2,c⟩,q,nn⟩
  subst z e
  exact na hv
 have R2:Rows hM vs:=fun v hv=>let ⟨b,its,ns,e,_,p,q,nn⟩:=tupOld v hv; ⟨b,its,ns,e,p,q,nn⟩
 dsimp only
 have done_:∀ st:SortSt,(arrOf st).Perm (pairsOf vs)→(∀ i j,i ≤ j→j < (pairsOf vs).size→av (fun v=>rankR (vs.map (rowV s.heap)) (rowV s.heap v)) (arrOf st) i ≤ av (fun v=>rankR (vs.map (rowV s.heap)) (rowV s.heap v)) (arrOf st) j) →
   P (.done (.ret .none)) { s with heap:=hM.update a (Obj.mapSeq fun _=>(arrOf st).map (·.2)) }:=fun st pm up=>by
  have hp:(arrOf st).toList.Perm (vs.zip vs):=by rw [← pairsOf_toList]; exact Array.perm_iff_toList_perm.mp pm
  have mem:∀ p∈(arrOf st).toList,p.1=p.2∧p.1∈vs:=fun p hp'=>mem_zip_self (hp.mem_iff.mp hp')
  have e2:((arrOf st).map (·.2)).toList=(arrOf st).toList.map (·.1):=by
   rw [Array.toList_map]
   exact List.map_congr_left fun p hp'=>(mem p hp').1.symm
  have pv:((arrOf st).map (·.2)).toList.Perm vs:=by
   rw [e2]
   have:=hp.map Prod.fst
   rwa [List.map_fst_zip (Nat.le_refl _)] at this
  have q:=h ((arrOf st).map (·.2)).toList pv (by
   rw [e2,List.map_map,List.pairwise_map,List.pairwise_iff_getElem]
   intro i j hi hj hij
   have hi':i < (arrOf st).size:=by simpa using hi
   have hj':j < (arrOf st).size:=by simpa using hj
   have u:=up i j (Nat.le_of_lt hij) (by rw [← pm.size_eq]; exact hj')
   unfold av at u
   rw [getElem?_pos _ i hi',getElem?_pos _ j hj'] at u
   dsimp only at u
   show HT.lexLt (rowV s.heap (arrOf st).toList[j].1) (rowV s.heap (arrOf st).toList[i].1)=false
   cases el:HT.lexLt (rowV s.heap (arrOf st).toList[j].1) (rowV s.heap (arrOf st).toList[i].1) with
   | false=>rfl
   | true =>
    have mj:=(mem (arrOf st).toList[j] (List.getElem_mem _)).2
    have:=(rank_lt (rs:=vs.map (rowV s.heap)) (List.mem_map.mpr ⟨_,mj,rfl⟩)).mpr el
    simp only [Array.getElem_toList] at this
    (first|lia|omega))
  rw [Array.toArray_toList] at q
  have:sortedHeap s.heap a vs ((arrOf st).map (·.2))=hM.update a (Obj.mapSeq fun _=>(arrOf st).map (·.2)):=by unfold sortedHeap; rw [eM]
  rw [← this]
  exact q
 have hz:vs.toArray.size=vs.length:=by simp
 by_cases c2:vs.toArray.size < 2
 ·rw [if_pos c2,if_pos c2]
  refine wpAny_bind (wpAny_pure ?_)
  rw [StateT.run_pure]
  refine wpAny_bind (wpAny_pure ?_)
  dsimp only
  refine wpAny_bind (seqEpoch_at o2 rfl (wpAny_bind (listUpdate_at o2 rfl ?_ (hsz2:=by rw [Array.size_map]; show (pairsOf vs).size ≤ _; rw [pairsOf_size,sizeLine_eq]; (first|lia|omega)))))
  simp only [bne_self_eq_false,Bool.false_eq_true,if_false]
  refine wpAny_pure (done_ (SortSt.mk' general' (vs.toArray.zip vs.toArray) #[] 7 none) (Array.Perm.refl _) fun i j l1 l2=>?_)
  rw [pairsOf_size] at l2
  have:i=j:=by (first|lia|omega)
  subst this
  exact Int.le_refl _
 ·rw [if_neg c2,if_neg c2]
  have hv:vs≠[]:=fun z=>by subst z; simp at c2
  refine wpAny_bind (kind_ok R2 hv ?_)
  have T:Tells prog w A { s with heap:=hM } (tuples' true) (fun v=>rankR (vs.map (rowV s.heap)) (rowV s.heap v)) (pairsOf vs):=by
   refine ⟨fun p hp q hq E Q hQ=>?_,?_⟩
   ·rw [pairsOf_toList] at hp hq
    have mp:=(mem_zip_self hp).2
    have mq:=(mem_zip_self hq).2
    obtain ⟨b1,i1,n1,e1,p1,p1',q1,_⟩:=tupOld _ mp
    obtain ⟨b2,i2,n2,e2,p2,p2',q2,_⟩:=tupOld _ mq
    have r1:=rowV_is p1 q1
    have r2:=rowV_is p2 q2
    rw [e1,e2] at hQ ⊢
    refine key_lt p1' p2' q1 q2 ?_
    have:=rank_lt (rs:=vs.map (rowV s.heap)) (a:=rowV s.heap (.ref b1)) (b:=rowV s.heap (.ref b2)) (List.mem_map.mpr ⟨_,mp,by rw [e1]⟩)
    rw [r1,r2] at this
    rw [r1,r2] at hQ
    have e3:decide (rankR (vs.map (rowV s.heap)) n1 < rankR (vs.map (rowV s.heap)) n2)=HT.lexLt n1 n2:=by
     cases el:HT.lexLt n1 n2 with
     | true=>exact decide_eq_true (this.mpr el)
     | false=>exact decide_eq_false fun z=>by rw [this.mp z] at el; cases el
    rw [e3] at hQ
    exact hQ
   ·rw [pairsOf_toList]
    have e:(vs.zip vs).map (fun p=>rankR (vs.map (rowV s.heap)) (rowV s.heap p.1))=(vs.map (rowV s.heap)).map (rankR (vs.map (rowV s.heap))):=by
     have:(vs.zip vs).map (fun p=>rankR (vs.map (rowV s.heap)) (rowV s.heap p.1))=((vs.zip vs).map Prod.fst).map fun v=>rankR (vs.map (rowV s.heap)) (rowV s.heap v):=by rw [List.map_map]; rfl
     rw [this,List.map_fst_zip (Nat.le_refl _),List.map_map]
     rfl
    rw [e]
    show List.Pairwise _ _
    rw [List.pairwise_map]
    refine List.Pairwise.imp_of_mem (fun {x y} hx hy ne z=>?_) nd
    have k1:=rank_lt (rs:=vs.map (rowV s.heap)) (b:=y) hx
    have k2:=rank_lt (rs:=vs.map (rowV s.heap)) (b:=x) hy
    refine ne (lex_tot ?_ ?_)
    ·cases el:HT.lexLt x y with
     | false=>rfl
     | true=>have:=k1.mpr el; (first|lia|omega)
    ·cases el:HT.lexLt y x with
     | false=>rfl
     | true=>have:=k2.mpr el; (first|lia|omega)
  refine wpAny_bind (wpAny_mono (whole_run (E:=E) (st:=SortSt.mk' (tuples' true) (vs.toArray.zip vs.toArray) #[] 7 none) (ini:=pairsOf vs)
   (Q:=fun _ z=>(arrOf z).Perm (pairsOf vs)∧failedOf z=none∧Up (fun v=>rankR (vs.map (rowV s.heap)) (rowV s.heap v)) z (pairsOf vs).size) T ⟨Array.Perm.refl _,rfl,rfl,rfl⟩ (by rw [pairsOf_size]; (first|lia|omega)) (by rw [pairsOf_size]; exact h64) fun z a1 a2 a3=>⟨a1,a2,a3⟩) ?_ fun _ _ e=>e)
  rintro ⟨⟨⟩,z⟩ s' ⟨rfl,pm,fl,up⟩
  dsimp only
  refine wpAny_bind (seqEpoch_at o2 rfl (wpAny_bind (listUpdate_at o2 rfl ?_ (hsz2:=by refine Nat.le_trans (Nat.le_of_eq ((Array.size_map ..).trans (pm.size_eq.trans (pairsOf_size _)))) ?_; rw [sizeLine_eq]; (first|lia|omega)))))
  rw [fl]
  simp only [bne_self_eq_false,Bool.false_eq_true,if_false]
  exact wpAny_pure (done_ z pm up)
end
end L3
namespace L3
open PySem PySem.Spec PyProof.Rows L2
section
variable {prog:Program} {w:World} {A:Around} {E:Value→Shared→Prop} {s:Shared}
theorem sorted_ok {l:Addr} {vs:List Value} {Q:Value→Shared→Prop} (hl:s.heap.IsList l vs.toArray) (R:Rows s.heap vs) (nd:(vs.map (rowV s.heap)).Nodup) (h64:vs.length < 64)
  (h:∀ us:List Value,us.Perm vs→(us.map (rowV s.heap)).Pairwise (fun x y=>HT.lexLt y x=false)→Q (.ref (s.heap.objs.size+1)) { s with heap:=sortedAll s.heap vs us.toArray }) :
  wpAny (model prog w) A (call (.builtin "sorted") [.ref l]) Q E s:=by
 refine Calls.call_function_entry kind_sorted plain_sorted entry_sorted (args_sorted1 _) ?_
 unfold Builtin.«sorted»
 refine wpAny_bind (m:=checkCount "sorted" 1 1 _) (wpAny_pure (wpAny_bind (collect_list hl (wpAny_bind (wpAny_newList ?_)) (by rw [sizeLine_eq]; (first|lia|omega)))))
 have z1:((s.heap.push (seqObj "list" #[] 0)).update s.heap.objs.size (Obj.mapSeq (·++vs.toArray))).objs.size=s.heap.objs.size+1:=by rw [Heap.size_update,size_push']
 show wpAny _ _ _ _ _ { s with heap:=((s.heap.push (seqObj "list" #[] 0)).update s.heap.objs.size (Obj.mapSeq (·++vs.toArray))).push (seqObj "list" vs.toArray 0) }
 rw [z1]
 generalize eM:((s.heap.push (seqObj "list" #[] 0)).update s.heap.objs.size (Obj.mapSeq (·++vs.toArray))).push (seqObj "list" vs.toArray 0)=hM
 have o1:hM.get? (s.heap.objs.size+1)=some (seqObj "list" vs.toArray 0):=by
  rw [← eM,← z1]; exact Heap.get?_push_size _ rfl
 have old:∀ b o,s.heap.get? b=some o→hM.get? b=some o:=fun b o e=>by
  have lb:=Heap.lt_size e
  rw [← eM,Heap.get?_push_ne _ _ _ (by rw [z1]; exact Nat.ne_of_lt (Nat.lt_succ_of_lt lb)),Heap.get?_update_ne _ _ _ _ (Nat.ne_of_lt lb),Heap.get?_push_ne _ _ _ (Nat.ne_of_lt lb)]
  exact e
 obtain ⟨R2,rw2⟩:=R.stay old
 have mp:vs.map (rowV hM)=vs.map (rowV s.heap):=List.map_congr_left rw2
 have na:Value.ref (s.heap.objs.size+1) ∉ vs:=fun z=>by
  obtain ⟨a,its,ns,e,⟨o,e2,_⟩,_⟩:=R _ z
  cases e
  exact absurd (Heap.lt_size e2) (Nat.not_lt.mpr (Nat.le_succ _))
 refine wpAny_bind (wpAny_holding (wpAny_call_entry slot_list_sort ⟨_,o1,rfl⟩ entry_list_sort ?_ (args_list_sort _)))
 refine sort_ok (s:={ s with heap:=hM }) o1 R2 na (by rw [mp]; exact nd) h64 fun us pm up=>⟨_,rfl,wpAny_pure ⟨_,rfl,?_⟩⟩
 have q:=h us pm (by
  have:us.map (rowV hM)=us.map (rowV s.heap):=List.map_congr_left fun v hv=>rw2 v (pm.mem_iff.mp hv)
  rw [← this]; exact up)
 unfold sortedAll at q
 rw [eM] at q
 exact q
end
noncomputable def rowD (r:List Int):D:=.tup (r.map .int)
noncomputable def rowsOf:List D→Option (List (List Int))
 | []=>some []
 | .tup xs::r=>(match intsOf xs,rowsOf r with|some a,some b=>some (a::b)|_,_=>none)
 | _::_=>none
noncomputable def dSorted:List D→R En
 | [.lst ds]=>(match rowsOf ds with
  | some rs=>if rs.Nodup∧rs.length < 64∧[] ∉ rs then .ok (.ow (.lst ((sortR rs).map rowD))) else .stuck
  | none=>.stuck)
 | _=>.stuck
noncomputable def toV:Value→V
 | .ref a=>.ref a
 | _=>.non
theorem rows_rep {X:Cx} {pins:List (Addr×Obj)} {σ:St} {F H:Hp} {s:Shared} (I:Inv X pins σ H s) (l:Le F H):∀ {ds:List D} {rs:List (List Int)} {vs:List V} {us:List Value},rowsOf ds=some rs→Reps (kx X) F vs ds→Vals vs us →
  us.map (rowV s.heap)=rs∧∀ u∈us,∃ a its ns,u=.ref a∧IsTup s.heap a (its:List Value).toArray∧IntsAre its ns∧Rep (kx X) F (.ref a) (rowD ns)∧ns∈rs
 | [],rs,vs,us,h,r,q=>by
  cases h
  cases (show vs=[] from r)
  cases q
  exact ⟨rfl,fun u hu=>by simp at hu⟩
 | d::ds,rs,vs,us,h,r,q=>by
  obtain ⟨v,vr,rfl,r1,r2⟩:=r
  cases d <;> first|(cases h; done)|skip
  rename_i xs
  unfold rowsOf at h
  cases e1:intsOf xs with
  | none=>rw [e1] at h; cases h
  | some ns =>
   cases e2:rowsOf ds with
   | none=>rw [e1,e2] at h; cases h
   | some rs' =>
    rw [e1,e2] at h
    cases h
    cases q with
    | cons q1 q2 =>
     obtain ⟨m,k⟩:=rows_rep I l e2 r2 q2
     obtain ⟨a,ws,rfl,hq,rw'⟩:=id r1
     cases (show _=Value.ref a from q1)
     have ev:=intsOf_reps e1 rw'
     subst ev
     obtain ⟨its,rv,ht,_⟩:=I.tuple (SqT.le l hq)
     have hi:IntsAre its ns:=intsAre_of rv
     have rep:Rep (kx X) F (.ref a) (rowD ns):=by
      refine ⟨a,_,rfl,hq,?_⟩
      exact reps_ints ns
     refine ⟨by rw [List.map_cons,m,rowV_is ht hi],fun u hu=>?_⟩
     rcases List.mem_cons.mp hu with rfl|hu
     ·exact ⟨a,its,ns,rfl,ht,hi,rep,List.mem_cons_self⟩
     ·obtain ⟨a',its',ns',e,p1,p2,p3,p4⟩:=k u hu
      exact ⟨a',its',ns',e,p1,p2,p3,List.mem_cons_of_mem _ p4⟩
section
variable {X:Cx} {F0 H0:Hp}
theorem cd_sorted:CallD X (.builtin "sorted") dSorted:=by
 intro pins s σ F H xs us ds Q I l rx qx w
 cases qx with
 | nil=>exact w.elim
 | @cons x d xs ds q1 q2 =>
  cases q2 with
  | cons _ _=>cases d <;> exact w.elim
  | nil =>
   cases d <;> first|exact w.elim|skip
   rename_i ds
   unfold dSorted at w
   dsimp only at w
   cases e:rowsOf ds with
   | none=>rw [e] at w; exact w.elim
   | some rs =>
    rw [e] at w
    dsimp only at w
    by_cases c:rs.Nodup∧rs.length < 64∧[] ∉ rs
    ·rw [if_pos c] at w
     obtain ⟨p,vs,rfl,hq,rs'⟩:=RdV.lst l q1
     cases rx with
     | cons r1 r2 =>
      cases r2
      cases r1
      obtain ⟨its,rv,pl,hz⟩:=I.list hq
      obtain ⟨m,k⟩:=rows_rep I l e rs' rv
      have len:its.length=rs.length:=by rw [← m,List.length_map]
      refine sorted_ok pl.isList (fun v hv=>?_) (by rw [m]; exact c.1) (by rw [len]; exact c.2.1) fun ys pm up=>?_
      ·obtain ⟨a,i2,ns,e,p1,p2,_,p4⟩:=k v hv
       exact ⟨a,i2,ns,e,p1,p2,fun z=>c.2.2 (z ▸ p4)⟩
      ·have em:ys.map (rowV s.heap)=sortR rs:=sorted_one ((pm.map _).trans (by rw [m]; exact (sortR_perm rs).symm)) up (sortR_le rs)
       have go:∀ zs:List Value,(∀ u∈zs,u∈its)→Vals (zs.map toV) zs∧Reps (kx X) F (zs.map toV) ((zs.map (rowV s.heap)).map rowD):=by
        intro zs
        induction zs with
        | nil=>intro _; exact ⟨.nil,rfl⟩
        | cons z zs ih =>
         intro hz
         obtain ⟨i1,i2⟩:=ih fun u hu=>hz u (List.mem_cons_of_mem _ hu)
         obtain ⟨a,i3,ns,rfl,p1,p2,p3,_⟩:=k z (hz z List.mem_cons_self)
         refine ⟨.cons rfl i1,⟨.ref a,_,rfl,?_,i2⟩⟩
         rw [rowV_is p1 p2]
         exact p3
       obtain ⟨g1,g2⟩:=go ys fun u hu=>pm.mem_iff.mp hu
       rw [em] at g2
       obtain ⟨c',he⟩:=sortedAll_at s.heap its ys.toArray
       have hp:H (s.heap.objs.size+1)=none:=I.hok.fresh (Nat.le_succ _)
       have hl2:(ys.map toV).length ≤ sizeLine:=by
        rw [List.length_map,pm.length_eq,sizeLine_eq]
        have:=c.2.1
        (first|lia|omega)
       refine ⟨.ref (s.heap.objs.size+1),upd H (s.heap.objs.size+1) (.lst (ys.map toV)),I.laid (t':=s.toks) (fun b o q=>sortedAll_old q) (Nat.le_succ _) ⟨hl2,ys,c',g1,he⟩,rfl,?_⟩
       exact w _ _ _ (Gr.new l hp) ⟨_,_,rfl,hp,Le.none l hp,upd_same,g2⟩
    ·rw [if_neg c] at w; exact w.elim
end
noncomputable def cutD {α:Type} (xs:List α) (lo hi:Option Int):List α:=(xs.drop (HT.sIx xs.length 0 lo)).take (HT.sIx xs.length xs.length hi - HT.sIx xs.length 0 lo)
noncomputable def dSl:D→Option Int→Option Int→R En
 | .lst xs,lo,hi=>.ok (.ow (.lst (cutD xs lo hi)))
 | .tup xs,lo,hi=>if HT.sIx xs.length 0 lo=0∧HT.sIx xs.length xs.length hi=xs.length then .stuck else .ok (.fz (.tup (cutD xs lo hi)))
 | _,_,_=>.stuck
noncomputable abbrev OF:=Rho→R (Option Int)
noncomputable def oNo:OF:=fun _=>.ok none
noncomputable def isI:D→R (Option Int)
 | .int i=>.ok (some i)
 | _=>.stuck
noncomputable def oE (e:EF):OF:=fun ρ=>(e ρ).bind fun w=>isI w.d
noncomputable def eSl (a:EF) (lo hi:OF):EF:=fun ρ=>(a ρ).bind fun x=>(lo ρ).bind fun l=>(hi ρ).bind fun u=>dSl x.d l u
theorem Reps.take {κ:Kx} {F:Hp}:∀ (n:Nat) {ds:List D} {vs:List V},Reps κ F vs ds→Reps κ F (vs.take n) (ds.take n)
 | 0,_,_,_=>rfl
 | n+1,[],_,h=>by cases (show _=_ from h); rfl
 | n+1,d::ds,_,h=>by
  obtain ⟨v,r,rfl,h1,h2⟩:=h
  exact ⟨v,r.take n,rfl,h1,Reps.take n h2⟩
theorem Reps.drop {κ:Kx} {F:Hp}:∀ (n:Nat) {ds:List D} {vs:List V},Reps κ F vs ds→Reps κ F (vs.drop n) (ds.drop n)
 | 0,_,_,h=>h
 | n+1,[],_,h=>by cases (show _=_ from h); rfl
 | n+1,d::ds,_,h=>by
  obtain ⟨v,r,rfl,h1,h2⟩:=h
  exact Reps.drop n h2
theorem Reps.cut {κ:Kx} {F:Hp} {ds:List D} {vs:List V} (h:Reps κ F vs ds) (lo hi:Option Int):Reps κ F (cutV vs lo hi) (cutD ds lo hi):=by
 unfold cutV cutD
 rw [Reps.length h]
 exact Reps.take _ (Reps.drop _ h)
section
variable {X:Cx} {F0 H0:Hp} {pos p2:Pos}
noncomputable def SO (X:Cx) (F0 H0:Hp) (e:Option Expr) (f:OF):Prop :=
 ∃ t,PO X e t∧∀ (σ:St) (F H:Hp) (ρ:Rho) (Q:Option Int→Hp→Prop),StOk (kx X) F0 H0 F H ρ σ→KE (XP X F0 H0) (f ρ) (fun o=>∀ F' H',Gr F H F' H'→Q o H')→t σ H Q
theorem so_none:SO X F0 H0 none oNo:=⟨_,po_none,fun σ F H ρ Q S h=>h F H (Gr.refl S.s)⟩
theorem so_some {e:Expr} {f:EF} (he:SE X F0 H0 e f):SO X F0 H0 (some e) (oE f) :=
 ⟨_,po_some (pe_sem (e:=e)),fun σ F H ρ Q S h=>he.sem S ((KE.bind h).imp fun w k v F1 H1 g q=>by
  have r:=Vok.rd q
  revert k r
  generalize w.d=d
  intro k r
  cases d <;> first|exact k.elim|skip
  exact ⟨_,RdV.int r,k F1 H1 g⟩)⟩
theorem se_slice {e:Expr} {lo hi:Option Expr} {f:EF} {fl fh:OF} (he:SE X F0 H0 e f) (hl:SO X F0 H0 lo fl) (hh:SO X F0 H0 hi fh):SE X F0 H0 (.Subscript e (.Slice lo hi none p2) pos) (eSl f fl fh):=by
 intro pins s σ F H ρ Q S I h
 obtain ⟨tl,pl,kl⟩:=hl
 obtain ⟨th,ph,kh⟩:=hh
 refine ep_end (pe_slice (p2:=p2) (pos:=pos) (SlR.or sl_list sl_tup) (pe_sem (e:=e)) pl ph pins s σ H (fun v H'=>∀ u s',RelV v u→Inv X pins σ H' s'→Q u s') I ?_)
 refine he.sem S ((KE.bind h).imp fun w h1 v F1 H1 g1 q1=>?_)
 refine kl σ F1 H1 ρ _ (S.grow g1) ((KE.bind h1).imp fun o1 h2 F2 H2 g2=>?_)
 refine kh σ F2 H2 ρ _ (S.grow (g1.trans g2)) ((KE.bind h2).imp fun o2 h3 F3 H3 g3=>?_)
 have r:=RdV.gr (g2.trans g3) (Vok.rd q1)
 have g:=g1.trans (g2.trans g3)
 have wish:=wish_end g h3
 revert wish r
 generalize w.d=d
 intro r wish
 cases d <;> first|exact wish.elim|skip
 ·rename_i ds
  obtain ⟨a,vs,rfl,hq,_,rs⟩:=RdV.tup g3.s r
  unfold dSl at wish
  dsimp only at wish
  by_cases c:HT.sIx ds.length 0 o1=0∧HT.sIx ds.length ds.length o2=ds.length
  ·rw [if_pos c] at wish; exact wish.elim
  ·rw [if_neg c] at wish
   refine .inr ⟨a,vs,rfl,hq,by rw [Reps.length rs]; exact c,fun p hp=>?_⟩
   have gn:=Gr.newF (o:=.tup (cutV vs o1 o2)) g3.s hp
   exact wish (.ref p) _ _ gn ⟨p,_,rfl,.inl (.inl upd_same),Reps.le gn.f _ (Reps.cut rs o1 o2)⟩
 ·rename_i ds
  obtain ⟨a,vs,rfl,hq,rs⟩:=RdV.lst g3.s r
  refine .inl ⟨a,vs,rfl,hq,fun p hp=>?_⟩
  exact wish (.ref p) _ _ (Gr.new g3.s hp) ⟨p,_,rfl,hp,Le.none g3.s hp,upd_same,Reps.cut rs o1 o2⟩
noncomputable def sSetI (i:Nat) (k e:EF):SF:=fun ρ=>match ρ[i]? with
 | some (some (.ow (.lst xs)))=>sOf ((e ρ).bind En.st) fun d=>sOf ((k ρ).bind fun q=>isI q.d) fun j=>match ixn xs.length (j.getD 0) with
  | some n=>.nx (ρ.set i (some (.ow (.lst (xs.set n d)))))
  | none=>.stuck
 | _=>.stuck
theorem Reps.set {κ:Kx} {F:Hp} {v:V} {d:D} (h:Rep κ F v d):∀ (n:Nat) {ds:List D} {vs:List V},Reps κ F vs ds→Reps κ F (vs.set n v) (ds.set n d)
 | _,[],_,h2=>by cases (show _=_ from h2); rfl
 | 0,_::ds,_,h2=>by
  obtain ⟨u,r,rfl,h3,h4⟩:=h2
  exact ⟨v,r,rfl,h,h4⟩
 | n+1,_::ds,_,h2=>by
  obtain ⟨u,r,rfl,h3,h4⟩:=h2
  exact ⟨u,r.set n v,rfl,h3,Reps.set h n h4⟩
theorem ss_setI (i:Nat) {x:Str} {np pos':Pos} {k e:Expr} {fk fe:EF} (hk:SE X F0 H0 k fk) (he:SE X F0 H0 e fe) (hN:X.N[i]?=some x:=by rfl) (hv:Vis X.env.scope x:=by trivial) (hd:(x == ("__debug__":Str))=false:=by decide)
  (hcd:(x == ("__classdict__":Str))=false:=by decide)
  (ha:∀ v,assign (.Subscript (.Name x np) k pos') X.env v=(do
   let ov ← holding [v] (eval (.Name x np) X.env); let iv ← holding [v,ov] (eval k X.env); standAt pos'; holding [v,ov,iv] (setItem ov iv v); release [v,ov,iv] []):=by intro _; rfl)
  (hs:swapsWithSole [.Subscript (.Name x np) k pos'] e pos.line X.env=pure false:=by rfl) (hw:swappedStores [.Subscript (.Name x np) k pos'] e X.env=pure none:=by rfl)
  (h1:(assignEach [.Subscript (.Name x np) k pos'] X.env).map (·.2)=[assign (.Subscript (.Name x np) k pos') X.env]:=by rfl) :
  SS X F0 H0 (.Assign [.Subscript (.Name x np) k pos'] e pos) (sSetI i fk fe):=by
 intro pins s σ F H ρ D S I h
 unfold sSetI at h
 cases ew:ρ[i]? with
 | none=>rw [ew] at h; exact h.elim
 | some w =>
  rw [ew] at h
  cases w with
  | none=>exact h.elim
  | some w =>
   cases w with
   | fz d=>exact h.elim
   | br d=>exact h.elim
   | lk d=>exact h.elim
   | od d=>exact h.elim
   | ow d =>
    cases d <;> first|exact h.elim|skip
    rename_i ds
    have h:=KE.bind (PostS.of h)
    obtain ⟨v,e1,a,o,rfl,h0,hf,hh,ro⟩:=S.val i _ ew
    cases o <;> first|exact ro.elim|skip
    rename_i vs
    refine ps_asg (pos:=pos) (pe_sem (e:=e)) (pg_sub (pos:=pos') (pe_var (pos:=np) hN hv hd hcd) (pe_sem (e:=k)) set_list ha) hs hw h1 pins s σ H D I (he.sem S (h.imp fun w k1 y F1 H1 g1 q1=>?_))
    cases es:w.st with
    | exc x=>rw [es] at k1; exact k1.elim
    | stuck=>rw [es] at k1; exact k1.elim
    | ok d =>
     rw [es] at k1
     have ry:=Vok.st S.s g1 q1 es
     obtain ⟨g2,_⟩:=fzAll_gr S.s g1
     have S2:=S.grow g2
     refine ⟨_,e1,hk.sem S2 ((KE.bind (PostS.of (show PostS X F0 H0 F D _ from k1))).imp fun wk k2 y2 F3 H3 g3 q3=>?_)⟩
     have r:=Vok.rd q3
     revert k2 r
     generalize wk.d=dk
     intro k2 r
     cases dk <;> first|exact k2.elim|skip
     rename_i j
     have k2:PostS X F0 H0 F D (match ixn ds.length j with|some n=>.nx (ρ.set i (some (.ow (.lst (ds.set n d)))))|none=>.stuck):=k2
     cases ej:ixn ds.length j with
     | none=>rw [ej] at k2; exact k2.elim
     | some n =>
      rw [ej] at k2
      refine ⟨a,vs,j,n,rfl,RdV.int r,g3.h _ _ (g1.h _ _ hh),by rw [Reps.length ro]; exact ej,?_⟩
      refine k2 σ _ _ (Le.trans g2.f g3.f) ((S2.grow g3).mut ew e1 (o:=.lst (vs.set n y)) ?_)
      exact Reps.set (Rep.le g3.f _ ry) n (Reps.le (Le.trans g2.f g3.f) _ ro)
noncomputable def dAddA:D→D→R En
 | .int i,.int j=>okI (i+j)
 | .lst xs,.lst ys=>if xs.length+ys.length ≤ sz then .ok (.ow (.lst (xs++ys))) else .stuck
 | .tup xs,.tup ys=>if xs.length+ys.length ≤ sz∧xs≠[]∧ys≠[] then .ok (.fz (.tup (xs++ys))) else .stuck
 | _,_=>.stuck
theorem od_addA:OpD X (binaryOp .Add) dAddA:=by
 intro pins s σ F H x y v u dx dy Q I l rx ry qx qy w
 cases dx <;> first|exact w.elim|skip
 ·cases dy <;> first|exact w.elim|skip
  exact od_addI pins s σ F H x y v u _ _ Q I l rx ry qx qy w
 ·rename_i xs
  cases dy <;> first|exact w.elim|skip
  rename_i ys
  unfold dAddA at w
  dsimp only at w
  by_cases c:xs.length+ys.length ≤ sz∧xs≠[]∧ys≠[]
  ·rw [if_pos c] at w
   obtain ⟨a,vs,rfl,hq,_,rs⟩:=RdV.tup l qx
   obtain ⟨b,us,rfl,hq2,_,rs2⟩:=RdV.tup l qy
   have n1:vs≠[]:=fun z=>by subst z; have:=Reps.length rs; simp at this; exact c.2.1 (List.length_eq_zero_iff.mp this.symm)
   have n2:us≠[]:=fun z=>by subst z; have:=Reps.length rs2; simp at this; exact c.2.2 (List.length_eq_zero_iff.mp this.symm)
   refine op_catT pins s σ H _ _ v u Q I rx ry ⟨a,b,vs,us,rfl,rfl,hq,hq2,n1,by rw [Reps.length rs,Reps.length rs2,← sz_eq]; exact c.1,fun z=>absurd z n2,fun _ p hp=>?_⟩
   have gn:=Gr.newF (o:=.tup (vs++us)) l hp
   exact w (.ref p) _ _ gn ⟨p,_,rfl,.inl (.inl upd_same),Reps.le gn.f _ (Reps.append rs rs2)⟩
  ·rw [if_neg c] at w; exact w.elim
 ·rename_i xs
  cases dy <;> first|exact w.elim|skip
  rename_i ys
  unfold dAddA at w
  dsimp only at w
  by_cases c:xs.length+ys.length ≤ sz
  ·rw [if_pos c] at w
   obtain ⟨a,vs,rfl,hq,rs⟩:=RdV.lst l qx
   obtain ⟨b,us,rfl,hq2,rs2⟩:=RdV.lst l qy
   cases (show v=Value.ref a from rx)
   cases (show u=Value.ref b from ry)
   obtain ⟨its,rv,pl,hz⟩:=I.list hq
   obtain ⟨its2,rv2,pl2,hz2⟩:=I.list hq2
   obtain ⟨⟨cls,dd,data,sl⟩,ho,hc,n,hd⟩:=pl.isList
   obtain ⟨⟨cls2,dd2,data2,sl2⟩,ho2,hc2,n2,hd2⟩:=pl2.isList
   simp only at hc hd hc2 hd2
   subst hc hd hc2 hd2
   have hl:its.length+its2.length ≤ sizeLine:=by rw [← rv.length,← rv2.length,Reps.length rs,Reps.length rs2,← sz_eq]; exact c
   refine concat_meets ⟨_,ho,rfl⟩ ⟨_,ho2,rfl⟩ noFill_list_add seq_list_add PySem.F.slot_list_add PySem.F.entry_list_add (PySem.F.args_list_add_2 _ _) (list_addW a b its.toArray its2.toArray n n2 dd dd2 sl sl2 (by simpa using hl)) ⟨ho,ho2,?_⟩
   have ea:its.toArray++its2.toArray=(its++its2).toArray:=by simp
   rw [ea]
   have hp:H s.heap.objs.size=none:=I.hok.fresh (Nat.le_refl _)
   refine ⟨.ref s.heap.objs.size,upd H s.heap.objs.size (.lst (vs++us)),I.laid (t':=s.toks) (fun b o q=>Heap.get?_push_of_some _ q) (Nat.le_refl _) ⟨?_,its++its2,0,rv.append rv2,Heap.get?_push_size _ rfl⟩,rfl,?_⟩
   ·rw [List.length_append,rv.length,rv2.length]; exact hl
   ·exact w _ _ _ (Gr.new l hp) ⟨_,_,rfl,hp,Le.none l hp,upd_same,Reps.append rs rs2⟩
  ·rw [if_neg c] at w; exact w.elim
end
end L3
namespace L3
open PySem PySem.Spec PyProof.Rows L2
section
variable {prog:Program} {w:World} {A:Around} {E:Value→Shared→Prop} {s:Shared}
theorem meets_len (d:Addr) (hd:(d == sysModules)=false) :
  MeetsIn prog w (Builtin.«dict.__len__» ⟨[.ref d],[]⟩) (fun _ R s=>∃ o es ep,s.heap.get? d=some o∧o.data=.dict es ep∧R (.ok (.ret (.int es.size s.toks))) { s with toks:=s.toks+1 }) :=
 .of_wp fun A R s ⟨o,es,ep,ho,hdat,h⟩=>by
  refine wpAny_bind (m:=dictSize d) (wpAny_bind (wpAny_dictEntries ho hdat (wpAny_pure ?_)))
  refine wpAny_bind (m:=Builtin.Dict.pendingCount d) (wpAny_pendingCount_other hd (wpAny_ret_mkInt ?_))
  rw [Nat.add_zero]; exact h
theorem len_any {d:Addr} {o:Obj} {es:Array DictEntry} {ep:Nat} {Q:Value→Shared→Prop} (hd:(d == sysModules)=false) (ho:s.heap.get? d=some o) (hx:o.ExactDict) (hdat:o.data=.dict es ep) (hz:es.size ≤ sizeLine)
  (h:Q (.int es.size (s.toks+1)) { s with toks:=s.toks+1+1 }):wpAny (model prog w) A (call (.builtin "len") [.ref d]) Q E s:=by
 rw [sizeLine_eq] at hz
 have ty:s.TypeIs (.ref d) "dict":=⟨o,ho,hx.1⟩
 refine Calls.call_function_entry kind_len plain_len entry_len (args_len1 _) ?_
 unfold Builtin.«len»
 refine wpAny_bind (m:=oneArg "len" _) (wpAny_pure ?_)
 refine wpAny_bind (m:=callSpecial? (.ref d) (Str.ofString "__len__")) (wpAny_callSpecial?_slot (name:=Str.ofString "__len__") ty PySem.F.slot_dict_len
  (call_meetsIn PySem.F.slot_dict_len ty PySem.F.entry_dict_len (PySem.F.args_dict_len_1 _) (meets_len d hd) ⟨o,es,ep,ho,hdat,?_⟩))
 refine wpAny_bind (wpAny_holding (wpAny_pure (wpAny_bind (wpAny_letGo ?_))))
 have c1:¬ ((es.size:Nat):Int) < 0:=by (first|lia|omega)
 have c2:¬ ((es.size:Nat):Int) ≥ 2 ^ 63:=by (first|lia|omega)
 show wpAny _ _ (if ((es.size:Nat):Int) < 0 then _ else _) _ _ _
 rw [if_neg c1]
 show wpAny _ _ (if ((es.size:Nat):Int) ≥ 2 ^ 63 then _ else _) _ _ _
 rw [if_neg c2]
 exact wpAny_bind (wpAny_mkInt (wpAny_pure ⟨_,rfl,h⟩))
end
noncomputable def dLenA:List D→R En
 | [.lst xs]=>okI xs.length
 | [.tup xs]=>okI xs.length
 | [.dK kvs]=>if kvs.length ≤ sz then okI kvs.length else .stuck
 | [.dT kvs]=>okI kvs.length
 | _=>.stuck
theorem RepT.length {κ:Kx} {F:Hp}:∀ {kds:List (List (Sum Int Str)×D)} {kvs:List (List Key×V)},RepT κ F kvs kds→kvs.length=kds.length
 | [],_,h=>by cases (show _=_ from h); rfl
 | (q,d)::r,_,h=>by
  obtain ⟨v,kr,rfl,h1,h2⟩:=h
  simp [RepT.length h2]
theorem RdV.dT {κ:Kx} {F H:Hp} {v:V} {ds:List (List (Sum Int Str)×D)} (s:Le F H) (h:RdV κ F H v (.dT ds)):∃ a kvs,v=.ref a∧Rd H a (.dT kvs)∧RepT κ F kvs ds:=by
 rcases h with ⟨a,vs,e,q,r⟩|⟨a,o,e,e2,r⟩
 ·exact ⟨a,vs,e,Rd.le s q,r⟩
 ·cases o with
  | dT vs=>exact ⟨a,vs,e,.inl e2,r⟩
  | _=>exact r.elim
section
variable {X:Cx} {F0 H0:Hp}
theorem cd_lenA:CallD X (.builtin "len") dLenA:=by
 intro pins s σ F H xs us ds Q I l rx qx w
 cases qx with
 | nil=>exact w.elim
 | @cons x d xs ds q1 q2 =>
  cases q2 with
  | cons _ _=>cases d <;> exact w.elim
  | nil =>
   cases d <;> first|exact w.elim|skip
   ·exact cd_len pins s σ F H _ _ [.tup _] Q I l rx (.cons q1 .nil) w
   ·exact cd_len pins s σ F H _ _ [.lst _] Q I l rx (.cons q1 .nil) w
   ·rename_i kds
    obtain ⟨p,kvs,rfl,hq,rk⟩:=RdV.dK l q1
    cases rx with
    | cons r1 r2 =>
     cases r2
     cases r1
     obtain ⟨hd,vs,rel,o,es,ep,ho,hx,hdat,hk,hp,hn⟩:=Inv.dictK I hq
     have e1:es.size=kds.length:=by
      have a1:es.toList.length=vs.length:=hp.length
      have a2:=rel.length
      have a3:=RepK.length rk
      simp at a1
      (first|lia|omega)
     unfold dLenA at w
     dsimp only at w
     by_cases c:kds.length ≤ sz
     ·rw [if_pos c] at w
      refine len_any hd ho hx hdat (by rw [e1,← sz_eq]; exact c) ?_
      rw [e1]
      exact ⟨.int _,H,I.tok _,⟨_,rfl⟩,wish_fz (X:=X) l (v:=.int _) w rfl⟩
     ·rw [if_neg c] at w; exact w.elim
   ·rename_i kds
    obtain ⟨p,kvs,rfl,hq,rk⟩:=RdV.dT l q1
    cases rx with
    | cons r1 r2 =>
     cases r2
     cases r1
     obtain ⟨hz,hd,zs,rel,o,es,ep,ho,hx,hdat,h4,h5⟩:=hq.ok I.hok
     have e1:es.size=kvs.length:=by
      have a1:es.toList.length=zs.length:=by rw [h4,List.length_map]
      have a2:=rel.length
      simp at a1
      (first|lia|omega)
     refine len_any hd ho hx hdat (by (first|lia|omega)) ?_
     rw [e1,RepT.length rk]
     exact ⟨.int _,H,I.tok _,⟨_,rfl⟩,wish_fz (X:=X) l (v:=.int _) w rfl⟩
theorem repT_keys {κ:Kx} {F:Hp}:∀ {kds:List (List (Sum Int Str)×D)} {kvs:List (List Key×V)},RepT κ F kvs kds→kvs.map (·.1)=kds.map (·.1)
 | [],_,h=>by cases (show _=_ from h); rfl
 | (k,d)::r,_,h=>by
  obtain ⟨v,kr,rfl,h1,h2⟩:=h
  simp [repT_keys h2]
theorem repT_append {κ:Kx} {F:Hp}:∀ {kds es:List (List (Sum Int Str)×D)} {kvs us:List (List Key×V)},RepT κ F kvs kds→RepT κ F us es→RepT κ F (kvs++us) (kds++es)
 | [],_,_,_,h,k=>by cases (show _=_ from h); exact k
 | (q,d)::r,_,_,_,h,k=>by
  obtain ⟨v,kr,rfl,h1,h2⟩:=h
  exact ⟨v,kr++_,rfl,h1,repT_append h2 k⟩
theorem repT_map {κ:Kx} {F:Hp} {k:List Key} {v:V} {d:D} (hv:Rep κ F v d):∀ {kds:List (List (Sum Int Str)×D)} {kvs:List (List Key×V)},RepT κ F kvs kds →
  RepT κ F (kvs.map (fun kv=>if kv.1=k then (kv.1,v) else kv)) (kds.map (fun kv=>if kv.1=k then (kv.1,d) else kv))
 | [],_,h=>by cases (show _=_ from h); rfl
 | (q,e)::r,_,h=>by
  obtain ⟨u,kr,rfl,h1,h2⟩:=h
  have hr:=repT_map (k:=k) hv h2
  by_cases c:q=k
  ·simp only [List.map_cons,if_pos c]
   exact ⟨v,_,rfl,hv,hr⟩
  ·simp only [List.map_cons,if_neg c]
   exact ⟨u,_,rfl,h1,hr⟩
theorem putM_repT {κ:Kx} {F:Hp} {k:List Key} {v:V} {d:D} (hv:Rep κ F v d) {kds:List (List (Sum Int Str)×D)} {kvs:List (List Key×V)} (h:RepT κ F kvs kds):RepT κ F (putK kvs k v) (putM k d kds):=by
 have e:=repT_keys h
 have a:∀ {α:Type} (l:List (List Key×α)),(l.any fun kv=>decide (kv.1=k))=(l.map (·.1)).any fun q=>decide (q=k):=fun l=>by rw [List.any_map]; rfl
 unfold putK putM
 rw [a,a,e]
 by_cases c:((kds.map (·.1)).any fun q=>decide (q=k))=true
 ·rw [if_pos c,if_pos c]; exact repT_map hv h
 ·rw [if_neg c,if_neg c]; exact repT_append h ⟨v,[],rfl,hv,rfl⟩
theorem keys_ok {κ:Kx} {H F' H':Hp}:∀ {ws:List En} {vs:List V} {q:List Key},Voks κ H F' H' vs ws→keysOf (ws.map En.d)=some q→vs=q.map kV
 | [],vs,q,h,e=>by cases e; exact h
 | w::ws,vs,q,h,e=>by
  obtain ⟨v,r,rfl,h1,h2⟩:=h
  rw [List.map_cons] at e
  unfold keysOf at e
  cases e1:keyOf w.d with
  | none=>rw [e1] at e; cases e
  | some k =>
   cases e2:keysOf (ws.map En.d) with
   | none=>rw [e1,e2] at e; cases e
   | some ks =>
    rw [e1,e2] at e
    cases e
    have r1:=Vok.rd h1
    have ev:v=kV k:=by
     cases ed:w.d with
     | int j=>rw [ed] at e1 r1; cases e1; exact RdV.int r1
     | str j=>rw [ed] at e1 r1; cases e1; exact RdV.str r1
     | _=>rw [ed] at e1; cases e1
    rw [ev,keys_ok h2 e2]
    rfl
theorem tup_sem {es:List Expr} {fs:List EF} {k:Nat} {tp:Pos} (ha:SA X F0 H0 es fs) {σ:St} {F H:Hp} {ρ:Rho} {Q:VK} (S:StOk (kx X) F0 H0 F H ρ σ)
  (h:KE (XP X F0 H0) (evs fs ρ) fun ws=>∀ vs F' H' p,Gr F H F' H'→Voks (kx X) H F' H' vs ws→H' p=none→vs.length ≤ sizeLine∧Q (.ref p) (upd H' p (.tup vs))):tSem X (.Tuple es k tp) σ H Q:=by
 intro pins s I
 refine wpAny_Tuple_spliced (ha tp pins s σ F H ρ _ S I (h.imp fun ws k1 vs us F1 H1 s1 g1 q1 r1 I1=>?_))
 have hf:H1 s1.heap.objs.size=none:=I1.hok.fresh (Nat.le_refl _)
 obtain ⟨z,q⟩:=k1 vs F1 H1 s1.heap.objs.size g1 q1 hf
 refine ⟨by rw [← r1.length]; exact z,?_⟩
 refine ⟨.ref s1.heap.objs.size,upd H1 s1.heap.objs.size (.tup vs),I1.laid (t':=s1.toks) (fun b u e=>Heap.get?_push_of_some _ e) (Nat.le_refl _) ?_,rfl,q⟩
 exact ⟨z,us,r1,⟨_,Heap.get?_push_size _ rfl,rfl,_,rfl⟩⟩
noncomputable def sPutT (i:Nat) (k:List EF) (e:EF):SF:=fun ρ=>match ρ[i]? with
 | some (some (.ow (.dT kvs)))=>sOf ((e ρ).bind En.st) fun d=>sOf (evs k ρ) fun ws=>match keysOf (ws.map En.d) with
  | some key=>if kvs.length < sz∧key.length ≤ sz then .nx (ρ.set i (some (.ow (.dT (putM key d kvs))))) else .stuck
  | none=>.stuck
 | _=>.stuck
theorem ss_putT (i:Nat) {x:Str} {np tp pos pos':Pos} {ks:List Expr} {e:Expr} {n:Nat} {fk:List EF} {fe:EF} (hu:X.A.units+10 < cLine) (hk:SA X F0 H0 ks fk) (he:SE X F0 H0 e fe) (hN:X.N[i]?=some x:=by rfl) (hv:Vis X.env.scope x:=by trivial) (hd:(x == ("__debug__":Str))=false:=by decide)
  (hcd:(x == ("__classdict__":Str))=false:=by decide) (hs:swapsWith e (some (.Subscript (.Name x np) (.Tuple ks n tp) pos')) pos.line X.env=pure false:=by rfl) :
  SS X F0 H0 (.Assign [.Subscript (.Name x np) (.Tuple ks n tp) pos'] e pos) (sPutT i fk fe):=by
 intro pins s σ F H ρ D S I h
 unfold sPutT at h
 cases ew:ρ[i]? with
 | none=>rw [ew] at h; exact h.elim
 | some w =>
  rw [ew] at h
  cases w with
  | none=>exact h.elim
  | some w =>
   cases w with
   | fz d=>exact h.elim
   | br d=>exact h.elim
   | lk d=>exact h.elim
   | od d=>exact h.elim
   | ow d =>
    cases d <;> first|exact h.elim|skip
    rename_i kds
    have h:=KE.bind (PostS.of h)
    obtain ⟨v,e1,a,o,rfl,h0,hf,hh,ro⟩:=S.val i _ ew
    cases o <;> first|exact ro.elim|skip
    rename_i kvs
    refine ps_dput (pos:=pos) (pos':=pos') (by (first|lia|omega)) (pe_var (pos:=np) hN hv hd hcd) (pe_sem (e:=.Tuple ks n tp)) (pe_sem (e:=e)) hs pins s σ H D I (he.sem S (h.imp fun w k1 y F1 H1 g1 q1=>?_))
    cases es:w.st with
    | exc x=>rw [es] at k1; exact k1.elim
    | stuck=>rw [es] at k1; exact k1.elim
    | ok d =>
     rw [es] at k1
     have ry:=Vok.st S.s g1 q1 es
     obtain ⟨g2,_⟩:=fzAll_gr S.s g1
     have S2:=S.grow g2
     refine ⟨_,e1,tup_sem hk S2 ((PostS.of (show PostS X F0 H0 F D _ from k1)).imp fun ws k2 vs F3 H3 p g3 q3 hp=>?_)⟩
     cases ek:keysOf (ws.map En.d) with
     | none=>rw [ek] at k2; exact k2.elim
     | some key =>
      rw [ek] at k2
      have ev:=keys_ok q3 ek
      subst ev
      have lv:kvs.length=kds.length:=RepT.length ro
      by_cases c:kds.length < sz∧key.length ≤ sz
      ·have k3:PostS X F0 H0 F D (.nx (ρ.set i (some (.ow (.dT (putM key d kds)))))):=by simpa [if_pos c,KE] using k2
       refine ⟨by rw [List.length_map,← sz_eq]; exact c.2,a,_,rfl,DPut.t (e:=?_) upd_same (by rw [lv,← sz_eq]; exact c.1),?_⟩
       ·rw [upd_ne (ne_of_none (g3.h _ _ (g1.h _ _ hh)) hp)]; exact g3.h _ _ (g1.h _ _ hh)
       ·have g4:=Gr.new (o:=.tup (key.map kV)) g3.s hp
        refine k3 σ _ _ (Le.trans g2.f (Le.trans g3.f g4.f)) (((S2.grow g3).grow g4).mut ew e1 (o:=.dT (putK kvs key y)) ?_)
        exact putM_repT (Rep.le g3.f _ ry) (RepT.le (Le.trans g2.f g3.f) _ ro)
      ·have:False:=by simpa [if_neg c,PostS,KE] using k2
       exact this.elim
end
end L3
namespace L3
open PySem PySem.Spec PyProof.Rows L2
noncomputable def chE (g:D→D→R En) (y:D) (c:EF):EF:=fun ρ=>(c ρ).bind fun z=>g y z.d
section
variable {ρ:Rho} {d:D} {e f:EF} {i:Nat} {a b c:EF}
theorem x_addA {i j:Int}:dAddA (.int i) (.int j)=.ok (.fz (.int (i+j))):=rfl
theorem x_lenA_l {xs:List D}:dLenA [.lst xs]=.ok (.fz (.int xs.length)):=rfl
theorem x_lenA_t {xs:List D}:dLenA [.tup xs]=.ok (.fz (.int xs.length)):=rfl
theorem x_lenA_dT {xs:List (List (Sum Int Str)×D)}:dLenA [.dT xs]=.ok (.fz (.int xs.length)):=rfl
theorem x_sl {lo hi:OF}:eSl a lo hi ρ=(a ρ).b fun x=>(lo ρ).b fun l=>(hi ρ).b fun u=>dSl x.dd l u:=rfl
theorem x_oNo:oNo ρ=.ok none:=rfl
theorem x_oE:oE e ρ=(e ρ).b fun w=>isI w.dd:=rfl
theorem x_isI {j:Int}:isI (.int j)=.ok (some j):=rfl
theorem x_sl_l {xs:List D} {lo hi:Option Int}:dSl (.lst xs) lo hi=.ok (.ow (.lst (cutD xs lo hi))):=rfl
theorem x_sl_t32 {x y z:D}:dSl (.tup [x,y,z]) none (some 2)=.ok (.fz (.tup [x,y])):=rfl
theorem x_chain {g g':D→D→R En}:eChain g g' a b c ρ=(a ρ).b fun x=>(b ρ).b fun y=>(g x.dd y.dd).b fun r=>(isB r.dd).b (pickE (chE g' y.dd c) kF ρ):=rfl
theorem x_chE {g:D→D→R En}:chE g d c ρ=(c ρ).b fun z=>g d z.dd:=rfl
theorem x_setI {xs:List D} {k:EF} {w:En} {j:Int} {n:Nat} (h:ρ[i]?=some (some (.ow (.lst xs)))) (h2:(e ρ).b En.sto=.ok d) (h3:k ρ=.ok w) (h4:w.d=.int j) (h5:ixn xs.length j=some n) :
  sSetI i k e ρ=.nx (ρ.set i (some (.ow (.lst (xs.set n d))))):=by
 have h2:(e ρ).bind En.st=.ok d:=h2
 unfold sSetI
 rw [h]; dsimp only; rw [h2]; unfold sOf; dsimp only; rw [h3,R.bind_ok,h4]
 show (match ixn xs.length j with|some n=>_|none=>_)=_
 rw [h5]
theorem x_putT {kvs:List (List (Sum Int Str)×D)} {k:List EF} {ws:List En} {key:List (Sum Int Str)} (h:ρ[i]?=some (some (.ow (.dT kvs)))) (h2:(e ρ).b En.sto=.ok d) (h3:evs k ρ=.ok ws) (h4:keysOf (ws.map En.d)=some key)
  (hl:kvs.length < sz) (hl2:key.length ≤ sz):sPutT i k e ρ=.nx (ρ.set i (some (.ow (.dT (putM key d kvs))))):=by
 have h2:(e ρ).bind En.st=.ok d:=h2
 unfold sPutT
 rw [h]; dsimp only; rw [h2]; unfold sOf; dsimp only; rw [h3]; dsimp only; rw [h4]; dsimp only; rw [if_pos ⟨hl,hl2⟩]
theorem ixn_last {n:Nat} (h:0 < n):ixn n (-1)=some (n - 1):=by
 unfold ixn
 rw [if_neg (by decide),if_pos (by (first|lia|omega))]
 congr 1
 (first|lia|omega)
theorem set_last {α:Type} {xs:List α} {d:α} (h:xs≠[]):xs.set (xs.length - 1) d=xs.dropLast++[d]:=by
 obtain ⟨ys,y,rfl⟩:∃ ys y,xs=ys++[y]:=⟨xs.dropLast,xs.getLast h,(List.dropLast_concat_getLast h).symm⟩
 simp
theorem cutD_mid {α:Type} (xs:List α) (a m:Nat):cutD xs (some (a:Int)) (some ((a:Int)+(m:Int)))=(xs.drop a).take m:=by
 unfold cutD
 rw [HT.sIx_nat,show (a:Int)+(m:Int)=((a+m:Nat):Int) by (first|lia|omega),HT.sIx_nat]
 by_cases h:a ≤ xs.length
 ·rw [show min a xs.length=a by (first|lia|omega)]
  apply List.ext_getElem?
  intro i
  rw [List.getElem?_take,List.getElem?_take,List.getElem?_drop]
  by_cases c1:i < m
  ·rw [if_pos c1]
   by_cases c2:i < min (a+m) xs.length - a
   ·rw [if_pos c2]
   ·rw [if_neg c2,List.getElem?_eq_none (by (first|lia|omega))]
  ·rw [if_neg c1,if_neg (by (first|lia|omega))]
 ·rw [List.drop_eq_nil_of_le (by (first|lia|omega):xs.length ≤ min a xs.length),List.drop_eq_nil_of_le (by (first|lia|omega))]
  simp
theorem x_iSeq {w:En} {ds:List D} (h:e ρ=.ok w) (h2:w.st=.ok (.lst ds)):iSeq e ρ=.ok ds:=by unfold iSeq; rw [h,R.bind_ok,h2,R.bind_ok]; rfl
theorem x_addT {xs ys:List D} (h:xs.length+ys.length ≤ sz) (h1:xs≠[]) (h2:ys≠[]):dAddA (.tup xs) (.tup ys)=.ok (.fz (.tup (xs++ys))):=by
 unfold dAddA; dsimp only; rw [if_pos ⟨h,h1,h2⟩]
theorem x_addL {xs ys:List D} (h:xs.length+ys.length ≤ sz):dAddA (.lst xs) (.lst ys)=.ok (.ow (.lst (xs++ys))):=by
 unfold dAddA; dsimp only; rw [if_pos h]
theorem eq_pair {a b c d:Int}:dEq (.tup [.int a,.int b]) (.tup [.int c,.int d])=.ok (.fz (.bl (a == c && b == d))):=by
 show okB (deq _ _)=_
 simp [deq,deqs]
theorem ne_pair {a b c d:Int}:dNe (.tup [.int a,.int b]) (.tup [.int c,.int d])=.ok (.fz (.bl (!(a == c && b == d)))):=by
 show okB (!deq _ _)=_
 simp [deq,deqs]
theorem rowsOf_map:∀ rs:List (List Int),rowsOf (rs.map rowD)=some rs
 | []=>rfl
 | r::rs=>by
  show (match intsOf (r.map .int),rowsOf (rs.map rowD) with|some a,some b=>some (a::b)|_,_=>none)=_
  have e:∀ ns:List Int,intsOf (ns.map D.int)=some ns:=by
   intro ns
   induction ns with
   | nil=>rfl
   | cons n ns ih =>
    show (match intsOf (ns.map D.int) with|some l=>some (n::l)|none=>none)=_
    rw [ih]
  rw [e,rowsOf_map rs]
theorem x_sorted {rs:List (List Int)} (h1:rs.Nodup) (h2:rs.length < 64) (h3:[] ∉ rs):dSorted [.lst (rs.map rowD)]=.ok (.ow (.lst ((sortR rs).map rowD))):=by
 unfold dSorted
 dsimp only
 rw [rowsOf_map]
 dsimp only
 rw [if_pos ⟨h1,h2,h3⟩]
end
end L3
namespace L3
open PySem PySem.Spec PyProof.Rows L2
section
variable {prog:Program} {w:World} {A:Around} {R:Result→Shared→Prop} {it:Addr} {fp wr:List Addr} {n:Nat} {P:Nat→Value→Prop} {St:Nat→Heap→Prop}
noncomputable def bestL:Option Value→Array Value
 | none=>#[]
 | some v=>#[v,v]
theorem max_go (W:Walks prog w A.in1 it fp wr n P St) (bt:Nat→Nat→Bool) (cmp:CmpOf prog w A.in1 .Gt P bt) (p:Addr) (np:p ∉ fp) (dv:Value) :
  ∀ (k j:Nat) (s:Shared) (ob:Option Value) (c:Nat),n - j=k→j ≤ n→St j s.heap→(match ob with|none=>j=0|some v=>0 < j∧P (argBest bt (j - 1)) v) →
  s.heap.get? p=some { cls:=.type "list",dict:=none,data:=.seq (bestL ob) c,slots:=#[] } →
  (∀ v h' tk,(n=0∧v=dv∨0 < n∧P (argBest bt (n - 1)) v)→(∀ b o,b ∉ wr→b≠p→s.heap.get? b=some o→h'.get? b=some o)→R (.ok (.ret v)) { s with heap:=h',toks:=tk }) →
  codeAny (model prog w) A (.builtin "max.loop" ⟨[.ref it,.none,.ref p],[(Str.ofString "default",dv)]⟩) R s:=by
 have pw:p ∉ wr:=fun z=>np (W.sub _ z)
 have nm:(toString "max"++toString ".loop":String)="max.loop":=by decide
 intro k
 induction k with
 | zero =>
  intro j s ob c hk hj st hb hp hR
  have e:j=n:=by (first|lia|omega)
  subst e
  refine codeAny_builtin PySem.F.entry_max_loop ?_
  rw [Around.under_plainId PySem.F.plain_max_loop _]
  refine wpAny_bind (m:=seqItems? (.ref p)) (wpAny_seqItems hp rfl ?_)
  refine wpAny_bind (wpAny_tryCatch (W.done s _ _ st fun h' tk kp=>?_))
  have hp':=kp p _ pw hp
  cases ob with
  | none =>
   refine wpAny_bind (wpAny_rule (wpAny_pure (hR dv _ tk (.inl ⟨hb,rfl⟩) fun b o hbw _ e=>kp b o hbw e)))
  | some v =>
   refine wpAny_bind (m:=updateSeq p fun _=>#[]) (wpAny_updateSeq hp' rfl (wpAny_bind (wpAny_letGo (wpAny_pure ?_))) (by show 2 ≤ sizeLine; decide) (by simp))
   exact hR v _ tk (.inr ⟨hb.1,hb.2⟩) fun b o hbw hbp e=>(Heap.get?_update_other _ _ (Ne.symm hbp)).trans (kp b o hbw e)
 | succ k ih =>
  intro j s ob c hk hj st hb hp hR
  have lt:j < n:=by (first|lia|omega)
  refine codeAny_builtin PySem.F.entry_max_loop ?_
  rw [Around.under_plainId PySem.F.plain_max_loop _]
  refine wpAny_bind (m:=seqItems? (.ref p)) (wpAny_seqItems hp rfl ?_)
  refine wpAny_bind (wpAny_tryCatch (W.item j s _ _ lt st fun v h' tk hP st' kp=>?_))
  have hp':=kp p _ pw hp
  have frame:∀ (h'':Heap),(∀ b o,b≠p→h'.get? b=some o→h''.get? b=some o)→St (j+1) h'':=fun h'' q=>W.frame _ _ _ st' fun b hbf o e=>q b o (fun z=>np (by rw [← z]; exact hbf)) e
  cases ob with
  | none =>
   have e:j=0:=hb
   subst e
   refine wpAny_bind (m:=updateSeq p fun _=>#[v,v]) (wpAny_updateSeq hp' rfl ?_ (by show 0 ≤ sizeLine; decide) (by show 2 ≤ sizeLine+1; decide))
   rw [nm]
   refine wpAny_pure ⟨plainId_quiet PySem.F.plain_max_loop _,ih 1 _ (some v) _ (by (first|lia|omega)) lt (frame _ fun b o hbp e=>(Heap.get?_update_other _ _ (Ne.symm hbp)).trans e) ⟨by decide,hP⟩ (Heap.get?_update_self _ hp' rfl) fun v' h2 tk2 q kp2=>?_⟩
   exact hR v' h2 tk2 q fun b o hbw hbp e=>kp2 b o hbw hbp ((Heap.get?_update_other _ _ (Ne.symm hbp)).trans (kp b o hbw e))
  | some vb =>
   obtain ⟨j0,hPb⟩:=hb
   refine wpAny_bind (wpAny_pure (wpAny_bind (wpAny_tryCatch (wpAny_holding (wpAny_bind (cmp j (argBest bt (j - 1)) v vb _ _ _ hP hPb (wpAny_bind (wpAny_holding (wpAny_truthy_bool (wpAny_bind (wpAny_letGo (wpAny_pure ?_))))))))))))
   have ea:argBest bt j=if bt j (argBest bt (j - 1)) then j else argBest bt (j - 1):=by
    obtain ⟨i,rfl⟩:∃ i,j=i+1:=⟨j - 1,by (first|lia|omega)⟩
    rfl
   by_cases cb:bt j (argBest bt (j - 1))=true
   ·rw [if_pos cb]
    rw [if_pos cb] at ea
    refine wpAny_bind (m:=updateSeq p fun _=>#[v,v]) (wpAny_updateSeq hp' rfl (wpAny_bind (wpAny_letGo ?_)) (by show 2 ≤ sizeLine; decide) (by show 2 ≤ sizeLine+1; decide))
    rw [nm]
    refine wpAny_pure ⟨plainId_quiet PySem.F.plain_max_loop _,ih (j+1) _ (some v) _ (by (first|lia|omega)) lt (frame _ fun b o hbp e=>(Heap.get?_update_other _ _ (Ne.symm hbp)).trans e) ⟨by (first|lia|omega),?_⟩ (Heap.get?_update_self _ hp' rfl) fun v' h2 tk2 q kp2=>?_⟩
    ·rw [Nat.add_sub_cancel,ea]; exact hP
    ·exact hR v' h2 tk2 q fun b o hbw hbp e=>kp2 b o hbw hbp ((Heap.get?_update_other _ _ (Ne.symm hbp)).trans (kp b o hbw e))
   ·rw [if_neg cb]
    rw [if_neg cb] at ea
    refine wpAny_bind (wpAny_letGo ?_)
    rw [nm]
    refine wpAny_pure ⟨plainId_quiet PySem.F.plain_max_loop _,ih (j+1) _ (some vb) c (by (first|lia|omega)) lt st' ⟨by (first|lia|omega),?_⟩ hp' fun v' h2 tk2 q kp2=>?_⟩
    ·rw [Nat.add_sub_cancel,ea]; exact hPb
    ·exact hR v' h2 tk2 q fun b o hbw hbp e=>kp2 b o hbw hbp (kp b o hbw e)
end
section
variable {prog:Program} {w:World} {A:Around} {E:Value→Shared→Prop} {s:Shared}
theorem args_maxD (a b:Value):argsOk "max" ⟨[a],[(Str.ofString "default",b)]⟩:=by unfold argsOk; kernel_rfl
theorem max_dflt {l:Addr} {xs:Array (Int×Tok)} {dv:Value} {Q:Value→Shared→Prop} (hh:A.handled=none) (hl:s.heap.IsList l (intItems xs))
  (h:∀ v h' tk,(xs.size=0∧v=dv∨0 < xs.size∧(intItems xs)[argBest (fun i j=>decide (numAt xs i > numAt xs j)) (xs.size - 1)]?=some v)→(∀ b o,s.heap.get? b=some o→h'.get? b=some o)→Q v { s with heap:=h',toks:=tk }) :
  wpAny (model prog w) A (call (.builtin "max") [.ref l] [(Str.ofString "default",dv)]) Q E s:=by
 have nm:(toString "max"++toString ".loop":String)="max.loop":=by decide
 have sz':(intItems xs).size=xs.size:=by simp [intItems]
 refine wpAny_call (codeAny_call_builtin PySem.F.plain_max PySem.F.entry_max ?_)
 have body:wpAny (model prog w) A.in1 (Builtin.«max» ⟨[.ref l],[(Str.ofString "default",dv)]⟩) (fun fin s'=>match fin with
   | .done f=>(match (Except.ok f:Result) with|.ok (.ret v)=>Q v s'|.ok _=>False|.error e=>E e s')
   | .again c'=>c'.quiet=true∧codeAny (model prog w) A c' (fun r s'=>match r with|.ok (.ret v)=>Q v s'|.ok _=>False|.error e=>E e s') s') E s:=by
  refine wpAny_bind (m:=Builtin.Builtins.bindParams "max" ["key","default"] 0 ⟨[],[(Str.ofString "default",dv)]⟩) (wpAny_of_eq (show Builtin.Builtins.bindParams "max" ["key","default"] 0 ⟨[],[(Str.ofString "default",dv)]⟩=pure [none,some dv] from rfl) ?_)
  refine wpAny_bind (wpAny_pure (wpAny_bind (iter_intList hl fun s₂ e st hfp hlI=>?_)))
  subst e
  refine wpAny_bind (wpAny_newObj_type ?_)
  rw [nm]
  have W:=Walks.list (prog:=prog) (w:=w) (A:=A.in1) hh s.heap.objs.size l hlI (intItems xs)
  refine wpAny_pure ⟨plainId_quiet PySem.F.plain_max_loop _,max_go W _ (CmpOf.ints_gt (numAt xs) fun _ _=>intItems_at) _ (fun z=>Nat.lt_irrefl _ (hfp _ z)) dv _ 0 _ none 0 rfl (Nat.zero_le _) (W.frame _ _ _ st fun b _ o e=>Heap.get?_push_of_some _ e) rfl (Heap.get?_push_size _ rfl) fun v h' tk q kp=>?_⟩
  refine h v h' tk ?_ (old_kept fun b o hb e=>kp b o hb (Nat.ne_of_lt (Heap.lt_size e)) (Heap.get?_push_of_some _ e))
  rw [sz'] at q
  exact q
 simp only [checkBuiltinCall,PySem.F.kind_max]
 have ok:=args_maxD (.ref l) dv
 unfold argsOk at ok
 revert ok
 generalize Manifest.signature? "max"=sg
 intro ok
 cases sg with
 | none=>exact wpAny_pure body
 | some sg =>
  have ok:Bind.checkArgs "max" sg ⟨[.ref l],[(Str.ofString "default",dv)]⟩=pure ():=ok
  simp only [ok]
  exact wpAny_pure body
end
noncomputable def dMaxD:D→D→R En
 | .lst ds,.int d=>(match intsOf ds with|some []=>okI d|some (i::r)=>okI (maxL i r)|none=>.stuck)
 | _,_=>.stuck
section
variable {X:Cx} {F0 H0:Hp} {pos p kp:Pos}
theorem se_maxD {e d:Expr} {fe fd:EF} (he:SE X F0 H0 e fe) (hd:SE X F0 H0 d fd) (hm:X.mg "max"=none) (hc:X.calm=true:=by rfl) (hg:Gl X "max":=by rfl)
  (h1:backTo pos (starEach [e] X.env)=(false,eval e X.env)::backTo pos (starEach [] X.env):=by rfl) (h2:(backTo pos (starEach [e] X.env)).any (·.1)=false:=by rfl)
  (h3:(backToKw pos (keywordEach [⟨some "default",d,kp⟩] X.env)).all (·.1.isSome)=true:=by rfl) (h4:(backToKw pos (keywordEach [⟨some "default",d,kp⟩] X.env)).any (·.1.isNone)=false:=by rfl)
  (h5:(backToKw pos (keywordEach [⟨some "default",d,kp⟩] X.env)).filterMap (·.1)=[Str.ofString "default"]:=by rfl)
  (hst:starEach [e] X.env=[(false,eval e X.env)]:=by rfl) :
  SE X F0 H0 (.Call (.Name "max" p) [e] [⟨some "default",d,kp⟩] pos) (eOp dMaxD fe fd):=by
 intro pins s σ F H ρ Q S I h
 refine wpAny_Call_Name_kw (ld_blt I hg hm PyProof.Rows.boot_max ?_)
 refine callWith_kw ?_ h1 h2 h3 h4
 rw [hst]
 refine Calls.spliced_cons (he pins s σ F H ρ _ S I ((KE.bind h).imp fun wx k1 v u F1 H1 s1 g1 q1 r1 I1=>Calls.spliced_nil ?_))
 refine kws_cons (hd pins s1 σ F1 H1 ρ _ (S.grow g1) I1 ((KE.bind k1).imp fun wy k2 v2 u2 F2 H2 s2 g2 q2 r2 I2=>kws_nil ?_))
 rw [h5]
 have qx:=RdV.gr g2 (Vok.rd q1)
 have qy:=Vok.rd q2
 have wish:=wish_end (g1.trans g2) k2
 revert wish qx qy
 generalize wx.d=dx
 generalize wy.d=dy
 intro qx qy wish
 cases dx <;> first|exact wish.elim|skip
 rename_i ds
 cases dy <;> first|exact wish.elim|skip
 rename_i dv
 unfold dMaxD at wish
 dsimp only at wish
 cases RdV.int qy
 obtain ⟨td,rfl⟩:=r2
 cases ei:intsOf ds with
 | none=>rw [ei] at wish; exact wish.elim
 | some ns =>
  rw [ei] at wish
  obtain ⟨a,vs,rfl,hq,rs⟩:=RdV.lst g2.s qx
  have ev:=intsOf_reps ei rs
  subst ev
  cases r1
  obtain ⟨its,rv,pl,hz⟩:=I2.list hq
  have hi:IntsAre its ns:=intsAre_of rv
  obtain ⟨ys,ey⟩:=hi.allInts.items
  have hns:ns=ys.toList.map (·.1):=by rw [← hi.numsOf,← nums_intItems,← ey]
  have hl:=pl.isList
  rw [ey] at hl
  have hsz:ys.size=ns.length:=by rw [hns]; simp
  refine ep_end (pins:=pins) (σ:=σ) (max_dflt (I2.ok.hd hc) hl fun v h' tk hv kp=>?_)
  cases ns with
  | nil =>
   rcases hv with ⟨_,rfl⟩|⟨z,_⟩
   ·exact ⟨.int dv,H2,I2.kept kp,⟨_,rfl⟩,wish_fz (X:=X) g2.s (v:=.int _) wish rfl⟩
   ·rw [hsz] at z; simp at z
  | cons i r =>
   rcases hv with ⟨z,_⟩|⟨_,hv⟩
   ·rw [hsz] at z; simp at z
   ·obtain ⟨t,rfl⟩:=intItems_at hv
    obtain ⟨b1,b2⟩:=argBest_gt (numAt ys) (ys.size - 1)
    have m1:numAt ys (argBest (fun i j=>decide (numAt ys i > numAt ys j)) (ys.size - 1))∈i::r:=by
     rw [hns,numAt_eq]; exact getD_mem (by rw [List.length_map,Array.length_toList]; simp at hsz; (first|lia|omega))
    have m2:∀ a∈i::r,a ≤ numAt ys (argBest (fun i j=>decide (numAt ys i > numAt ys j)) (ys.size - 1)):=fun a ha=>by
     rw [hns] at ha
     obtain ⟨j,hj,rfl⟩:=mem_getD ha
     rw [List.length_map,Array.length_toList] at hj
     rw [← numAt_eq]; exact b2 j (by (first|lia|omega))
    obtain ⟨k1,k2⟩:=maxL_ok r i
    have em:numAt ys (argBest (fun i j=>decide (numAt ys i > numAt ys j)) (ys.size - 1))=maxL i r:=Int.le_antisymm (k2 _ m1) (m2 _ k1)
    rw [em]
    exact ⟨.int _,H2,I2.kept kp,⟨_,rfl⟩,wish_fz (X:=X) g2.s (v:=.int _) wish rfl⟩
noncomputable def sExt (i:Nat) (e:EF):SF:=fun ρ=>match ρ[i]? with
 | some (some (.ow (.lst xs)))=>sOf (e ρ) fun w=>match w with
  | .ow (.lst ys)=>if xs.length+ys.length ≤ sz then .nx (ρ.set i (some (.ow (.lst (xs++ys))))) else .stuck
  | _=>.stuck
 | _=>.stuck
theorem ss_ext (i:Nat) {x:Str} {apos cpos np:Pos} {e:Expr} {f:EF} (he:SE X F0 H0 e f) (hN:X.N[i]?=some x:=by rfl) (hv:Vis X.env.scope x:=by trivial) (hd:(x == ("__debug__":Str))=false:=by decide)
  (hcd:(x == ("__classdict__":Str))=false:=by decide) (hbase:attributeBase (.Name x np) "extend" X.env (eval (.Name x np) X.env)=eval (.Name x np) X.env:=by rfl)
  (hfew:((backTo cpos (starEach [e] X.env)).all (fun x=>!x.1) && (backToKw cpos (keywordEach [] X.env)).all (fun x=>x.1.isSome)
   && decide ([e].length+([]:List Keyword).length+(if ([]:List Keyword).isEmpty then 0 else 1) < 30))=true:=by rfl)
  (hline:(apos.endLine == cpos.line)=true:=by rfl) (hst:starEach [e] X.env=(false,eval e X.env)::starEach [] X.env:=by rfl) (hplain:(backTo cpos (starEach [] X.env)).any (·.1)=false:=by rfl)
  (hs:swapsWith (.Call (.Attribute (.Name x np) "extend" apos) [e] [] cpos) none pos.line X.env=pure false:=by rfl) :
  SS X F0 H0 (.Expr (.Call (.Attribute (.Name x np) "extend" apos) [e] [] cpos) pos) (sExt i f):=by
 intro pins s σ F H ρ D S I h
 unfold sExt at h
 cases ew:ρ[i]? with
 | none=>rw [ew] at h; exact h.elim
 | some w =>
  rw [ew] at h
  cases w with
  | none=>exact h.elim
  | some w =>
   cases w with
   | fz d=>exact h.elim
   | br d=>exact h.elim
   | lk d=>exact h.elim
   | od d=>exact h.elim
   | ow d =>
    cases d <;> first|exact h.elim|skip
    rename_i ds
    have h:=PostS.of h
    obtain ⟨v,e1,a,o,rfl,h0,hf,hh,ro⟩:=S.val i _ ew
    cases o <;> first|exact ro.elim|skip
    rename_i vs
    have P:=ps_expr (pos:=pos) (pe_bm (X:=X) PySem.F.plainAttrs_list PySem.F.slot_list_extend PySem.F.type_list_extend mt_extend (pe_var (pos:=np) hN hv hd hcd) (pa_cons (pe_sem (e:=e)) pa_nil hst) hbase hfew hline hst hplain) hs
    refine P pins s σ H D I ⟨_,e1,.inl ⟨rfl,vs,SqL.of hh⟩,he.sem S (h.imp fun w k y F1 H1 g1 q1=>?_)⟩
    cases w with
    | fz d=>exact k.elim
    | br d=>exact k.elim
    | lk d=>exact k.elim
    | od d=>exact k.elim
    | ow d =>
     cases d <;> first|exact k.elim|skip
     rename_i es
     obtain ⟨b,o,rfl,b0,bf,bh,rb⟩:=q1
     cases o <;> first|exact rb.elim|skip
     rename_i us
     dsimp only at k
     by_cases c:ds.length+es.length ≤ sz
     ·rw [if_pos c] at k
      have hl:vs.length+us.length ≤ sizeLine:=by rw [Reps.length ro,Reps.length rb,← sz_eq]; exact c
      refine ⟨a,b,vs,us,rfl,rfl,g1.h _ _ hh,bh,hl,?_⟩
      exact k σ _ _ g1.f ((S.grow g1).mut ew e1 (o:=.lst (vs++us)) (Reps.append (Reps.le g1.f _ ro) rb))
     ·rw [if_neg c] at k; exact k.elim
noncomputable def isNon:D→Bool
 | .non=>true
 | _=>false
noncomputable def dIsN2:D→D→R En
 | .xc _ _,_=>.stuck
 | d,.non=>okB (isNon d)
 | _,_=>.stuck
noncomputable def dIsNot2:D→D→R En
 | .xc _ _,_=>.stuck
 | d,.non=>okB (!isNon d)
 | _,_=>.stuck
end
end L3
namespace L3
section
variable {ρ:Rho} {d:D} {e:EF} {i:Nat}
noncomputable def augR (o:Option (Option En)) (i:Nat) (g:D→D→R En) (e:EF) (ρ:Rho):Out:=match o with
 | some (some (.fz x))=>sOf ((e ρ).b fun y=>(g x y.dd).b En.nmo) fun w=>.nx (ρ.set i (some w))
 | _=>.stuck
theorem x_aug {g:D→D→R En}:sAug i g e ρ=augR ρ[i]? i g e ρ:=rfl
theorem x_augR {g:D→D→R En}:augR (some (some (.fz d))) i g e ρ=sOf ((e ρ).b fun y=>(g d y.dd).b En.nmo) fun w=>.nx (ρ.set i (some w)):=rfl
theorem x_ext {xs ys:List D} (h:ρ[i]?=some (some (.ow (.lst xs)))) (h2:e ρ=.ok (.ow (.lst ys))) (hl:xs.length+ys.length ≤ sz):sExt i e ρ=.nx (ρ.set i (some (.ow (.lst (xs++ys))))):=by
 unfold sExt; rw [h]; dsimp only; rw [h2]; unfold sOf; dsimp only; rw [if_pos hl]
theorem x_maxD_nil {d:Int}:dMaxD (.lst []) (.int d)=.ok (.fz (.int d)):=rfl
theorem x_maxD {i d:Int} {r:List Int}:dMaxD (.lst ((i::r).map D.int)) (.int d)=.ok (.fz (.int (maxL i r))):=by
 have e:∀ ns:List Int,intsOf (ns.map D.int)=some ns:=by
  intro ns
  induction ns with
  | nil=>rfl
  | cons n ns ih =>
   show (match intsOf (ns.map D.int) with|some l=>some (n::l)|none=>none)=_
   rw [ih]
 unfold dMaxD
 dsimp only
 rw [e]
theorem x_isN_non:dIsN2 .non .non=.ok (.fz (.bl true)):=rfl
theorem x_isN_tup {xs:List D}:dIsN2 (.tup xs) .non=.ok (.fz (.bl false)):=rfl
theorem x_isN_lst {xs:List D}:dIsN2 (.lst xs) .non=.ok (.fz (.bl false)):=rfl
theorem x_isN_int {j:Int}:dIsN2 (.int j) .non=.ok (.fz (.bl false)):=rfl
theorem x_isNot_non:dIsNot2 .non .non=.ok (.fz (.bl false)):=rfl
theorem x_isNot_tup {xs:List D}:dIsNot2 (.tup xs) .non=.ok (.fz (.bl true)):=rfl
theorem x_isNot_lst {xs:List D}:dIsNot2 (.lst xs) .non=.ok (.fz (.bl true)):=rfl
theorem x_isNot_int {j:Int}:dIsNot2 (.int j) .non=.ok (.fz (.bl true)):=rfl
end
end L3
namespace L3
open PySem
noncomputable def frzR (o:Option (Option En)) (i:Nat) (ρ:Rho):Rho:=match o with
 | some (some (.ow d))=>ρ.set i (some (.fz d))
 | _=>ρ
section
variable {i:Nat} {ρ:Rho} {a:SF} {d:D}
theorem x_frzS:sFrz i a ρ=a (frzR ρ[i]? i ρ):=by unfold sFrz frz frzR; rfl
theorem x_frzR_ow:frzR (some (some (.ow d))) i ρ=ρ.set i (some (.fz d)):=rfl
theorem x_frzR_fz:frzR (some (some (.fz d))) i ρ=ρ:=rfl
theorem x_frzR_br:frzR (some (some (.br d))) i ρ=ρ:=rfl
theorem x_frzR_lk:frzR (some (some (.lk d))) i ρ=ρ:=rfl
theorem x_frzR_no:frzR (some none) i ρ=ρ:=rfl
end
noncomputable def EV0:= And.intro @x_den
 (And.intro @x_fin_rt
 (And.intro @x_fin_nx
 (And.intro @List.map_cons.{0,0}
 (And.intro @List.map_nil.{0,0}
 (And.intro @List.length_cons.{0}
 (And.intro @List.length_nil.{0}
 (And.intro @List.replicate_succ.{0}
 (And.intro @List.replicate_zero.{0}
 (And.intro @List.cons_append.{0}
 (And.intro @List.nil_append.{0}
 (And.intro @Nat.zero_add
 (And.intro @x_th_nx
 (And.intro @x_th_rt
 (And.intro @x_th_bk
 (And.intro @x_th_ct
 (And.intro @x_th_stuck
 (And.intro @x_seq
 (And.intro @x_of_ok
 (And.intro @x_of_stuck
 (And.intro @x_pickS_t
 (And.intro @x_pickS_f
 (And.intro @x_pickE_t
 (And.intro @x_pickE_f
 (And.intro @x_pickT_t
 (And.intro @x_pickT_f
 (And.intro @x_kF
 (And.intro @x_kT
 (And.intro @x_kfB
 (And.intro @x_ktB
 (And.intro @x_set
 (And.intro @x_ret
 (And.intro @x_retV
 (And.intro @x_retR_fz
 (And.intro @x_retR_ow
 (And.intro @x_retN
 (And.intro @x_next
 (And.intro @x_break
 (And.intro @x_cont
 (And.intro @x_expr
 (And.intro @x_if
 (And.intro @x_nm_fz
 (And.intro @x_nm_ow
 (And.intro @x_st_fz
 (And.intro @x_st_ow
 (And.intro @x_arg_fz
 (And.intro @x_arg_ow
 (And.intro @x_arg_br
 (And.intro @x_d_fz
 (And.intro @x_d_ow
 (And.intro @x_d_br
 (And.intro @x_d_lk
 (And.intro @x_var
 (And.intro @x_varR_fz
 (And.intro @x_varR_ow
 (And.intro @x_varR_br
 (And.intro @x_varR_lk
 (And.intro @x_c
 (And.intro @x_op
 (And.intro @x_un
 (And.intro @x_evs_nil
 (And.intro @x_evs
 (And.intro @x_stA_nil
 (And.intro @x_stA
 (And.intro @x_argA_nil
 (And.intro @x_argA
 (And.intro @x_lst
 (And.intro @x_tup
 (And.intro @x_call
 (And.intro @x_B
 (And.intro @x_tE
 (And.intro @x_tNot
 (And.intro @x_tAnd
 (And.intro @x_tOr
 (And.intro @x_eNot
 (And.intro @x_eAnd
 (And.intro @x_eOr
 (And.intro @x_eIf
 (And.intro @x_isB
 (And.intro @x_truth_bl
 (And.intro @x_truth_int
 (And.intro @x_truth_lst
 (And.intro @x_truth_tup
 (And.intro @x_truth_non
 (And.intro @x_for
 (And.intro @x_add
 (And.intro @x_sub
 (And.intro @x_lt
 (And.intro @x_le
 (And.intro @x_gt
 (And.intro @x_ge
 (And.intro @x_eq
 (And.intro @x_ne
 (And.intro @x_neg
 (And.intro @x_len_l
 (And.intro @x_len_t
 (And.intro @x_list_l
 (And.intro @x_list_t
 (And.intro @x_tuple_l
 (And.intro @x_tuple_t
 (And.intro @x_min
 (And.intro @x_max
 (And.intro @x_ix_l
 (And.intro @x_ix_t
 (And.intro @x_ati0
 (And.intro @x_ati1
 (And.intro @x_ati2
 (And.intro @x_ati3
 (And.intro @x_okD
 (And.intro @x_is_int
 (And.intro @x_is_bool
 (And.intro @x_is_list
 (And.intro @x_is_tuple
 (And.intro @x_stuck
 (And.intro @x_gV
 (And.intro @x_dK
 (And.intro @x_dT
 (And.intro @x_b_ok
 (And.intro @x_b_stuck
 (And.intro @List.getElem?_cons_zero.{0}
 (And.intro @List.getElem?_cons_succ.{0}
 (And.intro @List.set_cons_zero.{0}
 (And.intro @List.set_cons_succ.{0}
 (And.intro @if_true.{1}
 (And.intro @Bool.not_true
 (And.intro @Bool.not_false
 (And.intro @ite_true.{1}
 (And.intro @x_mkL0
 (And.intro @x_mkL1
 (And.intro @x_mkL2
 (And.intro @x_mkL3
 (And.intro @x_mkL4
 (And.intro @x_mkL5
 (And.intro @x_mkL6
 (And.intro @x_mkL7
 (And.intro @x_mkL8
 (And.intro @x_mkL9
 (And.intro @x_mkL10
 (And.intro @x_mkL11
 (And.intro @x_mkL12
 (And.intro @x_mkL13
 (And.intro @x_mkL14
 (And.intro @x_mkL15
 (And.intro @x_mkL16
 (And.intro @x_mkT0
 (And.intro @x_mkT1
 (And.intro @x_mkT2
 (And.intro @x_mkT3
 (And.intro @x_mkT4
 (And.intro @x_mkT5
 (And.intro @x_asg
 (And.intro @x_gT
 (And.intro @x_gVs0
 (And.intro @x_gVs
 (And.intro @Int.cast_ofNat_Int
 (And.intro @x_addA
 (And.intro @x_lenA_l
 (And.intro @x_lenA_t
 (And.intro @x_lenA_dT
 (And.intro @x_sl
 (And.intro @x_oNo
 (And.intro @x_oE
 (And.intro @x_isI
 (And.intro @x_sl_l
 (And.intro @x_sl_t32
 (And.intro @x_chain
 (And.intro @x_chE
 (And.intro @eq_pair
 (And.intro @ne_pair
 (And.intro @x_aug
 (And.intro @x_augR
 (And.intro @x_maxD_nil
 (And.intro @x_isN_non
 (And.intro @x_isN_tup
 (And.intro @x_isN_lst
 (And.intro @x_isN_int
 (And.intro @x_isNot_non
 (And.intro @x_isNot_tup
 (And.intro @x_isNot_lst
 (And.intro @x_isNot_int
 (And.intro @x_frzS
 (And.intro @x_frzR_ow
 (And.intro @x_frzR_fz
 (And.intro @x_frzR_br
 (And.intro @x_frzR_lk
 (@x_frzR_no)))))))))))))))))))))))))))))))))))))))))))))))))))))))))))))))))))))))))))))))))))))))))))))))))))))))))))))))))))))))))))))))))))))))))))))))))))))))))))))))))))))))))))))))))))))))))
theorem EV:type_of% EV0:=EV0
end L3
set_option Elab.async false
set_option linter.all false
set_option maxRecDepth 100000
set_option maxHeartbeats 4000000
namespace L3
open PySem PySem.Spec PyProof.Rows L2
open PySem.Builtin PySem.Builtin.ObjectAttr
section
variable {prog:Program} {w:World} {A:Around} {E:Value→Shared→Prop} {s:Shared} {K:PySem.W.Frag} {x C:Addr} {vs:Array Value} {sl:Array (Option Value)} {cd:ClassData} {name:Str} {v:Value}
end
end L3
namespace L3
open PySem PySem.Spec PyProof.Rows L2
section
variable {prog:Program} {w:World} {A:Around} {E:Value→Shared→Prop} {s:Shared} {K:PySem.W.Frag} {C f:Addr} {rest:List Value} {R:Result→Shared→Prop}
end
end L3
namespace L3
open PySem PySem.Spec PyProof.Rows L2
section
variable {P:Program} {w:World} {K:PySem.W.Frag} {mg:Str→Option Value} {base:Heap}
end
end L3
namespace L3
open PySem PySem.Spec PyProof.Rows L2
end L3
namespace L3
open PySem PySem.Spec PyProof.Rows L2
section
variable {X:Cx} {F0 H0:Hp}
end
end L3
namespace L3
open PySem PySem.Spec PyProof.Rows L2
section
variable {prog:Program} {w:World} {A:Around} {E:Value→Shared→Prop} {s:Shared} {K:PySem.W.Frag} {C:Addr} {rest:List Value} {R:Result→Shared→Prop}
end
section
variable {X:Cx} {F0 H0:Hp}
end
end L3
namespace L3
open PySem PySem.Spec PyProof.Rows L2
noncomputable def CX1 (P:Program) (w:World) (mg:Str→Option Value):CXT:=fun outer H s E e s'=>∃ (x:Xc) (H':Hp) (a:Addr),e=.ref a∧Fl P w mg outer H s H' s' a x (some .none)∧E (.str x.cls 0) (atc x) H'
noncomputable def spX (κ:Kx) (dn:Den) (n:Nat):Sp:=fun vs H Q E=>vs.length=n∧∃ F ws,Le F H∧Args κ F H vs ws ∧
 KE (fun x=>∀ F' H',Gr F H F' H'→E (.str x.cls 0) (atc x) H') (dn ws) fun w=>∀ v F' H',Gr F H F' H'→Vok κ H F' H' v w→Q v H'
section
variable {P:Program} {w:World} {K:PySem.W.Frag} {mg:Str→Option Value} {base:Heap}
theorem calm {k:Nat} {f:Addr} {fd:FuncData} {ps:List Str} {κ:Kx} {dn:Den} {n:Nat} (G:FnOk P w K mg base (CX1 P w mg) k f fd ps (spX κ dn n)):FnOk P w K mg base CX0 k f fd ps (spD κ dn n):=by
 have imp:∀ vs H Q,spD κ dn n vs H Q E0→spX κ dn n vs H Q E0:=fun vs H Q q=>by
  obtain ⟨l,F,ws,a,b,c⟩:=q
  exact ⟨l,F,ws,a,b,KE.impX c (fun _ z=>z) fun _ z=>z.elim⟩
 refine ⟨fun vs H Q E q=>G.len vs H Q E0 (imp vs H Q q),fun A outer s H args us vs Q E hr e0 hb hv hs=>?_⟩
 refine codeAny_mono (G.run A outer s H args us vs Q E0 hr e0 hb hv (imp vs H Q hs)) fun r s' z=>?_
 cases r with
 | error e=>obtain ⟨_,_,_,_,_,z⟩:=z; exact z.elim
 | ok fl=>cases fl <;> exact z
end
section
variable {X:Cx} {F0 H0:Hp} {pos p pos2:Pos} {e:Expr} {es:List Expr} {fa:List EF} {x:Str} {k n:Nat} {f:Addr} {fd:FuncData} {ps:List Str} {dn:Den}
noncomputable def nrm (x:Xc):Xc:=⟨x.cls,match atc x with
 | none=>[]
 | some 0=>[("at",.non)]
 | some (n+1)=>[("at",.int n)]⟩
end
end L3
namespace L3
open PySem PySem.Spec PyProof.Rows L2
section
variable {M:Model} {A:Around} {E:Value→Shared→Prop} {s:Shared} {K:PySem.W.Frag} {C S e:Addr} {oe:Obj}
end
end L3
namespace L3
open PySem PySem.Spec PyProof.Rows L2
section
variable {X:Cx} {pins pn:List (Addr×Obj)} {σ:St} {H:Hp} {s:Shared} {E:Value→Shared→Prop} {e:Addr} {D:Ends} {fl:Flow}
end
end L3
namespace L3
open PySem PySem.Spec PyProof.Rows L2
section
variable {X:Cx} {F0 H0:Hp} {cN n:Str} {S:Addr} {i:Nat} {ex:Expr} {cs:List Str} {hd:Xc→R En} {cp rp hp:Pos}
end
end L3
namespace L3
open PySem PySem.Spec PyProof.Rows L2
section
variable {X:Cx} {F0 H0:Hp} {n:Str} {i:Nat} {cs:List Str} {rp np apos tp bp vp ip cp:Pos} {j1 j2:Nat}
end
end L3
set_option Elab.async false
set_option linter.all false
set_option maxRecDepth 100000
set_option maxHeartbeats 4000000
namespace L3
open PySem PySem.Spec PyProof.Rows L2
section
variable {X:Cx} {pins:List (Addr×Obj)} {σ:St} {H:Hp} {s:Shared} {h':Heap} {fp:List Addr} {t':Nat}
end
end L3
set_option Elab.async false
set_option linter.all false
set_option maxRecDepth 100000
set_option maxHeartbeats 4000000
namespace L3
open PySem PySem.Spec PyProof.Rows L2
section
variable {prog:Program} {w:World} {A:Around} {E:Value→Shared→Prop} {s:Shared}
end
section
variable {prog:Program} {w:World} {A:Around} {E:Value→Shared→Prop} {s:Shared}
end
end L3
set_option Elab.async false
set_option linter.all false
set_option maxRecDepth 100000
set_option maxHeartbeats 4000000
namespace L3
open PySem PySem.Spec PyProof.Rows L2
section
variable {X:Cx}
end
section
variable {X:Cx}
end
end L3
namespace L3
open PySem PySem.Spec PyProof.Rows L2
section
variable {prog:Program} {w:World} {A:Around} {E:Value→Shared→Prop} {s:Shared} {I l:Addr} {items:Array Value}
end
section
variable {X:Cx} {F0 H0:Hp} {p p2 c1 c2:Pos}
end
end L3
namespace L3
open PySem PySem.Spec PyProof.Rows L2
section
variable {X:Cx}
end
section
variable {X:Cx} {F0 H0:Hp} {pos:Pos}
end
section
open PySem.SeqAt PySem.MeetsSeq PySem.MeetsSeq2 PySem.MeetsSeq3
open PySem.AutoSeq1 (wpAny_loadPart')
end
section
variable {X:Cx}
end
end L3
set_option Elab.async false
set_option linter.all false
set_option maxRecDepth 100000
set_option maxHeartbeats 4000000
namespace L3
open PySem PySem.Spec PyProof.Rows L2
section
variable {κ:Kx} {F0 H0 F H:Hp} {ρ:Rho} {σ:St}
theorem Inn.len:∀ {bs:List Addr} {ds:List D},Inn κ H0 F H bs ds→bs.length=ds.length
 | [],[],_=>rfl
 | [],_::_,h=>h.elim
 | _::_,[],h=>h.elim
 | b::bs,e::es,h=>by rw [List.length_cons,List.length_cons,Inn.len h.2]
end
section
variable {X:Cx} {F0 H0:Hp} {pos pos':Pos}
end
section
variable {X:Cx} {F0 H0:Hp} {pos:Pos}
end
end L3
set_option Elab.async false
set_option linter.all false
set_option maxRecDepth 100000
set_option maxHeartbeats 4000000
namespace L3
open PySem PySem.Spec PyProof.Rows L2
section
variable {prog:Program} {w:World} {K:Type} [DecidableEq K] {knd:HeapKind prog w K} {A:Around} {E:Value→Shared→Prop} {s:Shared} {d a:Addr} {k:K} {xs:List (K×Addr×Value)} {dv:Value}
end
section
variable {X:Cx}
end
noncomputable def short:D→Bool
 | .lst xs=>decide (xs.length < sz)
 | _=>false
section
variable {X:Cx} {F0 H0:Hp} {pos:Pos}
end
section
variable {prog:Program} {w:World} {A:Around} {E:Value→Shared→Prop} {s:Shared} {d it:Addr} {o:Obj} {es:Array DictEntry} {ep i:Nat}
end
theorem Gr.tup {F H:Hp} (s:Le F H) {q:Addr} {xs:List V} (hq:H q=some (.tup xs)):Gr F H (upd F q (.tup xs)) H:=by
 refine ⟨fun a u h=>?_,Le.refl,fun a u h=>?_,fun a h=>?_⟩
 ·by_cases e:a=q
  ·subst e
   have:=s a u h
   rw [hq] at this
   cases this
   exact upd_same
  ·rw [upd_ne e]; exact h
 ·by_cases e:a=q
  ·subst e; rw [upd_same] at h; cases h; exact hq
  ·rw [upd_ne e] at h; exact s a u h
 ·by_cases e:a=q
  ·subst e; exact .inr (.inr ⟨xs,hq⟩)
  ·rw [upd_ne e] at h; exact .inl h
section
variable {κ:Kx} {F0 H0 F H:Hp} {ρ:Rho} {σ:St}
end
section
variable {X:Cx} {F0 H0:Hp} {a b:Expr} {fa fb:EF} {pos:Pos}
end
end L3
set_option Elab.async false
set_option linter.all false
set_option maxRecDepth 100000
set_option maxHeartbeats 4000000
namespace L3
open PySem PySem.Spec PyProof.Rows L2
open PySem.Builtin PySem.Builtin.Str
section
variable {X:Cx} {F0 H0:Hp} {tg:Expr} {pos:Pos}
end
end L3
set_option Elab.async false
set_option linter.all false
set_option maxRecDepth 100000
set_option maxHeartbeats 4000000
namespace L3
open PySem PySem.Spec PyProof.Rows L2
noncomputable def one (c:Nat):D:=.str ⟨#[c]⟩
section
variable {X:Cx} {F0 H0:Hp} {a b:Expr} {fa fb:EF} {pos:Pos}
end
section
variable {X:Cx} {F0 H0:Hp} {pos:Pos}
end
end L3
namespace L3
section
open PySem PySem.Spec PyProof.Rows L2
variable {X:Cx}
end
end L3
set_option Elab.async false
set_option linter.all false
set_option maxRecDepth 100000
set_option maxHeartbeats 4000000
namespace L3
open PySem PySem.Spec PyProof.Rows L2
section
variable {κ:Kx} {H0 F H F' H':Hp}
theorem In2.len:∀ {bs:List Addr} {css:List (List Addr)} {ds:List D},In2 κ H0 F H bs css ds→bs.length=ds.length
 | [],[],[],_=>rfl
 | [],_::_,_,h=>by cases h
 | [],[],_::_,h=>by cases h
 | _::_,[],_,h=>by cases h
 | _::_,_::_,[],h=>by cases h
 | b::bs,cs::css,e::es,h=>by rw [List.length_cons,List.length_cons,In2.len h.2]
end
section
variable {X:Cx} {F0 H0:Hp} {pos:Pos} {tg elt iter:Expr} {scope:Scope} {fi:IF} {gf:GF} {e:EF} {ad:En→R D} {mk:List D→D}
end
end L3
set_option Elab.async false
set_option linter.all false
set_option maxRecDepth 100000
set_option maxHeartbeats 4000000
namespace L3
open PySem PySem.Spec PyProof.Rows L2
section
variable {X:Cx} {F0 H0:Hp} {pos:Pos}
end
noncomputable def but (H:Hp) (a:Addr):Hp:=fun c=>if c=a then none else H c
section
variable {P:Program} {w:World} {K:PySem.W.Frag} {mg:Str→Option Value} {base:Heap}
end
section
variable {X:Cx} {F0 H0:Hp} {pos:Pos}
end
section
variable {κ:Kx} {H0 F H:Hp}
end
section
variable {X:Cx} {F0 H0:Hp} {pos:Pos}
end
end L3
set_option Elab.async false
set_option linter.all false
set_option maxRecDepth 100000
set_option maxHeartbeats 4000000
namespace L3
open PySem PySem.Spec PyProof.Rows L2
section
variable {X:Cx} {F0 H0:Hp} {tg:Expr} {pos:Pos}
end
end L3
set_option Elab.async false
set_option linter.all false
set_option maxRecDepth 100000
set_option maxHeartbeats 4000000
namespace L3
open PySem PySem.Spec PyProof.Rows L2
end L3
set_option Elab.async false
set_option linter.all false
set_option maxRecDepth 100000
set_option maxHeartbeats 4000000
namespace L3
open PySem PySem.Spec PyProof.Rows L2
section
open PySem.SeqAt PySem.MeetsSeq PySem.MeetsSeq2 PySem.MeetsSeq3
open PySem.AutoSeq1 (wpAny_loadPart')
end
section
variable {X:Cx}
end
section
variable {X:Cx}
end
section
variable {X:Cx} {F0 H0:Hp}
end
end L3
set_option Elab.async false
set_option linter.all false
set_option maxRecDepth 100000
set_option maxHeartbeats 4000000
namespace L3
open PySem L2
section
variable {X:Cx}
end
section
variable {prog:Program} {w:World} {A:Around} {R:Result→Shared→Prop} {I l S:Addr} {us:List Value} {rk:Value→List Int} {h0:Heap} {M:List Int}
end
end L3
set_option Elab.async false
set_option linter.all false
set_option maxRecDepth 100000
set_option maxHeartbeats 4000000
namespace L3
open PySem PySem.Spec PyProof.Rows L2
end L3
set_option Elab.async false
set_option linter.all false
set_option maxRecDepth 100000
set_option maxHeartbeats 4000000
namespace L3
open PySem PySem.Spec PyProof.Rows L2
section
variable {prog:Program} {w:World} {A:Around} {E:Value→Shared→Prop} {s:Shared}
end
section
variable {prog:Program} {w:World} {A:Around} {E:Value→Shared→Prop} {s:Shared}
end
end L3
set_option Elab.async false
set_option linter.all false
set_option maxRecDepth 100000
set_option maxHeartbeats 4000000
namespace L3
open PySem PySem.Spec PyProof.Rows L2
noncomputable def raiseOf (dn:Den) (fa:List EF) (ρ:Rho):Option Xc:=match evs fa ρ with
 | .ok ws=>(match argAll ws with
  | .ok ys=>(match dn ys with
   | .exc x=>some x
   | _=>none)
  | _=>none)
 | _=>none
noncomputable def sX (dn:Den) (fa:List EF) (st:SF):SF:=fun ρ=>match raiseOf dn fa ρ with
 | some x=>.exc (nrm x)
 | none=>st ρ
section
variable {X:Cx} {F0 H0:Hp} {pos p pos2:Pos} {e:Expr} {es:List Expr} {fa:List EF} {x:Str} {k n:Nat} {f:Addr} {fd:FuncData} {ps:List Str} {dn:Den} {st:SF}
end
end L3
set_option Elab.async false
set_option linter.all false
set_option maxRecDepth 100000
set_option maxHeartbeats 4000000
namespace L3
open PySem PySem.Spec PyProof.Rows L2
noncomputable def gallop':Bool→Keyed→Array Keyed→Nat→Nat→Nat→StateT SortSt Sem (Option Nat):=sortPriv% PySem.Builtin.gallop
noncomputable def setMinGallop':Nat→StateT SortSt Sem Unit:=sortPriv% PySem.Builtin.setMinGallop
noncomputable def mergeLo':Array Keyed→Array Keyed→StateT SortSt Sem (Array Keyed):=sortPriv% PySem.Builtin.mergeLo
noncomputable def mergeHi':Array Keyed→Array Keyed→StateT SortSt Sem (Array Keyed):=sortPriv% PySem.Builtin.mergeHi
section
variable {prog:Program} {w:World} {A:Around} {E:Value→Shared→Prop} {s:Shared} {kd:SortKind} {rk:Value→Int} {ini:Array Keyed}
theorem ask2 {st:SortSt} {p q:Keyed} {Q:Option Bool→SortSt→Prop} (T:Tells prog w A s kd rk ini) (hk:kindOf st=kd) (hp:p∈ini.toList) (hq:q∈ini.toList) (h:Q (some (decide (rk p.1 < rk q.1))) st):wpS (model prog w) A E s (lt' p q) Q st:=by
 rw [lt'_eq]
 refine wpS_bind (wpS_get ?_)
 rw [hk]
 exact wpS_bind (wpS_lift (wpAny_attempt (T.lt p hp q hq _ _ ⟨rfl,wpS_pure h⟩)))
theorem at_ok {st:SortSt} {xs:Array Keyed} {i:Nat} {p:Keyed} {Q:Keyed→SortSt→Prop} (h:xs[i]?=some p) (q:Q p st):wpS (model prog w) A E s (elem' xs i) Q st:=by
 rw [elem'_eq,h]
 exact wpS_pure q
noncomputable abbrev bey (left:Bool) (key:Keyed) (arr:Array Keyed) (base i:Nat):StateT SortSt Sem (Option Bool):=elem' arr (base+i) >>= fun x=>if left=true then lt' x key else lt' key x >>= fun o=>pure (o.map not)
theorem bey_ok {st:SortSt} {left:Bool} {key p:Keyed} {arr:Array Keyed} {base i:Nat} {Q:Option Bool→SortSt→Prop} (T:Tells prog w A s kd rk ini) (hk:kindOf st=kd) (hkey:key∈ini.toList) (hp:arr[base+i]?=some p) (hpi:p∈ini.toList) (ne:rk p.1≠rk key.1)
  (h:Q (some (decide (rk p.1 < rk key.1))) st):wpS (model prog w) A E s (bey left key arr base i) Q st:=by
 refine wpS_bind (at_ok hp ?_)
 cases left
 ·rw [if_neg (by decide)]
  refine wpS_bind (ask2 T hk hkey hpi ?_)
  refine wpS_pure ?_
  have e:(!decide (rk key.1 < rk p.1))=decide (rk p.1 < rk key.1):=by
   by_cases c:rk key.1 < rk p.1
   ·simp [c]; (first|lia|omega)
   ·simp [c]; (first|lia|omega)
  simpa [e] using h
 ·rw [if_pos rfl]
  exact ask2 T hk hpi hkey h
structure Seg (rk:Value→Int) (ini arr:Array Keyed) (key:Keyed) (base n:Nat):Prop where
 sz:base+n ≤ arr.size
 mem:∀ p∈arr.toList,p∈ini.toList
 hkey:key∈ini.toList
 up:∀ i j,i < j→j < n→av rk arr (base+i) < av rk arr (base+j)
 ne:∀ i,i < n→av rk arr (base+i)≠rk key.1
theorem Seg.get {arr:Array Keyed} {key:Keyed} {base n:Nat} (S:Seg rk ini arr key base n) {i:Nat} (h:i < n):∃ p,arr[base+i]?=some p∧p∈ini.toList∧av rk arr (base+i)=rk p.1:=by
 have hi:base+i < arr.size:=by have:=S.sz; (first|lia|omega)
 refine ⟨arr[base+i],getElem?_pos arr (base+i) hi,S.mem _ (by simp),?_⟩
 unfold av
 rw [getElem?_pos arr (base+i) hi]
theorem Seg.ask {st:SortSt} {left:Bool} {key:Keyed} {arr:Array Keyed} {base n i:Nat} {Q:Option Bool→SortSt→Prop} (T:Tells prog w A s kd rk ini) (hk:kindOf st=kd) (S:Seg rk ini arr key base n) (h:i < n)
  (q:Q (some (decide (av rk arr (base+i) < rk key.1))) st):wpS (model prog w) A E s (bey left key arr base i) Q st:=by
 obtain ⟨p,h1,h2,h3⟩:=S.get h
 have ne:=S.ne i h
 rw [h3] at ne q
 exact bey_ok T hk S.hkey h1 h2 ne q
theorem Seg.le {arr:Array Keyed} {key:Keyed} {base n:Nat} (S:Seg rk ini arr key base n) {i j:Nat} (h:i ≤ j) (hj:j < n):av rk arr (base+i) ≤ av rk arr (base+j):=by
 rcases Nat.lt_or_ge i j with c|c
 ·exact Int.le_of_lt (S.up i j c hj)
 ·rw [show i=j by (first|lia|omega)]; exact Int.le_refl _
noncomputable def Place (rk:Value→Int) (arr:Array Keyed) (key:Keyed) (base n k:Nat):Prop:=k ≤ n∧(∀ i,i < k→av rk arr (base+i) < rk key.1)∧∀ i,k ≤ i→i < n→rk key.1 < av rk arr (base+i)
theorem gallop_ok {st:SortSt} {left:Bool} {key:Keyed} {arr:Array Keyed} {base n hint:Nat} {Q:Option Nat→SortSt→Prop} (T:Tells prog w A s kd rk ini) (hk:kindOf st=kd) (S:Seg rk ini arr key base n) (hh:hint < n)
  (h:∀ k,Place rk arr key base n k→Q (some k) st):wpS (model prog w) A E s (gallop' left key arr base n hint) Q st:=by
 have fin:∀ (f:Nat→Option (Option Nat)×Nat×Nat→StateT SortSt Sem (ForInStep (Option (Option Nat)×Nat×Nat))) (lo hi:Nat),
   (∀ (x l r:Nat) (R:ForInStep (Option (Option Nat)×Nat×Nat)→SortSt→Prop),r ≤ n→(r ≤ l→R (.done (none,l,r)) st)→(l < r→R (if av rk arr (base+(l+(r - l) / 2)) < rk key.1 then .yield (none,l+(r - l) / 2+1,r) else .yield (none,l,l+(r - l) / 2)) st)→wpS (model prog w) A E s (f x (none,l,r)) R st) →
   lo ≤ hi→hi ≤ n→(∀ i,i < lo→av rk arr (base+i) < rk key.1)→(∀ i,hi ≤ i→i < n→rk key.1 < av rk arr (base+i)) →
   wpS (model prog w) A E s (forIn [:n] ((none,lo,hi):Option (Option Nat)×Nat×Nat) f) (fun c z=>c.1=none∧z=st∧Place rk arr key base n c.2.2) st:=by
  intro f lo hi hf l1 l2 l3 l4
  refine wpS_forRange (fun x c z=>z=st∧∃ lo hi,c=(none,lo,hi)∧lo ≤ hi∧hi ≤ n∧hi - lo ≤ n - x∧(∀ i,i < lo→av rk arr (base+i) < rk key.1)∧(∀ i,hi ≤ i→i < n→rk key.1 < av rk arr (base+i))) (fun x c z _ lx hI=>?_) (fun c z hI=>?_) ⟨rfl,lo,hi,rfl,l1,l2,by (first|lia|omega),l3,l4⟩
  ·obtain ⟨rfl,lo,hi,rfl,a1,a2,a3,a4,a5⟩:=hI
   refine hf x lo hi _ a2 (fun c=>?_) fun c=>?_
   ·have e:lo=hi:=by (first|lia|omega)
    subst e
    exact ⟨rfl,rfl,a2,a4,a5⟩
   ·by_cases d:av rk arr (base+(lo+(hi - lo) / 2)) < rk key.1
    ·rw [if_pos d]
     refine ⟨rfl,_,_,rfl,by (first|lia|omega),a2,by (first|lia|omega),fun i hi'=>?_,a5⟩
     have:=S.le (i:=i) (j:=lo+(hi - lo) / 2) (by (first|lia|omega)) (by (first|lia|omega))
     (first|lia|omega)
    ·rw [if_neg d]
     refine ⟨rfl,_,_,rfl,by (first|lia|omega),by (first|lia|omega),by (first|lia|omega),a4,fun i g1 g2=>?_⟩
     have:=S.le (i:=lo+(hi - lo) / 2) (j:=i) g1 g2
     have:=S.ne (lo+(hi - lo) / 2) (by (first|lia|omega))
     (first|lia|omega)
  ·obtain ⟨rfl,lo,hi,rfl,a1,a2,a3,a4,a5⟩:=hI
   have e:lo=hi:=by (first|lia|omega)
   subst e
   exact ⟨rfl,rfl,a2,a4,a5⟩
 refine wpS_bind (m:=bey left key arr base hint) (S.ask T hk hh ?_)
 dsimp only
 by_cases c:av rk arr (base+hint) < rk key.1
 ·rw [decide_eq_true c,if_pos rfl]
  refine wpS_bind (wpS_mono (wpS_forRange (fun x c z=>z=st∧∃ lf of,c=(none,lf,of)∧lf < of∧lf < n - hint∧x+1 ≤ of∧av rk arr (base+(hint+lf)) < rk key.1)
   (Q:=fun c z=>z=st∧∃ lf of,c=(none,lf,of)∧lf < of∧lf < n - hint∧av rk arr (base+(hint+lf)) < rk key.1∧(n - hint ≤ of∨rk key.1 < av rk arr (base+(hint+of)))) (fun x c z _ lx hI=>?_) (fun c z hI=>?_) ⟨rfl,0,1,rfl,by (first|lia|omega),by (first|lia|omega),by (first|lia|omega),by simpa using c⟩) fun c z hc=>?_)
  ·obtain ⟨rfl,lf,of,rfl,a1,a2,a3,a4⟩:=hI
   dsimp only
   by_cases d:of ≥ n - hint
   ·rw [if_pos d]
    exact wpS_pure ⟨rfl,lf,of,rfl,a1,a2,a4,.inl d⟩
   ·rw [if_neg d]
    refine wpS_bind (m:=bey left key arr base (hint+of)) (S.ask T hk (by (first|lia|omega)) ?_)
    by_cases e:av rk arr (base+(hint+of)) < rk key.1
    ·rw [decide_eq_true e]
     exact wpS_pure ⟨rfl,of,2 * of+1,rfl,by (first|lia|omega),by (first|lia|omega),by (first|lia|omega),e⟩
    ·rw [decide_eq_false e]
     have:=S.ne (hint+of) (by (first|lia|omega))
     exact wpS_pure ⟨rfl,lf,of,rfl,a1,a2,a4,.inr (by (first|lia|omega))⟩
  ·obtain ⟨rfl,lf,of,rfl,a1,a2,a3,a4⟩:=hI
   exact ⟨rfl,lf,of,rfl,a1,a2,a4,.inl (by (first|lia|omega))⟩
  ·obtain ⟨rfl,lf,of,rfl,a1,a2,a4,a5⟩:=hc
   dsimp only
   refine wpS_bind (wpS_mono (fin _ (hint+lf+1) (hint+min of (n - hint)) (fun x l r R hr g1 g2=>by
    dsimp only
    by_cases d:l ≥ r
    ·rw [if_pos d]
     exact wpS_pure (g1 d)
    ·rw [if_neg d]
     have g2:=g2 (by (first|lia|omega))
     refine wpS_bind (m:=bey left key arr base (l+(r - l) / 2)) (S.ask T hk (by (first|lia|omega)) ?_)
     by_cases e:av rk arr (base+(l+(r - l) / 2)) < rk key.1
     ·rw [if_pos e] at g2
      rw [decide_eq_true e]
      exact wpS_pure g2
     ·rw [if_neg e] at g2
      rw [decide_eq_false e]
      exact wpS_pure g2) (by (first|lia|omega)) (by (first|lia|omega)) (fun i hi=>?_) fun i g1 g2=>?_) fun c z hc=>?_)
   ·have:=S.le (i:=i) (j:=hint+lf) (by (first|lia|omega)) (by (first|lia|omega))
    (first|lia|omega)
   ·rcases a5 with a5|a5
    ·(first|lia|omega)
    ·have:=S.le (i:=hint+of) (j:=i) (by (first|lia|omega)) g2
     (first|lia|omega)
   ·obtain ⟨c1,rfl,pl⟩:=hc
    rw [c1]
    exact wpS_pure (h _ pl)
 ·rw [decide_eq_false c,if_neg (by decide)]
  have ne0:=S.ne hint hh
  refine wpS_bind (wpS_mono (wpS_forRange (fun x c z=>z=st∧∃ lf of,c=(none,lf,of)∧lf < of∧lf ≤ hint∧x+1 ≤ of∧rk key.1 < av rk arr (base+(hint - lf)))
   (Q:=fun c z=>z=st∧∃ lf of,c=(none,lf,of)∧lf < of∧lf ≤ hint∧rk key.1 < av rk arr (base+(hint - lf))∧(hint+1 ≤ of∨(of ≤ hint∧av rk arr (base+(hint - of)) < rk key.1))) (fun x c z _ lx hI=>?_) (fun c z hI=>?_) ⟨rfl,0,1,rfl,by (first|lia|omega),by (first|lia|omega),by (first|lia|omega),by simp; (first|lia|omega)⟩) fun c z hc=>?_)
  ·obtain ⟨rfl,lf,of,rfl,a1,a2,a3,a4⟩:=hI
   dsimp only
   by_cases d:of ≥ hint+1
   ·rw [if_pos d]
    exact wpS_pure ⟨rfl,lf,of,rfl,a1,a2,a4,.inl d⟩
   ·rw [if_neg d]
    refine wpS_bind (m:=bey left key arr base (hint - of)) (S.ask T hk (by (first|lia|omega)) ?_)
    by_cases e:av rk arr (base+(hint - of)) < rk key.1
    ·rw [decide_eq_true e]
     exact wpS_pure ⟨rfl,lf,of,rfl,a1,a2,a4,.inr ⟨by (first|lia|omega),e⟩⟩
    ·rw [decide_eq_false e]
     have:=S.ne (hint - of) (by (first|lia|omega))
     exact wpS_pure ⟨rfl,of,2 * of+1,rfl,by (first|lia|omega),by (first|lia|omega),by (first|lia|omega),by (first|lia|omega)⟩
  ·obtain ⟨rfl,lf,of,rfl,a1,a2,a3,a4⟩:=hI
   exact ⟨rfl,lf,of,rfl,a1,a2,a4,.inl (by (first|lia|omega))⟩
  ·obtain ⟨rfl,lf,of,rfl,a1,a2,a4,a5⟩:=hc
   dsimp only
   refine wpS_bind (wpS_mono (fin _ (hint+1 - min of (hint+1)) (hint - lf) (fun x l r R hr g1 g2=>by
    dsimp only
    by_cases d:l ≥ r
    ·rw [if_pos d]
     exact wpS_pure (g1 d)
    ·rw [if_neg d]
     have g2:=g2 (by (first|lia|omega))
     refine wpS_bind (m:=bey left key arr base (l+(r - l) / 2)) (S.ask T hk (by (first|lia|omega)) ?_)
     by_cases e:av rk arr (base+(l+(r - l) / 2)) < rk key.1
     ·rw [if_pos e] at g2
      rw [decide_eq_true e]
      exact wpS_pure g2
     ·rw [if_neg e] at g2
      rw [decide_eq_false e]
      exact wpS_pure g2) (by (first|lia|omega)) (by (first|lia|omega)) (fun i hi=>?_) fun i g1 g2=>?_) fun c z hc=>?_)
   ·rcases a5 with a5|⟨a5,a6⟩
    ·(first|lia|omega)
    ·have:=S.le (i:=i) (j:=hint - of) (by (first|lia|omega)) (by (first|lia|omega))
     (first|lia|omega)
   ·have:=S.le (i:=hint - lf) (j:=i) g1 g2
    (first|lia|omega)
   ·obtain ⟨c1,rfl,pl⟩:=hc
    rw [c1]
    exact wpS_pure (h _ pl)
end
end L3
namespace L3
open PySem PySem.Spec PyProof.Rows L2
section
variable {rk:Value→Int} {ini:Array Keyed}
noncomputable abbrev Ris (rk:Value→Int) (l:List Keyed):Prop:=l.Pairwise fun p q=>rk p.1 < rk q.1
noncomputable abbrev Blw (rk:Value→Int) (l m:List Keyed):Prop:=∀ p∈l,∀ q∈m,rk p.1 < rk q.1
structure JL (rk:Value→Int) (a b:List Keyed) (o:List Keyed) (ia ib:Nat):Prop where
 la:ia ≤ a.length
 lb:ib ≤ b.length
 pm:o.Perm (a.take ia++b.take ib)
 up:Ris rk o
 ba:Blw rk o (a.drop ia)
 bb:Blw rk o (b.drop ib)
theorem JL.len {a b o:List Keyed} {ia ib:Nat} (J:JL rk a b o ia ib):o.length=ia+ib:=by
 have:=J.pm.length_eq
 rw [List.length_append,List.length_take,List.length_take,Nat.min_eq_left J.la,Nat.min_eq_left J.lb] at this
 exact this
theorem ris_drop {l:List Keyed} {i k:Nat} (h:Ris rk l):Blw rk ((l.drop i).take k) (l.drop (i+k))∧Ris rk ((l.drop i).take k):=by
 have h1:Ris rk (l.drop i):=h.drop
 have e:l.drop i=(l.drop i).take k++l.drop (i+k):=by rw [← List.drop_drop,List.take_append_drop]
 rw [e] at h1
 obtain ⟨x,_,z⟩:=List.pairwise_append.mp h1
 exact ⟨fun p hp q hq=>z p hp q hq,x⟩
theorem JL.chunkA {a b o:List Keyed} {ia ib:Nat} (J:JL rk a b o ia ib) (ra:Ris rk a) {k:Nat} (hk:ia+k ≤ a.length) (h:Blw rk ((a.drop ia).take k) (b.drop ib)):JL rk a b (o++(a.drop ia).take k) (ia+k) ib:=by
 obtain ⟨c1,c2⟩:=ris_drop (i:=ia) (k:=k) ra
 have sub:∀ p∈(a.drop ia).take k,p∈a.drop ia:=fun p hp=>List.mem_of_mem_take hp
 have sub2:∀ p∈a.drop (ia+k),p∈a.drop ia:=fun p hp=>by rw [← List.drop_drop] at hp; exact List.mem_of_mem_drop hp
 refine ⟨hk,J.lb,?_,List.pairwise_append.mpr ⟨J.up,c2,fun p hp q hq=>J.ba p hp q (sub q hq)⟩,fun p hp q hq=>?_,fun p hp q hq=>?_⟩
 ·rw [List.take_add]
  refine (J.pm.append_right _).trans ?_
  rw [List.append_assoc,List.append_assoc]
  exact List.Perm.append_left _ List.perm_append_comm
 ·rcases List.mem_append.mp hp with hp|hp
  ·exact J.ba p hp q (sub2 q hq)
  ·exact c1 p hp q hq
 ·rcases List.mem_append.mp hp with hp|hp
  ·exact J.bb p hp q hq
  ·exact h p hp q hq
theorem JL.chunkB {a b o:List Keyed} {ia ib:Nat} (J:JL rk a b o ia ib) (rb:Ris rk b) {k:Nat} (hk:ib+k ≤ b.length) (h:Blw rk ((b.drop ib).take k) (a.drop ia)):JL rk a b (o++(b.drop ib).take k) ia (ib+k):=by
 obtain ⟨c1,c2⟩:=ris_drop (i:=ib) (k:=k) rb
 have sub:∀ p∈(b.drop ib).take k,p∈b.drop ib:=fun p hp=>List.mem_of_mem_take hp
 have sub2:∀ p∈b.drop (ib+k),p∈b.drop ib:=fun p hp=>by rw [← List.drop_drop] at hp; exact List.mem_of_mem_drop hp
 refine ⟨J.la,hk,?_,List.pairwise_append.mpr ⟨J.up,c2,fun p hp q hq=>J.bb p hp q (sub q hq)⟩,fun p hp q hq=>?_,fun p hp q hq=>?_⟩
 ·rw [List.take_add,← List.append_assoc]
  exact J.pm.append_right _
 ·rcases List.mem_append.mp hp with hp|hp
  ·exact J.ba p hp q hq
  ·exact h p hp q hq
 ·rcases List.mem_append.mp hp with hp|hp
  ·exact J.bb p hp q (sub2 q hq)
  ·exact c1 p hp q hq
noncomputable def Fin2 (rk:Value→Int) (a b o:List Keyed):Prop:=o.Perm (a++b)∧Ris rk o
theorem JL.endA {a b o:List Keyed} {ia ib:Nat} (J:JL rk a b o ia ib) (ra:Ris rk a) (h:ib=b.length):Fin2 rk a b (o++a.drop ia):=by
 have:=J.chunkA ra (k:=a.length - ia) (by have:=J.la; (first|lia|omega)) (by rw [h,List.drop_length]; exact fun p _ q hq=>nomatch hq)
 have e:(a.drop ia).take (a.length - ia)=a.drop ia:=List.take_of_length_le (by rw [List.length_drop]; exact Nat.le_refl _)
 rw [e] at this
 refine ⟨?_,this.up⟩
 have p:=this.pm
 rw [h,List.take_length,List.take_of_length_le (by have:=J.la; (first|lia|omega))] at p
 exact p
theorem JL.endB {a b o:List Keyed} {ia ib:Nat} (J:JL rk a b o ia ib) (rb:Ris rk b) (h:ia=a.length):Fin2 rk a b (o++b.drop ib):=by
 have:=J.chunkB rb (k:=b.length - ib) (by have:=J.lb; (first|lia|omega)) (by rw [h,List.drop_length]; exact fun p _ q hq=>nomatch hq)
 have e:(b.drop ib).take (b.length - ib)=b.drop ib:=List.take_of_length_le (by rw [List.length_drop]; exact Nat.le_refl _)
 rw [e] at this
 refine ⟨?_,this.up⟩
 have p:=this.pm
 rw [h,List.take_length,List.take_of_length_le (by have:=J.lb; (first|lia|omega))] at p
 exact p
theorem JL.endL {a b o:List Keyed} {ia ib:Nat} (J:JL rk a b o ia ib) (ra:Ris rk a) (rb:Ris rk b) (h:Blw rk b (a.drop ia)):Fin2 rk a b (o++b.drop ib++a.drop ia):=by
 have e:(b.drop ib).take (b.length - ib)=b.drop ib:=List.take_of_length_le (by rw [List.length_drop]; exact Nat.le_refl _)
 have j2:=J.chunkB rb (k:=b.length - ib) (by have:=J.lb; (first|lia|omega)) (fun p hp q hq=>h p (by rw [e] at hp; exact List.mem_of_mem_drop hp) q hq)
 rw [e] at j2
 exact j2.endA ra (by have:=J.lb; (first|lia|omega))
structure JH (rk:Value→Int) (a b:List Keyed) (o:List Keyed) (na nb:Nat):Prop where
 la:na ≤ a.length
 lb:nb ≤ b.length
 pm:o.Perm (a.drop na++b.drop nb)
 up:Ris rk o
 ba:Blw rk (a.take na) o
 bb:Blw rk (b.take nb) o
theorem JH.len {a b o:List Keyed} {na nb:Nat} (J:JH rk a b o na nb):o.length+na+nb=a.length+b.length:=by
 have:=J.pm.length_eq
 rw [List.length_append,List.length_drop,List.length_drop] at this
 have:=J.la
 have:=J.lb
 (first|lia|omega)
theorem ris_take {l:List Keyed} {i n:Nat} (h:Ris rk l) (hi:i ≤ n):Blw rk (l.take i) ((l.take n).drop i)∧Ris rk ((l.take n).drop i):=by
 have h1:Ris rk (l.take n):=h.take
 have e:l.take n=l.take i++(l.take n).drop i:=by
  have:=List.take_append_drop i (l.take n)
  rw [List.take_take,Nat.min_eq_left hi] at this
  exact this.symm
 rw [e] at h1
 obtain ⟨_,y,z⟩:=List.pairwise_append.mp h1
 exact ⟨fun p hp q hq=>z p hp q hq,y⟩
theorem JH.chunkA {a b o:List Keyed} {na nb:Nat} (J:JH rk a b o na nb) (ra:Ris rk a) {i:Nat} (hi:i ≤ na) (h:Blw rk (b.take nb) ((a.take na).drop i)):JH rk a b ((a.take na).drop i++o) i nb:=by
 obtain ⟨c1,c2⟩:=ris_take (i:=i) (n:=na) ra hi
 have sub:∀ p∈(a.take na).drop i,p∈a.take na:=fun p hp=>List.mem_of_mem_drop hp
 have sub2:∀ p∈a.take i,p∈a.take na:=fun p hp=>by
  have e:a.take i=(a.take na).take i:=by rw [List.take_take,Nat.min_eq_left hi]
  rw [e] at hp
  exact List.mem_of_mem_take hp
 refine ⟨by have:=J.la; (first|lia|omega),J.lb,?_,List.pairwise_append.mpr ⟨c2,J.up,fun p hp q hq=>J.ba p (sub p hp) q hq⟩,fun p hp q hq=>?_,fun p hp q hq=>?_⟩
 ·have e:a.drop i=(a.take na).drop i++a.drop na:=by
   conv=>lhs; rw [← List.take_append_drop na a]
   rw [List.drop_append_of_le_length (by rw [List.length_take]; have:=J.la; (first|lia|omega))]
  rw [e,List.append_assoc]
  exact List.Perm.append_left _ J.pm
 ·rcases List.mem_append.mp hq with hq|hq
  ·exact c1 p hp q hq
  ·exact J.ba p (sub2 p hp) q hq
 ·rcases List.mem_append.mp hq with hq|hq
  ·exact h p hp q hq
  ·exact J.bb p hp q hq
theorem JH.chunkB {a b o:List Keyed} {na nb:Nat} (J:JH rk a b o na nb) (rb:Ris rk b) {i:Nat} (hi:i ≤ nb) (h:Blw rk (a.take na) ((b.take nb).drop i)):JH rk a b ((b.take nb).drop i++o) na i:=by
 obtain ⟨c1,c2⟩:=ris_take (i:=i) (n:=nb) rb hi
 have sub:∀ p∈(b.take nb).drop i,p∈b.take nb:=fun p hp=>List.mem_of_mem_drop hp
 have sub2:∀ p∈b.take i,p∈b.take nb:=fun p hp=>by
  have e:b.take i=(b.take nb).take i:=by rw [List.take_take,Nat.min_eq_left hi]
  rw [e] at hp
  exact List.mem_of_mem_take hp
 refine ⟨J.la,by have:=J.lb; (first|lia|omega),?_,List.pairwise_append.mpr ⟨c2,J.up,fun p hp q hq=>J.bb p (sub p hp) q hq⟩,fun p hp q hq=>?_,fun p hp q hq=>?_⟩
 ·have e:b.drop i=(b.take nb).drop i++b.drop nb:=by
   conv=>lhs; rw [← List.take_append_drop nb b]
   rw [List.drop_append_of_le_length (by rw [List.length_take]; have:=J.lb; (first|lia|omega))]
  rw [e]
  refine (List.Perm.append_left _ J.pm).trans ?_
  rw [← List.append_assoc,← List.append_assoc]
  exact List.Perm.append_right _ List.perm_append_comm
 ·rcases List.mem_append.mp hq with hq|hq
  ·exact h p hp q hq
  ·exact J.ba p hp q hq
 ·rcases List.mem_append.mp hq with hq|hq
  ·exact c1 p hp q hq
  ·exact J.bb p (sub2 p hp) q hq
theorem JH.endA {a b o:List Keyed} {na nb:Nat} (J:JH rk a b o na nb) (ra:Ris rk a) (h:nb=0):Fin2 rk a b (a.take na++o):=by
 have j:=J.chunkA ra (i:=0) (Nat.zero_le _) (by rw [h,List.take_zero]; exact fun p hp=>nomatch hp)
 rw [List.drop_zero] at j
 refine ⟨?_,j.up⟩
 have p:=j.pm
 rw [h,List.drop_zero,List.drop_zero] at p
 exact p
theorem JH.endB {a b o:List Keyed} {na nb:Nat} (J:JH rk a b o na nb) (rb:Ris rk b) (h:na=0):Fin2 rk a b (b.take nb++o):=by
 have j:=J.chunkB rb (i:=0) (Nat.zero_le _) (by rw [h,List.take_zero]; exact fun p hp=>nomatch hp)
 rw [List.drop_zero] at j
 refine ⟨?_,j.up⟩
 have p:=j.pm
 rw [h,List.drop_zero,List.drop_zero] at p
 exact p
theorem JH.endF {a b o:List Keyed} {na nb:Nat} (J:JH rk a b o na nb) (ra:Ris rk a) (rb:Ris rk b) (h:Blw rk (b.take nb) a):Fin2 rk a b (b.take nb++(a.take na++o)):=by
 have j:=J.chunkA ra (i:=0) (Nat.zero_le _) (fun p hp q hq=>h p hp q (by rw [List.drop_zero] at hq; exact List.mem_of_mem_take hq))
 rw [List.drop_zero] at j
 exact j.endB rb rfl
end
end L3
namespace L3
open PySem PySem.Spec PyProof.Rows L2
section
variable {prog:Program} {w:World} {A:Around} {E:Value→Shared→Prop} {s:Shared} {kd:SortKind} {rk:Value→Int} {ini:Array Keyed}
structure Two (rk:Value→Int) (ini a b:Array Keyed):Prop where
 ra:Ris rk a.toList
 rb:Ris rk b.toList
 ma:∀ p∈a.toList,p∈ini.toList
 mb:∀ p∈b.toList,p∈ini.toList
 ne:∀ p∈a.toList,∀ q∈b.toList,rk p.1≠rk q.1
structure Same (st z:SortSt):Prop where
 kd:kindOf z=kindOf st
 ar:arrOf z=arrOf st
 pd:pendingOf z=pendingOf st
 fl:failedOf z=failedOf st
theorem Same.rfl' (st:SortSt):Same st st:=⟨rfl,rfl,rfl,rfl⟩
theorem Same.tr {x y z:SortSt} (h:Same x y) (k:Same y z):Same x z:=⟨k.kd.trans h.kd,k.ar.trans h.ar,k.pd.trans h.pd,k.fl.trans h.fl⟩
theorem setG_ok {st:SortSt} {g:Nat} {Q:Unit→SortSt→Prop} (h:∀ z,Same st z→Q () z):wpS (model prog w) A E s (setMinGallop' g) Q st:=by
 refine wpS_modify (h _ ⟨rfl,rfl,rfl,rfl⟩)
theorem av_get {a:Array Keyed} {i:Nat} (h:i < a.size):av rk a i=rk a[i].1:=by unfold av; rw [getElem?_pos a i h]
theorem ris_lt {a:Array Keyed} (ra:Ris rk a.toList) {i j:Nat} (h:i < j) (hj:j < a.size):av rk a i < av rk a j:=by
 rw [av_get (by (first|lia|omega)),av_get hj]
 have:=List.pairwise_iff_getElem.mp ra i j (by simp; (first|lia|omega)) (by simpa using hj) h
 simpa using this
theorem seg_of {a:Array Keyed} {key:Keyed} {base n:Nat} (ra:Ris rk a.toList) (ma:∀ p∈a.toList,p∈ini.toList) (hk:key∈ini.toList) (ne:∀ p∈a.toList,rk p.1≠rk key.1) (hs:base+n ≤ a.size):Seg rk ini a key base n where
 sz:=hs
 mem:=ma
 hkey:=hk
 up:=fun i j h hj=>ris_lt ra (by (first|lia|omega)) (by (first|lia|omega))
 ne:=fun i h=>by rw [av_get (by (first|lia|omega))]; exact ne _ (by simp)
theorem mem_take_drop {a:Array Keyed} {i k:Nat} {p:Keyed} (h:p∈(a.toList.drop i).take k):∃ j,j < k∧∃ hj:i+j < a.size,p=a[i+j]:=by
 obtain ⟨j,hj,e⟩:=List.mem_iff_getElem.mp h
 rw [List.length_take,List.length_drop] at hj
 have hs:i+j < a.size:=by simp at hj; (first|lia|omega)
 refine ⟨j,by (first|lia|omega),hs,?_⟩
 rw [← e]
 simp
theorem mem_drop {a:Array Keyed} {i:Nat} {p:Keyed} (h:p∈a.toList.drop i):∃ j,i ≤ j∧∃ hj:j < a.size,p=a[j]:=by
 obtain ⟨j,hj,e⟩:=List.mem_iff_getElem.mp h
 rw [List.length_drop] at hj
 have hs:i+j < a.size:=by simp at hj; (first|lia|omega)
 refine ⟨i+j,by (first|lia|omega),hs,?_⟩
 rw [← e]
 simp
theorem place_of {a:Array Keyed} {key:Keyed} {base n k:Nat} (P:Place rk a key base n k) (hn:base+n=a.size):(∀ p∈(a.toList.drop base).take k,rk p.1 < rk key.1)∧∀ p∈a.toList.drop (base+k),rk key.1 < rk p.1:=by
 obtain ⟨p1,p2,p3⟩:=P
 constructor
 ·intro p hp
  obtain ⟨j,hj,hs,rfl⟩:=mem_take_drop hp
  have:=p2 j hj
  rwa [av_get hs] at this
 ·intro p hp
  obtain ⟨j,hj,hs,rfl⟩:=mem_drop hp
  have:=p3 (j - base) (by (first|lia|omega)) (by (first|lia|omega))
  rwa [show base+(j - base)=j by (first|lia|omega),av_get hs] at this
theorem one_take {a:Array Keyed} {i:Nat} (h:i < a.size):(a.toList.drop i).take 1=[a[i]]:=by
 rw [List.drop_eq_getElem_cons (by simpa using h)]
 simp
theorem head_le {a:Array Keyed} (ra:Ris rk a.toList) {i:Nat} (h:i < a.size) {p:Keyed} (hp:p∈a.toList.drop i):rk a[i].1 ≤ rk p.1:=by
 obtain ⟨j,hj,hs,rfl⟩:=mem_drop hp
 rcases Nat.lt_or_ge i j with c|c
 ·have:=ris_lt ra c hs
  rw [av_get h,av_get hs] at this
  (first|lia|omega)
 ·have:i=j:=by (first|lia|omega)
  subst this
  exact Int.le_refl _
theorem ext_list (a:Array Keyed) (i k:Nat):(a.extract i (i+k)).toList=(a.toList.drop i).take k:=by
 rw [Array.toList_extract,List.extract_eq_take_drop]
 simp
theorem ext_all (a:Array Keyed) (i:Nat):(a.extract i).toList=a.toList.drop i:=by
 rw [Array.toList_extract,List.extract_eq_take_drop]
 exact List.take_of_length_le (by simp)
theorem ite_ok {σ α:Type} {c:Prop} [Decidable c] {M:Model} {x y:StateT σ Sem α} {Q:α→σ→Prop} {st:σ} (h1:c→wpS M A E s x Q st) (h2:¬c→wpS M A E s y Q st):wpS M A E s (if c then x else y) Q st:=by
 by_cases h:c
 ·rw [if_pos h]; exact h1 h
 ·rw [if_neg h]; exact h2 h
theorem loop_s {σ:Type} {M:Model} {β γ:Type} {a b:Nat} {f:Nat→β→StateT σ Sem (ForInStep β)} {g:β→StateT σ Sem γ} (I:Nat→β→σ→Prop) {Q:β→σ→Prop} {R:γ→σ→Prop}
  (hstep:∀ (F:Nat→β→StateT σ Sem (ForInStep β)) (P:ForInStep β→σ→Prop),F=f→∀ i c st,a ≤ i→i < b→I i c st→(∀ c' st',Q c' st'→P (.done c') st')→(∀ c' st',I (i+1) c' st'→P (.yield c') st')→wpS M A E s (F i c) P st)
  (hend:∀ c st,I (max a b) c st→Q c st) {c:β} {st:σ} (h:I a c st) (post:∀ G,G=g→∀ c st,Q c st→wpS M A E s (G c) R st):wpS M A E s (forIn [a:b] c f >>= g) R st :=
 wpS_bind (wpS_mono (wpS_forRange I (fun i c st h1 h2 h3=>hstep f _ rfl i c st h1 h2 h3 (fun _ _ h=>h) (fun _ _ h=>h)) hend h) (post g rfl))
theorem ite_same {σ α:Type} {c:Prop} {dc:Decidable c} {M:Model} {f:Nat→StateT σ Sem α} {m n:Nat} {Q:α→σ→Prop} {st:σ} (h:∀ m,wpS M A E s (f m) Q st):wpS M A E s (if c then f m else f n) Q st:=ite_ok (fun _=>h m) (fun _=>h n)
theorem jp2_ok {σ α:Type} {M:Model} {f:Array Keyed→Nat→StateT σ Sem α} {P:Array Keyed→Nat→Prop} {x:StateT σ Sem α} {Q:α→σ→Prop} {st:σ} (h:∀ o i,P o i→wpS M A E s (f o i) Q st) (k:(∀ o i,P o i→wpS M A E s (f o i) Q st)→wpS M A E s x Q st):wpS M A E s x Q st:=k h
theorem jpr_ok {σ α:Type} {M:Model} {f:Nat→Array Keyed→StateT σ Sem α} {P:Nat→Array Keyed→Prop} {x:StateT σ Sem α} {Q:α→σ→Prop} {st:σ} (h:∀ i o,P i o→wpS M A E s (f i o) Q st) (k:(∀ i o,P i o→wpS M A E s (f i o) Q st)→wpS M A E s x Q st):wpS M A E s x Q st:=k h
theorem mergeLo_ok {st:SortSt} {a b:Array Keyed} {Q:Array Keyed→SortSt→Prop} (T:Tells prog w A s kd rk ini) (hk:kindOf st=kd) (W:Two rk ini a b) (ha:1 ≤ a.size) (hb:1 ≤ b.size)
  (first:∀ p∈a.toList,rk b[0].1 < rk p.1) (last:∀ q∈b.toList,rk q.1 < rk a[a.size - 1].1)
  (h:∀ o z,Fin2 rk a.toList b.toList o.toList→Same st z→Q o z):wpS (model prog w) A E s (mergeLo' a b) Q st:=by
 have la:a.toList.length=a.size:=by simp
 have lb:b.toList.length=b.size:=by simp
 have lst:∀ ia,ia+1=a.size→Blw rk b.toList (a.toList.drop ia):=fun ia e p hp q hq=>by
  obtain ⟨j,hj,hs,rfl⟩:=mem_drop hq
  have:=last p hp
  have e2:a[j]=a[a.size - 1]:=by congr 1; (first|lia|omega)
  rw [e2]
  exact this
 -- the three ends
 have dn:∀ (o:Array Keyed) ia ib z,JL rk a.toList b.toList o.toList ia ib→Same st z→(ia=a.size∨ib=b.size)→Q (o++a.extract ia++b.extract ib) z:=fun o ia ib z J hz hc=>by
  refine h _ z ?_ hz
  rw [Array.toList_append,Array.toList_append,ext_all,ext_all]
  rcases hc with hc|hc
  ·rw [List.drop_of_length_le (i:=ia) (by (first|lia|omega)),List.append_nil]
   exact J.endB W.rb (by (first|lia|omega))
  ·rw [List.drop_of_length_le (i:=ib) (l:=b.toList) (by (first|lia|omega)),List.append_nil]
   exact J.endA W.ra (by (first|lia|omega))
 have dl:∀ (o:Array Keyed) ia ib z,JL rk a.toList b.toList o.toList ia ib→Same st z→ia+1=a.size→Q (o++b.extract ib++a.extract ia) z:=fun o ia ib z J hz hc=>by
  refine h _ z ?_ hz
  rw [Array.toList_append,Array.toList_append,ext_all,ext_all]
  exact J.endL W.ra W.rb (lst ia hc)
 -- steps
 have pushB:∀ (o:Array Keyed) ia ib (hi:ib < b.size),JL rk a.toList b.toList o.toList ia ib→(∀ q∈a.toList.drop ia,rk b[ib].1 < rk q.1)→JL rk a.toList b.toList (o.push b[ib]).toList ia (ib+1):=fun o ia ib hi J hq=>by
  have:=J.chunkB W.rb (k:=1) (by (first|lia|omega)) (by rw [one_take hi]; intro p hp q hq'; rw [List.mem_singleton.mp hp]; exact hq q hq')
  rw [one_take hi] at this
  rw [Array.toList_push]
  exact this
 have pushA:∀ (o:Array Keyed) ia ib (hi:ia < a.size),JL rk a.toList b.toList o.toList ia ib→(∀ q∈b.toList.drop ib,rk a[ia].1 < rk q.1)→JL rk a.toList b.toList (o.push a[ia]).toList (ia+1) ib:=fun o ia ib hi J hq=>by
  have:=J.chunkA W.ra (k:=1) (by (first|lia|omega)) (by rw [one_take hi]; intro p hp q hq'; rw [List.mem_singleton.mp hp]; exact hq q hq')
  rw [one_take hi] at this
  rw [Array.toList_push]
  exact this
 have gA:∀ {i} (hi:i < a.size),a[i]?=some a[i]:=fun hi=>getElem?_pos a _ hi
 have gB:∀ {i} (hi:i < b.size),b[i]?=some b[i]:=fun hi=>getElem?_pos b _ hi
 refine wpS_bind (wpS_lift (wpAny_rule ⟨rfl,?_⟩))
 try dsimp -zeta -zetaHave only
 refine wpS_bind (at_ok (gB (show 0 < b.size by (first|lia|omega))) ?_)
 try dsimp -zeta -zetaHave only
 have J0:JL rk a.toList b.toList (#[]:Array Keyed).toList 0 0:=⟨Nat.zero_le _,Nat.zero_le _,by simp,by simp,fun p hp=>by simp at hp,fun p hp=>by simp at hp⟩
 have J1:JL rk a.toList b.toList (#[b[0]]:Array Keyed).toList 0 1:=pushB #[] 0 0 (by (first|lia|omega)) J0 (fun q hq=>first q (by simpa using hq))
 by_cases c1:1=b.size
 ·rw [if_pos (by simpa using c1)]
  exact wpS_pure (dn _ 0 1 st J1 (.rfl' st) (.inr c1))
 rw [if_neg (by simpa using c1)]
 by_cases c2:0+1=a.size
 ·rw [if_pos (by simpa using c2)]
  exact wpS_pure (dl _ 0 1 st J1 (.rfl' st) c2)
 rw [if_neg (by simpa using c2)]
 refine wpS_bind (wpS_get ?_)
 refine loop_s
  (fun x c z=>Same st z∧∃ o ia ib mg,c=(none,o,ia,ib,mg)∧JL rk a.toList b.toList o.toList ia ib∧ia+1 < a.size∧ib < b.size∧x+1 ≤ ia+ib)
  (Q:=fun c z=>∃ o,c.1=some o∧Q o z) (fun F P hF x c z _ lx hI hD hY=>?_) (fun c z hI=>?_) ⟨.rfl' st,_,_,_,_,rfl,J1,by (first|lia|omega),by (first|lia|omega),by (first|lia|omega)⟩ fun G hG c z hc=>?_
 ·obtain ⟨hz,o,ia,ib,mg,rfl,J,i1,i2,i3⟩:=hI
  subst hF
  dsimp -zeta -zetaHave only
  refine loop_s
   (fun x c y=>y=z∧∃ o ia' ib' ac bc,c=(none,o,ia',ib',ac,bc)∧JL rk a.toList b.toList o.toList ia' ib'∧ia'+1 < a.size∧ib' < b.size∧ia+ib ≤ ia'+ib')
   (Q:=fun c y=>(∃ o,c.1=some o∧Q o y)∨(y=z∧∃ o ia' ib' ac bc,c=(none,o,ia',ib',ac,bc)∧JL rk a.toList b.toList o.toList ia' ib'∧ia'+1 < a.size∧ib' < b.size∧ia+ib ≤ ia'+ib')) (fun F P hF x2 c y _ lx2 hK hD hY=>?_) (fun c y hK=>.inr hK) ⟨rfl,_,_,_,_,_,rfl,J,i1,i2,Nat.le_refl _⟩ fun G hG c y hc=>?_
  ·obtain ⟨rfl,o,ja,jb,ac,bc,rfl,J,k1,k2,k3⟩:=hK
   subst hF
   dsimp -zeta -zetaHave only
   have ja':ja < a.size:=by (first|lia|omega)
   refine wpS_bind (at_ok (gB k2) (wpS_bind (at_ok (gA ja') (wpS_bind (ask2 T (hz.kd.trans hk) (W.mb _ (by simp)) (W.ma _ (by simp)) ?_)))))
   by_cases d:rk b[jb].1 < rk a[ja].1
   ·rw [decide_eq_true d]
    try dsimp -zeta -zetaHave only
    rw [if_pos rfl]
    refine wpS_bind (at_ok (gB k2) ?_)
    try dsimp -zeta -zetaHave only
    have J':=pushB o ja jb k2 J (fun q hq=>by have:=head_le W.ra ja' hq; (first|lia|omega))
    by_cases e:jb+1=b.size
    ·rw [if_pos (by simpa using e)]
     exact wpS_pure (hD _ _ (.inl ⟨_,rfl,dn _ _ _ _ J' hz (.inr e)⟩))
    ·rw [if_neg (by simpa using e)]
     by_cases f:bc+1 ≥ mg
     ·rw [if_pos f]
      exact wpS_pure (hD _ _ (.inr ⟨rfl,_,_,_,_,_,rfl,J',k1,by (first|lia|omega),by (first|lia|omega)⟩))
     ·rw [if_neg f]
      exact wpS_pure (hY _ _ ⟨rfl,_,_,_,_,_,rfl,J',k1,by (first|lia|omega),by (first|lia|omega)⟩)
   ·rw [decide_eq_false d]
    try dsimp -zeta -zetaHave only
    rw [if_neg (by decide)]
    refine wpS_bind (at_ok (gA ja') ?_)
    try dsimp -zeta -zetaHave only
    have ne:=W.ne a[ja] (by simp) b[jb] (by simp)
    have J':=pushA o ja jb ja' J (fun q hq=>by have:=head_le W.rb k2 hq; (first|lia|omega))
    by_cases e:ja+1+1=a.size
    ·rw [if_pos (by simpa using e)]
     exact wpS_pure (hD _ _ (.inl ⟨_,rfl,dl _ _ _ _ J' hz e⟩))
    ·rw [if_neg (by simpa using e)]
     by_cases f:ac+1 ≥ mg
     ·rw [if_pos f]
      exact wpS_pure (hD _ _ (.inr ⟨rfl,_,_,_,_,_,rfl,J',by (first|lia|omega),k2,by (first|lia|omega)⟩))
     ·rw [if_neg f]
      exact wpS_pure (hY _ _ ⟨rfl,_,_,_,_,_,rfl,J',by (first|lia|omega),k2,by (first|lia|omega)⟩)
  ·rcases hc with ⟨o,e,q⟩|⟨rfl,o,ja,jb,ac,bc,rfl,J,k1,k2,k3⟩
   ·subst hG
    dsimp -zeta -zetaHave only
    rw [e]
    exact wpS_pure (hD _ _ ⟨o,rfl,q⟩)
   ·subst hG
    dsimp -zeta -zetaHave only
    refine wpS_bind (wpS_lift (wpAny_rule ⟨rfl,?_⟩))
    refine loop_s
     (fun x c y=>Same st y∧∃ o ia' ib' mg ac bc,c=(none,o,ia',ib',mg,ac,bc)∧JL rk a.toList b.toList o.toList ia' ib'∧ia'+1 < a.size∧ib' < b.size∧ia+ib+min x 1 ≤ ia'+ib')
     (Q:=fun c y=>(∃ o,c.1=some o∧Q o y)∨(Same st y∧∃ o ia' ib' mg ac bc,c=(none,o,ia',ib',mg,ac,bc)∧JL rk a.toList b.toList o.toList ia' ib'∧ia'+1 < a.size∧ib' < b.size∧ia+ib+1 ≤ ia'+ib')) (fun F P hF x3 c y _ lx3 hK hD hY=>?_) (fun c y hK=>?_) ⟨hz,_,_,_,_,_,_,rfl,J,k1,k2,by show _ ≤ ja+jb; (first|lia|omega)⟩ fun G hG c y hc=>?_
    ·clear J k1 k2 k3
     obtain ⟨hy0,o,ja,jb,mg2,ac,bc,rfl,J,k1,k2,k3⟩:=hK
     subst hF
     dsimp -zeta -zetaHave only
     extract_lets n1 n2 n3 n4 n5 n6 n7 n8 n9 n10 n11 n12 jp
     revert jp
     dsimp -zeta -zetaHave only [n1,n2,n3,n4,n5,n6,n7,n8,n9,n10,n11,n12]
     intro jp
     refine ite_same ?_
     intro mg3
     refine wpS_bind (setG_ok fun y2 hy2=>?_)
     have hy:=hy0.tr hy2
     have ja':ja < a.size:=by (first|lia|omega)
     refine wpS_bind (at_ok (gB k2) ?_)
     refine wpS_bind (gallop_ok T (hy.kd.trans hk) (seg_of W.ra W.ma (W.mb _ (by simp)) (fun p hp=>W.ne p hp b[jb] (by simp)) (by (first|lia|omega))) (by (first|lia|omega)) fun ka P=>?_)
     try dsimp -zeta -zetaHave only
     extract_lets acc jpB
     obtain ⟨pa1,pa2⟩:=place_of P (by (first|lia|omega))
     have kal:=P.1
     refine jp2_ok (f:=jpB ()) (P:=fun (o1:Array Keyed) (i1:Nat)=>JL rk a.toList b.toList o1.toList i1 jb∧i1+1 < a.size∧(∀ p∈a.toList.drop i1,rk b[jb].1 < rk p.1)∧ja ≤ i1) ?_ fun KB=>?_
     ·intro o1 i1 ⟨J1,hl1,pl2,ile⟩
      refine wpS_bind (at_ok (gB k2) ?_)
      try dsimp -zeta -zetaHave only
      extract_lets o2 i4
      have J2:JL rk a.toList b.toList o2.toList i1 (jb+1):=pushB o1 i1 jb k2 J1 pl2
      refine ite_ok (fun e3=>?_) fun e3=>?_
      ·have e3:jb+1=b.size:=by simpa using e3
       exact wpS_pure (hD _ _ (.inl ⟨_,rfl,dn _ _ _ _ J2 hy (.inr e3)⟩))
      have e3:¬ jb+1=b.size:=by simpa using e3
      have hi1:i1 < a.size:=by (first|lia|omega)
      refine wpS_bind (at_ok (gA hi1) ?_)
      refine wpS_bind (gallop_ok T (hy.kd.trans hk) (seg_of W.rb W.mb (W.ma _ (by simp)) (fun p hp=>(W.ne a[i1] (by simp) p hp).symm) (by (first|lia|omega))) (by (first|lia|omega)) fun kb P2=>?_)
      try dsimp -zeta -zetaHave only
      extract_lets bcc jpC
      obtain ⟨pb1,pb2⟩:=place_of P2 (by (first|lia|omega))
      have kbl:=P2.1
      refine jp2_ok (f:=jpC ()) (P:=fun (o3:Array Keyed) (j3:Nat)=>JL rk a.toList b.toList o3.toList i1 j3∧j3 < b.size∧(∀ p∈b.toList.drop j3,rk a[i1].1 < rk p.1)∧jb+1 ≤ j3) ?_ fun KC=>?_
      ·intro o3 j3 ⟨J3,hj3,pb,jle⟩
       refine wpS_bind (at_ok (gA hi1) ?_)
       try dsimp -zeta -zetaHave only
       extract_lets o4
       have J4:JL rk a.toList b.toList o4.toList (i1+1) j3:=pushA o3 i1 j3 hi1 J3 pb
       refine ite_ok (fun e5=>?_) fun e5=>?_
       ·have e5:i1+1+1=a.size:=by simpa using e5
        exact wpS_pure (hD _ _ (.inl ⟨_,rfl,dl _ _ _ _ J4 hy e5⟩))
       have e5:¬ i1+1+1=a.size:=by simpa using e5
       have f1:i1+1+1 < a.size:=by (first|lia|omega)
       have f2:ia+ib+1 ≤ i1+1+j3:=by (first|lia|omega)
       refine ite_ok (fun _=>wpS_pure (hD _ _ (.inr ⟨hy,_,_,_,_,_,_,rfl,J4,f1,hj3,f2⟩))) fun _=>wpS_pure (hY _ _ ⟨hy,_,_,_,_,_,_,rfl,J4,f1,hj3,by (first|lia|omega)⟩)
      ·refine ite_ok (fun kp2=>?_) fun kp2=>?_
       ·have J3:=J2.chunkB W.rb (k:=kb) (by (first|lia|omega)) (fun p hp q hq=>by have:=pb1 p hp; have:=head_le W.ra hi1 hq; (first|lia|omega))
        rw [← ext_list,← Array.toList_append] at J3
        refine ite_ok (fun e4=>?_) fun e4=>?_
        ·have e4:jb+1+kb=b.size:=by simpa using e4
         exact wpS_pure (hD _ _ (.inl ⟨_,rfl,dn _ _ _ _ J3 hy (.inr e4)⟩))
        have e4:¬ jb+1+kb=b.size:=by simpa using e4
        exact KC _ _ ⟨J3,by (first|lia|omega),pb2,by (first|lia|omega)⟩
       ·have kz:kb=0:=by (first|lia|omega)
        exact KC _ _ ⟨J2,by (first|lia|omega),by rw [kz] at pb2; simpa using pb2,Nat.le_refl _⟩
     ·refine ite_ok (fun kp=>?_) fun kp=>?_
      ·have J1:=J.chunkA W.ra (k:=ka) (by (first|lia|omega)) (fun p hp q hq=>by have:=pa1 p hp; have:=head_le W.rb k2 hq; (first|lia|omega))
       rw [← ext_list,← Array.toList_append] at J1
       refine ite_ok (fun e1=>?_) fun e1=>?_
       ·have e1:ja+ka+1=a.size:=by simpa using e1
        exact wpS_pure (hD _ _ (.inl ⟨_,rfl,dl _ _ _ _ J1 hy e1⟩))
       have e1:¬ ja+ka+1=a.size:=by simpa using e1
       refine ite_ok (fun e2=>?_) fun e2=>?_
       ·have e2:ja+ka=a.size:=by simpa using e2
        exact wpS_pure (hD _ _ (.inl ⟨_,rfl,dn _ _ _ _ J1 hy (.inl e2)⟩))
       have e2:¬ ja+ka=a.size:=by simpa using e2
       exact KB _ _ ⟨J1,by (first|lia|omega),pa2,by (first|lia|omega)⟩
      ·have kz0:ka=0:=by (first|lia|omega)
       exact KB _ _ ⟨J,k1,by rw [kz0] at pa2; simpa using pa2,Nat.le_refl _⟩
    ·obtain ⟨hy,o,ja,jb,mg2,ac,bc,rfl,J,k1,k2,k3⟩:=hK
     have mx:min (max 0 (a.size+b.size)) 1=1:=by (first|lia|omega)
     rw [mx] at k3
     exact .inr ⟨hy,_,_,_,_,_,_,rfl,J,k1,k2,k3⟩
    ·rcases hc with ⟨o,e,q⟩|⟨hy,o,ja,jb,mg2,ac,bc,rfl,J,k1,k2,k3⟩
     ·subst hG
      dsimp -zeta -zetaHave only
      rw [e]
      exact wpS_pure (hD _ _ ⟨o,rfl,q⟩)
     ·subst hG
      try dsimp -zeta -zetaHave only
      refine wpS_bind (setG_ok fun y2 hy2=>wpS_pure (hY _ _ ⟨hy.tr hy2,_,_,_,_,rfl,J,k1,k2,by show _ ≤ ja+jb; (first|lia|omega)⟩))
 ·obtain ⟨hz,o,ia,ib,mg,rfl,J,i1,i2,i3⟩:=hI
  (first|lia|omega)
 ·obtain ⟨o,e,q⟩:=hc
  subst hG
  dsimp -zeta -zetaHave only
  rw [e]
  exact wpS_pure q
end
end L3
namespace L3
open PySem PySem.Spec PyProof.Rows L2
section
variable {prog:Program} {w:World} {A:Around} {E:Value→Shared→Prop} {s:Shared} {kd:SortKind} {rk:Value→Int} {ini:Array Keyed}
theorem mem_take {a:Array Keyed} {n:Nat} {p:Keyed} (h:p∈a.toList.take n):∃ j,j < n∧∃ hj:j < a.size,p=a[j]:=by
 obtain ⟨j,hj,e⟩:=List.mem_iff_getElem.mp h
 rw [List.length_take] at hj
 have hs:j < a.size:=by simp at hj; (first|lia|omega)
 refine ⟨j,by (first|lia|omega),hs,?_⟩
 rw [← e]
 simp
theorem mem_take_drop2 {a:Array Keyed} {i n:Nat} {p:Keyed} (h:p∈(a.toList.take n).drop i):∃ j,i ≤ j∧j < n∧∃ hj:j < a.size,p=a[j]:=by
 obtain ⟨j,hj,e⟩:=List.mem_iff_getElem.mp h
 rw [List.length_drop,List.length_take] at hj
 have hs:i+j < a.size:=by simp at hj; (first|lia|omega)
 refine ⟨i+j,by (first|lia|omega),by (first|lia|omega),hs,?_⟩
 rw [← e]
 simp
theorem placeH_of {a:Array Keyed} {key:Keyed} {n k:Nat} (P:Place rk a key 0 n k) (hn:n ≤ a.size):(∀ p∈a.toList.take k,rk p.1 < rk key.1)∧∀ p∈(a.toList.take n).drop k,rk key.1 < rk p.1:=by
 obtain ⟨p1,p2,p3⟩:=P
 constructor
 ·intro p hp
  obtain ⟨j,hj,hs,rfl⟩:=mem_take hp
  have:=p2 j hj
  rwa [Nat.zero_add,av_get hs] at this
 ·intro p hp
  obtain ⟨j,hj,hj2,hs,rfl⟩:=mem_take_drop2 hp
  have:=p3 j hj hj2
  rwa [Nat.zero_add,av_get hs] at this
theorem one_dropH {a:Array Keyed} {n:Nat} (h1:1 ≤ n) (h:n ≤ a.size):(a.toList.take n).drop (n - 1)=[a[n - 1]]:=by
 rw [List.drop_eq_getElem_cons (by rw [List.length_take]; simp; (first|lia|omega)),List.drop_of_length_le (by rw [List.length_take]; (first|lia|omega))]
 simp
theorem last_ge {a:Array Keyed} (ra:Ris rk a.toList) {n:Nat} (h1:1 ≤ n) (h:n ≤ a.size) {p:Keyed} (hp:p∈a.toList.take n):rk p.1 ≤ rk a[n - 1].1:=by
 obtain ⟨j,hj,hs,rfl⟩:=mem_take hp
 rcases Nat.lt_or_ge j (n - 1) with c|c
 ·have:=ris_lt ra c (by (first|lia|omega))
  rw [av_get hs,av_get (by (first|lia|omega))] at this
  (first|lia|omega)
 ·have:j=n - 1:=by (first|lia|omega)
  subst this
  exact Int.le_refl _
theorem ext_listH (a:Array Keyed) {i n:Nat} (h:i ≤ n):(a.extract i n).toList=(a.toList.take n).drop i:=by
 rw [Array.toList_extract,List.extract_eq_take_drop,List.drop_take]
theorem ext_lead (a:Array Keyed) (n:Nat):(a.extract 0 n).toList=a.toList.take n:=by
 rw [Array.toList_extract,List.extract_eq_take_drop]
 simp
theorem mergeHi_ok {st:SortSt} {a b:Array Keyed} {Q:Array Keyed→SortSt→Prop} (T:Tells prog w A s kd rk ini) (hk:kindOf st=kd) (W:Two rk ini a b) (ha:1 ≤ a.size) (hb:1 ≤ b.size)
  (first:∀ p∈a.toList,rk b[0].1 < rk p.1) (last:∀ q∈b.toList,rk q.1 < rk a[a.size - 1].1)
  (h:∀ o z,Fin2 rk a.toList b.toList o.toList→Same st z→Q o z):wpS (model prog w) A E s (mergeHi' a b) Q st:=by
 have la:a.toList.length=a.size:=by simp
 have lb:b.toList.length=b.size:=by simp
 have dn:∀ (o:Array Keyed) na nb z,JH rk a.toList b.toList o.toList.reverse na nb→Same st z→(na=0∨nb=0)→Q (a.extract 0 na++b.extract 0 nb++o.reverse) z:=fun o na nb z J hz hc=>by
  refine h _ z ?_ hz
  rw [Array.toList_append,Array.toList_append,ext_lead,ext_lead,Array.toList_reverse]
  rcases hc with hc|hc
  ·subst hc
   rw [List.take_zero,List.nil_append]
   exact J.endB W.rb rfl
  ·subst hc
   rw [List.take_zero,List.append_nil]
   exact J.endA W.ra rfl
 have df:∀ (o:Array Keyed) na nb z,JH rk a.toList b.toList o.toList.reverse na nb→Same st z→nb=1→Q (b.extract 0 nb++a.extract 0 na++o.reverse) z:=fun o na nb z J hz hc=>by
  refine h _ z ?_ hz
  rw [Array.toList_append,Array.toList_append,ext_lead,ext_lead,Array.toList_reverse,List.append_assoc]
  refine J.endF W.ra W.rb fun p hp q hq=>?_
  obtain ⟨j,hj,hs,rfl⟩:=mem_take hp
  have e:b[j]=b[0]:=by congr 1; (first|lia|omega)
  rw [e]
  exact first q hq
 have pushB:∀ (o:Array Keyed) na nb (h1:1 ≤ nb) (hi:nb ≤ b.size),JH rk a.toList b.toList o.toList.reverse na nb→(∀ q∈a.toList.take na,rk q.1 < rk b[nb - 1].1)→JH rk a.toList b.toList (o.push b[nb - 1]).toList.reverse na (nb - 1):=fun o na nb h1 hi J hq=>by
  have:=J.chunkB W.rb (i:=nb - 1) (by (first|lia|omega)) (by rw [one_dropH h1 hi]; intro p hp q hq'; rw [List.mem_singleton.mp hq']; exact hq p hp)
  rw [one_dropH h1 hi] at this
  rw [Array.toList_push,List.reverse_append]
  exact this
 have pushA:∀ (o:Array Keyed) na nb (h1:1 ≤ na) (hi:na ≤ a.size),JH rk a.toList b.toList o.toList.reverse na nb→(∀ q∈b.toList.take nb,rk q.1 < rk a[na - 1].1)→JH rk a.toList b.toList (o.push a[na - 1]).toList.reverse (na - 1) nb:=fun o na nb h1 hi J hq=>by
  have:=J.chunkA W.ra (i:=na - 1) (by (first|lia|omega)) (by rw [one_dropH h1 hi]; intro p hp q hq'; rw [List.mem_singleton.mp hq']; exact hq p hp)
  rw [one_dropH h1 hi] at this
  rw [Array.toList_push,List.reverse_append]
  exact this
 have revA:∀ (o:Array Keyed) i n,i ≤ n→(o++(a.extract i n).reverse).toList.reverse=(a.toList.take n).drop i++o.toList.reverse:=fun o i n hi=>by
  rw [Array.toList_append,List.reverse_append,Array.toList_reverse,List.reverse_reverse,ext_listH a hi]
 have revB:∀ (o:Array Keyed) i n,i ≤ n→(o++(b.extract i n).reverse).toList.reverse=(b.toList.take n).drop i++o.toList.reverse:=fun o i n hi=>by
  rw [Array.toList_append,List.reverse_append,Array.toList_reverse,List.reverse_reverse,ext_listH b hi]
 have gA:∀ {i} (hi:i < a.size),a[i]?=some a[i]:=fun hi=>getElem?_pos a _ hi
 have gB:∀ {i} (hi:i < b.size),b[i]?=some b[i]:=fun hi=>getElem?_pos b _ hi
 refine wpS_bind (wpS_lift (wpAny_rule ⟨rfl,?_⟩))
 try dsimp -zeta -zetaHave only
 refine wpS_bind (at_ok (gA (show a.size - 1 < a.size by (first|lia|omega))) ?_)
 have J0:JH rk a.toList b.toList (#[]:Array Keyed).toList.reverse a.size b.size:=⟨by (first|lia|omega),by (first|lia|omega),by simp,by simp,fun p _ q hq=>by simp at hq,fun p _ q hq=>by simp at hq⟩
 have J1:JH rk a.toList b.toList (#[a[a.size - 1]]:Array Keyed).toList.reverse (a.size - 1) b.size:=pushA #[] a.size b.size ha (Nat.le_refl _) J0 (fun q hq=>last q (List.mem_of_mem_take hq))
 by_cases c1:a.size - 1=0
 ·rw [if_pos (by simpa using c1)]
  exact wpS_pure (dn _ _ _ st J1 (.rfl' st) (.inl c1))
 rw [if_neg (by simpa using c1)]
 by_cases c2:b.size=1
 ·rw [if_pos (by simpa using c2)]
  exact wpS_pure (df _ _ _ st J1 (.rfl' st) c2)
 rw [if_neg (by simpa using c2)]
 refine wpS_bind (wpS_get ?_)
 refine loop_s
  (fun x c z=>Same st z∧∃ na nb o mg,c=(none,na,nb,o,mg)∧JH rk a.toList b.toList o.toList.reverse na nb∧1 ≤ na∧2 ≤ nb∧x+1+(na+nb) ≤ a.size+b.size)
  (Q:=fun c z=>∃ o,c.1=some o∧Q o z) (fun F P hF x c z _ lx hI hD hY=>?_) (fun c z hI=>?_) ⟨.rfl' st,_,_,_,_,rfl,J1,by (first|lia|omega),by (first|lia|omega),by (first|lia|omega)⟩ fun G hG c z hc=>?_
 ·obtain ⟨hz,na,nb,o,mg,rfl,J,i1,i2,i3⟩:=hI
  subst hF
  dsimp -zeta -zetaHave only
  refine loop_s
   (fun x c y=>y=z∧∃ na' nb' o ac bc,c=(none,na',nb',o,ac,bc)∧JH rk a.toList b.toList o.toList.reverse na' nb'∧1 ≤ na'∧2 ≤ nb'∧na'+nb' ≤ na+nb)
   (Q:=fun c y=>(∃ o,c.1=some o∧Q o y)∨(y=z∧∃ na' nb' o ac bc,c=(none,na',nb',o,ac,bc)∧JH rk a.toList b.toList o.toList.reverse na' nb'∧1 ≤ na'∧2 ≤ nb'∧na'+nb' ≤ na+nb)) (fun F P hF x2 c y _ lx2 hK hD hY=>?_) (fun c y hK=>.inr hK) ⟨rfl,_,_,_,_,_,rfl,J,i1,i2,Nat.le_refl _⟩ fun G hG c y hc=>?_
  ·obtain ⟨rfl,ja,jb,o,ac,bc,rfl,J,k1,k2,k3⟩:=hK
   subst hF
   dsimp -zeta -zetaHave only
   have jal:ja ≤ a.size:=by have:=J.la; (first|lia|omega)
   have jbl:jb ≤ b.size:=by have:=J.lb; (first|lia|omega)
   have ja':ja - 1 < a.size:=by (first|lia|omega)
   have jb':jb - 1 < b.size:=by (first|lia|omega)
   refine wpS_bind (at_ok (gB jb') (wpS_bind (at_ok (gA ja') (wpS_bind (ask2 T (hz.kd.trans hk) (W.mb _ (by simp)) (W.ma _ (by simp)) ?_)))))
   by_cases d:rk b[jb - 1].1 < rk a[ja - 1].1
   ·rw [decide_eq_true d]
    try dsimp -zeta -zetaHave only
    rw [if_pos rfl]
    refine wpS_bind (at_ok (gA ja') ?_)
    try dsimp -zeta -zetaHave only
    have J':=pushA o ja jb k1 jal J (fun q hq=>by have:=last_ge W.rb (by (first|lia|omega)) jbl hq; (first|lia|omega))
    by_cases e:ja - 1=0
    ·rw [if_pos (by simpa using e)]
     exact wpS_pure (hD _ _ (.inl ⟨_,rfl,dn _ _ _ _ J' hz (.inl e)⟩))
    ·rw [if_neg (by simpa using e)]
     refine ite_ok (fun _=>wpS_pure (hD _ _ (.inr ⟨rfl,_,_,_,_,_,rfl,J',by (first|lia|omega),k2,by (first|lia|omega)⟩))) fun _=>wpS_pure (hY _ _ ⟨rfl,_,_,_,_,_,rfl,J',by (first|lia|omega),k2,by (first|lia|omega)⟩)
   ·rw [decide_eq_false d]
    try dsimp -zeta -zetaHave only
    rw [if_neg (by decide)]
    refine wpS_bind (at_ok (gB jb') ?_)
    try dsimp -zeta -zetaHave only
    have ne:=W.ne a[ja - 1] (by simp) b[jb - 1] (by simp)
    have J':=pushB o ja jb (by (first|lia|omega)) jbl J (fun q hq=>by have:=last_ge W.ra k1 jal hq; (first|lia|omega))
    by_cases e:jb - 1=1
    ·rw [if_pos (by simpa using e)]
     exact wpS_pure (hD _ _ (.inl ⟨_,rfl,df _ _ _ _ J' hz e⟩))
    ·rw [if_neg (by simpa using e)]
     refine ite_ok (fun _=>wpS_pure (hD _ _ (.inr ⟨rfl,_,_,_,_,_,rfl,J',k1,by (first|lia|omega),by (first|lia|omega)⟩))) fun _=>wpS_pure (hY _ _ ⟨rfl,_,_,_,_,_,rfl,J',k1,by (first|lia|omega),by (first|lia|omega)⟩)
  ·rcases hc with ⟨o,e,q⟩|⟨rfl,ja,jb,o,ac,bc,rfl,J,k1,k2,k3⟩
   ·subst hG
    dsimp -zeta -zetaHave only
    rw [e]
    exact wpS_pure (hD _ _ ⟨o,rfl,q⟩)
   ·subst hG
    try dsimp -zeta -zetaHave only
    refine wpS_bind (wpS_lift (wpAny_rule ⟨rfl,?_⟩))
    refine loop_s
     (fun x c y=>Same st y∧∃ na' nb' o mg ac bc,c=(none,na',nb',o,mg,ac,bc)∧JH rk a.toList b.toList o.toList.reverse na' nb'∧1 ≤ na'∧2 ≤ nb'∧na'+nb'+min x 1 ≤ na+nb)
     (Q:=fun c y=>(∃ o,c.1=some o∧Q o y)∨(Same st y∧∃ na' nb' o mg ac bc,c=(none,na',nb',o,mg,ac,bc)∧JH rk a.toList b.toList o.toList.reverse na' nb'∧1 ≤ na'∧2 ≤ nb'∧na'+nb'+1 ≤ na+nb)) (fun F P hF x3 c y _ lx3 hK hD hY=>?_) (fun c y hK=>?_) ⟨hz,_,_,_,_,_,_,rfl,J,k1,k2,by show ja+jb+_ ≤ _; (first|lia|omega)⟩ fun G hG c y hc=>?_
    ·clear J k1 k2 k3
     obtain ⟨hy0,ja,jb,o,mg2,ac,bc,rfl,J,k1,k2,k3⟩:=hK
     subst hF
     dsimp -zeta -zetaHave only
     extract_lets n1 n2 n3 n4 n5 n6 n7 n8 n9 n10 n11 n12 jp
     revert jp
     dsimp -zeta -zetaHave only [n1,n2,n3,n4,n5,n6,n7,n8,n9,n10,n11,n12]
     intro jp
     refine ite_same ?_
     intro mg3
     refine wpS_bind (setG_ok fun y2 hy2=>?_)
     have hy:=hy0.tr hy2
     have jal:ja ≤ a.size:=by have:=J.la; (first|lia|omega)
     have jbl:jb ≤ b.size:=by have:=J.lb; (first|lia|omega)
     have jb':jb - 1 < b.size:=by (first|lia|omega)
     refine wpS_bind (at_ok (gB jb') ?_)
     refine wpS_bind (gallop_ok T (hy.kd.trans hk) (seg_of W.ra W.ma (W.mb _ (by simp)) (fun p hp=>W.ne p hp b[jb - 1] (by simp)) (by (first|lia|omega))) (by (first|lia|omega)) fun ka P=>?_)
     try dsimp -zeta -zetaHave only
     extract_lets k0 acc jpB
     obtain ⟨pa1,pa2⟩:=placeH_of P (by (first|lia|omega))
     have kal:=P.1
     refine jpr_ok (f:=jpB ()) (P:=fun (i1:Nat) (o1:Array Keyed)=>JH rk a.toList b.toList o1.toList.reverse i1 jb∧1 ≤ i1∧i1 ≤ a.size∧(∀ p∈a.toList.take i1,rk p.1 < rk b[jb - 1].1)∧i1 ≤ ja) ?_ fun KB=>?_
     ·intro i1 o1 ⟨J1,hi1,ial,pl2,ile⟩
      refine wpS_bind (at_ok (gB jb') ?_)
      try dsimp -zeta -zetaHave only
      extract_lets o2
      have J2:JH rk a.toList b.toList o2.toList.reverse i1 (jb - 1):=pushB o1 i1 jb (by (first|lia|omega)) jbl J1 pl2
      refine ite_ok (fun e3=>?_) fun e3=>?_
      ·have e3:jb - 1=1:=by simpa using e3
       exact wpS_pure (hD _ _ (.inl ⟨_,rfl,df _ _ _ _ J2 hy e3⟩))
      have e3:¬ jb - 1=1:=by simpa using e3
      refine wpS_bind (at_ok (gA (show i1 - 1 < a.size by (first|lia|omega))) ?_)
      refine wpS_bind (gallop_ok T (hy.kd.trans hk) (seg_of W.rb W.mb (W.ma _ (by simp)) (fun p hp=>(W.ne a[i1 - 1] (by simp) p hp).symm) (by (first|lia|omega))) (by (first|lia|omega)) fun kb P2=>?_)
      try dsimp -zeta -zetaHave only
      extract_lets k5 bcc jpC
      obtain ⟨pb1,pb2⟩:=placeH_of P2 (by (first|lia|omega))
      have kbl:=P2.1
      refine jpr_ok (f:=jpC ()) (P:=fun (j3:Nat) (o3:Array Keyed)=>JH rk a.toList b.toList o3.toList.reverse i1 j3∧2 ≤ j3∧(∀ p∈b.toList.take j3,rk p.1 < rk a[i1 - 1].1)∧j3 < jb) ?_ fun KC=>?_
      ·intro j3 o3 ⟨J3,hj3,pb,jle⟩
       refine wpS_bind (at_ok (gA (show i1 - 1 < a.size by (first|lia|omega))) ?_)
       try dsimp -zeta -zetaHave only
       extract_lets o4
       have J4:JH rk a.toList b.toList o4.toList.reverse (i1 - 1) j3:=pushA o3 i1 j3 hi1 ial J3 pb
       refine ite_ok (fun e5=>?_) fun e5=>?_
       ·have e5:i1 - 1=0:=by simpa using e5
        exact wpS_pure (hD _ _ (.inl ⟨_,rfl,dn _ _ _ _ J4 hy (.inl e5)⟩))
       have e5:¬ i1 - 1=0:=by simpa using e5
       have f1:1 ≤ i1 - 1:=by (first|lia|omega)
       have f2:i1 - 1+j3+1 ≤ na+nb:=by (first|lia|omega)
       refine ite_ok (fun _=>wpS_pure (hD _ _ (.inr ⟨hy,_,_,_,_,_,_,rfl,J4,f1,hj3,f2⟩))) fun _=>wpS_pure (hY _ _ ⟨hy,_,_,_,_,_,_,rfl,J4,f1,hj3,by (first|lia|omega)⟩)
      ·refine ite_ok (fun kp2=>?_) fun kp2=>?_
       ·have kp2:jb - 1 - kb > 0:=kp2
        have J3:=J2.chunkB W.rb (i:=kb) (by (first|lia|omega)) (fun p hp q hq=>by have:=pb2 q hq; have:=last_ge W.ra hi1 ial hp; (first|lia|omega))
        rw [← revB _ _ _ (by (first|lia|omega))] at J3
        refine ite_ok (fun e4=>?_) fun e4=>?_
        ·have e4:kb=1:=by simpa using e4
         exact wpS_pure (hD _ _ (.inl ⟨_,rfl,df _ _ _ _ J3 hy e4⟩))
        have e4:¬ kb=1:=by simpa using e4
        refine ite_ok (fun e6=>?_) fun e6=>?_
        ·have e6:kb=0:=by simpa using e6
         exact wpS_pure (hD _ _ (.inl ⟨_,rfl,dn _ _ _ _ J3 hy (.inr e6)⟩))
        have e6:¬ kb=0:=by simpa using e6
        exact KC _ _ ⟨J3,by (first|lia|omega),pb1,by (first|lia|omega)⟩
       ·have kp2:¬ jb - 1 - kb > 0:=kp2
        have kz:kb=jb - 1:=by (first|lia|omega)
        exact KC _ _ ⟨J2,by (first|lia|omega),by rw [kz] at pb1; exact pb1,by (first|lia|omega)⟩
     ·refine ite_ok (fun kp=>?_) fun kp=>?_
      ·have kp:ja - ka > 0:=kp
       have J1:=J.chunkA W.ra (i:=ka) (by (first|lia|omega)) (fun p hp q hq=>by have:=pa2 q hq; have:=last_ge W.rb (by (first|lia|omega)) jbl hp; (first|lia|omega))
       rw [← revA _ _ _ (by (first|lia|omega))] at J1
       refine ite_ok (fun e1=>?_) fun e1=>?_
       ·have e1:ka=0:=by simpa using e1
        exact wpS_pure (hD _ _ (.inl ⟨_,rfl,dn _ _ _ _ J1 hy (.inl e1)⟩))
       have e1:¬ ka=0:=by simpa using e1
       exact KB _ _ ⟨J1,by (first|lia|omega),by (first|lia|omega),pa1,by (first|lia|omega)⟩
      ·have kp:¬ ja - ka > 0:=kp
       have kz0:ka=ja:=by (first|lia|omega)
       exact KB _ _ ⟨J,k1,jal,by rw [kz0] at pa1; exact pa1,Nat.le_refl _⟩
    ·obtain ⟨hy,ja,jb,o,mg2,ac,bc,rfl,J,k1,k2,k3⟩:=hK
     have mx:min (max 0 (a.size+b.size)) 1=1:=by (first|lia|omega)
     rw [mx] at k3
     exact .inr ⟨hy,_,_,_,_,_,_,rfl,J,k1,k2,k3⟩
    ·rcases hc with ⟨o,e,q⟩|⟨hy,ja,jb,o,mg2,ac,bc,rfl,J,k1,k2,k3⟩
     ·subst hG
      dsimp -zeta -zetaHave only
      rw [e]
      exact wpS_pure (hD _ _ ⟨o,rfl,q⟩)
     ·subst hG
      try dsimp -zeta -zetaHave only
      refine wpS_bind (setG_ok fun y2 hy2=>wpS_pure (hY _ _ ⟨hy.tr hy2,_,_,_,_,rfl,J,k1,k2,by show _+(ja+jb) ≤ _; (first|lia|omega)⟩))
 ·obtain ⟨hz,na,nb,o,mg,rfl,J,i1,i2,i3⟩:=hI
  (first|lia|omega)
 ·obtain ⟨o,e,q⟩:=hc
  subst hG
  dsimp -zeta -zetaHave only
  rw [e]
  exact wpS_pure q
end
end L3
namespace L3
open PySem PySem.Spec PyProof.Rows L2
section
variable {prog:Program} {w:World} {A:Around} {E:Value→Shared→Prop} {s:Shared} {kd:SortKind} {rk:Value→Int} {ini:Array Keyed}
theorem wpS_put {σ:Type} {M:Model} {x st:σ} {Q:PUnit→σ→Prop} (h:Q ⟨⟩ x):wpS M A E s (set x:StateT σ Sem PUnit) Q st:=by
 unfold wpS
 show wpAny M A (pure (PUnit.unit,x)) _ E s
 exact wpAny_pure ⟨rfl,h⟩
theorem write_list:∀ (m:List Keyed) (k:Nat) (xs:Array Keyed) (i:Nat),i+k+m.length ≤ xs.toList.length →
  ((m.zipIdx k).foldl (fun (a:Array Keyed) (p:Keyed×Nat)=>a.setIfInBounds (i+p.2) p.1) xs).toList=xs.toList.take (i+k)++m++xs.toList.drop (i+k+m.length)
 | [],k,xs,i,h=>by simp
 | p::m,k,xs,i,h=>by
  rw [List.length_cons] at h
  have hs:i+k < xs.toList.length:=by (first|lia|omega)
  have ln:(xs.setIfInBounds (i+k) p).toList.length=xs.toList.length:=by simp
  rw [List.zipIdx_cons,List.foldl_cons,write_list m (k+1) _ i (by rw [ln]; (first|lia|omega))]
  simp only [Array.toList_setIfInBounds]
  rw [List.take_set,List.drop_set,if_pos (by (first|lia|omega))]
  have e1:(xs.toList.take (i+(k+1))).set (i+k) p=xs.toList.take (i+k)++[p]:=by
   rw [show i+(k+1)=i+k+1 by (first|lia|omega),List.take_succ_eq_append_getElem hs,List.set_append_right _ _ (by rw [List.length_take]; (first|lia|omega)),List.length_take,Nat.min_eq_left (by (first|lia|omega)),Nat.sub_self]
   rfl
  rw [e1,List.append_assoc,List.append_assoc,List.append_assoc,List.length_cons,show i+(k+1)+m.length=i+k+(m.length+1) by (first|lia|omega)]
  rfl
theorem av_list {arr:Array Keyed} {P X R:List Keyed} (e:arr.toList=P++(X++R)) {i:Nat} (h:i < X.length):arr[P.length+i]?=some X[i]∧av rk arr (P.length+i)=rk X[i].1:=by
 have g:arr[P.length+i]?=some X[i]:=by
  have:arr[P.length+i]?=arr.toList[P.length+i]?:=by simp
  rw [this,e,List.getElem?_append_right (by (first|lia|omega)),Nat.add_sub_cancel_left,List.getElem?_append_left h,List.getElem?_eq_getElem h]
 exact ⟨g,by unfold av; rw [g]⟩
theorem mergeAt_ok {st:SortSt} {i pw pw2:Nat} {P X Y R:List Keyed} {Q:Bool→SortSt→Prop} (T:Tells prog w A s kd rk ini) (hk:kindOf st=kd) (hf:failedOf st=none) (ar:(arrOf st).toList=P++(X++(Y++R))) (pm:(arrOf st).toList.Perm ini.toList)
  (hx:1 ≤ X.length) (hy:1 ≤ Y.length) (rx:Ris rk X) (ry:Ris rk Y) (p1:(pendingOf st)[i]?=some (P.length,X.length,pw)) (p2:(pendingOf st)[i+1]?=some (P.length+X.length,Y.length,pw2))
  (h:∀ z M,M.Perm (X++Y)→Ris rk M→(arrOf z).toList=P++(M++R)→kindOf z=kd→failedOf z=none→pendingOf z=((pendingOf st).setIfInBounds i (P.length,X.length+Y.length,pw)).eraseIdxIfInBounds (i+1)→Q true z) :
  wpS (model prog w) A E s (mergeAt' i) Q st:=by
 have ar2:(arrOf st).toList=(P++X)++(Y++R):=by rw [ar,List.append_assoc]
 have lpx:(P++X).length=P.length+X.length:=List.length_append
 have mem:∀ p∈(arrOf st).toList,p∈ini.toList:=fun p hp=>pm.mem_iff.mp hp
 have mX:∀ p∈X,p∈ini.toList:=fun p hp=>mem p (by rw [ar]; simp [hp])
 have mY:∀ p∈Y,p∈ini.toList:=fun p hp=>mem p (by rw [ar]; simp [hp])
 have nd:((arrOf st).toList.map fun p=>rk p.1).Nodup:=(pm.map _).nodup_iff.mpr T.nd
 have dis:∀ p∈X,∀ q∈Y,rk p.1≠rk q.1:=by
  rw [ar,List.map_append,List.map_append,List.map_append] at nd
  have n2:=(List.nodup_append.mp nd).2.1
  have n3:=(List.nodup_append.mp n2).2.2
  intro p hp q hq
  exact n3 _ (List.mem_map.mpr ⟨p,hp,rfl⟩) _ (List.mem_append_left _ (List.mem_map.mpr ⟨q,hq,rfl⟩))
 have size:(arrOf st).size=P.length+X.length+Y.length+R.length:=by
  have:=congrArg List.length ar
  simp at this
  (first|lia|omega)
 have gX:∀ {j} (hj:j < X.length),(arrOf st)[P.length+j]?=some X[j]∧av rk (arrOf st) (P.length+j)=rk X[j].1:=fun hj=>av_list ar hj
 have gY:∀ {j} (hj:j < Y.length),(arrOf st)[P.length+X.length+j]?=some Y[j]∧av rk (arrOf st) (P.length+X.length+j)=rk Y[j].1:=fun {j} hj=>by
  have:=av_list (rk:=rk) ar2 hj
  rwa [lpx] at this
 have rX:∀ i j (h:i < j) (hj:j < X.length),rk (X[i]'(by (first|lia|omega))).1 < rk X[j].1:=fun i j h hj=>List.pairwise_iff_getElem.mp rx i j (by (first|lia|omega)) hj h
 have rY:∀ i j (h:i < j) (hj:j < Y.length),rk (Y[i]'(by (first|lia|omega))).1 < rk Y[j].1:=fun i j h hj=>List.pairwise_iff_getElem.mp ry i j (by (first|lia|omega)) hj h
 have y0:0 < Y.length:=by (first|lia|omega)
 -- a whole row that rises
 have whole:(∀ p∈X,∀ q∈Y,rk p.1 < rk q.1)→Ris rk (X++Y):=fun z=>List.pairwise_append.mpr ⟨rx,ry,z⟩
 have headY:∀ q∈Y,rk (Y[0]'y0).1 ≤ rk q.1:=fun q hq=>by
  obtain ⟨j,hj,rfl⟩:=List.mem_iff_getElem.mp hq
  rcases Nat.eq_zero_or_pos j with c|c
  ·subst c; exact Int.le_refl _
  ·exact Int.le_of_lt (rY 0 j c hj)
 have lastX:∀ p∈X,rk p.1 ≤ rk (X[X.length - 1]'(by (first|lia|omega))).1:=fun p hp=>by
  obtain ⟨j,hj,rfl⟩:=List.mem_iff_getElem.mp hp
  rcases Nat.lt_or_ge j (X.length - 1) with c|c
  ·exact Int.le_of_lt (rX j _ c (by (first|lia|omega)))
  ·have:j=X.length - 1:=by (first|lia|omega)
   subst this
   exact Int.le_refl _
 refine wpS_bind (wpS_get ?_)
 try dsimp only
 rw [show (pendingOf st)[i]?=_ from p1,show (pendingOf st)[i+1]?=_ from p2]
 try dsimp only
 refine wpS_bind (wpS_put ?_)
 show wpS (model prog w) A E s _ Q (SortSt.mk' (kindOf st) (arrOf st) (((pendingOf st).setIfInBounds i (P.length,X.length+Y.length,pw)).eraseIdxIfInBounds (i+1)) (gallopOf st) (failedOf st))
 generalize ez:SortSt.mk' (kindOf st) (arrOf st) (((pendingOf st).setIfInBounds i (P.length,X.length+Y.length,pw)).eraseIdxIfInBounds (i+1)) (gallopOf st) (failedOf st)=z0
 have z1:arrOf z0=arrOf st:=by rw [← ez]
 have z2:kindOf z0=kd:=by rw [← ez]; exact hk
 have z3:failedOf z0=none:=by rw [← ez]; exact hf
 have z4:pendingOf z0=((pendingOf st).setIfInBounds i (P.length,X.length+Y.length,pw)).eraseIdxIfInBounds (i+1):=by rw [← ez]
 have fin:(∀ p∈X,∀ q∈Y,rk p.1 < rk q.1)→Q true z0:=fun hh=>h z0 (X++Y) (List.Perm.refl _) (whole hh) (by rw [z1,ar,List.append_assoc]) z2 z3 z4
 have sg1:Seg rk ini (arrOf st) (Y[0]'y0) P.length X.length:=⟨by (first|lia|omega),mem,mY _ (by simp),fun a b hab hb=>by rw [(gX (by (first|lia|omega))).2,(gX hb).2]; exact rX a b hab hb,fun a ha=>by rw [(gX ha).2]; exact dis _ (by simp) _ (by simp)⟩
 refine wpS_bind (at_ok (p:=Y[0]'y0) (by have:=(gY y0).1; simpa using this) ?_)
 refine wpS_bind (gallop_ok T z2 sg1 (by (first|lia|omega)) fun k P1=>?_)
 obtain ⟨q1,q2,q3⟩:=P1
 have q2:∀ j (hj:j < k),rk (X[j]'(by (first|lia|omega))).1 < rk (Y[0]'y0).1:=fun j hj=>by have:=q2 j hj; rwa [(gX (by (first|lia|omega))).2] at this
 have q3:∀ j (h1:k ≤ j) (hj:j < X.length),rk (Y[0]'y0).1 < rk X[j].1:=fun j h1 hj=>by have:=q3 j h1 hj; rwa [(gX hj).2] at this
 try dsimp only
 by_cases c1:X.length - k=0
 ·rw [if_pos (by simpa using c1)]
  refine wpS_pure (fin fun p hp q hq=>?_)
  obtain ⟨j,hj,rfl⟩:=List.mem_iff_getElem.mp hp
  have:=q2 j (by (first|lia|omega))
  have:=headY q hq
  (first|lia|omega)
 rw [if_neg (by simpa using c1)]
 have xl:X.length - 1 < X.length:=by (first|lia|omega)
 have sg2:Seg rk ini (arrOf st) X[X.length - 1] (P.length+X.length) Y.length:=⟨by (first|lia|omega),mem,mX _ (by simp),fun a b hab hb=>by rw [(gY (by (first|lia|omega))).2,(gY hb).2]; exact rY a b hab hb,fun a ha=>by rw [(gY ha).2]; exact (dis _ (by simp) _ (by simp)).symm⟩
 refine wpS_bind (at_ok (p:=X[X.length - 1]) (by
  have:=(gX xl).1
  rw [show P.length+k+(X.length - k) - 1=P.length+(X.length - 1) by (first|lia|omega)]
  exact this) ?_)
 refine wpS_bind (gallop_ok T z2 sg2 (by (first|lia|omega)) fun kb P2=>?_)
 obtain ⟨r1,r2,r3⟩:=P2
 have r2:∀ j (hj:j < kb),rk (Y[j]'(by (first|lia|omega))).1 < rk X[X.length - 1].1:=fun j hj=>by have:=r2 j hj; rwa [(gY (by (first|lia|omega))).2] at this
 have r3:∀ j (h1:kb ≤ j) (hj:j < Y.length),rk X[X.length - 1].1 < rk Y[j].1:=fun j h1 hj=>by have:=r3 j h1 hj; rwa [(gY hj).2] at this
 try dsimp only
 by_cases c2:kb=0
 ·rw [if_pos (by simpa using c2)]
  refine wpS_pure (fin fun p hp q hq=>?_)
  obtain ⟨j,hj,rfl⟩:=List.mem_iff_getElem.mp hq
  have:=r3 j (by (first|lia|omega)) hj
  have:=lastX p hp
  (first|lia|omega)
 rw [if_neg (by simpa using c2)]
 -- the two parts
 generalize eX:(arrOf st).extract (P.length+k) (P.length+X.length)=x
 generalize eY:(arrOf st).extract (P.length+X.length) (P.length+X.length+kb)=y
 have lx:x.toList=X.drop k:=by
  rw [← eX,ext_listH _ (by (first|lia|omega)),ar,List.take_append,List.take_of_length_le (by (first|lia|omega)),List.drop_append,List.drop_of_length_le (by (first|lia|omega)),List.nil_append,show P.length+X.length - P.length=X.length by (first|lia|omega),List.take_append_of_le_length (Nat.le_refl _),List.take_length,show P.length+k - P.length=k by (first|lia|omega)]
 have ly:y.toList=Y.take kb:=by
  rw [← eY,ext_list,ar2,List.drop_append,List.drop_of_length_le (by (first|lia|omega)),List.nil_append,lpx,Nat.sub_self,List.drop_zero,List.take_append_of_le_length r1]
 have sx:x.size=X.length - k:=by have:=congrArg List.length lx; rw [List.length_drop] at this; simpa using this
 have sy:y.size=kb:=by have:=congrArg List.length ly; rw [List.length_take,Nat.min_eq_left r1] at this; simpa using this
 have W:Two rk ini x y:=⟨by rw [lx]; exact rx.drop,by rw [ly]; exact ry.take,fun p hp=>mX p (by rw [lx] at hp; exact List.mem_of_mem_drop hp),fun p hp=>mY p (by rw [ly] at hp; exact List.mem_of_mem_take hp),fun p hp q hq=>dis p (by rw [lx] at hp; exact List.mem_of_mem_drop hp) q (by rw [ly] at hq; exact List.mem_of_mem_take hq)⟩
 have eY0:y[0]=Y[0]'y0:=by
  have:y[0]?=(Y[0]?):=by
   have e:y[0]?=y.toList[0]?:=by simp
   rw [e,ly,List.getElem?_take,if_pos (by (first|lia|omega))]
  rw [getElem?_pos y 0 (by (first|lia|omega)),List.getElem?_eq_getElem y0] at this
  exact Option.some.inj this
 have eXl:x[x.size - 1]'(by (first|lia|omega))=X[X.length - 1]:=by
  have:x[x.size - 1]?=X[X.length - 1]?:=by
   have e:x[x.size - 1]?=x.toList[x.size - 1]?:=by simp
   rw [e,lx,List.getElem?_drop,sx]
   congr 1
   (first|lia|omega)
  rw [getElem?_pos x (x.size - 1) (by (first|lia|omega)),List.getElem?_eq_getElem xl] at this
  exact Option.some.inj this
 have first:∀ p∈x.toList,rk (y[0]'(by (first|lia|omega))).1 < rk p.1:=fun p hp=>by
  rw [lx] at hp
  obtain ⟨j,hj,rfl⟩:=List.mem_iff_getElem.mp hp
  rw [List.length_drop] at hj
  rw [eY0,List.getElem_drop]
  exact q3 (k+j) (by (first|lia|omega)) (by (first|lia|omega))
 have last:∀ q∈y.toList,rk q.1 < rk (x[x.size - 1]'(by (first|lia|omega))).1:=fun q hq=>by
  rw [ly] at hq
  obtain ⟨j,hj,rfl⟩:=List.mem_iff_getElem.mp hq
  rw [List.length_take] at hj
  rw [eXl,List.getElem_take]
  exact r2 j (by (first|lia|omega))
 have fin2:∀ (o:Array Keyed) (z:SortSt),Fin2 rk x.toList y.toList o.toList→Same z0 z→Q true (SortSt.mk' (kindOf z) (o.toList.zipIdx.foldl (fun a p=>a.setIfInBounds (P.length+k+p.2) p.1) (arrOf z)) (pendingOf z) (gallopOf z) (failedOf z)):=fun o z F hz=>by
  obtain ⟨fp,fu⟩:=F
  rw [lx,ly] at fp
  have ol:o.toList.length=X.length - k+kb:=by
   have:=fp.length_eq
   rw [List.length_append,List.length_drop,List.length_take,Nat.min_eq_left r1] at this
   exact this
  have memo:∀ p∈o.toList,p∈X.drop k∨p∈Y.take kb:=fun p hp=>List.mem_append.mp (fp.mem_iff.mp hp)
  have az:arrOf z=arrOf st:=hz.ar.trans z1
  have wl:=write_list o.toList 0 (arrOf st) (P.length+k) (by
   have e:(arrOf st).toList.length=(arrOf st).size:=by simp
   rw [e,size,ol]
   (first|lia|omega))
  rw [Nat.add_zero] at wl
  have t1:(arrOf st).toList.take (P.length+k)=P++X.take k:=by
   rw [ar,List.take_append,List.take_of_length_le (by (first|lia|omega)),show P.length+k - P.length=k by (first|lia|omega),List.take_append_of_le_length q1]
  have t2:(arrOf st).toList.drop (P.length+k+o.toList.length)=Y.drop kb++R:=by
   rw [ar2,ol,List.drop_append,List.drop_of_length_le (by (first|lia|omega)),List.nil_append,lpx,show P.length+k+(X.length - k+kb) - (P.length+X.length)=kb by (first|lia|omega),List.drop_append_of_le_length r1]
  rw [t1,t2] at wl
  refine h _ (X.take k++(o.toList++Y.drop kb)) ?_ ?_ ?_ (hz.kd.trans z2) (hz.fl.trans z3) (hz.pd.trans z4)
  ·have e:X++Y=X.take k++((X.drop k++Y.take kb)++Y.drop kb):=by
    rw [List.append_assoc,List.take_append_drop,← List.append_assoc,List.take_append_drop]
   rw [e]
   exact List.Perm.append_left _ (fp.append_right _)
  ·have lo:∀ p∈X.take k,∀ q∈Y,rk p.1 < rk q.1:=fun p hp q hq=>by
    obtain ⟨j,hj,rfl⟩:=List.mem_iff_getElem.mp hp
    rw [List.length_take] at hj
    rw [List.getElem_take]
    have:=q2 j (by (first|lia|omega))
    have:=headY q hq
    (first|lia|omega)
   have hi:∀ p∈X,∀ q∈Y.drop kb,rk p.1 < rk q.1:=fun p hp q hq=>by
    obtain ⟨j,hj,rfl⟩:=List.mem_iff_getElem.mp hq
    rw [List.length_drop] at hj
    rw [List.getElem_drop]
    have:=r3 (kb+j) (by (first|lia|omega)) (by (first|lia|omega))
    have:=lastX p hp
    (first|lia|omega)
   have sX:=List.pairwise_append.mp (show Ris rk (X.take k++X.drop k) by rw [List.take_append_drop]; exact rx)
   have sY:=List.pairwise_append.mp (show Ris rk (Y.take kb++Y.drop kb) by rw [List.take_append_drop]; exact ry)
   refine List.pairwise_append.mpr ⟨rx.take,List.pairwise_append.mpr ⟨fu,ry.drop,fun p hp q hq=>?_⟩,fun p hp q hq=>?_⟩
   ·rcases memo p hp with hp|hp
    ·exact hi p (List.mem_of_mem_drop hp) q hq
    ·exact sY.2.2 p hp q hq
   ·rcases List.mem_append.mp hq with hq|hq
    ·rcases memo q hq with hq|hq
     ·exact sX.2.2 p hp q hq
     ·exact lo p hp q (List.mem_of_mem_take hq)
    ·exact lo p hp q (List.mem_of_mem_drop hq)
  ·show (o.toList.zipIdx.foldl (fun a p=>a.setIfInBounds (P.length+k+p.2) p.1) (arrOf z)).toList=_
   rw [az,wl]
   simp
 refine ite_ok (fun _=>?_) fun _=>?_
 ·refine wpS_bind (mergeLo_ok T z2 W (by (first|lia|omega)) (by (first|lia|omega)) first last fun o z F hz=>?_)
  refine wpS_bind (wpS_modify ?_)
  refine wpS_bind (wpS_get ?_)
  have e:(failedOf z).isNone=true:=by rw [hz.fl,z3]; rfl
  have:=fin2 o z F hz
  refine wpS_pure ?_
  show Q (failedOf z).isNone _
  rw [e]
  exact this
 ·refine wpS_bind (mergeHi_ok T z2 W (by (first|lia|omega)) (by (first|lia|omega)) first last fun o z F hz=>?_)
  refine wpS_bind (wpS_modify ?_)
  refine wpS_bind (wpS_get ?_)
  have e:(failedOf z).isNone=true:=by rw [hz.fl,z3]; rfl
  have:=fin2 o z F hz
  refine wpS_pure ?_
  show Q (failedOf z).isNone _
  rw [e]
  exact this
end
end L3
namespace L3
open PySem PySem.Spec PyProof.Rows L2
section
variable {prog:Program} {w:World} {A:Around} {E:Value→Shared→Prop} {s:Shared} {kd:SortKind} {rk:Value→Int} {ini:Array Keyed} {pd:Array (Nat×Nat×Nat)} {hd:List Keyed}
structure Md (kd:SortKind) (ini:Array Keyed) (pd:Array (Nat×Nat×Nat)) (hd:List Keyed) (z:SortSt):Prop where
 pm:(arrOf z).Perm ini
 kd:kindOf z=kd
 fl:failedOf z=none
 pn:pendingOf z=pd
 hd:(arrOf z).toList.take hd.length=hd
theorem Md.sz {z:SortSt} (m:Md kd ini pd hd z):(arrOf z).size=ini.size:=m.pm.size_eq
theorem Md.le {z:SortSt} (m:Md kd ini pd hd z):hd.length ≤ ini.size:=by
 have:=congrArg List.length m.hd
 rw [List.length_take] at this
 have e:(arrOf z).toList.length=ini.size:=by simp; exact m.sz
 (first|lia|omega)
theorem Md.put {z:SortSt} (m:Md kd ini pd hd z) {xs:Array Keyed} (p:xs.Perm (arrOf z)) (hx:∀ i,i < hd.length→xs[i]?=(arrOf z)[i]?):Md kd ini pd hd (setArr z xs):=by
 refine ⟨p.trans m.pm,m.kd,m.fl,m.pn,?_⟩
 show xs.toList.take hd.length=hd
 rw [← m.hd]
 apply List.ext_getElem?
 intro i
 rw [List.length_take]
 have hl:min hd.length (arrOf z).toList.length=hd.length:=by
  have:=m.le
  have e:(arrOf z).toList.length=ini.size:=by simp; exact m.sz
  (first|lia|omega)
 rw [hl,List.getElem?_take,List.getElem?_take]
 by_cases c:i < hd.length
 ·rw [if_pos c,if_pos c]
  have:=hx i c
  simpa using this
 ·rw [if_neg c,if_neg c]
theorem Md.get {z:SortSt} (m:Md kd ini pd hd z) {i:Nat} (hi:i < ini.size):∃ p,(arrOf z)[i]?=some p∧p∈ini.toList∧av rk (arrOf z) i=rk p.1:=by
 have h:i < (arrOf z).size:=by rw [m.sz]; exact hi
 have e:(arrOf z)[i]?=some (arrOf z)[i]:=getElem?_pos _ i h
 refine ⟨(arrOf z)[i],e,?_,?_⟩
 ·exact (Array.perm_iff_toList_perm.mp m.pm).mem_iff.mp (by simp)
 ·unfold av; rw [e]
theorem Md.ask {z:SortSt} {i j:Nat} {Q:Option Bool→SortSt→Prop} (T:Tells prog w A s kd rk ini) (m:Md kd ini pd hd z) (hi:i < ini.size) (hj:j < ini.size) (h:Q (some (decide (av rk (arrOf z) i < av rk (arrOf z) j))) z) :
  wpS (model prog w) A E s (ltAt' i j) Q z:=by
 obtain ⟨p,e1,m1,a1⟩:=m.get (rk:=rk) hi
 obtain ⟨q,e2,m2,a2⟩:=m.get (rk:=rk) hj
 rw [a1,a2] at h
 rw [ltAt'_eq]
 refine wpS_bind (wpS_get ?_)
 refine wpS_bind (at_ok e1 (wpS_bind (at_ok e2 ?_)))
 exact ask2 T m.kd m1 m2 h
theorem Md.ne {z:SortSt} (T:Tells prog w A s kd rk ini) (m:Md kd ini pd hd z) {i j:Nat} (hi:i < ini.size) (hj:j < ini.size) (h:i≠j):av rk (arrOf z) i≠av rk (arrOf z) j:=by
 have nd:=((Array.perm_iff_toList_perm.mp m.pm).map fun p=>rk p.1).nodup_iff.mpr T.nd
 have li:i < (arrOf z).size:=by rw [m.sz]; exact hi
 have lj:j < (arrOf z).size:=by rw [m.sz]; exact hj
 rw [av_get li,av_get lj]
 intro q
 refine h ((List.getElem_inj (i:=i) (j:=j) (h₀:=by simpa using li) (h₁:=by simpa using lj) nd).mp ?_)
 simpa using q
noncomputable abbrev Upl (rk:Value→Int) (z:SortSt) (lo k:Nat):Prop:=∀ i j,i < j→j < k→av rk (arrOf z) (lo+i) < av rk (arrOf z) (lo+j)
noncomputable abbrev Dnl (rk:Value→Int) (z:SortSt) (lo k:Nat):Prop:=∀ i j,i < j→j < k→av rk (arrOf z) (lo+j) < av rk (arrOf z) (lo+i)
theorem Upl.more {z:SortSt} {lo x:Nat} (u:Upl rk z lo x) (hx:1 ≤ x) (h:av rk (arrOf z) (lo+x - 1) < av rk (arrOf z) (lo+x)):Upl rk z lo (x+1):=fun i j h1 h2=>by
 by_cases c:j < x
 ·exact u i j h1 c
 ·have ej:j=x:=by (first|lia|omega)
  subst ej
  by_cases ci:i=j - 1
  ·subst ci
   rw [show lo+(j - 1)=lo+j - 1 by (first|lia|omega)]
   exact h
  ·have:=u i (j - 1) (by (first|lia|omega)) (by (first|lia|omega))
   rw [show lo+(j - 1)=lo+j - 1 by (first|lia|omega)] at this
   (first|lia|omega)
theorem Dnl.more {z:SortSt} {lo x:Nat} (u:Dnl rk z lo x) (hx:1 ≤ x) (h:av rk (arrOf z) (lo+x) < av rk (arrOf z) (lo+x - 1)):Dnl rk z lo (x+1):=fun i j h1 h2=>by
 by_cases c:j < x
 ·exact u i j h1 c
 ·have ej:j=x:=by (first|lia|omega)
  subst ej
  by_cases ci:i=j - 1
  ·subst ci
   rw [show lo+(j - 1)=lo+j - 1 by (first|lia|omega)]
   exact h
  ·have:=u i (j - 1) (by (first|lia|omega)) (by (first|lia|omega))
   rw [show lo+(j - 1)=lo+j - 1 by (first|lia|omega)] at this
   (first|lia|omega)
theorem count_l {z:SortSt} {n:Nat} {Q:Option Nat→SortSt→Prop} (T:Tells prog w A s kd rk ini) (m:Md kd ini pd hd z) (hn:hd.length+n=ini.size) (h1:1 ≤ n)
  (h:∀ r y,Md kd ini pd hd y→1 ≤ r→r ≤ n→Upl rk y hd.length r→Q (some r) y):wpS (model prog w) A E s (countRun' hd.length n) Q z:=by
 generalize el:hd.length=lo at *
 refine wpS_bind (wpS_mono (wpS_forRange (fun x c y=>y=z∧c=(none,x)∧Upl rk z lo x) (Q:=fun c y=>y=z∧∃ x,c=(none,x)∧1 ≤ x∧x ≤ n∧Upl rk z lo x∧(x=n∨av rk (arrOf z) (lo+x) < av rk (arrOf z) (lo+x - 1))) (fun x c y lx hx hI=>?_) (fun c y hI=>?_) ⟨rfl,rfl,fun i j a b=>by (first|lia|omega)⟩) fun c y hc=>?_)
 ·obtain ⟨rfl,rfl,u⟩:=hI
  try dsimp only
  refine wpS_bind (m.ask T (by (first|lia|omega)) (by (first|lia|omega)) ?_)
  by_cases c:av rk (arrOf y) (lo+x) < av rk (arrOf y) (lo+x - 1)
  ·rw [decide_eq_true c]
   exact wpS_pure ⟨rfl,x,rfl,lx,by (first|lia|omega),u,.inr c⟩
  ·rw [decide_eq_false c]
   have:=m.ne T (i:=lo+x) (j:=lo+x - 1) (by (first|lia|omega)) (by (first|lia|omega)) (by (first|lia|omega))
   exact wpS_pure ⟨rfl,rfl,u.more lx (by (first|lia|omega))⟩
 ·obtain ⟨rfl,rfl,u⟩:=hI
  have e:max 1 n=n:=by (first|lia|omega)
  rw [e] at u ⊢
  exact ⟨rfl,n,rfl,h1,Nat.le_refl _,u,.inl rfl⟩
 ·obtain ⟨rfl,k,rfl,k1,k2,u,o⟩:=hc
  try dsimp only
  by_cases c:k=n
  ·rw [if_pos (by simpa using c)]
   exact wpS_pure (h k y m k1 k2 u)
  ·rw [if_neg (by simpa using c)]
   have lt:=o.resolve_left c
   by_cases c1:k > 1
   ·rw [if_pos c1]
    refine wpS_bind (m.ask T (by (first|lia|omega)) (by (first|lia|omega)) ?_)
    have le:=u 0 (k - 1) (by (first|lia|omega)) (by (first|lia|omega))
    rw [Nat.add_zero,show lo+(k - 1)=lo+k - 1 by (first|lia|omega)] at le
    rw [decide_eq_true le]
    exact wpS_pure (h k y m k1 k2 u)
   ·rw [if_neg c1]
    have e:k=1:=by (first|lia|omega)
    subst e
    refine wpS_bind (wpS_lift (wpAny_rule ⟨rfl,?_⟩))
    refine wpS_bind (wpS_mono (wpS_forRange (fun x c v=>v=y∧c=(none,x,0)∧Dnl rk y lo x) (Q:=fun c v=>v=y∧∃ x,c=(none,x,0)∧2 ≤ x∧x ≤ n∧Dnl rk y lo x) (fun x c v lx hx hI=>?_) (fun c v hI=>?_) ⟨rfl,rfl,fun i j a b=>?_⟩) fun c v hc=>?_)
    ·obtain ⟨rfl,rfl,u'⟩:=hI
     try dsimp only
     refine wpS_bind (m.ask T (by (first|lia|omega)) (by (first|lia|omega)) ?_)
     by_cases c:av rk (arrOf v) (lo+x) < av rk (arrOf v) (lo+x - 1)
     ·rw [decide_eq_true c]
      try dsimp only
      rw [if_pos rfl,if_neg (by (first|lia|omega))]
      exact wpS_pure ⟨rfl,rfl,u'.more (by (first|lia|omega)) c⟩
     ·rw [decide_eq_false c]
      try dsimp only
      rw [if_neg (by decide)]
      have:=m.ne T (i:=lo+x) (j:=lo+x - 1) (by (first|lia|omega)) (by (first|lia|omega)) (by (first|lia|omega))
      refine wpS_bind (m.ask T (by (first|lia|omega)) (by (first|lia|omega)) ?_)
      rw [decide_eq_true (show av rk (arrOf v) (lo+x - 1) < av rk (arrOf v) (lo+x) by (first|lia|omega))]
      exact wpS_pure ⟨rfl,x,rfl,by (first|lia|omega),by (first|lia|omega),u'⟩
    ·obtain ⟨rfl,rfl,u'⟩:=hI
     have e:max (1+1) n=n:=by (first|lia|omega)
     rw [e] at u' ⊢
     exact ⟨rfl,n,rfl,by (first|lia|omega),Nat.le_refl _,u'⟩
    ·have e1:i=0:=by (first|lia|omega)
     have e2:j=1:=by (first|lia|omega)
     subst e1 e2
     simpa using lt
    ·obtain ⟨rfl,x,rfl,x1,x2,u'⟩:=hc
     try dsimp only
     rw [if_neg (by (first|lia|omega))]
     have hz:lo+x ≤ (arrOf v).size:=by rw [m.sz]; (first|lia|omega)
     have gm:=fun k=>getElem?_mirror_all (i:=lo) hz k
     have m2:Md kd ini pd hd (setArr v (mirror (arrOf v) lo (lo+x) ((lo+x - lo) / 2))):=m.put (mirror_perm _ _ _ _) (fun i hi=>by rw [gm,if_neg (by (first|lia|omega))])
     refine wpS_bind (wpS_reverse ?_)
     generalize ey:setArr v (mirror (arrOf v) lo (lo+x) ((lo+x - lo) / 2))=y2 at m2
     have u2:Upl rk y2 lo x:=fun i j a b=>by
      rw [← ey]
      show av rk (mirror (arrOf v) lo (lo+x) ((lo+x - lo) / 2)) (lo+i) < av rk (mirror (arrOf v) lo (lo+x) ((lo+x - lo) / 2)) (lo+j)
      rw [av_mir hz,av_mir hz,if_pos (by (first|lia|omega)),if_pos (by (first|lia|omega))]
      have:=u' (x - 1 - j) (x - 1 - i) (by (first|lia|omega)) (by (first|lia|omega))
      rw [show lo+(lo+x) - 1 - (lo+i)=lo+(x - 1 - i) by (first|lia|omega),show lo+(lo+x) - 1 - (lo+j)=lo+(x - 1 - j) by (first|lia|omega)]
      exact this
     refine wpS_bind (wpS_mono (wpS_forRange (fun t c v=>v=y2∧c=(none,t)∧Upl rk y2 lo t) (Q:=fun c v=>v=y2∧∃ t,c=(none,t)∧1 ≤ t∧t ≤ n∧Upl rk y2 lo t) (fun t c v lx hx hI=>?_) (fun c v hI=>?_) ⟨rfl,rfl,u2⟩) fun c v hc=>?_)
     ·obtain ⟨rfl,rfl,u3⟩:=hI
      try dsimp only
      refine wpS_bind (m2.ask T (by (first|lia|omega)) (by (first|lia|omega)) ?_)
      by_cases c:av rk (arrOf v) (lo+t) < av rk (arrOf v) (lo+t - 1)
      ·rw [decide_eq_true c]
       exact wpS_pure ⟨rfl,t,rfl,by (first|lia|omega),by (first|lia|omega),u3⟩
      ·rw [decide_eq_false c]
       have:=m2.ne T (i:=lo+t) (j:=lo+t - 1) (by (first|lia|omega)) (by (first|lia|omega)) (by (first|lia|omega))
       exact wpS_pure ⟨rfl,rfl,u3.more (by (first|lia|omega)) (by (first|lia|omega))⟩
     ·obtain ⟨rfl,rfl,u3⟩:=hI
      have e:max x n=n:=by (first|lia|omega)
      rw [e] at u3 ⊢
      exact ⟨rfl,n,rfl,h1,Nat.le_refl _,u3⟩
     ·obtain ⟨rfl,t,rfl,t1,t2,u3⟩:=hc
      exact wpS_pure (h t v m2 t1 t2 u3)
theorem ins_l {z:SortSt} {n ok:Nat} {Q:Bool→SortSt→Prop} (T:Tells prog w A s kd rk ini) (m:Md kd ini pd hd z) (hn:hd.length+n ≤ ini.size) (h2:ok ≤ n) (u:Upl rk z hd.length ok)
  (h:∀ y,Md kd ini pd hd y→Upl rk y hd.length n→Q true y):wpS (model prog w) A E s (binarySort' hd.length n ok) Q z:=by
 generalize el:hd.length=lo at *
 refine wpS_bind (wpS_mono (wpS_forRange (fun k c y=>c=(none,())∧Md kd ini pd hd y∧Upl rk y lo (min k n)) (Q:=fun c y=>c=(none,())∧Md kd ini pd hd y∧Upl rk y lo n) (fun k c y l1 l2 hI=>?_) (fun c y hI=>?_) ⟨rfl,m,?_⟩) fun c y hc=>?_)
 ·obtain ⟨rfl,m',u'⟩:=hI
  have ek:min k n=k:=by (first|lia|omega)
  rw [ek] at u'
  have ul:∀ i j,i ≤ j→j < k→av rk (arrOf y) (lo+i) ≤ av rk (arrOf y) (lo+j):=fun i j a b=>by
   rcases Nat.lt_or_ge i j with c|c
   ·exact Int.le_of_lt (u' i j c b)
   ·rw [show i=j by (first|lia|omega)]; exact Int.le_refl _
  refine wpS_bind (wpS_mono (wpS_forRange (fun x c v=>v=y∧∃ l r,c=(none,l,r)∧l ≤ r∧r ≤ k∧r - l ≤ k - x∧(∀ i,i < l→av rk (arrOf y) (lo+i) < av rk (arrOf y) (lo+k))∧∀ i,r ≤ i→i < k→av rk (arrOf y) (lo+k) < av rk (arrOf y) (lo+i))
   (Q:=fun c v=>v=y∧∃ l r,c=(none,l,r)∧l ≤ k∧(∀ i,i < l→av rk (arrOf y) (lo+i) < av rk (arrOf y) (lo+k))∧∀ i,l ≤ i→i < k→av rk (arrOf y) (lo+k) < av rk (arrOf y) (lo+i))
   (fun x c v _ lx hJ=>?_) (fun c v hJ=>?_) ⟨rfl,0,k,rfl,by (first|lia|omega),by (first|lia|omega),by (first|lia|omega),fun i hi=>by (first|lia|omega),fun i a b=>by (first|lia|omega)⟩) fun c v hJ=>?_)
  ·obtain ⟨rfl,l,r,rfl,lr,rk',sz',lo',hi⟩:=hJ
   try dsimp only
   by_cases ge:l ≥ r
   ·rw [if_pos ge]
    have:l=r:=by (first|lia|omega)
    subst this
    exact wpS_pure ⟨rfl,l,l,rfl,rk',lo',hi⟩
   ·rw [if_neg ge]
    refine wpS_bind (m'.ask T (by (first|lia|omega)) (by (first|lia|omega)) ?_)
    have ne:=m'.ne T (i:=lo+k) (j:=lo+(l+r) / 2) (by (first|lia|omega)) (by (first|lia|omega)) (by (first|lia|omega))
    by_cases c:av rk (arrOf v) (lo+k) < av rk (arrOf v) (lo+(l+r) / 2)
    ·rw [decide_eq_true c]
     refine wpS_pure ⟨rfl,l,(l+r) / 2,rfl,by (first|lia|omega),by (first|lia|omega),by (first|lia|omega),lo',fun i a b=>?_⟩
     have:=ul ((l+r) / 2) i a b
     (first|lia|omega)
    ·rw [decide_eq_false c]
     refine wpS_pure ⟨rfl,(l+r) / 2+1,r,rfl,by (first|lia|omega),by (first|lia|omega),by (first|lia|omega),fun i a=>?_,hi⟩
     have:=ul i ((l+r) / 2) (by (first|lia|omega)) (by (first|lia|omega))
     (first|lia|omega)
  ·obtain ⟨rfl,l,r,rfl,lr,rk',sz',lo',hi⟩:=hJ
   have:l=r:=by (first|lia|omega)
   subst this
   exact ⟨rfl,l,l,rfl,rk',lo',hi⟩
  ·obtain ⟨rfl,l,r,rfl,lk,lo',hi⟩:=hJ
   try dsimp only
   have hz:lo+k < (arrOf v).size:=by rw [m'.sz]; (first|lia|omega)
   have gb:=fun t=>getElem?_bubble hz (lo+k - (lo+l)) (by (first|lia|omega)) t
   refine wpS_bind (wpS_modify (wpS_pure ⟨rfl,m'.put (bubble_perm _ _ _) (fun i hi'=>?_),?_⟩))
   ·have:=gb i
    rw [if_neg (by (first|lia|omega)),if_neg (by (first|lia|omega))] at this
    exact this
   ·have e1:min (k+1) n=k+1:=by (first|lia|omega)
    have e2:lo+k - (lo+k - (lo+l))=lo+l:=by (first|lia|omega)
    rw [e1]
    intro i j a b
    show av rk (bubble (arrOf v) (lo+k) (lo+k - (lo+l))) (lo+i) < av rk (bubble (arrOf v) (lo+k) (lo+k - (lo+l))) (lo+j)
    rw [av_bub hz (by (first|lia|omega)),av_bub hz (by (first|lia|omega)),e2]
    by_cases i1:i=l
    ·rw [if_pos (by (first|lia|omega)),if_neg (by (first|lia|omega)),if_pos (by (first|lia|omega)),show lo+j - 1=lo+(j - 1) by (first|lia|omega)]
     exact hi _ (by (first|lia|omega)) (by (first|lia|omega))
    ·rw [if_neg (by (first|lia|omega))]
     by_cases i2:l < i∧i ≤ k
     ·rw [if_pos (by (first|lia|omega)),if_neg (by (first|lia|omega)),if_pos (by (first|lia|omega)),show lo+i - 1=lo+(i - 1) by (first|lia|omega),show lo+j - 1=lo+(j - 1) by (first|lia|omega)]
      exact u' _ _ (by (first|lia|omega)) (by (first|lia|omega))
     ·rw [if_neg (by (first|lia|omega))]
      by_cases j1:j=l
      ·rw [if_pos (by (first|lia|omega))]
       exact lo' _ (by (first|lia|omega))
      ·rw [if_neg (by (first|lia|omega))]
       by_cases j2:l < j∧j ≤ k
       ·rw [if_pos (by (first|lia|omega)),show lo+j - 1=lo+(j - 1) by (first|lia|omega)]
        by_cases q:i < j - 1
        ·exact u' _ _ q (by (first|lia|omega))
        ·(first|lia|omega)
       ·rw [if_neg (by (first|lia|omega))]
        exact u' _ _ a (by (first|lia|omega))
 ·obtain ⟨hc,m',u'⟩:=hI
  have e:min (max (max ok 1) n) n=n:=by (first|lia|omega)
  rw [e] at u'
  exact ⟨hc,m',u'⟩
 ·intro i j a b
  exact u i j a (by (first|lia|omega))
 ·obtain ⟨rfl,m',u'⟩:=hc
  exact wpS_pure (h y m' u')
end
end L3
namespace L3
open PySem PySem.Spec PyProof.Rows L2
section
variable {prog:Program} {w:World} {A:Around} {E:Value→Shared→Prop} {s:Shared} {kd:SortKind} {rk:Value→Int} {ini:Array Keyed}
noncomputable def PM:Nat→List (Nat×Nat×Nat)→List (List Keyed)→Prop
 | _,[],[]=>True
 | off,p::pd,R::rs=>p.1=off∧p.2.1=R.length∧PM (off+R.length) pd rs
 | _,_,_=>False
theorem PM.len:∀ {off:Nat} {pd:List (Nat×Nat×Nat)} {rs:List (List Keyed)},PM off pd rs→pd.length=rs.length
 | _,[],[],_=>rfl
 | _,p::pd,R::rs,h=>by rw [List.length_cons,List.length_cons,PM.len h.2.2]
 | _,[],_::_,h=>h.elim
 | _,_::_,[],h=>h.elim
theorem PM.split:∀ {pre:List (List Keyed)} {off:Nat} {pd:List (Nat×Nat×Nat)} {rs:List (List Keyed)},PM off pd (pre++rs)→∃ p1 p2,pd=p1++p2∧PM off p1 pre∧PM (off+pre.flatten.length) p2 rs
 | [],off,pd,rs,h=>⟨[],pd,rfl,trivial,by simpa using h⟩
 | R::pre,off,[],rs,h=>h.elim
 | R::pre,off,p::pd,rs,h=>by
  obtain ⟨h1,h2,h3⟩:=h
  obtain ⟨p1,p2,e,g1,g2⟩:=PM.split h3
  refine ⟨p::p1,p2,by rw [e]; rfl,⟨h1,h2,g1⟩,?_⟩
  rw [List.flatten_cons,List.length_append,← Nat.add_assoc]
  exact g2
theorem PM.join:∀ {pre:List (List Keyed)} {off:Nat} {p1 p2:List (Nat×Nat×Nat)} {rs:List (List Keyed)},PM off p1 pre→PM (off+pre.flatten.length) p2 rs→PM off (p1++p2) (pre++rs)
 | [],off,[],p2,rs,_,h=>by simpa using h
 | [],off,_::_,p2,rs,h,_=>h.elim
 | R::pre,off,[],p2,rs,h,_=>h.elim
 | R::pre,off,p::p1,p2,rs,h,k=>by
  obtain ⟨h1,h2,h3⟩:=h
  rw [List.flatten_cons,List.length_append,← Nat.add_assoc] at k
  exact ⟨h1,h2,PM.join h3 k⟩
structure Rn (kd:SortKind) (rk:Value→Int) (ini:Array Keyed) (runs:List (List Keyed)) (rest:List Keyed) (z:SortSt):Prop where
 ar:(arrOf z).toList=runs.flatten++rest
 pm:(arrOf z).Perm ini
 kd:kindOf z=kd
 fl:failedOf z=none
 ok:∀ R∈runs,1 ≤ R.length∧Ris rk R
 st:PM 0 (pendingOf z).toList runs
theorem Rn.merge {z:SortSt} {runs:List (List Keyed)} {rest:List Keyed} {i:Nat} {Q:Bool→SortSt→Prop} (T:Tells prog w A s kd rk ini) (R:Rn kd rk ini runs rest z) (hi:i+1 < runs.length)
  (h:∀ y rs,rs.flatten.length=runs.flatten.length→rs.length+1=runs.length→Rn kd rk ini rs rest y→Q true y):wpS (model prog w) A E s (mergeAt' i) Q z:=by
 have e1:runs=runs.take i++(runs[i]::runs[i+1]::runs.drop (i+2)):=by
  rw [← List.drop_eq_getElem_cons hi,← List.drop_eq_getElem_cons (show i < runs.length by (first|lia|omega)),List.take_append_drop]
 generalize hp:runs.take i=pre at e1
 generalize runs[i]=X at e1
 generalize runs[i+1]=Y at e1
 generalize runs.drop (i+2)=post at e1
 have pl:pre.length=i:=by rw [← hp,List.length_take]; (first|lia|omega)
 have okX:=R.ok X (by rw [e1]; simp)
 have okY:=R.ok Y (by rw [e1]; simp)
 have st:=R.st
 rw [e1] at st
 obtain ⟨p1,p2,ep,g1,g2⟩:=st.split
 have l1:=g1.len
 cases p2 with
 | nil=>exact g2.elim
 | cons q1 p2 =>
  cases p2 with
  | nil=>exact g2.2.2.elim
  | cons q2 p3 =>
   obtain ⟨a1,a2,b1,b2,g3⟩:=g2
   rw [Nat.zero_add] at a1 b1
   have x1:(pendingOf z)[i]?=some (pre.flatten.length,X.length,q1.2.2):=by
    have e:(pendingOf z)[i]?=(pendingOf z).toList[i]?:=by simp
    rw [e,ep,List.getElem?_append_right (by (first|lia|omega)),show i - p1.length=0 by (first|lia|omega)]
    obtain ⟨u,v,t⟩:=q1
    simp at a1 a2 ⊢
    exact ⟨a1,a2⟩
   have x2:(pendingOf z)[i+1]?=some (pre.flatten.length+X.length,Y.length,q2.2.2):=by
    have e:(pendingOf z)[i+1]?=(pendingOf z).toList[i+1]?:=by simp
    rw [e,ep,List.getElem?_append_right (by (first|lia|omega)),show i+1 - p1.length=1 by (first|lia|omega)]
    obtain ⟨u,v,t⟩:=q2
    simp at b1 b2 ⊢
    exact ⟨b1,b2⟩
   refine mergeAt_ok (P:=pre.flatten) (X:=X) (Y:=Y) (R:=post.flatten++rest) T R.kd R.fl (by rw [R.ar,e1]; simp) (Array.perm_iff_toList_perm.mp R.pm) okX.1 okY.1 okX.2 okY.2 x1 x2 fun y M pmM uM arM kM fM pM=>?_
   have ml:M.length=X.length+Y.length:=by rw [pmM.length_eq,List.length_append]
   refine h y (pre++(M::post)) (by rw [e1]; simp; (first|lia|omega)) (by rw [e1]; simp; (first|lia|omega)) ⟨by rw [arM]; simp,?_,kM,fM,fun S hS=>?_,?_⟩
   ·refine Array.perm_iff_toList_perm.mpr (List.Perm.trans ?_ (Array.perm_iff_toList_perm.mp R.pm))
    rw [arM,R.ar,e1]
    simp only [List.flatten_append,List.flatten_cons,List.append_assoc]
    refine List.Perm.append_left _ ?_
    rw [← List.append_assoc X Y]
    exact pmM.append_right _
   ·rcases List.mem_append.mp hS with hS|hS
    ·exact R.ok S (by rw [e1]; exact List.mem_append_left _ hS)
    ·rcases List.mem_cons.mp hS with rfl|hS
     ·exact ⟨by have:=okX.1; (first|lia|omega),uM⟩
     ·exact R.ok S (by rw [e1]; simp [hS])
   ·have ep2:(pendingOf y).toList=p1++((pre.flatten.length,X.length+Y.length,q1.2.2)::p3):=by
     rw [pM]
     have:(((pendingOf z).setIfInBounds i (pre.flatten.length,X.length+Y.length,q1.2.2)).eraseIdxIfInBounds (i+1)).toList=((pendingOf z).toList.set i (pre.flatten.length,X.length+Y.length,q1.2.2)).eraseIdx (i+1):=by
      simp [Array.toList_eraseIdxIfInBounds]
     rw [this,ep,List.set_append_right _ _ (by (first|lia|omega)),show i - p1.length=0 by (first|lia|omega),List.set_cons_zero,List.eraseIdx_append_of_length_le (by (first|lia|omega)),show i+1 - p1.length=1 by (first|lia|omega)]
     rfl
    rw [ep2]
    refine g1.join ⟨by rw [Nat.zero_add],ml.symm,?_⟩
    rw [ml,← Nat.add_assoc]
    exact g3
theorem PM.repower:∀ {off:Nat} {pd:List (Nat×Nat×Nat)} {rs:List (List Keyed)} (f:Nat×Nat×Nat→Nat×Nat×Nat) (k:Nat),(∀ p,(f p).1=p.1∧(f p).2.1=p.2.1)→PM off pd rs→PM off (pd.modify k f) rs
 | _,[],[],f,k,_,_=>by simp [PM]
 | _,[],_::_,f,k,_,h=>h.elim
 | _,_::_,[],f,k,_,h=>h.elim
 | off,p::pd,R::rs,f,0,hf,h=>by
  obtain ⟨h1,h2,h3⟩:=h
  rw [List.modify_zero_cons]
  exact ⟨(hf p).1.trans h1,(hf p).2.trans h2,h3⟩
 | off,p::pd,R::rs,f,k+1,hf,h=>by
  obtain ⟨h1,h2,h3⟩:=h
  rw [List.modify_succ_cons]
  exact ⟨h1,h2,PM.repower f k hf h3⟩
theorem runs_le:∀ {rs:List (List Keyed)},(∀ R∈rs,1 ≤ R.length)→rs.length ≤ rs.flatten.length
 | [],_=>Nat.le_refl _
 | R::rs,h=>by
  have a:=h R (by simp)
  have b:=runs_le (rs:=rs) fun S hS=>h S (List.mem_cons_of_mem _ hS)
  rw [List.flatten_cons,List.length_append,List.length_cons]
  (first|lia|omega)
theorem md_run {pd:Array (Nat×Nat×Nat)} {hd:List Keyed} {y:SortSt} {n:Nat} (m:Md kd ini pd hd y) (hn:hd.length+n ≤ ini.size) (u:Upl rk y hd.length n):∃ N rest,(arrOf y).toList=hd++(N++rest)∧N.length=n∧Ris rk N:=by
 have e:(arrOf y).toList.length=ini.size:=by simp; exact m.sz
 refine ⟨((arrOf y).toList.drop hd.length).take n,((arrOf y).toList.drop hd.length).drop n,?_,?_,?_⟩
 ·rw [List.take_append_drop]
  conv=>lhs; rw [← List.take_append_drop hd.length (arrOf y).toList,m.hd]
 ·rw [List.length_take,List.length_drop]
  (first|lia|omega)
 ·refine List.pairwise_iff_getElem.mpr ?_
  intro i j hi hj hij
  rw [List.length_take,List.length_drop] at hi hj
  have:=u i j hij (by (first|lia|omega))
  rw [av_get (by rw [m.sz]; (first|lia|omega)),av_get (by rw [m.sz]; (first|lia|omega))] at this
  simpa using this
theorem ite_le2 {c:Prop} [Decidable c] {a b n:Nat} (h1:a ≤ n) (h2:b ≤ n):(if c then a else b) ≤ n:=by by_cases h:c <;> simp [h,h1,h2]
theorem jp1_ok {σ α:Type} {M:Model} {f:Nat→StateT σ Sem α} {P:Nat→σ→Prop} {x:StateT σ Sem α} {Q:α→σ→Prop} {st:σ} (h:∀ r y,P r y→wpS M A E s (f r) Q y) (k:(∀ r y,P r y→wpS M A E s (f r) Q y)→wpS M A E s x Q st):wpS M A E s x Q st:=k h
theorem sort_any {st:SortSt} {Q:Unit→SortSt→Prop} (T:Tells prog w A s kd rk ini) (p0:(arrOf st).Perm ini) (k0:kindOf st=kd) (f0:failedOf st=none) (d0:pendingOf st=#[])
  (h:∀ z,(arrOf z).Perm ini→failedOf z=none→Ris rk (arrOf z).toList→Q () z):wpS (model prog w) A E s sortRuns' Q st:=by
 refine wpS_bind (wpS_get ?_)
 try dsimp -zeta -zetaHave only
 have sz0:(arrOf st).size=ini.size:=p0.size_eq
 rw [show (arrOf st).size=ini.size from sz0]
 have R0:Rn kd rk ini [] (arrOf st).toList st:=⟨rfl,p0,k0,f0,(fun _ hr=>nomatch hr),by rw [d0]; trivial⟩
 refine wpS_bind (wpS_mono (wpS_forRange (fun x c z=>∃ lo runs rest,c=(none,lo)∧Rn kd rk ini runs rest z∧lo=runs.flatten.length∧x ≤ lo) (Q:=fun c z=>c.1=none∧∃ runs,Rn kd rk ini runs [] z) (fun x c z _ lx hI=>?_) (fun c z hI=>?_) ⟨0,[],_,rfl,R0,rfl,Nat.le_refl _⟩) fun c z hc=>?_)
 ·obtain ⟨lo,runs,rest,rfl,R,rfl,hx⟩:=hI
  try dsimp -zeta -zetaHave only
  have zl:(arrOf z).toList.length=ini.size:=by simp; exact R.pm.size_eq
  have ll:runs.flatten.length+rest.length=ini.size:=by rw [← zl,R.ar,List.length_append]
  by_cases c:runs.flatten.length ≥ ini.size
  ·rw [if_pos c]
   have er:rest=[]:=List.length_eq_zero_iff.mp (by (first|lia|omega))
   subst er
   exact wpS_pure ⟨rfl,runs,R⟩
  rw [if_neg c]
  have M0:Md kd ini (pendingOf z) runs.flatten z:=⟨R.pm,R.kd,R.fl,rfl,by rw [R.ar,List.take_left]⟩
  refine wpS_bind (count_l T M0 (by (first|lia|omega)) (by (first|lia|omega)) fun r y my r1 r2 uy=>?_)
  try dsimp -zeta -zetaHave only
  extract_lets n0 jp force0
  refine jp1_ok (f:=jp ()) (P:=fun (force:Nat) (y:SortSt)=>Md kd ini (pendingOf z) runs.flatten y∧Upl rk y runs.flatten.length force∧1 ≤ force∧runs.flatten.length+force ≤ ini.size) ?_ fun K=>?_
  ·intro force y ⟨my,uy,fo1,hrun⟩
   refine wpS_bind (wpS_get ?_)
   obtain ⟨N,rest',ey,nl,un⟩:=md_run my hrun uy
   have Ry:Rn kd rk ini runs (N++rest') y:=⟨ey,my.pm,my.kd,my.fl,R.ok,by rw [my.pn]; exact R.st⟩
   have last:∀ v rs,Rn kd rk ini rs (N++rest') v→rs.flatten.length=runs.flatten.length→Rn kd rk ini (rs++[N]) rest' (setPending v ((pendingOf v).push (runs.flatten.length,force,0))):=fun v rs Rv hl=>by
    refine ⟨by rw [show arrOf (setPending v ((pendingOf v).push (runs.flatten.length,force,0)))=arrOf v from rfl,Rv.ar]; simp,Rv.pm,Rv.kd,Rv.fl,fun S hS=>?_,?_⟩
    ·rcases List.mem_append.mp hS with hS|hS
     ·exact Rv.ok S hS
     ·rw [List.mem_singleton.mp hS]
      exact ⟨by (first|lia|omega),un⟩
    ·show PM 0 ((pendingOf v).push (runs.flatten.length,force,0)).toList (rs++[N])
     rw [Array.toList_push]
     exact Rv.st.join ⟨by rw [Nat.zero_add]; exact hl.symm,nl.symm,trivial⟩
   have fl2:∀ rs:List (List Keyed),rs.flatten.length=runs.flatten.length→(rs++[N]).flatten.length=runs.flatten.length+force:=fun rs hl=>by rw [List.flatten_append,List.length_append,hl,List.flatten_cons,List.flatten_nil,List.append_nil,nl]
   cases hb:(pendingOf y).back? with
   | none =>
    try rw [hb]
    exact wpS_bind (wpS_modify (wpS_pure ⟨_,_,_,rfl,last y runs Ry rfl,(fl2 runs rfl).symm,by (first|lia|omega)⟩))
   | some q =>
    try rw [hb]
    obtain ⟨s1,n1,w1⟩:=q
    try dsimp only
    refine wpS_bind (wpS_mono (wpS_forRange (fun _ c v=>c=(none,())∧∃ rs,Rn kd rk ini rs (N++rest') v∧rs.flatten.length=runs.flatten.length) (Q:=fun c v=>c=(none,())∧∃ rs,Rn kd rk ini rs (N++rest') v∧rs.flatten.length=runs.flatten.length) (fun x2 c v _ _ hK=>?_) (fun c v hK=>hK) ⟨rfl,runs,Ry,rfl⟩) fun c v hc=>?_)
    ·obtain ⟨rfl,rs,Rv,hl⟩:=hK
     refine wpS_bind (wpS_get ?_)
     have pl:(pendingOf v).size=rs.length:=by rw [← Rv.st.len]; simp
     by_cases c:(pendingOf v).size > 1
     ·rw [if_pos c]
      have g:(pendingOf v)[(pendingOf v).size - 2]?=some ((pendingOf v)[(pendingOf v).size - 2]'(by (first|lia|omega))):=getElem?_pos _ _ (by (first|lia|omega))
      rw [g]
      generalize ((pendingOf v)[(pendingOf v).size - 2]'(by (first|lia|omega)))=q
      obtain ⟨u1,u2,u3⟩:=q
      try dsimp only
      refine ite_ok (fun _=>wpS_pure ⟨rfl,rs,Rv,hl⟩) fun _=>?_
      have hm:(pendingOf v).size - 2+1 < rs.length:=by (first|lia|omega)
      refine wpS_bind (Rv.merge T hm fun v2 rs2 e1 e2 Rv2=>?_)
      exact wpS_pure ⟨rfl,rs2,Rv2,e1.trans hl⟩
     ·rw [if_neg c]
      exact wpS_pure ⟨rfl,rs,Rv,hl⟩
    ·obtain ⟨rfl,rs,Rv,hl⟩:=hc
     try dsimp only
     refine wpS_bind (wpS_modify (wpS_bind (wpS_modify (wpS_pure ⟨_,_,_,rfl,last _ rs ⟨Rv.ar,Rv.pm,Rv.kd,Rv.fl,Rv.ok,?_⟩ hl,(fl2 rs hl).symm,by (first|lia|omega)⟩))))
     show PM 0 ((pendingOf v).modify ((pendingOf v).size - 1) _).toList rs
     rw [Array.toList_modify]
     exact Rv.st.repower _ _ (fun p=>⟨rfl,rfl⟩)
  ·refine ite_ok (fun c2=>?_) fun _=>?_
   ·refine wpS_bind (wpS_lift (wpAny_rule ⟨rfl,?_⟩))
    have f1:r ≤ force0:=by
     show r ≤ min _ _
     have c3:r < _:=c2
     (first|lia|omega)
    have f2:force0 ≤ ini.size - runs.flatten.length:=Nat.min_le_left _ _
    refine wpS_bind (ins_l T my (by (first|lia|omega)) f1 uy fun y my uy=>?_)
    rw [if_neg (by decide)]
    exact K _ _ ⟨my,uy,by (first|lia|omega),by (first|lia|omega)⟩
   ·exact K _ _ ⟨my,uy,by (first|lia|omega),by (first|lia|omega)⟩
 ·obtain ⟨lo,runs,rest,rfl,R,rfl,hx⟩:=hI
  have zl:(arrOf z).toList.length=ini.size:=by simp; exact R.pm.size_eq
  have ll:runs.flatten.length+rest.length=ini.size:=by rw [← zl,R.ar,List.length_append]
  have er:rest=[]:=List.length_eq_zero_iff.mp (by (first|lia|omega))
  subst er
  exact ⟨rfl,runs,R⟩
 ·obtain ⟨c1,runs,R⟩:=hc
  rw [c1]
  try dsimp only
  have zl:(arrOf z).toList.length=ini.size:=by simp; exact R.pm.size_eq
  have ll:runs.flatten.length=ini.size:=by rw [← zl,R.ar,List.append_nil]
  refine wpS_bind (wpS_mono (wpS_forRange (fun x c v=>c=(none,())∧∃ rs,Rn kd rk ini rs [] v∧(rs.length ≤ 1∨rs.length+x ≤ ini.size)) (Q:=fun c v=>c=(none,())∧∃ rs,Rn kd rk ini rs [] v∧rs.length ≤ 1) (fun x c v _ lx hK=>?_) (fun c v hK=>?_) ⟨rfl,runs,R,.inr (by have:=runs_le fun S hS=>(R.ok S hS).1; (first|lia|omega))⟩) fun c v hc=>?_)
  ·obtain ⟨rfl,rs,Rv,hl⟩:=hK
   refine wpS_bind (wpS_get ?_)
   have pl:(pendingOf v).size=rs.length:=by rw [← Rv.st.len]; simp
   try dsimp only
   by_cases c:(pendingOf v).size ≤ 1
   ·rw [if_pos c]
    exact wpS_pure ⟨rfl,rs,Rv,by (first|lia|omega)⟩
   ·rw [if_neg c]
    generalize hij:(if (Option.any _ _:Bool)=true then _ else _)=ij
    have hlt:ij+1 < rs.length:=by
     have:ij ≤ (pendingOf v).size - 2:=by
      rw [← hij]
      exact ite_le2 (Nat.sub_le_sub_left (show 2 ≤ 3 by decide) _) (Nat.le_refl _)
     (first|lia|omega)
    refine wpS_bind (Rv.merge T hlt fun v2 rs2 e1 e2 Rv2=>?_)
    exact wpS_pure ⟨rfl,rs2,Rv2,.inr (by (first|lia|omega))⟩
  ·obtain ⟨hc,rs,Rv,hl⟩:=hK
   exact ⟨hc,rs,Rv,by (first|lia|omega)⟩
  ·obtain ⟨rfl,rs,Rv,hl⟩:=hc
   refine wpS_pure (h v Rv.pm Rv.fl ?_)
   rw [Rv.ar,List.append_nil]
   cases rs with
   | nil=>exact List.Pairwise.nil
   | cons S rs =>
    have:rs=[]:=List.length_eq_zero_iff.mp (by rw [List.length_cons] at hl; (first|lia|omega))
    subst this
    rw [List.flatten_cons,List.flatten_nil,List.append_nil]
    exact (Rv.ok S (by simp)).2
end
end L3
namespace L3
open PySem PySem.Spec PyProof.Rows L2
section
variable {prog:Program} {w:World} {A:Around} {E:Value→Shared→Prop} {s:Shared}
theorem ris_up {rk:Value→Int} {a:Array Keyed} {n:Nat} (hn:a.size=n) (h:Ris rk a.toList):∀ i j,i ≤ j→j < n→av rk a i ≤ av rk a j:=by
 intro i j hij hj
 rw [av_get (by (first|lia|omega)),av_get (by (first|lia|omega))]
 rcases Nat.eq_or_lt_of_le hij with e|e
 ·subst e; exact Int.le_refl _
 ·have:=List.pairwise_iff_getElem.mp h i j (by simp; (first|lia|omega)) (by simp; (first|lia|omega)) e
  simp only [Array.getElem_toList] at this
  (first|lia|omega)
end
section
variable {X:Cx} {F0 H0:Hp}
end
end L3
namespace L3
open PySem PySem.Spec PyProof.Rows L2
noncomputable def distinct (ns:List Int):List Int:=ns.foldl step_dedup []
theorem firstMet_is (ns:List Int):firstMet (fun i=>ns.getD i 0) ns.length=distinct ns:=by
 unfold firstMet distinct
 congr 1
 refine List.ext_getElem (by simp) fun i h1 h2=>?_
 simp at h1
 simp [List.getD,h1]
theorem distinct_le (ns:List Int):(distinct ns).length ≤ ns.length:=by
 rw [← firstMet_is]; exact firstMet_length_le _ _
section
variable {X:Cx} {F0 H0:Hp} {pos pos2 p p2:Pos}
end
end L3
namespace L3
open PySem PySem.Spec PyProof.Rows L2
section
variable {P:Program} {w:World} {K:PySem.W.Frag} {mg:Str→Option Value} {base:Heap}
end
section
variable {X:Cx} {F0 H0:Hp} {pos:Pos}
open Classical in
noncomputable def fnOf (o:Option (Option En)):Option Str:=match o with
 | some (some (.fz (.xc x [(_,.non)])))=>some x
 | _=>none
end
end L3
namespace L3
open PySem PySem.Spec PyProof.Rows L2
theorem RepT.look {κ:Kx} {F:Hp}:∀ {kds:List (List (Sum Int Str)×D)} {kvs:List (List Key×V)} (k:List Key),RepT κ F kvs kds→(∃ v d,valV kvs k=some v∧L3.look k kds=some d∧Rep κ F v d)∨(valV kvs k=none∧L3.look k kds=none)
 | [],_,k,h=>by cases (show _=_ from h); exact .inr ⟨rfl,rfl⟩
 | (q,d)::r,_,k,h=>by
  obtain ⟨v,kr,rfl,h1,h2⟩:=h
  by_cases e:q=k
  ·subst e
   exact .inl ⟨v,d,by unfold valV; simp,by unfold L3.look; rw [if_pos rfl],h1⟩
  ·rcases RepT.look k h2 with ⟨v',d',a1,a2,a3⟩|⟨a1,a2⟩
   ·refine .inl ⟨v',d',?_,by unfold L3.look; rw [if_neg e]; exact a2,a3⟩
    unfold valV at a1 ⊢
    rw [List.find?_cons_of_neg (by simpa using e)]
    exact a1
   ·refine .inr ⟨?_,by unfold L3.look; rw [if_neg e]; exact a2⟩
    unfold valV at a1 ⊢
    rw [List.find?_cons_of_neg (by simpa using e)]
    exact a1
section
variable {X:Cx} {F0 H0:Hp} {pos:Pos}
end
end L3
set_option Elab.async false
set_option linter.all false
set_option maxRecDepth 100000
set_option maxHeartbeats 4000000
namespace L3
open PySem PySem.Spec PyProof.Rows L2
theorem len1 {α:Type}:∀ {us:List α},us.length=1→∃ a,us=[a]
 | [a],_=>⟨a,rfl⟩
theorem len2 {α:Type}:∀ {us:List α},us.length=2→∃ a b,us=[a,b]
 | [a,b],_=>⟨a,b,rfl⟩
theorem len3 {α:Type}:∀ {us:List α},us.length=3→∃ a b c,us=[a,b,c]
 | [a,b,c],_=>⟨a,b,c,rfl⟩
theorem len6 {α:Type}:∀ {us:List α},us.length=6→∃ a b c d e f,us=[a,b,c,d,e,f]
 | [a,b,c,d,e,f],_=>⟨a,b,c,d,e,f,rfl⟩
section
variable {X:Cx} {F0 H0:Hp}
end
end L3
set_option Elab.async false
set_option linter.all false
set_option maxRecDepth 100000
set_option maxHeartbeats 4000000
namespace L3
open PySem PySem.Spec PyProof.Rows L2
noncomputable def insD (x:Int):List Int→List Int
 | []=>[x]
 | y::r=>if y ≤ x then x::y::r else y::insD x r
noncomputable def sortD:List Int→List Int
 | []=>[]
 | x::r=>insD x (sortD r)
theorem insD_perm (x:Int):∀ l:List Int,(insD x l).Perm (x::l)
 | []=>List.Perm.refl _
 | y::r=>by
  unfold insD
  split
  ·exact List.Perm.refl _
  ·exact ((insD_perm x r).cons y).trans (List.Perm.swap x y r)
theorem sortD_perm:∀ l:List Int,(sortD l).Perm l
 | []=>List.Perm.refl _
 | x::r=>(insD_perm x (sortD r)).trans ((sortD_perm r).cons x)
theorem insD_ge (x:Int):∀ l:List Int,l.Pairwise (· ≥ ·)→(insD x l).Pairwise (· ≥ ·)
 | [],_=>by simp [insD]
 | y::r,h=>by
  rw [List.pairwise_cons] at h
  unfold insD
  split
  ·rename_i c
   refine List.pairwise_cons.mpr ⟨fun z hz=>?_,List.pairwise_cons.mpr h⟩
   rcases List.mem_cons.mp hz with q|q
   ·rw [q]; exact c
   ·exact Int.le_trans (h.1 z q) c
  ·rename_i c
   refine List.pairwise_cons.mpr ⟨fun z hz=>?_,insD_ge x r h.2⟩
   rcases List.mem_cons.mp ((insD_perm x r).mem_iff.mp hz) with q|q
   ·rw [q]; show x ≤ y; (first|lia|omega)
   ·exact h.1 z q
theorem sortD_ge:∀ l:List Int,(sortD l).Pairwise (· ≥ ·)
 | []=>List.Pairwise.nil
 | x::r=>insD_ge x _ (sortD_ge r)
theorem desc_one:∀ {xs ys:List Int},xs.Perm ys→xs.Pairwise (· ≥ ·)→ys.Pairwise (· ≥ ·)→xs=ys
 | [],ys,p,_,_=>by rw [List.nil_perm.mp p]
 | x::xs,[],p,_,_=>by have:=p.length_eq; simp at this
 | x::xs,y::ys,p,hx,hy=>by
  rw [List.pairwise_cons] at hx hy
  have e:x=y:=by
   have m1:x∈y::ys:=p.mem_iff.mp List.mem_cons_self
   have m2:y∈x::xs:=p.mem_iff.mpr List.mem_cons_self
   rcases List.mem_cons.mp m1 with q|q
   ·exact q
   ·rcases List.mem_cons.mp m2 with q2|q2
    ·exact q2.symm
    ·exact Int.le_antisymm (hy.1 x q) (hx.1 y q2)
  subst e
  rw [desc_one (List.Perm.cons_inv p) hx.2 hy.2]
noncomputable def dSortR:D→D→R En
 | .lst ds,.bl true=>(match intsOf ds with
  | some ns=>if ns.length < 64 then .ok (.ow (.lst ((sortD ns).map D.int))) else .stuck
  | none=>.stuck)
 | _,_=>.stuck
theorem vals_intsAre:∀ {us:List Value} {ns:List Int},IntsAre us ns→Vals (ns.map V.int) us:=by
 intro us ns h
 induction h with
 | nil=>exact .nil
 | cons=>rename_i ih; exact .cons ⟨_,rfl⟩ ih
section
variable {X:Cx} {F0 H0:Hp} {pos p kp:Pos}
theorem se_sortR {e d:Expr} {fe fd:EF} (he:SE X F0 H0 e fe) (hd:SE X F0 H0 d fd) (hm:X.mg "sorted"=none) (hg:Gl X "sorted":=by rfl)
  (h1:backTo pos (starEach [e] X.env)=(false,eval e X.env)::backTo pos (starEach [] X.env):=by rfl) (h2:(backTo pos (starEach [e] X.env)).any (·.1)=false:=by rfl)
  (h3:(backToKw pos (keywordEach [⟨some "reverse",d,kp⟩] X.env)).all (·.1.isSome)=true:=by rfl) (h4:(backToKw pos (keywordEach [⟨some "reverse",d,kp⟩] X.env)).any (·.1.isNone)=false:=by rfl)
  (h5:(backToKw pos (keywordEach [⟨some "reverse",d,kp⟩] X.env)).filterMap (·.1)=[Str.ofString "reverse"]:=by rfl)
  (hst:starEach [e] X.env=[(false,eval e X.env)]:=by rfl) :
  SE X F0 H0 (.Call (.Name "sorted" p) [e] [⟨some "reverse",d,kp⟩] pos) (eOp dSortR fe fd):=by
 intro pins s σ F H ρ Q S I h
 refine wpAny_Call_Name_kw (ld_blt I hg hm PyProof.Rows.boot_sorted ?_)
 refine callWith_kw ?_ h1 h2 h3 h4
 rw [hst]
 refine Calls.spliced_cons (he pins s σ F H ρ _ S I ((KE.bind h).imp fun wx k1 v u F1 H1 s1 g1 q1 r1 I1=>Calls.spliced_nil ?_))
 refine kws_cons (hd pins s1 σ F1 H1 ρ _ (S.grow g1) I1 ((KE.bind k1).imp fun wy k2 v2 u2 F2 H2 s2 g2 q2 r2 I2=>kws_nil ?_))
 rw [h5]
 have qx:=RdV.gr g2 (Vok.rd q1)
 have qy:=Vok.rd q2
 have wish:=wish_end (g1.trans g2) k2
 revert wish qx qy
 generalize wx.d=dx
 generalize wy.d=dy
 intro qx qy wish
 cases dx <;> first|exact wish.elim|skip
 rename_i ds
 cases dy <;> first|exact wish.elim|skip
 rename_i dv
 cases dv
 ·exact wish.elim
 unfold dSortR at wish
 dsimp only at wish
 cases RdV.bl qy
 cases r2
 cases ei:intsOf ds with
 | none=>rw [ei] at wish; exact wish.elim
 | some ns =>
  rw [ei] at wish
  dsimp only at wish
  by_cases c:ns.length < 64
  ·rw [if_pos c] at wish
   obtain ⟨a,vs,rfl,hq,rs⟩:=RdV.lst g2.s qx
   have ev:=intsOf_reps ei rs
   subst ev
   cases r1
   obtain ⟨its,rv,pl,hz⟩:=I2.list hq
   have hi:IntsAre its ns:=intsAre_of rv
   have il:its.length=ns.length:=by rw [← rv.length,List.length_map]
   refine ep_end (pins:=pins) (σ:=σ) (sorted_ints_rev (b:=true) pl.isList hi (by rw [il]; exact c) fun out ns' a1 a2 a3=>?_)
   have a3:ns'.Pairwise (· ≥ ·):=a3
   have en:ns'=sortD ns:=desc_one (a2.trans (sortD_perm ns).symm) a3 (sortD_ge ns)
   subst en
   obtain ⟨c',hE⟩:=sortedAll_at s2.heap its out
   have hp:H2 (s2.heap.objs.size+1)=none:=I2.hok.fresh (Nat.le_succ _)
   have hl2:((sortD ns).map V.int).length ≤ sizeLine:=by
    rw [List.length_map,(sortD_perm ns).length_eq,sizeLine_eq]
    (first|lia|omega)
   refine ⟨.ref (s2.heap.objs.size+1),upd H2 (s2.heap.objs.size+1) (.lst ((sortD ns).map V.int)),I2.laid (t':=s2.toks) (fun b o q=>sortedAll_old q) (Nat.le_succ _) ⟨hl2,out.toList,c',vals_intsAre a1,hE⟩,rfl,?_⟩
   exact wish _ _ _ (Gr.new g2.s hp) ⟨_,_,rfl,hp,Le.none g2.s hp,upd_same,reps_ints (sortD ns)⟩
  ·rw [if_neg c] at wish; exact wish.elim
end
end L3
set_option Elab.async false
set_option linter.all false
set_option maxRecDepth 100000
set_option maxHeartbeats 4000000
namespace L3
open PySem PySem.Spec PyProof.Rows L2
noncomputable abbrev UpN (xs:Array Nat):Prop:=xs.toList.Pairwise (· < ·)
structure CutN (xs:Array Nat) (j i:Nat):Prop where
 le:i ≤ xs.size
 lo:∀ k (h:k < xs.size),k < i→xs[k] < j
 hi:∀ k (h:k < xs.size),i ≤ k→j ≤ xs[k]
theorem UpN.lt {xs:Array Nat} (u:UpN xs) {i j:Nat} (hij:i < j) (hj:j < xs.size):xs[i] < xs[j]:=by
 have:=(List.pairwise_iff_getElem.mp u) i j (by simpa using Nat.lt_trans hij hj) (by simpa using hj) hij
 simpa using this
theorem cut_go {xs:Array Nat} (u:UpN xs) (j:Nat):∀ (fuel lo hi:Nat),hi - lo ≤ fuel→lo ≤ hi→hi ≤ xs.size →
  (∀ k (h:k < xs.size),k < lo→xs[k] < j)→(∀ k (h:k < xs.size),hi ≤ k→j ≤ xs[k])→CutN xs j (SetTable.below.go xs j fuel lo hi)
 | 0,lo,hi,h1,h2,h3,h4,h5=>by
  have:lo=hi:=by (first|lia|omega)
  subst this
  exact ⟨h3,h4,h5⟩
 | fuel+1,lo,hi,h1,h2,h3,h4,h5=>by
  unfold SetTable.below.go
  by_cases c:lo < hi
  ·rw [if_pos c]
   dsimp only
   have hm:(lo+hi) / 2 < hi:=by (first|lia|omega)
   have hl:lo ≤ (lo+hi) / 2:=by (first|lia|omega)
   generalize (lo+hi) / 2=m at hm hl
   have hms:m < xs.size:=by (first|lia|omega)
   have eg:xs.getD m j=xs[m]:=by simp [Array.getD,hms]
   rw [eg]
   by_cases d:xs[m] < j
   ·rw [if_pos d]
    refine cut_go u j fuel (m+1) hi (by (first|lia|omega)) (by (first|lia|omega)) h3 (fun k h hk=>?_) h5
    rcases Nat.lt_or_ge k m with q|q
    ·exact Nat.lt_trans (u.lt q hms) d
    ·have:k=m:=by (first|lia|omega)
     subst this
     exact d
   ·rw [if_neg d]
    refine cut_go u j fuel lo m (by (first|lia|omega)) hl (by (first|lia|omega)) h4 (fun k h hk=>?_)
    rcases Nat.lt_or_ge m k with q|q
    ·exact Nat.le_trans (Nat.le_of_not_lt d) (Nat.le_of_lt (u.lt q h))
    ·have:k=m:=by (first|lia|omega)
     subst this
     (first|lia|omega)
  ·rw [if_neg c]
   have:lo=hi:=by (first|lia|omega)
   subst this
   exact ⟨h3,h4,h5⟩
theorem cut_below {xs:Array Nat} (u:UpN xs) (j:Nat):CutN xs j (SetTable.below xs j) :=
 cut_go u j xs.size 0 xs.size (by (first|lia|omega)) (by (first|lia|omega)) (Nat.le_refl _) (fun k h hk=>absurd hk (by (first|lia|omega))) (fun k h hk=>absurd h (by (first|lia|omega)))
theorem CutN.one {xs:Array Nat} {j i i':Nat} (a:CutN xs j i) (b:CutN xs j i'):i=i':=by
 rcases Nat.lt_trichotomy i i' with h|h|h
 ·have hs:i < xs.size:=Nat.lt_of_lt_of_le h b.le
  have:=a.hi i hs (Nat.le_refl _)
  have:=b.lo i hs h
  (first|lia|omega)
 ·exact h
 ·have hs:i' < xs.size:=Nat.lt_of_lt_of_le h a.le
  have:=b.hi i' hs (Nat.le_refl _)
  have:=a.lo i' hs h
  (first|lia|omega)
theorem below_next {xs:Array Nat} (u:UpN xs) {i:Nat} (h:i < xs.size):SetTable.below xs (xs[i]+1)=i+1:=by
 refine (cut_below u _).one ⟨h,fun k hk c=>?_,fun k hk c=>?_⟩
 ·rcases Nat.lt_or_ge k i with q|q
  ·exact Nat.lt_succ_of_lt (u.lt q h)
  ·have:k=i:=by (first|lia|omega)
   subst this
   exact Nat.lt_succ_self _
 ·exact u.lt (Nat.lt_of_succ_le c) hk
theorem below_zero {xs:Array Nat} (u:UpN xs):SetTable.below xs 0=0 :=
 (cut_below u _).one ⟨Nat.zero_le _,fun k hk c=>absurd c (Nat.not_lt_zero _),fun k hk c=>Nat.zero_le _⟩
theorem up_insert {xs:Array Nat} (u:UpN xs) {j:Nat} (h:xs[SetTable.below xs j]?≠some j):UpN (SetTable.insertAt xs (SetTable.below xs j) j):=by
 have C:=cut_below u j
 revert C h
 generalize SetTable.below xs j=p
 intro h C
 show List.Pairwise _ _
 rw [SetTable.toList_insertAt]
 refine List.pairwise_append.mpr ⟨u.sublist (List.take_sublist _ _),List.pairwise_cons.mpr ⟨fun y hy=>?_,u.sublist (List.drop_sublist _ _)⟩,fun x hx y hy=>?_⟩
 ·obtain ⟨k,hk,rfl⟩:=List.mem_iff_getElem.mp hy
  rw [List.length_drop] at hk
  have hs:p+k < xs.size:=by simp at hk; (first|lia|omega)
  rw [List.getElem_drop,Array.getElem_toList]
  have le:=C.hi (p+k) hs (by (first|lia|omega))
  rcases Nat.lt_or_ge j xs[p+k] with q|q
  ·exact q
  ·exfalso
   have e:xs[p+k]=j:=by (first|lia|omega)
   cases k with
   | zero=>exact h (by have e2:xs[p]?=some xs[p+0]:=getElem?_pos xs (p+0) hs; rw [e2,e])
   | succ k =>
    have hp:p < xs.size:=by (first|lia|omega)
    have l1:=C.hi p hp (Nat.le_refl _)
    have l2:=u.lt (i:=p) (j:=p+(k+1)) (by (first|lia|omega)) hs
    (first|lia|omega)
 ·obtain ⟨k,hk,rfl⟩:=List.mem_iff_getElem.mp hx
  rw [List.length_take] at hk
  have hs:k < xs.size:=by simp at hk; (first|lia|omega)
  rw [List.getElem_take,Array.getElem_toList]
  have l1:=C.lo k hs (by (first|lia|omega))
  rcases List.mem_cons.mp hy with q|q
  ·rw [q]; exact l1
  ·obtain ⟨k2,hk2,rfl⟩:=List.mem_iff_getElem.mp q
   rw [List.length_drop] at hk2
   have hs2:p+k2 < xs.size:=by simp at hk2; (first|lia|omega)
   rw [List.getElem_drop,Array.getElem_toList]
   exact Nat.lt_of_lt_of_le l1 (C.hi (p+k2) hs2 (by (first|lia|omega)))
theorem up_range (n:Nat):UpN (Array.range n):=by
 show List.Pairwise _ _
 rw [Array.toList_range]
 exact List.pairwise_lt_range
noncomputable def FineT (b:Bool) (t:SetTable):Prop:=b=false→t.led=true∧UpN t.place
theorem fine_fresh (b:Bool) (f m:Nat):FineT b (.fresh f m (!b)):=fun e=>by
 subst e
 exact ⟨rfl,List.Pairwise.nil⟩
theorem fine_standIn {b:Bool} {t:SetTable} (h:FineT b t) (n:Nat):FineT b (t.standIn n):=fun e=>⟨(h e).1,up_range n⟩
theorem fine_plain {b:Bool} {t:SetTable} (h:FineT b t) (c:Bool):FineT b { t with plain:=c }:=fun e=>h e
theorem slot_not {t:SetTable} {j:Nat} (h:∀ i,t.slot j≠.live i):t.place[SetTable.below t.place j]?≠some j:=fun e=>by
 refine h (SetTable.below t.place j) ?_
 unfold SetTable.slot
 dsimp only
 rw [e,if_pos (by simp)]
theorem probe_free {t:SetTable} {f:Nat→Int} {h:Int}:∀ (fuel:Nat) (p:SetTable.Probe) {j:Nat} {d:Option Nat},(∀ q,p.dummy=some q→∀ i,t.slot q≠.live i) →
  SetTable.probe.go t f h fuel p=some (.empty j d)→∀ i,t.slot (d.getD j)≠.live i
 | 0,p,j,d,_,e=>by simp [SetTable.probe.go] at e
 | fuel+1,p,j,d,hp,e=>by
  unfold SetTable.probe.go at e
  have adv:∀ p':SetTable.Probe,(t.advance p').dummy=p'.dummy:=fun p'=>by
   unfold SetTable.advance
   split <;> rfl
  cases es:t.slot p.j with
  | empty =>
   rw [es] at e
   dsimp only at e
   cases e
   cases hd:p.dummy with
   | none=>intro i; rw [Option.getD_none,es]; exact fun q=>nomatch q
   | some q=>exact hp q hd
  | dummy =>
   rw [es] at e
   dsimp only at e
   refine probe_free fuel _ (fun q hq=>?_) e
   rw [adv] at hq
   cases hq
   intro i
   rw [es]
   exact fun q=>nomatch q
  | live i =>
   rw [es] at e
   dsimp only at e
   by_cases c:(f i == h)=true
   ·rw [if_pos c] at e; cases e
   ·rw [if_neg c] at e
    exact probe_free fuel _ (fun q hq=>hp q (by rw [adv] at hq; exact hq)) e
theorem fine_layNew {b:Bool} {t:SetTable} (ht:FineT b t) (es:Array (Int×Value)) (h:Int) (x:Value):FineT b (layNew t es h x).2.1:=by
 unfold layNew
 split
 ·rename_i slot wd e
  dsimp only
  have fr:∀ i,t.slot slot≠.live i:=by
   unfold SetTable.freeSlot at e
   split at e
   ·rename_i j d e2
    cases e
    exact probe_free _ _ (fun q hq=>by have hq:(none:Option Nat)=some q:=hq; cases hq) e2
   ·cases e
  unfold SetTable.orStandIn
  split
  ·exact fun hb=>⟨(ht hb).1,up_insert (ht hb).2 (slot_not fr)⟩
  ·exact fun hb=>⟨(ht hb).1,up_range _⟩
 ·exact fine_standIn ht _
theorem fine_relayAll {b:Bool} {t:SetTable} (ht:FineT b t) (es:Array (Int×Value)) (n:Nat):FineT b (relayAll t es n).2.1:=by
 unfold relayAll
 split
 ·rename_i t' order e
  dsimp only
  split
  ·unfold SetTable.relaid SetTable.laid at e
   intro hb
   cases eo:SetTable.layClean (SetTable.sizeAbove n - 1) (es.map (·.1)) with
   | none=>rw [eo] at e; cases e
   | some owner =>
    rw [eo] at e
    simp only [Option.bind_eq_bind,Option.bind_some,Option.pure_def,Option.some.injEq,Prod.mk.injEq] at e
    obtain ⟨rfl,_⟩:=e
    refine ⟨(ht hb).1,?_⟩
    show List.Pairwise _ _
    simp only [List.pairwise_map]
    refine List.Pairwise.filterMap (R:=(· < ·)) _ (fun a a' h y hy y' hy'=>?_) List.pairwise_lt_range
    cases ea:owner.getD a none with
    | none=>rw [ea] at hy; cases hy
    | some u =>
     cases eb:owner.getD a' none with
     | none=>rw [eb] at hy'; cases hy'
     | some u' =>
      rw [ea] at hy; rw [eb] at hy'
      cases hy; cases hy'
      exact h
  ·exact fine_standIn ht _
 ·exact fine_standIn ht _
theorem erase_perm {α:Type}:∀ (l:List α) (i:Nat) (h:i < l.length),(l[i]::l.eraseIdx i).Perm l
 | x::l,0,_=>List.Perm.refl _
 | x::l,i+1,h=>by
  have ih:=erase_perm l i (Nat.lt_of_succ_lt_succ h)
  exact (List.Perm.swap _ _ _).trans (ih.cons x)
theorem pick_perm {α:Type} (next:Nat→Nat):∀ (fuel k:Nat) (left:List α) (out:Array α),left.length=fuel→(pickOrder.go next fuel k left out).toList.Perm (out.toList++left)
 | 0,k,left,out,h=>by
  have:left=[]:=List.length_eq_zero_iff.mp h
  subst this
  unfold pickOrder.go
  simp
 | fuel+1,k,left,out,h=>by
  unfold pickOrder.go
  have hp:0 < left.length:=by (first|lia|omega)
  have hi:next k % left.length < left.length:=Nat.mod_lt _ hp
  revert hi
  generalize next k % left.length=i
  intro hi
  rw [getElem?_pos left i hi]
  dsimp only
  refine (pick_perm next fuel (k+1) (left.eraseIdx i) (out.push left[i]) (by rw [List.length_eraseIdx,if_pos hi]; (first|lia|omega))).trans ?_
  rw [Array.toList_push,List.append_assoc]
  (refine List.Perm.append_left _ ?_)
  exact erase_perm _ _ hi
theorem pickOrder_perm {α:Type} (next:Nat→Nat) (xs:Array α):(pickOrder next xs).toList.Perm xs.toList:=by
 have:=pick_perm next xs.size 0 xs.toList #[] (by simp)
 unfold pickOrder
 simpa using this
section
variable {w:World} {prog:Program} {A:Around} {E:Value→Shared→Prop}
theorem wp_choose2 {s:Shared} {src:Source} {n:Nat} {Q:Nat→Shared→Prop} (h0:n≠0) (h:∀ i dr,i < n→Q i { s with drawn:=dr }):wpAny (model prog w) A (choose src n) Q E s:=fun _ _ _ =>
 ⟨h0,h _ _ (Nat.mod_lt _ (Nat.pos_of_ne_zero h0))⟩
theorem wp_drawOrder {α:Type}:∀ (n:Nat) (xs:List α) (s:Shared) {Q:List α→Shared→Prop},xs.length=n→(∀ ys dr,ys.Perm xs→Q ys { s with drawn:=dr })→wpAny (model prog w) A (drawOrder n xs) Q E s
 | 0,xs,s,Q,hn,h=>by
  have:xs=[]:=List.length_eq_zero_iff.mp hn
  subst this
  exact wpAny_pure (h [] s.drawn (List.Perm.refl _))
 | n+1,[],s,Q,hn,h=>by simp at hn
 | n+1,x::xs,s,Q,hn,h=>by
  unfold drawOrder
  refine wpAny_bind (wp_choose2 (by simp) fun i dr hi=>?_)
  rw [getElem?_pos (x::xs) i hi]
  dsimp only
  refine wpAny_bind (wp_drawOrder n ((x::xs).eraseIdx i) _ (by rw [List.length_eraseIdx,if_pos hi,hn]; rfl) fun ys dr2 hp=>wpAny_pure ?_)
  exact h _ dr2 ((hp.cons _).trans (erase_perm _ _ hi))
end
end L3
namespace L3
open PySem PySem.Spec PyProof.Rows L2
noncomputable def FineAt (b:Bool) (h:Heap) (a:Addr):Prop:=∃ o es ep t,h.get? a=some o∧o.data=.set es ep t∧FineT b t
section
variable {w:World} {prog:Program} {A:Around} {E:Value→Shared→Prop} {s:Shared}
theorem fine_store {b:Bool} {h:Heap} {a:Addr} {o:Obj} {es es':Array (Int×Value)} {ep:Nat} {t t':SetTable} (ho:h.get? a=some o) (hd:o.data=.set es ep t) (hf:FineT b t'):FineAt b (h.update a (Obj.putSet es' t')) a:=by
 have e:=putSet_of es' t' hd
 have g:=Heap.get?_update_self (Obj.putSet es' t') ho (by rw [e]; rfl)
 rw [e] at g
 exact ⟨_,es',ep+1,t',g,rfl,hf⟩
theorem add_fine {b:Bool} {a:Addr} {S:Int→Bool} {n:Nat} {k:Int} {x:Value} {Q:Bool→Shared→Prop} (hkey:(intKind prog w).is k x=true) (hsc:x.scannable=true) (hS:s.heap.SetOf (intKind prog w) a S n) (hF:FineAt b s.heap a) (hroom:n+1 < scanBound)
  (h:∀ h',Heap.SameBut a s.heap h'→h'.SetOf (intKind prog w) a (fun k'=>S k' || decide (k'=k)) (if S k then n else n+1)→FineAt b h' a→∀ r,Q r { s with heap:=h' }) :
  wpAny (model prog w) A (setAddHashed a x ((intKind prog w).hash k)) Q E s:=by
 obtain ⟨o,es,ep,t,ho,hex,hd,hel,hmem,hb,hf,hn⟩:=id hS
 obtain ⟨o2,es2,ep2,t2,ho2,hd2,hfi⟩:=id hF
 rw [ho] at ho2; cases ho2; rw [hd] at hd2; cases hd2
 (unfold setAddHashed setAddHashedIn)
 refine wpAny_holding (wpAny_bind (wpAny_setState_of ho hd hf ?_)); dsimp only; rw [byScan_of hsc hb hel]; simp only [↓reduceIte]; unfold setAddByScan
 refine wpAny_bind ?_; refine wpAny_bind (wpAny_rule ?_); refine wpAny_bind (wpAny_setScan_of hkey ho hd hf hel ?_)
 cases hr:List.findIdx? (fun e=>(intKind prog w).is k e.2) es.toList with
 | some j =>
  dsimp only; obtain ⟨hj,hpj,_⟩:=List.findIdx?_eq_some_iff_getElem.mp hr
  (have hSk:S k=true:=(hmem k).mpr ⟨es.toList[j],List.getElem_mem hj,hpj⟩)
  (refine wpAny_pure (wpAny_pure ?_))
  have q:=h s.heap (Heap.SameBut.refl a s.heap) ⟨o,es,ep,t,ho,hex,hd,hel,fun k'=>by
   rw [Bool.or_eq_true,decide_eq_true_eq,← hmem k']; exact ⟨fun hk=>hk.elim id (fun e=>e ▸ hSk),.inl⟩,hb,hf,by rw [hSk]; exact hn⟩ hF false
  exact q
 | none =>
  dsimp only
  have hSk:S k=false:=by
   cases hk:S k with
   | false=>rfl
   | true =>
    obtain ⟨e,he,hp⟩:=(hmem k).mp hk
    have c:=List.findIdx?_eq_none_iff.mp hr e he
    rw [hp] at c; cases c
  have hgw:∀ (c:Bool) {s₁:Shared} {Q':Unit→Shared→Prop},Q' () s₁→wpAny (model prog w) A (match c with|true=>rule "set.scan.the-table-gave-way"|false=>pure ()) Q' E s₁:=by
   intro c s₁ Q' hq
   cases c
   ·exact wpAny_pure hq
   ·exact wpAny_rule hq
  have hperm:=layNew_perm t es ((intKind prog w).hash k) x; have hfits:=layNew_fits t es ((intKind prog w).hash k) x; have hfin:=fine_layNew hfi es ((intKind prog w).hash k) x
  generalize layNew t es ((intKind prog w).hash k) x=L at hperm hfits hfin ⊢
  obtain ⟨es1,t1,wd,gave⟩:=L
  dsimp only at hperm hfits hfin ⊢; rw [Array.toList_push] at hperm
  have hel1:ElemsOf (intKind prog w) es1.toList:=(hel.push hkey hsc).perm hperm
  have hmem1:=fun k'=>mem_push_iff (k':=k') hkey hmem hperm
  have hsz1:es1.size=n+1:=by rw [← Array.length_toList,hperm.length_eq,List.length_append,Array.length_toList,hn]; simp
  have hb1:es1.size < scanBound:=by (first|lia|omega)
  have hend:∀ h',Heap.SameBut a s.heap h'→h'.SetOf (intKind prog w) a (fun k'=>S k' || decide (k'=k)) es1.size→FineAt b h' a→∀ r,Q r { s with heap:=h' }:=fun h' x y z r=>by
   refine h h' x ?_ z r
   rw [hSk,if_neg (by simp),← hsz1]; exact y
  have last:∀ t2:SetTable,t2.fits es1.size=true→FineT b t2→wpAny (model prog w) A (do
    storeSet a es1 t2
    if (!wd && t2.tooFull)=true then do
      (match (relayAll t2 es1 (SetTable.grown es1.size)).2.2 with|true=>rule "set.scan.the-table-gave-way"|false=>pure ())
      storeSet a (relayAll t2 es1 (SetTable.grown es1.size)).fst (relayAll t2 es1 (SetTable.grown es1.size)).2.1
      pure (some true)
     else pure (some true)) (fun r s'=>wpAny (model prog w) A (match r with|some added=>pure added|none=>setAddHashedIn a x ((intKind prog w).hash k) 99999) Q E s') E s:=by
   intro t2 hf2 hfi2
   refine wpAny_bind (wpAny_storeSet_of ho hd ?_ (fits_of_scanBound hb1)); obtain ⟨ho1,hS1⟩:=SetOf_store (knd:=intKind prog w) ho hex hd hel1 hmem1 hb1 hf2
   have hsb1:=Heap.SameBut.update s.heap a (Obj.putSet es1 t2); have hF1:=fine_store (es':=es1) (b:=b) ho hd hfi2
   by_cases c:(!wd && t2.tooFull)=true
   ·rw [if_pos c]
    have hp:=relayAll_perm t2 es1 (SetTable.grown es1.size); have hfr:=relayAll_fits t2 es1 (SetTable.grown es1.size); have hfn:=fine_relayAll hfi2 es1 (SetTable.grown es1.size)
    generalize relayAll t2 es1 (SetTable.grown es1.size)=Rl at hp hfr hfn ⊢
    obtain ⟨es2,t3,gave2⟩:=Rl
    dsimp only at hp hfr hfn ⊢
    have hmem2:∀ k',(S k' || decide (k'=k))=true ↔ ∃ e∈es2.toList,(intKind prog w).is k' e.2=true:=fun k'=>by
     rw [hmem1 k']
     exact ⟨fun ⟨e,he,q⟩=>⟨e,hp.mem_iff.mpr he,q⟩,fun ⟨e,he,q⟩=>⟨e,hp.mem_iff.mp he,q⟩⟩
    (have hsz:es2.size=es1.size:=by rw [← Array.length_toList,hp.length_eq,Array.length_toList])
    have hb2:es2.size < scanBound:=by (first|lia|omega)
    refine wpAny_bind (hgw _ ?_); refine wpAny_bind (wpAny_storeSet_of ho1 rfl ?_ (fits_of_scanBound hb2)); obtain ⟨_,hS2⟩:=SetOf_store (knd:=intKind prog w) ho1 hex rfl (hel1.perm hp) hmem2 hb2 hfr
    rw [hsz] at hS2
    exact wpAny_pure (wpAny_pure (hend _ (hsb1.trans (Heap.SameBut.update _ a _)) hS2 (fine_store ho1 rfl hfn) _))
   ·rw [if_neg c]
    exact wpAny_pure (wpAny_pure (hend _ hsb1 hS1 hF1 _))
  refine wpAny_bind (hgw _ ?_)
  cases ep1:t1.plain with
  | true =>
   try rw [ep1]
   simp only [↓reduceIte]
   refine wpAny_bind ?_; rw [hashByValue_scannable 8 hsc]; refine wpAny_pure ?_
   cases plainKind x with
   | true=>exact last t1 hfits hfin
   | false=>exact last { t1 with plain:=false } (SetTable.fits_plain_off hfits) (fine_plain hfin _)
  | false =>
   try rw [ep1]
   (simp only [Bool.false_eq_true,↓reduceIte])
   exact wpAny_bind (wpAny_pure (last t1 hfits hfin))
end
end L3
namespace L3
open PySem PySem.Spec PyProof.Rows L2
noncomputable abbrev byT (w:World):Bool:=w.params.followText "set-order"
theorem fineAt_keep {b:Bool} {h h':Heap} {a:Addr} (x:FineAt b h a) (k:∀ o,h.get? a=some o→h'.get? a=some o):FineAt b h' a :=
 let ⟨o,es,ep,t,ho,r⟩:=x; ⟨o,es,ep,t,k o ho,r⟩
theorem setOf_keep {prog:Program} {w:World} {h h':Heap} {a:Addr} {S:Int→Bool} {n:Nat} (x:h.SetOf (intKind prog w) a S n) (k:∀ o,h.get? a=some o→h'.get? a=some o):h'.SetOf (intKind prog w) a S n :=
 let ⟨o,es,ep,t,ho,r⟩:=x; ⟨o,es,ep,t,k o ho,r⟩
section
variable {w:World} {prog:Program} {A:Around} {R:Result→Shared→Prop} {I:Addr} {fp wr:List Addr} {G:Array GenState→Array GenState→Prop} {n:Nat} {P:Nat→Value→Prop} {St:Nat→Shared→Prop}
theorem upd_loop {b:Bool} (W:WalksS prog w A.in1 I fp wr G n P St) (S:Addr) (hSf:S ∉ fp) (val:Nat→Int) (hval:∀ i v,P i v→∃ t,v=.int (val i) t) (hb:n+1 < scanBound) :
  ∀ (k i:Nat) (s:Shared),n - i=k→i ≤ n→St i s→s.heap.SetOf (intKind prog w) S (fun k'=>(firstMet val i).any (· == k')) (firstMet val i).length→FineAt b s.heap S →
   (∀ s',Moved (S::wr) G s s'→s'.heap.SetOf (intKind prog w) S (fun k'=>(firstMet val n).any (· == k')) (firstMet val n).length→FineAt b s'.heap S→R (.ok (.ret .none)) s')→codeAny (model prog w) A (.builtin "set.update.loop" ⟨[.ref S,.ref I],[]⟩) R s:=by
 (have hSw:S ∉ wr:=fun h=>hSf (W.sub _ h))
 (have hsub:∀ b∈wr,b∈S::wr:=fun b hb=>List.mem_cons_of_mem _ hb)
 intro k
 induction k with
 | zero =>
  intro i s hk hi hst hS hF hR
  have hin:i=n:=by (first|lia|omega)
  subst hin
  refine codeAny_builtin PyProof.Rows.F.entry_set_update_loop ?_; rw [Around.under_plainId PyProof.Rows.F.plain_set_update_loop _]
  show wpAny _ A.in1 (pyNext (.ref I) >>= _) _ _ s; refine wpAny_bind (W.done s _ _ hst fun s' hm=>?_); show wpAny _ A.in1 (ret Value.none) _ _ s'
  exact wpAny_pure (hR s' (hm.mono hsub) (setOf_keep hS fun o e=>hm.heap S o hSw e) (fineAt_keep hF fun o e=>hm.heap S o hSw e))
 | succ k ih =>
  intro i s hk hi hst hS hF hR
  have hlt:i < n:=by (first|lia|omega)
  refine codeAny_builtin PyProof.Rows.F.entry_set_update_loop ?_; rw [Around.under_plainId PyProof.Rows.F.plain_set_update_loop _]
  show wpAny _ A.in1 (pyNext (.ref I) >>= _) _ _ s; refine wpAny_bind (W.item i s _ _ hlt hst fun v s' hP hst' hm=>?_); obtain ⟨t,rfl⟩:=hval i v hP
  have hS':=setOf_keep hS fun o e=>hm.heap S o hSw e
  have hF':=fineAt_keep hF fun o e=>hm.heap S o hSw e
  show wpAny _ A.in1 (holding [Value.int (val i) t] (setAdd S (.int (val i) t)) >>= _) _ _ s'; refine wpAny_bind (wpAny_holding ?_); unfold setAdd; refine wpAny_holding ?_
  refine wpAny_bind ((intKind prog w).pyHash (k:=val i) (intKind_is _ _ _ _) ?_); have hl:=firstMet_length_le val i
  refine add_fine (s:={ s' with toks:=s'.toks+1 }) (intKind_is _ _ _ _) rfl hS' hF' (by (first|lia|omega)) fun h' hsb hS2 hF2 r=>?_
  have hSi:h'.SetOf (intKind prog w) S (fun k'=>(firstMet val (i+1)).any (· == k')) (firstMet val (i+1)).length:=by
   refine SetOf_congr hS2 (fun k'=>?_) ?_
   ·rw [firstMet_succ,step_any]
   ·rw [firstMet_succ,step_length]
  refine wpAny_pure ⟨plainId_quiet PyProof.Rows.F.plain_set_update_loop _,ih (i+1) _ (by (first|lia|omega)) hlt (W.frame _ s' _ _ hst' (Nat.le_succ _) fun b hb o e=>?_) hSi hF2 fun s'' hm'' hS'' hF''=>?_⟩
  ·rw [hsb.2 b fun z=>hSf (z ▸ hb)]; exact e
  ·refine hR s'' (Moved.trans W.gtrans ((hm.mono hsub).then_heap (Nat.le_succ _) fun b o hb e=>?_) hm'') hS'' hF''
   rw [hsb.2 b fun z=>hb (z ▸ List.mem_cons_self)]; exact e
end
noncomputable abbrev setO (b:Bool):Obj:={ cls:=.type "set",dict:=none,data:=.set #[] 0 (.fresh 0 0 b) }
section
variable {w:World} {prog:Program} {A:Around} {E:Value→Shared→Prop} {s:Shared}
theorem new_fine (a:Value) {Q₁:Value→Shared→Prop} (h:Q₁ (.ref s.heap.objs.size) { s with heap:=s.heap.push (setO (!byT w)) }):codeAny (model prog w) A (.call (.builtin "set.__new__") ⟨[.type "set",a],[]⟩) (wants Q₁ E) s:=by
 refine codeAny_of_tree ?_; show wpAny _ A.in1 (do checkBuiltinCall "set.__new__" ⟨[.type "set",a],[]⟩; again (.builtin "set.__new__" ⟨[.type "set",a],[]⟩)) _ _ s
 refine wpAny_bind (wpAny_of_eq (F.newCall_set_1 a) (wpAny_pure ⟨plainId_quiet F.plain_set_new _,codeAny_builtin F.entry_set_new ?_⟩)); rw [Around.under_plainId F.plain_set_new _]
 unfold Builtin.«set.__new__» Builtin.Frozenset.newClass; have hsub:=sub_set_self
 (obtain ⟨hp,g,d,tk,os⟩:=s)
 dsimp only; wp_walk; refine wpAny_askSetting (wpAny_pure ?_)
 dsimp only; simp only [newObj]; refine wpAny_bind (wpAny_alloc (wpAny_pure ?_)); exact wpAny_pure h
theorem set_fine {l:Addr} {items:Array Value} {ns:List Int} {Q:Value→Shared→Prop} (hh:A.handled=none) (hl:s.heap.IsList l items) (hi:IntsAre items.toList ns) (hb:items.size+1 < scanBound)
  (h:∀ (h':Heap) (tk:Nat),h'.SetOf (intKind prog w) s.heap.objs.size (fun k'=>(firstMet (fun i=>ns.getD i 0) items.size).any (· == k')) (firstMet (fun i=>ns.getD i 0) items.size).length→FineAt (byT w) h' s.heap.objs.size→(∀ b o,b < s.heap.objs.size→s.heap.get? b=some o→h'.get? b=some o)→Q (.ref s.heap.objs.size) { s with heap:=h',toks:=tk }):wpAny (model prog w) A (call (.type "set") [.ref l]) Q E s:=by
 obtain ⟨c,tl,hmro⟩:=F.called_set.mro; have hmade:=F.called_set.made; have hsub:=F.called_set.sub
 refine wpAny_call (codeAny_of_tree ?_); show wpAny _ _ (callAny (.type "set") _) _ _ _
 refine wpAny_pure ⟨Code.quiet_builtin _ (by decide +kernel),codeAny_builtin F.entry_type_call ?_⟩; rw [Around.under_plain (weight_type_call_type "set" [.ref l] []) rfl]
 have h1:=F.called_set.notType; have h2:=F.called_set.canCreate; have hct:=F.typeCall_set_1 (.ref l)
 (repeat (any_goals (first|assumption|wp_step)))
 refine codeAny_mono (new_fine (.ref l) (E:=E) (Q₁:=fun obj s₁=>obj=.ref s.heap.objs.size∧s₁={ s with heap:=s.heap.push (setO (!byT w)) }) ⟨rfl,rfl⟩) fun r s₁ hr=>?_
 cases r with
 | error e=>exact hr
 | ok fl =>
  cases fl with
  | ret obj =>
   obtain ⟨rfl,rfl⟩:=hr
   have hS:(s.heap.push (setO (!byT w))).get? s.heap.objs.size=some (setO (!byT w)):=Heap.get?_push_size _ rfl
   have hT:Shared.TypeIs { s with heap:=s.heap.push (setO (!byT w)) } (.ref s.heap.objs.size) "set":=⟨_,hS,rfl⟩
   have hli:=F.called_set.init.lookup; have hbi:=F.called_set.init.bind (.ref s.heap.objs.size)
   (repeat (any_goals (first|assumption|wp_step)))
   refine codeAny_mono (codeAny_call_builtin (R:=wants (fun r s₂=>r=.none∧∃ h' tk,s₂={ s with heap:=h',toks:=tk }∧h'.SetOf (intKind prog w) s.heap.objs.size (fun k'=>(firstMet (fun i=>ns.getD i 0) items.size).any (· == k')) (firstMet (fun i=>ns.getD i 0) items.size).length∧FineAt (byT w) h' s.heap.objs.size∧(∀ b o,b < s.heap.objs.size→s.heap.get? b=some o→h'.get? b=some o)) E) F.called_set.init.plain F.entry_set_init (check_set_init_1 hT ?_)) fun r₂ s₂ hr₂=>?_
   ·(obtain ⟨ol,hol,hcl,nl,hdl⟩:=hl)
    (obtain ⟨ocls,odict,odata,oslots⟩:=ol)
    simp only at hcl hdl; subst hcl; subst hdl
    have hol':(s.heap.push (setO (!byT w))).get? l=some { cls:=.type "list",dict:=odict,data:=.seq items nl,slots:=oslots }:=Heap.get?_push_of_some _ hol
    have hsls:=F.sub_list_set; have hslf:=F.sub_list_frozenset; have hne:(Value.type "list" == Value.type "dict")=false:=by decide
    have hl1:(s.heap.push (setO (!byT w))).IsList l items:=⟨_,hol',rfl,nl,rfl⟩
    (unfold Builtin.«set.__init__» noKeywords Builtin.Frozenset.updateFrom)
    generalize hPI:pyIter=PI
    wp_walk; subst hPI
    refine wpAny_pyIter_list hl1 ?_; refine wpAny_bind (wpAny_runValue ?_)
    (have hlS:l < s.heap.objs.size:=Heap.lt_size hol)
    (have hh3:A.in1.in1.in1.handled=none:=by simp [hh])
    have szp:(s.heap.push (setO (!byT w))).objs.size=s.heap.objs.size+1:=Heap.size_push ..
    have hneI:l≠(s.heap.push (setO (!byT w))).objs.size:=by rw [szp]; exact Nat.ne_of_lt (Nat.lt_succ_of_lt hlS)
    have hSf:s.heap.objs.size ∉ [(s.heap.push (setO (!byT w))).objs.size,l]:=by
     rw [szp]; simp only [List.mem_cons,List.not_mem_nil,or_false,not_or]
     (exact ⟨Nat.ne_of_lt (Nat.lt_succ_self _),Nat.ne_of_gt hlS⟩)
    refine upd_loop (b:=byT w) ((Walks.list hh3 _ l hneI items).toS) s.heap.objs.size hSf (fun i=>ns.getD i 0) (fun i v hv=>IntsAre.int_at hi i v (by rw [Array.getElem?_toList]; exact hv)) hb (items.size - 0) 0 _ (by (first|lia|omega)) (Nat.zero_le _) ⟨⟨_,Heap.get?_push_size _ rfl,rfl,rfl⟩,(hl1.push _)⟩ ?hS0 ?hF0 ?hR
    case hS0 =>
     exact SetOf_congr ((setObjOf_fresh (knd:=intKind prog w) (!byT w)).setOf (Heap.get?_push_of_some _ hS) (by unfold scanBound; (first|lia|omega))) (fun _=>rfl) rfl
    case hF0 =>
     exact ⟨_,_,_,_,Heap.get?_push_of_some _ hS,rfl,fine_fresh _ _ _⟩
    case hR =>
     intro s' hm hS' hF'
     (obtain ⟨h',g',d',tk',os'⟩:=s')
     (have eg:g'=s.gens:=hm.gens)
     (have ed:d'=s.drawn:=hm.drawn)
     have eo:os'=s.os:=hm.os
     subst eg; subst ed; subst eo
     show wpAny _ _ _ _ _ _; refine wpAny_pure ?_; show wpAny _ _ (ret Value.none) _ _ _
     refine wpAny_pure ⟨rfl,h',tk',rfl,hS',hF',fun b o hb e=>hm.heap b o ?_ (Heap.get?_push_of_some _ (Heap.get?_push_of_some _ e))⟩
     rw [szp]; simp only [List.mem_cons,List.not_mem_nil,or_false,not_or]
     exact ⟨Nat.ne_of_lt hb,Nat.ne_of_lt (Nat.lt_succ_of_lt hb)⟩
   ·cases r₂ with
    | error e=>exact hr₂
    | ok fl₂ =>
     cases fl₂ with
     | ret r =>
      obtain ⟨rfl,h',tk,rfl,hS',hF',hk'⟩:=hr₂
      (repeat (any_goals (first|assumption|wp_step)))
      exact h _ _ hS' hF' hk'
     | _=>exact hr₂.elim
  | _=>exact hr.elim
end
end L3
namespace L3
open PySem PySem.Spec PyProof.Rows L2
theorem si_next:Slot "set_iterator" "__next__" "set_iterator.__next__":=.of (owner:="set_iterator") (n:="__next__") (by rw [typeLookup_type,builtinLookup_eq_fast]; kernel_rfl) (by decide +kernel) (by decide +kernel) (by decide +kernel) (by first|exact .inl (by decide +kernel)|exact .inr (by decide +kernel)) (by rw [isSubtype_type]; kernel_rfl)
theorem si_entry:entryFor table "set_iterator.__next__"=some Builtin.«set_iterator.__next__»:=entryFor_of_tree (by kernel_rfl)
theorem si_owner:Manifest.owners.lookup (String.ofList ['r','o','t','a','r','e','t','i','_','t','e','s'].reverse)=some Manifest.sig_set_iterator:=by kernel_rfl
theorem si_args (a:Value):argsOk "set_iterator.__next__" ⟨[a],[]⟩:=by
 unfold argsOk; rw [signature?_of (id:="set_iterator.__next__") (n:=['_','_','t','x','e','n','_','_']) (o:=['r','o','t','a','r','e','t','i','_','t','e','s']) (by kernel_rfl) si_owner]; kernel_rfl
theorem set_iter_entry:entryFor table "set.__iter__"=some Builtin.«frozenset.__iter__»:=entryFor_alias (id':="frozenset.__iter__") (by kernel_rfl) rfl (by decide +kernel) (by kernel_rfl)
theorem si_iter:Slot "set_iterator" "__iter__" "set_iterator.__iter__":=.of (owner:="set_iterator") (n:="__iter__") (by rw [typeLookup_type,builtinLookup_eq_fast]; kernel_rfl) (by decide +kernel) (by decide +kernel) (by decide +kernel) (by first|exact .inl (by decide +kernel)|exact .inr (by decide +kernel)) (by rw [isSubtype_type]; kernel_rfl)
theorem si_ientry:entryFor table "set_iterator.__iter__"=some Builtin.«dict_keyiterator.__iter__»:=entryFor_alias (id':="dict_keyiterator.__iter__") (by kernel_rfl) rfl (by decide +kernel) (by kernel_rfl)
theorem si_iargs (a:Value):argsOk "set_iterator.__iter__" ⟨[a],[]⟩:=by
 unfold argsOk; rw [signature?_of (id:="set_iterator.__iter__") (n:=['_','_','r','e','t','i','_','_']) (o:=['r','o','t','a','r','e','t','i','_','t','e','s']) (by kernel_rfl) si_owner]; kernel_rfl
noncomputable def SetAtF (h:Heap) (S:Addr) (es:Array (Int×Value)) (ep:Nat) (t:SetTable):Prop:=∃ o,h.get? S=some o∧o.cls=.type "set"∧o.data=.set es ep t
noncomputable def ItAt (h:Heap) (I S:Addr) (first:Value) (i n ep:Nat):Prop:=∃ o,h.get? I=some o∧o.cls=.type "set_iterator"∧o.data=.fields #[first,rawInt i,.ref S,rawInt n,rawInt ep]
theorem SetAtF.keep {h h':Heap} {S:Addr} {es:Array (Int×Value)} {ep:Nat} {t:SetTable} (x:SetAtF h S es ep t) (k:∀ o,h.get? S=some o→h'.get? S=some o):SetAtF h' S es ep t:=let ⟨o,ho,r⟩:=x; ⟨o,k o ho,r⟩
theorem ItAt.keep {h h':Heap} {I S:Addr} {first:Value} {i n ep:Nat} (x:ItAt h I S first i n ep) (k:∀ o,h.get? I=some o→h'.get? I=some o):ItAt h' I S first i n ep:=let ⟨o,ho,r⟩:=x; ⟨o,k o ho,r⟩
section
variable {prog:Program} {w:World} {A:Around} {E:Value→Shared→Prop} {s:Shared} {I S:Addr} {es:Array (Int×Value)} {ep i n:Nat} {t:SetTable}
theorem stop_it {R:Fin→Shared→Prop} (hh:A.handled=none) {hp:Heap} (h:∀ e h',(∀ b o,hp.get? b=some o→h'.get? b=some o)→Shared.TypeIs { s with heap:=h' } e "StopIteration"→E e { s with heap:=h' }) :
  wpAny (model prog w) A (newExc (.type "StopIteration") [] >>= fun e=>(raiseNew e:Sem Fin)) R E { s with heap:=hp }:=by
 refine wpAny_bind ?_
 simp only [newExc,newTuple]; refine wpAny_bind (wpAny_newObj_type ?_ (by size_fits))
 refine wpAny_bind (m:=firstArgMember _ _) (wpAny_of_eq (a:=Value.none) (by first|rfl|(simp only [firstArgMember]; rfl)) ?_); refine wpAny_newObj_type ?_ (by size_fits)
 simp only [raiseNew]; refine wpAny_bind (wpAny_handled ?_); rw [hh]
 refine wpAny_bind (wpAny_pure (wpAny_throw (h _ _ (fun b o e=>Heap.get?_push_of_some _ (Heap.get?_push_of_some _ e)) ?tt)))
 exact ⟨_,Heap.get?_push_size _ rfl,rfl⟩
theorem next_int {sl sl':Nat} {x:Value} {Q:Option Value→Shared→Prop} (hit:ItAt s.heap I S (rawInt sl) i n ep) (hs:SetAtF s.heap S es ep t) (hf:t.fits es.size=true) (hn:es.size=n)
  (HN:∀ (A':Around) (Q':Option (Value×Nat)→Shared→Prop) (E':Value→Shared→Prop),Q' (some (x,sl')) s→wpAny (model prog w) A' (setNext S sl i ep) Q' E' s)
  (hQ:∀ h',ItAt h' I S (rawInt sl') (i+1) n ep→Heap.SameBut I s.heap h'→Q (some x) { s with heap:=h' }):wpAny (model prog w) A (pyNext (.ref I)) Q E s:=by
 (obtain ⟨o,ho,hc,hd⟩:=id hit)
 (obtain ⟨os,hos,hcs,hds⟩:=id hs)
 have hT:s.TypeIs (.ref I) "set_iterator":=⟨o,ho,hc⟩
 unfold pyNext
 refine wpAny_bind (wpAny_attempt (wpAny_callSpecial?_slot (name:=Str.ofString "__next__") hT si_next (wpAny_call_entry si_next hT si_entry ?_ (si_args _))))
 unfold Builtin.«set_iterator.__next__»
 (refine wpAny_bind (wpAny_pure ?_))
 (refine wpAny_bind (wpAny_fieldsOf ho hd ?_))
 simp only [rawInt]
 refine wpAny_bind (wpAny_bind (wpAny_setState_of hos hds hf (wpAny_pure ?_)))
 rw [if_neg (by simp [hn])]
 simp only [Int.toNat_natCast]
 refine wpAny_bind (HN _ _ _ ?_)
 dsimp only
 (refine wpAny_bind (wpAny_setField ho hd (by simp) ?_))
 have g1:=Heap.get?_update_self (Obj.mapFields (·.setIfInBounds 0 (rawInt sl'))) ho (Obj.isFreed_of_fields (Obj.data_mapFields hd _))
 have d1:=Obj.data_mapFields hd (·.setIfInBounds 0 (rawInt sl'))
 refine wpAny_bind (wpAny_setField (s:={ s with heap:=s.heap.update I (Obj.mapFields (·.setIfInBounds 0 (rawInt sl'))) }) g1 d1 (by simp) ?_)
 have g2:=Heap.get?_update_self (Obj.mapFields (·.setIfInBounds 1 (rawInt ((i:Int)+1)))) g1 (Obj.isFreed_of_fields (Obj.data_mapFields d1 _))
 have d2:=Obj.data_mapFields d1 (·.setIfInBounds 1 (rawInt ((i:Int)+1)))
 refine wpAny_pure ⟨_,rfl,wpAny_pure (hQ _ ⟨_,g2,(Obj.cls_mapFields ..).trans ((Obj.cls_mapFields ..).trans hc),?_⟩ ((Heap.SameBut.update ..).trans (Heap.SameBut.update ..)))⟩
 rw [d2]
 simp [rawInt]
theorem end_int {sl:Nat} {Q:Option Value→Shared→Prop} (hh:A.handled=none) (hit:ItAt s.heap I S (rawInt sl) i n ep) (hs:SetAtF s.heap S es ep t) (hf:t.fits es.size=true) (hn:es.size=n)
  (HN:∀ (A':Around) (Q':Option (Value×Nat)→Shared→Prop) (E':Value→Shared→Prop),Q' none s→wpAny (model prog w) A' (setNext S sl i ep) Q' E' s)
  (hQ:∀ h',(∀ b o,b≠I→s.heap.get? b=some o→h'.get? b=some o)→Q none { s with heap:=h' }):wpAny (model prog w) A (pyNext (.ref I)) Q E s:=by
 (obtain ⟨o,ho,hc,hd⟩:=id hit)
 (obtain ⟨os,hos,hcs,hds⟩:=id hs)
 have hT:s.TypeIs (.ref I) "set_iterator":=⟨o,ho,hc⟩
 unfold pyNext
 refine wpAny_bind (wpAny_attempt (wpAny_callSpecial?_slot (name:=Str.ofString "__next__") hT si_next (wpAny_call_entry si_next hT si_entry ?_ (si_args _))))
 unfold Builtin.«set_iterator.__next__»
 (refine wpAny_bind (wpAny_pure ?_))
 (refine wpAny_bind (wpAny_fieldsOf ho hd ?_))
 simp only [rawInt]
 refine wpAny_bind (wpAny_bind (wpAny_setState_of hos hds hf (wpAny_pure ?_)))
 rw [if_neg (by simp [hn])]
 simp only [Int.toNat_natCast]
 refine wpAny_bind (HN _ _ _ ?_)
 dsimp only
 (refine wpAny_bind (wpAny_setField ho hd (by simp) ?_))
 refine stop_it (by exact hh) fun e h' hk hT'=>?_
 refine wpAny_bind (wpAny_isInstance (T:="StopIteration") (b:=true) hT' isSubtype_stop ?_)
 exact wpAny_pure (hQ _ fun b o hb q=>hk b o ((Heap.get?_update_other _ _ (Ne.symm hb)).trans q))
end
end L3
namespace L3
open PySem PySem.Spec PyProof.Rows L2
section
variable {prog:Program} {w:World} {A:Around} {E:Value→Shared→Prop} {s:Shared} {I S T:Addr} {es:Array (Int×Value)} {ep i n:Nat} {t:SetTable}
noncomputable def PlacesAt (h:Heap) (T:Addr) (ps:List Nat):Prop:=∃ o c,h.get? T=some o∧o.data=.seq (ps.map fun (p:Nat)=>rawInt p).toArray c
theorem PlacesAt.keep {h h':Heap} {ps:List Nat} (x:PlacesAt h T ps) (k:∀ o,h.get? T=some o→h'.get? T=some o):PlacesAt h' T ps:=let ⟨o,c,ho,r⟩:=x; ⟨o,c,k o ho,r⟩
theorem next_tup {ps:List Nat} {x:Value} {p:Nat} {hx:Int} {Q:Option Value→Shared→Prop} (hit:ItAt s.heap I S (.ref T) i n ep) (hs:SetAtF s.heap S es ep t) (hp:PlacesAt s.heap T ps) (hf:t.fits es.size=true) (hn:es.size=n)
  (e1:ps[i]?=some p) (e2:es[p]?=some (hx,x))
  (hQ:∀ h',ItAt h' I S (.ref T) (i+1) n ep→Heap.SameBut I s.heap h'→Q (some x) { s with heap:=h' }):wpAny (model prog w) A (pyNext (.ref I)) Q E s:=by
 (obtain ⟨o,ho,hc,hd⟩:=id hit)
 (obtain ⟨os,hos,hcs,hds⟩:=id hs)
 obtain ⟨op,cp,hop,hdp⟩:=id hp
 have hT:s.TypeIs (.ref I) "set_iterator":=⟨o,ho,hc⟩
 unfold pyNext
 refine wpAny_bind (wpAny_attempt (wpAny_callSpecial?_slot (name:=Str.ofString "__next__") hT si_next (wpAny_call_entry si_next hT si_entry ?_ (si_args _))))
 unfold Builtin.«set_iterator.__next__»
 (refine wpAny_bind (wpAny_pure ?_))
 (refine wpAny_bind (wpAny_fieldsOf ho hd ?_))
 simp only [rawInt]
 refine wpAny_bind (wpAny_bind (wpAny_setState_of hos hds hf (wpAny_pure ?_)))
 rw [if_neg (by simp [hn])]
 refine wpAny_bind (wpAny_seqItems hop hdp ?_)
 have e3:(ps.map fun (p:Nat)=>rawInt p).toArray[i]?=some (rawInt p):=by simp [e1]
 simp only [Int.toNat_natCast]
 rw [e3]
 simp only [rawInt,Int.toNat_natCast]
 refine wpAny_bind ?_
 unfold setNextDrawn
 refine wpAny_bind (wpAny_setState_of hos hds hf ?_)
 dsimp only
 rw [if_neg (by simp)]
 rw [e2]
 refine wpAny_pure ?_
 (refine wpAny_bind (wpAny_setField ho hd (by simp) ?_))
 have g1:=Heap.get?_update_self (Obj.mapFields (·.setIfInBounds 1 (rawInt ((i:Int)+1)))) ho (Obj.isFreed_of_fields (Obj.data_mapFields hd _))
 have d1:=Obj.data_mapFields hd (·.setIfInBounds 1 (rawInt ((i:Int)+1)))
 refine wpAny_pure ⟨_,rfl,wpAny_pure (hQ _ ⟨_,g1,(Obj.cls_mapFields ..).trans hc,?_⟩ (Heap.SameBut.update ..))⟩
 rw [d1]
 simp [rawInt]
theorem end_tup {ps:List Nat} {Q:Option Value→Shared→Prop} (hh:A.handled=none) (hit:ItAt s.heap I S (.ref T) i n ep) (hs:SetAtF s.heap S es ep t) (hp:PlacesAt s.heap T ps) (hf:t.fits es.size=true) (hn:es.size=n)
  (e1:ps[i]?=none)
  (hQ:∀ h',(∀ b o,b≠I→s.heap.get? b=some o→h'.get? b=some o)→Q none { s with heap:=h' }):wpAny (model prog w) A (pyNext (.ref I)) Q E s:=by
 (obtain ⟨o,ho,hc,hd⟩:=id hit)
 (obtain ⟨os,hos,hcs,hds⟩:=id hs)
 obtain ⟨op,cp,hop,hdp⟩:=id hp
 have hT:s.TypeIs (.ref I) "set_iterator":=⟨o,ho,hc⟩
 unfold pyNext
 refine wpAny_bind (wpAny_attempt (wpAny_callSpecial?_slot (name:=Str.ofString "__next__") hT si_next (wpAny_call_entry si_next hT si_entry ?_ (si_args _))))
 unfold Builtin.«set_iterator.__next__»
 (refine wpAny_bind (wpAny_pure ?_))
 (refine wpAny_bind (wpAny_fieldsOf ho hd ?_))
 simp only [rawInt]
 refine wpAny_bind (wpAny_bind (wpAny_setState_of hos hds hf (wpAny_pure ?_)))
 rw [if_neg (by simp [hn])]
 refine wpAny_bind (wpAny_seqItems hop hdp ?_)
 have e3:(ps.map fun (p:Nat)=>rawInt p).toArray[i]?=none:=by
  rw [List.getElem?_toArray,List.getElem?_map,e1]; rfl
 simp only [Int.toNat_natCast]
 rw [e3]
 dsimp only
 (refine wpAny_bind (wpAny_setField ho hd (by simp) ?_))
 have g1:=Heap.get?_update_self (Obj.mapFields (·.setIfInBounds 0 (rawInt 0))) ho (Obj.isFreed_of_fields (Obj.data_mapFields hd _))
 have d1:=Obj.data_mapFields hd (·.setIfInBounds 0 (rawInt 0))
 refine wpAny_bind (wpAny_setField (s:={ s with heap:=s.heap.update I (Obj.mapFields (·.setIfInBounds 0 (rawInt 0))) }) g1 d1 (by simp) ?_)
 refine stop_it (by exact hh) fun e h' hk hT'=>?_
 refine wpAny_bind (wpAny_isInstance (T:="StopIteration") (b:=true) hT' isSubtype_stop ?_)
 exact wpAny_pure (hQ _ fun b o hb q=>hk b o ((Heap.get?_update_other _ _ (Ne.symm hb)).trans ((Heap.get?_update_other _ _ (Ne.symm hb)).trans q)))
theorem self_it {first:Value} {Q:Value→Shared→Prop} (hit:ItAt s.heap I S first i n ep) (h:Q (.ref I) s):wpAny (model prog w) A (pyIter (.ref I)) Q E s:=by
 (obtain ⟨o,ho,hc,hd⟩:=id hit)
 have hT:s.TypeIs (.ref I) "set_iterator":=⟨o,ho,hc⟩
 refine wpAny_pyIter_slot hT si_iter (wpAny_call_entry si_iter hT si_ientry ?_ (si_iargs _))
 show wpAny _ _ (ret (.ref I)) _ _ s
 exact wpAny_pure ⟨_,rfl,"set_iterator",_,hT,si_next.lookup,h⟩
theorem nextA {sl:Nat} {Q:Option (Value×Nat)→Shared→Prop} (hb:byT w=true) (hs:SetAtF s.heap S es ep t) (hf:t.fits es.size=true) (h:Q (((pickOrder (w.params.setOrder S ep) es)[i]?).map fun e=>(e.2,sl)) s) :
  wpAny (model prog w) A (setNext S sl i ep) Q E s:=by
 obtain ⟨o,ho,_,hd⟩:=hs
 unfold setNext
 (refine wpAny_bind (wpAny_setState_of ho hd hf ?_))
 dsimp only
 (refine wpAny_bind (wpAny_bind (wpAny_askSetting (wpAny_pure ?_))))
 rw [show (model prog w).w.params.followText "set-order"=true from hb,if_pos rfl]
 rw [if_neg (by simp)]
 refine wpAny_bind ?_
 unfold setWalk
 (refine wpAny_bind (wpAny_setState_of ho hd hf ?_))
 dsimp only
 (refine wpAny_bind (wpAny_bind (wpAny_askSetting (wpAny_pure ?_))))
 rw [show (model prog w).w.params.followText "set-order"=true from hb,if_pos rfl]
 exact wpAny_bind (wpAny_askSetting (wpAny_pure (wpAny_pure h)))
theorem nextB {sl:Nat} {Q:Option (Value×Nat)→Shared→Prop} (hb:byT w=false) (hdr:(!t.plain && decide (es.size > 1))=false) (hl:t.led=true) (hs:SetAtF s.heap S es ep t) (hf:t.fits es.size=true)
  (h:Q (match es[SetTable.below t.place sl]?,t.place[SetTable.below t.place sl]? with|some (_,x),some j=>some (x,j+1)|_,_=>none) s) :
  wpAny (model prog w) A (setNext S sl i ep) Q E s:=by
 obtain ⟨o,ho,_,hd⟩:=hs
 unfold setNext
 (refine wpAny_bind (wpAny_setState_of ho hd hf ?_))
 dsimp only
 (refine wpAny_bind (wpAny_bind (wpAny_askSetting (wpAny_pure ?_))))
 rw [show (model prog w).w.params.followText "set-order"=false from hb,if_neg (by simp)]
 refine wpAny_ite_split (fun hab=>absurd (show (!t.plain && decide (es.size > 1))=true from hab) (by rw [hdr]; simp)) (fun _=>?_)
 refine wpAny_bind (show wpAny _ _ (if (!t.led && !es.isEmpty)=true then unsupported "set:maker-not-led" else pure ()) _ _ _ from ?_)
 rw [hl,if_neg (by simp)]
 (exact wpAny_pure (wpAny_pure h))
end
end L3
namespace L3
open PySem PySem.Spec PyProof.Rows L2
section
variable {prog:Program} {w:World} {A:Around} {E:Value→Shared→Prop} {s:Shared} {I S T:Addr} {es:Array (Int×Value)} {ep n:Nat} {t:SetTable}
theorem walksI (hh:A.handled=none) (hne:S≠I) (fst:Nat→Nat) (ord:List Value) (hf:t.fits es.size=true) (hn:es.size=n) (ol:ord.length=n)
  (HN:∀ i x,ord[i]?=some x→∀ (A':Around) (s:Shared) (Q':Option (Value×Nat)→Shared→Prop) (E':Value→Shared→Prop),SetAtF s.heap S es ep t→Q' (some (x,fst (i+1))) s→wpAny (model prog w) A' (setNext S (fst i) i ep) Q' E' s)
  (HE:∀ (A':Around) (s:Shared) (Q':Option (Value×Nat)→Shared→Prop) (E':Value→Shared→Prop),SetAtF s.heap S es ep t→Q' none s→wpAny (model prog w) A' (setNext S (fst n) n ep) Q' E' s) :
  Walks prog w A I [I,S] [I] n (fun i v=>ord[i]?=some v) (fun i h=>ItAt h I S (rawInt (fst i)) i n ep∧SetAtF h S es ep t) where
 sub:=fun c hc=>by simp at hc; simp [hc]
 frame:=fun _ _ _ st hk=>⟨st.1.keep fun o e=>hk I (by simp) o e,st.2.keep fun o e=>hk S (by simp) o e⟩
 item:=fun i s Q E hi st hq=>by
  have e:ord[i]?=some ord[i]:=getElem?_pos ord i (by (first|lia|omega))
  refine next_int st.1 st.2 hf hn (fun A' Q' E' q=>HN i _ e A' s Q' E' st.2 q) fun h' it sb=>?_
  exact hq _ h' s.toks e ⟨it,st.2.keep fun o e=>by rw [sb.2 S hne]; exact e⟩ fun b o hb e=>by rw [sb.2 b fun z=>hb (by simp [z])]; exact e
 done:=fun s Q E st hQ=>end_int hh st.1 st.2 hf hn (fun A' Q' E' q=>HE A' s Q' E' st.2 q) fun h' k=>hQ h' s.toks fun b o hb e=>k b o (fun z=>hb (by simp [z])) e
 self:=fun _ _ _ _ st q=>self_it st.1 q
theorem walksT (hh:A.handled=none) (hne:S≠I) (hnT:T≠I) (ps:List Nat) (ord:List Value) (hf:t.fits es.size=true) (hn:es.size=n) (pl:ps.length=n) (ol:ord.length=n)
  (HP:∀ (i p:Nat),ps[i]?=some p→∃ k x,es[p]?=some (k,x)∧ord[i]?=some x) :
  Walks prog w A I [I,S,T] [I] n (fun i v=>ord[i]?=some v) (fun i h=>ItAt h I S (.ref T) i n ep∧SetAtF h S es ep t∧PlacesAt h T ps) where
 sub:=fun c hc=>by simp at hc; simp [hc]
 frame:=fun _ _ _ st hk=>⟨st.1.keep fun o e=>hk I (by simp) o e,st.2.1.keep fun o e=>hk S (by simp) o e,st.2.2.keep fun o e=>hk T (by simp) o e⟩
 item:=fun i s Q E hi st hq=>by
  have e:ps[i]?=some ps[i]:=getElem?_pos ps i (by (first|lia|omega))
  obtain ⟨k,x,e1,e2⟩:=HP i _ e
  refine next_tup st.1 st.2.1 st.2.2 hf hn e e1 fun h' it sb=>?_
  exact hq _ h' s.toks e2 ⟨it,st.2.1.keep fun o e=>by rw [sb.2 S hne]; exact e,st.2.2.keep fun o e=>by rw [sb.2 T hnT]; exact e⟩ fun b o hb e=>by rw [sb.2 b fun z=>hb (by simp [z])]; exact e
 done:=fun s Q E st hQ=>end_tup hh st.1 st.2.1 st.2.2 hf hn (getElem?_neg ps n (by (first|lia|omega))) fun h' k=>hQ h' s.toks fun b o hb e=>k b o (fun z=>hb (by simp [z])) e
 self:=fun _ _ _ _ st q=>self_it st.1 q
noncomputable def stepB (place:Array Nat):Nat→Nat
 | 0=>0
 | i+1=>place.getD i 0+1
theorem below_step {place:Array Nat} (u:UpN place):∀ i,i ≤ place.size→SetTable.below place (stepB place i)=i
 | 0,_=>below_zero u
 | i+1,h=>by
  have hi:i < place.size:=h
  have e:place.getD i 0=place[i]:=by simp [Array.getD,hi]
  show SetTable.below place (place.getD i 0+1)=i+1
  rw [e]
  exact below_next u hi
noncomputable abbrev valsOf (es:Array (Int×Value)):List Value:=es.toList.map (·.2)
theorem iter_set {Q:Value→Shared→Prop} (hs:SetAtF s.heap S es ep t) (hf:t.fits es.size=true) (hfi:FineT (byT w) t) (hz:es.size < scanBound)
  (h:∀ (I:Addr) (s':Shared) (fp:List Addr) (St:Nat→Heap→Prop) (ord:List Value),s'.os=s.os→s'.gens=s.gens→s.toks ≤ s'.toks→(∀ b o,s.heap.get? b=some o→s'.heap.get? b=some o) →
   ord.Perm (valsOf es)→St 0 s'.heap→s.heap.objs.size ≤ I→(∀ b∈fp,b=S∨s.heap.objs.size ≤ b) →
   (∀ A':Around,A'.handled=none→Walks prog w A' I fp [I] es.size (fun i v=>ord[i]?=some v) St)→Q (.ref I) s'):wpAny (model prog w) A (pyIter (.ref S)) Q E s:=by
 obtain ⟨o,ho,hc,hd⟩:=id hs
 have hT:s.TypeIs (.ref S) "set":=⟨o,ho,hc⟩
 have hSl:S < s.heap.objs.size:=Heap.lt_size ho
 have fitp:t.place.size=es.size:=by
  simp only [SetTable.fits,Bool.and_eq_true,beq_iff_eq] at hf
  exact hf.1
 have z4:es.size ≤ 16777216:=by unfold scanBound at hz; (first|lia|omega)
 refine wpAny_pyIter_slot hT F.slot_set_iter (wpAny_call_entry F.slot_set_iter hT set_iter_entry ?_ (F.args_set_iter_1 _))
 unfold Builtin.«frozenset.__iter__» Builtin.Frozenset.slot0 Builtin.Frozenset.sizeOf setEntries
 refine wpAny_bind (wpAny_bind (wpAny_pure (wpAny_pure ?_)))
 refine wpAny_bind (wpAny_bind (wpAny_bind (wpAny_setState_of ho hd hf (wpAny_pure (wpAny_pure ?_)))))
 refine wpAny_bind ?_
 unfold setDrawn
 (refine wpAny_bind (wpAny_setState_of ho hd hf ?_))
 dsimp only
 (refine wpAny_bind (wpAny_bind (wpAny_askSetting (wpAny_pure ?_))))
 refine wpAny_pure ?_
 have ex:∃ c,c=(!byT w && (!t.plain && decide (es.size > 1))):=⟨_,rfl⟩
 obtain ⟨c,ec⟩:=ex
 (refine wpAny_ite_split (fun hab=>?_) (fun hab=>?_))
 ·have hab:(!byT w && (!t.plain && decide (es.size > 1)))=true:=hab
  refine wpAny_bind (wp_drawOrder es.size (List.range es.size) s (by simp) fun ps dr pm=>?_)
  have pl:ps.length=es.size:=by rw [pm.length_eq]; simp
  refine wpAny_bind (wpAny_newTuple ?_ (by rw [List.length_map,pl,sizeLine_eq]; exact z4))
  have ho1:(s.heap.push { cls:=.type "tuple",data:=.seq (ps.map fun (i:Nat)=>rawInt i).toArray }).get? S=some o:=Heap.get?_push_of_some _ ho
  refine wpAny_bind (wpAny_setEpoch_of (s:={ s with drawn:=dr,heap:=s.heap.push { cls:=.type "tuple",data:=.seq (ps.map fun (i:Nat)=>rawInt i).toArray } }) ho1 hd hf ?_)
  (refine wpAny_bind (wpAny_newObj_type ?_ (by size_fits)))
  have szp:(s.heap.push { cls:=.type "tuple",data:=.seq (ps.map fun (i:Nat)=>rawInt i).toArray }).objs.size=s.heap.objs.size+1:=Heap.size_push ..
  have memp:∀ p∈ps,p < es.size:=fun p hp=>by simpa using pm.mem_iff.mp hp
  refine wpAny_pure ⟨_,rfl,"set_iterator",_,⟨_,Heap.get?_push_size _ rfl,rfl⟩,si_next.lookup,?_⟩
  refine h _ _ [_,S,s.heap.objs.size] (fun i h=>ItAt h _ S (.ref s.heap.objs.size) i es.size ep∧SetAtF h S es ep t∧PlacesAt h s.heap.objs.size ps) (ps.map fun p=>(es.getD p (0,.none)).2) rfl rfl (Nat.le_refl _) (fun b o e=>Heap.get?_push_of_some _ (Heap.get?_push_of_some _ e)) ?_ ⟨⟨_,Heap.get?_push_size _ rfl,rfl,rfl⟩,⟨o,Heap.get?_push_of_some _ ho1,hc,hd⟩,⟨_,_,Heap.get?_push_of_some _ (Heap.get?_push_size _ rfl),rfl⟩⟩ ?_ ?_ fun A' hA=>walksT hA ?_ ?_ ps _ hf rfl pl (by rw [List.length_map]; exact pl) fun i p e=>?_
  ·have e1:(List.range es.size).map (fun p=>(es.getD p (0,.none)).2)=valsOf es:=by
    refine List.ext_getElem (by simp) fun i h1 h2=>?_
    have hi:i < es.size:=by simpa using h1
    simp [Array.getD,hi]
   rw [← e1]
   exact pm.map _
  ·show s.heap.objs.size ≤ (s.heap.push _).objs.size
   rw [szp]; exact Nat.le_succ _
  ·intro b hb
   rcases List.mem_cons.mp hb with q|q
   ·right; rw [q]; show s.heap.objs.size ≤ (s.heap.push _).objs.size; rw [szp]; exact Nat.le_succ _
   ·rcases List.mem_cons.mp q with q|q
    ·left; exact q
    ·right; rw [List.mem_singleton.mp q]; exact Nat.le_refl _
  ·show S≠(s.heap.push _).objs.size
   rw [szp]; exact Nat.ne_of_lt (Nat.lt_succ_of_lt hSl)
  ·show s.heap.objs.size≠(s.heap.push _).objs.size
   rw [szp]; exact Nat.ne_of_lt (Nat.lt_succ_self _)
  ·have hp:=memp p (List.mem_of_getElem? e)
   refine ⟨es[p].1,es[p].2,getElem?_pos es p hp,?_⟩
   rw [List.getElem?_map,e]
   simp [Array.getD,hp]
 ·(refine wpAny_bind (wpAny_pure ?_))
  (refine wpAny_bind (wpAny_setEpoch_of ho hd hf ?_))
  (refine wpAny_bind (wpAny_newObj_type ?_ (by size_fits)))
  refine wpAny_pure ⟨_,rfl,"set_iterator",_,⟨_,Heap.get?_push_size _ rfl,rfl⟩,si_next.lookup,?_⟩
  have hab:¬ ((!byT w && (!t.plain && decide (es.size > 1)))=true):=hab
  have mem:∀ b∈[s.heap.objs.size,S],b=S∨s.heap.objs.size ≤ b:=fun b hb=>by
   rcases List.mem_cons.mp hb with q|q
   ·right; rw [q]; exact Nat.le_refl _
   ·left; exact List.mem_singleton.mp q
  cases hb:byT w with
  | true =>
   have pm:=pickOrder_perm (w.params.setOrder S ep) es
   have pl:(pickOrder (w.params.setOrder S ep) es).size=es.size:=by rw [← Array.length_toList,pm.length_eq,Array.length_toList]
   refine h _ _ [_,S] _ (valsOf (pickOrder (w.params.setOrder S ep) es)) rfl rfl (Nat.le_refl _) (fun b o e=>Heap.get?_push_of_some _ e) (pm.map _) ?st0 (Nat.le_refl _) mem fun A' hA=>walksI (ep:=ep) hA (Nat.ne_of_lt hSl) (fun _=>0) _ hf rfl (by simp [pl]) (fun i x e A' s Q' E' hs q=>nextA hb hs hf ?_) (fun A' s Q' E' hs q=>nextA hb hs hf ?_)
   case st0=>exact ⟨⟨_,Heap.get?_push_size _ rfl,rfl,rfl⟩,⟨o,Heap.get?_push_of_some _ ho,hc,hd⟩⟩
   ·rw [List.getElem?_map,Array.getElem?_toList] at e
    cases eq:(pickOrder (w.params.setOrder S ep) es)[i]? with
    | none=>rw [eq] at e; cases e
    | some u=>rw [eq] at e; cases e; exact q
   ·rw [getElem?_neg (pickOrder (w.params.setOrder S ep) es) es.size (by (first|lia|omega))]; exact q
  | false =>
   have hdr:(!t.plain && decide (es.size > 1))=false:=by
    cases e:(!t.plain && decide (es.size > 1)) with
    | false=>rfl
    | true=>exact absurd (by rw [hb,e]; rfl) hab
   obtain ⟨hl,hu⟩:=hfi hb
   refine h _ _ [_,S] _ (valsOf es) rfl rfl (Nat.le_refl _) (fun b o e=>Heap.get?_push_of_some _ e) (List.Perm.refl _) ?st1 (Nat.le_refl _) mem fun A' hA=>walksI (ep:=ep) hA (Nat.ne_of_lt hSl) (stepB t.place) _ hf rfl (by simp) (fun i x e A' s Q' E' hs q=>nextB hb hdr hl hs hf ?_) (fun A' s Q' E' hs q=>nextB hb hdr hl hs hf ?_)
   case st1=>exact ⟨⟨_,Heap.get?_push_size _ rfl,rfl,rfl⟩,⟨o,Heap.get?_push_of_some _ ho,hc,hd⟩⟩
   ·rw [List.getElem?_map,Array.getElem?_toList] at e
    cases eq:es[i]? with
    | none=>rw [eq] at e; cases e
    | some u =>
     rw [eq] at e; cases e
     have hi:i < es.size:=by
      rcases Nat.lt_or_ge i es.size with z|z
      ·exact z
      ·rw [getElem?_neg es i (by (first|lia|omega))] at eq; cases eq
     have hp:i < t.place.size:=by (first|lia|omega)
     rw [below_step hu i (by (first|lia|omega)),eq,getElem?_pos t.place i hp]
     have e:stepB t.place (i+1)=t.place[i]+1:=by show t.place.getD i 0+1=_; simp [Array.getD,hp]
     rw [e] at q
     exact q
   ·rw [below_step hu es.size (by (first|lia|omega)),getElem?_neg es es.size (by (first|lia|omega))]; exact q
theorem hint_set {Q:Bool→Shared→Prop} (hT:s.TypeIs (.ref S) "set") (h:Q false s):wpAny (model prog w) A (Builtin.List.listLengthHint (.ref S)) Q E s:=by
 (unfold Builtin.List.listLengthHint)
 refine wpAny_bind (wpAny_specialOf hT PySem.F.slot_set_len.lookup ?_)
 generalize hid:("set.__len__":String)=id0
 wp_delta
 rw [show splitId id0=some ("set","__len__") from by subst hid; decide +kernel]
 subst hid; refine wpAny_bind (wpAny_isInstance (T:="set") (b:=true) hT (by rw [isSubtype_type]; kernel_rfl) ?_)
 refine wpAny_ite_split (fun hab=>absurd hab (by decide)) (fun _=>?_); refine wpAny_ite_split (fun _=>?_) (fun hab=>absurd (by decide +kernel) hab)
 exact wpAny_bind (wpAny_typeOf hT (wpAny_pure h))
end
end L3
namespace L3
open PySem PySem.Spec PyProof.Rows L2
section
variable {prog:Program} {w:World} {A:Around} {E:Value→Shared→Prop} {s:Shared} {S:Addr} {es:Array (Int×Value)} {ep n:Nat} {t:SetTable}
theorem collect_set {Q:List Value→Shared→Prop} (hh:A.handled=none) (hs:SetAtF s.heap S es ep t) (hf:t.fits es.size=true) (hfi:FineT (byT w) t) (hz:es.size < scanBound)
  (h:∀ (s':Shared) (vs:List Value),s'.os=s.os→s'.gens=s.gens→s.toks ≤ s'.toks→(∀ b o,s.heap.get? b=some o→s'.heap.get? b=some o)→vs.Perm (valsOf es)→s.heap.objs.size < s'.heap.objs.size→Q vs s') :
  wpAny (model prog w) A (collect (.ref S)) Q E s:=by
 obtain ⟨o,ho,hc,hd⟩:=id hs
 have hSl:S < s.heap.objs.size:=Heap.lt_size ho
 unfold collect
 refine wpAny_bind (wpAny_runValue (codeAny_builtin F.entry_proto_collect ?_)); rw [Around.under_plainId F.plain_proto_collect _]
 show wpAny _ A.in1 (newList [] >>= fun l=>again (.builtin "list.__iadd__" ⟨[l,.ref S],[]⟩)) _ _ s
 refine wpAny_bind (wpAny_newObj_type ?_); refine wpAny_pure ⟨plainId_quiet F.plain_list_iadd _,codeAny_builtin F.entry_list_iadd ?_⟩; rw [Around.under_plainId F.plain_list_iadd _]
 show wpAny _ A.in1 (Builtin.List.listExtendWith (.ref s.heap.objs.size) (.ref S) (.ref s.heap.objs.size)) _ _ { s with heap:=s.heap.push { cls:=.type "list",data:=.seq ([]:List Value).toArray } }
 have hL:(s.heap.push { cls:=.type "list",data:=.seq ([]:List Value).toArray }).get? s.heap.objs.size=some { cls:=.type "list",data:=.seq ([]:List Value).toArray }:=Heap.get?_push_size _ rfl
 have szp:(s.heap.push { cls:=.type "list",data:=.seq ([]:List Value).toArray }).objs.size=s.heap.objs.size+1:=Heap.size_push ..
 have hs1:SetAtF (s.heap.push { cls:=.type "list",data:=.seq ([]:List Value).toArray }) S es ep t:=hs.keep fun o e=>Heap.get?_push_of_some _ e
 have hT1:Shared.TypeIs { s with heap:=s.heap.push { cls:=.type "list",data:=.seq ([]:List Value).toArray } } (.ref S) "set":=let ⟨o,ho,hc,_⟩:=hs1; ⟨o,ho,hc⟩
 (unfold Builtin.List.listExtendWith)
 refine wpAny_bind (wpAny_typeOf (T:="set") hT1 ?_)
 have h1:Builtin.List.listSameRef (.ref s.heap.objs.size) (.ref S)=false:=by simp [Builtin.List.listSameRef,Nat.ne_of_gt hSl]
 have h2:(Value.type "set" == Value.type "list")=false:=by decide
 have h3:(Value.type "set" == Value.type "tuple")=false:=by decide
 (simp only [h1,h2,h3,Bool.or_false,Bool.false_eq_true,if_false])
 refine wpAny_bind (iter_set hs1 hf hfi hz fun I s' fp St ord eo eg et hk pm st hI hfp W=>?_)
 have hT2:s'.TypeIs (.ref S) "set":=let ⟨o,ho,hc,_⟩:=hs1; ⟨o,hk _ _ ho,hc⟩
 refine wpAny_bind (wpAny_holding (hint_set hT2 ?_))
 have hL2:=hk _ _ hL
 have Lf:s.heap.objs.size ∉ fp:=fun z=>by
  rcases hfp _ z with q|q
  ·exact absurd q (Nat.ne_of_gt hSl)
  ·exact absurd q (by show ¬ (s.heap.push _).objs.size ≤ _; rw [szp]; exact Nat.not_succ_le_self _)
 have nI:s.heap.objs.size≠I:=fun z=>by
  rw [← z] at hI
  exact absurd hI (by show ¬ (s.heap.push _).objs.size ≤ _; rw [szp]; exact Nat.not_succ_le_self _)
 have z4:es.size ≤ sizeLine:=by rw [sizeLine_eq]; unfold scanBound at hz; (first|lia|omega)
 have key:∀ (hp:Heap) (c:Nat),St 0 hp→(∀ b o,s.heap.get? b=some o→hp.get? b=some o)→hp.get? s.heap.objs.size=some { cls:=.type "list",data:=.seq #[] c } →
   codeAny (model prog w) A (.builtin "list.extend.loop" ⟨[.ref s.heap.objs.size,.ref I,.ref s.heap.objs.size],[]⟩) (wants (fun r s'=>wpAny (model prog w) A (match r with
    | .ref a=>do
     let o ← load a
     match o.data with
     | .seq ys _=>pure ys.toList
     | _=>(unsupported "internal:collect")
    | _=>(unsupported "internal:collect")) Q E s') E) { s' with heap:=hp }:=by
  intro hp c st0 kp gL
  refine codeAny_extend_loopS (W A.in1 (by exact hh)).toS z4 s.heap.objs.size Lf _ es.size 0 _ #[] c rfl (Nat.zero_le _) st0 gL (ItemsOf.nil _) fun s'' acc c' hm gL' hacc=>?_
  show wpAny _ A (load s.heap.objs.size >>= _) _ _ s''
  refine wpAny_bind (wpAny_load gL' (wpAny_pure ?_))
  refine h s'' acc.toList (hm.os.trans eo) (hm.gens.trans eg) (Nat.le_trans et hm.toks) (fun b o e=>hm.heap b o (fun z=>?_) (kp b o e)) ?_ (Heap.lt_size gL')
  ·rcases List.mem_cons.mp z with q|q
   ·exact absurd (Heap.lt_size e) (by rw [q]; exact Nat.lt_irrefl _)
   ·rw [List.mem_singleton.mp q] at e
    have l1:=Heap.lt_size e
    have l2:(s.heap.push { cls:=.type "list",data:=.seq ([]:List Value).toArray }).objs.size ≤ I:=hI
    rw [szp] at l2
    exact absurd l1 (Nat.not_lt.mpr (Nat.le_of_succ_le l2))
  ·have e:acc.toList=ord:=by
    have ol:ord.length=es.size:=by rw [pm.length_eq]; simp
    refine List.ext_getElem (by rw [Array.length_toList,hacc.1,ol]) fun j h1 h2=>?_
    have h3:j < acc.size:=by simpa using h1
    have this:ord[j]?=some acc[j]:=hacc.2 j acc[j] (getElem?_pos acc j h3)
    rw [getElem?_pos ord j h2] at this
    have this:=Option.some.inj this
    rw [this]; simp
   rw [e]; exact pm
 (refine wpAny_ite_split (fun _=>?_) (fun hab=>absurd (by decide +kernel) hab))
 (refine wpAny_bind (wpAny_rule ?_))
 refine wpAny_bind ?_; show wpAny _ _ (updateSeq s.heap.objs.size (·.push .none) >>= fun _=>updateSeq s.heap.objs.size (·.pop)) _ _ _
 refine wpAny_bind (wpAny_updateSeq hL2 rfl ?_)
 have g2:=Heap.get?_update_self (Obj.mapSeq (·.push Value.none)) hL2 rfl
 refine wpAny_updateSeq (hz:=by seq_fits) g2 rfl ?_
 have g3:=Heap.get?_update_self (Obj.mapSeq (·.pop)) g2 rfl
 have oth:∀ b o,b≠s.heap.objs.size→s'.heap.get? b=some o→((s'.heap.update s.heap.objs.size (Obj.mapSeq (·.push Value.none))).update s.heap.objs.size (Obj.mapSeq (·.pop))).get? b=some o:=fun b o hb e=>by
  rw [Heap.get?_update_other _ _ (Ne.symm hb),Heap.get?_update_other _ _ (Ne.symm hb)]; exact e
 refine wpAny_pure ⟨plainId_quiet F.plain_extend_loop _,key _ _ ((W A.in1 (by exact hh)).frame 0 _ _ st fun b hb o e=>oth b o (fun z=>Lf (z ▸ hb)) e) (fun b o e=>oth b o (fun z=>?_) (hk b o (Heap.get?_push_of_some _ e))) g3⟩
 rw [z] at e
 exact absurd (Heap.lt_size e) (Nat.lt_irrefl _)
theorem ris_sortedTo {a:Array Keyed} {n:Nat} (hn:a.size=n) (h:Ris numOf a.toList):SortedTo a n:=fun i j l1 l2=>ris_up hn h i j l1 l2
theorem sort_intsB {a:Addr} {vs:List Value} {ns:List Int} {n:Nat} {P:Fin→Shared→Prop} (ho:s.heap.get? a=some (seqObj "list" vs.toArray n)) (hI:IntsAre vs ns) (nd:ns.Nodup) (h5:vs.length ≤ 5000) (h:∀ (out:Array Value) (ns':List Int),IntsAre out.toList ns'→ns'.Perm ns→ns'.Pairwise (· ≤ ·)→P (.done (.ret .none)) { s with heap:=sortedHeap s.heap a vs out }):wpAny (model prog w) A (Builtin.«list.sort» ⟨[.ref a],[]⟩) P E s:=by
 have la:a < s.heap.objs.size:=Heap.lt_size ho
 rw [list_sort_plain]
 refine wpAny_bind (listItems_at ho rfl (wpAny_bind (listUpdate_at ho rfl ?_)))
 obtain ⟨c1,o1⟩:∃ c1,(s.heap.update a (Obj.mapSeq fun _=>#[])).get? a=some (seqObj "list" #[] c1):=⟨_,get?_update_seq ho (fun _=>#[])⟩
 refine wpAny_bind (seqEpoch_at o1 rfl (wpAny_bind (wpAny_newTuple (wpAny_bind (wpAny_newList (wpAny_holding ?_))))))
 (show wpAny (model prog w) A _ P E { s with heap:=((s.heap.update a (Obj.mapSeq fun _=>#[])).push (seqObj "tuple" vs.toArray 0)).push (seqObj "list" #[] 0) })
 generalize eM:((s.heap.update a (Obj.mapSeq fun _=>#[])).push (seqObj "tuple" vs.toArray 0)).push (seqObj "list" #[] 0)=hM
 have o2:hM.get? a=some (seqObj "list" #[] c1):=by
  rw [← eM,Heap.get?_push_ne _ _ _ (by rw [size_push',Heap.size_update]; exact Nat.ne_of_lt (Nat.lt_succ_of_lt la)),Heap.get?_push_ne _ _ _ (by rw [Heap.size_update]; exact Nat.ne_of_lt la)]
  exact o1
 dsimp only
 have done_:∀ st:SortSt,(arrOf st).Perm (pairsOf vs)→SortedTo (arrOf st) (pairsOf vs).size→P (.done (.ret .none)) { s with heap:=hM.update a (Obj.mapSeq fun _=>(arrOf st).map (·.2)) }:=fun st pm up=>by
  obtain ⟨ns',k1,k2,k3⟩:=sorted_out hI pm up
  have q:=h _ ns' k1 k2 k3
  unfold sortedHeap at q
  rw [eM] at q
  exact q
 by_cases c2:vs.toArray.size < 2
 ·rw [if_pos c2,if_pos c2]
  (refine wpAny_bind (wpAny_pure ?_))
  rw [StateT.run_pure]
  (refine wpAny_bind (wpAny_pure ?_))
  dsimp only
  refine wpAny_bind (seqEpoch_at o2 rfl (wpAny_bind (listUpdate_at o2 rfl ?_ (hsz2:=by rw [Array.size_map]; show (pairsOf vs).size ≤ _; rw [pairsOf_size,sizeLine_eq]; (first|lia|omega)))))
  (simp only [bne_self_eq_false,Bool.false_eq_true,if_false])
  refine wpAny_pure (done_ (SortSt.mk' general' (vs.toArray.zip vs.toArray) #[] 7 none) (Array.Perm.refl _) fun i j l1 l2=>?_)
  have hz:vs.toArray.size=vs.length:=by simp
  rw [pairsOf_size] at l2
  have:i=j:=by (first|lia|omega)
  subst this
  exact Int.le_refl _
 ·rw [if_neg c2,if_neg c2]
  have hk:keyKind' vs.toArray=pure oneType':=by
   match vs,c2,hI with
   | [],c2,_=>simp at c2
   | [_],c2,_=>simp at c2
   | _::_::_,_,hI=>exact keyKind_ints hI
  rw [hk]
  (refine wpAny_bind (wpAny_pure ?_))
  have mi:∀ v∈vs,∃ n t,v=.int n t:=fun v hv=>by
   obtain ⟨i,hi,rfl⟩:=List.mem_iff_getElem.mp hv
   obtain ⟨t,e⟩:=IntsAre.int_at hI i vs[i] (getElem?_pos vs i hi)
   exact ⟨_,t,e⟩
  have T:Tells prog w A { s with heap:=hM } oneType' numOf (pairsOf vs):=by
   refine ⟨fun p hp q hq E Q hQ=>?_,?_⟩
   ·rw [pairsOf_toList] at hp hq
    obtain ⟨n1,t1,e1⟩:=mi _ (mem_zip_self hp).2
    obtain ⟨n2,t2,e2⟩:=mi _ (mem_zip_self hq).2
    rw [e1,e2] at hQ ⊢
    rw [keyLt'_oneType]
    exact oneLt_int hQ
   ·rw [pairsOf_toList]
    have e:(vs.zip vs).map (fun p=>numOf p.1)=ns:=by
     (have:(vs.zip vs).map (fun p=>numOf p.1)=((vs.zip vs).map Prod.fst).map numOf:=by rw [List.map_map]; rfl)
     (rw [this,List.map_fst_zip (Nat.le_refl _),hI.nums])
    rw [e]; exact nd
  refine wpAny_bind (wpAny_mono (sort_any (E:=E) (st:=SortSt.mk' oneType' (vs.toArray.zip vs.toArray) #[] 7 none) (ini:=pairsOf vs)
   (Q:=fun _ z=>(arrOf z).Perm (pairsOf vs)∧failedOf z=none∧Ris numOf (arrOf z).toList) T (Array.Perm.refl _) rfl rfl rfl fun z a1 a2 a3=>⟨a1,a2,a3⟩) ?_ fun _ _ e=>e)
  rintro ⟨⟨⟩,z⟩ s' ⟨rfl,pm,fl,up⟩
  dsimp only
  refine wpAny_bind (seqEpoch_at o2 rfl (wpAny_bind (listUpdate_at o2 rfl ?_ (hsz2:=by refine Nat.le_trans (Nat.le_of_eq ((Array.size_map ..).trans (pm.size_eq.trans (pairsOf_size _)))) ?_; rw [sizeLine_eq]; (first|lia|omega)))))
  rw [fl]
  (simp only [bne_self_eq_false,Bool.false_eq_true,if_false])
  exact wpAny_pure (done_ z pm (ris_sortedTo pm.size_eq up))
end
end L3
namespace L3
open PySem PySem.Spec PyProof.Rows L2
noncomputable abbrev sortUp (ns:List Int):List Int:=(sortD ns).reverse
theorem up_one {xs ys:List Int} (p:xs.Perm ys) (h:xs.Pairwise (· ≤ ·)):xs=sortUp ys:=by
 have e:xs.reverse=sortD ys:=desc_one ((List.reverse_perm xs).trans (p.trans (sortD_perm ys).symm)) (List.pairwise_reverse.mpr h) (sortD_ge ys)
 show xs=(sortD ys).reverse
 rw [← e,List.reverse_reverse]
theorem nodup_perm:∀ {d l:List Int},d.Nodup→(∀ x∈d,x∈l)→l.length ≤ d.length→l.Perm d
 | [],l,_,_,h=>by rw [List.length_eq_zero_iff.mp (Nat.le_zero.mp h)]
 | x::d,l,n,m,h=>by
  rw [List.nodup_cons] at n
  have hx:x∈l:=m x List.mem_cons_self
  have p:=List.perm_cons_erase hx
  have hl:l.length=(l.erase x).length+1:=p.length_eq
  refine p.trans ((nodup_perm n.2 (fun y hy=>?_) (by simp at h; (first|lia|omega))).cons x)
  have:=p.mem_iff.mp (m y (List.mem_cons_of_mem _ hy))
  rcases List.mem_cons.mp this with q|q
  ·exact absurd (q ▸ hy) n.1
  ·exact q
theorem step_nodup {l:List Int} {x:Int} (h:l.Nodup):(step_dedup l x).Nodup:=by
 unfold step_dedup
 split
 ·exact h
 ·rename_i c
  refine List.nodup_append.mpr ⟨h,by simp,fun a ha b hb e=>c ?_⟩
  rw [List.mem_singleton] at hb
  subst hb; subst e
  exact List.any_eq_true.mpr ⟨a,ha,by simp⟩
theorem distinct_nodup (ns:List Int):(distinct ns).Nodup:=by
 have go:∀ (l acc:List Int),acc.Nodup→(l.foldl step_dedup acc).Nodup:=by
  intro l
  induction l with
  | nil=>intro acc h; exact h
  | cons x l ih=>intro acc h; exact ih _ (step_nodup h)
 exact go ns [] List.nodup_nil
noncomputable def dSortSet:D→R En
 | .lst ds=>(match intsOf ds with
  | some ns=>if ns.length ≤ 4000 then .ok (.ow (.lst ((sortUp (distinct ns)).map D.int))) else .stuck
  | none=>.stuck)
 | _=>.stuck
noncomputable def eSortSet (f:EF):EF:=fun ρ=>(f ρ).bind fun w=>dSortSet w.d
section
variable {prog:Program} {w:World} {A:Around} {E:Value→Shared→Prop} {s:Shared} {S:Addr}
theorem sorted_set {Q:Value→Shared→Prop} {d:List Int} (hh:A.handled=none) (hS:s.heap.SetOf (intKind prog w) S (fun k=>d.any (· == k)) d.length) (hF:FineAt (byT w) s.heap S) (nd:d.Nodup)
  (h:∀ (s':Shared) (a:Addr) (out:Array Value) (c:Nat),s'.os=s.os→s'.gens=s.gens→(∀ b o,s.heap.get? b=some o→s'.heap.get? b=some o)→s.heap.objs.size ≤ a→s'.heap.get? a=some (seqObj "list" out c)→IntsAre out.toList (sortUp d)→Q (.ref a) s') :
  wpAny (model prog w) A (call (.builtin "sorted") [.ref S]) Q E s:=by
 obtain ⟨o,es,ep,t,ho,hex,hd,hel,hmem,hb,hf,hn⟩:=id hS
 obtain ⟨o2,es2,ep2,t2,ho2,hd2,hfi⟩:=id hF
 rw [ho] at ho2; cases ho2; rw [hd] at hd2; cases hd2
 have hs:SetAtF s.heap S es ep t:=⟨o,ho,hex.1,hd⟩
 have hI0:IntsAre (valsOf es) ((valsOf es).map numOf):=intsAre_map _ fun v hv=>by
  obtain ⟨e,he,rfl⟩:=List.mem_map.mp hv
  obtain ⟨⟨k,hk,_⟩,_⟩:=hel e he
  obtain ⟨u,hu⟩:=Value.isInt_shape hk
  exact ⟨k,u,hu⟩
 have p0:((valsOf es).map numOf).Perm d:=nodup_perm nd (fun x hx=>by
  obtain ⟨e,he,hk⟩:=(hmem x).mp (List.any_eq_true.mpr ⟨x,hx,by simp⟩)
  obtain ⟨u,hu⟩:=Value.isInt_shape hk
  exact List.mem_map.mpr ⟨e.2,List.mem_map.mpr ⟨e,he,rfl⟩,by rw [hu]; rfl⟩) (by simp [hn])
 (refine Calls.call_function_entry kind_sorted plain_sorted entry_sorted (args_sorted1 _) ?_)
 unfold Builtin.«sorted»
 refine wpAny_bind (m:=checkCount "sorted" 1 1 _) (wpAny_pure (wpAny_bind (collect_set (by exact hh) hs hf hfi hb fun s' vs eo eg et hk pm hlt=>wpAny_bind (wpAny_newList ?_ (by rw [pm.length_eq]; simp; rw [sizeLine_eq]; unfold scanBound at hb; (first|lia|omega))))))
 have vl:vs.length ≤ 5000:=by rw [pm.length_eq]; simp; unfold scanBound at hb; (first|lia|omega)
 have hI:IntsAre vs (vs.map numOf):=intsAre_map _ fun v hv=>by
  obtain ⟨e,he,rfl⟩:=List.mem_map.mp (pm.mem_iff.mp hv)
  obtain ⟨⟨k,hk,_⟩,_⟩:=hel e he
  obtain ⟨u,hu⟩:=Value.isInt_shape hk
  exact ⟨k,u,hu⟩
 have p1:(vs.map numOf).Perm d:=(pm.map numOf).trans p0
 show wpAny _ _ _ _ _ { s' with heap:=s'.heap.push (seqObj "list" vs.toArray 0) }
 have o1:(s'.heap.push (seqObj "list" vs.toArray 0)).get? s'.heap.objs.size=some (seqObj "list" vs.toArray 0):=Heap.get?_push_size _ rfl
 refine wpAny_bind (wpAny_holding (wpAny_call_entry slot_list_sort ⟨_,o1,rfl⟩ entry_list_sort ?_ (args_list_sort _)))
 refine sort_intsB (s:={ s' with heap:=s'.heap.push (seqObj "list" vs.toArray 0) }) o1 hI (p1.nodup_iff.mpr nd) vl fun out ns' k1 k2 k3=>⟨_,rfl,wpAny_pure ⟨_,rfl,?_⟩⟩
 obtain ⟨c,hE⟩:=sortedHeap_at (out:=out) o1
 refine h _ _ out c eo eg (fun b o e=>?_) (Nat.le_of_lt hlt) hE ?_
 ·have lb:=Heap.lt_size (hk b o e)
  show (sortedHeap _ _ _ _).get? b=some o
  rw [sortedHeap_old (Nat.ne_of_lt lb) (by rw [size_push']; exact Nat.lt_succ_of_lt lb),Heap.get?_push_ne _ _ _ (Nat.ne_of_lt lb)]
  exact hk b o e
 ·have:ns'=sortUp d:=up_one (k2.trans p1) k3
  rw [← this]; exact k1
end
section
variable {X:Cx} {F0 H0:Hp} {pos pos2 p p2:Pos}
theorem inv_drawn {pins:List (Addr×Obj)} {σ:List (Option V)} {H:Hp} {s:Shared} (I:Inv X pins σ H s) (d:Drawn):Inv X pins σ H { s with drawn:=d }:=⟨I.ok,I.os,I.bare,I.base,I.loc,I.cell,I.free,I.freeC,I.pin,I.hok,I.len⟩
theorem se_sortSet {e:Expr} {f:EF} (he:SE X F0 H0 e f) (hm:X.mg "sorted"=none) (hm2:X.mg "set"=none) (hc:X.calm=true:=by rfl) (hg:Gl X "sorted":=by rfl) (hg2:Gl X "set":=by rfl)
  (h1:starEach [Expr.Call (.Name "set" p2) [e] [] pos2] X.env=[(false,eval (Expr.Call (.Name "set" p2) [e] [] pos2) X.env)]:=by rfl)
  (h2:starEach [e] X.env=[(false,eval e X.env)]:=by rfl) :
  SE X F0 H0 (.Call (.Name "sorted" p) [.Call (.Name "set" p2) [e] [] pos2] [] pos) (eSortSet f):=by
 intro pins s σ F H ρ Q S I h
 refine wpAny_Call_Name_kw (ld_blt I hg hm PyProof.Rows.boot_sorted ?_)
 refine PyProof.Rows.callWith_builtin1 ?_ (by rw [h1]; rfl) rfl
 rw [h1]
 refine Calls.spliced_cons ?_
 refine wpAny_Call_Name_kw (ld_blt I hg2 hm2 (show bootBuiltins (Str.ofString "set")=some (.type "set") by rfl) ?_)
 refine PyProof.Rows.callWith_type1 ?_ (by rw [h2]; rfl) rfl
 rw [h2]
 refine Calls.spliced_cons (he pins s σ F H ρ _ S I ((KE.bind h).imp fun wx k1 v u F1 H1 s1 g1 q1 r1 I1=>Calls.spliced_nil ?_))
 have qx:=Vok.rd q1
 have wish:=wish_end g1 k1
 revert wish qx
 generalize wx.d=dx
 intro qx wish
 cases dx <;> first|exact wish.elim|skip
 rename_i ds
 unfold dSortSet at wish
 dsimp only at wish
 cases ei:intsOf ds with
 | none=>rw [ei] at wish; exact wish.elim
 | some ns =>
  rw [ei] at wish
  dsimp only at wish
  by_cases c:ns.length ≤ 4000
  ·rw [if_pos c] at wish
   obtain ⟨a,vs,rfl,hq,rs⟩:=RdV.lst g1.s qx
   have ev:=intsOf_reps ei rs
   subst ev
   cases r1
   obtain ⟨its,rv,pl,hz⟩:=I1.list hq
   have hi:IntsAre its ns:=intsAre_of rv
   have hln:its.length=ns.length:=IntsAre.length hi
   refine set_fine (I1.ok.hd hc) pl.isList (by simpa using hi) (by rw [List.size_toArray,hln]; unfold scanBound; (first|lia|omega)) fun h' tk hS hF hk=>?_
   have hz2:its.toArray.size=ns.length:=by rw [List.size_toArray,hln]
   rw [hz2,firstMet_is] at hS
   refine Calls.spliced_nil ?_
   have I2:Inv X pins σ H1 { s1 with heap:=h',toks:=tk }:=I1.kept (fun b o q=>hk b o (Heap.lt_size q) q)
   have hle:=distinct_le ns
   refine ep_end (pins:=pins) (σ:=σ) (sorted_set (s:={ s1 with heap:=h',toks:=tk }) (I1.ok.hd hc) hS hF (distinct_nodup ns) fun s' a' out c' eo eg hk2 ha hE hO=>?_)
   obtain ⟨h2',g2',d2',t2',os2'⟩:=s'
   have eo:os2'=s1.os:=eo
   have eg:g2'=s1.gens:=eg
   subst eo; subst eg
   have hp:H1 a'=none:=I2.hok.fresh ha
   have hl2:((sortUp (distinct ns)).map V.int).length ≤ sizeLine:=by
    rw [List.length_map,List.length_reverse,(sortD_perm _).length_eq,sizeLine_eq]
    (first|lia|omega)
   refine ⟨.ref a',upd H1 a' (.lst ((sortUp (distinct ns)).map V.int)),(inv_drawn I2 d2').laid (t':=t2') (h':=h2') hk2 ha ⟨hl2,out.toList,c',vals_intsAre hO,by rw [Array.toArray_toList]; exact hE⟩,rfl,?_⟩
   exact wish _ _ _ (Gr.new g1.s hp) ⟨_,_,rfl,hp,Le.none g1.s hp,upd_same,reps_ints _⟩
  ·rw [if_neg c] at wish; exact wish.elim
end
end L3
set_option maxHeartbeats 4000000
namespace My
open PySem PySem.Spec PyProof.Rows L2 L3
noncomputable def top (i:Nat):Stmt:=PySem.Challenge.pw_stavemill_k10_bars_are_filled.main.body.getD i (.Pass ⟨0,0,0,0⟩)
noncomputable def c_SHAPES:D:=.dK [(.inl (112),.tup [.int 64,.int 2]),(.inl (96),.tup [.int 64,.int 1]),(.inl (64),.tup [.int 64,.int 0]),(.inl (56),.tup [.int 32,.int 2]),(.inl (48),.tup [.int 32,.int 1]),(.inl (32),.tup [.int 32,.int 0]),(.inl (28),.tup [.int 16,.int 2]),(.inl (24),.tup [.int 16,.int 1]),(.inl (16),.tup [.int 16,.int 0]),(.inl (14),.tup [.int 8,.int 2]),(.inl (12),.tup [.int 8,.int 1]),(.inl (8),.tup [.int 8,.int 0]),(.inl (7),.tup [.int 4,.int 2]),(.inl (6),.tup [.int 4,.int 1]),(.inl (4),.tup [.int 4,.int 0]),(.inl (3),.tup [.int 2,.int 1]),(.inl (2),.tup [.int 2,.int 0]),(.inl (1),.tup [.int 1,.int 0])]
noncomputable abbrev s_end_of:Stmt:=top 1
noncomputable def B_end_of:SF :=
 (sRet (eOp dAddA (eOp dIxS (eVar 0) (eC (.int 0))) (eOp dIxS (eVar 0) (eC (.int 1)))))
noncomputable def D_end_of:Den:=den 1 B_end_of
noncomputable abbrev s_pieces:Stmt:=top 4
noncomputable def B_pieces:SF :=
 (sSeq (sSet 1 (eLst []))
 (sSeq (sSet 2 (eVar 0))
 (sSeq (sFor (iDct (eC c_SHAPES)) (gV 3) (sWhile 520 (tE (eOp dLe (eVar 3) (eVar 2))) (sSeq (sApp 1 (eVar 3))
 (sAug 2 dSub (eVar 3)))))
 (sRetV 1))))
noncomputable def D_pieces:Den:=den 4 B_pieces
noncomputable abbrev s__law_cell:Stmt:=top 11
noncomputable def B__law_cell:SF :=
 (sSeq (sIf (tE (eOp dLt (eVar 1) (eB dLenA [(eVar 0)]))) (sRet (eOp dIxS (eVar 0) (eVar 1))) sNext)
 (sRet (eC (.int 0))))
noncomputable def D__law_cell:Den:=den 2 B__law_cell
noncomputable abbrev s__law_mix:Stmt:=top 12
noncomputable def B__law_mix:SF :=
 (sRet (eOp dMod (eOp dMod (eOp dMul (eVar 0) (eC (.int 48271))) (eVar 1)) (eVar 2)))
noncomputable def D__law_mix:Den:=den 3 B__law_mix
noncomputable abbrev s__law_whole:Stmt:=top 14
noncomputable def B__law_whole:SF :=
 (sRet (eAnd (eUn (dIs .int) (eVar 0)) (eNot (eUn (dIs .bool) (eVar 0)))))
noncomputable def D__law_whole:Den:=den 1 B__law_whole
noncomputable abbrev s__law_apart:Stmt:=top 17
noncomputable def B__law_apart:SF :=
 (sSeq (sFrz 1 (sFor (iV 1) (gV 2) (sIf (tAnd (tE (eOp dEq (eOp dIxS (eVar 0) (eC (.int 2))) (eOp dIxS (eVar 2) (eC (.int 2))))) (tAnd (tE (eOp dLt (eOp dIxS (eVar 0) (eC (.int 0))) (eOp dAddA (eOp dIxS (eVar 2) (eC (.int 0))) (eOp dIxS (eVar 2) (eC (.int 1)))))) (tE (eOp dLt (eOp dIxS (eVar 2) (eC (.int 0))) (eOp dAddA (eOp dIxS (eVar 0) (eC (.int 0))) (eOp dIxS (eVar 0) (eC (.int 1)))))))) (sRet (eC (.bl false))) sNext)))
 (sRet (eC (.bl true))))
noncomputable def D__law_apart:Den:=den 3 B__law_apart
noncomputable abbrev s__law_meets:Stmt:=top 18
noncomputable def B__law_meets:SF :=
 (sSeq (sSet 2 eDT)
 (sSeq (sFrz 1 (sFor (iV 1) (gV 3) (sIf (tAnd (tE (eOp dLt (eOp dIxS (eVar 3) (eC (.int 0))) (eOp dAddA (eOp dIxS (eVar 0) (eC (.int 0))) (eOp dIxS (eVar 0) (eC (.int 1)))))) (tE (eOp dLt (eOp dIxS (eVar 0) (eC (.int 0))) (eOp dAddA (eOp dIxS (eVar 3) (eC (.int 0))) (eOp dIxS (eVar 3) (eC (.int 1))))))) (sIf (tE (eOp dNe (eTup [(eOp dIxS (eVar 3) (eC (.int 0))),(eOp dIxS (eVar 3) (eC (.int 1)))]) (eTup [(eOp dIxS (eVar 0) (eC (.int 0))),(eOp dIxS (eVar 0) (eC (.int 1)))]))) (sPutT 2 [(eOp dIxS (eVar 3) (eC (.int 0))),(eOp dIxS (eVar 3) (eC (.int 1)))] (eC (.bl true))) sNext) sNext)))
 (sRet (eB dLenA [(eVar 2)]))))
noncomputable def D__law_meets:Den:=den 4 B__law_meets
noncomputable abbrev s__law_written:Stmt:=top 24
noncomputable def B__law_written:SF :=
 (sSeq (sFor (iSeq (eLst [(eC (.int 1)),(eC (.int 2)),(eC (.int 4)),(eC (.int 8)),(eC (.int 16)),(eC (.int 32)),(eC (.int 64))])) (gV 1) (sFor (iSeq (eLst [(eC (.int 1)),(eC (.int 2)),(eC (.int 4))])) (gV 2) (sIf (tAnd (tE (eOp dEq (eOp dMod (eVar 1) (eVar 2)) (eC (.int 0)))) (tE (eOp dEq (eOp dMul (eVar 1) (eOp dSub (eOp dMul (eC (.int 2)) (eVar 2)) (eC (.int 1)))) (eOp dMul (eVar 0) (eVar 2))))) (sRet (eC (.bl true))) sNext)))
 (sRet (eC (.bl false))))
noncomputable def D__law_written:Den:=den 3 B__law_written
noncomputable abbrev s__law_lengths:Stmt:=top 25
noncomputable def B__law_lengths:SF :=
 (sSeq (sSet 2 (eLst []))
 (sSeq (sWhile 200 (tOr (tNot (tE (eVar 2))) (tE (eOp dLt (eB dSum [(eVar 2)]) (eVar 1)))) (sApp 2 (eOp dIxS (eComp 1 (iVc 0) (gV 3) (tE (eOp dLe (eOp dIxS (eVar 3) (eC (.int 0))) (eB dLenA [(eVar 2)]))) (eOp dMul (eOp dIxS (eVar 3) (eC (.int 1))) (eOp dIxS (eVar 3) (eC (.int 2))))) (eUn dNeg (eC (.int 1))))))
 (sRetV 2)))
noncomputable def D__law_lengths:Den:=den 3 B__law_lengths
noncomputable abbrev s__law_pieces:Stmt:=top 26
noncomputable def B__law_pieces:SF :=
 (sSeq (sSet 1 (eLst []))
 (sSeq (sFor (iSeq (eLst [(eC (.int 64)),(eC (.int 32)),(eC (.int 16)),(eC (.int 8)),(eC (.int 4)),(eC (.int 2)),(eC (.int 1))])) (gV 2) (sFor (iSeq (eLst [(eC (.int 1)),(eC (.int 2)),(eC (.int 4))])) (gV 3) (sIf (tE (eOp dEq (eOp dMod (eVar 2) (eVar 3)) (eC (.int 0)))) (sApp 1 (eOp dDiv (eOp dMul (eVar 2) (eOp dSub (eOp dMul (eC (.int 2)) (eVar 3)) (eC (.int 1)))) (eVar 3))) sNext)))
 (sSeq (sSet 4 (eLst []))
 (sSeq (sFor (iSeq (eOp dSortR (eVar 1) (eC (.bl true)))) (gV 5) (sWhile 1000 (tE (eOp dLe (eVar 5) (eVar 0))) (sSeq (sApp 4 (eVar 5))
 (sSet 0 (eOp dSub (eVar 0) (eVar 5))))))
 (sRetV 4)))))
noncomputable def D__law_pieces:Den:=den 6 B__law_pieces
noncomputable abbrev s_rest_events:Stmt:=top 6
noncomputable def B_rest_events:SF :=
 (sRet (eComp 1 (iSeq (eCall D_pieces [(eVar 0)])) (gV 1) tTrue (eTup [(eC (.str "rest")),(eVar 1)])))
noncomputable def D_rest_events:Den:=den 1 B_rest_events
noncomputable abbrev s_note_events:Stmt:=top 7
noncomputable def B_note_events:SF :=
 (sSeq (sSet 3 (eCall D_end_of [(eVar 0)]))
 (sSeq (sSet 4 (eLst []))
 (sSeq (sSet 5 (eVar 1))
 (sSeq (sFor (iSeq (eCall D_pieces [(eOp dSub (eVar 2) (eVar 1))])) (gV 6) (sSeq (sAug 5 dAddI (eVar 6))
 (sApp 4 (eTup [(eC (.str "note")),(eVar 6),(eOp dIxS (eVar 0) (eC (.int 2))),(eOp dLt (eVar 5) (eVar 3))]))))
 (sRetV 4)))))
noncomputable def D_note_events:Den:=den 7 B_note_events
noncomputable abbrev s__law_large:Stmt:=top 13
noncomputable def B__law_large:SF :=
 (sRet (eOp dEq (eCall D__law_mix [(eOp dAddA (eCall D__law_cell [(eVar 0),(eC (.int 0))]) (eOp dMul (eC (.int 7)) (eB dLenA [(eVar 0)]))),(eC (.int 9871)),(eC (.int 8))]) (eC (.int 3))))
noncomputable def D__law_large:Den:=den 1 B__law_large
noncomputable abbrev s__law_step:Stmt:=top 15
noncomputable def B__law_step:SF :=
 (sSeq (sSet 3 (eLst [(eC (.int 1)),(eC (.int 2)),(eC (.int 4)),(eC (.int 8)),(eC (.int 16)),(eC (.int 32)),(eC (.int 64))]))
 (sSeq (sSet 4 (eC (.int 8)))
 (sSeq (sSet 5 (eC (.int 96)))
 (sSeq (sIf (tE (eVar 2)) (sSeq (sSet 3 (eLst [(eC (.int 4)),(eC (.int 8)),(eC (.int 16)),(eC (.int 32)),(eC (.int 64))]))
 (sSeq (sSet 4 (eC (.int 64)))
 (sSet 5 (eC (.int 512))))) sNext)
 (sSeq (sSet 6 (eOp dIxS (eVar 3) (eCall D__law_mix [(eVar 0),(eC (.int 10007)),(eB dLenA [(eVar 3)])])))
 (sSeq (sSet 7 (eOp dDiv (eOp dSub (eOp dAddA (eVar 4) (eVar 6)) (eC (.int 1))) (eVar 6)))
 (sSeq (sSet 8 (eB dMin2 [(eC (.int 24)),(eOp dDiv (eVar 5) (eVar 6))]))
 (sRet (eTup [(eVar 1),(eOp dAddA (eVar 7) (eCall D__law_mix [(eVar 0),(eC (.int 9973)),(eOp dAddA (eOp dSub (eVar 8) (eVar 7)) (eC (.int 1)))])),(eVar 6)])))))))))
noncomputable def D__law_step:Den:=den 9 B__law_step
noncomputable abbrev s__law_note:Stmt:=top 19
noncomputable def B__law_note:SF :=
 (sSeq (sSet 3 (eCall D__law_mix [(eVar 0),(eC (.int 10007)),(eC (.int 97))]))
 (sSeq (sSet 4 (eOp dAddA (eC (.int 1)) (eCall D__law_mix [(eVar 0),(eC (.int 9973)),(eC (.int 48))])))
 (sSeq (sSet 5 (eOp dAddA (eC (.int 52)) (eCall D__law_mix [(eVar 0),(eC (.int 9967)),(eC (.int 25))])))
 (sSeq (sSet 6 (eC (.int 96)))
 (sSeq (sIf (tE (eVar 2)) (sSeq (sSet 3 (eCall D__law_mix [(eVar 0),(eC (.int 10007)),(eC (.int 1001))]))
 (sSeq (sSet 4 (eOp dAddA (eC (.int 1)) (eCall D__law_mix [(eVar 0),(eC (.int 9973)),(eC (.int 400))])))
 (sSeq (sSet 5 (eCall D__law_mix [(eVar 0),(eC (.int 9967)),(eC (.int 128))]))
 (sSet 6 (eC (.int 1000)))))) sNext)
 (sSeq (sSet 7 (eCall D__law_mix [(eVar 0),(eC (.int 9949)),(eC (.int 4))]))
 (sSeq (sIf (tAnd (tE (eVar 1)) (tE (eOp dEq (eVar 7) (eC (.int 0))))) (sSeq (sSet 3 (eOp dIxS (eOp dIxS (eVar 1) (eUn dNeg (eC (.int 1)))) (eC (.int 0))))
 (sSet 4 (eOp dIxS (eOp dIxS (eVar 1) (eUn dNeg (eC (.int 1)))) (eC (.int 1))))) sNext)
 (sSeq (sIf (tAnd (tE (eVar 1)) (tAnd (tE (eOp dEq (eVar 7) (eC (.int 1)))) (tE (eOp dLe (eOp dAddA (eOp dIxS (eOp dIxS (eVar 1) (eUn dNeg (eC (.int 1)))) (eC (.int 0))) (eOp dIxS (eOp dIxS (eVar 1) (eUn dNeg (eC (.int 1)))) (eC (.int 1)))) (eVar 6))))) (sSeq (sSet 3 (eOp dAddA (eOp dIxS (eOp dIxS (eVar 1) (eUn dNeg (eC (.int 1)))) (eC (.int 0))) (eOp dIxS (eOp dIxS (eVar 1) (eUn dNeg (eC (.int 1)))) (eC (.int 1)))))
 (sIf (tE (eOp dEq (eCall D__law_mix [(eVar 0),(eC (.int 9941)),(eC (.int 2))]) (eC (.int 0)))) (sSet 5 (eOp dIxS (eOp dIxS (eVar 1) (eUn dNeg (eC (.int 1)))) (eC (.int 2)))) sNext)) sNext)
 (sRet (eTup [(eVar 3),(eVar 4),(eVar 5)]))))))))))
noncomputable def D__law_note:Den:=den 8 B__law_note
noncomputable abbrev s__law_wide:Stmt:=top 21
noncomputable def B__law_wide:SF :=
 (sRet (eOp dEq (eOp dMod (eCall D__law_cell [(eVar 0),(eC (.int 0))]) (eC (.int 4))) (eC (.int 3))))
noncomputable def D__law_wide:Den:=den 1 B__law_wide
noncomputable abbrev s__law_cuts:Stmt:=top 27
noncomputable def B__law_cuts:SF :=
 (sSeq (sSet 2 (eComp 1 (iR1 (eB dLenA [(eVar 1)])) (gV 8) tTrue (eB dSum [(eSl (eVar 1) oNo (oE (eOp dAddA (eVar 8) (eC (.int 1)))))])))
 (sSeq (sSet 3 (eOp dAddA (eLst [(eC (.int 0))]) (eVar 2)))
 (sSeq (sFrz 0 (sFor (iV 0) (gV 4) (sSet 3 (eOp dAddA (eVar 3) (eLst [(eOp dIxS (eVar 4) (eC (.int 0))),(eOp dAddA (eOp dIxS (eVar 4) (eC (.int 0))) (eOp dIxS (eVar 4) (eC (.int 1))))])))))
 (sSeq (sSet 3 (eSortSet (eVar 3)))
 (sSeq (sSet 5 (eComp 1 (iVc 1) (gV 8) tTrue (eLst [])))
 (sSeq (sSet 6 (eC (.int 0)))
 (sSeq (sFor (iR1 (eOp dSub (eB dLenA [(eVar 3)]) (eC (.int 1)))) (gV 7) (sSeq (sIf (tE (eOp dEq (eOp dIxS (eVar 3) (eVar 7)) (eOp dIxS (eVar 2) (eVar 6)))) (sSet 6 (eOp dAddA (eVar 6) (eC (.int 1)))) sNext)
 (sSetI 5 (eVar 6) (eOp dAddA (eOp dIxS (eVar 5) (eVar 6)) (eCall D__law_pieces [(eOp dSub (eOp dIxS (eVar 3) (eOp dAddA (eVar 7) (eC (.int 1)))) (eOp dIxS (eVar 3) (eVar 7)))])))))
 (sRetV 5))))))))
noncomputable def D__law_cuts:Den:=den 8 B__law_cuts
noncomputable abbrev s__law_event:Stmt:=top 28
noncomputable def B__law_event:SF :=
 (sSeq (sIf (tOr (tNot (tE (eUn (dIs .tuple) (eVar 0)))) (tOr (tE (eOp dLt (eB dLenA [(eVar 0)]) (eC (.int 2)))) (tNot (tE (eCall D__law_whole [(eOp dIxS (eVar 0) (eC (.int 1)))]))))) (sRet (eC (.bl false))) sNext)
 (sSeq (sIf (tNot (tE (eCall D__law_written [(eOp dIxS (eVar 0) (eC (.int 1)))]))) (sRet (eC (.bl false))) sNext)
 (sSeq (sIf (tE (eOp dEq (eOp dIxS (eVar 0) (eC (.int 0))) (eC (.str "rest")))) (sRet (eOp dEq (eB dLenA [(eVar 0)]) (eC (.int 2)))) sNext)
 (sSeq (sIf (tOr (tE (eOp dNe (eOp dIxS (eVar 0) (eC (.int 0))) (eC (.str "note")))) (tOr (tE (eOp dNe (eB dLenA [(eVar 0)]) (eC (.int 4)))) (tNot (tE (eUn (dIs .bool) (eOp dIxS (eVar 0) (eC (.int 3)))))))) (sRet (eC (.bl false))) sNext)
 (sRet (eAnd (eUn (dIs .tuple) (eOp dIxS (eVar 0) (eC (.int 2)))) (eOp dGt (eB dLenA [(eOp dIxS (eVar 0) (eC (.int 2)))]) (eC (.int 0)))))))))
noncomputable def D__law_event:Den:=den 1 B__law_event
noncomputable abbrev s_bar_events:Stmt:=top 8
noncomputable def B_bar_events:SF :=
 (sSeq (sSet 3 (eLst []))
 (sSeq (sSet 4 (eVar 1))
 (sSeq (sFrz 0 (sFor (iV 0) (gV 5) (sSeq (sSet 6 (eB dMax2 [(eOp dIxS (eVar 5) (eC (.int 0))),(eVar 1)]))
 (sSeq (sSet 7 (eB dMin2 [(eCall D_end_of [(eVar 5)]),(eVar 2)]))
 (sIf (tE (eOp dLt (eVar 6) (eVar 7))) (sSeq (sExt 3 (eCall D_rest_events [(eOp dSub (eVar 6) (eVar 4))]))
 (sSeq (sExt 3 (eCall D_note_events [(eVar 5),(eVar 6),(eVar 7)]))
 (sSet 4 (eVar 7)))) sNext)))))
 (sSeq (sExt 3 (eCall D_rest_events [(eOp dSub (eVar 2) (eVar 4))]))
 (sRetV 3)))))
noncomputable def D_bar_events:Den:=den 8 B_bar_events
noncomputable abbrev s__law_meter:Stmt:=top 16
noncomputable def B__law_meter:SF :=
 (sSeq (sSet 2 (eLst []))
 (sSeq (sSet 3 (eC (.int 0)))
 (sSeq (sFor (iR1 (eOp dAddA (eC (.int 1)) (eOp dMod (eCall D__law_cell [(eVar 0),(eC (.int 1))]) (eC (.int 3))))) (gV 4) (sSeq (sSet 5 (eOp dAddA (eCall D__law_cell [(eVar 0),(eC (.int 1))]) (eOp dMul (eC (.int 7)) (eCall D__law_cell [(eVar 0),(eOp dAddA (eC (.int 2)) (eVar 4))]))))
 (sSeq (sApp 2 (eCall D__law_step [(eVar 5),(eVar 3),(eVar 1)]))
 (sSet 3 (eOp dAddA (eOp dAddA (eVar 3) (eC (.int 1))) (eCall D__law_mix [(eVar 5),(eC (.int 9967)),(eC (.int 3))]))))))
 (sRetV 2))))
noncomputable def D__law_meter:Den:=den 6 B__law_meter
noncomputable abbrev s__law_notes:Stmt:=top 20
noncomputable def B__law_notes:SF :=
 (sSeq (sSet 2 (eC (.int 12)))
 (sSeq (sIf (tE (eCall D__law_large [(eVar 0)])) (sSet 2 (eC (.int 24))) sNext)
 (sSeq (sIf (tE (eOp dGt (eB dLenA [(eVar 0)]) (eC (.int 63)))) (sSet 2 (eC (.int 60))) sNext)
 (sSeq (sSet 3 (eLst []))
 (sSeq (sFor (iSeq (eSl (eVar 0) (oE (eC (.int 6))) (oE (eOp dAddA (eC (.int 6)) (eVar 2))))) (gV 4) (sSeq (sSet 5 (eCall D__law_note [(eVar 4),(eVar 3),(eVar 1)]))
 (sIf (tAnd (tE (eCall D__law_apart [(eVar 5),(eVar 3)])) (tE (eOp dLe (eCall D__law_meets [(eVar 5),(eVar 3)]) (eC (.int 7))))) (sApp 3 (eVar 5)) sNext)))
 (sRetV 3))))))
noncomputable def D__law_notes:Den:=den 6 B__law_notes
noncomputable abbrev s_events:Stmt:=top 9
noncomputable def B_events:SF :=
 (sSeq (sSet 2 (eLst []))
 (sSeq (sSet 3 (eC (.int 0)))
 (sSeq (sFrz 1 (sFor (iV 1) (gV 4) (sSeq (sApp 2 (eCall D_bar_events [(eVar 0),(eVar 3),(eOp dAddA (eVar 3) (eVar 4))]))
 (sAug 3 dAddI (eVar 4)))))
 (sRetV 2))))
noncomputable def D_events:Den:=den 5 B_events
noncomputable abbrev s__law_row:Stmt:=top 22
noncomputable def B__law_row:SF :=
 (sSeq (sSet 2 (eLst []))
 (sSeq (sFor (iSeq (eB dSorted [(eCall D__law_notes [(eVar 0),(eVar 1)])])) (gV 3) (sIf (tAnd (tE (eVar 2)) (tE (eOp dEq (eSl (eOp dIxS (eVar 2) (eUn dNeg (eC (.int 1)))) oNo (oE (eC (.int 2)))) (eSl (eVar 3) oNo (oE (eC (.int 2))))))) (sSetI 2 (eUn dNeg (eC (.int 1))) (eTup [(eOp dIxS (eVar 3) (eC (.int 0))),(eOp dIxS (eVar 3) (eC (.int 1))),(eOp dAddA (eOp dIxS (eOp dIxS (eVar 2) (eUn dNeg (eC (.int 1)))) (eC (.int 2))) (eTup [(eOp dIxS (eVar 3) (eC (.int 2)))]))])) (sApp 2 (eTup [(eOp dIxS (eVar 3) (eC (.int 0))),(eOp dIxS (eVar 3) (eC (.int 1))),(eTup [(eOp dIxS (eVar 3) (eC (.int 2)))])]))))
 (sRetV 2)))
noncomputable def D__law_row:Den:=den 4 B__law_row
noncomputable abbrev s__law_voice:Stmt:=top 23
noncomputable def B__law_voice:SF :=
 (sSeq (sSet 2 (eLst []))
 (sSeq (sFor (iSeq (eCall D__law_row [(eVar 0),(eVar 1)])) (gV 3) (sIf (tOr (tNot (tE (eVar 2))) (tE (eOp dLe (eOp dAddA (eOp dIxS (eOp dIxS (eVar 2) (eUn dNeg (eC (.int 1)))) (eC (.int 0))) (eOp dIxS (eOp dIxS (eVar 2) (eUn dNeg (eC (.int 1)))) (eC (.int 1)))) (eOp dIxS (eVar 3) (eC (.int 0)))))) (sApp 2 (eVar 3)) sNext))
 (sRetV 2)))
noncomputable def D__law_voice:Den:=den 4 B__law_voice
noncomputable abbrev s_law:Stmt:=top 29
noncomputable def T5_law:SF :=
 (sSeq (sSet 6 (eCall D_events [(eVar 5),(eB dList [(eVar 4)])]))
 (sSeq (sIf (tOr (tNot (tE (eUn (dIs .list) (eVar 6)))) (tOr (tE (eOp dNe (eB dLenA [(eVar 6)]) (eB dLenA [(eVar 4)]))) (tE (eOp dNe (eVar 5) (eVar 2))))) (sRet (eC (.bl false))) sNext)
 (sSeq (sFor (iR1 (eB dLenA [(eVar 4)])) (gV 7) (sSeq (sIf (tNot (tE (eUn (dIs .list) (eOp dIxS (eVar 6) (eVar 7))))) (sRet (eC (.bl false))) sNext)
 (sSeq (sFor (iSeq (eOp dIxS (eVar 6) (eVar 7))) (gV 8) (sIf (tNot (tE (eCall D__law_event [(eVar 8)]))) (sRet (eC (.bl false))) sNext))
 (sIf (tE (eOp dNe (eB dSum [(eComp 1 (iSeq (eOp dIxS (eVar 6) (eVar 7))) (gV 9) tTrue (eOp dIxS (eVar 9) (eC (.int 1))))]) (eOp dIxS (eVar 4) (eVar 7)))) (sRet (eC (.bl false))) sNext))))
 (sRet (eOp dEq (eComp 1 (iVc 6) (gV 9) tTrue (eComp 1 (iVc 9) (gV 10) tTrue (eOp dIxS (eVar 10) (eC (.int 1))))) (eCall D__law_cuts [(eVar 2),(eVar 4)]))))))
noncomputable def T4_law:SF :=
 (sSeq (sSet 5 (eB dList [(eVar 2)]))
 T5_law)
noncomputable def T3_law:SF :=
 (sSeq (sSet 4 (eCall D__law_lengths [(eCall D__law_meter [(eVar 0),(eVar 1)]),(eOp dAddA (eVar 3) (eOp dMod (eOp dDiv (eCall D__law_cell [(eVar 0),(eC (.int 0))]) (eC (.int 4))) (eC (.int 2))))]))
 T4_law)
noncomputable def T2_law:SF :=
 (sSeq (sSet 3 (eOp dMaxD (eComp 1 (iVc 2) (gV 9) tTrue (eOp dAddA (eOp dIxS (eVar 9) (eC (.int 0))) (eOp dIxS (eVar 9) (eC (.int 1))))) (eC (.int 0))))
 T3_law)
noncomputable def T1_law:SF :=
 (sSeq (sSet 2 (eCall D__law_voice [(eVar 0),(eVar 1)]))
 T2_law)
noncomputable def B_law:SF :=
 (sSeq (sSet 1 (eCall D__law_wide [(eVar 0)]))
 T1_law)
noncomputable def D_law:Den:=den 9 B_law
noncomputable def cell (ns:List Int) (k:Nat):Int:=ns.getD k 0
theorem cell_eq (ns:List Int) (k:Nat):D__law_cell [.fz (.lst (ns.map D.int)),.fz (.int (k:Int))]=.ok (.fz (.int (cell ns k))):=by
 unfold D__law_cell B__law_cell
 simp only [EV,Nat.reduceAdd,Nat.reduceSub,Nat.reduceLeDiff,ati_nat,List.length_map,cell,List.getD_eq_getElem?_getD]
 by_cases h:(k:Int) < (ns.length:Int)
 ·have h2:k < ns.length:=by (first|lia|omega)
  simp [h,h2,EV,Nat.reduceAdd,Nat.reduceSub,Nat.reduceLeDiff,ati_nat]
 ·have h2:¬ k < ns.length:=by (first|lia|omega)
  simp [h,h2,EV,Nat.reduceAdd,Nat.reduceSub,Nat.reduceLeDiff,ati_nat]
noncomputable def mixN (c p m:Int):Int:=c * 48271 % p % m
theorem mix_eq (c p m:Int) (hp:0 < p) (hm:0 < m):D__law_mix [.fz (.int c),.fz (.int p),.fz (.int m)]=.ok (.fz (.int (mixN c p m))):=by
 unfold D__law_mix B__law_mix
 simp only [EV,Nat.reduceAdd,Nat.reduceSub,Nat.reduceLeDiff,x_mulr (i:=c) (j:=48271) (by decide) (by decide),x_mod hp,x_mod hm,mixN]
theorem mix_lt (c p m:Int) (hm:0 < m):0 ≤ mixN c p m∧mixN c p m < m:=⟨Int.emod_nonneg _ (by (first|lia|omega)),Int.emod_lt_of_pos _ hm⟩
noncomputable def unitsOf (wd:Bool):List Int:=if wd then [4,8,16,32,64] else [1,2,4,8,16,32,64]
noncomputable def leastOf (wd:Bool):Int:=if wd then 64 else 8
noncomputable def mostOf (wd:Bool):Int:=if wd then 512 else 96
noncomputable def unitOf (c:Int) (wd:Bool):Int:=(unitsOf wd).getD (mixN c 10007 (unitsOf wd).length).toNat 1
noncomputable def lowOf (wd:Bool) (u:Int):Int:=(leastOf wd+u - 1) / u
noncomputable def highOf (wd:Bool) (u:Int):Int:=if mostOf wd / u < 24 then mostOf wd / u else 24
noncomputable def topOf (c:Int) (wd:Bool):Int:=lowOf wd (unitOf c wd)+mixN c 9973 (highOf wd (unitOf c wd) - lowOf wd (unitOf c wd)+1)
theorem unit_mem (c:Int) (wd:Bool):unitOf c wd∈unitsOf wd:=by
 unfold unitOf
 have h:=mix_lt c 10007 (unitsOf wd).length (by cases wd <;> decide)
 rw [List.getD_eq_getElem?_getD,List.getElem?_eq_getElem (by (first|lia|omega))]
 exact List.getElem_mem _
theorem unit_ok (wd:Bool):∀ u∈unitsOf wd,0 < u∧u ≤ 64∧0 < lowOf wd u∧lowOf wd u ≤ highOf wd u∧highOf wd u ≤ 24∧leastOf wd ≤ lowOf wd u * u∧highOf wd u * u ≤ mostOf wd:=by
 cases wd <;> decide
theorem top_ok (c:Int) (wd:Bool):lowOf wd (unitOf c wd) ≤ topOf c wd∧topOf c wd ≤ highOf wd (unitOf c wd):=by
 obtain ⟨_,_,h1,h2,_⟩:=unit_ok wd _ (unit_mem c wd)
 have h:=mix_lt c 9973 (highOf wd (unitOf c wd) - lowOf wd (unitOf c wd)+1) (by (first|lia|omega))
 unfold topOf
 (first|lia|omega)
noncomputable def barD (p:Int×Int×Int):D:=.tup [.int p.1,.int p.2.1,.int p.2.2]
theorem ix_list (us:List Int) (dflt:Int) (j:Int) (h0:0 ≤ j) (h1:j < us.length):okD (ati (us.map D.int) j)=.ok (.fz (.int (us.getD j.toNat dflt))):=by
 obtain ⟨n,rfl⟩:=Int.eq_ofNat_of_zero_le h0
 rw [ati_nat,List.getElem?_map,List.getD_eq_getElem?_getD,Int.toNat_natCast,List.getElem?_eq_getElem (by (first|lia|omega))]
 rfl
theorem step_eq (c bar:Int) (wd:Bool):D__law_step [.fz (.int c),.fz (.int bar),.fz (.bl wd)]=.ok (.fz (barD (bar,topOf c wd,unitOf c wd))):=by
 have hu:=unit_mem c wd
 obtain ⟨u1,u2,h1,h2,h3,_⟩:=unit_ok wd _ hu
 have hm:=mix_lt c 10007 (unitsOf wd).length (by cases wd <;> decide)
 have mx:=mix_eq c 9973 (highOf wd (unitOf c wd) - lowOf wd (unitOf c wd)+1) (by decide) (by (first|lia|omega))
 have ix:=ix_list (unitsOf wd) 1 _ hm.1 hm.2
 have mx2:=mix_eq c 10007 (unitsOf wd).length (by decide) (by cases wd <;> decide)
 have d1:=x_div (i:=leastOf wd+unitOf c wd - 1) u1 (by (first|lia|omega))
 have d2:=x_div (i:=mostOf wd) u1 (by (first|lia|omega))
 rw [show (unitsOf wd).getD (mixN c 10007 (unitsOf wd).length).toNat 1=unitOf c wd from rfl] at ix
 unfold D__law_step B__law_step
 cases wd
 ·simp only [unitsOf,leastOf,mostOf,if_false,Bool.false_eq_true,List.map_cons,List.map_nil,List.length_cons,List.length_nil,Nat.reduceAdd,Nat.zero_add,Int.cast_ofNat_Int] at ix mx2 d1 d2
  simp only [EV,Nat.reduceAdd,Nat.reduceSub,Nat.reduceLeDiff,mx2,ix,d1,d2]
  rw [show ((8:Int)+unitOf c false - 1) / unitOf c false=lowOf false (unitOf c false) from rfl,show (if (96:Int) / unitOf c false < 24 then 96 / unitOf c false else 24)=highOf false (unitOf c false) from rfl]
  simp only [EV,Nat.reduceAdd,Nat.reduceSub,Nat.reduceLeDiff,mx,barD,topOf]
 ·simp only [unitsOf,leastOf,mostOf,if_true,List.map_cons,List.map_nil,List.length_cons,List.length_nil,Nat.reduceAdd,Nat.zero_add,Int.cast_ofNat_Int] at ix mx2 d1 d2
  simp only [EV,Nat.reduceAdd,Nat.reduceSub,Nat.reduceLeDiff,mx2,ix,d1,d2]
  rw [show ((64:Int)+unitOf c true - 1) / unitOf c true=lowOf true (unitOf c true) from rfl,show (if (512:Int) / unitOf c true < 24 then 512 / unitOf c true else 24)=highOf true (unitOf c true) from rfl]
  simp only [EV,Nat.reduceAdd,Nat.reduceSub,Nat.reduceLeDiff,mx,barD,topOf]
noncomputable def mcell (ns:List Int) (k:Nat):Int:=cell ns 1+7 * cell ns (2+k)
noncomputable def mbar (ns:List Int):Nat→Int
 | 0=>0
 | k+1=>mbar ns k+1+mixN (mcell ns k) 9967 3
noncomputable def mtup (ns:List Int) (wd:Bool) (k:Nat):Int×Int×Int:=(mbar ns k,topOf (mcell ns k) wd,unitOf (mcell ns k) wd)
noncomputable def mmany (ns:List Int):Nat:=(1+cell ns 1 % 3).toNat
noncomputable def meterOf (ns:List Int) (wd:Bool):List (Int×Int×Int):=(List.range (mmany ns)).map (mtup ns wd)
theorem mmany_ok (ns:List Int):1 ≤ mmany ns∧mmany ns ≤ 3∧((mmany ns:Nat):Int)=1+cell ns 1 % 3:=by
 have h0:=Int.emod_nonneg (cell ns 1) (show (3:Int)≠0 by decide)
 have h1:=Int.emod_lt_of_pos (cell ns 1) (show (0:Int) < 3 by decide)
 unfold mmany
 (first|lia|omega)
theorem meter_eq (ns:List Int) (wd:Bool):D__law_meter [.fz (.lst (ns.map D.int)),.fz (.bl wd)]=.ok (.ow (.lst ((meterOf ns wd).map barD))):=by
 obtain ⟨m1,m2,m3⟩:=mmany_ok ns
 have c1:=cell_eq ns 1
 have hz:sz=16777216:=rfl
 unfold D__law_meter B__law_meter
 simp only [EV,Nat.reduceAdd,Nat.reduceSub,Nat.reduceLeDiff]
 rw [show ((1:Nat):Int)=1 from rfl] at c1
 rw [x_iR1 (n:=mmany ns) (by simp only [EV,Nat.reduceAdd,Nat.reduceSub,Nat.reduceLeDiff,c1,x_mod (j:=3) (by decide),m3]) (by (first|lia|omega))]
 simp only [EV,Nat.reduceAdd,Nat.reduceSub,Nat.reduceLeDiff]
 obtain ⟨ρ',e,j4,j5,hI⟩:=rng_nx (mmany ns) (fun k ρ=>∃ j4 j5,ρ=[some (.fz (.lst (ns.map D.int))),some (.fz (.bl wd)),some (.ow (.lst (((List.range k).map (mtup ns wd)).map barD))),some (.fz (.int (mbar ns k))),j4,j5])
  (g:=gV 4) (b:=sSeq (sSet 5 (eOp dAddA (eCall D__law_cell [(eVar 0),(eC (.int 1))]) (eOp dMul (eC (.int 7)) (eCall D__law_cell [(eVar 0),(eOp dAddA (eC (.int 2)) (eVar 4))]))))
   (sSeq (sApp 2 (eCall D__law_step [(eVar 5),(eVar 3),(eVar 1)])) (sSet 3 (eOp dAddA (eOp dAddA (eVar 3) (eC (.int 1))) (eCall D__law_mix [(eVar 5),(eC (.int 9967)),(eC (.int 3))])))))
  (ρ:=[some (.fz (.lst (ns.map D.int))),some (.fz (.bl wd)),some (.ow (.lst [])),some (.fz (.int 0)),none,none]) ⟨none,none,rfl⟩ (fun k ρ hk ⟨j4,j5,hρ⟩=>by
   subst hρ
   refine ⟨_,_,rfl,.inl ?_,some (.fz (.int k)),some (.fz (.int (mcell ns k))),rfl⟩
   have c2:=cell_eq ns (2+k)
   rw [show ((2+k:Nat):Int)=2+(k:Int) by (first|lia|omega)] at c2
   have mx:=mix_eq (mcell ns k) 9967 3 (by decide) (by decide)
   have stp:=step_eq (mcell ns k) (mbar ns k) wd
   simp only [EV,Nat.reduceAdd,Nat.reduceSub,Nat.reduceLeDiff,c1,c2,x_mull (i:=7) (by decide) (by decide)]
   rw [show cell ns 1+7 * cell ns (2+k)=mcell ns k from rfl]
   rw [x_app (xs:=((List.range k).map (mtup ns wd)).map barD) (d:=barD (mtup ns wd k)) rfl (by simp; (first|lia|omega)) (by simp only [EV,Nat.reduceAdd,Nat.reduceSub,Nat.reduceLeDiff,stp]; rfl)]
   simp only [EV,Nat.reduceAdd,Nat.reduceSub,Nat.reduceLeDiff,mx]
   simp [List.range_succ,mbar])
 rw [e]
 subst hI
 simp only [EV,Nat.reduceAdd,Nat.reduceSub,Nat.reduceLeDiff]
 rfl
noncomputable def lenOf (p:Int×Int×Int):Int:=p.2.1 * p.2.2
noncomputable def Fine (ms:List (Int×Int×Int)):Prop:=ms.Pairwise (fun p q=>p.1 < q.1)∧(∀ p∈ms,0 ≤ p.1∧0 ≤ p.2.1∧p.2.1 ≤ 24)∧(∃ p∈ms,p.1=0)∧ms.length ≤ 20
noncomputable def dueL (ms:List (Int×Int×Int)) (b:Int):List Int:=(ms.filter fun p=>decide (p.1 ≤ b)).map lenOf
noncomputable def dueV (ms:List (Int×Int×Int)) (b:Int):Int:=(dueL ms b).getLast?.getD 0
noncomputable def pD (b:Int):D→Bool
 | .tup (.int q::_)=>decide (q ≤ b)
 | _=>false
noncomputable def fD:D→D
 | .tup [_,.int t,.int u]=>.int (t * u)
 | _=>.non
theorem comp_due (ms:List (Int×Int×Int)) (b:Int):((ms.map barD).filter (pD b)).map fD=(dueL ms b).map D.int:=by
 unfold dueL
 induction ms with
 | nil=>rfl
 | cons p r ih =>
  by_cases c:p.1 ≤ b
  ·rw [List.map_cons,List.filter_cons_of_pos (by simpa [barD,pD] using c),List.filter_cons_of_pos (by simpa using c),List.map_cons,ih]
   rfl
  ·rw [List.map_cons,List.filter_cons_of_neg (by simpa [barD,pD] using c),List.filter_cons_of_neg (by simpa using c),ih]
theorem mbar_lt (ns:List Int) {i j:Nat} (h:i < j):mbar ns i < mbar ns j:=by
 induction j with
 | zero=>(first|lia|omega)
 | succ j ih =>
  have:=mix_lt (mcell ns j) 9967 3 (by decide)
  have e:mbar ns (j+1)=mbar ns j+1+mixN (mcell ns j) 9967 3:=rfl
  by_cases c:i=j
  ·subst c; (first|lia|omega)
  ·have:=ih (by (first|lia|omega)); (first|lia|omega)
theorem meter_fine (ns:List Int) (wd:Bool):Fine (meterOf ns wd):=by
 obtain ⟨m1,m2,_⟩:=mmany_ok ns
 refine ⟨?_,fun p hp=>?_,⟨mtup ns wd 0,List.mem_map.mpr ⟨0,by simp; (first|lia|omega),rfl⟩,rfl⟩,by simp [meterOf]; (first|lia|omega)⟩
 ·unfold meterOf
  rw [List.pairwise_map]
  exact List.pairwise_lt_range.imp fun h=>mbar_lt ns h
 ·obtain ⟨k,_,rfl⟩:=List.mem_map.mp hp
  have h1:=top_ok (mcell ns k) wd
  have h2:=unit_ok wd _ (unit_mem (mcell ns k) wd)
  refine ⟨?_,?_,?_⟩
  ·show 0 ≤ mbar ns k
   cases k with
   | zero=>exact Int.le_refl _
   | succ k=>exact Int.le_of_lt (mbar_lt ns (Nat.succ_pos k))
  ·show 0 ≤ topOf (mcell ns k) wd
   (first|lia|omega)
  ·show topOf (mcell ns k) wd ≤ 24
   (first|lia|omega)
theorem due_last {ms:List (Int×Int×Int)} (f:Fine ms) (i:Nat):(dueL ms i).getLast?=some (dueV ms i):=by
 obtain ⟨p,hp,hp0⟩:=f.2.2.1
 have ne:dueL ms i≠[]:=fun z=>by
  have:lenOf p∈dueL ms i:=List.mem_map.mpr ⟨p,List.mem_filter.mpr ⟨hp,by simp; (first|lia|omega)⟩,rfl⟩
  rw [z] at this
  simp at this
 unfold dueV
 cases h:(dueL ms i).getLast? with
 | none=>exact absurd (List.getLast?_eq_none_iff.mp h) ne
 | some v=>rfl
noncomputable def Lens (ms:List (Int×Int×Int)):Prop:=∀ p∈ms,8 ≤ lenOf p∧lenOf p ≤ 512∧p.1 ≤ 1000
theorem due_mem {ms:List (Int×Int×Int)} (f:Fine ms) (i:Nat):∃ p∈ms,dueV ms i=lenOf p:=by
 have h:=List.mem_of_getLast? (due_last f i)
 obtain ⟨p,hp,e⟩:=List.mem_map.mp h
 exact ⟨p,(List.mem_filter.mp hp).1,e.symm⟩
theorem due_pos {ms:List (Int×Int×Int)} (f:Fine ms) (l:Lens ms) (i:Nat):8 ≤ dueV ms i∧dueV ms i ≤ 512:=by
 obtain ⟨p,hp,e⟩:=due_mem f i
 have:=l p hp
 (first|lia|omega)
noncomputable def aheadV (ms:List (Int×Int×Int)) (b:Nat):Int:=((List.range b).map fun k:Nat=>dueV ms k).sum
theorem ahead_zero (ms:List (Int×Int×Int)):aheadV ms 0=0:=rfl
theorem ahead_succ (ms:List (Int×Int×Int)) (b:Nat):aheadV ms (b+1)=aheadV ms b+dueV ms b:=by
 unfold aheadV
 rw [List.range_succ,List.map_append,List.sum_append]
 simp
theorem ahead_mono {ms:List (Int×Int×Int)} (f:Fine ms) (l:Lens ms) (a k:Nat):aheadV ms a+8 * k ≤ aheadV ms (a+k):=by
 induction k with
 | zero=>simp
 | succ k ih =>
  have:=due_pos f l (a+k)
  rw [show a+(k+1)=a+k+1 from rfl,ahead_succ]
  (first|lia|omega)
theorem len_meter (ns:List Int) (wd:Bool):Lens (meterOf ns wd):=fun p hp=>by
 obtain ⟨m1,m2,_⟩:=mmany_ok ns
 obtain ⟨k,hk,rfl⟩:=List.mem_map.mp hp
 have hk:=List.mem_range.mp hk
 have h1:=top_ok (mcell ns k) wd
 obtain ⟨u1,u2,u3,u4,u5,u6,u7⟩:=unit_ok wd _ (unit_mem (mcell ns k) wd)
 have lo:=Int.mul_le_mul_of_nonneg_right h1.1 (Int.le_of_lt u1)
 have hi:=Int.mul_le_mul_of_nonneg_right h1.2 (Int.le_of_lt u1)
 have hb:∀ j:Nat,mbar ns j ≤ 3 * j:=fun j=>by
  induction j with
  | zero=>simp [mbar]
  | succ j ih =>
   have:=mix_lt (mcell ns j) 9967 3 (by decide)
   show mbar ns j+1+mixN (mcell ns j) 9967 3 ≤ _
   (first|lia|omega)
 have hb:=hb k
 have w8:(8:Int) ≤ leastOf wd∧mostOf wd ≤ 512:=by cases wd <;> decide
 refine ⟨?_,?_,?_⟩
 ·show 8 ≤ topOf (mcell ns k) wd * unitOf (mcell ns k) wd
  (first|lia|omega)
 ·show topOf (mcell ns k) wd * unitOf (mcell ns k) wd ≤ 512
  (first|lia|omega)
 ·show mbar ns k ≤ 1000
  (first|lia|omega)
theorem intsOf_map:∀ ns:List Int,intsOf (ns.map D.int)=some ns
 | []=>rfl
 | n::ns=>by
  show (match intsOf (ns.map D.int) with|some l=>some (n::l)|none=>none)=_
  rw [intsOf_map ns]
theorem x_sum (ns:List Int):dSum [.lst (ns.map D.int)]=.ok (.fz (.int ns.sum)):=by
 unfold dSum
 dsimp only
 rw [intsOf_map]
noncomputable abbrev Nt:=Int×Int×Int
noncomputable def ntR (n:Nt):List Int:=[n.1,n.2.1,n.2.2]
noncomputable def ntD (n:Nt):D:=.tup [.int n.1,.int n.2.1,.int n.2.2]
theorem last_ntD (ns:List Nt) (q:Nt) (h:ns.getLast?=some q):okD (ati (ns.map ntD) (-1))=.ok (.fz (ntD q)):=by
 rw [ati_last,List.getLast?_map,h]; rfl
noncomputable def nS (c:Int) (wd:Bool):Int:=if wd then mixN c 10007 1001 else mixN c 10007 97
noncomputable def nL (c:Int) (wd:Bool):Int:=1+if wd then mixN c 9973 400 else mixN c 9973 48
noncomputable def nP (c:Int) (wd:Bool):Int:=if wd then mixN c 9967 128 else 52+mixN c 9967 25
noncomputable def nLast (wd:Bool):Int:=if wd then 1000 else 96
noncomputable def noteOf (c:Int) (ns:List Nt) (wd:Bool):Nt:=match ns.getLast? with
 | none=>(nS c wd,nL c wd,nP c wd)
 | some q=>if mixN c 9949 4=0 then (q.1,q.2.1,nP c wd)
  else if mixN c 9949 4=1∧q.1+q.2.1 ≤ nLast wd then (q.1+q.2.1,nL c wd,if mixN c 9941 2=0 then q.2.2 else nP c wd)
  else (nS c wd,nL c wd,nP c wd)
theorem note_eq (c:Int) (ns:List Nt) (wd:Bool):D__law_note [.fz (.int c),.br (.lst (ns.map ntD)),.fz (.bl wd)]=.ok (.fz (ntD (noteOf c ns wd))):=by
 have m1:=mix_eq c 10007 97 (by decide) (by decide)
 have m2:=mix_eq c 9973 48 (by decide) (by decide)
 have m3:=mix_eq c 9967 25 (by decide) (by decide)
 have m4:=mix_eq c 10007 1001 (by decide) (by decide)
 have m5:=mix_eq c 9973 400 (by decide) (by decide)
 have m6:=mix_eq c 9967 128 (by decide) (by decide)
 have m7:=mix_eq c 9949 4 (by decide) (by decide)
 have m8:=mix_eq c 9941 2 (by decide) (by decide)
 have fin_:∀ (S L P La:Int),nS c wd=S→nL c wd=L→nP c wd=P→nLast wd=La →
   fin (sSeq (sIf (L3.tAnd (tE (eVar 1)) (tE (eOp dEq (eVar 7) (eC (.int 0))))) (sSeq (sSet 3 (eOp dIxS (eOp dIxS (eVar 1) (eUn dNeg (eC (.int 1)))) (eC (.int 0)))) (sSet 4 (eOp dIxS (eOp dIxS (eVar 1) (eUn dNeg (eC (.int 1)))) (eC (.int 1))))) sNext)
    (sSeq (sIf (L3.tAnd (tE (eVar 1)) (L3.tAnd (tE (eOp dEq (eVar 7) (eC (.int 1)))) (tE (eOp dLe (eOp dAddA (eOp dIxS (eOp dIxS (eVar 1) (eUn dNeg (eC (.int 1)))) (eC (.int 0))) (eOp dIxS (eOp dIxS (eVar 1) (eUn dNeg (eC (.int 1)))) (eC (.int 1)))) (eVar 6))))) (sSeq (sSet 3 (eOp dAddA (eOp dIxS (eOp dIxS (eVar 1) (eUn dNeg (eC (.int 1)))) (eC (.int 0))) (eOp dIxS (eOp dIxS (eVar 1) (eUn dNeg (eC (.int 1)))) (eC (.int 1)))))
     (sIf (tE (eOp dEq (eCall D__law_mix [(eVar 0),(eC (.int 9941)),(eC (.int 2))]) (eC (.int 0)))) (sSet 5 (eOp dIxS (eOp dIxS (eVar 1) (eUn dNeg (eC (.int 1)))) (eC (.int 2)))) sNext)) sNext)
    (sRet (eTup [(eVar 3),(eVar 4),(eVar 5)])))
    [some (.fz (.int c)),some (.br (.lst (ns.map ntD))),some (.fz (.bl wd)),some (.fz (.int S)),some (.fz (.int L)),some (.fz (.int P)),some (.fz (.int La)),some (.fz (.int (mixN c 9949 4)))])=.ok (.fz (ntD (noteOf c ns wd))):=by
  intro S L P La hS hL hP hLa
  unfold noteOf
  rw [hS,hL,hP,hLa]
  cases hq:ns.getLast? with
  | none =>
   have hn:ns=[]:=List.getLast?_eq_none_iff.mp hq
   subst hn
   simp only [EV,Nat.reduceAdd,Nat.reduceSub,Nat.reduceLeDiff,List.isEmpty_nil,ntD]
  | some q =>
   have hn:(ns.map ntD).isEmpty=false:=by
    cases ns with
    | nil=>simp at hq
    | cons a b=>rfl
   have lq:=last_ntD ns q hq
   dsimp only
   by_cases c0:mixN c 9949 4=0
   ·have b0:(mixN c 9949 4 == 0)=true:=by simpa using c0
    have b1:(mixN c 9949 4 == 1)=false:=by rw [c0]; rfl
    rw [if_pos c0]
    simp only [EV,Nat.reduceAdd,Nat.reduceSub,Nat.reduceLeDiff,hn,b0,Int.reduceNeg,lq,ntD,b1]
   ·have b0:(mixN c 9949 4 == 0)=false:=by simpa using c0
    rw [if_neg c0]
    by_cases c1:mixN c 9949 4=1
    ·have b1:(mixN c 9949 4 == 1)=true:=by simpa using c1
     by_cases c2:q.1+q.2.1 ≤ La
     ·rw [if_pos ⟨c1,c2⟩]
      have d2:decide (q.1+q.2.1 ≤ La)=true:=by simpa using c2
      by_cases c3:mixN c 9941 2=0
      ·have b3:(mixN c 9941 2 == 0)=true:=by simpa using c3
       rw [if_pos c3]
       simp only [EV,Nat.reduceAdd,Nat.reduceSub,Nat.reduceLeDiff,hn,b0,Int.reduceNeg,lq,ntD,b1,d2,m8,b3]
      ·have b3:(mixN c 9941 2 == 0)=false:=by simpa using c3
       rw [if_neg c3]
       simp only [EV,Nat.reduceAdd,Nat.reduceSub,Nat.reduceLeDiff,hn,b0,Int.reduceNeg,lq,ntD,b1,d2,m8,b3]
     ·rw [if_neg (fun z=>c2 z.2)]
      have d2:decide (q.1+q.2.1 ≤ La)=false:=by simpa using c2
      simp only [EV,Nat.reduceAdd,Nat.reduceSub,Nat.reduceLeDiff,hn,b0,Int.reduceNeg,lq,ntD,b1,d2]
    ·rw [if_neg (fun z=>c1 z.1)]
     have b1:(mixN c 9949 4 == 1)=false:=by simpa using c1
     simp only [EV,Nat.reduceAdd,Nat.reduceSub,Nat.reduceLeDiff,hn,b0,Int.reduceNeg,lq,ntD,b1]
 unfold D__law_note B__law_note
 cases wd
 ·have:=fin_ (mixN c 10007 97) (1+mixN c 9973 48) (52+mixN c 9967 25) 96 rfl rfl rfl rfl
  simp only [EV,Nat.reduceAdd,Nat.reduceSub,Nat.reduceLeDiff,m1,m2,m3,m7]
  simpa only [EV,Nat.reduceAdd,Nat.reduceSub,Nat.reduceLeDiff] using this
 ·have:=fin_ (mixN c 10007 1001) (1+mixN c 9973 400) (mixN c 9967 128) 1000 rfl rfl rfl rfl
  simp only [EV,Nat.reduceAdd,Nat.reduceSub,Nat.reduceLeDiff,m1,m2,m3,m4,m5,m6,m7]
  simpa only [EV,Nat.reduceAdd,Nat.reduceSub,Nat.reduceLeDiff] using this
noncomputable def hits (n o:Nt):Bool:=n.2.2 == o.2.2 && (decide (n.1 < o.1+o.2.1) && decide (o.1 < n.1+n.2.1))
noncomputable def apartB (n:Nt) (ns:List Nt):Bool:=ns.all fun o=>!hits n o
theorem apart_eq (n:Nt) (ns:List Nt):D__law_apart [.fz (ntD n),.br (.lst (ns.map ntD))]=.ok (.fz (.bl (apartB n ns))):=by
 unfold D__law_apart B__law_apart
 simp only [EV,Nat.reduceAdd,Nat.reduceSub,Nat.reduceLeDiff]
 rw [x_iV_br (ds:=ns.map ntD) rfl]
 simp only [EV,Nat.reduceAdd,Nat.reduceSub,Nat.reduceLeDiff]
 have go:∀ (os:List Nt) (j2:Option En),fin ((forD (gV 2) (sIf (L3.tAnd (tE (eOp dEq (eOp dIxS (eVar 0) (eC (.int 2))) (eOp dIxS (eVar 2) (eC (.int 2))))) (L3.tAnd (tE (eOp dLt (eOp dIxS (eVar 0) (eC (.int 0))) (eOp dAddA (eOp dIxS (eVar 2) (eC (.int 0))) (eOp dIxS (eVar 2) (eC (.int 1)))))) (tE (eOp dLt (eOp dIxS (eVar 2) (eC (.int 0))) (eOp dAddA (eOp dIxS (eVar 0) (eC (.int 0))) (eOp dIxS (eVar 0) (eC (.int 1)))))))) (sRet (eC (.bl false))) sNext) (os.map ntD)
   [some (.fz (ntD n)),some (.br (.lst (ns.map ntD))),j2]).th (sRet (eC (.bl true))))=.ok (.fz (.bl (apartB n os))):=by
  intro os
  induction os with
  | nil=>intro j2; rfl
  | cons o os ih =>
   intro j2
   rw [List.map_cons]
   unfold forD
   simp only [EV,Nat.reduceAdd,Nat.reduceSub,Nat.reduceLeDiff,ntD]
   have e:apartB n (o::os)=(!hits n o && apartB n os):=rfl
   rw [e]
   unfold hits
   cases h1:(n.2.2 == o.2.2)
   ·simp only [EV,Nat.reduceAdd,Nat.reduceSub,Nat.reduceLeDiff,Bool.false_and,Bool.true_and]
    exact ih _
   ·cases h2:decide (n.1 < o.1+o.2.1)
    ·simp only [EV,Nat.reduceAdd,Nat.reduceSub,Nat.reduceLeDiff,Bool.false_and,Bool.true_and,h2]
     exact ih _
    ·cases h3:decide (o.1 < n.1+n.2.1)
     ·simp only [EV,Nat.reduceAdd,Nat.reduceSub,Nat.reduceLeDiff,Bool.true_and,h2,h3]
      exact ih _
     ·simp only [EV,Nat.reduceAdd,Nat.reduceSub,Nat.reduceLeDiff,Bool.true_and,Bool.false_and,h2,h3]
 exact go ns none
noncomputable def meet (n o:Nt):Bool:=decide (o.1 < n.1+n.2.1) && decide (n.1 < o.1+o.2.1) && !(o.1 == n.1 && o.2.1 == n.2.1)
noncomputable def spanK (o:Nt):List (Sum Int Str):=[.inl o.1,.inl o.2.1]
noncomputable def seen (n:Nt):List Nt→List (List (Sum Int Str)×D)→List (List (Sum Int Str)×D)
 | [],acc=>acc
 | o::os,acc=>seen n os (if meet n o then putM (spanK o) (.bl true) acc else acc)
theorem putM_len {κ:Type} [DecidableEq κ] (k:κ) (d:D) (kvs:List (κ×D)):(putM k d kvs).length ≤ kvs.length+1:=by
 unfold putM
 split
 ·simp
 ·simp
noncomputable def meetsN (n:Nt) (ns:List Nt):Nat:=(seen n ns []).length
theorem meets_eq (n:Nt) (ns:List Nt) (hl:ns.length ≤ 100):D__law_meets [.fz (ntD n),.br (.lst (ns.map ntD))]=.ok (.fz (.int (meetsN n ns))):=by
 have hz:sz=16777216:=rfl
 unfold D__law_meets B__law_meets
 simp only [EV,Nat.reduceAdd,Nat.reduceSub,Nat.reduceLeDiff]
 rw [x_iV_br (ds:=ns.map ntD) rfl]
 simp only [EV,Nat.reduceAdd,Nat.reduceSub,Nat.reduceLeDiff]
 have go:∀ (os:List Nt) (acc:List (List (Sum Int Str)×D)) (j3:Option En),acc.length+os.length ≤ 100→fin ((forD (gV 3) (sIf (L3.tAnd (tE (eOp dLt (eOp dIxS (eVar 3) (eC (.int 0))) (eOp dAddA (eOp dIxS (eVar 0) (eC (.int 0))) (eOp dIxS (eVar 0) (eC (.int 1)))))) (tE (eOp dLt (eOp dIxS (eVar 0) (eC (.int 0))) (eOp dAddA (eOp dIxS (eVar 3) (eC (.int 0))) (eOp dIxS (eVar 3) (eC (.int 1))))))) (sIf (tE (eOp dNe (eTup [(eOp dIxS (eVar 3) (eC (.int 0))),(eOp dIxS (eVar 3) (eC (.int 1)))]) (eTup [(eOp dIxS (eVar 0) (eC (.int 0))),(eOp dIxS (eVar 0) (eC (.int 1)))]))) (sPutT 2 [(eOp dIxS (eVar 3) (eC (.int 0))),(eOp dIxS (eVar 3) (eC (.int 1)))] (eC (.bl true))) sNext) sNext) (os.map ntD)
   [some (.fz (ntD n)),some (.br (.lst (ns.map ntD))),some (.ow (.dT acc)),j3]).th (sRet (eB dLenA [(eVar 2)])))=.ok (.fz (.int (seen n os acc).length)):=by
  intro os
  induction os with
  | nil=>intro acc j3 _; rfl
  | cons o os ih =>
   intro acc j3 hb
   rw [List.length_cons] at hb
   rw [List.map_cons]
   unfold forD seen
   simp only [EV,Nat.reduceAdd,Nat.reduceSub,Nat.reduceLeDiff,ntD]
   unfold meet
   have keep:=ih acc (some (.fz (ntD o))) (by (first|lia|omega))
   cases h1:decide (o.1 < n.1+n.2.1)
   ·simp only [EV,Nat.reduceAdd,Nat.reduceSub,Nat.reduceLeDiff,Bool.false_and,Bool.false_eq_true,if_false]
    exact keep
   ·cases h2:decide (n.1 < o.1+o.2.1)
    ·simp only [EV,Nat.reduceAdd,Nat.reduceSub,Nat.reduceLeDiff,Bool.false_and,Bool.true_and,Bool.and_false,Bool.false_eq_true,if_false,h2]
     exact keep
    ·cases h3:(!(o.1 == n.1 && o.2.1 == n.2.1))
     ·simp only [EV,Nat.reduceAdd,Nat.reduceSub,Nat.reduceLeDiff,Bool.true_and,Bool.and_true,Bool.false_eq_true,if_false,h2,h3]
      exact keep
     ·simp only [EV,Nat.reduceAdd,Nat.reduceSub,Nat.reduceLeDiff,Bool.true_and,Bool.and_true,if_true,h2,h3]
      rw [x_putT (kvs:=acc) (d:=.bl true) (ws:=[.fz (.int o.1),.fz (.int o.2.1)]) (key:=spanK o) rfl rfl (by simp only [EV,Nat.reduceAdd,Nat.reduceSub,Nat.reduceLeDiff]) rfl (by (first|lia|omega)) (by show 2 ≤ sz; (first|lia|omega))]
      have:=putM_len (spanK o) (.bl true) acc
      exact ih _ _ (by (first|lia|omega))
 exact go ns [] none (by simpa using hl)
noncomputable def addNote (wd:Bool) (ns:List Nt) (c:Int):List Nt:=if apartB (noteOf c ns wd) ns && decide (meetsN (noteOf c ns wd) ns ≤ 7) then ns++[noteOf c ns wd] else ns
noncomputable def notesGo (wd:Bool):List Int→List Nt→List Nt
 | [],ns=>ns
 | c::cs,ns=>notesGo wd cs (addNote wd ns c)
noncomputable def mostN (ns:List Int):Nat:=if mixN (cell ns 0+7 * (ns.length:Int)) 9871 8=3 then 24 else 12
noncomputable def notesOf (ns:List Int) (wd:Bool):List Nt:=notesGo wd ((ns.drop 6).take (mostN ns)) []
theorem addNote_len (wd:Bool) (ns:List Nt) (c:Int):(addNote wd ns c).length ≤ ns.length+1:=by
 unfold addNote
 split
 ·simp
 ·simp
theorem large_eq (ns:List Int) (hl:ns.length ≤ 63):D__law_large [.fz (.lst (ns.map D.int))]=.ok (.fz (.bl (mixN (cell ns 0+7 * (ns.length:Int)) 9871 8 == 3))):=by
 have c0:=cell_eq ns 0
 rw [show ((0:Nat):Int)=0 from rfl] at c0
 have mx:=mix_eq (cell ns 0+7 * (ns.length:Int)) 9871 8 (by decide) (by decide)
 unfold D__law_large B__law_large
 simp only [EV,Nat.reduceAdd,Nat.reduceSub,Nat.reduceLeDiff,c0,List.length_map,x_mull (i:=7) (by decide) (by decide),mx]
theorem notes_eq (ns:List Int) (hl:ns.length ≤ 63) (wd:Bool):D__law_notes [.fz (.lst (ns.map D.int)),.fz (.bl wd)]=.ok (.ow (.lst ((notesOf ns wd).map ntD))):=by
 have hz:sz=16777216:=rfl
 have lg:=large_eq ns hl
 have d63:decide ((63:Int) < (ns.length:Int))=false:=by simp; (first|lia|omega)
 have go:∀ (cs:List Int) (acc:List Nt) (most:Int) (j4 j5:Option En),acc.length+cs.length ≤ 24 →
   fin ((forD (gV 4) (sSeq (sSet 5 (eCall D__law_note [(eVar 4),(eVar 3),(eVar 1)])) (sIf (L3.tAnd (tE (eCall D__law_apart [(eVar 5),(eVar 3)])) (tE (eOp dLe (eCall D__law_meets [(eVar 5),(eVar 3)]) (eC (.int 7))))) (sApp 3 (eVar 5)) sNext)) (cs.map D.int)
    [some (.fz (.lst (ns.map D.int))),some (.fz (.bl wd)),some (.fz (.int most)),some (.ow (.lst (acc.map ntD))),j4,j5]).th (sRetV 3))=.ok (.ow (.lst ((notesGo wd cs acc).map ntD))):=by
  intro cs
  induction cs with
  | nil=>intro acc most j4 j5 _; rfl
  | cons c cs ih =>
   intro acc most j4 j5 hb
   rw [List.length_cons] at hb
   rw [List.map_cons]
   unfold forD notesGo
   have ne:=note_eq c acc wd
   have ae:=apart_eq (noteOf c acc wd) acc
   have me:=meets_eq (noteOf c acc wd) acc (by (first|lia|omega))
   simp only [EV,Nat.reduceAdd,Nat.reduceSub,Nat.reduceLeDiff,ne,ae]
   unfold addNote
   cases h1:apartB (noteOf c acc wd) acc
   ·simp only [EV,Nat.reduceAdd,Nat.reduceSub,Nat.reduceLeDiff,Bool.false_and,Bool.false_eq_true,if_false]
    exact ih acc most _ _ (by (first|lia|omega))
   ·simp only [EV,Nat.reduceAdd,Nat.reduceSub,Nat.reduceLeDiff,me,Bool.true_and]
    have e7:decide (((meetsN (noteOf c acc wd) acc:Nat):Int) ≤ 7)=decide (meetsN (noteOf c acc wd) acc ≤ 7):=by
     congr 1
     apply propext
     (first|lia|omega)
    rw [e7]
    cases h2:decide (meetsN (noteOf c acc wd) acc ≤ 7)
    ·simp only [EV,Nat.reduceAdd,Nat.reduceSub,Nat.reduceLeDiff,Bool.false_eq_true,if_false]
     exact ih acc most _ _ (by (first|lia|omega))
    ·simp only [EV,Nat.reduceAdd,Nat.reduceSub,Nat.reduceLeDiff]
     rw [x_app (xs:=acc.map ntD) (d:=ntD (noteOf c acc wd)) rfl (by rw [List.length_map]; (first|lia|omega)) (by simp only [EV,Nat.reduceAdd,Nat.reduceSub,Nat.reduceLeDiff])]
     have:=ih (acc++[noteOf c acc wd]) most (some (.fz (.int c))) (some (.fz (ntD (noteOf c acc wd)))) (by rw [List.length_append]; simp; (first|lia|omega))
     rw [List.map_append] at this
     exact this
 have cut:∀ m:Nat,m ≤ 24→cutD (ns.map D.int) (some 6) (some (6+(m:Int)))=((ns.drop 6).take m).map D.int:=fun m hm=>by
  have:=cutD_mid (ns.map D.int) 6 m
  rw [show (((6:Nat):Int))=6 from rfl] at this
  rw [this,← List.map_drop,← List.map_take]
 unfold D__law_notes B__law_notes notesOf mostN
 simp only [EV,Nat.reduceAdd,Nat.reduceSub,Nat.reduceLeDiff,lg]
 have len:∀ m:Nat,m ≤ 24→([]:List Nt).length+((ns.drop 6).take m).length ≤ 24:=fun m hm=>by simp; (first|lia|omega)
 by_cases c:mixN (cell ns 0+7 * (ns.length:Int)) 9871 8=3
 ·have b:(mixN (cell ns 0+7 * (ns.length:Int)) 9871 8 == 3)=true:=by simpa using c
  rw [if_pos c]
  simp only [EV,Nat.reduceAdd,Nat.reduceSub,Nat.reduceLeDiff,b,List.length_map,d63]
  rw [x_iSeq (w:=.ow (.lst (cutD (ns.map D.int) (some 6) (some (6+((24:Nat):Int)))))) (by simp only [EV,Nat.reduceAdd,Nat.reduceSub,Nat.reduceLeDiff]) rfl,cut 24 (by decide)]
  simp only [EV,Nat.reduceAdd,Nat.reduceSub,Nat.reduceLeDiff]
  exact go _ [] 24 none none (len 24 (by decide))
 ·have b:(mixN (cell ns 0+7 * (ns.length:Int)) 9871 8 == 3)=false:=by simpa using c
  rw [if_neg c]
  simp only [EV,Nat.reduceAdd,Nat.reduceSub,Nat.reduceLeDiff,b,List.length_map,d63]
  rw [x_iSeq (w:=.ow (.lst (cutD (ns.map D.int) (some 6) (some (6+((12:Nat):Int)))))) (by simp only [EV,Nat.reduceAdd,Nat.reduceSub,Nat.reduceLeDiff]) rfl,cut 12 (by decide)]
  simp only [EV,Nat.reduceAdd,Nat.reduceSub,Nat.reduceLeDiff]
  exact go _ [] 12 none none (len 12 (by decide))
theorem wide_eq (ns:List Int):D__law_wide [.fz (.lst (ns.map D.int))]=.ok (.fz (.bl (cell ns 0 % 4 == 3))):=by
 have c0:=cell_eq ns 0
 rw [show ((0:Nat):Int)=0 from rfl] at c0
 unfold D__law_wide B__law_wide
 simp only [EV,Nat.reduceAdd,Nat.reduceSub,Nat.reduceLeDiff,c0,x_mod (j:=4) (by decide)]
structure NotesOk (ns:List Nt):Prop where
 b:∀ n∈ns,0 ≤ n.1∧n.1 ≤ 1000∧1 ≤ n.2.1∧n.2.1 ≤ 400∧0 ≤ n.2.2∧n.2.2 ≤ 127
 ap:ns.Pairwise fun o n=>hits n o=false
 mt:∀ pre n post,ns=pre++n::post→meetsN n pre ≤ 7
theorem noteOf_b (c:Int) (ns:List Nt) (wd:Bool) (h:∀ n∈ns,0 ≤ n.1∧n.1 ≤ 1000∧1 ≤ n.2.1∧n.2.1 ≤ 400∧0 ≤ n.2.2∧n.2.2 ≤ 127) :
  0 ≤ (noteOf c ns wd).1∧(noteOf c ns wd).1 ≤ 1000∧1 ≤ (noteOf c ns wd).2.1∧(noteOf c ns wd).2.1 ≤ 400∧0 ≤ (noteOf c ns wd).2.2∧(noteOf c ns wd).2.2 ≤ 127:=by
 have m1:=mix_lt c 10007 97 (by decide)
 have m2:=mix_lt c 9973 48 (by decide)
 have m3:=mix_lt c 9967 25 (by decide)
 have m4:=mix_lt c 10007 1001 (by decide)
 have m5:=mix_lt c 9973 400 (by decide)
 have m6:=mix_lt c 9967 128 (by decide)
 have hs:0 ≤ nS c wd∧nS c wd ≤ 1000:=by unfold nS; split <;> (first|lia|omega)
 have hl:1 ≤ nL c wd∧nL c wd ≤ 400:=by unfold nL; split <;> (first|lia|omega)
 have hp:0 ≤ nP c wd∧nP c wd ≤ 127:=by unfold nP; split <;> (first|lia|omega)
 have hla:nLast wd ≤ 1000:=by unfold nLast; split <;> (first|lia|omega)
 unfold noteOf
 cases hq:ns.getLast? with
 | none=>dsimp only; (first|lia|omega)
 | some q =>
  have hb:=h q (List.mem_of_getLast? hq)
  dsimp only
  split
  ·dsimp only; (first|lia|omega)
  ·split
   ·rename_i c2
    dsimp only
    split <;> (first|lia|omega)
   ·dsimp only; (first|lia|omega)
theorem add_ok {wd:Bool} {ns:List Nt} {c:Int} (h:NotesOk ns):NotesOk (addNote wd ns c):=by
 unfold addNote
 split
 ·rename_i k
  rw [Bool.and_eq_true] at k
  have hb:=noteOf_b c ns wd h.b
  refine ⟨fun n hn=>?_,?_,fun pre n post e=>?_⟩
  ·rcases List.mem_append.mp hn with hn|hn
   ·exact h.b n hn
   ·simp at hn; subst hn; exact hb
  ·rw [List.pairwise_append]
   refine ⟨h.ap,List.pairwise_singleton _ _,fun o ho n hn=>?_⟩
   simp at hn
   subst hn
   have:=List.all_eq_true.mp k.1 o ho
   simpa using this
  ·rcases List.eq_nil_or_concat post with rfl|⟨post',x,rfl⟩
   ·have:=List.append_inj_right' e rfl
    have e2:=List.append_inj_left' e rfl
    simp at this
    subst this e2
    simpa using k.2
   ·have e':ns++[noteOf c ns wd]=(pre++n::post')++[x]:=by rw [e]; simp
    have e2:=List.append_inj_left' e' rfl
    exact h.mt pre n post' e2
 ·exact h
theorem go_ok (wd:Bool):∀ (cs:List Int) (ns:List Nt),NotesOk ns→NotesOk (notesGo wd cs ns)
 | [],ns,h=>h
 | c::cs,ns,h=>go_ok wd cs _ (add_ok h)
theorem go_len (wd:Bool):∀ (cs:List Int) (ns:List Nt),(notesGo wd cs ns).length ≤ ns.length+cs.length
 | [],ns=>Nat.le_refl _
 | c::cs,ns=>by
  have h1:=go_len wd cs (addNote wd ns c)
  have h2:=addNote_len wd ns c
  simp only [notesGo,List.length_cons]
  (first|lia|omega)
theorem notes_ok (ns:List Int) (wd:Bool):NotesOk (notesOf ns wd) :=
 go_ok wd _ [] ⟨fun n hn=>by simp at hn,.nil,fun pre n post e=>by simp at e⟩
theorem notes_len (ns:List Int) (wd:Bool):(notesOf ns wd).length ≤ 24:=by
 have h:=go_len wd ((ns.drop 6).take (mostN ns)) []
 have:mostN ns ≤ 24:=by unfold mostN; split <;> decide
 unfold notesOf
 simp at h ⊢
 (first|lia|omega)
theorem ntR_inj {a b:Nt} (h:ntR a=ntR b):a=b:=by
 obtain ⟨a1,a2,a3⟩:=a
 obtain ⟨b1,b2,b3⟩:=b
 simp [ntR] at h
 simp [h]
theorem NotesOk.nodup {ns:List Nt} (h:NotesOk ns):(ns.map ntR).Nodup:=by
 show List.Pairwise _ _
 rw [List.pairwise_map]
 refine List.Pairwise.imp_of_mem (fun {o n} ho hn q z=>?_) h.ap
 have e:=ntR_inj z
 subst e
 have hb:=h.b o ho
 unfold hits at q
 simp at q
 (first|lia|omega)
noncomputable def ofR:List Int→Nt
 | [a,b,c]=>(a,b,c)
 | _=>(0,0,0)
noncomputable def sortN (ns:List Nt):List Nt:=(sortR (ns.map ntR)).map ofR
theorem sortN_row (ns:List Nt):(sortN ns).map ntR=sortR (ns.map ntR):=by
 unfold sortN
 rw [List.map_map]
 have:∀ r∈sortR (ns.map ntR),(ntR ∘ ofR) r=r:=fun r hr=>by
  obtain ⟨n,_,rfl⟩:=List.mem_map.mp ((sortR_perm _).mem_iff.mp hr)
  rfl
 rw [List.map_congr_left this]
 simp
theorem sortN_perm (ns:List Nt):(sortN ns).Perm ns:=by
 have h:=(sortR_perm (ns.map ntR)).map ofR
 rw [List.map_map] at h
 have:(ofR ∘ ntR)=(fun n:Nt=>n):=by funext n; rfl
 rw [this] at h
 simpa [sortN] using h
noncomputable def leN (a b:Nt):Prop:=a.1 < b.1∨a.1=b.1∧(a.2.1 < b.2.1∨a.2.1=b.2.1∧a.2.2 ≤ b.2.2)
theorem lex3 {a b:Nt} (h:HT.lexLt (ntR b) (ntR a)=false):leN a b:=by
 unfold ntR at h
 rw [HT.lexLt_cons] at h
 unfold leN
 by_cases e1:b.1=a.1
 ·rw [if_pos e1,HT.lexLt_cons] at h
  by_cases e2:b.2.1=a.2.1
  ·rw [if_pos e2,HT.lexLt_cons] at h
   by_cases e3:b.2.2=a.2.2
   ·(first|lia|omega)
   ·rw [if_neg e3] at h
    simp at h
    (first|lia|omega)
  ·rw [if_neg e2] at h
   simp at h
   (first|lia|omega)
 ·rw [if_neg e1] at h
  simp at h
  (first|lia|omega)
theorem sortN_le (ns:List Nt):(sortN ns).Pairwise leN:=by
 have h:=sortR_le (ns.map ntR)
 rw [← sortN_row,List.pairwise_map] at h
 exact h.imp lex3
noncomputable abbrev Ch:=Int×Int×List Int
noncomputable def chD (c:Ch):D:=.tup [.int c.1,.int c.2.1,.tup (c.2.2.map D.int)]
noncomputable def grp (acc:List Ch) (n:Nt):List Ch:=match acc.getLast? with
 | some c=>if c.1=n.1∧c.2.1=n.2.1 then acc.dropLast++[(n.1,n.2.1,c.2.2++[n.2.2])] else acc++[(n.1,n.2.1,[n.2.2])]
 | none=>acc++[(n.1,n.2.1,[n.2.2])]
noncomputable def rowOf (ns:List Nt):List Ch:=(sortN ns).foldl grp []
noncomputable def ltC (a b:Ch):Prop:=a.1 < b.1∨a.1=b.1∧a.2.1 < b.2.1
structure RowOk (ns:List Nt) (row:List Ch):Prop where
 up:row.Pairwise ltC
 ne:∀ c∈row,c.2.2≠[]
 ri:∀ c∈row,c.2.2.Pairwise (· < ·)
 of:∀ c∈row,∀ p∈c.2.2,(c.1,c.2.1,p)∈ns
 all:∀ n∈ns,∃ c∈row,c.1=n.1∧c.2.1=n.2.1∧n.2.2∈c.2.2
theorem grp_ok {done:List Nt} {acc:List Ch} {n:Nt} (nd:n ∉ done) (R:RowOk done acc) (hl:∀ m∈done,leN m n) (hlast:∀ c,acc.getLast?=some c→∃ m∈done,c.1=m.1∧c.2.1=m.2.1):RowOk (done++[n]) (grp acc n) ∧
  ∃ c,(grp acc n).getLast?=some c∧c.1=n.1∧c.2.1=n.2.1:=by
 have span:∀ c∈acc,∃ m∈done,c.1=m.1∧c.2.1=m.2.1:=fun c hc=>by
  obtain ⟨p,r,e⟩:∃ p r,c.2.2=p::r:=by
   cases h:c.2.2 with
   | nil=>exact absurd h (R.ne c hc)
   | cons p r=>exact ⟨p,r,rfl⟩
  exact ⟨_,R.of c hc p (by rw [e]; simp),rfl,rfl⟩
 have app:(∀ c∈acc,ltC c (n.1,n.2.1,[n.2.2]))→RowOk (done++[n]) (acc++[(n.1,n.2.1,[n.2.2])]):=fun hlt=>by
  refine ⟨?_,fun c hc=>?_,fun c hc=>?_,fun c hc p hp=>?_,fun m hm=>?_⟩
  ·rw [List.pairwise_append]
   exact ⟨R.up,List.pairwise_singleton _ _,fun a ha b hb=>by simp at hb; subst hb; exact hlt a ha⟩
  ·rcases List.mem_append.mp hc with hc|hc
   ·exact R.ne c hc
   ·simp at hc; subst hc; simp
  ·rcases List.mem_append.mp hc with hc|hc
   ·exact R.ri c hc
   ·simp at hc; subst hc; exact List.pairwise_singleton _ _
  ·rcases List.mem_append.mp hc with hc|hc
   ·exact List.mem_append_left _ (R.of c hc p hp)
   ·simp at hc; subst hc; simp at hp; subst hp; simp
  ·rcases List.mem_append.mp hm with hm|hm
   ·obtain ⟨c,hc,q⟩:=R.all m hm
    exact ⟨c,List.mem_append_left _ hc,q⟩
   ·simp at hm; subst hm
    exact ⟨_,List.mem_append_right _ (List.mem_singleton.mpr rfl),rfl,rfl,by simp⟩
 unfold grp
 cases hg:acc.getLast? with
 | none =>
  have hn:=List.getLast?_eq_none_iff.mp hg
  subst hn
  exact ⟨app fun c hc=>by simp at hc,(n.1,n.2.1,[n.2.2]),by simp,rfl,rfl⟩
 | some c0 =>
  dsimp only
  obtain ⟨init,rfl⟩:∃ init,acc=init++[c0]:=by
   obtain ⟨h,e⟩:=List.getLast?_eq_some_iff.mp hg
   exact ⟨h,e⟩
  have hup:=R.up
  rw [List.pairwise_append] at hup
  by_cases c:c0.1=n.1∧c0.2.1=n.2.1
  ·rw [if_pos c]
   simp only [List.dropLast_concat]
   refine ⟨⟨?_,fun x hx=>?_,fun x hx=>?_,fun x hx p hp=>?_,fun m hm=>?_⟩,(n.1,n.2.1,c0.2.2++[n.2.2]),by simp,rfl,rfl⟩
   ·rw [List.pairwise_append]
    refine ⟨hup.1,List.pairwise_singleton _ _,fun a ha b hb=>?_⟩
    simp at hb
    subst hb
    have:=hup.2.2 a ha c0 (by simp)
    unfold ltC at this ⊢
    dsimp only
    (first|lia|omega)
   ·rcases List.mem_append.mp hx with hx|hx
    ·exact R.ne x (List.mem_append_left _ hx)
    ·simp at hx; subst hx; simp
   ·rcases List.mem_append.mp hx with hx|hx
    ·exact R.ri x (List.mem_append_left _ hx)
    ·simp at hx
     subst hx
     dsimp only
     rw [List.pairwise_append]
     refine ⟨R.ri c0 (by simp),List.pairwise_singleton _ _,fun a ha b hb=>?_⟩
     simp at hb
     subst hb
     have hm:=R.of c0 (by simp) a ha
     have le:=hl _ hm
     unfold leN at le
     dsimp only at le
     by_cases e:a=n.2.2
     ·exfalso
      apply nd
      have:n=(c0.1,c0.2.1,a):=by rw [c.1,c.2,e]
      rw [this]; exact hm
     ·(first|lia|omega)
   ·rcases List.mem_append.mp hx with hx|hx
    ·exact List.mem_append_left _ (R.of x (List.mem_append_left _ hx) p hp)
    ·simp at hx
     subst hx
     dsimp only at hp ⊢
     rcases List.mem_append.mp hp with hp|hp
     ·have:=R.of c0 (by simp) p hp
      rw [c.1,c.2] at this
      exact List.mem_append_left _ this
     ·simp at hp; subst hp; simp
   ·rcases List.mem_append.mp hm with hm|hm
    ·obtain ⟨x,hx,q1,q2,q3⟩:=R.all m hm
     rcases List.mem_append.mp hx with hx|hx
     ·exact ⟨x,List.mem_append_left _ hx,q1,q2,q3⟩
     ·simp at hx
      subst hx
      exact ⟨_,List.mem_append_right _ (List.mem_singleton.mpr rfl),by dsimp only; (first|lia|omega),by dsimp only; (first|lia|omega),by simp [q3]⟩
    ·simp at hm; subst hm
     exact ⟨_,List.mem_append_right _ (List.mem_singleton.mpr rfl),rfl,rfl,by simp⟩
  ·rw [if_neg c]
   refine ⟨app fun a ha=>?_,(n.1,n.2.1,[n.2.2]),by simp,rfl,rfl⟩
   have l0:ltC c0 (n.1,n.2.1,[n.2.2]):=by
    obtain ⟨m,hm,e1,e2⟩:=hlast c0 hg
    have le:=hl m hm
    unfold leN at le
    unfold ltC
    dsimp only
    (first|lia|omega)
   rcases List.mem_append.mp ha with ha|ha
   ·have:=hup.2.2 a ha c0 (by simp)
    unfold ltC at this l0 ⊢
    dsimp only at *
    (first|lia|omega)
   ·simp at ha; subst ha; exact l0
theorem fold_ok:∀ (rest done:List Nt) (acc:List Ch),(done++rest).Nodup→(done++rest).Pairwise leN→RowOk done acc→(∀ c,acc.getLast?=some c→∃ m∈done,c.1=m.1∧c.2.1=m.2.1)→RowOk (done++rest) (rest.foldl grp acc)
 | [],done,acc,_,_,R,_=>by simpa using R
 | n::rest,done,acc,nd,pw,R,hlast=>by
  have e:done++n::rest=(done++[n])++rest:=by simp
  have n1:n ∉ done:=fun z=>(List.nodup_append.mp nd).2.2 n z n (by simp) rfl
  have le:∀ m∈done,leN m n:=fun m hm=>(List.pairwise_append.mp pw).2.2 m hm n (by simp)
  obtain ⟨R2,c,hc,c1,c2⟩:=grp_ok n1 R le hlast
  rw [List.foldl_cons,e]
  refine fold_ok rest (done++[n]) _ (by rw [← e]; exact nd) (by rw [← e]; exact pw) R2 fun x hx=>?_
  rw [hc] at hx
  cases hx
  exact ⟨n,by simp,c1,c2⟩
theorem row_ok {ns:List Nt} (h:NotesOk ns):RowOk ns (rowOf ns):=by
 have nd:(sortN ns).Nodup:=by
  have:=h.nodup
  have n2:ns.Nodup:=(List.pairwise_map.mp this).imp fun {a b} q e=>q (by rw [e])
  exact (sortN_perm ns).nodup_iff.mpr n2
 have R:=fold_ok (sortN ns) [] [] (by simpa using nd) (by simpa using sortN_le ns) ⟨.nil,fun c hc=>by simp at hc,fun c hc=>by simp at hc,fun c hc=>by simp at hc,fun n hn=>by simp at hn⟩ (fun c hc=>by simp at hc)
 rw [List.nil_append] at R
 have m:∀ n,n∈sortN ns ↔ n∈ns:=fun n=>(sortN_perm ns).mem_iff
 exact ⟨R.up,R.ne,R.ri,fun c hc p hp=>(m _).mp (R.of c hc p hp),fun n hn=>R.all n ((m n).mpr hn)⟩
theorem row_b {ns:List Nt} {row:List Ch} (h:NotesOk ns) (R:RowOk ns row):∀ c∈row,0 ≤ c.1∧c.1 ≤ 1000∧1 ≤ c.2.1∧c.2.1 ≤ 400:=fun c hc=>by
 cases e:c.2.2 with
 | nil=>exact absurd e (R.ne c hc)
 | cons p r =>
  have:=h.b _ (R.of c hc p (by rw [e]; simp))
  dsimp only at this
  (first|lia|omega)
theorem grp_len (acc:List Ch) (n:Nt):(grp acc n).length ≤ acc.length+1:=by
 unfold grp
 split
 ·split
  ·simp
  ·simp
 ·simp
theorem fold_len:∀ (ns:List Nt) (acc:List Ch),(ns.foldl grp acc).length ≤ acc.length+ns.length
 | [],acc=>Nat.le_refl _
 | n::ns,acc=>by
  have h1:=fold_len ns (grp acc n)
  have h2:=grp_len acc n
  simp only [List.foldl_cons,List.length_cons]
  (first|lia|omega)
theorem row_len (ns:List Nt):(rowOf ns).length ≤ ns.length:=by
 have h:=fold_len (sortN ns) []
 rw [(sortN_perm ns).length_eq] at h
 simpa [rowOf] using h
theorem row_eq (ns:List Int) (hl:ns.length ≤ 63) (wd:Bool):D__law_row [.fz (.lst (ns.map D.int)),.fz (.bl wd)]=.ok (.ow (.lst ((rowOf (notesOf ns wd)).map chD))):=by
 have hz:sz=16777216:=rfl
 have N:=notes_ok ns wd
 have nl:=notes_len ns wd
 have e1:(notesOf ns wd).map ntD=((notesOf ns wd).map ntR).map rowD:=by rw [List.map_map]; rfl
 have srt:=x_sorted (rs:=(notesOf ns wd).map ntR) N.nodup (by rw [List.length_map]; (first|lia|omega)) (fun z=>by obtain ⟨n,_,e⟩:=List.mem_map.mp z; cases e)
 unfold D__law_row B__law_row
 simp only [EV,Nat.reduceAdd,Nat.reduceSub,Nat.reduceLeDiff]
 rw [x_iSeq (w:=.ow (.lst ((sortN (notesOf ns wd)).map ntD))) (by
  simp only [EV,Nat.reduceAdd,Nat.reduceSub,Nat.reduceLeDiff,notes_eq ns hl wd,e1,srt]
  rw [← sortN_row,List.map_map]
  rfl) rfl]
 simp only [EV,Nat.reduceAdd,Nat.reduceSub,Nat.reduceLeDiff]
 have go:∀ (ms:List Nt) (acc:List Ch) (k:Nat) (j3:Option En),acc.length+ms.length ≤ 100∧k+ms.length ≤ 100→(∀ c∈acc,c.2.2≠[]∧c.2.2.length ≤ k) →
   fin ((forD (gV 3) (sIf (L3.tAnd (tE (eVar 2)) (tE (eOp dEq (eSl (eOp dIxS (eVar 2) (eUn dNeg (eC (.int 1)))) oNo (oE (eC (.int 2)))) (eSl (eVar 3) oNo (oE (eC (.int 2))))))) (sSetI 2 (eUn dNeg (eC (.int 1))) (eTup [(eOp dIxS (eVar 3) (eC (.int 0))),(eOp dIxS (eVar 3) (eC (.int 1))),(eOp dAddA (eOp dIxS (eOp dIxS (eVar 2) (eUn dNeg (eC (.int 1)))) (eC (.int 2))) (eTup [(eOp dIxS (eVar 3) (eC (.int 2)))]))])) (sApp 2 (eTup [(eOp dIxS (eVar 3) (eC (.int 0))),(eOp dIxS (eVar 3) (eC (.int 1))),(eTup [(eOp dIxS (eVar 3) (eC (.int 2)))])]))) (ms.map ntD)
    [some (.fz (.lst (ns.map D.int))),some (.fz (.bl wd)),some (.ow (.lst (acc.map chD))),j3]).th (sRetV 2))=.ok (.ow (.lst ((ms.foldl grp acc).map chD))):=by
  intro ms
  induction ms with
  | nil=>intro acc k j3 _ _; rfl
  | cons n ms ih =>
   intro acc k j3 hb hne
   rw [List.length_cons] at hb
   rw [List.map_cons,List.foldl_cons]
   unfold forD
   have app:acc.length < 100→(∀ c:Ch,c=(n.1,n.2.1,[n.2.2])→grp acc n=acc++[c]→fin ((forD (gV 3) (sIf (L3.tAnd (tE (eVar 2)) (tE (eOp dEq (eSl (eOp dIxS (eVar 2) (eUn dNeg (eC (.int 1)))) oNo (oE (eC (.int 2)))) (eSl (eVar 3) oNo (oE (eC (.int 2))))))) (sSetI 2 (eUn dNeg (eC (.int 1))) (eTup [(eOp dIxS (eVar 3) (eC (.int 0))),(eOp dIxS (eVar 3) (eC (.int 1))),(eOp dAddA (eOp dIxS (eOp dIxS (eVar 2) (eUn dNeg (eC (.int 1)))) (eC (.int 2))) (eTup [(eOp dIxS (eVar 3) (eC (.int 2)))]))])) (sApp 2 (eTup [(eOp dIxS (eVar 3) (eC (.int 0))),(eOp dIxS (eVar 3) (eC (.int 1))),(eTup [(eOp dIxS (eVar 3) (eC (.int 2)))])]))) (ms.map ntD)
     [some (.fz (.lst (ns.map D.int))),some (.fz (.bl wd)),some (.ow (.lst ((acc++[c]).map chD))),some (.fz (ntD n))]).th (sRetV 2))=.ok (.ow (.lst ((ms.foldl grp (grp acc n)).map chD)))):=fun _ c hc hg=>by
    rw [hg]
    refine ih (acc++[c]) (k+1) _ ?_ fun x hx=>?_
    ·rw [List.length_append]; simp; (first|lia|omega)
    ·rcases List.mem_append.mp hx with hx|hx
     ·have:=hne x hx; exact ⟨this.1,by (first|lia|omega)⟩
     ·simp at hx; subst hx; subst hc; simp
   cases hg:acc.getLast? with
   | none =>
    have hn:=List.getLast?_eq_none_iff.mp hg
    subst hn
    simp only [EV,Nat.reduceAdd,Nat.reduceSub,Nat.reduceLeDiff,List.isEmpty_nil]
    rw [x_app (xs:=[]) (d:=chD (n.1,n.2.1,[n.2.2])) rfl (by simp [hz]) (by simp only [EV,Nat.reduceAdd,Nat.reduceSub,Nat.reduceLeDiff,ntD,chD])]
    exact app (by simp) _ rfl (by simp [grp])
   | some c0 =>
    have hne0:(acc.map chD).isEmpty=false:=by
     cases acc with
     | nil=>simp at hg
     | cons a b=>rfl
    have la:okD (ati (acc.map chD) (-1))=.ok (.fz (chD c0)):=by rw [ati_last,List.getLast?_map,hg]; rfl
    have hc0:=hne c0 (List.mem_of_getLast? hg)
    simp only [EV,Nat.reduceAdd,Nat.reduceSub,Nat.reduceLeDiff,hne0,Int.reduceNeg,la]
    by_cases c:c0.1=n.1∧c0.2.1=n.2.1
    ·have b:(c0.1 == n.1 && c0.2.1 == n.2.1)=true:=by simp [c.1,c.2]
     simp only [EV,Nat.reduceAdd,Nat.reduceSub,Nat.reduceLeDiff,chD,ntD,b]
     have ad:dAddA (.tup (c0.2.2.map D.int)) (.tup [.int n.2.2])=.ok (.fz (.tup ((c0.2.2++[n.2.2]).map D.int))):=by
      rw [x_addT (by rw [List.length_map,hz]; simp; (first|lia|omega)) (by simpa using hc0.1) (by simp)]
      simp
     rw [x_setI (xs:=acc.map chD) (d:=chD (n.1,n.2.1,c0.2.2++[n.2.2])) (w:=.fz (.int (-1))) (j:=-1) (n:=(acc.map chD).length - 1) rfl (by
      have la':okD (ati (acc.map fun c=>D.tup [.int c.1,.int c.2.1,.tup (c.2.2.map D.int)]) (-1))=.ok (.fz (.tup [.int c0.1,.int c0.2.1,.tup (c0.2.2.map D.int)])):=la
      simp only [EV,Nat.reduceAdd,Nat.reduceSub,Nat.reduceLeDiff,Int.reduceNeg,la,la',chD,ad]) rfl rfl (ixn_last (by cases acc with|nil=>simp at hg|cons a b=>simp))]
     rw [set_last (by intro z; rw [z] at hne0; simp at hne0)]
     have eg:grp acc n=acc.dropLast++[(n.1,n.2.1,c0.2.2++[n.2.2])]:=by unfold grp; rw [hg]; dsimp only; rw [if_pos c]
     have:=ih (grp acc n) (k+1) (some (.fz (ntD n))) (by rw [eg]; simp; (first|lia|omega)) (fun x hx=>by
      rw [eg] at hx
      rcases List.mem_append.mp hx with hx|hx
      ·have:=hne x (List.dropLast_subset _ hx)
       exact ⟨this.1,by (first|lia|omega)⟩
      ·simp at hx; subst hx; simp; (first|lia|omega))
     rw [← this,eg,List.map_append,List.map_dropLast]
     rfl
    ·have b:(c0.1 == n.1 && c0.2.1 == n.2.1)=false:=by
      cases h:(c0.1 == n.1 && c0.2.1 == n.2.1) with
      | false=>rfl
      | true=>simp at h; exact absurd h c
     simp only [EV,Nat.reduceAdd,Nat.reduceSub,Nat.reduceLeDiff,chD,ntD,b]
     rw [x_app (xs:=acc.map chD) (d:=chD (n.1,n.2.1,[n.2.2])) rfl (by rw [List.length_map,hz]; (first|lia|omega)) (by simp only [EV,Nat.reduceAdd,Nat.reduceSub,Nat.reduceLeDiff,ntD,chD])]
     have:=app (by (first|lia|omega)) _ rfl (by unfold grp; rw [hg]; dsimp only; rw [if_neg c])
     rw [List.map_append] at this
     exact this
 exact go (sortN (notesOf ns wd)) [] 0 none (by rw [(sortN_perm _).length_eq]; simp; (first|lia|omega)) fun c hc=>by simp at hc
noncomputable def keysP:List Int:=[112,96,64,56,48,32,28,24,16,14,12,8,7,6,4,3,2,1]
noncomputable def piecesGo:List Int→Int→List Int
 | [],_=>[]
 | v::vs,l=>List.replicate (l / v).toNat v++piecesGo vs (l % v)
noncomputable def piecesOf (n:Int):List Int:=piecesGo keysP n
theorem while_pieces (L0 v:Int) (hv:0 < v):∀ (q fuel:Nat) (row:List Int) (left:Int),0 ≤ left→left / v=q→q < fuel→row.length+q ≤ 1000 →
  whileD (tE (eOp dLe (eVar 3) (eVar 2))) (sSeq (sApp 1 (eVar 3)) (sAug 2 dSub (eVar 3))) fuel [some (.fz (.int L0)),some (.ow (.lst (row.map D.int))),some (.fz (.int left)),some (.fz (.int v))] =
   .nx [some (.fz (.int L0)),some (.ow (.lst ((row++List.replicate q v).map D.int))),some (.fz (.int (left % v))),some (.fz (.int v))]
 | 0,fuel+1,row,left,h0,hq,hf,hl=>by
  have lt:left < v:=by
   have:=Int.mul_ediv_add_emod left v
   have:=Int.emod_lt_of_pos left hv
   rw [hq] at *
   simp at *
   (first|lia|omega)
  have d:decide (v ≤ left)=false:=by simp; (first|lia|omega)
  unfold whileD
  simp only [EV,Nat.reduceAdd,Nat.reduceSub,Nat.reduceLeDiff,d,Bool.false_eq_true,if_false]
  rw [Int.emod_eq_of_lt h0 lt]
  simp
 | q+1,fuel+1,row,left,h0,hq,hf,hl=>by
  have hz:sz=16777216:=rfl
  have ge:v ≤ left:=by
   by_cases g:v ≤ left
   ·exact g
   ·have:=Int.ediv_eq_zero_of_lt h0 (by (first|lia|omega):left < v)
    (first|lia|omega)
  have d:decide (v ≤ left)=true:=by simpa using ge
  have e1:(left - v) / v=(q:Int):=by
   have:=Int.add_mul_ediv_right left (-1) (show v≠0 by (first|lia|omega))
   rw [show left+-1 * v=left - v by (first|lia|omega)] at this
   (first|lia|omega)
  have e2:(left - v) % v=left % v:=by
   have:=Int.add_mul_emod_self_right left (-1) v
   rw [show left+-1 * v=left - v by (first|lia|omega)] at this
   exact this
  have ih:=while_pieces L0 v hv q fuel (row++[v]) (left - v) (by (first|lia|omega)) e1 (by (first|lia|omega)) (by simp; (first|lia|omega))
  unfold whileD
  simp only [EV,Nat.reduceAdd,Nat.reduceSub,Nat.reduceLeDiff,d]
  rw [x_app (xs:=row.map D.int) (d:=.int v) rfl (by rw [List.length_map,hz]; (first|lia|omega)) rfl]
  simp only [EV,Nat.reduceAdd,Nat.reduceSub,Nat.reduceLeDiff]
  rw [List.map_append] at ih
  rw [show List.map D.int [v]=[D.int v] from rfl] at ih
  rw [ih,e2]
  simp [List.replicate_succ]
theorem go_len':∀ (vs:List Int) (l:Int),0 ≤ l→(∀ v∈vs,0 < v)→((piecesGo vs l).length:Int) ≤ l
 | [],l,h,_=>by simpa [piecesGo] using h
 | v::vs,l,h,hv=>by
  have v0:=hv v (by simp)
  have ih:=go_len' vs (l % v) (Int.emod_nonneg _ (by (first|lia|omega))) fun x hx=>hv x (by simp [hx])
  have e:=Int.mul_ediv_add_emod l v
  have q0:0 ≤ l / v:=Int.ediv_nonneg h (by (first|lia|omega))
  have:l / v ≤ v * (l / v):=by
   have:=Int.mul_le_mul_of_nonneg_right (show (1:Int) ≤ v by (first|lia|omega)) q0
   (first|lia|omega)
  simp [piecesGo]
  (first|lia|omega)
theorem pieces_for (L0:Int):∀ (vs:List Int) (row:List Int) (left:Int) (j3:Option En),(∀ v∈vs,0 < v)→0 ≤ left→left ≤ 512→(row.length:Int)+left ≤ 512 →
  ∃ l' j3',forD (gV 3) (sWhile 520 (tE (eOp dLe (eVar 3) (eVar 2))) (sSeq (sApp 1 (eVar 3)) (sAug 2 dSub (eVar 3)))) (vs.map D.int) [some (.fz (.int L0)),some (.ow (.lst (row.map D.int))),some (.fz (.int left)),j3] =
   .nx [some (.fz (.int L0)),some (.ow (.lst ((row++piecesGo vs left).map D.int))),some (.fz (.int l')),j3']
 | [],row,left,j3,_,_,_,_=>⟨left,j3,by simp [forD,piecesGo]⟩
 | v::vs,row,left,j3,hv,h0,h1,hl=>by
  have v0:=hv v (by simp)
  have q0:0 ≤ left / v:=Int.ediv_nonneg h0 (by (first|lia|omega))
  have e:=Int.mul_ediv_add_emod left v
  have m0:=Int.emod_nonneg left (show v≠0 by (first|lia|omega))
  have:left / v ≤ v * (left / v):=by
   have:=Int.mul_le_mul_of_nonneg_right (show (1:Int) ≤ v by (first|lia|omega)) q0
   (first|lia|omega)
  obtain ⟨q,hq⟩:=Int.eq_ofNat_of_zero_le q0
  have w:=while_pieces L0 v v0 q 520 row left h0 hq (by (first|lia|omega)) (by (first|lia|omega))
  obtain ⟨l',j3',ih⟩:=pieces_for L0 vs (row++List.replicate q v) (left % v) (some (.fz (.int v))) (fun x hx=>hv x (by simp [hx])) m0 (by (first|lia|omega)) (by simp; (first|lia|omega))
  refine ⟨l',j3',?_⟩
  rw [List.map_cons]
  unfold forD
  have tn:(left / v).toNat=q:=by rw [hq]; rfl
  simp only [EV,Nat.reduceAdd,Nat.reduceSub,Nat.reduceLeDiff]
  unfold sWhile at ih ⊢
  rw [w]
  dsimp only
  rw [ih]
  simp [piecesGo,tn]
theorem pieces_eq (n:Int) (h0:0 ≤ n) (h1:n ≤ 512):D_pieces [.fz (.int n)]=.ok (.ow (.lst ((piecesOf n).map D.int))):=by
 obtain ⟨l',j3',e⟩:=pieces_for n keysP [] n none (by decide) h0 h1 (by simpa using h1)
 unfold D_pieces B_pieces
 simp only [EV,Nat.reduceAdd,Nat.reduceSub,Nat.reduceLeDiff]
 rw [show iDct (eC c_SHAPES) [some (En.fz (D.int n)),some (En.ow (D.lst [])),some (En.fz (D.int n)),none]=.ok (keysP.map D.int) from rfl]
 simp only [EV,Nat.reduceAdd,Nat.reduceSub,Nat.reduceLeDiff]
 rw [List.map_nil] at e
 rw [e]
 simp only [EV,Nat.reduceAdd,Nat.reduceSub,Nat.reduceLeDiff,List.nil_append]
 rfl
theorem go_sum:∀ (vs:List Int) (l:Int),1∈vs→0 ≤ l→(∀ v∈vs,0 < v)→(piecesGo vs l).sum=l
 | [],l,h,_,_=>by simp at h
 | v::vs,l,h1,h,hv=>by
  have v0:=hv v (by simp)
  have e:=Int.mul_ediv_add_emod l v
  have q0:0 ≤ l / v:=Int.ediv_nonneg h (by (first|lia|omega))
  have zero:∀ ws:List Int,(∀ x∈ws,0 < x)→(piecesGo ws 0).sum=0:=by
   intro ws
   induction ws with
   | nil=>intro _; rfl
   | cons x ws ih=>intro hx; simp [piecesGo,ih fun y hy=>hx y (by simp [hy])]
  have rs:(List.replicate (l / v).toNat v).sum=v * (l / v):=by
   have:∀ k:Nat,(List.replicate k v).sum=v * k:=fun k=>by
    induction k with
    | zero=>simp
    | succ k ih=>rw [List.replicate_succ,List.sum_cons,ih]; push_cast; rw [Int.mul_add]; (first|lia|omega)
   rw [this,Int.toNat_of_nonneg q0]
  rw [piecesGo,List.sum_append,rs]
  rcases List.mem_cons.mp h1 with g|g
  ·subst g
   rw [Int.emod_one,zero vs fun x hx=>hv x (by simp [hx])]
   simp
  ·rw [go_sum vs (l % v) g (Int.emod_nonneg _ (by (first|lia|omega))) fun x hx=>hv x (by simp [hx])]
   exact e
theorem go_pos:∀ (vs:List Int) (l:Int),(∀ v∈vs,0 < v)→∀ x∈piecesGo vs l,0 < x
 | [],l,_,x,hx=>by simp [piecesGo] at hx
 | v::vs,l,hv,x,hx=>by
  rw [piecesGo] at hx
  rcases List.mem_append.mp hx with hx|hx
  ·rw [List.eq_of_mem_replicate hx]; exact hv v (by simp)
  ·exact go_pos vs _ (fun y hy=>hv y (by simp [hy])) x hx
theorem pieces_sum (n:Int) (h:0 ≤ n):(piecesOf n).sum=n:=go_sum keysP n (by decide) h (by decide)
theorem pieces_pos (n:Int):∀ x∈piecesOf n,0 < x:=go_pos keysP n (by decide)
theorem pieces_len (n:Int) (h:0 ≤ n):((piecesOf n).length:Int) ≤ n:=go_len' keysP n h (by decide)
inductive Ev where
 | rest (v:Int)
 | note (v:Int) (ps:List Int) (tied:Bool)
noncomputable def evD:Ev→D
 | .rest v=>.tup [.str "rest",.int v]
 | .note v ps t=>.tup [.str "note",.int v,.tup (ps.map D.int),.bl t]
noncomputable def cend (c:Ch):Int:=c.1+c.2.1
noncomputable def restsOf (n:Int):List Ev:=(piecesOf n).map .rest
noncomputable def noteGo (c:Ch):Int→List Int→List Ev
 | _,[]=>[]
 | t,v::vs=>.note v c.2.2 (decide (t+v < cend c))::noteGo c (t+v) vs
noncomputable def notesEv (c:Ch) (first behind:Int):List Ev:=noteGo c first (piecesOf (behind - first))
theorem noteGo_len (c:Ch):∀ (vs:List Int) (t:Int),(noteGo c t vs).length=vs.length
 | [],_=>rfl
 | v::vs,t=>by simp [noteGo,noteGo_len c vs]
theorem end_eq (c:Ch):D_end_of [.fz (chD c)]=.ok (.fz (.int (cend c))):=by
 unfold D_end_of B_end_of
 simp only [EV,Nat.reduceAdd,Nat.reduceSub,Nat.reduceLeDiff,chD,cend]
noncomputable def fRest:D→D
 | .int v=>evD (.rest v)
 | _=>.non
theorem rests_eq (n:Int) (h0:0 ≤ n) (h1:n ≤ 512):D_rest_events [.fz (.int n)]=.ok (.ow (.lst ((restsOf n).map evD))):=by
 have hz:sz=16777216:=rfl
 have pl:=pieces_len n h0
 unfold D_rest_events B_rest_events
 simp only [EV,Nat.reduceAdd,Nat.reduceSub,Nat.reduceLeDiff]
 rw [comp_eq (ds:=(piecesOf n).map D.int) (ys:=(restsOf n).map evD) (x_iSeq (w:=.ow (.lst ((piecesOf n).map D.int))) (by simp only [EV,Nat.reduceAdd,Nat.reduceSub,Nat.reduceLeDiff,pieces_eq n h0 h1]) rfl) (by rw [List.length_map,hz]; (first|lia|omega)) (by
  rw [comp_all 1 fRest ((piecesOf n).map D.int) _ fun d hd=>?_]
  ·rw [restsOf,List.map_map,List.map_map]
   rfl
  ·obtain ⟨v,_,rfl⟩:=List.mem_map.mp hd
   refine ⟨.fz (evD (.rest v)),?_,rfl⟩
   simp only [cRho,ro,EV,Nat.reduceAdd,Nat.reduceSub,Nat.reduceLeDiff,evD])]
 simp only [EV,Nat.reduceAdd,Nat.reduceSub,Nat.reduceLeDiff]
theorem notesEv_eq (c:Ch) (first behind:Int) (h0:0 ≤ behind - first) (h1:behind - first ≤ 512):D_note_events [.fz (chD c),.fz (.int first),.fz (.int behind)]=.ok (.ow (.lst ((notesEv c first behind).map evD))):=by
 have hz:sz=16777216:=rfl
 have pl:=pieces_len (behind - first) h0
 unfold D_note_events B_note_events
 simp only [EV,Nat.reduceAdd,Nat.reduceSub,Nat.reduceLeDiff,end_eq]
 rw [x_iSeq (w:=.ow (.lst ((piecesOf (behind - first)).map D.int))) (by simp only [EV,Nat.reduceAdd,Nat.reduceSub,Nat.reduceLeDiff,pieces_eq _ h0 h1]) rfl]
 simp only [EV,Nat.reduceAdd,Nat.reduceSub,Nat.reduceLeDiff]
 have go:∀ (vs:List Int) (acc:List Ev) (t:Int) (j6:Option En),acc.length+vs.length ≤ 1000 →
   fin ((forD (gV 6) (sSeq (sAug 5 dAddI (eVar 6)) (sApp 4 (eTup [(eC (.str "note")),(eVar 6),(eOp dIxS (eVar 0) (eC (.int 2))),(eOp dLt (eVar 5) (eVar 3))]))) (vs.map D.int)
    [some (.fz (chD c)),some (.fz (.int first)),some (.fz (.int behind)),some (.fz (.int (cend c))),some (.ow (.lst (acc.map evD))),some (.fz (.int t)),j6]).th (sRetV 4))=.ok (.ow (.lst ((acc++noteGo c t vs).map evD))):=by
  intro vs
  induction vs with
  | nil=>intro acc t j6 _; simp [noteGo]; rfl
  | cons v vs ih =>
   intro acc t j6 hb
   rw [List.length_cons] at hb
   rw [List.map_cons]
   unfold forD
   simp only [EV,Nat.reduceAdd,Nat.reduceSub,Nat.reduceLeDiff]
   rw [x_app (xs:=acc.map evD) (d:=evD (.note v c.2.2 (decide (t+v < cend c)))) rfl (by rw [List.length_map,hz]; (first|lia|omega)) (by simp only [EV,Nat.reduceAdd,Nat.reduceSub,Nat.reduceLeDiff,chD,evD])]
   have:=ih (acc++[.note v c.2.2 (decide (t+v < cend c))]) (t+v) (some (.fz (.int v))) (by simp; (first|lia|omega))
   rw [List.map_append] at this
   simp only [EV,Nat.reduceAdd,Nat.reduceSub,Nat.reduceLeDiff]
   rw [noteGo]
   simpa using this
 have:=go (piecesOf (behind - first)) [] first none (by simp; (first|lia|omega))
 simpa [notesEv] using this
noncomputable def barStep (b e:Int) (S:List Ev×Int) (c:Ch):List Ev×Int :=
 if (if b > c.1 then b else c.1) < (if e < cend c then e else cend c) then
  ((S.1++restsOf ((if b > c.1 then b else c.1) - S.2))++notesEv c (if b > c.1 then b else c.1) (if e < cend c then e else cend c),if e < cend c then e else cend c)
 else S
noncomputable def barS (v:List Ch) (b e:Int):List Ev×Int:=v.foldl (barStep b e) ([],b)
noncomputable def barEv (v:List Ch) (b e:Int):List Ev:=(barS v b e).1++restsOf (e - (barS v b e).2)
structure Vo (v:List Ch):Prop where
 up:v.Pairwise fun a b=>cend a ≤ b.1
 b:∀ c∈v,0 ≤ c.1∧1 ≤ c.2.1∧cend c ≤ 1400
noncomputable abbrev Wk:=List Ch×Int×Option (Int×List Int)
noncomputable def walk1:Wk→Ev→Option Wk
 | (told,t,none),.rest v=>some (told,t+v,none)
 | (_,_,some _),.rest _=>none
 | (told,t,none),.note v ps tied=>if tied then some (told,t+v,some (t,ps)) else some (told++[(t,t+v - t,ps)],t+v,none)
 | (told,t,some g),.note v ps tied=>if ps=g.2 then (if tied then some (told,t+v,some g) else some (told++[(g.1,t+v - g.1,ps)],t+v,none)) else none
noncomputable def walkL:List Ev→Wk→Option Wk
 | [],S=>some S
 | e::es,S=>(walk1 S e).bind (walkL es)
theorem walk_app:∀ (a b:List Ev) (S:Wk),walkL (a++b) S=(walkL a S).bind (walkL b)
 | [],b,S=>rfl
 | e::a,b,S=>by
  show (walk1 S e).bind (walkL (a++b))=((walk1 S e).bind (walkL a)).bind (walkL b)
  cases walk1 S e with
  | none=>rfl
  | some S'=>exact walk_app a b S'
theorem walk_rests:∀ (vs:List Int) (told:List Ch) (t:Int),walkL (vs.map .rest) (told,t,none)=some (told,t+vs.sum,none)
 | [],told,t=>by simp [walkL]
 | v::vs,told,t=>by
  show walkL (vs.map .rest) (told,t+v,none)=_
  rw [walk_rests vs told (t+v),List.sum_cons,Int.add_assoc]
theorem sum_pos:∀ (vs:List Int),(∀ x∈vs,0 < x)→vs≠[]→0 < vs.sum
 | [],_,h=>absurd rfl h
 | [v],hp,_=>by simpa using hp v (by simp)
 | v::w::vs,hp,_=>by
  have h1:=hp v (by simp)
  have h2:=sum_pos (w::vs) (fun x hx=>hp x (by simp [hx])) (by simp)
  rw [List.sum_cons]
  (first|lia|omega)
theorem walk_notes (c:Ch):∀ (vs:List Int) (told:List Ch) (t:Int) (go:Option (Int×List Int)),vs≠[]→(∀ x∈vs,0 < x)→(go=none∧t=c.1∨go=some (c.1,c.2.2))→t+vs.sum ≤ cend c →
  walkL (noteGo c t vs) (told,t,go)=if t+vs.sum=cend c then some (told++[c],cend c,none) else some (told,t+vs.sum,some (c.1,c.2.2))
 | [],_,_,_,h,_,_,_=>absurd rfl h
 | [v],told,t,go,_,hp,hg,hs=>by
  simp only [List.sum_cons,List.sum_nil,Int.add_zero] at hs ⊢
  have ec:cend c - c.1=c.2.1:=by unfold cend; (first|lia|omega)
  by_cases g:t+v=cend c
  ·rw [if_pos g]
   have d:decide (t+v < cend c)=false:=by simp; (first|lia|omega)
   rcases hg with ⟨rfl,rfl⟩|rfl
   ·simp only [noteGo,walkL,walk1,d,Bool.false_eq_true,if_false,Option.bind_some]
    rw [g,ec]
   ·simp only [noteGo,walkL,walk1,d,Bool.false_eq_true,if_false,if_true,Option.bind_some]
    rw [g,ec]
  ·rw [if_neg g]
   have d:decide (t+v < cend c)=true:=by simp; (first|lia|omega)
   rcases hg with ⟨rfl,rfl⟩|rfl
   ·simp only [noteGo,walkL,walk1,d,if_true,Option.bind_some]
   ·simp only [noteGo,walkL,walk1,d,if_true,Option.bind_some]
 | v::w::vs,told,t,go,_,hp,hg,hs=>by
  have p1:=sum_pos (w::vs) (fun x hx=>hp x (by simp [hx])) (by simp)
  rw [List.sum_cons] at hs ⊢
  have d:decide (t+v < cend c)=true:=by simp; (first|lia|omega)
  have ih:=walk_notes c (w::vs) told (t+v) (some (c.1,c.2.2)) (by simp) (fun x hx=>hp x (by simp [hx])) (.inr rfl) (by (first|lia|omega))
  rw [← Int.add_assoc]
  rw [noteGo]
  rcases hg with ⟨rfl,rfl⟩|rfl
  ·simp only [walkL,walk1,d,if_true,Option.bind_some]
   exact ih
  ·simp only [walkL,walk1,d,if_true,Option.bind_some]
   exact ih
noncomputable def toldAt (v:List Ch) (t:Int):List Ch:=v.filter fun c=>decide (cend c ≤ t)
noncomputable def goingAt (v:List Ch) (t:Int):Option (Int×List Int):=(v.find? fun c=>decide (c.1 < t) && decide (t < cend c)).map fun c=>(c.1,c.2.2)
noncomputable def W (v:List Ch) (t:Int):Wk:=(toldAt v t,t,goingAt v t)
theorem at_gap {v:List Ch} (V:Vo v) {f g:Int} (fg:f ≤ g) (h:∀ x∈v,cend x ≤ f∨g ≤ x.1):toldAt v g=toldAt v f∧goingAt v f=none∧goingAt v g=none:=by
 refine ⟨List.filter_congr fun x hx=>?_,?_,?_⟩
 ·have:=h x hx
  have:=(V.b x hx).2.1
  unfold cend at *
  simp
  (first|lia|omega)
 ·unfold goingAt
  rw [List.find?_eq_none.mpr]
  ·rfl
  ·intro x hx
   have:=h x hx
   have:=(V.b x hx).2.1
   unfold cend at *
   simp
   (first|lia|omega)
 ·unfold goingAt
  rw [List.find?_eq_none.mpr]
  ·rfl
  ·intro x hx
   have:=h x hx
   have:=(V.b x hx).2.1
   unfold cend at *
   simp
   (first|lia|omega)
theorem at_in {pre post:List Ch} {c:Ch} (V:Vo (pre++c::post)) {t:Int} (h1:c.1 ≤ t) (h2:t < cend c):toldAt (pre++c::post) t=pre∧goingAt (pre++c::post) t=if c.1 < t then some (c.1,c.2.2) else none:=by
 have up:=List.pairwise_append.mp V.up
 have hpre:∀ x∈pre,cend x ≤ c.1:=fun x hx=>up.2.2 x hx c (by simp)
 have hpost:∀ x∈post,cend c ≤ x.1:=fun x hx=>(List.pairwise_cons.mp up.2.1).1 x hx
 have fpre:pre.filter (fun c=>decide (cend c ≤ t))=pre:=List.filter_eq_self.mpr fun x hx=>by have:=hpre x hx; simp; (first|lia|omega)
 have fpost:post.filter (fun c=>decide (cend c ≤ t))=[]:=List.filter_eq_nil_iff.mpr fun x hx=>by
  have:=hpost x hx
  have:=(V.b x (by simp [hx])).2.1
  unfold cend at *
  simp; (first|lia|omega)
 refine ⟨?_,?_⟩
 ·unfold toldAt
  rw [List.filter_append,fpre,List.filter_cons_of_neg (by simp; (first|lia|omega)),fpost,List.append_nil]
 ·unfold goingAt
  have n1:pre.find? (fun c=>decide (c.1 < t) && decide (t < cend c))=none:=List.find?_eq_none.mpr fun x hx=>by have:=hpre x hx; simp; (first|lia|omega)
  rw [List.find?_append,n1]
  by_cases g:c.1 < t
  ·rw [if_pos g,List.find?_cons_of_pos (by simp; (first|lia|omega))]
   rfl
  ·rw [if_neg g,List.find?_cons_of_neg (by simp; (first|lia|omega)),List.find?_eq_none.mpr]
   ·rfl
   ·intro x hx
    have:=hpost x hx
    simp; (first|lia|omega)
theorem at_end {pre post:List Ch} {c:Ch} (V:Vo (pre++c::post)):toldAt (pre++c::post) (cend c)=pre++[c]∧goingAt (pre++c::post) (cend c)=none:=by
 have up:=List.pairwise_append.mp V.up
 have bc:=V.b c (by simp)
 have hpre:∀ x∈pre,cend x ≤ c.1:=fun x hx=>up.2.2 x hx c (by simp)
 have hpost:∀ x∈post,cend c ≤ x.1:=fun x hx=>(List.pairwise_cons.mp up.2.1).1 x hx
 have lc:c.1 < cend c:=by unfold cend; (first|lia|omega)
 have fpre:pre.filter (fun x=>decide (cend x ≤ cend c))=pre:=List.filter_eq_self.mpr fun x hx=>by have:=hpre x hx; simp; (first|lia|omega)
 have fpost:post.filter (fun x=>decide (cend x ≤ cend c))=[]:=List.filter_eq_nil_iff.mpr fun x hx=>by
  have h1:=hpost x hx
  have h2:=(V.b x (by simp [hx])).2.1
  have:x.1 < cend x:=by unfold cend; (first|lia|omega)
  simp; (first|lia|omega)
 refine ⟨?_,?_⟩
 ·unfold toldAt
  rw [List.filter_append,fpre,List.filter_cons_of_pos (by simp),fpost]
 ·unfold goingAt
  rw [List.find?_eq_none.mpr]
  ·rfl
  ·intro x hx
   rcases List.mem_append.mp hx with hx|hx
   ·have:=hpre x hx; simp; (first|lia|omega)
   ·rcases List.mem_cons.mp hx with rfl|hx
    ·simp
    ·have:=hpost x hx; simp; (first|lia|omega)
structure BarI (v pre:List Ch) (b e:Int) (S:List Ev×Int):Prop where
 lo:b ≤ S.2
 hi:S.2 ≤ e
 done:∀ x∈pre,cend x ≤ S.2∨e ≤ x.1∨S.2=e
 from_:S.2=b∨∃ x∈pre,S.2 ≤ cend x
 len:(S.1.length:Int) ≤ S.2 - b
 wk:walkL S.1 (W v b)=some (W v S.2)
theorem pieces0:piecesOf 0=[]:=by decide
theorem bar_act {v pre post:List Ch} {c:Ch} {b e first behind:Int} {S:List Ev×Int} (V:Vo v) (ev:v=pre++c::post) (I:BarI v pre b e S)
  (hf:first=b∧c.1 < b∨first=c.1∧b ≤ c.1) (hb:behind=e∧e < cend c∨behind=cend c∧cend c ≤ e) (act:first < behind) :
  BarI v (pre++[c]) b e ((S.1++restsOf (first - S.2))++notesEv c first behind,behind)∧S.2 ≤ first∧behind ≤ e:=by
 have V':=V
 rw [ev] at V'
 have up:=List.pairwise_append.mp V'.up
 have hpre:∀ x∈pre,cend x ≤ c.1:=fun x hx=>up.2.2 x hx c (by simp)
 have hpost:∀ x∈post,cend c ≤ x.1:=fun x hx=>(List.pairwise_cons.mp up.2.1).1 x hx
 have bc:=V'.b c (by simp)
 have lc:c.1 < cend c:=by unfold cend; (first|lia|omega)
 have lo:=I.lo
 have hi:=I.hi
 have ce:c.1 < e:=by (first|lia|omega)
 have notE:S.2≠e:=fun z=>by
  rcases I.from_ with q|⟨x,hx,q⟩
  ·(first|lia|omega)
  ·have:=hpre x hx; (first|lia|omega)
 have allpre:∀ x∈pre,cend x ≤ S.2:=fun x hx=>by
  rcases I.done x hx with q|q|q
  ·exact q
  ·have h1:=hpre x hx
   have h2:=(V'.b x (by simp [hx])).2.1
   have:x.1 < cend x:=by unfold cend; (first|lia|omega)
   (first|lia|omega)
  ·exact absurd q notE
 have fle:S.2 ≤ first:=by
  rcases I.from_ with q|⟨x,hx,q⟩
  ·(first|lia|omega)
  ·have:=hpre x hx; (first|lia|omega)
 have w1:walkL (restsOf (first - S.2)) (W v S.2)=some (W v first):=by
  by_cases z:first=S.2
  ·have:first - S.2=0:=by (first|lia|omega)
   rw [this,restsOf,pieces0,z]
   rfl
  ·have fc:first=c.1:=by (first|lia|omega)
   obtain ⟨g1,g2,g3⟩:=at_gap (v:=v) (f:=S.2) (g:=first) V fle (fun x hx=>by
    rw [ev] at hx
    rcases List.mem_append.mp hx with hx|hx
    ·exact .inl (allpre x hx)
    ·rcases List.mem_cons.mp hx with rfl|hx
     ·exact .inr (by (first|lia|omega))
     ·have:=hpost x hx; exact .inr (by (first|lia|omega)))
   unfold W
   rw [g2,restsOf,walk_rests,pieces_sum _ (by (first|lia|omega)),g1,g3]
   congr 3
   (first|lia|omega)
 have np:piecesOf (behind - first)≠[]:=fun z=>by
  have:=pieces_sum (behind - first) (by (first|lia|omega))
  rw [z] at this
  simp at this
  (first|lia|omega)
 have ps:=pieces_sum (behind - first) (by (first|lia|omega))
 have w2:walkL (notesEv c first behind) (W v first)=some (W v behind):=by
  obtain ⟨a1,a2⟩:=at_in V' (t:=first) (by (first|lia|omega)) (by (first|lia|omega))
  have wn:=walk_notes c (piecesOf (behind - first)) pre first (goingAt v first) np (pieces_pos _) (by
   rw [ev,a2]
   by_cases g:c.1 < first
   ·rw [if_pos g]; exact .inr rfl
   ·rw [if_neg g]; exact .inl ⟨rfl,by (first|lia|omega)⟩) (by (first|lia|omega))
  rw [ps,show first+(behind - first)=behind by (first|lia|omega)] at wn
  have eW:W v first=(pre,first,goingAt v first):=by unfold W; rw [ev,a1]
  rw [eW,notesEv,wn]
  by_cases g:behind=cend c
  ·rw [if_pos g]
   obtain ⟨b1,b2⟩:=at_end V'
   unfold W
   rw [g,ev,b1,b2]
  ·rw [if_neg g]
   obtain ⟨b1,b2⟩:=at_in V' (t:=behind) (by (first|lia|omega)) (by (first|lia|omega))
   unfold W
   rw [ev,b1,b2,if_pos (by (first|lia|omega))]
 refine ⟨⟨by dsimp only; (first|lia|omega),by dsimp only; (first|lia|omega),fun x hx=>?_,?_,?_,?_⟩,fle,by (first|lia|omega)⟩
 ·dsimp only
  rcases List.mem_append.mp hx with hx|hx
  ·exact .inl (by have:=allpre x hx; (first|lia|omega))
  ·simp at hx
   subst hx
   rcases hb with ⟨h1,h2⟩|⟨h1,h2⟩
   ·exact .inr (.inr h1)
   ·exact .inl (by (first|lia|omega))
 ·exact .inr ⟨c,by simp,by dsimp only; (first|lia|omega)⟩
 ·have l1:=pieces_len (first - S.2) (by (first|lia|omega))
  have l2:=pieces_len (behind - first) (by (first|lia|omega))
  have l3:=I.len
  dsimp only
  rw [List.length_append,List.length_append,restsOf,List.length_map,notesEv,noteGo_len]
  (first|lia|omega)
 ·dsimp only
  rw [walk_app,walk_app,I.wk]
  show ((walkL (restsOf (first - S.2)) (W v S.2)).bind _)=_
  rw [w1]
  exact w2
theorem bar_skip {v pre:List Ch} {c:Ch} {b e first behind:Int} {S:List Ev×Int} (I:BarI v pre b e S)
  (hf:first=b∧c.1 < b∨first=c.1∧b ≤ c.1) (hb:behind=e∧e < cend c∨behind=cend c∧cend c ≤ e) (be:b < e) (lc:c.1 < cend c) (act:¬ first < behind):BarI v (pre++[c]) b e S:=by
 have lo:=I.lo
 refine ⟨I.lo,I.hi,fun x hx=>?_,?_,I.len,I.wk⟩
 ·rcases List.mem_append.mp hx with hx|hx
  ·exact I.done x hx
  ·simp at hx
   subst hx
   by_cases q:cend x ≤ b
   ·exact .inl (by (first|lia|omega))
   ·exact .inr (.inl (by (first|lia|omega)))
 ·rcases I.from_ with q|⟨x,hx,q⟩
  ·exact .inl q
  ·exact .inr ⟨x,by simp [hx],q⟩
theorem first_is (b:Int) (c:Ch):(if b > c.1 then b else c.1)=b∧c.1 < b∨(if b > c.1 then b else c.1)=c.1∧b ≤ c.1:=by
 by_cases h:b > c.1
 ·rw [if_pos h]; exact .inl ⟨rfl,h⟩
 ·rw [if_neg h]; exact .inr ⟨rfl,by (first|lia|omega)⟩
theorem behind_is (e:Int) (c:Ch):(if e < cend c then e else cend c)=e∧e < cend c∨(if e < cend c then e else cend c)=cend c∧cend c ≤ e:=by
 by_cases h:e < cend c
 ·rw [if_pos h]; exact .inl ⟨rfl,h⟩
 ·rw [if_neg h]; exact .inr ⟨rfl,by (first|lia|omega)⟩
theorem bar_step {v pre post:List Ch} {c:Ch} {b e:Int} {S:List Ev×Int} (V:Vo v) (be:b < e) (ev:v=pre++c::post) (I:BarI v pre b e S):BarI v (pre++[c]) b e (barStep b e S c):=by
 have bc:=V.b c (by rw [ev]; simp)
 unfold barStep
 by_cases act:(if b > c.1 then b else c.1) < (if e < cend c then e else cend c)
 ·rw [if_pos act]
  exact (bar_act V ev I (first_is b c) (behind_is e c) act).1
 ·rw [if_neg act]
  exact bar_skip I (first_is b c) (behind_is e c) be (by unfold cend; (first|lia|omega)) act
theorem bar_inv {v:List Ch} {b e:Int} (V:Vo v) (be:b < e):∀ (post pre:List Ch) (S:List Ev×Int),v=pre++post→BarI v pre b e S→BarI v v b e (post.foldl (barStep b e) S)
 | [],pre,S,ev,I=>by rw [List.append_nil] at ev; subst ev; exact I
 | c::post,pre,S,ev,I=>by
  rw [List.foldl_cons]
  exact bar_inv V be post (pre++[c]) _ (by rw [ev]; simp) (bar_step V be ev I)
theorem bar_start {v:List Ch} {b e:Int} (be:b < e):BarI v [] b e ([],b):=⟨by dsimp only; (first|lia|omega),by dsimp only; (first|lia|omega),fun x hx=>by simp at hx,.inl rfl,by simp,rfl⟩
theorem bar_take {v:List Ch} {b e:Int} (V:Vo v) (be:b < e) (i:Nat):BarI v (v.take i) b e ((v.take i).foldl (barStep b e) ([],b)):=by
 have go:∀ (post pre:List Ch) (S:List Ev×Int) (rest:List Ch),v=pre++post++rest→BarI v pre b e S→BarI v (pre++post) b e (post.foldl (barStep b e) S):=by
  intro post
  induction post with
  | nil=>intro pre S rest _ I; simpa using I
  | cons c post ih =>
   intro pre S rest ev I
   rw [List.foldl_cons]
   have:=ih (pre++[c]) (barStep b e S c) rest (by rw [ev]; simp) (bar_step V be (post:=post++rest) (by rw [ev]; simp) I)
   simpa using this
 have:=go (v.take i) [] ([],b) (v.drop i) (by simp) (bar_start be)
 simpa using this
theorem bar_len {v:List Ch} {b e:Int} (V:Vo v) (be:b < e):((barEv v b e).length:Int) ≤ e - b:=by
 have I:=bar_inv V be v [] ([],b) rfl (bar_start be)
 have l1:=I.len
 have hi:=I.hi
 have l2:=pieces_len (e - (v.foldl (barStep b e) ([],b)).2) (by (first|lia|omega))
 unfold barEv barS
 rw [List.length_append,restsOf,List.length_map]
 (first|lia|omega)
noncomputable def addC (acc:List Ch) (c:Ch):List Ch:=match acc.getLast? with
 | none=>acc++[c]
 | some q=>if cend q ≤ c.1 then acc++[c] else acc
noncomputable def voiceOf (row:List Ch):List Ch:=row.foldl addC []
theorem addC_len (acc:List Ch) (c:Ch):(addC acc c).length ≤ acc.length+1:=by
 unfold addC
 split
 ·simp
 ·split <;> simp
theorem voice_len:∀ (row acc:List Ch),(row.foldl addC acc).length ≤ acc.length+row.length
 | [],acc=>Nat.le_refl _
 | c::row,acc=>by
  have h1:=voice_len row (addC acc c)
  have h2:=addC_len acc c
  simp only [List.foldl_cons,List.length_cons]
  (first|lia|omega)
theorem addC_vo {acc:List Ch} {c:Ch} (V:Vo acc) (hc:0 ≤ c.1∧1 ≤ c.2.1∧cend c ≤ 1400):Vo (addC acc c):=by
 have app:(∀ x∈acc,cend x ≤ c.1)→Vo (acc++[c]):=fun h=>by
  refine ⟨?_,fun x hx=>?_⟩
  ·rw [List.pairwise_append]
   exact ⟨V.up,List.pairwise_singleton _ _,fun a ha b hb=>by simp at hb; subst hb; exact h a ha⟩
  ·rcases List.mem_append.mp hx with hx|hx
   ·exact V.b x hx
   ·simp at hx; subst hx; exact hc
 unfold addC
 cases hg:acc.getLast? with
 | none =>
  have hn:=List.getLast?_eq_none_iff.mp hg
  subst hn
  exact app fun x hx=>by simp at hx
 | some q =>
  dsimp only
  by_cases h:cend q ≤ c.1
  ·rw [if_pos h]
   refine app fun x hx=>?_
   obtain ⟨init,rfl⟩:∃ init,acc=init++[q]:=by
    obtain ⟨i,e⟩:=List.getLast?_eq_some_iff.mp hg
    exact ⟨i,e⟩
   rcases List.mem_append.mp hx with hx|hx
   ·have h1:=(List.pairwise_append.mp V.up).2.2 x hx q (by simp)
    have h2:=(V.b q (by simp)).2.1
    unfold cend at *
    (first|lia|omega)
   ·simp at hx; subst hx; exact h
  ·rw [if_neg h]; exact V
theorem voice_vo:∀ (row acc:List Ch),(∀ c∈row,0 ≤ c.1∧c.1 ≤ 1000∧1 ≤ c.2.1∧c.2.1 ≤ 400)→Vo acc→Vo (row.foldl addC acc)
 | [],acc,_,V=>V
 | c::row,acc,h,V=>by
  have hc:=h c (by simp)
  exact voice_vo row _ (fun x hx=>h x (by simp [hx])) (addC_vo V ⟨hc.1,hc.2.2.1,by unfold cend; (first|lia|omega)⟩)
theorem voice_eq (ns:List Int) (hl:ns.length ≤ 63) (wd:Bool):D__law_voice [.fz (.lst (ns.map D.int)),.fz (.bl wd)]=.ok (.ow (.lst ((voiceOf (rowOf (notesOf ns wd))).map chD))):=by
 have hz:sz=16777216:=rfl
 have rl:(rowOf (notesOf ns wd)).length ≤ 24:=Nat.le_trans (row_len _) (notes_len ns wd)
 unfold D__law_voice B__law_voice voiceOf
 simp only [EV,Nat.reduceAdd,Nat.reduceSub,Nat.reduceLeDiff]
 rw [x_iSeq (w:=.ow (.lst ((rowOf (notesOf ns wd)).map chD))) (by simp only [EV,Nat.reduceAdd,Nat.reduceSub,Nat.reduceLeDiff,row_eq ns hl wd]) rfl]
 simp only [EV,Nat.reduceAdd,Nat.reduceSub,Nat.reduceLeDiff]
 have go:∀ (row acc:List Ch) (j3:Option En),acc.length+row.length ≤ 100 →
   fin ((forD (gV 3) (sIf (L3.tOr (L3.tNot (tE (eVar 2))) (tE (eOp dLe (eOp dAddA (eOp dIxS (eOp dIxS (eVar 2) (eUn dNeg (eC (.int 1)))) (eC (.int 0))) (eOp dIxS (eOp dIxS (eVar 2) (eUn dNeg (eC (.int 1)))) (eC (.int 1)))) (eOp dIxS (eVar 3) (eC (.int 0)))))) (sApp 2 (eVar 3)) sNext) (row.map chD)
    [some (.fz (.lst (ns.map D.int))),some (.fz (.bl wd)),some (.ow (.lst (acc.map chD))),j3]).th (sRetV 2))=.ok (.ow (.lst ((row.foldl addC acc).map chD))):=by
  intro row
  induction row with
  | nil=>intro acc j3 _; rfl
  | cons c row ih =>
   intro acc j3 hb
   rw [List.length_cons] at hb
   rw [List.map_cons,List.foldl_cons]
   unfold forD
   have app:=ih (acc++[c]) (some (.fz (chD c))) (by simp; (first|lia|omega))
   have keep:=ih acc (some (.fz (chD c))) (by (first|lia|omega))
   have sap:sApp 2 (eVar 3) [some (.fz (.lst (ns.map D.int))),some (.fz (.bl wd)),some (.ow (.lst (acc.map chD))),some (.fz (chD c))]=.nx [some (.fz (.lst (ns.map D.int))),some (.fz (.bl wd)),some (.ow (.lst ((acc++[c]).map chD))),some (.fz (chD c))]:=by
    rw [x_app (xs:=acc.map chD) (d:=chD c) rfl (by rw [List.length_map,hz]; (first|lia|omega)) (by simp only [EV,Nat.reduceAdd,Nat.reduceSub,Nat.reduceLeDiff])]
    simp
   unfold addC
   cases hg:acc.getLast? with
   | none =>
    have hn:=List.getLast?_eq_none_iff.mp hg
    subst hn
    simp only [EV,Nat.reduceAdd,Nat.reduceSub,Nat.reduceLeDiff,List.isEmpty_nil]
    rw [List.map_nil] at sap
    rw [sap]
    exact app
   | some q =>
    have ie:(acc.map chD).isEmpty=false:=by
     cases acc with
     | nil=>simp at hg
     | cons a b=>rfl
    have la:okD (ati (acc.map chD) (-1))=.ok (.fz (.tup [.int q.1,.int q.2.1,.tup (q.2.2.map D.int)])):=by rw [ati_last,List.getLast?_map,hg]; rfl
    have lc:∀ ρ:Rho,ρ[3]?=some (some (.fz (chD c)))→(eOp dIxS (eVar 3) (eC (.int 0))) ρ=.ok (.fz (.int c.1)):=fun ρ h=>by
     simp only [x_op,x_var,h,x_varR_fz,x_c,x_b_ok,x_d_fz,chD,x_ix_t,x_ati0]
    dsimp only
    by_cases h:cend q ≤ c.1
    ·rw [if_pos h]
     have d:decide (q.1+q.2.1 ≤ c.1)=true:=by unfold cend at h; simpa using h
     simp only [EV,Nat.reduceAdd,Nat.reduceSub,Nat.reduceLeDiff,ie,Int.reduceNeg,la,chD,d]
     have sap':sApp 2 (eVar 3) [some (.fz (.lst (ns.map D.int))),some (.fz (.bl wd)),some (.ow (.lst (acc.map chD))),some (.fz (.tup [.int c.1,.int c.2.1,.tup (c.2.2.map D.int)]))]=_:=sap
     rw [sap']
     exact app
    ·rw [if_neg h]
     have d:decide (q.1+q.2.1 ≤ c.1)=false:=by unfold cend at h; simpa using h
     simp only [EV,Nat.reduceAdd,Nat.reduceSub,Nat.reduceLeDiff,ie,Int.reduceNeg,la,chD,d]
     exact keep
 exact go _ [] none (by simp; (first|lia|omega))
theorem lengths_eq {ms:List (Int×Int×Int)} (f:Fine ms) (l:Lens ms) (en:Int) (he:en ≤ 1401) :
  ∃ n:Nat,D__law_lengths [.fz (.lst (ms.map barD)),.fz (.int en)]=.ok (.ow (.lst ((List.range n).map fun k:Nat=>D.int (dueV ms k))))∧1 ≤ n∧n ≤ 177∧en ≤ aheadV ms n:=by
 have hz:sz=16777216:=rfl
 have hl:=f.2.2.2
 have a0:=fun B=>ahead_mono f l 0 B
 simp only [Nat.zero_add,ahead_zero,Int.zero_add] at a0
 have go:∀ (k i fuel:Nat),177 - i ≤ k→k < fuel→i ≤ 177 →
   ∃ n:Nat,whileD (L3.tOr (L3.tNot (tE (eVar 2))) (tE (eOp dLt (eB dSum [(eVar 2)]) (eVar 1)))) (sApp 2 (eOp dIxS (eComp 1 (iVc 0) (gV 3) (tE (eOp dLe (eOp dIxS (eVar 3) (eC (.int 0))) (eB dLenA [(eVar 2)]))) (eOp dMul (eOp dIxS (eVar 3) (eC (.int 1))) (eOp dIxS (eVar 3) (eC (.int 2))))) (eUn dNeg (eC (.int 1))))) fuel
    [some (.fz (.lst (ms.map barD))),some (.fz (.int en)),some (.ow (.lst ((List.range i).map fun k:Nat=>D.int (dueV ms k))))] =
    .nx [some (.fz (.lst (ms.map barD))),some (.fz (.int en)),some (.ow (.lst ((List.range n).map fun k:Nat=>D.int (dueV ms k))))]∧1 ≤ n∧n ≤ 177∧en ≤ aheadV ms n:=by
  intro k
  induction k with
  | zero =>
   intro i fuel h1 h2 h3
   obtain ⟨fuel,rfl⟩:∃ x,fuel=x+1:=⟨fuel - 1,by (first|lia|omega)⟩
   have ei:i=177:=by (first|lia|omega)
   subst ei
   refine ⟨177,?_,by (first|lia|omega),by (first|lia|omega),?_⟩
   ·have ie:((List.range 177).map fun k:Nat=>D.int (dueV ms k)).isEmpty=false:=by
     rw [List.isEmpty_map]; rfl
    have sm:=x_sum ((List.range 177).map fun k:Nat=>dueV ms k)
    rw [List.map_map] at sm
    have sm:dSum [.lst ((List.range 177).map fun k:Nat=>D.int (dueV ms k))]=.ok (.fz (.int (aheadV ms 177))):=sm
    have d:decide (aheadV ms 177 < en)=false:=by have:=a0 177; simp; (first|lia|omega)
    unfold whileD
    simp only [EV,Nat.reduceAdd,Nat.reduceSub,Nat.reduceLeDiff,ie,sm,d,Bool.false_eq_true,if_false]
   ·have:=a0 177; (first|lia|omega)
  | succ k ih =>
   intro i fuel h1 h2 h3
   obtain ⟨fuel,rfl⟩:∃ x,fuel=x+1:=⟨fuel - 1,by (first|lia|omega)⟩
   have sm:=x_sum ((List.range i).map fun k:Nat=>dueV ms k)
   rw [List.map_map] at sm
   have sm:dSum [.lst ((List.range i).map fun k:Nat=>D.int (dueV ms k))]=.ok (.fz (.int (aheadV ms i))):=sm
   have more:i < 177→∃ n:Nat,(match (sApp 2 (eOp dIxS (eComp 1 (iVc 0) (gV 3) (tE (eOp dLe (eOp dIxS (eVar 3) (eC (.int 0))) (eB dLenA [(eVar 2)]))) (eOp dMul (eOp dIxS (eVar 3) (eC (.int 1))) (eOp dIxS (eVar 3) (eC (.int 2))))) (eUn dNeg (eC (.int 1)))))
     [some (.fz (.lst (ms.map barD))),some (.fz (.int en)),some (.ow (.lst ((List.range i).map fun k:Nat=>D.int (dueV ms k))))] with
     | .nx ρ2=>whileD (L3.tOr (L3.tNot (tE (eVar 2))) (tE (eOp dLt (eB dSum [(eVar 2)]) (eVar 1)))) (sApp 2 (eOp dIxS (eComp 1 (iVc 0) (gV 3) (tE (eOp dLe (eOp dIxS (eVar 3) (eC (.int 0))) (eB dLenA [(eVar 2)]))) (eOp dMul (eOp dIxS (eVar 3) (eC (.int 1))) (eOp dIxS (eVar 3) (eC (.int 2))))) (eUn dNeg (eC (.int 1))))) fuel ρ2
     | .ct ρ2=>whileD (L3.tOr (L3.tNot (tE (eVar 2))) (tE (eOp dLt (eB dSum [(eVar 2)]) (eVar 1)))) (sApp 2 (eOp dIxS (eComp 1 (iVc 0) (gV 3) (tE (eOp dLe (eOp dIxS (eVar 3) (eC (.int 0))) (eB dLenA [(eVar 2)]))) (eOp dMul (eOp dIxS (eVar 3) (eC (.int 1))) (eOp dIxS (eVar 3) (eC (.int 2))))) (eUn dNeg (eC (.int 1))))) fuel ρ2
     | .bk ρ2=>.nx ρ2
     | o=>o)=.nx [some (.fz (.lst (ms.map barD))),some (.fz (.int en)),some (.ow (.lst ((List.range n).map fun k:Nat=>D.int (dueV ms k))))]∧1 ≤ n∧n ≤ 177∧en ≤ aheadV ms n:=fun hi=>by
    rw [x_app (xs:=(List.range i).map fun k:Nat=>D.int (dueV ms k)) (d:=.int (dueV ms i)) rfl (by rw [List.length_map,List.length_range,hz]; (first|lia|omega)) (by
     simp only [EV,Nat.reduceAdd,Nat.reduceSub,Nat.reduceLeDiff]
     rw [comp_eq (ds:=ms.map barD) (ys:=(dueL ms i).map D.int) (x_iVc (w:=.fz (.lst (ms.map barD))) rfl rfl) (by rw [List.length_map,hz]; (first|lia|omega)) (by
      rw [← comp_due]
      refine comp_gV 3 (pD i) fD _ _ fun d hd=>?_
      obtain ⟨p,hp,rfl⟩:=List.mem_map.mp hd
      have hb:=f.2.1 p hp
      refine ⟨by simp only [cRho,ro,EV,Nat.reduceAdd,Nat.reduceSub,Nat.reduceLeDiff,barD,pD,List.length_map,List.length_range],fun _=>⟨.fz (.int (p.2.1 * p.2.2)),?_,rfl⟩⟩
      simp only [cRho,ro,EV,Nat.reduceAdd,Nat.reduceSub,Nat.reduceLeDiff,barD,x_mull (i:=p.2.1) (j:=p.2.2) (by (first|lia|omega)) (by (first|lia|omega))])]
     simp only [EV,Nat.reduceAdd,Nat.reduceSub,Nat.reduceLeDiff,Int.reduceNeg,ati_last,List.getLast?_map,due_last f i,Option.map_some])]
    have:=ih (i+1) fuel (by (first|lia|omega)) (by (first|lia|omega)) (by (first|lia|omega))
    rw [List.range_succ,List.map_append] at this
    exact this
   cases i with
   | zero =>
    obtain ⟨n,m1,m2⟩:=more (by (first|lia|omega))
    refine ⟨n,?_,m2⟩
    unfold whileD
    simp only [EV,Nat.reduceAdd,Nat.reduceSub,Nat.reduceLeDiff,List.range_zero,List.isEmpty_nil]
    rw [List.range_zero,List.map_nil] at m1
    exact m1
   | succ i =>
    have ie:((List.range (i+1)).map fun k:Nat=>D.int (dueV ms k)).isEmpty=false:=by
     rw [List.isEmpty_map,List.range_succ_eq_map]; rfl
    by_cases g:aheadV ms (i+1) < en
    ·have d:decide (aheadV ms (i+1) < en)=true:=by simpa using g
     have:=a0 (i+1)
     obtain ⟨n,m1,m2⟩:=more (by (first|lia|omega))
     refine ⟨n,?_,m2⟩
     unfold whileD
     simp only [EV,Nat.reduceAdd,Nat.reduceSub,Nat.reduceLeDiff,ie,sm,d]
     exact m1
    ·have d:decide (aheadV ms (i+1) < en)=false:=by simpa using g
     refine ⟨i+1,?_,by (first|lia|omega),h3,by (first|lia|omega)⟩
     unfold whileD
     simp only [EV,Nat.reduceAdd,Nat.reduceSub,Nat.reduceLeDiff,ie,sm,d,Bool.false_eq_true,if_false]
 obtain ⟨n,e,r⟩:=go 177 0 200 (by (first|lia|omega)) (by (first|lia|omega)) (by (first|lia|omega))
 refine ⟨n,?_,r⟩
 unfold D__law_lengths B__law_lengths sWhile
 simp only [EV,Nat.reduceAdd,Nat.reduceSub,Nat.reduceLeDiff]
 rw [List.range_zero,List.map_nil] at e
 rw [e]
 simp only [EV,Nat.reduceAdd,Nat.reduceSub,Nat.reduceLeDiff]
noncomputable def barsOf (v:List Ch) (ms:List (Int×Int×Int)) (n:Nat):List (List Ev):=(List.range n).map fun i=>barEv v (aheadV ms i) (aheadV ms (i+1))
noncomputable def barsD (bs:List (List Ev)):List D:=bs.map fun es=>D.lst (es.map evD)
noncomputable def diffs:List Int→List Int
 | x::y::r=>(y - x)::diffs (y::r)
 | _=>[]
noncomputable def btw (M:List Int) (x y:Int):List Int:=M.filter fun m=>decide (x ≤ m) && decide (m ≤ y)
noncomputable def gapsOf (M:List Int) (x y:Int):List Int:=(diffs (btw M x y)).flatMap piecesOf
noncomputable abbrev UpI (M:List Int):Prop:=M.Pairwise (· < ·)
theorem diffs_join:∀ (a:List Int) (y:Int) (b:List Int),diffs (a++y::b)=diffs (a++[y])++diffs (y::b)
 | [],y,b=>by simp [diffs]
 | [x],y,b=>by simp [diffs]
 | x::z::a,y,b=>by
  have ih:=diffs_join (z::a) y b
  simp only [List.cons_append,diffs] at ih ⊢
  rw [ih]
theorem btw_split {M:List Int} (u:UpI M) {x y z:Int} (h1:x ≤ y) (h2:y ≤ z) (hy:y∈M):∃ a b,btw M x z=a++y::b∧btw M x y=a++[y]∧btw M y z=y::b:=by
 obtain ⟨p,q,rfl⟩:=List.append_of_mem hy
 have up:=List.pairwise_append.mp u
 have hp:∀ m∈p,m < y:=fun m hm=>up.2.2 m hm y (by simp)
 have hq:∀ m∈q,y < m:=fun m hm=>(List.pairwise_cons.mp up.2.1).1 m hm
 have e1:p.filter (fun m=>decide (x ≤ m) && decide (m ≤ z))=p.filter (fun m=>decide (x ≤ m) && decide (m ≤ y)):=List.filter_congr fun m hm=>by have:=hp m hm; rw [decide_eq_true (show m ≤ z by (first|lia|omega)),decide_eq_true (show m ≤ y by (first|lia|omega))]
 have e2:p.filter (fun m=>decide (y ≤ m) && decide (m ≤ z))=[]:=List.filter_eq_nil_iff.mpr fun m hm=>by have:=hp m hm; simp; (first|lia|omega)
 have e3:q.filter (fun m=>decide (x ≤ m) && decide (m ≤ y))=[]:=List.filter_eq_nil_iff.mpr fun m hm=>by have:=hq m hm; simp; (first|lia|omega)
 have e4:q.filter (fun m=>decide (x ≤ m) && decide (m ≤ z))=q.filter (fun m=>decide (y ≤ m) && decide (m ≤ z)):=List.filter_congr fun m hm=>by have:=hq m hm; rw [decide_eq_true (show x ≤ m by (first|lia|omega)),decide_eq_true (show y ≤ m by (first|lia|omega))]
 refine ⟨p.filter (fun m=>decide (x ≤ m) && decide (m ≤ y)),q.filter (fun m=>decide (y ≤ m) && decide (m ≤ z)),?_,?_,?_⟩
 ·unfold btw; rw [List.filter_append,List.filter_cons_of_pos (by simp; (first|lia|omega)),e1,e4]
 ·unfold btw; rw [List.filter_append,List.filter_cons_of_pos (by simp; (first|lia|omega)),e3]
 ·unfold btw; rw [List.filter_append,List.filter_cons_of_pos (by simp; (first|lia|omega)),e2]; rfl
theorem gaps_join {M:List Int} (u:UpI M) {x y z:Int} (h1:x ≤ y) (h2:y ≤ z) (hy:y∈M):gapsOf M x z=gapsOf M x y++gapsOf M y z:=by
 obtain ⟨a,b,e1,e2,e3⟩:=btw_split u h1 h2 hy
 unfold gapsOf
 rw [e1,e2,e3,diffs_join,List.flatMap_append]
theorem btw_two {M:List Int} (u:UpI M) {x y:Int} (h:x < y) (hx:x∈M) (hy:y∈M) (no:∀ m∈M,m ≤ x∨y ≤ m):btw M x y=[x,y]:=by
 obtain ⟨a,b,e1,e2,e3⟩:=btw_split u (Int.le_of_lt h) (Int.le_refl y) hy
 obtain ⟨a',b',f1,f2,f3⟩:=btw_split u (Int.le_refl x) (Int.le_of_lt h) hx
 have one:∀ z∈M,btw M z z=[z]:=fun z hz=>by
  obtain ⟨p,q,rfl⟩:=List.append_of_mem hz
  have up:=List.pairwise_append.mp u
  unfold btw
  rw [List.filter_append,List.filter_cons_of_pos (by simp),List.filter_eq_nil_iff.mpr (fun m hm=>by have:=up.2.2 m hm z (by simp); simp; (first|lia|omega)),List.filter_eq_nil_iff.mpr (fun m hm=>by have:=(List.pairwise_cons.mp up.2.1).1 m hm; simp; (first|lia|omega))]
  rfl
 rw [one x hx] at f2
 have ha':a'=[]:=by
  cases a' with
  | nil=>rfl
  | cons c r=>have:=congrArg List.length f2; simp at this
 subst ha'
 rw [one y hy] at e3
 have hb:b=[]:=by cases e3; rfl
 subst hb
 rw [e1]
 rw [e1] at f1
 simp only [List.nil_append] at f1
 cases a with
 | nil =>
  simp at f1
  (first|lia|omega)
 | cons c a =>
  simp only [List.cons_append,List.cons.injEq] at f1
  obtain ⟨rfl,f1⟩:=f1
  cases a with
  | nil=>rfl
  | cons d a =>
   exfalso
   have hd:d∈btw M c y:=by rw [e1]; simp
   have hm:=List.mem_filter.mp hd
   have ub:UpI (btw M c y):=u.sublist List.filter_sublist
   rw [e1] at ub
   have k1:c < d:=(List.pairwise_cons.mp ub).1 d (by simp)
   have k2:d < y:=(List.pairwise_append.mp (List.pairwise_cons.mp ub).2).2.2 d (by simp) y (by simp)
   have:=no d hm.1
   (first|lia|omega)
theorem gaps_two {M:List Int} (u:UpI M) {x y:Int} (h:x ≤ y) (hx:x∈M) (hy:y∈M) (no:∀ m∈M,m ≤ x∨y ≤ m):gapsOf M x y=piecesOf (y - x):=by
 by_cases e:x=y
 ·subst e
  have:=gaps_join u (Int.le_refl x) (Int.le_refl x) hx
  have z:gapsOf M x x=[]:=by
   have l:=congrArg List.length this
   rw [List.length_append] at l
   exact List.length_eq_zero_iff.mp (by (first|lia|omega))
  rw [z,Int.sub_self,pieces0]
 ·unfold gapsOf
  rw [btw_two u (by (first|lia|omega)) hx hy no]
  simp [diffs]
noncomputable def evLen:Ev→Int
 | .rest v=>v
 | .note v _ _=>v
theorem noteGo_lens (c:Ch):∀ (vs:List Int) (t:Int),(noteGo c t vs).map evLen=vs
 | [],_=>rfl
 | v::vs,t=>by simp [noteGo,evLen,noteGo_lens c vs]
theorem rests_lens (n:Int):(restsOf n).map evLen=piecesOf n:=by
 unfold restsOf
 rw [List.map_map]
 exact (List.map_congr_left fun x _=>rfl).trans (List.map_id _)
structure Marks (M:List Int) (v:List Ch) (b e:Int):Prop where
 up:UpI M
 hb:b∈M
 he:e∈M
 hc:∀ c∈v,c.1∈M∧cend c∈M
 only:∀ m∈M,m ≤ b∨e ≤ m∨∃ c∈v,m=c.1∨m=cend c
theorem bar_cut {M:List Int} {v pre post:List Ch} {b e:Int} (V:Vo v) (K:Marks M v b e) (be:b < e):∀ (post pre:List Ch) (S:List Ev×Int),v=pre++post→BarI v pre b e S→S.2∈M→S.1.map evLen=gapsOf M b S.2 →
  (post.foldl (barStep b e) S).2∈M∧(post.foldl (barStep b e) S).1.map evLen=gapsOf M b (post.foldl (barStep b e) S).2
 | [],pre,S,ev,I,m,h=>⟨m,h⟩
 | c::post,pre,S,ev,I,m,h=>by
  rw [List.foldl_cons]
  have I2:=bar_step V be ev I
  have bc:=V.b c (by rw [ev]; simp)
  have lc:c.1 < cend c:=by unfold cend; (first|lia|omega)
  have cm:=K.hc c (by rw [ev]; simp)
  have key:(barStep b e S c).2∈M∧(barStep b e S c).1.map evLen=gapsOf M b (barStep b e S c).2:=by
   unfold barStep
   by_cases act:(if b > c.1 then b else c.1) < (if e < cend c then e else cend c)
   ·rw [if_pos act]
    have A:=bar_act V ev I (first_is b c) (behind_is e c) act
    have fi:=first_is b c
    have bi:=behind_is e c
    revert A act fi bi
    generalize (if b > c.1 then b else c.1)=first
    generalize (if e < cend c then e else cend c)=behind
    intro act A fi bi
    obtain ⟨_,fle,ble⟩:=A
    have V':=V
    rw [ev] at V'
    have up:=List.pairwise_append.mp V'.up
    have hpre:∀ x∈pre,cend x ≤ c.1:=fun x hx=>up.2.2 x hx c (by simp)
    have hpost:∀ x∈post,cend c ≤ x.1:=fun x hx=>(List.pairwise_cons.mp up.2.1).1 x hx
    have lo:=I.lo
    have hi:=I.hi
    have fm:first∈M:=by
     rcases fi with ⟨q,_⟩|⟨q,_⟩
     ·rw [q]; exact K.hb
     ·rw [q]; exact cm.1
    have bm:behind∈M:=by
     rcases bi with ⟨q,_⟩|⟨q,_⟩
     ·rw [q]; exact K.he
     ·rw [q]; exact cm.2
    have notE:S.2≠e:=by (first|lia|omega)
    have inv:∀ x∈v,x.1 < cend x:=fun x hx=>by have:=(V.b x hx).2.1; unfold cend; (first|lia|omega)
    have side:∀ x∈v,(cend x ≤ S.2∧x.1 ≤ S.2)∨(e ≤ x.1∧e ≤ cend x)∨x=c∨(behind ≤ x.1∧behind ≤ cend x):=fun x hx=>by
     have ix:=inv x hx
     rw [ev] at hx
     (rcases List.mem_append.mp hx with hx|hx)
     ·rcases I.done x hx with q|q|q
      ·exact .inl (by (first|lia|omega))
      ·exact .inr (.inl (by (first|lia|omega)))
      ·exact absurd q notE
     ·rcases List.mem_cons.mp hx with q|hx
      ·exact .inr (.inr (.inl q))
      ·have:=hpost x hx
       exact .inr (.inr (.inr (by (first|lia|omega))))
    have no1:∀ m∈M,m ≤ S.2∨first ≤ m:=fun m hm=>by
     rcases K.only m hm with q|q|⟨x,hx,q⟩
     ·exact .inl (by (first|lia|omega))
     ·exact .inr (by (first|lia|omega))
     ·rcases side x hx with k|k|k|k
      ·exact .inl (by (first|lia|omega))
      ·exact .inr (by (first|lia|omega))
      ·subst k
       by_cases g:x.1 < b
       ·by_cases g2:m ≤ S.2
        ·exact .inl g2
        ·exact .inr (by (first|lia|omega))
       ·exact .inr (by (first|lia|omega))
      ·exact .inr (by (first|lia|omega))
    have no2:∀ m∈M,m ≤ first∨behind ≤ m:=fun m hm=>by
     rcases K.only m hm with q|q|⟨x,hx,q⟩
     ·exact .inl (by (first|lia|omega))
     ·exact .inr (by (first|lia|omega))
     ·rcases side x hx with k|k|k|k
      ·exact .inl (by (first|lia|omega))
      ·exact .inr (by (first|lia|omega))
      ·subst k
       rcases q with q|q
       ·exact .inl (by (first|lia|omega))
       ·exact .inr (by (first|lia|omega))
      ·exact .inr (by (first|lia|omega))
    refine ⟨bm,?_⟩
    dsimp only
    rw [List.map_append,List.map_append,h,rests_lens,notesEv,noteGo_lens,gaps_join K.up (show b ≤ S.2 from lo) (show S.2 ≤ behind by (first|lia|omega)) m,gaps_join K.up fle (Int.le_of_lt act) fm,gaps_two K.up fle m fm no1,gaps_two K.up (Int.le_of_lt act) fm bm no2,List.append_assoc]
   ·rw [if_neg act]
    exact ⟨m,h⟩
  exact bar_cut (pre:=pre) (post:=post) V K be post (pre++[c]) _ (by rw [ev]; simp) I2 key.1 key.2
theorem bar_gaps {M:List Int} {v:List Ch} {b e:Int} (V:Vo v) (K:Marks M v b e) (be:b < e):(barEv v b e).map evLen=gapsOf M b e:=by
 have I:=bar_inv V be v [] ([],b) rfl (bar_start be)
 have zz:gapsOf M b b=[]:=by
  rw [gaps_two K.up (Int.le_refl b) K.hb K.hb fun m _=>by (first|lia|omega),Int.sub_self,pieces0]
 obtain ⟨c1,c2⟩:=bar_cut (pre:=[]) (post:=v) V K be v [] ([],b) rfl (bar_start be) K.hb (by rw [zz]; rfl)
 unfold barEv barS
 have lo:=I.lo
 have hi:=I.hi
 have dn:=I.done
 generalize v.foldl (barStep b e) ([],b)=S at lo hi dn c1 c2
 rw [List.map_append,c2,rests_lens,gaps_join K.up lo hi c1,gaps_two K.up hi c1 K.he]
 intro m hm
 by_cases z:S.2=e
 ·(first|lia|omega)
 ·rcases K.only m hm with q|q|⟨x,hx,q⟩
  ·exact .inl (by (first|lia|omega))
  ·exact .inr q
  ·have ix:=(V.b x hx).2.1
   have:x.1 < cend x:=by unfold cend; (first|lia|omega)
   rcases dn x hx with k|k|k
   ·exact .inl (by (first|lia|omega))
   ·exact .inr (by (first|lia|omega))
   ·exact absurd k z
theorem foldl_any (k:Int):∀ (l acc:List Int),(l.foldl PyProof.Rows.step_dedup acc).any (· == k)=(acc.any (· == k) || l.any (· == k))
 | [],acc=>by simp
 | x::l,acc=>by
  rw [List.foldl_cons,foldl_any k l,step_any,List.any_cons]
  by_cases e:k=x
  ·subst e; simp
  ·have:(x == k)=false:=by simpa using fun z=>e z.symm
   simp [this,e]
theorem mem_distinct {x:Int} {ns:List Int}:x∈L3.distinct ns ↔ x∈ns:=by
 have h:=foldl_any x ns []
 have h:(L3.distinct ns).any (· == x)=ns.any (· == x):=by simpa [L3.distinct] using h
 have a:∀ l:List Int,x∈l ↔ l.any (· == x)=true:=fun l=>by simp
 rw [a,a,h]
theorem sortUp_up {d:List Int} (n:d.Nodup):UpI (L3.sortUp d):=by
 show List.Pairwise _ _
 unfold L3.sortUp
 rw [List.pairwise_reverse]
 have n2:(L3.sortD d).Nodup:=(L3.sortD_perm d).nodup_iff.mpr n
 have:=List.Pairwise.and n2 (L3.sortD_ge d)
 refine this.imp fun {a b} h=>?_
 have h1:a≠b:=h.1
 have h2:a ≥ b:=h.2
 (first|lia|omega)
theorem mem_sortUp {x:Int} {d:List Int}:x∈L3.sortUp d ↔ x∈d:=by
 unfold L3.sortUp
 rw [List.mem_reverse]
 exact (L3.sortD_perm d).mem_iff
noncomputable def endsL (ms:List (Int×Int×Int)) (n:Nat):List Int:=(List.range n).map fun k:Nat=>aheadV ms (k+1)
noncomputable def markL (v:List Ch) (ms:List (Int×Int×Int)) (n:Nat):List Int:=(0::endsL ms n)++v.flatMap fun c=>[c.1,cend c]
noncomputable def marks (v:List Ch) (ms:List (Int×Int×Int)) (n:Nat):List Int:=L3.sortUp (L3.distinct (markL v ms n))
theorem mem_marks {v:List Ch} {ms:List (Int×Int×Int)} {n:Nat} {x:Int}:x∈marks v ms n ↔ (∃ k,k ≤ n∧x=aheadV ms k)∨∃ c∈v,x=c.1∨x=cend c:=by
 unfold marks
 rw [mem_sortUp,mem_distinct]
 unfold markL endsL
 rw [List.mem_append,List.mem_cons,List.mem_map,List.mem_flatMap]
 constructor
 ·rintro ((h|⟨k,hk,h⟩)|⟨c,hc,h⟩)
  ·exact .inl ⟨0,Nat.zero_le _,h⟩
  ·exact .inl ⟨k+1,List.mem_range.mp hk,h.symm⟩
  ·exact .inr ⟨c,hc,by simpa using h⟩
 ·rintro (⟨k,hk,h⟩|⟨c,hc,h⟩)
  ·cases k with
   | zero=>exact .inl (.inl h)
   | succ k=>exact .inl (.inr ⟨k,List.mem_range.mpr hk,h.symm⟩)
  ·exact .inr ⟨c,hc,by simpa using h⟩
theorem marks_up (v:List Ch) (ms:List (Int×Int×Int)) (n:Nat):UpI (marks v ms n):=sortUp_up (L3.distinct_nodup _)
theorem ahead_le {ms:List (Int×Int×Int)} (f:Fine ms) (l:Lens ms) {a b:Nat} (h:a ≤ b):aheadV ms a ≤ aheadV ms b:=by
 have:=ahead_mono f l a (b - a)
 rw [show a+(b - a)=b by (first|lia|omega)] at this
 (first|lia|omega)
theorem ahead_lt {ms:List (Int×Int×Int)} (f:Fine ms) (l:Lens ms) {a b:Nat} (h:a < b):aheadV ms a < aheadV ms b:=by
 have:=ahead_mono f l a (b - a)
 rw [show a+(b - a)=b by (first|lia|omega)] at this
 (first|lia|omega)
theorem marks_bar {ms:List (Int×Int×Int)} (f:Fine ms) (l:Lens ms) (v:List Ch) (n i:Nat) (hi:i < n):Marks (marks v ms n) v (aheadV ms i) (aheadV ms (i+1)) where
 up:=marks_up v ms n
 hb:=mem_marks.mpr (.inl ⟨i,by (first|lia|omega),rfl⟩)
 he:=mem_marks.mpr (.inl ⟨i+1,by (first|lia|omega),rfl⟩)
 hc:=fun c hc=>⟨mem_marks.mpr (.inr ⟨c,hc,.inl rfl⟩),mem_marks.mpr (.inr ⟨c,hc,.inr rfl⟩)⟩
 only:=fun m hm=>by
  rcases mem_marks.mp hm with ⟨k,hk,rfl⟩|h
  ·rcases Nat.lt_or_ge i k with q|q
   ·exact .inr (.inl (ahead_le f l q))
   ·exact .inl (ahead_le f l q)
  ·exact .inr (.inr h)
theorem gaps_none {M:List Int} {x y:Int} (h:y < x):gapsOf M x y=[]:=by
 have:btw M x y=[]:=List.filter_eq_nil_iff.mpr fun m _=>by simp; (first|lia|omega)
 unfold gapsOf
 rw [this]
 rfl
theorem gaps_self {M:List Int} (u:UpI M) {x:Int} (hx:x∈M):gapsOf M x x=[]:=by
 rw [gaps_two u (Int.le_refl x) hx hx fun m _=>by (first|lia|omega),Int.sub_self,pieces0]
noncomputable def fnd (M:List Int) (ms:List (Int×Int×Int)) (x:Int) (j:Nat):List Int:=gapsOf M (aheadV ms j) (if x ≤ aheadV ms (j+1) then x else aheadV ms (j+1))
theorem fnd_behind {M:List Int} {ms:List (Int×Int×Int)} (u:UpI M) {x:Int} {j:Nat} (h:x ≤ aheadV ms j) (hj:aheadV ms j∈M) (hl:aheadV ms j ≤ aheadV ms (j+1)):fnd M ms x j=[]:=by
 unfold fnd
 rw [if_pos (by (first|lia|omega))]
 by_cases e:x=aheadV ms j
 ·rw [e]; exact gaps_self u hj
 ·exact gaps_none (by (first|lia|omega))
theorem fnd_full {M:List Int} {ms:List (Int×Int×Int)} {x:Int} {j:Nat} (h:aheadV ms (j+1) ≤ x):fnd M ms x j=gapsOf M (aheadV ms j) (aheadV ms (j+1)):=by
 unfold fnd
 by_cases c:x ≤ aheadV ms (j+1)
 ·rw [if_pos c,show x=aheadV ms (j+1) by (first|lia|omega)]
 ·rw [if_neg c]
structure At (v:List Ch) (ms:List (Int×Int×Int)) (n:Nat) (x:Int) (bar:Nat):Prop where
 lt:bar < n
 lo:aheadV ms bar ≤ x
 hi:x ≤ aheadV ms (bar+1)
theorem fnd_step {ms:List (Int×Int×Int)} (f:Fine ms) (l:Lens ms) {v:List Ch} {n:Nat} {x y:Int} {bar:Nat} (A:At v ms n x bar) (lt:x < aheadV ms (bar+1)) (hx:x∈marks v ms n) (hy:y∈marks v ms n) (xy:x < y) (no:∀ m∈marks v ms n,m ≤ x∨y ≤ m) :
  At v ms n y bar∧fnd (marks v ms n) ms y bar=fnd (marks v ms n) ms x bar++piecesOf (y - x)∧∀ j,j < n→j≠bar→fnd (marks v ms n) ms y j=fnd (marks v ms n) ms x j:=by
 have u:=marks_up v ms n
 have em:∀ k,k ≤ n→aheadV ms k∈marks v ms n:=fun k hk=>mem_marks.mpr (.inl ⟨k,hk,rfl⟩)
 have h1:=A.lo
 have h3:=A.lt
 have hy2:y ≤ aheadV ms (bar+1):=by
  have:=no _ (em (bar+1) (by (first|lia|omega)))
  (first|lia|omega)
 refine ⟨⟨A.lt,by (first|lia|omega),hy2⟩,?_,fun j hj ne=>?_⟩
 ·unfold fnd
  rw [if_pos hy2,if_pos (Int.le_of_lt lt),gaps_join u h1 (Int.le_of_lt xy) hx,gaps_two u (Int.le_of_lt xy) hx hy no]
 ·rcases Nat.lt_or_ge j bar with q|q
  ·have:=ahead_le f l (show j+1 ≤ bar from q)
   rw [fnd_full (by (first|lia|omega)),fnd_full (by (first|lia|omega))]
  ·have:=ahead_le f l (show bar+1 ≤ j by (first|lia|omega))
   have:=ahead_le f l (Nat.le_succ j)
   rw [fnd_behind u (by (first|lia|omega)) (em j (by (first|lia|omega))) this,fnd_behind u (by (first|lia|omega)) (em j (by (first|lia|omega))) this]
theorem up_next {M:List Int} (u:UpI M) {k:Nat} (h:k+1 < M.length):M[k] < M[k+1]∧∀ m∈M,m ≤ M[k]∨M[k+1] ≤ m:=by
 have lt:=fun (i j:Nat) (hij:i < j) (hj:j < M.length)=>List.pairwise_iff_getElem.mp u i j (by (first|lia|omega)) hj hij
 refine ⟨lt k (k+1) (by (first|lia|omega)) h,fun m hm=>?_⟩
 obtain ⟨i,hi,rfl⟩:=List.mem_iff_getElem.mp hm
 rcases Nat.lt_trichotomy i k with q|q|q
 ·exact .inl (Int.le_of_lt (lt i k q (by (first|lia|omega))))
 ·subst q; exact .inl (Int.le_refl _)
 ·rcases Nat.lt_or_ge (k+1) i with r|r
  ·exact .inr (Int.le_of_lt (lt (k+1) i r hi))
  ·have:i=k+1:=by (first|lia|omega)
   subst this
   exact .inr (Int.le_refl _)
theorem up_first {M:List Int} (u:UpI M) {a:Int} (ha:a∈M) (lo:∀ m∈M,a ≤ m) (h:0 < M.length):M[0]=a:=by
 have lt:=fun (i j:Nat) (hij:i < j) (hj:j < M.length)=>List.pairwise_iff_getElem.mp u i j (by (first|lia|omega)) hj hij
 obtain ⟨i,hi,e⟩:=List.mem_iff_getElem.mp ha
 have:=lo M[0] (List.getElem_mem h)
 cases i with
 | zero=>exact e
 | succ i=>have:=lt 0 (i+1) (by (first|lia|omega)) hi; (first|lia|omega)
theorem up_last {M:List Int} (u:UpI M) {a:Int} (ha:a∈M) (hi:∀ m∈M,m ≤ a) (h:0 < M.length):M[M.length - 1]=a:=by
 have lt:=fun (i j:Nat) (hij:i < j) (hj:j < M.length)=>List.pairwise_iff_getElem.mp u i j (by (first|lia|omega)) hj hij
 obtain ⟨i,hi',e⟩:=List.mem_iff_getElem.mp ha
 have:=hi M[M.length - 1] (List.getElem_mem (by (first|lia|omega)))
 rcases Nat.lt_or_ge i (M.length - 1) with q|q
 ·have:=lt i (M.length - 1) q (by (first|lia|omega)); (first|lia|omega)
 ·have:i=M.length - 1:=by (first|lia|omega)
  subst this
  exact e
theorem while_lp (s1 s2 s3:Option En) (v:Int) (hv:0 < v):∀ (q fuel:Nat) (row:List Int) (left:Int),0 ≤ left→left / v=q→q < fuel→row.length+q ≤ 1000 →
  whileD (tE (eOp dLe (eVar 5) (eVar 0))) (sSeq (sApp 4 (eVar 5)) (sSet 0 (eOp dSub (eVar 0) (eVar 5)))) fuel [some (.fz (.int left)),s1,s2,s3,some (.ow (.lst (row.map D.int))),some (.fz (.int v))] =
   .nx [some (.fz (.int (left % v))),s1,s2,s3,some (.ow (.lst ((row++List.replicate q v).map D.int))),some (.fz (.int v))]
 | 0,fuel+1,row,left,h0,hq,hf,hl=>by
  have lt:left < v:=by
   have:=Int.mul_ediv_add_emod left v
   have:=Int.emod_lt_of_pos left hv
   rw [hq] at *
   simp at *
   (first|lia|omega)
  have d:decide (v ≤ left)=false:=by simp; (first|lia|omega)
  unfold whileD
  simp only [EV,Nat.reduceAdd,Nat.reduceSub,Nat.reduceLeDiff,d,Bool.false_eq_true,if_false]
  rw [Int.emod_eq_of_lt h0 lt]
  simp
 | q+1,fuel+1,row,left,h0,hq,hf,hl=>by
  have hz:sz=16777216:=rfl
  have ge:v ≤ left:=by
   by_cases g:v ≤ left
   ·exact g
   ·have:=Int.ediv_eq_zero_of_lt h0 (by (first|lia|omega):left < v)
    (first|lia|omega)
  have d:decide (v ≤ left)=true:=by simpa using ge
  have e1:(left - v) / v=(q:Int):=by
   have:=Int.add_mul_ediv_right left (-1) (show v≠0 by (first|lia|omega))
   rw [show left+-1 * v=left - v by (first|lia|omega)] at this
   (first|lia|omega)
  have e2:(left - v) % v=left % v:=by
   have:=Int.add_mul_emod_self_right left (-1) v
   rw [show left+-1 * v=left - v by (first|lia|omega)] at this
   exact this
  have ih:=while_lp s1 s2 s3 v hv q fuel (row++[v]) (left - v) (by (first|lia|omega)) e1 (by (first|lia|omega)) (by simp; (first|lia|omega))
  unfold whileD
  simp only [EV,Nat.reduceAdd,Nat.reduceSub,Nat.reduceLeDiff,d]
  rw [x_app (xs:=row.map D.int) (d:=.int v) rfl (by rw [List.length_map,hz]; (first|lia|omega)) rfl]
  simp only [EV,Nat.reduceAdd,Nat.reduceSub,Nat.reduceLeDiff]
  rw [List.map_append] at ih
  rw [show List.map D.int [v]=[D.int v] from rfl] at ih
  rw [ih,e2]
  simp [List.replicate_succ]
theorem lp_for (s1 s2 s3:Option En):∀ (vs:List Int) (row:List Int) (left:Int) (j5:Option En),(∀ v∈vs,0 < v)→0 ≤ left→left ≤ 512→(row.length:Int)+left ≤ 512 →
  ∃ l' j5',forD (gV 5) (sWhile 1000 (tE (eOp dLe (eVar 5) (eVar 0))) (sSeq (sApp 4 (eVar 5)) (sSet 0 (eOp dSub (eVar 0) (eVar 5))))) (vs.map D.int) [some (.fz (.int left)),s1,s2,s3,some (.ow (.lst (row.map D.int))),j5] =
   .nx [some (.fz (.int l')),s1,s2,s3,some (.ow (.lst ((row++piecesGo vs left).map D.int))),j5']
 | [],row,left,j5,_,_,_,_=>⟨left,j5,by simp [forD,piecesGo]⟩
 | v::vs,row,left,j5,hv,h0,h1,hl=>by
  have v0:=hv v (by simp)
  have q0:0 ≤ left / v:=Int.ediv_nonneg h0 (by (first|lia|omega))
  have e:=Int.mul_ediv_add_emod left v
  have m0:=Int.emod_nonneg left (show v≠0 by (first|lia|omega))
  have:left / v ≤ v * (left / v):=by
   have:=Int.mul_le_mul_of_nonneg_right (show (1:Int) ≤ v by (first|lia|omega)) q0
   (first|lia|omega)
  obtain ⟨q,hq⟩:=Int.eq_ofNat_of_zero_le q0
  have w:=while_lp s1 s2 s3 v v0 q 1000 row left h0 hq (by (first|lia|omega)) (by (first|lia|omega))
  obtain ⟨l',j5',ih⟩:=lp_for s1 s2 s3 vs (row++List.replicate q v) (left % v) (some (.fz (.int v))) (fun x hx=>hv x (by simp [hx])) m0 (by (first|lia|omega)) (by simp; (first|lia|omega))
  refine ⟨l',j5',?_⟩
  rw [List.map_cons]
  unfold forD
  have tn:(left / v).toNat=q:=by rw [hq]; rfl
  simp only [EV,Nat.reduceAdd,Nat.reduceSub,Nat.reduceLeDiff]
  unfold sWhile at ih ⊢
  rw [w]
  dsimp only
  rw [ih]
  simp [piecesGo,tn]
noncomputable def some18:List Int:=[64,96,112,32,48,56,16,24,28,8,12,14,4,6,7,2,3,1]
theorem some_eq (n:Int):(sFor (iSeq (eLst [(eC (.int 64)),(eC (.int 32)),(eC (.int 16)),(eC (.int 8)),(eC (.int 4)),(eC (.int 2)),(eC (.int 1))])) (gV 2) (sFor (iSeq (eLst [(eC (.int 1)),(eC (.int 2)),(eC (.int 4))])) (gV 3) (sIf (tE (eOp dEq (eOp dMod (eVar 2) (eVar 3)) (eC (.int 0)))) (sApp 1 (eOp dDiv (eOp dMul (eVar 2) (eOp dSub (eOp dMul (eC (.int 2)) (eVar 3)) (eC (.int 1)))) (eVar 3))) sNext)))
  [some (.fz (.int n)),some (.ow (.lst [])),none,none,none,none]=.nx [some (.fz (.int n)),some (.ow (.lst (some18.map D.int))),some (.fz (.int 1)),some (.fz (.int 4)),none,none]:=by kernel_rfl
theorem down_eq:dSortR (.lst (some18.map D.int)) (.bl true)=.ok (.ow (.lst (keysP.map D.int))):=by kernel_rfl
theorem lpieces_eq (n:Int) (h0:0 ≤ n) (h1:n ≤ 512):D__law_pieces [.fz (.int n)]=.ok (.ow (.lst ((piecesOf n).map D.int))):=by
 obtain ⟨l',j5',e⟩:=lp_for (some (.ow (.lst (some18.map D.int)))) (some (.fz (.int 1))) (some (.fz (.int 4))) keysP [] n none (by decide) h0 h1 (by simpa using h1)
 unfold D__law_pieces B__law_pieces
 rw [x_den]
 rw [x_seq]
 rw [show (sSet 1 (eLst [])) ([En.fz (D.int n)].map some++List.replicate (6 - [En.fz (D.int n)].length) none)=.nx [some (.fz (.int n)),some (.ow (.lst [])),none,none,none,none] from rfl]
 rw [x_th_nx,x_seq,some_eq,x_th_nx,x_seq]
 rw [show (sSet 4 (eLst [])) [some (.fz (.int n)),some (.ow (.lst (some18.map D.int))),some (.fz (.int 1)),some (.fz (.int 4)),none,none]=.nx [some (.fz (.int n)),some (.ow (.lst (some18.map D.int))),some (.fz (.int 1)),some (.fz (.int 4)),some (.ow (.lst [])),none] from rfl]
 rw [x_th_nx,x_seq,x_for]
 rw [x_iSeq (w:=.ow (.lst (keysP.map D.int))) (by simp only [EV,Nat.reduceAdd,Nat.reduceSub,Nat.reduceLeDiff,down_eq]) rfl]
 rw [x_of_ok]
 rw [List.map_nil] at e
 rw [e]
 simp only [EV,Nat.reduceAdd,Nat.reduceSub,Nat.reduceLeDiff]
 rfl
theorem go_mem:∀ (vs:List Int) (l:Int),∀ x∈piecesGo vs l,x∈vs
 | [],l,x,hx=>by simp [piecesGo] at hx
 | v::vs,l,x,hx=>by
  rw [piecesGo] at hx
  (rcases List.mem_append.mp hx with hx|hx)
  ·rw [List.eq_of_mem_replicate hx]; simp
  ·exact List.mem_cons_of_mem _ (go_mem vs _ x hx)
theorem written_ok:∀ x∈keysP,D__law_written [.fz (.int x)]=.ok (.fz (.bl true)):=by
 intro x hx
 simp only [keysP,List.mem_cons,List.not_mem_nil,or_false] at hx
 rcases hx with rfl|rfl|rfl|rfl|rfl|rfl|rfl|rfl|rfl|rfl|rfl|rfl|rfl|rfl|rfl|rfl|rfl|rfl <;> kernel_rfl
theorem bar_eqB (v:List Ch) (V:Vo v) (b e:Int) (be:b < e) (b512:e - b ≤ 512):D_bar_events [.br (.lst (v.map chD)),.fz (.int b),.fz (.int e)]=.ok (.ow (.lst ((barEv v b e).map evD))):=by
 have hz:sz=16777216:=rfl
 unfold D_bar_events B_bar_events
 simp only [EV,Nat.reduceAdd,Nat.reduceSub,Nat.reduceLeDiff]
 rw [x_iV_br (ds:=v.map chD) rfl]
 simp only [EV,Nat.reduceAdd,Nat.reduceSub,Nat.reduceLeDiff]
 obtain ⟨ρ,er,j5,j6,j7,hρ⟩:=for_nx (v.map chD) (fun i ρ=>∃ j5 j6 j7,ρ=[some (.br (.lst (v.map chD))),some (.fz (.int b)),some (.fz (.int e)),some (.ow (.lst ((((v.take i).foldl (barStep b e) ([],b)).1).map evD))),some (.fz (.int ((v.take i).foldl (barStep b e) ([],b)).2)),j5,j6,j7])
  (g:=gV 5) (b:=sSeq (sSet 6 (eB dMax2 [(eOp dIxS (eVar 5) (eC (.int 0))),(eVar 1)])) (sSeq (sSet 7 (eB dMin2 [(eCall D_end_of [(eVar 5)]),(eVar 2)])) (sIf (tE (eOp dLt (eVar 6) (eVar 7))) (sSeq (sExt 3 (eCall D_rest_events [(eOp dSub (eVar 6) (eVar 4))])) (sSeq (sExt 3 (eCall D_note_events [(eVar 5),(eVar 6),(eVar 7)])) (sSet 4 (eVar 7)))) sNext)))
  (ρ:=[some (.br (.lst (v.map chD))),some (.fz (.int b)),some (.fz (.int e)),some (.ow (.lst [])),some (.fz (.int b)),none,none,none]) ⟨none,none,none,rfl⟩ (fun i x ρ hx ⟨j5,j6,j7,hρ⟩=>by
   subst hρ
   rw [List.getElem?_map] at hx
   cases ec:v[i]? with
   | none=>rw [ec] at hx; cases hx
   | some c =>
    rw [ec] at hx
    cases hx
    have hi:i < v.length:=(List.getElem?_eq_some_iff.mp ec).1
    have ev3:v=v.take i++c::v.drop (i+1):=by
     rw [List.getElem?_eq_getElem hi] at ec
     cases ec
     rw [← List.drop_eq_getElem_cons hi,List.take_append_drop]
    have tk:v.take (i+1)=v.take i++[c]:=by rw [List.take_succ,ec]; rfl
    have I:=bar_take V be i
    have ee:D_end_of [.fz (.tup [.int c.1,.int c.2.1,.tup (c.2.2.map D.int)])]=.ok (.fz (.int (cend c))):=end_eq c
    rw [tk,List.foldl_append]
    generalize (v.take i).foldl (barStep b e) ([],b)=S at I
    have lo:=I.lo
    have hi2:=I.hi
    have le:=I.len
    refine ⟨_,_,rfl,.inl ?_,some (.fz (chD c)),some (.fz (.int (if b > c.1 then b else c.1))),some (.fz (.int (if e < cend c then e else cend c))),rfl⟩
    simp only [EV,Nat.reduceAdd,Nat.reduceSub,Nat.reduceLeDiff,chD,ee,List.foldl_cons,List.foldl_nil]
    unfold barStep
    by_cases act:(if b > c.1 then b else c.1) < (if e < cend c then e else cend c)
    ·obtain ⟨I2,a1,a2⟩:=bar_act V ev3 I (first_is b c) (behind_is e c) act
     have fi:=first_is b c
     rw [if_pos act]
     have d:decide ((if b > c.1 then b else c.1) < (if e < cend c then e else cend c))=true:=by simpa using act
     rw [d]
     generalize (if b > c.1 then b else c.1)=first at *
     generalize (if e < cend c then e else cend c)=behind at *
     have l1:=pieces_len (first - S.2) (by (first|lia|omega))
     have l2:=pieces_len (behind - first) (by (first|lia|omega))
     have r1:=rests_eq (first - S.2) (by (first|lia|omega)) (by (first|lia|omega))
     have r2:=notesEv_eq c first behind (by (first|lia|omega)) (by (first|lia|omega))
     simp only [EV,Nat.reduceAdd,Nat.reduceSub,Nat.reduceLeDiff]
     rw [x_ext (xs:=S.1.map evD) (ys:=(restsOf (first - S.2)).map evD) rfl (by simp only [EV,Nat.reduceAdd,Nat.reduceSub,Nat.reduceLeDiff,r1]) (by rw [List.length_map,List.length_map,restsOf,List.length_map,hz]; (first|lia|omega))]
     simp only [EV,Nat.reduceAdd,Nat.reduceSub,Nat.reduceLeDiff]
     rw [x_ext (xs:=S.1.map evD++(restsOf (first - S.2)).map evD) (ys:=(notesEv c first behind).map evD) rfl (by
      have r2':D_note_events [.fz (.tup [.int c.1,.int c.2.1,.tup (c.2.2.map D.int)]),.fz (.int first),.fz (.int behind)]=_:=r2
      simp only [EV,Nat.reduceAdd,Nat.reduceSub,Nat.reduceLeDiff,r2']) (by rw [List.length_append,List.length_map,List.length_map,List.length_map,restsOf,List.length_map,notesEv,noteGo_len,hz]; (first|lia|omega))]
     simp only [EV,Nat.reduceAdd,Nat.reduceSub,Nat.reduceLeDiff,List.map_append,chD]
    ·rw [if_neg act]
     have d:decide ((if b > c.1 then b else c.1) < (if e < cend c then e else cend c))=false:=by simpa using act
     rw [d]
     simp only [EV,Nat.reduceAdd,Nat.reduceSub,Nat.reduceLeDiff,chD])
 rw [er]
 subst hρ
 rw [List.length_map,List.take_length]
 have I:=bar_inv V be v [] ([],b) rfl (bar_start be)
 have lo:=I.lo
 have hi:=I.hi
 have le:=I.len
 unfold barEv barS
 generalize v.foldl (barStep b e) ([],b)=S at lo hi le
 have l1:=pieces_len (e - S.2) (by (first|lia|omega))
 have r1:=rests_eq (e - S.2) (by (first|lia|omega)) (by (first|lia|omega))
 simp only [EV,Nat.reduceAdd,Nat.reduceSub,Nat.reduceLeDiff]
 rw [x_ext (xs:=S.1.map evD) (ys:=(restsOf (e - S.2)).map evD) rfl (by simp only [EV,Nat.reduceAdd,Nat.reduceSub,Nat.reduceLeDiff,r1]) (by rw [List.length_map,List.length_map,restsOf,List.length_map,hz]; (first|lia|omega))]
 simp only [EV,Nat.reduceAdd,Nat.reduceSub,Nat.reduceLeDiff,List.map_append]
theorem events_eqB {ms:List (Int×Int×Int)} (f:Fine ms) (l:Lens ms) (v:List Ch) (V:Vo v) (n:Nat) (hn:n ≤ 177) :
  D_events [.br (.lst (v.map chD)),.fz (.lst ((List.range n).map fun k:Nat=>D.int (dueV ms k)))]=.ok (.ow (.lst (barsD (barsOf v ms n)))):=by
 have hz:sz=16777216:=rfl
 unfold D_events B_events
 simp only [EV,Nat.reduceAdd,Nat.reduceSub,Nat.reduceLeDiff]
 rw [x_iV_fz (ds:=(List.range n).map fun k:Nat=>D.int (dueV ms k)) rfl]
 simp only [EV,Nat.reduceAdd,Nat.reduceSub,Nat.reduceLeDiff]
 obtain ⟨ρ,er,j4,hρ⟩:=for_nx ((List.range n).map fun k:Nat=>D.int (dueV ms k)) (fun i ρ=>∃ j4,ρ=[some (.br (.lst (v.map chD))),some (.fz (.lst ((List.range n).map fun k:Nat=>D.int (dueV ms k)))),some (.ow (.lst (barsD (barsOf v ms i)))),some (.fz (.int (aheadV ms i))),j4])
  (g:=gV 4) (b:=sSeq (sApp 2 (eCall D_bar_events [(eVar 0),(eVar 3),(eOp dAddA (eVar 3) (eVar 4))])) (sAug 3 dAddI (eVar 4)))
  (ρ:=[some (.br (.lst (v.map chD))),some (.fz (.lst ((List.range n).map fun k:Nat=>D.int (dueV ms k)))),some (.ow (.lst [])),some (.fz (.int 0)),none]) ⟨none,rfl⟩ (fun i x ρ hx ⟨j4,hρ⟩=>by
   subst hρ
   rw [List.getElem?_map] at hx
   cases ei:(List.range n)[i]? with
   | none=>rw [ei] at hx; cases hx
   | some k =>
    rw [ei] at hx
    cases hx
    have hi:i < n:=by have:=(List.getElem?_eq_some_iff.mp ei).1; simpa using this
    rw [List.getElem?_range hi] at ei
    cases ei
    have dp:=due_pos f l i
    have be:=bar_eqB v V (aheadV ms i) (aheadV ms i+dueV ms i) (by (first|lia|omega)) (by (first|lia|omega))
    refine ⟨_,_,rfl,.inl ?_,some (.fz (.int (dueV ms i))),rfl⟩
    simp only [EV,Nat.reduceAdd,Nat.reduceSub,Nat.reduceLeDiff]
    rw [x_app (xs:=barsD (barsOf v ms i)) (d:=.lst ((barEv v (aheadV ms i) (aheadV ms (i+1))).map evD)) rfl (by simp [barsD,barsOf,hz]; (first|lia|omega)) (by
     rw [ahead_succ]
     simp only [EV,Nat.reduceAdd,Nat.reduceSub,Nat.reduceLeDiff,be])]
    simp only [EV,Nat.reduceAdd,Nat.reduceSub,Nat.reduceLeDiff,ahead_succ]
    simp [barsD,barsOf,List.range_succ,ahead_succ])
 rw [er]
 subst hρ
 rw [List.length_map,List.length_range]
 simp only [EV,Nat.reduceAdd,Nat.reduceSub,Nat.reduceLeDiff]
theorem cut_to {α:Type} (xs:List α) (m:Nat) (h:m ≤ xs.length):L3.cutD xs none (some (m:Int))=xs.take m:=by
 unfold L3.cutD
 rw [HT.sIx_none,HT.sIx_nat,Nat.min_eq_left h]
 simp
noncomputable def lensD (ms:List (Int×Int×Int)) (n:Nat):List D:=(List.range n).map fun k:Nat=>D.int (dueV ms k)
noncomputable def fEnds (ms:List (Int×Int×Int)):D→D
 | .int k=>.int (aheadV ms (k.toNat+1))
 | _=>.non
theorem ends_comp (ms:List (Int×Int×Int)) (n:Nat) (hn:n ≤ 177) (w:D) (r:List (Option En)) (hr:r.length=6):eComp 1 (iR1 (eB dLenA [(eVar 1)])) (gV 8) tTrue (eB dSum [(eSl (eVar 1) oNo (oE (eOp dAddA (eVar 8) (eC (.int 1)))))]) (some (.br w)::some (.br (.lst (lensD ms n)))::r)=.ok (.ow (.lst ((endsL ms n).map D.int))):=by
 have hz:sz=16777216:=rfl
 obtain ⟨a,b,c,d,e,f,rfl⟩:∃ a b c d e f,r=[a,b,c,d,e,f]:=len6 hr
 rw [comp_eq (ds:=rngD 0 n) (ys:=(endsL ms n).map D.int) (x_iR1 (n:=n) (by simp only [EV,Nat.reduceAdd,Nat.reduceSub,Nat.reduceLeDiff]; simp [lensD]) (by (first|lia|omega))) (by rw [rngD_len,hz]; (first|lia|omega)) (by
  rw [comp_all 8 (fEnds ms) (rngD 0 n) _ fun d hd=>?_]
  ·rw [rngD_eq,List.map_map]
   unfold endsL
   rw [List.map_map]
   rfl
  ·rw [rngD_eq] at hd
   obtain ⟨k,hk,rfl⟩:=List.mem_map.mp hd
   have hk:k < n:=List.mem_range.mp hk
   refine ⟨.fz (.int (aheadV ms (k+1))),?_,rfl⟩
   simp only [cRho,ro,EV,Nat.reduceAdd,Nat.reduceSub,Nat.reduceLeDiff]
   rw [show (k:Int)+1=((k+1:Nat):Int) by (first|lia|omega),cut_to _ _ (by simp [lensD]; (first|lia|omega))]
   have e:(lensD ms n).take (k+1)=((List.range (k+1)).map fun j:Nat=>dueV ms j).map D.int:=by
    unfold lensD
    rw [← List.map_take,List.take_range,Nat.min_eq_left (by (first|lia|omega)),List.map_map]
    rfl
   rw [e,x_sum]
   rfl)]
theorem marks_for (v:List Ch) (L E:D) (hv:v.length ≤ 100):∀ (w:List Ch) (acc:List Int) (j4:Option En),acc.length+2 * w.length ≤ 1000 →
  ∃ j4',forD (gV 4) (sSet 3 (eOp dAddA (eVar 3) (eLst [(eOp dIxS (eVar 4) (eC (.int 0))),(eOp dAddA (eOp dIxS (eVar 4) (eC (.int 0))) (eOp dIxS (eVar 4) (eC (.int 1))))]))) (w.map chD)
   [some (.br (.lst (v.map chD))),some (.br L),some (.ow E),some (.ow (.lst (acc.map D.int))),j4,none,none,none] =
   .nx [some (.br (.lst (v.map chD))),some (.br L),some (.ow E),some (.ow (.lst ((acc++w.flatMap fun c=>[c.1,cend c]).map D.int))),j4',none,none,none]
 | [],acc,j4,_=>⟨j4,by simp [forD]⟩
 | c::w,acc,j4,hl=>by
  have hz:sz=16777216:=rfl
  rw [List.length_cons] at hl
  obtain ⟨j4',ih⟩:=marks_for v L E hv w (acc++[c.1,cend c]) (some (.fz (chD c))) (by simp; (first|lia|omega))
  refine ⟨j4',?_⟩
  rw [List.map_cons]
  unfold forD
  simp only [EV,Nat.reduceAdd,Nat.reduceSub,Nat.reduceLeDiff]
  have ad:dAddA (.lst (acc.map D.int)) (.lst [.int c.1,.int (c.1+c.2.1)])=.ok (.ow (.lst ((acc++[c.1,cend c]).map D.int))):=by
   rw [x_addL (by simp [hz]; (first|lia|omega)),List.map_append]
   rfl
  simp only [EV,Nat.reduceAdd,Nat.reduceSub,Nat.reduceLeDiff,chD,ad]
  simp only [chD] at ih
  rw [ih]
  simp [List.flatMap_cons]
theorem sortSet_eq (f:EF) (ρ:Rho) (ns:List Int) (w:En) (h:f ρ=.ok w) (hw:w.d=.lst (ns.map D.int)) (hl:ns.length ≤ 4000):eSortSet f ρ=.ok (.ow (.lst ((L3.sortUp (L3.distinct ns)).map D.int))):=by
 unfold eSortSet
 rw [h]
 show dSortSet w.d=_
 rw [hw]
 unfold dSortSet
 dsimp only
 rw [intsOf_map]
 dsimp only
 rw [if_pos hl]
noncomputable def fndD (M:List Int) (ms:List (Int×Int×Int)) (n:Nat) (x:Int):List D:=(List.range n).map fun j=>D.lst ((fnd M ms x j).map D.int)
theorem fndD_get {M:List Int} {ms:List (Int×Int×Int)} {n:Nat} {x:Int} {j:Nat} (h:j < n):(fndD M ms n x)[j]?=some (.lst ((fnd M ms x j).map D.int)):=by
 unfold fndD
 rw [List.getElem?_map,List.getElem?_range h]
 rfl
theorem diffs_len:∀ (l:List Int) (a b:Int),UpI l→(∀ m∈l,a ≤ m∧m ≤ b)→a ≤ b→(((diffs l).flatMap piecesOf).length:Int) ≤ b - a
 | [],a,b,_,_,h=>by simp [diffs]; (first|lia|omega)
 | [x],a,b,_,_,h=>by simp [diffs]; (first|lia|omega)
 | x::y::r,a,b,u,hl,h=>by
  have hx:=hl x (by simp)
  have hy:=hl y (by simp)
  have xy:x < y:=(List.pairwise_cons.mp u).1 y (by simp)
  have u2:=(List.pairwise_cons.mp u).2
  have ih:=diffs_len (y::r) y b u2 (fun m hm=>⟨by
   rcases List.mem_cons.mp hm with q|q
   ·(first|lia|omega)
   ·have:=(List.pairwise_cons.mp u2).1 m q; (first|lia|omega),(hl m (by simp [List.mem_cons.mp hm])).2⟩) hy.2
  have pl:=pieces_len (y - x) (by (first|lia|omega))
  simp only [diffs,List.flatMap_cons,List.length_append] at ih ⊢
  (first|lia|omega)
theorem fnd_len {ms:List (Int×Int×Int)} (f:Fine ms) (l:Lens ms) {M:List Int} (u:UpI M) (x:Int) (j:Nat):((fnd M ms x j).length:Int) ≤ 512:=by
 have dp:=due_pos f l j
 have g:=diffs_len (btw M (aheadV ms j) (if x ≤ aheadV ms (j+1) then x else aheadV ms (j+1))) (aheadV ms j) (aheadV ms (j+1)) (u.sublist List.filter_sublist) (fun m hm=>by
  have:=(List.mem_filter.mp hm).2
  simp only [Bool.and_eq_true,decide_eq_true_eq] at this
  refine ⟨this.1,?_⟩
  have h2:=this.2
  split at h2 <;> (first|lia|omega)) (by rw [ahead_succ]; (first|lia|omega))
 unfold fnd gapsOf
 rw [ahead_succ] at g ⊢
 (first|lia|omega)
noncomputable abbrev bodyC:SF:=(sSeq (sIf (tE (eOp dEq (eOp dIxS (eVar 3) (eVar 7)) (eOp dIxS (eVar 2) (eVar 6)))) (sSet 6 (eOp dAddA (eVar 6) (eC (.int 1)))) sNext)
 (sSetI 5 (eVar 6) (eOp dAddA (eOp dIxS (eVar 5) (eVar 6)) (eCall D__law_pieces [(eOp dSub (eOp dIxS (eVar 3) (eOp dAddA (eVar 7) (eC (.int 1)))) (eOp dIxS (eVar 3) (eVar 7)))]))))
noncomputable def envC (V L:D) (ms:List (Int×Int×Int)) (M:List Int) (n:Nat) (x:Int) (bar:Nat) (j4 j7:Option En):Rho :=
 [some (.br V),some (.br L),some (.ow (.lst ((endsL ms n).map D.int))),some (.ow (.lst (M.map D.int))),j4,some (.ow (.lst (fndD M ms n x))),some (.fz (.int bar)),j7]
theorem ends_get (ms:List (Int×Int×Int)) {n k:Nat} (h:k < n):((endsL ms n).map D.int)[k]?=some (.int (aheadV ms (k+1))):=by
 unfold endsL
 rw [List.map_map,List.getElem?_map,List.getElem?_range h]
 rfl
theorem set_fnd {M:List Int} {ms:List (Int×Int×Int)} {n:Nat} {x y:Int} {bar:Nat} (hb:bar < n) (h:∀ j,j < n→j≠bar→fnd M ms y j=fnd M ms x j):(fndD M ms n x).set bar (.lst ((fnd M ms y bar).map D.int))=fndD M ms n y:=by
 refine List.ext_getElem? fun j=>?_
 rw [List.getElem?_set]
 by_cases c:bar=j
 ·subst c
  rw [if_pos rfl,fndD_get hb,if_pos (by simp [fndD,hb])]
 ·rw [if_neg c]
  rcases Nat.lt_or_ge j n with q|q
  ·rw [fndD_get q,fndD_get q,h j q fun z=>c z.symm]
  ·rw [getElem?_neg _ j (by simp [fndD]; (first|lia|omega)),getElem?_neg _ j (by simp [fndD]; (first|lia|omega))]
theorem turn_cut {ms:List (Int×Int×Int)} (f:Fine ms) (l:Lens ms) (V L:D) (v:List Ch) (n k:Nat) (bar:Nat) (hk:k+1 < (marks v ms n).length) (A:At v ms n (marks v ms n)[k] bar) (hlast:∀ m∈marks v ms n,m ≤ aheadV ms n) (j4:Option En) :
  ∃ bar',At v ms n (marks v ms n)[k+1] bar'∧bodyC (envC V L ms (marks v ms n) n (marks v ms n)[k] bar j4 (some (.fz (.int k))))=.nx (envC V L ms (marks v ms n) n (marks v ms n)[k+1] bar' j4 (some (.fz (.int k)))):=by
 have hz:sz=16777216:=rfl
 have u:=marks_up v ms n
 obtain ⟨xy,no⟩:=up_next u hk
 have hx:(marks v ms n)[k]∈marks v ms n:=List.getElem_mem _
 have hy:(marks v ms n)[k+1]∈marks v ms n:=List.getElem_mem _
 have gx:((marks v ms n).map D.int)[k]?=some (.int (marks v ms n)[k]):=by rw [List.getElem?_map,getElem?_pos _ k (by (first|lia|omega))]; rfl
 have gy:((marks v ms n).map D.int)[k+1]?=some (.int (marks v ms n)[k+1]):=by rw [List.getElem?_map,getElem?_pos _ (k+1) hk]; rfl
 have fl:=fnd_len f l u
 generalize (marks v ms n)[k]=x at A xy no hx gx
 generalize (marks v ms n)[k+1]=y at xy no hy gy
 have ylast:=hlast y hy
 have bl:=A.lt
 have lo:=A.lo
 have hi:=A.hi
 obtain ⟨bar',hb',A',lt',pick⟩:∃ bar':Nat,bar' < n∧At v ms n x bar'∧x < aheadV ms (bar'+1) ∧
   (sIf (tE (eOp dEq (eOp dIxS (eVar 3) (eVar 7)) (eOp dIxS (eVar 2) (eVar 6)))) (sSet 6 (eOp dAddA (eVar 6) (eC (.int 1)))) sNext) (envC V L ms (marks v ms n) n x bar j4 (some (.fz (.int k))))=.nx (envC V L ms (marks v ms n) n x bar' j4 (some (.fz (.int k)))):=by
  by_cases e:x=aheadV ms (bar+1)
  ·have b1:bar+1 < n:=by
    rcases Nat.lt_or_ge (bar+1) n with q|q
    ·exact q
    ·have:bar+1=n:=by (first|lia|omega)
     rw [this] at e
     (first|lia|omega)
   have lt2:=ahead_lt f l (Nat.lt_succ_self (bar+1))
   have q:bar+1+1=(bar+1).succ:=rfl
   refine ⟨bar+1,b1,⟨b1,by (first|lia|omega),by rw [q]; (first|lia|omega)⟩,by rw [q]; (first|lia|omega),?_⟩
   unfold envC
   have bq:(x == aheadV ms (bar+1))=true:=by simpa using e
   simp only [EV,Nat.reduceAdd,Nat.reduceSub,Nat.reduceLeDiff,ati_nat,gx,ends_get ms A.lt,bq]
   congr 1
  ·have bq:(x == aheadV ms (bar+1))=false:=by simpa using e
   refine ⟨bar,A.lt,A,by (first|lia|omega),?_⟩
   unfold envC
   simp only [EV,Nat.reduceAdd,Nat.reduceSub,Nat.reduceLeDiff,ati_nat,gx,ends_get ms A.lt,bq]
 obtain ⟨B,s1,s2⟩:=fnd_step f l A' lt' hx hy xy no
 refine ⟨bar',B,?_⟩
 have g512:y - x ≤ 512:=by
  have:=B.hi
  have:=A'.lo
  have:=due_pos f l bar'
  rw [ahead_succ] at *
  (first|lia|omega)
 unfold bodyC
 rw [x_seq,pick,x_th_nx]
 have fx:=fl x bar'
 have pl:=pieces_len (y - x) (by (first|lia|omega))
 rw [x_setI (xs:=fndD (marks v ms n) ms n x) (d:=.lst ((fnd (marks v ms n) ms y bar').map D.int)) (j:=bar') (n:=bar') (w:=.fz (.int bar')) rfl (by
  unfold envC
  simp only [EV,Nat.reduceAdd,Nat.reduceSub,Nat.reduceLeDiff,ati_nat,fndD_get hb',gx,show (k:Int)+1=((k+1:Nat):Int) by (first|lia|omega),gy,lpieces_eq (y - x) (by (first|lia|omega)) g512]
  rw [x_addL (by simp [hz]; (first|lia|omega)),← List.map_append,← s1]
  rfl) rfl rfl (by
  unfold ixn
  rw [if_pos (by (first|lia|omega)),if_pos (by simp [fndD]; (first|lia|omega))]
  rfl)]
 unfold envC
 simp only [EV,Nat.reduceAdd,Nat.reduceSub,Nat.reduceLeDiff,set_fnd hb' s2]
noncomputable def fNil:D→D:=fun _=>.lst []
theorem markL_len (v:List Ch) (ms:List (Int×Int×Int)) (n:Nat):(markL v ms n).length=1+n+2 * v.length:=by
 have:(v.flatMap fun c=>[c.1,cend c]).length=2 * v.length:=by
  induction v with
  | nil=>rfl
  | cons c v ih=>rw [List.flatMap_cons,List.length_append,ih]; simp; (first|lia|omega)
 unfold markL endsL
 rw [List.length_append,this]
 simp
 (first|lia|omega)
theorem marks_len (v:List Ch) (ms:List (Int×Int×Int)) (n:Nat):(marks v ms n).length ≤ 1+n+2 * v.length:=by
 rw [← markL_len v ms n]
 unfold marks L3.sortUp
 rw [List.length_reverse,(L3.sortD_perm _).length_eq]
 exact L3.distinct_le _
theorem cuts_eq {ms:List (Int×Int×Int)} (f:Fine ms) (l:Lens ms) (v:List Ch) (V:Vo v) (hv:v.length ≤ 100) (n:Nat) (n1:1 ≤ n) (hn:n ≤ 177) (hen:∀ c∈v,cend c ≤ aheadV ms n) :
  D__law_cuts [.br (.lst (v.map chD)),.br (.lst (lensD ms n))]=.ok (.ow (.lst (((List.range n).map fun i=>D.lst ((gapsOf (marks v ms n) (aheadV ms i) (aheadV ms (i+1))).map D.int))))):=by
 have hz:sz=16777216:=rfl
 have u:=marks_up v ms n
 have a0:∀ k,0 ≤ aheadV ms k:=fun k=>by have:=ahead_le f l (Nat.zero_le k); rw [ahead_zero] at this; exact this
 have bd:∀ m∈marks v ms n,0 ≤ m∧m ≤ aheadV ms n:=fun m hm=>by
  rcases mem_marks.mp hm with ⟨k,hk,rfl⟩|⟨c,hc,h⟩
  ·exact ⟨a0 k,ahead_le f l hk⟩
  ·have b1:=V.b c hc
   have b2:=hen c hc
   have:c.1 < cend c:=by unfold cend; (first|lia|omega)
   (first|lia|omega)
 have ml:=marks_len v ms n
 have m0:(0:Int)∈marks v ms n:=mem_marks.mpr (.inl ⟨0,by (first|lia|omega),rfl⟩)
 have mE:aheadV ms n∈marks v ms n:=mem_marks.mpr (.inl ⟨n,by (first|lia|omega),rfl⟩)
 have mp:0 < (marks v ms n).length:=List.length_pos_of_mem m0
 have e0:(marks v ms n)[0]=0:=up_first u m0 (fun m hm=>(bd m hm).1) mp
 have eL:(marks v ms n)[(marks v ms n).length - 1]=aheadV ms n:=up_last u mE (fun m hm=>(bd m hm).2) mp
 have em:∀ k,k ≤ n→aheadV ms k∈marks v ms n:=fun k hk=>mem_marks.mpr (.inl ⟨k,hk,rfl⟩)
 have s0:fndD (marks v ms n) ms n 0=(List.range n).map fun _=>D.lst []:=by
  unfold fndD
  refine List.map_congr_left fun j hj=>?_
  have hj:j < n:=List.mem_range.mp hj
  rw [fnd_behind u (a0 j) (em j (by (first|lia|omega))) (ahead_le f l (Nat.le_succ j))]
  rfl
 have sE:fndD (marks v ms n) ms n (aheadV ms n)=(List.range n).map fun i=>D.lst ((gapsOf (marks v ms n) (aheadV ms i) (aheadV ms (i+1))).map D.int):=by
  unfold fndD
  refine List.map_congr_left fun j hj=>?_
  have hj:j < n:=List.mem_range.mp hj
  rw [fnd_full (ahead_le f l (show j+1 ≤ n from hj))]
 unfold D__law_cuts B__law_cuts
 rw [x_den]
 simp only [EV,Nat.reduceAdd,Nat.reduceSub,Nat.reduceLeDiff]
 rw [ends_comp ms n hn (.lst (v.map chD)) [none,none,none,none,none,none] rfl]
 have ad:dAddA (.lst [.int 0]) (.lst ((endsL ms n).map D.int))=.ok (.ow (.lst ((0::endsL ms n).map D.int))):=by
  rw [x_addL (by simp [hz,endsL]; (first|lia|omega))]
  rfl
 simp only [EV,Nat.reduceAdd,Nat.reduceSub,Nat.reduceLeDiff,ad]
 rw [x_iV_br (ds:=v.map chD) rfl]
 simp only [EV,Nat.reduceAdd,Nat.reduceSub,Nat.reduceLeDiff]
 obtain ⟨j4,mf⟩:=marks_for v (.lst (lensD ms n)) (.lst ((endsL ms n).map D.int)) hv v (0::endsL ms n) none (by simp [endsL]; (first|lia|omega))
 simp only [List.map_cons] at mf
 rw [mf]
 have mf2:((0::endsL ms n)++v.flatMap fun c=>[c.1,cend c])=markL v ms n:=rfl
 rw [mf2]
 simp only [EV,Nat.reduceAdd,Nat.reduceSub,Nat.reduceLeDiff]
 rw [sortSet_eq _ _ (markL v ms n) (.br (.lst ((markL v ms n).map D.int))) rfl rfl (by rw [markL_len]; (first|lia|omega))]
 rw [show L3.sortUp (L3.distinct (markL v ms n))=marks v ms n from rfl]
 simp only [EV,Nat.reduceAdd,Nat.reduceSub,Nat.reduceLeDiff]
 rw [comp_eq (ds:=lensD ms n) (ys:=(lensD ms n).map fNil) (x_iVc (w:=.br (.lst (lensD ms n))) rfl rfl) (by simp [lensD,hz]; (first|lia|omega)) (comp_all 8 fNil _ _ fun d _=>⟨.ow (.lst []),by simp only [cRho,ro,EV,Nat.reduceAdd,Nat.reduceSub,Nat.reduceLeDiff],rfl⟩)]
 rw [show (lensD ms n).map fNil=fndD (marks v ms n) ms n 0 by rw [s0]; unfold lensD; rw [List.map_map]; rfl]
 simp only [EV,Nat.reduceAdd,Nat.reduceSub,Nat.reduceLeDiff]
 rw [x_iR1 (n:=(marks v ms n).length - 1) (by simp only [EV,Nat.reduceAdd,Nat.reduceSub,Nat.reduceLeDiff,List.length_map]; congr 3; (first|lia|omega)) (by (first|lia|omega))]
 simp only [EV,Nat.reduceAdd,Nat.reduceSub,Nat.reduceLeDiff]
 obtain ⟨ρ,er,bar,j7,hρ,_⟩:=for_nx (rngD 0 ((marks v ms n).length - 1)) (fun i ρ=>∃ bar j7,ρ=envC (.lst (v.map chD)) (.lst (lensD ms n)) ms (marks v ms n) n (((marks v ms n)[i]?).getD 0) bar j4 j7∧(i < (marks v ms n).length→At v ms n (((marks v ms n)[i]?).getD 0) bar))
  (g:=gV 7) (b:=bodyC)
  (ρ:=[some (.br (.lst (v.map chD))),some (.br (.lst (lensD ms n))),some (.ow (.lst ((endsL ms n).map D.int))),some (.ow (.lst ((marks v ms n).map D.int))),j4,some (.ow (.lst (fndD (marks v ms n) ms n 0))),some (.fz (.int 0)),none])
  ⟨0,none,by rw [getElem?_pos _ 0 mp,e0]; rfl,fun _=>⟨n1,by rw [getElem?_pos _ 0 mp,e0]; exact Int.le_refl _,by rw [getElem?_pos _ 0 mp,e0]; exact a0 1⟩⟩ (fun i x ρ hx ⟨bar,j7,hρ,hA⟩=>by
   subst hρ
   have hi:i < (marks v ms n).length - 1:=by
    have:=(List.getElem?_eq_some_iff.mp hx).1
    rwa [rngD_len] at this
   rw [rngD_get,if_pos hi,Int.zero_add] at hx
   cases hx
   have hk:i+1 < (marks v ms n).length:=by (first|lia|omega)
   rw [getElem?_pos _ i (by (first|lia|omega))] at hA ⊢
   obtain ⟨bar',A',st⟩:=turn_cut f l (.lst (v.map chD)) (.lst (lensD ms n)) v n i bar hk (hA (by (first|lia|omega))) (fun m hm=>(bd m hm).2) j4
   refine ⟨_,_,rfl,.inl st,bar',some (.fz (.int i)),?_,fun _=>?_⟩
   ·rw [getElem?_pos _ (i+1) hk]; rfl
   ·rw [getElem?_pos _ (i+1) hk]; exact A')
 have er2:=er
 unfold bodyC at er2
 rw [er2]
 subst hρ
 rw [rngD_len,getElem?_pos (marks v ms n) ((marks v ms n).length - 1) (by (first|lia|omega)),eL,Option.getD_some]
 unfold envC
 simp only [EV,Nat.reduceAdd,Nat.reduceSub,Nat.reduceLeDiff,sE]
noncomputable def fEnd:D→D
 | .tup (.int a::.int b::_)=>.int (a+b)
 | _=>.non
theorem row_eqok (row:List Ch):eqok (.lst (row.map chD))=true:=eqok_lst fun x hx=>by
 obtain ⟨c,_,rfl⟩:=List.mem_map.mp hx
 show (eqokN 6 (.tup (c.2.2.map D.int)) && true)=true
 rw [Bool.and_true]
 show (c.2.2.map D.int).all (eqokN 5)=true
 exact List.all_eq_true.mpr fun y hy=>by obtain ⟨p,_,rfl⟩:=List.mem_map.mp hy; rfl
theorem s_rest:dEq (.str "rest") (.str "rest")=.ok (.fz (.bl true)):=by kernel_rfl
theorem s_note:dEq (.str "note") (.str "rest")=.ok (.fz (.bl false)):=by kernel_rfl
theorem s_ne:dNe (.str "note") (.str "note")=.ok (.fz (.bl false)):=by kernel_rfl
noncomputable def EvOk:Ev→Prop
 | .rest v=>v∈keysP
 | .note v ps _=>v∈keysP∧ps≠[]
theorem whole_ok (x:Int):D__law_whole [.fz (.int x)]=.ok (.fz (.bl true)):=by
 unfold D__law_whole B__law_whole
 simp only [EV,Nat.reduceAdd,Nat.reduceSub,Nat.reduceLeDiff]
theorem event_ok (e:Ev) (h:EvOk e):D__law_event [.fz (evD e)]=.ok (.fz (.bl true)):=by
 cases e with
 | rest v =>
  have w:=written_ok v h
  unfold D__law_event B__law_event evD
  simp only [EV,Nat.reduceAdd,Nat.reduceSub,Nat.reduceLeDiff,whole_ok,w,s_rest,show decide ((2:Int) < 2)=false from rfl,show (((2:Nat):Int) == 2)=true from rfl]
  rfl
 | note v ps t =>
  have w:=written_ok v h.1
  have pl:decide ((0:Int) < (ps.length:Int))=true:=by
   have:=List.length_pos_iff.mpr h.2
   (exact decide_eq_true (by (first|lia|omega)))
  unfold D__law_event B__law_event evD
  simp only [EV,Nat.reduceAdd,Nat.reduceSub,Nat.reduceLeDiff,whole_ok,w,s_note,s_ne,List.length_map,pl,show decide ((4:Int) < 2)=false from rfl,show ((4:Int) == 4)=true from rfl,show dIs .bool (.bl t)=.ok (.fz (.bl true)) from rfl]
theorem noteGo_ok (c:Ch) (hc:c.2.2≠[]):∀ (vs:List Int) (t:Int),(∀ x∈vs,x∈keysP)→∀ e∈noteGo c t vs,EvOk e
 | [],_,_,e,he=>by simp [noteGo] at he
 | v::vs,t,h,e,he=>by
  rw [noteGo] at he
  rcases List.mem_cons.mp he with q|q
  ·rw [q]; exact ⟨h v (by simp),hc⟩
  ·exact noteGo_ok c hc vs (t+v) (fun x hx=>h x (by simp [hx])) e q
theorem rests_ok (n:Int):∀ e∈restsOf n,EvOk e:=fun e he=>by
 unfold restsOf at he
 obtain ⟨x,hx,rfl⟩:=List.mem_map.mp he
 exact go_mem keysP n x hx
theorem bar_ok (b e:Int):∀ (v:List Ch) (S:List Ev×Int),(∀ c∈v,c.2.2≠[])→(∀ x∈S.1,EvOk x)→∀ x∈(v.foldl (barStep b e) S).1,EvOk x
 | [],S,_,h=>h
 | c::v,S,hc,h=>by
  rw [List.foldl_cons]
  refine bar_ok b e v _ (fun x hx=>hc x (by simp [hx])) fun x hx=>?_
  unfold barStep at hx
  by_cases act:(if b > c.1 then b else c.1) < (if e < cend c then e else cend c)
  ·rw [if_pos act] at hx
   (rcases List.mem_append.mp hx with hx|hx)
   ·rcases List.mem_append.mp hx with hx|hx
    ·exact h x hx
    ·exact rests_ok _ x hx
   ·exact noteGo_ok c (hc c (by simp)) _ _ (fun y hy=>go_mem keysP _ y hy) x hx
  ·rw [if_neg act] at hx
   exact h x hx
theorem barEv_ok {v:List Ch} (hc:∀ c∈v,c.2.2≠[]) (b e:Int):∀ x∈barEv v b e,EvOk x:=fun x hx=>by
 unfold barEv barS at hx
 (rcases List.mem_append.mp hx with hx|hx)
 ·exact bar_ok b e v ([],b) hc (fun y hy=>by simp at hy) x hx
 ·exact rests_ok _ x hx
theorem diffs_sum:∀ (l:List Int),UpI l→∀ a b,l.head?=some a→l.getLast?=some b→((diffs l).flatMap piecesOf).sum=b - a
 | [],_,a,b,h1,_=>by simp at h1
 | [x],_,a,b,h1,h2=>by
  simp at h1 h2
  subst h1; subst h2
  simp [diffs]
 | x::y::r,u,a,b,h1,h2=>by
  simp at h1
  subst h1
  have xy:x < y:=(List.pairwise_cons.mp u).1 y (by simp)
  have ih:=diffs_sum (y::r) (List.pairwise_cons.mp u).2 y b (by simp) (by simpa using h2)
  rw [diffs,List.flatMap_cons,List.sum_append,ih,pieces_sum _ (by (first|lia|omega))]
  (first|lia|omega)
theorem gaps_sum {M:List Int} (u:UpI M) {x y:Int} (h:x ≤ y) (hx:x∈M) (hy:y∈M):(gapsOf M x y).sum=y - x:=by
 obtain ⟨a,b,e1,e2,e3⟩:=btw_split u h (Int.le_refl y) hy
 obtain ⟨a',b',f1,f2,f3⟩:=btw_split u (Int.le_refl x) h hx
 refine diffs_sum (btw M x y) (u.sublist List.filter_sublist) x y ?_ ?_
 ·rw [f3]; rfl
 ·rw [e2]; simp
theorem voice_mem:∀ (row acc:List Ch),∀ c∈row.foldl addC acc,c∈acc∨c∈row
 | [],acc,c,hc=>.inl hc
 | d::row,acc,c,hc=>by
  rw [List.foldl_cons] at hc
  rcases voice_mem row (addC acc d) c hc with q|q
  ·unfold addC at q
   have app:c∈acc++[d]→c∈acc∨c∈d::row:=fun q=>by
    rcases List.mem_append.mp q with q|q
    ·exact .inl q
    ·exact .inr (by simp [List.mem_singleton.mp q])
   cases el:acc.getLast? with
   | none=>rw [el] at q; exact app q
   | some z =>
    rw [el] at q
    dsimp only at q
    split at q
    ·exact app q
    ·exact .inl q
  ·exact .inr (List.mem_cons_of_mem _ q)
noncomputable def fLen:D→D
 | .tup (_::x::_)=>x
 | _=>.non
noncomputable def fBar:D→D
 | .lst es=>.lst (es.map fLen)
 | _=>.non
theorem fLen_ev (e:Ev):fLen (evD e)=.int (evLen e):=by cases e <;> rfl
theorem lens_map (es:List Ev):(es.map evD).map fLen=(es.map evLen).map D.int:=by
 (rw [List.map_map,List.map_map])
 exact List.map_congr_left fun e _=>fLen_ev e
theorem ev_ix (e:Ev):dIxS (evD e) (.int 1)=.ok (.fz (.int (evLen e))):=by
 cases e
 ·unfold evD; simp only [EV,Nat.reduceAdd,Nat.reduceSub,Nat.reduceLeDiff]; rfl
 ·unfold evD; simp only [EV,Nat.reduceAdd,Nat.reduceSub,Nat.reduceLeDiff]; rfl
theorem events_for (r:List (Option En)) (hr:r.length=8):∀ (es:List Ev),(∀ e∈es,EvOk e)→∀ j8,∃ j8',forD (gV 8) (sIf (L3.tNot (tE (eCall D__law_event [(eVar 8)]))) (sRet (eC (.bl false))) sNext) (es.map evD) (r++[j8])=.nx (r++[j8'])
 | [],_,j8=>⟨j8,rfl⟩
 | e::es,h,j8=>by
  obtain ⟨j8',ih⟩:=events_for r hr es (fun x hx=>h x (by simp [hx])) (some (.fz (evD e)))
  refine ⟨j8',?_⟩
  obtain ⟨a,b,c,d,e1,f,g,i,rfl⟩:∃ a b c d e f g i,r=[a,b,c,d,e,f,g,i]:=by
   match r,hr with
   | [a,b,c,d,e,f,g,i],_=>exact ⟨a,b,c,d,e,f,g,i,rfl⟩
  rw [List.map_cons]
  unfold forD
  simp only [EV,Nat.reduceAdd,Nat.reduceSub,Nat.reduceLeDiff,event_ok e (h e (by simp))] at ih ⊢
  exact ih
theorem law_true (ns:List Int) (hn:ns.length ≤ 63):D_law [.fz (.lst (ns.map D.int))]=.ok (.fz (.bl true)):=by
 have hz:sz=16777216:=rfl
 unfold D_law B_law T1_law
 simp only [EV,Nat.reduceAdd,Nat.reduceSub,Nat.reduceLeDiff,wide_eq,voice_eq ns hn]
 have N:=notes_ok ns (cell ns 0 % 4 == 3)
 have R:=row_ok N
 have rb:=row_b N R
 have rl:(rowOf (notesOf ns (cell ns 0 % 4 == 3))).length ≤ 100:=Nat.le_trans (row_len _) (Nat.le_trans (notes_len ns _) (by decide))
 have V:=voice_vo (rowOf (notesOf ns (cell ns 0 % 4 == 3))) [] rb ⟨.nil,fun c hc=>by simp at hc⟩
 have vl:=voice_len (rowOf (notesOf ns (cell ns 0 % 4 == 3))) []
 have vn:∀ c∈voiceOf (rowOf (notesOf ns (cell ns 0 % 4 == 3))),c.2.2≠[]:=fun c hc=>by
  rcases voice_mem _ [] c hc with q|q
  ·simp at q
  ·exact R.ne c q
 have f:=meter_fine ns (cell ns 0 % 4 == 3)
 have l:=len_meter ns (cell ns 0 % 4 == 3)
 have me:=meter_eq ns (cell ns 0 % 4 == 3)
 have V:Vo (voiceOf (rowOf (notesOf ns (cell ns 0 % 4 == 3)))):=V
 have vl:(voiceOf (rowOf (notesOf ns (cell ns 0 % 4 == 3)))).length ≤ 100:=by simp at vl; exact Nat.le_trans vl rl
 generalize voiceOf (rowOf (notesOf ns (cell ns 0 % 4 == 3)))=v at V vl vn
 generalize (cell ns 0 % 4 == 3)=wd at me f l
 generalize meterOf ns wd=ms at me f l
 have endE:∃ en:Int,(eOp dMaxD (eComp 1 (iVc 2) (gV 9) tTrue (eOp dAddA (eOp dIxS (eVar 9) (eC (.int 0))) (eOp dIxS (eVar 9) (eC (.int 1))))) (eC (.int 0))) [some (.fz (.lst (ns.map D.int))),some (.fz (.bl wd)),some (.ow (.lst (v.map chD))),none,none,none,none,none,none]=.ok (.fz (.int en))∧en ≤ 1400∧∀ c∈v,cend c ≤ en:=by
  simp only [x_op]
  rw [comp_eq (ds:=v.map chD) (ys:=(v.map cend).map D.int) (x_iVc (w:=.ow (.lst (v.map chD))) rfl rfl) (by rw [List.length_map,hz]; (first|lia|omega)) (by
   rw [comp_all 9 fEnd (v.map chD) _ fun d hd=>?_]
   ·rw [List.map_map,List.map_map]; rfl
   ·obtain ⟨c,_,rfl⟩:=List.mem_map.mp hd
    refine ⟨.fz (.int (c.1+c.2.1)),?_,rfl⟩
    simp only [cRho,ro,EV,Nat.reduceAdd,Nat.reduceSub,Nat.reduceLeDiff,chD])]
  cases v with
  | nil=>exact ⟨0,rfl,by decide,fun c hc=>by simp at hc⟩
  | cons c v =>
   obtain ⟨k1,k2⟩:=maxL_ok (v.map cend) (cend c)
   refine ⟨maxL (cend c) (v.map cend),?_,?_,fun x hx=>?_⟩
   ·rw [List.map_cons]
    simp only [EV,Nat.reduceAdd,Nat.reduceSub,Nat.reduceLeDiff]
    exact x_maxD
   ·obtain ⟨x,hx,ex⟩:=List.mem_map.mp (show maxL (cend c) (v.map cend)∈(c::v).map cend from k1)
    have:=V.b x hx
    (first|lia|omega)
   ·exact k2 _ (show cend x∈(c::v).map cend from List.mem_map.mpr ⟨x,hx,rfl⟩)
 obtain ⟨en,ee,e1,e2⟩:=endE
 have c0:=cell_eq ns 0
 have m2:0 ≤ cell ns 0 / 4 % 2∧cell ns 0 / 4 % 2 < 2:=⟨Int.emod_nonneg _ (by decide),Int.emod_lt_of_pos _ (by decide)⟩
 obtain ⟨n,el,n1,n2,n3⟩:=lengths_eq f l (en+cell ns 0 / 4 % 2) (by (first|lia|omega))
 unfold T2_law T3_law T4_law T5_law
 have evs_:=events_eqB f l v V n n2
 have cu:=cuts_eq f l v V vl n n1 n2 fun c hc=>by have:=e2 c hc; (first|lia|omega)
 have dv:dDiv (.int (cell ns 0)) (.int 4)=.ok (.fz (.int (cell ns 0 / 4))):=x_div (by decide) (by decide)
 have mo:dMod (.int (cell ns 0 / 4)) (.int 2)=.ok (.fz (.int (cell ns 0 / 4 % 2))):=x_mod (by decide)
 have bl:(barsD (barsOf v ms n)).length=n:=by simp [barsD,barsOf]
 have ll:((List.range n).map fun k:Nat=>D.int (dueV ms k)).length=n:=by simp
 have c0:D__law_cell [.fz (.lst (ns.map D.int)),.fz (.int 0)]=.ok (.fz (.int (cell ns 0))):=c0
 rw [x_seq,x_set,ee]
 have nn:((n:Int) == (n:Int))=true:=by simp
 simp only [EV,Nat.reduceAdd,Nat.reduceSub,Nat.reduceLeDiff,me,c0,dv,mo,el,evs_,x_ne_self (row_eqok v),bl,ll,nn]
 rw [x_iR1 (n:=n) (by simp only [EV,Nat.reduceAdd,Nat.reduceSub,Nat.reduceLeDiff,ll]) (by (first|lia|omega))]
 simp only [EV,Nat.reduceAdd,Nat.reduceSub,Nat.reduceLeDiff]
 have gb:∀ i,i < n→(barsD (barsOf v ms n))[i]?=some (.lst ((barEv v (aheadV ms i) (aheadV ms (i+1))).map evD)):=fun i hi=>by
  unfold barsD barsOf
  rw [List.getElem?_map,List.getElem?_map,List.getElem?_range hi]
  rfl
 have gl:∀ i,i < n→((List.range n).map fun k:Nat=>D.int (dueV ms k))[i]?=some (.int (dueV ms i)):=fun i hi=>by
  rw [List.getElem?_map,List.getElem?_range hi]
  rfl
 obtain ⟨ρ,er,j7,j8,hρ⟩:=for_nx (rngD 0 n) (fun i ρ=>∃ j7 j8,ρ=[some (.fz (.lst (ns.map D.int))),some (.fz (.bl wd)),some (.ow (.lst (v.map chD))),some (.fz (.int en)),some (.ow (.lst ((List.range n).map fun k:Nat=>D.int (dueV ms k)))),some (.ow (.lst (v.map chD))),some (.ow (.lst (barsD (barsOf v ms n)))),j7,j8])
  (g:=gV 7) (b:=(sSeq (sIf (L3.tNot (tE (eUn (dIs .list) (eOp dIxS (eVar 6) (eVar 7))))) (sRet (eC (.bl false))) sNext)
 (sSeq (sFor (iSeq (eOp dIxS (eVar 6) (eVar 7))) (gV 8) (sIf (L3.tNot (tE (eCall D__law_event [(eVar 8)]))) (sRet (eC (.bl false))) sNext))
 (sIf (tE (eOp dNe (eB dSum [(eComp 1 (iSeq (eOp dIxS (eVar 6) (eVar 7))) (gV 9) tTrue (eOp dIxS (eVar 9) (eC (.int 1))))]) (eOp dIxS (eVar 4) (eVar 7)))) (sRet (eC (.bl false))) sNext))))
  (ρ:=[some (.fz (.lst (ns.map D.int))),some (.fz (.bl wd)),some (.ow (.lst (v.map chD))),some (.fz (.int en)),some (.ow (.lst ((List.range n).map fun k:Nat=>D.int (dueV ms k)))),some (.ow (.lst (v.map chD))),some (.ow (.lst (barsD (barsOf v ms n)))),none,none]) ⟨none,none,rfl⟩ (fun i x ρ hx ⟨j7,j8,hρ⟩=>by
   subst hρ
   have hi:i < n:=by
    have:=(List.getElem?_eq_some_iff.mp hx).1
    rwa [rngD_len] at this
   rw [rngD_get,if_pos hi,Int.zero_add] at hx
   cases hx
   have dp:=due_pos f l i
   have be:aheadV ms i < aheadV ms (i+1):=by rw [ahead_succ]; (first|lia|omega)
   have K:=marks_bar f l v n i hi
   have bg:=bar_gaps V K be
   have bs:=gaps_sum K.up (Int.le_of_lt be) K.hb K.he
   have bo:=barEv_ok vn (aheadV ms i) (aheadV ms (i+1))
   have bln:=bar_len V be
   rw [ahead_succ] at bln
   have bln:((barEv v (aheadV ms i) (aheadV ms (i+1))).length:Int) ≤ 512:=by rw [ahead_succ]; (first|lia|omega)
   have g:=gb i hi
   generalize barEv v (aheadV ms i) (aheadV ms (i+1))=es at bg bo bln g
   have sm:dSum [.lst ((es.map evLen).map D.int)]=.ok (.fz (.int (dueV ms i))):=by
    rw [x_sum,bg,bs,ahead_succ]
    congr 3
    (first|lia|omega)
   obtain ⟨j8',ef⟩:=events_for [some (.fz (.lst (ns.map D.int))),some (.fz (.bl wd)),some (.ow (.lst (v.map chD))),some (.fz (.int en)),some (.ow (.lst ((List.range n).map fun k:Nat=>D.int (dueV ms k)))),some (.ow (.lst (v.map chD))),some (.ow (.lst (barsD (barsOf v ms n)))),some (.fz (.int (i:Int)))] rfl es bo j8
   refine ⟨_,_,rfl,.inl ?_,some (.fz (.int i)),j8',rfl⟩
   simp only [EV,Nat.reduceAdd,Nat.reduceSub,Nat.reduceLeDiff,ati_nat,g]
   rw [x_iSeq (w:=.fz (.lst (es.map evD))) (by simp only [EV,Nat.reduceAdd,Nat.reduceSub,Nat.reduceLeDiff,ati_nat,g]) rfl]
   simp only [EV,Nat.reduceAdd,Nat.reduceSub,Nat.reduceLeDiff]
   simp only [List.cons_append,List.nil_append] at ef
   rw [ef]
   simp only [EV,Nat.reduceAdd,Nat.reduceSub,Nat.reduceLeDiff]
   rw [comp_eq (ds:=es.map evD) (ys:=(es.map evLen).map D.int) (x_iSeq (w:=.fz (.lst (es.map evD))) (by simp only [EV,Nat.reduceAdd,Nat.reduceSub,Nat.reduceLeDiff,ati_nat,g]) rfl) (by rw [List.length_map,hz]; (first|lia|omega)) (by
    rw [comp_all 9 fLen (es.map evD) _ fun d hd=>?_]
    ·rw [lens_map]
    ·obtain ⟨e,_,rfl⟩:=List.mem_map.mp hd
     refine ⟨.fz (.int (evLen e)),?_,by rw [fLen_ev]⟩
     simp only [cRho,ro,EV,Nat.reduceAdd,Nat.reduceSub,Nat.reduceLeDiff,ev_ix])]
   have dd:(dueV ms i == dueV ms i)=true:=by simp
   simp only [EV,Nat.reduceAdd,Nat.reduceSub,Nat.reduceLeDiff,sm,ati_nat,gl i hi,dd])
 rw [er]
 subst hρ
 simp only [EV,Nat.reduceAdd,Nat.reduceSub,Nat.reduceLeDiff]
 rw [comp_eq (ds:=barsD (barsOf v ms n)) (ys:=(List.range n).map fun i=>D.lst ((gapsOf (marks v ms n) (aheadV ms i) (aheadV ms (i+1))).map D.int)) (x_iVc (w:=.ow (.lst (barsD (barsOf v ms n)))) rfl rfl) (by rw [bl,hz]; (first|lia|omega)) (by
  rw [comp_all 9 fBar (barsD (barsOf v ms n)) _ fun d hd=>?_]
  ·unfold barsD barsOf
   (rw [List.map_map,List.map_map])
   refine congrArg _ (List.map_congr_left fun i hi=>?_)
   have hi:i < n:=List.mem_range.mp hi
   have dp:=due_pos f l i
   have be:aheadV ms i < aheadV ms (i+1):=by rw [ahead_succ]; (first|lia|omega)
   show D.lst (((barEv v (aheadV ms i) (aheadV ms (i+1))).map evD).map fLen)=_
   rw [lens_map,bar_gaps V (marks_bar f l v n i hi) be]
  ·unfold barsD barsOf at hd
   rw [List.map_map] at hd
   obtain ⟨i,hi,rfl⟩:=List.mem_map.mp hd
   have dp:=due_pos f l i
   have be:aheadV ms i < aheadV ms (i+1):=by rw [ahead_succ]; (first|lia|omega)
   have bln:=bar_len V be
   rw [ahead_succ] at bln
   dsimp only [Function.comp]
   have bln:((barEv v (aheadV ms i) (aheadV ms (i+1))).length:Int) ≤ 512:=by rw [ahead_succ]; (first|lia|omega)
   generalize barEv v (aheadV ms i) (aheadV ms (i+1))=es at bln
   refine ⟨.ow (.lst ((es.map evD).map fLen)),?_,rfl⟩
   refine comp_eq (ds:=es.map evD) (x_iVc (w:=.fz (.lst (es.map evD))) rfl rfl) (by rw [List.length_map,hz]; (first|lia|omega)) (comp_all 10 fLen (es.map evD) _ fun d hd=>?_)
   obtain ⟨e,_,rfl⟩:=List.mem_map.mp hd
   refine ⟨.fz (.int (evLen e)),?_,by rw [fLen_ev]⟩
   simp only [cRho,ro,EV,Nat.reduceAdd,Nat.reduceSub,Nat.reduceLeDiff,ev_ix])]
 have cu:D__law_cuts [.br (.lst (v.map chD)),.br (.lst ((List.range n).map fun k:Nat=>D.int (dueV ms k)))]=_:=cu
 simp only [EV,Nat.reduceAdd,Nat.reduceSub,Nat.reduceLeDiff,cu]
 have eo:eqok (.lst ((List.range n).map fun i=>D.lst ((gapsOf (marks v ms n) (aheadV ms i) (aheadV ms (i+1))).map D.int)))=true:=eqok_lst fun x hx=>by
  obtain ⟨i,_,rfl⟩:=List.mem_map.mp hx
  show ((gapsOf (marks v ms n) (aheadV ms i) (aheadV ms (i+1))).map D.int).all (eqokN 6)=true
  exact List.all_eq_true.mpr fun y hy=>by obtain ⟨p,_,rfl⟩:=List.mem_map.mp hy; rfl
 simp only [EV,Nat.reduceAdd,Nat.reduceSub,Nat.reduceLeDiff,x_eq_self eo]
section
variable {P:Program} {w:World} {K:PySem.W.Frag} {mg:Str→Option Value} {base:Heap}
theorem sc_end_of:FnScope ["sound"] ["sound"] (defScope s_end_of):=⟨rfl,rfl,rfl,by decide +kernel,rfl,by decide +kernel,by decide +kernel⟩
theorem ok_end_of {f:Addr} {fd:FuncData} (F:Fun K "end_of" "end_of" s_end_of f fd) :
  FnOk P w K mg base CX0 1 f fd ["sound"] (spD ⟨P,w,K⟩ D_end_of 1):=by
 refine fnD (N:=["sound"]) F sc_end_of (fun cdv A outer s H F0 hr=>?_)
 have nd:=sc_end_of.nd
 have hu:=hu10 hr
 exact (sss_one (ss_ret (se_op od_addA (se_ix (se_var 0) se_int) (se_ix (se_var 0) se_int))))
theorem sc_pieces:FnScope ["length","row","left","value"] ["length"] (defScope s_pieces):=⟨rfl,rfl,rfl,by decide +kernel,rfl,by decide +kernel,by decide +kernel⟩
theorem ok_pieces {f:Addr} {fd:FuncData} (F:Fun K "pieces" "pieces" s_pieces f fd)
  {u_SHAPES:Value} {v_SHAPES:V} (m_SHAPES:mg "SHAPES"=some u_SHAPES) (r_SHAPES:RelV v_SHAPES u_SHAPES) (q_SHAPES:∀ F,Rep ⟨P,w,K⟩ F v_SHAPES c_SHAPES) :
  FnOk P w K mg base CX0 1 f fd ["length"] (spD ⟨P,w,K⟩ D_pieces 1):=by
 refine fnD (N:=["length","row","left","value"]) F sc_pieces (fun cdv A outer s H F0 hr=>?_)
 have nd:=sc_pieces.nd
 have hu:=hu10 hr
 exact (sss_cons (ss_set 1 nd (se_lst sa_nil))
 (sss_cons (ss_set 2 nd (se_var 0))
 (sss_cons (ss_for PassesOwn.never rfl (si_dictK m_SHAPES r_SHAPES q_SHAPES) (sg_name 3 nd) (sss_one (ss_while 520 PassesOwn.never (st_cmp od_le (se_var 3) (se_var 2)) (sss_cons (ss_app 1 (se_var 3))
 (sss_one (ss_aug 2 nd oi_sub (se_var 3)))))))
 (sss_one (ss_retV 1)))))
theorem sc__law_cell:FnScope ["_law_script","_law_k"] ["_law_script","_law_k"] (defScope s__law_cell):=⟨rfl,rfl,rfl,by decide +kernel,rfl,by decide +kernel,by decide +kernel⟩
theorem ok__law_cell {f:Addr} {fd:FuncData} (F:Fun K "_law_cell" "_law_cell" s__law_cell f fd)
  (b_len:mg "len"=none) :
  FnOk P w K mg base CX0 1 f fd ["_law_script","_law_k"] (spD ⟨P,w,K⟩ D__law_cell 2):=by
 refine fnD (N:=["_law_script","_law_k"]) F sc__law_cell (fun cdv A outer s H F0 hr=>?_)
 have nd:=sc__law_cell.nd
 have hu:=hu10 hr
 exact (sss_cons (ss_if (st_cmp od_lt (se_var 1) (se_callB cd_lenA b_len PySem.boot_len (sa_cons (se_var 0) sa_nil))) (sss_one (ss_ret (se_ix (se_var 0) (se_var 1)))) sss_nil)
 (sss_one (ss_ret se_int)))
theorem sc__law_mix:FnScope ["_law_cell_here","_law_prime","_law_many"] ["_law_cell_here","_law_prime","_law_many"] (defScope s__law_mix):=⟨rfl,rfl,rfl,by decide +kernel,rfl,by decide +kernel,by decide +kernel⟩
theorem ok__law_mix {f:Addr} {fd:FuncData} (F:Fun K "_law_mix" "_law_mix" s__law_mix f fd) :
  FnOk P w K mg base CX0 1 f fd ["_law_cell_here","_law_prime","_law_many"] (spD ⟨P,w,K⟩ D__law_mix 3):=by
 refine fnD (N:=["_law_cell_here","_law_prime","_law_many"]) F sc__law_mix (fun cdv A outer s H F0 hr=>?_)
 have nd:=sc__law_mix.nd
 have hu:=hu10 hr
 exact (sss_one (ss_ret (se_op od_mod (se_op od_mod (se_op od_mul (se_var 0) se_int) (se_var 1)) (se_var 2))))
theorem sc__law_whole:FnScope ["_law_found"] ["_law_found"] (defScope s__law_whole):=⟨rfl,rfl,rfl,by decide +kernel,rfl,by decide +kernel,by decide +kernel⟩
theorem ok__law_whole {f:Addr} {fd:FuncData} (F:Fun K "_law_whole" "_law_whole" s__law_whole f fd)
  (b_isinstance:mg "isinstance"=none)
  (b_int:mg "int"=none)
  (b_bool:mg "bool"=none) :
  FnOk P w K mg base CX0 1 f fd ["_law_found"] (spD ⟨P,w,K⟩ D__law_whole 1):=by
 refine fnD (N:=["_law_found"]) F sc__law_whole (fun cdv A outer s H F0 hr=>?_)
 have nd:=sc__law_whole.nd
 have hu:=hu10 hr
 exact (sss_one (ss_ret (se_and (se_isi .int (se_var 0) b_isinstance b_int) (se_one (se_not (se_isi .bool (se_var 0) b_isinstance b_bool))))))
theorem sc__law_apart:FnScope ["_law_note_here","_law_notes_here","_law_other"] ["_law_note_here","_law_notes_here"] (defScope s__law_apart):=⟨rfl,rfl,rfl,by decide +kernel,rfl,by decide +kernel,by decide +kernel⟩
theorem ok__law_apart {f:Addr} {fd:FuncData} (F:Fun K "_law_apart" "_law_apart" s__law_apart f fd) :
  FnOk P w K mg base CX0 1 f fd ["_law_note_here","_law_notes_here"] (spD ⟨P,w,K⟩ D__law_apart 2):=by
 refine fnD (N:=["_law_note_here","_law_notes_here","_law_other"]) F sc__law_apart (fun cdv A outer s H F0 hr=>?_)
 have nd:=sc__law_apart.nd
 have hu:=hu10 hr
 exact (sss_cons (ss_frz 1 (ss_for PassesOwn.never rfl (si_var 1) (sg_name 2 nd) (sss_one (ss_if (st_w (sw_and (st_cmp (od_eq hu) (se_ix (se_var 0) se_int) (se_ix (se_var 2) se_int)) (sw_and (st_cmp od_lt (se_ix (se_var 0) se_int) (se_op od_addA (se_ix (se_var 2) se_int) (se_ix (se_var 2) se_int))) (sw_and1 (st_cmp od_lt (se_ix (se_var 2) se_int) (se_op od_addA (se_ix (se_var 0) se_int) (se_ix (se_var 0) se_int))))))) (sss_one (ss_ret se_bl)) sss_nil))))
 (sss_one (ss_ret se_bl)))
theorem sc__law_meets:FnScope ["_law_note_here","_law_notes_here","_law_seen","_law_other"] ["_law_note_here","_law_notes_here"] (defScope s__law_meets):=⟨rfl,rfl,rfl,by decide +kernel,rfl,by decide +kernel,by decide +kernel⟩
theorem ok__law_meets {f:Addr} {fd:FuncData} (F:Fun K "_law_meets" "_law_meets" s__law_meets f fd)
  (b_len:mg "len"=none) :
  FnOk P w K mg base CX0 1 f fd ["_law_note_here","_law_notes_here"] (spD ⟨P,w,K⟩ D__law_meets 2):=by
 refine fnD (N:=["_law_note_here","_law_notes_here","_law_seen","_law_other"]) F sc__law_meets (fun cdv A outer s H F0 hr=>?_)
 have nd:=sc__law_meets.nd
 have hu:=hu10 hr
 exact (sss_cons (ss_set 2 nd se_dT)
 (sss_cons (ss_frz 1 (ss_for PassesOwn.never rfl (si_var 1) (sg_name 3 nd) (sss_one (ss_if (st_w (sw_and (st_cmp od_lt (se_ix (se_var 3) se_int) (se_op od_addA (se_ix (se_var 0) se_int) (se_ix (se_var 0) se_int))) (sw_and1 (st_cmp od_lt (se_ix (se_var 0) se_int) (se_op od_addA (se_ix (se_var 3) se_int) (se_ix (se_var 3) se_int)))))) (sss_one (ss_if (st_cmp (od_ne hu) (se_tup (sa_cons (se_ix (se_var 3) se_int) (sa_cons (se_ix (se_var 3) se_int) sa_nil))) (se_tup (sa_cons (se_ix (se_var 0) se_int) (sa_cons (se_ix (se_var 0) se_int) sa_nil)))) (sss_one (ss_putT 2 hu (sa_cons (se_ix (se_var 3) se_int) (sa_cons (se_ix (se_var 3) se_int) sa_nil)) se_bl)) sss_nil)) sss_nil))))
 (sss_one (ss_ret (se_callB cd_lenA b_len PySem.boot_len (sa_cons (se_var 2) sa_nil))))))
theorem sc__law_written:FnScope ["_law_length","_law_base","_law_part"] ["_law_length"] (defScope s__law_written):=⟨rfl,rfl,rfl,by decide +kernel,rfl,by decide +kernel,by decide +kernel⟩
theorem ok__law_written {f:Addr} {fd:FuncData} (F:Fun K "_law_written" "_law_written" s__law_written f fd) :
  FnOk P w K mg base CX0 1 f fd ["_law_length"] (spD ⟨P,w,K⟩ D__law_written 1):=by
 refine fnD (N:=["_law_length","_law_base","_law_part"]) F sc__law_written (fun cdv A outer s H F0 hr=>?_)
 have nd:=sc__law_written.nd
 have hu:=hu10 hr
 exact (sss_cons (ss_for PassesOwn.never rfl (si_seq (se_lst (sa_cons se_int (sa_cons se_int (sa_cons se_int (sa_cons se_int (sa_cons se_int (sa_cons se_int (sa_cons se_int sa_nil))))))))) (sg_name 1 nd) (sss_one (ss_for PassesOwn.never rfl (si_seq (se_lst (sa_cons se_int (sa_cons se_int (sa_cons se_int sa_nil))))) (sg_name 2 nd) (sss_one (ss_if (st_w (sw_and (st_cmp (od_eq hu) (se_op od_mod (se_var 1) (se_var 2)) se_int) (sw_and1 (st_cmp (od_eq hu) (se_op od_mul (se_var 1) (se_op od_sub (se_op od_mul se_int (se_var 2)) se_int)) (se_op od_mul (se_var 0) (se_var 2)))))) (sss_one (ss_ret se_bl)) sss_nil)))))
 (sss_one (ss_ret se_bl)))
theorem sc__law_lengths:FnScope ["_law_meter_here","_law_end","_law_found"] ["_law_meter_here","_law_end"] (defScope s__law_lengths):=⟨rfl,rfl,rfl,by decide +kernel,rfl,by decide +kernel,by decide +kernel⟩
theorem ok__law_lengths {f:Addr} {fd:FuncData} (F:Fun K "_law_lengths" "_law_lengths" s__law_lengths f fd)
  (b_sum:mg "sum"=none)
  (b_len:mg "len"=none) :
  FnOk P w K mg base CX0 1 f fd ["_law_meter_here","_law_end"] (spD ⟨P,w,K⟩ D__law_lengths 2):=by
 refine fnD (N:=["_law_meter_here","_law_end","_law_found"]) F sc__law_lengths (fun cdv A outer s H F0 hr=>?_)
 have nd:=sc__law_lengths.nd
 have hu:=hu10 hr
 have nd1:(["_law_meter_here","_law_end","_law_found","_law_step_here"]:List Str).Nodup:=by decide +kernel
 exact (sss_cons (ss_set 2 nd (se_lst sa_nil))
 (sss_cons (ss_while 200 PassesOwn.never (st_w (sw_or (st_not (st_val (se_var 2))) (sw_or1 (st_cmp od_lt (se_callB (cd_sum rfl) b_sum PyProof.Rows.boot_sum (sa_cons (se_var 2) sa_nil)) (se_var 1))))) (sss_one (ss_app 2 (se_ix (se_comp (n:=1) ["_law_meter_here","_law_end","_law_found","_law_step_here"] (sic_var 0) (no_gV 3) (fun _ _ _ _ _=>(sg_name 3 nd1)) (fun _ _ _ _ _=>(.one (st_cmp od_le (se_ix (se_var 3) se_int) (se_callB cd_lenA b_len PySem.boot_len (sa_cons (se_var 2) sa_nil))))) (fun _ _ _ _ _=>(se_op od_mul (se_ix (se_var 3) se_int) (se_ix (se_var 3) se_int)))) (se_neg se_int)))))
 (sss_one (ss_retV 2))))
theorem sc__law_pieces:FnScope ["_law_length","_law_some","_law_base","_law_part","_law_found","_law_value"] ["_law_length"] (defScope s__law_pieces):=⟨rfl,rfl,rfl,by decide +kernel,rfl,by decide +kernel,by decide +kernel⟩
theorem ok__law_pieces {f:Addr} {fd:FuncData} (F:Fun K "_law_pieces" "_law_pieces" s__law_pieces f fd)
  (b_sorted:mg "sorted"=none) :
  FnOk P w K mg base CX0 1 f fd ["_law_length"] (spD ⟨P,w,K⟩ D__law_pieces 1):=by
 refine fnD (N:=["_law_length","_law_some","_law_base","_law_part","_law_found","_law_value"]) F sc__law_pieces (fun cdv A outer s H F0 hr=>?_)
 have nd:=sc__law_pieces.nd
 have hu:=hu10 hr
 exact (sss_cons (ss_set 1 nd (se_lst sa_nil))
 (sss_cons (ss_for PassesOwn.never rfl (si_seq (se_lst (sa_cons se_int (sa_cons se_int (sa_cons se_int (sa_cons se_int (sa_cons se_int (sa_cons se_int (sa_cons se_int sa_nil))))))))) (sg_name 2 nd) (sss_one (ss_for PassesOwn.never rfl (si_seq (se_lst (sa_cons se_int (sa_cons se_int (sa_cons se_int sa_nil))))) (sg_name 3 nd) (sss_one (ss_if (st_cmp (od_eq hu) (se_op od_mod (se_var 2) (se_var 3)) se_int) (sss_one (ss_app 1 (se_op od_div (se_op od_mul (se_var 2) (se_op od_sub (se_op od_mul se_int (se_var 3)) se_int)) (se_var 3)))) sss_nil)))))
 (sss_cons (ss_set 4 nd (se_lst sa_nil))
 (sss_cons (ss_for PassesOwn.never rfl (si_seq (se_sortR (se_var 1) se_bl b_sorted)) (sg_name 5 nd) (sss_one (ss_while 1000 PassesOwn.never (st_cmp od_le (se_var 5) (se_var 0)) (sss_cons (ss_app 4 (se_var 5))
 (sss_one (ss_set 0 nd (se_op od_sub (se_var 0) (se_var 5))))))))
 (sss_one (ss_retV 4))))))
theorem sc_rest_events:FnScope ["length"] ["length"] (defScope s_rest_events):=⟨rfl,rfl,rfl,by decide +kernel,rfl,by decide +kernel,by decide +kernel⟩
theorem ok_rest_events {f:Addr} {fd:FuncData} (F:Fun K "rest_events" "rest_events" s_rest_events f fd)
  {f_pieces:Addr} {fd_pieces:FuncData} (G_pieces:FnOk P w K mg base CX0 1 f_pieces fd_pieces ["length"] (spD ⟨P,w,K⟩ D_pieces 1)) (m_pieces:mg "pieces"=some (.ref f_pieces)) (k_pieces:PySem.W.keepIn K (.ref f_pieces)=true) (b_pieces:Binds K fd_pieces ["length"] []) :
  FnOk P w K mg base CX0 2 f fd ["length"] (spD ⟨P,w,K⟩ D_rest_events 1):=by
 refine fnD (N:=["length"]) F sc_rest_events (fun cdv A outer s H F0 hr=>?_)
 have nd:=sc_rest_events.nd
 have hu:=hu10 hr
 have nd1:(["length","value"]:List Str).Nodup:=by decide +kernel
 exact (sss_one (ss_ret (se_comp (n:=1) ["length","value"] (SI.c (si_seq (se_call G_pieces (hr.mono (by decide)) m_pieces k_pieces b_pieces (sa_cons (se_var 0) sa_nil)))) (no_gV 1) (fun _ _ _ _ _=>(sg_name 1 nd1)) (fun _ _ _ _ _=>.nil) (fun _ _ _ _ _=>(se_tup (sa_cons se_str (sa_cons (se_var 1) sa_nil)))))))
theorem sc_note_events:FnScope ["chord","first","behind","end","row","tick","value"] ["chord","first","behind"] (defScope s_note_events):=⟨rfl,rfl,rfl,by decide +kernel,rfl,by decide +kernel,by decide +kernel⟩
theorem ok_note_events {f:Addr} {fd:FuncData} (F:Fun K "note_events" "note_events" s_note_events f fd)
  {f_end_of:Addr} {fd_end_of:FuncData} (G_end_of:FnOk P w K mg base CX0 1 f_end_of fd_end_of ["sound"] (spD ⟨P,w,K⟩ D_end_of 1)) (m_end_of:mg "end_of"=some (.ref f_end_of)) (k_end_of:PySem.W.keepIn K (.ref f_end_of)=true) (b_end_of:Binds K fd_end_of ["sound"] [])
  {f_pieces:Addr} {fd_pieces:FuncData} (G_pieces:FnOk P w K mg base CX0 1 f_pieces fd_pieces ["length"] (spD ⟨P,w,K⟩ D_pieces 1)) (m_pieces:mg "pieces"=some (.ref f_pieces)) (k_pieces:PySem.W.keepIn K (.ref f_pieces)=true) (b_pieces:Binds K fd_pieces ["length"] []) :
  FnOk P w K mg base CX0 2 f fd ["chord","first","behind"] (spD ⟨P,w,K⟩ D_note_events 3):=by
 refine fnD (N:=["chord","first","behind","end","row","tick","value"]) F sc_note_events (fun cdv A outer s H F0 hr=>?_)
 have nd:=sc_note_events.nd
 have hu:=hu10 hr
 exact (sss_cons (ss_set 3 nd (se_call G_end_of (hr.mono (by decide)) m_end_of k_end_of b_end_of (sa_cons (se_var 0) sa_nil)))
 (sss_cons (ss_set 4 nd (se_lst sa_nil))
 (sss_cons (ss_set 5 nd (se_var 1))
 (sss_cons (ss_for PassesOwn.never rfl (si_seq (se_call G_pieces (hr.mono (by decide)) m_pieces k_pieces b_pieces (sa_cons (se_op od_sub (se_var 2) (se_var 1)) sa_nil))) (sg_name 6 nd) (sss_cons (ss_aug 5 nd oi_addI (se_var 6))
 (sss_one (ss_app 4 (se_tup (sa_cons se_str (sa_cons (se_var 6) (sa_cons (se_ix (se_var 0) se_int) (sa_cons (se_cmp od_lt (se_var 5) (se_var 3)) sa_nil)))))))))
 (sss_one (ss_retV 4))))))
theorem sc__law_large:FnScope ["_law_script"] ["_law_script"] (defScope s__law_large):=⟨rfl,rfl,rfl,by decide +kernel,rfl,by decide +kernel,by decide +kernel⟩
theorem ok__law_large {f:Addr} {fd:FuncData} (F:Fun K "_law_large" "_law_large" s__law_large f fd)
  {f__law_cell:Addr} {fd__law_cell:FuncData} (G__law_cell:FnOk P w K mg base CX0 1 f__law_cell fd__law_cell ["_law_script","_law_k"] (spD ⟨P,w,K⟩ D__law_cell 2)) (m__law_cell:mg "_law_cell"=some (.ref f__law_cell)) (k__law_cell:PySem.W.keepIn K (.ref f__law_cell)=true) (b__law_cell:Binds K fd__law_cell ["_law_script","_law_k"] [])
  {f__law_mix:Addr} {fd__law_mix:FuncData} (G__law_mix:FnOk P w K mg base CX0 1 f__law_mix fd__law_mix ["_law_cell_here","_law_prime","_law_many"] (spD ⟨P,w,K⟩ D__law_mix 3)) (m__law_mix:mg "_law_mix"=some (.ref f__law_mix)) (k__law_mix:PySem.W.keepIn K (.ref f__law_mix)=true) (b__law_mix:Binds K fd__law_mix ["_law_cell_here","_law_prime","_law_many"] [])
  (b_len:mg "len"=none) :
  FnOk P w K mg base CX0 2 f fd ["_law_script"] (spD ⟨P,w,K⟩ D__law_large 1):=by
 refine fnD (N:=["_law_script"]) F sc__law_large (fun cdv A outer s H F0 hr=>?_)
 have nd:=sc__law_large.nd
 have hu:=hu10 hr
 exact (sss_one (ss_ret (se_cmp (od_eq hu) (se_call G__law_mix (hr.mono (by decide)) m__law_mix k__law_mix b__law_mix (sa_cons (se_op od_addA (se_call G__law_cell (hr.mono (by decide)) m__law_cell k__law_cell b__law_cell (sa_cons (se_var 0) (sa_cons se_int sa_nil))) (se_op od_mul se_int (se_callB cd_lenA b_len PySem.boot_len (sa_cons (se_var 0) sa_nil)))) (sa_cons se_int (sa_cons se_int sa_nil)))) se_int)))
theorem sc__law_step:FnScope ["_law_cell_here","_law_bar","_law_wide_here","_law_units","_law_least","_law_most","_law_unit","_law_low","_law_high"] ["_law_cell_here","_law_bar","_law_wide_here"] (defScope s__law_step):=⟨rfl,rfl,rfl,by decide +kernel,rfl,by decide +kernel,by decide +kernel⟩
theorem ok__law_step {f:Addr} {fd:FuncData} (F:Fun K "_law_step" "_law_step" s__law_step f fd)
  {f__law_mix:Addr} {fd__law_mix:FuncData} (G__law_mix:FnOk P w K mg base CX0 1 f__law_mix fd__law_mix ["_law_cell_here","_law_prime","_law_many"] (spD ⟨P,w,K⟩ D__law_mix 3)) (m__law_mix:mg "_law_mix"=some (.ref f__law_mix)) (k__law_mix:PySem.W.keepIn K (.ref f__law_mix)=true) (b__law_mix:Binds K fd__law_mix ["_law_cell_here","_law_prime","_law_many"] [])
  (b_len:mg "len"=none)
  (b_min:mg "min"=none) :
  FnOk P w K mg base CX0 2 f fd ["_law_cell_here","_law_bar","_law_wide_here"] (spD ⟨P,w,K⟩ D__law_step 3):=by
 refine fnD (N:=["_law_cell_here","_law_bar","_law_wide_here","_law_units","_law_least","_law_most","_law_unit","_law_low","_law_high"]) F sc__law_step (fun cdv A outer s H F0 hr=>?_)
 have nd:=sc__law_step.nd
 have hu:=hu10 hr
 exact (sss_cons (ss_set 3 nd (se_lst (sa_cons se_int (sa_cons se_int (sa_cons se_int (sa_cons se_int (sa_cons se_int (sa_cons se_int (sa_cons se_int sa_nil)))))))))
 (sss_cons (ss_set 4 nd se_int)
 (sss_cons (ss_set 5 nd se_int)
 (sss_cons (ss_if (st_val (se_var 2)) (sss_cons (ss_set 3 nd (se_lst (sa_cons se_int (sa_cons se_int (sa_cons se_int (sa_cons se_int (sa_cons se_int sa_nil)))))))
 (sss_cons (ss_set 4 nd se_int)
 (sss_one (ss_set 5 nd se_int)))) sss_nil)
 (sss_cons (ss_set 6 nd (se_ix (se_var 3) (se_call G__law_mix (hr.mono (by decide)) m__law_mix k__law_mix b__law_mix (sa_cons (se_var 0) (sa_cons se_int (sa_cons (se_callB cd_lenA b_len PySem.boot_len (sa_cons (se_var 3) sa_nil)) sa_nil))))))
 (sss_cons (ss_set 7 nd (se_op od_div (se_op od_sub (se_op od_addA (se_var 4) (se_var 6)) se_int) (se_var 6)))
 (sss_cons (ss_set 8 nd (se_callB (cd_min2 rfl) b_min PyProof.Rows.boot_min (sa_cons se_int (sa_cons (se_op od_div (se_var 5) (se_var 6)) sa_nil))))
 (sss_one (ss_ret (se_tup (sa_cons (se_var 1) (sa_cons (se_op od_addA (se_var 7) (se_call G__law_mix (hr.mono (by decide)) m__law_mix k__law_mix b__law_mix (sa_cons (se_var 0) (sa_cons se_int (sa_cons (se_op od_addA (se_op od_sub (se_var 8) (se_var 7)) se_int) sa_nil))))) (sa_cons (se_var 6) sa_nil)))))))))))))
theorem sc__law_note:FnScope ["_law_cell_here","_law_notes_here","_law_wide_here","_law_start","_law_length","_law_pitch","_law_last","_law_turn"] ["_law_cell_here","_law_notes_here","_law_wide_here"] (defScope s__law_note):=⟨rfl,rfl,rfl,by decide +kernel,rfl,by decide +kernel,by decide +kernel⟩
theorem ok__law_note {f:Addr} {fd:FuncData} (F:Fun K "_law_note" "_law_note" s__law_note f fd)
  {f__law_mix:Addr} {fd__law_mix:FuncData} (G__law_mix:FnOk P w K mg base CX0 1 f__law_mix fd__law_mix ["_law_cell_here","_law_prime","_law_many"] (spD ⟨P,w,K⟩ D__law_mix 3)) (m__law_mix:mg "_law_mix"=some (.ref f__law_mix)) (k__law_mix:PySem.W.keepIn K (.ref f__law_mix)=true) (b__law_mix:Binds K fd__law_mix ["_law_cell_here","_law_prime","_law_many"] []) :
  FnOk P w K mg base CX0 2 f fd ["_law_cell_here","_law_notes_here","_law_wide_here"] (spD ⟨P,w,K⟩ D__law_note 3):=by
 refine fnD (N:=["_law_cell_here","_law_notes_here","_law_wide_here","_law_start","_law_length","_law_pitch","_law_last","_law_turn"]) F sc__law_note (fun cdv A outer s H F0 hr=>?_)
 have nd:=sc__law_note.nd
 have hu:=hu10 hr
 exact (sss_cons (ss_set 3 nd (se_call G__law_mix (hr.mono (by decide)) m__law_mix k__law_mix b__law_mix (sa_cons (se_var 0) (sa_cons se_int (sa_cons se_int sa_nil)))))
 (sss_cons (ss_set 4 nd (se_op od_addA se_int (se_call G__law_mix (hr.mono (by decide)) m__law_mix k__law_mix b__law_mix (sa_cons (se_var 0) (sa_cons se_int (sa_cons se_int sa_nil))))))
 (sss_cons (ss_set 5 nd (se_op od_addA se_int (se_call G__law_mix (hr.mono (by decide)) m__law_mix k__law_mix b__law_mix (sa_cons (se_var 0) (sa_cons se_int (sa_cons se_int sa_nil))))))
 (sss_cons (ss_set 6 nd se_int)
 (sss_cons (ss_if (st_val (se_var 2)) (sss_cons (ss_set 3 nd (se_call G__law_mix (hr.mono (by decide)) m__law_mix k__law_mix b__law_mix (sa_cons (se_var 0) (sa_cons se_int (sa_cons se_int sa_nil)))))
 (sss_cons (ss_set 4 nd (se_op od_addA se_int (se_call G__law_mix (hr.mono (by decide)) m__law_mix k__law_mix b__law_mix (sa_cons (se_var 0) (sa_cons se_int (sa_cons se_int sa_nil))))))
 (sss_cons (ss_set 5 nd (se_call G__law_mix (hr.mono (by decide)) m__law_mix k__law_mix b__law_mix (sa_cons (se_var 0) (sa_cons se_int (sa_cons se_int sa_nil)))))
 (sss_one (ss_set 6 nd se_int))))) sss_nil)
 (sss_cons (ss_set 7 nd (se_call G__law_mix (hr.mono (by decide)) m__law_mix k__law_mix b__law_mix (sa_cons (se_var 0) (sa_cons se_int (sa_cons se_int sa_nil)))))
 (sss_cons (ss_if (st_w (sw_and (st_val (se_var 1)) (sw_and1 (st_cmp (od_eq hu) (se_var 7) se_int)))) (sss_cons (ss_set 3 nd (se_ix (se_ix (se_var 1) (se_neg se_int)) se_int))
 (sss_one (ss_set 4 nd (se_ix (se_ix (se_var 1) (se_neg se_int)) se_int)))) sss_nil)
 (sss_cons (ss_if (st_w (sw_and (st_val (se_var 1)) (sw_and (st_cmp (od_eq hu) (se_var 7) se_int) (sw_and1 (st_cmp od_le (se_op od_addA (se_ix (se_ix (se_var 1) (se_neg se_int)) se_int) (se_ix (se_ix (se_var 1) (se_neg se_int)) se_int)) (se_var 6)))))) (sss_cons (ss_set 3 nd (se_op od_addA (se_ix (se_ix (se_var 1) (se_neg se_int)) se_int) (se_ix (se_ix (se_var 1) (se_neg se_int)) se_int)))
 (sss_one (ss_if (st_cmp (od_eq hu) (se_call G__law_mix (hr.mono (by decide)) m__law_mix k__law_mix b__law_mix (sa_cons (se_var 0) (sa_cons se_int (sa_cons se_int sa_nil)))) se_int) (sss_one (ss_set 5 nd (se_ix (se_ix (se_var 1) (se_neg se_int)) se_int))) sss_nil))) sss_nil)
 (sss_one (ss_ret (se_tup (sa_cons (se_var 3) (sa_cons (se_var 4) (sa_cons (se_var 5) sa_nil))))))))))))))
theorem sc__law_wide:FnScope ["_law_script"] ["_law_script"] (defScope s__law_wide):=⟨rfl,rfl,rfl,by decide +kernel,rfl,by decide +kernel,by decide +kernel⟩
theorem ok__law_wide {f:Addr} {fd:FuncData} (F:Fun K "_law_wide" "_law_wide" s__law_wide f fd)
  {f__law_cell:Addr} {fd__law_cell:FuncData} (G__law_cell:FnOk P w K mg base CX0 1 f__law_cell fd__law_cell ["_law_script","_law_k"] (spD ⟨P,w,K⟩ D__law_cell 2)) (m__law_cell:mg "_law_cell"=some (.ref f__law_cell)) (k__law_cell:PySem.W.keepIn K (.ref f__law_cell)=true) (b__law_cell:Binds K fd__law_cell ["_law_script","_law_k"] []) :
  FnOk P w K mg base CX0 2 f fd ["_law_script"] (spD ⟨P,w,K⟩ D__law_wide 1):=by
 refine fnD (N:=["_law_script"]) F sc__law_wide (fun cdv A outer s H F0 hr=>?_)
 have nd:=sc__law_wide.nd
 have hu:=hu10 hr
 exact (sss_one (ss_ret (se_cmp (od_eq hu) (se_op od_mod (se_call G__law_cell (hr.mono (by decide)) m__law_cell k__law_cell b__law_cell (sa_cons (se_var 0) (sa_cons se_int sa_nil))) se_int) se_int)))
theorem sc__law_cuts:FnScope ["_law_voice_here","_law_lengths_here","_law_ends","_law_marks","_law_chord","_law_found","_law_bar","_law_k"] ["_law_voice_here","_law_lengths_here"] (defScope s__law_cuts):=⟨rfl,rfl,rfl,by decide +kernel,rfl,by decide +kernel,by decide +kernel⟩
theorem ok__law_cuts {f:Addr} {fd:FuncData} (F:Fun K "_law_cuts" "_law_cuts" s__law_cuts f fd)
  {f__law_pieces:Addr} {fd__law_pieces:FuncData} (G__law_pieces:FnOk P w K mg base CX0 1 f__law_pieces fd__law_pieces ["_law_length"] (spD ⟨P,w,K⟩ D__law_pieces 1)) (m__law_pieces:mg "_law_pieces"=some (.ref f__law_pieces)) (k__law_pieces:PySem.W.keepIn K (.ref f__law_pieces)=true) (b__law_pieces:Binds K fd__law_pieces ["_law_length"] [])
  (b_range:mg "range"=none)
  (b_len:mg "len"=none)
  (b_sum:mg "sum"=none)
  (b_sorted:mg "sorted"=none)
  (b_set:mg "set"=none) :
  FnOk P w K mg base CX0 2 f fd ["_law_voice_here","_law_lengths_here"] (spD ⟨P,w,K⟩ D__law_cuts 2):=by
 refine fnD (N:=["_law_voice_here","_law_lengths_here","_law_ends","_law_marks","_law_chord","_law_found","_law_bar","_law_k"]) F sc__law_cuts (fun cdv A outer s H F0 hr=>?_)
 have nd:=sc__law_cuts.nd
 have hu:=hu10 hr
 have nd1:(["_law_voice_here","_law_lengths_here","_law_ends","_law_marks","_law_chord","_law_found","_law_bar","?_law_k","_law_k"]:List Str).Nodup:=by decide +kernel
 have nd2:(["_law_voice_here","_law_lengths_here","_law_ends","_law_marks","_law_chord","_law_found","_law_bar","_law_k","_law_length"]:List Str).Nodup:=by decide +kernel
 exact (sss_cons (by first|exact ss_setC 2 (n:=1) ["_law_voice_here","_law_lengths_here","_law_ends","_law_marks","_law_chord","_law_found","_law_bar","?_law_k","_law_k"] nd (SI.c (si_range1 (se_callB cd_lenA b_len PySem.boot_len (sa_cons (se_var 1) sa_nil)) b_range)) (no_gV 8) (fun _ _ _ _ _=>(sg_name 8 nd1)) (fun _ _ _ _ _=>.nil) (fun _ _ _ _ _=>(se_callB (cd_sum rfl) b_sum PyProof.Rows.boot_sum (sa_cons (se_slice (se_var 1) so_none (so_some (se_op od_addA (se_var 8) se_int))) sa_nil)))|exact ss_set 2 nd (se_comp (n:=1) ["_law_voice_here","_law_lengths_here","_law_ends","_law_marks","_law_chord","_law_found","_law_bar","?_law_k","_law_k"] (SI.c (si_range1 (se_callB cd_lenA b_len PySem.boot_len (sa_cons (se_var 1) sa_nil)) b_range)) (no_gV 8) (fun _ _ _ _ _=>(sg_name 8 nd1)) (fun _ _ _ _ _=>.nil) (fun _ _ _ _ _=>(se_callB (cd_sum rfl) b_sum PyProof.Rows.boot_sum (sa_cons (se_slice (se_var 1) so_none (so_some (se_op od_addA (se_var 8) se_int))) sa_nil)))))
 (sss_cons (ss_set 3 nd (se_op od_addA (se_lst (sa_cons se_int sa_nil)) (se_var 2)))
 (sss_cons (ss_frz 0 (ss_for PassesOwn.never rfl (si_var 0) (sg_name 4 nd) (sss_one (ss_set 3 nd (se_op od_addA (se_var 3) (se_lst (sa_cons (se_ix (se_var 4) se_int) (sa_cons (se_op od_addA (se_ix (se_var 4) se_int) (se_ix (se_var 4) se_int)) sa_nil))))))))
 (sss_cons (ss_set 3 nd (se_sortSet (se_var 3) b_sorted b_set))
 (sss_cons (by first|exact ss_setC 5 (n:=1) ["_law_voice_here","_law_lengths_here","_law_ends","_law_marks","_law_chord","_law_found","_law_bar","_law_k","_law_length"] nd (sic_var 1) (no_gV 8) (fun _ _ _ _ _=>(sg_name 8 nd2)) (fun _ _ _ _ _=>.nil) (fun _ _ _ _ _=>(se_lst sa_nil))|exact ss_set 5 nd (se_comp (n:=1) ["_law_voice_here","_law_lengths_here","_law_ends","_law_marks","_law_chord","_law_found","_law_bar","_law_k","_law_length"] (sic_var 1) (no_gV 8) (fun _ _ _ _ _=>(sg_name 8 nd2)) (fun _ _ _ _ _=>.nil) (fun _ _ _ _ _=>(se_lst sa_nil))))
 (sss_cons (ss_set 6 nd se_int)
 (sss_cons (ss_for PassesOwn.never rfl (si_range1 (se_op od_sub (se_callB cd_lenA b_len PySem.boot_len (sa_cons (se_var 3) sa_nil)) se_int) b_range) (sg_name 7 nd) (sss_cons (ss_if (st_cmp (od_eq hu) (se_ix (se_var 3) (se_var 7)) (se_ix (se_var 2) (se_var 6))) (sss_one (ss_set 6 nd (se_op od_addA (se_var 6) se_int))) sss_nil)
 (sss_one (ss_setI 5 (se_var 6) (se_op od_addA (se_ix (se_var 5) (se_var 6)) (se_call G__law_pieces (hr.mono (by decide)) m__law_pieces k__law_pieces b__law_pieces (sa_cons (se_op od_sub (se_ix (se_var 3) (se_op od_addA (se_var 7) se_int)) (se_ix (se_var 3) (se_var 7))) sa_nil)))))))
 (sss_one (ss_retV 5)))))))))
theorem sc__law_event:FnScope ["_law_event_here"] ["_law_event_here"] (defScope s__law_event):=⟨rfl,rfl,rfl,by decide +kernel,rfl,by decide +kernel,by decide +kernel⟩
theorem ok__law_event {f:Addr} {fd:FuncData} (F:Fun K "_law_event" "_law_event" s__law_event f fd)
  {f__law_whole:Addr} {fd__law_whole:FuncData} (G__law_whole:FnOk P w K mg base CX0 1 f__law_whole fd__law_whole ["_law_found"] (spD ⟨P,w,K⟩ D__law_whole 1)) (m__law_whole:mg "_law_whole"=some (.ref f__law_whole)) (k__law_whole:PySem.W.keepIn K (.ref f__law_whole)=true) (b__law_whole:Binds K fd__law_whole ["_law_found"] [])
  {f__law_written:Addr} {fd__law_written:FuncData} (G__law_written:FnOk P w K mg base CX0 1 f__law_written fd__law_written ["_law_length"] (spD ⟨P,w,K⟩ D__law_written 1)) (m__law_written:mg "_law_written"=some (.ref f__law_written)) (k__law_written:PySem.W.keepIn K (.ref f__law_written)=true) (b__law_written:Binds K fd__law_written ["_law_length"] [])
  (b_isinstance:mg "isinstance"=none)
  (b_tuple:mg "tuple"=none)
  (b_len:mg "len"=none)
  (b_bool:mg "bool"=none) :
  FnOk P w K mg base CX0 2 f fd ["_law_event_here"] (spD ⟨P,w,K⟩ D__law_event 1):=by
 refine fnD (N:=["_law_event_here"]) F sc__law_event (fun cdv A outer s H F0 hr=>?_)
 have nd:=sc__law_event.nd
 have hu:=hu10 hr
 exact (sss_cons (ss_if (st_w (sw_or (st_not (st_val (se_isi .tuple (se_var 0) b_isinstance b_tuple))) (sw_or (st_cmp od_lt (se_callB cd_lenA b_len PySem.boot_len (sa_cons (se_var 0) sa_nil)) se_int) (sw_or1 (st_not (st_val (se_call G__law_whole (hr.mono (by decide)) m__law_whole k__law_whole b__law_whole (sa_cons (se_ix (se_var 0) se_int) sa_nil)))))))) (sss_one (ss_ret se_bl)) sss_nil)
 (sss_cons (ss_if (st_not (st_val (se_call G__law_written (hr.mono (by decide)) m__law_written k__law_written b__law_written (sa_cons (se_ix (se_var 0) se_int) sa_nil)))) (sss_one (ss_ret se_bl)) sss_nil)
 (sss_cons (ss_if (st_cmp (od_eq hu) (se_ix (se_var 0) se_int) se_str) (sss_one (ss_ret (se_cmp (od_eq hu) (se_callB cd_lenA b_len PySem.boot_len (sa_cons (se_var 0) sa_nil)) se_int))) sss_nil)
 (sss_cons (ss_if (st_w (sw_or (st_cmp (od_ne hu) (se_ix (se_var 0) se_int) se_str) (sw_or (st_cmp (od_ne hu) (se_callB cd_lenA b_len PySem.boot_len (sa_cons (se_var 0) sa_nil)) se_int) (sw_or1 (st_not (st_val (se_isi .bool (se_ix (se_var 0) se_int) b_isinstance b_bool))))))) (sss_one (ss_ret se_bl)) sss_nil)
 (sss_one (ss_ret (se_and (se_isi .tuple (se_ix (se_var 0) se_int) b_isinstance b_tuple) (se_one (se_cmp od_gt (se_callB cd_lenA b_len PySem.boot_len (sa_cons (se_ix (se_var 0) se_int) sa_nil)) se_int)))))))))
theorem sc_bar_events:FnScope ["voice","begin","end","row","filled","chord","first","behind"] ["voice","begin","end"] (defScope s_bar_events):=⟨rfl,rfl,rfl,by decide +kernel,rfl,by decide +kernel,by decide +kernel⟩
theorem ok_bar_events {f:Addr} {fd:FuncData} (F:Fun K "bar_events" "bar_events" s_bar_events f fd)
  {f_end_of:Addr} {fd_end_of:FuncData} (G_end_of:FnOk P w K mg base CX0 1 f_end_of fd_end_of ["sound"] (spD ⟨P,w,K⟩ D_end_of 1)) (m_end_of:mg "end_of"=some (.ref f_end_of)) (k_end_of:PySem.W.keepIn K (.ref f_end_of)=true) (b_end_of:Binds K fd_end_of ["sound"] [])
  {f_rest_events:Addr} {fd_rest_events:FuncData} (G_rest_events:FnOk P w K mg base CX0 2 f_rest_events fd_rest_events ["length"] (spD ⟨P,w,K⟩ D_rest_events 1)) (m_rest_events:mg "rest_events"=some (.ref f_rest_events)) (k_rest_events:PySem.W.keepIn K (.ref f_rest_events)=true) (b_rest_events:Binds K fd_rest_events ["length"] [])
  {f_note_events:Addr} {fd_note_events:FuncData} (G_note_events:FnOk P w K mg base CX0 2 f_note_events fd_note_events ["chord","first","behind"] (spD ⟨P,w,K⟩ D_note_events 3)) (m_note_events:mg "note_events"=some (.ref f_note_events)) (k_note_events:PySem.W.keepIn K (.ref f_note_events)=true) (b_note_events:Binds K fd_note_events ["chord","first","behind"] [])
  (b_max:mg "max"=none)
  (b_min:mg "min"=none) :
  FnOk P w K mg base CX0 3 f fd ["voice","begin","end"] (spD ⟨P,w,K⟩ D_bar_events 3):=by
 refine fnD (N:=["voice","begin","end","row","filled","chord","first","behind"]) F sc_bar_events (fun cdv A outer s H F0 hr=>?_)
 have nd:=sc_bar_events.nd
 have hu:=hu10 hr
 exact (sss_cons (ss_set 3 nd (se_lst sa_nil))
 (sss_cons (ss_set 4 nd (se_var 1))
 (sss_cons (ss_frz 0 (ss_for PassesOwn.never rfl (si_var 0) (sg_name 5 nd) (sss_cons (ss_set 6 nd (se_callB (cd_max2 rfl) b_max PyProof.Rows.boot_max (sa_cons (se_ix (se_var 5) se_int) (sa_cons (se_var 1) sa_nil))))
 (sss_cons (ss_set 7 nd (se_callB (cd_min2 rfl) b_min PyProof.Rows.boot_min (sa_cons (se_call G_end_of (hr.mono (by decide)) m_end_of k_end_of b_end_of (sa_cons (se_var 5) sa_nil)) (sa_cons (se_var 2) sa_nil))))
 (sss_one (ss_if (st_cmp od_lt (se_var 6) (se_var 7)) (sss_cons (ss_ext 3 (se_call G_rest_events (hr.mono (by decide)) m_rest_events k_rest_events b_rest_events (sa_cons (se_op od_sub (se_var 6) (se_var 4)) sa_nil)))
 (sss_cons (ss_ext 3 (se_call G_note_events (hr.mono (by decide)) m_note_events k_note_events b_note_events (sa_cons (se_var 5) (sa_cons (se_var 6) (sa_cons (se_var 7) sa_nil)))))
 (sss_one (ss_set 4 nd (se_var 7))))) sss_nil))))))
 (sss_cons (ss_ext 3 (se_call G_rest_events (hr.mono (by decide)) m_rest_events k_rest_events b_rest_events (sa_cons (se_op od_sub (se_var 2) (se_var 4)) sa_nil)))
 (sss_one (ss_retV 3))))))
theorem sc__law_meter:FnScope ["_law_script","_law_wide_here","_law_found","_law_bar","_law_k","_law_cell_here"] ["_law_script","_law_wide_here"] (defScope s__law_meter):=⟨rfl,rfl,rfl,by decide +kernel,rfl,by decide +kernel,by decide +kernel⟩
theorem ok__law_meter {f:Addr} {fd:FuncData} (F:Fun K "_law_meter" "_law_meter" s__law_meter f fd)
  {f__law_cell:Addr} {fd__law_cell:FuncData} (G__law_cell:FnOk P w K mg base CX0 1 f__law_cell fd__law_cell ["_law_script","_law_k"] (spD ⟨P,w,K⟩ D__law_cell 2)) (m__law_cell:mg "_law_cell"=some (.ref f__law_cell)) (k__law_cell:PySem.W.keepIn K (.ref f__law_cell)=true) (b__law_cell:Binds K fd__law_cell ["_law_script","_law_k"] [])
  {f__law_step:Addr} {fd__law_step:FuncData} (G__law_step:FnOk P w K mg base CX0 2 f__law_step fd__law_step ["_law_cell_here","_law_bar","_law_wide_here"] (spD ⟨P,w,K⟩ D__law_step 3)) (m__law_step:mg "_law_step"=some (.ref f__law_step)) (k__law_step:PySem.W.keepIn K (.ref f__law_step)=true) (b__law_step:Binds K fd__law_step ["_law_cell_here","_law_bar","_law_wide_here"] [])
  {f__law_mix:Addr} {fd__law_mix:FuncData} (G__law_mix:FnOk P w K mg base CX0 1 f__law_mix fd__law_mix ["_law_cell_here","_law_prime","_law_many"] (spD ⟨P,w,K⟩ D__law_mix 3)) (m__law_mix:mg "_law_mix"=some (.ref f__law_mix)) (k__law_mix:PySem.W.keepIn K (.ref f__law_mix)=true) (b__law_mix:Binds K fd__law_mix ["_law_cell_here","_law_prime","_law_many"] [])
  (b_range:mg "range"=none) :
  FnOk P w K mg base CX0 3 f fd ["_law_script","_law_wide_here"] (spD ⟨P,w,K⟩ D__law_meter 2):=by
 refine fnD (N:=["_law_script","_law_wide_here","_law_found","_law_bar","_law_k","_law_cell_here"]) F sc__law_meter (fun cdv A outer s H F0 hr=>?_)
 have nd:=sc__law_meter.nd
 have hu:=hu10 hr
 exact (sss_cons (ss_set 2 nd (se_lst sa_nil))
 (sss_cons (ss_set 3 nd se_int)
 (sss_cons (ss_for PassesOwn.never rfl (si_range1 (se_op od_addA se_int (se_op od_mod (se_call G__law_cell (hr.mono (by decide)) m__law_cell k__law_cell b__law_cell (sa_cons (se_var 0) (sa_cons se_int sa_nil))) se_int)) b_range) (sg_name 4 nd) (sss_cons (ss_set 5 nd (se_op od_addA (se_call G__law_cell (hr.mono (by decide)) m__law_cell k__law_cell b__law_cell (sa_cons (se_var 0) (sa_cons se_int sa_nil))) (se_op od_mul se_int (se_call G__law_cell (hr.mono (by decide)) m__law_cell k__law_cell b__law_cell (sa_cons (se_var 0) (sa_cons (se_op od_addA se_int (se_var 4)) sa_nil))))))
 (sss_cons (ss_app 2 (se_call G__law_step (hr.mono (by decide)) m__law_step k__law_step b__law_step (sa_cons (se_var 5) (sa_cons (se_var 3) (sa_cons (se_var 1) sa_nil)))))
 (sss_one (ss_set 3 nd (se_op od_addA (se_op od_addA (se_var 3) se_int) (se_call G__law_mix (hr.mono (by decide)) m__law_mix k__law_mix b__law_mix (sa_cons (se_var 5) (sa_cons se_int (sa_cons se_int sa_nil))))))))))
 (sss_one (ss_retV 2)))))
theorem sc__law_notes:FnScope ["_law_script","_law_wide_here","_law_most","_law_found","_law_cell_here","_law_note_here"] ["_law_script","_law_wide_here"] (defScope s__law_notes):=⟨rfl,rfl,rfl,by decide +kernel,rfl,by decide +kernel,by decide +kernel⟩
theorem ok__law_notes {f:Addr} {fd:FuncData} (F:Fun K "_law_notes" "_law_notes" s__law_notes f fd)
  {f__law_large:Addr} {fd__law_large:FuncData} (G__law_large:FnOk P w K mg base CX0 2 f__law_large fd__law_large ["_law_script"] (spD ⟨P,w,K⟩ D__law_large 1)) (m__law_large:mg "_law_large"=some (.ref f__law_large)) (k__law_large:PySem.W.keepIn K (.ref f__law_large)=true) (b__law_large:Binds K fd__law_large ["_law_script"] [])
  {f__law_note:Addr} {fd__law_note:FuncData} (G__law_note:FnOk P w K mg base CX0 2 f__law_note fd__law_note ["_law_cell_here","_law_notes_here","_law_wide_here"] (spD ⟨P,w,K⟩ D__law_note 3)) (m__law_note:mg "_law_note"=some (.ref f__law_note)) (k__law_note:PySem.W.keepIn K (.ref f__law_note)=true) (b__law_note:Binds K fd__law_note ["_law_cell_here","_law_notes_here","_law_wide_here"] [])
  {f__law_apart:Addr} {fd__law_apart:FuncData} (G__law_apart:FnOk P w K mg base CX0 1 f__law_apart fd__law_apart ["_law_note_here","_law_notes_here"] (spD ⟨P,w,K⟩ D__law_apart 2)) (m__law_apart:mg "_law_apart"=some (.ref f__law_apart)) (k__law_apart:PySem.W.keepIn K (.ref f__law_apart)=true) (b__law_apart:Binds K fd__law_apart ["_law_note_here","_law_notes_here"] [])
  {f__law_meets:Addr} {fd__law_meets:FuncData} (G__law_meets:FnOk P w K mg base CX0 1 f__law_meets fd__law_meets ["_law_note_here","_law_notes_here"] (spD ⟨P,w,K⟩ D__law_meets 2)) (m__law_meets:mg "_law_meets"=some (.ref f__law_meets)) (k__law_meets:PySem.W.keepIn K (.ref f__law_meets)=true) (b__law_meets:Binds K fd__law_meets ["_law_note_here","_law_notes_here"] [])
  (b_len:mg "len"=none) :
  FnOk P w K mg base CX0 3 f fd ["_law_script","_law_wide_here"] (spD ⟨P,w,K⟩ D__law_notes 2):=by
 refine fnD (N:=["_law_script","_law_wide_here","_law_most","_law_found","_law_cell_here","_law_note_here"]) F sc__law_notes (fun cdv A outer s H F0 hr=>?_)
 have nd:=sc__law_notes.nd
 have hu:=hu10 hr
 exact (sss_cons (ss_set 2 nd se_int)
 (sss_cons (ss_if (st_val (se_call G__law_large (hr.mono (by decide)) m__law_large k__law_large b__law_large (sa_cons (se_var 0) sa_nil))) (sss_one (ss_set 2 nd se_int)) sss_nil)
 (sss_cons (ss_if (st_cmp od_gt (se_callB cd_lenA b_len PySem.boot_len (sa_cons (se_var 0) sa_nil)) se_int) (sss_one (ss_set 2 nd se_int)) sss_nil)
 (sss_cons (ss_set 3 nd (se_lst sa_nil))
 (sss_cons (ss_for PassesOwn.never rfl (si_seq (se_slice (se_var 0) (so_some se_int) (so_some (se_op od_addA se_int (se_var 2))))) (sg_name 4 nd) (sss_cons (ss_set 5 nd (se_call G__law_note (hr.mono (by decide)) m__law_note k__law_note b__law_note (sa_cons (se_var 4) (sa_cons (se_var 3) (sa_cons (se_var 1) sa_nil)))))
 (sss_one (ss_if (st_w (sw_and (st_val (se_call G__law_apart (hr.mono (by decide)) m__law_apart k__law_apart b__law_apart (sa_cons (se_var 5) (sa_cons (se_var 3) sa_nil)))) (sw_and1 (st_cmp od_le (se_call G__law_meets (hr.mono (by decide)) m__law_meets k__law_meets b__law_meets (sa_cons (se_var 5) (sa_cons (se_var 3) sa_nil))) se_int)))) (sss_one (ss_app 3 (se_var 5))) sss_nil))))
 (sss_one (ss_retV 3)))))))
theorem sc_events:FnScope ["voice","lengths","bars","begin","length"] ["voice","lengths"] (defScope s_events):=⟨rfl,rfl,rfl,by decide +kernel,rfl,by decide +kernel,by decide +kernel⟩
theorem ok_events {f:Addr} {fd:FuncData} (F:Fun K "events" "events" s_events f fd)
  {f_bar_events:Addr} {fd_bar_events:FuncData} (G_bar_events:FnOk P w K mg base CX0 3 f_bar_events fd_bar_events ["voice","begin","end"] (spD ⟨P,w,K⟩ D_bar_events 3)) (m_bar_events:mg "bar_events"=some (.ref f_bar_events)) (k_bar_events:PySem.W.keepIn K (.ref f_bar_events)=true) (b_bar_events:Binds K fd_bar_events ["voice","begin","end"] []) :
  FnOk P w K mg base CX0 4 f fd ["voice","lengths"] (spD ⟨P,w,K⟩ D_events 2):=by
 refine fnD (N:=["voice","lengths","bars","begin","length"]) F sc_events (fun cdv A outer s H F0 hr=>?_)
 have nd:=sc_events.nd
 have hu:=hu10 hr
 exact (sss_cons (ss_set 2 nd (se_lst sa_nil))
 (sss_cons (ss_set 3 nd se_int)
 (sss_cons (ss_frz 1 (ss_for PassesOwn.never rfl (si_var 1) (sg_name 4 nd) (sss_cons (ss_app 2 (se_call G_bar_events (hr.mono (by decide)) m_bar_events k_bar_events b_bar_events (sa_cons (se_var 0) (sa_cons (se_var 3) (sa_cons (se_op od_addA (se_var 3) (se_var 4)) sa_nil)))))
 (sss_one (ss_aug 3 nd oi_addI (se_var 4))))))
 (sss_one (ss_retV 2)))))
theorem sc__law_row:FnScope ["_law_script","_law_wide_here","_law_found","_law_note_here"] ["_law_script","_law_wide_here"] (defScope s__law_row):=⟨rfl,rfl,rfl,by decide +kernel,rfl,by decide +kernel,by decide +kernel⟩
theorem ok__law_row {f:Addr} {fd:FuncData} (F:Fun K "_law_row" "_law_row" s__law_row f fd)
  {f__law_notes:Addr} {fd__law_notes:FuncData} (G__law_notes:FnOk P w K mg base CX0 3 f__law_notes fd__law_notes ["_law_script","_law_wide_here"] (spD ⟨P,w,K⟩ D__law_notes 2)) (m__law_notes:mg "_law_notes"=some (.ref f__law_notes)) (k__law_notes:PySem.W.keepIn K (.ref f__law_notes)=true) (b__law_notes:Binds K fd__law_notes ["_law_script","_law_wide_here"] [])
  (b_sorted:mg "sorted"=none) :
  FnOk P w K mg base CX0 4 f fd ["_law_script","_law_wide_here"] (spD ⟨P,w,K⟩ D__law_row 2):=by
 refine fnD (N:=["_law_script","_law_wide_here","_law_found","_law_note_here"]) F sc__law_row (fun cdv A outer s H F0 hr=>?_)
 have nd:=sc__law_row.nd
 have hu:=hu10 hr
 exact (sss_cons (ss_set 2 nd (se_lst sa_nil))
 (sss_cons (ss_for PassesOwn.never rfl (si_seq (se_callB cd_sorted b_sorted PyProof.Rows.boot_sorted (sa_cons (se_call G__law_notes (hr.mono (by decide)) m__law_notes k__law_notes b__law_notes (sa_cons (se_var 0) (sa_cons (se_var 1) sa_nil))) sa_nil))) (sg_name 3 nd) (sss_one (ss_if (st_w (sw_and (st_val (se_var 2)) (sw_and1 (st_cmp (od_eq hu) (se_slice (se_ix (se_var 2) (se_neg se_int)) so_none (so_some se_int)) (se_slice (se_var 3) so_none (so_some se_int)))))) (sss_one (ss_setI 2 (se_neg se_int) (se_tup (sa_cons (se_ix (se_var 3) se_int) (sa_cons (se_ix (se_var 3) se_int) (sa_cons (se_op od_addA (se_ix (se_ix (se_var 2) (se_neg se_int)) se_int) (se_tup (sa_cons (se_ix (se_var 3) se_int) sa_nil))) sa_nil)))))) (sss_one (ss_app 2 (se_tup (sa_cons (se_ix (se_var 3) se_int) (sa_cons (se_ix (se_var 3) se_int) (sa_cons (se_tup (sa_cons (se_ix (se_var 3) se_int) sa_nil)) sa_nil)))))))))
 (sss_one (ss_retV 2))))
theorem sc__law_voice:FnScope ["_law_script","_law_wide_here","_law_found","_law_chord"] ["_law_script","_law_wide_here"] (defScope s__law_voice):=⟨rfl,rfl,rfl,by decide +kernel,rfl,by decide +kernel,by decide +kernel⟩
theorem ok__law_voice {f:Addr} {fd:FuncData} (F:Fun K "_law_voice" "_law_voice" s__law_voice f fd)
  {f__law_row:Addr} {fd__law_row:FuncData} (G__law_row:FnOk P w K mg base CX0 4 f__law_row fd__law_row ["_law_script","_law_wide_here"] (spD ⟨P,w,K⟩ D__law_row 2)) (m__law_row:mg "_law_row"=some (.ref f__law_row)) (k__law_row:PySem.W.keepIn K (.ref f__law_row)=true) (b__law_row:Binds K fd__law_row ["_law_script","_law_wide_here"] []) :
  FnOk P w K mg base CX0 5 f fd ["_law_script","_law_wide_here"] (spD ⟨P,w,K⟩ D__law_voice 2):=by
 refine fnD (N:=["_law_script","_law_wide_here","_law_found","_law_chord"]) F sc__law_voice (fun cdv A outer s H F0 hr=>?_)
 have nd:=sc__law_voice.nd
 have hu:=hu10 hr
 exact (sss_cons (ss_set 2 nd (se_lst sa_nil))
 (sss_cons (ss_for PassesOwn.never rfl (si_seq (se_call G__law_row (hr.mono (by decide)) m__law_row k__law_row b__law_row (sa_cons (se_var 0) (sa_cons (se_var 1) sa_nil)))) (sg_name 3 nd) (sss_one (ss_if (st_w (sw_or (st_not (st_val (se_var 2))) (sw_or1 (st_cmp od_le (se_op od_addA (se_ix (se_ix (se_var 2) (se_neg se_int)) se_int) (se_ix (se_ix (se_var 2) (se_neg se_int)) se_int)) (se_ix (se_var 3) se_int))))) (sss_one (ss_app 2 (se_var 3))) sss_nil)))
 (sss_one (ss_retV 2))))
theorem sc_law:FnScope ["_law_script","_law_wide_here","_law_voice_here","_law_end","_law_lengths_here","_law_kept","_law_found","_law_k","_law_event_here"] ["_law_script"] (defScope s_law):=⟨rfl,rfl,rfl,by decide +kernel,rfl,by decide +kernel,by decide +kernel⟩
theorem ok_law {f:Addr} {fd:FuncData} (F:Fun K "law" "law" s_law f fd)
  {f__law_wide:Addr} {fd__law_wide:FuncData} (G__law_wide:FnOk P w K mg base CX0 2 f__law_wide fd__law_wide ["_law_script"] (spD ⟨P,w,K⟩ D__law_wide 1)) (m__law_wide:mg "_law_wide"=some (.ref f__law_wide)) (k__law_wide:PySem.W.keepIn K (.ref f__law_wide)=true) (b__law_wide:Binds K fd__law_wide ["_law_script"] [])
  {f__law_voice:Addr} {fd__law_voice:FuncData} (G__law_voice:FnOk P w K mg base CX0 5 f__law_voice fd__law_voice ["_law_script","_law_wide_here"] (spD ⟨P,w,K⟩ D__law_voice 2)) (m__law_voice:mg "_law_voice"=some (.ref f__law_voice)) (k__law_voice:PySem.W.keepIn K (.ref f__law_voice)=true) (b__law_voice:Binds K fd__law_voice ["_law_script","_law_wide_here"] [])
  {f__law_meter:Addr} {fd__law_meter:FuncData} (G__law_meter:FnOk P w K mg base CX0 3 f__law_meter fd__law_meter ["_law_script","_law_wide_here"] (spD ⟨P,w,K⟩ D__law_meter 2)) (m__law_meter:mg "_law_meter"=some (.ref f__law_meter)) (k__law_meter:PySem.W.keepIn K (.ref f__law_meter)=true) (b__law_meter:Binds K fd__law_meter ["_law_script","_law_wide_here"] [])
  {f__law_cell:Addr} {fd__law_cell:FuncData} (G__law_cell:FnOk P w K mg base CX0 1 f__law_cell fd__law_cell ["_law_script","_law_k"] (spD ⟨P,w,K⟩ D__law_cell 2)) (m__law_cell:mg "_law_cell"=some (.ref f__law_cell)) (k__law_cell:PySem.W.keepIn K (.ref f__law_cell)=true) (b__law_cell:Binds K fd__law_cell ["_law_script","_law_k"] [])
  {f__law_lengths:Addr} {fd__law_lengths:FuncData} (G__law_lengths:FnOk P w K mg base CX0 1 f__law_lengths fd__law_lengths ["_law_meter_here","_law_end"] (spD ⟨P,w,K⟩ D__law_lengths 2)) (m__law_lengths:mg "_law_lengths"=some (.ref f__law_lengths)) (k__law_lengths:PySem.W.keepIn K (.ref f__law_lengths)=true) (b__law_lengths:Binds K fd__law_lengths ["_law_meter_here","_law_end"] [])
  {f_events:Addr} {fd_events:FuncData} (G_events:FnOk P w K mg base CX0 4 f_events fd_events ["voice","lengths"] (spD ⟨P,w,K⟩ D_events 2)) (m_events:mg "events"=some (.ref f_events)) (k_events:PySem.W.keepIn K (.ref f_events)=true) (b_events:Binds K fd_events ["voice","lengths"] [])
  {f__law_event:Addr} {fd__law_event:FuncData} (G__law_event:FnOk P w K mg base CX0 2 f__law_event fd__law_event ["_law_event_here"] (spD ⟨P,w,K⟩ D__law_event 1)) (m__law_event:mg "_law_event"=some (.ref f__law_event)) (k__law_event:PySem.W.keepIn K (.ref f__law_event)=true) (b__law_event:Binds K fd__law_event ["_law_event_here"] [])
  {f__law_cuts:Addr} {fd__law_cuts:FuncData} (G__law_cuts:FnOk P w K mg base CX0 2 f__law_cuts fd__law_cuts ["_law_voice_here","_law_lengths_here"] (spD ⟨P,w,K⟩ D__law_cuts 2)) (m__law_cuts:mg "_law_cuts"=some (.ref f__law_cuts)) (k__law_cuts:PySem.W.keepIn K (.ref f__law_cuts)=true) (b__law_cuts:Binds K fd__law_cuts ["_law_voice_here","_law_lengths_here"] [])
  (b_max:mg "max"=none)
  (b_list:mg "list"=none)
  (b_isinstance:mg "isinstance"=none)
  (b_len:mg "len"=none)
  (b_range:mg "range"=none)
  (b_sum:mg "sum"=none) :
  FnOk P w K mg base CX0 6 f fd ["_law_script"] (spD ⟨P,w,K⟩ D_law 1):=by
 refine fnD (N:=["_law_script","_law_wide_here","_law_voice_here","_law_end","_law_lengths_here","_law_kept","_law_found","_law_k","_law_event_here"]) F sc_law (fun cdv A outer s H F0 hr=>?_)
 have nd:=sc_law.nd
 have hu:=hu10 hr
 have nd1:(["_law_script","_law_wide_here","_law_voice_here","_law_end","_law_lengths_here","_law_kept","_law_found","_law_k","_law_event_here","_law_chord"]:List Str).Nodup:=by decide +kernel
 have nd2:(["_law_script","_law_wide_here","_law_voice_here","_law_end","_law_lengths_here","_law_kept","_law_found","_law_k","?_law_event_here","_law_event_here"]:List Str).Nodup:=by decide +kernel
 have nd3:(["_law_script","_law_wide_here","_law_voice_here","_law_end","_law_lengths_here","_law_kept","_law_found","_law_k","_law_event_here","_law_row_here"]:List Str).Nodup:=by decide +kernel
 have nd4:(["_law_script","_law_wide_here","_law_voice_here","_law_end","_law_lengths_here","_law_kept","_law_found","_law_k","?_law_event_here","_law_row_here","_law_event_here"]:List Str).Nodup:=by decide +kernel
 exact (sss_cons (ss_set 1 nd (se_call G__law_wide (hr.mono (by decide)) m__law_wide k__law_wide b__law_wide (sa_cons (se_var 0) sa_nil)))
 (sss_cons (ss_set 2 nd (se_call G__law_voice (hr.mono (by decide)) m__law_voice k__law_voice b__law_voice (sa_cons (se_var 0) (sa_cons (se_var 1) sa_nil))))
 (sss_cons (ss_set 3 nd (se_maxD (se_comp (n:=1) ["_law_script","_law_wide_here","_law_voice_here","_law_end","_law_lengths_here","_law_kept","_law_found","_law_k","_law_event_here","_law_chord"] (sic_var 2) (no_gV 9) (fun _ _ _ _ _=>(sg_name 9 nd1)) (fun _ _ _ _ _=>.nil) (fun _ _ _ _ _=>(se_op od_addA (se_ix (se_var 9) se_int) (se_ix (se_var 9) se_int)))) se_int b_max))
 (sss_cons (ss_set 4 nd (se_call G__law_lengths (hr.mono (by decide)) m__law_lengths k__law_lengths b__law_lengths (sa_cons (se_call G__law_meter (hr.mono (by decide)) m__law_meter k__law_meter b__law_meter (sa_cons (se_var 0) (sa_cons (se_var 1) sa_nil))) (sa_cons (se_op od_addA (se_var 3) (se_op od_mod (se_op od_div (se_call G__law_cell (hr.mono (by decide)) m__law_cell k__law_cell b__law_cell (sa_cons (se_var 0) (sa_cons se_int sa_nil))) se_int) se_int)) sa_nil))))
 (sss_cons (ss_set 5 nd (se_callTy cd_list b_list PyProof.Rows.boot_list (sa_cons (se_var 2) sa_nil)))
 (sss_cons (ss_set 6 nd (se_call G_events (hr.mono (by decide)) m_events k_events b_events (sa_cons (se_var 5) (sa_cons (se_callTy cd_list b_list PyProof.Rows.boot_list (sa_cons (se_var 4) sa_nil)) sa_nil))))
 (sss_cons (ss_if (st_w (sw_or (st_not (st_val (se_isi .list (se_var 6) b_isinstance b_list))) (sw_or (st_cmp (od_ne hu) (se_callB cd_lenA b_len PySem.boot_len (sa_cons (se_var 6) sa_nil)) (se_callB cd_lenA b_len PySem.boot_len (sa_cons (se_var 4) sa_nil))) (sw_or1 (st_cmp (od_ne hu) (se_var 5) (se_var 2)))))) (sss_one (ss_ret se_bl)) sss_nil)
 (sss_cons (ss_for PassesOwn.never rfl (si_range1 (se_callB cd_lenA b_len PySem.boot_len (sa_cons (se_var 4) sa_nil)) b_range) (sg_name 7 nd) (sss_cons (ss_if (st_not (st_val (se_isi .list (se_ix (se_var 6) (se_var 7)) b_isinstance b_list))) (sss_one (ss_ret se_bl)) sss_nil)
 (sss_cons (ss_for PassesOwn.never rfl (si_seq (se_ix (se_var 6) (se_var 7))) (sg_name 8 nd) (sss_one (ss_if (st_not (st_val (se_call G__law_event (hr.mono (by decide)) m__law_event k__law_event b__law_event (sa_cons (se_var 8) sa_nil)))) (sss_one (ss_ret se_bl)) sss_nil)))
 (sss_one (ss_if (st_cmp (od_ne hu) (se_callB (cd_sum rfl) b_sum PyProof.Rows.boot_sum (sa_cons (se_comp (n:=1) ["_law_script","_law_wide_here","_law_voice_here","_law_end","_law_lengths_here","_law_kept","_law_found","_law_k","?_law_event_here","_law_event_here"] (SI.c (si_seq (se_ix (se_var 6) (se_var 7)))) (no_gV 9) (fun _ _ _ _ _=>(sg_name 9 nd2)) (fun _ _ _ _ _=>.nil) (fun _ _ _ _ _=>(se_ix (se_var 9) se_int))) sa_nil)) (se_ix (se_var 4) (se_var 7))) (sss_one (ss_ret se_bl)) sss_nil)))))
 (sss_one (ss_ret (se_cmp (od_eq hu) (se_comp (n:=1) ["_law_script","_law_wide_here","_law_voice_here","_law_end","_law_lengths_here","_law_kept","_law_found","_law_k","_law_event_here","_law_row_here"] (sic_var 6) (no_gV 9) (fun _ _ _ _ _=>(sg_name 9 nd3)) (fun _ _ _ _ _=>.nil) (fun _ _ _ _ _=>(se_comp (n:=1) ["_law_script","_law_wide_here","_law_voice_here","_law_end","_law_lengths_here","_law_kept","_law_found","_law_k","?_law_event_here","_law_row_here","_law_event_here"] (sic_var 9) (no_gV 10) (fun _ _ _ _ _=>(sg_name 10 nd4)) (fun _ _ _ _ _=>.nil) (fun _ _ _ _ _=>(se_ix (se_var 10) se_int))))) (se_call G__law_cuts (hr.mono (by decide)) m__law_cuts k__law_cuts b__law_cuts (sa_cons (se_var 2) (sa_cons (se_var 4) sa_nil))))))))))))))
end
theorem all_mk {l:PySem.W.OpenLaw} {w:World} {K:PySem.W.Frag} {h:Heap} {mg:Str→Option Value} {fa:Addr} (X:K.In h) (G:h.Ns mainGlobals mg) (hfa:mg "law"=some (.ref fa))
  {f_end_of:Addr} {od_end_of an_end_of:Option Addr} {sl_end_of:Array (Option Value)} {oc_end_of kV_end_of dc_end_of pm_end_of cd_end_of ct_end_of:Value}
  {f_pieces:Addr} {od_pieces an_pieces:Option Addr} {sl_pieces:Array (Option Value)} {oc_pieces kV_pieces dc_pieces pm_pieces cd_pieces ct_pieces:Value}
  {f__law_cell:Addr} {od__law_cell an__law_cell:Option Addr} {sl__law_cell:Array (Option Value)} {oc__law_cell kV__law_cell dc__law_cell pm__law_cell cd__law_cell ct__law_cell:Value}
  {f__law_mix:Addr} {od__law_mix an__law_mix:Option Addr} {sl__law_mix:Array (Option Value)} {oc__law_mix kV__law_mix dc__law_mix pm__law_mix cd__law_mix ct__law_mix:Value}
  {f__law_whole:Addr} {od__law_whole an__law_whole:Option Addr} {sl__law_whole:Array (Option Value)} {oc__law_whole kV__law_whole dc__law_whole pm__law_whole cd__law_whole ct__law_whole:Value}
  {f__law_apart:Addr} {od__law_apart an__law_apart:Option Addr} {sl__law_apart:Array (Option Value)} {oc__law_apart kV__law_apart dc__law_apart pm__law_apart cd__law_apart ct__law_apart:Value}
  {f__law_meets:Addr} {od__law_meets an__law_meets:Option Addr} {sl__law_meets:Array (Option Value)} {oc__law_meets kV__law_meets dc__law_meets pm__law_meets cd__law_meets ct__law_meets:Value}
  {f__law_written:Addr} {od__law_written an__law_written:Option Addr} {sl__law_written:Array (Option Value)} {oc__law_written kV__law_written dc__law_written pm__law_written cd__law_written ct__law_written:Value}
  {f__law_lengths:Addr} {od__law_lengths an__law_lengths:Option Addr} {sl__law_lengths:Array (Option Value)} {oc__law_lengths kV__law_lengths dc__law_lengths pm__law_lengths cd__law_lengths ct__law_lengths:Value}
  {f__law_pieces:Addr} {od__law_pieces an__law_pieces:Option Addr} {sl__law_pieces:Array (Option Value)} {oc__law_pieces kV__law_pieces dc__law_pieces pm__law_pieces cd__law_pieces ct__law_pieces:Value}
  {f_rest_events:Addr} {od_rest_events an_rest_events:Option Addr} {sl_rest_events:Array (Option Value)} {oc_rest_events kV_rest_events dc_rest_events pm_rest_events cd_rest_events ct_rest_events:Value}
  {f_note_events:Addr} {od_note_events an_note_events:Option Addr} {sl_note_events:Array (Option Value)} {oc_note_events kV_note_events dc_note_events pm_note_events cd_note_events ct_note_events:Value}
  {f__law_large:Addr} {od__law_large an__law_large:Option Addr} {sl__law_large:Array (Option Value)} {oc__law_large kV__law_large dc__law_large pm__law_large cd__law_large ct__law_large:Value}
  {f__law_step:Addr} {od__law_step an__law_step:Option Addr} {sl__law_step:Array (Option Value)} {oc__law_step kV__law_step dc__law_step pm__law_step cd__law_step ct__law_step:Value}
  {f__law_note:Addr} {od__law_note an__law_note:Option Addr} {sl__law_note:Array (Option Value)} {oc__law_note kV__law_note dc__law_note pm__law_note cd__law_note ct__law_note:Value}
  {f__law_wide:Addr} {od__law_wide an__law_wide:Option Addr} {sl__law_wide:Array (Option Value)} {oc__law_wide kV__law_wide dc__law_wide pm__law_wide cd__law_wide ct__law_wide:Value}
  {f__law_cuts:Addr} {od__law_cuts an__law_cuts:Option Addr} {sl__law_cuts:Array (Option Value)} {oc__law_cuts kV__law_cuts dc__law_cuts pm__law_cuts cd__law_cuts ct__law_cuts:Value}
  {f__law_event:Addr} {od__law_event an__law_event:Option Addr} {sl__law_event:Array (Option Value)} {oc__law_event kV__law_event dc__law_event pm__law_event cd__law_event ct__law_event:Value}
  {f_bar_events:Addr} {od_bar_events an_bar_events:Option Addr} {sl_bar_events:Array (Option Value)} {oc_bar_events kV_bar_events dc_bar_events pm_bar_events cd_bar_events ct_bar_events:Value}
  {f__law_meter:Addr} {od__law_meter an__law_meter:Option Addr} {sl__law_meter:Array (Option Value)} {oc__law_meter kV__law_meter dc__law_meter pm__law_meter cd__law_meter ct__law_meter:Value}
  {f__law_notes:Addr} {od__law_notes an__law_notes:Option Addr} {sl__law_notes:Array (Option Value)} {oc__law_notes kV__law_notes dc__law_notes pm__law_notes cd__law_notes ct__law_notes:Value}
  {f_events:Addr} {od_events an_events:Option Addr} {sl_events:Array (Option Value)} {oc_events kV_events dc_events pm_events cd_events ct_events:Value}
  {f__law_row:Addr} {od__law_row an__law_row:Option Addr} {sl__law_row:Array (Option Value)} {oc__law_row kV__law_row dc__law_row pm__law_row cd__law_row ct__law_row:Value}
  {f__law_voice:Addr} {od__law_voice an__law_voice:Option Addr} {sl__law_voice:Array (Option Value)} {oc__law_voice kV__law_voice dc__law_voice pm__law_voice cd__law_voice ct__law_voice:Value}
  {f_law:Addr} {od_law an_law:Option Addr} {sl_law:Array (Option Value)} {oc_law kV_law dc_law pm_law cd_law ct_law:Value}
  {u_SHAPES:Value}
  (a_end_of:PySem.W.nsIn K mainGlobals "end_of"=some (some (.ref f_end_of))) (l_end_of:K.lookup f_end_of=some ⟨oc_end_of,od_end_of,.func (PySem.W.fnOf "end_of" "end_of" (defArgs s_end_of) (defBody s_end_of) (defScope s_end_of) .none kV_end_of dc_end_of pm_end_of an_end_of cd_end_of ct_end_of),sl_end_of⟩) (c_end_of':PySem.W.codeIn K cd_end_of "end_of"=true) (k_end_of:PySem.W.keepIn K (.ref f_end_of)=true)
  (a_pieces:PySem.W.nsIn K mainGlobals "pieces"=some (some (.ref f_pieces))) (l_pieces:K.lookup f_pieces=some ⟨oc_pieces,od_pieces,.func (PySem.W.fnOf "pieces" "pieces" (defArgs s_pieces) (defBody s_pieces) (defScope s_pieces) .none kV_pieces dc_pieces pm_pieces an_pieces cd_pieces ct_pieces),sl_pieces⟩) (c_pieces':PySem.W.codeIn K cd_pieces "pieces"=true) (k_pieces:PySem.W.keepIn K (.ref f_pieces)=true)
  (a__law_cell:PySem.W.nsIn K mainGlobals "_law_cell"=some (some (.ref f__law_cell))) (l__law_cell:K.lookup f__law_cell=some ⟨oc__law_cell,od__law_cell,.func (PySem.W.fnOf "_law_cell" "_law_cell" (defArgs s__law_cell) (defBody s__law_cell) (defScope s__law_cell) .none kV__law_cell dc__law_cell pm__law_cell an__law_cell cd__law_cell ct__law_cell),sl__law_cell⟩) (c__law_cell':PySem.W.codeIn K cd__law_cell "_law_cell"=true) (k__law_cell:PySem.W.keepIn K (.ref f__law_cell)=true)
  (a__law_mix:PySem.W.nsIn K mainGlobals "_law_mix"=some (some (.ref f__law_mix))) (l__law_mix:K.lookup f__law_mix=some ⟨oc__law_mix,od__law_mix,.func (PySem.W.fnOf "_law_mix" "_law_mix" (defArgs s__law_mix) (defBody s__law_mix) (defScope s__law_mix) .none kV__law_mix dc__law_mix pm__law_mix an__law_mix cd__law_mix ct__law_mix),sl__law_mix⟩) (c__law_mix':PySem.W.codeIn K cd__law_mix "_law_mix"=true) (k__law_mix:PySem.W.keepIn K (.ref f__law_mix)=true)
  (a__law_whole:PySem.W.nsIn K mainGlobals "_law_whole"=some (some (.ref f__law_whole))) (l__law_whole:K.lookup f__law_whole=some ⟨oc__law_whole,od__law_whole,.func (PySem.W.fnOf "_law_whole" "_law_whole" (defArgs s__law_whole) (defBody s__law_whole) (defScope s__law_whole) .none kV__law_whole dc__law_whole pm__law_whole an__law_whole cd__law_whole ct__law_whole),sl__law_whole⟩) (c__law_whole':PySem.W.codeIn K cd__law_whole "_law_whole"=true) (k__law_whole:PySem.W.keepIn K (.ref f__law_whole)=true)
  (a__law_apart:PySem.W.nsIn K mainGlobals "_law_apart"=some (some (.ref f__law_apart))) (l__law_apart:K.lookup f__law_apart=some ⟨oc__law_apart,od__law_apart,.func (PySem.W.fnOf "_law_apart" "_law_apart" (defArgs s__law_apart) (defBody s__law_apart) (defScope s__law_apart) .none kV__law_apart dc__law_apart pm__law_apart an__law_apart cd__law_apart ct__law_apart),sl__law_apart⟩) (c__law_apart':PySem.W.codeIn K cd__law_apart "_law_apart"=true) (k__law_apart:PySem.W.keepIn K (.ref f__law_apart)=true)
  (a__law_meets:PySem.W.nsIn K mainGlobals "_law_meets"=some (some (.ref f__law_meets))) (l__law_meets:K.lookup f__law_meets=some ⟨oc__law_meets,od__law_meets,.func (PySem.W.fnOf "_law_meets" "_law_meets" (defArgs s__law_meets) (defBody s__law_meets) (defScope s__law_meets) .none kV__law_meets dc__law_meets pm__law_meets an__law_meets cd__law_meets ct__law_meets),sl__law_meets⟩) (c__law_meets':PySem.W.codeIn K cd__law_meets "_law_meets"=true) (k__law_meets:PySem.W.keepIn K (.ref f__law_meets)=true)
  (a__law_written:PySem.W.nsIn K mainGlobals "_law_written"=some (some (.ref f__law_written))) (l__law_written:K.lookup f__law_written=some ⟨oc__law_written,od__law_written,.func (PySem.W.fnOf "_law_written" "_law_written" (defArgs s__law_written) (defBody s__law_written) (defScope s__law_written) .none kV__law_written dc__law_written pm__law_written an__law_written cd__law_written ct__law_written),sl__law_written⟩) (c__law_written':PySem.W.codeIn K cd__law_written "_law_written"=true) (k__law_written:PySem.W.keepIn K (.ref f__law_written)=true)
  (a__law_lengths:PySem.W.nsIn K mainGlobals "_law_lengths"=some (some (.ref f__law_lengths))) (l__law_lengths:K.lookup f__law_lengths=some ⟨oc__law_lengths,od__law_lengths,.func (PySem.W.fnOf "_law_lengths" "_law_lengths" (defArgs s__law_lengths) (defBody s__law_lengths) (defScope s__law_lengths) .none kV__law_lengths dc__law_lengths pm__law_lengths an__law_lengths cd__law_lengths ct__law_lengths),sl__law_lengths⟩) (c__law_lengths':PySem.W.codeIn K cd__law_lengths "_law_lengths"=true) (k__law_lengths:PySem.W.keepIn K (.ref f__law_lengths)=true)
  (a__law_pieces:PySem.W.nsIn K mainGlobals "_law_pieces"=some (some (.ref f__law_pieces))) (l__law_pieces:K.lookup f__law_pieces=some ⟨oc__law_pieces,od__law_pieces,.func (PySem.W.fnOf "_law_pieces" "_law_pieces" (defArgs s__law_pieces) (defBody s__law_pieces) (defScope s__law_pieces) .none kV__law_pieces dc__law_pieces pm__law_pieces an__law_pieces cd__law_pieces ct__law_pieces),sl__law_pieces⟩) (c__law_pieces':PySem.W.codeIn K cd__law_pieces "_law_pieces"=true) (k__law_pieces:PySem.W.keepIn K (.ref f__law_pieces)=true)
  (a_rest_events:PySem.W.nsIn K mainGlobals "rest_events"=some (some (.ref f_rest_events))) (l_rest_events:K.lookup f_rest_events=some ⟨oc_rest_events,od_rest_events,.func (PySem.W.fnOf "rest_events" "rest_events" (defArgs s_rest_events) (defBody s_rest_events) (defScope s_rest_events) .none kV_rest_events dc_rest_events pm_rest_events an_rest_events cd_rest_events ct_rest_events),sl_rest_events⟩) (c_rest_events':PySem.W.codeIn K cd_rest_events "rest_events"=true) (k_rest_events:PySem.W.keepIn K (.ref f_rest_events)=true)
  (a_note_events:PySem.W.nsIn K mainGlobals "note_events"=some (some (.ref f_note_events))) (l_note_events:K.lookup f_note_events=some ⟨oc_note_events,od_note_events,.func (PySem.W.fnOf "note_events" "note_events" (defArgs s_note_events) (defBody s_note_events) (defScope s_note_events) .none kV_note_events dc_note_events pm_note_events an_note_events cd_note_events ct_note_events),sl_note_events⟩) (c_note_events':PySem.W.codeIn K cd_note_events "note_events"=true) (k_note_events:PySem.W.keepIn K (.ref f_note_events)=true)
  (a__law_large:PySem.W.nsIn K mainGlobals "_law_large"=some (some (.ref f__law_large))) (l__law_large:K.lookup f__law_large=some ⟨oc__law_large,od__law_large,.func (PySem.W.fnOf "_law_large" "_law_large" (defArgs s__law_large) (defBody s__law_large) (defScope s__law_large) .none kV__law_large dc__law_large pm__law_large an__law_large cd__law_large ct__law_large),sl__law_large⟩) (c__law_large':PySem.W.codeIn K cd__law_large "_law_large"=true) (k__law_large:PySem.W.keepIn K (.ref f__law_large)=true)
  (a__law_step:PySem.W.nsIn K mainGlobals "_law_step"=some (some (.ref f__law_step))) (l__law_step:K.lookup f__law_step=some ⟨oc__law_step,od__law_step,.func (PySem.W.fnOf "_law_step" "_law_step" (defArgs s__law_step) (defBody s__law_step) (defScope s__law_step) .none kV__law_step dc__law_step pm__law_step an__law_step cd__law_step ct__law_step),sl__law_step⟩) (c__law_step':PySem.W.codeIn K cd__law_step "_law_step"=true) (k__law_step:PySem.W.keepIn K (.ref f__law_step)=true)
  (a__law_note:PySem.W.nsIn K mainGlobals "_law_note"=some (some (.ref f__law_note))) (l__law_note:K.lookup f__law_note=some ⟨oc__law_note,od__law_note,.func (PySem.W.fnOf "_law_note" "_law_note" (defArgs s__law_note) (defBody s__law_note) (defScope s__law_note) .none kV__law_note dc__law_note pm__law_note an__law_note cd__law_note ct__law_note),sl__law_note⟩) (c__law_note':PySem.W.codeIn K cd__law_note "_law_note"=true) (k__law_note:PySem.W.keepIn K (.ref f__law_note)=true)
  (a__law_wide:PySem.W.nsIn K mainGlobals "_law_wide"=some (some (.ref f__law_wide))) (l__law_wide:K.lookup f__law_wide=some ⟨oc__law_wide,od__law_wide,.func (PySem.W.fnOf "_law_wide" "_law_wide" (defArgs s__law_wide) (defBody s__law_wide) (defScope s__law_wide) .none kV__law_wide dc__law_wide pm__law_wide an__law_wide cd__law_wide ct__law_wide),sl__law_wide⟩) (c__law_wide':PySem.W.codeIn K cd__law_wide "_law_wide"=true) (k__law_wide:PySem.W.keepIn K (.ref f__law_wide)=true)
  (a__law_cuts:PySem.W.nsIn K mainGlobals "_law_cuts"=some (some (.ref f__law_cuts))) (l__law_cuts:K.lookup f__law_cuts=some ⟨oc__law_cuts,od__law_cuts,.func (PySem.W.fnOf "_law_cuts" "_law_cuts" (defArgs s__law_cuts) (defBody s__law_cuts) (defScope s__law_cuts) .none kV__law_cuts dc__law_cuts pm__law_cuts an__law_cuts cd__law_cuts ct__law_cuts),sl__law_cuts⟩) (c__law_cuts':PySem.W.codeIn K cd__law_cuts "_law_cuts"=true) (k__law_cuts:PySem.W.keepIn K (.ref f__law_cuts)=true)
  (a__law_event:PySem.W.nsIn K mainGlobals "_law_event"=some (some (.ref f__law_event))) (l__law_event:K.lookup f__law_event=some ⟨oc__law_event,od__law_event,.func (PySem.W.fnOf "_law_event" "_law_event" (defArgs s__law_event) (defBody s__law_event) (defScope s__law_event) .none kV__law_event dc__law_event pm__law_event an__law_event cd__law_event ct__law_event),sl__law_event⟩) (c__law_event':PySem.W.codeIn K cd__law_event "_law_event"=true) (k__law_event:PySem.W.keepIn K (.ref f__law_event)=true)
  (a_bar_events:PySem.W.nsIn K mainGlobals "bar_events"=some (some (.ref f_bar_events))) (l_bar_events:K.lookup f_bar_events=some ⟨oc_bar_events,od_bar_events,.func (PySem.W.fnOf "bar_events" "bar_events" (defArgs s_bar_events) (defBody s_bar_events) (defScope s_bar_events) .none kV_bar_events dc_bar_events pm_bar_events an_bar_events cd_bar_events ct_bar_events),sl_bar_events⟩) (c_bar_events':PySem.W.codeIn K cd_bar_events "bar_events"=true) (k_bar_events:PySem.W.keepIn K (.ref f_bar_events)=true)
  (a__law_meter:PySem.W.nsIn K mainGlobals "_law_meter"=some (some (.ref f__law_meter))) (l__law_meter:K.lookup f__law_meter=some ⟨oc__law_meter,od__law_meter,.func (PySem.W.fnOf "_law_meter" "_law_meter" (defArgs s__law_meter) (defBody s__law_meter) (defScope s__law_meter) .none kV__law_meter dc__law_meter pm__law_meter an__law_meter cd__law_meter ct__law_meter),sl__law_meter⟩) (c__law_meter':PySem.W.codeIn K cd__law_meter "_law_meter"=true) (k__law_meter:PySem.W.keepIn K (.ref f__law_meter)=true)
  (a__law_notes:PySem.W.nsIn K mainGlobals "_law_notes"=some (some (.ref f__law_notes))) (l__law_notes:K.lookup f__law_notes=some ⟨oc__law_notes,od__law_notes,.func (PySem.W.fnOf "_law_notes" "_law_notes" (defArgs s__law_notes) (defBody s__law_notes) (defScope s__law_notes) .none kV__law_notes dc__law_notes pm__law_notes an__law_notes cd__law_notes ct__law_notes),sl__law_notes⟩) (c__law_notes':PySem.W.codeIn K cd__law_notes "_law_notes"=true) (k__law_notes:PySem.W.keepIn K (.ref f__law_notes)=true)
  (a_events:PySem.W.nsIn K mainGlobals "events"=some (some (.ref f_events))) (l_events:K.lookup f_events=some ⟨oc_events,od_events,.func (PySem.W.fnOf "events" "events" (defArgs s_events) (defBody s_events) (defScope s_events) .none kV_events dc_events pm_events an_events cd_events ct_events),sl_events⟩) (c_events':PySem.W.codeIn K cd_events "events"=true) (k_events:PySem.W.keepIn K (.ref f_events)=true)
  (a__law_row:PySem.W.nsIn K mainGlobals "_law_row"=some (some (.ref f__law_row))) (l__law_row:K.lookup f__law_row=some ⟨oc__law_row,od__law_row,.func (PySem.W.fnOf "_law_row" "_law_row" (defArgs s__law_row) (defBody s__law_row) (defScope s__law_row) .none kV__law_row dc__law_row pm__law_row an__law_row cd__law_row ct__law_row),sl__law_row⟩) (c__law_row':PySem.W.codeIn K cd__law_row "_law_row"=true) (k__law_row:PySem.W.keepIn K (.ref f__law_row)=true)
  (a__law_voice:PySem.W.nsIn K mainGlobals "_law_voice"=some (some (.ref f__law_voice))) (l__law_voice:K.lookup f__law_voice=some ⟨oc__law_voice,od__law_voice,.func (PySem.W.fnOf "_law_voice" "_law_voice" (defArgs s__law_voice) (defBody s__law_voice) (defScope s__law_voice) .none kV__law_voice dc__law_voice pm__law_voice an__law_voice cd__law_voice ct__law_voice),sl__law_voice⟩) (c__law_voice':PySem.W.codeIn K cd__law_voice "_law_voice"=true) (k__law_voice:PySem.W.keepIn K (.ref f__law_voice)=true)
  (a_law:PySem.W.nsIn K mainGlobals "law"=some (some (.ref f_law))) (l_law:K.lookup f_law=some ⟨oc_law,od_law,.func (PySem.W.fnOf "law" "law" (defArgs s_law) (defBody s_law) (defScope s_law) .none kV_law dc_law pm_law an_law cd_law ct_law),sl_law⟩) (c_law':PySem.W.codeIn K cd_law "law"=true) (k_law:PySem.W.keepIn K (.ref f_law)=true)
  (z_len:PySem.W.nsIn K mainGlobals "len"=some none)
  (z_isinstance:PySem.W.nsIn K mainGlobals "isinstance"=some none)
  (z_int:PySem.W.nsIn K mainGlobals "int"=some none)
  (z_bool:PySem.W.nsIn K mainGlobals "bool"=some none)
  (z_sum:PySem.W.nsIn K mainGlobals "sum"=some none)
  (z_sorted:PySem.W.nsIn K mainGlobals "sorted"=some none)
  (z_min:PySem.W.nsIn K mainGlobals "min"=some none)
  (z_range:PySem.W.nsIn K mainGlobals "range"=some none)
  (z_set:PySem.W.nsIn K mainGlobals "set"=some none)
  (z_tuple:PySem.W.nsIn K mainGlobals "tuple"=some none)
  (z_max:PySem.W.nsIn K mainGlobals "max"=some none)
  (z_list:PySem.W.nsIn K mainGlobals "list"=some none)
  (n_SHAPES:PySem.W.nsIn K mainGlobals "SHAPES"=some (some u_SHAPES)) (d_SHAPES:datIn K 9 u_SHAPES=some c_SHAPES) :
  ∃ fd:FuncData,(∀ (s:Shared) (v:Value),BindsTo s fd ⟨[v],[]⟩ [("_law_script",v)])∧∀ base:Heap,K.In base→base.Ns mainGlobals mg→FnOk l.prog w K mg base CX0 6 fa fd ["_law_script"] (spD ⟨l.prog,w,K⟩ D_law 1):=by
 have e:=hfa.symm.trans (PySem.W.mg_of X G a_law)
 cases e
 have F_end_of:=fun_mk (st:=s_end_of) l_end_of c_end_of' k_end_of
 have b_end_of:=F_end_of.binds (ps:=["sound"]) fun _ _ _ _ _ _ us hl=>by obtain ⟨_,rfl⟩:=len1 hl; rfl
 have m_end_of:=PySem.W.mg_of X G a_end_of
 have F_pieces:=fun_mk (st:=s_pieces) l_pieces c_pieces' k_pieces
 have b_pieces:=F_pieces.binds (ps:=["length"]) fun _ _ _ _ _ _ us hl=>by obtain ⟨_,rfl⟩:=len1 hl; rfl
 have m_pieces:=PySem.W.mg_of X G a_pieces
 have F__law_cell:=fun_mk (st:=s__law_cell) l__law_cell c__law_cell' k__law_cell
 have b__law_cell:=F__law_cell.binds (ps:=["_law_script","_law_k"]) fun _ _ _ _ _ _ us hl=>by obtain ⟨_,_,rfl⟩:=len2 hl; rfl
 have m__law_cell:=PySem.W.mg_of X G a__law_cell
 have F__law_mix:=fun_mk (st:=s__law_mix) l__law_mix c__law_mix' k__law_mix
 have b__law_mix:=F__law_mix.binds (ps:=["_law_cell_here","_law_prime","_law_many"]) fun _ _ _ _ _ _ us hl=>by obtain ⟨_,_,_,rfl⟩:=len3 hl; rfl
 have m__law_mix:=PySem.W.mg_of X G a__law_mix
 have F__law_whole:=fun_mk (st:=s__law_whole) l__law_whole c__law_whole' k__law_whole
 have b__law_whole:=F__law_whole.binds (ps:=["_law_found"]) fun _ _ _ _ _ _ us hl=>by obtain ⟨_,rfl⟩:=len1 hl; rfl
 have m__law_whole:=PySem.W.mg_of X G a__law_whole
 have F__law_apart:=fun_mk (st:=s__law_apart) l__law_apart c__law_apart' k__law_apart
 have b__law_apart:=F__law_apart.binds (ps:=["_law_note_here","_law_notes_here"]) fun _ _ _ _ _ _ us hl=>by obtain ⟨_,_,rfl⟩:=len2 hl; rfl
 have m__law_apart:=PySem.W.mg_of X G a__law_apart
 have F__law_meets:=fun_mk (st:=s__law_meets) l__law_meets c__law_meets' k__law_meets
 have b__law_meets:=F__law_meets.binds (ps:=["_law_note_here","_law_notes_here"]) fun _ _ _ _ _ _ us hl=>by obtain ⟨_,_,rfl⟩:=len2 hl; rfl
 have m__law_meets:=PySem.W.mg_of X G a__law_meets
 have F__law_written:=fun_mk (st:=s__law_written) l__law_written c__law_written' k__law_written
 have b__law_written:=F__law_written.binds (ps:=["_law_length"]) fun _ _ _ _ _ _ us hl=>by obtain ⟨_,rfl⟩:=len1 hl; rfl
 have m__law_written:=PySem.W.mg_of X G a__law_written
 have F__law_lengths:=fun_mk (st:=s__law_lengths) l__law_lengths c__law_lengths' k__law_lengths
 have b__law_lengths:=F__law_lengths.binds (ps:=["_law_meter_here","_law_end"]) fun _ _ _ _ _ _ us hl=>by obtain ⟨_,_,rfl⟩:=len2 hl; rfl
 have m__law_lengths:=PySem.W.mg_of X G a__law_lengths
 have F__law_pieces:=fun_mk (st:=s__law_pieces) l__law_pieces c__law_pieces' k__law_pieces
 have b__law_pieces:=F__law_pieces.binds (ps:=["_law_length"]) fun _ _ _ _ _ _ us hl=>by obtain ⟨_,rfl⟩:=len1 hl; rfl
 have m__law_pieces:=PySem.W.mg_of X G a__law_pieces
 have F_rest_events:=fun_mk (st:=s_rest_events) l_rest_events c_rest_events' k_rest_events
 have b_rest_events:=F_rest_events.binds (ps:=["length"]) fun _ _ _ _ _ _ us hl=>by obtain ⟨_,rfl⟩:=len1 hl; rfl
 have m_rest_events:=PySem.W.mg_of X G a_rest_events
 have F_note_events:=fun_mk (st:=s_note_events) l_note_events c_note_events' k_note_events
 have b_note_events:=F_note_events.binds (ps:=["chord","first","behind"]) fun _ _ _ _ _ _ us hl=>by obtain ⟨_,_,_,rfl⟩:=len3 hl; rfl
 have m_note_events:=PySem.W.mg_of X G a_note_events
 have F__law_large:=fun_mk (st:=s__law_large) l__law_large c__law_large' k__law_large
 have b__law_large:=F__law_large.binds (ps:=["_law_script"]) fun _ _ _ _ _ _ us hl=>by obtain ⟨_,rfl⟩:=len1 hl; rfl
 have m__law_large:=PySem.W.mg_of X G a__law_large
 have F__law_step:=fun_mk (st:=s__law_step) l__law_step c__law_step' k__law_step
 have b__law_step:=F__law_step.binds (ps:=["_law_cell_here","_law_bar","_law_wide_here"]) fun _ _ _ _ _ _ us hl=>by obtain ⟨_,_,_,rfl⟩:=len3 hl; rfl
 have m__law_step:=PySem.W.mg_of X G a__law_step
 have F__law_note:=fun_mk (st:=s__law_note) l__law_note c__law_note' k__law_note
 have b__law_note:=F__law_note.binds (ps:=["_law_cell_here","_law_notes_here","_law_wide_here"]) fun _ _ _ _ _ _ us hl=>by obtain ⟨_,_,_,rfl⟩:=len3 hl; rfl
 have m__law_note:=PySem.W.mg_of X G a__law_note
 have F__law_wide:=fun_mk (st:=s__law_wide) l__law_wide c__law_wide' k__law_wide
 have b__law_wide:=F__law_wide.binds (ps:=["_law_script"]) fun _ _ _ _ _ _ us hl=>by obtain ⟨_,rfl⟩:=len1 hl; rfl
 have m__law_wide:=PySem.W.mg_of X G a__law_wide
 have F__law_cuts:=fun_mk (st:=s__law_cuts) l__law_cuts c__law_cuts' k__law_cuts
 have b__law_cuts:=F__law_cuts.binds (ps:=["_law_voice_here","_law_lengths_here"]) fun _ _ _ _ _ _ us hl=>by obtain ⟨_,_,rfl⟩:=len2 hl; rfl
 have m__law_cuts:=PySem.W.mg_of X G a__law_cuts
 have F__law_event:=fun_mk (st:=s__law_event) l__law_event c__law_event' k__law_event
 have b__law_event:=F__law_event.binds (ps:=["_law_event_here"]) fun _ _ _ _ _ _ us hl=>by obtain ⟨_,rfl⟩:=len1 hl; rfl
 have m__law_event:=PySem.W.mg_of X G a__law_event
 have F_bar_events:=fun_mk (st:=s_bar_events) l_bar_events c_bar_events' k_bar_events
 have b_bar_events:=F_bar_events.binds (ps:=["voice","begin","end"]) fun _ _ _ _ _ _ us hl=>by obtain ⟨_,_,_,rfl⟩:=len3 hl; rfl
 have m_bar_events:=PySem.W.mg_of X G a_bar_events
 have F__law_meter:=fun_mk (st:=s__law_meter) l__law_meter c__law_meter' k__law_meter
 have b__law_meter:=F__law_meter.binds (ps:=["_law_script","_law_wide_here"]) fun _ _ _ _ _ _ us hl=>by obtain ⟨_,_,rfl⟩:=len2 hl; rfl
 have m__law_meter:=PySem.W.mg_of X G a__law_meter
 have F__law_notes:=fun_mk (st:=s__law_notes) l__law_notes c__law_notes' k__law_notes
 have b__law_notes:=F__law_notes.binds (ps:=["_law_script","_law_wide_here"]) fun _ _ _ _ _ _ us hl=>by obtain ⟨_,_,rfl⟩:=len2 hl; rfl
 have m__law_notes:=PySem.W.mg_of X G a__law_notes
 have F_events:=fun_mk (st:=s_events) l_events c_events' k_events
 have b_events:=F_events.binds (ps:=["voice","lengths"]) fun _ _ _ _ _ _ us hl=>by obtain ⟨_,_,rfl⟩:=len2 hl; rfl
 have m_events:=PySem.W.mg_of X G a_events
 have F__law_row:=fun_mk (st:=s__law_row) l__law_row c__law_row' k__law_row
 have b__law_row:=F__law_row.binds (ps:=["_law_script","_law_wide_here"]) fun _ _ _ _ _ _ us hl=>by obtain ⟨_,_,rfl⟩:=len2 hl; rfl
 have m__law_row:=PySem.W.mg_of X G a__law_row
 have F__law_voice:=fun_mk (st:=s__law_voice) l__law_voice c__law_voice' k__law_voice
 have b__law_voice:=F__law_voice.binds (ps:=["_law_script","_law_wide_here"]) fun _ _ _ _ _ _ us hl=>by obtain ⟨_,_,rfl⟩:=len2 hl; rfl
 have m__law_voice:=PySem.W.mg_of X G a__law_voice
 have F_law:=fun_mk (st:=s_law) l_law c_law' k_law
 have b_len:=PySem.W.mg_none_of X G z_len
 have b_isinstance:=PySem.W.mg_none_of X G z_isinstance
 have b_int:=PySem.W.mg_none_of X G z_int
 have b_bool:=PySem.W.mg_none_of X G z_bool
 have b_sum:=PySem.W.mg_none_of X G z_sum
 have b_sorted:=PySem.W.mg_none_of X G z_sorted
 have b_min:=PySem.W.mg_none_of X G z_min
 have b_range:=PySem.W.mg_none_of X G z_range
 have b_set:=PySem.W.mg_none_of X G z_set
 have b_tuple:=PySem.W.mg_none_of X G z_tuple
 have b_max:=PySem.W.mg_none_of X G z_max
 have b_list:=PySem.W.mg_none_of X G z_list
 have m_SHAPES:=PySem.W.mg_of X G n_SHAPES
 obtain ⟨v_SHAPES,r_SHAPES,q_SHAPES⟩:=datIn_ok (κ:=⟨l.prog,w,K⟩) 9 u_SHAPES _ d_SHAPES
 refine ⟨PySem.W.fnOf "law" "law" (defArgs s_law) (defBody s_law) (defScope s_law) .none kV_law dc_law pm_law an_law cd_law ct_law,fun s v=>.of_eq rfl,fun base _ _=>?_⟩
 have G_end_of:=ok_end_of (P:=l.prog) (w:=w) (mg:=mg) (base:=base) F_end_of
 have G_pieces:=ok_pieces (P:=l.prog) (w:=w) (mg:=mg) (base:=base) F_pieces m_SHAPES r_SHAPES q_SHAPES
 have G__law_cell:=ok__law_cell (P:=l.prog) (w:=w) (mg:=mg) (base:=base) F__law_cell b_len
 have G__law_mix:=ok__law_mix (P:=l.prog) (w:=w) (mg:=mg) (base:=base) F__law_mix
 have G__law_whole:=ok__law_whole (P:=l.prog) (w:=w) (mg:=mg) (base:=base) F__law_whole b_isinstance b_int b_bool
 have G__law_apart:=ok__law_apart (P:=l.prog) (w:=w) (mg:=mg) (base:=base) F__law_apart
 have G__law_meets:=ok__law_meets (P:=l.prog) (w:=w) (mg:=mg) (base:=base) F__law_meets b_len
 have G__law_written:=ok__law_written (P:=l.prog) (w:=w) (mg:=mg) (base:=base) F__law_written
 have G__law_lengths:=ok__law_lengths (P:=l.prog) (w:=w) (mg:=mg) (base:=base) F__law_lengths b_sum b_len
 have G__law_pieces:=ok__law_pieces (P:=l.prog) (w:=w) (mg:=mg) (base:=base) F__law_pieces b_sorted
 have G_rest_events:=ok_rest_events (P:=l.prog) (w:=w) (mg:=mg) (base:=base) F_rest_events G_pieces m_pieces k_pieces b_pieces
 have G_note_events:=ok_note_events (P:=l.prog) (w:=w) (mg:=mg) (base:=base) F_note_events G_end_of m_end_of k_end_of b_end_of G_pieces m_pieces k_pieces b_pieces
 have G__law_large:=ok__law_large (P:=l.prog) (w:=w) (mg:=mg) (base:=base) F__law_large G__law_cell m__law_cell k__law_cell b__law_cell G__law_mix m__law_mix k__law_mix b__law_mix b_len
 have G__law_step:=ok__law_step (P:=l.prog) (w:=w) (mg:=mg) (base:=base) F__law_step G__law_mix m__law_mix k__law_mix b__law_mix b_len b_min
 have G__law_note:=ok__law_note (P:=l.prog) (w:=w) (mg:=mg) (base:=base) F__law_note G__law_mix m__law_mix k__law_mix b__law_mix
 have G__law_wide:=ok__law_wide (P:=l.prog) (w:=w) (mg:=mg) (base:=base) F__law_wide G__law_cell m__law_cell k__law_cell b__law_cell
 have G__law_cuts:=ok__law_cuts (P:=l.prog) (w:=w) (mg:=mg) (base:=base) F__law_cuts G__law_pieces m__law_pieces k__law_pieces b__law_pieces b_range b_len b_sum b_sorted b_set
 have G__law_event:=ok__law_event (P:=l.prog) (w:=w) (mg:=mg) (base:=base) F__law_event G__law_whole m__law_whole k__law_whole b__law_whole G__law_written m__law_written k__law_written b__law_written b_isinstance b_tuple b_len b_bool
 have G_bar_events:=ok_bar_events (P:=l.prog) (w:=w) (mg:=mg) (base:=base) F_bar_events G_end_of m_end_of k_end_of b_end_of G_rest_events m_rest_events k_rest_events b_rest_events G_note_events m_note_events k_note_events b_note_events b_max b_min
 have G__law_meter:=ok__law_meter (P:=l.prog) (w:=w) (mg:=mg) (base:=base) F__law_meter G__law_cell m__law_cell k__law_cell b__law_cell G__law_step m__law_step k__law_step b__law_step G__law_mix m__law_mix k__law_mix b__law_mix b_range
 have G__law_notes:=ok__law_notes (P:=l.prog) (w:=w) (mg:=mg) (base:=base) F__law_notes G__law_large m__law_large k__law_large b__law_large G__law_note m__law_note k__law_note b__law_note G__law_apart m__law_apart k__law_apart b__law_apart G__law_meets m__law_meets k__law_meets b__law_meets b_len
 have G_events:=ok_events (P:=l.prog) (w:=w) (mg:=mg) (base:=base) F_events G_bar_events m_bar_events k_bar_events b_bar_events
 have G__law_row:=ok__law_row (P:=l.prog) (w:=w) (mg:=mg) (base:=base) F__law_row G__law_notes m__law_notes k__law_notes b__law_notes b_sorted
 have G__law_voice:=ok__law_voice (P:=l.prog) (w:=w) (mg:=mg) (base:=base) F__law_voice G__law_row m__law_row k__law_row b__law_row
 exact ok_law (P:=l.prog) (w:=w) (mg:=mg) (base:=base) F_law G__law_wide m__law_wide k__law_wide b__law_wide G__law_voice m__law_voice k__law_voice b__law_voice G__law_meter m__law_meter k__law_meter b__law_meter G__law_cell m__law_cell k__law_cell b__law_cell G__law_lengths m__law_lengths k__law_lengths b__law_lengths G_events m_events k_events b_events G__law_event m__law_event k__law_event b__law_event G__law_cuts m__law_cuts k__law_cuts b__law_cuts b_max b_list b_isinstance b_len b_range b_sum
theorem walk {l:PySem.W.OpenLaw} {q:Program} {loose:List Str} {XP:(Str→Option Value)→Heap→Prop} {YP:World→Heap→Prop} {d:DefRec} {K:Params→PySem.W.Frag} (hn:l.most=some 63) (hdf:d.params.defaults=[])
  (hY:∀ (w:World) (h:Heap),YP w h→(K w.params).In h)
  (F:∀ (w:World) (mg:Str→Option Value) (fa:Addr) (h:Heap),(K w.params).In h→h.Ns mainGlobals mg→mg d.name=some (.ref fa) →
   ∃ fd:FuncData,(∀ (s:Shared) (u:Value),BindsTo s fd ⟨[u],[]⟩ [("_law_script",u)])∧∀ base:Heap,(K w.params).In base→base.Ns mainGlobals mg→FnOk l.prog w (K w.params) mg base CX0 6 fa fd ["_law_script"] (spD ⟨l.prog,w,K w.params⟩ D_law 1)) :
  PySem.W.WalkO q loose XP YP l.row.toRowW d [] (fun f vs=>PySem.call f vs) :=
 L2.walk_of (n:=63) (k:=6) (x:="_law_script") (CX:=fun _=>CX0) (sp:=fun w=>spD ⟨l.prog,w,K w.params⟩ D_law 1) hn (by decide) hdf ⟨rfl,by decide,by decide⟩ hY F (fun w H a ns hl _ hS=>law_end D_law ns hS (law_true ns hl)) fun _ _ _ _ _ z=>z
end My
open PySem PySem.W PyProof.Rows
set_option maxRecDepth 100000 in
set_option maxHeartbeats 0 in
theorem PySem.Challenge.cw_stavemill_k10_bars_are_filled_holds : PySem.Challenge.rw_stavemill_k10_bars_are_filled.Holds := by
 w_on; o_law; k_head; (case hw=>w_witness2)
 k_fill
 refine My.walk (l:=PySem.Challenge.rw_stavemill_k10_bars_are_filled) rfl rfl (fun w h Y=>PySem.W.kIn_of Y) ?F
 case F =>
  intro w mg fa h KX G hmg
  refine' My.all_mk KX G hmg ?a_end_of ?l_end_of ?c_end_of ?k_end_of ?a_pieces ?l_pieces ?c_pieces ?k_pieces ?a__law_cell ?l__law_cell ?c__law_cell ?k__law_cell ?a__law_mix ?l__law_mix ?c__law_mix ?k__law_mix ?a__law_whole ?l__law_whole ?c__law_whole ?k__law_whole ?a__law_apart ?l__law_apart ?c__law_apart ?k__law_apart ?a__law_meets ?l__law_meets ?c__law_meets ?k__law_meets ?a__law_written ?l__law_written ?c__law_written ?k__law_written ?a__law_lengths ?l__law_lengths ?c__law_lengths ?k__law_lengths ?a__law_pieces ?l__law_pieces ?c__law_pieces ?k__law_pieces ?a_rest_events ?l_rest_events ?c_rest_events ?k_rest_events ?a_note_events ?l_note_events ?c_note_events ?k_note_events ?a__law_large ?l__law_large ?c__law_large ?k__law_large ?a__law_step ?l__law_step ?c__law_step ?k__law_step ?a__law_note ?l__law_note ?c__law_note ?k__law_note ?a__law_wide ?l__law_wide ?c__law_wide ?k__law_wide ?a__law_cuts ?l__law_cuts ?c__law_cuts ?k__law_cuts ?a__law_event ?l__law_event ?c__law_event ?k__law_event ?a_bar_events ?l_bar_events ?c_bar_events ?k_bar_events ?a__law_meter ?l__law_meter ?c__law_meter ?k__law_meter ?a__law_notes ?l__law_notes ?c__law_notes ?k__law_notes ?a_events ?l_events ?c_events ?k_events ?a__law_row ?l__law_row ?c__law_row ?k__law_row ?a__law_voice ?l__law_voice ?c__law_voice ?k__law_voice ?a_law ?l_law ?c_law ?k_law ?z_len ?z_isinstance ?z_int ?z_bool ?z_sum ?z_sorted ?z_min ?z_range ?z_set ?z_tuple ?z_max ?z_list ?n_SHAPES ?d_SHAPES
  (case a_end_of=>k_is)
  (case l_end_of=>k_is)
  (case c_end_of=>k_is)
  (case k_end_of=>k_is)
  (case a_pieces=>k_is)
  (case l_pieces=>k_is)
  (case c_pieces=>k_is)
  (case k_pieces=>k_is)
  (case a__law_cell=>k_is)
  (case l__law_cell=>k_is)
  (case c__law_cell=>k_is)
  (case k__law_cell=>k_is)
  (case a__law_mix=>k_is)
  (case l__law_mix=>k_is)
  (case c__law_mix=>k_is)
  (case k__law_mix=>k_is)
  (case a__law_whole=>k_is)
  (case l__law_whole=>k_is)
  (case c__law_whole=>k_is)
  (case k__law_whole=>k_is)
  (case a__law_apart=>k_is)
  (case l__law_apart=>k_is)
  (case c__law_apart=>k_is)
  (case k__law_apart=>k_is)
  (case a__law_meets=>k_is)
  (case l__law_meets=>k_is)
  (case c__law_meets=>k_is)
  (case k__law_meets=>k_is)
  (case a__law_written=>k_is)
  (case l__law_written=>k_is)
  (case c__law_written=>k_is)
  (case k__law_written=>k_is)
  (case a__law_lengths=>k_is)
  (case l__law_lengths=>k_is)
  (case c__law_lengths=>k_is)
  (case k__law_lengths=>k_is)
  (case a__law_pieces=>k_is)
  (case l__law_pieces=>k_is)
  (case c__law_pieces=>k_is)
  (case k__law_pieces=>k_is)
  (case a_rest_events=>k_is)
  (case l_rest_events=>k_is)
  (case c_rest_events=>k_is)
  (case k_rest_events=>k_is)
  (case a_note_events=>k_is)
  (case l_note_events=>k_is)
  (case c_note_events=>k_is)
  (case k_note_events=>k_is)
  (case a__law_large=>k_is)
  (case l__law_large=>k_is)
  (case c__law_large=>k_is)
  (case k__law_large=>k_is)
  (case a__law_step=>k_is)
  (case l__law_step=>k_is)
  (case c__law_step=>k_is)
  (case k__law_step=>k_is)
  (case a__law_note=>k_is)
  (case l__law_note=>k_is)
  (case c__law_note=>k_is)
  (case k__law_note=>k_is)
  (case a__law_wide=>k_is)
  (case l__law_wide=>k_is)
  (case c__law_wide=>k_is)
  (case k__law_wide=>k_is)
  (case a__law_cuts=>k_is)
  (case l__law_cuts=>k_is)
  (case c__law_cuts=>k_is)
  (case k__law_cuts=>k_is)
  (case a__law_event=>k_is)
  (case l__law_event=>k_is)
  (case c__law_event=>k_is)
  (case k__law_event=>k_is)
  (case a_bar_events=>k_is)
  (case l_bar_events=>k_is)
  (case c_bar_events=>k_is)
  (case k_bar_events=>k_is)
  (case a__law_meter=>k_is)
  (case l__law_meter=>k_is)
  (case c__law_meter=>k_is)
  (case k__law_meter=>k_is)
  (case a__law_notes=>k_is)
  (case l__law_notes=>k_is)
  (case c__law_notes=>k_is)
  (case k__law_notes=>k_is)
  (case a_events=>k_is)
  (case l_events=>k_is)
  (case c_events=>k_is)
  (case k_events=>k_is)
  (case a__law_row=>k_is)
  (case l__law_row=>k_is)
  (case c__law_row=>k_is)
  (case k__law_row=>k_is)
  (case a__law_voice=>k_is)
  (case l__law_voice=>k_is)
  (case c__law_voice=>k_is)
  (case k__law_voice=>k_is)
  (case a_law=>k_is)
  (case l_law=>k_is)
  (case c_law=>k_is)
  (case k_law=>k_is)
  (case z_len=>k_is)
  (case z_isinstance=>k_is)
  (case z_int=>k_is)
  (case z_bool=>k_is)
  (case z_sum=>k_is)
  (case z_sorted=>k_is)
  (case z_min=>k_is)
  (case z_range=>k_is)
  (case z_set=>k_is)
  (case z_tuple=>k_is)
  (case z_max=>k_is)
  (case z_list=>k_is)
  (case n_SHAPES=>k_is)
  (case d_SHAPES=>kernel_rfl)
#print axioms PySem.Challenge.cw_stavemill_k10_bars_are_filled_holds