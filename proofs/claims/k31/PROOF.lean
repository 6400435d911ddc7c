import PyProof.Rows.All
import Wide.All
import OpenK.AllK
import Wide.FinOn
import Lean
import PyProof.EqAt
import PyProof.EqKinds
import PyProof.TupleCall
import PyProof.P3In
import PyProof.NeData
import PyProof.MaxThree
import PySem.Challenge.RW_stavemill_k31_pages_refused
set_option Elab.async false
set_option linter.all false
set_option maxRecDepth 100000
local macro_rules | `(tactic| omega) => `(tactic| lia)
local macro_rules | `(tactic| trivial) => `(tactic| first | exact Or.inl rfl | exact Or.inr rfl | exact Or.inr (Or.inl rfl) | exact Or.inr (Or.inr rfl))
set_option Elab.async false
set_option linter.all false
set_option maxRecDepth 100000
set_option maxHeartbeats 4000000
noncomputable section
def g6:=@PySem.wpAny_bind
def gg:=@PySem.Heap.get?_push_of_some
def gk:=@PySem.wpAny_pure
def gl:=@List.mem_cons
def gp:=@List.mem_cons_of_mem
def gu:=@List.getElem?_eq_some_iff
def gv:=@PySem.Heap.lt_size
def gw:=@Nat.le_refl
def gy:=@List.length_map
def gB:=@if_pos
def gD:=@if_neg
def gF:=@List.mem_append_right
def gG:=@Nat.lt_of_lt_of_le
def gH:=@PySem.Heap.get?_push_size
def gJ:=@PySem.Calls.spliced_cons
def gK:=@Bool.and_eq_true
def gM:=@List.getElem?_set_ne
def gN:=@List.map_cons
def gP:=@Nat.ne_of_lt
def gQ:=@List.size_toArray
def gR:=@PySem.W.Looks.here
def gU:=@List.length_cons
def gW:=@PySem.PassesOwn.never
def gX:=@List.getElem?_map
def gY:=@List.mem_cons_self
def gZ:=@List.getElem?_set_self
def h9:=@List.mem_append_left
def hG:=@Ne.symm
def hU:=@List.getElem?_eq_getElem
def hV:=@PySem.wpAny_Call_Name_kw
def hW:=@List.getElem?_append_left
def hX:=@Bool.false_eq_true
def hZ:=@PySem.W.mg_none_of
def t4:=@List.getElem?_append_right
def t5:=@PySem.Heap.get?_update_other
def t7:=@PySem.Calls.spliced_nil
def t8:=@Nat.le_trans
def tf:=@List.nodup_cons
def tj:=@Int.mul_le_mul_of_nonneg_right
def tm:=@List.mem_append
def tq:=@PySem.Heap.get?_update_self
def tt:=@PyProof.Rows.callWith_type1
def tw:=@PySem.wpAny_newObj_type
def tB:=@Nat.lt_irrefl
def tD:=@List.replicate_succ
def tF:=@Nat.le_of_lt
def tG:=@List.length_nil
def tH:=@PySem.wpAny_loadPart_at
def tJ:=@PySem.boot_len
def tK:=@PySem.wpAny_field
def tL:=@PySem.wpAny_holding
def tM:=@List.replicate_zero
def tN:=@decide_eq_false
def tP:=@List.append_nil
def tQ:=@Int.toNat_natCast
def tR:=@List.mem_map
def tS:=@PyProof.Rows.wpS_bind
def tU:=@List.map_nil
def tV:=@List.nil_append
def tW:=@List.cons_append
def tX:=@PySem.wpAny_callSpecial?_slot
def tY:=@List.mem_of_getElem?
def tZ:=@Nat.zero_le
def f8:=@List.length_append
def f9:=@PyProof.Rows.callWith_builtin1
def fj:=@List.not_mem_nil
def fm:=@PySem.sizeLine_eq
def fq:=@PySem.wpAny_mono
def ft:=@PySem.F.slot_dict_get
def fu:=@Option.some.inj
def fw:=@Bool.false_ne_true
def fx:=@List.getElem?_replicate
def fy:=@PySem.W.mg_of
def fA:=@PySem.Obj.data_mapFields
def fB:=@PySem.F.plainAttrs_list
def fC:=@PySem.W.callWith_K
def fE:=@PySem.W.looks_findIn
def fF:=@PySem.wpAny_call_entry
def fG:=@List.map_map
def fH:=@PySem.F.slot_tuple_iterator_next
def fJ:=@List.take_of_length_le
def fK:=@PySem.F.plain_max_loop
def fL:=@PyProof.Rows.boot_list
def fM:=@Array.length_toList
def fN:=@PySem.Heap.SameBut.update
def fO:=@Bool.false_and
def fP:=@if_false
def fQ:=@List.drop_eq_getElem_cons
def fR:=@PySem.wpAny_seqItems
def fS:=@Bool.true_and
def fT:=@PySem.wpAny_execs_nil
def fU:=@Nat.ne_of_gt
def fV:=@PySem.W.kia_one
def fW:=@List.map_append
def fY:=@Int.le_refl
def fZ:=@List.all_cons
def p0:=@PyProof.Rows.wpS_pure
def p5:=@PySem.Heap.size_push
def p6:=@PySem.F.slot_dict_keyiterator_next
def p7:=@PySem.Heap.size_update
def p9:=@List.all_eq_true
def pf:=@PySem.Obj.isFreed_of_fields
def pi:=@PySem.wpAny_setField_rec
def pj:=@decide_eq_true
def po:=@PySem.wpAny_setField
def pq:=@PySem.codeAny_call_builtin
def pt:=@PySem.wpAny_passesOwn
def px:=@PySem.wpAny_truthy_bool
def py:=@PySem.wpAny_call
def pz:=@PyProof.Rows.slot_tuple_getitem
def pA:=@PySem.F.slot_list_append
def pB:=@PySem.F.type_list_append
def pC:=@Nat.lt_succ_of_lt
def pD:=@PySem.Heap.get?_push_ne
def pE:=@Nat.lt_trans
def pF:=@PySem.mem_of_lookup
def pG:=@PySem.F.plainAttrs_dict
def pH:=@List.getElem?_cons_succ
def pI:=@PySem.wpAny_standAt
def pJ:=@List.length_eq_zero_iff
def pK:=@List.map_congr_left
def pL:=@PySem.wpAny_isSubtype_exc
def pM:=@Nat.lt_succ_self
def pN:=@Option.bind_some
def pO:=@PySem.wpAny_typeNameOfWhole_keyiter
def pP:=@PySem.Calls.callWith_builtin
def pQ:=@PySem.F.entry_dict_get
def pR:=@List.mem_singleton
def pS:=@List.set_cons_zero
def pT:=@List.set_cons_succ
def pU:=@PySem.codeAny_mono
def pV:=@List.find?_cons
def pW:=@List.getElem?_eq_none
def pX:=@Array.getElem?_setIfInBounds_self_of_lt
def pY:=@PySem.wpAny_letGo
def pZ:=@PyProof.Rows.boot_max
def c6:=@PySem.F.slot_zip_next
def c7:=@Nat.le_of_ble_eq_true
def c8:=@PyProof.Rows.boot_min
def c9:=@List.flatten_cons
def cc:=@PySem.wpAny_attempt
def cg:=@List.nodup_append
def cj:=@PySem.PassesOwn.leaving
def ck:=@Array.getElem?_eq_some_iff
def cn:=@Array.perm_iff_toList_perm
def cq:=@List.getD_eq_getElem?_getD
def cu:=@PySem.Calls.evalArgs_plain
def cw:=@List.pairwise_iff_getElem
def cx:=@PySem.wpAny_execs_cons
def cy:=@beq_self_eq_true
def cz:=@PySem.wpAny_Tuple_spliced
def cA:=@PySem.Heap.get?_update_ne
def cB:=@PySem.wpAny_comprehension_free
def cC:=@PySem.wpAny_rule
def cD:=@Int.le_of_lt
def cE:=@Nat.zero_add
def cF:=@PySem.wpAny_typeNameOf_keyiter
def cG:=@PyProof.Rows.boot_sorted
def cH:=@PySem.F.args_tuple_iterator_next_1
def cI:=@PySem.Paired.length
def cJ:=@PySem.tupleKind_room_in1
def cK:=@PySem.F.args_dict_get_3
def cL:=@List.getElem?_take
def cM:=@PySem.Code.quiet_builtin
def cO:=@PySem.F.entry_tuple_iterator_next
def cP:=@Array.getElem?_eq_none
def cQ:=@Option.map_eq_some_iff
def cR:=@PySem.wpAny_Return_some
def cT:=@PySem.wpAny_Assign_Name
def cU:=@List.pairwise_map
def cV:=@Nat.le_succ
def cW:=@PySem.wpAny_dictEntries
def cX:=@List.nodup_nil
def cY:=@PySem.call_meetsIn
def cZ:=@PySem.F.type_dict_get
def d6:=@PySem.exec_Assign_Name_used
def d7:=@Int.le_trans
def d8:=@PyProof.Rows.wpS_forRange
def d9:=@PySem.wpAny_isOneOf_keyiter
def de:=@Int.mul_ediv_add_emod
def df:=@List.length_take
def dg:=@List.getElem_mem
def dh:=@PySem.wpAny_updateSeq_pair
def dj:=@PySem.wpAny_pyIter_revIter
def dm:=@List.pairwise_append
def dq:=@PySem.plainId_quiet
def dr:=@or_false
def du:=@beq_eq_false_iff_ne
def dw:=@List.filterMap_cons
def dz:=@if_true
def dA:=@Option.some_ne_none
def dB:=@List.forIn_cons
def dC:=@PySem.wpAny_updateSeq
def dD:=@PySem.W.looks_mroIn
def dE:=@Int.emod_nonneg
def dF:=@PySem.wpAny_pyIter_tuple
def dG:=@List.set_set
def dH:=@PyProof.Rows.pairsOf_size
def dI:=@Int.cast_ofNat_Int
def dJ:=@List.contains_cons
def dL:=@PySem.W.check_slot
def dM:=@Int.emod_lt_of_pos
def dN:=@Bool.and_false
def dO:=@PySem.wpAny_assign_Name
def dP:=@List.reverse_cons
def dQ:=@PySem.wpAny_Call_method
def dR:=@PySem.Obj.cls_mapFields
def dS:=@beq_iff_eq
def dU:=@not_false_eq_true
def dW:=@List.any_cons
def dX:=@PySem.wpAny_onRaise
open PySem.W(methodObj Frag cellsFrom_some codeIn codeRec_of kIn_of keepIn nsIn kitOne kitx_dict findIn InstAt looks_clsIn osa_eq handedIn looks_find tailIn typeIn kitCls specialIn takesIn KitX)
open Nat(le_of_eq ble ble_eq reduceAdd reduceSub reduceLeDiff)
open PySem(KeysOf Pairs)
open PyProof.Rows(neg_int add_str boot_tuple boot_str boot_sum)
namespace PySem.W.Fast
def tw17132361719631252545:=0
def tw16140476157927039392:=0
def tw9899243303750018430:=0
def tw868554530979320955:=0
def tw17229538856606525385:=0
def tw13168849269905024741:=0
def tw6577820227424669346:=0
def tw17949606440139679584:=0
def tw5631530679514746568:=0
def tw14104018290199410080:=0
def tw10080607446245519121:=0
def tw6108034356498436796:=0
def tw14188469656354195787:=0
def tw8189070326260939211:=0
def tw17648041581319042384:=0
def tw8683744783245111922:=0
def tw15398996434834218820:=0
def tw8406355861740564705:=0
def tw5954235104282345351:=0
def tw2725277315809989375:=0
def tw8607430390095459956:=0
def tw3346728044648563397:=0
def tw4087570486926495136:=0
def tw1527279578427349129:=0
def tw7876784529126184148:=0
def tw1740457089159877513:=0
def tw12965709914701903777:=0
def tw16005561264363679521:=0
def tw13788672761515253616:=0
def tw6365214196250484100:=0
def tw9514987659518295339:=0
def tw472233495934910253:=0
def tw5238354882681728044:=0
def tw11162809070608239864:=0
def tw14951196366078977975:=0
def tw17335389464998632079:=0
def tw10136458167549301765:=0
def tw4091146034110533421:=0
def tw10753452784076624904:=0
def tw11689319426203950036:=0
def tw5713176962356449763:=0
def tw3413619540191045309:=0
def tw18323562900035644586:=0
def tw14593369101706396064:=0
def tw4507036073227085483:=0
def tw13739697502669652709:=0
def tw16215594389256380235:=0
def tw15186109881642374869:=0
def tw8293250221709661889:=0
def tw10126005499489472969:=0
end PySem.W.Fast
namespace L2
open PySem PySem.Spec PyProof.Rows
abbrev Key:=Sum Int Str
def k6:Key->Value->Bool
 | .inl k,v=>Value.isInt k v
 | .inr x,v=>Value.isStrOf x v
def MR(w:World):Key->Int
 | .inl k=>hashInt k
 | .inr x=>hashStr w x
theorem vI:∀{k:Key} {v:Value},k6 k v=true->(∃ i t,k=Sum.inl i/\v=Value.int i t)∨(∃ x t,k=Sum.inr x/\v=Value.str x t)
 | .inl i,v,h=>by
  obtain⟨t,e⟩:=Value.isInt_shape (k:=i) (v:=v) h;exact .inl ⟨i,t,rfl,e⟩
 | .inr x,v,h=>by
  obtain⟨t,e⟩:=Value.isStrOf_shape (x:=x) (v:=v) h;exact .inr ⟨x,t,rfl,e⟩
theorem MS(i:Int)(t:Tok):k6 (.inl i) (.int i t)=true:=by simp [k6,Value.isInt]
theorem MT(x:Str)(t:Tok):k6 (.inr x) (.str x t)=true:=by simp [k6,Value.isStrOf]
theorem MU(a b:Int):decide ((Sum.inl a:Key)=Sum.inl b)=(a==b):=by
 by_cases e:a=b
 ·subst e;simp
 ·have h:¬ (Sum.inl a:Key)=Sum.inl b:=fun q=>e (Sum.inl.inj q)
  rw [tN h];exact(du.mpr e).symm
theorem MV(a b:Str):decide ((Sum.inr a:Key)=Sum.inr b)=decide (a=b):=by
 by_cases e:a=b
 ·subst e;simp
 ·have h:¬ (Sum.inr a:Key)=Sum.inr b:=fun q=>e (Sum.inr.inj q)
  rw [tN h,tN e]
theorem MW(a:Int)(b:Str):decide ((Sum.inl a:Key)=Sum.inr b)=false:=tN (fun q=>nomatch q)
theorem MX(a:Str)(b:Int):decide ((Sum.inr a:Key)=Sum.inl b)=false:=tN (fun q=>nomatch q)
def qW(prog:Program)(w:World):PySem.KeyKind prog w Key where
 is:=k6
 hash:=MR w
 inj:=fun v a b ha hb=>by
  rcases vI ha with⟨i,t,rfl,rfl⟩|⟨x,t,rfl,rfl⟩
  ·rcases vI hb with⟨j,u,rfl,e⟩|⟨y,u,rfl,e⟩
   ·injection e with e1 _;rw [e1]
   ·exact nomatch e
  ·rcases vI hb with⟨j,u,rfl,e⟩|⟨y,u,rfl,e⟩
   ·exact nomatch e
   ·injection e with e1 _;rw [e1]
 byValue:=fun k v h=>by
  rcases vI h with⟨i,t,rfl,rfl⟩|⟨x,t,rfl,rfl⟩<;>rfl
 pyHash:=fun hv h=>by
  rcases vI hv with⟨i,t,rfl,rfl⟩|⟨x,t,rfl,rfl⟩
  ·exact wpAny_pyHash_int h
  ·exact wpAny_pyHash_str h
 eqBool:=fun hu hv h=>by
  rcases vI hu with⟨i,t,rfl,rfl⟩|⟨x,t,rfl,rfl⟩
  ·rcases vI hv with⟨j,u,rfl,rfl⟩|⟨y,u,rfl,rfl⟩
   ·rw [MU]at h;exact wpAny_eqBool_int h
   ·rw [MW]at h;exact SeqAt.EqAt.int_str i t y u _ _ _ _ h
  ·rcases vI hv with⟨j,u,rfl,rfl⟩|⟨y,u,rfl,rfl⟩
   ·rw [MX]at h;exact SeqAt.EqAt.str_int x t j u _ _ _ _ h
   ·rw [MV]at h;exact wpAny_eqBool_str h
 «strs»:=fun k x t v h=>by
  rcases vI h with⟨i,u,rfl,e⟩|⟨y,u,rfl,e⟩
  ·exact nomatch e
  ·injection e with e1 _;subst e1;cases v<;>rfl
theorem YE(prog:Program)(w:World)(i:Int)(t:Tok):(qW prog w).is (.inl i) (.int i t)=true:=MS i t
theorem YF(prog:Program)(w:World)(x:Str)(t:Tok):(qW prog w).is (.inr x) (.str x t)=true:=MT x t
inductive V where
 | non|bl (b:Bool)|int (i:Int)|str (x:Str)|byt (b:Array UInt8)|flt (b:UInt64)|ref (a:Addr)|ty (n:String)
 deriving DecidableEq
def RelV:V->Value->Prop
 | .non,u=>u=Value.none
 | .bl b,u=>u=Value.bool b
 | .int i,u=>∃ t,u=Value.int i t
 | .str x,u=>∃ t,u=Value.str x t
 | .byt b,u=>∃ t,u=Value.bytes b t
 | .flt b,u=>∃ t,u=Value.float b t
 | .ref a,u=>u=Value.ref a
 | .ty n,u=>u=Value.type n
abbrev Vals:List V->List Value->Prop:=Paired RelV
theorem Vals.length{xs:List V}{us:List Value}(r:Vals xs us):xs.length=us.length:=cI r
theorem Vals.get:∀{xs:List V} {us:List Value} {i:Nat} {x:V},Vals xs us->xs[i]?=some x->∃ u,us[i]?=some u/\RelV x u
 | _,_,_,_,.nil,e=>by simp at e
 | _,_,0,_,.cons r _,e=>by simp at e;subst e;exact⟨_,rfl,r⟩
 | _,_,i+1,x,.cons _ t,e=>by
  obtain⟨u,h1,h2⟩:=Vals.get (i:=i) (x:=x) t (by simpa using e)
  exact⟨u,by simpa using h1,h2⟩
theorem Vals.set{x:V}{u:Value}(r:RelV x u):∀{xs:List V} {us:List Value} (i:Nat),Vals xs us->Vals (xs.set i x) (us.set i u)
 | _,_,_,.nil=>.nil
 | _,_,0,.cons _ t=>.cons r t
 | _,_,i+1,.cons q t=>.cons q (Vals.set r i t)
theorem Vals.append:∀{xs ys:List V} {us ws:List Value},Vals xs us->Vals ys ws->Vals (xs++ys) (us++ws)
 | _,_,_,_,.nil,s=>s
 | _,_,_,_,.cons r t,s=>.cons r (Vals.append t s)
theorem Vals.take:∀{xs:List V} {us:List Value} (n:Nat),Vals xs us->Vals (xs.take n) (us.take n)
 | _,_,0,_=>.nil
 | _,_,_+1,.nil=>.nil
 | _,_,n+1,.cons r t=>.cons r (Vals.take n t)
theorem Vals.drop:∀{xs:List V} {us:List Value} (n:Nat),Vals xs us->Vals (xs.drop n) (us.drop n)
 | _,_,0,r=>r
 | _,_,_+1,.nil=>.nil
 | _,_,n+1,.cons _ t=>Vals.drop n t
def RelO:Option V->Option Value->Prop
 | some v,some u=>RelV v u
 | none,none=>True
 | _,_=>False
def KV{κ:Type}:List (κ×V)->List (κ×Value)->Prop:=Paired fun(p:κ×V) (q:κ×Value)=>p.1=q.1/\RelV p.2 q.2
def kV:Key->V
 | .inl i=>.int i
 | .inr x=>.str x
inductive HO where
 | lst (xs:List V)
 | tup (xs:List V)
 | dK (kvs:List (Key×V))|dT (kvs:List (List Key×V))
 | set (S:Int->Bool) (n:Nat)
 | ins (C dx:Addr) (fs:List (Str×V))
 | own (x:Addr)
 | xd (fs:List (Str×V))
 | met (f x:Addr)
 | rng (lo hi:Int)
 | frz (o:Obj) (u:HO)
 | tbl (ps:Array Value)
 | ext (φ:Heap->Prop)
abbrev Hp:=Addr->Option HO
def upd(H:Hp)(a:Addr)(o:HO):Hp:=fun b=>if b=a then some o else H b
theorem qN{H:Hp}{a:Addr}{o:HO}:upd H a o a=some o:=by unfold upd;rw [gB rfl]
theorem qt{H:Hp}{a b:Addr}{o:HO}(h:b≠a):upd H a o b=H b:=by unfold upd;rw [gD h]
theorem YG{H:Hp}{a b:Addr}{o u:HO}(h:H a=some o)(h':H b=some u)(d:o≠u):a≠b:=by
 intro e;subst e;rw [h]at h';exact d (fu h')
theorem jy{H:Hp}{a b:Addr}{o:HO}(h:H a=some o)(h':H b=none):a≠b:=by
 intro e;subst e;rw [h]at h';cases h'
section
variable(P:Program)(w:World)
def ObjOk(H:Hp)(h:Heap)(a:Addr):HO->Prop
 | .lst xs=>xs.length<=sizeLine/\∃(its:List Value) (n:Nat),Vals xs its/\h.get? a=some {cls:=.type "list",data:=.seq its.toArray n}
 | .tup xs=>xs.length<=sizeLine/\∃ its:List Value,Vals xs its/\IsTup h a its.toArray
 | .dK kvs=>kvs.length<=sizeLine/\(a==sysModules)=false/\∃ vs,KV kvs vs/\h.DictOf (qW P w) a vs
 | .dT kvs=>kvs.length<=sizeLine/\(a==sysModules)=false/\∃ xs:List (List Key×Addr×Value),
   Paired (fun(p:List Key×V) (q:List Key×Addr×Value)=>p.1=q.1/\H q.2.1=some (.tup (p.1.map kV))/\RelV p.2 q.2.2) kvs xs /\
   ∃ o es ep,h.get? a=some o/\o.ExactDict/\o.data=.dict es ep/\es.toList=xs.map (entryOfKey (tupleKind (qW P w)))/\(xs.map (·.1)).Nodup
 | .set S n=>h.SetOf (intKind P w) a S n
 | .ins C dx fs=>H dx=some (.own a)/\fs.length<=1000/\dx≠a/\h.get? a=some (PySem.W.instObj C dx) /\
   ∃ mA,h.Ns1 dx mA/\(∀ f,RelO (fs.lookup f) (mA f))/\PySem.Within mA (fs.map (·.1))
 | .own _=>∃ o,h.get? a=some o
 | .xd fs=>∃ mA,h.Ns1 a mA/\∀ f,RelO (fs.lookup f) (mA f)
 | .rng lo hi=>∃ t u v,h.get? a=some {cls:=.type "range",data:=.fields #[.int lo t,.int hi u,.int 1 v]}
 | .frz o u=>h.get? a=some o/\ObjOk H h a u
 | .tbl ps=>h.get? a=some {cls:=.none,data:=.fields ps}
 | .met f x=>h.get? a=some (methodObj (.ref f) (.ref x))
 | .ext φ=>φ h/\(∃ o,h.get? a=some o)/\∀ h1 h2:Heap,φ h1->(∀ o,h1.get? a=some o->h2.get? a=some o)->φ h2
def HOk(H:Hp)(h:Heap):Prop:=∀ a o,H a=some o->ObjOk P w H h a o
end
section
variable{P:Program}{w:World}{H H':Hp}{h h':Heap}{a:Addr}{o:HO}
theorem ObjOk.lt(x:ObjOk P w H h a o):a<h.objs.size:=by
 cases o with
 | lst xs=>obtain⟨_,_,_,_,e⟩:=x;exact gv e
 | tup xs=>obtain⟨_,_,_,p⟩:=x;exact p.lt
 | dK kvs=>obtain⟨_,_,_,_,o,_,_,e,_⟩:=x;exact gv e
 | dT kvs=>obtain⟨_,_,_,_,o,_,_,e,_⟩:=x;exact gv e
 | set S n=>obtain⟨o,_,_,_,e,_⟩:=x;exact gv e
 | ins C dx fs=>obtain⟨_,_,_,e,_⟩:=x;exact gv e
 | own y=>obtain⟨_,e⟩:=x;exact gv e
 | xd fs=>obtain⟨_,⟨_,_,_,e,_⟩,_⟩:=x;exact gv e
 | rng lo hi=>obtain⟨_,_,_,e⟩:=x;exact gv e
 | frz ob u=>obtain⟨e,_⟩:=x;exact gv e
 | tbl ps=>exact gv (show h.get? a=some _ from x)
 | met f y=>exact gv (show h.get? a=some _ from x)
 | ext φ=>obtain⟨_,⟨_,e⟩,_⟩:=x;exact gv e
theorem Paired.mapP{α β:Type}{F G:α->β->Prop}:∀{l₁:List α} {l₂:List β},Paired F l₁ l₂->(∀ a b,F a b->G a b)->Paired G l₁ l₂
 | _,_,.nil,_=>.nil
 | _,_,.cons r t,f=>.cons (f _ _ r) (Paired.mapP t f)
theorem ObjOk.stay(x:ObjOk P w H h a o)(k:∀ b u,(b=a∨H b=some (.own a))->h.get? b=some u->h'.get? b=some u)
  (B:∀ b,H b=some (.own a)->H' b=some (.own a))(O:∀ b xs,H b=some (.tup xs)->H' b=some (.tup xs)):ObjOk P w H' h' a o:=by
 induction o with
 | lst xs=>obtain⟨z,its,n,r,e⟩:=x;exact⟨z,its,n,r,k _ _ (.inl rfl) e⟩
 | tup xs=>obtain⟨z,its,r,ob,e,c⟩:=x;exact⟨z,its,r,ob,k _ _ (.inl rfl) e,c⟩
 | dK kvs=>obtain⟨z,y,vs,r,ob,es,ep,e,c⟩:=x;exact⟨z,y,vs,r,ob,es,ep,k _ _ (.inl rfl) e,c⟩
 | dT kvs =>
  obtain⟨z,y,xs,r,ob,es,ep,e,c⟩:=x;exact⟨z,y,xs,Paired.mapP r fun p q z=>⟨z.1,O _ _ z.2.1,z.2.2⟩,ob,es,ep,k _ _ (.inl rfl) e,c⟩
 | set S n=>obtain⟨ob,es,ep,t,e,c⟩:=x;exact⟨ob,es,ep,t,k _ _ (.inl rfl) e,c⟩
 | ins C dx fs =>
  obtain⟨d,z,ne,e,mA,⟨od,es,ep,e2,c⟩,r⟩:=x;exact⟨B _ d,z,ne,k _ _ (.inl rfl) e,mA,⟨od,es,ep,k _ _ (.inr d) e2,c⟩,r⟩
 | own y=>obtain⟨ob,e⟩:=x;exact⟨ob,k _ _ (.inl rfl) e⟩
 | xd fs=>obtain⟨mA,⟨od,es,ep,e,c⟩,r⟩:=x;exact⟨mA,⟨od,es,ep,k _ _ (.inl rfl) e,c⟩,r⟩
 | rng lo hi=>obtain⟨t,u,v,e⟩:=x;exact⟨t,u,v,k _ _ (.inl rfl) e⟩
 | frz ob u ih=>obtain⟨e,q⟩:=x;exact⟨k _ _ (.inl rfl) e,ih q⟩
 | tbl ps =>
  have e:h.get? a=some {cls:=.none,data:=.fields ps}:=x;show h'.get? a=some {cls:=.none,data:=.fields ps};exact k a _ (.inl rfl) e
 | met f y =>
  have e:h.get? a=some (methodObj (.ref f) (.ref y)):=x;show h'.get? a=some (methodObj (.ref f) (.ref y));exact k a _ (.inl rfl) e
 | ext φ=>obtain⟨p,⟨o,e⟩,st⟩:=x;exact⟨st _ _ p fun o q=>k _ _ (.inl rfl) q,⟨o,k _ _ (.inl rfl) e⟩,st⟩
theorem HOk.lt(x:HOk P w H h)(e:H a=some o):a<h.objs.size:=(x a o e).lt
theorem HOk.fresh(x:HOk P w H h)(e:h.objs.size<=a):H a=none:=by
 cases q:H a with
 | none=>rfl
 | some u=>exact absurd (gG (x.lt q) e) (tB _)
theorem HOk.kept(x:HOk P w H h)(k:∀ b u,h.get? b=some u->h'.get? b=some u):HOk P w H h':=fun a o e =>
 (x a o e).stay (fun b u _ q=>k b u q) (fun _ q=>q) fun _ _ q=>q
theorem HOk.laid(x:HOk P w H h)(k:∀ b u,h.get? b=some u->h'.get? b=some u)(hp:h.objs.size<=a)(z:ObjOk P w (upd H a o) h' a o):HOk P w (upd H a o) h':=fun b u e=>by
 have hn:=x.fresh hp;by_cases hb:b=a
 ·subst hb;rw [qN]at e;cases e;exact z
 ·rw [qt hb]at e;exact(x b u e).stay (fun c v _ q=>k c v q) (fun c q=>by rw [qt (jy q hn)];exact q) fun c xs q=>by rw [qt (jy q hn)];exact q
end
def Rd(H:Hp)(a:Addr)(u:HO):Prop:=H a=some u∨∃ o,H a=some (.frz o u)
theorem Rd.of{H:Hp}{a:Addr}{u:HO}(h:H a=some u):Rd H a u:=.inl h
theorem Rd.ok{P:Program}{w:World}{H:Hp}{h:Heap}{a:Addr}{u:HO}(r:Rd H a u)(x:HOk P w H h):ObjOk P w H h a u:=by
 rcases r with r|⟨o,r⟩
 ·exact x a u r
 ·obtain⟨_,q⟩:=x a _ r;exact q
def Mut:Option HO->Prop
 | some (.lst _)=>True
 | some (.dK _)=>True
 | some (.dT _)=>True
 | some (.set _ _)=>True
 | some (.ins _ _ _)=>True
 | some (.ext _)=>True
 | _=>False
section
variable{P:Program}{w:World}{H:Hp}{h h':Heap}{x e:Addr}{o':HO}
theorem HOk.write(ok:HOk P w H h)(U:Mut (H x))(Z:e=x∨H e=some (.own x))(k:∀ b u,b≠e->h.get? b=some u->h'.get? b=some u)(W:∃ u,h'.get? e=some u)
  (Y:ObjOk P w (upd H x o') h' x o'):HOk P w (upd H x o') h':=fun b u q=>by
 have B:∀ c y,H c=some (.own y)->c≠x:=fun c y r z=>by subst z;rw [r]at U;exact U
 have O:∀ c xs,H c=some (.tup xs)->c≠x:=fun c xs r z=>by subst z;rw [r]at U;exact U
 by_cases hb:b=x
 ·subst hb;rw [qN]at q;cases q;exact Y
 ·rw [qt hb]at q;by_cases hbe:b=e
  ·have q':H b=some (.own x):=by
    rcases Z with z|z
    ·exact absurd (hbe.trans z) hb
    ·rw [hbe];exact z
   rw [q]at q';cases q';obtain⟨v,hv⟩:=W;exact⟨v,by rw [hbe];exact hv⟩
  ·refine(ok b u q).stay (fun c v hc r=>k c v ?_ r) (fun c r=>by rw [qt (B c b r)];exact r) fun c xs r=>by rw [qt (O c xs r)];exact r
   rcases hc with rfl|hc
   ·exact hbe
   ·rintro rfl;rcases Z with z|z
    ·exact B c b hc z
    ·rw [hc]at z;cases z;exact hb rfl
end
structure Un(fs ex:List Addr)(H H':Hp)(h h':Heap):Prop where
 keep:∀ b o,h.get? b=some o->H b=none->b∉fs->b∉ex->h'.get? b=some o
 slot:∀ b o,h.get? b=some o->H b=none->b∈fs->b∉ex->∃ sl,h'.get? b=some {o with slots:=sl}
 free:∀ b o,h.get? b=some o->H b=none->b∉ex->H' b=none
 there:∀ b o,h.get? b=some o->b∉ex->∃ o',h'.get? b=some o'
 tups:∀ b xs,H b=some (.tup xs)->H' b=some (.tup xs)
 frzs:∀ b o u,H b=some (.frz o u)->H' b=some (.frz o u)
 tbls:∀ b ps,H b=some (.tbl ps)->∃ more,H' b=some (.tbl (ps++more))
section
variable{fs fs' ex ex':List Addr}{H H1 H2:Hp}{h h1 h2 h':Heap}{a x e:Addr}{o:HO}
theorem Un.any(u:Un fs ex H H1 h h1){b:Addr}{ob:Obj}(q:h.get? b=some ob)(n:H b=none)(z:b∉ex):∃ sl,h1.get? b=some {ob with slots:=sl}:=by
 by_cases hb:b∈fs
 ·exact u.slot b ob q n hb z
 ·exact⟨ob.slots,u.keep b ob q n hb z⟩
theorem Un.kept(k:∀ b u,h.get? b=some u->h'.get? b=some u):Un fs ex H H h h' :=
 ⟨fun b ob q _ _ _=>k b ob q,fun b ob q _ _ _=>⟨ob.slots,k b ob q⟩,fun _ _ _ n _=>n,fun b ob q _=>⟨ob,k b ob q⟩,fun _ _ q=>q,fun _ _ _ q=>q,fun _ ps q=>⟨#[],by rw [q];simp⟩⟩
theorem Un.refl:Un fs ex H H h h:=Un.kept fun _ _ q=>q
theorem Un.laid(k:∀ b u,h.get? b=some u->h'.get? b=some u)(hp:h.objs.size<=a)(z:H a=none):Un fs ex H (upd H a o) h h' where
 keep:=fun b u q _ _ _=>k b u q
 slot:=fun b u q _ _ _=>⟨u.slots,k b u q⟩
 free:=fun b u q n _=>by rw [qt (gP (gG (gv q) hp))];exact n
 there:=fun b u q _=>⟨u,k b u q⟩
 tups:=fun b xs q=>by rw [qt (jy q z)];exact q
 frzs:=fun b u xs q=>by rw [qt (jy q z)];exact q
 tbls:=fun b ps q=>⟨#[],by rw [qt (jy q z),q];simp⟩
theorem Un.write(B:Mut (H x))(U:e=x∨H e=some (.own x))(k:∀ b u,b≠e->h.get? b=some u->h'.get? b=some u)(O:∃ u,h'.get? e=some u):Un fs ex H (upd H x o) h h':=by
 have hx:∀ b,H b=none->b≠x:=fun b n z=>by subst z;rw [n]at B;exact B
 have hb:∀ b,H b=none->b≠e:=fun b n z=>by
  subst z;rcases U with r|r
  ·exact hx b n r
  ·rw [n]at r;cases r
 have hm:∀ b u,H b=some u->¬ Mut (some u)->b≠x:=fun b u q nm z=>by subst z;rw [q]at B;exact nm B
 refine⟨fun b u q n _ _=>k b u (hb b n) q,fun b u q n _ _=>⟨u.slots,k b u (hb b n) q⟩,fun b u q n _=>by rw [qt (hx b n)];exact n,fun b u q _=>?_,
  fun b xs q=>by rw [qt (hm b _ q fun z=>z)];exact q,fun b u xs q=>by rw [qt (hm b _ q fun z=>z)];exact q,fun b ps q=>⟨#[],by rw [qt (hm b _ q fun z=>z),q];simp⟩⟩
 by_cases hbe:b=e
 ·subst hbe;exact O
 ·exact⟨u,k b u hbe q⟩
end
def trk(h:Heap)(H:Hp):List Addr:=(List.range h.objs.size).filter fun a=>(H a).isSome
def w6(h:Heap)(H:Hp):Heap:=PySem.W.hideAll h (trk h H)
theorem MY(h:Heap)(H:Hp):(w6 h H).objs.size=h.objs.size:=PySem.W.hideAll_size _ _
theorem MZ{h:Heap}{H:Hp}{b:Addr}{o:Obj}(e:h.get? b=some o)(n:H b=none):(w6 h H).get? b=some o :=
 PySem.W.hideAll_get _ e fun hm=>by
  have q:(H b).isSome=true:=(List.mem_filter.mp hm).2;rw [n]at q;simp at q
theorem G0{h:Heap}{H:Hp}{b:Addr}{o:Obj}(e:(w6 h H).get? b=some o):h.get? b=some o/\H b=none:=by
 have e':h.get? b=some o:=PySem.W.of_hideAll (trk h H) e;refine⟨e',?_⟩;cases q:H b with
 | none=>rfl
 | some x =>
  have hm:b∈trk h H:=List.mem_filter.mpr ⟨List.mem_range.mpr (gv e'),by simp [q]⟩
  have z:(w6 h H).get? b=none:=PySem.W.hideAll_none (trk h H) hm;rw [z]at e;cases e
def G5(g h:Heap)(L:Addr):List (Addr×Obj):=(List.range h.objs.size).filterMap fun a=>if a=L∨(g.get? a).isSome=true then none else(h.get? a).map fun o=>(a,o)
def rest(g h:Heap)(L d:Addr):List (Addr×Obj):=(G5 g h L).filter fun p=>decide (p.1≠d)
structure Mod(K:Frag)(mg:Str->Option Value)(base:Heap):Prop where
 kin:K.In base
 glob:base.Ns mainGlobals mg
 blt:∃ mb,base.Ns builtinsNs mb/\∀ x:Str,x≠"__name__"->mb x=bootBuiltins x
 nolimit:base.NoLimit
/-- the context: a def's body (or a comprehension's block) running. base: fixed through the whole law;s₀,H₀: the entry;outer: the frames whose slots others may change (a def's callers);stack: all frames that run;
   ex: iterators that were made ahead of the entry and are walked here (a comprehension's);fn: the names whose cells were made at the entry (a def: all;a comprehension's block: its own);calm: not jX an except suite;pn: pins that every state bears;xe: what is wanted of an exception that leaves the code -/
structure Cx where
 prog:Program
 w:World
 K:Frag
 mg:Str->Option Value
 base:Heap
 A:Around
 N:List Str
 s₀:Shared
 H₀:Hp
 env:Env
 outer:List Env
 stack:List Env
 ex:List Addr
 fn:Str->Bool
 calm:Bool
 pn:List (Addr×Obj)
 xe:Value->Shared->Prop
def frs(l:List Env):List Addr:=l.filterMap (·.frame)
abbrev Cx.fs(X:Cx):List Addr:=frs X.outer
def Vis(z:Scope)(x:Str):Prop:=z.names.lookup x=some .local∨z.names.lookup x=some .cell∨z.names.lookup x=some .free
def Loc(z:Scope)(x:Str):Prop:=z.names.lookup x=some .local∨z.names.lookup x=some .cell
def Look(env:Env)(h:Heap)(m:Str->Option Value)(x:Str)(u:Value):Prop :=
 (env.kindOf x=some .local/\m x=some u)∨((env.kindOf x=some .cell∨env.kindOf x=some .free)/\∃ c,env.cells.lookup x=some c/\h.IsCell c (some u))
structure Cx.Ok(X:Cx):Prop where
 mod:Mod X.K X.mg X.base
 kind:X.env.scope.kind=.function
 glob:X.env.globals=mainGlobals
 blt:X.env.builtins=builtinsNs
 above:X.s₀.heap.objs.size<=X.env.locals
 inj:∀ x y c,X.env.cells.lookup x=some c->X.env.cells.lookup y=some c->x=y
 has:∀ x,(X.env.kindOf x=some .cell∨X.env.kindOf x=some .free)->∃ c,X.env.cells.lookup x=some c
 cab:∀ x c,X.fn x=true->X.env.cells.lookup x=some c->X.s₀.heap.objs.size<=c
 hd:X.calm=true->X.A.handled=none
 frames:X.A.frames=some X.stack
 stk:X.stack=X.outer∨(X.stack=X.env::X.outer/\X.env.frame=some X.env.locals)
 exf:∀ b∈X.ex,b≠X.env.locals/\∀ x c,X.env.cells.lookup x=some c->c≠b
 bs:∀ b o,X.base.get? b=some o->X.s₀.heap.get? b=some o/\X.H₀ b=none
 bsz:X.base.objs.size<=X.s₀.heap.objs.size
 noex:∀ b o,X.base.get? b=some o->b∉X.ex
 exfs:∀ b∈X.ex,b∉X.fs
 funs:X.s₀.heap.FunFrames X.base X.outer
 frf:∀ b∈X.fs,X.H₀ b=none
structure Inv(X:Cx)(pins:List (Addr×Obj))(σ:List (Option V))(H:Hp)(s:Shared):Prop where
 ok:X.Ok
 os:s.os=X.s₀.os
 bare:AllBare s.gens
 base:Un X.fs X.ex X.H₀ H X.s₀.heap s.heap
 loc:∃ m,s.heap.Ns X.env.locals m/\∀(i:Nat) (x:Str) (v:V),X.N[i]?=some x->σ[i]?=some (some v)->Vis X.env.scope x->∃ u,RelV v u/\Look X.env s.heap m x u
 cell:∀ x c,X.env.cells.lookup x=some c->∃ v,s.heap.IsCell c v
 free:H X.env.locals=none
 freeC:∀ x c,X.env.cells.lookup x=some c->H c=none
 pin:∀ p∈X.pn++pins,s.heap.get? p.1=some p.2/\H p.1=none/\p.1≠X.env.locals/\p.1∉X.fs/\∀ v,p.2.data≠.cell v
 hok:HOk X.prog X.w H s.heap
 len:σ.length=X.N.length
section
variable{X:Cx}{pins:List (Addr×Obj)}{σ:List (Option V)}{H H':Hp}{s:Shared}{h':Heap}
theorem Cx.Ok.nofr(z:X.Ok){b:Addr}{o:Obj}(e:X.base.get? b=some o):b∉X.fs:=fun hb=>by
 have:=(z.funs.mem hb).1;rw [e]at this;cases this
theorem Inv.bs(I:Inv X pins σ H s):∀ b o,X.base.get? b=some o->s.heap.get? b=some o/\H b=none:=fun b o e =>
 ⟨I.base.keep b o (I.ok.bs b o e).1 (I.ok.bs b o e).2 (I.ok.nofr e) (I.ok.noex b o e),I.base.free b o (I.ok.bs b o e).1 (I.ok.bs b o e).2 (I.ok.noex b o e)⟩
theorem Inv.bk(I:Inv X pins σ H s):∀ b o,X.base.get? b=some o->s.heap.get? b=some o:=fun b o e=>(I.bs b o e).1
theorem Inv.mod(I:Inv X pins σ H s):Mod X.K X.mg X.base:=I.ok.mod
theorem Inv.kIn(I:Inv X pins σ H s):X.K.In s.heap:=I.ok.mod.kin.keeps I.bk
theorem Inv.lt(I:Inv X pins σ H s):X.env.locals<s.heap.objs.size:=let ⟨_,hn,_⟩:=I.loc;hn.lt
theorem Inv.sz(I:Inv X pins σ H s):X.s₀.heap.objs.size<=s.heap.objs.size:=t8 I.ok.above (tF I.lt)
theorem Inv.nofs(I:Inv X pins σ H s){a:Addr}(h:s.heap.objs.size<=a):a∉X.fs:=fun hb=>by
 obtain⟨_,o,ho,_⟩:=I.ok.funs.mem hb;exact absurd (gG (gv ho) (t8 I.sz h)) (tB _)
theorem Inv.cne(I:Inv X pins σ H s):∀ x c,X.env.cells.lookup x=some c->c≠X.env.locals:=fun x c e z=>by
 obtain⟨v,o,ho,hd⟩:=I.cell x c e;obtain⟨m,⟨o',es,ep,B,O,_⟩,_⟩:=I.loc;rw [z,B]at ho;cases ho;rw [O]at hd;cases hd
theorem Inv.funs(I:Inv X pins σ H s):s.heap.FunFrames X.base X.outer:=by
 have B:∀(l:List Env),(∀ b∈frs l,b∈X.fs)->X.s₀.heap.FunFrames X.base l->s.heap.FunFrames X.base l:=by
  intro l
  induction l with
  | nil=>intro _ _;trivial
  | cons env r ih =>
   intro hs hl;obtain⟨hk,⟨L,o,hf,hn,ho,hd⟩,hr⟩:=hl;have hL:L∈X.fs:=hs L (by unfold frs;rw [dw,hf];exact gY)
   obtain⟨sl,e⟩:=I.base.slot L o ho (I.ok.frf L hL) hL fun z=>I.ok.exfs L z hL
   exact⟨hk,⟨L,_,hf,hn,e,hd⟩,ih (fun b hb=>hs b (by unfold frs;rw [dw,hf];exact gp _ hb)) hr⟩
 exact B X.outer (fun _ hb=>hb) I.ok.funs
theorem Inv.stack(I:Inv X pins σ H s):s.heap.FunFrames X.base X.stack:=by
 rcases I.ok.stk with e|⟨e,hf⟩
 ·rw [e];exact I.funs
 ·rw [e];obtain⟨m,hn,_⟩:=I.loc;refine .cons (by rw [I.ok.kind];decide) hf hn ?_ I.funs
  exact Heap.get?_none_of_le (t8 I.ok.bsz I.ok.above)
theorem Inv.stkSub(I:Inv X pins σ H s):∀ b∈frs X.stack,b∈X.env.locals::X.fs:=fun b hb=>by
 rcases I.ok.stk with e|⟨e,hf⟩
 ·rw [e]at hb;exact gp _ hb
 ·rw [e]at hb;unfold frs at hb;rw [dw,hf]at hb;exact hb
theorem Inv.stkFree(I:Inv X pins σ H s):∀ b∈frs X.stack,H b=none:=fun b hb=>by
 rcases gl.mp (I.stkSub b hb)with e|hb
 ·rw [e];exact I.free
 ·obtain⟨_,o,ho,_⟩:=I.ok.funs.mem hb;exact I.base.free b o ho (I.ok.frf b hb) fun z=>I.ok.exfs b z hb
theorem Inv.step{g':Array GenState}{t':Nat}{d':Drawn}{ch:List Addr}(I:Inv X pins σ H s)
  (B:∀ b∈ch,(b∈X.ex∨X.s₀.heap.objs.size<=b)/\b≠X.env.locals/\(∀ x c,X.env.cells.lookup x=some c->c≠b)/\∀ p∈X.pn++pins,p.1≠b)
  (keep:∀ b o,b≠X.env.locals->b∉X.fs->b∉ch->s.heap.get? b=some o->H b=none->h'.get? b=some o)
  (slot:∀ b o,b≠X.env.locals->b∈X.fs->b∉ch->s.heap.get? b=some o->H b=none->∃ sl,h'.get? b=some {o with slots:=sl})(free:∀ b o,b∉ch->s.heap.get? b=some o->H b=none->H' b=none)
  (there:∀ b o,b∉ch->s.heap.get? b=some o->∃ o',h'.get? b=some o')
  (tups:∀ b xs,H b=some (.tup xs)->H' b=some (.tup xs))(frzs:∀ b o u,H b=some (.frz o u)->H' b=some (.frz o u))(tbls:∀ b ps,H b=some (.tbl ps)->∃ more,H' b=some (.tbl (ps++more)))
  (ns:∀ m,s.heap.Ns X.env.locals m->h'.Ns X.env.locals m)(Z:HOk X.prog X.w H' h')(hg:AllBare g') :
  Inv X pins σ H' {s with heap:=h',gens:=g',drawn:=d',toks:=t'}:=by
 have Y:∀ b o,X.s₀.heap.get? b=some o->b≠X.env.locals:=fun b o e=>gP (gG (gv e) I.ok.above)
 have W:∀ b o,X.s₀.heap.get? b=some o->b∉X.ex->b∉ch:=fun b o e hx hb=>by
  rcases(B b hb).1 with z|z
  ·exact hx z
  ·exact absurd (gG (gv e) z) (tB _)
 have O:∀ x c,X.env.cells.lookup x=some c->∀ v,s.heap.IsCell c v->h'.IsCell c v:=fun x c e v ⟨o,ho,hd⟩=>by
  have U:c∉ch:=fun z=>(B c z).2.2.1 x c e rfl
  by_cases hc:c∈X.fs
  ·obtain⟨sl,q⟩:=slot c o (I.cne x c e) hc U ho (I.freeC x c e);exact⟨_,q,hd⟩
  ·exact⟨o,keep c o (I.cne x c e) hc U ho (I.freeC x c e),hd⟩
 refine⟨I.ok,I.os,hg,⟨fun b o e n hb hx=>?_,fun b o e n hb hx=>?_,fun b o e n hx=>?_,fun b o e hx=>?_,fun b xs e=>tups b xs (I.base.tups b xs e),fun b o xs e=>frzs b o xs (I.base.frzs b o xs e),fun b ps e=>?_⟩,?_,fun x c e=>?_,?_,fun x c e=>?_,fun p hp=>?_,Z,I.len⟩
 ·exact keep b o (Y b o e) hb (W b o e hx) (I.base.keep b o e n hb hx) (I.base.free b o e n hx)
 ·obtain⟨sl,e1⟩:=I.base.slot b o e n hb hx;obtain⟨sl',e2⟩:=slot b _ (Y b o e) hb (W b o e hx) e1 (I.base.free b o e n hx);exact⟨sl',e2⟩
 ·obtain⟨o',e1⟩:=I.base.there b o e hx;exact free b o' (W b o e hx) e1 (I.base.free b o e n hx)
 ·obtain⟨o',e1⟩:=I.base.there b o e hx;exact there b o' (W b o e hx) e1
 ·obtain⟨m1,e1⟩:=I.base.tbls b ps e;obtain⟨m2,e2⟩:=tbls b _ e1;exact⟨m1++m2,by rw [e2,Array.append_assoc]⟩
 ·obtain⟨m,hn,hl⟩:=I.loc;refine⟨m,ns m hn,fun i x v e1 e2 e3=>?_⟩
  obtain⟨u,r,l⟩:=hl i x v e1 e2 e3;refine⟨u,r,?_⟩;rcases l with l|⟨k,c,e,z⟩
  ·exact .inl l
  ·exact .inr ⟨k,c,e,O x c e _ z⟩
 ·obtain⟨v,z⟩:=I.cell x c e;exact⟨v,O x c e v z⟩
 ·obtain⟨m,⟨o,_,_,ho,_⟩,_⟩:=I.loc;exact free _ o (fun z=>(B _ z).2.1 rfl) ho I.free
 ·obtain⟨v,o,ho,hd⟩:=I.cell x c e;exact free c o (fun z=>(B c z).2.2.1 x c e rfl) ho (I.freeC x c e)
 ·obtain⟨e,n,ne,nf,d⟩:=I.pin p hp;have U:p.1∉ch:=fun z=>(B p.1 z).2.2.2 p hp rfl
  exact⟨keep p.1 p.2 ne nf U e n,free p.1 p.2 U e n,ne,nf,d⟩
theorem Inv.un{t':Nat}(I:Inv X pins σ H s)(u:Un X.fs [] H H' s.heap h')(O:HOk X.prog X.w H' h'):Inv X pins σ H' {s with heap:=h',toks:=t'}:=by
 obtain⟨m,⟨o,es,ep,ho,r⟩,_⟩:=id I.loc;obtain⟨sl,hL⟩:=u.any ho I.free (by simp)
 exact I.step (g':=s.gens) (d':=s.drawn) (ch:=[]) (fun _ z=>nomatch z) (fun b o _ hb _ e n=>u.keep b o e n hb (by simp)) (fun b o _ hb _ e n=>u.slot b o e n hb (by simp)) (fun b o _ e n=>u.free b o e n (by simp)) (fun b o _ e=>u.there b o e (by simp)) u.tups u.frzs u.tbls (fun m' hm=>by
  obtain⟨o',U,W,B,r'⟩:=hm;rw [ho]at B;cases B;exact⟨_,U,W,hL,r'⟩) O I.bare
theorem Inv.call{g':Array GenState}{t':Nat}{d':Drawn}{ch:List Addr}(I:Inv X pins σ H s)(u:Un (frs X.stack) ch H H' s.heap h')(U:HOk X.prog X.w H' h')(Z:AllBare g')
  (B:∀ b∈ch,(b∈X.ex∨X.s₀.heap.objs.size<=b)/\b≠X.env.locals/\(∀ x c,X.env.cells.lookup x=some c->c≠b)/\∀ p∈X.pn++pins,p.1≠b) :
  Inv X pins σ H' {s with heap:=h',gens:=g',drawn:=d',toks:=t'}:=by
 obtain⟨m,⟨o,es,ep,ho,r⟩,_⟩:=id I.loc;obtain⟨sl,hL⟩:=u.any ho I.free fun z=>(B _ z).2.1 rfl
 exact I.step (ch:=ch) B (fun b o hL hb hc e n=>u.keep b o e n (fun z=>(gl.mp (I.stkSub b z)).elim hL hb) hc) (fun b o _ _ hc e n=>u.any e n hc) (fun b o hc e n=>u.free b o e n hc) (fun b o hc e=>u.there b o e hc) u.tups u.frzs u.tbls (fun m' hm=>by
  obtain⟨o',W,Y,O,r'⟩:=hm;rw [ho]at O;cases O;exact⟨_,W,Y,hL,r'⟩) U Z
theorem Inv.turned{t':Nat}{it:Addr}(I:Inv X pins σ H s)(k:∀ b o,b≠it->s.heap.get? b=some o->h'.get? b=some o)(U:H it=none)(O:it≠X.env.locals)
  (h1:it∈X.ex∨X.s₀.heap.objs.size<=it)(h2:∀ x c,X.env.cells.lookup x=some c->c≠it)(W:∀ p∈X.pn++pins,p.1≠it):Inv X pins σ H {s with heap:=h',toks:=t'}:=by
 have B:∀ b u,H b=some u->b≠it:=fun b u e z=>by rw [z,U]at e;cases e
 refine I.step (g':=s.gens) (d':=s.drawn) (ch:=[it]) (fun b hb=>?_) (fun b o _ _ hc e _=>k b o (fun z=>hc (by simp [z])) e) (fun b o _ _ hc e _=>⟨o.slots,k b o (fun z=>hc (by simp [z])) e⟩) (fun _ _ _ _ n=>n)
  (fun b o hc e=>⟨o,k b o (fun z=>hc (by simp [z])) e⟩) (fun _ _ e=>e) (fun _ _ _ e=>e) (fun b ps e=>⟨#[],by rw [e];simp⟩) (fun m hm=>?_) (fun b u e=>?_) I.bare
 ·have e:b=it:=by simpa using hb
  subst e;exact⟨h1,O,h2,W⟩
 ·obtain⟨o,es,ep,ho,r⟩:=hm;exact⟨o,es,ep,k _ o (hG O) ho,r⟩
 ·refine(I.hok b u e).stay (fun c v hc q=>k c v ?_ q) (fun _ q=>q) fun _ _ q=>q
  rcases hc with z|z
  ·rw [z];exact B b u e
  ·exact B c _ z
theorem Inv.tok(I:Inv X pins σ H s)(t:Nat):Inv X pins σ H {s with toks:=t}:=I.un (h':=s.heap) (t':=t) Un.refl I.hok
theorem Inv.kept{t':Nat}(I:Inv X pins σ H s)(k:∀ b u,s.heap.get? b=some u->h'.get? b=some u):Inv X pins σ H {s with heap:=h',toks:=t'}:=I.un (Un.kept k) (I.hok.kept k)
theorem Inv.laid{a:Addr}{o:HO}{t':Nat}(I:Inv X pins σ H s)(k:∀ b u,s.heap.get? b=some u->h'.get? b=some u)(hp:s.heap.objs.size<=a)(z:ObjOk X.prog X.w (upd H a o) h' a o) :
  Inv X pins σ (upd H a o) {s with heap:=h',toks:=t'}:=I.un (Un.laid k hp (I.hok.fresh hp)) (I.hok.laid k hp z)
theorem Inv.write{x e:Addr}{o:HO}{t':Nat}(I:Inv X pins σ H s)(O:Mut (H x))(U:e=x∨H e=some (.own x))(k:∀ b u,b≠e->s.heap.get? b=some u->h'.get? b=some u)(z:∃ u,h'.get? e=some u)
  (B:ObjOk X.prog X.w (upd H x o) h' x o):Inv X pins σ (upd H x o) {s with heap:=h',toks:=t'}:=I.un (Un.write O U k z) (I.hok.write O U k z B)
theorem Inv.pins_of{B:List (Addr×Obj)}(I:Inv X pins σ H s)(h:∀ p∈B,s.heap.get? p.1=some p.2/\H p.1=none/\p.1≠X.env.locals/\p.1∉X.fs/\∀ v,p.2.data≠.cell v):Inv X B σ H s :=
 ⟨I.ok,I.os,I.bare,I.base,I.loc,I.cell,I.free,I.freeC,fun p hp=>(tm.mp hp).elim (fun z=>I.pin p (h9 _ z)) (h p),I.hok,I.len⟩
theorem YH{N:List Str}(z:N.Nodup){i j:Nat}{x:Str}(a:N[i]?=some x)(b:N[j]?=some x):i=j:=by
 obtain⟨h1,e1⟩:=gu.mp a;obtain⟨h2,e2⟩:=gu.mp b;exact(List.getElem_inj z).mp (e1.trans e2.symm)
theorem Jg{M:Model}{A:Around}{E:Value->Shared->Prop}{i:Nat}{x:Str}{v:V}{u:Value}{Q:Unit->Shared->Prop}(I:Inv X pins σ H s)(hN:X.N.Nodup)(hi:X.N[i]?=some x)(O:Loc X.env.scope x)(r:RelV v u)
  (h:∀ s',Inv X pins (σ.set i (some v)) H s'->(∃ a,Heap.SameBut a s.heap s'.heap/\(a=X.env.locals∨X.env.cells.lookup x=some a))->Q () s')(hf:X.fn x=true∨X.env.scope.names.lookup x=some .local:=by trivial):wpAny M A (storeName X.env x u) Q E s:=by
 obtain⟨m,hn,hl⟩:=id I.loc;have h3:(X.env.scope.kind==.class||(X.env.scope.kind==.module&&X.env.locals != X.env.globals))=false:=by rw [I.ok.kind];rfl
 have W:i<σ.length:=by rw [I.len];exact(gu.mp hi).1
 have cne:=I.cne;have B:∀{a:Addr} {h':Heap},(∃ o,s.heap.get? a=some o/\H a=none)->Heap.SameBut a s.heap h'->HOk X.prog X.w H h':=fun{a h'} ha hs b ob e=>by
  obtain⟨_,_,U⟩:=ha;refine(I.hok b ob e).stay (fun c w' hc q=>(hs.2 c ?_).trans q) (fun _ q=>q) fun _ _ q=>q
  rintro rfl;rcases hc with rfl|hc
  ·rw [U]at e;cases e
  ·rw [U]at hc;cases hc
 rcases O with hk|hk
 ·refine wpAny_storeName_local hk hn (fun h' hn' hs=>?_) h3
  obtain⟨oL,_,_,hoL,_⟩:=id hn;refine h _ ⟨I.ok,I.os,I.bare,⟨fun b o e n hb O=>?_,fun b o e n hb O=>?_,I.base.free,fun b o e O=>?_,I.base.tups,I.base.frzs,I.base.tbls⟩,⟨_,hn',fun j y v' e1 e2 e3=>?_⟩,fun y c e=>?_,I.free,I.freeC,fun p hp=>?_,B ⟨oL,hoL,I.free⟩ hs,by simpa using I.len⟩ ⟨_,hs,.inl rfl⟩
  ·exact(hs.2 b (gP (gG (gv e) I.ok.above))).trans (I.base.keep b o e n hb O)
  ·obtain⟨sl,e1⟩:=I.base.slot b o e n hb O;exact⟨sl,(hs.2 b (gP (gG (gv e) I.ok.above))).trans e1⟩
  ·obtain⟨o',e1⟩:=I.base.there b o e O;exact⟨o',(hs.2 b (gP (gG (gv e) I.ok.above))).trans e1⟩
  ·by_cases hj:j=i
   ·subst hj;rw [hi]at e1;cases e1;rw [gZ W]at e2;cases e2;exact⟨u,r,.inl ⟨hk,by simp⟩⟩
   ·rw [gM (hG hj)]at e2;obtain⟨u',r',q⟩:=hl j y v' e1 e2 e3;refine⟨u',r',?_⟩;rcases q with⟨k,e⟩|⟨k,c,e,z⟩
    ·refine .inl ⟨k,?_⟩;have:y≠x:=fun e=>hj (YH hN e1 (e▸hi))
     simp [this,e]
    ·exact .inr ⟨k,c,e,z.sameBut hs (cne y c e)⟩
  ·obtain⟨w',z⟩:=I.cell y c e;exact⟨w',z.sameBut hs (cne y c e)⟩
  ·obtain⟨e,n,ne,nf,d⟩:=I.pin p hp;exact⟨(hs.2 p.1 ne).trans e,n,ne,nf,d⟩
 ·have Y:X.fn x=true:=by
   rcases hf with z|z
   ·exact z
   ·rw [z]at hk;cases hk
  obtain⟨c,hc⟩:=I.ok.has x (.inl hk);obtain⟨w',z⟩:=I.cell x c hc;refine wpAny_storeName_cell I.ok.kind hk hc z (fun h' Z hs=>?_)
  obtain⟨oc,hoc,h4⟩:=id z;refine h {s with heap:=h'} ⟨I.ok,I.os,I.bare,⟨fun b o e n hb O=>?_,fun b o e n hb O=>?_,I.base.free,fun b o e O=>?_,I.base.tups,I.base.frzs,I.base.tbls⟩,⟨m,hn.sameBut hs (hG (cne x c hc)),fun j y v' e1 e2 e3=>?_⟩,fun y c' e=>?_,I.free,I.freeC,fun p hp=>?_,B ⟨oc,hoc,I.freeC x c hc⟩ hs,by simpa using I.len⟩ ⟨c,hs,.inr hc⟩
  ·exact(hs.2 b (gP (gG (gv e) (I.ok.cab x c Y hc)))).trans (I.base.keep b o e n hb O)
  ·obtain⟨sl,e1⟩:=I.base.slot b o e n hb O;exact⟨sl,(hs.2 b (gP (gG (gv e) (I.ok.cab x c Y hc)))).trans e1⟩
  ·obtain⟨o',e1⟩:=I.base.there b o e O;exact⟨o',(hs.2 b (gP (gG (gv e) (I.ok.cab x c Y hc)))).trans e1⟩
  ·by_cases hj:j=i
   ·subst hj;rw [hi]at e1;cases e1;rw [gZ W]at e2;cases e2;exact⟨u,r,.inr ⟨.inl hk,c,hc,Z⟩⟩
   ·rw [gM (hG hj)]at e2;obtain⟨u',r',q⟩:=hl j y v' e1 e2 e3;refine⟨u',r',?_⟩;rcases q with q|⟨k,c',e,z'⟩
    ·exact .inl q
    ·refine .inr ⟨k,c',e,z'.sameBut hs ?_⟩;rintro rfl;exact hj (YH hN e1 (I.ok.inj _ _ _ e hc▸hi))
  ·by_cases hcc:c'=c
   ·subst hcc;exact⟨_,Z⟩
   ·obtain⟨w2,z2⟩:=I.cell y c' e;exact⟨w2,z2.sameBut hs hcc⟩
  ·obtain⟨e,n,ne,nf,d⟩:=I.pin p hp;refine⟨(hs.2 p.1 ?_).trans e,n,ne,nf,d⟩;intro q;rw [q,hoc]at e;have q':oc=p.2:=fu e;exact d w' (by rw [<- q'];exact h4)
theorem ym{M:Model}{A:Around}{E:Value->Shared->Prop}{i:Nat}{x:Str}{v:V}{u:Value}{Q:Unit->Shared->Prop}(I:Inv X pins σ H s)(z:X.N.Nodup)(hi:X.N[i]?=some x)(B:Loc X.env.scope x)(r:RelV v u)
  (h:∀ s',Inv X pins (σ.set i (some v)) H s'->Q () s')(O:X.fn x=true∨X.env.scope.names.lookup x=some .local:=by trivial):wpAny M A (storeName X.env x u) Q E s :=
 Jg I z hi B r (fun s' I' _=>h s' I') O
theorem Inv.call'{s':Shared}{ch:List Addr}(I:Inv X pins σ H s)(O:s'.os=s.os)(u:Un (frs X.stack) ch H H' s.heap s'.heap)(z:HOk X.prog X.w H' s'.heap)(U:AllBare s'.gens)
  (B:∀ b∈ch,(b∈X.ex∨X.s₀.heap.objs.size<=b)/\b≠X.env.locals/\(∀ x c,X.env.cells.lookup x=some c->c≠b)/\∀ p∈X.pn++pins,p.1≠b):Inv X pins σ H' s':=by
 obtain⟨h',g',d',t',o'⟩:=s';have e:o'=s.os:=O;subst e;exact I.call (g':=g') (t':=t') (d':=d') u z U B
end
abbrev XK:=Value->Option Addr->Hp->Prop
abbrev St:=List (Option V)
abbrev VK:=V->Hp->Prop
abbrev TE:=St->Hp->VK->Prop
abbrev TT:=St->Hp->(Bool->Hp->Prop)->Prop
abbrev TA:=St->Hp->(List V->Hp->Prop)->Prop
structure Ends where
 nx:St->Hp->Prop
 rt:VK
 bk:St->Hp->Prop:=fun _ _=>False
 ct:St->Hp->Prop:=fun _ _=>False
abbrev TS:=Ends->St->Hp->Prop
def EP(X:Cx)(pins:List (Addr×Obj))(σ:St)(Q:VK)(u:Value)(s':Shared):Prop:=∃ v H',Inv X pins σ H' s'/\RelV v u/\Q v H'
def TP(X:Cx)(pins:List (Addr×Obj))(σ:St)(Q:Bool->Hp->Prop)(b:Bool)(s':Shared):Prop:=∃ H',Inv X pins σ H' s'/\Q b H'
def AP(X:Cx)(pins:List (Addr×Obj))(σ:St)(Q:List V->Hp->Prop)(us:List Value)(s':Shared):Prop:=∃ vs H',Inv X pins σ H' s'/\Vals vs us/\Q vs H'
def SP(X:Cx)(pins:List (Addr×Obj))(D:Ends)(f:Flow)(s':Shared):Prop :=
 match f with
 | .next=>∃ z H',Inv X pins z H' s'/\D.nx z H'
 | .brk=>∃ z H',Inv X pins z H' s'/\D.bk z H'
 | .cont=>∃ z H',Inv X pins z H' s'/\D.ct z H'
 | .ret u=>∃ v z H',Inv X pins z H' s'/\RelV v u/\D.rt v H'
def PE(X:Cx)(e:Expr)(t:TE):Prop :=
 ∀(pins:List (Addr×Obj)) (s:Shared) (σ:St) (H:Hp) (Q:VK),Inv X pins σ H s->t σ H Q->wpAny (model X.prog X.w) X.A (eval e X.env) (EP X pins σ Q) X.xe s
def PT(X:Cx)(e:Expr)(t:TT):Prop :=
 ∀(pins:List (Addr×Obj)) (s:Shared) (σ:St) (H:Hp) (Q:Bool->Hp->Prop),Inv X pins σ H s->t σ H Q->wpAny (model X.prog X.w) X.A (isTrue e X.env (eval e X.env)) (TP X pins σ Q) X.xe s
def PA(X:Cx)(es:List Expr)(t:TA):Prop :=
 ∀(pos:Pos) (pins:List (Addr×Obj)) (s:Shared) (σ:St) (H:Hp) (Q:List V->Hp->Prop),Inv X pins σ H s->t σ H Q->wpAny (model X.prog X.w) X.A (spliced (backTo pos (starEach es X.env))) (AP X pins σ Q) X.xe s
def PS(X:Cx)(st:Stmt)(t:TS):Prop :=
 ∀(pins:List (Addr×Obj)) (s:Shared) (σ:St) (H:Hp) (D:Ends),Inv X pins σ H s->t D σ H->wpAny (model X.prog X.w) X.A (exec st X.env) (SP X pins D) X.xe s
def PSs(X:Cx)(st:List Stmt)(t:TS):Prop :=
 ∀(pins:List (Addr×Obj)) (s:Shared) (σ:St) (H:Hp) (D:Ends),Inv X pins σ H s->t D σ H->wpAny (model X.prog X.w) X.A (execs st X.env) (SP X pins D) X.xe s
theorem thn{α:Type}{t:Sem α}{Q z:α->Shared->Prop}{M:Model}{A:Around}{E:Value->Shared->Prop}{s:Shared}(h:wpAny M A t Q E s)(B:∀ a s,Q a s->z a s):wpAny M A t z E s:=fq h B fun _ _ x=>x
section
variable{X:Cx}
def uN(i:Nat):TE:=fun σ H Q=>∃ v,σ[i]?=some (some v)/\Q v H
def tC(v:V):TE:=fun _ H Q=>Q v H
theorem jn{i:Nat}{x:Str}{pos:Pos}(O:X.N[i]?=some x)(U:Vis X.env.scope x)(hd:(x==("__debug__":Str))=false:=by decide)(B:(x==("__classdict__":Str))=false:=by decide):PE X (.Name x pos) (uN i):=by
 intro pins s σ H Q I h;obtain⟨v,e,h⟩:=h;obtain⟨m,hn,hl⟩:=I.loc;obtain⟨u,r,l⟩:=hl i x v O e U;have fin:EP X pins σ Q u s:=⟨v,H,I,r,h⟩;rcases l with⟨hk,hm⟩|⟨hk,c,hc,z⟩
 ·exact wpAny_Name (wpAny_loadName_local I.ok.kind hk hn hm fin) hd
 ·rcases hk with hk|hk
  ·exact wpAny_Name (wpAny_loadName_cell I.ok.kind hk hc z fin) hd
  ·exact wpAny_Name (wpAny_loadName_free I.ok.kind hk hc z fin B) hd
theorem G6{i j pos}:PE X (.Constant (.int i) j pos) (tC (.int i)):=fun _ _ _ H _ I h=>wpAny_Constant_int ⟨.int i,H,I.tok _,⟨_,rfl⟩,h⟩
theorem G7{b j pos}:PE X (.Constant (.bool b) j pos) (tC (.bl b)):=fun _ _ _ H _ I h=>Constant_bool ⟨.bl b,H,I,rfl,h⟩
theorem G8{j pos}:PE X (.Constant .none j pos) (tC .non):=fun _ _ _ H _ I h=>Constant_none ⟨.non,H,I,rfl,h⟩
theorem G9{x j pos}:PE X (.Constant (.str x) j pos) (tC (.str x)):=fun _ _ _ H _ I h=>Calls.Constant_str ⟨.str x,H,I.tok _,⟨_,rfl⟩,h⟩
def Gl(X:Cx)(x:Str):Prop:=X.env.kindOf x=some .globalImplicit
theorem vd{E:Value->Shared->Prop}{pins:List (Addr×Obj)}{s:Shared}{σ:St}{H:Hp}{x:Str}{u:Value}{pos:Pos}{Q:Value->Shared->Prop}(I:Inv X pins σ H s)(z:Gl X x)(B:X.mg x=some u)(h:Q u s)
  (hd:(x==("__debug__":Str))=false:=by decide):wpAny (model X.prog X.w) X.A (eval (.Name x pos) X.env) Q E s :=
 Calls.Name_function_global I.ok.kind z (Calls.loadGlobal_global (by rw [I.ok.glob];exact I.mod.glob.keeps I.bk) B h) hd
theorem zi{E:Value->Shared->Prop}{pins:List (Addr×Obj)}{s:Shared}{σ:St}{H:Hp}{x:Str}{u:Value}{pos:Pos}{Q:Value->Shared->Prop}(I:Inv X pins σ H s)(z:Gl X x)(B:X.mg x=none)(O:bootBuiltins x=some u)(h:Q u s)
  (U:x≠"__name__":=by decide)(hd:(x==("__debug__":Str))=false:=by decide):wpAny (model X.prog X.w) X.A (eval (.Name x pos) X.env) Q E s:=by
 obtain⟨mb,h1,h2⟩:=I.mod.blt;exact Calls.Name_function_global I.ok.kind z (Calls.loadGlobal_builtin (by rw [I.ok.glob];exact I.mod.glob.keeps I.bk) B (by rw [I.ok.blt];exact h1.keeps I.bk) ((h2 x U).trans O) h) hd
theorem Ga{x:Str}{v:V}{u:Value}{pos:Pos}(z:Gl X x)(B:X.mg x=some u)(r:RelV v u)(hd:(x==("__debug__":Str))=false:=by decide):PE X (.Name x pos) (tC v) :=
 fun _ _ _ H _ I h=>vd I z B ⟨v,H,I,r,h⟩ hd
variable{a b:Expr}{ta tb:TE}{pos:Pos}
theorem YI(b:Expr){op:CmpOp}(h:op≠.In)(h2:op≠.NotIn):behindInMarks op b=false:=by
 have e1:(op==CmpOp.In)=false:=by cases op<;>first|rfl|exact absurd rfl h
 have e2:(op==CmpOp.NotIn)=false:=by cases op<;>first|rfl|exact absurd rfl h2
 cases b<;>simp [behindInMarks,e1,e2]
variable{tA tB':TT}{rest:List Expr}
def tAnd(t u:TT):TT:=fun σ H Q=>t σ H fun c H1=>if c=true then u σ H1 Q else Q false H1
def tOr(t u:TT):TT:=fun σ H Q=>t σ H fun c H1=>if c=true then Q true H1 else u σ H1 Q
def tNot(t:TT):TT:=fun σ H Q=>t σ H fun c H1=>Q (!c) H1
end
def SqL(K:Frag)(H:Hp)(a:Addr)(xs:List V):Prop :=
 Rd H a (.lst xs) ∨
  ∃(o:Obj) (its:Array Value) (n:Nat),K.lookup a=some o/\o.cls=.type "list"/\o.dict=none/\o.data=.seq its n/\its.size<=sizeLine/\Vals xs its.toList
def SqT(K:Frag)(H:Hp)(a:Addr)(xs:List V):Prop :=
 Rd H a (.tup xs) ∨
  ∃(o:Obj) (its:Array Value) (n:Nat),K.lookup a=some o/\o.cls=.type "tuple"/\o.data=.seq its n/\its.size<=sizeLine/\Vals xs its.toList
def Gb:Value->Option V
 | .none=>some .non
 | .bool b=>some (.bl b)
 | .int i _=>some (.int i)
 | .str x _=>some (.str x)
 | .bytes b _=>some (.byt b)
 | .float b _=>some (.flt b)
 | .ref a=>some (.ref a)
 | .type n=>some (.ty n)
 | _=>none
theorem RelV.abs{x:V}{u:Value}(r:RelV x u):Gb u=some x:=by
 cases x with
 | non=>cases r;rfl
 | bl _=>cases r;rfl
 | int _=>obtain⟨t,rfl⟩:=r;rfl
 | str _=>obtain⟨t,rfl⟩:=r;rfl
 | byt _=>obtain⟨t,rfl⟩:=r;rfl
 | flt _=>obtain⟨t,rfl⟩:=r;rfl
 | ref _=>cases r;rfl
 | ty _=>cases r;rfl
theorem RelV.inj{x y:V}{u:Value}(r:RelV x u)(q:RelV y u):x=y:=fu (r.abs.symm.trans q.abs)
theorem Vals.inj:∀{xs ys:List V} {us:List Value},Vals xs us->Vals ys us->xs=ys
 | _,_,_,.nil,.nil=>rfl
 | _,_,_,.cons r t,.cons r' t'=>by rw [r.inj r',Vals.inj t t']
section
variable{X:Cx}{pins:List (Addr×Obj)}{σ:St}{H:Hp}{s:Shared}{a:Addr}{xs ys:List V}
theorem SqL.of{K:Frag}(h:H a=some (.lst xs)):SqL K H a xs:=.inl (.inl h)
theorem SqT.of{K:Frag}(h:H a=some (.tup xs)):SqT K H a xs:=.inl (.inl h)
theorem Inv.list(I:Inv X pins σ H s)(h:SqL X.K H a xs):∃ its:List Value,Vals xs its/\PlainL s.heap a its.toArray/\xs.length<=sizeLine:=by
 rcases h with h|⟨o,its,n,hk,hc,hd,hs,hz,r⟩
 ·obtain⟨z,its,n,r,e⟩:=h.ok I.hok;exact⟨its,r,⟨_,n,e,rfl,rfl,rfl⟩,z⟩
 ·refine⟨its.toList,r,⟨o,n,I.kIn a o hk,hc,hd,by simpa using hs⟩,?_⟩
  have e:=r.length;simp only [fM]at e;omega
theorem Inv.tuple(I:Inv X pins σ H s)(h:SqT X.K H a xs):∃ its:List Value,Vals xs its/\IsTup s.heap a its.toArray/\xs.length<=sizeLine:=by
 rcases h with h|⟨o,its,n,hk,hc,hs,hz,r⟩
 ·obtain⟨z,its,r,p⟩:=h.ok I.hok;exact⟨its,r,p,z⟩
 ·refine⟨its.toList,r,⟨o,I.kIn a o hk,hc,n,by simpa using hs⟩,?_⟩
  have e:=r.length;simp only [fM]at e;omega
theorem Inv.list_inj(I:Inv X pins σ H s)(h:SqL X.K H a xs)(h':SqL X.K H a ys):xs=ys:=by
 obtain⟨its,r,⟨o,n,e,_,_,d⟩,_⟩:=I.list h;obtain⟨its',r',⟨o',n',e',_,_,d'⟩,_⟩:=I.list h';rw [e]at e';cases e';rw [d]at d';injection d' with d1 _;have:its=its':=by simpa using congrArg Array.toList d1
 subst this;exact r.inj r'
theorem Inv.tuple_inj(I:Inv X pins σ H s)(h:SqT X.K H a xs)(h':SqT X.K H a ys):xs=ys:=by
 obtain⟨its,r,⟨o,e,_,n,d⟩,_⟩:=I.tuple h;obtain⟨its',r',⟨o',e',_,n',d'⟩,_⟩:=I.tuple h';rw [e]at e';cases e';rw [d]at d';injection d' with d1 _;have:its=its':=by simpa using congrArg Array.toList d1
 subst this;exact r.inj r'
end
abbrev Cx.wish(X:Cx)(E:Value->Shared->Prop):Cx:={X with xe:=E}
abbrev Cx.nox(X:Cx):Cx:=X.wish fun _ _=>False
theorem Cx.Ok.wish{X:Cx}(z:X.Ok)(E:Value->Shared->Prop):(X.wish E).Ok :=
 ⟨z.mod,z.kind,z.glob,z.blt,z.above,z.inj,z.has,z.cab,z.hd,z.frames,z.stk,z.exf,z.bs,z.bsz,z.noex,z.exfs,z.funs,z.frf⟩
theorem Cx.Ok.unwish{X:Cx}{E:Value->Shared->Prop}(z:(X.wish E).Ok):X.Ok :=
 ⟨z.mod,z.kind,z.glob,z.blt,z.above,z.inj,z.has,z.cab,z.hd,z.frames,z.stk,z.exf,z.bs,z.bsz,z.noex,z.exfs,z.funs,z.frf⟩
section
variable{X:Cx}{pins:List (Addr×Obj)}{σ:St}{H:Hp}{s:Shared}{E:Value->Shared->Prop}
theorem Inv.wish(I:Inv X pins σ H s)(E:Value->Shared->Prop):Inv (X.wish E) pins σ H s:=⟨I.ok.wish E,I.os,I.bare,I.base,I.loc,I.cell,I.free,I.freeC,I.pin,I.hok,I.len⟩
theorem Inv.unwish(I:Inv (X.wish E) pins σ H s):Inv X pins σ H s:=⟨I.ok.unwish,I.os,I.bare,I.base,I.loc,I.cell,I.free,I.freeC,I.pin,I.hok,I.len⟩
theorem SP.unwish{D:Ends}{f:Flow}{s':Shared}(h:SP (X.wish E) pins D f s'):SP X pins D f s':=by
 cases f with
 | next=>obtain⟨z,H',I,q⟩:=h;exact⟨z,H',I.unwish,q⟩
 | brk=>obtain⟨z,H',I,q⟩:=h;exact⟨z,H',I.unwish,q⟩
 | cont=>obtain⟨z,H',I,q⟩:=h;exact⟨z,H',I.unwish,q⟩
 | ret u=>obtain⟨v,z,H',I,r,q⟩:=h;exact⟨v,z,H',I.unwish,r,q⟩
theorem PSs.nox{st:List Stmt}{t:TS}(h:PSs X.nox st t):PSs X st t:=fun pins s σ H D I hw =>
 fq (h pins s σ H D (I.wish _) hw) (fun _ _ q=>q.unwish) fun _ _ z=>False.elim z
end
section
variable{X:Cx}{st:Stmt}{rest:List Stmt}{t u:TS}{e:Expr}{te:TE}{pos:Pos}
theorem Gc(h1:PS X st t):PSs X [st] t:=by
 intro pins s σ H D I h;refine cx (thn (h1 pins s σ H D I h) fun f s1 q=>?_)
 cases f with
 | next=>exact fT q
 | ret v=>exact q
 | brk=>exact q
 | cont=>exact q
theorem Inv.quiet{pins:List (Addr×Obj)}{σ:St}{H:Hp}{s:Shared}(I:Inv X pins σ H s):interactive X.env=false:=by simp [interactive,I.ok.kind]
def Gd(te:TE):TS:=fun D σ H=>te σ H fun _ H1=>D.nx σ H1
theorem xC(z:PE X e te)(B:swapsWith e none pos.line X.env=pure false:=by rfl):PS X (.Expr e pos) (Gd te):=by
 intro pins s σ H D I h;exact wpAny_Expr_any (thn (z pins s σ H _ I h) fun v s1 ⟨x,H1,I1,r1,q1⟩=>⟨σ,H1,I1,q1⟩) I.quiet B
def YJ(te:TE):TS:=fun D σ H=>te σ H D.rt
theorem YK(z:PE X e te):PS X (.Return (some e) pos) (YJ te):=by
 intro pins s σ H D I h;exact cR (thn (z pins s σ H _ I h) fun v s1 ⟨x,H1,I1,r1,q1⟩=>⟨x,σ,H1,I1,r1,q1⟩)
end
abbrev TG:=V->St->Hp->(St->Hp->Prop)->Prop
abbrev TGs:=List V->St->Hp->(St->Hp->Prop)->Prop
def PG(X:Cx)(z:Expr)(t:TG):Prop :=
 ∀(pins:List (Addr×Obj)) (s:Shared) (σ:St) (H:Hp) (v:V) (u:Value) (Q:St->Hp->Prop),Inv X pins σ H s->RelV v u->t v σ H Q ->
  wpAny (model X.prog X.w) X.A (assign z X.env u) (fun _ s'=>∃ B H',Inv X pins B H' s'/\Q B H') X.xe s
def PGs(X:Cx)(B:List Expr)(t:TGs):Prop :=
 ∀(pins:List (Addr×Obj)) (s:Shared) (σ:St) (H:Hp) (vs:List V) (us:List Value) (Q:St->Hp->Prop),Inv X pins σ H s->Vals vs us->t vs σ H Q ->
  wpAny (model X.prog X.w) X.A (assignInOrder ((assignEach B X.env).map (·.2)) us) (fun _ s'=>∃ z H',Inv X pins z H' s'/\Q z H') X.xe s
abbrev TIp:=V->V->Hp->VK->Prop
def PIp(X:Cx)(op:Operator)(t:TIp):Prop :=
 ∀(pins:List (Addr×Obj)) (s:Shared) (σ:St) (H:Hp) (x y:V) (v u:Value) (Q:VK),Inv X pins σ H s->RelV x v->RelV y u->t x y H Q ->
  wpAny (model X.prog X.w) X.A (inplaceOp op v u) (EP X pins σ Q) X.xe s
section
variable{X:Cx}{pos:Pos}
def Ge(i:Nat):TG:=fun v σ H Q=>Q (σ.set i (some v)) H
theorem YL{i:Nat}{x:Str}(z:X.N.Nodup)(hi:X.N[i]?=some x)(B:Loc X.env.scope x)(O:X.fn x=true∨X.env.scope.names.lookup x=some .local:=by trivial):PG X (.Name x pos) (Ge i):=by
 intro pins s σ H v u Q I r h;exact dO (ym I z hi B r (fun s' I'=>⟨_,H,I',h⟩) O)
def Gf:TGs:=fun vs σ H Q=>vs=[]/\Q σ H
def Gg(t:TG)(u:TGs):TGs:=fun vs σ H Q=>∃ v r,vs=v::r/\t v σ H fun z H'=>u r z H' Q
theorem Gh:PGs X [] Gf:=by
 intro pins s σ H vs us Q I r h;obtain⟨e,h⟩:=h;subst e;cases r;exact assignInOrder_nil ⟨σ,H,I,h⟩
theorem Gi{e:Expr}{es:List Expr}{t:TG}{u:TGs}(h1:PG X e t)(h2:PGs X es u)
  (z:(assignEach (e::es) X.env).map (·.2)=assign e X.env::(assignEach es X.env).map (·.2):=by rfl):PGs X (e::es) (Gg t u):=by
 intro pins s σ H vs us Q I r h;obtain⟨v,vr,e1,h⟩:=h;subst e1;cases r with
 | cons r rr =>
  rw [z];refine assignInOrder_cons (thn (h1 pins s σ H _ _ _ I r h) fun _ s1 ⟨σ1,H1,I1,q1⟩=>?_)
  exact h2 pins s1 σ1 H1 _ _ Q I1 rr q1
def Gj(K:Frag)(n:Nat)(t:TGs):TG:=fun v σ H Q=>∃ a xs,v=.ref a/\SqT K H a xs/\xs.length=n/\t xs σ H Q
theorem Gk{es:List Expr}{k:Nat}{t:TGs}{n:Nat}(B:X.calm=true)(h:PGs X es t)
  (O:(assignEach es X.env).length=n:=by rfl)(z:(assignEach es X.env).findIdx? (·.1)=none:=by rfl):PG X (.Tuple es k pos) (Gj X.K n t):=by
 intro pins s σ H v u Q I r hw;obtain⟨a,xs,e1,hq,hl,hw⟩:=hw;subst e1;cases r;obtain⟨its,rv,ht,hz⟩:=I.tuple hq;refine assign_Tuple_tuple (I.ok.hd B) ht (by simp [O,<- hl,rv.length]) z fun h' hx=>?_
 have I1:Inv X pins σ H {s with heap:=h'}:=I.kept (t':=s.toks) fun b o e=>hx b o (gP (gv e)) e
 exact h pins _ σ H xs _ Q I1 (by simpa using rv) hw
def Gm(i:Nat)(te:TE)(B:TIp):TS:=fun D σ H=>∃ x,σ[i]?=some (some x)/\te σ H fun y H1=>B x y H1 fun z H2=>D.nx (σ.set i (some z)) H2
theorem Gn{i:Nat}{x:Str}{e:Expr}{te:TE}{op:Operator}{Y:TIp}{pos':Pos}(Z:X.N.Nodup)(hi:X.N[i]?=some x)(U:Loc X.env.scope x)(he:PE X e te)(ho:PIp X op Y)(hf:X.fn x=true∨X.env.scope.names.lookup x=some .local:=by trivial) :
  PS X (.AugAssign (.Name x pos') op e pos) (Gm i te Y):=by
 intro pins s σ H D I h;obtain⟨v,e1,h⟩:=h;obtain⟨m,hn,hl⟩:=I.loc;have W:Vis X.env.scope x:=by rcases U with k|k;exact .inl k;exact .inr (.inl k)
 obtain⟨u,r,l⟩:=hl i x v hi e1 W;refine wpAny_AugAssign_Name ?_;have go:wpAny (model X.prog X.w) X.A (eval e X.env) (fun w s₂=>wpAny (model X.prog X.w) X.A (inplaceOp op u w) (fun r O=>wpAny (model X.prog X.w) X.A (storeName X.env x r) (fun _=>SP X pins D .next) X.xe O) X.xe s₂) X.xe s:=by
  refine thn (he pins s σ H _ I h) fun w s1 ⟨y,H1,I1,r1,q1⟩=>?_
  refine thn (ho pins s1 σ H1 v y u w _ I1 r r1 q1) fun z s2 ⟨zv,H2,I2,r2,q2⟩=>?_
  exact ym I2 Z hi U r2 (fun s3 I3=>⟨_,H2,I3,q2⟩) hf
 rcases l with⟨hk,hm⟩|⟨hk,c,hc,B⟩
 ·exact wpAny_loadName_local I.ok.kind hk hn hm go
 ·rcases hk with hk|hk
  ·exact wpAny_loadName_cell I.ok.kind hk hc B go
  ·rcases U with k|k
   ·have:X.env.scope.names.lookup x=some .free:=hk;rw [k]at this;cases this
   ·have:X.env.scope.names.lookup x=some .free:=hk;rw [k]at this;cases this
end
section
variable{X:Cx}{pos:Pos}
def Go(c:TT)(tb:TS):TS:=fun D σ H=>∃ W:Nat->St->Hp->Prop,(∃ m,W m σ H)/\∀ m σ H,W m σ H ->
 c σ H fun b H1=>if b=true then ∃ N:St->Hp->Prop,(∀ z H',N z H'->∃ m',m'<m/\W m' z H')/\tb {D with nx:=N,ct:=N,bk:=D.nx} σ H1 else D.nx σ H1
theorem Gp{c:Expr}{body:List Stmt}{tc:TT}{tb:TS}(hp:PassesOwn (model X.prog X.w) X.A X.env X.xe)(O:PT X c tc)(U:PSs X body tb):PS X (.While c body [] pos) (Go tc tb):=by
 intro pins s σ H D I h;obtain⟨W,⟨m0,w0⟩,turn⟩:=h;refine wpAny_While (codeAny_whileLoop (fun n s'=>∃ B H',Inv X pins B H' s'/\W n B H') ?_ m0 ⟨σ,H,I,w0⟩)
 rintro n s1 ⟨σ1,H1,I1,w1⟩;refine pt hp (thn (O pins s1 σ1 H1 _ I1 (turn n σ1 H1 w1)) fun b s2 ⟨H2,I2,q2⟩=>?_)
 cases b with
 | true =>
  obtain⟨N,hN,q2⟩:=q2;rw [gB rfl];refine pt hp (thn (U pins s2 σ1 H2 _ I2 q2) fun f s3 q3=>?_)
  cases f with
  | next =>
   obtain⟨z,H3,I3,n3⟩:=q3;obtain⟨m',hm,w3⟩:=hN z H3 n3;exact⟨m',hm,z,H3,I3,w3⟩
  | cont =>
   obtain⟨z,H3,I3,n3⟩:=q3;obtain⟨m',hm,w3⟩:=hN z H3 n3;exact⟨m',hm,z,H3,I3,w3⟩
  | brk=>exact q3
  | ret v=>exact q3
 | false =>
  rw [gD fw];exact fT ⟨σ1,H2,I2,q2⟩
end
structure It where
 go:Nat->Hp->Prop
 yld:Nat->Hp->V->Hp->Prop
 stop:Nat->Hp->Prop
def FpOk(X:Cx)(pins:List (Addr×Obj))(H:Hp)(b:Addr):Prop :=
 H b=none/\b≠X.env.locals/\b∉X.fs/\(b∈X.ex∨X.s₀.heap.objs.size<=b)/\(∀ x c,X.env.cells.lookup x=some c->c≠b)/\∀ p∈X.pn++pins,p.1≠b
theorem Inv.fpOk{X:Cx}{pins:List (Addr×Obj)}{σ:St}{H H':Hp}{s:Shared}{b:Addr}(I:Inv X pins σ H s)(B:s.heap.objs.size<=b)(O:H' b=none):FpOk X pins H' b:=by
 refine⟨O,fU (gG I.lt B),I.nofs B,.inr (t8 I.sz B),fun x c e z=>?_,fun p hp z=>?_⟩
 ·obtain⟨v,q⟩:=I.cell x c e;exact absurd (gG q.lt (by rw [z];exact B)) (tB _)
 ·exact absurd (gG (gv (I.pin p hp).1) (by rw [z];exact B)) (tB _)
structure Turn(P:Program)(w:World)(K:Frag)(tg:Expr)(J:It)(fp:List Addr)(it:Addr)(tn:Nat->Heap->Prop):Prop where
 mem:it∈fp
 obj:∀ i h,tn i h->∀ b∈fp,∃ o,h.get? b=some o/\∀ v,o.data≠.cell v
 keep:∀ i h h',tn i h->(∀ b∈fp,∀ o,h.get? b=some o->h'.get? b=some o)->tn i h'
 item:∀(X:Cx),X.prog=P->X.w=w->X.K=K->X.calm=true->∀(i:Nat) (pins:List (Addr×Obj)) (s:Shared) (σ:St) (H:Hp) (E:Value->Shared->Prop),Inv X pins σ H s->(∀ b∈fp,FpOk X pins H b)->tn i s.heap->J.go i H ->
  wpAny (model P w) X.A (pyNext (.ref it)) (fun r s1=>∃ u,r=some u /\
   wpAny (model P w) X.A (letOwnedTupleGo tg (.ref it) u) (fun _ s2=>∃ x H',Inv X pins σ H' s2/\RelV x u/\J.yld i H x H'/\tn (i+1) s2.heap/\∀ b∈fp,H' b=none) E s1) E s
 done:∀(X:Cx),X.prog=P->X.w=w->X.K=K->X.calm=true->∀(i:Nat) (pins:List (Addr×Obj)) (s:Shared) (σ:St) (H:Hp) (E:Value->Shared->Prop),Inv X pins σ H s->(∀ b∈fp,FpOk X pins H b)->tn i s.heap->J.stop i H ->
  wpAny (model P w) X.A (pyNext (.ref it)) (fun r s1=>r=none/\Inv X pins σ H s1) E s
 self:∀(A:Around) (i:Nat) (s:Shared) (Q:Value->Shared->Prop) (E:Value->Shared->Prop),tn i s.heap->Q (.ref it) s->wpAny (model P w) A (pyIter (.ref it)) Q E s
abbrev TI:=St->Hp->(It->Hp->Prop)->Prop
def PIE(X:Cx)(pins:List (Addr×Obj))(σ:St)(tg:Expr)(R:It->Hp->Prop)(z:Value)(s2:Shared):Prop :=
 ∃(it:Addr) (fp:List Addr) (tn:Nat->Heap->Prop) (J:It) (H':Hp),z=.ref it/\Inv X pins σ H' s2/\Turn X.prog X.w X.K tg J fp it tn/\tn 0 s2.heap/\(∀ b∈fp,FpOk X pins H' b)/\R J H'
def PI(X:Cx)(tg iter:Expr)(z:TI):Prop :=
 ∀(pins:List (Addr×Obj)) (s:Shared) (σ:St) (H:Hp) (R:It->Hp->Prop),Inv X pins σ H s->z σ H R ->
  wpAny (model X.prog X.w) X.A (eval iter X.env) (fun v s1=>wpAny (model X.prog X.w) X.A (pyIter v) (PIE X pins σ tg R) X.xe s1) X.xe s
theorem k8{M:Model}{A:Around}{E:Value->Shared->Prop}{s:Shared}{tg:Expr}{it:Addr}{u:Value}{o:Obj}{n:String}{vs:Array Value}{Q:Unit->Shared->Prop}(B:s.heap.get? it=some o)(O:o.cls=.type n)(hd:o.data=.fields vs)
    (U:["enumerate","zip","dict_itemiterator","dict_reverseitemiterator","odict_iterator","itertools.zip_longest","itertools.pairwise"].contains n=false)(z:Q () s):wpAny M A (letOwnedTupleGo tg (.ref it) u) Q E s:=by
  unfold letOwnedTupleGo;cases tg<;>first
    | exact gk z
    | (cases u<;>first
        | exact gk z
        | (refine g6 (wpAny_load B ?_)
           rw [O,hd];show wpAny M A (if (["enumerate","zip","dict_itemiterator","dict_reverseitemiterator","odict_iterator","itertools.zip_longest","itertools.pairwise"].contains n&&vs[0]?==some (rawInt _))=true then _ else _) Q E s
           rw [gD (by intro h;rw [U,fO]at h;cases h)]
           exact gk z))
def Itl(K:Frag)(a:Addr):It :=
 ⟨fun i H=>∃ xs x,SqL K H a xs/\xs[i]?=some x,fun i H x H'=>H'=H/\∀ xs,SqL K H a xs->xs[i]?=some x,fun i H=>∃ xs,SqL K H a xs/\xs.length<=i⟩
def Itt(K:Frag)(a:Addr):It :=
 ⟨fun i H=>∃ xs x,SqT K H a xs/\xs[i]?=some x,fun i H x H'=>H'=H/\∀ xs,SqT K H a xs->xs[i]?=some x,fun i H=>∃ xs,SqT K H a xs/\xs.length<=i⟩
def Itr(lo:Int)(n:Nat):It:=⟨fun i _=>i<n,fun i H x H'=>H'=H/\x=.int (lo+i),fun i _=>n<=i⟩
theorem Gq{P:Program}{w:World}{K:Frag}{tg:Expr}(a it:Addr):Turn P w K tg (Itl K a) [it] it (fun i h=>h.IsListIter it a i)where
 mem:=by simp
 obj:=fun i h st b hb=>by
  have e:b=it:=by simpa using hb
  subst e;obtain⟨o,e,c,d⟩:=st;exact⟨o,e,fun v z=>by rw [d]at z;cases z⟩
 keep:=fun i h h' st k=>st.at fun o e=>k it (by simp) o e
 item:=by
  intro X hP hw hK hc i pins s σ H E I hf st hg;subst hP hw hK;obtain⟨xs,x,hq,hx⟩:=hg;obtain⟨its,rv,p,hz⟩:=I.list hq;obtain⟨u,hu,ru⟩:=rv.get hx;obtain⟨f0,f1,f2,f3,f4,f5⟩:=hf it (by simp)
  refine wpAny_pyNext_list_item st p.isList (x:=u) (by simpa using hu) fun h' B sb=>?_
  have I1:Inv X pins σ H {s with heap:=h'}:=I.turned (t':=s.toks) (fun b o hb e=>(sb.2 b hb).trans e) f0 f1 f3 f4 f5
  obtain⟨o,e,c,d⟩:=id B;exact⟨u,rfl,k8 (s:={s with heap:=h'}) e c d (by decide) ⟨x,H,I1,ru,⟨rfl,fun ys hy=>by rw [I.list_inj hy hq];exact hx⟩,B,fun b hb=>(hf b hb).1⟩⟩
 done:=by
  intro X hP hw hK hc i pins s σ H E I hf st hg;subst hP hw hK;obtain⟨xs,hq,hx⟩:=hg;obtain⟨its,rv,p,hz⟩:=I.list hq;obtain⟨f0,f1,f2,f3,f4,f5⟩:=hf it (by simp)
  have hl:=rv.length;exact wpAny_pyNext_list_end (I.ok.hd hc) st p.isList (by simp;omega) fun h' eb=>⟨rfl,I.turned (t':=s.toks) (fun b o hb e=>eb b o hb e) f0 f1 f3 f4 f5⟩
 self:=fun _ _ _ _ _ st h=>wpAny_pyIter_listiter st h
theorem Gs{P:Program}{w:World}{K:Frag}{tg:Expr}(a it:Addr):Turn P w K tg (Itt K a) [it] it (fun i h=>h.IsTupleIter it a i)where
 mem:=by simp
 obj:=fun i h st b hb=>by
  have e:b=it:=by simpa using hb
  subst e;obtain⟨o,e,c,d⟩:=st;exact⟨o,e,fun v z=>by rw [d]at z;cases z⟩
 keep:=fun i h h' st k=>st.at fun o e=>k it (by simp) o e
 item:=by
  intro X hP hw hK hc i pins s σ H E I hf st hg;subst hP hw hK;obtain⟨xs,x,hq,hx⟩:=hg;obtain⟨its,rv,p,hz⟩:=I.tuple hq;obtain⟨u,hu,ru⟩:=rv.get hx;obtain⟨f0,f1,f2,f3,f4,f5⟩:=hf it (by simp)
  refine wpAny_pyNext_tuple_item st (show s.heap.IsTuple a its.toArray from p) (x:=u) (by simpa using hu) fun h' B sb=>?_
  have I1:Inv X pins σ H {s with heap:=h'}:=I.turned (t':=s.toks) (fun b o hb e=>(sb.2 b hb).trans e) f0 f1 f3 f4 f5
  obtain⟨o,e,c,d⟩:=id B;exact⟨u,rfl,k8 (s:={s with heap:=h'}) e c d (by decide) ⟨x,H,I1,ru,⟨rfl,fun ys hy=>by rw [I.tuple_inj hy hq];exact hx⟩,B,fun b hb=>(hf b hb).1⟩⟩
 done:=by
  intro X hP hw hK hc i pins s σ H E I hf st hg;subst hP hw hK;obtain⟨xs,hq,hx⟩:=hg;obtain⟨its,rv,p,hz⟩:=I.tuple hq;obtain⟨f0,f1,f2,f3,f4,f5⟩:=hf it (by simp)
  have hl:=rv.length;exact wpAny_pyNext_tuple_end (I.ok.hd hc) st (show s.heap.IsTuple a its.toArray from p) (by simp;omega) fun h' eb=>⟨rfl,I.turned (t':=s.toks) (fun b o hb e=>eb b o hb e) f0 f1 f3 f4 f5⟩
 self:=fun _ _ _ _ _ st h=>wpAny_pyIter_tupleiter st h
theorem Gu{P:Program}{w:World}{K:Frag}{tg:Expr}(it:Addr)(lo:Int)(n:Nat):Turn P w K tg (Itr lo n) [it] it (fun i h=>IsRangeIter h it (lo+(i:Nat)*1) ((n:Int)-(i:Nat)) 1)where
 mem:=by simp
 obj:=fun i h st b hb=>by
  have e:b=it:=by simpa using hb
  subst e;exact⟨_,st,fun v z=>by
   have z':Data.fields _=Data.cell v:=z;cases z'⟩
 keep:=fun i h h' st k=>k it (by simp) _ st
 item:=by
  intro X hP hw hK hc i pins s σ H E I hf st hg;subst hP hw hK;obtain⟨f0,f1,f2,f3,f4,f5⟩:=hf it (by simp)
  have W:=Walks.range (prog:=X.prog) (w:=X.w) (I.ok.hd hc) it lo 1 n;refine W.item i s _ _ hg st fun v h' tk hv B kk=>?_
  obtain⟨t,rfl⟩:=hv;have I1:Inv X pins σ H {s with heap:=h',toks:=tk}:=I.turned (fun b o hb e=>kk b o (by simpa using hb) e) f0 f1 f3 f4 f5
  refine⟨_,rfl,k8 (s:={s with heap:=h',toks:=tk}) (n:="range_iterator") B rfl rfl (by decide) ⟨.int (lo+i),H,I1,⟨t,?_⟩,⟨rfl,rfl⟩,B,fun b hb=>(hf b hb).1⟩⟩
  rw [Int.mul_one]
 done:=by
  intro X hP hw hK hc i pins s σ H E I hf st hg;subst hP hw hK;obtain⟨f0,f1,f2,f3,f4,f5⟩:=hf it (by simp)
  exact wpAny_pyNext_range_end (I.ok.hd hc) st (by have:n<=i:=hg;omega) fun h' eb=>⟨rfl,I.turned (t':=s.toks) (fun b o hb e=>eb b o hb e) f0 f1 f3 f4 f5⟩
 self:=fun _ _ _ _ _ st h=>wpAny_pyIter_rangeiter st h
section
variable{X:Cx}{tg:Expr}
def YM(K:Frag)(tl:TE):TI:=fun σ H R=>tl σ H fun x H1=>∃ a,x=.ref a/\(∃ xs,SqL K H1 a xs)/\R (Itl K a) H1
def YN(K:Frag)(tl:TE):TI:=fun σ H R=>tl σ H fun x H1=>∃ a,x=.ref a/\(∃ xs,SqT K H1 a xs)/\R (Itt K a) H1
theorem Jh{l:Expr}{tl:TE}(z:PE X l tl):PI X tg l (YM X.K tl):=by
 intro pins s σ H R I h;refine thn (z pins s σ H _ I h) fun v s1 ⟨x,H1,I1,r1,q1⟩=>?_
 obtain⟨a,e,⟨xs,hq⟩,q⟩:=q1;subst e;cases r1;obtain⟨its,rv,p,hz⟩:=I1.list hq;refine wpAny_pyIter_list p.isList ?_;refine⟨s1.heap.objs.size,[s1.heap.objs.size],_,_,H1,rfl,I1.kept (t':=s1.toks) fun b o e=>gg _ e,Gq a _,⟨_,gH _ rfl,rfl,rfl⟩,fun b hb=>?_,q⟩
 have e:b=s1.heap.objs.size:=by simpa using hb
 subst e;exact I1.fpOk (gw _) (I1.hok.fresh (gw _))
theorem Ji{l:Expr}{tl:TE}(z:PE X l tl):PI X tg l (YN X.K tl):=by
 intro pins s σ H R I h;refine thn (z pins s σ H _ I h) fun v s1 ⟨x,H1,I1,r1,q1⟩=>?_
 obtain⟨a,e,⟨xs,hq⟩,q⟩:=q1;subst e;cases r1;obtain⟨its,rv,p,hz⟩:=I1.tuple hq;refine dF (show s1.heap.IsTuple a its.toArray from p) ?_
 refine⟨s1.heap.objs.size,[s1.heap.objs.size],_,_,H1,rfl,I1.kept (t':=s1.toks) fun b o e=>gg _ e,Gs a _,⟨_,gH _ rfl,rfl,rfl⟩,fun b hb=>?_,q⟩
 have e:b=s1.heap.objs.size:=by simpa using hb
 subst e;exact I1.fpOk (gw _) (I1.hok.fresh (gw _))
theorem Gv{pins:List (Addr×Obj)}{σ:St}{H:Hp}{s:Shared}{R:It->Hp->Prop}{E:Value->Shared->Prop}{lo hi:Int}{t u v:Tok}{tk:Nat}(I:Inv X pins σ H s)(h1:-(2 ^ 62)<=lo)(h2:lo<2 ^ 62)(z:-(2 ^ 62)<=hi)(B:hi<2 ^ 62)
  (q:R (Itr lo (hi-lo).toNat) H):wpAny (model X.prog X.w) X.A (pyIter (.ref s.heap.objs.size)) (PIE X pins σ tg R) E {s with heap:=s.heap.push {cls:=.type "range",data:=.fields #[.int lo t,.int hi u,.int 1 v]},toks:=tk}:=by
 refine wpAny_pyIter_range (IsRange.new ..) (small_one h1 h2 z B) ?_;have I1:Inv X pins σ H {s with heap:=s.heap.push {cls:=.type "range",data:=.fields #[.int lo t,.int hi u,.int 1 v]},toks:=tk}:=I.kept fun b o e=>gg _ e
 refine⟨(s.heap.push {cls:=.type "range",data:=.fields #[.int lo t,.int hi u,.int 1 v]}).objs.size,[(s.heap.push {cls:=.type "range",data:=.fields #[.int lo t,.int hi u,.int 1 v]}).objs.size],_,_,H,rfl,
  I1.kept (t':=tk) fun b o e=>gg _ e,Gu _ lo (hi-lo).toNat,?_,fun b hb=>?_,q⟩
 ·have e1:lo+((0:Nat):Int)*1=lo:=by simp
  have e2:(((hi-lo).toNat:Nat):Int)-((0:Nat):Int)=Builtin.Range.rangeSize lo hi 1:=by rw [rangeSize_one];split<;>omega
  show IsRangeIter _ _ (lo+((0:Nat):Int)*1) ((((hi-lo).toNat:Nat):Int)-((0:Nat):Int)) 1;rw [e1,e2];exact gH _ rfl
 ·have e:b=(s.heap.push {cls:=.type "range",data:=.fields #[.int lo t,.int hi u,.int 1 v]}).objs.size:=by simpa using hb
  subst e;exact I1.fpOk (gw _) (I1.hok.fresh (gw _))
def Gw(ta:TA):TI:=fun σ H R=>ta σ H fun vs H1=>∃ j:Int,vs=[.int j]/\-(2 ^ 62)<=j/\j<2 ^ 62/\R (Itr 0 j.toNat) H1
theorem Gx{a:Expr}{ta:TA}{p pos:Pos}(z:Gl X "range")(B:X.mg "range"=none)(O:PA X [a] ta)(U:starEach [a] X.env=[(false,eval a X.env)]:=by rfl):PI X tg (.Call (.Name "range" p) [a] [] pos) (Gw ta):=by
 intro pins s σ H R I h;refine Call_ (zi I z B boot_range (tt (thn (O pos pins s σ H _ I h) fun us s1 ⟨vs,H1,I1,r1,q1⟩=>?_) U rfl))
 obtain⟨j,e,q1,q2,q⟩:=q1;subst e;cases r1 with
 | cons r rr =>
  cases rr;obtain⟨t,rfl⟩:=r;exact call_range_1 (Gv I1 (by omega) (by omega) q1 q2 (by simpa using q))
def Gy(O:TI)(g:TG)(tb:TS):TS:=fun D σ H=>O σ H fun J H1=>∃ W:Nat->Nat->St->Hp->Prop,(∃ m,W 0 m σ H1)/\∀ i m σ H,W i m σ H ->
 (J.stop i H/\D.nx σ H)∨(J.go i H/\∃ N:St->Hp->Prop,(∀ z H',N z H'->∃ m',m'<m/\W (i+1) m' z H')/\∀ x H',J.yld i H x H'->g x σ H' fun B H2=>tb {D with nx:=N,ct:=N,bk:=D.nx} B H2)
def ka(fp:List Addr)(h:Heap):List (Addr×Obj):=fp.filterMap fun b=>(h.get? b).map fun o=>(b,o)
theorem kf{fp:List Addr}{h:Heap}{b:Addr}{o:Obj}(z:b∈fp)(e:h.get? b=some o):(b,o)∈ka fp h:=List.mem_filterMap.mpr ⟨b,z,by rw [e];rfl⟩
theorem Gz{fp:List Addr}{h:Heap}{p:Addr×Obj}(hp:p∈ka fp h):p.1∈fp/\h.get? p.1=some p.2:=by
 obtain⟨b,hb,e⟩:=List.mem_filterMap.mp hp;cases q:h.get? b with
 | none=>rw [q]at e;cases e
 | some o =>
  rw [q]at e;have e':(b,o)=p:=fu e;subst e';exact⟨hb,q⟩
theorem Inv.pinned{pins:List (Addr×Obj)}{σ:St}{H:Hp}{s:Shared}{fp:List Addr}(I:Inv X pins σ H s)(B:∀ b∈fp,FpOk X pins H b)(O:∀ b∈fp,∃ o,s.heap.get? b=some o/\∀ v,o.data≠.cell v):Inv X (pins++ka fp s.heap) σ H s :=
 I.pins_of fun p hp=>(tm.mp hp).elim (fun z=>I.pin p (gF _ z)) fun z=>by
  obtain⟨hb,e⟩:=Gz z;obtain⟨f0,f1,f2,_⟩:=B p.1 hb;obtain⟨o,e',d⟩:=O p.1 hb;rw [e]at e';cases e';exact⟨e,f0,f1,f2,d⟩
theorem Inv.unpinned{pins z:List (Addr×Obj)}{σ:St}{H:Hp}{s:Shared}(I:Inv X (pins++z) σ H s):Inv X pins σ H s:=I.pins_of fun p hp=>I.pin p (gF _ (h9 _ hp))
theorem GA{iter:Expr}{body:List Stmt}{wi:TI}{g:TG}{tb:TS}{pos:Pos}(hp:PassesOwn (model X.prog X.w) X.A X.env X.xe)(hc:X.calm=true)(hi:PI X tg iter wi)(hg:PG X tg g)(B:PSs X body tb)
  (hs:∀ x,foldedSetIterable iter X.env x=pure x:=by intro _;rfl):PS X (.For tg iter body [] pos) (Gy wi g tb):=by
 intro pins s σ H D I h;refine wpAny_For (thn (hi pins s σ H _ I h) fun v s1 h1=>thn h1 fun itv s2 h2=>?_) hs
 obtain⟨it,fp,tn,J,H2,e,I2,T,st2,f2,W,⟨m0,w0⟩,turn⟩:=h2;subst e
 -- what stays true of the iterator's objects through the loop
 have O:∀{H':Hp},(∀ b∈fp,H' b=none)->∀ b∈fp,FpOk X pins H' b:=fun hn b B=>⟨hn b B,(f2 b B).2⟩
 refine codeAny_forLoop_any (fun n s'=>∃ i Y H',Inv X pins Y H' s'/\tn i s'.heap/\(∀ b∈fp,H' b=none)/\W i n Y H') ?_ m0 ⟨0,σ,H2,I2,st2,fun b B=>(f2 b B).1,w0⟩
 rintro n s3 ⟨i,σ3,H3,I3,st3,fr3,w3⟩;rcases turn i n σ3 H3 w3 with⟨Z,qn⟩|⟨go,N,hN,h3⟩
 ·refine pt hp (thn (T.done X rfl rfl rfl hc i pins s3 σ3 H3 X.xe I3 (O fr3) st3 Z) fun r s4 ⟨hr,I4⟩=>?_)
  subst hr;exact fT ⟨σ3,H3,I4,qn⟩
 ·refine pt hp (thn (T.item X rfl rfl rfl hc i pins s3 σ3 H3 X.xe I3 (O fr3) st3 go) fun r s4 ⟨u,hr,h4⟩=>?_)
  subst hr;refine pt hp (thn h4 fun _ s5 ⟨x,H5,I5,r5,y5,st5,fr5⟩=>?_)
  have I5':=I5.pinned (O fr5) (T.obj _ _ st5);refine pt hp (thn (hg _ s5 σ3 H5 x u _ I5' r5 (h3 x H5 y5)) fun _ s6 ⟨σ6,H6,I6,q6⟩=>?_)
  refine pt hp (thn (B _ s6 σ6 H6 _ I6 q6) fun f s7 q7=>?_)
  have U:∀{z:St} {H7:Hp},Inv X (pins++ka fp s5.heap) z H7 s7->N z H7->∃ m,m<n/\∃ i Y H',Inv X pins Y H' s7/\tn i s7.heap/\(∀ b∈fp,H' b=none)/\W i m Y H':=fun{z H7} I7 n7=>by
   obtain⟨m',hm,w7⟩:=hN z H7 n7;refine⟨m',hm,i+1,z,H7,I7.unpinned,T.keep _ _ _ st5 fun b B o e=>(I7.pin (b,o) (gF _ (gF _ (kf B e)))).1,fun b B=>?_,w7⟩
   obtain⟨o,e,d⟩:=T.obj _ _ st5 b B;exact(I7.pin (b,o) (gF _ (gF _ (kf B e)))).2.1
  cases f with
  | next=>obtain⟨z,H7,I7,n7⟩:=q7;exact U I7 n7
  | cont=>obtain⟨z,H7,I7,n7⟩:=q7;exact U I7 n7
  | brk=>obtain⟨z,H7,I7,q7⟩:=q7;exact⟨z,H7,I7.unpinned,q7⟩
  | ret v=>obtain⟨x7,z,H7,I7,r7,q7⟩:=q7;exact⟨x7,z,H7,I7.unpinned,r7,q7⟩
end
abbrev R2:=V->V->Hp->VK->Prop
def OpR(X:Cx)(f:Value->Value->Sem Value)(r:R2):Prop :=
 ∀(pins:List (Addr×Obj)) (s:Shared) (σ:St) (H:Hp) (x y:V) (v u:Value) (Q:VK),Inv X pins σ H s->RelV x v->RelV y u->r x y H Q ->
  wpAny (model X.prog X.w) X.A (f v u) (EP X pins σ Q) X.xe s
def wP(X:Cx)(f:Value)(r:List V->Hp->VK->Prop):Prop :=
 ∀(pins:List (Addr×Obj)) (s:Shared) (σ:St) (H:Hp) (xs:List V) (us:List Value) (Q:VK),Inv X pins σ H s->Vals xs us->r xs H Q ->
  wpAny (model X.prog X.w) X.A (call f us) (EP X pins σ Q) X.xe s
def TruR(X:Cx)(r:V->Hp->(Bool->Hp->Prop)->Prop):Prop :=
 ∀(pins:List (Addr×Obj)) (s:Shared) (σ:St) (H:Hp) (x:V) (v:Value) (Q:Bool->Hp->Prop),Inv X pins σ H s->RelV x v->r x H Q ->
  wpAny (model X.prog X.w) X.A (truthy v) (TP X pins σ Q) X.xe s
def tOp(r:R2)(ta tb:TE):TE:=fun σ H Q=>ta σ H fun x H1=>tb σ H1 fun y H2=>r x y H2 Q
def rI(C:Int->Int->Prop)(g:Int->Int->V):R2:=fun x y H Q=>∃ i j,x=.int i/\y=.int j/\C i j/\Q (g i j) H
def rI0(g:Int->Int->V):R2:=fun x y H Q=>∃ i j,x=.int i/\y=.int j/\Q (g i j) H
section
variable{X:Cx}{a b c:Expr}{ta tb tc:TE}{pos:Pos}
theorem GB(B:PE X a ta)(O:PE X b tb){pins:List (Addr×Obj)}{s:Shared}{σ:St}{H:Hp}{R:V->V->Hp->Prop}(I:Inv X pins σ H s)
  (h:ta σ H fun x H1=>tb σ H1 fun y H2=>R x y H2){Q:Value->Shared->Prop}{f:Value->Value->Sem Value}
  (U:∀ v u s2 x y H2,Inv X pins σ H2 s2->RelV x v->RelV y u->R x y H2->wpAny (model X.prog X.w) X.A (f v u) Q X.xe s2) :
  wpAny (model X.prog X.w) X.A (eval a X.env) (fun v z=>wpAny (model X.prog X.w) X.A (eval b X.env) (fun u s₂=>wpAny (model X.prog X.w) X.A (f v u) Q X.xe s₂) X.xe z) X.xe s:=by
 refine thn (B pins s σ H _ I h) fun v s1 ⟨x,H1,I1,r1,q1⟩=>?_
 refine thn (O pins s1 σ H1 _ I1 q1) fun u s2 ⟨y,H2,I2,r2,q2⟩=>?_
 exact U v u s2 x y H2 I2 r1 r2 q2
theorem augR{op:Operator}{r:R2}(z:OpR X (inplaceOp op) r){pins:List (Addr×Obj)}{s:Shared}{σ:St}{H:Hp}{x y:V}{v u:Value}{Q:VK}(I:Inv X pins σ H s)
  (B:RelV x v)(O:RelV y u)(q:r x y H Q):wpAny (model X.prog X.w) X.A (inplaceOp op v u) (EP X pins σ Q) X.xe s:=z pins s σ H x y v u Q I B O q
theorem opI{f:Value->Value->Sem Value}{C:Int->Int->Prop}{g:Int->Int->Int}
  (z:∀(i j:Int) (t u:Tok) (s:Shared) (Q:Value->Shared->Prop) (E:Value->Shared->Prop),C i j->Q (.int (g i j) s.toks) {s with toks:=s.toks+1}->wpAny (model X.prog X.w) X.A (f (.int i t) (.int j u)) Q E s) :
  OpR X f (rI C fun i j=>.int (g i j)):=by
 intro pins s σ H x y v u Q I rx ry h;obtain⟨i,j,rfl,rfl,hc,q⟩:=h;obtain⟨t,rfl⟩:=rx;obtain⟨t',rfl⟩:=ry;exact z i j t t' s _ _ hc ⟨.int (g i j),H,I.tok _,⟨_,rfl⟩,q⟩
theorem opI0{f:Value->Value->Sem Value}{g:Int->Int->Int}
  (z:∀(i j:Int) (t u:Tok) (s:Shared) (Q:Value->Shared->Prop) (E:Value->Shared->Prop),Q (.int (g i j) s.toks) {s with toks:=s.toks+1}->wpAny (model X.prog X.w) X.A (f (.int i t) (.int j u)) Q E s) :
  OpR X f (rI0 fun i j=>.int (g i j)):=by
 intro pins s σ H x y v u Q I rx ry h;obtain⟨i,j,rfl,rfl,q⟩:=h;obtain⟨t,rfl⟩:=rx;obtain⟨t',rfl⟩:=ry;exact z i j t t' s _ _ ⟨.int (g i j),H,I.tok _,⟨_,rfl⟩,q⟩
theorem opB0{f:Value->Value->Sem Value}{g:Int->Int->Bool}
  (z:∀(i j:Int) (t u:Tok) (s:Shared) (Q:Value->Shared->Prop) (E:Value->Shared->Prop),Q (.bool (g i j)) s->wpAny (model X.prog X.w) X.A (f (.int i t) (.int j u)) Q E s) :
  OpR X f (rI0 fun i j=>.bl (g i j)):=by
 intro pins s σ H x y v u Q I rx ry h;obtain⟨i,j,rfl,rfl,q⟩:=h;obtain⟨t,rfl⟩:=rx;obtain⟨t',rfl⟩:=ry;exact z i j t t' s _ _ ⟨.bl (g i j),H,I,rfl,q⟩
def CDiv(i j:Int):Prop:=0<j/\j<1073741824
def CMul(i j:Int):Prop:=(-(2 ^ 64)<i/\i<2 ^ 64)∨(-(2 ^ 64)<j/\j<2 ^ 64)
theorem CMul.ok{i j:Int}(h:CMul i j):IntMulOk i j:=by
 rcases h with⟨h1,h2⟩|⟨h1,h2⟩
 ·exact .of_left (intBits_le_64 h1 h2)
 ·exact .of_right (intBits_le_64 h1 h2)
theorem GC:OpR X (binaryOp .Add) (rI0 fun i j=>.int (i+j)):=opI0 fun _ _ _ _ _ _ _ q=>add_int q
theorem GD:OpR X (binaryOp .Sub) (rI0 fun i j=>.int (i-j)):=opI0 fun _ _ _ _ _ _ _ q=>sub_int q
theorem GE:OpR X (binaryOp .Mult) (rI CMul fun i j=>.int (i*j)):=opI fun _ _ _ _ _ _ _ hc q=>mul_int q hc.ok
theorem GG:OpR X (binaryOp .FloorDiv) (rI CDiv fun i j=>.int (i/j)):=opI fun i j _ _ _ _ _ hc q=>by
 have h1:(0:Int)<j:=hc.1;have h2:j<1073741824:=hc.2;exact floordiv_int (by omega) (by rw [Int.fdiv_eq_ediv_of_nonneg i (by omega)];exact q) (.inl (PyProof.noPylong_small (by omega)))
theorem GH:OpR X (binaryOp .Mod) (rI (fun _ j=>0<j) fun i j=>.int (i%j)):=opI fun i j _ _ _ _ _ hc q=>by
 have h1:(0:Int)<j:=hc;exact mod_int' (by omega) (by rw [Int.fmod_eq_emod_of_nonneg i (by omega)];exact q)
theorem GI:OpR X (inplaceOp .Add) (rI0 fun i j=>.int (i+j)):=opI0 fun _ _ _ _ _ _ _ q=>iadd_int q
theorem GJ:OpR X (inplaceOp .Sub) (rI0 fun i j=>.int (i-j)):=opI0 fun _ _ _ _ _ _ _ q=>isub_int q
end
def scal:V->V->Bool
 | .non,.non=>true|.non,.int _=>true|.int _,.non=>true|.non,.bl _=>true|.bl _,.non=>true|.non,.str _=>true|.str _,.non=>true
 | .int _,.int _=>true|.bl _,.bl _=>true|.str _,.str _=>true|.byt _,.byt _=>true
 | .int _,.str _=>true|.str _,.int _=>true|.bl _,.str _=>true|.str _,.bl _=>true
 | _,_=>false
section
variable{X:Cx}{a b c:Expr}{ta tb tc:TE}{pos:Pos}
theorem YO{pins:List (Addr×Obj)}{σ:St}{H:Hp}{s:Shared}{Q:VK}{k z:Bool}(I:Inv X pins σ H s)(q:Q (.bl k) H)(e:k=z):EP X pins σ Q (.bool z) s:=by
 subst e;exact⟨.bl k,H,I,rfl,q⟩
theorem GK:OpR X (compareOp .Lt) (rI0 fun i j=>.bl (decide (i<j))):=opB0 fun _ _ _ _ _ _ _ q=>lt_int q
theorem GL:OpR X (compareOp .LtE) (rI0 fun i j=>.bl (decide (i<=j))):=opB0 fun _ _ _ _ _ _ _ q=>le_int q
theorem GO:OpR X (compareOp .Gt) (rI0 fun i j=>.bl (decide (j<i))):=opB0 fun _ _ _ _ _ _ _ q=>gt_int q
theorem GP:OpR X (compareOp .Is) (fun x y H Q=>y=.non/\Q (.bl (decide (x=.non))) H):=by
 intro pins s σ H x y v u Q I rx ry h;obtain⟨rfl,q⟩:=h;cases ry;refine is_none_gen (YO I q ?_);cases x<;>first
  | (cases rx;rfl)
  | (obtain⟨t,rfl⟩:=rx;rfl)
theorem GQ:OpR X (compareOp .IsNot) (fun x y H Q=>y=.non/\Q (.bl (!decide (x=.non))) H):=by
 intro pins s σ H x y v u Q I rx ry h;obtain⟨rfl,q⟩:=h;cases ry;refine isnot_none_gen (YO I q ?_);cases x<;>first
  | (cases rx;rfl)
  | (obtain⟨t,rfl⟩:=rx;rfl)
def TruV(K:Frag)(x:V)(H:Hp)(k:Bool):Prop :=
 match x with
 | .non=>k=false
 | .bl b=>k=b
 | .int i=>k=(i != 0)
 | .str y=>y.length<=sizeLine/\k=((y.length:Int) != 0)
 | .byt y=>y.size<=sizeLine/\k=((y.size:Int) != 0)
 | .ref p=>(∃ xs,SqL K H p xs/\k=!xs.isEmpty)∨(∃ xs,SqT K H p xs/\k=!xs.isEmpty)∨∃ kvs,H p=some (.dK kvs)/\k=!kvs.isEmpty
 | _=>False
theorem GR{κ:Type}{kvs:List (κ×V)}{vs:List (κ×Value)}(r:KV kvs vs):(!vs.isEmpty)=!kvs.isEmpty:=by
 cases r<;>rfl
theorem YQ{xs:List V}{its:List Value}(r:Vals xs its):(!its.toArray.isEmpty)=!xs.isEmpty:=by
 cases r<;>simp
theorem xD:(sizeLine:Nat)<2 ^ 63:=by rw [fm];decide
theorem GS:TruR X (fun x H Q=>∃ k,TruV X.K x H k/\Q k H):=by
 intro pins s σ H x v Q I rx h;obtain⟨k,e,q⟩:=h;have hl:=xD;have hs:sizeLine=16777216:=fm;cases x with
 | non =>
  cases rx;have e':k=false:=e;subst e';exact truthy_none ⟨H,I,q⟩
 | bl b =>
  cases rx;have e':k=b:=e;subst e';exact px ⟨H,I,q⟩
 | int i =>
  obtain⟨t,rfl⟩:=rx;have e':k=(i != 0):=e;subst e';exact PySem.P.truthy_int ⟨H,I,q⟩
 | str y =>
  obtain⟨t,rfl⟩:=rx;obtain⟨hy,e'⟩:y.length<=sizeLine/\k=((y.length:Int) != 0):=e;subst e';exact PySem.P.truthy_str (by omega) ⟨H,I.tok _,q⟩
 | byt y =>
  obtain⟨t,rfl⟩:=rx;obtain⟨hy,e'⟩:y.size<=sizeLine/\k=((y.size:Int) != 0):=e;subst e';exact PySem.W.truthy_bytes (by omega) ⟨H,I.tok _,q⟩
 | ref p =>
  cases rx;have e':(∃ xs,SqL X.K H p xs/\k=!xs.isEmpty)∨(∃ xs,SqT X.K H p xs/\k=!xs.isEmpty)∨∃ kvs,H p=some (.dK kvs)/\k=!kvs.isEmpty:=e;rcases e' with⟨xs,hx,e'⟩|⟨xs,hx,e'⟩|⟨kvs,hx,e'⟩
  ·subst e';obtain⟨its,r,pl,hz⟩:=I.list hx;have z:=r.length;exact wpAny_truthy_list pl.isList (by simp only [gQ];omega) ⟨H,I.tok _,by rw [YQ r];exact q⟩
  ·subst e';obtain⟨its,r,pl,hz⟩:=I.tuple hx;have z:=r.length;exact truthy_tuple pl (by simp only [gQ];omega) ⟨H,I.tok _,by rw [YQ r];exact q⟩
  ·subst e';obtain⟨hz,hS,vs,r,m⟩:kvs.length<=sizeLine/\(p==sysModules)=false/\∃ vs,KV kvs vs/\s.heap.DictOf (qW X.prog X.w) p vs:=I.hok p _ hx;have z:kvs.length=vs.length:=cI r;exact wpAny_truthy_dict hS m (by omega) ⟨H,I.tok _,by rw [GR r];exact q⟩
 | _=>exact(show False from e).elim
theorem xE{x:V}{us:List Value}(r:Vals [x] us):∃ u,us=[u]/\RelV x u:=by
 cases r with
 | cons r1 r2=>cases r2;exact⟨_,rfl,r1⟩
theorem YR{x y:V}{us:List Value}(r:Vals [x,y] us):∃ u w',us=[u,w']/\RelV x u/\RelV y w':=by
 cases r with
 | cons r1 r2 =>
  cases r2 with
  | cons r3 r4=>cases r4;exact⟨_,_,rfl,r1,r3⟩
theorem GT(z:X.calm=true):wP X (.builtin "max") (fun xs H Q=>∃ i j,xs=[.int i,.int j]/\Q (.int (if j>i then j else i)) H):=by
 intro pins s σ H xs us Q I r h;obtain⟨i,j,rfl,q⟩:=h;obtain⟨u,w',rfl,⟨t,rfl⟩,⟨t',rfl⟩⟩:=YR r;refine max_two_ints (I.ok.hd z) fun h' tk k=>⟨_,H,I.kept k,?_,q⟩
 by_cases hj:j>i
 ·rw [gB hj,gB hj];exact⟨_,rfl⟩
 ·rw [gD hj,gD hj];exact⟨_,rfl⟩
theorem GU(z:X.calm=true):wP X (.builtin "min") (fun xs H Q=>∃ i j,xs=[.int i,.int j]/\Q (.int (if j<i then j else i)) H):=by
 intro pins s σ H xs us Q I r h;obtain⟨i,j,rfl,q⟩:=h;obtain⟨u,w',rfl,⟨t,rfl⟩,⟨t',rfl⟩⟩:=YR r;refine min_two_ints (I.ok.hd z) fun h' tk k=>⟨_,H,I.kept k,?_,q⟩
 by_cases hj:j<i
 ·rw [gB hj,gB hj];exact⟨_,rfl⟩
 ·rw [gD hj,gD hj];exact⟨_,rfl⟩
theorem GV:wP X (.type "str") (fun xs H Q=>∃ i,xs=[.int i]/\i.natAbs.log2<1920/\Q (.str (toString i)) H):=by
 intro pins s σ H xs us Q I r h;obtain⟨i,rfl,hz,q⟩:=h;obtain⟨u,rfl,t,rfl⟩:=xE r;exact PySem.P.str_of_int hz ⟨.str _,H,I.tok _,⟨_,rfl⟩,q⟩
end
theorem GW{h:Heap}{dx:Addr}{mA:Str->Option Value}(n:h.Ns1 dx mA):∃ od,h.get? dx=some od/\∀ name,PySem.W.lookIn name od=some (mA name):=by
 obtain⟨o,es,ep,ho,hd,hk,_,hm⟩:=n;refine⟨o,ho,fun name=>?_⟩
 have e:=hm name;unfold nsFind findBy at e;rw [<- Array.find?_toList]at e;unfold PySem.W.lookIn;rw [hd];dsimp only;split
 ·rename_i y q;rw [q]at e;exact congrArg some e
 ·rename_i q;rw [q]at e;have a:es.toList.any (·.refKey)=false:=by
   rw [List.any_eq_false];intro y hy;obtain⟨z,t,B⟩:=hk y (Array.mem_toList_iff.mp hy);simp [DictEntry.refKey,B]
  have a':¬ es.toList.any (·.refKey)=true:=by rw [a];exact fw
  rw [gD a'];exact congrArg some e
section
variable{prog:Program}{w:World}{A:Around}{E:Value->Shared->Prop}{s:Shared}{K:Frag}{x dx C f:Addr}{mA:Str->Option Value}{name:Str}{v:Value}
end
theorem RelO.some_of{v:V}{o:Option Value}(r:RelO (some v) o):∃ u,o=some u/\RelV v u:=by
 cases o with
 | none=>exact(show False from r).elim
 | some u=>exact⟨u,rfl,r⟩
section
variable{P:Program}{w:World}{H H':Hp}{h h':Heap}{a C dx:Addr}{fs fs':List (Str×V)}
end
section
variable{X:Cx}{pins:List (Addr×Obj)}{σ:St}{H:Hp}{s:Shared}{a C dx:Addr}{fs:List (Str×V)}{f:Str}{v:V}{A:Around}{E:Value->Shared->Prop}
theorem GX{prog:Program}{w:World}{env:Env}{e:Expr}{f:Str}{pos:Pos}{s:Shared}{Q:Value->Shared->Prop}(B:attributeBase e f env (eval e env)=eval e env)
  (h:wpAny (model prog w) A (eval e env) (fun o z=>wpAny (model prog w) A (getAttr o f true) Q E z) E s):wpAny (model prog w) A (eval (.Attribute e f pos) env) Q E s :=
 Attribute_any_ h (by rw [arm_eval_Attribute,B])
end
section
variable{X:Cx}{o e value:Expr}{f:Str}{pos pos' tpos:Pos}{ta tv:TE}
end
section
variable{X:Cx}{pins:List (Addr×Obj)}{σ:St}{H:Hp}{s:Shared}{A:Around}{E:Value->Shared->Prop}{Q:Value->Shared->Prop}{c:Value}{b:Bool}
end
structure Room(k:Nat)(A:Around):Prop where
 hd:A.handled=none
 dp:A.depth+3*k+5<recursionLimit
 un:A.units+16*k+200<cLine
theorem Room.mono{j k:Nat}{A:Around}(r:Room k A)(h:j<=k):Room j A:=⟨r.hd,by have:=r.dp;omega,by have:=r.un;omega⟩
theorem Room.deeper{k:Nat}{A:Around}(r:Room (k+1) A)(env:Env):Room k (A.deeper env) :=
 ⟨r.hd,by have:=r.dp;show A.depth+1+3*k+5<_;omega,by have:=r.un;show A.units+3+16*k+200<_;omega⟩
theorem GY{A:Around}{C:Addr}{us:List Value}{z:List (Str×Value)}:(A.under (.builtin "type.__call__" ⟨.ref C::us,z⟩)).depth=A.depth+1:=by
 first|rfl|simp [Around.under,Code.weight,Code.isCreation,Code.isGuard,Code.isCaller,Code.frames,Code.isFrame,guardIds]
theorem GZ{A:Around}{C:Addr}{us:List Value}{z:List (Str×Value)}:(A.under (.builtin "type.__call__" ⟨.ref C::us,z⟩)).units=A.units+1:=by
 first|rfl|simp [Around.under,Code.cUnits,Code.frames,Code.isFrame]
theorem Room.make{k:Nat}{A:Around}(r:Room (k+1) A)(C:Addr)(us:List Value)(z:List (Str×Value)):Room k (A.under (.builtin "type.__call__" ⟨.ref C::us,z⟩)) :=
 ⟨r.hd,by have:=r.dp;rw [GY];omega,by have:=r.un;rw [GZ];omega⟩
theorem Room.depth{k:Nat}{A:Around}(r:Room k A):A.depth<recursionLimit:=by have:=r.dp;omega
def T0:TA:=fun _ H Q=>Q [] H
def T3(ta:TE)(z:TA):TA:=fun σ H Q=>ta σ H fun x H1=>z σ H1 fun xs H2=>Q (x::xs) H2
section
variable{X:Cx}{e:Expr}{es:List Expr}{te:TE}{t:TA}{pos:Pos}
theorem w9:PA X [] T0:=fun _ _ _ _ H Q I h=>t7 ⟨[],H,I,.nil,h⟩
theorem vJ(z:PE X e te)(B:PA X es t)(O:starEach (e::es) X.env=(false,eval e X.env)::starEach es X.env:=by rfl):PA X (e::es) (T3 te t):=by
 intro pos pins s σ H Q I h;rw [O];show wpAny _ _ (spliced ((false,eval e X.env)::backTo pos (starEach es X.env))) _ _ s;refine gJ (thn (z pins s σ H _ I h) fun u s1 ⟨x,H1,I1,r1,q1⟩=>?_)
 exact thn (B pos pins s1 σ H1 _ I1 q1) fun us s2 ⟨xs,H2,I2,r2,q2⟩=>⟨x::xs,H2,I2,.cons r1 r2,q2⟩
end
abbrev Sp:=List V->Hp->VK->XK->Prop
abbrev CXT:=List Env->Hp->Shared->XK->Value->Shared->Prop
structure Env0(P:Program)(w:World)(K:Frag)(mg:Str->Option Value)(base:Heap)(A:Around)(outer:List Env)(s:Shared)(H:Hp):Prop where
 frames:A.frames=some outer
 mod:Mod K mg base
 bs:∀ b o,base.get? b=some o->s.heap.get? b=some o/\H b=none
 bsz:base.objs.size<=s.heap.objs.size
 funs:s.heap.FunFrames base outer
 frf:∀ b∈frs outer,H b=none
 hok:HOk P w H s.heap
 bare:AllBare s.gens
def CE(outer:List Env)(P:Program)(w:World)(H:Hp)(s:Shared)(Q:VK)(u:Value)(s':Shared):Prop :=
 ∃ v H',s'.os=s.os/\AllBare s'.gens/\Un (frs outer) [] H H' s.heap s'.heap/\HOk P w H' s'.heap/\RelV v u/\Q v H'
def CR(CX:CXT)(outer:List Env)(P:Program)(w:World)(H:Hp)(s:Shared)(Q:VK)(E:XK)(r:Result)(s':Shared):Prop :=
 match r with
 | .ok (.ret u)=>CE outer P w H s Q u s'
 | .ok _=>False
 | .error e=>CX outer H s E e s'
structure FnOk(P:Program)(w:World)(K:Frag)(mg:Str->Option Value)(base:Heap)(CX:CXT)(k:Nat)(f:Addr)(fd:FuncData)(ps:List Str)(sp:Sp):Prop where
 len:∀ vs H Q E,sp vs H Q E->vs.length=ps.length
 run:∀(A:Around) (outer:List Env) (s:Shared) (H:Hp) (args:Args) (us:List Value) (vs:List V) (Q:VK) (E:XK),Room k A->Env0 P w K mg base A outer s H->BindsTo s fd args (ps.zip us)->Vals vs us->sp vs H Q E ->
  codeAny (model P w) A (.call (.ref f) args) (CR CX outer P w H s Q E) s
theorem Env0.make{P:Program}{w:World}{K:Frag}{mg:Str->Option Value}{base:Heap}{A:Around}{outer:List Env}{s:Shared}{H:Hp}(e:Env0 P w K mg base A outer s H)(C:Addr)(us:List Value)(z:List (Str×Value)) :
  Env0 P w K mg base (A.under (.builtin "type.__call__" ⟨.ref C::us,z⟩)) outer s H:=⟨by first|exact e.frames|(simpa [Around.under,Code.envs,Code.isFrame,pushEnvs]using e.frames),e.mod,e.bs,e.bsz,e.funs,e.frf,e.hok,e.bare⟩
section
variable{X:Cx}{pins:List (Addr×Obj)}{σ:St}{H:Hp}{s s':Shared}
theorem Inv.env0(I:Inv X pins σ H s):Env0 X.prog X.w X.K X.mg X.base X.A X.stack s H :=
 ⟨I.ok.frames,I.ok.mod,I.bs,t8 I.ok.bsz I.sz,I.stack,I.stkFree,I.hok,I.bare⟩
theorem Inv.after{Q:VK}{u:Value}(I:Inv X pins σ H s)(h:CE X.stack X.prog X.w H s Q u s'):EP X pins σ Q u s':=by
 obtain⟨v,H',os,B,un,O,r,q⟩:=h;obtain⟨hh,g,d,t,U⟩:=s';obtain rfl:U=s.os:=os;exact⟨v,H',I.call (h':=hh) (g':=g) (d':=d) (t':=t) (ch:=[]) un O B (fun b z=>absurd z (by simp)),r,q⟩
end
def Binds(K:Frag)(fd:FuncData)(ps:List Str)(ds:List Value):Prop :=
 ∀(s:Shared) (us:List Value),K.In s.heap->(us++ds).length=ps.length->BindsTo s fd ⟨us,[]⟩ (ps.zip (us++ds))
theorem Binds.all{K:Frag}{fd:FuncData}{ps:List Str}(h:∀ us:List Value,us.length=ps.length->bindArgs fd ⟨us,[]⟩=pure (ps.zip us)):Binds K fd ps []:=fun s us _ hl=>by
 rw [tP]at hl ⊢;exact .of_eq (h us hl)
def YS(CX:CXT)(X:Cx)(E:XK):Prop:=∀(pins:List (Addr×Obj)) (σ:St) (H:Hp) (s:Shared) (e:Value) (s':Shared),Inv X pins σ H s->CX X.stack H s E e s'->X.xe e s'
section
variable{X:Cx}{CX:CXT}{k:Nat}{f C:Addr}{fd:FuncData}{ps:List Str}{sp:Sp}{dvs:List V}{ds:List Value}{E:XK}{x m:Str}{p pos apos:Pos}{e o:Expr}{es:List Expr}{ta:TE}{t:TA}
theorem uO{pins:List (Addr×Obj)}{σ:St}{H:Hp}{s:Shared}{Q:VK}{us:List Value}{vs:List V}(F:FnOk X.prog X.w X.K X.mg X.base CX k f fd ps sp)(z:Room k X.A)(B:Binds X.K fd ps ds)(hd:Vals dvs ds)(O:YS CX X E)
  (I:Inv X pins σ H s)(r:Vals vs us)(h:sp (vs++dvs) H Q E):wpAny (model X.prog X.w) X.A (call (.ref f) us) (EP X pins σ Q) X.xe s:=by
 have r2:Vals (vs++dvs) (us++ds):=r.append hd;have hl:(us++ds).length=ps.length:=by rw [<- r2.length];exact F.len _ _ _ _ h
 refine py (pU (F.run X.A X.stack s H ⟨us,[]⟩ (us++ds) (vs++dvs) Q E z I.env0 (B s us I.kIn hl) r2 h) fun r s' hq=>?_)
 cases r with
 | error e=>exact O pins σ H s e s' I hq
 | ok fl =>
  cases fl with
  | ret u=>exact I.after hq
  | next=>exact False.elim hq
  | brk=>exact False.elim hq
  | cont=>exact False.elim hq
end
section
variable{X:Cx}{CX:CXT}{k:Nat}{f C:Addr}{fd:FuncData}{ps ks:List Str}{sp:Sp}{E:XK}{x m:Str}{p pos apos kpos:Pos}{e o:Expr}{es:List Expr}{kws:List Keyword}{te ta:TE}{t tk:TA}{nm:Option Str}
variable{g:List Value->List Value->List Value}{gV:List V->List V->List V}
end
structure FnScope(N P:List Str)(sc:Scope):Prop where
 kind:sc.kind=.function
 co:sc.isCoroutine=false
 gen:sc.isGenerator=false
 nd:N.Nodup
 pre:N.take P.length=P
 par:∀ x∈P,sc.names.lookup x=some .local∨sc.names.lookup x=some .cell
 nofree:∀ y∈sc.names,y.2≠.free
theorem YT{z:Str->Option NameKind}{x:Str}:∀{binds:List (Str×Value)} {m:Str->Option Value},(∀ v,(x,v)∉binds)->bindL z binds m x=m x
 | [],_,_=>rfl
 | (n,v)::r,m,h=>by
  unfold bindL;rw [YT fun w hw=>h w (gp _ hw)]
  split
  ·have:x≠n:=by rintro rfl;exact h v gY
   simp [this]
  ·rfl
theorem YU{z:Str->Option NameKind}{x:Str}:∀{binds:List (Str×Value)} {m:Str->Option Value},(∀ v,(x,v)∉binds)->bindC z binds m x=m x
 | [],_,_=>rfl
 | (n,v)::r,m,h=>by
  unfold bindC;rw [YU fun w hw=>h w (gp _ hw)]
  split
  ·rfl
  ·have:x≠n:=by rintro rfl;exact h v gY
   simp [this]
theorem YV{z:Str->Option NameKind}{x:Str}{v:Value}:∀{P:List Str} {vs:List Value} {i:Nat} {m:Str->Option Value},P.Nodup->P[i]?=some x->vs[i]?=some v->z x=some .local ->
  bindL z (P.zip vs) m x=some v
 | [],_,_,_,_,h,_,_=>by simp at h
 | _::_,[],_,_,_,_,h,_=>by simp at h
 | p::P,w::vs,0,m,nd,h1,h2,hk=>by
  simp at h1 h2;subst h1;subst h2;show bindL z ((p,w)::P.zip vs) m p=_;unfold bindL;rw [YT fun v hv=>(tf.mp nd).1 (List.of_mem_zip hv).1,gB hk]
  simp
 | p::P,w::vs,i+1,m,nd,h1,h2,hk=>by
  show bindL z ((p,w)::P.zip vs) m x=_;unfold bindL;exact YV (i:=i) (tf.mp nd).2 (by simpa using h1) (by simpa using h2) hk
theorem YW{z:Str->Option NameKind}{x:Str}{v:Value}:∀{P:List Str} {vs:List Value} {i:Nat} {m:Str->Option Value},P.Nodup->P[i]?=some x->vs[i]?=some v->z x≠some .local ->
  bindC z (P.zip vs) m x=some v
 | [],_,_,_,_,h,_,_=>by simp at h
 | _::_,[],_,_,_,_,h,_=>by simp at h
 | p::P,w::vs,0,m,nd,h1,h2,hk=>by
  simp at h1 h2;subst h1;subst h2;show bindC z ((p,w)::P.zip vs) m p=_;unfold bindC;rw [YU fun v hv=>(tf.mp nd).1 (List.of_mem_zip hv).1,gD hk]
  simp
 | p::P,w::vs,i+1,m,nd,h1,h2,hk=>by
  show bindC z ((p,w)::P.zip vs) m x=_;unfold bindC;exact YW (i:=i) (tf.mp nd).2 (by simpa using h1) (by simpa using h2) hk
def jR(N:List Str)(vs:List V):St:=vs.map some++List.replicate (N.length-vs.length) none
def cxOf(CX:CXT)(P:Program)(w:World)(K:Frag)(mg:Str->Option Value)(base:Heap)(N:List Str)(z:Str)(scope:Scope)(f:Addr)(cd:Value)(A:Around)(outer:List Env)(s:Shared)(H:Hp)(E:XK):Cx where
 prog:=P
 w:=w
 K:=K
 mg:=mg
 base:=base
 A:=A.deeper (envOfC z scope s.heap.objs.size f cd)
 N:=N
 s₀:=s
 H₀:=H
 env:=envOfC z scope s.heap.objs.size f cd
 outer:=outer
 stack:=envOfC z scope s.heap.objs.size f cd::outer
 ex:=[]
 calm:=true
 fn:=fun _=>true
 pn:=[]
 xe:=fun e s'=>wpAny (model P w) (A.deeper (envOfC z scope s.heap.objs.size f cd)) (leaving (envOfC z scope s.heap.objs.size f cd) e) (fun _ B=>CX outer H s E e B) (fun e' B=>CX outer H s E e' B) s'
theorem YX{z:Scope}{n:Nat}{x:Str}(h:z.names.lookup x=some .cell):∃ c,(cellsFrom n z.names []).lookup x=some c:=by
 have q:=cellsFrom_some z.names n [] (.inl h);exact Option.isSome_iff_exists.mp q
theorem YY{CX:CXT}{P:Program}{w:World}{K:Frag}{mg:Str->Option Value}{base:Heap}{N ps:List Str}{B:Str}{scope:Scope}{f:Addr}{cd:Value}{A:Around}{outer:List Env}{s Y:Shared}{H:Hp}{E:XK}{us:List Value}{vs:List V}
  (S:FnScope N ps scope)(hd:A.handled=none)(O:Env0 P w K mg base A outer s H)(hl:vs.length=ps.length)(r:Vals vs us)
  (x:InCallC s s.heap.objs.size (bindL (envOfC B scope s.heap.objs.size f cd).kindOf (ps.zip us) fun _=>none) (cellsFrom (s.heap.objs.size+1) scope.names []) (bindC (envOfC B scope s.heap.objs.size f cd).kindOf (ps.zip us) fun _=>none) Y) :
  Inv (cxOf CX P w K mg base N B scope f cd A outer s H E) [] (jR N vs) H Y:=by
 have Z:ps.length<=N.length:=by have:=congrArg List.length S.pre;rw [df]at this;omega
 obtain⟨h1,tk,rfl,hk⟩:=x.done;have U:∀ b:Addr,b∉(cxOf CX P w K mg base N B scope f cd A outer s H E).ex:=fun b z=>absurd (show b∈([]:List Addr)from z) (by simp)
 refine⟨⟨O.mod,S.kind,rfl,rfl,gw _,fun y z c h1 h2=>?_,fun y hy=>?_,fun y c _ h=>?_,fun _=>hd,Around.frames_deeper O.frames,.inr ⟨rfl,rfl⟩,fun b z=>absurd z (U b),O.bs,O.bsz,fun b _ _=>U b,fun b z=>absurd z (U b),O.funs,O.frf⟩,
  rfl,O.bare,Un.kept hk,⟨_,x.toInCall.ns,fun i y v h1 h2 h3=>?_⟩,fun y c h=>⟨_,x.cell y c h⟩,O.hok.fresh (gw _),fun y c h=>?_,fun p hp=>absurd (show p∈([]:List (Addr×Obj))from hp) (by simp),O.hok.kept hk,?_⟩
 ·exact name_of_addr x.apart (pF h1) (pF h2)
 ·have hy:scope.names.lookup y=some .cell∨scope.names.lookup y=some .free:=hy;rcases hy with hy|hy
  ·exact YX hy
  ·exact absurd rfl (S.nofree _ (pF hy))
 ·exact tF (x.above y c (pF h))
 ·have hi:i<vs.length:=by
   unfold jR at h2;by_cases hi:i<vs.length
   ·exact hi
   ·rw [t4 (by simpa using hi)]at h2
    rw [fx]at h2;split at h2<;>cases h2
  have ha:vs[i]?=some v:=by
   unfold jR at h2;rw [hW (by simpa using hi),gX]at h2
   cases e:vs[i]? with
   | none=>rw [e]at h2;cases h2
   | some a=>rw [e]at h2;cases h2;rfl
  obtain⟨u,hu,rv⟩:=r.get ha;have hp:ps[i]?=some y:=by
   rw [<- S.pre,List.getElem?_take_of_lt (by omega)];exact h1
  have W:ps.Nodup:=by rw [<- S.pre];exact S.nd.sublist (List.take_sublist _ _)
  refine⟨u,rv,?_⟩;rcases S.par y (tY hp)with k|k
  ·exact .inl ⟨k,YV W hp hu k⟩
  ·obtain⟨c,e⟩:=YX (n:=s.heap.objs.size+1) k;refine .inr ⟨.inl k,c,e,?_⟩;have q:=x.cell y c e;rw [YW W hp hu (by show scope.names.lookup y≠_;rw [k];decide)]at q
   exact q
 ·exact O.hok.fresh (tF (x.above y c (pF h)))
 ·unfold jR;show _=N.length;rw [f8,gy,List.length_replicate];omega
theorem YZ{CX:CXT}{P:Program}{w:World}{K:Frag}{mg:Str->Option Value}{base:Heap}{k:Nat}{f:Addr}{name z:Str}{O:Arguments}{body:List Stmt}{scope:Scope}{dV kV doc pm B ct oc:Value}{an od:Option Addr}
  {osl:Array (Option Value)}{N ps:List Str}{sp:Sp}(lk:K.lookup f=some ⟨oc,od,.func (PySem.W.fnOf name z O body scope dV kV doc pm an B ct),osl⟩)(hcd:codeIn K B z=true)(S:FnScope N ps scope)
  (len:∀ vs H Q E,sp vs H Q E->vs.length=ps.length)
  (Y:∀(A:Around) (outer:List Env) (s:Shared) (H:Hp) (vs:List V) (Q:VK) (E:XK),Room k (A.deeper (envOfC z scope s.heap.objs.size f B))->sp vs H Q E ->
   ∃ t,PSs (cxOf CX P w K mg base N z scope f B A outer s H E) body t/\t {nx:=fun _ H'=>Q .non H',rt:=Q} (jR N vs) H) :
  FnOk P w K mg base CX (k+1) f (PySem.W.fnOf name z O body scope dV kV doc pm an B ct) ps sp:=by
 refine⟨len,fun A outer s H args us vs Q E hr e0 hb r hsp=>?_⟩
 have hl:=len _ _ _ _ hsp;have KX:K.In s.heap:=e0.mod.kin.keeps fun b o e=>(e0.bs b o e).1
 have lim:s.heap.NoLimit:=e0.mod.nolimit.keeps fun b o e=>(e0.bs b o e).1
 have Z:∀ y∈ps.zip us,scope.names.lookup y.1=some .local∨(scope.names.lookup y.1=some .cell/\((cellsFrom (s.heap.objs.size+1) scope.names []).lookup y.1).isSome=true):=fun⟨n,v⟩ hy=>by
  rcases S.par n (List.of_mem_zip hy).1 with q|q
  ·exact .inl q
  ·exact .inr ⟨q,cellsFrom_some _ _ _ (.inl q)⟩
 refine codeAny_call_function hr.depth (KX _ _ lk) rfl S.co S.gen rfl (codeRec_of KX hcd) (hb _ _ _ _ ?_);refine wpAny_newFunctionEnv_cells S.kind Z fun env he s1 x=>?_
 subst he;refine⟨lim.keeps x.toInCall.keep,codeAny_func ?_⟩;obtain⟨t,ht,hq⟩:=Y A outer s H vs Q E (hr.deeper _) hsp;have I:Inv (cxOf CX P w K mg base N z scope f B A outer s H E) [] (jR N vs) H s1:=YY S hr.hd e0 hl r x;refine fq (ht [] s1 (jR N vs) H _ I hq) (fun fl s' hs=>?_) fun e s' hs=>hs
 have fin:∀{U:St} {H':Hp} {v:V} {u:Value},Inv (cxOf CX P w K mg base N z scope f B A outer s H E) [] U H' s'->RelV v u->Q v H'->CE outer P w H s Q u s' :=
  fun{U H' v u} J rv q=>⟨v,H',J.os,J.bare,J.base,J.hok,rv,q⟩
 cases fl with
 | ret u =>
  obtain⟨v,U,H',J,rv,q⟩:=hs;exact fin J rv q
 | next =>
  obtain⟨U,H',J,q⟩:=hs;exact fin (v:=V.non) (u:=Value.none) J rfl q
 | brk =>
  obtain⟨_,_,_,q⟩:=hs;exact False.elim q
 | cont =>
  obtain⟨_,_,_,q⟩:=hs;exact False.elim q
section
variable{X:Cx}{x:Str}{p pos:Pos}{e:Expr}{es:List Expr}{t:TA}{id T:String}{r:List V->Hp->VK->Prop}
end
end L2
namespace HT
open PySem PyProof.Rows
def lexLt:List Int->List Int->Bool
 | [],[]=>false
 | [],_::_=>true
 | _::_,[]=>false
 | x::xs,y::ys=>if x=y then lexLt xs ys else decide (x<y)
theorem lexLt_cons(x y:Int)(xs ys:List Int):lexLt (x::xs) (y::ys)=if x=y then lexLt xs ys else decide (x<y):=rfl
theorem lexLt_nil_nil:lexLt [] []=false:=rfl
theorem lexLt_nil_cons(y:Int)(ys:List Int):lexLt [] (y::ys)=true:=rfl
theorem lexLt_cons_nil(x:Int)(xs:List Int):lexLt (x::xs) []=false:=rfl
section
open PySem.SeqAt
open PySem.AutoSeq1 (wpAny_loadPart')
open PySem.MeetsSeq PySem.MeetsSeq2 PySem.MeetsSeq3
end
section
variable{prog:Program}{w:World}{A:Around}{E:Value->Shared->Prop}{s:Shared}
theorem cat_tup{t b:Addr}{vs ws:List Value}{Q:Value->Shared->Prop}(ht:IsTup s.heap t vs.toArray)(hb:IsTup s.heap b ws.toArray)(Z:vs≠[])
  (h1:ws=[]->Q (.ref t) s)(h2:ws≠[]->Q (.ref s.heap.objs.size) {s with heap:=s.heap.push {cls:=.type "tuple",data:=.seq (vs++ws).toArray}})
  (hsz:vs.length+ws.length<=sizeLine):wpAny (model prog w) A (binaryOp .Add (.ref t) (.ref b)) Q E s:=by
 obtain⟨⟨cls,dd,data,sl⟩,ho,hc,n,hd⟩:=id ht;obtain⟨⟨h3,B,Y,O⟩,z,U,n2,W⟩:=id hb;simp only at hc hd U W;subst hc hd U W;have e:vs.toArray++ws.toArray=(vs++ws).toArray:=by simp
 by_cases hw:ws=[]
 ·exact concat_meets ⟨_,ho,rfl⟩ ⟨_,z,rfl⟩ noFill_tuple_add seq_tuple_add PySem.F.slot_tuple_add PySem.F.entry_tuple_add (PySem.F.args_tuple_add_2 _ _)
   (tuple_addW1 t b vs.toArray ws.toArray n n2 dd B sl O (by simpa using Z) (by simp [hw])) ⟨ho,z,h1 hw⟩
 ·refine concat_meets ⟨_,ho,rfl⟩ ⟨_,z,rfl⟩ noFill_tuple_add seq_tuple_add PySem.F.slot_tuple_add PySem.F.entry_tuple_add (PySem.F.args_tuple_add_2 _ _)
   (tuple_addW2 t b vs.toArray ws.toArray n n2 dd B sl O (by simpa using Z) (by simpa using hw) (by rw [gQ,gQ];exact hsz)) ⟨ho,z,?_⟩
  rw [e];exact h2 hw
def sIx(n d:Nat):Option Int->Nat
 | none=>d
 | some v=>if v<0 then(v+(n:Int)).toNat else min v.toNat n
theorem sIx_none(n d:Nat):sIx n d none=d:=rfl
theorem sIx_nat(n d k:Nat):sIx n d (some (k:Int))=min k n:=by
 show(if (k:Int)<0 then((k:Int)+(n:Int)).toNat else min (k:Int).toNat n)=min k n
 rw [gD (by omega),tQ]
theorem T4(n d:Nat)(hd:d<=n)(o:Option Int):sIx n d o<=n:=by
 cases o with
 | none=>exact hd
 | some v =>
  show(if v<0 then(v+(n:Int)).toNat else min v.toNat n)<=n
  by_cases hv:v<0
  ·rw [gB hv];omega
  ·rw [gD hv];exact Nat.min_le_right _ _
theorem K0(v:Int)(n d:Nat):(if v<0 then max (v+(n:Int)) 0 else min v (n:Int))=((sIx n d (some v):Nat):Int):=by
 show(if v<0 then max (v+(n:Int)) 0 else min v (n:Int))=(((if v<0 then(v+(n:Int)).toNat else min v.toNat n):Nat):Int)
 by_cases hv:v<0
 ·simp only [gB hv];omega
 ·simp only [gD hv];omega
theorem T5(lo hi:Option Int)(n:Nat):Builtin.Slice.sliceAdjust lo hi 1 (n:Int)=(((sIx n 0 lo:Nat):Int),((sIx n n hi:Nat):Int)):=by
 have h1:¬ ((1:Int)<0):=by omega
 unfold Builtin.Slice.sliceAdjust;simp only [h1,fP];refine Prod.ext ?_ ?_
 ·cases lo with
  | none=>rfl
  | some v=>exact K0 v n 0
 ·cases hi with
  | none=>rfl
  | some v=>exact K0 v n n
theorem T7(i j:Nat):Builtin.Slice.slicePlaces (i:Int) (j:Int) 1=j-i:=by
 unfold Builtin.Slice.slicePlaces;have h1:(1:Int)>0:=by omega
 simp only [h1,dz,Int.ediv_one];split<;>omega
theorem K1{v:Value}{o:Option Int}{Q:Option Int->Shared->Prop}(p:IsPart v o)(h:Q o s):wpAny (model prog w) A (Builtin.Slice.slicePartIndex v) Q E s:=by
 cases p with
 | none=>exact slicePart_none h
 | int i t=>exact slicePart_int h
theorem T8{sl:Addr}{O U:Value}{lo hi:Option Int}{n:Nat}{Q:Int×Int×Nat->Shared->Prop}(W:s.heap.IsSliceOf sl O U .none)(Y:IsPart O lo)(Z:IsPart U hi)
  (h:Q (((sIx n 0 lo:Nat):Int),1,sIx n n hi-sIx n 0 lo) s):wpAny (model prog w) A (Builtin.Slice.sliceApplied (.ref sl) (pure (n:Int))) Q E s:=by
 obtain⟨os,z,hcs,B⟩:=id W;unfold Builtin.Slice.sliceApplied Builtin.Slice.sliceFields;refine g6 (g6 (tK z B (x:=O) rfl (g6 (tK z B (x:=U) rfl (g6 (tK z B (x:=.none) rfl (gk ?_)))))));refine g6 (slicePart_none ?_);show wpAny _ _ (if ((1:Int)==0)=true then _ else _) _ _ s
 rw [gD (by decide)]
 refine g6 (K1 Y (g6 (K1 Z (g6 (gk ?_)))));show wpAny _ _ (match Builtin.Slice.sliceAdjust lo hi 1 (n:Int)with|(lo,hi)=>pure (lo,(1:Int),Builtin.Slice.slicePlaces lo hi 1)) _ _ s
 rw [T5 lo hi n];show wpAny _ _ (pure (((sIx n 0 lo:Nat):Int),(1:Int),Builtin.Slice.slicePlaces ((sIx n 0 lo:Nat):Int) ((sIx n n hi:Nat):Int) 1)) _ _ s;rw [T7];exact gk h
theorem T9(xs:Array Value)(i k:Nat):((List.range k).filterMap fun(m:Nat)=>xs[((i:Int)+(m:Int)*1).toNat]?).toArray=((xs.toList.drop i).take k).toArray:=by
 have e:(fun(m:Nat)=>xs[((i:Int)+(m:Int)*1).toNat]?)=fun m=>xs[i+m]?:=by
  funext m;have:((i:Int)+(m:Int)*1).toNat=i+m:=by omega
  rw [this]
 rw [e];have:=pick_run xs i k;rw [List.filterMap_map]at this;have e2:((fun x=>xs[x]?)∘fun x=>i+x)=fun m=>xs[i+m]?:=rfl
 rw [e2]at this;rw [this]
theorem getItem_tuple_cut{t sl:Addr}{items:Array Value}{Z vu:Value}{lo hi:Option Int}{Q:Value->Shared->Prop}(B:IsTup s.heap t items)(hs:s.heap.IsSliceOf sl Z vu .none)(pl:IsPart Z lo)(pu:IsPart vu hi)
  (hw:¬ (sIx items.size 0 lo=0/\sIx items.size items.size hi=items.size))
  (h:Q (.ref s.heap.objs.size) {s with heap:=s.heap.push {cls:=.type "tuple",data:=.seq ((items.toList.drop (sIx items.size 0 lo)).take (sIx items.size items.size hi-sIx items.size 0 lo)).toArray}})
  (hsz:items.size<=sizeLine):wpAny (model prog w) A (getItem (.ref t) (.ref sl)) Q E s:=by
 have z:sizeOk (.seq ((items.toList.drop (sIx items.size 0 lo)).take (sIx items.size items.size hi-sIx items.size 0 lo)).toArray):=by
  show((items.toList.drop (sIx items.size 0 lo)).take (sIx items.size items.size hi-sIx items.size 0 lo)).toArray.size<=sizeLine;rw [gQ,df,List.length_drop,fM];omega
 have hj:sIx items.size items.size hi<=items.size:=T4 _ _ (gw _) hi;obtain⟨os,W,Y,hds⟩:=id hs;have O:s.TypeIs (.ref sl) "slice":=⟨os,W,Y⟩;unfold getItem
 try with_reducible refine tL ?_
 first|refine g6 (gk ?_)|skip
 refine g6 (wpAny_sequenceKey B.typeIs (by decide) ?_)
 refine g6 (tX (name:=Str.ofString "__getitem__") B.typeIs pz
  (fF pz B.typeIs entry_tuple_getitem ?_ (args_tuple_getitem _ _)))
 show wpAny _ _ (Builtin.Tuple.tupleItemsOf (.ref t) >>= _) _ _ s;refine g6 (tupleItemsOf_ B ?_);refine g6 (wpAny_typeOf O ?_);rw [gB (by decide)]
 refine g6 (T8 hs pl pu ?_);have U:¬ ((((sIx items.size 0 lo:Nat):Int)==0&&(1:Int)==1&&(sIx items.size items.size hi-sIx items.size 0 lo)==items.size)=true):=by
  intro q;rw [gK,gK]at q;have q1:((sIx items.size 0 lo:Nat):Int)=0:=eq_of_beq q.1.1;have q2:sIx items.size items.size hi-sIx items.size 0 lo=items.size:=eq_of_beq q.2;exact hw ⟨by omega,by omega⟩
 show wpAny _ _ (if (((sIx items.size 0 lo:Nat):Int)==0&&(1:Int)==1&&(sIx items.size items.size hi-sIx items.size 0 lo)==items.size)=true then _ else _) _ _ s
 rw [gD U,T9]
 first
  | exact g6 (m:=Builtin.Tuple.tupleExact _) (tw (gk ⟨_,rfl,gk h⟩) z)
  | exact g6 (m:=Builtin.Tuple.tupleExact _) (tw (g6 (gk (gk ⟨_,rfl,gk h⟩))) z)
  | exact g6 (g6 (m:=Builtin.Tuple.tupleExact _) (tw (gk (gk ⟨_,rfl,gk h⟩)) z))
  | exact g6 (g6 (m:=Builtin.Tuple.tupleExact _) (tw (gk ⟨_,rfl,gk h⟩) z))
end
end HT
namespace L2
open PySem PySem.Spec PyProof.Rows
abbrev TO:=St->Hp->(Option Int->Hp->Prop)->Prop
def PO(X:Cx)(e:Option Expr)(t:TO):Prop :=
 ∀(pins:List (Addr×Obj)) (s:Shared) (σ:St) (H:Hp) (Q:Option Int->Hp->Prop),Inv X pins σ H s->t σ H Q ->
  wpAny (model X.prog X.w) X.A (evalPart e X.env) (fun u s'=>∃ o H',Inv X pins σ H' s'/\IsPart u o/\Q o H') X.xe s
def Ta:TO:=fun _ H Q=>Q none H
def Tb(t:TE):TO:=fun σ H Q=>t σ H fun x H1=>∃ i,x=.int i/\Q (some i) H1
theorem kg{ns:List Int}:∀{us:List Value},Vals (ns.map V.int) us->IntsAre us ns:=by
 induction ns with
 | nil=>intro us r;rw [tU]at r;cases r;exact .nil
 | cons n ns ih =>
  intro us r;rw [gN]at r;cases r with
  | cons r1 r2 =>
   obtain⟨t,e⟩:=r1;subst e;exact .cons n t (ih r2)
section
variable{X:Cx}{e:Expr}{te:TE}{lo hi:Option Expr}{tl th:TO}{pos p2:Pos}
theorem Tc:PO X none Ta:=by
 intro pins s σ H Q I h;rw [evalPart_none];exact gk ⟨none,H,I,.none,h⟩
theorem Td(h:PE X e te):PO X (some e) (Tb te):=by
 intro pins s σ H Q I hw;rw [evalPart_some];refine thn (h pins s σ H _ I hw) fun u s1 ⟨x,H1,I1,r1,q1⟩=>?_
 obtain⟨i,rfl,q⟩:=q1;obtain⟨t,rfl⟩:=r1;exact⟨some i,H1,I1,.int i t,q⟩
def SlR(X:Cx)(r:V->Option Int->Option Int->Hp->VK->Prop):Prop :=
 ∀(pins:List (Addr×Obj)) (s:Shared) (σ:St) (H:Hp) (x:V) (v vl vu:Value) (lo hi:Option Int) (sl:Addr) (Q:VK),Inv X pins σ H s->RelV x v->s.heap.IsSliceOf sl vl vu .none->IsPart vl lo->IsPart vu hi->r x lo hi H Q ->
  ∃ T id,typeLookup (.type T) "__getitem__"=pure (some (.builtin id))/\s.TypeIs v T/\wpAny (model X.prog X.w) X.A (getItem v (.ref sl)) (EP X pins σ Q) X.xe s
theorem SlR.or{r z:V->Option Int->Option Int->Hp->VK->Prop}(h:SlR X r)(h':SlR X z):SlR X (fun x lo hi H Q=>r x lo hi H Q∨z x lo hi H Q):=by
 intro pins s σ H x v vl vu lo hi sl Q I rx hs pl pu q;rcases q with q|q
 ·exact h pins s σ H x v vl vu lo hi sl Q I rx hs pl pu q
 ·exact h' pins s σ H x v vl vu lo hi sl Q I rx hs pl pu q
def tSl(r:V->Option Int->Option Int->Hp->VK->Prop)(te:TE)(tl th:TO):TE:=fun σ H Q=>te σ H fun x H1=>tl σ H1 fun l H2=>th σ H2 fun u H3=>r x l u H3 Q
theorem Te{r:V->Option Int->Option Int->Hp->VK->Prop}(z:SlR X r)(B:PE X e te)(O:PO X lo tl)(U:PO X hi th):PE X (.Subscript e (.Slice lo hi none p2) pos) (tSl r te tl th):=by
 intro pins s σ H Q I h;refine Subscript_ (thn (B pins s σ H _ I h) fun v s1 ⟨x,H1,I1,r1,q1⟩=>?_)
 refine wpAny_Slice (thn (O pins s1 σ H1 _ I1 q1) fun vl s2 ⟨l,H2,I2,pl,q2⟩=>thn (U pins s2 σ H2 _ I2 q2) fun vu s3 ⟨u,H3,I3,pu,q3⟩=>?_)
 rw [evalPart_none];refine gk ?_;have I4:Inv X pins σ H3 {s3 with heap:=s3.heap.push {cls:=.type "slice",data:=.fields #[vl,vu,.none]}}:=I3.kept (t':=s3.toks) fun b ob q=>gg _ q
 obtain⟨T,id,hT,ht,hg⟩:=z pins {s3 with heap:=s3.heap.push {cls:=.type "slice",data:=.fields #[vl,vu,.none]}} σ H3 x v vl vu l u s3.heap.objs.size Q I4 r1 (Heap.IsSliceOf.new ..) pl pu q3;show wpAny (model X.prog X.w) X.A (subscriptTail e (.Slice lo hi none p2) v (.ref s3.heap.objs.size)) (EP X pins σ Q) X.xe {s3 with heap:=s3.heap.push {cls:=.type "slice",data:=.fields #[vl,vu,.none]}};exact tail_any (ops:=[.ref s3.heap.objs.size,v]) ht hT hg (by with_unfolding_all rfl)
def wa(xs:List V)(lo hi:Option Int):List V:=(xs.drop (HT.sIx xs.length 0 lo)).take (HT.sIx xs.length xs.length hi-HT.sIx xs.length 0 lo)
theorem K2(xs:List V)(lo hi:Option Int):(wa xs lo hi).length<=xs.length:=by
 unfold wa;rw [df,List.length_drop];omega
def Tf(K:Frag):V->Option Int->Option Int->Hp->VK->Prop:=fun x lo hi H Q=>∃ a xs,x=.ref a/\SqT K H a xs /\
 ¬ (HT.sIx xs.length 0 lo=0/\HT.sIx xs.length xs.length hi=xs.length)/\∀ p,H p=none->Q (.ref p) (upd H p (.tup (wa xs lo hi)))
theorem Tg:SlR X (Tf X.K):=by
 intro pins s σ H x v vl vu lo hi sl Q I rx hs pl pu h;obtain⟨a,xs,rfl,hx,hw,q⟩:=h;cases rx;obtain⟨its,r,ht,hz⟩:=I.tuple hx;have z:its.toArray.size=xs.length:=by rw [gQ];exact r.length.symm
 refine⟨"tuple",_,pz.lookup,ht.typeIs,?_⟩;refine HT.getItem_tuple_cut ht hs pl pu (by rw [z];exact hw) ?_ (by rw [z];exact hz)
 rw [z];refine⟨.ref s.heap.objs.size,_,I.laid (t':=s.toks) (o:=.tup (wa xs lo hi)) (fun b ob q=>gg _ q) (gw _) ?_,rfl,q _ (I.hok.fresh (gw _))⟩
 exact⟨t8 (K2 xs lo hi) hz,_,(r.drop (HT.sIx xs.length 0 lo)).take (HT.sIx xs.length xs.length hi-HT.sIx xs.length 0 lo),IsTup.new _ _⟩
def Th(K:Frag):R2:=fun x y H Q=>∃ a b xs ys,x=.ref a/\y=.ref b/\SqT K H a xs/\SqT K H b ys/\xs≠[]/\xs.length+ys.length<=sizeLine /\
 (ys=[]->Q (.ref a) H)/\(ys≠[]->∀ p,H p=none->Q (.ref p) (upd H p (.tup (xs++ys))))
theorem Vals.nil_iff{xs:List V}{us:List Value}(r:Vals xs us):us=[]↔xs=[]:=by
 cases r with
 | nil=>simp
 | cons _ _=>simp
theorem Ti:OpR X (binaryOp .Add) (Th X.K):=by
 intro pins s σ H x y v u Q I rx ry h;obtain⟨a,b,xs,ys,rfl,rfl,ha,hb,hx,hz,q1,q2⟩:=h;cases rx;cases ry;obtain⟨its,r1,p1,_⟩:=I.tuple ha;obtain⟨B,r2,p2,_⟩:=I.tuple hb;refine HT.cat_tup p1 p2 (fun z=>hx (r1.nil_iff.mp z)) (fun z=>⟨.ref a,H,I,rfl,q1 (r2.nil_iff.mp z)⟩) (fun z=>?_) (by rw [<- r1.length,<- r2.length];exact hz)
 refine⟨.ref s.heap.objs.size,_,I.laid (t':=s.toks) (o:=.tup (xs++ys)) (fun b ob q=>gg _ q) (gw _) ?_,rfl,q2 (fun w=>z (r2.nil_iff.mpr w)) _ (I.hok.fresh (gw _))⟩
 exact⟨by rw [f8];exact hz,_,r1.append r2,IsTup.new _ _⟩
end
def ixN(n:Nat)(i:Int):Option Nat:=if 0<=i then(if i<n then some i.toNat else none)else if -(n:Int)<=i then some (i+n).toNat else none
def atI{α:Type}(xs:List α)(i:Int):Option α:=(ixN xs.length i).bind fun j=>xs[j]?
theorem Tj{n:Nat}{i:Int}{j:Nat}(h:ixN n i=some j):seqIndex? i n=some j/\j<n/\-(n:Int)<=i/\i<n:=by
 unfold ixN at h;by_cases h0:0<=i
 ·rw [gB h0]at h;by_cases h1:i<n
  ·rw [gB h1]at h;have e:i.toNat=j:=fu h;exact⟨by rw [seqIndex_of h0 h1,e],by omega,by omega,h1⟩
  ·rw [gD h1]at h;cases h
 ·rw [gD h0]at h;by_cases h1:-(n:Int)<=i
  ·rw [gB h1]at h;have e:(i+n).toNat=j:=fu h;exact⟨by rw [seqIndex_neg (by omega) h1,e],by omega,h1,by omega⟩
  ·rw [gD h1]at h;cases h
theorem Jj{α:Type}{xs:List α}{i:Int}{v:α}(h:atI xs i=some v):∃ j,seqIndex? i xs.length=some j/\xs[j]?=some v/\j<xs.length/\-(xs.length:Int)<=i/\i<xs.length:=by
 unfold atI at h;cases e:ixN xs.length i with
 | none=>rw [e]at h;cases h
 | some j =>
  rw [e]at h;obtain⟨h1,h2,h3,h4⟩:=Tj e;exact⟨j,h1,h,h2,h3,h4⟩
def yn(b:Expr):Prop:=∀ o i,subscripted b false o i=operate [o,i] (getItem o i)
def IxR(X:Cx)(r:R2):Prop :=
 ∀(value z:Expr) (pins:List (Addr×Obj)) (s:Shared) (σ:St) (H:Hp) (x y:V) (v u:Value) (Q:VK),Inv X pins σ H s->RelV x v->RelV y u->r x y H Q ->
  subscripted z false v u=operate [v,u] (getItem v u)->wpAny (model X.prog X.w) X.A (subscriptTail value z v u) (EP X pins σ Q) X.xe s
def MtR(X:Cx)(id:String)(r:V->List V->Hp->VK->Prop):Prop :=
 ∀(pins:List (Addr×Obj)) (s:Shared) (σ:St) (H:Hp) (x:V) (xs:List V) (v:Value) (us:List Value) (Q:VK),Inv X pins σ H s->RelV x v->Vals xs us->r x xs H Q ->
  wpAny (model X.prog X.w) X.A (call (.builtin id) (v::us)) (EP X pins σ Q) X.xe s
section
variable{X:Cx}{a b:Expr}{ta tb:TE}{pos:Pos}
theorem Tk{r:R2}(z:IxR X r)(B:PE X a ta)(O:PE X b tb)(U:yn b):PE X (.Subscript a b pos) (tOp r ta tb):=by
 intro pins s σ H Q I h;exact Subscript_ (GB B O I h fun v u s2 x y H2 I2 rx ry q=>z a b pins s2 σ H2 x y v u Q I2 rx ry q (U _ _))
def Tl(K:Frag):R2:=fun x y H Q=>∃ p xs i v,x=.ref p/\y=.int i/\SqL K H p xs/\atI xs i=some v/\Q v H
def Tn(K:Frag):R2:=fun x y H Q=>∃ p xs i v,x=.ref p/\y=.int i/\SqT K H p xs/\atI xs i=some v/\Q v H
def To:R2:=fun x y H Q=>∃ z i c,x=.str z/\y=.int i/\z.length<=sizeLine/\atI z.cps.toList i=some c/\Q (.str ⟨#[c]⟩) H
theorem ix_list:IxR X (Tl X.K):=by
 intro value B pins s σ H x y v u Q I rx ry h hs;obtain⟨p,xs,i,z,rfl,rfl,hq,he,q⟩:=h;cases rx;obtain⟨t,rfl⟩:=ry;obtain⟨its,r,pl,hz⟩:=I.list hq;obtain⟨j,h1,h2,h3,h4,h5⟩:=Jj he;obtain⟨w,ew,O⟩:=r.get h2;have hl:=r.length;have hn:=xD;have fin:EP X pins σ Q w s:=⟨z,H,I,O,q⟩;by_cases h0:0<=i
 ·have hj:i.toNat=j:=by
   rw [seqIndex_of h0 h5]at h1;exact fu h1
  exact item_listR pl.isList h0 (by omega) (by rw [hj];simpa using ew) fin hs
 ·have hj:(i+(its.toArray.size:Int)).toNat=j:=by
   rw [seqIndex_neg (by omega) h4]at h1
   rw [gQ,<- hl];exact fu h1
  exact subscriptTail_builtinR (x:=w) pl.isList.typeIs slot_list_getitem.lookup
   (wpAny_getItem_list_neg (Q:=fun r s'=>r=w/\EP X pins σ Q r s') pl.isList (by omega) (by rw [gQ]<;>omega) (by omega) (by rw [hj];simpa using ew) ⟨rfl,fin⟩) hs
theorem Tp:IxR X (Tn X.K):=by
 intro value B pins s σ H x y v u Q I rx ry h hs;obtain⟨p,xs,i,z,rfl,rfl,hq,he,q⟩:=h;cases rx;obtain⟨t,rfl⟩:=ry;obtain⟨its,r,pl,hz⟩:=I.tuple hq;obtain⟨j,h1,h2,h3,h4,h5⟩:=Jj he;obtain⟨w,ew,O⟩:=r.get h2;have hl:=r.length;have hn:=xD;have fin:EP X pins σ Q w s:=⟨z,H,I,O,q⟩;exact subscriptTail_builtinR (x:=w) pl.typeIs slot_tuple_getitem.lookup
  (getItem_tuple (j:=j) (Q:=fun r s'=>r=w/\EP X pins σ Q r s') pl (by omega) (by omega) (by rw [gQ,<- hl];exact h1) (by simpa using ew) ⟨rfl,fin⟩) hs
theorem Tq:IxR X To:=by
 intro value B pins s σ H x y v u Q I rx ry h hs;obtain⟨z,i,c,rfl,rfl,hz,he,q⟩:=h;obtain⟨t,rfl⟩:=rx;obtain⟨t',rfl⟩:=ry;obtain⟨j,h1,h2,h3,h4,h5⟩:=Jj he;have hl:z.cps.toList.length=z.length:=by simp [Str.length]
 rw [hl]at h1 h4 h5;have hn:=xD;exact tail_any (typeIs_str s z t) slot_str_getitem.lookup (getItem_str (c:=c) (by
  have e1:decide (i < -(2 ^ 63:Int))=false:=tN (by omega)
  have e2:decide (i≥2 ^ 63)=false:=tN (by omega)
  rw [e1,e2,Bool.or_false]) (by rw [h1];simpa using h2) ⟨.str ⟨#[c]⟩,H,I.tok _,⟨_,rfl⟩,q⟩) hs
theorem Inv.lst{pins:List (Addr×Obj)}{σ:St}{H:Hp}{s:Shared}{p:Addr}{xs:List V}(I:Inv X pins σ H s)(h:H p=some (.lst xs)) :
  ∃(its:List Value) (n:Nat),Vals xs its/\s.heap.get? p=some {cls:=.type "list",data:=.seq its.toArray n}/\xs.length<=sizeLine:=by
 obtain⟨z,its,n,r,e⟩:=I.hok p _ h;exact⟨its,n,r,e,z⟩
theorem Tr(lo hi:Option Int)(n:Nat):(sliceBounds lo hi none n).1=((HT.sIx n 0 lo:Nat):Int)/\(sliceBounds lo hi none n).2.1=((HT.sIx n n hi:Nat):Int)/\(sliceBounds lo hi none n).2.2=1:=by
 refine⟨?_,?_,rfl⟩
 ·cases lo with
  | none=>simp [sliceBounds,HT.sIx]
  | some i =>
   simp only [sliceBounds,HT.sIx,Option.getD_none,show(1:Int)>0 by decide,dz]
   by_cases h:i<0
   ·simp only [h,dz]<;>omega
   ·simp only [h,fP]<;>omega
 ·cases hi with
  | none=>simp [sliceBounds,HT.sIx]
  | some i =>
   simp only [sliceBounds,HT.sIx,Option.getD_none,show(1:Int)>0 by decide,dz]
   by_cases h:i<0
   ·simp only [h,dz]<;>omega
   ·simp only [h,fP]<;>omega
theorem Ts(its:List Value)(lo hi:Option Int):slicePick its.toArray lo hi none=((its.drop (HT.sIx its.length 0 lo)).take (HT.sIx its.length its.length hi-HT.sIx its.length 0 lo)).toArray:=by
 obtain⟨h1,h2,h3⟩:=Tr lo hi its.toArray.size;unfold slicePick;rw [h1,h2,h3];simp only [sliceRange_one,pick_run,gQ]<;>rfl
def Tt(K:Frag):V->Option Int->Option Int->Hp->VK->Prop:=fun x lo hi H Q=>∃ a xs,x=.ref a/\SqL K H a xs/\∀ p,H p=none->Q (.ref p) (upd H p (.lst (wa xs lo hi)))
theorem Tu:SlR X (Tt X.K):=by
 intro pins s σ H x v vl vu lo hi sl Q I rx hs pl pu h;obtain⟨a,xs,rfl,hx,q⟩:=h;cases rx;obtain⟨its,r,ht,hz⟩:=I.list hx;have z:=r.length;refine⟨"list",_,slot_list_getitem.lookup,ht.isList.typeIs,?_⟩;refine wpAny_getItem_list_slice ht.isList hs pl pu .none (by simp) ?_ (by rw [gQ]<;>omega)
 rw [Ts,<- z];refine⟨.ref s.heap.objs.size,_,I.laid (t':=s.toks) (o:=.lst (wa xs lo hi)) (fun b ob q=>gg _ q) (gw _) ?_,rfl,q _ (I.hok.fresh (gw _))⟩
 exact⟨t8 (K2 xs lo hi) hz,_,0,(r.drop (HT.sIx xs.length 0 lo)).take (HT.sIx xs.length xs.length hi-HT.sIx xs.length 0 lo),gH _ rfl⟩
def flatV:V->Bool
 | .non=>true
 | .bl _=>true
 | .int _=>true
 | .str _=>true
 | _=>false
theorem Tv:wP X (.builtin "len") (fun xs H Q=>∃ p ys,xs=[.ref p]/\(SqL X.K H p ys∨SqT X.K H p ys)/\Q (.int ys.length) H):=by
 intro pins s σ H xs us Q I r h;obtain⟨p,ys,rfl,hq,q⟩:=h;obtain⟨u,rfl,rx⟩:=xE r;cases rx;have hn:=xD;rcases hq with hq|hq
 ·obtain⟨its,r',pl,hz⟩:=I.list hq;have z:=r'.length;exact Calls.call_len_list pl.isList (by simp only [gQ]<;>omega) ⟨.int ys.length,H,I.tok _,⟨s.toks+1,by rw [gQ,z]⟩,q⟩
 ·obtain⟨its,r',pl,hz⟩:=I.tuple hq;have z:=r'.length;exact len_tuple pl (by simp only [gQ]<;>omega) ⟨.int ys.length,H,I.tok _,⟨s.toks+1,by rw [gQ,z]⟩,q⟩
theorem Tw:wP X (.type "list") (fun xs H Q=>∃ p ys,xs=[.ref p]/\(SqL X.K H p ys∨SqT X.K H p ys)/\∀ l,H l=none->Q (.ref l) (upd H l (.lst ys))):=by
 intro pins s σ H xs us Q I r h;obtain⟨p,ys,rfl,hq,q⟩:=h;obtain⟨u,rfl,rx⟩:=xE r;cases rx;have fin:∀(its:List Value),Vals ys its->ys.length<=sizeLine->∀(h':Heap) (c':Nat),(∀ b o',s.heap.get? b=some o'->h'.get? b=some o') ->
   h'.get? s.heap.objs.size=some {cls:=.type "list",dict:=none,data:=.seq its.toArray c',slots:=#[]}->EP X pins σ Q (.ref s.heap.objs.size) {s with heap:=h'}:=fun its r' hz h' c' kp e =>
  ⟨.ref s.heap.objs.size,_,I.laid (t':=s.toks) kp (gw _) (show ObjOk X.prog X.w _ h' _ (.lst ys)from⟨hz,its,c',r',e⟩),rfl,q _ (I.hok.fresh (gw _))⟩
 rcases hq with hq|hq
 ·obtain⟨its,r',pl,hz⟩:=I.list hq;have z:=r'.length;obtain⟨o,ho,hc,n,hd⟩:=pl.isList;exact call_list_seq p (.inl rfl) ho hc hd (fun h' c' kp e=>fin its r' hz h' c' kp e) (by simp only [gQ]<;>omega)
 ·obtain⟨its,r',pl,hz⟩:=I.tuple hq;have z:=r'.length;obtain⟨o,ho,hc,n,hd⟩:=pl;exact call_list_seq p (.inr rfl) ho hc hd (fun h' c' kp e=>fin its r' hz h' c' kp e) (by simp only [gQ]<;>omega)
theorem Tx:wP X (.type "tuple") (fun xs H Q=>∃ p ys,xs=[.ref p]/\((SqL X.K H p ys/\∀ l,H l=none->Q (.ref l) (upd H l (.tup ys)))∨(SqT X.K H p ys/\Q (.ref p) H))):=by
 intro pins s σ H xs us Q I r h;obtain⟨p,ys,rfl,h⟩:=h;obtain⟨u,rfl,rx⟩:=xE r;cases rx;rcases h with⟨hq,q⟩|⟨hq,q⟩
 ·obtain⟨its,r',pl,hz⟩:=I.list hq;have z:=r'.length;refine call_tuple_list pl.isList (fun h' kp=>?_) (by simp only [gQ]<;>omega)
  have I1:Inv X pins σ H {s with heap:=h'}:=I.kept (t':=s.toks) kp;have I2:Inv X pins σ (upd H h'.objs.size (.tup ys)) {s with heap:=h'.push {cls:=.type "tuple",data:=.seq its.toArray}} :=
   I1.laid (t':=s.toks) (fun b o e=>gg _ e) (gw _) (show ObjOk X.prog X.w _ _ _ (.tup ys)from⟨hz,its,r',IsTup.new _ _⟩)
  exact⟨.ref h'.objs.size,_,I2,rfl,q _ (I1.hok.fresh (gw _))⟩
 ·obtain⟨its,r',pl,hz⟩:=I.tuple hq;exact call_tuple_same pl ⟨.ref p,H,I,rfl,q⟩
def tyV(K:Frag)(T:String)(x:V)(H:Hp):Prop:=match x with
 | .str _=>T="str"
 | .int _=>T="int"
 | .ref p=>(T="list"/\∃ xs,SqL K H p xs)∨(T="tuple"/\∃ o,K.lookup p=some o/\o.cls=.type "tuple"/\o.dict=none) ∨
   (T="dict"/\((∃ kvs,H p=some (.dK kvs))∨∃ kvs,H p=some (.dT kvs)))∨(T="set"/\∃ S n,H p=some (.set S n))
 | _=>False
theorem Tz{pins:List (Addr×Obj)}{σ:St}{H:Hp}{s:Shared}{T:String}{x:V}{v:Value}(I:Inv X pins σ H s)(r:RelV x v)(ty:tyV X.K T x H) :
  s.TypeIs v T/\∀ a,v=.ref a->∃ ob,s.heap.get? a=some ob/\ob.dict=none:=by
 cases x with
 | str z =>
  obtain⟨t,rfl⟩:=r;cases (show T="str" from ty)
  exact⟨typeIs_str s z t,fun _ e=>nomatch e⟩
 | int i =>
  obtain⟨t,rfl⟩:=r;cases (show T="int" from ty)
  exact⟨typeIs_int s i t,fun _ e=>nomatch e⟩
 | ref p =>
  cases r;rcases ty with⟨rfl,xs,hq⟩|⟨rfl,o,hk,hc,hd⟩|⟨rfl,hk⟩|⟨rfl,S,n,hk⟩
  ·obtain⟨its,_,pl,_⟩:=I.list hq;refine⟨pl.isList.typeIs,fun a e=>?_⟩
   cases e;obtain⟨o,n,e,c,hd,_⟩:=pl;exact⟨o,e,hd⟩
  ·refine⟨⟨o,I.kIn p o hk,hc⟩,fun a e=>?_⟩
   cases e;exact⟨o,I.kIn _ o hk,hd⟩
  ·have z:∃ o,s.heap.get? p=some o/\o.ExactDict:=by
    rcases hk with⟨kvs,hk⟩|⟨kvs,hk⟩
    ·obtain⟨_,_,_,_,o,_,_,e,ex,_⟩:=I.hok p _ hk;exact⟨o,e,ex⟩
    ·obtain⟨_,_,_,_,o,_,_,e,ex,_⟩:=I.hok p _ hk;exact⟨o,e,ex⟩
   obtain⟨o,e,ex⟩:=z;refine⟨⟨o,e,ex.1⟩,fun a e2=>?_⟩
   cases e2;exact⟨o,e,ex.2.1⟩
  ·obtain⟨o,_,_,_,e,ex,_⟩:=I.hok p _ hk;refine⟨⟨o,e,ex.1⟩,fun a e2=>?_⟩
   cases e2;exact⟨o,e,ex.2.1⟩
 | _=>exact False.elim ty
def tBM(K:Frag)(T:String)(r:V->List V->Hp->VK->Prop)(to:TE)(t:TA):TE:=fun σ H Q=>to σ H fun x H1=>tyV K T x H1/\t σ H1 fun xs H2=>r x xs H2 Q
variable{o e:Expr}{es:List Expr}{to:TE}{t:TA}{name:Str}{apos cpos:Pos}{T id:String}{r:V->List V->Hp->VK->Prop}
theorem wQ(Z:PlainAttrs T)(U:Slot T name id)(Y:typeOf (.builtin id)=pure (.type "method_descriptor"))(hm:MtR X id r)(ho:PE X o to)(ha:PA X (e::es) t)
  (B:attributeBase o name X.env (eval o X.env)=eval o X.env:=by rfl)
  (W:((backTo cpos (starEach (e::es) X.env)).all (fun x=>!x.1)&&(backToKw cpos (keywordEach [] X.env)).all (fun x=>x.1.isSome)
   && decide ((e::es).length+([]:List Keyword).length+(if ([]:List Keyword).isEmpty then 0 else 1)<30))=true:=by rfl)
  (O:(apos.endLine==cpos.line)=true:=by rfl) (hs:starEach (e::es) X.env=(false,eval e X.env)::starEach es X.env:=by rfl) (z:(backTo cpos (starEach es X.env)).any (·.1)=false:=by rfl) :
  PE X (.Call (.Attribute o name apos) (e::es) [] cpos) (tBM X.K T r to t):=by
 intro pins s σ H Q I h;refine wpAny_Call_method_late B W O rfl (thn (ho pins s σ H _ I h) fun v s1 ⟨x,H1,I1,r1,ty,q1⟩=>?_)
 obtain⟨h1,h2⟩:=Tz I1 r1 ty;refine⟨T,id,Z,U,Y,h1,h2,?_⟩;have hA:=ha cpos pins s1 σ H1 _ I1 q1;rw [hs]at hA ⊢;refine pP (by show(false||(backTo cpos (starEach es X.env)).any (·.1))=false;rw [z]<;>rfl) (cu ?_)
 exact thn hA fun us s2 ⟨vs,H2,I2,r2,q2⟩=>hm pins s2 σ H2 x vs v us Q I2 r1 r2 q2
/- xs.append(e),list.index on a module's tuple .. are MtR facts of 06m -/
end
def MtM(X:Cx)(id:String)(r:V->List V->Hp->VK->Prop):Prop :=
 ∀(pins:List (Addr×Obj)) (s:Shared) (σ:St) (H:Hp) (x:V) (xs:List V) (v:Value) (us:List Value) (Q:VK),Inv X pins σ H s->RelV x v->Vals xs us->r x xs H Q ->
  wpAny (model X.prog X.w) X.A (call (.builtin id) (v::us)) (EP X pins σ Q) X.xe s
theorem Vals.one:∀{x:V} {us:List Value},Vals [x] us->∃ u,us=[u]/\RelV x u
 | _,_,.cons r .nil=>⟨_,rfl,r⟩
theorem Vals.two:∀{x y:V} {us:List Value},Vals [x,y] us->∃ u v,us=[u,v]/\RelV x u/\RelV y v
 | _,_,_,.cons r (.cons q .nil)=>⟨_,_,rfl,r,q⟩
theorem Vals.reverse{xs:List V}{us:List Value}(h:Vals xs us):Vals xs.reverse us.reverse:=by
 induction h with
 | nil=>exact .nil
 | cons r t ih=>rw [dP,dP];exact Vals.append ih (.cons r .nil)
section
variable{X:Cx}{pins:List (Addr×Obj)}{σ:St}{H:Hp}{s:Shared}{l b:Addr}{xs ys zs:List V}
theorem Inv.lset{its its':List Value}{n:Nat}{f:Array Value->Array Value}{t':Nat}(I:Inv X pins σ H s)(z:H l=some (.lst xs))
  (e:s.heap.get? l=some {cls:=.type "list",data:=.seq its.toArray n})(B:f its.toArray=its'.toArray)(O:Vals ys its')(hz:ys.length<=sizeLine) :
  Inv X pins σ (upd H l (.lst ys)) {s with heap:=s.heap.update l (Obj.mapSeq f),toks:=t'}:=by
 have q:=PySem.IsL.update e f;rw [B]at q;refine I.write (x:=l) (e:=l) (by rw [z];exact trivial) (.inl rfl) (fun b' u hb hu=>(t5 s.heap (Obj.mapSeq f) (hG hb)).trans hu) ⟨_,q⟩ ?_
 exact⟨hz,its',_,O,q⟩
theorem Inv.fresh(I:Inv X pins σ H s):H s.heap.objs.size=none:=I.hok.fresh (gw _)
theorem Inv.lstM(I:Inv X pins σ H s)(B:H l=some (.lst xs)):xs.length<=sizeLine/\∃(its:List Value) (n:Nat),Vals xs its/\xs.length=its.length/\s.heap.get? l=some {cls:=.type "list",data:=.seq its.toArray n}:=by
 obtain⟨z,its,n,r,e⟩:=I.hok l _ B;exact⟨z,its,n,r,r.length,e⟩
theorem TC{n:Nat}(h:n<=sizeLine):Builtin.List.listTooLong n=false:=by
 unfold Builtin.List.listTooLong;exact tN (by omega)
end
section
variable{X:Cx}
def TD:V->List V->Hp->VK->Prop:=fun x vs H Q=>∃ l xs y,x=.ref l/\vs=[y]/\H l=some (.lst xs)/\xs.length<sizeLine/\Q .non (upd H l (.lst (xs++[y])))
theorem ki:MtM X "list.append" TD:=by
 intro pins s σ H x vs v us Q I rx rv h;obtain⟨l,xs,y,rfl,rfl,hH,hz,q⟩:=h;cases rx;obtain⟨u,rfl,ru⟩:=rv.one;obtain⟨z,its,n,r,hl,e⟩:=I.lstM hH;refine call_meets F.slot_list_append ⟨_,e,rfl⟩ F.entry_list_append (F.args_list_append_2 _ _) (PySem.list_append l its.toArray n u (by rw [gQ];omega)) ⟨e,?_⟩
 refine⟨.non,_,I.lset (its':=its++[u]) hH e (by simp) (r.append (.cons ru .nil)) ?_,rfl,q⟩
 rw [f8,List.length_singleton];omega
def TH:V->List V->Hp->VK->Prop:=fun x vs H Q=>∃ l b xs zs,x=.ref l/\vs=[.ref b]/\H l=some (.lst xs)/\H b=some (.lst zs)/\xs.length+zs.length<=sizeLine/\Q .non (upd H l (.lst (xs++zs)))
theorem TJ:MtM X "list.extend" TH:=by
 intro pins s σ H x vs v us Q I rx rv h;obtain⟨l,b,xs,zs,rfl,rfl,hH,hB,hz,q⟩:=h;cases rx;obtain⟨u,rfl,ru⟩:=rv.one;cases ru;obtain⟨z,its,n,r,hl,e⟩:=I.lstM hH;obtain⟨z2,B,n2,r2,U,e2⟩:=I.lstM hB;have hsz:its.toArray.size+B.toArray.size<=sizeLine:=by rw [gQ,gQ];omega
 have O:¬ (!its.toArray.isEmpty&&Builtin.List.listTooLong (its.toArray.size+B.toArray.size))=true:=by
  rw [TC hsz,dN];exact fw
 refine call_meets F.slot_list_extend ⟨_,e,rfl⟩ F.entry_list_extend (F.args_list_extend_2 _ _)
  (AutoSeq1.list_extend_list_list_0 l its.toArray n b B.toArray n2 O (by rw [gQ];omega) (by omega)) ⟨e,e2,?_⟩
 refine⟨.non,_,I.lset (its':=its++B) hH e (by simp) (r.append r2) ?_,rfl,q⟩
 rw [f8];omega
end
section
variable{prog:Program}{w:World}{A:Around}{E:Value->Shared->Prop}{s:Shared}
set_option maxRecDepth 100000 in
end
section
variable{X:Cx}
end
section
variable{κ:Type} [DecidableEq κ]
def qY(kvs:List (κ×V))(k:κ):Option V:=(kvs.find? fun kv=>decide (kv.1=k)).map (·.2)
def jz(kvs:List (κ×V))(k:κ)(v:V):List (κ×V) :=
 if (kvs.any fun kv=>decide (kv.1=k))=true then kvs.map (fun kv=>if kv.1=k then(kv.1,v)else kv)else kvs++[(k,v)]
theorem xF{p:κ×V}{r:List (κ×V)}{k:κ}(e:p.1=k):qY (p::r) k=some p.2:=by simp [qY,pV,e]
theorem xG{p:κ×V}{r:List (κ×V)}{k:κ}(e:¬ p.1=k):qY (p::r) k=qY r k:=by simp [qY,pV,e]
theorem Jk(k:κ):∀ kvs:List (κ×V),(kvs.any fun kv=>decide (kv.1=k))=(qY kvs k).isSome
 | []=>rfl
 | p::r=>by
  rw [dW];by_cases e:p.1=k
  ·simp only [xF e,pj e,Bool.true_or,Option.isSome_some]
  ·rw [xG e,tN e,Bool.false_or];exact Jk k r
theorem Jl(kvs:List (κ×V))(k:κ)(v:V):(jz kvs k v).length<=kvs.length+1:=by
 unfold jz;split
 ·rw [gy];omega
 ·rw [f8,gU,tG];omega
theorem TK{kvs:List (κ×V)}{k:κ}(v:V)(h:qY kvs k=none):jz kvs k v=kvs++[(k,v)]:=by
 unfold jz;rw [Jk,h];exact gD (by decide)
theorem RelO.isSome_eq{o:Option V}{u:Option Value}(r:RelO o u):o.isSome=u.isSome:=by
 cases o with
 | none=>cases u with
  | none=>rfl
  | some _=>exact(show False from r).elim
 | some _=>cases u with
  | none=>exact(show False from r).elim
  | some _=>rfl
theorem RelO.getD{o:Option V}{u:Option Value}{d:V}{d':Value}(r:RelO o u)(z:RelV d d'):RelV (o.getD d) (u.getD d'):=by
 cases o with
 | none=>cases u with
  | none=>exact z
  | some _=>exact(show False from r).elim
 | some _=>cases u with
  | none=>exact(show False from r).elim
  | some _=>exact r
theorem KV.val{kvs:List (κ×V)}{vs:List (κ×Value)}(r:KV kvs vs)(k:κ):RelO (qY kvs k) (valueAt vs k):=by
 unfold KV at r
 induction r with
 | nil=>exact True.intro
 | @cons p q ps qs h t ih =>
  obtain⟨h1,h2⟩:=h;by_cases e:p.1=k
  ·have e':q.1=k:=h1.symm.trans e;have b:valueAt (q::qs) k=some q.2:=by simp [valueAt,pV,e']
   rw [xF e,b];exact h2
  ·have e':¬ q.1=k:=fun z=>e (h1.trans z)
   have b:valueAt (q::qs) k=valueAt qs k:=by simp [valueAt,pV,e']
   rw [xG e,b];exact ih
theorem KV.any{kvs:List (κ×V)}{vs:List (κ×Value)}(r:KV kvs vs)(k:κ):(kvs.any fun kv=>decide (kv.1=k))=vs.any fun kv=>decide (kv.1=k):=by
 unfold KV at r
 induction r with
 | nil=>rfl
 | cons h t ih=>rw [dW,dW,ih,h.1]
theorem KV.repl{kvs:List (κ×V)}{vs:List (κ×Value)}(r:KV kvs vs)(k:κ){y:V}{u:Value}(B:RelV y u) :
  KV (kvs.map fun kv=>if kv.1=k then(kv.1,y)else kv) (vs.map fun kv=>if kv.1=k then(kv.1,u)else kv):=by
 unfold KV at r ⊢
 induction r with
 | nil=>exact .nil
 | @cons p q ps qs h t ih =>
  rw [gN,gN];refine .cons ?_ ih;obtain⟨h1,h2⟩:=h;by_cases e:p.1=k
  ·rw [gB e,gB (h1.symm.trans e)];exact⟨h1,B⟩
  ·rw [gD e,gD (fun z=>e (h1.trans z))];exact⟨h1,h2⟩
theorem KV.put{kvs:List (κ×V)}{vs:List (κ×Value)}(r:KV kvs vs)(k:κ){y:V}{u:Value}(z:RelV y u):KV (jz kvs k y) (stored vs k u):=by
 unfold jz stored;rw [r.any k];by_cases e:(vs.any fun kv=>decide (kv.1=k))=true
 ·rw [gB e,gB e];exact r.repl k z
 ·rw [gD e,gD e];exact Paired.snoc r ⟨rfl,z⟩
theorem KV.keys{kvs:List (κ×V)}{vs:List (κ×Value)}(r:KV kvs vs):kvs.map (·.1)=vs.map (·.1):=by
 unfold KV at r
 induction r with
 | nil=>rfl
 | cons h t ih=>rw [gN,gN,ih,h.1]
theorem KV.length{kvs:List (κ×V)}{vs:List (κ×Value)}(r:KV kvs vs):kvs.length=vs.length:=cI r
end
theorem kj{P:Program}{w:World}{k:Key}{u:Value}(r:RelV (kV k) u):(qW P w).is k u=true:=by
 cases k with
 | inl i=>obtain⟨t,e⟩:=(show ∃ t,u=Value.int i t from r);subst e;exact YE P w i t
 | inr x=>obtain⟨t,e⟩:=(show ∃ t,u=Value.str x t from r);subst e;exact YF P w x t
theorem Jm{P:Program}{w:World}:∀{ks:List Key} {us:List Value},Vals (ks.map kV) us->ItemsAre (qW P w) ks us
 | [],_,r=>by rw [tU]at r;cases r;exact .nil
 | k::ks,_,r=>by
  rw [gN]at r;cases r with
  | cons h t=>exact .cons (kj h) (Jm t)
abbrev KT(H:Hp):List (List Key×V)->List (List Key×Addr×Value)->Prop:=Paired fun p q=>p.1=q.1/\H q.2.1=some (.tup (p.1.map kV))/\RelV p.2 q.2.2
theorem KT.val{H:Hp}{kvs:List (List Key×V)}{xs:List (List Key×Addr×Value)}(r:KT H kvs xs)(k:List Key):RelO (qY kvs k) ((atKey xs k).map (·.2)):=by
 induction r with
 | nil=>exact True.intro
 | @cons p q ps qs h t ih =>
  obtain⟨h1,_,h2⟩:=h;by_cases e:p.1=k
  ·have e':q.1=k:=h1.symm.trans e;have b:atKey (q::qs) k=some q.2:=by simp [atKey,pV,e']
   rw [xF e,b];exact h2
  ·have e':¬ q.1=k:=fun z=>e (h1.trans z)
   have b:atKey (q::qs) k=atKey qs k:=by simp [atKey,pV,e']
   rw [xG e,b];exact ih
theorem KT.repl{H:Hp}{kvs:List (List Key×V)}{xs:List (List Key×Addr×Value)}(r:KT H kvs xs)(k:List Key){y:V}{u:Value}(B:RelV y u) :
  KT H (kvs.map fun kv=>if kv.1=k then(kv.1,y)else kv) (xs.map (putAt k u)):=by
 induction r with
 | nil=>exact .nil
 | @cons p q ps qs h t ih =>
  rw [gN,gN];refine .cons ?_ ih;obtain⟨h1,h2,h3⟩:=h;unfold putAt;by_cases e:p.1=k
  ·rw [gB e,gB (h1.symm.trans e)];exact⟨h1,h2,B⟩
  ·rw [gD e,gD (fun z=>e (h1.trans z))];exact⟨h1,h2,h3⟩
theorem KT.put{H:Hp}{kvs:List (List Key×V)}{xs:List (List Key×Addr×Value)}(r:KT H kvs xs)(k:List Key){b:Addr}{y:V}{u:Value}(B:H b=some (.tup (k.map kV)))(z:RelV y u) :
  KT H (jz kvs k y) (storedH xs k b u):=by
 have e:(kvs.any fun kv=>decide (kv.1=k))=(atKey xs k).isSome:=by
  rw [Jk,(r.val k).isSome_eq,Option.isSome_map]
 unfold jz storedH;rw [e];by_cases q:(atKey xs k).isSome=true
 ·rw [gB q,gB q];exact r.repl k z
 ·rw [gD q,gD q];exact Paired.snoc r ⟨rfl,B,z⟩
theorem KT.keeps{H H':Hp}{kvs:List (List Key×V)}{xs:List (List Key×Addr×Value)}(r:KT H kvs xs)(B:∀ b ys,H b=some (.tup ys)->H' b=some (.tup ys)):KT H' kvs xs :=
 Paired.mapP r fun _ _ z=>⟨z.1,B _ _ z.2.1,z.2.2⟩
section
variable{P:Program}{w:World}{H:Hp}{h:Heap}{a:Addr}
theorem K3{u:HO}(ok:HOk P w H h)(e:Rd H a u):ObjOk P w H h a u:=e.ok ok
theorem uP{kvs:List (Key×V)}(z:HOk P w H h)(e:Rd H a (.dK kvs)):kvs.length<=sizeLine/\(a==sysModules)=false/\∃ vs,KV kvs vs/\h.DictOf (qW P w) a vs :=
 show ObjOk P w H h a (.dK kvs)from K3 z e
theorem TL{kvs:List (Key×V)}(z:HOk P w H h)(e:H a=some (.dK kvs)):kvs.length<=sizeLine/\(a==sysModules)=false/\∃ vs,KV kvs vs/\h.DictOf (qW P w) a vs:=uP z (.inl e)
theorem uQ{ks:List Key}(z:HOk P w H h)(e:H a=some (.tup (ks.map kV))):(tupleKind (qW P w)).is h ks a:=by
 obtain⟨_,its,r,o,h1,h2,n,h3⟩:=(show ObjOk P w H h a (.tup (ks.map kV))from z a _ e)
 exact⟨o,its.toArray,n,h1,h2,h3,by simpa using Jm r⟩
theorem uR{kvs:List (List Key×V)}(O:HOk P w H h)(e:Rd H a (.dT kvs)):kvs.length<=sizeLine/\(a==sysModules)=false /\
  ∃ xs,KT H kvs xs/\h.DictOfH (tupleKind (qW P w)) a xs:=by
 obtain⟨z,y,xs,r,o,es,ep,h1,h2,h3,h4,h5⟩:=(show ObjOk P w H h a (.dT kvs)from K3 O e)
 refine⟨z,y,xs,r,o,es,ep,h1,h2,h3,h4,fun x hx=>?_,h5⟩
 have B:∀{l:List (List Key×V)} {m:List (List Key×Addr×Value)},KT H l m->∀ x∈m,(tupleKind (qW P w)).is h x.1 x.2.1:=by
  intro l m q
  induction q with
  | nil=>intro x hx;exact nomatch hx
  | @cons p q ps qs hq t ih =>
   intro x hx;rcases gl.mp hx with e|hx
   ·subst e;exact uQ O (by rw [<- hq.1];exact hq.2.1)
   ·exact ih x hx
 exact B r x hx
theorem K4{kvs:List (List Key×V)}(z:HOk P w H h)(e:H a=some (.dT kvs)):kvs.length<=sizeLine/\(a==sysModules)=false /\
  ∃ xs,KT H kvs xs/\h.DictOfH (tupleKind (qW P w)) a xs:=uR z (.inl e)
end
def DGet(H:Hp)(a:Addr)(y:V)(r:Option V):Prop :=
 (∃ kvs k,Rd H a (.dK kvs)/\y=kV k/\r=qY kvs k)∨∃ kvs k b,Rd H a (.dT kvs)/\y=.ref b/\H b=some (.tup (k.map kV))/\r=qY kvs k
def DPut(H:Hp)(a:Addr)(y v:V)(H':Hp):Prop :=
 (∃ kvs k,H a=some (.dK kvs)/\y=kV k/\kvs.length<sizeLine/\H'=upd H a (.dK (jz kvs k v))) ∨
 ∃ kvs k b,H a=some (.dT kvs)/\y=.ref b/\H b=some (.tup (k.map kV))/\kvs.length<sizeLine/\H'=upd H a (.dT (jz kvs k v))
theorem DGet.k{H:Hp}{a:Addr}{kvs:List (Key×V)}{k:Key}(e:H a=some (.dK kvs)):DGet H a (kV k) (qY kvs k):=.inl ⟨kvs,k,.inl e,rfl,rfl⟩
theorem DGet.t{H:Hp}{a b:Addr}{kvs:List (List Key×V)}{k:List Key}(e:H a=some (.dT kvs))(z:H b=some (.tup (k.map kV))):DGet H a (.ref b) (qY kvs k):=.inr ⟨kvs,k,b,.inl e,rfl,z,rfl⟩
theorem DPut.k{H:Hp}{a:Addr}{kvs:List (Key×V)}{k:Key}{v:V}(e:H a=some (.dK kvs))(z:kvs.length<sizeLine):DPut H a (kV k) v (upd H a (.dK (jz kvs k v))):=.inl ⟨kvs,k,e,rfl,z,rfl⟩
theorem DPut.t{H:Hp}{a b:Addr}{kvs:List (List Key×V)}{k:List Key}{v:V}(e:H a=some (.dT kvs))(z:H b=some (.tup (k.map kV)))(B:kvs.length<sizeLine) :
  DPut H a (.ref b) v (upd H a (.dT (jz kvs k v))):=.inr ⟨kvs,k,b,e,rfl,z,B,rfl⟩
section
variable{X:Cx}{pins:List (Addr×Obj)}{σ:St}{H:Hp}{s:Shared}{a:Addr}{y v:V}{u r:Value}{o:Option V}{A:Around}{E:Value->Shared->Prop}
theorem Inv.big(I:Inv X pins σ H s):sysModules<s.heap.objs.size:=by
 have h:mainGlobals<s.heap.objs.size:=(I.mod.glob.keeps I.bk).lt;exact pE (by decide) h
theorem Jn{h':Heap}{t':Nat}{ob:HO}(I:Inv X pins σ H s)(O:Mut (H a))(U:Heap.SameBut a s.heap h')(W:∃ q,h'.get? a=some q)(B:ObjOk X.prog X.w (upd H a ob) h' a ob) :
  Inv X pins σ (upd H a ob) {s with heap:=h',toks:=t'} :=
 I.write (x:=a) (e:=a) O (.inl rfl) (fun b q hb z=>(U.2 b hb).trans z) W B
theorem TM{P:Program}{w:World}{H':Hp}{h':Heap}{kvs:List (Key×V)}{vs:List (Key×Value)}(z:kvs.length<=sizeLine)(hd:(a==sysModules)=false)(B:KV kvs vs)(dd:h'.DictOf (qW P w) a vs) :
  ObjOk P w H' h' a (.dK kvs):=⟨z,hd,vs,B,dd⟩
theorem TN{H':Hp}{Q:Unit->Shared->Prop}(Y:A.units+1<cLine)(I:Inv X pins σ H s)(g:DPut H a y v H')(U:RelV y u)(W:RelV v r)(h:∀ s',Inv X pins σ H' s'->Q () s') :
  wpAny (model X.prog X.w) A (setItem (.ref a) u r) Q E s:=by
 rcases g with⟨kvs,k,e,ey,l,eH⟩|⟨kvs,k,b,e,ey,eb,l,eH⟩
 ·subst ey eH;obtain⟨z,hd,vs,B,dd⟩:=TL I.hok e;have hz:vs.length<=sizeLine:=by rw [<- B.length];exact z
  have hl:(jz kvs k v).length<=sizeLine:=by have:=Jl kvs k v;omega
  refine wpAny_setItem_pairs (hsz:=hz) (kj U) dd fun h' O hs=>h _ ?_
  have he:∃ q,h'.get? a=some q:=let ⟨q,_,_,hq,_⟩:=O;⟨q,hq⟩
  exact Jn I (by rw [e];exact True.intro) hs he (TM hl hd (B.put k W) O)
 ·subst ey eH;cases (show u=Value.ref b from U)
  obtain⟨z,hd,xs,B,dd⟩:=K4 I.hok e;have hz:xs.length<=sizeLine:=by rw [<- cI B];exact z
  have hl:(jz kvs k v).length<=sizeLine:=by have:=Jl kvs k v;omega
  refine wpAny_setItem_heap (hsz:=hz) (cJ Y) (uQ I.hok eb) dd fun h' O hs=>h _ ?_
  obtain⟨q,es,ep,hq,h2,h3,h4,_,h5⟩:=O;refine Jn I (by rw [e];exact True.intro) hs ⟨q,hq⟩ ⟨hl,hd,_,(B.put k eb W).keeps fun c ys ec=>?_,q,es,ep,hq,h2,h3,h4,h5⟩
  rw [qt (YG ec e (fun z=>nomatch z))]
  exact ec
end
section
variable{X:Cx}{pins:List (Addr×Obj)}{σ:St}{H:Hp}{s:Shared}{a:Addr}{kvs:List (Key×V)}{k:Key}{u:Value}{A:Around}{E:Value->Shared->Prop}
end
def TQ(td ty tv:TE):TS:=fun D σ H=>tv σ H fun v H1=>td σ H1 fun x H2=>ty σ H2 fun y H3=>∃ a H4,x=.ref a/\DPut H3 a y v H4/\D.nx σ H4
section
variable{X:Cx}{o i e value:Expr}{pos pos' tpos:Pos}{td ty tv:TE}
theorem Jo(z:X.A.units+1<cLine)(B:PE X o td)(hi:PE X i ty)(O:PE X value tv)(U:swapsWith value (some (.Subscript o i pos')) pos.line X.env=pure false) :
  PS X (.Assign [.Subscript o i pos'] value pos) (TQ td ty tv):=by
 intro pins s σ H D I h;refine wpAny_Assign_Subscript (thn (O pins s σ H _ I h) fun r s1 ⟨v,H1,I1,rv,q1⟩=>thn (B pins s1 σ H1 _ I1 q1) fun u s2 ⟨x,H2,I2,rx,q2⟩=>thn (hi pins s2 σ H2 _ I2 q2) fun iv s3 ⟨y,H3,I3,ry,a,H4,ex,g,q3⟩=>?_) U
 subst ex;obtain rfl:u=Value.ref a:=rx;exact TN z I3 g ry rv fun s4 I4=>⟨σ,H4,I4,q3⟩
end
theorem TR{P:Program}{w:World}{H:Hp}(h:Heap)(z:sysModules<h.objs.size):ObjOk P w H (h.push {cls:=.type "dict",data:=.dict #[]}) h.objs.size (.dK []) :=
 ⟨tZ _,du.mpr (hG (gP z)),[],.nil,Heap.DictOf.new h⟩
theorem TU{P:Program}{w:World}{H:Hp}(h:Heap)(z:sysModules<h.objs.size):ObjOk P w H (h.push {cls:=.type "dict",data:=.dict #[]}) h.objs.size (.dT []) :=
 ⟨tZ _,du.mpr (hG (gP z)),[],.nil,_,#[],0,gH _ rfl,⟨rfl,rfl,rfl⟩,rfl,rfl,cX⟩
def TV:TE:=fun _ H Q=>∀ p,H p=none->Q (.ref p) (upd H p (.dK []))
def TW:TE:=fun _ H Q=>∀ p,H p=none->Q (.ref p) (upd H p (.dT []))
section
variable{X:Cx}{pos:Pos}
theorem TX:PE X (.Dict [] [] pos) TV:=fun pins s σ H Q I h =>
 wpAny_Dict_empty ⟨.ref s.heap.objs.size,_,I.laid (a:=s.heap.objs.size) (o:=.dK []) (t':=s.toks) (fun _ _ q=>gg _ q) (gw _) (TR s.heap I.big),rfl,h _ (I.hok.fresh (gw _))⟩
theorem TY:PE X (.Dict [] [] pos) TW:=fun pins s σ H Q I h =>
 wpAny_Dict_empty ⟨.ref s.heap.objs.size,_,I.laid (a:=s.heap.objs.size) (o:=.dT []) (t':=s.toks) (fun _ _ q=>gg _ q) (gw _) (TU s.heap I.big),rfl,h _ (I.hok.fresh (gw _))⟩
end
structure M1(X:Cx)(o:Expr)(m:Str)(apos:Pos)(e:Expr)(cpos:Pos):Prop where
 base:attributeBase o m X.env (eval o X.env)=eval o X.env
 few:((backTo cpos (starEach [e] X.env)).all (fun x=>!x.1)&&(backToKw cpos (keywordEach [] X.env)).all (fun x=>x.1.isSome)
  && decide (([e]:List Expr).length+([]:List Keyword).length+(if ([]:List Keyword).isEmpty then 0 else 1)<30))=true
 line:(apos.endLine==cpos.line)=true
 trees:backTo cpos (starEach [e] X.env)=[(false,eval e X.env)]
structure M2(X:Cx)(o:Expr)(m:Str)(apos:Pos)(e f:Expr)(cpos:Pos):Prop where
 base:attributeBase o m X.env (eval o X.env)=eval o X.env
 few:((backTo cpos (starEach [e,f] X.env)).all (fun x=>!x.1)&&(backToKw cpos (keywordEach [] X.env)).all (fun x=>x.1.isSome)
  && decide (([e,f]:List Expr).length+([]:List Keyword).length+(if ([]:List Keyword).isEmpty then 0 else 1)<30))=true
 line:(apos.endLine==cpos.line)=true
 trees:backTo cpos (starEach [e,f] X.env)=[(false,eval e X.env),(false,eval f X.env)]
def IsD(H:Hp)(a:Addr):Prop:=(∃ kvs,Rd H a (.dK kvs))∨∃ kvs,Rd H a (.dT kvs)
theorem TZ{X:Cx}{pins:List (Addr×Obj)}{σ:St}{H:Hp}{s:Shared}{a:Addr}(I:Inv X pins σ H s)(d:IsD H a) :
  s.TypeIs (.ref a) "dict"/\(∀ b,Value.ref a=.ref b->∃ ob,s.heap.get? b=some ob/\ob.dict=none)/\(a==sysModules)=false:=by
 rcases d with⟨kvs,e⟩|⟨kvs,e⟩
 ·obtain⟨_,hd,vs,_,dd⟩:=uP I.hok e;refine⟨dd.typeIs,fun b q=>?_,hd⟩
  cases q;obtain⟨ob,_,_,h1,h2,_⟩:=dd;exact⟨ob,h1,h2.2.1⟩
 ·obtain⟨_,hd,xs,_,dd⟩:=uR I.hok e;refine⟨dd.typeIs,fun b q=>?_,hd⟩
  cases q;obtain⟨ob,_,_,h1,h2,_⟩:=dd;exact⟨ob,h1,h2.2.1⟩
section
variable{X:Cx}{pins:List (Addr×Obj)}{σ:St}{H:Hp}{s:Shared}{a:Addr}{y d:V}{u r:Value}{o:Option V}{A:Around}{E:Value->Shared->Prop}
theorem qa0{Q:Value->Shared->Prop}(W:A.units+1<cLine)(I:Inv X pins σ H s)(g:DGet H a y o)(O:RelV y u)(U:RelV d r)(h:∀ w' s',Inv X pins σ H s'->RelV (o.getD d) w'->Q w' s') :
  wpAny (model X.prog X.w) A (call (.builtin "dict.get") [.ref a,u,r]) Q E s:=by
 rcases g with⟨kvs,k,e,ey,l⟩|⟨kvs,k,b,e,ey,eb,l⟩
 ·subst ey;obtain⟨z,hd,vs,B,dd⟩:=uP I.hok e;refine cY ft dd.typeIs pQ (cK _ _ _) (meets_dict_get_default (qW X.prog X.w) a (kj O) hd r) ⟨_,dd.mapOf,h _ _ (I.tok _) ?_⟩;rw [l];exact(B.val k).getD U
 ·subst ey;cases (show u=Value.ref b from O)
  obtain⟨z,hd,xs,B,dd⟩:=uR I.hok e;refine cY ft dd.typeIs pQ (cK _ _ _) (meetsH_dict_get_default (tupleKind (qW X.prog X.w)) a b hd r) ⟨cJ W,k,xs,uQ I.hok eb,dd,h _ _ (I.tok _) ?_⟩;rw [l];exact(B.val k).getD U
end
def qa1(td ty tx:TE):TE:=fun σ H Q=>td σ H fun x H1=>∃ a,x=.ref a/\IsD H1 a/\ty σ H1 fun y H2=>tx σ H2 fun z H3=>∃ o,DGet H3 a y o/\Q (o.getD z) H3
section
variable{X:Cx}{o e f:Expr}{apos cpos:Pos}{td ty tx:TE}
theorem qa2(O:X.A.units+1<cLine)(U:PE X o td)(W:PE X e ty)(Y:PE X f tx)(m:M2 X o "get" apos e f cpos):PE X (.Call (.Attribute o "get" apos) [e,f] [] cpos) (qa1 td ty tx):=by
 intro pins s σ H Q I h;refine dQ m.base m.few m.line pG ft cZ (thn (U pins s σ H _ I h) fun u s1 ⟨x,H1,I1,rx,a,ex,d,q1⟩=>?_)
 subst ex;obtain rfl:u=Value.ref a:=rx;obtain⟨t1,t2,_⟩:=TZ I1 d;refine⟨t1,t2,?_⟩;rw [m.trees];refine pP rfl (cu (gJ (thn (W pins s1 σ H1 _ I1 q1) fun iv s2 ⟨y,H2,I2,ry,q2⟩ =>
  gJ (thn (Y pins s2 σ H2 _ I2 q2) fun fv s3 ⟨z,H3,I3,rz,ov,g,q3⟩=>t7 ?_))))
 exact qa0 O I3 g ry rz fun w' s4 I4 B=>⟨_,H3,I4,B,q3⟩
end
section
variable{X:Cx}{pins:List (Addr×Obj)}{σ:St}{H:Hp}{s:Shared}{a:Addr}{kvs:List (Key×V)}{A:Around}{E:Value->Shared->Prop}
end
section
variable{X:Cx}{pins:List (Addr×Obj)}{σ:St}{H:Hp}{s:Shared}{a:Addr}{y:V}{u:Value}{A:Around}{E:Value->Shared->Prop}
end
end L2
namespace Att
open PySem PySem.W PySem.Calls PyProof.Rows
theorem qa3{P:Params}{h:Heap}:∀(ns:List Int) (vs:List Value),WellAll P h vs (ns.map WData.int)->IntsAre vs ns:=by
 intro ns
 induction ns with
 | nil =>
  intro vs w;rw [tU]at w;cases w;exact .nil
 | cons n ns ih =>
  intro vs w;rw [gN]at w;cases w with
  | cons a b =>
   cases a;exact .cons _ _ (ih _ b)
theorem qa4{l:OpenLaw}{n:Nat}(Y:l.most=some n){P:Params}{h:Heap}{args:List WData}{z:List Value}
  (B:l.row.toRowW.claim.pre args=true)(U:WellAll P h z args) :
  ∃ a vs ns,z=[Value.ref a]/\args=[WData.list (ns.map WData.int)]/\h.get? a=some {cls:=.type "list",data:=.seq vs.toArray}/\IntsAre vs ns/\ns.length<=n:=by
 have W:WShape.hasAll [] args [.list .int]=true:=(pre_splitW B).1;have hc:l.pre.holds [] {args:=args}=true:=(pre_splitW B).2;obtain⟨d,r,rfl,h1,h2⟩:=hasAllW_cons W;obtain rfl:=hasAllW_nil h2;obtain⟨xs,rfl,h3⟩:=hasW_list h1;obtain⟨ns,rfl⟩:=items_int h3;have O:ns.length<=n:=by
  unfold OpenLaw.pre at hc;have h4:(WTm.not (.lt (.lit (.int (n:Int))) (.len (.arg 0)))).holds [] {args:=[.list (ns.map .int)]}=true:=by
   have h4:=(holds_andW hc).1;rw [Y]at h4;exact h4
  have h5:=condW_of h4 (w_not (w_lt w_lit (w_len_list (w_arg rfl))));rw [gy]at h5;refine Nat.le_of_not_lt fun q=>?_
  have q':(n:Int)<((ns.length:Nat):Int):=by omega
  first
   | (rw [pj q']at h5;exact absurd h5 (by decide))
   | (simp at h5;omega)
 cases U with
 | cons w1 w2 =>
  cases w2;cases w1 with
  | list ho hall=>exact⟨_,_,ns,rfl,rfl,ho,qa3 ns _ hall,O⟩
theorem qa5(l:OpenLaw)(args:List WData):l.row.toRowW.claim.post args (.bool true) args=true :=
 postW_of (r:=l.row.toRowW) (X:=(true==true))
  (show WShape.has [] (.bool true) .bool=true by first|rfl|decide|simp [WShape.has,WShape.arms,WShape.armsAll])
  (show(WTm.eq .res (.lit (.bool true))).value [] {args:=args,res:=some (.bool true),after:=args}=some (.bool (true==true))from w_eq_bool (w_res rfl) w_lit) rfl
theorem attach_call{l:OpenLaw}{n:Nat}{q:Program}{B:List Str}{XP:(Str->Option Value)->Heap->Prop}{YP:World->Heap->Prop}{d:DefRec}
  (hn:l.most=some n)(hdf:d.params.defaults=[])
  (call:∀(w:World) (O z:Shared) (mg mb:Str->Option Value) (fa:Addr) (o:Obj) (pm cd U:Value) (a:Addr) (vs:List Value) (ns:List Int),
   Ground q B [] XP w O mg mb z.heap->YP w z.heap ->
   z.heap.get? fa=some o->o.data=.func (docDef d.name d.params d.body d.scope pm cd U)->z.heap.CodeRec cd d.name->mg d.name=some (.ref fa) ->
   z.heap.get? a=some {cls:=.type "list",data:=.seq vs.toArray}->IntsAre vs ns->ns.length<=n->z.gens=#[] ->
   codeAny (model l.prog w) callerA (.call (.ref fa) ⟨[.ref a],[]⟩) (fun r s'=>r=.ok (.ret (.bool true))/\OldK z.heap s'.heap/\s'.os=z.os/\AllBare s'.gens) z) :
  WalkO q B XP YP l.row.toRowW d [] (fun f vs=>PySem.call f vs):=by
 intro w O z mg mb G Y fa o pm cd U dV kV ho hd hcd hD hmg hg args h7 as Z h8 hrd hwl hlo;obtain rfl:dV=.none:=Dflts.none hD hdf;obtain rfl:kV=.none:=Dflts.noKw hD;obtain⟨a,vs,ns,rfl,rfl,h5,W,h6⟩:=qa4 hn Z hwl;refine enter_call (pU (call w O z mg mb fa o pm cd U a vs ns G Y ho (fd_plain hd) hcd hmg h5 W h6 hg) fun r s' hq=>?_)
 obtain⟨rfl,h2,h3,h4⟩:=hq;exact⟨.inl ⟨.bool true,.bool true,[],rfl,fun _=>rfl,.bool true,qa5 l _,fun _=>⟨List.Pairwise.nil,fun _ hm=>(nomatch hm)⟩⟩,h2,h3,h4⟩
section
variable{prog:Program}{w:World}{A:Around}{E:Value->Shared->Prop}{s:Shared}{K:Frag}
def qkf(h:Heap)(L d:Addr):List (Addr×Obj):=(List.range h.objs.size).filterMap fun a=>if a=L∨a=d then none else(h.get? a).map fun o=>(a,o)
end
end Att
namespace L2
open PySem PySem.Spec PyProof.Rows
theorem K5:∀{vs:List Value} {ns:List Int},IntsAre vs ns->Vals (ns.map V.int) vs
 | _,_,.nil=>.nil
 | _,_,.cons n t h=>.cons ⟨t,rfl⟩ (K5 h)
def Only(H:Hp):Prop:=∀ b,H b=none∨∃ o xs,H b=some (.frz o (.lst xs))
theorem qa6{P:Program}{w:World}{K:Frag}{mg mb:Str->Option Value}{CX:CXT}{k:Nat}{fa a:Addr}{fd:FuncData}{x:Str}{sp:Sp}{B:Shared}{vs:List Value}{ns:List Int}
  (KX:K.In B.heap)(hns:B.heap.Ns mainGlobals mg)(U:B.heap.Ns builtinsNs mb)(hbb:∀ x:Str,x≠"__name__"->mb x=bootBuiltins x)(h3:B.heap.NoLimit)(hg:B.gens=#[])
  (ha:B.heap.get? a=some {cls:=.type "list",data:=.seq vs.toArray})(hi:IntsAre vs ns)(hl:ns.length<=sizeLine)(hr:Room k callerA)
  (F:∀ base:Heap,K.In base->base.Ns mainGlobals mg->FnOk P w K mg base CX k fa fd [x] sp)(Z:∀(s:Shared) (u:Value),BindsTo s fd ⟨[u],[]⟩ [(x,u)])
  (hsp:∀ H:Hp,Only H->SqL K H a (ns.map V.int)->sp [.ref a] H (fun v _=>v=.bl true) fun _ _ _=>False)
  (hCX:∀ H e s',CX [] H B (fun _ _ _=>False) e s'->False) :
  codeAny (model P w) callerA (.call (.ref fa) ⟨[.ref a],[]⟩) (fun r s'=>r=.ok (.ret (.bool true))/\OldK B.heap s'.heap/\s'.os=B.os/\AllBare s'.gens) B:=by
 have rv:=K5 hi;have h4:=hi.length
 -- from an abstract heap in which nothing but the script may be tracked
 have Y:∀ H:Hp,Only H->SqL K H a (ns.map V.int)->HOk P w H B.heap->(∀ b,H b≠none->b=a)->(H a≠none->K.lookup a=none) ->
   codeAny (model P w) callerA (.call (.ref fa) ⟨[.ref a],[]⟩) (fun r s'=>r=.ok (.ret (.bool true))/\OldK B.heap s'.heap/\s'.os=B.os/\AllBare s'.gens) B:=by
  intro H hO hS hok hA hK;have O:∀{b:Addr} {o:Obj},B.heap.get? b=some o->H b=none->(w6 B.heap H).get? b=some o:=fun e n=>MZ e n
  have noA:∀{b:Addr} {o:Obj} {es:Array DictEntry} {ep:Nat},B.heap.get? b=some o->o.data=.dict es ep->H b=none:=fun{b o es ep} e d=>by
   cases q:H b with
   | none=>rfl
   | some u =>
    have e':b=a:=hA b (by rw [q];simp)
    subst e';rw [ha]at e;cases e;have d':Data.seq vs.toArray _=Data.dict es ep:=d;cases d'
  have W:∀{b:Addr} {m:Str->Option Value},B.heap.Ns b m->(w6 B.heap H).Ns b m:=fun{b m} ⟨o,es,ep,e,d,r⟩=>⟨o,es,ep,O e (noA e d),d,r⟩
  have hKb:K.In (w6 B.heap H):=fun b o e=>O (KX b o e) (by
   cases q:H b with
   | none=>rfl
   | some u =>
    have e':b=a:=hA b (by rw [q];simp)
    subst e';rw [hK (by rw [q];simp)]at e;cases e)
  have hM:Mod K mg (w6 B.heap H):=⟨hKb,W hns,⟨mb,W U,hbb⟩,let ⟨mc,h1,h2⟩:=h3;⟨mc,W h1,h2⟩⟩
  have e0:Env0 P w K mg (w6 B.heap H) callerA [] B H:=⟨rfl,hM,fun b o e=>G0 e,le_of_eq (MY _ _),trivial,fun b U=>absurd (show b∈([]:List Addr)from U) (by simp),hok,.of_eq hg⟩
  refine pU ((F _ hKb (W hns)).run callerA [] B H ⟨[.ref a],[]⟩ [.ref a] [.ref a] _ _ hr e0 (Z B (.ref a)) (.cons rfl .nil) (hsp H hO hS)) fun r s' h=>?_
  cases r with
  | error e=>exact(hCX H e s' h).elim
  | ok fl =>
   cases fl with
   | next=>exact False.elim h
   | brk=>exact False.elim h
   | cont=>exact False.elim h
   | ret u =>
    obtain⟨v,H',os,h5,un,h6,r',q⟩:=h;have q':v=.bl true:=q;subst q';obtain rfl:u=Value.bool true:=r';refine⟨rfl,OldK.of_keep fun b o e=>?_,os,h5⟩
    cases q:H b with
    | none=>exact un.keep b o e q (by intro z;exact absurd (show b∈([]:List Addr)from z) (by simp)) (by simp)
    | some u =>
     rcases hO b with z|⟨ob,xs,z⟩
     ·rw [q]at z;cases z
     ·have z2:=un.frzs b ob _ z;obtain⟨e1,_⟩:=hok b _ z;obtain⟨e2,_⟩:=h6 b _ z2;rw [e]at e1;cases e1;exact e2
 cases hk:K.lookup a with
 | some o =>
  -- the script is one of the module's own objects
  have e:=KX a o hk;rw [ha]at e;cases e;refine Y (fun _=>none) (fun _=>.inl rfl) (.inr ⟨_,vs.toArray,_,hk,rfl,rfl,rfl,by rw [gQ,h4];exact hl,by simpa using rv⟩) (fun b u z=>by have z':(none:Option HO)=some u:=z;cases z') (fun b z=>absurd rfl z) fun z=>absurd rfl z
 | none =>
  refine Y (fun b=>if b=a then some (.frz {cls:=.type "list",data:=.seq vs.toArray} (.lst (ns.map V.int)))else none) (fun b=>?_) (.inl (.inr ⟨{cls:=.type "list",data:=.seq vs.toArray},gB rfl⟩)) (fun b u z=>?_) (fun b z=>?_) fun _=>hk
  ·by_cases U:b=a
   ·exact .inr ⟨_,_,gB U⟩
   ·exact .inl (gD U)
  ·by_cases U:b=a
   ·have z':=(gB U).symm.trans z;cases z';subst U;exact⟨ha,by rw [gy];exact hl,vs,_,rv,ha⟩
   ·have z':=(gD U).symm.trans z;cases z'
  ·by_cases U:b=a
   ·exact U
   ·exact absurd (gD U) z
abbrev KOf{K:Frag}{h:Heap}(_:K.In h):Frag:=K
theorem K6{l:PySem.W.OpenLaw}{n k:Nat}{q:Program}{B:List Str}{XP:(Str->Option Value)->Heap->Prop}{YP:World->Heap->Prop}{d:DefRec}{K:Params->Frag}{CX:World->CXT}{sp:World->Sp}{x:Str}
  (hn:l.most=some n)(hn2:n<=sizeLine)(hdf:d.params.defaults=[])(hr:Room k callerA)
  (hY:∀(w:World) (h:Heap),YP w h->(K w.params).In h)
  (F:∀(w:World) (mg:Str->Option Value) (fa:Addr) (h:Heap),(K w.params).In h->h.Ns mainGlobals mg->mg d.name=some (.ref fa) ->
   ∃ fd:FuncData,(∀(s:Shared) (u:Value),BindsTo s fd ⟨[u],[]⟩ [(x,u)]) /\
    ∀ base:Heap,(K w.params).In base->base.Ns mainGlobals mg->FnOk l.prog w (K w.params) mg base (CX w) k fa fd [x] (sp w))
  (hsp:∀(w:World) (H:Hp) (a:Addr) (ns:List Int),ns.length<=n->Only H->SqL (K w.params) H a (ns.map V.int)->sp w [.ref a] H (fun v _=>v=.bl true) fun _ _ _=>False)
  (hCX:∀(w:World) (H:Hp) (s:Shared) (e:Value) (s':Shared),CX w [] H s (fun _ _ _=>False) e s'->False) :
  PySem.W.WalkO q B XP YP l.row.toRowW d [] (fun f vs=>PySem.call f vs):=by
 refine Att.attach_call hn hdf fun w h3 U mg mb fa o pm cd doc a vs ns G Y ho hd hcd hmg Z O z hg=>?_
 have KX:=hY w _ Y;obtain⟨fd,hb,hF⟩:=F w mg fa _ KX G.T.g hmg;exact qa6 KX G.T.g G.T.b G.T.builtins G.T.nolimit hg Z O (t8 z hn2) hr hF hb (fun H hO hS=>hsp w H a ns z hO hS) fun H e s'=>hCX w H U e s'
end L2
/- THE LAST THEOREM (shape;LID,My.* are yours):
   My.Adr: a structure of the addresses that your layer names (classes,functions);My.Txt K t: a structure (Prop) of the equations over K;
   My.txt_mk:{K} {implicit addresses ..} (e1:nsIn K mainGlobals "law"=some (some (.ref f))) (e2:K.lookup f=some ⟨oc,od,.func (fnOf "law" "law" params body scope dV kV doc pm an cdv ct),sl⟩) (e3:codeIn K cdv "law"=true) ..:∃ t,My.Txt K t
set_option maxRecDepth 100000 in
set_option maxHeartbeats 0 in
theorem PySem.Challenge.cw_LID_holds : PySem.Challenge.rw_LID.Holds := by
 w_on;o_law;k_head;(case hw=>w_witness2)
 k_fill
 refine L2.K6 (l:=PySem.Challenge.rw_LID) (n:=63) (k:=40) (x:="script") (CX:=fun w=>..) (sp:=fun _=>My.sp_law) rfl (by decide) rfl ⟨rfl,by decide,by decide⟩ (fun w h Y=>kIn_of Y) ?F ?S ?C
 case F =>
  intro w mg fa h KX G z;have T:∃ t,My.Txt (L2.KOf KX) t:=by
   dsimp only [L2.KOf]                          -- K must stand as «<heap const> w.params» for k_is;refine' My.txt_mk ?e1 ?e2 ?e3 ..
   (case e1=>PySem.W.k_is)                    -- in the order: a name -> its address -> its object -> its parts
   (case e2=>PySem.W.k_is)
   ..
  obtain⟨t,T⟩:=T;have e0:=z.symm.trans (fy KX G T.law);cases e0                                       -- fa is the law's own address;exact⟨_,fun s u=>.of_eq rfl,fun base kb nb=>My.law_fn T kb nb⟩     -- if «.of_eq rfl» comes too early: refine'⟨_,?b,fun base kb nb=>My.law_fn T kb nb⟩;exact fun s u=>.of_eq rfl
 case S=>exact fun w H a ns hl hO hS=>..
 case C=>exact ..
(the tactic k_is has no namespace: write k_is) -/
namespace L2
open PySem PySem.Spec PyProof.Rows
def defArgs(s:Stmt):Arguments:=match s with
 | .FunctionDef _ a _ _ _ _ _ _ _ _=>a
 | _=>{posonlyargs:=[],args:=[],vararg:=none,kwonlyargs:=[],kw_defaults:=[],kwarg:=none,defaults:=[]}
def defBody(s:Stmt):List Stmt:=match s with
 | .FunctionDef _ _ b _ _ _ _ _ _ _=>b
 | _=>[]
def defScope(s:Stmt):Scope:=match s with
 | .FunctionDef _ _ _ _ _ _ sc _ _ _=>sc
 | _=>{kind:=.function,names:=[],isGenerator:=false,isCoroutine:=false}
abbrev CX0:CXT:=fun _ _ _ _ _ _=>False
abbrev E0:XK:=fun _ _ _=>False
theorem K7{X:Cx}:YS CX0 X E0:=fun _ _ _ _ _ _ _ h=>h.elim
structure Fun(K:Frag)(x qual:Str)(st:Stmt)(f:Addr)(fd:FuncData):Prop where
 ex:∃(oc:Value) (od:Option Addr) (kV doc pm:Value) (an:Option Addr) (cdv ct:Value) (osl:Array (Option Value)),
  fd=PySem.W.fnOf x qual (defArgs st) (defBody st) (defScope st) .none kV doc pm an cdv ct/\K.lookup f=some ⟨oc,od,.func fd,osl⟩/\codeIn K cdv qual=true
 kp:keepIn K (.ref f)=true
section
variable{P:Program}{w:World}{K:Frag}{mg:Str->Option Value}{base:Heap}
theorem Fun.ok{x z:Str}{st:Stmt}{f:Addr}{fd:FuncData}{N ps:List Str}{k:Nat}{sp:Sp}(F:Fun K x z st f fd)(S:FnScope N ps (defScope st))(U:∀ vs H Q E,sp vs H Q E->vs.length=ps.length)
  (O:∀(B:Value) (A:Around) (outer:List Env) (s:Shared) (H:Hp) (vs:List V) (Q:VK) (E:XK),Room k (A.deeper (envOfC z (defScope st) s.heap.objs.size f B))->sp vs H Q E ->
   ∃ t,PSs (cxOf CX0 P w K mg base N z (defScope st) f B A outer s H E).nox (defBody st) t/\t {nx:=fun _ H'=>Q .non H',rt:=Q} (jR N vs) H):FnOk P w K mg base CX0 (k+1) f fd ps sp:=by
 obtain⟨oc,od,kV,Z,pm,an,B,ct,osl,rfl,lk,Y⟩:=F.ex;refine YZ lk Y S U fun A outer s H vs Q E hr W=>?_
 obtain⟨t,h,q⟩:=O B A outer s H vs Q E hr W;exact⟨t,h.nox,q⟩
theorem Fun.binds{x z:Str}{st:Stmt}{f:Addr}{fd:FuncData}{ps:List Str}(F:Fun K x z st f fd)
  (h:∀(kV B pm:Value) (an:Option Addr) (O ct:Value) (us:List Value),us.length=ps.length->bindArgs (PySem.W.fnOf x z (defArgs st) (defBody st) (defScope st) .none kV B pm an O ct) ⟨us,[]⟩=pure (ps.zip us)):Binds K fd ps []:=by
 obtain⟨oc,od,kV,B,pm,an,O,ct,U,rfl,lk,Y⟩:=F.ex;exact .all (h kV B pm an O ct)
theorem km{x z:Str}{st:Stmt}{f:Addr}{oc:Value}{od Y:Option Addr}{U:Array (Option Value)}{Z O pm B ct:Value}(l:K.lookup f=some ⟨oc,od,.func (PySem.W.fnOf x z (defArgs st) (defBody st) (defScope st) .none Z O pm Y B ct),U⟩)
  (c:codeIn K B z=true)(k:keepIn K (.ref f)=true):Fun K x z st f (PySem.W.fnOf x z (defArgs st) (defBody st) (defScope st) .none Z O pm Y B ct):=⟨⟨oc,od,Z,O,pm,Y,B,ct,U,rfl,l,c⟩,k⟩
end
section
variable{X:Cx}
theorem pv(i:Nat){x:Str}{pos:Pos}(B:X.N[i]?=some x:=by rfl)(O:Vis X.env.scope x:=by trivial)(hd:(x==("__debug__":Str))=false:=by decide)
  (z:(x==("__classdict__":Str))=false:=by decide):PE X (.Name x pos) (uN i):=jn B O hd z
end
def Same(H H':Hp):Prop:=∀ b o,H b=some o->H' b=some o
theorem Same.seq{K:Frag}{H H':Hp}{a:Addr}{xs:List V}(e:Same H H')(h:SqL K H a xs):SqL K H' a xs:=by
 rcases h with(h|⟨o,h⟩)|h
 ·exact .inl (.inl (e _ _ h))
 ·exact .inl (.inr ⟨o,e _ _ h⟩)
 ·exact .inr h
section
variable{κ:Type} [DecidableEq κ]
end
end L2
namespace L3
open PySem
inductive D where
 | non|bl (b:Bool)|int (i:Int)|str (x:Str)|tup (xs:List D)|lst (xs:List D)
 | dK (kvs:List (Sum Int Str×D))|dT (kvs:List (List (Sum Int Str)×D))|xc (cls:Str) (fs:List (Str×D))
 deriving Inhabited
inductive En where
 | fz (d:D)|ow (d:D)|br (d:D)|lk (d:D)|od (d:D)
 deriving Inhabited
@[reducible] def En.d:En->D
 | .fz d=>d|.ow d=>d|.br d=>d|.lk d=>d|.od _=>.xc "" []
structure Xc where
 cls:Str
 fs:List (Str×D)
inductive R(α:Type)where
 | ok (a:α)|exc (x:Xc)|stuck
@[reducible] def R.bind {α β:Type} (r:R α) (f:α->R β):R β:=match r with
 | .ok a=>f a|.exc x=>.exc x|.stuck=>.stuck
@[simp] theorem R.bind_ok {α β:Type} (a:α) (f:α->R β):(R.ok a).bind f=f a:=rfl
@[simp] theorem R.bind_exc {α β:Type} (x:Xc) (f:α->R β):(R.exc x:R α).bind f=.exc x:=rfl
@[simp] theorem R.bind_stuck {α β:Type} (f:α->R β):(R.stuck:R α).bind f=.stuck:=rfl
abbrev Rho:=List (Option En)
abbrev EF:=Rho->R En
abbrev TF:=Rho->R Bool
inductive Out where
 | nx (ρ:Rho)|rt (w:En)|bk (ρ:Rho)|ct (ρ:Rho)|exc (x:Xc)|stuck
abbrev SF:=Rho->Out
abbrev Den:=List En->R En
@[reducible] def En.st:En->R D
 | .fz d=>.ok d|.ow d=>.ok d|_=>.stuck
@[reducible] def En.arg:En->R En
 | .fz d=>.ok (.fz d)|.ow d=>.ok (.fz d)|.br d=>.ok (.br d)|.lk _=>.stuck|.od (.dK kds)=>.ok (.fz (.lst (kds.map Prod.snd)))|.od _=>.stuck
@[reducible] def En.nm:En->R En
 | .fz d=>.ok (.fz d)|.ow d=>.ok (.ow d)|_=>.stuck
def stAll:List En->R (List D)
 | []=>.ok []
 | x::r=>x.st.bind fun d=>(stAll r).bind fun ds=>.ok (d::ds)
def qU:List En->R (List En)
 | []=>.ok []
 | x::r=>x.arg.bind fun d=>(qU r).bind fun ds=>.ok (d::ds)
def q9(i:Nat):EF:=fun ρ=>match ρ[i]? with
 | some (some (.fz d))=>.ok (.fz d)
 | some (some (.ow d))=>.ok (.br d)
 | some (some (.br d))=>.ok (.br d)
 | some (some (.lk d))=>.ok (.fz d)
 | _=>.stuck
def eC(d:D):EF:=fun _=>.ok (.fz d)
def eOp(g:D->D->R En)(a b:EF):EF:=fun ρ=>(a ρ).bind fun x=>(b ρ).bind fun y=>g x.d y.d
def eUn(g:D->R En)(a:EF):EF:=fun ρ=>(a ρ).bind fun x=>g x.d
def evs:List EF->Rho->R (List En)
 | [],_=>.ok []
 | a::r,ρ=>(a ρ).bind fun x=>(evs r ρ).bind fun xs=>.ok (x::xs)
def sz:Nat:=16777216
def qK(a:List EF):EF:=fun ρ=>(evs a ρ).bind fun xs=>(stAll xs).bind fun ds=>if ds.length<=sz then .ok (.ow (.lst ds))else .stuck
def js(a:List EF):EF:=fun ρ=>(evs a ρ).bind fun xs=>(stAll xs).bind fun ds=>if ds.length<=sz then .ok (.fz (.tup ds))else .stuck
def qj(z:Den)(a:List EF):EF:=fun ρ=>(evs a ρ).bind fun xs=>(qU xs).bind fun ys=>z ys
def eB(g:List D->R En)(a:List EF):EF:=fun ρ=>(evs a ρ).bind fun xs=>g (xs.map En.d)
@[reducible] def okI (i:Int):R En:=.ok (.fz (.int i))
@[reducible] def okB (b:Bool):R En:=.ok (.fz (.bl b))
def jc:D->D->R En
 | .int i,.int j=>okI (i-j)
 | _,_=>.stuck
def fits(b:Nat):Int->Bool
 | .ofNat n=>ble n b
 | .negSucc n=>ble n b
theorem fits_iff{b:Nat}{i:Int}:fits b i=true↔-((b:Int)+1)<=i/\i<=b:=by
 cases i with
 | ofNat n =>
  show ble n b=true↔_;rw [ble_eq];simp only [Int.ofNat_eq_natCast];omega
 | negSucc n =>
  show ble n b=true↔_;rw [ble_eq];omega
abbrev b64:Nat:=18446744073709551614
abbrev b62:Nat:=4611686018427387903
theorem b64e:((b64:Nat):Int)=18446744073709551614:=rfl
theorem b62e:((b62:Nat):Int)=4611686018427387903:=rfl
def zx:D->D->R En
 | .int i,.int j=>if (fits b64 i||fits b64 j)=true then okI (i*j)else .stuck
 | _,_=>.stuck
def zy:D->D->R En
 | .int i,.int j=>if 0<j then okI (i%j)else .stuck
 | _,_=>.stuck
def zA:D->D->R En
 | .int i,.int j=>if 0<j/\j<1073741824 then okI (i/j)else .stuck
 | _,_=>.stuck
def dLt:D->D->R En
 | .int i,.int j=>okB (decide (i<j))
 | _,_=>.stuck
def dLe:D->D->R En
 | .int i,.int j=>okB (decide (i<=j))
 | _,_=>.stuck
def dGt:D->D->R En
 | .int i,.int j=>okB (decide (j<i))
 | _,_=>.stuck
def dGe:D->D->R En
 | .int i,.int j=>okB (decide (j<=i))
 | _,_=>.stuck
def b2i(b:Bool):Int:=if b then 1 else 0
mutual
def deq:D->D->Bool
 | .non,.non=>true
 | .bl a,.bl b=>a==b
 | .bl a,.int b=>b2i a==b
 | .int a,.bl b=>a==b2i b
 | .int a,.int b=>a==b
 | .str a,.str b=>a==b
 | .tup a,.tup b=>deqs a b
 | .lst a,.lst b=>deqs a b
 | _,_=>false
def deqs:List D->List D->Bool
 | [],[]=>true
 | x::xs,y::ys=>deq x y&&deqs xs ys
 | _,_=>false
end
def qH:Nat->D->Bool
 | _,.non=>true|_,.bl _=>true|_,.int _=>true|_,.str x=>PyData.strOk x
 | n+1,.tup a=>a.all (qH n)
 | n+1,.lst a=>a.all (qH n)
 | _,_=>false
def eqok(d:D):Bool:=qH 8 d
def dEq(a b:D):R En:=if eqok a&&eqok b then okB (deq a b)else .stuck
def dNe(a b:D):R En:=if eqok a&&eqok b then okB (!deq a b)else .stuck
def din(x:D)(ys:List D):Bool:=ys.any fun y=>deq y x
def ixn(n:Nat)(i:Int):Option Nat:=if 0<=i then(if i<n then some i.toNat else none)else if -(n:Int)<=i then some (i+n).toNat else none
def ati{α:Type}(xs:List α)(i:Int):Option α:=(ixn xs.length i).bind fun j=>xs[j]?
def zN:D->Option (Sum Int Str)
 | .int i=>some (.inl i)
 | .str x=>some (.inr x)
 | _=>none
def jS:List D->Option (List (Sum Int Str))
 | []=>some []
 | x::r=>(zN x).bind fun k=>(jS r).map fun ks=>k::ks
def look{κ:Type} [DecidableEq κ](k:κ):List (κ×D)->Option D
 | []=>none
 | (x,d)::r=>if x=k then some d else look k r
def okD(o:Option D):R En:=match o with
 | some d=>.ok (.fz d)
 | none=>.stuck
def yo:List D->R En
 | [.lst xs]=>.ok (.ow (.lst xs))
 | [.tup xs]=>.ok (.ow (.lst xs))
 | _=>.stuck
def Jp:List D->R En
 | [.lst xs]=>.ok (.fz (.tup xs))
 | [.tup xs]=>.ok (.fz (.tup xs))
 | _=>.stuck
def wb:List D->R En
 | [.int i,.int j]=>okI (if j<i then j else i)
 | _=>.stuck
inductive Ty|int|bool|str|list|tuple|dict
def tyIs:D->Ty->Bool
 | .int _,.int=>true|.bl _,.int=>true|.bl _,.bool=>true|.str _,.str=>true
 | .lst _,.list=>true|.tup _,.tuple=>true|.dK _,.dict=>true|.dT _,.dict=>true
 | _,_=>false
def dIs(t:Ty):D->R En
 | .xc _ _=>.stuck
 | d=>okB (tyIs d t)
def kn:D->R Bool
 | .non=>.ok false|.bl b=>.ok b|.int i=>.ok (i != 0)|.str x=>if x.length<=sz then .ok ((x.length:Int) != 0)else .stuck
 | .lst xs=>.ok (!xs.isEmpty)|.tup xs=>.ok (!xs.isEmpty)|_=>.stuck
def tE(e:EF):TF:=fun ρ=>(e ρ).bind fun x=>kn x.d
def tNot(t:TF):TF:=fun ρ=>(t ρ).bind fun b=>.ok (!b)
def tAnd(t u:TF):TF:=fun ρ=>(t ρ).bind fun b=>if b=true then u ρ else .ok false
def tOr(t u:TF):TF:=fun ρ=>(t ρ).bind fun b=>if b=true then .ok true else u ρ
def isB:D->R Bool
 | .bl b=>.ok b
 | _=>.stuck
def K8(e:EF):EF:=fun ρ=>(e ρ).bind fun x=>(isB x.d).bind fun b=>okB (!b)
def wR(a b:EF):EF:=fun ρ=>(a ρ).bind fun x=>(isB x.d).bind fun c=>if c=true then b ρ else okB false
def eOr(a b:EF):EF:=fun ρ=>(a ρ).bind fun x=>(isB x.d).bind fun c=>if c=true then okB true else b ρ
def eIf(t:TF)(a b:EF):EF:=fun ρ=>(t ρ).bind fun c=>if c=true then a ρ else b ρ
def qr:SF:=fun ρ=>.nx ρ
def qf(a b:SF):SF:=fun ρ=>match a ρ with
 | .nx ρ'=>b ρ'
 | o=>o
def sOf{α:Type}(r:R α)(k:α->Out):Out:=match r with
 | .ok a=>k a|.exc _=>.stuck|.stuck=>.stuck
def qi(i:Nat)(e:EF):SF:=fun ρ=>sOf ((e ρ).bind En.nm) fun w=>.nx (ρ.set i (some w))
def qu(e:EF):SF:=fun ρ=>sOf ((e ρ).bind En.nm) .rt
def jM(i:Nat):SF:=fun ρ=>match ρ[i]? with
 | some (some (.fz d))=>.rt (.fz d)
 | some (some (.ow d))=>.rt (.ow d)
 | _=>.stuck
def qkg:SF:=fun _=>.rt (.fz .non)
def sIf(t:TF)(a b:SF):SF:=fun ρ=>sOf (t ρ) fun c=>if c=true then a ρ else b ρ
def Jq:SF:=fun ρ=>.bk ρ
def qkh:SF:=fun ρ=>.ct ρ
def qki(e:EF):SF:=fun ρ=>sOf (e ρ) fun _=>.nx ρ
def zB(i:Nat)(g:D->D->R En)(e:EF):SF:=fun ρ=>match ρ[i]? with
 | some (some (.fz x))=>sOf ((e ρ).bind fun y=>(g x y.d).bind En.nm) fun w=>.nx (ρ.set i (some w))
 | _=>.stuck
def jA(i:Nat)(e:EF):SF:=fun ρ=>match ρ[i]? with
 | some (some (.ow (.lst xs)))=>sOf ((e ρ).bind En.st) fun d=>if xs.length<sz then .nx (ρ.set i (some (.ow (.lst (xs++[d])))))else .stuck
 | _=>.stuck
def frz(i:Nat)(ρ:Rho):Rho:=match ρ[i]? with
 | some (some (.ow d))=>ρ.set i (some (.fz d))
 | _=>ρ
def jN(i:Nat)(s:SF):SF:=fun ρ=>s (frz i ρ)
abbrev GF:=D->Rho->R Rho
def gV(i:Nat):GF:=fun d ρ=>.ok (ρ.set i (some (.fz d)))
def gVs:List Nat->List D->Rho->R Rho
 | [],[],ρ=>.ok ρ
 | i::is,d::ds,ρ=>gVs is ds (ρ.set i (some (.fz d)))
 | _,_,_=>.stuck
def gT(z:List Nat):GF:=fun d ρ=>match d with
 | .tup ds=>gVs z ds ρ
 | _=>.stuck
def qR(g:GF)(b:SF):List D->Rho->Out
 | [],ρ=>.nx ρ
 | x::xs,ρ=>match g x ρ with
  | .ok ρ1=>(match b ρ1 with
   | .nx ρ2=>qR g b xs ρ2
   | .ct ρ2=>qR g b xs ρ2
   | .bk ρ2=>.nx ρ2
   | o=>o)
  | .exc _=>.stuck
  | .stuck=>.stuck
def items:D->R (List D)
 | .lst xs=>.ok xs
 | .tup xs=>.ok xs
 | .dK kvs=>.ok (kvs.map fun p=>match p.1 with|.inl i=>.int i|.inr x=>.str x)
 | _=>.stuck
abbrev IF:=Rho->R (List D)
def xH:D->R (List D)
 | .lst xs=>.ok xs
 | .tup xs=>.ok xs
 | _=>.stuck
def iV(i:Nat):IF:=fun ρ=>match ρ[i]? with
 | some (some (.fz d))=>xH d
 | some (some (.br d))=>xH d
 | _=>.stuck
def iVc(i:Nat):IF:=fun ρ=>match ρ[i]? with
 | some (some (.od _))=>.stuck
 | some (some (.lk _))=>.stuck
 | some (some w)=>xH w.d
 | _=>.stuck
def jo(e:EF):IF:=fun ρ=>(e ρ).bind fun w=>w.st.bind xH
def jO(lo:Int):Nat->List D
 | 0=>[]
 | n+1=>.int lo::jO (lo+1) n
def iR1(a:EF):IF:=fun ρ=>(a ρ).bind fun x=>match x.d with
 | .int j=>if fits b62 j=true then .ok (jO 0 j.toNat)else .stuck
 | _=>.stuck
def jd(it:IF)(g:GF)(b:SF):SF:=fun ρ=>sOf (it ρ) fun xs=>qR g b xs ρ
def vK(t:TF)(b:SF):Nat->Rho->Out
 | 0,_=>.stuck
 | n+1,ρ=>sOf (t ρ) fun c=>if c=true then(match b ρ with
   | .nx ρ2=>vK t b n ρ2
   | .ct ρ2=>vK t b n ρ2
   | .bk ρ2=>.nx ρ2
   | o=>o)else .nx ρ
def uS(n:Nat)(t:TF)(b:SF):SF:=vK t b n
def fin:Out->R En
 | .nx _=>.ok (.fz .non)
 | .rt w=>.ok w
 | .exc x=>.exc x
 | _=>.stuck
def den(n:Nat)(b:SF):Den:=fun as=>fin (b (as.map some++List.replicate (n-as.length) none))
open PySem PySem.Spec PyProof.Rows L2
abbrev St:=L2.St
structure Kx where
 P:Program
 w:World
 K:Frag
abbrev kx(X:Cx):Kx:=⟨X.prog,X.w,X.K⟩
def SqK(κ:Kx)(F:Hp)(a:Addr)(kvs:List (Key×V)):Prop :=
 Rd F a (.dK kvs)∨(a==sysModules)=false/\∃(o:Obj) (es:Array DictEntry) (ep:Nat) (vs:List (Key×Value)),κ.K.lookup a=some o/\o.ExactDict/\o.data=.dict es ep /\
  KeysOf (qW κ.P κ.w) es/\Pairs (qW κ.P κ.w) es.toList vs/\(vs.map (·.1)).Nodup/\KV kvs vs
def FnV(κ:Kx)(v:V)(c:Str)(fs:List (Str×D)):Prop:=match fs with
 | [(_,.non)]=>∀ f:Addr,nsIn κ.K mainGlobals c=some (some (.ref f))->v=.ref f
 | [(_,.int a)]=>v=.ref a.toNat
 | _=>True
mutual
def Rep(κ:Kx)(F:Hp):V->D->Prop
 | v,.non=>v=.non
 | v,.bl b=>v=.bl b
 | v,.int i=>v=.int i
 | v,.str x=>v=.str x
 | v,.tup ds=>∃ a vs,v=.ref a/\SqT κ.K F a vs/\Reps κ F vs ds
 | v,.lst ds=>∃ a vs,v=.ref a/\SqL κ.K F a vs/\Reps κ F vs ds
 | v,.dK kds=>∃ a kvs,v=.ref a/\SqK κ F a kvs/\RepK κ F kvs kds
 | v,.dT kds=>∃ a kvs,v=.ref a/\Rd F a (.dT kvs)/\RepT κ F kvs kds
 | v,.xc c fs=>FnV κ v c fs
def Reps(κ:Kx)(F:Hp):List V->List D->Prop
 | vs,[]=>vs=[]
 | vs,d::ds=>∃ v r,vs=v::r/\Rep κ F v d/\Reps κ F r ds
def RepK(κ:Kx)(F:Hp):List (Key×V)->List (Sum Int Str×D)->Prop
 | kvs,[]=>kvs=[]
 | kvs,(k,d)::r=>∃ v kr,kvs=(k,v)::kr/\Rep κ F v d/\RepK κ F kr r
def RepT(κ:Kx)(F:Hp):List (List Key×V)->List (List (Sum Int Str)×D)->Prop
 | kvs,[]=>kvs=[]
 | kvs,(k,d)::r=>∃ v kr,kvs=(k,v)::kr/\Rep κ F v d/\RepT κ F kr r
end
abbrev Le(F H:Hp):Prop:=∀ a o,F a=some o->H a=some o
theorem Rd.le{F F':Hp}(l:Le F F'){a:Addr}{u:HO}(h:Rd F a u):Rd F' a u:=by
 rcases h with h|⟨o,h⟩
 ·exact .inl (l _ _ h)
 ·exact .inr ⟨o,l _ _ h⟩
theorem SqL.le{K:Frag}{F F':Hp}(l:Le F F'){a:Addr}{vs:List V}(h:SqL K F a vs):SqL K F' a vs:=by
 rcases h with h|h
 ·exact .inl (Rd.le l h)
 ·exact .inr h
theorem SqT.le{K:Frag}{F F':Hp}(l:Le F F'){a:Addr}{vs:List V}(h:SqT K F a vs):SqT K F' a vs:=by
 rcases h with h|h
 ·exact .inl (Rd.le l h)
 ·exact .inr h
theorem SqK.le{κ:Kx}{F F':Hp}(l:Le F F'){a:Addr}{vs:List (Key×V)}(h:SqK κ F a vs):SqK κ F' a vs:=by
 rcases h with h|h
 ·exact .inl (Rd.le l h)
 ·exact .inr h
mutual
theorem Rep.le{κ:Kx}{F F':Hp}(l:Le F F'):∀(d:D) {v:V},Rep κ F v d->Rep κ F' v d
 | .non,_,h=>h
 | .bl _,_,h=>h
 | .int _,_,h=>h
 | .str _,_,h=>h
 | .tup ds,_,h=>by
  obtain⟨a,vs,e,q,r⟩:=h;exact⟨a,vs,e,SqT.le l q,Reps.le l ds r⟩
 | .lst ds,_,h=>by
  obtain⟨a,vs,e,q,r⟩:=h;exact⟨a,vs,e,SqL.le l q,Reps.le l ds r⟩
 | .dK ds,_,h=>by
  obtain⟨a,vs,e,q,r⟩:=h;exact⟨a,vs,e,SqK.le l q,RepK.le l ds r⟩
 | .dT ds,_,h=>by
  obtain⟨a,vs,e,q,r⟩:=h;exact⟨a,vs,e,Rd.le l q,RepT.le l ds r⟩
 | .xc _ _,_,h=>h
theorem Reps.le{κ:Kx}{F F':Hp}(l:Le F F'):∀(ds:List D) {vs:List V},Reps κ F vs ds->Reps κ F' vs ds
 | [],_,h=>h
 | d::ds,_,h=>by
  obtain⟨v,r,e,h1,h2⟩:=h;exact⟨v,r,e,Rep.le l d h1,Reps.le l ds h2⟩
theorem RepK.le{κ:Kx}{F F':Hp}(l:Le F F'):∀(ds:List (Sum Int Str×D)) {vs:List (Key×V)},RepK κ F vs ds->RepK κ F' vs ds
 | [],_,h=>h
 | (k,d)::ds,_,h=>by
  obtain⟨v,r,e,h1,h2⟩:=h;exact⟨v,r,e,Rep.le l d h1,RepK.le l ds h2⟩
theorem RepT.le{κ:Kx}{F F':Hp}(l:Le F F'):∀(ds:List (List (Sum Int Str)×D)) {vs:List (List Key×V)},RepT κ F vs ds->RepT κ F' vs ds
 | [],_,h=>h
 | (k,d)::ds,_,h=>by
  obtain⟨v,r,e,h1,h2⟩:=h;exact⟨v,r,e,Rep.le l d h1,RepT.le l ds h2⟩
end
section
variable{κ:Kx}{F:Hp}
theorem Reps.length:∀{ds:List D} {vs:List V},Reps κ F vs ds->vs.length=ds.length
 | [],_,h=>by cases (show _=_ from h);rfl
 | d::ds,_,h=>by
  obtain⟨v,r,rfl,h1,h2⟩:=h;simp [Reps.length h2]
theorem Reps.get:∀{ds:List D} {vs:List V} {i:Nat} {d:D},Reps κ F vs ds->ds[i]?=some d->∃ v,vs[i]?=some v/\Rep κ F v d
 | [],_,_,_,_,e=>by simp at e
 | d::ds,_,0,_,h,e=>by
  obtain⟨v,r,rfl,h1,h2⟩:=h;simp at e;subst e;exact⟨v,rfl,h1⟩
 | d::ds,_,i+1,d',h,e=>by
  obtain⟨v,r,rfl,h1,h2⟩:=h;obtain⟨u,e1,e2⟩:=Reps.get (i:=i) (d:=d') h2 (by simpa using e)
  exact⟨u,by simpa using e1,e2⟩
theorem Reps.append:∀{ds es:List D} {vs us:List V},Reps κ F vs ds->Reps κ F us es->Reps κ F (vs++us) (ds++es)
 | [],_,_,_,h,k=>by cases (show _=_ from h);exact k
 | d::ds,_,_,_,h,k=>by
  obtain⟨v,r,rfl,h1,h2⟩:=h;exact⟨v,r++_,rfl,h1,Reps.append h2 k⟩
theorem Reps.one{v:V}{d:D}(h:Rep κ F v d):Reps κ F [v] [d]:=⟨v,[],rfl,h,rfl⟩
end
structure Gr(F H F' H':Hp):Prop where
 f:Le F F'
 h:Le H H'
 s:Le F' H'
 n:∀ a,F' a≠none->F a≠none∨H a=none∨∃ xs,H a=some (.tup xs)
theorem Le.refl{F:Hp}:Le F F:=fun _ _ h=>h
theorem Le.trans{F G H:Hp}(a:Le F G)(b:Le G H):Le F H:=fun x o h=>b x o (a x o h)
theorem Gr.refl{F H:Hp}(s:Le F H):Gr F H F H:=⟨Le.refl,Le.refl,s,fun _ h=>.inl h⟩
theorem Le.none{F H:Hp}(l:Le F H){a:Addr}(h:H a=none):F a=none:=by
 cases e:F a with
 | none=>rfl
 | some o=>rw [l a o e]at h;cases h
theorem Gr.trans{F H F1 H1 F2 H2:Hp}(a:Gr F H F1 H1)(b:Gr F1 H1 F2 H2):Gr F H F2 H2 :=
 ⟨Le.trans a.f b.f,Le.trans a.h b.h,b.s,fun x h=>by
  rcases b.n x h with q|q|⟨xs,q⟩
  ·exact a.n x q
  ·exact .inr (.inl (Le.none a.h q))
  ·cases e:H x with
   | none=>exact .inr (.inl rfl)
   | some o =>
    have:=a.h x o e;rw [q]at this;cases this;exact .inr (.inr ⟨xs,rfl⟩)⟩
theorem Gr.new{F H:Hp}(s:Le F H){p:Addr}{o:HO}(hp:H p=none):Gr F H F (upd H p o) :=
 ⟨Le.refl,fun a u h=>by rw [qt (jy h hp)];exact h,fun a u h=>by rw [qt (jy (s a u h) hp)];exact s a u h,fun _ h=>.inl h⟩
theorem Gr.newF{F H:Hp}(s:Le F H){p:Addr}{o:HO}(hp:H p=none):Gr F H (upd F p o) (upd H p o):=by
 have hf:F p=none:=Le.none s hp;refine⟨fun a u h=>by rw [qt (jy h hf)];exact h,fun a u h=>by rw [qt (jy h hp)];exact h,fun a u h=>?_,fun a h=>?_⟩
 ·by_cases e:a=p
  ·subst e;rw [qN]at h ⊢;exact h
  ·rw [qt e]at h ⊢;exact s a u h
 ·by_cases e:a=p
  ·subst e;exact .inr (.inl hp)
  ·rw [qt e]at h;exact .inl h
def qL(H F' H':Hp):Hp:=fun b=>match H b with
 | none=>H' b
 | some _=>F' b
theorem zC{F H F' H':Hp}(s:Le F H)(g:Gr F H F' H'):Gr F H (qL H F' H') H'/\Le F' (qL H F' H'):=by
 refine⟨⟨fun a u h=>?_,g.h,fun a u h=>?_,fun a h=>?_⟩,fun a u h=>?_⟩
 ·unfold qL;rw [s a u h];exact g.f a u h
 ·unfold qL at h;cases e:H a with
  | none=>rw [e]at h;exact h
  | some o=>rw [e]at h;exact g.s a u h
 ·cases e:H a with
  | none=>exact .inr (.inl rfl)
  | some o =>
   unfold qL at h;rw [e]at h;rcases g.n a h with q|q|q
   ·exact .inl q
   ·rw [e]at q;cases q
   ·rw [e]at q;exact .inr (.inr q)
 ·unfold qL;cases e:H a with
  | none=>exact g.s a u h
  | some o=>exact h
def OwnO(κ:Kx)(F:Hp):HO->D->Prop
 | .lst vs,.lst ds=>Reps κ F vs ds
 | .dK kvs,.dK kds=>RepK κ F kvs kds
 | .dT kvs,.dT kds=>RepT κ F kvs kds
 | _,_=>False
theorem OwnO.le{κ:Kx}{F F':Hp}(l:Le F F'){o:HO}{d:D}(h:OwnO κ F o d):OwnO κ F' o d:=by
 cases o<;>cases d<;>first
  | exact h
  | exact Reps.le l _ h
  | exact RepK.le l _ h
  | exact RepT.le l _ h
def RdV(κ:Kx)(F H:Hp)(v:V)(d:D):Prop:=Rep κ F v d∨∃ a o,v=.ref a/\H a=some o/\OwnO κ F o d
def Inn(κ:Kx)(H0 F H:Hp):List Addr->List D->Prop
 | [],[]=>True
 | b::bs,e::es=>(∃ us xs,e=.lst xs/\H0 b=none/\F b=none/\H b=some (.lst us)/\Reps κ F us xs)/\Inn κ H0 F H bs es
 | _,_=>False
def In2(κ:Kx)(H0 F H:Hp):List Addr->List (List Addr)->List D->Prop
 | [],[],[]=>True
 | b::bs,cs::css,e::es=>(∃ xs,e=.lst xs/\H0 b=none/\F b=none/\H b=some (.lst (cs.map V.ref))/\Inn κ H0 F H cs xs)/\In2 κ H0 F H bs css es
 | _,_,_=>False
def DV2(κ:Kx)(H F H':Hp)(v:V)(ds:List D):Prop:=∃ a bs,v=.ref a/\H a=none/\F a=none/\(a::bs).Nodup/\H' a=some (.lst (bs.map V.ref))/\Inn κ H F H' bs ds
def DV3(κ:Kx)(H F H':Hp)(v:V)(ds:List D):Prop:=∃ a bs z,v=.ref a/\H a=none/\F a=none/\(a::(bs++z.flatten)).Nodup/\H' a=some (.lst (bs.map V.ref))/\In2 κ H F H' bs z ds
def DVp(κ:Kx)(H F H':Hp)(v:V)(ds:List D)(g:D):Prop:=∃ t b us vg,v=.ref t/\H t=none/\H' t=some (.tup [.ref b,vg])/\H b=none/\F b=none/\H' b=some (.lst us)/\Reps κ F us ds/\Rep κ F vg g
def DVi(κ:Kx)(H F H':Hp)(v:V)(a:Addr)(dd g:D):Prop:=∃ o,H a=none/\F a=none/\H' a=some o/\OwnO κ F o dd/\Rep κ F v g
def DV(κ:Kx)(H F H':Hp)(v:V)(d:D):Prop :=
 (∃ ds,d=.lst ds/\DV2 κ H F H' v ds)∨(∃ z:List (Sum Int Str×D),d=.dK z/\DV3 κ H F H' v (z.map Prod.snd))∨(∃ ds g,d=.tup [.lst ds,g]/\DVp κ H F H' v ds g)∨∃(a:Addr) (dd g:D),d=.tup [.int (a:Int),dd,g]/\DVi κ H F H' v a dd g
def Vok(κ:Kx)(H F' H':Hp)(v:V):En->Prop
 | .fz d=>Rep κ F' v d
 | .ow d=>∃ a o,v=.ref a/\H a=none/\F' a=none/\H' a=some o/\OwnO κ F' o d
 | .br d=>∃ a o,v=.ref a/\H' a=some o/\OwnO κ F' o d
 | .lk _=>False
 | .od d=>DV κ H F' H' v d
section
variable{κ:Kx}{H F F' H' F1 H1 F2 H2:Hp}{v:V}{w:En}{d:D}
theorem Vok.rd(h:Vok κ H F' H' v w):RdV κ F' H' v w.d:=by
 cases w with
 | fz d=>exact .inl h
 | ow d=>obtain⟨a,o,e,_,_,e2,r⟩:=h;exact .inr ⟨a,o,e,e2,r⟩
 | br d=>obtain⟨a,o,e,e2,r⟩:=h;exact .inr ⟨a,o,e,e2,r⟩
 | lk d=>exact h.elim
 | od d=>exact .inl trivial
theorem OwnO.noTup{o:HO}(h:OwnO κ F o d):∀ xs,o≠.tup xs:=fun xs z=>by
 subst z;cases d<;>exact h.elim
theorem Gr.no(g:Gr F H F' H'){a:Addr}{o:HO}(O:F a=none)(B:H a=some o)(U:∀ xs,o≠.tup xs:=by intro _ z;cases z):F' a=none:=by
 cases q:F' a with
 | none=>rfl
 | some u =>
  rcases g.n a (by rw [q];exact dA _)with z|z|⟨xs,z⟩
  ·exact absurd O z
  ·rw [B]at z;cases z
  ·rw [B]at z;cases z;exact absurd rfl (U xs)
theorem Inn.gr{H0:Hp}(g:Gr F H F' H'):∀{bs:List Addr} {ds:List D},Inn κ H0 F H bs ds->Inn κ H0 F' H' bs ds
 | [],[],h=>h
 | [],_::_,h=>h
 | _::_,[],h=>h
 | b::bs,e::es,⟨⟨us,xs,e1,h0,hf,hh,r⟩,h⟩=>⟨⟨us,xs,e1,h0,g.no hf hh,g.h _ _ hh,Reps.le g.f _ r⟩,Inn.gr g h⟩
theorem In2.gr{H0:Hp}(g:Gr F H F' H'):∀{bs:List Addr} {css:List (List Addr)} {ds:List D},In2 κ H0 F H bs css ds->In2 κ H0 F' H' bs css ds
 | [],[],[],h=>h
 | [],_::_,_,h=>by cases h
 | [],[],_::_,h=>by cases h
 | _::_,[],_,h=>by cases h
 | _::_,_::_,[],h=>by cases h
 | b::bs,cs::css,e::es,⟨⟨xs,e1,h0,hf,hh,r⟩,h⟩=>⟨⟨xs,e1,h0,g.no hf hh,g.h _ _ hh,Inn.gr g r⟩,In2.gr g h⟩
theorem Inn.older{G:Hp}(l:∀ a,H a=none->G a=none):∀{bs:List Addr} {ds:List D},Inn κ H F' H' bs ds->Inn κ G F' H' bs ds
 | [],[],h=>h
 | [],_::_,h=>h
 | _::_,[],h=>h
 | b::bs,e::es,⟨⟨us,xs,e1,h0,r⟩,h⟩=>⟨⟨us,xs,e1,l _ h0,r⟩,Inn.older l h⟩
theorem In2.older{G:Hp}(l:∀ a,H a=none->G a=none):∀{bs:List Addr} {css:List (List Addr)} {ds:List D},In2 κ H F' H' bs css ds->In2 κ G F' H' bs css ds
 | [],[],[],h=>h
 | [],_::_,_,h=>by cases h
 | [],[],_::_,h=>by cases h
 | _::_,[],_,h=>by cases h
 | _::_,_::_,[],h=>by cases h
 | b::bs,cs::css,e::es,⟨⟨xs,e1,h0,hf,hh,r⟩,h⟩=>⟨⟨xs,e1,l _ h0,hf,hh,Inn.older l r⟩,In2.older l h⟩
theorem Inn.reps{H0 G:Hp}:∀{bs:List Addr} {ds:List D},Inn κ H0 F H bs ds->(∀ b∈bs,G b=H b)->Le F G->Reps κ G (bs.map V.ref) ds
 | [],[],_,_,_=>rfl
 | [],_::_,h,_,_=>h.elim
 | _::_,[],h,_,_=>h.elim
 | b::bs,e::es,⟨⟨us,xs,e1,_,_,hh,r⟩,h⟩,k,l=>by
  subst e1;exact⟨.ref b,bs.map V.ref,rfl,⟨b,us,rfl,SqL.of ((k b (by simp)).trans hh),Reps.le l _ r⟩,Inn.reps h (fun c m=>k c (gp _ m)) l⟩
theorem In2.reps{H0 G:Hp}:∀{bs:List Addr} {css:List (List Addr)} {ds:List D},In2 κ H0 F H bs css ds->(∀ b∈bs++css.flatten,G b=H b)->Le F G->Reps κ G (bs.map V.ref) ds
 | [],[],[],_,_,_=>rfl
 | [],_::_,_,h,_,_=>by cases h
 | [],[],_::_,h,_,_=>by cases h
 | _::_,[],_,h,_,_=>by cases h
 | _::_,_::_,[],h,_,_=>by cases h
 | b::bs,cs::css,e::es,⟨⟨xs,e1,_,_,hh,r⟩,h⟩,k,l=>by
  subst e1;have B:∀ c∈bs++css.flatten,c∈(b::bs)++(cs::css).flatten:=fun c m=>by
   rw [c9];rcases tm.mp m with m|m
   ·exact h9 _ (gp _ m)
   ·exact gF _ (gF _ m)
  have z:∀ c∈cs,c∈(b::bs)++(cs::css).flatten:=fun c m=>by
   rw [c9];exact gF _ (h9 _ m)
  exact⟨.ref b,bs.map V.ref,rfl,⟨b,cs.map V.ref,rfl,SqL.of ((k b (by simp)).trans hh),Inn.reps r (fun c m=>k c (z c m)) l⟩,In2.reps h (fun c m=>k c (B c m)) l⟩
theorem DV.gr(g:Gr F1 H1 F2 H2)(h:DV κ H F1 H1 v d):DV κ H F2 H2 v d:=by
 rcases h with⟨ds,e,a,bs,e1,h0,hf,nd,hh,i⟩|⟨ds,e,a,bs,z,e1,h0,hf,nd,hh,i⟩|⟨ds,y,e,t,b,us,vg,e1,t0,th,b0,bf,bh,rs,r⟩|⟨a,dd,y,e,o,h0,hf,hh,ro,r⟩
 ·exact .inl ⟨ds,e,a,bs,e1,h0,g.no hf hh,nd,g.h _ _ hh,Inn.gr g i⟩
 ·exact .inr (.inl ⟨ds,e,a,bs,z,e1,h0,g.no hf hh,nd,g.h _ _ hh,In2.gr g i⟩)
 ·exact .inr (.inr (.inl ⟨ds,y,e,t,b,us,vg,e1,t0,g.h _ _ th,b0,g.no bf bh,g.h _ _ bh,Reps.le g.f _ rs,Rep.le g.f _ r⟩))
 ·exact .inr (.inr (.inr ⟨a,dd,y,e,o,h0,g.no hf hh (OwnO.noTup ro),g.h _ _ hh,OwnO.le g.f ro,Rep.le g.f _ r⟩))
theorem DV.older{G:Hp}(l:∀ a,H a=none->G a=none)(h:DV κ H F' H' v d):DV κ G F' H' v d:=by
 rcases h with⟨ds,e,a,bs,e1,h0,hf,nd,hh,i⟩|⟨ds,e,a,bs,z,e1,h0,hf,nd,hh,i⟩|⟨ds,y,e,t,b,us,vg,e1,t0,th,b0,bf,bh,rs,r⟩|⟨a,dd,y,e,o,h0,hf,hh,ro,r⟩
 ·exact .inl ⟨ds,e,a,bs,e1,l _ h0,hf,nd,hh,Inn.older l i⟩
 ·exact .inr (.inl ⟨ds,e,a,bs,z,e1,l _ h0,hf,nd,hh,In2.older l i⟩)
 ·exact .inr (.inr (.inl ⟨ds,y,e,t,b,us,vg,e1,l _ t0,th,l _ b0,bf,bh,rs,r⟩))
 ·exact .inr (.inr (.inr ⟨a,dd,y,e,o,l _ h0,hf,hh,ro,r⟩))
theorem Vok.gr(g:Gr F1 H1 F2 H2)(h:Vok κ H F1 H1 v w):Vok κ H F2 H2 v w:=by
 cases w with
 | fz d=>exact Rep.le g.f d h
 | ow d =>
  obtain⟨a,o,e,e1,e3,e2,r⟩:=h;exact⟨a,o,e,e1,g.no e3 e2 (OwnO.noTup r),g.h _ _ e2,OwnO.le g.f r⟩
 | br d=>obtain⟨a,o,e,e2,r⟩:=h;exact⟨a,o,e,g.h _ _ e2,OwnO.le g.f r⟩
 | lk d=>exact h
 | od d=>exact DV.gr g h
theorem RdV.gr(g:Gr F1 H1 F2 H2)(h:RdV κ F1 H1 v d):RdV κ F2 H2 v d:=by
 rcases h with h|⟨a,o,e,e2,r⟩
 ·exact .inl (Rep.le g.f d h)
 ·exact .inr ⟨a,o,e,g.h _ _ e2,OwnO.le g.f r⟩
theorem qa7{o:HO}(h:OwnO κ F o d):(∃ ds,d=.lst ds)∨(∃ ds,d=.dK ds)∨∃ ds,d=.dT ds:=by
 cases o<;>cases d<;>first
  | exact h.elim
  | exact .inl ⟨_,rfl⟩
  | exact .inr (.inl ⟨_,rfl⟩)
  | exact .inr (.inr ⟨_,rfl⟩)
theorem RdV.flat(h:RdV κ F H v d)(B:∀ ds,d≠.lst ds)(O:∀ ds,d≠.dK ds)(U:∀ ds,d≠.dT ds):Rep κ F v d:=by
 rcases h with h|⟨a,o,e,e2,r⟩
 ·exact h
 ·rcases qa7 r with⟨ds,z⟩|⟨ds,z⟩|⟨ds,z⟩
  ·exact absurd z (B ds)
  ·exact absurd z (O ds)
  ·exact absurd z (U ds)
theorem RdV.int{i:Int}(h:RdV κ F H v (.int i)):v=.int i:=RdV.flat h (fun _ e=>nomatch e) (fun _ e=>nomatch e) fun _ e=>nomatch e
theorem RdV.bl{b:Bool}(h:RdV κ F H v (.bl b)):v=.bl b:=RdV.flat h (fun _ e=>nomatch e) (fun _ e=>nomatch e) fun _ e=>nomatch e
theorem RdV.str{x:Str}(h:RdV κ F H v (.str x)):v=.str x:=RdV.flat h (fun _ e=>nomatch e) (fun _ e=>nomatch e) fun _ e=>nomatch e
theorem RdV.non(h:RdV κ F H v .non):v=.non:=RdV.flat h (fun _ e=>nomatch e) (fun _ e=>nomatch e) fun _ e=>nomatch e
theorem RdV.tup{ds:List D}(s:Le F H)(h:RdV κ F H v (.tup ds)):∃ a vs,v=.ref a/\SqT κ.K H a vs/\SqT κ.K F a vs/\Reps κ F vs ds:=by
 obtain⟨a,vs,e,q,r⟩:=RdV.flat h (fun _ e=>nomatch e) (fun _ e=>nomatch e) fun _ e=>nomatch e
 exact⟨a,vs,e,SqT.le s q,q,r⟩
theorem RdV.lst{ds:List D}(s:Le F H)(h:RdV κ F H v (.lst ds)):∃ a vs,v=.ref a/\SqL κ.K H a vs/\Reps κ F vs ds:=by
 rcases h with⟨a,vs,e,q,r⟩|⟨a,o,e,e2,r⟩
 ·exact⟨a,vs,e,SqL.le s q,r⟩
 ·cases o with
  | lst vs=>exact⟨a,vs,e,SqL.of e2,r⟩
  | _=>exact r.elim
theorem RdV.dK{ds:List (Sum Int Str×D)}(s:Le F H)(h:RdV κ F H v (.dK ds)):∃ a kvs,v=.ref a/\SqK κ H a kvs/\RepK κ F kvs ds:=by
 rcases h with⟨a,vs,e,q,r⟩|⟨a,o,e,e2,r⟩
 ·exact⟨a,vs,e,SqK.le s q,r⟩
 ·cases o with
  | dK vs=>exact⟨a,vs,e,.inl (.inl e2),r⟩
  | _=>exact r.elim
theorem Vok.st(s:Le F H)(g:Gr F H F' H')(h:Vok κ H F' H' v w)(e:w.st=.ok d):Rep κ (qL H F' H') v d:=by
 obtain⟨_,l⟩:=zC s g;cases w with
 | fz d'=>cases e;exact Rep.le l d h
 | ow d' =>
  cases e;obtain⟨a,o,ea,e1,e3,e2,r⟩:=h;have q:qL H F' H' a=some o:=by unfold qL;rw [e1];exact e2
  have r:=OwnO.le l r;cases o<;>cases d<;>first
   | exact r.elim
   | exact⟨a,_,ea,.inl (.inl q),r⟩
   | exact⟨a,_,ea,.inl q,r⟩
 | br d'=>cases e
 | lk d'=>cases e
 | od d'=>cases e
end
def Voks(κ:Kx)(H F' H':Hp):List V->List En->Prop
 | vs,[]=>vs=[]
 | vs,w::ws=>∃ v r,vs=v::r/\Vok κ H F' H' v w/\Voks κ H F' H' r ws
section
variable{κ:Kx}{H F F' H' F1 H1 F2 H2:Hp}
theorem Vok.older{G:Hp}(l:∀ a,H a=none->G a=none){v:V}{w:En}(h:Vok κ H F' H' v w):Vok κ G F' H' v w:=by
 cases w with
 | fz d=>exact h
 | ow d=>obtain⟨a,o,e,e1,r⟩:=h;exact⟨a,o,e,l a e1,r⟩
 | br d=>exact h
 | lk d=>exact h
 | od d=>exact DV.older l h
theorem Voks.older{G:Hp}(l:∀ a,H a=none->G a=none):∀{ws:List En} {vs:List V},Voks κ H F' H' vs ws->Voks κ G F' H' vs ws
 | [],_,h=>h
 | w::ws,_,h=>by
  obtain⟨v,r,e,h1,h2⟩:=h;exact⟨v,r,e,Vok.older l h1,Voks.older l h2⟩
theorem Voks.stAll(s:Le F H)(g:Gr F H F' H'):∀{ws:List En} {vs:List V} {ds:List D},Voks κ H F' H' vs ws->stAll ws=.ok ds->Reps κ (qL H F' H') vs ds
 | [],_,_,h,e=>by cases e;exact h
 | w::ws,_,ds,h,e=>by
  obtain⟨v,r,rfl,h1,h2⟩:=h;unfold L3.stAll at e;cases e1:w.st with
  | ok d =>
   cases e2:L3.stAll ws with
   | ok ds' =>
    rw [e1,e2]at e;cases e;exact⟨v,r,rfl,Vok.st s g h1 e1,Voks.stAll s g h2 e2⟩
   | exc x=>rw [e1,e2]at e;cases e
   | stuck=>rw [e1,e2]at e;cases e
  | exc x=>rw [e1]at e;cases e
  | stuck=>rw [e1]at e;cases e
theorem Voks.rd:∀{ws:List En} {vs:List V},Voks κ H F' H' vs ws->Paired (RdV κ F' H') vs (ws.map En.d)
 | [],_,h=>by cases (show _=_ from h);exact .nil
 | w::ws,_,h=>by
  obtain⟨v,r,rfl,h1,h2⟩:=h;exact .cons (Vok.rd h1) (Voks.rd h2)
end
def qa8(κ:Kx)(F H:Hp)(a:Addr)(bs:List Addr)(xs:List D):Prop:=bs=[]/\∃ o d,xs=[.int (a:Int),d]/\H a=some o/\OwnO κ F o d
def Deep(κ:Kx)(H0 F H:Hp)(a:Addr)(bs:List Addr):D->Prop
 | .lst ds=>H a=some (.lst (bs.map V.ref))/\Inn κ H0 F H bs ds
 | .dT kds=>H a=some (.dT ((kds.map Prod.fst).zip (bs.map V.ref)))/\Inn κ H0 F H bs (kds.map Prod.snd)
 | .dK kds=>∃ b1 z,bs=b1++List.flatten z/\H a=some (.lst (b1.map V.ref))/\In2 κ H0 F H b1 z (kds.map Prod.snd)
 | .tup xs=>qa8 κ F H a bs xs
 | _=>False
def RawT(F:Hp)(v:V):Prop:=∃ a ob kvs,v=.ref a/\F a=some (.frz ob (.dT kvs))
theorem RawT.le{F F':Hp}(l:Le F F'){v:V}(h:RawT F v):RawT F' v:=let ⟨a,ob,kvs,e,q⟩:=h;⟨a,ob,kvs,e,l _ _ q⟩
def Eok(κ:Kx)(H0 F H:Hp)(v:V):En->Prop
 | .fz d=>Rep κ F v d
 | .ow d=>∃ a o,v=.ref a/\H0 a=none/\F a=none/\H a=some o/\OwnO κ F o d
 | .lk d=>Rep κ F v d/\RawT F v
 | .br d=>∃ a o,v=.ref a/\H0 a=some o/\OwnO κ F o d
 | .od _=>∃ a o,v=.ref a/\H0 a=none/\F a=none/\H a=some o/\∀ xs,o≠.tup xs
def En.own:En->Bool
 | .ow _=>true|.od _=>true|_=>false
def shal(i:Nat)(ρ:Rho):Prop:=∀(j:Nat) (d:D),j≠i->ρ[j]?≠some (some (.od d))
structure StOk(κ:Kx)(F0 H0 F H:Hp)(ρ:Rho)(σ:St):Prop where
 gr:Gr F0 H0 F H
 len:ρ.length=σ.length
 val:∀(i:Nat) (w:En),ρ[i]?=some (some w)->∃ v,σ[i]?=some (some v)/\Eok κ H0 F H v w
 sep:∀(i j:Nat) (w w':En) (a:Addr),i≠j->ρ[i]?=some (some w)->ρ[j]?=some (some w')->w.own=true->w'.own=true->σ[i]?=some (some (.ref a))->σ[j]?=some (some (.ref a))->False
 dp:∀(i:Nat) (d:D),ρ[i]?=some (some (.od d))->shal i ρ/\∃ a bs,σ[i]?=some (some (.ref a))/\H0 a=none/\F a=none/\(a::bs).Nodup/\Deep κ H0 F H a bs d /\
  ∀(j:Nat) (w:En) (b:Addr),j≠i->ρ[j]?=some (some w)->w.own=true->b∈a::bs->σ[j]?≠some (some (.ref b))
section
variable{κ:Kx}{F0 H0 F H F' H':Hp}{ρ:Rho}{σ:St}
theorem Deep.gr(g:Gr F H F' H'){a:Addr}{bs:List Addr}{d:D}(h:Deep κ H0 F H a bs d):Deep κ H0 F' H' a bs d:=by
 cases d<;>first|exact(False.elim h)|exact⟨g.h _ _ h.1,Inn.gr g h.2⟩|skip
 ·obtain⟨e,o,d,ex,h1,h2⟩:=h;exact⟨e,o,d,ex,g.h _ _ h1,OwnO.le g.f h2⟩
 obtain⟨b1,z,e,h1,h2⟩:=h;exact⟨b1,z,e,g.h _ _ h1,In2.gr g h2⟩
theorem Inn.at:∀{bs:List Addr} {ds:List D} {b:Addr},Inn κ H0 F H bs ds->b∈bs->∃ us,H0 b=none/\F b=none/\H b=some (.lst us)
 | [],_,_,_,m=>by cases m
 | _::_,[],_,h,_=>h.elim
 | c::bs,e::es,b,⟨⟨us,xs,e1,h0,hf,hh,r⟩,h⟩,m=>by
  rcases gl.mp m with rfl|m
  ·exact⟨us,h0,hf,hh⟩
  ·exact Inn.at h m
theorem In2.at:∀{bs:List Addr} {css:List (List Addr)} {ds:List D} {b:Addr},In2 κ H0 F H bs css ds->b∈bs++css.flatten->∃ us,H0 b=none/\F b=none/\H b=some (.lst us)
 | [],[],[],_,_,m=>by simp at m
 | [],_::_,_,_,h,_=>by cases h
 | [],[],_::_,_,h,_=>by cases h
 | _::_,[],_,_,h,_=>by cases h
 | _::_,_::_,[],_,h,_=>by cases h
 | c::bs,cs::css,e::es,b,⟨⟨xs,e1,h0,hf,hh,r⟩,h⟩,m=>by
  rw [c9,tW]at m;rcases gl.mp m with rfl|m
  ·exact⟨_,h0,hf,hh⟩
  ·rcases tm.mp m with m|m
   ·exact In2.at h (h9 _ m)
   ·rcases tm.mp m with m|m
    ·exact Inn.at r m
    ·exact In2.at h (gF _ m)
theorem Deep.top{a:Addr}{bs:List Addr}{d:D}(h:Deep κ H0 F H a bs d):∃ o,H a=some o/\∀ xs,o≠.tup xs:=by
 cases d<;>first|exact(False.elim h)|exact⟨_,h.1,fun _ z=>nomatch z⟩|skip
 ·obtain⟨e,o,d,ex,h1,h2⟩:=h;exact⟨o,h1,OwnO.noTup h2⟩
 obtain⟨b1,B,e,h1,h2⟩:=h;exact⟨_,h1,fun _ z=>nomatch z⟩
theorem Deep.inn{a b:Addr}{bs:List Addr}{d:D}(h:Deep κ H0 F H a bs d)(m:b∈bs):∃ us,H0 b=none/\F b=none/\H b=some (.lst us):=by
 cases d<;>first|exact(False.elim h)|exact Inn.at h.2 m|skip
 ·obtain⟨e,_⟩:=h;subst e;cases m
 obtain⟨b1,z,e,h1,h2⟩:=h;subst e;exact In2.at h2 m
theorem Inn.same{G G':Hp}:∀{bs:List Addr} {ds:List D},(∀ b∈bs,H b=H' b)->(∀ b∈bs,F b=none->F' b=none)->Le F F'->Inn κ H0 F H bs ds->Inn κ H0 F' H' bs ds
 | [],[],_,_,_,h=>h
 | [],_::_,_,_,_,h=>h
 | _::_,[],_,_,_,h=>h
 | b::bs,e::es,k,n,l,⟨⟨us,xs,e1,h0,hf,hh,r⟩,h⟩ =>
  ⟨⟨us,xs,e1,h0,n b (by simp) hf,(k b (by simp)).symm.trans hh,Reps.le l _ r⟩,Inn.same (G:=G) (G':=G') (fun c m=>k c (gp _ m)) (fun c m=>n c (gp _ m)) l h⟩
theorem In2.same:∀{bs:List Addr} {css:List (List Addr)} {ds:List D},(∀ b∈bs++css.flatten,H b=H' b)->(∀ b∈bs++css.flatten,F b=none->F' b=none)->Le F F'->In2 κ H0 F H bs css ds->In2 κ H0 F' H' bs css ds
 | [],[],[],_,_,_,h=>h
 | [],_::_,_,_,_,_,h=>by cases h
 | [],[],_::_,_,_,_,h=>by cases h
 | _::_,[],_,_,_,_,h=>by cases h
 | _::_,_::_,[],_,_,_,h=>by cases h
 | b::bs,cs::css,e::es,k,n,l,⟨⟨xs,e1,h0,hf,hh,r⟩,h⟩=>by
  have B:∀ c∈bs++css.flatten,c∈(b::bs)++(cs::css).flatten:=fun c m=>by
   rw [c9];rcases tm.mp m with m|m
   ·exact h9 _ (gp _ m)
   ·exact gF _ (gF _ m)
  have z:∀ c∈cs,c∈(b::bs)++(cs::css).flatten:=fun c m=>by
   rw [c9];exact gF _ (h9 _ m)
  exact⟨⟨xs,e1,h0,n b (by simp) hf,(k b (by simp)).symm.trans hh,Inn.same (G:=H) (G':=H) (fun c m=>k c (z c m)) (fun c m=>n c (z c m)) l r⟩,In2.same (fun c m=>k c (B c m)) (fun c m=>n c (B c m)) l h⟩
theorem Deep.same{a:Addr}{bs:List Addr}{d:D}(k:∀ b∈a::bs,H b=H' b)(n:∀ b∈bs,F b=none->F' b=none)(l:Le F F')(h:Deep κ H0 F H a bs d):Deep κ H0 F' H' a bs d:=by
 cases d<;>first|exact(False.elim h)|exact⟨(k a (by simp)).symm.trans h.1,Inn.same (G:=H) (G':=H) (fun c m=>k c (gp _ m)) n l h.2⟩|skip
 ·obtain⟨e,o,d,ex,h1,h2⟩:=h;exact⟨e,o,d,ex,(k a (by simp)).symm.trans h1,OwnO.le l h2⟩
 obtain⟨b1,z,e,h1,h2⟩:=h;subst e;exact⟨b1,z,rfl,(k a (by simp)).symm.trans h1,In2.same (fun c m=>k c (gp _ m)) n l h2⟩
theorem Eok.gr(g:Gr F H F' H'){v:V}{w:En}(h:Eok κ H0 F H v w):Eok κ H0 F' H' v w:=by
 cases w with
 | fz d=>exact Rep.le g.f d h
 | ow d=>obtain⟨a,o,e,e1,e3,e2,r⟩:=h;exact⟨a,o,e,e1,g.no e3 e2 (OwnO.noTup r),g.h _ _ e2,OwnO.le g.f r⟩
 | lk d=>exact⟨Rep.le g.f d h.1,RawT.le g.f h.2⟩
 | br d=>obtain⟨a,o,e,e2,r⟩:=h;exact⟨a,o,e,e2,OwnO.le g.f r⟩
 | od d=>obtain⟨a,o,e,e1,e3,e2,nt⟩:=h;exact⟨a,o,e,e1,g.no e3 e2 nt,g.h _ _ e2,nt⟩
theorem StOk.grow(S:StOk κ F0 H0 F H ρ σ)(g:Gr F H F' H'):StOk κ F0 H0 F' H' ρ σ :=
 ⟨S.gr.trans g,S.len,fun i w e=>let ⟨v,e1,q⟩:=S.val i w e;⟨v,e1,Eok.gr g q⟩,S.sep,fun i d e=>by
  obtain⟨s1,a,bs,e1,h0,hf,nd,dp,sp⟩:=S.dp i d e;obtain⟨o,ho,nt⟩:=Deep.top dp;exact⟨s1,a,bs,e1,h0,g.no hf ho nt,nd,Deep.gr g dp,sp⟩⟩
theorem StOk.s(S:StOk κ F0 H0 F H ρ σ):Le F H:=S.gr.s
theorem qE{α:Type}{l:List α}{i j:Nat}{x y:α}(h:(l.set i x)[j]?=some y):(j=i/\y=x)∨(j≠i/\l[j]?=some y):=by
 by_cases e:j=i
 ·subst e;by_cases hl:j<l.length
  ·rw [gZ hl]at h;cases h;exact .inl ⟨rfl,rfl⟩
  ·rw [pW (by rw [List.length_set];omega)]at h;cases h
 ·rw [gM (hG e)]at h;exact .inr ⟨e,h⟩
theorem StOk.setF(S:StOk κ F0 H0 F H ρ σ){i:Nat}{v:V}{d:D}(r:Rep κ F v d):StOk κ F0 H0 F H (ρ.set i (some (.fz d))) (σ.set i (some v)):=by
 refine⟨S.gr,by simp [S.len],fun j w e=>?_,fun j k w w' a B ej ek oj ok sj sk=>?_,fun j y e=>?_⟩
 ·rcases qE e with⟨rfl,z⟩|⟨ne,z⟩
  ·cases z;have hl:j<σ.length:=by
    rw [<- S.len];have:=(gu.mp e).1;simpa using this
   exact⟨v,gZ hl,r⟩
  ·obtain⟨u,e1,q⟩:=S.val j w z;exact⟨u,by rw [gM (hG ne)];exact e1,q⟩
 ·rcases qE ej with⟨_,z⟩|⟨nj,ej⟩
  ·cases z;cases oj
  rcases qE ek with⟨_,z⟩|⟨nk,ek⟩
  ·cases z;cases ok
  rw [gM (hG nj)]at sj;rw [gM (hG nk)]at sk;exact S.sep j k w w' a B ej ek oj ok sj sk
 ·rcases qE e with⟨_,z⟩|⟨nj,ej⟩
  ·cases z
  obtain⟨s1,a,bs,e1,h0,hf,nd,dp,sp⟩:=S.dp j y ej;refine⟨fun k z hk ek=>?_,a,bs,by rw [gM (hG nj)];exact e1,h0,hf,nd,dp,fun k w b hk ek ok m sk=>?_⟩
  ·rcases qE ek with⟨_,q⟩|⟨_,q⟩
   ·cases q
   ·exact s1 k z hk q
  ·rcases qE ek with⟨_,q⟩|⟨nk,q⟩
   ·cases q;cases ok
   ·rw [gM (hG nk)]at sk;exact sp k w b hk q ok m sk
theorem StOk.setO(S:StOk κ F0 H0 F H ρ σ){i:Nat}{a:Addr}{o:HO}{d:D}(h0:H0 a=none)(hf:F a=none)(ha:H a=some o)(r:OwnO κ F o d)
  (Z:∀(j:Nat) (w:En),j≠i->ρ[j]?=some (some w)->w.own=true->σ[j]?≠some (some (.ref a)))
  (Y:∀(j:Nat) (y:D),j≠i->ρ[j]?=some (some (.od y))->shal j ρ/\∃ c bs,σ[j]?=some (some (.ref c))/\H0 c=none/\F c=none/\(c::bs).Nodup/\Deep κ H0 F H c bs y /\
   (∀(k:Nat) (w:En) (b:Addr),k≠j->ρ[k]?=some (some w)->w.own=true->b∈c::bs->σ[k]?≠some (some (.ref b)))/\a∉c::bs):StOk κ F0 H0 F H (ρ.set i (some (.ow d))) (σ.set i (some (.ref a))):=by
 refine⟨S.gr,by simp [S.len],fun j w e=>?_,fun j k w w' b U ej ek oj ok sj sk=>?_,fun j y e=>?_⟩
 ·rcases qE e with⟨rfl,z⟩|⟨ne,z⟩
  ·cases z;have hl:j<σ.length:=by
    rw [<- S.len];have:=(gu.mp e).1;simpa using this
   exact⟨.ref a,gZ hl,a,o,rfl,h0,hf,ha,r⟩
  ·obtain⟨u,e1,q⟩:=S.val j w z;exact⟨u,by rw [gM (hG ne)];exact e1,q⟩
 ·have B:∀{m:Nat},m≠i->(σ.set i (some (.ref a)))[m]?=some (some (.ref b))->σ[m]?=some (some (.ref b)):=fun{m} hm h=>by
   rw [gM (hG hm)]at h;exact h
  rcases qE ej with⟨e1,z⟩|⟨nj,W⟩
  ·rcases qE ek with⟨e2,_⟩|⟨nk,O⟩
   ·exact U (e1.trans e2.symm)
   ·subst e1;have hl:j<σ.length:=by have:=(gu.mp sj).1;simpa using this
    rw [gZ hl]at sj;cases sj;exact Z k w' nk O ok (B nk sk)
  ·rcases qE ek with⟨e2,z⟩|⟨nk,O⟩
   ·subst e2;have hl:k<σ.length:=by have:=(gu.mp sk).1;simpa using this
    rw [gZ hl]at sk;cases sk;exact Z j w nj W oj (B nj sj)
   ·exact S.sep j k w w' b U W O oj ok (B nj sj) (B nk sk)
 ·rcases qE e with⟨_,z⟩|⟨nj,ej⟩
  ·cases z
  obtain⟨s1,c,bs,e1,c0,cf,nd,dp,sp,nc⟩:=Y j y nj ej;refine⟨fun k z hk ek=>?_,c,bs,by rw [gM (hG nj)];exact e1,c0,cf,nd,dp,fun k w b hk ek ok m sk=>?_⟩
  ·rcases qE ek with⟨_,q⟩|⟨_,q⟩
   ·cases q
   ·exact s1 k z hk q
  ·rcases qE ek with⟨rfl,_⟩|⟨nk,q⟩
   ·have hl:k<σ.length:=by have:=(gu.mp sk).1;simpa using this
    rw [gZ hl]at sk;cases sk;exact nc m
   ·rw [gM (hG nk)]at sk;exact sp k w b hk q ok m sk
theorem StOk.ownAt(S:StOk κ F0 H0 F H ρ σ){j:Nat}{w:En}{a:Addr}(e:ρ[j]?=some (some w))(o:w.own=true)(s:σ[j]?=some (some (.ref a))):∃ u,H a=some u:=by
 obtain⟨v,e1,q⟩:=S.val j w e;rw [s]at e1;cases e1;cases w with
 | ow d=>obtain⟨b,u,eb,_,_,e2,_⟩:=q;cases eb;exact⟨u,e2⟩
 | lk d=>cases o
 | od d=>obtain⟨b,u,eb,_,_,e2,_⟩:=q;cases eb;exact⟨u,e2⟩
 | fz d=>cases o
 | br d=>cases o
theorem StOk.setW(S:StOk κ F0 H0 F H ρ σ)(g:Gr F H F' H'){i:Nat}{v:V}{w w':En}(q:Vok κ H F' H' v w)(e:w.nm=.ok w'):StOk κ F0 H0 F' H' (ρ.set i (some w')) (σ.set i (some v)):=by
 have S':=S.grow g;cases w with
 | fz d=>cases e;exact S'.setF q
 | ow d =>
  cases e;obtain⟨a,o,rfl,e1,e3,e2,r⟩:=q;refine S'.setO (Le.none S.gr.h e1) e3 e2 r (fun j w hj ej oj sj=>?_) fun j y hj ej=>?_
  ·obtain⟨u,z⟩:=S.ownAt ej oj sj;rw [e1]at z;cases z
  ·obtain⟨s1,c,bs,sj,h0,hf,nd,dp,sp⟩:=S.dp j y ej;obtain⟨o',B,O⟩:=Deep.top dp;refine⟨s1,c,bs,sj,h0,g.no hf B O,nd,Deep.gr g dp,sp,fun m=>?_⟩
   rcases gl.mp m with rfl|m
   ·rw [e1]at B;cases B
   ·obtain⟨us,_,_,z⟩:=Deep.inn dp m;rw [e1]at z;cases z
 | br d=>cases e
 | lk d=>cases e
 | od d=>cases e
end
def Way(H:Hp)(n:Nat)(h:Heap)(e:Addr)(cl:Value)(dd:Option Addr)(q:Option Value):Prop :=
 ∃ oe vs,h.get? e=some oe/\oe.cls=cl/\oe.dict=dd/\oe.data=.fields vs/\1<vs.size/\n<=e/\H e=none /\
  ((vs[1]?=some .none/\q=none) ∨
   ∃ T oT ts fl,vs[1]?=some (.ref T)/\T≠e/\n<=T/\H T=none/\h.get? T=some oT/\oT.data=.fields ts/\ts[3]?=some fl/\q=some fl)
structure Chg(H:Hp)(n:Nat)(fs:List Addr)(h h':Heap):Prop where
 ex:∃ ch:List Addr,(∀ b∈ch,n<=b/\H b=none/\∀ o,h.get? b=some o->∃ vs,o.data=.fields vs)/\(∀ b o,h.get? b=some o->b∉fs->b∉ch->h'.get? b=some o) /\
  (∀ b o,h.get? b=some o->b∉ch->∃ sl,h'.get? b=some {o with slots:=sl})/\(∀ b o,h.get? b=some o->∃ o',h'.get? b=some o')
 sz:h.objs.size<=h'.objs.size
section
variable{H:Hp}{n:Nat}{fs:List Addr}{h h' h'':Heap}{e:Addr}{cl:Value}{dd:Option Addr}{q:Option Value}
theorem Chg.trans(a:Chg H n fs h h')(b:Chg H n fs h' h''):Chg H n fs h h'':=by
 obtain⟨c1,a1,a2,a3,a4⟩:=a.ex;obtain⟨c2,b1,b2,b3,b4⟩:=b.ex;refine⟨⟨c1++c2,fun x hx=>?_,fun x o hx nf nc=>?_,fun x o hx nc=>?_,fun x o hx=>?_⟩,t8 a.sz b.sz⟩
 ·by_cases m1:x∈c1
  ·exact a1 x m1
  ·have m2:x∈c2:=(tm.mp hx).resolve_left m1;refine⟨(b1 x m2).1,(b1 x m2).2.1,fun o ho=>?_⟩
   obtain⟨sl,z⟩:=a3 x o ho m1;have w:=(b1 x m2).2.2 _ z;exact w
 ·exact b2 x o (a2 x o hx nf fun z=>nc (h9 _ z)) nf fun z=>nc (gF _ z)
 ·obtain⟨sl,z⟩:=a3 x o hx fun z=>nc (h9 _ z)
  obtain⟨B,z'⟩:=b3 x _ z fun z=>nc (gF _ z)
  exact⟨B,z'⟩
 ·obtain⟨o',z⟩:=a4 x o hx;exact b4 x o' z
theorem Chg.field{a:Addr}{o:Obj}{vs:Array Value}{i:Nat}{v:Value}(O:h.get? a=some o)(hd:o.data=.fields vs)(U:n<=a)(W:H a=none) :
  Chg H n fs h (h.update a (Obj.mapFields (·.setIfInBounds i v))):=by
 have ne:∀ b,b≠a->(h.update a (Obj.mapFields (·.setIfInBounds i v))).get? b=h.get? b:=fun b hb=>t5 _ _ (hG hb)
 have B:=tq (Obj.mapFields (·.setIfInBounds i v)) O (pf (fA hd _))
 refine⟨⟨[a],fun b hb=>?_,fun b u hb _ nc=>?_,fun b u hb nc=>⟨u.slots,?_⟩,fun b u hb=>?_⟩,by first|exact le_of_eq (p7 _ _ _).symm|simp⟩
 ·obtain rfl:b=a:=by simpa using hb
  exact⟨U,W,fun u hu=>by rw [O]at hu;cases hu;exact⟨vs,hd⟩⟩
 ·exact(ne b fun z=>nc (by simp [z])).trans hb
 ·exact(ne b fun z=>nc (by simp [z])).trans hb
 ·by_cases z:b=a
  ·subst z;exact⟨_,B⟩
  ·exact⟨u,(ne b z).trans hb⟩
theorem Chg.push(o:Obj):Chg H n fs h (h.push o) :=
 ⟨⟨[],(fun _ z=>nomatch z),fun b u hb _ _=>gg _ hb,fun b u hb _=>⟨u.slots,gg _ hb⟩,fun b u hb=>⟨u,gg _ hb⟩⟩,by simp⟩
theorem Chg.slots(s:Heap.SlotsOnly fs h h'):Chg H n fs h h' :=
 ⟨⟨[],(fun _ z=>nomatch z),fun b u hb nf _=>(s.2.1 b nf).trans hb,fun b u hb _=>s.2.2 b u hb,fun b u hb=>(s.2.2 b u hb).elim fun _ z=>⟨_,z⟩⟩,le_of_eq s.1.symm⟩
end
section
variable{M:Model}{A:Around}{E:Value->Shared->Prop}{s:Shared}{H:Hp}{n:Nat}{base:Heap}{env:Env}{outer:List Env}{L e:Addr}{cl:Value}{dd:Option Addr}
theorem K9{B:Value}{b:Bool}{oe:Obj}{vs:Array Value}{Q:Unit->Shared->Prop}(U:A.frames=some (env::outer))(Y:s.heap.FunFrames base (env::outer))(hf:env.frame=some L)
  (Z:s.heap.get? e=some oe)(hd:oe.data=.fields vs)(hz:1<vs.size)(hn:n<=e)(hH:H e=none)(fr:∀ b,s.heap.objs.size<=b->H b=none)(hs:n<=s.heap.objs.size)
  (k:∀ h',Chg H n (frs (env::outer)) s.heap h'->Way H n h' e oe.cls oe.dict (some (rawInt L))->Q () {s with heap:=h'}) :
  wpAny M A (do let a <- frameOf env;let pl <- entryPlaceOf L b;let t <- EntryCells.newEntry B a .none (rawInt L) .none pl;setField (.ref e) 1 t) Q E s:=by
 have W:e∉frs (env::outer):=fun z=>by
  obtain⟨_,o,ho,w⟩:=Y.mem z;rw [Z]at ho;cases ho;exact w vs hd
 refine g6 (wpAny_frameOf_fun U Y hf fun h1 s1=>g6 (wpAny_entryPlaceOf fun pl hp=>?_))
 unfold EntryCells.newEntry;unfold newFields;refine g6 (tw ?_ (hp.sizeOk5 _ _ _ _ _));generalize hc:([B,.ref L,.none,rawInt L,.none]++(if pl.isEmpty then List.replicate 6 Value.none else pl))=cs
 have c3:cs.toArray[3]?=some (rawInt L):=by rw [<- hc];simp
 have e1:h1.get? e=some oe:=(s1.2.1 e W).trans Z;have e2:=gg (h:=h1) (({cls:=.type "traceback",dict:=none,data:=.fields cs.toArray}:Obj)) e1;have z1:h1.objs.size=s.heap.objs.size:=s1.1;have O:h1.objs.size≠e:=fU (gv e1);refine po e2 hd hz (k _ (((Chg.slots s1).trans (Chg.push _)).trans (Chg.field e2 hd hn hH)) ?_);have d3:=fA hd (·.setIfInBounds 1 (Value.ref h1.objs.size))
 refine⟨_,_,tq _ e2 (pf d3),dR _ _,?_,d3,by simpa using hz,hn,hH,.inr ⟨h1.objs.size,{cls:=.type "traceback",dict:=none,data:=.fields cs.toArray},cs.toArray,rawInt L,?_,O,by omega,fr _ (by omega),?_,rfl,c3,rfl⟩⟩
 ·obtain⟨c,d,dt,sl⟩:=oe;cases hd;rfl
 ·rw [pX hz]
 ·exact(t5 _ _ (hG O)).trans (gH h1 rfl)
theorem Jr{q:Option Value}{Q:Unit->Shared->Prop}(B:A.frames=some (env::outer))(U:s.heap.FunFrames base (env::outer))(O:env.frame=some L)
  (W:Way H n s.heap e cl dd q)(hq:q=none∨q=some .none)(Y:∀ b,s.heap.objs.size<=b->H b=none)(Z:n<=s.heap.objs.size)
  (k:∀ h',Chg H n (frs (env::outer)) s.heap h'->Way H n h' e cl dd (some (rawInt L))->Q () {s with heap:=h'}):wpAny M A (noteFrame (.ref e) env) Q E s:=by
 obtain⟨oe,vs,he,rfl,rfl,hd,hz,hn,hH,w⟩:=W;unfold noteFrame;simp only [O];rcases w with⟨h1,rfl⟩|⟨T,oT,ts,fl,h1,hT,nT,HT,gT,dT,t3,eq⟩
 ·refine g6 (tK (x:=_) he hd h1 ?_);rw [gD (by decide)]
  exact K9 B U O he hd hz hn hH Y Z k
 ·obtain rfl:fl=.none:=by
   rcases hq with z|z
   ·rw [z]at eq;cases eq
   ·rw [z]at eq;cases eq;rfl
  refine g6 (tK (x:=_) he hd h1 ?_);rw [gB (show(Value.ref T != Value.none)=true by simp)]
  refine g6 (tK gT dT t3 ?_);rw [gD (show ¬ ((Value.none==rawInt L)=true)by simp [rawInt])]
  refine g6 (po gT dT (ck.mp t3).1 ?_);have c1:Chg H n (frs (env::outer)) s.heap (s.heap.update T (Obj.mapFields (·.setIfInBounds 3 Value.none))):=Chg.field gT dT nT HT
  have e1:(s.heap.update T (Obj.mapFields (·.setIfInBounds 3 Value.none))).get? e=some oe:=(t5 _ _ hT).trans he
  refine K9 (base:=base) (s:={s with heap:=s.heap.update T (Obj.mapFields (·.setIfInBounds 3 Value.none))}) B ?_ O e1 hd hz hn hH (fun b hb=>Y b (t8 c1.sz hb)) (t8 Z c1.sz) fun h' c2 w2=>k h' (c1.trans c2) w2
  refine U.of_keeps fun b o hb nf=>⟨o,?_,rfl⟩
  refine(t5 _ _ fun z=>?_).trans hb
  subst z;rw [gT]at hb;cases hb;exact nf ts dT
theorem xI{fl:Value}{B:Option Addr}{fs:List Addr}{Q:Unit->Shared->Prop}(W:Way H n s.heap e cl dd (some fl))
  (k:∀ h',Chg H n fs s.heap h'->Way H n h' e cl dd (some (B.elim .none fun f=>rawInt f))->Q () {s with heap:=h'}):wpAny M A (setFlight (.ref e) B) Q E s:=by
 obtain⟨oe,vs,he,rfl,rfl,hd,hz,hn,hH,w⟩:=W;rcases w with⟨_,z⟩|⟨T,oT,ts,O,h1,hT,nT,HT,gT,dT,t3,eq⟩
 ·cases z
 have l3:=(ck.mp t3).1;unfold setFlight;refine g6 (tK (x:=_) he hd h1 ?_);rw [gB (show(Value.ref T != Value.none)=true by simp)]
 refine po gT dT l3 (k _ (Chg.field gT dT nT HT) ?_);refine⟨oe,vs,(t5 _ _ hT).trans he,rfl,rfl,hd,hz,hn,hH,.inr ⟨T,_,_,_,h1,hT,nT,HT,tq _ gT (pf (fA dT _)),fA dT _,?_,rfl⟩⟩;rw [pX l3]
end
theorem Inv.chg{X:Cx}{pins:List (Addr×Obj)}{σ O:St}{H H1:Hp}{s U:Shared}{h':Heap}{t':Nat}(B:Inv X pins O H1 U)(I:Inv X pins σ H s)(c:Chg H U.heap.objs.size (frs X.stack) s.heap h') :
  Inv X pins σ H {s with heap:=h',toks:=t'}:=by
 obtain⟨ch,a1,a2,a3,a4⟩:=c.ex;have lt:∀ b∈ch,∀ o,U.heap.get? b≠some o:=fun b hb o ho=>absurd (gG (gv ho) (a1 b hb).1) (tB _)
 have hok:HOk X.prog X.w H h':=fun b u e=>by
  refine(I.hok b u e).stay (fun d v hd q=>?_) (fun _ z=>z) fun _ _ z=>z
  have hH:H d≠none:=by
   rcases hd with rfl|z
   ·rw [e];exact dA _
   ·rw [z];exact dA _
  exact a2 d v q (fun z=>hH (I.stkFree d z)) fun z=>hH (a1 d z).2.1
 refine I.call (ch:=ch) (g':=s.gens) (d':=s.drawn) ⟨fun b o e _ nf nc=>a2 b o e nf nc,fun b o e _ _ nc=>a3 b o e nc,fun b o _ z _=>z,fun b o e _=>a4 b o e,fun _ _ z=>z,fun _ _ _ z=>z,fun b ps z=>⟨#[],by rw [z];simp⟩⟩ hok I.bare fun b hb=>⟨.inr (t8 B.sz (a1 b hb).1),fun z=>?_,fun x d hd z=>?_,fun p hp z=>?_⟩
 ·obtain⟨m,⟨o,_,_,ho,_⟩,_⟩:=B.loc;exact lt b hb o (z▸ho)
 ·obtain⟨v,o,ho,_⟩:=B.cell x d hd;exact lt b hb o (z▸ho)
 ·exact lt b hb p.2 (z▸(B.pin p hp).1)
def flatV:D->Value->Prop
 | .non,u=>u=.none
 | .int i,u=>∃ t,u=.int i t
 | _,_=>False
def AtIs(H:Hp)(n:Nat)(h:Heap)(dd:Option Addr):List (Str×D)->Prop
 | []=>dd=none
 | (nm,d)::_=>∃ dx mA u,dd=some dx/\n<=dx/\H dx=none/\h.Ns1 dx mA/\mA nm=some u/\flatV d u
inductive XOk:Xc->Prop
 | nof (c:Str):XOk (Xc.mk c [])
 | nonf (c:Str):XOk (Xc.mk c [("at",D.non)])
 | intf (c:Str) (n:Nat):XOk (Xc.mk c [("at",D.int n)])
def atc(x:Xc):Option Addr:=match x.fs with
 | []=>none
 | [(_,.int i)]=>some (i.toNat+1)
 | _=>some 0
structure Fl(P:Program)(w:World)(mg:Str->Option Value)(outer:List Env)(H:Hp)(s:Shared)(H':Hp)(s':Shared)(e:Addr)(x:Xc)(q:Option Value):Prop where
 os:s'.os=s.os
 bare:AllBare s'.gens
 un:Un (frs outer) [] H H' s.heap s'.heap
 hok:HOk P w H' s'.heap
 sz:s.heap.objs.size<=s'.heap.objs.size
 ok:XOk x
 way:∃ C dd,mg x.cls=some (.ref C)/\Way H' s.heap.objs.size s'.heap e (.ref C) dd q/\AtIs H' s.heap.objs.size s'.heap dd x.fs
theorem Way.mono{H:Hp}{n m:Nat}{h:Heap}{e:Addr}{cl:Value}{dd:Option Addr}{q:Option Value}(W:Way H n h e cl dd q)(l:m<=n):Way H m h e cl dd q:=by
 obtain⟨oe,vs,he,rfl,rfl,hd,hz,hn,hH,w⟩:=W;refine⟨oe,vs,he,rfl,rfl,hd,hz,t8 l hn,hH,?_⟩;rcases w with w|⟨T,oT,ts,fl,h1,hT,nT,r⟩
 ·exact .inl w
 ·exact .inr ⟨T,oT,ts,fl,h1,hT,t8 l nT,r⟩
theorem AtIs.mono{H:Hp}{n m:Nat}{h:Heap}{dd:Option Addr}{fs:List (Str×D)}(W:AtIs H n h dd fs)(l:m<=n):AtIs H m h dd fs:=by
 cases fs with
 | nil=>exact W
 | cons p r=>obtain⟨dx,mA,u,e1,e2,r⟩:=W;exact⟨dx,mA,u,e1,t8 l e2,r⟩
theorem AtIs.chg{H:Hp}{n:Nat}{B:List Addr}{h h':Heap}{dd:Option Addr}{fs:List (Str×D)}(W:AtIs H n h dd fs)(c:Chg H n B h h')(O:∀ b∈B,b<n):AtIs H n h' dd fs:=by
 cases fs with
 | nil=>exact W
 | cons p r =>
  obtain⟨dx,mA,u,e1,e2,hH,N,r⟩:=W;obtain⟨ch,a1,a2,_⟩:=c.ex;refine⟨dx,mA,u,e1,e2,hH,?_,r⟩;obtain⟨o,es,ep,ho,hd,z⟩:=N;refine⟨o,es,ep,a2 dx o ho (fun z=>absurd (gG (O dx z) e2) (tB _)) (fun z=>?_),hd,z⟩
  obtain⟨vs,q⟩:=(a1 dx z).2.2 o ho;rw [hd]at q;cases q
def KE{α:Type}(x:Xc->Prop)(r:R α)(k:α->Prop):Prop:=match r with
 | .ok a=>k a
 | .exc e=>x e
 | .stuck=>False
theorem KE.bind{α β:Type}{x:Xc->Prop}{r:R α}{f:α->R β}{k:β->Prop}(h:KE x (r.bind f) k):KE x r fun a=>KE x (f a) k:=by
 cases r<;>exact h
theorem KE.imp{α:Type}{x:Xc->Prop}{r:R α}{k z:α->Prop}(h:KE x r k)(i:∀ a,k a->z a):KE x r z:=by
 cases r with
 | ok a=>exact i a h
 | exc e=>exact h
 | stuck=>exact h
theorem KE.impX{α:Type}{x z:Xc->Prop}{r:R α}{k B:α->Prop}(h:KE x r k)(i:∀ a,k a->B a)(j:∀ e,x e->z e):KE z r B:=by
 cases r with
 | ok a=>exact i a h
 | exc e=>exact j e h
 | stuck=>exact h
theorem yp{α:Type}{x:Xc->Prop}{a:α}{k:α->Prop}:KE x (R.ok a) k=k a:=rfl
def XP(X:Cx)(F0 H0:Hp)(x:Xc):Prop:=False
def XPS(X:Cx)(F0 H0:Hp)(x:Xc):Prop:=∀(pins:List (Addr×Obj)) (σ:St) (H:Hp) (s:Shared) (F' H':Hp) (s':Shared) (e:Addr) (q:Option Value),(q=none∨q=some .none)->Gr F0 H0 F' H'->Inv X pins σ H s ->
 Fl X.prog X.w X.mg X.stack H s H' s' e x q->X.xe (.ref e) s'
def SE(X:Cx)(F0 H0:Hp)(e:Expr)(f:EF):Prop :=
 ∀(pins:List (Addr×Obj)) (s:Shared) (σ:St) (F H:Hp) (ρ:Rho) (Q:Value->Shared->Prop),StOk (kx X) F0 H0 F H ρ σ->Inv X pins σ H s ->
  KE (XP X F0 H0) (f ρ) (fun w=>∀ v u F' H' s',Gr F H F' H'->Vok (kx X) H F' H' v w->RelV v u->Inv X pins σ H' s'->Q u s') ->
  wpAny (model X.prog X.w) X.A (eval e X.env) Q X.xe s
def ST(X:Cx)(F0 H0:Hp)(e:Expr)(f:TF):Prop :=
 ∀(pins:List (Addr×Obj)) (s:Shared) (σ:St) (F H:Hp) (ρ:Rho) (Q:Bool->Shared->Prop),StOk (kx X) F0 H0 F H ρ σ->Inv X pins σ H s ->
  KE (XP X F0 H0) (f ρ) (fun b=>∀ F' H' s',Gr F H F' H'->Inv X pins σ H' s'->Q b s') ->
  wpAny (model X.prog X.w) X.A (isTrue e X.env (eval e X.env)) Q X.xe s
def SW(X:Cx)(F0 H0:Hp)(e:Expr)(f:TF):Prop :=
 ∀(z:Sem Value) (pins:List (Addr×Obj)) (s:Shared) (σ:St) (F H:Hp) (ρ:Rho) (Q:Bool->Shared->Prop),StOk (kx X) F0 H0 F H ρ σ->Inv X pins σ H s ->
  KE (XP X F0 H0) (f ρ) (fun b=>∀ F' H' s',Gr F H F' H'->Inv X pins σ H' s'->Q b s') ->
  wpAny (model X.prog X.w) X.A (isTrue e X.env z) Q X.xe s
def SA(X:Cx)(F0 H0:Hp)(es:List Expr)(f:List EF):Prop :=
 ∀(pos:Pos) (pins:List (Addr×Obj)) (s:Shared) (σ:St) (F H:Hp) (ρ:Rho) (Q:List Value->Shared->Prop),StOk (kx X) F0 H0 F H ρ σ->Inv X pins σ H s ->
  KE (XP X F0 H0) (evs f ρ) (fun ws=>∀ vs us F' H' s',Gr F H F' H'->Voks (kx X) H F' H' vs ws->Vals vs us->Inv X pins σ H' s'->Q us s') ->
  wpAny (model X.prog X.w) X.A (spliced (backTo pos (starEach es X.env))) Q X.xe s
def PostS(X:Cx)(F0 H0 F:Hp)(D:Ends):Out->Prop
 | .nx ρ'=>∀ z F' H',Le F F'->StOk (kx X) F0 H0 F' H' ρ' z->D.nx z H'
 | .bk ρ'=>∀ z F' H',Le F F'->StOk (kx X) F0 H0 F' H' ρ' z->D.bk z H'
 | .ct ρ'=>∀ z F' H',Le F F'->StOk (kx X) F0 H0 F' H' ρ' z->D.ct z H'
 | .rt w=>∀ v F' H',Gr F0 H0 F' H'->Vok (kx X) H0 F' H' v w->D.rt v H'
 | .exc x=>XPS X F0 H0 x
 | .stuck=>False
def SS(X:Cx)(F0 H0:Hp)(st:Stmt)(f:SF):Prop :=
 ∀(pins:List (Addr×Obj)) (s:Shared) (σ:St) (F H:Hp) (ρ:Rho) (D:Ends),StOk (kx X) F0 H0 F H ρ σ->Inv X pins σ H s->PostS X F0 H0 F D (f ρ) ->
  wpAny (model X.prog X.w) X.A (exec st X.env) (SP X pins D) X.xe s
def SSs(X:Cx)(F0 H0:Hp)(z:List Stmt)(f:SF):Prop :=
 ∀(pins:List (Addr×Obj)) (s:Shared) (σ:St) (F H:Hp) (ρ:Rho) (D:Ends),StOk (kx X) F0 H0 F H ρ σ->Inv X pins σ H s->PostS X F0 H0 F D (f ρ) ->
  wpAny (model X.prog X.w) X.A (execs z X.env) (SP X pins D) X.xe s
theorem PostS.le{X:Cx}{F0 H0 F F':Hp}{D:Ends}(l:Le F F'){o:Out}(h:PostS X F0 H0 F D o):PostS X F0 H0 F' D o:=by
 cases o with
 | nx ρ=>exact fun z F2 H2 l2 S=>h z F2 H2 (Le.trans l l2) S
 | bk ρ=>exact fun z F2 H2 l2 S=>h z F2 H2 (Le.trans l l2) S
 | ct ρ=>exact fun z F2 H2 l2 S=>h z F2 H2 (Le.trans l l2) S
 | rt w=>exact h
 | exc x=>exact h
 | stuck=>exact h
theorem PostS.of{α:Type}{X:Cx}{F0 H0 F:Hp}{D:Ends}{r:R α}{k:α->Out}(h:PostS X F0 H0 F D (sOf r k)):KE (XP X F0 H0) r fun a=>PostS X F0 H0 F D (k a):=by
 cases r<;>exact h
def Js(X:Cx)(e:Expr):TE:=fun σ H Q=>∀(pins:List (Addr×Obj)) (s:Shared),Inv X pins σ H s->wpAny (model X.prog X.w) X.A (eval e X.env) (EP X pins σ Q) X.xe s
theorem jp{X:Cx}{e:Expr}:PE X e (Js X e):=fun pins s σ H Q I h=>h pins s I
theorem SE.sem{X:Cx}{F0 H0:Hp}{e:Expr}{f:EF}(h:SE X F0 H0 e f){σ:St}{F H:Hp}{ρ:Rho}{Q:VK}(S:StOk (kx X) F0 H0 F H ρ σ)
  (k:KE (XP X F0 H0) (f ρ) fun w=>∀ v F' H',Gr F H F' H'->Vok (kx X) H F' H' v w->Q v H'):Js X e σ H Q :=
 fun pins s I=>h pins s σ F H ρ _ S I (k.imp fun w q v u F' H' s' g vo r I'=>⟨v,H',I',r,q v F' H' g vo⟩)
def qa9(X:Cx)(e:Expr):TT:=fun σ H Q=>∀(pins:List (Addr×Obj)) (s:Shared),Inv X pins σ H s->wpAny (model X.prog X.w) X.A (isTrue e X.env (eval e X.env)) (TP X pins σ Q) X.xe s
theorem qaa{X:Cx}{e:Expr}:PT X e (qa9 X e):=fun pins s σ H Q I h=>h pins s I
def uT(X:Cx)(st:List Stmt):TS:=fun D σ H=>∀(pins:List (Addr×Obj)) (s:Shared),Inv X pins σ H s->wpAny (model X.prog X.w) X.A (execs st X.env) (SP X pins D) X.xe s
theorem xJ{X:Cx}{st:List Stmt}:PSs X st (uT X st):=fun pins s σ H D I h=>h pins s I
section
variable{X:Cx}{F0 H0:Hp}
theorem qa(i:Nat){x:Str}{pos:Pos}(B:X.N[i]?=some x:=by rfl)(O:Vis X.env.scope x:=by trivial)(hd:(x==("__debug__":Str))=false:=by decide)
  (z:(x==("__classdict__":Str))=false:=by decide):SE X F0 H0 (.Name x pos) (q9 i):=by
 intro pins s σ F H ρ Q S I h;have go:∀ w w':En,ρ[i]?=some (some w)->(∀ v,Eok (kx X) H0 F H v w->Vok (kx X) H F H v w') ->
   (∀ v u F' H' s',Gr F H F' H'->Vok (kx X) H F' H' v w'->RelV v u->Inv X pins σ H' s'->Q u s')->wpAny (model X.prog X.w) X.A (eval (.Name x pos) X.env) Q X.xe s:=fun w w' e t k=>by
  obtain⟨v,e1,q⟩:=S.val i w e;refine thn (jn B O hd z pins s σ H (fun v' H'=>v'=v/\H'=H) I ⟨v,e1,rfl,rfl⟩) fun u s' ⟨v',H',I',r,ev,eh⟩=>?_
  subst ev eh;exact k v' u F H' s' (Gr.refl S.s) (t v' q) r I'
 cases e:ρ[i]? with
 | none=>unfold q9 at h;rw [e]at h;exact h.elim
 | some w =>
  cases w with
  | none=>unfold q9 at h;rw [e]at h;exact h.elim
  | some w =>
   unfold q9 at h;rw [e]at h;cases w with
   | fz d=>exact go _ (.fz d) e (fun v q=>q) h
   | ow d=>exact go _ (.br d) e (fun v ⟨a,o,e1,_,_,e2,r⟩=>⟨a,o,e1,e2,r⟩) h
   | lk d=>exact go _ (.fz d) e (fun v q=>q.1) h
   | od d=>exact h.elim
   | br d=>exact go _ (.br d) e (fun v ⟨a,o,e1,e2,r⟩=>⟨a,o,e1,S.gr.h _ _ e2,r⟩) h
theorem xK{e:Expr}{v:V}{d:D}(h:PE X e (tC v))(r:∀ F,Rep (kx X) F v d):SE X F0 H0 e (eC d):=by
 intro pins s σ F H ρ Q S I k;refine thn (h pins s σ H (fun v' H'=>v'=v/\H'=H) I ⟨rfl,rfl⟩) fun u s' ⟨v',H',I',rv,ev,eh⟩=>?_
 subst ev eh;exact k v' u F H' s' (Gr.refl S.s) (r F) rv I'
theorem qc{i:Int}{j pos}:SE X F0 H0 (.Constant (.int i) j pos) (eC (.int i)):=xK G6 fun _=>rfl
theorem vL{b:Bool}{j pos}:SE X F0 H0 (.Constant (.bool b) j pos) (eC (.bl b)):=xK G7 fun _=>rfl
theorem wS{j pos}:SE X F0 H0 (.Constant .none j pos) (eC .non):=xK G8 fun _=>rfl
theorem jq{x:Str}{j pos}:SE X F0 H0 (.Constant (.str x) j pos) (eC (.str x)):=xK G9 fun _=>rfl
theorem Ka{x:Str}{v:V}{u:Value}{d:D}{pos:Pos}(z:X.mg x=some u)(r:RelV v u)(q:∀ F,Rep (kx X) F v d)(B:Gl X x:=by rfl)(hd:(x==("__debug__":Str))=false:=by decide) :
  SE X F0 H0 (.Name x pos) (eC d):=xK (Ga B z r hd) q
abbrev Wish(X:Cx)(F H:Hp)(r:R En)(Q:VK):Prop:=KE (fun _=>False) r fun w=>∀ v F' H',Gr F H F' H'->Vok (kx X) H F' H' v w->Q v H'
def OpD(X:Cx)(f:Value->Value->Sem Value)(g:D->D->R En):Prop :=
 ∀(pins:List (Addr×Obj)) (s:Shared) (σ:St) (F H:Hp) (x y:V) (v u:Value) (dx dy:D) (Q:VK),Inv X pins σ H s->Le F H->RelV x v->RelV y u->RdV (kx X) F H x dx->RdV (kx X) F H y dy->Wish X F H (g dx dy) Q ->
  wpAny (model X.prog X.w) X.A (f v u) (EP X pins σ Q) X.xe s
def zD(X:Cx)(f:Value)(g:List D->R En):Prop :=
 ∀(pins:List (Addr×Obj)) (s:Shared) (σ:St) (F H:Hp) (xs:List V) (us:List Value) (ds:List D) (Q:VK),Inv X pins σ H s->Le F H->Vals xs us->Paired (RdV (kx X) F H) xs ds->Wish X F H (g ds) Q ->
  wpAny (model X.prog X.w) X.A (call f us) (EP X pins σ Q) X.xe s
variable{a b:Expr}{fa fb:EF}{pos:Pos}{g:D->D->R En}
theorem yq{F H F2 H2:Hp}{r:R En}{Q:Value->Shared->Prop}{pins:List (Addr×Obj)}{σ:St}(B:Gr F H F2 H2)
  (h:KE (XP X F0 H0) r fun w=>∀ v u F' H' s',Gr F H F' H'->Vok (kx X) H F' H' v w->RelV v u->Inv X pins σ H' s'->Q u s') :
  Wish X F2 H2 r fun v H'=>∀ u s',RelV v u->Inv X pins σ H' s'->Q u s':=by
 refine KE.impX h (fun w k v F' H' g' q u s' r I=>?_) fun _ z=>z.elim
 exact k v u F' H' s' (B.trans g') (Vok.older (fun a e=>Le.none B.h e) q) r I
theorem ve{Q:Value->Shared->Prop}{pins:List (Addr×Obj)}{σ:St}{t:Sem Value}{s:Shared}
  (h:wpAny (model X.prog X.w) X.A t (EP X pins σ fun v H'=>∀ u s',RelV v u->Inv X pins σ H' s'->Q u s') X.xe s):wpAny (model X.prog X.w) X.A t Q X.xe s :=
 thn h fun u s' ⟨v,H',I',r,q⟩=>q u s' r I'
theorem two{f:Value->Value->Sem Value}(B:SE X F0 H0 a fa)(O:SE X F0 H0 b fb){pins:List (Addr×Obj)}{s:Shared}{σ:St}{F H:Hp}{ρ:Rho}{Q:Value->Shared->Prop}(S:StOk (kx X) F0 H0 F H ρ σ)(I:Inv X pins σ H s)
  (h:KE (XP X F0 H0) (eOp g fa fb ρ) fun w=>∀ v u F' H' s',Gr F H F' H'->Vok (kx X) H F' H' v w->RelV v u->Inv X pins σ H' s'->Q u s')
  (U:∀(s:Shared) (F H:Hp) (x y:V) (v u:Value) (dx dy:D) (Q:VK),Inv X pins σ H s->Le F H->RelV x v->RelV y u->RdV (kx X) F H x dx->RdV (kx X) F H y dy->Wish X F H (g dx dy) Q ->
   wpAny (model X.prog X.w) X.A (f v u) (EP X pins σ Q) X.xe s) :
  wpAny (model X.prog X.w) X.A (eval a X.env) (fun v z=>wpAny (model X.prog X.w) X.A (eval b X.env) (fun u s₂=>wpAny (model X.prog X.w) X.A (f v u) Q X.xe s₂) X.xe z) X.xe s:=by
 refine B pins s σ F H ρ _ S I ((KE.bind h).imp fun wx h1 v u F1 H1 s1 g1 q1 r1 I1=>?_)
 refine O pins s1 σ F1 H1 ρ _ (S.grow g1) I1 ((KE.bind h1).imp fun wy h2 v2 u2 F2 H2 s2 g2 q2 r2 I2=>?_)
 exact ve (U s2 F2 H2 v v2 u u2 wx.d wy.d _ I2 g2.s r1 r2 (RdV.gr g2 (Vok.rd q1)) (Vok.rd q2) (yq (g1.trans g2) h2))
theorem qq{op:Operator}(z:OpD X (binaryOp op) g)(B:SE X F0 H0 a fa)(O:SE X F0 H0 b fb):SE X F0 H0 (.BinOp a op b pos) (eOp g fa fb) :=
 fun pins s σ F H ρ Q S I h=>wpAny_BinOp (two B O S I h fun s F H x y v u dx dy Q=>z pins s σ F H x y v u dx dy Q)
theorem vM{op:CmpOp}(z:OpD X (compareOp op) g)(B:SE X F0 H0 a fa)(O:SE X F0 H0 b fb)(U:behindInMarks op b=false:=by first|exact YI _ (by decide) (by decide)|rfl) :
  SE X F0 H0 (.Compare a [op] [b] pos) (eOp g fa fb) :=
 fun pins s σ F H ρ Q S I h=>wpAny_Compare1 (two B O S I h fun s F H x y v u dx dy Q=>z pins s σ F H x y v u dx dy Q) U
theorem qZ{F H:Hp}{v:V}{d:D}{Q:VK}(s:Le F H)(h:Wish X F H (.ok (.fz d)) Q)(r:Rep (kx X) F v d):Q v H:=h v F H (Gr.refl s) r
theorem vf{f:Value->Value->Sem Value}{r:R2}(z:OpR X f r)
  (h:∀ F H x y dx dy Q,Le F H->RdV (kx X) F H x dx->RdV (kx X) F H y dy->Wish X F H (g dx dy) Q->r x y H Q):OpD X f g :=
 fun pins s σ F H x y v u dx dy Q I l rx ry qx qy w=>z pins s σ H x y v u Q I rx ry (h F H x y dx dy Q l qx qy w)
theorem jF:OpD X (binaryOp .Sub) jc:=vf GD fun F H x y dx dy Q l qx qy w=>by
 cases dx<;>first|exact w.elim|skip
 cases dy<;>first|exact w.elim|skip
 exact⟨_,_,RdV.int qx,RdV.int qy,qZ l (v:=.int _) w rfl⟩
theorem wT:OpD X (binaryOp .Mult) zx:=vf GE fun F H x y dx dy Q l qx qy w=>by
 cases dx<;>first|exact w.elim|skip
 cases dy<;>first|exact w.elim|skip
 rename_i i j;unfold zx at w;dsimp only at w;by_cases c:(fits b64 i||fits b64 j)=true
 ·rw [gB c]at w;have z:(2:Int) ^ 64=18446744073709551616:=by simp
  have c:(-(2 ^ 64)<i/\i<2 ^ 64)∨(-(2 ^ 64)<j/\j<2 ^ 64):=by
   rw [Bool.or_eq_true,fits_iff,fits_iff,b64e]at c;rw [z];omega
  exact⟨_,_,RdV.int qx,RdV.int qy,c,qZ l (v:=.int _) w rfl⟩
 ·rw [gD c]at w;exact w.elim
theorem wU:OpD X (binaryOp .Mod) zy:=vf GH fun F H x y dx dy Q l qx qy w=>by
 cases dx<;>first|exact w.elim|skip
 cases dy<;>first|exact w.elim|skip
 rename_i i j;unfold zy at w;dsimp only at w;by_cases c:0<j
 ·rw [gB c]at w;exact⟨_,_,RdV.int qx,RdV.int qy,c,qZ l (v:=.int _) w rfl⟩
 ·rw [gD c]at w;exact w.elim
theorem yr:OpD X (binaryOp .FloorDiv) zA:=vf GG fun F H x y dx dy Q l qx qy w=>by
 cases dx<;>first|exact w.elim|skip
 cases dy<;>first|exact w.elim|skip
 rename_i i j;unfold zA at w;dsimp only at w;by_cases c:0<j/\j<1073741824
 ·rw [gB c]at w;exact⟨_,_,RdV.int qx,RdV.int qy,c,qZ l (v:=.int _) w rfl⟩
 ·rw [gD c]at w;exact w.elim
theorem vN:OpD X (compareOp .Lt) dLt:=vf GK fun F H x y dx dy Q l qx qy w=>by
 cases dx<;>first|exact w.elim|skip
 cases dy<;>first|exact w.elim|skip
 exact⟨_,_,RdV.int qx,RdV.int qy,qZ l (v:=.bl _) w rfl⟩
theorem vO:OpD X (compareOp .LtE) dLe:=vf GL fun F H x y dx dy Q l qx qy w=>by
 cases dx<;>first|exact w.elim|skip
 cases dy<;>first|exact w.elim|skip
 exact⟨_,_,RdV.int qx,RdV.int qy,qZ l (v:=.bl _) w rfl⟩
theorem Jt:OpD X (compareOp .Gt) dGt:=vf GO fun F H x y dx dy Q l qx qy w=>by
 cases dx<;>first|exact w.elim|skip
 cases dy<;>first|exact w.elim|skip
 exact⟨_,_,RdV.int qx,RdV.int qy,qZ l (v:=.bl _) w rfl⟩
end
open PySem PySem.Spec PyProof.Rows L2
mutual
def toPy:D->PyData
 | .non=>.none|.bl b=>.bool b|.int i=>.int i|.str x=>.str x
 | .tup xs=>.tuple (jP xs)|.lst xs=>.list (jP xs)
 | _=>.none
def jP:List D->List PyData
 | []=>[]
 | x::xs=>toPy x::jP xs
end
mutual
theorem uU:∀(n m:Nat) (a b:D),qH n a=true->qH m b=true->PyData.eqv (toPy a) (toPy b)=deq a b
 | n,m,a,b,ha,hb=>by
  cases a<;>cases b<;>first
   | rfl
   | (simp [qH]at ha;done)
   | (simp [qH]at hb;done)
   | skip
  ·rename_i xs ys;cases n with
   | zero=>simp [qH]at ha
   | succ n =>
    cases m with
    | zero=>simp [qH]at hb
    | succ m=>exact Ju n m xs ys ha hb
  ·rename_i xs ys;cases n with
   | zero=>simp [qH]at ha
   | succ n =>
    cases m with
    | zero=>simp [qH]at hb
    | succ m=>exact Ju n m xs ys ha hb
theorem Ju:∀(n m:Nat) (a b:List D),a.all (qH n)=true->b.all (qH m)=true->PyData.eqvAll (jP a) (jP b)=deqs a b
 | _,_,[],[],_,_=>rfl
 | _,_,[],_::_,_,_=>rfl
 | _,_,_::_,[],_,_=>rfl
 | n,m,x::xs,y::ys,ha,hb=>by
  rw [fZ,gK]at ha hb;show(PyData.eqv (toPy x) (toPy y)&&PyData.eqvAll (jP xs) (jP ys))=(deq x y&&deqs xs ys);rw [uU n m x y ha.1 hb.1,Ju n m xs ys ha.2 hb.2]
end
theorem Jv(x:D)(n m:Nat)(z:qH n x=true):∀ ys:List D,ys.all (qH m)=true->((jP ys).any fun y=>PyData.eqv y (toPy x))=din x ys
 | [],_=>rfl
 | y::ys,h=>by
  rw [fZ,gK]at h;show(PyData.eqv (toPy y) (toPy x)||(jP ys).any fun y=>PyData.eqv y (toPy x))=(deq y x||din x ys)
  rw [uU m n y x h.1 z,Jv x n m z ys h.2]
theorem wf:∀(n:Nat) (d:D),qH n d=true->(toPy d).canLay0=true/\(toPy d).depth<=n
 | n,.non,_=>⟨rfl,tZ _⟩
 | n,.bl _,_=>⟨rfl,tZ _⟩
 | n,.int _,_=>⟨rfl,tZ _⟩
 | n,.str x,h=>⟨by cases n<;>exact h,tZ _⟩
 | 0,.tup _,h=>by simp [qH]at h
 | 0,.lst _,h=>by simp [qH]at h
 | n+1,.tup xs,h=>by
  have k:∀ ys:List D,ys.all (qH n)=true->PyData.canLayAll0 (jP ys)=true/\PyData.depthAll (jP ys)<=n:=by
   intro ys
   induction ys with
   | nil=>intro _;exact⟨rfl,tZ _⟩
   | cons y ys ih =>
    intro hy;rw [fZ,gK]at hy;obtain⟨a1,a2⟩:=wf n y hy.1;obtain⟨b1,b2⟩:=ih hy.2;refine⟨?_,?_⟩
    ·show((toPy y).canLay0&&PyData.canLayAll0 (jP ys))=true;rw [a1,b1];rfl
    ·show max (toPy y).depth (PyData.depthAll (jP ys))<=n;omega
  obtain⟨k1,k2⟩:=k xs h;exact⟨k1,Nat.succ_le_succ k2⟩
 | n+1,.lst xs,h=>by
  have k:∀ ys:List D,ys.all (qH n)=true->PyData.canLayAll0 (jP ys)=true/\PyData.depthAll (jP ys)<=n:=by
   intro ys
   induction ys with
   | nil=>intro _;exact⟨rfl,tZ _⟩
   | cons y ys ih =>
    intro hy;rw [fZ,gK]at hy;obtain⟨a1,a2⟩:=wf n y hy.1;obtain⟨b1,b2⟩:=ih hy.2;refine⟨?_,?_⟩
    ·show((toPy y).canLay0&&PyData.canLayAll0 (jP ys))=true;rw [a1,b1];rfl
    ·show max (toPy y).depth (PyData.depthAll (jP ys))<=n;omega
  obtain⟨k1,k2⟩:=k xs h;exact⟨k1,Nat.succ_le_succ k2⟩
 | n,.dK _,h=>by cases n<;>simp [qH]at h
 | n,.dT _,h=>by cases n<;>simp [qH]at h
 | n,.xc _ _,h=>by cases n<;>simp [qH]at h
section
variable{X:Cx}{pins:List (Addr×Obj)}{σ:St}{F H:Hp}{s:Shared}
mutual
theorem Jw(I:Inv X pins σ H s)(l:Le F H):∀(n:Nat) (d:D) {v:V} {u:Value},qH n d=true->Rep (kx X) F v d->RelV v u->∃ as,Reads s.heap u (toPy d) as
 | _,.non,v,u,_,r,q=>by cases (show v=.non from r);cases (show u=Value.none from q);exact⟨_,.none⟩
 | _,.bl b,v,u,_,r,q=>by cases (show v=.bl b from r);cases (show u=Value.bool b from q);exact⟨_,.bool b⟩
 | _,.int i,v,u,_,r,q=>by cases (show v=.int i from r);obtain⟨t,rfl⟩:=(show ∃ t,u=Value.int i t from q);exact⟨_,.int i t⟩
 | _,.str x,v,u,_,r,q=>by cases (show v=.str x from r);obtain⟨t,rfl⟩:=(show ∃ t,u=Value.str x t from q);exact⟨_,.str x t⟩
 | 0,.tup _,_,_,h,_,_=>by simp [qH]at h
 | 0,.lst _,_,_,h,_,_=>by simp [qH]at h
 | n+1,.tup ds,v,u,h,r,q=>by
  obtain⟨a,vs,rfl,hq,rs⟩:=r;cases (show u=Value.ref a from q)
  obtain⟨its,rv,⟨o,e1,e2,m,e3⟩,hz⟩:=I.tuple (SqT.le l hq);obtain⟨as,hr⟩:=uV I l n ds h rs rv;exact⟨_,.tuple e1 e2 e3 (by simpa using hr)⟩
 | n+1,.lst ds,v,u,h,r,q=>by
  obtain⟨a,vs,rfl,hq,rs⟩:=r;cases (show u=Value.ref a from q)
  obtain⟨its,rv,⟨o,m,e1,e2,_,e3⟩,hz⟩:=I.list (SqL.le l hq);obtain⟨as,hr⟩:=uV I l n ds h rs rv;exact⟨_,.list e1 e2 e3 (by simpa using hr)⟩
 | n,.dK _,_,_,h,_,_=>by cases n<;>simp [qH]at h
 | n,.dT _,_,_,h,_,_=>by cases n<;>simp [qH]at h
 | n,.xc _ _,_,_,h,_,_=>by cases n<;>simp [qH]at h
theorem uV(I:Inv X pins σ H s)(l:Le F H):∀(n:Nat) (ds:List D) {vs:List V} {us:List Value},ds.all (qH n)=true->Reps (kx X) F vs ds->Vals vs us->∃ as,ReadsAll s.heap us (jP ds) as
 | n,[],vs,us,_,r,q=>by
  cases (show vs=[]from r)
  cases q;exact⟨_,.nil⟩
 | n,d::ds,vs,us,h,r,q=>by
  obtain⟨v,r',rfl,r1,r2⟩:=r;rw [fZ,gK]at h;cases q with
  | cons q1 q2 =>
   obtain⟨as,h1⟩:=Jw I l n d h.1 r1 q1;obtain⟨bs,h2⟩:=uV I l n ds h.2 r2 q2;exact⟨_,.cons h1 h2⟩
end
theorem wV(I:Inv X pins σ H s)(l:Le F H){n:Nat}{d:D}{v:V}{u:Value}(h:qH n d=true)(r:RdV (kx X) F H v d)(q:RelV v u):∃ as,Reads s.heap u (toPy d) as:=by
 rcases r with r|⟨a,o,rfl,e2,r⟩
 ·exact Jw I l n d h r q
 ·cases d with
  | lst ds =>
   cases n with
   | zero=>simp [qH]at h
   | succ n =>
    cases o with
    | lst vs =>
     cases (show u=Value.ref a from q)
     obtain⟨its,rv,⟨o,m,e1,e2,_,e3⟩,hz⟩:=I.list (SqL.of e2);obtain⟨as,hr⟩:=uV I l n ds h r rv;exact⟨_,.list e1 e2 e3 (by simpa using hr)⟩
    | _=>exact r.elim
  | _=>exact Jw I l n _ h (RdV.flat (.inr ⟨a,o,rfl,e2,r⟩:RdV (kx X) F H _ _) (fun _ e=>nomatch e) (fun _ e=>by cases e<;>(cases n<;>simp [qH]at h)) (fun _ e=>by cases e<;>(cases n<;>simp [qH]at h))) q
end
section
variable{X:Cx}{F0 H0:Hp}
theorem jT(z:X.A.units+10<cLine):OpD X (compareOp .Eq) dEq:=by
 intro pins s σ F H x y v u dx dy Q I l rx ry qx qy w;unfold dEq at w;by_cases c:(eqok dx&&eqok dy)=true
 ·rw [gB c]at w;rw [gK]at c;obtain⟨as,h1⟩:=wV I l c.1 qx rx;obtain⟨bs,h2⟩:=wV I l c.2 qy ry;obtain⟨a1,a2⟩:=wf 8 dx c.1;obtain⟨b1,b2⟩:=wf 8 dy c.2;refine SeqAt.compareEq_reads h1 h2 a1 b1 (by omega) ?_
  rw [uU 8 8 dx dy c.1 c.2];exact⟨.bl _,H,I,rfl,qZ (X:=X) l (v:=.bl _) w rfl⟩
 ·rw [gD c]at w;exact w.elim
theorem uW(z:X.A.units+10<cLine):OpD X (compareOp .NotEq) dNe:=by
 intro pins s σ F H x y v u dx dy Q I l rx ry qx qy w;unfold dNe at w;by_cases c:(eqok dx&&eqok dy)=true
 ·rw [gB c]at w;rw [gK]at c;obtain⟨as,h1⟩:=wV I l c.1 qx rx;obtain⟨bs,h2⟩:=wV I l c.2 qy ry;obtain⟨a1,a2⟩:=wf 8 dx c.1;obtain⟨b1,b2⟩:=wf 8 dy c.2;refine SeqAt.compareNe_reads h1 h2 a1 b1 (by omega) ?_
  rw [uU 8 8 dx dy c.1 c.2];exact⟨.bl _,H,I,rfl,qZ (X:=X) l (v:=.bl _) w rfl⟩
 ·rw [gD c]at w;exact w.elim
theorem RepK.look{κ:Kx}{F:Hp}:∀{kds:List (Sum Int Str×D)} {kvs:List (Key×V)} (k:Key),RepK κ F kvs kds->(∃ v d,qY kvs k=some v/\look k kds=some d/\Rep κ F v d)∨(qY kvs k=none/\look k kds=none)
 | [],_,k,h=>by cases (show _=_ from h);exact .inr ⟨rfl,rfl⟩
 | (q,d)::r,_,k,h=>by
  obtain⟨v,kr,rfl,h1,h2⟩:=h;by_cases e:q=k
  ·refine .inl ⟨v,d,?_,?_,h1⟩
   ·simp [qY,e]
   ·simp [L3.look,e]
  ·rcases RepK.look k h2 with⟨v',d',a,b,c⟩|⟨a,b⟩
   ·refine .inl ⟨v',d',?_,?_,c⟩
    ·simpa [qY,e]using a
    ·simpa [L3.look,e]using b
   ·refine .inr ⟨?_,?_⟩
    ·simpa [qY,e]using a
    ·simpa [L3.look,e]using b
theorem RepK.length{κ:Kx}{F:Hp}:∀{kds:List (Sum Int Str×D)} {kvs:List (Key×V)},RepK κ F kvs kds->kvs.length=kds.length
 | [],_,h=>by cases (show _=_ from h);rfl
 | (q,d)::r,_,h=>by
  obtain⟨v,kr,rfl,h1,h2⟩:=h;simp [RepK.length h2]
theorem Inv.dictK{pins:List (Addr×Obj)}{σ:St}{H:Hp}{s:Shared}{a:Addr}{kvs:List (Key×V)}(I:Inv X pins σ H s)(h:SqK (kx X) H a kvs) :
  (a==sysModules)=false/\∃ vs,KV kvs vs/\s.heap.DictOf (qW X.prog X.w) a vs:=by
 rcases h with h|⟨hs,o,es,ep,vs,hk,h1,h2,h3,h4,h5,h6⟩
 ·obtain⟨_,hd,vs,z,dd⟩:=uP I.hok h;exact⟨hd,vs,z,dd⟩
 ·exact⟨hs,vs,h6,o,es,ep,I.kIn a o hk,h1,h2,h3,h4,h5⟩
theorem Jx{κ:Kx}{F H:Hp}{v:V}{u:Value}{d:D}{k:Key}(e:zN d=some k)(r:RdV κ F H v d)(q:RelV v u):RelV (kV k) u:=by
 cases d with
 | int i=>cases e;cases RdV.int r;exact q
 | str x=>cases e;cases RdV.str r;exact q
 | _=>cases e
def IxD(X:Cx)(g:D->D->R En):Prop :=
 ∀(value z:Expr) (pins:List (Addr×Obj)) (s:Shared) (σ:St) (F H:Hp) (x y:V) (v u:Value) (dx dy:D) (Q:VK),Inv X pins σ H s->Le F H->RelV x v->RelV y u->RdV (kx X) F H x dx->RdV (kx X) F H y dy->Wish X F H (g dx dy) Q ->
  subscripted z false v u=operate [v,u] (getItem v u)->wpAny (model X.prog X.w) X.A (subscriptTail value z v u) (EP X pins σ Q) X.xe s
variable{a b:Expr}{fa fb:EF}{pos:Pos}{g:D->D->R En}
theorem uX(z:IxD X g)(B:SE X F0 H0 a fa)(O:SE X F0 H0 b fb)(U:yn b:=by exact fun _ _=>rfl):SE X F0 H0 (.Subscript a b pos) (eOp g fa fb) :=
 fun pins s σ F H ρ Q S I h=>Subscript_ (two (f:=fun v u=>subscriptTail a b v u) B O S I h fun s F H x y v u dx dy Q I l rx ry qx qy w=>z a b pins s σ F H x y v u dx dy Q I l rx ry qx qy w (U _ _))
theorem Kb{α β:Type}{xs:List α}{ys:List β}(h:xs.length=ys.length){i:Int}{x:α}(e:ati xs i=some x):∃ j:Nat,xs[j]?=some x/\∀ y,ys[j]?=some y->atI ys i=some y:=by
 unfold ati at e;cases q:ixn xs.length i with
 | none=>rw [q]at e;cases e
 | some j =>
  rw [q]at e;refine⟨j,e,fun y hy=>?_⟩
  unfold atI;have:ixN ys.length i=some j:=by rw [<- h];exact q
  rw [this];exact hy
def qe:D->D->R En
 | .lst xs,.int i=>okD (ati xs i)
 | .tup xs,.int i=>okD (ati xs i)
 | _,_=>.stuck
theorem Kc:IxD X qe:=by
 intro value B pins s σ F H x y v u dx dy Q I l rx ry qx qy w hs;cases dx<;>first|exact w.elim|skip
 ·rename_i ds;cases dy<;>first|exact w.elim|skip
  rename_i i;unfold qe at w;dsimp only at w;cases e:ati ds i with
  | none=>rw [e]at w;exact w.elim
  | some d =>
   rw [e]at w;obtain⟨p,vs,rfl,hq,_,rs⟩:=RdV.tup l qx;obtain⟨j,ej,k⟩:=Kb (Reps.length rs).symm e;obtain⟨z,ez,rz⟩:=Reps.get rs ej;exact Tp value B pins s σ H _ _ v u Q I rx ry ⟨p,vs,i,z,rfl,RdV.int qy,hq,k z ez,qZ (X:=X) l w rz⟩ hs
 ·rename_i ds;cases dy<;>first|exact w.elim|skip
  rename_i i;unfold qe at w;dsimp only at w;cases e:ati ds i with
  | none=>rw [e]at w;exact w.elim
  | some d =>
   rw [e]at w;obtain⟨p,vs,rfl,hq,rs⟩:=RdV.lst l qx;obtain⟨j,ej,k⟩:=Kb (Reps.length rs).symm e;obtain⟨z,ez,rz⟩:=Reps.get rs ej;exact ix_list value B pins s σ H _ _ v u Q I rx ry ⟨p,vs,i,z,rfl,RdV.int qy,hq,k z ez,qZ (X:=X) l w rz⟩ hs
theorem ql(z:SE X F0 H0 a fa)(B:SE X F0 H0 b fb)(O:yn b:=by exact fun _ _=>rfl):SE X F0 H0 (.Subscript a b pos) (eOp qe fa fb):=uX Kc z B O
def uY:D->D->R En
 | .dK kvs,k=>(match zN k with|some q=>okD (look q kvs)|none=>.stuck)
 | _,_=>.stuck
theorem qab:IxD X uY:=by
 intro value B pins s σ F H x y v u dx dy Q I l rx ry qx qy w hs;cases dx<;>first|exact w.elim|skip
 rename_i W;unfold uY at w;dsimp only at w;cases e:zN dy with
 | none=>rw [e]at w;exact w.elim
 | some k =>
  rw [e]at w;dsimp only at w;obtain⟨p,kvs,rfl,hq,rk⟩:=RdV.dK l qx;cases (show v=Value.ref p from rx)
  obtain⟨hd,vs,O,dd⟩:=Inv.dictK I hq;rcases RepK.look k rk with⟨z,d,a1,a2,rz⟩|⟨_,a2⟩
  ·rw [a2]at w;obtain⟨w',hw,U⟩:=RelO.some_of (v:=z) (o:=valueAt vs k) (by rw [<- a1];exact O.val k)
   exact tail_any dd.typeIs PySem.F.slot_dict_getitem.lookup (wpAny_getItem_of (kj (Jx e qy ry)) dd.mapOf hw ⟨z,H,I.tok _,U,qZ (X:=X) l w rz⟩) hs
  ·rw [a2]at w;exact w.elim
theorem qac(z:SE X F0 H0 a fa)(B:SE X F0 H0 b fb)(O:yn b:=by exact fun _ _=>rfl):SE X F0 H0 (.Subscript a b pos) (eOp uY fa fb):=uX qab z B O
theorem qg:SA X F0 H0 [] []:=fun pos pins s σ F H ρ Q S I h=>t7 (h [] [] F H s (Gr.refl S.s) rfl .nil I)
theorem qb{e:Expr}{es:List Expr}{f:EF}{r:List EF}(z:SE X F0 H0 e f)(B:SA X F0 H0 es r)(O:starEach (e::es) X.env=(false,eval e X.env)::starEach es X.env:=by rfl):SA X F0 H0 (e::es) (f::r):=by
 intro pos pins s σ F H ρ Q S I h;rw [O];refine gJ (z pins s σ F H ρ _ S I ((KE.bind h).imp fun w h1 v u F1 H1 s1 g1 q1 r1 I1=>?_))
 refine B pos pins s1 σ F1 H1 ρ _ (S.grow g1) I1 ((KE.bind h1).imp fun ws h2 vs us F2 H2 s2 g2 q2 r2 I2=>?_)
 exact h2 (v::vs) (u::us) F2 H2 s2 (g1.trans g2) ⟨v,vs,rfl,Vok.gr g2 q1,Voks.older (fun a e=>Le.none g1.h e) q2⟩ (.cons r1 r2) I2
theorem jB:sz=sizeLine:=fm.symm
theorem qad{F H F1 H1:Hp}{p:Addr}{vs:List V}{ds:List D}(s:Le F H)(g:Gr F H F1 H1)(hp:H1 p=none)(r:Reps (kx X) (qL H F1 H1) vs ds) :
  Gr F H (qL H F1 H1) (upd H1 p (.lst vs))/\Vok (kx X) H (qL H F1 H1) (upd H1 p (.lst vs)) (.ref p) (.ow (.lst ds)):=by
 obtain⟨g2,_⟩:=zC s g;have g3:=g2.trans (Gr.new (o:=.lst vs) g2.s hp);exact⟨g3,p,_,rfl,Le.none g.h hp,Le.none g2.s hp,qN,r⟩
theorem qae{F H F1 H1:Hp}{p:Addr}{vs:List V}{ds:List D}(s:Le F H)(g:Gr F H F1 H1)(hp:H1 p=none)(r:Reps (kx X) (qL H F1 H1) vs ds) :
  Gr F H (upd (qL H F1 H1) p (.tup vs)) (upd H1 p (.tup vs))/\Vok (kx X) H (upd (qL H F1 H1) p (.tup vs)) (upd H1 p (.tup vs)) (.ref p) (.fz (.tup ds)):=by
 obtain⟨g2,_⟩:=zC s g;have g3:=Gr.newF (o:=.tup vs) g2.s hp;exact⟨g2.trans g3,p,vs,rfl,SqT.of qN,Reps.le g3.f _ r⟩
theorem jm{es:List Expr}{f:List EF}(h:SA X F0 H0 es f):SE X F0 H0 (.List es pos) (qK f):=by
 intro pins s σ F H ρ Q S I k;refine wpAny_List_spliced (h pos pins s σ F H ρ _ S I ((KE.bind k).imp fun ws k1 vs us F1 H1 s1 g1 q1 r1 I1=>?_))
 cases e:stAll ws with
 | exc x=>rw [e]at k1;exact k1.elim
 | stuck=>rw [e]at k1;exact k1.elim
 | ok ds =>
  rw [e]at k1;have rs:=Voks.stAll S.s g1 q1 e;by_cases c:ds.length<=sz
  ·have k2:KE (XP X F0 H0) (R.ok (En.ow (.lst ds))) fun w=>∀ v u F' H' s',Gr F H F' H'->Vok (kx X) H F' H' v w->RelV v u->Inv X pins σ H' s'->Q u s':=by
    simpa [R.bind,gB c]using k1
   have hz:vs.length<=sizeLine:=by rw [Reps.length rs,<- jB];exact c
   refine⟨by rw [<- r1.length];exact hz,?_⟩
   have hf:H1 s1.heap.objs.size=none:=I1.hok.fresh (gw _);obtain⟨g3,q3⟩:=qad (X:=X) S.s g1 hf rs;exact k2 _ _ _ _ _ g3 q3 rfl (I1.laid (t':=s1.toks) (fun b u e=>gg _ e) (gw _) ⟨hz,us,0,r1,gH _ rfl⟩)
  ·have:False:=by simpa [R.bind,gD c,KE]using k1
   exact this.elim
theorem zO{es:List Expr}{f:List EF}{z:Nat}(h:SA X F0 H0 es f):SE X F0 H0 (.Tuple es z pos) (js f):=by
 intro pins s σ F H ρ Q S I k;refine cz (h pos pins s σ F H ρ _ S I ((KE.bind k).imp fun ws k1 vs us F1 H1 s1 g1 q1 r1 I1=>?_))
 cases e:stAll ws with
 | exc x=>rw [e]at k1;exact k1.elim
 | stuck=>rw [e]at k1;exact k1.elim
 | ok ds =>
  rw [e]at k1;have rs:=Voks.stAll S.s g1 q1 e;by_cases c:ds.length<=sz
  ·have k2:KE (XP X F0 H0) (R.ok (En.fz (.tup ds))) fun w=>∀ v u F' H' s',Gr F H F' H'->Vok (kx X) H F' H' v w->RelV v u->Inv X pins σ H' s'->Q u s':=by
    simpa [R.bind,gB c]using k1
   have hz:vs.length<=sizeLine:=by rw [Reps.length rs,<- jB];exact c
   refine⟨by rw [<- r1.length];exact hz,?_⟩
   have hf:H1 s1.heap.objs.size=none:=I1.hok.fresh (gw _);obtain⟨g3,q3⟩:=qae (X:=X) S.s g1 hf rs;exact k2 _ _ _ _ _ g3 q3 rfl (I1.laid (t':=s1.toks) (fun b u e=>gg _ e) (gw _) ⟨hz,us,r1,⟨_,gH _ rfl,rfl,_,rfl⟩⟩)
  ·have:False:=by simpa [R.bind,gD c,KE]using k1
   exact this.elim
variable{x:Str}{e:Expr}{es:List Expr}{p:Pos}{id T:String}{gc:List D->R En}{f:List EF}
theorem ju(O:zD X (.builtin id) gc)(U:X.mg x=none)(W:bootBuiltins x=some (.builtin id))(Y:SA X F0 H0 (e::es) f)(Z:Gl X x:=by rfl)(hn:x≠"__name__":=by decide)(z:(x==("__debug__":Str))=false:=by decide)
  (he:starEach (e::es) X.env=(false,eval e X.env)::starEach es X.env:=by rfl)(B:(backTo pos (starEach es X.env)).any (·.1)=false:=by rfl):SE X F0 H0 (.Call (.Name x p) (e::es) [] pos) (eB gc f):=by
 intro pins s σ F H ρ Q S I h;refine hV (zi I Z U W ?_ hn z);refine f9 (Y pos pins s σ F H ρ _ S I ((KE.bind h).imp fun ws h1 vs us F1 H1 s1 g1 q1 r1 I1=>?_)) he B
 exact ve (O pins s1 σ F1 H1 vs us _ _ I1 g1.s r1 (Voks.rd q1) (yq g1 h1))
theorem wg(O:zD X (.type T) gc)(U:X.mg x=none)(W:bootBuiltins x=some (.type T))(Y:SA X F0 H0 (e::es) f)(Z:Gl X x:=by rfl)(hn:x≠"__name__":=by decide)(z:(x==("__debug__":Str))=false:=by decide)
  (he:starEach (e::es) X.env=(false,eval e X.env)::starEach es X.env:=by rfl)(B:(backTo pos (starEach es X.env)).any (·.1)=false:=by rfl):SE X F0 H0 (.Call (.Name x p) (e::es) [] pos) (eB gc f):=by
 intro pins s σ F H ρ Q S I h;refine hV (zi I Z U W ?_ hn z);refine tt (Y pos pins s σ F H ρ _ S I ((KE.bind h).imp fun ws h1 vs us F1 H1 s1 g1 q1 r1 I1=>?_)) he B
 exact ve (O pins s1 σ F1 H1 vs us _ _ I1 g1.s r1 (Voks.rd q1) (yq g1 h1))
theorem ko{z:Value}{r:List V->Hp->VK->Prop}(B:wP X z r)(h:∀ F H xs ds Q,Le F H->Paired (RdV (kx X) F H) xs ds->Wish X F H (gc ds) Q->r xs H Q):zD X z gc :=
 fun pins s σ F H xs us ds Q I l rx qx w=>B pins s σ H xs us Q I rx (h F H xs ds Q l qx w)
def qaf:List D->R En
 | [.lst xs]=>okI xs.length
 | [.tup xs]=>okI xs.length
 | _=>.stuck
theorem Ke:zD X (.builtin "len") qaf:=ko Tv fun F H xs ds Q l qx w=>by
 cases qx with
 | nil=>exact w.elim
 | @cons x d xs ds q1 q2 =>
  cases q2 with
  | cons _ _=>cases d<;>exact w.elim
  | nil =>
   cases d<;>first|exact w.elim|skip
   ·obtain⟨p,vs,rfl,hq,_,rs⟩:=RdV.tup l q1;refine⟨p,vs,rfl,.inr hq,?_⟩;rw [Reps.length rs];exact qZ (X:=X) l (v:=.int _) w rfl
   ·obtain⟨p,vs,rfl,hq,rs⟩:=RdV.lst l q1;refine⟨p,vs,rfl,.inl hq,?_⟩;rw [Reps.length rs];exact qZ (X:=X) l (v:=.int _) w rfl
theorem xL:zD X (.type "list") yo:=ko Tw fun F H xs ds Q l qx w=>by
 cases qx with
 | nil=>exact w.elim
 | @cons x d xs ds q1 q2 =>
  cases q2 with
  | cons _ _=>cases d<;>exact w.elim
  | nil =>
   cases d<;>first|exact w.elim|skip
   ·obtain⟨p,vs,rfl,hq,_,rs⟩:=RdV.tup l q1;refine⟨p,vs,rfl,.inr hq,fun q hn=>?_⟩
    exact w _ _ _ (Gr.new l hn) ⟨q,_,rfl,hn,Le.none l hn,qN,rs⟩
   ·obtain⟨p,vs,rfl,hq,rs⟩:=RdV.lst l q1;refine⟨p,vs,rfl,.inl hq,fun q hn=>?_⟩
    exact w _ _ _ (Gr.new l hn) ⟨q,_,rfl,hn,Le.none l hn,qN,rs⟩
end
open PySem PySem.Spec PyProof.Rows L2
section
variable{X:Cx}{F0 H0:Hp}{a b e:Expr}{fa fb f:EF}{pos:Pos}{g:D->D->R En}{t u:TF}
theorem Kf{pins:List (Addr×Obj)}{s:Shared}{σ:St}{F H:Hp}{x:V}{v:Value}{d:D}{Q:Bool->Shared->Prop}(I:Inv X pins σ H s)(l:Le F H)(z:RelV x v)(q:RdV (kx X) F H x d)
  (h:KE (XP X F0 H0) (kn d) fun b=>∀ s',Inv X pins σ H s'->Q b s'):wpAny (model X.prog X.w) X.A (truthy v) Q X.xe s:=by
 have go:∀ b,TruV X.K x H b->(∀ s',Inv X pins σ H s'->Q b s')->wpAny (model X.prog X.w) X.A (truthy v) Q X.xe s:=fun b tv k =>
  thn (GS pins s σ H x v (fun b' H'=>b'=b/\H'=H) I z ⟨b,tv,rfl,rfl⟩) fun b' s' ⟨H',I',eb,eh⟩=>by
   subst eb eh;exact k s' I'
 cases d with
 | non=>cases RdV.non q;exact go false rfl h
 | bl b=>cases RdV.bl q;exact go b rfl h
 | int i=>cases RdV.int q;exact go (i != 0) rfl h
 | str y =>
  cases RdV.str q;unfold kn at h;dsimp only at h;by_cases c:y.length<=sz
  ·rw [gB c]at h;exact go _ ⟨by rw [<- jB];exact c,rfl⟩ h
  ·rw [gD c]at h;exact h.elim
 | tup ds =>
  obtain⟨p,vs,rfl,hq,_,rs⟩:=RdV.tup l q;refine go (!ds.isEmpty) (.inr (.inl ⟨vs,hq,?_⟩)) h;have:=Reps.length rs;cases vs<;>cases ds<;>simp_all
 | lst ds =>
  obtain⟨p,vs,rfl,hq,rs⟩:=RdV.lst l q;refine go (!ds.isEmpty) (.inl ⟨vs,hq,?_⟩) h;have:=Reps.length rs;cases vs<;>cases ds<;>simp_all
 | dK _=>exact h.elim
 | dT _=>exact h.elim
 | xc _ _=>exact h.elim
theorem j7{op:CmpOp}(z:OpD X (compareOp op) g)(B:SE X F0 H0 a fa)(O:SE X F0 H0 b fb)(U:behindInMarks op b=false:=by first|exact YI _ (by decide) (by decide)|rfl) :
  ST X F0 H0 (.Compare a [op] [b] pos) (tE (eOp g fa fb)):=by
 intro pins s σ F H ρ Q S I h;refine wpAny_isTrue_Compare1 (two (Q:=fun v s'=>wpAny (model X.prog X.w) X.A (truthy v) Q X.xe s') B O S I ((KE.bind h).imp fun w h1 v u F' H' s' g' q r I'=>?_) fun s F H x y v u dx dy Q=>z pins s σ F H x y v u dx dy Q) U
 exact Kf I' g'.s r (Vok.rd q) (h1.imp fun b k s2 I2=>k F' H' s2 g' I2)
theorem qX(B:SE X F0 H0 e f)(hp:∀ z,isTrue e X.env z=(do let v <- z;standAt e.pos;holding [v] (truthy v)):=by intro _;rfl):ST X F0 H0 e (tE f):=by
 intro pins s σ F H ρ Q S I h;refine isTrue_plain (B pins s σ F H ρ _ S I ((KE.bind h).imp fun w h1 v u F' H' s' g' q r I'=>?_)) (hp _)
 exact Kf I' g'.s r (Vok.rd q) (h1.imp fun b k s2 I2=>k F' H' s2 g' I2)
theorem zV(z:ST X F0 H0 a t):ST X F0 H0 (.UnaryOp .Not a pos) (tNot t):=by
 intro pins s σ F H ρ Q S I h;exact isTrue_not (z pins s σ F H ρ _ S I ((KE.bind h).imp fun b k F' H' s' g' I'=>k F' H' s' g' I'))
variable{rest:List Expr}
theorem kq(z:ST X F0 H0 a t):SW X F0 H0 (.BoolOp .And [a] pos) t:=by
 intro wh pins s σ F H ρ Q S I h;refine isTrue_and (z pins s σ F H ρ _ S I (h.imp fun c k F' H' s' g' I'=>?_))
 cases c with
 | true=>exact isTrue_and_nil (k F' H' s' g' I')
 | false=>exact k F' H' s' g' I'
theorem kt(z:ST X F0 H0 a t):SW X F0 H0 (.BoolOp .Or [a] pos) t:=by
 intro wh pins s σ F H ρ Q S I h;refine isTrue_or (z pins s σ F H ρ _ S I (h.imp fun c k F' H' s' g' I'=>?_))
 cases c with
 | false=>exact isTrue_or_nil (k F' H' s' g' I')
 | true=>exact k F' H' s' g' I'
theorem Kg{F H F' H':Hp}{pins:List (Addr×Obj)}{σ:St}{Q:Bool->Shared->Prop}(g':Gr F H F' H'){r:R Bool}(h:KE (XP X F0 H0) r fun b=>∀ F2 H2 s2,Gr F H F2 H2->Inv X pins σ H2 s2->Q b s2) :
  KE (XP X F0 H0) r fun b=>∀ F2 H2 s2,Gr F' H' F2 H2->Inv X pins σ H2 s2->Q b s2:=h.imp fun b k F2 H2 s2 g2 I2=>k F2 H2 s2 (g'.trans g2) I2
theorem wW(z:ST X F0 H0 a t)(B:SW X F0 H0 (.BoolOp .And (b::rest) pos) u):SW X F0 H0 (.BoolOp .And (a::b::rest) pos) (tAnd t u):=by
 intro wh pins s σ F H ρ Q S I h;refine isTrue_and (z pins s σ F H ρ _ S I ((KE.bind h).imp fun c k F' H' s' g' I'=>?_))
 cases c with
 | true=>exact B wh pins s' σ F' H' ρ Q (S.grow g') I' (Kg g' k)
 | false=>exact k F' H' s' g' I'
theorem wX(z:ST X F0 H0 a t)(B:SW X F0 H0 (.BoolOp .Or (b::rest) pos) u):SW X F0 H0 (.BoolOp .Or (a::b::rest) pos) (tOr t u):=by
 intro wh pins s σ F H ρ Q S I h;refine isTrue_or (z pins s σ F H ρ _ S I ((KE.bind h).imp fun c k F' H' s' g' I'=>?_))
 cases c with
 | false=>exact B wh pins s' σ F' H' ρ Q (S.grow g') I' (Kg g' k)
 | true=>exact k F' H' s' g' I'
theorem st_w(h:SW X F0 H0 e t):ST X F0 H0 e t:=h _
theorem Jy{F H F' H':Hp}{pins:List (Addr×Obj)}{σ:St}{Q:Value->Shared->Prop}(g':Gr F H F' H'){r:R En}
  (h:KE (XP X F0 H0) r fun w=>∀ v u F2 H2 s2,Gr F H F2 H2->Vok (kx X) H F2 H2 v w->RelV v u->Inv X pins σ H2 s2->Q u s2) :
  KE (XP X F0 H0) r fun w=>∀ v u F2 H2 s2,Gr F' H' F2 H2->Vok (kx X) H' F2 H2 v w->RelV v u->Inv X pins σ H2 s2->Q u s2 :=
 h.imp fun w k v u F2 H2 s2 g2 q r I2=>k v u F2 H2 s2 (g'.trans g2) (Vok.older (fun a e=>Le.none g'.h e) q) r I2
theorem Jz{F H:Hp}{x:V}{v:Value}{d:D}{P:Bool->Prop}(q:RdV (kx X) F H x d)(r:RelV x v)(h:KE (XP X F0 H0) (isB d) P):∃ b,v=.bool b/\P b:=by
 cases d<;>first|exact h.elim|skip
 cases RdV.bl q;cases r;exact⟨_,rfl,h⟩
theorem xM{op}(h:SE X F0 H0 a fa):SE X F0 H0 (.BoolOp op [a] pos) fa:=fun pins s σ F H ρ Q S I k=>BoolOp_one (h pins s σ F H ρ Q S I k)
theorem ku(z:SE X F0 H0 a fa)(B:SE X F0 H0 (.BoolOp .And (b::rest) pos) fb):SE X F0 H0 (.BoolOp .And (a::b::rest) pos) (wR fa fb):=by
 intro pins s σ F H ρ Q S I h;refine BoolOp_and (z pins s σ F H ρ _ S I ((KE.bind h).imp fun w h1 v u F' H' s' g' q r I'=>?_))
 obtain⟨c,rfl,h2⟩:=Jz (Vok.rd q) r (KE.bind h1);refine px ?_;cases c with
 | true=>exact B pins s' σ F' H' ρ Q (S.grow g') I' (Jy g' h2)
 | false=>exact h2 (.bl false) _ F' H' s' g' rfl rfl I'
theorem qag(z:SE X F0 H0 a fa):SE X F0 H0 (.UnaryOp .Not a pos) (K8 fa):=by
 intro pins s σ F H ρ Q S I h;refine UnaryOp_ (z pins s σ F H ρ _ S I ((KE.bind h).imp fun w h1 v u F' H' s' g' q r I'=>?_))
 obtain⟨c,rfl,h2⟩:=Jz (Vok.rd q) r (KE.bind h1);exact not_of (px (h2 (.bl (!c)) _ F' H' s' g' rfl rfl I'))
theorem Kh{c:Expr}(z:ST X F0 H0 c t)(B:SE X F0 H0 a fa)(O:SE X F0 H0 b fb):SE X F0 H0 (.IfExp c a b pos) (eIf t fa fb):=by
 intro pins s σ F H ρ Q S I h;refine wpAny_IfExp (z pins s σ F H ρ _ S I ((KE.bind h).imp fun d k F' H' s' g' I'=>?_))
 cases d with
 | true=>exact B pins s' σ F' H' ρ Q (S.grow g') I' (Jy g' k)
 | false=>exact O pins s' σ F' H' ρ Q (S.grow g') I' (Jy g' k)
end
section
variable{X:Cx}{F0 H0:Hp}{e:Expr}{f:EF}{pos pos':Pos}{st:Stmt}{rest:List Stmt}{p q:SF}{t:TF}
theorem qI:SSs X F0 H0 [] qr:=fun pins s σ F H ρ D S I h=>fT ⟨σ,H,I,h σ F H Le.refl S⟩
theorem qh(h1:SS X F0 H0 st p)(h2:SSs X F0 H0 rest q):SSs X F0 H0 (st::rest) (qf p q):=by
 intro pins s σ F H ρ D S I h;have go:∀ D':Ends,D'.rt=D.rt->D'.bk=D.bk->D'.ct=D.ct->PostS X F0 H0 F D' (p ρ)->(∀ B H' s',D'.nx B H'->Inv X pins B H' s'->wpAny (model X.prog X.w) X.A (execs rest X.env) (SP X pins D) X.xe s') ->
   wpAny (model X.prog X.w) X.A (execs (st::rest) X.env) (SP X pins D) X.xe s:=fun D' er eb ec hp hn=>by
  refine cx (thn (h1 pins s σ F H ρ D' S I hp) fun fl s1 r=>?_)
  cases fl with
  | next=>obtain⟨B,H',I',r⟩:=r;exact hn B H' s1 r I'
  | ret v=>obtain⟨x,B,H',I',rv,r⟩:=r;exact⟨x,B,H',I',rv,by rw [<- er];exact r⟩
  | brk=>obtain⟨B,H',I',r⟩:=r;exact⟨B,H',I',by rw [<- eb];exact r⟩
  | cont=>obtain⟨B,H',I',r⟩:=r;exact⟨B,H',I',by rw [<- ec];exact r⟩
 unfold qf at h;cases ep:p ρ with
 | nx ρ' =>
  rw [ep]at h;refine go {D with nx:=fun B H'=>∃ F',Le F F'/\StOk (kx X) F0 H0 F' H' ρ' B} rfl rfl rfl (by rw [ep];exact fun B F' H' l S'=>⟨F',l,S'⟩) fun B H' s' ⟨F',l,S'⟩ I'=>?_
  exact h2 pins s' B F' H' ρ' D S' I' (PostS.le l h)
 | rt w=>rw [ep]at h;exact go {D with nx:=fun _ _=>False} rfl rfl rfl (by rw [ep];exact h) fun _ _ _ z=>z.elim
 | bk ρ'=>rw [ep]at h;exact go {D with nx:=fun _ _=>False} rfl rfl rfl (by rw [ep];exact h) fun _ _ _ z=>z.elim
 | ct ρ'=>rw [ep]at h;exact go {D with nx:=fun _ _=>False} rfl rfl rfl (by rw [ep];exact h) fun _ _ _ z=>z.elim
 | exc x=>rw [ep]at h;exact go {D with nx:=fun _ _=>False} rfl rfl rfl (by rw [ep];exact h) fun _ _ _ z=>z.elim
 | stuck=>rw [ep]at h;exact h.elim
theorem qk(h1:SS X F0 H0 st p):SSs X F0 H0 [st] p:=by
 intro pins s σ F H ρ D S I h;refine cx (thn (h1 pins s σ F H ρ D S I h) fun fl s1 r=>?_)
 cases fl with
 | next=>exact fT r
 | ret v=>exact r
 | brk=>exact r
 | cont=>exact r
theorem qah:SS X F0 H0 (.Break pos) Jq:=fun pins s σ F H ρ D S I h=>wpAny_Break ⟨σ,H,I,h σ F H Le.refl S⟩
theorem uZ{w:En}{P:En->Prop}(h:KE (XP X F0 H0) w.nm P):∃ w',w.nm=.ok w'/\P w'/\w'=w:=by
 cases w with
 | fz d=>exact⟨_,rfl,h,rfl⟩
 | ow d=>exact⟨_,rfl,h,rfl⟩
 | br d=>exact h.elim
 | lk d=>exact h.elim
 | od d=>exact h.elim
theorem qm(i:Nat){x:Str}(z:X.N.Nodup)(B:SE X F0 H0 e f)(hi:X.N[i]?=some x:=by rfl)(O:Loc X.env.scope x:=by trivial)
  (U:swapsWith e (some (.Name x pos')) pos.line X.env=pure false:=by rfl)(W:X.fn x=true∨X.env.scope.names.lookup x=some .local:=by trivial) :
  SS X F0 H0 (.Assign [.Name x pos'] e pos) (qi i f):=by
 intro pins s σ F H ρ D S I h;refine cT (B pins s σ F H ρ _ S I ((KE.bind (PostS.of h)).imp fun w k v u F' H' s' g q r I'=>?_)) U
 obtain⟨w',e1,k2,rfl⟩:=uZ k;exact ym I' z hi O r (fun s2 I2=>⟨_,H',I2,k2 _ F' H' g.f (S.setW g q e1)⟩) W
theorem qz(z:SE X F0 H0 e f):SS X F0 H0 (.Return (some e) pos) (qu f):=by
 intro pins s σ F H ρ D S I h;refine cR (z pins s σ F H ρ _ S I ((KE.bind (PostS.of h)).imp fun w k v u F' H' s' g q r I'=>?_))
 obtain⟨w',e1,k2,rfl⟩:=uZ k;exact⟨v,σ,H',I',r,k2 v F' H' (S.gr.trans g) (Vok.older (fun a e=>Le.none S.gr.h e) q)⟩
theorem zj(i:Nat){x:Str}{pos':Pos}(B:X.N[i]?=some x:=by rfl)(O:Vis X.env.scope x:=by trivial)(hd:(x==("__debug__":Str))=false:=by decide)
  (z:(x==("__classdict__":Str))=false:=by decide):SS X F0 H0 (.Return (some (.Name x pos')) pos) (jM i):=by
 intro pins s σ F H ρ D S I h;have go:∀ w:En,ρ[i]?=some (some w)->(∀ v,Eok (kx X) H0 F H v w->Vok (kx X) H0 F H v w)->(∀ v F' H',Gr F0 H0 F' H'->Vok (kx X) H0 F' H' v w->D.rt v H') ->
   wpAny (model X.prog X.w) X.A (exec (.Return (some (.Name x pos')) pos) X.env) (SP X pins D) X.xe s:=fun w ew t k=>by
  obtain⟨v,e1,q⟩:=S.val i w ew;refine cR (thn (jn B O hd z pins s σ H (fun v' H'=>v'=v/\H'=H) I ⟨v,e1,rfl,rfl⟩) fun u s' ⟨v',H',I',r,ev,eh⟩=>?_)
  subst ev eh;exact⟨v',σ,H',I',r,k v' F H' S.gr (t v' q)⟩
 unfold jM at h;cases ew:ρ[i]? with
 | none=>rw [ew]at h;exact h.elim
 | some w =>
  rw [ew]at h;cases w with
  | none=>exact h.elim
  | some w =>
   cases w with
   | fz d=>exact go _ ew (fun v q=>q) h
   | ow d=>exact go _ ew (fun v q=>q) h
   | br d=>exact h.elim
   | lk d=>exact h.elim
   | od d=>exact h.elim
theorem qG{c:Expr}{z bs:List Stmt}(B:ST X F0 H0 c t)(O:SSs X F0 H0 z p)(U:SSs X F0 H0 bs q):SS X F0 H0 (.If c z bs pos) (sIf t p q):=by
 intro pins s σ F H ρ D S I h;refine wpAny_If (B pins s σ F H ρ _ S I ((PostS.of h).imp fun d k F' H' s' g I'=>?_))
 cases d with
 | true=>exact O pins s' σ F' H' ρ D (S.grow g) I' (PostS.le g.f k)
 | false=>exact U pins s' σ F' H' ρ D (S.grow g) I' (PostS.le g.f k)
theorem xN(i:Nat){x:Str}{op:Operator}{g:D->D->R En}(B:X.N.Nodup)(O:OpD X (inplaceOp op) g)(U:SE X F0 H0 e f)(hi:X.N[i]?=some x:=by rfl)(W:Loc X.env.scope x:=by trivial)
  (Y:X.fn x=true∨X.env.scope.names.lookup x=some .local:=by trivial):SS X F0 H0 (.AugAssign (.Name x pos') op e pos) (zB i g f):=by
 intro pins s σ F H ρ D S I h;unfold zB at h;cases ew:ρ[i]? with
 | none=>rw [ew]at h;exact h.elim
 | some w =>
  rw [ew]at h;cases w with
  | none=>exact h.elim
  | some w =>
   cases w with
   | ow d=>exact h.elim
   | br d=>exact h.elim
   | lk d=>exact h.elim
   | od d=>exact h.elim
   | fz d =>
    obtain⟨v,e1,q⟩:=S.val i _ ew;have h:=KE.bind (PostS.of h);have ip:PIp X op (fun x y H' Q'=>∃ F' dx dy,Le F' H'/\RdV (kx X) F' H' x dx/\RdV (kx X) F' H' y dy/\Wish X F' H' (g dx dy) Q'):=fun pins s σ H x y v u Q I rx ry ⟨F',dx,dy,l,qx,qy,w⟩=>O pins s σ F' H x y v u dx dy Q I l rx ry qx qy w
    refine Gn B hi W (jp (e:=e)) ip Y pins s σ H D I ⟨v,e1,U.sem S (h.imp fun wy k y F1 H1 g1 q1=>⟨F1,d,wy.d,g1.s,Rep.le g1.f d q |> Or.inl,Vok.rd q1,?_⟩)⟩
    refine KE.impX (KE.bind k) (fun w k2 z F2 H2 g2 q2=>?_) fun _ z=>z.elim
    obtain⟨w',e2,k3,rfl⟩:=uZ k2;exact k3 _ F2 H2 (Le.trans g1.f g2.f) ((S.grow g1).setW g2 q2 e2)
theorem StOk.mut{κ:Kx}{F0 H0 F H:Hp}{ρ:Rho}{σ:St}{i:Nat}{d d':D}{a:Addr}{o:HO}(S:StOk κ F0 H0 F H ρ σ)(B:ρ[i]?=some (some (.ow d)))(U:σ[i]?=some (some (.ref a)))(r:OwnO κ F o d') :
  StOk κ F0 H0 F (upd H a o) (ρ.set i (some (.ow d'))) σ:=by
 obtain⟨v,e1,q⟩:=S.val i _ B;rw [U]at e1;cases e1;obtain⟨b,ob,eb,h0,hf,hh,_⟩:=q;cases eb;refine⟨⟨S.gr.f,fun c u h=>?_,fun c u h=>?_,S.gr.n⟩,by simpa using S.len,fun j w e=>?_,fun j k w w' c W ej ek oj ok sj sk=>?_,fun j y e=>?_⟩
 ·rw [qt (jy h h0)];exact S.gr.h c u h
 ·rw [qt (jy h hf)];exact S.gr.s c u h
 ·rcases qE e with⟨rfl,z⟩|⟨ne,z⟩
  ·cases z;exact⟨_,U,a,o,rfl,h0,hf,qN,r⟩
  ·obtain⟨v,e1,q⟩:=S.val j w z;refine⟨v,e1,?_⟩;have nb:∀{c},v=.ref c->w.own=true->c≠a:=fun{c} ev ow ec=>by
    subst ev ec;exact S.sep j i w _ c ne z B ow rfl e1 U
   cases w with
   | fz d=>exact q
   | br d=>exact q
   | ow d =>
    obtain⟨c,oc,ec,c0,cf,ch,cr⟩:=q;exact⟨c,oc,ec,c0,cf,by rw [qt (nb ec rfl)];exact ch,cr⟩
   | lk d=>exact q
   | od d =>
    obtain⟨c,oc,ec,c0,cf,ch⟩:=q;exact⟨c,oc,ec,c0,cf,by rw [qt (nb ec rfl)];exact ch⟩
 ·have O:∀{m:Nat} {y:En},(ρ.set i (some (.ow d')))[m]?=some (some y)->y.own=true->∃ y',ρ[m]?=some (some y')/\y'.own=true:=fun{m y} h oy=>by
   rcases qE h with⟨rfl,_⟩|⟨_,z⟩
   ·exact⟨_,B,rfl⟩
   ·exact⟨y,z,oy⟩
  obtain⟨y,Y,Z⟩:=O ej oj;obtain⟨y',ek',ok'⟩:=O ek ok;exact S.sep j k y y' c W Y ek' Z ok' sj sk
 ·rcases qE e with⟨_,z⟩|⟨nj,ej⟩
  ·cases z
  obtain⟨s1,c,bs,e1,c0,cf,nd,dp,sp⟩:=S.dp j y ej;refine⟨fun k z hk ek=>?_,c,bs,e1,c0,cf,nd,Deep.same (fun b m=>?_) (fun _ _ z=>z) Le.refl dp,fun k w b hk ek ok m=>?_⟩
  ·rcases qE ek with⟨_,q⟩|⟨_,q⟩
   ·cases q
   ·exact s1 k z hk q
  ·refine(qt fun z=>?_).symm
   subst z;exact sp i _ _ (hG nj) B rfl m U
  ·rcases qE ek with⟨rfl,_⟩|⟨_,q⟩
   ·exact sp k _ b hk B rfl m
   ·exact sp k w b hk q ok m
theorem vh(i:Nat){x:Str}{apos cpos np:Pos}(Z:SE X F0 H0 e f)(hN:X.N[i]?=some x:=by rfl)(hv:Vis X.env.scope x:=by trivial)(hd:(x==("__debug__":Str))=false:=by decide)
  (Y:(x==("__classdict__":Str))=false:=by decide)(B:attributeBase (.Name x np) "append" X.env (eval (.Name x np) X.env)=eval (.Name x np) X.env:=by rfl)
  (U:((backTo cpos (starEach [e] X.env)).all (fun x=>!x.1)&&(backToKw cpos (keywordEach [] X.env)).all (fun x=>x.1.isSome)
   && decide ([e].length+([]:List Keyword).length+(if ([]:List Keyword).isEmpty then 0 else 1)<30))=true:=by rfl)
  (O:(apos.endLine==cpos.line)=true:=by rfl) (W:starEach [e] X.env=(false,eval e X.env)::starEach [] X.env:=by rfl) (z:(backTo cpos (starEach [] X.env)).any (·.1)=false:=by rfl)
  (hs:swapsWith (.Call (.Attribute (.Name x np) "append" apos) [e] [] cpos) none pos.line X.env=pure false:=by rfl) :
  SS X F0 H0 (.Expr (.Call (.Attribute (.Name x np) "append" apos) [e] [] cpos) pos) (jA i f):=by
 intro pins s σ F H ρ D S I h;unfold jA at h;cases ew:ρ[i]? with
 | none=>rw [ew]at h;exact h.elim
 | some w =>
  rw [ew]at h;cases w with
  | none=>exact h.elim
  | some w =>
   cases w with
   | fz d=>exact h.elim
   | br d=>exact h.elim
   | lk d=>exact h.elim
   | od d=>exact h.elim
   | ow d =>
    cases d<;>first|exact h.elim|skip
    rename_i ds;have h:=KE.bind (PostS.of h);obtain⟨v,e1,a,o,rfl,h0,hf,hh,ro⟩:=S.val i _ ew;cases o<;>first|exact ro.elim|skip
    rename_i vs;have P:=xC (pos:=pos) (wQ (X:=X) fB pA pB ki (jn (pos:=np) hN hv hd Y) (vJ (jp (e:=e)) w9 W) B U O W z) hs;refine P pins s σ H D I ⟨_,e1,.inl ⟨rfl,vs,SqL.of hh⟩,Z.sem S (h.imp fun w k y F1 H1 g1 q1=>?_)⟩
    cases es:w.st with
    | exc x=>rw [es]at k;exact k.elim
    | stuck=>rw [es]at k;exact k.elim
    | ok d =>
     rw [es]at k;have ry:=Vok.st S.s g1 q1 es;obtain⟨g2,_⟩:=zC S.s g1;have lv:vs.length=ds.length:=Reps.length ro;by_cases c:ds.length<sz
     ·have k2:PostS X F0 H0 F D (.nx (ρ.set i (some (.ow (.lst (ds++[d])))))):=by simpa [gB c,KE]using k
      refine⟨a,vs,y,rfl,rfl,g1.h _ _ hh,by rw [lv,<- jB];exact c,?_⟩
      exact k2 σ _ _ g2.f ((S.grow g2).mut ew e1 (o:=.lst (vs++[y])) (Reps.append (Reps.le g2.f _ ro) (Reps.one ry)))
     ·have:False:=by simpa [gD c,PostS,KE]using k
      exact this.elim
end
open PySem PySem.Spec PyProof.Rows L2
section
variable{X:Cx}{F0 H0:Hp}{pos:Pos}{t:TF}{p:SF}
theorem qai(n:Nat){c:Expr}{body:List Stmt}(hp:PassesOwn (model X.prog X.w) X.A X.env X.xe)(W:ST X F0 H0 c t)(Y:SSs X F0 H0 body p):SS X F0 H0 (.While c body [] pos) (uS n t p):=by
 intro pins s σ F H ρ D S I h;refine Gp hp (qaa (e:=c)) (xJ (st:=body)) pins s σ H D I
  ⟨fun m σ H=>∃ F' ρ,Le F F'/\StOk (kx X) F0 H0 F' H ρ σ/\PostS X F0 H0 F' D (vK t p m ρ),⟨n,F,ρ,Le.refl,S,h⟩,?_⟩
 rintro m B H1 ⟨F1,ρ1,l1,S1,h1⟩;cases m with
 | zero=>exact h1.elim
 | succ m =>
  intro O s' I';refine W O s' B F1 H1 ρ1 _ S1 I' ((PostS.of h1).imp fun b k F2 H2 s2 g2 I2=>⟨H2,I2,?_⟩)
  cases b with
  | false=>exact k B F2 H2 g2.f (S1.grow g2)
  | true =>
   show ∃ N:St->Hp->Prop,_;refine⟨fun z H'=>∃ F' ρ,Le F F'/\StOk (kx X) F0 H0 F' H' ρ z/\PostS X F0 H0 F' D (vK t p m ρ),fun z H' q=>⟨m,pM m,q⟩,fun U s3 I3=>?_⟩
   refine Y U s3 B F2 H2 ρ1 _ (S1.grow g2) I3 ?_;have k:PostS X F0 H0 F1 D (match p ρ1 with|.nx ρ2=>vK t p m ρ2|.ct ρ2=>vK t p m ρ2|.bk ρ2=>.nx ρ2|o=>o):=k
   cases ep:p ρ1 with
   | nx ρ2=>rw [ep]at k;exact fun z F' H' l S'=>⟨F',ρ2,Le.trans l1 (Le.trans g2.f l),S',PostS.le (Le.trans g2.f l) k⟩
   | ct ρ2=>rw [ep]at k;exact fun z F' H' l S'=>⟨F',ρ2,Le.trans l1 (Le.trans g2.f l),S',PostS.le (Le.trans g2.f l) k⟩
   | bk ρ2=>rw [ep]at k;exact fun z F' H' l S'=>k z F' H' (Le.trans g2.f l) S'
   | rt w=>rw [ep]at k;exact k
   | exc x=>rw [ep]at k;exact k
   | stuck=>rw [ep]at k;exact k
end
structure Walk(κ:Kx)(J:It)(F1 G:Hp)(ds:List D):Prop where
 go:∀(i:Nat) (d:D) (F H:Hp),ds[i]?=some d->Le F1 F->Le F H->Le G H->J.go i H/\∀ x H',J.yld i H x H'->∃ F',Gr F H F' H'/\Rep κ F' x d
 stop:∀(i:Nat) (F H:Hp),ds.length<=i->Le F1 F->Le F H->Le G H->J.stop i H
theorem Walk.more{κ:Kx}{J:It}{F1 G G':Hp}{ds:List D}(W:Walk κ J F1 G ds)(l:Le G G'):Walk κ J F1 G' ds :=
 ⟨fun i d F H e l1 l2 l3=>W.go i d F H e l1 l2 (Le.trans l l3),fun i F H e l1 l2 l3=>W.stop i F H e l1 l2 (Le.trans l l3)⟩
def SI(X:Cx)(F0 H0:Hp)(tg iter:Expr)(fi:IF):Prop :=
 ∃ wi,PI X tg iter wi/\∀(σ:St) (F H:Hp) (ρ:Rho) (R:It->Hp->Prop),StOk (kx X) F0 H0 F H ρ σ ->
  KE (XP X F0 H0) (fi ρ) (fun ds=>∀ F1 H1 J,Gr F H F1 H1->Walk (kx X) J F1 H0 ds->R J H1)->wi σ H R
def SIc(X:Cx)(F0 H0:Hp)(tg iter:Expr)(fi:IF):Prop :=
 ∃ wi,PI X tg iter wi/\∀(σ:St) (F H:Hp) (ρ:Rho) (R:It->Hp->Prop),StOk (kx X) F0 H0 F H ρ σ ->
  KE (XP X F0 H0) (fi ρ) (fun ds=>∀ F1 H1 J,Gr F H F1 H1->Walk (kx X) J F1 H1 ds->R J H1)->wi σ H R
theorem SI.c{X:Cx}{F0 H0:Hp}{tg iter:Expr}{fi:IF}(h:SI X F0 H0 tg iter fi):SIc X F0 H0 tg iter fi:=by
 obtain⟨wi,P,k⟩:=h;exact⟨wi,P,fun σ F H ρ R S q=>k σ F H ρ R S (q.imp fun ds z F1 H1 J g W=>z F1 H1 J g (W.more (Le.trans S.gr.h g.h)))⟩
def SG(X:Cx)(F0 H0:Hp)(tg:Expr)(gf:GF):Prop :=
 ∃ z,PG X tg z/\∀(σ:St) (F H:Hp) (ρ:Rho) (v:V) (d:D) (Q:St->Hp->Prop),StOk (kx X) F0 H0 F H ρ σ->Rep (kx X) F v d ->
  KE (fun _=>False) (gf d ρ) (fun ρ1=>∀ B,StOk (kx X) F0 H0 F H ρ1 B->Q B H)->z v σ H Q
section
variable{X:Cx}{F0 H0:Hp}{pos:Pos}{tg iter:Expr}{fi:IF}{gf:GF}{p:SF}{f:EF}
theorem qQ(i:Nat){x:Str}(z:X.N.Nodup)(hi:X.N[i]?=some x:=by rfl)(B:Loc X.env.scope x:=by trivial)
  (O:X.fn x=true∨X.env.scope.names.lookup x=some .local:=by trivial):SG X F0 H0 (.Name x pos) (gV i) :=
 ⟨_,YL z hi B O,fun σ F H ρ v d Q S r h=>h _ (S.setF r)⟩
theorem Ki{F H:Hp}{Q:St->Hp->Prop}:∀(is:List Nat) (ds:List D) (vs:List V) (ρ:Rho) (σ:St),StOk (kx X) F0 H0 F H ρ σ->Reps (kx X) F vs ds ->
  KE (fun _=>False) (gVs is ds ρ) (fun ρ1=>∀ z,StOk (kx X) F0 H0 F H ρ1 z->Q z H)->Q (List.foldl (fun s (iv:Nat×V)=>s.set iv.1 (some iv.2)) σ (is.zip vs)) H/\is.length=vs.length
 | [],[],vs,ρ,σ,S,r,h=>by cases (show vs=[]from r);exact⟨h σ S,rfl⟩
 | [],_::_,_,_,_,_,_,h=>h.elim
 | _::_,[],_,_,_,_,_,h=>h.elim
 | i::is,d::ds,_,ρ,σ,S,r,h=>by
  obtain⟨v,vr,rfl,r1,r2⟩:=r;obtain⟨q1,q2⟩:=Ki is ds vr _ _ (S.setF (i:=i) r1) r2 h;exact⟨q1,by simp [q2]⟩
def SGs(X:Cx)(es:List Expr)(z:List Nat):Prop:=PGs X es (fun vs σ H Q=>z.length=vs.length/\Q (List.foldl (fun s (iv:Nat×V)=>s.set iv.1 (some iv.2)) σ (z.zip vs)) H)
theorem yt:SGs X [] []:=by
 intro pins s σ H vs us Q I r h;obtain⟨e,q⟩:=h;cases r with
 | nil=>exact Gh pins s σ H [] [] Q I .nil ⟨rfl,q⟩
 | cons _ _=>cases e
theorem zP(i:Nat){x:Str}{z:Pos}{es:List Expr}{B:List Nat}(O:X.N.Nodup)(h:SGs X es B)(hi:X.N[i]?=some x:=by rfl)(U:Loc X.env.scope x:=by trivial)
  (W:X.fn x=true∨X.env.scope.names.lookup x=some .local:=by trivial)
  (Y:(assignEach (.Name x z::es) X.env).map (·.2)=assign (.Name x z) X.env::(assignEach es X.env).map (·.2):=by rfl):SGs X (.Name x z::es) (i::B):=by
 intro pins s σ H vs us Q I r k;obtain⟨e,q⟩:=k;cases r with
 | nil=>cases e
 | cons r1 r2=>exact Gi (YL O hi U W) h Y pins s σ H _ _ Q I (.cons r1 r2) ⟨_,_,rfl,by simpa using e,q⟩
theorem yu{es:List Expr}{k:Nat}{z:List Nat}(O:X.calm=true)(h:SGs X es z)(U:(assignEach es X.env).length=z.length:=by rfl)(B:(assignEach es X.env).findIdx? (·.1)=none:=by rfl):SG X F0 H0 (.Tuple es k pos) (gT z):=by
 refine⟨_,Gk O h U B,fun σ F H ρ v d Q S r w=>?_⟩
 cases d<;>first|exact w.elim|skip
 rename_i ds;obtain⟨a,vs,rfl,hq,rs⟩:=r;obtain⟨q1,q2⟩:=Ki z ds vs ρ σ S rs w;exact⟨a,vs,rfl,SqT.le S.s hq,q2.symm,q2,q1⟩
def qkj(gf:GF)(f:EF):SF:=fun ρ=>sOf ((f ρ).bind fun w=>w.st.bind fun d=>gf d ρ) .nx
theorem jh{body:List Stmt}(hp:PassesOwn (model X.prog X.w) X.A X.env X.xe)(hc:X.calm=true)(hi:SI X F0 H0 tg iter fi)(hg:SG X F0 H0 tg gf)(hb:SSs X F0 H0 body p)
  (hs:∀ x,foldedSetIterable iter X.env x=pure x:=by intro _;rfl):SS X F0 H0 (.For tg iter body [] pos) (jd fi gf p):=by
 intro pins s σ F H ρ D S I h;obtain⟨wi,Z,hwi⟩:=hi;obtain⟨tgv,PGv,hgv⟩:=hg;refine GA hp hc Z PGv (xJ (st:=body)) hs pins s σ H D I (hwi σ F H ρ _ S ((PostS.of h).imp fun ds k F1 H1 J g1 W=>?_))
 refine⟨fun i m σ H=>m=ds.length-i/\i<=ds.length/\∃ F' ρ,Le F F'/\Le F1 F'/\StOk (kx X) F0 H0 F' H ρ σ/\PostS X F0 H0 F' D (qR gf p (ds.drop i) ρ),
  ⟨ds.length,by simp,tZ _,F1,ρ,g1.f,Le.refl,S.grow g1,PostS.le g1.f (by simpa using k)⟩,?_⟩
 rintro i m O H2 ⟨rfl,hi,F2,ρ2,lF,l1,S2,h2⟩;by_cases hlt:i<ds.length
 ·have ed:ds[i]?=some ds[i]:=by simp [hlt]
  have Y:ds.drop i=ds[i]::ds.drop (i+1):=fQ hlt;obtain⟨go,yl⟩:=W.go i ds[i] F2 H2 ed l1 S2.s S2.gr.h;refine .inr ⟨go,fun z H'=>∃ F' ρ,Le F F'/\Le F1 F'/\StOk (kx X) F0 H0 F' H' ρ z/\PostS X F0 H0 F' D (qR gf p (ds.drop (i+1)) ρ),fun z H' q=>⟨ds.length-(i+1),by omega,rfl,hlt,q⟩,fun x H' y=>?_⟩
  obtain⟨F3,g3,rx⟩:=yl x H' y;rw [Y]at h2;have S3:=S2.grow g3;refine hgv O F3 H' ρ2 x ds[i] _ S3 rx ?_;cases eg:gf ds[i] ρ2 with
  | exc e=>unfold qR at h2;rw [eg]at h2;exact h2.elim
  | stuck=>unfold qR at h2;rw [eg]at h2;exact h2.elim
  | ok ρ3 =>
   have h3:PostS X F0 H0 F2 D (match p ρ3 with|.nx ρ4=>qR gf p (ds.drop (i+1)) ρ4|.ct ρ4=>qR gf p (ds.drop (i+1)) ρ4|.bk ρ4=>.nx ρ4|o=>o):=by
    unfold qR at h2;rw [eg]at h2;exact h2
   refine fun U S4 B s3 I3=>hb B s3 U F3 H' ρ3 _ S4 I3 ?_
   cases ep:p ρ3 with
   | nx ρ4=>rw [ep]at h3;exact fun z F' H' l S'=>⟨F',ρ4,Le.trans lF (Le.trans g3.f l),Le.trans l1 (Le.trans g3.f l),S',PostS.le (Le.trans g3.f l) h3⟩
   | ct ρ4=>rw [ep]at h3;exact fun z F' H' l S'=>⟨F',ρ4,Le.trans lF (Le.trans g3.f l),Le.trans l1 (Le.trans g3.f l),S',PostS.le (Le.trans g3.f l) h3⟩
   | bk ρ4=>rw [ep]at h3;exact fun z F' H' l S'=>h3 z F' H' (Le.trans g3.f l) S'
   | rt w=>rw [ep]at h3;exact h3
   | exc x=>rw [ep]at h3;exact h3
   | stuck=>rw [ep]at h3;exact h3
 ·have e:i=ds.length:=by omega
  subst e;rw [List.drop_length]at h2;exact .inl ⟨W.stop _ F2 H2 (gw _) l1 S2.s S2.gr.h,h2 O F2 H2 Le.refl S2⟩
theorem JA{κ:Kx}{F1 G:Hp}{a:Addr}{vs:List V}{ds:List D}(z:SqL κ.K F1 a vs)(rs:Reps κ F1 vs ds):Walk κ (Itl κ.K a) F1 G ds where
 go:=fun i d F H ed l1 l _=>by
  obtain⟨v,ev,rv⟩:=Reps.get rs ed;have q:=SqL.le l (SqL.le l1 z);refine⟨⟨vs,v,q,ev⟩,fun x H' y=>?_⟩
  obtain⟨e,y⟩:=y;subst e;have:=y vs q;rw [ev]at this;cases this;exact⟨F,Gr.refl l,Rep.le l1 d rv⟩
 stop:=fun i F H hi l1 l _=>⟨vs,SqL.le l (SqL.le l1 z),by rw [Reps.length rs];exact hi⟩
theorem JB{κ:Kx}{F1 G:Hp}{a:Addr}{vs:List V}{ds:List D}(z:SqT κ.K F1 a vs)(rs:Reps κ F1 vs ds):Walk κ (Itt κ.K a) F1 G ds where
 go:=fun i d F H ed l1 l _=>by
  obtain⟨v,ev,rv⟩:=Reps.get rs ed;have q:=SqT.le l (SqT.le l1 z);refine⟨⟨vs,v,q,ev⟩,fun x H' y=>?_⟩
  obtain⟨e,y⟩:=y;subst e;have:=y vs q;rw [ev]at this;cases this;exact⟨F,Gr.refl l,Rep.le l1 d rv⟩
 stop:=fun i F H hi l1 l _=>⟨vs,SqT.le l (SqT.le l1 z),by rw [Reps.length rs];exact hi⟩
theorem Kj{κ:Kx}{F1 G:Hp}{a:Addr}{vs:List V}{ds:List D}(z:SqL κ.K G a vs)(rs:Reps κ F1 vs ds):Walk κ (Itl κ.K a) F1 G ds where
 go:=fun i d F H ed l1 l lg=>by
  obtain⟨v,ev,rv⟩:=Reps.get rs ed;have q:=SqL.le lg z;refine⟨⟨vs,v,q,ev⟩,fun x H' y=>?_⟩
  obtain⟨e,y⟩:=y;subst e;have:=y vs q;rw [ev]at this;cases this;exact⟨F,Gr.refl l,Rep.le l1 d rv⟩
 stop:=fun i F H hi l1 l lg=>⟨vs,SqL.le lg z,by rw [Reps.length rs];exact hi⟩
theorem PI.or{iter:Expr}{w1 z:TI}(h1:PI X tg iter w1)(h2:PI X tg iter z):PI X tg iter (fun σ H R=>w1 σ H R∨z σ H R):=fun pins s σ H R I h=>by
 rcases h with h|h
 ·exact h1 pins s σ H R I h
 ·exact h2 pins s σ H R I h
theorem zW{iter:Expr}(z:SE X F0 H0 iter f):SI X F0 H0 tg iter (jo f):=by
 refine⟨_,PI.or (Jh (jp (e:=iter))) (Ji (jp (e:=iter))),fun σ F H ρ R S h=>?_⟩
 have h:=KE.bind h;cases ew:f ρ with
 | exc x=>rw [ew]at h;exact h.elim
 | stuck=>rw [ew]at h;exact h.elim
 | ok w =>
  rw [ew]at h;cases es:w.st with
  | exc x=>rw [yp,es]at h;exact h.elim
  | stuck=>rw [yp,es]at h;exact h.elim
  | ok d =>
   rw [yp,es]at h;cases d<;>first|exact h.elim|skip
   ·rename_i ds;refine .inr (z.sem S ?_);rw [ew,yp];intro v F1 H1 g1 q1;obtain⟨g2,_⟩:=zC S.s g1;obtain⟨a,vs,rfl,hq,rs⟩:=Vok.st S.s g1 q1 es;exact⟨a,rfl,⟨vs,SqT.le g2.s hq⟩,h _ H1 _ g2 (JB (κ:=kx X) hq rs)⟩
   ·rename_i ds;refine .inl (z.sem S ?_);rw [ew,yp];intro v F1 H1 g1 q1;obtain⟨g2,_⟩:=zC S.s g1;obtain⟨a,vs,rfl,hq,rs⟩:=Vok.st S.s g1 q1 es;exact⟨a,rfl,⟨vs,SqL.le g2.s hq⟩,h _ H1 _ g2 (JA (κ:=kx X) hq rs)⟩
theorem zX(i:Nat){x:Str}{pos:Pos}(B:X.N[i]?=some x:=by rfl)(O:Vis X.env.scope x:=by trivial)(hd:(x==("__debug__":Str))=false:=by decide)
  (z:(x==("__classdict__":Str))=false:=by decide):SI X F0 H0 tg (.Name x pos) (iV i):=by
 refine⟨_,PI.or (Jh (jn (pos:=pos) B O hd z)) (Ji (jn (pos:=pos) B O hd z)),fun σ F H ρ R S h=>?_⟩
 unfold iV at h;cases ew:ρ[i]? with
 | none=>rw [ew]at h;exact h.elim
 | some w =>
  rw [ew]at h;cases w with
  | none=>exact h.elim
  | some w =>
   obtain⟨v,e1,q⟩:=S.val i w ew;cases w with
   | ow d=>exact h.elim
   | lk d=>exact h.elim
   | od d=>exact h.elim
   | fz d =>
    cases d<;>first|exact h.elim|skip
    ·obtain⟨a,vs,rfl,hq,rs⟩:=q;exact .inr ⟨_,e1,a,rfl,⟨vs,SqT.le S.s hq⟩,h F H _ (Gr.refl S.s) (JB (κ:=kx X) hq rs)⟩
    ·obtain⟨a,vs,rfl,hq,rs⟩:=q;exact .inl ⟨_,e1,a,rfl,⟨vs,SqL.le S.s hq⟩,h F H _ (Gr.refl S.s) (JA (κ:=kx X) hq rs)⟩
   | br d =>
    obtain⟨a,o,rfl,eh,ro⟩:=q;cases d<;>first|exact h.elim|skip
    ·cases o<;>exact ro.elim
    ·cases o<;>first|exact ro.elim|skip
     exact .inl ⟨_,e1,a,rfl,⟨_,SqL.of (S.gr.h _ _ eh)⟩,h F H _ (Gr.refl S.s) (Kj (κ:=kx X) (SqL.of eh) ro)⟩
theorem xO(i:Nat){x:Str}{pos:Pos}(O:X.N[i]?=some x:=by rfl)(U:Vis X.env.scope x:=by trivial)(hd:(x==("__debug__":Str))=false:=by decide)
  (z:(x==("__classdict__":Str))=false:=by decide):SIc X F0 H0 tg (.Name x pos) (iVc i):=by
 refine⟨_,PI.or (Jh (jn (pos:=pos) O U hd z)) (Ji (jn (pos:=pos) O U hd z)),fun σ F H ρ R S h=>?_⟩
 unfold iVc at h;cases ew:ρ[i]? with
 | none=>rw [ew]at h;exact h.elim
 | some w =>
  rw [ew]at h;cases w with
  | none=>exact h.elim
  | some w =>
   obtain⟨v,e1,q⟩:=S.val i w ew;have B:∀{d:D} {a:Addr} {o:HO},v=.ref a->H a=some o->OwnO (kx X) F o d->KE (XP X F0 H0) (xH d) (fun ds=>∀ F1 H1 J,Gr F H F1 H1->Walk (kx X) J F1 H1 ds->R J H1) ->
     YM X.K (uN i) σ H R∨YN X.K (uN i) σ H R:=fun{d a o} ev eh ro h=>by
    subst ev;cases d<;>first|exact h.elim|skip
    ·cases o<;>exact ro.elim
    ·cases o<;>first|exact ro.elim|skip
     exact .inl ⟨_,e1,a,rfl,⟨_,SqL.of eh⟩,h F H _ (Gr.refl S.s) (Kj (κ:=kx X) (SqL.of eh) ro)⟩
   cases w with
   | ow d=>obtain⟨a,o,ev,_,_,eh,ro⟩:=q;exact B ev eh ro h
   | lk d=>exact h.elim
   | od d=>exact h.elim
   | br d=>obtain⟨a,o,ev,eh,ro⟩:=q;exact B ev (S.gr.h _ _ eh) ro h
   | fz d =>
    dsimp only at h;cases d<;>first|exact h.elim|skip
    ·obtain⟨a,vs,rfl,hq,rs⟩:=q;exact .inr ⟨_,e1,a,rfl,⟨vs,SqT.le S.s hq⟩,h F H _ (Gr.refl S.s) (JB (κ:=kx X) hq rs)⟩
    ·obtain⟨a,vs,rfl,hq,rs⟩:=q;exact .inl ⟨_,e1,a,rfl,⟨vs,SqL.le S.s hq⟩,h F H _ (Gr.refl S.s) (JA (κ:=kx X) hq rs)⟩
theorem Q0:∀(n:Nat) (lo:Int) (i:Nat),(jO lo n)[i]?=if i<n then some (.int (lo+i))else none
 | 0,lo,i=>by simp [jO]
 | n+1,lo,0=>by simp [jO]
 | n+1,lo,i+1=>by
  have:=Q0 n (lo+1) i;simp only [jO,pH,this];by_cases h:i<n
  ·rw [gB h,gB (by omega)]
   congr 2;omega
  ·rw [gD h,gD (by omega)]
theorem JC:∀(n:Nat) (lo:Int),(jO lo n).length=n
 | 0,_=>rfl
 | n+1,lo=>by simp [jO,JC n]
theorem qaj{κ:Kx}{F1 G:Hp}(lo:Int)(n:Nat):Walk κ (Itr lo n) F1 G (jO lo n)where
 go:=fun i d F H ed l1 l _=>by
  rw [Q0]at ed;by_cases h:i<n
  ·rw [gB h]at ed;cases ed;refine⟨h,fun x H' y=>?_⟩
   obtain⟨e,y⟩:=y;subst e y;exact⟨F,Gr.refl l,rfl⟩
  ·rw [gD h]at ed;cases ed
 stop:=fun i F H hi l1 l _=>by rw [JC]at hi;exact hi
theorem ky{a:Expr}{fa:EF}{np cp:Pos}(O:SE X F0 H0 a fa)(U:X.mg "range"=none)(W:Gl X "range":=by rfl)(B:starEach [a] X.env=[(false,eval a X.env)]:=by rfl):SI X F0 H0 tg (.Call (.Name "range" np) [a] [] cp) (iR1 fa):=by
 refine⟨_,Gx W U (vJ (jp (e:=a)) w9 B) B,fun σ F H ρ R S h=>O.sem S ((KE.bind h).imp fun w k v F1 H1 g1 q1=>?_)⟩
 have r:=Vok.rd q1
 revert k
 generalize w.d=d at r;intro k;cases d<;>first|exact k.elim|skip
 rename_i j;dsimp only at k;by_cases c:fits b62 j=true
 ·rw [gB c]at k;have z:(2:Int) ^ 62=4611686018427387904:=by simp
  have c:-(2 ^ 62)<=j/\j<2 ^ 62:=by
   rw [fits_iff,b62e]at c;rw [z];omega
  cases RdV.int r;exact⟨j,rfl,c.1,c.2,k F1 H1 _ g1 (qaj 0 j.toNat)⟩
 ·rw [gD c]at k;exact k.elim
end
def Args(κ:Kx)(F H:Hp):List V->List En->Prop
 | vs,[]=>vs=[]
 | vs,.fz d::ws=>∃ v r,vs=v::r/\Rep κ F v d/\Args κ F H r ws
 | vs,.br d::ws=>∃ v r,vs=v::r/\(∃ a o,v=.ref a/\H a=some o/\OwnO κ F o d)/\Args κ F H r ws
 | _,_=>False
def spD(κ:Kx)(dn:Den)(n:Nat):Sp:=fun vs H Q _=>vs.length=n/\∃ F ws,Le F H/\Args κ F H vs ws /\
 KE (fun _=>False) (dn ws) fun w=>∀ v F' H',Gr F H F' H'->Vok κ H F' H' v w->Q v H'
section
variable{P:Program}{w:World}{K:Frag}{mg:Str->Option Value}{base:Heap}
theorem yv{κ:Kx}{F H:Hp}:∀{vs:List V} {ws:List En},Args κ F H vs ws->∀(i:Nat) (w:En),(ws.map some)[i]?=some (some w)->∃ v,(vs.map some)[i]?=some (some v)/\Eok κ H F H v w/\w.own=false
 | _,[],_,i,w,e=>by simp at e
 | _,.fz d::ws,h,0,w,e=>by
  obtain⟨v,r,rfl,h1,h2⟩:=h;simp at e;subst e;exact⟨v,rfl,h1,rfl⟩
 | _,.br d::ws,h,0,w,e=>by
  obtain⟨v,r,rfl,h1,h2⟩:=h;simp at e;subst e;exact⟨v,rfl,h1,rfl⟩
 | _,.fz d::ws,h,i+1,w,e=>by
  obtain⟨v,r,rfl,h1,h2⟩:=h;simpa using yv h2 i w (by simpa using e)
 | _,.br d::ws,h,i+1,w,e=>by
  obtain⟨v,r,rfl,h1,h2⟩:=h;simpa using yv h2 i w (by simpa using e)
theorem xP{κ:Kx}{F H:Hp}:∀{vs:List V} {ws:List En},Args κ F H vs ws->vs.length=ws.length
 | _,[],h=>by cases (show _=_ from h);rfl
 | _,.fz d::ws,h=>by obtain⟨v,r,rfl,h1,h2⟩:=h;simp [xP h2]
 | _,.br d::ws,h=>by obtain⟨v,r,rfl,h1,h2⟩:=h;simp [xP h2]
theorem Kk{κ:Kx}{F H:Hp}{N:List Str}{vs:List V}{ws:List En}(l:Le F H)(h:Args κ F H vs ws):StOk κ F H F H (ws.map some++List.replicate (N.length-ws.length) none) (L2.jR N vs):=by
 have hl:=xP h;have B:∀(i:Nat) (w:En),(ws.map some++List.replicate (N.length-ws.length) none)[i]?=some (some w)->(ws.map some)[i]?=some (some w):=fun i w e=>by
  by_cases hi:i<ws.length
  ·rwa [hW (by simpa using hi)]at e
  ·rw [t4 (by simpa using hi),fx]at e
   split at e<;>cases e
 refine⟨Gr.refl l,by simp [L2.jR,hl],fun i w e=>?_,fun i j w w' a O ei ej oi oj si sj=>?_,fun i y e=>by obtain⟨v,e1,q,z⟩:=yv h i _ (B i _ e);cases z⟩
 ·obtain⟨v,e1,q,_⟩:=yv h i w (B i w e);refine⟨v,?_,q⟩;unfold L2.jR;have hi:i<vs.length:=by have:=(gu.mp e1).1;simpa using this
  rw [hW (by simpa using hi)]
  exact e1
 ·obtain⟨v,_,_,z⟩:=yv h i w (B i w ei);rw [oi]at z;cases z
theorem fnD{x z:Str}{st:Stmt}{f:Addr}{fd:FuncData}{N ps:List Str}{k:Nat}{body:SF}(F:Fun K x z st f fd)(S:FnScope N ps (defScope st))
  (h:∀(O:Value) (A:Around) (outer:List Env) (s:Shared) (H F0:Hp),Room k (A.deeper (envOfC z (defScope st) s.heap.objs.size f O)) ->
   SSs (cxOf CX0 P w K mg base N z (defScope st) f O A outer s H E0).nox F0 H (defBody st) body):FnOk P w K mg base CX0 (k+1) f fd ps (spD ⟨P,w,K⟩ (den N.length body) ps.length):=by
 refine F.ok S (fun vs H Q E q=>q.1) (fun O A outer s H vs Q E hr q=>?_)
 obtain⟨hl,F0,ws,l,ha,q⟩:=q;refine⟨uT _ _,xJ,fun pins s' I=>?_⟩
 have B:=h O A outer s H F0 hr;have B':SSs (cxOf CX0 P w K mg base N z (defScope st) f O A outer s H E).nox F0 H (defBody st) body:=B;refine B' pins s' (L2.jR N vs) F0 H _ _ (Kk (N:=N) l ha) I ?_;have e:KE (fun _=>False) (den N.length body ws) fun w'=>∀ v F' H',Gr F0 H F' H'->Vok ⟨P,w,K⟩ H F' H' v w'->Q v H':=q
 unfold den fin at e;cases eb:body (ws.map some++List.replicate (N.length-ws.length) none)with
 | nx ρ=>rw [eb]at e;exact fun U F' H' l' S'=>e .non F' H' S'.gr rfl
 | rt w'=>rw [eb]at e;exact e
 | bk ρ=>rw [eb]at e;exact e.elim
 | ct ρ=>rw [eb]at e;exact e.elim
 | exc x=>rw [eb]at e;exact e.elim
 | stuck=>rw [eb]at e;exact e.elim
end
section
variable{X:Cx}{F0 H0:Hp}{pos p:Pos}{e:Expr}{es:List Expr}{fa:List EF}{x:Str}{k n:Nat}{f:Addr}{fd:FuncData}{ps:List Str}{dn:Den}
theorem yw{κ:Kx}{H F' H':Hp}(s:Le F' H'):∀{vs:List V} {ws ys:List En},Voks κ H F' H' vs ws->qU ws=.ok ys->∀ G,Le F' G->(∀ a o,H a=none->H' a=some o->G a=some o)->Args κ G H' vs ys
 | _,[],ys,h,e,G,l,lk=>by cases e;exact h
 | _,w::ws,ys,h,e,G,l,lk=>by
  obtain⟨v,r,rfl,h1,h2⟩:=h;unfold qU at e;cases e1:w.arg with
  | exc x=>rw [e1]at e;cases e
  | stuck=>rw [e1]at e;cases e
  | ok y =>
   cases e2:qU ws with
   | exc x=>rw [e1,e2]at e;cases e
   | stuck=>rw [e1,e2]at e;cases e
   | ok ys' =>
    rw [e1,e2]at e;cases e;have rest:=yw s h2 e2 G l lk;cases w with
    | fz d=>cases e1;exact⟨v,r,rfl,Rep.le l d h1,rest⟩
    | br d =>
     cases e1;obtain⟨a,o,ea,B,ro⟩:=h1;exact⟨v,r,rfl,⟨a,o,ea,B,OwnO.le l ro⟩,rest⟩
    | lk d=>cases e1
    | od d =>
     cases d<;>first|(cases e1;done)|skip
     cases e1;rename_i O;have h1:DV κ H F' H' v (.dK O):=h1;rcases h1 with⟨_,z,_⟩|⟨ds,z,a,bs,W,rfl,h0,hf,nd,hh,i⟩|⟨_,_,z,_⟩|⟨_,_,_,z,_⟩
     ·cases z
     ·cases z;have U:∀ b∈bs++W.flatten,G b=H' b:=fun b m=>by
       obtain⟨us,z0,z1,z2⟩:=In2.at i m;rw [z2];exact lk b _ z0 z2
      exact⟨.ref a,r,rfl,⟨a,bs.map V.ref,rfl,SqL.of (lk a _ h0 hh),In2.reps i U l⟩,rest⟩
     ·cases z
     ·cases z
    | ow d =>
     cases e1;obtain⟨a,o,ea,e0,ef,B,ro⟩:=h1;have q:=lk a o e0 B;have ro:=OwnO.le l ro;refine⟨v,r,rfl,?_,rest⟩;cases o<;>cases d<;>first
      | exact ro.elim
      | exact⟨a,_,ea,.inl (.inl q),ro⟩
      | exact⟨a,_,ea,.inl q,ro⟩
theorem yx:∀(fs:List EF) (ρ:Rho) (ws:List En),evs fs ρ=.ok ws->ws.length=fs.length
 | [],_,_,h=>by cases h;rfl
 | a::r,ρ,ws,h=>by
  unfold evs at h;cases ea:a ρ with
  | exc x=>rw [ea]at h;cases h
  | stuck=>rw [ea]at h;cases h
  | ok x =>
   cases er:evs r ρ with
   | exc x=>rw [ea,er]at h;cases h
   | stuck=>rw [ea,er]at h;cases h
   | ok xs=>rw [ea,er]at h;cases h;simp [yx r ρ xs er]
theorem qak(G:FnOk X.prog X.w X.K X.mg X.base CX0 k f fd ps (spD (kx X) dn n))(U:Room k X.A)(W:X.mg x=some (.ref f))(Y:keepIn X.K (.ref f)=true)(Z:Binds X.K fd ps [])(ha:SA X F0 H0 (e::es) fa)
  (hn:fa.length=n:=by rfl)
  (hg:Gl X x:=by rfl)(B:(x==("__debug__":Str))=false:=by decide)(he:starEach (e::es) X.env=(false,eval e X.env)::starEach es X.env:=by rfl)(O:(backTo pos (starEach es X.env)).any (·.1)=false:=by rfl) :
  SE X F0 H0 (.Call (.Name x p) (e::es) [] pos) (qj dn fa):=by
 intro pins s σ F H ρ Q S I h;refine hV (vd I hg W ?_ B);refine fC (h₀:=X.base) I.ok.mod.kin Y (ha pos pins s σ F H ρ _ S I ?_) he O;cases ef:evs fa ρ with
 | exc x=>have h:=KE.bind h;rw [ef]at h;exact h
 | stuck=>have h:=KE.bind h;rw [ef]at h;exact h
 | ok ws =>
  have h:=KE.bind h;rw [ef]at h;intro vs us F1 H1 s1 g1 q1 r1 I1;refine⟨I1.kIn,?_⟩;have h:KE (XP X F0 H0) ((qU ws).bind fun ys=>dn ys) _:=h
  cases ea:qU ws with
  | exc x=>rw [ea]at h;exact h.elim
  | stuck=>rw [ea]at h;exact h.elim
  | ok ys =>
   rw [ea]at h;obtain⟨g2,l2⟩:=zC S.s g1;have A:=yw (κ:=kx X) g1.s q1 ea (qL H F1 H1) l2 (fun a o e0 e2=>by unfold qL;rw [e0];exact e2)
   have hl:vs.length=n:=by
    rw [<- hn,<- yx fa ρ ws ef];clear A ea h r1
    revert vs
    have:∀(ws:List En) (vs:List V),Voks (kx X) H F1 H1 vs ws->vs.length=ws.length:=by
     intro ws
     induction ws with
     | nil=>intro vs h;cases (show vs=[]from h);rfl
     | cons w ws ih =>
      intro vs h;obtain⟨v,r,rfl,_,h2⟩:=h;simp [ih r h2]
    intro vs h;exact this ws vs h
   refine ve (uO G U Z (dvs:=[]) .nil K7 I1 r1 ?_);rw [tP];refine⟨hl,qL H F1 H1,ys,g2.s,A,KE.impX h (fun w k v F' H' g' q' u s' r' I'=>?_) fun _ z=>z.elim⟩
   exact k v u F' H' s' (g2.trans g') (Vok.older (fun a e=>Le.none g1.h e) q') r' I'
end
open PySem PySem.Spec PyProof.Rows L2
theorem hu10{k:Nat}{A:Around}(z:Room k A):A.units+10<cLine:=by have:=z.un;omega
section
variable{X:Cx}{F0 H0:Hp}{pos p:Pos}{x:Str}{k:Nat}{f:Addr}{fd:FuncData}{dn:Den}
def Ty.nm:Ty->String
 | .int=>"int"|.bool=>"bool"|.str=>"str"|.list=>"list"|.tuple=>"tuple"|.dict=>"dict"
def dTy:D->String
 | .non=>"NoneType"|.bl _=>"bool"|.int _=>"int"|.str _=>"str"|.tup _=>"tuple"|.lst _=>"list"|.dK _=>"dict"|.dT _=>"dict"|.xc _ _=>"?"
theorem qal(K:Frag)(d:D)(t:Ty)(h:∀ c fs,d≠.xc c fs):kitOne K (.type (dTy d)) (.type t.nm)=some (tyIs d t):=by
 cases d<;>first
  | exact absurd rfl (h _ _)
  | (cases t<;>first|rfl|kernel_rfl)
theorem qam{pins:List (Addr×Obj)}{s:Shared}{σ:St}{F H:Hp}{v:V}{u:Value}{d:D}{t:Ty}{Q:Value->Shared->Prop}(I:Inv X pins σ H s)(l:Le F H)(r:RelV v u)(q:RdV (kx X) F H v d)(B:∀ c fs,d≠.xc c fs)
  (h:∀ tk,Q (.bool (tyIs d t)) {s with toks:=tk}):wpAny (model X.prog X.w) X.A (call (.builtin "isinstance") [u,.type t.nm]) Q X.xe s:=by
 have e:=qal X.K d t B;cases d with
 | non=>cases RdV.non q;cases (show u=Value.none from r);exact fV PySem.W.kitx_none I.kIn True.intro e (fun z=>nomatch z) h
 | bl b=>cases RdV.bl q;cases (show u=Value.bool b from r);exact fV PySem.W.kitx_bool I.kIn True.intro e (fun z=>nomatch z) h
 | int i=>cases RdV.int q;obtain⟨tk,rfl⟩:=(show ∃ tk,u=Value.int i tk from r);exact fV PySem.W.kitx_int I.kIn True.intro e (fun z=>nomatch z) h
 | str y=>cases RdV.str q;obtain⟨tk,rfl⟩:=(show ∃ tk,u=Value.str y tk from r);exact fV PySem.W.kitx_str I.kIn True.intro e (fun z=>nomatch z) h
 | tup ds =>
  obtain⟨a,vs,rfl,hq,_,_⟩:=RdV.tup l q;cases (show u=Value.ref a from r)
  obtain⟨its,_,⟨o,e1,e2,_⟩,_⟩:=I.tuple hq;exact fV PySem.W.kitx_tuple I.kIn ⟨o,e1,e2⟩ e (fun z=>nomatch z) h
 | lst ds =>
  obtain⟨a,vs,rfl,hq,_⟩:=RdV.lst l q;cases (show u=Value.ref a from r)
  obtain⟨its,_,⟨o,n,e1,e2,_⟩,_⟩:=I.list hq;exact fV PySem.W.kitx_list I.kIn ⟨o,e1,e2⟩ e (fun z=>nomatch z) h
 | dK ds =>
  obtain⟨a,vs,rfl,hq,_⟩:=RdV.dK l q;cases (show u=Value.ref a from r)
  obtain⟨_,vs,_,o,es,ep,e1,e2,_⟩:=Inv.dictK I hq;exact fV kitx_dict I.kIn ⟨o,e1,e2.1⟩ e (fun z=>nomatch z) h
 | dT ds =>
  have hq:∃ a kvs,v=.ref a/\Rd H a (.dT kvs):=by
   rcases q with⟨a,vs,e,q,_⟩|⟨a,o,e,e2,r⟩
   ·exact⟨a,vs,e,Rd.le l q⟩
   ·cases o<;>first|exact r.elim|exact⟨a,_,e,.inl e2⟩
  obtain⟨a,kvs,rfl,hq⟩:=hq;cases (show u=Value.ref a from r)
  obtain⟨_,_,xs,_,o,es,ep,e1,e2,_⟩:=hq.ok I.hok;exact fV kitx_dict I.kIn ⟨o,e1,e2.1⟩ e (fun z=>nomatch z) h
 | xc c fs=>exact absurd rfl (B c fs)
theorem qan(t:Ty):bootBuiltins t.nm=some (.type t.nm):=by cases t<;>decide +kernel
theorem Q1(t:Ty){e:Expr}{fe:EF}{p2:Pos}(he:SE X F0 H0 e fe)(hm:X.mg "isinstance"=none)(B:X.mg t.nm=none)(hg:Gl X "isinstance":=by rfl)(O:Gl X t.nm:=by rfl)
  (U:(Str.ofString t.nm)≠"__name__":=by decide)(W:((Str.ofString t.nm)==("__debug__":Str))=false:=by decide)
  (z:starEach [e,.Name t.nm p2] X.env=(false,eval e X.env)::starEach [.Name t.nm p2] X.env:=by rfl)(Y:starEach [.Name t.nm p2] X.env=[(false,eval (.Name t.nm p2) X.env)]:=by rfl)
  (Z:(backTo pos (starEach [.Name t.nm p2] X.env)).any (·.1)=false:=by rfl):SE X F0 H0 (.Call (.Name "isinstance" p) [e,.Name t.nm p2] [] pos) (eUn (dIs t) fe):=by
 intro pins s σ F H ρ Q S I h;refine hV (zi I hg hm boot_isinstance ?_);refine f9 ?_ z Z;rw [z];refine gJ (he pins s σ F H ρ _ S I ((KE.bind h).imp fun w k v u F' H' s' g q r I'=>?_))
 rw [Y];refine gJ (zi I' O B (qan t) (t7 ?_) U W);have k2:∀ c fs,w.d≠.xc c fs:=fun c fs e=>by rw [e]at k;exact k.elim
 have k3:KE (XP X F0 H0) (okB (tyIs w.d t)) fun w=>∀ v u F' H' s',Gr F H F' H'->Vok (kx X) H F' H' v w->RelV v u->Inv X pins σ H' s'->Q u s':=by
  revert k
  generalize w.d=d at *;intro k;cases d<;>first|exact k|exact absurd rfl (k2 _ _)
 exact qam I' g.s r (Vok.rd q) k2 fun tk=>k3 (.bl _) _ F' H' _ g rfl rfl (I'.tok tk)
def jU:D->R En
 | .int i=>okI (-i)
 | _=>.stuck
theorem wj{e:Expr}{z:EF}(B:SE X F0 H0 e z):SE X F0 H0 (.UnaryOp .USub e pos) (eUn jU z):=by
 intro pins s σ F H ρ Q S I h;refine UnaryOp_ (B pins s σ F H ρ _ S I ((KE.bind h).imp fun w k v u F' H' s' g q r I'=>?_))
 have q:=Vok.rd q
 revert k
 generalize w.d=d at q;intro k;cases d<;>first|exact k.elim|skip
 cases RdV.int q;obtain⟨t,rfl⟩:=r;exact neg_int (k (.int _) _ F' H' _ g rfl ⟨_,rfl⟩ (I'.tok _))
def vi:D->D->R En
 | .int i,.int j=>okI (i+j)
 | _,_=>.stuck
theorem qao:OpD X (binaryOp .Add) vi:=vf GC fun F H x y dx dy Q l qx qy w=>by
 cases dx<;>first|exact w.elim|skip
 cases dy<;>first|exact w.elim|skip
 exact⟨_,_,RdV.int qx,RdV.int qy,qZ l (v:=.int _) w rfl⟩
end
theorem JD{κ:Kx}{F:Hp}:∀ ns:List Int,Reps κ F (ns.map V.int) (ns.map D.int)
 | []=>rfl
 | n::ns=>⟨.int n,ns.map V.int,rfl,rfl,JD ns⟩
theorem qap{κ:Kx}{H:Hp}{a:Addr}{E:XK}(dn:Den)(ns:List Int)(z:SqL κ.K H a (ns.map V.int))(h:dn [.fz (.lst (ns.map D.int))]=.ok (.fz (.bl true))):spD κ dn 1 [.ref a] H (fun v _=>v=.bl true) E :=
 ⟨rfl,H,[.fz (.lst (ns.map D.int))],Le.refl,⟨.ref a,[],rfl,⟨a,_,rfl,z,JD ns⟩,rfl⟩,by rw [h];exact fun v F' H' g q=>q⟩
open PySem PySem.Spec PyProof.Rows L2
section
variable{X:Cx}
theorem qaq:OpD X (inplaceOp .Sub) jc:=vf GJ fun F H x y dx dy Q l qx qy w=>by
 cases dx<;>first|exact w.elim|skip
 cases dy<;>first|exact w.elim|skip
 exact⟨_,_,RdV.int qx,RdV.int qy,qZ l (v:=.int _) w rfl⟩
theorem Q2:OpD X (inplaceOp .Add) vi:=vf GI fun F H x y dx dy Q l qx qy w=>by
 cases dx<;>first|exact w.elim|skip
 cases dy<;>first|exact w.elim|skip
 exact⟨_,_,RdV.int qx,RdV.int qy,qZ l (v:=.int _) w rfl⟩
end
def zY{α β:Type}(f:α->Option β):List α->Option (List β)
 | []=>some []
 | x::r=>match f x with
  | some y=>(match zY f r with|some ys=>some (y::ys)|none=>none)
  | none=>none
theorem Kl{α β:Type}{f:α->Option β}{x:α}{r:List α}{l:List β}(h:zY f (x::r)=some l):∃ y ys,f x=some y/\zY f r=some ys/\l=y::ys:=by
 unfold zY at h;cases e:f x with
 | none=>rw [e]at h;cases h
 | some y =>
  cases e2:zY f r with
  | none=>rw [e,e2]at h;cases h
  | some ys=>rw [e,e2]at h;cases h;exact⟨y,ys,rfl,rfl,rfl⟩
def vj(K:Frag):Nat->Value->Option D
 | 0,_=>none
 | n+1,v=>match v with
  | .none=>some .non
  | .bool b=>some (.bl b)
  | .int i _=>some (.int i)
  | .str x _=>some (.str x)
  | .ref a=>(match K.lookup a with
   | some o=>(match o.data with
    | .seq its _ =>
     if its.size<=100000 then
      (if o.cls==.type "tuple" then(zY (vj K n) its.toList).map .tup
      else if o.cls==.type "list"&&o.dict==none then(zY (vj K n) its.toList).map .lst else none)
     else none
    | .dict es _ =>
     if o.cls==.type "dict"&&o.dict==none&&o.slots.size==0&&!(a==sysModules)then
      (match zY (fun e:DictEntry=>match e.key with
       | .int i _=>if e.hash=hashInt i then(vj K n e.val).map fun d=>((Sum.inl i:Sum Int Str),d)else none
       | _=>none) es.toList with
      | some l=>if (l.map (·.1)).Nodup then some (.dK l)else none
      | none=>none)
     else none
    | _=>none)
   | none=>none)
  | _=>none
theorem Km{κ:Kx}:∀(n:Nat) (v:Value) (d:D),vj κ.K n v=some d->∃ x,RelV x v/\∀ F,Rep κ F x d:=by
 intro n
 induction n with
 | zero=>intro v d h;cases h
 | succ n ih =>
  have z:∀(vs:List Value) (ds:List D),zY (vj κ.K n) vs=some ds->∃ xs,Vals xs vs/\∀ F,Reps κ F xs ds:=by
   intro vs
   induction vs with
   | nil=>intro ds h;cases h;exact⟨[],.nil,fun _=>rfl⟩
   | cons v vs ihv =>
    intro ds h;obtain⟨d,U,h1,h2,rfl⟩:=Kl h;obtain⟨x,rx,qx⟩:=ih v d h1;obtain⟨xs,rs,qs⟩:=ihv U h2;exact⟨x::xs,.cons rx rs,fun F=>⟨x,xs,rfl,qx F,qs F⟩⟩
  have B:∀(es:List DictEntry) (l:List (Sum Int Str×D)),zY (fun e:DictEntry=>match e.key with
       | .int i _=>if e.hash=hashInt i then(vj κ.K n e.val).map fun d=>((Sum.inl i:Sum Int Str),d)else none
       | _=>none) es=some l ->
    ∃ kvs vs,KV kvs vs/\Pairs (qW κ.P κ.w) es vs/\vs.map (·.1)=l.map (·.1)/\(∀ e∈es,∃ k,(qW κ.P κ.w).is k e.key=true/\e.hash=(qW κ.P κ.w).hash k)/\∀ F,RepK κ F kvs l:=by
   intro es
   induction es with
   | nil=>intro l h;cases h;exact⟨[],[],.nil,.nil,rfl,fun e he=>(nomatch he),fun _=>rfl⟩
   | cons e es ihe =>
    intro l h;obtain⟨y,ys,h1,h2,rfl⟩:=Kl h;obtain⟨kvs,vs,r1,r2,r3,r4,r5⟩:=ihe ys h2;cases ek:e.key with
    | int i t =>
     rw [ek]at h1;dsimp only at h1;by_cases c:e.hash=hashInt i
     ·rw [gB c]at h1;cases ed:vj κ.K n e.val with
      | none=>rw [ed]at h1;cases h1
      | some d =>
       rw [ed]at h1;cases h1;obtain⟨x,rx,qx⟩:=ih e.val d ed;have hk:(qW κ.P κ.w).is (Sum.inl i) e.key=true:=by rw [ek];exact YE _ _ i t
       refine⟨(Sum.inl i,x)::kvs,(Sum.inl i,e.val)::vs,.cons ⟨rfl,rx⟩ r1,.cons hk rfl r2,by simp [r3],fun e' he=>?_,fun F=>⟨x,kvs,rfl,qx F,r5 F⟩⟩
       rcases gl.mp he with rfl|he
       ·exact⟨Sum.inl i,hk,c⟩
       ·exact r4 e' he
     ·rw [gD c]at h1;cases h1
    | _=>rw [ek]at h1;cases h1
  intro v d h;unfold vj at h;cases v<;>first|(cases h;done)|skip
  ·cases h;exact⟨.non,rfl,fun _=>rfl⟩
  ·cases h;exact⟨.bl _,rfl,fun _=>rfl⟩
  ·cases h;exact⟨.int _,⟨_,rfl⟩,fun _=>rfl⟩
  ·cases h;exact⟨.str _,⟨_,rfl⟩,fun _=>rfl⟩
  ·rename_i a;dsimp only at h;cases ek:κ.K.lookup a with
   | none=>rw [ek]at h;cases h
   | some o =>
    rw [ek]at h;dsimp only at h;cases ed:o.data with
    | seq its m =>
     rw [ed]at h;dsimp only at h;by_cases c:its.size<=100000
     ·rw [gB c]at h;have hz:its.size<=sizeLine:=by rw [fm];omega
      by_cases c1:(o.cls==Value.type "tuple")=true
      ·rw [gB c1]at h;cases e2:zY (vj κ.K n) its.toList with
       | none=>rw [e2]at h;cases h
       | some ds =>
        rw [e2]at h;cases h;obtain⟨xs,rs,qs⟩:=z its.toList ds e2;exact⟨.ref a,rfl,fun F=>⟨a,xs,rfl,.inr ⟨o,its,m,ek,by simpa using c1,ed,hz,rs⟩,qs F⟩⟩
      ·rw [gD c1]at h;by_cases c2:(o.cls==Value.type "list"&&o.dict==none)=true
       ·rw [gB c2]at h;rw [gK]at c2;cases e2:zY (vj κ.K n) its.toList with
        | none=>rw [e2]at h;cases h
        | some ds =>
         rw [e2]at h;cases h;obtain⟨xs,rs,qs⟩:=z its.toList ds e2;exact⟨.ref a,rfl,fun F=>⟨a,xs,rfl,.inr ⟨o,its,m,ek,by simpa using c2.1,by simpa using c2.2,ed,hz,rs⟩,qs F⟩⟩
       ·rw [gD c2]at h;cases h
     ·rw [gD c]at h;cases h
    | dict es ep =>
     rw [ed]at h;dsimp only at h;by_cases c:(o.cls==Value.type "dict"&&o.dict==none&&o.slots.size==0&&!(a==sysModules))=true
     ·rw [gB c]at h;simp only [gK]at c;obtain⟨⟨⟨c1,c2⟩,c3⟩,c4⟩:=c
      revert h
      generalize e2:zY _ es.toList=ol;intro h;cases ol with
      | none=>cases h
      | some l =>
       dsimp only at h;by_cases c5:(l.map (·.1)).Nodup
       ·rw [gB c5]at h;cases h;obtain⟨kvs,vs,r1,r2,r3,r4,r5⟩:=B es.toList l e2;have O:o.slots=#[]:=by
         have:o.slots.size=0:=by simpa using c3
         exact Array.eq_empty_of_size_eq_zero this
        refine⟨.ref a,rfl,fun F=>⟨a,kvs,rfl,.inr ⟨by simpa using c4,o,es,ep,vs,ek,⟨by simpa using c1,by simpa using c2,O⟩,ed,fun e he=>r4 e (by simpa using he),r2,by rw [r3];exact c5,r1⟩,r5 F⟩⟩
       ·rw [gD c5]at h;cases h
     ·rw [gD c]at h;cases h
    | _=>rw [ed]at h;cases h
open PySem PySem.Spec PyProof.Rows L2
def ro:Option En->Option En
 | some (.ow d)=>some (.br d)
 | some (.od _)=>none
 | o=>o
def zQ(gf:GF)(t:TF)(e:EF):List D->Rho->R (List D)
 | [],_=>.ok []
 | d::r,ρ=>(gf d ρ).bind fun ρ1=>(t ρ1).bind fun b=>if b=true then(e ρ1).bind fun w=>w.st.bind fun y=>(zQ gf t e r ρ1).bind fun ys=>.ok (y::ys)else zQ gf t e r ρ1
def zZ(n:Nat)(ρ:Rho):Rho:=ρ.map ro++List.replicate n none
def qT(n:Nat)(it:IF)(gf:GF)(t:TF)(e:EF):EF:=fun ρ=>(it ρ).bind fun ds=>if ds.length<=sz then(zQ gf t e ds (zZ n ρ)).bind fun ys=>.ok (.ow (.lst ys))else .stuck
def je:TF:=fun _=>.ok true
theorem compLoop{prog:Program}{w:World}{A:Around}{R:Result->Shared->Prop}{s:Shared}{elt z iter:Expr}{ifs:List Expr}{scope:Scope}{pos:Pos}{it acc:Value}{env:Env}(I:Nat->Shared->Prop)
  (h4:∀ n s,I n s->wpAny (model prog w) A (pyNext it) (fun r B=>match r with
   | none=>R (.ok .next) B
   | some v=>wpAny (model prog w) A (letOwnedTupleGo z it v) (fun _ U=>wpAny (model prog w) A (assign z env v) (fun _ s₂ =>
     wpAny (model prog w) A (forIn ifs true fun c r=>if r=true then do let ok <- isTrue c env (eval c env);pure (ForInStep.yield ok)else pure (ForInStep.yield r)) (fun ok O =>
      if ok=true then wpAny (model prog w) A (eval elt env) (fun x W =>
       wpAny (model prog w) A (call (.builtin "list.append") [acc,x]) (fun _ Y=>∃ m,m<n/\I m Y) (fun _ _=>False) W) (fun _ _=>False) O
      else ∃ m,m<n/\I m O) (fun _ _=>False) s₂) (fun _ _=>False) U) (fun _ _=>False) B) (fun _ _=>False) s)
  (n:Nat) (h:I n s):codeAny (model prog w) A (.compLoop (.ListComp elt [⟨z,iter,ifs,0⟩] scope pos) 0 it acc env) R s:=by
 refine codeAny_loop rfl I (fun n s hI=>?_) n h
 show wpAny _ A ((compTurn (.ListComp elt [⟨z,iter,ifs,0⟩] scope pos) 0 it acc env).onRaise (fun x=>do noteFrame x env;theTreesLotGoes x)) _ _ s
 refine wpAny_noted ?_;rw [compTurn_list];refine g6 (pI (g6 (fq (h4 n s hI) (fun r B Z=>?_) fun _ _ h'=>h'.elim)))
 cases r with
 | none=>exact gk Z
 | some v =>
  refine g6 (fq Z (fun _ U h₀=>g6 (fq h₀ (fun _ s₂ h5=>g6 (fq h5 (fun ok O h3=>?_) fun _ _ h'=>h'.elim)) fun _ _ h'=>h'.elim)) fun _ _ h'=>h'.elim)
  cases ok with
  | false=>exact gk ⟨rfl,h3⟩
  | true=>exact g6 (g6 (fq h3 (fun x W h6=>g6 (fq h6 (fun _ Y h7=>gk (gk ⟨rfl,h7⟩)) fun _ _ h'=>h'.elim)) fun _ _ h'=>h'.elim))
def Cap(env:Env)(cl:List (Str×Addr)):List (Str×NameKind)->Prop
 | []=>True
 | (n,k)::r=>(k≠.cell/\(k=.free->env.kindOf n=some .cell/\cl.lookup n=env.cells.lookup n))/\Cap env cl r
def ClIn(env:Env):List (Str×Addr)->Prop
 | []=>True
 | (n,c)::r=>env.cells.lookup n=some c/\ClIn env r
theorem ClIn.look{env:Env}:∀{cl:List (Str×Addr)},ClIn env cl->∀{x c},cl.lookup x=some c->env.cells.lookup x=some c
 | [],_,x,c,h=>by simp at h
 | (n,a)::r,q,x,c,h=>by
  obtain⟨q1,q2⟩:=q;by_cases e:x=n
  ·subst e;simp [List.lookup]at h;subst h;exact q1
  ·have:(x==n)=false:=by simpa using e
   simp [List.lookup,this]at h;exact ClIn.look q2 h
theorem Cap.mem{env:Env}{cl:List (Str×Addr)}:∀{names:List (Str×NameKind)},Cap env cl names->∀ y∈names,y.2≠.cell/\(y.2=.free->env.kindOf y.1=some .cell/\cl.lookup y.1=env.cells.lookup y.1)
 | [],_,y,hy=>by cases hy
 | (n,k)::r,h,y,hy=>by
  rcases gl.mp hy with rfl|hy
  ·exact h.1
  ·exact Cap.mem h.2 y hy
theorem JE{env:Env}:∀{names:List (Str×NameKind)} {x:Str},(∀ y∈names,y.2≠.cell) ->
    ((names.map fun(n,k)=>if (k==NameKind.free&&env.scope.kind==.function&&env.kindOf n==some .cell)then(n,NameKind.cell)else(n,k)).lookup x=some .cell ∨
     (names.map fun(n,k)=>if (k==NameKind.free&&env.scope.kind==.function&&env.kindOf n==some .cell)then(n,NameKind.cell)else(n,k)).lookup x=some .free)->(x,NameKind.free)∈names
  | [],_,_,h=>by rcases h with h|h<;>simp at h
  | (n,k)::r,x,hc,h=>by
    have ih:=@JE env r x (fun y hy=>hc y (gp _ hy))
    have hk:=hc (n,k) gY;rw [gN]at h;by_cases hx:x=n
    · subst hx
      by_cases q:(k==NameKind.free&&env.scope.kind==.function&&env.kindOf x==some .cell)=true
      · have:k=.free:=by
          simp only [gK]at q;simpa using q.1.1
        subst this;exact gY
      · dsimp only at h
        rw [gD q]at h;simp only [List.lookup,cy]at h;rcases h with h|h
        · cases h;exact absurd rfl hk
        · cases h;exact gY
    · have hb:(x==n)=false:=by simpa using hx
      refine gp _ (ih ?_);dsimp only at h;by_cases q:(k==NameKind.free&&env.scope.kind==.function&&env.kindOf n==some .cell)=true
      · rw [gB q]at h
        simpa only [List.lookup_cons,hb]using h
      · rw [gD q]at h
        simpa only [List.lookup_cons,hb]using h
def cxC(X:Cx)(s₂:Shared)(H₂:Hp)(scope:Scope)(cl:List (Str×Addr))(C:Addr)(fp:List Addr)(N:List Str):Cx where
 prog:=X.prog
 w:=X.w
 K:=X.K
 mg:=X.mg
 base:=X.base
 A:=X.A
 N:=N
 s₀:=s₂
 H₀:=H₂
 env:=compEnvC scope cl C X.env
 outer:=X.stack
 stack:=X.stack
 ex:=fp
 fn:=fun _=>false
 calm:=X.calm
 pn:=[]
 xe:=fun _ _=>False
def wl(z:List (Str×NameKind)):List Str->List Str->Bool
 | a::as,b::bs=>(match z.lookup b with|some .local=>false|some .free=>false|some .cell=>a==b|_=>true)&&wl z as bs
 | [],_=>true
 | _::_,[]=>true
def Kn(z:Scope)(M N:List Str):Prop:=∀(i:Nat) (x:Str),i<M.length->N[i]?=some x->Vis z x->M[i]?=some x/\z.names.lookup x=some .cell
theorem JF{z:Scope}:∀{M N:List Str},wl z.names M N=true->Kn z M N
 | [],_,_,i,x,hi,_,_=>by simp at hi
 | _::_,[],_,i,x,_,e,_=>by simp at e
 | a::as,b::bs,h,0,x,_,e,v=>by
  unfold wl at h;rw [gK]at h;simp at e;subst e;cases q:z.names.lookup b with
  | none=>rcases v with v|v|v<;>rw [q]at v<;>cases v
  | some k =>
   rw [q]at h;rcases v with v|v|v
   ·rw [q]at v;cases v;exact absurd h.1 fw
   ·rw [q]at v;cases v;have:a=b:=by simpa using h.1
    subst this;exact⟨rfl,rfl⟩
   ·rw [q]at v;cases v;exact absurd h.1 fw
 | a::as,b::bs,h,i+1,x,hi,e,v=>by
  unfold wl at h;rw [gK]at h;have:=JF h.2 i x (by simpa using hi) (by simpa using e) v
  exact⟨by simpa using this.1,this.2⟩
theorem Ko{κ:Kx}{F0 H0 F H:Hp}{ρ:Rho}{σ:St}(n:Nat)(S:StOk κ F0 H0 F H ρ σ):StOk κ F H F H (zZ n ρ) (σ++List.replicate n none):=by
 have z:∀(i:Nat) (w:En),(zZ n ρ)[i]?=some (some w)->∃ w',ρ[i]?=some (some w')/\ro (some w')=some w:=fun i w e=>by
  unfold zZ at e;by_cases hi:i<ρ.length
  ·rw [hW (by simpa using hi),gX]at e
   cases q:ρ[i]? with
   | none=>rw [q]at e;cases e
   | some y =>
    rw [q]at e;cases y with
    | none=>cases e
    | some w'=>exact⟨w',rfl,by simpa using e⟩
  ·rw [t4 (by simpa using hi),fx]at e
   split at e<;>cases e
 refine⟨Gr.refl S.s,by simp [zZ,S.len],fun i w e=>?_,fun i j w w' a B ei ej oi oj si sj=>?_,fun i y e=>?_⟩
 ·obtain⟨w',e1,e2⟩:=z i w e;obtain⟨v,ev,q⟩:=S.val i w' e1;have hi:i<σ.length:=(gu.mp ev).1;refine⟨v,by rw [hW hi];exact ev,?_⟩
  cases w' with
  | fz d=>cases e2;exact q
  | ow d=>cases e2;obtain⟨a,o,e,_,_,eh,r⟩:=q;exact⟨a,o,e,eh,r⟩
  | lk d=>cases e2;exact q
  | od d=>cases e2
  | br d=>cases e2;obtain⟨a,o,e,eh,r⟩:=q;exact⟨a,o,e,S.gr.h _ _ eh,r⟩
 ·obtain⟨w1,e1,e2⟩:=z i w ei;cases w1<;>cases e2<;>cases oi
 ·obtain⟨w',e1,e2⟩:=z i _ e;cases w'<;>cases e2
theorem StOk.side{κ:Kx}{F0 H0 F H:Hp}{ρ:Rho}{σ:St}{p:Addr}{o:HO}(S:StOk κ F0 H0 F H ρ σ)(h0:H0 p=none)(B:F p=none)(z:∀(i:Nat) (w:En),ρ[i]?=some (some w)->w.own=false):StOk κ F0 H0 F (upd H p o) ρ σ:=by
 refine⟨⟨S.gr.f,fun a u h=>?_,fun a u h=>?_,S.gr.n⟩,S.len,fun i w e=>?_,S.sep,fun i d e=>by cases z i _ e⟩
 ·rw [qt (jy h h0)];exact S.gr.h a u h
 ·rw [qt (jy h B)];exact S.gr.s a u h
 ·obtain⟨v,e1,q⟩:=S.val i w e;refine⟨v,e1,?_⟩;have:=z i w e;cases w with
  | fz d=>exact q
  | br d=>exact q
  | ow d=>cases this
  | lk d=>exact q
  | od d=>cases this
open PySem PySem.Spec PyProof.Rows L2
section
variable{X:Cx}{pins:List (Addr×Obj)}{σ:St}{H₂:Hp}{s₂:Shared}{fp:List Addr}{it:Addr}{tn:Nat->Heap->Prop}{J:It}{tg:Expr}{scope:Scope}{cl:List (Str×Addr)}{N:List Str}{n:Nat}
theorem qar(B:Inv X pins σ H₂ s₂)(T:Turn X.prog X.w X.K tg J fp it tn)(st:tn 0 s₂.heap)(Z:∀ b∈fp,FpOk X pins H₂ b)(U:scope.kind=.function)(O:Cap X.env cl scope.names)(W:ClIn X.env cl)
  {C:Addr}(hC:s₂.heap.objs.size<=C):(cxC X s₂ H₂ scope cl C fp N).Ok:=by
 have Y:∀ x,((cxC X s₂ H₂ scope cl C fp N).env.kindOf x=some .cell∨(cxC X s₂ H₂ scope cl C fp N).env.kindOf x=some .free)->(x,NameKind.free)∈scope.names:=fun x h =>
  JE (env:=X.env) (fun y hy=>(Cap.mem O y hy).1) h
 refine⟨B.ok.mod,U,B.ok.glob,B.ok.blt,hC,fun x y c h1 h2=>B.ok.inj x y c (ClIn.look W h1) (ClIn.look W h2),fun x hx=>?_,fun x c h=>(by cases h),B.ok.hd,B.ok.frames,.inl rfl,fun b hb=>?_,B.bs,t8 B.ok.bsz B.sz,fun b o e hb=>?_,fun b hb z=>?_,B.stack,B.stkFree⟩
 ·obtain⟨q1,q2⟩:=(Cap.mem O _ (Y x hx)).2 rfl;obtain⟨c,hc⟩:=B.ok.has x (.inl q1);exact⟨c,q2.trans hc⟩
 ·obtain⟨f0,f1,f3,f4,f5,f6⟩:=Z b hb;obtain⟨o,ho,_⟩:=T.obj 0 _ st b hb;exact⟨gP (gG (gv ho) hC),fun x c e=>f5 x c (ClIn.look W e)⟩
 ·obtain⟨f0,f1,f3,f4,f5,f6⟩:=Z b hb;rcases f4 with f4|f4
  ·exact B.ok.noex b o e f4
  ·exact absurd (gG (gv (B.ok.bs b o e).1) f4) (tB _)
 ·obtain⟨f0,f1,f3,f4,f5,f6⟩:=Z b hb;rcases gl.mp (B.stkSub b z)with q|q
  ·exact f1 q
  ·exact f3 q
theorem Kp(U:Inv X pins σ H₂ s₂)(T:Turn X.prog X.w X.K tg J fp it tn)(st:tn 0 s₂.heap)(f2:∀ b∈fp,FpOk X pins H₂ b)(Z:scope.kind=.function)(W:Cap X.env cl scope.names)(Y:ClIn X.env cl)
  (hsl:Kn (relabel scope X.env) X.N N)(h4:N.length=X.N.length+n){C tk:Nat}{B:Heap}{m:Str->Option Value}(hC:s₂.heap.objs.size<C)(hns:B.Ns C m)(old:∀ b o,s₂.heap.get? b=some o->B.get? b=some o)
  (h5:B.get? s₂.heap.objs.size=some {cls:=.type "list",data:=.seq #[] 0}) :
  Inv (cxC X s₂ H₂ scope cl C fp N) [] (σ++List.replicate n none) (upd H₂ s₂.heap.objs.size (.lst [])) {s₂ with heap:=B,toks:=tk}:=by
 have hf:H₂ s₂.heap.objs.size=none:=U.hok.fresh (gw _);have hfC:H₂ C=none:=U.hok.fresh (tF hC);have O:∀ x c,X.env.cells.lookup x=some c->∀ v,s₂.heap.IsCell c v->B.IsCell c v:=fun x c _ v ⟨o,ho,hd⟩=>⟨o,old _ _ ho,hd⟩
 have cne:∀ x c,X.env.cells.lookup x=some c->c<s₂.heap.objs.size:=fun x c e=>by
  obtain⟨v,o,ho,_⟩:=U.cell x c e;exact gv ho
 refine⟨qar U T st f2 Z W Y (tF hC),rfl,U.bare,Un.laid old (gw _) hf,⟨m,hns,fun i x v e1 e2 e3=>?_⟩,fun x c e=>?_,?_,fun x c e=>?_,fun p hp=>absurd (show p∈([]:List (Addr×Obj))from hp) (by simp),?_,?_⟩
 ·have hi:i<σ.length:=by
   by_cases hi:i<σ.length
   ·exact hi
   ·rw [t4 (by omega),fx]at e2
    split at e2<;>cases e2
  rw [hW hi]at e2;obtain⟨q1,q2⟩:=hsl i x (by rw [<- U.len];exact hi) e1 e3
  have q3:(x,NameKind.free)∈scope.names:=JE (env:=X.env) (fun y hy=>(Cap.mem W y hy).1) (.inl q2)
  obtain⟨k1,k2⟩:=(Cap.mem W _ q3).2 rfl;obtain⟨m2,hn2,hl⟩:=U.loc;obtain⟨u,ru,lk⟩:=hl i x v q1 e2 (.inr (.inl k1));refine⟨u,ru,?_⟩;rcases lk with⟨z,_⟩|⟨_,c,hc,h3⟩
  ·rw [show X.env.kindOf x=some .cell from k1]at z;cases z
  ·exact .inr ⟨.inl q2,c,by show cl.lookup x=some c;exact k2.trans hc,O x c hc _ h3⟩
 ·obtain⟨v,q⟩:=U.cell x c (ClIn.look Y e);exact⟨v,O x c (ClIn.look Y e) v q⟩
 ·show upd H₂ s₂.heap.objs.size (.lst []) C=none;rw [qt (fU hC)];exact hfC
 ·have:=cne x c (ClIn.look Y e);show upd H₂ s₂.heap.objs.size (.lst []) c=none;rw [qt (gP this)];exact U.freeC x c (ClIn.look Y e)
 ·exact U.hok.laid old (gw _) ⟨tZ _,[],0,.nil,h5⟩
 ·simp [U.len,h4,cxC]
def vB(ρ:Rho):Prop:=∀(i:Nat) (w:En),ρ[i]?=some (some w)->w.own=false
def wY(gf:GF):Prop:=∀ d ρ ρ1,vB ρ->gf d ρ=.ok ρ1->vB ρ1
theorem qas{ρ:Rho}(h:vB ρ)(i:Nat)(d:D):vB (ρ.set i (some (.fz d))):=fun j w e=>by
 rcases qE e with⟨_,z⟩|⟨_,z⟩
 ·cases z;rfl
 ·exact h j w z
theorem zk(i:Nat):wY (gV i):=fun d ρ ρ1 h e=>by cases e;exact qas h i d
theorem Kq(n:Nat)(ρ:Rho):vB (zZ n ρ):=fun i w e=>by
 unfold zZ at e;by_cases hi:i<ρ.length
 ·rw [hW (by simpa using hi),gX]at e
  cases q:ρ[i]? with
  | none=>rw [q]at e;cases e
  | some y =>
   rw [q]at e;cases y with
   | none=>cases e
   | some w'=>cases w'<;>first|(simp [ro]at e;done)|(simp [ro]at e;subst e;rfl)
 ·rw [t4 (by simpa using hi),fx]at e
  split at e<;>cases e
inductive Tests(X:Cx)(F0 H0:Hp):List Expr->TF->Prop
 | nil:Tests X F0 H0 [] je
 | one {c:Expr} {t:TF}:ST X F0 H0 c t->Tests X F0 H0 [c] t
theorem Kr{X:Cx}{F0 H0:Hp}{ifs:List Expr}{t:TF}(h:Tests X F0 H0 ifs t){pins:List (Addr×Obj)}{s:Shared}{σ:St}{F H:Hp}{ρ:Rho}{Q:Bool->Shared->Prop}(S:StOk (kx X) F0 H0 F H ρ σ)(I:Inv X pins σ H s)
  (k:KE (XP X F0 H0) (t ρ) fun b=>∀ F' H' s',Gr F H F' H'->Inv X pins σ H' s'->Q b s') :
  wpAny (model X.prog X.w) X.A (forIn ifs true fun c r=>if r=true then do let ok <- isTrue c X.env (eval c X.env);pure (ForInStep.yield ok)else pure (ForInStep.yield r)) Q X.xe s:=by
 cases h with
 | nil=>exact wpAny_tests_nil (k F H s (Gr.refl S.s) I)
 | one h=>exact wpAny_tests_one (h pins s σ F H ρ Q S I k)
theorem qat{X:Cx}{pins:List (Addr×Obj)}{σ:St}{F₂ H₂:Hp}{s₂ O:Shared}{fp:List Addr}{it:Addr}{tn:Nat->Heap->Prop}{J:It}{tg elt iter:Expr}{ifs:List Expr}{scope:Scope}{cl:List (Str×Addr)}{N:List Str}{C p:Addr}
  {σ':St}{ρ':Rho}{ds:List D}{pos:Pos}{gf:GF}{t:TF}{e:EF}{RR:Result->Shared->Prop}(h3:Le F₂ H₂)(T:Turn X.prog X.w X.K tg J fp it tn)(hc:X.calm=true)(st:tn 0 O.heap)(Wk:Walk (kx X) J F₂ H₂ ds)
  (hfp:∀ b∈fp,FpOk (cxC X s₂ H₂ scope cl C fp N) [] (upd H₂ p (.lst [])) b)(hp:H₂ p=none)(I4:Inv (cxC X s₂ H₂ scope cl C fp N) [] σ' (upd H₂ p (.lst [])) O)(S4:StOk (kx X) F₂ H₂ F₂ H₂ ρ' σ')(no:vB ρ')(hno:wY gf)
  (hg:SG (cxC X s₂ H₂ scope cl C fp N) F₂ H₂ tg gf)(ht:Tests (cxC X s₂ H₂ scope cl C fp N) F₂ H₂ ifs t)(he:SE (cxC X s₂ H₂ scope cl C fp N) F₂ H₂ elt e)(hsz:ds.length<=sz)
  (k:KE (fun _=>False) (zQ gf t e ds ρ') fun ys=>∀ B F1 H1 vs s1,Gr F₂ H₂ F1 H1->F1 p=none->H1 p=some (.lst vs)->Reps (kx X) F1 vs ys->Inv (cxC X s₂ H₂ scope cl C fp N) [] B H1 s1->RR (.ok .next) s1) :
  codeAny (model X.prog X.w) X.A (.compLoop (.ListComp elt [⟨tg,iter,ifs,0⟩] scope pos) 0 (.ref it) (.ref p) (compEnvC scope cl C X.env)) RR O:=by
 have W:∀{H':Hp},(∀ b∈fp,H' b=none)->∀ b∈fp,FpOk (cxC X s₂ H₂ scope cl C fp N) [] H' b:=fun hn b hb=>⟨hn b hb,(hfp b hb).2⟩
 obtain⟨tgv,PGv,hgv⟩:=hg;refine compLoop (fun m s=>∃ i B F1 H1 ρ1 vs,∃ as:List D,m=ds.length-i/\i<=ds.length/\Inv (cxC X s₂ H₂ scope cl C fp N) [] B H1 s/\tn i s.heap/\(∀ b∈fp,H1 b=none)/\StOk (kx X) F₂ H₂ F1 H1 ρ1 B/\vB ρ1 /\
  F1 p=none/\H1 p=some (.lst vs)/\Reps (kx X) F1 vs as/\as.length<=i /\
  KE (fun _=>False) (zQ gf t e (ds.drop i) ρ1) (fun ys=>∀ B F1 H1 vs s1,Gr F₂ H₂ F1 H1->F1 p=none->H1 p=some (.lst vs)->Reps (kx X) F1 vs (as++ys)->Inv (cxC X s₂ H₂ scope cl C fp N) [] B H1 s1->RR (.ok .next) s1)) ?_ ds.length
  ⟨0,σ',F₂,upd H₂ p (.lst []),ρ',[],[],by simp,tZ _,I4,st,fun b hb=>(hfp b hb).1,S4.side hp (Le.none h3 hp) no,no,Le.none h3 hp,qN,rfl,gw _,by simpa using k⟩
 rintro m s ⟨i,B,F1,H1,ρ1,vs,as,rfl,hi,I1,st1,fr1,S1,no1,fp1,hp1,rs1,la,k1⟩;by_cases hlt:i<ds.length
 ·have ed:ds[i]?=some ds[i]:=by simp [hlt]
  have edr:ds.drop i=ds[i]::ds.drop (i+1):=fQ hlt;obtain⟨go,yl⟩:=Wk.go i ds[i] F1 H1 ed S1.gr.f S1.s S1.gr.h;rw [edr]at k1;refine thn (T.item (cxC X s₂ H₂ scope cl C fp N) rfl rfl rfl hc i [] s B H1 _ I1 (W fr1) st1 go) fun r s1' ⟨u,hr,h4⟩=>?_
  subst hr;refine thn h4 fun _ s5 ⟨x,H5,I5,r5,y5,st5,fr5⟩=>?_
  obtain⟨F5,g5,rx⟩:=yl x H5 y5;have I5':=I5.pinned (W fr5) (T.obj _ _ st5);have S5:=S1.grow g5;have k1:=KE.bind k1;cases eg:gf ds[i] ρ1 with
  | exc z=>rw [eg]at k1;exact k1.elim
  | stuck=>rw [eg]at k1;exact k1.elim
  | ok ρ2 =>
   rw [eg]at k1;have no2:=hno _ _ _ no1 eg;have k1:KE (fun _=>False) (t ρ2) _:=KE.bind k1
   refine thn (PGv _ s5 B H5 x u (fun Z H6=>H6=H5/\StOk (kx X) F₂ H₂ F5 H5 ρ2 Z) I5' r5 (hgv B F5 H5 ρ1 x ds[i] _ S5 rx (by rw [eg];exact fun B S=>⟨rfl,S⟩))) fun _ s6 ⟨Z,H6,I6,e6,S6⟩=>?_
   subst e6;have Y:∀{σ7:St} {F7 H7:Hp} {s7:Shared} {vs7:List V} {U:List D},Inv (cxC X s₂ H₂ scope cl C fp N) ([]++ka fp s5.heap) σ7 H7 s7->StOk (kx X) F₂ H₂ F7 H7 ρ2 σ7->F7 p=none->H7 p=some (.lst vs7)->Reps (kx X) F7 vs7 U->U.length<=i+1 ->
     KE (fun _=>False) (zQ gf t e (ds.drop (i+1)) ρ2) (fun ys=>∀ B F1 H1 vs s1,Gr F₂ H₂ F1 H1->F1 p=none->H1 p=some (.lst vs)->Reps (kx X) F1 vs (U++ys)->Inv (cxC X s₂ H₂ scope cl C fp N) [] B H1 s1->RR (.ok .next) s1) ->
     ∃ m,m<ds.length-i/\∃ i B F1 H1 ρ1 vs,∃(as:List D),m=ds.length-i/\i<=ds.length/\Inv (cxC X s₂ H₂ scope cl C fp N) [] B H1 s7/\tn i s7.heap/\(∀ b∈fp,H1 b=none)/\StOk (kx X) F₂ H₂ F1 H1 ρ1 B/\vB ρ1 /\
      F1 p=none/\H1 p=some (.lst vs)/\Reps (kx X) F1 vs as/\as.length<=i /\
      KE (fun _=>False) (zQ gf t e (ds.drop i) ρ1) (fun ys=>∀ B F1 H1 vs s1,Gr F₂ H₂ F1 H1->F1 p=none->H1 p=some (.lst vs)->Reps (kx X) F1 vs (as++ys)->Inv (cxC X s₂ H₂ scope cl C fp N) [] B H1 s1->RR (.ok .next) s1):=by
    intro σ7 F7 H7 s7 vs7 U I7 S7 f7 h7 r7 l7 k7;refine⟨ds.length-(i+1),by omega,i+1,σ7,F7,H7,ρ2,vs7,U,rfl,hlt,I7.unpinned,T.keep _ _ _ st5 fun b hb o e=>(I7.pin (b,o) (gF _ (gF _ (kf hb e)))).1,fun b hb=>?_,S7,no2,f7,h7,r7,l7,k7⟩
    obtain⟨o,e,d⟩:=T.obj _ _ st5 b hb;exact(I7.pin (b,o) (gF _ (gF _ (kf hb e)))).2.1
   have nf5:F5 p=none:=g5.no fp1 (hp1);refine Kr ht S6 I6 (KE.impX k1 (fun b kb F7 H7 s7 g7 I7=>?_) fun _ z=>z)
   have nf7:F7 p=none:=g7.no nf5 (g5.h _ _ hp1);have hp7:H7 p=some (.lst vs):=g7.h _ _ (g5.h _ _ hp1);have l17:Le F1 F7:=Le.trans g5.f g7.f;cases b with
   | false =>
    rw [gD fw];exact Y I7 (S6.grow g7) nf7 hp7 (Reps.le l17 _ rs1) (by omega) kb
   | true =>
    rw [gB rfl];have kb:KE (fun _=>False) ((e ρ2).bind fun w=>w.st.bind fun y=>(zQ gf t e (ds.drop (i+1)) ρ2).bind fun ys=>.ok (y::ys)) _:=kb
    refine he _ s7 Z F7 H7 ρ2 _ (S6.grow g7) I7 (KE.impX (KE.bind kb) (fun wv kw v u F8 H8 s8 g8 q8 r8 I8=>?_) fun _ z=>z)
    cases es:wv.st with
    | exc z=>rw [es]at kw;exact kw.elim
    | stuck=>rw [es]at kw;exact kw.elim
    | ok y =>
     rw [es]at kw;have kw:KE (fun _=>False) ((zQ gf t e (ds.drop (i+1)) ρ2).bind fun ys=>.ok (y::ys)) _:=kw
     have kw:=KE.bind kw;have ry:=Vok.st g7.s g8 q8 es;obtain⟨g9,_⟩:=zC g7.s g8;have S9:=(S6.grow g7).grow g9;have nf9:qL H7 F8 H8 p=none:=g9.no nf7 hp7;have lv:vs.length=as.length:=Reps.length rs1;refine thn (ki (X:=cxC X s₂ H₂ scope cl C fp N) _ s8 Z H8 (.ref p) [v] (.ref p) [u] (fun _ H9=>H9=upd H8 p (.lst (vs++[v]))) I8 rfl (.cons r8 .nil) ⟨p,vs,v,rfl,rfl,g8.h _ _ hp7,by rw [lv,<- jB];omega,rfl⟩) fun _ s9 ⟨_,H9,I9,_,e9⟩=>?_
     subst e9;refine Y I9 (S9.side hp nf9 no2) nf9 qN (Reps.append (Reps.le (Le.trans l17 g9.f) _ rs1) (Reps.one ry)) (by simp;omega) ?_
     exact kw.imp fun ys q B F1 H1 vs s1=>by
      have:(as++[y])++ys=as++(y::ys):=by simp
      rw [this];exact q B F1 H1 vs s1
 ·have ei:i=ds.length:=by omega
  subst ei;rw [List.drop_length]at k1;refine thn (T.done (cxC X s₂ H₂ scope cl C fp N) rfl rfl rfl hc _ [] s B H1 _ I1 (W fr1) st1 (Wk.stop _ F1 H1 (gw _) S1.gr.f S1.s S1.gr.h)) fun r s4' ⟨hr,I4'⟩=>?_
  subst hr;exact k1 B F1 H1 vs s4' S1.gr fp1 hp1 (by simpa using rs1) I4'
end
open PySem PySem.Spec PyProof.Rows L2
def clOf(env:Env):List (Str×NameKind)->List (Str×Addr)->List (Str×Addr)
 | [],cs=>cs
 | (n,k)::r,cs=>if k==.free then clOf env r ((n,(env.cells.lookup n).getD 0)::cs)else clOf env r cs
def zR(env:Env)(names:List (Str×NameKind)):Bool:=names.all fun y=>y.2 != .cell&&(y.2 != .free||env.kindOf y.1==some .cell)
theorem JG{scope:Scope}{env:Env}(z:zR env scope.names=true)(B:∀ n,env.kindOf n=some .cell->∃ c,env.cells.lookup n=some c):closureFor scope env=pure (clOf env scope.names []):=by
 unfold closureFor;have go:∀(names:List (Str×NameKind)) (cs:List (Str×Addr)),zR env names=true ->
   (forIn names cs fun(x:Str×NameKind) (r:List (Str×Addr))=>match x with|(name,kind)=>if (kind==NameKind.free)=true then do let y <- cellOf env name;pure (ForInStep.yield ((name,y)::r))else pure (ForInStep.yield r):Sem (List (Str×Addr)))=pure (clOf env names cs):=by
  intro names
  induction names with
  | nil=>intro cs _;rfl
  | cons y r ih =>
   intro cs z;obtain⟨n,k⟩:=y;unfold zR at z;rw [fZ,gK,gK]at z;rw [dB];by_cases hk:(k==NameKind.free)=true
   ·have O:k=.free:=by simpa using hk
    have:env.kindOf n=some .cell:=by
     have:=z.1.2;simp [O]at this;simpa using this
    obtain⟨c,hc⟩:=B n this;have e:cellOf env n=pure c:=by simp [cellOf,hc]
    simp only [hk,dz,e,clOf,hc];exact ih _ z.2
   ·simp only [hk,clOf,hX,fP];exact ih _ z.2
 exact congrArg (fun(m:Sem (List (Str×Addr)))=>m >>= fun s=>pure s) (go scope.names [] z)
theorem xQ{env:Env}:∀(names:List (Str×NameKind)) (cs:List (Str×Addr)),zR env names=true->(∀ n,env.kindOf n=some .cell->∃ c,env.cells.lookup n=some c)->ClIn env cs->ClIn env (clOf env names cs)
 | [],cs,_,_,h=>h
 | (n,k)::r,cs,hb,has,h=>by
  unfold zR at hb;rw [fZ,gK,gK]at hb;unfold clOf;by_cases hk:(k==NameKind.free)=true
  ·rw [gB hk];have z:k=.free:=by simpa using hk
   have:env.kindOf n=some .cell:=by
    have:=hb.1.2;simp [z]at this;simpa using this
   obtain⟨c,hc⟩:=has n this;exact xQ r _ hb.2 has ⟨by rw [hc];rfl,h⟩
  ·rw [gD hk];exact xQ r _ hb.2 has h
theorem JH{env:Env}:∀(names:List (Str×NameKind)) (cs:List (Str×Addr)),zR env names=true->(∀ n,env.kindOf n=some .cell->∃ c,env.cells.lookup n=some c)->ClIn env cs ->
  ∀ n,((n,NameKind.free)∈names∨(∃ c,cs.lookup n=some c))->∃ c,(clOf env names cs).lookup n=some c
 | [],cs,_,_,_,n,h=>by
  rcases h with h|h
  ·cases h
  ·exact h
 | (m,k)::r,cs,hb,has,hcs,n,h=>by
  have O:=hb;unfold zR at hb;rw [fZ,gK,gK]at hb;unfold clOf;by_cases hk:(k==NameKind.free)=true
  ·rw [gB hk];have B:k=.free:=by simpa using hk
   have hc:env.kindOf m=some .cell:=by
    have:=hb.1.2;simp [B]at this;simpa using this
   obtain⟨c,hc⟩:=has m hc;refine JH r ((m,(env.cells.lookup m).getD 0)::cs) hb.2 has (And.intro (by rw [hc];rfl) hcs) n ?_
   by_cases e:n=m
   ·subst e;exact .inr ⟨(env.cells.lookup n).getD 0,by simp [List.lookup]⟩
   ·rcases h with h|⟨c',h⟩
    ·rcases gl.mp h with z|z
     ·exact absurd (congrArg Prod.fst z) e
     ·exact .inl z
    ·have:(n==m)=false:=by simpa using e
     exact .inr ⟨c',by simp [List.lookup,this,h]⟩
  ·rw [gD hk];refine JH r _ hb.2 has hcs n ?_;rcases h with h|h
   ·rcases gl.mp h with z|z
    ·have:k=.free:=(congrArg Prod.snd z).symm;rw [this]at hk;exact absurd rfl hk
    ·exact .inl z
   ·exact .inr h
theorem Ks{scope:Scope}{env:Env}(O:zR env scope.names=true)(B:∀ n,env.kindOf n=some .cell->∃ c,env.cells.lookup n=some c):Cap env (clOf env scope.names []) scope.names:=by
 have U:=xQ scope.names [] O B trivial;have W:∀(names:List (Str×NameKind)),(∀ y∈names,y∈scope.names)->Cap env (clOf env scope.names []) names:=by
  intro names
  induction names with
  | nil=>intro _;trivial
  | cons y r ih =>
   intro h;obtain⟨n,k⟩:=y;have hy:=h (n,k) gY;have q:=p9.mp O (n,k) hy;simp only [gK]at q;refine⟨⟨by simpa using q.1,fun hk=>?_⟩,ih fun z hz=>h z (gp _ hz)⟩
   subst hk;have q2:env.kindOf n=some .cell:=by
    have:=q.2;simp at this;simpa using this
   obtain⟨c,hc⟩:=JH scope.names [] O B trivial n (.inl hy);exact⟨q2,hc.trans (ClIn.look U hc).symm⟩
 exact W scope.names fun y hy=>hy
section
variable{X:Cx}{F0 H0:Hp}{pos:Pos}{tg elt iter:Expr}{ifs:List Expr}{scope:Scope}{fi:IF}{gf:GF}{t:TF}{e:EF}
abbrev cxD(X:Cx)(scope:Scope)(N:List Str)(s₂:Shared)(H₂:Hp)(C:Addr)(fp:List Addr):Cx:=cxC X s₂ H₂ scope (clOf X.env scope.names []) C fp N
theorem Kt{n:Nat}(N:List Str){use:Option (Value->Sem Unit)}(hi:SIc X F0 H0 tg iter fi)(hno:wY gf)
  (hg:∀ s₂ F₂ H₂ C fp,SG (cxD X scope N s₂ H₂ C fp) F₂ H₂ tg gf)(ht:∀ s₂ F₂ H₂ C fp,Tests (cxD X scope N s₂ H₂ C fp) F₂ H₂ ifs t)(he:∀ s₂ F₂ H₂ C fp,SE (cxD X scope N s₂ H₂ C fp) F₂ H₂ elt e)
  (hc:X.calm=true)(Y:scope.kind=.function)(h3:zR X.env scope.names=true)(h5:wl (relabel scope X.env).names X.N N=true)(h7:N.length=X.N.length+n)
  (h6:∀ x∈scope.names,x.2=.local->scope.names.lookup x.1=some .local)(hs:∀ x,foldedSetIterable iter X.env x=pure x)
  {pins:List (Addr×Obj)}{s:Shared}{σ:St}{F H:Hp}{ρ:Rho}{Q:Value->Shared->Prop}{h8:Pos}(S:StOk (kx X) F0 H0 F H ρ σ)(I:Inv X pins σ H s)
  (h:KE (XP X F0 H0) (qT n fi gf t e ρ) fun w=>∀(p C:Addr) F1 H1 s1 m,Gr F H F1 H1->Vok (kx X) H F1 H1 (.ref p) w->Inv X pins σ H1 s1->s1.heap.Ns C m ->
   (∀(s2:Shared) H2 h' (σ':St),Inv X pins σ' H2 s2->H2 C=none->(∀ b o,b≠C->s2.heap.get? b=some o->h'.get? b=some o)->Inv X pins σ' H2 {s2 with heap:=h'})->H1 C=none->C≠X.env.locals->(∀ x c,X.env.cells.lookup x=some c->c≠C) ->
   compPost (model X.prog X.w) X.A X.xe use Q (.ref p) C (.ok .next) s1) :
  wpAny (model X.prog X.w) X.A (comprehension (.ListComp elt [⟨tg,iter,ifs,0⟩] scope pos) scope X.env h8 (newList []) false (eval iter X.env) use) Q X.xe s:=by
 have has:∀ n,X.env.kindOf n=some .cell->∃ c,X.env.cells.lookup n=some c:=fun n hn=>I.ok.has n (.inl hn)
 have hCl:=xQ scope.names [] h3 has trivial;have hCp:=Ks h3 has;refine cB rfl hs (JG h3 has) Y h6 ?_;obtain⟨wi,PIv,hwi⟩:=hi;cases ed:fi ρ with
 | exc x=>have h:=KE.bind h;rw [ed]at h;exact h.elim
 | stuck=>have h:=KE.bind h;rw [ed]at h;exact h.elim
 | ok ds =>
  have h:=KE.bind h;rw [ed]at h;refine thn (PIv pins s σ H (fun J H1=>∃ F1,Gr F H F1 H1/\Walk (kx X) J F1 H1 ds) I (hwi σ F H ρ _ S (by rw [ed];exact fun F1 H1 J g W=>⟨F1,g,W⟩))) fun v s1 h1=>thn h1 fun itv s₂ h2=>?_
  obtain⟨it,fp,tn,J,H₂,rfl,I2,T,st2,f2,F₂,g2,Wk⟩:=h2;refine tw (wpAny_newFunctionEnv (fun x hx=>(Cap.mem hCp x hx).1) (by intro y hy;simp at hy) (fun Z U B=>?_) Y)
  dsimp only at U B ⊢;generalize hH2:s₂.heap.push {cls:=.type "list",dict:=none,data:=.seq ([]:List Value).toArray}=HP at U B ⊢;have hC:HP.objs.size=s₂.heap.objs.size+1:=by rw [<- hH2,p5]
  have hDC:s₂.heap.objs.size≠HP.objs.size:=by rw [hC];exact gP (pM _)
  have old:∀ b o,s₂.heap.get? b=some o->Z.get? b=some o:=fun b o e =>
   B.extBut b o (gP (by rw [hC];exact pC (gv e))) (gg _ (hH2▸gg _ e))
  have h9:Z.get? s₂.heap.objs.size=some {cls:=.type "list",data:=.seq #[] 0}:=B.extBut _ _ hDC (gg _ (hH2▸gH _ rfl));have hp:H₂ s₂.heap.objs.size=none:=I2.hok.fresh (gw _);have O:s₂.heap.objs.size<HP.objs.size:=by rw [hC];exact pM _
  have hfC:H₂ HP.objs.size=none:=I2.hok.fresh (tF O);have I4:=Kp (N:=N) (n:=n) (tk:=s₂.toks+([]:List (Str×Value)).length) I2 T st2 f2 Y hCp hCl (JF h5) h7 O U old h9;have st4:tn 0 Z:=T.keep _ _ _ st2 fun b hb o e=>old b o e
  have S4:StOk (kx X) F₂ H₂ F₂ H₂ (zZ n ρ) (σ++List.replicate n none):=Ko n (S.grow g2);have ha:∀ b∈fp,FpOk (cxD X scope N s₂ H₂ HP.objs.size fp) [] (upd H₂ s₂.heap.objs.size (.lst [])) b:=fun b hb=>by
   obtain⟨f0,f1,f3,f4,f5,f6⟩:=f2 b hb;obtain⟨o,ho,_⟩:=T.obj 0 _ st2 b hb;have lb:=gv ho;refine⟨by rw [qt (gP lb)];exact f0,(show b≠HP.objs.size from gP (pE lb O)),fun z=>?_,.inl hb,fun x c e=>f5 x c (ClIn.look hCl e),fun q hq=>absurd (show q∈([]:List (Addr×Obj))from hq) (by simp)⟩
   rcases gl.mp (I2.stkSub b z)with q|q
   ·exact f1 q
   ·exact f3 q
  rw [yp]at h;by_cases csz:ds.length<=sz
  ·rw [gB csz]at h;have run:∀ h4:Shared,h4={s₂ with heap:=Z,toks:=s₂.toks+([]:List (Str×Value)).length} ->
     codeAny (model X.prog X.w) X.A (.compLoop (.ListComp elt [⟨tg,iter,ifs,0⟩] scope pos) 0 (.ref it) (.ref s₂.heap.objs.size) (compEnvC scope (clOf X.env scope.names []) HP.objs.size X.env))
      (compPost (model X.prog X.w) X.A X.xe use Q (.ref s₂.heap.objs.size) HP.objs.size) h4:=by
    rintro h4 rfl;refine qat (pins:=pins) (σ:=σ) (N:=N) (s₂:=s₂) (F₂:=F₂) g2.s T hc st4 Wk ha hp I4 S4 (Kq n ρ) hno (hg _ _ _ _ _) (ht _ _ _ _ _) (he _ _ _ _ _) csz (KE.impX (KE.bind h) (fun ys k σ1 F1 H1 vs s1 g1 nf hv rs I1=>?_) fun _ z=>z)
    have J1:Inv X pins σ H1 s1:=I2.call' (ch:=fp) I1.os I1.base I1.hok I1.bare fun b hb=>by
     obtain⟨f0,f1,f3,f4,f5,f6⟩:=f2 b hb;exact⟨f4,f1,f5,f6⟩
    obtain⟨m1,hn1,_⟩:=I1.loc;have cl2:∀ x c,X.env.cells.lookup x=some c->c≠HP.objs.size:=fun x c e z=>by
     obtain⟨v,o,ho,_⟩:=I2.cell x c e;exact tB _ (pE (gv ho) (z▸O))
    have lne:HP.objs.size≠X.env.locals:=hG (gP (pE I2.lt O));refine k s₂.heap.objs.size HP.objs.size F1 H1 s1 m1 (g2.trans g1) ⟨_,_,rfl,Le.none g2.h hp,nf,hv,rs⟩ J1 hn1 (fun s2 H2 h' σ' J2 hn kk=>?_) I1.free lne cl2
    refine J2.turned (t':=s2.toks) kk hn lne (.inr (t8 I2.sz (tF O))) cl2 fun q hq z=>?_
    exact tB _ (pE (gv (I2.pin q hq).1) (z▸O))
   exact codeAny_compStart_list (run _ rfl) (T.self _ 0 _ _ _ st4 (run _ rfl))
  ·rw [gD csz]at h;exact h.elim
theorem vP{n:Nat}(N:List Str)(hi:SIc X F0 H0 tg iter fi)(Y:wY gf)
  (Z:∀ s₂ F₂ H₂ C fp,SG (cxD X scope N s₂ H₂ C fp) F₂ H₂ tg gf)(ht:∀ s₂ F₂ H₂ C fp,Tests (cxD X scope N s₂ H₂ C fp) F₂ H₂ ifs t)(he:∀ s₂ F₂ H₂ C fp,SE (cxD X scope N s₂ H₂ C fp) F₂ H₂ elt e)
  (hc:X.calm=true:=by rfl)(O:scope.kind=.function:=by rfl)(U:zR X.env scope.names=true:=by rfl)(z:wl (relabel scope X.env).names X.N N=true:=by rfl)(W:N.length=X.N.length+n:=by rfl)
  (B:∀ x∈scope.names,x.2=.local->scope.names.lookup x.1=some .local:=by decide +kernel)(hs:∀ x,foldedSetIterable iter X.env x=pure x:=by intro _;rfl) :
  SE X F0 H0 (.ListComp elt [⟨tg,iter,ifs,0⟩] scope pos) (qT n fi gf t e):=by
 intro pins s σ F H ρ Q S I h;rw [eval_ListComp];refine Kt N hi Y Z ht he hc O U z W B hs S I (h.imp fun w k p C F1 H1 s1 m g q I1 hn turn hC _ _=>⟨m,hn,fun h' sb=>?_⟩)
 exact k (.ref p) (.ref p) F1 H1 _ g q rfl (turn s1 H1 h' σ I1 hC fun b o hb e=>(sb.2 b hb).trans e)
theorem xR(i:Nat){x:Str}{pos' B:Pos}{n:Nat}(N:List Str)(hN:X.N.Nodup)(hi:SIc X F0 H0 tg iter fi)(hno:wY gf)
  (hg:∀ s₂ F₂ H₂ C fp,SG (cxD X scope N s₂ H₂ C fp) F₂ H₂ tg gf)(ht:∀ s₂ F₂ H₂ C fp,Tests (cxD X scope N s₂ H₂ C fp) F₂ H₂ ifs t)(he:∀ s₂ F₂ H₂ C fp,SE (cxD X scope N s₂ H₂ C fp) F₂ H₂ elt e)
  (hix:X.N[i]?=some x:=by rfl)(hx:Loc X.env.scope x:=by trivial)(hsw:swapsWith (.ListComp elt [⟨tg,iter,ifs,0⟩] scope pos) (some (.Name x pos')) B.line X.env=pure true:=by rfl)
  (hf:X.fn x=true∨X.env.scope.names.lookup x=some .local:=by trivial)
  (hc:X.calm=true:=by rfl)(W:scope.kind=.function:=by rfl)(Y:zR X.env scope.names=true:=by rfl)(O:wl (relabel scope X.env).names X.N N=true:=by rfl)(Z:N.length=X.N.length+n:=by rfl)
  (U:∀ x∈scope.names,x.2=.local->scope.names.lookup x.1=some .local:=by decide +kernel)(hs:∀ x,foldedSetIterable iter X.env x=pure x:=by intro _;rfl) :
  SS X F0 H0 (.Assign [.Name x pos'] (.ListComp elt [⟨tg,iter,ifs,0⟩] scope pos) B) (qi i (qT n fi gf t e)):=by
 intro pins s σ F H ρ D S I h;rw [d6 _ _ _ _ hsw];refine g6 (pI (g6 ?_));show wpAny _ X.A (do let _ <- comprehension (.ListComp elt [⟨tg,iter,ifs,0⟩] scope pos) scope X.env _ (newList []) false (eval iter X.env) (some (assign (.Name x pos') X.env))) _ _ s
 refine g6 (fq (Kt (use:=some (assign (.Name x pos') X.env)) (Q:=fun _ s'=>SP X pins D .next s') N hi hno hg ht he hc W Y O Z U hs S I ((KE.bind (PostS.of h)).imp fun w k p C F1 H1 s1 m g q I1 hn turn hC hL hcl=>?_)) (fun _ s' hq=>gk (gk hq)) fun _ _ e=>e)
 obtain⟨w',e1,k2,rfl⟩:=uZ k;show wpAny _ X.A (assign (.Name x pos') X.env (.ref p)) _ _ _;refine dO (Jg I1 hN hix hx (v:=.ref p) rfl (fun s2 I2 hch=>?_) hf)
 obtain⟨a,sb,ha⟩:=hch;have aC:C≠a:=by
  rcases ha with z|z
  ·rw [z];exact hL
  ·exact fun q=>hcl x a z q.symm
 refine⟨m,hn.sameBut sb aC,fun h' sb2=>⟨_,H1,turn s2 H1 h' _ I2 hC fun b o hb e=>(sb2.2 b hb).trans e,k2 _ F1 H1 g.f (S.setW g q e1)⟩⟩
end
open PySem PySem.Spec PyProof.Rows L2
def jG:List D->Option (List Int)
 | []=>some []
 | .int i::r=>(match jG r with|some l=>some (i::l)|none=>none)
 | _::_=>none
def yy:Int->List Int->Int
 | m,[]=>m
 | m,x::r=>yy (if x>m then x else m) r
theorem Ku:∀(r:List Int) (m:Int),(yy m r∈m::r)/\∀ a∈m::r,a<=yy m r
 | [],m=>⟨gY,fun a ha=>by simp at ha;subst ha;exact fY _⟩
 | x::r,m=>by
  obtain⟨h1,h2⟩:=Ku r (if x>m then x else m)
  have e:yy m (x::r)=yy (if x>m then x else m) r:=rfl
  rw [e];by_cases c:x>m
  ·rw [gB c]at h1 h2 ⊢;refine⟨gp _ h1,fun a ha=>?_⟩
   rcases gl.mp ha with rfl|ha
   ·have:=h2 x gY;omega
   ·exact h2 a ha
  ·rw [gD c]at h1 h2 ⊢;refine⟨?_,fun a ha=>?_⟩
   ·rcases gl.mp h1 with q|q
    ·rw [q];exact gY
    ·exact gp _ (gp _ q)
   ·rcases gl.mp ha with rfl|ha
    ·exact h2 _ gY
    ·rcases gl.mp ha with rfl|ha
     ·have:=h2 m gY;omega
     ·exact h2 a (gp _ ha)
theorem yz{κ:Kx}{F:Hp}:∀{ds:List D} {vs:List V} {ns:List Int},jG ds=some ns->Reps κ F vs ds->vs=ns.map V.int
 | [],vs,ns,h,r=>by cases h;exact r
 | d::ds,vs,ns,h,r=>by
  obtain⟨v,vr,rfl,r1,r2⟩:=r;cases d<;>first|(cases h;done)|skip
  rename_i i;unfold jG at h;cases e:jG ds with
  | none=>rw [e]at h;cases h
  | some l =>
   rw [e]at h;cases h;cases (show v=.int i from r1)
   rw [yz e r2];rfl
section
variable{X:Cx}{F0 H0:Hp}
def xS:Sum Int Str->D
 | .inl i=>.int i
 | .inr x=>.str x
def JI(e:EF):IF:=fun ρ=>(e ρ).bind fun w=>w.st.bind fun d=>match d with
 | .dK kvs=>.ok (kvs.map fun p=>xS p.1)
 | _=>.stuck
def ItK(ks:List Key):It:=⟨fun i _=>i<ks.length,fun i H x H'=>H'=H/\∃ k,ks[i]?=some k/\x=kV k,fun i _=>ks.length<=i⟩
theorem qau{P:Program}{w:World}{k:Key}{u:Value}(h:(qW P w).is k u=true):RelV (kV k) u:=by
 rcases vI (k:=k) (v:=u) h with⟨i,t,rfl,rfl⟩|⟨x,t,rfl,rfl⟩
 ·exact⟨t,rfl⟩
 ·exact⟨t,rfl⟩
theorem qav{P:Program}{w:World}{K:Frag}{tg:Expr}{a it:Addr}{o:Obj}{es:Array DictEntry}{ep:Nat}{vs:List (Key×Value)}(O:K.lookup a=some o)(h1:o.ExactDict)(h2:o.data=.dict es ep)
  (U:KeysOf (qW P w) es)(W:Pairs (qW P w) es.toList vs)(Y:(vs.map (·.1)).Nodup):Turn P w K tg (ItK (vs.map (·.1))) [it] it (fun i h=>h.IsKeyIter it a i vs.length ep)where
 mem:=by simp
 obj:=fun i h st b hb=>by
  have e:b=it:=by simpa using hb
  subst e;obtain⟨o,e,c,d⟩:=st;exact⟨o,e,fun v z=>by rw [d]at z;cases z⟩
 keep:=fun i h h' st k=>by
  obtain⟨o,e,r⟩:=st;exact⟨o,k it (by simp) o e,r⟩
 item:=by
  intro X hP hw hK hc i pins s σ H E I hf st hg;subst hP hw hK;have hm:s.heap.DictAt (qW X.prog X.w) a vs ep:=⟨o,es,I.kIn a o O,h1,h2,U,W,Y⟩;have hg:i<(vs.map (·.1)).length:=hg
  rw [gy]at hg;obtain⟨f0,f1,f2,f3,f4,f5⟩:=hf it (by simp)
  have hx:vs[i]?=some ((vs[i]).1,(vs[i]).2):=by simp [hg]
  refine wpAny_pyNext_dict_item st hm hx fun key h' ik B sb=>?_
  have I1:Inv X pins σ H {s with heap:=h'}:=I.turned (t':=s.toks) (fun b o hb e=>(sb.2 b hb).trans e) f0 f1 f3 f4 f5
  obtain⟨o',e,c,d⟩:=id B;exact⟨key,rfl,k8 (s:={s with heap:=h'}) e c d (by decide) ⟨kV (vs[i]).1,H,I1,qau ik,⟨rfl,(vs[i]).1,by simp [hg],rfl⟩,B,fun b hb=>(hf b hb).1⟩⟩
 done:=by
  intro X hP hw hK hc i pins s σ H E I hf st hg;subst hP hw hK;have hm:s.heap.DictAt (qW X.prog X.w) a vs ep:=⟨o,es,I.kIn a o O,h1,h2,U,W,Y⟩;have hg:(vs.map (·.1)).length<=i:=hg
  rw [gy]at hg;obtain⟨f0,f1,f2,f3,f4,f5⟩:=hf it (by simp)
  exact wpAny_pyNext_dict_end (I.ok.hd hc) st hm (by simp;omega) fun h' eb=>⟨rfl,I.turned (t':=s.toks) (fun b o hb e=>eb b o hb e) f0 f1 f3 f4 f5⟩
 self:=fun _ _ _ _ _ st h=>wpAny_pyIter_keyiter st h
theorem JJ{κ:Kx}{F:Hp}:∀{kds:List (Sum Int Str×D)} {kvs:List (Key×V)},RepK κ F kvs kds->kvs.map (·.1)=kds.map (·.1)
 | [],_,h=>by cases (show _=_ from h);rfl
 | (k,d)::r,_,h=>by
  obtain⟨v,kr,rfl,h1,h2⟩:=h;simp [JJ h2]
theorem qaw{x:Str}{v:V}{u:Value}{d:D}{tg:Expr}{pos:Pos}(O:X.mg x=some u)(r:RelV v u)(q:∀ F,Rep (kx X) F v d)(U:Gl X x:=by rfl)(hd:(x==("__debug__":Str))=false:=by decide) :
  SI X F0 H0 tg (.Name x pos) (JI (eC d)):=by
 refine⟨fun σ H R=>∃ z,d=.dK z/\R (ItK (z.map (·.1))) H,?_,fun σ F H ρ R S h=>?_⟩
 ·intro pins s σ H R I ⟨z,ed,hR⟩;subst ed;obtain⟨a,kvs,ev,hq,rk⟩:=q (fun _=>none)
  subst ev;cases (show u=Value.ref a from r)
  rcases hq with(hq|⟨_,hq⟩)|⟨hs,o,es,ep,vs,hk,h1,h2,h3,h4,h5,h6⟩
  ·cases hq
  ·cases hq
  ·refine vd I U O ?_ hd;have B:s.heap.DictAt (qW X.prog X.w) a vs ep:=⟨o,es,I.kIn a o hk,h1,h2,h3,h4,h5⟩;have ek:vs.map (·.1)=z.map (·.1):=by rw [<- JJ rk];exact(KV.keys h6).symm
   refine wpAny_pyIter_dict hs B ?_;refine⟨s.heap.objs.size,[s.heap.objs.size],_,_,H,rfl,I.kept (t':=s.toks) fun b o e=>gg _ e,qav hk h1 h2 h3 h4 h5,⟨_,gH _ rfl,rfl,rfl⟩,fun b hb=>?_,?_⟩
   ·have e:b=s.heap.objs.size:=by simpa using hb
    subst e;exact I.fpOk (gw _) (I.hok.fresh (gw _))
   ·rw [ek];exact hR
 ·cases d<;>first|exact h.elim|skip
  rename_i z;refine⟨z,rfl,?_⟩;have h:∀ F1 H1 J,Gr F H F1 H1->Walk (kx X) J F1 H0 (z.map fun p=>xS p.1)->R J H1:=h
  refine h F H _ (Gr.refl S.s) ⟨fun i dd F2 H2 e l1 l2 _=>?_,fun i F2 H2 hi l1 l2 _=>?_⟩
  ·rw [gX]at e;cases ek:z[i]? with
   | none=>rw [ek]at e;cases e
   | some p =>
    rw [ek]at e;have e:xS p.1=dd:=by simpa using e
    have hi:i<z.length:=(gu.mp ek).1;refine⟨by simpa [ItK]using hi,fun y H' hy=>?_⟩
    obtain⟨eh,k,e1,e2⟩:=hy;subst eh;refine⟨F2,Gr.refl l2,?_⟩;rw [gX,ek]at e1;have e1:p.1=k:=by simpa using e1
    subst e1 e2 e;cases p.1<;>rfl
  ·simpa [ItK]using hi
end
open PySem PySem.Spec PyProof.Rows L2
theorem StOk.frz{κ:Kx}{F0 H0 F H:Hp}{ρ:Rho}{σ:St}{i:Nat}{d:D}{a:Addr}(S:StOk κ F0 H0 F H ρ σ)(B:ρ[i]?=some (some (.ow d))):∃ F',Le F F'/\StOk κ F0 H0 F' H (ρ.set i (some (.fz d))) σ:=by
 obtain⟨v,si,b,o,rfl,h0,hf,hh,ro⟩:=S.val i _ B;have l:Le F (upd F b o):=fun c u h=>by rw [qt (jy h hf)];exact h
 refine⟨upd F b o,l,⟨⟨Le.trans S.gr.f l,S.gr.h,fun c u h=>?_,fun c h=>?_⟩,by simpa using S.len,fun j w e=>?_,fun j k w w' c O ej ek oj ok sj sk=>?_,fun j y e=>?_⟩⟩
 ·by_cases e:c=b
  ·subst e;rw [qN]at h;cases h;exact hh
  ·rw [qt e]at h;exact S.gr.s c u h
 ·by_cases e:c=b
  ·subst e;exact .inr (.inl h0)
  ·rw [qt e]at h;exact S.gr.n c h
 ·rcases qE e with⟨rfl,z⟩|⟨ne,z⟩
  ·cases z;refine⟨_,si,?_⟩;have r:=OwnO.le l ro;cases o<;>cases d<;>first
    | exact r.elim
    | exact⟨b,_,rfl,.inl (.inl qN),r⟩
    | exact⟨b,_,rfl,.inl qN,r⟩
  ·obtain⟨v,e1,q⟩:=S.val j w z;refine⟨v,e1,?_⟩;have nb:∀{c},v=.ref c->w.own=true->c≠b:=fun{c} ev ow ec=>by
    subst ev ec;exact S.sep j i w _ c ne z B ow rfl e1 si
   cases w with
   | fz d=>exact Rep.le l d q
   | br d=>obtain⟨c,oc,ec,eh,cr⟩:=q;exact⟨c,oc,ec,eh,OwnO.le l cr⟩
   | ow d=>obtain⟨c,oc,ec,c0,cf,ch,cr⟩:=q;exact⟨c,oc,ec,c0,by rw [qt (nb ec rfl)];exact cf,ch,OwnO.le l cr⟩
   | lk d=>exact⟨Rep.le l d q.1,RawT.le l q.2⟩
   | od d=>obtain⟨c,oc,ec,c0,cf,ch⟩:=q;exact⟨c,oc,ec,c0,by rw [qt (nb ec rfl)];exact cf,ch⟩
 ·rcases qE ej with⟨_,z⟩|⟨nj,ej⟩
  ·cases z;cases oj
  rcases qE ek with⟨_,z⟩|⟨nk,ek⟩
  ·cases z;cases ok
  exact S.sep j k w w' c O ej ek oj ok sj sk
 ·rcases qE e with⟨_,z⟩|⟨nj,ej⟩
  ·cases z
  obtain⟨s1,c,bs,e1,c0,cf,nd,dp,sp⟩:=S.dp j y ej;have nb:∀ x∈c::bs,x≠b:=fun x m z=>by subst z;exact sp i _ _ (hG nj) B rfl m si
  refine⟨fun k z hk ek=>?_,c,bs,e1,c0,by rw [qt (nb c (by simp))];exact cf,nd,Deep.same (fun _ _=>rfl) (fun x m z=>by rw [qt (nb x (gp _ m))];exact z) l dp,fun k w x hk ek ok m=>?_⟩
  ·rcases qE ek with⟨_,q⟩|⟨_,q⟩
   ·cases q
   ·exact s1 k z hk q
  ·rcases qE ek with⟨_,q⟩|⟨_,q⟩
   ·cases q;cases ok
   ·exact sp k w x hk q ok m
theorem zE{X:Cx}{F0 H0:Hp}{st:Stmt}{f:SF}(i:Nat)(h:SS X F0 H0 st f):SS X F0 H0 st (jN i f):=by
 intro pins s σ F H ρ D S I k;unfold jN L3.frz at k;split at k
 ·rename_i d e;obtain⟨F',l,S'⟩:=S.frz (a:=0) e;exact h pins s σ F' H _ D S' I (PostS.le l k)
 ·exact h pins s σ F H ρ D S I k
open PySem PySem.Spec PyProof.Rows L2
def zc{κ:Type} [DecidableEq κ](k:κ)(v:D)(z:List (κ×D)):List (κ×D) :=
 if (z.any fun kv=>decide (kv.1=k))=true then z.map (fun kv=>if kv.1=k then(kv.1,v)else kv)else z++[(k,v)]
def eDK:EF:=fun _=>.ok (.ow (.dK []))
def eDT:EF:=fun _=>.ok (.ow (.dT []))
theorem Kv{κ:Kx}{F:Hp}:∀{kds es:List (Sum Int Str×D)} {kvs us:List (Key×V)},RepK κ F kvs kds->RepK κ F us es->RepK κ F (kvs++us) (kds++es)
 | [],_,_,_,h,k=>by cases (show _=_ from h);exact k
 | (q,d)::r,_,_,_,h,k=>by
  obtain⟨v,kr,rfl,h1,h2⟩:=h;exact⟨v,kr++_,rfl,h1,Kv h2 k⟩
theorem JK{κ:Kx}{F:Hp}{k:Key}{v:V}{d:D}(z:Rep κ F v d):∀{kds:List (Sum Int Str×D)} {kvs:List (Key×V)},RepK κ F kvs kds ->
  RepK κ F (kvs.map (fun kv=>if kv.1=k then(kv.1,v)else kv)) (kds.map (fun kv=>if kv.1=k then(kv.1,d)else kv))
 | [],_,h=>by cases (show _=_ from h);rfl
 | (q,e)::r,_,h=>by
  obtain⟨u,kr,rfl,h1,h2⟩:=h;by_cases c:q=k
  ·subst c;have hr:=JK (k:=q) z h2;simp only [gN,gB];exact⟨v,_,rfl,z,hr⟩
  ·have hr:=JK (k:=k) z h2;simp only [gN,gD c];exact⟨u,_,rfl,h1,hr⟩
theorem qax{κ:Kx}{F:Hp}(k:Key){z:List (Sum Int Str×D)}{kvs:List (Key×V)}(h:RepK κ F kvs z):(kvs.any fun kv=>decide (kv.1=k))=(z.any fun kv=>decide (kv.1=k)):=by
 have e:=JJ h;have a:∀{α:Type} (l:List (Key×α)),(l.any fun kv=>decide (kv.1=k))=(l.map (·.1)).any fun q=>decide (q=k):=fun l=>by rw [List.any_map];rfl
 rw [a,a,e]
theorem qay{κ:Kx}{F:Hp}{k:Key}{v:V}{d:D}(B:Rep κ F v d){z:List (Sum Int Str×D)}{kvs:List (Key×V)}(h:RepK κ F kvs z):RepK κ F (jz kvs k v) (zc k d z):=by
 unfold jz zc;rw [qax k h];by_cases c:(z.any fun kv=>decide (kv.1=k))=true
 ·rw [gB c,gB c];exact JK B h
 ·rw [gD c,gD c];exact Kv h ⟨v,[],rfl,B,rfl⟩
section
variable{X:Cx}{F0 H0:Hp}{pos pos':Pos}
theorem Kw:SE X F0 H0 (.Dict [] [] pos) eDK:=by
 intro pins s σ F H ρ Q S I h;refine thn (TX (pos:=pos) pins s σ H (fun v H'=>∃ p,v=.ref p/\H p=none/\H'=upd H p (.dK [])) I (fun p hp=>⟨p,rfl,hp,rfl⟩)) fun u s' ⟨v,H',I',r,p,ev,hp,eh⟩=>?_
 subst ev eh;exact h (.ref p) u F (upd H p (.dK [])) s' (Gr.new S.s hp) ⟨p,_,rfl,hp,Le.none S.s hp,qN,rfl⟩ r I'
theorem JL:SE X F0 H0 (.Dict [] [] pos) eDT:=by
 intro pins s σ F H ρ Q S I h;refine thn (TY (pos:=pos) pins s σ H (fun v H'=>∃ p,v=.ref p/\H p=none/\H'=upd H p (.dT [])) I (fun p hp=>⟨p,rfl,hp,rfl⟩)) fun u s' ⟨v,H',I',r,p,ev,hp,eh⟩=>?_
 subst ev eh;exact h (.ref p) u F (upd H p (.dT [])) s' (Gr.new S.s hp) ⟨p,_,rfl,hp,Le.none S.s hp,qN,rfl⟩ r I'
def wZ(i:Nat)(k e:EF):SF:=fun ρ=>match ρ[i]? with
 | some (some (.ow (.dK kvs)))=>sOf ((e ρ).bind En.st) fun d=>sOf (k ρ) fun q=>match zN q.d with
  | some key=>if kvs.length<sz then .nx (ρ.set i (some (.ow (.dK (zc key d kvs)))))else .stuck
  | none=>.stuck
 | _=>.stuck
theorem Ky(i:Nat){x:Str}{np:Pos}{k e:Expr}{O U:EF}(hu:X.A.units+10<cLine)(W:SE X F0 H0 k O)(Y:SE X F0 H0 e U)(Z:X.N[i]?=some x:=by rfl)(hv:Vis X.env.scope x:=by trivial)(hd:(x==("__debug__":Str))=false:=by decide)
  (B:(x==("__classdict__":Str))=false:=by decide)(hs:swapsWith e (some (.Subscript (.Name x np) k pos')) pos.line X.env=pure false:=by rfl) :
  SS X F0 H0 (.Assign [.Subscript (.Name x np) k pos'] e pos) (wZ i O U):=by
 intro pins s σ F H ρ D S I h;unfold wZ at h;cases ew:ρ[i]? with
 | none=>rw [ew]at h;exact h.elim
 | some w =>
  rw [ew]at h;cases w with
  | none=>exact h.elim
  | some w =>
   cases w with
   | fz d=>exact h.elim
   | br d=>exact h.elim
   | lk d=>exact h.elim
   | od d=>exact h.elim
   | ow d =>
    cases d<;>first|exact h.elim|skip
    rename_i z;have h:=KE.bind (PostS.of h);obtain⟨v,e1,a,o,rfl,h0,hf,hh,ro⟩:=S.val i _ ew;cases o<;>first|exact ro.elim|skip
    rename_i kvs;refine Jo (pos:=pos) (pos':=pos') (by omega) (jn (pos:=np) Z hv hd B) (jp (e:=k)) (jp (e:=e)) hs pins s σ H D I (Y.sem S (h.imp fun w k1 y F1 H1 g1 q1=>?_))
    cases es:w.st with
    | exc x=>rw [es]at k1;exact k1.elim
    | stuck=>rw [es]at k1;exact k1.elim
    | ok d =>
     rw [es]at k1;have ry:=Vok.st S.s g1 q1 es;obtain⟨g2,_⟩:=zC S.s g1;have S2:=S.grow g2;refine⟨_,e1,W.sem S2 ((PostS.of (show PostS X F0 H0 F D _ from k1)).imp fun wk k2 y2 F3 H3 g3 q3=>?_)⟩
     cases ek:zN wk.d with
     | none=>rw [ek]at k2;exact k2.elim
     | some key =>
      rw [ek]at k2;have ey:y2=kV key:=by
       have r:=Vok.rd q3;cases ed:wk.d with
       | int j=>rw [ed]at ek r;cases ek;exact RdV.int r
       | str j=>rw [ed]at ek r;cases ek;exact RdV.str r
       | _=>rw [ed]at ek;cases ek
      subst ey;have lv:kvs.length=z.length:=RepK.length ro;by_cases c:z.length<sz
      ·have k3:PostS X F0 H0 F D (.nx (ρ.set i (some (.ow (.dK (zc key d z)))))):=by simpa [gB c,KE]using k2
       refine⟨a,_,rfl,DPut.k (g3.h _ _ (g1.h _ _ hh)) (by rw [lv,<- jB];exact c),?_⟩
       refine k3 σ _ _ (Le.trans g2.f g3.f) ((S2.grow g3).mut ew e1 (o:=.dK (jz kvs key y)) ?_);exact qay (Rep.le g3.f _ ry) (RepK.le (Le.trans g2.f g3.f) _ ro)
      ·have:False:=by simpa [gD c,PostS,KE]using k2
       exact this.elim
def xT(d k x:EF):EF:=fun ρ=>(d ρ).bind fun wd=>match wd.d with
 | .dK kvs=>(k ρ).bind fun wk=>(x ρ).bind fun wx=>(match zN wk.d with
  | some q=>(match look q kvs with|some d=>.ok (.fz d)|none=>.ok wx)
  | none=>.stuck)
 | _=>.stuck
theorem qaz{o e f:Expr}{apos cpos:Pos}{Y Z ff:EF}(ho:SE X F0 H0 o Y)(he:SE X F0 H0 e Z)(hf:SE X F0 H0 f ff)(m:M2 X o "get" apos e f cpos:=by exact⟨rfl,rfl,rfl,rfl⟩) :
  SE X F0 H0 (.Call (.Attribute o "get" apos) [e,f] [] cpos) (xT Y Z ff):=by
 intro pins s σ F H ρ Q S I h;refine dQ m.base m.few m.line pG ft cZ (ho pins s σ F H ρ _ S I ((KE.bind h).imp fun wd h1 v u F1 H1 s1 g1 q1 r1 I1=>?_))
 have qd:=Vok.rd q1
 revert h1 qd
 generalize wd.d=dd;intro h1 qd;cases dd<;>first|exact h1.elim|skip
 rename_i kds;obtain⟨p,kvs,rfl,hq,rk⟩:=RdV.dK g1.s qd;cases (show u=Value.ref p from r1)
 obtain⟨hd,vs,rel,dd⟩:=Inv.dictK I1 hq;refine⟨dd.typeIs,fun b q=>?_,?_⟩
 ·cases q;obtain⟨ob,_,_,e1,e2,_⟩:=dd;exact⟨ob,e1,e2.2.1⟩
 rw [m.trees];refine pP rfl (cu (gJ (he pins s1 σ F1 H1 ρ _ (S.grow g1) I1 ((KE.bind h1).imp fun wk h2 v2 u2 F2 H2 s2 g2 q2 r2 I2 =>
  gJ (hf pins s2 σ F2 H2 ρ _ (S.grow (g1.trans g2)) I2 ((KE.bind h2).imp fun wx h3 v3 u3 F3 H3 s3 g3 q3 r3 I3=>t7 ?_))))))
 cases ek:zN wk.d with
 | none=>rw [ek]at h3;exact h3.elim
 | some key =>
  rw [ek]at h3;dsimp only at h3;have ry:RelV (kV key) u2:=Jx ek (RdV.gr g3 (Vok.rd q2)) r2;obtain⟨W,vs3,O,U⟩:=Inv.dictK I3 (SqK.le (Le.trans g2.h g3.h) hq);refine cY ft U.typeIs pQ (cK _ _ _) (meets_dict_get_default (qW X.prog X.w) p (kj ry) W u3) ⟨_,U.mapOf,?_⟩;have rg:=(O.val key).getD r3;have B:=g1.trans (g2.trans g3);rcases RepK.look key rk with⟨z,d,a1,a2,rz⟩|⟨a1,a2⟩
  ·rw [a2]at h3;rw [a1]at rg;exact h3 z _ F3 H3 _ B (Rep.le (Le.trans g2.f g3.f) _ rz) rg (I3.tok _)
  ·rw [a2]at h3;rw [a1]at rg;exact h3 v3 _ F3 H3 _ B (Vok.older (fun a e=>Le.none (Le.trans g1.h g2.h) e) q3) rg (I3.tok _)
def y3:List D->R En
 | [.int i,.int j]=>okI (if j>i then j else i)
 | _=>.stuck
theorem Kz(z:X.calm=true:=by rfl):zD X (.builtin "max") y3:=ko (GT z) fun F H xs ds Q l qx w=>by
 cases qx with
 | nil=>exact w.elim
 | @cons x d xs ds q1 q2 =>
  cases q2 with
  | nil=>cases d<;>exact w.elim
  | @cons y e ys es q2 q3 =>
   cases q3 with
   | cons _ _=>cases d<;>first|exact w.elim|(cases e<;>exact w.elim)
   | nil =>
    cases d<;>first|exact w.elim|skip
    cases e<;>first|exact w.elim|skip
    cases RdV.int q1;cases RdV.int q2;exact⟨_,_,rfl,qZ (X:=X) l (v:=.int _) w rfl⟩
theorem KA(z:X.calm=true:=by rfl):zD X (.builtin "min") wb:=ko (GU z) fun F H xs ds Q l qx w=>by
 cases qx with
 | nil=>exact w.elim
 | @cons x d xs ds q1 q2 =>
  cases q2 with
  | nil=>cases d<;>exact w.elim
  | @cons y e ys es q2 q3 =>
   cases q3 with
   | cons _ _=>cases d<;>first|exact w.elim|(cases e<;>exact w.elim)
   | nil =>
    cases d<;>first|exact w.elim|skip
    cases e<;>first|exact w.elim|skip
    cases RdV.int q1;cases RdV.int q2;exact⟨_,_,rfl,qZ (X:=X) l (v:=.int _) w rfl⟩
def JM:List D->R En
 | [.lst ds]=>(match jG ds with|some ns=>okI ns.sum|none=>.stuck)
 | _=>.stuck
theorem qaA(B:X.calm=true:=by rfl):zD X (.builtin "sum") JM:=by
 intro pins s σ F H xs us ds Q I l rx qx w;cases qx with
 | nil=>exact w.elim
 | @cons x d xs ds q1 q2 =>
  cases q2 with
  | cons _ _=>cases d<;>exact w.elim
  | nil =>
   cases d<;>first|exact w.elim|skip
   rename_i ds;unfold JM at w;dsimp only at w;cases e:jG ds with
   | none=>rw [e]at w;exact w.elim
   | some ns =>
    rw [e]at w;dsimp only at w;obtain⟨p,vs,rfl,hq,rs⟩:=RdV.lst l q1;have ev:=yz e rs;subst ev;cases rx with
    | cons r1 r2 =>
     cases r2;cases r1;obtain⟨its,rv,pl,hz⟩:=I.list hq;have hi:IntsAre its ns:=kg rv;obtain⟨ys,ey⟩:=hi.allInts.items;have z:ns=ys.toList.map (·.1):=by rw [<- hi.numsOf,<- nums_intItems,<- ey]
     have hl:=pl.isList;rw [ey]at hl;refine sum_intListG (I.ok.hd B) hl fun h' tk t' hk=>?_
     rw [preSum_eq,fJ (by simp),<- z]
     exact⟨.int _,H,I.kept hk,⟨_,rfl⟩,qZ (X:=X) l (v:=.int _) w rfl⟩
def xU(g g':D->D->R En)(a b c:EF):EF:=fun ρ=>(a ρ).bind fun x=>(b ρ).bind fun y=>(g x.d y.d).bind fun r=>(isB r.d).bind fun t=>if t=true then(c ρ).bind fun z=>g' y.d z.d else okB false
section
variable{a b c:Expr}{fa fb fc:EF}{g g':D->D->R En}{op op':CmpOp}
theorem JN(U:OpD X (compareOp op) g)(O:OpD X (compareOp op') g')(W:SE X F0 H0 a fa)(Y:SE X F0 H0 b fb)(Z:SE X F0 H0 c fc)
  (hm:lastMarks [op,op'] [b,c]=false:=by with_unfolding_all rfl):SE X F0 H0 (.Compare a [op,op'] [b,c] pos) (xU g g' fa fb fc):=by
 intro pins s σ F H ρ Q S I h;refine Compare_chain (W pins s σ F H ρ _ S I ((KE.bind h).imp fun wx h1 v u F1 H1 s1 g1 q1 r1 I1=>chain_link (Y pins s1 σ F1 H1 ρ _ (S.grow g1) I1 ((KE.bind h1).imp fun wy h2 v2 u2 F2 H2 s2 g2 q2 r2 I2=>?_)))) hm
 refine thn (U pins s2 σ F2 H2 v v2 u u2 wx.d wy.d (fun v3 H3=>∃ F3 w3,Gr F2 H2 F3 H3/\Vok (kx X) H2 F3 H3 v3 w3/\KE (XP X F0 H0) ((isB w3.d).bind fun t=>if t=true then(fc ρ).bind fun z=>g' wy.d z.d else okB false) _) I2 g2.s r1 r2 (RdV.gr g2 (Vok.rd q1)) (Vok.rd q2) (KE.impX (KE.bind h2) (fun w k v3 F3 H3 g3 q3=>⟨F3,w,g3,q3,k⟩) fun _ z=>z.elim)) fun cv s3 ⟨z,H3,I3,rz,F3,w3,g3,q3,k⟩=>?_
 obtain⟨t,rfl,k2⟩:=Jz (Vok.rd q3) rz (KE.bind k);refine px ?_;have B:=g1.trans (g2.trans g3);cases t with
 | false=>exact k2 (.bl false) _ F3 H3 s3 B rfl rfl I3
 | true =>
  refine chain_last (Z pins s3 σ F3 H3 ρ _ (S.grow B) I3 ((KE.bind k2).imp fun wz k4 v4 u4 F4 H4 s4 g4 q4 r4 I4=>?_))
  exact ve (O pins s4 σ F4 H4 v2 v4 u2 u4 wy.d wz.d _ I4 g4.s r2 r4 (RdV.gr (g3.trans g4) (Vok.rd q2)) (Vok.rd q4) (yq (B.trans g4) k4))
end
def wm:SF:=fun _=>.stuck
theorem y4{st:Stmt}:SS X F0 H0 st wm:=fun pins s σ F H ρ D S I h=>h.elim
end
open PySem
def JO(I:Rho->Prop)(Q:Out->Prop):Out->Prop
 | .nx ρ=>I ρ
 | .ct ρ=>I ρ
 | .bk ρ=>Q (.nx ρ)
 | o=>Q o
theorem Q3{g:GF}{b:SF}{Q:Out->Prop}:∀(xs:List D) (I:Nat->Rho->Prop) {ρ:Rho},I 0 ρ ->
  (∀ i x ρ,xs[i]?=some x->I i ρ->∃ ρ1,g x ρ=.ok ρ1/\JO (I (i+1)) Q (b ρ1))->(∀ ρ,I xs.length ρ->Q (.nx ρ))->Q (qR g b xs ρ)
 | [],I,ρ,h0,_,fin=>fin ρ h0
 | x::xs,I,ρ,h0,step,fin=>by
  obtain⟨ρ1,e1,t⟩:=step 0 x ρ rfl h0;have B:∀ z,I 1 z->Q (qR g b xs z):=fun z h =>
   Q3 xs (fun i=>I (i+1)) h (fun i y ρ e hi=>step (i+1) y ρ (by simpa using e) hi) (fun ρ h=>fin ρ (by simpa using h))
  unfold qR;rw [e1];dsimp only;cases eb:b ρ1 with
  | nx z=>rw [eb]at t;exact B z t
  | ct z=>rw [eb]at t;exact B z t
  | bk z=>rw [eb]at t;exact t
  | rt w=>rw [eb]at t;exact t
  | exc w=>rw [eb]at t;exact t
  | stuck=>rw [eb]at t;exact t
theorem Q4{g:GF}{b:SF}(xs:List D)(I:Nat->Rho->Prop){ρ:Rho}(h0:I 0 ρ)(B:∀ i x ρ,xs[i]?=some x->I i ρ->∃ ρ1 z,g x ρ=.ok ρ1/\(b ρ1=.nx z∨b ρ1=.ct z)/\I (i+1) z) :
  ∃ ρ',qR g b xs ρ=.nx ρ'/\I xs.length ρ':=by
 refine Q3 (Q:=fun o=>∃ ρ',o=.nx ρ'/\I xs.length ρ') xs I h0 (fun i x ρ e hi=>?_) fun ρ h=>⟨ρ,rfl,h⟩
 obtain⟨ρ1,z,e1,e2,h⟩:=B i x ρ e hi;refine⟨ρ1,e1,?_⟩;rcases e2 with e2|e2<;>(rw [e2];exact h)
theorem qaB(n:Nat):jO 0 n=(List.range n).map fun k:Nat=>D.int k:=by
 apply List.ext_getElem?;intro i;rw [Q0,gX];by_cases h:i<n
 ·rw [gB h,List.getElem?_range h];simp
 ·rw [gD h,pW (by simpa using h)];rfl
theorem KB{g:GF}{b:SF}(n:Nat)(I:Nat->Rho->Prop){ρ:Rho}(h0:I 0 ρ)(B:∀ i ρ,i<n->I i ρ->∃ ρ1 z,g (.int i) ρ=.ok ρ1/\(b ρ1=.nx z∨b ρ1=.ct z)/\I (i+1) z) :
  ∃ ρ',qR g b (jO 0 n) ρ=.nx ρ'/\I n ρ':=by
 have:=Q4 (g:=g) (b:=b) (jO 0 n) I h0 fun i x ρ e hi=>by
  rw [Q0]at e;by_cases h:i<n
  ·rw [gB h]at e;cases e;have:=B i ρ h hi;simpa using this
  ·rw [gD h]at e;cases e
 rw [JC]at this;exact this
theorem KC(i:Nat){t:TF}{e:EF}(p:D->Bool)(f:D->D):∀(ds:List D) (ρ:Rho),
  (∀ d∈ds,t (ρ.set i (some (.fz d)))=.ok (p d)/\(p d=true->∃ w,e (ρ.set i (some (.fz d)))=.ok w/\w.st=.ok (f d)))->zQ (gV i) t e ds ρ=.ok ((ds.filter p).map f)
 | [],_,_=>rfl
 | d::ds,ρ,h=>by
  obtain⟨h1,h2⟩:=h d gY;have z:=KC i (t:=t) (e:=e) p f ds (ρ.set i (some (.fz d))) fun x hx=>by
   rw [dG];exact h x (gp _ hx)
  show(R.bind (t (ρ.set i (some (.fz d)))) fun b=>if b=true then(e (ρ.set i (some (.fz d)))).bind fun w=>w.st.bind fun y=>(zQ (gV i) t e ds (ρ.set i (some (.fz d)))).bind fun ys=>.ok (y::ys)else zQ (gV i) t e ds (ρ.set i (some (.fz d))))=_
  rw [h1,R.bind_ok];by_cases c:p d=true
  ·obtain⟨w,e1,e2⟩:=h2 c;rw [gB c,e1,R.bind_ok,e2,R.bind_ok,z];simp [c]
  ·rw [gD c,z];simp [c]
theorem yA(i:Nat){e:EF}(f:D->D)(ds:List D)(ρ:Rho)(h:∀ d∈ds,∃ w,e (ρ.set i (some (.fz d)))=.ok w/\w.st=.ok (f d)):zQ (gV i) je e ds ρ=.ok (ds.map f):=by
 have:=KC i (t:=je) (e:=e) (fun _=>true) f ds ρ fun d hd=>⟨rfl,fun _=>h d hd⟩
 rw [this];congr 2;exact List.filter_eq_self.mpr fun _ _=>rfl
theorem v7{α:Type}{xs:List α}{i:Nat}:ati xs (i:Int)=xs[i]?:=by
 unfold ati ixn;rw [gB (by omega)]
 by_cases h:i<xs.length
 ·rw [gB (by omega)];simp
 ·rw [gD (by omega)];simp at h;simp [pW h]
theorem qaC{α:Type}{xs:List α}:ati xs (-1)=xs.getLast?:=by
 unfold ati ixn;cases xs with
 | nil=>rfl
 | cons x r =>
  rw [gD (by decide),gB (by simp;omega)]
  have:((-1:Int)+((x::r).length:Int)).toNat=(x::r).length-1:=by omega
  rw [this,List.getLast?_eq_getElem?];rfl
theorem yB{n:Nat}{it:IF}{gf:GF}{t:TF}{e:EF}{ρ:Rho}{ds ys:List D}(h:it ρ=.ok ds)(z:ds.length<=sz)(h2:zQ gf t e ds (zZ n ρ)=.ok ys):qT n it gf t e ρ=.ok (.ow (.lst ys)):=by
 unfold qT;rw [h,R.bind_ok,gB z,h2,R.bind_ok]
open PySem
def Out.th(o:Out)(b:SF):Out:=match o with
 | .nx ρ=>b ρ
 | o=>o
def JP(a b:SF)(ρ:Rho)(c:Bool):Out:=if c=true then a ρ else b ρ
def Q5(a b:EF)(ρ:Rho)(c:Bool):R En:=if c=true then a ρ else b ρ
def Q6(a b:TF)(ρ:Rho)(c:Bool):R Bool:=if c=true then a ρ else b ρ
def kF:EF:=fun _=>okB false
def kT:EF:=fun _=>okB true
def kfB:TF:=fun _=>.ok false
def ktB:TF:=fun _=>.ok true
def Q7(o:Option (Option En)):R En:=match o with
 | some (some (.fz d))=>.ok (.fz d)
 | some (some (.ow d))=>.ok (.br d)
 | some (some (.br d))=>.ok (.br d)
 | some (some (.lk d))=>.ok (.fz d)
 | _=>.stuck
def JQ(o:Option (Option En)):Out:=match o with
 | some (some (.fz d))=>.rt (.fz d)
 | some (some (.ow d))=>.rt (.ow d)
 | _=>.stuck
def R.b{α β:Type}(r:R α)(f:α->R β):R β:=r.bind f
theorem JR{α β:Type}{a:α}{f:α->R β}:(R.ok a).b f=f a:=rfl
def yC(ds:List D):R En:=if ds.length<=sz then .ok (.ow (.lst ds))else .stuck
def Q8(ds:List D):R En:=if ds.length<=sz then .ok (.fz (.tup ds))else .stuck
theorem xV{ds:List D}(h:ds.length<=sz):yC ds=.ok (.ow (.lst ds)):=gB h
theorem KD{ds:List D}(h:ds.length<=sz):Q8 ds=.ok (.fz (.tup ds)):=gB h
def En.dd(w:En):D:=w.d
def En.sto(w:En):R D:=w.st
def En.argo(w:En):R En:=w.arg
def En.nmo(w:En):R En:=w.nm
section
variable{a b:SF}{ρ ρ':Rho}{w:En}{x:Xc}{d:D}{e f:EF}{t u:TF}{i j:Nat}{α β:Type}{k:α->Out}{v:α}{l:List EF}
theorem qJ:Out.th (.nx ρ) b=b ρ:=rfl
theorem qaD:Out.th (.rt w) b=.rt w:=rfl
theorem qaE:Out.th (.bk ρ) b=.bk ρ:=rfl
theorem qaF:Out.th (.exc x) b=.exc x:=rfl
theorem qF:qf a b ρ=Out.th (a ρ) b:=by unfold qf Out.th;cases a ρ<;>rfl
theorem wn:sOf (.ok v) k=k v:=rfl
theorem qaG:JP a b ρ true=a ρ:=rfl
theorem qaH:JP a b ρ false=b ρ:=rfl
theorem qaI:Q5 e f ρ true=e ρ:=rfl
theorem qaJ:Q5 e f ρ false=f ρ:=rfl
theorem qaK:Q6 t u ρ true=t ρ:=rfl
theorem qaL:Q6 t u ρ false=u ρ:=rfl
theorem qaM:kF ρ=.ok (.fz (.bl false)):=rfl
theorem qaN:kfB ρ=.ok false:=rfl
theorem qaO:ktB ρ=.ok true:=rfl
theorem JS:qi i e ρ=sOf ((e ρ).b En.nmo) fun w=>.nx (ρ.set i (some w)):=rfl
theorem qaP:qu e ρ=sOf ((e ρ).b En.nmo) .rt:=rfl
theorem qaQ:jM i ρ=JQ ρ[i]?:=rfl
theorem qaR:JQ (some (some (.fz d)))=.rt (.fz d):=rfl
theorem qaS:JQ (some (some (.ow d)))=.rt (.ow d):=rfl
theorem Q9:qr ρ=.nx ρ:=rfl
theorem qaT:Jq ρ=.bk ρ:=rfl
theorem qaU:sIf t a b ρ=sOf (t ρ) (JP a b ρ):=rfl
theorem qaV:En.nmo (.fz d)=.ok (.fz d):=rfl
theorem JT:En.nmo (.ow d)=.ok (.ow d):=rfl
theorem qaW:En.sto (.fz d)=.ok d:=rfl
theorem qaX:En.sto (.ow d)=.ok d:=rfl
theorem qaY:En.argo (.fz d)=.ok (.fz d):=rfl
theorem qaZ:En.argo (.ow d)=.ok (.fz d):=rfl
theorem qb0:En.argo (.br d)=.ok (.br d):=rfl
theorem qb1:En.dd (.fz d)=d:=rfl
theorem qb2:En.dd (.ow d)=d:=rfl
theorem qb3:En.dd (.br d)=d:=rfl
theorem qb4:q9 i ρ=Q7 ρ[i]?:=rfl
theorem qb5:Q7 (some (some (.fz d)))=.ok (.fz d):=rfl
theorem qb6:Q7 (some (some (.ow d)))=.ok (.br d):=rfl
theorem qb7:Q7 (some (some (.br d)))=.ok (.br d):=rfl
theorem x_c:eC d ρ=.ok (.fz d):=rfl
theorem qb8{g:D->D->R En}:eOp g e f ρ=(e ρ).b fun x=>(f ρ).b fun y=>g x.dd y.dd:=rfl
theorem qb9{g:D->R En}:eUn g e ρ=(e ρ).b fun x=>g x.dd:=rfl
theorem qba:evs [] ρ=.ok []:=rfl
theorem qbb:evs (e::l) ρ=(e ρ).b fun x=>(evs l ρ).b fun xs=>.ok (x::xs):=rfl
theorem qbc:stAll []=.ok []:=rfl
theorem qbd{w:En}{ws:List En}:stAll (w::ws)=w.sto.b fun d=>(stAll ws).b fun ds=>.ok (d::ds):=rfl
theorem qbe:qU []=.ok []:=rfl
theorem qbf{w:En}{ws:List En}:qU (w::ws)=w.argo.b fun d=>(qU ws).b fun ds=>.ok (d::ds):=rfl
theorem qbg:qK l ρ=(evs l ρ).b fun xs=>(stAll xs).b yC:=rfl
theorem qbh:js l ρ=(evs l ρ).b fun xs=>(stAll xs).b Q8:=rfl
theorem qbi:yC []=.ok (.ow (.lst [])):=xV (tF (gG (show [].length<17 by simp) (by decide)))
theorem qbj{z:D}:yC [z]=.ok (.ow (.lst [z])):=xV (tF (gG (show [z].length<17 by simp) (by decide)))
theorem qbk{z B:D}:Q8 [z,B]=.ok (.fz (.tup [z,B])):=KD (tF (gG (show [z,B].length<17 by simp) (by decide)))
theorem qbl{z B O:D}:yC [z,B,O]=.ok (.ow (.lst [z,B,O])):=xV (tF (gG (show [z,B,O].length<17 by simp) (by decide)))
theorem qbm{z B O:D}:Q8 [z,B,O]=.ok (.fz (.tup [z,B,O])):=KD (tF (gG (show [z,B,O].length<17 by simp) (by decide)))
theorem qbn{z B O U W:D}:yC [z,B,O,U,W]=.ok (.ow (.lst [z,B,O,U,W])):=xV (tF (gG (show [z,B,O,U,W].length<17 by simp) (by decide)))
theorem qbo{z B O U W Y Z:D}:yC [z,B,O,U,W,Y,Z]=.ok (.ow (.lst [z,B,O,U,W,Y,Z])):=xV (tF (gG (show [z,B,O,U,W,Y,Z].length<17 by simp) (by decide)))
theorem qbp{dn:Den}:qj dn l ρ=(evs l ρ).b fun xs=>(qU xs).b fun ys=>dn ys:=rfl
theorem x_B{g:List D->R En}:eB g l ρ=(evs l ρ).b fun xs=>g (xs.map En.dd):=rfl
theorem qbq:tE e ρ=(e ρ).b fun x=>kn x.dd:=rfl
theorem qbr:tNot t ρ=(t ρ).b fun b=>.ok (!b):=rfl
theorem qbs:tAnd t u ρ=(t ρ).b (Q6 u kfB ρ):=rfl
theorem qbt:tOr t u ρ=(t ρ).b (Q6 ktB u ρ):=rfl
theorem qbu:wR e f ρ=(e ρ).b fun x=>(isB x.dd).b (Q5 f kF ρ):=rfl
theorem qbv{c:Bool}:isB (.bl c)=.ok c:=rfl
theorem qbw{c:Bool}:kn (.bl c)=.ok c:=rfl
theorem qbx{c:List D}:kn (.lst c)=.ok (!c.isEmpty):=rfl
theorem yD{it:IF}{g:GF}:jd it g a ρ=sOf (it ρ) fun xs=>qR g a xs ρ:=rfl
theorem qby{i j:Int}:jc (.int i) (.int j)=.ok (.fz (.int (i-j))):=rfl
theorem qbz{i j:Int}:dLt (.int i) (.int j)=.ok (.fz (.bl (decide (i<j)))):=rfl
theorem qbA{i j:Int}:dLe (.int i) (.int j)=.ok (.fz (.bl (decide (i<=j)))):=rfl
theorem vQ{i j:Int}:dGt (.int i) (.int j)=.ok (.fz (.bl (decide (j<i)))):=rfl
theorem qbB{i j:Int}:dEq (.int i) (.int j)=.ok (.fz (.bl (i==j))):=rfl
theorem qbC{i j:Int}:dNe (.int i) (.int j)=.ok (.fz (.bl (!(i==j)))):=rfl
theorem qbD{i:Int}:jU (.int i)=.ok (.fz (.int (-i))):=rfl
theorem kz{i j:Int}(h:0<j):zy (.int i) (.int j)=.ok (.fz (.int (i%j))):=by unfold zy;dsimp only;rw [gB h]
theorem y6{i j:Int}(h:0<j)(h2:j<1073741824):zA (.int i) (.int j)=.ok (.fz (.int (i/j))):=by unfold zA;dsimp only;rw [gB ⟨h,h2⟩]
theorem JU{i j:Int}(h1:-1000000000000<j)(h2:j<1000000000000):zx (.int i) (.int j)=.ok (.fz (.int (i*j))):=by
 unfold zx;dsimp only;rw [gB];rw [Bool.or_eq_true];exact .inr (fits_iff.mpr (by rw [b64e];omega))
theorem Qa{i j:Int}(h1:-1000000000000<i)(h2:i<1000000000000):zx (.int i) (.int j)=.ok (.fz (.int (i*j))):=by
 unfold zx;dsimp only;rw [gB];rw [Bool.or_eq_true];exact .inl (fits_iff.mpr (by rw [b64e];omega))
theorem qbE{xs:List D}:yo [.lst xs]=.ok (.ow (.lst xs)):=rfl
theorem qbF{i j:Int}:wb [.int i,.int j]=.ok (.fz (.int (if j<i then j else i))):=rfl
theorem qbG{i j:Int}:y3 [.int i,.int j]=.ok (.fz (.int (if j>i then j else i))):=rfl
theorem qbH{xs:List D}{i:Int}:qe (.lst xs) (.int i)=okD (ati xs i):=rfl
theorem qbI{xs:List D}{i:Int}:qe (.tup xs) (.int i)=okD (ati xs i):=rfl
theorem qbJ{d:D}{r:List D}:okD (ati (d::r) 0)=.ok (.fz d):=by
 rw [show(0:Int)=((0:Nat):Int)from rfl,v7];rfl
theorem qbK{c d:D}{r:List D}:okD (ati (c::d::r) 1)=.ok (.fz d):=by
 rw [show(1:Int)=((1:Nat):Int)from rfl,v7];rfl
theorem qbL{b c d:D}{r:List D}:okD (ati (b::c::d::r) 2)=.ok (.fz d):=by
 rw [show(2:Int)=((2:Nat):Int)from rfl,v7];rfl
theorem qbM{d:D}:okD (some d)=.ok (.fz d):=rfl
theorem qbN{n:List D}:dIs .list (.lst n)=.ok (.fz (.bl true)):=rfl
theorem qbO{n:List D}:dIs .tuple (.tup n)=.ok (.fz (.bl true)):=rfl
theorem qbP:gV i d ρ=.ok (ρ.set i (some (.fz d))):=rfl
theorem qbQ:eDK ρ=.ok (.ow (.dK [])):=rfl
theorem qbR:eDT ρ=.ok (.ow (.dT [])):=rfl
theorem vC{n:Nat}{ws:List En}:den n a ws=fin (a (ws.map some++List.replicate (n-ws.length) none)):=rfl
theorem qbS:fin (.rt w)=.ok w:=rfl
theorem kA{ds:List D}(h:ρ[i]?=some (some (.fz (.lst ds)))):iV i ρ=.ok ds:=by unfold iV;rw [h];rfl
theorem xW{ds:List D}(h:ρ[i]?=some (some (.br (.lst ds)))):iV i ρ=.ok ds:=by unfold iV;rw [h];rfl
theorem qbT{e:EF}{ρ:Rho}{j:Int}(h:e ρ=.ok (.fz (.int j)))(c:fits b62 j=true):iR1 e ρ=.ok (jO 0 j.toNat):=by
 unfold iR1;rw [h,R.bind_ok];dsimp only [En.d];rw [gB c]
theorem KF{e:EF}{ρ:Rho}{n:Nat}(h:e ρ=.ok (.fz (.int n)))(z:n<1000000):iR1 e ρ=.ok (jO 0 n):=by
 rw [qbT h (fits_iff.mpr (by rw [b62e];omega)),tQ]
theorem kB{xs:List D}{i:Nat}(h:ρ[i]?=some (some (.ow (.lst xs))))(z:xs.length<sz)(h2:(e ρ).b En.sto=.ok d):jA i e ρ=.nx (ρ.set i (some (.ow (.lst (xs++[d]))))):=by
 unfold jA;have h2:(e ρ).bind En.st=.ok d:=h2;rw [h];dsimp only;rw [h2];unfold sOf;dsimp only;rw [gB z]
theorem qbU{kvs:List (Sum Int Str×D)}{i:Nat}{k:EF}{w:En}{key:Sum Int Str}(h:ρ[i]?=some (some (.ow (.dK kvs))))(h2:(e ρ).b En.sto=.ok d)(z:k ρ=.ok w)(B:zN w.d=some key)(O:kvs.length<sz) :
  wZ i k e ρ=.nx (ρ.set i (some (.ow (.dK (zc key d kvs))))):=by
 have h2:(e ρ).bind En.st=.ok d:=h2;unfold wZ;rw [h];dsimp only;rw [h2];unfold sOf;dsimp only;rw [z];dsimp only;rw [B];dsimp only;rw [gB O]
def KG(o:Option D)(w:En):R En:=match o with|some d=>.ok (.fz d)|none=>.ok w
theorem qbV{kvs:List (Sum Int Str×D)}{dd k x:EF}{wd wk wx:En}{q:Sum Int Str}(h1:dd ρ=.ok wd)(h2:wd.d=.dK kvs)(z:k ρ=.ok wk)(B:zN wk.d=some q)(O:x ρ=.ok wx) :
  xT dd k x ρ=KG (look q kvs) wx:=by
 unfold xT;rw [h1,R.bind_ok];cases wd<;>first|(dsimp only [En.d]at h2 ⊢;subst h2;dsimp only;rw [z,R.bind_ok,O,R.bind_ok,B];rfl)|(cases h2;done)
theorem JV:∀(n:Nat) (d:D),qH n d=true->deq d d=true
 | _,.non,_=>rfl
 | _,.bl _,_=>by simp [deq]
 | _,.int _,_=>by simp [deq]
 | _,.str _,_=>by simp [deq]
 | 0,.tup _,h=>by simp [qH]at h
 | 0,.lst _,h=>by simp [qH]at h
 | n+1,.tup xs,h=>by
  have k:∀ ys:List D,ys.all (qH n)=true->deqs ys ys=true:=by
   intro ys
   induction ys with
   | nil=>intro _;rfl
   | cons y ys ih =>
    intro hy;rw [fZ,gK]at hy;show(deq y y&&deqs ys ys)=true;rw [JV n y hy.1,ih hy.2];rfl
  exact k xs h
 | n+1,.lst xs,h=>by
  have k:∀ ys:List D,ys.all (qH n)=true->deqs ys ys=true:=by
   intro ys
   induction ys with
   | nil=>intro _;rfl
   | cons y ys ih =>
    intro hy;rw [fZ,gK]at hy;show(deq y y&&deqs ys ys)=true;rw [JV n y hy.1,ih hy.2];rfl
  exact k xs h
 | n,.dK _,h=>by cases n<;>simp [qH]at h
 | n,.dT _,h=>by cases n<;>simp [qH]at h
 | n,.xc _ _,h=>by cases n<;>simp [qH]at h
end
open PySem PySem.Spec PyProof.Rows L2
section
variable{prog:Program}{w:World}{A:Around}{E:Value->Shared->Prop}{s:Shared}{kd:SortKind}{rk:Value->Int}{ini:Array Keyed}
def av(rk:Value->Int)(xs:Array Keyed)(i:Nat):Int:=match xs[i]? with
 | some p=>rk p.1
 | none=>0
theorem KH{xs:Array Keyed}{a d:Nat}(h1:a<xs.size)(h2:d<=a)(k:Nat) :
  av rk (bubble xs a d) k=if k=a-d then av rk xs a else if a-d<k/\k<=a then av rk xs (k-1)else av rk xs k:=by
 have e:=getElem?_bubble h1 d h2 k;by_cases c1:k=a-d
 ·rw [gB c1]at e ⊢;unfold av;rw [e]
 ·rw [gD c1]at e ⊢;by_cases c2:a-d<k/\k<=a
  ·rw [gB c2]at e ⊢;unfold av;rw [e]
  ·rw [gD c2]at e ⊢;unfold av;rw [e]
theorem KI{xs:Array Keyed}{i j:Nat}(h:j<=xs.size)(k:Nat):av rk (mirror xs i j ((j-i)/2)) k=if i<=k/\k<j then av rk xs (i+j-1-k)else av rk xs k:=by
 have e:=getElem?_mirror_all (i:=i) h k;by_cases c:i<=k/\k<j
 ·rw [gB c]at e ⊢;unfold av;rw [e]
 ·rw [gD c]at e ⊢;unfold av;rw [e]
structure Mid(kd:SortKind)(ini:Array Keyed)(st:SortSt):Prop where
 pm:(arrOf st).Perm ini
 kd:kindOf st=kd
 fl:failedOf st=none
 pd:pendingOf st=#[]
theorem Mid.sz{st:SortSt}(m:Mid kd ini st):(arrOf st).size=ini.size:=m.pm.size_eq
theorem Mid.put{st:SortSt}(m:Mid kd ini st){xs:Array Keyed}(p:xs.Perm (arrOf st)):Mid kd ini (setArr st xs):=⟨p.trans m.pm,m.kd,m.fl,m.pd⟩
structure Tells(prog:Program)(w:World)(A:Around)(s:Shared)(kd:SortKind)(rk:Value->Int)(ini:Array Keyed):Prop where
 lt:∀ p∈ini.toList,∀ q∈ini.toList,∀(E:Value->Shared->Prop) (Q:Bool->Shared->Prop),Q (decide (rk p.1<rk q.1)) s->wpAny (model prog w) A (keyLt' kd p.1 q.1) Q E s
 nd:(ini.toList.map fun p=>rk p.1).Nodup
theorem Mid.get{st:SortSt}(m:Mid kd ini st){i:Nat}(hi:i<ini.size):∃ p,(arrOf st)[i]?=some p/\p∈ini.toList/\av rk (arrOf st) i=rk p.1:=by
 have h:i<(arrOf st).size:=by rw [m.sz];exact hi
 have e:(arrOf st)[i]?=some (arrOf st)[i]:=getElem?_pos _ i h;refine⟨(arrOf st)[i],e,?_,?_⟩
 ·exact(cn.mp m.pm).mem_iff.mp (by simp)
 ·unfold av;rw [e]
theorem Mid.ne{st:SortSt}(T:Tells prog w A s kd rk ini)(m:Mid kd ini st){i j:Nat}(hi:i<ini.size)(O:j<ini.size)(h:i≠j):av rk (arrOf st) i≠av rk (arrOf st) j:=by
 have hp:=(cn.mp m.pm).map fun p=>rk p.1
 have nd:=hp.nodup_iff.mpr T.nd;have li:i<((arrOf st).toList.map fun p=>rk p.1).length:=by simp;rw [m.sz];exact hi
 have lj:j<((arrOf st).toList.map fun p=>rk p.1).length:=by simp;rw [m.sz];exact O
 have key:∀ k,(hk:k<((arrOf st).toList.map fun p=>rk p.1).length)->av rk (arrOf st) k=((arrOf st).toList.map fun p=>rk p.1)[k]:=fun k hk=>by
  have B:k<(arrOf st).size:=by simpa using hk
  unfold av;rw [getElem?_pos _ k B];simp
 rw [key i li,key j lj];intro z;exact h ((List.getElem_inj nd).mp z)
theorem ask{st:SortSt}{i j:Nat}{Q:Option Bool->SortSt->Prop}(T:Tells prog w A s kd rk ini)(m:Mid kd ini st)(hi:i<ini.size)(z:j<ini.size)(h:Q (some (decide (av rk (arrOf st) i<av rk (arrOf st) j))) st) :
  wpS (model prog w) A E s (ltAt' i j) Q st:=by
 obtain⟨p,e1,m1,a1⟩:=m.get (rk:=rk) hi;obtain⟨q,e2,m2,a2⟩:=m.get (rk:=rk) z;rw [a1,a2]at h;rw [ltAt'_eq];refine tS (wpS_get ?_);dsimp only;rw [elem'_eq,elem'_eq,e1,e2];refine tS (p0 (tS (p0 ?_)));rw [lt'_eq];refine tS (wpS_get ?_);rw [m.kd];exact tS (wpS_lift (cc (T.lt p m1 q m2 _ _ ⟨rfl,p0 h⟩)))
abbrev Up(rk:Value->Int)(st:SortSt)(k:Nat):Prop:=∀ i j,i<=j->j<k->av rk (arrOf st) i<=av rk (arrOf st) j
abbrev Dn(rk:Value->Int)(st:SortSt)(k:Nat):Prop:=∀ i j,i<=j->j<k->av rk (arrOf st) j<=av rk (arrOf st) i
theorem Up.one(st:SortSt):Up rk st 1:=fun i j h1 h2=>by
 have:i=j:=by omega
 subst this;exact fY _
theorem Up.more{st:SortSt}{x:Nat}(u:Up rk st x)(h:av rk (arrOf st) (x-1)<=av rk (arrOf st) x):Up rk st (x+1):=fun i j h1 h2=>by
 by_cases c:j<x
 ·exact u i j h1 c
 ·have ej:j=x:=by omega
  subst ej;by_cases ci:i=j
  ·subst ci;exact fY _
  ·exact d7 (u i (j-1) (by omega) (by omega)) h
theorem Dn.more{st:SortSt}{x:Nat}(u:Dn rk st x)(h:av rk (arrOf st) x<=av rk (arrOf st) (x-1)):Dn rk st (x+1):=fun i j h1 h2=>by
 by_cases c:j<x
 ·exact u i j h1 c
 ·have ej:j=x:=by omega
  subst ej;by_cases ci:i=j
  ·subst ci;exact fY _
  ·exact d7 h (u i (j-1) (by omega) (by omega))
theorem KJ{st:SortSt}{a n:Nat}{Q:AscSt->SortSt->Prop}(T:Tells prog w A s kd rk ini)(m:Mid kd ini st)(B:n<=ini.size)(h1:1<=a)(h2:a<=n)(u:Up rk st a)
  (h:∀ k,a<=k->k<=n->Up rk st k->(k=n∨av rk (arrOf st) k<av rk (arrOf st) (k-1))->Q (none,k) st):wpS (model prog w) A E s (ascLoop a n) Q st:=by
 unfold ascLoop;refine d8 (fun x c z=>z=st/\c=(none,x)/\Up rk st x) (fun x c z l1 l2 hI=>?_) (fun c z hI=>?_) ⟨rfl,rfl,u⟩
 ·obtain⟨rfl,rfl,u'⟩:=hI;dsimp only;refine tS (ask T m (by omega) (by omega) ?_)
  by_cases c:av rk (arrOf z) x<av rk (arrOf z) (x-1)
  ·rw [pj c];exact p0 (h x l1 (by omega) u' (.inr c))
  ·rw [tN c];exact p0 ⟨rfl,rfl,u'.more (by omega)⟩
 ·obtain⟨rfl,rfl,u'⟩:=hI;have e:max a n=n:=by omega
  rw [e]at u' ⊢;exact h n h2 (gw _) u' (.inl rfl)
theorem qbW{st:SortSt}{k n:Nat}{Q:Option Nat->SortSt->Prop}(T:Tells prog w A s kd rk ini)(m:Mid kd ini st)(B:n<=ini.size)(h1:1<=k)(h2:k<=n)(u:Dn rk st k)
  (h:∀ r z,Mid kd ini z->1<=r->r<=n->Up rk z r->Q (some r) z):wpS (model prog w) A E s (tail3 k n) Q st:=by
 unfold tail3;have hz:k<=(arrOf st).size:=by rw [m.sz];omega
 have m2:Mid kd ini (setArr st (mirror (arrOf st) 0 k ((k-0)/2))):=m.put (mirror_perm _ _ _ _);refine tS (wpS_reverse (tS (KJ T m2 B h1 h2 (fun i j l1 l2=>?_) fun r r1 r2 u2 _=>p0 (h r _ m2 (by omega) r2 u2))))
 show av rk (mirror (arrOf st) 0 k ((k-0)/2)) i<=av rk (mirror (arrOf st) 0 k ((k-0)/2)) j;rw [KI hz,KI hz,gB (by omega),gB (by omega)]
 exact u _ _ (by omega) (by omega)
theorem qbX{st:SortSt}{k n:Nat}{Q:DescSt->SortSt->Prop}(T:Tells prog w A s kd rk ini)(m:Mid kd ini st)(B:n<=ini.size)(h1:1<=k)(h2:k<=n)(u:Dn rk st k)
  (h:∀ r,k<=r->r<=n->Dn rk st r->Q (none,r,0) st):wpS (model prog w) A E s (descLoop k n) Q st:=by
 unfold descLoop;refine d8 (fun x c z=>z=st/\c=(none,x,0)/\Dn rk st x) (fun x c z l1 l2 hI=>?_) (fun c z hI=>?_) ⟨rfl,rfl,u⟩
 ·obtain⟨rfl,rfl,u'⟩:=hI;dsimp only;refine tS (ask T m (by omega) (by omega) ?_)
  by_cases c:av rk (arrOf z) x<av rk (arrOf z) (x-1)
  ·rw [pj c];exact p0 ⟨rfl,rfl,u'.more (by omega)⟩
  ·rw [tN c];refine tS (ask T m (by omega) (by omega) ?_)
   have ne:=m.ne T (i:=x) (j:=x-1) (by omega) (by omega) (by omega)
   have c2:av rk (arrOf z) (x-1)<av rk (arrOf z) x:=by omega
   rw [pj c2];exact p0 (h x l1 (by omega) u')
 ·obtain⟨rfl,rfl,u'⟩:=hI;have e:max k n=n:=by omega
  rw [e]at u' ⊢;exact h n h2 (gw _) u'
theorem qbY{st:SortSt}{k n:Nat}{Q:Option Nat->SortSt->Prop}(T:Tells prog w A s kd rk ini)(m:Mid kd ini st)(B:n<=ini.size)(h2:k+1<=n)(u:Dn rk st (k+1))
  (h:∀ r z,Mid kd ini z->1<=r->r<=n->Up rk z r->Q (some r) z):wpS (model prog w) A E s (descPart k n) Q st:=by
 unfold descPart;refine tS (wpS_lift (cC ⟨rfl,?_⟩));refine tS (qbX T m B (by omega) h2 u fun r r1 r2 u2=>?_)
 dsimp only;rw [gD (tB 0)];exact qbW T m B (by omega) r2 u2 h
theorem qbZ{st:SortSt}{n:Nat}{Q:Option Nat->SortSt->Prop}(T:Tells prog w A s kd rk ini)(m:Mid kd ini st)(B:n<=ini.size)(h1:1<=n)
  (h:∀ r z,Mid kd ini z->1<=r->r<=n->Up rk z r->Q (some r) z):wpS (model prog w) A E s (countRun' 0 n) Q st:=by
 rw [countRun0_eq];refine tS (KJ T m B (gw 1) h1 (Up.one st) fun k k1 k2 u o=>?_)
 dsimp only;by_cases c:k=n
 ·rw [gB (by simpa using c)]
  exact p0 (h k st m k1 k2 u)
 ·rw [gD (by simpa using c)]
  have lt:=o.resolve_left c;by_cases c1:k>1
  ·rw [gB c1];refine tS (ask T m (by omega) (by omega) ?_)
   have ne:=m.ne T (i:=0) (j:=k-1) (by omega) (by omega) (by omega)
   have le:=u 0 (k-1) (by omega) (by omega)
   rw [pj (show av rk (arrOf st) 0<av rk (arrOf st) (k-1)by omega)]
   exact p0 (h k st m k1 k2 u)
  ·rw [gD c1];have e:k=1:=by omega
   subst e;refine qbY T m B (by omega) (fun i j l1 l2=>?_) h
   by_cases ci:i=j
   ·subst ci;exact fY _
   ·have e1:i=0:=by omega
    have e2:j=1:=by omega
    subst e1 e2;exact cD lt
theorem qc0{st:SortSt}{n O:Nat}{Q:Bool->SortSt->Prop}(T:Tells prog w A s kd rk ini)(m:Mid kd ini st)(Z:n<=ini.size)(h2:O<=n)(u:Up rk st O)
  (h:∀ z,Mid kd ini z->Up rk z n->Q true z):wpS (model prog w) A E s (binarySort' 0 n O) Q st:=by
 rw [binarySort'_eq];simp only [cE];refine tS (wpS_mono (d8 (fun k c z=>c=(none,())/\Mid kd ini z/\Up rk z (min k n)) (Q:=fun c z=>c=(none,())/\Mid kd ini z/\Up rk z n) (fun k c z l1 l2 hI=>?_) (fun c z hI=>?_) ⟨rfl,m,?_⟩) fun c z hc=>?_)
 ·obtain⟨rfl,m',u'⟩:=hI;have ek:min k n=k:=by omega
  rw [ek]at u';refine tS (wpS_mono (d8 (fun x c y=>y=z/\∃ l r,c=(none,l,r)/\l<=r/\r<=k/\r-l<=k-x/\(∀ i,i<l->av rk (arrOf z) i<av rk (arrOf z) k)/\∀ i,r<=i->i<k->av rk (arrOf z) k<av rk (arrOf z) i)
   (Q:=fun c y=>y=z/\∃ l r,c=(none,l,r)/\l<=k/\(∀ i,i<l->av rk (arrOf z) i<av rk (arrOf z) k)/\∀ i,l<=i->i<k->av rk (arrOf z) k<av rk (arrOf z) i)
   (fun x c y _ lx hJ=>?_) (fun c y hJ=>?_) ⟨rfl,0,k,rfl,by omega,by omega,by omega,fun i hi=>by omega,fun i a b=>by omega⟩) fun c y hJ=>?_)
  ·obtain⟨rfl,l,r,rfl,lr,B,Y,lo,hi⟩:=hJ;dsimp only;by_cases ge:l≥r
   ·rw [gB ge];have:l=r:=by omega
    subst this;exact p0 ⟨rfl,l,l,rfl,B,lo,hi⟩
   ·rw [gD ge];refine tS (ask T m' (by omega) (by omega) ?_)
    have ne:=m'.ne T (i:=k) (j:=(l+r)/2) (by omega) (by omega) (by omega)
    by_cases c:av rk (arrOf y) k<av rk (arrOf y) ((l+r)/2)
    ·rw [pj c];refine p0 ⟨rfl,l,(l+r)/2,rfl,by omega,by omega,by omega,lo,fun i a b=>?_⟩
     have:=u' ((l+r)/2) i a b;omega
    ·rw [tN c];refine p0 ⟨rfl,(l+r)/2+1,r,rfl,by omega,by omega,by omega,fun i a=>?_,hi⟩
     have:=u' i ((l+r)/2) (by omega) (by omega)
     omega
  ·obtain⟨rfl,l,r,rfl,lr,B,Y,lo,hi⟩:=hJ;have:l=r:=by omega
   subst this;exact⟨rfl,l,l,rfl,B,lo,hi⟩
  ·obtain⟨rfl,l,r,rfl,lk,lo,hi⟩:=hJ;dsimp only;rw [moveDown'_eq];refine tS (wpS_modify (p0 ⟨rfl,m'.put (bubble_perm _ _ _),?_⟩));have e1:min (k+1) n=k+1:=by omega
   have hz:k<(arrOf y).size:=by rw [m'.sz];omega
   have e2:k-(k-l)=l:=by omega
   rw [e1];intro i j a b;show av rk (bubble (arrOf y) k (k-l)) i<=av rk (bubble (arrOf y) k (k-l)) j;rw [KH hz (by omega),KH hz (by omega),e2]
   have U:=fun t (ht:t<l)=>cD (lo t ht)
   have W:=fun t (h1:l<=t) (h2:t<k)=>cD (hi t h1 h2)
   by_cases i1:i=l
   ·rw [gB i1];by_cases j1:j=l
    ·rw [gB j1];exact fY _
    ·rw [gD j1,gB (by omega)];exact W _ (by omega) (by omega)
   ·rw [gD i1];by_cases i2:l<i/\i<=k
    ·rw [gB i2,gD (by omega),gB (by omega)]
     exact u' _ _ (by omega) (by omega)
    ·rw [gD i2];by_cases j1:j=l
     ·rw [gB j1];exact U _ (by omega)
     ·rw [gD j1];by_cases j2:l<j/\j<=k
      ·rw [gB j2];exact u' _ _ (by omega) (by omega)
      ·rw [gD j2];exact u' _ _ (by omega) (by omega)
 ·obtain⟨hc,m',u'⟩:=hI;have e:min (max (max O 1) n) n=n:=by omega
  rw [e]at u';exact⟨hc,m',u'⟩
 ·intro i j a b;by_cases c:O=0
  ·have:i=j:=by omega
   subst this;exact fY _
  ·exact u i j a (by omega)
 ·obtain⟨rfl,m',u'⟩:=hc;exact p0 (h z m' u')
theorem qc1{st:SortSt}{Q:Unit->SortSt->Prop}(T:Tells prog w A s kd rk ini)(m:Mid kd ini st)(h2:2<=ini.size)(W:ini.size<64)
  (h:∀ z,(arrOf z).Perm ini->failedOf z=none->Up rk z ini.size->Q () z):wpS (model prog w) A E s sortRuns' Q st:=by
 rw [sortRuns'_eq];refine tS (wpS_get ?_);dsimp only;have mr:minRun' ini.size ini.size 0=ini.size:=by
  have e:ini.size=(ini.size-1)+1:=by omega
  have q:=minRun'_succ (ini.size-1) ini.size 0;rw [<- e,gB W]at q;exact q
 simp only [m.sz,mr];refine tS (wpS_mono (d8
  (fun x c z=>(x=0/\c=(none,0)/\Mid kd ini z)∨(1<=x/\c=(none,ini.size)/\(arrOf z).Perm ini/\failedOf z=none/\pendingOf z=#[(0,ini.size,0)]/\Up rk z ini.size))
  (Q:=fun c z=>c=(none,ini.size)/\(arrOf z).Perm ini/\failedOf z=none/\pendingOf z=#[(0,ini.size,0)]/\Up rk z ini.size) (fun x c z _ lx hI=>?_) (fun c z hI=>?_) (.inl ⟨rfl,rfl,m⟩)) fun c z hc=>?_)
 ·rcases hI with⟨rfl,rfl,m'⟩|⟨x1,rfl,hD⟩
  ·dsimp only;rw [gD (by omega)]
   simp only [Nat.sub_zero,Nat.min_self,cE];have O:∀{y:SortSt},Mid kd ini y->Up rk y ini.size->pendingOf (setPending y ((pendingOf y).push (0,ini.size,0)))=#[(0,ini.size,0)]:=fun{y} my uy=>by
    show(pendingOf y).push _=_;rw [my.pd];rfl
   refine tS (qbZ T m' (gw _) (by omega) fun r y my r1 r2 uy=>?_)
   dsimp only;by_cases c:r<ini.size
   ·rw [gB c];refine tS (wpS_lift (cC ⟨rfl,?_⟩));refine tS (qc0 T my (gw _) r2 uy fun y2 B U=>?_)
    simp only [Bool.not_true,hX,fP];refine tS (wpS_get ?_);have hb:(pendingOf y2).back?=none:=by rw [B.pd];rfl
    rw [hb];exact tS (wpS_modify (p0 (.inr ⟨by omega,rfl,B.pm,B.fl,O B U,U⟩)))
   ·rw [gD c];have e:r=ini.size:=by omega
    subst e;refine tS (wpS_get ?_);have hb:(pendingOf y).back?=none:=by rw [my.pd];rfl
    rw [hb];exact tS (wpS_modify (p0 (.inr ⟨by omega,rfl,my.pm,my.fl,O my uy,uy⟩)))
  ·dsimp only;rw [gB (gw _)];exact p0 ⟨rfl,hD⟩
 ·rcases hI with⟨hx,_,_⟩|⟨_,hc,hD⟩
  ·omega
  ·exact⟨hc,hD⟩
 ·obtain⟨rfl,d1,d2,d3,d4⟩:=hc;dsimp only;refine tS (wpS_mono (d8 (fun _ c y=>y=z/\c=(none,())) (Q:=fun c y=>y=z/\c=(none,())) (fun x c y _ _ hI=>?_) (fun _ _ q=>q) ⟨rfl,rfl⟩) fun c y hc=>?_)
  ·obtain⟨rfl,rfl⟩:=hI;refine tS (wpS_get ?_);rw [gB (by rw [d3];exact gw 1)]
   exact p0 ⟨rfl,rfl⟩
  ·obtain⟨rfl,rfl⟩:=hc;exact p0 (h _ d1 d2 d4)
end
open PySem PySem.Spec PyProof.Rows L2
theorem JW:∀ a:List Int,HT.lexLt a a=false
 | []=>rfl
 | x::r=>by rw [HT.lexLt_cons,gB rfl];exact JW r
theorem xX:∀{a b c:List Int},HT.lexLt a b=true->HT.lexLt b c=true->HT.lexLt a c=true
 | [],[],_,h,_=>by simp [HT.lexLt_nil_nil]at h
 | [],_::_,[],_,h=>by simp [HT.lexLt_cons_nil]at h
 | [],_::_,_::_,_,_=>rfl
 | _::_,[],_,h,_=>by simp [HT.lexLt_cons_nil]at h
 | _::_,_::_,[],_,h=>by simp [HT.lexLt_cons_nil]at h
 | x::a,y::b,z::c,h,k=>by
  rw [HT.lexLt_cons]at h k ⊢;by_cases e1:x=y
  ·subst e1;rw [gB rfl]at h;by_cases e2:x=z
   ·subst e2;rw [gB rfl]at k ⊢;exact xX h k
   ·rw [gD e2]at k ⊢;exact k
  ·rw [gD e1]at h;by_cases e2:y=z
   ·subst e2;rw [gD e1];exact h
   ·rw [gD e2]at k;simp at h k;rw [gD (by omega)]
    simp;omega
theorem xY:∀{a b:List Int},HT.lexLt a b=false->HT.lexLt b a=false->a=b
 | [],[],_,_=>rfl
 | [],_::_,h,_=>by simp [HT.lexLt_nil_cons]at h
 | _::_,[],_,h=>by simp [HT.lexLt_nil_cons]at h
 | x::a,y::b,h,k=>by
  rw [HT.lexLt_cons]at h k;by_cases e:x=y
  ·subst e;rw [gB rfl]at h k;rw [xY h k]
  ·rw [gD e]at h;rw [gD (hG e)]at k;simp at h k;omega
def v8(a b:List Int):Bool:=!HT.lexLt b a
theorem qc2(a b c:List Int)(h:v8 a b=true)(k:v8 b c=true):v8 a c=true:=by
 unfold v8 at *;cases e:HT.lexLt c a with
 | false=>rfl
 | true =>
  simp at h k;cases e2:HT.lexLt a b with
  | true=>rw [xX e e2]at k;cases k
  | false=>rw [xY e2 h,k]at e;cases e
theorem qc3(a b:List Int):(v8 a b||v8 b a)=true:=by
 unfold v8;cases e:HT.lexLt b a with
 | false=>rfl
 | true =>
  cases e2:HT.lexLt a b with
  | false=>rfl
  | true=>have:=xX e e2;rw [JW]at this;cases this
def wo(rs:List (List Int)):List (List Int):=rs.mergeSort v8
theorem KL(rs:List (List Int)):(wo rs).Perm rs:=List.mergeSort_perm rs v8
theorem qc4(rs:List (List Int)):(wo rs).Pairwise fun a b=>HT.lexLt b a=false:=by
 have h:=List.pairwise_mergeSort qc2 qc3 rs;exact h.imp fun{a b} q=>by simpa [v8]using q
theorem KM:∀{xs ys:List (List Int)},xs.Perm ys->xs.Pairwise (fun a b=>HT.lexLt b a=false)->ys.Pairwise (fun a b=>HT.lexLt b a=false)->xs=ys
 | [],ys,p,_,_=>by rw [List.nil_perm.mp p]
 | x::xs,[],p,_,_=>by have:=p.length_eq;simp at this
 | x::xs,y::ys,p,hx,hy=>by
  rw [List.pairwise_cons]at hx hy;have e:x=y:=by
   have m1:x∈y::ys:=p.mem_iff.mp gY;have m2:y∈x::xs:=p.mem_iff.mpr gY;rcases gl.mp m1 with q|q
   ·exact q
   ·rcases gl.mp m2 with q2|q2
    ·exact q2.symm
    ·exact xY (hy.1 x q) (hx.1 y q2)
  subst e;rw [KM (List.Perm.cons_inv p) hx.2 hy.2]
def v9(rs:List (List Int))(r:List Int):Int:=(rs.countP fun q=>HT.lexLt q r:Nat)
theorem Qb{rs:List (List Int)}{a b:List Int}(z:a∈rs):(v9 rs a<v9 rs b)↔HT.lexLt a b=true:=by
 unfold v9;constructor
 ·intro h;cases e:HT.lexLt a b with
  | true=>rfl
  | false =>
   have:(rs.countP fun q=>HT.lexLt q b)<=rs.countP fun q=>HT.lexLt q a:=List.countP_mono_left fun q _ hq=>by
    cases e2:HT.lexLt b a with
    | true=>exact xX hq e2
    | false=>rw [xY e e2];exact hq
   omega
 ·intro h;have:(rs.countP fun q=>HT.lexLt q a)<rs.countP fun q=>HT.lexLt q b:=by
   obtain⟨l,r,rfl⟩:=List.append_of_mem z;have m:∀ l:List (List Int),(l.countP fun q=>HT.lexLt q a)<=l.countP fun q=>HT.lexLt q b:=fun l=>List.countP_mono_left fun q _ hq=>xX hq h
   have m1:=m l;have m2:=m r;rw [List.countP_append,List.countP_append,List.countP_cons_of_neg (by simp [JW]),List.countP_cons_of_pos (p:=fun q=>HT.lexLt q b) h]
   omega
  omega
section
variable{prog:Program}{w:World}{A:Around}{E:Value->Shared->Prop}{s:Shared}
theorem qc5(f:Bool){a b:Int}{t u:Tok}{Q:Bool->Shared->Prop}(h:Q (decide (a<b)) s):wpAny (model prog w) A (oneLt' f (.int a t) (.int b u)) Q E s:=by
 cases f with
 | true=>exact oneLt_int h
 | false =>
  rw [oneLt'_eq];simp only [hX,fP];exact g6 (wpAny_richCompare_same (op:=.Lt) (typeIs_int s a t) (typeIs_int s b u) slot_int_lt (call_int_lt ⟨(fun z=>nomatch z),px h⟩))
theorem KN(f:Bool){Q:Option Bool×Unit->Shared->Prop}:∀{xs ys:List Value} {ns ms:List Int} (k:Nat),IntsAre xs ns->IntsAre ys ms ->
  (∀ r:Option Bool×Unit,(match r.1 with|some b=>b=HT.lexLt ns ms|none=>HT.lexLt ns ms=decide (xs.length<ys.length))->Q r s) ->
  wpAny (model prog w) A (forIn ((xs.zip ys).zipIdx k) ((none,()):Option Bool×Unit) fun x _=>match x with
   | ((p,q),i)=>do
    let e <- eqBool p q
    if (!e)=true then do
     let l <- oneLt' (f&&i==0) p q
     pure (ForInStep.done (some l,()))
    else pure (ForInStep.yield (none,()))) Q E s
 | _,_,_,_,k,.nil,.nil,h=>gk (h (none,()) (by rfl))
 | _,_,_,_,k,.nil,.cons _ _ _,h=>gk (h (none,()) (by simp [HT.lexLt_nil_cons]))
 | _,_,_,_,k,.cons _ _ _,.nil,h=>gk (h (none,()) (by simp [HT.lexLt_cons_nil]))
 | _,_,_,_,k,.cons (ns:=ns) a t hx,.cons (ns:=ms) b u hy,h=>by
  rw [List.zip_cons_cons,List.zipIdx_cons,dB];refine g6 (g6 (wpAny_eqBool_int ?_));by_cases c:a=b
  ·subst c;rw [cy];refine gk (KN f (k+1) hx hy fun r hr=>h r ?_)
   obtain⟨r1,_⟩:=r;cases r1 with
   | none=>dsimp only at hr ⊢;rw [HT.lexLt_cons,gB rfl,hr];simp
   | some v=>dsimp only at hr ⊢;rw [HT.lexLt_cons,gB rfl];exact hr
  ·have:(a==b)=false:=by simpa using c
   rw [this];refine g6 (qc5 _ (gk (gk (h (some (decide (a<b)),()) ?_))));rw [HT.lexLt_cons,gD c]
theorem qc6{a b:Addr}{xs ys:List Value}{ns z:List Int}{Q:Bool->Shared->Prop}(B:IsTup s.heap a xs.toArray)(O:IsTup s.heap b ys.toArray)(U:IntsAre xs ns)(W:IntsAre ys z)(h:Q (HT.lexLt ns z) s) :
  wpAny (model prog w) A (keyLt' (tuples' true) (.ref a) (.ref b)) Q E s:=by
 obtain⟨oa,ea,ca,na,da⟩:=B;obtain⟨ob,eb,cb,nb,db⟩:=O;refine g6 (m:=Builtin.List.listItems (.ref a)) (listItems_at ea da ?_);refine g6 (m:=Builtin.List.listItems (.ref b)) (listItems_at eb db ?_);refine g6 (KN true 0 U W fun r hr=>?_)
 obtain⟨r1,_⟩:=r;cases r1 with
 | some v=>dsimp only at hr ⊢;subst hr;exact gk h
 | none=>dsimp only at hr ⊢;rw [hr]at h;simpa using gk h
def qP(h:Heap):Value->List Int
 | .ref a=>(match h.get? a with
  | some o=>(match o.data with|.seq its _=>numsOf its.toList|_=>[])
  | none=>[])
 | _=>[]
def Rows(h:Heap)(vs:List Value):Prop:=∀ v∈vs,∃ a its ns,v=.ref a/\IsTup h a (its:List Value).toArray/\IntsAre its (ns:List Int)/\ns≠[]
theorem kC{h:Heap}{a:Addr}{its:List Value}{ns:List Int}(p:IsTup h a its.toArray)(q:IntsAre its ns):qP h (.ref a)=ns:=by
 obtain⟨o,e,c,n,d⟩:=p;unfold qP;dsimp only;rw [e];dsimp only;rw [d];exact q.numsOf
theorem Rows.stay{h h':Heap}{vs:List Value}(R:Rows h vs)(k:∀ b o,h.get? b=some o->h'.get? b=some o):Rows h' vs/\∀ v∈vs,qP h' v=qP h v:=by
 have go:∀ v∈vs,∃ a its ns,v=.ref a/\IsTup h a (its:List Value).toArray/\IsTup h' a its.toArray/\IntsAre its (ns:List Int)/\ns≠[]:=fun v hv=>by
  obtain⟨a,its,ns,e,p,q,n⟩:=R v hv;obtain⟨o,e2,c⟩:=p;exact⟨a,its,ns,e,⟨o,e2,c⟩,⟨o,k _ _ e2,c⟩,q,n⟩
 refine⟨fun v hv=>?_,fun v hv=>?_⟩
 ·obtain⟨a,its,ns,e,_,p,q,n⟩:=go v hv;exact⟨a,its,ns,e,p,q,n⟩
 ·obtain⟨a,its,ns,rfl,p,p',q,n⟩:=go v hv;rw [kC p q,kC p' q]
theorem KO:∀{vs:List Value} {Q:List (Option Value)->Shared->Prop},Rows s.heap vs->(∀ fs:List Value,fs.length=vs.length->(∀ f∈fs,∃ n t,f=.int n t)->Q (fs.map some) s)->wpAny (model prog w) A (vs.mapM firstOfTuple') Q E s
 | [],Q,_,h=>by rw [List.mapM_nil];exact gk (h [] rfl fun f hf=>by simp at hf)
 | v::vs,Q,R,h=>by
  obtain⟨a,its,ns,rfl,p,q,n⟩:=R v gY;obtain⟨o,e,c,m,d⟩:=p;rw [List.mapM_cons];have first:∃ x t r,its=.int x t::r:=by
   cases q with
   | nil=>exact absurd rfl n
   | cons x t r=>exact⟨x,t,_,rfl⟩
  obtain⟨x,t,r,rfl⟩:=first
  refine g6 (g6 (m:=typeOf (.ref a)) (wpAny_typeOf (T:="tuple") ⟨o,e,c⟩ ?_));have ht:(Value.type "tuple" != Value.type "tuple")=false:=by rfl
  rw [gD (by rw [ht];exact fw)]
  refine g6 (listItems_at e d (gk ?_));refine g6 (KO (fun v hv=>R v (gp _ hv)) fun fs hl hf=>gk ?_)
  have:=h (.int x t::fs) (by simp [hl]) fun f z=>by
   rcases gl.mp z with rfl|z
   ·exact⟨x,t,rfl⟩
   ·exact hf f z
  simpa using this
theorem KP:∀{fs:List Value},(∀ f∈fs,∃ n t,f=.int n t)->fs.mapM typeOf=pure (fs.map fun _=>Value.type "int")
 | [],_=>by simp
 | f::fs,h=>by
  obtain⟨n,t,rfl⟩:=h f gY;rw [List.mapM_cons,KP fun f hf=>h f (gp _ hf)]
  show(pure (Value.type "int") >>= fun b=>pure _ >>= fun bs=>pure (b::bs))=_
  simp
theorem qc7{vs:List Value}{Q:SortKind->Shared->Prop}(R:Rows s.heap vs)(z:vs≠[])(h:Q (tuples' true) s):wpAny (model prog w) A (keyKind' vs.toArray) Q E s:=by
 rw [keyKind'_eq,List.mapM_toArray,map_eq_pure_bind,bind_assoc];refine g6 (KO R fun fs hl hf=>?_)
 simp only [pure_bind];rw [gB (by simp)]
 refine g6 (cC ?_);have e:(fs.map some).toArray.filterMap id=fs.toArray:=by simp
 rw [e,oneTypeOnly'_eq,List.mapM_toArray,KP hf];simp only [map_pure,pure_bind];cases fs with
 | nil=>simp at hl;exact absurd (pJ.mp hl.symm) z
 | cons f fs =>
  have h0:(List.map (fun _=>Value.type "int") (f::fs)).toArray[0]?=some (Value.type "int"):=by simp
  have ha:((List.map (fun _=>Value.type "int") (f::fs)).toArray.all fun x=>x==Value.type "int")=true:=by
   simp only [List.all_toArray,List.all_map,p9];intro _ _;rfl
  rw [h0];simp only [ha,dz,pure_bind];exact gk h
theorem qc8{a:Addr}{vs:List Value}{n:Nat}{P:Fin->Shared->Prop}(Z:s.heap.get? a=some (seqObj "list" vs.toArray n))(R:Rows s.heap vs)(na:.ref a∉vs)(nd:(vs.map (qP s.heap)).Nodup)(h64:vs.length<64)
  (h:∀ us:List Value,us.Perm vs->(us.map (qP s.heap)).Pairwise (fun x y=>HT.lexLt y x=false)->P (.done (.ret .none)) {s with heap:=sortedHeap s.heap a vs us.toArray}) :
  wpAny (model prog w) A (Builtin.«list.sort» ⟨[.ref a],[]⟩) P E s:=by
 have la:a<s.heap.objs.size:=gv Z;rw [list_sort_plain];refine g6 (listItems_at Z rfl (g6 (listUpdate_at Z rfl ?_)));obtain⟨c1,o1⟩:∃ c1,(s.heap.update a (Obj.mapSeq fun _=>#[])).get? a=some (seqObj "list" #[] c1):=⟨_,get?_update_seq Z (fun _=>#[])⟩
 refine g6 (seqEpoch_at o1 rfl (g6 (wpAny_newTuple (g6 (wpAny_newList (tL ?_))))));show wpAny (model prog w) A _ P E {s with heap:=((s.heap.update a (Obj.mapSeq fun _=>#[])).push (seqObj "tuple" vs.toArray 0)).push (seqObj "list" #[] 0)}
 generalize eM:((s.heap.update a (Obj.mapSeq fun _=>#[])).push (seqObj "tuple" vs.toArray 0)).push (seqObj "list" #[] 0)=hM
 have old:∀ b o,b≠a->s.heap.get? b=some o->hM.get? b=some o:=fun b o ne e=>by
  have lb:=gv e;rw [<- eM,pD _ _ _ (by rw [size_push',p7];exact gP (pC lb)),pD _ _ _ (by rw [p7];exact gP lb),cA _ _ _ _ ne]
  exact e
 have o2:hM.get? a=some (seqObj "list" #[] c1):=by
  rw [<- eM,pD _ _ _ (by rw [size_push',p7];exact gP (pC la)),pD _ _ _ (by rw [p7];exact gP la)]
  exact o1
 have B:∀ v∈vs,∃ b its ns,v=.ref b/\IsTup s.heap b (its:List Value).toArray/\IsTup hM b its.toArray/\IntsAre its (ns:List Int)/\ns≠[]:=fun v hv=>by
  obtain⟨b,its,ns,e,⟨o,e2,c⟩,q,nn⟩:=R v hv;refine⟨b,its,ns,e,⟨o,e2,c⟩,⟨o,old b o (fun z=>?_) e2,c⟩,q,nn⟩
  subst z e;exact na hv
 have R2:Rows hM vs:=fun v hv=>let ⟨b,its,ns,e,_,p,q,nn⟩:=B v hv;⟨b,its,ns,e,p,q,nn⟩
 dsimp only;have O:∀ st:SortSt,(arrOf st).Perm (pairsOf vs)->(∀ i j,i<=j->j<(pairsOf vs).size->av (fun v=>v9 (vs.map (qP s.heap)) (qP s.heap v)) (arrOf st) i<=av (fun v=>v9 (vs.map (qP s.heap)) (qP s.heap v)) (arrOf st) j) ->
   P (.done (.ret .none)) {s with heap:=hM.update a (Obj.mapSeq fun _=>(arrOf st).map (·.2))}:=fun st pm up=>by
  have hp:(arrOf st).toList.Perm (vs.zip vs):=by rw [<- pairsOf_toList];exact cn.mp pm
  have W:∀ p∈(arrOf st).toList,p.1=p.2/\p.1∈vs:=fun p U=>mem_zip_self (hp.mem_iff.mp U)
  have e2:((arrOf st).map (·.2)).toList=(arrOf st).toList.map (·.1):=by
   rw [Array.toList_map];exact pK fun p U=>(W p U).1.symm
  have pv:((arrOf st).map (·.2)).toList.Perm vs:=by
   rw [e2];have:=hp.map Prod.fst
   rwa [List.map_fst_zip (gw _)]at this
  have q:=h ((arrOf st).map (·.2)).toList pv (by
   rw [e2,fG,cU,cw];intro i j hi hj hij;have hi':i<(arrOf st).size:=by simpa using hi
   have Y:j<(arrOf st).size:=by simpa using hj
   have u:=up i j (tF hij) (by rw [<- pm.size_eq];exact Y)
   unfold av at u;rw [getElem?_pos _ i hi',getElem?_pos _ j Y]at u;dsimp only at u;show HT.lexLt (qP s.heap (arrOf st).toList[j].1) (qP s.heap (arrOf st).toList[i].1)=false;cases el:HT.lexLt (qP s.heap (arrOf st).toList[j].1) (qP s.heap (arrOf st).toList[i].1)with
   | false=>rfl
   | true =>
    have mj:=(W (arrOf st).toList[j] (dg _)).2;have:=(Qb (rs:=vs.map (qP s.heap)) (tR.mpr ⟨_,mj,rfl⟩)).mpr el;simp only [Array.getElem_toList]at this;omega)
  rw [Array.toArray_toList]at q;have:sortedHeap s.heap a vs ((arrOf st).map (·.2))=hM.update a (Obj.mapSeq fun _=>(arrOf st).map (·.2)):=by unfold sortedHeap;rw [eM]
  rw [<- this];exact q
 have hz:vs.toArray.size=vs.length:=by simp
 by_cases c2:vs.toArray.size<2
 ·rw [gB c2,gB c2];refine g6 (gk ?_);rw [StateT.run_pure];refine g6 (gk ?_);dsimp only;refine g6 (seqEpoch_at o2 rfl (g6 (listUpdate_at o2 rfl ?_ (hsz2:=by rw [Array.size_map];show(pairsOf vs).size<=_;rw [dH,fm];omega))))
  simp only [bne_self_eq_false,hX,fP];refine gk (O (SortSt.mk' general' (vs.toArray.zip vs.toArray) #[] 7 none) (Array.Perm.refl _) fun i j l1 l2=>?_)
  rw [dH]at l2;have:i=j:=by omega
  subst this;exact fY _
 ·rw [gD c2,gD c2];have hv:vs≠[]:=fun z=>by subst z;simp at c2
  refine g6 (qc7 R2 hv ?_);have T:Tells prog w A {s with heap:=hM} (tuples' true) (fun v=>v9 (vs.map (qP s.heap)) (qP s.heap v)) (pairsOf vs):=by
   refine⟨fun p hp q hq E Q hQ=>?_,?_⟩
   ·rw [pairsOf_toList]at hp hq;have mp:=(mem_zip_self hp).2;have mq:=(mem_zip_self hq).2;obtain⟨b1,i1,n1,e1,p1,p1',q1,_⟩:=B _ mp;obtain⟨b2,i2,n2,e2,p2,p2',q2,_⟩:=B _ mq;have r1:=kC p1 q1;have r2:=kC p2 q2;rw [e1,e2]at hQ ⊢;refine qc6 p1' p2' q1 q2 ?_;have:=Qb (rs:=vs.map (qP s.heap)) (a:=qP s.heap (.ref b1)) (b:=qP s.heap (.ref b2)) (tR.mpr ⟨_,mp,by rw [e1]⟩)
    rw [r1,r2]at this;rw [r1,r2]at hQ;have e3:decide (v9 (vs.map (qP s.heap)) n1<v9 (vs.map (qP s.heap)) n2)=HT.lexLt n1 n2:=by
     cases el:HT.lexLt n1 n2 with
     | true=>exact pj (this.mpr el)
     | false=>exact tN fun z=>by rw [this.mp z]at el;cases el
    rw [e3]at hQ;exact hQ
   ·rw [pairsOf_toList];have e:(vs.zip vs).map (fun p=>v9 (vs.map (qP s.heap)) (qP s.heap p.1))=(vs.map (qP s.heap)).map (v9 (vs.map (qP s.heap))):=by
     have:(vs.zip vs).map (fun p=>v9 (vs.map (qP s.heap)) (qP s.heap p.1))=((vs.zip vs).map Prod.fst).map fun v=>v9 (vs.map (qP s.heap)) (qP s.heap v):=by rw [fG];rfl
     rw [this,List.map_fst_zip (gw _),fG];rfl
    rw [e];show List.Pairwise _ _;rw [cU];refine List.Pairwise.imp_of_mem (fun{x y} hx hy ne z=>?_) nd
    have k1:=Qb (rs:=vs.map (qP s.heap)) (b:=y) hx;have k2:=Qb (rs:=vs.map (qP s.heap)) (b:=x) hy;refine ne (xY ?_ ?_)
    ·cases el:HT.lexLt x y with
     | false=>rfl
     | true=>have:=k1.mpr el;omega
    ·cases el:HT.lexLt y x with
     | false=>rfl
     | true=>have:=k2.mpr el;omega
  refine g6 (fq (qc1 (E:=E) (st:=SortSt.mk' (tuples' true) (vs.toArray.zip vs.toArray) #[] 7 none) (ini:=pairsOf vs)
   (Q:=fun _ z=>(arrOf z).Perm (pairsOf vs)/\failedOf z=none/\Up (fun v=>v9 (vs.map (qP s.heap)) (qP s.heap v)) z (pairsOf vs).size) T ⟨Array.Perm.refl _,rfl,rfl,rfl⟩ (by rw [dH];omega) (by rw [dH];exact h64) fun z a1 a2 a3=>⟨a1,a2,a3⟩) ?_ fun _ _ e=>e)
  rintro⟨⟨⟩,z⟩ s' ⟨rfl,pm,fl,up⟩;dsimp only;refine g6 (seqEpoch_at o2 rfl (g6 (listUpdate_at o2 rfl ?_ (hsz2:=by refine t8 (le_of_eq ((Array.size_map ..).trans (pm.size_eq.trans (dH _)))) ?_;rw [fm];omega))))
  rw [fl];simp only [bne_self_eq_false,hX,fP];exact gk (O z pm up)
end
open PySem PySem.Spec PyProof.Rows L2
section
variable{prog:Program}{w:World}{A:Around}{E:Value->Shared->Prop}{s:Shared}
theorem qc9{l:Addr}{vs:List Value}{Q:Value->Shared->Prop}(W:s.heap.IsList l vs.toArray)(R:Rows s.heap vs)(Y:(vs.map (qP s.heap)).Nodup)(O:vs.length<64)
  (h:∀ us:List Value,us.Perm vs->(us.map (qP s.heap)).Pairwise (fun x y=>HT.lexLt y x=false)->Q (.ref (s.heap.objs.size+1)) {s with heap:=sortedAll s.heap vs us.toArray}) :
  wpAny (model prog w) A (call (.builtin "sorted") [.ref l]) Q E s:=by
 refine Calls.call_function_entry kind_sorted plain_sorted entry_sorted (args_sorted1 _) ?_;unfold Builtin.«sorted»;refine g6 (m:=checkCount "sorted" 1 1 _) (gk (g6 (collect_list W (g6 (wpAny_newList ?_)) (by rw [fm];omega))))
 have z1:((s.heap.push (seqObj "list" #[] 0)).update s.heap.objs.size (Obj.mapSeq (·++vs.toArray))).objs.size=s.heap.objs.size+1:=by rw [p7,size_push']
 show wpAny _ _ _ _ _ {s with heap:=((s.heap.push (seqObj "list" #[] 0)).update s.heap.objs.size (Obj.mapSeq (·++vs.toArray))).push (seqObj "list" vs.toArray 0)}
 rw [z1];generalize eM:((s.heap.push (seqObj "list" #[] 0)).update s.heap.objs.size (Obj.mapSeq (·++vs.toArray))).push (seqObj "list" vs.toArray 0)=hM
 have o1:hM.get? (s.heap.objs.size+1)=some (seqObj "list" vs.toArray 0):=by
  rw [<- eM,<- z1];exact gH _ rfl
 have U:∀ b o,s.heap.get? b=some o->hM.get? b=some o:=fun b o e=>by
  have lb:=gv e;rw [<- eM,pD _ _ _ (by rw [z1];exact gP (pC lb)),cA _ _ _ _ (gP lb),pD _ _ _ (gP lb)]
  exact e
 obtain⟨R2,B⟩:=R.stay U;have mp:vs.map (qP hM)=vs.map (qP s.heap):=pK B;have na:Value.ref (s.heap.objs.size+1)∉vs:=fun z=>by
  obtain⟨a,its,ns,e,⟨o,e2,_⟩,_⟩:=R _ z;cases e;exact absurd (gv e2) (Nat.not_lt.mpr (cV _))
 refine g6 (tL (fF slot_list_sort ⟨_,o1,rfl⟩ entry_list_sort ?_ (args_list_sort _)));refine qc8 (s:={s with heap:=hM}) o1 R2 na (by rw [mp];exact Y) O fun us pm up=>⟨_,rfl,gk ⟨_,rfl,?_⟩⟩
 have q:=h us pm (by
  have:us.map (qP hM)=us.map (qP s.heap):=pK fun v hv=>B v (pm.mem_iff.mp hv)
  rw [<- this];exact up)
 unfold sortedAll at q;rw [eM]at q;exact q
end
def qD(r:List Int):D:=.tup (r.map .int)
def y7:List D->Option (List (List Int))
 | []=>some []
 | .tup xs::r=>(match jG xs,y7 r with|some a,some b=>some (a::b)|_,_=>none)
 | _::_=>none
def vR:List D->R En
 | [.lst ds]=>(match y7 ds with
  | some rs=>if rs.Nodup/\rs.length<64/\[]∉rs then .ok (.ow (.lst ((wo rs).map qD)))else .stuck
  | none=>.stuck)
 | _=>.stuck
def toV:Value->V
 | .ref a=>.ref a
 | _=>.non
theorem KQ{X:Cx}{pins:List (Addr×Obj)}{σ:St}{F H:Hp}{s:Shared}(I:Inv X pins σ H s)(l:Le F H):∀{ds:List D} {rs:List (List Int)} {vs:List V} {us:List Value},y7 ds=some rs->Reps (kx X) F vs ds->Vals vs us ->
  us.map (qP s.heap)=rs/\∀ u∈us,∃ a its ns,u=.ref a/\IsTup s.heap a (its:List Value).toArray/\IntsAre its ns/\Rep (kx X) F (.ref a) (qD ns)/\ns∈rs
 | [],rs,vs,us,h,r,q=>by
  cases h;cases (show vs=[]from r)
  cases q;exact⟨rfl,fun u hu=>by simp at hu⟩
 | d::ds,rs,vs,us,h,r,q=>by
  obtain⟨v,vr,rfl,r1,r2⟩:=r;cases d<;>first|(cases h;done)|skip
  rename_i xs;unfold y7 at h;cases e1:jG xs with
  | none=>rw [e1]at h;cases h
  | some ns =>
   cases e2:y7 ds with
   | none=>rw [e1,e2]at h;cases h
   | some rs' =>
    rw [e1,e2]at h;cases h;cases q with
    | cons q1 q2 =>
     obtain⟨m,k⟩:=KQ I l e2 r2 q2;obtain⟨a,ws,rfl,hq,B⟩:=id r1;cases (show _=Value.ref a from q1)
     have ev:=yz e1 B;subst ev;obtain⟨its,rv,ht,_⟩:=I.tuple (SqT.le l hq);have hi:IntsAre its ns:=kg rv;have z:Rep (kx X) F (.ref a) (qD ns):=by
      refine⟨a,_,rfl,hq,?_⟩;exact JD ns
     refine⟨by rw [gN,m,kC ht hi],fun u hu=>?_⟩
     rcases gl.mp hu with rfl|hu
     ·exact⟨a,its,ns,rfl,ht,hi,z,gY⟩
     ·obtain⟨a',its',O,e,p1,p2,p3,p4⟩:=k u hu;exact⟨a',its',O,e,p1,p2,p3,gp _ p4⟩
section
variable{X:Cx}{F0 H0:Hp}
theorem JX:zD X (.builtin "sorted") vR:=by
 intro pins s σ F H xs us ds Q I l rx qx w;cases qx with
 | nil=>exact w.elim
 | @cons x d xs ds q1 q2 =>
  cases q2 with
  | cons _ _=>cases d<;>exact w.elim
  | nil =>
   cases d<;>first|exact w.elim|skip
   rename_i ds;unfold vR at w;dsimp only at w;cases e:y7 ds with
   | none=>rw [e]at w;exact w.elim
   | some rs =>
    rw [e]at w;dsimp only at w;by_cases c:rs.Nodup/\rs.length<64/\[]∉rs
    ·rw [gB c]at w;obtain⟨p,vs,rfl,hq,U⟩:=RdV.lst l q1;cases rx with
     | cons r1 r2 =>
      cases r2;cases r1;obtain⟨its,rv,pl,hz⟩:=I.list hq;obtain⟨m,k⟩:=KQ I l e U rv;have B:its.length=rs.length:=by rw [<- m,gy]
      refine qc9 pl.isList (fun v hv=>?_) (by rw [m];exact c.1) (by rw [B];exact c.2.1) fun ys pm up=>?_
      ·obtain⟨a,i2,ns,e,p1,p2,_,p4⟩:=k v hv;exact⟨a,i2,ns,e,p1,p2,fun z=>c.2.2 (z▸p4)⟩
      ·have em:ys.map (qP s.heap)=wo rs:=KM ((pm.map _).trans (by rw [m];exact(KL rs).symm)) up (qc4 rs)
       have go:∀ zs:List Value,(∀ u∈zs,u∈its)->Vals (zs.map toV) zs/\Reps (kx X) F (zs.map toV) ((zs.map (qP s.heap)).map qD):=by
        intro zs
        induction zs with
        | nil=>intro _;exact⟨.nil,rfl⟩
        | cons z zs ih =>
         intro hz;obtain⟨i1,i2⟩:=ih fun u hu=>hz u (gp _ hu)
         obtain⟨a,i3,ns,rfl,p1,p2,p3,_⟩:=k z (hz z gY);refine⟨.cons rfl i1,⟨.ref a,_,rfl,?_,i2⟩⟩;rw [kC p1 p2];exact p3
       obtain⟨g1,g2⟩:=go ys fun u hu=>pm.mem_iff.mp hu
       rw [em]at g2;obtain⟨c',he⟩:=sortedAll_at s.heap its ys.toArray;have hp:H (s.heap.objs.size+1)=none:=I.hok.fresh (cV _);have O:(ys.map toV).length<=sizeLine:=by
        rw [gy,pm.length_eq,fm];have:=c.2.1;omega
       refine⟨.ref (s.heap.objs.size+1),upd H (s.heap.objs.size+1) (.lst (ys.map toV)),I.laid (t':=s.toks) (fun b o q=>sortedAll_old q) (cV _) ⟨O,ys,c',g1,he⟩,rfl,?_⟩
       exact w _ _ _ (Gr.new l hp) ⟨_,_,rfl,hp,Le.none l hp,qN,g2⟩
    ·rw [gD c]at w;exact w.elim
end
def zF{α:Type}(xs:List α)(lo hi:Option Int):List α:=(xs.drop (HT.sIx xs.length 0 lo)).take (HT.sIx xs.length xs.length hi-HT.sIx xs.length 0 lo)
def dSl:D->Option Int->Option Int->R En
 | .lst xs,lo,hi=>.ok (.ow (.lst (zF xs lo hi)))
 | .tup xs,lo,hi=>if HT.sIx xs.length 0 lo=0/\HT.sIx xs.length xs.length hi=xs.length then .stuck else .ok (.fz (.tup (zF xs lo hi)))
 | _,_,_=>.stuck
abbrev OF:=Rho->R (Option Int)
def oNo:OF:=fun _=>.ok none
def isI:D->R (Option Int)
 | .int i=>.ok (some i)
 | _=>.stuck
def oE(e:EF):OF:=fun ρ=>(e ρ).bind fun w=>isI w.d
def eSl(a:EF)(lo hi:OF):EF:=fun ρ=>(a ρ).bind fun x=>(lo ρ).bind fun l=>(hi ρ).bind fun u=>dSl x.d l u
theorem Reps.take{κ:Kx}{F:Hp}:∀(n:Nat) {ds:List D} {vs:List V},Reps κ F vs ds->Reps κ F (vs.take n) (ds.take n)
 | 0,_,_,_=>rfl
 | n+1,[],_,h=>by cases (show _=_ from h);rfl
 | n+1,d::ds,_,h=>by
  obtain⟨v,r,rfl,h1,h2⟩:=h;exact⟨v,r.take n,rfl,h1,Reps.take n h2⟩
theorem Reps.drop{κ:Kx}{F:Hp}:∀(n:Nat) {ds:List D} {vs:List V},Reps κ F vs ds->Reps κ F (vs.drop n) (ds.drop n)
 | 0,_,_,h=>h
 | n+1,[],_,h=>by cases (show _=_ from h);rfl
 | n+1,d::ds,_,h=>by
  obtain⟨v,r,rfl,h1,h2⟩:=h;exact Reps.drop n h2
theorem Reps.cut{κ:Kx}{F:Hp}{ds:List D}{vs:List V}(h:Reps κ F vs ds)(lo hi:Option Int):Reps κ F (wa vs lo hi) (zF ds lo hi):=by
 unfold wa zF;rw [Reps.length h];exact Reps.take _ (Reps.drop _ h)
section
variable{X:Cx}{F0 H0:Hp}{pos p2:Pos}
def SO(X:Cx)(F0 H0:Hp)(e:Option Expr)(f:OF):Prop :=
 ∃ t,PO X e t/\∀(σ:St) (F H:Hp) (ρ:Rho) (Q:Option Int->Hp->Prop),StOk (kx X) F0 H0 F H ρ σ->KE (XP X F0 H0) (f ρ) (fun o=>∀ F' H',Gr F H F' H'->Q o H')->t σ H Q
theorem KR:SO X F0 H0 none oNo:=⟨_,Tc,fun σ F H ρ Q S h=>h F H (Gr.refl S.s)⟩
theorem Qc{e:Expr}{f:EF}(z:SE X F0 H0 e f):SO X F0 H0 (some e) (oE f) :=
 ⟨_,Td (jp (e:=e)),fun σ F H ρ Q S h=>z.sem S ((KE.bind h).imp fun w k v F1 H1 g q=>by
  have r:=Vok.rd q
  revert k r
  generalize w.d=d;intro k r;cases d<;>first|exact k.elim|skip
  exact⟨_,RdV.int r,k F1 H1 g⟩)⟩
theorem JY{e:Expr}{lo hi:Option Expr}{f:EF}{fl B:OF}(O:SE X F0 H0 e f)(U:SO X F0 H0 lo fl)(W:SO X F0 H0 hi B):SE X F0 H0 (.Subscript e (.Slice lo hi none p2) pos) (eSl f fl B):=by
 intro pins s σ F H ρ Q S I h;obtain⟨tl,pl,kl⟩:=U;obtain⟨th,ph,kh⟩:=W;refine ve (Te (p2:=p2) (pos:=pos) (SlR.or Tu Tg) (jp (e:=e)) pl ph pins s σ H (fun v H'=>∀ u s',RelV v u->Inv X pins σ H' s'->Q u s') I ?_)
 refine O.sem S ((KE.bind h).imp fun w h1 v F1 H1 g1 q1=>?_)
 refine kl σ F1 H1 ρ _ (S.grow g1) ((KE.bind h1).imp fun o1 h2 F2 H2 g2=>?_)
 refine kh σ F2 H2 ρ _ (S.grow (g1.trans g2)) ((KE.bind h2).imp fun o2 h3 F3 H3 g3=>?_)
 have r:=RdV.gr (g2.trans g3) (Vok.rd q1);have g:=g1.trans (g2.trans g3);have z:=yq g h3
 revert z r
 generalize w.d=d;intro r z;cases d<;>first|exact z.elim|skip
 ·rename_i ds;obtain⟨a,vs,rfl,hq,_,rs⟩:=RdV.tup g3.s r;unfold dSl at z;dsimp only at z;by_cases c:HT.sIx ds.length 0 o1=0/\HT.sIx ds.length ds.length o2=ds.length
  ·rw [gB c]at z;exact z.elim
  ·rw [gD c]at z;refine .inr ⟨a,vs,rfl,hq,by rw [Reps.length rs];exact c,fun p hp=>?_⟩
   have gn:=Gr.newF (o:=.tup (wa vs o1 o2)) g3.s hp;exact z (.ref p) _ _ gn ⟨p,_,rfl,.inl (.inl qN),Reps.le gn.f _ (Reps.cut rs o1 o2)⟩
 ·rename_i ds;obtain⟨a,vs,rfl,hq,rs⟩:=RdV.lst g3.s r;refine .inl ⟨a,vs,rfl,hq,fun p hp=>?_⟩
  exact z (.ref p) _ _ (Gr.new g3.s hp) ⟨p,_,rfl,hp,Le.none g3.s hp,qN,Reps.cut rs o1 o2⟩
theorem Reps.set{κ:Kx}{F:Hp}{v:V}{d:D}(h:Rep κ F v d):∀(n:Nat) {ds:List D} {vs:List V},Reps κ F vs ds->Reps κ F (vs.set n v) (ds.set n d)
 | _,[],_,h2=>by cases (show _=_ from h2);rfl
 | 0,_::ds,_,h2=>by
  obtain⟨u,r,rfl,h3,h4⟩:=h2;exact⟨v,r,rfl,h,h4⟩
 | n+1,_::ds,_,h2=>by
  obtain⟨u,r,rfl,h3,h4⟩:=h2;exact⟨u,r.set n v,rfl,h3,Reps.set h n h4⟩
def qA:D->D->R En
 | .int i,.int j=>okI (i+j)
 | .lst xs,.lst ys=>if xs.length+ys.length<=sz then .ok (.ow (.lst (xs++ys)))else .stuck
 | .tup xs,.tup ys=>if xs.length+ys.length<=sz/\xs≠[]/\ys≠[]then .ok (.fz (.tup (xs++ys)))else .stuck
 | _,_=>.stuck
theorem qV:OpD X (binaryOp .Add) qA:=by
 intro pins s σ F H x y v u dx dy Q I l rx ry qx qy w;cases dx<;>first|exact w.elim|skip
 ·cases dy<;>first|exact w.elim|skip
  exact qao pins s σ F H x y v u _ _ Q I l rx ry qx qy w
 ·rename_i xs;cases dy<;>first|exact w.elim|skip
  rename_i ys;unfold qA at w;dsimp only at w;by_cases c:xs.length+ys.length<=sz/\xs≠[]/\ys≠[]
  ·rw [gB c]at w;obtain⟨a,vs,rfl,hq,_,rs⟩:=RdV.tup l qx;obtain⟨b,us,rfl,U,_,O⟩:=RdV.tup l qy;have n1:vs≠[]:=fun z=>by subst z;have:=Reps.length rs;simp at this;exact c.2.1 (pJ.mp this.symm)
   have n2:us≠[]:=fun z=>by subst z;have:=Reps.length O;simp at this;exact c.2.2 (pJ.mp this.symm)
   refine Ti pins s σ H _ _ v u Q I rx ry ⟨a,b,vs,us,rfl,rfl,hq,U,n1,by rw [Reps.length rs,Reps.length O,<- jB];exact c.1,fun z=>absurd z n2,fun _ p hp=>?_⟩
   have gn:=Gr.newF (o:=.tup (vs++us)) l hp;exact w (.ref p) _ _ gn ⟨p,_,rfl,.inl (.inl qN),Reps.le gn.f _ (Reps.append rs O)⟩
  ·rw [gD c]at w;exact w.elim
 ·rename_i xs;cases dy<;>first|exact w.elim|skip
  rename_i ys;unfold qA at w;dsimp only at w;by_cases c:xs.length+ys.length<=sz
  ·rw [gB c]at w;obtain⟨a,vs,rfl,hq,rs⟩:=RdV.lst l qx;obtain⟨b,us,rfl,U,O⟩:=RdV.lst l qy;cases (show v=Value.ref a from rx)
   cases (show u=Value.ref b from ry)
   obtain⟨its,rv,pl,hz⟩:=I.list hq;obtain⟨B,W,pl2,hz2⟩:=I.list U;obtain⟨⟨cls,dd,data,sl⟩,ho,hc,n,hd⟩:=pl.isList;obtain⟨⟨h4,dd2,h3,sl2⟩,Y,Z,n2,hd2⟩:=pl2.isList;simp only at hc hd Z hd2;subst hc hd Z hd2;have hl:its.length+B.length<=sizeLine:=by rw [<- rv.length,<- W.length,Reps.length rs,Reps.length O,<- jB];exact c
   refine concat_meets ⟨_,ho,rfl⟩ ⟨_,Y,rfl⟩ noFill_list_add seq_list_add PySem.F.slot_list_add PySem.F.entry_list_add (PySem.F.args_list_add_2 _ _) (list_addW a b its.toArray B.toArray n n2 dd dd2 sl sl2 (by simpa using hl)) ⟨ho,Y,?_⟩
   have ea:its.toArray++B.toArray=(its++B).toArray:=by simp
   rw [ea];have hp:H s.heap.objs.size=none:=I.hok.fresh (gw _);refine⟨.ref s.heap.objs.size,upd H s.heap.objs.size (.lst (vs++us)),I.laid (t':=s.toks) (fun b o q=>gg _ q) (gw _) ⟨?_,its++B,0,rv.append W,gH _ rfl⟩,rfl,?_⟩
   ·rw [f8,rv.length,W.length];exact hl
   ·exact w _ _ _ (Gr.new l hp) ⟨_,_,rfl,hp,Le.none l hp,qN,Reps.append rs O⟩
  ·rw [gD c]at w;exact w.elim
def Qd:D->D->R En
 | x,.lst xs=>if eqok x&&xs.all (qH 8)then okB (din x xs)else .stuck
 | x,.tup xs=>if eqok x&&xs.all (qH 8)then okB (din x xs)else .stuck
 | _,_=>.stuck
def Qe:D->D->R En
 | x,.lst xs=>if eqok x&&xs.all (qH 8)then okB (!din x xs)else .stuck
 | x,.tup xs=>if eqok x&&xs.all (qH 8)then okB (!din x xs)else .stuck
 | _,_=>.stuck
theorem KS{xs:List D}{n:Nat}(h:xs.all (qH n)=true):PyData.canLayAll0 (jP xs)=true/\PyData.depthAll (jP xs)<=n:=by
 obtain⟨a,b⟩:=wf (n+1) (.lst xs) h;exact⟨a,Nat.le_of_succ_le_succ b⟩
theorem qca(z:X.A.units+10<cLine):OpD X (compareOp .In) Qd:=by
 intro pins s σ F H x y v u dx dy Q I l rx ry qx qy w;cases dy<;>first|exact w.elim|skip
 all_goals
  rename_i xs;unfold Qd at w;dsimp only at w;by_cases c:(eqok dx&&xs.all (qH 8))=true
  ·rw [gB c]at w;rw [gK]at c;obtain⟨as,ha⟩:=wV I l c.1 qx rx;obtain⟨bs,hb⟩:=wV (n:=9) I l (by exact c.2) qy ry
   obtain⟨l1,l2⟩:=KS c.2;obtain⟨k1,k2⟩:=wf 8 dx c.1
   first
    | refine SeqAt.in_list_reads hb ha l1 k1 (by omega) ?_
    | refine SeqAt.in_tuple_reads hb ha l1 k1 (by omega) ?_
   rw [Jv dx 8 8 c.1 xs c.2];exact⟨.bl _,H,I,rfl,qZ (X:=X) l (v:=.bl _) w rfl⟩
  ·rw [gD c]at w;exact w.elim
theorem qcb(z:X.A.units+10<cLine):OpD X (compareOp .NotIn) Qe:=by
 intro pins s σ F H x y v u dx dy Q I l rx ry qx qy w;cases dy<;>first|exact w.elim|skip
 all_goals
  rename_i xs;unfold Qe at w;dsimp only at w;by_cases c:(eqok dx&&xs.all (qH 8))=true
  ·rw [gB c]at w;rw [gK]at c;obtain⟨as,ha⟩:=wV I l c.1 qx rx;obtain⟨bs,hb⟩:=wV (n:=9) I l (by exact c.2) qy ry
   obtain⟨l1,l2⟩:=KS c.2;obtain⟨k1,k2⟩:=wf 8 dx c.1
   first
    | refine SeqAt.notIn_list_reads hb ha l1 k1 (by omega) ?_
    | refine SeqAt.notIn_tuple_reads hb ha l1 k1 (by omega) ?_
   rw [Jv dx 8 8 c.1 xs c.2];exact⟨.bl _,H,I,rfl,qZ (X:=X) l (v:=.bl _) w rfl⟩
  ·rw [gD c]at w;exact w.elim
end
open PySem PySem.Spec PyProof.Rows L2
section
variable{prog:Program}{w:World}{A:Around}{E:Value->Shared->Prop}{s:Shared}
theorem qcc(d:Addr)(hd:(d==sysModules)=false) :
  MeetsIn prog w (Builtin.«dict.__len__» ⟨[.ref d],[]⟩) (fun _ R s=>∃ o es ep,s.heap.get? d=some o/\o.data=.dict es ep/\R (.ok (.ret (.int es.size s.toks))) {s with toks:=s.toks+1}) :=
 .of_wp fun A R s ⟨o,es,ep,ho,hdat,h⟩=>by
  refine g6 (m:=dictSize d) (g6 (cW ho hdat (gk ?_)));refine g6 (m:=Builtin.Dict.pendingCount d) (wpAny_pendingCount_other hd (wpAny_ret_mkInt ?_));rw [Nat.add_zero];exact h
theorem KU{d:Addr}{o:Obj}{es:Array DictEntry}{ep:Nat}{Q:Value->Shared->Prop}(hd:(d==sysModules)=false)(B:s.heap.get? d=some o)(O:o.ExactDict)(z:o.data=.dict es ep)(hz:es.size<=sizeLine)
  (h:Q (.int es.size (s.toks+1)) {s with toks:=s.toks+1+1}):wpAny (model prog w) A (call (.builtin "len") [.ref d]) Q E s:=by
 rw [fm]at hz;have ty:s.TypeIs (.ref d) "dict":=⟨o,B,O.1⟩;refine Calls.call_function_entry kind_len plain_len entry_len (args_len1 _) ?_;unfold Builtin.«len»;refine g6 (m:=oneArg "len" _) (gk ?_);refine g6 (m:=callSpecial? (.ref d) (Str.ofString "__len__")) (tX (name:=Str.ofString "__len__") ty PySem.F.slot_dict_len
  (cY PySem.F.slot_dict_len ty PySem.F.entry_dict_len (PySem.F.args_dict_len_1 _) (qcc d hd) ⟨o,es,ep,B,z,?_⟩))
 refine g6 (tL (gk (g6 (pY ?_))));have c1:¬ ((es.size:Nat):Int)<0:=by omega
 have c2:¬ ((es.size:Nat):Int)≥2 ^ 63:=by omega
 show wpAny _ _ (if ((es.size:Nat):Int)<0 then _ else _) _ _ _
 rw [gD c1];show wpAny _ _ (if ((es.size:Nat):Int)≥2 ^ 63 then _ else _) _ _ _
 rw [gD c2];exact g6 (wpAny_mkInt (gk ⟨_,rfl,h⟩))
end
def jC:List D->R En
 | [.lst xs]=>okI xs.length
 | [.tup xs]=>okI xs.length
 | [.dK kvs]=>if kvs.length<=sz then okI kvs.length else .stuck
 | [.dT kvs]=>okI kvs.length
 | _=>.stuck
theorem RepT.length{κ:Kx}{F:Hp}:∀{kds:List (List (Sum Int Str)×D)} {kvs:List (List Key×V)},RepT κ F kvs kds->kvs.length=kds.length
 | [],_,h=>by cases (show _=_ from h);rfl
 | (q,d)::r,_,h=>by
  obtain⟨v,kr,rfl,h1,h2⟩:=h;simp [RepT.length h2]
theorem RdV.dT{κ:Kx}{F H:Hp}{v:V}{ds:List (List (Sum Int Str)×D)}(s:Le F H)(h:RdV κ F H v (.dT ds)):∃ a kvs,v=.ref a/\Rd H a (.dT kvs)/\RepT κ F kvs ds:=by
 rcases h with⟨a,vs,e,q,r⟩|⟨a,o,e,e2,r⟩
 ·exact⟨a,vs,e,Rd.le s q,r⟩
 ·cases o with
  | dT vs=>exact⟨a,vs,e,.inl e2,r⟩
  | _=>exact r.elim
section
variable{X:Cx}{F0 H0:Hp}
theorem zG:zD X (.builtin "len") jC:=by
 intro pins s σ F H xs us ds Q I l rx qx w;cases qx with
 | nil=>exact w.elim
 | @cons x d xs ds q1 q2 =>
  cases q2 with
  | cons _ _=>cases d<;>exact w.elim
  | nil =>
   cases d<;>first|exact w.elim|skip
   ·exact Ke pins s σ F H _ _ [.tup _] Q I l rx (.cons q1 .nil) w
   ·exact Ke pins s σ F H _ _ [.lst _] Q I l rx (.cons q1 .nil) w
   ·rename_i B;obtain⟨p,kvs,rfl,hq,rk⟩:=RdV.dK l q1;cases rx with
    | cons r1 r2 =>
     cases r2;cases r1;obtain⟨hd,vs,O,o,es,ep,ho,hx,z,hk,hp,hn⟩:=Inv.dictK I hq;have e1:es.size=B.length:=by
      have a1:es.toList.length=vs.length:=hp.length;have a2:=O.length;have a3:=RepK.length rk;simp at a1;omega
     unfold jC at w;dsimp only at w;by_cases c:B.length<=sz
     ·rw [gB c]at w;refine KU hd ho hx z (by rw [e1,<- jB];exact c) ?_
      rw [e1];exact⟨.int _,H,I.tok _,⟨_,rfl⟩,qZ (X:=X) l (v:=.int _) w rfl⟩
     ·rw [gD c]at w;exact w.elim
   ·rename_i B;obtain⟨p,kvs,rfl,hq,rk⟩:=RdV.dT l q1;cases rx with
    | cons r1 r2 =>
     cases r2;cases r1;obtain⟨hz,hd,zs,O,o,es,ep,ho,hx,z,h4,h5⟩:=hq.ok I.hok;have e1:es.size=kvs.length:=by
      have a1:es.toList.length=zs.length:=by rw [h4,gy]
      have a2:=O.length;simp at a1;omega
     refine KU hd ho hx z (by omega) ?_
     rw [e1,RepT.length rk];exact⟨.int _,H,I.tok _,⟨_,rfl⟩,qZ (X:=X) l (v:=.int _) w rfl⟩
theorem KW{κ:Kx}{F:Hp}:∀{kds:List (List (Sum Int Str)×D)} {kvs:List (List Key×V)},RepT κ F kvs kds->kvs.map (·.1)=kds.map (·.1)
 | [],_,h=>by cases (show _=_ from h);rfl
 | (k,d)::r,_,h=>by
  obtain⟨v,kr,rfl,h1,h2⟩:=h;simp [KW h2]
theorem KY{κ:Kx}{F:Hp}:∀{kds es:List (List (Sum Int Str)×D)} {kvs us:List (List Key×V)},RepT κ F kvs kds->RepT κ F us es->RepT κ F (kvs++us) (kds++es)
 | [],_,_,_,h,k=>by cases (show _=_ from h);exact k
 | (q,d)::r,_,_,_,h,k=>by
  obtain⟨v,kr,rfl,h1,h2⟩:=h;exact⟨v,kr++_,rfl,h1,KY h2 k⟩
theorem KZ{κ:Kx}{F:Hp}{k:List Key}{v:V}{d:D}(z:Rep κ F v d):∀{kds:List (List (Sum Int Str)×D)} {kvs:List (List Key×V)},RepT κ F kvs kds ->
  RepT κ F (kvs.map (fun kv=>if kv.1=k then(kv.1,v)else kv)) (kds.map (fun kv=>if kv.1=k then(kv.1,d)else kv))
 | [],_,h=>by cases (show _=_ from h);rfl
 | (q,e)::r,_,h=>by
  obtain⟨u,kr,rfl,h1,h2⟩:=h;have hr:=KZ (k:=k) z h2;by_cases c:q=k
  ·simp only [gN,gB c];exact⟨v,_,rfl,z,hr⟩
  ·simp only [gN,gD c];exact⟨u,_,rfl,h1,hr⟩
theorem X2{κ:Kx}{F:Hp}{k:List Key}{v:V}{d:D}(B:Rep κ F v d){z:List (List (Sum Int Str)×D)}{kvs:List (List Key×V)}(h:RepT κ F kvs z):RepT κ F (jz kvs k v) (zc k d z):=by
 have e:=KW h;have a:∀{α:Type} (l:List (List Key×α)),(l.any fun kv=>decide (kv.1=k))=(l.map (·.1)).any fun q=>decide (q=k):=fun l=>by rw [List.any_map];rfl
 unfold jz zc;rw [a,a,e];by_cases c:((z.map (·.1)).any fun q=>decide (q=k))=true
 ·rw [gB c,gB c];exact KZ B h
 ·rw [gD c,gD c];exact KY h ⟨v,[],rfl,B,rfl⟩
theorem xZ{κ:Kx}{H F' H':Hp}:∀{ws:List En} {vs:List V} {q:List Key},Voks κ H F' H' vs ws->jS (ws.map En.d)=some q->vs=q.map kV
 | [],vs,q,h,e=>by cases e;exact h
 | w::ws,vs,q,h,e=>by
  obtain⟨v,r,rfl,h1,h2⟩:=h;rw [gN]at e;unfold jS at e;cases e1:zN w.d with
  | none=>rw [e1]at e;cases e
  | some k =>
   cases e2:jS (ws.map En.d)with
   | none=>rw [e1,e2]at e;cases e
   | some ks =>
    rw [e1,e2]at e;cases e;have r1:=Vok.rd h1;have ev:v=kV k:=by
     cases ed:w.d with
     | int j=>rw [ed]at e1 r1;cases e1;exact RdV.int r1
     | str j=>rw [ed]at e1 r1;cases e1;exact RdV.str r1
     | _=>rw [ed]at e1;cases e1
    rw [ev,xZ h2 e2];rfl
theorem Qf{es:List Expr}{fs:List EF}{k:Nat}{tp:Pos}(B:SA X F0 H0 es fs){σ:St}{F H:Hp}{ρ:Rho}{Q:VK}(S:StOk (kx X) F0 H0 F H ρ σ)
  (h:KE (XP X F0 H0) (evs fs ρ) fun ws=>∀ vs F' H' p,Gr F H F' H'->Voks (kx X) H F' H' vs ws->H' p=none->vs.length<=sizeLine/\Q (.ref p) (upd H' p (.tup vs))):Js X (.Tuple es k tp) σ H Q:=by
 intro pins s I;refine cz (B tp pins s σ F H ρ _ S I (h.imp fun ws k1 vs us F1 H1 s1 g1 q1 r1 I1=>?_))
 have hf:H1 s1.heap.objs.size=none:=I1.hok.fresh (gw _);obtain⟨z,q⟩:=k1 vs F1 H1 s1.heap.objs.size g1 q1 hf;refine⟨by rw [<- r1.length];exact z,?_⟩
 refine⟨.ref s1.heap.objs.size,upd H1 s1.heap.objs.size (.tup vs),I1.laid (t':=s1.toks) (fun b u e=>gg _ e) (gw _) ?_,rfl,q⟩
 exact⟨z,us,r1,⟨_,gH _ rfl,rfl,_,rfl⟩⟩
def kD(i:Nat)(k:List EF)(e:EF):SF:=fun ρ=>match ρ[i]? with
 | some (some (.ow (.dT kvs)))=>sOf ((e ρ).bind En.st) fun d=>sOf (evs k ρ) fun ws=>match jS (ws.map En.d)with
  | some key=>if kvs.length<sz/\key.length<=sz then .nx (ρ.set i (some (.ow (.dT (zc key d kvs)))))else .stuck
  | none=>.stuck
 | _=>.stuck
theorem qcd(i:Nat){x:Str}{np tp pos pos':Pos}{ks:List Expr}{e:Expr}{n:Nat}{O:List EF}{U:EF}(hu:X.A.units+10<cLine)(W:SA X F0 H0 ks O)(Y:SE X F0 H0 e U)(Z:X.N[i]?=some x:=by rfl)(hv:Vis X.env.scope x:=by trivial)(hd:(x==("__debug__":Str))=false:=by decide)
  (B:(x==("__classdict__":Str))=false:=by decide)(hs:swapsWith e (some (.Subscript (.Name x np) (.Tuple ks n tp) pos')) pos.line X.env=pure false:=by rfl) :
  SS X F0 H0 (.Assign [.Subscript (.Name x np) (.Tuple ks n tp) pos'] e pos) (kD i O U):=by
 intro pins s σ F H ρ D S I h;unfold kD at h;cases ew:ρ[i]? with
 | none=>rw [ew]at h;exact h.elim
 | some w =>
  rw [ew]at h;cases w with
  | none=>exact h.elim
  | some w =>
   cases w with
   | fz d=>exact h.elim
   | br d=>exact h.elim
   | lk d=>exact h.elim
   | od d=>exact h.elim
   | ow d =>
    cases d<;>first|exact h.elim|skip
    rename_i z;have h:=KE.bind (PostS.of h);obtain⟨v,e1,a,o,rfl,h0,hf,hh,ro⟩:=S.val i _ ew;cases o<;>first|exact ro.elim|skip
    rename_i kvs;refine Jo (pos:=pos) (pos':=pos') (by omega) (jn (pos:=np) Z hv hd B) (jp (e:=.Tuple ks n tp)) (jp (e:=e)) hs pins s σ H D I (Y.sem S (h.imp fun w k1 y F1 H1 g1 q1=>?_))
    cases es:w.st with
    | exc x=>rw [es]at k1;exact k1.elim
    | stuck=>rw [es]at k1;exact k1.elim
    | ok d =>
     rw [es]at k1;have ry:=Vok.st S.s g1 q1 es;obtain⟨g2,_⟩:=zC S.s g1;have S2:=S.grow g2;refine⟨_,e1,Qf W S2 ((PostS.of (show PostS X F0 H0 F D _ from k1)).imp fun ws k2 vs F3 H3 p g3 q3 hp=>?_)⟩
     cases ek:jS (ws.map En.d)with
     | none=>rw [ek]at k2;exact k2.elim
     | some key =>
      rw [ek]at k2;have ev:=xZ q3 ek;subst ev;have lv:kvs.length=z.length:=RepT.length ro;by_cases c:z.length<sz/\key.length<=sz
      ·have k3:PostS X F0 H0 F D (.nx (ρ.set i (some (.ow (.dT (zc key d z)))))):=by simpa [gB c,KE]using k2
       refine⟨by rw [gy,<- jB];exact c.2,a,_,rfl,DPut.t (e:=?_) qN (by rw [lv,<- jB];exact c.1),?_⟩
       ·rw [qt (jy (g3.h _ _ (g1.h _ _ hh)) hp)];exact g3.h _ _ (g1.h _ _ hh)
       ·have g4:=Gr.new (o:=.tup (key.map kV)) g3.s hp;refine k3 σ _ _ (Le.trans g2.f (Le.trans g3.f g4.f)) (((S2.grow g3).grow g4).mut ew e1 (o:=.dT (jz kvs key y)) ?_);exact X2 (Rep.le g3.f _ ry) (RepT.le (Le.trans g2.f g3.f) _ ro)
      ·have:False:=by simpa [gD c,PostS,KE]using k2
       exact this.elim
end
open PySem PySem.Spec PyProof.Rows L2
def chE(g:D->D->R En)(y:D)(c:EF):EF:=fun ρ=>(c ρ).bind fun z=>g y z.d
section
variable{ρ:Rho}{d:D}{e f:EF}{i:Nat}{a b c:EF}
theorem qce{i j:Int}:qA (.int i) (.int j)=.ok (.fz (.int (i+j))):=rfl
theorem qcf{xs:List D}:jC [.lst xs]=.ok (.fz (.int xs.length)):=rfl
theorem qcg{xs:List D}:jC [.tup xs]=.ok (.fz (.int xs.length)):=rfl
theorem qch{lo hi:OF}:eSl a lo hi ρ=(a ρ).b fun x=>(lo ρ).b fun l=>(hi ρ).b fun u=>dSl x.dd l u:=rfl
theorem qci:oNo ρ=.ok none:=rfl
theorem qcj:oE e ρ=(e ρ).b fun w=>isI w.dd:=rfl
theorem qck{j:Int}:isI (.int j)=.ok (some j):=rfl
theorem qcl{xs:List D}{lo hi:Option Int}:dSl (.lst xs) lo hi=.ok (.ow (.lst (zF xs lo hi))):=rfl
theorem qcm{g g':D->D->R En}:xU g g' a b c ρ=(a ρ).b fun x=>(b ρ).b fun y=>(g x.dd y.dd).b fun r=>(isB r.dd).b (Q5 (chE g' y.dd c) kF ρ):=rfl
theorem qcn{g:D->D->R En}:chE g d c ρ=(c ρ).b fun z=>g d z.dd:=rfl
theorem qco{kvs:List (List (Sum Int Str)×D)}{k:List EF}{ws:List En}{key:List (Sum Int Str)}(h:ρ[i]?=some (some (.ow (.dT kvs))))(h2:(e ρ).b En.sto=.ok d)(B:evs k ρ=.ok ws)(O:jS (ws.map En.d)=some key)
  (U:kvs.length<sz)(z:key.length<=sz):kD i k e ρ=.nx (ρ.set i (some (.ow (.dT (zc key d kvs))))):=by
 have h2:(e ρ).bind En.st=.ok d:=h2;unfold kD;rw [h];dsimp only;rw [h2];unfold sOf;dsimp only;rw [B];dsimp only;rw [O];dsimp only;rw [gB ⟨U,z⟩]
theorem qcp{α:Type}(xs:List α)(a m:Nat):zF xs (some (a:Int)) (some ((a:Int)+(m:Int)))=(xs.drop a).take m:=by
 unfold zF;rw [HT.sIx_nat,show(a:Int)+(m:Int)=((a+m:Nat):Int)by omega,HT.sIx_nat]
 by_cases h:a<=xs.length
 ·rw [show min a xs.length=a by omega]
  apply List.ext_getElem?;intro i;rw [cL,cL,List.getElem?_drop];by_cases c1:i<m
  ·rw [gB c1];by_cases c2:i<min (a+m) xs.length-a
   ·rw [gB c2]
   ·rw [gD c2,pW (by omega)]
  ·rw [gD c1,gD (by omega)]
 ·rw [List.drop_eq_nil_of_le (by omega:xs.length<=min a xs.length),List.drop_eq_nil_of_le (by omega)]
  simp
theorem wp{w:En}{ds:List D}(h:e ρ=.ok w)(h2:w.st=.ok (.lst ds)):jo e ρ=.ok ds:=by unfold jo;rw [h,R.bind_ok,h2,R.bind_ok];rfl
theorem qcq{xs ys:List D}(h:xs.length+ys.length<=sz):qA (.lst xs) (.lst ys)=.ok (.ow (.lst (xs++ys))):=by
 unfold qA;dsimp only;rw [gB h]
theorem qcr{a b c d:Int}:dNe (.tup [.int a,.int b]) (.tup [.int c,.int d])=.ok (.fz (.bl (!(a==c&&b==d)))):=by
 show okB (!deq _ _)=_;simp [deq,deqs]
theorem X3:∀ rs:List (List Int),y7 (rs.map qD)=some rs
 | []=>rfl
 | r::rs=>by
  show(match jG (r.map .int),y7 (rs.map qD)with|some a,some b=>some (a::b)|_,_=>none)=_
  have e:∀ ns:List Int,jG (ns.map D.int)=some ns:=by
   intro ns
   induction ns with
   | nil=>rfl
   | cons n ns ih =>
    show(match jG (ns.map D.int)with|some l=>some (n::l)|none=>none)=_
    rw [ih]
  rw [e,X3 rs]
theorem JZ{rs:List (List Int)}(h1:rs.Nodup)(h2:rs.length<64)(z:[]∉rs):vR [.lst (rs.map qD)]=.ok (.ow (.lst ((wo rs).map qD))):=by
 unfold vR;dsimp only;rw [X3];dsimp only;rw [gB ⟨h1,h2,z⟩]
end
open PySem PySem.Spec PyProof.Rows L2
section
variable{prog:Program}{w:World}{A:Around}{R:Result->Shared->Prop}{it:Addr}{fp wr:List Addr}{n:Nat}{P:Nat->Value->Prop}{St:Nat->Heap->Prop}
def qcs:Option Value->Array Value
 | none=>#[]
 | some v=>#[v,v]
theorem qct(W:Walks prog w A.in1 it fp wr n P St)(bt:Nat->Nat->Bool)(cmp:CmpOf prog w A.in1 .Gt P bt)(p:Addr)(np:p∉fp)(dv:Value) :
  ∀(k j:Nat) (s:Shared) (ob:Option Value) (c:Nat),n-j=k->j<=n->St j s.heap->(match ob with|none=>j=0|some v=>0<j/\P (argBest bt (j-1)) v) ->
  s.heap.get? p=some {cls:=.type "list",dict:=none,data:=.seq (qcs ob) c,slots:=#[]} ->
  (∀ v h' tk,(n=0/\v=dv∨0<n/\P (argBest bt (n-1)) v)->(∀ b o,b∉wr->b≠p->s.heap.get? b=some o->h'.get? b=some o)->R (.ok (.ret v)) {s with heap:=h',toks:=tk}) ->
  codeAny (model prog w) A (.builtin "max.loop" ⟨[.ref it,.none,.ref p],[(Str.ofString "default",dv)]⟩) R s:=by
 have pw:p∉wr:=fun z=>np (W.sub _ z)
 have nm:(toString "max"++toString ".loop":String)="max.loop":=by decide
 intro k
 induction k with
 | zero =>
  intro j s ob c hk hj st hb hp hR;have e:j=n:=by omega
  subst e;refine codeAny_builtin PySem.F.entry_max_loop ?_;rw [Around.under_plainId fK _];refine g6 (m:=seqItems? (.ref p)) (fR hp rfl ?_);refine g6 (wpAny_tryCatch (W.done s _ _ st fun h' tk kp=>?_))
  have U:=kp p _ pw hp;cases ob with
  | none =>
   refine g6 (cC (gk (hR dv _ tk (.inl ⟨hb,rfl⟩) fun b o O _ e=>kp b o O e)))
  | some v =>
   refine g6 (m:=updateSeq p fun _=>#[]) (dC U rfl (g6 (pY (gk ?_))) (by show 2<=sizeLine;decide) (by simp))
   exact hR v _ tk (.inr ⟨hb.1,hb.2⟩) fun b o O B e=>(t5 _ _ (hG B)).trans (kp b o O e)
 | succ k ih =>
  intro j s ob c hk hj st hb hp hR;have lt:j<n:=by omega
  refine codeAny_builtin PySem.F.entry_max_loop ?_;rw [Around.under_plainId fK _];refine g6 (m:=seqItems? (.ref p)) (fR hp rfl ?_);refine g6 (wpAny_tryCatch (W.item j s _ _ lt st fun v h' tk hP st' kp=>?_))
  have U:=kp p _ pw hp;have frame:∀(h'':Heap),(∀ b o,b≠p->h'.get? b=some o->h''.get? b=some o)->St (j+1) h'':=fun h'' q=>W.frame _ _ _ st' fun b hbf o e=>q b o (fun z=>np (by rw [<- z];exact hbf)) e
  cases ob with
  | none =>
   have e:j=0:=hb;subst e;refine g6 (m:=updateSeq p fun _=>#[v,v]) (dC U rfl ?_ (by show 0<=sizeLine;decide) (by show 2<=sizeLine+1;decide))
   rw [nm];refine gk ⟨dq fK _,ih 1 _ (some v) _ (by omega) lt (frame _ fun b o B e=>(t5 _ _ (hG B)).trans e) ⟨by decide,hP⟩ (tq _ U rfl) fun v' h2 Y q Z=>?_⟩
   exact hR v' h2 Y q fun b o O B e=>Z b o O B ((t5 _ _ (hG B)).trans (kp b o O e))
  | some vb =>
   obtain⟨j0,hPb⟩:=hb;refine g6 (gk (g6 (wpAny_tryCatch (tL (g6 (cmp j (argBest bt (j-1)) v vb _ _ _ hP hPb (g6 (tL (px (g6 (pY (gk ?_))))))))))));have ea:argBest bt j=if bt j (argBest bt (j-1))then j else argBest bt (j-1):=by
    obtain⟨i,rfl⟩:∃ i,j=i+1:=⟨j-1,by omega⟩
    rfl
   by_cases cb:bt j (argBest bt (j-1))=true
   ·rw [gB cb];rw [gB cb]at ea;refine g6 (m:=updateSeq p fun _=>#[v,v]) (dC U rfl (g6 (pY ?_)) (by show 2<=sizeLine;decide) (by show 2<=sizeLine+1;decide))
    rw [nm];refine gk ⟨dq fK _,ih (j+1) _ (some v) _ (by omega) lt (frame _ fun b o B e=>(t5 _ _ (hG B)).trans e) ⟨by omega,?_⟩ (tq _ U rfl) fun v' h2 Y q Z=>?_⟩
    ·rw [Nat.add_sub_cancel,ea];exact hP
    ·exact hR v' h2 Y q fun b o O B e=>Z b o O B ((t5 _ _ (hG B)).trans (kp b o O e))
   ·rw [gD cb];rw [gD cb]at ea;refine g6 (pY ?_);rw [nm];refine gk ⟨dq fK _,ih (j+1) _ (some vb) c (by omega) lt st' ⟨by omega,?_⟩ U fun v' h2 Y q Z=>?_⟩
    ·rw [Nat.add_sub_cancel,ea];exact hPb
    ·exact hR v' h2 Y q fun b o O B e=>Z b o O B (kp b o O e)
end
section
variable{prog:Program}{w:World}{A:Around}{E:Value->Shared->Prop}{s:Shared}
theorem qcu(a b:Value):argsOk "max" ⟨[a],[(Str.ofString "default",b)]⟩:=by unfold argsOk;kernel_rfl
theorem qcv{l:Addr}{xs:Array (Int×Tok)}{dv:Value}{Q:Value->Shared->Prop}(Y:A.handled=none)(Z:s.heap.IsList l (intItems xs))
  (h:∀ v h' tk,(xs.size=0/\v=dv∨0<xs.size/\(intItems xs)[argBest (fun i j=>decide (numAt xs i>numAt xs j)) (xs.size-1)]?=some v)->(∀ b o,s.heap.get? b=some o->h'.get? b=some o)->Q v {s with heap:=h',toks:=tk}) :
  wpAny (model prog w) A (call (.builtin "max") [.ref l] [(Str.ofString "default",dv)]) Q E s:=by
 have nm:(toString "max"++toString ".loop":String)="max.loop":=by decide
 have U:(intItems xs).size=xs.size:=by simp [intItems]
 refine py (pq PySem.F.plain_max PySem.F.entry_max ?_);have body:wpAny (model prog w) A.in1 (Builtin.«max» ⟨[.ref l],[(Str.ofString "default",dv)]⟩) (fun fin s'=>match fin with
   | .done f=>(match (Except.ok f:Result)with|.ok (.ret v)=>Q v s'|.ok _=>False|.error e=>E e s')
   | .again c'=>c'.quiet=true/\codeAny (model prog w) A c' (fun r s'=>match r with|.ok (.ret v)=>Q v s'|.ok _=>False|.error e=>E e s') s') E s:=by
  refine g6 (m:=Builtin.Builtins.bindParams "max" ["key","default"] 0 ⟨[],[(Str.ofString "default",dv)]⟩) (wpAny_of_eq (show Builtin.Builtins.bindParams "max" ["key","default"] 0 ⟨[],[(Str.ofString "default",dv)]⟩=pure [none,some dv]from rfl) ?_)
  refine g6 (gk (g6 (iter_intList Z fun s₂ e st B O=>?_)))
  subst e;refine g6 (tw ?_);rw [nm];have W:=Walks.list (prog:=prog) (w:=w) (A:=A.in1) Y s.heap.objs.size l O (intItems xs);refine gk ⟨dq fK _,qct W _ (CmpOf.ints_gt (numAt xs) fun _ _=>intItems_at) _ (fun z=>tB _ (B _ z)) dv _ 0 _ none 0 rfl (tZ _) (W.frame _ _ _ st fun b _ o e=>gg _ e) rfl (gH _ rfl) fun v h' tk q kp=>?_⟩
  refine h v h' tk ?_ (old_kept fun b o hb e=>kp b o hb (gP (gv e)) (gg _ e))
  rw [U]at q;exact q
 simp only [checkBuiltinCall,PySem.F.kind_max];have ok:=qcu (.ref l) dv;unfold argsOk at ok
 revert ok
 generalize Manifest.signature? "max"=sg;intro ok;cases sg with
 | none=>exact gk body
 | some sg =>
  have ok:Bind.checkArgs "max" sg ⟨[.ref l],[(Str.ofString "default",dv)]⟩=pure ():=ok;simp only [ok];exact gk body
end
def u0:D->D->R En
 | .lst ds,.int d=>(match jG ds with|some []=>okI d|some (i::r)=>okI (yy i r)|none=>.stuck)
 | _,_=>.stuck
section
variable{X:Cx}{F0 H0:Hp}{pos p kp:Pos}
theorem qcw{e d:Expr}{W fd:EF}(Y:SE X F0 H0 e W)(hd:SE X F0 H0 d fd)(Z:X.mg "max"=none)(hc:X.calm=true:=by rfl)(hg:Gl X "max":=by rfl)
  (h1:backTo pos (starEach [e] X.env)=(false,eval e X.env)::backTo pos (starEach [] X.env):=by rfl)(h2:(backTo pos (starEach [e] X.env)).any (·.1)=false:=by rfl)
  (h3:(backToKw pos (keywordEach [⟨some "default",d,kp⟩] X.env)).all (·.1.isSome)=true:=by rfl)(h4:(backToKw pos (keywordEach [⟨some "default",d,kp⟩] X.env)).any (·.1.isNone)=false:=by rfl)
  (h5:(backToKw pos (keywordEach [⟨some "default",d,kp⟩] X.env)).filterMap (·.1)=[Str.ofString "default"]:=by rfl)
  (U:starEach [e] X.env=[(false,eval e X.env)]:=by rfl) :
  SE X F0 H0 (.Call (.Name "max" p) [e] [⟨some "default",d,kp⟩] pos) (eOp u0 W fd):=by
 intro pins s σ F H ρ Q S I h;refine hV (zi I hg Z pZ ?_);refine callWith_kw ?_ h1 h2 h3 h4;rw [U];refine gJ (Y pins s σ F H ρ _ S I ((KE.bind h).imp fun wx k1 v u F1 H1 s1 g1 q1 r1 I1=>t7 ?_))
 refine kws_cons (hd pins s1 σ F1 H1 ρ _ (S.grow g1) I1 ((KE.bind k1).imp fun wy k2 v2 u2 F2 H2 s2 g2 q2 r2 I2=>kws_nil ?_))
 rw [h5];have qx:=RdV.gr g2 (Vok.rd q1);have qy:=Vok.rd q2;have B:=yq (g1.trans g2) k2
 revert B qx qy
 generalize wx.d=dx;generalize wy.d=dy;intro qx qy B;cases dx<;>first|exact B.elim|skip
 rename_i ds;cases dy<;>first|exact B.elim|skip
 rename_i dv;unfold u0 at B;dsimp only at B;cases RdV.int qy;obtain⟨td,rfl⟩:=r2;cases ei:jG ds with
 | none=>rw [ei]at B;exact B.elim
 | some ns =>
  rw [ei]at B;obtain⟨a,vs,rfl,hq,rs⟩:=RdV.lst g2.s qx;have ev:=yz ei rs;subst ev;cases r1;obtain⟨its,rv,pl,hz⟩:=I2.list hq;have hi:IntsAre its ns:=kg rv;obtain⟨ys,ey⟩:=hi.allInts.items;have O:ns=ys.toList.map (·.1):=by rw [<- hi.numsOf,<- nums_intItems,<- ey]
  have hl:=pl.isList;rw [ey]at hl;have hsz:ys.size=ns.length:=by rw [O];simp
  refine ve (pins:=pins) (σ:=σ) (qcv (I2.ok.hd hc) hl fun v h' tk hv kp=>?_)
  cases ns with
  | nil =>
   rcases hv with⟨_,rfl⟩|⟨z,_⟩
   ·exact⟨.int dv,H2,I2.kept kp,⟨_,rfl⟩,qZ (X:=X) g2.s (v:=.int _) B rfl⟩
   ·rw [hsz]at z;simp at z
  | cons i r =>
   rcases hv with⟨z,_⟩|⟨_,hv⟩
   ·rw [hsz]at z;simp at z
   ·obtain⟨t,rfl⟩:=intItems_at hv;obtain⟨b1,b2⟩:=argBest_gt (numAt ys) (ys.size-1);have m1:numAt ys (argBest (fun i j=>decide (numAt ys i>numAt ys j)) (ys.size-1))∈i::r:=by
     rw [O,numAt_eq];exact getD_mem (by rw [gy,fM];simp at hsz;omega)
    have m2:∀ a∈i::r,a<=numAt ys (argBest (fun i j=>decide (numAt ys i>numAt ys j)) (ys.size-1)):=fun a ha=>by
     rw [O]at ha;obtain⟨j,hj,rfl⟩:=mem_getD ha;rw [gy,fM]at hj;rw [<- numAt_eq];exact b2 j (by omega)
    obtain⟨k1,k2⟩:=Ku r i;have em:numAt ys (argBest (fun i j=>decide (numAt ys i>numAt ys j)) (ys.size-1))=yy i r:=Int.le_antisymm (k2 _ m1) (m2 _ k1)
    rw [em];exact⟨.int _,H2,I2.kept kp,⟨_,rfl⟩,qZ (X:=X) g2.s (v:=.int _) B rfl⟩
def va(i:Nat)(e:EF):SF:=fun ρ=>match ρ[i]? with
 | some (some (.ow (.lst xs)))=>sOf (e ρ) fun w=>match w with
  | .ow (.lst ys)=>if xs.length+ys.length<=sz then .nx (ρ.set i (some (.ow (.lst (xs++ys)))))else .stuck
  | _=>.stuck
 | _=>.stuck
theorem Qg(i:Nat){x:Str}{apos cpos np:Pos}{e:Expr}{f:EF}(Z:SE X F0 H0 e f)(hN:X.N[i]?=some x:=by rfl)(hv:Vis X.env.scope x:=by trivial)(hd:(x==("__debug__":Str))=false:=by decide)
  (Y:(x==("__classdict__":Str))=false:=by decide)(B:attributeBase (.Name x np) "extend" X.env (eval (.Name x np) X.env)=eval (.Name x np) X.env:=by rfl)
  (U:((backTo cpos (starEach [e] X.env)).all (fun x=>!x.1)&&(backToKw cpos (keywordEach [] X.env)).all (fun x=>x.1.isSome)
   && decide ([e].length+([]:List Keyword).length+(if ([]:List Keyword).isEmpty then 0 else 1)<30))=true:=by rfl)
  (O:(apos.endLine==cpos.line)=true:=by rfl) (W:starEach [e] X.env=(false,eval e X.env)::starEach [] X.env:=by rfl) (z:(backTo cpos (starEach [] X.env)).any (·.1)=false:=by rfl)
  (hs:swapsWith (.Call (.Attribute (.Name x np) "extend" apos) [e] [] cpos) none pos.line X.env=pure false:=by rfl) :
  SS X F0 H0 (.Expr (.Call (.Attribute (.Name x np) "extend" apos) [e] [] cpos) pos) (va i f):=by
 intro pins s σ F H ρ D S I h;unfold va at h;cases ew:ρ[i]? with
 | none=>rw [ew]at h;exact h.elim
 | some w =>
  rw [ew]at h;cases w with
  | none=>exact h.elim
  | some w =>
   cases w with
   | fz d=>exact h.elim
   | br d=>exact h.elim
   | lk d=>exact h.elim
   | od d=>exact h.elim
   | ow d =>
    cases d<;>first|exact h.elim|skip
    rename_i ds;have h:=PostS.of h;obtain⟨v,e1,a,o,rfl,h0,hf,hh,ro⟩:=S.val i _ ew;cases o<;>first|exact ro.elim|skip
    rename_i vs;have P:=xC (pos:=pos) (wQ (X:=X) fB PySem.F.slot_list_extend PySem.F.type_list_extend TJ (jn (pos:=np) hN hv hd Y) (vJ (jp (e:=e)) w9 W) B U O W z) hs;refine P pins s σ H D I ⟨_,e1,.inl ⟨rfl,vs,SqL.of hh⟩,Z.sem S (h.imp fun w k y F1 H1 g1 q1=>?_)⟩
    cases w with
    | fz d=>exact k.elim
    | br d=>exact k.elim
    | lk d=>exact k.elim
    | od d=>exact k.elim
    | ow d =>
     cases d<;>first|exact k.elim|skip
     rename_i es;obtain⟨b,o,rfl,b0,bf,bh,rb⟩:=q1;cases o<;>first|exact rb.elim|skip
     rename_i us;dsimp only at k;by_cases c:ds.length+es.length<=sz
     ·rw [gB c]at k;have hl:vs.length+us.length<=sizeLine:=by rw [Reps.length ro,Reps.length rb,<- jB];exact c
      refine⟨a,b,vs,us,rfl,rfl,g1.h _ _ hh,bh,hl,?_⟩;exact k σ _ _ g1.f ((S.grow g1).mut ew e1 (o:=.lst (vs++us)) (Reps.append (Reps.le g1.f _ ro) rb))
     ·rw [gD c]at k;exact k.elim
def u8:D->Bool
 | .non=>true
 | _=>false
def Z0:D->D->R En
 | .xc _ _,_=>.stuck
 | d,.non=>okB (u8 d)
 | _,_=>.stuck
def Qh:D->D->R En
 | .xc _ _,_=>.stuck
 | d,.non=>okB (!u8 d)
 | _,_=>.stuck
theorem X4{κ:Kx}{F H:Hp}{v:V}{d:D}(l:Le F H)(q:RdV κ F H v d)(z:∀ c fs,d≠.xc c fs):decide (v=.non)=u8 d:=by
 cases d with
 | non=>rw [RdV.non q];rfl
 | bl b=>rw [RdV.bl q];rfl
 | int b=>rw [RdV.int q];rfl
 | str b=>rw [RdV.str q];rfl
 | tup ds=>obtain⟨a,vs,rfl,_⟩:=RdV.tup l q;rfl
 | lst ds=>obtain⟨a,vs,rfl,_⟩:=RdV.lst l q;rfl
 | dK ds=>obtain⟨a,vs,rfl,_⟩:=RdV.dK l q;rfl
 | dT ds=>obtain⟨a,vs,rfl,_⟩:=RdV.dT l q;rfl
 | xc c fs=>exact absurd rfl (z c fs)
theorem X5:OpD X (compareOp .Is) Z0:=vf GP fun F H x y dx dy Q l qx qy w=>by
 have hx:∀ c fs,dx≠.xc c fs:=fun c fs z=>by subst z;exact w.elim
 cases dy<;>first|(cases dx<;>exact w.elim)|skip
 have w:Wish X F H (okB (u8 dx)) Q:=by cases dx<;>first|exact w|exact w.elim
 refine⟨RdV.non qy,?_⟩;rw [X4 l qx hx];exact qZ l (v:=.bl _) w rfl
theorem qcx:OpD X (compareOp .IsNot) Qh:=vf GQ fun F H x y dx dy Q l qx qy w=>by
 have hx:∀ c fs,dx≠.xc c fs:=fun c fs z=>by subst z;exact w.elim
 cases dy<;>first|(cases dx<;>exact w.elim)|skip
 have w:Wish X F H (okB (!u8 dx)) Q:=by cases dx<;>first|exact w|exact w.elim
 refine⟨RdV.non qy,?_⟩;rw [X4 l qx hx];exact qZ l (v:=.bl _) w rfl
end
section
variable{ρ:Rho}{d:D}{e:EF}{i:Nat}
def augR(o:Option (Option En))(i:Nat)(g:D->D->R En)(e:EF)(ρ:Rho):Out:=match o with
 | some (some (.fz x))=>sOf ((e ρ).b fun y=>(g x y.dd).b En.nmo) fun w=>.nx (ρ.set i (some w))
 | _=>.stuck
theorem X6{g:D->D->R En}:zB i g e ρ=augR ρ[i]? i g e ρ:=rfl
theorem X7{g:D->D->R En}:augR (some (some (.fz d))) i g e ρ=sOf ((e ρ).b fun y=>(g d y.dd).b En.nmo) fun w=>.nx (ρ.set i (some w)):=rfl
theorem X8{xs ys:List D}(h:ρ[i]?=some (some (.ow (.lst xs))))(h2:e ρ=.ok (.ow (.lst ys)))(z:xs.length+ys.length<=sz):va i e ρ=.nx (ρ.set i (some (.ow (.lst (xs++ys))))):=by
 unfold va;rw [h];dsimp only;rw [h2];unfold sOf;dsimp only;rw [gB z]
end
open PySem
def Qi(o:Option (Option En))(i:Nat)(ρ:Rho):Rho:=match o with
 | some (some (.ow d))=>ρ.set i (some (.fz d))
 | _=>ρ
section
variable{i:Nat}{ρ:Rho}{a:SF}{d:D}
theorem qcy:jN i a ρ=a (Qi ρ[i]? i ρ):=by unfold jN frz Qi;rfl
theorem qcz:Qi (some (some (.fz d))) i ρ=ρ:=rfl
theorem qcA:Qi (some (some (.br d))) i ρ=ρ:=rfl
end
def EV0:=And.intro @vC
 (And.intro @qbS
 (And.intro @List.map_cons.{0,0}
 (And.intro @List.map_nil.{0,0}
 (And.intro @List.length_cons.{0}
 (And.intro @List.length_nil.{0}
 (And.intro @List.replicate_succ.{0}
 (And.intro @List.replicate_zero.{0}
 (And.intro @List.cons_append.{0}
 (And.intro @List.nil_append.{0}
 (And.intro @cE
 (And.intro @qJ
 (And.intro @qaD
 (And.intro @qaE
 (And.intro @qF
 (And.intro @wn
 (And.intro @qaG
 (And.intro @qaH
 (And.intro @qaI
 (And.intro @qaJ
 (And.intro @qaK
 (And.intro @qaL
 (And.intro @qaM
 (And.intro @qaN
 (And.intro @qaO
 (And.intro @JS
 (And.intro @qaP
 (And.intro @qaQ
 (And.intro @qaR
 (And.intro @qaS
 (And.intro @Q9
 (And.intro @qaT
 (And.intro @qaU
 (And.intro @qaV
 (And.intro @JT
 (And.intro @qaW
 (And.intro @qaX
 (And.intro @qaY
 (And.intro @qaZ
 (And.intro @qb0
 (And.intro @qb1
 (And.intro @qb2
 (And.intro @qb3
 (And.intro @qb4
 (And.intro @qb5
 (And.intro @qb6
 (And.intro @qb7
 (And.intro @x_c
 (And.intro @qb8
 (And.intro @qb9
 (And.intro @qba
 (And.intro @qbb
 (And.intro @qbc
 (And.intro @qbd
 (And.intro @qbe
 (And.intro @qbf
 (And.intro @qbg
 (And.intro @qbh
 (And.intro @qbp
 (And.intro @x_B
 (And.intro @qbq
 (And.intro @qbr
 (And.intro @qbs
 (And.intro @qbt
 (And.intro @qbu
 (And.intro @qbv
 (And.intro @qbw
 (And.intro @qbx
 (And.intro @yD
 (And.intro @qby
 (And.intro @qbz
 (And.intro @qbA
 (And.intro @vQ
 (And.intro @qbB
 (And.intro @qbC
 (And.intro @qbD
 (And.intro @qbE
 (And.intro @qbF
 (And.intro @qbG
 (And.intro @qbH
 (And.intro @qbI
 (And.intro @qbJ
 (And.intro @qbK
 (And.intro @qbL
 (And.intro @qbM
 (And.intro @qbN
 (And.intro @qbO
 (And.intro @qbP
 (And.intro @qbQ
 (And.intro @qbR
 (And.intro @JR
 (And.intro @List.getElem?_cons_zero.{0}
 (And.intro @List.getElem?_cons_succ.{0}
 (And.intro @List.set_cons_zero.{0}
 (And.intro @List.set_cons_succ.{0}
 (And.intro @if_true.{1}
 (And.intro @Bool.not_true
 (And.intro @Bool.not_false
 (And.intro @qbi
 (And.intro @qbj
 (And.intro @qbl
 (And.intro @qbn
 (And.intro @qbo
 (And.intro @qbk
 (And.intro @qbm
 (And.intro @dI
 (And.intro @qce
 (And.intro @qcf
 (And.intro @qcg
 (And.intro @qch
 (And.intro @qci
 (And.intro @qcj
 (And.intro @qck
 (And.intro @qcl
 (And.intro @qcm
 (And.intro @qcn
 (And.intro @qcr
 (And.intro @X6
 (And.intro @X7
 (And.intro @qcy
 (And.intro @qcz
 @qcA))))))))))))))))))))))))))))))))))))))))))))))))))))))))))))))))))))))))))))))))))))))))))))))))))))))))))))))))))))))))
theorem EV:type_of% EV0:=EV0
open PySem PySem.Spec PyProof.Rows L2
open PySem.Builtin PySem.Builtin.ObjectAttr
abbrev bmV:List Value:=[.type "ValueError",.type "Exception",.type "BaseException",.type "object"]
def vk:List Value->Bool
 | .ref _::r=>vk r
 | l=>l==bmV
theorem Z1(B:Value):∀{l:List Value},vk l=true->refuseLoop B "__setattr__" l=pure ()
 | .ref c::r,e=>by rw [refuseLoop_ref];exact Z1 B (l:=r) e
 | [],e=>by cases e
 | .none::r,e=>by cases e
 | .bool _::r,e=>by cases e
 | .int _ _::r,e=>by cases e
 | .type n::r,e=>by rw [show Value.type n::r=bmV from dS.mp e];kernel_rfl
 | .str _ _::r,e=>by cases e
 | v::r,e=>by
  by_cases z:v::r=bmV
  ·rw [z];kernel_rfl
  ·unfold vk at e;split at e
   ·rename_i h;cases h;rw [refuseLoop_ref];exact Z1 B e
   ·exact absurd (dS.mp e) z
theorem Qj{b:Value}(z:bmV.contains b=true):∀{l:List Value},vk l=true->l.contains b=true
 | [],e=>by cases e
 | v::r,e=>by
  unfold vk at e;split at e
  ·rename_i h;cases h;rw [dJ,Qj z e,Bool.or_true]
  ·rw [dS.mp e];exact z
section
variable{prog:Program}{w:World}{A:Around}{E:Value->Shared->Prop}{s:Shared}{K:Frag}{x C:Addr}{vs:Array Value}{sl:Array (Option Value)}{cd:ClassData}{name:Str}{v:Value}
theorem qcB{Q:Unit->Shared->Prop}(X:K.In s.heap)(U:s.heap.get? x=some ⟨.ref C,none,.fields vs,sl⟩)(Y:PySem.W.clsIn K C=some cd)(z:vk cd.mro=true)(hh:cd.hasDict=true)
  (hs:findIn K (.ref C) "__setattr__"=some (some (.builtin "object.__setattr__")))(hn:findIn K (.ref C) name=some none)
  (h:∀ h' tk,h'.Ns1 s.heap.objs.size (fun y=>if y=name then some v else none)->h'.get? x=some ⟨.ref C,some s.heap.objs.size,.fields vs,sl⟩->(∀ b o,b≠x->s.heap.get? b=some o->h'.get? b=some o)->s.heap.objs.size<h'.objs.size ->
   Q () {s with heap:=h',toks:=tk}):wpAny (model prog w) A (setAttr (.ref x) name v) Q E s:=by
 have J:InstAt s.heap x ⟨.ref C,none,.fields vs,sl⟩ C none:=⟨U,rfl,rfl,trivial⟩;have G:=PySem.F.store_object;have ty:=J.type (M:=model prog w);have ne:cd.mro.isEmpty=false:=by
  cases q:cd.mro with
  | nil=>rw [q]at z;cases z
  | cons _ _=>rfl
 have ob:PySem.W.Looks (model prog w) s.heap (isInstance (.ref x) (.type "object")) true:=ty.andThen (dD X (by unfold PySem.W.mroIn;rw [Y,pN,gD (by rw [ne];decide),Qj (by decide) z]))
 have mr:PySem.W.Looks (model prog w) s.heap (mroOf (.ref C)) cd.mro:=(looks_clsIn X Y).andThen .now;refine PySem.W.set_plain X J hs (pq G.slot.plain G.entry (@dL (model prog w) _ _ {s with toks:=s.toks+1} "object.__setattr__" "object" "__setattr__" (.ref x) [.str name s.toks,v] [] _ G.kind G.split ob (G.args (.ref x) (.str name s.toks) v) ?_));rw [osa_eq,refuse_eq];refine g6 (g6 (gR (s:={s with toks:=s.toks+1}) ty (g6 (gR (s:={s with toks:=s.toks+1}) mr ?_))));rw [Z1 _ z];refine gk (g6 (gR (s:={s with toks:=s.toks+1}) ty (g6 (gR (s:={s with toks:=s.toks+1}) (fE X hn) (g6 (gk ?_))))));have B:x≠s.heap.objs.size:=gP (gv U);refine g6 (gk (g6 (g6 (wpAny_loadPart U (g6 (gR (s:={s with toks:=s.toks+1}) (looks_clsIn X Y) ?_))))));rw [hh];have x1:(s.heap.push {cls:=.type "dict",data:=.dict #[]}).get? x=some ⟨.ref C,none,.fields vs,sl⟩:=gg _ U;refine g6 (wpAny_alloc' (g6 (wpAny_update' x1 (gk ?_))));have gd:((s.heap.push {cls:=.type "dict",data:=.dict #[]}).update x fun o=>{cls:=o.cls,dict:=some s.heap.objs.size,data:=o.data,slots:=o.slots}).get? s.heap.objs.size=some {cls:=.type "dict",data:=.dict #[]} :=
  (cA _ _ _ _ B.symm).trans (Heap.get?_push_at rfl rfl)
 have nd:((s.heap.push {cls:=.type "dict",data:=.dict #[]}).update x fun o=>{cls:=o.cls,dict:=some s.heap.objs.size,data:=o.data,slots:=o.slots}).Ns s.heap.objs.size (fun _=>none) :=
  ⟨_,#[],_,gd,rfl,fun e he=>absurd he (by simp),fun _=>rfl⟩
 show wpAny _ _ (storeInDict s.heap.objs.size (.str name s.toks) name v) _ _ _;unfold storeInDict;unfold newKeyGuard;refine g6 (gk (g6 (wpAny_nsSet1 (Heap.Ns1.of_empty nd) fun h' n' sb=>?_)))
 obtain⟨oD,esD,epD,O,Z,hcD⟩:=n'.count (PySem.Within.cons name v PySem.Within.nil);refine g6 (wpAny_lookBehind O (by rw [Z];exact pastItsLine_dict (t8 hcD (by rw [gU,tG,fm];omega))) (gk ?_))
 refine h h' _ n' ((sb.2 x B).trans (tq _ x1 rfl)) (fun b o hb ho=>?_) (gv O)
 exact(sb.2 b (gP (gv ho))).trans ((cA _ _ _ _ hb).trans (gg _ ho))
theorem qcC{dx:Addr}{mA:Str->Option Value}{z:Bool}{Q:Value->Shared->Prop}(X:K.In s.heap)(hx:s.heap.get? x=some ⟨.ref C,some dx,.fields vs,sl⟩)(hA:s.heap.Ns1 dx mA)(hv:mA name=some v)(ho:handedIn v=true)
  (hc:PySem.W.clsIn K C=some cd)(B:vk cd.mro=true)(hh:cd.hasDict=true)(hg:findIn K (.ref C) "__getattribute__"=some (some (.builtin "BaseException.__getattribute__")))(hk:findIn K (.ref C) "__getattr__"=some none)
  (hn:findIn K (.ref C) name=some none)(h:Q v {s with toks:=s.toks+1}):wpAny (model prog w) A (getAttr (.ref x) name z) Q E s:=by
 obtain⟨od,Y,Z⟩:=GW hA;have J:InstAt s.heap x ⟨.ref C,some dx,.fields vs,sl⟩ C (some od):=⟨hx,rfl,rfl,Y⟩;have ty:=J.type (M:=model prog w);have hl:PySem.W.lookIn name od=some (some v):=by rw [Z,hv]
 have fi:PySem.W.findObj K C (some od) name=some (.value v):=PySem.W.findObj_own (by unfold PySem.W.hasDictIn;rw [hc];exact hh) hn rfl hl
 have G:=PySem.F.excAttr_ValueError.ga;have ne:cd.mro.isEmpty=false:=by
  cases q:cd.mro with
  | nil=>rw [q]at B;cases B
  | cons _ _=>rfl
 have ob:PySem.W.Looks (model prog w) s.heap (isInstance (.ref x) (.type "BaseException")) true:=ty.andThen (dD X (by unfold PySem.W.mroIn;rw [hc,pN,gD (by rw [ne];decide),Qj (by decide) B]))
 have L1:=fE (M:=model prog w) X hg;have L2:=fE (M:=model prog w) X hk;have L3:=looks_find (M:=model prog w) X J fi;unfold getAttr getAttrBy;refine g6 (wpAny_mkText (tL (g6 (gR (s:={s with toks:=s.toks+1}) ty (g6 (gR (s:={s with toks:=s.toks+1}) L1 ?_))))));have O:(Value.builtin "BaseException.__getattribute__"==Value.builtin "object.__getattribute__")=false:=by decide +kernel
 simp only [O,dN,hX,fP];unfold getAttrByItsOwn hookBefore;refine g6 (gR (s:={s with toks:=s.toks+1}) L2 ?_);unfold callGetattribute;have U:(z&&onTheHeap (Value.builtin "BaseException.__getattribute__"))=false:=by cases z<;>rfl
 rw [U,gD fw];unfold boundAndCalled;rw [G.bind];refine g6 (cc (tL (g6 (gk (py (pq G.plain PySem.F.entry_bexc_ga (@dL (model prog w) _ _ {s with toks:=s.toks+1} "BaseException.__getattribute__" "BaseException" "__getattribute__" (.ref x) [.str name s.toks] [] _ (by decide +kernel) (by decide +kernel) ob (PySem.F.args_bexc_ga _ _) ?_)))))))
 refine g6 (gk (g6 (gk (g6 (gR (s:={s with toks:=s.toks+1}) ty (g6 (gR (s:={s with toks:=s.toks+1}) L3 (gk ?_))))))));show wpAny (model prog w) _ (handedOut v) _ _ _;rw [PySem.W.handedOut_of ho];exact gk h
end
open PySem PySem.Spec PyProof.Rows L2
def zl(K:Frag)(C:Addr):Bool:=match K.lookup C with
 | some ⟨.type "type",_,.cls k,z⟩=>match k.mro,z.toList with
  | .ref D::r,[_,_,_,_,some (.builtin m),_]=>D==C&&m=="ValueError.__new__"&&!k.hasDel&&tailIn K bmV r
  | _,_=>false
 | _=>false
theorem u9{K:Frag}{h:Heap}{C:Addr}(X:K.In h)(q:zl K C=true) :
  ∃ bm N nm qn bs hd sn B ab O dd k0 k1 k2 k3 k5,h.get? C=some (excClassObj nm qn C N bs bm hd sn B ab O dd k0 k1 k2 k3 k5 "ValueError.__new__")/\OwnTail h bmV bm:=by
 unfold zl at q;split at q
 ·rename_i dd k z lk;split at q
  ·rename_i D r k0 k1 k2 k3 m k5 em es;simp only [gK,dS,Bool.not_eq_true']at q;obtain⟨⟨⟨rfl,rfl⟩,nd⟩,ht⟩:=q;obtain⟨nm,bs,U,ns,qn,hd,sn,B,ab,O,Y⟩:=k;dsimp only at em nd;subst em nd;have ez:z=#[k0,k1,k2,k3,some (.builtin "ValueError.__new__"),k5]:=by
    obtain⟨l⟩:=z;simp only at es;rw [es]
   subst ez;exact⟨r,ns,nm,qn,bs,hd,sn,B,ab,O,dd,k0,k1,k2,k3,k5,X _ _ lk,PySem.W.tail_of_in X ht⟩
  ·cases q
 ·cases q
abbrev jV(C t:Addr):Obj:={cls:=.ref C,data:=.fields #[.ref t,.none,.none,.none,.bool false,.none]}
abbrev zm(rest:List Value):Obj:={cls:=.type "tuple",data:=.seq rest.toArray}
section
variable{prog:Program}{w:World}{A:Around}{E:Value->Shared->Prop}{s:Shared}{K:Frag}{C f:Addr}{rest:List Value}{R:Result->Shared->Prop}
theorem qcD(X:K.In s.heap)(q:zl K C=true)(hi:findIn K (.ref C) "__init__"=some (some (.ref f)))(O:typeIn K (.ref f)=some (.type "function"))(hz:rest.length<=sizeLine)
  (k:codeAny (model prog w) (A.under (.builtin "type.__call__" ⟨.ref C::rest,[]⟩)) (.call (.ref f) ⟨.ref (s.heap.objs.size+1)::rest,[]⟩) (PySem.W.InitBack (s.heap.objs.size+1) R) {s with heap:=(s.heap.push (zm rest)).push (jV C s.heap.objs.size)}) :
  codeAny (model prog w) A (.call (.ref C) ⟨rest,[]⟩) R s:=by
 obtain⟨bm,N,nm,qn,bs,hd,sn,U,ab,Y,dd,k0,k1,k2,k3,k5,gC,T⟩:=u9 X q;obtain⟨h,g,d,t,os⟩:=s;dsimp only at X gC T k ⊢;have F:=PySem.F.excBase_ValueError;have f1:=tc_lookup;have f2:=tc_bind (.ref C);have tT:(⟨h,g,d,t,os⟩:Shared).TypeIs (.ref C) "type":=⟨_,gC,rfl⟩;refine codeAny_of_tree ?_;show wpAny _ _ (callAny (.ref C) ⟨rest,[]⟩) _ _ _
 repeat (any_goals (first|assumption|with_reducible refine tH gC ?_|wp_step))
 refine⟨rfl,codeAny_call_builtin_at (cM _ (by decide +kernel)) entry_typeCall (wpAny_check_type_call_sub gC ?_)⟩
 repeat (first|with_reducible refine tH gC ?_|with_reducible refine wpAny_madeBy_exc gC ?_|wp_step)
 refine codeAny_call_builtin_code (cM _ F.quiet) (wpAny_check_new_subT F T gC (codeAny_exc_new_subT F T gC ?_ hz));show wpAny _ _ _ _ _ _;have up:∀ b o,h.get? b=some o->((h.push (zm rest)).push (jV C h.objs.size)).get? b=some o:=fun b o e=>gg _ (gg _ e)
 have B:=up _ _ gC;have X1:K.In ((h.push (zm rest)).push (jV C h.objs.size)):=X.keeps up;have ge:((h.push (zm rest)).push (jV C h.objs.size)).get? (h.objs.size+1)=some (jV C h.objs.size):=by heap_get
 have sC:(Value.ref C::bm).contains (.ref C)=true:=by simp
 unfold isInstance
 repeat (first|with_reducible refine tH ge ?_|wp_step)
 show wpAny _ _ (isSubtype (.ref C) (.ref C)) _ _ _;refine pL B ?_;rw [sC]
 repeat (first|with_reducible refine tH ge ?_|wp_step)
 show wpAny _ _ (typeLookup (.ref C) "__init__") _ _ _;refine gR (s:=⟨(h.push (zm rest)).push (jV C h.objs.size),g,d,t,os⟩) (fE X1 hi) ?_;refine tL (g6 (gR (s:=⟨(h.push (zm rest)).push (jV C h.objs.size),g,d,t,os⟩) (PySem.W.bind_fn X1 _ O) ?_));refine g6 (py (pU k fun r s' z=>?_))
 rcases r with er|(rv|_|_|_)<;>first|exact z|exact z.elim|skip
 obtain⟨rfl,z⟩:=z;exact gk (gk (by exact z))
end
open PySem PySem.Spec PyProof.Rows L2
structure XCls(K:Frag)(C:Addr):Prop where
 cl:zl K C=true
 kp:keepIn K (.ref C)=true
structure XIni(K:Frag)(C f:Addr)(qual:Str)(st:Stmt)(fd:FuncData):Prop where
 cd:∃ cd,PySem.W.clsIn K C=some cd/\vk cd.mro=true/\cd.hasDict=true
 sa:findIn K (.ref C) "__setattr__"=some (some (.builtin "object.__setattr__"))
 na:findIn K (.ref C) "at"=some none
 ini:findIn K (.ref C) "__init__"=some (some (.ref f))
 fn:typeIn K (.ref f)=some (.type "function")
 F:Fun K "__init__" qual st f fd
 body:∃ p1 p2 p3 p4,defBody st=[.Assign [.Attribute (.Name "self" p1) "at" p2] (.Name "at" p3) p4]
 sc:FnScope ["self","at"] ["self","at"] (defScope st)
 nl:(defScope st).names.lookup ("self":Str)=some .local/\(defScope st).names.lookup ("at":Str)=some .local
 bd:Binds K fd ["self","at"] []
section
variable{P:Program}{w:World}{K:Frag}{mg:Str->Option Value}{base:Heap}
theorem qcE{C f e:Addr}{B:Str}{st:Stmt}{fd:FuncData}{k:Nat}{A:Around}{outer:List Env}{s:Shared}{H:Hp}{vs:Array Value}{sl:Array (Option Value)}{v:V}{u:Value}{R:Result->Shared->Prop}(J:XIni K C f B st fd)
  (hr:Room (k+1) A)(U:Env0 P w K mg base A outer s H)(he:s.heap.get? e=some ⟨.ref C,none,.fields vs,sl⟩)(hH:H e=none)(hf:e∉frs outer)(r:RelV v u)
  (kk:∀(s2:Shared) (h':Heap) (tk:Nat) (u':Value) (dx:Addr),s2.os=s.os->AllBare s2.gens->Un (frs outer) [] H H s.heap s2.heap->HOk P w H s2.heap->RelV v u'->h'.Ns1 dx (fun y=>if y="at" then some u' else none)->h'.get? e=some ⟨.ref C,some dx,.fields vs,sl⟩ ->
   (∀ b o,b≠e->s2.heap.get? b=some o->h'.get? b=some o)->s.heap.objs.size<=dx->dx<h'.objs.size->R (.ok (.ret .none)) {s2 with heap:=h',toks:=tk}) :
  codeAny (model P w) A (.call (.ref f) ⟨[.ref e,u],[]⟩) R s:=by
 obtain⟨oc,od,kV,doc,pm,an,O,ct,osl,rfl,lk,hcd⟩:=J.F.ex;obtain⟨p1,p2,p3,p4,eb⟩:=J.body;have S:=J.sc;have KX:K.In s.heap:=U.mod.kin.keeps fun b o e=>(U.bs b o e).1
 have Z:s.heap.NoLimit:=U.mod.nolimit.keeps fun b o e=>(U.bs b o e).1
 have hb:BindsTo s (PySem.W.fnOf "__init__" B (defArgs st) (defBody st) (defScope st) .none kV doc pm an O ct) ⟨[.ref e,u],[]⟩ ((["self","at"]:List Str).zip [.ref e,u]):=J.bd s [.ref e,u] KX rfl;refine codeAny_call_function hr.depth (KX _ _ lk) rfl S.co S.gen rfl (codeRec_of KX hcd) (hb _ _ _ _ ?_);refine wpAny_newFunctionEnv_cells S.kind (fun y hy=>.inl ?_) fun env Y s1 x=>?_
 ·rcases gl.mp hy with rfl|hy
  ·exact J.nl.1
  ·rcases gl.mp hy with rfl|hy
   ·exact J.nl.2
   ·cases hy
 subst Y;refine⟨Z.keeps x.toInCall.keep,codeAny_func ?_⟩;rw [eb];show wpAny (model P w) (A.deeper (envOfC B (defScope st) s.heap.objs.size f O)) (execs [.Assign [.Attribute (.Name "self" p1) "at" p2] (.Name "at" p3) p4] (envOfC B (defScope st) s.heap.objs.size f O)) _ _ s1;have I0:Inv (cxOf CX0 P w K mg base ["self","at"] B (defScope st) f O A outer s H E0) [] (L2.jR ["self","at"] [.ref e,v]) H s1:=YY S hr.hd U rfl (.cons rfl (.cons r .nil)) x;have I:=I0.wish fun _ _=>False
 refine wpAny_noRaise ?_;refine cx (plainObj_wpAny_Assign_Attribute (thn (jn (i:=1) (x:="at") rfl (.inl J.nl.2) (by decide) (by decide) [] s1 _ H (fun v' H'=>v'=v/\H'=H) I ⟨v,rfl,rfl,rfl⟩) fun u2 s2 ⟨v2,H2,I2,r2,ev,eH⟩=>?_) rfl)
 subst ev eH;refine thn (jn (i:=0) (x:="self") rfl (.inl J.nl.1) (by decide) (by decide) [] s2 _ H2 (fun v' H'=>v'=.ref e/\H'=H2) I2 ⟨.ref e,rfl,rfl,rfl⟩) fun u3 s3 ⟨v3,H3,I3,r3,ev,eH⟩=>?_
 subst ev eH;obtain rfl:u3=Value.ref e:=r3;have he3:s3.heap.get? e=some ⟨.ref C,none,.fields vs,sl⟩:=I3.base.keep e _ he hH hf (fun z=>nomatch z)
 obtain⟨cd,c1,c2,c3⟩:=J.cd;refine qcB I3.kIn he3 c1 c2 c3 J.sa J.na fun h' tk n1 n2 n3 n4=>fT ?_
 exact kk s3 h' tk u2 _ I3.os I3.bare I3.base I3.hok r2 n1 n2 n3 I3.sz n4
end
open PySem PySem.Spec PyProof.Rows L2
theorem X9{M:Model}{A:Around}{E:Value->Shared->Prop}{s:Shared}{env:Env}{K:Frag}{C:Addr}{x:Sem Value}{Q:Flow->Shared->Prop}(q:zl K C=true)(B:A.handled=none)
  (h:wpAny M A x (fun v s1=>∃ e dd vs sl,v=.ref e/\K.In s1.heap/\s1.heap.get? e=some ⟨.ref C,dd,.fields vs,sl⟩/\vs[1]?=some .none/\E (.ref e) s1) E s):wpAny M A (raiseStmt env (some x) none) Q E s:=by
 unfold raiseStmt;refine g6 (fq h (fun v s1 ⟨e,dd,vs,sl,ev,X,he,h1,gE⟩=>?_) fun _ _ z=>z)
 subst ev;obtain⟨bm,N,nm,qn,bs,hd,sn,O,ab,U,d2,k0,k1,k2,k3,k5,hC,T⟩:=u9 X q;obtain⟨hp,g,d,tk,os⟩:=s1;have hB:(Value.ref C::bm).contains (.type "BaseException")=true:=by rw [dJ,T.hasType (show bmV.contains (.type "BaseException")=true by decide),Bool.or_true]
 repeat (first|with_reducible refine tH he ?_|with_reducible refine tH hC ?_|(with_reducible refine pL hC ?_;rw [hB])|with_reducible refine tK he rfl h1 ?_|wp_step)
 exact wpAny_raiseNew_none B gE
open PySem PySem.Spec PyProof.Rows L2
section
variable{X:Cx}{F0 H0:Hp}
theorem kE{pins:List (Addr×Obj)}{σ:St}{H:Hp}{s:Shared}(I:Inv X pins σ H s):∀ b∈frs X.stack,b<s.heap.objs.size:=fun b hb=>by
 obtain⟨_,o,ho,_⟩:=I.stack.mem hb;exact gv ho
theorem Xa{pins:List (Addr×Obj)}{σ:St}{H:Hp}{s s2:Shared}{h':Heap}{tk:Nat}{C e:Addr}{dd:Option Addr}{vs:Array Value}{sl:Array (Option Value)}{x:Xc}(I:Inv X pins σ H s)(hp:Heap)(B:∀ b o,s.heap.get? b=some o->hp.get? b=some o)
  (o2:s2.os=s.os)(b2:AllBare s2.gens)(O:Un (frs X.stack) [] H H hp s2.heap)(k2:HOk X.prog X.w H s2.heap)(z2:hp.objs.size<=h'.objs.size)(z1:s.heap.objs.size<=hp.objs.size)(U:s.heap.objs.size<=e)
  (kp:∀ b o,b≠e->s2.heap.get? b=some o->h'.get? b=some o)(hm:X.mg x.cls=some (.ref C))(he:h'.get? e=some ⟨.ref C,dd,.fields vs,sl⟩)(Z:vs[1]?=some .none)(ok:XOk x)(W:AtIs H s.heap.objs.size h' dd x.fs) :
  Fl X.prog X.w X.mg X.stack H s H {s2 with heap:=h',toks:=tk} e x none:=by
 have He:H e=none:=I.hok.fresh U;have nb:∀ b o,s.heap.get? b=some o->b≠e:=fun b o ho z=>absurd (gG (gv ho) (z▸U)) (tB _)
 refine⟨o2,b2,⟨fun b o ho n nf _=>kp b o (nb b o ho) (O.keep b o (B b o ho) n nf (by simp)),fun b o ho n mf _=>?_,fun _ _ _ n _=>n,fun b o ho _=>?_,fun _ _ z=>z,fun _ _ _ z=>z,fun b ps z=>⟨#[],by rw [z];simp⟩⟩,fun b u hb=>?_,t8 z1 z2,ok,
  C,dd,hm,⟨_,vs,he,rfl,rfl,rfl,(ck.mp Z).1,U,He,.inl ⟨Z,rfl⟩⟩,W⟩
 ·obtain⟨Y,z⟩:=O.slot b o (B b o ho) n mf (by simp)
  exact⟨Y,kp b _ (nb b o ho) z⟩
 ·obtain⟨o',z⟩:=O.there b o (B b o ho) (by simp)
  exact⟨o',kp b o' (nb b o ho) z⟩
 ·refine(k2 b u hb).stay (fun d v hd q=>kp d v (fun z=>?_) q) (fun _ z=>z) fun _ _ z=>z
  subst z;rcases hd with z|z
  ·rw [<- z,He]at hb;cases hb
  ·rw [He]at z;cases z
def zn(c:Str)(a:EF):SF:=fun ρ=>sOf (a ρ) fun w=>match w.d with
 | .non=>.exc ⟨c,[("at",.non)]⟩
 | .int (.ofNat n)=>.exc ⟨c,[("at",.int n)]⟩
 | _=>.stuck
theorem ua{c:Str}{C f:Addr}{B:Str}{st:Stmt}{fd:FuncData}{k:Nat}{a:Expr}{fa:EF}{p pos pos2:Pos}(G:XCls X.K C)(J:XIni X.K C f B st fd)(Z:Room (k+2) X.A)(hm:X.mg c=some (.ref C))(ha:SE X F0 H0 a fa)
  (hg:Gl X c:=by rfl)(O:(c==("__debug__":Str))=false:=by decide)(hs:starEach [a] X.env=(false,eval a X.env)::starEach [] X.env:=by rfl) :
  SS X F0 H0 (.Raise (some (.Call (.Name c p) [a] [] pos)) none pos2) (zn c fa):=by
 intro pins s σ F H ρ D S I h;show wpAny _ _ (do standAt pos2;raiseStmt X.env (some (do let v <- eval (.Call (.Name c p) [a] [] pos) X.env;standAt pos2;pure v)) none) _ _ _
 refine g6 (pI (X9 (K:=X.K) (C:=C) G.cl Z.hd (g6 (hV (vd I hg hm ?_ O)))));refine fC (h₀:=X.base) I.ok.mod.kin G.kp (qb ha qg hs pos pins s σ F H ρ _ S I ?_) hs rfl;have h:=PostS.of h;cases ef:fa ρ with
 | exc x=>rw [ef]at h;exact h.elim
 | stuck=>rw [ef]at h;exact h.elim
 | ok wd =>
  rw [ef]at h;have go:∀(x:Xc) (v0:V),XOk x->x.cls=c->(∃ d:L3.D,x.fs=[(("at":Str),d)]/\∀ u,RelV v0 u->flatV d u)->XPS X F0 H0 x->(∀{F1 H1 v},RdV (kx X) F1 H1 v wd.d->v=v0) ->
    KE (XP X F0 H0) (evs [fa] ρ) fun ws=>∀ vs us F' H' s',Gr F H F' H'->Voks (kx X) H F' H' vs ws->Vals vs us->Inv X pins σ H' s'->X.K.In s'.heap/\wpAny (model X.prog X.w) X.A (call (.ref C) us) (fun v s1=>wpAny (model X.prog X.w) X.A (do standAt pos2;pure v)
     (fun v s1=>∃ e dd vs sl,v=.ref e/\X.K.In s1.heap/\s1.heap.get? e=some ⟨.ref C,dd,.fields vs,sl⟩/\vs[1]?=some .none/\X.xe (.ref e) s1) X.xe s1) X.xe s':=by
   intro x v0 ok ec ⟨d,efs,fl⟩ hx hv;have ee:evs [fa] ρ=.ok [wd]:=by unfold evs;rw [ef];rfl
   rw [ee];intro vs us F1 H1 s1 g1 q1 r1 I1;obtain⟨v,r,rfl,qv,er⟩:=q1;obtain rfl:r=[]:=er;obtain rfl:=hv (Vok.rd qv);cases r1 with
   | cons rv rn =>
    cases rn;rename_i u;refine⟨I1.kIn,?_⟩;have up:∀ b o,s1.heap.get? b=some o->((s1.heap.push (zm [u])).push (jV C s1.heap.objs.size)).get? b=some o:=fun b o z=>gg _ (gg _ z)
    have I2:Inv X pins σ H1 {s1 with heap:=(s1.heap.push (zm [u])).push (jV C s1.heap.objs.size)}:=I1.kept (t':=s1.toks) up;have he:((s1.heap.push (zm [u])).push (jV C s1.heap.objs.size)).get? (s1.heap.objs.size+1)=some (jV C s1.heap.objs.size):=by heap_get
    have zp:s1.heap.objs.size<=((s1.heap.push (zm [u])).push (jV C s1.heap.objs.size)).objs.size:=by simp only [p5];omega
    refine py (qcD I1.kIn G.cl J.ini J.fn (by simp [fm]) (qcE (k:=k) J (Z.make C [u] []) (I2.env0.make C [u] []) he (I1.hok.fresh (cV _)) (fun z=>?_) rv fun s2 h' tk u' dx o2 b2 U Y ru n1 n2 n3 n4 n5=>⟨rfl,?_⟩))
    ·exact absurd (kE I1 _ z) (Nat.not_lt.mpr (cV _))
    ·have W:Fl X.prog X.w X.mg X.stack H1 s1 H1 {s2 with heap:=h',toks:=tk} (s1.heap.objs.size+1) x none :=
      Xa I1 _ up o2 b2 U Y (t8 n4 (tF n5)) zp (by omega) n3 (by rw [ec];exact hm) n2 rfl ok (by rw [efs];exact⟨dx,_,u',rfl,t8 zp n4,I1.hok.fresh (t8 zp n4),n1,by simp,fl u' ru⟩)
     refine g6 (pI (gk ⟨_,_,_,_,rfl,?_,n2,rfl,hx pins σ H1 s1 F1 H1 _ _ none (.inl rfl) (S.gr.trans g1) I1 W⟩));exact(I1.call' W.os W.un W.hok W.bare (fun b z=>by simp at z)).kIn
  cases w:wd.d with
  | non =>
   have h2:XPS X F0 H0 ⟨c,[("at",.non)]⟩:=by
    have h2:PostS X F0 H0 F D (match wd.d with|.non=>.exc ⟨c,[("at",.non)]⟩|.int (.ofNat n)=>.exc ⟨c,[("at",.int n)]⟩|_=>.stuck):=h
    rw [w]at h2;exact h2
   exact go _ .non (.nonf c) rfl ⟨.non,rfl,fun u r=>r⟩ h2 fun q=>RdV.non (w▸q)
  | int i =>
   cases i with
   | ofNat n =>
    have h2:XPS X F0 H0 ⟨c,[("at",.int n)]⟩:=by
     have h2:PostS X F0 H0 F D (match wd.d with|.non=>.exc ⟨c,[("at",.non)]⟩|.int (.ofNat n)=>.exc ⟨c,[("at",.int n)]⟩|_=>.stuck):=h
     rw [w]at h2;exact h2
    exact go _ (.int n) (.intf c n) rfl ⟨.int n,rfl,fun u r=>r⟩ h2 fun q=>RdV.int (w▸q)
   | negSucc n=>have h2:PostS X F0 H0 F D (match wd.d with|.non=>.exc ⟨c,[("at",.non)]⟩|.int (.ofNat n)=>.exc ⟨c,[("at",.int n)]⟩|_=>.stuck):=h;rw [w]at h2;exact h2.elim
  | _=>have h2:PostS X F0 H0 F D (match wd.d with|.non=>.exc ⟨c,[("at",.non)]⟩|.int (.ofNat n)=>.exc ⟨c,[("at",.int n)]⟩|_=>.stuck):=h;rw [w]at h2;exact h2.elim
end
open PySem PySem.Spec PyProof.Rows L2
section
variable{prog:Program}{w:World}{A:Around}{E:Value->Shared->Prop}{s:Shared}{K:Frag}{C:Addr}{rest:List Value}{R:Result->Shared->Prop}
theorem qcF(X:K.In s.heap)(q:zl K C=true)(hi:findIn K (.ref C) "__init__"=some (some (.builtin "ValueError.__init__")))(hz:rest.length<=sizeLine)
  (k:∀ h',(∀ b o,s.heap.get? b=some o->h'.get? b=some o)->(∃ vs sl,h'.get? (s.heap.objs.size+1)=some ⟨.ref C,none,.fields vs,sl⟩/\vs[1]?=some .none)->s.heap.objs.size<=h'.objs.size->R (.ok (.ret (.ref (s.heap.objs.size+1)))) {s with heap:=h'}) :
  codeAny (model prog w) A (.call (.ref C) ⟨rest,[]⟩) R s:=by
 obtain⟨bm,N,nm,qn,bs,hd,sn,O,ab,U,dd,k0,k1,k2,k3,k5,gC,T⟩:=u9 X q;obtain⟨h,g,d,t,os⟩:=s;dsimp only at X gC T k ⊢;have F:=PySem.F.excBase_ValueError;have f1:=tc_lookup;have f2:=tc_bind (.ref C);have tT:(⟨h,g,d,t,os⟩:Shared).TypeIs (.ref C) "type":=⟨_,gC,rfl⟩;refine codeAny_of_tree ?_;show wpAny _ _ (callAny (.ref C) ⟨rest,[]⟩) _ _ _
 repeat (any_goals (first|assumption|with_reducible refine tH gC ?_|wp_step))
 refine⟨rfl,codeAny_call_builtin_at (cM _ (by decide +kernel)) entry_typeCall (wpAny_check_type_call_sub gC ?_)⟩
 repeat (first|with_reducible refine tH gC ?_|with_reducible refine wpAny_madeBy_exc gC ?_|wp_step)
 refine codeAny_call_builtin_code (cM _ F.quiet) (wpAny_check_new_subT F T gC (codeAny_exc_new_subT F T gC ?_ hz));show wpAny _ _ _ _ _ _;have up:∀ b o,h.get? b=some o->((h.push (zm rest)).push (jV C h.objs.size)).get? b=some o:=fun b o e=>gg _ (gg _ e)
 have z:=up _ _ gC;have X1:K.In ((h.push (zm rest)).push (jV C h.objs.size)):=X.keeps up;have T1:=T.keeps up;have ge:((h.push (zm rest)).push (jV C h.objs.size)).get? (h.objs.size+1)=some (jV C h.objs.size):=by heap_get
 have sC:(Value.ref C::bm).contains (.ref C)=true:=by simp
 unfold isInstance
 repeat (first|with_reducible refine tH ge ?_|wp_step)
 show wpAny _ _ (isSubtype (.ref C) (.ref C)) _ _ _;refine pL z ?_;rw [sC]
 repeat (first|with_reducible refine tH ge ?_|wp_step)
 show wpAny _ _ (typeLookup (.ref C) "__init__") _ _ _;refine gR (s:=⟨(h.push (zm rest)).push (jV C h.objs.size),g,d,t,os⟩) (fE X1 hi) ?_;refine tL (g6 (wpAny_of_eq (F.init.bind (.ref (h.objs.size+1))) ?_));refine g6 (py (pq F.init.plain F.initEntry (wpAny_check_init_subT F T1 z ge rfl ?_)))
 wp_walk
 have B:=gg (h:=(h.push (zm rest)).push (jV C h.objs.size)) (zm rest) ge;refine k _ (fun b o hb=>?_) ⟨_,_,tq _ B rfl,rfl⟩ (by first|(simp only [p7,p5];omega)|(simp;omega))
 rw [t5 _ _ (fU (pC (gv hb)))];exact gg _ (up b o hb)
end
section
variable{X:Cx}{F0 H0:Hp}
def ub(c:Str)(a:EF):SF:=fun ρ=>sOf (a ρ) fun _=>.exc ⟨c,[]⟩
theorem Qk{c:Str}{C:Addr}{k:Nat}{a:Expr}{fa:EF}{p pos pos2:Pos}(G:XCls X.K C)(hi:findIn X.K (.ref C) "__init__"=some (some (.builtin "ValueError.__init__")))(Y:Room (k+2) X.A)(O:X.mg c=some (.ref C))(Z:SE X F0 H0 a fa)
  (hg:Gl X c:=by rfl)(B:(c==("__debug__":Str))=false:=by decide)(U:starEach [a] X.env=(false,eval a X.env)::starEach [] X.env:=by rfl) :
  SS X F0 H0 (.Raise (some (.Call (.Name c p) [a] [] pos)) none pos2) (ub c fa):=by
 intro pins s σ F H ρ D S I h;show wpAny _ _ (do standAt pos2;raiseStmt X.env (some (do let v <- eval (.Call (.Name c p) [a] [] pos) X.env;standAt pos2;pure v)) none) _ _ _
 refine g6 (pI (X9 (K:=X.K) (C:=C) G.cl Y.hd (g6 (hV (vd I hg O ?_ B)))));refine fC (h₀:=X.base) I.ok.mod.kin G.kp (qb Z qg U pos pins s σ F H ρ _ S I ?_) U rfl;have h:=PostS.of h;cases ef:fa ρ with
 | exc x=>rw [ef]at h;exact h.elim
 | stuck=>rw [ef]at h;exact h.elim
 | ok wd =>
  rw [ef]at h;have hx:XPS X F0 H0 ⟨c,[]⟩:=h;have ee:evs [fa] ρ=.ok [wd]:=by unfold evs;rw [ef];rfl
  rw [ee];intro vs us F1 H1 s1 g1 q1 r1 I1;refine⟨I1.kIn,?_⟩;have l1:us.length=1:=by
   obtain⟨v,r,rfl,qv,er⟩:=q1;obtain rfl:r=[]:=er;cases r1 with
   | cons rv rn=>cases rn;rfl
  refine py (qcF I1.kIn G.cl hi (by simp [fm,l1]) fun h' up ⟨ws,sl,n2,v1⟩ zz=>?_)
  have W:Fl X.prog X.w X.mg X.stack H1 s1 H1 {s1 with heap:=h'} (s1.heap.objs.size+1) ⟨c,[]⟩ none :=
   Xa (s2:={s1 with heap:=h'}) (tk:=s1.toks) I1 h' up rfl I1.bare Un.refl (I1.hok.kept up) (gw _) zz (by omega) (fun _ _ _ z=>z) O n2 v1 (.nof c) rfl
  refine g6 (pI (gk ⟨_,_,_,_,rfl,?_,n2,v1,hx pins σ H1 s1 F1 H1 _ _ none (.inl rfl) (S.gr.trans g1) I1 W⟩));exact(I1.call' W.os W.un W.hok W.bare (fun b z=>by simp at z)).kIn
end
open PySem PySem.Spec PyProof.Rows L2
def CX1(P:Program)(w:World)(mg:Str->Option Value):CXT:=fun outer H s E e s'=>∃(x:Xc) (H':Hp) (a:Addr),e=.ref a/\Fl P w mg outer H s H' s' a x (some .none)/\E (.str x.cls 0) (atc x) H'
def spX(κ:Kx)(dn:Den)(n:Nat):Sp:=fun vs H Q E=>vs.length=n/\∃ F ws,Le F H/\Args κ F H vs ws /\
 KE (fun x=>∀ F' H',Gr F H F' H'->E (.str x.cls 0) (atc x) H') (dn ws) fun w=>∀ v F' H',Gr F H F' H'->Vok κ H F' H' v w->Q v H'
section
variable{P:Program}{w:World}{K:Frag}{mg:Str->Option Value}{base:Heap}
theorem calm{k:Nat}{f:Addr}{fd:FuncData}{ps:List Str}{κ:Kx}{dn:Den}{n:Nat}(G:FnOk P w K mg base (CX1 P w mg) k f fd ps (spX κ dn n)):FnOk P w K mg base CX0 k f fd ps (spD κ dn n):=by
 have B:∀ vs H Q,spD κ dn n vs H Q E0->spX κ dn n vs H Q E0:=fun vs H Q q=>by
  obtain⟨l,F,ws,a,b,c⟩:=q;exact⟨l,F,ws,a,b,KE.impX c (fun _ z=>z) fun _ z=>z.elim⟩
 refine⟨fun vs H Q E q=>G.len vs H Q E0 (B vs H Q q),fun A outer s H args us vs Q E hr e0 hb hv hs=>?_⟩
 refine pU (G.run A outer s H args us vs Q E0 hr e0 hb hv (B vs H Q hs)) fun r s' z=>?_
 cases r with
 | error e=>obtain⟨_,_,_,_,_,z⟩:=z;exact z.elim
 | ok fl=>cases fl<;>exact z
theorem qcG{N ps:List Str}{B:Str}{scope:Scope}{f:Addr}{O:Value}{A:Around}{outer:List Env}{U:Shared}{H0 F0:Hp}{E:XK}{x:Xc}(h:∀ F' H',Gr F0 H0 F' H'->E (.str x.cls 0) (atc x) H') :
  XPS (cxOf (CX1 P w mg) P w K mg base N B scope f O A outer U H0 E) F0 H0 x:=by
 intro pins σ H s F' H' s' e q hq g I fl;have I':=I.call' fl.os fl.un fl.hok fl.bare (fun b z=>by simp at z)
 obtain⟨C,dd,hm,W,Y⟩:=fl.way;show wpAny _ _ (do noteFrame (.ref e) _;setFlight (.ref e) none) _ _ _
 refine g6 (Jr (base:=base) (L:=U.heap.objs.size) I'.ok.frames I'.stack rfl W hq (fun b hb=>fl.hok.fresh hb) fl.sz fun h1 c1 w1=>?_)
 refine xI (s:={s' with heap:=h1}) (fs:=frs (cxOf (CX1 P w mg) P w K mg base N B scope f O A outer U H0 E).stack) w1 fun h2 c2 w2=>?_
 have c:=c1.trans c2;have I2:=Inv.chg (t':=s'.toks) I I' c;exact⟨x,H',e,rfl,⟨I2.os,I2.bare,I2.base,I2.hok,I2.sz,fl.ok,C,dd,hm,w2.mono I.sz,(Y.chg c (kE I)).mono I.sz⟩,h F' H' g⟩
theorem fnX{x z:Str}{st:Stmt}{f:Addr}{fd:FuncData}{N ps:List Str}{k:Nat}{body:SF}(F:Fun K x z st f fd)(S:FnScope N ps (defScope st))
  (h:∀(B:Value) (A:Around) (outer:List Env) (s:Shared) (H F0:Hp) (E:XK),Room k (A.deeper (envOfC z (defScope st) s.heap.objs.size f B)) ->
   SSs (cxOf (CX1 P w mg) P w K mg base N z (defScope st) f B A outer s H E) F0 H (defBody st) body):FnOk P w K mg base (CX1 P w mg) (k+1) f fd ps (spX ⟨P,w,K⟩ (den N.length body) ps.length):=by
 obtain⟨oc,od,kV,W,pm,an,B,ct,Y,rfl,lk,O⟩:=F.ex;refine YZ lk O S (fun vs H Q E q=>q.1) fun A outer s H vs Q E hr q=>?_
 obtain⟨hl,F0,ws,l,ha,q⟩:=q;refine⟨uT _ _,xJ,fun pins s' I=>?_⟩
 refine h B A outer s H F0 E hr pins s' (L2.jR N vs) F0 H _ _ (Kk (N:=N) l ha) I ?_;have e:KE (fun x=>∀ F' H',Gr F0 H F' H'->E (.str x.cls 0) (atc x) H') (den N.length body ws) fun w'=>∀ v F' H',Gr F0 H F' H'->Vok ⟨P,w,K⟩ H F' H' v w'->Q v H':=q
 unfold den fin at e;cases eb:body (ws.map some++List.replicate (N.length-ws.length) none)with
 | nx ρ=>rw [eb]at e;exact fun U F' H' l' S'=>e .non F' H' S'.gr rfl
 | rt w'=>rw [eb]at e;exact e
 | bk ρ=>rw [eb]at e;exact e.elim
 | ct ρ=>rw [eb]at e;exact e.elim
 | exc x=>rw [eb]at e;exact qcG (ps:=ps) e
 | stuck=>rw [eb]at e;exact e.elim
end
section
variable{X:Cx}{F0 H0:Hp}{pos p pos2:Pos}{e:Expr}{es:List Expr}{fa:List EF}{x:Str}{k n:Nat}{f:Addr}{fd:FuncData}{ps:List Str}{dn:Den}
def nrm(x:Xc):Xc:=⟨x.cls,match atc x with
 | none=>[]
 | some 0=>[("at",.non)]
 | some (n+1)=>[("at",.int n)]⟩
theorem kG{x:Xc}(h:XOk x):nrm x=x:=by cases h<;>rfl
theorem Z2{x y:Xc}(z:x.cls=y.cls)(B:atc x=atc y):nrm x=nrm y:=by unfold nrm;rw [z,B]
def vD(dn:Den)(fa:List EF):SF:=fun ρ=>sOf (evs fa ρ) fun ws=>sOf (qU ws) fun ys=>match dn ys with
 | .ok _=>.nx ρ
 | .exc x=>.exc (nrm x)
 | .stuck=>.stuck
theorem Ql(G:FnOk X.prog X.w X.K X.mg X.base (CX1 X.prog X.w X.mg) k f fd ps (spX (kx X) dn n))(Z:Room k X.A)(hm:X.mg x=some (.ref f))(hk:keepIn X.K (.ref f)=true)(hb:Binds X.K fd ps [])(ha:SA X F0 H0 (e::es) fa)
  (hn:fa.length=n:=by rfl)(hs:swapsWith (.Call (.Name x p) (e::es) [] pos) none pos2.line X.env=pure false:=by rfl)
  (hg:Gl X x:=by rfl)(U:(x==("__debug__":Str))=false:=by decide)(he:starEach (e::es) X.env=(false,eval e X.env)::starEach es X.env:=by rfl)(W:(backTo pos (starEach es X.env)).any (·.1)=false:=by rfl) :
  SS X F0 H0 (.Expr (.Call (.Name x p) (e::es) [] pos) pos2) (vD dn fa):=by
 intro pins s σ F H ρ D S I h;refine wpAny_Expr_any ?_ I.quiet hs;refine hV (vd I hg hm ?_ U);refine fC (h₀:=X.base) I.ok.mod.kin hk (ha pos pins s σ F H ρ _ S I ?_) he W;have h:=PostS.of h;cases ef:evs fa ρ with
 | exc x=>rw [ef]at h;exact h.elim
 | stuck=>rw [ef]at h;exact h.elim
 | ok ws =>
  rw [ef]at h;intro vs us F1 H1 s1 g1 q1 r1 I1;refine⟨I1.kIn,?_⟩;have h:=PostS.of (show PostS X F0 H0 F D (sOf (qU ws) fun ys=>match dn ys with|.ok _=>.nx ρ|.exc x=>.exc (nrm x)|.stuck=>.stuck)from h)
  cases ea:qU ws with
  | exc x=>rw [ea]at h;exact h.elim
  | stuck=>rw [ea]at h;exact h.elim
  | ok ys =>
   rw [ea]at h;obtain⟨g2,l2⟩:=zC S.s g1;have A:=yw (κ:=kx X) g1.s q1 ea (qL H F1 H1) l2 (fun a o e0 e2=>by unfold qL;rw [e0];exact e2)
   have hl:vs.length=n:=by
    rw [<- hn,<- yx fa ρ ws ef];clear A ea h r1
    revert vs
    have:∀(ws:List En) (vs:List V),Voks (kx X) H F1 H1 vs ws->vs.length=ws.length:=by
     intro ws
     induction ws with
     | nil=>intro vs h;cases (show vs=[]from h);rfl
     | cons w ws ih =>
      intro vs h;obtain⟨v,r,rfl,_,h2⟩:=h;simp [ih r h2]
    intro vs h;exact this ws vs h
   have h:PostS X F0 H0 F D (match dn ys with|.ok _=>.nx ρ|.exc x=>.exc (nrm x)|.stuck=>.stuck):=h
   have r2:Vals (vs++[]) (us++[]):=r1.append .nil;cases ed:dn ys with
   | stuck=>rw [ed]at h;exact h.elim
   | ok wr =>
    rw [ed]at h;have h:∀ O F' H',Le F F'->StOk (kx X) F0 H0 F' H' ρ O->D.nx O H':=h;refine thn (uO (E:=E0) (Q:=fun v H'=>∃ F',Gr (qL H F1 H1) H1 F' H') G Z hb (dvs:=[]) .nil (fun _ _ _ _ _ _ _ z=>by obtain⟨_,_,_,_,_,z⟩:=z;exact z.elim) I1 r1 ?_) fun u s' ⟨v,H',I',rv,F',g'⟩=>?_
    ·rw [tP];exact⟨hl,qL H F1 H1,ys,g2.s,A,by rw [ed];exact fun v F' H' g' _=>⟨F',g'⟩⟩
    ·exact⟨σ,H',I',h σ F' H' (Le.trans g2.f g'.f) (S.grow (g2.trans g'))⟩
   | exc x0 =>
    rw [ed]at h;have h:XPS X F0 H0 (nrm x0):=h;have B:spX (kx X) dn n vs H1 (fun _ _=>False) (fun v a H'=>v=.str x0.cls 0/\a=atc x0/\∃ F',Gr (qL H F1 H1) H1 F' H'):=⟨hl,qL H F1 H1,ys,g2.s,A,by rw [ed];exact fun F' H' g'=>⟨rfl,rfl,F',g'⟩⟩
    refine fq (py (pU (G.run X.A X.stack s1 H1 ⟨us,[]⟩ us vs (fun _ _=>False) (fun v a H'=>v=.str x0.cls 0/\a=atc x0/\∃ F',Gr (qL H F1 H1) H1 F' H') Z I1.env0 ?_ r1 B) fun r s' z=>?_)) (fun _ _ z=>z) fun _ _ z=>z
    ·have:=hb s1 us I1.kIn (by rw [<- r2.length,tP];exact G.len vs H1 _ _ B)
     rwa [tP]at this
    ·cases r with
     | ok fl=>cases fl<;>first|exact z.elim|(obtain⟨_,_,_,_,_,_,_,z⟩:=z;exact z.elim)
     | error er =>
      obtain⟨y,H',a,rfl,fl,ec,Y,F',g'⟩:=z;have ey:nrm x0=y:=(Z2 (by injection ec with z;exact z.symm) Y.symm).trans (kG fl.ok)
      rw [ey]at h;exact h pins σ H1 s1 F' H' s' a (some .none) (.inr rfl) (S.gr.trans (g2.trans g')) I1 fl
end
open PySem PySem.Spec PyProof.Rows L2
section
variable{M:Model}{A:Around}{E:Value->Shared->Prop}{s:Shared}{K:Frag}{C S e:Addr}{oe:Obj}
theorem qcH{h:Heap}(X:K.In h){b:Value}(Y:PySem.W.mroIn K C b=some true){nm Z:Str}{N:Addr}{bs U:List Value}{hd:Bool}{sn:List Str}{B:List Value}{ab:Bool}{O:Option Bool}{dd:Option Addr}{k0 k1 k2 k3 k5:Option Value}{nw:String}
  (hC:h.get? C=some (excClassObj nm Z C N bs U hd sn B ab O dd k0 k1 k2 k3 k5 nw)):(Value.ref C::U).contains b=true:=by
 obtain⟨cd,e1,e2⟩:=Option.bind_eq_some_iff.mp Y;unfold PySem.W.clsIn at e1;split at e1
 ·rename_i lk;cases e1;have z:=X _ _ lk;rw [hC]at z;cases z;split at e2
  ·cases e2
  ·exact fu e2
 ·cases e1
theorem Xb{Q:Bool->Shared->Prop}(X:K.In s.heap)(Y:zl K C=true)(Z:zl K S=true)(hs:PySem.W.mroIn K C (.ref S)=some true)(he:s.heap.get? e=some oe)(hc:oe.cls=.ref C)(h:Q true s):wpAny M A (excMatches (.ref e) (.ref S)) Q E s:=by
 obtain⟨bm,N,nm,qn,bs,hd,sn,sub,ab,col,d2,k0,k1,k2,k3,k5,hC,T⟩:=u9 X Y;obtain⟨B,N',nm',qn',bs',hd',sn',O,ab',U,d2',k0',k1',k2',k3',k5',hS,T'⟩:=u9 X Z;have hB:(Value.ref S::B).contains (.type "BaseException")=true:=by rw [dJ,T'.hasType (show bmV.contains (.type "BaseException")=true by decide),Bool.or_true]
 have z:=qcH X hs hC;have f:=tc_notTuple;obtain⟨hp0,g,d,tk,os⟩:=s;unfold excMatches
 repeat (first|(with_reducible refine tH he ?_;rw [hc])|with_reducible refine tH hS ?_|(with_reducible refine pL hS ?_;rw [hB])|(with_reducible refine pL hC ?_;rw [z])|wp_step)
 exact h
end
theorem qcI{prog:Program}{w:World}{A:Around}{E:Value->Shared->Prop}{s:Shared}{K:Frag}{C e:Addr}{oe:Obj}{T:String}{Q:Value->Shared->Prop}(X:K.In s.heap)(Y:s.heap.get? e=some oe)(hc:oe.cls=.ref C)(hm:kitCls K (.ref C) (.type T)=some true)
  (h:∀ tk,Q (.bool true) {s with toks:=tk}):wpAny (model prog w) A (call (.builtin "isinstance") [.ref e,.type T]) Q E s:=by
 refine call_isinstance (S:=fun _ R s=>(K.In s.heap/\s.heap.get? e=some oe)/\∀ tk,R (.ok (.ret (.bool true))) {s with toks:=tk}) (fun prog w A R s hs=>isinstance_outer ?_ (fun z=>nomatch z)) ⟨⟨X,Y⟩,h⟩
 obtain⟨O,g,d,B,os⟩:=s;obtain⟨⟨X,Y⟩,gq⟩:=hs;have LT:PySem.W.Looks (model prog w) O (typeOf (.ref e)) (.ref C):=hc▸(PySem.W.Looks.ld Y).andThen .now;unfold Builtin.«isinstance.nested»;refine g6 (gR (s:=⟨O,g,d,B,os⟩) LT ?_);rw [gD (by simp)]
 obtain⟨Z,his,U⟩:=PySem.W.kit_cls (M:=model prog w) X hm;refine g6 (gR (s:=⟨O,g,d,B,os⟩) Z ?_);rw [gB (by decide)]
 have LI:PySem.W.Looks (model prog w) O (isInstance (.ref e) (.type T)) true:=LT.andThen U
 k_delta "plainIsInstance"
 refine g6 (g6 (gR (s:=⟨O,g,d,B,os⟩) his ?_));simp only [Bool.not_true,hX,fP];refine g6 (gR (s:=⟨O,g,d,B,os⟩) LI ?_)
 first
  | exact gk (gk (gq B))
  | (simp only [dz];first|exact gk (gk (gq B))|exact gk (gq B)|exact g6 (gk (gk (gq B))))
open PySem PySem.Spec PyProof.Rows L2
abbrev _root_.L2.Cx.inn(X:Cx)(pn:List (Addr×Obj))(E:Value->Shared->Prop):Cx:={X with pn:=pn,xe:=E}
abbrev _root_.L2.Cx.hnd(X:Cx)(pn:List (Addr×Obj))(e:Addr):Cx:={X with pn:=pn,xe:=fun _ _=>False,A:=X.A.mark (some (.ref e)),calm:=false}
section
variable{X:Cx}{pins pn:List (Addr×Obj)}{σ:St}{H:Hp}{s:Shared}{E:Value->Shared->Prop}{e:Addr}{D:Ends}{fl:Flow}
theorem _root_.L2.Inv.inn(I:Inv X pins σ H s):Inv (X.inn (X.pn++pins) E) [] σ H s :=
 ⟨⟨I.ok.mod,I.ok.kind,I.ok.glob,I.ok.blt,I.ok.above,I.ok.inj,I.ok.has,I.ok.cab,I.ok.hd,I.ok.frames,I.ok.stk,I.ok.exf,I.ok.bs,I.ok.bsz,I.ok.noex,I.ok.exfs,I.ok.funs,I.ok.frf⟩,I.os,I.bare,I.base,I.loc,I.cell,I.free,I.freeC,fun p hp=>I.pin p (by simpa using hp),I.hok,I.len⟩
theorem _root_.L2.Inv.uninn{z:List (Addr×Obj)}(I:Inv (X.inn (X.pn++pins) E) z σ H s):Inv X pins σ H s :=
 ⟨⟨I.ok.mod,I.ok.kind,I.ok.glob,I.ok.blt,I.ok.above,I.ok.inj,I.ok.has,I.ok.cab,I.ok.hd,I.ok.frames,I.ok.stk,I.ok.exf,I.ok.bs,I.ok.bsz,I.ok.noex,I.ok.exfs,I.ok.funs,I.ok.frf⟩,I.os,I.bare,I.base,I.loc,I.cell,I.free,I.freeC,fun p hp=>I.pin p (h9 _ hp),I.hok,I.len⟩
theorem _root_.L2.SP.uninn{B:List (Addr×Obj)}{f:Flow}{s':Shared}(h:SP (X.inn (X.pn++pins) E) B D f s'):SP X pins D f s':=by
 cases f with
 | next=>obtain⟨z,H',I,q⟩:=h;exact⟨z,H',I.uninn,q⟩
 | brk=>obtain⟨z,H',I,q⟩:=h;exact⟨z,H',I.uninn,q⟩
 | cont=>obtain⟨z,H',I,q⟩:=h;exact⟨z,H',I.uninn,q⟩
 | ret u=>obtain⟨v,z,H',I,r,q⟩:=h;exact⟨v,z,H',I.uninn,r,q⟩
theorem _root_.L2.Inv.hnd{more:List (Addr×Obj)}(I:Inv X pins σ H s)(h:∀ p∈more,s.heap.get? p.1=some p.2/\H p.1=none/\p.1≠X.env.locals/\p.1∉X.fs/\∀ v,p.2.data≠.cell v):Inv (X.hnd (X.pn++pins++more) e) [] σ H s :=
 ⟨⟨I.ok.mod,I.ok.kind,I.ok.glob,I.ok.blt,I.ok.above,I.ok.inj,I.ok.has,I.ok.cab,(fun z=>nomatch z),I.ok.frames,I.ok.stk,I.ok.exf,I.ok.bs,I.ok.bsz,I.ok.noex,I.ok.exfs,I.ok.funs,I.ok.frf⟩,I.os,I.bare,I.base,I.loc,I.cell,I.free,I.freeC,
  fun p hp=>by
   have hp:p∈X.pn++pins++more:=by simpa using hp
   rcases tm.mp hp with z|z
   ·exact I.pin p z
   ·exact h p z,I.hok,I.len⟩
theorem _root_.L2.Inv.gone{more:List (Addr×Obj)}{h':Heap}{t':Nat}{O:Str->Option Value}(U:X.calm=true->X.A.handled=none)(I:Inv (X.hnd (X.pn++pins++more) e) [] σ H s)(W:h'.Ns X.env.locals O)(Y:Heap.SameBut X.env.locals s.heap h'):Inv X pins (σ.map fun _=>none) H {s with heap:=h',toks:=t'}:=by
 have nl:∀ b o,X.s₀.heap.get? b=some o->b≠X.env.locals:=fun b o ho=>gP (gG (gv ho) I.ok.above)
 have kp:∀ b o,b≠X.env.locals->s.heap.get? b=some o->h'.get? b=some o:=fun b o nb ho=>(Y.2 b nb).trans ho
 have B:=I.base;refine⟨⟨I.ok.mod,I.ok.kind,I.ok.glob,I.ok.blt,I.ok.above,I.ok.inj,I.ok.has,I.ok.cab,U,I.ok.frames,I.ok.stk,I.ok.exf,I.ok.bs,I.ok.bsz,I.ok.noex,I.ok.exfs,I.ok.funs,I.ok.frf⟩,I.os,I.bare,
  ⟨fun b o e n nf nx=>kp b o (nl b o e) (B.keep b o e n nf nx),fun b o e n mf nx=>?_,B.free,fun b o e nx=>?_,B.tups,B.frzs,B.tbls⟩,⟨O,W,fun i x v e1 e2=>?_⟩,fun x c hx=>?_,I.free,I.freeC,fun p hp=>?_,fun b u hb=>?_,by rw [gy];exact I.len⟩
 ·obtain⟨sl,z⟩:=B.slot b o e n mf nx;exact⟨sl,kp b _ (nl b o e) z⟩
 ·obtain⟨o',z⟩:=B.there b o e nx;exact⟨o',kp b o' (nl b o e) z⟩
 ·rw [gX]at e2;cases q:σ[i]? with
  | none=>rw [q]at e2;cases e2
  | some a=>rw [q]at e2;cases e2
 ·obtain⟨v,o,ho,hd⟩:=I.cell x c hx;exact⟨v,o,kp c o (I.cne x c hx) ho,hd⟩
 ·obtain⟨e1,e2,e3,e4⟩:=I.pin p (by simp only [tP];exact h9 _ hp)
  exact⟨kp p.1 p.2 e3 e1,e2,e3,e4⟩
 ·refine(I.hok b u hb).stay (fun d v hd q=>kp d v (fun z=>?_) q) (fun _ z=>z) fun _ _ z=>z
  subst z;rcases hd with z|z
  ·rw [<- z,I.free]at hb;cases hb
  ·have:=I.free;rw [this]at z;cases z
end
def uc(b:SF)(cs:List Str)(hd:Xc->R En):SF:=fun ρ=>match b ρ with
 | .exc x=>if cs.contains x.cls=true then sOf (hd x) .rt else .stuck
 | o=>o
def HD(X:Cx)(F0 H0:Hp)(h0:ExceptHandler)(cs:List Str)(hd:Xc->R En):Prop :=
 ∀(pins:List (Addr×Obj)) (σ1 σ:St) (H1 F H:Hp) (s1 s:Shared) (e C:Addr) (dd:Option Addr) (x:Xc) (w:En) (D:Ends),Inv X pins σ1 H1 s1->Inv X pins σ H s->Gr F0 H0 F H->X.mg x.cls=some (.ref C)->XOk x->cs.contains x.cls=true->hd x=.ok w ->
  Way H s1.heap.objs.size s.heap e (.ref C) dd (some .none)->AtIs H s1.heap.objs.size s.heap dd x.fs->(∀ v F' H',Gr F0 H0 F' H'->Vok (kx X) H0 F' H' v w->D.rt v H') ->
  wpAny (model X.prog X.w) X.A (handleBy (.ref e) X.env [h0]) (SP X pins D) X.xe s
theorem qcJ{X:Cx}{F0 H0:Hp}{body:List Stmt}{b:SF}{h0:ExceptHandler}{cs:List Str}{hd:Xc->R En}{pos:Pos}{L:Addr}{outer:List Env}(hf:X.env.frame=some L)(O:X.stack=X.env::outer)(Z:∀ pn E,SSs (X.inn pn E) F0 H0 body b)(hh:HD X F0 H0 h0 cs hd) :
  SS X F0 H0 (.Try body [h0] [] [] pos) (uc b cs hd):=by
 intro pins s σ F H ρ D S I h;refine wpAny_Try_except ?_;refine fq (Z (X.pn++pins) (fun e U=>wpAny (model X.prog X.w) X.A (noteFrame e X.env) (fun _ s₂=>wpAny (model X.prog X.w) X.A (setFlight e none) (fun _ Y=>wpAny (model X.prog X.w) X.A (handleBy e X.env [h0]) (SP X pins D) X.xe Y) X.xe s₂) X.xe U)
  [] s σ F H ρ D S I.inn ?_) (fun f s1 q=>?_) (fun _ _ z=>z)
 ·unfold uc at h;cases eb:b ρ with
  | nx ρ'=>rw [eb]at h;exact h
  | rt w=>rw [eb]at h;exact h
  | bk ρ'=>rw [eb]at h;exact h
  | ct ρ'=>rw [eb]at h;exact h
  | stuck=>rw [eb]at h;exact h
  | exc x =>
   rw [eb]at h;dsimp only at h;by_cases hc:cs.contains x.cls=true
   ·rw [gB hc]at h;have h:=PostS.of h;cases ew:hd x with
    | exc y=>rw [ew]at h;exact h.elim
    | stuck=>rw [ew]at h;exact h.elim
    | ok w =>
     rw [ew]at h;intro h3 B H1 s1 F' H' s' e q hq g I1 fl;have J1:Inv X pins B H1 s1:=I1.uninn;have J2:Inv X pins B H' s':=J1.call' fl.os fl.un fl.hok fl.bare (fun b z=>by simp at z)
     obtain⟨C,dd,hm,W,at_⟩:=fl.way;refine Jr (base:=X.base) (L:=L) (outer:=outer) (by rw [J2.ok.frames,O]) (O▸J2.stack) hf W hq (fun b Z=>fl.hok.fresh Z) fl.sz fun h1 c1 w1=>?_
     refine xI (s:={s' with heap:=h1}) (fs:=frs (X.env::outer)) w1 fun h2 c2 w2=>?_
     have c:Chg H' s1.heap.objs.size (frs X.stack) s'.heap h2:=O▸c1.trans c2;have J3:=Inv.chg (t':=s'.toks) J1 J2 c;exact hh pins B B H1 F' H' s1 _ e C dd x w D J1 J3 g hm fl.ok hc ew w2 (at_.chg c (kE J1)) fun v F2 H2 g2 q2=>h v F2 H2 g2 q2
   ·rw [gD hc]at h;exact h.elim
 ·have q:=SP.uninn q;cases f with
  | next=>exact fT q
  | _=>exact q
open PySem PySem.Spec PyProof.Rows L2
def Z3(pn:List (Addr×Obj))(dd:Option Addr):List (Str×D)->Prop
 | []=>dd=none
 | (nm,d)::_=>∃ dx od mA u,dd=some dx/\(dx,od)∈pn/\(∀ h:Heap,h.get? dx=some od->h.Ns1 dx mA)/\mA nm=some u/\flatV d u
def Z4(X:Cx)(S:Addr)(cs:List Str):Prop:=∀ c C,cs.contains c=true->X.mg c=some (.ref C)->zl X.K C=true/\PySem.W.mroIn X.K C (.ref S)=some true
section
variable{X:Cx}{F0 H0:Hp}{cN n:Str}{S:Addr}{i:Nat}{ex:Expr}{cs:List Str}{hd:Xc->R En}{cp rp hp:Pos}
def Xd(X:Cx)(F0 H0:Hp)(i:Nat)(ex:Expr)(rp:Pos)(cs:List Str)(hd:Xc->R En):Prop :=
 ∀(pn:List (Addr×Obj)) (σ:St) (F H:Hp) (s:Shared) (e C:Addr) (oe:Obj) (x:Xc) (w:En) (D:Ends),Inv (X.hnd pn e) [] σ H s->σ[i]?=some (some (.ref e))->(e,oe)∈pn->oe.cls=.ref C->(∃ vs,oe.data=.fields vs)->X.mg x.cls=some (.ref C)->cs.contains x.cls=true->XOk x ->
  Z3 pn oe.dict x.fs->hd x=.ok w->Gr F0 H0 F H->(∀ v F' H',Gr F0 H0 F' H'->Vok (kx X) H0 F' H' v w->D.rt v H') ->
  wpAny (model X.prog X.w) (X.A.mark (some (.ref e))) (execs [.Return (some ex) rp] X.env) (SP (X.hnd pn e) [] {nx:=fun _ _=>False,rt:=D.rt}) (fun _ _=>False) s
theorem Xe{pins:List (Addr×Obj)}{σ1 σ:St}{H1 H:Hp}{Z s:Shared}{e:Addr}{cl:Value}{dd:Option Addr}{q:Option Value}{fs:List (Str×D)}(I1:Inv X pins σ1 H1 Z)(I:Inv X pins σ H s)(W:Way H Z.heap.objs.size s.heap e cl dd q)(U:AtIs H Z.heap.objs.size s.heap dd fs) :
  ∃(oe:Obj) (more:List (Addr×Obj)),oe.cls=cl/\oe.dict=dd/\(∃ vs,oe.data=.fields vs)/\(e,oe)∈more/\Z3 more dd fs/\∀ p∈more,s.heap.get? p.1=some p.2/\H p.1=none/\p.1≠X.env.locals/\p.1∉X.fs/\∀ v,p.2.data≠.cell v:=by
 obtain⟨oe,vs,he,e1,e2,O,_,hn,hH,_⟩:=W;have B:∀ b,Z.heap.objs.size<=b->b≠X.env.locals/\b∉X.fs:=fun b hb=>⟨fun z=>absurd (gG I1.lt (z▸hb)) (tB _),fun z=>by
  obtain⟨_,o,ho,_⟩:=I1.funs.mem z;exact absurd (gG (gv ho) hb) (tB _)⟩
 have pe:s.heap.get? e=some oe/\H e=none/\e≠X.env.locals/\e∉X.fs/\∀ v,oe.data≠.cell v:=⟨he,hH,(B e hn).1,(B e hn).2,fun v z=>by rw [O]at z;cases z⟩
 cases fs with
 | nil=>exact⟨oe,[(e,oe)],e1,e2,⟨vs,O⟩,.head _,U,fun p hp=>(show p=(e,oe)by simpa using hp)▸pe⟩
 | cons pr r =>
  obtain⟨nm,d⟩:=pr;obtain⟨dx,mA,u,f1,f2,f3,⟨od,es,ep,ho,Y,f4⟩,f5,f6⟩:=U;refine⟨oe,[(e,oe),(dx,od)],e1,e2,⟨vs,O⟩,.head _,⟨dx,od,mA,u,f1,.tail _ (.head _),fun h hh=>⟨od,es,ep,hh,Y,f4⟩,f5,f6⟩,fun p hp=>?_⟩
  rcases gl.mp hp with rfl|hp
  ·exact pe
  ·obtain rfl:p=(dx,od):=by simpa using hp
   exact⟨ho,f3,(B dx f2).1,(B dx f2).2,fun v z=>by rw [Y]at z;cases z⟩
theorem qcK(hm:X.mg cN=some (.ref S))(qS:zl X.K S=true)(O:Z4 X S cs)(hst:X.calm=true)(hN:X.N.Nodup)(hi:X.N[i]?=some n)(U:X.env.scope.names.lookup n=some .local)(hs:Xd X F0 H0 i ex rp cs hd)
  (hg:Gl X cN:=by rfl)(Y:(cN==("__debug__":Str))=false:=by decide):HD X F0 H0 (.ExceptHandler (some (.Name cN cp)) (some n) [.Return (some ex) rp] hp) cs hd:=by
 intro pins σ1 σ H1 F H s1 s e C dd x w D I1 I g hC ok hc ew W Z k;obtain⟨qC,B⟩:=O _ _ hc hC;refine wpAny_handleBy_cons (codeAny_handlers_test ?_) (by intro q;cases q)
 refine vd (X:=X.hnd (X.pn++pins++[]) e) (I.hnd (more:=[]) fun p z=>nomatch z) hg hm ?_ Y
 obtain⟨oe,vs,he,e1,_⟩:=id W;refine Xb I.kIn qC qS B he e1 (codeAny_handlers_suite_as ?_);refine xI (fs:=frs X.stack) W fun h' c w'=>?_
 have I3:=Inv.chg (t':=s.toks) I1 I c;have at3:=Z.chg c (kE I1);obtain⟨oe3,more,m1,m2,m3,m4,m5,m6⟩:=Xe I1 I3 w' at3;have J:=Inv.hnd (e:=e) I3 m6;refine ym (X:=X.hnd (X.pn++pins++more) e) (v:=.ref e) J hN hi (.inl U) rfl (fun s4 I4=>?_) (.inr U)
 have li:i<σ.length:=by rw [I.len];exact(gu.mp hi).1
 refine wpAny_noRaise (thn (hs (X.pn++pins++more) (σ.set i (some (.ref e))) F H s4 e C oe3 x w D I4 (gZ li) (gF _ m4) m1 m3 hC hc ok ?_ ew g k) fun f s5 q=>?_)
 ·rw [m2];have up:∀ p∈more,p∈X.pn++pins++more:=fun p hp=>gF _ hp
  revert m5
  cases x.fs with
  | nil=>exact fun z=>z
  | cons pr r=>intro ⟨dx,od,mA,u,a1,a2,a3⟩;exact⟨dx,od,mA,u,a1,up _ a2,a3⟩
 ·cases f with
  | next=>obtain⟨_,_,_,z⟩:=q;exact z.elim
  | brk=>obtain⟨_,_,_,z⟩:=q;exact z.elim
  | cont=>obtain⟨_,_,_,z⟩:=q;exact z.elim
  | ret u =>
   obtain⟨v,σ5,H5,I5,r5,q5⟩:=q;obtain⟨m,hm5,_⟩:=I5.loc;refine wpAny_nameGoes_keeps (env:=X.env) U hm5 (by rw [I.ok.kind];rfl) fun h6 v6 n6 sb6=>?_
   exact⟨v,_,H5,Inv.gone (pins:=pins) (more:=more) I.ok.hd I5 n6 sb6,r5,q5⟩
end
open PySem PySem.Spec PyProof.Rows L2
structure XGet(K:Frag)(C:Addr):Prop where
 cd:∃ cd,PySem.W.clsIn K C=some cd/\vk cd.mro=true/\cd.hasDict=true
 ga:findIn K (.ref C) "__getattribute__"=some (some (.builtin "BaseException.__getattribute__"))
 gh:findIn K (.ref C) "__getattr__"=some none
 na:findIn K (.ref C) "at"=some none
section
variable{X:Cx}{F0 H0:Hp}{n:Str}{i:Nat}{cs:List Str}{rp np apos tp bp vp ip cp:Pos}{j1 j2:Nat}
theorem qcL{d:D}{u:Value}(h:flatV d u)(κ:Kx):∃ v:V,RelV v u/\handedIn u=true/\∀ F,Rep κ F v d:=by
 cases d with
 | non=>obtain rfl:u=.none:=h;exact⟨.non,rfl,rfl,fun _=>rfl⟩
 | int k=>obtain⟨t,rfl⟩:=(show ∃ t,u=.int k t from h);exact⟨.int k,⟨t,rfl⟩,rfl,fun _=>rfl⟩
 | _=>exact h.elim
theorem qcM{T:String}(O:∀ c C,cs.contains c=true->X.mg c=some (.ref C)->kitCls X.K (.ref C) (.type T)=some true)(hi:X.N[i]?=some n)(hl:X.env.scope.names.lookup n=some .local)(hm:X.mg "isinstance"=none)(U:X.mg T=none)(W:bootBuiltins T=some (.type T))
  (hg:Gl X "isinstance":=by rfl)(Y:Gl X T:=by rfl)(Z:(Str.ofString T)≠"__name__":=by decide)(hdt:((Str.ofString T)==("__debug__":Str))=false:=by decide)(hnd:(n==("__debug__":Str))=false:=by decide)(hnc:(n==("__classdict__":Str))=false:=by decide)
  (B:starEach [.Name n np,.Name T vp] X.env=(false,eval (.Name n np) X.env)::starEach [.Name T vp] X.env:=by rfl)(hs2:starEach [.Name T vp] X.env=[(false,eval (.Name T vp) X.env)]:=by rfl)
  (hpl:(backTo cp (starEach [.Name T vp] X.env)).any (·.1)=false:=by rfl):Xd X F0 H0 i (.Call (.Name "isinstance" ip) [.Name n np,.Name T vp] [] cp) rp cs fun _=>okB true:=by
 intro pn σ F H s e C oe x w D I z hpe hcl h3 hC hc ok hat ew g k;cases ew;have hk:=O _ _ hc hC;refine Gc (X:=X.hnd pn e) (t:=YJ fun σ H Q=>σ[i]?=some (some (.ref e))/\Q (.bl true) H) (YK ?_) [] s σ H _ I ⟨z,k (.bl true) F H g rfl⟩
 intro pins s σ H Q I ⟨z,q⟩;refine hV (zi (X:=X.hnd pn e) I hg hm boot_isinstance ?_);refine f9 ?_ B hpl;show wpAny _ _ (spliced (backTo cp (starEach [.Name n np,.Name T vp] X.env))) _ _ _;rw [B];refine gJ (thn (jn (X:=X.hnd pn e) (i:=i) (x:=n) hi (.inl hl) hnd hnc pins s σ H (fun v' H'=>v'=.ref e/\H'=H) I ⟨.ref e,z,rfl,rfl⟩) fun u1 s1 ⟨v1,H1,I1,r1,ev,eH⟩=>?_)
 subst ev eH;obtain rfl:u1=Value.ref e:=r1;rw [hs2];refine gJ (zi (X:=X.hnd pn e) I1 Y U W (t7 ?_) Z hdt);exact qcI I1.kIn (I1.pin (e,oe) (h9 _ hpe)).1 hcl hk fun tk=>⟨.bl true,H1,I1.tok tk,rfl,q⟩
end
open PySem PySem.Spec PyProof.Rows L2
section
variable{X:Cx}{pins:List (Addr×Obj)}{σ:St}{H:Hp}{s:Shared}{h':Heap}{fp:List Addr}{t':Nat}
theorem Qm{b:Addr}{u:HO}(O:∀ b∈fp,FpOk X pins H b)(B:H b=some u):b∉fp:=fun z=>by rw [(O b z).1]at B;cases B
theorem Xf(I:Inv X pins σ H s)(B:∀ b∈fp,FpOk X pins H b)(k:∀ b o,b∉fp->s.heap.get? b=some o->h'.get? b=some o):Inv X pins σ H {s with heap:=h',toks:=t'}:=by
 refine I.call (ch:=fp) (g':=s.gens) (d':=s.drawn) ⟨fun b o e _ _ nc=>k b o nc e,fun b o e _ _ nc=>⟨o.slots,k b o nc e⟩,fun _ _ _ n _=>n,fun b o e nc=>⟨o,k b o nc e⟩,fun _ _ z=>z,fun _ _ _ z=>z,fun b ps z=>⟨#[],by rw [z];simp⟩⟩ (fun b u hb=>?_) I.bare
  fun b hb=>⟨(B b hb).2.2.2.1,(B b hb).2.1,(B b hb).2.2.2.2.1,(B b hb).2.2.2.2.2⟩
 refine(I.hok b u hb).stay (fun d v hd q=>k d v ?_ q) (fun _ z=>z) fun _ _ z=>z
 rcases hd with rfl|z
 ·exact Qm B hb
 ·exact Qm B z
theorem Xg{T:Addr}{its:List Value}{xs:List V}(I:Inv X pins σ H s)(B:∀ b∈fp,FpOk X pins H b)(k:∀ b o,b∉fp->s.heap.get? b=some o->h'.get? b=some o)(O:s.heap.objs.size<=T)(tup:IsTup h' T its.toArray)(r:Vals xs its)(hz:xs.length<=sizeLine) :
  Inv X pins σ (upd H T (.tup xs)) {s with heap:=h',toks:=t'}:=by
 have nT:H T=none:=I.hok.fresh O;have ne:∀ b o,s.heap.get? b=some o->b≠T:=fun b o e z=>absurd (gG (gv e) (z▸O)) (tB _)
 have up:∀ b u,H b=some u->upd H T (.tup xs) b=some u:=fun b u e=>by rw [qt (jy e nT)];exact e
 refine I.call (ch:=fp) (g':=s.gens) (d':=s.drawn) ⟨fun b o e _ _ nc=>k b o nc e,fun b o e _ _ nc=>⟨o.slots,k b o nc e⟩,fun b o e n _=>?_,fun b o e nc=>⟨o,k b o nc e⟩,fun b _ z=>up b _ z,fun b _ _ z=>up b _ z,fun b ps z=>⟨#[],by rw [up b _ z];simp⟩⟩ (fun b u hb=>?_) I.bare
  fun b hb=>⟨(B b hb).2.2.2.1,(B b hb).2.1,(B b hb).2.2.2.2.1,(B b hb).2.2.2.2.2⟩
 ·rw [qt (ne b o e)];exact n
 ·by_cases z:b=T
  ·subst z;rw [qN]at hb;cases hb;exact⟨hz,its,r,tup⟩
  ·rw [qt z]at hb;refine(I.hok b u hb).stay (fun d v hd q=>k d v ?_ q) (fun c y=>up c _ y) fun c ys y=>up c _ y
   rcases hd with rfl|y
   ·exact Qm B hb
   ·exact Qm B y
end
def Ite(K:Frag)(a:Addr):It :=
 ⟨fun i H=>∃ xs x,SqL K H a xs/\xs[i]?=some x,fun i H x H'=>∃ p y,H p=none/\x=.ref p/\H'=upd H p (.tup [.int i,y])/\∀ xs,SqL K H a xs->xs[i]?=some y,fun i H=>∃ xs,SqL K H a xs/\xs.length<=i⟩
theorem qcN{P:Program}{w:World}{K:Frag}{es:List Expr}{k:Nat}{tp:Pos}(a it e:Addr)(ne:e≠it) :
  Turn P w K (.Tuple es k tp) (Ite K a) [e,it] e (fun i h=>(∃ B,IsEnum h e it i B)/\h.IsListIter it a i)where
 mem:=by simp
 obj:=fun i h ⟨⟨B,he⟩,hi⟩ b hb=>by
  rcases gl.mp hb with rfl|hb
  ·exact⟨_,he,fun v z=>by cases z⟩
  ·obtain rfl:b=it:=by simpa using hb
   obtain⟨o,e,c,d⟩:=hi;exact⟨o,e,fun v z=>by rw [d]at z;cases z⟩
 keep:=fun i h h' ⟨⟨B,he⟩,hi⟩ kk=>⟨⟨B,kk e (by simp) _ he⟩,hi.at fun o q=>kk it (by simp) o q⟩
 item:=by
  intro X hP hw hK hc i pins s σ H E I hf ⟨⟨B,he⟩,hi⟩ hg;subst hP hw hK;obtain⟨xs,x,hq,hx⟩:=hg;obtain⟨its,rv,p,hz⟩:=I.list hq;obtain⟨u,hu,ru⟩:=rv.get hx;refine wpAny_pyNext_enum_item he hi p.isList (x:=u) (by simpa using hu) ne fun h1 ho W hT hsz hk=>⟨_,rfl,?_⟩
  refine wpAny_letOwnedTupleGo_enum (s:={s with heap:=h1,toks:=s.toks+1}) ho fun h2 Y sb=>?_
  have O:s.heap.objs.size≠e:=fU (gv he);have T2:h2.get? s.heap.objs.size=some {cls:=.type "tuple",data:=.seq #[.int i s.toks,u]}:=(sb.2 _ O).trans hT;refine⟨.ref s.heap.objs.size,upd H s.heap.objs.size (.tup [.int i,x]),Xg (s:=s) (t':=s.toks+1) (its:=[.int i s.toks,u]) I hf (fun b o nb ho=>?_) (gw _) ⟨_,T2,rfl,_,rfl⟩ (.cons ⟨_,rfl⟩ (.cons ru .nil)) (by simp [fm]),rfl,
   ⟨_,x,I.hok.fresh (gw _),rfl,rfl,fun ys hy=>by rw [I.list_inj hy hq];exact hx⟩,⟨⟨u,by simpa using Y⟩,W.at fun o q=>(sb.2 it (hG ne)).trans q⟩,fun b hb=>?_⟩
  ·have U:b≠e:=fun z=>nb (by simp [z])
   have Z:b≠it:=fun z=>nb (by simp [z])
   exact(sb.2 b U).trans (hk b o U Z ho)
  ·rw [qt]
   ·exact(hf b hb).1
   ·rcases gl.mp hb with rfl|hb
    ·exact hG O
    ·obtain rfl:b=it:=by simpa using hb
     obtain⟨o,q,_⟩:=hi;exact gP (gv q)
 done:=by
  intro X hP hw hK hc i pins s σ H E I hf ⟨⟨B,he⟩,hi⟩ hg;subst hP hw hK;obtain⟨xs,hq,hx⟩:=hg;obtain⟨its,rv,p,hz⟩:=I.list hq;have hl:=rv.length;refine wpAny_pyNext_enum_end (I.ok.hd hc) he hi p.isList (by simp;omega) fun h1 eb=>⟨rfl,Xf (t':=s.toks) I hf fun b o nb ho=>eb b o (fun z=>nb (by simp [z])) ho⟩
 self:=fun _ _ _ _ _ ⟨⟨B,he⟩,_⟩ h=>wpAny_pyIter_enum he h
def numd:Nat->List D->List D
 | _,[]=>[]
 | n,d::r=>.tup [.int n,d]::numd (n+1) r
theorem Z5:∀(ds:List D) (n i:Nat) (x:D),(numd n ds)[i]?=some x->∃ d,ds[i]?=some d/\x=.tup [.int (n+i:Nat),d]
 | [],_,_,_,h=>by simp [numd]at h
 | d::r,n,0,x,h=>by simp [numd]at h;exact⟨d,rfl,by rw [<- h];rfl⟩
 | d::r,n,i+1,x,h=>by
  obtain⟨y,e1,e2⟩:=Z5 r (n+1) i x (by simpa [numd]using h)
  exact⟨y,by simpa using e1,by rw [e2];congr 3;omega⟩
theorem Z6:∀(ds:List D) (n:Nat),(numd n ds).length=ds.length
 | [],_=>rfl
 | d::r,n=>by simp [numd,Z6 r]
theorem Xh{κ:Kx}{F1 G:Hp}{a:Addr}{vs:List V}{ds:List D}(B:∀ F H,Le F1 F->Le F H->Le G H->SqL κ.K H a vs)(rs:Reps κ F1 vs ds):Walk κ (Ite κ.K a) F1 G (numd 0 ds)where
 go:=fun i x F H ed l1 l lg=>by
  obtain⟨d,e1,rfl⟩:=Z5 ds 0 i x ed;obtain⟨v,ev,rv⟩:=Reps.get rs e1;have q:=B F H l1 l lg;refine⟨⟨vs,v,q,ev⟩,fun y H' z=>?_⟩
  obtain⟨p,y,hp,rfl,rfl,w⟩:=z;have:=w vs q;rw [ev]at this;cases this;refine⟨_,Gr.newF (o:=.tup [.int i,v]) l hp,p,[.int i,v],rfl,.inl (.inl qN),?_⟩;exact⟨_,_,rfl,by rw [cE];rfl,_,_,rfl,Rep.le (fun b o z=>by rw [qt (jy z (Le.none l hp))];exact z) d (Rep.le l1 d rv),rfl⟩
 stop:=fun i F H hi l1 l lg=>⟨vs,B F H l1 l lg,by rw [Reps.length rs];rw [Z6]at hi;exact hi⟩
def vm(i:Nat):IF:=fun ρ=>match ρ[i]? with
 | some (some (.fz (.lst ds)))=>.ok (numd 0 ds)
 | some (some (.br (.lst ds)))=>.ok (numd 0 ds)
 | _=>.stuck
theorem kH(i:Nat){X:Cx}{F0 H0:Hp}{es:List Expr}{k:Nat}{x:Str}{tp pos np cp:Pos}(O:X.mg "enumerate"=none)(U:X.N[i]?=some x:=by rfl)(W:Vis X.env.scope x:=by trivial)(hd:(x==("__debug__":Str))=false:=by decide)
  (z:(x==("__classdict__":Str))=false:=by decide)(Y:Gl X "enumerate":=by rfl)(B:starEach [.Name x pos] X.env=[(false,eval (.Name x pos) X.env)]:=by rfl) :
  SI X F0 H0 (.Tuple es k tp) (.Call (.Name "enumerate" np) [.Name x pos] [] cp) (vm i):=by
 refine⟨fun σ H R=>∃ a,σ[i]?=some (some (.ref a))/\(∃ xs,SqL X.K H a xs)/\R (Ite X.K a) H,fun pins s σ H R I ⟨a,hσ,⟨xs,hq⟩,hR⟩=>?_,fun σ F H ρ R S h=>?_⟩
 ·refine Call_ (zi I Y O boot_enumerate (tt ?_ B rfl));rw [B];refine gJ (thn (jn (pos:=pos) U W hd z pins s σ H (fun v' H'=>v'=.ref a/\H'=H) I ⟨_,hσ,rfl,rfl⟩) fun u s1 ⟨v1,H1,I1,r1,e1,e2⟩=>?_)
  subst e1 e2;obtain rfl:u=Value.ref a:=r1;refine t7 ?_;obtain⟨its,rv,p,hz⟩:=I1.list hq;refine call_enumerate_list p.isList fun h' he hi hsz kp=>?_
  refine wpAny_pyIter_enum (s:={s1 with heap:=h'}) he ?_;refine⟨_,_,_,_,H1,rfl,I1.kept (t':=s1.toks) kp,qcN a s1.heap.objs.size (s1.heap.objs.size+1) (fU (pM _)),⟨⟨_,he⟩,hi⟩,fun b hb=>?_,hR⟩
  have lb:s1.heap.objs.size<=b:=by
   rcases gl.mp hb with rfl|hb
   ·exact cV _
   ·obtain rfl:b=s1.heap.objs.size:=by simpa using hb
    exact gw _
  exact I1.fpOk lb (I1.hok.fresh lb)
 ·unfold vm at h;cases ew:ρ[i]? with
  | none=>rw [ew]at h;exact h.elim
  | some w =>
   rw [ew]at h;cases w with
   | none=>exact h.elim
   | some w =>
    obtain⟨v,e1,q⟩:=S.val i w ew;cases w with
    | ow d=>exact h.elim
    | lk d=>exact h.elim
    | od d=>exact h.elim
    | fz d =>
     cases d<;>first|exact h.elim|skip
     obtain⟨a,vs,rfl,hq,rs⟩:=q;exact⟨a,e1,⟨vs,SqL.le S.s hq⟩,h F H _ (Gr.refl S.s) (Xh (κ:=kx X) (fun F' H' l1 l _=>SqL.le l (SqL.le l1 hq)) rs)⟩
    | br d =>
     obtain⟨a,o,rfl,eh,ro⟩:=q;cases d<;>first|exact h.elim|skip
     cases o<;>first|exact ro.elim|skip
     exact⟨a,e1,⟨_,SqL.of (S.gr.h _ _ eh)⟩,h F H _ (Gr.refl S.s) (Xh (κ:=kx X) (fun F' H' _ _ lg=>SqL.le lg (SqL.of eh)) ro)⟩
open PySem PySem.Spec PyProof.Rows L2
section
variable{prog:Program}{w:World}{A:Around}{E:Value->Shared->Prop}{s:Shared}
theorem Z7{z t:Addr}{i:Nat}{vs:Array Value}{x:Value}{Q:Value->Shared->Prop}(B:s.heap.IsTupleIter z t i)(O:s.heap.IsTuple t vs)(U:vs[i]?=some x)
  (k:∀ h',h'.IsTupleIter z t (i+1)->Heap.SameBut z s.heap h'->Q x {s with heap:=h'}):wpAny (model prog w) A (Builtin.SmallTypes.nextOf (.ref z)) Q E s:=by
 obtain⟨o,g1,g2,g3⟩:=id B;obtain⟨ot,g4,_,nt,g5⟩:=O;unfold Builtin.SmallTypes.nextOf;refine g6 (tX (name:=Str.ofString "__next__") B.typeIs fH (fF fH B.typeIs cO ?_ (cH _)));show wpAny _ _ (field (.ref z) 0 >>= _) _ _ s;refine g6 (tK g1 g3 (x:=.ref t) rfl ?_);show wpAny _ _ (if (Value.ref t==Value.none)=true then _ else _) _ _ s;rw [gD (fun zp=>nomatch zp)]
 show wpAny _ _ (field (.ref z) 1 >>= _) _ _ s;refine g6 (tK g1 g3 (x:=.int i 0) rfl ?_);show wpAny _ _ (seqItems? (.ref t) >>= _) _ _ s;refine g6 (fR g4 g5 ?_);simp only [tQ,U];refine g6 (po g1 g3 (by simp) (gk ⟨x,rfl,gk (k _ ⟨_,tq _ g1 (pf (fA g3 _)),(dR ..).trans g2,?_⟩ (fN ..))⟩))
 rw [fA g3];simp [rawInt]
theorem Xi{z t:Addr}{i:Nat}{vs:Array Value}{Q:Value->Shared->Prop}(O:A.handled=none)(B:s.heap.IsTupleIter z t i)(U:s.heap.IsTuple t vs)(W:vs[i]?=none)
  (k:∀ h' e,Heap.ExtBut z s.heap h'->(∃ o,h'.get? e=some o/\o.cls=.type "StopIteration")->E (.ref e) {s with heap:=h'}):wpAny (model prog w) A (Builtin.SmallTypes.nextOf (.ref z)) Q E s:=by
 obtain⟨o,g1,g2,g3⟩:=id B;obtain⟨ot,g4,_,nt,g5⟩:=U;unfold Builtin.SmallTypes.nextOf;refine g6 (tX (name:=Str.ofString "__next__") B.typeIs fH (fF fH B.typeIs cO ?_ (cH _)));show wpAny _ _ (field (.ref z) 0 >>= _) _ _ s;refine g6 (tK g1 g3 (x:=.ref t) rfl ?_);show wpAny _ _ (if (Value.ref t==Value.none)=true then _ else _) _ _ s;rw [gD (fun zp=>nomatch zp)]
 show wpAny _ _ (field (.ref z) 1 >>= _) _ _ s;refine g6 (tK g1 g3 (x:=.int i 0) rfl ?_);show wpAny _ _ (seqItems? (.ref t) >>= _) _ _ s;refine g6 (fR g4 g5 ?_);simp only [tQ,W];refine g6 (cC (g6 (po g1 g3 (by simp) ?_)))
 show wpAny _ _ (newExc (.type "StopIteration") [] >>= _) _ _ _;refine g6 ?_;simp only [newExc,newTuple];refine g6 (tw (g6 (m:=firstArgMember _ _) (wpAny_of_eq (a:=Value.none) (by first|rfl|(simp only [firstArgMember];rfl)) (tw ?_ (by size_fits)))) (by size_fits))
 simp only [raiseNew];refine g6 (wpAny_handled ?_);first|rw [show A.in1.handled=none from O]|rw [O]
 exact g6 (gk (wpAny_throw (k _ _ (((fN ..).extBut.push _).push _) ⟨_,gH _ rfl,rfl⟩)))
structure ZA(zp tI tO ja jb t1 t2:Addr):Prop where
 nd:[zp,tI,tO,ja,jb].Nodup
 n1:t1∉[zp,tI,tO,ja,jb]
 n2:t2∉[zp,tI,tO,ja,jb]
theorem qcO{z O B U W Z t2:Addr}{k1 k2:Nat}{xs ys:Array Value}{x y a b:Value}{Q:Option Value->Shared->Prop}(D:ZA z O B U W Z t2)(Y:IsZip s.heap z O B .none)(gI:IsPair s.heap O (.ref U) (.ref W))(gO:IsPair s.heap B a b)
  (g1:s.heap.IsTupleIter U Z k1)(g2:s.heap.IsTupleIter W t2 k2)(q1:s.heap.IsTuple Z xs)(q2:s.heap.IsTuple t2 ys)(ex:xs[k1]?=some x)(ey:ys[k2]?=some y)
  (k:∀ h',IsZip h' z O B (rawInt s.heap.objs.size)->IsPair h' B x y->h'.IsTupleIter U Z (k1+1)->h'.IsTupleIter W t2 (k2+1)->IsPair h' s.heap.objs.size x y ->
   (∀ c o,c≠z->c≠B->c≠U->c≠W->s.heap.get? c=some o->h'.get? c=some o)->Q (some (.ref s.heap.objs.size)) {s with heap:=h'}):wpAny (model prog w) A (pyNext (.ref z)) Q E s:=by
 obtain⟨nd,m1,m2⟩:=D;simp only [tf,gl,fj,dr,not_or,cX,and_true,dU]at nd m1 m2;obtain⟨⟨a1,a2,a3,a4⟩,⟨b1,b2,b3⟩,⟨c1,c2⟩,d1⟩:=nd;obtain⟨e1,e2,e3,e4,e5⟩:=m1;obtain⟨f1,f2,f3,f4,f5⟩:=m2;have tz:s.TypeIs (.ref z) "zip":=⟨_,Y,rfl⟩;unfold pyNext;refine g6 (cc (tX (name:=Str.ofString "__next__") tz c6 (fF c6 tz PySem.F.entry_zip_next ?_ (PySem.F.args_zip_next_1 _))));show wpAny _ _ (field (.ref z) 2 >>= _) _ _ _;refine g6 (tK Y rfl (x:=.bool false) rfl ?_);show wpAny _ _ (field (.ref z) 3 >>= _) _ _ _;refine g6 (tK Y rfl (x:=.ref O) rfl (g6 (fR gI rfl ?_)));show wpAny _ _ (Builtin.SmallTypes.ownedTupleIsFree (.ref z) >>= _) _ _ _;refine g6 ?_;unfold Builtin.SmallTypes.ownedTupleIsFree;refine g6 (tK Y rfl (x:=.none) rfl (gk ?_));simp only [dz];refine g6 (cC (g6 (tK Y rfl (x:=.ref B) rfl (g6 (pi Y (by simp) fun h1 z1 s1=>?_)))))
 replace z1:IsZip h1 z O B .ellipsis:=z1
 refine g6 ?_;simp only [List.zipIdx_cons,List.zipIdx_nil,dB,List.forIn_nil];refine g6 (g6 (dX ?_));show wpAny _ _ (Builtin.SmallTypes.nextOf (.ref U) >>= _) _ _ _;refine g6 (Z7 (g1.extBut s1.extBut (hG a3)) (q1.extBut s1.extBut e1) ex fun h2 w2 s2=>gk ?_)
 have o2:IsPair h2 B a b:=s2.extBut _ _ c1 (s1.extBut _ _ (hG a2) gO);refine g6 (fR o2 rfl (g6 (dh o2 fun h3 o3 s3=>?_)))
 replace o3:IsPair h3 B x b:=o3
 refine g6 (pY (gk (g6 (g6 (dX ?_)))));show wpAny _ _ (Builtin.SmallTypes.nextOf (.ref W) >>= _) _ _ _;refine g6 (Z7 (((g2.extBut s1.extBut (hG a4)).extBut s2.extBut (hG d1)).extBut s3.extBut (hG c2)) (((q2.extBut s1.extBut f1).extBut s2.extBut f4).extBut s3.extBut f3) ey fun h4 w4 s4=>gk ?_)
 have o4:IsPair h4 B x b:=s4.extBut _ _ c2 o3;refine g6 (fR o4 rfl (g6 (dh o4 fun h5 o5 s5=>?_)))
 replace o5:IsPair h5 B x y:=o5
 refine g6 (pY (gk (gk (g6 (fR o5 rfl (g6 (wpAny_newTuple ?_)))))));have sz:h5.objs.size=s.heap.objs.size:=by rw [s5.1,s4.1,s3.1,s2.1,s1.1]
 have z5:IsZip h5 z O B .ellipsis:=s5.extBut _ _ a2 (s4.extBut _ _ a4 (s3.extBut _ _ a2 (s2.extBut _ _ a3 z1)));have w5:h5.IsTupleIter U Z (k1+1):=((w2.extBut s3.extBut (hG c1)).extBut s4.extBut d1).extBut s5.extBut (hG c1);have v5:h5.IsTupleIter W t2 (k2+1):=w4.extBut s5.extBut (hG c2);have lz:z<h5.objs.size:=gv z5;show wpAny _ _ (Builtin.SmallTypes.ownedTupleHandOut (.ref z) (.ref h5.objs.size) >>= _) _ _ _;refine g6 ?_;unfold Builtin.SmallTypes.ownedTupleHandOut;have z6:IsZip (h5.push {cls:=.type "tuple",data:=.seq #[x,y]}) z O B .ellipsis:=gg _ z5;refine g6 (pi z6 (by simp) fun h7 z7 s7=>?_)
 replace z7:IsZip h7 z O B (rawInt h5.objs.size):=z7
 refine pi z7 (by simp) fun h8 z8 s8=>?_
 replace z8:IsZip h8 z O B (rawInt h5.objs.size):=z8
 have up:∀ c o,c≠z->h5.get? c=some o->h8.get? c=some o:=fun c o n e=>s8.extBut _ _ n (s7.extBut _ _ n (gg _ e))
 have p8:IsPair h8 h5.objs.size x y:=s8.extBut _ _ (fU lz) (s7.extBut _ _ (fU lz) (gH _ rfl));rw [sz]at z8 p8;refine gk ⟨_,rfl,gk ?_⟩;show Q (some (.ref h5.objs.size)) _;rw [sz];refine k h8 z8 (up _ _ (hG a2) o5) (w5.at fun o e=>up _ o (hG a3) e) (v5.at fun o e=>up _ o (hG a4) e) p8 fun c o n1 n2 n3 n4 e=>up c o n1 ?_
 exact s5.extBut _ _ n2 (s4.extBut _ _ n4 (s3.extBut _ _ n2 (s2.extBut _ _ n3 (s1.extBut _ _ n1 e))))
theorem qcP{z O B U W Z t2:Addr}{k1 k2:Nat}{xs ys:Array Value}{a b:Value}{Q:Option Value->Shared->Prop}(hh:A.handled=none)(D:ZA z O B U W Z t2)(Y:IsZip s.heap z O B .none)(gI:IsPair s.heap O (.ref U) (.ref W))(gO:IsPair s.heap B a b)
  (g1:s.heap.IsTupleIter U Z k1)(g2:s.heap.IsTupleIter W t2 k2)(q1:s.heap.IsTuple Z xs)(q2:s.heap.IsTuple t2 ys)(en:xs[k1]?=none∨ys[k2]?=none)
  (k:∀ h',(∀ c o,c≠z->c≠B->c≠U->c≠W->s.heap.get? c=some o->h'.get? c=some o)->Q none {s with heap:=h'}):wpAny (model prog w) A (pyNext (.ref z)) Q E s:=by
 obtain⟨nd,m1,m2⟩:=D;simp only [tf,gl,fj,dr,not_or,cX,and_true,dU]at nd m1 m2;obtain⟨⟨a1,a2,a3,a4⟩,⟨b1,b2,b3⟩,⟨c1,c2⟩,d1⟩:=nd;obtain⟨e1,e2,e3,e4,e5⟩:=m1;obtain⟨f1,f2,f3,f4,f5⟩:=m2;have tz:s.TypeIs (.ref z) "zip":=⟨_,Y,rfl⟩;have fin:∀(h':Heap) (e:Addr),(∀ c o,c≠z->c≠B->c≠U->c≠W->s.heap.get? c=some o->h'.get? c=some o)->(∃ o,h'.get? e=some o/\o.cls=.type "StopIteration") ->
   wpAny (model prog w) A (do if <- isInstance (.ref e) (.type "StopIteration")then pure none else throw (.ref e)) Q E {s with heap:=h'}:=fun h' e kp ⟨o,ho,hc⟩ =>
  g6 (wpAny_isInstance (T:="StopIteration") (b:=true) ⟨o,ho,hc⟩ isSubtype_stop (gk (k h' kp)))
 unfold pyNext;refine g6 (cc (tX (name:=Str.ofString "__next__") tz c6 (fF c6 tz PySem.F.entry_zip_next ?_ (PySem.F.args_zip_next_1 _))));show wpAny _ _ (field (.ref z) 2 >>= _) _ _ _;refine g6 (tK Y rfl (x:=.bool false) rfl ?_);show wpAny _ _ (field (.ref z) 3 >>= _) _ _ _;refine g6 (tK Y rfl (x:=.ref O) rfl (g6 (fR gI rfl ?_)));show wpAny _ _ (Builtin.SmallTypes.ownedTupleIsFree (.ref z) >>= _) _ _ _;refine g6 ?_;unfold Builtin.SmallTypes.ownedTupleIsFree;refine g6 (tK Y rfl (x:=.none) rfl (gk ?_));simp only [dz];refine g6 (cC (g6 (tK Y rfl (x:=.ref B) rfl (g6 (pi Y (by simp) fun h1 z1 s1=>?_)))))
 replace z1:IsZip h1 z O B .ellipsis:=z1
 refine g6 ?_;simp only [List.zipIdx_cons,List.zipIdx_nil,dB,List.forIn_nil];refine g6 (g6 (dX ?_));show wpAny _ _ (Builtin.SmallTypes.nextOf (.ref U) >>= _) _ _ _;cases ex:xs[k1]? with
 | none =>
  refine g6 (Xi hh (g1.extBut s1.extBut (hG a3)) (q1.extBut s1.extBut e1) ex fun h2 er s2 ⟨oe,w1,w2⟩=>?_)
  have z2:IsZip h2 z O B .ellipsis:=s2 _ _ a3 z1;have nz:er≠z:=fun q=>by subst q;rw [z2]at w1;cases w1;simp at w2
  refine pi z2 (by simp) fun h3 _ s3=>fin h3 er (fun c o n1 _ n3 _ q=>s3.extBut _ _ n1 (s2 _ _ n3 (s1.extBut _ _ n1 q))) ⟨oe,s3.extBut _ _ nz w1,w2⟩
 | some x =>
  have ey:ys[k2]?=none:=en.resolve_left (by rw [ex];exact fun q=>nomatch q)
  refine g6 (Z7 (g1.extBut s1.extBut (hG a3)) (q1.extBut s1.extBut e1) ex fun h2 w2 s2=>gk ?_)
  have o2:IsPair h2 B a b:=s2.extBut _ _ c1 (s1.extBut _ _ (hG a2) gO);refine g6 (fR o2 rfl (g6 (dh o2 fun h3 o3 s3=>g6 (pY (gk (g6 (g6 (dX ?_))))))))
  show wpAny _ _ (Builtin.SmallTypes.nextOf (.ref W) >>= _) _ _ _;refine g6 (Xi hh (((g2.extBut s1.extBut (hG a4)).extBut s2.extBut (hG d1)).extBut s3.extBut (hG c2)) (((q2.extBut s1.extBut f1).extBut s2.extBut f4).extBut s3.extBut f3) ey fun h4 er s4 ⟨oe,w1,w2⟩=>?_)
  have z4:IsZip h4 z O B .ellipsis:=s4 _ _ a4 (s3.extBut _ _ a2 (s2.extBut _ _ a3 z1));have nz:er≠z:=fun q=>by subst q;rw [z4]at w1;cases w1;simp at w2
  refine pi z4 (by simp) fun h5 _ s5=>fin h5 er (fun c o n1 n2 n3 n4 q=>s5.extBut _ _ n1 (s4 _ _ n4 (s3.extBut _ _ n2 (s2.extBut _ _ n3 (s1.extBut _ _ n1 q))))) ⟨oe,s5.extBut _ _ nz w1,w2⟩
theorem qcQ(z B:Addr)(xs ys:Array Value):Meets (Builtin.«zip.__new__» ⟨[.type "zip",.ref z,.ref B],[]⟩) (fun _ R s=>s.heap.IsTuple z xs/\s.heap.IsTuple B ys /\
   ∀ h',IsZip h' (s.heap.objs.size+4) (s.heap.objs.size+2) (s.heap.objs.size+3) .none->IsPair h' (s.heap.objs.size+2) (.ref s.heap.objs.size) (.ref (s.heap.objs.size+1))->IsPair h' (s.heap.objs.size+3) .none .none ->
    h'.IsTupleIter s.heap.objs.size z 0->h'.IsTupleIter (s.heap.objs.size+1) B 0->(∀ c o,s.heap.get? c=some o->h'.get? c=some o)->R (.ok (.ret (.ref (s.heap.objs.size+4)))) {s with heap:=h'}) :=
 .of_wp fun prog w A R s h=>by
  obtain⟨hp,g,d,tk,os⟩:=s;obtain⟨u1,u2,k⟩:=h;have O:=sub_zip;have U1:Heap.IsTuple (Shared.heap ⟨hp,g,d,tk,os⟩) z xs:=u1;have U2:Heap.IsTuple (Shared.heap ⟨hp.push {cls:=.type "tuple_iterator",data:=.fields #[.ref z,.int 0 0]},g,d,tk,os⟩) B ys:=Heap.IsTuple.push u2 _
  wp_walk using dF U1,dF U2
  refine⟨_,rfl,?_⟩;have z1:(hp.push {cls:=.type "tuple_iterator",data:=.fields #[.ref z,.int 0 0]}).objs.size=hp.objs.size+1:=p5 ..;generalize e1:hp.push {cls:=.type "tuple_iterator",data:=.fields #[.ref z,.int 0 0]}=H1 at *;have z2:(H1.push {cls:=.type "tuple_iterator",data:=.fields #[.ref B,.int 0 0]}).objs.size=hp.objs.size+2:=by rw [p5,z1]
  generalize e2:H1.push {cls:=.type "tuple_iterator",data:=.fields #[.ref B,.int 0 0]}=H2 at *;rw [z1];have q2:∀ c o,hp.get? c=some o->H2.get? c=some o:=fun c o q=>by rw [<- e2,<- e1];exact gg _ (gg _ q)
  have ja:H2.get? hp.objs.size=some {cls:=.type "tuple_iterator",data:=.fields #[.ref z,.int 0 0]}:=by rw [<- e2,<- e1];exact gg _ (gH _ rfl)
  have jb:H2.get? (hp.objs.size+1)=some {cls:=.type "tuple_iterator",data:=.fields #[.ref B,.int 0 0]}:=by rw [<- e2,<- z1];exact gH _ rfl
  generalize e3:H2.push {cls:=.type "tuple",data:=.seq #[.ref hp.objs.size,.ref (hp.objs.size+1)]}=H3;have z3:H3.objs.size=hp.objs.size+3:=by rw [<- e3,p5,z2]
  generalize e4:H3.push {cls:=.type "tuple",data:=.seq #[.none,.none]}=H4;have z4:H4.objs.size=hp.objs.size+4:=by rw [<- e4,p5,z3]
  have p3:∀ c o,H2.get? c=some o->H3.get? c=some o:=fun c o q=>by rw [<- e3];exact gg _ q
  have p4:∀ c o,H3.get? c=some o->H4.get? c=some o:=fun c o q=>by rw [<- e4];exact gg _ q
  have w3:H3.get? (hp.objs.size+2)=some {cls:=.type "tuple",data:=.seq #[.ref hp.objs.size,.ref (hp.objs.size+1)]}:=by rw [<- e3,<- z2];exact gH _ rfl
  have w4:H4.get? (hp.objs.size+3)=some {cls:=.type "tuple",data:=.seq #[.none,.none]}:=by rw [<- e4,<- z3];exact gH _ rfl
  have fin:R (.ok (.ret (.ref H4.objs.size))) ⟨H4.push {cls:=.type "zip",data:=.fields #[.none,.bool false,.bool false,.ref H2.objs.size,.ref H3.objs.size]},g,d,tk,os⟩:=by
   rw [z2,z3,z4];have w5:(H4.push {cls:=.type "zip",data:=.fields #[.none,.bool false,.bool false,.ref (hp.objs.size+2),.ref (hp.objs.size+3)]}).get? (hp.objs.size+4)=some {cls:=.type "zip",data:=.fields #[.none,.bool false,.bool false,.ref (hp.objs.size+2),.ref (hp.objs.size+3)]}:=by
    rw [<- z4];exact gH _ rfl
   exact k _ w5 (gg _ (p4 _ _ w3)) (gg _ w4) ⟨_,gg _ (p4 _ _ (p3 _ _ ja)),rfl,rfl⟩ ⟨_,gg _ (p4 _ _ (p3 _ _ jb)),rfl,rfl⟩ fun c o q=>gg _ (p4 _ _ (p3 _ _ (q2 c o q)))
  rw [<- e4,<- e3]at fin;exact fin
end
section
variable{prog:Program}{w:World}{A:Around}{E:Value->Shared->Prop}{s:Shared}
theorem qcR{z B:Addr}{xs ys:Array Value}{Q:Value->Shared->Prop}(U:s.heap.IsTuple z xs)(W:s.heap.IsTuple B ys)
  (k:∀ h',IsZip h' (s.heap.objs.size+4) (s.heap.objs.size+2) (s.heap.objs.size+3) .none->IsPair h' (s.heap.objs.size+2) (.ref s.heap.objs.size) (.ref (s.heap.objs.size+1))->IsPair h' (s.heap.objs.size+3) .none .none ->
    h'.IsTupleIter s.heap.objs.size z 0->h'.IsTupleIter (s.heap.objs.size+1) B 0->(∀ c o,s.heap.get? c=some o->h'.get? c=some o)->Q (.ref (s.heap.objs.size+4)) {s with heap:=h'}) :
  wpAny (model prog w) A (call (.type "zip") [.ref z,.ref B]) Q E s :=
 callType_new PySem.F.called_zip (by decide) (PySem.F.typeCall_zip_2 _ _) (PySem.F.newCall_zip_2 _ _) (fun O=>PySem.F.args_object_init_3 O _ _) PySem.F.entry_zip_new (qcQ z B xs ys)
  ⟨U,W,fun h' b1 b2 b3 b4 b5 b6=>⟨⟨_,b1,rfl⟩,k h' b1 b2 b3 b4 b5 b6⟩⟩
end
def Itz(K:Frag)(a b:Addr):It :=
 ⟨fun i H=>∃ xs x ys y,SqT K H a xs/\xs[i]?=some x/\SqT K H b ys/\ys[i]?=some y,fun i H v H'=>∃ p x y,H p=none/\v=.ref p/\H'=upd H p (.tup [x,y])/\(∀ xs,SqT K H a xs->xs[i]?=some x)/\∀ ys,SqT K H b ys->ys[i]?=some y,
  fun i H=>∃ xs ys,SqT K H a xs/\SqT K H b ys/\(xs.length<=i∨ys.length<=i)⟩
theorem kI{h:Heap}{a:Addr}{vs:Array Value}(p:IsTup h a vs):h.IsTuple a vs:=p
theorem qcS{P:Program}{w:World}{K:Frag}{es:List Expr}{k:Nat}{tp:Pos}(a b z B U W Y:Addr)(D:ZA z B U W Y a b) :
  Turn P w K (.Tuple es k tp) (Itz K a b) [z,B,U,W,Y] z (fun i h=>IsZip h z B U .none/\IsPair h B (.ref W) (.ref Y)/\(∃ u v,IsPair h U u v)/\h.IsTupleIter W a i/\h.IsTupleIter Y b i)where
 mem:=by simp
 obj:=fun i h ⟨q1,q2,⟨u,v,q3⟩,⟨o4,q4,_,d4⟩,⟨o5,q5,_,d5⟩⟩ c hc=>by
  simp only [gl,fj,dr]at hc;rcases hc with rfl|rfl|rfl|rfl|rfl
  ·exact⟨_,q1,fun v z=>by cases z⟩
  ·exact⟨_,q2,fun v z=>by cases z⟩
  ·exact⟨_,q3,fun v z=>by cases z⟩
  ·exact⟨_,q4,fun v z=>by rw [d4]at z;cases z⟩
  ·exact⟨_,q5,fun v z=>by rw [d5]at z;cases z⟩
 keep:=fun i h h' ⟨q1,q2,⟨u,v,q3⟩,q4,q5⟩ kk=>⟨kk z (by simp) _ q1,kk B (by simp) _ q2,⟨u,v,kk U (by simp) _ q3⟩,q4.at fun o q=>kk W (by simp) o q,q5.at fun o q=>kk Y (by simp) o q⟩
 item:=by
  intro X hP hw hK hc i pins s σ H E I hf ⟨q1,q2,⟨u,v,q3⟩,q4,q5⟩ ⟨xs,x,ys,y,sx,hx,sy,hy⟩;subst hP hw hK;obtain⟨its,rv,p,_⟩:=I.tuple sx;obtain⟨ux,hu,ru⟩:=rv.get hx;obtain⟨its',O,p',_⟩:=I.tuple sy;obtain⟨uy,hu',ru'⟩:=O.get hy;obtain⟨nd,m1,m2⟩:=id D;simp only [tf,gl,fj,dr,not_or,cX,and_true,dU]at nd m1 m2;obtain⟨⟨a1,a2,a3,a4⟩,⟨b1,b2,b3⟩,⟨c1,c2⟩,d1⟩:=nd;refine qcO D q1 q2 q3 q4 q5 (kI p) (kI p') (x:=ux) (y:=uy) (by simpa using hu) (by simpa using hu') fun h1 g1 g2 g3 g4 g5 kp=>⟨_,rfl,?_⟩
  refine wpAny_letOwnedTupleGo_zip (s:={s with heap:=h1}) g1 fun h2 gz sb=>?_
  have Z:s.heap.objs.size≠z:=fU (gv q1);have T2:h2.get? s.heap.objs.size=some {cls:=.type "tuple",data:=.seq #[ux,uy]}:=(sb.2 _ Z).trans g5;refine⟨.ref s.heap.objs.size,upd H s.heap.objs.size (.tup [x,y]),Xg (s:=s) (t':=s.toks) (its:=[ux,uy]) I hf (fun c o nc ho=>?_) (gw _) ⟨_,T2,rfl,_,rfl⟩ (.cons ru (.cons ru' .nil)) (by simp [fm]),rfl,
   ⟨_,x,y,I.hok.fresh (gw _),rfl,rfl,fun zs hz=>by rw [I.tuple_inj hz sx];exact hx,fun zs hz=>by rw [I.tuple_inj hz sy];exact hy⟩,
   ⟨gz,(sb.2 B (hG a1)).trans (kp B _ (hG a1) b1 b2 b3 q2),⟨ux,uy,(sb.2 U (hG a2)).trans g2⟩,g3.at fun o q=>(sb.2 W (hG a3)).trans q,g4.at fun o q=>(sb.2 Y (hG a4)).trans q⟩,fun c hc=>?_⟩
  ·have n1:c≠z:=fun q=>nc (by simp [q])
   exact(sb.2 c n1).trans (kp c o n1 (fun q=>nc (by simp [q])) (fun q=>nc (by simp [q])) (fun q=>nc (by simp [q])) ho)
  ·rw [qt]
   ·exact(hf c hc).1
   ·have lt:∀{c o},s.heap.get? c=some o->c≠s.heap.objs.size:=fun q=>gP (gv q)
    simp only [gl,fj,dr]at hc;rcases hc with rfl|rfl|rfl|rfl|rfl
    ·exact lt q1
    ·exact lt q2
    ·exact lt q3
    ·obtain⟨o,q,_⟩:=q4;exact lt q
    ·obtain⟨o,q,_⟩:=q5;exact lt q
 done:=by
  intro X hP hw hK hc i pins s σ H E I hf ⟨q1,q2,⟨u,v,q3⟩,q4,q5⟩ ⟨xs,ys,sx,sy,hl⟩;subst hP hw hK;obtain⟨its,rv,p,_⟩:=I.tuple sx;obtain⟨its',O,p',_⟩:=I.tuple sy;have l1:=rv.length;have l2:=O.length;refine qcP (I.ok.hd hc) D q1 q2 q3 q4 q5 (kI p) (kI p') (by rcases hl with hl|hl;exact .inl (by simp;omega);exact .inr (by simp;omega)) fun h1 kp=>⟨rfl,Xf (t':=s.toks) I hf fun c o nc ho=>?_⟩
  exact kp c o (fun q=>nc (by simp [q])) (fun q=>nc (by simp [q])) (fun q=>nc (by simp [q])) (fun q=>nc (by simp [q])) ho
 self:=fun _ _ _ _ _ ⟨q1,_⟩ h=>wpAny_pyIter_zip q1 h
def zipd:List D->List D->List D
 | x::xs,y::ys=>.tup [x,y]::zipd xs ys
 | _,_=>[]
theorem Xj:∀(xs ys:List D) (i:Nat) (d:D),(zipd xs ys)[i]?=some d->∃ x y,xs[i]?=some x/\ys[i]?=some y/\d=.tup [x,y]
 | [],_,_,_,h=>by simp [zipd]at h
 | _::_,[],_,_,h=>by simp [zipd]at h
 | x::xs,y::ys,0,d,h=>by simp [zipd]at h;exact⟨x,y,rfl,rfl,h.symm⟩
 | x::xs,y::ys,i+1,d,h=>by
  obtain⟨u,v,e1,e2,e3⟩:=Xj xs ys i d (by simpa [zipd]using h)
  exact⟨u,v,by simpa using e1,by simpa using e2,e3⟩
theorem Xk:∀(xs ys:List D) (i:Nat),(zipd xs ys).length<=i->xs.length<=i∨ys.length<=i
 | [],_,_,_=>.inl (by simp)
 | _::_,[],_,_=>.inr (by simp)
 | x::xs,y::ys,0,h=>by simp [zipd]at h
 | x::xs,y::ys,i+1,h=>by
  have:=Xk xs ys i (by simpa [zipd]using h)
  simpa using this
theorem qcT{κ:Kx}{F1 G:Hp}{a b:Addr}{vs us:List V}{ds es:List D}(h1:SqT κ.K F1 a vs)(z:Reps κ F1 vs ds)(h2:SqT κ.K F1 b us)(B:Reps κ F1 us es):Walk κ (Itz κ.K a b) F1 G (zipd ds es)where
 go:=fun i x F H ed l1 l lg=>by
  obtain⟨d,e,e1,e2,rfl⟩:=Xj ds es i x ed;obtain⟨v,ev,rv⟩:=Reps.get z e1;obtain⟨u,eu,ru⟩:=Reps.get B e2;have q1:=SqT.le l (SqT.le l1 h1);have q2:=SqT.le l (SqT.le l1 h2);refine⟨⟨vs,v,us,u,q1,ev,q2,eu⟩,fun y H' zp=>?_⟩
  obtain⟨p,y1,y2,hp,rfl,rfl,w1,w2⟩:=zp;have z1:=w1 vs q1;rw [ev]at z1;cases z1;have z2:=w2 us q2;rw [eu]at z2;cases z2;have up:Le F (upd F p (.tup [v,u])):=fun c o zp=>by rw [qt (jy zp (Le.none l hp))];exact zp
  exact⟨_,Gr.newF (o:=.tup [v,u]) l hp,p,[v,u],rfl,.inl (.inl qN),_,_,rfl,Rep.le up d (Rep.le l1 d rv),_,_,rfl,Rep.le up e (Rep.le l1 e ru),rfl⟩
 stop:=fun i F H hi l1 l lg=>⟨vs,us,SqT.le l (SqT.le l1 h1),SqT.le l (SqT.le l1 h2),by rw [Reps.length z,Reps.length B];exact Xk ds es i hi⟩
def ud(i j:Nat):IF:=fun ρ=>match ρ[i]?,ρ[j]? with
 | some (some (.fz (.tup ds))),some (some (.fz (.tup es)))=>.ok (zipd ds es)
 | _,_=>.stuck
theorem qcU(i j:Nat){X:Cx}{F0 H0:Hp}{es:List Expr}{k:Nat}{x y:Str}{tp pos pos2 np cp:Pos}(hm:X.mg "zip"=none)(hN:X.N[i]?=some x:=by rfl)(hv:Vis X.env.scope x:=by trivial)(hd:(x==("__debug__":Str))=false:=by decide)
  (U:(x==("__classdict__":Str))=false:=by decide)(W:X.N[j]?=some y:=by rfl)(Y:Vis X.env.scope y:=by trivial)(Z:(y==("__debug__":Str))=false:=by decide)
  (O:(y==("__classdict__":Str))=false:=by decide)(hg:Gl X "zip":=by rfl)(hs:starEach [.Name x pos,.Name y pos2] X.env=(false,eval (.Name x pos) X.env)::starEach [.Name y pos2] X.env:=by rfl)(hs2:starEach [.Name y pos2] X.env=[(false,eval (.Name y pos2) X.env)]:=by rfl)
  (hpl:(backTo cp (starEach [.Name y pos2] X.env)).any (·.1)=false:=by rfl):SI X F0 H0 (.Tuple es k tp) (.Call (.Name "zip" np) [.Name x pos,.Name y pos2] [] cp) (ud i j):=by
 refine⟨fun σ H R=>∃ a b,σ[i]?=some (some (.ref a))/\σ[j]?=some (some (.ref b))/\(∃ xs,SqT X.K H a xs)/\(∃ xs,SqT X.K H b xs)/\R (Itz X.K a b) H,fun pins s σ H R I ⟨a,b,hσ,hσ2,⟨xs,hq⟩,⟨ys,B⟩,hR⟩=>?_,fun σ F H ρ R S h=>?_⟩
 ·refine Call_ (zi I hg hm boot_zip (tt ?_ hs hpl));rw [hs];refine gJ (thn (jn (pos:=pos) hN hv hd U pins s σ H (fun v' H'=>v'=.ref a/\H'=H) I ⟨_,hσ,rfl,rfl⟩) fun u s1 ⟨v1,H1,I1,r1,e1,e2⟩=>?_)
  subst e1 e2;obtain rfl:u=Value.ref a:=r1;rw [hs2];refine gJ (thn (jn (pos:=pos2) W Y Z O pins s1 σ H1 (fun v' H'=>v'=.ref b/\H'=H1) I1 ⟨_,hσ2,rfl,rfl⟩) fun u s2 ⟨v2,H2,I2,r2,e1,e2⟩=>?_)
  subst e1 e2;obtain rfl:u=Value.ref b:=r2;refine t7 ?_;obtain⟨its,rv,p,hz⟩:=I2.tuple hq;obtain⟨its',rv',p',hz'⟩:=I2.tuple B;refine qcR (kI p) (kI p') fun h' g1 g2 g3 g4 g5 kp=>?_
  refine wpAny_pyIter_zip (s:={s2 with heap:=h'}) g1 ?_;have la:a<s2.heap.objs.size:=by obtain⟨o,q,_⟩:=p;exact gv q
  have lb:b<s2.heap.objs.size:=by obtain⟨o,q,_⟩:=p';exact gv q
  have z:∀{t m:Nat},t<m->∀ k,t≠m+k:=fun h k=>gP (gG h (Nat.le_add_right _ _))
  refine⟨_,_,_,_,H2,rfl,I2.kept (t':=s2.toks) kp,qcS a b (s2.heap.objs.size+4) (s2.heap.objs.size+2) (s2.heap.objs.size+3) s2.heap.objs.size (s2.heap.objs.size+1) ⟨by simp,?_,?_⟩,⟨g1,g2,⟨_,_,g3⟩,g4,g5⟩,fun c hc=>?_,hR⟩
  ·simp only [gl,fj,dr,not_or];exact⟨z la 4,z la 2,z la 3,z la 0,z la 1⟩
  ·simp only [gl,fj,dr,not_or];exact⟨z lb 4,z lb 2,z lb 3,z lb 0,z lb 1⟩
  ·have lc:s2.heap.objs.size<=c:=by
    simp only [gl,fj,dr]at hc;rcases hc with rfl|rfl|rfl|rfl|rfl<;>omega
   exact I2.fpOk lc (I2.hok.fresh lc)
 ·unfold ud at h;cases e1:ρ[i]? with
  | none=>rw [e1]at h;exact h.elim
  | some w1 =>
   cases e2:ρ[j]? with
   | none=>rw [e1,e2]at h;cases w1 with|none=>exact h.elim|some w=>cases w<;>first|exact h.elim|(rename_i d;cases d<;>exact h.elim)
   | some w2 =>
    rw [e1,e2]at h;cases w1 with
    | none=>exact h.elim
    | some w1 =>
     cases w1<;>first|exact h.elim|skip
     rename_i d1;cases d1<;>first|exact h.elim|skip
     cases w2 with
     | none=>exact h.elim
     | some w2 =>
      cases w2<;>first|exact h.elim|skip
      rename_i d2;cases d2<;>first|exact h.elim|skip
      obtain⟨v,q1,a,vs,rfl,hq,rs⟩:=S.val i _ e1;obtain⟨v2,q2,b,vs2,rfl,B,rs2⟩:=S.val j _ e2;exact⟨a,b,q1,q2,⟨vs,SqT.le S.s hq⟩,⟨vs2,SqT.le S.s B⟩,h F H _ (Gr.refl S.s) (qcT (κ:=kx X) hq rs B rs2)⟩
open PySem PySem.Spec PyProof.Rows L2
def Z8:List D->R En
 | [.int i]=>if i.natAbs.log2<1920 then .ok (.fz (.str (toString i:String)))else .stuck
 | _=>.stuck
section
variable{X:Cx}
theorem qcV:zD X (.type "str") Z8:=by
 intro pins s σ F H xs us ds Q I l rv qs w;cases qs with
 | nil=>exact w.elim
 | cons q r =>
  rename_i d _ _;cases r with
  | cons q2 r2=>cases d<;>exact w.elim
  | nil =>
   cases d<;>first|exact w.elim|skip
   rename_i i;unfold Z8 at w;dsimp only at w;by_cases c:i.natAbs.log2<1920
   ·rw [gB c]at w;cases RdV.int q;exact GV pins s σ H _ us Q I rv ⟨i,rfl,c,qZ l (v:=.str _) w rfl⟩
   ·rw [gD c]at w;exact w.elim
end
section
variable{X:Cx}
theorem Xl:zD X (.type "tuple") Jp:=ko Tx fun F H xs ds Q l qx w=>by
 cases qx with
 | nil=>exact w.elim
 | @cons x d xs ds q1 q2 =>
  cases q2 with
  | cons _ _=>cases d<;>exact w.elim
  | nil =>
   cases d<;>first|exact w.elim|skip
   ·obtain⟨p,vs,rfl,hq,B,rs⟩:=RdV.tup l q1;exact⟨p,vs,rfl,.inr ⟨hq,w _ F H (Gr.refl l) ⟨p,vs,rfl,B,rs⟩⟩⟩
   ·obtain⟨p,vs,rfl,hq,rs⟩:=RdV.lst l q1;refine⟨p,vs,rfl,.inl ⟨hq,fun q hn=>?_⟩⟩
    have up:Le F (upd F q (.tup vs)):=fun c o z=>by rw [qt (jy z (Le.none l hn))];exact z
    exact w _ _ _ (Gr.newF (o:=.tup vs) l hn) ⟨q,vs,rfl,.inl (.inl qN),Reps.le up _ rs⟩
end
def Z9(K:Frag)(C:Addr):Bool:=match PySem.W.clsIn K C with
 | some cd=>vk cd.mro&&cd.hasDict
 | none=>false
theorem zH{K:Frag}{C:Addr}(h:Z9 K C=true):∃ cd,PySem.W.clsIn K C=some cd/\vk cd.mro=true/\cd.hasDict=true:=by
 unfold Z9 at h;split at h
 ·rename_i cd e;rw [gK]at h;exact⟨cd,e,h.1,h.2⟩
 ·cases h
def Za(s:Stmt):List Stmt:=match s with
 | .ClassDef _ _ _ b _ _ _ _ _ _ _=>b
 | _=>[]
open PySem PySem.Spec PyProof.Rows L2
theorem qcW:typeLookup (.type "list_reverseiterator") "__len__"=pure none:=by rw [typeLookup_type,builtinLookup_eq_fast];kernel_rfl
theorem qcX:typeLookup (.type "list_reverseiterator") "__length_hint__"=pure (some (.builtin "list_reverseiterator.__length_hint__")):=by rw [typeLookup_type,builtinLookup_eq_fast];kernel_rfl
theorem qcY:isSubtype (.type "list_reverseiterator") (.type "list_reverseiterator")=pure true:=by rw [isSubtype_type];kernel_rfl
theorem qcZ:splitId "list_reverseiterator.__length_hint__"=some ("list_reverseiterator","__length_hint__"):=by decide +kernel
section
variable{prog:Program}{w:World}{A:Around}{E:Value->Shared->Prop}{s:Shared}{I l:Addr}{items:Array Value}
theorem qd0{R:Result->Shared->Prop}{S:Addr}{z:Nat}(U:A.in1.handled=none)(Y:s.heap.IsList l items)(O:s.heap.IsRevIter I l ((items.size:Int)-1))(Z:l≠I)(s1:S≠l)(s2:S≠I)(hn:items.size<=sizeLine)
  (gS:s.heap.get? S=some ⟨.type "list",none,.seq #[] z,#[]⟩)
  (hR:∀ s' B c',Moved [S,I] (fun a b=>b=a) s s'->s'.heap.get? S=some {cls:=.type "list",dict:=none,data:=.seq B c',slots:=#[]}->ItemsOf (fun i v=>items[items.size-1-i]?=some v) B items.size->R (.ok (.ret .none)) s') :
  wpAny (model prog w) A.in1 (Builtin.List.listExtendWith (.ref S) (.ref I) .none)
   (fun y t=>match y with|.done f=>R (.ok f) t|.again q=>q.quiet=true/\codeAny (model prog w) A q R t) (fun e t=>R (.error e) t) s:=by
 have W:=(Walks.listRev (prog:=prog) (w:=w) (A:=A.in1) U I l Z items).toS;have T:=O.typeIs;unfold Builtin.List.listExtendWith;refine g6 (wpAny_typeOf T ?_);have q1:Builtin.List.listSameRef (.ref S) (.ref I)=false:=by simp [Builtin.List.listSameRef,s2]
 have q2:(Value.type "list_reverseiterator"==Value.type "list")=false:=by decide
 have q3:(Value.type "list_reverseiterator"==Value.type "tuple")=false:=by decide
 simp only [q1,q2,q3,Bool.or_false,hX,fP];refine g6 (dj O ?_);refine g6 (tL ?_);unfold Builtin.List.listLengthHint;refine g6 (wpAny_specialOf T qcW ?_);refine g6 (wpAny_specialOf T qcX ?_);simp only [qcZ];refine g6 (wpAny_isInstance T qcY ?_);refine gk ?_;refine gk ⟨dq F.plain_extend_loop _,codeAny_extend_loopS W hn S (by simp [s1,s2]) .none items.size 0 s #[] z rfl (tZ _) ⟨tZ _,by simpa using O,Y⟩ gS (ItemsOf.nil _) hR⟩
theorem qd1{K:Value->Shared->Prop}(U:A.handled=none)(B:s.heap.IsList l items)(O:s.heap.IsRevIter I l ((items.size:Int)-1))(W:l≠I)(Y:items.size<=sizeLine)
  (Z:∀ h' tk c,(∀ b o,b≠I->s.heap.get? b=some o->h'.get? b=some o)->h'.get? s.heap.objs.size=some {cls:=.type "list",dict:=none,data:=.seq items.toList.reverse.toArray c,slots:=#[]}->K (.ref s.heap.objs.size) {s with heap:=h',toks:=tk}) :
  wpAny (model prog w) A (call (.type "list") [.ref I]) K E s:=by
 obtain⟨oI,gI,rI⟩:=id O;obtain⟨oL,gL,rL⟩:=id B;have nI:s.heap.objs.size≠I:=fU (gv gI);have nL:s.heap.objs.size≠l:=fU (gv gL);refine callType_codes (Q₁:=fun ob t=>ob=.ref s.heap.objs.size/\t={s with heap:=s.heap.push {cls:=.type "list",data:=.seq #[]}}) F.called_list (F.typeCall_list_1 _) F.entry_list_init (code_list_new _ ⟨rfl,rfl⟩) fun ob t h1=>?_
 obtain⟨rfl,rfl⟩:=h1;have gS:(s.heap.push {cls:=.type "list",data:=.seq #[]}).get? s.heap.objs.size=some {cls:=.type "list",data:=.seq #[]}:=gH _ rfl;refine⟨⟨_,gS,rfl⟩,F.args_list_init_2 _ _,?_⟩;refine g6 (m:=Builtin.List.listItems (.ref s.heap.objs.size)) (wpAny_listItems gS rfl (g6 (m:=updateSeq s.heap.objs.size (fun _=>#[])) (dC gS rfl (g6 (pY ?_)))))
 have g2:=tq (Obj.mapSeq (fun _=>(#[]:Array Value))) gS rfl
 have kp:∀ b o,b≠s.heap.objs.size->s.heap.get? b=some o->((s.heap.push {cls:=.type "list",data:=.seq #[]}).update s.heap.objs.size (Obj.mapSeq (fun _=>(#[]:Array Value)))).get? b=some o :=
  fun b o nb e=>(t5 _ _ (hG nb)).trans (gg _ e)
 refine qd0 (A:=A.in1) U (B.at fun o e=>kp l o (hG nL) e) (O.at fun o e=>kp I o (hG nI) e) W nL nI Y g2 fun s' z c mv gA ia=>⟨rfl,?_⟩
 have ea:z=items.toList.reverse.toArray:=by
  refine Array.ext_getElem? fun i=>?_
  by_cases c:i<items.size
  ·have:=ia.2 i (z[i]'(by rw [ia.1];exact c)) (Array.getElem?_eq_getElem _)
   rw [Array.getElem?_eq_getElem (by rw [ia.1];exact c),<- this]
   simp only [List.getElem?_toArray];rw [List.getElem?_reverse (by simpa using c)]
   simp
  ·rw [cP (by rw [ia.1];omega),cP (by simp;omega)]
 subst ea;obtain⟨h',g',d',t',os'⟩:=s';obtain⟨mh,mg,md,mo,mt⟩:=mv;dsimp only at mh mg md mo gA;subst mg md mo;exact Z h' t' c (fun b o nb e=>mh b o (by simp [nb,gP (gv e)]) (kp b o (gP (gv e)) e)) gA
end
def Zb(f:EF):EF:=fun ρ=>(f ρ).bind fun w=>match w.d with
 | .lst ds=>.ok (.ow (.lst ds.reverse))
 | _=>.stuck
theorem Xm{κ:Kx}{F:Hp}:∀{ds:List D} {vs:List V},Reps κ F vs ds->Reps κ F vs.reverse ds.reverse
 | [],vs,h=>by cases (show vs=[]from h);exact h
 | d::r,vs,h=>by
  obtain⟨v,us,rfl,q1,q2⟩:=h;simp only [dP];exact Reps.append (Xm q2) (Reps.one q1)
section
variable{X:Cx}{F0 H0:Hp}{p p2 c1 c2:Pos}
theorem qd2{e:Expr}{f:EF}(Y:SE X F0 H0 e f)(Z:X.mg "list"=none)(B:X.mg "reversed"=none)(hc:X.calm=true:=by rfl)(hg:Gl X "list":=by rfl)(O:Gl X "reversed":=by rfl)
  (U:starEach [e] X.env=[(false,eval e X.env)]:=by rfl)(z:starEach [.Call (.Name "reversed" p2) [e] [] c2] X.env=[(false,eval (.Call (.Name "reversed" p2) [e] [] c2) X.env)]:=by rfl) :
  SE X F0 H0 (.Call (.Name "list" p) [.Call (.Name "reversed" p2) [e] [] c2] [] c1) (Zb f):=by
 intro pins s σ F H ρ Q S I h;refine hV (zi I hg Z fL (tt ?_ z rfl));rw [z];refine gJ ?_;refine hV (zi I O B PyProof.Rows.boot_reversed (tt ?_ U rfl));rw [U];refine gJ (Y pins s σ F H ρ _ S I ((KE.bind h).imp fun w k v u F1 H1 s1 g1 q1 r1 I1=>t7 ?_))
 have qx:=Vok.rd q1
 revert k qx
 generalize w.d=d;intro k qx;cases d<;>first|exact k.elim|skip
 rename_i ds;obtain⟨a,vs,rfl,hq,rs⟩:=RdV.lst g1.s qx;cases r1;obtain⟨its,rv,pl,hz⟩:=I1.list hq;have hl:=pl.isList;have W:=rv.length;refine call_reversed_list hl (t7 ?_);have na:a≠s1.heap.objs.size:=by
  obtain⟨o,go,_⟩:=hl;exact gP (gv go)
 refine qd1 (I:=s1.heap.objs.size) (l:=a) (items:=its.toArray) (I1.ok.hd hc) (hl.at fun o e=>gg _ e) ⟨_,gH _ rfl,rfl,rfl⟩ na (by rw [gQ];omega) fun h' tk c kp gA=>?_
 have lt:s1.heap.objs.size<=(s1.heap.push (revObj a ((its.toArray.size:Int)-1))).objs.size:=by rw [p5];exact cV _
 have hn:=I1.hok.fresh lt;refine k (.ref _) _ F1 _ _ (g1.trans (Gr.new g1.s hn)) ⟨_,.lst vs.reverse,rfl,Le.none g1.h hn,Le.none g1.s hn,qN,Xm rs⟩ rfl (I1.laid (t':=tk) (fun b o e=>kp b o (gP (gv e)) (gg _ e)) lt ?_)
 exact⟨by simpa using hz,its.reverse,c,rv.reverse,by simpa using gA⟩
end
open PySem PySem.Spec PyProof.Rows L2
section
variable{X:Cx}
end
section
variable{X:Cx}{F0 H0:Hp}{pos:Pos}
end
section
open PySem.SeqAt PySem.MeetsSeq PySem.MeetsSeq2 PySem.MeetsSeq3
open PySem.AutoSeq1 (wpAny_loadPart')
end
section
variable{X:Cx}
end
open PySem PySem.Spec PyProof.Rows L2
def fzIn(F H:Hp)(bs:List Addr):Hp:=fun a=>if a∈bs then H a else F a
section
variable{κ:Kx}{F0 H0 F H:Hp}{ρ:Rho}{σ:St}
theorem Inn.repT{G:Hp}:∀{bs:List Addr} {kds:List (List (Sum Int Str)×D)},Inn κ H0 F H bs (kds.map Prod.snd)->(∀ b∈bs,G b=H b)->Le F G->RepT κ G ((kds.map Prod.fst).zip (bs.map V.ref)) kds
 | [],[],_,_,_=>rfl
 | [],_::_,h,_,_=>h.elim
 | _::_,[],h,_,_=>h.elim
 | b::bs,(k0,e)::es,h,k,l=>by
  obtain⟨⟨us,xs,e1,_,_,hh,r⟩,h⟩:=h;simp only at e1;subst e1;exact⟨.ref b,(es.map Prod.fst).zip (bs.map V.ref),rfl,⟨b,us,rfl,SqL.of ((k b (by simp)).trans hh),Reps.le l _ r⟩,Inn.repT h (fun c m=>k c (gp _ m)) l⟩
theorem Inn.len:∀{bs:List Addr} {ds:List D},Inn κ H0 F H bs ds->bs.length=ds.length
 | [],[],_=>rfl
 | [],_::_,h=>h.elim
 | _::_,[],h=>h.elim
 | b::bs,e::es,h=>by rw [gU,gU,Inn.len h.2]
theorem StOk.shutG{i:Nat}{d d':D}(S:StOk κ F0 H0 F H ρ σ)(ei:ρ[i]?=some (some (.od d)))
  (ow:∀ a bs o,Deep κ H0 F H a bs d->(∀ c∈bs,fzIn F H bs c=H c)->Le F (fzIn F H bs)->H a=some o->OwnO κ (fzIn F H bs) o d'):∃ F',Le F F'/\StOk κ F0 H0 F' H (ρ.set i (some (.ow d'))) σ:=by
 obtain⟨sh,a,bs,si,h0,hf,nd,dp,sp⟩:=S.dp i d ei;have na:a∉bs:=(tf.mp nd).1;have B:∀{c},c∉bs->fzIn F H bs c=F c:=fun{c} n=>gD n
 have inn:∀{c},c∈bs->fzIn F H bs c=H c:=fun{c} n=>gB n
 have l:Le F (fzIn F H bs):=fun c u h=>by
  by_cases m:c∈bs
  ·rw [inn m];exact S.s c u h
  ·rw [B m];exact h
 have own:∀{o:HO},H a=some o->OwnO κ (fzIn F H bs) o d':=fun{o} ho=>ow a bs o dp (fun c m=>inn m) l ho
 refine⟨fzIn F H bs,l,⟨⟨Le.trans S.gr.f l,S.gr.h,fun c u h=>?_,fun c h=>?_⟩,by simpa using S.len,fun j w e=>?_,fun j k w w' c U ej ek oj ok sj sk=>?_,fun j y e=>?_⟩⟩
 ·by_cases m:c∈bs
  ·rw [inn m]at h;exact h
  ·rw [B m]at h;exact S.s c u h
 ·by_cases m:c∈bs
  ·obtain⟨us,z,_⟩:=Deep.inn dp m;exact .inr (.inl z)
  ·rw [B m]at h;exact S.gr.n c h
 ·rcases qE e with⟨rfl,z⟩|⟨ne,z⟩
  ·cases z;obtain⟨o,ho,_⟩:=Deep.top dp;exact⟨_,si,a,o,rfl,h0,by rw [B na];exact hf,ho,own ho⟩
  ·obtain⟨v,e1,q⟩:=S.val j w z;refine⟨v,e1,?_⟩;have nb:∀{c},v=.ref c->w.own=true->c∉bs:=fun{c} ev ow m=>by
    subst ev;exact sp j w c ne z ow (gp _ m) e1
   cases w with
   | fz d=>exact Rep.le l d q
   | br d=>obtain⟨c,oc,ec,eh,cr⟩:=q;exact⟨c,oc,ec,eh,OwnO.le l cr⟩
   | ow d=>obtain⟨c,oc,ec,c0,cf,ch,cr⟩:=q;exact⟨c,oc,ec,c0,by rw [B (nb ec rfl)];exact cf,ch,OwnO.le l cr⟩
   | lk d=>exact⟨Rep.le l d q.1,RawT.le l q.2⟩
   | od d=>exact(sh j d ne z).elim
 ·have O:∀{m:Nat} {y:En},(ρ.set i (some (.ow d')))[m]?=some (some y)->y.own=true->∃ y',ρ[m]?=some (some y')/\y'.own=true:=fun{m y} h oy=>by
   rcases qE h with⟨rfl,_⟩|⟨_,z⟩
   ·exact⟨_,ei,rfl⟩
   ·exact⟨y,z,oy⟩
  obtain⟨y,W,Y⟩:=O ej oj;obtain⟨y',Z,ok'⟩:=O ek ok;exact S.sep j k y y' c U W Z Y ok' sj sk
 ·rcases qE e with⟨_,z⟩|⟨ne,z⟩
  ·cases z
  ·exact(sh j y ne z).elim
theorem StOk.shut{i:Nat}{d:D}(S:StOk κ F0 H0 F H ρ σ)(B:ρ[i]?=some (some (.od d)))(O:∀ k,d≠.dK k)(U:∀ k,d≠.tup k):∃ F',Le F F'/\StOk κ F0 H0 F' H (ρ.set i (some (.ow d))) σ :=
 S.shutG B fun a bs o dp z l ho=>by
  cases d<;>first|exact(False.elim dp)|exact(O _ rfl).elim|exact(U _ rfl).elim|skip
  ·have e:=dp.1;rw [ho]at e;cases e;exact Inn.reps dp.2 (fun b m=>z b m) l
  ·have e:=dp.1;rw [ho]at e;cases e;exact Inn.repT dp.2 (fun b m=>z b m) l
def wq(i:Nat)(ρ:Rho):Bool:=(ρ.set i none).all fun o=>match o with|some (.od _)=>false|_=>true
theorem Xn{i:Nat}(h:wq i ρ=true):shal i ρ:=fun j d hj e=>by
 have m:(ρ.set i none)[j]?=some (some (.od d)):=by rw [gM (hG hj)];exact e
 have:=p9.mp h _ (tY m);cases this
theorem StOk.open0{i:Nat}{d:D}(S:StOk κ F0 H0 F H ρ σ)(W:ρ[i]?=some (some (.ow d)))(hd:d=.lst []∨d=.dT [])(sh:shal i ρ):StOk κ F0 H0 F H (ρ.set i (some (.od d))) σ:=by
 obtain⟨v,si,a,o,rfl,h0,hf,hh,ro⟩:=S.val i _ W;have dp:Deep κ H0 F H a [] d:=by
  rcases hd with rfl|rfl
  ·cases o<;>first|exact ro.elim|skip
   cases (show _=[]from ro)
   exact⟨hh,trivial⟩
  ·cases o<;>first|exact ro.elim|skip
   cases (show _=[]from ro)
   exact⟨hh,trivial⟩
 have B:∀{m:Nat} {y:En},(ρ.set i (some (.od d)))[m]?=some (some y)->y.own=true->∃ y',ρ[m]?=some (some y')/\y'.own=true:=fun{m y} h oy=>by
  rcases qE h with⟨rfl,_⟩|⟨_,z⟩
  ·exact⟨_,W,rfl⟩
  ·exact⟨y,z,oy⟩
 refine⟨S.gr,by simpa using S.len,fun j w e=>?_,fun j k w w' c Y ej ek oj ok sj sk=>?_,fun j y e=>?_⟩
 ·rcases qE e with⟨rfl,z⟩|⟨ne,z⟩
  ·cases z;exact⟨_,si,a,o,rfl,h0,hf,hh,OwnO.noTup ro⟩
  ·exact S.val j w z
 ·obtain⟨y,Z,oj'⟩:=B ej oj;obtain⟨y',O,U⟩:=B ek ok;exact S.sep j k y y' c Y Z O oj' U sj sk
 ·rcases qE e with⟨rfl,z⟩|⟨ne,z⟩
  ·cases z;refine⟨fun k z hk ek=>?_,a,[],si,h0,hf,by simp,dp,fun k w b hk ek ok m sk=>?_⟩
   ·rcases qE ek with⟨rfl,_⟩|⟨_,q⟩
    ·exact hk rfl
    ·exact sh k z hk q
   ·obtain rfl:b=a:=by simpa using m
    obtain⟨y',O,U⟩:=B ek ok;exact S.sep k j y' _ b hk O W U rfl sk si
  ·exact(sh j y ne z).elim
theorem StOk.turn{i:Nat}{d d':D}{a:Addr}{bs bs':List Addr}{H':Hp}(S:StOk κ F0 H0 F H ρ σ)(ei:ρ[i]?=some (some (.od d)))(si:σ[i]?=some (some (.ref a)))(Z:shal i ρ)
  (sp:∀(j:Nat) (w:En) (b:Addr),j≠i->ρ[j]?=some (some w)->w.own=true->b∈a::bs->σ[j]?≠some (some (.ref b)))
  (B:∀ c,c∉a::bs'->H' c=H c)(sub:∀ b∈bs',b∈bs∨∀(j:Nat) (w:En),ρ[j]?=some (some w)->w.own=true->σ[j]?≠some (some (.ref b)))
  (h0:∀ c∈a::bs',H0 c=none)(hf:∀ c∈a::bs',F c=none)(nd:(a::bs').Nodup)(dp:Deep κ H0 F H' a bs' d'):StOk κ F0 H0 F H' (ρ.set i (some (.od d'))) σ:=by
 have O:∀(j:Nat) (w:En) (b:Addr),j≠i->ρ[j]?=some (some w)->w.own=true->b∈a::bs'->σ[j]?≠some (some (.ref b)):=fun j w b hj ej ow m=>by
  rcases gl.mp m with rfl|m
  ·exact sp j w _ hj ej ow (by simp)
  ·rcases sub b m with z|z
   ·exact sp j w b hj ej ow (gp _ z)
   ·exact z j w ej ow
 have U:∀{m:Nat} {y:En},(ρ.set i (some (.od d')))[m]?=some (some y)->y.own=true->∃ y',ρ[m]?=some (some y')/\y'.own=true:=fun{m y} h oy=>by
  rcases qE h with⟨rfl,_⟩|⟨_,z⟩
  ·exact⟨_,ei,rfl⟩
  ·exact⟨y,z,oy⟩
 have W:∀{c u},H0 c=some u->c∉a::bs':=fun{c u} e m=>by rw [h0 c m]at e;cases e
 have Y:∀{c u},F c=some u->c∉a::bs':=fun{c u} e m=>by rw [hf c m]at e;cases e
 refine⟨⟨S.gr.f,fun c u h=>(B c (W h)).trans (S.gr.h c u h),fun c u h=>(B c (Y h)).trans (S.s c u h),S.gr.n⟩,by simpa using S.len,fun j w e=>?_,fun j k w w' c hjk ej ek oj ok sj sk=>?_,fun j y e=>?_⟩
 ·rcases qE e with⟨rfl,z⟩|⟨ne,z⟩
  ·cases z;obtain⟨o,ho,nt⟩:=Deep.top dp;exact⟨_,si,a,o,rfl,h0 a (by simp),hf a (by simp),ho,nt⟩
  ·obtain⟨v,e1,q⟩:=S.val j w z;refine⟨v,e1,?_⟩;have nb:∀{c},v=.ref c->w.own=true->c∉a::bs':=fun{c} ev ow m=>by
    subst ev;exact O j w c ne z ow m e1
   cases w with
   | fz d=>exact q
   | br d=>exact q
   | ow d=>obtain⟨c,oc,ec,c0,cf,ch,cr⟩:=q;exact⟨c,oc,ec,c0,cf,(B c (nb ec rfl)).trans ch,cr⟩
   | lk d=>exact q
   | od d=>exact(Z j d ne z).elim
 ·obtain⟨y,ej',oj'⟩:=U ej oj;obtain⟨y',ek',ok'⟩:=U ek ok;exact S.sep j k y y' c hjk ej' ek' oj' ok' sj sk
 ·rcases qE e with⟨rfl,z⟩|⟨ne,z⟩
  ·cases z;refine⟨fun k z hk ek=>?_,a,bs',si,h0 a (by simp),hf a (by simp),nd,dp,fun k w b hk ek ok m=>?_⟩
   ·rcases qE ek with⟨rfl,_⟩|⟨_,q⟩
    ·exact hk rfl
    ·exact Z k z hk q
   ·rcases qE ek with⟨rfl,_⟩|⟨_,q⟩
    ·exact(hk rfl).elim
    ·exact O k w b hk q ok m
  ·exact(Z j y ne z).elim
theorem Inn.app{b:Addr}{y:V}{d:D}(U:Rep κ F y d):∀{bs:List Addr} {ds:List D} {k:Nat},Inn κ H0 F H bs ds->bs.Nodup->bs[k]?=some b ->
  ∃ us xs,ds[k]?=some (.lst xs)/\H b=some (.lst us)/\us.length=xs.length/\Inn κ H0 F (upd H b (.lst (us++[y]))) bs (ds.set k (.lst (xs++[d])))
 | [],_,_,_,_,e=>by simp at e
 | _::_,[],_,h,_,_=>h.elim
 | c::bs,e::es,0,h,nd,ek=>by
  obtain⟨⟨us,xs,e1,c0,cf,ch,r⟩,h⟩:=h;obtain rfl:c=b:=by simpa using ek
  subst e1;have nb:=(tf.mp nd).1;refine⟨us,xs,rfl,ch,Reps.length r,⟨us++[y],xs++[d],rfl,c0,cf,qN,Reps.append r (Reps.one U)⟩,?_⟩;exact Inn.same (G:=H) (G':=H) (fun x m=>(qt fun z:x=c=>nb (by rw [<- z];exact m)).symm) (fun _ _ z=>z) Le.refl h
 | c::bs,e::es,k+1,h,nd,ek=>by
  obtain⟨⟨us,xs,e1,c0,cf,ch,r⟩,h⟩:=h;obtain⟨nb,nd⟩:=tf.mp nd;obtain⟨B,O,q1,q2,q3,q4⟩:=Inn.app U (k:=k) h nd (by simpa using ek)
  have mb:b∈bs:=tY (i:=k) (by simpa using ek)
  exact⟨B,O,by simpa using q1,q2,q3,⟨us,xs,e1,c0,cf,(qt fun z:c=b=>nb (by rw [z];exact mb)).trans ch,r⟩,q4⟩
theorem Inn.snoc{b:Addr}{us:List V}{xs:List D}(h0:H0 b=none)(z:F b=none)(B:H b=some (.lst us))(r:Reps κ F us xs):∀{bs:List Addr} {ds:List D},Inn κ H0 F H bs ds->Inn κ H0 F H (bs++[b]) (ds++[.lst xs])
 | [],[],_=>⟨⟨us,xs,rfl,h0,z,B,r⟩,trivial⟩
 | [],_::_,h=>h.elim
 | _::_,[],h=>h.elim
 | _::_,_::_,h=>⟨h.1,Inn.snoc h0 z B r h.2⟩
end
def scal:D->Bool
 | .non=>true
 | .bl _=>true
 | .int _=>true
 | .str _=>true
 | _=>false
def Xo:En->R En
 | .fz x=>if scal x=true then .ok (.fz x)else .stuck
 | _=>.stuck
def Qn(i:Nat)(e:EF):EF:=fun ρ=>match ρ[i]? with
 | some (some (.od (.dK _)))=>.stuck
 | some (some (.od (.tup _)))=>.stuck
 | some (some (.od d))=>(e (ρ.set i (some (.ow d)))).bind Xo
 | _=>.stuck
section
variable{X:Cx}{F0 H0:Hp}{pos pos':Pos}
theorem Xp(i:Nat){e:Expr}{f:EF}(B:SE X F0 H0 e f):SE X F0 H0 e (Qn i f):=by
 intro pins s σ F H ρ Q S I h;unfold Qn at h;split at h
 ·exact h.elim
 ·exact h.elim
 ·rename_i d nk nt ei;obtain⟨F',l,S'⟩:=S.shut ei (fun k z=>nk k (by rw [z])) (fun k z=>nt k (by rw [z]))
  refine B pins s σ F' H _ _ S' I ((KE.bind h).imp fun w k v u F2 H2 s2 g q r I2=>?_)
  cases w<;>first|exact k.elim|skip
  rename_i x;unfold Xo at k;dsimp only at k;by_cases c:scal x=true
  ·rw [gB c]at k;refine k v u F H2 s2 ⟨Le.refl,g.h,Le.trans S.s g.h,fun _ z=>.inl z⟩ ?_ r I2
   cases x<;>first|exact q|cases c
  ·rw [gD c]at k;exact k.elim
 ·exact h.elim
def shut(i:Nat)(ρ:Rho):Rho:=match ρ[i]? with
 | some (some (.od (.dK _)))=>ρ
 | some (some (.od (.tup _)))=>ρ
 | some (some (.od d))=>ρ.set i (some (.ow d))
 | _=>ρ
def Qo(i:Nat)(s:SF):SF:=fun ρ=>s (shut i ρ)
theorem Xq{st:Stmt}{f:SF}(i:Nat)(h:SS X F0 H0 st f):SS X F0 H0 st (Qo i f):=by
 intro pins s σ F H ρ D S I k;unfold Qo L3.shut at k;split at k
 ·exact h pins s σ F H ρ D S I k
 ·exact h pins s σ F H ρ D S I k
 ·rename_i d nk nt e;obtain⟨F',l,S'⟩:=S.shut e (fun k z=>nk k (by rw [z])) (fun k z=>nt k (by rw [z]))
  exact h pins s σ F' H _ D S' I (PostS.le l k)
 ·exact h pins s σ F H ρ D S I k
def Zc(i:Nat)(ρ:Rho):En->Out
 | .ow (.lst [])=>if wq i ρ=true then .nx (ρ.set i (some (.od (.lst []))))else .stuck
 | .ow (.dT [])=>if wq i ρ=true then .nx (ρ.set i (some (.od (.dT []))))else .stuck
 | _=>.stuck
def Qp(i:Nat)(e:EF):SF:=fun ρ=>sOf (e ρ) (Zc i ρ)
theorem Xr(i:Nat){x:Str}{e:Expr}{f:EF}(B:X.N.Nodup)(O:SE X F0 H0 e f)(hi:X.N[i]?=some x:=by rfl)(U:Loc X.env.scope x:=by trivial)
  (W:swapsWith e (some (.Name x pos')) pos.line X.env=pure false:=by rfl)(Y:X.fn x=true∨X.env.scope.names.lookup x=some .local:=by trivial) :
  SS X F0 H0 (.Assign [.Name x pos'] e pos) (Qp i f):=by
 intro pins s σ F H ρ D S I h;refine cT (O pins s σ F H ρ _ S I ((PostS.of h).imp fun w k v u F' H' s' g q r I'=>?_)) W
 have go:∀ d:L3.D,w=.ow d->(d=.lst []∨d=.dT [])->wq i ρ=true->PostS X F0 H0 F D (.nx (ρ.set i (some (.od d))))->wpAny (model X.prog X.w) X.A (storeName X.env x u) (fun _ s2=>SP X pins D .next s2) X.xe s':=fun d ew hd z k3=>by
  subst ew;refine ym I' B hi U r (fun s2 I2=>?_) Y
  have S1:=S.setW (i:=i) g q (w':=.ow d) rfl;by_cases hl:i<ρ.length
  ·have e1:(ρ.set i (some (.ow d)))[i]?=some (some (.ow d)):=gZ hl;have S2:=S1.open0 e1 hd fun j y hj ej=>by
    rw [gM (hG hj)]at ej;exact Xn z j y hj ej
   rw [dG]at S2;exact⟨_,H',I2,k3 _ F' H' g.f S2⟩
  ·have e0:∀ y:Option En,ρ.set i y=ρ:=fun y=>List.set_eq_of_length_le (by omega)
   rw [e0]at S1 k3;exact⟨_,H',I2,k3 _ F' H' g.f S1⟩
 cases w<;>first|exact k.elim|skip
 rename_i d;cases d<;>first|exact k.elim|skip
 ·rename_i xs;cases xs with
  | cons _ _=>exact k.elim
  | nil =>
   unfold Zc at k;dsimp only at k;by_cases c:wq i ρ=true
   ·rw [gB c]at k;exact go _ rfl (.inl rfl) c k
   ·rw [gD c]at k;exact k.elim
 ·rename_i xs;cases xs with
  | cons _ _=>exact k.elim
  | nil =>
   unfold Zc at k;dsimp only at k;by_cases c:wq i ρ=true
   ·rw [gB c]at k;exact go _ rfl (.inr rfl) c k
   ·rw [gD c]at k;exact k.elim
end
def Xs(i:Nat)(ρ:Rho)(ds:List D):En->Out
 | .ow (.lst es)=>if ds.length<sz then .nx (ρ.set i (some (.od (.lst (ds++[.lst es])))))else .stuck
 | _=>.stuck
def Zd(i:Nat)(e:EF):SF:=fun ρ=>match ρ[i]? with
 | some (some (.od (.lst ds)))=>sOf (e ρ) (Xs i ρ ds)
 | _=>.stuck
def Qq(i:Nat)(ρ:Rho)(ds:List D)(k:Nat)(d:D):Option D->Out
 | some (.lst xs)=>if xs.length<sz then .nx (ρ.set i (some (.od (.lst (ds.set k (.lst (xs++[d])))))))else .stuck
 | _=>.stuck
def yE(i:Nat)(ρ:Rho)(ds:List D):En->En->Out
 | .fz (.int k),.fz d=>if 0<=k then Qq i ρ ds k.toNat d ds[k.toNat]? else .stuck
 | _,_=>.stuck
def yF(i:Nat)(z e:EF):SF:=fun ρ=>match ρ[i]? with
 | some (some (.od (.lst ds)))=>sOf (z ρ) fun wk=>sOf (e ρ) fun w=>yE i ρ ds wk w
 | _=>.stuck
theorem qd3{i:Nat}{ρ:Rho}{ds:List D}{P:Out->Prop}(z:P .stuck->False):∀{wk w:En},P (yE i ρ ds wk w)->∃(kk:Int) (xs:List D),wk=.fz (.int kk)/\0<=kk/\ds[kk.toNat]?=some (.lst xs)/\xs.length<sz:=by
 intro wk w k;have go:∀(kk:Int) (d:D),P (yE i ρ ds (.fz (.int kk)) (.fz d))->0<=kk/\∃ xs,ds[kk.toNat]?=some (.lst xs)/\xs.length<sz:=fun kk d k=>by
  unfold yE at k;dsimp only at k;by_cases c:0<=kk
  ·rw [gB c]at k;refine⟨c,?_⟩;generalize ds[kk.toNat]?=o at k;cases o with
   | none=>exact(z k).elim
   | some y =>
    cases y with
    | lst xs =>
     unfold Qq at k;dsimp only at k;by_cases c2:xs.length<sz
     ·exact⟨xs,rfl,c2⟩
     ·rw [gD c2]at k;exact(z k).elim
    | _=>exact(z k).elim
  ·rw [gD c]at k;exact(z k).elim
 cases wk with
 | fz d =>
  cases d with
  | int kk =>
   cases w with
   | fz y=>obtain⟨c,xs,h1,h2⟩:=go kk y k;exact⟨kk,xs,rfl,c,h1,h2⟩
   | _=>exact(z k).elim
  | _=>exact(z k).elim
 | _=>exact(z k).elim
section
variable{X:Cx}{F0 H0:Hp}{pos:Pos}
theorem qd4(i:Nat){x:Str}{apos cpos np:Pos}{e:Expr}{f:EF}(he:SE X F0 H0 e f)(hN:X.N[i]?=some x:=by rfl)(hv:Vis X.env.scope x:=by trivial)(hd:(x==("__debug__":Str))=false:=by decide)
  (Z:(x==("__classdict__":Str))=false:=by decide)(O:attributeBase (.Name x np) "append" X.env (eval (.Name x np) X.env)=eval (.Name x np) X.env:=by rfl)
  (W:((backTo cpos (starEach [e] X.env)).all (fun x=>!x.1)&&(backToKw cpos (keywordEach [] X.env)).all (fun x=>x.1.isSome)
   && decide ([e].length+([]:List Keyword).length+(if ([]:List Keyword).isEmpty then 0 else 1)<30))=true:=by rfl)
  (U:(apos.endLine==cpos.line)=true:=by rfl) (Y:starEach [e] X.env=(false,eval e X.env)::starEach [] X.env:=by rfl) (B:(backTo cpos (starEach [] X.env)).any (·.1)=false:=by rfl)
  (hs:swapsWith (.Call (.Attribute (.Name x np) "append" apos) [e] [] cpos) none pos.line X.env=pure false:=by rfl) :
  SS X F0 H0 (.Expr (.Call (.Attribute (.Name x np) "append" apos) [e] [] cpos) pos) (Zd i f):=by
 intro pins s σ F H ρ D S I h;unfold Zd at h;split at h
 ·rename_i ds ei;have h:=PostS.of h;obtain⟨sh,a,bs,si,h0,hf,nd,dp,sp⟩:=S.dp i _ ei;have P:=xC (pos:=pos) (wQ (X:=X) fB pA pB ki (jn (pos:=np) hN hv hd Z) (vJ (jp (e:=e)) w9 Y) O W U Y B) hs;refine P pins s σ H D I ⟨_,si,.inl ⟨rfl,bs.map V.ref,SqL.of dp.1⟩,he.sem S (h.imp fun w k y F1 H1 g1 q1=>?_)⟩
  cases w<;>first|exact k.elim|skip
  rename_i d;cases d<;>first|exact k.elim|skip
  rename_i es;unfold Xs at k;dsimp only at k;by_cases c:ds.length<sz
  ·rw [gB c]at k;obtain⟨b,o,rfl,b0,bf,bh,rb⟩:=q1;cases o<;>first|exact rb.elim|skip
   rename_i us;have lb:bs.length=ds.length:=Inn.len dp.2;have nb:b∉a::bs:=fun m=>by
    rcases gl.mp m with rfl|m
    ·rw [dp.1]at b0;cases b0
    ·obtain⟨_,_,_,z⟩:=Deep.inn dp m;rw [z]at b0;cases b0
   have nab:a≠b:=fun z=>nb (by rw [z];simp)
   refine⟨a,bs.map V.ref,.ref b,rfl,rfl,g1.h _ _ dp.1,by rw [gy,lb,<- jB];exact c,?_⟩
   refine k σ _ _ g1.f ((S.grow g1).turn (bs:=bs) (bs':=bs++[b]) ei si sh sp (fun z hz=>qt fun e=>hz (by rw [e];simp)) (fun z hz=>?_) (fun z hz=>?_) (fun z hz=>?_) ?_ ⟨?_,?_⟩)
   ·rcases tm.mp hz with hz|hz
    ·exact .inl hz
    ·obtain rfl:z=b:=by simpa using hz
     refine .inr fun j w ej ow sj=>?_
     obtain⟨u,e2⟩:=S.ownAt ej ow sj;rw [b0]at e2;cases e2
   ·rcases gl.mp hz with rfl|hz
    ·exact h0
    ·rcases tm.mp hz with hz|hz
     ·obtain⟨_,e2,_⟩:=Deep.inn dp hz;exact e2
     ·obtain rfl:z=b:=by simpa using hz
      exact Le.none S.gr.h b0
   ·rcases gl.mp hz with rfl|hz
    ·exact g1.no hf dp.1
    ·rcases tm.mp hz with hz|hz
     ·obtain⟨_,_,e2,e3⟩:=Deep.inn dp hz;exact g1.no e2 e3
     ·obtain rfl:z=b:=by simpa using hz
      exact bf
   ·have nd2:((a::bs)++[b]).Nodup:=cg.mpr ⟨nd,by simp,fun x hx y hy e=>by
     obtain rfl:y=b:=by simpa using hy
     exact nb (by rw [<- e];exact hx)⟩
    exact nd2
   ·rw [qN,fW];rfl
   ·refine Inn.same (G:=H) (G':=H) (H:=H1) (fun z hz=>(qt fun e=>?_).symm) (fun _ _ q=>q) Le.refl (Inn.snoc (Le.none S.gr.h b0) bf bh rb (Inn.gr g1 dp.2))
    subst e;rcases tm.mp hz with hz|hz
    ·exact(tf.mp nd).1 hz
    ·exact nab (by simpa using hz)
  ·rw [gD c]at k;exact k.elim
 ·exact h.elim
theorem Xt(i:Nat){x:Str}{apos cpos np Y:Pos}{O e:Expr}{fk f:EF}(hk:SE X F0 H0 O fk)(he:SE X F0 H0 e f)(hsx:yn O:=by exact fun _ _=>rfl)(hN:X.N[i]?=some x:=by rfl)(hv:Vis X.env.scope x:=by trivial)(hd:(x==("__debug__":Str))=false:=by decide)
  (hcd:(x==("__classdict__":Str))=false:=by decide)(U:attributeBase (.Subscript (.Name x np) O Y) "append" X.env (eval (.Subscript (.Name x np) O Y) X.env)=eval (.Subscript (.Name x np) O Y) X.env:=by rfl)
  (Z:((backTo cpos (starEach [e] X.env)).all (fun x=>!x.1)&&(backToKw cpos (keywordEach [] X.env)).all (fun x=>x.1.isSome)
   && decide ([e].length+([]:List Keyword).length+(if ([]:List Keyword).isEmpty then 0 else 1)<30))=true:=by rfl)
  (W:(apos.endLine==cpos.line)=true:=by rfl) (hst:starEach [e] X.env=(false,eval e X.env)::starEach [] X.env:=by rfl) (B:(backTo cpos (starEach [] X.env)).any (·.1)=false:=by rfl)
  (hs:swapsWith (.Call (.Attribute (.Subscript (.Name x np) O Y) "append" apos) [e] [] cpos) none pos.line X.env=pure false:=by rfl) :
  SS X F0 H0 (.Expr (.Call (.Attribute (.Subscript (.Name x np) O Y) "append" apos) [e] [] cpos) pos) (yF i fk f):=by
 intro pins s σ F H ρ D S I h;unfold yF at h;split at h
 ·rename_i ds ei;have h:=PostS.of h;obtain⟨sh,a,bs,si,h0,hf,nd,dp,sp⟩:=S.dp i _ ei;have P:=xC (pos:=pos) (wQ (X:=X) fB pA pB ki (Tk (pos:=Y) ix_list (jn (pos:=np) hN hv hd hcd) (jp (e:=O)) hsx) (vJ (jp (e:=e)) w9 hst) U Z W hst B) hs;refine P pins s σ H D I ⟨_,si,hk.sem S (h.imp fun wk k y F1 H1 g1 q1=>?_)⟩
  have k:=PostS.of k;have h3:∃(kk:Int) (xs:List L3.D),wk=.fz (.int kk)/\0<=kk/\ds[kk.toNat]?=some (.lst xs)/\xs.length<sz:=by
   cases fe:f ρ with
   | exc _=>rw [fe]at k;exact k.elim
   | stuck=>rw [fe]at k;exact k.elim
   | ok w =>
    rw [fe]at k;exact qd3 (P:=PostS X F0 H0 F D) (fun z=>z) k
  obtain⟨kk,xs,rfl,c0,ed,c2⟩:=h3;obtain rfl:y=V.int kk:=q1;have lb:bs.length=ds.length:=Inn.len dp.2;have kl:kk.toNat<bs.length:=by rw [lb];exact(gu.mp ed).1
  have eb:bs[kk.toNat]?=some bs[kk.toNat]:=hU kl;generalize bs[kk.toNat]=b at eb;have mb:b∈bs:=tY eb;have at_:atI (bs.map V.ref) kk=some (.ref b):=by
   unfold atI ixN;rw [gB c0,gB (by rw [gy];omega),pN,gX,eb]
   rfl
  obtain⟨us0,_,_,hb⟩:=Deep.inn dp mb;refine⟨a,bs.map V.ref,kk,.ref b,rfl,rfl,SqL.of (g1.h _ _ dp.1),at_,.inl ⟨rfl,us0,SqL.of (g1.h _ _ hb)⟩,he.sem (S.grow g1) (k.imp fun w k y F2 H2 g2 q2=>?_)⟩
  cases w<;>first|exact k.elim|skip
  rename_i d;unfold yE at k;dsimp only at k;rw [gB c0,ed]at k;unfold Qq at k;dsimp only at k;rw [gB c2]at k;have G:=g1.trans g2;obtain⟨ndA,ndB⟩:=tf.mp nd;obtain⟨us,xs',e1,e2,e3,inn⟩:=Inn.app (y:=y) (d:=d) q2 (Inn.gr G dp.2) ndB eb;rw [ed]at e1;cases e1;refine⟨b,us,y,rfl,rfl,e2,by rw [e3,<- jB];exact c2,?_⟩
  refine k σ _ _ G.f ((S.grow G).turn (bs:=bs) (bs':=bs) ei si sh sp (fun z hz=>qt fun e=>hz (by rw [e];exact gp _ mb)) (fun z hz=>.inl hz) (fun z hz=>?_) (fun z hz=>?_) nd ⟨?_,inn⟩)
  ·rcases gl.mp hz with rfl|hz
   ·exact h0
   ·obtain⟨_,e4,_⟩:=Deep.inn dp hz;exact e4
  ·rcases gl.mp hz with rfl|hz
   ·exact G.no hf dp.1
   ·obtain⟨_,_,e4,e5⟩:=Deep.inn dp hz;exact G.no e4 e5
  ·exact(qt fun e=>ndA (by rw [e];exact mb)).trans (G.h _ _ dp.1)
 ·exact h.elim
end
open PySem PySem.Spec PyProof.Rows L2
section
variable{prog:Program}{w:World}{K:Type} [DecidableEq K]{knd:HeapKind prog w K}{A:Around}{E:Value->Shared->Prop}{s:Shared}{d a:Addr}{k:K}{xs:List (K×Addr×Value)}{dv:Value}
theorem qd5{Q:Value->Shared->Prop}(U:knd.room A)(O:knd.is s.heap k a)(W:s.heap.DictOfH knd d xs)(hz:xs.length<=sizeLine)
  (h1:∀ p,atKey xs k=some p->Q p.2 {s with toks:=s.toks+knd.draws k})
  (h2:atKey xs k=none->∀ h',h'.DictOfH knd d (storedH xs k a dv)->Heap.SameBut d s.heap h'->Q dv {s with heap:=h',toks:=s.toks+knd.draws k}) :
  wpAny (model prog w) A (dictSetDefault d (.ref a) dv) Q E s:=by
 obtain⟨o,es,ep,go,gc,gd,ge,gi,gn⟩:=W;have z:=size_of_entries ge;unfold dictSetDefault;refine tL (g6 (knd.pyHash U O (g6 (wpAny_dictFind_heap (s:={s with toks:=s.toks+knd.draws k}) U O go gd ge gi gn (fun no=>?_) fun j p hj=>?_))))
 ·have B:=atKey_none_of_get no;have nk:k∉xs.map (·.1):=not_mem_keys_of_get no
  have sn:=storedH_new (v:=dv) (a:=a) B;refine g6 (cC (g6 (wpAny_updateDictKeys (hz:=by omega) (s:={s with toks:=s.toks+knd.draws k}) go gd (gk (h2 B _ ?_ (fN ..))))))
  rw [sn];refine⟨_,_,ep+1,tq _ go (Obj.isFreed_of_dict (Obj.data_mapDictKeys gd _)),gc.mapDictKeys _,Obj.data_mapDictKeys gd _,by simp [ge,entryOfKey],fun x hx=>?_,?_⟩
  ·have hx:x∈xs∨x=(k,a,dv):=by simpa using hx
   rcases hx with hx|rfl
   ·exact knd.keeps (gi x hx) go gd (fN ..)
   ·exact knd.keeps O go gd (fN ..)
  ·rw [fW];refine cg.mpr ⟨gn,by simp,fun x hx y hy e=>nk ?_⟩
   have hy:y=k:=by simpa using hy
   rw [<- hy,<- e];exact hx
 ·have ak:=atKey_of_get gn hj;refine g6 (cW (s:={s with toks:=s.toks+knd.draws k}) go gd ?_);rw [entry_at ge j,hj];exact g6 (cC (gk (h1 p ak)))
theorem qd6{Q:Value->Shared->Prop}(hd:(d==sysModules)=false)(B:knd.room A.in1)(O:knd.is s.heap k a)(z:s.heap.DictOfH knd d xs)(hz:xs.length<=sizeLine)
  (h1:∀ p,atKey xs k=some p->Q p.2 {s with toks:=s.toks+knd.draws k})
  (h2:atKey xs k=none->∀ h',h'.DictOfH knd d (storedH xs k a dv)->Heap.SameBut d s.heap h'->Q dv {s with heap:=h',toks:=s.toks+knd.draws k}) :
  wpAny (model prog w) A (call (.builtin "dict.setdefault") [.ref d,.ref a,dv]) Q E s:=by
 have ty:=z.typeIs;refine fF PySem.F.slot_dict_setdefault ty PySem.F.entry_dict_setdefault ?_ (PySem.F.args_dict_setdefault_3 _ _ _);unfold Builtin.«dict.setdefault» Builtin.Dict.keyAndDefault;refine g6 (g6 (wpAny_notOrdered_dict ty (show wpAny _ _ (pure (d,Value.ref a,some dv)) _ _ s from gk ?_)))
 show wpAny _ _ (if (d==sysModules)=true then _ else(dictSetDefault d (.ref a) dv >>= _)) _ _ s
 rw [gD (by rw [hd];decide)]
 exact g6 (qd5 B O z hz (fun p e=>gk ⟨_,rfl,h1 p e⟩) fun e h' q sb=>gk ⟨_,rfl,h2 e h' q sb⟩)
end
def rSd:V->List V->Hp->VK->Prop:=fun x vs H Q=>∃ a kvs k b y,x=.ref a/\vs=[.ref b,y]/\H a=some (.dT kvs)/\H b=some (.tup (k.map kV))/\kvs.length<sizeLine/\(∀ v,qY kvs k=some v->Q v H)/\(qY kvs k=none->Q y (upd H a (.dT (jz kvs k y))))
section
variable{X:Cx}
theorem qd7(Y:X.A.units+1<cLine):MtR X "dict.setdefault" rSd:=by
 intro pins s σ H x vs v us Q I rx rv h;obtain⟨a,kvs,k,b,y,rfl,rfl,hH,hb,hl,q1,q2⟩:=h;cases rx;obtain⟨u1,u2,rfl,W,O⟩:=rv.two;cases W;obtain⟨z,hd,xs,B,dd⟩:=K4 I.hok hH;have hz:xs.length<=sizeLine:=by rw [<- cI B];exact z
 have hp:(jz kvs k y).length<=sizeLine:=by have:=Jl kvs k y;omega
 refine qd6 hd (cJ Y) (uQ I.hok hb) dd hz (fun p e=>?_) fun e h' U sb=>?_
 ·have r:=B.val k;rw [e]at r;cases ev:qY kvs k with
  | none=>rw [ev]at r;exact r.elim
  | some v =>
   rw [ev]at r;exact⟨v,H,I.tok _,r,q1 v ev⟩
 ·have r:=B.val k;rw [e]at r;have ev:qY kvs k=none:=by
   cases ev:qY kvs k with
   | none=>rfl
   | some v=>rw [ev]at r;exact r.elim
  obtain⟨q,es,ep,hq,g2,g3,g4,_,g5⟩:=U;refine⟨y,_,Jn (ob:=.dT (jz kvs k y)) I (by rw [hH];exact True.intro) sb ⟨q,hq⟩ ⟨hp,hd,_,(B.put k hb O).keeps fun c ys ec=>?_,q,es,ep,hq,g2,g3,g4,g5⟩,O,q2 ev⟩
  rw [qt (YG ec hH (fun z=>nomatch z))]
  exact ec
end
def Xu:D->D->D
 | .lst xs,d=>.lst (xs++[d])
 | e,_=>e
def vn(key:List (Sum Int Str))(d:D):List (List (Sum Int Str)×D)->List (List (Sum Int Str)×D)
 | []=>[(key,.lst [d])]
 | (k,e)::r=>if k=key then(k,Xu e d)::r else(k,e)::vn key d r
theorem Ze(key:List (Sum Int Str)):∀(z:List (List (Sum Int Str)×D)) (bs:List Addr),bs.length=z.length ->
  (qY ((z.map Prod.fst).zip (bs.map V.ref)) key=none/\∀ d,vn key d z=z++[(key,.lst [d])]) ∨
  ∃ j b e,bs[j]?=some b/\(z.map Prod.snd)[j]?=some e/\qY ((z.map Prod.fst).zip (bs.map V.ref)) key=some (.ref b) /\
   ∀ d,(vn key d z).map Prod.fst=z.map Prod.fst/\(vn key d z).map Prod.snd=(z.map Prod.snd).set j (Xu e d)
 | [],[],_=>.inl ⟨rfl,fun _=>rfl⟩
 | [],_::_,h=>by cases h
 | _::_,[],h=>by cases h
 | (k,e)::r,b::bs,h=>by
  by_cases c:k=key
  ·refine .inr ⟨0,b,e,rfl,rfl,xF (p:=(k,V.ref b)) c,fun d=>?_⟩
   unfold vn;rw [gB c];exact⟨rfl,rfl⟩
  ·have nv:qY ((((k,e)::r).map Prod.fst).zip ((b::bs).map V.ref)) key=qY ((r.map Prod.fst).zip (bs.map V.ref)) key:=xG (p:=(k,V.ref b)) c;rcases Ze key r bs (by simpa using h)with⟨h1,h2⟩|⟨j,b',e',h1,h2,h3,h4⟩
   ·refine .inl ⟨nv.trans h1,fun d=>?_⟩
    unfold vn;rw [gD c,h2];rfl
   ·refine .inr ⟨j+1,b',e',by simpa using h1,by simpa using h2,nv.trans h3,fun d=>?_⟩
    unfold vn;rw [gD c];obtain⟨q1,q2⟩:=h4 d;exact⟨by simp [q1],by simp [q2]⟩
def Qr:D->Bool
 | .lst xs=>decide (xs.length<sz)
 | _=>false
def qd8(i:Nat)(ρ:Rho)(z:List (List (Sum Int Str)×D))(key:List (Sum Int Str)):En->Out
 | .fz d=>.nx (ρ.set i (some (.od (.dT (vn key d z)))))
 | _=>.stuck
def ue(i:Nat)(e:EF)(ρ:Rho)(z:List (List (Sum Int Str)×D))(key:List (Sum Int Str)):En->Out
 | .ow (.lst [])=>if z.length<sz/\key.length<=sz/\(z.all fun kv=>Qr kv.2)=true then sOf (e (ρ.set i none)) (qd8 i ρ z key)else .stuck
 | _=>.stuck
def qd9(i:Nat)(B e:EF)(ρ:Rho)(z:List (List (Sum Int Str)×D)):Option (List (Sum Int Str))->Out
 | some key=>sOf (B ρ) (ue i e ρ z key)
 | none=>.stuck
def sSd(i:Nat)(ks:List EF)(z e:EF):SF:=fun ρ=>match ρ[i]? with
 | some (some (.od (.dT kds)))=>sOf (evs ks ρ) fun ws=>qd9 i z e ρ kds (jS (ws.map En.d))
 | _=>.stuck
theorem StOk.drop{κ:Kx}{F0 H0 F H:Hp}{ρ:Rho}{σ:St}(i:Nat)(S:StOk κ F0 H0 F H ρ σ):StOk κ F0 H0 F H (ρ.set i none) σ:=by
 have B:∀{m:Nat} {y:En},(ρ.set i none)[m]?=some (some y)->ρ[m]?=some (some y):=fun{m y} h=>by
  rcases qE h with⟨_,z⟩|⟨_,z⟩
  ·cases z
  ·exact z
 refine⟨S.gr,by simpa using S.len,fun j w e=>S.val j w (B e),fun j k w w' c O ej ek=>S.sep j k w w' c O (B ej) (B ek),fun j y e=>?_⟩
 obtain⟨s1,a,bs,e1,h0,hf,nd,dp,sp⟩:=S.dp j y (B e);exact⟨fun k z hk ek=>s1 k z hk (B ek),a,bs,e1,h0,hf,nd,dp,fun k w b hk ek=>sp k w b hk (B ek)⟩
theorem Inn.short_at{κ:Kx}{H0 F H:Hp}{B:List (List (Sum Int Str)×D)}{j:Nat}{e:D}(h:(B.all fun kv=>Qr kv.2)=true)(O:(B.map Prod.snd)[j]?=some e):∃ xs,e=.lst xs/\xs.length<sz:=by
 rw [gX]at O;obtain⟨kv,hk,rfl⟩:=cQ.mp O;have:=p9.mp h kv (tY hk)
 revert this
 cases kv.2<;>intro z<;>first|exact⟨_,rfl,of_decide_eq_true z⟩|cases z
section
variable{X:Cx}{F0 H0:Hp}{pos:Pos}
theorem qda(i:Nat){x:Str}{Z O ap2 cp2 np tp:Pos}{ks:List Expr}{Y e:Expr}{n:Nat}{fk:List EF}{fl f:EF}(hu:X.A.units+10<cLine)(hk:SA X F0 H0 ks fk)(hl:SE X F0 H0 Y fl)(he:SE X F0 H0 e f)
  (hN:X.N[i]?=some x:=by rfl)(hv:Vis X.env.scope x:=by trivial)(hd:(x==("__debug__":Str))=false:=by decide)
  (hcd:(x==("__classdict__":Str))=false:=by decide)
  (hb1:attributeBase (.Name x np) "setdefault" X.env (eval (.Name x np) X.env)=eval (.Name x np) X.env:=by rfl)
  (hf1:((backTo O (starEach [.Tuple ks n tp,Y] X.env)).all (fun x=>!x.1)&&(backToKw O (keywordEach [] X.env)).all (fun x=>x.1.isSome)
   && decide ([.Tuple ks n tp,Y].length+([]:List Keyword).length+(if ([]:List Keyword).isEmpty then 0 else 1)<30))=true:=by rfl)
  (hl1:(Z.endLine==O.line)=true:=by rfl) (hs1:starEach [.Tuple ks n tp,Y] X.env=(false,eval (.Tuple ks n tp) X.env)::starEach [Y] X.env:=by rfl) (hs2:starEach [Y] X.env=(false,eval Y X.env)::starEach [] X.env:=by rfl)
  (hp1:(backTo O (starEach [Y] X.env)).any (·.1)=false:=by rfl)
  (hb2:attributeBase (.Call (.Attribute (.Name x np) "setdefault" Z) [.Tuple ks n tp,Y] [] O) "append" X.env (eval (.Call (.Attribute (.Name x np) "setdefault" Z) [.Tuple ks n tp,Y] [] O) X.env)=eval (.Call (.Attribute (.Name x np) "setdefault" Z) [.Tuple ks n tp,Y] [] O) X.env:=by rfl)
  (hf2:((backTo cp2 (starEach [e] X.env)).all (fun x=>!x.1)&&(backToKw cp2 (keywordEach [] X.env)).all (fun x=>x.1.isSome)
   && decide ([e].length+([]:List Keyword).length+(if ([]:List Keyword).isEmpty then 0 else 1)<30))=true:=by rfl)
  (hl2:(ap2.endLine==cp2.line)=true:=by rfl) (hs3:starEach [e] X.env=(false,eval e X.env)::starEach [] X.env:=by rfl) (hp2:(backTo cp2 (starEach [] X.env)).any (·.1)=false:=by rfl)
  (hs:swapsWith (.Call (.Attribute (.Call (.Attribute (.Name x np) "setdefault" Z) [.Tuple ks n tp,Y] [] O) "append" ap2) [e] [] cp2) none pos.line X.env=pure false:=by rfl) :
  SS X F0 H0 (.Expr (.Call (.Attribute (.Call (.Attribute (.Name x np) "setdefault" Z) [.Tuple ks n tp,Y] [] O) "append" ap2) [e] [] cp2) pos) (sSd i fk fl f):=by
 intro pins s σ F H ρ D S I h;unfold sSd at h;split at h
 ·rename_i B ei;have h:=PostS.of h;obtain⟨sh,a,bs,si,h0,hf,nd,dp,sp⟩:=S.dp i _ ei;obtain⟨ha,W⟩:=dp;have P:=xC (pos:=pos) (wQ (X:=X) fB pA pB ki
   (wQ (X:=X) pG PySem.F.slot_dict_setdefault PySem.F.type_dict_setdefault (qd7 (by omega)) (jn (pos:=np) hN hv hd hcd) (vJ (jp (e:=.Tuple ks n tp)) (vJ (jp (e:=Y)) w9 hs2) hs1) hb1 hf1 hl1 hs1 hp1)
   (vJ (jp (e:=e)) w9 hs3) hb2 hf2 hl2 hs3 hp2) hs
  refine P pins s σ H D I ⟨_,si,.inr (.inr (.inl ⟨rfl,.inr ⟨_,ha⟩⟩)),Qf hk S (h.imp fun ws k1 vs F1 H1 p g1 q1 hp=>?_)⟩
  cases ek:jS (ws.map En.d)with
  | none=>rw [ek]at k1;exact k1.elim
  | some key =>
   rw [ek]at k1;have ev:=xZ q1 ek;subst ev;have k2:=PostS.of (show PostS X F0 H0 F D (sOf (fl ρ) (ue i f ρ B key))from k1)
   have g2:=Gr.new (o:=.tup (key.map kV)) g1.s hp;have G2:=g1.trans g2;have h6:B.length<sz/\key.length<=sz/\(B.all fun kv=>Qr kv.2)=true:=by
    cases fe:fl ρ with
    | exc _=>rw [fe]at k2;exact k2.elim
    | stuck=>rw [fe]at k2;exact k2.elim
    | ok w =>
     rw [fe]at k2;have k2:PostS X F0 H0 F D (ue i f ρ B key w):=k2;unfold ue at k2;split at k2
     ·by_cases c:B.length<sz/\key.length<=sz/\(B.all fun kv=>Qr kv.2)=true
      ·exact c
      ·rw [gD c]at k2;exact k2.elim
     ·exact k2.elim
   obtain⟨c1,c2,c3⟩:=h6;have lb:bs.length=B.length:=(Inn.len W).trans (by simp)
   refine⟨by rw [gy,<- jB];exact c2,hl.sem (S.grow G2) (k2.imp fun w k3 y F3 H3 g3 q3=>?_)⟩
   unfold ue at k3;split at k3
   ·rw [gB ⟨c1,c2,c3⟩]at k3;have k3:=PostS.of k3;obtain⟨b,o,rfl,b0,bf,bh,rb⟩:=q3;cases o<;>first|exact rb.elim|skip
    cases (show _=[]from rb)
    have G3:=G2.trans g3;have S3:=S.grow G3;have U:H b=none:=Le.none G2.h b0;have nb:b∉a::bs:=fun m=>by
     rcases gl.mp m with rfl|m
     ·rw [ha]at U;cases U
     ·obtain⟨_,_,_,z⟩:=Inn.at W m;rw [z]at U;cases U
    have nab:a≠b:=fun z=>nb (by rw [z];simp)
    have ntp:H3 p=some (.tup (key.map kV)):=g3.h _ _ qN;refine⟨a,_,key,p,.ref b,rfl,rfl,G3.h _ _ ha,ntp,by rw [List.length_zip,gy,gy,lb,Nat.min_self,<- jB];exact c1,fun v ev=>?_,fun ev=>?_⟩
    ·rcases Ze key B bs lb with⟨z,_⟩|⟨j,b',e',m1,m2,m3,m4⟩
     ·rw [ev]at z;cases z
     rw [ev]at m3;cases m3;obtain⟨xs0,rfl,lx⟩:=Inn.short_at (κ:=kx X) (H0:=H0) (F:=F) (H:=H) c3 m2;have mb:b'∈bs:=tY m1;obtain⟨us0,_,_,hb⟩:=Inn.at W mb;refine⟨.inl ⟨rfl,us0,SqL.of (G3.h _ _ hb)⟩,he.sem (S3.drop i) (k3.imp fun w k4 y F4 H4 g4 q4=>?_)⟩
     cases w<;>first|exact k4.elim|skip
     rename_i d;have k4:PostS X F0 H0 F D (.nx (ρ.set i (some (.od (.dT (vn key d B)))))):=k4;have G4:=G3.trans g4;obtain⟨ndA,ndB⟩:=tf.mp nd;obtain⟨us,xs',e1,e2,e3,h4⟩:=Inn.app (y:=y) (d:=d) q4 (Inn.gr G4 W) ndB m1;rw [m2]at e1;cases e1;obtain⟨s1,s2⟩:=m4 d;refine⟨b',us,y,rfl,rfl,e2,by rw [e3,<- jB];exact lx,?_⟩
     refine k4 σ _ _ G4.f ((S.grow G4).turn (bs:=bs) (bs':=bs) ei si sh sp (fun z hz=>qt fun e=>hz (by rw [e];exact gp _ mb)) (fun z hz=>.inl hz) (fun z hz=>?_) (fun z hz=>?_) nd ⟨?_,?_⟩)
     ·rcases gl.mp hz with rfl|hz
      ·exact h0
      ·obtain⟨_,e4,_⟩:=Inn.at W hz;exact e4
     ·rcases gl.mp hz with rfl|hz
      ·exact G4.no hf ha
      ·obtain⟨_,_,e4,e5⟩:=Inn.at W hz;exact G4.no e4 e5
     ·rw [qt fun e=>ndA (by rw [e];exact mb),s1]
      exact G4.h _ _ ha
     ·rw [s2];exact h4
    ·rcases Ze key B bs lb with⟨_,app⟩|⟨j,b',e',_,_,z,_⟩
     ·have pk:=TK (V.ref b) ev;rw [pk];have h5:(B.map Prod.fst).zip (bs.map V.ref)++[(key,V.ref b)]=((B++[(key,L3.D.lst [])]).map Prod.fst).zip ((bs++[b]).map V.ref):=by
       rw [fW,fW,List.zip_append (by rw [gy,gy,lb])]
       rfl
      have nd2:(a::(bs++[b])).Nodup:=by
       have:((a::bs)++[b]).Nodup:=cg.mpr ⟨nd,by simp,fun x hx y hy e=>by
        obtain rfl:y=b:=by simpa using hy
        exact nb (by rw [<- e];exact hx)⟩
       exact this
      have all0:∀ z∈a::(bs++[b]),H0 z=none/\F3 z=none:=fun z hz=>by
       rcases gl.mp hz with rfl|hz
       ·exact⟨h0,G3.no hf ha⟩
       ·rcases tm.mp hz with hz|hz
        ·obtain⟨_,e4,e5,e6⟩:=Inn.at W hz;exact⟨e4,G3.no e5 e6⟩
        ·obtain rfl:z=b:=by simpa using hz
         exact⟨Le.none S.gr.h U,bf⟩
      have h3:Inn (kx X) H0 F3 (upd H3 a (.dT ((B.map Prod.fst).zip (bs.map V.ref)++[(key,V.ref b)]))) (bs++[b]) ((B++[(key,L3.D.lst [])]).map Prod.snd):=by
       rw [fW];refine Inn.same (G:=H) (G':=H) (H:=H3) (fun z hz=>(qt fun e=>?_).symm) (fun _ _ q=>q) Le.refl (Inn.snoc (Le.none S.gr.h U) bf bh (show Reps (kx X) F3 [] []from rb) (Inn.gr G3 W))
       subst e;exact(tf.mp nd2).1 hz
      have S4:=S3.turn (bs:=bs) (bs':=bs++[b]) (d':=.dT (B++[(key,.lst [])])) (H':=upd H3 a (.dT ((B.map Prod.fst).zip (bs.map V.ref)++[(key,V.ref b)]))) ei si sh sp (fun z hz=>qt fun e=>hz (by rw [e];simp)) (fun z hz=>by
        rcases tm.mp hz with hz|hz
        ·exact .inl hz
        ·obtain rfl:z=b:=by simpa using hz
         refine .inr fun j w ej ow sj=>?_
         obtain⟨u,e2⟩:=S.ownAt ej ow sj;rw [U]at e2;cases e2) (fun z hz=>(all0 z hz).1) (fun z hz=>(all0 z hz).2) nd2 ⟨by rw [qN,h5],h3⟩
      have SD:=S4.drop i;rw [dG]at SD;have bh4:(upd H3 a (.dT ((B.map Prod.fst).zip (bs.map V.ref)++[(key,V.ref b)]))) b=some (.lst []):=(qt (hG nab)).trans bh;refine⟨.inl ⟨rfl,[],SqL.of bh4⟩,he.sem SD (k3.imp fun w k4 y F4 H4 g4 q4=>?_)⟩
      cases w<;>first|exact k4.elim|skip
      rename_i d;have k4:PostS X F0 H0 F D (.nx (ρ.set i (some (.od (.dT (vn key d B)))))):=k4;have i4:i<ρ.length:=(gu.mp ei).1;have S5:=S4.grow g4;have ei5:(ρ.set i (some (.od (.dT (B++[(key,.lst [])])))))[i]?=some (some (.od (.dT (B++[(key,.lst [])])))):=gZ i4;have eb:(bs++[b])[bs.length]?=some b:=by simp
      obtain⟨us,xs',e1,e2,e3,h4⟩:=Inn.app (y:=y) (d:=d) q4 (Inn.gr g4 h3) (tf.mp nd2).2 eb;have eq0:((B++[(key,L3.D.lst [])]).map Prod.snd)[bs.length]?=some (.lst []):=by rw [lb];simp
      rw [eq0]at e1;cases e1;have us0:us=[]:=pJ.mp e3;subst us0;refine⟨b,[],y,rfl,rfl,e2,by rw [fm];decide,?_⟩
      have sh5:shal i (ρ.set i (some (.od (.dT (B++[(key,.lst [])]))))):=fun j z hj ej=>by
       rw [gM (hG hj)]at ej;exact sh j z hj ej
      have sp5:∀(j:Nat) (w:En) (c:Addr),j≠i->(ρ.set i (some (.od (.dT (B++[(key,.lst [])])))))[j]?=some (some w)->w.own=true->c∈a::(bs++[b])->σ[j]?≠some (some (.ref c)):=fun j w c hj ej ow m sj=>by
       rw [gM (hG hj)]at ej;rcases gl.mp m with rfl|m
       ·exact sp j w _ hj ej ow (by simp) sj
       ·rcases tm.mp m with m|m
        ·exact sp j w c hj ej ow (gp _ m) sj
        ·obtain rfl:c=b:=by simpa using m
         obtain⟨u,e2⟩:=S.ownAt ej ow sj;rw [U]at e2;cases e2
      have S6:=S5.turn (bs:=bs++[b]) (bs':=bs++[b]) (d':=.dT (vn key d B)) (H':=upd H4 b (.lst ([]++[y]))) ei5 si sh5 sp5 (fun z hz=>qt fun e=>hz (by rw [e];simp)) (fun z hz=>.inl hz) (fun z hz=>(all0 z hz).1) (fun z hz=>?_) nd2 ⟨?_,?_⟩
      ·rw [dG]at S6;exact k4 σ _ _ (Le.trans G3.f g4.f) S6
      ·rcases gl.mp hz with rfl|hz
       ·exact g4.no (all0 _ (by simp)).2 qN
       ·obtain⟨_,_,e5,e6⟩:=Inn.at h3 hz;exact g4.no e5 e6
      ·rw [qt nab,g4.h _ _ qN,h5,app d];simp only [fW];rfl
      ·have es:(vn key d B).map Prod.snd=((B++[(key,L3.D.lst [])]).map Prod.snd).set bs.length (.lst ([]++[d])):=by
        rw [app d,lb];simp
       rw [es];exact h4
     ·rw [ev]at z;cases z
   ·exact k3.elim
 ·exact h.elim
end
section
variable{prog:Program}{w:World}{A:Around}{E:Value->Shared->Prop}{s:Shared}{d it:Addr}{o:Obj}{es:Array DictEntry}{ep i:Nat}
theorem qdb{Q:Value->Shared->Prop}(hd:(d==sysModules)=false)(B:s.heap.get? d=some o)(O:o.ExactDict)(z:o.data=.dict es ep)
  (h:Q (.ref s.heap.objs.size) {s with heap:=s.heap.push {cls:=.type "dict_keyiterator",data:=.fields #[.ref d,.int 0 0,.int es.size 0,.int ep 0]}}):wpAny (model prog w) A (pyIter (.ref d)) Q E s:=by
 have ty:s.TypeIs (.ref d) "dict":=⟨o,B,O.1⟩;refine wpAny_pyIter_slot ty PySem.F.slot_dict_iter (fF PySem.F.slot_dict_iter ty PySem.F.entry_dict_iter ?_ (PySem.F.args_dict_iter_1 _));unfold Builtin.«dict.__iter__» Builtin.Dict.dictSlotNone;refine g6 (g6 (wpAny_notOrdered_dict ty (show wpAny _ _ (pure (Value.ref d)) _ _ s from gk (show wpAny _ _ (Builtin.Dict.showsAll d >>= _) _ _ s from ?_))))
 unfold Builtin.Dict.showsAll;rw [gD (by rw [hd];decide)]
 refine g6 (gk (g6 (cW B z (g6 (wpAny_dictEpoch B z (g6 (tw (gk ⟨_,rfl,"dict_keyiterator",_,⟨_,gH _ rfl,rfl⟩,p6.lookup,?_⟩))))))));simpa [rawInt]using h
theorem Xv{Q:Option Value->Shared->Prop}(Y:A.handled=none)(B:s.heap.IsKeyIter it d i es.size ep)(W:s.heap.get? d=some o)(O:o.data=.dict es ep)
  (h1:∀ e h',es[i]?=some e->h'.IsKeyIter it d (i+1) es.size ep->Heap.SameBut it s.heap h'->Q (some e.key) {s with heap:=h'})
  (h2:es[i]?=none->∀ h',Heap.ExtBut it s.heap h'->Q none {s with heap:=h'}):wpAny (model prog w) A (pyNext (.ref it)) Q E s:=by
 obtain⟨oi,gi,ci,di⟩:=id B;have U:Builtin.Dict_items.ownsTuple "dict_keyiterator"=false:=by decide
 unfold pyNext;refine g6 (cc (tX (name:=Str.ofString "__next__") B.typeIs p6 (fF p6 B.typeIs PySem.F.entry_dict_keyiterator_next ?_ (PySem.F.args_dict_keyiterator_next_1 _))));refine g6 (gk (g6 (g6 ?_)))
 first|refine g6 (pO B.typeIs (gk (g6 (wpAny_fieldsOf gi di ?_))))|refine g6 (cF B.typeIs (gk (g6 (wpAny_fieldsOf gi di ?_))))
 simp only [U,hX,fP];show wpAny _ _ (if (Value.ref d==Value.none)=true then _ else _) _ _ s;rw [gD (fun z=>by cases z)]
 refine g6 (gk (g6 (cW W O ?_)));rw [gD (by simp)]
 refine g6 (gk (g6 (wpAny_dictEpoch W O ?_)));rw [gD (by simp)]
 refine gk ?_;cases he:es[i]? with
 | none =>
  simp only [show ¬ ((i:Int)<0)by omega,fP,tQ,he]
  refine g6 ?_
  first|refine g6 (pO B.typeIs (gk (show wpAny _ _ (setField (.ref it) 0 .none >>= _) _ _ s from g6 (po gi di (by simp) ?_))))|refine g6 (cF B.typeIs (gk (show wpAny _ _ (setField (.ref it) 0 .none >>= _) _ _ s from g6 (po gi di (by simp) ?_))))
  show wpAny _ _ (newExc (.type "StopIteration") [] >>= _) _ _ _;refine g6 ?_;simp only [newExc,newTuple];refine g6 (tw (g6 (m:=firstArgMember _ _) (wpAny_of_eq (a:=Value.none) (by first|rfl|(simp only [firstArgMember];rfl)) (tw ?_ (by size_fits)))) (by size_fits))
  simp only [raiseNew];refine g6 (wpAny_handled ?_);rw [show A.in1.handled=none from Y];refine g6 (gk (wpAny_throw (g6 ?_)))
  refine(wpAny_isInstance (T:="StopIteration") (b:=true) ⟨_,gH _ rfl,rfl⟩ isSubtype_stop (gk (h2 he _ ?_)));exact((fN ..).extBut.push _).push _
 | some e =>
  simp only [show ¬ ((i:Int)<0)by omega,fP,tQ,he]
  have nx:(s.heap.update it (Obj.mapFields (·.setIfInBounds 1 (rawInt ((i:Int)+1))))).IsKeyIter it d (i+1) es.size ep :=
   ⟨_,tq _ gi (pf (fA di _)),(dR ..).trans ci,by rw [fA di];simp [rawInt]⟩
  refine g6 ?_
  first|refine g6 (pO B.typeIs (gk (g6 (d9 B.typeIs ?_))))|refine g6 (cF B.typeIs (gk (g6 (d9 B.typeIs ?_))))
  show wpAny _ _ (setField (.ref it) 1 (rawInt ((i:Int)+1)) >>= _) _ _ s;refine g6 (po gi di (by simp) (g6 (tL (g6 (d9 (s:={s with heap:=s.heap.update it (Obj.mapFields (·.setIfInBounds 1 (rawInt ((i:Int)+1))))}) nx.typeIs ?_)))))
  show wpAny _ _ (pure e.key) _ _ _;exact gk (gk ⟨_,rfl,gk (h1 e _ he nx (fN ..))⟩)
end
def ItT(a:Addr)(ob:Obj):It:=⟨fun i H=>∃ kvs,H a=some (.frz ob (.dT kvs))/\i<kvs.length,
 fun i H x H'=>H'=H/\∃ kvs k v q,H a=some (.frz ob (.dT kvs))/\kvs[i]?=some (k,v)/\x=.ref q/\H q=some (.tup (k.map kV)),fun i H=>∃ kvs,H a=some (.frz ob (.dT kvs))/\kvs.length<=i⟩
theorem Xw{α β:Type}{R:α->β->Prop}:∀{l:List α} {m:List β} {i:Nat} {x:α},Paired R l m->l[i]?=some x->∃ y,m[i]?=some y/\R x y
 | _,_,i,_,.nil,h=>by simp at h
 | _,_,0,x,.cons r t,h=>by simp at h;subst h;exact⟨_,rfl,r⟩
 | _,_,i+1,x,.cons r t,h=>by
  obtain⟨y,e,q⟩:=Xw (i:=i) t (by simpa using h)
  exact⟨y,by simpa using e,q⟩
theorem qdc{P:Program}{w:World}{K:Frag}{tg:Expr}{a it:Addr}{ob:Obj}{es:Array DictEntry}{ep:Nat}(h2:ob.data=.dict es ep):Turn P w K tg (ItT a ob) [it] it (fun i h=>h.IsKeyIter it a i es.size ep)where
 mem:=by simp
 obj:=fun i h st b hb=>by
  obtain rfl:b=it:=by simpa using hb
  obtain⟨o,e,c,d⟩:=st;exact⟨o,e,fun v z=>by rw [d]at z;cases z⟩
 keep:=fun i h h' st k=>by
  obtain⟨o,e,r⟩:=st;exact⟨o,k it (by simp) o e,r⟩
 item:=by
  intro X hP hw hK hc i pins s σ H E I hf st hg;subst hP hw hK;obtain⟨kvs,hH,hi⟩:=hg;obtain⟨go,z,y,xs,r,o,O,U,e1,e2,e3,e4,e5⟩:=(show ObjOk X.prog X.w H s.heap a (.frz ob (.dT kvs))from I.hok a _ hH)
  rw [go]at e1;cases e1;rw [h2]at e3;cases e3;obtain⟨⟨k,q,u⟩,ex,ek,eq,eu⟩:=Xw r (hU hi);have ee:es[i]?=some (entryOfKey (tupleKind (qW X.prog X.w)) (k,q,u)):=by
   rw [<- Array.getElem?_toList,e4,gX,ex];rfl
  obtain⟨f0,f1,f2,f3,f4,f5⟩:=hf it (by simp)
  refine Xv (I.ok.hd hc) st go h2 (fun e h' he B sb=>?_) fun he=>by rw [ee]at he;cases he
  rw [ee]at he;cases he;have I1:Inv X pins σ H {s with heap:=h'}:=I.turned (t':=s.toks) (fun b o hb e=>(sb.2 b hb).trans e) f0 f1 f3 f4 f5
  obtain⟨o',e,c,d⟩:=id B;exact⟨_,rfl,k8 (s:={s with heap:=h'}) e c d (by decide) ⟨.ref q,H,I1,rfl,⟨rfl,kvs,_,_,q,hH,hU hi,rfl,eq⟩,B,fun b hb=>(hf b hb).1⟩⟩
 done:=by
  intro X hP hw hK hc i pins s σ H E I hf st hg;subst hP hw hK;obtain⟨kvs,hH,hi⟩:=hg;obtain⟨go,z,y,xs,r,o,O,U,e1,e2,e3,e4,e5⟩:=(show ObjOk X.prog X.w H s.heap a (.frz ob (.dT kvs))from I.hok a _ hH)
  rw [go]at e1;cases e1;rw [h2]at e3;cases e3;have el:es.size=kvs.length:=by
   have a1:es.toList.length=xs.length:=by rw [e4,gy]
   have a2:=cI r;simp at a1;omega
  obtain⟨f0,f1,f2,f3,f4,f5⟩:=hf it (by simp)
  refine Xv (I.ok.hd hc) st go h2 (fun e h' he _ _=>?_) fun he h' eb=>⟨rfl,I.turned (t':=s.toks) (fun b o hb e=>eb b o hb e) f0 f1 f3 f4 f5⟩
  rw [cP (by omega)]at he
  cases he
 self:=fun _ _ _ _ _ st h=>wpAny_pyIter_keyiter st h
theorem Gr.tup{F H:Hp}(s:Le F H){q:Addr}{xs:List V}(z:H q=some (.tup xs)):Gr F H (upd F q (.tup xs)) H:=by
 refine⟨fun a u h=>?_,Le.refl,fun a u h=>?_,fun a h=>?_⟩
 ·by_cases e:a=q
  ·subst e;have:=s a u h;rw [z]at this;cases this;exact qN
  ·rw [qt e];exact h
 ·by_cases e:a=q
  ·subst e;rw [qN]at h;cases h;exact z
  ·rw [qt e]at h;exact s a u h
 ·by_cases e:a=q
  ·subst e;exact .inr (.inr ⟨xs,z⟩)
  ·rw [qt e]at h;exact .inl h
theorem Xx{κ:Kx}{F:Hp}:∀ k:List (Sum Int Str),Reps κ F (k.map kV) (k.map xS)
 | []=>rfl
 | x::r=>⟨kV x,r.map kV,rfl,by cases x<;>rfl,Xx r⟩
def Xy(k:List (Sum Int Str)):D:=.tup (k.map xS)
def iT(i:Nat):IF:=fun ρ=>match ρ[i]? with
 | some (some (.lk (.dT kds)))=>.ok (kds.map fun kv=>Xy kv.1)
 | _=>.stuck
theorem Xz{κ:Kx}{F:Hp}:∀{kds:List (List (Sum Int Str)×D)} {kvs:List (List Key×V)} {i:Nat} {k:List (Sum Int Str)} {d:D},RepT κ F kvs kds->kds[i]?=some (k,d)->∃ v,kvs[i]?=some (k,v)
 | [],_,i,_,_,_,h=>by simp at h
 | (q,e)::r,_,0,k,d,h,ek=>by
  obtain⟨v,kr,rfl,_,_⟩:=h;simp at ek;rw [<- ek.1];exact⟨v,rfl⟩
 | (q,e)::r,_,i+1,k,d,h,ek=>by
  obtain⟨v,kr,rfl,_,h2⟩:=h;obtain⟨u,eu⟩:=Xz (i:=i) h2 (by simpa using ek)
  exact⟨u,by simpa using eu⟩
theorem si_T(i:Nat){X:Cx}{F0 H0:Hp}{tg:Expr}{x:Str}{pos:Pos}(Y:X.N[i]?=some x:=by rfl)(Z:Vis X.env.scope x:=by trivial)(hd:(x==("__debug__":Str))=false:=by decide)
  (O:(x==("__classdict__":Str))=false:=by decide):SI X F0 H0 tg (.Name x pos) (iT i):=by
 refine⟨fun σ H R=>∃ a ob kvs,σ[i]?=some (some (.ref a))/\H a=some (.frz ob (.dT kvs))/\R (ItT a ob) H,fun pins s σ H R I ⟨a,ob,kvs,hσ,hH,hR⟩=>?_,fun σ F H ρ R S h=>?_⟩
 ·refine thn (jn (pos:=pos) Y Z hd O pins s σ H (fun v' H'=>v'=.ref a/\H'=H) I ⟨_,hσ,rfl,rfl⟩) fun u s1 ⟨v1,H1,I1,r1,e1,e2⟩=>?_
  subst e1 e2;obtain rfl:u=Value.ref a:=r1;obtain⟨go,z,y,xs,r,o,es,ep,g1,g2,g3,g4,g5⟩:=(show ObjOk X.prog X.w H1 s1.heap a (.frz ob (.dT kvs))from I1.hok a _ hH)
  rw [go]at g1;cases g1;refine qdb y go g2 g3 ?_;refine⟨s1.heap.objs.size,[s1.heap.objs.size],_,_,H1,rfl,I1.kept (t':=s1.toks) fun b o e=>gg _ e,qdc g3,⟨_,gH _ rfl,rfl,rfl⟩,fun b hb=>?_,hR⟩
  obtain rfl:b=s1.heap.objs.size:=by simpa using hb
  exact I1.fpOk (gw _) (I1.hok.fresh (gw _))
 ·unfold iT at h;split at h
  ·rename_i U ei;obtain⟨v,e1,rp,a,ob,kvs,rfl,fa⟩:=S.val i _ ei;obtain⟨a',B,ea,rd,rt⟩:=rp;cases ea;have ek:B=kvs:=by
    rcases rd with q|⟨_,q⟩
    ·rw [fa]at q;cases q
    ·rw [fa]at q;cases q;rfl
   subst ek;refine⟨a,ob,B,e1,S.s _ _ fa,?_⟩;have h:∀ F1 H1 J,Gr F H F1 H1->Walk (kx X) J F1 H0 (U.map fun kv=>Xy kv.1)->R J H1:=h
   refine h F H _ (Gr.refl S.s) ⟨fun j dd F2 H2 e l1 l2 _=>?_,fun j F2 H2 hj l1 l2 _=>⟨B,l2 _ _ (l1 _ _ fa),?_⟩⟩
   ·rw [gX]at e;obtain⟨⟨k,d⟩,ek,rfl⟩:=cQ.mp e;obtain⟨v,ev⟩:=Xz rt ek;refine⟨⟨B,l2 _ _ (l1 _ _ fa),(gu.mp ev).1⟩,fun y H' hy=>?_⟩
    obtain⟨rfl,W,k2,v2,q,g1,g2,rfl,g3⟩:=hy;rw [l2 _ _ (l1 _ _ fa)]at g1;cases g1;rw [ev]at g2;cases g2;exact⟨_,Gr.tup l2 g3,q,k.map kV,rfl,.inl (.inl qN),Xx k⟩
   ·rw [RepT.length rt];simpa using hj
  ·exact h.elim
section
variable{κ:Kx}{F0 H0 F H:Hp}{ρ:Rho}{σ:St}
theorem StOk.fix{i:Nat}{B:List (List (Sum Int Str)×D)}(S:StOk κ F0 H0 F H ρ σ)(Z:ρ[i]?=some (some (.od (.dT B)))):∃ a kvs,H a=some (.dT kvs) /\
  ∀ ob,∃ F',Le F F'/\StOk κ F0 H0 F' (upd H a (.frz ob (.dT kvs))) (ρ.set i (some (.lk (.dT B)))) σ:=by
 obtain⟨sh,a,bs,si,h0,hf,nd,⟨ha,W⟩,sp⟩:=S.dp i _ Z;have na:a∉bs:=(tf.mp nd).1;refine⟨a,_,ha,fun ob=>?_⟩
 generalize hk:(B.map Prod.fst).zip (bs.map V.ref)=kvs at ha;have O:∀{c},c∉a::bs->upd (fzIn F H bs) a (.frz ob (.dT kvs)) c=F c:=fun{c} n=>by
  rw [qt fun e=>n (by rw [e];simp)]
  exact gD fun m=>n (gp _ m)
 have U:∀{c},c∈bs->upd (fzIn F H bs) a (.frz ob (.dT kvs)) c=H c:=fun{c} m=>by
  rw [qt fun e=>na (by rw [<- e];exact m)]
  exact gB m
 have fn:∀ c∈a::bs,F c=none/\H0 c=none:=fun c m=>by
  rcases gl.mp m with rfl|m
  ·exact⟨hf,h0⟩
  ·obtain⟨_,e1,e2,_⟩:=Inn.at W m;exact⟨e2,e1⟩
 have l:Le F (upd (fzIn F H bs) a (.frz ob (.dT kvs))):=fun c u h=>by
  rw [O fun m=>by rw [(fn c m).1]at h;cases h];exact h
 have rt:RepT κ (upd (fzIn F H bs) a (.frz ob (.dT kvs))) kvs B:=by
  have:=Inn.repT (G:=upd (fzIn F H bs) a (.frz ob (.dT kvs))) W (fun b m=>U m) l
  rw [hk]at this;exact this
 refine⟨upd (fzIn F H bs) a (.frz ob (.dT kvs)),l,⟨⟨Le.trans S.gr.f l,fun c u h=>?_,fun c u h=>?_,fun c h=>?_⟩,by simpa using S.len,fun j w e=>?_,fun j k w w' c Y ej ek oj ok sj sk=>?_,fun j y e=>?_⟩⟩
 ·rw [qt (jy h h0)];exact S.gr.h c u h
 ·by_cases e:c=a
  ·subst e;rw [qN]at h ⊢;exact h
  ·rw [qt e];by_cases m:c∈bs
   ·rw [U m]at h;exact h
   ·rw [O (by simp [e,m])]at h;exact S.s c u h
 ·by_cases m:c∈a::bs
  ·exact .inr (.inl (fn c m).2)
  ·rw [O m]at h;exact S.gr.n c h
 ·rcases qE e with⟨rfl,z⟩|⟨ne,z⟩
  ·cases z;exact⟨_,si,⟨a,kvs,rfl,.inr ⟨ob,qN⟩,rt⟩,a,ob,kvs,rfl,qN⟩
  ·obtain⟨v,e1,q⟩:=S.val j w z;refine⟨v,e1,?_⟩;have nb:∀{c},v=.ref c->w.own=true->c∉a::bs:=fun{c} ev ow m=>by
    subst ev;exact sp j w c ne z ow m e1
   cases w with
   | fz d=>exact Rep.le l d q
   | br d=>obtain⟨c,oc,ec,eh,cr⟩:=q;exact⟨c,oc,ec,eh,OwnO.le l cr⟩
   | ow d=>obtain⟨c,oc,ec,c0,cf,ch,cr⟩:=q;exact⟨c,oc,ec,c0,by rw [O (nb ec rfl)];exact cf,by rw [qt fun e=>nb ec rfl (by rw [e];simp)];exact ch,OwnO.le l cr⟩
   | lk d=>exact⟨Rep.le l d q.1,RawT.le l q.2⟩
   | od d=>exact(sh j d ne z).elim
 ·rcases qE ej with⟨_,z⟩|⟨nj,ej⟩
  ·cases z;cases oj
  rcases qE ek with⟨_,z⟩|⟨nk,ek⟩
  ·cases z;cases ok
  exact S.sep j k w w' c Y ej ek oj ok sj sk
 ·rcases qE e with⟨_,z⟩|⟨ne,z⟩
  ·cases z
  ·exact(sh j y ne z).elim
end
def fix(i:Nat)(ρ:Rho):Rho:=match ρ[i]? with
 | some (some (.od (.dT kds)))=>ρ.set i (some (.lk (.dT kds)))
 | _=>ρ
def Zf(i:Nat)(s:SF):SF:=fun ρ=>s (fix i ρ)
theorem qdd{X:Cx}{F0 H0:Hp}{st:Stmt}{f:SF}(i:Nat)(h:SS X F0 H0 st f):SS X F0 H0 st (Zf i f):=by
 intro pins s σ F H ρ D S I k;unfold Zf L3.fix at k;split at k
 ·rename_i B e;obtain⟨a,kvs,ha,go⟩:=S.fix e;have ok:=(show ObjOk X.prog X.w H s.heap a (.dT kvs)from I.hok a _ ha)
  obtain⟨z,y,xs,r,o,es,ep,g1,g2⟩:=id ok;obtain⟨F',l,S'⟩:=go o;have I':Inv X pins σ (upd H a (.frz o (.dT kvs))) s:=I.write (x:=a) (e:=a) (h':=s.heap) (t':=s.toks) (by rw [ha];exact True.intro) (.inl rfl) (fun b u _ q=>q) ⟨o,g1⟩
   ⟨g1,ok.stay (fun b u _ q=>q) (fun b hb=>by
    have:b≠a:=fun e=>by rw [e,ha]at hb;cases hb
    rw [qt this];exact hb) fun b xs hb=>by
    have:b≠a:=fun e=>by rw [e,ha]at hb;cases hb
    rw [qt this];exact hb⟩
  exact h pins s σ F' _ _ D S' I' (PostS.le l k)
 ·exact h pins s σ F H ρ D S I k
def Qs:D->D->R En
 | .dT kvs,.tup ks=>(match jS ks with|some key=>okD (look key kvs)|none=>.stuck)
 | _,_=>.stuck
theorem XB{κ:Kx}{F:Hp}(k:List (Sum Int Str)):∀{kds:List (List (Sum Int Str)×D)} {kvs:List (List Key×V)},RepT κ F kvs kds->(∃ z d,qY kvs k=some z/\look k kds=some d/\Rep κ F z d)∨look k kds=none
 | [],_,h=>.inr rfl
 | (q,d)::r,_,h=>by
  obtain⟨v,kr,rfl,h1,h2⟩:=h;by_cases c:q=k
  ·exact .inl ⟨v,d,xF (p:=(q,v)) c,by unfold look;rw [gB c],h1⟩
  ·have e1:qY ((q,v)::kr) k=qY kr k:=xG (p:=(q,v)) c;have e2:look k ((q,d)::r)=look k r:=by
    show(if q=k then some d else look k r)=_
    rw [gD c]
   rw [e1,e2];exact XB k h2
theorem XD{κ:Kx}{F:Hp}:∀{ks:List D} {vs:List V} {key:List (Sum Int Str)},Reps κ F vs ks->jS ks=some key->vs=key.map kV
 | [],vs,key,h,e=>by cases e;exact h
 | d::ks,vs,key,h,e=>by
  obtain⟨v,r,rfl,h1,h2⟩:=h;unfold jS at e;cases e1:zN d with
  | none=>rw [e1]at e;cases e
  | some k =>
   cases e2:jS ks with
   | none=>rw [e1,e2]at e;cases e
   | some key' =>
    rw [e1,e2]at e;cases e;rw [XD h2 e2];have:v=kV k:=by
     cases d with
     | int j=>cases e1;exact h1
     | str j=>cases e1;exact h1
     | _=>cases e1
    rw [this];rfl
section
variable{X:Cx}{F0 H0:Hp}{a b:Expr}{fa fb:EF}{pos:Pos}
theorem qde(hu:X.A.units+10<cLine):IxD X Qs:=by
 intro value B pins s σ F H x y v u dx dy Q I l rx ry qx qy w hs;cases dx<;>first|exact w.elim|skip
 rename_i kds;cases dy<;>first|exact w.elim|skip
 rename_i ks;unfold Qs at w;dsimp only at w;cases e:jS ks with
 | none=>rw [e]at w;exact w.elim
 | some key =>
  rw [e]at w;dsimp only at w;obtain⟨p,kvs,rfl,hq,rk⟩:=RdV.dT l qx;cases (show v=Value.ref p from rx)
  obtain⟨q,vs,rfl,U,_,rs⟩:=RdV.tup l qy;cases (show u=Value.ref q from ry)
  have ev:=XD rs e;subst ev;obtain⟨its,r2,⟨o,g1,g2,n,g3⟩,_⟩:=I.tuple U;have O:(tupleKind (qW X.prog X.w)).is s.heap key q:=⟨o,its.toArray,n,g1,g2,g3,by simpa using Jm r2⟩
  obtain⟨z,hd,xs,W,dd⟩:=uR I.hok hq;rcases XB key rk with⟨z,d,a1,a2,rz⟩|a2
  ·rw [a2]at w;obtain⟨w',hw,Y⟩:=RelO.some_of (v:=z) (o:=(atKey xs key).map (·.2)) (by rw [<- a1];exact W.val key)
   obtain⟨pr,hp,Z⟩:=cQ.mp hw;refine tail_any dd.typeIs PySem.F.slot_dict_getitem.lookup (wpAny_getItem_heap (cJ (by omega)) O dd hp ?_) hs
   rw [Z];exact⟨z,H,I.tok _,Y,qZ (X:=X) l w rz⟩
  ·rw [a2]at w;exact w.elim
theorem qdf(z:X.A.units+10<cLine)(B:SE X F0 H0 a fa)(O:SE X F0 H0 b fb)(U:yn b:=by exact fun _ _=>rfl):SE X F0 H0 (.Subscript a b pos) (eOp Qs fa fb):=uX (qde z) B O U
end
open PySem PySem.Spec PyProof.Rows L2
open PySem.Builtin PySem.Builtin.Str
section
variable{X:Cx}{F0 H0:Hp}{tg:Expr}{pos:Pos}
def qdg:V->List V->Hp->VK->Prop:=fun x vs H Q=>∃ a b i r,x=.str a/\vs=[.str b]/\occurrences a b 0 a.length 1=i::r/\Q (.int i) H
theorem qdh:MtR X "str.index" qdg:=by
 intro pins s σ H x vs v us Q I rx rv h;obtain⟨a,b,i,r,rfl,rfl,ho,q⟩:=h;obtain⟨t,rfl⟩:=rx;obtain⟨u,rfl,ru⟩:=rv.one;obtain⟨t2,rfl⟩:=ru;refine call_gives PySem.F.slot_str_index (typeIs_str s a t) PySem.F.entry_str_index (PySem.F.args_str_index_2 _ _) (gives_str_index a b t t2 i r ho) ?_;exact⟨.int i,H,I.tok _,⟨_,rfl⟩,q⟩
def Qt:D->D->R En
 | .str x,.str y=>(match occurrences x y 0 x.length 1 with|i::_=>okI i|[]=>.stuck)
 | _,_=>.stuck
theorem XE{o e:Expr}{Y f:EF}{apos cpos:Pos}(Z:SE X F0 H0 o Y)(he:SE X F0 H0 e f)
  (B:attributeBase o "index" X.env (eval o X.env)=eval o X.env:=by rfl)
  (U:((backTo cpos (starEach [e] X.env)).all (fun x=>!x.1)&&(backToKw cpos (keywordEach [] X.env)).all (fun x=>x.1.isSome)
   && decide ([e].length+([]:List Keyword).length+(if ([]:List Keyword).isEmpty then 0 else 1)<30))=true:=by rfl)
  (O:(apos.endLine==cpos.line)=true:=by rfl) (W:starEach [e] X.env=(false,eval e X.env)::starEach [] X.env:=by rfl) (z:(backTo cpos (starEach [] X.env)).any (·.1)=false:=by rfl) :
  SE X F0 H0 (.Call (.Attribute o "index" apos) [e] [] cpos) (eOp Qt Y f):=by
 intro pins s σ F H ρ Q S I h;have P:=wQ (X:=X) PySem.F.plainAttrs_str PySem.F.slot_str_index PySem.F.type_str_index qdh (jp (e:=o)) (vJ (jp (e:=e)) w9 W) B U O W z;refine ve (pins:=pins) (σ:=σ) (P pins s σ H _ I (Z.sem S ((KE.bind h).imp fun w0 k0 y0 F0' H0' g0 q0=>?_)))
 have r0:=Vok.rd q0
 revert k0
 generalize w0.d=d0 at r0;intro k0;cases d0<;>first|(cases fe:f ρ with|exc _=>rw [fe]at k0;exact k0.elim|stuck=>rw [fe]at k0;exact k0.elim|ok w=>rw [fe]at k0;exact(show False from k0).elim)|skip
 rename_i x;cases RdV.str r0;refine⟨rfl,he.sem (S.grow g0) ((KE.bind k0).imp fun w k y F1 H1 g1 q1=>?_)⟩
 have r:=Vok.rd q1
 revert k
 generalize w.d=d at r;intro k;cases d<;>first|exact k.elim|skip
 rename_i y';unfold Qt at k;dsimp only at k;cases eo:occurrences x y' 0 x.length 1 with
 | nil=>rw [eo]at k;exact k.elim
 | cons i r' =>
  rw [eo]at k;cases RdV.str r;exact⟨x,y',i,r',rfl,rfl,eo,fun u s' rv I'=>k (.int i) u F1 H1 s' (g0.trans g1) rfl rv I'⟩
end
open PySem PySem.Spec PyProof.Rows L2
def one(c:Nat):D:=.str ⟨#[c]⟩
def okC:Option Nat->R En
 | some c=>.ok (.fz (one c))
 | none=>.stuck
def yG:D->D->R En
 | .str x,.int i=>if x.length<=sz then okC (ati x.cps.toList i)else .stuck
 | x,y=>qe x y
section
variable{X:Cx}{F0 H0:Hp}{a b:Expr}{fa fb:EF}{pos:Pos}
theorem qdi:IxD X yG:=by
 intro value B pins s σ F H x y v u dx dy Q I l rx ry qx qy w hs;by_cases c:∃ z i,dx=.str z/\dy=.int i
 ·obtain⟨z,i,rfl,rfl⟩:=c;unfold yG at w;dsimp only at w;by_cases hz:z.length<=sz
  ·rw [gB hz]at w;cases e:ati z.cps.toList i with
   | none=>rw [e]at w;exact w.elim
   | some ch =>
    rw [e]at w;exact Tq value B pins s σ H _ _ v u Q I rx ry ⟨z,i,ch,RdV.str qx,RdV.int qy,by rw [<- jB];exact hz,e,qZ (X:=X) l (v:=.str _) w rfl⟩ hs
  ·rw [gD hz]at w;exact w.elim
 ·refine Kc value B pins s σ F H x y v u dx dy Q I l rx ry qx qy ?_ hs;unfold yG at w;split at w
  ·exact(c ⟨_,_,rfl,rfl⟩).elim
  ·exact w
theorem Zg(z:SE X F0 H0 a fa)(B:SE X F0 H0 b fb)(O:yn b:=by exact fun _ _=>rfl):SE X F0 H0 (.Subscript a b pos) (eOp yG fa fb):=uX qdi z B O
end
def yH:Int->List Int->Int
 | m,[]=>m
 | m,a::r=>yH (if a<m then a else m) r
theorem XG:∀(r:List Int) (m:Int),yH m r∈m::r/\∀ a∈m::r,yH m r<=a
 | [],m=>⟨by simp [yH],fun a ha=>by simp at ha;subst ha;exact fY _⟩
 | b::r,m=>by
  unfold yH;obtain⟨h1,h2⟩:=XG r (if b<m then b else m)
  have hm:=h2 _ gY;refine⟨?_,fun a ha=>?_⟩
  ·rcases gl.mp h1 with e|h1
   ·rw [e];split<;>simp
   ·exact gp _ (gp _ h1)
  ·rcases gl.mp ha with rfl|ha
   ·split at hm<;>split<;>omega
   ·rcases gl.mp ha with rfl|ha
    ·split at hm<;>split<;>omega
    ·exact h2 a (gp _ ha)
def uf:List D->R En
 | [.lst ds]=>(match jG ds with|some (i::r)=>okI (yH i r)|_=>.stuck)
 | _=>.stuck
theorem XH{X:Cx}(O:X.calm=true:=by rfl):zD X (.builtin "min") uf:=by
 intro pins s σ F H xs us ds Q I l rx qx w;cases qx with
 | nil=>exact w.elim
 | cons q1 q2 =>
  rename_i d _ _;cases q2 with
  | cons _ _=>cases d<;>exact w.elim
  | nil =>
   cases d<;>first|exact w.elim|skip
   rename_i ds;unfold uf at w;dsimp only at w;cases e:jG ds with
   | none=>rw [e]at w;exact w.elim
   | some ns =>
    rw [e]at w;cases ns with
    | nil=>exact w.elim
    | cons i r =>
     dsimp only at w;obtain⟨p,vs,rfl,hq,rs⟩:=RdV.lst l q1;have ev:=yz e rs;subst ev;cases rx with
     | cons r1 r2 =>
      cases r2;cases r1;obtain⟨its,rv,pl,hz⟩:=I.list hq;have hi:IntsAre its (i::r):=kg rv;obtain⟨ys,ey⟩:=hi.allInts.items;have z:(i::r)=ys.toList.map (·.1):=by rw [<- hi.numsOf,<- nums_intItems,<- ey]
      have B:ys.size=r.length+1:=by
       have:=congrArg List.length z;simpa using this.symm
      have hl:=pl.isList;rw [ey]at hl;refine min_intList (I.ok.hd O) hl (by omega) fun v h' tk hv hk=>?_
      obtain⟨t,rfl⟩:=intItems_at hv;obtain⟨b1,b2⟩:=argBest_lt (numAt ys) (ys.size-1);generalize argBest (fun i j=>decide (numAt ys i<numAt ys j)) (ys.size-1)=k at b1 b2
      have m1:numAt ys k∈i::r:=by
       rw [z,numAt_eq];exact getD_mem (by rw [gy,fM];omega)
      have m2:∀ a∈i::r,numAt ys k<=a:=fun a ha=>by
       rw [z]at ha;obtain⟨j,hj,rfl⟩:=mem_getD ha;rw [gy,fM]at hj;rw [<- numAt_eq];exact b2 j (by omega)
      obtain⟨k1,k2⟩:=XG r i;have em:numAt ys k=yH i r:=Int.le_antisymm (m2 _ k1) (k2 _ m1);rw [em];exact⟨.int _,H,I.kept hk,⟨_,rfl⟩,qZ (X:=X) l (v:=.int _) w rfl⟩
section
variable{X:Cx}{F0 H0:Hp}{pos:Pos}
end
section
open PySem PySem.Spec PyProof.Rows L2
variable{X:Cx}
def XI:List D->R En
 | [.int i,.int j,.int k]=>okI (if j>i then(if k>j then k else j)else(if k>i then k else i))
 | _=>.stuck
theorem qdj(z:X.calm=true):wP X (.builtin "max") (fun xs H Q=>∃ i j k,xs=[.int i,.int j,.int k]/\Q (.int (if j>i then(if k>j then k else j)else(if k>i then k else i))) H):=by
 intro pins s σ H xs us Q I r h;obtain⟨i,j,k,rfl,q⟩:=h;cases r with
 | cons r1 r=>cases r with
  | cons r2 r=>cases r with
   | cons r3 r=>cases r with
    | nil =>
     obtain⟨t,rfl⟩:=r1;obtain⟨t',rfl⟩:=r2;obtain⟨B,rfl⟩:=r3;refine max_three_ints (I.ok.hd z) fun h' tk kk=>⟨_,H,I.kept kk,?_,q⟩
     by_cases hj:j>i
     ·rw [gB hj,gB hj];by_cases hk:k>j
      ·rw [gB hk,gB hk];exact⟨_,rfl⟩
      ·rw [gD hk,gD hk];exact⟨_,rfl⟩
     ·rw [gD hj,gD hj];by_cases hk:k>i
      ·rw [gB hk,gB hk];exact⟨_,rfl⟩
      ·rw [gD hk,gD hk];exact⟨_,rfl⟩
theorem qdk(B:X.calm=true:=by rfl):zD X (.builtin "max") XI:=ko (qdj B) fun F H xs ds Q l qx w=>by
 cases qx with
 | nil=>exact w.elim
 | @cons x d xs ds q1 q2 =>
  cases q2 with
  | nil=>cases d<;>exact w.elim
  | @cons y e ys es q2 q3 =>
   cases q3 with
   | nil=>cases d<;>first|exact w.elim|(cases e<;>exact w.elim)
   | @cons z g zs gs q3 q4 =>
    cases q4 with
    | cons _ _=>cases d<;>first|exact w.elim|(cases e<;>first|exact w.elim|(cases g<;>exact w.elim))
    | nil =>
     cases d<;>first|exact w.elim|skip
     cases e<;>first|exact w.elim|skip
     cases g<;>first|exact w.elim|skip
     cases RdV.int q1;cases RdV.int q2;cases RdV.int q3;exact⟨_,_,_,rfl,qZ (X:=X) l (v:=.int _) w rfl⟩
end
open PySem PySem.Spec PyProof.Rows L2
def adO:En->R D
 | .ow (.lst xs)=>.ok (.lst xs)
 | _=>.stuck
def y8(ad:En->R D)(gf:GF)(e:EF):List D->Rho->R (List D)
 | [],_=>.ok []
 | d::r,ρ=>(gf d ρ).bind fun ρ1=>(e ρ1).bind fun w=>(ad w).bind fun y=>(y8 ad gf e r ρ1).bind fun ys=>.ok (y::ys)
def Zh(ad:En->R D)(mk:List D->D)(n:Nat)(it:IF)(gf:GF)(e:EF):EF:=fun ρ=>(it ρ).bind fun ds=>if ds.length<=sz then(y8 ad gf e ds (zZ n ρ)).bind fun ys=>.ok (.od (mk ys))else .stuck
abbrev XM:=Zh adO D.lst
structure Mem(κ:Kx)(H₂:Hp)(p:Addr)(ad:En->R D)(mk:List D->D)where
 RL:Hp->Hp->List V->List D->Prop
 nil:∀ F H,RL F H [] []
 len:∀{F H vs as},RL F H vs as->vs.length=as.length
 gr:∀{F H F' H' vs as},Gr F H F' H'->RL F H vs as->RL F' H' vs as
 step:∀{F H F' H' vs as v w y},Gr F H F' H'->Le H₂ H->H p=some (.lst vs)->Vok κ H F' H' v w->ad w=.ok y->RL F H vs as->RL F' (upd H' p (.lst (vs++[v]))) (vs++[v]) (as++[y])
 fin:∀{F H vs as},H₂ p=none->F p=none->H p=some (.lst vs)->RL F H vs as->DV κ H₂ F H (.ref p) (mk as)
section
variable{κ:Kx}{H0 F H F' H':Hp}
end
def qdl(κ:Kx)(H₂:Hp)(p:Addr):Mem κ H₂ p adO D.lst where
 RL F H vs as:=∃ bs:List Addr,vs=bs.map V.ref/\(p::bs).Nodup/\Inn κ H₂ F H bs as
 nil F H:=⟨[],rfl,by simp,trivial⟩
 len:=fun⟨bs,e,_,i⟩=>by subst e;rw [gy];exact Inn.len i
 gr:=fun g ⟨bs,e,nd,i⟩=>⟨bs,e,nd,Inn.gr g i⟩
 step:=fun{F H F' H' vs as v w y} g l hp q e ⟨bs,ev,nd,i⟩=>by
  cases w<;>first|(cases e;done)|skip
  rename_i d;cases d<;>first|(cases e;done)|skip
  cases e;obtain⟨a,o,rfl,h0,hf,hh,r⟩:=q;cases o<;>first|exact r.elim|skip
  rename_i us;subst ev;have na:a∉p::bs:=fun m=>by
   rcases gl.mp m with rfl|m
   ·rw [hp]at h0;cases h0
   ·obtain⟨_,_,_,z⟩:=Inn.at i m;rw [z]at h0;cases h0
  have B:((p::bs)++[a]).Nodup:=cg.mpr ⟨nd,by simp,fun x hx y hy e=>by
   obtain rfl:y=a:=by simpa using hy
   exact na (by rw [<- e];exact hx)⟩
  refine⟨bs++[a],by simp,B,?_⟩
  refine Inn.same (G:=H) (G':=H) (H:=H') (fun z hz=>(qt fun e=>?_).symm) (fun _ _ q=>q) Le.refl (Inn.snoc (Le.none l h0) hf hh r (Inn.gr g i))
  subst e;exact(tf.mp B).1 hz
 fin:=fun{F H vs as} h0 hf hh ⟨bs,e,nd,i⟩=>by
  subst e;exact .inl ⟨as,rfl,p,bs,rfl,h0,hf,nd,hh,i⟩
theorem qdm{X:Cx}{pins:List (Addr×Obj)}{σ:St}{F₂ H₂:Hp}{s₂ O:Shared}{fp:List Addr}{it:Addr}{tn:Nat->Heap->Prop}{J:It}{tg elt iter:Expr}{scope:Scope}{cl:List (Str×Addr)}{N:List Str}{C p:Addr}
  {σ':St}{ρ':Rho}{ds:List D}{pos:Pos}{gf:GF}{e:EF}{RR:Result->Shared->Prop}{ad:En->R D}{mk:List D->D}(M:Mem (kx X) H₂ p ad mk)(h3:Le F₂ H₂)(T:Turn X.prog X.w X.K tg J fp it tn)(hc:X.calm=true)(st:tn 0 O.heap)(Wk:Walk (kx X) J F₂ H₂ ds)
  (hfp:∀ b∈fp,FpOk (cxC X s₂ H₂ scope cl C fp N) [] (upd H₂ p (.lst [])) b)(hp:H₂ p=none)(I4:Inv (cxC X s₂ H₂ scope cl C fp N) [] σ' (upd H₂ p (.lst [])) O)(S4:StOk (kx X) F₂ H₂ F₂ H₂ ρ' σ')(no:vB ρ')(hno:wY gf)
  (hg:SG (cxC X s₂ H₂ scope cl C fp N) F₂ H₂ tg gf)(he:SE (cxC X s₂ H₂ scope cl C fp N) F₂ H₂ elt e)(hsz:ds.length<=sz)
  (k:KE (fun _=>False) (y8 ad gf e ds ρ') fun ys=>∀ B F1 H1 vs s1,Gr F₂ H₂ F1 H1->F1 p=none->H1 p=some (.lst vs)->M.RL F1 H1 vs ys->Inv (cxC X s₂ H₂ scope cl C fp N) [] B H1 s1->RR (.ok .next) s1) :
  codeAny (model X.prog X.w) X.A (.compLoop (.ListComp elt [⟨tg,iter,[],0⟩] scope pos) 0 (.ref it) (.ref p) (compEnvC scope cl C X.env)) RR O:=by
 have W:∀{H':Hp},(∀ b∈fp,H' b=none)->∀ b∈fp,FpOk (cxC X s₂ H₂ scope cl C fp N) [] H' b:=fun hn b hb=>⟨hn b hb,(hfp b hb).2⟩
 obtain⟨tgv,PGv,hgv⟩:=hg;refine compLoop (fun m s=>∃ i B F1 H1 ρ1 vs,∃ as:List D,m=ds.length-i/\i<=ds.length/\Inv (cxC X s₂ H₂ scope cl C fp N) [] B H1 s/\tn i s.heap/\(∀ b∈fp,H1 b=none)/\StOk (kx X) F₂ H₂ F1 H1 ρ1 B/\vB ρ1 /\
  F1 p=none/\H1 p=some (.lst vs)/\M.RL F1 H1 vs as/\as.length<=i /\
  KE (fun _=>False) (y8 ad gf e (ds.drop i) ρ1) (fun ys=>∀ B F1 H1 vs s1,Gr F₂ H₂ F1 H1->F1 p=none->H1 p=some (.lst vs)->M.RL F1 H1 vs (as++ys)->Inv (cxC X s₂ H₂ scope cl C fp N) [] B H1 s1->RR (.ok .next) s1)) ?_ ds.length
  ⟨0,σ',F₂,upd H₂ p (.lst []),ρ',[],[],by simp,tZ _,I4,st,fun b hb=>(hfp b hb).1,S4.side hp (Le.none h3 hp) no,no,Le.none h3 hp,qN,M.nil _ _,gw _,by simpa using k⟩
 rintro m s ⟨i,B,F1,H1,ρ1,vs,as,rfl,hi,I1,st1,fr1,S1,no1,fp1,hp1,rs1,la,k1⟩;by_cases hlt:i<ds.length
 ·have ed:ds[i]?=some ds[i]:=by simp [hlt]
  have edr:ds.drop i=ds[i]::ds.drop (i+1):=fQ hlt;obtain⟨go,yl⟩:=Wk.go i ds[i] F1 H1 ed S1.gr.f S1.s S1.gr.h;rw [edr]at k1;refine thn (T.item (cxC X s₂ H₂ scope cl C fp N) rfl rfl rfl hc i [] s B H1 _ I1 (W fr1) st1 go) fun r s1' ⟨u,hr,h4⟩=>?_
  subst hr;refine thn h4 fun _ s5 ⟨x,H5,I5,r5,y5,st5,fr5⟩=>?_
  obtain⟨F5,g5,rx⟩:=yl x H5 y5;have I5':=I5.pinned (W fr5) (T.obj _ _ st5);have S5:=S1.grow g5;have k1:=KE.bind k1;cases eg:gf ds[i] ρ1 with
  | exc z=>rw [eg]at k1;exact k1.elim
  | stuck=>rw [eg]at k1;exact k1.elim
  | ok ρ2 =>
   rw [eg]at k1;have no2:=hno _ _ _ no1 eg;have k1:KE (fun _=>False) ((e ρ2).bind fun w=>(ad w).bind fun y=>(y8 ad gf e (ds.drop (i+1)) ρ2).bind fun ys=>.ok (y::ys)) _:=k1
   refine thn (PGv _ s5 B H5 x u (fun Y H6=>H6=H5/\StOk (kx X) F₂ H₂ F5 H5 ρ2 Y) I5' r5 (hgv B F5 H5 ρ1 x ds[i] _ S5 rx (by rw [eg];exact fun B S=>⟨rfl,S⟩))) fun _ s6 ⟨Y,H6,I6,e6,S6⟩=>?_
   subst e6;have h5:∀{Z:St} {F7 H7:Hp} {s7:Shared} {vs7:List V} {U:List D},Inv (cxC X s₂ H₂ scope cl C fp N) ([]++ka fp s5.heap) Z H7 s7->StOk (kx X) F₂ H₂ F7 H7 ρ2 Z->F7 p=none->H7 p=some (.lst vs7)->M.RL F7 H7 vs7 U->U.length<=i+1 ->
     KE (fun _=>False) (y8 ad gf e (ds.drop (i+1)) ρ2) (fun ys=>∀ B F1 H1 vs s1,Gr F₂ H₂ F1 H1->F1 p=none->H1 p=some (.lst vs)->M.RL F1 H1 vs (U++ys)->Inv (cxC X s₂ H₂ scope cl C fp N) [] B H1 s1->RR (.ok .next) s1) ->
     ∃ m,m<ds.length-i/\∃ i B F1 H1 ρ1 vs,∃(as:List D),m=ds.length-i/\i<=ds.length/\Inv (cxC X s₂ H₂ scope cl C fp N) [] B H1 s7/\tn i s7.heap/\(∀ b∈fp,H1 b=none)/\StOk (kx X) F₂ H₂ F1 H1 ρ1 B/\vB ρ1 /\
      F1 p=none/\H1 p=some (.lst vs)/\M.RL F1 H1 vs as/\as.length<=i /\
      KE (fun _=>False) (y8 ad gf e (ds.drop i) ρ1) (fun ys=>∀ B F1 H1 vs s1,Gr F₂ H₂ F1 H1->F1 p=none->H1 p=some (.lst vs)->M.RL F1 H1 vs (as++ys)->Inv (cxC X s₂ H₂ scope cl C fp N) [] B H1 s1->RR (.ok .next) s1):=by
    intro Z F7 H7 s7 vs7 U I7 S7 f7 h7 r7 l7 k7;refine⟨ds.length-(i+1),by omega,i+1,Z,F7,H7,ρ2,vs7,U,rfl,hlt,I7.unpinned,T.keep _ _ _ st5 fun b hb o e=>(I7.pin (b,o) (gF _ (gF _ (kf hb e)))).1,fun b hb=>?_,S7,no2,f7,h7,r7,l7,k7⟩
    obtain⟨o,e,d⟩:=T.obj _ _ st5 b hb;exact(I7.pin (b,o) (gF _ (gF _ (kf hb e)))).2.1
   have nf5:F5 p=none:=g5.no fp1 (hp1);refine Kr (X:=cxC X s₂ H₂ scope cl C fp N) (t:=je) .nil S6 I6 (fun F7 H7 s7 g7 I7=>?_)
   have nf7:F7 p=none:=g7.no nf5 (g5.h _ _ hp1);have hp7:H7 p=some (.lst vs):=g7.h _ _ (g5.h _ _ hp1);have g17:Gr F1 H1 F7 H7:=g5.trans g7;have l27:Le H₂ H7:=Le.trans S1.gr.h g17.h;rw [gB rfl];refine he _ s7 Y F7 H7 ρ2 _ (S6.grow g7) I7 (KE.impX (KE.bind k1) (fun wv kw v u F8 H8 s8 g8 q8 r8 I8=>?_) fun _ z=>z)
   cases es:ad wv with
   | exc z=>rw [es]at kw;exact kw.elim
   | stuck=>rw [es]at kw;exact kw.elim
   | ok y =>
    rw [es]at kw;have kw:KE (fun _=>False) ((y8 ad gf e (ds.drop (i+1)) ρ2).bind fun ys=>.ok (y::ys)) _:=kw
    have kw:=KE.bind kw;have S9:=(S6.grow g7).grow g8;have nf9:F8 p=none:=g8.no nf7 hp7;have lv:vs.length=as.length:=M.len rs1;refine thn (ki (X:=cxC X s₂ H₂ scope cl C fp N) _ s8 Y H8 (.ref p) [v] (.ref p) [u] (fun _ H9=>H9=upd H8 p (.lst (vs++[v]))) I8 rfl (.cons r8 .nil) ⟨p,vs,v,rfl,rfl,g8.h _ _ hp7,by rw [lv,<- jB];omega,rfl⟩) fun _ s9 ⟨_,H9,I9,_,e9⟩=>?_
    subst e9;refine h5 I9 (S9.side hp nf9 no2) nf9 qN (M.step g8 l27 hp7 q8 es (M.gr g17 rs1)) (by simp;omega) ?_
    exact kw.imp fun ys q B F1 H1 vs s1=>by
     have:(as++[y])++ys=as++(y::ys):=by simp
     rw [this];exact q B F1 H1 vs s1
 ·have ei:i=ds.length:=by omega
  subst ei;rw [List.drop_length]at k1;refine thn (T.done (cxC X s₂ H₂ scope cl C fp N) rfl rfl rfl hc _ [] s B H1 _ I1 (W fr1) st1 (Wk.stop _ F1 H1 (gw _) S1.gr.f S1.s S1.gr.h)) fun r s4' ⟨hr,I4'⟩=>?_
  subst hr;exact k1 B F1 H1 vs s4' S1.gr fp1 hp1 (by simpa using rs1) I4'
section
variable{X:Cx}{F0 H0:Hp}{pos:Pos}{tg elt iter:Expr}{scope:Scope}{fi:IF}{gf:GF}{e:EF}{ad:En->R D}{mk:List D->D}
theorem qdn{n:Nat}(N:List Str)(M:∀ H₂ p,Mem (kx X) H₂ p ad mk){use:Option (Value->Sem Unit)}(hi:SIc X F0 H0 tg iter fi)(hno:wY gf)
  (hg:∀ s₂ F₂ H₂ C fp,SG (cxD X scope N s₂ H₂ C fp) F₂ H₂ tg gf)(he:∀ s₂ F₂ H₂ C fp,SE (cxD X scope N s₂ H₂ C fp) F₂ H₂ elt e)
  (hc:X.calm=true)(Y:scope.kind=.function)(h3:zR X.env scope.names=true)(h5:wl (relabel scope X.env).names X.N N=true)(h7:N.length=X.N.length+n)
  (h6:∀ x∈scope.names,x.2=.local->scope.names.lookup x.1=some .local)(hs:∀ x,foldedSetIterable iter X.env x=pure x)
  {pins:List (Addr×Obj)}{s:Shared}{σ:St}{F H:Hp}{ρ:Rho}{Q:Value->Shared->Prop}{h8:Pos}(S:StOk (kx X) F0 H0 F H ρ σ)(I:Inv X pins σ H s)
  (h:KE (XP X F0 H0) (Zh ad mk n fi gf e ρ) fun w=>∀(p C:Addr) F1 H1 s1 m,Gr F H F1 H1->Vok (kx X) H F1 H1 (.ref p) w->Inv X pins σ H1 s1->s1.heap.Ns C m ->
   (∀(s2:Shared) H2 h' (σ':St),Inv X pins σ' H2 s2->H2 C=none->(∀ b o,b≠C->s2.heap.get? b=some o->h'.get? b=some o)->Inv X pins σ' H2 {s2 with heap:=h'})->H1 C=none->C≠X.env.locals->(∀ x c,X.env.cells.lookup x=some c->c≠C) ->
   compPost (model X.prog X.w) X.A X.xe use Q (.ref p) C (.ok .next) s1) :
  wpAny (model X.prog X.w) X.A (comprehension (.ListComp elt [⟨tg,iter,[],0⟩] scope pos) scope X.env h8 (newList []) false (eval iter X.env) use) Q X.xe s:=by
 have has:∀ n,X.env.kindOf n=some .cell->∃ c,X.env.cells.lookup n=some c:=fun n hn=>I.ok.has n (.inl hn)
 have hCl:=xQ scope.names [] h3 has trivial;have hCp:=Ks h3 has;refine cB rfl hs (JG h3 has) Y h6 ?_;obtain⟨wi,PIv,hwi⟩:=hi;cases ed:fi ρ with
 | exc x=>have h:=KE.bind h;rw [ed]at h;exact h.elim
 | stuck=>have h:=KE.bind h;rw [ed]at h;exact h.elim
 | ok ds =>
  have h:=KE.bind h;rw [ed]at h;refine thn (PIv pins s σ H (fun J H1=>∃ F1,Gr F H F1 H1/\Walk (kx X) J F1 H1 ds) I (hwi σ F H ρ _ S (by rw [ed];exact fun F1 H1 J g W=>⟨F1,g,W⟩))) fun v s1 h1=>thn h1 fun itv s₂ h2=>?_
  obtain⟨it,fp,tn,J,H₂,rfl,I2,T,st2,f2,F₂,g2,Wk⟩:=h2;refine tw (wpAny_newFunctionEnv (fun x hx=>(Cap.mem hCp x hx).1) (by intro y hy;simp at hy) (fun Z U B=>?_) Y)
  dsimp only at U B ⊢;generalize hH2:s₂.heap.push {cls:=.type "list",dict:=none,data:=.seq ([]:List Value).toArray}=HP at U B ⊢;have hC:HP.objs.size=s₂.heap.objs.size+1:=by rw [<- hH2,p5]
  have hDC:s₂.heap.objs.size≠HP.objs.size:=by rw [hC];exact gP (pM _)
  have old:∀ b o,s₂.heap.get? b=some o->Z.get? b=some o:=fun b o e =>
   B.extBut b o (gP (by rw [hC];exact pC (gv e))) (gg _ (hH2▸gg _ e))
  have h9:Z.get? s₂.heap.objs.size=some {cls:=.type "list",data:=.seq #[] 0}:=B.extBut _ _ hDC (gg _ (hH2▸gH _ rfl));have hp:H₂ s₂.heap.objs.size=none:=I2.hok.fresh (gw _);have O:s₂.heap.objs.size<HP.objs.size:=by rw [hC];exact pM _
  have hfC:H₂ HP.objs.size=none:=I2.hok.fresh (tF O);have I4:=Kp (N:=N) (n:=n) (tk:=s₂.toks+([]:List (Str×Value)).length) I2 T st2 f2 Y hCp hCl (JF h5) h7 O U old h9;have st4:tn 0 Z:=T.keep _ _ _ st2 fun b hb o e=>old b o e
  have S4:StOk (kx X) F₂ H₂ F₂ H₂ (zZ n ρ) (σ++List.replicate n none):=Ko n (S.grow g2);have ha:∀ b∈fp,FpOk (cxD X scope N s₂ H₂ HP.objs.size fp) [] (upd H₂ s₂.heap.objs.size (.lst [])) b:=fun b hb=>by
   obtain⟨f0,f1,f3,f4,f5,f6⟩:=f2 b hb;obtain⟨o,ho,_⟩:=T.obj 0 _ st2 b hb;have lb:=gv ho;refine⟨by rw [qt (gP lb)];exact f0,(show b≠HP.objs.size from gP (pE lb O)),fun z=>?_,.inl hb,fun x c e=>f5 x c (ClIn.look hCl e),fun q hq=>absurd (show q∈([]:List (Addr×Obj))from hq) (by simp)⟩
   rcases gl.mp (I2.stkSub b z)with q|q
   ·exact f1 q
   ·exact f3 q
  rw [yp]at h;by_cases csz:ds.length<=sz
  ·rw [gB csz]at h;have run:∀ h4:Shared,h4={s₂ with heap:=Z,toks:=s₂.toks+([]:List (Str×Value)).length} ->
     codeAny (model X.prog X.w) X.A (.compLoop (.ListComp elt [⟨tg,iter,[],0⟩] scope pos) 0 (.ref it) (.ref s₂.heap.objs.size) (compEnvC scope (clOf X.env scope.names []) HP.objs.size X.env))
      (compPost (model X.prog X.w) X.A X.xe use Q (.ref s₂.heap.objs.size) HP.objs.size) h4:=by
    rintro h4 rfl;refine qdm (pins:=pins) (σ:=σ) (N:=N) (s₂:=s₂) (F₂:=F₂) (M H₂ s₂.heap.objs.size) g2.s T hc st4 Wk ha hp I4 S4 (Kq n ρ) hno (hg _ _ _ _ _) (he _ _ _ _ _) csz (KE.impX (KE.bind h) (fun ys k σ1 F1 H1 vs s1 g1 nf hv rs I1=>?_) fun _ z=>z)
    have J1:Inv X pins σ H1 s1:=I2.call' (ch:=fp) I1.os I1.base I1.hok I1.bare fun b hb=>by
     obtain⟨f0,f1,f3,f4,f5,f6⟩:=f2 b hb;exact⟨f4,f1,f5,f6⟩
    obtain⟨m1,hn1,_⟩:=I1.loc;have cl2:∀ x c,X.env.cells.lookup x=some c->c≠HP.objs.size:=fun x c e z=>by
     obtain⟨v,o,ho,_⟩:=I2.cell x c e;exact tB _ (pE (gv ho) (z▸O))
    have lne:HP.objs.size≠X.env.locals:=hG (gP (pE I2.lt O));have dv:Vok (kx X) H F1 H1 (.ref s₂.heap.objs.size) (.od (mk ys)):=DV.older (fun c z=>Le.none g2.h z) ((M H₂ s₂.heap.objs.size).fin hp nf hv rs)
    refine k s₂.heap.objs.size HP.objs.size F1 H1 s1 m1 (g2.trans g1) dv J1 hn1 (fun s2 H2 h' σ' J2 hn kk=>?_) I1.free lne cl2
    refine J2.turned (t':=s2.toks) kk hn lne (.inr (t8 I2.sz (tF O))) cl2 fun q hq z=>?_
    exact tB _ (pE (gv (I2.pin q hq).1) (z▸O))
   exact codeAny_compStart_list (run _ rfl) (T.self _ 0 _ _ _ st4 (run _ rfl))
  ·rw [gD csz]at h;exact h.elim
theorem DV.deep{κ:Kx}{H F' H':Hp}{v:V}{d:D}(h:DV κ H F' H' v d)(O:∀ xs,d≠.tup xs):∃ a bs,v=.ref a/\(∀ c∈a::bs,H c=none)/\F' a=none/\(a::bs).Nodup/\Deep κ H F' H' a bs d:=by
 rcases h with⟨ds,rfl,a,bs,e1,h0,hf,nd,hh,i⟩|⟨ds,rfl,a,bs,B,e1,h0,hf,nd,hh,i⟩|⟨ds,y,e,_⟩|⟨_,_,_,e,_⟩
 ·refine⟨a,bs,e1,fun c m=>?_,hf,nd,hh,i⟩
  rcases gl.mp m with rfl|m
  ·exact h0
  ·obtain⟨_,z,_⟩:=Inn.at i m;exact z
 ·refine⟨a,bs++B.flatten,e1,fun c m=>?_,hf,nd,bs,B,rfl,hh,i⟩
  rcases gl.mp m with rfl|m
  ·exact h0
  ·obtain⟨_,z,_⟩:=In2.at i m;exact z
 ·exact(O _ e).elim
 ·exact(O _ e).elim
theorem Deep.older{κ:Kx}{H G F' H':Hp}{a:Addr}{bs:List Addr}{d:D}(l:∀ a,H a=none->G a=none)(h:Deep κ H F' H' a bs d):Deep κ G F' H' a bs d:=by
 cases d<;>first|exact(False.elim h)|exact⟨h.1,Inn.older l h.2⟩|exact h|skip
 obtain⟨b1,z,e,h1,h2⟩:=h;exact⟨b1,z,e,h1,In2.older l h2⟩
theorem StOk.setD{κ:Kx}{F0 H0 F H F' H':Hp}{ρ:Rho}{σ:St}(S:StOk κ F0 H0 F H ρ σ)(g:Gr F H F' H'){i:Nat}{v:V}{d:D}(q:DV κ H F' H' v d)(nt:∀ xs,d≠.tup xs)(Z:shal i ρ) :
  StOk κ F0 H0 F' H' (ρ.set i (some (.od d))) (σ.set i (some v)):=by
 obtain⟨a,bs,rfl,hn,hf,nd,dp⟩:=DV.deep q nt;have S':=S.grow g;obtain⟨o,ho,no⟩:=Deep.top dp;have h0:∀ c∈a::bs,H0 c=none:=fun c m=>Le.none S.gr.h (hn c m)
 have B:∀(k:Nat) (w:En) (b:Addr),k≠i->ρ[k]?=some (some w)->w.own=true->b∈a::bs->σ[k]?≠some (some (.ref b)):=fun k w b hk ek ok m sk=>by
  obtain⟨u,z⟩:=S.ownAt ek ok sk;rw [hn b m]at z;cases z
 refine⟨S'.gr,by simp [S.len],fun j w e=>?_,fun j k w w' b W ej ek oj ok sj sk=>?_,fun j y e=>?_⟩
 ·rcases qE e with⟨rfl,z⟩|⟨ne,z⟩
  ·cases z;have hl:j<σ.length:=by
    rw [<- S.len];have:=(gu.mp e).1;simpa using this
   exact⟨.ref a,gZ hl,a,o,rfl,h0 a (by simp),hf,ho,no⟩
  ·obtain⟨u,e1,q⟩:=S'.val j w z;exact⟨u,by rw [gM (hG ne)];exact e1,q⟩
 ·have O:∀{m:Nat},m≠i->(σ.set i (some (.ref a)))[m]?=some (some (.ref b))->σ[m]?=some (some (.ref b)):=fun{m} hm h=>by
   rw [gM (hG hm)]at h;exact h
  rcases qE ej with⟨e1,z⟩|⟨nj,Y⟩
  ·rcases qE ek with⟨e2,_⟩|⟨nk,U⟩
   ·exact W (e1.trans e2.symm)
   ·subst e1;have hl:j<σ.length:=by have:=(gu.mp sj).1;simpa using this
    rw [gZ hl]at sj;cases sj;exact B k w' a nk U ok (by simp) (O nk sk)
  ·rcases qE ek with⟨e2,z⟩|⟨nk,U⟩
   ·subst e2;have hl:k<σ.length:=by have:=(gu.mp sk).1;simpa using this
    rw [gZ hl]at sk;cases sk;exact B j w a nj Y oj (by simp) (O nj sj)
   ·exact S.sep j k w w' b W Y U oj ok (O nj sj) (O nk sk)
 ·rcases qE e with⟨rfl,z⟩|⟨nj,ej⟩
  ·cases z;have hl:j<σ.length:=by
    rw [<- S.len];have:=(gu.mp e).1;simpa using this
   refine⟨fun k z hk ek=>?_,a,bs,gZ hl,h0 a (by simp),hf,nd,Deep.older (fun c z=>Le.none S.gr.h z) dp,fun k w b hk ek ok m sk=>?_⟩
   ·rcases qE ek with⟨rfl,_⟩|⟨_,q⟩
    ·exact hk rfl
    ·exact Z k z hk q
   ·rcases qE ek with⟨rfl,_⟩|⟨nk,q⟩
    ·exact hk rfl
    ·rw [gM (hG nk)]at sk;exact B k w b hk q ok m sk
  ·exact(Z j y nj ej).elim
def Zi(i:Nat)(ρ:Rho):En->Out
 | .od (.tup _)=>.stuck
 | .od d=>if wq i ρ=true then .nx (ρ.set i (some (.od d)))else .stuck
 | _=>.stuck
def Zj(i:Nat)(e:EF):SF:=fun ρ=>sOf (e ρ) (Zi i ρ)
theorem qdo{i:Nat}{ρ:Rho}{P:Out->Prop}(B:P .stuck->False){w:En}(h:P (Zi i ρ w)):∃ d,w=.od d/\(∀ xs,d≠.tup xs)/\wq i ρ=true/\P (.nx (ρ.set i (some (.od d)))):=by
 unfold Zi at h;split at h
 ·exact(B h).elim
 ·rename_i d nt;by_cases c:wq i ρ=true
  ·rw [gB c]at h;exact⟨d,rfl,fun xs z=>nt xs (by rw [z]),c,h⟩
  ·rw [gD c]at h;exact(B h).elim
 ·exact(B h).elim
theorem qdp(i:Nat){x:Str}{pos' B:Pos}{n:Nat}(N:List Str)(M:∀ H₂ p,Mem (kx X) H₂ p ad mk)(hN:X.N.Nodup)(hi:SIc X F0 H0 tg iter fi)(hno:wY gf)
  (hg:∀ s₂ F₂ H₂ C fp,SG (cxD X scope N s₂ H₂ C fp) F₂ H₂ tg gf)(he:∀ s₂ F₂ H₂ C fp,SE (cxD X scope N s₂ H₂ C fp) F₂ H₂ elt e)
  (hix:X.N[i]?=some x:=by rfl)(hx:Loc X.env.scope x:=by trivial)(hsw:swapsWith (.ListComp elt [⟨tg,iter,[],0⟩] scope pos) (some (.Name x pos')) B.line X.env=pure true:=by rfl)
  (hf:X.fn x=true∨X.env.scope.names.lookup x=some .local:=by trivial)
  (hc:X.calm=true:=by rfl)(W:scope.kind=.function:=by rfl)(Y:zR X.env scope.names=true:=by rfl)(O:wl (relabel scope X.env).names X.N N=true:=by rfl)(Z:N.length=X.N.length+n:=by rfl)
  (U:∀ x∈scope.names,x.2=.local->scope.names.lookup x.1=some .local:=by decide +kernel)(hs:∀ x,foldedSetIterable iter X.env x=pure x:=by intro _;rfl) :
  SS X F0 H0 (.Assign [.Name x pos'] (.ListComp elt [⟨tg,iter,[],0⟩] scope pos) B) (Zj i (Zh ad mk n fi gf e)):=by
 intro pins s σ F H ρ D S I h;rw [d6 _ _ _ _ hsw];refine g6 (pI (g6 ?_));show wpAny _ X.A (do let _ <- comprehension (.ListComp elt [⟨tg,iter,[],0⟩] scope pos) scope X.env _ (newList []) false (eval iter X.env) (some (assign (.Name x pos') X.env))) _ _ s
 refine g6 (fq (qdn (use:=some (assign (.Name x pos') X.env)) (Q:=fun _ s'=>SP X pins D .next s') N M hi hno hg he hc W Y O Z U hs S I ((PostS.of h).imp fun w k p C F1 H1 s1 m g q I1 hn turn hC hL hcl=>?_)) (fun _ s' hq=>gk (gk hq)) fun _ _ e=>e)
 obtain⟨d,rfl,nt,c,k2⟩:=qdo (P:=PostS X F0 H0 F D) (fun z=>z) k
 show wpAny _ X.A (assign (.Name x pos') X.env (.ref p)) _ _ _;refine dO (Jg I1 hN hix hx (v:=.ref p) rfl (fun s2 I2 hch=>?_) hf)
 obtain⟨a,sb,ha⟩:=hch;have aC:C≠a:=by
  rcases ha with z|z
  ·rw [z];exact hL
  ·exact fun q=>hcl x a z q.symm
 refine⟨m,hn.sameBut sb aC,fun h' sb2=>⟨_,H1,turn s2 H1 h' _ I2 hC fun b o hb e=>(sb2.2 b hb).trans e,k2 _ F1 H1 g.f (S.setD g q nt (Xn c))⟩⟩
end
open PySem PySem.Spec PyProof.Rows L2
section
variable{X:Cx}{F0 H0:Hp}{pos:Pos}
end
def but(H:Hp)(a:Addr):Hp:=fun c=>if c=a then none else H c
theorem ug{H:Hp}{a:Addr}:but H a a=none:=gB rfl
theorem yI{H:Hp}{a c:Addr}(h:c≠a):but H a c=H c:=gD h
theorem XN{H:Hp}{a:Addr}:Le (but H a) H:=fun c u h=>by
 by_cases e:c=a
 ·subst e;rw [ug]at h;cases h
 ·rw [yI e]at h;exact h
section
variable{P:Program}{w:World}{K:Frag}{mg:Str->Option Value}{base:Heap}
end
theorem StOk.forget{κ:Kx}{F0 H0 F H:Hp}{ρ:Rho}{σ:St}{i:Nat}{d:D}{a:Addr}(S:StOk κ F0 H0 F H ρ σ)(B:ρ[i]?=some (some (.ow d)))(O:σ[i]?=some (some (.ref a))):StOk κ F0 H0 F (but H a) (ρ.set i none) σ:=by
 obtain⟨v,e1,b,o,rfl,h0,hf,hh,ro⟩:=S.val i _ B;rw [O]at e1;cases e1;refine⟨⟨S.gr.f,fun c u h=>?_,fun c u h=>?_,S.gr.n⟩,by simpa using S.len,fun j w e=>?_,fun j k w w' c U ej ek oj ok sj sk=>?_,fun j y e=>?_⟩
 ·rw [yI (jy h h0)];exact S.gr.h c u h
 ·rw [yI (jy h hf)];exact S.gr.s c u h
 ·rcases qE e with⟨_,z⟩|⟨ne,z⟩
  ·cases z
  obtain⟨v,e1,q⟩:=S.val j w z;refine⟨v,e1,?_⟩;have nb:∀{c},v=.ref c->w.own=true->c≠a:=fun{c} ev ow ec=>by
   subst ev ec;exact S.sep j i w _ c ne z B ow rfl e1 O
  cases w with
  | fz d=>exact q
  | br d=>exact q
  | ow d=>obtain⟨c,oc,ec,c0,cf,ch,cr⟩:=q;exact⟨c,oc,ec,c0,cf,(yI (nb ec rfl)).trans ch,cr⟩
  | lk d=>exact q
  | od d=>obtain⟨c,oc,ec,c0,cf,ch,nt⟩:=q;exact⟨c,oc,ec,c0,cf,(yI (nb ec rfl)).trans ch,nt⟩
 ·rcases qE ej with⟨_,z⟩|⟨nj,ej⟩
  ·cases z
  rcases qE ek with⟨_,z⟩|⟨nk,ek⟩
  ·cases z
  exact S.sep j k w w' c U ej ek oj ok sj sk
 ·rcases qE e with⟨_,z⟩|⟨nj,ej⟩
  ·cases z
  obtain⟨s1,c,bs,e1,c0,cf,nd,dp,sp⟩:=S.dp j y ej;have nb:∀ x∈c::bs,x≠a:=fun x m z=>by subst z;exact sp i _ _ (hG nj) B rfl m O
  refine⟨fun k z hk ek=>?_,c,bs,e1,c0,cf,nd,Deep.same (fun x m=>(yI (nb x m)).symm) (fun x m z=>z) Le.refl dp,fun k w x hk ek ok m=>?_⟩
  ·rcases qE ek with⟨_,q⟩|⟨_,q⟩
   ·cases q
   ·exact s1 k z hk q
  ·rcases qE ek with⟨_,q⟩|⟨_,q⟩
   ·cases q
   ·exact sp k w x hk q ok m
section
variable{X:Cx}{F0 H0:Hp}{pos:Pos}
end
section
variable{κ:Kx}{H0 F H:Hp}
end
section
variable{X:Cx}{F0 H0:Hp}{pos:Pos}
end
open PySem PySem.Spec PyProof.Rows L2
def Itv(K:Frag)(a:Addr)(n:Nat):It :=
 ⟨fun i H=>∃ xs x,SqL K H a xs/\xs.length=n/\i<n/\xs[n-1-i]?=some x,fun i H x H'=>H'=H/\∀ xs,SqL K H a xs->xs[n-1-i]?=some x,fun i H=>n<=i⟩
theorem qdq{P:Program}{w:World}{K:Frag}{tg:Expr}(a it:Addr)(n:Nat):Turn P w K tg (Itv K a n) [it] it (fun i h=>i<=n/\h.IsRevIter it a ((n:Int)-1-(i:Int)))where
 mem:=by simp
 obj:=fun i h ⟨_,st⟩ b hb=>by
  have e:b=it:=by simpa using hb
  subst e;obtain⟨o,e,c,d⟩:=st;exact⟨o,e,fun v z=>by rw [d]at z;cases z⟩
 keep:=fun i h h' ⟨l,st⟩ k=>⟨l,st.at fun o e=>k it (by simp) o e⟩
 item:=by
  intro X hP hw hK hc i pins s σ H E I hf ⟨le,st⟩ hg;subst hP hw hK;obtain⟨xs,x,hq,hn,hi,hx⟩:=hg;obtain⟨its,rv,p,hz⟩:=I.list hq;obtain⟨u,hu,ru⟩:=rv.get hx;obtain⟨f0,f1,f2,f3,f4,f5⟩:=hf it (by simp)
  have e1:(n:Int)-1-(i:Int)=((n-1-i:Nat):Int):=by omega
  rw [e1]at st;refine wpAny_pyNext_rev_item st p.isList (x:=u) (by simpa using hu) fun h' B sb=>?_
  have I1:Inv X pins σ H {s with heap:=h'}:=I.turned (t':=s.toks) (fun b o hb e=>(sb.2 b hb).trans e) f0 f1 f3 f4 f5
  have e2:((n-1-i:Nat):Int)-1=(n:Int)-1-((i+1:Nat):Int):=by omega
  rw [e2]at B;obtain⟨o,e,c,d⟩:=id B;exact⟨u,rfl,k8 (s:={s with heap:=h'}) e c d (by decide) ⟨x,H,I1,ru,⟨rfl,fun ys hy=>by rw [I.list_inj hy hq];exact hx⟩,⟨hi,B⟩,fun b hb=>(hf b hb).1⟩⟩
 done:=by
  intro X hP hw hK hc i pins s σ H E I hf ⟨le,st⟩ hg;subst hP hw hK;obtain⟨f0,f1,f2,f3,f4,f5⟩:=hf it (by simp)
  have hg:n<=i:=hg;have e1:(n:Int)-1-(i:Int)=-1:=by omega
  rw [e1]at st;exact wpAny_pyNext_rev_end (I.ok.hd hc) st fun h' eb=>⟨rfl,I.turned (t':=s.toks) (fun b o hb e=>eb b o hb e) f0 f1 f3 f4 f5⟩
 self:=fun _ _ _ _ _ ⟨_,st⟩ h=>dj st h
theorem XO{κ:Kx}{F1 G:Hp}{a:Addr}{vs:List V}{ds:List D}(B:∀ F H,Le F1 F->Le F H->Le G H->SqL κ.K H a vs)(rs:Reps κ F1 vs ds):Walk κ (Itv κ.K a vs.length) F1 G ds.reverse where
 go:=fun i x F H ed l1 l lg=>by
  have ll:=Reps.length rs;have hi:i<ds.length:=by have:=(gu.mp ed).1;simpa using this
  rw [List.getElem?_reverse hi]at ed;obtain⟨v,ev,rv⟩:=Reps.get rs ed;have q:=B F H l1 l lg;rw [<- ll]at ev;refine⟨⟨vs,v,q,rfl,by omega,ev⟩,fun y H' z=>?_⟩
  obtain⟨rfl,w⟩:=z;have:=w vs q;rw [ev]at this;cases this;exact⟨F,Gr.refl l,Rep.le l1 x rv⟩
 stop:=fun i F H hi l1 l lg=>by
  show vs.length<=i;rw [Reps.length rs];simpa using hi
def Qu(i:Nat):IF:=fun ρ=>match ρ[i]? with
 | some (some (.fz (.lst ds)))=>.ok ds.reverse
 | some (some (.br (.lst ds)))=>.ok ds.reverse
 | _=>.stuck
section
variable{X:Cx}{F0 H0:Hp}{tg:Expr}{pos:Pos}
theorem qdr(i:Nat){x:Str}{np cp:Pos}(W:X.mg "reversed"=none)(Y:X.N[i]?=some x:=by rfl)(Z:Vis X.env.scope x:=by trivial)(hd:(x==("__debug__":Str))=false:=by decide)
  (O:(x==("__classdict__":Str))=false:=by decide)(hg:Gl X "reversed":=by rfl)(U:starEach [.Name x pos] X.env=[(false,eval (.Name x pos) X.env)]:=by rfl) :
  SI X F0 H0 tg (.Call (.Name "reversed" np) [.Name x pos] [] cp) (Qu i):=by
 refine⟨fun σ H R=>∃ a xs,σ[i]?=some (some (.ref a))/\SqL X.K H a xs/\R (Itv X.K a xs.length) H,fun pins s σ H R I ⟨p,xs,hσ,hq,hR⟩=>?_,fun σ F H ρ R S h=>?_⟩
 ·refine Call_ (zi I hg W boot_reversed (tt ?_ U rfl));rw [U];refine gJ (thn (jn (pos:=pos) Y Z hd O pins s σ H (fun v' H'=>v'=.ref p/\H'=H) I ⟨_,hσ,rfl,rfl⟩) fun u s1 ⟨v1,H1,I1,r1,e1,e2⟩=>?_)
  subst e1 e2;obtain rfl:u=Value.ref p:=r1;refine t7 ?_;obtain⟨its,rv,pl,hz⟩:=I1.list hq;have z:=rv.length;refine call_reversed_list pl.isList ?_;have B:(s1.heap.push (revObj p ((its.toArray.size:Int)-1))).IsRevIter s1.heap.objs.size p ((xs.length:Int)-1-((0:Nat):Int)):=by
   refine⟨_,gH _ rfl,rfl,?_⟩;rw [z];simp [revObj]
  refine dj (s:={s1 with heap:=s1.heap.push (revObj p ((its.toArray.size:Int)-1))}) B ?_;refine⟨_,_,_,_,H1,rfl,I1.kept (t':=s1.toks) (fun b o e=>gg _ e),qdq p s1.heap.objs.size xs.length,⟨tZ _,B⟩,fun b hb=>?_,hR⟩
  obtain rfl:b=s1.heap.objs.size:=by simpa using hb
  exact I1.fpOk (gw _) (I1.hok.fresh (gw _))
 ·unfold Qu at h;cases ew:ρ[i]? with
  | none=>rw [ew]at h;exact h.elim
  | some w =>
   rw [ew]at h;cases w with
   | none=>exact h.elim
   | some w =>
    obtain⟨v,e1,q⟩:=S.val i w ew;cases w with
    | ow d=>exact h.elim
    | lk d=>exact h.elim
    | od d=>exact h.elim
    | fz d =>
     cases d<;>first|exact h.elim|skip
     obtain⟨a,vs,rfl,hq,rs⟩:=q;exact⟨a,vs,e1,SqL.le S.s hq,h F H _ (Gr.refl S.s) (XO (κ:=kx X) (fun F' H' l1 l _=>SqL.le l (SqL.le l1 hq)) rs)⟩
    | br d =>
     obtain⟨a,o,rfl,eh,ro⟩:=q;cases d<;>first|exact h.elim|skip
     cases o<;>first|exact ro.elim|skip
     exact⟨a,_,e1,SqL.of (S.gr.h _ _ eh),h F H _ (Gr.refl S.s) (XO (κ:=kx X) (fun F' H' _ _ lg=>SqL.le lg (SqL.of eh)) ro)⟩
end
open PySem PySem.Spec PyProof.Rows L2
inductive EntS(w:World)(K:Frag):List DictEntry->List (Sum Int Str×D)->Prop
 | nil:EntS w K [] []
 | cons {e:DictEntry} {es:List DictEntry} {x:Str} {t:Tok} {d:D} {r:List (Sum Int Str×D)}:e.key=.str x t->e.hash=hashStr w x->vj K 8 e.val=some d->EntS w K es r->EntS w K (e::es) ((.inr x,d)::r)
def DatS(w:World)(K:Frag)(a:Addr)(l:List (Sum Int Str×D)):Prop:=∃ o es ep,K.lookup a=some o/\o.data=.dict es ep/\(o.cls==Value.type "dict"&&o.dict==none&&o.slots.size==0&&!(a==sysModules))=true/\(l.map (·.1)).Nodup/\EntS w K es.toList l
theorem qds{κ:Kx}{es:List DictEntry}{l:List (Sum Int Str×D)}(h:EntS κ.w κ.K es l) :
  ∃ kvs vs,KV kvs vs/\Pairs (qW κ.P κ.w) es vs/\vs.map (·.1)=l.map (·.1)/\(∀ e∈es,∃ k,(qW κ.P κ.w).is k e.key=true/\e.hash=(qW κ.P κ.w).hash k)/\∀ F,RepK κ F kvs l:=by
 induction h with
 | nil=>exact⟨[],[],.nil,.nil,rfl,fun e he=>(nomatch he),fun _=>rfl⟩
 | @cons e es x t d r ek eh ed _ ih =>
  obtain⟨kvs,vs,r1,r2,r3,r4,r5⟩:=ih;obtain⟨v,rv,qv⟩:=Km 8 e.val d ed;have hk:(qW κ.P κ.w).is (Sum.inr x) e.key=true:=by rw [ek];exact YF _ _ x t
  refine⟨(Sum.inr x,v)::kvs,(Sum.inr x,e.val)::vs,.cons ⟨rfl,rv⟩ r1,.cons hk rfl r2,by simp [r3],fun e' he=>?_,fun F=>⟨v,kvs,rfl,qv F,r5 F⟩⟩
  rcases gl.mp he with z|he
  ·subst z;exact⟨Sum.inr x,hk,eh⟩
  ·exact r4 e' he
theorem qdt{κ:Kx}{a:Addr}{l:List (Sum Int Str×D)}(h:DatS κ.w κ.K a l):∃ x,RelV x (.ref a)/\∀ F,Rep κ F x (.dK l):=by
 obtain⟨o,es,ep,lk,ed,c,nd,en⟩:=h;simp only [gK]at c;obtain⟨⟨⟨c1,c2⟩,c3⟩,c4⟩:=c;obtain⟨kvs,vs,r1,r2,r3,r4,r5⟩:=qds en;have z:o.slots=#[]:=by
  have:o.slots.size=0:=by simpa using c3
  exact Array.eq_empty_of_size_eq_zero this
 exact⟨.ref a,rfl,fun F=>⟨a,kvs,rfl,.inr ⟨by simpa using c4,o,es,ep,vs,lk,⟨by simpa using c1,by simpa using c2,z⟩,ed,fun e he=>r4 e (by simpa using he),r2,by rw [r3];exact nd,r1⟩,r5 F⟩⟩
open PySem PySem.Spec PyProof.Rows L2
theorem Zk:∀{xs:List Value} {ns:List Int} {i:Nat} {v:Value},IntsAre xs ns->xs[i]?=some v->∃ a t,v=.int a t/\ns[i]?=some a
 | _,_,i,v,.nil,h=>by simp at h
 | _,_,0,v,.cons a t _,h=>by simp at h;exact⟨a,t,h.symm,rfl⟩
 | _,_,i+1,v,.cons a t r,h=>by
  obtain⟨b,u,e1,e2⟩:=Zk (i:=i) r (by simpa using h)
  exact⟨b,u,e1,by simpa using e2⟩
section
open PySem.SeqAt PySem.MeetsSeq PySem.MeetsSeq2 PySem.MeetsSeq3
open PySem.AutoSeq1 (wpAny_loadPart')
end
section
variable{X:Cx}
end
def qdu(K:Frag):V->List V->Hp->VK->Prop:=fun x vs H Q=>∃(p:Addr) (ns:List Int) (v:Int) (j:Nat),x=.ref p/\SqL K H p (ns.map V.int)/\vs=[.int v]/\ns.findIdx? (fun n:Int=>n==v)=some j/\Q (.int (j:Int)) H
def isV(v:Int):Value->Bool
 | .int a _=>a==v
 | _=>false
section
variable{X:Cx}
theorem qdv:MtR X "list.index" (qdu X.K):=by
 intro pins s σ H x vs v us Q I rx rv h;obtain⟨p,ns,n0,j,rfl,hq,rfl,hj,q⟩:=h;cases rx;obtain⟨u,rfl,ru⟩:=rv.one;obtain⟨t2,rfl⟩:=ru;obtain⟨its,r1,p1,hz⟩:=I.list hq;have l1:=r1.length;have ia:IntsAre its ns:=kg r1;have il:=ia.length;obtain⟨⟨cls,dd,data,sl⟩,n,ho,hc,Y,hd⟩:=id p1;simp only at hc hd;subst hc hd;obtain⟨jl,jt,jf⟩:=List.findIdx?_eq_some_iff_getElem.mp hj;have W:its.toArray.size=ns.length:=by simp;omega
 have B:∀(m:Nat) (hm:m<its.toArray.size) (z:m<ns.length),isV n0 its.toArray[m]=(ns[m]==n0):=fun m hm z=>by
  obtain⟨a,t,e1,e2⟩:=Zk (i:=m) ia (hU (by simpa using hm))
  have e3:its.toArray[m]=.int a t:=by simpa using e1
  have e4:ns[m]=a:=by rw [hU z]at e2;exact fu e2
  rw [e3,e4];rfl
 refine cY (prog:=X.prog) (w:=X.w) PySem.F.slot_list_index ⟨_,ho,rfl⟩ PySem.F.entry_list_index (PySem.F.args_list_index_2 _ _) (PySem.SeqAt.list_indexAt p its.toArray n dd sl (.int n0 t2) (isV n0) j (by omega) (by rw [fm]at hz;simp at hz;omega) (by rw [B j (by omega) jl];exact jt) (fun m hm O=>by
  rw [B m hm (by omega)]
  have:=jf m O;simpa using this) X.prog X.w) ⟨ho,fun y hy=>?_,?_⟩
 ·obtain⟨i,hi,U⟩:=Array.mem_iff_getElem.mp hy;obtain⟨a,t,e1,e2⟩:=Zk (i:=i) ia (hU (by simpa using hi))
  have e3:its.toArray[i]=.int a t:=by simpa using e1
  rw [<- U,e3];exact PySem.SeqAt.EqAt.int_int a t n0 t2
 ·exact⟨.int j,H,I.tok _,⟨_,rfl⟩,q⟩
end
def Zl:D->D->R En
 | .lst xs,.int v=>(match jG xs with
  | some ns=>(match ns.findIdx? (fun n:Int=>n==v)with|some j=>okI (j:Int)|none=>.stuck)
  | none=>.stuck)
 | _,_=>.stuck
section
variable{X:Cx}{F0 H0:Hp}
theorem qdw{o e:Expr}{Y f:EF}{apos cpos:Pos}(Z:SE X F0 H0 o Y)(he:SE X F0 H0 e f)
  (B:attributeBase o "index" X.env (eval o X.env)=eval o X.env:=by rfl)
  (U:((backTo cpos (starEach [e] X.env)).all (fun x=>!x.1)&&(backToKw cpos (keywordEach [] X.env)).all (fun x=>x.1.isSome)
   && decide ([e].length+([]:List Keyword).length+(if ([]:List Keyword).isEmpty then 0 else 1)<30))=true:=by rfl)
  (O:(apos.endLine==cpos.line)=true:=by rfl) (W:starEach [e] X.env=(false,eval e X.env)::starEach [] X.env:=by rfl) (z:(backTo cpos (starEach [] X.env)).any (·.1)=false:=by rfl) :
  SE X F0 H0 (.Call (.Attribute o "index" apos) [e] [] cpos) (eOp Zl Y f):=by
 intro pins s σ F H ρ Q S I h;have P:=wQ (X:=X) fB PySem.F.slot_list_index PySem.F.type_list_index qdv (jp (e:=o)) (vJ (jp (e:=e)) w9 W) B U O W z;refine ve (pins:=pins) (σ:=σ) (P pins s σ H _ I (Z.sem S ((KE.bind h).imp fun w0 k0 y0 F0' H0' g0 q0=>?_)))
 have r0:=Vok.rd q0
 revert k0
 generalize w0.d=d0 at r0;intro k0;cases d0<;>first|(cases fe:f ρ with|exc _=>rw [fe]at k0;exact k0.elim|stuck=>rw [fe]at k0;exact k0.elim|ok w=>rw [fe]at k0;exact(show False from k0).elim)|skip
 rename_i xs;obtain⟨p,vs,rfl,hq,rs⟩:=RdV.lst g0.s r0;refine⟨.inl ⟨rfl,vs,hq⟩,he.sem (S.grow g0) ((KE.bind k0).imp fun w k y F1 H1 g1 q1=>?_)⟩
 have r:=Vok.rd q1
 revert k
 generalize w.d=d at r;intro k;cases d<;>first|exact k.elim|skip
 rename_i v;unfold Zl at k;dsimp only at k;cases ei:jG xs with
 | none=>rw [ei]at k;exact k.elim
 | some ns =>
  rw [ei]at k;dsimp only at k;have ev:=yz ei rs;subst ev;cases ej:ns.findIdx? (fun n:Int=>n==v)with
  | none=>rw [ej]at k;exact k.elim
  | some j =>
   rw [ej]at k;cases RdV.int r;exact⟨p,ns,v,j,rfl,SqL.le g1.h hq,rfl,ej,fun u s' rv I'=>k (.int (j:Int)) u F1 H1 s' (g0.trans g1) rfl rv I'⟩
end
open PySem L2
section
variable{X:Cx}
end
section
variable{prog:Program}{w:World}{A:Around}{R:Result->Shared->Prop}{I l S:Addr}{us:List Value}{rk:Value->List Int}{h0:Heap}{M:List Int}
end
open PySem PySem.Spec PyProof.Rows L2
open PySem PySem.Spec PyProof.Rows L2
section
variable{prog:Program}{w:World}{A:Around}{E:Value->Shared->Prop}{s:Shared}
end
section
variable{prog:Program}{w:World}{A:Around}{E:Value->Shared->Prop}{s:Shared}
end
open PySem PySem.Spec PyProof.Rows L2
def vE(dn:Den)(fa:List EF)(ρ:Rho):Option Xc:=match evs fa ρ with
 | .ok ws=>(match qU ws with
  | .ok ys=>(match dn ys with
   | .exc x=>some x
   | _=>none)
  | _=>none)
 | _=>none
def sX(dn:Den)(fa:List EF)(st:SF):SF:=fun ρ=>match vE dn fa ρ with
 | some x=>.exc (nrm x)
 | none=>st ρ
def RX(X:Cx)(F0 H0:Hp)(e:Expr)(dn:Den)(fa:List EF):Prop :=
 ∀(pins:List (Addr×Obj)) (s:Shared) (σ:St) (F H:Hp) (ρ:Rho) (Q:Value->Shared->Prop) (x:Xc),StOk (kx X) F0 H0 F H ρ σ->Inv X pins σ H s->vE dn fa ρ=some x->XPS X F0 H0 (nrm x) ->
  wpAny (model X.prog X.w) X.A (eval e X.env) Q X.xe s
theorem qdx{dn:Den}{fa:List EF}{ρ:Rho}{x:Xc}(h:vE dn fa ρ=some x):∃ ws ys,evs fa ρ=.ok ws/\qU ws=.ok ys/\dn ys=.exc x:=by
 unfold vE at h;split at h
 ·rename_i ws ew;split at h
  ·rename_i ys ey;split at h
   ·rename_i x' ex;cases h;exact⟨ws,ys,ew,ey,ex⟩
   ·cases h
  ·cases h
 ·cases h
section
variable{X:Cx}{F0 H0:Hp}{pos p pos2:Pos}{e:Expr}{es:List Expr}{fa:List EF}{x:Str}{k n:Nat}{f:Addr}{fd:FuncData}{ps:List Str}{dn:Den}{st:SF}
theorem kJ(G:FnOk X.prog X.w X.K X.mg X.base (CX1 X.prog X.w X.mg) k f fd ps (spX (kx X) dn n))(Y:Room k X.A)(Z:X.mg x=some (.ref f))(hk:keepIn X.K (.ref f)=true)(hb:Binds X.K fd ps [])(ha:SA X F0 H0 (e::es) fa)
  (hn:fa.length=n:=by rfl)(hg:Gl X x:=by rfl)(O:(x==("__debug__":Str))=false:=by decide)(he:starEach (e::es) X.env=(false,eval e X.env)::starEach es X.env:=by rfl)(U:(backTo pos (starEach es X.env)).any (·.1)=false:=by rfl) :
  RX X F0 H0 (.Call (.Name x p) (e::es) [] pos) dn fa:=by
 intro pins s σ F H ρ Q x0 S I hx h;obtain⟨ws,ys,ef,ea,ed⟩:=qdx hx;refine hV (vd I hg Z ?_ O);refine fC (h₀:=X.base) I.ok.mod.kin hk (ha pos pins s σ F H ρ _ S I ?_) he U;rw [ef];intro vs us F1 H1 s1 g1 q1 r1 I1;refine⟨I1.kIn,?_⟩;obtain⟨g2,l2⟩:=zC S.s g1;have A:=yw (κ:=kx X) g1.s q1 ea (qL H F1 H1) l2 (fun a o e0 e2=>by unfold qL;rw [e0];exact e2)
 have hl:vs.length=n:=by
  rw [<- hn,<- yx fa ρ ws ef];clear A ea h r1
  revert vs
  have:∀(ws:List En) (vs:List V),Voks (kx X) H F1 H1 vs ws->vs.length=ws.length:=by
   intro ws
   induction ws with
   | nil=>intro vs h;cases (show vs=[]from h);rfl
   | cons w ws ih =>
    intro vs h;obtain⟨v,r,rfl,_,h2⟩:=h;simp [ih r h2]
  intro vs h;exact this ws vs h
 have r2:Vals (vs++[]) (us++[]):=r1.append .nil;have B:spX (kx X) dn n vs H1 (fun _ _=>False) (fun v a H'=>v=.str x0.cls 0/\a=atc x0/\∃ F',Gr (qL H F1 H1) H1 F' H'):=⟨hl,qL H F1 H1,ys,g2.s,A,by rw [ed];exact fun F' H' g'=>⟨rfl,rfl,F',g'⟩⟩
 refine fq (py (pU (G.run X.A X.stack s1 H1 ⟨us,[]⟩ us vs (fun _ _=>False) (fun v a H'=>v=.str x0.cls 0/\a=atc x0/\∃ F',Gr (qL H F1 H1) H1 F' H') Y I1.env0 ?_ r1 B) fun r s' z=>?_)) (fun _ _ z=>z) fun _ _ z=>z
 ·have:=hb s1 us I1.kIn (by rw [<- r2.length,tP];exact G.len vs H1 _ _ B)
  rwa [tP]at this
 ·cases r with
  | ok fl=>cases fl<;>first|exact z.elim|(obtain⟨_,_,_,_,_,_,_,z⟩:=z;exact z.elim)
  | error er =>
   obtain⟨y,H',a,rfl,fl,ec,W,F',g'⟩:=z;have ey:nrm x0=y:=(Z2 (by injection ec with z;exact z.symm) W.symm).trans (kG fl.ok)
   rw [ey]at h;exact h pins σ H1 s1 F' H' s' a (some .none) (.inr rfl) (S.gr.trans (g2.trans g')) I1 fl
theorem Qv{pos':Pos}{y:Str}(z:SS X F0 H0 (.Assign [.Name y pos'] e pos) st)(h:RX X F0 H0 e dn fa)(B:swapsWith e (some (.Name y pos')) pos.line X.env=pure false:=by rfl):SS X F0 H0 (.Assign [.Name y pos'] e pos) (sX dn fa st):=by
 intro pins s σ F H ρ D S I q;unfold sX at q;cases er:vE dn fa ρ with
 | none=>rw [er]at q;exact z pins s σ F H ρ D S I q
 | some x0 =>
  rw [er]at q;exact cT (h pins s σ F H ρ _ x0 S I er q) B
end
open PySem PySem.Spec PyProof.Rows L2
section
variable{prog:Program}{w:World}{A:Around}{E:Value->Shared->Prop}{s:Shared}{kd:SortKind}{rk:Value->Int}{ini:Array Keyed}
end
open PySem PySem.Spec PyProof.Rows L2
section
variable{rk:Value->Int}{ini:Array Keyed}
end
open PySem PySem.Spec PyProof.Rows L2
section
variable{prog:Program}{w:World}{A:Around}{E:Value->Shared->Prop}{s:Shared}{kd:SortKind}{rk:Value->Int}{ini:Array Keyed}
structure Same(st z:SortSt):Prop where
 kd:kindOf z=kindOf st
 ar:arrOf z=arrOf st
 pd:pendingOf z=pendingOf st
 fl:failedOf z=failedOf st
end
open PySem PySem.Spec PyProof.Rows L2
section
variable{prog:Program}{w:World}{A:Around}{E:Value->Shared->Prop}{s:Shared}{kd:SortKind}{rk:Value->Int}{ini:Array Keyed}
end
open PySem PySem.Spec PyProof.Rows L2
section
variable{prog:Program}{w:World}{A:Around}{E:Value->Shared->Prop}{s:Shared}{kd:SortKind}{rk:Value->Int}{ini:Array Keyed}
end
open PySem PySem.Spec PyProof.Rows L2
section
variable{prog:Program}{w:World}{A:Around}{E:Value->Shared->Prop}{s:Shared}{kd:SortKind}{rk:Value->Int}{ini:Array Keyed}{pd:Array (Nat×Nat×Nat)}{hd:List Keyed}
end
open PySem PySem.Spec PyProof.Rows L2
section
variable{prog:Program}{w:World}{A:Around}{E:Value->Shared->Prop}{s:Shared}{kd:SortKind}{rk:Value->Int}{ini:Array Keyed}
end
open PySem PySem.Spec PyProof.Rows L2
section
variable{prog:Program}{w:World}{A:Around}{E:Value->Shared->Prop}{s:Shared}
end
section
variable{X:Cx}{F0 H0:Hp}
end
open PySem PySem.Spec PyProof.Rows L2
def yJ(ns:List Int):List Int:=ns.foldl step_dedup []
def uh:D->R En
 | .lst ds=>(match jG ds with
  | some ns=>if ns.length<=4000 then okI (yJ ns).length else .stuck
  | none=>.stuck)
 | _=>.stuck
def ui(f:EF):EF:=fun ρ=>(f ρ).bind fun w=>uh w.d
theorem XQ(ns:List Int):firstMet (fun i=>ns.getD i 0) ns.length=yJ ns:=by
 unfold firstMet yJ;congr 1;refine List.ext_getElem (by simp) fun i h1 h2=>?_
 simp at h1;simp [List.getD,h1]
theorem qdy(ns:List Int):(yJ ns).length<=ns.length:=by
 rw [<- XQ];exact firstMet_length_le _ _
section
variable{X:Cx}{F0 H0:Hp}{pos pos2 p p2:Pos}
theorem qdz{e:Expr}{f:EF}(Z:SE X F0 H0 e f)(hm:X.mg "len"=none)(O:X.mg "set"=none)(hc:X.calm=true:=by rfl)(hg:Gl X "len":=by rfl)(U:Gl X "set":=by rfl)
  (h1:starEach [Expr.Call (.Name "set" p2) [e] [] pos2] X.env=[(false,eval (Expr.Call (.Name "set" p2) [e] [] pos2) X.env)]:=by rfl)
  (h2:starEach [e] X.env=[(false,eval e X.env)]:=by rfl) :
  SE X F0 H0 (.Call (.Name "len" p) [.Call (.Name "set" p2) [e] [] pos2] [] pos) (ui f):=by
 intro pins s σ F H ρ Q S I h;refine hV (zi I hg hm (show bootBuiltins (Str.ofString "len")=some (.builtin "len")by rfl) ?_)
 refine f9 ?_ (by rw [h1];rfl) rfl
 rw [h1];refine gJ ?_;refine hV (zi I U O (show bootBuiltins (Str.ofString "set")=some (.type "set")by rfl) ?_)
 refine tt ?_ (by rw [h2];rfl) rfl
 rw [h2];refine gJ (Z pins s σ F H ρ _ S I ((KE.bind h).imp fun wx k1 v u F1 H1 s1 g1 q1 r1 I1=>t7 ?_))
 have qx:=Vok.rd q1;have z:=yq g1 k1
 revert z qx
 generalize wx.d=dx;intro qx z;cases dx<;>first|exact z.elim|skip
 rename_i ds;unfold uh at z;dsimp only at z;cases ei:jG ds with
 | none=>rw [ei]at z;exact z.elim
 | some ns =>
  rw [ei]at z;dsimp only at z;by_cases c:ns.length<=4000
  ·rw [gB c]at z;obtain⟨a,vs,rfl,hq,rs⟩:=RdV.lst g1.s qx;have ev:=yz ei rs;subst ev;cases r1;obtain⟨its,rv,pl,hz⟩:=I1.list hq;have hi:IntsAre its ns:=kg rv;have B:its.length=ns.length:=IntsAre.length hi;refine call_set_list (I1.ok.hd hc) pl.isList (by simpa using hi) (by rw [gQ,B];unfold scanBound;omega) fun h' tk hS hk=>?_
   have W:its.toArray.size=ns.length:=by rw [gQ,B]
   rw [W,XQ]at hS;refine t7 ?_;obtain⟨o,ho,Y,es,ep,t,hd,_,_,hn,hf⟩:=hS.objOf;have hle:=qdy ns;have I2:Inv X pins σ H1 {s1 with heap:=h',toks:=tk}:=I1.kept (fun b o q=>hk b o (gv q) q)
   refine ve (pins:=pins) (σ:=σ) (call_len_set ho Y hd hf (by rw [hn];omega) ?_)
   rw [hn];exact⟨.int _,H1,I2.tok _,⟨_,rfl⟩,qZ (X:=X) g1.s (v:=.int _) z rfl⟩
  ·rw [gD c]at z;exact z.elim
end
open PySem PySem.Spec PyProof.Rows L2
theorem Zm{κ:Kx}{F H G:Hp}:∀{vs:List V} {ws:List En},(ws.all fun w=>match w with|.fz _=>true|_=>false)=true->Args κ F H vs ws->Args κ F G vs ws
 | _,[],_,h=>h
 | _,.fz d::ws,c,h=>by
  obtain⟨v,r,e,h1,h2⟩:=h;exact⟨v,r,e,h1,Zm (by simpa using c) h2⟩
 | _,.br d::ws,c,h=>by simp at c
 | _,.ow d::ws,c,h=>by simp at c
 | _,.lk d::ws,c,h=>by simp at c
 | _,.od d::ws,c,h=>by simp at c
def ioD(a:Addr)(d:D):En:=.od (.tup [.int (a:Int),d])
def spI(κ:Kx)(dn:Den)(n:Nat):Sp:=fun vs H Q _=>vs.length=n/\∃ F a o d pre post v1 v2,vs=v1++.ref a::v2/\Le F (but H a)/\H a=some o/\OwnO κ F o d/\Args κ F (but H a) v1 pre/\Args κ F (but H a) v2 post /\
 KE (fun _=>False) (dn (pre++ioD a d::post)) fun w=>∀ v F' H',Gr F (but H a) F' H'->Vok κ (but H a) F' H' v w->Q v H'
theorem qdA{κ:Kx}{H0 F H H':Hp}{v:V}{w:En}(h:Eok κ H0 F H v w)(o:w.own=false):Eok κ H0 F H' v w:=by
 cases w with
 | fz d=>exact h
 | ow d=>cases o
 | lk d=>exact h
 | br d=>exact h
 | od d=>cases o
theorem qdB{κ:Kx}{F H:Hp}{N:List Str}{a:Addr}{o:HO}{d:D}{O U:List V}{pre post:List En}(l:Le F (but H a))(Y:H a=some o)(Z:OwnO κ F o d)(h1:Args κ F (but H a) O pre)(h2:Args κ F (but H a) U post) :
  StOk κ F (but H a) F H ((pre++ioD a d::post).map some++List.replicate (N.length-(pre++ioD a d::post).length) none) (L2.jR N (O++.ref a::U)):=by
 have l1:=xP h1;have l2:=xP h2;have fa:F a=none:=Le.none l ug;have sv:∀(i:Nat) (v:V),(O++.ref a::U)[i]?=some v->(L2.jR N (O++.ref a::U))[i]?=some (some v):=fun i v e=>by
  unfold L2.jR;have hi:=(gu.mp e).1;rw [hW (by simpa using hi),gX,e]
  rfl
 have B:∀(i:Nat) (w:En),((pre++ioD a d::post).map some++List.replicate (N.length-(pre++ioD a d::post).length) none)[i]?=some (some w)->(pre++ioD a d::post)[i]?=some w:=fun i w e=>by
  by_cases hi:i<(pre++ioD a d::post).length
  ·rw [hW (by simpa using hi),gX]at e
   cases q:(pre++ioD a d::post)[i]? with
   | none=>rw [q]at e;cases e
   | some y=>rw [q]at e;simpa using e
  ·rw [t4 (by simpa using hi),fx]at e
   split at e<;>cases e
 have cs:∀(i:Nat) (w:En),(pre++ioD a d::post)[i]?=some w->(i=pre.length/\w=ioD a d)∨(i≠pre.length/\w.own=false/\∃ v,(O++.ref a::U)[i]?=some v/\Eok κ (but H a) F (but H a) v w):=fun i w e=>by
  rcases Nat.lt_trichotomy i pre.length with c|c|c
  ·rw [hW c]at e;obtain⟨v,q1,q2,q3⟩:=yv h1 i w (by rw [gX,e];rfl)
   refine .inr ⟨gP c,q3,v,?_,q2⟩;rw [hW (by omega)]
   rw [gX]at q1;cases z:O[i]? with
   | none=>rw [z]at q1;cases q1
   | some y=>rw [z]at q1;simpa using q1
  ·subst c;rw [t4 (gw _),Nat.sub_self]at e;exact .inl ⟨rfl,by simpa using e.symm⟩
  ·rw [t4 (tF c)]at e;obtain⟨j,hj⟩:∃ j,i-pre.length=j+1:=⟨i-pre.length-1,by omega⟩
   rw [hj,pH]at e;obtain⟨v,q1,q2,q3⟩:=yv h2 j w (by rw [gX,e];rfl)
   refine .inr ⟨fU c,q3,v,?_,q2⟩;rw [t4 (by omega),show i-O.length=j+1 by omega,pH]
   rw [gX]at q1;cases z:U[j]? with
   | none=>rw [z]at q1;cases q1
   | some y=>rw [z]at q1;simpa using q1
 have sa:(O++.ref a::U)[pre.length]?=some (.ref a):=by rw [<- l1,t4 (gw _),Nat.sub_self];rfl
 refine⟨⟨Le.refl,XN,Le.trans l XN,fun _ z=>.inl z⟩,by simp [L2.jR,l1,l2],fun i w e=>?_,fun i j w w' b W ei ej oi oj si sj=>?_,fun i y e=>?_⟩
 ·rcases cs i w (B i w e)with⟨rfl,rfl⟩|⟨_,ow,v,q1,q2⟩
  ·exact⟨.ref a,sv _ _ sa,a,o,rfl,ug,fa,Y,OwnO.noTup Z⟩
  ·exact⟨v,sv i v q1,qdA q2 ow⟩
 ·rcases cs i w (B i w ei)with⟨rfl,_⟩|⟨_,z,_⟩
  ·rcases cs j w' (B j w' ej)with⟨rfl,_⟩|⟨_,z,_⟩
   ·exact W rfl
   ·rw [oj]at z;cases z
  ·rw [oi]at z;cases z
 ·rcases cs i _ (B i _ e)with⟨rfl,z⟩|⟨_,z,_⟩
  ·cases z;refine⟨fun j z hj ej=>?_,a,[],sv _ _ sa,ug,fa,by simp,⟨rfl,o,d,rfl,Y,Z⟩,fun j w b hj ej oj m sj=>?_⟩
   ·rcases cs j _ (B j _ ej)with⟨q,_⟩|⟨_,q,_⟩
    ·exact hj q
    ·cases q
   ·rcases cs j _ (B j _ ej)with⟨q,_⟩|⟨_,q,_⟩
    ·exact hj q
    ·rw [oj]at q;cases q
  ·cases z
section
variable{P:Program}{w:World}{K:Frag}{mg:Str->Option Value}{base:Heap}
theorem fnI{x z:Str}{st:Stmt}{f:Addr}{fd:FuncData}{N ps:List Str}{k:Nat}{body:SF}(F:Fun K x z st f fd)(S:FnScope N ps (defScope st))
  (h:∀(O:Value) (A:Around) (outer:List Env) (s:Shared) (H F0 H0:Hp),Room k (A.deeper (envOfC z (defScope st) s.heap.objs.size f O)) ->
   SSs (cxOf CX0 P w K mg base N z (defScope st) f O A outer s H E0).nox F0 H0 (defBody st) body):FnOk P w K mg base CX0 (k+1) f fd ps (spI ⟨P,w,K⟩ (den N.length body) ps.length):=by
 refine F.ok S (fun vs H Q E q=>q.1) (fun O A outer s H vs Q E hr q=>?_)
 obtain⟨hl,F0,a,o,d,pre,post,v1,v2,rfl,l,ho,ro,a1,a2,q⟩:=q;refine⟨uT _ _,xJ,fun pins s' I=>?_⟩
 have B:=h O A outer s H F0 (but H a) hr;have B':SSs (cxOf CX0 P w K mg base N z (defScope st) f O A outer s H E).nox F0 (but H a) (defBody st) body:=B;refine B' pins s' (L2.jR N (v1++.ref a::v2)) F0 H _ _ (qdB (N:=N) l ho ro a1 a2) I ?_;have e:KE (fun _=>False) (den N.length body (pre++ioD a d::post)) fun w'=>∀ v F' H',Gr F0 (but H a) F' H'->Vok ⟨P,w,K⟩ (but H a) F' H' v w'->Q v H':=q
 unfold den fin at e;cases eb:body ((pre++ioD a d::post).map some++List.replicate (N.length-(pre++ioD a d::post).length) none)with
 | nx ρ=>rw [eb]at e;exact fun U F' H' l' S'=>e .non F' H' S'.gr rfl
 | rt w'=>rw [eb]at e;exact e
 | bk ρ=>rw [eb]at e;exact e.elim
 | ct ρ=>rw [eb]at e;exact e.elim
 | exc x=>rw [eb]at e;exact e.elim
 | stuck=>rw [eb]at e;exact e.elim
end
def ioR(o:Option (Option En)):Option (Int×D):=match o with
 | some (some (.od (.tup [.int a,d])))=>some (a,d)
 | _=>none
theorem Zn{o:Option (Option En)}{a:Int}{d:D}(h:ioR o=some (a,d)):o=some (some (.od (.tup [.int a,d]))):=by
 unfold ioR at h;split at h
 ·cases h;rfl
 ·cases h
def Zo(i:Nat):EF:=fun ρ=>match ioR ρ[i]? with
 | some (_,d)=>.ok (.br d)
 | none=>.stuck
theorem StOk.io{κ:Kx}{F0 H0 F H:Hp}{ρ:Rho}{σ:St}{i:Nat}{z:Int}{d:D}(S:StOk κ F0 H0 F H ρ σ)(e:ρ[i]?=some (some (.od (.tup [.int z,d])))) :
  shal i ρ/\∃(a:Addr) (o:HO),z=(a:Int)/\σ[i]?=some (some (.ref a))/\H0 a=none/\F a=none/\H a=some o/\OwnO κ F o d /\
   ∀(j:Nat) (w:En) (b:Addr),j≠i->ρ[j]?=some (some w)->w.own=true->b∈a::[]->σ[j]?≠some (some (.ref b)):=by
 obtain⟨sh,a,bs,si,h0,hf,nd,dp,sp⟩:=S.dp i _ e;obtain⟨eb,o,d',ex,ho,ro⟩:=dp;subst eb;injection ex with e1 e2;injection e1 with e1;injection e2 with e2 _;subst e2;exact⟨sh,a,o,e1,si,h0,hf,ho,ro,sp⟩
section
variable{X:Cx}{F0 H0:Hp}{pos:Pos}
theorem qdC(i:Nat){x:Str}{pos:Pos}(B:X.N[i]?=some x:=by rfl)(O:Vis X.env.scope x:=by trivial)(hd:(x==("__debug__":Str))=false:=by decide)
  (z:(x==("__classdict__":Str))=false:=by decide):SE X F0 H0 (.Name x pos) (Zo i):=by
 intro pins s σ F H ρ Q S I h;unfold Zo at h;cases e:ioR ρ[i]? with
 | none=>rw [e]at h;exact h.elim
 | some p =>
  obtain⟨ai,d⟩:=p;rw [e]at h;obtain⟨_,a,o,_,si,h0,hf,ho,ro,_⟩:=S.io (Zn e);refine thn (jn B O hd z pins s σ H (fun v' H'=>v'=.ref a/\H'=H) I ⟨.ref a,si,rfl,rfl⟩) fun u s' ⟨v',H',I',r,ev,eh⟩=>?_
  subst ev eh;exact h (.ref a) u F H' s' (Gr.refl S.s) ⟨a,o,rfl,ho,ro⟩ r I'
def qdD(a:Int)(d:D):En->Out
 | .fz g=>.rt (.od (.tup [.int a,d,g]))
 | _=>.stuck
def Zp(i:Nat)(e:EF):SF:=fun ρ=>match ioR ρ[i]? with
 | some (a,d)=>sOf (e ρ) (qdD a d)
 | none=>.stuck
theorem qdE(i:Nat){e:Expr}{f:EF}(z:SE X F0 H0 e f):SS X F0 H0 (.Return (some e) pos) (Zp i f):=by
 intro pins s σ F H ρ D S I h;unfold Zp at h;cases ei:ioR ρ[i]? with
 | none=>rw [ei]at h;exact h.elim
 | some p =>
  obtain⟨ai,d⟩:=p;rw [ei]at h;obtain⟨_,a,o,ea,si,h0,hf,ho,ro,_⟩:=S.io (Zn ei);refine YK (pos:=pos) (jp (e:=e)) pins s σ H D I (z.sem S ((PostS.of h).imp fun w k v F1 H1 g1 q1=>?_))
  cases w<;>first|exact k.elim|skip
  rename_i g;subst ea;have r:Rep (kx X) F1 v g:=q1;exact k v F1 H1 (S.gr.trans g1) (.inr (.inr (.inr ⟨a,d,g,rfl,o,h0,g1.no hf ho (OwnO.noTup ro),g1.h _ _ ho,OwnO.le g1.f ro,r⟩)))
def Zq(i:Nat)(k:List EF)(e:EF):SF:=fun ρ=>match ioR ρ[i]? with
 | some (a,.dT kvs)=>sOf ((e ρ).bind En.st) fun d=>sOf (evs k ρ) fun ws=>match jS (ws.map En.d)with
  | some key=>if kvs.length<sz/\key.length<=sz then .nx (ρ.set i (some (.od (.tup [.int a,.dT (zc key d kvs)]))))else .stuck
  | none=>.stuck
 | _=>.stuck
theorem qdF(i:Nat){x:Str}{np tp pos pos':Pos}{ks:List Expr}{e:Expr}{n:Nat}{fk:List EF}{fe:EF}(hu:X.A.units+10<cLine)(hk:SA X F0 H0 ks fk)(he:SE X F0 H0 e fe)(hN:X.N[i]?=some x:=by rfl)(hv:Vis X.env.scope x:=by trivial)(hd:(x==("__debug__":Str))=false:=by decide)
  (O:(x==("__classdict__":Str))=false:=by decide)(hs:swapsWith e (some (.Subscript (.Name x np) (.Tuple ks n tp) pos')) pos.line X.env=pure false:=by rfl) :
  SS X F0 H0 (.Assign [.Subscript (.Name x np) (.Tuple ks n tp) pos'] e pos) (Zq i fk fe):=by
 intro pins s σ F H ρ D S I h;unfold Zq at h;cases ei:ioR ρ[i]? with
 | none=>rw [ei]at h;exact h.elim
 | some p =>
  obtain⟨ai,d⟩:=p;rw [ei]at h;cases d<;>first|exact h.elim|skip
  rename_i B;have ew:=Zn ei;obtain⟨sh,a,o,ea,e1,h0,hf,hh,ro,sp⟩:=S.io ew;cases o<;>first|exact ro.elim|skip
  rename_i kvs;have h:=KE.bind (PostS.of h);refine Jo (pos:=pos) (pos':=pos') (by omega) (jn (pos:=np) hN hv hd O) (jp (e:=.Tuple ks n tp)) (jp (e:=e)) hs pins s σ H D I (he.sem S (h.imp fun w k1 y F1 H1 g1 q1=>?_))
  cases es:w.st with
  | exc x=>rw [es]at k1;exact k1.elim
  | stuck=>rw [es]at k1;exact k1.elim
  | ok d =>
   rw [es]at k1;have ry:=Vok.st S.s g1 q1 es;obtain⟨g2,_⟩:=zC S.s g1;have S2:=S.grow g2;refine⟨_,e1,Qf hk S2 ((PostS.of (show PostS X F0 H0 F D _ from k1)).imp fun ws k2 vs F3 H3 p g3 q3 hp=>?_)⟩
   cases ek:jS (ws.map En.d)with
   | none=>rw [ek]at k2;exact k2.elim
   | some key =>
    rw [ek]at k2;have ev:=xZ q3 ek;subst ev;have lv:kvs.length=B.length:=RepT.length ro;by_cases c:B.length<sz/\key.length<=sz
    ·have k3:PostS X F0 H0 F D (.nx (ρ.set i (some (.od (.tup [.int ai,.dT (zc key d B)]))))):=by simpa [gB c,KE]using k2
     refine⟨by rw [gy,<- jB];exact c.2,a,_,rfl,DPut.t (e:=?_) qN (by rw [lv,<- jB];exact c.1),?_⟩
     ·rw [qt (jy (g3.h _ _ (g1.h _ _ hh)) hp)];exact g3.h _ _ (g1.h _ _ hh)
     ·have g4:=Gr.new (o:=.tup (key.map kV)) g3.s hp;have S4:=(S2.grow g3).grow g4;obtain⟨U,a4,o4,ea4,e4,W,Y,hh4,ro4,Z⟩:=S4.io ew;rw [e1]at e4;cases e4;refine k3 σ _ _ (Le.trans g2.f (Le.trans g3.f g4.f)) (S4.turn (bs:=[]) (bs':=[]) ew e1 U Z (fun c hc=>qt fun z=>hc (by rw [z];simp)) (fun b hb=>by cases hb) (fun c hc=>?_) (fun c hc=>?_) (by simp) ⟨rfl,.dT (jz kvs key y),_,by rw [ea],qN,?_⟩)
      ·rw [pR.mp hc];exact W
      ·rw [pR.mp hc];exact Y
      ·exact X2 (Rep.le (Le.trans g3.f g4.f) _ ry) (RepT.le (Le.trans g2.f (Le.trans g3.f g4.f)) _ ro)
    ·have:False:=by simpa [gD c,PostS,KE]using k2
     exact this.elim
abbrev IOF:=Rho->R (D×Rho)
def SIO(X:Cx)(F0 H0:Hp)(e:Expr)(f:IOF):Prop :=
 ∀(pins:List (Addr×Obj)) (s:Shared) (σ:St) (F H:Hp) (ρ:Rho) (Q:Value->Shared->Prop),StOk (kx X) F0 H0 F H ρ σ->Inv X pins σ H s ->
  KE (XP X F0 H0) (f ρ) (fun p=>∀ v u F' H' s',Le F F'->StOk (kx X) F0 H0 F' H' p.2 σ->Rep (kx X) F' v p.1->RelV v u->Inv X pins σ H' s'->Q u s') ->
  wpAny (model X.prog X.w) X.A (eval e X.env) Q X.xe s
def SAI(X:Cx)(F0 H0:Hp)(i:Nat)(es:List Expr)(pre post:List EF):Prop :=
 ∀(pos:Pos) (pins:List (Addr×Obj)) (s:Shared) (σ:St) (F H:Hp) (ρ:Rho) (Q:List Value->Shared->Prop) (a:Addr),StOk (kx X) F0 H0 F H ρ σ->Inv X pins σ H s->σ[i]?=some (some (.ref a)) ->
  KE (XP X F0 H0) (evs pre ρ) (fun ws=>KE (XP X F0 H0) (evs post ρ) fun ws2=>∀ v1 v2 us F' H' s',Gr F H F' H'->Voks (kx X) H F' H' v1 ws->Voks (kx X) H F' H' v2 ws2->Vals (v1++.ref a::v2) us->Inv X pins σ H' s'->Q us s') ->
  wpAny (model X.prog X.w) X.A (spliced (backTo pos (starEach es X.env))) Q X.xe s
theorem qdG(i:Nat){x:Str}{np:Pos}{es:List Expr}{post:List EF}(B:SA X F0 H0 es post)(O:X.N[i]?=some x:=by rfl)(U:Vis X.env.scope x:=by trivial)(hd:(x==("__debug__":Str))=false:=by decide)
  (z:(x==("__classdict__":Str))=false:=by decide)(W:starEach (.Name x np::es) X.env=(false,eval (.Name x np) X.env)::starEach es X.env:=by rfl):SAI X F0 H0 i (.Name x np::es) [] post:=by
 intro pos pins s σ F H ρ Q a S I si h;rw [W];refine gJ (thn (jn O U hd z pins s σ H (fun v' H'=>v'=.ref a/\H'=H) I ⟨.ref a,si,rfl,rfl⟩) fun u s1 ⟨v',H',I1,r,ev,eh⟩=>?_)
 subst ev eh;refine B pos pins s1 σ F H' ρ _ S I1 (KE.imp (show KE (XP X F0 H0) (evs post ρ) _ from h) fun ws2 k vs us F2 H2 s2 g q r2 I2=>?_)
 exact k [] vs (u::us) F2 H2 s2 g rfl q (.cons r r2) I2
theorem XR{i:Nat}{e:Expr}{es:List Expr}{f:EF}{pre post:List EF}(z:SE X F0 H0 e f)(B:SAI X F0 H0 i es pre post)(O:starEach (e::es) X.env=(false,eval e X.env)::starEach es X.env:=by rfl):SAI X F0 H0 i (e::es) (f::pre) post:=by
 intro pos pins s σ F H ρ Q a S I si h;rw [O];refine gJ (z pins s σ F H ρ _ S I ((KE.bind h).imp fun w h1 v u F1 H1 s1 g1 q1 r1 I1=>?_))
 refine B pos pins s1 σ F1 H1 ρ _ a (S.grow g1) I1 si ((KE.bind h1).imp fun ws h2=>?_)
 have h2:KE (XP X F0 H0) (evs post ρ) _:=h2;refine h2.imp fun ws2 k v1 v2 us F2 H2 s2 g2 q2 q3 r2 I2=>?_
 exact k (v::v1) v2 (u::us) F2 H2 s2 (g1.trans g2) ⟨v,v1,rfl,Vok.gr g2 q1,Voks.older (fun a e=>Le.none g1.h e) q2⟩ (Voks.older (fun a e=>Le.none g1.h e) q3) (.cons r1 r2) I2
def zS(ys:List En):Bool:=ys.all fun w=>match w with|.fz _=>true|_=>false
open Classical in
def wt(dn:Den)(pre:List En)(d:D)(post:List En):R (D×D) :=
 if h:∃ r:D×D,∀ a:Addr,dn (pre++ioD a d::post)=.ok (.od (.tup [.int (a:Int),r.1,r.2]))then .ok h.choose else .stuck
theorem qdH{dn:Den}{pre:List En}{d:D}{post:List En}{d' g:D}(h:∀ a:Addr,dn (pre++ioD a d::post)=.ok (.od (.tup [.int (a:Int),d',g]))):wt dn pre d post=.ok (d',g):=by
 unfold wt;have ex:∃ r:D×D,∀ a:Addr,dn (pre++ioD a d::post)=.ok (.od (.tup [.int (a:Int),r.1,r.2])):=⟨(d',g),h⟩;rw [dif_pos ex];have q:=ex.choose_spec 0;rw [h 0]at q;injection q with q;injection q with q;injection q with q;injection q with _ q;injection q with q1 q;injection q with q2 _;rw [<- show ex.choose.1=d' from q1.symm,<- show ex.choose.2=g from q2.symm]
def eIO(dn:Den)(i:Nat)(pre post:List EF):IOF:=fun ρ=>match ρ[i]? with
 | some (some (.ow d))=>(evs pre ρ).bind fun xs=>(qU xs).bind fun ys=>(evs post ρ).bind fun z=>(qU z).bind fun ys2=>if (zS ys&&zS ys2)=true then(wt dn ys d ys2).bind fun r=>.ok (r.2,ρ.set i (some (.ow r.1)))else .stuck
 | _=>.stuck
theorem Zr{κ:Kx}{H F H':Hp}:∀{ws:List En} {vs:List V},Voks κ H F H' vs ws->vs.length=ws.length
 | [],vs,h=>by cases (show vs=[]from h);rfl
 | w::ws,vs,h=>by obtain⟨v,r,rfl,_,h2⟩:=h;simp [Zr h2]
theorem qdI{e:Expr}{es:List Expr}{k n i:Nat}{f:Addr}{fd:FuncData}{ps:List Str}{dn:Den}{pre post:List EF}(G:FnOk X.prog X.w X.K X.mg X.base CX0 k f fd ps (spI (kx X) dn n))(U:Room k X.A)(W:keepIn X.K (.ref f)=true)(Y:Binds X.K fd ps [])
  (Z:SAI X F0 H0 i (e::es) pre post)(hn:pre.length+(post.length+1)=n)(he:starEach (e::es) X.env=(false,eval e X.env)::starEach es X.env)(O:(backTo pos (starEach es X.env)).any (·.1)=false)
  {pins:List (Addr×Obj)}{s:Shared}{σ:St}{F H:Hp}{ρ:Rho}{Q:Value->Shared->Prop}(S:StOk (kx X) F0 H0 F H ρ σ)(I:Inv X pins σ H s)
  (h:KE (XP X F0 H0) (eIO dn i pre post ρ) (fun p=>∀ v u F' H' s',Le F F'->StOk (kx X) F0 H0 F' H' p.2 σ->Rep (kx X) F' v p.1->RelV v u->Inv X pins σ H' s'->Q u s')) :
  wpAny (model X.prog X.w) X.A (callWith pos (.ref f) [] (backTo pos (starEach (e::es) X.env)) []) Q X.xe s:=by
 unfold eIO at h;split at h
 ·rename_i d ei;obtain⟨v0,si,a,o,rfl,h0,hf,hh,ro⟩:=S.val i _ ei;refine fC (h₀:=X.base) I.ok.mod.kin W (Z pos pins s σ F H ρ _ a S I si ?_) he O;have h:=KE.bind h;cases ef:evs pre ρ with
  | exc x=>rw [ef]at h;exact h
  | stuck=>rw [ef]at h;exact h
  | ok ws =>
   rw [ef]at h;have h:KE (XP X F0 H0) ((qU ws).bind fun ys=>(evs post ρ).bind fun B=>(qU B).bind fun ys2=>if (zS ys&&zS ys2)=true then(wt dn ys d ys2).bind fun r=>.ok (r.2,ρ.set i (some (.ow r.1)))else .stuck) _:=h
   cases ea:qU ws with
   | exc x=>rw [ea]at h;exact h.elim
   | stuck=>rw [ea]at h;exact h.elim
   | ok ys =>
    rw [ea]at h;have h:=KE.bind (show KE (XP X F0 H0) ((evs post ρ).bind fun B=>(qU B).bind fun ys2=>if (zS ys&&zS ys2)=true then(wt dn ys d ys2).bind fun r=>.ok (r.2,ρ.set i (some (.ow r.1)))else .stuck) _ from h)
    show KE (XP X F0 H0) (evs post ρ) _;cases ef2:evs post ρ with
    | exc x=>rw [ef2]at h;exact h
    | stuck=>rw [ef2]at h;exact h
    | ok ws2 =>
     rw [ef2]at h;intro v1 v2 us F1 H1 s1 g1 q1 q2 r1 I1;refine⟨I1.kIn,?_⟩;have h:KE (XP X F0 H0) ((qU ws2).bind fun ys2=>if (zS ys&&zS ys2)=true then(wt dn ys d ys2).bind fun r=>.ok (r.2,ρ.set i (some (.ow r.1)))else .stuck) _:=h
     cases ea2:qU ws2 with
     | exc x=>rw [ea2]at h;exact h.elim
     | stuck=>rw [ea2]at h;exact h.elim
     | ok ys2 =>
      rw [ea2]at h;have h:KE (XP X F0 H0) (if (zS ys&&zS ys2)=true then(wt dn ys d ys2).bind fun r=>.ok (r.2,ρ.set i (some (.ow r.1)))else .stuck) _:=h
      by_cases c:(zS ys&&zS ys2)=true
      ·rw [gB c]at h;rw [gK]at c;obtain⟨g2,l2⟩:=zC S.s g1;have A1:=Zm (G:=but H1 a) c.1 (yw (κ:=kx X) g1.s q1 ea (qL H F1 H1) l2 (fun a o e0 e2=>by unfold qL;rw [e0];exact e2))
       have A2:=Zm (G:=but H1 a) c.2 (yw (κ:=kx X) g1.s q2 ea2 (qL H F1 H1) l2 (fun a o e0 e2=>by unfold qL;rw [e0];exact e2))
       have ga:qL H F1 H1 a=none:=g2.no hf hh (OwnO.noTup ro);have S1:=(S.grow g2).forget ei si;refine ve (uO G U Y (dvs:=[]) .nil K7 I1 r1 ?_);rw [tP];refine⟨?_,qL H F1 H1,a,o,d,ys,ys2,v1,v2,rfl,fun c u z=>(yI (jy z ga)).trans (g2.s c u z),g1.h _ _ hh,OwnO.le g2.f ro,A1,A2,?_⟩
       ·rw [f8,gU,Zr q1,Zr q2,yx pre ρ ws ef,yx post ρ ws2 ef2];exact hn
       ·have h:=KE.bind h;unfold wt at h;by_cases ex:∃ r:D×D,∀ a:Addr,dn (ys++ioD a d::ys2)=.ok (.od (.tup [.int (a:Int),r.1,r.2]))
        ·rw [dif_pos ex]at h;have sp:=ex.choose_spec a;generalize ex.choose=r at h sp;rw [sp];intro v F' H' g q u s' r' I';have q:DV (kx X) (but H1 a) F' H' v (.tup [.int (a:Int),r.1,r.2]):=q;rcases q with⟨_,z,_⟩|⟨_,z,_⟩|⟨_,_,z,_⟩|⟨a',dd,y,z,o',c0,cf,ch,co,cr⟩
         ·cases z
         ·cases z
         ·cases z
         ·injection z with z;injection z with z1 z;injection z with z2 z;injection z with z3 _;injection z1 with z1;have:a'=a:=(Int.ofNat.inj z1).symm;subst this;subst z2;subst z3;have S2:=S1.setW g (i:=i) (v:=.ref a') (w:=.ow r.1) (w':=.ow r.1) ⟨a',o',rfl,ug,cf,ch,co⟩ rfl;rw [dG]at S2;have se:σ.set i (some (.ref a'))=σ:=by
           obtain⟨hl,e2⟩:=gu.mp si;rw [<- e2,List.set_getElem_self]
          rw [se]at S2;exact h v u F' H' s' (Le.trans g2.f g.f) S2 cr r' I'
        ·rw [dif_neg ex]at h;exact h.elim
      ·rw [gD c]at h;exact h.elim
 ·exact h.elim
def dFn(x:Str):D:=.xc x [("fn",.non)]
theorem qdJ{x:Str}{f:Addr}{p:Pos}(B:X.mg x=some (.ref f))(z:nsIn X.K mainGlobals x=some (some (.ref f)))(O:Gl X x:=by rfl)(hd:(x==("__debug__":Str))=false:=by decide):SE X F0 H0 (.Name x p) (eC (dFn x)) :=
 Ka (v:=.ref f) B rfl (fun F=>show FnV (kx X) (.ref f) x [("fn",.non)]from fun f' e=>by rw [z]at e;cases e;rfl) O hd
def fnOf(o:Option (Option En)):Option Str:=match o with
 | some (some (.fz (.xc x [(_,.non)])))=>some x
 | _=>none
def eIOV(j:Nat)(z:Str)(B:Den)(i:Nat)(pre post:List EF):IOF:=fun ρ=>match fnOf ρ[j]? with
 | some x=>if x=z then eIO B i pre post ρ else .stuck
 | none=>.stuck
theorem qdK{o:Option (Option En)}{x:Str}(h:fnOf o=some x):∃ y,o=some (some (.fz (.xc x [(y,.non)]))):=by
 unfold fnOf at h;split at h
 ·cases h;exact⟨_,rfl⟩
 ·cases h
theorem qdL(j:Nat){e:Expr}{es:List Expr}{x W:Str}{p:Pos}{k1 n i:Nat}{B:Addr}{O:FuncData}{U:List Str}{d1:Den}{pre post:List EF}
  (G1:FnOk X.prog X.w X.K X.mg X.base CX0 k1 B O U (spI (kx X) d1 n))(Y:Room k1 X.A)(Z:keepIn X.K (.ref B)=true)(hb1:Binds X.K O U [])(n1:nsIn X.K mainGlobals W=some (some (.ref B)))
  (ha:SAI X F0 H0 i (e::es) pre post)(hn:pre.length+(post.length+1)=n:=by rfl)(hN:X.N[j]?=some x:=by rfl)(hv:Vis X.env.scope x:=by trivial)(hd:(x==("__debug__":Str))=false:=by decide)
  (hcd:(x==("__classdict__":Str))=false:=by decide)(he:starEach (e::es) X.env=(false,eval e X.env)::starEach es X.env:=by rfl)(hpl:(backTo pos (starEach es X.env)).any (·.1)=false:=by rfl) :
  SIO X F0 H0 (.Call (.Name x p) (e::es) [] pos) (eIOV j W d1 i pre post):=by
 intro pins s σ F H ρ Q S I h;unfold eIOV at h;cases ef:fnOf ρ[j]? with
 | none=>rw [ef]at h;exact h.elim
 | some y =>
  rw [ef]at h;dsimp only at h;obtain⟨z,ej⟩:=qdK ef;obtain⟨v,sj,r⟩:=S.val j _ ej;have r:∀ f:Addr,nsIn X.K mainGlobals y=some (some (.ref f))->v=.ref f:=r;refine hV (thn (jn hN hv hd hcd pins s σ H (fun v' H'=>v'=v/\H'=H) I ⟨v,sj,rfl,rfl⟩) fun u s1 ⟨v',H',I1,rv,ev,eh⟩=>?_)
  subst ev eh;by_cases c1:y=W
  ·rw [gB c1]at h;subst c1;cases r B n1;cases (show u=Value.ref B from rv)
   exact qdI G1 Y Z hb1 ha hn he hpl S I1 h
  ·rw [gD c1]at h;exact h.elim
end
open PySem PySem.Spec PyProof.Rows L2
theorem RepT.look{κ:Kx}{F:Hp}:∀{kds:List (List (Sum Int Str)×D)} {kvs:List (List Key×V)} (k:List Key),RepT κ F kvs kds->(∃ v d,qY kvs k=some v/\L3.look k kds=some d/\Rep κ F v d)∨(qY kvs k=none/\L3.look k kds=none)
 | [],_,k,h=>by cases (show _=_ from h);exact .inr ⟨rfl,rfl⟩
 | (q,d)::r,_,k,h=>by
  obtain⟨v,kr,rfl,h1,h2⟩:=h;by_cases e:q=k
  ·subst e;exact .inl ⟨v,d,by unfold qY;simp,by unfold L3.look;rw [gB rfl],h1⟩
  ·rcases RepT.look k h2 with⟨v',d',a1,a2,a3⟩|⟨a1,a2⟩
   ·refine .inl ⟨v',d',?_,by unfold L3.look;rw [gD e];exact a2,a3⟩
    unfold qY at a1 ⊢;rw [List.find?_cons_of_neg (by simpa using e)]
    exact a1
   ·refine .inr ⟨?_,by unfold L3.look;rw [gD e];exact a2⟩
    unfold qY at a1 ⊢;rw [List.find?_cons_of_neg (by simpa using e)]
    exact a1
def XS(kvs:List (List (Sum Int Str)×D))(q:List (Sum Int Str))(wx:En):R En:=match look q kvs with|some d=>.ok (.fz d)|none=>.ok wx
def XT(k:Option (List (Sum Int Str)))(g:List (Sum Int Str)->R En):R En:=match k with
 | some q=>if q.length<=sz then g q else .stuck
 | none=>.stuck
def XU(d:EF)(k:List EF)(x:EF):EF:=fun ρ=>(d ρ).bind fun wd=>match wd.d with
 | .dT kvs=>(evs k ρ).bind fun ws=>XT (jS (ws.map En.d)) fun q=>(x ρ).bind fun wx=>XS kvs q wx
 | _=>.stuck
section
variable{X:Cx}{F0 H0:Hp}{pos:Pos}
theorem qdM{o f:Expr}{ks:List Expr}{n:Nat}{tp apos cpos:Pos}{O U:EF}{W:List EF}(hu:X.A.units+10<cLine)(Y:SE X F0 H0 o O)(Z:SA X F0 H0 ks W)(hf:SE X F0 H0 f U)(m:M2 X o "get" apos (.Tuple ks n tp) f cpos:=by exact⟨rfl,rfl,rfl,rfl⟩) :
  SE X F0 H0 (.Call (.Attribute o "get" apos) [.Tuple ks n tp,f] [] cpos) (XU O W U):=by
 intro pins s σ F H ρ Q S I h;refine ve (qa2 (by omega) (jp (e:=o)) (jp (e:=.Tuple ks n tp)) (jp (e:=f)) m pins s σ H (fun v H'=>∀ u s',RelV v u->Inv X pins σ H' s'->Q u s') I ?_)
 refine Y.sem S ((KE.bind h).imp fun wd h1 v F1 H1 g1 q1=>?_)
 have qd:=Vok.rd q1
 revert h1 qd
 generalize wd.d=dd;intro h1 qd;cases dd<;>first|exact h1.elim|skip
 rename_i kds;obtain⟨p,kvs,rfl,hq,rk⟩:=RdV.dT g1.s qd;refine⟨p,rfl,.inr ⟨_,hq⟩,Qf Z (S.grow g1) ((KE.bind h1).imp fun ws h2 vs F2 H2 b g2 q2 hb=>?_)⟩
 unfold XT at h2;cases ek:jS (ws.map En.d)with
 | none=>rw [ek]at h2;exact h2.elim
 | some key =>
  rw [ek]at h2;dsimp only at h2;by_cases c:key.length<=sz
  ·rw [gB c]at h2;have ev:=xZ q2 ek;subst ev;have g4:=Gr.new (o:=.tup (key.map kV)) g2.s hb;refine⟨by rw [gy,<- jB];exact c,hf.sem (S.grow (g1.trans (g2.trans g4))) ((KE.bind h2).imp fun wx h3 v3 F3 H3 g3 q3=>?_)⟩
   have B:Le H1 H3:=Le.trans (g2.trans g4).h g3.h;have gA:=g1.trans ((g2.trans g4).trans g3);refine⟨qY kvs key,.inr ⟨kvs,key,b,Rd.le B hq,rfl,g3.h _ _ qN,rfl⟩,fun u s' ru I'=>?_⟩
   unfold XS at h3;rcases RepT.look key rk with⟨z,d,a1,a2,rz⟩|⟨a1,a2⟩
   ·rw [a2]at h3;rw [a1]at ru;exact h3 z u F3 H3 s' gA (Rep.le (Le.trans (g2.trans g4).f g3.f) _ rz) ru I'
   ·rw [a2]at h3;rw [a1]at ru;exact h3 v3 u F3 H3 s' gA (Vok.older (fun a e=>Le.none (Le.trans g1.h (g2.trans g4).h) e) q3) ru I'
  ·rw [gD c]at h2;exact h2.elim
def Qw(d k:EF):EF:=fun ρ=>(d ρ).bind fun wd=>match wd.d with
 | .dK kvs=>(k ρ).bind fun wk=>(match zN wk.d with
  | some q=>(match look q kvs with|some d=>.ok (.fz d)|none=>.ok (.fz .non))
  | none=>.stuck)
 | _=>.stuck
theorem qdN{o e:Expr}{apos cpos:Pos}{Y Z:EF}(ho:SE X F0 H0 o Y)(he:SE X F0 H0 e Z)(m:M1 X o "get" apos e cpos:=by exact⟨rfl,rfl,rfl,rfl⟩) :
  SE X F0 H0 (.Call (.Attribute o "get" apos) [e] [] cpos) (Qw Y Z):=by
 intro pins s σ F H ρ Q S I h;refine dQ m.base m.few m.line pG ft cZ (ho pins s σ F H ρ _ S I ((KE.bind h).imp fun wd h1 v u F1 H1 s1 g1 q1 r1 I1=>?_))
 have qd:=Vok.rd q1
 revert h1 qd
 generalize wd.d=dd;intro h1 qd;cases dd<;>first|exact h1.elim|skip
 rename_i kds;obtain⟨p,kvs,rfl,hq,rk⟩:=RdV.dK g1.s qd;cases (show u=Value.ref p from r1)
 obtain⟨hd,vs,rel,dd⟩:=Inv.dictK I1 hq;refine⟨dd.typeIs,fun b q=>?_,?_⟩
 ·cases q;obtain⟨ob,_,_,e1,e2,_⟩:=dd;exact⟨ob,e1,e2.2.1⟩
 rw [m.trees];refine pP rfl (cu (gJ (he pins s1 σ F1 H1 ρ _ (S.grow g1) I1 ((KE.bind h1).imp fun wk h2 v2 u2 F2 H2 s2 g2 q2 r2 I2=>t7 ?_))))
 cases ek:zN wk.d with
 | none=>rw [ek]at h2;exact h2.elim
 | some key =>
  rw [ek]at h2;dsimp only at h2;have ry:RelV (kV key) u2:=Jx ek (Vok.rd q2) r2;obtain⟨W,vs3,O,U⟩:=Inv.dictK I2 (SqK.le g2.h hq);refine cY ft U.typeIs pQ (PySem.F.args_dict_get_2 _ _) (meets_dict_get (qW X.prog X.w) p (kj ry) W) ⟨_,U.mapOf,?_⟩;have rg:=(O.val key).getD (show RelV V.non Value.none from rfl)
  have B:=g1.trans g2;rcases RepK.look key rk with⟨z,d,a1,a2,rz⟩|⟨a1,a2⟩
  ·rw [a2]at h2;rw [a1]at rg;exact h2 z _ F2 H2 _ B (Rep.le g2.f _ rz) rg (I2.tok _)
  ·rw [a2]at h2;rw [a1]at rg;exact h2 .non _ F2 H2 _ B rfl rg (I2.tok _)
abbrev XF:=Rho->R (List D×Rho)
def SAX(X:Cx)(F0 H0:Hp)(es:List Expr)(f:XF):Prop :=
 ∀(pos:Pos) (pins:List (Addr×Obj)) (s:Shared) (σ:St) (F H:Hp) (ρ:Rho) (Q:List Value->Shared->Prop),StOk (kx X) F0 H0 F H ρ σ->Inv X pins σ H s ->
  KE (XP X F0 H0) (f ρ) (fun p=>∀ vs us F' H' s',Le F F'->StOk (kx X) F0 H0 F' H' p.2 σ->Reps (kx X) F' vs p.1->Vals vs us->Inv X pins σ H' s'->Q us s') ->
  wpAny (model X.prog X.w) X.A (spliced (backTo pos (starEach es X.env))) Q X.xe s
def kK:XF:=fun ρ=>.ok ([],ρ)
def fzR:En->R D
 | .fz d=>.ok d
 | _=>.stuck
def zd(f:EF)(r:XF):XF:=fun ρ=>(f ρ).bind fun w=>(fzR w).bind fun d=>(r ρ).bind fun q=>.ok (d::q.1,q.2)
def xIO(f:IOF)(r:XF):XF:=fun ρ=>(f ρ).bind fun p=>(r p.2).bind fun q=>.ok (p.1::q.1,q.2)
theorem qdO:SAX X F0 H0 [] kK:=fun pos pins s σ F H ρ Q S I h=>t7 (h [] [] F H s Le.refl S rfl .nil I)
theorem Zs{e:Expr}{es:List Expr}{f:EF}{r:XF}(z:SE X F0 H0 e f)(B:SAX X F0 H0 es r)(O:starEach (e::es) X.env=(false,eval e X.env)::starEach es X.env:=by rfl):SAX X F0 H0 (e::es) (zd f r):=by
 intro pos pins s σ F H ρ Q S I h;rw [O];refine gJ (z pins s σ F H ρ _ S I ((KE.bind h).imp fun w h1 v u F1 H1 s1 g1 q1 r1 I1=>?_))
 cases w<;>first|exact h1.elim|skip
 rename_i d;have q1:Rep (kx X) F1 v d:=q1;refine B pos pins s1 σ F1 H1 ρ _ (S.grow g1) I1 ((KE.bind (show KE (XP X F0 H0) ((r ρ).bind fun q=>.ok (d::q.1,q.2)) _ from h1)).imp fun q h2 vs us F2 H2 s2 l2 S2 rs r2 I2=>?_)
 exact h2 (v::vs) (u::us) F2 H2 s2 (Le.trans g1.f l2) S2 ⟨v,vs,rfl,Rep.le l2 _ q1,rs⟩ (.cons r1 r2) I2
theorem qdP{e:Expr}{es:List Expr}{f:IOF}{r:XF}(z:SIO X F0 H0 e f)(B:SAX X F0 H0 es r)(O:starEach (e::es) X.env=(false,eval e X.env)::starEach es X.env:=by rfl):SAX X F0 H0 (e::es) (xIO f r):=by
 intro pos pins s σ F H ρ Q S I h;rw [O];refine gJ (z pins s σ F H ρ _ S I ((KE.bind h).imp fun p h1 v u F1 H1 s1 l1 S1 q1 r1 I1=>?_))
 refine B pos pins s1 σ F1 H1 p.2 _ S1 I1 ((KE.bind (show KE (XP X F0 H0) ((r p.2).bind fun q=>.ok (p.1::q.1,q.2)) _ from h1)).imp fun q h2 vs us F2 H2 s2 l2 S2 rs r2 I2=>?_)
 exact h2 (v::vs) (u::us) F2 H2 s2 (Le.trans l1 l2) S2 ⟨v,vs,rfl,Rep.le l2 _ q1,rs⟩ (.cons r1 r2) I2
def eIOT(f:XF):IOF:=fun ρ=>(f ρ).bind fun p=>if p.1.length<=sz then .ok (.tup p.1,p.2)else .stuck
theorem qdQ{es:List Expr}{f:XF}{z:Nat}(h:SAX X F0 H0 es f):SIO X F0 H0 (.Tuple es z pos) (eIOT f):=by
 intro pins s σ F H ρ Q S I k;refine cz (h pos pins s σ F H ρ _ S I ((KE.bind k).imp fun p k1 vs us F1 H1 s1 l1 S1 rs r1 I1=>?_))
 by_cases c:p.1.length<=sz
 ·rw [gB c]at k1;have hz:vs.length<=sizeLine:=by rw [Reps.length rs,<- jB];exact c
  refine⟨by rw [<- r1.length];exact hz,?_⟩
  have hf:H1 s1.heap.objs.size=none:=I1.hok.fresh (gw _);have gn:=Gr.newF (o:=.tup vs) S1.s hf;exact k1 (.ref s1.heap.objs.size) _ _ _ _ (Le.trans l1 gn.f) (S1.grow gn) ⟨_,vs,rfl,.inl (.inl qN),Reps.le gn.f _ rs⟩ rfl (I1.laid (t':=s1.toks) (fun b u e=>gg _ e) (gw _) ⟨hz,us,r1,⟨_,gH _ rfl,rfl,_,rfl⟩⟩)
 ·rw [gD c]at k1;exact k1.elim
def sIO(i:Nat)(f:IOF):SF:=fun ρ=>sOf (f ρ) fun p=>.nx (p.2.set i (some (.fz p.1)))
theorem qdR(i:Nat){x:Str}{e:Expr}{f:IOF}{pos':Pos}(z:X.N.Nodup)(B:SIO X F0 H0 e f)(hi:X.N[i]?=some x:=by rfl)(O:Loc X.env.scope x:=by trivial)
  (U:swapsWith e (some (.Name x pos')) pos.line X.env=pure false:=by rfl)(W:X.fn x=true∨X.env.scope.names.lookup x=some .local:=by trivial) :
  SS X F0 H0 (.Assign [.Name x pos'] e pos) (sIO i f):=by
 intro pins s σ F H ρ D S I h;refine cT (B pins s σ F H ρ _ S I ((PostS.of h).imp fun p k v u F' H' s' l S' q r I'=>?_)) U
 exact ym I' z hi O r (fun s2 I2=>⟨_,H',I2,k _ F' H' l (S'.setF q)⟩) W
end
open PySem PySem.Spec PyProof.Rows L2
theorem len1{α:Type}:∀{us:List α},us.length=1->∃ a,us=[a]
 | [a],_=>⟨a,rfl⟩
theorem len2{α:Type}:∀{us:List α},us.length=2->∃ a b,us=[a,b]
 | [a,b],_=>⟨a,b,rfl⟩
theorem len3{α:Type}:∀{us:List α},us.length=3->∃ a b c,us=[a,b,c]
 | [a,b,c],_=>⟨a,b,c,rfl⟩
theorem len4{α:Type}:∀{us:List α},us.length=4->∃ a b c d,us=[a,b,c,d]
 | [a,b,c,d],_=>⟨a,b,c,d,rfl⟩
section
variable{X:Cx}{F0 H0:Hp}
end
open PySem PySem.Spec PyProof.Rows L2
section
variable{X:Cx}{F0 H0:Hp}{pos p kp:Pos}
end
open PySem PySem.Spec PyProof.Rows L2
section
variable{w:World}{prog:Program}{A:Around}{E:Value->Shared->Prop}
end
open PySem PySem.Spec PyProof.Rows L2
section
variable{w:World}{prog:Program}{A:Around}{E:Value->Shared->Prop}{s:Shared}
end
open PySem PySem.Spec PyProof.Rows L2
section
variable{w:World}{prog:Program}{A:Around}{R:Result->Shared->Prop}{I:Addr}{fp wr:List Addr}{G:Array GenState->Array GenState->Prop}{n:Nat}{P:Nat->Value->Prop}{St:Nat->Shared->Prop}
end
abbrev setO(b:Bool):Obj:={cls:=.type "set",dict:=none,data:=.set #[] 0 (.fresh 0 0 b)}
section
variable{w:World}{prog:Program}{A:Around}{E:Value->Shared->Prop}{s:Shared}
end
open PySem PySem.Spec PyProof.Rows L2
section
variable{prog:Program}{w:World}{A:Around}{E:Value->Shared->Prop}{s:Shared}{I S:Addr}{es:Array (Int×Value)}{ep i n:Nat}{t:SetTable}
end
open PySem PySem.Spec PyProof.Rows L2
section
variable{prog:Program}{w:World}{A:Around}{E:Value->Shared->Prop}{s:Shared}{I S T:Addr}{es:Array (Int×Value)}{ep i n:Nat}{t:SetTable}
end
open PySem PySem.Spec PyProof.Rows L2
section
variable{prog:Program}{w:World}{A:Around}{E:Value->Shared->Prop}{s:Shared}{I S T:Addr}{es:Array (Int×Value)}{ep n:Nat}{t:SetTable}
end
open PySem PySem.Spec PyProof.Rows L2
section
variable{prog:Program}{w:World}{A:Around}{E:Value->Shared->Prop}{s:Shared}{S:Addr}{es:Array (Int×Value)}{ep n:Nat}{t:SetTable}
end
open PySem PySem.Spec PyProof.Rows L2
section
variable{prog:Program}{w:World}{A:Around}{E:Value->Shared->Prop}{s:Shared}{S:Addr}
end
section
variable{X:Cx}{F0 H0:Hp}{pos pos2 p p2:Pos}
end
open PySem PySem.Spec PyProof.Rows L2
structure XIsi(K:Frag)(C:Addr):Prop where
 cd:∃ cd,PySem.W.clsIn K C=some cd/\vk cd.mro=true
 ga:findIn K (.ref C) "__getattribute__"=some (some (.builtin "BaseException.__getattribute__"))
 gh:findIn K (.ref C) "__getattr__"=some none
 kl:findIn K (.ref C) "__class__"=some (some (.builtin "object.__class__"))
 gt:specialIn K (.builtin "object.__class__") "__get__"=some (some (.builtin "getset_descriptor.__get__"))
 tk:takesIn K (.builtin "object.__class__")=some true
 mo:PySem.W.mroIn K C (.type "object")=some true
section
variable{prog:Program}{w:World}{A:Around}{E:Value->Shared->Prop}{s:Shared}{K:Frag}{C x:Addr}{ox:Obj}{od:Option Obj}
theorem qdS{Q:Option Value->Shared->Prop}(Z:XIsi K C)(X:K.In s.heap)(J:InstAt s.heap x ox C od)(h:Q (some (.ref C)) {s with toks:=s.toks+1}):wpAny (model prog w) A (getAttr? (.ref x) "__class__") Q E s:=by
 obtain⟨cd,hc,z⟩:=Z.cd;have fi:PySem.W.findObj K C od "__class__"=some (.bind (.builtin "getset_descriptor.__get__") (.builtin "object.__class__")):=by
  unfold PySem.W.findObj;rw [hc,pN,Z.kl,pN];simp [Z.gt,Z.tk]
 have ty:=J.type (M:=model prog w);have G:=PySem.F.excAttr_ValueError.ga;have ne:cd.mro.isEmpty=false:=by
  cases q:cd.mro with
  | nil=>rw [q]at z;cases z
  | cons _ _=>rfl
 have ob:PySem.W.Looks (model prog w) s.heap (isInstance (.ref x) (.type "BaseException")) true:=ty.andThen (dD X (by unfold PySem.W.mroIn;rw [hc,pN,gD (by rw [ne];decide),Qj (by decide) z]))
 have L1:=fE (M:=model prog w) X Z.ga;have L2:=fE (M:=model prog w) X Z.gh;have L3:=looks_find (M:=model prog w) X J fi
 (unfold getAttr? getAttrBy? getAttrBy)
 refine g6 (wpAny_mkText (g6 (cc (tL (g6 (gR (s:={s with toks:=s.toks+1}) ty (g6 (gR (s:={s with toks:=s.toks+1}) L1 ?_))))))));have B:(Value.builtin "BaseException.__getattribute__"==Value.builtin "object.__getattribute__")=false:=by decide +kernel
 simp only [B,dN,hX,fP];unfold getAttrByItsOwn hookBefore;refine g6 (gR (s:={s with toks:=s.toks+1}) L2 ?_);unfold callGetattribute;rw [gD (by simp)]
 unfold boundAndCalled;rw [G.bind];refine g6 (cc (tL (g6 (gk (py (pq G.plain PySem.F.entry_bexc_ga (@dL (model prog w) _ _ {s with toks:=s.toks+1} "BaseException.__getattribute__" "BaseException" "__getattribute__" (.ref x) [.str "__class__" s.toks] [] _ (by decide +kernel) (by decide +kernel) ob (PySem.F.args_bexc_ga _ _) ?_)))))))
 refine g6 (gk (g6 (gk (g6 (gR (s:={s with toks:=s.toks+1}) ty (g6 (gR (s:={s with toks:=s.toks+1}) L3 ?_)))))));dsimp only;unfold Builtin.ObjectAttr.bindTo;dsimp only;refine g6 (tL (py (PySem.W.class_get (s:={s with toks:=s.toks+1}) (ox:=ox) (od:=od) X J Z.mo ?_)));refine gk ?_;show wpAny (model prog w) _ (handedOut (.ref C)) _ _ _
 (exact gk (gk h))
theorem qdT(Z:XIsi K C)(H:Heap->Prop)(O:∀ h,H h->InstAt h x ox C od):KitX K (.ref x) (.ref C) H where
 ty:=fun _ h _ p=>(O h p).type
 it:=fun _ h X p=>by
  obtain⟨cd,hc,_⟩:=Z.cd;unfold PySem.W.clsIn at hc;split at hc
  ·rename_i ho;intro A' Q' E' s' k q;unfold isType loadHead
   (exact g6 (wpAny_loadPart (k _ _ (X _ _ ho)) (gk q)))
  ·cases hc
 ne:=fun hh tp d1 U n1 Y X B=>by
  obtain⟨cd,hc,_⟩:=Z.cd
  (refine Bool.eq_false_iff.mpr fun q=>?_)
  have e:C=tp:=Value.ref.inj (dS.mp q);subst e;unfold PySem.W.clsIn at hc;split at hc
  ·rename_i ho
   (have z:=(X _ _ ho).symm.trans B)
   cases z
  ·cases hc
 ca:=fun X p k=>qdS Z X (O _ p) k
theorem qdU{b:Bool}{B:Value}{Q:Value->Shared->Prop}(Z:XIsi K C)(X:K.In s.heap)(J:InstAt s.heap x ox C od)(O:kitOne K (.ref C) B=some b)(h:∀ tk,Q (.bool b) {s with toks:=tk}) :
  wpAny (model prog w) A (call (.builtin "isinstance") [.ref x,B]) Q E s :=
 fV (qdT Z (fun h=>InstAt h x ox C od) fun _ p=>p) X J O (fun z=>nomatch z) h
end
open PySem PySem.Spec PyProof.Rows L2
def exD(a:Addr):D:=.xc "" [("",.int (a:Int))]
theorem qdV(κ:Kx)(F:Hp)(a:Addr):Rep κ F (.ref a) (exD a):=by
 show V.ref a=.ref ((a:Int).toNat);rw [tQ]
def isEx(i:Nat)(a:Addr)(ρ:Rho):Bool:=match ρ[i]? with
 | some (some (.fz (.xc _ [(_,.int k)])))=>k==(a:Int)
 | _=>false
theorem XV{κ:Kx}{F0 H0 F H:Hp}{ρ:Rho}{σ:St}{i:Nat}{a:Addr}(S:StOk κ F0 H0 F H ρ σ)(h:isEx i a ρ=true):σ[i]?=some (some (.ref a)):=by
 unfold isEx at h;split at h
 ·rename_i c nm k e;obtain⟨v,e1,q⟩:=S.val i _ e;have q:v=.ref k.toNat:=q;have ek:k=(a:Int):=by simpa using h
  rw [e1,q,ek,tQ]
 ·cases h
def zo(i:Nat)(a:Addr)(b:Bool):EF:=fun ρ=>if isEx i a ρ=true then okB b else .stuck
def y9(i:Nat)(a:Addr)(x:Xc):EF:=fun ρ=>if isEx i a ρ=true then(match x.fs with|[(_,d)]=>.ok (.fz d)|_=>.stuck)else .stuck
def Here(X:Cx)(e C:Addr)(x:Xc):Prop:=X.mg x.cls=some (.ref C)/\∃ oe,(e,oe)∈X.pn/\oe.cls=.ref C/\(∃ vs,oe.data=.fields vs)/\Z3 X.pn oe.dict x.fs
section
variable{X:Cx}{F0 H0:Hp}{n cN:Str}{S C e:Addr}{i:Nat}{x:Xc}{np vp ip cp apos:Pos}
theorem Here.inst(z:Here X e C x){pins:List (Addr×Obj)}{σ:St}{H:Hp}{s:Shared}(I:Inv X pins σ H s):∃ oe od,InstAt s.heap e oe C od:=by
 obtain⟨_,oe,hp,hc,⟨vs,hd⟩,pa⟩:=z;have e1:=(I.pin (e,oe) (h9 _ hp)).1;have no:PySem.W.notCls oe=true:=by unfold PySem.W.notCls;rw [hd]
 cases ef:x.fs with
 | nil =>
  rw [ef]at pa;have pa:oe.dict=none:=pa;exact⟨oe,none,e1,hc,no,by rw [pa];trivial⟩
 | cons p r =>
  obtain⟨nm,d⟩:=p;rw [ef]at pa;obtain⟨dx,od,mA,u,a1,a2,_⟩:=pa;exact⟨oe,some od,e1,hc,no,by rw [a1];exact(I.pin (dx,od) (h9 _ a2)).1⟩
theorem kL{b:Bool}(hh:Here X e C x)(Z:XIsi X.K C)(hk:kitOne X.K (.ref C) (.ref S)=some b)(B:X.mg cN=some (.ref S))(hi:X.N[i]?=some n)(hl:X.env.scope.names.lookup n=some .local)(hm:X.mg "isinstance"=none)
  (hg:Gl X "isinstance":=by rfl)(O:Gl X cN:=by rfl)(U:(cN==("__debug__":Str))=false:=by decide)(W:(n==("__debug__":Str))=false:=by decide)(Y:(n==("__classdict__":Str))=false:=by decide)
  (z:starEach [.Name n np,.Name cN vp] X.env=(false,eval (.Name n np) X.env)::starEach [.Name cN vp] X.env:=by rfl)(hs2:starEach [.Name cN vp] X.env=[(false,eval (.Name cN vp) X.env)]:=by rfl)
  (hpl:(backTo cp (starEach [.Name cN vp] X.env)).any (·.1)=false:=by rfl):SE X F0 H0 (.Call (.Name "isinstance" ip) [.Name n np,.Name cN vp] [] cp) (zo i e b):=by
 intro pins s σ F H ρ Q S0 I h;unfold zo at h;by_cases c:isEx i e ρ=true
 ·rw [gB c]at h;have hσ:=XV S0 c;refine hV (zi I hg hm boot_isinstance ?_);refine f9 ?_ z hpl;rw [z];refine gJ (thn (jn (i:=i) (x:=n) hi (.inl hl) W Y pins s σ H (fun v' H'=>v'=.ref e/\H'=H) I ⟨.ref e,hσ,rfl,rfl⟩) fun u1 s1 ⟨v1,H1,I1,r1,ev,eH⟩=>?_)
  subst ev eH;obtain rfl:u1=Value.ref e:=r1;rw [hs2];refine gJ (vd I1 O B (t7 ?_) U);obtain⟨oe,od,J⟩:=hh.inst I1;exact qdU Z I1.kIn J hk fun tk=>h (.bl b) _ F H1 _ (Gr.refl S0.s) rfl rfl (I1.tok tk)
 ·rw [gD c]at h;exact h.elim
theorem qdW(hh:Here X e C x)(G:XGet X.K C)(ok:XOk x)(hi:X.N[i]?=some n)(hl:X.env.scope.names.lookup n=some .local)(O:(n==("__debug__":Str))=false:=by decide)(U:(n==("__classdict__":Str))=false:=by decide) :
  SE X F0 H0 (.Attribute (.Name n np) "at" apos) (y9 i e x):=by
 intro pins s σ F H ρ Q S0 I h;unfold y9 at h;by_cases c:isEx i e ρ=true
 ·rw [gB c]at h;have W:=XV S0 c;obtain⟨_,oe,hp,z,⟨vs,B⟩,pa⟩:=hh;obtain⟨⟨cd,c1,c2,c3⟩,G2,G3,G4⟩:=G;have hx:∃ d,x.fs=[(("at":Str),d)]:=by
   cases ok with
   | nof c=>exact h.elim
   | nonf c=>exact⟨_,rfl⟩
   | intf c m=>exact⟨_,rfl⟩
  obtain⟨d,Y⟩:=hx;rw [Y]at pa h;obtain⟨dx,od,mA,u,a1,a2,a3,a4,a5⟩:=pa;obtain⟨v0,rv,Z,rep⟩:=qcL a5 (kx X);refine GX rfl (thn (jn (i:=i) (x:=n) hi (.inl hl) O U pins s σ H (fun v' H'=>v'=.ref e/\H'=H) I ⟨.ref e,W,rfl,rfl⟩) fun u1 s1 ⟨v1,H1,I1,r1,ev,eH⟩=>?_)
  subst ev eH;obtain rfl:u1=Value.ref e:=r1;have e1:=(I1.pin (e,oe) (h9 _ hp)).1;have e2:=(I1.pin (dx,od) (h9 _ a2)).1;obtain⟨oc,odi,oda,osl⟩:=oe;dsimp only at z B a1 e1;subst z B a1;exact qcC I1.kIn e1 (a3 _ e2) a4 Z c1 c2 c3 G2 G3 G4 (h v0 u F H1 _ (Gr.refl S0.s) (rep F) rv (I1.tok _))
 ·rw [gD c]at h;exact h.elim
end
open PySem PySem.Spec PyProof.Rows L2
theorem StOk.cut{κ:Kx}{F0 H0 F H:Hp}{ρ:Rho}{σ:St}(i:Nat)(S:StOk κ F0 H0 F H ρ σ):StOk κ F0 H0 F H (ρ.set i none) (σ.set i none):=by
 have T:=S.drop i;have B:∀{j:Nat} {w:En},(ρ.set i none)[j]?=some (some w)->j≠i:=fun{j w} h z=>by
  rcases qE h with⟨_,q⟩|⟨q,_⟩
  ·cases q
  ·exact q z
 refine⟨T.gr,by simp [S.len],fun j w e=>?_,fun j k w w' a O ej ek oj ok sj sk=>?_,fun j y e=>?_⟩
 ·obtain⟨v,e1,q⟩:=T.val j w e;exact⟨v,by rw [gM (hG (B e))];exact e1,q⟩
 ·rw [gM (hG (B ej))]at sj;rw [gM (hG (B ek))]at sk;exact T.sep j k w w' a O ej ek oj ok sj sk
 ·obtain⟨s1,a,bs,e1,h0,hf,nd,dp,sp⟩:=T.dp j y e;refine⟨s1,a,bs,by rw [gM (hG (B e))];exact e1,h0,hf,nd,dp,fun k w b hk ek ok m sk=>?_⟩
  rw [gM (hG (B ek))]at sk;exact sp k w b hk ek ok m sk
section
variable{X:Cx}{pins:List (Addr×Obj)}{σ:St}{H:Hp}{s:Shared}{e:Addr}{i:Nat}{n:Str}
theorem _root_.L2.Inv.gone1{more:List (Addr×Obj)}{h':Heap}{t':Nat}{m:Str->Option Value}{v:Option Value}(U:X.calm=true->X.A.handled=none)(I:Inv (X.hnd (X.pn++pins++more) e) [] σ H s)(W:X.N.Nodup)(hi:X.N[i]?=some n)
  (Y:∀(j:Nat) (x:Str) (v:V),X.N[j]?=some x->σ[j]?=some (some v)->Vis X.env.scope x->∃ u,RelV v u/\Look X.env s.heap m x u)(Z:h'.Ns X.env.locals (fun x=>if x=n then v else m x))(sb:Heap.SameBut X.env.locals s.heap h') :
  Inv X pins (σ.set i none) H {s with heap:=h',toks:=t'}:=by
 have nl:∀ b o,X.s₀.heap.get? b=some o->b≠X.env.locals:=fun b o ho=>gP (gG (gv ho) I.ok.above)
 have kp:∀ b o,b≠X.env.locals->s.heap.get? b=some o->h'.get? b=some o:=fun b o nb ho=>(sb.2 b nb).trans ho
 have B:=I.base;refine⟨⟨I.ok.mod,I.ok.kind,I.ok.glob,I.ok.blt,I.ok.above,I.ok.inj,I.ok.has,I.ok.cab,U,I.ok.frames,I.ok.stk,I.ok.exf,I.ok.bs,I.ok.bsz,I.ok.noex,I.ok.exfs,I.ok.funs,I.ok.frf⟩,I.os,I.bare,
  ⟨fun b o e n nf nx=>kp b o (nl b o e) (B.keep b o e n nf nx),fun b o e n mf nx=>?_,B.free,fun b o e nx=>?_,B.tups,B.frzs,B.tbls⟩,⟨_,Z,fun j x v e1 e2 e3=>?_⟩,fun x c hx=>?_,I.free,I.freeC,fun p hp=>?_,fun b u hb=>?_,by rw [List.length_set];exact I.len⟩
 ·obtain⟨sl,z⟩:=B.slot b o e n mf nx;exact⟨sl,kp b _ (nl b o e) z⟩
 ·obtain⟨o',z⟩:=B.there b o e nx;exact⟨o',kp b o' (nl b o e) z⟩
 ·rcases qE e2 with⟨_,q⟩|⟨ne,q⟩
  ·cases q
  obtain⟨u,r,l⟩:=Y j x v e1 q e3;refine⟨u,r,?_⟩;have xn:x≠n:=fun z=>ne (by
   subst z;have h1:=(gu.mp e1);have h2:=(gu.mp hi);obtain⟨l1,g1⟩:=h1;obtain⟨l2,g2⟩:=h2;exact(List.getElem_inj W).mp (g1.trans g2.symm))
  rcases l with⟨k,z⟩|⟨k,c,z,O⟩
  ·exact .inl ⟨k,(gD xn).trans z⟩
  ·refine .inr ⟨k,c,z,?_⟩;obtain⟨o,ho,hd⟩:=O;exact⟨o,kp c o (I.cne x c z) ho,hd⟩
 ·obtain⟨v,o,ho,hd⟩:=I.cell x c hx;exact⟨v,o,kp c o (I.cne x c hx) ho,hd⟩
 ·obtain⟨e1,e2,e3,e4⟩:=I.pin p (by simp only [tP];exact h9 _ hp)
  exact⟨kp p.1 p.2 e3 e1,e2,e3,e4⟩
 ·refine(I.hok b u hb).stay (fun d v hd q=>kp d v (fun z=>?_) q) (fun _ z=>z) fun _ _ z=>z
  subst z;rcases hd with z|z
  ·rw [<- z,I.free]at hb;cases hb
  ·have:=I.free;rw [this]at z;cases z
end
def ya(m:Addr->Xc->SF)(i:Nat)(x:Xc)(ρ:Rho):Out:=open Classical in
 if h:∃ ρ',∀ a:Addr,∃ r,m a x (ρ.set i (some (.fz (exD a))))=.nx r/\r.set i none=ρ' then .nx h.choose else .stuck
theorem qdX{m:Addr->Xc->SF}{i:Nat}{x:Xc}{ρ ρ':Rho}(h:∀ a:Addr,∃ r,m a x (ρ.set i (some (.fz (exD a))))=.nx r/\r.set i none=ρ'):ya m i x ρ=.nx ρ':=by
 unfold ya;have ex:∃ ρ',∀ a:Addr,∃ r,m a x (ρ.set i (some (.fz (exD a))))=.nx r/\r.set i none=ρ':=⟨ρ',h⟩;rw [dif_pos ex];obtain⟨r,e1,e2⟩:=ex.choose_spec 0;obtain⟨r',f1,f2⟩:=h 0;rw [e1]at f1;cases f1;rw [<- e2,f2]
def HK(X:Cx)(F0 H0:Hp)(h0:ExceptHandler)(cs:List Str)(hd:Xc->Rho->Out):Prop :=
 ∀(pins:List (Addr×Obj)) (σ1 σ:St) (H1 F H:Hp) (s1 s:Shared) (e C:Addr) (dd:Option Addr) (x:Xc) (ρ:Rho) (D:Ends),Inv X pins σ1 H1 s1->Inv X pins σ H s->StOk (kx X) F0 H0 F H ρ σ->X.mg x.cls=some (.ref C)->XOk x->cs.contains x.cls=true ->
  Way H s1.heap.objs.size s.heap e (.ref C) dd (some .none)->AtIs H s1.heap.objs.size s.heap dd x.fs->PostS X F0 H0 F D (hd x ρ) ->
  wpAny (model X.prog X.w) X.A (handleBy (.ref e) X.env [h0]) (SP X pins D) X.xe s
section
variable{X:Cx}{F0 H0:Hp}{cN n:Str}{S:Addr}{i:Nat}{cs:List Str}{cp hp:Pos}{b0:Stmt}{bd:List Stmt}{m:Addr->Xc->SF}
theorem qdY(hm:X.mg cN=some (.ref S))(qS:zl X.K S=true)(Z:Z4 X S cs)(hst:X.calm=true)(hN:X.N.Nodup)(hi:X.N[i]?=some n)(hl:X.env.scope.names.lookup n=some .local)
  (hs:∀ pn e C x,Here (X.hnd pn e) e C x->cs.contains x.cls=true->XOk x->SSs (X.hnd pn e) F0 H0 (b0::bd) (m e x))
  (hg:Gl X cN:=by rfl)(hdb:(cN==("__debug__":Str))=false:=by decide):HK X F0 H0 (.ExceptHandler (some (.Name cN cp)) (some n) (b0::bd) hp) cs (ya m i):=by
 intro pins σ1 σ H1 F H s1 s e C dd x ρ D I1 I S0 hC ok hc W at_ k;unfold ya at k;split at k
 ·rename_i ex;have B:=ex.choose_spec
  revert k B
  generalize ex.choose=ρ';intro k B;obtain⟨r,em,er⟩:=B e;have k:∀ O F' H',Le F F'->StOk (kx X) F0 H0 F' H' ρ' O->D.nx O H':=k;obtain⟨qC,Y⟩:=Z _ _ hc hC;refine wpAny_handleBy_cons (codeAny_handlers_test ?_) (by intro q;cases q)
  refine vd (X:=X.hnd (X.pn++pins++[]) e) (I.hnd (more:=[]) fun p z=>nomatch z) hg hm ?_ hdb
  obtain⟨oe,vs,he,e1,_⟩:=id W;refine Xb I.kIn qC qS Y he e1 (codeAny_handlers_suite_as ?_);refine xI (fs:=frs X.stack) W fun h' c w'=>?_
  have I3:=Inv.chg (t':=s.toks) I1 I c;have at3:=at_.chg c (kE I1);obtain⟨oe3,more,m1,m2,m3,m4,m5,m6⟩:=Xe I1 I3 w' at3;have J:=Inv.hnd (e:=e) I3 m6;refine ym (X:=X.hnd (X.pn++pins++more) e) (v:=.ref e) J hN hi (.inl hl) rfl (fun s4 I4=>?_) (.inr hl)
  have U:Here (X.hnd (X.pn++pins++more) e) e C x:=by
   refine⟨hC,oe3,gF _ m4,m1,m3,?_⟩;rw [m2];have up:∀ p∈more,p∈X.pn++pins++more:=fun p hp=>gF _ hp
   revert m5
   cases x.fs with
   | nil=>exact fun z=>z
   | cons pr r=>intro ⟨dx,od,mA,u,a1,a2,a3⟩;exact⟨dx,od,mA,u,a1,up _ a2,a3⟩
  refine wpAny_noRaise (thn (hs (X.pn++pins++more) e C x U hc ok [] s4 (σ.set i (some (.ref e))) F H (ρ.set i (some (.fz (exD e)))) {nx:=fun O H'=>∃ F',Le F F'/\StOk (kx X) F0 H0 F' H' r O,rt:=fun _ _=>False} (S0.setF (qdV _ _ _)) I4 (by
   rw [em];exact fun O F' H' l S'=>⟨F',l,S'⟩)) fun f s5 q=>?_)
  cases f with
  | next =>
   obtain⟨σ5,H5,I5,F5,l5,S5⟩:=q;obtain⟨mm,hm5,lk⟩:=I5.loc;refine wpAny_nameGoes_keeps (env:=X.env) hl hm5 (by rw [I.ok.kind];rfl) fun h6 v6 n6 sb6=>?_
   exact⟨_,H5,Inv.gone1 (pins:=pins) (more:=more) I.ok.hd I5 hN hi lk n6 sb6,k _ F5 H5 l5 (er▸S5.cut i)⟩
  | brk=>obtain⟨_,_,_,z⟩:=q;exact z.elim
  | cont=>obtain⟨_,_,_,z⟩:=q;exact z.elim
  | ret u=>obtain⟨_,_,_,_,_,z⟩:=q;exact z.elim
 ·exact k.elim
end
open PySem PySem.Spec PyProof.Rows L2
def Qx(dn:Den)(fa:List EF)(cs:List Str)(hd:Xc->Rho->Out):SF:=fun ρ=>sOf (evs fa ρ) fun ws=>sOf (qU ws) fun ys=>match dn ys with
 | .ok _=>.nx ρ
 | .exc x=>if cs.contains (nrm x).cls=true then hd (nrm x) ρ else .stuck
 | .stuck=>.stuck
section
variable{X:Cx}{F0 H0:Hp}{pos p pos2 pos3:Pos}{e:Expr}{es:List Expr}{fa:List EF}{x:Str}{k n:Nat}{f L:Addr}{fd:FuncData}{ps:List Str}{dn:Den}{h0:ExceptHandler}{cs:List Str}{hd:Xc->Rho->Out}{outer:List Env}
theorem qdZ(hf:X.env.frame=some L)(B:X.stack=X.env::outer)(G:FnOk X.prog X.w X.K X.mg X.base (CX1 X.prog X.w X.mg) k f fd ps (spX (kx X) dn n))(hr:Room k X.A)(hm:X.mg x=some (.ref f))(hk:keepIn X.K (.ref f)=true)(Z:Binds X.K fd ps [])(ha:∀ pn E,SA (X.inn pn E) F0 H0 (e::es) fa)(hh:HK X F0 H0 h0 cs hd)
  (hn:fa.length=n:=by rfl)(hs:swapsWith (.Call (.Name x p) (e::es) [] pos) none pos2.line X.env=pure false:=by rfl)
  (hg:Gl X x:=by rfl)(hdb:(x==("__debug__":Str))=false:=by decide)(he:starEach (e::es) X.env=(false,eval e X.env)::starEach es X.env:=by rfl)(hpl:(backTo pos (starEach es X.env)).any (·.1)=false:=by rfl) :
  SS X F0 H0 (.Try [.Expr (.Call (.Name x p) (e::es) [] pos) pos2] [h0] [] [] pos3) (Qx dn fa cs hd):=by
 intro pins s σ F H ρ D S I h;refine wpAny_Try_except ?_;generalize hE:(fun(e:Value) (s₁:Shared)=>wpAny (model X.prog X.w) X.A (noteFrame e X.env) (fun _ s₂=>wpAny (model X.prog X.w) X.A (setFlight e none) (fun _ O=>wpAny (model X.prog X.w) X.A (handleBy e X.env [h0]) (SP X pins D) X.xe O) X.xe s₂) X.xe s₁)=E'
 have IY:Inv (X.inn (X.pn++pins) E') [] σ H s:=I.inn;refine cx (fq (Q:=fun f s1=>f=.next/\SP X pins D .next s1) ?_ (fun f s1 q=>?_) (fun _ _ z=>z))
 rotate_left
 ·obtain⟨rfl,q⟩:=q;exact fT (fT q)
 refine wpAny_Expr_any ?_ IY.quiet hs;refine hV (vd (X:=X.inn (X.pn++pins) E') IY hg hm ?_ hdb);refine fC (h₀:=X.base) I.ok.mod.kin hk (ha (X.pn++pins) E' pos [] s σ F H ρ _ S IY ?_) he hpl;have h:=PostS.of h;cases ef:evs fa ρ with
 | exc x=>rw [ef]at h;exact h.elim
 | stuck=>rw [ef]at h;exact h.elim
 | ok ws =>
  rw [ef]at h;intro vs us F1 H1 s1 g1 q1 r1 I1;refine⟨I1.kIn,?_⟩;have h:=PostS.of (show PostS X F0 H0 F D (sOf (qU ws) fun ys=>match dn ys with|.ok _=>.nx ρ|.exc x=>if cs.contains (nrm x).cls=true then hd (nrm x) ρ else .stuck|.stuck=>.stuck)from h)
  cases ea:qU ws with
  | exc x=>rw [ea]at h;exact h.elim
  | stuck=>rw [ea]at h;exact h.elim
  | ok ys =>
   rw [ea]at h;obtain⟨g2,l2⟩:=zC S.s g1;have A:=yw (κ:=kx X) g1.s q1 ea (qL H F1 H1) l2 (fun a o e0 e2=>by unfold qL;rw [e0];exact e2)
   have hl:vs.length=n:=by
    rw [<- hn,<- yx fa ρ ws ef];clear A ea h r1
    revert vs
    have:∀(ws:List En) (vs:List V),Voks (kx X) H F1 H1 vs ws->vs.length=ws.length:=by
     intro ws
     induction ws with
     | nil=>intro vs h;cases (show vs=[]from h);rfl
     | cons w ws ih =>
      intro vs h;obtain⟨v,r,rfl,_,h2⟩:=h;simp [ih r h2]
    intro vs h;exact this ws vs h
   have h:PostS X F0 H0 F D (match dn ys with|.ok _=>.nx ρ|.exc x=>if cs.contains (nrm x).cls=true then hd (nrm x) ρ else .stuck|.stuck=>.stuck):=h
   have r2:Vals (vs++[]) (us++[]):=r1.append .nil;cases ed:dn ys with
   | stuck=>rw [ed]at h;exact h.elim
   | ok wr =>
    rw [ed]at h;have h:∀ Y F' H',Le F F'->StOk (kx X) F0 H0 F' H' ρ Y->D.nx Y H':=h;refine thn (uO (X:=X.inn (X.pn++pins) E') (E:=E0) (Q:=fun v H'=>∃ F',Gr (qL H F1 H1) H1 F' H') G hr Z (dvs:=[]) .nil (fun _ _ _ _ _ _ _ z=>by obtain⟨_,_,_,_,_,z⟩:=z;exact z.elim) I1 r1 ?_) fun u s' ⟨v,H',I',rv,F',g'⟩=>?_
    ·rw [tP];exact⟨hl,qL H F1 H1,ys,g2.s,A,by rw [ed];exact fun v F' H' g' _=>⟨F',g'⟩⟩
    ·exact⟨rfl,σ,H',I'.uninn,h σ F' H' (Le.trans g2.f g'.f) (S.grow (g2.trans g'))⟩
   | exc x0 =>
    rw [ed]at h;have U:spX (kx X) dn n vs H1 (fun _ _=>False) (fun v a H'=>v=.str x0.cls 0/\a=atc x0/\∃ F',Gr (qL H F1 H1) H1 F' H'):=⟨hl,qL H F1 H1,ys,g2.s,A,by rw [ed];exact fun F' H' g'=>⟨rfl,rfl,F',g'⟩⟩
    refine fq (py (pU (G.run X.A X.stack s1 H1 ⟨us,[]⟩ us vs (fun _ _=>False) (fun v a H'=>v=.str x0.cls 0/\a=atc x0/\∃ F',Gr (qL H F1 H1) H1 F' H') hr I1.env0 ?_ r1 U) fun r s' z=>?_)) (fun _ _ z=>z) fun _ _ z=>z
    ·have:=Z s1 us I1.kIn (by rw [<- r2.length,tP];exact G.len vs H1 _ _ U)
     rwa [tP]at this
    ·cases r with
     | ok fl=>cases fl<;>first|exact z.elim|(obtain⟨_,_,_,_,_,_,_,z⟩:=z;exact z.elim)
     | error er =>
      obtain⟨y,H',a,rfl,fl,ec,ea',F',g'⟩:=z;have ey:nrm x0=y:=(Z2 (by injection ec with z;exact z.symm) ea'.symm).trans (kG fl.ok)
      have h:PostS X F0 H0 F D (if cs.contains (nrm x0).cls=true then hd (nrm x0) ρ else .stuck):=h
      rw [ey]at h;by_cases hc:cs.contains y.cls=true
      ·rw [gB hc]at h;show E' (.ref a) s';rw [<- hE];have J1:Inv X pins σ H1 s1:=I1.uninn;have J2:Inv X pins σ H' s':=J1.call' fl.os fl.un fl.hok fl.bare (fun b z=>by simp at z)
       obtain⟨C,dd,hmC,W,at_⟩:=fl.way;refine Jr (base:=X.base) (L:=L) (outer:=outer) (by rw [J2.ok.frames,B]) (B▸J2.stack) hf W (.inr rfl) (fun b Z=>fl.hok.fresh Z) fl.sz fun h1 c1 w1=>?_
       refine xI (s:={s' with heap:=h1}) (fs:=frs (X.env::outer)) w1 fun h2 c2 w2=>?_
       have c:Chg H' s1.heap.objs.size (frs X.stack) s'.heap h2:=B▸c1.trans c2;have J3:=Inv.chg (t':=s'.toks) J1 J2 c;exact hh pins σ σ H1 F' H' s1 _ a C dd y ρ D J1 J3 (S.grow (g2.trans g')) hmC fl.ok hc w2 (at_.chg c (kE J1)) (h.le (Le.trans g2.f g'.f))
      ·rw [gD hc]at h;exact h.elim
end
open PySem PySem.Spec PyProof.Rows L2
section
variable{X:Cx}{F0 H0:Hp}{pos p pos2:Pos}{e:Expr}{es:List Expr}{fa:List EF}{g:Str}{fg:Addr}{dn:Den}{st:SF}{f:EF}{pre:List EF}
theorem qe0(hi:RX X F0 H0 e dn fa)(U:X.mg g=some (.ref fg))(W:keepIn X.K (.ref fg)=true)
  (Y:Gl X g:=by rfl)(z:(g==("__debug__":Str))=false:=by decide)(O:starEach (e::es) X.env=(false,eval e X.env)::starEach es X.env:=by rfl)(B:(backTo pos (starEach es X.env)).any (·.1)=false:=by rfl) :
  RX X F0 H0 (.Call (.Name g p) (e::es) [] pos) dn fa:=by
 intro pins s σ F H ρ Q x0 S I hx h;refine hV (vd I Y U ?_ z);refine fC (h₀:=X.base) I.ok.mod.kin W ?_ O B;rw [O];exact gJ (hi pins s σ F H ρ _ x0 S I hx h)
def RXA(X:Cx)(F0 H0:Hp)(es:List Expr)(pre:List EF)(dn:Den)(fa:List EF):Prop :=
 ∀(pos:Pos) (pins:List (Addr×Obj)) (s:Shared) (σ:St) (F H:Hp) (ρ:Rho) (Q:List Value->Shared->Prop) (x:Xc) (ws:List En),StOk (kx X) F0 H0 F H ρ σ->Inv X pins σ H s->vE dn fa ρ=some x->evs pre ρ=.ok ws->XPS X F0 H0 (nrm x) ->
  wpAny (model X.prog X.w) X.A (spliced (backTo pos (starEach es X.env))) Q X.xe s
theorem qe1(hi:RX X F0 H0 e dn fa)(z:starEach (e::es) X.env=(false,eval e X.env)::starEach es X.env:=by rfl):RXA X F0 H0 (e::es) [] dn fa:=by
 intro pos pins s σ F H ρ Q x0 ws S I hx hw h;rw [z];exact gJ (hi pins s σ F H ρ _ x0 S I hx h)
theorem Qy(h1:SE X F0 H0 e f)(h2:RXA X F0 H0 es pre dn fa)(z:starEach (e::es) X.env=(false,eval e X.env)::starEach es X.env:=by rfl):RXA X F0 H0 (e::es) (f::pre) dn fa:=by
 intro pos pins s σ F H ρ Q x0 ws S I hx hw h;rw [z];have hw:(f ρ).bind (fun x=>(evs pre ρ).bind fun xs=>.ok (x::xs))=.ok ws:=hw
 cases ef:f ρ with
 | exc y=>rw [ef]at hw;cases hw
 | stuck=>rw [ef]at hw;cases hw
 | ok w =>
  rw [ef]at hw;have hw:(evs pre ρ).bind (fun xs=>R.ok (w::xs))=.ok ws:=hw
  cases ep:evs pre ρ with
  | exc y=>rw [ep]at hw;cases hw
  | stuck=>rw [ep]at hw;cases hw
  | ok xs =>
   refine gJ (h1 pins s σ F H ρ _ S I ?_);rw [ef];intro v u F1 H1 s1 g1 q1 r1 I1;exact h2 pos pins s1 σ F1 H1 ρ _ x0 xs (S.grow g1) I1 hx ep h
def sXA(pre:List EF)(dn:Den)(fa:List EF)(st:SF):SF:=fun ρ=>match vE dn fa ρ with
 | some x=>(match evs pre ρ with|.ok _=>.exc (nrm x)|_=>.stuck)
 | none=>st ρ
theorem qe2{B:Nat}(z:SS X F0 H0 (.Return (some (.Tuple es B pos)) pos2) st)(h:RXA X F0 H0 es pre dn fa):SS X F0 H0 (.Return (some (.Tuple es B pos)) pos2) (sXA pre dn fa st):=by
 intro pins s σ F H ρ D S I q;unfold sXA at q;cases er:vE dn fa ρ with
 | none=>rw [er]at q;exact z pins s σ F H ρ D S I q
 | some x0 =>
  rw [er]at q;dsimp only at q;cases ep:evs pre ρ with
  | exc y=>rw [ep]at q;exact q.elim
  | stuck=>rw [ep]at q;exact q.elim
  | ok ws =>
   rw [ep]at q;exact cR (cz (h pos pins s σ F H ρ _ x0 ws S I er ep q))
end
open PySem PySem.Spec PyProof.Rows L2
def Zt(K:Frag)(L:List (Str×Addr)):Bool:=L.all fun p=>L.all fun q=>kitOne K (.ref p.2) (.ref q.2)==some (p.1==q.1)
structure XAll(K:Frag)(mg:Str->Option Value)(S:Addr)(L:List (Str×Addr)):Prop where
 mg:∀ p∈L,mg p.1=some (.ref p.2)
 cl:∀ p∈L,zl K p.2=true
 mr:∀ p∈L,PySem.W.mroIn K p.2 (.ref S)=some true
 isi:∀ p∈L,XIsi K p.2
 get:∀ p∈L,XGet K p.2
 val:∀ p∈L,kitCls K (.ref p.2) (.type "ValueError")=some true
 kit:Zt K L=true
section
variable{X:Cx}{F0 H0:Hp}{S C e:Addr}{L:List (Str×Addr)}{c cS:Str}{x:Xc}{cs:List Str}
theorem XAll.mem(h:XAll X.K X.mg S L)(z:(L.map (·.1)).contains c=true)(B:X.mg c=some (.ref C)):(c,C)∈L:=by
 have:c∈L.map (·.1):=by simpa using z
 obtain⟨p,hp,rfl⟩:=tR.mp this;have:=h.mg p hp;rw [B]at this;cases this;exact hp
theorem XAll.caught(h:XAll X.K X.mg S L)(z:L.map (·.1)=cs:=by rfl):Z4 X S cs:=by
 subst z;exact fun _ _ hc hm=>⟨h.cl _ (h.mem hc hm),h.mr _ (h.mem hc hm)⟩
theorem XAll.kits(h:XAll X.K X.mg S L)(z:L.map (·.1)=cs:=by rfl):∀ c C,cs.contains c=true->X.mg c=some (.ref C)->kitCls X.K (.ref C) (.type "ValueError")=some true:=by
 subst z;exact fun _ _ hc hm=>h.val _ (h.mem hc hm)
theorem XAll.one(h:XAll X.K X.mg S L)(z:cs.contains c=true)(B:X.mg c=some (.ref C))(O:(cS,e)∈L)(U:L.map (·.1)=cs:=by rfl):kitOne X.K (.ref C) (.ref e)=some (c==cS):=by
 subst U;have k:=h.kit;unfold Zt at k;have:=p9.mp (p9.mp k _ (h.mem z B)) _ O;simpa using this
theorem XAll.isiC(h:XAll X.K X.mg S L)(z:cs.contains x.cls=true)(B:X.mg x.cls=some (.ref C))(O:L.map (·.1)=cs:=by rfl):XIsi X.K C:=by
 subst O;exact h.isi _ (h.mem z B)
theorem XAll.getC(h:XAll X.K X.mg S L)(z:cs.contains x.cls=true)(B:X.mg x.cls=some (.ref C))(O:L.map (·.1)=cs:=by rfl):XGet X.K C:=by
 subst O;exact h.get _ (h.mem z B)
theorem all1{α:Type}{P:α->Prop}{a:α}{l:List α}(h:P a)(r:∀ p∈l,P p):∀ p∈a::l,P p:=fun p hp=>by
 rcases gl.mp hp with rfl|z
 ·exact h
 ·exact r p z
theorem all0{α:Type}{P:α->Prop}:∀ p∈([]:List α),P p:=fun _ h=>nomatch h
end
section
variable{X:Cx}{F0 H0:Hp}{pos pos' pos2:Pos}{fa:List EF}{dn:Den}{st:SF}{y:Str}
theorem qe3{tg elt iter:Expr}{ifs:List Expr}{scope:Scope}(U:SS X F0 H0 (.Assign [.Name y pos'] (.ListComp elt [⟨tg,iter,ifs,0⟩] scope pos) pos2) st)(hi:RX X F0 H0 iter dn fa)
  (W:swapsWith (.ListComp elt [⟨tg,iter,ifs,0⟩] scope pos) (some (.Name y pos')) pos2.line X.env=pure true:=by rfl)(B:scope.kind=.function:=by rfl)(O:zR X.env scope.names=true:=by rfl)
  (z:∀ x∈scope.names,x.2=.local->scope.names.lookup x.1=some .local:=by decide +kernel)(Y:∀ x,foldedSetIterable iter X.env x=pure x:=by intro _;rfl) :
  SS X F0 H0 (.Assign [.Name y pos'] (.ListComp elt [⟨tg,iter,ifs,0⟩] scope pos) pos2) (sX dn fa st):=by
 intro pins s σ F H ρ D S I q;unfold sX at q;cases er:vE dn fa ρ with
 | none=>rw [er]at q;exact U pins s σ F H ρ D S I q
 | some x0 =>
  rw [er]at q
  (rw [d6 _ _ _ _ W])
  (refine g6 (pI (g6 ?_)))
  show wpAny _ X.A (do let _ <- comprehension (.ListComp elt [⟨tg,iter,ifs,0⟩] scope pos) scope X.env _ (newList []) false (eval iter X.env) (some (assign (.Name y pos') X.env))) _ _ s
  have has:∀ n,X.env.kindOf n=some .cell->∃ c,X.env.cells.lookup n=some c:=fun n hn=>I.ok.has n (.inl hn)
  refine g6 (cB rfl Y (JG O has) B z ?_);exact hi pins s σ F H ρ _ x0 S I er q
end
open PySem PySem.Spec PyProof.Rows L2
def wu:D->D->R En
 | .str x,.str y=>if x.length+y.length<=sz then .ok (.fz (.str (x++y)))else .stuck
 | a,b=>qA a b
theorem Zu{X:Cx}:OpD X (binaryOp .Add) wu:=by
 intro pins s σ F H x y v u dx dy Q I l rx ry qx qy w;unfold wu at w;split at w
 ·rename_i a b;by_cases c:a.length+b.length<=sz
  ·rw [gB c]at w;obtain rfl:=RdV.str qx;obtain rfl:=RdV.str qy;obtain⟨t1,rfl⟩:∃ t,v=.str a t:=rx;obtain⟨t2,rfl⟩:∃ t,u=.str b t:=ry;exact add_str (fun t' tk=>⟨.str (a++b),H,I.tok tk,⟨t',rfl⟩,qZ l (v:=.str _) w rfl⟩) (by rw [<- jB];exact c)
  ·rw [gD c]at w;exact w.elim
 ·exact qV pins s σ F H x y v u _ _ Q I l rx ry qx qy w
open PySem PySem.Spec PyProof.Rows L2
def yK:List D->R En
 | [.non]=>.ok (.fz (.str "None"))
 | ds=>Z8 ds
theorem XW{X:Cx}:zD X (.type "str") yK:=by
 intro pins s σ F H xs us ds Q I l rv qs w;unfold yK at w;split at w
 ·cases qs with
  | cons q r =>
   cases r;obtain rfl:=RdV.non q;obtain⟨u,rfl,e⟩:=xE rv;cases (show u=Value.none from e)
   exact PySem.P.str_of_none ⟨.str _,H,I.tok _,⟨_,rfl⟩,qZ l (v:=.str _) w rfl⟩
 ·exact qcV pins s σ F H xs us _ Q I l rv qs w
open PySem PySem.Spec PyProof.Rows L2
theorem rm{j k:Nat}{A:Around}(z:Room k A)(h:j<=k:=by decide):Room j A:=z.mono h
inductive FunE(K:Frag)(x:Str)(s:Stmt):Prop
 | mk {f:Addr} {od an:Option Addr} {sl:Array (Option Value)} {oc kV dc pm cd ct:Value} (a:nsIn K mainGlobals x=some (some (.ref f)))
   (l:K.lookup f=some ⟨oc,od,.func (PySem.W.fnOf x x (defArgs s) (defBody s) (defScope s) .none kV dc pm an cd ct),sl⟩) (c:codeIn K cd x=true) (k:keepIn K (.ref f)=true):FunE K x s
inductive DatE(K:Frag)(x:Str)(c:D):Prop
 | mk {u:Value} (n:nsIn K mainGlobals x=some (some u)) (d:vj K 9 u=some c):DatE K x c
structure Cal(K:Frag)(mg:Str->Option Value)(x:Str)(ps:List Str)(f:Addr)(fd:FuncData):Prop where
 m:mg x=some (.ref f)
 k:keepIn K (.ref f)=true
 b:Binds K fd ps []
 n:nsIn K mainGlobals x=some (some (.ref f))
def FunF(K:Frag)(mg:Str->Option Value)(x:Str)(s:Stmt)(ps:List Str):Prop:=∃ f fd,Fun K x x s f fd/\Cal K mg x ps f fd
def C0(P:Program)(w:World)(K:Frag)(mg:Str->Option Value)(base:Heap)(k:Nat)(x:Str)(ps:List Str)(dn:Den):Prop:=∃ f fd,FnOk P w K mg base CX0 k f fd ps (spD ⟨P,w,K⟩ dn ps.length)/\Cal K mg x ps f fd
def C1(P:Program)(w:World)(K:Frag)(mg:Str->Option Value)(base:Heap)(k:Nat)(x:Str)(ps:List Str)(dn:Den):Prop:=∃ f fd,FnOk P w K mg base (CX1 P w mg) k f fd ps (spX ⟨P,w,K⟩ dn ps.length)/\Cal K mg x ps f fd
def CI(P:Program)(w:World)(K:Frag)(mg:Str->Option Value)(base:Heap)(k:Nat)(x:Str)(ps:List Str)(dn:Den):Prop:=∃ f fd,FnOk P w K mg base CX0 k f fd ps (spI ⟨P,w,K⟩ dn ps.length)/\Cal K mg x ps f fd
def CC(P:Program)(w:World)(K:Frag)(mg:Str->Option Value)(x:Str)(c:D):Prop:=∃ u v,mg x=some u/\RelV v u/\∀ F,Rep ⟨P,w,K⟩ F v c
section
variable{P:Program}{w:World}{K:Frag}{mg:Str->Option Value}{h:Heap}{x:Str}{s:Stmt}{ps:List Str}{c:D}
theorem qw(X:K.In h)(G:h.Ns mainGlobals mg)(E:FunE K x s)(z:∀(kV doc pm:Value) (an:Option Addr) (cdv ct:Value) (us:List Value),us.length=ps.length->bindArgs (PySem.W.fnOf x x (defArgs s) (defBody s) (defScope s) .none kV doc pm an cdv ct) ⟨us,[]⟩=pure (ps.zip us)):FunF K mg x s ps:=by
 obtain⟨a,l,cd,k⟩:=E;exact⟨_,_,km l cd k,fy X G a,k,(km l cd k).binds z,a⟩
theorem jH(X:K.In h)(G:h.Ns mainGlobals mg)(E:DatE K x c):CC P w K mg x c:=by
 obtain⟨n,d⟩:=E;obtain⟨v,r,q⟩:=Km (κ:=⟨P,w,K⟩) 9 _ _ d;exact⟨_,v,fy X G n,r,q⟩
theorem qe4{a:Addr}{l:List (Sum Int Str×D)}(X:K.In h)(G:h.Ns mainGlobals mg)(n:nsIn K mainGlobals x=some (some (.ref a)))(d:DatS w K a l):CC P w K mg x (.dK l):=by
 obtain⟨v,r,q⟩:=qdt (κ:=⟨P,w,K⟩) d;exact⟨_,v,fy X G n,r,q⟩
end
section
variable{P:Program}{w:World}{K:Frag}{mg:Str->Option Value}{base:Heap}{x:Str}{st:Stmt}{N ps:List Str}{p:Str}{k:Nat}{body:SF}
theorem fD(F:FunF K mg x st ps)(S:FnScope N ps (defScope st))(h:∀(f:Addr) (cdv:Value) (A:Around) (outer:List Env) (s:Shared) (H F0:Hp),Room k (A.deeper (envOfC x (defScope st) s.heap.objs.size f cdv)) ->
  SSs (cxOf CX0 P w K mg base N x (defScope st) f cdv A outer s H E0).nox F0 H (defBody st) body):C0 P w K mg base (k+1) x ps (den N.length body):=by
 obtain⟨f,fd,F,J⟩:=F;exact⟨f,fd,fnD F S (h f),J⟩
theorem fX(F:FunF K mg x st ps)(S:FnScope N ps (defScope st))(h:∀(f:Addr) (cdv:Value) (A:Around) (outer:List Env) (s:Shared) (H F0:Hp) (E:XK),Room k (A.deeper (envOfC x (defScope st) s.heap.objs.size f cdv)) ->
  SSs (cxOf (CX1 P w mg) P w K mg base N x (defScope st) f cdv A outer s H E) F0 H (defBody st) body):C1 P w K mg base (k+1) x ps (den N.length body):=by
 obtain⟨f,fd,F,J⟩:=F;exact⟨f,fd,fnX F S (h f),J⟩
theorem fI(F:FunF K mg x st ps)(S:FnScope N ps (defScope st))(h:∀(f:Addr) (cdv:Value) (A:Around) (outer:List Env) (s:Shared) (H F0 H0:Hp),Room k (A.deeper (envOfC x (defScope st) s.heap.objs.size f cdv)) ->
  SSs (cxOf CX0 P w K mg base N x (defScope st) f cdv A outer s H E0).nox F0 H0 (defBody st) body):CI P w K mg base (k+1) x ps (den N.length body):=by
 obtain⟨f,fd,F,J⟩:=F;exact⟨f,fd,fnI F S (h f),J⟩
theorem c10{dn:Den}(G:C1 P w K mg base k x ps dn):C0 P w K mg base k x ps dn:=by
 obtain⟨f,fd,G,J⟩:=G;exact⟨f,fd,calm G,J⟩
end
section
variable{X:Cx}{F0 H0:Hp}{pos p:Pos}{e:Expr}{es:List Expr}{fa:List EF}{x:Str}{k:Nat}{ps:List Str}{dn:Den}{d:D}
theorem cl(G:C0 X.prog X.w X.K X.mg X.base k x ps dn)(O:Room k X.A)(U:SA X F0 H0 (e::es) fa)(W:fa.length=ps.length:=by rfl)
  (Y:Gl X x:=by rfl)(z:(x==("__debug__":Str))=false:=by decide)(Z:starEach (e::es) X.env=(false,eval e X.env)::starEach es X.env:=by rfl)(B:(backTo pos (starEach es X.env)).any (·.1)=false:=by rfl) :
  SE X F0 H0 (.Call (.Name x p) (e::es) [] pos) (qj dn fa):=by
 obtain⟨_,_,G,J⟩:=G;exact qak G O J.m J.k J.b U W Y z Z B
theorem gb(q:CC X.prog X.w X.K X.mg x d)(z:Gl X x:=by rfl)(hd:(x==("__debug__":Str))=false:=by decide):SE X F0 H0 (.Name x pos) (eC d):=by
 obtain⟨_,_,m,r,q⟩:=q;exact Ka m r q z hd
end
inductive ClsE(K:Frag)(c:Str)(S C:Addr):Prop
 | mk (a:nsIn K mainGlobals c=some (some (.ref C))) (kc:keepIn K (.ref C)=true) (xc:zl K C=true) (v:kitCls K (.ref C) (.type "ValueError")=some true) (mo:PySem.W.mroIn K C (.type "object")=some true)
   (kl:findIn K (.ref C) "__class__"=some (some (.builtin "object.__class__"))) (ix:Z9 K C=true) (na:findIn K (.ref C) "at"=some none) (ga:findIn K (.ref C) "__getattribute__"=some (some (.builtin "BaseException.__getattribute__")))
   (gh:findIn K (.ref C) "__getattr__"=some none) (mr:PySem.W.mroIn K C (.ref S)=some true):ClsE K c S C
inductive IniE(K:Frag)(q:Str)(s:Stmt)(C:Addr):Prop
 | mk {f:Addr} {od an:Option Addr} {sl:Array (Option Value)} {oc kV dc pm cd ct:Value} (a:findIn K (.ref C) "__init__"=some (some (.ref f)))
   (l:K.lookup f=some ⟨oc,od,.func (PySem.W.fnOf "__init__" q (defArgs s) (defBody s) (defScope s) .none kV dc pm an cd ct),sl⟩) (c:codeIn K cd q=true) (k:keepIn K (.ref f)=true)
   (sa:findIn K (.ref C) "__setattr__"=some (some (.builtin "object.__setattr__"))) (ty:typeIn K (.ref f)=some (.type "function")):IniE K q s C
end L3
namespace My
open PySem PySem.Spec PyProof.Rows L2 L3
def top(i:Nat):Stmt:=PySem.Challenge.pw_stavemill_k31_pages_refused.main.body.getD i (.Pass ⟨0,0,0,0⟩)
def Zv:D:=.str "CDEFGAB"
def kM:D:=.tup [.int 0,.int 1,.int 2]
def Zw:D:=.tup [.int 37,.int 31,.int 25]
def Zx:D:=.int 8
def Zy:D:=.int 4
def uj:D:=.int 60
def yL:D:=.tup [.tup [.int 0,.int 1000],.tup [.int 1,.int 400],.tup [.int 0,.int 127]]
def Qz:D:=.dK [(.inl (112),.tup [.int 64,.int 2]),(.inl (96),.tup [.int 64,.int 1]),(.inl (64),.tup [.int 64,.int 0]),(.inl (56),.tup [.int 32,.int 2]),(.inl (48),.tup [.int 32,.int 1]),(.inl (32),.tup [.int 32,.int 0]),(.inl (28),.tup [.int 16,.int 2]),(.inl (24),.tup [.int 16,.int 1]),(.inl (16),.tup [.int 16,.int 0]),(.inl (14),.tup [.int 8,.int 2]),(.inl (12),.tup [.int 8,.int 1]),(.inl (8),.tup [.int 8,.int 0]),(.inl (7),.tup [.int 4,.int 2]),(.inl (6),.tup [.int 4,.int 1]),(.inl (4),.tup [.int 4,.int 0]),(.inl (3),.tup [.int 2,.int 1]),(.inl (2),.tup [.int 2,.int 0]),(.inl (1),.tup [.int 1,.int 0])]
def QA:D:=.int (-7)
def QB:D:=.int 7
def uk:D:=.str "FCGDAEB"
def XX:List (Sum Int Str×D):=[(.inr "C",.int 0),(.inr "D",.int 2),(.inr "E",.int 4),(.inr "F",.int 5),(.inr "G",.int 7),(.inr "A",.int 9),(.inr "B",.int 11)]
def XY:D:=.dK XX
def QC:D:=.int 1
def QD:D:=.int 5000
def QE:D:=.int 4
def QF:D:=.int 3
def ul:D:=.int 20
def QG:D:=.tup [.tup [.int 0,.int 1000],.tup [.int 1,.int 24],.tup [.int 1,.int 64]]
def QH:D:=.tup [.int 1,.int 2,.int 4,.int 8,.int 16,.int 32,.int 64]
def QI:D:=.int 8
def QJ:D:=.int 512
def Zz:D:=.int 8
abbrev ZB:Stmt:=top 6
def qe5:SF :=
 (qu (eOp qA (eOp zx (eC (.int 7)) (eOp yG (q9 0) (eC (.int 1)))) (eOp Qt (eC Zv) (eOp yG (q9 0) (eC (.int 0))))))
def yM:Den:=den 1 qe5
abbrev ZC:Stmt:=top 7
def qe6:SF :=
 (qf (qi 2 (eOp qe (eC Zw) (q9 1)))
 (qf (qi 3 (eOp jc (eOp jc (q9 0) (q9 2)) (eC Zx)))
 (qf (qi 4 (eOp jc (q9 2) (q9 0)))
 (qu (eOp zA (eB XI [(q9 3),(q9 4),(eC (.int 0))]) (eC (.int 2)))))))
def ZD:Den:=den 5 qe6
abbrev ZE:Stmt:=top 10
def qe7:SF :=
 (qu (qT 1 (jo (eC kM)) (gV 2) je (eIf (tE (eOp dEq (q9 2) (q9 1))) (eOp qe (q9 0) (q9 2)) (eOp qA (eOp qe (q9 0) (q9 2)) (eC Zy)))))
def kN:Den:=den 2 qe7
abbrev ZF:Stmt:=top 22
def qe8:SF :=
 (qu (wR (eUn (dIs .int) (q9 0)) (K8 (eUn (dIs .bool) (q9 0)))))
def yN:Den:=den 1 qe8
abbrev ZG:Stmt:=top 25
def ZH:SF :=
 (qu (wR (eUn (dIs .list) (q9 0)) (xU dLe dLe (q9 1) (eB jC [(q9 0)]) (q9 2))))
def wA:Den:=den 3 ZH
abbrev ZI:Stmt:=top 29
def XZ:SF :=
 (qu (eOp qA (eOp qe (q9 0) (eC (.int 0))) (eOp qe (q9 0) (eC (.int 1)))))
def jI:Den:=den 1 XZ
abbrev ZJ:Stmt:=top 33
def U0:SF :=
 (qf (Qp 1 eDT)
 (qf (jd (jo (eB vR [(q9 0)])) (gV 2) (sSd 1 [(eOp qe (q9 2) (eC (.int 0))),(eOp qe (q9 2) (eC (.int 1)))] (qK []) (eOp qe (q9 2) (eC (.int 2)))))
 (Zf 1 (qu (qT 1 (iT 1) (gV 3) je (js [(eOp qe (q9 3) (eC (.int 0))),(eOp qe (q9 3) (eC (.int 1))),(eB Jp [(eOp Qs (q9 1) (q9 3))])]))))))
def vS:Den:=den 3 U0
abbrev ZK:Stmt:=top 36
def U3:SF :=
 (qf (qi 1 (qK []))
 (qf (qi 2 (q9 0))
 (qf (jd (JI (eC Qz)) (gV 3) (uS 520 (tE (eOp dLe (q9 3) (q9 2))) (qf (jA 1 (q9 3))
 (zB 2 jc (q9 3)))))
 (jM 1))))
def yb:Den:=den 4 U3
abbrev ZL:Stmt:=top 48
def qe9:SF :=
 (qu (eOp qA (q9 0) (eOp zy (eOp jc (q9 1) (q9 0)) (q9 2))))
def uo:Den:=den 3 qe9
abbrev ZM:Stmt:=top 50
def qea:SF :=
 (qu (eOp zA (eOp qA (q9 0) (eC (.int 1))) (eC (.int 7))))
def uq:Den:=den 1 qea
abbrev ZN:Stmt:=top 54
def U4:SF :=
 (qf (qi 1 (qK []))
 (qf (jd (vm 0) (gT [2,3]) (qf (qi 4 (eC (.int 0)))
 (jd (vm 3) (gT [5,6]) (qf (jA 1 (js [(q9 4),(q9 2),(q9 5)]))
 (zB 4 vi (eOp qe (q9 6) (eC (.int 1))))))))
 (qu (eB vR [(q9 1)]))))
def vT:Den:=den 7 U4
abbrev ZO:Stmt:=top 55
def qeb:SF :=
 (qf (sIf (tOr (tE (eOp Z0 (q9 0) (eC .non))) (tOr (tE (eOp dEq (eOp qe (q9 0) (eC (.int 0))) (eC (.str "rest")))) (tNot (tE (eOp qe (q9 0) (eC (.int 3))))))) (qu (eC .non)) qr)
 (qu (eOp qe (q9 0) (eC (.int 2)))))
def ur:Den:=den 1 qeb
abbrev ZP:Stmt:=top 66
def U5:SF :=
 (qf (qi 1 (eC (.int 0)))
 (qf (jN 0 (jd (iV 0) (gV 2) (jN 2 (jd (iV 2) (gV 3) (sIf (tE (eOp dEq (eOp qe (q9 3) (eC (.int 0))) (eC (.str "note")))) (zB 1 vi (eB jC [(qT 1 (jo (eOp qe (q9 3) (eC (.int 2)))) (gV 4) (tE (eOp Qh (eOp qe (q9 4) (eC (.int 2))) (eC .non))) (q9 4))])) qr)))))
 (jM 1)))
def ut:Den:=den 4 U5
abbrev ZQ:Stmt:=top 78
def U6:SF :=
 (qu (eOp zx (eOp qe (q9 0) (eC (.int 1))) (eOp qe (q9 0) (eC (.int 2)))))
def vq:Den:=den 1 U6
abbrev ZR:Stmt:=top 80
def ZS:SF :=
 (qf (sIf (tE (eOp dEq (q9 1) (eC (.int 0)))) (qu (eOp dEq (eOp qe (eOp qe (q9 0) (eC (.int 0))) (eC (.int 0))) (eC (.int 0)))) qr)
 (qu (eOp dGt (eOp qe (eOp qe (q9 0) (q9 1)) (eC (.int 0))) (eOp qe (eOp qe (q9 0) (eOp jc (q9 1) (eC (.int 1)))) (eC (.int 0))))))
def wB:Den:=den 2 ZS
abbrev ZT:Stmt:=top 93
def U7:SF :=
 (qf (sIf (tE (eOp dLt (q9 1) (eB jC [(q9 0)]))) (qu (eOp qe (q9 0) (q9 1))) qr)
 (qu (eC (.int 0))))
def jx:Den:=den 2 U7
abbrev ZU:Stmt:=top 94
def U8:SF :=
 (qu (eOp zy (eOp zy (eOp zx (q9 0) (eC (.int 48271))) (q9 1)) (q9 2)))
def jv:Den:=den 3 U8
abbrev ZV:Stmt:=top 96
def U9:SF :=
 (qf (jN 1 (jd (iV 1) (gV 2) (sIf (tAnd (tE (eOp dEq (eOp qe (q9 0) (eC (.int 2))) (eOp qe (q9 2) (eC (.int 2))))) (tAnd (tE (eOp dLt (eOp qe (q9 0) (eC (.int 0))) (eOp qA (eOp qe (q9 2) (eC (.int 0))) (eOp qe (q9 2) (eC (.int 1)))))) (tE (eOp dLt (eOp qe (q9 2) (eC (.int 0))) (eOp qA (eOp qe (q9 0) (eC (.int 0))) (eOp qe (q9 0) (eC (.int 1)))))))) (qu (eC (.bl false))) qr)))
 (qu (eC (.bl true))))
def kO:Den:=den 3 U9
abbrev ZW:Stmt:=top 97
def Ua:SF :=
 (qf (qi 2 eDT)
 (qf (jN 1 (jd (iV 1) (gV 3) (sIf (tAnd (tE (eOp dLt (eOp qe (q9 3) (eC (.int 0))) (eOp qA (eOp qe (q9 0) (eC (.int 0))) (eOp qe (q9 0) (eC (.int 1)))))) (tE (eOp dLt (eOp qe (q9 0) (eC (.int 0))) (eOp qA (eOp qe (q9 3) (eC (.int 0))) (eOp qe (q9 3) (eC (.int 1))))))) (sIf (tE (eOp dNe (js [(eOp qe (q9 3) (eC (.int 0))),(eOp qe (q9 3) (eC (.int 1)))]) (js [(eOp qe (q9 0) (eC (.int 0))),(eOp qe (q9 0) (eC (.int 1)))]))) (kD 2 [(eOp qe (q9 3) (eC (.int 0))),(eOp qe (q9 3) (eC (.int 1)))] (eC (.bl true))) qr) qr)))
 (qu (eB jC [(q9 2)]))))
def kP:Den:=den 4 Ua
abbrev ZX:Stmt:=top 107
def Ub:SF :=
 (qf (sIf (tE (eOp qe (q9 0) (eC (.int 0)))) (qu (eC (.str "key"))) qr)
 (qf (sIf (tE (eOp qe (q9 0) (eC (.int 1)))) (qu (eC (.str "meterNone"))) qr)
 (qf (sIf (tE (eOp qe (q9 0) (eC (.int 2)))) (qu (eOp wu (eC (.str "notes")) (eB yK [(q9 1)]))) qr)
 (qf (sIf (tE (eOp qe (q9 0) (eC (.int 3)))) (qu (eC (.str "room"))) qr)
 (qf (sIf (tE (eOp qe (q9 0) (eC (.int 4)))) (qu (eC (.str "thick"))) qr)
 (qu (eC (.str "wide0"))))))))
def vt:Den:=den 2 Ub
abbrev ZY:Stmt:=top 8
def Uc:SF :=
 (qf (qi 1 (qK []))
 (qf (jN 0 (jd (iV 0) (gV 2) (jN 2 (jd (iV 2) (gV 3) (sIf (tE (eOp dEq (eOp qe (q9 3) (eC (.int 0))) (eC (.str "note")))) (va 1 (qT 1 (jo (eOp qe (q9 3) (eC (.int 2)))) (gV 4) je (qj yM [(q9 4)]))) qr)))))
 (jM 1)))
def yc:Den:=den 4 Uc
abbrev ZZ:Stmt:=top 9
def qec:SF :=
 (qu (eB JM [(qT 1 (iVc 0) (gV 2) je (qj ZD [(q9 2),(q9 1)]))]))
def QK:Den:=den 2 qec
abbrev V0:Stmt:=top 23
def Ud:SF :=
 (qu (wR (qj yN [(q9 0)]) (xU dLe dLe (q9 1) (q9 0) (q9 2))))
def wC:Den:=den 3 Ud
abbrev V1:Stmt:=top 30
def Ue:SF :=
 (qu (wR (eOp dEq (eOp qe (q9 0) (eC (.int 2))) (eOp qe (q9 1) (eC (.int 2)))) (wR (eOp dLt (eOp qe (q9 0) (eC (.int 0))) (qj jI [(q9 1)])) (eOp dLt (eOp qe (q9 1) (eC (.int 0))) (qj jI [(q9 0)])))))
def kQ:Den:=den 2 Ue
abbrev V2:Stmt:=top 38
def Uf:SF :=
 (qu (qT 1 (jo (qj yb [(q9 0)])) (gV 1) je (js [(eC (.str "rest")),(q9 1)])))
def yd:Den:=den 1 Uf
abbrev V3:Stmt:=top 39
def qed:SF :=
 (qf (qi 3 (qj jI [(q9 0)]))
 (qf (qi 4 (qK []))
 (qf (qi 5 (q9 1))
 (qf (jd (jo (qj yb [(eOp jc (q9 2) (q9 1))])) (gV 6) (qf (zB 5 vi (q9 6))
 (jA 4 (js [(eC (.str "note")),(q9 6),(eOp qe (q9 0) (eC (.int 2))),(eOp dLt (q9 5) (q9 3))]))))
 (jM 4)))))
def uu:Den:=den 7 qed
abbrev V4:Stmt:=top 49
def qee:SF :=
 (qu (qj uo [(eOp jc (q9 1) (eC (.int 4))),(eOp zx (eC (.int 7)) (q9 0)),(eC (.int 12))]))
def V5:Den:=den 2 qee
abbrev V6:Stmt:=top 52
def qef:SF :=
 (qu (qj uq [(qj uo [(eOp jc (q9 1) (eC (.int 1))),(eOp jc (eOp Qt (eC uk) (q9 0)) (eC (.int 1))),(eC (.int 7))])]))
def V7:Den:=den 2 qef
abbrev V8:Stmt:=top 67
def Ug:SF :=
 (qf (qi 1 (ui (qT 1 (jo (qj vT [(q9 0)])) (gV 2) je (eOp qe (q9 2) (eC (.int 0))))))
 (qu (eOp qA (eOp qA (eC QE) (eOp zx (eC QF) (q9 1))) (qj ut [(q9 0)]))))
def vU:Den:=den 2 Ug
abbrev V9:Stmt:=top 82
def Uh:SF :=
 (qf (qi 2 eDK)
 (qf (jN 0 (jd (iV 0) (gV 3) (wZ 2 (eOp qe (q9 3) (eC (.int 0))) (qj vq [(q9 3)]))))
 (qf (qi 4 (qK []))
 (qf (qi 5 (eC (.int 0)))
 (qf (jd (iR1 (q9 1)) (gV 6) (qf (qi 5 (xT (q9 2) (q9 6) (q9 5)))
 (jA 4 (q9 5))))
 (jM 4))))))
def ye:Den:=den 7 Uh
abbrev Va:Stmt:=top 83
def Ui:SF :=
 (qf (qi 2 (eC (.int 0)))
 (qf (qi 3 (eC (.int 0)))
 (qf (qi 4 (eC (.int 0)))
 (qf (jN 0 (jd (iV 0) (gV 5) (qf (qi 6 (eOp qA (q9 3) (eOp zx (eOp jc (eOp qe (q9 5) (eC (.int 0))) (q9 2)) (q9 4))))
 (qf (sIf (tE (eOp dLt (q9 1) (q9 6))) Jq qr)
 (qf (qi 2 (eOp qe (q9 5) (eC (.int 0))))
 (qf (qi 3 (q9 6))
 (qi 4 (qj vq [(q9 5)]))))))))
 (qu (js [(eOp qA (q9 2) (eOp zA (eOp jc (q9 1) (q9 3)) (q9 4))),(eOp zy (eOp jc (q9 1) (q9 3)) (q9 4))]))))))
def uv:Den:=den 7 Ui
abbrev Vb:Stmt:=top 87
def qeg:SF :=
 (qf (jd (vm 0) (gT [2,3]) (sIf (tE (eOp dLe (qj jI [(eOp qe (q9 3) (eUn jU (eC (.int 1))))]) (q9 1))) (jM 2) qr))
 (qu (eB jC [(q9 0)])))
def Vc:Den:=den 4 qeg
abbrev Vd:Stmt:=top 95
def Uj:SF :=
 (qu (eOp dEq (qj jv [(eOp qA (qj jx [(q9 0),(eC (.int 0))]) (eOp zx (eC (.int 7)) (eB jC [(q9 0)]))),(eC (.int 9871)),(eC (.int 8))]) (eC (.int 3))))
def uw:Den:=den 1 Uj
abbrev Ve:Stmt:=top 98
def Uk:SF :=
 (qf (qi 3 (qj jv [(q9 0),(eC (.int 10007)),(eC (.int 97))]))
 (qf (qi 4 (eOp qA (eC (.int 1)) (qj jv [(q9 0),(eC (.int 9973)),(eC (.int 48))])))
 (qf (qi 5 (eOp qA (eC (.int 52)) (qj jv [(q9 0),(eC (.int 9967)),(eC (.int 25))])))
 (qf (qi 6 (eC (.int 96)))
 (qf (sIf (tE (q9 2)) (qf (qi 3 (qj jv [(q9 0),(eC (.int 10007)),(eC (.int 1001))]))
 (qf (qi 4 (eOp qA (eC (.int 1)) (qj jv [(q9 0),(eC (.int 9973)),(eC (.int 400))])))
 (qf (qi 5 (qj jv [(q9 0),(eC (.int 9967)),(eC (.int 128))]))
 (qi 6 (eC (.int 1000)))))) qr)
 (qf (qi 7 (qj jv [(q9 0),(eC (.int 9949)),(eC (.int 4))]))
 (qf (sIf (tAnd (tE (q9 1)) (tE (eOp dEq (q9 7) (eC (.int 0))))) (qf (qi 3 (eOp qe (eOp qe (q9 1) (eUn jU (eC (.int 1)))) (eC (.int 0))))
 (qi 4 (eOp qe (eOp qe (q9 1) (eUn jU (eC (.int 1)))) (eC (.int 1))))) qr)
 (qf (sIf (tAnd (tE (q9 1)) (tAnd (tE (eOp dEq (q9 7) (eC (.int 1)))) (tE (eOp dLe (eOp qA (eOp qe (eOp qe (q9 1) (eUn jU (eC (.int 1)))) (eC (.int 0))) (eOp qe (eOp qe (q9 1) (eUn jU (eC (.int 1)))) (eC (.int 1)))) (q9 6))))) (qf (qi 3 (eOp qA (eOp qe (eOp qe (q9 1) (eUn jU (eC (.int 1)))) (eC (.int 0))) (eOp qe (eOp qe (q9 1) (eUn jU (eC (.int 1)))) (eC (.int 1)))))
 (sIf (tE (eOp dEq (qj jv [(q9 0),(eC (.int 9941)),(eC (.int 2))]) (eC (.int 0)))) (qi 5 (eOp qe (eOp qe (q9 1) (eUn jU (eC (.int 1)))) (eC (.int 2)))) qr)) qr)
 (qu (js [(q9 3),(q9 4),(q9 5)]))))))))))
def kR:Den:=den 8 Uk
abbrev Vf:Stmt:=top 100
def Ul:SF :=
 (qu (eOp dEq (eOp zy (qj jx [(q9 0),(eC (.int 0))]) (eC (.int 4))) (eC (.int 3))))
def kS:Den:=den 1 Ul
abbrev Vg:Stmt:=top 101
def Um:SF :=
 (qf (qi 3 (qK [(eC (.int 1)),(eC (.int 2)),(eC (.int 4)),(eC (.int 8)),(eC (.int 16)),(eC (.int 32)),(eC (.int 64))]))
 (qf (qi 4 (eC (.int 8)))
 (qf (qi 5 (eC (.int 96)))
 (qf (sIf (tE (q9 2)) (qf (qi 3 (qK [(eC (.int 4)),(eC (.int 8)),(eC (.int 16)),(eC (.int 32)),(eC (.int 64))]))
 (qf (qi 4 (eC (.int 64)))
 (qi 5 (eC (.int 512))))) qr)
 (qf (qi 6 (eOp qe (q9 3) (qj jv [(q9 0),(eC (.int 10007)),(eB jC [(q9 3)])])))
 (qf (qi 7 (eOp zA (eOp jc (eOp qA (q9 4) (q9 6)) (eC (.int 1))) (q9 6)))
 (qf (qi 8 (eB wb [(eC (.int 24)),(eOp zA (q9 5) (q9 6))]))
 (qu (js [(q9 1),(eOp qA (q9 7) (qj jv [(q9 0),(eC (.int 9973)),(eOp qA (eOp jc (q9 8) (q9 7)) (eC (.int 1)))])),(q9 6)])))))))))
def kU:Den:=den 9 Um
abbrev Vh:Stmt:=top 103
def Uo:SF :=
 (qu (eOp jc (qj jv [(qj jx [(q9 0),(eC (.int 5))]),(eC (.int 9883)),(eC (.int 15))]) (eC (.int 7))))
def kW:Den:=den 1 Uo
abbrev Vi:Stmt:=top 104
def Vj:SF :=
 (qf (sIf (tE (q9 1)) (qu (eOp qA (eC (.int 2000)) (qj jv [(qj jx [(q9 0),(eC (.int 4))]),(eC (.int 9887)),(eC (.int 3001))]))) qr)
 (qu (eOp qA (eC (.int 400)) (qj jv [(qj jx [(q9 0),(eC (.int 4))]),(eC (.int 9887)),(eC (.int 400))]))))
def yO:Den:=den 2 Vj
abbrev Vk:Stmt:=top 11
def Uq:SF :=
 (qf (qi 1 (qK []))
 (qf (qi 2 (qK [(eC (.int 0)),(eC (.int 0)),(eC (.int 0))]))
 (qf (jd (Qu 0) (gV 3) (qf (qi 4 (qj yc [(q9 3)]))
 (qf (qi 2 (qT 1 (jo (eC kM)) (gV 5) je (eOp qA (qj QK [(q9 4),(q9 5)]) (eB uf [(qj kN [(q9 2),(q9 5)])]))))
 (jN 2 (jA 1 (q9 2))))))
 (qu (Zb (q9 1))))))
def kX:Den:=den 5 Uq
abbrev Vl:Stmt:=top 24
def Ur:SF :=
 (qf (sIf (tOr (tNot (tE (eUn (dIs .tuple) (q9 0)))) (tE (eOp dNe (eB jC [(q9 0)]) (eB jC [(q9 1)])))) (qu (eC (.bl false))) qr)
 (qf (jd (ud 0 1) (gT [2,3]) (sIf (tNot (tE (qj wC [(q9 2),(eOp qe (q9 3) (eC (.int 0))),(eOp qe (q9 3) (eC (.int 1)))]))) (qu (eC (.bl false))) qr))
 (qu (eC (.bl true)))))
def vF:Den:=den 4 Ur
abbrev Vm:Stmt:=top 31
def Us:SF :=
 (qf (jd (jo (eSl (q9 0) oNo (oE (q9 1)))) (gV 2) (sIf (tE (qj kQ [(q9 2),(eOp qe (q9 0) (q9 1))])) (qu (eC (.bl true))) qr))
 (qu (eC (.bl false))))
def yf:Den:=den 3 Us
abbrev Vn:Stmt:=top 40
def Ut:SF :=
 (qf (qi 3 (qK []))
 (qf (qi 4 (q9 1))
 (qf (jN 0 (jd (iV 0) (gV 5) (qf (qi 6 (eB y3 [(eOp qe (q9 5) (eC (.int 0))),(q9 1)]))
 (qf (qi 7 (eB wb [(qj jI [(q9 5)]),(q9 2)]))
 (sIf (tE (eOp dLt (q9 6) (q9 7))) (qf (va 3 (qj yd [(eOp jc (q9 6) (q9 4))]))
 (qf (va 3 (qj uu [(q9 5),(q9 6),(q9 7)]))
 (qi 4 (q9 7)))) qr)))))
 (qf (va 3 (qj yd [(eOp jc (q9 2) (q9 4))]))
 (jM 3)))))
def uz:Den:=den 8 Ut
abbrev Vo:Stmt:=top 47
def Uu:SF :=
 (qf (sIf (tNot (tE (qj wC [(q9 0),(eC QA),(eC QB)]))) (ub "BadKey" (eC (.str "not a whole number from -7 to 7"))) qr)
 (jM 0))
def zT:Den:=den 1 Uu
abbrev Vp:Stmt:=top 51
def qeh:SF :=
 (qf (qi 2 (qj V5 [(q9 0),(q9 1)]))
 (qf (qi 3 (eOp yG (eC uk) (eOp zy (eOp qA (q9 2) (eC (.int 1))) (eC (.int 7)))))
 (qf (qi 4 (qj uq [(q9 2)]))
 (qf (qi 5 (eOp zA (eOp jc (eOp jc (q9 0) (eOp uY (eC XY) (q9 3))) (q9 4)) (eC (.int 12))))
 (qu (js [(q9 3),(q9 4),(q9 5)]))))))
def Vq:Den:=den 6 qeh
abbrev Vr:Stmt:=top 56
def qei:SF :=
 (qu (XU (q9 2) [(q9 0),(q9 1)] (qj V7 [(q9 0),(q9 3)])))
def Vs:Den:=den 4 qei
abbrev Vt:Stmt:=top 65
def Uv:SF :=
 (qf (sIf (tNot (tE (qj wC [(q9 0),(eC QC),(eC QD)]))) (ub "BadRoom" (eC (.str "not a whole number from 1 to 5000"))) qr)
 (jM 0))
def vv:Den:=den 1 Uv
abbrev Vu:Stmt:=top 68
def Uw:SF :=
 (jd (vm 0) (gT [2,3]) (sIf (tE (eOp dGt (q9 3) (q9 1))) (zn "TooWide" (q9 2)) qr))
def kY:Den:=den 4 Uw
abbrev Vv:Stmt:=top 84
def Ux:SF :=
 (qf (qi 2 (eB y3 [(eOp jc (q9 1) (eC (.int 1))),(eC (.int 0))]))
 (qu (eOp qA (eOp qe (qj uv [(q9 0),(q9 2)]) (eC (.int 0))) (eC (.int 1)))))
def yg:Den:=den 3 Ux
abbrev Vw:Stmt:=top 88
def qej:SF :=
 (qf (Qp 1 (qK []))
 (qf (jN 0 (jd (iV 0) (gV 2) (qf (qi 3 (Qn 1 (qj Vc [(q9 1),(eOp qe (q9 2) (eC (.int 0)))])))
 (qf (sIf (tE (eOp dEq (q9 3) (eC Zz))) (ub "TooThick" (eC (.str "more voices than there may be"))) qr)
 (qf (sIf (tE (eOp dEq (q9 3) (Qn 1 (eB jC [(q9 1)])))) (Zd 1 (qK [])) qr)
 (yF 1 (q9 3) (q9 2)))))))
 (Qo 1 (jM 1))))
def wD:Den:=den 4 qej
abbrev Vx:Stmt:=top 99
def Uy:SF :=
 (qf (qi 2 (eC (.int 12)))
 (qf (sIf (tE (qj uw [(q9 0)])) (qi 2 (eC (.int 24))) qr)
 (qf (sIf (tE (eOp dGt (eB jC [(q9 0)]) (eC (.int 63)))) (qi 2 (eC (.int 60))) qr)
 (qf (qi 3 (qK []))
 (qf (jd (jo (eSl (q9 0) (oE (eC (.int 6))) (oE (eOp qA (eC (.int 6)) (q9 2))))) (gV 4) (qf (qi 5 (qj kR [(q9 4),(q9 3),(q9 1)]))
 (sIf (tAnd (tE (qj kO [(q9 5),(q9 3)])) (tE (eOp dLe (qj kP [(q9 5),(q9 3)]) (eC (.int 7))))) (jA 3 (q9 5)) qr)))
 (jM 3))))))
def kZ:Den:=den 6 Uy
abbrev Vy:Stmt:=top 102
def Uz:SF :=
 (qf (qi 2 (qK []))
 (qf (qi 3 (eC (.int 0)))
 (qf (jd (iR1 (eOp qA (eC (.int 1)) (eOp zy (qj jx [(q9 0),(eC (.int 1))]) (eC (.int 3))))) (gV 4) (qf (qi 5 (eOp qA (qj jx [(q9 0),(eC (.int 1))]) (eOp zx (eC (.int 7)) (qj jx [(q9 0),(eOp qA (eC (.int 2)) (q9 4))]))))
 (qf (jA 2 (qj kU [(q9 5),(q9 3),(q9 1)]))
 (qi 3 (eOp qA (eOp qA (q9 3) (eC (.int 1))) (qj jv [(q9 5),(eC (.int 9967)),(eC (.int 3))]))))))
 (jM 2))))
def x6:Den:=den 6 Uz
abbrev Vz:Stmt:=top 12
def UA:SF :=
 (qf (qi 1 (qK []))
 (qf (jd (jo (qj kX [(q9 0)])) (gV 2) (qf (qi 3 (eIf (tE (q9 1)) (qj kN [(q9 2),(eOp qe (q9 1) (eUn jU (eC (.int 1))))]) (q9 2)))
 (jA 1 (eOp Zl (q9 3) (eB uf [(q9 3)])))))
 (jM 1)))
def wE:Den:=den 4 UA
abbrev VA:Stmt:=top 32
def VB:SF :=
 (qf (sIf (tNot (tE (qj wA [(q9 0),(eC (.int 0)),(eC uj)]))) (zn "BadNotes" (eC .non)) qr)
 (qf (jd (vm 0) (gT [1,2]) (sIf (tOr (tNot (tE (qj vF [(q9 2),(eC yL)]))) (tE (qj yf [(q9 0),(q9 1)]))) (zn "BadNotes" (q9 1)) qr))
 (qu (eB vR [(q9 0)]))))
def jQ:Den:=den 3 VB
abbrev VC:Stmt:=top 41
def UB:SF :=
 (qf (qi 2 (qK []))
 (qf (qi 3 (eC (.int 0)))
 (qf (jN 1 (jd (iV 1) (gV 4) (qf (jA 2 (qj uz [(q9 0),(q9 3),(eOp qA (q9 3) (q9 4))]))
 (zB 3 vi (q9 4)))))
 (jM 2))))
def wF:Den:=den 5 UB
abbrev VD:Stmt:=top 57
def qek:SF :=
 (qf (qi 4 (qK []))
 (qf (jN 0 (jd (iV 0) (gV 5) (qf (qi 6 (qj Vq [(q9 5),(q9 3)]))
 (qf (qi 7 (eOp qe (q9 6) (eC (.int 0))))
 (qf (qi 8 (eOp qe (q9 6) (eC (.int 2))))
 (qf (qi 9 (eC .non))
 (qf (sIf (tAnd (tE (eOp Z0 (q9 1) (eC .non))) (tE (eOp dNe (qj Vs [(q9 7),(q9 8),(Zo 2),(q9 3)]) (eOp qe (q9 6) (eC (.int 1)))))) (qf (qi 9 (eOp qe (q9 6) (eC (.int 1))))
 (Zq 2 [(q9 7),(q9 8)] (q9 9))) qr)
 (jA 4 (js [(q9 7),(q9 8),(q9 9)])))))))))
 (Zp 2 (eB Jp [(q9 4)]))))
def wG:Den:=den 10 qek
abbrev VE:Stmt:=top 70
def UC:SF :=
 (qf (sIf (tNot (tE (qj yN [(q9 1)]))) (ub "BadRoom" (eC (.str "not a whole number"))) qr)
 (qf (vD kY [(q9 0),(q9 1)])
 (qf wm
 (qf wm
 wm))))
def x8:Den:=den 4 UC
abbrev VF:Stmt:=top 79
def UD:SF :=
 (qf (sIf (tOr (tNot (tE (qj vF [(q9 0),(eC QG)]))) (tE (eOp Qe (eOp qe (q9 0) (eC (.int 2))) (eC QH)))) (qu (eC (.bl false))) qr)
 (qu (xU dLe dLe (eC QI) (qj vq [(q9 0)]) (eC QJ))))
def yP:Den:=den 1 UD
abbrev VG:Stmt:=top 58
def UE:SF :=
 (qf (qi 3 (qK []))
 (qf (qi 4 eDK)
 (qf (jN 0 (jd (iV 0) (gV 5) (qf (qi 6 eDT)
 (qf (Zj 7 (XM 1 (iVc 5) (gV 12) (qK [])))
 (qf (jd (jo (qj vT [(q9 5)])) (gV 8) (qf (qi 9 (eOp qe (q9 8) (eC (.int 1))))
 (qf (qi 10 (eOp qe (eOp qe (q9 5) (q9 9)) (eOp qe (q9 8) (eC (.int 2)))))
 (qf (sIf (tE (eOp dEq (eOp qe (q9 10) (eC (.int 0))) (eC (.str "note")))) (qf (qi 11 (qj ur [(Qw (q9 4) (q9 9))]))
 (sIO 10 (eIOT (zd (eC (.str "note")) (zd (eOp qe (q9 10) (eC (.int 1))) (xIO (eIOV 2 "heads_of" wG 6 [(eOp qe (q9 10) (eC (.int 2))),(q9 11)] [(q9 1)]) (zd (eOp qe (q9 10) (eC (.int 3))) kK))))))) qr)
 (qf (yF 7 (q9 9) (q9 10))
 (wZ 4 (q9 9) (q9 10)))))))
 (Qo 7 (jN 7 (jA 3 (q9 7)))))))))
 (jM 3))))
def uA:Den:=den 12 UE
abbrev VH:Stmt:=top 71
def UF:SF :=
 (qf (sX x8 [(q9 0),(q9 1)] (qi 2 (qj x8 [(q9 0),(q9 1)])))
 (qf wm
 (qf wm
 (qf wm
 wm))))
def x9:Den:=den 5 UF
abbrev VI:Stmt:=top 81
def UG:SF :=
 (qf (sIf (tNot (tE (qj wA [(q9 0),(eC (.int 1)),(eC ul)]))) (zn "BadMeter" (eC .non)) qr)
 (qf (jd (vm 0) (gT [1,2]) (sIf (tOr (tNot (tE (qj yP [(q9 2)]))) (tNot (tE (qj wB [(q9 0),(q9 1)])))) (zn "BadMeter" (q9 1)) qr))
 (qu (eB yo [(q9 0)]))))
def zq:Den:=den 3 UG
abbrev VJ:Stmt:=top 90
def VL:SF :=
 (qf (qi 2 (eOp u0 (qT 1 (iVc 0) (gV 7) je (qj jI [(q9 7)])) (eC (.int 0))))
 (qf (qi 3 (qj ye [(q9 1),(qj yg [(q9 1),(q9 2)])]))
 (qf (sX wD [(qj vS [(q9 0)])] (qi 4 (qT 1 (jo (qj wD [(qj vS [(q9 0)])])) (gV 7) je (qj wF [(q9 7),(q9 3)]))))
 (qf (qi 5 (qK []))
 (qf (jd (iR1 (eB jC [(q9 3)])) (gV 6) (jA 5 (qT 1 (iVc 4) (gV 7) je (eOp qe (q9 7) (q9 6)))))
 (jM 5))))))
def vG:Den:=den 7 VL
abbrev VM:Stmt:=top 59
def UH:SF :=
 (qu (qj uA [(q9 0),(q9 1),(eC (dFn "heads_of"))]))
def yQ:Den:=den 2 UH
abbrev VN:Stmt:=top 91
def uB:SF :=
 (qf (sX vG [(q9 5),(q9 4)] (qi 6 (qj yQ [(qj vG [(q9 5),(q9 4)]),(q9 1)])))
 (qf (qi 7 (qT 1 (iVc 6) (gV 8) je (qj vU [(q9 8)])))
 (sXA [(q9 1),(q9 4),(q9 3),(qj wE [(q9 6)])] x9 [(q9 7),(q9 3)] wm)))
def uC:SF :=
 (qf (vD zT [(q9 1)])
 (qf (sX zq [(q9 2)] (qi 4 (qj zq [(q9 2)])))
 (qf (sX jQ [(q9 0)] (qi 5 (qj jQ [(q9 0)])))
 (qf (vD vv [(q9 3)])
 uB))))
def jw:Den:=den 8 uC
abbrev VO:Stmt:=top 105
def VP:SF :=
 (qf (qi 7 (qK [(eC (.str "key")),(eC (.str "meter")),(eC (.str "notes")),(eC (.str "room")),(eC (.str "thick")),(eC (.str "wide"))]))
 (qf (qi 8 (qT 1 (iR1 (eB jC [(q9 5)])) (gV 9) (tE (eOp qe (q9 5) (q9 9))) (eOp qe (q9 7) (q9 9))))
 (qf (sIf (tE (eOp dNe (eB jC [(q9 8)]) (eC (.int 1)))) (qu (eC (.str "none"))) qr)
 (qf (sIf (tE (eOp Qd (eOp qe (q9 8) (eC (.int 0))) (qK [(eC (.str "meter")),(eC (.str "notes")),(eC (.str "wide"))]))) (qu (eOp wu (eOp qe (q9 8) (eC (.int 0))) (eB yK [(q9 4)]))) qr)
 (qu (eOp qe (q9 8) (eC (.int 0))))))))
def UI:SF :=
 (qf (qi 4 (eC .non))
 (qf (qi 5 (qK []))
 (qf (Qx jw [(q9 0),(q9 1),(q9 2),(q9 3)] ["BadKey","BadMeter","BadNotes","BadRoom","TooThick","TooWide"] (ya (fun ea ex =>
 (qf (qi 5 (qK [(zo 6 ea (ex.cls=="BadKey")),(zo 6 ea (ex.cls=="BadMeter")),(zo 6 ea (ex.cls=="BadNotes"))]))
 (qf (qi 5 (eOp wu (q9 5) (qK [(zo 6 ea (ex.cls=="BadRoom")),(zo 6 ea (ex.cls=="TooThick")),(zo 6 ea (ex.cls=="TooWide"))])))
 (sIf (tOr (tE (eOp qe (q9 5) (eC (.int 1)))) (tOr (tE (eOp qe (q9 5) (eC (.int 2)))) (tE (eOp qe (q9 5) (eC (.int 5)))))) (qi 4 (y9 6 ea ex)) qr)))) 6))
 VP)))
def vw:Den:=den 9 UI
abbrev VQ:Stmt:=top 106
def UJ:SF :=
 (qf (uc (vD jw [(q9 0),(q9 1),(q9 2),(q9 3)]) ["BadKey","BadMeter","BadNotes","BadRoom","TooThick","TooWide"] (fun _=>okB true))
 (qu (eC (.bl false))))
def uD:Den:=den 5 UJ
abbrev yR:Stmt:=top 108
def uE:SF :=
 (qf (qi 7 (qj vt [(q9 2),(eOp jc (eB jC [(q9 3)]) (eC (.int 1)))]))
 (qf (qi 8 (qj vw [(eB yo [(q9 3)]),(q9 4),(eB yo [(q9 5)]),(q9 6)]))
 (qu (wR (eOp dEq (q9 8) (q9 7)) (qj uD [(eB yo [(q9 3)]),(q9 4),(eB yo [(q9 5)]),(q9 6)])))))
def VR:SF :=
 (qf (sIf (tE (eOp qe (q9 2) (eC (.int 0)))) (qi 4 (eC (.int 8))) qr)
 (qf (sIf (tE (eOp qe (q9 2) (eC (.int 1)))) (qi 5 (qK [])) qr)
 (qf (sIf (tE (eOp qe (q9 2) (eC (.int 4)))) (qi 3 (qT 1 (iR1 (eC (.int 9))) (gV 9) je (js [(eC (.int 0)),(eOp qA (eC (.int 1)) (q9 9)),(eOp qA (eC (.int 100)) (q9 9))]))) (sIf (tNot (tE (eOp qe (q9 2) (eC (.int 3))))) (qf (qi 3 (qK [(js [(eC (.int 0)),(eC (.int 4)),(eC (.int 60))])]))
 (qi 6 (eC (.int 6)))) qr))
 (qf (sIf (tE (eOp qe (q9 2) (eC (.int 2)))) (qi 3 (eOp qA (q9 3) (qK [(js [(eC (.int 7)),(eC (.int 0)),(eC (.int 60))])]))) qr)
 (qf (sIf (tE (eOp qe (q9 2) (eC (.int 3)))) (qi 6 (eC (.int 0))) qr)
 uE)))))
def UK:SF :=
 (qf (qi 1 (qj kS [(q9 0)]))
 (qf (qi 2 (qT 1 (iR1 (eC (.int 5))) (gV 9) je (eOp dEq (eOp zy (eOp zA (qj jx [(q9 0),(eC (.int 1))]) (eOp qe (qK [(eC (.int 1)),(eC (.int 2)),(eC (.int 4)),(eC (.int 8)),(eC (.int 16))]) (q9 9))) (eC (.int 2))) (eC (.int 1)))))
 (qf (qi 3 (eSl (qj kZ [(q9 0),(q9 1)]) oNo (oE (eC (.int 40)))))
 (qf (qi 4 (qj kW [(q9 0)]))
 (qf (qi 5 (qj x6 [(q9 0),(q9 1)]))
 (qf (qi 6 (qj yO [(q9 0),(q9 1)]))
 VR))))))
def yS:Den:=den 9 UK
abbrev QL:Stmt:=(Za (top 18)).getD 0 (.Pass ⟨0,0,0,0⟩)
abbrev QM:Stmt:=(Za (top 19)).getD 0 (.Pass ⟨0,0,0,0⟩)
abbrev QN:Stmt:=(Za (top 20)).getD 0 (.Pass ⟨0,0,0,0⟩)
def cell(ns:List Int)(k:Nat):Int:=ns.getD k 0
theorem yT(ns:List Int)(k:Nat):jx [.fz (.lst (ns.map D.int)),.fz (.int (k:Int))]=.ok (.fz (.int (cell ns k))):=by
 unfold jx U7;simp only [EV,reduceAdd,reduceSub,reduceLeDiff,v7,gy,cell,cq];by_cases h:(k:Int)<(ns.length:Int)
 ·have h2:k<ns.length:=by omega
  simp [h,h2,EV,reduceAdd,reduceSub,reduceLeDiff,v7]
 ·have h2:¬ k<ns.length:=by omega
  simp [h,h2,EV,reduceAdd,reduceSub,reduceLeDiff,v7]
def qM(c p m:Int):Int:=c*48271%p%m
theorem zI(c p m:Int)(hp:0<p)(z:0<m):jv [.fz (.int c),.fz (.int p),.fz (.int m)]=.ok (.fz (.int (qM c p m))):=by
 unfold jv U8;simp only [EV,reduceAdd,reduceSub,reduceLeDiff,JU (i:=c) (j:=48271) (by decide) (by decide),kz hp,kz z,qM]
theorem zJ(c p m:Int)(z:0<m):0<=qM c p m/\qM c p m<m:=⟨dE _ (by omega),dM _ z⟩
def vc(wd:Bool):List Int:=if wd then [4,8,16,32,64]else [1,2,4,8,16,32,64]
def yU(wd:Bool):Int:=if wd then 64 else 8
def yh(wd:Bool):Int:=if wd then 512 else 96
def ji(c:Int)(wd:Bool):Int:=(vc wd).getD (qM c 10007 (vc wd).length).toNat 1
def vV(wd:Bool)(u:Int):Int:=(yU wd+u-1)/u
def wH(wd:Bool)(u:Int):Int:=if yh wd/u<24 then yh wd/u else 24
def zK(c:Int)(wd:Bool):Int:=vV wd (ji c wd)+qM c 9973 (wH wd (ji c wd)-vV wd (ji c wd)+1)
theorem uF(c:Int)(wd:Bool):ji c wd∈vc wd:=by
 unfold ji;have h:=zJ c 10007 (vc wd).length (by cases wd<;>decide)
 rw [cq,hU (by omega)]
 exact dg _
theorem uG(wd:Bool):∀ u∈vc wd,0<u/\u<=64/\0<vV wd u/\vV wd u<=wH wd u/\wH wd u<=24/\yU wd<=vV wd u*u/\wH wd u*u<=yh wd:=by
 cases wd<;>decide
theorem VS(c:Int)(wd:Bool):vV wd (ji c wd)<=zK c wd/\zK c wd<=wH wd (ji c wd):=by
 obtain⟨_,_,h1,h2,_⟩:=uG wd _ (uF c wd);have h:=zJ c 9973 (wH wd (ji c wd)-vV wd (ji c wd)+1) (by omega)
 unfold zK;omega
def qB(p:Int×Int×Int):D:=.tup [.int p.1,.int p.2.1,.int p.2.2]
theorem ix_list(us:List Int)(z:Int)(j:Int)(h0:0<=j)(h1:j<us.length):okD (ati (us.map D.int) j)=.ok (.fz (.int (us.getD j.toNat z))):=by
 obtain⟨n,rfl⟩:=Int.eq_ofNat_of_zero_le h0;rw [v7,gX,cq,tQ,hU (by omega)]
 rfl
theorem qel(c B:Int)(wd:Bool):kU [.fz (.int c),.fz (.int B),.fz (.bl wd)]=.ok (.fz (qB (B,zK c wd,ji c wd))):=by
 have hu:=uF c wd;obtain⟨u1,u2,h1,h2,h3,_⟩:=uG wd _ hu;have hm:=zJ c 10007 (vc wd).length (by cases wd<;>decide)
 have mx:=zI c 9973 (wH wd (ji c wd)-vV wd (ji c wd)+1) (by decide) (by omega)
 have ix:=ix_list (vc wd) 1 _ hm.1 hm.2;have z:=zI c 10007 (vc wd).length (by decide) (by cases wd<;>decide)
 have d1:=y6 (i:=yU wd+ji c wd-1) u1 (by omega)
 have d2:=y6 (i:=yh wd) u1 (by omega)
 rw [show(vc wd).getD (qM c 10007 (vc wd).length).toNat 1=ji c wd from rfl]at ix
 unfold kU Um;cases wd
 ·simp only [vc,yU,yh,fP,hX,gN,tU,gU,tG,reduceAdd,cE,dI]at ix z d1 d2;simp only [EV,reduceAdd,reduceSub,reduceLeDiff,z,ix,d1,d2];rw [show((8:Int)+ji c false-1)/ji c false=vV false (ji c false)from rfl,show(if (96:Int)/ji c false<24 then 96/ji c false else 24)=wH false (ji c false)from rfl]
  simp only [EV,reduceAdd,reduceSub,reduceLeDiff,mx,qB,zK]
 ·simp only [vc,yU,yh,dz,gN,tU,gU,tG,reduceAdd,cE,dI]at ix z d1 d2;simp only [EV,reduceAdd,reduceSub,reduceLeDiff,z,ix,d1,d2];rw [show((64:Int)+ji c true-1)/ji c true=vV true (ji c true)from rfl,show(if (512:Int)/ji c true<24 then 512/ji c true else 24)=wH true (ji c true)from rfl]
  simp only [EV,reduceAdd,reduceSub,reduceLeDiff,mx,qB,zK]
def jj(ns:List Int)(k:Nat):Int:=cell ns 1+7*cell ns (2+k)
def mbar(ns:List Int):Nat->Int
 | 0=>0
 | k+1=>mbar ns k+1+qM (jj ns k) 9967 3
def mtup(ns:List Int)(wd:Bool)(k:Nat):Int×Int×Int:=(mbar ns k,zK (jj ns k) wd,ji (jj ns k) wd)
def yi(ns:List Int):Nat:=(1+cell ns 1%3).toNat
def zr(ns:List Int)(wd:Bool):List (Int×Int×Int):=(List.range (yi ns)).map (mtup ns wd)
theorem QO(ns:List Int):1<=yi ns/\yi ns<=3/\((yi ns:Nat):Int)=1+cell ns 1%3:=by
 have h0:=dE (cell ns 1) (show(3:Int)≠0 by decide)
 have h1:=dM (cell ns 1) (show(0:Int)<3 by decide)
 unfold yi;omega
theorem qem(ns:List Int)(wd:Bool):x6 [.fz (.lst (ns.map D.int)),.fz (.bl wd)]=.ok (.ow (.lst ((zr ns wd).map qB))):=by
 obtain⟨m1,m2,m3⟩:=QO ns;have c1:=yT ns 1;have hz:sz=16777216:=rfl;unfold x6 Uz;simp only [EV,reduceAdd,reduceSub,reduceLeDiff];rw [show((1:Nat):Int)=1 from rfl]at c1
 rw [KF (n:=yi ns) (by simp only [EV,reduceAdd,reduceSub,reduceLeDiff,c1,kz (j:=3) (by decide),m3]) (by omega)]
 simp only [EV,reduceAdd,reduceSub,reduceLeDiff];obtain⟨ρ',e,j4,j5,hI⟩:=KB (yi ns) (fun k ρ=>∃ j4 j5,ρ=[some (.fz (.lst (ns.map D.int))),some (.fz (.bl wd)),some (.ow (.lst (((List.range k).map (mtup ns wd)).map qB))),some (.fz (.int (mbar ns k))),j4,j5])
  (g:=gV 4) (b:=qf (qi 5 (eOp qA (qj jx [(q9 0),(eC (.int 1))]) (eOp zx (eC (.int 7)) (qj jx [(q9 0),(eOp qA (eC (.int 2)) (q9 4))]))))
   (qf (jA 2 (qj kU [(q9 5),(q9 3),(q9 1)])) (qi 3 (eOp qA (eOp qA (q9 3) (eC (.int 1))) (qj jv [(q9 5),(eC (.int 9967)),(eC (.int 3))])))))
  (ρ:=[some (.fz (.lst (ns.map D.int))),some (.fz (.bl wd)),some (.ow (.lst [])),some (.fz (.int 0)),none,none]) ⟨none,none,rfl⟩ (fun k ρ hk ⟨j4,j5,hρ⟩=>by
   subst hρ;refine⟨_,_,rfl,.inl ?_,some (.fz (.int k)),some (.fz (.int (jj ns k))),rfl⟩;have c2:=yT ns (2+k);rw [show((2+k:Nat):Int)=2+(k:Int)by omega]at c2
   have mx:=zI (jj ns k) 9967 3 (by decide) (by decide)
   have z:=qel (jj ns k) (mbar ns k) wd;simp only [EV,reduceAdd,reduceSub,reduceLeDiff,c1,c2,Qa (i:=7) (by decide) (by decide)]
   rw [show cell ns 1+7*cell ns (2+k)=jj ns k from rfl]
   rw [kB (xs:=((List.range k).map (mtup ns wd)).map qB) (d:=qB (mtup ns wd k)) rfl (by simp;omega) (by simp only [EV,reduceAdd,reduceSub,reduceLeDiff,z];rfl)]
   simp only [EV,reduceAdd,reduceSub,reduceLeDiff,mx];simp [List.range_succ,mbar])
 rw [e];subst hI;simp only [EV,reduceAdd,reduceSub,reduceLeDiff];rfl
def zL(p:Int×Int×Int):Int:=p.2.1*p.2.2
def Fine(z:List (Int×Int×Int)):Prop:=z.Pairwise (fun p q=>p.1<q.1)/\(∀ p∈z,0<=p.1/\0<=p.2.1/\p.2.1<=24)/\(∃ p∈z,p.1=0)/\z.length<=20
theorem VT(ns:List Int){i j:Nat}(h:i<j):mbar ns i<mbar ns j:=by
 induction j with
 | zero=>omega
 | succ j ih =>
  have:=zJ (jj ns j) 9967 3 (by decide)
  have e:mbar ns (j+1)=mbar ns j+1+qM (jj ns j) 9967 3:=rfl;by_cases c:i=j
  ·subst c;omega
  ·have:=ih (by omega);omega
theorem UL(ns:List Int)(wd:Bool):Fine (zr ns wd):=by
 obtain⟨m1,m2,_⟩:=QO ns;refine⟨?_,fun p hp=>?_,⟨mtup ns wd 0,tR.mpr ⟨0,by simp;omega,rfl⟩,rfl⟩,by simp [zr];omega⟩
 ·unfold zr;rw [cU];exact List.pairwise_lt_range.imp fun h=>VT ns h
 ·obtain⟨k,_,rfl⟩:=tR.mp hp;have h1:=VS (jj ns k) wd;have h2:=uG wd _ (uF (jj ns k) wd);refine⟨?_,?_,?_⟩
  ·show 0<=mbar ns k;cases k with
   | zero=>exact fY _
   | succ k=>exact cD (VT ns (Nat.succ_pos k))
  ·show 0<=zK (jj ns k) wd;omega
  ·show zK (jj ns k) wd<=24;omega
def Lens(z:List (Int×Int×Int)):Prop:=∀ p∈z,8<=zL p/\zL p<=512/\p.1<=1000
theorem qen(ns:List Int)(wd:Bool):Lens (zr ns wd):=fun p hp=>by
 obtain⟨m1,m2,_⟩:=QO ns;obtain⟨k,hk,rfl⟩:=tR.mp hp;have hk:=List.mem_range.mp hk;have h1:=VS (jj ns k) wd;obtain⟨u1,u2,u3,u4,u5,u6,u7⟩:=uG wd _ (uF (jj ns k) wd);have lo:=tj h1.1 (cD u1);have hi:=tj h1.2 (cD u1);have hb:∀ j:Nat,mbar ns j<=3*j:=fun j=>by
  induction j with
  | zero=>simp [mbar]
  | succ j ih =>
   have:=zJ (jj ns j) 9967 3 (by decide)
   show mbar ns j+1+qM (jj ns j) 9967 3<=_;omega
 have hb:=hb k;have w8:(8:Int)<=yU wd/\yh wd<=512:=by cases wd<;>decide
 refine⟨?_,?_,?_⟩
 ·show 8<=zK (jj ns k) wd*ji (jj ns k) wd;omega
 ·show zK (jj ns k) wd*ji (jj ns k) wd<=512;omega
 ·show mbar ns k<=1000;omega
theorem VU(p:Int×Int×Int)(h:0<=p.2.1/\p.2.1<=24):vq [.fz (qB p)]=.ok (.fz (.int (zL p))):=by
 unfold vq U6;simp only [EV,reduceAdd,reduceSub,reduceLeDiff,qB,Qa (i:=p.2.1) (j:=p.2.2) (by omega) (by omega),zL]
theorem UM{g:GF}{b:SF}{ρ:Rho}:qR g b [] ρ=.nx ρ:=rfl
def turn(g:GF)(b:SF)(xs:List D)(o:Out):Out:=match o with
 | .nx ρ2=>qR g b xs ρ2
 | .ct ρ2=>qR g b xs ρ2
 | .bk ρ2=>.nx ρ2
 | o=>o
theorem jW{g:GF}{b:SF}{x:D}{xs:List D}{ρ ρ1:Rho}(h:g x ρ=.ok ρ1):qR g b (x::xs) ρ=turn g b xs (b ρ1):=by
 show(match g x ρ with|.ok ρ1=>_|.exc x=>_|.stuck=>_)=_
 rw [h];unfold turn
 first|(dsimp only;cases b ρ1<;>rfl)|dsimp only|rfl
theorem vW{g:GF}{b:SF}{xs:List D}{ρ:Rho}:turn g b xs (.nx ρ)=qR g b xs ρ:=rfl
theorem qeo{g:GF}{b:SF}{xs:List D}{w:En}:turn g b xs (.rt w)=.rt w:=rfl
theorem qep{g:GF}{b:SF}{xs:List D}{x:Xc}:turn g b xs (.exc x)=.exc x:=rfl
def plain:D->Bool
 | .xc _ _=>false
 | _=>true
def jX(lo hi:Int):D->Bool
 | .int i=>decide (lo<=i)&&decide (i<=hi)
 | _=>false
def UN:D->Bool
 | .int _=>true
 | _=>false
theorem qeq(d:D)(h:plain d=true):yN [.fz d]=.ok (.fz (.bl (UN d))):=by
 cases d<;>first|rfl|cases h
theorem uH(d:D)(lo hi:Int)(h:plain d=true):wC [.fz d,.fz (.int lo),.fz (.int hi)]=.ok (.fz (.bl (jX lo hi d))):=by
 unfold wC Ud;have e:=qeq d h;simp only [EV,reduceAdd,reduceSub,reduceLeDiff,e];cases d<;>first|rfl|(cases h;done)|skip
 rename_i i;simp only [UN,EV,reduceAdd,reduceSub,reduceLeDiff,jX];by_cases c:lo<=i
 ·simp only [c,decide_true,EV,reduceAdd,reduceSub,reduceLeDiff,fS]
 ·simp only [c,decide_false,EV,reduceAdd,reduceSub,reduceLeDiff,fO]
theorem qer{i j:Nat}{ρ:Rho}{ds es:List D}(h:ρ[i]?=some (some (.fz (.tup ds))))(h2:ρ[j]?=some (some (.fz (.tup es)))):ud i j ρ=.ok (zipd ds es):=by unfold ud;rw [h,h2]
theorem UO(a b c:D)(z h1 B h2 O U:Int)(W:plain a=true)(Y:plain b=true)(Z:plain c=true) :
  vF [.fz (.tup [a,b,c]),.fz (.tup [.tup [.int z,.int h1],.tup [.int B,.int h2],.tup [.int O,.int U]])]=.ok (.fz (.bl (jX z h1 a&&(jX B h2 b&&jX O U c)))):=by
 unfold vF Ur;simp only [EV,reduceAdd,reduceSub,reduceLeDiff];rw [show(!(((3:Int))==3))=false from rfl]
 simp only [EV,reduceAdd,reduceSub,reduceLeDiff];rw [qer (ds:=[a,b,c]) (es:=[.tup [.int z,.int h1],.tup [.int B,.int h2],.tup [.int O,.int U]]) rfl rfl];simp only [EV,reduceAdd,reduceSub,reduceLeDiff,zipd];rw [jW rfl];simp only [EV,reduceAdd,reduceSub,reduceLeDiff,uH a z h1 W];cases jX z h1 a
 ·rfl
 simp only [EV,reduceAdd,reduceSub,reduceLeDiff,vW];rw [jW rfl];simp only [EV,reduceAdd,reduceSub,reduceLeDiff,uH b B h2 Y];cases jX B h2 b
 ·rfl
 simp only [EV,reduceAdd,reduceSub,reduceLeDiff,vW];rw [jW rfl];simp only [EV,reduceAdd,reduceSub,reduceLeDiff,uH c O U Z];cases jX O U c
 ·rfl
 rfl
def qkk:D->Bool
 | .tup [_,_,_]=>true
 | _=>false
theorem VV{ds:List D}{i:Nat}{x:D}(h:(numd 0 ds)[i]?=some x):∃ d,ds[i]?=some d/\x=.tup [.int i,d]:=by
 obtain⟨d,e1,e2⟩:=Z5 ds 0 i x h;rw [cE]at e2;exact⟨d,e1,e2⟩
theorem UP{c:Str}{e:EF}{ρ:Rho}{n:Nat}(h:e ρ=.ok (.fz (.int n))):zn c e ρ=.exc ⟨c,[("at",.int n)]⟩:=by unfold zn;rw [h];rfl
theorem QP{dn:Den}{fa:List EF}{ρ:Rho}{ws ys:List En}{x:Xc}(h1:evs fa ρ=.ok ws)(h2:qU ws=.ok ys)(z:dn ys=.exc x):vD dn fa ρ=.exc (nrm x):=by
 unfold vD;rw [h1];show sOf (qU ws) _=_;rw [h2];show(match dn ys with|.ok _=>_|.exc x=>_|.stuck=>_)=_
 rw [z]
theorem qes{b:SF}{cs:List Str}{hd:Xc->R En}{ρ:Rho}{x:Xc}{w:En}(h1:b ρ=.exc x)(h2:cs.contains x.cls=true)(z:hd x=.ok w):uc b cs hd ρ=.rt w:=by
 unfold uc;rw [h1];dsimp only;rw [gB h2,z];rfl
theorem UQ(xs:List D)(n:Nat):L3.zF xs none (some (n:Int))=xs.take n:=by
 unfold L3.zF;rw [HT.sIx_none,HT.sIx_nat,List.drop_zero,Nat.sub_zero];by_cases h:n<=xs.length
 ·rw [Nat.min_eq_left h]
 ·rw [Nat.min_eq_right (by omega),fJ (gw _),fJ (by omega)]
abbrev Nt:=Int×Int×Int
def ntR(n:Nt):List Int:=[n.1,n.2.1,n.2.2]
def ntD(n:Nt):D:=.tup [.int n.1,.int n.2.1,.int n.2.2]
theorem qet(ns:List Nt)(q:Nt)(h:ns.getLast?=some q):okD (ati (ns.map ntD) (-1))=.ok (.fz (ntD q)):=by
 rw [qaC,List.getLast?_map,h];rfl
def nS(c:Int)(wd:Bool):Int:=if wd then qM c 10007 1001 else qM c 10007 97
def nL(c:Int)(wd:Bool):Int:=1+if wd then qM c 9973 400 else qM c 9973 48
def nP(c:Int)(wd:Bool):Int:=if wd then qM c 9967 128 else 52+qM c 9967 25
def QQ(wd:Bool):Int:=if wd then 1000 else 96
def jD(c:Int)(ns:List Nt)(wd:Bool):Nt:=match ns.getLast? with
 | none=>(nS c wd,nL c wd,nP c wd)
 | some q=>if qM c 9949 4=0 then(q.1,q.2.1,nP c wd)
  else if qM c 9949 4=1/\q.1+q.2.1<=QQ wd then(q.1+q.2.1,nL c wd,if qM c 9941 2=0 then q.2.2 else nP c wd)
  else(nS c wd,nL c wd,nP c wd)
theorem qeu(c:Int)(ns:List Nt)(wd:Bool):kR [.fz (.int c),.br (.lst (ns.map ntD)),.fz (.bl wd)]=.ok (.fz (ntD (jD c ns wd))):=by
 have m1:=zI c 10007 97 (by decide) (by decide)
 have m2:=zI c 9973 48 (by decide) (by decide)
 have m3:=zI c 9967 25 (by decide) (by decide)
 have m4:=zI c 10007 1001 (by decide) (by decide)
 have m5:=zI c 9973 400 (by decide) (by decide)
 have m6:=zI c 9967 128 (by decide) (by decide)
 have m7:=zI c 9949 4 (by decide) (by decide)
 have m8:=zI c 9941 2 (by decide) (by decide)
 have B:∀(S L P La:Int),nS c wd=S->nL c wd=L->nP c wd=P->QQ wd=La ->
   fin (qf (sIf (L3.tAnd (tE (q9 1)) (tE (eOp dEq (q9 7) (eC (.int 0))))) (qf (qi 3 (eOp qe (eOp qe (q9 1) (eUn jU (eC (.int 1)))) (eC (.int 0)))) (qi 4 (eOp qe (eOp qe (q9 1) (eUn jU (eC (.int 1)))) (eC (.int 1))))) qr)
    (qf (sIf (L3.tAnd (tE (q9 1)) (L3.tAnd (tE (eOp dEq (q9 7) (eC (.int 1)))) (tE (eOp dLe (eOp qA (eOp qe (eOp qe (q9 1) (eUn jU (eC (.int 1)))) (eC (.int 0))) (eOp qe (eOp qe (q9 1) (eUn jU (eC (.int 1)))) (eC (.int 1)))) (q9 6))))) (qf (qi 3 (eOp qA (eOp qe (eOp qe (q9 1) (eUn jU (eC (.int 1)))) (eC (.int 0))) (eOp qe (eOp qe (q9 1) (eUn jU (eC (.int 1)))) (eC (.int 1)))))
     (sIf (tE (eOp dEq (qj jv [(q9 0),(eC (.int 9941)),(eC (.int 2))]) (eC (.int 0)))) (qi 5 (eOp qe (eOp qe (q9 1) (eUn jU (eC (.int 1)))) (eC (.int 2)))) qr)) qr)
    (qu (js [(q9 3),(q9 4),(q9 5)])))
    [some (.fz (.int c)),some (.br (.lst (ns.map ntD))),some (.fz (.bl wd)),some (.fz (.int S)),some (.fz (.int L)),some (.fz (.int P)),some (.fz (.int La)),some (.fz (.int (qM c 9949 4)))])=.ok (.fz (ntD (jD c ns wd))):=by
  intro S L P La hS hL hP O;unfold jD;rw [hS,hL,hP,O];cases hq:ns.getLast? with
  | none =>
   have hn:ns=[]:=List.getLast?_eq_none_iff.mp hq;subst hn;simp only [EV,reduceAdd,reduceSub,reduceLeDiff,List.isEmpty_nil,ntD]
  | some q =>
   have hn:(ns.map ntD).isEmpty=false:=by
    cases ns with
    | nil=>simp at hq
    | cons a b=>rfl
   have lq:=qet ns q hq;dsimp only;by_cases c0:qM c 9949 4=0
   ·have b0:(qM c 9949 4==0)=true:=by simpa using c0
    have b1:(qM c 9949 4==1)=false:=by rw [c0];rfl
    rw [gB c0];simp only [EV,reduceAdd,reduceSub,reduceLeDiff,hn,b0,Int.reduceNeg,lq,ntD,b1]
   ·have b0:(qM c 9949 4==0)=false:=by simpa using c0
    rw [gD c0];by_cases c1:qM c 9949 4=1
    ·have b1:(qM c 9949 4==1)=true:=by simpa using c1
     by_cases c2:q.1+q.2.1<=La
     ·rw [gB ⟨c1,c2⟩];have d2:decide (q.1+q.2.1<=La)=true:=by simpa using c2
      by_cases c3:qM c 9941 2=0
      ·have b3:(qM c 9941 2==0)=true:=by simpa using c3
       rw [gB c3];simp only [EV,reduceAdd,reduceSub,reduceLeDiff,hn,b0,Int.reduceNeg,lq,ntD,b1,d2,m8,b3]
      ·have b3:(qM c 9941 2==0)=false:=by simpa using c3
       rw [gD c3];simp only [EV,reduceAdd,reduceSub,reduceLeDiff,hn,b0,Int.reduceNeg,lq,ntD,b1,d2,m8,b3]
     ·rw [gD (fun z=>c2 z.2)]
      have d2:decide (q.1+q.2.1<=La)=false:=by simpa using c2
      simp only [EV,reduceAdd,reduceSub,reduceLeDiff,hn,b0,Int.reduceNeg,lq,ntD,b1,d2]
    ·rw [gD (fun z=>c1 z.1)]
     have b1:(qM c 9949 4==1)=false:=by simpa using c1
     simp only [EV,reduceAdd,reduceSub,reduceLeDiff,hn,b0,Int.reduceNeg,lq,ntD,b1]
 unfold kR Uk;cases wd
 ·have:=B (qM c 10007 97) (1+qM c 9973 48) (52+qM c 9967 25) 96 rfl rfl rfl rfl;simp only [EV,reduceAdd,reduceSub,reduceLeDiff,m1,m2,m3,m7];simpa only [EV,reduceAdd,reduceSub,reduceLeDiff]using this
 ·have:=B (qM c 10007 1001) (1+qM c 9973 400) (qM c 9967 128) 1000 rfl rfl rfl rfl;simp only [EV,reduceAdd,reduceSub,reduceLeDiff,m1,m2,m3,m4,m5,m6,m7];simpa only [EV,reduceAdd,reduceSub,reduceLeDiff]using this
def hits(n o:Nt):Bool:=n.2.2==o.2.2&&(decide (n.1<o.1+o.2.1)&&decide (o.1<n.1+n.2.1))
def xa(n:Nt)(ns:List Nt):Bool:=ns.all fun o=>!hits n o
theorem qev(n:Nt)(ns:List Nt):kO [.fz (ntD n),.br (.lst (ns.map ntD))]=.ok (.fz (.bl (xa n ns))):=by
 unfold kO U9;simp only [EV,reduceAdd,reduceSub,reduceLeDiff];rw [xW (ds:=ns.map ntD) rfl];simp only [EV,reduceAdd,reduceSub,reduceLeDiff];have go:∀(os:List Nt) (j2:Option En),fin ((qR (gV 2) (sIf (L3.tAnd (tE (eOp dEq (eOp qe (q9 0) (eC (.int 2))) (eOp qe (q9 2) (eC (.int 2))))) (L3.tAnd (tE (eOp dLt (eOp qe (q9 0) (eC (.int 0))) (eOp qA (eOp qe (q9 2) (eC (.int 0))) (eOp qe (q9 2) (eC (.int 1)))))) (tE (eOp dLt (eOp qe (q9 2) (eC (.int 0))) (eOp qA (eOp qe (q9 0) (eC (.int 0))) (eOp qe (q9 0) (eC (.int 1)))))))) (qu (eC (.bl false))) qr) (os.map ntD)
   [some (.fz (ntD n)),some (.br (.lst (ns.map ntD))),j2]).th (qu (eC (.bl true))))=.ok (.fz (.bl (xa n os))):=by
  intro os
  induction os with
  | nil=>intro j2;rfl
  | cons o os ih =>
   intro j2;rw [gN];unfold qR;simp only [EV,reduceAdd,reduceSub,reduceLeDiff,ntD];have e:xa n (o::os)=(!hits n o&&xa n os):=rfl;rw [e];unfold hits;cases h1:(n.2.2==o.2.2)
   ·simp only [EV,reduceAdd,reduceSub,reduceLeDiff,fO,fS];exact ih _
   ·cases h2:decide (n.1<o.1+o.2.1)
    ·simp only [EV,reduceAdd,reduceSub,reduceLeDiff,fO,fS,h2];exact ih _
    ·cases h3:decide (o.1<n.1+n.2.1)
     ·simp only [EV,reduceAdd,reduceSub,reduceLeDiff,fS,h2,h3];exact ih _
     ·simp only [EV,reduceAdd,reduceSub,reduceLeDiff,fS,fO,h2,h3]
 exact go ns none
def meet(n o:Nt):Bool:=decide (o.1<n.1+n.2.1)&&decide (n.1<o.1+o.2.1)&&!(o.1==n.1&&o.2.1==n.2.1)
def VW(o:Nt):List (Sum Int Str):=[.inl o.1,.inl o.2.1]
def seen(n:Nt):List Nt->List (List (Sum Int Str)×D)->List (List (Sum Int Str)×D)
 | [],acc=>acc
 | o::os,acc=>seen n os (if meet n o then zc (VW o) (.bl true) acc else acc)
theorem qew{κ:Type} [DecidableEq κ](k:κ)(d:D)(kvs:List (κ×D)):(zc k d kvs).length<=kvs.length+1:=by
 unfold zc;split
 ·simp
 ·simp
def xb(n:Nt)(ns:List Nt):Nat:=(seen n ns []).length
theorem qex(n:Nt)(ns:List Nt)(O:ns.length<=100):kP [.fz (ntD n),.br (.lst (ns.map ntD))]=.ok (.fz (.int (xb n ns))):=by
 have hz:sz=16777216:=rfl;unfold kP Ua;simp only [EV,reduceAdd,reduceSub,reduceLeDiff];rw [xW (ds:=ns.map ntD) rfl];simp only [EV,reduceAdd,reduceSub,reduceLeDiff];have go:∀(os:List Nt) (z:List (List (Sum Int Str)×D)) (j3:Option En),z.length+os.length<=100->fin ((qR (gV 3) (sIf (L3.tAnd (tE (eOp dLt (eOp qe (q9 3) (eC (.int 0))) (eOp qA (eOp qe (q9 0) (eC (.int 0))) (eOp qe (q9 0) (eC (.int 1)))))) (tE (eOp dLt (eOp qe (q9 0) (eC (.int 0))) (eOp qA (eOp qe (q9 3) (eC (.int 0))) (eOp qe (q9 3) (eC (.int 1))))))) (sIf (tE (eOp dNe (js [(eOp qe (q9 3) (eC (.int 0))),(eOp qe (q9 3) (eC (.int 1)))]) (js [(eOp qe (q9 0) (eC (.int 0))),(eOp qe (q9 0) (eC (.int 1)))]))) (kD 2 [(eOp qe (q9 3) (eC (.int 0))),(eOp qe (q9 3) (eC (.int 1)))] (eC (.bl true))) qr) qr) (os.map ntD)
   [some (.fz (ntD n)),some (.br (.lst (ns.map ntD))),some (.ow (.dT z)),j3]).th (qu (eB jC [(q9 2)])))=.ok (.fz (.int (seen n os z).length)):=by
  intro os
  induction os with
  | nil=>intro z j3 _;rfl
  | cons o os ih =>
   intro z j3 hb;rw [gU]at hb;rw [gN];unfold qR seen;simp only [EV,reduceAdd,reduceSub,reduceLeDiff,ntD];unfold meet;have B:=ih z (some (.fz (ntD o))) (by omega)
   cases h1:decide (o.1<n.1+n.2.1)
   ·simp only [EV,reduceAdd,reduceSub,reduceLeDiff,fO,hX,fP];exact B
   ·cases h2:decide (n.1<o.1+o.2.1)
    ·simp only [EV,reduceAdd,reduceSub,reduceLeDiff,fO,fS,dN,hX,fP,h2];exact B
    ·cases h3:(!(o.1==n.1&&o.2.1==n.2.1))
     ·simp only [EV,reduceAdd,reduceSub,reduceLeDiff,fS,Bool.and_true,hX,fP,h2,h3];exact B
     ·simp only [EV,reduceAdd,reduceSub,reduceLeDiff,fS,Bool.and_true,dz,h2,h3];rw [qco (kvs:=z) (d:=.bl true) (ws:=[.fz (.int o.1),.fz (.int o.2.1)]) (key:=VW o) rfl rfl (by simp only [EV,reduceAdd,reduceSub,reduceLeDiff]) rfl (by omega) (by show 2<=sz;omega)]
      have:=qew (VW o) (.bl true) z;exact ih _ _ (by omega)
 exact go ns [] none (by simpa using O)
def yV(wd:Bool)(ns:List Nt)(c:Int):List Nt:=if xa (jD c ns wd) ns&&decide (xb (jD c ns wd) ns<=7)then ns++[jD c ns wd]else ns
def yW(wd:Bool):List Int->List Nt->List Nt
 | [],ns=>ns
 | c::cs,ns=>yW wd cs (yV wd ns c)
def uI(ns:List Int):Nat:=if qM (cell ns 0+7*(ns.length:Int)) 9871 8=3 then 24 else 12
def jY(ns:List Int)(wd:Bool):List Nt:=yW wd ((ns.drop 6).take (uI ns)) []
theorem qey(wd:Bool)(ns:List Nt)(c:Int):(yV wd ns c).length<=ns.length+1:=by
 unfold yV;split
 ·simp
 ·simp
theorem qez(ns:List Int)(z:ns.length<=63):uw [.fz (.lst (ns.map D.int))]=.ok (.fz (.bl (qM (cell ns 0+7*(ns.length:Int)) 9871 8==3))):=by
 have c0:=yT ns 0;rw [show((0:Nat):Int)=0 from rfl]at c0
 have mx:=zI (cell ns 0+7*(ns.length:Int)) 9871 8 (by decide) (by decide)
 unfold uw Uj;simp only [EV,reduceAdd,reduceSub,reduceLeDiff,c0,gy,Qa (i:=7) (by decide) (by decide),mx]
theorem qeA(ns:List Int)(Y:ns.length<=63)(wd:Bool):kZ [.fz (.lst (ns.map D.int)),.fz (.bl wd)]=.ok (.ow (.lst ((jY ns wd).map ntD))):=by
 have hz:sz=16777216:=rfl;have lg:=qez ns Y;have O:decide ((63:Int)<(ns.length:Int))=false:=by simp;omega
 have go:∀(cs:List Int) (z:List Nt) (B:Int) (j4 j5:Option En),z.length+cs.length<=24 ->
   fin ((qR (gV 4) (qf (qi 5 (qj kR [(q9 4),(q9 3),(q9 1)])) (sIf (L3.tAnd (tE (qj kO [(q9 5),(q9 3)])) (tE (eOp dLe (qj kP [(q9 5),(q9 3)]) (eC (.int 7))))) (jA 3 (q9 5)) qr)) (cs.map D.int)
    [some (.fz (.lst (ns.map D.int))),some (.fz (.bl wd)),some (.fz (.int B)),some (.ow (.lst (z.map ntD))),j4,j5]).th (jM 3))=.ok (.ow (.lst ((yW wd cs z).map ntD))):=by
  intro cs
  induction cs with
  | nil=>intro z B j4 j5 _;rfl
  | cons c cs ih =>
   intro z B j4 j5 hb;rw [gU]at hb;rw [gN];unfold qR yW;have ne:=qeu c z wd;have ae:=qev (jD c z wd) z;have me:=qex (jD c z wd) z (by omega)
   simp only [EV,reduceAdd,reduceSub,reduceLeDiff,ne,ae];unfold yV;cases h1:xa (jD c z wd) z
   ·simp only [EV,reduceAdd,reduceSub,reduceLeDiff,fO,hX,fP];exact ih z B _ _ (by omega)
   ·simp only [EV,reduceAdd,reduceSub,reduceLeDiff,me,fS];have e7:decide (((xb (jD c z wd) z:Nat):Int)<=7)=decide (xb (jD c z wd) z<=7):=by
     congr 1;apply propext;omega
    rw [e7];cases h2:decide (xb (jD c z wd) z<=7)
    ·simp only [EV,reduceAdd,reduceSub,reduceLeDiff,hX,fP];exact ih z B _ _ (by omega)
    ·simp only [EV,reduceAdd,reduceSub,reduceLeDiff];rw [kB (xs:=z.map ntD) (d:=ntD (jD c z wd)) rfl (by rw [gy];omega) (by simp only [EV,reduceAdd,reduceSub,reduceLeDiff])]
     have:=ih (z++[jD c z wd]) B (some (.fz (.int c))) (some (.fz (ntD (jD c z wd)))) (by rw [f8];simp;omega)
     rw [fW]at this;exact this
 have U:∀ m:Nat,m<=24->zF (ns.map D.int) (some 6) (some (6+(m:Int)))=((ns.drop 6).take m).map D.int:=fun m hm=>by
  have:=qcp (ns.map D.int) 6 m;rw [show(((6:Nat):Int))=6 from rfl]at this
  rw [this,<- List.map_drop,<- List.map_take]
 unfold kZ Uy jY uI;simp only [EV,reduceAdd,reduceSub,reduceLeDiff,lg];have W:∀ m:Nat,m<=24->([]:List Nt).length+((ns.drop 6).take m).length<=24:=fun m hm=>by simp;omega
 by_cases c:qM (cell ns 0+7*(ns.length:Int)) 9871 8=3
 ·have b:(qM (cell ns 0+7*(ns.length:Int)) 9871 8==3)=true:=by simpa using c
  rw [gB c];simp only [EV,reduceAdd,reduceSub,reduceLeDiff,b,gy,O];rw [wp (w:=.ow (.lst (zF (ns.map D.int) (some 6) (some (6+((24:Nat):Int)))))) (by simp only [EV,reduceAdd,reduceSub,reduceLeDiff]) rfl,U 24 (by decide)]
  simp only [EV,reduceAdd,reduceSub,reduceLeDiff];exact go _ [] 24 none none (W 24 (by decide))
 ·have b:(qM (cell ns 0+7*(ns.length:Int)) 9871 8==3)=false:=by simpa using c
  rw [gD c];simp only [EV,reduceAdd,reduceSub,reduceLeDiff,b,gy,O];rw [wp (w:=.ow (.lst (zF (ns.map D.int) (some 6) (some (6+((12:Nat):Int)))))) (by simp only [EV,reduceAdd,reduceSub,reduceLeDiff]) rfl,U 12 (by decide)]
  simp only [EV,reduceAdd,reduceSub,reduceLeDiff];exact go _ [] 12 none none (W 12 (by decide))
theorem qeB(ns:List Int):kS [.fz (.lst (ns.map D.int))]=.ok (.fz (.bl (cell ns 0%4==3))):=by
 have c0:=yT ns 0;rw [show((0:Nat):Int)=0 from rfl]at c0
 unfold kS Ul;simp only [EV,reduceAdd,reduceSub,reduceLeDiff,c0,kz (j:=4) (by decide)]
structure NotesOk(ns:List Nt):Prop where
 b:∀ n∈ns,0<=n.1/\n.1<=1000/\1<=n.2.1/\n.2.1<=400/\0<=n.2.2/\n.2.2<=127
 ap:ns.Pairwise fun o n=>hits n o=false
 mt:∀ pre n post,ns=pre++n::post->xb n pre<=7
theorem qeC(c:Int)(ns:List Nt)(wd:Bool)(h:∀ n∈ns,0<=n.1/\n.1<=1000/\1<=n.2.1/\n.2.1<=400/\0<=n.2.2/\n.2.2<=127) :
  0<=(jD c ns wd).1/\(jD c ns wd).1<=1000/\1<=(jD c ns wd).2.1/\(jD c ns wd).2.1<=400/\0<=(jD c ns wd).2.2/\(jD c ns wd).2.2<=127:=by
 have m1:=zJ c 10007 97 (by decide)
 have m2:=zJ c 9973 48 (by decide)
 have m3:=zJ c 9967 25 (by decide)
 have m4:=zJ c 10007 1001 (by decide)
 have m5:=zJ c 9973 400 (by decide)
 have m6:=zJ c 9967 128 (by decide)
 have hs:0<=nS c wd/\nS c wd<=1000:=by unfold nS;split<;>omega
 have hl:1<=nL c wd/\nL c wd<=400:=by unfold nL;split<;>omega
 have hp:0<=nP c wd/\nP c wd<=127:=by unfold nP;split<;>omega
 have z:QQ wd<=1000:=by unfold QQ;split<;>omega
 unfold jD;cases hq:ns.getLast? with
 | none=>dsimp only;omega
 | some q =>
  have hb:=h q (List.mem_of_getLast? hq);dsimp only;split
  ·dsimp only;omega
  ·split
   ·rename_i c2;dsimp only;split<;>omega
   ·dsimp only;omega
theorem qeD{wd:Bool}{ns:List Nt}{c:Int}(h:NotesOk ns):NotesOk (yV wd ns c):=by
 unfold yV;split
 ·rename_i k;rw [gK]at k;have hb:=qeC c ns wd h.b;refine⟨fun n hn=>?_,?_,fun pre n post e=>?_⟩
  ·rcases tm.mp hn with hn|hn
   ·exact h.b n hn
   ·simp at hn;subst hn;exact hb
  ·rw [dm];refine⟨h.ap,List.pairwise_singleton _ _,fun o ho n hn=>?_⟩
   simp at hn;subst hn;have:=p9.mp k.1 o ho;simpa using this
  ·rcases List.eq_nil_or_concat post with rfl|⟨post',x,rfl⟩
   ·have:=List.append_inj_right' e rfl;have e2:=List.append_inj_left' e rfl;simp at this;subst this e2;simpa using k.2
   ·have e':ns++[jD c ns wd]=(pre++n::post')++[x]:=by rw [e];simp
    have e2:=List.append_inj_left' e' rfl;exact h.mt pre n post' e2
 ·exact h
theorem UR(wd:Bool):∀(cs:List Int) (ns:List Nt),NotesOk ns->NotesOk (yW wd cs ns)
 | [],ns,h=>h
 | c::cs,ns,h=>UR wd cs _ (qeD h)
theorem US(wd:Bool):∀(cs:List Int) (ns:List Nt),(yW wd cs ns).length<=ns.length+cs.length
 | [],ns=>gw _
 | c::cs,ns=>by
  have h1:=US wd cs (yV wd ns c);have h2:=qey wd ns c;simp only [yW,gU];omega
theorem qeE(ns:List Int)(wd:Bool):NotesOk (jY ns wd) :=
 UR wd _ [] ⟨fun n hn=>by simp at hn,.nil,fun pre n post e=>by simp at e⟩
theorem UT(ns:List Int)(wd:Bool):(jY ns wd).length<=24:=by
 have h:=US wd ((ns.drop 6).take (uI ns)) [];have:uI ns<=24:=by unfold uI;split<;>decide
 unfold jY;simp at h ⊢;omega
theorem qeF{a b:Nt}(h:ntR a=ntR b):a=b:=by
 obtain⟨a1,a2,a3⟩:=a;obtain⟨b1,b2,b3⟩:=b;simp [ntR]at h;simp [h]
def ofR:List Int->Nt
 | [a,b,c]=>(a,b,c)
 | _=>(0,0,0)
def QR(ns:List Nt):List Nt:=(wo (ns.map ntR)).map ofR
theorem qeG(ns:List Nt):(QR ns).map ntR=wo (ns.map ntR):=by
 unfold QR;rw [fG];have:∀ r∈wo (ns.map ntR),(ntR∘ofR) r=r:=fun r hr=>by
  obtain⟨n,_,rfl⟩:=tR.mp ((KL _).mem_iff.mp hr);rfl
 rw [pK this];simp
theorem QS{i:Nat}{ρ:Rho}{ds:List D}(h:ρ[i]?=some (some (.fz (.lst ds)))):vm i ρ=.ok (numd 0 ds):=by unfold vm;rw [h]
def uJ(p:Nt):Bool:=jX 0 1000 (.int p.1)&&(jX 1 400 (.int p.2.1)&&jX 0 127 (.int p.2.2))
theorem UU(p:Nt):vF [.fz (ntD p),.fz yL]=.ok (.fz (.bl (uJ p))):=UO (.int p.1) (.int p.2.1) (.int p.2.2) 0 1000 1 400 0 127 rfl rfl rfl
theorem UV(n:Nt):jI [.fz (ntD n)]=.ok (.fz (.int (n.1+n.2.1))):=by
 unfold jI XZ;simp only [EV,reduceAdd,reduceSub,reduceLeDiff,ntD]
theorem qeH(n o:Nt):kQ [.fz (ntD n),.fz (ntD o)]=.ok (.fz (.bl (hits n o))):=by
 have e1:jI [.fz (.tup [.int n.1,.int n.2.1,.int n.2.2])]=.ok (.fz (.int (n.1+n.2.1))):=UV n;have e2:jI [.fz (.tup [.int o.1,.int o.2.1,.int o.2.2])]=.ok (.fz (.int (o.1+o.2.1))):=UV o;unfold kQ Ue hits;simp only [EV,reduceAdd,reduceSub,reduceLeDiff,ntD,e1,e2];cases (n.2.2==o.2.2)
 ·simp only [EV,reduceAdd,reduceSub,reduceLeDiff,fO]
 ·simp only [EV,reduceAdd,reduceSub,reduceLeDiff,fS,e1,e2];cases decide (n.1<o.1+o.2.1)
  ·simp only [EV,reduceAdd,reduceSub,reduceLeDiff,fO]
  ·simp only [EV,reduceAdd,reduceSub,reduceLeDiff,fS,e1]
theorem qeI(n o:Nt):hits n o=hits o n:=by
 unfold hits;rw [Bool.and_comm (decide (n.1<o.1+o.2.1)),show(n.2.2==o.2.2)=(o.2.2==n.2.2)from Bool.beq_comm]
theorem qeJ(ds:List D)(n:Nat)(pre:List Nt)(p:Nt)(hp:ds.take n=pre.map ntD)(hd:ds[n]?=some (ntD p)):yf [.fz (.lst ds),.fz (.int n)]=.ok (.fz (.bl (pre.any fun o=>hits o p))):=by
 have z:L3.zF ds none (some (n:Int))=pre.map ntD:=(UQ ds n).trans hp;have ix:okD (ati ds (n:Int))=.ok (.fz (ntD p)):=by rw [v7,hd];rfl
 unfold yf Us;simp only [EV,reduceAdd,reduceSub,reduceLeDiff];rw [wp (w:=.ow (.lst (L3.zF ds none (some (n:Int))))) (by simp only [EV,reduceAdd,reduceSub,reduceLeDiff]) rfl,z]
 simp only [EV,reduceAdd,reduceSub,reduceLeDiff];have go:∀(os:List Nt) (j2:Option En),fin ((qR (gV 2) (sIf (tE (qj kQ [(q9 2),(eOp qe (q9 0) (q9 1))])) (qu (eC (.bl true))) qr) (os.map ntD)
   [some (.fz (.lst ds)),some (.fz (.int n)),j2]).th (qu (eC (.bl false))))=.ok (.fz (.bl (os.any fun o=>hits o p))):=by
  intro os
  induction os with
  | nil=>intro j2;rfl
  | cons o os ih =>
   intro j2;rw [gN,jW rfl];have ov:=qeH o p;simp only [EV,reduceAdd,reduceSub,reduceLeDiff,ix,ov,dW];cases hits o p
   ·simp only [EV,reduceAdd,reduceSub,reduceLeDiff,vW,Bool.false_or];exact ih _
   ·simp only [EV,reduceAdd,reduceSub,reduceLeDiff,qeo,Bool.true_or]
 exact go pre none
def QT(ds:List D)(n:Nat):Prop:=∃(p:Nt) (pre:List Nt),ds[n]?=some (ntD p)/\uJ p=true/\ds.take n=pre.map ntD/\(pre.any fun o=>hits o p)=false
def VX(ds:List D)(n:Nat):Prop:=∃ p:Nt,ds[n]?=some (ntD p)/\uJ p=false
theorem UW(ds:List D)(h2:ds.length<=60):wA [.fz (.lst ds),.fz (.int 0),.fz uj]=.ok (.fz (.bl true)):=by
 unfold wA ZH;simp only [EV,reduceAdd,reduceSub,reduceLeDiff,uj];rw [show decide ((0:Int)<=(ds.length:Int))=true by simp]
 simp only [EV,reduceAdd,reduceSub,reduceLeDiff];rw [show decide ((ds.length:Int)<=60)=true by simp;omega]
def vX:SF:=(sIf (tOr (tNot (tE (qj vF [(q9 2),(eC yL)]))) (tE (qj yf [(q9 0),(q9 1)]))) (zn "BadNotes" (q9 1)) qr)
theorem UX{ds:List D}{n:Nat}{d:D}(g:QT ds n)(hd:ds[n]?=some d):vX [some (.fz (.lst ds)),some (.fz (.int n)),some (.fz d)]=.nx [some (.fz (.lst ds)),some (.fz (.int n)),some (.fz d)]:=by
 obtain⟨p,pre,e1,tb,ep,ea⟩:=g;rw [e1]at hd;cases hd;have t:=UU p;have a:=qeJ ds n pre p ep e1;unfold vX;simp only [EV,reduceAdd,reduceSub,reduceLeDiff,t,tb,a,ea]
theorem qeK{ds:List D}{n:Nat}{d:D}(g:VX ds n)(hd:ds[n]?=some d):vX [some (.fz (.lst ds)),some (.fz (.int n)),some (.fz d)]=.exc ⟨"BadNotes",[("at",.int n)]⟩:=by
 obtain⟨p,e1,tb⟩:=g;rw [e1]at hd;cases hd;have t:=UU p;unfold vX;have ra:zn "BadNotes" (q9 1) [some (.fz (.lst ds)),some (.fz (.int n)),some (.fz (ntD p))]=.exc ⟨"BadNotes",[("at",.int n)]⟩:=UP rfl;simp only [EV,reduceAdd,reduceSub,reduceLeDiff,t,tb];exact ra
theorem UY{ds es:List D}(h2:ds.length<=60)(g:∀ n,n<ds.length->QT ds n)(z:vR [.lst ds]=.ok (.ow (.lst es))):jQ [.fz (.lst ds)]=.ok (.ow (.lst es)):=by
 unfold jQ VB;simp only [EV,reduceAdd,reduceSub,reduceLeDiff,UW ds h2];rw [QS (ds:=ds) rfl];simp only [EV,reduceAdd,reduceSub,reduceLeDiff];obtain⟨ρ',e,j1,j2,hI⟩:=Q4 (numd 0 ds) (fun i ρ=>∃ j1 j2,ρ=[some (.fz (.lst ds)),j1,j2]) (g:=gT [1,2]) (b:=vX) (ρ:=[some (.fz (.lst ds)),none,none]) ⟨none,none,rfl⟩ (fun i x ρ hx ⟨j1,j2,hρ⟩=>by
  subst hρ;obtain⟨d,e1,rfl⟩:=VV hx;exact⟨_,_,rfl,.inl (UX (g i (gu.mp e1).1) e1),_,_,rfl⟩)
 rw [show(sIf (tOr (tNot (tE (qj vF [(q9 2),(eC yL)]))) (tE (qj yf [(q9 0),(q9 1)]))) (zn "BadNotes" (q9 1)) qr)=vX from rfl,e]
 subst hI;simp only [EV,reduceAdd,reduceSub,reduceLeDiff,z]
theorem qeL{ds:List D}{n:Nat}(h2:ds.length<=60)(g:∀ m,m<n->QT ds m)(w:VX ds n):jQ [.fz (.lst ds)]=.exc ⟨"BadNotes",[("at",.int n)]⟩:=by
 have hn:n<ds.length:=by obtain⟨d,e,_⟩:=w;exact(gu.mp e).1
 unfold jQ VB;simp only [EV,reduceAdd,reduceSub,reduceLeDiff,UW ds h2];rw [QS (ds:=ds) rfl];simp only [EV,reduceAdd,reduceSub,reduceLeDiff];have e:=Q3 (Q:=fun o=>o=.exc ⟨"BadNotes",[("at",.int n)]⟩) (numd 0 ds) (fun i ρ=>i<=n/\∃ j1 j2,ρ=[some (.fz (.lst ds)),j1,j2]) (g:=gT [1,2]) (b:=vX) (ρ:=[some (.fz (.lst ds)),none,none]) ⟨tZ _,none,none,rfl⟩ (fun i x ρ hx ⟨hi,j1,j2,hρ⟩=>by
  subst hρ;obtain⟨d,e1,rfl⟩:=VV hx;refine⟨_,rfl,?_⟩;by_cases c:i=n
  ·subst c;show JO _ _ (vX [some (.fz (.lst ds)),some (.fz (.int i)),some (.fz d)]);rw [qeK w e1];rfl
  ·show JO _ _ (vX [some (.fz (.lst ds)),some (.fz (.int i)),some (.fz d)]);rw [UX (g i (by omega)) e1]
   exact⟨by omega,_,_,rfl⟩) (fun ρ ⟨hi,_⟩=>by rw [Z6]at hi;omega)
 rw [show(sIf (tOr (tNot (tE (qj vF [(q9 2),(eC yL)]))) (tE (qj yf [(q9 0),(q9 1)]))) (zn "BadNotes" (q9 1)) qr)=vX from rfl,e]
 rfl
structure GN(ns:List Nt):Prop where
 l:ns.length<=24
 b:∀ n∈ns,0<=n.1/\n.1<=1000/\1<=n.2.1/\n.2.1<=400/\0<=n.2.2/\n.2.2<=127
 ap:ns.Pairwise fun o n=>hits o n=false
theorem qeM{ns:List Nt}(h:NotesOk ns)(z:ns.length<=24):GN ns:=⟨z,h.b,h.ap.imp fun{o n} q=>by rw [qeI];exact q⟩
theorem qeN{p:Nt}(h:0<=p.1/\p.1<=1000/\1<=p.2.1/\p.2.1<=400/\0<=p.2.2/\p.2.2<=127):uJ p=true:=by
 obtain⟨h1,h2,h3,h4,h5,h6⟩:=h;simp [uJ,jX,h1,h2,h3,h4,h5,h6]
theorem VY{ns:List Nt}(g:GN ns){ds:List D}{n m:Nat}(B:ds.take n=(ns.take n).map ntD)(O:m<n)(U:n<=ns.length):QT ds m:=by
 have z:m<ns.length:=by omega
 have em:ds[m]?=some (ntD ns[m]):=by
  have:(ds.take n)[m]?=ds[m]?:=by rw [cL,gB O]
  rw [<- this,B,gX,cL,gB O,hU z];rfl
 refine⟨ns[m],ns.take m,em,qeN (g.b _ (dg _)),?_,?_⟩
 ·have:=congrArg (List.take m) B;rw [List.take_take,Nat.min_eq_left (by omega),<- List.map_take,List.take_take,Nat.min_eq_left (by omega)]at this
  exact this
 ·rw [List.any_eq_false];intro o ho;obtain⟨k,hk,rfl⟩:=List.getElem_of_mem ho;rw [df]at hk;have:=cw.mp g.ap k m (by omega) z (by omega)
  rw [List.getElem_take,this]
  decide
theorem qeO{ns:List Nt}(g:GN ns){ds:List D}{n:Nat}(z:ds.length<=60)(B:n<=ns.length)(O:ds.take n=(ns.take n).map ntD)(w:VX ds n):jQ [.fz (.lst ds)]=.exc ⟨"BadNotes",[("at",.int n)]⟩ :=
 qeL z (fun m hm=>VY g O hm B) w
theorem qeP{ns:List Nt}(g:GN ns):(ns.map ntR).Nodup:=by
 show List.Pairwise _ _;rw [cU];refine List.Pairwise.imp_of_mem (fun{o n} ho hn q z=>?_) g.ap
 have e:=qeF z;subst e;have hb:=g.b o ho;unfold hits at q;simp at q;omega
theorem qeQ{ns:List Nt}(g:GN ns):vR [.lst (ns.map ntD)]=.ok (.ow (.lst ((QR ns).map ntD))):=by
 have e1:ns.map ntD=(ns.map ntR).map qD:=by rw [fG];rfl
 have l:=g.l;rw [e1,JZ (qeP g) (by rw [gy];omega) (fun z=>by obtain⟨n,_,e⟩:=tR.mp z;cases e),<- qeG,fG]
 rfl
theorem qeR{ns:List Nt}(g:GN ns):jQ [.fz (.lst (ns.map ntD))]=.ok (.ow (.lst ((QR ns).map ntD))) :=
 UY (by have:=g.l;rw [gy];omega) (fun n hn=>VY g (n:=ns.length) (by rw [<- List.map_take]) (by simpa using hn) (gw _)) (qeQ g)
def TB(p:Int×Int×Int):Prop:=0<=p.1/\p.1<=1000/\1<=p.2.1/\p.2.1<=24/\p.2.2∈([1,2,4,8,16,32,64]:List Int)/\8<=zL p/\zL p<=512
theorem qeS(p:Int×Int×Int)(h:TB p):yP [.fz (qB p)]=.ok (.fz (.bl true)):=by
 obtain⟨a1,a2,b1,b2,u,l1,l2⟩:=h;have u1:1<=p.2.2/\p.2.2<=64/\Qe (.int p.2.2) QH=.ok (.fz (.bl false)):=by
  simp only [gl,fj,dr]at u;rcases u with u|u|u|u|u|u|u<;>(rw [u];exact⟨by decide,by decide,by kernel_rfl⟩)
 have e:=UO (.int p.1) (.int p.2.1) (.int p.2.2) 0 1000 1 24 1 64 rfl rfl rfl;simp only [jX,a1,a2,b1,b2,u1.1,u1.2.1,decide_true,Bool.and_self]at e;have tl:vq [.fz (.tup [.int p.1,.int p.2.1,.int p.2.2])]=.ok (.fz (.int (zL p))):=VU p ⟨by omega,b2⟩
 unfold yP UD qB;simp only [EV,reduceAdd,reduceSub,reduceLeDiff,QG,e,u1.2.2,tl,QI,QJ,l1,l2,decide_true]
theorem qeT(ds:List D)(p:Int×Int×Int)(h:ds[0]?=some (qB p)):wB [.fz (.lst ds),.fz (.int 0)]=.ok (.fz (.bl (p.1==0))):=by
 have e:okD (ati ds 0)=.ok (.fz (qB p)):=by rw [show(0:Int)=((0:Nat):Int)from rfl,v7,h];rfl
 unfold wB ZS;simp only [EV,reduceAdd,reduceSub,reduceLeDiff];rw [show((0:Int)==0)=true from rfl]
 simp only [EV,reduceAdd,reduceSub,reduceLeDiff,e,qB]
theorem qeU(ds:List D)(n:Nat)(p q:Int×Int×Int)(h:ds[n+1]?=some (qB p))(z:ds[n]?=some (qB q)):wB [.fz (.lst ds),.fz (.int ((n+1:Nat):Int))]=.ok (.fz (.bl (decide (q.1<p.1)))):=by
 have e:okD (ati ds ((n+1:Nat):Int))=.ok (.fz (qB p)):=by rw [v7,h];rfl
 have e2:okD (ati ds (((n+1:Nat):Int)-1))=.ok (.fz (qB q)):=by rw [show((n+1:Nat):Int)-1=(n:Int)by omega,v7,z];rfl
 unfold wB ZS;simp only [EV,reduceAdd,reduceSub,reduceLeDiff];rw [show(((n+1:Nat):Int)==0)=false by simp;omega]
 simp only [EV,reduceAdd,reduceSub,reduceLeDiff,e,e2,qB]
def VZ(ds:List D)(n:Nat):Prop:=∃ p,ds[n]?=some (qB p)/\TB p/\(n=0->p.1=0)/\∀ m,n=m+1->∃ q,ds[m]?=some (qB q)/\q.1<p.1
theorem qeV(d:D)(ds:List D)(h1:1<=ds.length)(h2:ds.length<=20):wA [.fz (.lst ds),.fz (.int 1),.fz ul]=.ok (.fz (.bl true)):=by
 unfold wA ZH;simp only [EV,reduceAdd,reduceSub,reduceLeDiff,ul];rw [show decide ((1:Int)<=(ds.length:Int))=true by simp;omega]
 simp only [EV,reduceAdd,reduceSub,reduceLeDiff];rw [show decide ((ds.length:Int)<=20)=true by simp;omega]
def QU:SF:=(sIf (tOr (tNot (tE (qj yP [(q9 2)]))) (tNot (tE (qj wB [(q9 0),(q9 1)])))) (zn "BadMeter" (q9 1)) qr)
theorem qeW{ds:List D}{n:Nat}{d:D}{j1 j2:Option En}(g:VZ ds n)(hd:ds[n]?=some d):QU [some (.fz (.lst ds)),some (.fz (.int n)),some (.fz d)]=.nx [some (.fz (.lst ds)),some (.fz (.int n)),some (.fz d)]:=by
 obtain⟨p,e1,tb,z0,zs⟩:=g;rw [e1]at hd;cases hd;have t:=qeS p tb;unfold QU;simp only [EV,reduceAdd,reduceSub,reduceLeDiff,t];cases n with
 | zero =>
  have r:=qeT ds p e1;rw [show((0:Nat):Int)=0 from rfl]
  simp only [EV,reduceAdd,reduceSub,reduceLeDiff,r,z0 rfl,cy]
 | succ m =>
  obtain⟨q,e2,lt⟩:=zs m rfl;have r:=qeU ds m p q e1 e2;simp only [EV,reduceAdd,reduceSub,reduceLeDiff,r,lt,decide_true]
theorem qeX{ds:List D}(h1:1<=ds.length)(h2:ds.length<=20)(g:∀ n,n<ds.length->VZ ds n):zq [.fz (.lst ds)]=.ok (.ow (.lst ds)):=by
 unfold zq UG;simp only [EV,reduceAdd,reduceSub,reduceLeDiff,qeV .non ds h1 h2];rw [QS (ds:=ds) rfl];simp only [EV,reduceAdd,reduceSub,reduceLeDiff];obtain⟨ρ',e,j1,j2,hI⟩:=Q4 (numd 0 ds) (fun i ρ=>∃ j1 j2,ρ=[some (.fz (.lst ds)),j1,j2]) (g:=gT [1,2]) (b:=QU) (ρ:=[some (.fz (.lst ds)),none,none]) ⟨none,none,rfl⟩ (fun i x ρ hx ⟨j1,j2,hρ⟩=>by
  subst hρ;obtain⟨d,e1,rfl⟩:=VV hx;exact⟨_,_,rfl,.inl (qeW (j1:=none) (j2:=none) (g i (gu.mp e1).1) e1),_,_,rfl⟩)
 rw [show(sIf (tOr (tNot (tE (qj yP [(q9 2)]))) (tNot (tE (qj wB [(q9 0),(q9 1)])))) (zn "BadMeter" (q9 1)) qr)=QU from rfl,e]
 subst hI;simp only [EV,reduceAdd,reduceSub,reduceLeDiff]
structure GM(ms:List (Int×Int×Int)):Prop where
 l1:1<=ms.length
 l2:ms.length<=20
 told:∀ p∈ms,TB p
 pw:ms.Pairwise fun p q=>p.1<q.1
 z:∀ p,ms[0]?=some p->p.1=0
theorem UZ{z:List (Int×Int×Int)}{n:Nat}(h:n<z.length):(z.map qB)[n]?=some (qB z[n]):=by rw [gX,hU h];rfl
theorem qeY{B:List (Int×Int×Int)}(g:GM B){ds:List D}{n:Nat}(U:∀ m,m<=n->ds[m]?=(B.map qB)[m]?)(O:n<B.length):VZ ds n:=by
 refine⟨B[n],(U n (gw _)).trans (UZ O),g.told _ (dg _),fun z=>?_,fun m e=>?_⟩
 ·subst z;exact g.z _ (hU O)
 ·subst e;refine⟨B[m],(U m (by omega)).trans (UZ (by omega)),?_⟩
  exact cw.mp g.pw m (m+1) (by omega) O (by omega)
theorem M0(ns:List Int):∀ k,mbar ns k<=3*k
 | 0=>by simp [mbar]
 | k+1=>by
  have:=M0 ns k;have:=zJ (jj ns k) 9967 3 (by decide)
  show mbar ns k+1+qM (jj ns k) 9967 3<=_;omega
theorem qeZ(wd:Bool):∀ u∈vc wd,u∈([1,2,4,8,16,32,64]:List Int)/\8<=yU wd/\yh wd<=512:=by cases wd<;>decide
theorem qf0(ns:List Int)(wd:Bool):GM (zr ns wd):=by
 obtain⟨m1,m2,_⟩:=QO ns;have f:=UL ns wd;refine⟨by simp [zr];omega,by simp [zr];omega,fun p hp=>?_,f.1,fun p h=>?_⟩
 ·obtain⟨k,hk,rfl⟩:=tR.mp hp;have hk:k<yi ns:=List.mem_range.mp hk;have t:=VS (jj ns k) wd;have um:=uF (jj ns k) wd;obtain⟨u1,u2,u3,u4,u5,u6,u7⟩:=uG wd _ um;obtain⟨k1,k2,k3⟩:=qeZ wd _ um;have b1:=M0 ns k;have b0:0<=mbar ns k:=by
   cases k with
   | zero=>exact fY _
   | succ k=>exact cD (VT ns (Nat.succ_pos k))
  have p1:8<=zK (jj ns k) wd*ji (jj ns k) wd:=d7 (d7 k2 u6) (tj t.1 (by omega))
  have p2:zK (jj ns k) wd*ji (jj ns k) wd<=512:=d7 (tj t.2 (by omega)) (d7 u7 k3)
  exact⟨b0,by show mbar ns k<=1000;omega,by show 1<=zK (jj ns k) wd;omega,by show zK (jj ns k) wd<=24;omega,k1,p1,p2⟩
 ·unfold zr at h;rw [gX,List.getElem?_range (by omega)]at h
  cases h;rfl
abbrev M3:SF:=qu (js [(eOp qA (q9 2) (eOp zA (eOp jc (q9 1) (q9 3)) (q9 4))),(eOp zy (eOp jc (q9 1) (q9 3)) (q9 4))])
theorem M4{t b g n:Int}{w z O:Option En}(h0:0<=b)(h1:8*b<=g)(h2:g<=t)(U:8<=n)(W:n<=512):∃(B:Nat) (P:Int),fin ((Out.nx [w,some (.fz (.int t)),some (.fz (.int b)),some (.fz (.int g)),some (.fz (.int n)),z,O]).th M3)=.ok (.fz (.tup [.int B,.int P]))/\8*(B:Int)<=t:=by
 have d0:0<=(t-g)/n:=Int.ediv_nonneg (by omega) (by omega)
 have d1:n*((t-g)/n)<=t-g:=Int.mul_ediv_self_le (by omega)
 have d2:8*((t-g)/n)<=n*((t-g)/n):=tj U d0;refine⟨(b+(t-g)/n).toNat,(t-g)%n,?_,by omega⟩
 rw [show(((b+(t-g)/n).toNat:Nat):Int)=b+(t-g)/n by omega]
 simp only [EV,reduceAdd,reduceSub,reduceLeDiff,y6 (i:=t-g) (j:=n) (by omega) (by omega),kz (i:=t-g) (j:=n) (by omega)]
theorem qf1{U:List (Int×Int×Int)}(f:Fine U)(l:Lens U)(t:Int)(Y:0<=t)(Z:t<=1000):∃(B:Nat) (P:Int),uv [.br (.lst (U.map qB)),.fz (.int t)]=.ok (.fz (.tup [.int B,.int P]))/\8*(B:Int)<=t:=by
 unfold uv Ui;simp only [EV,reduceAdd,reduceSub,reduceLeDiff];rw [xW (ds:=U.map qB) rfl];simp only [EV,reduceAdd,reduceSub,reduceLeDiff];refine Q3 (Q:=fun o=>∃(B:Nat) (P:Int),fin (o.th M3)=.ok (.fz (.tup [.int B,.int P]))/\8*(B:Int)<=t) (U.map qB)
  (fun i ρ=>∃ b g n j5 j6,ρ=[some (.br (.lst (U.map qB))),some (.fz (.int t)),some (.fz (.int b)),some (.fz (.int g)),some (.fz (.int n)),j5,j6] /\
   ((i=0/\b=0/\g=0/\n=0)∨0<=b/\8*b<=g/\g<=t/\8<=n/\n<=512/\∀ p∈U.drop i,b<p.1))
  ⟨0,0,0,none,none,rfl,.inl ⟨rfl,rfl,rfl,rfl⟩⟩ (fun i x ρ hx ⟨b,g,n,j5,j6,hρ,hI⟩=>?_) (fun ρ ⟨b,g,n,j5,j6,hρ,hI⟩=>?_)
 ·subst hρ;rw [gX]at hx;cases eq:U[i]? with
  | none=>rw [eq]at hx;cases hx
  | some q =>
   rw [eq]at hx;cases hx;have hq:=tY eq;have f1:=f.2.1 q hq;have l1:=l q hq;have tl:vq [.fz (.tup [.int q.1,.int q.2.1,.int q.2.2])]=.ok (.fz (.int (zL q))):=VU q f1.2;have hi:i<U.length:=(gu.mp eq).1;have e3:U=U.take i++q::U.drop (i+1):=by
    rw [hU hi]at eq;cases eq;rw [<- fQ hi,List.take_append_drop]
   have O:∀ p∈U.drop (i+1),q.1<p.1:=fun p hp=>by
    have pw:=f.1;rw [e3,dm,List.pairwise_cons]at pw;exact pw.2.1.1 p hp
   refine⟨_,rfl,?_⟩;rcases hI with⟨rfl,rfl,rfl,rfl⟩|⟨h0,h1,h2,h3,h4,h5⟩
   ·have q0:q.1=0:=by
     obtain⟨p,hp,W⟩:=f.2.2.1;rw [e3]at hp;rcases gl.mp hp with rfl|hp
     ·exact W
     ·have:=O p hp;omega
    simp only [EV,reduceAdd,reduceSub,reduceLeDiff,qB,JU (i:=q.1-0) (j:=0) (by decide) (by decide),Int.mul_zero,Int.add_zero,show decide (t<0)=false by simp;omega,tl]
    exact⟨q.1,0,zL q,some (.fz (qB q)),some (.fz (.int 0)),rfl,.inr ⟨by omega,by omega,Y,l1.1,l1.2.1,O⟩⟩
   ·have bq:b<q.1:=h5 q (List.mem_iff_getElem?.mpr ⟨0,by rw [List.getElem?_drop];simpa using eq⟩)
    have m1:8*(q.1-b)<=n*(q.1-b):=tj h3 (by omega)
    rw [Int.mul_comm n]at m1;have ml:=JU (i:=q.1-b) (j:=n) (by omega) (by omega)
    simp only [EV,reduceAdd,reduceSub,reduceLeDiff,qB,ml];by_cases c:t<g+(q.1-b)*n
    ·simp only [show decide (t<g+(q.1-b)*n)=true by simp [c],EV,reduceAdd,reduceSub,reduceLeDiff]
     exact M4 h0 h1 h2 h3 h4
    ·simp only [show decide (t<g+(q.1-b)*n)=false by simp;omega,EV,reduceAdd,reduceSub,reduceLeDiff,tl]
     exact⟨q.1,_,zL q,some (.fz (qB q)),some (.fz (.int (g+(q.1-b)*n))),rfl,.inr ⟨by omega,by omega,by omega,l1.1,l1.2.1,O⟩⟩
 ·subst hρ;rcases hI with⟨z,_⟩|⟨h0,h1,h2,h3,h4,_⟩
  ·obtain⟨p,hp,_⟩:=f.2.2.1;rw [gy]at z;rw [List.eq_nil_of_length_eq_zero z]at hp;simp at hp
  ·exact M4 h0 h1 h2 h3 h4
theorem M5{z:List (Int×Int×Int)}(f:Fine z)(l:Lens z)(t:Int)(O:1<=t/\t<=1000):∃ B:Nat,yg [.br (.lst (z.map qB)),.fz (.int t)]=.ok (.fz (.int ((B+1:Nat):Int)))/\8*(B:Int)<=t-1:=by
 obtain⟨B,P,e,S⟩:=qf1 f l (t-1) (by omega) (by omega)
 refine⟨B,?_,S⟩;unfold yg Ux;simp only [EV,reduceAdd,reduceSub,reduceLeDiff,e];rw [gD (by omega)]
 simp only [EV,reduceAdd,reduceSub,reduceLeDiff,e];rfl
def dk(z:List (Int×Int×Int)):List (Sum Int Str×D):=z.map fun p=>(Sum.inl p.1,D.int (zL p))
theorem M6(b:Int):∀ ms:List (Int×Int×Int),(look (Sum.inl b:Sum Int Str) (dk ms)=none/\∀ p∈ms,p.1≠b)∨∃ p∈ms,look (Sum.inl b:Sum Int Str) (dk ms)=some (.int (zL p))
 | []=>.inl ⟨rfl,fun p hp=>by simp at hp⟩
 | q::r=>by
  by_cases c:q.1=b
  ·exact .inr ⟨q,by simp,by simp [dk,look,c]⟩
  ·have e:look (Sum.inl b:Sum Int Str) (dk (q::r))=look (Sum.inl b:Sum Int Str) (dk r):=by simp [dk,look,c]
   rw [e];rcases M6 b r with⟨h,n⟩|⟨p,hp,h⟩
   ·exact .inl ⟨h,fun p hp=>(gl.mp hp).elim (fun e=>by rw [e];exact c) (n p)⟩
   ·exact .inr ⟨p,gp _ hp,h⟩
theorem M7{O:List (Int×Int×Int)}(f:Fine O)(l:Lens O)(B:Nat)(Y:B<=100):∃ vs:List Int,ye [.br (.lst (O.map qB)),.fz (.int ((B+1:Nat):Int))]=.ok (.ow (.lst (vs.map D.int)))/\vs.length=B+1/\∃ L,vs[0]?=some L/\8<=L/\L<=512:=by
 have hz:sz=16777216:=rfl;have hl:=f.2.2.2;unfold ye Uh;simp only [EV,reduceAdd,reduceSub,reduceLeDiff];rw [xW (ds:=O.map qB) rfl];simp only [EV,reduceAdd,reduceSub,reduceLeDiff];obtain⟨ρ1,e1,j3,h1⟩:=Q4 (O.map qB) (fun i ρ=>∃ j3,ρ=[some (.br (.lst (O.map qB))),some (.fz (.int ((B+1:Nat):Int))),some (.ow (.dK (dk (O.take i)))),j3,none,none,none])
  (g:=gV 3) (b:=wZ 2 (eOp qe (q9 3) (eC (.int 0))) (qj vq [(q9 3)]))
  (ρ:=[some (.br (.lst (O.map qB))),some (.fz (.int ((B+1:Nat):Int))),some (.ow (.dK [])),none,none,none,none]) ⟨none,by simp [dk]⟩ (fun i x ρ hx ⟨j3,hρ⟩=>by
   subst hρ;rw [gX]at hx;cases ep:O[i]? with
   | none=>rw [ep]at hx;cases hx
   | some p =>
    rw [ep]at hx;cases hx;have hp:=f.2.1 p (tY ep);have hi:i<O.length:=(gu.mp ep).1;refine⟨_,_,rfl,.inl ?_,some (.fz (qB p)),rfl⟩;have tl:=VU p hp.2;simp only [EV,reduceAdd,reduceSub,reduceLeDiff];rw [qbU (kvs:=dk (O.take i)) (d:=.int (zL p)) (w:=.fz (.int p.1)) (key:=.inl p.1) rfl (by simp only [EV,reduceAdd,reduceSub,reduceLeDiff,tl]) (by simp only [EV,reduceAdd,reduceSub,reduceLeDiff,qB]) rfl (by simp [dk,hz];omega)]
    have nk:¬ ((dk (O.take i)).any fun kv=>decide (kv.1=Sum.inl p.1))=true:=by
     rw [List.any_eq_true];rintro⟨kv,hk,e⟩;obtain⟨q,hq,rfl⟩:=tR.mp hk;have e:q.1=p.1:=by simpa using e
     have pw:=f.1;rw [show O=O.take i++p::O.drop (i+1)by
      rw [hU hi]at ep;cases ep;rw [<- fQ hi,List.take_append_drop],dm]at pw
     have:=pw.2.2 q hq p gY;omega
    rw [show zc (Sum.inl p.1) (D.int (zL p)) (dk (O.take i))=dk (O.take (i+1))by
     unfold zc;rw [gD nk,List.take_succ,ep];simp [dk]]
    rfl)
 rw [e1];subst h1;rw [gy,List.take_length];simp only [EV,reduceAdd,reduceSub,reduceLeDiff];rw [KF (n:=B+1) (by simp only [EV,reduceAdd,reduceSub,reduceLeDiff]) (by omega)]
 simp only [EV,reduceAdd,reduceSub,reduceLeDiff];obtain⟨W,e2,vs,v,j6,h2,h3,h4,h5⟩:=KB (B+1) (fun i ρ=>∃(vs:List Int) (v:Int) (j6:Option En),ρ=[some (.br (.lst (O.map qB))),some (.fz (.int ((B+1:Nat):Int))),some (.ow (.dK (dk O))),j3,some (.ow (.lst (vs.map D.int))),some (.fz (.int v)),j6]/\vs.length=i/\(1<=i->∃ L,vs[0]?=some L/\8<=L/\L<=512)/\True)
  (g:=gV 6) (b:=qf (qi 5 (xT (q9 2) (q9 6) (q9 5))) (jA 4 (q9 5)))
  (ρ:=[some (.br (.lst (O.map qB))),some (.fz (.int ((B+1:Nat):Int))),some (.ow (.dK (dk O))),j3,some (.ow (.lst [])),some (.fz (.int 0)),none]) ⟨[],0,none,rfl,rfl,fun z=>by omega,trivial⟩ (fun i ρ hi ⟨vs,v,j6,hρ,lv,hv,_⟩=>by
   subst hρ;obtain⟨u,hu,U⟩:∃ u:Int,KG (look (Sum.inl (i:Int):Sum Int Str) (dk O)) (.fz (.int v))=.ok (.fz (.int u))/\(i=0->8<=u/\u<=512):=by
    rcases M6 (i:Int) O with⟨h,n⟩|⟨p,hp,h⟩
    ·refine⟨v,by rw [h];rfl,fun z=>?_⟩
     obtain⟨p,hp,h0⟩:=f.2.2.1;exact absurd h0 (by have:=n p hp;rw [z]at this;exact this)
    ·exact⟨zL p,by rw [h];rfl,fun _=>⟨(l p hp).1,(l p hp).2.1⟩⟩
   refine⟨_,_,rfl,.inl ?_,vs++[u],u,some (.fz (.int i)),rfl,by simp [lv],fun _=>?_,trivial⟩
   ·simp only [EV,reduceAdd,reduceSub,reduceLeDiff];rw [qbV (kvs:=dk O) (wd:=.br (.dK (dk O))) (wk:=.fz (.int i)) (wx:=.fz (.int v)) (q:=.inl (i:Int)) rfl rfl rfl rfl rfl,hu];simp only [EV,reduceAdd,reduceSub,reduceLeDiff];rw [kB (xs:=vs.map D.int) (d:=.int u) rfl (by simp [hz];omega) rfl]
    simp
   ·cases i with
    | zero =>
     rw [List.eq_nil_of_length_eq_zero lv];exact⟨u,rfl,U rfl⟩
    | succ i =>
     obtain⟨L,h,b⟩:=hv (by omega)
     exact⟨L,by rw [hW (by omega)];exact h,b⟩)
 rw [e2];subst h2;simp only [EV,reduceAdd,reduceSub,reduceLeDiff];exact⟨vs,rfl,h3,h4 (by omega)⟩
section
variable{dn:Den}{fa:List EF}{ρ:Rho}{ws ys:List En}{x:Xc}{w:En}{st:SF}
theorem QV(h1:evs fa ρ=.ok ws)(h2:qU ws=.ok ys)(z:dn ys=.ok w):vD dn fa ρ=.nx ρ:=by
 unfold vD;rw [h1];show sOf (qU ws) _=_;rw [h2];show(match dn ys with|.ok _=>Out.nx ρ|.exc x=>.exc (nrm x)|.stuck=>.stuck)=_
 rw [z]
theorem W0(h1:evs fa ρ=.ok ws)(h2:qU ws=.ok ys):vE dn fa ρ=(match dn ys with|.exc x=>some x|_=>none):=by
 unfold vE;rw [h1];dsimp only
 first|(rw [h2];done)|(rw [h2];rfl)
theorem uK(h1:evs fa ρ=.ok ws)(h2:qU ws=.ok ys)(z:dn ys=.exc x)(ok:nrm x=x):sX dn fa st ρ=.exc x:=by
 unfold sX;rw [W0 h1 h2,z];dsimp only;rw [ok]
theorem uL(h1:evs fa ρ=.ok ws)(h2:qU ws=.ok ys)(z:dn ys=.ok w):sX dn fa st ρ=st ρ:=by
 unfold sX;rw [W0 h1 h2,z]
end
section
variable{n k m r:D}{x:Xc}{w1 w4:En}{td tn bs:List D}
theorem qf2(h:zT [.fz k]=.exc x)(z:nrm x=x):jw [.fz n,.fz k,.fz m,.fz r]=.exc x:=by
 unfold jw uC;simp only [EV,reduceAdd,reduceSub,reduceLeDiff];rw [QP (ws:=[.fz k]) (ys:=[.fz k]) (by simp only [EV,reduceAdd,reduceSub,reduceLeDiff]) (by simp only [EV,reduceAdd,reduceSub,reduceLeDiff]) h,z]
 rfl
theorem qf3(h1:zT [.fz k]=.ok w1)(h:zq [.fz m]=.exc x)(ok:nrm x=x):jw [.fz n,.fz k,.fz m,.fz r]=.exc x:=by
 unfold jw uC;simp only [EV,reduceAdd,reduceSub,reduceLeDiff];rw [QV (ws:=[.fz k]) (ys:=[.fz k]) (by simp only [EV,reduceAdd,reduceSub,reduceLeDiff]) (by simp only [EV,reduceAdd,reduceSub,reduceLeDiff]) h1]
 simp only [EV,reduceAdd,reduceSub,reduceLeDiff];rw [uK (ws:=[.fz m]) (ys:=[.fz m]) (by simp only [EV,reduceAdd,reduceSub,reduceLeDiff]) (by simp only [EV,reduceAdd,reduceSub,reduceLeDiff]) h ok]
 rfl
theorem qf4(h1:zT [.fz k]=.ok w1)(h2:zq [.fz m]=.ok (.ow (.lst td)))(h:jQ [.fz n]=.exc x)(ok:nrm x=x):jw [.fz n,.fz k,.fz m,.fz r]=.exc x:=by
 unfold jw uC;simp only [EV,reduceAdd,reduceSub,reduceLeDiff];rw [QV (ws:=[.fz k]) (ys:=[.fz k]) (by simp only [EV,reduceAdd,reduceSub,reduceLeDiff]) (by simp only [EV,reduceAdd,reduceSub,reduceLeDiff]) h1]
 simp only [EV,reduceAdd,reduceSub,reduceLeDiff];rw [uL (ws:=[.fz m]) (ys:=[.fz m]) (by simp only [EV,reduceAdd,reduceSub,reduceLeDiff]) (by simp only [EV,reduceAdd,reduceSub,reduceLeDiff]) h2]
 simp only [EV,reduceAdd,reduceSub,reduceLeDiff,h2];rw [uK (ws:=[.fz n]) (ys:=[.fz n]) (by simp only [EV,reduceAdd,reduceSub,reduceLeDiff]) (by simp only [EV,reduceAdd,reduceSub,reduceLeDiff]) h ok]
 rfl
theorem M8(h1:zT [.fz k]=.ok w1)(h2:zq [.fz m]=.ok (.ow (.lst td)))(z:jQ [.fz n]=.ok (.ow (.lst tn))):jw [.fz n,.fz k,.fz m,.fz r] =
  fin ((qf (vD vv [(q9 3)]) uB) [some (.fz n),some (.fz k),some (.fz m),some (.fz r),some (.ow (.lst td)),some (.ow (.lst tn)),none,none]):=by
 unfold jw uC;rw [show ∀(b:SF) (a1 a2 a3 a4:En),den 8 b [a1,a2,a3,a4]=fin (b [some a1,some a2,some a3,some a4,none,none,none,none])from fun _ _ _ _ _=>rfl]
 rw [qF,QV (ws:=[.fz k]) (ys:=[.fz k]) (by simp only [EV,reduceAdd,reduceSub,reduceLeDiff]) (by simp only [EV,reduceAdd,reduceSub,reduceLeDiff]) h1,qJ]
 rw [qF,uL (ws:=[.fz m]) (ys:=[.fz m]) (by simp only [EV,reduceAdd,reduceSub,reduceLeDiff]) (by simp only [EV,reduceAdd,reduceSub,reduceLeDiff]) h2]
 rw [show(qi 4 (qj zq [(q9 2)])) [some (.fz n),some (.fz k),some (.fz m),some (.fz r),none,none,none,none]=.nx [some (.fz n),some (.fz k),some (.fz m),some (.fz r),some (.ow (.lst td)),none,none,none]by simp only [EV,reduceAdd,reduceSub,reduceLeDiff,h2],qJ]
 rw [qF,uL (ws:=[.fz n]) (ys:=[.fz n]) (by simp only [EV,reduceAdd,reduceSub,reduceLeDiff]) (by simp only [EV,reduceAdd,reduceSub,reduceLeDiff]) z]
 rw [show(qi 5 (qj jQ [(q9 0)])) [some (.fz n),some (.fz k),some (.fz m),some (.fz r),some (.ow (.lst td)),none,none,none]=.nx [some (.fz n),some (.fz k),some (.fz m),some (.fz r),some (.ow (.lst td)),some (.ow (.lst tn)),none,none]by simp only [EV,reduceAdd,reduceSub,reduceLeDiff,z],qJ]
theorem qf5(h1:zT [.fz k]=.ok w1)(h2:zq [.fz m]=.ok (.ow (.lst td)))(z:jQ [.fz n]=.ok (.ow (.lst tn)))(h:vv [.fz r]=.exc x)(ok:nrm x=x):jw [.fz n,.fz k,.fz m,.fz r]=.exc x:=by
 rw [M8 h1 h2 z,qF,QP (ws:=[.fz r]) (ys:=[.fz r]) (by simp only [EV,reduceAdd,reduceSub,reduceLeDiff]) (by simp only [EV,reduceAdd,reduceSub,reduceLeDiff]) h,ok]
 rfl
theorem M9(h1:zT [.fz k]=.ok w1)(h2:zq [.fz m]=.ok (.ow (.lst td)))(z:jQ [.fz n]=.ok (.ow (.lst tn)))(B:vv [.fz r]=.ok w4):jw [.fz n,.fz k,.fz m,.fz r] =
  fin (uB [some (.fz n),some (.fz k),some (.fz m),some (.fz r),some (.ow (.lst td)),some (.ow (.lst tn)),none,none]):=by
 rw [M8 h1 h2 z,qF,QV (ws:=[.fz r]) (ys:=[.fz r]) (by simp only [EV,reduceAdd,reduceSub,reduceLeDiff]) (by simp only [EV,reduceAdd,reduceSub,reduceLeDiff]) B,qJ]
theorem qf6(h1:zT [.fz k]=.ok w1)(h2:zq [.fz m]=.ok (.ow (.lst td)))(z:jQ [.fz n]=.ok (.ow (.lst tn)))(B:vv [.fz r]=.ok w4)(h:vG [.br (.lst tn),.br (.lst td)]=.exc x)(ok:nrm x=x):jw [.fz n,.fz k,.fz m,.fz r]=.exc x:=by
 rw [M9 h1 h2 z B];unfold uB;rw [qF,uK (ws:=[.br (.lst tn),.br (.lst td)]) (ys:=[.br (.lst tn),.br (.lst td)]) (by simp only [EV,reduceAdd,reduceSub,reduceLeDiff]) (by simp only [EV,reduceAdd,reduceSub,reduceLeDiff]) h ok]
 rfl
theorem qf7{b:D}{z:Int}{B:En}(h1:zT [.fz k]=.ok w1)(h2:zq [.fz m]=.ok (.ow (.lst td)))(U:jQ [.fz n]=.ok (.ow (.lst tn)))(W:vv [.fz r]=.ok w4)(O:vG [.br (.lst tn),.br (.lst td)]=.ok (.ow (.lst bs)))
  (Y:yQ [.fz (.lst bs),.fz k]=.ok (.ow (.lst [b])))(Z:vU [.fz b]=.ok (.fz (.int z)))(h8:wE [.br (.lst [b])]=.ok B)(h:x9 [.br (.lst [.int z]),.fz r]=.exc x)(ok:nrm x=x):jw [.fz n,.fz k,.fz m,.fz r]=.exc x:=by
 rw [M9 h1 h2 U W];unfold uB;rw [qF,uL (ws:=[.br (.lst tn),.br (.lst td)]) (ys:=[.br (.lst tn),.br (.lst td)]) (by simp only [EV,reduceAdd,reduceSub,reduceLeDiff]) (by simp only [EV,reduceAdd,reduceSub,reduceLeDiff]) O]
 rw [show(qi 6 (qj yQ [(qj vG [(q9 5),(q9 4)]),(q9 1)])) [some (.fz n),some (.fz k),some (.fz m),some (.fz r),some (.ow (.lst td)),some (.ow (.lst tn)),none,none]=.nx [some (.fz n),some (.fz k),some (.fz m),some (.fz r),some (.ow (.lst td)),some (.ow (.lst tn)),some (.ow (.lst [b])),none]by simp only [EV,reduceAdd,reduceSub,reduceLeDiff,O,Y],qJ]
 have hc:qT 1 (iVc 6) (gV 8) je (qj vU [(q9 8)]) [some (.fz n),some (.fz k),some (.fz m),some (.fz r),some (.ow (.lst td)),some (.ow (.lst tn)),some (.ow (.lst [b])),none]=.ok (.ow (.lst [.int z])):=by
  refine yB (ds:=[b]) rfl (c7 rfl) (yA 8 (fun _=>.int z) _ _ fun d hd=>?_)
  rw [pR]at hd;subst hd;refine⟨.fz (.int z),?_,rfl⟩;show(qj vU [(q9 8)]) [_,_,_,_,_,_,_,_,some (.fz d)]=_;simp only [EV,reduceAdd,reduceSub,reduceLeDiff,Z]
 rw [qF,show(qi 7 (qT 1 (iVc 6) (gV 8) je (qj vU [(q9 8)]))) [some (.fz n),some (.fz k),some (.fz m),some (.fz r),some (.ow (.lst td)),some (.ow (.lst tn)),some (.ow (.lst [b])),none]=.nx [some (.fz n),some (.fz k),some (.fz m),some (.fz r),some (.ow (.lst td)),some (.ow (.lst tn)),some (.ow (.lst [b])),some (.ow (.lst [.int z]))]by
  show sOf ((qT 1 (iVc 6) (gV 8) je (qj vU [(q9 8)]) _).b _) _=_;rw [hc];rfl,qJ]
 unfold sXA;rw [W0 (ws:=[.br (.lst [.int z]),.fz r]) (ys:=[.br (.lst [.int z]),.fz r]) (by simp only [EV,reduceAdd,reduceSub,reduceLeDiff]) (by simp only [EV,reduceAdd,reduceSub,reduceLeDiff]),h]
 dsimp only;rw [show evs [(q9 1),(q9 4),(q9 3),(qj wE [(q9 6)])] [some (.fz n),some (.fz k),some (.fz m),some (.fz r),some (.ow (.lst td)),some (.ow (.lst tn)),some (.ow (.lst [b])),some (.ow (.lst [.int z]))]=.ok [.fz k,.br (.lst td),.fz r,B]by simp only [EV,reduceAdd,reduceSub,reduceLeDiff,h8]]
 dsimp only;rw [ok];rfl
end
theorem qf8{n k m r:D}{x:Xc}(h:jw [.fz n,.fz k,.fz m,.fz r]=.exc x)(ok:nrm x=x)(z:(["BadKey","BadMeter","BadNotes","BadRoom","TooThick","TooWide"]:List Str).contains x.cls=true):uD [.fz n,.fz k,.fz m,.fz r]=.ok (.fz (.bl true)):=by
 unfold uD UJ;simp only [EV,reduceAdd,reduceSub,reduceLeDiff];rw [qes (x:=x) (w:=.fz (.bl true)) (by rw [QP (ws:=[.fz n,.fz k,.fz m,.fz r]) (ys:=[.fz n,.fz k,.fz m,.fz r]) (by simp only [EV,reduceAdd,reduceSub,reduceLeDiff]) (by simp only [EV,reduceAdd,reduceSub,reduceLeDiff]) h,ok]) z rfl]
 rfl
theorem qf9(k:Int)(h0:-7<=k)(h1:k<=7):zT [.fz (.int k)]=.ok (.fz (.int k)):=by
 have w:=uH (.int k) (-7) 7 rfl;rw [show jX (-7) 7 (.int k)=true by simp [jX,h0,h1]]at w
 unfold zT Uu;simp only [EV,reduceAdd,reduceSub,reduceLeDiff,QA,QB,w]
theorem qfa:zT [.fz (.int 8)]=.exc ⟨"BadKey",[]⟩:=by kernel_rfl
theorem qfb:vv [.fz (.int 6)]=.ok (.fz (.int 6)):=by kernel_rfl
theorem qfc:vv [.fz (.int 0)]=.exc ⟨"BadRoom",[]⟩:=by kernel_rfl
theorem qfd(r:Int)(h0:1<=r)(h1:r<=5000):vv [.fz (.int r)]=.ok (.fz (.int r)):=by
 have w:=uH (.int r) 1 5000 rfl;rw [show jX 1 5000 (.int r)=true by simp [jX,h0,h1]]at w
 unfold vv Uv;simp only [EV,reduceAdd,reduceSub,reduceLeDiff,QC,QD,w]
theorem qfe:zq [.fz (.lst [])]=.exc ⟨"BadMeter",[("at",.non)]⟩:=by kernel_rfl
def keysP:List Int:=[112,96,64,56,48,32,28,24,16,14,12,8,7,6,4,3,2,1]
def vH:List Int->Int->List Int
 | [],_=>[]
 | v::vs,l=>List.replicate (l/v).toNat v++vH vs (l%v)
def jE(n:Int):List Int:=vH keysP n
theorem Ma(B v:Int)(O:0<v):∀(q z:Nat) (row:List Int) (left:Int),0<=left->left/v=q->q<z->row.length+q<=1000 ->
  vK (tE (eOp dLe (q9 3) (q9 2))) (qf (jA 1 (q9 3)) (zB 2 jc (q9 3))) z [some (.fz (.int B)),some (.ow (.lst (row.map D.int))),some (.fz (.int left)),some (.fz (.int v))] =
   .nx [some (.fz (.int B)),some (.ow (.lst ((row++List.replicate q v).map D.int))),some (.fz (.int (left%v))),some (.fz (.int v))]
 | 0,z+1,row,left,h0,hq,hf,hl=>by
  have lt:left<v:=by
   have:=de left v;have:=dM left O;rw [hq]at *;simp at *;omega
  have d:decide (v<=left)=false:=by simp;omega
  unfold vK;simp only [EV,reduceAdd,reduceSub,reduceLeDiff,d,hX,fP];rw [Int.emod_eq_of_lt h0 lt];simp
 | q+1,z+1,row,left,h0,hq,hf,hl=>by
  have hz:sz=16777216:=rfl;have ge:v<=left:=by
   by_cases g:v<=left
   ·exact g
   ·have:=Int.ediv_eq_zero_of_lt h0 (by omega:left<v)
    omega
  have d:decide (v<=left)=true:=by simpa using ge
  have e1:(left-v)/v=(q:Int):=by
   have:=Int.add_mul_ediv_right left (-1) (show v≠0 by omega)
   rw [show left+-1*v=left-v by omega]at this
   omega
  have e2:(left-v)%v=left%v:=by
   have:=Int.add_mul_emod_self_right left (-1) v;rw [show left+-1*v=left-v by omega]at this
   exact this
  have ih:=Ma B v O q z (row++[v]) (left-v) (by omega) e1 (by omega) (by simp;omega)
  unfold vK;simp only [EV,reduceAdd,reduceSub,reduceLeDiff,d];rw [kB (xs:=row.map D.int) (d:=.int v) rfl (by rw [gy,hz];omega) rfl]
  simp only [EV,reduceAdd,reduceSub,reduceLeDiff];rw [fW]at ih;rw [show List.map D.int [v]=[D.int v]from rfl]at ih
  rw [ih,e2];simp [tD]
theorem Mb:∀(vs:List Int) (l:Int),0<=l->(∀ v∈vs,0<v)->((vH vs l).length:Int)<=l
 | [],l,h,_=>by simpa [vH]using h
 | v::vs,l,h,hv=>by
  have v0:=hv v (by simp)
  have ih:=Mb vs (l%v) (dE _ (by omega)) fun x hx=>hv x (by simp [hx])
  have e:=de l v;have q0:0<=l/v:=Int.ediv_nonneg h (by omega)
  have:l/v<=v*(l/v):=by
   have:=tj (show(1:Int)<=v by omega) q0
   omega
  simp [vH];omega
theorem Mc(B:Int):∀(vs:List Int) (row:List Int) (left:Int) (j3:Option En),(∀ v∈vs,0<v)->0<=left->left<=512->(row.length:Int)+left<=512 ->
  ∃ l' z,qR (gV 3) (uS 520 (tE (eOp dLe (q9 3) (q9 2))) (qf (jA 1 (q9 3)) (zB 2 jc (q9 3)))) (vs.map D.int) [some (.fz (.int B)),some (.ow (.lst (row.map D.int))),some (.fz (.int left)),j3] =
   .nx [some (.fz (.int B)),some (.ow (.lst ((row++vH vs left).map D.int))),some (.fz (.int l')),z]
 | [],row,left,j3,_,_,_,_=>⟨left,j3,by simp [qR,vH]⟩
 | v::vs,row,left,j3,hv,h0,h1,hl=>by
  have v0:=hv v (by simp)
  have q0:0<=left/v:=Int.ediv_nonneg h0 (by omega)
  have e:=de left v;have m0:=dE left (show v≠0 by omega)
  have:left/v<=v*(left/v):=by
   have:=tj (show(1:Int)<=v by omega) q0
   omega
  obtain⟨q,hq⟩:=Int.eq_ofNat_of_zero_le q0;have w:=Ma B v v0 q 520 row left h0 hq (by omega) (by omega)
  obtain⟨l',z,ih⟩:=Mc B vs (row++List.replicate q v) (left%v) (some (.fz (.int v))) (fun x hx=>hv x (by simp [hx])) m0 (by omega) (by simp;omega)
  refine⟨l',z,?_⟩;rw [gN];unfold qR;have tn:(left/v).toNat=q:=by rw [hq];rfl
  simp only [EV,reduceAdd,reduceSub,reduceLeDiff];unfold uS at ih ⊢;rw [w];dsimp only;rw [ih];simp [vH,tn]
theorem qff(n:Int)(h0:0<=n)(h1:n<=512):yb [.fz (.int n)]=.ok (.ow (.lst ((jE n).map D.int))):=by
 obtain⟨l',z,e⟩:=Mc n keysP [] n none (by decide) h0 h1 (by simpa using h1)
 unfold yb U3;simp only [EV,reduceAdd,reduceSub,reduceLeDiff];rw [show JI (eC Qz) [some (En.fz (D.int n)),some (En.ow (D.lst [])),some (En.fz (D.int n)),none]=.ok (keysP.map D.int)from rfl]
 simp only [EV,reduceAdd,reduceSub,reduceLeDiff];rw [tU]at e;rw [e];simp only [EV,reduceAdd,reduceSub,reduceLeDiff,tV];rfl
theorem Md:∀(vs:List Int) (l:Int),(∀ v∈vs,0<v)->∀ x∈vH vs l,0<x
 | [],l,_,x,hx=>by simp [vH]at hx
 | v::vs,l,hv,x,hx=>by
  rw [vH]at hx;rcases tm.mp hx with hx|hx
  ·rw [List.eq_of_mem_replicate hx];exact hv v (by simp)
  ·exact Md vs _ (fun y hy=>hv y (by simp [hy])) x hx
theorem qfg(n:Int):∀ x∈jE n,0<x:=Md keysP n (by decide)
theorem Me(n:Int)(h:0<=n):((jE n).length:Int)<=n:=Mb keysP n h (by decide)
def jg(v:Int):Int->Int->List Int->List (List Int)
 | _,_,[]=>[]
 | p,n,x::r=>[p,v,n]::jg v (p+x) (n+1) r
theorem W1(v:Int):∀(r:List Int) (p n:Int),(jg v p n r).length=r.length
 | [],_,_=>rfl
 | x::r,p,n=>by simp [jg,W1 v r]
theorem uM(v:Int):∀(r:List Int) (p n:Int) (x:List Int),x∈jg v p n r->∃ q m,x=[q,v,m]/\n<=m
 | [],_,_,x,h=>by simp [jg]at h
 | y::r,p,n,x,h=>by
  rcases gl.mp h with z|h
  ·exact⟨p,n,z,fY _⟩
  ·obtain⟨q,m,e,l⟩:=uM v r (p+y) (n+1) x h;exact⟨q,m,e,by omega⟩
theorem Mf(v:Int):∀(r:List Int) (p n:Int),(jg v p n r).Nodup
 | [],_,_=>List.Pairwise.nil
 | y::r,p,n=>by
  refine tf.mpr ⟨fun h=>?_,Mf v r (p+y) (n+1)⟩
  obtain⟨q,m,e,l⟩:=uM v r (p+y) (n+1) _ h;simp at e;omega
abbrev Ev:=D×Int
def EvOk(e:Ev):Prop:=qe e.1 (.int 1)=.ok (.fz (.int e.2))
theorem qfh(W B:Option En)(v:Int):∀(r:List Ev) (z:List (List Int)) (p:Int) (n:Nat) (j5 j6:Option En),(∀ e∈r,EvOk e)->z.length+r.length<=100000->∃(q:Int) (i5 i6:Option En),
  qR (gT [5,6]) (qf (jA 1 (js [(q9 4),(q9 2),(q9 5)])) (zB 4 vi (eOp qe (q9 6) (eC (.int 1))))) (numd n (r.map Prod.fst)) [W,some (.ow (.lst (z.map qD))),some (.fz (.int v)),B,some (.fz (.int p)),j5,j6]
  = .nx [W,some (.ow (.lst ((z++jg v p (n:Int) (r.map Prod.snd)).map qD))),some (.fz (.int v)),B,some (.fz (.int q)),i5,i6]:=by
 have hz:sz=16777216:=rfl;intro r
 induction r with
 | nil=>intro z p n j5 j6 _ _;exact⟨p,j5,j6,by simp [jg,numd,UM]⟩
 | cons e r ih =>
  intro z p n j5 j6 O hl;rw [gU]at hl;have ek:qe e.1 (.int 1)=.ok (.fz (.int e.2)):=O e (by simp)
  obtain⟨q,i5,i6,h⟩:=ih (z++[[p,v,(n:Int)]]) (p+e.2) (n+1) (some (.fz (.int (n:Int)))) (some (.fz e.1)) (fun x hx=>O x (gp _ hx)) (by rw [f8];simp;omega)
  refine⟨q,i5,i6,?_⟩;rw [gN];show qR _ _ (.tup [.int (n:Int),e.1]::numd (n+1) (r.map Prod.fst)) _=_;rw [jW (ρ1:=[W,some (.ow (.lst (z.map qD))),some (.fz (.int v)),B,some (.fz (.int p)),some (.fz (.int (n:Int))),some (.fz e.1)]) rfl];rw [qF,kB (xs:=z.map qD) (d:=qD [p,v,(n:Int)]) rfl (by rw [gy];omega) (by simp only [EV,reduceAdd,reduceSub,reduceLeDiff];rfl)]
  have au:∀ A:D,(zB 4 vi (eOp qe (q9 6) (eC (.int 1)))) [W,some (.ow A),some (.fz (.int v)),B,some (.fz (.int p)),some (.fz (.int (n:Int))),some (.fz e.1)]=.nx [W,some (.ow A),some (.fz (.int v)),B,some (.fz (.int (p+e.2))),some (.fz (.int (n:Int))),some (.fz e.1)]:=fun A=>by
   have ad:vi (.int p) (.int e.2)=.ok (.fz (.int (p+e.2))):=rfl;simp only [EV,reduceAdd,reduceSub,reduceLeDiff,ek,ad,X6,X7]
  rw [qJ];simp only [pS,pT];rw [au,vW];have e2:(z++[[p,v,(n:Int)]])++jg v (p+e.2) ((n+1:Nat):Int) (r.map Prod.snd)=z++jg v p (n:Int) ((e::r).map Prod.snd):=by
   rw [List.append_assoc,gN,jg];simp
  rw [e2]at h;rw [<- h,fW];rfl
theorem qfi{i k:Nat}{z e:EF}{ρ:Rho}{ds xs:List D}{d:D}(h:ρ[i]?=some (some (.od (.lst ds))))(h1:z ρ=.ok (.fz (.int (k:Int))))(h2:e ρ=.ok (.fz d))(B:ds[k]?=some (.lst xs))(O:xs.length<sz) :
  yF i z e ρ=.nx (ρ.set i (some (.od (.lst (ds.set k (.lst (xs++[d]))))))):=by
 unfold yF;rw [h];dsimp only;rw [h1,h2];show yE i ρ ds (.fz (.int (k:Int))) (.fz d)=_;unfold yE;dsimp only;rw [gB (Int.natCast_nonneg k),tQ,B];unfold Qq;dsimp only;rw [gB O]
def qp(v:Int):D:=.tup [.str "rest",.int v]
def vx:D:=.tup [.int 0,.int 4,.int 60]
def jk:D:=.tup [.int 0,.int 4,.tup [.int 60]]
def qo(h:D):D:=.tup [.str "note",.int 4,.tup [h],.bl false]
theorem qfj:∀ n:Fin 513,(jE (n.val:Int)).length<=40:=by decide +kernel
theorem qfk(n:Int)(h0:0<=n)(h1:n<=512):yd [.fz (.int n)]=.ok (.ow (.lst ((jE n).map qp))):=by
 have hz:sz=16777216:=rfl;have pe:=qff n h0 h1;have pl:=Me n h0;have it:jo (qj yb [(q9 0)]) [some (.fz (.int n))]=.ok ((jE n).map D.int):=wp (w:=.ow (.lst ((jE n).map D.int))) (by simp only [EV,reduceAdd,reduceSub,reduceLeDiff,pe]) rfl
 unfold yd Uf;simp only [EV,reduceAdd,reduceSub,reduceLeDiff];rw [yB (ds:=(jE n).map D.int) (ys:=((jE n).map D.int).map fun d=>.tup [.str "rest",d]) it (by rw [gy];omega) (yA 1 _ _ _ fun d hd=>⟨.fz (.tup [.str "rest",d]),rfl,rfl⟩),fG]
 rfl
theorem bar1(L:Int)(h0:8<=L)(h1:L<=512):uz [.fz (.lst [jk]),.fz (.int 0),.fz (.int L)]=.ok (.ow (.lst (qo (.int 60)::(jE (L-4)).map qp))):=by
  have hz:sz=16777216:=rfl;have re:=qfk (L-4) (by omega) (by omega)
  have i0:qe jk (.int 0)=.ok (.fz (.int 0)):=rfl;have mx:y3 [.int 0,.int 0]=.ok (.fz (.int 0)):=by kernel_rfl
  have mn:wb [.int 4,.int L]=.ok (.fz (.int 4)):=by
    show okI (if L<4 then L else 4)=_
    rw [gD (by omega)]
  have lt:dLt (.int 0) (.int 4)=.ok (.fz (.bl true)):=by kernel_rfl
  have s0:jc (.int 0) (.int 0)=.ok (.fz (.int 0)):=by kernel_rfl
  have sL:jc (.int L) (.int 4)=.ok (.fz (.int (L-4))):=rfl;have it:qR (gV 5) (qf (qi 6 (eB y3 [(eOp qe (q9 5) (eC (.int 0))),(q9 1)]))
  (qf (qi 7 (eB wb [(qj jI [(q9 5)]),(q9 2)]))
  (sIf (tE (eOp dLt (q9 6) (q9 7))) (qf (va 3 (qj yd [(eOp jc (q9 6) (q9 4))]))
  (qf (va 3 (qj uu [(q9 5),(q9 6),(q9 7)]))
  (qi 4 (q9 7)))) qr))) [jk] [some (.fz (.lst [jk])),some (.fz (.int 0)),some (.fz (.int L)),some (.ow (.lst [])),some (.fz (.int 0)),none,none,none]
     = .nx [some (.fz (.lst [jk])),some (.fz (.int 0)),some (.fz (.int L)),some (.ow (.lst [qo (.int 60)])),some (.fz (.int 4)),some (.fz jk),some (.fz (.int 0)),some (.fz (.int 4))]:=by
    rw [jW (ρ1:=[some (.fz (.lst [jk])),some (.fz (.int 0)),some (.fz (.int L)),some (.ow (.lst [])),some (.fz (.int 0)),some (.fz jk),none,none]) rfl];have b:(qf (qi 6 (eB y3 [(eOp qe (q9 5) (eC (.int 0))),(q9 1)]))
  (qf (qi 7 (eB wb [(qj jI [(q9 5)]),(q9 2)]))
  (sIf (tE (eOp dLt (q9 6) (q9 7))) (qf (va 3 (qj yd [(eOp jc (q9 6) (q9 4))]))
  (qf (va 3 (qj uu [(q9 5),(q9 6),(q9 7)]))
  (qi 4 (q9 7)))) qr))) [some (.fz (.lst [jk])),some (.fz (.int 0)),some (.fz (.int L)),some (.ow (.lst [])),some (.fz (.int 0)),some (.fz jk),none,none]
     = .nx [some (.fz (.lst [jk])),some (.fz (.int 0)),some (.fz (.int L)),some (.ow (.lst [qo (.int 60)])),some (.fz (.int 4)),some (.fz jk),some (.fz (.int 0)),some (.fz (.int 4))]:=by
      rw [qF,show(qi 6 (eB y3 [(eOp qe (q9 5) (eC (.int 0))),(q9 1)])) [some (.fz (.lst [jk])),some (.fz (.int 0)),some (.fz (.int L)),some (.ow (.lst [])),some (.fz (.int 0)),some (.fz jk),none,none]=.nx [some (.fz (.lst [jk])),some (.fz (.int 0)),some (.fz (.int L)),some (.ow (.lst [])),some (.fz (.int 0)),some (.fz jk),some (.fz (.int 0)),none]from rfl,qJ]
      rw [qF,show(qi 7 (eB wb [(qj jI [(q9 5)]),(q9 2)])) [some (.fz (.lst [jk])),some (.fz (.int 0)),some (.fz (.int L)),some (.ow (.lst [])),some (.fz (.int 0)),some (.fz jk),some (.fz (.int 0)),none]=.nx [some (.fz (.lst [jk])),some (.fz (.int 0)),some (.fz (.int L)),some (.ow (.lst [])),some (.fz (.int 0)),some (.fz jk),some (.fz (.int 0)),some (.fz (.int 4))]by
        show sOf ((wb [.int 4,.int L]).b En.nmo) _=_;rw [mn];rfl,qJ]
      clear mn re;kernel_rfl
    rw [b];rfl
  unfold uz Ut;simp only [EV,reduceAdd,reduceSub,reduceLeDiff];rw [kA (ds:=[jk]) rfl];simp only [EV,reduceAdd,reduceSub,reduceLeDiff];rw [it];have pl:=Me (L-4) (by omega)
  rw [qJ,qF,X8 (xs:=[qo (.int 60)]) (ys:=(jE (L-4)).map qp) rfl (by simp only [EV,reduceAdd,reduceSub,reduceLeDiff,re]) (by rw [gy,hz];simp;omega),qJ]
  rfl
theorem qfl(L:Int)(h0:8<=L)(h1:L<=512):wF [.fz (.lst [jk]),.br (.lst [.int L])]=.ok (.ow (.lst [.lst (qo (.int 60)::(jE (L-4)).map qp)])):=by
 have hz:sz=16777216:=rfl;have be:=bar1 L h0 h1;unfold wF UB;simp only [EV,reduceAdd,reduceSub,reduceLeDiff];rw [xW (ds:=[.int L]) rfl];simp only [EV,reduceAdd,reduceSub,reduceLeDiff];rw [jW (ρ1:=[some (.fz (.lst [jk])),some (.br (.lst [.int L])),some (.ow (.lst [])),some (.fz (.int 0)),some (.fz (.int L))]) rfl];have ad:qA (.int 0) (.int L)=.ok (.fz (.int L)):=by
  show okI (0+L)=_;rw [Int.zero_add]
 rw [qF,kB (xs:=[]) (d:=.lst (qo (.int 60)::(jE (L-4)).map qp)) rfl (by decide) (by simp only [EV,reduceAdd,reduceSub,reduceLeDiff,ad,be]),qJ]
 rfl
theorem Mg{rs:List (List Int)}(h:rs.Pairwise fun a b=>v8 a b=true):wo rs=rs:=List.mergeSort_of_pairwise h
theorem Mh(v:Int):∀(r:List Int) (p n:Int) (x:List Int),(∀ y∈r,1<=y)->x∈jg v p n r->∃ q m,x=[q,v,m]/\p<=q
 | [],_,_,x,_,h=>by simp [jg]at h
 | y::r,p,n,x,hy,h=>by
  rcases gl.mp h with z|h
  ·exact⟨p,n,z,fY _⟩
  ·obtain⟨q,m,e,l⟩:=Mh v r (p+y) (n+1) x (fun z hz=>hy z (gp _ hz)) h
   have:=hy y (by simp)
   exact⟨q,m,e,by omega⟩
theorem Mi(v:Int):∀(r:List Int) (p n:Int),(∀ y∈r,1<=y)->(jg v p n r).Pairwise fun a b=>v8 a b=true
 | [],_,_,_=>List.Pairwise.nil
 | y::r,p,n,hy=>by
  refine List.Pairwise.cons (fun x hx=>?_) (Mi v r (p+y) (n+1) fun z hz=>hy z (gp _ hz))
  obtain⟨q,m,e,l⟩:=Mh v r (p+y) (n+1) x (fun z hz=>hy z (gp _ hz)) hx
  have:=hy y (by simp)
  subst e;unfold v8;rw [HT.lexLt_cons,gD (by omega)]
  simp;omega
theorem Mj(es:List Ev)(B:∀ e∈es,EvOk e)(hp:∀ e∈es,1<=e.2)(O:es.length<=60):vT [.fz (.lst [.lst (es.map Prod.fst)])]=.ok (.ow (.lst ((jg 0 0 0 (es.map Prod.snd)).map qD))):=by
 obtain⟨q,i5,i6,h⟩:=qfh (some (.fz (.lst [.lst (es.map Prod.fst)]))) (some (.fz (.lst (es.map Prod.fst)))) 0 es [] 0 0 none none B (by simp;omega)
 have so:=JZ (rs:=jg 0 0 0 (es.map Prod.snd)) (Mf 0 _ 0 0) (by rw [W1,gy];omega) (fun z=>by
  obtain⟨_,_,e,_⟩:=uM 0 _ _ _ _ z;cases e)
 rw [Mg (Mi 0 _ 0 0 fun y hy=>by obtain⟨e,he,rfl⟩:=tR.mp hy;exact hp e he)]at so
 have h:qR (gT [5,6]) (qf (jA 1 (js [(q9 4),(q9 2),(q9 5)])) (zB 4 vi (eOp qe (q9 6) (eC (.int 1))))) (numd 0 (es.map Prod.fst)) [some (.fz (.lst [.lst (es.map Prod.fst)])),some (.ow (.lst [])),some (.fz (.int 0)),some (.fz (.lst (es.map Prod.fst))),some (.fz (.int 0)),none,none]
  = .nx [some (.fz (.lst [.lst (es.map Prod.fst)])),some (.ow (.lst ((jg 0 0 0 (es.map Prod.snd)).map qD))),some (.fz (.int 0)),some (.fz (.lst (es.map Prod.fst))),some (.fz (.int q)),i5,i6]:=h
 unfold vT U4;simp only [EV,reduceAdd,reduceSub,reduceLeDiff];rw [QS (ds:=[.lst (es.map Prod.fst)]) rfl];simp only [EV,reduceAdd,reduceSub,reduceLeDiff];show fin ((qR (gT [2,3]) _ (.tup [.int ((0:Nat):Int),.lst (es.map Prod.fst)]::numd 1 []) _).th _)=_;rw [jW (ρ1:=[some (.fz (.lst [.lst (es.map Prod.fst)])),some (.ow (.lst [])),some (.fz (.int 0)),some (.fz (.lst (es.map Prod.fst))),none,none,none]) rfl];rw [qF,show(qi 4 (eC (.int 0))) [some (.fz (.lst [.lst (es.map Prod.fst)])),some (.ow (.lst [])),some (.fz (.int 0)),some (.fz (.lst (es.map Prod.fst))),none,none,none]=.nx [some (.fz (.lst [.lst (es.map Prod.fst)])),some (.ow (.lst [])),some (.fz (.int 0)),some (.fz (.lst (es.map Prod.fst))),some (.fz (.int 0)),none,none]from rfl,qJ,yD]
 rw [show vm 3 [some (.fz (.lst [.lst (es.map Prod.fst)])),some (.ow (.lst [])),some (.fz (.int 0)),some (.fz (.lst (es.map Prod.fst))),some (.fz (.int 0)),none,none]=.ok (numd 0 (es.map Prod.fst))from rfl,wn,h,vW]
 show fin ((Out.nx _).th _)=_;simp only [EV,reduceAdd,reduceSub,reduceLeDiff,so]
abbrev Kd:=List (List (Sum Int Str)×D)
abbrev ioH:IOF:=eIOV 2 "heads_of" wG 6 [(eOp qe (q9 10) (eC (.int 2))),(q9 11)] [(q9 1)]
abbrev yX:SF:=(qf (qi 9 (eOp qe (q9 8) (eC (.int 1))))
 (qf (qi 10 (eOp qe (eOp qe (q9 5) (q9 9)) (eOp qe (q9 8) (eC (.int 2)))))
 (qf (sIf (tE (eOp dEq (eOp qe (q9 10) (eC (.int 0))) (eC (.str "note")))) (qf (qi 11 (qj ur [(Qw (q9 4) (q9 9))]))
 (sIO 10 (eIOT (zd (eC (.str "note")) (zd (eOp qe (q9 10) (eC (.int 1))) (xIO ioH (zd (eOp qe (q9 10) (eC (.int 3))) kK))))))) qr)
 (qf (yF 7 (q9 9) (q9 10))
 (wZ 4 (q9 9) (q9 10))))))
abbrev fnH:D:=dFn "heads_of"
theorem qfm{dn:Den}{i:Nat}{pre post:List EF}{ρ:Rho}{d d' g:D}{ws ws2 ys ys2:List En}(h:ρ[i]?=some (some (.ow d)))(z:evs pre ρ=.ok ws)(B:qU ws=.ok ys)(O:evs post ρ=.ok ws2)(U:qU ws2=.ok ys2)(f:(zS ys&&zS ys2)=true)(W:wt dn ys d ys2=.ok (d',g)) :
  eIO dn i pre post ρ=.ok (g,ρ.set i (some (.ow d'))):=by
 unfold eIO;rw [h];dsimp only;rw [z,R.bind_ok,B,R.bind_ok,O,R.bind_ok,U,R.bind_ok,gB f,W,R.bind_ok]
theorem qfn{j:Nat}{z:Str}{B:Den}{i:Nat}{pre post:List EF}{ρ:Rho}{r:R (D×Rho)}(h:fnOf ρ[j]?=some z)(e:eIO B i pre post ρ=r):eIOV j z B i pre post ρ=r:=by
 unfold eIOV;rw [h];dsimp only;rw [gB rfl];exact e
theorem qfo(K:Int)(Y B Z j9 W U:Option En)(O z:List D)(e:D)(p v:Int)(n:Nat)(hx:O[n]?=some (qp v))(hl:z.length<1000) :
  yX [Y,some (.fz (.int K)),some (.fz fnH),B,some (.ow (.dK [(Sum.inl 0,e)])),some (.fz (.lst [.lst O])),Z,some (.od (.lst [.lst z])),some (.fz (qD [p,0,(n:Int)])),j9,W,U]
  = .nx [Y,some (.fz (.int K)),some (.fz fnH),B,some (.ow (.dK [(Sum.inl 0,qp v)])),some (.fz (.lst [.lst O])),Z,some (.od (.lst [.lst (z++[qp v])])),some (.fz (qD [p,0,(n:Int)])),some (.fz (.int 0)),some (.fz (qp v)),U]:=by
 have hz:sz=16777216:=rfl;have b2:qe (.lst O) (.int (n:Int))=.ok (.fz (qp v)):=by
  show okD (ati O (n:Int))=_;rw [v7,hx];rfl
 unfold yX;rw [qF,show(qi 9 (eOp qe (q9 8) (eC (.int 1)))) [Y,some (.fz (.int K)),some (.fz fnH),B,some (.ow (.dK [(Sum.inl 0,e)])),some (.fz (.lst [.lst O])),Z,some (.od (.lst [.lst z])),some (.fz (qD [p,0,(n:Int)])),j9,W,U]=.nx [Y,some (.fz (.int K)),some (.fz fnH),B,some (.ow (.dK [(Sum.inl 0,e)])),some (.fz (.lst [.lst O])),Z,some (.od (.lst [.lst z])),some (.fz (qD [p,0,(n:Int)])),some (.fz (.int 0)),W,U]from rfl,qJ]
 rw [qF,show(qi 10 (eOp qe (eOp qe (q9 5) (q9 9)) (eOp qe (q9 8) (eC (.int 2))))) [Y,some (.fz (.int K)),some (.fz fnH),B,some (.ow (.dK [(Sum.inl 0,e)])),some (.fz (.lst [.lst O])),Z,some (.od (.lst [.lst z])),some (.fz (qD [p,0,(n:Int)])),some (.fz (.int 0)),W,U]=.nx [Y,some (.fz (.int K)),some (.fz fnH),B,some (.ow (.dK [(Sum.inl 0,e)])),some (.fz (.lst [.lst O])),Z,some (.od (.lst [.lst z])),some (.fz (qD [p,0,(n:Int)])),some (.fz (.int 0)),some (.fz (qp v)),U]by
  show sOf ((qe (.lst O) (.int (n:Int))).b En.nmo) _=_;rw [b2];rfl,qJ]
 rw [qF,show ∀ f g:SF,(sIf (tE (eOp dEq (eOp qe (q9 10) (eC (.int 0))) (eC (.str "note")))) f g) [Y,some (.fz (.int K)),some (.fz fnH),B,some (.ow (.dK [(Sum.inl 0,e)])),some (.fz (.lst [.lst O])),Z,some (.od (.lst [.lst z])),some (.fz (qD [p,0,(n:Int)])),some (.fz (.int 0)),some (.fz (qp v)),U]=g [Y,some (.fz (.int K)),some (.fz fnH),B,some (.ow (.dK [(Sum.inl 0,e)])),some (.fz (.lst [.lst O])),Z,some (.od (.lst [.lst z])),some (.fz (qD [p,0,(n:Int)])),some (.fz (.int 0)),some (.fz (qp v)),U]from fun f g=>by kernel_rfl,Q9,qJ]
 rw [qF,qfi (k:=0) (ds:=[.lst z]) (xs:=z) (d:=qp v) rfl rfl rfl rfl (by omega),qJ]
 rfl
theorem qfp(K:Int)(R0 O T6:Option En)(W:List D):∀(rs:List Int) (z:List D) (e:D) (p:Int) (n:Nat) (j8 j9 U B:Option En),(∀ i:Nat,i<rs.length->W[n+i]?=(rs.map qp)[i]?)->z.length+rs.length<1000->∃(e':D) (i8 i9 Z:Option En),
  qR (gV 8) yX ((jg 0 p (n:Int) rs).map qD) [R0,some (.fz (.int K)),some (.fz fnH),O,some (.ow (.dK [(Sum.inl 0,e)])),some (.fz (.lst [.lst W])),T6,some (.od (.lst [.lst z])),j8,j9,U,B]
  = .nx [R0,some (.fz (.int K)),some (.fz fnH),O,some (.ow (.dK [(Sum.inl 0,e')])),some (.fz (.lst [.lst W])),T6,some (.od (.lst [.lst (z++rs.map qp)])),i8,i9,Z,B]:=by
 intro rs
 induction rs with
 | nil=>intro z e p n j8 j9 U B _ _;exact⟨e,j8,j9,U,by simp [jg,UM]⟩
 | cons v rs ih =>
  intro z e p n j8 j9 U B Y hl;rw [gU]at hl;have h0:=Y 0 (by simp)
  obtain⟨e',i8,i9,Z,h⟩:=ih (z++[qp v]) (qp v) (p+v) (n+1) (some (.fz (qD [p,0,(n:Int)]))) (some (.fz (.int 0))) (some (.fz (qp v))) B (fun i hi=>by
   have:=Y (i+1) (by simp;omega)
   rw [show n+1+i=n+(i+1)by omega,this]
   simp) (by simp;omega)
  refine⟨e',i8,i9,Z,?_⟩;show qR (gV 8) yX (qD [p,0,(n:Int)]::(jg 0 (p+v) ((n:Int)+1) rs).map qD) _=_;rw [jW (ρ1:=[R0,some (.fz (.int K)),some (.fz fnH),O,some (.ow (.dK [(Sum.inl 0,e)])),some (.fz (.lst [.lst W])),T6,some (.od (.lst [.lst z])),some (.fz (qD [p,0,(n:Int)])),j9,U,B]) rfl];rw [qfo K R0 O T6 j9 U B W z e p v n (by simpa using h0) (by omega),vW]
  rw [show((n:Int)+1)=((n+1:Nat):Int)by omega,h]
  simp
theorem qfq(K:Int)(h:D)(O:Kd)(H:∀ a:Addr,wG [.fz (.tup [.int 60]),.fz .non,ioD a (.dT []),.fz (.int K)]=.ok (.od (.tup [.int (a:Int),.dT O,.tup [h]])))(B z:Option En)(rs:List D) :
  yX [B,some (.fz (.int K)),some (.fz fnH),z,some (.ow (.dK [])),some (.fz (.lst [.lst (qo (.int 60)::rs)])),some (.ow (.dT [])),some (.od (.lst [.lst []])),some (.fz (qD [0,0,0])),none,none,none]
  = .nx [B,some (.fz (.int K)),some (.fz fnH),z,some (.ow (.dK [(Sum.inl 0,qo h)])),some (.fz (.lst [.lst (qo (.int 60)::rs)])),some (.ow (.dT O)),some (.od (.lst [.lst [qo h]])),some (.fz (qD [0,0,0])),some (.fz (.int 0)),some (.fz (qo h)),some (.fz .non)]:=by
 have iv:=qdH (pre:=[.fz (.tup [.int 60]),.fz .non]) (d:=.dT []) (post:=[.fz (.int K)]) (dn:=wG) (d':=.dT O) (g:=.tup [h]) H;unfold yX;rw [qF,show(qi 9 (eOp qe (q9 8) (eC (.int 1)))) [B,some (.fz (.int K)),some (.fz fnH),z,some (.ow (.dK [])),some (.fz (.lst [.lst (qo (.int 60)::rs)])),some (.ow (.dT [])),some (.od (.lst [.lst []])),some (.fz (qD [0,0,0])),none,none,none]=.nx [B,some (.fz (.int K)),some (.fz fnH),z,some (.ow (.dK [])),some (.fz (.lst [.lst (qo (.int 60)::rs)])),some (.ow (.dT [])),some (.od (.lst [.lst []])),some (.fz (qD [0,0,0])),some (.fz (.int 0)),none,none]from rfl,qJ]
 rw [qF,show(qi 10 (eOp qe (eOp qe (q9 5) (q9 9)) (eOp qe (q9 8) (eC (.int 2))))) [B,some (.fz (.int K)),some (.fz fnH),z,some (.ow (.dK [])),some (.fz (.lst [.lst (qo (.int 60)::rs)])),some (.ow (.dT [])),some (.od (.lst [.lst []])),some (.fz (qD [0,0,0])),some (.fz (.int 0)),none,none]=.nx [B,some (.fz (.int K)),some (.fz fnH),z,some (.ow (.dK [])),some (.fz (.lst [.lst (qo (.int 60)::rs)])),some (.ow (.dT [])),some (.od (.lst [.lst []])),some (.fz (qD [0,0,0])),some (.fz (.int 0)),some (.fz (qo (.int 60))),none]by
  show sOf ((qe (.lst (qo (.int 60)::rs)) (.int ((0:Nat):Int))).b En.nmo) _=_;rw [show qe (.lst (qo (.int 60)::rs)) (.int ((0:Nat):Int))=okD (ati (qo (.int 60)::rs) ((0:Nat):Int))from rfl,v7]
  rfl,qJ]
 rw [qF,show ∀ f g:SF,(sIf (tE (eOp dEq (eOp qe (q9 10) (eC (.int 0))) (eC (.str "note")))) f g) [B,some (.fz (.int K)),some (.fz fnH),z,some (.ow (.dK [])),some (.fz (.lst [.lst (qo (.int 60)::rs)])),some (.ow (.dT [])),some (.od (.lst [.lst []])),some (.fz (qD [0,0,0])),some (.fz (.int 0)),some (.fz (qo (.int 60))),none]=f [B,some (.fz (.int K)),some (.fz fnH),z,some (.ow (.dK [])),some (.fz (.lst [.lst (qo (.int 60)::rs)])),some (.ow (.dT [])),some (.od (.lst [.lst []])),some (.fz (qD [0,0,0])),some (.fz (.int 0)),some (.fz (qo (.int 60))),none]from fun f g=>by kernel_rfl]
 rw [qF,show(qi 11 (qj ur [(Qw (q9 4) (q9 9))])) [B,some (.fz (.int K)),some (.fz fnH),z,some (.ow (.dK [])),some (.fz (.lst [.lst (qo (.int 60)::rs)])),some (.ow (.dT [])),some (.od (.lst [.lst []])),some (.fz (qD [0,0,0])),some (.fz (.int 0)),some (.fz (qo (.int 60))),none]=.nx [B,some (.fz (.int K)),some (.fz fnH),z,some (.ow (.dK [])),some (.fz (.lst [.lst (qo (.int 60)::rs)])),some (.ow (.dT [])),some (.od (.lst [.lst []])),some (.fz (qD [0,0,0])),some (.fz (.int 0)),some (.fz (qo (.int 60))),some (.fz .non)]by kernel_rfl,qJ]
 have io:ioH [B,some (.fz (.int K)),some (.fz fnH),z,some (.ow (.dK [])),some (.fz (.lst [.lst (qo (.int 60)::rs)])),some (.ow (.dT [])),some (.od (.lst [.lst []])),some (.fz (qD [0,0,0])),some (.fz (.int 0)),some (.fz (qo (.int 60))),some (.fz .non)]=.ok (.tup [h],[B,some (.fz (.int K)),some (.fz fnH),z,some (.ow (.dK [])),some (.fz (.lst [.lst (qo (.int 60)::rs)])),some (.ow (.dT O)),some (.od (.lst [.lst []])),some (.fz (qD [0,0,0])),some (.fz (.int 0)),some (.fz (qo (.int 60))),some (.fz .non)]) :=
  qfn rfl (qfm (d:=.dT []) (ws:=[.fz (.tup [.int 60]),.fz .non]) (ys:=[.fz (.tup [.int 60]),.fz .non]) (ws2:=[.fz (.int K)]) (ys2:=[.fz (.int K)]) rfl (by kernel_rfl) (by kernel_rfl) rfl rfl rfl iv)
 have xe:(eIOT (zd (eC (.str "note")) (zd (eOp qe (q9 10) (eC (.int 1))) (xIO ioH (zd (eOp qe (q9 10) (eC (.int 3))) kK))))) [B,some (.fz (.int K)),some (.fz fnH),z,some (.ow (.dK [])),some (.fz (.lst [.lst (qo (.int 60)::rs)])),some (.ow (.dT [])),some (.od (.lst [.lst []])),some (.fz (qD [0,0,0])),some (.fz (.int 0)),some (.fz (qo (.int 60))),some (.fz .non)]
   = .ok (qo h,[B,some (.fz (.int K)),some (.fz fnH),z,some (.ow (.dK [])),some (.fz (.lst [.lst (qo (.int 60)::rs)])),some (.ow (.dT O)),some (.od (.lst [.lst []])),some (.fz (qD [0,0,0])),some (.fz (.int 0)),some (.fz (qo (.int 60))),some (.fz .non)]):=by
  unfold eIOT zd xIO;rw [show(eC (.str "note")) [B,some (.fz (.int K)),some (.fz fnH),z,some (.ow (.dK [])),some (.fz (.lst [.lst (qo (.int 60)::rs)])),some (.ow (.dT [])),some (.od (.lst [.lst []])),some (.fz (qD [0,0,0])),some (.fz (.int 0)),some (.fz (qo (.int 60))),some (.fz .non)]=.ok (.fz (.str "note"))from rfl]
  rw [show(eOp qe (q9 10) (eC (.int 1))) [B,some (.fz (.int K)),some (.fz fnH),z,some (.ow (.dK [])),some (.fz (.lst [.lst (qo (.int 60)::rs)])),some (.ow (.dT [])),some (.od (.lst [.lst []])),some (.fz (qD [0,0,0])),some (.fz (.int 0)),some (.fz (qo (.int 60))),some (.fz .non)]=.ok (.fz (.int 4))from rfl,io]
  rfl
 rw [show ∀ ρ,(sIO 10 (eIOT (zd (eC (.str "note")) (zd (eOp qe (q9 10) (eC (.int 1))) (xIO ioH (zd (eOp qe (q9 10) (eC (.int 3))) kK)))))) ρ=sOf ((eIOT (zd (eC (.str "note")) (zd (eOp qe (q9 10) (eC (.int 1))) (xIO ioH (zd (eOp qe (q9 10) (eC (.int 3))) kK))))) ρ) (fun p=>.nx (p.2.set 10 (some (.fz p.1))))from fun _=>rfl,xe]
 rfl
theorem qfr(K:Int)(h:D)(z:Kd)(H:∀ a:Addr,wG [.fz (.tup [.int 60]),.fz .non,ioD a (.dT []),.fz (.int K)]=.ok (.od (.tup [.int (a:Int),.dT z,.tup [h]])))(rs:List Int)(hp:∀ y∈rs,1<=y)(O:rs.length<=40) :
  yQ [.fz (.lst [.lst [.lst (qo (.int 60)::rs.map qp)]]),.fz (.int K)]=.ok (.ow (.lst [.lst [.lst (qo h::rs.map qp)]])):=by
 have io:=Mj ((qo (.int 60),4)::rs.map fun v=>(qp v,v)) (fun e he=>by
  rcases gl.mp he with rfl|he
  ·rfl
  ·obtain⟨v,_,rfl⟩:=tR.mp he;rfl) (fun e he=>by
  rcases gl.mp he with rfl|he
  ·decide
  ·obtain⟨v,hv,rfl⟩:=tR.mp he;exact hp v hv) (by rw [gU,gy];omega)
 rw [gN,gN,fG,fG,show((Prod.fst:D×Int->D)∘fun v:Int=>(qp v,v))=qp from rfl,show((Prod.snd:D×Int->Int)∘fun v:Int=>(qp v,v))=id from rfl,List.map_id]at io
 obtain⟨e',i8,i9,B,rr⟩:=qfp K (some (.fz (.lst [.lst [.lst (qo (.int 60)::rs.map qp)]]))) (some (.ow (.lst []))) (some (.ow (.dT z))) (qo (.int 60)::rs.map qp) rs [qo h] (qo h) 4 1 (some (.fz (qD [0,0,0]))) (some (.fz (.int 0))) (some (.fz (qo h))) (some (.fz .non)) (fun i hi=>by
  rw [show 1+i=i+1 by omega,pH]) (by simp;omega)
 have tu:uA [.fz (.lst [.lst [.lst (qo (.int 60)::rs.map qp)]]),.fz (.int K),.fz fnH]=.ok (.ow (.lst [.lst [.lst (qo h::rs.map qp)]])):=by
  unfold uA UE;simp only [EV,reduceAdd,reduceSub,reduceLeDiff];rw [kA (ds:=[.lst [.lst (qo (.int 60)::rs.map qp)]]) rfl];simp only [EV,reduceAdd,reduceSub,reduceLeDiff];rw [jW (ρ1:=[some (.fz (.lst [.lst [.lst (qo (.int 60)::rs.map qp)]])),some (.fz (.int K)),some (.fz fnH),some (.ow (.lst [])),some (.ow (.dK [])),some (.fz (.lst [.lst (qo (.int 60)::rs.map qp)])),none,none,none,none,none,none]) rfl];rw [qF,show(qi 6 eDT) [some (.fz (.lst [.lst [.lst (qo (.int 60)::rs.map qp)]])),some (.fz (.int K)),some (.fz fnH),some (.ow (.lst [])),some (.ow (.dK [])),some (.fz (.lst [.lst (qo (.int 60)::rs.map qp)])),none,none,none,none,none,none]=.nx [some (.fz (.lst [.lst [.lst (qo (.int 60)::rs.map qp)]])),some (.fz (.int K)),some (.fz fnH),some (.ow (.lst [])),some (.ow (.dK [])),some (.fz (.lst [.lst (qo (.int 60)::rs.map qp)])),some (.ow (.dT [])),none,none,none,none,none]from rfl,qJ]
  rw [qF,show(Zj 7 (XM 1 (iVc 5) (gV 12) (qK []))) [some (.fz (.lst [.lst [.lst (qo (.int 60)::rs.map qp)]])),some (.fz (.int K)),some (.fz fnH),some (.ow (.lst [])),some (.ow (.dK [])),some (.fz (.lst [.lst (qo (.int 60)::rs.map qp)])),some (.ow (.dT [])),none,none,none,none,none]=.nx [some (.fz (.lst [.lst [.lst (qo (.int 60)::rs.map qp)]])),some (.fz (.int K)),some (.fz fnH),some (.ow (.lst [])),some (.ow (.dK [])),some (.fz (.lst [.lst (qo (.int 60)::rs.map qp)])),some (.ow (.dT [])),some (.od (.lst [.lst []])),none,none,none,none]by kernel_rfl,qJ]
  rw [qF,yD,wp (w:=.ow (.lst ((jg 0 0 0 (4::rs)).map qD))) (by simp only [EV,reduceAdd,reduceSub,reduceLeDiff,io]) rfl,wn]
  rw [show(jg 0 0 0 (4::rs)).map qD=qD [0,0,0]::(jg 0 4 ((1:Nat):Int) rs).map qD from rfl]
  rw [jW (ρ1:=[some (.fz (.lst [.lst [.lst (qo (.int 60)::rs.map qp)]])),some (.fz (.int K)),some (.fz fnH),some (.ow (.lst [])),some (.ow (.dK [])),some (.fz (.lst [.lst (qo (.int 60)::rs.map qp)])),some (.ow (.dT [])),some (.od (.lst [.lst []])),some (.fz (qD [0,0,0])),none,none,none]) rfl];have ns:=qfq K h z H (some (.fz (.lst [.lst [.lst (qo (.int 60)::rs.map qp)]]))) (some (.ow (.lst []))) (rs.map qp);unfold yX ioH at ns rr;rw [ns,vW,rr,qJ];rfl
 unfold yQ UH;simp only [EV,reduceAdd,reduceSub,reduceLeDiff,tu]
theorem Mk:∀(ns σ:List Int),σ.Nodup->(ns.foldl step_dedup σ).Nodup/\∀ x,x∈ns.foldl step_dedup σ↔x∈σ∨x∈ns
 | [],σ,h=>⟨h,fun x=>by simp⟩
 | n::ns,σ,h=>by
  have st:(step_dedup σ n).Nodup/\∀ x,x∈step_dedup σ n↔x∈σ∨x=n:=by
   unfold step_dedup;by_cases c:(σ.any (·==n))=true
   ·rw [gB c];have cm:n∈σ:=by
     obtain⟨y,hy,B⟩:=List.any_eq_true.mp c;rw [dS]at B
     rwa [<- B]
    exact⟨h,fun x=>⟨fun z=>.inl z,fun z=>z.elim id fun z=>z▸cm⟩⟩
   ·rw [gD c];have cm:n∉σ:=fun z=>c (List.any_eq_true.mpr ⟨n,z,cy n⟩)
    refine⟨cg.mpr ⟨h,by simp,fun a ha b hb e=>?_⟩,fun x=>by simp⟩
    simp at hb;subst hb e;exact cm ha
  obtain⟨a,b⟩:=Mk ns (step_dedup σ n) st.1;refine⟨a,fun x=>?_⟩
  rw [List.foldl_cons,b x,st.2 x,gl,or_assoc]
def hdC(s:D):D:=.tup [.str "C",.int 5,s]
def hdB(s:D):D:=.tup [.str "B",.int 4,s]
def Hd4(h:D):Prop:=h=hdC .non∨h=hdC (.int 0)∨h=hdB .non∨h=hdB (.int 1)
theorem qfs(K:Int)(h0:-7<=K)(h1:K<=7):∃(h:D) (kds:Kd),Hd4 h/\∀ a:Addr,wG [.fz (.tup [.int 60]),.fz .non,ioD a (.dT []),.fz (.int K)]=.ok (.od (.tup [.int (a:Int),.dT kds,.tup [h]])):=by
 have c:(K=-5∨K=-4∨K=-3∨K=-2∨K=-1∨K=0∨K=1)∨(K=-7∨K=-6∨K=2∨K=3∨K=4)∨K=7∨(K=5∨K=6):=by omega
 rcases c with c|c|c|c
 ·refine⟨hdC .non,[],.inl rfl,fun a=>?_⟩
  rcases c with rfl|rfl|rfl|rfl|rfl|rfl|rfl<;>kernel_rfl
 ·refine⟨hdC (.int 0),[([.inr "C",.inl 5],.int 0)],.inr (.inl rfl),fun a=>?_⟩
  rcases c with rfl|rfl|rfl|rfl|rfl<;>kernel_rfl
 ·refine⟨hdB .non,[],.inr (.inr (.inl rfl)),fun a=>?_⟩
  subst c;kernel_rfl
 ·refine⟨hdB (.int 1),[([.inr "B",.inl 4],.int 1)],.inr (.inr (.inr rfl)),fun a=>?_⟩
  rcases c with rfl|rfl<;>kernel_rfl
theorem Ml{b:SF}{A B C:Option En}(z:∀(v:Int),b [A,B,C,some (.fz (qp v))]=.nx [A,B,C,some (.fz (qp v))]):∀(rs:List Int) (j:Option En),∃ i:Option En,qR (gV 3) b (rs.map qp) [A,B,C,j]=.nx [A,B,C,i]:=by
 intro rs
 induction rs with
 | nil=>intro j;exact⟨j,rfl⟩
 | cons v rs ih =>
  intro j;obtain⟨i,h⟩:=ih (some (.fz (qp v)));refine⟨i,?_⟩;rw [gN,jW (ρ1:=[A,B,C,some (.fz (qp v))]) rfl,z v,vW,h]
theorem QW(h:D)(st:Int)(z:yM [.fz h]=.ok (.fz (.int st)))(rs:List Int):yc [.fz (.lst [.lst (qo h::rs.map qp)])]=.ok (.ow (.lst [.int st])):=by
 obtain⟨i,hi⟩:=Ml (b:=(sIf (tE (eOp dEq (eOp qe (q9 3) (eC (.int 0))) (eC (.str "note")))) (va 1 (qT 1 (jo (eOp qe (q9 3) (eC (.int 2)))) (gV 4) je (qj yM [(q9 4)]))) qr)) (A:=some (.fz (.lst [.lst (qo h::rs.map qp)]))) (B:=some (.ow (.lst [.int st]))) (C:=some (.fz (.lst (qo h::rs.map qp)))) (fun v=>by kernel_rfl) rs (some (.fz (qo h)))
 have cm:qT 1 (jo (eOp qe (q9 3) (eC (.int 2)))) (gV 4) je (qj yM [(q9 4)]) [some (.fz (.lst [.lst (qo h::rs.map qp)])),some (.ow (.lst [])),some (.fz (.lst (qo h::rs.map qp))),some (.fz (qo h))]=.ok (.ow (.lst [.int st])):=by
  refine yB (ds:=[h]) rfl (c7 rfl) (yA 4 (fun _=>.int st) _ _ fun d hd=>?_)
  rw [pR]at hd;subst hd;refine⟨.fz (.int st),?_,rfl⟩;show(qj yM [(q9 4)]) [_,_,_,_,some (.fz d)]=_;simp only [EV,reduceAdd,reduceSub,reduceLeDiff,z]
 unfold yc Uc;simp only [EV,reduceAdd,reduceSub,reduceLeDiff];rw [kA (ds:=[.lst (qo h::rs.map qp)]) rfl];simp only [EV,reduceAdd,reduceSub,reduceLeDiff];rw [jW (ρ1:=[some (.fz (.lst [.lst (qo h::rs.map qp)])),some (.ow (.lst [])),some (.fz (.lst (qo h::rs.map qp))),none]) rfl];simp only [EV,reduceAdd,reduceSub,reduceLeDiff];rw [kA (ds:=qo h::rs.map qp) rfl];simp only [EV,reduceAdd,reduceSub,reduceLeDiff];rw [jW (ρ1:=[some (.fz (.lst [.lst (qo h::rs.map qp)])),some (.ow (.lst [])),some (.fz (.lst (qo h::rs.map qp))),some (.fz (qo h))]) rfl];rw [show ∀ f g:SF,(sIf (tE (eOp dEq (eOp qe (q9 3) (eC (.int 0))) (eC (.str "note")))) f g) [some (.fz (.lst [.lst (qo h::rs.map qp)])),some (.ow (.lst [])),some (.fz (.lst (qo h::rs.map qp))),some (.fz (qo h))]=f [some (.fz (.lst [.lst (qo h::rs.map qp)])),some (.ow (.lst [])),some (.fz (.lst (qo h::rs.map qp))),some (.fz (qo h))]from fun f g=>by kernel_rfl]
 rw [X8 (xs:=[]) (ys:=[.int st]) rfl cm (c7 rfl),vW];simp only [pT,pS,tV];rw [hi];rfl
theorem qft(h:D)(z:Hd4 h)(rs:List Int):∃ m:Int,0<=m/\ut [.fz (.lst [.lst (qo h::rs.map qp)])]=.ok (.fz (.int m)):=by
 have one:∃ m:Int,0<=m/\∀ A C:Option En,(sIf (tE (eOp dEq (eOp qe (q9 3) (eC (.int 0))) (eC (.str "note")))) (zB 1 vi (eB jC [(qT 1 (jo (eOp qe (q9 3) (eC (.int 2)))) (gV 4) (tE (eOp Qh (eOp qe (q9 4) (eC (.int 2))) (eC .non))) (q9 4))])) qr) [A,some (.fz (.int 0)),C,some (.fz (qo h))]=.nx [A,some (.fz (.int m)),C,some (.fz (qo h))]:=by
  rcases z with rfl|rfl|rfl|rfl
  ·exact⟨0,by decide,fun A C=>by kernel_rfl⟩
  ·exact⟨1,by decide,fun A C=>by kernel_rfl⟩
  ·exact⟨0,by decide,fun A C=>by kernel_rfl⟩
  ·exact⟨1,by decide,fun A C=>by kernel_rfl⟩
 obtain⟨m,hm,one⟩:=one;refine⟨m,hm,?_⟩;obtain⟨i,hi⟩:=Ml (b:=(sIf (tE (eOp dEq (eOp qe (q9 3) (eC (.int 0))) (eC (.str "note")))) (zB 1 vi (eB jC [(qT 1 (jo (eOp qe (q9 3) (eC (.int 2)))) (gV 4) (tE (eOp Qh (eOp qe (q9 4) (eC (.int 2))) (eC .non))) (q9 4))])) qr)) (A:=some (.fz (.lst [.lst (qo h::rs.map qp)]))) (B:=some (.fz (.int m))) (C:=some (.fz (.lst (qo h::rs.map qp)))) (fun v=>by kernel_rfl) rs (some (.fz (qo h)))
 unfold ut U5;simp only [EV,reduceAdd,reduceSub,reduceLeDiff];rw [kA (ds:=[.lst (qo h::rs.map qp)]) rfl];simp only [EV,reduceAdd,reduceSub,reduceLeDiff];rw [jW (ρ1:=[some (.fz (.lst [.lst (qo h::rs.map qp)])),some (.fz (.int 0)),some (.fz (.lst (qo h::rs.map qp))),none]) rfl];simp only [EV,reduceAdd,reduceSub,reduceLeDiff];rw [kA (ds:=qo h::rs.map qp) rfl];simp only [EV,reduceAdd,reduceSub,reduceLeDiff];rw [jW (ρ1:=[some (.fz (.lst [.lst (qo h::rs.map qp)])),some (.fz (.int 0)),some (.fz (.lst (qo h::rs.map qp))),some (.fz (qo h))]) rfl,one,vW,hi];rfl
def Mm:D->D
 | .tup (.int q::_)=>.int q
 | _=>.non
theorem Mn:∀ xs:List Int,jG (xs.map D.int)=some xs
 | []=>rfl
 | x::xs=>by
  show(match jG (xs.map D.int)with|some r=>some (x::r)|none=>none)=_
  rw [Mn xs]
theorem qfu(h:D)(B:Hd4 h)(rs:List Int)(hp:∀ y∈rs,1<=y)(U:rs.length<=40):∃ w:Int,7<=w/\vU [.fz (.lst [.lst (qo h::rs.map qp)])]=.ok (.fz (.int w)):=by
 have hz:sz=16777216:=rfl;obtain⟨m,hm,sg⟩:=qft h B rs;have io:=Mj ((qo h,4)::rs.map fun v=>(qp v,v)) (fun e he=>by
  rcases gl.mp he with rfl|he
  ·rfl
  ·obtain⟨v,_,rfl⟩:=tR.mp he;rfl) (fun e he=>by
  rcases gl.mp he with rfl|he
  ·exact(by decide:(1:Int)<=4)
  ·obtain⟨v,hv,rfl⟩:=tR.mp he;exact hp v hv) (by rw [gU,gy];omega)
 rw [gN,gN,fG,fG,show((Prod.fst:D×Int->D)∘fun v:Int=>(qp v,v))=qp from rfl,show((Prod.snd:D×Int->Int)∘fun v:Int=>(qp v,v))=id from rfl,List.map_id]at io
 have sl:=W1 0 (4::rs) 0 0;rw [gU]at sl;have cm:(qT 1 (jo (qj vT [(q9 0)])) (gV 2) je (eOp qe (q9 2) (eC (.int 0)))) [some (.fz (.lst [.lst (qo h::rs.map qp)])),none]=.ok (.ow (.lst (((jg 0 0 0 (4::rs)).map (·.headD 0)).map D.int))):=by
  have it:jo (qj vT [(q9 0)]) [some (.fz (.lst [.lst (qo h::rs.map qp)])),none]=.ok ((jg 0 0 0 (4::rs)).map qD):=wp (w:=.ow (.lst ((jg 0 0 0 (4::rs)).map qD))) (by simp only [EV,reduceAdd,reduceSub,reduceLeDiff,io]) rfl
  rw [yB (ds:=(jg 0 0 0 (4::rs)).map qD) (ys:=((jg 0 0 0 (4::rs)).map qD).map Mm) it (by rw [gy];omega) (yA 2 Mm _ _ fun d hd=>?_)]
  ·congr 3;rw [fG,fG];apply pK;intro r hr;obtain⟨q,n,e,_⟩:=uM 0 _ _ _ _ hr;subst e;rfl
  ·obtain⟨r,hr,rfl⟩:=tR.mp hd;obtain⟨q,n,e,_⟩:=uM 0 _ _ _ _ hr;subst e;refine⟨.fz (.int q),?_,rfl⟩;show(eOp qe (q9 2) (eC (.int 0))) [some (.fz (.lst [.lst (qo h::rs.map qp)])),none,some (.fz (qD [q,0,n]))]=_;have:qe (qD [q,0,n]) (.int 0)=.ok (.fz (.int q)):=rfl;simp only [EV,reduceAdd,reduceSub,reduceLeDiff,this]
 obtain⟨z,O,ls⟩:∃ z:Int,1<=z/\uh (.lst (((jg 0 0 0 (4::rs)).map (·.headD 0)).map D.int))=.ok (.fz (.int z)):=by
  refine⟨((yJ ((jg 0 0 0 (4::rs)).map (·.headD 0))).length:Nat),?_,?_⟩
  ·have:(0:Int)∈yJ ((jg 0 0 0 (4::rs)).map (·.headD 0)):=by
    unfold yJ;rw [(Mk _ [] cX).2];right;show(0:Int)∈0::_;simp
   have:=List.length_pos_of_mem this;omega
  ·unfold uh;dsimp only;rw [Mn];dsimp only;rw [gB (by rw [gy];omega)]
 have m3:=Qa (i:=3) (j:=z) (by decide) (by decide)
 refine⟨4+3*z+m,by omega,?_⟩
 unfold vU Ug;have s1:(qi 1 (ui (qT 1 (jo (qj vT [(q9 0)])) (gV 2) je (eOp qe (q9 2) (eC (.int 0)))))) [some (.fz (.lst [.lst (qo h::rs.map qp)])),none]=.nx [some (.fz (.lst [.lst (qo h::rs.map qp)])),some (.fz (.int z))]:=by
  show sOf (((ui _) _).b En.nmo) _=_;unfold ui;rw [cm];show sOf ((uh (.lst (((jg 0 0 0 (4::rs)).map (·.headD 0)).map D.int))).b En.nmo) _=_
  rw [ls];rfl
 rw [vC];simp only [gU,tG,gN,tU,tW,tV,reduceAdd,reduceSub,tD,tM];rw [qF,s1,qJ];simp only [EV,reduceAdd,reduceSub,reduceLeDiff,QE,QF,m3,sg]
theorem QX(b:D)(st:Int)(B:st=34∨st=35)(z:yc [.fz b]=.ok (.ow (.lst [.int st]))):∃ w,wE [.br (.lst [b])]=.ok w:=by
 have go:∀ r,(qf (qi 2 (qT 1 (jo (eC kM)) (gV 5) je (eOp qA (qj QK [(q9 4),(q9 5)]) (eB uf [(qj kN [(q9 2),(q9 5)])])))) (jN 2 (jA 1 (q9 2)))) [some (.br (.lst [b])),some (.ow (.lst [])),some (.ow (.lst [.int 0,.int 0,.int 0])),some (.fz b),some (.ow (.lst [.int st]))]=.nx r->kX [.br (.lst [b])]=fin ((qu (Zb (q9 1))) r):=fun r hr=>by
  unfold kX Uq;rw [vC];simp only [gU,tG,gN,tU,tW,tV,reduceAdd,reduceSub,tD,tM];rw [qF,show(qi 1 (qK [])) [some (.br (.lst [b])),none,none,none,none]=.nx [some (.br (.lst [b])),some (.ow (.lst [])),none,none,none]from rfl,qJ]
  rw [qF,show(qi 2 (qK [(eC (.int 0)),(eC (.int 0)),(eC (.int 0))])) [some (.br (.lst [b])),some (.ow (.lst [])),none,none,none]=.nx [some (.br (.lst [b])),some (.ow (.lst [])),some (.ow (.lst [.int 0,.int 0,.int 0])),none,none]from rfl,qJ]
  rw [qF,yD,show Qu 0 [some (.br (.lst [b])),some (.ow (.lst [])),some (.ow (.lst [.int 0,.int 0,.int 0])),none,none]=.ok [b]from rfl,wn]
  rw [jW (ρ1:=[some (.br (.lst [b])),some (.ow (.lst [])),some (.ow (.lst [.int 0,.int 0,.int 0])),some (.fz b),none]) rfl];rw [qF (a:=qi 4 (qj yc [(q9 3)])),show(qi 4 (qj yc [(q9 3)])) [some (.br (.lst [b])),some (.ow (.lst [])),some (.ow (.lst [.int 0,.int 0,.int 0])),some (.fz b),none]=.nx [some (.br (.lst [b])),some (.ow (.lst [])),some (.ow (.lst [.int 0,.int 0,.int 0])),some (.fz b),some (.ow (.lst [.int st]))]by simp only [EV,reduceAdd,reduceSub,reduceLeDiff,z],qJ,hr]
  rfl
 have cl:∀ d:Int,kX [.br (.lst [b])]=.ok (.ow (.lst [.lst [.int 1,.int 0,.int d]]))->(d=0∨d=1)->wE [.br (.lst [b])]=.ok (.ow (.lst [.int 1])):=fun d pr hd=>by
  unfold wE UA;rw [vC];simp only [gU,tG,gN,tU,tW,tV,reduceAdd,reduceSub,tD,tM];rw [qF,show(qi 1 (qK [])) [some (.br (.lst [b])),none,none,none]=.nx [some (.br (.lst [b])),some (.ow (.lst [])),none,none]from rfl,qJ]
  rw [qF,yD,wp (w:=.ow (.lst [.lst [.int 1,.int 0,.int d]])) (by simp only [EV,reduceAdd,reduceSub,reduceLeDiff,pr]) rfl,wn]
  clear pr go z B;rcases hd with rfl|rfl<;>kernel_rfl
 rcases B with rfl|rfl
 ·refine⟨_,cl 0 ((go [some (.br (.lst [b])),some (.ow (.lst [.lst [.int 1,.int 0,.int 0]])),some (.fz (.lst [.int 1,.int 0,.int 0])),some (.fz b),some (.ow (.lst [.int 34]))] (by clear z go cl;kernel_rfl)).trans ?_) (.inl rfl)⟩
  clear z go cl;kernel_rfl
 ·refine⟨_,cl 1 ((go [some (.br (.lst [b])),some (.ow (.lst [.lst [.int 1,.int 0,.int 1]])),some (.fz (.lst [.int 1,.int 0,.int 1])),some (.fz b),some (.ow (.lst [.int 35]))] (by clear z go cl;kernel_rfl)).trans ?_) (.inr rfl)⟩
  clear z go cl;kernel_rfl
theorem qfv(h:D)(z:Hd4 h)(rs:List Int):∃ w,wE [.br (.lst [.lst [.lst (qo h::rs.map qp)]])]=.ok w:=by
 rcases z with rfl|rfl|rfl|rfl
 ·exact QX _ 35 (.inr rfl) (QW _ _ (by kernel_rfl) rs)
 ·exact QX _ 35 (.inr rfl) (QW _ _ (by kernel_rfl) rs)
 ·exact QX _ 34 (.inl rfl) (QW _ _ (by kernel_rfl) rs)
 ·exact QX _ 34 (.inl rfl) (QW _ _ (by kernel_rfl) rs)
theorem qfw(w:Int)(z:7<=w):x9 [.br (.lst [.int w]),.fz (.int 6)]=.exc ⟨"TooWide",[("at",.int 0)]⟩:=by
 have rf:kY [.br (.lst [.int w]),.fz (.int 6)]=.exc ⟨"TooWide",[("at",.int 0)]⟩:=by
  have d:decide (6<w)=true:=by simp;omega
  have ra:zn "TooWide" (q9 2) [some (.br (.lst [.int w])),some (.fz (.int 6)),some (.fz (.int ((0:Nat):Int))),some (.fz (.int w))]=.exc ⟨"TooWide",[("at",.int ((0:Nat):Int))]⟩:=UP rfl;unfold kY Uw;rw [vC];simp only [gU,tG,gN,tU,tW,tV,reduceAdd,reduceSub,tD,tM];rw [yD,show vm 0 [some (.br (.lst [.int w])),some (.fz (.int 6)),none,none]=.ok (numd 0 [.int w])from rfl,wn,numd,jW (ρ1:=[some (.br (.lst [.int w])),some (.fz (.int 6)),some (.fz (.int ((0:Nat):Int))),some (.fz (.int w))]) rfl]
  have st:(sIf (tE (eOp dGt (q9 3) (q9 1))) (zn "TooWide" (q9 2)) qr) [some (.br (.lst [.int w])),some (.fz (.int 6)),some (.fz (.int ((0:Nat):Int))),some (.fz (.int w))]=.exc ⟨"TooWide",[("at",.int ((0:Nat):Int))]⟩:=by
   simp only [EV,reduceAdd,reduceSub,reduceLeDiff,d];exact ra
  rw [st,qep];rfl
 have be:x8 [.br (.lst [.int w]),.fz (.int 6)]=.exc ⟨"TooWide",[("at",.int 0)]⟩:=by
  have cl:vD kY [(q9 0),(q9 1)] [some (.br (.lst [.int w])),some (.fz (.int 6)),none,none]=.exc ⟨"TooWide",[("at",.int 0)]⟩ :=
   QP (ws:=[.br (.lst [.int w]),.fz (.int 6)]) (ys:=[.br (.lst [.int w]),.fz (.int 6)]) rfl rfl rf
  have wr:yN [.fz (.int 6)]=.ok (.fz (.bl true)):=by kernel_rfl
  unfold x8 UC;simp only [EV,reduceAdd,reduceSub,reduceLeDiff,wr,cl,qaF];rfl
 unfold x9 UF;rw [vC];simp only [gU,tG,gN,tU,tW,tV,reduceAdd,reduceSub,tD,tM];rw [qF,uK (ws:=[.br (.lst [.int w]),.fz (.int 6)]) (ys:=[.br (.lst [.int w]),.fz (.int 6)]) rfl rfl be rfl];rfl
def ze:List D:=[.tup [.int 0,.int 1,.int 100],.tup [.int 0,.int 2,.int 101],.tup [.int 0,.int 3,.int 102],.tup [.int 0,.int 4,.int 103],.tup [.int 0,.int 5,.int 104],.tup [.int 0,.int 6,.int 105],.tup [.int 0,.int 7,.int 106],.tup [.int 0,.int 8,.int 107],.tup [.int 0,.int 9,.int 108]]
def nineR:List (List Int):=[[0,1,100],[0,2,101],[0,3,102],[0,4,103],[0,5,104],[0,6,105],[0,7,106],[0,8,107],[0,9,108]]
def QY:List D:=[.tup [.int 0,.int 1,.tup [.int 100]],.tup [.int 0,.int 2,.tup [.int 101]],.tup [.int 0,.int 3,.tup [.int 102]],.tup [.int 0,.int 4,.tup [.int 103]],.tup [.int 0,.int 5,.tup [.int 104]],.tup [.int 0,.int 6,.tup [.int 105]],.tup [.int 0,.int 7,.tup [.int 106]],.tup [.int 0,.int 8,.tup [.int 107]],.tup [.int 0,.int 9,.tup [.int 108]]]
theorem Mo:vR [.lst ze]=.ok (.ow (.lst ze)):=by
 have e:ze=nineR.map qD:=rfl;have s:=JZ (rs:=nineR) (by decide) (by decide) (by decide)
 rw [Mg (by decide)]at s
 rw [e];exact s
theorem qfx:vS [.br (.lst ze)]=.ok (.ow (.lst QY)):=by
 unfold vS U0;rw [vC];simp only [gU,tG,gN,tU,tW,tV,reduceAdd,reduceSub,tD,tM];rw [qF,show(Qp 1 eDT) [some (.br (.lst ze)),none,none]=.nx [some (.br (.lst ze)),some (.od (.dT [])),none]from rfl,qJ]
 rw [qF,yD,wp (w:=.ow (.lst ze)) (by simp only [EV,reduceAdd,reduceSub,reduceLeDiff,Mo]) rfl,wn]
 kernel_rfl
theorem qfy:wD [.fz (.lst QY)]=.exc ⟨"TooThick",[]⟩:=by kernel_rfl
def nine:List Nt:=[(0,1,100),(0,2,101),(0,3,102),(0,4,103),(0,5,104),(0,6,105),(0,7,106),(0,8,107),(0,9,108)]
theorem Mp:GN nine:=⟨by decide,by decide,by decide⟩
theorem qfz:jQ [.fz (.lst ze)]=.ok (.ow (.lst ze)):=UY (ds:=ze) (by decide) (fun n hn=>VY Mp (ds:=ze) (n:=9) rfl hn (by decide)) Mo
theorem qfA:jQ [.fz (.lst [vx])]=.ok (.ow (.lst [vx])):=by kernel_rfl
theorem qfB{z:List (Int×Int×Int)}(f:Fine z)(l:Lens z):vG [.br (.lst ze),.br (.lst (z.map qB))]=.exc ⟨"TooThick",[]⟩:=by
 obtain⟨B,e,le⟩:=M5 f l 9 (by decide)
 obtain⟨vs,be,_⟩:=M7 f l B (by omega)
 unfold vG VL;rw [vC];simp only [gU,tG,gN,tU,tW,tV,reduceAdd,reduceSub,tD,tM];rw [qF,show ∀ W:Option En,(qi 2 (eOp u0 (qT 1 (iVc 0) (gV 7) je (qj jI [(q9 7)])) (eC (.int 0)))) [some (.br (.lst ze)),W,none,none,none,none,none]=.nx [some (.br (.lst ze)),W,some (.fz (.int 9)),none,none,none,none]from fun W=>by kernel_rfl,qJ]
 rw [qF,show(qi 3 (qj ye [(q9 1),(qj yg [(q9 1),(q9 2)])])) [some (.br (.lst ze)),some (.br (.lst (z.map qB))),some (.fz (.int 9)),none,none,none,none]=.nx [some (.br (.lst ze)),some (.br (.lst (z.map qB))),some (.fz (.int 9)),some (.ow (.lst (vs.map D.int))),none,none,none]by simp only [EV,reduceAdd,reduceSub,reduceLeDiff,e,be],qJ]
 rw [qF,uK (ws:=[.ow (.lst QY)]) (ys:=[.fz (.lst QY)]) (by simp only [EV,reduceAdd,reduceSub,reduceLeDiff,qfx]) rfl qfy rfl]
 rfl
theorem qfC{z:List (Int×Int×Int)}(f:Fine z)(l:Lens z):∃ L:Int,8<=L/\L<=512/\vG [.br (.lst [vx]),.br (.lst (z.map qB))]=.ok (.ow (.lst [.lst [.lst (qo (.int 60)::(jE (L-4)).map qp)]])):=by
 obtain⟨B,e,le⟩:=M5 f l 4 (by decide)
 have b0:B=0:=by omega
 subst b0;obtain⟨vs,be,vl,L,hv,d1,d2⟩:=M7 f l 0 (by decide)
 obtain rfl:vs=[L]:=by
  match vs,vl,hv with
  | [x],_,h=>cases h;rfl
 refine⟨L,d1,d2,?_⟩;have be:ye [.br (.lst (z.map qB)),.fz (.int 1)]=.ok (.ow (.lst [.int L])):=be;have e:yg [.br (.lst (z.map qB)),.fz (.int 4)]=.ok (.fz (.int 1)):=e;have O:=qfl L d1 d2;have ch:vS [.br (.lst [vx])]=.ok (.ow (.lst [jk])):=by kernel_rfl
 have vo:wD [.fz (.lst [jk])]=.ok (.ow (.lst [.lst [jk]])):=by kernel_rfl
 unfold vG VL;rw [vC];simp only [gU,tG,gN,tU,tW,tV,reduceAdd,reduceSub,tD,tM];rw [qF,show ∀ W:Option En,(qi 2 (eOp u0 (qT 1 (iVc 0) (gV 7) je (qj jI [(q9 7)])) (eC (.int 0)))) [some (.br (.lst [vx])),W,none,none,none,none,none]=.nx [some (.br (.lst [vx])),W,some (.fz (.int 4)),none,none,none,none]from fun W=>by kernel_rfl,qJ]
 rw [qF,show(qi 3 (qj ye [(q9 1),(qj yg [(q9 1),(q9 2)])])) [some (.br (.lst [vx])),some (.br (.lst (z.map qB))),some (.fz (.int 4)),none,none,none,none]=.nx [some (.br (.lst [vx])),some (.br (.lst (z.map qB))),some (.fz (.int 4)),some (.ow (.lst [.int (L)])),none,none,none]by
  simp only [EV,reduceAdd,reduceSub,reduceLeDiff,e,be],qJ]
 rw [qF,uL (ws:=[.ow (.lst [jk])]) (ys:=[.fz (.lst [jk])]) (by simp only [EV,reduceAdd,reduceSub,reduceLeDiff,ch]) rfl vo]
 have cm:qT 1 (jo (qj wD [(qj vS [(q9 0)])])) (gV 7) je (qj wF [(q9 7),(q9 3)]) [some (.br (.lst [vx])),some (.br (.lst (z.map qB))),some (.fz (.int 4)),some (.ow (.lst [.int (L)])),none,none,none]=.ok (.ow (.lst [.lst [.lst (qo (.int 60)::(jE (L-4)).map qp)]])):=by
  refine yB (ds:=[.lst [jk]]) (wp (w:=.ow (.lst [.lst [jk]])) (by simp only [EV,reduceAdd,reduceSub,reduceLeDiff,ch,vo]) rfl) (c7 rfl) (yA 7 (fun _=>.lst [.lst (qo (.int 60)::(jE (L-4)).map qp)]) _ _ fun d hd=>?_)
  rw [pR]at hd;subst hd;refine⟨.ow (.lst [.lst (qo (.int 60)::(jE (L-4)).map qp)]),?_,rfl⟩;show(qj wF [(q9 7),(q9 3)]) [_,_,_,some (.br (.lst [.int (L)])),none,none,none,some (.fz (.lst [jk]))]=_;simp only [EV,reduceAdd,reduceSub,reduceLeDiff,O]
 rw [show(qi 4 (qT 1 (jo (qj wD [(qj vS [(q9 0)])])) (gV 7) je (qj wF [(q9 7),(q9 3)]))) [some (.br (.lst [vx])),some (.br (.lst (z.map qB))),some (.fz (.int 4)),some (.ow (.lst [.int (L)])),none,none,none]=.nx [some (.br (.lst [vx])),some (.br (.lst (z.map qB))),some (.fz (.int 4)),some (.ow (.lst [.int (L)])),some (.ow (.lst [.lst [.lst (qo (.int 60)::(jE (L-4)).map qp)]])),none,none]by
  show sOf ((qT 1 (jo (qj wD [(qj vS [(q9 0)])])) (gV 7) je (qj wF [(q9 7),(q9 3)]) _).b _) _=_;rw [cm];rfl,qJ]
 generalize qo (.int 60)::(jE (L-4)).map qp=row;clear cm be e O ch vo;generalize z.map qB=W;kernel_rfl
theorem qfD{dn:Den}{fa:List EF}{cs:List Str}{m:Addr->Xc->SF}{i:Nat}{ρ ρ':Rho}{ws ys:List En}{x:Xc}(h1:evs fa ρ=.ok ws)(h2:qU ws=.ok ys)(z:dn ys=.exc x)(ok:nrm x=x)(B:cs.contains x.cls=true)
  (h:∀ a:Addr,∃ r,m a x (ρ.set i (some (.fz (exD a))))=.nx r/\r.set i none=ρ'):Qx dn fa cs (ya m i) ρ=.nx ρ':=by
 unfold Qx;rw [h1];show sOf (qU ws) _=_;rw [h2];show(match dn ys with|.ok _=>Out.nx ρ|.exc x=>if cs.contains (nrm x).cls=true then ya m i (nrm x) ρ else .stuck|.stuck=>.stuck)=_
 rw [z];show(if cs.contains (nrm x).cls=true then ya m i (nrm x) ρ else .stuck)=_
 rw [ok,gB B,qdX h]
theorem Mq(a:Addr)(z B O U W Y:Option En)(r:Rho):isEx 6 a (z::B::O::U::W::Y::some (.fz (exD a))::r)=true:=by
 show(((a:Int))==(a:Int))=true;exact cy _
theorem eIs6(a:Addr)(b:Bool)(z B O U W Y:Option En)(r:Rho):zo 6 a b (z::B::O::U::W::Y::some (.fz (exD a))::r)=okB b:=by
 unfold zo;rw [gB (Mq a z B O U W Y r)]
theorem eAt6(a:Addr)(c nm:Str)(d:D)(z B O U W Y:Option En)(r:Rho):y9 6 a ⟨c,[(nm,d)]⟩ (z::B::O::U::W::Y::some (.fz (exD a))::r)=.ok (.fz d):=by
 unfold y9;rw [gB (Mq a z B O U W Y r)]
abbrev k9(n k m r v:D)(b:List D)(e:Option En)(a c:Option En):Rho:=[some (.fz n),some (.fz k),some (.fz m),some (.fz r),some (.fz v),some (.ow (.lst b)),e,a,c]
abbrev bF:D:=.bl false
abbrev bT:D:=.bl true
abbrev W2(z:Addr)(ex:Xc):SF:=(qf (qi 5 (qK [(zo 6 z (ex.cls=="BadKey")),(zo 6 z (ex.cls=="BadMeter")),(zo 6 z (ex.cls=="BadNotes"))]))
 (qf (qi 5 (eOp wu (q9 5) (qK [(zo 6 z (ex.cls=="BadRoom")),(zo 6 z (ex.cls=="TooThick")),(zo 6 z (ex.cls=="TooWide"))])))
 (sIf (tOr (tE (eOp qe (q9 5) (eC (.int 1)))) (tOr (tE (eOp qe (q9 5) (eC (.int 2)))) (tE (eOp qe (q9 5) (eC (.int 5)))))) (qi 4 (y9 6 z ex)) qr)))
section
variable{n k m r:D}
theorem xf{v:D}{b:List D}{x:Xc}(h:jw [.fz n,.fz k,.fz m,.fz r]=.exc x)(z:nrm x=x)(B:(["BadKey","BadMeter","BadNotes","BadRoom","TooThick","TooWide"]:List Str).contains x.cls=true)
  (O:∀ a:Addr,W2 a x (k9 n k m r .non [] (some (.fz (exD a))) none none)=.nx (k9 n k m r v b (some (.fz (exD a))) none none)):vw [.fz n,.fz k,.fz m,.fz r]=fin (VP (k9 n k m r v b none none none)):=by
 unfold vw UI;simp only [EV,reduceAdd,reduceSub,reduceLeDiff];rw [qfD (ws:=[.fz n,.fz k,.fz m,.fz r]) (ys:=[.fz n,.fz k,.fz m,.fz r]) (by simp only [EV,reduceAdd,reduceSub,reduceLeDiff]) (by simp only [EV,reduceAdd,reduceSub,reduceLeDiff]) h z B (ρ':=k9 n k m r v b none none none) (fun a=>⟨_,O a,rfl⟩)]
 rfl
theorem k0(c:Str)(z B O U W Y:Bool)(h1:(c=="BadKey")=z)(h2:(c=="BadMeter")=B)(Z:(c=="BadNotes")=O)(h4:(c=="BadRoom")=U)(h5:(c=="TooThick")=W)(h6:(c=="TooWide")=Y)(a:Addr)(fs:List (Str×D))(v:D)
  (ho:(sIf (tOr (tE (eOp qe (q9 5) (eC (.int 1)))) (tOr (tE (eOp qe (q9 5) (eC (.int 2)))) (tE (eOp qe (q9 5) (eC (.int 5)))))) (qi 4 (y9 6 a ⟨c,fs⟩)) qr) (k9 n k m r .non [.bl z,.bl B,.bl O,.bl U,.bl W,.bl Y] (some (.fz (exD a))) none none)=.nx (k9 n k m r v [.bl z,.bl B,.bl O,.bl U,.bl W,.bl Y] (some (.fz (exD a))) none none)) :
  W2 a ⟨c,fs⟩ (k9 n k m r .non [] (some (.fz (exD a))) none none)=.nx (k9 n k m r v [.bl z,.bl B,.bl O,.bl U,.bl W,.bl Y] (some (.fz (exD a))) none none):=by
 unfold W2;subst h1 h2 Z h4 h5 h6;simp only [EV,reduceAdd,reduceSub,reduceLeDiff,eIs6,pT,pS];exact ho
theorem k1(a:Addr)(c:Str)(d:D){bs:List D}(z:∀ f g,(sIf (tOr (tE (eOp qe (q9 5) (eC (.int 1)))) (tOr (tE (eOp qe (q9 5) (eC (.int 2)))) (tE (eOp qe (q9 5) (eC (.int 5)))))) f g) (k9 n k m r .non bs (some (.fz (exD a))) none none)=f (k9 n k m r .non bs (some (.fz (exD a))) none none)) :
  (sIf (tOr (tE (eOp qe (q9 5) (eC (.int 1)))) (tOr (tE (eOp qe (q9 5) (eC (.int 2)))) (tE (eOp qe (q9 5) (eC (.int 5)))))) (qi 4 (y9 6 a ⟨c,[("at",d)]⟩)) qr) (k9 n k m r .non bs (some (.fz (exD a))) none none)=.nx (k9 n k m r d bs (some (.fz (exD a))) none none):=by
 rw [z];simp only [EV,reduceAdd,reduceSub,reduceLeDiff,eAt6,pT,pS]
theorem qfE(h:jw [.fz n,.fz k,.fz m,.fz r]=.exc ⟨"BadKey",[]⟩):vw [.fz n,.fz k,.fz m,.fz r]=.ok (.fz (.str "key")) :=
 (xf h rfl rfl fun a=>k0 _ true false false false false false rfl rfl rfl rfl rfl rfl a _ .non rfl).trans (by clear h;kernel_rfl)
theorem qfF(h:jw [.fz n,.fz k,.fz m,.fz r]=.exc ⟨"BadRoom",[]⟩):vw [.fz n,.fz k,.fz m,.fz r]=.ok (.fz (.str "room")) :=
 (xf h rfl rfl fun a=>k0 _ false false false true false false rfl rfl rfl rfl rfl rfl a _ .non rfl).trans (by clear h;kernel_rfl)
theorem qfG(h:jw [.fz n,.fz k,.fz m,.fz r]=.exc ⟨"TooThick",[]⟩):vw [.fz n,.fz k,.fz m,.fz r]=.ok (.fz (.str "thick")) :=
 (xf h rfl rfl fun a=>k0 _ false false false false true false rfl rfl rfl rfl rfl rfl a _ .non rfl).trans (by clear h;kernel_rfl)
theorem qfH(h:jw [.fz n,.fz k,.fz m,.fz r]=.exc ⟨"BadMeter",[("at",.non)]⟩):vw [.fz n,.fz k,.fz m,.fz r]=.ok (.fz (.str "meterNone")) :=
 (xf h rfl rfl fun a=>k0 _ false true false false false false rfl rfl rfl rfl rfl rfl a _ .non (k1 a _ _ fun _ _=>rfl)).trans (by clear h;kernel_rfl)
theorem qfI(h:jw [.fz n,.fz k,.fz m,.fz r]=.exc ⟨"TooWide",[("at",.int 0)]⟩):vw [.fz n,.fz k,.fz m,.fz r]=.ok (.fz (.str "wide0")) :=
 (xf h rfl rfl fun a=>k0 _ false false false false false true rfl rfl rfl rfl rfl rfl a _ (.int 0) (k1 a _ _ fun _ _=>rfl)).trans (by clear h;kernel_rfl)
theorem qfJ{i:Nat}{s t:Str}(h:jw [.fz n,.fz k,.fz m,.fz r]=.exc ⟨"BadNotes",[("at",.int i)]⟩)(z:yK [.int i]=.ok (.fz (.str s)))(B:wu (.str "notes") (.str s)=.ok (.fz (.str t))):vw [.fz n,.fz k,.fz m,.fz r]=.ok (.fz (.str t)):=by
 rw [xf h (kG (.intf _ _)) rfl fun a=>k0 _ false false true false false false rfl rfl rfl rfl rfl rfl a _ (.int i) (k1 a _ _ fun _ _=>rfl)]
 clear h;unfold VP;have go:∀(N:D) (f g:SF),((qi 7 (qK [(eC (.str "key")),(eC (.str "meter")),(eC (.str "notes")),(eC (.str "room")),(eC (.str "thick")),(eC (.str "wide"))])) (k9 n k m r N [bF,bF,bT,bF,bF,bF] none none none)).th (qf (qi 8 (qT 1 (iR1 (eB jC [(q9 5)])) (gV 9) (tE (eOp qe (q9 5) (q9 9))) (eOp qe (q9 7) (q9 9))))
   (qf (sIf (tE (eOp dNe (eB jC [(q9 8)]) (eC (.int 1)))) (qu (eC (.str "none"))) qr) (qf (sIf (tE (eOp Qd (eOp qe (q9 8) (eC (.int 0))) (qK [(eC (.str "meter")),(eC (.str "notes")),(eC (.str "wide"))]))) f qr) g)))=(f (k9 n k m r N [bF,bF,bT,bF,bF,bF] none (some (.ow (.lst [.str "key",.str "meter",.str "notes",.str "room",.str "thick",.str "wide"]))) (some (.ow (.lst [.str "notes"]))))).th g:=fun N f g=>by kernel_rfl
 have ix:qe (.lst [.str "notes"]) (.int 0)=.ok (.fz (.str "notes")):=rfl;rw [qF,go];simp only [EV,reduceAdd,reduceSub,reduceLeDiff,ix,z,B]
end
def yj(n:Nat):Str:=(toString (n:Int):String)
theorem qfK:∀ n:Fin 64,(decide ((n.val:Int).natAbs.log2<1920)&&(decide (("notes":Str).length+(yj n.val).length<=1000)&&PyData.strOk (("notes":Str)++yj n.val)))=true:=by decide +kernel
theorem qfL(n:Nat)(h:n<64):yK [.int n]=.ok (.fz (.str (yj n)))/\wu (.str "notes") (.str (yj n))=.ok (.fz (.str (("notes":Str)++yj n)))/\PyData.strOk (("notes":Str)++yj n)=true:=by
 have hz:sz=16777216:=rfl;have q:=qfK ⟨n,h⟩;rw [gK,gK,decide_eq_true_iff,decide_eq_true_iff]at q;refine⟨?_,?_,q.2.2⟩
 ·show(if (n:Int).natAbs.log2<1920 then _ else _)=_
  rw [gB q.1];rfl
 ·show(if ("notes":Str).length+(yj n).length<=sz then _ else _)=_
  rw [gB (by have:=q.2.1;dsimp only at this;omega)]
theorem t11{Y Z:Option En}{z:List D}{B O:List D}{k r:Int}{t:Str}{x:Xc}(hd:vt [.br (.lst z),.fz (.int ((B.length:Int)-1))]=.ok (.fz (.str t)))(hp:jw [.fz (.lst B),.fz (.int k),.fz (.lst O),.fz (.int r)]=.exc x)
  (hk:vw [.fz (.lst B),.fz (.int k),.fz (.lst O),.fz (.int r)]=.ok (.fz (.str t)))(ok:nrm x=x)(hc:(["BadKey","BadMeter","BadNotes","BadRoom","TooThick","TooWide"]:List Str).contains x.cls=true)(st:PyData.strOk t=true) :
  uE [Y,Z,some (.ow (.lst z)),some (.ow (.lst B)),some (.fz (.int k)),some (.ow (.lst O)),some (.fz (.int r)),none,none]=.rt (.fz (.bl true)):=by
 have U:=qf8 hp ok hc;have W:dEq (.str t) (.str t)=.ok (.fz (.bl true)):=by
  have q:eqok (.str t)=true:=st;unfold dEq;rw [q];show okB (deq (.str t) (.str t))=_;rw [show deq (.str t) (.str t)=true from JV 8 _ q]
 unfold uE;simp only [EV,reduceAdd,reduceSub,reduceLeDiff,hd,hk,W,U]
def one:List Nt:=[(0,4,60)]
theorem qfM:GN one:=⟨by decide,by decide,by decide⟩
abbrev QZ:D:=ntD (7,0,60)
theorem qfN{ns:List Nt}(g:GN ns):jQ [.fz (.lst (ns.map ntD++[QZ]))]=.exc ⟨"BadNotes",[("at",.int ns.length)]⟩:=by
 have:=g.l;refine qeO g (n:=ns.length) (by simp;omega) (gw _) (by rw [List.take_append_of_le_length (by simp),fJ (by simp),fJ (gw _)]) ⟨(7,0,60),?_,rfl⟩
 rw [t4 (by simp)]
 simp
def jZ(z B:Bool)(ns:List Nt):List Nt:=if B then nine else if z then ns else one
def xg(z B:Bool)(r:Int):Int:=if z then 0 else if B then r else 6
def yY(z:Bool)(ns:List Nt):List D:=if z then ns.map ntD++[QZ]else ns.map ntD
theorem qfO(ρ:Rho)(z:ρ.length=9):qT 1 (iR1 (eC (.int 9))) (gV 9) je (js [(eC (.int 0)),(eOp qA (eC (.int 1)) (q9 9)),(eOp qA (eC (.int 100)) (q9 9))]) ρ=.ok (.ow (.lst (nine.map ntD))):=by
 refine(yB (ds:=jO 0 9) (ys:=(jO 0 9).map fun d=>match d with|.int k=>.tup [.int 0,.int (1+k),.int (100+k)]|_=>.non) rfl (by decide) (yA 9 _ (jO 0 9) _ fun d hd=>?_)).trans (by rfl)
 rw [qaB]at hd;obtain⟨k,hk,rfl⟩:=tR.mp hd;have e:((zZ 1 ρ).set 9 (some (.fz (.int k))))[9]?=some (some (.fz (.int (k:Int)))):=gZ (by simp [zZ,z])
 refine⟨.fz (.tup [.int 0,.int (1+k),.int (100+k)]),?_,rfl⟩;simp only [EV,reduceAdd,reduceSub,reduceLeDiff,e]
theorem t6{Y Z:Option En}{b0 U W z O:Bool}{ns:List Nt}{md:List D}{k r:Int}(nl:ns.length<=1000):VR [Y,Z,some (.ow (.lst [.bl b0,.bl U,.bl W,.bl z,.bl O])),some (.ow (.lst (ns.map ntD))),some (.fz (.int k)),some (.ow (.lst md)),some (.fz (.int r)),none,none]
  = uE [Y,Z,some (.ow (.lst [.bl b0,.bl U,.bl W,.bl z,.bl O])),some (.ow (.lst (yY W (jZ z O ns)))),some (.fz (.int (if b0 then 8 else k))),some (.ow (.lst (if U then []else md))),some (.fz (.int (xg z O r))),none,none]:=by
 have hz:sz=16777216:=rfl;unfold VR;rw [qF,show(sIf (tE (eOp qe (q9 2) (eC (.int 0)))) (qi 4 (eC (.int 8))) qr) [Y,Z,some (.ow (.lst [.bl b0,.bl U,.bl W,.bl z,.bl O])),some (.ow (.lst (ns.map ntD))),some (.fz (.int k)),some (.ow (.lst md)),some (.fz (.int r)),none,none]=.nx [Y,Z,some (.ow (.lst [.bl b0,.bl U,.bl W,.bl z,.bl O])),some (.ow (.lst (ns.map ntD))),some (.fz (.int (if b0 then 8 else k))),some (.ow (.lst md)),some (.fz (.int r)),none,none]by cases b0<;>rfl,qJ]
 generalize (if b0 then 8 else k:Int)=k
 rw [qF,show(sIf (tE (eOp qe (q9 2) (eC (.int 1)))) (qi 5 (qK [])) qr) [Y,Z,some (.ow (.lst [.bl b0,.bl U,.bl W,.bl z,.bl O])),some (.ow (.lst (ns.map ntD))),some (.fz (.int k)),some (.ow (.lst md)),some (.fz (.int r)),none,none]=.nx [Y,Z,some (.ow (.lst [.bl b0,.bl U,.bl W,.bl z,.bl O])),some (.ow (.lst (ns.map ntD))),some (.fz (.int k)),some (.ow (.lst (if U then []else md))),some (.fz (.int r)),none,none]by cases U<;>rfl,qJ]
 generalize (if U then []else md:List D)=md
 rw [qF,show(sIf (tE (eOp qe (q9 2) (eC (.int 4)))) (qi 3 (qT 1 (iR1 (eC (.int 9))) (gV 9) je (js [(eC (.int 0)),(eOp qA (eC (.int 1)) (q9 9)),(eOp qA (eC (.int 100)) (q9 9))]))) (sIf (tNot (tE (eOp qe (q9 2) (eC (.int 3))))) (qf (qi 3 (qK [(js [(eC (.int 0)),(eC (.int 4)),(eC (.int 60))])])) (qi 6 (eC (.int 6)))) qr)) [Y,Z,some (.ow (.lst [.bl b0,.bl U,.bl W,.bl z,.bl O])),some (.ow (.lst (ns.map ntD))),some (.fz (.int k)),some (.ow (.lst md)),some (.fz (.int r)),none,none]
   = .nx [Y,Z,some (.ow (.lst [.bl b0,.bl U,.bl W,.bl z,.bl O])),some (.ow (.lst ((jZ z O ns).map ntD))),some (.fz (.int k)),some (.ow (.lst md)),some (.fz (.int (if O then r else if z then r else 6))),none,none]by
  cases O
  ·cases z<;>rfl
  ·rw [show ∀(f g:SF) (A B:Option En),(sIf (tE (eOp qe (q9 2) (eC (.int 4)))) f g) [Y,Z,some (.ow (.lst [.bl b0,.bl U,.bl W,.bl z,.bl true])),A,some (.fz (.int k)),B,some (.fz (.int r)),none,none]=f [Y,Z,some (.ow (.lst [.bl b0,.bl U,.bl W,.bl z,.bl true])),A,some (.fz (.int k)),B,some (.fz (.int r)),none,none]from fun _ _ _ _=>rfl]
   rw [JS,qfO _ rfl,JR,JT,wn];rfl,qJ]
 have bl:(jZ z O ns).length<=ns.length+9:=by
  unfold jZ;cases O
  ·cases z
   ·show 1<=_;omega
   ·exact Nat.le_add_right _ _
  ·exact Nat.le_add_left _ _
 rw [qF,show(sIf (tE (eOp qe (q9 2) (eC (.int 2)))) (qi 3 (eOp qA (q9 3) (qK [(js [(eC (.int 7)),(eC (.int 0)),(eC (.int 60))])]))) qr) [Y,Z,some (.ow (.lst [.bl b0,.bl U,.bl W,.bl z,.bl O])),some (.ow (.lst ((jZ z O ns).map ntD))),some (.fz (.int k)),some (.ow (.lst md)),some (.fz (.int (if O then r else if z then r else 6))),none,none]
   = .nx [Y,Z,some (.ow (.lst [.bl b0,.bl U,.bl W,.bl z,.bl O])),some (.ow (.lst (yY W (jZ z O ns)))),some (.fz (.int k)),some (.ow (.lst md)),some (.fz (.int (if O then r else if z then r else 6))),none,none]by
  cases W
  ·rfl
  ·rw [show ∀(f g:SF) (A B C:Option En),(sIf (tE (eOp qe (q9 2) (eC (.int 2)))) f g) [Y,Z,some (.ow (.lst [.bl b0,.bl U,.bl true,.bl z,.bl O])),A,some (.fz (.int k)),B,C,none,none]=f [Y,Z,some (.ow (.lst [.bl b0,.bl U,.bl true,.bl z,.bl O])),A,some (.fz (.int k)),B,C,none,none]from fun _ _ _ _ _=>rfl]
   simp only [EV,reduceAdd,reduceSub,reduceLeDiff];rw [qcq (by simp [hz];omega)]
   rfl,qJ]
 rw [qF,show(sIf (tE (eOp qe (q9 2) (eC (.int 3)))) (qi 6 (eC (.int 0))) qr) [Y,Z,some (.ow (.lst [.bl b0,.bl U,.bl W,.bl z,.bl O])),some (.ow (.lst (yY W (jZ z O ns)))),some (.fz (.int k)),some (.ow (.lst md)),some (.fz (.int (if O then r else if z then r else 6))),none,none]
   = .nx [Y,Z,some (.ow (.lst [.bl b0,.bl U,.bl W,.bl z,.bl O])),some (.ow (.lst (yY W (jZ z O ns)))),some (.fz (.int k)),some (.ow (.lst md)),some (.fz (.int (xg z O r))),none,none]by cases z<;>cases O<;>rfl,qJ]
theorem qfP{z B O U:Bool}{n:Int}:vt [.br (.lst [.bl true,.bl z,.bl B,.bl O,.bl U]),.fz (.int n)]=.ok (.fz (.str "key")):=rfl
theorem qfQ{z B O:Bool}{n:Int}:vt [.br (.lst [.bl false,.bl true,.bl z,.bl B,.bl O]),.fz (.int n)]=.ok (.fz (.str "meterNone")):=rfl
theorem qfR{z B:Bool}{n:Int}{s t:Str}(O:yK [.int n]=.ok (.fz (.str s)))(U:wu (.str "notes") (.str s)=.ok (.fz (.str t))):vt [.br (.lst [.bl false,.bl false,.bl true,.bl z,.bl B]),.fz (.int n)]=.ok (.fz (.str t)):=by
 unfold vt Ub;rw [vC];simp only [gU,tG,gN,tU,tW,tV,reduceAdd,reduceSub,tD,tM];rw [qF,show ∀(f g:SF) (N:Option En),(sIf (tE (eOp qe (q9 0) (eC (.int 0)))) f g) [some (.br (.lst [.bl false,.bl false,.bl true,.bl z,.bl B])),N]=g [some (.br (.lst [.bl false,.bl false,.bl true,.bl z,.bl B])),N]from fun _ _ _=>rfl,Q9,qJ]
 rw [qF,show ∀(f g:SF) (N:Option En),(sIf (tE (eOp qe (q9 0) (eC (.int 1)))) f g) [some (.br (.lst [.bl false,.bl false,.bl true,.bl z,.bl B])),N]=g [some (.br (.lst [.bl false,.bl false,.bl true,.bl z,.bl B])),N]from fun _ _ _=>rfl,Q9,qJ]
 rw [qF,show ∀(f g:SF) (N:Option En),(sIf (tE (eOp qe (q9 0) (eC (.int 2)))) f g) [some (.br (.lst [.bl false,.bl false,.bl true,.bl z,.bl B])),N]=f [some (.br (.lst [.bl false,.bl false,.bl true,.bl z,.bl B])),N]from fun _ _ _=>rfl]
 simp only [EV,reduceAdd,reduceSub,reduceLeDiff,O,U]
theorem qfS{z:Bool}{n:Int}:vt [.br (.lst [.bl false,.bl false,.bl false,.bl true,.bl z]),.fz (.int n)]=.ok (.fz (.str "room")):=rfl
theorem qfT{n:Int}:vt [.br (.lst [.bl false,.bl false,.bl false,.bl false,.bl true]),.fz (.int n)]=.ok (.fz (.str "thick")):=rfl
theorem qfU{n:Int}:vt [.br (.lst [.bl false,.bl false,.bl false,.bl false,.bl false]),.fz (.int n)]=.ok (.fz (.str "wide0")):=rfl
theorem qfV(ns:List Int):∃ k:Int,kW [.fz (.lst (ns.map D.int))]=.ok (.fz (.int k))/\-7<=k/\k<=7:=by
 have c5:jx [.fz (.lst (ns.map D.int)),.fz (.int 5)]=.ok (.fz (.int (cell ns 5))):=yT ns 5;have m:=zI (cell ns 5) 9883 15 (by decide) (by decide)
 have b:=zJ (cell ns 5) 9883 15 (by decide)
 refine⟨qM (cell ns 5) 9883 15-7,?_,by omega,by omega⟩
 unfold kW Uo;simp only [EV,reduceAdd,reduceSub,reduceLeDiff,c5,m]
theorem qfW(ns:List Int)(wd:Bool):∃ r:Int,yO [.fz (.lst (ns.map D.int)),.fz (.bl wd)]=.ok (.fz (.int r))/\1<=r/\r<=5000:=by
 have c4:jx [.fz (.lst (ns.map D.int)),.fz (.int 4)]=.ok (.fz (.int (cell ns 4))):=yT ns 4;have m1:=zI (cell ns 4) 9887 3001 (by decide) (by decide)
 have b1:=zJ (cell ns 4) 9887 3001 (by decide)
 have m2:=zI (cell ns 4) 9887 400 (by decide) (by decide)
 have b2:=zJ (cell ns 4) 9887 400 (by decide)
 cases wd
 ·refine⟨400+qM (cell ns 4) 9887 400,?_,by omega,by omega⟩
  unfold yO Vj;simp only [EV,reduceAdd,reduceSub,reduceLeDiff,c4,m2]
 ·refine⟨2000+qM (cell ns 4) 9887 3001,?_,by omega,by omega⟩
  unfold yO Vj;simp only [EV,reduceAdd,reduceSub,reduceLeDiff,c4,m1]
def zU(c:Int)(k:Nat):Bool:=c/([1,2,4,8,16]:List Int).getD k 1%2==1
def Mr(c:Int):D->D
 | .int k=>.bl (zU c k.toNat)
 | _=>.non
theorem qfX(ns:List Int)(W:Option En):qT 1 (iR1 (eC (.int 5))) (gV 9) je (eOp dEq (eOp zy (eOp zA (qj jx [(q9 0),(eC (.int 1))]) (eOp qe (qK [(eC (.int 1)),(eC (.int 2)),(eC (.int 4)),(eC (.int 8)),(eC (.int 16))]) (q9 9))) (eC (.int 2))) (eC (.int 1))) [some (.fz (.lst (ns.map D.int))),W,none,none,none,none,none,none,none]
  = .ok (.ow (.lst [.bl (zU (cell ns 1) 0),.bl (zU (cell ns 1) 1),.bl (zU (cell ns 1) 2),.bl (zU (cell ns 1) 3),.bl (zU (cell ns 1) 4)])):=by
 have c1:jx [.fz (.lst (ns.map D.int)),.fz (.int 1)]=.ok (.fz (.int (cell ns 1))):=yT ns 1;refine(yB (ds:=jO 0 5) (ys:=(jO 0 5).map (Mr (cell ns 1))) rfl (by decide) (yA 9 _ (jO 0 5) _ fun d hd=>?_)).trans (by rfl)
 have hd:d∈[D.int 0,.int 1,.int 2,.int 3,.int 4]:=hd;have go:∀(k:Nat) (j:Int),0<j->([1,2,4,8,16]:List Int).getD k 1=j->qe (.lst [.int 1,.int 2,.int 4,.int 8,.int 16]) (.int (k:Int))=.ok (.fz (.int j))->zA (.int (cell ns 1)) (.int j)=.ok (.fz (.int (cell ns 1/j)))->∀ A:Option En,∃ w,(eOp dEq (eOp zy (eOp zA (qj jx [(q9 0),(eC (.int 1))]) (eOp qe (qK [(eC (.int 1)),(eC (.int 2)),(eC (.int 4)),(eC (.int 8)),(eC (.int 16))]) (q9 9))) (eC (.int 2))) (eC (.int 1))) [some (.fz (.lst (ns.map D.int))),A,none,none,none,none,none,none,none,some (.fz (.int (k:Int)))]=.ok w/\w.st=.ok (Mr (cell ns 1) (.int (k:Int))):=fun k j j0 gj ix dv A=>by
  refine⟨.fz (.bl (zU (cell ns 1) k)),?_,by show R.ok _=R.ok (D.bl (zU (cell ns 1) ((k:Int)).toNat));rw [tQ]⟩
  unfold zU;rw [gj];simp only [EV,reduceAdd,reduceSub,reduceLeDiff,c1,ix,dv,kz (i:=cell ns 1/j) (j:=2) (by decide)]
 simp only [gl,fj,dr]at hd;rcases hd with rfl|rfl|rfl|rfl|rfl
 ·exact go 0 1 (by decide) rfl rfl (y6 (i:=cell ns 1) (j:=1) (by decide) (by decide)) _
 ·exact go 1 2 (by decide) rfl rfl (y6 (i:=cell ns 1) (j:=2) (by decide) (by decide)) _
 ·exact go 2 4 (by decide) rfl rfl (y6 (i:=cell ns 1) (j:=4) (by decide) (by decide)) _
 ·exact go 3 8 (by decide) rfl rfl (y6 (i:=cell ns 1) (j:=8) (by decide) (by decide)) _
 ·exact go 4 16 (by decide) rfl rfl (y6 (i:=cell ns 1) (j:=16) (by decide) (by decide)) _
theorem qfY(ns:List Int)(wd:Bool)(hl:ns.length<=63){s0 s1:Option En}{k r:Int}(Y:-7<=k)(Z:k<=7)(r0:1<=r)(r1:r<=5000)(b0 O U z B:Bool) :
  uE [s0,s1,some (.ow (.lst [.bl b0,.bl O,.bl U,.bl z,.bl B])),some (.ow (.lst (yY U (jZ z B (jY ns wd))))),some (.fz (.int (if b0 then 8 else k))),some (.ow (.lst (if O then []else(zr ns wd).map qB))),some (.fz (.int (xg z B r))),none,none]=.rt (.fz (.bl true)):=by
 have g0:GN (jZ z B (jY ns wd)):=by
  unfold jZ;cases B
  ·cases z
   ·exact qfM
   ·exact qeM (qeE ns wd) (UT ns wd)
  ·exact Mp
 cases b0
 ·have ke:=qf9 k Y Z;cases O
  ·have gm:=qf0 ns wd;have me:zq [.fz (.lst ((zr ns wd).map qB))]=.ok (.ow (.lst ((zr ns wd).map qB))):=qeX (by rw [gy];exact gm.l1) (by rw [gy];exact gm.l2) (fun n hn=>qeY gm (fun _ _=>rfl) (by simpa using hn))
   cases U
   ·have no:=qeR g0;cases z
    ·have fi:=UL ns wd;have le:=qen ns wd;cases B
     ·obtain⟨h,W,hh,H⟩:=qfs k Y Z;obtain⟨L,d1,d2,O⟩:=qfC fi le;have pn:=qfj ⟨(L-4).toNat,by omega⟩
      have pn:(jE (L-4)).length<=40:=by
       rw [show((L-4).toNat:Int)=L-4 by omega]at pn
       exact pn
      have pp:∀ y∈jE (L-4),1<=y:=fun y hy=>by have:=qfg _ y hy;omega
      obtain⟨w,w7,we⟩:=qfu h hh _ pp pn;obtain⟨c,ce⟩:=qfv h hh (jE (L-4));have pg:=qf7 (n:=.lst [vx]) (m:=.lst ((zr ns wd).map qB)) ke me qfA qfb O (qfr k h W H _ pp pn) we ce (qfw w w7) rfl;exact t11 qfU pg (qfI pg) rfl rfl (by kernel_rfl)
     ·have pg:=qf6 (n:=.lst ze) (m:=.lst ((zr ns wd).map qB)) ke me qfz (qfd r r0 r1) (qfB fi le) rfl;exact t11 qfT pg (qfG pg) rfl rfl (by kernel_rfl)
    ·have pg:=qf5 (r:=.int 0) ke me no qfc rfl;exact t11 qfS pg (qfF pg) rfl rfl (by kernel_rfl)
   ·have nb:=qfN g0;have l24:=g0.l;obtain⟨hs,ht,ok⟩:=qfL (jZ z B (jY ns wd)).length (by omega)
    have pg:=qf4 (r:=.int (xg z B r)) ke me nb (kG (.intf _ _));refine t11 (t:=("notes":Str)++yj (jZ z B (jY ns wd)).length) ?_ pg (qfJ pg hs ht) (kG (.intf _ _)) rfl ok;show vt [_,.fz (.int ((((jZ z B (jY ns wd)).map ntD++[QZ]).length:Int)-1))]=_;rw [show(((jZ z B (jY ns wd)).map ntD++[QZ]).length:Int)-1=((jZ z B (jY ns wd)).length:Int)by simp]
    exact qfR hs ht
  ·have pg:=qf3 (n:=.lst (yY U (jZ z B (jY ns wd)))) (r:=.int (xg z B r)) ke qfe rfl;exact t11 qfQ pg (qfH pg) rfl rfl (by kernel_rfl)
 ·have pg:=qf2 (n:=.lst (yY U (jZ z B (jY ns wd)))) (m:=.lst (if O then []else(zr ns wd).map qB)) (r:=.int (xg z B r)) qfa rfl
  exact t11 qfP pg (qfE pg) rfl rfl (by kernel_rfl)
theorem qfZ(ns:List Int)(O:ns.length<=63):yS [.fz (.lst (ns.map D.int))]=.ok (.fz (.bl true)):=by
 obtain⟨k,ke,k0,k1⟩:=qfV ns;obtain⟨r,re,r0,r1⟩:=qfW ns (cell ns 0%4==3);have we:=qeB ns;have ne:=qeA ns O (cell ns 0%4==3);have me:=qem ns (cell ns 0%4==3);have nl:=UT ns (cell ns 0%4==3);have z:L3.zF ((jY ns (cell ns 0%4==3)).map ntD) none (some 40)=(jY ns (cell ns 0%4==3)).map ntD:=by
  have:=UQ ((jY ns (cell ns 0%4==3)).map ntD) 40;rw [fJ (by rw [gy];omega)]at this
  exact this
 generalize hw:(cell ns 0%4==3)=wd at *;have bi:=qfX ns (some (.fz (.bl wd)));unfold yS UK;rw [vC];simp only [gU,tG,gN,tU,tW,tV,reduceAdd,reduceSub,tD,tM];rw [qF,show(qi 1 (qj kS [(q9 0)])) [some (.fz (.lst (ns.map D.int))),none,none,none,none,none,none,none,none]=.nx [some (.fz (.lst (ns.map D.int))),some (.fz (.bl wd)),none,none,none,none,none,none,none]by simp only [EV,reduceAdd,reduceSub,reduceLeDiff,we],qJ]
 rw [qF,JS,bi,JR,JT,wn];simp only [pT,pS];rw [qJ];generalize zU (cell ns 1) 0=b0;generalize zU (cell ns 1) 1=b1;generalize zU (cell ns 1) 2=b2;generalize zU (cell ns 1) 3=b3;generalize zU (cell ns 1) 4=b4;rw [qF,show ∀ B:Option En,(qi 3 (eSl (qj kZ [(q9 0),(q9 1)]) oNo (oE (eC (.int 40))))) [some (.fz (.lst (ns.map D.int))),some (.fz (.bl wd)),B,none,none,none,none,none,none]=.nx [some (.fz (.lst (ns.map D.int))),some (.fz (.bl wd)),B,some (.ow (.lst ((jY ns wd).map ntD))),none,none,none,none,none]from fun B=>by simp only [EV,reduceAdd,reduceSub,reduceLeDiff,ne,z],qJ]
 rw [qF,show ∀ B C:Option En,(qi 4 (qj kW [(q9 0)])) [some (.fz (.lst (ns.map D.int))),some (.fz (.bl wd)),B,C,none,none,none,none,none]=.nx [some (.fz (.lst (ns.map D.int))),some (.fz (.bl wd)),B,C,some (.fz (.int k)),none,none,none,none]from fun B C=>by simp only [EV,reduceAdd,reduceSub,reduceLeDiff,ke],qJ]
 rw [qF,show ∀ B C K:Option En,(qi 5 (qj x6 [(q9 0),(q9 1)])) [some (.fz (.lst (ns.map D.int))),some (.fz (.bl wd)),B,C,K,none,none,none,none]=.nx [some (.fz (.lst (ns.map D.int))),some (.fz (.bl wd)),B,C,K,some (.ow (.lst ((zr ns wd).map qB))),none,none,none]from fun B C K=>by simp only [EV,reduceAdd,reduceSub,reduceLeDiff,me],qJ]
 rw [qF,show ∀ B C K M:Option En,(qi 6 (qj yO [(q9 0),(q9 1)])) [some (.fz (.lst (ns.map D.int))),some (.fz (.bl wd)),B,C,K,M,none,none,none]=.nx [some (.fz (.lst (ns.map D.int))),some (.fz (.bl wd)),B,C,K,M,some (.fz (.int r)),none,none]from fun B C K M=>by simp only [EV,reduceAdd,reduceSub,reduceLeDiff,re],qJ]
 rw [t6 (by omega),qfY ns wd O k0 k1 r0 r1]
 rfl
section
variable{P:Program}{w:World}{K:Frag}{mg:Str->Option Value}{base:Heap}
variable(P w base)
theorem qg0(F:FunF K mg "step_of" ZB ["head"])(z:CC P w K mg "LETTERS_BY_STEPS" Zv) :
  C0 P w K mg base 1 "step_of" ["head"] yM:=by
 have S:FnScope ["head"] ["head"] (defScope ZB):=by constructor<;>first|rfl|decide +kernel
 refine fD F S fun _ _ _ _ _ _ _ hr=>?_
 exact(qk (qz (qq qV (qq wT qc (Zg (qa 0) qc)) (XE (gb z) (Zg (qa 0) qc)))))
theorem qg1(F:FunF K mg "small_lines" ZC ["step","clef"])(z:mg "max"=none)(B:CC P w K mg "LOWEST_LINES" Zw)(O:CC P w K mg "STEPS_BETWEEN" Zx) :
  C0 P w K mg base 1 "small_lines" ["step","clef"] ZD:=by
 have S:FnScope ["step","clef","lowest","above","below"] ["step","clef"] (defScope ZC):=by constructor<;>first|rfl|decide +kernel
 refine fD F S fun _ _ _ _ _ _ _ hr=>?_
 have nd:=S.nd;exact(qh (qm 2 nd (ql (gb B) (qa 1)))
 (qh (qm 3 nd (qq jF (qq jF (qa 0) (qa 2)) (gb O)))
 (qh (qm 4 nd (qq jF (qa 2) (qa 0)))
 (qk (qz (qq yr (ju (qdk rfl) z pZ (qb (qa 3) (qb (qa 4) (qb qc qg)))) qc))))))
theorem qg2(F:FunF K mg "prices_behind" ZE ["prices","ahead"])(B:CC P w K mg "CLEFS" kM)(O:CC P w K mg "CHANGE" Zy) :
  C0 P w K mg base 1 "prices_behind" ["prices","ahead"] kN:=by
 have S:FnScope ["prices","ahead"] ["prices","ahead"] (defScope ZE):=by constructor<;>first|rfl|decide +kernel
 refine fD F S fun _ _ _ _ _ _ _ hr=>?_
 have hu:=hu10 hr;have z:(["prices","ahead","clef"]:List Str).Nodup:=by decide +kernel
 exact(qk (qz (vP (n:=1) ["prices","ahead","clef"] (SI.c (zW (gb B))) (zk 2) (fun _ _ _ _ _=>(qQ 2 z)) (fun _ _ _ _ _=>.nil) (fun _ _ _ _ _=>(Kh (j7 (jT hu) (qa 2) (qa 1)) (ql (qa 0) (qa 2)) (qq qV (ql (qa 0) (qa 2)) (gb O)))))))
theorem qg3(F:FunF K mg "is_whole" ZF ["thing"])(z:mg "isinstance"=none)(B:mg "int"=none)(O:mg "bool"=none) :
  C0 P w K mg base 1 "is_whole" ["thing"] yN:=by
 have S:FnScope ["thing"] ["thing"] (defScope ZF):=by constructor<;>first|rfl|decide +kernel
 refine fD F S fun _ _ _ _ _ _ _ hr=>?_
 exact(qk (qz (ku (Q1 .int (qa 0) z B) (xM (qag (Q1 .bool (qa 0) z O))))))
theorem qg4(F:FunF K mg "is_list_within" ZG ["thing","least","most"])(z:mg "isinstance"=none)(B:mg "list"=none)(O:mg "len"=none) :
  C0 P w K mg base 1 "is_list_within" ["thing","least","most"] wA:=by
 have S:FnScope ["thing","least","most"] ["thing","least","most"] (defScope ZG):=by constructor<;>first|rfl|decide +kernel
 refine fD F S fun _ _ _ _ _ _ _ hr=>?_
 exact(qk (qz (ku (Q1 .list (qa 0) z B) (xM (JN vO vO (qa 1) (ju zG O tJ (qb (qa 0) qg)) (qa 2))))))
theorem qg5(F:FunF K mg "end_of" ZI ["sound"]) :
  C0 P w K mg base 1 "end_of" ["sound"] jI:=by
 have S:FnScope ["sound"] ["sound"] (defScope ZI):=by constructor<;>first|rfl|decide +kernel
 refine fD F S fun _ _ _ _ _ _ _ hr=>?_
 exact(qk (qz (qq qV (ql (qa 0) qc) (ql (qa 0) qc))))
theorem qg6(F:FunF K mg "chords" ZJ ["notes"])(B:mg "sorted"=none)(O:mg "tuple"=none) :
  C0 P w K mg base 1 "chords" ["notes"] vS:=by
 have S:FnScope ["notes","pitches","note"] ["notes"] (defScope ZJ):=by constructor<;>first|rfl|decide +kernel
 refine fD F S fun _ _ _ _ _ _ _ hr=>?_
 have nd:=S.nd;have hu:=hu10 hr;have z:(["notes","pitches","note","span"]:List Str).Nodup:=by decide +kernel
 exact(qh (Xr 1 nd JL)
 (qh (jh gW rfl (zW (ju JX B cG (qb (qa 0) qg))) (qQ 2 nd) (qk (qda 1 hu (qb (ql (qa 2) qc) (qb (ql (qa 2) qc) qg)) (jm qg) (ql (qa 2) qc))))
 (qk (qdd 1 (qz (vP (n:=1) ["notes","pitches","note","span"] (SI.c (si_T 1)) (zk 3) (fun _ _ _ _ _=>(qQ 3 z)) (fun _ _ _ _ _=>.nil) (fun _ _ _ _ _=>(zO (qb (ql (qa 3) qc) (qb (ql (qa 3) qc) (qb (wg Xl O boot_tuple (qb (qdf hu (qa 1) (qa 3)) qg)) qg)))))))))))
theorem qg7(F:FunF K mg "pieces" ZK ["length"])(U:CC P w K mg "SHAPES" Qz) :
  C0 P w K mg base 1 "pieces" ["length"] yb:=by
 obtain⟨_,_,z,B,O⟩:=id U;have S:FnScope ["length","row","left","value"] ["length"] (defScope ZK):=by constructor<;>first|rfl|decide +kernel
 refine fD F S fun _ _ _ _ _ _ _ hr=>?_
 have nd:=S.nd;exact(qh (qm 1 nd (jm qg))
 (qh (qm 2 nd (qa 0))
 (qh (jh gW rfl (qaw z B O) (qQ 3 nd) (qk (qai 520 gW (j7 vO (qa 3) (qa 2)) (qh (vh 1 (qa 3))
 (qk (xN 2 nd qaq (qa 3)))))))
 (qk (zj 1)))))
theorem qg8(F:FunF K mg "first_alike" ZL ["low","number","divisor"]) :
  C0 P w K mg base 1 "first_alike" ["low","number","divisor"] uo:=by
 have S:FnScope ["low","number","divisor"] ["low","number","divisor"] (defScope ZL):=by constructor<;>first|rfl|decide +kernel
 refine fD F S fun _ _ _ _ _ _ _ hr=>?_
 exact(qk (qz (qq qV (qa 0) (qq wU (qq jF (qa 1) (qa 0)) (qa 2)))))
theorem qg9(F:FunF K mg "alter_at" ZM ["fifths"]) :
  C0 P w K mg base 1 "alter_at" ["fifths"] uq:=by
 have S:FnScope ["fifths"] ["fifths"] (defScope ZM):=by constructor<;>first|rfl|decide +kernel
 refine fD F S fun _ _ _ _ _ _ _ hr=>?_
 exact(qk (qz (qq yr (qq qV (qa 0) qc) qc)))
theorem qga(F:FunF K mg "in_order" ZN ["bar"])(z:mg "enumerate"=none)(B:mg "sorted"=none) :
  C0 P w K mg base 1 "in_order" ["bar"] vT:=by
 have S:FnScope ["bar","spots","voice","row","place","number","event"] ["bar"] (defScope ZN):=by constructor<;>first|rfl|decide +kernel
 refine fD F S fun _ _ _ _ _ _ _ hr=>?_
 have nd:=S.nd;exact(qh (qm 1 nd (jm qg))
 (qh (jh gW rfl (kH 0 z) (yu rfl (zP 2 nd (zP 3 nd yt))) (qh (qm 4 nd qc)
 (qk (jh gW rfl (kH 3 z) (yu rfl (zP 5 nd (zP 6 nd yt))) (qh (vh 1 (zO (qb (qa 4) (qb (qa 2) (qb (qa 5) qg)))))
 (qk (xN 4 nd Q2 (ql (qa 6) qc))))))))
 (qk (qz (ju JX B cG (qb (qa 1) qg))))))
theorem qgb(F:FunF K mg "tied_to_next" ZO ["event"]) :
  C0 P w K mg base 1 "tied_to_next" ["event"] ur:=by
 have S:FnScope ["event"] ["event"] (defScope ZO):=by constructor<;>first|rfl|decide +kernel
 refine fD F S fun _ _ _ _ _ _ _ hr=>?_
 have hu:=hu10 hr;exact(qh (qG (st_w (wX (j7 X5 (qa 0) wS) (wX (j7 (jT hu) (ql (qa 0) qc) jq) (kt (zV (qX (ql (qa 0) qc))))))) (qk (qz wS)) qI)
 (qk (qz (ql (qa 0) qc))))
theorem qgc(F:FunF K mg "signs_in" ZP ["bar"])(B:mg "len"=none) :
  C0 P w K mg base 1 "signs_in" ["bar"] ut:=by
 have S:FnScope ["bar","many","voice","event"] ["bar"] (defScope ZP):=by constructor<;>first|rfl|decide +kernel
 refine fD F S fun _ _ _ _ _ _ _ hr=>?_
 have nd:=S.nd;have hu:=hu10 hr;have z:(["bar","many","voice","event","head"]:List Str).Nodup:=by decide +kernel
 exact(qh (qm 1 nd qc)
 (qh (zE 0 (jh gW rfl (zX 0) (qQ 2 nd) (qk (zE 2 (jh gW rfl (zX 2) (qQ 3 nd) (qk (qG (j7 (jT hu) (ql (qa 3) qc) jq) (qk (xN 1 nd Q2 (ju zG B tJ (qb (vP (n:=1) ["bar","many","voice","event","head"] (SI.c (zW (ql (qa 3) qc))) (zk 4) (fun _ _ _ _ _=>(qQ 4 z)) (fun _ _ _ _ _=>(.one (j7 qcx (ql (qa 4) qc) wS))) (fun _ _ _ _ _=>(qa 4))) qg)))) qI)))))))
 (qk (zj 1))))
theorem qgd(F:FunF K mg "told_length" ZQ ["told"]) :
  C0 P w K mg base 1 "told_length" ["told"] vq:=by
 have S:FnScope ["told"] ["told"] (defScope ZQ):=by constructor<;>first|rfl|decide +kernel
 refine fD F S fun _ _ _ _ _ _ _ hr=>?_
 exact(qk (qz (qq wT (ql (qa 0) qc) (ql (qa 0) qc))))
theorem qge(F:FunF K mg "rises" ZR ["meter","at"]) :
  C0 P w K mg base 1 "rises" ["meter","at"] wB:=by
 have S:FnScope ["meter","at"] ["meter","at"] (defScope ZR):=by constructor<;>first|rfl|decide +kernel
 refine fD F S fun _ _ _ _ _ _ _ hr=>?_
 have hu:=hu10 hr;exact(qh (qG (j7 (jT hu) (qa 1) qc) (qk (qz (vM (jT hu) (ql (ql (qa 0) qc) qc) qc))) qI)
 (qk (qz (vM Jt (ql (ql (qa 0) (qa 1)) qc) (ql (ql (qa 0) (qq jF (qa 1) qc)) qc)))))
theorem qgf(F:FunF K mg "_law_cell" ZT ["_law_script","_law_k"])(z:mg "len"=none) :
  C0 P w K mg base 1 "_law_cell" ["_law_script","_law_k"] jx:=by
 have S:FnScope ["_law_script","_law_k"] ["_law_script","_law_k"] (defScope ZT):=by constructor<;>first|rfl|decide +kernel
 refine fD F S fun _ _ _ _ _ _ _ hr=>?_
 exact(qh (qG (j7 vN (qa 1) (ju zG z tJ (qb (qa 0) qg))) (qk (qz (ql (qa 0) (qa 1)))) qI)
 (qk (qz qc)))
theorem qgg(F:FunF K mg "_law_mix" ZU ["_law_cell_here","_law_prime","_law_many"]) :
  C0 P w K mg base 1 "_law_mix" ["_law_cell_here","_law_prime","_law_many"] jv:=by
 have S:FnScope ["_law_cell_here","_law_prime","_law_many"] ["_law_cell_here","_law_prime","_law_many"] (defScope ZU):=by constructor<;>first|rfl|decide +kernel
 refine fD F S fun _ _ _ _ _ _ _ hr=>?_
 exact(qk (qz (qq wU (qq wU (qq wT (qa 0) qc) (qa 1)) (qa 2))))
theorem qgh(F:FunF K mg "_law_apart" ZV ["_law_note_here","_law_notes_here"]) :
  C0 P w K mg base 1 "_law_apart" ["_law_note_here","_law_notes_here"] kO:=by
 have S:FnScope ["_law_note_here","_law_notes_here","_law_other"] ["_law_note_here","_law_notes_here"] (defScope ZV):=by constructor<;>first|rfl|decide +kernel
 refine fD F S fun _ _ _ _ _ _ _ hr=>?_
 have nd:=S.nd;have hu:=hu10 hr;exact(qh (zE 1 (jh gW rfl (zX 1) (qQ 2 nd) (qk (qG (st_w (wW (j7 (jT hu) (ql (qa 0) qc) (ql (qa 2) qc)) (wW (j7 vN (ql (qa 0) qc) (qq qV (ql (qa 2) qc) (ql (qa 2) qc))) (kq (j7 vN (ql (qa 2) qc) (qq qV (ql (qa 0) qc) (ql (qa 0) qc))))))) (qk (qz vL)) qI))))
 (qk (qz vL)))
theorem qgi(F:FunF K mg "_law_meets" ZW ["_law_note_here","_law_notes_here"])(z:mg "len"=none) :
  C0 P w K mg base 1 "_law_meets" ["_law_note_here","_law_notes_here"] kP:=by
 have S:FnScope ["_law_note_here","_law_notes_here","_law_seen","_law_other"] ["_law_note_here","_law_notes_here"] (defScope ZW):=by constructor<;>first|rfl|decide +kernel
 refine fD F S fun _ _ _ _ _ _ _ hr=>?_
 have nd:=S.nd;have hu:=hu10 hr;exact(qh (qm 2 nd JL)
 (qh (zE 1 (jh gW rfl (zX 1) (qQ 3 nd) (qk (qG (st_w (wW (j7 vN (ql (qa 3) qc) (qq qV (ql (qa 0) qc) (ql (qa 0) qc))) (kq (j7 vN (ql (qa 0) qc) (qq qV (ql (qa 3) qc) (ql (qa 3) qc)))))) (qk (qG (j7 (uW hu) (zO (qb (ql (qa 3) qc) (qb (ql (qa 3) qc) qg))) (zO (qb (ql (qa 0) qc) (qb (ql (qa 0) qc) qg)))) (qk (qcd 2 hu (qb (ql (qa 3) qc) (qb (ql (qa 3) qc) qg)) vL)) qI)) qI))))
 (qk (qz (ju zG z tJ (qb (qa 2) qg))))))
theorem qgj(F:FunF K mg "_law_due" ZX ["_law_bits","_law_many"])(z:mg "str"=none) :
  C0 P w K mg base 1 "_law_due" ["_law_bits","_law_many"] vt:=by
 have S:FnScope ["_law_bits","_law_many"] ["_law_bits","_law_many"] (defScope ZX):=by constructor<;>first|rfl|decide +kernel
 refine fD F S fun _ _ _ _ _ _ _ hr=>?_
 exact(qh (qG (qX (ql (qa 0) qc)) (qk (qz jq)) qI)
 (qh (qG (qX (ql (qa 0) qc)) (qk (qz jq)) qI)
 (qh (qG (qX (ql (qa 0) qc)) (qk (qz (qq Zu jq (wg XW z boot_str (qb (qa 1) qg))))) qI)
 (qh (qG (qX (ql (qa 0) qc)) (qk (qz jq)) qI)
 (qh (qG (qX (ql (qa 0) qc)) (qk (qz jq)) qI)
 (qk (qz jq)))))))
theorem qgk(F:FunF K mg "steps_of" ZY ["bar"])(B:C0 P w K mg base 1 "step_of" ["head"] yM) :
  C0 P w K mg base 2 "steps_of" ["bar"] yc:=by
 have S:FnScope ["bar","row","voice","event"] ["bar"] (defScope ZY):=by constructor<;>first|rfl|decide +kernel
 refine fD F S fun _ _ _ _ _ _ _ hr=>?_
 have nd:=S.nd;have hu:=hu10 hr;have z:(["bar","row","voice","event","head"]:List Str).Nodup:=by decide +kernel
 exact(qh (qm 1 nd (jm qg))
 (qh (zE 0 (jh gW rfl (zX 0) (qQ 2 nd) (qk (zE 2 (jh gW rfl (zX 2) (qQ 3 nd) (qk (qG (j7 (jT hu) (ql (qa 3) qc) jq) (qk (Qg 1 (vP (n:=1) ["bar","row","voice","event","head"] (SI.c (zW (ql (qa 3) qc))) (zk 4) (fun _ _ _ _ _=>(qQ 4 z)) (fun _ _ _ _ _=>.nil) (fun _ _ _ _ _=>(cl B (rm hr) (qb (qa 4) qg)))))) qI)))))))
 (qk (zj 1))))
theorem qgl(F:FunF K mg "lines_of" ZZ ["steps","clef"])(B:C0 P w K mg base 1 "small_lines" ["step","clef"] ZD)(O:mg "sum"=none) :
  C0 P w K mg base 2 "lines_of" ["steps","clef"] QK:=by
 have S:FnScope ["steps","clef"] ["steps","clef"] (defScope ZZ):=by constructor<;>first|rfl|decide +kernel
 refine fD F S fun _ _ _ _ _ _ _ hr=>?_
 have z:(["steps","clef","step"]:List Str).Nodup:=by decide +kernel
 exact(qk (qz (ju (qaA rfl) O boot_sum (qb (vP (n:=1) ["steps","clef","step"] (xO 0) (zk 2) (fun _ _ _ _ _=>(qQ 2 z)) (fun _ _ _ _ _=>.nil) (fun _ _ _ _ _=>(cl B (rm hr) (qb (qa 2) (qb (qa 1) qg))))) qg))))
theorem qgm(F:FunF K mg "is_whole_within" V0 ["thing","low","high"])(z:C0 P w K mg base 1 "is_whole" ["thing"] yN) :
  C0 P w K mg base 2 "is_whole_within" ["thing","low","high"] wC:=by
 have S:FnScope ["thing","low","high"] ["thing","low","high"] (defScope V0):=by constructor<;>first|rfl|decide +kernel
 refine fD F S fun _ _ _ _ _ _ _ hr=>?_
 exact(qk (qz (ku (cl z (rm hr) (qb (qa 0) qg)) (xM (JN vO vO (qa 1) (qa 0) (qa 2))))))
theorem qgn(F:FunF K mg "overlap" V1 ["one","other"])(z:C0 P w K mg base 1 "end_of" ["sound"] jI) :
  C0 P w K mg base 2 "overlap" ["one","other"] kQ:=by
 have S:FnScope ["one","other"] ["one","other"] (defScope V1):=by constructor<;>first|rfl|decide +kernel
 refine fD F S fun _ _ _ _ _ _ _ hr=>?_
 have hu:=hu10 hr;exact(qk (qz (ku (vM (jT hu) (ql (qa 0) qc) (ql (qa 1) qc)) (ku (vM vN (ql (qa 0) qc) (cl z (rm hr) (qb (qa 1) qg))) (xM (vM vN (ql (qa 1) qc) (cl z (rm hr) (qb (qa 0) qg))))))))
theorem qgo(F:FunF K mg "rest_events" V2 ["length"])(B:C0 P w K mg base 1 "pieces" ["length"] yb) :
  C0 P w K mg base 2 "rest_events" ["length"] yd:=by
 have S:FnScope ["length"] ["length"] (defScope V2):=by constructor<;>first|rfl|decide +kernel
 refine fD F S fun _ _ _ _ _ _ _ hr=>?_
 have z:(["length","value"]:List Str).Nodup:=by decide +kernel
 exact(qk (qz (vP (n:=1) ["length","value"] (SI.c (zW (cl B (rm hr) (qb (qa 0) qg)))) (zk 1) (fun _ _ _ _ _=>(qQ 1 z)) (fun _ _ _ _ _=>.nil) (fun _ _ _ _ _=>(zO (qb jq (qb (qa 1) qg)))))))
theorem qgp(F:FunF K mg "note_events" V3 ["chord","first","behind"])(z:C0 P w K mg base 1 "end_of" ["sound"] jI)(B:C0 P w K mg base 1 "pieces" ["length"] yb) :
  C0 P w K mg base 2 "note_events" ["chord","first","behind"] uu:=by
 have S:FnScope ["chord","first","behind","end","row","tick","value"] ["chord","first","behind"] (defScope V3):=by constructor<;>first|rfl|decide +kernel
 refine fD F S fun _ _ _ _ _ _ _ hr=>?_
 have nd:=S.nd;exact(qh (qm 3 nd (cl z (rm hr) (qb (qa 0) qg)))
 (qh (qm 4 nd (jm qg))
 (qh (qm 5 nd (qa 1))
 (qh (jh gW rfl (zW (cl B (rm hr) (qb (qq jF (qa 2) (qa 1)) qg))) (qQ 6 nd) (qh (xN 5 nd Q2 (qa 6))
 (qk (vh 4 (zO (qb jq (qb (qa 6) (qb (ql (qa 0) qc) (qb (vM vN (qa 5) (qa 3)) qg)))))))))
 (qk (zj 4))))))
theorem qgq(F:FunF K mg "fifth" V4 ["pitch","key"])(z:C0 P w K mg base 1 "first_alike" ["low","number","divisor"] uo) :
  C0 P w K mg base 2 "fifth" ["pitch","key"] V5:=by
 have S:FnScope ["pitch","key"] ["pitch","key"] (defScope V4):=by constructor<;>first|rfl|decide +kernel
 refine fD F S fun _ _ _ _ _ _ _ hr=>?_
 exact(qk (qz (cl z (rm hr) (qb (qq jF (qa 1) qc) (qb (qq wT qc (qa 0)) (qb qc qg))))))
theorem qgr(F:FunF K mg "own_alter" V6 ["letter","key"])(z:C0 P w K mg base 1 "first_alike" ["low","number","divisor"] uo)(B:C0 P w K mg base 1 "alter_at" ["fifths"] uq)(O:CC P w K mg "LETTERS_BY_FIFTHS" uk) :
  C0 P w K mg base 2 "own_alter" ["letter","key"] V7:=by
 have S:FnScope ["letter","key"] ["letter","key"] (defScope V6):=by constructor<;>first|rfl|decide +kernel
 refine fD F S fun _ _ _ _ _ _ _ hr=>?_
 exact(qk (qz (cl B (rm hr) (qb (cl z (rm hr) (qb (qq jF (qa 1) qc) (qb (qq jF (XE (gb O) (qa 0)) qc) (qb qc qg)))) qg))))
theorem qgs(F:FunF K mg "width" V8 ["bar"])(B:C0 P w K mg base 1 "in_order" ["bar"] vT)(O:C0 P w K mg base 1 "signs_in" ["bar"] ut)(U:mg "len"=none)(W:mg "set"=none)(Y:CC P w K mg "BAR_WIDTH" QE)(Z:CC P w K mg "PLACE_WIDTH" QF) :
  C0 P w K mg base 2 "width" ["bar"] vU:=by
 have S:FnScope ["bar","places"] ["bar"] (defScope V8):=by constructor<;>first|rfl|decide +kernel
 refine fD F S fun _ _ _ _ _ _ _ hr=>?_
 have nd:=S.nd;have z:(["bar","places","spot"]:List Str).Nodup:=by decide +kernel
 exact(qh (qm 1 nd (qdz (vP (n:=1) ["bar","places","spot"] (SI.c (zW (cl B (rm hr) (qb (qa 0) qg)))) (zk 2) (fun _ _ _ _ _=>(qQ 2 z)) (fun _ _ _ _ _=>.nil) (fun _ _ _ _ _=>(ql (qa 2) qc))) U W))
 (qk (qz (qq qV (qq qV (gb Y) (qq wT (gb Z) (qa 1))) (cl O (rm hr) (qb (qa 0) qg))))))
theorem qgt(F:FunF K mg "bar_lengths" V9 ["meter","many"])(z:C0 P w K mg base 1 "told_length" ["told"] vq)(B:mg "range"=none) :
  C0 P w K mg base 2 "bar_lengths" ["meter","many"] ye:=by
 have S:FnScope ["meter","many","changes","told","row","length","bar"] ["meter","many"] (defScope V9):=by constructor<;>first|rfl|decide +kernel
 refine fD F S fun _ _ _ _ _ _ _ hr=>?_
 have nd:=S.nd;have hu:=hu10 hr;exact(qh (qm 2 nd Kw)
 (qh (zE 0 (jh gW rfl (zX 0) (qQ 3 nd) (qk (Ky 2 hu (ql (qa 3) qc) (cl z (rm hr) (qb (qa 3) qg))))))
 (qh (qm 4 nd (jm qg))
 (qh (qm 5 nd qc)
 (qh (jh gW rfl (ky (qa 1) B) (qQ 6 nd) (qh (qm 5 nd (qaz (qa 2) (qa 6) (qa 5)))
 (qk (vh 4 (qa 5)))))
 (qk (zj 4)))))))
theorem qgu(F:FunF K mg "stands" Va ["meter","tick"])(z:C0 P w K mg base 1 "told_length" ["told"] vq) :
  C0 P w K mg base 2 "stands" ["meter","tick"] uv:=by
 have S:FnScope ["meter","tick","bar","begin","length","told","told_begin"] ["meter","tick"] (defScope Va):=by constructor<;>first|rfl|decide +kernel
 refine fD F S fun _ _ _ _ _ _ _ hr=>?_
 have nd:=S.nd;exact(qh (qm 2 nd qc)
 (qh (qm 3 nd qc)
 (qh (qm 4 nd qc)
 (qh (zE 0 (jh gW rfl (zX 0) (qQ 5 nd) (qh (qm 6 nd (qq qV (qa 3) (qq wT (qq jF (ql (qa 5) qc) (qa 2)) (qa 4))))
 (qh (qG (j7 vN (qa 1) (qa 6)) (qk qah) qI)
 (qh (qm 2 nd (ql (qa 5) qc))
 (qh (qm 3 nd (qa 6))
 (qk (qm 4 nd (cl z (rm hr) (qb (qa 5) qg))))))))))
 (qk (qz (zO (qb (qq qV (qa 2) (qq yr (qq jF (qa 1) (qa 3)) (qa 4))) (qb (qq wU (qq jF (qa 1) (qa 3)) (qa 4)) qg)))))))))
theorem qgv(F:FunF K mg "free_voice" Vb ["voices","tick"])(z:C0 P w K mg base 1 "end_of" ["sound"] jI)(B:mg "enumerate"=none)(O:mg "len"=none) :
  C0 P w K mg base 2 "free_voice" ["voices","tick"] Vc:=by
 have S:FnScope ["voices","tick","number","voice"] ["voices","tick"] (defScope Vb):=by constructor<;>first|rfl|decide +kernel
 refine fD F S fun _ _ _ _ _ _ _ hr=>?_
 have nd:=S.nd;exact(qh (jh gW rfl (kH 0 B) (yu rfl (zP 2 nd (zP 3 nd yt))) (qk (qG (j7 vO (cl z (rm hr) (qb (ql (qa 3) (wj qc)) qg)) (qa 1)) (qk (zj 2)) qI)))
 (qk (qz (ju zG O tJ (qb (qa 0) qg)))))
theorem qgw(F:FunF K mg "_law_large" Vd ["_law_script"])(z:C0 P w K mg base 1 "_law_cell" ["_law_script","_law_k"] jx)(B:C0 P w K mg base 1 "_law_mix" ["_law_cell_here","_law_prime","_law_many"] jv)(O:mg "len"=none) :
  C0 P w K mg base 2 "_law_large" ["_law_script"] uw:=by
 have S:FnScope ["_law_script"] ["_law_script"] (defScope Vd):=by constructor<;>first|rfl|decide +kernel
 refine fD F S fun _ _ _ _ _ _ _ hr=>?_
 have hu:=hu10 hr;exact(qk (qz (vM (jT hu) (cl B (rm hr) (qb (qq qV (cl z (rm hr) (qb (qa 0) (qb qc qg))) (qq wT qc (ju zG O tJ (qb (qa 0) qg)))) (qb qc (qb qc qg)))) qc)))
theorem qgx(F:FunF K mg "_law_note" Ve ["_law_cell_here","_law_notes_here","_law_wide_here"])(z:C0 P w K mg base 1 "_law_mix" ["_law_cell_here","_law_prime","_law_many"] jv) :
  C0 P w K mg base 2 "_law_note" ["_law_cell_here","_law_notes_here","_law_wide_here"] kR:=by
 have S:FnScope ["_law_cell_here","_law_notes_here","_law_wide_here","_law_start","_law_length","_law_pitch","_law_last","_law_turn"] ["_law_cell_here","_law_notes_here","_law_wide_here"] (defScope Ve):=by constructor<;>first|rfl|decide +kernel
 refine fD F S fun _ _ _ _ _ _ _ hr=>?_
 have nd:=S.nd;have hu:=hu10 hr;exact(qh (qm 3 nd (cl z (rm hr) (qb (qa 0) (qb qc (qb qc qg)))))
 (qh (qm 4 nd (qq qV qc (cl z (rm hr) (qb (qa 0) (qb qc (qb qc qg))))))
 (qh (qm 5 nd (qq qV qc (cl z (rm hr) (qb (qa 0) (qb qc (qb qc qg))))))
 (qh (qm 6 nd qc)
 (qh (qG (qX (qa 2)) (qh (qm 3 nd (cl z (rm hr) (qb (qa 0) (qb qc (qb qc qg)))))
 (qh (qm 4 nd (qq qV qc (cl z (rm hr) (qb (qa 0) (qb qc (qb qc qg))))))
 (qh (qm 5 nd (cl z (rm hr) (qb (qa 0) (qb qc (qb qc qg)))))
 (qk (qm 6 nd qc))))) qI)
 (qh (qm 7 nd (cl z (rm hr) (qb (qa 0) (qb qc (qb qc qg)))))
 (qh (qG (st_w (wW (qX (qa 1)) (kq (j7 (jT hu) (qa 7) qc)))) (qh (qm 3 nd (ql (ql (qa 1) (wj qc)) qc))
 (qk (qm 4 nd (ql (ql (qa 1) (wj qc)) qc)))) qI)
 (qh (qG (st_w (wW (qX (qa 1)) (wW (j7 (jT hu) (qa 7) qc) (kq (j7 vO (qq qV (ql (ql (qa 1) (wj qc)) qc) (ql (ql (qa 1) (wj qc)) qc)) (qa 6)))))) (qh (qm 3 nd (qq qV (ql (ql (qa 1) (wj qc)) qc) (ql (ql (qa 1) (wj qc)) qc)))
 (qk (qG (j7 (jT hu) (cl z (rm hr) (qb (qa 0) (qb qc (qb qc qg)))) qc) (qk (qm 5 nd (ql (ql (qa 1) (wj qc)) qc))) qI))) qI)
 (qk (qz (zO (qb (qa 3) (qb (qa 4) (qb (qa 5) qg))))))))))))))
theorem qgy(F:FunF K mg "_law_wide" Vf ["_law_script"])(z:C0 P w K mg base 1 "_law_cell" ["_law_script","_law_k"] jx) :
  C0 P w K mg base 2 "_law_wide" ["_law_script"] kS:=by
 have S:FnScope ["_law_script"] ["_law_script"] (defScope Vf):=by constructor<;>first|rfl|decide +kernel
 refine fD F S fun _ _ _ _ _ _ _ hr=>?_
 have hu:=hu10 hr;exact(qk (qz (vM (jT hu) (qq wU (cl z (rm hr) (qb (qa 0) (qb qc qg))) qc) qc)))
theorem qgz(F:FunF K mg "_law_step" Vg ["_law_cell_here","_law_bar","_law_wide_here"])(z:C0 P w K mg base 1 "_law_mix" ["_law_cell_here","_law_prime","_law_many"] jv)(B:mg "len"=none)(O:mg "min"=none) :
  C0 P w K mg base 2 "_law_step" ["_law_cell_here","_law_bar","_law_wide_here"] kU:=by
 have S:FnScope ["_law_cell_here","_law_bar","_law_wide_here","_law_units","_law_least","_law_most","_law_unit","_law_low","_law_high"] ["_law_cell_here","_law_bar","_law_wide_here"] (defScope Vg):=by constructor<;>first|rfl|decide +kernel
 refine fD F S fun _ _ _ _ _ _ _ hr=>?_
 have nd:=S.nd;exact(qh (qm 3 nd (jm (qb qc (qb qc (qb qc (qb qc (qb qc (qb qc (qb qc qg)))))))))
 (qh (qm 4 nd qc)
 (qh (qm 5 nd qc)
 (qh (qG (qX (qa 2)) (qh (qm 3 nd (jm (qb qc (qb qc (qb qc (qb qc (qb qc qg)))))))
 (qh (qm 4 nd qc)
 (qk (qm 5 nd qc)))) qI)
 (qh (qm 6 nd (ql (qa 3) (cl z (rm hr) (qb (qa 0) (qb qc (qb (ju zG B tJ (qb (qa 3) qg)) qg))))))
 (qh (qm 7 nd (qq yr (qq jF (qq qV (qa 4) (qa 6)) qc) (qa 6)))
 (qh (qm 8 nd (ju (KA rfl) O c8 (qb qc (qb (qq yr (qa 5) (qa 6)) qg))))
 (qk (qz (zO (qb (qa 1) (qb (qq qV (qa 7) (cl z (rm hr) (qb (qa 0) (qb qc (qb (qq qV (qq jF (qa 8) (qa 7)) qc) qg))))) (qb (qa 6) qg)))))))))))))
theorem qgA(F:FunF K mg "_law_key" Vh ["_law_script"])(z:C0 P w K mg base 1 "_law_cell" ["_law_script","_law_k"] jx)(B:C0 P w K mg base 1 "_law_mix" ["_law_cell_here","_law_prime","_law_many"] jv) :
  C0 P w K mg base 2 "_law_key" ["_law_script"] kW:=by
 have S:FnScope ["_law_script"] ["_law_script"] (defScope Vh):=by constructor<;>first|rfl|decide +kernel
 refine fD F S fun _ _ _ _ _ _ _ hr=>?_
 exact(qk (qz (qq jF (cl B (rm hr) (qb (cl z (rm hr) (qb (qa 0) (qb qc qg))) (qb qc (qb qc qg)))) qc)))
theorem qgB(F:FunF K mg "_law_space" Vi ["_law_script","_law_wide_here"])(z:C0 P w K mg base 1 "_law_cell" ["_law_script","_law_k"] jx)(B:C0 P w K mg base 1 "_law_mix" ["_law_cell_here","_law_prime","_law_many"] jv) :
  C0 P w K mg base 2 "_law_space" ["_law_script","_law_wide_here"] yO:=by
 have S:FnScope ["_law_script","_law_wide_here"] ["_law_script","_law_wide_here"] (defScope Vi):=by constructor<;>first|rfl|decide +kernel
 refine fD F S fun _ _ _ _ _ _ _ hr=>?_
 exact(qh (qG (qX (qa 1)) (qk (qz (qq qV qc (cl B (rm hr) (qb (cl z (rm hr) (qb (qa 0) (qb qc qg))) (qb qc (qb qc qg))))))) qI)
 (qk (qz (qq qV qc (cl B (rm hr) (qb (cl z (rm hr) (qb (qa 0) (qb qc qg))) (qb qc (qb qc qg))))))))
theorem qgC(F:FunF K mg "clef_prices" Vk ["bars"])(O:C0 P w K mg base 2 "steps_of" ["bar"] yc)(U:C0 P w K mg base 2 "lines_of" ["steps","clef"] QK)(W:C0 P w K mg base 1 "prices_behind" ["prices","ahead"] kN)(B:mg "reversed"=none)(Y:mg "min"=none)(Z:mg "list"=none)(xu:CC P w K mg "CLEFS" kM) :
  C0 P w K mg base 3 "clef_prices" ["bars"] kX:=by
 have S:FnScope ["bars","told","prices","bar","steps"] ["bars"] (defScope Vk):=by constructor<;>first|rfl|decide +kernel
 refine fD F S fun _ _ _ _ _ _ _ hr=>?_
 have nd:=S.nd;have z:(["bars","told","prices","bar","steps","clef"]:List Str).Nodup:=by decide +kernel
 exact(qh (qm 1 nd (jm qg))
 (qh (qm 2 nd (jm (qb qc (qb qc (qb qc qg)))))
 (qh (jh gW rfl (qdr 0 B) (qQ 3 nd) (qh (qm 4 nd (cl O (rm hr) (qb (qa 3) qg)))
 (qh (qm 2 nd (vP (n:=1) ["bars","told","prices","bar","steps","clef"] (SI.c (zW (gb xu))) (zk 5) (fun _ _ _ _ _=>(qQ 5 z)) (fun _ _ _ _ _=>.nil) (fun _ _ _ _ _=>(qq qV (cl U (rm hr) (qb (qa 4) (qb (qa 5) qg))) (ju (XH rfl) Y c8 (qb (cl W (rm hr) (qb (qa 2) (qb (qa 5) qg))) qg))))))
 (qk (zE 2 (vh 1 (qa 2)))))))
 (qk (qz (qd2 (qa 1) Z B))))))
theorem qgD(F:FunF K mg "is_tuple_within" Vl ["thing","bounds"])(B:C0 P w K mg base 2 "is_whole_within" ["thing","low","high"] wC)(O:mg "isinstance"=none)(U:mg "tuple"=none)(z:mg "len"=none)(W:mg "zip"=none) :
  C0 P w K mg base 3 "is_tuple_within" ["thing","bounds"] vF:=by
 have S:FnScope ["thing","bounds","number","bound"] ["thing","bounds"] (defScope Vl):=by constructor<;>first|rfl|decide +kernel
 refine fD F S fun _ _ _ _ _ _ _ hr=>?_
 have nd:=S.nd;have hu:=hu10 hr;exact(qh (qG (st_w (wX (zV (qX (Q1 .tuple (qa 0) O U))) (kt (j7 (uW hu) (ju zG z tJ (qb (qa 0) qg)) (ju zG z tJ (qb (qa 1) qg)))))) (qk (qz vL)) qI)
 (qh (jh gW rfl (qcU 0 1 W) (yu rfl (zP 2 nd (zP 3 nd yt))) (qk (qG (zV (qX (cl B (rm hr) (qb (qa 2) (qb (ql (qa 3) qc) (qb (ql (qa 3) qc) qg)))))) (qk (qz vL)) qI)))
 (qk (qz vL))))
theorem qgE(F:FunF K mg "overlaps_one_ahead" Vm ["notes","at"])(z:C0 P w K mg base 2 "overlap" ["one","other"] kQ) :
  C0 P w K mg base 3 "overlaps_one_ahead" ["notes","at"] yf:=by
 have S:FnScope ["notes","at","ahead"] ["notes","at"] (defScope Vm):=by constructor<;>first|rfl|decide +kernel
 refine fD F S fun _ _ _ _ _ _ _ hr=>?_
 have nd:=S.nd;exact(qh (jh gW rfl (zW (JY (qa 0) KR (Qc (qa 1)))) (qQ 2 nd) (qk (qG (qX (cl z (rm hr) (qb (qa 2) (qb (ql (qa 0) (qa 1)) qg)))) (qk (qz vL)) qI)))
 (qk (qz vL)))
theorem qgF(F:FunF K mg "bar_events" Vn ["voice","begin","end"])(B:C0 P w K mg base 1 "end_of" ["sound"] jI)(z:C0 P w K mg base 2 "rest_events" ["length"] yd)(O:C0 P w K mg base 2 "note_events" ["chord","first","behind"] uu)(U:mg "max"=none)(W:mg "min"=none) :
  C0 P w K mg base 3 "bar_events" ["voice","begin","end"] uz:=by
 have S:FnScope ["voice","begin","end","row","filled","chord","first","behind"] ["voice","begin","end"] (defScope Vn):=by constructor<;>first|rfl|decide +kernel
 refine fD F S fun _ _ _ _ _ _ _ hr=>?_
 have nd:=S.nd;exact(qh (qm 3 nd (jm qg))
 (qh (qm 4 nd (qa 1))
 (qh (zE 0 (jh gW rfl (zX 0) (qQ 5 nd) (qh (qm 6 nd (ju (Kz rfl) U pZ (qb (ql (qa 5) qc) (qb (qa 1) qg))))
 (qh (qm 7 nd (ju (KA rfl) W c8 (qb (cl B (rm hr) (qb (qa 5) qg)) (qb (qa 2) qg))))
 (qk (qG (j7 vN (qa 6) (qa 7)) (qh (Qg 3 (cl z (rm hr) (qb (qq jF (qa 6) (qa 4)) qg)))
 (qh (Qg 3 (cl O (rm hr) (qb (qa 5) (qb (qa 6) (qb (qa 7) qg)))))
 (qk (qm 4 nd (qa 7))))) qI))))))
 (qh (Qg 3 (cl z (rm hr) (qb (qq jF (qa 2) (qa 4)) qg)))
 (qk (zj 3))))))
theorem qgG(F:FunF K mg "checked_key" Vo ["key"]){z:Addr}(B:mg "BadKey"=some (.ref z))(O:XCls K z)(U:findIn K (.ref z) "__init__"=some (some (.builtin "ValueError.__init__")))(W:C0 P w K mg base 2 "is_whole_within" ["thing","low","high"] wC)(Y:CC P w K mg "LOWEST_KEY" QA)(Z:CC P w K mg "HIGHEST_KEY" QB) :
  C1 P w K mg base 3 "checked_key" ["key"] zT:=by
 have S:FnScope ["key"] ["key"] (defScope Vo):=by constructor<;>first|rfl|decide +kernel
 refine fX F S fun _ _ _ _ _ _ _ _ hr=>?_
 exact(qh (qG (zV (qX (cl W (rm hr) (qb (qa 0) (qb (gb Y) (qb (gb Z) qg)))))) (qk (Qk (k:=0) O U (rm hr) B jq)) qI)
 (qk (zj 0)))
theorem qgH(F:FunF K mg "name_of" Vp ["pitch","key"])(z:C0 P w K mg base 2 "fifth" ["pitch","key"] V5)(B:C0 P w K mg base 1 "alter_at" ["fifths"] uq)(O:CC P w K mg "LETTERS_BY_FIFTHS" uk)(U:CC P w K mg "PITCHES" XY) :
  C0 P w K mg base 3 "name_of" ["pitch","key"] Vq:=by
 have S:FnScope ["pitch","key","fifths","letter","alter","octave"] ["pitch","key"] (defScope Vp):=by constructor<;>first|rfl|decide +kernel
 refine fD F S fun _ _ _ _ _ _ _ hr=>?_
 have nd:=S.nd;exact(qh (qm 2 nd (cl z (rm hr) (qb (qa 0) (qb (qa 1) qg))))
 (qh (qm 3 nd (Zg (gb O) (qq wU (qq qV (qa 2) qc) qc)))
 (qh (qm 4 nd (cl B (rm hr) (qb (qa 2) qg)))
 (qh (qm 5 nd (qq yr (qq jF (qq jF (qa 0) (qac (gb U) (qa 3))) (qa 4)) qc))
 (qk (qz (zO (qb (qa 3) (qb (qa 4) (qb (qa 5) qg))))))))))
theorem qgI(F:FunF K mg "alter_by_then" Vr ["letter","octave","alters","key"])(z:C0 P w K mg base 2 "own_alter" ["letter","key"] V7) :
  C0 P w K mg base 3 "alter_by_then" ["letter","octave","alters","key"] Vs:=by
 have S:FnScope ["letter","octave","alters","key"] ["letter","octave","alters","key"] (defScope Vr):=by constructor<;>first|rfl|decide +kernel
 refine fD F S fun _ _ _ _ _ _ _ hr=>?_
 have hu:=hu10 hr;exact(qk (qz (qdM hu (qa 2) (qb (qa 0) (qb (qa 1) qg)) (cl z (rm hr) (qb (qa 0) (qb (qa 3) qg))))))
theorem qgJ(F:FunF K mg "checked_room" Vt ["room"]){z:Addr}(B:mg "BadRoom"=some (.ref z))(O:XCls K z)(U:findIn K (.ref z) "__init__"=some (some (.builtin "ValueError.__init__")))(W:C0 P w K mg base 2 "is_whole_within" ["thing","low","high"] wC)(Y:CC P w K mg "LEAST_ROOM" QC)(Z:CC P w K mg "MOST_ROOM" QD) :
  C1 P w K mg base 3 "checked_room" ["room"] vv:=by
 have S:FnScope ["room"] ["room"] (defScope Vt):=by constructor<;>first|rfl|decide +kernel
 refine fX F S fun _ _ _ _ _ _ _ _ hr=>?_
 exact(qh (qG (zV (qX (cl W (rm hr) (qb (qa 0) (qb (gb Y) (qb (gb Z) qg)))))) (qk (Qk (k:=0) O U (rm hr) B jq)) qI)
 (qk (zj 0)))
theorem qgK(F:FunF K mg "refuse_too_wide" Vu ["widths","room"]){z:Addr}(U:mg "TooWide"=some (.ref z))(W:XCls K z){B:Addr}{O:FuncData}(Y:XIni K z B "TooWide.__init__" QN O)(Z:mg "enumerate"=none) :
  C1 P w K mg base 3 "refuse_too_wide" ["widths","room"] kY:=by
 have S:FnScope ["widths","room","bar","wide"] ["widths","room"] (defScope Vu):=by constructor<;>first|rfl|decide +kernel
 refine fX F S fun _ _ _ _ _ _ _ _ hr=>?_
 have nd:=S.nd;exact(qk (jh cj rfl (kH 0 Z) (yu rfl (zP 2 nd (zP 3 nd yt))) (qk (qG (j7 Jt (qa 3) (qa 1)) (qk (ua (k:=0) W Y (rm hr) U (qa 2))) qI))))
theorem qgL(F:FunF K mg "bars_needed" Vv ["meter","end"])(z:C0 P w K mg base 2 "stands" ["meter","tick"] uv)(B:mg "max"=none) :
  C0 P w K mg base 3 "bars_needed" ["meter","end"] yg:=by
 have S:FnScope ["meter","end","last"] ["meter","end"] (defScope Vv):=by constructor<;>first|rfl|decide +kernel
 refine fD F S fun _ _ _ _ _ _ _ hr=>?_
 have nd:=S.nd;exact(qh (qm 2 nd (ju (Kz rfl) B pZ (qb (qq jF (qa 1) qc) (qb qc qg))))
 (qk (qz (qq qV (ql (cl z (rm hr) (qb (qa 0) (qb (qa 2) qg))) qc) qc))))
theorem qgM(F:FunF K mg "voiced" Vw ["row"]){z:Addr}(B:mg "TooThick"=some (.ref z))(O:XCls K z)(U:findIn K (.ref z) "__init__"=some (some (.builtin "ValueError.__init__")))(W:C0 P w K mg base 2 "free_voice" ["voices","tick"] Vc)(Y:mg "len"=none)(Z:CC P w K mg "MOST_VOICES" Zz) :
  C1 P w K mg base 3 "voiced" ["row"] wD:=by
 have S:FnScope ["row","voices","chord","number"] ["row"] (defScope Vw):=by constructor<;>first|rfl|decide +kernel
 refine fX F S fun _ _ _ _ _ _ _ _ hr=>?_
 have nd:=S.nd;have hu:=hu10 hr;exact(qh (Xr 1 nd (jm qg))
 (qh (zE 0 (jh cj rfl (zX 0) (qQ 2 nd) (qh (qm 3 nd (Xp 1 (cl W (rm hr) (qb (qa 1) (qb (ql (qa 2) qc) qg)))))
 (qh (qG (j7 (jT hu) (qa 3) (gb Z)) (qk (Qk (k:=0) O U (rm hr) B jq)) qI)
 (qh (qG (j7 (jT hu) (qa 3) (Xp 1 (ju zG Y tJ (qb (qa 1) qg)))) (qk (qd4 1 (jm qg))) qI)
 (qk (Xt 1 (qa 3) (qa 2))))))))
 (qk (Xq 1 (zj 1)))))
theorem qgN(F:FunF K mg "_law_notes" Vx ["_law_script","_law_wide_here"])(z:C0 P w K mg base 2 "_law_large" ["_law_script"] uw)(B:C0 P w K mg base 2 "_law_note" ["_law_cell_here","_law_notes_here","_law_wide_here"] kR)(O:C0 P w K mg base 1 "_law_apart" ["_law_note_here","_law_notes_here"] kO)(U:C0 P w K mg base 1 "_law_meets" ["_law_note_here","_law_notes_here"] kP)(W:mg "len"=none) :
  C0 P w K mg base 3 "_law_notes" ["_law_script","_law_wide_here"] kZ:=by
 have S:FnScope ["_law_script","_law_wide_here","_law_most","_law_found","_law_cell_here","_law_note_here"] ["_law_script","_law_wide_here"] (defScope Vx):=by constructor<;>first|rfl|decide +kernel
 refine fD F S fun _ _ _ _ _ _ _ hr=>?_
 have nd:=S.nd;exact(qh (qm 2 nd qc)
 (qh (qG (qX (cl z (rm hr) (qb (qa 0) qg))) (qk (qm 2 nd qc)) qI)
 (qh (qG (j7 Jt (ju zG W tJ (qb (qa 0) qg)) qc) (qk (qm 2 nd qc)) qI)
 (qh (qm 3 nd (jm qg))
 (qh (jh gW rfl (zW (JY (qa 0) (Qc qc) (Qc (qq qV qc (qa 2))))) (qQ 4 nd) (qh (qm 5 nd (cl B (rm hr) (qb (qa 4) (qb (qa 3) (qb (qa 1) qg)))))
 (qk (qG (st_w (wW (qX (cl O (rm hr) (qb (qa 5) (qb (qa 3) qg)))) (kq (j7 vO (cl U (rm hr) (qb (qa 5) (qb (qa 3) qg))) qc)))) (qk (vh 3 (qa 5))) qI))))
 (qk (zj 3)))))))
theorem qgO(F:FunF K mg "_law_meter" Vy ["_law_script","_law_wide_here"])(z:C0 P w K mg base 1 "_law_cell" ["_law_script","_law_k"] jx)(B:C0 P w K mg base 2 "_law_step" ["_law_cell_here","_law_bar","_law_wide_here"] kU)(O:C0 P w K mg base 1 "_law_mix" ["_law_cell_here","_law_prime","_law_many"] jv)(U:mg "range"=none) :
  C0 P w K mg base 3 "_law_meter" ["_law_script","_law_wide_here"] x6:=by
 have S:FnScope ["_law_script","_law_wide_here","_law_found","_law_bar","_law_k","_law_cell_here"] ["_law_script","_law_wide_here"] (defScope Vy):=by constructor<;>first|rfl|decide +kernel
 refine fD F S fun _ _ _ _ _ _ _ hr=>?_
 have nd:=S.nd;exact(qh (qm 2 nd (jm qg))
 (qh (qm 3 nd qc)
 (qh (jh gW rfl (ky (qq qV qc (qq wU (cl z (rm hr) (qb (qa 0) (qb qc qg))) qc)) U) (qQ 4 nd) (qh (qm 5 nd (qq qV (cl z (rm hr) (qb (qa 0) (qb qc qg))) (qq wT qc (cl z (rm hr) (qb (qa 0) (qb (qq qV qc (qa 4)) qg))))))
 (qh (vh 2 (cl B (rm hr) (qb (qa 5) (qb (qa 3) (qb (qa 1) qg)))))
 (qk (qm 3 nd (qq qV (qq qV (qa 3) qc) (cl O (rm hr) (qb (qa 5) (qb qc (qb qc qg))))))))))
 (qk (zj 2)))))
theorem qgP(F:FunF K mg "clefs" Vz ["bars"])(z:C0 P w K mg base 3 "clef_prices" ["bars"] kX)(B:C0 P w K mg base 1 "prices_behind" ["prices","ahead"] kN)(O:mg "min"=none) :
  C0 P w K mg base 4 "clefs" ["bars"] wE:=by
 have S:FnScope ["bars","row","prices","costs"] ["bars"] (defScope Vz):=by constructor<;>first|rfl|decide +kernel
 refine fD F S fun _ _ _ _ _ _ _ hr=>?_
 have nd:=S.nd;exact(qh (qm 1 nd (jm qg))
 (qh (jh gW rfl (zW (cl z (rm hr) (qb (qa 0) qg))) (qQ 2 nd) (qh (qm 3 nd (Kh (qX (qa 1)) (cl B (rm hr) (qb (qa 2) (qb (ql (qa 1) (wj qc)) qg))) (qa 2)))
 (qk (vh 1 (qdw (qa 3) (ju (XH rfl) O c8 (qb (qa 3) qg)))))))
 (qk (zj 1))))
theorem qgQ(F:FunF K mg "checked_notes" VA ["notes"]){z:Addr}(U:mg "BadNotes"=some (.ref z))(W:XCls K z){B:Addr}{O:FuncData}(Y:XIni K z B "BadNotes.__init__" QL O)(Z:C0 P w K mg base 1 "is_list_within" ["thing","least","most"] wA)(xq:C0 P w K mg base 3 "is_tuple_within" ["thing","bounds"] vF)(Wl:C0 P w K mg base 3 "overlaps_one_ahead" ["notes","at"] yf)(zu:mg "enumerate"=none)(wK:mg "sorted"=none)(Y8:CC P w K mg "MOST_NOTES" uj)(Y9:CC P w K mg "BOUNDS_sounds" yL) :
  C1 P w K mg base 4 "checked_notes" ["notes"] jQ:=by
 have S:FnScope ["notes","at","note"] ["notes"] (defScope VA):=by constructor<;>first|rfl|decide +kernel
 refine fX F S fun _ _ _ _ _ _ _ _ hr=>?_
 have nd:=S.nd;exact(qh (qG (zV (qX (cl Z (rm hr) (qb (qa 0) (qb qc (qb (gb Y8) qg)))))) (qk (ua (k:=0) W Y (rm hr) U wS)) qI)
 (qh (jh cj rfl (kH 0 zu) (yu rfl (zP 1 nd (zP 2 nd yt))) (qk (qG (st_w (wX (zV (qX (cl xq (rm hr) (qb (qa 2) (qb (gb Y9) qg))))) (kt (qX (cl Wl (rm hr) (qb (qa 0) (qb (qa 1) qg))))))) (qk (ua (k:=0) W Y (rm hr) U (qa 1))) qI)))
 (qk (qz (ju JX wK cG (qb (qa 0) qg))))))
theorem qgR(F:FunF K mg "events" VC ["voice","lengths"])(z:C0 P w K mg base 3 "bar_events" ["voice","begin","end"] uz) :
  C0 P w K mg base 4 "events" ["voice","lengths"] wF:=by
 have S:FnScope ["voice","lengths","bars","begin","length"] ["voice","lengths"] (defScope VC):=by constructor<;>first|rfl|decide +kernel
 refine fD F S fun _ _ _ _ _ _ _ hr=>?_
 have nd:=S.nd;exact(qh (qm 2 nd (jm qg))
 (qh (qm 3 nd qc)
 (qh (zE 1 (jh gW rfl (zX 1) (qQ 4 nd) (qh (vh 2 (cl z (rm hr) (qb (qa 0) (qb (qa 3) (qb (qq qV (qa 3) (qa 4)) qg)))))
 (qk (xN 3 nd Q2 (qa 4))))))
 (qk (zj 2)))))
theorem qgS(F:FunF K mg "heads_of" VD ["pitches","tied","alters","key"])(z:C0 P w K mg base 3 "name_of" ["pitch","key"] Vq)(B:C0 P w K mg base 3 "alter_by_then" ["letter","octave","alters","key"] Vs)(O:mg "tuple"=none) :
  CI P w K mg base 4 "heads_of" ["pitches","tied","alters","key"] wG:=by
 have S:FnScope ["pitches","tied","alters","key","heads","pitch","name","letter","octave","sign"] ["pitches","tied","alters","key"] (defScope VD):=by constructor<;>first|rfl|decide +kernel
 refine fI F S fun _ _ _ _ _ _ _ _ hr=>?_
 have nd:=S.nd;have hu:=hu10 hr;exact(qh (qm 4 nd (jm qg))
 (qh (zE 0 (jh gW rfl (zX 0) (qQ 5 nd) (qh (qm 6 nd (cl z (rm hr) (qb (qa 5) (qb (qa 3) qg))))
 (qh (qm 7 nd (ql (qa 6) qc))
 (qh (qm 8 nd (ql (qa 6) qc))
 (qh (qm 9 nd wS)
 (qh (qG (st_w (wW (j7 X5 (qa 1) wS) (kq (j7 (uW hu) (cl B (rm hr) (qb (qa 7) (qb (qa 8) (qb (qdC 2) (qb (qa 3) qg))))) (ql (qa 6) qc))))) (qh (qm 9 nd (ql (qa 6) qc))
 (qk (qdF 2 hu (qb (qa 7) (qb (qa 8) qg)) (qa 9)))) qI)
 (qk (vh 4 (zO (qb (qa 7) (qb (qa 8) (qb (qa 9) qg)))))))))))))
 (qk (qdE 2 (wg Xl O boot_tuple (qb (qa 4) qg))))))
theorem qgT(F:FunF K mg "best_lines" VE ["widths","room"]){z:Addr}(O:mg "BadRoom"=some (.ref z))(U:XCls K z)(W:findIn K (.ref z) "__init__"=some (some (.builtin "ValueError.__init__")))(Y:C0 P w K mg base 1 "is_whole" ["thing"] yN)(Z:C1 P w K mg base 3 "refuse_too_wide" ["widths","room"] kY) :
  C1 P w K mg base 4 "best_lines" ["widths","room"] x8:=by
 obtain⟨_,_,B,Ya⟩:=id Z;have S:FnScope ["widths","room","best","first"] ["widths","room"] (defScope VE):=by constructor<;>first|rfl|decide +kernel
 refine fX F S fun _ _ _ _ _ _ _ _ hr=>?_
 exact(qh (qG (zV (qX (cl Y (rm hr) (qb (qa 1) qg)))) (qk (Qk (k:=0) U W (rm hr) O jq)) qI)
 (qh (Ql B (rm hr) Ya.1 Ya.2 Ya.3 (qb (qa 0) (qb (qa 1) qg)))
 (qh y4
 (qh y4
 (qk y4)))))
theorem qgU(F:FunF K mg "is_told" VF ["thing"])(z:C0 P w K mg base 3 "is_tuple_within" ["thing","bounds"] vF)(B:C0 P w K mg base 1 "told_length" ["told"] vq)(O:CC P w K mg "BOUNDS_meters" QG)(U:CC P w K mg "UNITS" QH)(W:CC P w K mg "SHORTEST_BAR" QI)(Y:CC P w K mg "LONGEST_BAR" QJ) :
  C0 P w K mg base 4 "is_told" ["thing"] yP:=by
 have S:FnScope ["thing"] ["thing"] (defScope VF):=by constructor<;>first|rfl|decide +kernel
 refine fD F S fun _ _ _ _ _ _ _ hr=>?_
 have hu:=hu10 hr;exact(qh (qG (st_w (wX (zV (qX (cl z (rm hr) (qb (qa 0) (qb (gb O) qg))))) (kt (j7 (qcb hu) (ql (qa 0) qc) (gb U))))) (qk (qz vL)) qI)
 (qk (qz (JN vO vO (gb W) (cl B (rm hr) (qb (qa 0) qg)) (gb Y)))))
theorem qgV(F:FunF K mg "turned" VG ["bars","key","turn"])(B:C0 P w K mg base 1 "in_order" ["bar"] vT)(O:C0 P w K mg base 1 "tied_to_next" ["event"] ur)(U:CI P w K mg base 4 "heads_of" ["pitches","tied","alters","key"] wG) :
  C0 P w K mg base 5 "turned" ["bars","key","turn"] uA:=by
 obtain⟨_,_,Ms,xz⟩:=id U;have S:FnScope ["bars","key","turn","told","ahead","bar","alters","rows","spot","voice","event","tied"] ["bars","key","turn"] (defScope VG):=by constructor<;>first|rfl|decide +kernel
 refine fD F S fun _ _ _ _ _ _ _ hr=>?_
 have nd:=S.nd;have hu:=hu10 hr;have z:(["bars","key","turn","told","ahead","bar","alters","rows","spot","voice","event","tied","row"]:List Str).Nodup:=by decide +kernel
 exact(qh (qm 3 nd (jm qg))
 (qh (qm 4 nd Kw)
 (qh (zE 0 (jh gW rfl (zX 0) (qQ 5 nd) (qh (qm 6 nd JL)
 (qh (qdp 7 (n:=1) ["bars","key","turn","told","ahead","bar","alters","rows","spot","voice","event","tied","row"] (fun _ _=>qdl _ _ _) nd (xO 5) (zk 12) (fun _ _ _ _ _=>(qQ 12 z)) (fun _ _ _ _ _=>(jm qg)))
 (qh (jh gW rfl (zW (cl B (rm hr) (qb (qa 5) qg))) (qQ 8 nd) (qh (qm 9 nd (ql (qa 8) qc))
 (qh (qm 10 nd (ql (ql (qa 5) (qa 9)) (ql (qa 8) qc)))
 (qh (qG (j7 (jT hu) (ql (qa 10) qc) jq) (qh (qm 11 nd (cl O (rm hr) (qb (qdN (qa 4) (qa 9)) qg)))
 (qk (qdR 10 nd (qdQ (Zs jq (Zs (ql (qa 10) qc) (qdP (qdL 2 Ms (rm hr) xz.2 xz.3 xz.4 (XR (ql (qa 10) qc) (XR (qa 11) (qdG 6 (qb (qa 1) qg))))) (Zs (ql (qa 10) qc) qdO)))))))) qI)
 (qh (Xt 7 (qa 9) (qa 10))
 (qk (Ky 4 hu (qa 9) (qa 10))))))))
 (qk (Xq 7 (zE 7 (vh 3 (qa 7))))))))))
 (qk (zj 3)))))
theorem qgW(F:FunF K mg "firsts" VH ["widths","room"])(B:C1 P w K mg base 4 "best_lines" ["widths","room"] x8) :
  C1 P w K mg base 5 "firsts" ["widths","room"] x9:=by
 obtain⟨_,_,z,Yf⟩:=id B;have S:FnScope ["widths","room","best","row","first"] ["widths","room"] (defScope VH):=by constructor<;>first|rfl|decide +kernel
 refine fX F S fun _ _ _ _ _ _ _ _ hr=>?_
 have nd:=S.nd;exact(qh (Qv (qm 2 nd (cl (c10 B) (rm hr) (qb (qa 0) (qb (qa 1) qg)))) (kJ z (rm hr) Yf.1 Yf.2 Yf.3 (qb (qa 0) (qb (qa 1) qg))))
 (qh y4
 (qh y4
 (qh y4
 (qk y4)))))
theorem qgX(F:FunF K mg "checked_meter" VI ["meter"]){z:Addr}(U:mg "BadMeter"=some (.ref z))(W:XCls K z){B:Addr}{O:FuncData}(Y:XIni K z B "BadMeter.__init__" QM O)(Z:C0 P w K mg base 1 "is_list_within" ["thing","least","most"] wA)(Wr:C0 P w K mg base 4 "is_told" ["thing"] yP)(Ws:C0 P w K mg base 1 "rises" ["meter","at"] wB)(zu:mg "enumerate"=none)(zM:mg "list"=none)(Yg:CC P w K mg "MOST_TUPLES" ul) :
  C1 P w K mg base 5 "checked_meter" ["meter"] zq:=by
 have S:FnScope ["meter","at","told"] ["meter"] (defScope VI):=by constructor<;>first|rfl|decide +kernel
 refine fX F S fun _ _ _ _ _ _ _ _ hr=>?_
 have nd:=S.nd;exact(qh (qG (zV (qX (cl Z (rm hr) (qb (qa 0) (qb qc (qb (gb Yg) qg)))))) (qk (ua (k:=0) W Y (rm hr) U wS)) qI)
 (qh (jh cj rfl (kH 0 zu) (yu rfl (zP 1 nd (zP 2 nd yt))) (qk (qG (st_w (wX (zV (qX (cl Wr (rm hr) (qb (qa 2) qg)))) (kt (zV (qX (cl Ws (rm hr) (qb (qa 0) (qb (qa 1) qg)))))))) (qk (ua (k:=0) W Y (rm hr) U (qa 1))) qI)))
 (qk (qz (wg xL zM fL (qb (qa 0) qg))))))
theorem qgY(F:FunF K mg "bars_of" VJ ["notes","meter"])(Y:C0 P w K mg base 1 "end_of" ["sound"] jI)(Z:C0 P w K mg base 3 "bars_needed" ["meter","end"] yg)(Wu:C0 P w K mg base 2 "bar_lengths" ["meter","many"] ye)(U:C1 P w K mg base 3 "voiced" ["row"] wD)(W:C0 P w K mg base 1 "chords" ["notes"] vS)(Wv:C0 P w K mg base 4 "events" ["voice","lengths"] wF)(vy:mg "max"=none)(zw:mg "range"=none)(qO:mg "len"=none) :
  C1 P w K mg base 5 "bars_of" ["notes","meter"] vG:=by
 obtain⟨_,_,O,Yh⟩:=id U;have S:FnScope ["notes","meter","end","lengths","voices","bars","number"] ["notes","meter"] (defScope VJ):=by constructor<;>first|rfl|decide +kernel
 refine fX F S fun _ _ _ _ _ _ _ _ hr=>?_
 have nd:=S.nd;have B:(["notes","meter","end","lengths","voices","bars","number","note"]:List Str).Nodup:=by decide +kernel
 have z:(["notes","meter","end","lengths","voices","bars","number","voice"]:List Str).Nodup:=by decide +kernel
 exact(qh (qm 2 nd (qcw (vP (n:=1) ["notes","meter","end","lengths","voices","bars","number","note"] (xO 0) (zk 7) (fun _ _ _ _ _=>(qQ 7 B)) (fun _ _ _ _ _=>.nil) (fun _ _ _ _ _=>(cl Y (rm hr) (qb (qa 7) qg)))) qc vy))
 (qh (qm 3 nd (cl Wu (rm hr) (qb (qa 1) (qb (cl Z (rm hr) (qb (qa 1) (qb (qa 2) qg))) qg))))
 (qh (qe3 (xR 4 (n:=1) ["notes","meter","end","lengths","voices","bars","number","voice"] nd (SI.c (zW (cl (c10 U) (rm hr) (qb (cl W (rm hr) (qb (qa 0) qg)) qg)))) (zk 7) (fun _ _ _ _ _=>(qQ 7 z)) (fun _ _ _ _ _=>.nil) (fun _ _ _ _ _=>(cl Wv (rm hr) (qb (qa 7) (qb (qa 3) qg))))) (kJ O (rm hr) Yh.1 Yh.2 Yh.3 (qb (cl W (rm hr) (qb (qa 0) qg)) qg)))
 (qh (qm 5 nd (jm qg))
 (qh (jh cj rfl (ky (ju zG qO tJ (qb (qa 3) qg)) zw) (qQ 6 nd) (qk (vh 5 (vP (n:=1) ["notes","meter","end","lengths","voices","bars","number","voice"] (xO 4) (zk 7) (fun _ _ _ _ _=>(qQ 7 z)) (fun _ _ _ _ _=>.nil) (fun _ _ _ _ _=>(ql (qa 7) (qa 6)))))))
 (qk (zj 5)))))))
theorem qgZ(F:FunF K mg "signed" VM ["bars","key"])(z:CI P w K mg base 4 "heads_of" ["pitches","tied","alters","key"] wG)(B:C0 P w K mg base 5 "turned" ["bars","key","turn"] uA) :
  C0 P w K mg base 6 "signed" ["bars","key"] yQ:=by
 obtain⟨_,_,Ms,xz⟩:=id z;have S:FnScope ["bars","key"] ["bars","key"] (defScope VM):=by constructor<;>first|rfl|decide +kernel
 refine fD F S fun _ _ _ _ _ _ _ hr=>?_
 exact(qk (qz (cl B (rm hr) (qb (qa 0) (qb (qa 1) (qb (qdJ xz.1 xz.4) qg))))))
theorem qh0(F:FunF K mg "page" VN ["notes","key","meter","room"])(Wx:C1 P w K mg base 3 "checked_key" ["key"] zT)(J7:C1 P w K mg base 5 "checked_meter" ["meter"] zq)(J8:C1 P w K mg base 4 "checked_notes" ["notes"] jQ)(Wy:C1 P w K mg base 3 "checked_room" ["room"] vv)(J9:C1 P w K mg base 5 "bars_of" ["notes","meter"] vG)(Ja:C0 P w K mg base 6 "signed" ["bars","key"] yQ)(Wz:C0 P w K mg base 2 "width" ["bar"] vU)(WA:C1 P w K mg base 5 "firsts" ["widths","room"] x9)(WB:C0 P w K mg base 4 "clefs" ["bars"] wE) :
  C1 P w K mg base 7 "page" ["notes","key","meter","room"] jw:=by
 obtain⟨_,_,B,Yi⟩:=id Wx;obtain⟨_,_,O,Yj⟩:=id J7;obtain⟨_,_,U,Yk⟩:=id J8;obtain⟨_,_,W,Yl⟩:=id Wy;obtain⟨_,_,Y,Ym⟩:=id J9;obtain⟨_,_,qkp,Mt⟩:=id Ja;obtain⟨_,_,Z,Yn⟩:=id WA;have S:FnScope ["notes","key","meter","room","told_meter","told_notes","bars","widths"] ["notes","key","meter","room"] (defScope VN):=by constructor<;>first|rfl|decide +kernel
 refine fX F S fun _ _ _ _ _ _ _ _ hr=>?_
 have nd:=S.nd;have z:(["notes","key","meter","room","told_meter","told_notes","bars","widths","bar"]:List Str).Nodup:=by decide +kernel
 exact(qh (Ql B (rm hr) Yi.1 Yi.2 Yi.3 (qb (qa 1) qg))
 (qh (Qv (qm 4 nd (cl (c10 J7) (rm hr) (qb (qa 2) qg))) (kJ O (rm hr) Yj.1 Yj.2 Yj.3 (qb (qa 2) qg)))
 (qh (Qv (qm 5 nd (cl (c10 J8) (rm hr) (qb (qa 0) qg))) (kJ U (rm hr) Yk.1 Yk.2 Yk.3 (qb (qa 0) qg)))
 (qh (Ql W (rm hr) Yl.1 Yl.2 Yl.3 (qb (qa 3) qg))
 (qh (Qv (qm 6 nd (cl Ja (rm hr) (qb (cl (c10 J9) (rm hr) (qb (qa 5) (qb (qa 4) qg))) (qb (qa 1) qg)))) (qe0 (kJ Y (rm hr) Ym.1 Ym.2 Ym.3 (qb (qa 5) (qb (qa 4) qg))) Mt.1 Mt.2))
 (qh (xR 7 (n:=1) ["notes","key","meter","room","told_meter","told_notes","bars","widths","bar"] nd (xO 6) (zk 8) (fun _ _ _ _ _=>(qQ 8 z)) (fun _ _ _ _ _=>.nil) (fun _ _ _ _ _=>(cl Wz (rm hr) (qb (qa 8) qg))))
 (qk (qe2 y4 (Qy (qa 1) (Qy (qa 4) (Qy (qa 3) (Qy (cl WB (rm hr) (qb (qa 6) qg)) (qe1 (kJ Z (rm hr) Yn.1 Yn.2 Yn.3 (qb (qa 7) (qb (qa 3) qg))))))))))))))))
theorem qh1(F:FunF K mg "_law_kind" VO ["_law_notes_here","_law_key_here","_law_meter_here","_law_room"]){O:Addr}(xA:mg "StaveError"=some (.ref O))(xB:zl K O=true){W:Addr}(wM:mg "BadKey"=some (.ref W)){Y:Addr}(vZ:mg "BadMeter"=some (.ref Y)){Z:Addr}(vY:mg "BadNotes"=some (.ref Z)){jL:Addr}(vA:mg "BadRoom"=some (.ref jL)){zg:Addr}(wO:mg "TooThick"=some (.ref zg)){z9:Addr}(wN:mg "TooWide"=some (.ref z9))(z:XAll K mg O [("BadKey",W),("BadMeter",Y),("BadNotes",Z),("BadRoom",jL),("TooThick",zg),("TooWide",z9)])(xt:C1 P w K mg base 7 "page" ["notes","key","meter","room"] jw)(B:mg "isinstance"=none)(zw:mg "range"=none)(qO:mg "len"=none)(xv:mg "str"=none) :
  C0 P w K mg base 8 "_law_kind" ["_law_notes_here","_law_key_here","_law_meter_here","_law_room"] vw:=by
 obtain⟨_,_,Yo,yZ⟩:=id xt;have S:FnScope ["_law_notes_here","_law_key_here","_law_meter_here","_law_room","_law_at","_law_some","e","_law_names","_law_told"] ["_law_notes_here","_law_key_here","_law_meter_here","_law_room"] (defScope VO):=by constructor<;>first|rfl|decide +kernel
 refine fD F S fun _ _ _ _ _ _ _ hr=>?_
 have nd:=S.nd;have hu:=hu10 hr;have U:(["_law_notes_here","_law_key_here","_law_meter_here","_law_room","_law_at","_law_some","e","_law_names","_law_told","_law_k"]:List Str).Nodup:=by decide +kernel
 exact(qh (qm 4 nd wS)
 (qh (qm 5 nd (jm qg))
 (qh (qdZ rfl rfl Yo (rm hr) yZ.1 yZ.2 yZ.3 (fun _ _=>(qb (qa 0) (qb (qa 1) (qb (qa 2) (qb (qa 3) qg))))) (qdY xA xB z.caught rfl nd rfl rfl (fun _ ea _ ex hh hc hx=>(qh (qm 5 nd (jm (qb (kL hh (z.isiC hc hh.1) (z.one hc hh.1 (.head _)) wM rfl rfl B) (qb (kL hh (z.isiC hc hh.1) (z.one hc hh.1 (.tail _ (.head _))) vZ rfl rfl B) (qb (kL hh (z.isiC hc hh.1) (z.one hc hh.1 (.tail _ (.tail _ (.head _)))) vY rfl rfl B) qg)))))
 (qh (qm 5 nd (qq Zu (qa 5) (jm (qb (kL hh (z.isiC hc hh.1) (z.one hc hh.1 (.tail _ (.tail _ (.tail _ (.head _))))) vA rfl rfl B) (qb (kL hh (z.isiC hc hh.1) (z.one hc hh.1 (.tail _ (.tail _ (.tail _ (.tail _ (.head _)))))) wO rfl rfl B) (qb (kL hh (z.isiC hc hh.1) (z.one hc hh.1 (.tail _ (.tail _ (.tail _ (.tail _ (.tail _ (.head _))))))) wN rfl rfl B) qg))))))
 (qk (qG (st_w (wX (qX (ql (qa 5) qc)) (wX (qX (ql (qa 5) qc)) (kt (qX (ql (qa 5) qc)))))) (qk (qm 4 nd (qdW hh (z.getC hc hh.1) hx rfl rfl))) qI)))))))
 (qh (qm 7 nd (jm (qb jq (qb jq (qb jq (qb jq (qb jq (qb jq qg))))))))
 (qh (xR 8 (n:=1) ["_law_notes_here","_law_key_here","_law_meter_here","_law_room","_law_at","_law_some","e","_law_names","_law_told","_law_k"] nd (SI.c (ky (ju zG qO tJ (qb (qa 5) qg)) zw)) (zk 9) (fun _ _ _ _ _=>(qQ 9 U)) (fun _ _ _ _ _=>(.one (qX (ql (qa 5) (qa 9))))) (fun _ _ _ _ _=>(ql (qa 7) (qa 9))))
 (qh (qG (j7 (uW hu) (ju zG qO tJ (qb (qa 8) qg)) qc) (qk (qz jq)) qI)
 (qh (qG (j7 (qca hu) (ql (qa 8) qc) (jm (qb jq (qb jq (qb jq qg))))) (qk (qz (qq Zu (ql (qa 8) qc) (wg XW xv boot_str (qb (qa 4) qg))))) qI)
 (qk (qz (ql (qa 8) qc))))))))))
theorem qh2(F:FunF K mg "_law_by_base" VQ ["_law_notes_here","_law_key_here","_law_meter_here","_law_room"]){z:Addr}(xA:mg "StaveError"=some (.ref z))(xB:zl K z=true){B:Addr}(wM:mg "BadKey"=some (.ref B)){O:Addr}(vZ:mg "BadMeter"=some (.ref O)){U:Addr}(vY:mg "BadNotes"=some (.ref U)){W:Addr}(vA:mg "BadRoom"=some (.ref W)){Y:Addr}(wO:mg "TooThick"=some (.ref Y)){Z:Addr}(wN:mg "TooWide"=some (.ref Z))(XA:XAll K mg z [("BadKey",B),("BadMeter",O),("BadNotes",U),("BadRoom",W),("TooThick",Y),("TooWide",Z)])(xt:C1 P w K mg base 7 "page" ["notes","key","meter","room"] jw)(jK:mg "isinstance"=none)(Yp:mg "ValueError"=none) :
  C0 P w K mg base 8 "_law_by_base" ["_law_notes_here","_law_key_here","_law_meter_here","_law_room"] uD:=by
 obtain⟨_,_,Yo,yZ⟩:=id xt;have S:FnScope ["_law_notes_here","_law_key_here","_law_meter_here","_law_room","e"] ["_law_notes_here","_law_key_here","_law_meter_here","_law_room"] (defScope VQ):=by constructor<;>first|rfl|decide +kernel
 refine fD F S fun _ _ _ _ _ _ _ hr=>?_
 have nd:=S.nd;exact(qh (qcJ rfl rfl (fun _ _=>(qk (Ql Yo (rm hr) yZ.1 yZ.2 yZ.3 (qb (qa 0) (qb (qa 1) (qb (qa 2) (qb (qa 3) qg))))))) (qcK (i:=4) xA xB XA.caught rfl nd rfl rfl (qcM (T:="ValueError") XA.kits rfl rfl jK Yp (by decide +kernel))))
 (qk (qz vL)))
theorem qh3{f:Addr}{fd:FuncData}(F:Fun K "law" "law" yR f fd)(U:C0 P w K mg base 2 "_law_wide" ["_law_script"] kS)(W:C0 P w K mg base 1 "_law_cell" ["_law_script","_law_k"] jx)(Y:C0 P w K mg base 3 "_law_notes" ["_law_script","_law_wide_here"] kZ)(Z:C0 P w K mg base 2 "_law_key" ["_law_script"] kW)(WF:C0 P w K mg base 3 "_law_meter" ["_law_script","_law_wide_here"] x6)(WG:C0 P w K mg base 2 "_law_space" ["_law_script","_law_wide_here"] yO)(WH:C0 P w K mg base 1 "_law_due" ["_law_bits","_law_many"] vt)(WI:C0 P w K mg base 8 "_law_kind" ["_law_notes_here","_law_key_here","_law_meter_here","_law_room"] vw)(WJ:C0 P w K mg base 8 "_law_by_base" ["_law_notes_here","_law_key_here","_law_meter_here","_law_room"] uD)(O:mg "range"=none)(qO:mg "len"=none)(B:mg "list"=none) :
  FnOk P w K mg base CX0 9 f fd ["_law_script"] (spD ⟨P,w,K⟩ yS 1):=by
 have S:FnScope ["_law_script","_law_wide_here","_law_bits","_law_notes_here","_law_key_here","_law_meter_here","_law_room","_law_due_here","_law_found"] ["_law_script"] (defScope yR):=by constructor<;>first|rfl|decide +kernel
 refine fnD F S fun _ _ _ _ _ _ hr=>?_
 have nd:=S.nd;have hu:=hu10 hr;have z:(["_law_script","_law_wide_here","_law_bits","_law_notes_here","_law_key_here","_law_meter_here","_law_room","_law_due_here","_law_found","_law_k"]:List Str).Nodup:=by decide +kernel
 exact(qh (qm 1 nd (cl U (rm hr) (qb (qa 0) qg)))
 (qh (xR 2 (n:=1) ["_law_script","_law_wide_here","_law_bits","_law_notes_here","_law_key_here","_law_meter_here","_law_room","_law_due_here","_law_found","_law_k"] nd (SI.c (ky qc O)) (zk 9) (fun _ _ _ _ _=>(qQ 9 z)) (fun _ _ _ _ _=>.nil) (fun _ _ _ _ _=>(vM (jT hu) (qq wU (qq yr (cl W (rm hr) (qb (qa 0) (qb qc qg))) (ql (jm (qb qc (qb qc (qb qc (qb qc (qb qc qg)))))) (qa 9))) qc) qc)))
 (qh (qm 3 nd (JY (cl Y (rm hr) (qb (qa 0) (qb (qa 1) qg))) KR (Qc qc)))
 (qh (qm 4 nd (cl Z (rm hr) (qb (qa 0) qg)))
 (qh (qm 5 nd (cl WF (rm hr) (qb (qa 0) (qb (qa 1) qg))))
 (qh (qm 6 nd (cl WG (rm hr) (qb (qa 0) (qb (qa 1) qg))))
 (qh (qG (qX (ql (qa 2) qc)) (qk (qm 4 nd qc)) qI)
 (qh (qG (qX (ql (qa 2) qc)) (qk (qm 5 nd (jm qg))) qI)
 (qh (qG (qX (ql (qa 2) qc)) (qk (xR 3 (n:=1) ["_law_script","_law_wide_here","_law_bits","_law_notes_here","_law_key_here","_law_meter_here","_law_room","_law_due_here","_law_found","_law_k"] nd (SI.c (ky qc O)) (zk 9) (fun _ _ _ _ _=>(qQ 9 z)) (fun _ _ _ _ _=>.nil) (fun _ _ _ _ _=>(zO (qb qc (qb (qq qV qc (qa 9)) (qb (qq qV qc (qa 9)) qg))))))) (qk (qG (zV (qX (ql (qa 2) qc))) (qh (qm 3 nd (jm (qb (zO (qb qc (qb qc (qb qc qg)))) qg)))
 (qk (qm 6 nd qc))) qI)))
 (qh (qG (qX (ql (qa 2) qc)) (qk (qm 3 nd (qq qV (qa 3) (jm (qb (zO (qb qc (qb qc (qb qc qg)))) qg))))) qI)
 (qh (qG (qX (ql (qa 2) qc)) (qk (qm 6 nd qc)) qI)
 (qh (qm 7 nd (cl WH (rm hr) (qb (qa 2) (qb (qq jF (ju zG qO tJ (qb (qa 3) qg)) qc) qg))))
 (qh (qm 8 nd (cl WI (rm hr) (qb (wg xL B fL (qb (qa 3) qg)) (qb (qa 4) (qb (wg xL B fL (qb (qa 5) qg)) (qb (qa 6) qg))))))
 (qk (qz (ku (vM (jT hu) (qa 8) (qa 7)) (xM (cl WJ (rm hr) (qb (wg xL B fL (qb (qa 3) qg)) (qb (qa 4) (qb (wg xL B fL (qb (qa 5) qg)) (qb (qa 6) qg))))))))))))))))))))))
end
theorem qh4{l:PySem.W.OpenLaw}{w:World}{K:Frag}{h:Heap}{mg:Str->Option Value}{fa:Addr}(X:K.In h)(G:h.Ns mainGlobals mg)(hfa:mg "law"=some (.ref fa))
  {z:Addr}
  {Y:Addr}
  {B:Addr}
  {O:Addr}
  {jL:Addr}
  {zg:Addr}
  {U:Addr}
  {Mu:Addr}
  (E:FunE K "step_of" ZB/\FunE K "small_lines" ZC/\FunE K "prices_behind" ZE/\FunE K "is_whole" ZF/\FunE K "is_list_within" ZG/\FunE K "end_of" ZI/\FunE K "chords" ZJ/\FunE K "pieces" ZK/\FunE K "first_alike" ZL/\FunE K "alter_at" ZM/\FunE K "in_order" ZN/\FunE K "tied_to_next" ZO/\FunE K "signs_in" ZP/\FunE K "told_length" ZQ/\FunE K "rises" ZR/\FunE K "_law_cell" ZT/\FunE K "_law_mix" ZU/\FunE K "_law_apart" ZV/\FunE K "_law_meets" ZW/\FunE K "_law_due" ZX/\FunE K "steps_of" ZY/\FunE K "lines_of" ZZ/\FunE K "is_whole_within" V0/\FunE K "overlap" V1/\FunE K "rest_events" V2/\FunE K "note_events" V3/\FunE K "fifth" V4/\FunE K "own_alter" V6/\FunE K "width" V8/\FunE K "bar_lengths" V9/\FunE K "stands" Va/\FunE K "free_voice" Vb/\FunE K "_law_large" Vd/\FunE K "_law_note" Ve/\FunE K "_law_wide" Vf/\FunE K "_law_step" Vg/\FunE K "_law_key" Vh/\FunE K "_law_space" Vi/\FunE K "clef_prices" Vk/\FunE K "is_tuple_within" Vl/\FunE K "overlaps_one_ahead" Vm/\FunE K "bar_events" Vn/\FunE K "checked_key" Vo/\FunE K "name_of" Vp/\FunE K "alter_by_then" Vr/\FunE K "checked_room" Vt/\FunE K "refuse_too_wide" Vu/\FunE K "bars_needed" Vv/\FunE K "voiced" Vw/\FunE K "_law_notes" Vx/\FunE K "_law_meter" Vy/\FunE K "clefs" Vz/\FunE K "checked_notes" VA/\FunE K "events" VC/\FunE K "heads_of" VD/\FunE K "best_lines" VE/\FunE K "is_told" VF/\FunE K "turned" VG/\FunE K "firsts" VH/\FunE K "checked_meter" VI/\FunE K "bars_of" VJ/\FunE K "signed" VM/\FunE K "page" VN/\FunE K "_law_kind" VO/\FunE K "_law_by_base" VQ/\FunE K "law" yR)
  (Yq:nsIn K mainGlobals "StaveError"=some (some (.ref z)))
  (Yr:zl K z=true)
  (XC:ClsE K "BadKey" z Y/\ClsE K "BadMeter" z B/\ClsE K "BadNotes" z O/\ClsE K "BadRoom" z jL/\ClsE K "TooThick" z zg/\ClsE K "TooWide" z U)
  (XJ:IniE K "BadMeter.__init__" QM B/\IniE K "BadNotes.__init__" QL O/\IniE K "TooWide.__init__" QN U)
  (X0:findIn K (.ref Y) "__init__"=some (some (.builtin "ValueError.__init__"))/\findIn K (.ref jL) "__init__"=some (some (.builtin "ValueError.__init__"))/\findIn K (.ref zg) "__init__"=some (some (.builtin "ValueError.__init__")))
  (vQ:specialIn K (.builtin "object.__class__") "__get__"=some (some (.builtin "getset_descriptor.__get__")))
  (yk:takesIn K (.builtin "object.__class__")=some true)
  (Ys:Zt K [("BadKey",Y),("BadMeter",B),("BadNotes",O),("BadRoom",jL),("TooThick",zg),("TooWide",U)]=true)
  (Z:nsIn K mainGlobals "max"=some none/\nsIn K mainGlobals "isinstance"=some none/\nsIn K mainGlobals "int"=some none/\nsIn K mainGlobals "bool"=some none/\nsIn K mainGlobals "list"=some none/\nsIn K mainGlobals "len"=some none/\nsIn K mainGlobals "sorted"=some none/\nsIn K mainGlobals "tuple"=some none/\nsIn K mainGlobals "enumerate"=some none/\nsIn K mainGlobals "str"=some none/\nsIn K mainGlobals "sum"=some none/\nsIn K mainGlobals "set"=some none/\nsIn K mainGlobals "range"=some none/\nsIn K mainGlobals "min"=some none/\nsIn K mainGlobals "reversed"=some none/\nsIn K mainGlobals "zip"=some none/\nsIn K mainGlobals "ValueError"=some none)
  (V:DatE K "LETTERS_BY_STEPS" Zv/\DatE K "LOWEST_LINES" Zw/\DatE K "STEPS_BETWEEN" Zx/\DatE K "CLEFS" kM/\DatE K "CHANGE" Zy/\DatE K "SHAPES" Qz/\DatE K "LETTERS_BY_FIFTHS" uk/\DatE K "BAR_WIDTH" QE/\DatE K "PLACE_WIDTH" QF/\DatE K "LOWEST_KEY" QA/\DatE K "HIGHEST_KEY" QB/\DatE K "LEAST_ROOM" QC/\DatE K "MOST_ROOM" QD/\DatE K "MOST_VOICES" Zz/\DatE K "MOST_NOTES" uj/\DatE K "BOUNDS_sounds" yL/\DatE K "BOUNDS_meters" QG/\DatE K "UNITS" QH/\DatE K "SHORTEST_BAR" QI/\DatE K "LONGEST_BAR" QJ/\DatE K "MOST_TUPLES" ul)
  (Yt:nsIn K mainGlobals "PITCHES"=some (some (.ref Mu)))(Yu:DatS w K Mu XX) :
  ∃ fd:FuncData,(∀(s:Shared) (v:Value),BindsTo s fd ⟨[v],[]⟩ [("_law_script",v)])/\∀ base:Heap,K.In base->base.Ns mainGlobals mg->FnOk l.prog w K mg base CX0 9 fa fd ["_law_script"] (spD ⟨l.prog,w,K⟩ yS 1):=by
 obtain⟨qhy,qhz,qhA,qhB,qhC,qhD,qhE,qhF,qhG,qhH,qhI,qhJ,qhK,qhL,qhM,qhN,qhO,qhP,qhQ,qhR,qhS,qhT,qhU,qhV,qhW,qhX,qhY,qhZ,qi0,qi1,qi2,qi3,qi4,qi5,qi6,qi7,qi8,qi9,qia,qib,qic,qid,qie,qif,qig,qih,qii,qij,qik,qil,qim,qin,qio,qip,qiq,qir,qis,qit,qiu,qiv,qiw,qix,qiy,qiz,qiA,qiB⟩:=E;obtain @⟨qkl,qkm,qh5,qkn,qko,qh6,qh7,qh8,qh9,qha,qhb,qhc,qhd,qhe⟩:=qiB;have e:=hfa.symm.trans (fy X G qhb);cases e;have qhf:=km (st:=yR) qhc qhd qhe;obtain⟨⟨qiC,qiD,Yv,qiE,qiF,qiG,Mv,qiH,Mw,Mx,qiI⟩,⟨qiJ,qiK,Yw,qiL,qiM,qiN,Yx,Mz,MA,MB,qiO⟩,⟨qiP,qiQ,Yy,qiR,qiS,qiT,Yz,MC,MD,ME,qiU⟩,⟨qiV,qiW,YA,qiX,qiY,qiZ,MF,qj0,MG,MH,qj1⟩,⟨qj2,qj3,YB,qj4,qj5,qj6,MI,qj7,MJ,MK,qj8⟩,⟨qj9,qja,YC,qjb,qjc,qjd,YD,ML,MM,MN,qje⟩⟩:=XC;obtain⟨⟨qjf,qjg,qjh,qji,qjj,qjk⟩,⟨qjl,qjm,qjn,qjo,qjp,qjq⟩,⟨qjr,qjs,qjt,qju,qjv,qjw⟩⟩:=XJ;obtain⟨WX,xy,Y6⟩:=X0;have wM:=fy X G qiC;have qkq:=Yv;have WW:XCls K Y:=⟨Yv,qiD⟩;have qjx:XGet K Y:=⟨zH Mv,Mw,Mx,qiH⟩;have vA:=fy X G qiV;have qkr:=YA;have xx:XCls K jL:=⟨YA,qiW⟩;have qjy:XGet K jL:=⟨zH MF,MG,MH,qj0⟩;have wN:=fy X G qj9;have qks:=YC;have Y3:XCls K U:=⟨YC,qja⟩;have qjz:XGet K U:=⟨zH YD,MM,MN,ML⟩;have MO:=km (st:=QN) qjs qjt qju;have Y4:XIni K U _ "TooWide.__init__" QN _:=⟨zH YD,qjv,ML,qjr,qjw,MO,⟨_,_,_,_,rfl⟩,⟨rfl,rfl,rfl,by decide +kernel,rfl,by decide +kernel,by decide +kernel⟩,⟨rfl,rfl⟩,MO.binds (ps:=["self","at"]) fun _ _ _ _ _ _ us hl=>match us,hl with|[_,_],_=>rfl⟩
 have wO:=fy X G qj2;have qkt:=YB;have Y5:XCls K zg:=⟨YB,qj3⟩;have qjA:XGet K zg:=⟨zH MI,MJ,MK,qj7⟩;have vY:=fy X G qiP;have qku:=Yy;have Jc:XCls K O:=⟨Yy,qiQ⟩;have qjB:XGet K O:=⟨zH Yz,MD,ME,MC⟩;have MP:=km (st:=QL) qjm qjn qjo;have Jd:XIni K O _ "BadNotes.__init__" QL _:=⟨zH Yz,qjp,MC,qjl,qjq,MP,⟨_,_,_,_,rfl⟩,⟨rfl,rfl,rfl,by decide +kernel,rfl,by decide +kernel,by decide +kernel⟩,⟨rfl,rfl⟩,MP.binds (ps:=["self","at"]) fun _ _ _ _ _ _ us hl=>match us,hl with|[_,_],_=>rfl⟩
 have vZ:=fy X G qiJ;have qkv:=Yw;have Je:XCls K B:=⟨Yw,qiK⟩;have qjC:XGet K B:=⟨zH Yx,MA,MB,Mz⟩;have MQ:=km (st:=QM) qjg qjh qji;have Jf:XIni K B _ "BadMeter.__init__" QM _:=⟨zH Yx,qjj,Mz,qjf,qjk,MQ,⟨_,_,_,_,rfl⟩,⟨rfl,rfl,rfl,by decide +kernel,rfl,by decide +kernel,by decide +kernel⟩,⟨rfl,rfl⟩,MQ.binds (ps:=["self","at"]) fun _ _ _ _ _ _ us hl=>match us,hl with|[_,_],_=>rfl⟩
 have xA:=fy X G Yq;have xB:=Yr;have XA:XAll K mg z [("BadKey",Y),("BadMeter",B),("BadNotes",O),("BadRoom",jL),("TooThick",zg),("TooWide",U)]:=⟨(all1 wM (all1 vZ (all1 vY (all1 vA (all1 wO (all1 wN all0)))))),(all1 Yv (all1 Yw (all1 Yy (all1 YA (all1 YB (all1 YC all0)))))),(all1 qiI (all1 qiO (all1 qiU (all1 qj1 (all1 qj8 (all1 qje all0)))))),(all1 (⟨(zH Mv).imp fun _ h=>⟨h.1,h.2.1⟩,Mw,Mx,qiG,vQ,yk,qiF⟩:XIsi K Y) (all1 (⟨(zH Yx).imp fun _ h=>⟨h.1,h.2.1⟩,MA,MB,qiN,vQ,yk,qiM⟩:XIsi K B) (all1 (⟨(zH Yz).imp fun _ h=>⟨h.1,h.2.1⟩,MD,ME,qiT,vQ,yk,qiS⟩:XIsi K O) (all1 (⟨(zH MF).imp fun _ h=>⟨h.1,h.2.1⟩,MG,MH,qiZ,vQ,yk,qiY⟩:XIsi K jL) (all1 (⟨(zH MI).imp fun _ h=>⟨h.1,h.2.1⟩,MJ,MK,qj6,vQ,yk,qj5⟩:XIsi K zg) (all1 (⟨(zH YD).imp fun _ h=>⟨h.1,h.2.1⟩,MM,MN,qjd,vQ,yk,qjc⟩:XIsi K U) all0)))))),(all1 qjx (all1 qjC (all1 qjB (all1 qjy (all1 qjA (all1 qjz all0)))))),(all1 qiE (all1 qiL (all1 qiR (all1 qiX (all1 qj4 (all1 qjb all0)))))),Ys⟩
 obtain⟨qjD,qjE,qjF,qjG,qjH,qjI,qjJ,qjK,qjL,qjM,qjN,qjO,qjP,qjQ,qjR,qjS,qjT⟩:=Z;obtain⟨qjU,qjV,qjW,qjX,qjY,qjZ,qk0,qk1,qk2,qk3,qk4,qk5,qk6,qk7,qk8,qk9,qka,qkb,qkc,qkd,qke⟩:=V;have vy:=hZ X G qjD;have jK:=hZ X G qjE;have WO:=hZ X G qjF;have WP:=hZ X G qjG;have zM:=hZ X G qjH;have qO:=hZ X G qjI;have wK:=hZ X G qjJ;have wL:=hZ X G qjK;have zu:=hZ X G qjL;have xv:=hZ X G qjM;have WR:=hZ X G qjN;have WS:=hZ X G qjO;have zw:=hZ X G qjP;have vz:=hZ X G qjQ;have Jb:=hZ X G qjR;have WV:=hZ X G qjS;have Yp:=hZ X G qjT;have WK:=jH (P:=l.prog) (w:=w) X G qjU;have WL:=jH (P:=l.prog) (w:=w) X G qjV;have WM:=jH (P:=l.prog) (w:=w) X G qjW;have xu:=jH (P:=l.prog) (w:=w) X G qjX;have WN:=jH (P:=l.prog) (w:=w) X G qjY;have WQ:=jH (P:=l.prog) (w:=w) X G qjZ;have xw:=jH (P:=l.prog) (w:=w) X G qk0;have WT:=jH (P:=l.prog) (w:=w) X G qk1;have WU:=jH (P:=l.prog) (w:=w) X G qk2;have WY:=jH (P:=l.prog) (w:=w) X G qk3;have WZ:=jH (P:=l.prog) (w:=w) X G qk4;have Y0:=qe4 (P:=l.prog) X G Yt Yu;have Y1:=jH (P:=l.prog) (w:=w) X G qk5;have Y2:=jH (P:=l.prog) (w:=w) X G qk6;have Y7:=jH (P:=l.prog) (w:=w) X G qk7;have Y8:=jH (P:=l.prog) (w:=w) X G qk8;have Y9:=jH (P:=l.prog) (w:=w) X G qk9;have Yb:=jH (P:=l.prog) (w:=w) X G qka;have Yc:=jH (P:=l.prog) (w:=w) X G qkb;have Yd:=jH (P:=l.prog) (w:=w) X G qkc;have Ye:=jH (P:=l.prog) (w:=w) X G qkd;have Yg:=jH (P:=l.prog) (w:=w) X G qke;refine⟨PySem.W.fnOf "law" "law" (defArgs yR) (defBody yR) (defScope yR) .none qh6 qh7 qh8 qh5 qh9 qha,fun s v=>.of_eq rfl,fun base _ _=>?_⟩
 have W3:=qg0 l.prog w base (qw X G qhy fun _ _ _ _ _ _ us hl=>by obtain⟨_,rfl⟩:=len1 hl;rfl) WK
 have W4:=qg1 l.prog w base (qw X G qhz fun _ _ _ _ _ _ us hl=>by obtain⟨_,_,rfl⟩:=len2 hl;rfl) vy WL WM
 have xm:=qg2 l.prog w base (qw X G qhA fun _ _ _ _ _ _ us hl=>by obtain⟨_,_,rfl⟩:=len2 hl;rfl) xu WN
 have xh:=qg3 l.prog w base (qw X G qhB fun _ _ _ _ _ _ us hl=>by obtain⟨_,rfl⟩:=len1 hl;rfl) jK WO WP
 have xo:=qg4 l.prog w base (qw X G qhC fun _ _ _ _ _ _ us hl=>by obtain⟨_,_,_,rfl⟩:=len3 hl;rfl) jK zM qO
 have zt:=qg5 l.prog w base (qw X G qhD fun _ _ _ _ _ _ us hl=>by obtain⟨_,rfl⟩:=len1 hl;rfl)
 have J6:=qg6 l.prog w base (qw X G qhE fun _ _ _ _ _ _ us hl=>by obtain⟨_,rfl⟩:=len1 hl;rfl) wK wL
 have xi:=qg7 l.prog w base (qw X G qhF fun _ _ _ _ _ _ us hl=>by obtain⟨_,rfl⟩:=len1 hl;rfl) WQ
 have xj:=qg8 l.prog w base (qw X G qhG fun _ _ _ _ _ _ us hl=>by obtain⟨_,_,_,rfl⟩:=len3 hl;rfl)
 have xk:=qg9 l.prog w base (qw X G qhH fun _ _ _ _ _ _ us hl=>by obtain⟨_,rfl⟩:=len1 hl;rfl)
 have xl:=qga l.prog w base (qw X G qhI fun _ _ _ _ _ _ us hl=>by obtain⟨_,rfl⟩:=len1 hl;rfl) zu wK
 have Wq:=qgb l.prog w base (qw X G qhJ fun _ _ _ _ _ _ us hl=>by obtain⟨_,rfl⟩:=len1 hl;rfl)
 have W5:=qgc l.prog w base (qw X G qhK fun _ _ _ _ _ _ us hl=>by obtain⟨_,rfl⟩:=len1 hl;rfl) qO
 have wI:=qgd l.prog w base (qw X G qhL fun _ _ _ _ _ _ us hl=>by obtain⟨_,rfl⟩:=len1 hl;rfl)
 have Ws:=qge l.prog w base (qw X G qhM fun _ _ _ _ _ _ us hl=>by obtain⟨_,_,rfl⟩:=len2 hl;rfl)
 have jJ:=qgf l.prog w base (qw X G qhN fun _ _ _ _ _ _ us hl=>by obtain⟨_,_,rfl⟩:=len2 hl;rfl) qO
 have jr:=qgg l.prog w base (qw X G qhO fun _ _ _ _ _ _ us hl=>by obtain⟨_,_,_,rfl⟩:=len3 hl;rfl)
 have Wg:=qgh l.prog w base (qw X G qhP fun _ _ _ _ _ _ us hl=>by obtain⟨_,_,rfl⟩:=len2 hl;rfl)
 have Wh:=qgi l.prog w base (qw X G qhQ fun _ _ _ _ _ _ us hl=>by obtain⟨_,_,rfl⟩:=len2 hl;rfl) qO
 have WH:=qgj l.prog w base (qw X G qhR fun _ _ _ _ _ _ us hl=>by obtain⟨_,_,rfl⟩:=len2 hl;rfl) xv
 have W6:=qgk l.prog w base (qw X G qhS fun _ _ _ _ _ _ us hl=>by obtain⟨_,rfl⟩:=len1 hl;rfl) W3
 have W7:=qgl l.prog w base (qw X G qhT fun _ _ _ _ _ _ us hl=>by obtain⟨_,_,rfl⟩:=len2 hl;rfl) W4 WR
 have wJ:=qgm l.prog w base (qw X G qhU fun _ _ _ _ _ _ us hl=>by obtain⟨_,_,_,rfl⟩:=len3 hl;rfl) xh
 have W8:=qgn l.prog w base (qw X G qhV fun _ _ _ _ _ _ us hl=>by obtain⟨_,_,rfl⟩:=len2 hl;rfl) zt
 have J0:=qgo l.prog w base (qw X G qhW fun _ _ _ _ _ _ us hl=>by obtain⟨_,rfl⟩:=len1 hl;rfl) xi
 have W9:=qgp l.prog w base (qw X G qhX fun _ _ _ _ _ _ us hl=>by obtain⟨_,_,_,rfl⟩:=len3 hl;rfl) zt xi
 have Wa:=qgq l.prog w base (qw X G qhY fun _ _ _ _ _ _ us hl=>by obtain⟨_,_,rfl⟩:=len2 hl;rfl) xj
 have Wb:=qgr l.prog w base (qw X G qhZ fun _ _ _ _ _ _ us hl=>by obtain⟨_,_,rfl⟩:=len2 hl;rfl) xj xk xw
 have Wz:=qgs l.prog w base (qw X G qi0 fun _ _ _ _ _ _ us hl=>by obtain⟨_,rfl⟩:=len1 hl;rfl) xl W5 qO WS WT WU
 have Wu:=qgt l.prog w base (qw X G qi1 fun _ _ _ _ _ _ us hl=>by obtain⟨_,_,rfl⟩:=len2 hl;rfl) wI zw
 have Wc:=qgu l.prog w base (qw X G qi2 fun _ _ _ _ _ _ us hl=>by obtain⟨_,_,rfl⟩:=len2 hl;rfl) wI
 have Wd:=qgv l.prog w base (qw X G qi3 fun _ _ _ _ _ _ us hl=>by obtain⟨_,_,rfl⟩:=len2 hl;rfl) zt zu qO
 have We:=qgw l.prog w base (qw X G qi4 fun _ _ _ _ _ _ us hl=>by obtain⟨_,rfl⟩:=len1 hl;rfl) jJ jr qO
 have Wf:=qgx l.prog w base (qw X G qi5 fun _ _ _ _ _ _ us hl=>by obtain⟨_,_,_,rfl⟩:=len3 hl;rfl) jr
 have WC:=qgy l.prog w base (qw X G qi6 fun _ _ _ _ _ _ us hl=>by obtain⟨_,rfl⟩:=len1 hl;rfl) jJ
 have Wi:=qgz l.prog w base (qw X G qi7 fun _ _ _ _ _ _ us hl=>by obtain⟨_,_,_,rfl⟩:=len3 hl;rfl) jr qO vz
 have WE:=qgA l.prog w base (qw X G qi8 fun _ _ _ _ _ _ us hl=>by obtain⟨_,rfl⟩:=len1 hl;rfl) jJ jr
 have WG:=qgB l.prog w base (qw X G qi9 fun _ _ _ _ _ _ us hl=>by obtain⟨_,_,rfl⟩:=len2 hl;rfl) jJ jr
 have Wj:=qgC l.prog w base (qw X G qia fun _ _ _ _ _ _ us hl=>by obtain⟨_,rfl⟩:=len1 hl;rfl) W6 W7 xm Jb vz zM xu
 have xq:=qgD l.prog w base (qw X G qib fun _ _ _ _ _ _ us hl=>by obtain⟨_,_,rfl⟩:=len2 hl;rfl) wJ jK wL qO WV
 have Wl:=qgE l.prog w base (qw X G qic fun _ _ _ _ _ _ us hl=>by obtain⟨_,_,rfl⟩:=len2 hl;rfl) W8
 have Wm:=qgF l.prog w base (qw X G qid fun _ _ _ _ _ _ us hl=>by obtain⟨_,_,_,rfl⟩:=len3 hl;rfl) zt J0 W9 vy vz
 have Wx:=qgG l.prog w base (qw X G qie fun _ _ _ _ _ _ us hl=>by obtain⟨_,rfl⟩:=len1 hl;rfl) wM WW WX wJ WY WZ
 have Wn:=qgH l.prog w base (qw X G qif fun _ _ _ _ _ _ us hl=>by obtain⟨_,_,rfl⟩:=len2 hl;rfl) Wa xk xw Y0
 have Wo:=qgI l.prog w base (qw X G qig fun _ _ _ _ _ _ us hl=>by obtain⟨_,_,_,_,rfl⟩:=len4 hl;rfl) Wb
 have Wy:=qgJ l.prog w base (qw X G qih fun _ _ _ _ _ _ us hl=>by obtain⟨_,rfl⟩:=len1 hl;rfl) vA xx xy wJ Y1 Y2
 have Wp:=qgK l.prog w base (qw X G qii fun _ _ _ _ _ _ us hl=>by obtain⟨_,_,rfl⟩:=len2 hl;rfl) wN Y3 Y4 zu
 have Wt:=qgL l.prog w base (qw X G qij fun _ _ _ _ _ _ us hl=>by obtain⟨_,_,rfl⟩:=len2 hl;rfl) Wc vy
 have J5:=qgM l.prog w base (qw X G qik fun _ _ _ _ _ _ us hl=>by obtain⟨_,rfl⟩:=len1 hl;rfl) wO Y5 Y6 Wd qO Y7
 have WD:=qgN l.prog w base (qw X G qil fun _ _ _ _ _ _ us hl=>by obtain⟨_,_,rfl⟩:=len2 hl;rfl) We Wf Wg Wh qO
 have WF:=qgO l.prog w base (qw X G qim fun _ _ _ _ _ _ us hl=>by obtain⟨_,_,rfl⟩:=len2 hl;rfl) jJ Wi jr zw
 have WB:=qgP l.prog w base (qw X G qin fun _ _ _ _ _ _ us hl=>by obtain⟨_,rfl⟩:=len1 hl;rfl) Wj xm vz
 have J8:=qgQ l.prog w base (qw X G qio fun _ _ _ _ _ _ us hl=>by obtain⟨_,rfl⟩:=len1 hl;rfl) vY Jc Jd xo xq Wl zu wK Y8 Y9
 have Wv:=qgR l.prog w base (qw X G qip fun _ _ _ _ _ _ us hl=>by obtain⟨_,_,rfl⟩:=len2 hl;rfl) Wm
 have xr:=qgS l.prog w base (qw X G qiq fun _ _ _ _ _ _ us hl=>by obtain⟨_,_,_,_,rfl⟩:=len4 hl;rfl) Wn Wo wL
 have J4:=qgT l.prog w base (qw X G qir fun _ _ _ _ _ _ us hl=>by obtain⟨_,_,rfl⟩:=len2 hl;rfl) vA xx xy xh Wp
 have Wr:=qgU l.prog w base (qw X G qis fun _ _ _ _ _ _ us hl=>by obtain⟨_,rfl⟩:=len1 hl;rfl) xq wI Yb Yc Yd Ye
 have Ww:=qgV l.prog w base (qw X G qit fun _ _ _ _ _ _ us hl=>by obtain⟨_,_,_,rfl⟩:=len3 hl;rfl) xl Wq xr
 have WA:=qgW l.prog w base (qw X G qiu fun _ _ _ _ _ _ us hl=>by obtain⟨_,_,rfl⟩:=len2 hl;rfl) J4
 have J7:=qgX l.prog w base (qw X G qiv fun _ _ _ _ _ _ us hl=>by obtain⟨_,rfl⟩:=len1 hl;rfl) vZ Je Jf xo Wr Ws zu zM Yg
 have J9:=qgY l.prog w base (qw X G qiw fun _ _ _ _ _ _ us hl=>by obtain⟨_,_,rfl⟩:=len2 hl;rfl) zt Wt Wu J5 J6 Wv vy zw qO
 have Ja:=qgZ l.prog w base (qw X G qix fun _ _ _ _ _ _ us hl=>by obtain⟨_,_,rfl⟩:=len2 hl;rfl) xr Ww
 have xt:=qh0 l.prog w base (qw X G qiy fun _ _ _ _ _ _ us hl=>by obtain⟨_,_,_,_,rfl⟩:=len4 hl;rfl) Wx J7 J8 Wy J9 Ja Wz WA WB
 have WI:=qh1 l.prog w base (qw X G qiz fun _ _ _ _ _ _ us hl=>by obtain⟨_,_,_,_,rfl⟩:=len4 hl;rfl) xA xB wM vZ vY vA wO wN XA xt jK zw qO xv
 have WJ:=qh2 l.prog w base (qw X G qiA fun _ _ _ _ _ _ us hl=>by obtain⟨_,_,_,_,rfl⟩:=len4 hl;rfl) xA xB wM vZ vY vA wO wN XA xt jK Yp
 exact qh3 l.prog w base qhf WC jJ WD WE WF WG WH WI WJ zw qO zM
theorem walk{l:PySem.W.OpenLaw}{q:Program}{B:List Str}{Y:(Str->Option Value)->Heap->Prop}{U:World->Heap->Prop}{d:DefRec}{K:Params->Frag}(Z:l.most=some 63)(O:d.params.defaults=[])
  (hY:∀(w:World) (h:Heap),U w h->(K w.params).In h)
  (F:∀(w:World) (mg:Str->Option Value) (fa:Addr) (h:Heap),(K w.params).In h->h.Ns mainGlobals mg->mg d.name=some (.ref fa) ->
   ∃ fd:FuncData,(∀(s:Shared) (u:Value),BindsTo s fd ⟨[u],[]⟩ [("_law_script",u)])/\∀ base:Heap,(K w.params).In base->base.Ns mainGlobals mg->FnOk l.prog w (K w.params) mg base CX0 9 fa fd ["_law_script"] (spD ⟨l.prog,w,K w.params⟩ yS 1)) :
  PySem.W.WalkO q B Y U l.row.toRowW d [] (fun f vs=>PySem.call f vs) :=
 L2.K6 (n:=63) (k:=9) (x:="_law_script") (CX:=fun _=>CX0) (sp:=fun w=>spD ⟨l.prog,w,K w.params⟩ yS 1) Z (by decide) O ⟨rfl,by decide,by decide⟩ hY F (fun w H a ns hl _ hS=>qap yS ns hS (qfZ ns hl)) fun _ _ _ _ _ z=>z
end My
end
open PySem PySem.W PyProof.Rows
set_option maxRecDepth 100000 in
set_option maxHeartbeats 0 in
theorem PySem.Challenge.cw_stavemill_k31_pages_refused_holds : PySem.Challenge.rw_stavemill_k31_pages_refused.Holds := by
 w_on; o_law; k_head; (case hw=>w_witness2)
 k_fill
 refine My.walk (l:=PySem.Challenge.rw_stavemill_k31_pages_refused) rfl rfl (fun w h Y=>kIn_of Y) ?F
 case F =>
  intro w mg fa h KX G hmg
  refine' My.qh4 KX G hmg ?E ?Yq ?Yr ?XC ?XJ ?X0 ?vQ ?yk ?Ys ?Z ?V ?Yt ?Yu
  (case E=>and_intros <;> (refine' .mk ?a ?l ?c ?k; (case a=>k_is); (case l=>k_is); (case c=>k_is); (case k=>k_is)))
  (case Yq=>k_is)
  (case Yr=>kernel_rfl)
  (case XC=>and_intros <;> (refine' .mk ?a ?b ?_ ?_ ?_ ?_ ?_ ?_ ?_ ?_ ?_; (case a=>k_is); (case b=>k_is); all_goals kernel_rfl))
  (case XJ=>and_intros <;> (refine' .mk ?a ?b ?c ?d ?_ ?_; (case a=>k_is); (case b=>k_is); (case c=>k_is); (case d=>k_is); all_goals kernel_rfl))
  (case X0=>and_intros <;> kernel_rfl)
  (case vQ=>kernel_rfl)
  (case yk=>kernel_rfl)
  (case Ys=>kernel_rfl)
  (case Z=>and_intros <;> k_is)
  (case V=>and_intros <;> (refine' .mk ?a ?d; (case a=>k_is); (case d=>kernel_rfl)))
  (case Yt=>k_is)
  (case Yu=>refine ⟨?o,?es,?ep,?lk,?dt,?cl,?nd,?en⟩; (case lk=>exact rfl); (case dt=>rfl); (case cl=>kernel_rfl); (case nd=>decide +kernel); (case en=>exact .cons rfl rfl rfl (.cons rfl rfl rfl (.cons rfl rfl rfl (.cons rfl rfl rfl (.cons rfl rfl rfl (.cons rfl rfl rfl (.cons rfl rfl rfl (.nil)))))))))
#print axioms PySem.Challenge.cw_stavemill_k31_pages_refused_holds