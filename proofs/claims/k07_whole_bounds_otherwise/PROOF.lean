import PyProof.Rows.All
import Wide.All
import OpenK.AllK
import Wide.FinOn
import Lean
import PyProof.EqAt
import PyProof.EqKinds
import PyProof.TupleCall
import PyProof.Rows.TupAdd
import PyProof.Rows.SortStr
import PyProof.Rows.SortWalk
import PyProof.CollectIter
import PyProof.Rows.Tup
import PyProof.TupleOfSeq
import PyProof.ReprRoads
import PyProof.CallStr
import PyProof.SeqRoads2
import KE.KSetDisp
import KE.KEqDict
import PyProof.IsiH_list
import PyProof.Rows.SetFrom
import PyProof.FactsAll.dict_1
import PyProof.DictFindH
import PyProof.SetRoads
import PyProof.TupleKey
import PyProof.IsRules
import PyProof.Rows.SortShell
import KE.KSortTup
import KE.KDictList
import KE.KUnpack
import KE.KDictSum
import PySem.Challenge.RW_runbound_k07_whole_bounds_otherwise
local macro_rules | `(⋯) => `(by first | decide +kernel | omega | (dsimp only; decide +kernel) | walk_at "b" | walk_at "o")
open PySem renaming wpAny_bind → aa,wpAny_pure → ab,wpAny_holding → aH,wpAny_newObj_type → aI,wpAny_call_entry → aO,wpAny_callSpecial?_slot → aQ,wpAny_field → bo,wpAny_askSetting → bE,wpAny_setField → bK,wpAny_dictEntries → bM,wpAny_rule → bR,wpAny_isInstance → bW,wpAny_truthy_bool → bY,wpAny_setState_of → ce,wpAny_seqItems → cg,wpAny_standAt → cn,wpAny_setField_rec → cr,wpAny_typeNameOfWhole_keyiter → cv,wpAny_attempt → cw,wpAny_dictEpoch → cA,wpAny_passesOwn → cO,wpAny_typeNameOf_keyiter → cS,wpAny_of_eq → cV,wpAny_pyIter_tuple → dc,wpAny_notOrdered_dict → dg,wpAny_mono → dh,wpAny_typeOf → dw,wpAny_handled → dB
open List renaming length_map → ac,getElem?_eq_getElem → ae,mem_append_right → aj,getElem?_map → ao,size_toArray → ap,mem_of_getElem? → aq,replicate → av,length_append → ax,mem_cons → ay,mem_map → az,not_mem_nil → aB,mem_cons_of_mem → aC,append_assoc → aD,mem_cons_self → aE,range → aG,length_take → aJ,mem_range → aK,mem_append → aL,map_append → aM,getElem?_eq_some_iff → aN,map_cons → aS,getElem?_eq_none → aU,mem_singleton → aV,map_map → aX,mem_filter → aY,length_cons → bb,length_range → bf,getElem?_eq_none_iff → bi,take_succ → bj,pairwise_iff_getElem → bm,take_length → bn,take_of_length_le → bq,mem_append_left → br,take_append_drop → bv,replicate_succ → bw,nodup_cons → bx,ext_getElem? → bA,pairwise_map → bF,length_filter_le → bH,idxOf_lt_length_of_mem → bI,lookup_cons → bJ,any_eq_true → bL,pairwise_append → bO,pairwise_lt_range → bT,flatten_cons → bZ,zip → cf,getElem?_range → ci,length_reverse → cj,map_congr_left → cm,length_singleton → cq,eq_nil_of_length_eq_zero → cu,append_nil → cz,filter_sublist → cB,length_drop → cD,all_eq_true → cG,getElem_mem → cH,filter_cons → cI,mem_filterMap → cK,nodup_nil → cL,getElem?_set_ne → cM,getElem?_of_mem → cN,nil_append → cQ,length_nil → cR,replicate_append_replicate → cT,filterMap_cons → cU,length_eq_zero_iff → cW,reverse_append → cX,length_pos_of_mem → da,find?_cons → df,nodup_append → di,getElem_take → dj,getElem_drop → dl,mem_iff_getElem → dm,forIn_nil → dq,mem_flatMap → dv
open PySem.Heap renaming get?_push_of_some → af,get?_push_size → al,lt_size → au,get?_update_self → aP,size_push → bg,SameBut → bG,get?_update_other → cZ
open Nat renaming le_refl → ag,lt_of_lt_of_le → am,ne_of_lt → aA,le_trans → aF,zero_le → aT,lt_irrefl → bp,lt_succ_of_lt → bB,ne_of_gt → bC,le_of_lt → bP,lt_of_le_of_lt → bQ,le_add_right → bX,mul_assoc → cx,le_of_lt_succ → cy,le_of_not_lt → cE,lt_succ_self → cF,mul_le_mul → dr,mod_eq_of_lt → du,mul_comm → dy,lt_or_ge → dz,pow_succ → dA
open Bool renaming and_eq_true → ah,false_ne_true → ak,or_eq_true → aR,false_eq_true → aZ,not_eq_true' → bu,eq_iff_iff → cP
open Array renaming length_toList → ai,getElem?_eq_getElem → aw,toList_append → bD,getElem?_toList → cc,toList_push → ck,getElem?_eq_none_iff → cC,size_map → cY,getElem?_eq_none → db
open Option renaming map → aW,map_eq_some_iff → bU,bind_some → cJ
open Int renaming eq_ofNat_of_zero_le → ba,toNat_natCast → bc,emod_lt_of_pos → de
set_option genSizeOf false
set_option Elab.async false
set_option compiler.extract_closed false
set_option linter.all false
set_option maxRecDepth 100000
set_option tactic.hygienic false
namespace L2
open PySem PySem.Spec PyProof.Rows
section
variable {prog:Program} {w:World} {A:Around} {E:Value->Shared->Prop} {s:Shared}
theorem bF' (s:Shared):s.TypeIs .none "NoneType":=rfl
theorem cc' {Q:Int->Shared->Prop} (h:Q 0xFCA86420 { s with toks:=s.toks+1 }):wpAny (model prog w) A (pyHash .none) Q E s:=by
 unfold pyHash
 have hv:[Value.none].any Value.onHeap=false:=rfl
 refine aa ?_
 rw[cRoomFor,if_neg (by rw[hv];exact ak)];refine ab ?_
 refine aa (wpAny_specialOf (bF' s) F.slot_NoneType_hash.lookup ?_)
 show wpAny _ _ (if(some (Value.builtin "NoneType.__hash__") == some Value.none)=true then _ else _) Q E s
 rw[if_neg (by rw[beq_builtin_none];exact ak)]
 refine aa (wpAny_specialOf (bF' s) F.slot_NoneType_hash.lookup ?_)
 show wpAny _ _ (callSpecialIfBoundUnlessNone? (.none) "__hash__" _ >>= _) Q E s
 refine aa (wpAny_callSpecialIfBoundUnlessNone?_slot (bF' s) F.slot_NoneType_hash
  (aO F.slot_NoneType_hash (bF' s) F.entry_NoneType_hash
   (show wpAny _ _ (do ret (<- mkInt 0xFCA86420)) _ _ s from wpAny_ret_mkInt ?_) (F.args_NoneType_hash_1 _)))
 exact ab h
end
inductive Key where
 |inl (i:Int)|inr (x:Str)|non
 deriving DecidableEq
def hw':Key->Value->Bool
 | .inl k,v=>Value.isInt k v
 | .inr x,v=>Value.isStrOf x v
 | .non,.none=>true
 | .non,_=>false
def Bl' (w:World):Key->Int
 | .inl k=>hashInt k
 | .inr x=>hashStr w x
 | .non=>0xFCA86420
theorem aF':∀{k:Key} {v:Value},hw' k v=true->(∃i t,k=Key.inl i/\v=Value.int i t)\/(∃x t,k=Key.inr x/\v=Value.str x t)\/(k=Key.non/\v=Value.none)
 | .inl i,v,h=>by
  obtain⟨t,e⟩:=Value.isInt_shape (k:=i) (v:=v) h
  exact .inl ⟨i,t,rfl,e⟩
 | .inr x,v,h=>by
  obtain⟨t,e⟩:=Value.isStrOf_shape (x:=x) (v:=v) h
  exact .inr (.inl ⟨x,t,rfl,e⟩)
 | .non,v,h=>by cases v<;>first|exact .inr (.inr ⟨rfl,rfl⟩)|cases h
theorem kb' (i:Int) (t:Tok):hw' (.inl i) (.int i t)=true:=by simp[hw',Value.isInt]
theorem kc' (x:Str) (t:Tok):hw' (.inr x) (.str x t)=true:=by simp[hw',Value.isStrOf]
theorem tJ' (a b:Int):decide ((Key.inl a:Key)=Key.inl b)=(a == b):=by
 by_cases e:a=b
 .rw[e,decide_eq_true rfl,beq_self_eq_true]
 .rw[decide_eq_false (fun q=>e (Key.inl.inj q)),beq_eq_false_iff_ne.mpr e]
theorem tK' (a b:Str):decide ((Key.inr a:Key)=Key.inr b)=decide (a=b):=by
 by_cases e:a=b
 .rw[e,decide_eq_true rfl,decide_eq_true rfl]
 .rw[decide_eq_false (fun q=>e (Key.inr.inj q)),decide_eq_false e]
theorem eY' {a b:Key} (h:a≠b):decide (a=b)=false:=decide_eq_false h
def ai' (prog:Program) (w:World):PySem.KeyKind prog w Key where
 is:=hw'
 hash:=Bl' w
 inj:=fun v a b ha hb=>by
  rcases aF' ha with⟨i,t,rfl,rfl⟩|⟨x,t,rfl,rfl⟩|⟨rfl,rfl⟩<;>rcases aF' hb with⟨j,u,rfl,e⟩|⟨y,u,rfl,e⟩|⟨rfl,e⟩<;>
   first|rfl|(injection e with e1 _;rw[e1])|exact nomatch e
 byValue:=fun k v h=>by
  rcases aF' h with⟨i,t,rfl,rfl⟩|⟨x,t,rfl,rfl⟩|⟨rfl,rfl⟩<;>rfl
 pyHash:=fun hv h=>by
  rcases aF' hv with⟨i,t,rfl,rfl⟩|⟨x,t,rfl,rfl⟩|⟨rfl,rfl⟩
  .exact wpAny_pyHash_int h
  .exact wpAny_pyHash_str h
  .exact cc' h
 eqBool:=fun {A E s a b u v Q} hu hv h=>by
  rcases aF' hu with⟨i,t,rfl,rfl⟩|⟨x,t,rfl,rfl⟩|⟨rfl,rfl⟩
  .rcases aF' hv with⟨j,u,rfl,rfl⟩|⟨y,u,rfl,rfl⟩|⟨rfl,rfl⟩
   .rw[tJ']at h;exact wpAny_eqBool_int h
   .rw[eY' (a:=Key.inl i) (b:=Key.inr y) (fun q=>nomatch q)]at h;exact SeqAt.EqAt.int_str i t y u _ _ _ _ h
   .rw[eY' (a:=Key.inl i) (b:=Key.non) (fun q=>nomatch q)]at h;exact SeqAt.EqAt.int_none i t _ _ _ _ h
  .rcases aF' hv with⟨j,u,rfl,rfl⟩|⟨y,u,rfl,rfl⟩|⟨rfl,rfl⟩
   .rw[eY' (a:=Key.inr x) (b:=Key.inl j) (fun q=>nomatch q)]at h;exact SeqAt.EqAt.str_int x t j u _ _ _ _ h
   .rw[tK']at h;exact wpAny_eqBool_str h
   .rw[eY' (a:=Key.inr x) (b:=Key.non) (fun q=>nomatch q)]at h;exact SeqAt.EqAt.str_none x t _ _ _ _ h
  .rcases aF' hv with⟨j,u,rfl,rfl⟩|⟨y,u,rfl,rfl⟩|⟨rfl,rfl⟩
   .rw[eY' (a:=Key.non) (b:=Key.inl j) (fun q=>nomatch q)]at h;exact SeqAt.EqAt.none_int j u _ _ _ _ h
   .rw[eY' (a:=Key.non) (b:=Key.inr y) (fun q=>nomatch q)]at h;exact SeqAt.EqAt.none_str y u _ _ _ _ h
   .rw[decide_eq_true rfl]at h;exact SeqAt.EqAt.same .none _ _ _ _ h
 «strs»:=fun k x t v h=>by
  rcases aF' h with⟨i,u,rfl,e⟩|⟨y,u,rfl,e⟩|⟨rfl,e⟩
  .exact nomatch e
  .injection e with e1 _
   subst e1
   cases v<;>rfl
  .exact nomatch e
theorem hy' (prog:Program) (w:World) (i:Int) (t:Tok):(ai' prog w).is (.inl i) (.int i t)=true:=kb' i t
theorem hA' (prog:Program) (w:World) (x:Str) (t:Tok):(ai' prog w).is (.inr x) (.str x t)=true:=kc' x t
inductive V where
 |non|bl (b:Bool)|int (i:Int)|str (x:Str)|byt (b:Array UInt8)|flt (b:UInt64)|ref (a:Addr)|ty (n:String)
 deriving DecidableEq
def ax':V->Value->Prop
 | .non,u=>u=Value.none
 | .bl b,u=>u=Value.bool b
 | .int i,u=>∃t,u=Value.int i t
 | .str x,u=>∃t,u=Value.str x t
 | .byt b,u=>∃t,u=Value.bytes b t
 | .flt b,u=>∃t,u=Value.float b t
 | .ref a,u=>u=Value.ref a
 | .ty n,u=>u=Value.type n
abbrev ay':List V->List Value->Prop:=Paired ax'
theorem ay'.length {xs:List V} {us:List Value} (r:ay' xs us):xs.length=us.length:=Paired.length r
theorem ay'.get:∀{xs:List V} {us:List Value} {i:Nat} {x:V},ay' xs us->xs[i]?=some x->∃u,us[i]?=some u/\ax' x u
 |_,_,_,_,.nil,e=>by simp at e
 |_,_,0,_,.cons r _,e=>by simp at e;subst e;exact⟨_,rfl,r⟩
 |_,_,i+1,x,.cons _ t,e=>by
  obtain⟨u,h1,h2⟩:=ay'.get (i:=i) (x:=x) t (by simpa using e)
  exact⟨u,by simpa using h1,h2⟩
theorem ay'.set {x:V} {u:Value} (r:ax' x u):∀{xs:List V} {us:List Value} (i:Nat),ay' xs us->ay' (xs.set i x) (us.set i u)
 |_,_,_,.nil=>.nil
 |_,_,0,.cons _ t=>.cons r t
 |_,_,i+1,.cons q t=>.cons q (ay'.set r i t)
theorem ay'.append:∀{xs ys:List V} {us ws:List Value},ay' xs us->ay' ys ws->ay' (xs++ys) (us++ws)
 |_,_,_,_,.nil,s=>s
 |_,_,_,_,.cons r t,s=>.cons r (ay'.append t s)
theorem ay'.take:∀{xs:List V} {us:List Value} (n:Nat),ay' xs us->ay' (xs.take n) (us.take n)
 |_,_,0,_=>.nil
 |_,_,_+1,.nil=>.nil
 |_,_,n+1,.cons r t=>.cons r (ay'.take n t)
theorem ay'.drop:∀{xs:List V} {us:List Value} (n:Nat),ay' xs us->ay' (xs.drop n) (us.drop n)
 |_,_,0,r=>r
 |_,_,_+1,.nil=>.nil
 |_,_,n+1,.cons _ t=>ay'.drop n t
def ne':Option V->Option Value->Prop
 |some v,some u=>ax' v u
 |none,none=>True
 |_,_=>False
def KV {κ:Type}:List (κ×V)->List (κ×Value)->Prop:=Paired fun(p:κ×V) (q:κ×Value)=>p.1=q.1/\ax' p.2 q.2
def kV:Key->V
 | .inl i=>.int i
 | .inr x=>.str x
 | .non=>.non
inductive HO where
 |lst (xs:List V)
 |tup (xs:List V)
 |dK (kvs:List (Key×V))|dT (kvs:List (List Key×V))
 |set (S:Int->Bool) (n:Nat)
 |ins (C dx:Addr) (fs:List (Str×V))
 |own (x:Addr)
 |xd (fs:List (Str×V))
 |met (f x:Addr)
 |rng (lo hi:Int)
 |frz (o:Obj) (u:HO)
 |tbl (ps:Array Value)
 |ext (φ:Heap->Prop)
abbrev Hp:=Addr->Option HO
def upd (H:Hp) (a:Addr) (o:HO):Hp:=fun b=>if b=a then some o else H b
theorem ab' {H:Hp} {a:Addr} {o:HO}:upd H a o a=some o:=by unfold upd;rw[if_pos rfl]
theorem ae' {H:Hp} {a b:Addr} {o:HO} (h:b≠a):upd H a o b=H b:=by unfold upd;rw[if_neg h]
theorem hB' {H:Hp} {a:Addr} {o u:HO}:upd (upd H a o) a u=upd H a u:=by
 funext b;unfold upd;split<;>rfl
theorem yl' {H:Hp} {a b:Addr} {o u:HO} (h:H a=some o) (h':H b=some u) (d:o≠u):a≠b:=by
 intro e;subst e;rw[h]at h';exact d (Option.some.inj h')
theorem au' {H:Hp} {a b:Addr} {o:HO} (h:H a=some o) (h':H b=none):a≠b:=by
 intro e;subst e;rw[h]at h';cases h'
def ng' (h:Heap) (a:Addr) (items:Array Value):Prop:=∃o,h.get? a=some o/\o.cls=.type "tuple"/\(∃n,o.data=.seq items n)/\o.dict=none
theorem ng'.tup {h:Heap} {a:Addr} {items:Array Value} (x:ng' h a items):IsTup h a items:=let⟨o,e,c,⟨n,d⟩,_⟩:=x;⟨o,e,c,n,d⟩
theorem ng'.new (h:Heap) (items:Array Value):ng' (h.push { cls:=.type "tuple",data:=.seq items }) h.objs.size items:=⟨_,al _ rfl,rfl,⟨_,rfl⟩,rfl⟩
section
variable (P:Program) (w:World)
def aA' (H:Hp) (h:Heap) (a:Addr):HO->Prop
 | .lst xs=>xs.length<=sizeLine/\∃(its:List Value) (n:Nat),ay' xs its/\h.get? a=some { cls:=.type "list",data:=.seq its.toArray n }
 | .tup xs=>xs.length<=sizeLine/\∃its:List Value,ay' xs its/\ng' h a its.toArray
 | .dK kvs=>kvs.length<=sizeLine/\(a == sysModules)=false/\∃vs,KV kvs vs/\h.DictOf (ai' P w) a vs
 | .dT kvs=>kvs.length<=sizeLine/\(a == sysModules)=false/\∃xs:List (List Key×Addr×Value),
   Paired (fun(p:List Key×V) (q:List Key×Addr×Value)=>p.1=q.1/\H q.2.1=some (.tup (p.1.map kV))/\ax' p.2 q.2.2) kvs xs/\
   ∃o es ep,h.get? a=some o/\o.ExactDict/\o.data=.dict es ep/\es.toList=xs.map (entryOfKey (tupleKind (ai' P w)))/\(xs.map (·.1)).Nodup
 | .set S n=>h.SetOf (intKind P w) a S n
 | .ins C dx fs=>H dx=some (.own a)/\fs.length<=1000/\dx≠a/\h.get? a=some (W.instObj C dx)/\
   ∃mA,h.Ns1 dx mA/\(∀f,ne' (fs.lookup f) (mA f))/\PySem.Within mA (fs.map (·.1))
 | .own _=>∃o,h.get? a=some o
 | .xd fs=>∃mA,h.Ns1 a mA/\∀f,ne' (fs.lookup f) (mA f)
 | .rng lo hi=>∃t u v,h.get? a=some { cls:=.type "range",data:=.fields #[.int lo t,.int hi u,.int 1 v] }
 | .frz o u=>h.get? a=some o/\aA' H h a u
 | .tbl ps=>h.get? a=some { cls:=.none,data:=.fields ps }
 | .met f x=>h.get? a=some (W.methodObj (.ref f) (.ref x))
 | .ext φ=>φ h/\(∃o,h.get? a=some o)/\∀h1 h2:Heap,φ h1->(∀o,h1.get? a=some o->h2.get? a=some o)->φ h2
def HOk (H:Hp) (h:Heap):Prop:=∀a o,H a=some o->aA' P w H h a o
end
section
variable {P:Program} {w:World} {H H':Hp} {h h':Heap} {a:Addr} {o:HO}
theorem aA'.lt (x:aA' P w H h a o):a<h.objs.size:=by
 cases o with
 |lst xs=>obtain⟨_,_,_,_,e⟩:=x;exact au e
 |tup xs=>obtain⟨_,_,_,p⟩:=x;exact p.tup.lt
 |dK kvs=>obtain⟨_,_,_,_,o,_,_,e,_⟩:=x;exact au e
 |dT kvs=>obtain⟨_,_,_,_,o,_,_,e,_⟩:=x;exact au e
 |set S n=>obtain⟨o,_,_,_,e,_⟩:=x;exact au e
 |ins C dx fs=>obtain⟨_,_,_,e,_⟩:=x;exact au e
 |own y=>obtain⟨_,e⟩:=x;exact au e
 |xd fs=>obtain⟨_,⟨_,_,_,e,_⟩,_⟩:=x;exact au e
 |rng lo hi=>obtain⟨_,_,_,e⟩:=x;exact au e
 |frz ob u=>obtain⟨e,_⟩:=x;exact au e
 |tbl ps=>exact au (show h.get? a=some _ from x)
 |met f y=>exact au (show h.get? a=some _ from x)
 |ext φ=>obtain⟨_,⟨_,e⟩,_⟩:=x;exact au e
theorem Paired.mapP {α β:Type} {F G:α->β->Prop}:∀{l₁:List α} {l₂:List β},Paired F l₁ l₂->(∀a b,F a b->G a b)->Paired G l₁ l₂
 |_,_,.nil,_=>.nil
 |_,_,.cons r t,f=>.cons (f _ _ r) (Paired.mapP t f)
theorem aA'.stay (x:aA' P w H h a o) (k:∀b u,(b=a\/H b=some (.own a))->h.get? b=some u->h'.get? b=some u)
  (ho:∀b,H b=some (.own a)->H' b=some (.own a)) (ht:∀b xs,H b=some (.tup xs)->H' b=some (.tup xs)):aA' P w H' h' a o:=by
 induction o with
 |lst xs=>obtain⟨z,its,n,r,e⟩:=x;exact⟨z,its,n,r,k _ _ (.inl rfl) e⟩
 |tup xs=>obtain⟨z,its,r,ob,e,c⟩:=x;exact⟨z,its,r,ob,k _ _ (.inl rfl) e,c⟩
 |dK kvs=>obtain⟨z,y,vs,r,ob,es,ep,e,c⟩:=x;exact⟨z,y,vs,r,ob,es,ep,k _ _ (.inl rfl) e,c⟩
 |dT kvs=>
  obtain⟨z,y,xs,r,ob,es,ep,e,c⟩:=x
  exact⟨z,y,xs,Paired.mapP r fun p q z=>⟨z.1,ht _ _ z.2.1,z.2.2⟩,ob,es,ep,k _ _ (.inl rfl) e,c⟩
 |set S n=>obtain⟨ob,es,ep,t,e,c⟩:=x;exact⟨ob,es,ep,t,k _ _ (.inl rfl) e,c⟩
 |ins C dx fs=>
  obtain⟨d,z,ne,e,mA,⟨od,es,ep,e2,c⟩,r⟩:=x
  exact⟨ho _ d,z,ne,k _ _ (.inl rfl) e,mA,⟨od,es,ep,k _ _ (.inr d) e2,c⟩,r⟩
 |own y=>obtain⟨ob,e⟩:=x;exact⟨ob,k _ _ (.inl rfl) e⟩
 |xd fs=>obtain⟨mA,⟨od,es,ep,e,c⟩,r⟩:=x;exact⟨mA,⟨od,es,ep,k _ _ (.inl rfl) e,c⟩,r⟩
 |rng lo hi=>obtain⟨t,u,v,e⟩:=x;exact⟨t,u,v,k _ _ (.inl rfl) e⟩
 |frz ob u ih=>obtain⟨e,q⟩:=x;exact⟨k _ _ (.inl rfl) e,ih q⟩
 |tbl ps=>
  have e:h.get? a=some { cls:=.none,data:=.fields ps }:=x
  show h'.get? a=some { cls:=.none,data:=.fields ps }
  exact k a _ (.inl rfl) e
 |met f y=>
  have e:h.get? a=some (W.methodObj (.ref f) (.ref y)):=x
  show h'.get? a=some (W.methodObj (.ref f) (.ref y))
  exact k a _ (.inl rfl) e
 |ext φ=>obtain⟨p,⟨o,e⟩,st⟩:=x;exact⟨st _ _ p fun o q=>k _ _ (.inl rfl) q,⟨o,k _ _ (.inl rfl) e⟩,st⟩
theorem HOk.lt (x:HOk P w H h) (e:H a=some o):a<h.objs.size:=(x a o e).lt
theorem HOk.fresh (x:HOk P w H h) (e:h.objs.size<=a):H a=none:=by
 cases q:H a with
 |none=>rfl
 |some u=>exact absurd (am (x.lt q) e) (bp _)
theorem HOk.kept (x:HOk P w H h) (k:∀b u,h.get? b=some u->h'.get? b=some u):HOk P w H h':=fun a o e=>
 (x a o e).stay (fun b u _ q=>k b u q) (fun _ q=>q) fun _ _ q=>q
theorem HOk.laid (x:HOk P w H h) (k:∀b u,h.get? b=some u->h'.get? b=some u) (hp:h.objs.size<=a) (new:aA' P w (upd H a o) h' a o):HOk P w (upd H a o) h':=fun b u e=>by
 have hn:=x.fresh hp
 by_cases hb:b=a
 .subst hb;rw[ab']at e;cases e;exact new
 .rw[ae' hb]at e
  exact(x b u e).stay (fun c v _ q=>k c v q) (fun c q=>by rw[ae' (au' q hn)];exact q) fun c xs q=>by rw[ae' (au' q hn)];exact q
end
def Rd (H:Hp) (a:Addr) (u:HO):Prop:=H a=some u\/∃o,H a=some (.frz o u)
theorem Rd.ok {P:Program} {w:World} {H:Hp} {h:Heap} {a:Addr} {u:HO} (r:Rd H a u) (x:HOk P w H h):aA' P w H h a u:=by
 rcases r with r|⟨o,r⟩
 .exact x a u r
 .obtain⟨_,q⟩:=x a _ r
  exact q
def Mut:Option HO->Prop
 |some (.lst _)=>True
 |some (.dK _)=>True
 |some (.dT _)=>True
 |some (.set _ _)=>True
 |some (.ins _ _ _)=>True
 |some (.ext _)=>True
 |_=>False
section
variable {P:Program} {w:World} {H:Hp} {h h':Heap} {x e:Addr} {o':HO}
theorem HOk.write (ok:HOk P w H h) (mu:Mut (H x)) (he:e=x\/H e=some (.own x)) (k:∀b u,b≠e->h.get? b=some u->h'.get? b=some u) (heo:∃u,h'.get? e=some u)
  (new:aA' P w (upd H x o') h' x o'):HOk P w (upd H x o') h':=fun b u q=>by
 have nown:∀c y,H c=some (.own y)->c≠x:=fun c y r z=>by subst z;rw[r]at mu;exact mu
 have ntup:∀c xs,H c=some (.tup xs)->c≠x:=fun c xs r z=>by subst z;rw[r]at mu;exact mu
 by_cases hb:b=x
 .subst hb;rw[ab']at q;cases q;exact new
 .rw[ae' hb]at q
  by_cases hbe:b=e
  .have q':H b=some (.own x):=by
    rcases he with z|z
    .exact absurd (hbe.trans z) hb
    .rw[hbe];exact z
   rw[q]at q';cases q'
   obtain⟨v,hv⟩:=heo
   exact⟨v,by rw[hbe];exact hv⟩
  .refine(ok b u q).stay (fun c v hc r=>k c v ?_ r) (fun c r=>by rw[ae' (nown c b r)];exact r) fun c xs r=>by rw[ae' (ntup c xs r)];exact r
   rcases hc with rfl|hc
   .exact hbe
   .rintro rfl
    rcases he with z|z
    .exact nown c b hc z
    .rw[hc]at z;cases z;exact hb rfl
end
structure Un (fs ex:List Addr) (H H':Hp) (h h':Heap):Prop where
 keep:∀b o,h.get? b=some o->H b=none->b∉fs->b∉ex->h'.get? b=some o
 slot:∀b o,h.get? b=some o->H b=none->b∈fs->b∉ex->∃sl,h'.get? b=some { o with slots:=sl }
 free:∀b o,h.get? b=some o->H b=none->b∉ex->H' b=none
 there:∀b o,h.get? b=some o->b∉ex->∃o',h'.get? b=some o'
 tups:∀b xs,H b=some (.tup xs)->H' b=some (.tup xs)
 frzs:∀b o u,H b=some (.frz o u)->H' b=some (.frz o u)
 tbls:∀b ps,H b=some (.tbl ps)->∃more,H' b=some (.tbl (ps++more))
section
variable {fs fs' ex ex':List Addr} {H H1 H2:Hp} {h h1 h2 h':Heap} {a x e:Addr} {o:HO}
theorem Un.any (u:Un fs ex H H1 h h1) {b:Addr} {ob:Obj} (q:h.get? b=some ob) (n:H b=none) (hx:b∉ex):∃sl,h1.get? b=some { ob with slots:=sl }:=by
 by_cases hb:b∈fs
 .exact u.slot b ob q n hb hx
 .exact⟨ob.slots,u.keep b ob q n hb hx⟩
theorem Un.kept (k:∀b u,h.get? b=some u->h'.get? b=some u):Un fs ex H H h h':=
 ⟨fun b ob q _ _ _=>k b ob q,fun b ob q _ _ _=>⟨ob.slots,k b ob q⟩,fun _ _ _ n _=>n,fun b ob q _=>⟨ob,k b ob q⟩,fun _ _ q=>q,fun _ _ _ q=>q,fun _ ps q=>⟨#[],by rw[q];simp⟩⟩
theorem Un.refl:Un fs ex H H h h:=Un.kept fun _ _ q=>q
theorem Un.laid (k:∀b u,h.get? b=some u->h'.get? b=some u) (hp:h.objs.size<=a) (hn:H a=none):Un fs ex H (upd H a o) h h' where
 keep:=fun b u q _ _ _=>k b u q
 slot:=fun b u q _ _ _=>⟨u.slots,k b u q⟩
 free:=fun b u q n _=>by rw[ae' (aA (am (au q) hp))];exact n
 there:=fun b u q _=>⟨u,k b u q⟩
 tups:=fun b xs q=>by rw[ae' (au' q hn)];exact q
 frzs:=fun b u xs q=>by rw[ae' (au' q hn)];exact q
 tbls:=fun b ps q=>⟨#[],by rw[ae' (au' q hn),q];simp⟩
theorem Un.write (mu:Mut (H x)) (he:e=x\/H e=some (.own x)) (k:∀b u,b≠e->h.get? b=some u->h'.get? b=some u) (heo:∃u,h'.get? e=some u):Un fs ex H (upd H x o) h h':=by
 have hx:∀b,H b=none->b≠x:=fun b n z=>by subst z;rw[n]at mu;exact mu
 have hb:∀b,H b=none->b≠e:=fun b n z=>by
  subst z
  rcases he with r|r
  .exact hx b n r
  .rw[n]at r;cases r
 have hm:∀b u,H b=some u->¬Mut (some u)->b≠x:=fun b u q nm z=>by subst z;rw[q]at mu;exact nm mu
 refine⟨fun b u q n _ _=>k b u (hb b n) q,fun b u q n _ _=>⟨u.slots,k b u (hb b n) q⟩,fun b u q n _=>by rw[ae' (hx b n)];exact n,fun b u q _=>?_,
  fun b xs q=>by rw[ae' (hm b _ q fun z=>z)];exact q,fun b u xs q=>by rw[ae' (hm b _ q fun z=>z)];exact q,fun b ps q=>⟨#[],by rw[ae' (hm b _ q fun z=>z),q];simp⟩⟩
 by_cases hbe:b=e
 .subst hbe;exact heo
 .exact⟨u,k b u hbe q⟩
end
def trk (h:Heap) (H:Hp):List Addr:=(aG h.objs.size).filter fun a=>(H a).isSome
def nh' (h:Heap) (H:Hp):Heap:=W.hideAll h (trk h H)
theorem kd' (h:Heap) (H:Hp):(nh' h H).objs.size=h.objs.size:=W.hideAll_size _ _
theorem ni' {h:Heap} {H:Hp} {b:Addr} {o:Obj} (e:h.get? b=some o) (n:H b=none):(nh' h H).get? b=some o:=
 W.hideAll_get _ e fun hm=>by
  have q:(H b).isSome=true:=(aY.mp hm).2
  rw[n]at q;simp at q
theorem qD' {h:Heap} {H:Hp} {b:Addr} {o:Obj} (e:(nh' h H).get? b=some o):h.get? b=some o/\H b=none:=by
 have e':h.get? b=some o:=W.of_hideAll (trk h H) e
 refine⟨e',?_⟩
 cases q:H b with
 |none=>rfl
 |some x=>
  have hm:b∈trk h H:=aY.mpr ⟨aK.mpr (au e'),by simp[q]⟩
  have z:(nh' h H).get? b=none:=W.hideAll_none (trk h H) hm
  rw[z]at e;cases e
def qE' (g h:Heap) (L:Addr):List (Addr×Obj):=(aG h.objs.size).filterMap fun a=>if a=L\/(g.get? a).isSome=true then none else(h.get? a).map fun o=>(a,o)
def as' (g h:Heap) (L d:Addr):List (Addr×Obj):=(qE' g h L).filter fun p=>decide (p.1≠d)
structure Mod (K:W.Frag) (mg:Str->Option Value) (base:Heap):Prop where
 kin:K.In base
 glob:base.Ns mainGlobals mg
 blt:∃mb,base.Ns builtinsNs mb/\∀x:Str,x≠"__name__"->mb x=bootBuiltins x
 nolimit:base.NoLimit
set_option genInjectivity false
structure Cx where
 prog:Program
 w:World
 K:W.Frag
 mg:Str->Option Value
 base:Heap
 A:Around
 N:List Str
 s₀:Shared
 H₀:Hp
 env:Env
 outer:List Env
 stack:List Env
 ex:List Addr
 fn:Str->Bool
 calm:Bool
 pn:List (Addr×Obj)
 xe:Value->Shared->Prop
set_option genInjectivity true
def frs (l:List Env):List Addr:=l.filterMap (·.frame)
abbrev Cx.fs (X:Cx):List Addr:=frs X.outer
def Vis (sc:Scope) (x:Str):Prop:=sc.names.lookup x=some .local\/sc.names.lookup x=some .cell\/sc.names.lookup x=some .free
def Loc (sc:Scope) (x:Str):Prop:=sc.names.lookup x=some .local\/sc.names.lookup x=some .cell
def Bm' (env:Env) (h:Heap) (m:Str->Option Value) (x:Str) (u:Value):Prop:=
 (env.kindOf x=some .local/\m x=some u)\/((env.kindOf x=some .cell\/env.kindOf x=some .free)/\∃c,env.cells.lookup x=some c/\h.IsCell c (some u))
structure Cx.Ok (X:Cx):Prop where
 mod:Mod X.K X.mg X.base
 kind:X.env.scope.kind=.function
 glob:X.env.globals=mainGlobals
 blt:X.env.builtins=builtinsNs
 above:X.s₀.heap.objs.size<=X.env.locals
 inj:∀x y c,X.env.cells.lookup x=some c->X.env.cells.lookup y=some c->x=y
 has:∀x,(X.env.kindOf x=some .cell\/X.env.kindOf x=some .free)->∃c,X.env.cells.lookup x=some c
 cab:∀x c,X.fn x=true->X.env.cells.lookup x=some c->X.s₀.heap.objs.size<=c
 hd:X.calm=true->X.A.handled=none
 frames:X.A.frames=some X.stack
 stk:X.stack=X.outer\/(X.stack=X.env :: X.outer/\X.env.frame=some X.env.locals)
 exf:∀b∈X.ex,b≠X.env.locals/\∀x c,X.env.cells.lookup x=some c->c≠b
 bs:∀b o,X.base.get? b=some o->X.s₀.heap.get? b=some o/\X.H₀ b=none
 bsz:X.base.objs.size<=X.s₀.heap.objs.size
 noex:∀b o,X.base.get? b=some o->b∉X.ex
 exfs:∀b∈X.ex,b∉X.fs
 funs:X.s₀.heap.FunFrames X.base X.outer
 frf:∀b∈X.fs,X.H₀ b=none
structure Inv (X:Cx) (p_:List (Addr×Obj)) (σ:List (Option V)) (H:Hp) (s:Shared):Prop where
 ok:X.Ok
 os:s.os=X.s₀.os
 bare:AllBare s.gens
 base:Un X.fs X.ex X.H₀ H X.s₀.heap s.heap
 loc:∃m,s.heap.Ns X.env.locals m/\∀(i:Nat) (x:Str) (v:V),X.N[i]?=some x->σ[i]?=some (some v)->Vis X.env.scope x->∃u,ax' v u/\Bm' X.env s.heap m x u
 cell:∀x c,X.env.cells.lookup x=some c->∃v,s.heap.IsCell c v
 free:H X.env.locals=none
 freeC:∀x c,X.env.cells.lookup x=some c->H c=none
 pin:∀p∈X.pn++p_,s.heap.get? p.1=some p.2/\H p.1=none/\p.1≠X.env.locals/\p.1∉X.fs/\∀v,p.2.data≠.cell v
 hok:HOk X.prog X.w H s.heap
 len:σ.length=X.N.length
section
variable {X:Cx} {p_:List (Addr×Obj)} {σ:List (Option V)} {H H':Hp} {s:Shared} {h':Heap}
theorem Cx.Ok.nofr (ok:X.Ok) {b:Addr} {o:Obj} (e:X.base.get? b=some o):b∉X.fs:=fun hb=>by
 have:=(ok.funs.mem hb).1
 rw[e]at this;cases this
theorem Inv.bs (I:Inv X p_ σ H s):∀b o,X.base.get? b=some o->s.heap.get? b=some o/\H b=none:=fun b o e=>
 ⟨I.base.keep b o (I.ok.bs b o e).1 (I.ok.bs b o e).2 (I.ok.nofr e) (I.ok.noex b o e),I.base.free b o (I.ok.bs b o e).1 (I.ok.bs b o e).2 (I.ok.noex b o e)⟩
theorem Inv.bk (I:Inv X p_ σ H s):∀b o,X.base.get? b=some o->s.heap.get? b=some o:=fun b o e=>(I.bs b o e).1
theorem Inv.mod (I:Inv X p_ σ H s):Mod X.K X.mg X.base:=I.ok.mod
theorem Inv.kIn (I:Inv X p_ σ H s):X.K.In s.heap:=I.ok.mod.kin.keeps I.bk
theorem Inv.fr (I:Inv X p_ σ H s):∃m,Fr X.base X.env.locals s.heap m:=
 let⟨m,hn,_⟩:=I.loc
 ⟨m,hn,I.bk,aF I.ok.bsz I.ok.above⟩
theorem Inv.lt (I:Inv X p_ σ H s):X.env.locals<s.heap.objs.size:=let⟨_,hn,_⟩:=I.loc;hn.lt
theorem Inv.sz (I:Inv X p_ σ H s):X.s₀.heap.objs.size<=s.heap.objs.size:=aF I.ok.above (bP I.lt)
theorem Inv.nofs (I:Inv X p_ σ H s) {a:Addr} (h:s.heap.objs.size<=a):a∉X.fs:=fun hb=>by
 obtain⟨_,o,ho,_⟩:=I.ok.funs.mem hb
 exact absurd (am (au ho) (aF I.sz h)) (bp _)
theorem Inv.cne (I:Inv X p_ σ H s):∀x c,X.env.cells.lookup x=some c->c≠X.env.locals:=fun x c e z=>by
 obtain⟨v,o,ho,hd⟩:=I.cell x c e
 obtain⟨m,⟨o',es,ep,ho',hd',_⟩,_⟩:=I.loc
 rw[z,ho']at ho;cases ho;rw[hd']at hd;cases hd
theorem Inv.funs (I:Inv X p_ σ H s):s.heap.FunFrames X.base X.outer:=by
 have all:∀(l:List Env),(∀b∈frs l,b∈X.fs)->X.s₀.heap.FunFrames X.base l->s.heap.FunFrames X.base l:=by
  intro l
  induction l with
  |nil=>intro _ _;trivial
  |cons env r ih=>
   intro hs hl
   obtain⟨hk,⟨L,o,hf,hn,ho,hd⟩,hr⟩:=hl
   have hL:L∈X.fs:=hs L (by unfold frs;rw[cU,hf];exact aE)
   obtain⟨sl,e⟩:=I.base.slot L o ho (I.ok.frf L hL) hL fun z=>I.ok.exfs L z hL
   exact⟨hk,⟨L,_,hf,hn,e,hd⟩,ih (fun b hb=>hs b (by unfold frs;rw[cU,hf];exact aC _ hb)) hr⟩
 exact all X.outer (fun _ hb=>hb) I.ok.funs
theorem Inv.stack (I:Inv X p_ σ H s):s.heap.FunFrames X.base X.stack:=by
 rcases I.ok.stk with e|⟨e,hf⟩
 .rw[e];exact I.funs
 .rw[e]
  obtain⟨m,hn,_⟩:=I.loc
  refine .cons (by rw[I.ok.kind];decide) hf hn ?_ I.funs
  exact Heap.get?_none_of_le (aF I.ok.bsz I.ok.above)
theorem Inv.stkSub (I:Inv X p_ σ H s):∀b∈frs X.stack,b∈X.env.locals :: X.fs:=fun b hb=>by
 rcases I.ok.stk with e|⟨e,hf⟩
 .rw[e]at hb;exact aC _ hb
 .rw[e]at hb
  unfold frs at hb
  rw[cU,hf]at hb
  exact hb
theorem Inv.stkFree (I:Inv X p_ σ H s):∀b∈frs X.stack,H b=none:=fun b hb=>by
 rcases ay.mp (I.stkSub b hb)with e|hb
 .rw[e];exact I.free
 .obtain⟨_,o,ho,_⟩:=I.ok.funs.mem hb
  exact I.base.free b o ho (I.ok.frf b hb) fun z=>I.ok.exfs b z hb
theorem Inv.step {g':Array GenState} {t':Nat} {d':Drawn} {ch:List Addr} (I:Inv X p_ σ H s)
  (hch:∀b∈ch,(b∈X.ex\/X.s₀.heap.objs.size<=b)/\b≠X.env.locals/\(∀x c,X.env.cells.lookup x=some c->c≠b)/\∀p∈X.pn++p_,p.1≠b)
  (keep:∀b o,b≠X.env.locals->b∉X.fs->b∉ch->s.heap.get? b=some o->H b=none->h'.get? b=some o)
  (slot:∀b o,b≠X.env.locals->b∈X.fs->b∉ch->s.heap.get? b=some o->H b=none->∃sl,h'.get? b=some { o with slots:=sl }) (free:∀b o,b∉ch->s.heap.get? b=some o->H b=none->H' b=none)
  (there:∀b o,b∉ch->s.heap.get? b=some o->∃o',h'.get? b=some o')
  (tups:∀b xs,H b=some (.tup xs)->H' b=some (.tup xs)) (frzs:∀b o u,H b=some (.frz o u)->H' b=some (.frz o u)) (tbls:∀b ps,H b=some (.tbl ps)->∃more,H' b=some (.tbl (ps++more)))
  (ns:∀m,s.heap.Ns X.env.locals m->h'.Ns X.env.locals m) (hok:HOk X.prog X.w H' h') (hg:AllBare g'):
  Inv X p_ σ H' { s with heap:=h',gens:=g',drawn:=d',toks:=t' }:=by
 have neL:∀b o,X.s₀.heap.get? b=some o->b≠X.env.locals:=fun b o e=>aA (am (au e) I.ok.above)
 have neC:∀b o,X.s₀.heap.get? b=some o->b∉X.ex->b∉ch:=fun b o e hx hb=>by
  rcases(hch b hb).1 with z|z
  .exact hx z
  .exact absurd (am (au e) z) (bp _)
 have cellK:∀x c,X.env.cells.lookup x=some c->∀v,s.heap.IsCell c v->h'.IsCell c v:=fun x c e v ⟨o,ho,hd⟩=>by
  have nch:c∉ch:=fun z=>(hch c z).2.2.1 x c e rfl
  by_cases hc:c∈X.fs
  .obtain⟨sl,q⟩:=slot c o (I.cne x c e) hc nch ho (I.freeC x c e)
   exact⟨_,q,hd⟩
  .exact⟨o,keep c o (I.cne x c e) hc nch ho (I.freeC x c e),hd⟩
 refine⟨I.ok,I.os,hg,⟨fun b o e n hb hx=>?_,fun b o e n hb hx=>?_,fun b o e n hx=>?_,fun b o e hx=>?_,fun b xs e=>tups b xs (I.base.tups b xs e),fun b o xs e=>frzs b o xs (I.base.frzs b o xs e),fun b ps e=>?_⟩,?_,fun x c e=>?_,?_,fun x c e=>?_,fun p hp=>?_,hok,I.len⟩
 .exact keep b o (neL b o e) hb (neC b o e hx) (I.base.keep b o e n hb hx) (I.base.free b o e n hx)
 .obtain⟨sl,e1⟩:=I.base.slot b o e n hb hx
  obtain⟨sl',e2⟩:=slot b _ (neL b o e) hb (neC b o e hx) e1 (I.base.free b o e n hx)
  exact⟨sl',e2⟩
 .obtain⟨o',e1⟩:=I.base.there b o e hx
  exact free b o' (neC b o e hx) e1 (I.base.free b o e n hx)
 .obtain⟨o',e1⟩:=I.base.there b o e hx
  exact there b o' (neC b o e hx) e1
 .obtain⟨m1,e1⟩:=I.base.tbls b ps e
  obtain⟨m2,e2⟩:=tbls b _ e1
  exact⟨m1++m2,by rw[e2,Array.append_assoc]⟩
 .obtain⟨m,hn,hl⟩:=I.loc
  refine⟨m,ns m hn,fun i x v e1 e2 e3=>?_⟩
  obtain⟨u,r,l⟩:=hl i x v e1 e2 e3
  refine⟨u,r,?_⟩
  rcases l with l|⟨k,c,e,z⟩
  .exact .inl l
  .exact .inr ⟨k,c,e,cellK x c e _ z⟩
 .obtain⟨v,z⟩:=I.cell x c e
  exact⟨v,cellK x c e v z⟩
 .obtain⟨m,⟨o,_,_,ho,_⟩,_⟩:=I.loc
  exact free _ o (fun z=>(hch _ z).2.1 rfl) ho I.free
 .obtain⟨v,o,ho,hd⟩:=I.cell x c e
  exact free c o (fun z=>(hch c z).2.2.1 x c e rfl) ho (I.freeC x c e)
 .obtain⟨e,n,ne,nf,d⟩:=I.pin p hp
  have nch:p.1∉ch:=fun z=>(hch p.1 z).2.2.2 p hp rfl
  exact⟨keep p.1 p.2 ne nf nch e n,free p.1 p.2 nch e n,ne,nf,d⟩
theorem Inv.un {t':Nat} (I:Inv X p_ σ H s) (u:Un X.fs [] H H' s.heap h') (hok:HOk X.prog X.w H' h'):Inv X p_ σ H' { s with heap:=h',toks:=t' }:=by
 obtain⟨m,⟨o,es,ep,ho,r⟩,_⟩:=id I.loc
 obtain⟨sl,hL⟩:=u.any ho I.free (by simp)
 exact I.step (g':=s.gens) (d':=s.drawn) (ch:=[]) (fun _ z=>nomatch z) (fun b o _ hb _ e n=>u.keep b o e n hb (by simp)) (fun b o _ hb _ e n=>u.slot b o e n hb (by simp)) (fun b o _ e n=>u.free b o e n (by simp)) (fun b o _ e=>u.there b o e (by simp)) u.tups u.frzs u.tbls (fun m' hm=>by
  obtain⟨o',es',ep',ho',r'⟩:=hm
  rw[ho]at ho';cases ho'
  exact⟨_,es',ep',hL,r'⟩) hok I.bare
theorem Inv.call {g':Array GenState} {t':Nat} {d':Drawn} {ch:List Addr} (I:Inv X p_ σ H s) (u:Un (frs X.stack) ch H H' s.heap h') (hok:HOk X.prog X.w H' h') (hg:AllBare g')
  (hch:∀b∈ch,(b∈X.ex\/X.s₀.heap.objs.size<=b)/\b≠X.env.locals/\(∀x c,X.env.cells.lookup x=some c->c≠b)/\∀p∈X.pn++p_,p.1≠b):
  Inv X p_ σ H' { s with heap:=h',gens:=g',drawn:=d',toks:=t' }:=by
 obtain⟨m,⟨o,es,ep,ho,r⟩,_⟩:=id I.loc
 obtain⟨sl,hL⟩:=u.any ho I.free fun z=>(hch _ z).2.1 rfl
 exact I.step (ch:=ch) hch (fun b o hL hb hc e n=>u.keep b o e n (fun z=>(ay.mp (I.stkSub b z)).elim hL hb) hc) (fun b o _ _ hc e n=>u.any e n hc) (fun b o hc e n=>u.free b o e n hc) (fun b o hc e=>u.there b o e hc) u.tups u.frzs u.tbls (fun m' hm=>by
  obtain⟨o',es',ep',ho',r'⟩:=hm
  rw[ho]at ho';cases ho'
  exact⟨_,es',ep',hL,r'⟩) hok hg
theorem Inv.turned {t':Nat} {it:Addr} (I:Inv X p_ σ H s) (k:∀b o,b≠it->s.heap.get? b=some o->h'.get? b=some o) (hn:H it=none) (hL:it≠X.env.locals)
  (h1:it∈X.ex\/X.s₀.heap.objs.size<=it) (h2:∀x c,X.env.cells.lookup x=some c->c≠it) (h3:∀p∈X.pn++p_,p.1≠it):Inv X p_ σ H { s with heap:=h',toks:=t' }:=by
 have nit:∀b u,H b=some u->b≠it:=fun b u e z=>by rw[z,hn]at e;cases e
 refine I.step (g':=s.gens) (d':=s.drawn) (ch:=[it]) (fun b hb=>?_) (fun b o _ _ hc e _=>k b o (fun z=>hc (by simp[z])) e) (fun b o _ _ hc e _=>⟨o.slots,k b o (fun z=>hc (by simp[z])) e⟩) (fun _ _ _ _ n=>n)
  (fun b o hc e=>⟨o,k b o (fun z=>hc (by simp[z])) e⟩) (fun _ _ e=>e) (fun _ _ _ e=>e) (fun b ps e=>⟨#[],by rw[e];simp⟩) (fun m hm=>?_) (fun b u e=>?_) I.bare
 .have e:b=it:=by simpa using hb
  subst e
  exact⟨h1,hL,h2,h3⟩
 .obtain⟨o,es,ep,ho,r⟩:=hm
  exact⟨o,es,ep,k _ o (Ne.symm hL) ho,r⟩
 .refine(I.hok b u e).stay (fun c v hc q=>k c v ?_ q) (fun _ q=>q) fun _ _ q=>q
  rcases hc with z|z
  .rw[z];exact nit b u e
  .exact nit c _ z
theorem Inv.tok (I:Inv X p_ σ H s) (t:Nat):Inv X p_ σ H { s with toks:=t }:=I.un (h':=s.heap) (t':=t) Un.refl I.hok
theorem Inv.kept {t':Nat} (I:Inv X p_ σ H s) (k:∀b u,s.heap.get? b=some u->h'.get? b=some u):Inv X p_ σ H { s with heap:=h',toks:=t' }:=I.un (Un.kept k) (I.hok.kept k)
theorem Inv.laid {a:Addr} {o:HO} {t':Nat} (I:Inv X p_ σ H s) (k:∀b u,s.heap.get? b=some u->h'.get? b=some u) (hp:s.heap.objs.size<=a) (new:aA' X.prog X.w (upd H a o) h' a o):
  Inv X p_ σ (upd H a o) { s with heap:=h',toks:=t' }:=I.un (Un.laid k hp (I.hok.fresh hp)) (I.hok.laid k hp new)
theorem Inv.write {x e:Addr} {o:HO} {t':Nat} (I:Inv X p_ σ H s) (mu:Mut (H x)) (he:e=x\/H e=some (.own x)) (k:∀b u,b≠e->s.heap.get? b=some u->h'.get? b=some u) (heo:∃u,h'.get? e=some u)
  (new:aA' X.prog X.w (upd H x o) h' x o):Inv X p_ σ (upd H x o) { s with heap:=h',toks:=t' }:=I.un (Un.write mu he k heo) (I.hok.write mu he k heo new)
theorem Inv.weak {σ':List (Option V)} (I:Inv X p_ σ H s) (hl:σ'.length=σ.length) (w:∀(i:Nat) v,σ'[i]?=some (some v)->σ[i]?=some (some v)):Inv X p_ σ' H s:=
 ⟨I.ok,I.os,I.bare,I.base,let⟨m,hn,hl'⟩:=I.loc;⟨m,hn,fun i x v e1 e2 e3=>hl' i x v e1 (w i v e2) e3⟩,I.cell,I.free,I.freeC,I.pin,I.hok,hl.trans I.len⟩
theorem Inv.pins_of {p_':List (Addr×Obj)} (I:Inv X p_ σ H s) (h:∀p∈p_',s.heap.get? p.1=some p.2/\H p.1=none/\p.1≠X.env.locals/\p.1∉X.fs/\∀v,p.2.data≠.cell v):Inv X p_' σ H s:=
 ⟨I.ok,I.os,I.bare,I.base,I.loc,I.cell,I.free,I.freeC,fun p hp=>(aL.mp hp).elim (fun z=>I.pin p (br _ z)) (h p),I.hok,I.len⟩
theorem iH' {N:List Str} (hN:N.Nodup) {i j:Nat} {x:Str} (a:N[i]?=some x) (b:N[j]?=some x):i=j:=by
 obtain⟨h1,e1⟩:=aN.mp a
 obtain⟨h2,e2⟩:=aN.mp b
 exact(List.getElem_inj hN).mp (e1.trans e2.symm)
theorem dU' {M:Model} {A:Around} {E:Value->Shared->Prop} {i:Nat} {x:Str} {v:V} {u:Value} {Q:Unit->Shared->Prop} (I:Inv X p_ σ H s) (hN:X.N.Nodup) (hi:X.N[i]?=some x) (hx:Loc X.env.scope x) (r:ax' v u)
  (h:∀s',Inv X p_ (σ.set i (some v)) H s'->(∃a,bG a s.heap s'.heap/\(a=X.env.locals\/X.env.cells.lookup x=some a))->Q () s') (hf:X.fn x=true\/X.env.scope.names.lookup x=some .local:=by first|exact .inl rfl|exact .inr rfl|assumption):wpAny M A (storeName X.env x u) Q E s:=by
 obtain⟨m,hn,hl⟩:=id I.loc
 have hcls:(X.env.scope.kind == .class || (X.env.scope.kind == .module&&X.env.locals != X.env.globals))=false:=by rw[I.ok.kind];rfl
 have hiσ:i<σ.length:=by rw[I.len];exact(aN.mp hi).1
 have cne:=I.cne
 have tracked:∀{a:Addr} {h':Heap},(∃o,s.heap.get? a=some o/\H a=none)->bG a s.heap h'->HOk X.prog X.w H h':=fun {a h'} ha hs b ob e=>by
  obtain⟨_,_,hfree⟩:=ha
  refine(I.hok b ob e).stay (fun c w' hc q=>(hs.2 c ?_).trans q) (fun _ q=>q) fun _ _ q=>q
  rintro rfl
  rcases hc with rfl|hc
  .rw[hfree]at e;cases e
  .rw[hfree]at hc;cases hc
 rcases hx with hk|hk
 .refine wpAny_storeName_local hk hn (fun h' hn' hs=>?_) hcls
  obtain⟨oL,_,_,hoL,_⟩:=id hn
  refine h _ ⟨I.ok,I.os,I.bare,⟨fun b o e n hb hx=>?_,fun b o e n hb hx=>?_,I.base.free,fun b o e hx=>?_,I.base.tups,I.base.frzs,I.base.tbls⟩,⟨_,hn',fun j y v' e1 e2 e3=>?_⟩,fun y c e=>?_,I.free,I.freeC,fun p hp=>?_,tracked ⟨oL,hoL,I.free⟩ hs,by simpa using I.len⟩ ⟨_,hs,.inl rfl⟩
  .exact(hs.2 b (aA (am (au e) I.ok.above))).trans (I.base.keep b o e n hb hx)
  .obtain⟨sl,e1⟩:=I.base.slot b o e n hb hx
   exact⟨sl,(hs.2 b (aA (am (au e) I.ok.above))).trans e1⟩
  .obtain⟨o',e1⟩:=I.base.there b o e hx
   exact⟨o',(hs.2 b (aA (am (au e) I.ok.above))).trans e1⟩
  .by_cases hj:j=i
   .subst hj
    rw[hi]at e1;cases e1
    rw[List.getElem?_set_self hiσ]at e2
    cases e2
    exact⟨u,r,.inl ⟨hk,by simp⟩⟩
   .rw[cM (Ne.symm hj)]at e2
    obtain⟨u',r',q⟩:=hl j y v' e1 e2 e3
    refine⟨u',r',?_⟩
    rcases q with⟨k,e⟩|⟨k,c,e,z⟩
    .refine .inl ⟨k,?_⟩
     have:y≠x:=fun e=>hj (iH' hN e1 (e ▸ hi))
     simp[this,e]
    .exact .inr ⟨k,c,e,z.sameBut hs (cne y c e)⟩
  .obtain⟨w',z⟩:=I.cell y c e
   exact⟨w',z.sameBut hs (cne y c e)⟩
  .obtain⟨e,n,ne,nf,d⟩:=I.pin p hp
   exact⟨(hs.2 p.1 ne).trans e,n,ne,nf,d⟩
 .have hfn:X.fn x=true:=by
   rcases hf with z|z
   .exact z
   .rw[z]at hk;cases hk
  obtain⟨c,hc⟩:=I.ok.has x (.inl hk)
  obtain⟨w',z⟩:=I.cell x c hc
  refine wpAny_storeName_cell I.ok.kind hk hc z (fun h' hc' hs=>?_)
  obtain⟨oc,hoc,hocd⟩:=id z
  refine h { s with heap:=h' } ⟨I.ok,I.os,I.bare,⟨fun b o e n hb hx=>?_,fun b o e n hb hx=>?_,I.base.free,fun b o e hx=>?_,I.base.tups,I.base.frzs,I.base.tbls⟩,⟨m,hn.sameBut hs (Ne.symm (cne x c hc)),fun j y v' e1 e2 e3=>?_⟩,fun y c' e=>?_,I.free,I.freeC,fun p hp=>?_,tracked ⟨oc,hoc,I.freeC x c hc⟩ hs,by simpa using I.len⟩ ⟨c,hs,.inr hc⟩
  .exact(hs.2 b (aA (am (au e) (I.ok.cab x c hfn hc)))).trans (I.base.keep b o e n hb hx)
  .obtain⟨sl,e1⟩:=I.base.slot b o e n hb hx
   exact⟨sl,(hs.2 b (aA (am (au e) (I.ok.cab x c hfn hc)))).trans e1⟩
  .obtain⟨o',e1⟩:=I.base.there b o e hx
   exact⟨o',(hs.2 b (aA (am (au e) (I.ok.cab x c hfn hc)))).trans e1⟩
  .by_cases hj:j=i
   .subst hj
    rw[hi]at e1;cases e1
    rw[List.getElem?_set_self hiσ]at e2
    cases e2
    exact⟨u,r,.inr ⟨.inl hk,c,hc,hc'⟩⟩
   .rw[cM (Ne.symm hj)]at e2
    obtain⟨u',r',q⟩:=hl j y v' e1 e2 e3
    refine⟨u',r',?_⟩
    rcases q with q|⟨k,c',e,z'⟩
    .exact .inl q
    .refine .inr ⟨k,c',e,z'.sameBut hs ?_⟩
     rintro rfl
     exact hj (iH' hN e1 (I.ok.inj _ _ _ e hc ▸ hi))
  .by_cases hcc:c'=c
   .subst hcc;exact⟨_,hc'⟩
   .obtain⟨w2,z2⟩:=I.cell y c' e
    exact⟨w2,z2.sameBut hs hcc⟩
  .obtain⟨e,n,ne,nf,d⟩:=I.pin p hp
   refine⟨(hs.2 p.1 ?_).trans e,n,ne,nf,d⟩
   intro q
   rw[q,hoc]at e
   have q':oc=p.2:=Option.some.inj e
   exact d w' (by rw[<- q'];exact hocd)
theorem iI' {M:Model} {A:Around} {E:Value->Shared->Prop} {i:Nat} {x:Str} {v:V} {u:Value} {Q:Unit->Shared->Prop} (I:Inv X p_ σ H s) (hN:X.N.Nodup) (hi:X.N[i]?=some x) (hx:Loc X.env.scope x) (r:ax' v u)
  (h:∀s',Inv X p_ (σ.set i (some v)) H s'->Q () s') (hf:X.fn x=true\/X.env.scope.names.lookup x=some .local:=by first|exact .inl rfl|exact .inr rfl|assumption):wpAny M A (storeName X.env x u) Q E s:=
 dU' I hN hi hx r (fun s' I' _=>h s' I') hf
theorem Inv.call' {s':Shared} {ch:List Addr} (I:Inv X p_ σ H s) (ho:s'.os=s.os) (u:Un (frs X.stack) ch H H' s.heap s'.heap) (hok:HOk X.prog X.w H' s'.heap) (hg:AllBare s'.gens)
  (hch:∀b∈ch,(b∈X.ex\/X.s₀.heap.objs.size<=b)/\b≠X.env.locals/\(∀x c,X.env.cells.lookup x=some c->c≠b)/\∀p∈X.pn++p_,p.1≠b):Inv X p_ σ H' s':=by
 obtain⟨h',g',d',t',o'⟩:=s'
 have e:o'=s.os:=ho
 subst e
 exact I.call (g':=g') (t':=t') (d':=d') u hok hg hch
end
abbrev XK:=Value->Option Addr->Hp->Prop
abbrev St:=List (Option V)
abbrev VK:=V->Hp->Prop
abbrev TE:=St->Hp->VK->Prop
abbrev TT:=St->Hp->(Bool->Hp->Prop)->Prop
abbrev TA:=St->Hp->(List V->Hp->Prop)->Prop
structure Ends where
 nx:St->Hp->Prop
 rt:VK
 bk:St->Hp->Prop:=fun _ _=>False
 ct:St->Hp->Prop:=fun _ _=>False
abbrev TS:=Ends->St->Hp->Prop
def EP (X:Cx) (p_:List (Addr×Obj)) (σ:St) (Q:VK) (u:Value) (s':Shared):Prop:=∃v H',Inv X p_ σ H' s'/\ax' v u/\Q v H'
def TP (X:Cx) (p_:List (Addr×Obj)) (σ:St) (Q:Bool->Hp->Prop) (b:Bool) (s':Shared):Prop:=∃H',Inv X p_ σ H' s'/\Q b H'
def AP (X:Cx) (p_:List (Addr×Obj)) (σ:St) (Q:List V->Hp->Prop) (us:List Value) (s':Shared):Prop:=∃vs H',Inv X p_ σ H' s'/\ay' vs us/\Q vs H'
def SP (X:Cx) (p_:List (Addr×Obj)) (D:Ends) (f:Flow) (s':Shared):Prop:=
 match f with
 | .next=>∃σ' H',Inv X p_ σ' H' s'/\D.nx σ' H'
 | .brk=>∃σ' H',Inv X p_ σ' H' s'/\D.bk σ' H'
 | .cont=>∃σ' H',Inv X p_ σ' H' s'/\D.ct σ' H'
 | .ret u=>∃v σ' H',Inv X p_ σ' H' s'/\ax' v u/\D.rt v H'
def PE (X:Cx) (e:Expr) (t:TE):Prop:=
 ∀(p_:List (Addr×Obj)) (s:Shared) (σ:St) (H:Hp) (Q:VK),Inv X p_ σ H s->t σ H Q->wpAny (model X.prog X.w) X.A (eval e X.env) (EP X p_ σ Q) X.xe s
def PT (X:Cx) (e:Expr) (t:TT):Prop:=
 ∀(p_:List (Addr×Obj)) (s:Shared) (σ:St) (H:Hp) (Q:Bool->Hp->Prop),Inv X p_ σ H s->t σ H Q->wpAny (model X.prog X.w) X.A (isTrue e X.env (eval e X.env)) (TP X p_ σ Q) X.xe s
def PW (X:Cx) (e:Expr) (t:TT):Prop:=
 ∀(whole:Sem Value) (p_:List (Addr×Obj)) (s:Shared) (σ:St) (H:Hp) (Q:Bool->Hp->Prop),Inv X p_ σ H s->t σ H Q->wpAny (model X.prog X.w) X.A (isTrue e X.env whole) (TP X p_ σ Q) X.xe s
theorem PW.pt {X:Cx} {e:Expr} {t:TT} (h:PW X e t):PT X e t:=h _
def PA (X:Cx) (es:List Expr) (t:TA):Prop:=
 ∀(pos:Pos) (p_:List (Addr×Obj)) (s:Shared) (σ:St) (H:Hp) (Q:List V->Hp->Prop),Inv X p_ σ H s->t σ H Q->wpAny (model X.prog X.w) X.A (spliced (backTo pos (starEach es X.env))) (AP X p_ σ Q) X.xe s
def PS (X:Cx) (st:Stmt) (t:TS):Prop:=
 ∀(p_:List (Addr×Obj)) (s:Shared) (σ:St) (H:Hp) (D:Ends),Inv X p_ σ H s->t D σ H->wpAny (model X.prog X.w) X.A (exec st X.env) (SP X p_ D) X.xe s
def PSs (X:Cx) (st:List Stmt) (t:TS):Prop:=
 ∀(p_:List (Addr×Obj)) (s:Shared) (σ:St) (H:Hp) (D:Ends),Inv X p_ σ H s->t D σ H->wpAny (model X.prog X.w) X.A (execs st X.env) (SP X p_ D) X.xe s
theorem thn {α:Type} {t:Sem α} {Q Q':α->Shared->Prop} {M:Model} {A:Around} {E:Value->Shared->Prop} {s:Shared} (h:wpAny M A t Q E s) (hQ:∀a s,Q a s->Q' a s):wpAny M A t Q' E s:=dh h hQ fun _ _ x=>x
section
variable {X:Cx}
theorem bin {a b:Expr} {ta tb:TE} (ha:PE X a ta) (hb:PE X b tb) {p_:List (Addr×Obj)} {s:Shared} {σ:St} {H:Hp} {R:V->V->Hp->Prop} (I:Inv X p_ σ H s) (h:ta σ H fun x H1=>tb σ H1 fun y H2=>R x y H2)
  {α:Type} {Q:α->Shared->Prop} {f:Value->Value->Sem α}
  (hf:∀v u s2 x y H2,Inv X p_ σ H2 s2->ax' x v->ax' y u->R x y H2->wpAny (model X.prog X.w) X.A (f v u) Q X.xe s2):
  wpAny (model X.prog X.w) X.A (eval a X.env) (fun v s₁=>wpAny (model X.prog X.w) X.A (eval b X.env) (fun u s₂=>wpAny (model X.prog X.w) X.A (f v u) Q X.xe s₂) X.xe s₁) X.xe s:=by
 refine thn (ha p_ s σ H _ I h) fun v s1 ⟨x,H1,I1,r1,q1⟩=>?_
 refine thn (hb p_ s1 σ H1 _ I1 q1) fun u s2 ⟨y,H2,I2,r2,q2⟩=>?_
 exact hf v u s2 x y H2 I2 r1 r2 q2
def xV' (i:Nat):TE:=fun σ H Q=>∃v,σ[i]?=some (some v)/\Q v H
def tC (v:V):TE:=fun _ H Q=>Q v H
theorem pv' {i:Nat} {x:Str} {pos:Pos} (hN:X.N[i]?=some x) (hv:Vis X.env.scope x) (hd:(x == ("__debug__":Str))=false:=by decide) (hcd:(x == ("__classdict__":Str))=false:=by decide):PE X (.Name x pos) (xV' i):=by
 intro p_ s σ H Q I h
 obtain⟨v,e,h⟩:=h
 obtain⟨m,hn,hl⟩:=I.loc
 obtain⟨u,r,l⟩:=hl i x v hN e hv
 have fin:EP X p_ σ Q u s:=⟨v,H,I,r,h⟩
 rcases l with⟨hk,hm⟩|⟨hk,c,hc,hcell⟩
 .exact wpAny_Name (wpAny_loadName_local I.ok.kind hk hn hm fin) hd
 .rcases hk with hk|hk
  .exact wpAny_Name (wpAny_loadName_cell I.ok.kind hk hc hcell fin) hd
  .exact wpAny_Name (wpAny_loadName_free I.ok.kind hk hc hcell fin hcd) hd
theorem pw' {i j pos}:PE X (.Constant (.int i) j pos) (tC (.int i)):=fun _ _ _ H _ I h=>wpAny_Constant_int ⟨.int i,H,I.tok _,⟨_,rfl⟩,h⟩
theorem ym' {b j pos}:PE X (.Constant (.bool b) j pos) (tC (.bl b)):=fun _ _ _ H _ I h=>Constant_bool ⟨.bl b,H,I,rfl,h⟩
theorem tL' {j pos}:PE X (.Constant .none j pos) (tC .non):=fun _ _ _ H _ I h=>Constant_none ⟨.non,H,I,rfl,h⟩
theorem tM' {x j pos}:PE X (.Constant (.str x) j pos) (tC (.str x)):=fun _ _ _ H _ I h=>Calls.Constant_str ⟨.str x,H,I.tok _,⟨_,rfl⟩,h⟩
def Gl (X:Cx) (x:Str):Prop:=X.env.kindOf x=some .globalImplicit
theorem qF' {E:Value->Shared->Prop} {p_:List (Addr×Obj)} {s:Shared} {σ:St} {H:Hp} {x:Str} {u:Value} {pos:Pos} {Q:Value->Shared->Prop} (I:Inv X p_ σ H s) (hg:Gl X x) (hm:X.mg x=some u) (h:Q u s)
  (hd:(x == ("__debug__":Str))=false:=by decide):wpAny (model X.prog X.w) X.A (eval (.Name x pos) X.env) Q E s:=
 Calls.Name_function_global I.ok.kind hg (Calls.loadGlobal_global (by rw[I.ok.glob];exact I.mod.glob.keeps I.bk) hm h) hd
theorem eZ' {E:Value->Shared->Prop} {p_:List (Addr×Obj)} {s:Shared} {σ:St} {H:Hp} {x:Str} {u:Value} {pos:Pos} {Q:Value->Shared->Prop} (I:Inv X p_ σ H s) (hg:Gl X x) (hm:X.mg x=none) (hv:bootBuiltins x=some u) (h:Q u s)
  (hn:x≠"__name__":=by decide) (hd:(x == ("__debug__":Str))=false:=by decide):wpAny (model X.prog X.w) X.A (eval (.Name x pos) X.env) Q E s:=by
 obtain⟨mb,h1,h2⟩:=I.mod.blt
 exact Calls.Name_function_global I.ok.kind hg (Calls.loadGlobal_builtin (by rw[I.ok.glob];exact I.mod.glob.keeps I.bk) hm (by rw[I.ok.blt];exact h1.keeps I.bk) ((h2 x hn).trans hv) h) hd
variable {a b:Expr} {ta tb:TE} {pos:Pos}
def PC (X:Cx) (op:CmpOp) (a b:Expr) (t:TE):Prop:=
 ∀(p_:List (Addr×Obj)) (s:Shared) (σ:St) (H:Hp) (Q:VK),Inv X p_ σ H s->t σ H Q->
  wpAny (model X.prog X.w) X.A (eval a X.env) (fun v s₁=>wpAny (model X.prog X.w) X.A (eval b X.env) (fun u s₂=>wpAny (model X.prog X.w) X.A (compareOp op v u) (EP X p_ σ Q) X.xe s₂) X.xe s₁) X.xe s
def tB (t:TE):TT:=fun σ H Q=>t σ H fun x H1=>∃c,x=.bl c/\Q c H1
theorem px' {op:CmpOp} {t:TE} (h:PC X op a b t) (h1:behindInMarks op b=false:=by rfl):PE X (.Compare a [op] [b] pos) t:=fun p_ s σ H Q I hw=>wpAny_Compare1 (h p_ s σ H Q I hw) h1
theorem py' {op:CmpOp} {t:TE} (h:PC X op a b t) (h1:behindInMarks op b=false:=by rfl):PT X (.Compare a [op] [b] pos) (tB t):=by
 intro p_ s σ H Q I hw
 refine wpAny_isTrue_Compare1 (thn (h p_ s σ H _ I hw) fun v s1 h1=>thn h1 fun u s2 h2=>thn h2 fun c s3 ⟨x,H1,I1,r1,q1⟩=>?_) h1
 obtain⟨d,rfl,q⟩:=q1
 cases r1
 exact bY ⟨H1,I1,q⟩
variable {tA tB':TT} {as':List Expr}
def tN' (t u:TT):TT:=fun σ H Q=>t σ H fun c H1=>if c=true then u σ H1 Q else Q false H1
def tOr (t u:TT):TT:=fun σ H Q=>t σ H fun c H1=>if c=true then Q true H1 else u σ H1 Q
def yn' (t:TT):TT:=fun σ H Q=>t σ H fun c H1=>Q (!c) H1
theorem qG' (ha:PT X a tA):PW X (.BoolOp .And [a] pos) tA:=by
 intro wh p_ s σ H Q I h
 refine isTrue_and (thn (ha p_ s σ H Q I h) fun c s1 e=>?_)
 cases c with
 |true=>exact isTrue_and_nil e
 |false=>exact e
theorem tO' (ha:PT X a tA):PW X (.BoolOp .Or [a] pos) tA:=by
 intro wh p_ s σ H Q I h
 refine isTrue_or (thn (ha p_ s σ H Q I h) fun c s1 e=>?_)
 cases c with
 |false=>exact isTrue_or_nil e
 |true=>exact e
theorem pz' (ha:PT X a tA) (hb:PW X (.BoolOp .And (b :: as') pos) tB'):PW X (.BoolOp .And (a :: b :: as') pos) (tN' tA tB'):=by
 intro wh p_ s σ H Q I h
 refine isTrue_and (thn (ha p_ s σ H _ I h) fun c s1 ⟨H1,I1,q1⟩=>?_)
 cases c with
 |true=>exact hb wh p_ s1 σ H1 Q I1 q1
 |false=>exact⟨H1,I1,q1⟩
theorem tP' (ha:PT X a tA) (hb:PW X (.BoolOp .Or (b :: as') pos) tB'):PW X (.BoolOp .Or (a :: b :: as') pos) (tOr tA tB'):=by
 intro wh p_ s σ H Q I h
 refine isTrue_or (thn (ha p_ s σ H _ I h) fun c s1 ⟨H1,I1,q1⟩=>?_)
 cases c with
 |true=>exact⟨H1,I1,q1⟩
 |false=>exact hb wh p_ s1 σ H1 Q I1 q1
theorem tQ' (ha:PT X a tA):PT X (.UnaryOp .Not a pos) (yn' tA):=by
 intro p_ s σ H Q I h
 exact isTrue_not (ha p_ s σ H (fun c H1=>Q (!c) H1) I h)
def nj' (ta tb:TE):TE:=fun σ H Q=>ta σ H fun x H1=>∃c,x=.bl c/\if c=true then tb σ H1 Q else Q (.bl false) H1
def xW' (ta tb:TE):TE:=fun σ H Q=>ta σ H fun x H1=>∃c,x=.bl c/\if c=true then Q (.bl true) H1 else tb σ H1 Q
def qH' (ta:TE):TE:=fun σ H Q=>ta σ H fun x H1=>∃c,x=.bl c/\Q (.bl (!c)) H1
theorem ke' {op} {t:TE} (h:PE X a t):PE X (.BoolOp op [a] pos) t:=fun p_ s σ H Q I hw=>BoolOp_one (h p_ s σ H Q I hw)
theorem pA' (ha:PE X a ta) (hb:PE X (.BoolOp .And (b :: as') pos) tb):PE X (.BoolOp .And (a :: b :: as') pos) (nj' ta tb):=by
 intro p_ s σ H Q I h
 refine BoolOp_and (thn (ha p_ s σ H _ I h) fun v s1 ⟨x,H1,I1,r1,q1⟩=>?_)
 obtain⟨c,rfl,q1⟩:=q1
 cases r1
 refine bY ?_
 cases c with
 |true=>exact hb p_ s1 σ H1 Q I1 q1
 |false=>exact⟨.bl false,H1,I1,rfl,q1⟩
theorem tR' (ha:PE X a ta) (hb:PE X (.BoolOp .Or (b :: as') pos) tb):PE X (.BoolOp .Or (a :: b :: as') pos) (xW' ta tb):=by
 intro p_ s σ H Q I h
 refine BoolOp_or (thn (ha p_ s σ H _ I h) fun v s1 ⟨x,H1,I1,r1,q1⟩=>?_)
 obtain⟨c,rfl,q1⟩:=q1
 cases r1
 refine bY ?_
 cases c with
 |false=>exact hb p_ s1 σ H1 Q I1 q1
 |true=>exact⟨.bl true,H1,I1,rfl,q1⟩
theorem tS' (ha:PE X a ta):PE X (.UnaryOp .Not a pos) (qH' ta):=by
 intro p_ s σ H Q I h
 refine UnaryOp_ (thn (ha p_ s σ H _ I h) fun v s1 ⟨x,H1,I1,r1,q1⟩=>?_)
 obtain⟨c,rfl,q1⟩:=q1
 cases r1
 exact not_of (bY ⟨.bl (!c),H1,I1,rfl,q1⟩)
def tIf (t:TT) (ta tb:TE):TE:=fun σ H Q=>t σ H fun c H1=>if c=true then ta σ H1 Q else tb σ H1 Q
theorem nk' {c:Expr} (hc:PT X c tA) (ha:PE X a ta) (hb:PE X b tb):PE X (.IfExp c a b pos) (tIf tA ta tb):=by
 intro p_ s σ H Q I h
 refine wpAny_IfExp (thn (hc p_ s σ H _ I h) fun d s1 ⟨H1,I1,q1⟩=>?_)
 cases d with
 |true=>exact ha p_ s1 σ H1 Q I1 q1
 |false=>exact hb p_ s1 σ H1 Q I1 q1
end
def SqL (K:W.Frag) (H:Hp) (a:Addr) (xs:List V):Prop:=
 Rd H a (.lst xs)\/
  ∃(o:Obj) (its:Array Value) (n:Nat),K.lookup a=some o/\o.cls=.type "list"/\o.dict=none/\o.data=.seq its n/\its.size<=sizeLine/\ay' xs its.toList
def SqT (K:W.Frag) (H:Hp) (a:Addr) (xs:List V):Prop:=
 Rd H a (.tup xs)\/
  ∃(o:Obj) (its:Array Value) (n:Nat),K.lookup a=some o/\o.cls=.type "tuple"/\o.data=.seq its n/\its.size<=sizeLine/\ay' xs its.toList
def Bn':Value->Option V
 | .none=>some .non
 | .bool b=>some (.bl b)
 | .int i _=>some (.int i)
 | .str x _=>some (.str x)
 | .bytes b _=>some (.byt b)
 | .float b _=>some (.flt b)
 | .ref a=>some (.ref a)
 | .type n=>some (.ty n)
 |_=>none
theorem ax'.abs {x:V} {u:Value} (r:ax' x u):Bn' u=some x:=by
 cases x with
 |non=>cases r;rfl
 |bl _=>cases r;rfl
 |int _=>obtain⟨t,rfl⟩:=r;rfl
 |str _=>obtain⟨t,rfl⟩:=r;rfl
 |byt _=>obtain⟨t,rfl⟩:=r;rfl
 |flt _=>obtain⟨t,rfl⟩:=r;rfl
 |ref _=>cases r;rfl
 |ty _=>cases r;rfl
theorem ax'.inj {x y:V} {u:Value} (r:ax' x u) (q:ax' y u):x=y:=Option.some.inj (r.abs.symm.trans q.abs)
theorem ay'.inj:∀{xs ys:List V} {us:List Value},ay' xs us->ay' ys us->xs=ys
 |_,_,_,.nil,.nil=>rfl
 |_,_,_,.cons r t,.cons r' t'=>by rw[r.inj r',ay'.inj t t']
section
variable {X:Cx} {p_:List (Addr×Obj)} {σ:St} {H:Hp} {s:Shared} {a:Addr} {xs ys:List V}
theorem SqL.of {K:W.Frag} (h:H a=some (.lst xs)):SqL K H a xs:=.inl (.inl h)
theorem SqT.of {K:W.Frag} (h:H a=some (.tup xs)):SqT K H a xs:=.inl (.inl h)
theorem Inv.list (I:Inv X p_ σ H s) (h:SqL X.K H a xs):∃its:List Value,ay' xs its/\PlainL s.heap a its.toArray/\xs.length<=sizeLine:=by
 rcases h with h|⟨o,its,n,hk,hc,hd,hs,hz,r⟩
 .obtain⟨z,its,n,r,e⟩:=h.ok I.hok
  exact⟨its,r,⟨_,n,e,rfl,rfl,rfl⟩,z⟩
 .refine⟨its.toList,r,⟨o,n,I.kIn a o hk,hc,hd,by simpa using hs⟩,?_⟩
  have e:=r.length
  simp only[ai]at e
  omega
theorem Inv.tuple (I:Inv X p_ σ H s) (h:SqT X.K H a xs):∃its:List Value,ay' xs its/\IsTup s.heap a its.toArray/\xs.length<=sizeLine:=by
 rcases h with h|⟨o,its,n,hk,hc,hs,hz,r⟩
 .obtain⟨z,its,r,p⟩:=h.ok I.hok
  exact⟨its,r,p.tup,z⟩
 .refine⟨its.toList,r,⟨o,I.kIn a o hk,hc,n,by simpa using hs⟩,?_⟩
  have e:=r.length
  simp only[ai]at e
  omega
theorem Inv.list_inj (I:Inv X p_ σ H s) (h:SqL X.K H a xs) (h':SqL X.K H a ys):xs=ys:=by
 obtain⟨its,r,⟨o,n,e,_,_,d⟩,_⟩:=I.list h
 obtain⟨its',r',⟨o',n',e',_,_,d'⟩,_⟩:=I.list h'
 rw[e]at e';cases e'
 rw[d]at d'
 injection d' with d1 _
 have:its=its':=by simpa using congrArg Array.toList d1
 subst this
 exact r.inj r'
theorem Inv.tuple_inj (I:Inv X p_ σ H s) (h:SqT X.K H a xs) (h':SqT X.K H a ys):xs=ys:=by
 obtain⟨its,r,⟨o,e,_,n,d⟩,_⟩:=I.tuple h
 obtain⟨its',r',⟨o',e',_,n',d'⟩,_⟩:=I.tuple h'
 rw[e]at e';cases e'
 rw[d]at d'
 injection d' with d1 _
 have:its=its':=by simpa using congrArg Array.toList d1
 subst this
 exact r.inj r'
end
abbrev Cx.wish (X:Cx) (E:Value->Shared->Prop):Cx:={ X with xe:=E }
abbrev Cx.nox (X:Cx):Cx:=X.wish fun _ _=>False
theorem Cx.Ok.wish {X:Cx} (ok:X.Ok) (E:Value->Shared->Prop):(X.wish E).Ok:=
 ⟨ok.mod,ok.kind,ok.glob,ok.blt,ok.above,ok.inj,ok.has,ok.cab,ok.hd,ok.frames,ok.stk,ok.exf,ok.bs,ok.bsz,ok.noex,ok.exfs,ok.funs,ok.frf⟩
theorem Cx.Ok.unwish {X:Cx} {E:Value->Shared->Prop} (ok:(X.wish E).Ok):X.Ok:=
 ⟨ok.mod,ok.kind,ok.glob,ok.blt,ok.above,ok.inj,ok.has,ok.cab,ok.hd,ok.frames,ok.stk,ok.exf,ok.bs,ok.bsz,ok.noex,ok.exfs,ok.funs,ok.frf⟩
section
variable {X:Cx} {p_:List (Addr×Obj)} {σ:St} {H:Hp} {s:Shared} {E:Value->Shared->Prop}
theorem Inv.wish (I:Inv X p_ σ H s) (E:Value->Shared->Prop):Inv (X.wish E) p_ σ H s:=⟨I.ok.wish E,I.os,I.bare,I.base,I.loc,I.cell,I.free,I.freeC,I.pin,I.hok,I.len⟩
theorem Inv.unwish (I:Inv (X.wish E) p_ σ H s):Inv X p_ σ H s:=⟨I.ok.unwish,I.os,I.bare,I.base,I.loc,I.cell,I.free,I.freeC,I.pin,I.hok,I.len⟩
theorem SP.unwish {D:Ends} {f:Flow} {s':Shared} (h:SP (X.wish E) p_ D f s'):SP X p_ D f s':=by
 cases f with
 |next=>obtain⟨σ',H',I,q⟩:=h;exact⟨σ',H',I.unwish,q⟩
 |brk=>obtain⟨σ',H',I,q⟩:=h;exact⟨σ',H',I.unwish,q⟩
 |cont=>obtain⟨σ',H',I,q⟩:=h;exact⟨σ',H',I.unwish,q⟩
 |ret u=>obtain⟨v,σ',H',I,r,q⟩:=h;exact⟨v,σ',H',I.unwish,r,q⟩
theorem PSs.nox {st:List Stmt} {t:TS} (h:PSs X.nox st t):PSs X st t:=fun p_ s σ H D I hw=>
 dh (h p_ s σ H D (I.wish _) hw) (fun _ _ q=>q.unwish) fun _ _ z=>False.elim z
end
section
variable {X:Cx} {st:Stmt} {as':List Stmt} {t u:TS} {e:Expr} {te:TE} {pos:Pos}
def qI':TS:=fun D σ H=>D.nx σ H
def yo' (t u:TS):TS:=fun D σ H=>t { D with nx:=u D } σ H
theorem qJ':PSs X [] qI':=fun _ _ σ H _ I h=>wpAny_execs_nil ⟨σ,H,I,h⟩
theorem nl' (h1:PS X st t) (h2:PSs X as' u):PSs X (st :: as') (yo' t u):=by
 intro p_ s σ H D I h
 refine wpAny_execs_cons (thn (h1 p_ s σ H { D with nx:=u D } I h) fun f s1 q=>?_)
 cases f with
 |next=>
  obtain⟨σ',H',I',q⟩:=q
  exact h2 p_ s1 σ' H' D I' q
 |ret v=>exact q
 |brk=>exact q
 |cont=>exact q
theorem Inv.quiet {p_:List (Addr×Obj)} {σ:St} {H:Hp} {s:Shared} (I:Inv X p_ σ H s):interactive X.env=false:=by simp[interactive,I.ok.kind]
def qK' (te:TE):TS:=fun D σ H=>te σ H fun _ H1=>D.nx σ H1
theorem qL' (he:PE X e te) (hs:swapsWith e none pos.line X.env=pure false:=by rfl):PS X (.Expr e pos) (qK' te):=by
 intro p_ s σ H D I h
 exact wpAny_Expr_any (thn (he p_ s σ H _ I h) fun v s1 ⟨x,H1,I1,r1,q1⟩=>⟨σ,H1,I1,q1⟩) I.quiet hs
def yp' (te:TE):TS:=fun D σ H=>te σ H D.rt
theorem tT' (he:PE X e te):PS X (.Return (some e) pos) (yp' te):=by
 intro p_ s σ H D I h
 exact wpAny_Return_some (thn (he p_ s σ H _ I h) fun v s1 ⟨x,H1,I1,r1,q1⟩=>⟨x,σ,H1,I1,r1,q1⟩)
def yq' (c:TT) (t u:TS):TS:=fun D σ H=>c σ H fun b H1=>if b=true then t D σ H1 else u D σ H1
theorem yr' {c:Expr} {a b:List Stmt} {tc:TT} (hc:PT X c tc) (ha:PSs X a t) (hb:PSs X b u):PS X (.If c a b pos) (yq' tc t u):=by
 intro p_ s σ H D I h
 refine wpAny_If (thn (hc p_ s σ H _ I h) fun d s1 ⟨H1,I1,q1⟩=>?_)
 cases d with
 |true=>exact ha p_ s1 σ H1 D I1 q1
 |false=>exact hb p_ s1 σ H1 D I1 q1
end
abbrev TG:=V->St->Hp->(St->Hp->Prop)->Prop
abbrev TGs:=List V->St->Hp->(St->Hp->Prop)->Prop
def PG (X:Cx) (target:Expr) (t:TG):Prop:=
 ∀(p_:List (Addr×Obj)) (s:Shared) (σ:St) (H:Hp) (v:V) (u:Value) (Q:St->Hp->Prop),Inv X p_ σ H s->ax' v u->t v σ H Q->
  wpAny (model X.prog X.w) X.A (assign target X.env u) (fun _ s'=>∃σ' H',Inv X p_ σ' H' s'/\Q σ' H') X.xe s
def PGs (X:Cx) (ts:List Expr) (t:TGs):Prop:=
 ∀(p_:List (Addr×Obj)) (s:Shared) (σ:St) (H:Hp) (vs:List V) (us:List Value) (Q:St->Hp->Prop),Inv X p_ σ H s->ay' vs us->t vs σ H Q->
  wpAny (model X.prog X.w) X.A (assignInOrder ((assignEach ts X.env).map (·.2)) us) (fun _ s'=>∃σ' H',Inv X p_ σ' H' s'/\Q σ' H') X.xe s
abbrev ys':=V->V->V->Hp->(Hp->Prop)->Prop
def AB' (X:Cx) (t:ys'):Prop:=
 ∀(p_:List (Addr×Obj)) (s:Shared) (σ:St) (H:Hp) (o i v:V) (ov iv u:Value) (Q:Hp->Prop),Inv X p_ σ H s->ax' o ov->ax' i iv->ax' v u->t o i v H Q->
  wpAny (model X.prog X.w) X.A (setItem ov iv u) (fun _ s'=>∃H',Inv X p_ σ H' s'/\Q H') X.xe s
abbrev TIp:=V->V->Hp->VK->Prop
def PIp (X:Cx) (op:Operator) (t:TIp):Prop:=
 ∀(p_:List (Addr×Obj)) (s:Shared) (σ:St) (H:Hp) (x y:V) (v u:Value) (Q:VK),Inv X p_ σ H s->ax' x v->ax' y u->t x y H Q->
  wpAny (model X.prog X.w) X.A (inplaceOp op v u) (EP X p_ σ Q) X.xe s
section
variable {X:Cx} {pos:Pos}
def cQ' (i:Nat):TG:=fun v σ H Q=>Q (σ.set i (some v)) H
theorem qM' {i:Nat} {x:Str} (hN:X.N.Nodup) (hi:X.N[i]?=some x) (hx:Loc X.env.scope x) (hf:X.fn x=true\/X.env.scope.names.lookup x=some .local:=by first|exact .inl rfl|exact .inr rfl|assumption):PG X (.Name x pos) (cQ' i):=by
 intro p_ s σ H v u Q I r h
 exact wpAny_assign_Name (iI' I hN hi hx r (fun s' I'=>⟨_,H,I',h⟩) hf)
def yt':TGs:=fun vs σ H Q=>vs=[]/\Q σ H
def qN' (t:TG) (u:TGs):TGs:=fun vs σ H Q=>∃v r,vs=v :: r/\t v σ H fun σ' H'=>u r σ' H' Q
theorem qO':PGs X [] yt':=by
 intro p_ s σ H vs us Q I r h
 obtain⟨e,h⟩:=h
 subst e
 cases r
 exact assignInOrder_nil ⟨σ,H,I,h⟩
theorem nm' {e:Expr} {es:List Expr} {t:TG} {u:TGs} (h1:PG X e t) (h2:PGs X es u)
  (hs:(assignEach (e :: es) X.env).map (·.2)=assign e X.env :: (assignEach es X.env).map (·.2):=by rfl):PGs X (e :: es) (qN' t u):=by
 intro p_ s σ H vs us Q I r h
 obtain⟨v,vr,e1,h⟩:=h
 subst e1
 cases r with
 |cons r rr=>
  rw[hs]
  refine assignInOrder_cons (thn (h1 p_ s σ H _ _ _ I r h) fun _ s1 ⟨σ1,H1,I1,q1⟩=>?_)
  exact h2 p_ s1 σ1 H1 _ _ Q I1 rr q1
def Bo' (K:W.Frag) (n:Nat) (t:TGs):TG:=fun v σ H Q=>∃a xs,v=.ref a/\SqT K H a xs/\xs.length=n/\t xs σ H Q
theorem tU' {es:List Expr} {k:Nat} {t:TGs} {n:Nat} (hc:X.calm=true) (h:PGs X es t)
  (hn:(assignEach es X.env).length=n:=by rfl) (hst:(assignEach es X.env).findIdx? (·.1)=none:=by rfl):PG X (.Tuple es k pos) (Bo' X.K n t):=by
 intro p_ s σ H v u Q I r hw
 obtain⟨a,xs,e1,hq,hl,hw⟩:=hw
 subst e1
 cases r
 obtain⟨its,rv,ht,hz⟩:=I.tuple hq
 refine assign_Tuple_tuple (I.ok.hd hc) ht (by simp[hn,<- hl,rv.length]) hst fun h' hx=>?_
 have I1:Inv X p_ σ H { s with heap:=h' }:=I.kept (t':=s.toks) fun b o e=>hx b o (aA (au e)) e
 exact h p_ _ σ H xs _ Q I1 (by simpa using rv) hw
def yu' (to ti:TE) (t:ys'):TG:=fun v σ H Q=>to σ H fun o H1=>ti σ H1 fun i H2=>t o i v H2 fun H3=>Q σ H3
theorem tV' {o i:Expr} {to ti:TE} {t:ys'} (ho:PE X o to) (hi:PE X i ti) (hs:AB' X t)
  (ha:∀v,assign (.Subscript o i pos) X.env v=(do
   let ov <- holding [v] (eval o X.env)
   let iv <- holding [v,ov] (eval i X.env)
   standAt pos
   holding [v,ov,iv] (setItem ov iv v)
   release [v,ov,iv] []):=by intro _;rfl):PG X (.Subscript o i pos) (yu' to ti t):=by
 intro p_ s σ H v u Q I r h
 rw[ha]
 refine aa (aH (thn (ho p_ s σ H _ I h) fun ov s1 ⟨x,H1,I1,r1,q1⟩=>?_))
 refine aa (aH (thn (hi p_ s1 σ H1 _ I1 q1) fun iv s2 ⟨y,H2,I2,r2,q2⟩=>?_))
 refine aa (cn (aa (aH (thn (hs p_ s2 σ H2 x y v ov iv u _ I2 r1 r2 r q2) fun _ s3 ⟨H3,I3,q3⟩=>?_))))
 exact wpAny_release ⟨σ,H3,I3,q3⟩
def j9' (te:TE) (g:TG):TS:=fun D σ H=>te σ H fun x H1=>g x σ H1 D.nx
theorem iJ' {tg e:Expr} {te:TE} {g:TG} (he:PE X e te) (hg:PG X tg g) (hs:swapsWithSole [tg] e pos.line X.env=pure false:=by rfl) (hw:swappedStores [tg] e X.env=pure none:=by rfl)
  (h1:(assignEach [tg] X.env).map (·.2)=[assign tg X.env]:=by rfl):PS X (.Assign [tg] e pos) (j9' te g):=by
 intro p_ s σ H D I h
 refine wpAny_Assign_stores (thn (he p_ s σ H _ I h) fun v s1 ⟨x,H1,I1,r1,q1⟩=>?_) hs hw
 rw[h1]
 exact thn (hg p_ s1 σ H1 x v _ I1 r1 q1) fun _ s2 q=>q
def yv' (i:Nat) (te:TE) (ti:TIp):TS:=fun D σ H=>∃x,σ[i]?=some (some x)/\te σ H fun y H1=>ti x y H1 fun z H2=>D.nx (σ.set i (some z)) H2
theorem pB' {i:Nat} {x:Str} {e:Expr} {te:TE} {op:Operator} {ti:TIp} {pos':Pos} (hN:X.N.Nodup) (hi:X.N[i]?=some x) (hx:Loc X.env.scope x) (he:PE X e te) (ho:PIp X op ti) (hf:X.fn x=true\/X.env.scope.names.lookup x=some .local:=by first|exact .inl rfl|exact .inr rfl|assumption):
  PS X (.AugAssign (.Name x pos') op e pos) (yv' i te ti):=by
 intro p_ s σ H D I h
 obtain⟨v,e1,h⟩:=h
 obtain⟨m,hn,hl⟩:=I.loc
 have vis:Vis X.env.scope x:=by rcases hx with k|k;exact .inl k;exact .inr (.inl k)
 obtain⟨u,r,l⟩:=hl i x v hi e1 vis
 refine wpAny_AugAssign_Name ?_
 have go:wpAny (model X.prog X.w) X.A (eval e X.env) (fun w s₂=>wpAny (model X.prog X.w) X.A (inplaceOp op u w) (fun r s₃=>wpAny (model X.prog X.w) X.A (storeName X.env x r) (fun _=>SP X p_ D .next) X.xe s₃) X.xe s₂) X.xe s:=by
  refine thn (he p_ s σ H _ I h) fun w s1 ⟨y,H1,I1,r1,q1⟩=>?_
  refine thn (ho p_ s1 σ H1 v y u w _ I1 r r1 q1) fun z s2 ⟨zv,H2,I2,r2,q2⟩=>?_
  exact iI' I2 hN hi hx r2 (fun s3 I3=>⟨_,H2,I3,q2⟩) hf
 rcases l with⟨hk,hm⟩|⟨hk,c,hc,hcell⟩
 .exact wpAny_loadName_local I.ok.kind hk hn hm go
 .rcases hk with hk|hk
  .exact wpAny_loadName_cell I.ok.kind hk hc hcell go
  .rcases hx with k|k
   .have:X.env.scope.names.lookup x=some .free:=hk
    rw[k]at this;cases this
   .have:X.env.scope.names.lookup x=some .free:=hk
    rw[k]at this;cases this
def ipI (f:Int->Int->Int):TIp:=fun x y H Q=>∃i j,x=.int i/\y=.int j/\Q (.int (f i j)) H
theorem tW':PIp X .Add (ipI fun i j=>i+j):=by
 intro p_ s σ H x y v u Q I r1 r2 h
 obtain⟨i,j,e1,e2,q⟩:=h
 subst e1;subst e2
 obtain⟨t,rfl⟩:=r1
 obtain⟨t',rfl⟩:=r2
 exact iadd_int ⟨.int _,H,I.tok _,⟨_,rfl⟩,q⟩
theorem tX':PIp X .Sub (ipI fun i j=>i-j):=by
 intro p_ s σ H x y v u Q I r1 r2 h
 obtain⟨i,j,e1,e2,q⟩:=h
 subst e1;subst e2
 obtain⟨t,rfl⟩:=r1
 obtain⟨t',rfl⟩:=r2
 exact isub_int ⟨.int _,H,I.tok _,⟨_,rfl⟩,q⟩
end
section
variable {X:Cx} {pos:Pos}
def kf' (c:TT) (tb:TS):TS:=fun D σ H=>∃W:Nat->St->Hp->Prop,(∃m,W m σ H)/\∀m σ H,W m σ H->
 c σ H fun b H1=>if b=true then ∃N:St->Hp->Prop,(∀σ' H',N σ' H'->∃m',m'<m/\W m' σ' H')/\tb { D with nx:=N,ct:=N,bk:=D.nx } σ H1 else D.nx σ H1
theorem nn' {c:Expr} {body:List Stmt} {tc:TT} {tb:TS} (hp:PassesOwn (model X.prog X.w) X.A X.env X.xe) (hc:PT X c tc) (hb:PSs X body tb):PS X (.While c body [] pos) (kf' tc tb):=by
 intro p_ s σ H D I h
 obtain⟨W,⟨m0,w0⟩,turn⟩:=h
 refine wpAny_While (codeAny_whileLoop (fun n s'=>∃σ' H',Inv X p_ σ' H' s'/\W n σ' H') ?_ m0 ⟨σ,H,I,w0⟩)
 rintro n s1 ⟨σ1,H1,I1,w1⟩
 refine cO hp (thn (hc p_ s1 σ1 H1 _ I1 (turn n σ1 H1 w1)) fun b s2 ⟨H2,I2,q2⟩=>?_)
 cases b with
 |true=>
  obtain⟨N,hN,q2⟩:=q2
  rw[if_pos rfl]
  refine cO hp (thn (hb p_ s2 σ1 H2 _ I2 q2) fun f s3 q3=>?_)
  cases f with
  |next=>
   obtain⟨σ3,H3,I3,n3⟩:=q3
   obtain⟨m',hm,w3⟩:=hN σ3 H3 n3
   exact⟨m',hm,σ3,H3,I3,w3⟩
  |cont=>
   obtain⟨σ3,H3,I3,n3⟩:=q3
   obtain⟨m',hm,w3⟩:=hN σ3 H3 n3
   exact⟨m',hm,σ3,H3,I3,w3⟩
  |brk=>exact q3
  |ret v=>exact q3
 |false=>
  rw[if_neg ak]
  exact wpAny_execs_nil ⟨σ1,H2,I2,q2⟩
end
structure It where
 go:Nat->Hp->Prop
 yld:Nat->Hp->V->Hp->Prop
 stop:Nat->Hp->Prop
def cP' (X:Cx) (p_:List (Addr×Obj)) (H:Hp) (b:Addr):Prop:=
 H b=none/\b≠X.env.locals/\b∉X.fs/\(b∈X.ex\/X.s₀.heap.objs.size<=b)/\(∀x c,X.env.cells.lookup x=some c->c≠b)/\∀p∈X.pn++p_,p.1≠b
theorem Inv.fpOk {X:Cx} {p_:List (Addr×Obj)} {σ:St} {H H':Hp} {s:Shared} {b:Addr} (I:Inv X p_ σ H s) (hb:s.heap.objs.size<=b) (hn:H' b=none):cP' X p_ H' b:=by
 refine⟨hn,bC (am I.lt hb),I.nofs hb,.inr (aF I.sz hb),fun x c e z=>?_,fun p hp z=>?_⟩
 .obtain⟨v,q⟩:=I.cell x c e
  exact absurd (am q.lt (by rw[z];exact hb)) (bp _)
 .exact absurd (am (au (I.pin p hp).1) (by rw[z];exact hb)) (bp _)
structure Turn (P:Program) (w:World) (K:W.Frag) (tg:Expr) (J:It) (fp:List Addr) (it:Addr) (tn:Nat->Heap->Prop):Prop where
 mem:it∈fp
 obj:∀i h,tn i h->∀b∈fp,∃o,h.get? b=some o/\∀v,o.data≠.cell v
 keep:∀i h h',tn i h->(∀b∈fp,∀o,h.get? b=some o->h'.get? b=some o)->tn i h'
 item:∀(X:Cx),X.prog=P->X.w=w->X.K=K->X.calm=true->∀(i:Nat) (p_:List (Addr×Obj)) (s:Shared) (σ:St) (H:Hp) (E:Value->Shared->Prop),Inv X p_ σ H s->(∀b∈fp,cP' X p_ H b)->tn i s.heap->J.go i H->
  wpAny (model P w) X.A (pyNext (.ref it)) (fun r s1=>∃u,r=some u/\
   wpAny (model P w) X.A (letOwnedTupleGo tg (.ref it) u) (fun _ s2=>∃x H',Inv X p_ σ H' s2/\ax' x u/\J.yld i H x H'/\tn (i+1) s2.heap/\∀b∈fp,H' b=none) E s1) E s
 done:∀(X:Cx),X.prog=P->X.w=w->X.K=K->X.calm=true->∀(i:Nat) (p_:List (Addr×Obj)) (s:Shared) (σ:St) (H:Hp) (E:Value->Shared->Prop),Inv X p_ σ H s->(∀b∈fp,cP' X p_ H b)->tn i s.heap->J.stop i H->
  wpAny (model P w) X.A (pyNext (.ref it)) (fun r s1=>r=none/\Inv X p_ σ H s1) E s
 self:∀(A:Around) (i:Nat) (s:Shared) (Q:Value->Shared->Prop) (E:Value->Shared->Prop),tn i s.heap->Q (.ref it) s->wpAny (model P w) A (pyIter (.ref it)) Q E s
abbrev TI:=St->Hp->(It->Hp->Prop)->Prop
def PIE (X:Cx) (p_:List (Addr×Obj)) (σ:St) (tg:Expr) (R:It->Hp->Prop) (itv:Value) (s2:Shared):Prop:=
 ∃(it:Addr) (fp:List Addr) (tn:Nat->Heap->Prop) (J:It) (H':Hp),itv=.ref it/\Inv X p_ σ H' s2/\Turn X.prog X.w X.K tg J fp it tn/\tn 0 s2.heap/\(∀b∈fp,cP' X p_ H' b)/\R J H'
def PI (X:Cx) (tg iter:Expr) (wi:TI):Prop:=
 ∀(p_:List (Addr×Obj)) (s:Shared) (σ:St) (H:Hp) (R:It->Hp->Prop),Inv X p_ σ H s->wi σ H R->
  wpAny (model X.prog X.w) X.A (eval iter X.env) (fun v s1=>wpAny (model X.prog X.w) X.A (pyIter v) (PIE X p_ σ tg R) X.xe s1) X.xe s
theorem kg' {M:Model} {A:Around} {E:Value->Shared->Prop} {s:Shared} {tg:Expr} {it:Addr} {u:Value} {o:Obj} {n:String} {vs:Array Value} {Q:Unit->Shared->Prop} (ho:s.heap.get? it=some o) (hc:o.cls=.type n) (hd:o.data=.fields vs)
  (hn:["enumerate","zip","dict_itemiterator","dict_reverseitemiterator","odict_iterator","itertools.zip_longest","itertools.pairwise"].contains n=false) (hQ:Q () s):wpAny M A (letOwnedTupleGo tg (.ref it) u) Q E s:=by
 unfold letOwnedTupleGo
 cases tg<;>first
  |exact ab hQ
  |(cases u<;>first
    |exact ab hQ
    |(refine aa (wpAny_load ho ?_)
      rw[hc,hd]
      show wpAny M A (if(["enumerate","zip","dict_itemiterator","dict_reverseitemiterator","odict_iterator","itertools.zip_longest","itertools.pairwise"].contains n&&vs[0]? == some (rawInt _))=true then _ else _) Q E s
      rw[if_neg (by intro h;rw[hn,Bool.false_and]at h;cases h)]
      exact ab hQ))
def Itl (K:W.Frag) (a:Addr):It:=
 ⟨fun i H=>∃xs x,SqL K H a xs/\xs[i]?=some x,fun i H x H'=>H'=H/\∀xs,SqL K H a xs->xs[i]?=some x,fun i H=>∃xs,SqL K H a xs/\xs.length<=i⟩
def Itt (K:W.Frag) (a:Addr):It:=
 ⟨fun i H=>∃xs x,SqT K H a xs/\xs[i]?=some x,fun i H x H'=>H'=H/\∀xs,SqT K H a xs->xs[i]?=some x,fun i H=>∃xs,SqT K H a xs/\xs.length<=i⟩
def Itr (lo:Int) (n:Nat):It:=⟨fun i _=>i<n,fun i H x H'=>H'=H/\x=.int (lo+i),fun i _=>n<=i⟩
theorem kh' {P:Program} {w:World} {K:W.Frag} {tg:Expr} (a it:Addr):Turn P w K tg (Itl K a) [it] it (fun i h=>h.IsListIter it a i) where
 mem:=by simp
 obj:=fun i h st b hb=>by
  have e:b=it:=by simpa using hb
  subst e
  obtain⟨o,e,c,d⟩:=st
  exact⟨o,e,fun v z=>by rw[d]at z;cases z⟩
 keep:=fun i h h' st k=>st.at fun o e=>k it (by simp) o e
 item:=by
  intro X hP hw hK hc i p_ s σ H E I hf st hg
  subst hP hw hK
  obtain⟨xs,x,hq,hx⟩:=hg
  obtain⟨its,rv,p,hz⟩:=I.list hq
  obtain⟨u,hu,ru⟩:=rv.get hx
  obtain⟨f0,f1,f2,f3,f4,f5⟩:=hf it (by simp)
  refine wpAny_pyNext_list_item st p.isList (x:=u) (by simpa using hu) fun h' st' sb=>?_
  have I1:Inv X p_ σ H { s with heap:=h' }:=I.turned (t':=s.toks) (fun b o hb e=>(sb.2 b hb).trans e) f0 f1 f3 f4 f5
  obtain⟨o,e,c,d⟩:=id st'
  exact⟨u,rfl,kg' (s:={ s with heap:=h' }) e c d (by decide) ⟨x,H,I1,ru,⟨rfl,fun ys hy=>by rw[I.list_inj hy hq];exact hx⟩,st',fun b hb=>(hf b hb).1⟩⟩
 done:=by
  intro X hP hw hK hc i p_ s σ H E I hf st hg
  subst hP hw hK
  obtain⟨xs,hq,hx⟩:=hg
  obtain⟨its,rv,p,hz⟩:=I.list hq
  obtain⟨f0,f1,f2,f3,f4,f5⟩:=hf it (by simp)
  have hl:=rv.length
  exact wpAny_pyNext_list_end (I.ok.hd hc) st p.isList (by simp;omega) fun h' eb=>⟨rfl,I.turned (t':=s.toks) (fun b o hb e=>eb b o hb e) f0 f1 f3 f4 f5⟩
 self:=fun _ _ _ _ _ st h=>wpAny_pyIter_listiter st h
theorem jq' {P:Program} {w:World} {K:W.Frag} {tg:Expr} (a it:Addr):Turn P w K tg (Itt K a) [it] it (fun i h=>h.IsTupleIter it a i) where
 mem:=by simp
 obj:=fun i h st b hb=>by
  have e:b=it:=by simpa using hb
  subst e
  obtain⟨o,e,c,d⟩:=st
  exact⟨o,e,fun v z=>by rw[d]at z;cases z⟩
 keep:=fun i h h' st k=>st.at fun o e=>k it (by simp) o e
 item:=by
  intro X hP hw hK hc i p_ s σ H E I hf st hg
  subst hP hw hK
  obtain⟨xs,x,hq,hx⟩:=hg
  obtain⟨its,rv,p,hz⟩:=I.tuple hq
  obtain⟨u,hu,ru⟩:=rv.get hx
  obtain⟨f0,f1,f2,f3,f4,f5⟩:=hf it (by simp)
  refine wpAny_pyNext_tuple_item st (show s.heap.IsTuple a its.toArray from p) (x:=u) (by simpa using hu) fun h' st' sb=>?_
  have I1:Inv X p_ σ H { s with heap:=h' }:=I.turned (t':=s.toks) (fun b o hb e=>(sb.2 b hb).trans e) f0 f1 f3 f4 f5
  obtain⟨o,e,c,d⟩:=id st'
  exact⟨u,rfl,kg' (s:={ s with heap:=h' }) e c d (by decide) ⟨x,H,I1,ru,⟨rfl,fun ys hy=>by rw[I.tuple_inj hy hq];exact hx⟩,st',fun b hb=>(hf b hb).1⟩⟩
 done:=by
  intro X hP hw hK hc i p_ s σ H E I hf st hg
  subst hP hw hK
  obtain⟨xs,hq,hx⟩:=hg
  obtain⟨its,rv,p,hz⟩:=I.tuple hq
  obtain⟨f0,f1,f2,f3,f4,f5⟩:=hf it (by simp)
  have hl:=rv.length
  exact wpAny_pyNext_tuple_end (I.ok.hd hc) st (show s.heap.IsTuple a its.toArray from p) (by simp;omega) fun h' eb=>⟨rfl,I.turned (t':=s.toks) (fun b o hb e=>eb b o hb e) f0 f1 f3 f4 f5⟩
 self:=fun _ _ _ _ _ st h=>wpAny_pyIter_tupleiter st h
theorem jr' {P:Program} {w:World} {K:W.Frag} {tg:Expr} (it:Addr) (lo:Int) (n:Nat):Turn P w K tg (Itr lo n) [it] it (fun i h=>IsRangeIter h it (lo+(i:Nat)*1) ((n:Int)-(i:Nat)) 1) where
 mem:=by simp
 obj:=fun i h st b hb=>by
  have e:b=it:=by simpa using hb
  subst e
  exact⟨_,st,fun v z=>by
   have z':Data.fields _=Data.cell v:=z
   cases z'⟩
 keep:=fun i h h' st k=>k it (by simp) _ st
 item:=by
  intro X hP hw hK hc i p_ s σ H E I hf st hg
  subst hP hw hK
  obtain⟨f0,f1,f2,f3,f4,f5⟩:=hf it (by simp)
  have W:=Walks.range (prog:=X.prog) (w:=X.w) (I.ok.hd hc) it lo 1 n
  refine W.item i s _ _ hg st fun v h' tk hv st' kk=>?_
  obtain⟨t,rfl⟩:=hv
  have I1:Inv X p_ σ H { s with heap:=h',toks:=tk }:=I.turned (fun b o hb e=>kk b o (by simpa using hb) e) f0 f1 f3 f4 f5
  refine⟨_,rfl,kg' (s:={ s with heap:=h',toks:=tk }) (n:="range_iterator") st' rfl rfl (by decide) ⟨.int (lo+i),H,I1,⟨t,?_⟩,⟨rfl,rfl⟩,st',fun b hb=>(hf b hb).1⟩⟩
  rw[Int.mul_one]
 done:=by
  intro X hP hw hK hc i p_ s σ H E I hf st hg
  subst hP hw hK
  obtain⟨f0,f1,f2,f3,f4,f5⟩:=hf it (by simp)
  exact wpAny_pyNext_range_end (I.ok.hd hc) st (by have:n<=i:=hg;omega) fun h' eb=>⟨rfl,I.turned (t':=s.toks) (fun b o hb e=>eb b o hb e) f0 f1 f3 f4 f5⟩
 self:=fun _ _ _ _ _ st h=>wpAny_pyIter_rangeiter st h
section
variable {X:Cx} {tg:Expr}
theorem iK' {p_:List (Addr×Obj)} {σ:St} {H:Hp} {s:Shared} {R:It->Hp->Prop} {E:Value->Shared->Prop} {lo hi:Int} {t u v:Tok} {tk:Nat} (I:Inv X p_ σ H s) (h1:-(2 ^ 62)<=lo) (h2:lo<2 ^ 62) (h3:-(2 ^ 62)<=hi) (h4:hi<2 ^ 62)
  (q:R (Itr lo (hi-lo).toNat) H):wpAny (model X.prog X.w) X.A (pyIter (.ref s.heap.objs.size)) (PIE X p_ σ tg R) E { s with heap:=s.heap.push { cls:=.type "range",data:=.fields #[.int lo t,.int hi u,.int 1 v] },toks:=tk }:=by
 refine wpAny_pyIter_range (IsRange.new ..) (small_one h1 h2 h3 h4) ?_
 have I1:Inv X p_ σ H { s with heap:=s.heap.push { cls:=.type "range",data:=.fields #[.int lo t,.int hi u,.int 1 v] },toks:=tk }:=I.kept fun b o e=>af _ e
 refine⟨(s.heap.push { cls:=.type "range",data:=.fields #[.int lo t,.int hi u,.int 1 v] }).objs.size,[(s.heap.push { cls:=.type "range",data:=.fields #[.int lo t,.int hi u,.int 1 v] }).objs.size],_,_,H,rfl,
  I1.kept (t':=tk) fun b o e=>af _ e,jr' _ lo (hi-lo).toNat,?_,fun b hb=>?_,q⟩
 .have e1:lo+((0:Nat):Int)*1=lo:=by simp
  have e2:(((hi-lo).toNat:Nat):Int)-((0:Nat):Int)=Builtin.Range.rangeSize lo hi 1:=by rw[rangeSize_one];split<;>omega
  show IsRangeIter _ _ (lo+((0:Nat):Int)*1) ((((hi-lo).toNat:Nat):Int)-((0:Nat):Int)) 1
  rw[e1,e2]
  exact al _ rfl
 .have e:b=(s.heap.push { cls:=.type "range",data:=.fields #[.int lo t,.int hi u,.int 1 v] }).objs.size:=by simpa using hb
  subst e
  exact I1.fpOk (ag _) (I1.hok.fresh (ag _))
def qP' (ta:TA):TI:=fun σ H R=>ta σ H fun vs H1=>∃j:Int,vs=[.int j]/\-(2 ^ 62)<=j/\j<2 ^ 62/\R (Itr 0 j.toNat) H1
def qQ' (ta:TA):TI:=fun σ H R=>ta σ H fun vs H1=>∃i j:Int,vs=[.int i,.int j]/\(-(2 ^ 62)<=i/\i<2 ^ 62/\-(2 ^ 62)<=j/\j<2 ^ 62)/\R (Itr i (j-i).toNat) H1
theorem ki' {a:Expr} {ta:TA} {p pos:Pos} (hg:Gl X "range") (hm:X.mg "range"=none) (ha:PA X [a] ta) (hs:starEach [a] X.env=[(false,eval a X.env)]:=by rfl):PI X tg (.Call (.Name "range" p) [a] [] pos) (qP' ta):=by
 intro p_ s σ H R I h
 refine Call_ (eZ' I hg hm boot_range (PyProof.Rows.callWith_type1 (thn (ha pos p_ s σ H _ I h) fun us s1 ⟨vs,H1,I1,r1,q1⟩=>?_) hs rfl))
 obtain⟨j,e,q1,q2,q⟩:=q1
 subst e
 cases r1 with
 |cons r rr=>
  cases rr
  obtain⟨t,rfl⟩:=r
  exact call_range_1 (iK' I1 ⋯ ⋯ q1 q2 (by simpa using q))
theorem kj' {a b:Expr} {ta:TA} {p pos:Pos} (hg:Gl X "range") (hm:X.mg "range"=none) (ha:PA X [a,b] ta) (hs:starEach [a,b] X.env=[(false,eval a X.env),(false,eval b X.env)]:=by rfl) (hs2:starEach [b] X.env=[(false,eval b X.env)]:=by rfl):
  PI X tg (.Call (.Name "range" p) [a,b] [] pos) (qQ' ta):=by
 intro p_ s σ H R I h
 refine Call_ (eZ' I hg hm boot_range (PyProof.Rows.callWith_type1 (thn (ha pos p_ s σ H _ I h) fun us s1 ⟨vs,H1,I1,r1,q1⟩=>?_) (by rw[hs,hs2]) (by rw[hs2];rfl)))
 obtain⟨i,j,e,⟨q1,q2,q3,q4⟩,q⟩:=q1
 subst e
 cases r1 with
 |cons r rr=>
  cases rr with
  |cons r' rr=>
   cases rr
   obtain⟨t,rfl⟩:=r
   obtain⟨t',rfl⟩:=r'
   exact call_range_2 (iK' I1 q1 q2 q3 q4 q)
def yw' (wi:TI) (g:TG) (tb:TS):TS:=fun D σ H=>wi σ H fun J H1=>∃W:Nat->Nat->St->Hp->Prop,(∃m,W 0 m σ H1)/\∀i m σ H,W i m σ H->
 (J.stop i H/\D.nx σ H)\/(J.go i H/\∃N:St->Hp->Prop,(∀σ' H',N σ' H'->∃m',m'<m/\W (i+1) m' σ' H')/\∀x H',J.yld i H x H'->g x σ H' fun σ2 H2=>tb { D with nx:=N,ct:=N,bk:=D.nx } σ2 H2)
def bz' (fp:List Addr) (h:Heap):List (Addr×Obj):=fp.filterMap fun b=>(h.get? b).map fun o=>(b,o)
theorem az' {fp:List Addr} {h:Heap} {b:Addr} {o:Obj} (hb:b∈fp) (e:h.get? b=some o):(b,o)∈bz' fp h:=cK.mpr ⟨b,hb,by rw[e];rfl⟩
theorem dV' {fp:List Addr} {h:Heap} {p:Addr×Obj} (hp:p∈bz' fp h):p.1∈fp/\h.get? p.1=some p.2:=by
 obtain⟨b,hb,e⟩:=cK.mp hp
 cases q:h.get? b with
 |none=>rw[q]at e;cases e
 |some o=>
  rw[q]at e
  have e':(b,o)=p:=Option.some.inj e
  subst e'
  exact⟨hb,q⟩
theorem Inv.pinned {p_:List (Addr×Obj)} {σ:St} {H:Hp} {s:Shared} {fp:List Addr} (I:Inv X p_ σ H s) (hf:∀b∈fp,cP' X p_ H b) (ho:∀b∈fp,∃o,s.heap.get? b=some o/\∀v,o.data≠.cell v):Inv X (p_++bz' fp s.heap) σ H s:=
 I.pins_of fun p hp=>(aL.mp hp).elim (fun z=>I.pin p (aj _ z)) fun z=>by
  obtain⟨hb,e⟩:=dV' z
  obtain⟨f0,f1,f2,_⟩:=hf p.1 hb
  obtain⟨o,e',d⟩:=ho p.1 hb
  rw[e]at e';cases e'
  exact⟨e,f0,f1,f2,d⟩
theorem Inv.unpinned {p_ pl:List (Addr×Obj)} {σ:St} {H:Hp} {s:Shared} (I:Inv X (p_++pl) σ H s):Inv X p_ σ H s:=I.pins_of fun p hp=>I.pin p (aj _ (br _ hp))
theorem tY' {iter:Expr} {body:List Stmt} {wi:TI} {g:TG} {tb:TS} {pos:Pos} (hp:PassesOwn (model X.prog X.w) X.A X.env X.xe) (hc:X.calm=true) (hi:PI X tg iter wi) (hg:PG X tg g) (hb:PSs X body tb)
  (hs:∀x,foldedSetIterable iter X.env x=pure x:=by intro _;rfl):PS X (.For tg iter body [] pos) (yw' wi g tb):=by
 intro p_ s σ H D I h
 refine wpAny_For (thn (hi p_ s σ H _ I h) fun v s1 h1=>thn h1 fun itv s2 h2=>?_) hs
 obtain⟨it,fp,tn,J,H2,e,I2,T,st2,f2,W,⟨m0,w0⟩,turn⟩:=h2
 subst e
 have stat:∀{H':Hp},(∀b∈fp,H' b=none)->∀b∈fp,cP' X p_ H' b:=fun hn b hb=>⟨hn b hb,(f2 b hb).2⟩
 refine codeAny_forLoop_any (fun n s'=>∃i σ' H',Inv X p_ σ' H' s'/\tn i s'.heap/\(∀b∈fp,H' b=none)/\W i n σ' H') ?_ m0 ⟨0,σ,H2,I2,st2,fun b hb=>(f2 b hb).1,w0⟩
 rintro n s3 ⟨i,σ3,H3,I3,st3,fr3,w3⟩
 rcases turn i n σ3 H3 w3 with⟨stop,qn⟩|⟨go,N,hN,step⟩
 .refine cO hp (thn (T.done X rfl rfl rfl hc i p_ s3 σ3 H3 X.xe I3 (stat fr3) st3 stop) fun r s4 ⟨hr,I4⟩=>?_)
  subst hr
  exact wpAny_execs_nil ⟨σ3,H3,I4,qn⟩
 .refine cO hp (thn (T.item X rfl rfl rfl hc i p_ s3 σ3 H3 X.xe I3 (stat fr3) st3 go) fun r s4 ⟨u,hr,h4⟩=>?_)
  subst hr
  refine cO hp (thn h4 fun _ s5 ⟨x,H5,I5,r5,y5,st5,fr5⟩=>?_)
  have I5':=I5.pinned (stat fr5) (T.obj _ _ st5)
  refine cO hp (thn (hg _ s5 σ3 H5 x u _ I5' r5 (step x H5 y5)) fun _ s6 ⟨σ6,H6,I6,q6⟩=>?_)
  refine cO hp (thn (hb _ s6 σ6 H6 _ I6 q6) fun f s7 q7=>?_)
  have again:∀{σ7:St} {H7:Hp},Inv X (p_++bz' fp s5.heap) σ7 H7 s7->N σ7 H7->∃m,m<n/\∃i σ' H',Inv X p_ σ' H' s7/\tn i s7.heap/\(∀b∈fp,H' b=none)/\W i m σ' H':=fun {σ7 H7} I7 n7=>by
   obtain⟨m',hm,w7⟩:=hN σ7 H7 n7
   refine⟨m',hm,i+1,σ7,H7,I7.unpinned,T.keep _ _ _ st5 fun b hb o e=>(I7.pin (b,o) (aj _ (aj _ (az' hb e)))).1,fun b hb=>?_,w7⟩
   obtain⟨o,e,d⟩:=T.obj _ _ st5 b hb
   exact(I7.pin (b,o) (aj _ (aj _ (az' hb e)))).2.1
  cases f with
  |next=>obtain⟨σ7,H7,I7,n7⟩:=q7;exact again I7 n7
  |cont=>obtain⟨σ7,H7,I7,n7⟩:=q7;exact again I7 n7
  |brk=>obtain⟨σ7,H7,I7,q7⟩:=q7;exact⟨σ7,H7,I7.unpinned,q7⟩
  |ret v=>obtain⟨x7,σ7,H7,I7,r7,q7⟩:=q7;exact⟨x7,σ7,H7,I7.unpinned,r7,q7⟩
end
theorem no' {K:W.Frag} {a:Addr} {xs:List V} {g:TG} {tb:TS} {D:Ends} {σ:St} {H:Hp} (Pv:Nat->St->Hp->Prop) (h0:Pv 0 σ H) (hl:∀i σ H,i<=xs.length->Pv i σ H->SqL K H a xs)
  (hs:∀i x σ H,xs[i]?=some x->Pv i σ H->g x σ H fun σ2 H2=>tb { D with nx:=Pv (i+1),ct:=Pv (i+1),bk:=D.nx } σ2 H2) (hd:∀σ H,Pv xs.length σ H->D.nx σ H):
  ∃W:Nat->Nat->St->Hp->Prop,(∃m,W 0 m σ H)/\∀i m σ H,W i m σ H->
   ((Itl K a).stop i H/\D.nx σ H)\/((Itl K a).go i H/\∃N:St->Hp->Prop,(∀σ' H',N σ' H'->∃m',m'<m/\W (i+1) m' σ' H')/\∀x H',(Itl K a).yld i H x H'->g x σ H' fun σ2 H2=>tb { D with nx:=N,ct:=N,bk:=D.nx } σ2 H2):=by
 refine⟨fun i m σ H=>m=xs.length-i/\i<=xs.length/\Pv i σ H,⟨xs.length,by simp,aT _,h0⟩,?_⟩
 rintro i m σ H ⟨rfl,hi,p⟩
 have q:=hl i σ H hi p
 by_cases hlt:i<xs.length
 .refine .inr ⟨⟨xs,xs[i],q,by simp[hlt]⟩,Pv (i+1),fun σ' H' p'=>⟨xs.length-(i+1),⋯,rfl,hlt,p'⟩,fun x H' y=>?_⟩
  obtain⟨e,y⟩:=y
  subst e
  exact hs i x σ _ (y xs q) p
 .have e:i=xs.length:=by omega
  subst e
  exact .inl ⟨⟨xs,q,ag _⟩,hd σ H p⟩
theorem qR' {K:W.Frag} {a:Addr} {xs:List V} {g:TG} {tb:TS} {D:Ends} {σ:St} {H:Hp} (Pv:Nat->St->Hp->Prop) (h0:Pv 0 σ H) (hl:∀i σ H,i<=xs.length->Pv i σ H->SqT K H a xs)
  (hs:∀i x σ H,xs[i]?=some x->Pv i σ H->g x σ H fun σ2 H2=>tb { D with nx:=Pv (i+1),ct:=Pv (i+1),bk:=D.nx } σ2 H2) (hd:∀σ H,Pv xs.length σ H->D.nx σ H):
  ∃W:Nat->Nat->St->Hp->Prop,(∃m,W 0 m σ H)/\∀i m σ H,W i m σ H->
   ((Itt K a).stop i H/\D.nx σ H)\/((Itt K a).go i H/\∃N:St->Hp->Prop,(∀σ' H',N σ' H'->∃m',m'<m/\W (i+1) m' σ' H')/\∀x H',(Itt K a).yld i H x H'->g x σ H' fun σ2 H2=>tb { D with nx:=N,ct:=N,bk:=D.nx } σ2 H2):=by
 refine⟨fun i m σ H=>m=xs.length-i/\i<=xs.length/\Pv i σ H,⟨xs.length,by simp,aT _,h0⟩,?_⟩
 rintro i m σ H ⟨rfl,hi,p⟩
 have q:=hl i σ H hi p
 by_cases hlt:i<xs.length
 .refine .inr ⟨⟨xs,xs[i],q,by simp[hlt]⟩,Pv (i+1),fun σ' H' p'=>⟨xs.length-(i+1),⋯,rfl,hlt,p'⟩,fun x H' y=>?_⟩
  obtain⟨e,y⟩:=y
  subst e
  exact hs i x σ _ (y xs q) p
 .have e:i=xs.length:=by omega
  subst e
  exact .inl ⟨⟨xs,q,ag _⟩,hd σ H p⟩
theorem kk' {lo:Int} {n:Nat} {g:TG} {tb:TS} {D:Ends} {σ:St} {H:Hp} (Pv:Nat->St->Hp->Prop) (h0:Pv 0 σ H)
  (hs:∀i σ H,i<n->Pv i σ H->g (.int (lo+i)) σ H fun σ2 H2=>tb { D with nx:=Pv (i+1),ct:=Pv (i+1),bk:=D.nx } σ2 H2) (hd:∀σ H,Pv n σ H->D.nx σ H):
  ∃W:Nat->Nat->St->Hp->Prop,(∃m,W 0 m σ H)/\∀i m σ H,W i m σ H->
   ((Itr lo n).stop i H/\D.nx σ H)\/((Itr lo n).go i H/\∃N:St->Hp->Prop,(∀σ' H',N σ' H'->∃m',m'<m/\W (i+1) m' σ' H')/\∀x H',(Itr lo n).yld i H x H'->g x σ H' fun σ2 H2=>tb { D with nx:=N,ct:=N,bk:=D.nx } σ2 H2):=by
 refine⟨fun i m σ H=>m=n-i/\i<=n/\Pv i σ H,⟨n,by simp,aT _,h0⟩,?_⟩
 rintro i m σ H ⟨rfl,hi,p⟩
 by_cases hlt:i<n
 .refine .inr ⟨hlt,Pv (i+1),fun σ' H' p'=>⟨n-(i+1),⋯,rfl,hlt,p'⟩,fun x H' y=>?_⟩
  obtain⟨e,y⟩:=y
  subst e y
  exact hs i σ _ hlt p
 .have e:i=n:=by omega
  subst e
  exact .inl ⟨ag _,hd σ H p⟩
abbrev R2:=V->V->Hp->VK->Prop
def OpR (X:Cx) (f:Value->Value->Sem Value) (r:R2):Prop:=
 ∀(p_:List (Addr×Obj)) (s:Shared) (σ:St) (H:Hp) (x y:V) (v u:Value) (Q:VK),Inv X p_ σ H s->ax' x v->ax' y u->r x y H Q->
  wpAny (model X.prog X.w) X.A (f v u) (EP X p_ σ Q) X.xe s
def UnR (X:Cx) (f:Value->Sem Value) (r:V->Hp->VK->Prop):Prop:=
 ∀(p_:List (Addr×Obj)) (s:Shared) (σ:St) (H:Hp) (x:V) (v:Value) (Q:VK),Inv X p_ σ H s->ax' x v->r x H Q->
  wpAny (model X.prog X.w) X.A (f v) (EP X p_ σ Q) X.xe s
def aP' (X:Cx) (f:Value) (r:List V->Hp->VK->Prop):Prop:=
 ∀(p_:List (Addr×Obj)) (s:Shared) (σ:St) (H:Hp) (xs:List V) (us:List Value) (Q:VK),Inv X p_ σ H s->ay' xs us->r xs H Q->
  wpAny (model X.prog X.w) X.A (call f us) (EP X p_ σ Q) X.xe s
def Bp' (X:Cx) (r:V->Hp->(Bool->Hp->Prop)->Prop):Prop:=
 ∀(p_:List (Addr×Obj)) (s:Shared) (σ:St) (H:Hp) (x:V) (v:Value) (Q:Bool->Hp->Prop),Inv X p_ σ H s->ax' x v->r x H Q->
  wpAny (model X.prog X.w) X.A (truthy v) (TP X p_ σ Q) X.xe s
def tOp (r:R2) (ta tb:TE):TE:=fun σ H Q=>ta σ H fun x H1=>tb σ H1 fun y H2=>r x y H2 Q
def tUn (r:V->Hp->VK->Prop) (ta:TE):TE:=fun σ H Q=>ta σ H fun x H1=>r x H1 Q
def rI (C:Int->Int->Prop) (g:Int->Int->V):R2:=fun x y H Q=>∃i j,x=.int i/\y=.int j/\C i j/\Q (g i j) H
def rI0 (g:Int->Int->V):R2:=fun x y H Q=>∃i j,x=.int i/\y=.int j/\Q (g i j) H
def rU (g:Int->V):V->Hp->VK->Prop:=fun x H Q=>∃i,x=.int i/\Q (g i) H
section
variable {X:Cx} {a b c:Expr} {ta tb tc:TE} {pos:Pos}
theorem yx' (ha:PE X a ta) (hb:PE X b tb) {p_:List (Addr×Obj)} {s:Shared} {σ:St} {H:Hp} {R:V->V->Hp->Prop} (I:Inv X p_ σ H s)
  (h:ta σ H fun x H1=>tb σ H1 fun y H2=>R x y H2) {Q:Value->Shared->Prop} {f:Value->Value->Sem Value}
  (hf:∀v u s2 x y H2,Inv X p_ σ H2 s2->ax' x v->ax' y u->R x y H2->wpAny (model X.prog X.w) X.A (f v u) Q X.xe s2):
  wpAny (model X.prog X.w) X.A (eval a X.env) (fun v s₁=>wpAny (model X.prog X.w) X.A (eval b X.env) (fun u s₂=>wpAny (model X.prog X.w) X.A (f v u) Q X.xe s₂) X.xe s₁) X.xe s:=by
 refine thn (ha p_ s σ H _ I h) fun v s1 ⟨x,H1,I1,r1,q1⟩=>?_
 refine thn (hb p_ s1 σ H1 _ I1 q1) fun u s2 ⟨y,H2,I2,r2,q2⟩=>?_
 exact hf v u s2 x y H2 I2 r1 r2 q2
theorem yy' {op:Operator} {r:R2} (ho:OpR X (binaryOp op) r) (ha:PE X a ta) (hb:PE X b tb):PE X (.BinOp a op b pos) (tOp r ta tb):=by
 intro p_ s σ H Q I h
 exact wpAny_BinOp (yx' ha hb I h fun v u s2 x y H2 I2 rx ry q=>ho p_ s2 σ H2 x y v u Q I2 rx ry q)
theorem tZ' {op:UnaryOp} {r:V->Hp->VK->Prop} (ho:UnR X (unaryOp op) r) (ha:PE X a ta):PE X (.UnaryOp op a pos) (tUn r ta):=by
 intro p_ s σ H Q I h
 exact UnaryOp_ (thn (ha p_ s σ H _ I h) fun v s1 ⟨x,H1,I1,r1,q1⟩=>ho p_ s1 σ H1 x v Q I1 r1 q1)
theorem opI {f:Value->Value->Sem Value} {C:Int->Int->Prop} {g:Int->Int->Int}
  (rule:∀(i j:Int) (t u:Tok) (s:Shared) (Q:Value->Shared->Prop) (E:Value->Shared->Prop),C i j->Q (.int (g i j) s.toks) { s with toks:=s.toks+1 }->wpAny (model X.prog X.w) X.A (f (.int i t) (.int j u)) Q E s):
  OpR X f (rI C fun i j=>.int (g i j)):=by
 intro p_ s σ H x y v u Q I rx ry h
 obtain⟨i,j,rfl,rfl,hc,q⟩:=h
 obtain⟨t,rfl⟩:=rx
 obtain⟨t',rfl⟩:=ry
 exact rule i j t t' s _ _ hc ⟨.int (g i j),H,I.tok _,⟨_,rfl⟩,q⟩
theorem yz' {f:Value->Value->Sem Value} {g:Int->Int->Int}
  (rule:∀(i j:Int) (t u:Tok) (s:Shared) (Q:Value->Shared->Prop) (E:Value->Shared->Prop),Q (.int (g i j) s.toks) { s with toks:=s.toks+1 }->wpAny (model X.prog X.w) X.A (f (.int i t) (.int j u)) Q E s):
  OpR X f (rI0 fun i j=>.int (g i j)):=by
 intro p_ s σ H x y v u Q I rx ry h
 obtain⟨i,j,rfl,rfl,q⟩:=h
 obtain⟨t,rfl⟩:=rx
 obtain⟨t',rfl⟩:=ry
 exact rule i j t t' s _ _ ⟨.int (g i j),H,I.tok _,⟨_,rfl⟩,q⟩
theorem xX' {f:Value->Value->Sem Value} {g:Int->Int->Bool}
  (rule:∀(i j:Int) (t u:Tok) (s:Shared) (Q:Value->Shared->Prop) (E:Value->Shared->Prop),Q (.bool (g i j)) s->wpAny (model X.prog X.w) X.A (f (.int i t) (.int j u)) Q E s):
  OpR X f (rI0 fun i j=>.bl (g i j)):=by
 intro p_ s σ H x y v u Q I rx ry h
 obtain⟨i,j,rfl,rfl,q⟩:=h
 obtain⟨t,rfl⟩:=rx
 obtain⟨t',rfl⟩:=ry
 exact rule i j t t' s _ _ ⟨.bl (g i j),H,I,rfl,q⟩
def Bq' (i j:Int):Prop:=0<j/\j<1073741824
def yA' (i j:Int):Prop:=0<=j/\j<=1000000/\i.natAbs<2 ^ 64
def xY' (i j:Int):Prop:=(-(2 ^ 64)<i/\i<2 ^ 64)\/(-(2 ^ 64)<j/\j<2 ^ 64)
theorem xY'.ok {i j:Int} (h:xY' i j):IntMulOk i j:=by
 rcases h with⟨h1,h2⟩|⟨h1,h2⟩
 .exact .of_left (intBits_le_64 h1 h2)
 .exact .of_right (intBits_le_64 h1 h2)
theorem js' (k:Nat):(0:Int)<=2 ^ k:=by
 rw[two_pow_cast]
 exact Int.natCast_nonneg _
theorem t0':OpR X (binaryOp .Add) (rI0 fun i j=>.int (i+j)):=yz' fun _ _ _ _ _ _ _ q=>add_int q
theorem t1':OpR X (binaryOp .Sub) (rI0 fun i j=>.int (i-j)):=yz' fun _ _ _ _ _ _ _ q=>sub_int q
theorem qS':OpR X (binaryOp .FloorDiv) (rI Bq' fun i j=>.int (i / j)):=opI fun i j _ _ _ _ _ hc q=>by
 have h1:(0:Int)<j:=hc.1
 have h2:j<1073741824:=hc.2
 exact floordiv_int ⋯ (by rw[Int.fdiv_eq_ediv_of_nonneg i ⋯];exact q) (.inl (PyProof.noPylong_small ⋯))
theorem t2':OpR X (binaryOp .Mod) (rI (fun _ j=>0<j) fun i j=>.int (i % j)):=opI fun i j _ _ _ _ _ hc q=>by
 have h1:(0:Int)<j:=hc
 exact mod_int' ⋯ (by rw[Int.fmod_eq_emod_of_nonneg i ⋯];exact q)
theorem t3':OpR X (binaryOp .Pow) (rI yA' fun i j=>.int (i ^ j.toNat)):=opI fun _ _ _ _ _ _ _ hc q=>pow_int_small hc.1 hc.2.1 hc.2.2 q
theorem t4':OpR X (binaryOp .RShift) (rI (fun _ j=>0<=j) fun i j=>.int (i / 2 ^ j.toNat)):=opI fun i j _ _ _ _ _ hc q=>
 rshift_int hc (by rw[Int.fdiv_eq_ediv_of_nonneg i (js' _)];exact q)
theorem t5':OpR X (binaryOp .BitAnd) (rI0 fun i j=>.int (Builtin.bitAnd i j)):=yz' fun _ _ _ _ _ _ _ q=>and_int q
theorem unI {f:Value->Sem Value} {g:Int->Int}
  (rule:∀(i:Int) (t:Tok) (s:Shared) (Q:Value->Shared->Prop) (E:Value->Shared->Prop),Q (.int (g i) s.toks) { s with toks:=s.toks+1 }->wpAny (model X.prog X.w) X.A (f (.int i t)) Q E s):
  UnR X f (rU fun i=>.int (g i)):=by
 intro p_ s σ H x v Q I rx h
 obtain⟨i,rfl,q⟩:=h
 obtain⟨t,rfl⟩:=rx
 exact rule i t s _ _ ⟨.int (g i),H,I.tok _,⟨_,rfl⟩,q⟩
theorem pC':UnR X (unaryOp .USub) (rU fun i=>.int (-i)):=unI fun _ _ _ _ _ q=>neg_int q
end
def t6':V->V->Bool
 | .non,.non=>true | .non,.int _=>true | .int _,.non=>true | .non,.bl _=>true | .bl _,.non=>true | .non,.str _=>true | .str _,.non=>true
 | .int _,.int _=>true | .bl _,.bl _=>true | .str _,.str _=>true | .byt _,.byt _=>true
 | .int _,.str _=>true | .str _,.int _=>true | .bl _,.str _=>true | .str _,.bl _=>true
 |_,_=>false
def rEq:R2:=fun x y H Q=>t6' x y=true/\Q (.bl (decide (x=y))) H
def rNe:R2:=fun x y H Q=>t6' x y=true/\Q (.bl (!decide (x=y))) H
theorem hC' {i j:Int}:decide (V.int i=V.int j)=(i == j):=by
 rw[cP]
 simp
theorem pD' {i j:Bool}:decide (V.bl i=V.bl j)=(i == j):=by
 rw[cP]
 simp
theorem kl' {i j:Str}:decide (V.str i=V.str j)=(i == j):=by
 rw[cP]
 simp
theorem km' {i j:Array UInt8}:decide (V.byt i=V.byt j)=(i.toList == j.toList):=by
 rw[cP]
 cases i
 cases j
 simp
section
variable {X:Cx} {a b c:Expr} {ta tb tc:TE} {pos:Pos}
theorem aw' {p_:List (Addr×Obj)} {σ:St} {H:Hp} {s:Shared} {Q:VK} {k k':Bool} (I:Inv X p_ σ H s) (q:Q (.bl k) H) (e:k=k'):EP X p_ σ Q (.bool k') s:=by
 subst e
 exact⟨.bl k,H,I,rfl,q⟩
theorem yB':OpR X (compareOp .Eq) rEq:=by
 intro p_ s σ H x y v u Q I rx ry h
 obtain⟨hs,q⟩:=h
 cases x with
 |non=>
  cases rx
  cases y with
  |non=>cases ry;exact PySem.EqNone.eq_none_none (aw' I q (by simp))
  |bl j=>cases ry;exact PySem.EqNone.eq_none_bool (aw' I q (by simp))
  |int j=>obtain⟨t',rfl⟩:=ry;exact PySem.EqNone.eq_none_int (aw' I q (by simp))
  |str j=>obtain⟨t',rfl⟩:=ry;exact PySem.EqNone.eq_none_str (aw' I q (by simp))
  |_=>exact absurd (show false=true from hs) ak
 |bl i=>
  cases rx
  cases y with
  |non=>cases ry;exact PySem.EqNone.eq_bool_none (aw' I q (by simp))
  |bl j=>cases ry;exact eq_bool (aw' I q pD')
  |str j=>obtain⟨t',rfl⟩:=ry;exact PySem.EqMixed.eq_bool_str (aw' I q (by simp))
  |_=>exact absurd (show false=true from hs) ak
 |int i=>
  obtain⟨t,rfl⟩:=rx
  cases y with
  |non=>cases ry;exact PySem.EqNone.eq_int_none (aw' I q (by simp))
  |int j=>obtain⟨t',rfl⟩:=ry;exact eq_int (aw' I q hC')
  |str j=>obtain⟨t',rfl⟩:=ry;exact PySem.EqMixed.eq_int_str (aw' I q (by simp))
  |_=>exact absurd (show false=true from hs) ak
 |str i=>
  obtain⟨t,rfl⟩:=rx
  cases y with
  |non=>cases ry;exact PySem.EqNone.eq_str_none (aw' I q (by simp))
  |bl j=>cases ry;exact PySem.EqMixed.eq_str_bool (aw' I q (by simp))
  |int j=>obtain⟨t',rfl⟩:=ry;exact PySem.EqMixed.eq_str_int (aw' I q (by simp))
  |str j=>obtain⟨t',rfl⟩:=ry;exact eq_str (aw' I q kl')
  |_=>exact absurd (show false=true from hs) ak
 |byt i=>
  obtain⟨t,rfl⟩:=rx
  cases y with
  |byt j=>obtain⟨t',rfl⟩:=ry;exact W.eq_bytes (aw' I q km')
  |_=>exact absurd (show false=true from hs) ak
 |_=>cases y<;>exact absurd (show false=true from hs) ak
theorem yC':OpR X (compareOp .NotEq) rNe:=by
 intro p_ s σ H x y v u Q I rx ry h
 obtain⟨hs,q⟩:=h
 cases x with
 |non=>
  cases rx
  cases y with
  |non=>cases ry;exact PySem.EqNone.ne_none_none (aw' I q (by simp))
  |bl j=>cases ry;exact PySem.EqNone.ne_none_bool (aw' I q (by simp))
  |int j=>obtain⟨t',rfl⟩:=ry;exact PySem.EqNone.ne_none_int (aw' I q (by simp))
  |str j=>obtain⟨t',rfl⟩:=ry;exact PySem.EqNone.ne_none_str (aw' I q (by simp))
  |_=>exact absurd (show false=true from hs) ak
 |bl i=>
  cases rx
  cases y with
  |non=>cases ry;exact PySem.EqNone.ne_bool_none (aw' I q (by simp))
  |bl j=>cases ry;exact ne_bool (aw' I q (congrArg not pD'))
  |str j=>obtain⟨t',rfl⟩:=ry;exact PySem.EqMixed.ne_bool_str (aw' I q (by simp))
  |_=>exact absurd (show false=true from hs) ak
 |int i=>
  obtain⟨t,rfl⟩:=rx
  cases y with
  |non=>cases ry;exact PySem.EqNone.ne_int_none (aw' I q (by simp))
  |int j=>obtain⟨t',rfl⟩:=ry;exact ne_int (aw' I q (congrArg not hC'))
  |str j=>obtain⟨t',rfl⟩:=ry;exact PySem.EqMixed.ne_int_str (aw' I q (by simp))
  |_=>exact absurd (show false=true from hs) ak
 |str i=>
  obtain⟨t,rfl⟩:=rx
  cases y with
  |non=>cases ry;exact PySem.EqNone.ne_str_none (aw' I q (by simp))
  |bl j=>cases ry;exact PySem.EqMixed.ne_str_bool (aw' I q (by simp))
  |int j=>obtain⟨t',rfl⟩:=ry;exact PySem.EqMixed.ne_str_int (aw' I q (by simp))
  |str j=>obtain⟨t',rfl⟩:=ry;exact ne_str (aw' I q (congrArg not kl'))
  |_=>exact absurd (show false=true from hs) ak
 |byt i=>
  obtain⟨t,rfl⟩:=rx
  cases y with
  |byt j=>obtain⟨t',rfl⟩:=ry;exact W.ne_bytes (aw' I q (congrArg not km'))
  |_=>exact absurd (show false=true from hs) ak
 |_=>cases y<;>exact absurd (show false=true from hs) ak
theorem yD':OpR X (compareOp .Lt) (rI0 fun i j=>.bl (decide (i<j))):=xX' fun _ _ _ _ _ _ _ q=>lt_int q
theorem yE':OpR X (compareOp .LtE) (rI0 fun i j=>.bl (decide (i<=j))):=xX' fun _ _ _ _ _ _ _ q=>le_int q
theorem yF':OpR X (compareOp .Gt) (rI0 fun i j=>.bl (decide (j<i))):=xX' fun _ _ _ _ _ _ _ q=>gt_int q
theorem yG':OpR X (compareOp .GtE) (rI0 fun i j=>.bl (decide (j<=i))):=xX' fun _ _ _ _ _ _ _ q=>ge_int q
theorem t7':OpR X (compareOp .Is) (fun x y H Q=>y=.non/\Q (.bl (decide (x=.non))) H):=by
 intro p_ s σ H x y v u Q I rx ry h
 obtain⟨rfl,q⟩:=h
 cases ry
 refine is_none_gen (aw' I q ?_)
 cases x<;>first
  |(cases rx;rfl)
  |(obtain⟨t,rfl⟩:=rx;rfl)
theorem qT':OpR X (compareOp .IsNot) (fun x y H Q=>y=.non/\Q (.bl (!decide (x=.non))) H):=by
 intro p_ s σ H x y v u Q I rx ry h
 obtain⟨rfl,q⟩:=h
 cases ry
 refine isnot_none_gen (aw' I q ?_)
 cases x<;>first
  |(cases rx;rfl)
  |(obtain⟨t,rfl⟩:=rx;rfl)
theorem OpR.or {f:Value->Value->Sem Value} {r r':R2} (h:OpR X f r) (h':OpR X f r'):OpR X f (fun x y H Q=>r x y H Q\/r' x y H Q):=by
 intro p_ s σ H x y v u Q I rx ry q
 rcases q with q|q
 .exact h p_ s σ H x y v u Q I rx ry q
 .exact h' p_ s σ H x y v u Q I rx ry q
theorem qU' {op:CmpOp} {r:R2} (ho:OpR X (compareOp op) r) (ha:PE X a ta) (hb:PE X b tb) (hm:behindInMarks op b=false):PE X (.Compare a [op] [b] pos) (tOp r ta tb):=by
 intro p_ s σ H Q I h
 exact wpAny_Compare1 (yx' ha hb I h fun v u s2 x y H2 I2 rx ry q=>ho p_ s2 σ H2 x y v u Q I2 rx ry q) hm
def hE' (t:TE):TT:=fun σ H Q=>t σ H fun x H'=>∃k,x=.bl k/\Q k H'
theorem kn' {op:CmpOp} {r:R2} (ho:OpR X (compareOp op) r) (ha:PE X a ta) (hb:PE X b tb) (hm:behindInMarks op b=false):PT X (.Compare a [op] [b] pos) (hE' (tOp r ta tb)):=by
 intro p_ s σ H Q I h
 refine wpAny_isTrue_Compare1 (thn (ha p_ s σ H _ I h) fun v s1 ⟨x,H1,I1,r1,q1⟩=>thn (hb p_ s1 σ H1 _ I1 q1) fun u s2 ⟨y,H2,I2,r2,q2⟩=>
  thn (ho p_ s2 σ H2 x y v u _ I2 r1 r2 q2) fun c s3 ⟨z,H3,I3,r3,k,e,q3⟩=>?_) hm
 subst e
 cases r3
 exact bY ⟨H3,I3,q3⟩
def t8' (K:W.Frag) (x:V) (H:Hp) (k:Bool):Prop:=
 match x with
 | .non=>k=false
 | .bl b=>k=b
 | .int i=>k=(i != 0)
 | .str y=>y.length<=sizeLine/\k=((y.length:Int) != 0)
 | .byt y=>y.size<=sizeLine/\k=((y.size:Int) != 0)
 | .ref p=>(∃xs,SqL K H p xs/\k=!xs.isEmpty)\/(∃xs,SqT K H p xs/\k=!xs.isEmpty)\/∃kvs,H p=some (.dK kvs)/\k=!kvs.isEmpty
 |_=>False
theorem jt' {κ:Type} {kvs:List (κ×V)} {vs:List (κ×Value)} (r:KV kvs vs):(!vs.isEmpty)=!kvs.isEmpty:=by
 cases r<;>rfl
theorem e0' {xs:List V} {its:List Value} (r:ay' xs its):(!its.toArray.isEmpty)=!xs.isEmpty:=by
 cases r<;>simp
theorem e1':(sizeLine:Nat)<2 ^ 63:=by rw[sizeLine_eq];decide
theorem t9':Bp' X (fun x H Q=>∃k,t8' X.K x H k/\Q k H):=by
 intro p_ s σ H x v Q I rx h
 obtain⟨k,e,q⟩:=h
 have hl:=e1'
 have hs:sizeLine=16777216:=sizeLine_eq
 cases x with
 |non=>
  cases rx
  have e':k=false:=e
  subst e'
  exact truthy_none ⟨H,I,q⟩
 |bl b=>
  cases rx
  have e':k=b:=e
  subst e'
  exact bY ⟨H,I,q⟩
 |int i=>
  obtain⟨t,rfl⟩:=rx
  have e':k=(i != 0):=e
  subst e'
  exact PySem.P.truthy_int ⟨H,I,q⟩
 |str y=>
  obtain⟨t,rfl⟩:=rx
  obtain⟨hy,e'⟩:y.length<=sizeLine/\k=((y.length:Int) != 0):=e
  subst e'
  exact PySem.P.truthy_str ⋯ ⟨H,I.tok _,q⟩
 |byt y=>
  obtain⟨t,rfl⟩:=rx
  obtain⟨hy,e'⟩:y.size<=sizeLine/\k=((y.size:Int) != 0):=e
  subst e'
  exact W.truthy_bytes ⋯ ⟨H,I.tok _,q⟩
 |ref p=>
  cases rx
  have e':(∃xs,SqL X.K H p xs/\k=!xs.isEmpty)\/(∃xs,SqT X.K H p xs/\k=!xs.isEmpty)\/∃kvs,H p=some (.dK kvs)/\k=!kvs.isEmpty:=e
  rcases e' with⟨xs,hx,e'⟩|⟨xs,hx,e'⟩|⟨kvs,hx,e'⟩
  .subst e'
   obtain⟨its,r,pl,hz⟩:=I.list hx
   have hlen:=r.length
   exact wpAny_truthy_list pl.isList (by simp only[ap];omega) ⟨H,I.tok _,by rw[e0' r];exact q⟩
  .subst e'
   obtain⟨its,r,pl,hz⟩:=I.tuple hx
   have hlen:=r.length
   exact truthy_tuple pl (by simp only[ap];omega) ⟨H,I.tok _,by rw[e0' r];exact q⟩
  .subst e'
   obtain⟨hz,hS,vs,r,m⟩:kvs.length<=sizeLine/\(p == sysModules)=false/\∃vs,KV kvs vs/\s.heap.DictOf (ai' X.prog X.w) p vs:=I.hok p _ hx
   have hlen:kvs.length=vs.length:=Paired.length r
   exact wpAny_truthy_dict hS m ⋯ ⟨H,I.tok _,by rw[jt' r];exact q⟩
 |_=>exact(show False from e).elim
theorem np' (ha:PE X a ta) (he:∀whole,isTrue a X.env whole=(do let v <- whole;standAt a.pos;holding [v] (truthy v))):
  PT X a (fun σ H Q=>ta σ H fun x H'=>∃k,t8' X.K x H' k/\Q k H'):=by
 intro p_ s σ H Q I h
 exact isTrue_plain (thn (ha p_ s σ H _ I h) fun v s1 ⟨x,H1,I1,r1,q1⟩=>t9' p_ s1 σ H1 x v Q I1 r1 q1) (he _)
theorem ju':OpR X (binaryOp .Add) (fun x y H Q=>∃i j,x=.str i/\y=.str j/\i.length+j.length<=sizeLine/\Q (.str (i++j)) H):=by
 intro p_ s σ H x y v u Q I rx ry h
 obtain⟨i,j,rfl,rfl,hz,q⟩:=h
 obtain⟨t,rfl⟩:=rx
 obtain⟨t',rfl⟩:=ry
 exact add_str (fun t' tk=>⟨.str (i++j),H,I.tok _,⟨_,rfl⟩,q⟩) hz
theorem dl' {x:V} {us:List Value} (r:ay' [x] us):∃u,us=[u]/\ax' x u:=by
 cases r with
 |cons r1 r2=>cases r2;exact⟨_,rfl,r1⟩
theorem qV' {x y:V} {us:List Value} (r:ay' [x,y] us):∃u w',us=[u,w']/\ax' x u/\ax' y w':=by
 cases r with
 |cons r1 r2=>
  cases r2 with
  |cons r3 r4=>cases r4;exact⟨_,_,rfl,r1,r3⟩
theorem nq':aP' X (.builtin "abs") (fun xs H Q=>∃i,xs=[.int i]/\Q (.int (if i<0 then -i else i)) H):=by
 intro p_ s σ H xs us Q I r h
 obtain⟨i,rfl,q⟩:=h
 obtain⟨u,rfl,t,rfl⟩:=dl' r
 exact call_abs_int fun u tk=>⟨.int (if i<0 then -i else i),H,I.tok _,⟨_,rfl⟩,q⟩
theorem ko' (hc:X.calm=true):aP' X (.builtin "max") (fun xs H Q=>∃i j,xs=[.int i,.int j]/\Q (.int (if j > i then j else i)) H):=by
 intro p_ s σ H xs us Q I r h
 obtain⟨i,j,rfl,q⟩:=h
 obtain⟨u,w',rfl,⟨t,rfl⟩,⟨t',rfl⟩⟩:=qV' r
 refine max_two_ints (I.ok.hd hc) fun h' tk k=>⟨_,H,I.kept k,?_,q⟩
 by_cases hj:j > i
 .rw[if_pos hj,if_pos hj];exact⟨_,rfl⟩
 .rw[if_neg hj,if_neg hj];exact⟨_,rfl⟩
theorem kp' (hc:X.calm=true):aP' X (.builtin "min") (fun xs H Q=>∃i j,xs=[.int i,.int j]/\Q (.int (if j<i then j else i)) H):=by
 intro p_ s σ H xs us Q I r h
 obtain⟨i,j,rfl,q⟩:=h
 obtain⟨u,w',rfl,⟨t,rfl⟩,⟨t',rfl⟩⟩:=qV' r
 refine min_two_ints (I.ok.hd hc) fun h' tk k=>⟨_,H,I.kept k,?_,q⟩
 by_cases hj:j<i
 .rw[if_pos hj,if_pos hj];exact⟨_,rfl⟩
 .rw[if_neg hj,if_neg hj];exact⟨_,rfl⟩
theorem kq':aP' X (.type "int") (fun xs H Q=>(∃i,xs=[.int i]/\Q (.int i) H)\/∃k,xs=[.bl k]/\Q (.int (if k then 1 else 0)) H):=by
 intro p_ s σ H xs us Q I r h
 rcases h with⟨i,rfl,q⟩|⟨k,rfl,q⟩
 .obtain⟨u,rfl,t,rfl⟩:=dl' r
  exact call_int_int ⟨.int i,H,I,⟨_,rfl⟩,q⟩
 .obtain⟨u,rfl,r1⟩:=dl' r
  cases r1
  exact call_int_bool ⟨.int (if k then 1 else 0),H,I.tok _,⟨_,rfl⟩,q⟩
def AC' (K:W.Frag) (x:V) (H:Hp) (n:Nat):Prop:=
 match x with
 | .str y=>y.length<=sizeLine/\n=y.length
 | .byt y=>y.size<=sizeLine/\n=y.size
 | .ref p=>(∃xs,SqL K H p xs/\n=xs.length)\/∃xs,SqT K H p xs/\n=xs.length
 |_=>False
theorem nr':aP' X (.builtin "len") (fun xs H Q=>∃x n,xs=[x]/\AC' X.K x H n/\Q (.int n) H):=by
 intro p_ s σ H xs us Q I r h
 obtain⟨x,n,rfl,e,q⟩:=h
 obtain⟨u,rfl,rx⟩:=dl' r
 have hl:=e1'
 have hs:sizeLine=16777216:=sizeLine_eq
 cases x with
 |str y=>
  obtain⟨t,rfl⟩:=rx
  obtain⟨hy,e'⟩:y.length<=sizeLine/\n=y.length:=e
  subst e'
  exact len_str ⋯ ⟨.int _,H,I.tok _,⟨_,rfl⟩,q⟩
 |byt y=>
  obtain⟨t,rfl⟩:=rx
  obtain⟨hy,e'⟩:y.size<=sizeLine/\n=y.size:=e
  subst e'
  exact W.len_bytes ⋯ ⟨.int _,H,I.tok _,⟨_,rfl⟩,q⟩
 |ref p=>
  cases rx
  have e':(∃xs,SqL X.K H p xs/\n=xs.length)\/∃xs,SqT X.K H p xs/\n=xs.length:=e
  rcases e' with⟨xs,hx,e'⟩|⟨xs,hx,e'⟩
  .subst e'
   obtain⟨its,r',pl,hz⟩:=I.list hx
   have hlen:=r'.length
   exact Calls.call_len_list pl.isList (by simp only[ap];omega) ⟨.int xs.length,H,I.tok _,⟨_,by simp only[ap];rw[hlen]⟩,q⟩
  .subst e'
   obtain⟨its,r',pl,hz⟩:=I.tuple hx
   have hlen:=r'.length
   exact len_tuple pl (by simp only[ap];omega) ⟨.int xs.length,H,I.tok _,⟨_,by simp only[ap];rw[hlen]⟩,q⟩
 |_=>exact(show False from e).elim
end
structure Room (k:Nat) (A:Around):Prop where
 hd:A.handled=none
 dp:A.depth+3*k+5<recursionLimit
 un:A.units+16*k+200<cLine
 gd:A.guards=some []
theorem Room.mono {j k:Nat} {A:Around} (r:Room k A) (h:j<=k):Room j A:=⟨r.hd,by have:=r.dp;omega,by have:=r.un;omega,r.gd⟩
theorem Room.deeper {k:Nat} {A:Around} (r:Room (k+1) A) (env:Env):Room k (A.deeper env):=
 ⟨r.hd,by have:=r.dp;show A.depth+1+3*k+5<_;omega,by have:=r.un;show A.units+3+16*k+200<_;omega,r.gd⟩
theorem Room.depth {k:Nat} {A:Around} (r:Room k A):A.depth<recursionLimit:=by have:=r.dp;omega
theorem Room.units {k:Nat} {A:Around} (r:Room k A):A.units+64<cLine:=by have:=r.un;omega
def ka':TA:=fun _ H Q=>Q [] H
def cR' (ta:TE) (tr:TA):TA:=fun σ H Q=>ta σ H fun x H1=>tr σ H1 fun xs H2=>Q (x :: xs) H2
section
variable {X:Cx} {e:Expr} {es:List Expr} {te:TE} {t:TA} {pos:Pos}
theorem ga':PA X [] ka':=fun _ _ _ _ H Q I h=>Calls.spliced_nil ⟨[],H,I,.nil,h⟩
theorem dm' (ha:PE X e te) (hr:PA X es t) (hs:starEach (e :: es) X.env=(false,eval e X.env) :: starEach es X.env:=by rfl):PA X (e :: es) (cR' te t):=by
 intro pos p_ s σ H Q I h
 rw[hs]
 show wpAny _ _ (spliced ((false,eval e X.env) :: backTo pos (starEach es X.env))) _ _ s
 refine Calls.spliced_cons (thn (ha p_ s σ H _ I h) fun u s1 ⟨x,H1,I1,r1,q1⟩=>?_)
 exact thn (hr pos p_ s1 σ H1 _ I1 q1) fun us s2 ⟨xs,H2,I2,r2,q2⟩=>⟨x :: xs,H2,I2,.cons r1 r2,q2⟩
def yH' (t:TA):TE:=fun σ H Q=>t σ H fun xs H1=>xs.length<=sizeLine/\∀p,H1 p=none->Q (.ref p) (upd H1 p (.tup xs))
def yI' (t:TA):TE:=fun σ H Q=>t σ H fun xs H1=>xs.length<=sizeLine/\∀p,H1 p=none->Q (.ref p) (upd H1 p (.lst xs))
theorem ua' {x1} (h:PA X es t):PE X (.Tuple es x1 pos) (yH' t):=by
 intro p_ s σ H Q I hq
 refine wpAny_Tuple_spliced (thn (h pos p_ s σ H _ I hq) fun us s1 ⟨xs,H1,I1,r,z,q⟩=>⟨by rw[<- r.length];exact z,?_⟩)
 have hf:H1 s1.heap.objs.size=none:=I1.hok.fresh (ag _)
 refine⟨.ref s1.heap.objs.size,upd H1 s1.heap.objs.size (.tup xs),I1.laid (t':=s1.toks) (fun b u e=>af _ e) (ag _) ?_,rfl,q _ hf⟩
 exact⟨z,us,r,⟨_,al _ rfl,rfl,⟨_,rfl⟩,rfl⟩⟩
theorem ub' (h:PA X es t):PE X (.List es pos) (yI' t):=by
 intro p_ s σ H Q I hq
 refine wpAny_List_spliced (thn (h pos p_ s σ H _ I hq) fun us s1 ⟨xs,H1,I1,r,z,q⟩=>⟨by rw[<- r.length];exact z,?_⟩)
 have hf:H1 s1.heap.objs.size=none:=I1.hok.fresh (ag _)
 refine⟨.ref s1.heap.objs.size,upd H1 s1.heap.objs.size (.lst xs),I1.laid (t':=s1.toks) (fun b u e=>af _ e) (ag _) ?_,rfl,q _ hf⟩
 exact⟨z,us,0,r,al _ rfl⟩
end
abbrev Sp:=List V->Hp->VK->XK->Prop
abbrev CXT:=List Env->Hp->Shared->XK->Value->Shared->Prop
structure Env0 (P:Program) (w:World) (K:W.Frag) (mg:Str->Option Value) (base:Heap) (A:Around) (outer:List Env) (s:Shared) (H:Hp):Prop where
 frames:A.frames=some outer
 mod:Mod K mg base
 bs:∀b o,base.get? b=some o->s.heap.get? b=some o/\H b=none
 bsz:base.objs.size<=s.heap.objs.size
 funs:s.heap.FunFrames base outer
 frf:∀b∈frs outer,H b=none
 hok:HOk P w H s.heap
 bare:AllBare s.gens
def CE (outer:List Env) (P:Program) (w:World) (H:Hp) (s:Shared) (Q:VK) (u:Value) (s':Shared):Prop:=
 ∃v H',s'.os=s.os/\AllBare s'.gens/\Un (frs outer) [] H H' s.heap s'.heap/\HOk P w H' s'.heap/\ax' v u/\Q v H'
def CR (CX:CXT) (outer:List Env) (P:Program) (w:World) (H:Hp) (s:Shared) (Q:VK) (E:XK) (r:Result) (s':Shared):Prop:=
 match r with
 | .ok (.ret u)=>CE outer P w H s Q u s'
 | .ok _=>False
 | .error e=>CX outer H s E e s'
structure FnOk (P:Program) (w:World) (K:W.Frag) (mg:Str->Option Value) (base:Heap) (CX:CXT) (k:Nat) (f:Addr) (fd:FuncData) (ps:List Str) (sp:Sp):Prop where
 len:∀vs H Q E,sp vs H Q E->vs.length=ps.length
 run:∀(A:Around) (outer:List Env) (s:Shared) (H:Hp) (args:Args) (us:List Value) (vs:List V) (Q:VK) (E:XK),Room k A->Env0 P w K mg base A outer s H->BindsTo s fd args (ps.zip us)->ay' vs us->sp vs H Q E->
  codeAny (model P w) A (.call (.ref f) args) (CR CX outer P w H s Q E) s
theorem FnOk.mono {P:Program} {w:World} {K:W.Frag} {mg:Str->Option Value} {base:Heap} {CX:CXT} {j k:Nat} {f:Addr} {fd:FuncData} {ps:List Str} {sp:Sp} (F:FnOk P w K mg base CX j f fd ps sp) (h:j<=k):
  FnOk P w K mg base CX k f fd ps sp:=⟨F.len,fun A outer s H args us vs Q E hr=>F.run A outer s H args us vs Q E (hr.mono h)⟩
section
variable {X:Cx} {p_:List (Addr×Obj)} {σ:St} {H:Hp} {s s':Shared}
theorem Inv.env0 (I:Inv X p_ σ H s):Env0 X.prog X.w X.K X.mg X.base X.A X.stack s H:=
 ⟨I.ok.frames,I.ok.mod,I.bs,aF I.ok.bsz I.sz,I.stack,I.stkFree,I.hok,I.bare⟩
theorem Inv.after {Q:VK} {u:Value} (I:Inv X p_ σ H s) (h:CE X.stack X.prog X.w H s Q u s'):EP X p_ σ Q u s':=by
 obtain⟨v,H',os,bare,un,hok,r,q⟩:=h
 obtain⟨hh,g,d,t,os'⟩:=s'
 obtain rfl:os'=s.os:=os
 exact⟨v,H',I.call (h':=hh) (g':=g) (d':=d) (t':=t) (ch:=[]) un hok bare (fun b z=>absurd z (by simp)),r,q⟩
end
def ns' (sp:Sp) (dvs:List V) (E:XK) (t:TA):TE:=fun σ H Q=>t σ H fun vs H1=>sp (vs++dvs) H1 Q E
def eJ' (K:W.Frag) (fd:FuncData) (ps:List Str) (ds:List Value):Prop:=
 ∀(s:Shared) (us:List Value),K.In s.heap->(us++ds).length=ps.length->BindsTo s fd ⟨us,[]⟩ (ps.zip (us++ds))
theorem eJ'.all {K:W.Frag} {fd:FuncData} {ps:List Str} (h:∀us:List Value,us.length=ps.length->bindArgs fd ⟨us,[]⟩=pure (ps.zip us)):eJ' K fd ps []:=fun s us _ hl=>by
 rw[cz]at hl ⊢
 exact .of_eq (h us hl)
structure FnScope (N P:List Str) (sc:Scope):Prop where
 kind:sc.kind=.function
 co:sc.isCoroutine=false
 gen:sc.isGenerator=false
 nd:N.Nodup
 pre:N.take P.length=P
 par:∀x∈P,sc.names.lookup x=some .local\/sc.names.lookup x=some .cell
 nofree:∀y∈sc.names,y.2≠.free
theorem gb' {kindOf:Str->Option NameKind} {x:Str}:∀{binds:List (Str×Value)} {m:Str->Option Value},(∀v,(x,v)∉binds)->bindL kindOf binds m x=m x
 | [],_,_=>rfl
 |(n,v) :: r,m,h=>by
  unfold bindL
  rw[gb' fun w hw=>h w (aC _ hw)]
  split
  .have:x≠n:=by rintro rfl;exact h v aE
   simp[this]
  .rfl
theorem gc' {kindOf:Str->Option NameKind} {x:Str}:∀{binds:List (Str×Value)} {m:Str->Option Value},(∀v,(x,v)∉binds)->bindC kindOf binds m x=m x
 | [],_,_=>rfl
 |(n,v) :: r,m,h=>by
  unfold bindC
  rw[gc' fun w hw=>h w (aC _ hw)]
  split
  .rfl
  .have:x≠n:=by rintro rfl;exact h v aE
   simp[this]
theorem gd' {kindOf:Str->Option NameKind} {x:Str} {v:Value}:∀{P:List Str} {vs:List Value} {i:Nat} {m:Str->Option Value},P.Nodup->P[i]?=some x->vs[i]?=some v->kindOf x=some .local->
  bindL kindOf (P.zip vs) m x=some v
 | [],_,_,_,_,h,_,_=>by simp at h
 |_ :: _,[],_,_,_,_,h,_=>by simp at h
 |p :: P,w :: vs,0,m,nd,h1,h2,hk=>by
  simp at h1 h2;subst h1;subst h2
  show bindL kindOf ((p,w) :: P.zip vs) m p=_
  unfold bindL
  rw[gb' fun v hv=>(bx.mp nd).1 (List.of_mem_zip hv).1,if_pos hk]
  simp
 |p :: P,w :: vs,i+1,m,nd,h1,h2,hk=>by
  show bindL kindOf ((p,w) :: P.zip vs) m x=_
  unfold bindL
  exact gd' (i:=i) (bx.mp nd).2 (by simpa using h1) (by simpa using h2) hk
theorem ge' {kindOf:Str->Option NameKind} {x:Str} {v:Value}:∀{P:List Str} {vs:List Value} {i:Nat} {m:Str->Option Value},P.Nodup->P[i]?=some x->vs[i]?=some v->kindOf x≠some .local->
  bindC kindOf (P.zip vs) m x=some v
 | [],_,_,_,_,h,_,_=>by simp at h
 |_ :: _,[],_,_,_,_,h,_=>by simp at h
 |p :: P,w :: vs,0,m,nd,h1,h2,hk=>by
  simp at h1 h2;subst h1;subst h2
  show bindC kindOf ((p,w) :: P.zip vs) m p=_
  unfold bindC
  rw[gc' fun v hv=>(bx.mp nd).1 (List.of_mem_zip hv).1,if_neg hk]
  simp
 |p :: P,w :: vs,i+1,m,nd,h1,h2,hk=>by
  show bindC kindOf ((p,w) :: P.zip vs) m x=_
  unfold bindC
  exact ge' (i:=i) (bx.mp nd).2 (by simpa using h1) (by simpa using h2) hk
def aQ' (N:List Str) (vs:List V):St:=vs.map some++av (N.length-vs.length) none
def tA' (CX:CXT) (P:Program) (w:World) (K:W.Frag) (mg:Str->Option Value) (base:Heap) (N:List Str) (qual:Str) (scope:Scope) (f:Addr) (cd:Value) (A:Around) (outer:List Env) (s:Shared) (H:Hp) (E:XK):Cx where
 prog:=P
 w:=w
 K:=K
 mg:=mg
 base:=base
 A:=A.deeper (envOfC qual scope s.heap.objs.size f cd)
 N:=N
 s₀:=s
 H₀:=H
 env:=envOfC qual scope s.heap.objs.size f cd
 outer:=outer
 stack:=envOfC qual scope s.heap.objs.size f cd :: outer
 ex:=[]
 calm:=true
 fn:=fun _=>true
 pn:=[]
 xe:=fun e s'=>wpAny (model P w) (A.deeper (envOfC qual scope s.heap.objs.size f cd)) (leaving (envOfC qual scope s.heap.objs.size f cd) e) (fun _ s''=>CX outer H s E e s'') (fun e' s''=>CX outer H s E e' s'') s'
theorem fn' {sc:Scope} {n:Nat} {x:Str} (h:sc.names.lookup x=some .cell):∃c,(cellsFrom n sc.names []).lookup x=some c:=by
 have q:=W.cellsFrom_some sc.names n [] (.inl h)
 exact Option.isSome_iff_exists.mp q
theorem kr' {CX:CXT} {P:Program} {w:World} {K:W.Frag} {mg:Str->Option Value} {base:Heap} {N ps:List Str} {qual:Str} {scope:Scope} {f:Addr} {cd:Value} {A:Around} {outer:List Env} {s s1:Shared} {H:Hp} {E:XK} {us:List Value} {vs:List V}
  (S:FnScope N ps scope) (hd:A.handled=none) (e0:Env0 P w K mg base A outer s H) (hl:vs.length=ps.length) (r:ay' vs us)
  (x:InCallC s s.heap.objs.size (bindL (envOfC qual scope s.heap.objs.size f cd).kindOf (ps.zip us) fun _=>none) (cellsFrom (s.heap.objs.size+1) scope.names []) (bindC (envOfC qual scope s.heap.objs.size f cd).kindOf (ps.zip us) fun _=>none) s1):
  Inv (tA' CX P w K mg base N qual scope f cd A outer s H E) [] (aQ' N vs) H s1:=by
 have hpl:ps.length<=N.length:=by have:=congrArg List.length S.pre;rw[aJ]at this;omega
 obtain⟨h1,tk,rfl,hk⟩:=x.done
 have noA:∀b:Addr,b∉(tA' CX P w K mg base N qual scope f cd A outer s H E).ex:=fun b z=>absurd (show b∈([]:List Addr) from z) (by simp)
 refine⟨⟨e0.mod,S.kind,rfl,rfl,ag _,fun y z c h1 h2=>?_,fun y hy=>?_,fun y c _ h=>?_,fun _=>hd,Around.frames_deeper e0.frames,.inr ⟨rfl,rfl⟩,fun b z=>absurd z (noA b),e0.bs,e0.bsz,fun b _ _=>noA b,fun b z=>absurd z (noA b),e0.funs,e0.frf⟩,
  rfl,e0.bare,Un.kept hk,⟨_,x.toInCall.ns,fun i y v h1 h2 h3=>?_⟩,fun y c h=>⟨_,x.cell y c h⟩,e0.hok.fresh (ag _),fun y c h=>?_,fun p hp=>absurd (show p∈([]:List (Addr×Obj)) from hp) (by simp),e0.hok.kept hk,?_⟩
 .exact name_of_addr x.apart (PySem.mem_of_lookup h1) (PySem.mem_of_lookup h2)
 .have hy:scope.names.lookup y=some .cell\/scope.names.lookup y=some .free:=hy
  rcases hy with hy|hy
  .exact fn' hy
  .exact absurd rfl (S.nofree _ (PySem.mem_of_lookup hy))
 .exact bP (x.above y c (PySem.mem_of_lookup h))
 .have hi:i<vs.length:=by
   unfold aQ' at h2
   by_cases hi:i<vs.length
   .exact hi
   .rw[List.getElem?_append_right (by simpa using hi)]at h2
    rw[List.getElem?_replicate]at h2
    split at h2<;>cases h2
  have ha:vs[i]?=some v:=by
   unfold aQ' at h2
   rw[List.getElem?_append_left (by simpa using hi),ao]at h2
   cases e:vs[i]? with
   |none=>rw[e]at h2;cases h2
   |some a=>rw[e]at h2;cases h2;rfl
  obtain⟨u,hu,rv⟩:=r.get ha
  have hp:ps[i]?=some y:=by
   rw[<- S.pre,List.getElem?_take_of_lt ⋯];exact h1
  have ndP:ps.Nodup:=by rw[<- S.pre];exact S.nd.sublist (List.take_sublist _ _)
  refine⟨u,rv,?_⟩
  rcases S.par y (aq hp)with k|k
  .exact .inl ⟨k,gd' ndP hp hu k⟩
  .obtain⟨c,e⟩:=fn' (n:=s.heap.objs.size+1) k
   refine .inr ⟨.inl k,c,e,?_⟩
   have q:=x.cell y c e
   rw[ge' ndP hp hu (by show scope.names.lookup y≠_;rw[k];decide)]at q
   exact q
 .exact e0.hok.fresh (bP (x.above y c (PySem.mem_of_lookup h)))
 .unfold aQ'
  show _=N.length
  rw[ax,ac,List.length_replicate]
  omega
theorem yJ' {CX:CXT} {P:Program} {w:World} {K:W.Frag} {mg:Str->Option Value} {base:Heap} {k:Nat} {f:Addr} {name qual:Str} {params:Arguments} {body:List Stmt} {scope:Scope} {dV kV doc pm cdv ct oc:Value} {an od:Option Addr}
  {osl:Array (Option Value)} {N ps:List Str} {sp:Sp} (lk:K.lookup f=some ⟨oc,od,.func (W.fnOf name qual params body scope dV kV doc pm an cdv ct),osl⟩) (hcd:W.codeIn K cdv qual=true) (S:FnScope N ps scope)
  (len:∀vs H Q E,sp vs H Q E->vs.length=ps.length)
  (hbody:∀(A:Around) (outer:List Env) (s:Shared) (H:Hp) (vs:List V) (Q:VK) (E:XK),Room k (A.deeper (envOfC qual scope s.heap.objs.size f cdv))->sp vs H Q E->
   ∃t,PSs (tA' CX P w K mg base N qual scope f cdv A outer s H E) body t/\t { nx:=fun _ H'=>Q .non H',rt:=Q } (aQ' N vs) H):
  FnOk P w K mg base CX (k+1) f (W.fnOf name qual params body scope dV kV doc pm an cdv ct) ps sp:=by
 refine⟨len,fun A outer s H args us vs Q E hr e0 hb r hsp=>?_⟩
 have hl:=len _ _ _ _ hsp
 have KX:K.In s.heap:=e0.mod.kin.keeps fun b o e=>(e0.bs b o e).1
 have lim:s.heap.NoLimit:=e0.mod.nolimit.keeps fun b o e=>(e0.bs b o e).1
 have hkind:∀y∈ps.zip us,scope.names.lookup y.1=some .local\/(scope.names.lookup y.1=some .cell/\((cellsFrom (s.heap.objs.size+1) scope.names []).lookup y.1).isSome=true):=fun⟨n,v⟩ hy=>by
  rcases S.par n (List.of_mem_zip hy).1 with q|q
  .exact .inl q
  .exact .inr ⟨q,W.cellsFrom_some _ _ _ (.inl q)⟩
 refine codeAny_call_function hr.depth (KX _ _ lk) rfl S.co S.gen rfl (W.codeRec_of KX hcd) (hb _ _ _ _ ?_)
 refine wpAny_newFunctionEnv_cells S.kind hkind fun env he s1 x=>?_
 subst he
 refine⟨lim.keeps x.toInCall.keep,codeAny_func ?_⟩
 obtain⟨t,ht,hq⟩:=hbody A outer s H vs Q E (hr.deeper _) hsp
 have I:Inv (tA' CX P w K mg base N qual scope f cdv A outer s H E) [] (aQ' N vs) H s1:=kr' S hr.hd e0 hl r x
 refine dh (ht [] s1 (aQ' N vs) H _ I hq) (fun fl s' hs=>?_) fun e s' hs=>hs
 have fin:∀{σ':St} {H':Hp} {v:V} {u:Value},Inv (tA' CX P w K mg base N qual scope f cdv A outer s H E) [] σ' H' s'->ax' v u->Q v H'->CE outer P w H s Q u s':=
  fun {σ' H' v u} J rv q=>⟨v,H',J.os,J.bare,J.base,J.hok,rv,q⟩
 cases fl with
 |ret u=>
  obtain⟨v,σ',H',J,rv,q⟩:=hs
  exact fin J rv q
 |next=>
  obtain⟨σ',H',J,q⟩:=hs
  exact fin (v:=V.non) (u:=Value.none) J rfl q
 |brk=>
  obtain⟨_,_,_,q⟩:=hs
  exact False.elim q
 |cont=>
  obtain⟨_,_,_,q⟩:=hs
  exact False.elim q
section
variable {X:Cx} {x:Str} {p pos:Pos} {e:Expr} {es:List Expr} {t:TA} {id T:String} {r:List V->Hp->VK->Prop}
def tCB (r:List V->Hp->VK->Prop) (t:TA):TE:=fun σ H Q=>t σ H fun vs H1=>r vs H1 Q
theorem nt' (hc:aP' X (.builtin id) r) (hg:Gl X x) (hm:X.mg x=none) (hv:bootBuiltins x=some (.builtin id)) (ha:PA X (e :: es) t) (hn:x≠"__name__":=by decide) (hdb:(x == ("__debug__":Str))=false:=by decide)
  (he:starEach (e :: es) X.env=(false,eval e X.env) :: starEach es X.env:=by rfl) (hpl:(backTo pos (starEach es X.env)).any (·.1)=false:=by rfl):PE X (.Call (.Name x p) (e :: es) [] pos) (tCB r t):=by
 intro p_ s σ H Q I h
 refine wpAny_Call_Name_kw (eZ' I hg hm hv ?_ hn hdb)
 exact PyProof.Rows.callWith_builtin1 (thn (ha pos p_ s σ H _ I h) fun us s1 ⟨vs,H1,I1,r1,q1⟩=>hc p_ s1 σ H1 vs us Q I1 r1 q1) he hpl
theorem gf' (hc:aP' X (.type T) r) (hg:Gl X x) (hm:X.mg x=none) (hv:bootBuiltins x=some (.type T)) (ha:PA X (e :: es) t) (hn:x≠"__name__":=by decide) (hdb:(x == ("__debug__":Str))=false:=by decide)
  (he:starEach (e :: es) X.env=(false,eval e X.env) :: starEach es X.env:=by rfl) (hpl:(backTo pos (starEach es X.env)).any (·.1)=false:=by rfl):PE X (.Call (.Name x p) (e :: es) [] pos) (tCB r t):=by
 intro p_ s σ H Q I h
 refine wpAny_Call_Name_kw (eZ' I hg hm hv ?_ hn hdb)
 exact PyProof.Rows.callWith_type1 (thn (ha pos p_ s σ H _ I h) fun us s1 ⟨vs,H1,I1,r1,q1⟩=>hc p_ s1 σ H1 vs us Q I1 r1 q1) he hpl
end
end L2
namespace HT
open PySem PyProof.Rows
section
open PySem.SeqAt
open PySem.AutoSeq1 (wpAny_loadPart')
open PySem.MeetsSeq PySem.MeetsSeq2 PySem.MeetsSeq3
end
section
variable {prog:Program} {w:World} {A:Around} {E:Value->Shared->Prop} {s:Shared}
theorem qW' {t b:Addr} {vs ws:List Value} {Q:Value->Shared->Prop} (ht:IsTup s.heap t vs.toArray) (hb:IsTup s.heap b ws.toArray) (hv:vs≠[])
  (h1:ws=[]->Q (.ref t) s) (h2:ws≠[]->Q (.ref s.heap.objs.size) { s with heap:=s.heap.push { cls:=.type "tuple",data:=.seq (vs++ws).toArray } })
  (hsz:vs.length+ws.length<=sizeLine):wpAny (model prog w) A (binaryOp .Add (.ref t) (.ref b)) Q E s:=by
 obtain⟨⟨cls,dd,data,sl⟩,ho,hc,n,hd⟩:=id ht
 obtain⟨⟨cls2,dd2,data2,sl2⟩,ho2,hc2,n2,hd2⟩:=id hb
 simp only at hc hd hc2 hd2
 subst hc hd hc2 hd2
 have e:vs.toArray++ws.toArray=(vs++ws).toArray:=by simp
 by_cases hw:ws=[]
 .exact concat_meets ⟨_,ho,rfl⟩ ⟨_,ho2,rfl⟩ noFill_tuple_add seq_tuple_add PySem.F.slot_tuple_add PySem.F.entry_tuple_add (PySem.F.args_tuple_add_2 _ _)
   (tuple_addW1 t b vs.toArray ws.toArray n n2 dd dd2 sl sl2 (by simpa using hv) (by simp[hw])) ⟨ho,ho2,h1 hw⟩
 .refine concat_meets ⟨_,ho,rfl⟩ ⟨_,ho2,rfl⟩ noFill_tuple_add seq_tuple_add PySem.F.slot_tuple_add PySem.F.entry_tuple_add (PySem.F.args_tuple_add_2 _ _)
   (tuple_addW2 t b vs.toArray ws.toArray n n2 dd dd2 sl sl2 (by simpa using hv) (by simpa using hw) (by rw[ap,ap];exact hsz)) ⟨ho,ho2,?_⟩
  rw[e]
  exact h2 hw
def sIx (n d:Nat):Option Int->Nat
 |none=>d
 |some v=>if v<0 then(v+(n:Int)).toNat else min v.toNat n
theorem uc' (n d:Nat) (hd:d<=n) (o:Option Int):sIx n d o<=n:=by
 cases o with
 |none=>exact hd
 |some v=>
  show(if v<0 then(v+(n:Int)).toNat else min v.toNat n)<=n
  by_cases hv:v<0
  .rw[if_pos hv];omega
  .rw[if_neg hv];exact Nat.min_le_right _ _
theorem ks' (v:Int) (n d:Nat):(if v<0 then max (v+(n:Int)) 0 else min v (n:Int))=((sIx n d (some v):Nat):Int):=by
 show(if v<0 then max (v+(n:Int)) 0 else min v (n:Int))=(((if v<0 then(v+(n:Int)).toNat else min v.toNat n):Nat):Int)
 by_cases hv:v<0
 .simp only[if_pos hv];omega
 .simp only[if_neg hv];omega
theorem jv' (lo hi:Option Int) (n:Nat):Builtin.Slice.sliceAdjust lo hi 1 (n:Int)=(((sIx n 0 lo:Nat):Int),((sIx n n hi:Nat):Int)):=by
 have h1:¬((1:Int)<0):=by omega
 unfold Builtin.Slice.sliceAdjust
 simp only[h1,if_false]
 refine Prod.ext ?_ ?_
 .cases lo with
  |none=>rfl
  |some v=>exact ks' v n 0
 .cases hi with
  |none=>rfl
  |some v=>exact ks' v n n
theorem jw' (i j:Nat):Builtin.Slice.slicePlaces (i:Int) (j:Int) 1=j-i:=by
 unfold Builtin.Slice.slicePlaces
 have h1:(1:Int) > 0:=by omega
 simp only[h1,if_true,Int.ediv_one]
 split<;>omega
theorem e3' {v:Value} {o:Option Int} {Q:Option Int->Shared->Prop} (p:IsPart v o) (h:Q o s):wpAny (model prog w) A (Builtin.Slice.slicePartIndex v) Q E s:=by
 cases p with
 |none=>exact slicePart_none h
 |int i t=>exact slicePart_int h
theorem ca' {sl:Addr} {vl vu:Value} {lo hi:Option Int} {n:Nat} {Q:Int×Int×Nat->Shared->Prop} (hs:s.heap.IsSliceOf sl vl vu .none) (pl:IsPart vl lo) (pu:IsPart vu hi)
  (h:Q (((sIx n 0 lo:Nat):Int),1,sIx n n hi-sIx n 0 lo) s):wpAny (model prog w) A (Builtin.Slice.sliceApplied (.ref sl) (pure (n:Int))) Q E s:=by
 obtain⟨os,hos,hcs,hds⟩:=id hs
 unfold Builtin.Slice.sliceApplied Builtin.Slice.sliceFields
 refine aa (aa (bo hos hds (x:=vl) rfl (aa (bo hos hds (x:=vu) rfl (aa (bo hos hds (x:=.none) rfl (ab ?_)))))))
 refine aa (slicePart_none ?_)
 show wpAny _ _ (if((1:Int) == 0)=true then _ else _) _ _ s
 rw[if_neg (by decide)]
 refine aa (e3' pl (aa (e3' pu (aa (ab ?_)))))
 show wpAny _ _ (match Builtin.Slice.sliceAdjust lo hi 1 (n:Int)with|(lo,hi)=>pure (lo,(1:Int),Builtin.Slice.slicePlaces lo hi 1)) _ _ s
 rw[jv' lo hi n]
 show wpAny _ _ (pure (((sIx n 0 lo:Nat):Int),(1:Int),Builtin.Slice.slicePlaces ((sIx n 0 lo:Nat):Int) ((sIx n n hi:Nat):Int) 1)) _ _ s
 rw[jw']
 exact ab h
theorem nu' (xs:Array Value) (i k:Nat):((aG k).filterMap fun(m:Nat)=>xs[((i:Int)+(m:Int)*1).toNat]?).toArray=((xs.toList.drop i).take k).toArray:=by
 have e:(fun(m:Nat)=>xs[((i:Int)+(m:Int)*1).toNat]?)=fun m=>xs[i+m]?:=by
  funext m
  have:((i:Int)+(m:Int)*1).toNat=i+m:=by omega
  rw[this]
 rw[e]
 have:=pick_run xs i k
 rw[List.filterMap_map]at this
 have e2:((fun x=>xs[x]?)∘fun x=>i+x)=fun m=>xs[i+m]?:=rfl
 rw[e2]at this
 rw[this]
theorem dn' {t sl:Addr} {items:Array Value} {vl vu:Value} {lo hi:Option Int} {Q:Value->Shared->Prop} (ht:IsTup s.heap t items) (hs:s.heap.IsSliceOf sl vl vu .none) (pl:IsPart vl lo) (pu:IsPart vu hi)
  (hw:¬(sIx items.size 0 lo=0/\sIx items.size items.size hi=items.size))
  (h:Q (.ref s.heap.objs.size) { s with heap:=s.heap.push { cls:=.type "tuple",data:=.seq ((items.toList.drop (sIx items.size 0 lo)).take (sIx items.size items.size hi-sIx items.size 0 lo)).toArray } })
  (hsz:items.size<=sizeLine):wpAny (model prog w) A (getItem (.ref t) (.ref sl)) Q E s:=by
 have htake:sizeOk (.seq ((items.toList.drop (sIx items.size 0 lo)).take (sIx items.size items.size hi-sIx items.size 0 lo)).toArray):=by
  show((items.toList.drop (sIx items.size 0 lo)).take (sIx items.size items.size hi-sIx items.size 0 lo)).toArray.size<=sizeLine
  rw[ap,aJ,cD,ai]
  omega
 have hj:sIx items.size items.size hi<=items.size:=uc' _ _ (ag _) hi
 obtain⟨os,hos,hcs,hds⟩:=id hs
 have hTs:s.TypeIs (.ref sl) "slice":=⟨os,hos,hcs⟩
 unfold getItem
 try with_reducible refine aH ?_
 first|refine aa (ab ?_)|skip
 refine aa (wpAny_sequenceKey ht.typeIs (by decide) ?_)
 refine aa (aQ (name:=Str.ofString "__getitem__") ht.typeIs PyProof.Rows.slot_tuple_getitem
  (aO PyProof.Rows.slot_tuple_getitem ht.typeIs entry_tuple_getitem ?_ (args_tuple_getitem _ _)))
 show wpAny _ _ (Builtin.Tuple.tupleItemsOf (.ref t) >>= _) _ _ s
 refine aa (tupleItemsOf_ ht ?_)
 refine aa (dw hTs ?_)
 rw[if_pos (by decide)]
 refine aa (ca' hs pl pu ?_)
 have hno:¬((((sIx items.size 0 lo:Nat):Int) == 0&&(1:Int) == 1&&(sIx items.size items.size hi-sIx items.size 0 lo) == items.size)=true):=by
  intro q
  rw[ah,ah]at q
  have q1:((sIx items.size 0 lo:Nat):Int)=0:=eq_of_beq q.1.1
  have q2:sIx items.size items.size hi-sIx items.size 0 lo=items.size:=eq_of_beq q.2
  exact hw ⟨⋯,⋯⟩
 show wpAny _ _ (if(((sIx items.size 0 lo:Nat):Int) == 0&&(1:Int) == 1&&(sIx items.size items.size hi-sIx items.size 0 lo) == items.size)=true then _ else _) _ _ s
 rw[if_neg hno,nu']
 first
  |exact aa (m:=Builtin.Tuple.tupleExact _) (aI (ab ⟨_,rfl,ab h⟩) htake)
  |exact aa (m:=Builtin.Tuple.tupleExact _) (aI (aa (ab (ab ⟨_,rfl,ab h⟩))) htake)
  |exact aa (aa (m:=Builtin.Tuple.tupleExact _) (aI (ab (ab ⟨_,rfl,ab h⟩)) htake))
  |exact aa (aa (m:=Builtin.Tuple.tupleExact _) (aI (ab ⟨_,rfl,ab h⟩) htake))
end
end HT
namespace L2
open PySem PySem.Spec PyProof.Rows
abbrev TO:=St->Hp->(Option Int->Hp->Prop)->Prop
def PO (X:Cx) (e:Option Expr) (t:TO):Prop:=
 ∀(p_:List (Addr×Obj)) (s:Shared) (σ:St) (H:Hp) (Q:Option Int->Hp->Prop),Inv X p_ σ H s->t σ H Q->
  wpAny (model X.prog X.w) X.A (evalPart e X.env) (fun u s'=>∃o H',Inv X p_ σ H' s'/\IsPart u o/\Q o H') X.xe s
def hF':TO:=fun _ H Q=>Q none H
def nv' (t:TE):TO:=fun σ H Q=>t σ H fun x H1=>∃i,x=.int i/\Q (some i) H1
theorem cm' {ns:List Int}:∀{us:List Value},ay' (ns.map V.int) us->IntsAre us ns:=by
 induction ns with
 |nil=>intro us r;rw[List.map_nil]at r;cases r;exact .nil
 |cons n ns ih=>
  intro us r
  rw[aS]at r
  cases r with
  |cons r1 r2=>
   obtain⟨t,e⟩:=r1
   subst e
   exact .cons n t (ih r2)
section
variable {X:Cx} {e:Expr} {te:TE} {lo hi:Option Expr} {tl th:TO} {pos p2:Pos}
theorem qX':PO X none hF':=by
 intro p_ s σ H Q I h
 rw[evalPart_none]
 exact ab ⟨none,H,I,.none,h⟩
theorem kt' (h:PE X e te):PO X (some e) (nv' te):=by
 intro p_ s σ H Q I hw
 rw[evalPart_some]
 refine thn (h p_ s σ H _ I hw) fun u s1 ⟨x,H1,I1,r1,q1⟩=>?_
 obtain⟨i,rfl,q⟩:=q1
 obtain⟨t,rfl⟩:=r1
 exact⟨some i,H1,I1,.int i t,q⟩
def SlR (X:Cx) (r:V->Option Int->Option Int->Hp->VK->Prop):Prop:=
 ∀(p_:List (Addr×Obj)) (s:Shared) (σ:St) (H:Hp) (x:V) (v vl vu:Value) (lo hi:Option Int) (sl:Addr) (Q:VK),Inv X p_ σ H s->ax' x v->s.heap.IsSliceOf sl vl vu .none->IsPart vl lo->IsPart vu hi->r x lo hi H Q->
  ∃T id,typeLookup (.type T) "__getitem__"=pure (some (.builtin id))/\s.TypeIs v T/\wpAny (model X.prog X.w) X.A (getItem v (.ref sl)) (EP X p_ σ Q) X.xe s
theorem SlR.or {r r':V->Option Int->Option Int->Hp->VK->Prop} (h:SlR X r) (h':SlR X r'):SlR X (fun x lo hi H Q=>r x lo hi H Q\/r' x lo hi H Q):=by
 intro p_ s σ H x v vl vu lo hi sl Q I rx hs pl pu q
 rcases q with q|q
 .exact h p_ s σ H x v vl vu lo hi sl Q I rx hs pl pu q
 .exact h' p_ s σ H x v vl vu lo hi sl Q I rx hs pl pu q
def tSl (r:V->Option Int->Option Int->Hp->VK->Prop) (te:TE) (tl th:TO):TE:=fun σ H Q=>te σ H fun x H1=>tl σ H1 fun l H2=>th σ H2 fun u H3=>r x l u H3 Q
theorem nw' {r:V->Option Int->Option Int->Hp->VK->Prop} (hr:SlR X r) (he:PE X e te) (hl:PO X lo tl) (hu:PO X hi th):PE X (.Subscript e (.Slice lo hi none p2) pos) (tSl r te tl th):=by
 intro p_ s σ H Q I h
 refine Subscript_ (thn (he p_ s σ H _ I h) fun v s1 ⟨x,H1,I1,r1,q1⟩=>?_)
 refine wpAny_Slice (thn (hl p_ s1 σ H1 _ I1 q1) fun vl s2 ⟨l,H2,I2,pl,q2⟩=>thn (hu p_ s2 σ H2 _ I2 q2) fun vu s3 ⟨u,H3,I3,pu,q3⟩=>?_)
 rw[evalPart_none]
 refine ab ?_
 have I4:Inv X p_ σ H3 { s3 with heap:=s3.heap.push { cls:=.type "slice",data:=.fields #[vl,vu,.none] } }:=I3.kept (t':=s3.toks) fun b ob q=>af _ q
 obtain⟨T,id,hT,ht,hg⟩:=hr p_ { s3 with heap:=s3.heap.push { cls:=.type "slice",data:=.fields #[vl,vu,.none] } } σ H3 x v vl vu l u s3.heap.objs.size Q I4 r1 (Heap.IsSliceOf.new ..) pl pu q3
 show wpAny (model X.prog X.w) X.A (subscriptTail e (.Slice lo hi none p2) v (.ref s3.heap.objs.size)) (EP X p_ σ Q) X.xe { s3 with heap:=s3.heap.push { cls:=.type "slice",data:=.fields #[vl,vu,.none] } }
 exact tail_any (ops:=[.ref s3.heap.objs.size,v]) ht hT hg (by with_unfolding_all rfl)
def pE' (xs:List V) (lo hi:Option Int):List V:=(xs.drop (HT.sIx xs.length 0 lo)).take (HT.sIx xs.length xs.length hi-HT.sIx xs.length 0 lo)
theorem dW' (xs:List V) (lo hi:Option Int):(pE' xs lo hi).length<=xs.length:=by
 unfold pE'
 rw[aJ,cD]
 omega
def xZ' (K:W.Frag):V->Option Int->Option Int->Hp->VK->Prop:=fun x lo hi H Q=>∃a xs,x=.ref a/\SqT K H a xs/\
 ¬(HT.sIx xs.length 0 lo=0/\HT.sIx xs.length xs.length hi=xs.length)/\∀p,H p=none->Q (.ref p) (upd H p (.tup (pE' xs lo hi)))
theorem ud':SlR X (xZ' X.K):=by
 intro p_ s σ H x v vl vu lo hi sl Q I rx hs pl pu h
 obtain⟨a,xs,rfl,hx,hw,q⟩:=h
 cases rx
 obtain⟨its,r,ht,hz⟩:=I.tuple hx
 have hlen:its.toArray.size=xs.length:=by rw[ap];exact r.length.symm
 refine⟨"tuple",_,PyProof.Rows.slot_tuple_getitem.lookup,ht.typeIs,?_⟩
 refine HT.dn' ht hs pl pu (by rw[hlen];exact hw) ?_ (by rw[hlen];exact hz)
 rw[hlen]
 refine⟨.ref s.heap.objs.size,_,I.laid (t':=s.toks) (o:=.tup (pE' xs lo hi)) (fun b ob q=>af _ q) (ag _) ?_,rfl,q _ (I.hok.fresh (ag _))⟩
 exact⟨aF (dW' xs lo hi) hz,_,(r.drop (HT.sIx xs.length 0 lo)).take (HT.sIx xs.length xs.length hi-HT.sIx xs.length 0 lo),ng'.new _ _⟩
def ue' (K:W.Frag):R2:=fun x y H Q=>∃a b xs ys,x=.ref a/\y=.ref b/\SqT K H a xs/\SqT K H b ys/\xs≠[]/\xs.length+ys.length<=sizeLine/\
 (ys=[]->Q (.ref a) H)/\(ys≠[]->∀p,H p=none->Q (.ref p) (upd H p (.tup (xs++ys))))
theorem ay'.nil_iff {xs:List V} {us:List Value} (r:ay' xs us):us=[]↔xs=[]:=by
 cases r with
 |nil=>simp
 |cons _ _=>simp
theorem qY':OpR X (binaryOp .Add) (ue' X.K):=by
 intro p_ s σ H x y v u Q I rx ry h
 obtain⟨a,b,xs,ys,rfl,rfl,ha,hb,hx,hz,q1,q2⟩:=h
 cases rx
 cases ry
 obtain⟨its,r1,p1,_⟩:=I.tuple ha
 obtain⟨its2,r2,p2,_⟩:=I.tuple hb
 refine HT.qW' p1 p2 (fun z=>hx (r1.nil_iff.mp z)) (fun z=>⟨.ref a,H,I,rfl,q1 (r2.nil_iff.mp z)⟩) (fun z=>?_) (by rw[<- r1.length,<- r2.length];exact hz)
 refine⟨.ref s.heap.objs.size,_,I.laid (t':=s.toks) (o:=.tup (xs++ys)) (fun b ob q=>af _ q) (ag _) ?_,rfl,q2 (fun w=>z (r2.nil_iff.mpr w)) _ (I.hok.fresh (ag _))⟩
 exact⟨by rw[ax];exact hz,_,r1.append r2,ng'.new _ _⟩
end
def ixN (n:Nat) (i:Int):Option Nat:=if 0<=i then(if i<n then some i.toNat else none)else if -(n:Int)<=i then some (i+n).toNat else none
def atI {α:Type} (xs:List α) (i:Int):Option α:=(ixN xs.length i).bind fun j=>xs[j]?
theorem ku' {n:Nat} {i:Int} {j:Nat} (h:ixN n i=some j):seqIndex? i n=some j/\j<n/\-(n:Int)<=i/\i<n:=by
 unfold ixN at h
 by_cases h0:0<=i
 .rw[if_pos h0]at h
  by_cases h1:i<n
  .rw[if_pos h1]at h
   have e:i.toNat=j:=Option.some.inj h
   exact⟨by rw[seqIndex_of h0 h1,e],⋯,⋯,h1⟩
  .rw[if_neg h1]at h;cases h
 .rw[if_neg h0]at h
  by_cases h1:-(n:Int)<=i
  .rw[if_pos h1]at h
   have e:(i+n).toNat=j:=Option.some.inj h
   exact⟨by rw[seqIndex_neg ⋯ h1,e],⋯,h1,⋯⟩
  .rw[if_neg h1]at h;cases h
theorem hG' {α:Type} {xs:List α} {i:Int} {v:α} (h:atI xs i=some v):∃j,seqIndex? i xs.length=some j/\xs[j]?=some v/\j<xs.length/\-(xs.length:Int)<=i/\i<xs.length:=by
 unfold atI at h
 cases e:ixN xs.length i with
 |none=>rw[e]at h;cases h
 |some j=>
  rw[e]at h
  obtain⟨h1,h2,h3,h4⟩:=ku' e
  exact⟨j,h1,h,h2,h3,h4⟩
theorem do' {α:Type} {xs:List α} {j:Nat} {v:α} (h:xs[j]?=some v):atI xs (j:Int)=some v:=by
 have hj:j<xs.length:=(aN.mp h).1
 have e:ixN xs.length (j:Int)=some j:=by
  unfold ixN
  rw[if_pos ⋯,if_pos ⋯];simp
 unfold atI;rw[e];exact h
theorem iL' {α:Type} (xs:List α) (v:α):atI (xs++[v]) (-1)=some v:=by
 have hl:(xs++[v]).length=xs.length+1:=by simp
 have e:ixN (xs++[v]).length (-1)=some xs.length:=by
  unfold ixN
  rw[hl,if_neg (by decide),if_pos ⋯]
  congr 1
  omega
 unfold atI
 rw[e]
 show(xs++[v])[xs.length]?=some v
 simp
def kv' (b:Expr):Prop:=∀o i,subscripted b false o i=operate [o,i] (getItem o i)
def IxR (X:Cx) (r:R2):Prop:=
 ∀(value slice:Expr) (p_:List (Addr×Obj)) (s:Shared) (σ:St) (H:Hp) (x y:V) (v u:Value) (Q:VK),Inv X p_ σ H s->ax' x v->ax' y u->r x y H Q->
  subscripted slice false v u=operate [v,u] (getItem v u)->wpAny (model X.prog X.w) X.A (subscriptTail value slice v u) (EP X p_ σ Q) X.xe s
def MtR (X:Cx) (id:String) (r:V->List V->Hp->VK->Prop):Prop:=
 ∀(p_:List (Addr×Obj)) (s:Shared) (σ:St) (H:Hp) (x:V) (xs:List V) (v:Value) (us:List Value) (Q:VK),Inv X p_ σ H s->ax' x v->ay' xs us->r x xs H Q->
  wpAny (model X.prog X.w) X.A (call (.builtin id) (v :: us)) (EP X p_ σ Q) X.xe s
section
variable {X:Cx} {a b:Expr} {ta tb:TE} {pos:Pos}
theorem IxR.or {r r':R2} (h:IxR X r) (h':IxR X r'):IxR X (fun x y H Q=>r x y H Q\/r' x y H Q):=by
 intro value slice p_ s σ H x y v u Q I rx ry q hs
 rcases q with q|q
 .exact h value slice p_ s σ H x y v u Q I rx ry q hs
 .exact h' value slice p_ s σ H x y v u Q I rx ry q hs
theorem yK' {r:R2} (hr:IxR X r) (ha:PE X a ta) (hb:PE X b tb) (hs:kv' b):PE X (.Subscript a b pos) (tOp r ta tb):=by
 intro p_ s σ H Q I h
 exact Subscript_ (yx' ha hb I h fun v u s2 x y H2 I2 rx ry q=>hr a b p_ s2 σ H2 x y v u Q I2 rx ry q (hs _ _))
def hv' (K:W.Frag):R2:=fun x y H Q=>∃p xs i v,x=.ref p/\y=.int i/\SqL K H p xs/\atI xs i=some v/\Q v H
def hH' (K:W.Frag):R2:=fun x y H Q=>∃p xs i v,x=.ref p/\y=.int i/\SqT K H p xs/\atI xs i=some v/\Q v H
def AD':R2:=fun x y H Q=>∃z i c,x=.str z/\y=.int i/\z.length<=sizeLine/\atI z.cps.toList i=some c/\Q (.str ⟨#[c]⟩) H
theorem qZ':IxR X (hv' X.K):=by
 intro value slice p_ s σ H x y v u Q I rx ry h hs
 obtain⟨p,xs,i,z,rfl,rfl,hq,he,q⟩:=h
 cases rx
 obtain⟨t,rfl⟩:=ry
 obtain⟨its,r,pl,hz⟩:=I.list hq
 obtain⟨j,h1,h2,h3,h4,h5⟩:=hG' he
 obtain⟨w,ew,rw'⟩:=r.get h2
 have hl:=r.length
 have hn:=e1'
 have fin:EP X p_ σ Q w s:=⟨z,H,I,rw',q⟩
 by_cases h0:0<=i
 .have hj:i.toNat=j:=by
   rw[seqIndex_of h0 h5]at h1
   exact Option.some.inj h1
  exact item_listR pl.isList h0 ⋯ (by rw[hj];simpa using ew) fin hs
 .have hj:(i+(its.toArray.size:Int)).toNat=j:=by
   rw[seqIndex_neg ⋯ h4]at h1
   rw[ap,<- hl]
   exact Option.some.inj h1
  exact subscriptTail_builtinR (x:=w) pl.isList.typeIs slot_list_getitem.lookup
   (wpAny_getItem_list_neg (Q:=fun r s'=>r=w/\EP X p_ σ Q r s') pl.isList ⋯ (by rw[ap]<;>omega) ⋯ (by rw[hj];simpa using ew) ⟨rfl,fin⟩) hs
theorem uf':IxR X (hH' X.K):=by
 intro value slice p_ s σ H x y v u Q I rx ry h hs
 obtain⟨p,xs,i,z,rfl,rfl,hq,he,q⟩:=h
 cases rx
 obtain⟨t,rfl⟩:=ry
 obtain⟨its,r,pl,hz⟩:=I.tuple hq
 obtain⟨j,h1,h2,h3,h4,h5⟩:=hG' he
 obtain⟨w,ew,rw'⟩:=r.get h2
 have hl:=r.length
 have hn:=e1'
 have fin:EP X p_ σ Q w s:=⟨z,H,I,rw',q⟩
 exact subscriptTail_builtinR (x:=w) pl.typeIs slot_tuple_getitem.lookup
  (getItem_tuple (j:=j) (Q:=fun r s'=>r=w/\EP X p_ σ Q r s') pl ⋯ ⋯ (by rw[ap,<- hl];exact h1) (by simpa using ew) ⟨rfl,fin⟩) hs
theorem ug':IxR X AD':=by
 intro value slice p_ s σ H x y v u Q I rx ry h hs
 obtain⟨z,i,c,rfl,rfl,hz,he,q⟩:=h
 obtain⟨t,rfl⟩:=rx
 obtain⟨t',rfl⟩:=ry
 obtain⟨j,h1,h2,h3,h4,h5⟩:=hG' he
 have hl:z.cps.toList.length=z.length:=by simp[Str.length]
 rw[hl]at h1 h4 h5
 have hn:=e1'
 exact tail_any (typeIs_str s z t) slot_str_getitem.lookup (getItem_str (c:=c) (by
  have e1:decide (i < -(2 ^ 63:Int))=false:=decide_eq_false ⋯
  have e2:decide (i ≥ 2 ^ 63)=false:=decide_eq_false ⋯
  rw[e1,e2,Bool.or_false]) (by rw[h1];simpa using h2) ⟨.str ⟨#[c]⟩,H,I.tok _,⟨_,rfl⟩,q⟩) hs
def rIx (K:W.Frag):R2:=fun x y H Q=>hv' K x y H Q\/hH' K x y H Q\/AD' x y H Q
theorem uh':IxR X (rIx X.K):=qZ'.or (uf'.or ug')
theorem jx' (its:List Value) (n j:Nat) (u:Value):Obj.mapSeq (·.setIfInBounds j u) { cls:=.type "list",data:=.seq its.toArray n }={ cls:=.type "list",data:=.seq (its.set j u).toArray n }:=by
 simp[Obj.mapSeq]
theorem Inv.lst {p_:List (Addr×Obj)} {σ:St} {H:Hp} {s:Shared} {p:Addr} {xs:List V} (I:Inv X p_ σ H s) (h:H p=some (.lst xs)):
  ∃(its:List Value) (n:Nat),ay' xs its/\s.heap.get? p=some { cls:=.type "list",data:=.seq its.toArray n }/\xs.length<=sizeLine:=by
 obtain⟨z,its,n,r,e⟩:=I.hok p _ h
 exact⟨its,n,r,e,z⟩
theorem Inv.lstUpd {p_:List (Addr×Obj)} {σ:St} {H:Hp} {s:Shared} {p:Addr} {xs ys:List V} {its its':List Value} {n n':Nat} {f:Obj->Obj} (I:Inv X p_ σ H s) (h:H p=some (.lst xs))
  (ho:s.heap.get? p=some { cls:=.type "list",data:=.seq its.toArray n }) (hf:f { cls:=.type "list",data:=.seq its.toArray n }={ cls:=.type "list",data:=.seq its'.toArray n' }) (r:ay' ys its') (hz:ys.length<=sizeLine) (t:Nat):
  Inv X p_ σ (upd H p (.lst ys)) { s with heap:=s.heap.update p f,toks:=t }:=by
 have e:(s.heap.update p f).get? p=some { cls:=.type "list",data:=.seq its'.toArray n' }:=by
  rw[aP f ho (by rw[hf]<;>rfl),hf]
 refine I.write (x:=p) (e:=p) (by rw[h];trivial) (.inl rfl) (fun b u hb q=>(cZ _ _ (Ne.symm hb)).trans q) ⟨_,e⟩ ?_
 exact⟨hz,its',n',r,e⟩
def eK':V->V->V->Hp->(Hp->Prop)->Prop:=fun o i v H Q=>∃p xs k j,o=.ref p/\i=.int k/\H p=some (.lst xs)/\ixN xs.length k=some j/\Q (upd H p (.lst (xs.set j v)))
theorem nx':AB' X eK':=by
 intro p_ s σ H o i v ov iv u Q I ro ri rv h
 obtain⟨p,xs,k,j,rfl,rfl,hp,hj,q⟩:=h
 cases ro
 obtain⟨t,rfl⟩:=ri
 obtain⟨its,n,r,ho,hz⟩:=I.lst hp
 obtain⟨h1,h2,h3,h4⟩:=ku' hj
 have hl:=r.length
 have hn:=e1'
 have I':Inv X p_ σ (upd H p (.lst (xs.set j v))) { s with heap:=s.heap.update p (Obj.mapSeq (·.setIfInBounds j u)) }:=
  I.lstUpd hp ho (jx' its n j u) (r.set rv j) (by rw[List.length_set];exact hz) s.toks
 by_cases h0:0<=k
 .have hk:k.toNat=j:=by
   rw[seqIndex_of h0 h4]at h1
   exact Option.some.inj h1
  exact W.ki_setAt ho h0 ⋯ (by rw[ap,<- hl];exact h4) (by rw[hk];exact⟨_,I',q⟩)
 .have hk:(k+(its.toArray.size:Int)).toNat=j:=by
   rw[seqIndex_neg ⋯ h3]at h1
   rw[ap,<- hl]
   exact Option.some.inj h1
  exact W.ki_setBack ho ⋯ (by rw[ap,<- hl];exact h3) ⋯ (by rw[hk];exact⟨_,I',q⟩)
theorem gg' (lo hi:Option Int) (n:Nat):(sliceBounds lo hi none n).1=((HT.sIx n 0 lo:Nat):Int)/\(sliceBounds lo hi none n).2.1=((HT.sIx n n hi:Nat):Int)/\(sliceBounds lo hi none n).2.2=1:=by
 refine⟨?_,?_,rfl⟩
 .cases lo with
  |none=>simp[sliceBounds,HT.sIx]
  |some i=>
   simp only[sliceBounds,HT.sIx,Option.getD_none,show(1:Int) > 0 by decide,if_true]
   by_cases h:i<0
   .simp only[h,if_true]<;>omega
   .simp only[h,if_false]<;>omega
 .cases hi with
  |none=>simp[sliceBounds,HT.sIx]
  |some i=>
   simp only[sliceBounds,HT.sIx,Option.getD_none,show(1:Int) > 0 by decide,if_true]
   by_cases h:i<0
   .simp only[h,if_true]<;>omega
   .simp only[h,if_false]<;>omega
theorem fo' (its:List Value) (lo hi:Option Int):slicePick its.toArray lo hi none=((its.drop (HT.sIx its.length 0 lo)).take (HT.sIx its.length its.length hi-HT.sIx its.length 0 lo)).toArray:=by
 obtain⟨h1,h2,h3⟩:=gg' lo hi its.toArray.size
 unfold slicePick
 rw[h1,h2,h3]
 simp only[sliceRange_one,pick_run,ap]<;>rfl
def x0' (K:W.Frag):V->Option Int->Option Int->Hp->VK->Prop:=fun x lo hi H Q=>∃a xs,x=.ref a/\SqL K H a xs/\∀p,H p=none->Q (.ref p) (upd H p (.lst (pE' xs lo hi)))
theorem q0':SlR X (x0' X.K):=by
 intro p_ s σ H x v vl vu lo hi sl Q I rx hs pl pu h
 obtain⟨a,xs,rfl,hx,q⟩:=h
 cases rx
 obtain⟨its,r,ht,hz⟩:=I.list hx
 have hlen:=r.length
 refine⟨"list",_,slot_list_getitem.lookup,ht.isList.typeIs,?_⟩
 refine wpAny_getItem_list_slice ht.isList hs pl pu .none (by simp) ?_ (by rw[ap]<;>omega)
 rw[fo',<- hlen]
 refine⟨.ref s.heap.objs.size,_,I.laid (t':=s.toks) (o:=.lst (pE' xs lo hi)) (fun b ob q=>af _ q) (ag _) ?_,rfl,q _ (I.hok.fresh (ag _))⟩
 exact⟨aF (dW' xs lo hi) hz,_,0,(r.drop (HT.sIx xs.length 0 lo)).take (HT.sIx xs.length xs.length hi-HT.sIx xs.length 0 lo),al _ rfl⟩
def gh':V->Bool
 | .non=>true
 | .bl _=>true
 | .int _=>true
 | .str _=>true
 |_=>false
def eqV:V->V->Bool
 | .non,.non=>true
 | .bl a,.bl b=>a == b
 | .bl a,.int b=>(if a then 1 else 0) == b
 | .int a,.bl b=>a == (if b then 1 else 0)
 | .int a,.int b=>a == b
 | .str a,.str b=>a == b
 |_,_=>false
theorem ui' {A:Around} {s:Shared} {y x:V} {u v:Value} (ry:ax' y u) (rx:ax' x v) (fy:gh' y=true) (fx:gh' x=true):SeqAt.EqAt A s u v (eqV y x):=by
 cases y with
 |non=>
  cases ry
  cases x with
  |non=>cases rx;exact SeqAt.EqAt.same _
  |bl b=>cases rx;exact SeqAt.EqAt.none_bool b
  |int b=>obtain⟨t,rfl⟩:=rx;exact SeqAt.EqAt.none_int b t
  |str b=>obtain⟨t,rfl⟩:=rx;exact SeqAt.EqAt.none_str b t
  |_=>exact absurd (show false=true from fx) ak
 |bl a=>
  cases ry
  cases x with
  |non=>cases rx;exact SeqAt.EqAt.bool_none a
  |bl b=>cases rx;exact SeqAt.EqAt.bool_bool a b
  |int b=>obtain⟨t,rfl⟩:=rx;exact SeqAt.EqAt.bool_int a b t
  |str b=>obtain⟨t,rfl⟩:=rx;exact SeqAt.EqAt.bool_str a b t
  |_=>exact absurd (show false=true from fx) ak
 |int a=>
  obtain⟨t',rfl⟩:=ry
  cases x with
  |non=>cases rx;exact SeqAt.EqAt.int_none a t'
  |bl b=>cases rx;exact SeqAt.EqAt.int_bool a t' b
  |int b=>obtain⟨t,rfl⟩:=rx;exact SeqAt.EqAt.int_int a t' b t
  |str b=>obtain⟨t,rfl⟩:=rx;exact SeqAt.EqAt.int_str a t' b t
  |_=>exact absurd (show false=true from fx) ak
 |str a=>
  obtain⟨t',rfl⟩:=ry
  cases x with
  |non=>cases rx;exact SeqAt.EqAt.str_none a t'
  |bl b=>cases rx;exact SeqAt.EqAt.str_bool a t' b
  |int b=>obtain⟨t,rfl⟩:=rx;exact SeqAt.EqAt.str_int a t' b t
  |str b=>obtain⟨t,rfl⟩:=rx;exact SeqAt.EqAt.str_str a t' b t
  |_=>exact absurd (show false=true from fx) ak
 |_=>exact absurd (show false=true from fy) ak
def eqU (x:V) (u:Value):Bool:=match u with
 | .none=>eqV .non x
 | .bool b=>eqV (.bl b) x
 | .int i _=>eqV (.int i) x
 | .str z _=>eqV (.str z) x
 |_=>false
theorem pF' {x y:V} {u:Value} (r:ax' y u) (f:gh' y=true):eqU x u=eqV y x:=by
 cases y with
 |non=>cases r;rfl
 |bl b=>cases r;rfl
 |int i=>obtain⟨t,rfl⟩:=r;rfl
 |str z=>obtain⟨t,rfl⟩:=r;rfl
 |_=>exact absurd (show false=true from f) ak
theorem dX' {x:V}:∀{xs:List V} {us:List Value},ay' xs us->xs.all gh'=true->us.any (eqU x)=xs.any fun y=>eqV y x
 |_,_,.nil,_=>rfl
 |y :: xs,u :: us,.cons r t,f=>by
  rw[List.all_cons,ah]at f
  rw[List.any_cons,List.any_cons,pF' r f.1,dX' t f.2]
theorem cS' {A:Around} {s:Shared} {x:V} {v:Value} (rx:ax' x v) (fx:gh' x=true):∀{xs:List V} {us:List Value},ay' xs us->xs.all gh'=true->∀u∈us,SeqAt.EqAt A s u v (eqU x u)
 |_,_,.nil,_=>fun u hu=>by cases hu
 |y :: xs,u :: us,.cons r t,f=>fun u' hu=>by
  rw[List.all_cons,ah]at f
  rcases ay.mp hu with rfl|hu
  .rw[pF' r f.1];exact ui' r rx f.1 fx
  .exact cS' rx fx t f.2 u' hu
def inV (x:V) (xs:List V):Bool:=xs.any fun y=>eqV y x
def rIn (K:W.Frag) (neg:Bool):R2:=fun x y H Q=>∃p xs,y=.ref p/\(SqL K H p xs\/SqT K H p xs)/\gh' x=true/\xs.all gh'=true/\Q (.bl (if neg then !inV x xs else inV x xs)) H
theorem kw':OpR X (compareOp .In) (rIn X.K false):=by
 intro p_ s σ H x y v u Q I rx ry h
 obtain⟨p,xs,rfl,hq,fx,fs,q⟩:=h
 cases ry
 rcases hq with hq|hq
 .obtain⟨its,r,pl,hz⟩:=I.list hq
  refine SeqAt.in_listAt (eqU x) pl.isList (fun w hw=>cS' rx fx r fs w (by simpa using hw)) ⟨.bl _,H,I,rfl,?_⟩
  rw[show its.toArray.any (eqU x)=its.any (eqU x) by simp,dX' r fs]
  exact q
 .obtain⟨its,r,pl,hz⟩:=I.tuple hq
  refine SeqAt.in_tupleAt (eqU x) pl (fun w hw=>cS' rx fx r fs w (by simpa using hw)) ⟨.bl _,H,I,rfl,?_⟩
  rw[show its.toArray.any (eqU x)=its.any (eqU x) by simp,dX' r fs]
  exact q
theorem gi':OpR X (compareOp .NotIn) (rIn X.K true):=by
 intro p_ s σ H x y v u Q I rx ry h
 obtain⟨p,xs,rfl,hq,fx,fs,q⟩:=h
 cases ry
 rcases hq with hq|hq
 .obtain⟨its,r,pl,hz⟩:=I.list hq
  refine SeqAt.notIn_listAt (eqU x) pl.isList (fun w hw=>cS' rx fx r fs w (by simpa using hw)) ⟨.bl _,H,I,rfl,?_⟩
  rw[show its.toArray.any (eqU x)=its.any (eqU x) by simp,dX' r fs]
  exact q
 .obtain⟨its,r,pl,hz⟩:=I.tuple hq
  refine SeqAt.notIn_tupleAt (eqU x) pl (fun w hw=>cS' rx fx r fs w (by simpa using hw)) ⟨.bl _,H,I,rfl,?_⟩
  rw[show its.toArray.any (eqU x)=its.any (eqU x) by simp,dX' r fs]
  exact q
theorem aP'.or {f:Value} {r r':List V->Hp->VK->Prop} (h:aP' X f r) (h':aP' X f r'):aP' X f (fun xs H Q=>r xs H Q\/r' xs H Q):=by
 intro p_ s σ H xs us Q I rs q
 rcases q with q|q
 .exact h p_ s σ H xs us Q I rs q
 .exact h' p_ s σ H xs us Q I rs q
theorem gj':aP' X (.type "list") (fun xs H Q=>∃p ys,xs=[.ref p]/\(SqL X.K H p ys\/SqT X.K H p ys)/\∀l,H l=none->Q (.ref l) (upd H l (.lst ys))):=by
 intro p_ s σ H xs us Q I r h
 obtain⟨p,ys,rfl,hq,q⟩:=h
 obtain⟨u,rfl,rx⟩:=dl' r
 cases rx
 have fin:∀(its:List Value),ay' ys its->ys.length<=sizeLine->∀(h':Heap) (c':Nat),(∀b o',s.heap.get? b=some o'->h'.get? b=some o')->
   h'.get? s.heap.objs.size=some { cls:=.type "list",dict:=none,data:=.seq its.toArray c',slots:=#[] }->EP X p_ σ Q (.ref s.heap.objs.size) { s with heap:=h' }:=fun its r' hz h' c' kp e=>
  ⟨.ref s.heap.objs.size,_,I.laid (t':=s.toks) kp (ag _) (show aA' X.prog X.w _ h' _ (.lst ys) from⟨hz,its,c',r',e⟩),rfl,q _ (I.hok.fresh (ag _))⟩
 rcases hq with hq|hq
 .obtain⟨its,r',pl,hz⟩:=I.list hq
  have hlen:=r'.length
  obtain⟨o,ho,hc,n,hd⟩:=pl.isList
  exact call_list_seq p (.inl rfl) ho hc hd (fun h' c' kp e=>fin its r' hz h' c' kp e) (by simp only[ap]<;>omega)
 .obtain⟨its,r',pl,hz⟩:=I.tuple hq
  have hlen:=r'.length
  obtain⟨o,ho,hc,n,hd⟩:=pl
  exact call_list_seq p (.inr rfl) ho hc hd (fun h' c' kp e=>fin its r' hz h' c' kp e) (by simp only[ap]<;>omega)
theorem fp':aP' X (.type "tuple") (fun xs H Q=>∃p ys,xs=[.ref p]/\((SqL X.K H p ys/\∀l,H l=none->Q (.ref l) (upd H l (.tup ys)))\/(SqT X.K H p ys/\Q (.ref p) H))):=by
 intro p_ s σ H xs us Q I r h
 obtain⟨p,ys,rfl,h⟩:=h
 obtain⟨u,rfl,rx⟩:=dl' r
 cases rx
 rcases h with⟨hq,q⟩|⟨hq,q⟩
 .obtain⟨its,r',pl,hz⟩:=I.list hq
  have hlen:=r'.length
  refine call_tuple_list pl.isList (fun h' kp=>?_) (by simp only[ap]<;>omega)
  have I1:Inv X p_ σ H { s with heap:=h' }:=I.kept (t':=s.toks) kp
  have I2:Inv X p_ σ (upd H h'.objs.size (.tup ys)) { s with heap:=h'.push { cls:=.type "tuple",data:=.seq its.toArray } }:=
   I1.laid (t':=s.toks) (fun b o e=>af _ e) (ag _) (show aA' X.prog X.w _ _ _ (.tup ys) from⟨hz,its,r',ng'.new _ _⟩)
  exact⟨.ref h'.objs.size,_,I2,rfl,q _ (I1.hok.fresh (ag _))⟩
 .obtain⟨its,r',pl,hz⟩:=I.tuple hq
  exact call_tuple_same pl ⟨.ref p,H,I,rfl,q⟩
def tyV (K:W.Frag) (T:String) (x:V) (H:Hp):Prop:=match x with
 | .str _=>T="str"
 | .int _=>T="int"
 | .ref p=>(T="list"/\∃xs,SqL K H p xs)\/(T="tuple"/\((∃o,K.lookup p=some o/\o.cls=.type "tuple"/\o.dict=none)\/∃xs,H p=some (.tup xs)))\/
   (T="dict"/\((∃kvs,H p=some (.dK kvs))\/∃kvs,H p=some (.dT kvs)))\/(T="set"/\∃S n,H p=some (.set S n))
 |_=>False
theorem pG' {p_:List (Addr×Obj)} {σ:St} {H:Hp} {s:Shared} {T:String} {x:V} {v:Value} (I:Inv X p_ σ H s) (r:ax' x v) (ty:tyV X.K T x H):
  s.TypeIs v T/\∀a,v=.ref a->∃ob,s.heap.get? a=some ob/\ob.dict=none:=by
 cases x with
 |str z=>
  obtain⟨t,rfl⟩:=r
  cases(show T="str" from ty)
  exact⟨typeIs_str s z t,fun _ e=>nomatch e⟩
 |int i=>
  obtain⟨t,rfl⟩:=r
  cases(show T="int" from ty)
  exact⟨typeIs_int s i t,fun _ e=>nomatch e⟩
 |ref p=>
  cases r
  rcases ty with⟨rfl,xs,hq⟩|⟨rfl,⟨o,hk,hc,hd⟩|⟨xs,hk⟩⟩|⟨rfl,hk⟩|⟨rfl,S,n,hk⟩
  .obtain⟨its,_,pl,_⟩:=I.list hq
   refine⟨pl.isList.typeIs,fun a e=>?_⟩
   cases e
   obtain⟨o,n,e,c,hd,_⟩:=pl
   exact⟨o,e,hd⟩
  .refine⟨⟨o,I.kIn p o hk,hc⟩,fun a e=>?_⟩
   cases e
   exact⟨o,I.kIn _ o hk,hd⟩
  .obtain⟨_,_,_,o,e,c,_,hd⟩:=I.hok p _ hk
   refine⟨⟨o,e,c⟩,fun a e2=>?_⟩
   cases e2
   exact⟨o,e,hd⟩
  .have z:∃o,s.heap.get? p=some o/\o.ExactDict:=by
    rcases hk with⟨kvs,hk⟩|⟨kvs,hk⟩
    .obtain⟨_,_,_,_,o,_,_,e,ex,_⟩:=I.hok p _ hk
     exact⟨o,e,ex⟩
    .obtain⟨_,_,_,_,o,_,_,e,ex,_⟩:=I.hok p _ hk
     exact⟨o,e,ex⟩
   obtain⟨o,e,ex⟩:=z
   refine⟨⟨o,e,ex.1⟩,fun a e2=>?_⟩
   cases e2
   exact⟨o,e,ex.2.1⟩
  .obtain⟨o,_,_,_,e,ex,_⟩:=I.hok p _ hk
   refine⟨⟨o,e,ex.1⟩,fun a e2=>?_⟩
   cases e2
   exact⟨o,e,ex.2.1⟩
 |_=>exact False.elim ty
def Br' (K:W.Frag) (T:String) (r:V->List V->Hp->VK->Prop) (to:TE):TE:=fun σ H Q=>to σ H fun x H1=>tyV K T x H1/\r x [] H1 Q
def tBM (K:W.Frag) (T:String) (r:V->List V->Hp->VK->Prop) (to:TE) (t:TA):TE:=fun σ H Q=>to σ H fun x H1=>tyV K T x H1/\t σ H1 fun xs H2=>r x xs H2 Q
variable {o e:Expr} {es:List Expr} {to:TE} {t:TA} {name:Str} {apos cpos:Pos} {T id:String} {r:V->List V->Hp->VK->Prop}
theorem uj' (pa:PlainAttrs T) (slot:Slot T name id) (hty:typeOf (.builtin id)=pure (.type "method_descriptor")) (hm:MtR X id r) (ho:PE X o to)
  (hbase:attributeBase o name X.env (eval o X.env)=eval o X.env:=by rfl) (hline:(apos.endLine == cpos.line)=true:=by rfl):PE X (.Call (.Attribute o name apos) [] [] cpos) (Br' X.K T r to):=by
 intro p_ s σ H Q I h
 refine wpAny_Call_method0_late hbase hline (thn (ho p_ s σ H _ I h) fun v s1 ⟨x,H1,I1,r1,ty,q1⟩=>?_)
 obtain⟨h1,h2⟩:=pG' I1 r1 ty
 exact⟨T,id,pa,slot,hty,h1,h2,Calls.callWith_builtin rfl (PySem.evalArgs_none (hm p_ s1 σ H1 x [] v [] Q I1 r1 .nil q1))⟩
theorem yL' (pa:PlainAttrs T) (slot:Slot T name id) (hty:typeOf (.builtin id)=pure (.type "method_descriptor")) (hm:MtR X id r) (ho:PE X o to) (ha:PA X (e :: es) t)
  (hbase:attributeBase o name X.env (eval o X.env)=eval o X.env:=by rfl)
  (hfew:((backTo cpos (starEach (e :: es) X.env)).all (fun x=>!x.1)&&(backToKw cpos (keywordEach [] X.env)).all (fun x=>x.1.isSome)
   && decide ((e :: es).length+([]:List Keyword).length+(if([]:List Keyword).isEmpty then 0 else 1)<30))=true:=by rfl)
  (hline:(apos.endLine == cpos.line)=true:=by rfl) (hs:starEach (e :: es) X.env=(false,eval e X.env) :: starEach es X.env:=by rfl) (hplain:(backTo cpos (starEach es X.env)).any (·.1)=false:=by rfl):
  PE X (.Call (.Attribute o name apos) (e :: es) [] cpos) (tBM X.K T r to t):=by
 intro p_ s σ H Q I h
 refine wpAny_Call_method_late hbase hfew hline rfl (thn (ho p_ s σ H _ I h) fun v s1 ⟨x,H1,I1,r1,ty,q1⟩=>?_)
 obtain⟨h1,h2⟩:=pG' I1 r1 ty
 refine⟨T,id,pa,slot,hty,h1,h2,?_⟩
 have hA:=ha cpos p_ s1 σ H1 _ I1 q1
 rw[hs]at hA ⊢
 refine Calls.callWith_builtin (by show(false || (backTo cpos (starEach es X.env)).any (·.1))=false;rw[hplain]<;>rfl) (Calls.evalArgs_plain ?_)
 exact thn hA fun us s2 ⟨vs,H2,I2,r2,q2⟩=>hm p_ s2 σ H2 x vs v us Q I2 r1 r2 q2
end
def MtM (X:Cx) (id:String) (r:V->List V->Hp->VK->Prop):Prop:=
 ∀(p_:List (Addr×Obj)) (s:Shared) (σ:St) (H:Hp) (x:V) (xs:List V) (v:Value) (us:List Value) (Q:VK),Inv X p_ σ H s->ax' x v->ay' xs us->r x xs H Q->
  wpAny (model X.prog X.w) X.A (call (.builtin id) (v :: us)) (EP X p_ σ Q) X.xe s
theorem ay'.one:∀{x:V} {us:List Value},ay' [x] us->∃u,us=[u]/\ax' x u
 |_,_,.cons r .nil=>⟨_,rfl,r⟩
theorem ay'.zero:∀{us:List Value},ay' [] us->us=[]
 |_,.nil=>rfl
theorem ay'.reverse {xs:List V} {us:List Value} (h:ay' xs us):ay' xs.reverse us.reverse:=by
 induction h with
 |nil=>exact .nil
 |cons r t ih=>rw[List.reverse_cons,List.reverse_cons];exact ay'.append ih (.cons r .nil)
theorem ay'.rep {xs:List V} {us:List Value} (h:ay' xs us):∀k:Nat,ay' (av k xs).flatten (av k us).flatten
 |0=>.nil
 |k+1=>by
  rw[bw,bw,bZ,bZ]
  exact ay'.append h (ay'.rep h k)
theorem gk' (its:List Value):∀(k:Nat) (acc:List Value),
  List.foldl (fun x1 x2=>x1++x2) acc.toArray (av k its.toArray)=(acc++(av k its).flatten).toArray
 |0,acc=>by simp
 |k+1,acc=>by
  have e:acc.toArray++its.toArray=(acc++its).toArray:=by simp
  have e2:(acc++its)++(av k its).flatten=acc++(av (k+1) its).flatten:=by
   rw[bw,bZ,aD]
  rw[<- e2,<- gk' its k (acc++its),<- e,bw,List.foldl_cons]
section
variable {X:Cx} {p_:List (Addr×Obj)} {σ:St} {H:Hp} {s:Shared} {l b:Addr} {xs ys zs:List V}
theorem Inv.lset {its its':List Value} {n:Nat} {f:Array Value->Array Value} {t':Nat} (I:Inv X p_ σ H s) (hH:H l=some (.lst xs))
  (e:s.heap.get? l=some { cls:=.type "list",data:=.seq its.toArray n }) (hf:f its.toArray=its'.toArray) (hv:ay' ys its') (hz:ys.length<=sizeLine):
  Inv X p_ σ (upd H l (.lst ys)) { s with heap:=s.heap.update l (Obj.mapSeq f),toks:=t' }:=by
 have q:=PySem.IsL.update e f
 rw[hf]at q
 refine I.write (x:=l) (e:=l) (by rw[hH];exact trivial) (.inl rfl) (fun b' u hb hu=>(cZ s.heap (Obj.mapSeq f) (Ne.symm hb)).trans hu) ⟨_,q⟩ ?_
 exact⟨hz,its',_,hv,q⟩
theorem Inv.lnew {its:List Value} {t':Nat} (I:Inv X p_ σ H s) (hv:ay' ys its) (hz:ys.length<=sizeLine):
  Inv X p_ σ (upd H s.heap.objs.size (.lst ys)) { s with heap:=s.heap.push { cls:=.type "list",data:=.seq its.toArray },toks:=t' }:=
 I.laid (fun _ _ q=>af _ q) (ag _) ⟨hz,its,0,hv,al _ rfl⟩
theorem Inv.fresh (I:Inv X p_ σ H s):H s.heap.objs.size=none:=I.hok.fresh (ag _)
theorem Inv.lstM (I:Inv X p_ σ H s) (hH:H l=some (.lst xs)):xs.length<=sizeLine/\∃(its:List Value) (n:Nat),ay' xs its/\xs.length=its.length/\s.heap.get? l=some { cls:=.type "list",data:=.seq its.toArray n }:=by
 obtain⟨z,its,n,r,e⟩:=I.hok l _ hH
 exact⟨z,its,n,r,r.length,e⟩
theorem ny' {n:Nat} (h:n<=sizeLine):Builtin.List.listTooLong n=false:=by
 unfold Builtin.List.listTooLong
 exact decide_eq_false ⋯
end
section
variable {X:Cx}
def kx':V->List V->Hp->VK->Prop:=fun x vs H Q=>∃l xs y,x=.ref l/\vs=[y]/\H l=some (.lst xs)/\xs.length<sizeLine/\Q .non (upd H l (.lst (xs++[y])))
theorem ky':MtM X "list.append" kx':=by
 intro p_ s σ H x vs v us Q I rx rv h
 obtain⟨l,xs,y,rfl,rfl,hH,hz,q⟩:=h
 cases rx
 obtain⟨u,rfl,ru⟩:=rv.one
 obtain⟨z,its,n,r,hl,e⟩:=I.lstM hH
 refine call_meets F.slot_list_append ⟨_,e,rfl⟩ F.entry_list_append (F.args_list_append_2 _ _) (PySem.list_append l its.toArray n u (by rw[ap];omega)) ⟨e,?_⟩
 refine⟨.non,_,I.lset (its':=its++[u]) hH e (by simp) (r.append (.cons ru .nil)) ?_,rfl,q⟩
 rw[ax,cq]
 omega
def AE':R2:=fun x y H Q=>∃l b xs zs,x=.ref l/\y=.ref b/\H l=some (.lst xs)/\H b=some (.lst zs)/\xs.length+zs.length<=sizeLine/\∀p,H p=none->Q (.ref p) (upd H p (.lst (xs++zs)))
theorem uk':OpR X (binaryOp .Add) AE':=by
 intro p_ s σ H x y v u Q I rx ry h
 obtain⟨l,b,xs,zs,rfl,rfl,hH,hB,hz,q⟩:=h
 cases rx
 cases ry
 obtain⟨z,its,n,r,hl,e⟩:=I.lstM hH
 obtain⟨z2,its2,n2,r2,hl2,e2⟩:=I.lstM hB
 refine PySem.P.add_list e e2 ?_ (by rw[ap,ap];omega)
 have ea:its.toArray++its2.toArray=(its++its2).toArray:=by simp
 rw[ea]
 exact⟨.ref _,_,I.lnew (t':=s.toks) (r.append r2) (by rw[ax];omega),rfl,q _ I.fresh⟩
def AF':R2:=fun x y H Q=>∃l k xs,x=.ref l/\y=.int k/\H l=some (.lst xs)/\-(2 ^ 63)<=k/\k<2 ^ 63/\xs.length*k.toNat<=sizeLine/\
 ∀p,H p=none->Q (.ref p) (upd H p (.lst (av k.toNat xs).flatten))
theorem q1' {α:Type} (xs:List α) (k:Nat):(av k xs).flatten.length=k*xs.length:=by
 induction k with
 |zero=>simp
 |succ k ih=>rw[bw,bZ,ax,ih,Nat.succ_mul,Nat.add_comm]
theorem ul':OpR X (binaryOp .Mult) AF':=by
 intro p_ s σ H x y v u Q I rx ry h
 obtain⟨l,k,xs,rfl,rfl,hH,h1,h2,hz,q⟩:=h
 cases rx
 obtain⟨t,rfl⟩:=ry
 obtain⟨z,its,n,r,hl,e⟩:=I.lstM hH
 have hlen:its.toArray.size*k.toNat<=sizeLine:=by rw[ap,<- hl];exact hz
 have hcap:¬its.toArray.size*k.toNat > (2 ^ 63-1) / 8:=by
  have:(sizeLine:Nat)<=(2 ^ 63-1) / 8:=by decide
  omega
 have hfit:¬(!Builtin.List.listFitsIndex k)=true:=by
  rw[fitsIndex_both h1 h2]
  exact ak
 have hlong:¬Builtin.List.listTooLong (its.toArray.size*k.toNat)=true:=by
  rw[ny' hlen]
  exact ak
 have hnew:List.foldl (fun x1 x2=>x1++x2) #[] (av (if its.toArray.isEmpty=true then 0 else k.toNat) its.toArray)=(av k.toNat its).flatten.toArray:=by
  have f0:∀m:Nat,List.foldl (fun x1 x2=>x1++x2) #[] (av m its.toArray)=(av m its).flatten.toArray:=fun m=>by
   have:=gk' its m []
   rw[cQ]at this
   exact this
  rw[f0]
  cases its with
  |nil=>simp
  |cons a r'=>rw[if_neg (by simp)]
 refine wpAny_binaryOp_repeat_ref (T:="list") (U:="int") (by decide) ⟨_,e,rfl⟩ (fun s'=>typeIs_int s' k t) noFill_list_mul F.fills_int_mul F.slot_int_rmul repeat_list F.slot_int_index.lookup
  (call_meets F.slot_int_rmul (typeIs_int s k t) F.entry_int_rmul (F.args_int_rmul_2 _ _) (int___rmul___int_list k t l its.toArray n)
   ⟨e,rfl,⟨_,e,rfl⟩,call_meets F.slot_list_mul ⟨_,e,rfl⟩ F.entry_list_mul (F.args_list_mul_2 _ _) (AutoListH.list___mul___list_int_3 l its.toArray n k t hfit hcap hlong) ⟨e,?_⟩⟩)
 rw[hnew]
 exact⟨.ref _,_,I.lnew (t':=s.toks) (r.rep k.toNat) (by rw[q1',dy];exact hz),rfl,q _ I.fresh⟩
end
end L2
namespace Att
open PySem PySem.W PySem.Calls PyProof.Rows
theorem dY' {P:Params} {h:Heap}:∀(ns:List Int) (vs:List Value),WellAll P h vs (ns.map WData.int)->IntsAre vs ns:=by
 intro ns
 induction ns with
 |nil=>
  intro vs w
  rw[List.map_nil]at w
  cases w
  exact .nil
 |cons n ns ih=>
  intro vs w
  rw[aS]at w
  cases w with
  |cons a b=>
   cases a
   exact .cons _ _ (ih _ b)
theorem kz' {l:OpenLaw} {n:Nat} (hn:l.most=some n) {P:Params} {h:Heap} {args:List WData} {vals:List Value}
  (hpre:l.row.toRowW.claim.pre args=true) (hwl:WellAll P h vals args):
  ∃a vs ns,vals=[Value.ref a]/\args=[WData.list (ns.map WData.int)]/\h.get? a=some { cls:=.type "list",data:=.seq vs.toArray }/\IntsAre vs ns/\ns.length<=n:=by
 have hsh:WShape.hasAll [] args [.list .int]=true:=(pre_splitW hpre).1
 have hc:l.pre.holds [] { args:=args }=true:=(pre_splitW hpre).2
 obtain⟨d,r,rfl,h1,h2⟩:=hasAllW_cons hsh
 obtain rfl:=hasAllW_nil h2
 obtain⟨xs,rfl,h3⟩:=hasW_list h1
 obtain⟨ns,rfl⟩:=items_int h3
 have hlen:ns.length<=n:=by
  unfold OpenLaw.pre at hc
  have h4:(WTm.not (.lt (.lit (.int (n:Int))) (.len (.arg 0)))).holds [] { args:=[.list (ns.map .int)] }=true:=by
   have h4:=(holds_andW hc).1
   rw[hn]at h4
   exact h4
  have h5:=condW_of h4 (w_not (w_lt w_lit (w_len_list (w_arg rfl))))
  rw[ac]at h5
  refine cE fun q=>?_
  have q':(n:Int)<((ns.length:Nat):Int):=by omega
  first
   |(rw[decide_eq_true q']at h5;exact absurd h5 (by decide))
   |(simp at h5;omega)
 cases hwl with
 |cons w1 w2=>
  cases w2
  cases w1 with
  |list ho hall=>exact⟨_,_,ns,rfl,rfl,ho,dY' ns _ hall,hlen⟩
theorem kA' (l:OpenLaw) (args:List WData):l.row.toRowW.claim.post args (.bool true) args=true:=
 postW_of (r:=l.row.toRowW) (X:=(true == true))
  (show WShape.has [] (.bool true) .bool=true by first|rfl|decide|simp[WShape.has,WShape.arms,WShape.armsAll])
  (show(WTm.eq .res (.lit (.bool true))).value [] { args:=args,res:=some (.bool true),after:=args }=some (.bool (true == true)) from w_eq_bool (w_res rfl) w_lit) rfl
theorem hI' {l:OpenLaw} {n:Nat} {q:Program} {loose:List Str} {XP:(Str->Option Value)->Heap->Prop} {YP:World->Heap->Prop} {d:DefRec}
  (hn:l.most=some n) (hdf:d.params.defaults=[])
  (call:∀(w:World) (s₀ s₁:Shared) (mg mb:Str->Option Value) (fa:Addr) (o:Obj) (pm cd doc:Value) (a:Addr) (vs:List Value) (ns:List Int),
   Ground q loose [] XP w s₀ mg mb s₁.heap->YP w s₁.heap->
   s₁.heap.get? fa=some o->o.data=.func (docDef d.name d.params d.body d.scope pm cd doc)->s₁.heap.CodeRec cd d.name->mg d.name=some (.ref fa)->
   s₁.heap.get? a=some { cls:=.type "list",data:=.seq vs.toArray }->IntsAre vs ns->ns.length<=n->s₁.gens=#[]->
   codeAny (model l.prog w) callerA (.call (.ref fa) ⟨[.ref a],[]⟩) (fun r s'=>r=.ok (.ret (.bool true))/\OldK s₁.heap s'.heap/\s'.os=s₁.os/\AllBare s'.gens) s₁):
  WalkO q loose XP YP l.row.toRowW d [] (fun f vs=>PySem.call f vs):=by
 intro w s₀ s₁ mg mb G Y fa o pm cd doc dV kV ho hd hcd hD hmg hg args vals as hpre hlay hrd hwl hlo
 obtain rfl:dV=.none:=Dflts.none hD hdf
 obtain rfl:kV=.none:=Dflts.noKw hD
 obtain⟨a,vs,ns,rfl,rfl,hobj,hints,hlen⟩:=kz' hn hpre hwl
 refine enter_call (codeAny_mono (call w s₀ s₁ mg mb fa o pm cd doc a vs ns G Y ho (fd_plain hd) hcd hmg hobj hints hlen hg) fun r s' hq=>?_)
 obtain⟨rfl,h2,h3,h4⟩:=hq
 exact⟨.inl ⟨.bool true,.bool true,[],rfl,fun _=>rfl,.bool true,kA' l _,fun _=>⟨List.Pairwise.nil,fun _ hm=>(nomatch hm)⟩⟩,h2,h3,h4⟩
end Att
namespace L2
open PySem PySem.Spec PyProof.Rows
theorem gl':∀{vs:List Value} {ns:List Int},IntsAre vs ns->ay' (ns.map V.int) vs
 |_,_,.nil=>.nil
 |_,_,.cons n t h=>.cons ⟨t,rfl⟩ (gl' h)
def yM' (H:Hp):Prop:=∀b,H b=none\/∃o xs,H b=some (.frz o (.lst xs))
theorem nz' {P:Program} {w:World} {K:W.Frag} {mg mb:Str->Option Value} {CX:CXT} {k:Nat} {fa a:Addr} {fd:FuncData} {x:Str} {sp:Sp} {s₁:Shared} {vs:List Value} {ns:List Int}
  (KX:K.In s₁.heap) (hns:s₁.heap.Ns mainGlobals mg) (hb:s₁.heap.Ns builtinsNs mb) (hbb:∀x:Str,x≠"__name__"->mb x=bootBuiltins x) (hlim:s₁.heap.NoLimit) (hg:s₁.gens=#[])
  (ha:s₁.heap.get? a=some { cls:=.type "list",data:=.seq vs.toArray }) (hi:IntsAre vs ns) (hl:ns.length<=sizeLine) (hr:Room k callerA)
  (F:∀base:Heap,K.In base->base.Ns mainGlobals mg->FnOk P w K mg base CX k fa fd [x] sp) (hbind:∀(s:Shared) (u:Value),BindsTo s fd ⟨[u],[]⟩ [(x,u)])
  (hsp:∀H:Hp,yM' H->SqL K H a (ns.map V.int)->sp [.ref a] H (fun v _=>v=.bl true) fun _ _ _=>False)
  (hCX:∀H e s',CX [] H s₁ (fun _ _ _=>False) e s'->False):
  codeAny (model P w) callerA (.call (.ref fa) ⟨[.ref a],[]⟩) (fun r s'=>r=.ok (.ret (.bool true))/\OldK s₁.heap s'.heap/\s'.os=s₁.os/\AllBare s'.gens) s₁:=by
 have rv:=gl' hi
 have lenV:=hi.length
 have core:∀H:Hp,yM' H->SqL K H a (ns.map V.int)->HOk P w H s₁.heap->(∀b,H b≠none->b=a)->(H a≠none->K.lookup a=none)->
   codeAny (model P w) callerA (.call (.ref fa) ⟨[.ref a],[]⟩) (fun r s'=>r=.ok (.ret (.bool true))/\OldK s₁.heap s'.heap/\s'.os=s₁.os/\AllBare s'.gens) s₁:=by
  intro H hO hS hok hA hK
  have base_of:∀{b:Addr} {o:Obj},s₁.heap.get? b=some o->H b=none->(nh' s₁.heap H).get? b=some o:=fun e n=>ni' e n
  have noA:∀{b:Addr} {o:Obj} {es:Array DictEntry} {ep:Nat},s₁.heap.get? b=some o->o.data=.dict es ep->H b=none:=fun {b o es ep} e d=>by
   cases q:H b with
   |none=>rfl
   |some u=>
    have e':b=a:=hA b (by rw[q];simp)
    subst e'
    rw[ha]at e;cases e
    have d':Data.seq vs.toArray _=Data.dict es ep:=d
    cases d'
  have nsK:∀{b:Addr} {m:Str->Option Value},s₁.heap.Ns b m->(nh' s₁.heap H).Ns b m:=fun {b m} ⟨o,es,ep,e,d,r⟩=>⟨o,es,ep,base_of e (noA e d),d,r⟩
  have hKb:K.In (nh' s₁.heap H):=fun b o e=>base_of (KX b o e) (by
   cases q:H b with
   |none=>rfl
   |some u=>
    have e':b=a:=hA b (by rw[q];simp)
    subst e'
    rw[hK (by rw[q];simp)]at e;cases e)
  have hM:Mod K mg (nh' s₁.heap H):=⟨hKb,nsK hns,⟨mb,nsK hb,hbb⟩,let⟨mc,h1,h2⟩:=hlim;⟨mc,nsK h1,h2⟩⟩
  have e0:Env0 P w K mg (nh' s₁.heap H) callerA [] s₁ H:=⟨rfl,hM,fun b o e=>qD' e,Nat.le_of_eq (kd' _ _),trivial,fun b hb=>absurd (show b∈([]:List Addr) from hb) (by simp),hok,.of_eq hg⟩
  refine codeAny_mono ((F _ hKb (nsK hns)).run callerA [] s₁ H ⟨[.ref a],[]⟩ [.ref a] [.ref a] _ _ hr e0 (hbind s₁ (.ref a)) (.cons rfl .nil) (hsp H hO hS)) fun r s' h=>?_
  cases r with
  |error e=>exact(hCX H e s' h).elim
  |ok fl=>
   cases fl with
   |next=>exact False.elim h
   |brk=>exact False.elim h
   |cont=>exact False.elim h
   |ret u=>
    obtain⟨v,H',os,bare,un,hok',r',q⟩:=h
    have q':v=.bl true:=q
    subst q'
    obtain rfl:u=Value.bool true:=r'
    refine⟨rfl,OldK.of_keep fun b o e=>?_,os,bare⟩
    cases q:H b with
    |none=>exact un.keep b o e q (by intro z;exact absurd (show b∈([]:List Addr) from z) (by simp)) (by simp)
    |some u=>
     rcases hO b with z|⟨ob,xs,z⟩
     .rw[q]at z;cases z
     .have z2:=un.frzs b ob _ z
      obtain⟨e1,_⟩:=hok b _ z
      obtain⟨e2,_⟩:=hok' b _ z2
      rw[e]at e1;cases e1
      exact e2
 cases hk:K.lookup a with
 |some o=>
  have e:=KX a o hk
  rw[ha]at e
  cases e
  refine core (fun _=>none) (fun _=>.inl rfl) (.inr ⟨_,vs.toArray,_,hk,rfl,rfl,rfl,by rw[ap,lenV];exact hl,by simpa using rv⟩) (fun b u z=>by have z':(none:Option HO)=some u:=z;cases z') (fun b z=>absurd rfl z) fun z=>absurd rfl z
 |none=>
  refine core (fun b=>if b=a then some (.frz { cls:=.type "list",data:=.seq vs.toArray } (.lst (ns.map V.int)))else none) (fun b=>?_) (.inl (.inr ⟨{ cls:=.type "list",data:=.seq vs.toArray },if_pos rfl⟩)) (fun b u z=>?_) (fun b z=>?_) fun _=>hk
  .by_cases hb:b=a
   .exact .inr ⟨_,_,if_pos hb⟩
   .exact .inl (if_neg hb)
  .by_cases hb:b=a
   .have z':=(if_pos hb).symm.trans z
    cases z'
    subst hb
    exact⟨ha,by rw[ac];exact hl,vs,_,rv,ha⟩
   .have z':=(if_neg hb).symm.trans z
    cases z'
  .by_cases hb:b=a
   .exact hb
   .exact absurd (if_neg hb) z
theorem q2' {l:W.OpenLaw} {n k:Nat} {q:Program} {loose:List Str} {XP:(Str->Option Value)->Heap->Prop} {YP:World->Heap->Prop} {d:DefRec} {K:Params->W.Frag} {CX:World->CXT} {sp:World->Sp} {x:Str}
  (hn:l.most=some n) (hn2:n<=sizeLine) (hdf:d.params.defaults=[]) (hr:Room k callerA)
  (hY:∀(w:World) (h:Heap),YP w h->(K w.params).In h)
  (F:∀(w:World) (mg:Str->Option Value) (fa:Addr) (h:Heap),(K w.params).In h->h.Ns mainGlobals mg->mg d.name=some (.ref fa)->
   ∃fd:FuncData,(∀(s:Shared) (u:Value),BindsTo s fd ⟨[u],[]⟩ [(x,u)])/\
    ∀base:Heap,(K w.params).In base->base.Ns mainGlobals mg->FnOk l.prog w (K w.params) mg base (CX w) k fa fd [x] (sp w))
  (hsp:∀(w:World) (H:Hp) (a:Addr) (ns:List Int),ns.length<=n->yM' H->SqL (K w.params) H a (ns.map V.int)->sp w [.ref a] H (fun v _=>v=.bl true) fun _ _ _=>False)
  (hCX:∀(w:World) (H:Hp) (s:Shared) (e:Value) (s':Shared),CX w [] H s (fun _ _ _=>False) e s'->False):
  W.WalkO q loose XP YP l.row.toRowW d [] (fun f vs=>PySem.call f vs):=by
 refine Att.hI' hn hdf fun w s₀ s₁ mg mb fa o pm cd doc a vs ns G Y ho hd hcd hmg hobj hints hlen hg=>?_
 have KX:=hY w _ Y
 obtain⟨fd,hb,hF⟩:=F w mg fa _ KX G.T.g hmg
 exact nz' KX G.T.g G.T.b G.T.builtins G.T.nolimit hg hobj hints (aF hlen hn2) hr hF hb (fun H hO hS=>hsp w H a ns hlen hO hS) fun H e s'=>hCX w H s₁ e s'
def dp' (s:Stmt):Arguments:=match s with
 | .FunctionDef _ a _ _ _ _ _ _ _ _=>a
 |_=>{ posonlyargs:=[],args:=[],vararg:=none,kwonlyargs:=[],kw_defaults:=[],kwarg:=none,defaults:=[] }
def am' (s:Stmt):List Stmt:=match s with
 | .FunctionDef _ _ b _ _ _ _ _ _ _=>b
 |_=>[]
def ac' (s:Stmt):Scope:=match s with
 | .FunctionDef _ _ _ _ _ _ sc _ _ _=>sc
 |_=>{ kind:=.function,names:=[],isGenerator:=false,isCoroutine:=false }
abbrev CX0:CXT:=fun _ _ _ _ _ _=>False
abbrev E0:XK:=fun _ _ _=>False
structure Fun (K:W.Frag) (x qual:Str) (st:Stmt) (f:Addr) (fd:FuncData):Prop where
 ex:∃(oc:Value) (od:Option Addr) (kV doc pm:Value) (an:Option Addr) (cdv ct:Value) (osl:Array (Option Value)),
  fd=W.fnOf x qual (dp' st) (am' st) (ac' st) .none kV doc pm an cdv ct/\K.lookup f=some ⟨oc,od,.func fd,osl⟩/\W.codeIn K cdv qual=true
 kp:W.keepIn K (.ref f)=true
section
variable {P:Program} {w:World} {K:W.Frag} {mg:Str->Option Value} {base:Heap}
theorem Fun.binds {x qual:Str} {st:Stmt} {f:Addr} {fd:FuncData} {ps:List Str} (F:Fun K x qual st f fd)
  (h:∀(kV doc pm:Value) (an:Option Addr) (cdv ct:Value) (us:List Value),us.length=ps.length->bindArgs (W.fnOf x qual (dp' st) (am' st) (ac' st) .none kV doc pm an cdv ct) ⟨us,[]⟩=pure (ps.zip us)):eJ' K fd ps []:=by
 obtain⟨oc,od,kV,doc,pm,an,cdv,ct,osl,rfl,lk,hcd⟩:=F.ex
 exact .all (h kV doc pm an cdv ct)
theorem um' {x qual:Str} {st:Stmt} {f:Addr} {oc:Value} {od an:Option Addr} {osl:Array (Option Value)} {kV doc pm cdv ct:Value} (l:K.lookup f=some ⟨oc,od,.func (W.fnOf x qual (dp' st) (am' st) (ac' st) .none kV doc pm an cdv ct),osl⟩)
  (c:W.codeIn K cdv qual=true) (k:W.keepIn K (.ref f)=true):Fun K x qual st f (W.fnOf x qual (dp' st) (am' st) (ac' st) .none kV doc pm an cdv ct):=⟨⟨oc,od,kV,doc,pm,an,cdv,ct,osl,rfl,l,c⟩,k⟩
end
theorem an' {n:Nat} (h:n<=1000):n<sizeLine:=bQ h (by decide)
def av' (H H':Hp):Prop:=∀b o,H b=some o->H' b=some o
theorem av'.refl (H:Hp):av' H H:=fun _ _ h=>h
theorem av'.trans {H H1 H2:Hp} (a:av' H H1) (b:av' H1 H2):av' H H2:=fun c o h=>b c o (a c o h)
theorem av'.free {H H':Hp} (e:av' H H') {l:Addr} (h:H' l=Option.none):H l=Option.none:=by
 cases q:H l with
 |none=>rfl
 |some o=>
  rw[e l o q]at h
  cases h
theorem av'.seq {K:W.Frag} {H H':Hp} {a:Addr} {xs:List V} (e:av' H H') (h:SqL K H a xs):SqL K H' a xs:=by
 rcases h with(h|⟨o,h⟩)|h
 .exact .inl (.inl (e _ _ h))
 .exact .inl (.inr ⟨o,e _ _ h⟩)
 .exact .inr h
section
variable {κ:Type} [DecidableEq κ]
def eL' (kvs:List (κ×V)) (k:κ):Option V:=(kvs.find? fun kv=>decide (kv.1=k)).map (·.2)
def eM' (kvs:List (κ×V)) (k:κ) (v:V):List (κ×V):=
 if(kvs.any fun kv=>decide (kv.1=k))=true then kvs.map (fun kv=>if kv.1=k then(kv.1,v)else kv)else kvs++[(k,v)]
theorem cT' {p:κ×V} {r:List (κ×V)} {k:κ} (e:p.1=k):eL' (p :: r) k=some p.2:=by simp[eL',df,e]
theorem cU' {p:κ×V} {r:List (κ×V)} {k:κ} (e:¬p.1=k):eL' (p :: r) k=eL' r k:=by simp[eL',df,e]
theorem fq' (k:κ):∀kvs:List (κ×V),(kvs.any fun kv=>decide (kv.1=k))=(eL' kvs k).isSome
 | []=>rfl
 |p :: r=>by
  rw[List.any_cons]
  by_cases e:p.1=k
  .simp only[cT' e,decide_eq_true e,Bool.true_or,Option.isSome_some]
  .rw[cU' e,decide_eq_false e,Bool.false_or];exact fq' k r
theorem cC' (kvs:List (κ×V)) (k:κ) (v:V):(eM' kvs k v).length<=kvs.length+1:=by
 unfold eM'
 split
 .rw[ac];omega
 .rw[ax,bb,cR];omega
theorem fr' {kvs:List (κ×V)} {k:κ} (v:V) (h:eL' kvs k=none):eM' kvs k v=kvs++[(k,v)]:=by
 unfold eM'
 rw[fq',h]
 exact if_neg (by decide)
theorem ne'.isSome_eq {o:Option V} {u:Option Value} (r:ne' o u):o.isSome=u.isSome:=by
 cases o with
 |none=>cases u with
  |none=>rfl
  |some _=>exact(show False from r).elim
 |some _=>cases u with
  |none=>exact(show False from r).elim
  |some _=>rfl
theorem ne'.getD {o:Option V} {u:Option Value} {d:V} {d':Value} (r:ne' o u) (rd:ax' d d'):ax' (o.getD d) (u.getD d'):=by
 cases o with
 |none=>cases u with
  |none=>exact rd
  |some _=>exact(show False from r).elim
 |some _=>cases u with
  |none=>exact(show False from r).elim
  |some _=>exact r
theorem KV.val {kvs:List (κ×V)} {vs:List (κ×Value)} (r:KV kvs vs) (k:κ):ne' (eL' kvs k) (valueAt vs k):=by
 unfold KV at r
 induction r with
 |nil=>exact True.intro
 | @cons p q ps qs h t ih=>
  obtain⟨h1,h2⟩:=h
  by_cases e:p.1=k
  .have e':q.1=k:=h1.symm.trans e
   have b:valueAt (q :: qs) k=some q.2:=by simp[valueAt,df,e']
   rw[cT' e,b];exact h2
  .have e':¬q.1=k:=fun z=>e (h1.trans z)
   have b:valueAt (q :: qs) k=valueAt qs k:=by simp[valueAt,df,e']
   rw[cU' e,b];exact ih
theorem KV.any {kvs:List (κ×V)} {vs:List (κ×Value)} (r:KV kvs vs) (k:κ):(kvs.any fun kv=>decide (kv.1=k))=vs.any fun kv=>decide (kv.1=k):=by
 unfold KV at r
 induction r with
 |nil=>rfl
 |cons h t ih=>rw[List.any_cons,List.any_cons,ih,h.1]
theorem KV.repl {kvs:List (κ×V)} {vs:List (κ×Value)} (r:KV kvs vs) (k:κ) {y:V} {u:Value} (ry:ax' y u):
  KV (kvs.map fun kv=>if kv.1=k then(kv.1,y)else kv) (vs.map fun kv=>if kv.1=k then(kv.1,u)else kv):=by
 unfold KV at r ⊢
 induction r with
 |nil=>exact .nil
 | @cons p q ps qs h t ih=>
  rw[aS,aS]
  refine .cons ?_ ih
  obtain⟨h1,h2⟩:=h
  by_cases e:p.1=k
  .rw[if_pos e,if_pos (h1.symm.trans e)];exact⟨h1,ry⟩
  .rw[if_neg e,if_neg (fun z=>e (h1.trans z))];exact⟨h1,h2⟩
theorem KV.put {kvs:List (κ×V)} {vs:List (κ×Value)} (r:KV kvs vs) (k:κ) {y:V} {u:Value} (ry:ax' y u):KV (eM' kvs k y) (stored vs k u):=by
 unfold eM' stored
 rw[r.any k]
 by_cases e:(vs.any fun kv=>decide (kv.1=k))=true
 .rw[if_pos e,if_pos e];exact r.repl k ry
 .rw[if_neg e,if_neg e];exact Paired.snoc r ⟨rfl,ry⟩
theorem KV.keys {kvs:List (κ×V)} {vs:List (κ×Value)} (r:KV kvs vs):kvs.map (·.1)=vs.map (·.1):=by
 unfold KV at r
 induction r with
 |nil=>rfl
 |cons h t ih=>rw[aS,aS,ih,h.1]
theorem KV.length {kvs:List (κ×V)} {vs:List (κ×Value)} (r:KV kvs vs):kvs.length=vs.length:=Paired.length r
end
theorem jy' {P:Program} {w:World} {k:Key} {u:Value} (r:ax' (kV k) u):(ai' P w).is k u=true:=by
 cases k with
 |inl i=>obtain⟨t,e⟩:=(show ∃t,u=Value.int i t from r);subst e;exact hy' P w i t
 |inr x=>obtain⟨t,e⟩:=(show ∃t,u=Value.str x t from r);subst e;exact hA' P w x t
 |non=>obtain rfl:u=Value.none:=r;rfl
theorem gm' {P:Program} {w:World}:∀{ks:List Key} {us:List Value},ay' (ks.map kV) us->ItemsAre (ai' P w) ks us
 | [],_,r=>by rw[List.map_nil]at r;cases r;exact .nil
 |k :: ks,_,r=>by
  rw[aS]at r
  cases r with
  |cons h t=>exact .cons (jy' h) (gm' t)
abbrev KT (H:Hp):List (List Key×V)->List (List Key×Addr×Value)->Prop:=Paired fun p q=>p.1=q.1/\H q.2.1=some (.tup (p.1.map kV))/\ax' p.2 q.2.2
theorem KT.val {H:Hp} {kvs:List (List Key×V)} {xs:List (List Key×Addr×Value)} (r:KT H kvs xs) (k:List Key):ne' (eL' kvs k) ((atKey xs k).map (·.2)):=by
 induction r with
 |nil=>exact True.intro
 | @cons p q ps qs h t ih=>
  obtain⟨h1,_,h2⟩:=h
  by_cases e:p.1=k
  .have e':q.1=k:=h1.symm.trans e
   have b:atKey (q :: qs) k=some q.2:=by simp[atKey,df,e']
   rw[cT' e,b];exact h2
  .have e':¬q.1=k:=fun z=>e (h1.trans z)
   have b:atKey (q :: qs) k=atKey qs k:=by simp[atKey,df,e']
   rw[cU' e,b];exact ih
theorem KT.repl {H:Hp} {kvs:List (List Key×V)} {xs:List (List Key×Addr×Value)} (r:KT H kvs xs) (k:List Key) {y:V} {u:Value} (ry:ax' y u):
  KT H (kvs.map fun kv=>if kv.1=k then(kv.1,y)else kv) (xs.map (putAt k u)):=by
 induction r with
 |nil=>exact .nil
 | @cons p q ps qs h t ih=>
  rw[aS,aS]
  refine .cons ?_ ih
  obtain⟨h1,h2,h3⟩:=h
  unfold putAt
  by_cases e:p.1=k
  .rw[if_pos e,if_pos (h1.symm.trans e)];exact⟨h1,h2,ry⟩
  .rw[if_neg e,if_neg (fun z=>e (h1.trans z))];exact⟨h1,h2,h3⟩
theorem KT.put {H:Hp} {kvs:List (List Key×V)} {xs:List (List Key×Addr×Value)} (r:KT H kvs xs) (k:List Key) {b:Addr} {y:V} {u:Value} (hb:H b=some (.tup (k.map kV))) (ry:ax' y u):
  KT H (eM' kvs k y) (storedH xs k b u):=by
 have e:(kvs.any fun kv=>decide (kv.1=k))=(atKey xs k).isSome:=by
  rw[fq',(r.val k).isSome_eq,Option.isSome_map]
 unfold eM' storedH
 rw[e]
 by_cases q:(atKey xs k).isSome=true
 .rw[if_pos q,if_pos q];exact r.repl k ry
 .rw[if_neg q,if_neg q];exact Paired.snoc r ⟨rfl,hb,ry⟩
theorem KT.keeps {H H':Hp} {kvs:List (List Key×V)} {xs:List (List Key×Addr×Value)} (r:KT H kvs xs) (ht:∀b ys,H b=some (.tup ys)->H' b=some (.tup ys)):KT H' kvs xs:=
 Paired.mapP r fun _ _ z=>⟨z.1,ht _ _ z.2.1,z.2.2⟩
section
variable {P:Program} {w:World} {H:Hp} {h:Heap} {a:Addr}
theorem un' {u:HO} (ok:HOk P w H h) (e:Rd H a u):aA' P w H h a u:=e.ok ok
theorem hJ' {kvs:List (Key×V)} (ok:HOk P w H h) (e:Rd H a (.dK kvs)):kvs.length<=sizeLine/\(a == sysModules)=false/\∃vs,KV kvs vs/\h.DictOf (ai' P w) a vs:=
 show aA' P w H h a (.dK kvs) from un' ok e
theorem uo' {kvs:List (Key×V)} (ok:HOk P w H h) (e:H a=some (.dK kvs)):kvs.length<=sizeLine/\(a == sysModules)=false/\∃vs,KV kvs vs/\h.DictOf (ai' P w) a vs:=hJ' ok (.inl e)
theorem cd' {ks:List Key} (ok:HOk P w H h) (e:H a=some (.tup (ks.map kV))):(tupleKind (ai' P w)).is h ks a:=by
 obtain⟨_,its,r,o,h1,h2,⟨n,h3⟩,_⟩:=(show aA' P w H h a (.tup (ks.map kV)) from ok a _ e)
 exact⟨o,its.toArray,n,h1,h2,h3,by simpa using gm' r⟩
theorem ft' {kvs:List (List Key×V)} (ok:HOk P w H h) (e:Rd H a (.dT kvs)):kvs.length<=sizeLine/\(a == sysModules)=false/\
  ∃xs,KT H kvs xs/\h.DictOfH (tupleKind (ai' P w)) a xs:=by
 obtain⟨z,y,xs,r,o,es,ep,h1,h2,h3,h4,h5⟩:=(show aA' P w H h a (.dT kvs) from un' ok e)
 refine⟨z,y,xs,r,o,es,ep,h1,h2,h3,h4,fun x hx=>?_,h5⟩
 have all:∀{l:List (List Key×V)} {m:List (List Key×Addr×Value)},KT H l m->∀x∈m,(tupleKind (ai' P w)).is h x.1 x.2.1:=by
  intro l m q
  induction q with
  |nil=>intro x hx;exact nomatch hx
  | @cons p q ps qs hq t ih=>
   intro x hx
   rcases ay.mp hx with e|hx
   .subst e
    exact cd' ok (by rw[<- hq.1];exact hq.2.1)
   .exact ih x hx
 exact all r x hx
theorem up' {kvs:List (List Key×V)} (ok:HOk P w H h) (e:H a=some (.dT kvs)):kvs.length<=sizeLine/\(a == sysModules)=false/\
  ∃xs,KT H kvs xs/\h.DictOfH (tupleKind (ai' P w)) a xs:=ft' ok (.inl e)
end
def f7' (H:Hp) (a:Addr) (y:V) (r:Option V):Prop:=
 (∃kvs k,Rd H a (.dK kvs)/\y=kV k/\r=eL' kvs k)\/∃kvs k b,Rd H a (.dT kvs)/\y=.ref b/\H b=some (.tup (k.map kV))/\r=eL' kvs k
def q3' (H:Hp) (a:Addr) (y v:V) (H':Hp):Prop:=
 (∃kvs k,H a=some (.dK kvs)/\y=kV k/\kvs.length<sizeLine/\H'=upd H a (.dK (eM' kvs k v)))\/
 ∃kvs k b,H a=some (.dT kvs)/\y=.ref b/\H b=some (.tup (k.map kV))/\kvs.length<sizeLine/\H'=upd H a (.dT (eM' kvs k v))
theorem f7'.k {H:Hp} {a:Addr} {kvs:List (Key×V)} {k:Key} (e:H a=some (.dK kvs)):f7' H a (kV k) (eL' kvs k):=.inl ⟨kvs,k,.inl e,rfl,rfl⟩
theorem f7'.t {H:Hp} {a b:Addr} {kvs:List (List Key×V)} {k:List Key} (e:H a=some (.dT kvs)) (eb:H b=some (.tup (k.map kV))):f7' H a (.ref b) (eL' kvs k):=.inr ⟨kvs,k,b,.inl e,rfl,eb,rfl⟩
theorem q3'.t {H:Hp} {a b:Addr} {kvs:List (List Key×V)} {k:List Key} {v:V} (e:H a=some (.dT kvs)) (eb:H b=some (.tup (k.map kV))) (hl:kvs.length<sizeLine):
  q3' H a (.ref b) v (upd H a (.dT (eM' kvs k v))):=.inr ⟨kvs,k,b,e,rfl,eb,hl,rfl⟩
section
variable {X:Cx} {p_:List (Addr×Obj)} {σ:St} {H:Hp} {s:Shared} {a:Addr} {y v:V} {u r:Value} {o:Option V} {A:Around} {E:Value->Shared->Prop}
theorem Inv.big (I:Inv X p_ σ H s):sysModules<s.heap.objs.size:=by
 have h:mainGlobals<s.heap.objs.size:=(I.mod.glob.keeps I.bk).lt
 exact Nat.lt_trans (by decide) h
theorem Bs' {Q:Value->Shared->Prop} (hu:A.units+1<cLine) (I:Inv X p_ σ H s) (g:f7' H a y o) (ry:ax' y u) (h:∀s',Inv X p_ σ H s'->Q (.bool o.isSome) s'):
  wpAny (model X.prog X.w) A (compareOp .In u (.ref a)) Q E s:=by
 rcases g with⟨kvs,k,e,ey,l⟩|⟨kvs,k,b,e,ey,eb,l⟩
 .subst ey
  obtain⟨z,hd,vs,rel,dd⟩:=hJ' I.hok e
  refine wpAny_in_of (jy' ry) hd dd.mapOf ?_
  rw[<- (rel.val k).isSome_eq,<- l]
  exact h _ (I.tok _)
 .subst ey
  cases(show u=Value.ref b from ry)
  obtain⟨z,hd,xs,rel,dd⟩:=ft' I.hok e
  refine wpAny_in_heap (tupleKind_room_in1 hu) (cd' I.hok eb) hd dd ?_
  have q:=(rel.val k).isSome_eq
  rw[Option.isSome_map]at q
  rw[<- q,<- l]
  exact h _ (I.tok _)
theorem q4' {Q:Value->Shared->Prop} (hu:A.units+1<cLine) (I:Inv X p_ σ H s) (g:f7' H a y o) (ry:ax' y u) (h:∀s',Inv X p_ σ H s'->Q (.bool (!o.isSome)) s'):
  wpAny (model X.prog X.w) A (compareOp .NotIn u (.ref a)) Q E s:=by
 rcases g with⟨kvs,k,e,ey,l⟩|⟨kvs,k,b,e,ey,eb,l⟩
 .subst ey
  obtain⟨z,hd,vs,rel,dd⟩:=hJ' I.hok e
  refine wpAny_notIn_of (jy' ry) hd dd.mapOf ?_
  rw[<- (rel.val k).isSome_eq,<- l]
  exact h _ (I.tok _)
 .subst ey
  cases(show u=Value.ref b from ry)
  obtain⟨z,hd,xs,rel,dd⟩:=ft' I.hok e
  refine wpAny_notIn_heap (tupleKind_room_in1 hu) (cd' I.hok eb) hd dd ?_
  have q:=(rel.val k).isSome_eq
  rw[Option.isSome_map]at q
  rw[<- q,<- l]
  exact h _ (I.tok _)
theorem fu' {h':Heap} {t':Nat} {ob:HO} (I:Inv X p_ σ H s) (mu:Mut (H a)) (hs:bG a s.heap h') (he:∃q,h'.get? a=some q) (new:aA' X.prog X.w (upd H a ob) h' a ob):
  Inv X p_ σ (upd H a ob) { s with heap:=h',toks:=t' }:=
 I.write (x:=a) (e:=a) mu (.inl rfl) (fun b q hb z=>(hs.2 b hb).trans z) he new
theorem uq' {P:Program} {w:World} {H':Hp} {h':Heap} {kvs:List (Key×V)} {vs:List (Key×Value)} (z:kvs.length<=sizeLine) (hd:(a == sysModules)=false) (rel:KV kvs vs) (dd:h'.DictOf (ai' P w) a vs):
  aA' P w H' h' a (.dK kvs):=⟨z,hd,vs,rel,dd⟩
theorem kB' {H':Hp} {Q:Unit->Shared->Prop} (hu:A.units+1<cLine) (I:Inv X p_ σ H s) (g:q3' H a y v H') (ry:ax' y u) (rv:ax' v r) (h:∀s',Inv X p_ σ H' s'->Q () s'):
  wpAny (model X.prog X.w) A (setItem (.ref a) u r) Q E s:=by
 rcases g with⟨kvs,k,e,ey,l,eH⟩|⟨kvs,k,b,e,ey,eb,l,eH⟩
 .subst ey eH
  obtain⟨z,hd,vs,rel,dd⟩:=uo' I.hok e
  have hz:vs.length<=sizeLine:=by rw[<- rel.length];exact z
  have hl:(eM' kvs k v).length<=sizeLine:=by have:=cC' kvs k v;omega
  refine wpAny_setItem_pairs (hsz:=hz) (jy' ry) dd fun h' dd' hs=>h _ ?_
  have he:∃q,h'.get? a=some q:=let⟨q,_,_,hq,_⟩:=dd';⟨q,hq⟩
  exact fu' I (by rw[e];exact True.intro) hs he (uq' hl hd (rel.put k rv) dd')
 .subst ey eH
  cases(show u=Value.ref b from ry)
  obtain⟨z,hd,xs,rel,dd⟩:=up' I.hok e
  have hz:xs.length<=sizeLine:=by rw[<- Paired.length rel];exact z
  have hl:(eM' kvs k v).length<=sizeLine:=by have:=cC' kvs k v;omega
  refine wpAny_setItem_heap (hsz:=hz) (tupleKind_room_in1 hu) (cd' I.hok eb) dd fun h' dd' hs=>h _ ?_
  obtain⟨q,es,ep,hq,h2,h3,h4,_,h5⟩:=dd'
  refine fu' I (by rw[e];exact True.intro) hs ⟨q,hq⟩ ⟨hl,hd,_,(rel.put k eb rv).keeps fun c ys ec=>?_,q,es,ep,hq,h2,h3,h4,h5⟩
  rw[ae' (yl' ec e (fun z=>nomatch z))]
  exact ec
end
section
variable {X:Cx} {p_:List (Addr×Obj)} {σ:St} {H:Hp} {s:Shared} {a:Addr} {kvs:List (Key×V)} {k:Key} {u:Value} {A:Around} {E:Value->Shared->Prop}
theorem yN' {Q:Value->Shared->Prop} (I:Inv X p_ σ H s) (e:Rd H a (.dK kvs)) (h:∀t s',Inv X p_ σ H s'->Q (.int kvs.length t) s'):wpAny (model X.prog X.w) A (call (.builtin "len") [.ref a]) Q E s:=by
 obtain⟨z,hd,vs,rel,dd⟩:=hJ' I.hok e
 refine call_len_dict hd dd (by rw[<- rel.length];rw[sizeLine_eq]at z;omega) ?_
 rw[<- rel.length]
 exact h _ _ (I.tok _)
end
theorem nA' {P:Program} {w:World} {H:Hp} (h:Heap) (hb:sysModules<h.objs.size):aA' P w H (h.push { cls:=.type "dict",data:=.dict #[] }) h.objs.size (.dK []):=
 ⟨aT _,beq_eq_false_iff_ne.mpr (Ne.symm (aA hb)),[],.nil,Heap.DictOf.new h⟩
theorem nB' {P:Program} {w:World} {H:Hp} (h:Heap) (hb:sysModules<h.objs.size):aA' P w H (h.push { cls:=.type "dict",data:=.dict #[] }) h.objs.size (.dT []):=
 ⟨aT _,beq_eq_false_iff_ne.mpr (Ne.symm (aA hb)),[],.nil,_,#[],0,al _ rfl,⟨rfl,rfl,rfl⟩,rfl,rfl,cL⟩
def kC':TE:=fun _ H Q=>∀p,H p=none->Q (.ref p) (upd H p (.dK []))
def kD':TE:=fun _ H Q=>∀p,H p=none->Q (.ref p) (upd H p (.dT []))
section
variable {X:Cx} {pos:Pos}
theorem nC':PE X (.Dict [] [] pos) kC':=fun p_ s σ H Q I h=>
 wpAny_Dict_empty ⟨.ref s.heap.objs.size,_,I.laid (a:=s.heap.objs.size) (o:=.dK []) (t':=s.toks) (fun _ _ q=>af _ q) (ag _) (nA' s.heap I.big),rfl,h _ (I.hok.fresh (ag _))⟩
theorem nD':PE X (.Dict [] [] pos) kD':=fun p_ s σ H Q I h=>
 wpAny_Dict_empty ⟨.ref s.heap.objs.size,_,I.laid (a:=s.heap.objs.size) (o:=.dT []) (t':=s.toks) (fun _ _ q=>af _ q) (ag _) (nB' s.heap I.big),rfl,h _ (I.hok.fresh (ag _))⟩
end
structure M1 (X:Cx) (o:Expr) (m:Str) (apos:Pos) (e:Expr) (cpos:Pos):Prop where
 base:attributeBase o m X.env (eval o X.env)=eval o X.env
 few:((backTo cpos (starEach [e] X.env)).all (fun x=>!x.1)&&(backToKw cpos (keywordEach [] X.env)).all (fun x=>x.1.isSome)
  && decide (([e]:List Expr).length+([]:List Keyword).length+(if([]:List Keyword).isEmpty then 0 else 1)<30))=true
 line:(apos.endLine == cpos.line)=true
 trees:backTo cpos (starEach [e] X.env)=[(false,eval e X.env)]
def IsD (H:Hp) (a:Addr):Prop:=(∃kvs,Rd H a (.dK kvs))\/∃kvs,Rd H a (.dT kvs)
theorem us' {X:Cx} {p_:List (Addr×Obj)} {σ:St} {H:Hp} {s:Shared} {a:Addr} (I:Inv X p_ σ H s) (d:IsD H a):
  s.TypeIs (.ref a) "dict"/\(∀b,Value.ref a=.ref b->∃ob,s.heap.get? b=some ob/\ob.dict=none)/\(a == sysModules)=false:=by
 rcases d with⟨kvs,e⟩|⟨kvs,e⟩
 .obtain⟨_,hd,vs,_,dd⟩:=hJ' I.hok e
  refine⟨dd.typeIs,fun b q=>?_,hd⟩
  cases q
  obtain⟨ob,_,_,h1,h2,_⟩:=dd
  exact⟨ob,h1,h2.2.1⟩
 .obtain⟨_,hd,xs,_,dd⟩:=ft' I.hok e
  refine⟨dd.typeIs,fun b q=>?_,hd⟩
  cases q
  obtain⟨ob,_,_,h1,h2,_⟩:=dd
  exact⟨ob,h1,h2.2.1⟩
section
variable {X:Cx} {p_:List (Addr×Obj)} {σ:St} {H:Hp} {s:Shared} {a:Addr} {y d:V} {u r:Value} {o:Option V} {A:Around} {E:Value->Shared->Prop}
theorem ut' {Q:Value->Shared->Prop} (hu:A.units+1<cLine) (I:Inv X p_ σ H s) (g:f7' H a y o) (ry:ax' y u) (h:∀w' s',Inv X p_ σ H s'->ax' (o.getD .non) w'->Q w' s'):
  wpAny (model X.prog X.w) A (call (.builtin "dict.get") [.ref a,u]) Q E s:=by
 rcases g with⟨kvs,k,e,ey,l⟩|⟨kvs,k,b,e,ey,eb,l⟩
 .subst ey
  obtain⟨z,hd,vs,rel,dd⟩:=hJ' I.hok e
  refine call_meetsIn PySem.F.slot_dict_get dd.typeIs PySem.F.entry_dict_get (PySem.F.args_dict_get_2 _ _) (meets_dict_get (ai' X.prog X.w) a (jy' ry) hd) ⟨_,dd.mapOf,h _ _ (I.tok _) ?_⟩
  rw[l]
  exact(rel.val k).getD rfl
 .subst ey
  cases(show u=Value.ref b from ry)
  obtain⟨z,hd,xs,rel,dd⟩:=ft' I.hok e
  refine call_meetsIn PySem.F.slot_dict_get dd.typeIs PySem.F.entry_dict_get (PySem.F.args_dict_get_2 _ _) (meetsH_dict_get (tupleKind (ai' X.prog X.w)) a b hd) ⟨tupleKind_room_in1 hu,k,xs,cd' I.hok eb,dd,h _ _ (I.tok _) ?_⟩
  rw[l]
  exact(rel.val k).getD rfl
end
section
variable {X:Cx}
theorem kE':aP' X (.builtin "len") (fun xs H Q=>∃a kvs,xs=[V.ref a]/\H a=some (.dK kvs)/\Q (.int kvs.length) H):=by
 intro p_ s σ H xs us Q I r h
 obtain⟨a,kvs,rfl,ha,q⟩:=h
 obtain⟨u,rfl,ru⟩:=dl' r
 cases ru
 exact yN' I (.inl ha) fun t s' I'=>⟨.int kvs.length,H,I',⟨t,rfl⟩,q⟩
end
def x1' (ta tb:TE):TE:=fun σ H Q=>ta σ H fun x H1=>(x=.non/\tb σ H1 Q)\/∃i:Int,x=.int i/\if i=0 then tb σ H1 Q else Q (.int i) H1
section
variable {X:Cx} {a b:Expr} {as':List Expr} {pos:Pos} {ta tb:TE}
theorem pH' (ha:PE X a ta) (hb:PE X (.BoolOp .Or (b :: as') pos) tb):PE X (.BoolOp .Or (a :: b :: as') pos) (x1' ta tb):=by
 intro p_ s σ H Q I h
 refine BoolOp_or (thn (ha p_ s σ H _ I h) fun v s1 ⟨x,H1,I1,r1,q1⟩=>?_)
 rcases q1 with⟨rfl,q1⟩|⟨i,rfl,q1⟩
 .cases r1
  exact truthy_none (hb p_ s1 σ H1 Q I1 q1)
 .obtain⟨t,rfl⟩:=r1
  refine PySem.P.truthy_int ?_
  by_cases hi:i=0
  .rw[if_pos hi]at q1
   subst hi
   exact hb p_ s1 σ H1 Q I1 q1
  .rw[if_neg hi]at q1
   rw[show(i != 0)=true by simpa using hi]
   exact⟨.int i,H1,I1,⟨t,rfl⟩,q1⟩
end
def bR' (cells:List (Str×Addr)):List (Str×NameKind)->List (Str×Addr)->List (Str×Addr)
 | [],acc=>acc
 |(n,k) :: r,acc=>if k == .free then bR' cells r ((n,(cells.lookup n).getD 0) :: acc)else bR' cells r acc
def gn' (env:Env) (x:Str×NameKind) (r:List (Str×Addr)):Sem (ForInStep (List (Str×Addr))):=
 match x with|(name,kind)=>if(kind == .free)=true then(do let a <- cellOf env name;pure (ForInStep.yield ((name,a) :: r)))else pure (ForInStep.yield r)
theorem uu' {env:Env}:∀(names:List (Str×NameKind)) (acc:List (Str×Addr)),(∀n,(n,NameKind.free)∈names->∃c,env.cells.lookup n=some c)->
   forIn names acc (gn' env)=(pure (bR' env.cells names acc):Sem _):=by
  intro names
  induction names with
  |nil=>intro acc _;rfl
  |cons x r ih=>
   intro acc hh
   obtain⟨n,k⟩:=x
   rw[List.forIn_cons]
   have hr:=fun m hm=>hh m (aC _ hm)
   by_cases hk:k=.free
   .subst hk
    obtain⟨c,hc⟩:=hh n aE
    have e1:cellOf env n=(pure c:Sem Addr):=by unfold cellOf;rw[hc]
    have e2:gn' env (n,NameKind.free) acc=pure (ForInStep.yield ((n,c) :: acc)):=by
     unfold gn'
     dsimp only
     rw[if_pos (by rfl),e1]
     rfl
    rw[e2]
    have e3:=ih ((n,c) :: acc) hr
    have e4:bR' env.cells ((n,NameKind.free) :: r) acc=bR' env.cells r ((n,c) :: acc):=by
     show(if(NameKind.free == NameKind.free)=true then _ else _)=_
     rw[if_pos (by rfl),hc]
     rfl
    rw[e4,<- e3]
    rfl
   .have hb:(k == NameKind.free)=false:=by simpa using hk
    have e2:gn' env (n,k) acc=pure (ForInStep.yield acc):=by
     unfold gn'
     dsimp only
     rw[if_neg (by rw[hb];exact ak)]
    rw[e2]
    have e4:bR' env.cells ((n,k) :: r) acc=bR' env.cells r acc:=by
     show(if(k == NameKind.free)=true then _ else _)=_
     rw[if_neg (by rw[hb];exact ak)]
    rw[e4,<- ih acc hr]
    rfl
theorem kF' {env:Env} {scope:Scope} (h:∀n,(n,NameKind.free)∈scope.names->∃c,env.cells.lookup n=some c):closureFor scope env=pure (bR' env.cells scope.names []):=by
 have e:=uu' (env:=env) scope.names [] h
 unfold closureFor
 have q:∀f:Str×NameKind->List (Str×Addr)->Sem (ForInStep (List (Str×Addr))),(∀x r,f x r=gn' env x r)->(forIn scope.names ([]:List (Str×Addr)) f >>= fun r=>pure r)=(pure (bR' env.cells scope.names []):Sem _):=by
  intro f hf
  have:f=gn' env:=funext fun x=>funext fun r=>hf x r
  rw[this,e]
  rfl
 refine q _ fun x r=>?_
 obtain⟨n,k⟩:=x
 unfold gn'
 first|done|(dsimp only;done)|(dsimp only;cases hk:k == NameKind.free<;>simp[hk])
set_option tactic.hygienic true in
theorem dZ' {cells:List (Str×Addr)}:∀{names:List (Str×NameKind)} {acc:List (Str×Addr)} {n:Str} {c:Addr},(n,c)∈bR' cells names acc->(n,c)∈acc\/((n,NameKind.free)∈names/\c=(cells.lookup n).getD 0)
 | [],_,_,_,h=>.inl h
 |(m,k) :: r,acc,n,c,h=>by
  unfold bR' at h
  split at h
  .rename_i hk
   have hk':k=.free:=by simpa using hk
   subst hk'
   rcases dZ' h with q|⟨q,e⟩
   .rcases ay.mp q with q|q
    .cases q;exact .inr ⟨aE,rfl⟩
    .exact .inl q
   .exact .inr ⟨aC _ q,e⟩
  .rcases dZ' h with q|⟨q,e⟩
   .exact .inl q
   .exact .inr ⟨aC _ q,e⟩
set_option tactic.hygienic true in
theorem d0' {cells:List (Str×Addr)}:∀{names:List (Str×NameKind)} {acc:List (Str×Addr)} {n:Str},((n,NameKind.free)∈names\/∃c,(n,c)∈acc)->∃c,(n,c)∈bR' cells names acc
 | [],_,_,h=>by
  rcases h with h|h
  .simp at h
  .exact h
 |(m,k) :: r,acc,n,h=>by
  unfold bR'
  split
  .rename_i hk
   refine d0' ?_
   rcases h with h|⟨c,h⟩
   .rcases ay.mp h with h|h
    .cases h;exact .inr ⟨_,aE⟩
    .exact .inl h
   .exact .inr ⟨c,aC _ h⟩
  .rename_i hk
   refine d0' ?_
   rcases h with h|h
   .rcases ay.mp h with h|h
    .cases h;exact absurd rfl hk
    .exact .inl h
   .exact .inr h
theorem aJ':∀(names:List (Str×NameKind)) (n:Nat) (acc:List (Str×Addr)),cellsFrom n names acc=cellsFrom n names []++acc
 | [],_,_=>rfl
 |(x,k) :: r,n,acc=>by
  unfold cellsFrom
  split
  .rw[aJ' r (n+1) ((x,n) :: acc),aJ' r (n+1) [(x,n)],aD]
   rfl
  .exact aJ' r n acc
theorem bG' {α:Type}:∀{l:List (Str×α)} {n:Str} {c:α},(n,c)∈l->∃c',l.lookup n=some c'
 |(k,v) :: r,n,c,h=>by
  rw[bJ]
  cases hb:n == k with
  |true=>exact⟨v,rfl⟩
  |false=>
   rcases ay.mp h with e|h
   .cases e;simp at hb
   .exact bG' h
theorem bN' {env:Env}:∀{names:List (Str×NameKind)} {x:Str} {k':NameKind},
  (names.map fun(n,k)=>if(k == NameKind.free&&env.scope.kind == .function&&env.kindOf n == some .cell)then(n,NameKind.cell)else(n,k)).lookup x=some k'->∃k,names.lookup x=some k/\(k'=k\/(k=.free/\k'=.cell))
 | [],_,_,h=>by simp at h
 |(n,k) :: r,x,k',h=>by
  have ih:=@bN' env r x k'
  rw[aS]at h
  by_cases hc:(k == NameKind.free&&env.scope.kind == .function&&env.kindOf n == some .cell)=true
  .have e1:(match ((n,k):Str×NameKind)with|(n,k)=>if(k == NameKind.free&&env.scope.kind == .function&&env.kindOf n == some .cell)=true then(n,NameKind.cell)else(n,k))=(n,NameKind.cell):=if_pos hc
   rw[e1,bJ]at h
   rw[bJ]
   cases hx:x == n with
   |true=>
    rw[hx]at h
    cases h
    refine⟨k,rfl,.inr ⟨?_,rfl⟩⟩
    simp only[ah]at hc
    exact beq_iff_eq.mp hc.1.1
   |false=>rw[hx]at h;exact ih h
  .have e1:(match ((n,k):Str×NameKind)with|(n,k)=>if(k == NameKind.free&&env.scope.kind == .function&&env.kindOf n == some .cell)=true then(n,NameKind.cell)else(n,k))=(n,k):=if_neg hc
   rw[e1,bJ]at h
   rw[bJ]
   cases hx:x == n with
   |true=>rw[hx]at h;cases h;exact⟨k,rfl,.inl rfl⟩
   |false=>rw[hx]at h;exact ih h
theorem be' {env:Env}:∀{names:List (Str×NameKind)} {x:Str} {k:NameKind},names.lookup x=some k ->
  ∃k',(names.map fun(n,k)=>if(k == NameKind.free&&env.scope.kind == .function&&env.kindOf n == some .cell)then(n,NameKind.cell)else(n,k)).lookup x=some k'/\(k'=k\/(k=.free/\k'=.cell))
 | [],_,_,h=>by simp at h
 |(n,k0) :: r,x,k,h=>by
  have ih:=@be' env r x k
  rw[aS]
  by_cases hc:(k0 == NameKind.free&&env.scope.kind == .function&&env.kindOf n == some .cell)=true
  .have e1:(match ((n,k0):Str×NameKind)with|(n,k)=>if(k == NameKind.free&&env.scope.kind == .function&&env.kindOf n == some .cell)=true then(n,NameKind.cell)else(n,k))=(n,NameKind.cell):=if_pos hc
   rw[e1,bJ]
   rw[bJ]at h
   cases hx:x == n with
   |true=>
    rw[hx]at h
    cases h
    refine⟨_,rfl,.inr ⟨?_,rfl⟩⟩
    simp only[ah]at hc
    exact beq_iff_eq.mp hc.1.1
   |false=>rw[hx]at h;exact ih h
  .have e1:(match ((n,k0):Str×NameKind)with|(n,k)=>if(k == NameKind.free&&env.scope.kind == .function&&env.kindOf n == some .cell)=true then(n,NameKind.cell)else(n,k))=(n,k0):=if_neg hc
   rw[e1,bJ]
   rw[bJ]at h
   cases hx:x == n with
   |true=>rw[hx]at h;cases h;exact⟨_,rfl,.inl rfl⟩
   |false=>rw[hx]at h;exact ih h
section
variable {M:Model} {A:Around} {E:Value->Shared->Prop} {s:Shared}
abbrev a4' (h:Heap) (names:List (Str×NameKind)):Heap:=pushCells (h.push { cls:=.type "dict",data:=.dict #[] }) names
theorem cV' {scope:Scope} {globals:Addr} {cl:List (Str×Addr)} {qual:Str} {env:Env} {Q:Env->Shared->Prop}
  (h:Q (newEnv scope s.heap.objs.size globals (cellsFrom (s.heap.objs.size+1) scope.names cl) qual none .none (some env) builtinsNs) { s with heap:=a4' s.heap scope.names }):
  wpAny M A (newFunctionEnv scope globals cl [] qual none .none (some env)) Q E s:=by
 simp only[newFunctionEnv,Option.isSome_some,if_true]
 refine aa (wpAny_alloc ?_)
 refine aa (wpAny_layCells _ (fun name kind cells=>by cases hkc:kind == NameKind.cell<;>simp[hkc]) _ _ _ _ ?_)
 rw[show({ s with heap:=s.heap.push { cls:=.type "dict",data:=.dict #[] } }:Shared).heap.objs.size=s.heap.objs.size+1 from bg ..]
 exact aa (ab (ab h))
end
def Cx.comp (X:Cx) (scope:Scope) (s₀:Shared) (H₀:Hp) (ex:List Addr):Cx:=
 { X with
  s₀:=s₀,H₀:=H₀
  env:={ newEnv scope s₀.heap.objs.size X.env.globals (cellsFrom (s₀.heap.objs.size+1) scope.names (bR' X.env.cells scope.names [])) X.env.qual none .none (some X.env) builtinsNs with scope:=relabel scope X.env }
  outer:=X.stack,ex:=ex,fn:=fun x=>((cellsFrom (s₀.heap.objs.size+1) scope.names []).lookup x).isSome,pn:=[],xe:=fun _ _=>False }
structure CompSc (X:Cx) (scope:Scope):Prop where
 kind:scope.kind=.function
 names:∀x∈scope.names,x.2=.local->scope.names.lookup x.1=some .local
 one:∀n,(n,NameKind.cell)∈scope.names->scope.names.lookup n=some .cell
 free:∀n,(n,NameKind.free)∈scope.names->X.env.kindOf n=some .cell\/X.env.kindOf n=some .free
set_option tactic.hygienic true in
theorem bW':∀{names:List (Str×NameKind)} {n:Nat} {x:Str} {c:Addr},(x,c)∈cellsFrom n names []->(x,NameKind.cell)∈names
 | [],_,_,_,h=>by simp[cellsFrom]at h
 |(y,k) :: r,n,x,c,h=>by
  unfold cellsFrom at h
  split at h
  .rename_i hk
   have hk':k=.cell:=by simpa using hk
   subst hk'
   rw[aJ']at h
   rcases aL.mp h with h|h
   .exact aC _ (bW' h)
   .have h':(x,c)=(y,n):=by simpa using h
    cases h'
    exact aE
  .exact aC _ (bW' h)
def clr (own:List Nat) (σ:St):St:=own.foldl (fun σ i=>σ.set i none) σ
theorem d1':∀(own:List Nat) (σ:St),(clr own σ).length=σ.length
 | [],_=>rfl
 |i :: r,σ=>by
  show(clr r (σ.set i none)).length=_
  rw[d1' r,List.length_set]
theorem d2':∀{own:List Nat} {σ:St} {i:Nat} {v:V},(clr own σ)[i]?=some (some v)->σ[i]?=some (some v)/\i∉own
 | [],_,_,_,h=>⟨h,by simp⟩
 |j :: r,σ,i,v,h=>by
  obtain⟨h1,h2⟩:=d2' (own:=r) (σ:=σ.set j none) h
  by_cases e:j=i
  .subst e
   rw[List.getElem?_set]at h1
   simp at h1
  .rw[cM e]at h1
   exact⟨h1,by simp;exact⟨fun z=>e z.symm,h2⟩⟩
theorem hL':∀{own:List Nat} {σ:St} {i:Nat},i∉own->(clr own σ)[i]?=σ[i]?
 | [],_,_,_=>rfl
 |j :: r,σ,i,h=>by
  have h1:i≠j:=fun z=>h (by simp[z])
  have h2:i∉r:=fun z=>h (by simp[z])
  show(clr r (σ.set j none))[i]?=_
  rw[hL' h2,cM (Ne.symm h1)]
section
variable {X:Cx} {p_:List (Addr×Obj)} {σ:St} {H H':Hp} {s s':Shared} {scope:Scope} {ex:List Addr} {own:List Nat}
theorem jz' (I:Inv X p_ σ H s) (S:CompSc X scope):
  (∀x c,(bR' X.env.cells scope.names []).lookup x=some c->X.env.cells.lookup x=some c)/\
  (∀x,(x,NameKind.free)∈scope.names->∃c,(bR' X.env.cells scope.names []).lookup x=some c)/\
  CellsOk (a4' s.heap scope.names) (s.heap.objs.size+1) (cellsFrom (s.heap.objs.size+1) scope.names []):=by
 have hc:∀x c,(x,c)∈bR' X.env.cells scope.names []->X.env.cells.lookup x=some c:=fun x c h=>by
  rcases dZ' h with z|⟨z,e⟩
  .simp at z
  .obtain⟨c',e'⟩:=I.ok.has x (S.free x z)
   rw[e',Option.getD_some]at e
   rw[e',e]
 refine⟨fun x c h=>hc x c (PySem.mem_of_lookup h),fun x h=>?_,?_⟩
 .obtain⟨c,q⟩:=d0' (cells:=X.env.cells) (acc:=[]) (.inl h)
  exact bG' q
 .have q:=cellsFrom_ok scope.names (s.heap.push { cls:=.type "dict",data:=.dict #[] }) (s.heap.objs.size+1) [] ⟨fun _ _ hm=>(nomatch hm),List.Pairwise.nil⟩ (by rw[bg];exact ag _)
  rw[bg]at q
  exact q
theorem e4' (I:Inv X p_ σ H s) (hex:∀b∈ex,cP' X p_ H b) (hlt:∀b∈ex,b<s.heap.objs.size) (S:CompSc X scope)
  (hown:∀i x,X.N[i]?=some x->(scope.names.lookup x=some .local\/scope.names.lookup x=some .cell)->i∈own):
  Inv (X.comp scope s H ex) [] (clr own σ) H { s with heap:=a4' s.heap scope.names }:=by
 obtain⟨hcl,hcf,ok⟩:=jz' I S
 have lk:∀x c,(X.comp scope s H ex).env.cells.lookup x=some c->(cellsFrom (s.heap.objs.size+1) scope.names []).lookup x=some c\/((cellsFrom (s.heap.objs.size+1) scope.names []).lookup x=none/\X.env.cells.lookup x=some c):=fun x c h=>by
  have h':(cellsFrom (s.heap.objs.size+1) scope.names (bR' X.env.cells scope.names [])).lookup x=some c:=h
  rw[aJ',List.lookup_append]at h'
  cases q:(cellsFrom (s.heap.objs.size+1) scope.names []).lookup x with
  |some d=>rw[q]at h';exact .inl h'
  |none=>rw[q]at h';exact .inr ⟨rfl,hcl x c h'⟩
 have newC:∀x c,(cellsFrom (s.heap.objs.size+1) scope.names []).lookup x=some c->(a4' s.heap scope.names).IsCell c none/\s.heap.objs.size+1<=c:=fun x c h=>ok.empty x c (PySem.mem_of_lookup h)
 have oldC:∀x c,X.env.cells.lookup x=some c->c<s.heap.objs.size:=fun x c h=>let⟨_,q⟩:=I.cell x c h;q.lt
 have keep:∀b o,s.heap.get? b=some o->(a4' s.heap scope.names).get? b=some o:=fun b o e=>pushCells_keeps _ _ b o (af _ e)
 have fresh:∀b,s.heap.objs.size<=b->H b=none:=fun b hb=>I.hok.fresh hb
 have loc0:(X.comp scope s H ex).env.locals=s.heap.objs.size:=rfl
 refine⟨⟨I.ok.mod,S.kind,I.ok.glob,?_,ag _,fun x y c h1 h2=>?_,fun x hx=>?_,fun x c hf h=>?_,I.ok.hd,I.ok.frames,.inl rfl,fun b hb=>?_,I.bs,aF I.ok.bsz I.sz,fun b o e hb=>?_,fun b hb=>?_,I.stack,I.stkFree⟩,
  rfl,I.bare,Un.kept keep,⟨fun _=>none,?_,fun i x v h1 h2 h3=>?_⟩,fun x c h=>?_,fresh _ (ag _),fun x c h=>?_,fun p hp=>absurd (show p∈([]:List (Addr×Obj)) from hp) (by simp),I.hok.kept keep,?_⟩
 .show X.env.builtins=_
  exact I.ok.blt
 .rcases lk x c h1 with q1|⟨_,q1⟩<;>rcases lk y c h2 with q2|⟨_,q2⟩
  .exact name_of_addr ok.apart (PySem.mem_of_lookup q1) (PySem.mem_of_lookup q2)
  .exact absurd (am (oldC y c q2) (aF (Nat.le_succ _) (newC x c q1).2)) (bp _)
  .exact absurd (am (oldC x c q1) (aF (Nat.le_succ _) (newC y c q2).2)) (bp _)
  .exact I.ok.inj x y c q1 q2
 .have hx':(relabel scope X.env).names.lookup x=some .cell\/(relabel scope X.env).names.lookup x=some .free:=hx
  have fin:∀k,scope.names.lookup x=some k->(k=.cell\/k=.free)->∃c,(cellsFrom (s.heap.objs.size+1) scope.names (bR' X.env.cells scope.names [])).lookup x=some c:=fun k hk hkk=>by
   rw[aJ',List.lookup_append]
   rcases hkk with rfl|rfl
   .obtain⟨c,q⟩:=fn' (n:=s.heap.objs.size+1) hk
    exact⟨c,by rw[q];rfl⟩
   .obtain⟨c,q⟩:=hcf x (PySem.mem_of_lookup hk)
    cases z:(cellsFrom (s.heap.objs.size+1) scope.names []).lookup x with
    |some d=>exact⟨d,rfl⟩
    |none=>exact⟨c,by rw[q];rfl⟩
  rcases hx' with hx'|hx'<;>obtain⟨k,hk,e⟩:=bN' hx'
  .rcases e with e|⟨e,_⟩
   .exact fin k hk (.inl e.symm)
   .exact fin k hk (.inr e)
  .rcases e with e|⟨e,_⟩
   .exact fin k hk (.inr e.symm)
   .exact fin k hk (.inr e)
 .rcases lk x c h with q|⟨q,_⟩
  .have:=(newC x c q).2
   show s.heap.objs.size<=c
   omega
  .have hf':((cellsFrom (s.heap.objs.size+1) scope.names []).lookup x).isSome=true:=hf
   rw[q]at hf'
   cases hf'
 .refine⟨?_,fun x c h=>?_⟩
  .show b≠s.heap.objs.size
   exact aA (hlt b hb)
  .rcases lk x c h with q|⟨_,q⟩
   .intro e
    rw[e]at q
    exact absurd (am (hlt b hb) (aF (Nat.le_succ _) (newC x b q).2)) (bp _)
   .exact(hex b hb).2.2.2.2.1 x c q
 .rcases(hex b hb).2.2.2.1 with z|z
  .exact I.ok.noex b o e z
  .exact absurd (am (au e) (aF I.ok.bsz z)) (bp _)
 .intro z
  rcases ay.mp (I.stkSub b z)with e|e
  .exact(hex b hb).2.1 e
  .exact(hex b hb).2.2.1 e
 .show(a4' s.heap scope.names).Ns s.heap.objs.size _
  exact(Heap.Ns.new s.heap (.type "dict")).keeps (pushCells_keeps _ _)
 .obtain⟨h2,hno⟩:=d2' h2
  have h3':(relabel scope X.env).names.lookup x=some .local\/(relabel scope X.env).names.lookup x=some .cell\/(relabel scope X.env).names.lookup x=some .free:=h3
  have h3k:∃k',(relabel scope X.env).names.lookup x=some k'/\(k'=.local\/k'=.cell\/k'=.free):=by
   rcases h3' with z|z|z
   .exact⟨_,z,.inl rfl⟩
   .exact⟨_,z,.inr (.inl rfl)⟩
   .exact⟨_,z,.inr (.inr rfl)⟩
  obtain⟨k',hk',hkk⟩:=h3k
  obtain⟨k,hk,e⟩:=bN' hk'
  have hfree:k=.free:=by
   rcases e with e|⟨e,_⟩
   .subst e
    rcases hkk with z|z|z
    .subst z;exact absurd (hown i x h1 (.inl hk)) hno
    .subst z;exact absurd (hown i x h1 (.inr hk)) hno
    .exact z
   .exact e
  subst hfree
  have hm:=PySem.mem_of_lookup hk
  have hv:Vis X.env.scope x:=by
   rcases S.free x hm with z|z
   .exact .inr (.inl z)
   .exact .inr (.inr z)
  obtain⟨m,hn,hl⟩:=I.loc
  obtain⟨u,r,l⟩:=hl i x v h1 h2 hv
  refine⟨u,r,?_⟩
  have hkind:(X.comp scope s H ex).env.kindOf x=some .cell\/(X.comp scope s H ex).env.kindOf x=some .free:=by
   show(relabel scope X.env).names.lookup x=some .cell\/(relabel scope X.env).names.lookup x=some .free
   rcases e with e|⟨_,e⟩
   .subst e;exact .inr hk'
   .subst e;exact .inl hk'
  have hcc:∃c,X.env.cells.lookup x=some c/\s.heap.IsCell c (some u):=by
   rcases l with⟨kk,_⟩|⟨_,c,e1,e2⟩
   .rcases S.free x hm with z|z
    .rw[z]at kk;cases kk
    .rw[z]at kk;cases kk
   .exact⟨c,e1,e2⟩
  obtain⟨c,e1,e2⟩:=hcc
  refine .inr ⟨hkind,c,?_,e2.keeps keep⟩
  show(cellsFrom (s.heap.objs.size+1) scope.names (bR' X.env.cells scope.names [])).lookup x=some c
  rw[aJ',List.lookup_append]
  have hnone:(cellsFrom (s.heap.objs.size+1) scope.names []).lookup x=none:=by
   cases z:(cellsFrom (s.heap.objs.size+1) scope.names []).lookup x with
   |none=>rfl
   |some d=>
    exfalso
    have q1:=S.one x (bW' (PySem.mem_of_lookup z))
    rw[hk]at q1
    cases q1
  obtain⟨c',q⟩:=hcf x hm
  have q':=hcl x c' q
  rw[e1]at q'
  cases q'
  rw[hnone,q]
  rfl
 .rcases lk x c h with q|⟨_,q⟩
  .exact⟨_,(newC x c q).1⟩
  .obtain⟨v,z⟩:=I.cell x c q
   exact⟨v,z.keeps keep⟩
 .rcases lk x c h with q|⟨_,q⟩
  .have:=(newC x c q).2
   exact fresh c ⋯
  .exact I.freeC x c q
 .rw[d1']
  exact I.len
end
section
variable {X:Cx} {p_:List (Addr×Obj)} {σ:St} {H H':Hp} {s s':Shared} {scope:Scope} {ex:List Addr} {own:List Nat}
theorem q5' {P:Program} {w:World} {h h':Heap} {a:Addr} (x:HOk P w H h) (hn:H a=none) (hs:∀b o,b≠a->h.get? b=some o->h'.get? b=some o):HOk P w H h':=fun b ob e=>
 (x b ob e).stay (fun c w' hc q=>hs c w' (by
  rintro rfl
  rcases hc with rfl|hc
  .rw[hn]at e;cases e
  .rw[hn]at hc;cases hc) q) (fun _ q=>q) fun _ _ q=>q
theorem cW' {σ':St} {p_':List (Addr×Obj)} {h':Heap} (I:Inv X p_ σ H s) (hex:∀b∈ex,cP' X p_ H b) (J:Inv (X.comp scope s H ex) p_' σ' H' s') (hs:bG s.heap.objs.size s'.heap h'):
  Inv X p_ σ H' { s' with heap:=h' }:=by
 have ne:∀b o,s.heap.get? b=some o->b≠s.heap.objs.size:=fun b o e=>aA (au e)
 have u:Un (frs X.stack) ex H H' s.heap s'.heap:=J.base
 have hf:H' s.heap.objs.size=none:=J.free
 refine I.call' (s':={ s' with heap:=h' }) (ch:=ex) J.os ⟨fun b o e n hb hx=>?_,fun b o e n hb hx=>?_,u.free,fun b o e hx=>?_,u.tups,u.frzs,u.tbls⟩ (q5' J.hok hf fun b o hb e=>(hs.2 b hb).trans e) J.bare fun b hb=>?_
 .exact(hs.2 b (ne b o e)).trans (u.keep b o e n hb hx)
 .obtain⟨sl,q⟩:=u.slot b o e n hb hx
  exact⟨sl,(hs.2 b (ne b o e)).trans q⟩
 .obtain⟨o',q⟩:=u.there b o e hx
  exact⟨o',(hs.2 b (ne b o e)).trans q⟩
 .obtain⟨f0,f1,f2,f3,f4,f5⟩:=hex b hb
  exact⟨f3,f1,f4,f5⟩
end
def PTs (X:Cx) (ifs:List Expr) (t:TT):Prop:=∀(p_:List (Addr×Obj)) (s:Shared) (σ:St) (H:Hp) (Q:Bool->Hp->Prop),Inv X p_ σ H s->t σ H Q->
 wpAny (model X.prog X.w) X.A (forIn ifs true fun c r=>if r=true then do let ok <- isTrue c X.env (eval c X.env);pure (ForInStep.yield ok)else pure (ForInStep.yield r)) (TP X p_ σ Q) X.xe s
theorem q6' {X:Cx}:PTs X [] (fun _ H Q=>Q true H):=fun p_ s σ H Q I h=>wpAny_tests_nil ⟨H,I,h⟩
theorem q8' {X:Cx} {c:Expr} {t:TT} (hc:PT X c t):PTs X [c] t:=fun p_ s σ H Q I h=>wpAny_tests_one (hc p_ s σ H Q I h)
def Ext (ws:List Nat) (σ σ':St):Prop:=σ'.length=σ.length/\∀j,j∉ws->σ'[j]?=σ[j]?
theorem Ext.refl {ws:List Nat} {σ:St}:Ext ws σ σ:=⟨rfl,fun _ _=>rfl⟩
theorem Ext.trans {ws:List Nat} {σ σ1 σ2:St} (a:Ext ws σ σ1) (b:Ext ws σ1 σ2):Ext ws σ σ2:=⟨b.1.trans a.1,fun j hj=>(b.2 j hj).trans (a.2 j hj)⟩
theorem Ext.mono {ws ws':List Nat} {σ σ1:St} (a:Ext ws σ σ1) (h:∀j∈ws,j∈ws'):Ext ws' σ σ1:=⟨a.1,fun j hj=>a.2 j fun z=>hj (h j z)⟩
theorem Ext.clr {ws:List Nat} {σ:St}:Ext ws σ (clr ws σ):=⟨d1' _ _,fun j hj=>hL' hj⟩
theorem Ext.back {ws:List Nat} {σ σ':St} (a:Ext ws (L2.clr ws σ) σ') (i:Nat) (v:V) (h:(L2.clr ws σ)[i]?=some (some v)):σ'[i]?=some (some v):=by
 obtain⟨_,q⟩:=d2' h
 rw[a.2 i q]
 exact h
def tC' (ws:List Nat) (g:TG):Prop:=∀(x:V) (σ:St) (H:Hp) (Q:St->Hp->Prop),g x σ H Q->g x σ H fun σ2 H2=>Q σ2 H2/\Ext ws σ σ2
theorem kG' {i:Nat} {ws:List Nat} (h:i∈ws):tC' ws (cQ' i):=fun x σ H Q q=>⟨q,by simp,fun j hj=>by
 have:i≠j:=fun z=>hj (z ▸ h)
 rw[cM this]⟩
def aZ' (e:Expr) (d:Nat) (tg iter:Expr) (ifs:List Expr) (nx:Sem Unit) (it acc:Value) (env:Env):Sem Fin:=do
 standAt iter.pos
 match <- pyNext it with
 |none=>pure (.done .next)
 |some v=>
  letOwnedTupleGo tg it v
  assign tg env v
  let mut ok:=true
  for c in ifs do
   if ok then ok <- isTrue c env (eval c env)
  if ok then nx
  again (.compLoop e d it acc env)
abbrev TL (α:Type):=St->α->Hp->(α->Hp->Prop)->Prop
def bO' {α:Type} (X:Cx) (D:Addr) (Is:α->Obj->Prop) (ws:List Nat) (code:Sem Unit) (t:TL α):Prop:=
 ∀(p_:List (Addr×Obj)) (s:Shared) (σ:St) (H:Hp) (a:α) (o:Obj) (N:α->Hp->Prop),Inv X p_ σ H s->cP' X p_ H D->s.heap.get? D=some o->Is a o->t σ a H N->
  wpAny (model X.prog X.w) X.A code (fun _ s'=>∃σ' a' o' H',Inv X p_ σ' H' s'/\Ext ws σ σ'/\s'.heap.get? D=some o'/\Is a' o'/\H' D=none/\N a' H') (fun _ _=>False) s
def a0' {α:Type} (ws:List Nat) (g:TG) (tc:TT) (as':TL α) (J:It):TL α:=fun σ a H1 N=>
 ∃W:Nat->Nat->α->Hp->Prop,(∃m,W 0 m a H1)/\∀i m b H,W i m b H->
  (J.stop i H/\N b H)\/(J.go i H/\∀x H',J.yld i H x H'->g x (clr ws σ) H' fun σ2 H2=>tc σ2 H2 fun ok H3=>
   if ok=true then as' σ2 b H3 (fun c H4=>∃m',m'<m/\W (i+1) m' c H4)else ∃m',m'<m/\W (i+1) m' b H3)
theorem d3' {α:Type} {Is:α->Obj->Prop} {X:Cx} {e:Expr} {d:Nat} {tg iter:Expr} {ifs:List Expr} {nx:Sem Unit} {it D:Addr} {fp:List Addr} {tn:Nat->Heap->Prop} {J:It} {g:TG} {tc:TT} {as':TL α} {ws ws':List Nat}
  (hxe:X.xe=fun _ _=>False) (hcalm:X.calm=true)
  (hq:(Code.compLoop e d (.ref it) (.ref D) X.env).quiet=true) (hu:X.A.under (Code.compLoop e d (.ref it) (.ref D) X.env)=X.A)
  (hT:(model X.prog X.w).den (.compLoop e d (.ref it) (.ref D) X.env)=(aZ' e d tg iter ifs nx (.ref it) (.ref D) X.env).onRaise (fun x=>do noteFrame x X.env;theTreesLotGoes x))
  (T:Turn X.prog X.w X.K tg J fp it tn) (hg:PG X tg g) (hge:tC' ws g) (ht:PTs X ifs tc) (hn:bO' X D Is ws' nx as') (hws:∀j∈ws',j∈ws) (hIs:∀a o,Is a o->∀v,o.data≠.cell v) (hDf:D∉fp)
  {p_:List (Addr×Obj)} {s:Shared} {σ:St} {H:Hp} {a:α} {o:Obj} {N:α->Hp->Prop} (I:Inv X p_ σ H s) (hf:∀b∈fp,cP' X p_ H b) (hD:cP' X p_ H D) (ho:s.heap.get? D=some o) (ha:Is a o) (h0:tn 0 s.heap)
  (hw:a0' ws g tc as' J σ a H N):
  codeAny (model X.prog X.w) X.A (.compLoop e d (.ref it) (.ref D) X.env) (fun r s'=>r=.ok .next/\∃a' o' H',Inv X p_ (clr ws σ) H' s'/\s'.heap.get? D=some o'/\Is a' o'/\H' D=none/\N a' H') s:=by
 obtain⟨W,⟨m0,w0⟩,turn⟩:=hw
 have stat:∀{H':Hp} {pl:List (Addr×Obj)},(∀b∈D :: fp,H' b=none)->(∀b∈D :: fp,cP' X p_ H' b):=fun {H' pl} hn b hb=>by
  rcases ay.mp hb with rfl|hb'
  .exact⟨hn _ aE,hD.2⟩
  .exact⟨hn b hb,(hf b hb').2⟩
 refine codeAny_loop hq (fun n s'=>∃i b ob H',Inv X p_ (clr ws σ) H' s'/\tn i s'.heap/\(∀b∈D :: fp,H' b=none)/\s'.heap.get? D=some ob/\Is b ob/\W i n b H') ?_ m0
  ⟨0,a,o,H,I.weak (d1' _ _) (fun i v q=>(d2' q).1),h0,fun b hb=>by
   rcases ay.mp hb with rfl|hb'
   .exact hD.1
   .exact(hf b hb').1,ho,ha,w0⟩
 rintro n s3 ⟨i,b,ob,H3,I3,st3,fr3,o3,is3,w3⟩
 rw[hu,hT]
 refine wpAny_noted ?_
 have hE:∀{β:Type} {c:Sem β} {Q:β->Shared->Prop} {s:Shared} {E:Value->Shared->Prop},wpAny (model X.prog X.w) X.A c Q (fun _ _=>False) s->wpAny (model X.prog X.w) X.A c Q E s:=fun h=>dh h (fun _ _ q=>q) fun _ _ q=>q.elim
 refine hE ?_
 unfold aZ'
 refine aa (cn (aa ?_))
 have hxeE:∀{β:Type} {c:Sem β} {Q:β->Shared->Prop} {s:Shared},wpAny (model X.prog X.w) X.A c Q X.xe s->wpAny (model X.prog X.w) X.A c Q (fun _ _=>False) s:=fun h=>by rw[hxe]at h;exact h
 have pD:Inv X (p_++bz' [D] s3.heap) (clr ws σ) H3 s3:=I3.pinned (fun b hb=>by
  have e:b=D:=by simpa using hb
  subst e
  exact stat (pl:=[]) fr3 b aE) (fun b hb=>by
  have e:b=D:=by simpa using hb
  subst e
  exact⟨ob,o3,hIs _ _ is3⟩)
 have mD:(D,ob)∈bz' [D] s3.heap:=az' (by simp) o3
 have fpD:∀{H':Hp},(∀b∈fp,H' b=none)->∀b∈fp,cP' X (p_++bz' [D] s3.heap) H' b:=fun {H'} hn b hb=>by
  obtain⟨_,f1,f2,f3,f4,f5⟩:=hf b hb
  refine⟨hn b hb,f1,f2,f3,f4,fun p hp=>?_⟩
  rcases aL.mp hp with q|q
  .exact f5 p (br _ q)
  .rcases aL.mp q with q|q
   .exact f5 p (aj _ q)
   .have e:p.1=D:=by simpa using(dV' q).1
    rw[e]
    rintro rfl
    exact hDf hb
 have fr3':∀b∈fp,H3 b=none:=fun b hb=>fr3 b (aC _ hb)
 rcases turn i n b H3 w3 with⟨stop,qn⟩|⟨go,step⟩
 .refine thn (T.done X rfl rfl rfl hcalm i _ s3 _ H3 _ pD (fpD fr3') st3 stop) fun r s4 ⟨hr,I4⟩=>?_
  subst hr
  have q4:=I4.pin (D,ob) (aj _ (aj _ mD))
  exact ab ⟨rfl,b,ob,H3,I4.unpinned,q4.1,is3,q4.2.1,qn⟩
 .refine thn (T.item X rfl rfl rfl hcalm i _ s3 _ H3 _ pD (fpD fr3') st3 go) fun r s4 ⟨u,hr,h4⟩=>?_
  subst hr
  refine aa (thn h4 fun _ s5 ⟨x,H5,I5,r5,y5,st5,fr5⟩=>?_)
  have I5':=I5.pinned (fpD fr5) (T.obj _ _ st5)
  refine aa (thn (hxeE (hg _ s5 _ H5 x u _ I5' r5 (hge x _ H5 _ (step x H5 y5)))) fun _ s6 ⟨σ6,H6,I6,q6,x6⟩=>?_)
  refine aa (thn (hxeE (ht _ s6 σ6 H6 _ I6 q6)) fun ok s7 ⟨H7,I7,q7⟩=>?_)
  have q7D:=I7.pin (D,ob) (aj _ (br _ (aj _ mD)))
  have q7f:∀b∈fp,∀o,s5.heap.get? b=some o->s7.heap.get? b=some o/\H7 b=none:=fun b hb o e =>
   let q:=I7.pin (b,o) (aj _ (aj _ (az' hb e)))
   ⟨q.1,q.2.1⟩
  have st7:tn (i+1) s7.heap:=T.keep _ _ _ st5 fun b hb o e=>(q7f b hb o e).1
  have fr7:∀b∈fp,H7 b=none:=fun b hb=>by
   obtain⟨o,e,_⟩:=T.obj _ _ st5 b hb
   exact(q7f b hb o e).2
  have I7':Inv X p_ σ6 H7 s7:=I7.unpinned.unpinned
  cases ok with
  |false=>
   have q7':∃m',m'<n/\W (i+1) m' b H7:=q7
   obtain⟨m',hm,w7⟩:=q7'
   refine ab ⟨rfl,m',hm,i+1,b,ob,H7,I7'.weak ?_ x6.back,st7,fun c hc=>?_,q7D.1,is3,w7⟩
   .rw[x6.1]
   .rcases ay.mp hc with rfl|hc'
    .exact q7D.2.1
    .exact fr7 c hc'
  |true=>
   have I7p:=I7'.pinned (fun b hb=>stat (pl:=[]) (fun c hc=>by
    rcases ay.mp hc with rfl|hc'
    .exact q7D.2.1
    .exact fr7 c hc') b (aC _ hb)) (T.obj _ _ st7)
   have fD:cP' X (p_++bz' fp s7.heap) H7 D:=by
    obtain⟨_,f1,f2,f3,f4,f5⟩:=hD
    refine⟨q7D.2.1,f1,f2,f3,f4,fun p hp=>?_⟩
    rcases aL.mp hp with q|q
    .exact f5 p (br _ q)
    .rcases aL.mp q with q|q
     .exact f5 p (aj _ q)
     .intro z
      exact hDf (z ▸ (dV' q).1)
   refine aa (thn (hn _ s7 σ6 H7 b ob _ I7p fD q7D.1 is3 q7) fun _ s8 ⟨σ8,b8,o8,H8,I8,x8,e8,is8,n8,m',hm,w8⟩=>?_)
   have q8f:∀b∈fp,∀o,s7.heap.get? b=some o->s8.heap.get? b=some o/\H8 b=none:=fun b hb o e =>
    let q:=I8.pin (b,o) (aj _ (aj _ (az' hb e)))
    ⟨q.1,q.2.1⟩
   have x8':Ext ws (clr ws σ) σ8:=x6.trans (x8.mono hws)
   refine ab ⟨rfl,m',hm,i+1,b8,o8,H8,I8.unpinned.weak (by rw[x8'.1]) x8'.back,T.keep _ _ _ st7 fun b hb o e=>(q8f b hb o e).1,fun c hc=>?_,e8,is8,w8⟩
   rcases ay.mp hc with rfl|hc'
   .exact n8
   .obtain⟨o,e,_⟩:=T.obj _ _ st7 c hc'
    exact(q8f c hc' o e).2
def IsL (xs:List V) (o:Obj):Prop:=xs.length<=sizeLine/\∃(its:List Value) (n:Nat),ay' xs its/\o={ cls:=.type "list",data:=.seq its.toArray n }
theorem cX' (xs:List V) (o:Obj) (h:IsL xs o) (v:Option Value):o.data≠.cell v:=by
 obtain⟨_,its,n,_,rfl⟩:=h
 intro z
 cases z
def d4' (te:TE):TL (List V):=fun σ xs H N=>te σ H fun v H'=>xs.length<sizeLine/\N (xs++[v]) H'
theorem fv' {X:Cx} {D:Addr} {elt:Expr} {te:TE} (hxe:X.xe=fun _ _=>False) (he:PE X elt te):bO' X D IsL [] (do let _ <- call (.builtin "list.append") [.ref D,<- eval elt X.env]) (d4' te):=by
 intro p_ s σ H xs o N I hD ho hi hq
 have I1:Inv X (p_++bz' [D] s.heap) σ H s:=I.pinned (fun b hb=>by
  have e:b=D:=by simpa using hb
  subst e
  exact hD) (fun b hb=>by
  have e:b=D:=by simpa using hb
  subst e
  exact⟨o,ho,cX' _ _ hi⟩)
 have h1:=he _ s σ H _ I1 hq
 rw[hxe]at h1
 refine aa (thn h1 fun u s1 ⟨v,H1,J1,r1,z1,n1⟩=>?_)
 have q1:=J1.pin (D,o) (aj _ (aj _ (az' (by simp) ho)))
 obtain⟨zx,its,n,rv,rfl⟩:=hi
 have hl:=rv.length
 refine aa (wpAny_list_append_plain (items:=its.toArray) ⟨n,q1.1⟩ (fun h' hp hs=>?_) (by rw[ap,<- hl];exact zx))
 obtain⟨_,f1,f2,f3,f4,f5⟩:=hD
 have J2:Inv X p_ σ H1 { s1 with heap:=h' }:=J1.unpinned.turned (it:=D) (t':=s1.toks) (fun b o hb e=>(hs.2 b hb).trans e) q1.2.1 f1 f3 f4 f5
 obtain⟨n',hp⟩:=hp
 refine ab ⟨σ,xs++[v],_,H1,J2,Ext.refl,hp,⟨?_,its++[u],n',rv.append (.cons r1 .nil),?_⟩,q1.2.1,n1⟩
 .rw[ax];exact z1
 .simp
def aS' (e:Expr) (d:Nat) (iter:Expr) (acc:Value) (env:Env):Sem Unit:=do
 let x <- eval iter env
 standAt iter.pos
 let x <- foldedSetIterable iter env x
 let _ <- runOwn (.compStart e (d+1) (<- holding [x] (pyIter x)) acc env) env
theorem fw' {M:Model} {A:Around} {e:Expr} {d:Nat} {it acc:Value} {env:Env} {R:Result->Shared->Prop} {s:Shared}
  (hq:(Code.compStart e d it acc env).quiet=true) (hu:A.under (Code.compStart e d it acc env)=A) (hql:∀it',(Code.compLoop e d it' acc env).quiet=true)
  (hden:M.den (.compStart e d it acc env)=(compStart e d it acc env).onRaise (fun x=>do noteFrame x env;standAt theWindowsPlace)) (hg:∃g,(clausesOf e)[d]?=some g/\g.is_async=0)
  (h0:codeAny M A (.compLoop e d it acc env) R s) (h1:∀E,wpAny M A (pyIter it) (fun it' s'=>it'=it/\s'=s) E s):codeAny M A (.compStart e d it acc env) R s:=by
 refine codeAny_of_tree ?_
 rw[hu,hden]
 refine wpAny_notedAt ?_
 obtain⟨g,eg,ea⟩:=hg
 unfold compStart
 rw[eg]
 have e1:((some g:Option Comprehension).elim false (fun x=>x.is_async != 0))=false:=by
  show(g.is_async != 0)=false
  rw[ea];rfl
 rw[e1]
 show wpAny _ _ (ask >>= _) _ _ s
 refine aa (bE (wpAny_ite ?_))
 have fin:wpAny M A (again (.compLoop e d it acc env)) (fun fin s'=>match fin with | .done f=>R (.ok f) s' | .again c=>c.quiet=true/\codeAny M A c R s') (notedBy M A env fun x s'=>R (.error x) s') s:=ab ⟨hql it,h0⟩
 split
 .first
   |exact fin
   |exact aa fin
   |exact aa (ab fin)
 .refine aa (bR ?_)
  refine aa (cn ?_)
  refine aa (dh (h1 _) (fun it' s' q=>?_) fun _ _ q=>q)
  obtain⟨rfl,rfl⟩:=q
  exact fin
theorem iM' (own:List Nat) (σ:St):clr own (clr own σ)=clr own σ:=by
 apply bA
 intro i
 by_cases h:i∈own
 .have z:∀τ:St,(clr own τ)[i]?=none\/(clr own τ)[i]?=some none:=fun τ=>by
   cases q:(clr own τ)[i]? with
   |none=>exact .inl rfl
   |some o=>
    cases o with
    |none=>exact .inr rfl
    |some v=>exact absurd h (d2' q).2
  have hl:(clr own (clr own σ)).length=(clr own σ).length:=d1' _ _
  rcases z (clr own σ)with a|a<;>rcases z σ with b|b<;>rw[a,b]
  .have q1:=bi.mp a
   have q2:=(aN.mp b).1
   omega
  .have q1:=bi.mp b
   have q2:=(aN.mp a).1
   omega
 .rw[hL' h]
def hM' {α:Type} (wi:TI) (c:It->TL α):TL α:=fun σ a H N=>wi σ H fun J H1=>c J σ a H1 N
theorem dK' {α:Type} {Is:α->Obj->Prop} {X:Cx} {e:Expr} {d:Nat} {tg iter:Expr} {ifs:List Expr} {nx:Sem Unit} {D:Addr} {wi:TI} {g:TG} {tc:TT} {as':TL α} {ws ws':List Nat}
  (hxe:X.xe=fun _ _=>False) (hcalm:X.calm=true)
  (hq:∀it,(Code.compLoop e (d+1) it (.ref D) X.env).quiet=true) (hu:∀it,X.A.under (Code.compLoop e (d+1) it (.ref D) X.env)=X.A)
  (hq':∀it,(Code.compStart e (d+1) it (.ref D) X.env).quiet=true) (hu':∀it,X.A.under (Code.compStart e (d+1) it (.ref D) X.env)=X.A)
  (hT:∀it,(model X.prog X.w).den (.compLoop e (d+1) it (.ref D) X.env)=(aZ' e (d+1) tg iter ifs nx it (.ref D) X.env).onRaise (fun x=>do noteFrame x X.env;theTreesLotGoes x))
  (hS:∀it,(model X.prog X.w).den (.compStart e (d+1) it (.ref D) X.env)=(compStart e (d+1) it (.ref D) X.env).onRaise (fun x=>do noteFrame x X.env;standAt theWindowsPlace))
  (hcl:∃g,(clausesOf e)[d+1]?=some g/\g.is_async=0) (hfs:∀x,foldedSetIterable iter X.env x=pure x)
  (hi:PI X tg iter wi) (hg:PG X tg g) (hge:tC' ws g) (ht:PTs X ifs tc) (hn:bO' X D Is ws' nx as') (hws:∀j∈ws',j∈ws) (hIs:∀a o,Is a o->∀v,o.data≠.cell v):
  bO' X D Is ws (aS' e d iter (.ref D) X.env) (hM' wi (a0' ws g tc as')):=by
 intro p_ s σ H a o N I hD ho ha hw
 have I1:Inv X (p_++bz' [D] s.heap) σ H s:=I.pinned (fun b hb=>by
  have e:b=D:=by simpa using hb
  subst e
  exact hD) (fun b hb=>by
  have e:b=D:=by simpa using hb
  subst e
  exact⟨o,ho,hIs _ _ ha⟩)
 have h1:=hi _ s σ H _ I1 hw
 rw[hxe]at h1
 unfold aS'
 refine aa (thn h1 fun v s1 h2=>?_)
 refine aa (cn (aa (cV (hfs v) ?_)))
 refine aa (aH (thn h2 fun itv s2 h3=>?_))
 obtain⟨it,fp,tn,J,H2,rfl,I2,T,st2,f2,hc⟩:=h3
 have mD:(D,o)∈bz' [D] s.heap:=az' (by simp) ho
 have q2:=I2.pin (D,o) (aj _ (aj _ mD))
 have hDf:D∉fp:=fun z=>(f2 D z).2.2.2.2.2 (D,o) (aj _ (aj _ mD)) rfl
 have f2':∀b∈fp,cP' X p_ H2 b:=fun b hb=>by
  obtain⟨f0,f1,f2,f3,f4,f5⟩:=f2 b hb
  exact⟨f0,f1,f2,f3,f4,fun p hp=>f5 p (by
   rcases aL.mp hp with z|z
   .exact br _ z
   .exact aj _ (br _ z))⟩
 have L:=d3' (Is:=Is) (D:=D) hxe hcalm (hq _) (hu _) (hT _) T hg hge ht hn hws hIs hDf I2.unpinned f2' ⟨q2.2.1,hD.2⟩ q2.1 ha st2 hc
 have L2:=fw' (hq' _) (hu' _) hq (hS _) hcl L (fun E=>T.self X.A 0 s2 _ E st2 ⟨rfl,rfl⟩)
 refine aa (wpAny_runOwn (codeAny_mono L2 fun r s3 h3=>?_))
 obtain⟨rfl,a',o',H',J',e',is',n',hN⟩:=h3
 exact ab ⟨_,a',o',H',J',Ext.clr,e',is',n',hN⟩
def hN' (own:List Nat) (wi:TI) (g:TG) (tc:TT) (as':TL (List V)):TE:=fun σ H Q=>wi σ H fun J H1=>a0' own g tc as' J σ [] H1 fun xs H2=>∀p,H2 p=none->Q (.ref p) (upd H2 p (.lst xs))
structure CompIn (X:Cx) (e:Expr) (scope:Scope) (tg:Expr) (iter:Expr) (ifs:List Expr) (nx:Addr->Env->Sem Unit) (g:TG) (tc:TT) (as':TL (List V)) (own:List Nat):Prop where
 sc:CompSc X scope
 ow:∀i x,X.N[i]?=some x->(scope.names.lookup x=some .local\/scope.names.lookup x=some .cell)->i∈own
 cl:∃gs,clausesOf e=⟨tg,iter,ifs,0⟩ :: gs
 fs:∀x,foldedSetIterable iter X.env x=pure x
 calm:X.calm=true
 q:∀it D env,(Code.compLoop e 0 it (.ref D) env).quiet=true/\(Code.compStart e 0 it (.ref D) env).quiet=true
 u:∀A it D env,Around.under A (Code.compLoop e 0 it (.ref D) env)=A/\Around.under A (Code.compStart e 0 it (.ref D) env)=A
 T:∀P w it D env,(model P w).den (.compLoop e 0 it (.ref D) env)=(aZ' e 0 tg iter ifs (nx D env) it (.ref D) env).onRaise (fun x=>do noteFrame x env;theTreesLotGoes x)
 S:∀P w it D env,(model P w).den (.compStart e 0 it (.ref D) env)=(compStart e 0 it (.ref D) env).onRaise (fun x=>do noteFrame x env;standAt theWindowsPlace)
 ge:tC' own g
 inn:∀s0 H0 ex D,PG (X.comp scope s0 H0 ex) tg g/\PTs (X.comp scope s0 H0 ex) ifs tc/\∃ws',(∀j∈ws',j∈own)/\bO' (X.comp scope s0 H0 ex) D IsL ws' (nx D (X.comp scope s0 H0 ex).env) as'
section
variable {X:Cx} {e:Expr} {scope:Scope} {tg iter:Expr} {ifs:List Expr} {nx:Addr->Env->Sem Unit} {g:TG} {tc:TT} {as':TL (List V)} {own:List Nat} {wi:TI}
theorem iN' (C:CompIn X e scope tg iter ifs nx g tc as' own) (hi:PI X tg iter wi) {p_:List (Addr×Obj)} {s:Shared} {σ:St} {H:Hp} {R:V->Hp->Prop} (I:Inv X p_ σ H s) (hw:hN' own wi g tc as' σ H R)
  {use:Option (Value->Sem Unit)} {Q:Value->Shared->Prop} {pos:Pos}
  (fin:∀(s3 s':Shared) (H0 H':Hp) (ex:List Addr) (D:Addr) (xs:List V) (o:Obj) (σ':St),Inv X p_ σ H0 s3->(∀b∈ex,cP' X p_ H0 b)->Inv (X.comp scope s3 H0 ex) [] σ' H' s'->s'.heap.get? D=some o->D<s3.heap.objs.size->X.s₀.heap.objs.size<=D->cP' X p_ H0 D->IsL xs o->H' D=none->R (.ref D) (upd H' D (.lst xs))->
   compPost (model X.prog X.w) X.A X.xe use Q (.ref D) s3.heap.objs.size (.ok .next) s'):
  wpAny (model X.prog X.w) X.A (comprehension e scope X.env pos (newList []) false (eval iter X.env) use) Q X.xe s:=by
 obtain⟨gs,hcl⟩:=C.cl
 refine wpAny_comprehension_free hcl C.fs (kF' fun n hn=>I.ok.has n (C.sc.free n hn)) C.sc.kind C.sc.names ?_
 refine thn (hi p_ s σ H _ I hw) fun v s1 h1=>thn h1 fun itv s2 h2=>?_
 obtain⟨it,fp,tn,J,H2,rfl,I2,T,st2,f2,hc⟩:=h2
 refine aI (cV' ?_)
 have keep:∀b o,s2.heap.get? b=some o->(s2.heap.push { cls:=.type "list",dict:=none,data:=.seq ([]:List Value).toArray }).get? b=some o:=fun b o e=>af _ e
 have I3:Inv X p_ σ H2 { s2 with heap:=s2.heap.push { cls:=.type "list",dict:=none,data:=.seq ([]:List Value).toArray } }:=I2.kept (t':=s2.toks) keep
 have hsz:(s2.heap.push { cls:=.type "list",dict:=none,data:=.seq ([]:List Value).toArray }).objs.size=s2.heap.objs.size+1:=bg ..
 have fD:cP' X p_ H2 s2.heap.objs.size:=I2.fpOk (ag _) (I2.hok.fresh (ag _))
 have hlt:∀b∈fp,b<s2.heap.objs.size:=fun b hb=>by
  obtain⟨o,e,_⟩:=T.obj _ _ st2 b hb
  exact au e
 have hDf:s2.heap.objs.size∉fp:=fun z=>bp _ (hlt _ z)
 have hex:∀b∈s2.heap.objs.size :: fp,cP' X p_ H2 b:=fun b hb=>by
  rcases ay.mp hb with rfl|hb
  .exact fD
  .exact f2 b hb
 generalize hs3:({ s2 with heap:=s2.heap.push { cls:=.type "list",dict:=none,data:=.seq ([]:List Value).toArray } }:Shared)=s3 at *
 have hs3s:s3.heap.objs.size=s2.heap.objs.size+1:=by rw[<- hs3];exact hsz
 have hlt3:∀b∈s2.heap.objs.size :: fp,b<s3.heap.objs.size:=fun b hb=>by
  rw[hs3s]
  rcases ay.mp hb with rfl|hb
  .exact cF _
  .exact bB (hlt b hb)
 have J0:=e4' (own:=own) I3 hex hlt3 C.sc C.ow
 obtain⟨c1,c2,ws',c4,c5⟩:=C.inn s3 H2 (s2.heap.objs.size :: fp) s2.heap.objs.size
 have kp:∀b o,s2.heap.get? b=some o->(a4' s3.heap scope.names).get? b=some o:=fun b o e=>pushCells_keeps _ _ b o (af _ (by rw[<- hs3];exact keep b o e))
 have oD:(a4' s3.heap scope.names).get? s2.heap.objs.size=some { cls:=.type "list",dict:=none,data:=.seq ([]:List Value).toArray }:=pushCells_keeps _ _ _ _ (af _ (by rw[<- hs3];exact al _ rfl))
 have stat:∀b∈s2.heap.objs.size :: fp,cP' (X.comp scope s3 H2 (s2.heap.objs.size :: fp)) [] H2 b:=fun b hb=>
  ⟨(hex b hb).1,(J0.ok.exf b hb).1,J0.ok.exfs b hb,.inl hb,(J0.ok.exf b hb).2,fun p hp=>absurd (show p∈([]:List (Addr×Obj)) from hp) (by simp)⟩
 have T':Turn (X.comp scope s3 H2 (s2.heap.objs.size :: fp)).prog (X.comp scope s3 H2 (s2.heap.objs.size :: fp)).w (X.comp scope s3 H2 (s2.heap.objs.size :: fp)).K tg J fp it tn:=T
 have hc':a0' own g tc as' J (clr own σ) [] H2 (fun xs H2=>∀p,H2 p=none->R (.ref p) (upd H2 p (.lst xs))):=by
  obtain⟨W,w0,turn⟩:=hc
  refine⟨W,w0,?_⟩
  rw[iM']
  exact turn
 have st3:tn 0 ({ s3 with heap:=a4' s3.heap scope.names }:Shared).heap:=T.keep _ _ _ st2 fun b hb o e=>kp b o e
 have L:=d3' (X:=X.comp scope s3 H2 (s2.heap.objs.size :: fp)) (Is:=IsL) (D:=s2.heap.objs.size) rfl C.calm (C.q _ _ _).1 (C.u _ _ _ _).1 (C.T _ _ _ _ _) T' c1 C.ge c2 c5 c4 cX' hDf J0
  (fun b hb=>stat b (aC _ hb)) (stat _ aE) oD ⟨aT _,[],0,.nil,rfl⟩ st3 hc'
 have L2:=fw' (C.q _ _ _).2 (C.u _ _ _ _).2 (fun it'=>(C.q it' _ _).1) (C.S _ _ _ _ _) ⟨_,by rw[hcl];rfl,rfl⟩ L (fun E=>T.self _ 0 _ _ E st3 ⟨rfl,rfl⟩)
 refine codeAny_mono L2 fun r s' h=>?_
 obtain⟨rfl,xs,o',H',J',e',is',n',hN⟩:=h
 exact fin s3 s' H2 H' _ _ xs o' _ I3 hex J' e' (hlt3 _ aE) I2.sz fD is' n' (hN _ n')
end
section
variable {X:Cx} {p_:List (Addr×Obj)} {σ:St} {H H':Hp} {s s':Shared} {D:Addr} {o:HO}
theorem Inv.track (I:Inv X p_ σ H s) (f:cP' X p_ H D) (h0:X.s₀.heap.objs.size<=D) (new:aA' X.prog X.w (upd H D o) s.heap D o):Inv X p_ σ (upd H D o) s:=by
 obtain⟨f0,f1,f2,f3,f4,f5⟩:=f
 have ne:∀b ob,X.s₀.heap.get? b=some ob->b≠D:=fun b ob e=>aA (am (au e) h0)
 have neT:∀b u,H b=some u->b≠D:=fun b u e z=>by rw[z,f0]at e;cases e
 refine⟨I.ok,I.os,I.bare,⟨I.base.keep,I.base.slot,fun b ob e n hx=>by rw[ae' (ne b ob e)];exact I.base.free b ob e n hx,I.base.there,fun b xs e=>?_,fun b ob u e=>?_,fun b ps e=>?_⟩,I.loc,I.cell,?_,fun x c e=>?_,fun p hp=>?_,fun b u e=>?_,I.len⟩
 .have q:=I.base.tups b xs e
  rw[ae' (neT b _ q)];exact q
 .have q:=I.base.frzs b ob u e
  rw[ae' (neT b _ q)];exact q
 .obtain⟨m,q⟩:=I.base.tbls b ps e
  exact⟨m,by rw[ae' (neT b _ q)];exact q⟩
 .rw[ae' (Ne.symm f1)];exact I.free
 .rw[ae' (f4 x c e)];exact I.freeC x c e
 .obtain⟨e,n,r⟩:=I.pin p hp
  refine⟨e,?_,r⟩
  rw[ae' (f5 p hp)];exact n
 .by_cases hb:b=D
  .subst hb
   rw[ab']at e;cases e
   exact new
  .rw[ae' hb]at e
   exact(I.hok b u e).stay (fun _ _ _ q=>q) (fun c q=>by rw[ae' (neT c _ q)];exact q) fun c xs q=>by rw[ae' (neT c _ q)];exact q
end
section
variable {X:Cx} {e:Expr} {scope:Scope} {tg iter:Expr} {ifs:List Expr} {nx:Addr->Env->Sem Unit} {g:TG} {tc:TT} {as':TL (List V)} {own:List Nat} {wi:TI}
theorem hO' (C:CompIn X e scope tg iter ifs nx g tc as' own) (hi:PI X tg iter wi) {pos:Pos} (he:eval e X.env=comprehension e scope X.env pos (newList []) false (eval iter X.env)):PE X e (hN' own wi g tc as'):=by
 intro p_ s σ H Q I hw
 rw[he]
 refine iN' C hi I hw fun s3 s' H0 H' ex D xs o σ' I3 hex J e' hlt h0 fD is' n' hR=>?_
 obtain⟨m,hn,_⟩:=J.loc
 refine⟨m,hn,fun h' hs=>?_⟩
 have J2:=cW' I3 hex J hs
 obtain⟨z,its,n,rv,rfl⟩:=is'
 have neC:D≠s3.heap.objs.size:=aA hlt
 refine⟨.ref D,upd H' D (.lst xs),J2.track (o:=.lst xs) ⟨n',fD.2⟩ h0 ⟨z,its,n,rv,(hs.2 D neC).trans e'⟩,rfl,hR⟩
theorem jA' (C:CompIn X e scope tg iter ifs nx g tc as' own) (hi:PI X tg iter wi) {i:Nat} {y:Str} {py pos pos2:Pos} (hN:X.N.Nodup) (hy:X.N[i]?=some y) (hx:Loc X.env.scope y) (hf:X.fn y=true\/X.env.scope.names.lookup y=some .local)
  (he:evalThenUse e X.env (assign (.Name y py) X.env)=(do let _ <- comprehension e scope X.env pos2 (newList []) false (eval iter X.env) (some (assign (.Name y py) X.env))))
  (hsw:swapsWith e (some (.Name y py)) pos.line X.env=pure true):PS X (.Assign [.Name y py] e pos) (j9' (hN' own wi g tc as') (cQ' i)):=by
 intro p_ s σ H D I hw
 rw[exec_Assign_Name_used _ _ _ _ hsw]
 refine aa (cn (aa ?_))
 rw[he]
 refine aa (thn (Q:=fun _ s'=>SP X p_ D .next s') (iN' C hi I hw fun s3 s' H0 H' ex D' xs o σ' I3 hex J e' hlt h0 fD is' n' hR=>?_) fun _ s' q=>ab (ab q))
 obtain⟨m,hn,_⟩:=J.loc
 have J2:Inv X p_ σ H' s':=cW' I3 hex J (Heap.SameBut.refl ..)
 obtain⟨z,its,n,rv,rfl⟩:=is'
 have neC:D'≠s3.heap.objs.size:=aA hlt
 have J3:Inv X p_ σ (upd H' D' (.lst xs)) s':=J2.track ⟨n',fD.2⟩ h0 ⟨z,its,n,rv,e'⟩
 have fC:cP' X p_ H0 s3.heap.objs.size:=I3.fpOk (ag _) (I3.hok.fresh (ag _))
 refine wpAny_assign_Name (dU' J3 hN hy hx (v:=.ref D') rfl (fun s'' J4 hs=>?_) hf)
 obtain⟨a,hsa,ha⟩:=hs
 have haC:s3.heap.objs.size≠a:=by
  rcases ha with rfl|ha
  .exact fC.2.1
  .exact fun q=>fC.2.2.2.2.1 _ _ ha q.symm
 have hn':s'.heap.Ns s3.heap.objs.size m:=hn
 refine⟨m,hn'.sameBut hsa haC,fun h' hs'=>?_⟩
 have J5:Inv X p_ (σ.set i (some (.ref D'))) (upd H' D' (.lst xs)) { s'' with heap:=h' }:=J4.turned (it:=s3.heap.objs.size) (t':=s''.toks) (fun b ob hb q=>(hs'.2 b hb).trans q) (by rw[ae' (Ne.symm neC)];exact J.free) fC.2.1 fC.2.2.2.1 fC.2.2.2.2.1 fC.2.2.2.2.2
 exact⟨_,_,J5,hR⟩
end
def cY':Bool->Heap->Addr->Addr->Nat->Prop
 |true,h,it,a,i=>h.IsTupleIter it a i
 |false,h,it,a,i=>h.IsListIter it a i
def fx':Bool->Heap->Addr->Array Value->Prop
 |true,h,a,xs=>h.IsTuple a xs
 |false,h,a,xs=>h.IsList a xs
theorem cY'.obj {k:Bool} {h:Heap} {it a:Addr} {i:Nat} (x:cY' k h it a i):∃o,h.get? it=some o/\o.data=.fields #[.ref a,.int i 0]:=by
 cases k
 .obtain⟨o,e,_,d⟩:=x;exact⟨o,e,d⟩
 .obtain⟨o,e,_,d⟩:=x;exact⟨o,e,d⟩
theorem cY'.at {k:Bool} {h h':Heap} {it a:Addr} {i:Nat} (x:cY' k h it a i) (hk:∀o,h.get? it=some o->h'.get? it=some o):cY' k h' it a i:=by
 cases k
 .obtain⟨o,e,r⟩:=x;exact⟨o,hk o e,r⟩
 .obtain⟨o,e,r⟩:=x;exact⟨o,hk o e,r⟩
theorem fx'.at {k:Bool} {h h':Heap} {a:Addr} {xs:Array Value} (x:fx' k h a xs) (hk:∀o,h.get? a=some o->h'.get? a=some o):fx' k h' a xs:=by
 cases k
 .obtain⟨o,e,r⟩:=x;exact⟨o,hk o e,r⟩
 .obtain⟨o,e,r⟩:=x;exact⟨o,hk o e,r⟩
section
variable {prog:Program} {w:World} {A:Around} {E:Value->Shared->Prop} {s:Shared}
theorem bl' {k:Bool} {it l:Addr} {i:Nat} {items:Array Value} {x:Value} {Q:Value->Shared->Prop} (hit:cY' k s.heap it l i) (hl:fx' k s.heap l items) (hx:items[i]?=some x)
  (hQ:∀h',cY' k h' it l (i+1)->bG it s.heap h'->Q x { s with heap:=h' }):wpAny (model prog w) A (Builtin.SmallTypes.nextOf (.ref it)) Q E s:=by
 cases k
 .exact wpAny_nextOf_list_item hit hl hx hQ
 .have hit:s.heap.IsTupleIter it l i:=hit
  have hl:s.heap.IsTuple l items:=hl
  obtain⟨o,ho,hc,hd⟩:=id hit
  obtain⟨ol,hol,_,nl,hdl⟩:=hl
  unfold Builtin.SmallTypes.nextOf
  refine aa (aQ (name:=Str.ofString "__next__") hit.typeIs F.slot_tuple_iterator_next
   (aO F.slot_tuple_iterator_next hit.typeIs F.entry_tuple_iterator_next ?_ (F.args_tuple_iterator_next_1 _)))
  show wpAny _ _ (field (.ref it) 0 >>= _) _ _ s
  refine aa (bo ho hd (x:=.ref l) rfl ?_)
  show wpAny _ _ (if(Value.ref l == Value.none)=true then _ else _) _ _ s
  rw[if_neg (show ¬((Value.ref l == Value.none)=true) from ak)]
  show wpAny _ _ (field (.ref it) 1 >>= _) _ _ s
  refine aa (bo ho hd (x:=.int i 0) rfl ?_)
  show wpAny _ _ (seqItems? (.ref l) >>= _) _ _ s
  refine aa (cg hol hdl ?_)
  simp only[bc,hx]
  refine aa (bK ho hd (by simp) (ab ⟨x,rfl,ab (hQ _ ?_ (Heap.SameBut.update ..))⟩))
  exact⟨_,aP _ ho (Obj.isFreed_of_fields (Obj.data_mapFields hd _)),(Obj.cls_mapFields ..).trans hc,by
   rw[Obj.data_mapFields hd];simp[rawInt]⟩
theorem cn' {k:Bool} {it l:Addr} {i:Nat} {items:Array Value} {Q:Value->Shared->Prop} (hh:A.handled=none) (hit:cY' k s.heap it l i) (hl:fx' k s.heap l items) (hx:items[i]?=none)
  (hE:∀h' e,Heap.ExtBut it s.heap h'->(∃o,h'.get? e=some o/\o.cls=.type "StopIteration")->E (.ref e) { s with heap:=h' }):wpAny (model prog w) A (Builtin.SmallTypes.nextOf (.ref it)) Q E s:=by
 cases k
 .exact wpAny_nextOf_list_end hh hit hl hx hE
 .have hit:s.heap.IsTupleIter it l i:=hit
  have hl:s.heap.IsTuple l items:=hl
  obtain⟨o,ho,hc,hd⟩:=id hit
  obtain⟨ol,hol,_,nl,hdl⟩:=hl
  unfold Builtin.SmallTypes.nextOf
  refine aa (aQ (name:=Str.ofString "__next__") hit.typeIs F.slot_tuple_iterator_next
   (aO F.slot_tuple_iterator_next hit.typeIs F.entry_tuple_iterator_next ?_ (F.args_tuple_iterator_next_1 _)))
  show wpAny _ _ (field (.ref it) 0 >>= _) _ _ s
  refine aa (bo ho hd (x:=.ref l) rfl ?_)
  show wpAny _ _ (if(Value.ref l == Value.none)=true then _ else _) _ _ s
  rw[if_neg (show ¬((Value.ref l == Value.none)=true) from ak)]
  show wpAny _ _ (field (.ref it) 1 >>= _) _ _ s
  refine aa (bo ho hd (x:=.int i 0) rfl ?_)
  show wpAny _ _ (seqItems? (.ref l) >>= _) _ _ s
  refine aa (cg hol hdl ?_)
  simp only[bc,hx]
  refine aa (bR (aa (bK ho hd (by simp) ?_)))
  show wpAny _ _ (newExc (.type "StopIteration") [] >>= _) _ _ _
  refine aa ?_
  simp only[newExc,newTuple]
  refine aa (aI ?_ (by size_fits))
  refine aa (m:=firstArgMember _ _) (cV (a:=Value.none) (by first|rfl|(simp only[firstArgMember];rfl)) ?_)
  refine aI ?_ (by size_fits)
  simp only[raiseNew]
  refine aa (dB ?_)
  first|rw[show A.in1.handled=none from hh]|rw[hh]
  refine aa (ab (wpAny_throw ?_))
  exact hE _ _ (((Heap.SameBut.update ..).extBut.push _).push _) ⟨_,al _ rfl,rfl⟩
end
def Its (x:Str):It:=⟨fun i _=>i<x.cps.size,fun i H v H'=>H'=H/\∃c,x.cps[i]?=some c/\v=.str ⟨#[c]⟩,fun i _=>x.cps.size<=i⟩
theorem nF' {P:Program} {w:World} {K:W.Frag} {tg:Expr} (it:Addr) (x:Str) (ty:String) (t:Tok) (hty:ty="str_ascii_iterator"\/ty="str_iterator"):
  Turn P w K tg (Its x) [it] it (fun i h=>h.IsStrIter it ty x t i) where
 mem:=by simp
 obj:=fun i h st b hb=>by
  have e:b=it:=by simpa using hb
  subst e
  obtain⟨o,e,c,d⟩:=st
  exact⟨o,e,fun v z=>by rw[d]at z;cases z⟩
 keep:=fun i h h' st k=>by
  obtain⟨o,e,r⟩:=st
  exact⟨o,k it (by simp) o e,r⟩
 item:=by
  intro X hP hw hK hc i p_ s σ H E I hf st hg
  subst hP hw hK
  obtain⟨f0,f1,f2,f3,f4,f5⟩:=hf it (by simp)
  have hg':i<x.cps.size:=hg
  have hx:x.cps[i]?=some x.cps[i]:=by simp[hg']
  have fin:∀h',h'.IsStrIter it ty x t (i+1)->bG it s.heap h'->∃u,some (Value.str ⟨#[x.cps[i]]⟩ s.toks)=some u/\
    wpAny (model X.prog X.w) X.A (letOwnedTupleGo tg (.ref it) u) (fun _ s2=>∃y H',Inv X p_ σ H' s2/\ax' y u/\(Its x).yld i H y H'/\s2.heap.IsStrIter it ty x t (i+1)/\∀b∈[it],H' b=none) E { s with heap:=h',toks:=s.toks+1 }:=fun h' st' sb=>by
   have I1:Inv X p_ σ H { s with heap:=h',toks:=s.toks+1 }:=I.turned (fun b o hb e=>(sb.2 b hb).trans e) f0 f1 f3 f4 f5
   obtain⟨o,e,c,d⟩:=id st'
   refine⟨_,rfl,kg' (s:={ s with heap:=h',toks:=s.toks+1 }) e c d ?_ ⟨.str ⟨#[x.cps[i]]⟩,H,I1,⟨_,rfl⟩,⟨rfl,_,hx,rfl⟩,st',fun b hb=>(hf b hb).1⟩⟩
   rcases hty with rfl|rfl<;>decide
  rcases hty with rfl|rfl
  .exact wpAny_pyNext_ascii_item st hx fin
  .exact wpAny_pyNext_wide_item st hx fin
 done:=by
  intro X hP hw hK hc i p_ s σ H E I hf st hg
  subst hP hw hK
  obtain⟨f0,f1,f2,f3,f4,f5⟩:=hf it (by simp)
  have hg':x.cps.size<=i:=hg
  have hx:x.cps[i]?=none:=by simp[hg']
  have fin:∀h',Heap.ExtBut it s.heap h'->(none:Option Value)=none/\Inv X p_ σ H { s with heap:=h' }:=fun h' eb=>⟨rfl,I.turned (t':=s.toks) (fun b o hb e=>eb b o hb e) f0 f1 f3 f4 f5⟩
  rcases hty with rfl|rfl
  .exact wpAny_pyNext_ascii_end (I.ok.hd hc) st hx fin
  .exact wpAny_pyNext_wide_end (I.ok.hd hc) st hx fin
 self:=fun _ _ _ _ _ st h=>by
  rcases hty with rfl|rfl
  .exact wpAny_pyIter_striter_ascii st h
  .exact wpAny_pyIter_striter_wide st h
def Sq (k:Bool) (K:W.Frag) (H:Hp) (a:Addr) (xs:List V):Prop:=match k with
 |true=>SqT K H a xs
 |false=>SqL K H a xs
section
variable {X:Cx} {tg:Expr}
def yO' (K:W.Frag) (tl:TE):TI:=fun σ H R=>tl σ H fun x H1=>
 (∃a,x=.ref a/\(∃xs,SqL K H1 a xs)/\R (Itl K a) H1)\/(∃a,x=.ref a/\(∃xs,SqT K H1 a xs)/\R (Itt K a) H1)\/∃z,x=.str z/\R (Its z) H1
theorem uv' {l:Expr} {tl:TE} (hl:PE X l tl):PI X tg l (yO' X.K tl):=by
 intro p_ s σ H R I h
 refine thn (hl p_ s σ H _ I h) fun v s1 ⟨x,H1,I1,r1,q1⟩=>?_
 rcases q1 with⟨a,e,⟨xs,hq⟩,q⟩|⟨a,e,⟨xs,hq⟩,q⟩|⟨z,e,q⟩
 .subst e
  cases r1
  obtain⟨its,rv,p,hz⟩:=I1.list hq
  refine wpAny_pyIter_list p.isList ?_
  refine⟨s1.heap.objs.size,[s1.heap.objs.size],_,_,H1,rfl,I1.kept (t':=s1.toks) fun b o e=>af _ e,kh' a _,⟨_,al _ rfl,rfl,rfl⟩,fun b hb=>?_,q⟩
  have e:b=s1.heap.objs.size:=by simpa using hb
  subst e
  exact I1.fpOk (ag _) (I1.hok.fresh (ag _))
 .subst e
  cases r1
  obtain⟨its,rv,p,hz⟩:=I1.tuple hq
  refine dc (show s1.heap.IsTuple a its.toArray from p) ?_
  refine⟨s1.heap.objs.size,[s1.heap.objs.size],_,_,H1,rfl,I1.kept (t':=s1.toks) fun b o e=>af _ e,jq' a _,⟨_,al _ rfl,rfl,rfl⟩,fun b hb=>?_,q⟩
  have e:b=s1.heap.objs.size:=by simpa using hb
  subst e
  exact I1.fpOk (ag _) (I1.hok.fresh (ag _))
 .subst e
  obtain⟨t,rfl⟩:=r1
  have fin:∀(ty:String),(ty="str_ascii_iterator"\/ty="str_iterator")->PIE X p_ σ tg R (.ref s1.heap.objs.size) { s1 with heap:=s1.heap.push { cls:=.type ty,data:=.fields #[.str z t,.int 0 0] } }:=fun ty hty=>by
   refine⟨s1.heap.objs.size,[s1.heap.objs.size],_,_,H1,rfl,I1.kept (t':=s1.toks) fun b o e=>af _ e,nF' _ z ty t hty,⟨_,al _ rfl,rfl,rfl⟩,fun b hb=>?_,q⟩
   have e:b=s1.heap.objs.size:=by simpa using hb
   subst e
   exact I1.fpOk (ag _) (I1.hok.fresh (ag _))
  cases ha:z.cps.all (· < 128)
  .exact wpAny_pyIter_wide ha (fin _ (.inr rfl))
  .exact wpAny_pyIter_ascii ha (fin _ (.inl rfl))
end
def Itd (go:Nat->Hp->Prop) (val:Nat->Hp->V->Prop) (stop:Nat->Hp->Prop):It:=
 ⟨go,fun i H v H'=>∃p x,v=.ref p/\H p=none/\val i H x/\H'=upd H p (.tup [.int i,x]),stop⟩
structure EnSrc (P:Program) (w:World) (K:W.Frag) (e it:Addr) (Sx:Nat->Heap->Prop) (go:Nat->Hp->Prop) (val:Nat->Hp->V->Prop) (stop:Nat->Hp->Prop):Prop where
 ne:e≠it
 obj:∀i h,Sx i h->∃o,h.get? it=some o/\∀v,o.data≠.cell v
 keep:∀i h h',Sx i h->(∀o,h.get? it=some o->h'.get? it=some o)->Sx i h'
 item:∀(X:Cx),X.prog=P->X.w=w->X.K=K->X.calm=true->∀(i:Nat) (p_:List (Addr×Obj)) (s:Shared) (σ:St) (H:Hp),Inv X p_ σ H s->H e=none->H it=none->e<s.heap.objs.size->(∃old,IsEnum s.heap e it i old)->Sx i s.heap->go i H->
  ∃n Pd Sd fp,Draws P w X.A.in1 it fp n Pd Sd/\e∉fp/\i<n/\Sd i s.heap/\(∀j h,Sd j h->Sx j h)/\∀u,Pd i u->∃x,ax' x u/\val i H x
 done:∀(X:Cx),X.prog=P->X.w=w->X.K=K->X.calm=true->∀(i:Nat) (p_:List (Addr×Obj)) (s:Shared) (σ:St) (H:Hp),Inv X p_ σ H s->H e=none->H it=none->(∃old,IsEnum s.heap e it i old)->Sx i s.heap->stop i H->
  ∃Pd Sd fp,Draws P w X.A.in1 it fp i Pd Sd/\Sd i s.heap
theorem d5' {P:Program} {w:World} {K:W.Frag} {elts:List Expr} {kt:Nat} {pt:Pos} {e it:Addr} {Sx:Nat->Heap->Prop} {go:Nat->Hp->Prop} {val:Nat->Hp->V->Prop} {stop:Nat->Hp->Prop} (S:EnSrc P w K e it Sx go val stop):
  Turn P w K (.Tuple elts kt pt) (Itd go val stop) [e,it] e (fun i h=>(∃old,IsEnum h e it i old)/\Sx i h) where
 mem:=by simp
 obj:=fun i h st b hb=>by
  obtain⟨⟨old,he⟩,hs⟩:=st
  simp only[ay,aB,or_false]at hb
  rcases hb with rfl|rfl
  .exact⟨_,he,fun v=>(nomatch ·)⟩
  .exact S.obj i h hs
 keep:=fun i h h' st kk=>by
  obtain⟨⟨old,he⟩,hs⟩:=st
  exact⟨⟨old,kk e (by simp) _ he⟩,S.keep i h h' hs fun o q=>kk it (by simp) o q⟩
 item:=by
  intro X hP hw hK hc i p_ s σ H E I hf st hg
  have hfe:=hf e (by simp)
  have hfi:=hf it (by simp)
  obtain⟨n,Pd,Sd,fp,D,hefp,hin,hsd,hsub,hval⟩:=S.item X hP hw hK hc i p_ s σ H I hfe.1 hfi.1 (au st.1.choose_spec) st.1 st.2 hg
  obtain⟨⟨old,he⟩,hs⟩:=st
  subst hP hw hK
  refine wpAny_pyNext_enum_itemD D he hsd hin S.ne hefp fun u h' tk hPu ho hs' hT hsz hk=>?_
  obtain⟨x,rx,vx⟩:=hval u hPu
  refine⟨_,rfl,wpAny_letOwnedTupleGo_enum (s:={ s with heap:=h',toks:=tk+1 }) ho fun h'' he'' hb=>?_⟩
  have hb':bG e h' h'':=hb
  have elt:e<s.heap.objs.size:=au he
  have neT:s.heap.objs.size≠e:=bC elt
  have hTn:H s.heap.objs.size=none:=I.hok.fresh (ag _)
  have hkk:∀c o,c∉[e,it]->s.heap.get? c=some o->h''.get? c=some o:=fun c o hc q=>by
   simp only[ay,aB,or_false,not_or]at hc
   exact(hb'.2 c hc.1).trans (hk c o hc.1 hc.2 q)
  have trk:∀c o,H c=some o->c∉[e,it]:=fun c o q hc=>by rw[(hf c hc).1]at q;cases q
  have I1:Inv X p_ σ (upd H s.heap.objs.size (.tup [.int i,x])) { s with heap:=h'',toks:=tk+1 }:=by
   refine I.step (g':=s.gens) (d':=s.drawn) (t':=tk+1) (ch:=[e,it]) (fun c hc=>?_) (fun c o _ _ hc q _=>hkk c o hc q) (fun c o _ _ hc q _=>⟨o.slots,hkk c o hc q⟩)
    (fun c o _ q n=>by rw[ae' (aA (au q))];exact n) (fun c o hc q=>⟨o,hkk c o hc q⟩) (fun c ps q=>by rw[ae' (au' q hTn)];exact q) (fun c o p q=>by rw[ae' (au' q hTn)];exact q)
    (fun c ps q=>⟨#[],by rw[ae' (au' q hTn),q];simp⟩) (fun m hm=>?_) (fun c o q=>?_) I.bare
   .obtain⟨f0,f1,f2,f3,f4,f5⟩:=hf c hc
    exact⟨f3,f1,f4,f5⟩
   .obtain⟨oo,es,ep,ho,r⟩:=hm
    exact⟨oo,es,ep,hkk _ oo (fun hc=>(hf _ hc).2.1 rfl) ho,r⟩
   .by_cases hb:c=s.heap.objs.size
    .subst hb
     rw[ab']at q;cases q
     exact⟨by show 2<=sizeLine;decide,[.int i tk,u],.cons ⟨_,rfl⟩ (.cons rx .nil),⟨_,(hb'.2 _ neT).trans hT,rfl,⟨_,rfl⟩,rfl⟩⟩
    .rw[ae' hb]at q
     refine(I.hok c o q).stay (fun d q hd eq=>hkk d q ?_ eq) (fun d q=>by rw[ae' (au' q hTn)];exact q) fun d qs q=>by rw[ae' (au' q hTn)];exact q
     rcases hd with rfl|hd
     .exact trk _ _ (by assumption)
     .exact trk _ _ hd
  refine⟨.ref s.heap.objs.size,_,I1,rfl,⟨s.heap.objs.size,x,rfl,hTn,vx,rfl⟩,⟨⟨_,he''⟩,S.keep _ _ _ (hsub _ _ hs') fun o q=>(hb'.2 it (Ne.symm S.ne)).trans q⟩,fun c hc=>?_⟩
  rw[ae']
  .exact(hf c hc).1
  .intro q
   subst q
   simp only[ay,aB,or_false]at hc
   rcases hc with q|q
   .exact neT q
   .obtain⟨o,e1,_⟩:=S.obj _ _ hs
    exact bp _ (q ▸ au e1)
 done:=by
  intro X hP hw hK hc i p_ s σ H E I hf st hg
  have hfe:=hf e (by simp)
  have hfi:=hf it (by simp)
  obtain⟨Pd,Sd,fp,D,hsd⟩:=S.done X hP hw hK hc i p_ s σ H I hfe.1 hfi.1 st.1 st.2 hg
  obtain⟨⟨old,he⟩,hs⟩:=st
  subst hP hw hK
  refine wpAny_pyNext_enum_endD D he hsd fun h' hx=>⟨rfl,?_⟩
  obtain⟨f0,f1,f2,f3,f4,f5⟩:=hfi
  exact I.turned (t':=s.toks) (fun b o hb q=>hx b o hb q) f0 f1 f3 f4 f5
 self:=fun _ _ _ _ _ st h=>by
  obtain⟨⟨old,he⟩,_⟩:=st
  exact wpAny_pyIter_enum he h
def Ite (K:W.Frag) (a:Addr):It:=Itd (fun i H=>∃xs x,SqL K H a xs/\xs[i]?=some x) (fun i H x=>∀xs,SqL K H a xs->xs[i]?=some x) (fun i H=>∃xs,SqL K H a xs/\xs.length=i)
theorem ra' {P:Program} {w:World} {K:W.Frag} {e it a:Addr} (ne:e≠it) (na:a≠e) (nai:a≠it):EnSrc P w K e it (fun i h=>h.IsListIter it a i) (fun i H=>∃xs x,SqL K H a xs/\xs[i]?=some x) (fun i H x=>∀xs,SqL K H a xs->xs[i]?=some x) (fun i H=>∃xs,SqL K H a xs/\xs.length=i) where
 ne:=ne
 obj:=fun i h st=>by
  obtain⟨o,q,c,d⟩:=st
  exact⟨o,q,fun v z=>by rw[d]at z;cases z⟩
 keep:=fun i h h' st k=>st.at k
 item:=by
  intro X hP hw hK hc i p_ s σ H I _ _ _ _ st hg
  obtain⟨xs,x,hxs,hx⟩:=hg
  subst hP hw hK
  obtain⟨its,rv,p,hz⟩:=I.list hxs
  have hl:=rv.length
  obtain⟨u,hu,ru⟩:=rv.get hx
  refine⟨_,_,_,_,Draws.list (show X.A.in1.handled=none from I.ok.hd hc) it a nai its.toArray,?_,?_,⟨st,p.isList⟩,fun j h q=>q.1,fun u' hu'=>⟨x,?_,fun ys hys=>by rw[I.list_inj hys hxs];exact hx⟩⟩
  .simp only[ay,aB,or_false,not_or]
   exact⟨ne,Ne.symm na⟩
  .have:=(aN.mp hx).1
   simp;omega
  .have e2:its[i]?=some u':=by simpa using hu'
   rw[hu]at e2
   cases e2
   exact ru
 done:=by
  intro X hP hw hK hc i p_ s σ H I _ _ _ st hg
  obtain⟨xs,hxs,hx⟩:=hg
  subst hP hw hK
  obtain⟨its,rv,p,hz⟩:=I.list hxs
  have hl:=rv.length
  have e:i=its.toArray.size:=by simp;omega
  subst e
  exact⟨_,_,_,Draws.list (show X.A.in1.handled=none from I.ok.hd hc) it a nai its.toArray,st,p.isList⟩
def tD' (z:Str):It:=Itd (fun i _=>i<z.cps.size) (fun i _ v=>∃c,z.cps[i]?=some c/\v=.str ⟨#[c]⟩) (fun i _=>z.cps.size=i)
theorem uw' {P:Program} {w:World} {K:W.Frag} {e it:Addr} {z:Str} {t:Tok} {ty:String} (hty:ty="str_ascii_iterator"\/ty="str_iterator") (ne:e≠it):EnSrc P w K e it (fun i h=>h.IsStrIter it ty z t i) (fun i _=>i<z.cps.size) (fun i _ v=>∃c,z.cps[i]?=some c/\v=.str ⟨#[c]⟩) (fun i _=>z.cps.size=i) where
 ne:=ne
 obj:=fun i h st=>by
  obtain⟨o,q,c,d⟩:=st
  exact⟨o,q,fun v z=>by rw[d]at z;cases z⟩
 keep:=fun i h h' st k=>by
  obtain⟨o,q,r⟩:=st
  exact⟨o,k o q,r⟩
 item:=by
  intro X hP hw hK hc i p_ s σ H I _ _ _ _ st hg
  subst hP hw hK
  have hh:X.A.in1.handled=none:=I.ok.hd hc
  rcases hty with rfl|rfl
  .refine⟨_,_,_,_,Draws.strAscii hh it z t,by simpa using ne,hg,st,fun j h q=>q,fun u hu=>?_⟩
   obtain⟨c,t',hc',rfl⟩:=hu
   exact⟨.str ⟨#[c]⟩,⟨_,rfl⟩,c,hc',rfl⟩
  .refine⟨_,_,_,_,Draws.strWide hh it z t,by simpa using ne,hg,st,fun j h q=>q,fun u hu=>?_⟩
   obtain⟨c,t',hc',rfl⟩:=hu
   exact⟨.str ⟨#[c]⟩,⟨_,rfl⟩,c,hc',rfl⟩
 done:=by
  intro X hP hw hK hc i p_ s σ H I _ _ _ st hg
  subst hP hw hK
  have hh:X.A.in1.handled=none:=I.ok.hd hc
  have hg':z.cps.size=i:=hg
  subst hg'
  rcases hty with rfl|rfl
  .exact⟨_,_,_,Draws.strAscii hh it z t,st⟩
  .exact⟨_,_,_,Draws.strWide hh it z t,st⟩
theorem go' {prog:Program} {w:World} {A:Around} (hh:A.handled=none) (it l:Addr) (hne:l≠it) (items:Array Value):
  Draws prog w A it [it,l] items.size (fun i v=>items[i]?=some v) (fun i h=>cY' true h it l i/\fx' true h l items) where
 live:=fun _ _ st=>let⟨o,ho,_⟩:=st.1.obj;⟨o,ho⟩
 frame:=fun _ _ _ st hk=>⟨st.1.at fun o e=>hk it (by simp) o e,st.2.at fun o e=>hk l (by simp) o e⟩
 item:=fun i s Q E hi st hQ=>by
  refine bl' st.1 st.2 (x:=items[i]) (by simp[hi]) fun h' hit' hs'=>?_
  exact hQ _ h' s.toks (by simp[hi]) ⟨hit',st.2.at fun o e=>hs'.extBut l o hne e⟩ hs'
 done:=fun s Q E st hE=>cn' hh st.1 st.2 (by simp) hE
set_option tactic.hygienic true in
open AutoSeq1 (wpAny_loadPart') in
theorem cw' (l:Addr) (items:Array Value) (n:Nat) (dct:Option Addr) (sl:Array (Option Value)):
  Meets (Builtin.«enumerate.__new__» ⟨[.type "enumerate",.ref l],[]⟩) (fun _ R s=>s.heap.get? l=some { cls:=.type "tuple",dict:=dct,data:=.seq items n,slots:=sl }/\
   R (.ok (.ret (.ref (s.heap.push { cls:=.type "tuple_iterator",data:=.fields #[.ref l,.int 0 0] }).objs.size)))
    { s with heap:=(s.heap.push { cls:=.type "tuple_iterator",data:=.fields #[.ref l,.int 0 0] }).push { cls:=.type "enumerate",data:=.fields #[.none,.bool false,.ref s.heap.objs.size,rawInt 0,.none,.none] } }):=
 .of_wp fun prog w A R s h=>by
  obtain⟨hp,g,d,tk,os⟩:=s;obtain⟨hl,h⟩:=h
  have hsub:=sub_enumerate
  have hL:Heap.IsTuple (Shared.heap ⟨hp,g,d,tk,os⟩) l items:=⟨_,hl,rfl,n,rfl⟩
  wp_walk using wpAny_loadPart' hl
  refine wpAny_stack_any fun st=>ab ?_
  split
  .rename_i c _ _ _ _ _
   cases(c == Value.type "enumerate")
   .wp_walk using wpAny_loadPart' hl,dc hL
    exact⟨_,rfl,h⟩
   .wp_walk using wpAny_loadPart' hl,dc hL
    exact⟨_,rfl,h⟩
  .wp_walk using wpAny_loadPart' hl,dc hL
   exact⟨_,rfl,h⟩
theorem cx' {prog:Program} {w:World} {A:Around} {E:Value->Shared->Prop} {s:Shared} {l:Addr} {items:Array Value} {Q:Value->Shared->Prop} (hL:s.heap.IsTuple l items)
  (h:∀h',IsEnum h' (s.heap.objs.size+1) s.heap.objs.size 0 .none->cY' true h' s.heap.objs.size l 0->h'.objs.size=s.heap.objs.size+2->
   (∀b o,s.heap.get? b=some o->h'.get? b=some o)->Q (.ref (s.heap.objs.size+1)) { s with heap:=h' }):
  wpAny (model prog w) A (call (.type "enumerate") [.ref l]) Q E s:=by
 obtain⟨⟨c,dct,dt,sl⟩,hl,hc,n,hd⟩:=hL
 replace hc:c=.type "tuple":=hc
 replace hd:dt=.seq items n:=hd
 subst hc hd
 refine callType_new F.called_enumerate (by decide) (F.typeCall_enumerate_1 _) (F.newCall_enumerate_1 _) (fun obj=>F.args_object_init_2 obj _) F.entry_enumerate_new
  (cw' l items n dct sl) ⟨hl,?_⟩
 have hz:(s.heap.push { cls:=.type "tuple_iterator",data:=.fields #[.ref l,.int 0 0] }).objs.size=s.heap.objs.size+1:=bg ..
 show _/\_
 rw[hz]
 have he:IsEnum ((s.heap.push { cls:=.type "tuple_iterator",data:=.fields #[.ref l,.int 0 0] }).push
   { cls:=.type "enumerate",data:=.fields #[.none,.bool false,.ref s.heap.objs.size,rawInt 0,.none,.none] }) (s.heap.objs.size+1) s.heap.objs.size 0 .none:=by
  have:=al (s.heap.push { cls:=.type "tuple_iterator",data:=.fields #[.ref l,.int 0 0] })
   (o:={ cls:=.type "enumerate",data:=.fields #[.none,.bool false,.ref s.heap.objs.size,rawInt 0,.none,.none] }) rfl
  rw[hz]at this;exact this
 refine⟨⟨_,he,rfl⟩,h _ he ⟨_,af _ (al _ rfl),rfl,rfl⟩ (by rw[bg,hz]) fun b o x=>af _ (af _ x)⟩
def x2' (K:W.Frag) (a:Addr):It:=Itd (fun i H=>∃xs x,SqT K H a xs/\xs[i]?=some x) (fun i H x=>∀xs,SqT K H a xs->xs[i]?=some x) (fun i H=>∃xs,SqT K H a xs/\xs.length=i)
theorem ux' {P:Program} {w:World} {K:W.Frag} {e it a:Addr} (ne:e≠it) (na:a≠e) (nai:a≠it):EnSrc P w K e it (fun i h=>cY' true h it a i) (fun i H=>∃xs x,SqT K H a xs/\xs[i]?=some x) (fun i H x=>∀xs,SqT K H a xs->xs[i]?=some x) (fun i H=>∃xs,SqT K H a xs/\xs.length=i) where
 ne:=ne
 obj:=fun i h st=>by
  obtain⟨o,q,d⟩:=st.obj
  exact⟨o,q,fun v z=>by rw[d]at z;cases z⟩
 keep:=fun i h h' st k=>st.at k
 item:=by
  intro X hP hw hK hc i p_ s σ H I _ _ _ _ st hg
  obtain⟨xs,x,hxs,hx⟩:=hg
  subst hP hw hK
  obtain⟨its,rv,p,hz⟩:=I.tuple hxs
  have hl:=rv.length
  obtain⟨u,hu,ru⟩:=rv.get hx
  refine⟨_,_,_,_,go' (show X.A.in1.handled=none from I.ok.hd hc) it a nai its.toArray,?_,?_,⟨st,p⟩,fun j h q=>q.1,fun u' hu'=>⟨x,?_,fun ys hys=>by rw[I.tuple_inj hys hxs];exact hx⟩⟩
  .simp only[ay,aB,or_false,not_or]
   exact⟨ne,Ne.symm na⟩
  .have:=(aN.mp hx).1
   simp;omega
  .have e2:its[i]?=some u':=by simpa using hu'
   rw[hu]at e2
   cases e2
   exact ru
 done:=by
  intro X hP hw hK hc i p_ s σ H I _ _ _ st hg
  obtain⟨xs,hxs,hx⟩:=hg
  subst hP hw hK
  obtain⟨its,rv,p,hz⟩:=I.tuple hxs
  have hl:=rv.length
  have e:i=its.toArray.size:=by simp;omega
  subst e
  exact⟨_,_,_,go' (show X.A.in1.handled=none from I.ok.hd hc) it a nai its.toArray,st,p⟩
section
variable {X:Cx}
def rb' (K:W.Frag) (tl:TE):TI:=fun σ H R=>cR' tl ka' σ H fun vs H1=>∃x,vs=[x]/\
 ((∃a,x=.ref a/\(∃xs,SqL K H1 a xs)/\R (Ite K a) H1)\/(∃z,x=.str z/\R (tD' z) H1)\/∃a,x=.ref a/\(∃xs,SqT K H1 a xs)/\R (x2' K a) H1)
theorem eN':bootBuiltins "enumerate"=some (.type "enumerate"):=⋯
theorem rc' {a:Expr} {tl:TE} {p pos:Pos} {elts:List Expr} {kt:Nat} {pt:Pos} (hg:Gl X "enumerate") (hm:X.mg "enumerate"=none) (ha:PA X [a] (cR' tl ka')) (hs:starEach [a] X.env=[(false,eval a X.env)]):
  PI X (.Tuple elts kt pt) (.Call (.Name "enumerate" p) [a] [] pos) (rb' X.K tl):=by
 intro p_ s σ H R I h
 have h':cR' tl ka' σ H (fun vs H1=>∃x,vs=[x]/\((∃a,x=.ref a/\(∃xs,SqL X.K H1 a xs)/\R (Ite X.K a) H1)\/(∃z,x=.str z/\R (tD' z) H1)\/∃a,x=.ref a/\(∃xs,SqT X.K H1 a xs)/\R (x2' X.K a) H1)):=h
 refine Call_ (eZ' I hg hm eN' (PyProof.Rows.callWith_type1 (thn (ha pos p_ s σ H _ I h') fun us s1 ⟨vs,H1,I1,r1,q1⟩=>?_) (by rw[hs];rfl) (by rfl)))
 obtain⟨x,e,q1⟩:=q1
 subst e
 cases r1 with
 |cons r rr=>
  cases rr
  rcases q1 with⟨a,rfl,⟨xs,hxs⟩,q⟩|⟨z,rfl,q⟩|⟨a,rfl,⟨xs,hxs⟩,q⟩
  .cases r
   obtain⟨its,rv,pl,hz⟩:=I1.list hxs
   refine call_enumerate_list pl.isList fun h' he hit hsz hk=>wpAny_pyIter_enum he ?_
   have la:a<s1.heap.objs.size:=by
    obtain⟨o,q,_⟩:=pl.isList
    exact au q
   refine⟨s1.heap.objs.size+1,[s1.heap.objs.size+1,s1.heap.objs.size],_,_,H1,rfl,I1.kept (t':=s1.toks) hk,d5' (ra' (Nat.succ_ne_self _) (aA (bB la)) (aA la)),⟨⟨_,he⟩,hit⟩,fun c hc=>?_,q⟩
   have hle:s1.heap.objs.size<=c:=by
    simp only[ay,aB,or_false]at hc
    rcases hc with rfl|rfl<;>omega
   exact I1.fpOk hle (I1.hok.fresh hle)
  .obtain⟨t,rfl⟩:=r
   refine call_enumerate_str fun h' he hit hsz hk=>wpAny_pyIter_enum he ?_
   have hty:strIterType z="str_ascii_iterator"\/strIterType z="str_iterator":=by
    unfold strIterType
    split
    .exact .inl rfl
    .exact .inr rfl
   refine⟨s1.heap.objs.size+1,[s1.heap.objs.size+1,s1.heap.objs.size],_,_,H1,rfl,I1.kept (t':=s1.toks) hk,d5' (uw' hty (Nat.succ_ne_self _)),⟨⟨_,he⟩,hit⟩,fun c hc=>?_,q⟩
   have hle:s1.heap.objs.size<=c:=by
    simp only[ay,aB,or_false]at hc
    rcases hc with rfl|rfl<;>omega
   exact I1.fpOk hle (I1.hok.fresh hle)
  .cases r
   obtain⟨its,rv,pl,hz⟩:=I1.tuple hxs
   refine cx' (show s1.heap.IsTuple a its.toArray from pl) fun h' he hit hsz hk=>wpAny_pyIter_enum he ?_
   have la:a<s1.heap.objs.size:=by
    obtain⟨o,q,_⟩:=pl
    exact au q
   refine⟨s1.heap.objs.size+1,[s1.heap.objs.size+1,s1.heap.objs.size],_,_,H1,rfl,I1.kept (t':=s1.toks) hk,d5' (ux' (Nat.succ_ne_self _) (aA (bB la)) (aA la)),⟨⟨_,he⟩,hit⟩,fun c hc=>?_,q⟩
   have hle:s1.heap.objs.size<=c:=by
    simp only[ay,aB,or_false]at hc
    rcases hc with rfl|rfl<;>omega
   exact I1.fpOk hle (I1.hok.fresh hle)
end
section
variable {X:Cx}
theorem fy':aP' X (.type "int") (fun xs H Q=>∃x n,xs=[.str x]/\PySem.intText? x=some n/\x.length<=640/\Q (.int n) H):=by
 intro p_ s σ H xs us Q I r h
 obtain⟨x,n,rfl,hn,hl,q⟩:=h
 obtain⟨u,rfl,t,rfl⟩:=dl' r
 exact W.KIN.call_text hn hl ⟨.int n,H,I.tok _,⟨_,rfl⟩,q⟩
def AG':List V->Hp->VK->Prop:=fun xs H Q=>((∃i,xs=[.int i]/\Q (.int i) H)\/∃k,xs=[.bl k]/\Q (.int (if k then 1 else 0)) H)\/∃x n,xs=[.str x]/\PySem.intText? x=some n/\x.length<=640/\Q (.int n) H
theorem kH':aP' X (.type "int") AG':=kq'.or fy'
def yP':R2:=fun x y H Q=>∃a n,x=.str a/\y=.int n/\-1000000<=n/\n<=1000000/\a.length*n.toNat<=1000000/\Q (.str (Txt.mul a n)) H
theorem jB':OpR X (binaryOp .Mult) yP':=by
 intro p_ s σ H x y v u Q I rx ry h
 obtain⟨a,n,rfl,rfl,h1,h2,h3,q⟩:=h
 obtain⟨t,rfl⟩:=rx
 obtain⟨t',rfl⟩:=ry
 refine SB.mul ⟨?_,fun hn hc=>?_,fun hn hc=>?_⟩ fun t' k=>⟨.str (Txt.mul a n),H,I.tok _,⟨_,rfl⟩,q⟩
 .have e1:¬n < -(2 ^ 63:Int):=by omega
  have e2:¬n ≥ 2 ^ 63:=by omega
  simp[e1,e2]
  omega
 .have hn0:0<n:=by omega
  intro hgt
  have h4:(a.length:Int)*n<=1000000:=by
   have:((a.length*n.toNat:Nat):Int)<=1000000:=by omega
   rw[Int.natCast_mul,Int.toNat_of_nonneg ⋯]at this
   exact this
  have h5:=(Int.ediv_lt_iff_lt_mul hn0).mp hgt
  omega
 .have e:Builtin.Str.tooLong (a.length*n.toNat)=false:=by
   unfold Builtin.Str.tooLong
   have:sizeLine=16777216:=sizeLine_eq
   simp
   omega
  exact e
def uy' (K:W.Frag):V->List V->Hp->VK->Prop:=fun x xs H Q=>∃(sep:Str) (p:Addr) (ys:List Str),x=.str sep/\xs=[.ref p]/\(SqL K H p (ys.map V.str)\/SqT K H p (ys.map V.str))/\(ys.map (·.length)).sum+ys.length*sep.length<=16777216/\Q (.str (Txt.join sep ys)) H
theorem dq':∀{ys:List Str} {us:List Value},ay' (ys.map V.str) us->StrsAre us ys
 | [],us,h=>by
  have e:=h.zero
  subst e
  exact .nil
 |y :: ys,_,.cons r t=>by
  obtain⟨k,rfl⟩:=r
  exact .cons y k (dq' t)
theorem rd':MtR X "str.join" (uy' X.K):=by
 intro p_ s σ H x xs v us Q I rx rv h
 obtain⟨sep,p,ys,rfl,rfl,hs,hz,q⟩:=h
 obtain⟨t,rfl⟩:=rx
 obtain⟨u,rfl,ru⟩:=rv.one
 cases ru
 rcases hs with hs|hs
 .obtain⟨its,r,pl,_⟩:=I.list hs
  exact join_list pl.isList (dq' r) hz fun t' k=>⟨.str _,H,I.tok _,⟨_,rfl⟩,q⟩
 .obtain⟨its,r,pl,_⟩:=I.tuple hs
  exact join_tuple pl (dq' r) hz fun t' k=>⟨.str _,H,I.tok _,⟨_,rfl⟩,q⟩
def Bu':V->Option Int->Option Int->Hp->VK->Prop:=fun x lo hi H Q=>∃a,x=.str a/\a.length<=sizeLine/\Q (.str (Txt.slice a lo hi)) H
theorem uz':SlR X Bu':=by
 intro p_ s σ H x v vl vu lo hi sl Q I rx hs pl pu h
 obtain⟨a,rfl,hz,q⟩:=h
 obtain⟨t,rfl⟩:=rx
 have fin:∀(l u:Option (Int×Tok)),l.map (·.1)=lo->u.map (·.1)=hi->s.heap.IsSlice sl l u none->wpAny (model X.prog X.w) X.A (getItem (.str a t) (.ref sl)) (EP X p_ σ Q) X.xe s:=by
  intro l u e1 e2 hsl
  refine wpAny_getItem_str_slice (l:=l) (u:=u) (st:=none) hsl rfl ?_
  refine post_val_or_str ?_
  subst e1 e2
  exact⟨aF (Txt.slice_le a _ _) hz,fun t' k=>⟨.str _,H,I.tok _,⟨_,rfl⟩,q⟩⟩
 refine⟨"str",_,F.slot_str_getitem.lookup,typeIs_str _ _ _,?_⟩
 cases pl with
 |none=>
  cases pu with
  |none=>exact fin none none rfl rfl hs
  |int j u=>exact fin none (some (j,u)) rfl rfl hs
 |int i t1=>
  cases pu with
  |none=>exact fin (some (i,t1)) none rfl rfl hs
  |int j u=>exact fin (some (i,t1)) (some (j,u)) rfl rfl hs
def nG' (K:W.Frag) (mx:Bool):List V->Hp->VK->Prop:=fun xs H Q=>∃(p:Addr) (ns:List Int),xs=[.ref p]/\SqL K H p (ns.map V.int)/\ns≠[]/\∀M,M∈ns->(∀a∈ns,if mx then a<=M else M<=a)->Q (.int M) H
theorem kI' (hc:X.calm=true):aP' X (.builtin "max") (nG' X.K true):=by
 intro p_ s σ H xs us Q I r h
 obtain⟨p,ns,rfl,hs,hne,q⟩:=h
 obtain⟨u,rfl,ru⟩:=dl' r
 cases ru
 obtain⟨its,rv,pl,hz⟩:=I.list hs
 have hi:=cm' rv
 obtain⟨xs,e⟩:=hi.allInts.items
 have hns:ns=xs.toList.map (·.1):=by
  rw[<- hi.numsOf,<- nums_intItems,<- e]
 have hsz:0<xs.size:=by
  have h3:=List.length_pos_iff.mpr hne
  rw[hns,ac,ai]at h3
  exact h3
 have hl:=pl.isList
 rw[e]at hl
 refine max_intList (I.ok.hd hc) hl hsz fun v h' tk hv hk=>?_
 obtain⟨t,rfl⟩:=intItems_at hv
 obtain⟨h1,h2⟩:=argBest_gt (numAt xs) (xs.size-1)
 refine⟨.int _,H,I.kept hk,⟨t,rfl⟩,q _ ?_ fun a ha=>?_⟩
 .rw[hns,numAt_eq];exact getD_mem (by rw[ac,ai];omega)
 .rw[hns]at ha
  obtain⟨j,hj,rfl⟩:=mem_getD ha
  rw[ac,ai]at hj
  rw[if_pos rfl,<- numAt_eq];exact h2 j ⋯
theorem kJ' (hc:X.calm=true):aP' X (.builtin "min") (nG' X.K false):=by
 intro p_ s σ H xs us Q I r h
 obtain⟨p,ns,rfl,hs,hne,q⟩:=h
 obtain⟨u,rfl,ru⟩:=dl' r
 cases ru
 obtain⟨its,rv,pl,hz⟩:=I.list hs
 have hi:=cm' rv
 obtain⟨xs,e⟩:=hi.allInts.items
 have hns:ns=xs.toList.map (·.1):=by
  rw[<- hi.numsOf,<- nums_intItems,<- e]
 have hsz:0<xs.size:=by
  have h3:=List.length_pos_iff.mpr hne
  rw[hns,ac,ai]at h3
  exact h3
 have hl:=pl.isList
 rw[e]at hl
 refine min_intList (I.ok.hd hc) hl hsz fun v h' tk hv hk=>?_
 obtain⟨t,rfl⟩:=intItems_at hv
 obtain⟨h1,h2⟩:=argBest_lt (numAt xs) (xs.size-1)
 refine⟨.int _,H,I.kept hk,⟨t,rfl⟩,q _ ?_ fun a ha=>?_⟩
 .rw[hns,numAt_eq];exact getD_mem (by rw[ac,ai];omega)
 .rw[hns]at ha
  obtain⟨j,hj,rfl⟩:=mem_getD ha
  rw[ac,ai]at hj
  rw[if_neg (by decide),<- numAt_eq];exact h2 j ⋯
end
section
variable {X:Cx}
open PySem.SeqAt in
theorem fz' {A:Around} {s:Shared} {x y:V} {u v:Value} (rx:ax' x u) (ry:ax' y v) (h:t6' x y=true/\(∀b,x≠.byt b)\/x=y/\∃a,x=.ref a):EqAt A s u v (decide (x=y)):=by
 rcases h with⟨h,hb⟩|⟨rfl,a,rfl⟩
 .cases x with
  |non=>cases y with
   |non=>cases rx;cases ry;exact EqAt.same _
   |bl b=>cases rx;cases ry;exact EqAt.none_bool _
   |int b=>cases rx;obtain⟨t,rfl⟩:=ry;exact EqAt.none_int _ _
   |str b=>cases rx;obtain⟨t,rfl⟩:=ry;exact EqAt.none_str _ _
   |_=>cases h
  |bl a=>cases y with
   |non=>cases rx;cases ry;exact EqAt.bool_none _
   |bl b=>cases rx;cases ry;have:=EqAt.bool_bool (A:=A) (s:=s) a b;cases a<;>cases b<;>exact this
   |str b=>cases rx;obtain⟨t,rfl⟩:=ry;exact EqAt.bool_str _ _ _
   |_=>cases h
  |int a=>cases y with
   |non=>obtain⟨t,rfl⟩:=rx;cases ry;exact EqAt.int_none _ _
   |int b=>obtain⟨t,rfl⟩:=rx;obtain⟨t',rfl⟩:=ry;rw[hC'];exact EqAt.int_int _ _ _ _
   |str b=>obtain⟨t,rfl⟩:=rx;obtain⟨t',rfl⟩:=ry;exact EqAt.int_str _ _ _ _
   |_=>cases h
  |str a=>cases y with
   |non=>obtain⟨t,rfl⟩:=rx;cases ry;exact EqAt.str_none _ _
   |bl b=>obtain⟨t,rfl⟩:=rx;cases ry;exact EqAt.str_bool _ _ _
   |int b=>obtain⟨t,rfl⟩:=rx;obtain⟨t',rfl⟩:=ry;exact EqAt.str_int _ _ _ _
   |str b=>
    obtain⟨t,rfl⟩:=rx
    obtain⟨t',rfl⟩:=ry
    have e:decide (V.str a=V.str b)=(a == b):=by
     by_cases hab:a=b
     .subst hab;simp
     .rw[decide_eq_false (by intro z;cases z;exact hab rfl)];simp[hab]
    rw[e]
    exact EqAt.str_str _ _ _ _
   |_=>cases h
  |byt b=>exact absurd rfl (hb b)
  |_=>cases y<;>cases h
 .cases rx
  cases ry
  rw[decide_eq_true rfl]
  exact EqAt.same _
def LEq (xs ys:List V):Prop:=∀(i:Nat) x y,xs[i]?=some x->ys[i]?=some y->t6' x y=true/\(∀b,x≠.byt b)\/x=y/\∃a,x=.ref a
def x3' (K:W.Frag) (neg:Bool):V->V->Hp->VK->Prop:=fun x y H Q=>∃p q xs ys,x=.ref p/\y=.ref q/\SqL K H p xs/\SqL K H q ys/\(xs.length=ys.length->LEq xs ys)/\Q (.bl (if neg then !decide (xs=ys)else decide (xs=ys))) H
theorem kK' {xs ys:List V} (h:xs.length=ys.length):(aG xs.length).all (fun i=>decide (xs[i]?=ys[i]?))=decide (xs=ys):=by
 by_cases e:xs=ys
 .subst e
  simp
 .rw[decide_eq_false e,Bool.eq_false_iff]
  intro q
  rw[cG]at q
  apply e
  apply bA
  intro i
  rcases dz i xs.length with hi|hi
  .exact of_decide_eq_true (q i (aK.mpr hi))
  .rw[bi.mpr hi,bi.mpr ⋯]
open PySem.SeqAt in
theorem uA' (hu:X.A.units<cLine):OpR X (compareOp .Eq) (x3' X.K false):=by
 intro p_ s σ H x y v u Q I rx ry h
 obtain⟨p,q,xs,ys,rfl,rfl,hp,hq,he,k⟩:=h
 cases rx
 cases ry
 obtain⟨its,r1,pl1,_⟩:=I.list hp
 obtain⟨its2,r2,pl2,_⟩:=I.list hq
 have l1:=r1.length
 have l2:=r2.length
 by_cases hl:xs.length=ys.length
 .refine eq_listAt (e:=fun i=>decide (xs[i]?=ys[i]?)) pl1.isList pl2.isList (by simp;omega) hu (fun j h1 h2=>?_) ?_
  .have j1:j<xs.length:=by simp at h1;omega
   have j2:j<ys.length:=by omega
   have g1:xs[j]?=some xs[j]:=ae j1
   have g2:ys[j]?=some ys[j]:=ae j2
   obtain⟨u1,e1,ru1⟩:=r1.get g1
   obtain⟨u2,e2,ru2⟩:=r2.get g2
   have f1:its.toArray[j]=u1:=by simp at h1 ⊢;rw[ae h1]at e1;exact Option.some.inj e1
   have f2:its2.toArray[j]=u2:=by simp at h2 ⊢;rw[ae h2]at e2;exact Option.some.inj e2
   rw[f1,f2,g1,g2]
   have e3:decide (some xs[j]=some ys[j])=decide (xs[j]=ys[j]):=by simp
   rw[e3]
   exact fz' ru1 ru2 (he hl j _ _ g1 g2)
  .have e4:(aG its.toArray.size).all (fun i=>decide (xs[i]?=ys[i]?))=decide (xs=ys):=by
    rw[ap,<- l1];exact kK' hl
   rw[e4]
   exact⟨.bl _,H,I,rfl,k⟩
 .refine eq_list_lengthsAt pl1.isList pl2.isList (by simp;omega) hu ?_
  rw[decide_eq_false (fun z=>hl (by rw[z]))]at k
  exact⟨.bl false,H,I,rfl,k⟩
open PySem.SeqAt in
theorem uB' (hu:X.A.units<cLine):OpR X (compareOp .NotEq) (x3' X.K true):=by
 intro p_ s σ H x y v u Q I rx ry h
 obtain⟨p,q,xs,ys,rfl,rfl,hp,hq,he,k⟩:=h
 cases rx
 cases ry
 obtain⟨its,r1,pl1,_⟩:=I.list hp
 obtain⟨its2,r2,pl2,_⟩:=I.list hq
 have l1:=r1.length
 have l2:=r2.length
 obtain⟨⟨cls,dd,data,sl⟩,ho,hc,n,hd⟩:=pl1.isList
 obtain⟨⟨cls2,dd2,data2,sl2⟩,ho2,hc2,n2,hd2⟩:=pl2.isList
 simp only at hc hd hc2 hd2
 subst hc hd hc2 hd2
 by_cases hl:xs.length=ys.length
 .refine richCompare_meets_room (op:=.NotEq) ⟨_,ho,rfl⟩ ⟨_,ho2,rfl⟩ F.slot_list_ne F.entry_list_ne (F.args_list_ne_2 _ _) (list_neAt p q its.toArray its2.toArray n n2 dd dd2 sl sl2 (by simp;omega) (fun i=>decide (xs[i]?=ys[i]?))) ⟨ho,ho2,fun j h1 h2=>?_,?_⟩ hu
  .have j1:j<xs.length:=by simp at h1;omega
   have j2:j<ys.length:=by omega
   have g1:xs[j]?=some xs[j]:=ae j1
   have g2:ys[j]?=some ys[j]:=ae j2
   obtain⟨u1,e1,ru1⟩:=r1.get g1
   obtain⟨u2,e2,ru2⟩:=r2.get g2
   have f1:its.toArray[j]=u1:=by simp at h1 ⊢;rw[ae h1]at e1;exact Option.some.inj e1
   have f2:its2.toArray[j]=u2:=by simp at h2 ⊢;rw[ae h2]at e2;exact Option.some.inj e2
   rw[f1,f2,g1,g2]
   have e3:decide (some xs[j]=some ys[j])=decide (xs[j]=ys[j]):=by simp
   rw[e3]
   exact fz' ru1 ru2 (he hl j _ _ g1 g2)
  .have e4:(aG its.toArray.size).all (fun i=>decide (xs[i]?=ys[i]?))=decide (xs=ys):=by
    rw[ap,<- l1];exact kK' hl
   rw[e4]
   exact(show Value.bool (!decide (xs=ys))≠Value.notImplemented/\EP X p_ σ Q (Value.bool (!decide (xs=ys))) s from⟨(fun x=>nomatch x),⟨.bl _,H,I,rfl,k⟩⟩)
 .refine richCompare_meets_room (op:=.NotEq) ⟨_,ho,rfl⟩ ⟨_,ho2,rfl⟩ F.slot_list_ne F.entry_list_ne (F.args_list_ne_2 _ _) (list_ne_lengthsAt p q its.toArray its2.toArray n n2 dd dd2 sl sl2 (by simp;omega)) ⟨ho,ho2,?_⟩ hu
  rw[decide_eq_false (fun z=>hl (by rw[z]))]at k
  exact(show Value.bool true≠Value.notImplemented/\EP X p_ σ Q (Value.bool true) s from⟨(fun x=>nomatch x),⟨.bl true,H,I,rfl,k⟩⟩)
def rgs (i:Int) (n:Nat):List V:=(aG n).map fun(k:Nat)=>V.int (i+(k:Int))
def AI':List V->Hp->VK->Prop:=fun xs H Q=>∃i j:Int,(xs=[.int i,.int j]\/(i=0/\xs=[.int j]))/\∀p,H p=none->Q (.ref p) (upd H p (.rng i j))
theorem nH':aP' X (.type "range") AI':=by
 intro p_ s σ H xs us Q I rv h
 obtain⟨i,j,hx,q⟩:=h
 have hn:H s.heap.objs.size=none:=I.hok.fresh (ag _)
 rcases hx with rfl|⟨rfl,rfl⟩
 .cases rv with
  |cons r1 rv=>
   cases rv with
   |cons r2 rv=>
    cases rv
    obtain⟨t,rfl⟩:=r1
    obtain⟨u,rfl⟩:=r2
    exact call_range_2 ⟨.ref s.heap.objs.size,_,I.laid (t':=s.toks+1) (fun _ _ e=>af _ e) (ag _) (o:=.rng i j) ⟨t,u,s.toks,al _ rfl⟩,rfl,q _ hn⟩
 .cases rv with
  |cons r1 rv=>
   cases rv
   obtain⟨t,rfl⟩:=r1
   exact call_range_1 ⟨.ref s.heap.objs.size,_,I.laid (t':=s.toks+1+1) (fun _ _ e=>af _ e) (ag _) (o:=.rng 0 j) ⟨s.toks,t,s.toks+1,al _ rfl⟩,rfl,q _ hn⟩
def AJ':List V->Hp->VK->Prop:=fun xs H Q=>∃r i j,xs=[.ref r]/\H r=some (.rng i j)/\(-(2 ^ 62)<=i/\i<2 ^ 62/\-(2 ^ 62)<=j/\j<2 ^ 62)/\(j-i).toNat<=sizeLine/\∀p,H p=none->Q (.ref p) (upd H p (.lst (rgs i (j-i).toNat)))
theorem nI' (hc:X.calm=true):aP' X (.type "list") AJ':=by
 intro p_ s σ H xs us Q I rv h
 obtain⟨r,i,j,rfl,hr,⟨h1,h2,h3,h4⟩,hz,q⟩:=h
 cases rv with
 |cons r1 rv=>
  cases rv
  cases r1
  obtain⟨t,u,v,e⟩:=(show aA' X.prog X.w H s.heap r (.rng i j) from I.hok r _ hr)
  refine call_list_range (n:=(j-i).toNat) (I.ok.hd hc) e (small_one h1 h2 h3 h4) (by rw[rangeSize_one];split<;>omega) hz fun h' tk' acc' c' hk hS hit=>?_
  obtain⟨hsz,hv⟩:=hit
  have hn:H s.heap.objs.size=none:=I.hok.fresh (ag _)
  have key:∀(n:Nat) (l:List Value) (f:Nat->Int),l.length=n->(∀k v,l[k]?=some v->∃t,v=Value.int (f k) t)->ay' ((aG n).map fun k=>V.int (f k)) l:=by
   intro n
   induction n with
   |zero=>intro l f hl hv;have:l=[]:=cW.mp hl;subst this;exact .nil
   |succ n ih=>
    intro l f hl hv
    cases l with
    |nil=>cases hl
    |cons x r=>
     rw[List.range_succ_eq_map,aS,aX]
     refine .cons (hv 0 x rfl) ?_
     exact ih r (fun k=>f (k+1)) (by simpa using hl) fun k v hk=>hv (k+1) v (by simpa using hk)
  refine⟨.ref s.heap.objs.size,_,I.laid (t':=tk') hk (ag _) (o:=.lst (rgs i (j-i).toNat)) ⟨by unfold rgs;rw[ac,bf];exact hz,acc'.toList,c',?_,hS⟩,rfl,q _ hn⟩
  refine key _ _ (fun k=>i+(k:Int)) (by rw[ai];exact hsz) fun k v hk=>?_
  obtain⟨t,e⟩:=hv k v (by simpa using hk)
  exact⟨t,by rw[e];simp⟩
end
section
variable {X:Cx}
theorem re':OpR X (binaryOp .Mult) (rI IntMulOk fun i j=>.int (i*j)):=opI fun _ _ _ _ _ _ _ hc q=>mul_int q hc
def AK':V->Bool
 | .ty _=>false
 | .byt _=>false
 | .flt _=>false
 |_=>true
def x4' (neg:Bool):R2:=fun x y H Q=>∃b,y=.bl b/\AK' x=true/\Q (.bl (if neg then !decide (x=.bl b)else decide (x=.bl b))) H
theorem uC' {x:V} {v:Value} {b:Bool} (r:ax' x v) (h:AK' x=true):plainIs v (.bool b)=true/\(v == Value.bool b)=decide (x=.bl b):=by
 cases x with
 |non=>cases r;exact⟨rfl,rfl⟩
 |bl a=>cases r;refine⟨rfl,?_⟩;cases a<;>cases b<;>rfl
 |int i=>obtain⟨t,rfl⟩:=r;exact⟨rfl,rfl⟩
 |str i=>obtain⟨t,rfl⟩:=r;exact⟨rfl,rfl⟩
 |ref a=>cases r;exact⟨rfl,rfl⟩
 |_=>cases h
theorem uD':OpR X (compareOp .Is) (x4' false):=by
 intro p_ s σ H x y v u Q I rx ry h
 obtain⟨b,rfl,hp,q⟩:=h
 cases ry
 obtain⟨h1,h2⟩:=uC' (b:=b) rx hp
 exact wpAny_is_plain h1 ⟨.bl _,H,I,by rw[h2];rfl,q⟩
theorem kL':OpR X (compareOp .IsNot) (x4' true):=by
 intro p_ s σ H x y v u Q I rx ry h
 obtain⟨b,rfl,hp,q⟩:=h
 cases ry
 obtain⟨h1,h2⟩:=uC' (b:=b) rx hp
 exact wpAny_isNot_plain h1 ⟨.bl _,H,I,by rw[h2];rfl,q⟩
theorem nJ':OpR X (binaryOp .FloorDiv) (rI (fun _ j=>0<j/\j.natAbs.log2<9000) fun i j=>.int (i / j)):=opI fun i j _ _ _ _ _ hc q=>by
 refine floordiv_int ⋯ ?_ (.inl (PyProof.noPylong_of_log2 hc.2))
 rw[Int.fdiv_eq_ediv_of_nonneg i ⋯]
 exact q
end
section
variable {X:Cx}
theorem rf' {i:Int} (h:0<=i):Builtin.bitAnd i 1=i % 2:=by
 rw[PyProof.Rows.bitAnd_pp h (by decide)]
 have e:(1:Int).toNat=1:=rfl
 rw[e,Nat.and_one_is_mod]
 omega
theorem rg':OpR X (binaryOp .BitAnd) (rI (fun i j=>0<=i/\j=1) fun i _=>.int (i % 2)):=by
 intro p_ s σ H x y v u Q I rx ry h
 obtain⟨i,j,rfl,rfl,⟨h0,rfl⟩,q⟩:=h
 refine t5' p_ s σ H _ _ v u Q I rx ry ⟨i,1,rfl,rfl,?_⟩
 have q':Q (.int (i % 2)) H:=q
 rw[<- rf' h0]at q'
 exact q'
def inT (x y:Str):Bool:=!(Builtin.Str.occurrences x y 0 x.length 1).isEmpty
def x5' (neg:Bool):R2:=fun x y H Q=>∃a b,x=.str a/\y=.str b/\Q (.bl (if neg then !inT b a else inT b a)) H
theorem uE':OpR X (compareOp .In) (x5' false):=by
 intro p_ s σ H x y v u Q I rx ry h
 obtain⟨a,b,rfl,rfl,q⟩:=h
 obtain⟨t,rfl⟩:=rx
 obtain⟨t',rfl⟩:=ry
 exact in_str ⟨.bl _,H,I,rfl,q⟩
theorem kM':OpR X (compareOp .NotIn) (x5' true):=by
 intro p_ s σ H x y v u Q I rx ry h
 obtain⟨a,b,rfl,rfl,q⟩:=h
 obtain⟨t,rfl⟩:=rx
 obtain⟨t',rfl⟩:=ry
 have q':Q (.bl (!inT b a)) H:=q
 refine notIn_str ⟨.bl (!inT b a),H,I,?_,q'⟩
 show Value.bool _=Value.bool _
 simp[inT]
end
section
variable {X:Cx}
def Bv' (x y:Str):Bool:=decide (y.cps.toList<x.cps.toList)
def AL':R2:=fun x y H Q=>∃a b,x=.str a/\y=.str b/\Q (.bl (Bv' a b)) H
theorem uF':OpR X (compareOp .Gt) AL':=by
 intro p_ s σ H x y v u Q I rx ry h
 obtain⟨a,b,rfl,rfl,k⟩:=h
 obtain⟨t,rfl⟩:=rx
 obtain⟨t',rfl⟩:=ry
 exact PySem.P.gt_str ⟨.bl _,H,I,rfl,k⟩
def dSc:V->Bool
 | .int _=>true
 | .str _=>true
 | .bl _=>true
 | .non=>true
 |_=>false
def Dq (H:Hp):Nat->V->V->Prop
 |0,v,w=>v=w/\dSc v=true
 |n+1,v,w=>(v=w/\dSc v=true)\/∃a b xs ys,v=.ref a/\w=.ref b/\((H a=some (.lst xs)/\H b=some (.lst ys))\/(H a=some (.tup xs)/\H b=some (.tup ys)))/\xs.length=ys.length/\∀(i:Nat) x y,xs[i]?=some x->ys[i]?=some y->Dq H n x y
open PySem.SeqAt in
theorem uG' {A:Around} {s:Shared} {x:V} {u v:Value} (h:dSc x=true) (r1:ax' x u) (r2:ax' x v):EqAt A s u v true:=by
 have:=fz' (A:=A) (s:=s) r1 r2 (.inl (by cases x<;>first|(cases h;done)|exact⟨rfl,fun b=>by intro z;cases z⟩))
 rw[decide_eq_true rfl]at this
 exact this
theorem co' {n:Nat}:(aG n).all (fun _=>true)=true:=by simp
theorem iO' {its:List Value} {j:Nat} {u:Value} (e:its[j]?=some u) (h:j<its.toArray.size):its.toArray[j]=u:=by
 simp at h ⊢
 rw[ae h]at e
 exact Option.some.inj e
open PySem.SeqAt in
theorem cp' {n:Nat} {H:Hp} {A:Around} {s:Shared} {xs ys:List V} {its its2:List Value} (ih:∀x y u v,Dq H n x y->ax' x u->ax' y v->EqAt A.in1 s u v true) (hl:xs.length=ys.length) (r1:ay' xs its) (r2:ay' ys its2)
  (he:∀(i:Nat) x y,xs[i]?=some x->ys[i]?=some y->Dq H n x y):∀j (h1:j<its.toArray.size) (h2:j<its2.toArray.size),EqAt A.in1 s its.toArray[j] its2.toArray[j] ((fun _=>true) j):=by
 intro j h1 h2
 have l1:=r1.length
 have j1:j<xs.length:=by simp at h1;omega
 have j2:j<ys.length:=by omega
 have g1:xs[j]?=some xs[j]:=ae j1
 have g2:ys[j]?=some ys[j]:=ae j2
 obtain⟨u1,e1,ru1⟩:=r1.get g1
 obtain⟨u2,e2,ru2⟩:=r2.get g2
 rw[iO' e1 h1,iO' e2 h2]
 exact ih _ _ _ _ (he j _ _ g1 g2) ru1 ru2
open PySem.SeqAt in
theorem uH' {p_:List (Addr×Obj)} {σ:L2.St} {H:Hp} {s:Shared} (I:Inv X p_ σ H s):∀(n:Nat) (A:Around) (x y:V) (u v:Value),A.units+n<cLine->Dq H n x y->ax' x u->ax' y v->EqAt A s u v true:=by
 intro n
 induction n with
 |zero=>
  rintro A x y u v hu ⟨rfl,hs⟩ r1 r2
  exact uG' hs r1 r2
 |succ n ih=>
  rintro A x y u v hu h rx ry
  rcases h with⟨rfl,hs⟩|⟨a,b,xs,ys,rfl,rfl,hab,hl,he⟩
  .exact uG' hs rx ry
  cases rx
  cases ry
  by_cases hne:a=b
  .subst hne;exact EqAt.same _
  have ih':∀x y u v,Dq H n x y->ax' x u->ax' y v->EqAt A.in1 s u v true:=fun x y u v=>ih A.in1 x y u v (by show A.units+1+n<cLine;omega)
  rcases hab with⟨h1,h2⟩|⟨h1,h2⟩
  .obtain⟨its,r1,pl1,_⟩:=I.list (SqL.of h1)
   obtain⟨its2,r2,pl2,_⟩:=I.list (SqL.of h2)
   have l1:=r1.length
   have l2:=r2.length
   have:=RcAt.lists pl1.isList pl2.isList (by simp;omega) ⋯ (cp' ih' hl r1 r2 he)
   rw[co']at this
   exact EqAt.of_refs hne this
  .obtain⟨its,r1,pl1,_⟩:=I.tuple (SqT.of h1)
   obtain⟨its2,r2,pl2,_⟩:=I.tuple (SqT.of h2)
   have l1:=r1.length
   have l2:=r2.length
   have:=RcAt.tuples pl1 pl2 ⋯ (cp' ih' hl r1 r2 he)
   rw[co']at this
   have e:(true&&its.toArray.size == its2.toArray.size)=true:=by simp;omega
   rw[e]at this
   exact EqAt.of_refs hne this
def AM':R2:=fun x y H Q=>∃a b xs ys,x=.ref a/\y=.ref b/\H a=some (.tup xs)/\H b=some (.tup ys)/\xs.length=ys.length/\LEq xs ys/\Q (.bl (decide (xs=ys))) H
open PySem.SeqAt in
theorem uI' (hu:X.A.units+64<cLine):OpR X (compareOp .Eq) AM':=by
 intro p_ s σ H x y v u Q I rx ry h
 obtain⟨p,q,xs,ys,rfl,rfl,hp,hq,hl,he,k⟩:=h
 cases rx
 cases ry
 obtain⟨its,r1,pl1,_⟩:=I.tuple (SqT.of hp)
 obtain⟨its2,r2,pl2,_⟩:=I.tuple (SqT.of hq)
 have l1:=r1.length
 have l2:=r2.length
 refine eq_tupleAt (e:=fun i=>decide (xs[i]?=ys[i]?)) pl1 pl2 ⋯ (fun j h1 h2=>?_) ?_
 .have j1:j<xs.length:=by simp at h1;omega
  have j2:j<ys.length:=by omega
  have g1:xs[j]?=some xs[j]:=ae j1
  have g2:ys[j]?=some ys[j]:=ae j2
  obtain⟨u1,e1,ru1⟩:=r1.get g1
  obtain⟨u2,e2,ru2⟩:=r2.get g2
  rw[iO' e1 h1,iO' e2 h2,g1,g2]
  have e3:decide (some xs[j]=some ys[j])=decide (xs[j]=ys[j]):=by simp
  rw[e3]
  exact fz' ru1 ru2 (he j _ _ g1 g2)
 .have e4:(aG (min its.toArray.size its2.toArray.size)).all (fun i=>decide (xs[i]?=ys[i]?))=decide (xs=ys):=by
   rw[ap,ap,<- l1,<- l2,<- hl,Nat.min_self];exact kK' hl
  have e5:(its.toArray.size == its2.toArray.size)=true:=by simp;omega
  rw[e4,e5,Bool.and_true]
  exact⟨.bl _,H,I,rfl,k⟩
def x6' (neg:Bool):R2:=fun x y H Q=>(∃n,n<=8/\Dq H n x y/\(∃a b,x=.ref a/\y=.ref b)/\Q (.bl (!neg)) H)\/(neg=false/\AM' x y H Q)
theorem Dq.open {H:Hp} {n:Nat} {a b:Addr} (h:Dq H n (.ref a) (.ref b)):∃m xs ys,n=m+1/\((H a=some (.lst xs)/\H b=some (.lst ys))\/(H a=some (.tup xs)/\H b=some (.tup ys)))/\xs.length=ys.length/\∀(i:Nat) x y,xs[i]?=some x->ys[i]?=some y->Dq H m x y:=by
 cases n with
 |zero=>exact(ak h.2).elim
 |succ m=>
  rcases h with⟨_,hs⟩|⟨a',b',xs,ys,e1,e2,hab,hl,he⟩
  .cases hs
  .cases e1;cases e2;exact⟨m,xs,ys,rfl,hab,hl,he⟩
open PySem.SeqAt in
theorem uJ' (hu:X.A.units+64<cLine):OpR X (compareOp .Eq) (x6' false):=by
 intro p_ s σ H x y v u Q I rx ry h
 rcases h with h|⟨_,h⟩
 case inr=>exact uI' hu p_ s σ H x y v u Q I rx ry h
 obtain⟨n,hn,hd,⟨a,b,rfl,rfl⟩,k⟩:=h
 cases rx
 cases ry
 obtain⟨m,xs,ys,rfl,hab,hl,he⟩:=hd.open
 have ih':∀x y u v,Dq H m x y->ax' x u->ax' y v->EqAt X.A.in1 s u v true:=fun x y u v=>uH' I m X.A.in1 x y u v (by show X.A.units+1+m<cLine;omega)
 rcases hab with⟨h1,h2⟩|⟨h1,h2⟩
 .obtain⟨its,r1,pl1,_⟩:=I.list (SqL.of h1)
  obtain⟨its2,r2,pl2,_⟩:=I.list (SqL.of h2)
  have l1:=r1.length
  have l2:=r2.length
  refine eq_listAt pl1.isList pl2.isList (by simp;omega) ⋯ (cp' ih' hl r1 r2 he) ?_
  rw[co']
  exact⟨.bl true,H,I,rfl,k⟩
 .obtain⟨its,r1,pl1,_⟩:=I.tuple (SqT.of h1)
  obtain⟨its2,r2,pl2,_⟩:=I.tuple (SqT.of h2)
  have l1:=r1.length
  have l2:=r2.length
  refine eq_tupleAt pl1 pl2 ⋯ (cp' ih' hl r1 r2 he) ?_
  have e:(true&&its.toArray.size == its2.toArray.size)=true:=by simp;omega
  rw[co',e]
  exact⟨.bl true,H,I,rfl,k⟩
open PySem.SeqAt in
theorem uK' (hu:X.A.units+64<cLine):OpR X (compareOp .NotEq) (x6' true):=by
 intro p_ s σ H x y v u Q I rx ry h
 rcases h with h|⟨hf,_⟩
 case inr=>cases hf
 obtain⟨n,hn,hd,⟨a,b,rfl,rfl⟩,k⟩:=h
 cases rx
 cases ry
 obtain⟨m,xs,ys,rfl,hab,hl,he⟩:=hd.open
 have ih':∀x y u v,Dq H m x y->ax' x u->ax' y v->EqAt X.A.in1 s u v true:=fun x y u v=>uH' I m X.A.in1 x y u v (by show X.A.units+1+m<cLine;omega)
 have hend:EP X p_ σ Q (Value.bool false) s:=⟨.bl false,H,I,rfl,k⟩
 rcases hab with⟨h1,h2⟩|⟨h1,h2⟩
 .obtain⟨its,r1,pl1,_⟩:=I.list (SqL.of h1)
  obtain⟨its2,r2,pl2,_⟩:=I.list (SqL.of h2)
  have l1:=r1.length
  have l2:=r2.length
  obtain⟨⟨cls,dd,data,sl⟩,ho,hc,n1,hd1⟩:=pl1.isList
  obtain⟨⟨cls2,dd2,data2,sl2⟩,ho2,hc2,n2,hd2⟩:=pl2.isList
  simp only at hc hd1 hc2 hd2
  subst hc hd1 hc2 hd2
  refine richCompare_meets_room (op:=.NotEq) ⟨_,ho,rfl⟩ ⟨_,ho2,rfl⟩ F.slot_list_ne F.entry_list_ne (F.args_list_ne_2 _ _) (list_neAt a b its.toArray its2.toArray n1 n2 dd dd2 sl sl2 (by simp;omega) (fun _=>true)) ⟨ho,ho2,cp' ih' hl r1 r2 he,?_⟩ ⋯
  rw[co']
  exact(show Value.bool false≠Value.notImplemented/\EP X p_ σ Q (Value.bool false) s from⟨(fun x=>nomatch x),hend⟩)
 .obtain⟨its,r1,pl1,_⟩:=I.tuple (SqT.of h1)
  obtain⟨its2,r2,pl2,_⟩:=I.tuple (SqT.of h2)
  have l1:=r1.length
  have l2:=r2.length
  obtain⟨⟨cls,dd,data,sl⟩,ho,hc,n1,hd1⟩:=id pl1
  obtain⟨⟨cls2,dd2,data2,sl2⟩,ho2,hc2,n2,hd2⟩:=id pl2
  simp only at hc hd1 hc2 hd2
  subst hc hd1 hc2 hd2
  refine richCompare_meets_room (op:=.NotEq) ⟨_,ho,rfl⟩ ⟨_,ho2,rfl⟩ F.slot_tuple_ne F.entry_tuple_ne (F.args_tuple_ne_2 _ _) (tuple_neAt a b its.toArray its2.toArray n1 n2 dd dd2 sl sl2 (fun _=>true)) ⟨ho,ho2,cp' ih' hl r1 r2 he,?_⟩ ⋯
  have e:(true&&its.toArray.size == its2.toArray.size)=true:=by simp;omega
  rw[co',e]
  exact(show Value.bool false≠Value.notImplemented/\EP X p_ σ Q (Value.bool false) s from⟨(fun x=>nomatch x),hend⟩)
end
end L2
namespace HT
open PySem PyProof.Rows
open PySem.SeqAt
open PySem.MeetsSeq PySem.MeetsSeq2 PySem.MeetsSeq3
section
variable {prog:Program} {w:World} {A:Around} {E:Value->Shared->Prop} {s:Shared}
theorem nK' {t b:Addr} {ws:List Value} {Q:Value->Shared->Prop} (ht:IsTup s.heap t #[]) (hb:IsTup s.heap b ws.toArray) (h0:Q (.ref b) s):wpAny (model prog w) A (binaryOp .Add (.ref t) (.ref b)) Q E s:=by
 obtain⟨⟨cls,dd,data,sl⟩,ho,hc,n,hd⟩:=id ht
 obtain⟨⟨cls2,dd2,data2,sl2⟩,ho2,hc2,n2,hd2⟩:=id hb
 simp only at hc hd hc2 hd2
 subst hc hd hc2 hd2
 exact concat_meets ⟨_,ho,rfl⟩ ⟨_,ho2,rfl⟩ noFill_tuple_add seq_tuple_add PySem.F.slot_tuple_add PySem.F.entry_tuple_add (PySem.F.args_tuple_add_2 _ _)
  (tuple_addW0 t b #[] ws.toArray n n2 dd dd2 sl sl2 rfl) ⟨ho,ho2,h0⟩
end
end HT
namespace L2
open PySem PySem.Spec PyProof.Rows
section
variable {X:Cx}
def pI' (K:W.Frag):R2:=fun x y H Q=>∃a b ys,x=.ref a/\y=.ref b/\SqT K H a []/\SqT K H b ys/\Q (.ref b) H
theorem nL':OpR X (binaryOp .Add) (pI' X.K):=by
 intro p_ s σ H x y v u Q I rx ry h
 obtain⟨a,b,ys,rfl,rfl,ha,hb,q⟩:=h
 cases rx
 cases ry
 obtain⟨its,r1,p1,_⟩:=I.tuple ha
 obtain⟨its2,r2,p2,_⟩:=I.tuple hb
 have e:its=[]:=r1.nil_iff.mpr rfl
 subst e
 exact HT.nK' p1 p2 ⟨.ref b,H,I,rfl,q⟩
end
end L2
namespace L2
open PySem PySem.Spec PyProof.Rows PySem.Calls PySem.NumText
def B2 (x:PySem.Str) (n:Int):Prop:=(x.cps.all (· < 128))=true/\(x.cps.toList.takeWhile (· != 0)).length<=640/\(int_private% "readNumeral") 0 2 (x.cps.toList.takeWhile (· != 0))=(int_private% "Numeral.value") n/\((x.cps.toList.takeWhile (· != 0)).length == x.cps.toList.length)=true
theorem nM' {M:Model} {A:Around} {E:Value->Shared->Prop} {s:Shared} {Q:Value->Shared->Prop} {v:Value} {text:List Nat} {n:Int}
  (hs:(text.takeWhile (· != 0)).length<=640) (hr:(int_private% "readNumeral") 0 2 (text.takeWhile (· != 0))=(int_private% "Numeral.value") n)
  (ha:((text.takeWhile (· != 0)).length == text.length)=true) (h:Q (.int n s.toks) { s with toks:=s.toks+1 }):
  wpAny M A ((int_private% "intFromText") v text 2) Q E s:=by
 obtain⟨hp,g,d,tk,os⟩:=s
 repeat (any_goals (first
  |assumption
  |(with_reducible refine wpAny_ite_true (decide_eq_true hs) ?_)
  |(with_reducible refine wpAny_ite_true (decide_eq_true ha) ?_)
  |wp_step))
 all_goals (try rw[hr])
 all_goals (try dsimp only)
 repeat (any_goals (first
  |assumption
  |(with_reducible refine wpAny_ite_true (decide_eq_true hs) ?_)
  |(with_reducible refine wpAny_ite_true (decide_eq_true ha) ?_)
  |wp_step))
set_option maxHeartbeats 4000000 in
theorem hP' {x:PySem.Str} {u v:Tok} {n:Int} (hb:B2 x n):Gives (Builtin.«int.__new__» ⟨[.type "int",.str x u,.int 2 v],[]⟩) (.int n):=
 .of_wp fun M A E s Q h=>by
  obtain⟨hp,g,d,tk,os⟩:=s
  have f1:=F.conv_sub_int
  have f2:=F.madeHere_int
  have f6:typeOf (.str x u)=pure (.type "str"):=rfl
  have hk:=W.KIN.Hid.mk hb
  clear hb
  repeat (any_goals (first
   |assumption
   |((with_reducible show wpAny _ _ ((int_private% "intFromText") _ _ _) _ _ _);rw[if_pos hk.out.1];refine nM' hk.out.2.1 hk.out.2.2.1 hk.out.2.2.2 ?_)
   |wp_step))
  all_goals first|exact⟨_,rfl,h⟩|skip
theorem eO' (a b:Value):checkTypeCall "int" ⟨[a,b],[]⟩=pure ():=by kernel_rfl
theorem fA' (a b:Value):checkBuiltinCall "int.__new__" ⟨[.type "int",a,b],[]⟩=pure ():=by kernel_rfl
section
variable {X:Cx}
def uL':List V->Hp->VK->Prop:=fun xs H Q=>∃x n,xs=[.str x,.int 2]/\B2 x n/\Q (.int n) H
theorem kN':aP' X (.type "int") uL':=by
 intro p_ s σ H xs us Q I r h
 obtain⟨x,n,rfl,hb,q⟩:=h
 obtain⟨u,v,rfl,⟨t,rfl⟩,⟨t',rfl⟩⟩:=qV' r
 exact callType_new F.called_int F.newNe_int (eO' _ _) (fA' _ _) (fun obj=>F.args_object_init_3 obj _ _) F.entry_int_new (hP' hb).meets (show(Made.int n).post _ s from⟨rfl,⟨.int n,H,I.tok _,⟨_,rfl⟩,q⟩⟩)
theorem kO':aP' X (.type "int") (fun xs H Q=>AG' xs H Q\/uL' xs H Q):=kH'.or kN'
end
end L2
namespace PySem
open PyProof.Rows
theorem pJ' {h h':Heap} {t:Addr} {items:Array Value} (x:IsTup h t items) (k:∀o,h.get? t=some o->h'.get? t=some o):IsTup h' t items:=let⟨o,ho,r⟩:=x;⟨o,k o ho,r⟩
end PySem
namespace HT
open PySem PyProof.Rows
section
variable {prog:Program} {w:World} {A:Around} {E:Value->Shared->Prop} {s:Shared}
theorem cD' {t sl:Addr} {items:Array Value} {vl vu:Value} {lo hi:Option Int} {Q:Value->Shared->Prop} (ht:IsTup s.heap t items) (hs:s.heap.IsSliceOf sl vl vu .none) (pl:IsPart vl lo) (pu:IsPart vu hi)
  (hw:sIx items.size 0 lo=0/\sIx items.size items.size hi=items.size)
  (h:Q (.ref t) s):wpAny (model prog w) A (getItem (.ref t) (.ref sl)) Q E s:=by
 obtain⟨os,hos,hcs,hds⟩:=id hs
 have hTs:s.TypeIs (.ref sl) "slice":=⟨os,hos,hcs⟩
 unfold getItem
 try with_reducible refine aH ?_
 first|refine aa (ab ?_)|skip
 refine aa (wpAny_sequenceKey ht.typeIs (by decide) ?_)
 refine aa (aQ (name:=Str.ofString "__getitem__") ht.typeIs PyProof.Rows.slot_tuple_getitem
  (aO PyProof.Rows.slot_tuple_getitem ht.typeIs entry_tuple_getitem ?_ (args_tuple_getitem _ _)))
 show wpAny _ _ (Builtin.Tuple.tupleItemsOf (.ref t) >>= _) _ _ s
 refine aa (tupleItemsOf_ ht ?_)
 refine aa (dw hTs ?_)
 rw[if_pos (by decide)]
 refine aa (ca' hs pl pu ?_)
 have hyes:(((sIx items.size 0 lo:Nat):Int) == 0&&(1:Int) == 1&&(sIx items.size items.size hi-sIx items.size 0 lo) == items.size)=true:=by
  rw[hw.1,hw.2]
  simp
 show wpAny _ _ (if(((sIx items.size 0 lo:Nat):Int) == 0&&(1:Int) == 1&&(sIx items.size items.size hi-sIx items.size 0 lo) == items.size)=true then _ else _) _ _ s
 rw[if_pos hyes]
 obtain⟨ot,hot,hct,nt,hdt⟩:=id ht
 refine aa (dh (Q:=fun b s'=>b=true/\s'=s) (E:=E) ?_ ?_ (fun _ _ z=>z))
 .unfold Builtin.Tuple.tupleIsExact
  exact aa (dw ht.typeIs (ab ⟨rfl,rfl⟩))
 .rintro b s' ⟨rfl,rfl⟩
  rw[if_pos rfl]
  exact aa (bR (ab ⟨_,rfl,ab h⟩))
end
end HT
namespace L2
open PySem PySem.Spec PyProof.Rows
section
variable {X:Cx}
def x7' (K:W.Frag):V->Option Int->Option Int->Hp->VK->Prop:=fun x lo hi H Q=>∃a xs,x=.ref a/\SqT K H a xs/\(HT.sIx xs.length 0 lo=0/\HT.sIx xs.length xs.length hi=xs.length)/\Q (.ref a) H
theorem nN':SlR X (x7' X.K):=by
 intro p_ s σ H x v vl vu lo hi sl Q I rx hs pl pu h
 obtain⟨a,xs,rfl,hx,hw,q⟩:=h
 cases rx
 obtain⟨its,r,ht,hz⟩:=I.tuple hx
 have hlen:its.toArray.size=xs.length:=by rw[ap];exact r.length.symm
 refine⟨"tuple",_,PyProof.Rows.slot_tuple_getitem.lookup,ht.typeIs,?_⟩
 exact HT.cD' ht hs pl pu (by rw[hlen];exact hw) ⟨.ref a,H,I,rfl,q⟩
end
end L2
namespace HT
open PySem PyProof.Rows
section
variable {prog:Program} {w:World} {A:Around} {E:Value->Shared->Prop} {s:Shared}
theorem dJ' {sl:Addr} {u:Tok} {n:Nat} {Q:Int×Int×Nat->Shared->Prop} (hs:s.heap.IsSliceOf sl .none .none (.int (-1) u))
  (h:Q ((n:Int)-1,-1,n) s):wpAny (model prog w) A (Builtin.Slice.sliceApplied (.ref sl) (pure (n:Int))) Q E s:=by
 obtain⟨os,hos,hcs,hds⟩:=id hs
 unfold Builtin.Slice.sliceApplied Builtin.Slice.sliceFields
 refine aa (aa (bo hos hds (x:=.none) rfl (aa (bo hos hds (x:=.none) rfl (aa (bo hos hds (x:=.int (-1) u) rfl (ab ?_)))))))
 refine aa (slicePart_int ?_)
 show wpAny _ _ (if((-1:Int) == 0)=true then _ else _) _ _ s
 rw[if_neg (by decide)]
 refine aa (slicePart_none (aa (slicePart_none (aa (ab ?_)))))
 show wpAny _ _ (match Builtin.Slice.sliceAdjust none none (-1) (n:Int)with|(lo,hi)=>pure (lo,(-1:Int),Builtin.Slice.slicePlaces lo hi (-1))) _ _ s
 have e1:Builtin.Slice.sliceAdjust none none (-1) (n:Int)=((n:Int)-1,-1):=rfl
 have e2:Builtin.Slice.slicePlaces ((n:Int)-1) (-1) (-1)=n:=by
  unfold Builtin.Slice.slicePlaces
  rw[if_neg (by decide)]
  split
  .rw[show -(-1:Int)=1 from rfl,Int.ediv_one];omega
  .omega
 rw[e1]
 show wpAny _ _ (pure ((n:Int)-1,(-1:Int),Builtin.Slice.slicePlaces ((n:Int)-1) (-1) (-1))) _ _ s
 rw[e2]
 exact ab h
theorem nO' (xs:Array Value):((aG xs.size).filterMap fun(m:Nat)=>xs[((xs.size:Int)-1+(m:Int) * -1).toNat]?).toArray=xs.toList.reverse.toArray:=by
 congr 1
 have e:∀k,k<=xs.size->(aG k).filterMap (fun(m:Nat)=>xs[((xs.size:Int)-1+(m:Int) * -1).toNat]?)=xs.toList.reverse.take k:=by
  intro k
  induction k with
  |zero=>intro _;rfl
  |succ k ih=>
   intro hk
   rw[List.range_succ,List.filterMap_append,ih ⋯,bj]
   congr 1
   have e1:((xs.size:Int)-1+(k:Int) * -1).toNat=xs.size-1-k:=by omega
   have e2:xs.toList.reverse[k]?=xs[xs.size-1-k]?:=by
    rw[List.getElem?_reverse (by rw[ai];omega),cc,ai]
   rw[e2]
   have e3:xs[xs.size-1-k]?=some (xs[xs.size-1-k]'⋯):=aw ⋯
   simp only[cU,List.filterMap_nil,e1,e3]
   rfl
 rw[e xs.size (ag _),bq (by simp)]
theorem dr' {t sl:Addr} {items:Array Value} {u:Tok} {Q:Value->Shared->Prop} (ht:IsTup s.heap t items) (hs:s.heap.IsSliceOf sl .none .none (.int (-1) u)) (hsz:items.size<=sizeLine)
  (h:Q (.ref s.heap.objs.size) { s with heap:=s.heap.push { cls:=.type "tuple",data:=.seq items.toList.reverse.toArray } }):wpAny (model prog w) A (getItem (.ref t) (.ref sl)) Q E s:=by
 obtain⟨os,hos,hcs,hds⟩:=id hs
 have hTs:s.TypeIs (.ref sl) "slice":=⟨os,hos,hcs⟩
 have htake:sizeOk (.seq items.toList.reverse.toArray):=by show items.toList.reverse.toArray.size<=sizeLine;simpa using hsz
 unfold getItem
 try with_reducible refine aH ?_
 first|refine aa (ab ?_)|skip
 refine aa (wpAny_sequenceKey ht.typeIs (by decide) ?_)
 refine aa (aQ (name:=Str.ofString "__getitem__") ht.typeIs PyProof.Rows.slot_tuple_getitem
  (aO PyProof.Rows.slot_tuple_getitem ht.typeIs entry_tuple_getitem ?_ (args_tuple_getitem _ _)))
 show wpAny _ _ (Builtin.Tuple.tupleItemsOf (.ref t) >>= _) _ _ s
 refine aa (tupleItemsOf_ ht ?_)
 refine aa (dw hTs ?_)
 rw[if_pos (by decide)]
 refine aa (dJ' hs ?_)
 have hno:¬((((items.size:Int)-1) == 0&&(-1:Int) == 1&&items.size == items.size)=true):=by simp
 show wpAny _ _ (if(((items.size:Int)-1) == 0&&(-1:Int) == 1&&items.size == items.size)=true then _ else _) _ _ s
 rw[if_neg hno,nO']
 first
  |exact aa (m:=Builtin.Tuple.tupleExact _) (aI (ab ⟨_,rfl,ab h⟩) htake)
  |exact aa (m:=Builtin.Tuple.tupleExact _) (aI (aa (ab (ab ⟨_,rfl,ab h⟩))) htake)
  |exact aa (aa (m:=Builtin.Tuple.tupleExact _) (aI (ab (ab ⟨_,rfl,ab h⟩)) htake))
  |exact aa (aa (m:=Builtin.Tuple.tupleExact _) (aI (ab ⟨_,rfl,ab h⟩) htake))
end
end HT
namespace L2
open PySem PySem.Spec PyProof.Rows
section
variable {X:Cx} {e st:Expr} {te:TE} {p2 pos:Pos}
def uM' (a:Str):Str:=⟨a.cps.toList.reverse.toArray⟩
theorem kP' (a:Str) (t u:Tok):sliceMade a t none none (some (-1,u))=.str (uM' a):=by
 unfold sliceMade
 rw[if_neg (by show ¬((false&&_)=true);rw[Bool.false_and];decide)]
 congr 1
 show(⟨((Builtin.Str.strSliceIndices none none (-1) a.length).filterMap (a.cps[·]?)).toArray⟩:Str)=⟨_⟩
 congr 2
 rw[picked_rev]
 apply bA
 intro i
 rw[filterMap_get,aX,ao]
 .rcases dz i a.length with h|h
  .have h':i<a.cps.size:=h
   rw[ci h,List.getElem?_reverse (by rw[ai];exact h'),ai]
   have e:a.cps.size-1-i<a.cps.size:=by omega
   show some (a.cps.getD (a.cps.size-1-i) 0)=_
   rw[cc,aw e]
   simp[Array.getD,e]
  .rw[aU (by simpa using h),aU (by rw[cj,ai];exact h)]
   rfl
 .intro j hj
  obtain⟨k,hk,rfl⟩:=az.mp hj
  have:=aK.mp hk
  show a.length-1-k<a.length
  omega
def yS' (K:W.Frag) (te:TE):TE:=fun σ H Q=>te σ H fun x H1=>(∃a xs,x=.ref a/\SqT K H1 a xs/\∀p,H1 p=none->Q (.ref p) (upd H1 p (.tup xs.reverse)))\/∃a,x=.str a/\a.length<=sizeLine/\Q (.str (uM' a)) H1
theorem uN' (he:PE X e te) (hs:PO X (some st) (nv' (tUn (rU fun i=>.int (-i)) (tC (.int 1))))):PE X (.Subscript e (.Slice none none (some st) p2) pos) (yS' X.K te):=by
 intro p_ s σ H Q I h
 refine Subscript_ (thn (he p_ s σ H _ I h) fun v s1 ⟨x,H1,I1,r1,q0⟩=>?_)
 refine wpAny_Slice ?_
 rw[evalPart_none]
 refine ab ?_
 refine ab ?_
 refine thn (hs p_ s1 σ H1 (fun l H'=>l=some (-1)/\H'=H1) I1 ⟨1,rfl,-1,rfl,rfl,rfl⟩) fun vs s3 ⟨l,H3,I3,pl,hl,hH⟩=>?_
 subst hl hH
 cases pl with
 |int i u=>
 have I4:Inv X p_ σ H3 { s3 with heap:=s3.heap.push { cls:=.type "slice",data:=.fields #[.none,.none,.int (-1) u] } }:=I3.kept (t':=s3.toks) fun b ob q=>af _ q
 rcases q0 with⟨a,xs,ex,hx,q1⟩|⟨a,ex,hz,q1⟩
 .subst ex
  obtain rfl:v=Value.ref a:=r1
  obtain⟨its,r,ht,hz⟩:=I4.tuple hx
  have hlen:its.toArray.size=xs.length:=by rw[ap];exact r.length.symm
  refine tail_any (ops:=[.ref a,.ref s3.heap.objs.size]) ht.typeIs PyProof.Rows.slot_tuple_getitem.lookup ?_ (by with_unfolding_all rfl)
  refine HT.dr' ht (Heap.IsSliceOf.new ..) (by rw[hlen];exact hz) ?_
  refine⟨.ref _,_,I4.laid (t':=s3.toks) (o:=.tup xs.reverse) (fun b ob q=>af _ q) (ag _) ?_,rfl,q1 _ (I4.hok.fresh (ag _))⟩
  exact⟨by rw[cj];exact hz,_,r.reverse,ng'.new _ _⟩
 .subst ex
  obtain⟨t,rfl⟩:=r1
  refine tail_any (ops:=[.str a t,.ref s3.heap.objs.size]) (typeIs_str _ _ _) F.slot_str_getitem.lookup ?_ (by with_unfolding_all rfl)
  refine wpAny_getItem_str_slice (l:=none) (u:=none) (st:=some (-1,u)) ⟨_,al _ rfl,rfl,rfl⟩ rfl ?_
  rw[kP']
  refine⟨?_,.str _,H3,I4.tok _,⟨_,rfl⟩,q1⟩
  show a.cps.toList.reverse.toArray.size<=sizeLine
  rw[ap,cj,ai]
  exact hz
end
section
variable {prog:Program} {w:World} {A:Around} {E:Value->Shared->Prop} {s:Shared} {b0:Array Keyed} {κ:PyProof.Rows.KeyKind}
set_option tactic.hygienic true in
theorem pK':∀(f n r:Nat),r<=1->minRun' f n r<=n+r
 |0,n,r,_=>by show n+r<=n+r;omega
 |f+1,n,r,hr=>by
  rw[minRun'_succ]
  split
  .omega
  .rename_i h
   have:=pK' f (n / 2) (max r (n % 2)) ⋯
   omega
theorem rh' {n:Nat}:minRun' n n 0<=n:=pK' n n 0 ⋯
def uO' (b0:Array Keyed) (st:SortSt):Prop:=arrOf st=b0/\failedOf st=none/\pendingOf st=#[(0,b0.size,0)]
end
end L2
namespace L2
open PySem PySem.Spec PyProof.Rows PySem.SeqAt
theorem uP' {s:Shared} {p:Addr} {items:Array Value} (pl:s.heap.IsTuple p items):p<s.heap.objs.size/\(∀o:Obj,(s.heap.push o).IsTuple p items):=⟨by obtain⟨o,e,_⟩:=pl;exact au e,fun o=>Heap.IsTuple.push pl o⟩
theorem yT' {s:Shared} {p:Addr} {o:Obj} (hlt:p<s.heap.objs.size):∀b∈[s.heap.objs.size,p],b<(s.heap.push o).objs.size:=by
 intro b hb
 rw[bg]
 simp only[ay,aB,or_false]at hb
 rcases hb with rfl|rfl
 .exact cF _
 .exact bB hlt
def uQ' (K:W.Frag):List V->Hp->VK->Prop:=fun xs H Q=>∃(p:Addr) (ns:List Int),xs=[.ref p]/\SqT K H p (ns.map V.int)/\ns≠[]/\∀M,M∈ns->(∀a∈ns,a<=M)->Q (.int M) H
theorem kQ' {X:Cx} (hc:X.calm=true):aP' X (.builtin "max") (uQ' X.K):=by
 intro p_ s σ H xs us Q I r h
 obtain⟨p,ns,rfl,hs,hne,q⟩:=h
 obtain⟨u,rfl,ru⟩:=dl' r
 cases ru
 obtain⟨its,rv,pl,hz⟩:=I.tuple hs
 have pl:s.heap.IsTuple p its.toArray:=pl
 have hi:=cm' rv
 obtain⟨xs,e⟩:=hi.allInts.items
 have hns:ns=xs.toList.map (·.1):=by
  rw[<- hi.numsOf,<- nums_intItems,<- e]
 have hsz:0<xs.size:=by
  have h3:=List.length_pos_iff.mpr hne
  rw[hns,ac,ai]at h3
  exact h3
 rw[e]at pl
 obtain⟨hlt,hpush⟩:=uP' pl
 refine call_max_walk (dc pl ?_)
 refine⟨_,_,_,_,_,_,_,rfl,Walks.tuple (A:=X.A.in1) (I.ok.hd hc) _ p (aA hlt) (intItems xs),⟨⟨_,al _ rfl,rfl,rfl⟩,hpush _⟩,yT' hlt,by simpa[intItems]using hsz,CmpOf.ints_gt (numAt xs) (fun _ _=>intItems_at),fun v h' tk hv hk=>?_⟩
 rw[show(intItems xs).size=xs.size by simp[intItems]]at hv
 obtain⟨t,rfl⟩:=intItems_at hv
 obtain⟨h1,h2⟩:=argBest_gt (numAt xs) (xs.size-1)
 refine⟨.int _,H,I.kept (t':=tk) fun b o e=>hk b o (by simp;exact aA (au e)) (af _ e),⟨t,rfl⟩,q _ ?_ fun a ha=>?_⟩
 .rw[hns,numAt_eq];exact getD_mem (by rw[ac,ai];omega)
 .rw[hns]at ha
  obtain⟨j,hj,rfl⟩:=mem_getD ha
  rw[ac,ai]at hj
  rw[<- numAt_eq];exact h2 j ⋯
def AN' (h:Heap) (e:Addr) (cls:Value) (T:Addr):Prop:=∃oe vs oT ts a0,h.get? e=some oe/\(oe.cls=cls/\vs[0]?=some a0)/\oe.data=.fields vs/\vs[1]?=some (.ref T)/\T≠e/\h.get? T=some oT/\oT.data=.fields ts/\ts[3]?=some .none
set_option tactic.hygienic true in
theorem uR' {K:W.Frag} {cd:Value} {q:Str} (e:W.codeIn K cd q=true):W.kdsCode K cd=true:=by
 unfold W.codeIn at e
 unfold W.kdsCode
 split at e
 .split at e
  .rename_i h
   dsimp only
   rw[h]
  .cases e
 .cases e
structure FnCx (X:Cx):Prop where
 ex:X.ex=[]
 fn:∀x,X.fn x=true
 stk:X.stack=X.env :: X.outer
 fr:X.env.frame=some X.env.locals
 cd:W.kdsCode X.K X.env.code=true
section
variable {X:Cx} {p_:List (Addr×Obj)} {σ:St} {H:Hp} {s:Shared}
def CX1 (P:Program) (w:World) (mg:Str->Option Value):CXT:=fun outer H s E e s'=>∃(ea T Ca:Addr) (nm:Str) (H':Hp),e=.ref ea/\mg nm=some (.ref Ca)/\s'.os=s.os/\AllBare s'.gens/\Un (frs outer) [] H H' s.heap s'.heap/\HOk P w H' s'.heap/\
 AN' s'.heap ea (.ref Ca) T/\H' ea=none/\H' T=none/\s.heap.get? ea=none/\s.heap.get? T=none/\E (.str nm 0) none H'
end
end L2
namespace L2
open PySem PySem.Spec PyProof.Rows PySem.W
def AO':Option Int->Value->Bool
 |some k,v=>Value.isInt k v
 |none,.none=>true
 |none,_=>false
theorem aO':∀{k:Option Int} {v:Value},AO' k v=true->(∃i t,k=some i/\v=Value.int i t)\/(k=none/\v=Value.none)
 |some i,v,h=>by
  obtain⟨t,e⟩:=Value.isInt_shape (k:=i) (v:=v) h
  exact .inl ⟨i,t,rfl,e⟩
 |none,v,h=>by cases v<;>first|exact .inr ⟨rfl,rfl⟩|cases h
def okH:Option Int->Int
 |some k=>hashInt k
 |none=>0xFCA86420
def gp' (prog:Program) (w:World):PySem.KeyKind prog w (Option Int) where
 is:=AO'
 hash:=okH
 inj:=fun v a b ha hb=>by
  rcases aO' ha with⟨i,t,rfl,rfl⟩|⟨rfl,rfl⟩
  .rcases aO' hb with⟨j,u,rfl,e⟩|⟨rfl,e⟩
   .injection e with e1 _;rw[e1]
   .exact nomatch e
  .rcases aO' hb with⟨j,u,rfl,e⟩|⟨rfl,e⟩
   .exact nomatch e
   .rfl
 byValue:=fun k v h=>by
  rcases aO' h with⟨i,t,rfl,rfl⟩|⟨rfl,rfl⟩<;>rfl
 pyHash:=fun hv h=>by
  rcases aO' hv with⟨i,t,rfl,rfl⟩|⟨rfl,rfl⟩
  .exact wpAny_pyHash_int h
  .exact cc' h
 eqBool:=fun {A E s a b u v Q} hu hv h=>by
  rcases aO' hu with⟨i,t,rfl,rfl⟩|⟨rfl,rfl⟩
  .rcases aO' hv with⟨j,u,rfl,rfl⟩|⟨rfl,rfl⟩
   .have e:decide ((some i:Option Int)=some j)=(i == j):=by
     by_cases q:i=j
     .subst q;simp
     .rw[decide_eq_false (fun z=>q (Option.some.inj z)),(beq_eq_false_iff_ne.mpr q)]
    rw[e]at h
    exact wpAny_eqBool_int h
   .exact SeqAt.EqAt.int_none i t _ _ _ _ h
  .rcases aO' hv with⟨j,u,rfl,rfl⟩|⟨rfl,rfl⟩
   .exact SeqAt.EqAt.none_int j u _ _ _ _ h
   .exact SeqAt.EqAt.same .none _ _ _ _ h
 «strs»:=fun k x t v h=>by
  rcases aO' h with⟨i,u,rfl,e⟩|⟨rfl,e⟩<;>exact nomatch e
def dC' {α:Type} (own:List Nat) (wi:TI) (g:TG) (tc:TT) (as':TL α) (a0:α) (ho:Addr->α->HO) (ok:α->Hp->Prop):TE:=fun σ H Q=>wi σ H fun J H1=>a0' own g tc as' J σ a0 H1 fun xs H2=>ok xs H2/\∀p,H2 p=none->Q (.ref p) (upd H2 p (ho p xs))
structure CompInG {α:Type} (Is:α->Obj->Prop) (X:Cx) (e:Expr) (scope:Scope) (tg:Expr) (iter:Expr) (ifs:List Expr) (nx:Addr->Env->Sem Unit) (g:TG) (tc:TT) (as':TL α) (own:List Nat):Prop where
 sc:CompSc X scope
 ow:∀i x,X.N[i]?=some x->(scope.names.lookup x=some .local\/scope.names.lookup x=some .cell)->i∈own
 cl:∃gs,clausesOf e=⟨tg,iter,ifs,0⟩ :: gs
 fs:∀x,foldedSetIterable iter X.env x=pure x
 calm:X.calm=true
 q:∀it D env,(Code.compLoop e 0 it (.ref D) env).quiet=true/\(Code.compStart e 0 it (.ref D) env).quiet=true
 u:∀A it D env,Around.under A (Code.compLoop e 0 it (.ref D) env)=A/\Around.under A (Code.compStart e 0 it (.ref D) env)=A
 T:∀P w it D env,(model P w).den (.compLoop e 0 it (.ref D) env)=(aZ' e 0 tg iter ifs (nx D env) it (.ref D) env).onRaise (fun x=>do noteFrame x env;theTreesLotGoes x)
 S:∀P w it D env,(model P w).den (.compStart e 0 it (.ref D) env)=(compStart e 0 it (.ref D) env).onRaise (fun x=>do noteFrame x env;standAt theWindowsPlace)
 ge:tC' own g
 inn:∀s0 H0 ex D,PG (X.comp scope s0 H0 ex) tg g/\PTs (X.comp scope s0 H0 ex) ifs tc/\∃ws',(∀j∈ws',j∈own)/\bO' (X.comp scope s0 H0 ex) D Is ws' (nx D (X.comp scope s0 H0 ex).env) as'
section
variable {X:Cx} {e:Expr} {scope:Scope} {tg iter:Expr} {ifs:List Expr} {nx:Addr->Env->Sem Unit} {g:TG} {tc:TT} {α:Type} {Is:α->Obj->Prop} {as':TL α} {own:List Nat} {wi:TI} {a0:α} {o0:Bool->Obj} {newAcc:Sem Value} {ho:Addr->α->HO} {ok:α->Hp->Prop}
theorem d7' (hnew:∀(s:Shared) (Q:Value->Shared->Prop),(∀led,Q (.ref s.heap.objs.size) { s with heap:=s.heap.push (o0 led) })->wpAny (model X.prog X.w) X.A newAcc Q X.xe s) (hfr:∀led,(o0 led).isFreed=false) (ha0:∀led,Is a0 (o0 led)) (hda:∀(a:α) (o:Obj),Is a o->∀v:Option Value,o.data≠.cell v) (C:CompInG Is X e scope tg iter ifs nx g tc as' own) (hi:PI X tg iter wi) {p_:List (Addr×Obj)} {s:Shared} {σ:St} {H:Hp} {R:V->Hp->Prop} (I:Inv X p_ σ H s) (hw:dC' own wi g tc as' a0 ho ok σ H R)
  {use:Option (Value->Sem Unit)} {Q:Value->Shared->Prop} {pos:Pos}
  (fin:∀(s3 s':Shared) (H0 H':Hp) (ex:List Addr) (D:Addr) (xs:α) (o:Obj) (σ':St),Inv X p_ σ H0 s3->(∀b∈ex,cP' X p_ H0 b)->Inv (X.comp scope s3 H0 ex) [] σ' H' s'->s'.heap.get? D=some o->D<s3.heap.objs.size->X.s₀.heap.objs.size<=D->cP' X p_ H0 D->(D == sysModules)=false->Is xs o->H' D=none->ok xs H'->R (.ref D) (upd H' D (ho D xs))->
   compPost (model X.prog X.w) X.A X.xe use Q (.ref D) s3.heap.objs.size (.ok .next) s'):
  wpAny (model X.prog X.w) X.A (comprehension e scope X.env pos newAcc false (eval iter X.env) use) Q X.xe s:=by
 obtain⟨gs,hcl⟩:=C.cl
 refine wpAny_comprehension_free hcl C.fs (kF' fun n hn=>I.ok.has n (C.sc.free n hn)) C.sc.kind C.sc.names ?_
 refine thn (hi p_ s σ H _ I hw) fun v s1 h1=>thn h1 fun itv s2 h2=>?_
 obtain⟨it,fp,tn,J,H2,rfl,I2,T,st2,f2,hc⟩:=h2
 refine hnew _ _ fun led=>cV' ?_
 have keep:∀b o,s2.heap.get? b=some o->(s2.heap.push (o0 led)).get? b=some o:=fun b o e=>af _ e
 have I3:Inv X p_ σ H2 { s2 with heap:=s2.heap.push (o0 led) }:=I2.kept (t':=s2.toks) keep
 have hsz:(s2.heap.push (o0 led)).objs.size=s2.heap.objs.size+1:=bg ..
 have fD:cP' X p_ H2 s2.heap.objs.size:=I2.fpOk (ag _) (I2.hok.fresh (ag _))
 have hlt:∀b∈fp,b<s2.heap.objs.size:=fun b hb=>by
  obtain⟨o,e,_⟩:=T.obj _ _ st2 b hb
  exact au e
 have hDf:s2.heap.objs.size∉fp:=fun z=>bp _ (hlt _ z)
 have hex:∀b∈s2.heap.objs.size :: fp,cP' X p_ H2 b:=fun b hb=>by
  rcases ay.mp hb with rfl|hb
  .exact fD
  .exact f2 b hb
 generalize hs3:({ s2 with heap:=s2.heap.push (o0 led) }:Shared)=s3 at *
 have hs3s:s3.heap.objs.size=s2.heap.objs.size+1:=by rw[<- hs3];exact hsz
 have hlt3:∀b∈s2.heap.objs.size :: fp,b<s3.heap.objs.size:=fun b hb=>by
  rw[hs3s]
  rcases ay.mp hb with rfl|hb
  .exact cF _
  .exact bB (hlt b hb)
 have J0:=e4' (own:=own) I3 hex hlt3 C.sc C.ow
 obtain⟨c1,c2,ws',c4,c5⟩:=C.inn s3 H2 (s2.heap.objs.size :: fp) s2.heap.objs.size
 have kp:∀b o,s2.heap.get? b=some o->(a4' s3.heap scope.names).get? b=some o:=fun b o e=>pushCells_keeps _ _ b o (af _ (by rw[<- hs3];exact keep b o e))
 have oD:(a4' s3.heap scope.names).get? s2.heap.objs.size=some (o0 led):=pushCells_keeps _ _ _ _ (af _ (by rw[<- hs3];exact al _ (hfr led)))
 have stat:∀b∈s2.heap.objs.size :: fp,cP' (X.comp scope s3 H2 (s2.heap.objs.size :: fp)) [] H2 b:=fun b hb=>
  ⟨(hex b hb).1,(J0.ok.exf b hb).1,J0.ok.exfs b hb,.inl hb,(J0.ok.exf b hb).2,fun p hp=>absurd (show p∈([]:List (Addr×Obj)) from hp) (by simp)⟩
 have T':Turn (X.comp scope s3 H2 (s2.heap.objs.size :: fp)).prog (X.comp scope s3 H2 (s2.heap.objs.size :: fp)).w (X.comp scope s3 H2 (s2.heap.objs.size :: fp)).K tg J fp it tn:=T
 have hc':a0' own g tc as' J (clr own σ) a0 H2 (fun xs H2=>ok xs H2/\∀p,H2 p=none->R (.ref p) (upd H2 p (ho p xs))):=by
  obtain⟨W,w0,turn⟩:=hc
  refine⟨W,w0,?_⟩
  rw[iM']
  exact turn
 have st3:tn 0 ({ s3 with heap:=a4' s3.heap scope.names }:Shared).heap:=T.keep _ _ _ st2 fun b hb o e=>kp b o e
 have L:=d3' (X:=X.comp scope s3 H2 (s2.heap.objs.size :: fp)) (Is:=Is) (D:=s2.heap.objs.size) rfl C.calm (C.q _ _ _).1 (C.u _ _ _ _).1 (C.T _ _ _ _ _) T' c1 C.ge c2 c5 c4 hda hDf J0
  (fun b hb=>stat b (aC _ hb)) (stat _ aE) oD (ha0 led) st3 hc'
 have L2:=fw' (C.q _ _ _).2 (C.u _ _ _ _).2 (fun it'=>(C.q it' _ _).1) (C.S _ _ _ _ _) ⟨_,by rw[hcl];rfl,rfl⟩ L (fun E=>T.self _ 0 _ _ E st3 ⟨rfl,rfl⟩)
 refine codeAny_mono L2 fun r s' h=>?_
 obtain⟨rfl,xs,o',H',J',e',is',n',hN⟩:=h
 exact fin s3 s' H2 H' _ _ xs o' _ I3 hex J' e' (hlt3 _ aE) I2.sz fD (beq_eq_false_iff_ne.mpr (bC I2.big)) is' n' hN.1 (hN.2 _ n')
end
section
variable {X:Cx} {e:Expr} {scope:Scope} {tg iter:Expr} {ifs:List Expr} {nx:Addr->Env->Sem Unit} {g:TG} {tc:TT} {α:Type} {Is:α->Obj->Prop} {as':TL α} {own:List Nat} {wi:TI} {a0:α} {o0:Bool->Obj} {newAcc:Sem Value} {ho:Addr->α->HO} {ok:α->Hp->Prop}
theorem nP' (hnew:∀(s:Shared) (Q:Value->Shared->Prop),(∀led,Q (.ref s.heap.objs.size) { s with heap:=s.heap.push (o0 led) })->wpAny (model X.prog X.w) X.A newAcc Q X.xe s) (hfr:∀led,(o0 led).isFreed=false) (ha0:∀led,Is a0 (o0 led)) (hda:∀(a:α) (o:Obj),Is a o->∀v:Option Value,o.data≠.cell v)
  (hfin:∀(a:α) (o:Obj) (D:Addr) (H:Hp) (h:Heap),Is a o->h.get? D=some o->(D == sysModules)=false->H D=none->ok a H->HOk X.prog X.w H h->aA' X.prog X.w (upd H D (ho D a)) h D (ho D a)) (C:CompInG Is X e scope tg iter ifs nx g tc as' own) (hi:PI X tg iter wi) {pos:Pos} (he:eval e X.env=comprehension e scope X.env pos newAcc false (eval iter X.env)):PE X e (dC' own wi g tc as' a0 ho ok):=by
 intro p_ s σ H Q I hw
 rw[he]
 refine d7' hnew hfr ha0 hda C hi I hw fun s3 s' H0 H' ex D xs o σ' I3 hex J e' hlt h0 fD sy is' n' hok' hR=>?_
 obtain⟨m,hn,_⟩:=J.loc
 refine⟨m,hn,fun h' hs=>?_⟩
 have J2:=cW' I3 hex J hs
 have neC:D≠s3.heap.objs.size:=aA hlt
 refine⟨.ref D,upd H' D (ho D xs),J2.track (o:=ho D xs) ⟨n',fD.2⟩ h0 (hfin xs o D H' _ is' ((hs.2 D neC).trans e') sy n' hok' J2.hok),rfl,hR⟩
theorem hQ' (hnew:∀(s:Shared) (Q:Value->Shared->Prop),(∀led,Q (.ref s.heap.objs.size) { s with heap:=s.heap.push (o0 led) })->wpAny (model X.prog X.w) X.A newAcc Q X.xe s) (hfr:∀led,(o0 led).isFreed=false) (ha0:∀led,Is a0 (o0 led)) (hda:∀(a:α) (o:Obj),Is a o->∀v:Option Value,o.data≠.cell v)
  (hfin:∀(a:α) (o:Obj) (D:Addr) (H:Hp) (h:Heap),Is a o->h.get? D=some o->(D == sysModules)=false->H D=none->ok a H->HOk X.prog X.w H h->aA' X.prog X.w (upd H D (ho D a)) h D (ho D a)) (C:CompInG Is X e scope tg iter ifs nx g tc as' own) (hi:PI X tg iter wi) {i:Nat} {y:Str} {py pos pos2:Pos} (hN:X.N.Nodup) (hy:X.N[i]?=some y) (hx:Loc X.env.scope y) (hf:X.fn y=true\/X.env.scope.names.lookup y=some .local)
  (he:evalThenUse e X.env (assign (.Name y py) X.env)=(do let _ <- comprehension e scope X.env pos2 newAcc false (eval iter X.env) (some (assign (.Name y py) X.env))))
  (hsw:swapsWith e (some (.Name y py)) pos.line X.env=pure true):PS X (.Assign [.Name y py] e pos) (j9' (dC' own wi g tc as' a0 ho ok) (cQ' i)):=by
 intro p_ s σ H D I hw
 rw[exec_Assign_Name_used _ _ _ _ hsw]
 refine aa (cn (aa ?_))
 rw[he]
 refine aa (thn (Q:=fun _ s'=>SP X p_ D .next s') (d7' hnew hfr ha0 hda C hi I hw fun s3 s' H0 H' ex D' xs o σ' I3 hex J e' hlt h0 fD sy is' n' hok' hR=>?_) fun _ s' q=>ab (ab q))
 obtain⟨m,hn,_⟩:=J.loc
 have J2:Inv X p_ σ H' s':=cW' I3 hex J (Heap.SameBut.refl ..)
 have neC:D'≠s3.heap.objs.size:=aA hlt
 have J3:Inv X p_ σ (upd H' D' (ho D' xs)) s':=J2.track ⟨n',fD.2⟩ h0 (hfin xs o D' H' _ is' e' sy n' hok' J2.hok)
 have fC:cP' X p_ H0 s3.heap.objs.size:=I3.fpOk (ag _) (I3.hok.fresh (ag _))
 refine wpAny_assign_Name (dU' J3 hN hy hx (v:=.ref D') rfl (fun s'' J4 hs=>?_) hf)
 obtain⟨a,hsa,ha⟩:=hs
 have haC:s3.heap.objs.size≠a:=by
  rcases ha with rfl|ha
  .exact fC.2.1
  .exact fun q=>fC.2.2.2.2.1 _ _ ha q.symm
 have hn':s'.heap.Ns s3.heap.objs.size m:=hn
 refine⟨m,hn'.sameBut hsa haC,fun h' hs'=>?_⟩
 have J5:Inv X p_ (σ.set i (some (.ref D'))) (upd H' D' (ho D' xs)) { s'' with heap:=h' }:=J4.turned (it:=s3.heap.objs.size) (t':=s''.toks) (fun b ob hb q=>(hs'.2 b hb).trans q) (by rw[ae' (Ne.symm neC)];exact J.free) fC.2.1 fC.2.2.2.1 fC.2.2.2.2.1 fC.2.2.2.2.2
 exact⟨_,_,J5,hR⟩
end
def kO:Option Int->V
 |some i=>.int i
 |none=>.non
theorem gq' {P:Program} {w:World} {k:Option Int} {u:Value} (r:ax' (kO k) u):(gp' P w).is k u=true/\u.scannable=true:=by
 cases k with
 |none=>cases r;exact⟨rfl,rfl⟩
 |some i=>
  obtain⟨t,rfl⟩:=r
  exact⟨by show Value.isInt i (.int i t)=true;simp[Value.isInt],rfl⟩
def IsS (a:(Option Int->Bool)×Nat) (o:Obj):Prop:=a.2<=4000/\(∃es ep t,o.data=.set es ep t)/\∃m,m<=a.2/\∀(P:Program) (w:World),o.SetObjOf (gp' P w) a.1 m
theorem pL' {P:Program} {w:World} {S:Option Int->Bool} {n m:Nat} {o:Obj} (h:o.SetObjOf (gp' P w) S m) (hm:m<=n) (hn:n<=4000):IsS (S,n) o:=⟨hn,⟨_,_,_,h.2.choose_spec.choose_spec.choose_spec.1⟩,m,hm,fun P' w'=>h.transport (knd':=gp' P' w') rfl rfl⟩
theorem fB' (a:(Option Int->Bool)×Nat) (o:Obj) (h:IsS a o) (v:Option Value):o.data≠.cell v:=by
 obtain⟨_,⟨es,ep,t,hd⟩,_⟩:=h
 rw[hd]
 exact fun z=>nomatch z
def eP' (D:Addr) (S:Option Int->Bool) (n:Nat):HO:=.ext fun h=>∃o,h.get? D=some o/\IsS (S,n) o
theorem kR' {P:Program} {w:World} {H:Hp} {h:Heap} {D:Addr} {S:Option Int->Bool} {n:Nat} {o:Obj} (e:h.get? D=some o) (i:IsS (S,n) o):aA' P w H h D (eP' D S n):=
 ⟨⟨o,e,i⟩,⟨o,e⟩,fun h1 h2 ⟨o',e',i'⟩ k=>⟨o',k o' e',i'⟩⟩
section
variable {X:Cx}
theorem kS' {s:Shared} {D:Addr} {a:(Option Int->Bool)×Nat} {o:Obj} (e:s.heap.get? D=some o) (i:IsS a o):∃m,m<=a.2/\s.heap.SetOf (gp' X.prog X.w) D a.1 m:=by
 obtain⟨hn,_,m,hm,h⟩:=i
 exact⟨m,hm,(h X.prog X.w).setOf e (bQ (aF hm hn) (by decide))⟩
def x9' (neg:Bool):R2:=fun x y H Q=>∃k D S n,x=kO k/\y=.ref D/\H D=some (eP' D S n)/\Q (.bl (if neg then !(S k)else S k)) H
theorem uT':OpR X (compareOp .In) (x9' false):=by
 intro p_ s σ H x y v u Q I rx ry h
 obtain⟨k,D,S,n,rfl,rfl,hD,q⟩:=h
 cases ry
 obtain⟨o,e,i⟩:=(show aA' X.prog X.w H s.heap D (eP' D S n) from I.hok D _ hD).1
 obtain⟨m,_,hS⟩:=kS' (X:=X) e i
 exact wpAny_inSet_of (gq' rx).1 (gq' (P:=X.prog) (w:=X.w) rx).2 hS ⟨.bl (S k),H,I.tok _,rfl,q⟩
theorem kT':OpR X (compareOp .NotIn) (x9' true):=by
 intro p_ s σ H x y v u Q I rx ry h
 obtain⟨k,D,S,n,rfl,rfl,hD,q⟩:=h
 cases ry
 obtain⟨o,e,i⟩:=(show aA' X.prog X.w H s.heap D (eP' D S n) from I.hok D _ hD).1
 obtain⟨m,_,hS⟩:=kS' (X:=X) e i
 exact wpAny_notInSet_of (gq' rx).1 (gq' (P:=X.prog) (w:=X.w) rx).2 hS ⟨.bl (!S k),H,I.tok _,rfl,q⟩
def inL (ns:List Int):Option Int->Bool
 |some i=>ns.contains i
 |none=>false
def pM' (K:W.Frag):List V->Hp->VK->Prop:=fun xs H Q=>∃a ns,xs=[.ref a]/\SqL K H a (ns.map V.int)/\ns.length<=3999/\∀p,H p=none->Q (.ref p) (upd H p (eP' p (inL ns) ns.length))
theorem kU' (hc:X.calm=true):aP' X (.type "set") (pM' X.K):=by
 intro p_ s σ H xs us Q I rv h
 obtain⟨a,ns,rfl,hs,hl,q⟩:=h
 cases rv with
 |cons r1 rv=>
  cases rv
  cases r1
  obtain⟨its,r,pl,hz⟩:=I.list hs
  have hlen:=r.length
  rw[ac]at hlen
  refine call_set_list (I.ok.hd hc) pl.isList (cm' r) (by rw[ap,<- hlen];exact bQ (Nat.succ_le_succ hl) (by decide)) fun h' tk hS hk=>?_
  have hn:H s.heap.objs.size=none:=I.hok.fresh (ag _)
  obtain⟨o,ho,hso⟩:=hS.objOf
  have fl:=firstMet_length_le (fun i=>ns.getD i 0) its.toArray.size
  have key:o.SetObjOf (gp' X.prog X.w) (inL ns) (firstMet (fun i=>ns.getD i 0) its.toArray.size).length:=by
   obtain⟨hex,es,ep,t,hd,hel,hmem,hsz,hf⟩:=hso
   refine⟨hex,es,ep,t,hd,fun e he=>?_,fun k=>?_,hsz,hf⟩
   .obtain⟨⟨j,hj,hh⟩,hsc⟩:=hel e he
    exact⟨⟨some j,hj,hh⟩,hsc⟩
   .cases k with
    |none=>
     constructor
     .intro z;cases z
     .rintro⟨e,he,hi⟩
      obtain⟨⟨j,hj,hh⟩,hsc⟩:=hel e he
      obtain⟨t',et⟩:=Value.isInt_shape hj
      rw[et]at hi
      cases hi
    |some i=>
     have:=hmem i
     dsimp only at this
     rw[firstMet_any]at this
     refine Iff.trans ?_ this
     show ns.contains i=true↔_
     have en:(aG its.toArray.size).map (fun i=>ns.getD i 0)=ns:=by
      rw[ap,<- hlen]
      apply bA
      intro j
      rw[ao]
      by_cases hj:j<ns.length
      .rw[ci hj]
       simp[List.getD,hj]
      .rw[bi.mpr (by simpa using hj),bi.mpr ⋯]
       rfl
     rw[en,List.contains_eq_any_beq]
     constructor
     .intro z
      rw[bL]at z ⊢
      obtain⟨x,hx,e⟩:=z
      exact⟨x,hx,by rw[beq_iff_eq]at e ⊢;exact e.symm⟩
     .intro z
      rw[bL]at z ⊢
      obtain⟨x,hx,e⟩:=z
      exact⟨x,hx,by rw[beq_iff_eq]at e ⊢;exact e.symm⟩
  refine⟨.ref s.heap.objs.size,_,I.laid (t':=tk) (fun b o hb=>hk b o (au hb) hb) (ag _) (o:=eP' s.heap.objs.size (inL ns) ns.length) (kR' ho (pL' key (aF fl (by rw[ap,hlen];exact ag _)) ⋯)),rfl,q _ hn⟩
def cZ' (te:TE):TL ((Option Int->Bool)×Nat):=fun σ a H N=>te σ H fun v H'=>∃k,v=kO k/\a.2<4000/\N (fun j=>a.1 j || decide (j=k),a.2+1) H'
theorem kV' {D:Addr} {elt:Expr} {te:TE} (hxe:X.xe=fun _ _=>False) (he:PE X elt te):bO' X D IsS [] (do let v <- eval elt X.env;standAt elt.pos;let _ <- call (.builtin "set.add") [.ref D,v]) (cZ' te):=by
 intro p_ s σ H a o N I hD ho hi hq
 have I1:Inv X (p_++bz' [D] s.heap) σ H s:=I.pinned (fun b hb=>by
  have e:b=D:=by simpa using hb
  subst e
  exact hD) (fun b hb=>by
  have e:b=D:=by simpa using hb
  subst e
  exact⟨o,ho,fB' _ _ hi⟩)
 have h1:=he _ s σ H _ I1 hq
 rw[hxe]at h1
 refine aa (thn h1 fun u s1 ⟨v,H1,J1,r1,k,ek,z1,n1⟩=>?_)
 subst ek
 have q1:=J1.pin (D,o) (aj _ (aj _ (az' (by simp) ho)))
 obtain⟨m,hm,hS⟩:=kS' (X:=X) q1.1 hi
 refine aa (cn (aa (call_set_add (gq' r1).1 (gq' (P:=X.prog) (w:=X.w) r1).2 hS (bQ (Nat.succ_le_of_lt (bQ hm z1)) (by decide)) fun h' hs hS'=>?_)))
 obtain⟨_,f1,f2,f3,f4,f5⟩:=hD
 obtain⟨o',ho',hso⟩:=hS'.objOf
 have J2:Inv X p_ σ H1 { s1 with heap:=h',toks:=s1.toks+1 }:=J1.unpinned.turned (it:=D) (t':=s1.toks+1) (fun b o hb e=>(hs.2 b hb).trans e) q1.2.1 f1 f3 f4 f5
 exact ab ⟨σ,_,o',H1,J2,Ext.refl,ho',pL' hso (by split<;>omega) ⋯,q1.2.1,n1⟩
theorem ri' {A:Around} {E:Value->Shared->Prop} (s:Shared) (Q:Value->Shared->Prop) (h:∀led,Q (.ref s.heap.objs.size) { s with heap:=s.heap.push { cls:=.type "set",dict:=none,data:=.set #[] 0 (.fresh 0 0 led) } }):wpAny (model X.prog X.w) A (newSet (.type "set")) Q E s:=by
 unfold newSet setsByText
 refine aa (aa (bE (ab ?_)))
 exact aI (h _)
theorem nQ' (led:Bool):IsS (fun _=>false,0) { cls:=.type "set",dict:=none,data:=.set #[] 0 (.fresh 0 0 led) }:=⟨aT _,⟨_,_,_,rfl⟩,0,ag _,fun _ _=>setObjOf_fresh led⟩
end
abbrev NH:Int:=0xFCA86420
section
variable {prog:Program} {w:World} {A:Around} {E:Value->Shared->Prop} {s:Shared}
theorem gr' {d:Addr} {o:Obj} {es:Array DictEntry} {ep:Nat} {Q:Option Nat->Shared->Prop} (ho:s.heap.get? d=some o) (hd:o.data=.dict es ep) (hno:∀e∈es.toList,e.hash≠NH) (h:Q none s):
  wpAny (model prog w) A (dictFind d .none NH) Q E s:=by
 have hp:placesWithHash es.size (fun i=>es[i]?.map (·.hash)) NH=[]:=by
  unfold placesWithHash
  rw[List.filter_eq_nil_iff]
  intro i hi hc
  dsimp only at hc
  cases he:es[i]? with
  |none=>rw[he]at hc;cases hc
  |some e=>
   rw[he]at hc
   have hm:e∈es.toList:=Array.mem_toList_iff.mpr (Array.mem_of_getElem? he)
   exact hno e hm (by simpa using hc)
 unfold dictFind
 try with_reducible refine aH ?_
 refine aa (bM ho hd ?_)
 dsimp only
 rw[hp]
 rw[if_pos (show((Value.none :: ([]:List Nat).filterMap (fun i=>es[i]?.map (·.key))).all carriedByValue)=true by rfl)]
 unfold dictWalkPlain
 simp only[dq,pure_bind,bind_pure]
 exact ab h
theorem eQ' {d:Addr} (hd:(d == sysModules)=false):
  MeetsIn prog w (Builtin.«dict.get» ⟨[.ref d,.none],[]⟩) (fun _ R s=>∃o es ep,s.heap.get? d=some o/\o.data=.dict es ep/\(∀e∈es.toList,e.hash≠NH)/\R (.ok (.ret .none)) { s with toks:=s.toks+1 }):=
 .of_wp fun A R s ⟨o,es,ep,h1,h2,h3,h⟩=>by
  show wpAny _ _ (dictGet d .none >>= _) _ _ s
  refine aa ?_
  unfold dictGet
  try with_reducible refine aH ?_
  refine aa (cc' (aa (gr' (s:={ s with toks:=s.toks+1 }) h1 h2 h3 (ab ?_))))
  show wpAny _ _ (Builtin.Dict.missed d .none >>= _) _ _ _
  exact aa (wpAny_missed_other hd (ab ⟨.none,rfl,h⟩))
end
theorem gs' {P:Program} {w:World} {k:Key}:∀{es:List DictEntry} {vs:List (Key×Value)} {en:DictEntry},Pairs (ai' P w) es vs->en∈es->(ai' P w).is k en.key=true->k∈vs.map (·.1)
 |_,_,_,.nil,h,_=>by cases h
 |_,_,en,.cons (e:=e) (kv:=kv) h1 h2 r,h,hk=>by
  rcases ay.mp h with rfl|h
  .rw[(ai' P w).inj _ _ _ hk h1]
   exact aE
  .exact aC _ (gs' r h hk)
theorem a9' {α β:Type} {F:α->β->Prop}:∀{xs:List α} {ys:List β} {y:β},Paired F xs ys->y∈ys->∃x∈xs,F x y
 |_,_,_,.nil,h=>by cases h
 |_,_,y,.cons h1 r,h=>by
  rcases ay.mp h with rfl|h
  .exact⟨_,aE,h1⟩
  .obtain⟨x,hx,hf⟩:=a9' r h
   exact⟨x,aC _ hx,hf⟩
def NoN (H:Hp) (a:Addr):Prop:=(∃kvs,H a=some (.dK kvs)/\∀kv∈kvs,∃i:Int,kv.1=.inl i/\hashInt i≠NH)\/
 ∃kvs,H a=some (.dT kvs)/\∀kv∈kvs,∃is:List Int,kv.1=is.map Key.inl/\reduceHash (Builtin.Tuple.tupleHashOf (is.map hashInt))≠NH
theorem NoN.at {X:Cx} {p_:List (Addr×Obj)} {σ:St} {H:Hp} {s:Shared} {a:Addr} (I:Inv X p_ σ H s) (h:NoN H a):(a == sysModules)=false/\s.TypeIs (.ref a) "dict"/\∃o es ep,s.heap.get? a=some o/\o.data=.dict es ep/\∀e∈es.toList,e.hash≠NH:=by
 rcases h with⟨kvs,e,hk⟩|⟨kvs,e,hk⟩
 .obtain⟨z,hd,vs,rel,dd⟩:=uo' I.hok e
  refine⟨hd,dd.typeIs,?_⟩
  obtain⟨o,es,ep,h1,_,h3,h4,h5,_⟩:=dd
  refine⟨o,es,ep,h1,h3,fun en hen=>?_⟩
  obtain⟨k,hk1,hk2⟩:=h4 en (Array.mem_toList_iff.mp hen)
  have hin:k∈kvs.map (·.1):=by
   rw[rel.keys]
   exact gs' h5 hen hk1
  obtain⟨kv,hkv,rfl⟩:=az.mp hin
  obtain⟨i,ei,hi⟩:=hk kv hkv
  rw[hk2,ei]
  exact hi
 .obtain⟨z,hd,xs,rel,dd⟩:=up' I.hok e
  refine⟨hd,dd.typeIs,?_⟩
  obtain⟨o,es,ep,h1,_,h3,h4,_⟩:=dd
  refine⟨o,es,ep,h1,h3,fun en hen=>?_⟩
  rw[h4]at hen
  obtain⟨x,hx,rfl⟩:=az.mp hen
  obtain⟨kv,hkv,hp⟩:=a9' rel hx
  obtain⟨is,ei,hi⟩:=hk kv hkv
  show(tupleKind (ai' X.prog X.w)).hash x.1≠NH
  rw[<- hp.1,ei]
  show reduceHash (Builtin.Tuple.tupleHashOf ((is.map Key.inl).map (ai' X.prog X.w).hash))≠NH
  rw[aX]
  exact hi
theorem uU' {X:Cx} {p_:List (Addr×Obj)} {σ:St} {H:Hp} {s:Shared} {a:Addr} {A:Around} {E:Value->Shared->Prop} {Q:Value->Shared->Prop} (I:Inv X p_ σ H s) (g:NoN H a) (h:∀s',Inv X p_ σ H s'->Q .none s'):
  wpAny (model X.prog X.w) A (call (.builtin "dict.get") [.ref a,.none]) Q E s:=by
 obtain⟨hd,ht,o,es,ep,h1,h2,h3⟩:=g.at I
 exact call_meetsIn PySem.F.slot_dict_get ht PySem.F.entry_dict_get (PySem.F.args_dict_get_2 _ _) (eQ' hd) ⟨o,es,ep,h1,h2,h3,h _ (I.tok _)⟩
def uV' (P:Program) (w:World) (kvs:List (Key×V)) (o:Obj):Prop:=kvs.length<=sizeLine/\∃vs es ep,KV kvs vs/\o.ExactDict/\o.data=.dict es ep/\KeysOf (ai' P w) es/\Pairs (ai' P w) es.toList vs/\(vs.map (·.1)).Nodup
theorem gt' {P:Program} {w:World} (a:List (Key×V)) (o:Obj) (h:uV' P w a o) (v:Option Value):o.data≠.cell v:=by
 obtain⟨_,_,es,ep,_,_,hd,_⟩:=h
 rw[hd]
 exact fun z=>nomatch z
theorem iP' {X:Cx} {A:Around} {E:Value->Shared->Prop} (s:Shared) (Q:Value->Shared->Prop) (h:∀_led:Bool,Q (.ref s.heap.objs.size) { s with heap:=s.heap.push { cls:=.type "dict",dict:=none,data:=.dict #[] } }):wpAny (model X.prog X.w) A newDict Q E s:=aI (h true)
theorem kW' {P:Program} {w:World} (_led:Bool):uV' P w [] { cls:=.type "dict",dict:=none,data:=.dict #[] }:=
 ⟨aT _,[],#[],0,.nil,⟨rfl,rfl,rfl⟩,rfl,fun e he=>by simp at he,.nil,cL⟩
theorem uW' {P:Program} {w:World} (a:List (Key×V)) (o:Obj) (D:Addr) (H:Hp) (h:Heap) (i:uV' P w a o) (e:h.get? D=some o) (sy:(D == sysModules)=false) (_:H D=none) (_:True) (_:HOk P w H h):aA' P w (upd H D (.dK a)) h D (.dK a):=by
 obtain⟨z,vs,es,ep,h1,h2,h3,h4,h5,h6⟩:=i
 exact⟨z,sy,vs,h1,o,es,ep,e,h2,h3,h4,h5,h6⟩
section
variable {X:Cx}
def iQ' (tk tv:TE):TL (List (Key×V)):=fun σ a H N=>tk σ H fun y H1=>tv σ H1 fun v H2=>∃k,y=kV k/\a.length<sizeLine/\N (eM' a k v) H2
theorem kX' {D:Addr} {ke ve:Expr} {tk tv:TE} (hxe:X.xe=fun _ _=>False) (hk:PE X ke tk) (hv:PE X ve tv):bO' X D (uV' X.prog X.w) [] (do
   let kv <- eval ke X.env
   let vv <- holding [kv] (eval ve X.env)
   match Value.ref D with
   | .ref d=>do
    standAt { ke.pos with endLine:=ve.pos.endLine,endCol:=ve.pos.endCol }
    holding [kv,vv] (dictSet d kv vv)
   |_=>unsupported "internal:dictcomp") (iQ' tk tv):=by
 intro p_ s σ H a o N I hD ho hi hq
 have pinD:∀{s1:Shared} {pins1:List (Addr×Obj)} {H1:Hp},Inv X pins1 σ H1 s1->cP' X pins1 H1 D->s1.heap.get? D=some o->Inv X (pins1++bz' [D] s1.heap) σ H1 s1:=fun J f e=>J.pinned (fun b hb=>by
  have z:b=D:=by simpa using hb
  subst z
  exact f) (fun b hb=>by
  have z:b=D:=by simpa using hb
  subst z
  exact⟨o,e,gt' _ _ hi⟩)
 have h1:=hk _ s σ H _ (pinD I hD ho) hq
 rw[hxe]at h1
 refine aa (thn h1 fun u s1 ⟨y,H1,J1,r1,hq1⟩=>?_)
 have q1:=J1.pin (D,o) (aj _ (aj _ (az' (by simp) ho)))
 have h2:=hv _ s1 σ H1 _ J1 hq1
 rw[hxe]at h2
 refine aa (aH (thn h2 fun u2 s2 ⟨v,H2,J2,r2,k,ek,z2,n2⟩=>?_))
 subst ek
 have q2:=J2.pin (D,o) (aj _ (aj _ (az' (by simp) ho)))
 obtain⟨z,vs,es,ep,g1,g2,g3,g4,g5,g6⟩:=hi
 have dd:s2.heap.DictOf (ai' X.prog X.w) D vs:=⟨o,es,ep,q2.1,g2,g3,g4,g5,g6⟩
 refine aa (cn (aH (wpAny_dictSet_pairs (hsz:=by rw[<- g1.length];exact z) (jy' r1) dd fun h' dd' hs=>?_)))
 obtain⟨_,f1,f2,f3,f4,f5⟩:=hD
 obtain⟨o',es',ep',d1,d2,d3,d4,d5,d6⟩:=dd'
 have J3:Inv X p_ σ H2 { s2 with heap:=h',toks:=s2.toks+1 }:=J2.unpinned.turned (it:=D) (t':=s2.toks+1) (fun b o hb e=>(hs.2 b hb).trans e) q2.2.1 f1 f3 f4 f5
 exact⟨σ,_,o',H2,J3,Ext.refl,d1,⟨aF (cC' a k v) z2,_,es',ep',g1.put k r2,d2,d3,d4,d5,d6⟩,q2.2.1,n2⟩
end
abbrev KTL:=List (List Key×Addr×V)
def uX' (P:Program) (w:World) (a:KTL) (o:Obj):Prop:=a.length<=sizeLine/\∃(xs:List (List Key×Addr×Value)) (es:Array DictEntry) (ep:Nat),Paired (fun(p:List Key×Addr×V) (q:List Key×Addr×Value)=>p.1=q.1/\p.2.1=q.2.1/\ax' p.2.2 q.2.2) a xs/\o.ExactDict/\o.data=.dict es ep/\es.toList=xs.map (entryOfKey (tupleKind (ai' P w)))/\(xs.map (·.1)).Nodup
theorem gu' {P:Program} {w:World} (a:KTL) (o:Obj) (h:uX' P w a o) (v:Option Value):o.data≠.cell v:=by
 obtain⟨_,_,es,ep,_,_,hd,_⟩:=h
 rw[hd]
 exact fun z=>nomatch z
theorem kY' {P:Program} {w:World} (_led:Bool):uX' P w [] { cls:=.type "dict",dict:=none,data:=.dict #[] }:=
 ⟨aT _,[],#[],0,.nil,⟨rfl,rfl,rfl⟩,rfl,rfl,cL⟩
def okT (a:KTL) (H:Hp):Prop:=∀x∈a,H x.2.1=some (.tup (x.1.map kV))
def plT (a:KTL):List (List Key×V):=a.map fun x=>(x.1,x.2.2)
theorem e6' {H:Hp}:∀{a:KTL} {xs:List (List Key×Addr×Value)},Paired (fun(p:List Key×Addr×V) (q:List Key×Addr×Value)=>p.1=q.1/\p.2.1=q.2.1/\ax' p.2.2 q.2.2) a xs->okT a H->Paired (fun(p:List Key×V) (q:List Key×Addr×Value)=>p.1=q.1/\H q.2.1=some (.tup (p.1.map kV))/\ax' p.2 q.2.2) (plT a) xs
 |_,_,.nil,_=>.nil
 |_,_,.cons h r,ok=>.cons ⟨h.1,by rw[<- h.2.1];exact ok _ aE,h.2.2⟩ (e6' r fun x hx=>ok x (aC _ hx))
theorem uY' {P:Program} {w:World} (a:KTL) (o:Obj) (D:Addr) (H:Hp) (h:Heap) (i:uX' P w a o) (e:h.get? D=some o) (sy:(D == sysModules)=false) (hD:H D=none) (ok:okT a H) (_:HOk P w H h):aA' P w (upd H D (.dT (plT a))) h D (.dT (plT a)):=by
 obtain⟨z,xs,es,ep,h1,h2,h3,h4,h5⟩:=i
 refine⟨by unfold plT;rw[ac];exact z,sy,xs,e6' h1 fun x hx=>?_,o,es,ep,e,h2,h3,h4,h5⟩
 rw[ae' (au' (ok x hx) hD)]
 exact ok x hx
section
variable {X:Cx}
def iR' (tk tv:TE):TL KTL:=fun σ a H N=>tk σ H fun y H1=>tv σ H1 fun v H2=>∃(k:List Key) (b:Addr),y=.ref b/\H2 b=some (.tup (k.map kV))/\okT a H2/\(∀x∈a,x.1≠k)/\a.length<sizeLine/\N (a++[(k,b,v)]) H2
theorem kZ' {D:Addr} {ke ve:Expr} {tk tv:TE} (hu:X.A.units+1<cLine) (hxe:X.xe=fun _ _=>False) (hk:PE X ke tk) (hv:PE X ve tv):bO' X D (uX' X.prog X.w) [] (do
   let kv <- eval ke X.env
   let vv <- holding [kv] (eval ve X.env)
   match Value.ref D with
   | .ref d=>do
    standAt { ke.pos with endLine:=ve.pos.endLine,endCol:=ve.pos.endCol }
    holding [kv,vv] (dictSet d kv vv)
   |_=>unsupported "internal:dictcomp") (iR' tk tv):=by
 intro p_ s σ H a o N I hD ho hi hq
 have pinD:∀{s1:Shared} {pins1:List (Addr×Obj)} {H1:Hp},Inv X pins1 σ H1 s1->cP' X pins1 H1 D->s1.heap.get? D=some o->Inv X (pins1++bz' [D] s1.heap) σ H1 s1:=fun J f e=>J.pinned (fun b hb=>by
  have z:b=D:=by simpa using hb
  subst z
  exact f) (fun b hb=>by
  have z:b=D:=by simpa using hb
  subst z
  exact⟨o,e,gu' _ _ hi⟩)
 have h1:=hk _ s σ H _ (pinD I hD ho) hq
 rw[hxe]at h1
 refine aa (thn h1 fun u s1 ⟨y,H1,J1,r1,hq1⟩=>?_)
 have h2:=hv _ s1 σ H1 _ J1 hq1
 rw[hxe]at h2
 refine aa (aH (thn h2 fun u2 s2 ⟨v,H2,J2,r2,k,b,ek,eb,ok,nw,z2,n2⟩=>?_))
 subst ek
 cases(show u=Value.ref b from r1)
 have q2:=J2.pin (D,o) (aj _ (aj _ (az' (by simp) ho)))
 obtain⟨z,xs,es,ep,g1,g2,g3,g4,g5⟩:=hi
 have hxl:=Paired.length g1
 have dd:s2.heap.DictOfH (tupleKind (ai' X.prog X.w)) D xs:=⟨o,es,ep,q2.1,g2,g3,g4,fun x hx=>by
  obtain⟨p,hp,e1,e2,_⟩:=a9' g1 hx
  rw[<- e1,<- e2]
  exact cd' J2.hok (ok p hp),g5⟩
 refine aa (cn (aH (wpAny_dictSet_heap (hsz:=by rw[<- hxl];exact z) (show X.A.units<cLine from Nat.lt_of_succ_lt hu) (cd' J2.hok eb) dd fun h' dd' hs=>?_)))
 obtain⟨_,f1,f2,f3,f4,f5⟩:=hD
 have hnew:∀x∈xs,x.1≠k:=fun x hx e=>by
  obtain⟨p,hp,e1,_⟩:=a9' g1 hx
  exact nw p hp (e1.trans e)
 rw[storedH_new (by unfold atKey;rw[List.find?_eq_none.mpr (fun x hx=>by simpa using hnew x hx)];rfl)]at dd'
 obtain⟨o',es',ep',d1,d2,d3,d4,d5,d6⟩:=dd'
 have J3:Inv X p_ σ H2 { s2 with heap:=h',toks:=s2.toks+(tupleKind (ai' X.prog X.w)).draws k }:=J2.unpinned.turned (it:=D) (t':=s2.toks+(tupleKind (ai' X.prog X.w)).draws k) (fun b o hb e=>(hs.2 b hb).trans e) q2.2.1 f1 f3 f4 f5
 exact⟨σ,_,o',H2,J3,Ext.refl,d1,⟨by rw[ax];exact z2,_,es',ep',Paired.snoc g1 ⟨rfl,rfl,r2⟩,d2,d3,d4,d6⟩,q2.2.1,n2⟩
end
section
variable {prog:Program} {w:World} {A:Around} {E:Value->Shared->Prop} {s:Shared}
theorem jC' {nm:String} {a b:Addr} {oa ob:Obj} {es es':Array DictEntry} {ep ep':Nat} {Q:Bool->Shared->Prop} (ha:(a == sysModules)=false) (hb:(b == sysModules)=false)
  (hoa:s.heap.get? a=some oa) (hda:oa.data=.dict es ep) (hob:s.heap.get? b=some ob) (hdb:ob.data=.dict es' ep') (h0:es'.size=0) (h:Q (decide (es.size=0)) s):wpAny (model prog w) A (Builtin.Dict.samePairs nm a b) Q E s:=by
 unfold Builtin.Dict.samePairs Builtin.Dict.showsAll
 rw[if_neg (show ¬(a == sysModules)=true by rw[ha];exact ak),if_neg (show ¬(b == sysModules)=true by rw[hb];exact ak)]
 refine aa (ab (aa (ab ?_)))
 refine aa (bM hoa hda ?_)
 dsimp only
 refine aa (bM hob hdb ?_)
 by_cases hsz:es.size=0
 case neg=>
  rw[if_pos (by rw[h0];simpa using hsz)]
  rw[decide_eq_false hsz]at h
  exact aa (bR (ab h))
 case pos=>
  rw[decide_eq_true hsz]at h
  rw[if_neg (by rw[h0,hsz];simp)]
  refine aa (cA hoa hda ?_)
  refine aa ?_
  rw[Std.Legacy.Range.forIn_eq_forIn_range']
  simp only[Std.Legacy.Range.size,Nat.sub_zero,Nat.add_sub_cancel,Nat.div_one]
  rw[hsz]
  exact ab (ab h)
theorem nR' {a b:Addr} {oa ob:Obj} {es es':Array DictEntry} {ep ep':Nat} {Q:Value->Shared->Prop} (ha:(a == sysModules)=false) (hb:(b == sysModules)=false) (ta:s.TypeIs (.ref a) "dict") (tb:s.TypeIs (.ref b) "dict")
  (hoa:s.heap.get? a=some oa) (hda:oa.data=.dict es ep) (hob:s.heap.get? b=some ob) (hdb:ob.data=.dict es' ep') (h0:es'.size=0) (hu:A.units<cLine) (h:Q (.bool (!decide (es.size=0))) s):wpAny (model prog w) A (compareOp .NotEq (.ref a) (.ref b)) Q E s:=by
 refine wpAny_richCompare_same_room (op:=.NotEq) ta tb PySem.F.slot_dict_ne (aO PySem.F.slot_dict_ne ta PySem.F.entry_dict_ne ?_ (PySem.F.args_dict_ne_2 _ _)) hu
 show wpAny _ _ (Builtin.Dict.dictSlotArgs "__ne__" ⟨[.ref a,.ref b],[]⟩ >>= _) _ _ s
 refine aa ?_
 unfold Builtin.Dict.dictSlotArgs
 refine aa (dg ta ?_)
 show wpAny _ _ (pure (Value.ref a,Value.ref b)) _ _ s
 refine ab ?_
 refine aa (bW (T:="dict") tb PySem.F.sub_dict_dict ?_)
 simp only[Bool.not_true,aZ,if_false]
 refine aa (ab (aa (ab ?_)))
 refine aa (jC' ha hb hoa hda hob hdb h0 ?_)
 refine ab ⟨_,rfl,?_,?_⟩
 .exact fun x=>nomatch x
 .simpa using h
end
section
variable {X:Cx}
def uZ':R2:=fun x y H Q=>∃a b kvs,x=.ref a/\y=.ref b/\Rd H a (.dT kvs)/\H b=some (.dK [])/\Q (.bl (!decide (kvs=[]))) H
theorem rj' (hu:X.A.units+64<cLine):OpR X (compareOp .NotEq) uZ':=by
 intro p_ s σ H x y v u Q I rx ry h
 obtain⟨a,b,kvs,rfl,rfl,h1,h2,k⟩:=h
 cases rx
 cases ry
 obtain⟨z,ha,xs,rel,o,es,ep,ho,hc,hdat,he,_⟩:=ft' I.hok h1
 obtain⟨_,hb,vs,rel2,o2,es2,ep2,ho2,hc2,hdat2,hk2,hp2,_⟩:=hJ' I.hok (.inl h2)
 have hv:vs=[]:=cu (by have:=Paired.length rel2;simpa using this.symm)
 subst hv
 have e0:es2.size=0:=by rw[<- ai,hp2.length];rfl
 have e1:decide (es.size=0)=decide (kvs=[]):=by
  rw[<- ai,he,ac,<- Paired.length rel]
  cases kvs<;>simp
 refine nR' ha hb ⟨o,ho,hc.1⟩ ⟨o2,ho2,hc2.1⟩ ho hdat ho2 hdat2 e0 ⋯ ?_
 rw[e1]
 exact⟨.bl _,H,I,rfl,k⟩
end
end L2
namespace PySem
open Sem (wp)
namespace F
theorem gv':typeLookup (.type "list") "__getattr__"=pure none:=by rw[typeLookup_type,builtinLookup_eq_fast];kernel_rfl
theorem gw':typeLookup (.type "list") "keys"=pure none:=by rw[typeLookup_type,builtinLookup_eq_fast];kernel_rfl
theorem d8':isSubtype (.type "AttributeError") (.type "AttributeError")=pure true:=by rw[isSubtype_type];kernel_rfl
end F
section
variable {prog:Program} {w:World} {A:Around} {h:Heap} {g:Array GenState} {d:Drawn} {t:Nat} {os:OsState} {a:Addr}
theorem jD' {α:Type} {E:Value->Shared->Prop} {Q:α->Shared->Prop} {o:Value} {name msg:Str} (hh:A.handled=none) (hm:msg.length<=sizeLine)
  (hE:∀h' tk e,(∀b ob,h.get? b=some ob->h'.get? b=some ob)->(∃oe,h'.get? e=some oe/\oe.cls=.type "AttributeError")->h.objs.size<=h'.objs.size->t<=tk->E (.ref e) ⟨h',g,d,tk,os⟩):
  wpAny (model prog w) A (raiseAttrError o name msg) Q E ⟨h,g,d,t,os⟩:=by
 unfold raiseAttrError newExc
 have f1:=F.d8'
 repeat (any_goals (first|assumption|wp_step))
 simp only[raiseNew]
 refine aa (dB ?_)
 rw[hh]
 refine aa (ab (wpAny_throw ?_))
 refine hE _ _ _ (fun b ob eb=>?_) ?_ ?_ ⋯
 .have hb:=au eb
  refine(Heap.SameBut.update ..).extBut b ob (fun z=>?_) (af _ (af _ eb))
  rw[bg]at z
  exact aA (bB hb) z
 .exact⟨_,aP _ (al _ rfl) (Obj.isFreed_of_fields (Obj.data_mapFields rfl _)),(Obj.cls_mapFields ..).trans rfl⟩
 .rw[(Heap.SameBut.update ..).1,bg,bg]
  omega
theorem d9' {tk:Tok} {E:Value->Shared->Prop} {items:Array Value} {ne:Nat} {sl:Array (Option Value)} {Q:Fin->Shared->Prop} (hx:h.get? a=some { cls:=.type "list",data:=.seq items ne,dict:=none,slots:=sl }) (hh:A.handled=none)
  (hE:∀h' tk e,(∀b ob,h.get? b=some ob->h'.get? b=some ob)->(∃oe,h'.get? e=some oe/\oe.cls=.type "AttributeError")->h.objs.size<=h'.objs.size->t<=tk->E (.ref e) ⟨h',g,d,tk,os⟩):
  wpAny (model prog w) A (Builtin.«object.__getattribute__» ⟨[.ref a,.str "keys" tk],[]⟩) Q E ⟨h,g,d,t,os⟩:=by
 have hT:(⟨h,g,d,t,os⟩:Shared).TypeIs (.ref a) "list":=⟨_,hx,rfl⟩
 have f4:=F.gw'
 repeat (any_goals (first|assumption|wp_step))
 exact jD' hh ⋯ hE
theorem eR' {tk:Tok} {items:Array Value} {ne:Nat} {sl:Array (Option Value)} {R:Result->Shared->Prop} (hx:h.get? a=some { cls:=.type "list",data:=.seq items ne,dict:=none,slots:=sl }) (hh:A.handled=none)
  (hE:∀h' tk e,(∀b ob,h.get? b=some ob->h'.get? b=some ob)->(∃oe,h'.get? e=some oe/\oe.cls=.type "AttributeError")->h.objs.size<=h'.objs.size->t<=tk->R (.error (.ref e)) ⟨h',g,d,tk,os⟩):
  codeAny (model prog w) A (.call (.builtin "list.__getattribute__") ⟨[.ref a,.str "keys" tk],[]⟩) R ⟨h,g,d,t,os⟩:=
 codeAny_call_builtin F.slot_list_getattribute.plain F.entry_list_ga (F.slot_list_getattribute.check _ _ _ _ _ _ _ _ (show(⟨h,g,d,t,os⟩:Shared).TypeIs (.ref a) "list" from⟨_,hx,rfl⟩) (F.args_list_getattribute_2 _ _) (d9' hx hh hE))
theorem gx' {tk:Tok} {E:Value->Shared->Prop} {items:Array Value} {ne:Nat} {sl:Array (Option Value)} {Q:Value->Shared->Prop} (hx:h.get? a=some { cls:=.type "list",data:=.seq items ne,dict:=none,slots:=sl }) (hh:A.handled=none)
  (hE:∀h' tk e,(∀b ob,h.get? b=some ob->h'.get? b=some ob)->(∃oe,h'.get? e=some oe/\oe.cls=.type "AttributeError")->h.objs.size<=h'.objs.size->t<=tk->E (.ref e) ⟨h',g,d,tk,os⟩):
  wpAny (model prog w) A (getAttrBy (.ref a) (.str "keys" tk) false) Q E ⟨h,g,d,t,os⟩:=by
 have hT:(⟨h,g,d,t,os⟩:Shared).TypeIs (.ref a) "list":=⟨_,hx,rfl⟩
 have f2:=F.slot_list_getattribute.lookup
 have f3:=F.slot_list_getattribute.bind (.ref a)
 repeat (any_goals (first|assumption|wp_step))
 refine eR' hx hh fun h' tk' e k1 ⟨oe,he,hce⟩ k2 k3=>?_
 dsimp only
 unfold getattributeRaised
 have f5:=F.d8'
 have f6:=F.gv'
 have hTe:(⟨h',g,d,tk',os⟩:Shared).TypeIs (.ref e) "AttributeError":=⟨_,he,hce⟩
 refine aa (bW (T:="AttributeError") (b:=true) hTe f5 ?_)
 rw[if_pos rfl]
 repeat (any_goals (first|assumption|wp_step))
 exact hE h' tk' e k1 ⟨oe,he,hce⟩ k2 k3
theorem eS' {E:Value->Shared->Prop} {items:Array Value} {ne:Nat} {sl:Array (Option Value)} {Q:Option Value->Shared->Prop} (hx:h.get? a=some { cls:=.type "list",data:=.seq items ne,dict:=none,slots:=sl }) (hh:A.handled=none)
  (hQ:∀h' tk,(∀b ob,h.get? b=some ob->h'.get? b=some ob)->h.objs.size<=h'.objs.size->t<=tk->Q none ⟨h',g,d,tk,os⟩):
  wpAny (model prog w) A (getAttr? (.ref a) "keys") Q E ⟨h,g,d,t,os⟩:=by
 unfold getAttr? getAttrBy?
 refine aa (wpAny_mkText (s:=⟨h,g,d,t,os⟩) ?_)
 refine aa (cw (gx' hx hh fun h' tk' e k1 ⟨oe,he,hce⟩ k2 k3=>?_))
 have hTe:(⟨h',g,d,tk',os⟩:Shared).TypeIs (.ref e) "AttributeError":=⟨_,he,hce⟩
 dsimp only
 refine aa (bW (T:="AttributeError") (b:=true) hTe F.d8' ?_)
 rw[if_pos rfl]
 have k4:t+1<=tk':=k3
 exact ab (hQ h' tk' k1 k2 ⋯)
end
end PySem
namespace PySem
namespace F
theorem cA':plainId "dict.__new__"=true:=⋯
theorem eT':entryFor table "dict.__new__"=some Builtin.«dict.__new__»:=entryFor_of_tree (by kernel_rfl)
theorem iS':mroOf (.type "dict")=pure [.type "dict",.type "object"]:=by first|rfl|kernel_rfl
theorem k0':Bind.madeBy (.type "dict")=pure (some "dict.__new__"):=by first|rfl|kernel_rfl
theorem c0':isSubtype (.type "dict") (.type "dict")=pure true:=by rw[isSubtype_type];kernel_rfl
theorem aK':TypeCalled "dict" "dict.__new__" "dict.__init__":=
 ⟨⋯,⋯,⟨_,_,iS'⟩,k0',⋯,c0',slot_dict_init⟩
theorem ea' (a:Value):checkTypeCall "dict" ⟨[a],[]⟩=pure ():=by kernel_rfl
theorem eU' (a:Value):checkBuiltinCall "dict.__new__" ⟨[.type "dict",a],[]⟩=pure ():=by kernel_rfl
theorem bj':entryFor table "dict.update.loop"=some Builtin.«dict.update.loop»:=entryFor_of_tree (by kernel_rfl)
theorem aR':plainId "dict.update.loop"=true:=⋯
end F
end PySem
namespace L2
open PySem PySem.Spec PyProof.Rows
section
variable {prog:Program} {w:World} {A:Around} {R:Result->Shared->Prop} {I:Addr} {fp wr:List Addr} {G:Array GenState->Array GenState->Prop} {n:Nat} {St:Nat->Shared->Prop}
abbrev kT (prog:Program) (w:World):=tupleKind (ai' prog w)
def jE' (key:Nat->List Key) (ka:Nat->Addr) (xv:Nat->Value):Nat->List (List Key×Addr×Value)
 |0=>[]
 |i+1=>storedH (jE' key ka xv i) (key i) (ka i) (xv i)
def OkP (prog:Program) (w:World) (n:Nat) (ps:Nat->Addr) (key:Nat->List Key) (ka:Nat->Addr) (xv:Nat->Value) (h:Heap):Prop:=
 ∀i,i<n->IsTup h (ps i) #[.ref (ka i),xv i]/\(kT prog w).is h (key i) (ka i)
theorem OkP.at {ps:Nat->Addr} {key:Nat->List Key} {ka:Nat->Addr} {xv:Nat->Value} {h h':Heap} (x:OkP prog w n ps key ka xv h) (k:∀i,i<n->∀b,b=ps i\/b=ka i->∀o,h.get? b=some o->h'.get? b=some o):OkP prog w n ps key ka xv h':=fun i hi=>by
 obtain⟨⟨o,e,c,m,z⟩,⟨o2,its,m2,e2,r⟩⟩:=x i hi
 exact⟨⟨o,k i hi _ (.inl rfl) o e,c,m,z⟩,⟨o2,its,m2,k i hi _ (.inr rfl) o2 e2,r⟩⟩
theorem hT' {key:Nat->List Key} {ka:Nat->Addr} {xv:Nat->Value}:∀{i:Nat} {x:List Key×Addr×Value},x∈jE' key ka xv i->∃j,j<i/\x.1=key j/\x.2.1=ka j
 |0,x,h=>by cases h
 |i+1,x,h=>by
  have h:x∈storedH (jE' key ka xv i) (key i) (ka i) (xv i):=h
  cases hf:atKey (jE' key ka xv i) (key i)with
  |none=>
   rw[storedH_new hf]at h
   rcases aL.mp h with h|h
   .obtain⟨j,h1,h2⟩:=hT' h
    exact⟨j,⋯,h2⟩
   .cases aV.mp h
    exact⟨i,⋯,rfl,rfl⟩
  |some p=>
   rw[storedH_old hf]at h
   obtain⟨y,hy,rfl⟩:=az.mp h
   obtain⟨j,h1,h2,h3⟩:=hT' hy
   refine⟨j,⋯,?_⟩
   unfold putAt
   split
   .exact⟨h2,h3⟩
   .exact⟨h2,h3⟩
theorem hU' {key:Nat->List Key} {ka:Nat->Addr} {xv:Nat->Value}:∀{i:Nat},(jE' key ka xv i).length<=i
 |0=>ag _
 |i+1=>by
  show(storedH (jE' key ka xv i) (key i) (ka i) (xv i)).length<=_
  have:=hU' (key:=key) (ka:=ka) (xv:=xv) (i:=i)
  cases hf:atKey (jE' key ka xv i) (key i)with
  |none=>rw[storedH_new hf,ax];exact Nat.succ_le_succ this
  |some p=>rw[storedH_old hf,ac];omega
def ya' (prog:Program) (w:World) (h:Heap) (d:Addr) (xs:List (List Key×Addr×Value)):Prop:=∃o es ep,h.get? d=some o/\o.ExactDict/\o.data=.dict es ep/\es.toList=xs.map (entryOfKey (kT prog w))/\(xs.map (·.1)).Nodup
theorem k1' {ps:Nat->Addr} {key:Nat->List Key} {ka:Nat->Addr} {xv:Nat->Value} (W:WalksS prog w A.in1 I fp wr G n (fun i v=>v=.ref (ps i)) St) (d:Addr) (hdf:d∉fp) (hu:A.in1.units<cLine)
  (hps:∀i,i<n->ps i∉d :: wr) (hka:∀i,i<n->ka i∉d :: wr) (hn:n<=sizeLine):
  ∀(k i:Nat) (s:Shared),n-i=k->i<=n->St i s->OkP prog w n ps key ka xv s.heap->ya' prog w s.heap d (jE' key ka xv i)->
   (∀s',Moved (d :: wr) G s s'->ya' prog w s'.heap d (jE' key ka xv n)->R (.ok (.ret .none)) s')->
   codeAny (model prog w) A (.builtin "dict.update.loop" ⟨[.ref d,.ref I,rawInt (i:Int),.none],[]⟩) R s:=by
 have hdw:d∉wr:=fun h=>hdf (W.sub _ h)
 have hsub:∀b∈wr,b∈d :: wr:=fun b hb=>aC _ hb
 intro k
 induction k with
 |zero=>
  intro i s hk hi hst hok hD hR
  have hin:i=n:=by omega
  subst hin
  refine codeAny_builtin F.bj' ?_
  rw[Around.under_plainId F.aR' _]
  show wpAny _ A.in1 (pyNext (.ref I) >>= _) _ _ s
  refine aa (W.done s _ _ hst fun s' hm=>?_)
  dsimp only
  unfold Builtin.Dict.addKeywords
  refine aa (ab ?_)
  refine ab (hR s' (hm.mono hsub) ?_)
  obtain⟨o,es,ep,h1,h2⟩:=hD
  exact⟨o,es,ep,hm.heap _ _ hdw h1,h2⟩
 |succ k ih=>
  intro i s hk hi hst hok hD hR
  have hlt:i<n:=by omega
  refine codeAny_builtin F.bj' ?_
  rw[Around.under_plainId F.aR' _]
  show wpAny _ A.in1 (pyNext (.ref I) >>= _) _ _ s
  refine aa (W.item i s _ _ hlt hst fun v s' hP hst' hm=>?_)
  subst hP
  dsimp only
  obtain⟨hti,hki⟩:=hok i hlt
  have hok':OkP prog w n ps key ka xv s'.heap:=hok.at fun j hj b hb o e=>hm.heap b o (fun z=>by
   rcases hb with rfl|rfl
   .exact hps j hj (hsub _ z)
   .exact hka j hj (hsub _ z)) e
  obtain⟨hti,hki⟩:=hok' i hlt
  obtain⟨ot,hot,hct,nt,hdt⟩:=hti
  have hTt:s'.TypeIs (.ref (ps i)) "tuple":=⟨ot,hot,hct⟩
  refine aa (aH ?_)
  refine aa (wpAny_tryCatch ?_)
  unfold Builtin.Dict.pairItems
  refine aa (dw hTt ?_)
  rw[if_pos (by decide)]
  refine aa (cg hot hdt ?_)
  refine ab ?_
  show wpAny _ _ (holding [.ref (ka i),xv i] (dictSet d (.ref (ka i)) (xv i))) _ _ s'
  have hD':s'.heap.DictOfH (kT prog w) d (jE' key ka xv i):=by
   obtain⟨o,es,ep,h1,h2,h3,h4,h5⟩:=hD
   refine⟨o,es,ep,hm.heap _ _ hdw h1,h2,h3,h4,fun x hx=>?_,h5⟩
   obtain⟨j,hj,e1,e2⟩:=hT' hx
   rw[e1,e2]
   exact(hok' j ⋯).2
  refine aH (wpAny_dictSet_heap (hsz:=aF hU' ⋯) hu hki hD' fun h' dd hs=>?_)
  have k':∀b o,b∉d :: wr->s'.heap.get? b=some o->h'.get? b=some o:=fun b o hb e=>(hs.2 b (fun z=>hb (by rw[z];exact aE))).trans e
  refine ab ⟨plainId_quiet F.aR' _,?_⟩
  rw[show rawInt ((i:Int)+1)=rawInt (((i+1:Nat)):Int) by rw[Int.natCast_add];rfl]
  refine ih (i+1) _ ⋯ hlt (W.frame _ s' _ _ hst' (bX _ _) fun b hb o e=>?_) (hok'.at fun j hj b hb o e=>k' b o (fun z=>?_) e) ?_ fun s'' hm'' hD''=>?_
  .exact(hs.2 b (fun h:b=d=>hdf (by rw[<- h];exact hb))).trans e
  .rcases hb with rfl|rfl
   .exact hps j hj z
   .exact hka j hj z
  .obtain⟨o,es,ep,h1,h2,h3,h4,_,h5⟩:=dd
   exact⟨o,es,ep,h1,h2,h3,h4,h5⟩
  .exact hR s'' (Moved.trans W.gtrans ((hm.mono hsub).then_heap (bX _ _) k') hm'') hD''
end
section
variable {prog:Program} {w:World} {A:Around} {E:Value->Shared->Prop} {s:Shared}
theorem eb' (a:Value) {Q₁:Value->Shared->Prop} (h:Q₁ (.ref s.heap.objs.size) { s with heap:=s.heap.push { cls:=.type "dict",data:=.dict #[] } }):
  codeAny (model prog w) A (.call (.builtin "dict.__new__") ⟨[.type "dict",a],[]⟩) (wants Q₁ E) s:=by
 refine codeAny_of_tree ?_
 show wpAny _ A.in1 (do checkBuiltinCall "dict.__new__" ⟨[.type "dict",a],[]⟩;again (.builtin "dict.__new__" ⟨[.type "dict",a],[]⟩)) _ _ s
 refine aa (cV (F.eU' a) (ab ⟨plainId_quiet F.cA' _,codeAny_builtin F.eT' ?_⟩))
 rw[Around.under_plainId F.cA' _]
 unfold Builtin.«dict.__new__»
 have hsub:=F.c0'
 have hmro:=F.iS'
 obtain⟨hp,g,d,tk,os⟩:=s
 dsimp only
 wp_walk
 exact h
theorem jF' {I:Addr} {fp wr:List Addr} {G:Array GenState->Array GenState->Prop} {n:Nat} {P P':Nat->Value->Prop} {St:Nat->Shared->Prop} (W:WalksS prog w A I fp wr G n P St) (h:∀i v,i<n->P i v->P' i v):WalksS prog w A I fp wr G n P' St where
 sub:=W.sub
 grefl:=W.grefl
 gtrans:=W.gtrans
 frame:=W.frame
 item:=fun i s Q E hi st hQ=>W.item i s Q E hi st fun v s' hP=>hQ v s' (h i v hi hP)
 done:=W.done
 self:=W.self
set_option maxRecDepth 100000 in
set_option maxHeartbeats 3200000 in
theorem eV' {l:Addr} {items:Array Value} {ps:Nat->Addr} {key:Nat->List Key} {ka:Nat->Addr} {xv:Nat->Value} {Q:Value->Shared->Prop}
  (hh:A.handled=none) (hu:A.units+64<cLine) (hl:PlainL s.heap l items) (hit:∀i,i<items.size->items[i]?=some (.ref (ps i))) (hok:OkP prog w items.size ps key ka xv s.heap) (hsz:items.size<=sizeLine)
  (h:∀(h':Heap) (tk:Nat),ya' prog w h' s.heap.objs.size (jE' key ka xv items.size)->(∀b o,s.heap.get? b=some o->h'.get? b=some o)->s.toks<=tk->Q (.ref s.heap.objs.size) { s with heap:=h',toks:=tk }):
  wpAny (model prog w) A (call (.type "dict") [.ref l]) Q E s:=by
 obtain⟨c,tl,hmro⟩:=F.aK'.mro
 have hmade:=F.aK'.made
 have hsub:=F.aK'.sub
 refine wpAny_call (codeAny_of_tree ?_)
 show wpAny _ _ (callAny (.type "dict") _) _ _ _
 refine ab ⟨Code.quiet_builtin _ ⋯,codeAny_builtin F.entry_type_call ?_⟩
 rw[Around.under_plain (weight_type_call_type "dict" [.ref l] []) rfl]
 have h1:=F.aK'.notType
 have h2:=F.aK'.canCreate
 have hct:=F.ea' (.ref l)
 repeat (any_goals (first|assumption|wp_step))
 refine codeAny_mono (eb' (.ref l) (E:=E) (Q₁:=fun obj s₁=>obj=.ref s.heap.objs.size/\s₁={ s with heap:=s.heap.push { cls:=.type "dict",data:=.dict #[] } }) ⟨rfl,rfl⟩) fun r s₁ hr=>?_
 cases r with
 |error e=>exact hr
 |ok fl=>
  cases fl with
  |ret obj=>
   obtain⟨rfl,rfl⟩:=hr
   have hS:(s.heap.push { cls:=.type "dict",data:=.dict #[] }).get? s.heap.objs.size=some { cls:=.type "dict",data:=.dict #[] }:=al _ rfl
   have hT:Shared.TypeIs { s with heap:=s.heap.push { cls:=.type "dict",data:=.dict #[] } } (.ref s.heap.objs.size) "dict":=⟨_,hS,rfl⟩
   have hli:=F.aK'.init.lookup
   have hbi:=F.aK'.init.bind (.ref s.heap.objs.size)
   repeat (any_goals (first|assumption|wp_step))
   refine codeAny_mono (codeAny_call_builtin (R:=wants (fun r s₂=>r=.none/\∃h' tk,s₂={ s with heap:=h',toks:=tk }/\ya' prog w h' s.heap.objs.size (jE' key ka xv items.size)/\(∀b o,s.heap.get? b=some o->h'.get? b=some o)/\s.toks<=tk) E) F.aK'.init.plain F.entry_dict_init (F.aK'.init.check _ _ _ _ _ _ _ _ hT (F.args_dict_init_2 _ _) ?_)) fun r₂ s₂ hr₂=>?_
   .obtain⟨⟨ocls,odict,odata,oslots⟩,nl,hol,hcl,hdl,hdd⟩:=hl
    simp only at hcl hdl hdd
    subst hcl;subst hdl;subst hdd
    have hol':(s.heap.push { cls:=.type "dict",data:=.dict #[] }).get? l=some { cls:=.type "list",dict:=none,data:=.seq items nl,slots:=oslots }:=af _ hol
    have hTl:Shared.TypeIs { s with heap:=s.heap.push { cls:=.type "dict",data:=.dict #[] } } (.ref l) "list":=⟨_,hol',rfl⟩
    unfold Builtin.«dict.__init__» Builtin.Dict.selfAndRest Builtin.Dict.notOrdered Builtin.Dict.updateCommon Builtin.Dict.updateFrom
    generalize hGA:getAttr?=GA
    generalize hPI:pyIter=PI
    repeat (any_goals (first|assumption|wp_step))
    subst hGA
    have hh2:A.in1.in1.handled=none:=by simp[hh]
    refine eS' hol' hh2 fun h2 tk2 k2 z2 t2=>?_
    have hlS:l<s.heap.objs.size:=au hol
    rw[bg]at z2
    simp only[Option.isNone_none,if_true]
    refine aa (bR ?_)
    subst hPI
    have hl2:h2.IsList l items:=⟨_,k2 _ _ hol',rfl,nl,rfl⟩
    refine aa (wpAny_pyIter_list (s:=⟨h2,s.gens,s.drawn,tk2,s.os⟩) hl2 ?_)
    refine ab ⟨Code.quiet_builtin _ ⋯,?_⟩
    have hneI:l≠h2.objs.size:=aA (am hlS ⋯)
    have hDI:s.heap.objs.size≠h2.objs.size:=by omega
    have hDf:s.heap.objs.size∉[h2.objs.size,l]:=by
     simp only[ay,aV,aB,or_false,not_or]
     exact⟨hDI,bC hlS⟩
    have hok2:OkP prog w items.size ps key ka xv (h2.push { cls:=.type "list_iterator",data:=.fields #[.ref l,.int 0 0] }):=hok.at fun i hi b hb o e=>af _ (k2 _ _ (af _ e))
    have old:∀{b:Addr} {o:Obj},s.heap.get? b=some o->b∉[s.heap.objs.size,h2.objs.size]:=fun {b o} e=>by
     have:=au e
     simp only[ay,aV,aB,or_false,not_or]
     exact⟨aA this,aA (am this ⋯)⟩
    have hh3:A.in1.in1.handled=none:=hh2
    refine k1' (G:=fun a b=>b=a) (fp:=[h2.objs.size,l]) (wr:=[h2.objs.size]) (n:=items.size) (ps:=ps) (key:=key) (ka:=ka) (xv:=xv) (St:=fun i s=>(Heap.IsListIter s.heap h2.objs.size l i)/\s.heap.IsList l items) ?W s.heap.objs.size hDf ?hu (fun i hi=>old (hok i hi).1.choose_spec.1) (fun i hi=>old (hok i hi).2.choose_spec.choose_spec.choose_spec.1) hsz (items.size-0) 0 _ ⋯ (aT _) ?hSt hok2 ?hD0 ?hR
    case W=>exact jF' ((Walks.list hh3 _ l hneI items).toS) fun i v hi hv=>(Option.some.inj ((hit i hi).symm.trans hv)).symm
    case hu=>simp[units_in1];omega
    case hSt=>exact⟨⟨_,al _ rfl,rfl,rfl⟩,hl2.push _⟩
    case hD0=>exact⟨_,#[],0,af _ (k2 _ _ hS),⟨rfl,rfl,rfl⟩,rfl,rfl,cL⟩
    case hR=>
     intro s' hm hD'
     obtain⟨h',g',d',tk',os'⟩:=s'
     have eg:g'=s.gens:=hm.gens
     have ed:d'=s.drawn:=hm.drawn
     have eo:os'=s.os:=hm.os
     subst eg;subst ed;subst eo
     have htk:tk2<=tk':=hm.toks
     have ht2:s.toks<=tk2:=t2
     exact⟨rfl,h',tk',rfl,hD',fun b o e=>hm.heap b o (old e) (af _ (k2 _ _ (af _ e))),⋯⟩
   .cases r₂ with
    |error e=>exact hr₂
    |ok fl₂=>
     cases fl₂ with
     |ret r=>
      obtain⟨rfl,h',tk,rfl,hS',hk',htk⟩:=hr₂
      repeat (any_goals (first|assumption|wp_step))
      exact h _ _ hS' hk' htk
     |_=>exact hr₂.elim
  |_=>exact hr.elim
end
section
variable {X:Cx}
abbrev PL:=List (Addr×List Key×Addr×V)
def k2' (L:PL):List (List Key×V):=L.foldl (fun kvs x=>eM' kvs x.2.1 x.2.2.2) []
theorem gy' {L:PL} {x:Addr×List Key×Addr×V}:k2' (L++[x])=eM' (k2' L) x.2.1 x.2.2.2:=by unfold k2';rw[List.foldl_append];rfl
def yV' (K:W.Frag):List V->Hp->VK->Prop:=fun xs H Q=>∃(p:Addr) (L:PL),xs=[.ref p]/\SqL K H p (L.map fun x=>V.ref x.1)/\(∀x∈L,H x.1=some (.tup [.ref x.2.2.1,x.2.2.2])/\H x.2.2.1=some (.tup (x.2.1.map kV)))/\∀d,H d=none->Q (.ref d) (upd H d (.dT (k2' L)))
def u0':List V->Hp->VK->Prop:=fun xs H Q=>∃(p:Addr) (L:PL),xs=[.ref p]/\H p=some (.lst (L.map fun x=>V.ref x.1))/\(∀x∈L,H x.1=some (.tup [.ref x.2.2.1,x.2.2.2])/\H x.2.2.1=some (.tup (x.2.1.map kV)))/\∀d,H d=none->Q (.ref d) (upd H d (.dT (k2' L)))
theorem nS' (hc:X.calm=true) (hu:X.A.units+64<cLine):aP' X (.type "dict") (yV' X.K):=by
 intro p_ s σ H xs us Q I rv h
 obtain⟨p,L,rfl,hs,hL,q⟩:=h
 cases rv with
 |cons r1 rv=>
  cases rv
  cases r1
  obtain⟨its,r,pl,hz⟩:=I.list hs
  have hlen:=r.length
  rw[ac]at hlen hz
  have hn:H s.heap.objs.size=none:=I.hok.fresh (ag _)
  have hv:∀i,i<L.length->∃u:Value,ax' ((L[i]?.getD (0,[],0,.non)).2.2.2) u/\IsTup s.heap (L[i]?.getD (0,[],0,.non)).1 #[.ref (L[i]?.getD (0,[],0,.non)).2.2.1,u]:=fun i hi=>by
   have hx:L[i]?.getD (0,[],0,.non)=L[i]:=by rw[ae hi];rfl
   rw[hx]
   obtain⟨_,its2,r2,t2⟩:=(show aA' X.prog X.w H s.heap _ (.tup [.ref L[i].2.2.1,L[i].2.2.2]) from I.hok _ _ (hL _ (cH hi)).1)
   cases r2 with
   |cons a1 r2=>
    cases r2 with
    |cons a2 r2=>
     cases r2
     cases a1
     exact⟨_,a2,t2.tup⟩
  let xv:Nat->Value:=fun i=>if h:i<L.length then(hv i h).choose else .none
  have hxv:∀i (h:i<L.length),xv i=(hv i h).choose:=fun i h=>by show(if h:i<L.length then _ else _)=_;rw[dif_pos h]
  have hsz:its.toArray.size=L.length:=by rw[ap,<- hlen]
  refine eV' (ps:=fun i=>(L[i]?.getD (0,[],0,.non)).1) (key:=fun i=>(L[i]?.getD (0,[],0,.non)).2.1) (ka:=fun i=>(L[i]?.getD (0,[],0,.non)).2.2.1) (xv:=xv) (I.ok.hd hc) hu pl (fun i hi=>?_) (fun i hi=>?_) (by rw[hsz];exact hz) fun h' tk hD hk htk=>?_
  .rw[hsz]at hi
   have hx:L[i]?.getD (0,[],0,.non)=L[i]:=by rw[ae hi];rfl
   obtain⟨u,hu1,ru⟩:=r.get (i:=i) (x:=.ref L[i].1) (by rw[ao,ae hi];rfl)
   cases ru
   rw[hx]
   simpa using hu1
  .rw[hsz]at hi
   have hx:L[i]?.getD (0,[],0,.non)=L[i]:=by rw[ae hi];rfl
   refine⟨by rw[hxv i hi];exact(hv i hi).choose_spec.2,?_⟩
   show(kT X.prog X.w).is s.heap (L[i]?.getD (0,[],0,.non)).2.1 (L[i]?.getD (0,[],0,.non)).2.2.1
   rw[hx]
   exact cd' I.hok (hL _ (cH hi)).2
  .rw[hsz]at hD
   have hpair:∀i,i<=L.length->KT H (k2' (L.take i)) (jE' (fun i=>(L[i]?.getD (0,[],0,.non)).2.1) (fun i=>(L[i]?.getD (0,[],0,.non)).2.2.1) xv i):=by
    intro i
    induction i with
    |zero=>intro _;exact .nil
    |succ i ih=>
     intro hi
     have hx:L[i]?.getD (0,[],0,.non)=L[i]:=by rw[ae ⋯];rfl
     rw[bj,ae (show i<L.length by omega),Option.toList_some,gy']
     show KT H _ (storedH _ (L[i]?.getD (0,[],0,.non)).2.1 (L[i]?.getD (0,[],0,.non)).2.2.1 _)
     have rr:=(hv i ⋯).choose_spec.1
     rw[<- hxv i ⋯,hx]at rr
     rw[hx]
     exact KT.put (ih ⋯) _ (hL _ (cH ⋯)).2 rr
   have hp:=hpair L.length (ag _)
   rw[bn]at hp
   have hlp:(k2' L).length<=L.length:=by
    have:=Paired.length hp
    rw[this]
    exact hU'
   obtain⟨o,es,ep,d1,d2,d3,d4,d5⟩:=hD
   refine⟨.ref s.heap.objs.size,_,I.laid (a:=s.heap.objs.size) (o:=.dT (k2' L)) (h':=h') (t':=tk) hk (ag _) ?_,rfl,q _ hn⟩
   have sy:(s.heap.objs.size == sysModules)=false:=by
    have:=I.big
    rw[beq_eq_false_iff_ne]
    exact bC this
   refine⟨aF hlp hz,sy,_,?_,o,es,ep,d1,d2,d3,d4,d5⟩
   exact KT.keeps hp fun b ys e=>by rw[ae' (au' e hn)];exact e
theorem k3' (hc:X.calm=true) (hu:X.A.units+64<cLine):aP' X (.type "dict") u0':=fun p_ s σ H xs us Q I rv ⟨p,L,e,hp,h⟩=>nS' hc hu p_ s σ H xs us Q I rv ⟨p,L,e,.inl (.inl hp),h⟩
end
theorem ltG {α:Type} {l:List α} {i:Nat} {x:α} (h:l[i]?=some x):i<l.length:=(aN.mp h).1
section
variable {prog:Program} {w:World} {K:Type} [DecidableEq K] {knd:HeapKind prog w K} {A:Around} {E:Value->Shared->Prop} {s:Shared}
def pN' (knd:HeapKind prog w K):Option (K×Addr)->DictEntry
 |none=>⟨NH,.none,.bool true⟩
 |some (k,a)=>⟨knd.hash k,.ref a,.bool true⟩
structure MixO (knd:HeapKind prog w K) (h:Heap) (es:Array DictEntry) (ys:List (Option (K×Addr))):Prop where
 its:es.toList=ys.map (pN' knd)
 is:∀k b,some (k,b)∈ys->knd.is h k b
 ne:∀k b,some (k,b)∈ys->knd.hash k≠NH
 nd:(ys.map (aW Prod.fst)).Nodup
theorem MixO.get {h:Heap} {es:Array DictEntry} {ys:List (Option (K×Addr))} (m:MixO knd h es ys) (j:Nat):es[j]?=ys[j]?.map (pN' knd):=by
 rw[<- cc,m.its,ao]
theorem MixO.one {h:Heap} {es:Array DictEntry} {ys:List (Option (K×Addr))} (m:MixO knd h es ys) {i j:Nat} {x y:Option (K×Addr)} (hi:ys[i]?=some x) (hj:ys[j]?=some y) (e:x.map Prod.fst=y.map Prod.fst):i=j:=by
 have li:=ltG hi
 have lj:=ltG hj
 rw[ae li]at hi
 rw[ae lj]at hj
 cases hi
 cases hj
 have key:∀a b:Nat,∀(ha:a<ys.length) (hb:b<ys.length),a<b->ys[a].map Prod.fst≠ys[b].map Prod.fst:=fun a b ha hb hab=>by
  have:=bm.mp m.nd a b (by rw[ac];exact ha) (by rw[ac];exact hb) hab
  rw[List.getElem_map,List.getElem_map]at this
  exact this
 rcases Nat.lt_trichotomy i j with z|z|z
 .exact absurd e (key i j li lj z)
 .exact z
 .exact absurd e.symm (key j i lj li z)
theorem iT' {d a:Addr} {o:Obj} {es:Array DictEntry} {ep:Nat} {ys:List (Option (K×Addr))} {k:K} {Q:Option Nat->Shared->Prop} (hu:knd.room A) (hkey:knd.is s.heap k a) (hne:knd.hash k≠NH)
  (ho:s.heap.get? d=some o) (hd:o.data=.dict es ep) (m:MixO knd s.heap es ys) (hnone:(∀(j:Nat) b,ys[j]?≠some (some (k,b)))->Q none s) (hsome:∀(j:Nat) b,ys[j]?=some (some (k,b))->Q (some j) s):
  wpAny (model prog w) A (dictFind d (.ref a) (knd.hash k)) Q E s:=by
 have at_:∀i:Nat,(es[i]?.map (·.hash))=some (knd.hash k)->∃k' b,ys[i]?=some (some (k',b)):=fun i hi=>by
  rw[m.get i]at hi
  cases e:ys[i]? with
  |none=>rw[e]at hi;cases hi
  |some x=>
   cases x with
   |none=>rw[e]at hi;exact absurd (Option.some.inj hi).symm hne
   |some q=>exact⟨q.1,q.2,rfl⟩
 have mem_:∀i:Nat,i∈placesWithHash es.size (fun i=>es[i]?.map (·.hash)) (knd.hash k)->(es[i]?.map (·.hash))=some (knd.hash k):=fun i hi=>by
  have:=(aY.mp hi).2
  simpa using this
 have in_:∀(j:Nat) b,ys[j]?=some (some (k,b))->j∈placesWithHash es.size (fun i=>es[i]?.map (·.hash)) (knd.hash k):=fun j b hj=>by
  refine aY.mpr ⟨aK.mpr ?_,?_⟩
  .have:=ltG hj
   have e:es.size=ys.length:=by rw[<- ai,m.its,ac]
   omega
  .show(es[j]?.map (·.hash) == some (knd.hash k))=true
   rw[m.get j,hj]
   simp[pN']
 have hany:¬(es.any fun e=>e.key == Value.ref a&&e.hash != knd.hash k)=true:=by
  rw[<- Array.any_toList,bL]
  rintro⟨e,hin,hc⟩
  rw[m.its]at hin
  obtain⟨x,hx,rfl⟩:=az.mp hin
  cases x with
  |none=>
   have h1:=(Bool.and_eq_true_iff.mp hc).1
   exact absurd (eq_of_beq h1) (fun z=>nomatch z)
  |some q=>
   have h1:=eq_of_beq (Bool.and_eq_true_iff.mp hc).1
   have h2:=(Bool.and_eq_true_iff.mp hc).2
   have ea:q.2=a:=Value.ref.inj h1
   have hi:=m.is q.1 q.2 hx
   rw[ea]at hi
   have hk:=knd.inj hi hkey
   have:(knd.hash q.1 != knd.hash k)=true:=h2
   rw[hk]at this
   simp at this
 have hst:∀v∈(placesWithHash es.size (fun i=>es[i]?.map (·.hash)) (knd.hash k)).filterMap (fun i=>es[i]?.map (·.key)),∃k' b,v=.ref b/\knd.is s.heap k' b:=by
  intro v hv
  obtain⟨i,hi,hv⟩:=cK.mp hv
  obtain⟨k',b,hq⟩:=at_ i (mem_ i hi)
  rw[m.get i,hq]at hv
  exact⟨k',b,(Option.some.inj hv).symm,m.is k' b (aq hq)⟩
 unfold dictFind
 try with_reducible refine aH ?_
 refine aa (bM ho hd ?_)
 dsimp only
 rw[if_neg (show ¬((Value.ref a :: (placesWithHash es.size (fun i=>es[i]?.map (·.hash)) (knd.hash k)).filterMap (fun i=>es[i]?.map (·.key))).all carriedByValue)=true by simp[carriedByValue])]
 rw[if_neg hany]
 by_cases hone:(((placesWithHash es.size (fun i=>es[i]?.map (·.hash)) (knd.hash k)).filterMap (fun i=>es[i]?.map (·.key))) == [Value.ref a])=true<;>
 (first|rw[if_pos hone]|rw[if_neg hone])<;>(first|refine aa (ab ?_)|refine aa (wpAny_tableMayTell_quiet hkey hst ?_))<;>(
  rw[if_neg (by simp)]
  refine aa ?_
  refine wpAny_forIn_list _ (fun as' b s'=>s'=s/\∃hit,b=(none,hit)/\as'.Nodup/\(∀i∈as',(es[i]?.map (·.hash))=some (knd.hash k))/\(∀j b,ys[j]?=some (some (k,b))->j∈as'\/hit=some j)/\∀j,hit=some j->j∉as'/\∃b,ys[j]?=some (some (k,b))) _ ?_ ?_ _ _
   ⟨rfl,none,rfl,List.Pairwise.filter _ List.nodup_range,mem_,fun j b hj=>.inl (in_ j b hj),fun j z=>nomatch z⟩
  .rintro x as' b s' ⟨rfl,hit,rfl,hnd,hr,hall,hh⟩
   obtain⟨hxr,hnd⟩:=bx.mp hnd
   obtain⟨k',b,hq⟩:=at_ x (hr x aE)
   have hib:=m.is k' b (aq hq)
   have hex:es[x]?=some ⟨knd.hash k',.ref b,.bool true⟩:=by rw[m.get x,hq];rfl
   have hhk:(knd.hash k' == knd.hash k)=true:=by
    have:=hr x aE
    rw[hex]at this
    simpa using this
   have hr':=fun i hi=>hr i (aC _ hi)
   rw[hex]
   dsimp only
   rw[if_pos hhk]
   refine aa (cA ho hd (aa (knd.eqBool (x:=k') (y:=k) hu hib hkey (aa (cA ho hd ?_)))))
   show wpAny _ _ (if(ep != ep)=true then _ else _) _ E _
   rw[if_neg (by simp)]
   by_cases hkk:k'=k
   .rw[decide_eq_true hkk]
    subst hkk
    have h0:hit=none:=by
     cases hit with
     |none=>rfl
     |some j=>
      obtain⟨z,b',hj⟩:=hh j rfl
      have:=m.one hj hq rfl
      subst this
      exact absurd aE z
    subst h0
    first|rw[if_pos rfl]|skip
    simp only[Option.isSome_none,aZ,if_false]
    first|refine aa (ab ?_)|skip
    refine aa (bR ?_)
    split
    .exact ab (ab (hsome x b hq))
    .refine ab ⟨rfl,some x,rfl,hnd,hr',fun j b' hj=>.inr (by rw[m.one hj hq rfl]),fun j hj=>?_⟩
     cases hj
     exact⟨hxr,b,hq⟩
   .rw[decide_eq_false hkk]
    simp only[aZ,if_false]
    refine aa (bR ?_)
    have stay:∀j b',ys[j]?=some (some (k,b'))->j∈as'\/hit=some j:=fun j b' hj=>by
     rcases hall j b' hj with z|z
     .rcases ay.mp z with z|z
      .subst z
       rw[hq]at hj
       cases hj
       exact absurd rfl hkk
      .exact .inl z
     .exact .inr z
    have stay2:∀j,hit=some j->j∉as'/\∃b,ys[j]?=some (some (k,b)):=fun j hj=>⟨fun z=>(hh j hj).1 (aC _ z),(hh j hj).2⟩
    first|rw[if_neg (by simp)]|skip
    first
     |exact ab ⟨rfl,hit,rfl,hnd,hr',stay,stay2⟩
     |exact aa (ab (ab ⟨rfl,hit,rfl,hnd,hr',stay,stay2⟩))
  .rintro b s' ⟨rfl,hit,rfl,_,_,hall,hh⟩
   cases hit with
   |none=>
    refine ab (hnone fun j b hj=>?_)
    rcases hall j b hj with z|z
    .exact aB z
    .cases z
   |some j=>
    obtain⟨_,b,hj⟩:=hh j rfl
    exact ab (hsome j b hj))
theorem hV' {Q:Bool->Shared->Prop} (h:Q true s):wpAny (model prog w) A (eqBool .none .none) Q E s:=by
 unfold eqBool
 refine aH ?_
 show wpAny _ _ (if(Value.none == Value.none)=true then _ else _) Q E s
 rw[if_pos (beq_self_eq_true _)]
 exact aa (bR (ab h))
theorem k4' {d:Addr} {o:Obj} {es:Array DictEntry} {ep:Nat} {ys:List (Option (K×Addr))} {Q:Option Nat->Shared->Prop}
  (ho:s.heap.get? d=some o) (hd:o.data=.dict es ep) (m:MixO knd s.heap es ys) (hnone:none∉ys->Q none s) (hsome:∀j:Nat,ys[j]?=some none->Q (some j) s):
  wpAny (model prog w) A (dictFind d .none NH) Q E s:=by
 have at_:∀i:Nat,(es[i]?.map (·.hash))=some NH->ys[i]?=some none:=fun i hi=>by
  rw[m.get i]at hi
  cases e:ys[i]? with
  |none=>rw[e]at hi;cases hi
  |some x=>
   cases x with
   |none=>rfl
   |some q=>rw[e]at hi;exact absurd (Option.some.inj hi) (m.ne q.1 q.2 (aq e))
 have mem_:∀i:Nat,i∈placesWithHash es.size (fun i=>es[i]?.map (·.hash)) NH->(es[i]?.map (·.hash))=some NH:=fun i hi=>by
  have:=(aY.mp hi).2
  simpa using this
 have in_:∀j:Nat,ys[j]?=some none->j∈placesWithHash es.size (fun i=>es[i]?.map (·.hash)) NH:=fun j hj=>by
  refine aY.mpr ⟨aK.mpr ?_,?_⟩
  .have:=ltG hj
   have e:es.size=ys.length:=by rw[<- ai,m.its,ac]
   omega
  .show(es[j]?.map (·.hash) == some NH)=true
   rw[m.get j,hj]
   simp[pN']
 have hst:((Value.none :: (placesWithHash es.size (fun i=>es[i]?.map (·.hash)) NH).filterMap (fun i=>es[i]?.map (·.key))).all carriedByValue)=true:=by
  rw[cG]
  intro v hv
  rcases ay.mp hv with rfl|hv
  .rfl
  .obtain⟨i,hi,hv⟩:=cK.mp hv
   rw[m.get i,at_ i (mem_ i hi)]at hv
   cases hv
   rfl
 unfold dictFind
 try with_reducible refine aH ?_
 refine aa (bM ho hd ?_)
 dsimp only
 rw[if_pos hst]
 unfold dictWalkPlain
 cases hp:placesWithHash es.size (fun i=>es[i]?.map (·.hash)) NH with
 |nil=>
  simp only[dq,pure_bind,bind_pure]
  refine ab (hnone fun z=>?_)
  obtain⟨j,hj⟩:=cN z
  have:=in_ j hj
  rw[hp]at this
  exact aB this
 |cons i as'=>
  have hi:i∈placesWithHash es.size (fun i=>es[i]?.map (·.hash)) NH:=by rw[hp];exact aE
  have hq:=at_ i (mem_ i hi)
  have hex:es[i]?=some ⟨NH,.none,.bool true⟩:=by rw[m.get i,hq];rfl
  refine aa ?_
  refine wpAny_forIn_list _ (fun as' b s'=>s'=s/\((b=(none,())/\∃r',as'=i :: r'))\/False) _ ?_ ?_ _ _ (.inl ⟨rfl,rfl,as',rfl⟩)
  .rintro x as' b s' (⟨rfl,rfl,r',e⟩|z)
   .cases e
    rw[hex]
    dsimp only
    rw[if_pos (by simp)]
    refine aa (cA ho hd (aa (hV' (aa (cA ho hd ?_)))))
    show wpAny _ _ (if(ep != ep)=true then _ else _) _ E _
    rw[if_neg (by simp)]
    rw[if_pos rfl]
    exact aa (bR (ab (ab (hsome i hq))))
   .exact z.elim
  .rintro b s' (⟨rfl,rfl,r',e⟩|z)
   .cases e
   .exact z.elim
def u1' (ys:List (Option (K×Addr))) (q:Option (K×Addr)):List (Option (K×Addr)):=if q.map Prod.fst∈ys.map (aW Prod.fst)then ys else ys++[q]
theorem hW' {ys:List (Option (K×Addr))} {q:Option (K×Addr)} (h:q.map Prod.fst∈ys.map (aW Prod.fst)):u1' ys q=ys:=if_pos h
theorem fC' {ys:List (Option (K×Addr))} {q:Option (K×Addr)} (h:¬q.map Prod.fst∈ys.map (aW Prod.fst)):u1' ys q=ys++[q]:=if_neg h
theorem ec' {es:Array DictEntry} {l:List DictEntry} {j:Nat} (he:es.toList=l) (hj:∀e,l[j]?=some e->e.val=.bool true):(es.modify j fun e=>{ e with val:=.bool true }).toList=l:=by
 rw[Array.toList_modify,he]
 refine bA fun i=>?_
 rw[List.getElem?_modify]
 cases e:l[i]? with
 |none=>rfl
 |some x=>
  show some (if j=i then { x with val:=Value.bool true } else x)=some x
  by_cases h:j=i
  .subst h
   have:=hj x e
   rw[if_pos rfl,<- this]
  .rw[if_neg h]
theorem MixO.val {h:Heap} {es:Array DictEntry} {ys:List (Option (K×Addr))} (m:MixO knd h es ys) {j:Nat} {e:DictEntry} (he:(ys.map (pN' knd))[j]?=some e):e.val=.bool true:=by
 rw[ao]at he
 cases x:ys[j]? with
 |none=>rw[x]at he;cases he
 |some q=>
  rw[x]at he
  cases q<;>cases he<;>rfl
theorem rk' {d a:Addr} {o:Obj} {es:Array DictEntry} {ep:Nat} {ys:List (Option (K×Addr))} {k:K} {Q:Unit->Shared->Prop} (hu:knd.room A) (hkey:knd.is s.heap k a) (hne:knd.hash k≠NH)
  (ho:s.heap.get? d=some o) (hc:o.ExactDict) (hd:o.data=.dict es ep) (m:MixO knd s.heap es ys) (hz:ys.length<=sizeLine)
  (hQ:∀h' o' es' ep',h'.get? d=some o'->o'.ExactDict->o'.data=.dict es' ep'->es'.toList=(u1' ys (some (k,a))).map (pN' knd)->bG d s.heap h'->Q () { s with heap:=h',toks:=s.toks+knd.draws k }):
  wpAny (model prog w) A (dictSet d (.ref a) (.bool true)) Q E s:=by
 have hsz:es.size<=sizeLine:=by rw[<- ai,m.its,ac];exact hz
 unfold dictSet
 try with_reducible refine aH ?_
 refine aa (knd.pyHash hu hkey ?_)
 unfold dictSetHashed
 try with_reducible refine aH ?_
 refine aa (iT' (s:={ s with toks:=s.toks+knd.draws k }) hu hkey hne ho hd m (fun hno=>?_) fun j b hj=>?_)
 .refine aa (bR (wpAny_updateDictKeys (hz:=hsz) (s:={ s with toks:=s.toks+knd.draws k }) ho hd (hQ _ _ _ (ep+1) (aP _ ho (Obj.isFreed_of_dict (Obj.data_mapDictKeys hd _))) (hc.mapDictKeys _) (Obj.data_mapDictKeys hd _) ?_ (Heap.SameBut.update ..))))
  have hk:¬(some (k,a):Option (K×Addr)).map Prod.fst∈ys.map (aW Prod.fst):=fun z=>by
   obtain⟨q,hq,e⟩:=az.mp z
   cases q with
   |none=>cases e
   |some q=>
    obtain⟨j,hj⟩:=cN hq
    have e:q.1=k:=Option.some.inj e
    exact hno j q.2 (by rw[hj,<- e])
  rw[fC' hk,ck,m.its,aM]
  rfl
 .refine aa (bR (aa (wpAny_updateDict (s:={ s with toks:=s.toks+knd.draws k }) ho hd (wpAny_point (hQ _ _ _ ep (aP _ ho (Obj.isFreed_of_dict (Obj.data_mapDict hd _))) (hc.mapDict _) (Obj.data_mapDict hd _) ?_ (Heap.SameBut.update ..))))))
  rw[hW' (q:=some (k,a)) (az.mpr ⟨some (k,b),aq hj,rfl⟩)]
  exact ec' m.its fun e he=>m.val he
theorem nT' {d:Addr} {o:Obj} {es:Array DictEntry} {ep:Nat} {ys:List (Option (K×Addr))} {Q:Unit->Shared->Prop}
  (ho:s.heap.get? d=some o) (hc:o.ExactDict) (hd:o.data=.dict es ep) (m:MixO knd s.heap es ys) (hz:ys.length<=sizeLine)
  (hQ:∀h' o' es' ep',h'.get? d=some o'->o'.ExactDict->o'.data=.dict es' ep'->es'.toList=(u1' ys none).map (pN' knd)->bG d s.heap h'->Q () { s with heap:=h',toks:=s.toks+1 }):
  wpAny (model prog w) A (dictSet d .none (.bool true)) Q E s:=by
 have hsz:es.size<=sizeLine:=by rw[<- ai,m.its,ac];exact hz
 unfold dictSet
 try with_reducible refine aH ?_
 refine aa (cc' ?_)
 unfold dictSetHashed
 try with_reducible refine aH ?_
 refine aa (k4' (s:={ s with toks:=s.toks+1 }) ho hd m (fun hno=>?_) fun j hj=>?_)
 .refine aa (bR (wpAny_updateDictKeys (hz:=hsz) (s:={ s with toks:=s.toks+1 }) ho hd (hQ _ _ _ (ep+1) (aP _ ho (Obj.isFreed_of_dict (Obj.data_mapDictKeys hd _))) (hc.mapDictKeys _) (Obj.data_mapDictKeys hd _) ?_ (Heap.SameBut.update ..))))
  have hk:¬(none:Option (K×Addr)).map Prod.fst∈ys.map (aW Prod.fst):=fun z=>by
   obtain⟨q,hq,e⟩:=az.mp z
   cases q with
   |none=>exact hno hq
   |some q=>cases e
  rw[fC' hk,ck,m.its,aM]
  rfl
 .refine aa (bR (aa (wpAny_updateDict (s:={ s with toks:=s.toks+1 }) ho hd (wpAny_point (hQ _ _ _ ep (aP _ ho (Obj.isFreed_of_dict (Obj.data_mapDict hd _))) (hc.mapDict _) (Obj.data_mapDict hd _) ?_ (Heap.SameBut.update ..))))))
  rw[hW' (az.mpr ⟨none,aq hj,rfl⟩)]
  exact ec' m.its fun e he=>m.val he
theorem rl' {d a:Addr} {o:Obj} {es:Array DictEntry} {ep:Nat} {ys:List (Option (K×Addr))} {k:K} {Q:Option Value->Shared->Prop} (hu:knd.room A) (hkey:knd.is s.heap k a) (hne:knd.hash k≠NH)
  (ho:s.heap.get? d=some o) (hd:o.data=.dict es ep) (m:MixO knd s.heap es ys)
  (h:Q (if some k∈ys.map (aW Prod.fst)then some (.bool true)else none) { s with toks:=s.toks+knd.draws k }):wpAny (model prog w) A (dictGet d (.ref a)) Q E s:=by
 unfold dictGet
 try with_reducible refine aH ?_
 refine aa (knd.pyHash hu hkey (aa (iT' (s:={ s with toks:=s.toks+knd.draws k }) hu hkey hne ho hd m (fun hno=>?_) fun j b hj=>?_)))
 .rw[if_neg]at h
  .exact ab h
  .intro z
   obtain⟨q,hq,e⟩:=az.mp z
   cases q with
   |none=>cases e
   |some q=>
    obtain⟨j,hj⟩:=cN hq
    have e:q.1=k:=Option.some.inj e
    exact hno j q.2 (by rw[hj,<- e])
 .rw[if_pos (show some k∈ys.map (aW Prod.fst) from az.mpr ⟨some (k,b),aq hj,rfl⟩)]at h
  refine aa (bM (s:={ s with toks:=s.toks+knd.draws k }) ho hd ?_)
  rw[m.get j,hj]
  exact ab h
end
abbrev NK:=Option (List Int×Addr)
def lkN:NK->Option (List Key×Addr):=aW fun q=>(q.1.map Key.inl,q.2)
def hT (k:List Int):Int:=reduceHash (Builtin.Tuple.tupleHashOf (k.map hashInt))
def yb':NK->DictEntry
 |none=>⟨NH,.none,.bool true⟩
 |some q=>⟨hT q.1,.ref q.2,.bool true⟩
def IsN (L:List NK) (o:Obj):Prop:=L.length<=4000/\(∀q,some q∈L->hT q.1≠NH)/\(L.map (aW Prod.fst)).Nodup/\∃es ep,o.ExactDict/\o.data=.dict es ep/\es.toList=L.map yb'
def cy' (D:Addr) (L:List NK):HO:=.ext fun h=>(D == sysModules)=false/\∃o,h.get? D=some o/\IsN L o
def f8' (H:Hp) (L:List NK):Prop:=∀q,some q∈L->H q.2=some (.tup (q.1.map V.int))
theorem hX' {P:Program} {w:World} {H:Hp} {h:Heap} {D:Addr} {L:List NK} {o:Obj} (hs:(D == sysModules)=false) (e:h.get? D=some o) (i:IsN L o):aA' P w H h D (cy' D L):=
 ⟨⟨hs,o,e,i⟩,⟨o,e⟩,fun h1 h2 ⟨hs,o',e',i'⟩ k=>⟨hs,o',k o' e',i'⟩⟩
theorem ed' {k:List Int}:(k.map Key.inl).map kV=k.map V.int:=by rw[aX];rfl
theorem k5' {P:Program} {w:World} {k:List Int}:(tupleKind (ai' P w)).hash (k.map Key.inl)=hT k:=by
 show reduceHash (Builtin.Tuple.tupleHashOf ((k.map Key.inl).map (ai' P w).hash))=_
 rw[aX]
 rfl
theorem fD' {P:Program} {w:World} {L:List NK}:(L.map lkN).map (pN' (tupleKind (ai' P w)))=L.map yb':=by
 rw[aX]
 refine cm fun q _=>?_
 cases q with
 |none=>rfl
 |some q=>
  show DictEntry.mk ((tupleKind (ai' P w)).hash (q.1.map Key.inl)) _ _=DictEntry.mk (hT q.1) _ _
  rw[k5']
theorem hY' {q:NK}:(lkN q).map Prod.fst=(q.map Prod.fst).map fun k=>k.map Key.inl:=by cases q<;>rfl
theorem k7' {L:List NK}:(L.map lkN).map (aW Prod.fst)=(L.map (aW Prod.fst)).map (aW fun k=>k.map Key.inl):=by
 rw[aX,aX]
 exact cm fun q _=>hY'
set_option tactic.hygienic true in
theorem iU' {o p:Option (List Int)} (h:o.map (fun k=>k.map Key.inl)=p.map (fun k=>k.map (Key.inl:Int->Key))):o=p:=by
 cases o<;>cases p
 .rfl
 .cases h
 .cases h
 .rename_i a b
  have h:a.map (Key.inl:Int->Key)=b.map Key.inl:=Option.some.inj h
  congr 1
  exact List.map_inj_right (fun x y z=>by injection z) |>.mp h
theorem dL' {L:List NK} {o:Option (List Int)}:o.map (fun k=>k.map (Key.inl:Int->Key))∈(L.map lkN).map (aW Prod.fst)↔o∈L.map (aW Prod.fst):=by
 rw[k7',az]
 exact⟨fun⟨p,hp,e⟩=>iU' e ▸ hp,fun h=>⟨o,h,rfl⟩⟩
def eI' (L:List NK) (q:NK):List NK:=if q.map Prod.fst∈L.map (aW Prod.fst)then L else L++[q]
theorem k8' {L:List NK} {q:NK}:u1' (L.map lkN) (lkN q)=(eI' L q).map lkN:=by
 by_cases h:q.map Prod.fst∈L.map (aW Prod.fst)
 .rw[hW' (by rw[hY'];exact dL'.mpr h)]
  unfold eI'
  rw[if_pos h]
 .rw[fC' (by rw[hY'];exact fun z=>h (dL'.mp z))]
  unfold eI'
  rw[if_neg h,aM]
  rfl
theorem nU' {α:Type} {l:List α} {a:α} (h:l.Nodup) (ha:a∉l):(l++[a]).Nodup:=by
 rw[di]
 refine⟨h,by simp,fun x hx y hy=>?_⟩
 rw[aV.mp hy]
 exact fun e=>ha (e ▸ hx)
section
variable {X:Cx} {p_:List (Addr×Obj)} {σ:St} {H:Hp} {s:Shared} {A:Around} {E:Value->Shared->Prop}
theorem hZ' {D:Addr} {L:List NK} (I:Inv X p_ σ H s) (hD:H D=some (cy' D L)) (ht:f8' H L):(D == sysModules)=false/\L.length<=4000/\(∀q,some q∈L->hT q.1≠NH)/\(L.map (aW Prod.fst)).Nodup/\∃o es ep,s.heap.get? D=some o/\o.ExactDict/\o.data=.dict es ep/\MixO (tupleKind (ai' X.prog X.w)) s.heap es (L.map lkN):=by
 obtain⟨hs,o,e,h4,hh,hn,es,ep,hex,hd,hes⟩:=(show aA' X.prog X.w H s.heap D (cy' D L) from I.hok D _ hD).1
 refine⟨hs,h4,hh,hn,o,es,ep,e,hex,hd,hes.trans fD'.symm,fun k b hk=>?_,fun k b hk=>?_,?_⟩
 .obtain⟨q,hq,e⟩:=az.mp hk
  cases q with
  |none=>cases e
  |some q=>
   cases e
   exact cd' I.hok (by rw[ed'];exact ht q hq)
 .obtain⟨q,hq,e⟩:=az.mp hk
  cases q with
  |none=>cases e
  |some q=>
   cases e
   rw[k5']
   exact hh q hq
 .rw[k7']
  rw[List.nodup_iff_pairwise_ne,bF]
  exact hn.imp fun {a b} z e=>z (iU' e)
theorem k9' {D:Addr} {o:Obj} (e:s.heap.get? D=some o) (h:o.ExactDict):s.TypeIs (.ref D) "dict":=⟨o,e,h.1⟩
def u2' (H:Hp) (y:V) (q:NK):Prop:=(y=.non/\q=none)\/∃k b,y=.ref b/\q=some (k,b)/\H b=some (.tup (k.map V.int))/\hT k≠NH
theorem pO' {L:List NK} {q:NK} {o':Obj} {es':Array DictEntry} {ep':Nat} (h4:L.length<4000) (hh:∀q,some q∈L->hT q.1≠NH) (hn:(L.map (aW Prod.fst)).Nodup) (hq:∀r,q=some r->hT r.1≠NH) (hx:o'.ExactDict) (hd:o'.data=.dict es' ep')
  (hes:es'.toList=(eI' L q).map yb'):IsN (eI' L q) o':=by
 by_cases h:q.map Prod.fst∈L.map (aW Prod.fst)
 .have e:eI' L q=L:=if_pos h
  rw[e]at hes ⊢
  exact⟨bP h4,hh,hn,es',ep',hx,hd,hes⟩
 .have e:eI' L q=L++[q]:=if_neg h
  rw[e]at hes ⊢
  refine⟨by rw[ax];exact h4,fun r hr=>?_,?_,es',ep',hx,hd,hes⟩
  .rcases aL.mp hr with hr|hr
   .exact hh r hr
   .exact hq r (aV.mp hr).symm
  .rw[aM]
   exact nU' hn h
theorem jG' {D:Addr} {L:List NK} {y:V} {u:Value} {q:NK} {Q:Unit->Shared->Prop} (hu:A.units+1<cLine) (I:Inv X p_ σ H s) (hD:H D=some (cy' D L)) (ht:f8' H L) (h4:L.length<4000) (hk:u2' H y q) (ry:ax' y u)
  (h:∀s',Inv X p_ σ (upd H D (cy' D (eI' L q))) s'->Q () s'):wpAny (model X.prog X.w) A (setItem (.ref D) u (.bool true)) Q E s:=by
 obtain⟨hs,_,hh,hn,o,es,ep,ho,hex,hd,m⟩:=hZ' I hD ht
 have hz:(L.map lkN).length<=sizeLine:=by rw[ac];exact aF (bP h4) (by decide)
 have hT:=k9' ho hex
 unfold setItem
 try with_reducible refine aH ?_
 refine aa (wpAny_sequenceKey hT (by decide) ?_)
 refine aa (aQ (name:=Str.ofString "__setitem__") hT F.slot_dict_setitem (aO F.slot_dict_setitem hT F.entry_dict_setitem ?_ (F.args_dict_setitem_3 _ _ _)))
 rcases hk with⟨rfl,rfl⟩|⟨k,b,rfl,rfl,hb,hne⟩
 .cases ry
  show wpAny _ _ (Builtin.Dict.notOrdered "__setitem__" ⟨[.ref D,.none,.bool true],[]⟩ >>= _) _ _ s
  refine aa (dg hT ?_)
  show wpAny _ _ (dictSet D .none (.bool true) >>= _) _ _ s
  refine aa (nT' ho hex hd m hz fun h' o' es' ep' ho' hex' hd' hes' hs'=>ab ⟨.none,rfl,ab (h _ ?_)⟩)
  refine fu' (ob:=cy' D (eI' L none)) I (by rw[hD];exact True.intro) hs' ⟨o',ho'⟩ (hX' hs ho' (pO' h4 hh hn (fun r e=>nomatch e) hex' hd' ?_))
  rw[hes',<- fD' (P:=X.prog) (w:=X.w),<- k8']
  rfl
 .cases(show u=Value.ref b from ry)
  show wpAny _ _ (Builtin.Dict.notOrdered "__setitem__" ⟨[.ref D,.ref b,.bool true],[]⟩ >>= _) _ _ s
  refine aa (dg hT ?_)
  show wpAny _ _ (dictSet D (.ref b) (.bool true) >>= _) _ _ s
  refine aa (rk' (k:=k.map Key.inl) (tupleKind_room_in1 hu) (cd' I.hok (by rw[ed'];exact hb)) (by rw[k5'];exact hne) ho hex hd m hz fun h' o' es' ep' ho' hex' hd' hes' hs'=>ab ⟨.none,rfl,ab (h _ ?_)⟩)
  refine fu' (ob:=cy' D (eI' L (some (k,b)))) I (by rw[hD];exact True.intro) hs' ⟨o',ho'⟩ (hX' hs ho' (pO' h4 hh hn (fun r e=>by cases e;exact hne) hex' hd' ?_))
  rw[hes',<- fD' (P:=X.prog) (w:=X.w),<- k8']
  rfl
theorem pP' {D b:Addr} {L:List NK} {k:List Int} {Q:Bool->Shared->Prop} (hu:A.units+1<cLine) (I:Inv X p_ σ H s) (hD:H D=some (cy' D L)) (ht:f8' H L) (hb:H b=some (.tup (k.map V.int))) (hne:hT k≠NH)
  (h:∀s',Inv X p_ σ H s'->Q (decide (some k∈L.map (aW Prod.fst))) s'):wpAny (model X.prog X.w) A (contains (.ref D) (.ref b)) Q E s:=by
 obtain⟨hs,_,hh,hn,o,es,ep,ho,hex,hd,m⟩:=hZ' I hD ht
 have hT:=k9' ho hex
 unfold contains
 try with_reducible refine aH ?_
 refine aa (wpAny_specialOf hT F.slot_dict_contains.lookup ?_)
 show wpAny _ _ (if(some (Value.builtin "dict.__contains__") == some Value.none)=true then _ else _) _ E s
 rw[if_neg (by rw[beq_builtin_none];exact ak)]
 refine aa (wpAny_callSpecialUnlessNone?_slot (name:=Str.ofString "__contains__") hT F.slot_dict_contains (aO F.slot_dict_contains hT F.entry_dict_contains ?_ (F.args_dict_contains_2 _ _)))
 show wpAny _ _ (dictGet D (.ref b) >>= _) _ _ s
 refine aa (rl' (k:=k.map Key.inl) (tupleKind_room_in1 hu) (cd' I.hok (by rw[ed'];exact hb)) (by rw[k5'];exact hne) ho hd m ?_)
 by_cases hin:some k∈L.map (aW Prod.fst)
 .rw[if_pos (show some (k.map Key.inl)∈_ from dL' (o:=some k) |>.mpr hin)]
  have h:=h _ (I.tok (s.toks+(tupleKind (ai' X.prog X.w)).draws (k.map Key.inl)))
  rw[decide_eq_true hin]at h
  show wpAny _ _ (ret (.bool true)) _ _ _
  exact ab ⟨_,rfl,bY h⟩
 .rw[if_neg (show ¬some (k.map Key.inl)∈_ from fun z=>hin (dL' (o:=some k) |>.mp z))]
  have h:=h _ (I.tok (s.toks+(tupleKind (ai' X.prog X.w)).draws (k.map Key.inl)))
  rw[decide_eq_false hin]at h
  show wpAny _ _ (Builtin.Dict.pendingKey? D (.ref b) >>= _) _ _ _
  exact aa (wpAny_pendingKey_other hs (ab ⟨_,rfl,bY h⟩))
def NoR (H:Hp) (a:Addr):Prop:=∃kvs,Rd H a (.dT kvs)/\∀kv∈kvs,∃is:List Int,kv.1=is.map Key.inl/\hT is≠NH
theorem NoR.at {a:Addr} (I:Inv X p_ σ H s) (h:NoR H a):(a == sysModules)=false/\s.TypeIs (.ref a) "dict"/\∃o es ep,s.heap.get? a=some o/\o.data=.dict es ep/\∀e∈es.toList,e.hash≠NH:=by
 obtain⟨kvs,e,hk⟩:=h
 obtain⟨z,hd,xs,rel,dd⟩:=ft' I.hok e
 refine⟨hd,dd.typeIs,?_⟩
 obtain⟨o,es,ep,h1,_,h3,h4,_⟩:=dd
 refine⟨o,es,ep,h1,h3,fun en hen=>?_⟩
 rw[h4]at hen
 obtain⟨x,hx,rfl⟩:=az.mp hen
 obtain⟨kv,hkv,hp⟩:=a9' rel hx
 obtain⟨is,ei,hi⟩:=hk kv hkv
 show(tupleKind (ai' X.prog X.w)).hash x.1≠NH
 rw[<- hp.1,ei,k5']
 exact hi
theorem la' {a:Addr} {Q:Bool->Shared->Prop} (I:Inv X p_ σ H s) (g:NoR H a) (h:∀s',Inv X p_ σ H s'->Q false s'):wpAny (model X.prog X.w) A (contains (.ref a) .none) Q E s:=by
 obtain⟨hs,hT,o,es,ep,ho,hd,hno⟩:=g.at I
 unfold contains
 try with_reducible refine aH ?_
 refine aa (wpAny_specialOf hT F.slot_dict_contains.lookup ?_)
 show wpAny _ _ (if(some (Value.builtin "dict.__contains__") == some Value.none)=true then _ else _) _ E s
 rw[if_neg (by rw[beq_builtin_none];exact ak)]
 refine aa (wpAny_callSpecialUnlessNone?_slot (name:=Str.ofString "__contains__") hT F.slot_dict_contains (aO F.slot_dict_contains hT F.entry_dict_contains ?_ (F.args_dict_contains_2 _ _)))
 show wpAny _ _ (dictGet a .none >>= _) _ _ s
 refine aa ?_
 unfold dictGet
 try with_reducible refine aH ?_
 refine aa (cc' (aa (gr' (s:={ s with toks:=s.toks+1 }) ho hd hno (ab ?_))))
 show wpAny _ _ (Builtin.Dict.pendingKey? a .none >>= _) _ _ _
 exact aa (wpAny_pendingKey_other hs (ab ⟨_,rfl,bY (h _ (I.tok _))⟩))
def lb':TE:=fun _ H Q=>∀p,H p=none->Q (.ref p) (upd H p (cy' p []))
theorem nV' {P:Program} {w:World} {H:Hp} (h:Heap) (hb:sysModules<h.objs.size):aA' P w H (h.push { cls:=.type "dict",data:=.dict #[] }) h.objs.size (cy' h.objs.size []):=
 hX' (beq_eq_false_iff_ne.mpr (Ne.symm (aA hb))) (al _ rfl) ⟨aT _,fun q hq=>absurd hq aB,cL,#[],0,⟨rfl,rfl,rfl⟩,rfl,rfl⟩
theorem nW' {pos:Pos}:PE X (.Dict [] [] pos) lb':=fun p_ s σ H Q I h=>
 wpAny_Dict_empty ⟨.ref s.heap.objs.size,_,I.laid (a:=s.heap.objs.size) (o:=cy' s.heap.objs.size []) (t':=s.toks) (fun _ _ q=>af _ q) (ag _) (nV' s.heap I.big),rfl,h _ (I.hok.fresh (ag _))⟩
def yc' (neg:Bool):R2:=fun y x H Q=>(∃(k:List Int) (b D:Addr) (L:List NK),y=.ref b/\H b=some (.tup (k.map V.int))/\hT k≠NH/\x=.ref D/\H D=some (cy' D L)/\f8' H L/\Q (.bl (if neg then !decide (some k∈L.map (aW Prod.fst))else decide (some k∈L.map (aW Prod.fst)))) H)\/(y=.non/\∃D,x=.ref D/\NoR H D/\Q (.bl neg) H)
theorem u3' (hu:X.A.units+1<cLine):OpR X (compareOp .In) (yc' false):=by
 intro p_ s σ H y x v u Q I ry rx h
 show wpAny _ _ (contains u v >>= fun b=>pure (Value.bool b)) _ _ s
 rcases h with⟨k,b,D,L,rfl,hb,hne,rfl,hD,ht,q⟩|⟨rfl,D,rfl,g,q⟩
 .cases ry
  cases rx
  exact aa (pP' hu I hD ht hb hne fun s' I'=>ab ⟨.bl (decide (some k∈L.map (aW Prod.fst))),H,I',rfl,q⟩)
 .cases ry
  cases rx
  exact aa (la' I g fun s' I'=>ab ⟨.bl false,H,I',rfl,q⟩)
theorem lc' (hu:X.A.units+1<cLine):OpR X (compareOp .NotIn) (yc' true):=by
 intro p_ s σ H y x v u Q I ry rx h
 show wpAny _ _ (contains u v >>= fun b=>pure (Value.bool (!b))) _ _ s
 rcases h with⟨k,b,D,L,rfl,hb,hne,rfl,hD,ht,q⟩|⟨rfl,D,rfl,g,q⟩
 .cases ry
  cases rx
  exact aa (pP' hu I hD ht hb hne fun s' I'=>ab ⟨.bl (!decide (some k∈L.map (aW Prod.fst))),H,I',rfl,q⟩)
 .cases ry
  cases rx
  exact aa (la' I g fun s' I'=>ab ⟨.bl true,H,I',rfl,q⟩)
def ld' (td ty tv:TE):TS:=fun D σ H=>tv σ H fun v H1=>td σ H1 fun x H2=>ty σ H2 fun y H3=>(∃a H4,x=.ref a/\q3' H3 a y v H4/\D.nx σ H4)\/∃(a:Addr) (L:List NK) (q:NK),x=.ref a/\v=.bl true/\H3 a=some (cy' a L)/\f8' H3 L/\L.length<4000/\u2' H3 y q/\D.nx σ (upd H3 a (cy' a (eI' L q)))
variable {o i value:Expr} {pos pos':Pos} {td ty tv:TE}
theorem nX' (hu:X.A.units+1<cLine) (ho:PE X o td) (hi:PE X i ty) (hv:PE X value tv) (hs:swapsWith value (some (.Subscript o i pos')) pos.line X.env=pure false):
  PS X (.Assign [.Subscript o i pos'] value pos) (ld' td ty tv):=by
 intro p_ s σ H D I h
 refine wpAny_Assign_Subscript (thn (hv p_ s σ H _ I h) fun r s1 ⟨v,H1,I1,rv,q1⟩=>thn (ho p_ s1 σ H1 _ I1 q1) fun u s2 ⟨x,H2,I2,rx,q2⟩=>thn (hi p_ s2 σ H2 _ I2 q2) fun iv s3 ⟨y,H3,I3,ry,q3⟩=>?_) hs
 rcases q3 with⟨a,H4,ex,g,q3⟩|⟨a,L,q,ex,ev,hD,ht,h4,hk,q3⟩
 .subst ex
  obtain rfl:u=Value.ref a:=rx
  exact kB' hu I3 g ry rv fun s4 I4=>⟨σ,H4,I4,q3⟩
 .subst ex ev
  obtain rfl:u=Value.ref a:=rx
  obtain rfl:r=Value.bool true:=rv
  exact jG' hu I3 hD ht h4 hk ry fun s4 I4=>⟨σ,_,I4,q3⟩
end
section
variable {prog:Program} {w:World} {A:Around} {E:Value->Shared->Prop} {s:Shared}
set_option maxRecDepth 100000 in
set_option maxHeartbeats 3200000 in
end
def nkV:NK->V
 |none=>.non
 |some q=>.ref q.2
end L2
namespace PySem
def Rsn (xs:Array Nat):Prop:=xs.toList.Pairwise (· < ·)
theorem iV' {xs:Array Nat} (hr:Rsn xs) {i j:Nat} (hij:i<j) (hj:j<xs.size):xs[i]'⋯<xs[j]:=by
 have:=bm.mp hr i j (by rw[ai];omega) (by rw[ai];omega) hij
 simpa using this
theorem fE' {xs:Array Nat} (hr:Rsn xs) (j:Nat):∀(f lo hi:Nat),lo<=hi->hi<=xs.size->hi-lo<=f->(∀i (h:i<xs.size),i<lo->xs[i]<j)->(∀i (h:i<xs.size),hi<=i->j<=xs[i])->
  SetTable.below.go xs j f lo hi<=xs.size/\(∀i (h:i<xs.size),i<SetTable.below.go xs j f lo hi->xs[i]<j)/\(∀i (h:i<xs.size),SetTable.below.go xs j f lo hi<=i->j<=xs[i])
 |0,lo,hi,h1,h2,h3,a,b=>by
  have e:lo=hi:=by omega
  subst e
  exact⟨h2,a,b⟩
 |f+1,lo,hi,h1,h2,h3,a,b=>by
  unfold SetTable.below.go
  by_cases hl:lo<hi
  .rw[if_pos hl]
   dsimp only
   have hm:(lo+hi) / 2<xs.size:=by omega
   have eg:xs.getD ((lo+hi) / 2) j=xs[(lo+hi) / 2]:=by simp[Array.getD,hm]
   rw[eg]
   by_cases hx:xs[(lo+hi) / 2]<j
   .rw[if_pos hx]
    refine fE' hr j f _ _ ⋯ h2 ⋯ (fun i h hi'=>?_) b
    by_cases e:i=(lo+hi) / 2
    .subst e;exact hx
    .exact Nat.lt_trans (iV' hr ⋯ hm) hx
   .rw[if_neg hx]
    refine fE' hr j f _ _ ⋯ ⋯ ⋯ a fun i h hi'=>?_
    by_cases e:i=(lo+hi) / 2
    .subst e;omega
    .have:=iV' hr (i:=(lo+hi) / 2) (j:=i) ⋯ h
     omega
  .rw[if_neg hl]
   have e:lo=hi:=by omega
   subst e
   exact⟨h2,a,b⟩
theorem c1' {xs:Array Nat} (hr:Rsn xs) (j:Nat):SetTable.below xs j<=xs.size/\(∀i (h:i<xs.size),i<SetTable.below xs j->xs[i]<j)/\(∀i (h:i<xs.size),SetTable.below xs j<=i->j<=xs[i]):=
 fE' hr j _ _ _ (aT _) (ag _) (ag _) (fun _ _ z=>absurd z (Nat.not_lt_zero _)) fun i h z=>absurd h ⋯
theorem nY' {xs:Array Nat} (hr:Rsn xs) {j:Nat} (h:xs[SetTable.below xs j]?≠some j):j∉xs.toList:=by
 intro hm
 obtain⟨i,hi,e⟩:=dm.mp hm
 rw[ai]at hi
 rw[Array.getElem_toList]at e
 obtain⟨h1,h2,h3⟩:=c1' hr j
 have hle:SetTable.below xs j<=i:=cE fun z=>by have:=h2 i hi z;omega
 by_cases hq:SetTable.below xs j=i
 .rw[hq]at h
  exact h (by rw[aw hi,e])
 .have:=iV' hr (i:=SetTable.below xs j) (j:=i) ⋯ hi
  have:=h3 _ ⋯ (ag (SetTable.below xs j))
  omega
theorem e7' {xs:Array Nat} (hr:Rsn xs) {j:Nat} (h:xs[SetTable.below xs j]?≠some j):Rsn (SetTable.insertAt xs (SetTable.below xs j) j):=by
 obtain⟨h1,h2,h3⟩:=c1' hr j
 have hn:=nY' hr h
 unfold Rsn
 rw[SetTable.toList_insertAt]
 first
 |rw[aD,List.singleton_append]
 |skip
 rw[bO,List.pairwise_cons]
 have hT:∀a∈xs.toList.take (SetTable.below xs j),a<j:=by
  intro a ha
  obtain⟨i,hi,e⟩:=dm.mp ha
  rw[aJ,ai]at hi
  rw[dj,Array.getElem_toList]at e
  have:=h2 i ⋯ ⋯
  omega
 have hD:∀b∈xs.toList.drop (SetTable.below xs j),j<b:=by
  intro b hb
  obtain⟨i,hi,e⟩:=dm.mp hb
  rw[cD,ai]at hi
  rw[dl,Array.getElem_toList]at e
  have:=h3 (SetTable.below xs j+i) ⋯ ⋯
  have hne:b≠j:=fun z=>hn (z ▸ List.mem_of_mem_drop hb)
  omega
 refine⟨hr.sublist (List.take_sublist _ _),⟨hD,hr.sublist (List.drop_sublist _ _)⟩,fun a ha b hb=>?_⟩
 rcases ay.mp hb with rfl|hb
 .exact hT a ha
 .exact Nat.lt_trans (hT a ha) (hD b hb)
theorem fF' (t:SetTable) (hat:Nat->Int) (h:Int):∀(f:Nat) (p:SetTable.Probe) (j:Nat) (d:Option Nat),(∀x,p.dummy=some x->t.place[SetTable.below t.place x]?≠some x)->
  SetTable.probe.go t hat h f p=some (.empty j d)->t.place[SetTable.below t.place (d.getD j)]?≠some (d.getD j)
 |0,p,j,d,hp,e=>by unfold SetTable.probe.go at e;cases e
 |f+1,p,j,d,hp,e=>by
  unfold SetTable.probe.go at e
  have key:∀x,t.slot x≠.live (SetTable.below t.place x)->t.place[SetTable.below t.place x]?≠some x:=by
   intro x hx z
   apply hx
   unfold SetTable.slot
   simp[z]
  have adv:∀q:SetTable.Probe,(t.advance q).dummy=q.dummy:=by
   intro q
   unfold SetTable.advance
   split<;>rfl
  cases hs:t.slot p.j with
  |empty=>
   rw[hs]at e
   injection e with e
   injection e with e1 e2
   subst e1;subst e2
   cases hd:p.dummy with
   |none=>exact key _ (by show t.slot p.j≠_;rw[hs];exact fun z=>nomatch z)
   |some x=>exact hp x hd
  |dummy=>
   rw[hs]at e
   dsimp only at e
   refine fF' t hat h f _ j d (fun x hx=>?_) e
   rw[adv]at hx
   injection hx with hx
   subst hx
   exact key _ (by rw[hs];exact fun z=>nomatch z)
  |live i=>
   rw[hs]at e
   dsimp only at e
   by_cases hq:(hat i == h)=true
   .rw[if_pos hq]at e
    injection e with e
    cases e
   .rw[if_neg hq]at e
    refine fF' t hat h f _ j d (fun x hx=>?_) e
    rw[adv]at hx
    exact hp x hx
set_option tactic.hygienic true in
theorem rn' {t:SetTable} {h:Int} {slot:Nat} {b:Bool} (e:t.freeSlot h=some (slot,b)):t.place[SetTable.below t.place slot]?≠some slot:=by
 unfold SetTable.freeSlot at e
 split at e
 .rename_i j d hm
  injection e with e
  injection e with e1 e2
  subst e1
  unfold SetTable.probe at hm
  exact fF' t _ h _ _ j d (fun x hx=>by unfold SetTable.probeStart at hx;cases hx) hm
 .cases e
theorem cE' (t:SetTable) (n:Nat):Rsn (t.standIn n).place:=by
 unfold SetTable.standIn Rsn
 simp only[Array.toList_range]
 exact bT
def TOk (bt:Bool) (t:SetTable):Prop:=bt=true\/t.led=true/\Rsn t.place
theorem fG' {bt:Bool} {t:SetTable} {n:Nat} (h:TOk bt t):TOk bt (t.orStandIn n):=by
 unfold SetTable.orStandIn
 split
 .exact h
 .rcases h with h|⟨h1,_⟩
  .exact .inl h
  .exact .inr ⟨h1,cE' t n⟩
set_option tactic.hygienic true in
theorem jH' {bt:Bool} {t:SetTable} (es:Array (Int×Value)) (hh:Int) (x:Value) (h:TOk bt t):TOk bt (layNew t es hh x).2.1:=by
 unfold layNew
 split
 .rename_i slot wd e
  refine fG' ?_
  rcases h with h|⟨h1,h2⟩
  .exact .inl h
  .exact .inr ⟨h1,e7' h2 (rn' e)⟩
 .rcases h with h|⟨h1,_⟩
  .exact .inl h
  .exact .inr ⟨h1,cE' t _⟩
set_option tactic.hygienic true in
theorem le' {bt:Bool} {t:SetTable} (es:Array (Int×Value)) (wd:Nat) (h:TOk bt t):TOk bt (relayAll t es wd).2.1:=by
 have hs:∀n,TOk bt (t.standIn n):=fun n=>by
  rcases h with h|⟨h1,_⟩
  .exact .inl h
  .exact .inr ⟨h1,cE' t n⟩
 unfold relayAll
 split
 .rename_i t' order e
  dsimp only
  split
  .unfold SetTable.relaid SetTable.laid at e
   cases ho:SetTable.layClean (SetTable.sizeAbove wd-1) (es.map fun x=>x.1)with
   |none=>rw[ho]at e;cases e
   |some owner=>
    rw[ho]at e
    injection e with e
    injection e with e1 e2
    subst e1
    rcases h with h|⟨h1,_⟩
    .exact .inl h
    .refine .inr ⟨h1,?_⟩
     unfold Rsn
     show List.Pairwise _ (List.map _ _)
     rw[bF]
     refine List.Pairwise.filterMap (R:=(· < ·)) _ (fun a a' haa b hb b' hb'=>?_) bT
     cases hx:owner.getD a none with
     |none=>simp[hx]at hb
     |some u=>
      cases hy:owner.getD a' none with
      |none=>simp[hy]at hb'
      |some u'=>
       simp[hx]at hb
       simp[hy]at hb'
       subst hb;subst hb'
       exact haa
  .exact hs _
 .exact hs _
end PySem
namespace PySem
namespace Ts
open SetTable
def u (x:Nat):Nat->Nat
 |0=>x
 |n+1=>5*u x n+1
end Ts
end PySem
namespace PySem
section
variable {prog:Program} {w:World} {K:Type} [DecidableEq K] (knd:KeyKind prog w K)
def Dst (es:List (Int×Value)):Prop:=es.Pairwise fun a b=>∀k,knd.is k a.2=true->knd.is k b.2=true->False
def Obj.SetIt (o:Obj) (S:K->Bool) (n:Nat):Prop:=
 ∃es ep t,o.ExactSet/\o.data=.set es ep t/\ElemsOf knd es.toList/\(∀k,S k=true↔∃e∈es.toList,knd.is k e.2=true)/\es.size<scanBound/\t.fits es.size=true/\es.size=n
  /\ Dst knd es.toList/\TOk (w.params.followText "set-order") t
variable {knd}
variable {A:Around} {E:Value->Shared->Prop} {s:Shared}
theorem n0' {es es1:List (Int×Value)} {k:K} {hh:Int} {x:Value} (hd:Dst knd es) (hk:knd.is k x=true) (hel:ElemsOf knd es) (hno:∀e∈es,knd.is k e.2=false) (p:List.Perm es1 (es++[(hh,x)])):Dst knd es1:=by
 have h2:Dst knd (es++[(hh,x)]):=by
  unfold Dst
  rw[bO]
  refine⟨hd,List.pairwise_singleton _ _,fun a ha b hb k' q1 q2=>?_⟩
  rw[aV]at hb
  subst hb
  have e:=knd.inj x k' k q2 hk
  subst e
  rw[hno a ha]at q1
  cases q1
 exact(List.Perm.pairwise_iff (fun {a b} z k q1 q2=>z k q2 q1) p).mpr h2
theorem ee' {h:Heap} {a:Addr} {o:Obj} {es:Array (Int×Value)} {ep:Nat} {t:SetTable} (ho:h.get? a=some o) (hx:o.ExactSet) (hd:o.data=.set es ep t) {es1:Array (Int×Value)} {t1:SetTable} {S1:K->Bool} {n:Nat}
  (e1:ElemsOf knd es1.toList) (e2:∀k,S1 k=true↔∃e∈es1.toList,knd.is k e.2=true) (e3:es1.size<scanBound) (e4:t1.fits es1.size=true) (e5:es1.size=n) (e6:Dst knd es1.toList) (e7:TOk (w.params.followText "set-order") t1):
  ∃o1,(h.update a (Obj.putSet es1 t1)).get? a=some o1/\o1.ExactSet/\o1.data=.set es1 (ep+1) t1/\o1.SetIt knd S1 n:=by
 have eo:=putSet_of es1 t1 hd
 have hg:=aP (Obj.putSet es1 t1) ho (by rw[eo];rfl)
 rw[eo]at hg
 exact⟨_,hg,hx,rfl,es1,ep+1,t1,hx,rfl,e1,e2,e3,e4,e5,e6,e7⟩
theorem ll' {a:Addr} {o:Obj} {S:K->Bool} {n:Nat} {k:K} {x:Value} {Q:Bool->Shared->Prop} (hkey:knd.is k x=true) (hsc:x.scannable=true) (ho:s.heap.get? a=some o) (hS:o.SetIt knd S n) (hroom:n+1<scanBound)
  (h:∀h' o',bG a s.heap h'->h'.get? a=some o'->o'.SetIt knd (fun j=>S j || decide (j=k)) (if S k then n else n+1)->Q (!S k) { s with heap:=h' }):
  wpAny (model prog w) A (setAddHashed a x (knd.hash k)) Q E s:=by
 obtain⟨es,ep,t,hex,hd,hel,hmem,hb,hf,hn,hdst,htk⟩:=id hS
 unfold setAddHashed setAddHashedIn
 refine aH (aa (ce ho hd hf ?_))
 dsimp only
 rw[byScan_of hsc hb hel,if_pos rfl]
 unfold setAddByScan
 refine aa (aa (bR (aa (wpAny_setScan_of hkey ho hd hf hel ?_))))
 cases hr:List.findIdx? (fun e=>knd.is k e.2) es.toList with
 |some j=>
  dsimp only
  obtain⟨hj,hpj,_⟩:=List.findIdx?_eq_some_iff_getElem.mp hr
  have hSk:S k=true:=(hmem k).mpr ⟨_,cH hj,hpj⟩
  refine ab (ab ?_)
  have z:=h s.heap o (Heap.SameBut.refl a s.heap) ho ⟨es,ep,t,hex,hd,hel,fun k'=>by
   rw[aR,decide_eq_true_eq,<- hmem k']
   exact⟨fun q=>q.elim id fun q=>q ▸ hSk,.inl⟩,hb,hf,by rw[hSk];exact hn,hdst,htk⟩
  rw[hSk]at z
  exact z
 |none=>
  dsimp only
  have hno:∀e∈es.toList,knd.is k e.2=false:=fun e he=>by simpa using List.findIdx?_eq_none_iff.mp hr e he
  have hSk:S k=false:=by
   cases hk:S k with
   |false=>rfl
   |true=>obtain⟨e,he,hp⟩:=(hmem k).mp hk;rw[hno e he]at hp;cases hp
  have hp:=layNew_perm t es (knd.hash k) x
  have hfit:=layNew_fits t es (knd.hash k) x
  have htk1:=jH' es (knd.hash k) x htk
  rw[ck]at hp
  generalize layNew t es (knd.hash k) x=Y at hp hfit htk1 ⊢
  obtain⟨es1,t1,wd,gv⟩:=Y
  dsimp only at hp hfit htk1 ⊢
  have el1:ElemsOf knd es1.toList:=(hel.push hkey hsc).perm hp
  have me1:∀k',(S k' || decide (k'=k))=true↔∃e∈es1.toList,knd.is k' e.2=true:=mem_push_iff hkey hmem hp
  have sz1:es1.size=n+1:=by rw[<- ai,hp.length_eq,ax,ai,hn];rfl
  have d1:Dst knd es1.toList:=n0' hdst hkey hel hno hp
  have fin:∀h' o',bG a s.heap h'->h'.get? a=some o'->o'.SetIt knd (fun j=>S j || decide (j=k)) (n+1)->Q true { s with heap:=h' }:=by
   intro h' o' z1 z2 z3
   have z:=h h' o' z1 z2
   rw[hSk]at z
   exact z z3
  have way:∀t2:SetTable,t2.fits es1.size=true->TOk (w.params.followText "set-order") t2->wpAny (model prog w) A (do
    storeSet a es1 t2
    if(!wd&&t2.tooFull)=true then do
      (match (relayAll t2 es1 (SetTable.grown es1.size)).2.2 with|true=>rule "set.scan.the-table-gave-way" | false=>pure ())
      storeSet a (relayAll t2 es1 (SetTable.grown es1.size)).1 (relayAll t2 es1 (SetTable.grown es1.size)).2.1
      pure (some true)
     else pure (some true)) (fun r s'=>r=some true/\Q true s') E s:=by
   intro t2 f2 k2
   refine aa (wpAny_storeSet_of ho hd ?_ (fits_of_scanBound (by rw[sz1];exact hroom)))
   obtain⟨o1,g1,x1,dt1,i1⟩:=ee' (knd:=knd) ho hex hd el1 me1 (by rw[sz1];exact hroom) f2 sz1 d1 k2
   have b1:=Heap.SameBut.update s.heap a (Obj.putSet es1 t2)
   split
   .have hp2:=relayAll_perm t2 es1 (SetTable.grown es1.size)
    have hf2:=relayAll_fits t2 es1 (SetTable.grown es1.size)
    have hk2:=le' es1 (SetTable.grown es1.size) k2
    generalize relayAll t2 es1 (SetTable.grown es1.size)=Z at hp2 hf2 hk2 ⊢
    obtain⟨es2,t3,gv2⟩:=Z
    dsimp only at hp2 hf2 hk2 ⊢
    have sz2:es2.size=n+1:=by rw[<- ai,hp2.length_eq,ai,sz1]
    have stp:∀(X:Sem Unit),(∀Q':Unit->Shared->Prop,∀s1,Q' () s1->wpAny (model prog w) A X Q' E s1)->∀s1 Q',Q' () s1->wpAny (model prog w) A X Q' E s1:=fun X hX s1 Q' q=>hX Q' s1 q
    refine aa (stp _ (fun Q' s1 q=>by cases gv2<;>first|exact ab q|exact bR q) _ _ ?_)
    refine aa (wpAny_storeSet_of g1 dt1 ?_ (fits_of_scanBound (by rw[sz2];exact hroom)))
    obtain⟨o2,g2,x2,dt2,i2⟩:=ee' (knd:=knd) g1 x1 dt1 (el1.perm hp2) (fun k'=>(me1 k').trans ⟨fun⟨e,he,q⟩=>⟨e,hp2.mem_iff.mpr he,q⟩,fun⟨e,he,q⟩=>⟨e,hp2.mem_iff.mp he,q⟩⟩) (by rw[sz2];exact hroom) hf2 sz2
     ((List.Perm.pairwise_iff (fun {a b} z k q1 q2=>z k q2 q1) hp2).mpr d1) hk2
    exact ab ⟨rfl,fin _ o2 (b1.trans (Heap.SameBut.update _ a _)) g2 i2⟩
   .exact ab ⟨rfl,fin _ o1 b1 g1 i1⟩
  have hgw:∀(b:Bool) {s1:Shared} {Q':Unit->Shared->Prop},Q' () s1->wpAny (model prog w) A (match b with|true=>rule "set.scan.the-table-gave-way" | false=>pure ()) Q' E s1:=
   fun b s1 Q' q=>by cases b<;>first|exact ab q|exact bR q
  refine aa (hgw gv ?_)
  split
  .rw[hashByValue_scannable 8 hsc]
   refine aa (ab ?_)
   refine dh (way _ ?_ ?_) (fun r s' q=>?_) fun _ _ z=>z
   .split
    .exact hfit
    .exact SetTable.fits_plain_off hfit
   .split
    .exact htk1
    .rcases htk1 with z|⟨z1,z2⟩
     .exact .inl z
     .exact .inr ⟨z1,z2⟩
   .obtain⟨rfl,q⟩:=q
    exact ab q
  .refine aa (ab ?_)
   rw[if_pos rfl]
   refine dh (way _ hfit htk1) (fun r s' q=>?_) fun _ _ z=>z
   obtain⟨rfl,q⟩:=q
   exact ab q
theorem gA' {a:Addr} {o:Obj} {S:K->Bool} {n:Nat} (ho:s.heap.get? a=some o) (hS:o.SetIt knd S n):s.TypeIs (.ref a) "set":=let⟨_,_,_,hx,_⟩:=hS;⟨o,ho,hx.1⟩
theorem jI' {a:Addr} {o:Obj} {S:K->Bool} {n:Nat} {k:K} {x:Value} {Q:Value->Shared->Prop} (hkey:knd.is k x=true) (hsc:x.scannable=true) (ho:s.heap.get? a=some o) (hS:o.SetIt knd S n) (hroom:n+1<scanBound)
  (h:∀h' o',bG a s.heap h'->h'.get? a=some o'->o'.SetIt knd (fun j=>S j || decide (j=k)) (if S k then n else n+1)->Q .none { s with heap:=h',toks:=s.toks+1 }):
  wpAny (model prog w) A (call (.builtin "set.add") [.ref a,x]) Q E s:=by
 refine aO F.slot_set_add (gA' ho hS) F.entry_set_add ?_ (F.args_set_add_2 _ _)
 unfold Builtin.«set.add» Builtin.Frozenset.oneOther
 simp only[List.isEmpty_nil,bind_assoc]
 unfold Builtin.Frozenset.addrOf setAdd
 refine aa (ab ?_)
 try dsimp only
 refine aa (ab ?_)
 try dsimp only
 refine aa (aH (aa (knd.pyHash hkey ?_)))
 refine ll' (s:={ s with toks:=s.toks+1 }) hkey hsc ho hS hroom fun h' o' z1 z2 z3=>?_
 exact ab ⟨_,rfl,h h' o' z1 z2 z3⟩
end
end PySem
namespace PySem
namespace Ts
open SetTable
section
variable {prog:Program} {w:World}
def Tup (prog:Program) (w:World) (h:Heap) (q:List Int×Addr):Prop:=IsTupleKey (intKind prog w) h q.1 q.2
variable {A:Around} {E:Value->Shared->Prop} {s:Shared}
end
end Ts
end PySem
namespace PySem
open PyProof.Rows
section
variable {prog:Program} {w:World} {K:Type} [DecidableEq K] {knd:KeyKind prog w K} {A:Around} {E:Value->Shared->Prop} {s:Shared}
def fH' (led:Bool):Obj:={ cls:=.type "set",dict:=none,data:=.set #[] 0 (.fresh 0 0 led) }
theorem h5':(fH' (!(w.params.followText "set-order"))).SetIt knd (fun _=>false) 0:=
 ⟨#[],0,_,⟨rfl,rfl,rfl⟩,rfl,fun e he=>by simp at he,fun k=>by simp,by decide,by rfl,rfl,by simp[Dst],by
  cases h:w.params.followText "set-order" with
  |true=>exact .inl rfl
  |false=>exact .inr ⟨rfl,by unfold Rsn;exact List.Pairwise.nil⟩⟩
theorem lm' {Q:Value->Shared->Prop} (h:Q (.ref s.heap.objs.size) { s with heap:=s.heap.push (fH' (!(w.params.followText "set-order"))) }):wpAny (model prog w) A (newSet (.type "set")) Q E s:=by
 unfold newSet setsByText
 refine aa (aa (bE (ab ?_)))
 exact aI h
end
end PySem
namespace PySem
open PyProof.Rows
namespace F
theorem gB':Manifest.owners.lookup (String.ofList ['r','o','t','a','r','e','t','i','_','t','e','s'].reverse)=some Manifest.sig_set_iterator:=by kernel_rfl
theorem aB':Slot "set_iterator" "__next__" "set_iterator.__next__":=
 .of (owner:="set_iterator") (n:="__next__") (by rw[typeLookup_type,builtinLookup_eq_fast];kernel_rfl) ⋯ ⋯ ⋯
  (by first|exact .inl ⋯|exact .inr ⋯) (by rw[isSubtype_type];kernel_rfl)
theorem cB':entryFor table "set_iterator.__next__"=some Builtin.«set_iterator.__next__»:=entryFor_of_tree (by kernel_rfl)
theorem c2':Slot "set_iterator" "__iter__" "set_iterator.__iter__":=
 .of (owner:="set_iterator") (n:="__iter__") (by rw[typeLookup_type,builtinLookup_eq_fast];kernel_rfl) ⋯ ⋯ ⋯
  (by first|exact .inl ⋯|exact .inr ⋯) (by rw[isSubtype_type];kernel_rfl)
theorem eW':entryFor table "set_iterator.__iter__"=some Builtin.«dict_keyiterator.__iter__»:=
 entryFor_alias (id':="dict_keyiterator.__iter__") (by kernel_rfl) (by first|rfl|decide +kernel|(unfold String.splitOn;simp +decide [String.splitOnAux])) ⋯ (by kernel_rfl)
theorem ce' (a:Value):argsOk "set_iterator.__next__" ⟨[a],[]⟩:=by
 unfold argsOk;rw[signature?_of (id:="set_iterator.__next__") (n:=['_','_','t','x','e','n','_','_']) (o:=['r','o','t','a','r','e','t','i','_','t','e','s']) (by kernel_rfl) gB'];kernel_rfl
theorem ef' (a:Value):argsOk "set_iterator.__iter__" ⟨[a],[]⟩:=by
 unfold argsOk;rw[signature?_of (id:="set_iterator.__iter__") (n:=['_','_','r','e','t','i','_','_']) (o:=['r','o','t','a','r','e','t','i','_','t','e','s']) (by kernel_rfl) gB'];kernel_rfl
theorem eg':entryFor table "set.__iter__"=some Builtin.«frozenset.__iter__»:=
 entryFor_alias (id':="frozenset.__iter__") (by kernel_rfl) (by first|rfl|decide +kernel|(unfold String.splitOn;simp +decide [String.splitOnAux])) ⋯ (by kernel_rfl)
end F
def Heap.IsSti (h:Heap) (a d:Addr) (f:Value) (i n ep:Nat):Prop:=∃o,h.get? a=some o/\o.cls=.type "set_iterator"/\o.data=.fields #[f,rawInt i,.ref d,rawInt n,rawInt ep]
theorem Heap.IsSti.at {h h':Heap} {a d:Addr} {f:Value} {i n ep:Nat} (x:h.IsSti a d f i n ep) (e:∀o,h.get? a=some o->h'.get? a=some o):h'.IsSti a d f i n ep:=let⟨o,ho,r⟩:=x;⟨o,e _ ho,r⟩
def Ord (bt:Bool) (w:World) (d ep:Nat) (es:Array (Int×Value)) (t:SetTable) (xs:Array Value) (h:Heap) (f:Value) (i:Nat):Prop:=
 (bt=true/\f=rawInt 0/\xs=(pickOrder (w.params.setOrder d ep) es).map (·.2))\/
 (bt=false/\(!t.plain&&decide (es.size > 1))=false/\Rsn t.place/\f=rawInt (if i=0 then 0 else((t.place.getD (i-1) 0+1:Nat):Int))/\xs=es.map (·.2))\/
 (bt=false/\∃(T:Addr) (pl:Array Nat),f=.ref T/\IsTup h T (pl.map fun(j:Nat)=>rawInt j)/\xs.size=pl.size/\∀(j p:Nat),pl[j]?=some p->∃x:Int×Value,es[p]?=some x/\xs[j]?=some x.2)
section
variable {prog:Program} {w:World} {A:Around} {E:Value->Shared->Prop} {s:Shared}
theorem Heap.IsSti.typeIs {a d:Addr} {f:Value} {i n ep:Nat} (x:s.heap.IsSti a d f i n ep):s.TypeIs (.ref a) "set_iterator":=let⟨o,ho,hc,_⟩:=x;⟨o,ho,hc⟩
theorem n1' {it d:Addr} {f:Value} {i n ep:Nat} {Q:Value->Shared->Prop} (hit:s.heap.IsSti it d f i n ep) (h:Q (.ref it) s):wpAny (model prog w) A (pyIter (.ref it)) Q E s:=by
 refine wpAny_pyIter_slot hit.typeIs F.c2' (aO F.c2' hit.typeIs F.eW' ?_ (F.ef' _))
 show wpAny _ _ (ret (.ref it)) _ _ s
 exact ab ⟨_,rfl,"set_iterator",_,hit.typeIs,F.aB'.lookup,h⟩
theorem e8' {xs:Array Nat} (hr:Rsn xs) {i:Nat} (hi:i<=xs.size):SetTable.below xs (Int.toNat (if i=0 then 0 else((xs.getD (i-1) 0+1:Nat):Int)))=i:=by
 by_cases h0:i=0
 .subst h0
  rw[if_pos rfl]
  obtain⟨h1,h2,h3⟩:=c1' hr (Int.toNat 0)
  by_cases hz:SetTable.below xs (Int.toNat 0)=0
  .exact hz
  .exact absurd (h2 0 ⋯ ⋯) (by simp)
 .rw[if_neg h0,bc]
  have hg:xs.getD (i-1) 0=xs[i-1]'⋯:=by simp[Array.getD,show i-1<xs.size by omega]
  rw[hg]
  obtain⟨h1,h2,h3⟩:=c1' hr (xs[i-1]'⋯+1)
  refine Nat.le_antisymm (cE fun z=>?_) (cE fun z=>?_)
  .have q1:=h2 i ⋯ z
   have q2:=iV' hr (i:=i-1) (j:=i) ⋯ ⋯
   omega
  .have q1:=h3 (i-1) ⋯ ⋯
   omega
theorem fI' {α:Type}:∀(l:List α) (i:Nat) (h:i<l.length),(l[i] :: l.eraseIdx i).Perm l
 |a :: l,0,h=>List.Perm.refl _
 |a :: l,i+1,h=>by
  rw[List.eraseIdx_cons_succ,List.getElem_cons_succ]
  exact(List.Perm.swap a _ _).trans ((fI' l i (by simpa using h)).cons a)
theorem ln' {α:Type} (f:Nat->Nat):∀(n k:Nat) (l:List α) (out:Array α),n=l.length->(pickOrder.go f n k l out).toList.Perm (out.toList++l)
 |0,k,l,out,e=>by
  have:l=[]:=cW.mp e.symm
  subst this
  unfold pickOrder.go
  simp
 |n+1,k,l,out,e=>by
  unfold pickOrder.go
  have hl:f k % l.length<l.length:=Nat.mod_lt _ ⋯
  rw[ae hl]
  dsimp only
  refine(ln' f n (k+1) _ _ (by rw[List.length_eraseIdx_of_lt hl];omega)).trans ?_
  rw[ck,aD]
  refine List.Perm.append_left _ ?_
  rw[List.singleton_append]
  exact fI' l _ hl
theorem gC' {α:Type} (f:Nat->Nat) (xs:Array α):(pickOrder f xs).toList.Perm xs.toList:=by
 have:=ln' f xs.size 0 xs.toList #[] (by simp)
 simpa[pickOrder]using this
theorem n2' {it d:Addr} {o:Obj} {f:Value} {i ep:Nat} {es:Array (Int×Value)} {t:SetTable} {xs:Array Value} {v:Value} {Q:Option Value->Shared->Prop} (hit:s.heap.IsSti it d f i es.size ep) (hne:d≠it) (hT:∀T,f=.ref T->T≠it) (ho:s.heap.get? d=some o) (hd:o.data=.set es ep t)
  (hf:t.fits es.size=true) (htk:TOk (w.params.followText "set-order") t) (hor:Ord (w.params.followText "set-order") w d ep es t xs s.heap f i) (hx:xs[i]?=some v)
  (hQ:∀h' f',h'.IsSti it d f' (i+1) es.size ep->bG it s.heap h'->Ord (w.params.followText "set-order") w d ep es t xs h' f' (i+1)->(∀T,f'=.ref T->f=.ref T)->Q (some v) { s with heap:=h' }):wpAny (model prog w) A (pyNext (.ref it)) Q E s:=by
 obtain⟨oi,hoi,hci,hdi⟩:=id hit
 have hfz:t.place.size=es.size:=by
  simp only[SetTable.fits,ah,beq_iff_eq]at hf
  exact hf.1
 unfold pyNext
 refine aa (cw (aQ (name:=Str.ofString "__next__") hit.typeIs F.aB' (aO F.aB' hit.typeIs F.cB' ?_ (F.ce' _))))
 unfold Builtin.«set_iterator.__next__»
 refine aa (cV (a:=(Value.ref it,[])) rfl ?_)
 dsimp only
 refine aa (wpAny_fieldsOf hoi hdi ?_)
 dsimp only[rawInt]
 refine aa (wpAny_setEntries_of ho hd hf ?_)
 rw[if_neg (by simp)]
 have k1:∀(f1:Value) (h1:Heap),h1=(s.heap.update it (Obj.mapFields fun x=>x.setIfInBounds 0 f1)).update it (Obj.mapFields fun x=>x.setIfInBounds 1 (rawInt ((i:Int)+1)))->h1.IsSti it d f1 (i+1) es.size ep/\bG it s.heap h1:=by
  intro f1 h1 e
  subst e
  have g1:=aP (Obj.mapFields fun x=>x.setIfInBounds 0 f1) hoi (Obj.isFreed_of_fields (Obj.data_mapFields hdi _))
  have g2:=aP (Obj.mapFields fun x=>x.setIfInBounds 1 (rawInt ((i:Int)+1))) g1 (Obj.isFreed_of_fields (Obj.data_mapFields (Obj.data_mapFields hdi _) _))
  exact⟨⟨_,g2,(Obj.cls_mapFields ..).trans ((Obj.cls_mapFields ..).trans hci),by rw[Obj.data_mapFields (Obj.data_mapFields hdi _)];simp[rawInt]⟩,(Heap.SameBut.update ..).trans (Heap.SameBut.update ..)⟩
 rcases id hor with⟨hb,rfl,hxs⟩|⟨hb,hdr,hrs,rfl,hxs⟩|⟨hb,T,pl,rfl,htp,hsz,hpl⟩
 .dsimp only[rawInt]
  unfold setNext
  refine aa (aa (ce ho hd hf ?_))
  dsimp only
  unfold setsByText
  refine aa (aa (bE (ab ?_)))
  show wpAny _ _ (if w.params.followText "set-order"=true then _ else _) _ _ _
  rw[if_pos hb]
  rw[if_neg (by simp)]
  unfold setWalk
  refine aa (aa (ce ho hd hf ?_))
  dsimp only
  unfold setsByText
  refine aa (aa (bE (ab ?_)))
  show wpAny _ _ (if w.params.followText "set-order"=true then _ else _) _ _ _
  rw[if_pos hb]
  refine aa (bE (ab ?_))
  have hv:(pickOrder (w.params.setOrder d ep) es)[i]?.map (·.2)=some v:=by
   rw[hxs,Array.getElem?_map]at hx
   exact hx
  obtain⟨p,hp,rfl⟩:∃p,(pickOrder (w.params.setOrder d ep) es)[i]?=some p/\p.2=v:=by
   cases hq:(pickOrder (w.params.setOrder d ep) es)[i]? with
   |none=>rw[hq]at hv;cases hv
   |some p=>rw[hq]at hv;exact⟨p,rfl,by injection hv⟩
  show wpAny _ _ (pure (aW (fun e=>(e.2,(0:Int).toNat)) (pickOrder (w.params.setOrder d ep) es)[(i:Int).toNat]?)) _ _ _
  rw[bc,hp]
  refine ab ?_
  dsimp only[aW]
  refine aa (bK hoi hdi (by simp) ?_)
  have g1:=aP (Obj.mapFields fun x=>x.setIfInBounds 0 (rawInt ((0:Int).toNat:Int))) hoi (Obj.isFreed_of_fields (Obj.data_mapFields hdi _))
  refine aa (bK g1 (Obj.data_mapFields hdi _) (by simp) ?_)
  obtain⟨z1,z2⟩:=k1 (rawInt ((0:Int).toNat:Int)) _ rfl
  exact ab ⟨_,rfl,ab (hQ _ _ z1 z2 (.inl ⟨hb,rfl,hxs⟩) fun T z=>nomatch z)⟩
 .dsimp only[rawInt]
  have hi:i<es.size:=by
   rw[hxs]at hx
   have:=(Array.getElem?_eq_some_iff.mp hx).1
   rwa [cY]at this
  have hv:es[i].2=v:=by
   rw[hxs,Array.getElem?_map,aw hi]at hx
   injection hx
  unfold setNext
  refine aa (aa (ce ho hd hf ?_))
  dsimp only
  unfold setsByText
  refine aa (aa (bE (ab ?_)))
  show wpAny _ _ (if w.params.followText "set-order"=true then _ else _) _ _ _
  rw[if_neg (by rw[hb];exact ak)]
  show wpAny _ _ (if(!t.plain&&decide (es.size > 1))=true then _ else _) _ _ _
  rw[if_neg (by rw[hdr];exact ak)]
  have hled:t.led=true:=by
   rcases htk with z|z
   .rw[hb]at z;cases z
   .exact z.1
  refine aa ?_
  show wpAny _ _ (if(!t.led&&!es.isEmpty)=true then _ else _) _ _ _
  rw[if_neg (by rw[hled];simp)]
  refine ab ?_
  rw[e8' hrs ⋯]
  rw[aw hi,aw (show i<t.place.size by omega)]
  refine ab ?_
  dsimp only
  refine aa (bK hoi hdi (by simp) ?_)
  have g1:=aP (Obj.mapFields fun x=>x.setIfInBounds 0 (rawInt ((t.place[i]'⋯+1:Nat):Int))) hoi (Obj.isFreed_of_fields (Obj.data_mapFields hdi _))
  refine aa (bK g1 (Obj.data_mapFields hdi _) (by simp) ?_)
  obtain⟨z1,z2⟩:=k1 (rawInt ((t.place[i]'⋯+1:Nat):Int)) _ rfl
  subst hv
  refine ab ⟨_,rfl,ab (hQ _ _ z1 z2 (.inr (.inl ⟨hb,hdr,hrs,?_,hxs⟩)) fun T z=>nomatch z)⟩
  rw[if_neg ⋯]
  simp[Array.getD,show i<t.place.size by omega]
 .have hi:i<pl.size:=by
   have:=(Array.getElem?_eq_some_iff.mp hx).1
   omega
  dsimp only[rawInt]
  obtain⟨x,ex,exs⟩:=hpl i _ (aw hi)
  rw[exs]at hx
  injection hx with hx
  subst hx
  obtain⟨oT,hoT,hcT,nT,hdT⟩:=id htp
  refine aa ?_
  show wpAny _ _ (load T >>= _) _ _ _
  refine aa (wpAny_load hoT ?_)
  rw[hdT]
  refine ab ?_
  dsimp only
  have hg:(pl.map fun(j:Nat)=>rawInt j)[(i:Int).toNat]?=some (rawInt (pl[i]:Nat)):=by rw[bc,Array.getElem?_map,aw hi];rfl
  rw[hg]
  dsimp only[rawInt]
  unfold setNextDrawn
  refine aa (aa (ce ho hd hf ?_))
  dsimp only
  rw[if_neg (by simp)]
  rw[bc,ex]
  refine ab ?_
  refine aa (bK hoi hdi (by simp) ?_)
  have hsb:=Heap.SameBut.update s.heap it (Obj.mapFields fun x=>x.setIfInBounds 1 (rawInt ((i:Int)+1)))
  refine ab ⟨_,rfl,ab (hQ _ (.ref T) ⟨_,aP _ hoi (Obj.isFreed_of_fields (Obj.data_mapFields hdi _)),(Obj.cls_mapFields ..).trans hci,by rw[Obj.data_mapFields hdi];simp[rawInt]⟩ hsb (.inr (.inr ⟨hb,T,pl,rfl,pJ' htp fun o e=>(hsb.2 T (hT T rfl)).trans e,hsz,hpl⟩)) fun T' z=>z)⟩
end
end PySem
namespace PySem
open PyProof.Rows
section
variable {prog:Program} {w:World} {A:Around} {E:Value->Shared->Prop} {s:Shared}
theorem rv' {it d:Addr} {o:Obj} {f:Value} {ep:Nat} {es:Array (Int×Value)} {t:SetTable} {xs:Array Value} {Q:Option Value->Shared->Prop} (hh:A.handled=none) (hit:s.heap.IsSti it d f es.size es.size ep) (ho:s.heap.get? d=some o) (hd:o.data=.set es ep t)
  (hf:t.fits es.size=true) (htk:TOk (w.params.followText "set-order") t) (hor:Ord (w.params.followText "set-order") w d ep es t xs s.heap f es.size) (hsx:xs.size=es.size)
  (hQ:∀h',Heap.ExtBut it s.heap h'->Q none { s with heap:=h' }):wpAny (model prog w) A (pyNext (.ref it)) Q E s:=by
 obtain⟨oi,hoi,hci,hdi⟩:=id hit
 have hfz:t.place.size=es.size:=by
  simp only[SetTable.fits,ah,beq_iff_eq]at hf
  exact hf.1
 unfold pyNext
 refine aa (cw (aQ (name:=Str.ofString "__next__") hit.typeIs F.aB' (aO F.aB' hit.typeIs F.cB' ?_ (F.ce' _))))
 unfold Builtin.«set_iterator.__next__»
 refine aa (cV (a:=(Value.ref it,[])) rfl ?_)
 dsimp only
 refine aa (wpAny_fieldsOf hoi hdi ?_)
 dsimp only[rawInt]
 refine aa (wpAny_setEntries_of ho hd hf ?_)
 rw[if_neg (by simp)]
 rcases id hor with⟨hb,rfl,hxs⟩|⟨hb,hdr,hrs,rfl,hxs⟩|⟨hb,T,pl,rfl,htp,hsz,hpl⟩
 .dsimp only[rawInt]
  unfold setNext
  refine aa (aa (ce ho hd hf ?_))
  dsimp only
  unfold setsByText
  refine aa (aa (bE (ab ?_)))
  show wpAny _ _ (if w.params.followText "set-order"=true then _ else _) _ _ _
  rw[if_pos hb]
  rw[if_neg (by simp)]
  unfold setWalk
  refine aa (aa (ce ho hd hf ?_))
  dsimp only
  unfold setsByText
  refine aa (aa (bE (ab ?_)))
  show wpAny _ _ (if w.params.followText "set-order"=true then _ else _) _ _ _
  rw[if_pos hb]
  refine aa (bE (ab ?_))
  have hp:(pickOrder (w.params.setOrder d ep) es)[es.size]?=none:=by
   rw[hxs,cY]at hsx
   exact cC.mpr (Nat.le_of_eq hsx)
  show wpAny _ _ (pure (aW (fun e=>(e.2,(0:Int).toNat)) (pickOrder (w.params.setOrder d ep) es)[(es.size:Int).toNat]?)) _ _ _
  rw[bc,hp]
  refine ab ?_
  dsimp only[aW]
  refine aa (bK hoi hdi (by simp) ?_)
  have k:Heap.ExtBut it s.heap (s.heap.update it (Obj.mapFields fun x=>x.setIfInBounds 2 Value.none)):=(Heap.SameBut.update ..).extBut
  refine aa ?_
  simp only[newExc,newTuple]
  refine aa (aI ?_ (by size_fits))
  refine aa (m:=firstArgMember _ _) (cV (a:=Value.none) (by first|rfl|(simp only[firstArgMember];rfl)) ?_)
  refine aI ?_ (by size_fits)
  simp only[raiseNew]
  refine aa (dB ?_)
  first|rw[show A.in1.handled=none from hh]|rw[hh]
  refine aa (ab (wpAny_throw ?_))
  refine aa (bW (T:="StopIteration") (b:=true) ⟨_,al _ rfl,rfl⟩ isSubtype_stop ?_)
  exact ab (hQ _ fun b o hb e=>((Heap.ExtBut.refl _ _).push _ |>.push _) b o hb (k b o hb e))
 .dsimp only[rawInt]
  unfold setNext
  refine aa (aa (ce ho hd hf ?_))
  dsimp only
  unfold setsByText
  refine aa (aa (bE (ab ?_)))
  show wpAny _ _ (if w.params.followText "set-order"=true then _ else _) _ _ _
  rw[if_neg (by rw[hb];exact ak)]
  show wpAny _ _ (if(!t.plain&&decide (es.size > 1))=true then _ else _) _ _ _
  rw[if_neg (by rw[hdr];exact ak)]
  have hled:t.led=true:=by
   rcases htk with z|z
   .rw[hb]at z;cases z
   .exact z.1
  refine aa ?_
  show wpAny _ _ (if(!t.led&&!es.isEmpty)=true then _ else _) _ _ _
  rw[if_neg (by rw[hled];simp)]
  refine ab ?_
  rw[show(if es.size=0 then(0:Int)else((t.place.getD (es.size-1) 0+1:Nat):Int))=(if t.place.size=0 then(0:Int)else((t.place.getD (t.place.size-1) 0+1:Nat):Int)) by rw[hfz]]
  rw[e8' hrs (ag _),hfz]
  rw[cC.mpr (ag es.size)]
  refine ab ?_
  dsimp only
  refine aa (bK hoi hdi (by simp) ?_)
  have k:Heap.ExtBut it s.heap (s.heap.update it (Obj.mapFields fun x=>x.setIfInBounds 2 Value.none)):=(Heap.SameBut.update ..).extBut
  refine aa ?_
  simp only[newExc,newTuple]
  refine aa (aI ?_ (by size_fits))
  refine aa (m:=firstArgMember _ _) (cV (a:=Value.none) (by first|rfl|(simp only[firstArgMember];rfl)) ?_)
  refine aI ?_ (by size_fits)
  simp only[raiseNew]
  refine aa (dB ?_)
  first|rw[show A.in1.handled=none from hh]|rw[hh]
  refine aa (ab (wpAny_throw ?_))
  refine aa (bW (T:="StopIteration") (b:=true) ⟨_,al _ rfl,rfl⟩ isSubtype_stop ?_)
  exact ab (hQ _ fun b o hb e=>((Heap.ExtBut.refl _ _).push _ |>.push _) b o hb (k b o hb e))
 .dsimp only[rawInt]
  obtain⟨oT,hoT,hcT,nT,hdT⟩:=id htp
  refine aa ?_
  show wpAny _ _ (load T >>= _) _ _ _
  refine aa (wpAny_load hoT ?_)
  rw[hdT]
  refine ab ?_
  dsimp only
  have hg:(pl.map fun(j:Nat)=>rawInt j)[(es.size:Int).toNat]?=none:=by rw[bc];exact cC.mpr (by rw[cY];omega)
  rw[hg]
  dsimp only
  refine aa (bK hoi hdi (by simp) ?_)
  refine aa (bK (aP _ hoi (Obj.isFreed_of_fields (Obj.data_mapFields hdi _))) (Obj.data_mapFields hdi _) (by simp) ?_)
  have k:Heap.ExtBut it s.heap ((s.heap.update it (Obj.mapFields fun x=>x.setIfInBounds 0 (rawInt 0))).update it (Obj.mapFields fun x=>x.setIfInBounds 2 Value.none)):=fun b o hb e=>
   (Heap.SameBut.update ..).extBut b o hb ((Heap.SameBut.update ..).extBut b o hb e)
  refine aa ?_
  simp only[newExc,newTuple]
  refine aa (aI ?_ (by size_fits))
  refine aa (m:=firstArgMember _ _) (cV (a:=Value.none) (by first|rfl|(simp only[firstArgMember];rfl)) ?_)
  refine aI ?_ (by size_fits)
  simp only[raiseNew]
  refine aa (dB ?_)
  first|rw[show A.in1.handled=none from hh]|rw[hh]
  refine aa (ab (wpAny_throw ?_))
  refine aa (bW (T:="StopIteration") (b:=true) ⟨_,al _ rfl,rfl⟩ isSubtype_stop ?_)
  exact ab (hQ _ fun b o hb e=>((Heap.ExtBut.refl _ _).push _ |>.push _) b o hb (k b o hb e))
theorem gD' {α:Type}:∀(n:Nat) (l:List α) (s:Shared) (Q:List α->Shared->Prop),n=l.length->(∀l' d,l'.Perm l->Q l' { s with drawn:=d })->wpAny (model prog w) A (drawOrder n l) Q E s
 |0,l,s,Q,e,h=>by
  have:l=[]:=cW.mp e.symm
  subst this
  unfold drawOrder
  exact ab (h [] s.drawn (List.Perm.refl _))
 |n+1,[],s,Q,e,h=>by simp at e
 |n+1,x :: l,s,Q,e,h=>by
  unfold drawOrder
  have hch:∀(k:Nat->Sem (List α)),(∀i,i<(x :: l).length->∀d,wpAny (model prog w) A (k i) Q E { s with drawn:=d })->wpAny (model prog w) A (choose .order (x :: l).length >>= k) Q E s:=by
   intro k hk Γ p hΓ
   show Sem.wp _ Γ (.choose .order (x :: l).length fun i=>k i) _ _ p s
   rw[Sem.wp_choose]
   exact⟨by simp,hk _ (Nat.mod_lt _ (by simp)) _ Γ p hΓ⟩
  refine hch _ fun i hi d=>?_
  rw[ae hi]
  dsimp only
  refine aa (gD' n _ _ _ (by rw[List.length_eraseIdx_of_lt hi];omega) fun l' d' hp=>ab ?_)
  exact h _ d' ((hp.cons _).trans (fI' _ _ hi))
end
end PySem
namespace PySem
open PyProof.Rows
theorem iX' {bt:Bool} {w:World} {d ep:Nat} {es:Array (Int×Value)} {t:SetTable} {xs:Array Value} {h h':Heap} {f:Value} {i:Nat} (x:Ord bt w d ep es t xs h f i) (k:∀T,f=.ref T->∀o,h.get? T=some o->h'.get? T=some o):Ord bt w d ep es t xs h' f i:=by
 rcases x with z|z|⟨z,T,pl,e,ht,r⟩
 .exact .inl z
 .exact .inr (.inl z)
 .exact .inr (.inr ⟨z,T,pl,e,pJ' ht (k T e),r⟩)
section
variable {prog:Program} {w:World}
def rx' (w:World) (I D:Addr) (o:Obj) (TL:List Addr) (es:Array (Int×Value)) (ep:Nat) (t:SetTable) (xs:Array Value) (i:Nat) (s:Shared):Prop:=
 s.heap.get? D=some o/\∃f,s.heap.IsSti I D f i es.size ep/\Ord (w.params.followText "set-order") w D ep es t xs s.heap f i/\∀T,f=.ref T->T∈TL
theorem lo' {A:Around} (hh:A.handled=none) {I D:Addr} {o:Obj} {TL:List Addr} {es:Array (Int×Value)} {ep:Nat} {t:SetTable} {xs:Array Value} (hne:D≠I) (hTL:I∉TL) (hd:o.data=.set es ep t) (hf:t.fits es.size=true) (htk:TOk (w.params.followText "set-order") t) (hsx:xs.size=es.size):
  WalksS prog w A I (I :: D :: TL) [I] Eq es.size (fun i v=>xs[i]?=some v) (rx' w I D o TL es ep t xs) where
 sub:=fun b hb=>by simp at hb;simp[hb]
 grefl:=fun _=>rfl
 gtrans:=fun _ _ _=>Eq.trans
 frame:=fun _ _ _ _ x _ hk=>by
  obtain⟨ho,f,hi,hor,hT⟩:=x
  exact⟨hk D (by simp) o ho,f,hi.at fun o e=>hk I (by simp) o e,iX' hor fun T e o eo=>hk T (by simp[hT T e]) o eo,hT⟩
 item:=fun i s Q E hi x hQ=>by
  obtain⟨ho,f,hit,hor,hT⟩:=x
  have hx:xs[i]?=some (xs[i]'⋯):=aw ⋯
  refine n2' hit hne (fun T e z=>hTL (z ▸ hT T e)) ho hd hf htk hor hx fun h' f' hit' hs' hor' hff=>?_
  exact hQ _ _ hx ⟨(hs'.2 D hne).trans ho,f',hit',hor',fun T e=>hT T (hff T e)⟩ ⟨fun b o hb eo=>hs'.extBut b o (fun z=>hb (by simp[z])) eo,rfl,rfl,rfl,ag _⟩
 done:=fun s Q E x hQ=>by
  obtain⟨ho,f,hit,hor,hT⟩:=x
  exact rv' hh hit ho hd hf htk hor hsx fun h' he'=>hQ _ ⟨fun b o hb eo=>he' b o (fun z=>hb (by simp[z])) eo,rfl,rfl,rfl,ag _⟩
 self:=fun _ _ _ _ x hQ=>by
  obtain⟨ho,f,hit,hor,hT⟩:=x
  exact n1' hit hQ
variable {A:Around} {E:Value->Shared->Prop} {s:Shared}
theorem jJ' {D:Addr} {o:Obj} {es:Array (Int×Value)} {ep:Nat} {t:SetTable} {Q:Value->Shared->Prop} (ho:s.heap.get? D=some o) (hc:o.ExactSet) (hd:o.data=.set es ep t) (hf:t.fits es.size=true) (htk:TOk (w.params.followText "set-order") t) (hz:es.size<=sizeLine)
  (hQ:∀s' I TL xs,(∀b o,s.heap.get? b=some o->s'.heap.get? b=some o)->s'.gens=s.gens->s'.os=s.os->s.toks<=s'.toks->s.heap.objs.size<=s'.heap.objs.size->(∀b∈I :: TL,s.heap.objs.size<=b/\b<s'.heap.objs.size)->I∉TL->xs.size=es.size->xs.toList.Perm (es.toList.map (·.2))->rx' w I D o TL es ep t xs 0 s'->Q (.ref I) s'):
  wpAny (model prog w) A (pyIter (.ref D)) Q E s:=by
 have hT:s.TypeIs (.ref D) "set":=⟨o,ho,hc.1⟩
 have hlD:D<s.heap.objs.size:=au ho
 refine wpAny_pyIter_slot hT F.slot_set_iter (aO F.slot_set_iter hT F.eg' ?_ (F.args_set_iter_1 _))
 unfold Builtin.«frozenset.__iter__»
 refine aa (cV (a:=D) rfl ?_)
 dsimp only
 refine aa ?_
 unfold Builtin.Frozenset.sizeOf
 refine aa (wpAny_setEntries_of ho hd hf (ab ?_))
 unfold setDrawn
 refine aa (aa (ce ho hd hf ?_))
 dsimp only
 unfold setsByText
 refine aa (aa (bE (ab (ab ?_))))
 have tail:∀(f:Value) (s1:Shared) (TL:List Addr) (xs:Array Value) (Q':Fin->Shared->Prop),s1.heap.get? D=some o->(∀b o,s.heap.get? b=some o->s1.heap.get? b=some o)->s1.gens=s.gens->s1.os=s.os->s1.toks=s.toks->s.heap.objs.size<=s1.heap.objs.size->(∀b∈TL,s.heap.objs.size<=b/\b<s1.heap.objs.size)->
   xs.size=es.size->xs.toList.Perm (es.toList.map (·.2))->Ord (w.params.followText "set-order") w D ep es t xs s1.heap f 0->(∀T,f=.ref T->T∈TL)->
   (∀v s',Q v s'->s'.TypeIs v "set_iterator"->Q' (.done (.ret v)) s')->
   wpAny (model prog w) A.in1 (do ret (<- newFields "set_iterator" [f,rawInt 0,.ref D,rawInt es.size,rawInt (<- setEpoch D)])) Q' E s1:=by
  intro f s1 TL xs Q' h1 h2 h3 h4 h5 h6 h7 h8 h9 h10 h11 h12
  refine aa (wpAny_setEpoch_of h1 hd hf ?_)
  unfold newFields
  refine aa (aI ?_ (by size_fits))
  refine ab (h12 _ _ ?_ ⟨_,al _ rfl,rfl⟩)
  refine hQ _ s1.heap.objs.size TL xs (fun b o e=>af _ (h2 b o e)) h3 h4 (Nat.le_of_eq h5.symm) (by show _<=(s1.heap.push _).objs.size;rw[bg];exact Nat.le_succ_of_le h6) (fun b hb=>?_) (fun z=>bp _ (h7 _ z).2) h8 h9 ⟨af _ h1,f,⟨_,al _ rfl,rfl,rfl⟩,iX' h10 fun T e o eo=>af _ eo,h11⟩
  show _/\b<(s1.heap.push _).objs.size
  rw[bg]
  rcases ay.mp hb with rfl|hb
  .exact⟨h6,cF _⟩
  .exact⟨(h7 b hb).1,bB (h7 b hb).2⟩
 show wpAny _ _ (if(!(w.params.followText "set-order")&&(!t.plain&&decide (es.size > 1)))=true then _ else _) _ _ _
 cases hb:w.params.followText "set-order" with
 |true=>
  rw[if_neg (by simp)]
  refine aa (ab ?_)
  refine tail (rawInt 0) s [] ((pickOrder (w.params.setOrder D ep) es).map (·.2)) _ ho (fun _ _ e=>e) rfl rfl rfl (ag _) (fun b z=>nomatch z) ?_ ?_ ?_ (fun T z=>nomatch z) fun v s' q ty=>⟨_,rfl,"set_iterator",_,ty,F.aB'.lookup,q⟩
  .rw[cY,<- ai,(gC' _ _).length_eq,ai]
  .rw[Array.toList_map]
   exact(gC' _ _).map _
  .rw[hb]
   exact .inl ⟨rfl,rfl,rfl⟩
 |false=>
  cases hdr:(!t.plain&&decide (es.size > 1))with
  |false=>
   rw[if_neg (by simp)]
   refine aa (ab ?_)
   refine tail (rawInt 0) s [] (es.map (·.2)) _ ho (fun _ _ e=>e) rfl rfl rfl (ag _) (fun b z=>nomatch z) ?_ ?_ ?_ (fun T z=>nomatch z) fun v s' q ty=>⟨_,rfl,"set_iterator",_,ty,F.aB'.lookup,q⟩
   .rw[cY]
   .rw[Array.toList_map]
   .rw[hb]
    refine .inr (.inl ⟨rfl,hdr,?_,rfl,rfl⟩)
    rcases htk with z|z
    .rw[hb]at z;cases z
    .exact z.2
  |true=>
   rw[if_pos (by simp)]
   refine aa (gD' _ _ _ _ (by simp) fun l' d hp=>?_)
   unfold newTuple
   refine aa ?_
   refine aI ?_ (by show(List.map _ l').toArray.size<=_;rw[ap,ac,hp.length_eq,bf];exact hz)
   have hin:∀p∈l',p<es.size:=fun p z=>aK.mp (hp.mem_iff.mp z)
   have hln:l'.length=es.size:=by rw[hp.length_eq,bf]
   let xs:List Value:=l'.map fun p=>(es.getD p (0,.none)).2
   refine tail (.ref s.heap.objs.size) _ [s.heap.objs.size] xs.toArray _ (af _ ho) (fun _ _ e=>af _ e) rfl rfl rfl ?_ (fun b z=>?_) ?_ ?_ ?_ (fun T z=>by injection z with z;simp[z]) fun v s' q ty=>⟨_,rfl,"set_iterator",_,ty,F.aB'.lookup,q⟩
   .show _<=(s.heap.push _).objs.size
    rw[bg]
    exact Nat.le_succ _
   .rw[aV]at z
    subst z
    show _/\_<(s.heap.push _).objs.size
    rw[bg]
    exact⟨ag _,cF _⟩
   .rw[ap,ac,hln]
   .show(l'.map fun p=>(es.getD p (0,.none)).2).Perm _
    refine(hp.map _).trans (List.Perm.of_eq ?_)
    apply bA
    intro j
    rw[ao,ao]
    by_cases hj:j<es.size
    .rw[ci hj,ae (show j<es.toList.length by rw[ai];exact hj)]
     simp[Array.getD,hj]
    .rw[aU (by simpa using hj),aU (by rw[ai];omega)]
     rfl
   .rw[hb]
    refine .inr (.inr ⟨rfl,s.heap.objs.size,l'.toArray,rfl,⟨_,al _ rfl,rfl,0,?_⟩,?_,fun j p e=>?_⟩)
    .show Data.seq _ _=_
     congr 1
     simp
    .rw[ap,ap,ac]
    .rw[List.getElem?_toArray]at e
     have hp':=hin p (aq e)
     refine⟨_,aw hp',?_⟩
     rw[List.getElem?_toArray]
     show(List.map _ l')[j]?=_
     rw[ao,e]
     simp[Array.getD,hp']
theorem fJ' {D:Addr} {o:Obj} {es:Array (Int×Value)} {ep:Nat} {t:SetTable} {Q:List Value->Shared->Prop} (hh:A.handled=none) (ho:s.heap.get? D=some o) (hc:o.ExactSet) (hd:o.data=.set es ep t) (hf:t.fits es.size=true) (htk:TOk (w.params.followText "set-order") t) (hz:es.size<=sizeLine)
  (hQ:∀s' xs,(∀b o,s.heap.get? b=some o->s'.heap.get? b=some o)->s'.gens=s.gens->s'.os=s.os->s.toks<=s'.toks->s.heap.objs.size<=s'.heap.objs.size->xs.Perm (es.toList.map (·.2))->Q xs s'):wpAny (model prog w) A (collect (.ref D)) Q E s:=by
 have hlD:D<s.heap.objs.size:=au ho
 have hSD:s.heap.objs.size≠D:=bC hlD
 unfold collect
 refine aa (wpAny_runValue (codeAny_builtin F.entry_proto_collect ?_))
 rw[Around.under_plainId F.plain_proto_collect _]
 show wpAny _ A.in1 (newList [] >>= fun l=>again (.builtin "list.__iadd__" ⟨[l,.ref D],[]⟩)) _ _ s
 refine aa (aI ?_)
 refine ab ⟨plainId_quiet F.plain_list_iadd _,codeAny_builtin F.entry_list_iadd ?_⟩
 rw[Around.under_plainId F.plain_list_iadd _]
 generalize hlo:({ cls:=.type "list",data:=.seq ([]:List Value).toArray }:Obj)=lo
 have hT1:Shared.TypeIs { s with heap:=s.heap.push lo } (.ref D) "set":=⟨o,af _ ho,hc.1⟩
 have hS1:(s.heap.push lo).get? s.heap.objs.size=some lo:=al _ (by rw[<- hlo];rfl)
 have h1:Builtin.List.listSameRef (.ref s.heap.objs.size) (.ref D)=false:=by simp[Builtin.List.listSameRef,hSD]
 show wpAny _ A.in1 (Builtin.List.listExtendWith (.ref s.heap.objs.size) (.ref D) (.ref s.heap.objs.size)) _ _ _
 unfold Builtin.List.listExtendWith
 refine aa (dw hT1 ?_)
 rw[if_neg (by rw[h1];decide)]
 refine aa (jJ' (s:={ s with heap:=s.heap.push lo }) (af _ ho) hc hd hf htk hz fun s1 I TL xs k1 k2 k3 k4 k5 k6 k7 k8 k9 k10=>?_)
 have hT2:s1.TypeIs (.ref D) "set":=⟨o,k1 D o (af _ ho),hc.1⟩
 refine aa (aH ?_)
 unfold Builtin.List.listLengthHint
 refine aa (wpAny_specialOf hT2 F.slot_set_len.lookup ?_)
 dsimp only
 (generalize hid:("set.__len__":String)=id0;(fail_if_success (clear hid id0));rw[show splitId id0=some ("set","__len__") from by subst hid;decide +kernel];subst hid)
 dsimp only
 refine aa (bW (b:=true) hT2 (by rw[isSubtype_type];kernel_rfl) ?_)
 rw[if_neg (by decide),if_pos ⋯]
 refine aa (dw hT2 (ab ?_))
 rw[if_pos (by decide)]
 refine aa (bR ?_)
 refine aa ?_
 have hSs:s1.heap.get? s.heap.objs.size=some lo:=k1 _ _ hS1
 have hsq:lo.data=.seq #[] 0:=by rw[<- hlo]
 have hsz1:(s.heap.push lo).objs.size=s.heap.objs.size+1:=bg ..
 show wpAny _ A.in1 (updateSeq s.heap.objs.size (·.push .none) >>= fun _=>updateSeq s.heap.objs.size (·.pop)) _ _ _
 refine aa (wpAny_updateSeq hSs hsq ?_)
 have hS2:=aP (Obj.mapSeq (·.push Value.none)) hSs (by rw[<- hlo];rfl)
 refine wpAny_updateSeq hS2 (by rw[<- hlo];rfl) ?_
 have hS3:=aP (Obj.mapSeq (·.pop)) hS2 (by rw[<- hlo];rfl)
 have oth:∀b o,b≠s.heap.objs.size->s1.heap.get? b=some o->((s1.heap.update s.heap.objs.size (Obj.mapSeq (·.push Value.none))).update s.heap.objs.size (Obj.mapSeq (·.pop))).get? b=some o:=
  fun b o hb e=>(cZ _ _ (Ne.symm hb)).trans ((cZ _ _ (Ne.symm hb)).trans e)
 have k6':∀b∈I :: TL,s.heap.objs.size<b:=fun b hb=>by
  have:=(k6 b hb).1
  rw[show(Shared.heap { s with heap:=s.heap.push lo }).objs.size=s.heap.objs.size+1 from hsz1]at this
  exact this
 have hID:D≠I:=fun e=>bp _ (Nat.lt_trans hlD (e ▸ k6' I (by simp)))
 have hfp:s.heap.objs.size∉I :: D :: TL:=fun hm=>by
  have big:∀b∈I :: TL,s.heap.objs.size≠b:=fun b hb e=>bp _ (e ▸ k6' b hb)
  simp only[ay]at hm
  rcases hm with e|e|e
  .exact big I (by simp) e
  .exact hSD e
  .exact big _ (aC _ e) rfl
 have W:WalksS prog w A.in1 I (I :: D :: TL) [I] Eq es.size (fun i v=>xs[i]?=some v) (rx' w I D o TL es ep t xs):=lo' (A:=A.in1) hh hID k7 hd hf htk k8
 have k11:=W.frame 0 s1 _ s1.toks k10 (ag _) fun b hb o e=>oth b o (fun z=>hfp (z ▸ hb)) e
 refine ab ⟨plainId_quiet F.plain_extend_loop _,codeAny_extend_loopS W hz _ hfp _ es.size 0 _ _ _ rfl (aT _) k11 (by rw[hS3,<- hlo];rfl) (ItemsOf.nil _) fun s' acc' c' hm hS' hacc=>?_⟩
 show wpAny _ A (load s.heap.objs.size >>= _) _ _ s'
 refine aa (wpAny_load hS' (ab ?_))
 have eacc:acc'.toList=xs.toList:=by
  obtain⟨hl,hp⟩:=hacc
  apply bA
  intro j
  by_cases hj:j<es.size
  .have h2:acc'[j]?=some (acc'[j]'⋯):=aw ⋯
   rw[cc,cc,h2,<- hp j _ h2]
  .rw[aU (by rw[ai];omega),aU (by rw[ai];omega)]
 have hlt:s.heap.objs.size<s'.heap.objs.size:=au hS'
 refine hQ s' _ (fun b o e=>?_) ?_ ?_ ?_ (bP hlt) (by rw[eacc];exact k9)
 .have hb:b≠s.heap.objs.size:=aA (au e)
  refine hm.heap b o ?_ (oth b o hb (k1 b o (af _ e)))
  simp only[ay,aB,or_false,not_or]
  refine⟨hb,fun z=>?_⟩
  exact bp _ (Nat.lt_trans (au e) (z ▸ k6' I (by simp)))
 .have:=hm.gens;exact this.symm.trans k2
 .exact hm.os.trans k3
 .exact aF k4 hm.toks
end
end PySem
namespace L2
open PySem PySem.Spec PyProof.Rows
def y0' (neg:Bool) (ty td:TE):TE:=fun σ H Q=>ty σ H fun y H1=>td σ H1 fun x H2=>(∃a o,x=.ref a/\f7' H2 a y o/\Q (.bl (if neg then !o.isSome else o.isSome)) H2)\/x9' neg y x H2 Q\/yc' neg y x H2 Q
def lp' (td ty:TE):TE:=fun σ H Q=>td σ H fun x H1=>∃a,x=.ref a/\IsD H1 a/\ty σ H1 fun y H2=>(∃o,f7' H2 a y o/\Q (o.getD .non) H2)\/(y=.non/\NoN H2 a/\Q .non H2)
section
variable {X:Cx} {o e f i:Expr} {apos cpos:Pos} {td ty tx:TE}
theorem pQ' (hu:X.A.units+1<cLine) (hi:PE X i ty) (ho:PE X o td):PC X .In i o (y0' false ty td):=by
 intro p_ s σ H Q I h
 refine thn (hi p_ s σ H _ I h) fun iv s1 ⟨y,H1,I1,ry,q1⟩=>thn (ho p_ s1 σ H1 _ I1 q1) fun u s2 ⟨x,H2,I2,rx,q2⟩=>?_
 rcases q2 with⟨a,ov,ex,g,q2⟩|q2|q2
 .subst ex
  obtain rfl:u=Value.ref a:=rx
  exact Bs' hu I2 g ry fun s3 I3=>⟨.bl ov.isSome,H2,I3,rfl,q2⟩
 .exact uT' p_ s2 σ H2 y x iv u Q I2 ry rx q2
 .exact u3' hu p_ s2 σ H2 y x iv u Q I2 ry rx q2
theorem gE' (hu:X.A.units+1<cLine) (hi:PE X i ty) (ho:PE X o td):PC X .NotIn i o (y0' true ty td):=by
 intro p_ s σ H Q I h
 refine thn (hi p_ s σ H _ I h) fun iv s1 ⟨y,H1,I1,ry,q1⟩=>thn (ho p_ s1 σ H1 _ I1 q1) fun u s2 ⟨x,H2,I2,rx,q2⟩=>?_
 rcases q2 with⟨a,ov,ex,g,q2⟩|q2|q2
 .subst ex
  obtain rfl:u=Value.ref a:=rx
  exact q4' hu I2 g ry fun s3 I3=>⟨.bl (!ov.isSome),H2,I3,rfl,q2⟩
 .exact kT' p_ s2 σ H2 y x iv u Q I2 ry rx q2
 .exact lc' hu p_ s2 σ H2 y x iv u Q I2 ry rx q2
theorem n3' (hu:X.A.units+1<cLine) (ho:PE X o td) (he:PE X e ty) (m:M1 X o "get" apos e cpos):PE X (.Call (.Attribute o "get" apos) [e] [] cpos) (lp' td ty):=by
 intro p_ s σ H Q I h
 refine wpAny_Call_method m.base m.few m.line PySem.F.plainAttrs_dict PySem.F.slot_dict_get PySem.F.type_dict_get (thn (ho p_ s σ H _ I h) fun u s1 ⟨x,H1,I1,rx,a,ex,d,q1⟩=>?_)
 subst ex
 obtain rfl:u=Value.ref a:=rx
 obtain⟨t1,t2,_⟩:=us' I1 d
 refine⟨t1,t2,?_⟩
 rw[m.trees]
 refine Calls.callWith_builtin rfl (Calls.evalArgs_plain (Calls.spliced_cons (thn (he p_ s1 σ H1 _ I1 q1) fun iv s2 ⟨y,H2,I2,ry,q2⟩=>Calls.spliced_nil ?_)))
 rcases q2 with⟨ov,g,q2⟩|⟨ey,g,q2⟩
 .exact ut' hu I2 g ry fun w' s3 I3 rw'=>⟨_,H2,I3,rw',q2⟩
 .subst ey
  obtain rfl:iv=Value.none:=ry
  exact uU' I2 g fun s3 I3=>⟨.non,H2,I3,rfl,q2⟩
end
abbrev u9' (own:List Nat) (wi:TI) (g:TG) (tc:TT) (as':TL ((Option Int->Bool)×Nat)):TE:=dC' own wi g tc as' (fun _=>false,0) (fun p a=>eP' p a.1 a.2) fun _ _=>True
abbrev va' (own:List Nat) (wi:TI) (g:TG) (tc:TT) (tk tv:TE):TE:=dC' own wi g tc (iQ' tk tv) [] (fun _ a=>.dK a) fun _ _=>True
abbrev vb' (own:List Nat) (wi:TI) (g:TG) (tc:TT) (tk tv:TE):TE:=dC' own wi g tc (iR' tk tv) [] (fun _ a=>.dT (plT a)) okT
section
variable {X:Cx} {e:Expr} {scope:Scope} {tg iter:Expr} {ifs:List Expr} {nx:Addr->Env->Sem Unit} {g:TG} {tc:TT} {own:List Nat} {wi:TI}
theorem ry' {P:Program} {w:World} (a:(Option Int->Bool)×Nat) (o:Obj) (D:Addr) (H:Hp) (h:Heap) (i:IsS a o) (e:h.get? D=some o) (_:(D == sysModules)=false) (_:H D=none) (_:True) (_:HOk P w H h):aA' P w (upd H D (eP' D a.1 a.2)) h D (eP' D a.1 a.2):=kR' e i
theorem rz' {α:Type} {Is:α->Obj->Prop} {as':TL α} {a0:α} {o0:Bool->Obj} {newAcc:Sem Value} {ho:Addr->α->HO} {ok:α->Hp->Prop} {i:Nat} {y:Str} {py pos pos2:Pos}
  (hnew:∀(s:Shared) (Q:Value->Shared->Prop),(∀led,Q (.ref s.heap.objs.size) { s with heap:=s.heap.push (o0 led) })->wpAny (model X.prog X.w) X.A newAcc Q X.xe s) (hfr:∀led,(o0 led).isFreed=false) (ha0:∀led,Is a0 (o0 led)) (hda:∀(a:α) (o:Obj),Is a o->∀v:Option Value,o.data≠.cell v)
  (hfin:∀(a:α) (o:Obj) (D:Addr) (H:Hp) (h:Heap),Is a o->h.get? D=some o->(D == sysModules)=false->H D=none->ok a H->HOk X.prog X.w H h->aA' X.prog X.w (upd H D (ho D a)) h D (ho D a))
  (C:CompInG Is X e scope tg iter ifs nx g tc as' own) (hi:PI X tg iter wi) (hN:X.N.Nodup) (hy:X.N[i]?=some y) (hx:Loc X.env.scope y) (hf:X.fn y=true\/X.env.scope.names.lookup y=some .local)
  (hG:PG X (.Name y py) (cQ' i))
  (he:eval e X.env=comprehension e scope X.env pos2 newAcc false (eval iter X.env))
  (he2:evalThenUse e X.env (assign (.Name y py) X.env)=(do let _ <- comprehension e scope X.env pos2 newAcc false (eval iter X.env) (some (assign (.Name y py) X.env))))
  (hsw:∃b,swapsWith e (some (.Name y py)) pos.line X.env=pure b):PS X (.Assign [.Name y py] e pos) (j9' (dC' own wi g tc as' a0 ho ok) (cQ' i)):=by
 obtain⟨b,hb⟩:=hsw
 cases b with
 |true=>exact hQ' hnew hfr ha0 hda hfin C hi hN hy hx hf he2 hb
 |false=>exact iJ' (nP' hnew hfr ha0 hda hfin C hi he) hG hb rfl
end
def iOf:Value->Int
 | .int i _=>i
 |_=>0
theorem lq':∀{vs:List Value},(∀v∈vs,∃i t,v=.int i t)->IntsAre vs (vs.map iOf)
 | [],_=>.nil
 |v :: vs,h=>by
  obtain⟨i,t,rfl⟩:=h v (by simp)
  exact .cons i t (lq' fun v hv=>h v (by simp[hv]))
theorem dD':∀{ns:List Int} {us:List Value},IntsAre us ns->ay' (ns.map V.int) us
 |_,_,.nil=>.nil
 |_,_,.cons y t r=>.cons ⟨t,rfl⟩ (dD' r)
theorem rA':∀{l b:List Int},l.Nodup->(∀i∈l,i∈b)->l.length<=b.length
 | [],_,_,_=>aT _
 |a :: l,b,h,hs=>by
  have ha:a∈b:=hs a (by simp)
  have:=rA' (l:=l) (b:=b.erase a) (bx.mp h).2 fun i hi=>by
   have hne:i≠a:=fun e=>(bx.mp h).1 (by rw[<- e];exact hi)
   exact(List.mem_erase_of_ne hne).mpr (hs i (by simp[hi]))
  rw[List.length_erase_of_mem ha]at this
  have:=da ha
  rw[bb]
  omega
section
variable {prog:Program} {w:World} {A:Around} {E:Value->Shared->Prop} {s:Shared}
theorem gF' {D:Addr} {o:Obj} {S:Option Int->Bool} {n:Nat} {Q:Value->Shared->Prop} (hh:A.handled=none) (ho:s.heap.get? D=some o) (hS:o.SetIt (gp' prog w) S n) (hno:S none=false) (h64:∃b:List Int,b.length<64/\∀i,S (some i)=true->i∈b)
  (h:∀(s':Shared) (l:Addr) (us:List Int) (vs:Array Value) (e:Nat),(∀b o,s.heap.get? b=some o->s'.heap.get? b=some o)->s'.gens=s.gens->s'.os=s.os->s.heap.objs.size<=l->s'.heap.get? l=some (seqObj "list" vs e)->IntsAre vs.toList us->us.Pairwise (· < ·)->(∀i,i∈us↔S (some i)=true)->us.length=n->Q (.ref l) s'):
  wpAny (model prog w) A (call (.builtin "sorted") [.ref D]) Q E s:=by
 obtain⟨es,ep,t,hex,hd,hel,hmem,hb,hf,hn,hdst,htk⟩:=hS
 refine Calls.call_function_entry kind_sorted plain_sorted entry_sorted (args_sorted1 _) ?_
 unfold Builtin.«sorted»
 refine aa (m:=checkCount "sorted" 1 1 _) (ab (aa (fJ' (A:=A.in1) hh ho hex hd hf htk (fits_of_scanBound hb) fun s1 xs k1 k2 k3 k4 k5 k6=>aa (wpAny_newList ?_ (by rw[k6.length_eq,ac,ai];exact fits_of_scanBound hb)))))
 have hint:∀e∈es.toList,∃i t,e.2=.int i t/\S (some i)=true:=by
  intro e he
  obtain⟨⟨k,hk,_⟩,_⟩:=hel e he
  have hSk:=(hmem k).mpr ⟨e,he,hk⟩
  rcases aO' hk with⟨i,t,rfl,q⟩|⟨rfl,_⟩
  .exact⟨i,t,q,hSk⟩
  .rw[hno]at hSk;cases hSk
 have hxi:∀v∈xs,∃i t,v=.int i t:=by
  intro v hv
  obtain⟨e,he,rfl⟩:=az.mp (k6.mem_iff.mp hv)
  obtain⟨i,t,q,_⟩:=hint e he
  exact⟨i,t,q⟩
 have hI:=lq' hxi
 have hln:xs.length=n:=by rw[k6.length_eq,ac,ai,hn]
 have hnd:(xs.map iOf).Nodup:=by
  have h1:(es.toList.map (·.2)).Pairwise fun a b=>iOf a≠iOf b:=by
   rw[bF]
   refine List.Pairwise.imp_of_mem (fun {a b} ha hb' z q=>?_) hdst
   obtain⟨i,t,e1,_⟩:=hint a ha
   obtain⟨j,u,e2,_⟩:=hint b hb'
   rw[e1,e2]at q
   have q':i=j:=q
   subst q'
   exact z (some i) (by rw[e1];show Value.isInt i (.int i t)=true;simp[Value.isInt]) (by rw[e2];show Value.isInt i (.int i u)=true;simp[Value.isInt])
  rw[List.Nodup,bF]
  exact(List.Perm.pairwise_iff (fun {a b} z=>Ne.symm z) k6).mpr h1
 have hxl:xs.length<64:=by
  obtain⟨b,hb1,hb2⟩:=h64
  have:=rA' (b:=b) hnd fun i hi=>by
   obtain⟨v,hv,rfl⟩:=az.mp hi
   obtain⟨e,he,rfl⟩:=az.mp (k6.mem_iff.mp hv)
   obtain⟨i,t,q,z⟩:=hint e he
   rw[q]
   exact hb2 i z
  rw[ac]at this
  omega
 have hoL:(s1.heap.push (seqObj "list" xs.toArray 0)).get? s1.heap.objs.size=some (seqObj "list" xs.toArray 0):=al _ rfl
 refine aa (aH (aO slot_list_sort ⟨_,hoL,rfl⟩ entry_list_sort (list_sort_tree hoL hI hxl fun out us a1 a2 a3=>⟨_,rfl,ab ⟨_,rfl,?_⟩⟩) (args_list_sort _)))
 obtain⟨e',he'⟩:=sortedHeap_at (out:=out) hoL
 refine h _ s1.heap.objs.size us out e' (fun b o eb=>?_) k2 k3 k5 he' a1 ?_ (fun i=>?_) (by rw[a2.length_eq,ac,hln])
 .have hlt:=au (k1 b o eb)
  rw[sortedHeap_old (aA hlt) (by rw[size_push'];exact bB hlt)]
  exact af _ (k1 b o eb)
 .have hn2:us.Nodup:=a2.nodup_iff.mpr hnd
  exact(List.Pairwise.and a3 hn2).imp fun {a b} z=>by
   have:=z.1
   have:=z.2
   omega
 .rw[a2.mem_iff,az]
  constructor
  .rintro⟨v,hv,rfl⟩
   obtain⟨e,he,rfl⟩:=az.mp (k6.mem_iff.mp hv)
   obtain⟨i,t,q,z⟩:=hint e he
   rw[q]
   exact z
  .intro z
   obtain⟨e,he,hk⟩:=(hmem (some i)).mp z
   obtain⟨u,eu⟩:=Value.isInt_shape hk
   exact⟨e.2,k6.mem_iff.mpr (List.mem_map_of_mem he),by rw[eu];rfl⟩
end
section
variable {X:Cx}
theorem Inv.other {p_:List (Addr×Obj)} {σ:List (Option V)} {H:Hp} {s s':Shared} (I:Inv X p_ σ H s) (h1:s'.heap=s.heap) (h2:s'.gens=s.gens) (h3:s'.os=s.os):Inv X p_ σ H s':=by
 obtain⟨hp,g,d,t,os⟩:=s'
 cases h1;cases h2;cases h3
 exact⟨I.ok,I.os,I.bare,I.base,I.loc,I.cell,I.free,I.freeC,I.pin,I.hok,I.len⟩
theorem Inv.ints {p_:List (Addr×Obj)} {σ:List (Option V)} {H:Hp} {s s':Shared} {l:Addr} {us:List Int} {vs:Array Value} {e:Nat} (I:Inv X p_ σ H s) (k1:∀b o,s.heap.get? b=some o->s'.heap.get? b=some o) (k2:s'.gens=s.gens) (k3:s'.os=s.os) (k4:s.heap.objs.size<=l) (k5:s'.heap.get? l=some (seqObj "list" vs e)) (k6:IntsAre vs.toList us) (k7:us.length<=sizeLine):
  Inv X p_ σ (upd H l (.lst (us.map V.int))) s':=by
 have J:=I.laid (a:=l) (o:=.lst (us.map V.int)) (h':=s'.heap) (t':=s.toks) k1 k4 ⟨by rw[ac];exact k7,vs.toList,e,dD' k6,by rw[k5]⟩
 exact J.other rfl k2 k3
def yd' (P:Program) (w:World) (a:(Option Int->Bool)×Nat) (o:Obj):Prop:=a.2<=4000/\∃m,m<=a.2/\o.SetIt (gp' P w) a.1 m
theorem gG' {P:Program} {w:World} (a:(Option Int->Bool)×Nat) (o:Obj) (h:yd' P w a o) (v:Option Value):o.data≠.cell v:=by
 obtain⟨_,m,_,es,ep,t,_,hd,_⟩:=h
 rw[hd]
 exact fun z=>nomatch z
theorem lr' {D:Addr} {elt:Expr} {te:TE} (hxe:X.xe=fun _ _=>False) (he:PE X elt te):bO' X D (yd' X.prog X.w) [] (do let v <- eval elt X.env;standAt elt.pos;let _ <- call (.builtin "set.add") [.ref D,v]) (cZ' te):=by
 intro p_ s σ H a o N I hD ho hi hq
 have I1:Inv X (p_++bz' [D] s.heap) σ H s:=I.pinned (fun b hb=>by
  have e:b=D:=by simpa using hb
  subst e
  exact hD) (fun b hb=>by
  have e:b=D:=by simpa using hb
  subst e
  exact⟨o,ho,gG' _ _ hi⟩)
 have h1:=he _ s σ H _ I1 hq
 rw[hxe]at h1
 refine aa (thn h1 fun u s1 ⟨v,H1,J1,r1,k,ek,z1,n1⟩=>?_)
 subst ek
 have q1:=J1.pin (D,o) (aj _ (aj _ (az' (by simp) ho)))
 obtain⟨hn,m,hm,hS⟩:=hi
 refine aa (cn (aa (jI' (gq' r1).1 (gq' (P:=X.prog) (w:=X.w) r1).2 q1.1 hS (bQ (Nat.succ_le_of_lt (bQ hm z1)) (by decide)) fun h' o' hs ho' hS'=>?_)))
 obtain⟨_,f1,f2,f3,f4,f5⟩:=hD
 have J2:Inv X p_ σ H1 { s1 with heap:=h',toks:=s1.toks+1 }:=J1.unpinned.turned (it:=D) (t':=s1.toks+1) (fun b o hb e=>(hs.2 b hb).trans e) q1.2.1 f1 f3 f4 f5
 exact ab ⟨σ,_,o',H1,J2,Ext.refl,ho',⟨by show a.2+1<=4000;omega,_,by show _<=a.2+1;split<;>omega,hS'⟩,q1.2.1,n1⟩
def y1' (Q:VK) (a:(Option Int->Bool)×Nat) (H2:Hp):Prop:=a.1 none=false/\(∃b:List Int,b.length<64/\∀i,a.1 (some i)=true->i∈b)/\∀(l:Addr) (us:List Int),H2 l=none->us.Pairwise (· < ·)->(∀i:Int,i∈us↔a.1 (some i)=true)->Q (.ref l) (upd H2 l (.lst (us.map V.int)))
def y2' (own:List Nat) (wi:TI) (g:TG) (tc:TT) (as':TL ((Option Int->Bool)×Nat)):TE:=fun σ H Q=>dC' own wi g tc as' (fun _=>false,0) (fun p a=>eP' p a.1 a.2) (y1' Q) σ H fun _ _=>True
variable {e:Expr} {scope:Scope} {tg iter:Expr} {ifs:List Expr} {nx:Addr->Env->Sem Unit} {g:TG} {tc:TT} {as':TL ((Option Int->Bool)×Nat)} {own:List Nat} {wi:TI}
theorem vc' {p pos pos2:Pos} (hg1:Gl X "sorted") (hm1:X.mg "sorted"=none) (C:CompInG (yd' X.prog X.w) X e scope tg iter ifs nx g tc as' own) (hi:PI X tg iter wi) (he:eval e X.env=comprehension e scope X.env pos2 (newSet (.type "set")) false (eval iter X.env)) (hs:starEach [e] X.env=[(false,eval e X.env)]):
  PE X (.Call (.Name "sorted" p) [e] [] pos) (y2' own wi g tc as'):=by
 intro p_ s σ H Q I hw
 refine wpAny_Call_Name_kw (eZ' I hg1 hm1 (u:=.builtin "sorted") rfl ?_)
 refine PyProof.Rows.callWith_builtin1 ?_ (by rw[hs];rfl) rfl
 rw[hs]
 show wpAny _ _ (spliced [(false,eval e X.env)]) _ _ s
 refine Calls.spliced_cons ?_
 rw[he]
 refine thn (d7' (o0:=fun _=>fH' (!(X.w.params.followText "set-order"))) (Q:=fun v s'=>∃D a o H',v=.ref D/\Inv X p_ σ H' s'/\s'.heap.get? D=some o/\yd' X.prog X.w a o/\y1' Q a H') (fun s Q h=>lm' (h true)) (fun _=>rfl) (fun _=>⟨aT _,0,ag _,h5'⟩) gG' C hi I hw fun s3 s' H0 H' ex D xs o σ' I3 hex J e' hlt h0 fD sy is' n' hok' hR=>?_) fun v s' ⟨D,a,o,H',ev,J,ho,hi',hok⟩=>Calls.spliced_nil ?_
 .obtain⟨m,hn,_⟩:=J.loc
  refine⟨m,hn,fun h' hs=>?_⟩
  have neC:D≠s3.heap.objs.size:=aA hlt
  exact⟨D,xs,o,H',rfl,cW' I3 hex J hs,(hs.2 D neC).trans e',is',hok'⟩
 .subst ev
  obtain⟨hn,m,hm,hS⟩:=hi'
  obtain⟨q1,q2,q3⟩:=hok
  refine gF' (I.ok.hd C.calm) ho hS q1 q2 fun s'' l us vs e' k1 k2 k3 k4 k5 k6 k7 k8 k9=>?_
  exact⟨.ref l,_,J.ints (s':=s'') k1 k2 k3 k4 k5 k6 (by rw[k9];exact aF hm (aF hn (by decide))),rfl,q3 l us (J.hok.fresh k4) k7 k8⟩
end
section
variable {prog:Program} {w:World} {A:Around} {E:Value->Shared->Prop} {s:Shared} {b0:Array Keyed} {κ:SortKind}
def UpK (prog:Program) (w:World) (A:Around) (s:Shared) (κ:SortKind) (b0:Array Keyed):Prop:=
 ∀i x y,1<=i->b0[i]?=some x->b0[i-1]?=some y->∀(E':Value->Shared->Prop) (Q':Bool->Shared->Prop),Q' false s->wpAny (model prog w) A (keyLt' κ x.1 y.1) Q' E' s
theorem y3' {st:SortSt} {i j:Nat} {x y:Keyed} {c:Bool} {Q:Option Bool->SortSt->Prop} (hi:(arrOf st)[i]?=some x) (hj:(arrOf st)[j]?=some y)
  (hc:∀(E':Value->Shared->Prop) (Q':Bool->Shared->Prop),Q' c s->wpAny (model prog w) A (keyLt' (kindOf st) x.1 y.1) Q' E' s) (h:Q (some c) st):wpS (model prog w) A E s (ltAt' i j) Q st:=by
 rw[ltAt'_eq]
 refine wpS_bind (wpS_get ?_)
 show wpS _ _ _ _ (do let x <- elem' (arrOf st) i;let y <- elem' (arrOf st) j;lt' x y) Q st
 rw[elem'_eq,elem'_eq,hi,hj]
 refine wpS_bind (wpS_pure (wpS_bind (wpS_pure ?_)))
 rw[lt'_eq]
 refine wpS_bind (wpS_get ?_)
 refine wpS_bind (wpS_lift (cw (hc _ _ ⟨rfl,?_⟩)))
 exact wpS_pure h
theorem vd' {st:SortSt} {Q:AscSt->SortSt->Prop} (hu:UpK prog w A s (kindOf st) (arrOf st)) (h1:1<=(arrOf st).size) (h:Q (none,(arrOf st).size) st):wpS (model prog w) A E s (ascLoop 1 (arrOf st).size) Q st:=by
 unfold ascLoop
 refine wpS_forRange (I:=fun x c st'=>c=(none,x)/\st'=st) (Q:=Q) ?_ ?_ ⟨rfl,rfl⟩
 .rintro i c st' hi1 h2 ⟨rfl,rfl⟩
  refine wpS_bind (y3' (x:=(arrOf st')[i]) (y:=(arrOf st')[i-1]) (c:=false) (aw h2) (aw ⋯) (hu i _ _ hi1 (aw h2) (aw ⋯)) ?_)
  exact wpS_pure ⟨rfl,rfl⟩
 .rintro c st' ⟨rfl,rfl⟩
  rw[Nat.max_eq_right h1]
  exact h
theorem n4' {st:SortSt} {Q:Option Nat->SortSt->Prop} (hu:UpK prog w A s (kindOf st) (arrOf st)) (h1:1<=(arrOf st).size) (h:Q (some (arrOf st).size) st):wpS (model prog w) A E s (countRun' 0 (arrOf st).size) Q st:=by
 rw[countRun0_eq]
 refine wpS_bind (vd' hu h1 ?_)
 dsimp only
 rw[if_pos (by simp)]
 exact wpS_pure h
theorem rB' {st:SortSt} {Q:Unit->SortSt->Prop} (hu:UpK prog w A s (kindOf st) b0) (ha:arrOf st=b0) (hp:pendingOf st=#[]) (hf:failedOf st=none) (h2:2<=b0.size)
  (h:∀st',arrOf st'=b0->failedOf st'=none->Q () st'):wpS (model prog w) A E s sortRuns' Q st:=by
 rw[sortRuns'_eq]
 refine wpS_bind (wpS_get ?_)
 dsimp only
 have hm:minRun' b0.size b0.size 0<=b0.size:=rh'
 rw[ha]
 generalize minRun' b0.size b0.size 0=mr at hm
 refine wpS_bind (wpS_mono (wpS_forRange (I:=fun x c st'=>(x=0/\c=(none,0)/\st'=st)\/(1<=x/\c=(none,b0.size)/\uO' b0 st')) (Q:=fun c st'=>c=(none,b0.size)/\uO' b0 st') ?go ?out (.inl ⟨rfl,rfl,rfl⟩)) ?then_)
 case out=>
  rintro c st' (⟨z,_,_⟩|⟨_,e,W⟩)
  .omega
  .exact⟨e,W⟩
 case go=>
  rintro x c st' _ _ (⟨rfl,rfl,rfl⟩|⟨_,rfl,W⟩)
  .dsimp only
   rw[if_neg ⋯]
   simp only[Nat.sub_zero,Nat.zero_add]
   subst ha
   refine wpS_bind (n4' hu ⋯ ?_)
   dsimp only
   rw[if_neg ⋯]
   refine wpS_bind (wpS_get ?_)
   have e:(pendingOf st').back?=none:=by rw[hp];rfl
   rw[e]
   dsimp only
   refine wpS_bind (wpS_modify (wpS_pure (.inr ⟨⋯,rfl,rfl,hf,?_⟩)))
   show(pendingOf st').push _=_
   rw[hp];rfl
  .dsimp only
   rw[if_pos (ag _)]
   exact wpS_pure ⟨rfl,W⟩
 case then_=>
  rintro c st' ⟨rfl,W⟩
  dsimp only
  refine wpS_bind (wpS_mono (wpS_forRange (I:=fun _ c t=>t=st'/\c=(none,())) (Q:=fun c t=>t=st'/\c=(none,())) ?_ (fun _ _ z=>z) ⟨rfl,rfl⟩) ?_)
  .rintro x c t _ _ ⟨rfl,rfl⟩
   refine wpS_bind (wpS_get ?_)
   rw[if_pos (by rw[W.2.2];exact ag 1)]
   exact wpS_pure ⟨rfl,rfl⟩
  .rintro c t ⟨rfl,rfl⟩
   exact wpS_pure (h _ W.1 W.2.1)
def UpV (prog:Program) (w:World) (h0:Heap) (a:Addr) (vs:List Value):Prop:=
 2<=vs.length->∃κ:SortKind,∀(A:Around) (s:Shared),(∀b o,b≠a->h0.get? b=some o->s.heap.get? b=some o)->
  (∀(E:Value->Shared->Prop) (Q:SortKind->Shared->Prop),Q κ s->wpAny (model prog w) A (keyKind' vs.toArray) Q E s)/\UpK prog w A s κ (pairsOf vs)
theorem rC' {a:Addr} {vs:List Value} {n:Nat} {P:Fin->Shared->Prop} (ho:s.heap.get? a=some (seqObj "list" vs.toArray n)) (hu:UpV prog w s.heap a vs) (hz:vs.length<=sizeLine)
  (h:P (.done (.ret .none)) { s with heap:=sortedHeap s.heap a vs vs.toArray }):wpAny (model prog w) A (Builtin.«list.sort» ⟨[.ref a],[]⟩) P E s:=by
 have e2:(pairsOf vs).map (·.2)=vs.toArray:=by
  apply Array.toList_inj.mp
  rw[Array.toList_map,pairsOf_toList,List.map_snd_zip (ag _)]
 rw[list_sort_plain]
 have ha:a<s.heap.objs.size:=au ho
 refine aa (listItems_at ho rfl (aa (listUpdate_at ho rfl ?_)))
 obtain⟨e1,ho1⟩:∃e1,(s.heap.update a (Obj.mapSeq fun _=>#[])).get? a=some (seqObj "list" #[] e1):=⟨_,get?_update_seq ho (fun _=>#[])⟩
 refine aa (seqEpoch_at ho1 rfl (aa (wpAny_newTuple (aa (wpAny_newList (aH ?_))))))
 have ho6:(((s.heap.update a (Obj.mapSeq fun _=>#[])).push (seqObj "tuple" vs.toArray 0)).push (seqObj "list" #[] 0)).get? a=some (seqObj "list" #[] e1):=by
  rw[Heap.get?_push_ne _ _ _ (by rw[size_push',Heap.size_update];exact aA (bB ha)),Heap.get?_push_ne _ _ _ (by rw[Heap.size_update];exact aA ha)]
  exact ho1
 have keep:∀b o,b≠a->s.heap.get? b=some o->(((s.heap.update a (Obj.mapSeq fun _=>#[])).push (seqObj "tuple" vs.toArray 0)).push (seqObj "list" #[] 0)).get? b=some o:=fun b o hb q=>by
  have hlt:b<s.heap.objs.size:=au q
  rw[Heap.get?_push_ne _ _ _ (by rw[size_push',Heap.size_update];exact aA (bB hlt)),Heap.get?_push_ne _ _ _ (by rw[Heap.size_update];exact aA hlt),Heap.get?_update_ne _ _ _ _ hb]
  exact q
 show wpAny (model prog w) A _ P E { s with heap:=((s.heap.update a (Obj.mapSeq fun _=>#[])).push (seqObj "tuple" vs.toArray 0)).push (seqObj "list" #[] 0) }
 dsimp only
 have fin:=h
 by_cases h2:vs.toArray.size<2
 .rw[if_pos h2,if_pos h2]
  refine aa (ab ?_)
  rw[StateT.run_pure]
  refine aa (ab ?_)
  dsimp only
  refine aa (seqEpoch_at ho6 rfl (aa (listUpdate_at ho6 rfl ?_ (hsz2:=by rw[cY];show(pairsOf vs).size<=_;rw[pairsOf_size];exact Nat.le_succ_of_le hz))))
  simp only[bne_self_eq_false,aZ,if_false]
  refine ab ?_
  rw[<- e2]at fin
  exact fin
 .rw[if_neg h2,if_neg h2]
  have h2':2<=vs.length:=by rw[ap]at h2;omega
  obtain⟨κ,hκ⟩:=hu h2'
  obtain⟨k1,k2⟩:=hκ A { s with heap:=((s.heap.update a (Obj.mapSeq fun _=>#[])).push (seqObj "tuple" vs.toArray 0)).push (seqObj "list" #[] 0) } keep
  refine aa (k1 _ _ ?_)
  refine aa (dh (rB' (b0:=pairsOf vs) (st:=SortSt.mk' κ (pairsOf vs) #[] 7 none) (Q:=fun _ st'=>arrOf st'=pairsOf vs/\failedOf st'=none)
   k2 rfl rfl rfl (by rw[pairsOf_size];exact h2') fun st' a1 a2=>⟨a1,a2⟩) ?_ fun _ _ e=>e)
  rintro⟨⟨⟩,st'⟩ s' ⟨rfl,hp,hf⟩
  dsimp only
  refine aa (seqEpoch_at ho6 rfl (aa (listUpdate_at ho6 rfl ?_ (hsz2:=by rw[cY];show(arrOf st').size<=_;rw[hp,pairsOf_size];exact Nat.le_succ_of_le hz))))
  rw[hf]
  simp only[bne_self_eq_false,aZ,if_false]
  refine ab ?_
  rw[<- e2,<- hp]at fin
  exact fin
end
end L2
namespace So
open PySem PySem.Spec PyProof.Rows
def ls':Bool->Keyed->Array Keyed->Nat->Nat->Nat->StateT SortSt Sem (Option Nat):=sortPriv% PySem.Builtin.gallop
end So
namespace So
open PySem PySem.Spec PyProof.Rows
end So
namespace So
open PySem PySem.Spec PyProof.Rows
section
variable {M:Model} {A:Around} {E:Value->Shared->Prop} {s:Shared} {O:KeyOrd} {ky:Keyed->O.α} {P:Keyed->Prop} {kd:SortKind} {st0:SortSt} {lo nrem:Nat}
def ke (ky:Keyed->O.α) (a:Array Keyed) (i:Nat):O.α:=ky ((a[i]?).getD (Value.none,Value.none))
end
end So
namespace L2
open PySem PySem.Spec PyProof.Rows So
section
variable {prog:Program} {w:World} {A:Around} {E:Value->Shared->Prop} {s:Shared}
def y5' (prog:Program) (w:World) (h0:Heap) (a:Addr) (vs:List Value) (O:KeyOrd) (kv:Value->O.α):Prop:=
 2<=vs.length->∃κ:SortKind,∀(A:Around) (s:Shared),(∀b o,b≠a->h0.get? b=some o->s.heap.get? b=some o)->
  (∀(E:Value->Shared->Prop) (Q:SortKind->Shared->Prop),Q κ s->wpAny (model prog w) A (keyKind' vs.toArray) Q E s)/\
  ∀x y,x∈vs->y∈vs->∀(E:Value->Shared->Prop) (Q:Bool->Shared->Prop),Q (O.blt (kv x) (kv y)) s->wpAny (model prog w) A (keyLt' κ x y) Q E s
end
abbrev Itm:Type:=Int ⊕ PySem.Str
def lx':Itm->Itm->Bool
 | .inl i,.inl j=>decide (i<j)
 | .inl _,.inr _=>true
 | .inr _,.inl _=>false
 | .inr x,.inr y=>decide (x.cps.toList<y.cps.toList)
def aU':List Itm->List Itm->Bool
 | [],[]=>false
 | [],_ :: _=>true
 |_ :: _,[]=>false
 |a :: l,b :: m=>if a=b then aU' l m else lx' a b
theorem rD' {x y:PySem.Str} (h:x.cps.toList=y.cps.toList):x=y:=by
 cases x;cases y;congr 1;exact Array.toList_inj.mp h
theorem h6' (a:Itm):lx' a a=false:=by cases a<;>simp[lx',List.lt_irrefl]
theorem jK' {a b c:Itm} (h1:lx' a b=true) (h2:lx' b c=true):lx' a c=true:=by
 cases a<;>cases b<;>cases c<;>simp only[lx',decide_eq_true_eq,aZ]at *<;>first|omega|exact List.lt_trans h1 h2
theorem jL' {a b:Itm} (h1:lx' a b=false) (h2:lx' b a=false):a=b:=by
 cases a<;>cases b<;>simp only[lx',decide_eq_false_iff_not,Bool.true_eq_false]at *
 .congr 1;omega
 .congr 1;exact rD' (List.le_antisymm (List.not_lt.mp h2) (List.not_lt.mp h1))
theorem dE':∀a:List Itm,aU' a a=false
 | []=>rfl
 |a :: l=>by rw[aU',if_pos rfl];exact dE' l
theorem cF':∀{a b c:List Itm},aU' a b=true->aU' b c=true->aU' a c=true
 | [],[],_,h,_=>by simp[aU']at h
 | [],_ :: _,[],_,h=>by simp[aU']at h
 | [],_ :: _,_ :: _,_,_=>rfl
 |_ :: _,[],_,h,_=>by simp[aU']at h
 |_ :: _,_ :: _,[],_,h=>by simp[aU']at h
 |a :: l,b :: m,c :: n,h1,h2=>by
  rw[aU']at h1 h2 ⊢
  by_cases e1:a=b
  .subst e1
   rw[if_pos rfl]at h1
   by_cases e2:a=c
   .subst e2;rw[if_pos rfl]at h2 ⊢;exact cF' h1 h2
   .rw[if_neg e2]at h2 ⊢;exact h2
  .rw[if_neg e1]at h1
   by_cases e2:b=c
   .subst e2;rw[if_neg e1];exact h1
   .rw[if_neg e2]at h2
    have h3:=jK' h1 h2
    by_cases e3:a=c
    .subst e3;rw[h6']at h3;cases h3
    .rw[if_neg e3];exact h3
theorem cG':∀{a b:List Itm},aU' a b=false->aU' b a=false->a=b
 | [],[],_,_=>rfl
 | [],_ :: _,h,_=>by simp[aU']at h
 |_ :: _,[],_,h=>by simp[aU']at h
 |a :: l,b :: m,h1,h2=>by
  rw[aU']at h1 h2
  by_cases e:a=b
  .subst e
   rw[if_pos rfl]at h1 h2
   rw[cG' h1 h2]
  .rw[if_neg e]at h1
   rw[if_neg (Ne.symm e)]at h2
   exact absurd (jL' h1 h2) e
theorem ly' {a b c:List Itm} (h:aU' a c=true):aU' a b=true\/aU' b c=true:=by
 cases h1:aU' a b
 .cases h2:aU' b c
  .cases h3:aU' b a
   .have:=cG' h1 h3;subst this;rw[h2]at h;cases h
   .have:=cF' h3 h;rw[h2]at this;cases this
  .exact .inr rfl
 .exact .inl rfl
def lz':KeyOrd:=⟨List Itm,aU',dE',fun _ _ _=>cF',fun _ _ _=>ly',fun _ _=>cG'⟩
def tF':Itm->Value->Prop
 | .inl i,v=>∃t,v=.int i t
 | .inr x,v=>∃t,v=.str x t
inductive ItsAre:List Value->List Itm->Prop
 |nil:ItsAre [] []
 |cons {v:Value} {a:Itm} {vs:List Value} {l:List Itm}:tF' a v->ItsAre vs l->ItsAre (v :: vs) (a :: l)
theorem ItsAre.len:∀{vs:List Value} {l:List Itm},ItsAre vs l->vs.length=l.length
 |_,_,.nil=>rfl
 |_,_,.cons _ r=>by simp[r.len]
def shp (l:List Itm):List Bool:=l.map Sum.isLeft
def Tps (h:Heap) (q:Addr×List Itm):Prop:=∃o xs n,h.get? q.1=some o/\o.cls=.type "tuple"/\o.data=.seq xs n/\ItsAre xs.toList q.2
section
variable {prog:Program} {w:World} {A:Around} {E:Value->Shared->Prop} {s:Shared}
theorem ve' {p q:Value} {b:Bool} {a c:Itm} {Q:Bool->Shared->Prop} (h1:tF' a p) (h2:tF' c q) (hs:a.isLeft=c.isLeft) (h:Q (lx' a c) s):wpAny (model prog w) A (oneLt' b p q) Q E s:=by
 cases a<;>cases c<;>simp at hs
 .obtain⟨t,rfl⟩:=h1;obtain⟨u,rfl⟩:=h2
  cases b
  .exact W.kat_one _ _ (PyProof.Rows.lt_int h)
  .exact oneLt_int h
 .obtain⟨t,rfl⟩:=h1;obtain⟨u,rfl⟩:=h2
  cases b
  .exact W.kat_one _ _ (PyProof.Rows.lt_str h)
  .exact oneLt_str h
set_option tactic.hygienic true in
theorem y6' {p q:Value} {a c:Itm} {Q:Bool->Shared->Prop} (h1:tF' a p) (h2:tF' c q) (hs:a.isLeft=c.isLeft) (h:Q (decide (a=c)) s):wpAny (model prog w) A (eqBool p q) Q E s:=by
 cases a<;>cases c<;>simp at hs
 .obtain⟨t,rfl⟩:=h1;obtain⟨u,rfl⟩:=h2
  refine wpAny_eqBool_int ?_
  rename_i i j
  have e:(i == j)=decide ((Sum.inl i:Itm)=Sum.inl j):=by
   by_cases c:i=j
   .subst c;simp
   .simp[c]
  rw[e];exact h
 .obtain⟨t,rfl⟩:=h1;obtain⟨u,rfl⟩:=h2
  refine wpAny_eqBool_str ?_
  simpa using h
theorem lA' {Q:Bool->Shared->Prop}:∀{xs ys:List Value} {l m:List Itm} {i:Nat},ItsAre xs l->ItsAre ys m->shp l=shp m->Q (aU' l m) s->W.KatLex prog w A true false Q (xs.zip ys) i s
 |_,_,_,_,i,.nil,.nil,_,h=>W.kat_nil h
 |_,_,_,_,i,.nil,.cons _ _,hs,_=>by simp[shp]at hs
 |_,_,_,_,i,.cons _ _,.nil,hs,_=>by simp[shp]at hs
 |_,_,a :: l,c :: m,i,.cons h1 r1,.cons h2 r2,hs,h=>by
  have hs1:a.isLeft=c.isLeft:=by simp[shp]at hs;exact hs.1
  have hs2:shp l=shp m:=by simp[shp]at hs ⊢;exact hs.2
  rw[List.zip_cons_cons]
  refine W.kat_cons (y6' h1 h2 hs1 ?_)
  rw[aU']at h
  by_cases e:a=c
  .rw[if_pos e]at h
   rw[decide_eq_true e]
   exact W.kat_yes (lA' r1 r2 hs2 h)
  .rw[if_neg e]at h
   rw[decide_eq_false e]
   exact W.kat_no (ve' h1 h2 hs1 h)
end
def tG' (qs:List (Addr×List Itm)):Value->List Itm
 | .ref a=>((qs.find? fun q=>q.1 == a).map (·.2)).getD []
 |_=>[]
set_option tactic.hygienic true in
theorem rE' {vs:List Value}:∀{l m:List Itm},ItsAre vs l->ItsAre vs m->l=m:=by
 induction vs with
 |nil=>intro l m h1 h2;cases h1;cases h2;rfl
 |cons v vs ih=>
  intro l m h1 h2
  cases h1 with
  |cons a1 r1=>
   cases h2 with
   |cons a2 r2=>
    rw[ih r1 r2]
    congr 1
    rename_i a l b m
    cases a<;>cases b<;>(obtain⟨t,e1⟩:=a1;obtain⟨u,e2⟩:=a2;rw[e1]at e2;cases e2)<;>rfl
theorem h7' {h:Heap} {qs:List (Addr×List Itm)} (hq:∀q∈qs,Tps h q) {q:Addr×List Itm} (hm:q∈qs):tG' qs (.ref q.1)=q.2:=by
 show((qs.find? fun x=>x.1 == q.1).map (·.2)).getD []=q.2
 cases e:qs.find? fun x=>x.1 == q.1 with
 |none=>exact absurd (List.find?_eq_none.mp e q hm) (by simp)
 |some r=>
  have h1:=List.find?_some e
  have h2:=List.mem_of_find?_eq_some e
  obtain⟨o,xs,n,ho,_,hd,hi⟩:=hq q hm
  obtain⟨o',xs',n',ho',_,hd',hi'⟩:=hq r h2
  have e1:r.1=q.1:=by simpa using h1
  rw[e1,ho]at ho'
  cases ho'
  rw[hd]at hd'
  cases hd'
  show r.2=q.2
  exact rE' hi' hi
set_option tactic.hygienic true in
theorem eh' {h:Heap} {sh:List Bool} {b:Bool}:∀{qs:List (Addr×List Itm)},(∀q∈qs,Tps h q)->(∀q∈qs,shp q.2=b :: sh)->∃fs,W.KatTups h (qs.map fun q=>Value.ref q.1) fs/\fs.length=qs.length/\∀f∈fs,∃a,tF' a f/\a.isLeft=b
 | [],_,_=>⟨[],trivial,rfl,fun _ h=>absurd h aB⟩
 |q :: qs,hq,hs=>by
  obtain⟨fs,h1,h2,h3⟩:=eh' (qs:=qs) (fun x hx=>hq x (by simp[hx])) fun x hx=>hs x (by simp[hx])
  obtain⟨o,xs,n,ho,hc,hd,hi⟩:=hq q (by simp)
  have hsq:=hs q (by simp)
  obtain⟨qa,ql⟩:=q
  cases ql with
  |nil=>simp[shp]at hsq
  |cons a l=>
   generalize hxl:xs.toList=xl at hi
   cases hi with
   |cons ha hr=>
    rename_i v vr
    have hx0:xs[0]?=some v:=by
     have:xs.toList[0]?=some v:=by rw[hxl];rfl
     simpa using this
    exact⟨v :: fs,W.KatTups.cons ho hc hd hx0 h1,by simp[h2],fun f hf=>by
     rcases ay.mp hf with rfl|hf
     .exact⟨a,ha,by simp[shp]at hsq;exact hsq.1⟩
     .exact h3 f hf⟩
theorem n7' {prog:Program} {w:World} {h0:Heap} {a:Addr} {qs:List (Addr×List Itm)} {sh:List Bool} {b:Bool} (hq:∀q∈qs,Tps h0 q) (hne:∀q∈qs,q.1≠a) (hs:∀q∈qs,shp q.2=b :: sh):y5' prog w h0 a (qs.map fun q=>Value.ref q.1) lz' (tG' qs):=by
 intro h2
 refine⟨tuples' true,fun A s keep=>?_⟩
 have hq':∀q∈qs,Tps s.heap q:=fun q hm=>let⟨o,xs,n,ho,r⟩:=hq q hm;⟨o,xs,n,keep _ _ (hne q hm) ho,r⟩
 refine⟨fun E Q h=>?_,fun x y hx hy E Q h=>?_⟩
 .obtain⟨fs,h1,h3,h4⟩:=eh' hq' hs
  cases b
  .refine W.kat_kind (T:=.type "str") h1 (by rw[h3];rw[ac]at h2;omega) (fun v hv=>?_) rfl h
   obtain⟨x,hx,hb⟩:=h4 v hv
   cases x<;>simp at hb
   obtain⟨t,rfl⟩:=hx
   exact .now
  .refine W.kat_kind (T:=.type "int") h1 (by rw[h3];rw[ac]at h2;omega) (fun v hv=>?_) rfl h
   obtain⟨x,hx,hb⟩:=h4 v hv
   cases x<;>simp at hb
   obtain⟨t,rfl⟩:=hx
   exact .now
 .obtain⟨qx,mx,rfl⟩:=az.mp hx
  obtain⟨qy,my,rfl⟩:=az.mp hy
  rw[h7' hq' mx,h7' hq' my]at h
  obtain⟨ox,xs,n,hox,_,hdx,hix⟩:=hq' qx mx
  obtain⟨oy,ys,m,hoy,_,hdy,hiy⟩:=hq' qy my
  refine W.kat_lt hox hdx hoy hdy ?_
  have hl:¬xs.size<ys.size:=by
   have h3:=hix.len
   have h4:=hiy.len
   have h5:=congrArg List.length ((hs qx mx).trans (hs qy my).symm)
   simp only[shp,ac]at h5
   rw[ai]at h3 h4
   omega
  rw[decide_eq_false hl]
  exact lA' hix hiy ((hs qx mx).trans (hs qy my).symm) h
end L2
namespace L2
open PySem PySem.Spec PyProof.Rows PySem.Ts
theorem iZ' {P:Program} {w:World}:∀{k:List Int} {us:List Value},ay' (k.map V.int) us->ItemsAre (intKind P w) k us
 | [],_,.nil=>.nil
 |i :: k,_,.cons r t=>by
  obtain⟨u,rfl⟩:=(show ∃u,_=Value.int i u from r)
  exact .cons (by show Value.isInt i (.int i u)=true;simp[Value.isInt]) (iZ' t)
theorem vf' {P:Program} {w:World} {H:Hp} {h:Heap} {q:List Int×Addr} (ok:HOk P w H h) (e:H q.2=some (.tup (q.1.map V.int))):Tup P w h q:=by
 obtain⟨_,its,r,o,h1,h2,⟨n,h3⟩,_⟩:=(show aA' P w H h q.2 (.tup (q.1.map V.int)) from ok _ _ e)
 exact⟨o,its.toArray,n,h1,h2,h3,by rw[List.toList_toArray];exact iZ' r⟩
section
variable {X:Cx}
def kI (k:List Int):List Itm:=k.map Sum.inl
theorem vh' {k:List Int} {vs:List Value} {P:Program} {w:World} (h:ItemsAre (intKind P w) k vs):ItsAre vs (kI k):=by
 induction h with
 |nil=>exact .nil
 |cons h1 _ ih=>
  obtain⟨t,e⟩:=Value.isInt_shape h1
  exact .cons ⟨t,e⟩ ih
theorem vi' {k:List Int}:shp (kI k)=av k.length true:=by
 unfold shp kI
 induction k with
 |nil=>rfl
 |cons i k ih=>rw[aS,aS,ih];rfl
variable {e:Expr} {scope:Scope} {tg iter:Expr} {ifs:List Expr} {nx:Addr->Env->Sem Unit} {g:TG} {tc:TT} {as':TL (List (List Int×Addr))} {own:List Nat} {wi:TI}
theorem i0':∀(qs:List (List Int×Addr)),ay' (qs.map fun q=>V.ref q.2) (qs.map fun q=>Value.ref q.2)
 | []=>.nil
 |q :: qs=>.cons rfl (i0' qs)
end
theorem y7' {P:Program} {w:World} {k:Key} {u:Value} (h:(ai' P w).is k u=true):ax' (kV k) u:=by
 rcases aF' (show hw' k u=true from h)with⟨i,t,rfl,rfl⟩|⟨x,t,rfl,rfl⟩|⟨rfl,rfl⟩
 .exact⟨t,rfl⟩
 .exact⟨t,rfl⟩
 .exact rfl
theorem fK':∀{xs:List V} {us:List Value},xs.length=us.length->(∀(i:Nat) x u,xs[i]?=some x->us[i]?=some u->ax' x u)->ay' xs us
 | [],[],_,_=>.nil
 |x :: xs,u :: us,hl,h=>.cons (h 0 x u rfl rfl) (fK' (by simpa using hl) fun i x' u' h1 h2=>h (i+1) x' u' (by simpa using h1) (by simpa using h2))
 | [],_ :: _,hl,_=>by simp at hl
 |_ :: _,[],hl,_=>by simp at hl
theorem y8' {kvs:List (Key×V)} {vs:List (Key×Value)} (r:KV kvs vs):∀{i:Nat} {kv:Key×V} {p:Key×Value},kvs[i]?=some kv->vs[i]?=some p->kv.1=p.1/\ax' kv.2 p.2:=by
 induction r with
 |nil=>intro i kv p h;simp at h
 |cons h r ih=>
  intro i kv p h1 h2
  cases i with
  |zero=>cases h1;cases h2;exact h
  |succ i=>exact ih (by simpa using h1) (by simpa using h2)
section
variable {X:Cx}
def vj':List V->Hp->VK->Prop:=fun xs H Q=>∃a kvs,xs=[V.ref a]/\H a=some (.dK kvs)/\Q (.int kvs.length) H
theorem jM':aP' X (.builtin "len") vj':=kE'
end
section
variable {prog:Program} {w:World} {A:Around} {E:Value->Shared->Prop} {s:Shared}
theorem i1' {q dd:Addr} {j ep:Nat} {od:Obj} {es:Array DictEntry} {en:DictEntry} {Q:Option Value->Shared->Prop} (hq:s.heap.IsKeyIter q dd j es.size ep) (g1:s.heap.get? dd=some od) (g2:od.data=.dict es ep) (hx:es[j]?=some en)
  (hQ:∀h',h'.IsKeyIter q dd (j+1) es.size ep->bG q s.heap h'->Q (some en.key) { s with heap:=h' }):wpAny (model prog w) A (pyNext (.ref q)) Q E s:=by
 obtain⟨oq,e1,e2,e3⟩:=id hq
 unfold pyNext
 refine aa (cw (aQ (name:=Str.ofString "__next__") hq.typeIs F.slot_dict_keyiterator_next (aO F.slot_dict_keyiterator_next hq.typeIs F.entry_dict_keyiterator_next ?_ (F.args_dict_keyiterator_next_1 _))))
 refine aa (ab (aa (aa ?_)))
 first|refine aa (cv hq.typeIs (ab ?_))|refine aa (cS hq.typeIs (ab ?_))
 refine aa (wpAny_fieldsOf e1 e3 ?_)
 have own0:Builtin.Dict_items.ownsTuple "dict_keyiterator"=false:=by decide
 simp only[own0,aZ,if_false]
 show wpAny _ _ (if(Value.ref dd == Value.none)=true then _ else _) _ _ s
 rw[if_neg (show ¬((Value.ref dd == Value.none)=true) from ak)]
 refine aa (ab (aa (bM g1 g2 ?_)))
 rw[if_neg (by simp)]
 refine aa (ab (aa (cA g1 g2 ?_)))
 rw[if_neg (by simp)]
 refine ab ?_
 simp only[show ¬((j:Int)<0) from by omega,if_false,bc,hx]
 refine aa ?_
 first|refine aa (cv hq.typeIs (ab ?_))|refine aa (cS hq.typeIs (ab ?_))
 refine aa (wpAny_isOneOf_keyiter hq.typeIs ?_)
 show wpAny _ _ (setField (.ref q) 1 (rawInt ((j:Int)+1)) >>= _) _ _ s
 refine aa (bK e1 e3 (by simp) ?_)
 have hq':(s.heap.update q (Obj.mapFields (·.setIfInBounds 1 (rawInt ((j:Int)+1))))).IsKeyIter q dd (j+1) es.size ep:=
  ⟨_,aP _ e1 (Obj.isFreed_of_fields (Obj.data_mapFields e3 _)),(Obj.cls_mapFields ..).trans e2,by rw[Obj.data_mapFields e3];simp[rawInt]⟩
 refine aa (aH ?_)
 refine aa (wpAny_isOneOf_keyiter (s:={ s with heap:=s.heap.update q (Obj.mapFields (·.setIfInBounds 1 (rawInt ((j:Int)+1)))) }) hq'.typeIs ?_)
 show wpAny _ _ (pure en.key) _ _ _
 exact ab (ab ⟨_,rfl,ab (hQ _ hq' (Heap.SameBut.update ..))⟩)
theorem lB' {q dd:Addr} {j ep:Nat} {od:Obj} {es:Array DictEntry} {Q:Option Value->Shared->Prop} (hh:A.handled=none) (hq:s.heap.IsKeyIter q dd j es.size ep) (g1:s.heap.get? dd=some od) (g2:od.data=.dict es ep) (hx:es.size<=j)
  (hQ:∀h',Heap.ExtBut q s.heap h'->Q none { s with heap:=h' }):wpAny (model prog w) A (pyNext (.ref q)) Q E s:=by
 obtain⟨oq,e1,e2,e3⟩:=id hq
 unfold pyNext
 refine aa (cw (aQ (name:=Str.ofString "__next__") hq.typeIs F.slot_dict_keyiterator_next (aO F.slot_dict_keyiterator_next hq.typeIs F.entry_dict_keyiterator_next ?_ (F.args_dict_keyiterator_next_1 _))))
 refine aa (ab (aa (aa ?_)))
 first|refine aa (cv hq.typeIs (ab ?_))|refine aa (cS hq.typeIs (ab ?_))
 refine aa (wpAny_fieldsOf e1 e3 ?_)
 have own0:Builtin.Dict_items.ownsTuple "dict_keyiterator"=false:=by decide
 simp only[own0,aZ,if_false]
 show wpAny _ _ (if(Value.ref dd == Value.none)=true then _ else _) _ _ s
 rw[if_neg (show ¬((Value.ref dd == Value.none)=true) from ak)]
 refine aa (ab (aa (bM g1 g2 ?_)))
 rw[if_neg (by simp)]
 refine aa (ab (aa (cA g1 g2 ?_)))
 rw[if_neg (by simp)]
 refine ab ?_
 simp only[show ¬((j:Int)<0) from by omega,if_false,bc,db hx]
 refine aa ?_
 first|refine aa (cv hq.typeIs (ab ?_))|refine aa (cS hq.typeIs (ab ?_))
 show wpAny _ _ (setField (.ref q) 0 .none >>= _) _ _ s
 refine aa (bK e1 e3 (by simp) ?_)
 show wpAny _ _ (newExc (.type "StopIteration") [] >>= _) _ _ _
 refine aa ?_
 simp only[newExc,newTuple]
 refine aa (aI ?_ (by size_fits))
 refine aa (m:=firstArgMember _ _) (cV (a:=Value.none) (by first|rfl|(simp only[firstArgMember];rfl)) ?_)
 refine aI ?_ (by size_fits)
 simp only[raiseNew]
 refine aa (dB ?_)
 rw[show A.in1.handled=none from hh]
 refine aa (ab (wpAny_throw ?_))
 refine aa (bW (T:="StopIteration") (b:=true) ⟨_,al _ rfl,rfl⟩ isSubtype_stop ?_)
 exact ab (hQ _ (((Heap.SameBut.update ..).extBut.push _).push _))
theorem i2' {dd:Addr} {ep:Nat} {od:Obj} {es:Array DictEntry} {Q:Value->Shared->Prop} (hd:(dd == sysModules)=false) (hT:s.TypeIs (.ref dd) "dict") (g1:s.heap.get? dd=some od) (g2:od.data=.dict es ep)
  (hQ:Q (.ref s.heap.objs.size) { s with heap:=s.heap.push { cls:=.type "dict_keyiterator",data:=.fields #[.ref dd,.int 0 0,.int es.size 0,.int ep 0] } }):wpAny (model prog w) A (pyIter (.ref dd)) Q E s:=by
 refine wpAny_pyIter_slot hT F.slot_dict_iter (aO F.slot_dict_iter hT F.entry_dict_iter ?_ (F.args_dict_iter_1 _))
 unfold Builtin.«dict.__iter__»
 refine aa ?_
 unfold Builtin.Dict.dictSlotNone
 refine aa (dg hT ?_)
 show wpAny _ _ (pure (Value.ref dd)) _ _ s
 refine ab ?_
 show wpAny _ _ (Builtin.Dict.showsAll dd >>= _) _ _ s
 unfold Builtin.Dict.showsAll
 rw[if_neg (by rw[hd];exact ak)]
 refine aa (ab (aa (bM g1 g2 (aa (cA g1 g2 ?_)))))
 refine aa (aI (ab ⟨_,rfl,"dict_keyiterator",_,⟨_,al _ rfl,rfl⟩,F.slot_dict_keyiterator_next.lookup,?_⟩))
 simpa[rawInt]using hQ
end
def Fz (H:Hp) (d:Addr) (o:Obj):Prop:=∃u,H d=some (.frz o u)
def KsO (o:Obj) (ks:List V):Prop:=∃es ep,o.data=.dict es ep/\ay' ks (es.toList.map (·.key))
def pS' (d:Addr) (o:Obj) (ks:List V):It:=⟨fun i H=>i<ks.length/\Fz H d o,fun i H x H'=>H'=H/\ks[i]?=some x,fun i H=>ks.length<=i/\Fz H d o⟩
theorem Fz.at {P:Program} {w:World} {H:Hp} {h:Heap} {d:Addr} {o:Obj} (f:Fz H d o) (x:HOk P w H h):h.get? d=some o:=let⟨u,e⟩:=f;(x d _ e).1
theorem lC' {P:Program} {w:World} {K:W.Frag} {tg:Expr} (it d:Addr) {o:Obj} {ks:List V} {es:Array DictEntry} {ep:Nat} (hd:o.data=.dict es ep) (hv:ay' ks (es.toList.map (·.key))):Turn P w K tg (pS' d o ks) [it] it (fun i h=>h.IsKeyIter it d i es.size ep) where
 mem:=by simp
 obj:=fun i h st b hb=>by
  have e:b=it:=by simpa using hb
  subst e
  obtain⟨ob,e,c,dt⟩:=st
  exact⟨ob,e,fun v z=>by rw[dt]at z;cases z⟩
 keep:=fun i h h' st k=>st.at fun ob e=>k it (by simp) ob e
 item:=by
  intro X hP hw hK hc i p_ s σ H E I hf st hg
  subst hP hw hK
  obtain⟨hi,hz⟩:=hg
  have hx:ks[i]?=some ks[i]:=ae hi
  obtain⟨u,hu,ru⟩:=hv.get hx
  rw[ao]at hu
  obtain⟨en,he,rfl⟩:=bU.mp hu
  obtain⟨f0,f1,f2,f3,f4,f5⟩:=hf it (by simp)
  refine i1' st (hz.at I.hok) hd (by simpa using he) fun h' st' sb=>?_
  have I1:Inv X p_ σ H { s with heap:=h' }:=I.turned (t':=s.toks) (fun b o hb e=>(sb.2 b hb).trans e) f0 f1 f3 f4 f5
  obtain⟨ob,e1,c,dt⟩:=id st'
  exact⟨_,rfl,kg' (s:={ s with heap:=h' }) e1 c dt (by decide) ⟨_,H,I1,ru,⟨rfl,hx⟩,st',fun b hb=>(hf b hb).1⟩⟩
 done:=by
  intro X hP hw hK hc i p_ s σ H E I hf st hg
  subst hP hw hK
  obtain⟨hi,hz⟩:=hg
  obtain⟨f0,f1,f2,f3,f4,f5⟩:=hf it (by simp)
  have hl:ks.length=es.size:=by have:=hv.length;simpa using this
  exact lB' (I.ok.hd hc) st (hz.at I.hok) hd ⋯ fun h' eb=>⟨rfl,I.turned (t':=s.toks) (fun b o hb e=>eb b o hb e) f0 f1 f3 f4 f5⟩
 self:=fun _ _ _ _ _ st h=>wpAny_pyIter_keyiter st h
section
variable {X:Cx} {tg:Expr}
theorem HOk.freeze {P:Program} {w:World} {H:Hp} {h:Heap} {d:Addr} {u:HO} {o:Obj} (x:HOk P w H h) (e:H d=some u) (hu:Mut (some u)) (ho:h.get? d=some o):HOk P w (upd H d (.frz o u)) h:=fun b v q=>by
 have ntup:∀c xs,H c=some (.tup xs)->c≠d:=fun c xs r z=>by subst z;rw[r]at e;cases e;exact hu
 have nown:∀c y,H c=some (.own y)->c≠d:=fun c y r z=>by subst z;rw[r]at e;cases e;exact hu
 have st:∀a v,aA' P w H h a v->aA' P w (upd H d (.frz o u)) h a v:=fun a v y=>y.stay (fun _ _ _ q=>q) (fun c r=>by rw[ae' (nown c a r)];exact r) fun c xs r=>by rw[ae' (ntup c xs r)];exact r
 by_cases hb:b=d
 .subst hb;rw[ab']at q;cases q;exact⟨ho,st _ _ (x _ _ e)⟩
 .rw[ae' hb]at q;exact st _ _ (x b v q)
theorem Inv.freeze {p_:List (Addr×Obj)} {σ:St} {H:Hp} {s:Shared} {d:Addr} {u:HO} {o:Obj} (I:Inv X p_ σ H s) (e:H d=some u) (hu:Mut (some u)) (ho:s.heap.get? d=some o):Inv X p_ σ (upd H d (.frz o u)) s:=by
 have:=I.step (h':=s.heap) (g':=s.gens) (d':=s.drawn) (t':=s.toks) (ch:=[]) (H':=upd H d (.frz o u)) (fun _ z=>nomatch z) (fun b o _ _ _ q _=>q) (fun b o _ _ _ q _=>⟨o.slots,q⟩)
  (fun b o _ _ n=>by rw[ae' (fun z=>by subst z;rw[n]at e;cases e)];exact n) (fun b o _ q=>⟨o,q⟩)
  (fun b xs q=>by rw[ae' (fun z=>by subst z;rw[q]at e;cases e;exact hu)];exact q)
  (fun b o v q=>by rw[ae' (fun z=>by subst z;rw[q]at e;cases e;exact hu)];exact q)
  (fun b ps q=>⟨#[],by rw[ae' (fun z=>by subst z;rw[q]at e;cases e;exact hu),Array.append_empty];exact q⟩)
  (fun m n=>n) (I.hok.freeze e hu ho) I.bare
 exact this
def DkV (x:V) (H1:Hp) (R:It->Hp->Prop):Prop:=∃d kvs,x=.ref d/\Rd H1 d (.dK kvs)/\∀o,KsO o (kvs.map fun kv=>kV kv.1)->R (pS' d o (kvs.map fun kv=>kV kv.1)) (upd H1 d (.frz o (.dK kvs)))
def DtV (x:V) (H1:Hp) (R:It->Hp->Prop):Prop:=∃d kvs,x=.ref d/\Rd H1 d (.dT kvs)/\∀o (as:List Addr),as.length=kvs.length->(∀(i:Nat) a kv,as[i]?=some a->kvs[i]?=some kv->H1 a=some (.tup (kv.1.map kV)))->KsO o (as.map V.ref)->R (pS' d o (as.map V.ref)) (upd H1 d (.frz o (.dT kvs)))
def DnV (x:V) (H1:Hp) (R:It->Hp->Prop):Prop:=∃d L,x=.ref d/\H1 d=some (cy' d L)/\f8' H1 L/\∀o,KsO o (L.map nkV)->R (pS' d o (L.map nkV)) (upd H1 d (.frz o (cy' d L)))
def y9' (tl:TE):TI:=fun σ H R=>tl σ H fun x H1=>DkV x H1 R\/DtV x H1 R\/DnV x H1 R
set_option tactic.hygienic true in
theorem n8' {H:Hp} {d:Addr} {u:HO} (e:H d=some u):upd H d u=H:=by
 funext b;unfold upd;split
 .rename_i z;rw[z,e]
 .rfl
theorem fL' {p_:List (Addr×Obj)} {σ:St} {H1:Hp} {s1:Shared} {d:Addr} {u:HO} {R:It->Hp->Prop} {ks:List V} {o:Obj} {es:Array DictEntry} {ep:Nat} (I1:Inv X p_ σ H1 s1) (hr:Rd H1 d u) (hu:Mut (some u)) (hs:(d == sysModules)=false) (hT:s1.TypeIs (.ref d) "dict")
  (ho:s1.heap.get? d=some o) (hd:o.data=.dict es ep) (hv:ay' ks (es.toList.map (·.key))) (q:∀o,KsO o ks->R (pS' d o ks) (upd H1 d (.frz o u))):wpAny (model X.prog X.w) X.A (pyIter (.ref d)) (PIE X p_ σ tg R) X.xe s1:=by
 have I2:Inv X p_ σ (upd H1 d (.frz o u)) s1:=by
  rcases hr with e|⟨o',e⟩
  .exact I1.freeze e hu ho
  .have:=(I1.hok d _ e).1
   rw[ho]at this
   cases this
   rw[n8' e];exact I1
 refine i2' hs hT ho hd ?_
 refine⟨s1.heap.objs.size,[s1.heap.objs.size],_,_,upd H1 d (.frz o u),rfl,I2.kept (t':=s1.toks) (fun b o e=>af _ e),lC' _ d hd hv,⟨_,al _ rfl,rfl,rfl⟩,fun b hb=>?_,q o ⟨es,ep,hd,hv⟩⟩
 have e:b=s1.heap.objs.size:=by simpa using hb
 subst e
 exact I2.fpOk (ag _) (I2.hok.fresh (ag _))
theorem vk' {l:Expr} {tl:TE} (hl:PE X l tl):PI X tg l (y9' tl):=by
 intro p_ s σ H R I h
 refine thn (hl p_ s σ H _ I h) fun v s1 ⟨x,H1,I1,r1,q1⟩=>?_
 rcases q1 with⟨d,kvs,rfl,hr,q⟩|⟨d,kvs,rfl,hr,q⟩|⟨d,L,rfl,hD,ht,q⟩
 .cases r1
  obtain⟨z,hs,vs,rel,dd⟩:=(show aA' X.prog X.w H1 s1.heap d (.dK kvs) from hr.ok I1.hok)
  obtain⟨o,es,ep,ho,hc,hdat,hk,hp,hn⟩:=id dd
  refine fL' I1 hr trivial hs dd.typeIs ho hdat (fK' ?_ ?_) q
  .have h1:=rel.length
   have h2:=hp.length
   rw[ac,ac]
   omega
  .intro i x u hx hu
   rw[ao]at hx hu
   obtain⟨kv,hkv,rfl⟩:=bU.mp hx
   obtain⟨en,hen,rfl⟩:=bU.mp hu
   obtain⟨p,hpv⟩:∃p,vs[i]?=some p:=by
    have h1:=rel.length
    obtain⟨hl,_⟩:=aN.mp hkv
    exact⟨vs[i]'⋯,ae _⟩
   have e:=(y8' rel hkv hpv).1
   rw[e]
   exact y7' (hp.get? hen hpv).1
 .cases r1
  obtain⟨z,hs,xs,rel,o,es,ep,ho,hc,hdat,he,hn⟩:=(show aA' X.prog X.w H1 s1.heap d (.dT kvs) from hr.ok I1.hok)
  have hT:s1.TypeIs (.ref d) "dict":=⟨o,ho,hc.1⟩
  have hl:xs.length=kvs.length:=rel.length.symm
  refine fL' I1 hr trivial hs hT ho hdat (ks:=(xs.map fun x=>x.2.1).map V.ref) (fK' ?_ ?_) fun o' ho'=>q o' (xs.map fun x=>x.2.1) (by rw[ac];exact hl) (fun i a kv ha hkv=>?_) ho'
  .rw[he];simp
  .intro i x u hx hu
   rw[he,ao,ao]at hu
   rw[ao,ao]at hx
   cases e:xs[i]? with
   |none=>rw[e]at hx;simp at hx
   |some p=>
    rw[e]at hx hu
    simp at hx hu
    rw[<- hx,<- hu]
    rfl
  .rw[ao]at ha
   obtain⟨p,hp,rfl⟩:=bU.mp ha
   have key:∀{l:List (List Key×V)} {m:List (List Key×Addr×Value)},Paired (fun(p:List Key×V) (q:List Key×Addr×Value)=>p.1=q.1/\H1 q.2.1=some (.tup (p.1.map kV))/\ax' p.2 q.2.2) l m->∀(i:Nat) kv p,l[i]?=some kv->m[i]?=some p->H1 p.2.1=some (.tup (kv.1.map kV)):=by
    intro l m r
    induction r with
    |nil=>intro i kv p h;simp at h
    |cons h r ih=>
     intro i kv p h1 h2
     cases i with
     |zero=>cases h1;cases h2;exact h.2.1
     |succ i=>exact ih i kv p (by simpa using h1) (by simpa using h2)
   exact key rel i kv p hkv hp
 .cases r1
  obtain⟨hs,_,_,_,o,es,ep,ho,hex,hdat,m⟩:=hZ' I1 hD ht
  have hes:es.toList=L.map yb':=m.its.trans fD'
  refine fL' I1 (.inl hD) True.intro hs (k9' ho hex) ho hdat (ks:=L.map nkV) (fK' (by rw[hes];simp) fun i x u hx hu=>?_) q
  rw[hes,ao,ao]at hu
  rw[ao]at hx
  cases e:L[i]? with
  |none=>rw[e]at hx;cases hx
  |some z=>
   rw[e]at hx hu
   cases hx
   cases hu
   cases z<;>rfl
end
section
variable {X:Cx} {pos:Pos}
def za' (K:W.Frag) (n:Nat) (t:TGs):TG:=fun v σ H Q=>∃a xs,v=.ref a/\(SqT K H a xs\/SqL K H a xs)/\xs.length=n/\t xs σ H Q
theorem vl' {es:List Expr} {k:Nat} {t:TGs} {n:Nat} (hc:X.calm=true) (h:PGs X es t)
  (hn:(assignEach es X.env).length=n:=by rfl) (hst:(assignEach es X.env).findIdx? (·.1)=none:=by rfl):PG X (.Tuple es k pos) (za' X.K n t):=by
 intro p_ s σ H v u Q I r hw
 obtain⟨a,xs,e1,hq,hl,hw⟩:=hw
 rcases hq with hq|hq
 .exact tU' hc h hn hst p_ s σ H v u Q I r ⟨a,xs,e1,hq,hl,hw⟩
 .subst e1
  cases r
  obtain⟨its,rv,pl,hz⟩:=I.list hq
  rw[assign_Tuple]
  refine aa (cn ?_)
  unfold unpack
  rw[hn,hst]
  have e:n=its.toArray.size:=by simp[<- hl,rv.length]
  rw[e]
  refine aa (aH (W.kun_itemsOf (I.ok.hd hc) pl.isList fun h' hx=>?_))
  have I1:Inv X p_ σ H { s with heap:=h' }:=I.kept (t':=s.toks) fun b o e=>hx b o (aA (au e)) e
  exact h p_ _ σ H xs _ Q I1 (by simpa using rv) hw
end
section
variable {prog:Program} {w:World} {A:Around} {E:Value->Shared->Prop} {s:Shared} {K:Type} [DecidableEq K] {knd:HeapKind prog w K} {d:Addr}
theorem jN' (knd:HeapKind prog w K) (hd:(d == sysModules)=false):MeetsIn prog w (Builtin.«dict.__len__» ⟨[.ref d],[]⟩) (fun _ R s=>∃xs,s.heap.DictOfH knd d xs/\R (.ok (.ret (.int xs.length s.toks))) { s with toks:=s.toks+1 }):=
 .of_wp fun A R s ⟨xs,hm,h⟩=>by
  obtain⟨o,es,ep,ho,hc,hdat,hk,_⟩:=hm
  show wpAny _ _ (dictSize d >>= _) _ _ s
  unfold dictSize
  refine aa (aa (bM ho hdat (ab ?_)))
  show wpAny _ _ (Builtin.Dict.pendingCount d >>= _) _ _ s
  refine aa (wpAny_pendingCount_other hd ?_)
  refine wpAny_ret_mkInt ?_
  rw[Nat.add_zero,size_of_entries hk];exact h
theorem lD' {xs:List (K×Addr×Value)} {Q:Value->Shared->Prop} (hd:(d == sysModules)=false) (hm:s.heap.DictOfH knd d xs) (hfit:(xs.length:Int)<2 ^ 63)
  (h:Q (.int xs.length (s.toks+1)) { s with toks:=s.toks+1+1 }):wpAny (model prog w) A (call (.builtin "len") [.ref d]) Q E s:=by
 refine Calls.call_function_entry kind_len plain_len entry_len (args_len1 _) ?_
 unfold Builtin.«len»
 refine aa (m:=oneArg "len" _) (ab ?_)
 refine aa (m:=callSpecial? (.ref d) (Str.ofString "__len__")) (aQ (name:=Str.ofString "__len__") hm.typeIs F.slot_dict_len
  (call_meetsIn F.slot_dict_len hm.typeIs F.entry_dict_len (F.args_dict_len_1 _) (jN' knd hd) ⟨xs,hm,?_⟩))
 show wpAny _ _ _ _ _ { s with toks:=s.toks+1 }
 refine aa (aH (ab ?_))
 refine aa (wpAny_letGo ?_)
 show wpAny _ _ (if((xs.length:Nat):Int)<0 then _ else _) _ _ _
 rw[if_neg ⋯]
 show wpAny _ _ (if((xs.length:Nat):Int) ≥ 2 ^ 63 then _ else _) _ _ _
 rw[if_neg ⋯]
 exact aa (wpAny_mkInt (ab ⟨_,rfl,h⟩))
end
section
variable {X:Cx}
def pT':List V->Hp->VK->Prop:=fun xs H Q=>vj' xs H Q\/∃a kvs,xs=[V.ref a]/\Rd H a (.dT kvs)/\Q (.int kvs.length) H
theorem jO':aP' X (.builtin "len") pT':=by
 intro p_ s σ H xs us Q I r h
 rcases h with h|⟨a,kvs,rfl,ha,q⟩
 .exact jM' p_ s σ H xs us Q I r h
 .obtain⟨u,rfl,ru⟩:=dl' r
  cases ru
  obtain⟨z,hd,vs,rel,dd⟩:=ft' I.hok ha
  have e:=Paired.length rel
  exact lD' hd dd (by rw[<- e];rw[sizeLine_eq]at z;omega) ⟨.int kvs.length,H,I.tok _,⟨_,by rw[e]⟩,q⟩
end
end L2
namespace L2
open PySem PySem.Spec PyProof.Rows PySem.SeqAt
section
variable {prog:Program} {w:World} {d:Addr} {o:Obj} {es:Array DictEntry} {ep:Nat}
theorem lE' {A:Around} (hh:A.handled=none) (I:Addr) (hne:d≠I) (hd:o.data=.dict es ep):
  Walks prog w A I [I,d] [I] es.size (fun i v=>∃en,es[i]?=some en/\v=en.key) (fun i h=>h.IsKeyIter I d i es.size ep/\h.get? d=some o) where
 sub:=fun b hb=>by simp at hb;simp[hb]
 frame:=fun _ _ _ st hk=>⟨st.1.at fun o e=>hk I (by simp) o e,hk d (by simp) _ st.2⟩
 item:=fun i s Q E hi st hQ=>by
  have hx:es[i]?=some es[i]:=by simp[hi]
  refine i1' st.1 st.2 hd hx fun h' hit' hs'=>?_
  exact hQ _ h' s.toks ⟨_,hx,rfl⟩ ⟨hit',hs'.extBut d _ hne st.2⟩ fun b o hb e=>hs'.extBut b o (fun h=>hb (by simp[h])) e
 done:=fun s Q E st hQ=>lB' hh st.1 st.2 hd (ag _) fun h' he'=>hQ h' s.toks fun b o hb e=>he' b o (fun h=>hb (by simp[h])) e
 self:=fun _ _ _ _ st hQ=>wpAny_pyIter_keyiter st.1 hQ
theorem rF' (lo:(d == sysModules)=false) (hc:o.cls=.type "dict") (hd:o.data=.dict es ep):W.KdlSrc prog w "dict" d d es.size (fun i v=>∃en,es[i]?=some en/\v=en.key) (fun h=>h.get? d=some o) where
 type:=fun _ hm=>⟨o,hm,hc⟩
 there:=fun _ hm=>⟨au hm,au hm⟩
 keep:=fun _ _ hm hk=>hk d (.inl rfl) _ hm
 notList:=by decide
 notTuple:=by decide
 hint:=fun _ _ _ _ hm hq=>W.kdl_hint_dict ⟨o,hm,hc⟩ hq
 iter:=fun _ _ hh hm=>⟨_,_,(fun _ _ hq=>i2' lo ⟨o,hm,hc⟩ hm hd hq),lE' hh _ (aA (au hm)) hd,⟨⟨_,al _ rfl,rfl,rfl⟩,af _ hm⟩⟩
end
end L2
namespace L2
open PySem PySem.Spec PyProof.Rows PySem.Ts PySem.SeqAt
def unK (ks:List Key):List Int:=ks.map fun k=>match k with
 | .inl i=>i
 |_=>0
theorem lF' {is:List Int}:unK (is.map Key.inl)=is:=by
 unfold unK
 rw[aX]
 conv=>rhs;rw[<- List.map_id is]
 rfl
section
variable {prog:Program} {w:World} {A:Around} {E:Value->Shared->Prop} {s:Shared} {T:String} {r d:Addr} {n:Nat} {P:Nat->Value->Prop} {OK:Heap->Prop}
theorem h8' {R:List Value->Shared->Prop} (K:W.KdlSrc prog w T r d n P OK) (hh:A.handled=none) (hok:OK s.heap) (hn:n<=sizeLine)
  (h:∀(h':Heap) (tk:Nat) (acc:Array Value),(∀b o,s.heap.get? b=some o->h'.get? b=some o)->s.heap.objs.size<=h'.objs.size->ItemsOf P acc n->R acc.toList { s with heap:=h',toks:=tk }):wpAny (model prog w) A (collect (.ref r)) R E s:=by
 obtain⟨l1,l2⟩:=K.there _ hok
 unfold collect
 refine aa (wpAny_runValue (codeAny_builtin F.entry_proto_collect ?_))
 rw[Around.under_plainId F.plain_proto_collect _]
 show wpAny _ A.in1 (newList [] >>= fun l=>again (.builtin "list.__iadd__" ⟨[l,.ref r],[]⟩)) _ _ s
 refine aa (aI ?_)
 refine ab ⟨plainId_quiet F.plain_list_iadd _,codeAny_builtin F.entry_list_iadd ?_⟩
 rw[Around.under_plainId F.plain_list_iadd _]
 generalize hlo:({ cls:=.type "list",data:=.seq ([]:List Value).toArray }:Obj)=lo
 have hS:(s.heap.push lo).get? s.heap.objs.size=some lo:=al _ (by rw[<- hlo];rfl)
 show wpAny _ A.in1 (Builtin.List.listExtendWith (.ref s.heap.objs.size) (.ref r) (.ref s.heap.objs.size)) _ _ _
 refine dh (W.kdl_extend (A:=A) (s:={ s with heap:=s.heap.push lo })
  (R:=fun q s'=>∃h' tk acc,q=.ok (.ret (.ref s.heap.objs.size))/\s'={ s with heap:=h',toks:=tk }/\(∀b o,s.heap.get? b=some o->h'.get? b=some o)/\(∃c,h'.get? s.heap.objs.size=some { cls:=.type "list",dict:=none,data:=.seq acc c,slots:=#[] })/\ItemsOf P acc n)
  K hh (K.keep _ _ hok fun b _ o e=>af _ e) s.heap.objs.size (bC l1) (bC l2) (.ref s.heap.objs.size) 0 (by rw[hS,<- hlo])
  (fun h' tk acc c hk hS' hacc=>⟨h',tk,acc,rfl,rfl,fun b o e=>hk b o (aA (au e)) (af _ e),⟨c,hS'⟩,hacc⟩) hn) (fun fin s' x=>?_) fun e s' x=>?_
 .cases fin with
  |done f=>
   obtain⟨h',tk,acc,e,rfl,hk,⟨c,hS'⟩,hacc⟩:=x
   cases e
   show wpAny _ A (load s.heap.objs.size >>= _) _ _ _
   exact aa (wpAny_load hS' (ab (h h' tk acc hk (bP (au hS')) hacc)))
  |again c=>
   refine⟨x.1,codeAny_mono x.2 fun q s2 y=>?_⟩
   obtain⟨h',tk,acc,rfl,rfl,hk,⟨c,hS'⟩,hacc⟩:=y
   show wpAny _ A (load s.heap.objs.size >>= _) _ _ _
   exact aa (wpAny_load hS' (ab (h h' tk acc hk (bP (au hS')) hacc)))
 .obtain⟨_,_,_,e',_⟩:=x
  cases e'
end
section
variable {X:Cx}
theorem fa' {α β γ:Type} {F:α->β->Prop} {f:α->γ} {g:β->γ}:∀{xs:List α} {ys:List β},Paired F xs ys->(∀x y,F x y->f x=g y)->xs.map f=ys.map g
 |_,_,.nil,_=>rfl
 |_,_,.cons h r,k=>by rw[aS,aS,k _ _ h,fa' r k]
theorem lG' {prog:Program} {w:World} {h0:Heap} {a:Addr} {vs:List Value} {O:KeyOrd} {kv:Value->O.α} (h:y5' prog w h0 a vs O kv) (hs:vs.Pairwise fun x y=>O.kle (kv x) (kv y)):UpV prog w h0 a vs:=by
 intro h2
 obtain⟨κ,hκ⟩:=h h2
 refine⟨κ,fun A s hk=>?_⟩
 obtain⟨k1,k2⟩:=hκ A s hk
 refine⟨k1,fun i x y hi hx hy E Q q=>?_⟩
 have at_:∀{i:Nat} {x:Keyed},(pairsOf vs)[i]?=some x->vs[i]?=some x.1:=fun {i x} hx=>by
  rw[<- cc,pairsOf_toList,List.getElem?_zip_eq_some]at hx
  exact hx.1
 have hx:=at_ hx
 have hy:=at_ hy
 obtain⟨l1,e1⟩:=aN.mp hx
 obtain⟨l2,e2⟩:=aN.mp hy
 have:=bm.mp hs (i-1) i l2 l1 ⋯
 rw[e1,e2]at this
 refine k2 x.1 y.1 (aq hx) (aq hy) E Q ?_
 rw[show O.blt (kv x.1) (kv y.1)=false from this]
 exact q
def pU':List V->Hp->VK->Prop:=fun xs H Q=>∃(a:Addr) (kvs:List (List Key×V)) (n:Nat),xs=[.ref a]/\Rd H a (.dT kvs)/\(∀kv∈kvs,∃is:List Int,kv.1=is.map Key.inl/\is.length=n+1)/\((kvs.map fun kv=>unK kv.1).Pairwise fun x y=>aU' (kI y) (kI x)=false)/\
 ∀(l:Addr) (as:List Addr),H l=none->as.length=kvs.length->(∀(i:Nat) b kv,as[i]?=some b->kvs[i]?=some kv->H b=some (.tup (kv.1.map kV)))->Q (.ref l) (upd H l (.lst (as.map V.ref)))
theorem jP' (hc:X.calm=true):aP' X (.builtin "sorted") pU':=by
 intro p_ s σ H xs us Q I rv h
 obtain⟨a,kvs,n,rfl,hH,hk,hup,q⟩:=h
 obtain⟨u,rfl,r1⟩:=dl' rv
 cases r1
 obtain⟨z,hd,xs,rel,o,es,ep,ho,hcl,hdat,he,_⟩:=ft' I.hok hH
 have hlen:kvs.length=xs.length:=Paired.length rel
 have hsz:es.size=xs.length:=size_of_entries he
 have hz:es.size<=sizeLine:=by rw[hsz,<- hlen];exact z
 have hx:∀x∈xs,∃is:List Int,x.1=is.map Key.inl/\is.length=n+1/\H x.2.1=some (.tup (is.map V.int)):=fun x hx=>by
  obtain⟨kv,hkv,e1,e2,_⟩:=a9' rel hx
  obtain⟨is,e3,e4⟩:=hk kv hkv
  refine⟨is,by rw[<- e1,e3],e4,?_⟩
  rw[e2,e3,ed']
 generalize hL:(xs.map fun x=>(unK x.1,x.2.1))=L
 have hLm:∀p∈L,H p.2=some (.tup (p.1.map V.int))/\p.1.length=n+1:=fun p hp=>by
  rw[<- hL]at hp
  obtain⟨x,hxm,rfl⟩:=az.mp hp
  obtain⟨is,e1,e2,e3⟩:=hx x hxm
  show H x.2.1=some (.tup ((unK x.1).map V.int))/\(unK x.1).length=n+1
  rw[e1,lF']
  exact⟨e3,e2⟩
 have hLl:L.length=xs.length:=by rw[<- hL,ac]
 have hLk:L.map Prod.fst=kvs.map fun kv=>unK kv.1:=by
  rw[<- hL,aX]
  exact(fa' rel fun x y h=>by show unK x.1=unK y.1;rw[h.1]).symm
 refine Calls.call_function_entry kind_sorted plain_sorted entry_sorted (args_sorted1 _) ?_
 unfold Builtin.«sorted»
 refine aa (m:=checkCount "sorted" 1 1 _) (ab (aa (h8' (rF' hd hcl.1 hdat) (I.ok.hd hc) ho hz fun h' tk acc k1 hle hacc=>?_)))
 have hal:acc.toList.length=xs.length:=by rw[ai,hacc.1,hsz]
 have eacc:acc.toList=L.map fun q=>Value.ref q.2:=by
  apply bA
  intro i
  rw[<- hL,aX,ao]
  cases e:xs[i]? with
  |none=>rw[aU (by rw[hal];exact bi.mp e)];rfl
  |some p=>
   have hi:i<acc.toList.length:=by rw[hal];exact ltG e
   obtain⟨en,hen,ev⟩:=hacc.2 i acc.toList[i] (by rw[<- cc];exact ae hi)
   rw[entry_at he,e]at hen
   cases hen
   rw[ae hi,ev]
   rfl
 rw[eacc]
 refine aa (wpAny_newList ?_ (by rw[ac,hLl,<- hsz];exact hz))
 have tps:∀q∈L,Tps h' (q.2,kI q.1):=fun q hq=>by
  obtain⟨o,items,n,g1,g2,g3,g4⟩:=vf' (q:=q) I.hok (hLm q hq).1
  exact⟨o,items,n,k1 _ _ g1,g2,g3,vh' g4⟩
 generalize hqs:L.map (fun q=>(q.2,kI q.1))=qs
 have hvs:(L.map fun q=>Value.ref q.2)=qs.map fun q=>Value.ref q.1:=by rw[<- hqs,aX];rfl
 have hP:∀q∈qs,Tps h' q:=fun q hq=>by
  rw[<- hqs]at hq
  obtain⟨p,hp',rfl⟩:=az.mp hq
  exact tps p hp'
 have hsh:∀q∈qs,shp q.2=true :: av n true:=fun q hq=>by
  rw[<- hqs]at hq
  obtain⟨p,hp',rfl⟩:=az.mp hq
  show shp (kI p.1)=_
  rw[vi',(hLm p hp').2]
  rfl
 have hoL:(h'.push (seqObj "list" (L.map fun q=>Value.ref q.2).toArray 0)).get? h'.objs.size=some (seqObj "list" (L.map fun q=>Value.ref q.2).toArray 0):=al _ rfl
 have hany:y5' X.prog X.w (h'.push (seqObj "list" (L.map fun q=>Value.ref q.2).toArray 0)) h'.objs.size (L.map fun q=>Value.ref q.2) lz' (tG' qs):=by
  rw[hvs]
  refine n7' (fun q hq=>?_) (fun q hq=>?_) hsh
  .obtain⟨o,xs,n,g1,r⟩:=hP q hq
   exact⟨o,xs,n,af _ g1,r⟩
  .obtain⟨o,xs,n,g1,r⟩:=hP q hq
   exact aA (au g1)
 have hLu:L.Pairwise fun x y=>aU' (kI y.1) (kI x.1)=false:=by
  rw[<- hLk,bF]at hup
  exact hup
 have hvu:(L.map fun q=>Value.ref q.2).Pairwise fun x y=>lz'.kle (tG' qs x) (tG' qs y):=by
  rw[bF]
  refine List.Pairwise.imp_of_mem (fun {x y} hx hy z=>?_) hLu
  have hkk:∀x∈L,tG' qs (.ref x.2)=kI x.1:=fun x hx=>by
   have:(x.2,kI x.1)∈qs:=by rw[<- hqs];exact az.mpr ⟨x,hx,rfl⟩
   exact h7' hP this
  unfold KeyOrd.kle
  rw[hkk x hx,hkk y hy]
  exact z
 refine aa (aH (aO slot_list_sort ⟨_,hoL,rfl⟩ entry_list_sort (rC' hoL (lG' hany hvu) (by rw[ac,hLl,<- hsz];exact hz) ⟨_,rfl,ab ⟨_,rfl,?_⟩⟩) (args_list_sort _)))
 obtain⟨e',he'⟩:=sortedHeap_at (out:=(L.map fun q=>Value.ref q.2).toArray) hoL
 have hn:H h'.objs.size=none:=I.hok.fresh hle
 refine⟨.ref h'.objs.size,_,I.laid (a:=h'.objs.size) (o:=.lst ((L.map fun q=>q.2).map V.ref)) (fun b o eb=>?_) hle ⟨by rw[ac,ac,hLl,<- hlen];exact z,_,e',by rw[aX];exact i0' L,he'⟩,rfl,q _ (L.map fun q=>q.2) hn (by rw[ac,hLl,hlen]) fun i b kv hb hkv=>?_⟩
 .have hlt:=au (k1 b o eb)
  rw[sortedHeap_old (aA hlt) (by rw[size_push'];exact bB hlt)]
  exact af _ (k1 b o eb)
 .rw[ao]at hb
  cases e:L[i]? with
  |none=>rw[e]at hb;cases hb
  |some p=>
   rw[e]at hb
   cases hb
   obtain⟨is,e3,_⟩:=hk kv (aq hkv)
   have e4:(L.map Prod.fst)[i]?=some p.1:=by rw[ao,e];rfl
   rw[hLk,ao,hkv]at e4
   have e5:unK kv.1=p.1:=Option.some.inj e4
   rw[e3,lF']at e5
   have:=(hLm p (aq e)).1
   rw[<- e5]at this
   rw[e3,ed']
   exact this
end
end L2
namespace L2
open PySem PySem.Spec PyProof.Rows PySem.Ts
abbrev sH1 (h:Heap) (x:Str) (t:Tok):Heap:=h.push { cls:=.type "str_ascii_iterator",data:=.fields #[.str x t,.int 0 0] }
end L2
namespace R3
open PySem PySem.Spec PyProof.Rows L2
inductive Bf where
 |len|abs|int|isinstance|max|min|list|tuple|range|set|sortU|maxT|lenD
 deriving DecidableEq
inductive Mf where
 |append|join
 deriving DecidableEq
inductive Zf where
 |neD0
 deriving DecidableEq
inductive Yf where
 |dct
 deriving DecidableEq
set_option genInjectivity false
mutual
inductive Ce where
 |var (i:Nat)|int (n:Int)|bl (b:Bool)|non|str (x:Str)
 |bin (op:Operator) (a b:Ce)
 |neg (a:Ce)|not (a:Ce)
 |and (a b:Ce)|or (a b:Ce)
 |cmp (op:CmpOp) (a b:Ce)
 |ife (q:Cq) (a b:Ce)
 |tup (es:Ces)|lst (es:Ces)
 |idx (a b:Ce)
 |cut (a:Ce) (lo hi:Co)
 |call (f:Str) (es:Ces)
 |blt (f:Bf) (es:Ces)
 |met (m:Mf) (o:Ce) (es:Ces)
 |comp (elt:Ce) (own:List Nat) (t:Ct) (it:Ci) (q:Cqo) (r:Cc)
 |dnew|dnt|dnn|orv (a b:Ce)|din (neg:Bool) (a b:Ce)|dgt (a b:Ce)|cal (f:Yf) (a:Ce)|rvt (a:Ce)
 |ssc (elt:Ce) (own:List Nat) (t:Ct) (it:Ci) (q:Cqo)
inductive Ces where
 |nil|cons (e:Ce) (r:Ces)
inductive Cq where
 |val (e:Ce)|not (q:Cq)|and (a b:Cq)|or (a b:Cq)|cmp (op:CmpOp) (a b:Ce)|din (neg:Bool) (a b:Ce)|cmw (k:Zf) (a b:Ce)
inductive Cqo where
 |none|some (q:Cq)
inductive Co where
 |none|some (e:Ce)
inductive Ci where
 |val (e:Ce)|range1 (a:Ce)|range2 (a b:Ce)|enum (a:Ce)|dk (e:Ce)
inductive Ct where
 |name (i:Nat)|tup (ts:Cts)|sub (o i:Ce)
inductive Cts where
 |nil|cons (t:Ct) (r:Cts)
inductive Cc where
 |nil|cons (ws:List Nat) (t:Ct) (it:Ci) (q:Cqo) (r:Cc)
end
mutual
inductive Cs where
 |expr (e:Ce)|ret (e:Ce)|asg (t:Ct) (e:Ce)|aug (i:Nat) (sub:Bool) (e:Ce)
 |ite (q:Cq) (a b:Css)|whl (q:Cq) (b:Css)|for_ (t:Ct) (it:Ci) (b:Css)|dput (o i e:Ce)
 |setc2 (i:Nat) (elt:Ce) (own:List Nat) (t:Ct) (it:Ci) (q:Cqo) (ws:List Nat) (t2:Ct) (it2:Ci) (q2:Cqo)|dctc (tup:Bool) (i:Nat) (k v:Ce) (own:List Nat) (t:Ct) (it:Ci) (q:Cqo)
inductive Css where
 |nil|cons (s:Cs) (r:Css)
end
set_option genInjectivity true
def AS' (i j:Int):Prop:=0<=j/\j<=1000000/\i.natAbs<2 ^ 250*2 ^ 250*2 ^ 250
def vm' (_ j:Int):Prop:=0<j/\(j<1073741824\/j.natAbs.log2<9000)
def vn' (i j:Int):Prop:=(-(2 ^ 64)<i/\i<2 ^ 64)\/(-(2 ^ 64)<j/\j<2 ^ 64)\/IntMulOk i j
section
variable (K:W.Frag)
def fb':Operator->R2
 | .Add=>fun x y H Q=>match x,y with
  | .int i,.int j=>Q (.int (i+j)) H
  | .str i,.str j=>i.length+j.length<=sizeLine/\Q (.str (i++j)) H
  |x,y=>AE' x y H Q\/ue' K x y H Q\/pI' K x y H Q
 | .Sub=>rI0 fun i j=>.int (i-j)
 | .Mult=>fun x y H Q=>match x,y with
  | .int i,.int j=>vn' i j/\Q (.int (i*j)) H
  | .str a,.int n=>-1000000<=n/\n<=1000000/\a.length*n.toNat<=1000000/\Q (.str (Txt.mul a n)) H
  |x,y=>AF' x y H Q
 | .Mod=>rI (fun _ j=>0<j) fun i j=>.int (i % j)
 | .FloorDiv=>rI vm' fun i j=>.int (i / j)
 | .Pow=>rI yA' fun i j=>.int (i ^ j.toNat)
 | .LShift=>rI AS' fun i j=>.int (i*2 ^ j.toNat)
 | .RShift=>rI (fun _ j=>0<=j) fun i j=>.int (i / 2 ^ j.toNat)
 | .BitAnd=>rI (fun i j=>0<=i/\j=1) fun i _=>.int (i % 2)
 |_=>fun _ _ _ _=>False
def cz':CmpOp->R2
 | .Eq=>fun x y H Q=>match x,y with
  | .ref a,.ref b=>x3' K false (.ref a) (.ref b) H Q\/x6' false (.ref a) (.ref b) H Q
  |x,y=>rEq x y H Q
 | .NotEq=>fun x y H Q=>match x,y with
  | .ref a,.ref b=>x3' K true (.ref a) (.ref b) H Q\/x6' true (.ref a) (.ref b) H Q
  |x,y=>rNe x y H Q
 | .Lt=>rI0 fun i j=>.bl (decide (i<j))
 | .LtE=>rI0 fun i j=>.bl (decide (i<=j))
 | .Gt=>fun x y H Q=>match x with
  | .str a=>AL' (.str a) y H Q
  |x=>rI0 (fun i j=>.bl (decide (j<i))) x y H Q
 | .GtE=>rI0 fun i j=>.bl (decide (j<=i))
 | .Is=>fun x y H Q=>match y with
  | .bl b=>x4' false x (.bl b) H Q
  |y=>y=.non/\Q (.bl (decide (x=.non))) H
 | .IsNot=>fun x y H Q=>match y with
  | .bl b=>x4' true x (.bl b) H Q
  |y=>y=.non/\Q (.bl (!decide (x=.non))) H
 | .In=>fun x y H Q=>match y with
  | .str b=>x5' false x (.str b) H Q
  |y=>rIn K false x y H Q
 | .NotIn=>fun x y H Q=>match y with
  | .str b=>x5' true x (.str b) H Q
  |y=>rIn K true x y H Q
def dF':Bf->List V->Hp->VK->Prop
 | .len=>fun xs H Q=>∃x n,xs=[x]/\AC' K x H n/\Q (.int n) H
 | .abs=>fun xs H Q=>∃i,xs=[.int i]/\Q (.int (if i<0 then -i else i)) H
 | .int=>fun xs H Q=>match xs with
  | [.int i]=>Q (.int i) H
  | [.bl k]=>Q (.int (if k then 1 else 0)) H
  | [.str x]=>∃n,PySem.intText? x=some n/\x.length<=640/\Q (.int n) H
  | [.str x,.int j]=>j=2/\∃n,B2 x n/\Q (.int n) H
  |_=>False
 | .isinstance=>fun _ _ _=>False
 | .maxT=>uQ' K
 | .max=>fun xs H Q=>match xs with
  | [.int i,.int j]=>Q (.int (if j > i then j else i)) H
  |xs=>nG' K true xs H Q
 | .min=>fun xs H Q=>match xs with
  | [.int i,.int j]=>Q (.int (if j<i then j else i)) H
  |xs=>nG' K false xs H Q
 | .list=>fun xs H Q=>(∃p ys,xs=[.ref p]/\(SqL K H p ys\/SqT K H p ys)/\∀l,H l=none->Q (.ref l) (upd H l (.lst ys)))\/AJ' xs H Q
 | .range=>AI'
 | .set=>pM' K
 | .sortU=>pU'
 | .lenD=>pT'
 | .tuple=>fun xs H Q=>∃p ys,xs=[.ref p]/\((SqL K H p ys/\∀l,H l=none->Q (.ref l) (upd H l (.tup ys)))\/(SqT K H p ys/\Q (.ref p) H))
def pV':Mf->V->List V->Hp->VK->Prop
 | .append=>kx'
 | .join=>uy' K
def jQ':Mf->String
 | .join=>"str"
 |_=>"list"
def lI':Mf->Str
 | .append=>"append"
 | .join=>"join"
def ei':Bf->Str
 | .len=>"len"
 | .abs=>"abs"
 | .int=>"int"
 | .isinstance=>"isinstance"
 | .max=>"max"
 | .min=>"min"
 | .maxT=>"max"
 | .list=>"list"
 | .tuple=>"tuple"
 | .range=>"range"
 | .set=>"set"
 | .sortU=>"sorted"
 | .lenD=>"len"
def oa':R2:=fun x y H Q=>match x,y with
 | .str z,.int i=>z.length<=sizeLine/\∃c,atI z.cps.toList i=some c/\Q (.str ⟨#[c]⟩) H
 |x,y=>hv' K x y H Q\/hH' K x y H Q
def rSl:V->Option Int->Option Int->Hp->VK->Prop:=fun x lo hi H Q=>match x with
 | .str a=>a.length<=sizeLine/\Q (.str (Txt.slice a lo hi)) H
 |x=>x0' K x lo hi H Q\/xZ' K x lo hi H Q\/x7' K x lo hi H Q
end
def AT':Zf->CmpOp
 | .neD0=>.NotEq
def rZf:Zf->R2
 | .neD0=>uZ'
def vo':Yf->Str
 | .dct=>"dict"
def rYf:Yf->List V->Hp->VK->Prop
 | .dct=>u0'
structure Rc where
 N:List Str
 B:List Str
 K:W.Frag
 fs:Str->Option Sp
 xk:L2.St->XK:=fun _=>E0
 cl:Str->Option Addr:=fun _=>none
def ob' (neg:Bool) (ty td:TE):TE:=y0' neg ty td
def oc':Cts->Nat
 | .nil=>0
 | .cons _ r=>oc' r+1
mutual
def tE (C:Rc):Ce->TE
 | .var i=>xV' i
 | .int n=>tC (.int n)
 | .bl b=>tC (.bl b)
 | .non=>tC .non
 | .str x=>tC (.str x)
 | .bin op a b=>tOp (fb' C.K op) (tE C a) (tE C b)
 | .neg a=>tUn (rU fun i=>.int (-i)) (tE C a)
 | .not a=>qH' (tE C a)
 | .and a b=>nj' (tE C a) (tE C b)
 | .or a b=>xW' (tE C a) (tE C b)
 | .orv a b=>x1' (tE C a) (tE C b)
 | .cmp op a b=>tOp (cz' C.K op) (tE C a) (tE C b)
 | .ife q a b=>tIf (tQ C q) (tE C a) (tE C b)
 | .tup es=>yH' (tA C es)
 | .lst es=>yI' (tA C es)
 | .idx a b=>tOp (oa' C.K) (tE C a) (tE C b)
 | .cut a lo hi=>tSl (rSl C.K) (tE C a) (tO C lo) (tO C hi)
 | .call f es=>fun σ H Q=>match C.fs f with
  |some sp=>ns' sp [] (C.xk σ) (tA C es) σ H Q
  |none=>False
 | .blt f es=>tCB (dF' C.K f) (tA C es)
 | .met m o es=>tBM C.K (jQ' m) (pV' C.K m) (tE C o) (tA C es)
 | .dnew=>kC'
 | .dnt=>kD'
 | .dnn=>lb'
 | .din neg a b=>ob' neg (tE C a) (tE C b)
 | .dgt a b=>lp' (tE C a) (tE C b)
 | .cal f a=>tCB (rYf f) (cR' (tE C a) ka')
 | .rvt a=>yS' C.K (tE C a)
 | .ssc elt own t it q=>y2' own (tI C it) (tG C t) (tQo C q) (cZ' (tE C elt))
 | .comp elt own t it q r=>hN' own (tI C it) (tG C t) (tQo C q) (tR C r (d4' (tE C elt)))
def tA (C:Rc):Ces->TA
 | .nil=>ka'
 | .cons e r=>cR' (tE C e) (tA C r)
def tQ (C:Rc):Cq->TT
 | .val e=>fun σ H Q=>tE C e σ H fun x H'=>∃k,t8' C.K x H' k/\Q k H'
 | .not q=>yn' (tQ C q)
 | .and a b=>tN' (tQ C a) (tQ C b)
 | .or a b=>tOr (tQ C a) (tQ C b)
 | .cmp op a b=>hE' (tOp (cz' C.K op) (tE C a) (tE C b))
 | .din neg a b=>hE' (ob' neg (tE C a) (tE C b))
 | .cmw k a b=>hE' (tOp (rZf k) (tE C a) (tE C b))
def tQo (C:Rc):Cqo->TT
 | .none=>fun _ H Q=>Q true H
 | .some q=>tQ C q
def tO (C:Rc):Co->TO
 | .none=>hF'
 | .some e=>nv' (tE C e)
def tI (C:Rc):Ci->TI
 | .val e=>yO' C.K (tE C e)
 | .range1 a=>qP' (cR' (tE C a) ka')
 | .range2 a b=>qQ' (cR' (tE C a) (cR' (tE C b) ka'))
 | .enum a=>rb' C.K (tE C a)
 | .dk e=>y9' (tE C e)
def tG (C:Rc):Ct->TG
 | .name i=>cQ' i
 | .tup ts=>za' C.K (oc' ts) (tGs C ts)
 | .sub o i=>yu' (tE C o) (tE C i) eK'
def tGs (C:Rc):Cts->TGs
 | .nil=>yt'
 | .cons t r=>qN' (tG C t) (tGs C r)
def tR (C:Rc):Cc->TL (List V)->TL (List V)
 | .nil,em=>em
 | .cons ws t it q r,em=>hM' (tI C it) (a0' ws (tG C t) (tQo C q) (tR C r em))
end
mutual
def tS (C:Rc):Cs->TS
 | .expr e=>qK' (tE C e)
 | .ret e=>yp' (tE C e)
 | .asg t e=>j9' (tE C e) (tG C t)
 | .aug i sub e=>yv' i (tE C e) (ipI fun i j=>if sub then i-j else i+j)
 | .ite q a b=>yq' (tQ C q) (tSs C a) (tSs C b)
 | .whl q b=>kf' (tQ C q) (tSs C b)
 | .for_ t it b=>yw' (tI C it) (tG C t) (tSs C b)
 | .dput o i e=>ld' (tE C o) (tE C i) (tE C e)
 | .setc2 i elt own t it q ws t2 it2 q2=>j9' (u9' own (tI C it) (tG C t) (tQo C q) (hM' (tI C it2) (a0' ws (tG C t2) (tQo C q2) (cZ' (tE C elt))))) (cQ' i)
 | .dctc tup i k v own t it q=>if tup then j9' (vb' own (tI C it) (tG C t) (tQo C q) (tE C k) (tE C v)) (cQ' i)else j9' (va' own (tI C it) (tG C t) (tQo C q) (tE C k) (tE C v)) (cQ' i)
def tSs (C:Rc):Css->TS
 | .nil=>qI'
 | .cons s r=>yo' (tS C s) (tSs C r)
end
def vis (sc:Scope) (x:Str):Bool:=match sc.names.lookup x with
 |some .local=>true
 |some .cell=>true
 |some .free=>true
 |_=>false
def locb (sc:Scope) (x:Str):Bool:=match sc.names.lookup x with
 |some .local=>true
 |some .cell=>true
 |_=>false
def glb (sc:Scope) (x:Str):Bool:=decide (sc.names.lookup x=some .globalImplicit)
def gI' (N:List Str) (i:Nat) (x:Str):Bool:=decide (N[i]?=some x)&&!(x == ("__debug__":Str))&&!(x == ("__classdict__":Str))
def a7':Expr->Bool
 | .Starred ..=>false
 |_=>true
def aT':Expr->Bool
 | .Set ..=>false
 |_=>true
def c4':Expr->Bool
 | .Slice ..=>false
 |_=>true
def lJ':Expr->Bool
 | .Call _ [] _ _=>false
 |_=>true
def pW':Expr->Bool
 | .UnaryOp .Not _ _=>false
 | .BoolOp ..=>false
 | .IfExp ..=>false
 | .Compare ..=>false
 |_=>true
def jR' (N:List Str) (sc scope:Scope) (own:List Nat):Bool:=
 decide (scope.kind=.function)&&
 scope.names.all (fun x=>(decide (x.2≠.local) || decide (scope.names.lookup x.1=some .local))&&(decide (x.2≠.cell) || decide (scope.names.lookup x.1=some .cell))&&
  (decide (x.2≠.free) || decide (sc.names.lookup x.1=some .cell) || decide (sc.names.lookup x.1=some .free)))&&
 (aG N.length).all (fun i=>match N[i]? with
  |some x=>(decide (scope.names.lookup x≠some .local)&&decide (scope.names.lookup x≠some .cell)) || decide (i∈own)
  |none=>true)
def f9':Ci->Expr->Bool
 | .enum _,.Tuple ..=>true
 | .enum _,_=>false
 |_,_=>true
mutual
def fc' (own:List Nat):Ct->Bool
 | .name i=>decide (i∈own)
 | .tup ts=>lK' own ts
 | .sub _ _=>false
def lK' (own:List Nat):Cts->Bool
 | .nil=>true
 | .cons t r=>fc' own t&&lK' own r
end
def tld (B:List Str):Bool:=decide (("~":Str)∈B)
def hat (B:List Str):Bool:=decide (("^":Str)∈B)
def pct (B:List Str):Bool:=decide (("%":Str)∈B)
def tH' (x:Str):Str:=⟨#[33]++x.cps⟩
theorem ao' {P:Prop} (h:false=true):P:=(ak h).elim
theorem gJ' {a b:Bool} (h:(a&&b)=true):a=true/\b=true:=by
 cases a with
 |true=>exact⟨rfl,h⟩
 |false=>exact ao' h
def zb' (e:Expr) (f:Expr->Expr->Bool):Bool:=match e with
 | .BoolOp .And [x,y] _=>f x y
 | .BoolOp .And (x :: y :: z :: r) pos=>f x (.BoolOp .And (y :: z :: r) pos)
 |_=>false
theorem lL' {e:Expr} {f:Expr->Expr->Bool} (h:zb' e f=true):(∃x y pos,e=.BoolOp .And [x,y] pos/\f x y=true)\/∃x y z r pos,e=.BoolOp .And (x :: y :: z :: r) pos/\f x (.BoolOp .And (y :: z :: r) pos)=true:=by
 cases e with
 |BoolOp o vs pos=>
  cases o with
  |And=>
   cases vs with
   |nil=>exact ao' h
   |cons x r=>
    cases r with
    |nil=>exact ao' h
    |cons y r=>
     cases r with
     |nil=>exact .inl ⟨x,y,pos,rfl,h⟩
     |cons z r=>exact .inr ⟨x,y,z,r,pos,rfl,h⟩
  |_=>exact ao' h
 |_=>exact ao' h
def vOr (e:Expr) (f:Expr->Expr->Bool):Bool:=match e with
 | .BoolOp .Or [x,y] _=>f x y
 | .BoolOp .Or (x :: y :: z :: r) pos=>f x (.BoolOp .Or (y :: z :: r) pos)
 |_=>false
theorem lM' {e:Expr} {f:Expr->Expr->Bool} (h:vOr e f=true):(∃x y pos,e=.BoolOp .Or [x,y] pos/\f x y=true)\/∃x y z r pos,e=.BoolOp .Or (x :: y :: z :: r) pos/\f x (.BoolOp .Or (y :: z :: r) pos)=true:=by
 cases e with
 |BoolOp o vs pos=>
  cases o with
  |Or=>
   cases vs with
   |nil=>exact ao' h
   |cons x r=>
    cases r with
    |nil=>exact ao' h
    |cons y r=>
     cases r with
     |nil=>exact .inl ⟨x,y,pos,rfl,h⟩
     |cons z r=>exact .inr ⟨x,y,z,r,pos,rfl,h⟩
  |_=>exact ao' h
 |_=>exact ao' h
def bc' {α:Type} (z:List α) (f:Bool):Bool:=match z with
 | []=>f
 |_=>false
theorem ak' {α:Type} {z:List α} {f:Bool} (h:bc' z f=true):z=[]/\f=true:=by
 cases z with
 |nil=>exact⟨rfl,h⟩
 |_=>exact ao' h
def aG' {α:Type} (z:List α) (f:α->List α->Bool):Bool:=match z with
 |x :: r=>f x r
 |_=>false
theorem aj' {α:Type} {z:List α} {f:α->List α->Bool} (h:aG' z f=true):∃x r,z=x :: r/\f x r=true:=by
 cases z with
 |cons x r=>exact⟨x,r,rfl,h⟩
 |_=>exact ao' h
def gK' {α:Type} (z:Option α) (f:Bool):Bool:=match z with
 |none=>f
 |_=>false
theorem c5' {α:Type} {z:Option α} {f:Bool} (h:gK' z f=true):z=none/\f=true:=by
 cases z with
 |none=>exact⟨rfl,h⟩
 |_=>exact ao' h
def i4' {α:Type} (z:Option α) (f:α->Bool):Bool:=match z with
 |some x=>f x
 |_=>false
theorem ej' {α:Type} {z:Option α} {f:α->Bool} (h:i4' z f=true):∃x,z=some x/\f x=true:=by
 cases z with
 |some x=>exact⟨x,rfl,h⟩
 |_=>exact ao' h
def ek' (z:Comprehension) (f:Expr->Expr->List Expr->Int->Bool):Bool:=f z.target z.iter z.ifs z.is_async
theorem bn' {z:Comprehension} {f:Expr->Expr->List Expr->Int->Bool} (h:ek' z f=true):∃a b c d,z=⟨a,b,c,d⟩/\f a b c d=true:=by
 cases z
 exact⟨_,_,_,_,rfl,h⟩
def bX' (z:Expr) (f:Str->Pos->Bool):Bool:=match z with
 | .Name x0 x1=>f x0 x1
 |_=>false
theorem bb' {z f} (h:bX' z f=true):∃x0 x1,z=.Name x0 x1/\f x0 x1=true:=by
 cases z with
 |Name x0 x1=>exact⟨x0,x1,rfl,h⟩
 |_=>exact ao' h
def bm' (z:Expr) (f:Const->Nat->Pos->Bool):Bool:=match z with
 | .Constant x0 x1 x2=>f x0 x1 x2
 |_=>false
theorem a2' {z f} (h:bm' z f=true):∃x0 x1 x2,z=.Constant x0 x1 x2/\f x0 x1 x2=true:=by
 cases z with
 |Constant x0 x1 x2=>exact⟨x0,x1,x2,rfl,h⟩
 |_=>exact ao' h
def lN' (z:Const) (f:Int->Bool):Bool:=match z with
 | .int x0=>f x0
 |_=>false
theorem gL' {z f} (h:lN' z f=true):∃x0,z=.int x0/\f x0=true:=by
 cases z with
 |int x0=>exact⟨x0,rfl,h⟩
 |_=>exact ao' h
def lO' (z:Const) (f:Bool->Bool):Bool:=match z with
 | .bool x0=>f x0
 |_=>false
theorem jS' {z f} (h:lO' z f=true):∃x0,z=.bool x0/\f x0=true:=by
 cases z with
 |bool x0=>exact⟨x0,rfl,h⟩
 |_=>exact ao' h
def lP' (z:Const) (f:Bool):Bool:=match z with
 | .none=>f
 |_=>false
theorem jT' {z f} (h:lP' z f=true):z=.none/\f=true:=by
 cases z with
 |none=>exact⟨rfl,h⟩
 |_=>exact ao' h
def pX' (z:Const) (f:Str->Bool):Bool:=match z with
 | .str x0=>f x0
 |_=>false
theorem lQ' {z f} (h:pX' z f=true):∃x0,z=.str x0/\f x0=true:=by
 cases z with
 |str x0=>exact⟨x0,rfl,h⟩
 |_=>exact ao' h
def i5' (z:Expr) (f:Expr->Operator->Expr->Pos->Bool):Bool:=match z with
 | .BinOp x0 x1 x2 x3=>f x0 x1 x2 x3
 |_=>false
theorem h9' {z f} (h:i5' z f=true):∃x0 x1 x2 x3,z=.BinOp x0 x1 x2 x3/\f x0 x1 x2 x3=true:=by
 cases z with
 |BinOp x0 x1 x2 x3=>exact⟨x0,x1,x2,x3,rfl,h⟩
 |_=>exact ao' h
def cq' (z:Expr) (f:UnaryOp->Expr->Pos->Bool):Bool:=match z with
 | .UnaryOp x0 x1 x2=>f x0 x1 x2
 |_=>false
theorem bY' {z f} (h:cq' z f=true):∃x0 x1 x2,z=.UnaryOp x0 x1 x2/\f x0 x1 x2=true:=by
 cases z with
 |UnaryOp x0 x1 x2=>exact⟨x0,x1,x2,rfl,h⟩
 |_=>exact ao' h
def ia' (z:UnaryOp) (f:Bool):Bool:=match z with
 | .USub=>f
 |_=>false
theorem fe' {z f} (h:ia' z f=true):z=.USub/\f=true:=by
 cases z with
 |USub=>exact⟨rfl,h⟩
 |_=>exact ao' h
def pY' (z:UnaryOp) (f:Bool):Bool:=match z with
 | .Not=>f
 |_=>false
theorem lR' {z f} (h:pY' z f=true):z=.Not/\f=true:=by
 cases z with
 |Not=>exact⟨rfl,h⟩
 |_=>exact ao' h
def ff' (z:Expr) (f:Expr->List CmpOp->List Expr->Pos->Bool):Bool:=match z with
 | .Compare x0 x1 x2 x3=>f x0 x1 x2 x3
 |_=>false
theorem fM' {z f} (h:ff' z f=true):∃x0 x1 x2 x3,z=.Compare x0 x1 x2 x3/\f x0 x1 x2 x3=true:=by
 cases z with
 |Compare x0 x1 x2 x3=>exact⟨x0,x1,x2,x3,rfl,h⟩
 |_=>exact ao' h
def i6' (z:Expr) (f:Expr->Expr->Expr->Pos->Bool):Bool:=match z with
 | .IfExp x0 x1 x2 x3=>f x0 x1 x2 x3
 |_=>false
theorem ib' {z f} (h:i6' z f=true):∃x0 x1 x2 x3,z=.IfExp x0 x1 x2 x3/\f x0 x1 x2 x3=true:=by
 cases z with
 |IfExp x0 x1 x2 x3=>exact⟨x0,x1,x2,x3,rfl,h⟩
 |_=>exact ao' h
def i7' (z:Expr) (f:List Expr->Nat->Pos->Bool):Bool:=match z with
 | .Tuple x0 x1 x2=>f x0 x1 x2
 |_=>false
theorem ic' {z f} (h:i7' z f=true):∃x0 x1 x2,z=.Tuple x0 x1 x2/\f x0 x1 x2=true:=by
 cases z with
 |Tuple x0 x1 x2=>exact⟨x0,x1,x2,rfl,h⟩
 |_=>exact ao' h
def lS' (z:Expr) (f:List Expr->Pos->Bool):Bool:=match z with
 | .List x0 x1=>f x0 x1
 |_=>false
theorem jU' {z f} (h:lS' z f=true):∃x0 x1,z=.List x0 x1/\f x0 x1=true:=by
 cases z with
 |List x0 x1=>exact⟨x0,x1,rfl,h⟩
 |_=>exact ao' h
def bq' (z:Expr) (f:Expr->Expr->Pos->Bool):Bool:=match z with
 | .Subscript x0 x1 x2=>f x0 x1 x2
 |_=>false
theorem bg' {z f} (h:bq' z f=true):∃x0 x1 x2,z=.Subscript x0 x1 x2/\f x0 x1 x2=true:=by
 cases z with
 |Subscript x0 x1 x2=>exact⟨x0,x1,x2,rfl,h⟩
 |_=>exact ao' h
def fN' (z:Expr) (f:Option Expr->Option Expr->Option Expr->Pos->Bool):Bool:=match z with
 | .Slice x0 x1 x2 x3=>f x0 x1 x2 x3
 |_=>false
theorem el' {z f} (h:fN' z f=true):∃x0 x1 x2 x3,z=.Slice x0 x1 x2 x3/\f x0 x1 x2 x3=true:=by
 cases z with
 |Slice x0 x1 x2 x3=>exact⟨x0,x1,x2,x3,rfl,h⟩
 |_=>exact ao' h
def cH' (z:Expr) (f:Expr->List Expr->List Keyword->Pos->Bool):Bool:=match z with
 | .Call x0 x1 x2 x3=>f x0 x1 x2 x3
 |_=>false
theorem by' {z f} (h:cH' z f=true):∃x0 x1 x2 x3,z=.Call x0 x1 x2 x3/\f x0 x1 x2 x3=true:=by
 cases z with
 |Call x0 x1 x2 x3=>exact⟨x0,x1,x2,x3,rfl,h⟩
 |_=>exact ao' h
def cf' (z:Expr) (f:Expr->Str->Pos->Bool):Bool:=match z with
 | .Attribute x0 x1 x2=>f x0 x1 x2
 |_=>false
theorem cg' {z f} (h:cf' z f=true):∃x0 x1 x2,z=.Attribute x0 x1 x2/\f x0 x1 x2=true:=by
 cases z with
 |Attribute x0 x1 x2=>exact⟨x0,x1,x2,rfl,h⟩
 |_=>exact ao' h
def lT' (z:Expr) (f:List (Option Expr)->List Expr->Pos->Bool):Bool:=match z with
 | .Dict x0 x1 x2=>f x0 x1 x2
 |_=>false
theorem jV' {z f} (h:lT' z f=true):∃x0 x1 x2,z=.Dict x0 x1 x2/\f x0 x1 x2=true:=by
 cases z with
 |Dict x0 x1 x2=>exact⟨x0,x1,x2,rfl,h⟩
 |_=>exact ao' h
def em' (z:Expr) (f:Expr->Expr->List Comprehension->Scope->Pos->Bool):Bool:=match z with
 | .DictComp x0 x1 x2 x3 x4=>f x0 x1 x2 x3 x4
 |_=>false
theorem eX' {z f} (h:em' z f=true):∃x0 x1 x2 x3 x4,z=.DictComp x0 x1 x2 x3 x4/\f x0 x1 x2 x3 x4=true:=by
 cases z with
 |DictComp x0 x1 x2 x3 x4=>exact⟨x0,x1,x2,x3,x4,rfl,h⟩
 |_=>exact ao' h
def bZ' (z:Expr) (f:Expr->List Comprehension->Scope->Pos->Bool):Bool:=match z with
 | .ListComp x0 x1 x2 x3=>f x0 x1 x2 x3
 |_=>false
theorem bP' {z f} (h:bZ' z f=true):∃x0 x1 x2 x3,z=.ListComp x0 x1 x2 x3/\f x0 x1 x2 x3=true:=by
 cases z with
 |ListComp x0 x1 x2 x3=>exact⟨x0,x1,x2,x3,rfl,h⟩
 |_=>exact ao' h
def lU' (z:Stmt) (f:Expr->Pos->Bool):Bool:=match z with
 | .Expr x0 x1=>f x0 x1
 |_=>false
theorem jW' {z f} (h:lU' z f=true):∃x0 x1,z=.Expr x0 x1/\f x0 x1=true:=by
 cases z with
 |Expr x0 x1=>exact⟨x0,x1,rfl,h⟩
 |_=>exact ao' h
def gM' (z:Stmt) (f:Option Expr->Pos->Bool):Bool:=match z with
 | .Return x0 x1=>f x0 x1
 |_=>false
theorem gN' {z f} (h:gM' z f=true):∃x0 x1,z=.Return x0 x1/\f x0 x1=true:=by
 cases z with
 |Return x0 x1=>exact⟨x0,x1,rfl,h⟩
 |_=>exact ao' h
def ch' (z:Stmt) (f:List Expr->Expr->Pos->Bool):Bool:=match z with
 | .Assign x0 x1 x2=>f x0 x1 x2
 |_=>false
theorem bI' {z f} (h:ch' z f=true):∃x0 x1 x2,z=.Assign x0 x1 x2/\f x0 x1 x2=true:=by
 cases z with
 |Assign x0 x1 x2=>exact⟨x0,x1,x2,rfl,h⟩
 |_=>exact ao' h
def dt' (z:Expr) (f:Expr->List Comprehension->Scope->Pos->Bool):Bool:=match z with
 | .SetComp x0 x1 x2 x3=>f x0 x1 x2 x3
 |_=>false
theorem c6' {z f} (h:dt' z f=true):∃x0 x1 x2 x3,z=.SetComp x0 x1 x2 x3/\f x0 x1 x2 x3=true:=by
 cases z with
 |SetComp x0 x1 x2 x3=>exact⟨x0,x1,x2,x3,rfl,h⟩
 |_=>exact ao' h
def dG' (z:Stmt) (f:Expr->Operator->Expr->Pos->Bool):Bool:=match z with
 | .AugAssign x0 x1 x2 x3=>f x0 x1 x2 x3
 |_=>false
theorem en' {z f} (h:dG' z f=true):∃x0 x1 x2 x3,z=.AugAssign x0 x1 x2 x3/\f x0 x1 x2 x3=true:=by
 cases z with
 |AugAssign x0 x1 x2 x3=>exact⟨x0,x1,x2,x3,rfl,h⟩
 |_=>exact ao' h
def vp' (z:Stmt) (f:Expr->List Stmt->List Stmt->Pos->Bool):Bool:=match z with
 | .If x0 x1 x2 x3=>f x0 x1 x2 x3
 |_=>false
theorem od' {z f} (h:vp' z f=true):∃x0 x1 x2 x3,z=.If x0 x1 x2 x3/\f x0 x1 x2 x3=true:=by
 cases z with
 |If x0 x1 x2 x3=>exact⟨x0,x1,x2,x3,rfl,h⟩
 |_=>exact ao' h
def i8' (z:Stmt) (f:Expr->List Stmt->List Stmt->Pos->Bool):Bool:=match z with
 | .While x0 x1 x2 x3=>f x0 x1 x2 x3
 |_=>false
theorem ie' {z f} (h:i8' z f=true):∃x0 x1 x2 x3,z=.While x0 x1 x2 x3/\f x0 x1 x2 x3=true:=by
 cases z with
 |While x0 x1 x2 x3=>exact⟨x0,x1,x2,x3,rfl,h⟩
 |_=>exact ao' h
def pZ' (z:Stmt) (f:Expr->Expr->List Stmt->List Stmt->Pos->Bool):Bool:=match z with
 | .For x0 x1 x2 x3 x4=>f x0 x1 x2 x3 x4
 |_=>false
theorem lV' {z f} (h:pZ' z f=true):∃x0 x1 x2 x3 x4,z=.For x0 x1 x2 x3 x4/\f x0 x1 x2 x3 x4=true:=by
 cases z with
 |For x0 x1 x2 x3 x4=>exact⟨x0,x1,x2,x3,x4,rfl,h⟩
 |_=>exact ao' h
def v1 (zz:Expr) (f:Str->Bool):Bool:=bX' zz fun y1 y2=>f y1
theorem AU' {zz f} {P:Prop} (h:v1 zz f=true) (k:∀x w1,zz=.Name x w1->f x=true->P):P:=by
 obtain⟨y1,y2,e0,h⟩:=bb' h
 exact k y1 y2 (by rw[e0]) h
def v2 (zz:Expr) (f:Int->Bool):Bool:=bm' zz fun y1 y2 y3=>lN' y1 fun y4=>f y4
theorem Bw' {zz f} {P:Prop} (h:v2 zz f=true) (k:∀m w1 w2,zz=.Constant (.int m) w1 w2->f m=true->P):P:=by
 obtain⟨y1,y2,y3,e0,h⟩:=a2' h
 obtain⟨y4,e1,h⟩:=gL' h
 exact k y4 y2 y3 (by rw[e0,e1]) h
def v3 (zz:Expr) (f:Bool->Bool):Bool:=bm' zz fun y1 y2 y3=>lO' y1 fun y4=>f y4
theorem Bx' {zz f} {P:Prop} (h:v3 zz f=true) (k:∀c w1 w2,zz=.Constant (.bool c) w1 w2->f c=true->P):P:=by
 obtain⟨y1,y2,y3,e0,h⟩:=a2' h
 obtain⟨y4,e1,h⟩:=jS' h
 exact k y4 y2 y3 (by rw[e0,e1]) h
def v4 (zz:Expr) (f:Bool):Bool:=bm' zz fun y1 y2 y3=>lP' y1 (f)
theorem By' {zz f} {P:Prop} (h:v4 zz f=true) (k:∀w1 w2,zz=.Constant .none w1 w2->f=true->P):P:=by
 obtain⟨y1,y2,y3,e0,h⟩:=a2' h
 obtain⟨e1,h⟩:=jT' h
 exact k y2 y3 (by rw[e0,e1]) h
def v5 (zz:Expr) (f:Str->Bool):Bool:=bm' zz fun y1 y2 y3=>pX' y1 fun y4=>f y4
theorem Bz' {zz f} {P:Prop} (h:v5 zz f=true) (k:∀y w1 w2,zz=.Constant (.str y) w1 w2->f y=true->P):P:=by
 obtain⟨y1,y2,y3,e0,h⟩:=a2' h
 obtain⟨y4,e1,h⟩:=lQ' h
 exact k y4 y2 y3 (by rw[e0,e1]) h
def v6 (zz:Expr) (f:Expr->Operator->Expr->Bool):Bool:=i5' zz fun y1 y2 y3 y4=>f y1 y2 y3
theorem BA' {zz f} {P:Prop} (h:v6 zz f=true) (k:∀ea op' eb w1,zz=.BinOp ea op' eb w1->f ea op' eb=true->P):P:=by
 obtain⟨y1,y2,y3,y4,e0,h⟩:=h9' h
 exact k y1 y2 y3 y4 (by rw[e0]) h
def v7 (zz:Expr) (f:Expr->Bool):Bool:=cq' zz fun y1 y2 y3=>ia' y1 (f y2)
theorem BB' {zz f} {P:Prop} (h:v7 zz f=true) (k:∀ea w1,zz=.UnaryOp .USub ea w1->f ea=true->P):P:=by
 obtain⟨y1,y2,y3,e0,h⟩:=bY' h
 obtain⟨e1,h⟩:=fe' h
 exact k y2 y3 (by rw[e0,e1]) h
def v8 (zz:Expr) (f:Expr->Bool):Bool:=cq' zz fun y1 y2 y3=>pY' y1 (f y2)
theorem AV' {zz f} {P:Prop} (h:v8 zz f=true) (k:∀ea w1,zz=.UnaryOp .Not ea w1->f ea=true->P):P:=by
 obtain⟨y1,y2,y3,e0,h⟩:=bY' h
 obtain⟨e1,h⟩:=lR' h
 exact k y2 y3 (by rw[e0,e1]) h
def v9 (zz:Expr) (f:Expr->CmpOp->Expr->Bool):Bool:=ff' zz fun y1 y2 y3 y4=>aG' y2 fun y5 y6=>bc' y6 (aG' y3 fun y7 y8=>bc' y8 (f y1 y5 y7))
theorem vq' {zz f} {P:Prop} (h:v9 zz f=true) (k:∀ea op' eb w1,zz=.Compare ea (op' :: []) (eb :: []) w1->f ea op' eb=true->P):P:=by
 obtain⟨y1,y2,y3,y4,e0,h⟩:=fM' h
 obtain⟨y5,y6,e1,h⟩:=aj' h
 obtain⟨e2,h⟩:=ak' h
 obtain⟨y7,y8,e3,h⟩:=aj' h
 obtain⟨e4,h⟩:=ak' h
 exact k y1 y5 y7 y4 (by rw[e0,e1,e2,e3,e4]) h
def v11 (zz:Expr) (f:Expr->Expr->Expr->Bool):Bool:=i6' zz fun y1 y2 y3 y4=>f y1 y2 y3
theorem zc' {zz f} {P:Prop} (h:v11 zz f=true) (k:∀eq ea eb w1,zz=.IfExp eq ea eb w1->f eq ea eb=true->P):P:=by
 obtain⟨y1,y2,y3,y4,e0,h⟩:=ib' h
 exact k y1 y2 y3 y4 (by rw[e0]) h
def v12 (zz:Expr) (f:List Expr->Bool):Bool:=i7' zz fun y1 y2 y3=>f y1
theorem vr' {zz f} {P:Prop} (h:v12 zz f=true) (k:∀xs w1 w2,zz=.Tuple xs w1 w2->f xs=true->P):P:=by
 obtain⟨y1,y2,y3,e0,h⟩:=ic' h
 exact k y1 y2 y3 (by rw[e0]) h
def v13 (zz:Expr) (f:List Expr->Bool):Bool:=lS' zz fun y1 y2=>f y1
theorem zd' {zz f} {P:Prop} (h:v13 zz f=true) (k:∀xs w1,zz=.List xs w1->f xs=true->P):P:=by
 obtain⟨y1,y2,e0,h⟩:=jU' h
 exact k y1 y2 (by rw[e0]) h
def v14 (zz:Expr) (f:Expr->Expr->Bool):Bool:=bq' zz fun y1 y2 y3=>f y1 y2
theorem vs' {zz f} {P:Prop} (h:v14 zz f=true) (k:∀ea eb w1,zz=.Subscript ea eb w1->f ea eb=true->P):P:=by
 obtain⟨y1,y2,y3,e0,h⟩:=bg' h
 exact k y1 y2 y3 (by rw[e0]) h
def v15 (zz:Expr) (f:Expr->Option Expr->Option Expr->Bool):Bool:=bq' zz fun y1 y2 y3=>fN' y2 fun y4 y5 y6 y7=>gK' y6 (f y1 y4 y5)
theorem ze' {zz f} {P:Prop} (h:v15 zz f=true) (k:∀ea l h w1 w2,zz=.Subscript ea (.Slice l h none w1) w2->f ea l h=true->P):P:=by
 obtain⟨y1,y2,y3,e0,h⟩:=bg' h
 obtain⟨y4,y5,y6,y7,e1,h⟩:=el' h
 obtain⟨e2,h⟩:=c5' h
 exact k y1 y4 y5 y7 y3 (by rw[e0,e1,e2]) h
def v16 (zz:Expr) (f:Str->Expr->List Expr->Bool):Bool:=cH' zz fun y1 y2 y3 y4=>bX' y1 fun y5 y6=>aG' y2 fun y7 y8=>bc' y3 (f y5 y7 y8)
theorem vt' {zz f} {P:Prop} (h:v16 zz f=true) (k:∀x w1 e r w2,zz=.Call (.Name x w1) (e :: r) [] w2->f x e r=true->P):P:=by
 obtain⟨y1,y2,y3,y4,e0,h⟩:=by' h
 obtain⟨y5,y6,e1,h⟩:=bb' h
 obtain⟨y7,y8,e2,h⟩:=aj' h
 obtain⟨e3,h⟩:=ak' h
 exact k y5 y6 y7 y8 y4 (by rw[e0,e1,e2,e3]) h
def v17 (zz:Expr) (f:Expr->Str->Pos->List Expr->Pos->Bool):Bool:=cH' zz fun y1 y2 y3 y4=>cf' y1 fun y5 y6 y7=>bc' y3 (f y5 y6 y7 y2 y4)
theorem zf' {zz f} {P:Prop} (h:v17 zz f=true) (k:∀eo nm apos args pos,zz=.Call (.Attribute eo nm apos) args [] pos->f eo nm apos args pos=true->P):P:=by
 obtain⟨y1,y2,y3,y4,e0,h⟩:=by' h
 obtain⟨y5,y6,y7,e1,h⟩:=cg' h
 obtain⟨e2,h⟩:=ak' h
 exact k y5 y6 y7 y2 y4 (by rw[e0,e1,e2]) h
def v18 (zz:Expr) (f:Bool):Bool:=lT' zz fun y1 y2 y3=>bc' y1 (bc' y2 (f))
theorem rH' {zz f} {P:Prop} (h:v18 zz f=true) (k:∀w1,zz=.Dict [] [] w1->f=true->P):P:=by
 obtain⟨y1,y2,y3,e0,h⟩:=jV' h
 obtain⟨e1,h⟩:=ak' h
 obtain⟨e2,h⟩:=ak' h
 exact k y3 (by rw[e0,e1,e2]) h
def v20 (zz:Expr) (f:Expr->Str->Pos->Expr->Pos->Bool):Bool:=cH' zz fun y1 y2 y3 y4=>cf' y1 fun y5 y6 y7=>aG' y2 fun y8 y9=>bc' y9 (bc' y3 (f y5 y6 y7 y8 y4))
theorem zg' {zz f} {P:Prop} (h:v20 zz f=true) (k:∀eo nm apos y pos,zz=.Call (.Attribute eo nm apos) (y :: []) [] pos->f eo nm apos y pos=true->P):P:=by
 obtain⟨y1,y2,y3,y4,e0,h⟩:=by' h
 obtain⟨y5,y6,y7,e1,h⟩:=cg' h
 obtain⟨y8,y9,e2,h⟩:=aj' h
 obtain⟨e3,h⟩:=ak' h
 obtain⟨e4,h⟩:=ak' h
 exact k y5 y6 y7 y8 y4 (by rw[e0,e1,e2,e3,e4]) h
def v70 (zz:Expr) (f:Str->Expr->Expr->Expr->List Expr->Int->Scope->Bool):Bool:=cH' zz fun y1 y2 y3 y4=>bX' y1 fun y5 y6=>aG' y2 fun y7 y8=>bc' y8 (bc' y3 (dt' y7 fun y9 y10 y11 y12=>aG' y10 fun y13 y14=>ek' y13 fun y15 y16 y17 y18=>bc' y14 (f y5 y9 y15 y16 y17 y18 y11)))
theorem zh' {zz f} {P:Prop} (h:v70 zz f=true) (k:∀n1 w1 ee tg iter ifs a scope w2 w3,zz=.Call (.Name n1 w1) ((.SetComp ee (⟨tg,iter,ifs,a⟩ :: []) scope w2) :: []) [] w3->f n1 ee tg iter ifs a scope=true->P):P:=by
 obtain⟨y1,y2,y3,y4,e0,h⟩:=by' h
 obtain⟨y5,y6,e1,h⟩:=bb' h
 obtain⟨y7,y8,e2,h⟩:=aj' h
 obtain⟨e3,h⟩:=ak' h
 obtain⟨e4,h⟩:=ak' h
 obtain⟨y9,y10,y11,y12,e5,h⟩:=c6' h
 obtain⟨y13,y14,e6,h⟩:=aj' h
 obtain⟨y15,y16,y17,y18,e7,h⟩:=bn' h
 obtain⟨e8,h⟩:=ak' h
 exact k y5 y6 y9 y15 y16 y17 y18 y11 y12 y4 (by rw[e0,e1,e2,e3,e4,e5,e6,e7,e8]) h
def v23 (zz:Expr) (f:Str->Expr->Bool):Bool:=cH' zz fun y1 y2 y3 y4=>bX' y1 fun y5 y6=>aG' y2 fun y7 y8=>bc' y8 (bc' y3 (f y5 y7))
theorem rI' {zz f} {P:Prop} (h:v23 zz f=true) (k:∀x w1 y w2,zz=.Call (.Name x w1) (y :: []) [] w2->f x y=true->P):P:=by
 obtain⟨y1,y2,y3,y4,e0,h⟩:=by' h
 obtain⟨y5,y6,e1,h⟩:=bb' h
 obtain⟨y7,y8,e2,h⟩:=aj' h
 obtain⟨e3,h⟩:=ak' h
 obtain⟨e4,h⟩:=ak' h
 exact k y5 y6 y7 y4 (by rw[e0,e1,e2,e3,e4]) h
def v24 (zz:Expr) (f:Expr->Int->Bool):Bool:=bq' zz fun y1 y2 y3=>fN' y2 fun y4 y5 y6 y7=>gK' y4 (gK' y5 (i4' y6 fun y8=>cq' y8 fun y9 y10 y11=>ia' y9 (bm' y10 fun y12 y13 y14=>lN' y12 fun y15=>f y1 y15)))
theorem zi' {zz f} {P:Prop} (h:v24 zz f=true) (k:∀ea m w1 w2 w3 w4 w5,zz=.Subscript ea (.Slice none none (some (.UnaryOp .USub (.Constant (.int m) w1 w2) w3)) w4) w5->f ea m=true->P):P:=by
 obtain⟨y1,y2,y3,e0,h⟩:=bg' h
 obtain⟨y4,y5,y6,y7,e1,h⟩:=el' h
 obtain⟨e2,h⟩:=c5' h
 obtain⟨e3,h⟩:=c5' h
 obtain⟨y8,e4,h⟩:=ej' h
 obtain⟨y9,y10,y11,e5,h⟩:=bY' h
 obtain⟨e6,h⟩:=fe' h
 obtain⟨y12,y13,y14,e7,h⟩:=a2' h
 obtain⟨y15,e8,h⟩:=gL' h
 exact k y1 y15 y13 y14 y11 y7 y3 (by rw[e0,e1,e2,e3,e4,e5,e6,e7,e8]) h
def v26 (zz:Expr) (f:Expr->Expr->Expr->List Expr->Int->Scope->Bool):Bool:=bZ' zz fun y1 y2 y3 y4=>aG' y2 fun y5 y6=>ek' y5 fun y7 y8 y9 y10=>bc' y6 (f y1 y7 y8 y9 y10 y3)
theorem zj' {zz f} {P:Prop} (h:v26 zz f=true) (k:∀ee tg iter ifs a scope w1,zz=.ListComp ee (⟨tg,iter,ifs,a⟩ :: []) scope w1->f ee tg iter ifs a scope=true->P):P:=by
 obtain⟨y1,y2,y3,y4,e0,h⟩:=bP' h
 obtain⟨y5,y6,e1,h⟩:=aj' h
 obtain⟨y7,y8,y9,y10,e2,h⟩:=bn' h
 obtain⟨e3,h⟩:=ak' h
 exact k y1 y7 y8 y9 y10 y3 y4 (by rw[e0,e1,e2,e3]) h
def v27 (zz:Expr) (f:Expr->Expr->Expr->List Expr->Int->Expr->Expr->List Expr->Int->Scope->Bool):Bool:=bZ' zz fun y1 y2 y3 y4=>aG' y2 fun y5 y6=>ek' y5 fun y7 y8 y9 y10=>aG' y6 fun y11 y12=>ek' y11 fun y13 y14 y15 y16=>bc' y12 (f y1 y7 y8 y9 y10 y13 y14 y15 y16 y3)
theorem zk' {zz f} {P:Prop} (h:v27 zz f=true) (k:∀ee tg iter ifs a tg2 iter2 ifs2 a2 scope w1,zz=.ListComp ee (⟨tg,iter,ifs,a⟩ :: (⟨tg2,iter2,ifs2,a2⟩ :: [])) scope w1->f ee tg iter ifs a tg2 iter2 ifs2 a2 scope=true->P):P:=by
 obtain⟨y1,y2,y3,y4,e0,h⟩:=bP' h
 obtain⟨y5,y6,e1,h⟩:=aj' h
 obtain⟨y7,y8,y9,y10,e2,h⟩:=bn' h
 obtain⟨y11,y12,e3,h⟩:=aj' h
 obtain⟨y13,y14,y15,y16,e4,h⟩:=bn' h
 obtain⟨e5,h⟩:=ak' h
 exact k y1 y7 y8 y9 y10 y13 y14 y15 y16 y3 y4 (by rw[e0,e1,e2,e3,e4,e5]) h
def v28 (zz:Expr) (f:Expr->Expr->Expr->List Expr->Int->Expr->Expr->List Expr->Int->Expr->Expr->List Expr->Int->Scope->Bool):Bool:=bZ' zz fun y1 y2 y3 y4=>aG' y2 fun y5 y6=>ek' y5 fun y7 y8 y9 y10=>aG' y6 fun y11 y12=>ek' y11 fun y13 y14 y15 y16=>aG' y12 fun y17 y18=>ek' y17 fun y19 y20 y21 y22=>bc' y18 (f y1 y7 y8 y9 y10 y13 y14 y15 y16 y19 y20 y21 y22 y3)
theorem zl' {zz f} {P:Prop} (h:v28 zz f=true) (k:∀ee tg iter ifs a tg2 iter2 ifs2 a2 tg3 iter3 ifs3 a3 scope w1,zz=.ListComp ee (⟨tg,iter,ifs,a⟩ :: (⟨tg2,iter2,ifs2,a2⟩ :: (⟨tg3,iter3,ifs3,a3⟩ :: []))) scope w1->f ee tg iter ifs a tg2 iter2 ifs2 a2 tg3 iter3 ifs3 a3 scope=true->P):P:=by
 obtain⟨y1,y2,y3,y4,e0,h⟩:=bP' h
 obtain⟨y5,y6,e1,h⟩:=aj' h
 obtain⟨y7,y8,y9,y10,e2,h⟩:=bn' h
 obtain⟨y11,y12,e3,h⟩:=aj' h
 obtain⟨y13,y14,y15,y16,e4,h⟩:=bn' h
 obtain⟨y17,y18,e5,h⟩:=aj' h
 obtain⟨y19,y20,y21,y22,e6,h⟩:=bn' h
 obtain⟨e7,h⟩:=ak' h
 exact k y1 y7 y8 y9 y10 y13 y14 y15 y16 y19 y20 y21 y22 y3 y4 (by rw[e0,e1,e2,e3,e4,e5,e6,e7]) h
def v29 (zz:List Expr) (f:Bool):Bool:=bc' zz (f)
theorem lW' {zz f} {P:Prop} (h:v29 zz f=true) (k:zz=[]->f=true->P):P:=by
 obtain⟨e0,h⟩:=ak' h
 exact k (by rw[e0]) h
def v30 (zz:List Expr) (f:Expr->List Expr->Bool):Bool:=aG' zz fun y1 y2=>f y1 y2
theorem oe' {zz f} {P:Prop} (h:v30 zz f=true) (k:∀x xs,zz=(x :: xs)->f x xs=true->P):P:=by
 obtain⟨y1,y2,e0,h⟩:=aj' h
 exact k y1 y2 (by rw[e0]) h
def v31 (zz:List Expr) (f:Expr->Bool):Bool:=aG' zz fun y1 y2=>bc' y2 (f y1)
theorem zm' {zz f} {P:Prop} (h:v31 zz f=true) (k:∀e,zz=(e :: [])->f e=true->P):P:=by
 obtain⟨y1,y2,e0,h⟩:=aj' h
 obtain⟨e1,h⟩:=ak' h
 exact k y1 (by rw[e0,e1]) h
def v32 (zz:Option Expr) (f:Bool):Bool:=gK' zz (f)
theorem zn' {zz f} {P:Prop} (h:v32 zz f=true) (k:zz=none->f=true->P):P:=by
 obtain⟨e0,h⟩:=c5' h
 exact k (by rw[e0]) h
def v33 (zz:Option Expr) (f:Expr->Bool):Bool:=i4' zz fun y1=>f y1
theorem zo' {zz f} {P:Prop} (h:v33 zz f=true) (k:∀y,zz=(some y)->f y=true->P):P:=by
 obtain⟨y1,e0,h⟩:=ej' h
 exact k y1 (by rw[e0]) h
def v34 (zz:Expr) (f:Str->Expr->Expr->Bool):Bool:=cH' zz fun y1 y2 y3 y4=>bX' y1 fun y5 y6=>aG' y2 fun y7 y8=>aG' y8 fun y9 y10=>bc' y10 (bc' y3 (f y5 y7 y9))
theorem zp' {zz f} {P:Prop} (h:v34 zz f=true) (k:∀n w1 y z w2,zz=.Call (.Name n w1) (y :: (z :: [])) [] w2->f n y z=true->P):P:=by
 obtain⟨y1,y2,y3,y4,e0,h⟩:=by' h
 obtain⟨y5,y6,e1,h⟩:=bb' h
 obtain⟨y7,y8,e2,h⟩:=aj' h
 obtain⟨y9,y10,e3,h⟩:=aj' h
 obtain⟨e4,h⟩:=ak' h
 obtain⟨e5,h⟩:=ak' h
 exact k y5 y6 y7 y9 y4 (by rw[e0,e1,e2,e3,e4,e5]) h
def v36 (zz:Stmt) (f:Expr->Bool):Bool:=lU' zz fun y1 y2=>f y1
theorem zq' {zz f} {P:Prop} (h:v36 zz f=true) (k:∀x w1,zz=.Expr x w1->f x=true->P):P:=by
 obtain⟨y1,y2,e0,h⟩:=jW' h
 exact k y1 y2 (by rw[e0]) h
def v37 (zz:Stmt) (f:Expr->Bool):Bool:=gM' zz fun y1 y2=>i4' y1 fun y3=>f y3
theorem zr' {zz f} {P:Prop} (h:v37 zz f=true) (k:∀x w1,zz=.Return (some x) w1->f x=true->P):P:=by
 obtain⟨y1,y2,e0,h⟩:=gN' h
 obtain⟨y3,e1,h⟩:=ej' h
 exact k y3 y2 (by rw[e0,e1]) h
def v39 (zz:Stmt) (f:Expr->Expr->Bool):Bool:=ch' zz fun y1 y2 y3=>aG' y1 fun y4 y5=>bc' y5 (f y4 y2)
theorem zs' {zz f} {P:Prop} (h:v39 zz f=true) (k:∀tg x w1,zz=.Assign (tg :: []) x w1->f tg x=true->P):P:=by
 obtain⟨y1,y2,y3,e0,h⟩:=bI' h
 obtain⟨y4,y5,e1,h⟩:=aj' h
 obtain⟨e2,h⟩:=ak' h
 exact k y4 y2 y3 (by rw[e0,e1,e2]) h
def v41 (zz:Stmt) (f:Str->Pos->Expr->Expr->Expr->List Expr->Int->Expr->Expr->List Expr->Int->Scope->Bool):Bool:=ch' zz fun y1 y2 y3=>aG' y1 fun y4 y5=>bX' y4 fun y6 y7=>bc' y5 (dt' y2 fun y8 y9 y10 y11=>aG' y9 fun y12 y13=>ek' y12 fun y14 y15 y16 y17=>aG' y13 fun y18 y19=>ek' y18 fun y20 y21 y22 y23=>bc' y19 (f y6 y7 y8 y14 y15 y16 y17 y20 y21 y22 y23 y10))
theorem zt' {zz f} {P:Prop} (h:v41 zz f=true) (k:∀y py ee tg iter ifs a tg2 iter2 ifs2 a2 scope w1 w2,zz=.Assign ((.Name y py) :: []) (.SetComp ee (⟨tg,iter,ifs,a⟩ :: (⟨tg2,iter2,ifs2,a2⟩ :: [])) scope w1) w2->f y py ee tg iter ifs a tg2 iter2 ifs2 a2 scope=true->P):P:=by
 obtain⟨y1,y2,y3,e0,h⟩:=bI' h
 obtain⟨y4,y5,e1,h⟩:=aj' h
 obtain⟨y6,y7,e2,h⟩:=bb' h
 obtain⟨e3,h⟩:=ak' h
 obtain⟨y8,y9,y10,y11,e4,h⟩:=c6' h
 obtain⟨y12,y13,e5,h⟩:=aj' h
 obtain⟨y14,y15,y16,y17,e6,h⟩:=bn' h
 obtain⟨y18,y19,e7,h⟩:=aj' h
 obtain⟨y20,y21,y22,y23,e8,h⟩:=bn' h
 obtain⟨e9,h⟩:=ak' h
 exact k y6 y7 y8 y14 y15 y16 y17 y20 y21 y22 y23 y10 y11 y3 (by rw[e0,e1,e2,e3,e4,e5,e6,e7,e8,e9]) h
def v42 (zz:Stmt) (f:Str->Pos->Expr->Expr->Expr->Expr->List Expr->Int->Scope->Bool):Bool:=ch' zz fun y1 y2 y3=>aG' y1 fun y4 y5=>bX' y4 fun y6 y7=>bc' y5 (em' y2 fun y8 y9 y10 y11 y12=>aG' y10 fun y13 y14=>ek' y13 fun y15 y16 y17 y18=>bc' y14 (f y6 y7 y8 y9 y15 y16 y17 y18 y11))
theorem zu' {zz f} {P:Prop} (h:v42 zz f=true) (k:∀y py ke ve tg iter ifs a scope w1 w2,zz=.Assign ((.Name y py) :: []) (.DictComp ke ve (⟨tg,iter,ifs,a⟩ :: []) scope w1) w2->f y py ke ve tg iter ifs a scope=true->P):P:=by
 obtain⟨y1,y2,y3,e0,h⟩:=bI' h
 obtain⟨y4,y5,e1,h⟩:=aj' h
 obtain⟨y6,y7,e2,h⟩:=bb' h
 obtain⟨e3,h⟩:=ak' h
 obtain⟨y8,y9,y10,y11,y12,e4,h⟩:=eX' h
 obtain⟨y13,y14,e5,h⟩:=aj' h
 obtain⟨y15,y16,y17,y18,e6,h⟩:=bn' h
 obtain⟨e7,h⟩:=ak' h
 exact k y6 y7 y8 y9 y15 y16 y17 y18 y11 y12 y3 (by rw[e0,e1,e2,e3,e4,e5,e6,e7]) h
def v48 (zz:Stmt) (f:Expr->Expr->Expr->Bool):Bool:=ch' zz fun y1 y2 y3=>aG' y1 fun y4 y5=>bq' y4 fun y6 y7 y8=>bc' y5 (f y6 y7 y2)
theorem zv' {zz f} {P:Prop} (h:v48 zz f=true) (k:∀eo ei w1 ee w2,zz=.Assign ((.Subscript eo ei w1) :: []) ee w2->f eo ei ee=true->P):P:=by
 obtain⟨y1,y2,y3,e0,h⟩:=bI' h
 obtain⟨y4,y5,e1,h⟩:=aj' h
 obtain⟨y6,y7,y8,e2,h⟩:=bg' h
 obtain⟨e3,h⟩:=ak' h
 exact k y6 y7 y8 y2 y3 (by rw[e0,e1,e2,e3]) h
def v49 (zz:Stmt) (f:Str->Operator->Expr->Bool):Bool:=dG' zz fun y1 y2 y3 y4=>bX' y1 fun y5 y6=>f y5 y2 y3
theorem zw' {zz f} {P:Prop} (h:v49 zz f=true) (k:∀x w1 op ee w2,zz=.AugAssign (.Name x w1) op ee w2->f x op ee=true->P):P:=by
 obtain⟨y1,y2,y3,y4,e0,h⟩:=en' h
 obtain⟨y5,y6,e1,h⟩:=bb' h
 exact k y5 y6 y2 y3 y4 (by rw[e0,e1]) h
def v50 (zz:Stmt) (f:Expr->List Stmt->List Stmt->Bool):Bool:=vp' zz fun y1 y2 y3 y4=>f y1 y2 y3
theorem zx' {zz f} {P:Prop} (h:v50 zz f=true) (k:∀x ss rs w1,zz=.If x ss rs w1->f x ss rs=true->P):P:=by
 obtain⟨y1,y2,y3,y4,e0,h⟩:=od' h
 exact k y1 y2 y3 y4 (by rw[e0]) h
def v51 (zz:Stmt) (f:Expr->List Stmt->Bool):Bool:=i8' zz fun y1 y2 y3 y4=>bc' y3 (f y1 y2)
theorem zy' {zz f} {P:Prop} (h:v51 zz f=true) (k:∀x ss w1,zz=.While x ss [] w1->f x ss=true->P):P:=by
 obtain⟨y1,y2,y3,y4,e0,h⟩:=ie' h
 obtain⟨e1,h⟩:=ak' h
 exact k y1 y2 y4 (by rw[e0,e1]) h
def v52 (zz:Stmt) (f:Expr->Expr->List Stmt->Bool):Bool:=pZ' zz fun y1 y2 y3 y4 y5=>bc' y4 (f y1 y2 y3)
theorem zz' {zz f} {P:Prop} (h:v52 zz f=true) (k:∀tg iter ss w1,zz=.For tg iter ss [] w1->f tg iter ss=true->P):P:=by
 obtain⟨y1,y2,y3,y4,y5,e0,h⟩:=lV' h
 obtain⟨e1,h⟩:=ak' h
 exact k y1 y2 y3 y5 (by rw[e0,e1]) h
def v56 (zz:List Stmt) (f:Bool):Bool:=bc' zz (f)
theorem zA' {zz f} {P:Prop} (h:v56 zz f=true) (k:zz=[]->f=true->P):P:=by
 obtain⟨e0,h⟩:=ak' h
 exact k (by rw[e0]) h
def v57 (zz:List Stmt) (f:Stmt->List Stmt->Bool):Bool:=aG' zz fun y1 y2=>f y1 y2
theorem zB' {zz f} {P:Prop} (h:v57 zz f=true) (k:∀x xs,zz=(x :: xs)->f x xs=true->P):P:=by
 obtain⟨y1,y2,e0,h⟩:=aj' h
 exact k y1 y2 (by rw[e0]) h
mutual
def mE (N B:List Str) (sc:Scope):Ce->Expr->Bool
 | .var i,e=>v1 e fun x=>gI' N i x&&vis sc x
 | .int n,e=>v2 e fun m=>decide (n=m)
 | .bl b,e=>v3 e fun c=>decide (b=c)
 | .non,e=>v4 e (true)
 | .str x,e=>v5 e fun y=>decide (x=y)
 | .bin op a b,e=>v6 e fun ea op' eb=>decide (op=op')&&mE N B sc a ea&&mE N B sc b eb
 | .neg a,e=>v7 e fun ea=>mE N B sc a ea
 | .not a,e=>v8 e fun ea=>mE N B sc a ea
 | .and a b,e=>zb' e fun x y=>mE N B sc a x&&mE N B sc b y
 | .or a b,e=>vOr e fun x y=>mE N B sc a x&&mE N B sc b y
 | .orv a b,e=>vOr e fun x y=>mE N B sc a x&&mE N B sc b y
 | .cmp op a b,e=>v9 e fun ea op' eb=>decide (op=op')&&mE N B sc a ea&&mE N B sc b eb&&aT' eb
 | .ife q a b,e=>v11 e fun eq ea eb=>mQ N B sc q eq&&mE N B sc a ea&&mE N B sc b eb
 | .tup es,e=>v12 e fun xs=>mA N B sc es xs
 | .lst es,e=>v13 e fun xs=>mA N B sc es xs
 | .idx a b,e=>v14 e fun ea eb=>mE N B sc a ea&&mE N B sc b eb&&c4' eb
 | .cut a lo hi,e=>v15 e fun ea l h=>mE N B sc a ea&&mO N B sc lo l&&mO N B sc hi h
 | .call f es,e=>v16 e fun x e r=>decide (x=f)&&glb sc x&&mA N B sc es (e :: r)&&!(x == ("__debug__":Str))&&!(hat B)&&!(tld B&&decide (tH' x∈B))
 | .blt f es,e=>v16 e fun x e r=>decide (x=ei' f)&&glb sc x&&mA N B sc es (e :: r)&&decide (x∈B)&&(!(hat B) || decide (f=.isinstance))
 | .met m o es,e=>v17 e fun eo nm apos args pos=>decide (nm=lI' m)&&mE N B sc o eo&&lJ' eo&&(apos.endLine == pos.line)&&mA N B sc es args&&decide (args.length<28)
 | .dnew,e=>v18 e (true)
 | .dnt,e=>v18 e (true)
 | .dnn,e=>v18 e (true)
 | .din neg a b,e=>v9 e fun ea op' eb=>decide (op'=if neg then .NotIn else .In)&&mE N B sc a ea&&mE N B sc b eb&&aT' eb
 | .dgt a b,e=>v20 e fun eo nm apos y pos=>decide (nm="get")&&mE N B sc a eo&&lJ' eo&&(apos.endLine == pos.line)&&mE N B sc b y&&a7' y
 | .cal f a,e=>v23 e fun x y=>decide (x=vo' f)&&glb sc x&&decide (x∈B)&&mE N B sc a y&&a7' y&&!(hat B)
 | .rvt a,e=>v24 e fun ea m=>decide (m=1)&&mE N B sc a ea
 | .ssc elt own t it q,e=>v70 e fun n1 ee tg iter ifs a scope=>decide (n1="sorted")&&glb sc n1&&decide (n1∈B)&&!(hat B)&&jR' N sc scope own&&mE N ("~" :: B) scope elt ee&&fc' own t&&decide (a=0)&&mI N B sc it iter&&f9' it tg&&aT' iter&&mT N ("~" :: B) scope t tg&&mQo N ("~" :: B) scope q ifs
 | .comp elt own t it q .nil,e=>v26 e fun ee tg iter ifs a scope=>!(hat B)&&jR' N sc scope own&&mE N ("~" :: B) scope elt ee&&fc' own t&&decide (a=0)&&mI N B sc it iter&&f9' it tg&&aT' iter&&mT N ("~" :: B) scope t tg&&mQo N ("~" :: B) scope q ifs
 | .comp elt own t it q (.cons ws t2 it2 q2 .nil),e=>v27 e fun ee tg iter ifs a tg2 iter2 ifs2 a2 scope=>!(hat B)&&jR' N sc scope own&&mE N ("~" :: B) scope elt ee&&fc' own t&&decide (a=0)&&mI N B sc it iter&&f9' it tg&&aT' iter&&mT N ("~" :: B) scope t tg&&mQo N ("~" :: B) scope q ifs&&
    decide (a2=0)&&mI N ("~" :: B) scope it2 iter2&&f9' it2 tg2&&aT' iter2&&mT N ("~" :: B) scope t2 tg2&&mQo N ("~" :: B) scope q2 ifs2&&fc' ws t2&&ws.all (fun j=>decide (j∈own))
 | .comp elt own t it q (.cons ws t2 it2 q2 (.cons ws3 t3 it3 q3 .nil)),e=>v28 e fun ee tg iter ifs a tg2 iter2 ifs2 a2 tg3 iter3 ifs3 a3 scope=>!(hat B)&&jR' N sc scope own&&mE N ("~" :: B) scope elt ee&&fc' own t&&decide (a=0)&&mI N B sc it iter&&f9' it tg&&aT' iter&&mT N ("~" :: B) scope t tg&&mQo N ("~" :: B) scope q ifs&&
    decide (a2=0)&&mI N ("~" :: B) scope it2 iter2&&f9' it2 tg2&&aT' iter2&&mT N ("~" :: B) scope t2 tg2&&mQo N ("~" :: B) scope q2 ifs2&&fc' ws t2&&ws.all (fun j=>decide (j∈own))&&
    decide (a3=0)&&mI N ("~" :: B) scope it3 iter3&&f9' it3 tg3&&aT' iter3&&mT N ("~" :: B) scope t3 tg3&&mQo N ("~" :: B) scope q3 ifs3&&fc' ws3 t3&&ws3.all (fun j=>decide (j∈ws))
 | .comp _ _ _ _ _ (.cons _ _ _ _ (.cons _ _ _ _ (.cons _ _ _ _ _))),_=>false
def mA (N B:List Str) (sc:Scope):Ces->List Expr->Bool
 | .nil,es=>v29 es (true)
 | .cons e r,es=>v30 es fun x xs=>mE N B sc e x&&a7' x&&mA N B sc r xs
def mQ (N B:List Str) (sc:Scope):Cq->Expr->Bool
 | .val e,x=>mE N B sc e x&&pW' x
 | .not q,x=>v8 x fun y=>mQ N B sc q y
 | .and a b,e=>zb' e fun x y=>mQ N B sc a x&&mQ N B sc b y
 | .or a b,e=>vOr e fun x y=>mQ N B sc a x&&mQ N B sc b y
 | .cmp op a b,e=>v9 e fun ea op' eb=>decide (op=op')&&mE N B sc a ea&&mE N B sc b eb&&aT' eb
 | .din neg a b,e=>v9 e fun ea op' eb=>decide (op'=if neg then .NotIn else .In)&&mE N B sc a ea&&mE N B sc b eb&&aT' eb
 | .cmw k a b,e=>v9 e fun ea op' eb=>decide (op'=AT' k)&&mE N B sc a ea&&mE N B sc b eb&&aT' eb
def mQo (N B:List Str) (sc:Scope):Cqo->List Expr->Bool
 | .none,es=>v29 es (true)
 | .some q,es=>v31 es fun e=>mQ N B sc q e
def mO (N B:List Str) (sc:Scope):Co->Option Expr->Bool
 | .none,x=>v32 x (true)
 | .some e,x=>v33 x fun y=>mE N B sc e y
def mI (N B:List Str) (sc:Scope):Ci->Expr->Bool
 | .val e,x=>mE N B sc e x
 | .range1 a,x=>v23 x fun n y=>decide (n="range")&&glb sc n&&decide (n∈B)&&mE N B sc a y&&a7' y
 | .range2 a b,x=>v34 x fun n y z=>decide (n="range")&&glb sc n&&decide (n∈B)&&mE N B sc a y&&a7' y&&mE N B sc b z&&a7' z
 | .enum a,x=>v23 x fun n y=>decide (n="enumerate")&&glb sc n&&decide (n∈B)&&mE N B sc a y&&a7' y
 | .dk e,x=>mE N B sc e x
def mT (N B:List Str) (sc:Scope):Ct->Expr->Bool
 | .name i,e=>v1 e fun x=>gI' N i x&&locb sc x
 | .tup ts,e=>v12 e fun es=>mTs N B sc ts es&&!(hat B)
 | .sub o i,e=>v14 e fun eo ei=>mE N B sc o eo&&mE N B sc i ei&&c4' ei
def mTs (N B:List Str) (sc:Scope):Cts->List Expr->Bool
 | .nil,es=>v29 es (true)
 | .cons t r,es=>v30 es fun x xs=>mT N B sc t x&&a7' x&&mTs N B sc r xs
end
def if':Ce->Bool
 |_=>false
mutual
def mS (N B:List Str) (sc:Scope):Cs->Stmt->Bool
 | .expr e,s=>v36 s fun x=>mE N B sc e x&&(match e with | .comp ..=>false|_=>true)&&!if' e
 | .ret e,s=>v37 s fun x=>mE N B sc e x
 | .asg t e,s=>v39 s fun tg x=>mE N B sc e x&&!if' e&&mT N B sc t tg&&a7' tg&&(match tg,x with
   | .Tuple ..,.Tuple vs _ _=>vs.all (foldedForSure 8)
   | .Tuple ..,.ListComp ..=>false
   |_,_=>true)
 | .setc2 i elt own t it q ws t2 it2 q2,s=>v41 s fun y py ee tg iter ifs a tg2 iter2 ifs2 a2 scope=>!(hat B)&&mT N B sc (.name i) (.Name y py)&&jR' N sc scope own&&mE N ("~" :: B) scope elt ee&&fc' own t&&decide (a=0)&&mI N B sc it iter&&f9' it tg&&aT' iter&&mT N ("~" :: B) scope t tg&&mQo N ("~" :: B) scope q ifs&&
    decide (a2=0)&&mI N ("~" :: B) scope it2 iter2&&f9' it2 tg2&&aT' iter2&&mT N ("~" :: B) scope t2 tg2&&mQo N ("~" :: B) scope q2 ifs2&&fc' ws t2&&ws.all (fun j=>decide (j∈own))
 | .dctc _ i k v own t it q,s=>v42 s fun y py ke ve tg iter ifs a scope=>!(hat B)&&mT N B sc (.name i) (.Name y py)&&jR' N sc scope own&&mE N ("~" :: B) scope k ke&&mE N ("~" :: B) scope v ve&&fc' own t&&decide (a=0)&&mI N B sc it iter&&f9' it tg&&aT' iter&&mT N ("~" :: B) scope t tg&&mQo N ("~" :: B) scope q ifs
 | .dput o i e,s=>v48 s fun eo ei ee=>mE N B sc o eo&&mE N B sc i ei&&c4' ei&&mE N B sc e ee&&(match ee with
   | .ListComp ..=>false
   | .SetComp ..=>false
   | .DictComp ..=>false
   |_=>true)
 | .aug i sub e,s=>v49 s fun x op ee=>gI' N i x&&locb sc x&&mE N B sc e ee&&decide (op=if sub then .Sub else .Add)
 | .ite q a b,s=>v50 s fun x ss rs=>mQ N B sc q x&&mSs N B sc a ss&&mSs N B sc b rs
 | .whl q b,s=>v51 s fun x ss=>mQ N B sc q x&&mSs N B sc b ss
 | .for_ t it b,s=>v52 s fun tg iter ss=>mI N B sc it iter&&f9' it tg&&aT' iter&&mT N B sc t tg&&mSs N B sc b ss&&!(hat B)
def mSs (N B:List Str) (sc:Scope):Css->List Stmt->Bool
 | .nil,ss=>v56 ss (true)
 | .cons s r,ss=>v57 ss fun x xs=>mS N B sc s x&&mSs N B sc r xs
end
def rJ' (CX:CXT) (X:Cx) (xk:L2.St->XK):Prop:=∀(p_:List (Addr×Obj)) (σ:L2.St) (H:Hp) (s:Shared) (e:Value) (s':Shared),Inv X p_ σ H s->CX X.stack H s (xk σ) e s'->X.xe e s'
theorem p0' {X:Cx} {xk:L2.St->XK}:rJ' CX0 X xk:=fun _ _ _ _ _ _ _ h=>h.elim
structure Rok (C:Rc) (B:List Str) (X:Cx) (sc:Scope):Prop where
 hN:X.N=C.N
 nd:C.N.Nodup
 hK:X.K=C.K
 own:PassesOwn (model X.prog X.w) X.A X.env X.xe
 calm:hat B=false->X.calm=true
 hu:X.A.units+64<cLine
 gd:X.A.guards=some []
 loc:∀x,sc.names.lookup x=some .local->X.env.scope.names.lookup x=some .local
 cel:∀x,sc.names.lookup x=some .cell->X.env.scope.names.lookup x=some .cell/\X.fn x=true
 fre:∀x,sc.names.lookup x=some .free->X.env.scope.names.lookup x=some .cell\/X.env.scope.names.lookup x=some .free
 glo:∀x,sc.names.lookup x=some .globalImplicit->X.env.kindOf x=some .globalImplicit
 fn:∀x sp,C.fs x=some sp->hat B=false->(tld B=true->tH' x∉B)->∃f fd ps k CX,FnOk X.prog X.w X.K X.mg X.base CX k f fd ps sp/\Room k X.A/\X.mg x=some (.ref f)/\W.keepIn X.K (.ref f)=true/\eJ' X.K fd ps []/\(CX=CX0\/CX=CX1 X.prog X.w X.mg/\tH' x∈B)/\rJ' CX X C.xk
 blt:∀x∈B,X.mg x=none
 mrk:X.mg "~"=none/\X.mg "^"=none/\X.mg "%"=none
 cls:∀c Ca,C.cl c=some Ca->X.mg c=some (.ref Ca)/\W.nsIn X.K mainGlobals c=some (some (.ref Ca))
 fx:tld B=false->FnCx X
 nohat:tld B=false->hat B=false
 xr:tld B=false->pct B=false->∀nm Ca p_ σ H s e t,C.cl nm=some Ca->Inv X p_ σ H s->H e=none->X.s₀.heap.get? e=none->(∀p∈X.pn++p_,p.1≠e)->s.heap.get? e=some { cls:=.ref Ca,data:=.fields #[.ref t,.none,.none,.none,.bool false,.none] }->C.xk σ (.str nm 0) none H->X.xe (.ref e) s
theorem Rok.hu1 {C:Rc} {B:List Str} {X:Cx} {sc:Scope} (R:Rok C B X sc):X.A.units+1<cLine:=by have:=R.hu;omega
section
variable {C:Rc} {B:List Str} {X:Cx} {sc:Scope}
set_option tactic.hygienic true in
theorem Rok.vis (R:Rok C B X sc) {x:Str} (h:R3.vis sc x=true):Vis X.env.scope x:=by
 unfold R3.vis at h
 split at h
 .rename_i e;exact .inl (R.loc x e)
 .rename_i e;exact .inr (.inl (R.cel x e).1)
 .rename_i e
  rcases R.fre x e with q|q
  .exact .inr (.inl q)
  .exact .inr (.inr q)
 .cases h
set_option tactic.hygienic true in
theorem Rok.locb (R:Rok C B X sc) {x:Str} (h:R3.locb sc x=true):Loc X.env.scope x/\(X.fn x=true\/X.env.scope.names.lookup x=some .local):=by
 unfold R3.locb at h
 split at h
 .rename_i e;exact⟨.inl (R.loc x e),.inr (R.loc x e)⟩
 .rename_i e;exact⟨.inr (R.cel x e).1,.inl (R.cel x e).2⟩
 .cases h
theorem Rok.glb (R:Rok C B X sc) {x:Str} (h:R3.glb sc x=true):Gl X x:=R.glo x (of_decide_eq_true h)
theorem bS' {N:List Str} {i:Nat} {x:Str} (h:gI' N i x=true):N[i]?=some x/\(x == ("__debug__":Str))=false/\(x == ("__classdict__":Str))=false:=by
 unfold gI' at h
 simp only[ah,decide_eq_true_eq,bu]at h
 exact⟨h.1.1,h.1.2,h.2⟩
theorem ar' {e:Expr} {es:List Expr} {env:Env} (h:a7' e=true):starEach (e :: es) env=(false,eval e env) :: starEach es env:=by
 cases e<;>first|rfl|cases h
theorem fO' {N B:List Str} {sc:Scope} {env:Env} {pos:Pos}:∀{es:Ces} {xs:List Expr},mA N B sc es xs=true->(backTo pos (starEach xs env)).any (·.1)=false
 | .nil,xs,h=>by
  refine lW' h fun e0 g=>?_
  clear h
  subst e0
  revert g
  intro h
  rfl
 | .cons e r,xs,h=>by
  refine oe' h fun x xs e0 g=>?_
  clear h
  subst e0
  revert g
  intro h
  simp only[ah]at h
  rw[ar' h.1.2]
  have ih:=fO' (env:=env) (pos:=pos) (es:=r) h.2
  exact ih
theorem aN' {e:Expr} {env:Env} (h:aT' e=true) (x:Value):foldedSetIterable e env x=pure x:=by
 cases e<;>first|rfl|cases h
theorem b0' {op:CmpOp} {e:Expr} (h:aT' e=true):behindInMarks op e=false:=by
 cases e<;>first|rfl|cases h
theorem of' {e:Expr} (h:c4' e=true):kv' e:=by
 intro o i
 cases e<;>first|rfl|cases h
theorem ig' {e:Expr} {f:Str} {env:Env} {w:Sem Value} (h:lJ' e=true):attributeBase e f env w=w:=by
 cases e with
 |Call g args kw pos=>
  cases args with
  |nil=>cases h
  |cons a r=>cases g<;>rfl
 |_=>rfl
theorem lX' {e:Expr} {env:Env} (h:pW' e=true) (w:Sem Value):isTrue e env w=(do let v <- w;standAt e.pos;holding [v] (truthy v)):=by
 cases e with
 |UnaryOp op a p=>cases op<;>first|rfl|cases h
 |_=>first|rfl|cases h
theorem OpR.imp {f:Value->Value->Sem Value} {r r':R2} (h:OpR X f r) (i:∀x y H Q,r' x y H Q->r x y H Q):OpR X f r':=fun p_ s σ H x y v u Q I rx ry q=>h p_ s σ H x y v u Q I rx ry (i _ _ _ _ q)
theorem aP'.imp {f:Value} {r r':List V->Hp->VK->Prop} (h:aP' X f r) (i:∀xs H Q,r' xs H Q->r xs H Q):aP' X f r':=fun p_ s σ H xs us Q I rv q=>h p_ s σ H xs us Q I rv (i _ _ _ q)
theorem ixM:IxR X (oa' X.K):=by
 intro value slice p_ s σ H x y v u Q I rx ry q hp
 refine uh' value slice p_ s σ H x y v u Q I rx ry ?_ hp
 unfold oa' at q
 split at q
 .obtain⟨z,c,hc,q⟩:=q
  exact .inr (.inr ⟨_,_,c,rfl,rfl,z,hc,q⟩)
 .rcases q with q|q
  .exact .inl q
  .exact .inr (.inl q)
theorem vu' {CX:CXT} {k:Nat} {f:Addr} {fd:FuncData} {ps:List Str} {sp:Sp} {dvs:List V} {ds:List Value} {E:XK} {p_:List (Addr×Obj)} {σ:L2.St} {H:Hp} {s:Shared} {Q:VK} {us:List Value} {vs:List V} (F:FnOk X.prog X.w X.K X.mg X.base CX k f fd ps sp) (hr:Room k X.A) (hb:eJ' X.K fd ps ds) (hd:ay' dvs ds)
  (hx:∀e s',CX X.stack H s E e s'->X.xe e s') (I:Inv X p_ σ H s) (r:ay' vs us) (h:sp (vs++dvs) H Q E):wpAny (model X.prog X.w) X.A (call (.ref f) us) (EP X p_ σ Q) X.xe s:=by
 have r2:=r.append hd
 have hl:(us++ds).length=ps.length:=r2.length ▸ F.len _ _ _ _ h
 have go:=F.run X.A X.stack s H ⟨us,[]⟩ (us++ds) (vs++dvs) Q E hr I.env0 (hb s us I.kIn hl) r2 h
 refine wpAny_call (codeAny_mono go fun r s' hq=>?_)
 match r,hq with
 | .error e,hq=>exact hx e s' hq
 | .ok (.ret u),hq=>exact I.after hq
theorem og' {CX:CXT} {k:Nat} {f:Addr} {fd:FuncData} {ps:List Str} {sp:Sp} {dvs:List V} {ds:List Value} {xk:L2.St->XK} {x:Str} {p pos:Pos} {e:Expr} {es:List Expr} {t:TA} (F:FnOk X.prog X.w X.K X.mg X.base CX k f fd ps sp) (hr:Room k X.A) (hg:Gl X x) (hm:X.mg x=some (.ref f)) (hk:W.keepIn X.K (.ref f)=true) (hb:eJ' X.K fd ps ds) (hd:ay' dvs ds) (hx:rJ' CX X xk)
  (ha:PA X (e :: es) t) (hdb:(x == ("__debug__":Str))=false) (he:starEach (e :: es) X.env=(false,eval e X.env) :: starEach es X.env) (hpl:(backTo pos (starEach es X.env)).any (·.1)=false):
  PE X (.Call (.Name x p) (e :: es) [] pos) (fun σ H Q=>ns' sp dvs (xk σ) t σ H Q):=by
 intro p_ s σ H Q I h
 refine wpAny_Call_Name_kw (qF' I hg hm ?_ hdb)
 exact W.callWith_K (h₀:=X.base) I.ok.mod.kin hk (thn (ha pos p_ s σ H _ I h) fun us s1 ⟨vs,H1,I1,r,q⟩=>⟨I1.kIn,vu' F hr hb hd (fun e s' c=>hx p_ σ H1 s1 e s' I1 c) I1 r q⟩) he hpl
theorem rK' {a:Int} (h:a.natAbs<2 ^ 250*2 ^ 250*2 ^ 250):(Builtin.Int.intBits a:Int)<=750:=by
 rw[<- Nat.pow_add,<- Nat.pow_add]at h
 unfold Builtin.Int.intBits
 by_cases h0:a.natAbs=0
 .rw[if_pos (by simpa using h0)];decide
 .rw[if_neg (by simpa using h0)]
  have:=(Nat.log2_lt h0).mpr h
  omega
theorem rL' {X:Cx}:OpR X (binaryOp .LShift) (rI AS' fun i j=>.int (i*2 ^ j.toNat)):=opI fun _ _ _ _ _ _ _ hc q=>lshift_int hc.1 (by have:=rK' hc.2.2;have:=hc.2.1;omega) q
theorem vv' (op:Operator):OpR X (binaryOp op) (fb' X.K op):=by
 cases op with
 |Add=>
  refine OpR.imp ((t0'.or ju').or (uk'.or (qY'.or nL'))) fun x y H Q q=>?_
  unfold fb' at q
  dsimp only at q
  split at q
  .exact .inl (.inl ⟨_,_,rfl,rfl,q⟩)
  .exact .inl (.inr ⟨_,_,rfl,rfl,q.1,q.2⟩)
  .exact .inr q
 |Sub=>exact t1'
 |Mult=>
  refine OpR.imp (re'.or (jB'.or ul')) fun x y H Q q=>?_
  unfold fb' at q
  dsimp only at q
  split at q
  .refine .inl ⟨_,_,rfl,rfl,?_,q.2⟩
   rcases q.1 with h|h|h
   .exact xY'.ok (.inl h)
   .exact xY'.ok (.inr h)
   .exact h
  .exact .inr (.inl ⟨_,_,rfl,rfl,q.1,q.2.1,q.2.2.1,q.2.2.2⟩)
  .exact .inr (.inr q)
 |Mod=>exact t2'
 |FloorDiv=>
  refine OpR.imp (qS'.or nJ') fun x y H Q q=>?_
  obtain⟨i,j,h1,h2,⟨h3,h4⟩,q⟩:=q
  rcases h4 with h4|h4
  .exact .inl ⟨i,j,h1,h2,⟨h3,h4⟩,q⟩
  .exact .inr ⟨i,j,h1,h2,⟨h3,h4⟩,q⟩
 |Pow=>exact t3'
 |LShift=>exact rL'
 |RShift=>exact t4'
 |MatMult=>exact fun _ _ _ _ _ _ _ _ _ _ _ _ h=>h.elim
 |Div=>exact fun _ _ _ _ _ _ _ _ _ _ _ _ h=>h.elim
 |BitOr=>exact fun _ _ _ _ _ _ _ _ _ _ _ _ h=>h.elim
 |BitXor=>exact fun _ _ _ _ _ _ _ _ _ _ _ _ h=>h.elim
 |BitAnd=>exact rg'
theorem p1' (hu':X.A.units+64<cLine) (op:CmpOp):OpR X (compareOp op) (cz' X.K op):=by
 cases op with
 |Eq=>
  refine OpR.imp (yB'.or ((uA' ⋯).or (uJ' hu'))) fun x y H Q q=>?_
  unfold cz' at q
  dsimp only at q
  split at q
  .exact .inr q
  .exact .inl q
 |NotEq=>
  refine OpR.imp (yC'.or ((uB' ⋯).or (uK' hu'))) fun x y H Q q=>?_
  unfold cz' at q
  dsimp only at q
  split at q
  .exact .inr q
  .exact .inl q
 |Lt=>exact yD'
 |LtE=>exact yE'
 |Gt=>
  refine OpR.imp (yF'.or uF') fun x y H Q q=>?_
  unfold cz' at q
  dsimp only at q
  split at q
  .exact .inr q
  .exact .inl q
 |GtE=>exact yG'
 |Is=>
  refine OpR.imp (t7'.or uD') fun x y H Q q=>?_
  unfold cz' at q
  dsimp only at q
  split at q
  .exact .inr q
  .exact .inl q
 |IsNot=>
  refine OpR.imp (qT'.or kL') fun x y H Q q=>?_
  unfold cz' at q
  dsimp only at q
  split at q
  .exact .inr q
  .exact .inl q
 |In=>
  refine OpR.imp (uE'.or kw') fun x y H Q q=>?_
  unfold cz' at q
  dsimp only at q
  split at q
  .exact .inl q
  .exact .inr q
 |NotIn=>
  refine OpR.imp (kM'.or gi') fun x y H Q q=>?_
  unfold cz' at q
  dsimp only at q
  split at q
  .exact .inl q
  .exact .inr q
theorem zC' (hu':X.A.units+64<cLine) (k:Zf):OpR X (compareOp (AT' k)) (rZf k):=by
 cases k with
 |neD0=>exact rj' hu'
theorem zD':SlR X (rSl X.K):=by
 intro p_ s σ H x v vl vu lo hi sl Q I rx hs pl pu q
 refine(q0'.or (ud'.or (nN'.or uz'))) p_ s σ H x v vl vu lo hi sl Q I rx hs pl pu ?_
 unfold rSl at q
 split at q
 .exact .inr (.inr (.inr ⟨_,rfl,q.1,q.2⟩))
 .rcases q with q|q|q
  .exact .inl q
  .exact .inr (.inl q)
  .exact .inr (.inr (.inl q))
inductive BltIs:Bf->Prop where
 |fn (f:Bf) (id:String) (hv:bootBuiltins (ei' f)=some (.builtin id)) (h:∀X:Cx,(X.calm=true\/f=.isinstance)->aP' X (.builtin id) (dF' X.K f)):BltIs f
 |ty (f:Bf) (T:String) (hv:bootBuiltins (ei' f)=some (.type T)) (h:∀X:Cx,(X.calm=true\/f=.isinstance)->aP' X (.type T) (dF' X.K f)):BltIs f
theorem vw' (f:Bf):BltIs f:=by
 cases f with
 |len=>exact .fn _ "len" ⋯ fun X _=>nr'
 |abs=>exact .fn _ "abs" ⋯ fun X _=>nq'
 |int=>
  refine .ty _ "int" ⋯ fun X _=>aP'.imp kO' fun xs H Q q=>?_
  unfold dF' at q
  dsimp only at q
  split at q
  .exact .inl (.inl (.inl ⟨_,rfl,q⟩))
  .exact .inl (.inl (.inr ⟨_,rfl,q⟩))
  .obtain⟨n,h1,h2,q⟩:=q
   exact .inl (.inr ⟨_,n,rfl,h1,h2,q⟩)
  .obtain⟨rfl,n,h1,q⟩:=q
   exact .inr ⟨_,n,rfl,h1,q⟩
  .exact q.elim
 |set=>exact .ty _ "set" ⋯ fun X c0=>have c:X.calm=true:=c0.resolve_right (fun z=>by cases z);kU' c
 |sortU=>exact .fn _ "sorted" ⋯ fun X c0=>have c:X.calm=true:=c0.resolve_right (fun z=>by cases z);jP' c
 |lenD=>exact .fn _ "len" ⋯ fun X _=>jO'
 |isinstance=>exact .fn _ "isinstance" ⋯ fun X _=>fun _ _ _ _ _ _ _ _ _ h=>False.elim h
 |maxT=>exact .fn _ "max" ⋯ fun X c0=>have c:X.calm=true:=c0.resolve_right (fun z=>by cases z);kQ' c
 |max=>
  refine .fn _ "max" ⋯ fun X c0=>have c:X.calm=true:=c0.resolve_right (fun z=>by cases z);aP'.imp ((ko' c).or (kI' c)) fun xs H Q q=>?_
  unfold dF' at q
  dsimp only at q
  split at q
  .exact .inl ⟨_,_,rfl,q⟩
  .exact .inr q
 |min=>
  refine .fn _ "min" ⋯ fun X c0=>have c:X.calm=true:=c0.resolve_right (fun z=>by cases z);aP'.imp ((kp' c).or (kJ' c)) fun xs H Q q=>?_
  unfold dF' at q
  dsimp only at q
  split at q
  .exact .inl ⟨_,_,rfl,q⟩
  .exact .inr q
 |list=>exact .ty _ "list" ⋯ fun X c0=>have c:X.calm=true:=c0.resolve_right (fun z=>by cases z);gj'.or (nI' c)
 |range=>exact .ty _ "range" ⋯ fun X _=>nH'
 |tuple=>exact .ty _ "tuple" ⋯ fun X _=>fp'
structure MetIs (m:Mf) (id:String):Prop where
 pa:PlainAttrs (jQ' m)
 slot:Slot (jQ' m) (lI' m) id
 ty:typeOf (.builtin id)=pure (.type "method_descriptor")
 h:∀X:Cx,MtR X id (pV' X.K m)
theorem vx' (m:Mf):∃id,MetIs m id:=by
 cases m with
 |append=>exact⟨_,F.plainAttrs_list,F.slot_list_append,F.type_list_append,fun _=>ky'⟩
 |join=>exact⟨_,F.plainAttrs_str,F.slot_str_join,F.type_str_join,fun _=>rd'⟩
end
theorem ci' {N:List Str} {sc scope:Scope} {own:List Nat} (h:jR' N sc scope own=true):scope.kind=.function/\(∀x∈scope.names,x.2=.local->scope.names.lookup x.1=some .local)/\(∀n,(n,NameKind.cell)∈scope.names->scope.names.lookup n=some .cell)/\
  (∀n,(n,NameKind.free)∈scope.names->sc.names.lookup n=some .cell\/sc.names.lookup n=some .free)/\∀(i:Nat) (x:Str),N[i]?=some x->(scope.names.lookup x=some .local\/scope.names.lookup x=some .cell)->i∈own:=by
 unfold jR' at h
 simp only[ah,decide_eq_true_eq,cG,aR]at h
 obtain⟨⟨hk,hn⟩,ho⟩:=h
 refine⟨hk,fun x hx e=>?_,fun n hn'=>?_,fun n hn'=>?_,fun i x e hx=>?_⟩
 .exact(hn x hx).1.1.resolve_left fun q=>q e
 .exact(hn _ hn').1.2.resolve_left fun q=>q rfl
 .rcases(hn _ hn').2 with(q|q)|q
  .exact absurd rfl q
  .exact .inl q
  .exact .inr q
 .have:=ho i (aK.mpr (aN.mp e).1)
  rw[e]at this
  simp only[aR,ah,decide_eq_true_eq]at this
  rcases this with⟨q1,q2⟩|q
  .rcases hx with z|z
   .exact absurd z q1
   .exact absurd z q2
  .exact q
theorem Rok.compSc {C:Rc} {B:List Str} {X:Cx} {sc scope:Scope} {own:List Nat} (R:Rok C B X sc) (h:jR' C.N sc scope own=true):CompSc X scope:=by
 obtain⟨h1,h2,h3,h4,h5⟩:=ci' h
 refine⟨h1,h2,h3,fun n hn=>?_⟩
 rcases h4 n hn with q|q
 .exact .inl (R.cel n q).1
 .exact R.fre n q
theorem c7' {B:List Str}:tld ("~" :: B)=true:=decide_eq_true (aE)
theorem Rok.comp {C:Rc} {B:List Str} {X:Cx} {sc scope:Scope} {own:List Nat} (R:Rok C B X sc) (hh:hat B=false) (h:jR' C.N sc scope own=true) (s0:Shared) (H0:Hp) (ex:List Addr):Rok C ("~" :: B) (X.comp scope s0 H0 ex) scope:=by
 refine⟨R.hN,R.nd,R.hK,PassesOwn.never,fun _=>R.calm hh,R.hu,R.gd,fun x e=>lookup_relabel_local e,fun x e=>⟨?_,?_⟩,fun x e=>?_,fun x e=>?_,fun x sp e _ ht=>?_,fun x hx=>?_,R.mrk,R.cls,(fun z=>by rw[c7']at z;cases z),(fun z=>by rw[c7']at z;cases z),(fun z=>by rw[c7']at z;cases z)⟩
 .obtain⟨k',e1,e2⟩:=be' (env:=X.env) e
  rcases e2 with rfl|⟨q,_⟩
  .exact e1
  .cases q
 .exact W.cellsFrom_some _ _ _ (.inl e)
 .obtain⟨k',e1,e2⟩:=be' (env:=X.env) e
  rcases e2 with rfl|⟨_,rfl⟩
  .exact .inr e1
  .exact .inl e1
 .obtain⟨k',e1,e2⟩:=be' (env:=X.env) e
  rcases e2 with rfl|⟨q,_⟩
  .exact e1
  .cases q
 .have hb:tH' x∉B:=fun z=>ht c7' (aC _ z)
  obtain⟨f,fd,ps,k,CX,h1,h2,h3,h4,h5,h6,_⟩:=R.fn x sp e hh fun _=>hb
  rcases h6 with rfl|⟨_,z⟩
  .exact⟨f,fd,ps,k,CX0,h1,h2,h3,h4,h5,.inl rfl,p0'⟩
  .exact absurd z hb
 .rcases ay.mp hx with rfl|hx
  .exact R.mrk.1
  .exact R.blt x hx
mutual
theorem i9' (C:Rc) (own:List Nat):∀(t:Ct),fc' own t=true->∀(x:V) (σ:L2.St) (H:Hp) (Q Q':L2.St->Hp->Prop),tG C t x σ H Q->(∀σ2 H2,Q σ2 H2->Ext own σ σ2->Q' σ2 H2)->tG C t x σ H Q'
 | .name i,h,x,σ,H,Q,Q',q,m=>by
  obtain⟨q1,q2⟩:=kG' (of_decide_eq_true (show decide (i∈own)=true from h)) x σ H Q q
  exact m _ _ q1 q2
 | .tup ts,h,x,σ,H,Q,Q',q,m=>by
  replace h:lK' own ts=true:=h
  obtain⟨a,xs,e,hs,hl,q⟩:=q
  exact⟨a,xs,e,hs,hl,gO' C own ts h xs σ H Q Q' q m⟩
 | .sub _ _,h,_,_,_,_,_,_,_=>ao' h
theorem gO' (C:Rc) (own:List Nat):∀(ts:Cts),lK' own ts=true->∀(xs:List V) (σ:L2.St) (H:Hp) (Q Q':L2.St->Hp->Prop),tGs C ts xs σ H Q->(∀σ2 H2,Q σ2 H2->Ext own σ σ2->Q' σ2 H2)->tGs C ts xs σ H Q'
 | .nil,h,xs,σ,H,Q,Q',q,m=>by
  replace q:xs=[]/\Q σ H:=q
  exact And.intro q.1 (m _ _ q.2 Ext.refl)
 | .cons t r,h,xs,σ,H,Q,Q',q,m=>by
  replace h:=gJ' (show(fc' own t&&lK' own r)=true from h)
  replace q:∃v vr,xs=v :: vr/\tG C t v σ H fun σ' H'=>tGs C r vr σ' H' Q:=q
  obtain⟨v,vr,e,q⟩:=q
  show ∃v vr,xs=v :: vr/\tG C t v σ H fun σ' H'=>tGs C r vr σ' H' Q'
  exact⟨v,vr,e,i9' C own t h.1 v σ H _ _ q fun σ2 H2 q2 x2=>gO' C own r h.2 vr σ2 H2 _ _ q2 fun σ3 H3 q3 x3=>m _ _ q3 (x2.trans x3)⟩
end
theorem bC' {C:Rc} {own:List Nat} {t:Ct} (h:fc' own t=true):tC' own (tG C t):=fun x σ H Q q=>i9' C own t h x σ H Q _ q fun _ _ q x=>⟨q,x⟩
theorem cI':∀{ts:Cts} {es:List Expr} {N B:List Str} {sc:Scope} {env:Env},mTs N B sc ts es=true->(assignEach es env).length=oc' ts/\(assignEach es env).findIdx? (·.1)=none
 | .nil,es,N,B,sc,env,h=>by
  refine lW' h fun e0 g=>?_
  clear h
  subst e0
  revert g
  intro h
  exact⟨rfl,rfl⟩
 | .cons t r,es,N,B,sc,env,h=>by
  refine oe' h fun x xs e0 g=>?_
  clear h
  subst e0
  revert g
  intro h
  simp only[ah]at h
  obtain⟨h1,h2⟩:=cI' (env:=env) h.2
  have e:assignEach (x :: xs) env=(false,assign x env) :: assignEach xs env:=by
   have hs:=h.1.2
   cases x<;>first|rfl|cases hs
  rw[e]
  refine⟨by rw[bb,h1];rfl,?_⟩
  rw[List.findIdx?_cons,h2]
  rfl
theorem ii' {x:Expr} {xs:List Expr} {env:Env} (hs:a7' x=true):(assignEach (x :: xs) env).map (·.2)=assign x env :: (assignEach xs env).map (·.2):=by
 cases x<;>first|rfl|cases hs
theorem rM' {o i:Expr} {pos:Pos} {env:Env} (h:c4' i=true) (v:Value):assign (.Subscript o i pos) env v=(do
   let ov <- holding [v] (eval o env)
   let iv <- holding [v,ov] (eval i env)
   standAt pos
   holding [v,ov,iv] (setItem ov iv v)
   release [v,ov,iv] []):=by
 cases i<;>first|rfl|cases h
def oh' (C:Rc) (X:Cx) (e:Expr):Ce->Prop
 | .comp elt own t it q r=>∃tg iter ifs nx scope pos,CompIn X e scope tg iter ifs nx (tG C t) (tQo C q) (tR C r (d4' (tE C elt))) own/\PI X tg iter (tI C it)/\
   eval e X.env=comprehension e scope X.env pos (newList []) false (eval iter X.env)/\(∀u,evalThenUse e X.env u=(do let _ <- comprehension e scope X.env pos (newList []) false (eval iter X.env) (some u)))/\
   ∀y py line,∃b,swapsWith e (some (.Name y py)) line X.env=pure b
 |_=>True
theorem oi' (P w it D env ee tg iter ifs tg2 iter2 ifs2 scope pos):(model P w).den (.compLoop (.ListComp ee [⟨tg,iter,ifs,0⟩,⟨tg2,iter2,ifs2,0⟩] scope pos) 0 it (.ref D) env)=(aZ' (.ListComp ee [⟨tg,iter,ifs,0⟩,⟨tg2,iter2,ifs2,0⟩] scope pos) 0 tg iter ifs (aS' (.ListComp ee [⟨tg,iter,ifs,0⟩,⟨tg2,iter2,ifs2,0⟩] scope pos) 0 iter2 (.ref D) env) it (.ref D) env).onRaise (fun x=>do noteFrame x env;theTreesLotGoes x):=by
 show(compTurn _ _ _ _ _).onRaise _=_
 congr 1
 unfold aZ' aS'
 simp only[bind_assoc,pure_bind]
 rfl
def vy' (ke ve:Expr) (D:Addr) (env:Env):Sem Unit:=do
 let kv <- eval ke env
 let vv <- holding [kv] (eval ve env)
 match Value.ref D with
 | .ref d=>do
  standAt { ke.pos with endLine:=ve.pos.endLine,endCol:=ve.pos.endCol }
  holding [kv,vv] (dictSet d kv vv)
 |_=>unsupported "internal:dictcomp"
theorem BC' {N B:List Str} {sc:Scope} {elt:Ce} {own:List Nat} {t:Ct} {it:Ci} {q:Cqo} {e:Expr} (h:mE N B sc (.comp elt own t it q .nil) e=true):∃ee tg iter ifs scope pos,e=.ListComp ee [⟨tg,iter,ifs,0⟩] scope pos/\
  hat B=false/\jR' N sc scope own=true/\mE N ("~" :: B) scope elt ee=true/\fc' own t=true/\mI N B sc it iter=true/\f9' it tg=true/\aT' iter=true/\mT N ("~" :: B) scope t tg=true/\mQo N ("~" :: B) scope q ifs=true:=by
 refine zj' h fun ee tg iter ifs a scope w1 e0 g=>?_
 clear h
 subst e0
 revert g
 intro h
 simp only[ah,decide_eq_true_eq,bu]at h
 obtain⟨⟨⟨⟨⟨⟨⟨⟨⟨hh,hsc⟩,helt⟩,hown⟩,rfl⟩,h1⟩,h2⟩,h3⟩,h4⟩,h5⟩:=h
 exact⟨_,_,_,_,_,_,rfl,hh,hsc,helt,hown,h1,h2,h3,h4,h5⟩
theorem BD' {N B:List Str} {sc:Scope} {elt:Ce} {own:List Nat} {t:Ct} {it:Ci} {q:Cqo} {ws:List Nat} {t2:Ct} {it2:Ci} {q2:Cqo} {e:Expr} (h:mE N B sc (.comp elt own t it q (.cons ws t2 it2 q2 .nil)) e=true):
  ∃ee tg iter ifs tg2 iter2 ifs2 scope pos,e=.ListComp ee [⟨tg,iter,ifs,0⟩,⟨tg2,iter2,ifs2,0⟩] scope pos/\
  hat B=false/\jR' N sc scope own=true/\mE N ("~" :: B) scope elt ee=true/\fc' own t=true/\mI N B sc it iter=true/\f9' it tg=true/\aT' iter=true/\mT N ("~" :: B) scope t tg=true/\mQo N ("~" :: B) scope q ifs=true/\
  mI N ("~" :: B) scope it2 iter2=true/\f9' it2 tg2=true/\aT' iter2=true/\mT N ("~" :: B) scope t2 tg2=true/\mQo N ("~" :: B) scope q2 ifs2=true/\fc' ws t2=true/\∀j∈ws,j∈own:=by
 refine zk' h fun ee tg iter ifs a tg2 iter2 ifs2 a2 scope w1 e0 g=>?_
 clear h
 subst e0
 revert g
 intro h
 simp only[ah,decide_eq_true_eq,cG,bu]at h
 obtain⟨⟨⟨⟨⟨⟨⟨⟨⟨⟨⟨⟨⟨⟨⟨⟨⟨hh,hsc⟩,helt⟩,hown⟩,rfl⟩,h1⟩,h2⟩,h3⟩,h4⟩,h5⟩,rfl⟩,g1⟩,g2⟩,g3⟩,g4⟩,g5⟩,g6⟩,g7⟩:=h
 exact⟨_,_,_,_,_,_,_,_,_,rfl,hh,hsc,helt,hown,h1,h2,h3,h4,h5,g1,g2,g3,g4,g5,g6,g7⟩
theorem lY' (P w it D env ee tg iter ifs tg2 iter2 ifs2 tg3 iter3 ifs3 scope pos):(model P w).den (.compLoop (.ListComp ee [⟨tg,iter,ifs,0⟩,⟨tg2,iter2,ifs2,0⟩,⟨tg3,iter3,ifs3,0⟩] scope pos) 0 it (.ref D) env)=(aZ' (.ListComp ee [⟨tg,iter,ifs,0⟩,⟨tg2,iter2,ifs2,0⟩,⟨tg3,iter3,ifs3,0⟩] scope pos) 0 tg iter ifs (aS' (.ListComp ee [⟨tg,iter,ifs,0⟩,⟨tg2,iter2,ifs2,0⟩,⟨tg3,iter3,ifs3,0⟩] scope pos) 0 iter2 (.ref D) env) it (.ref D) env).onRaise (fun x=>do noteFrame x env;theTreesLotGoes x):=by
 show(compTurn _ _ _ _ _).onRaise _=_
 congr 1
 unfold aZ' aS'
 simp only[bind_assoc,pure_bind]
 rfl
theorem jX' (P w it D env ee tg iter ifs tg2 iter2 ifs2 tg3 iter3 ifs3 scope pos):(model P w).den (.compLoop (.ListComp ee [⟨tg,iter,ifs,0⟩,⟨tg2,iter2,ifs2,0⟩,⟨tg3,iter3,ifs3,0⟩] scope pos) 1 it (.ref D) env)=(aZ' (.ListComp ee [⟨tg,iter,ifs,0⟩,⟨tg2,iter2,ifs2,0⟩,⟨tg3,iter3,ifs3,0⟩] scope pos) 1 tg2 iter2 ifs2 (aS' (.ListComp ee [⟨tg,iter,ifs,0⟩,⟨tg2,iter2,ifs2,0⟩,⟨tg3,iter3,ifs3,0⟩] scope pos) 1 iter3 (.ref D) env) it (.ref D) env).onRaise (fun x=>do noteFrame x env;theTreesLotGoes x):=by
 show(compTurn _ _ _ _ _).onRaise _=_
 congr 1
 unfold aZ' aS'
 simp only[bind_assoc,pure_bind]
 rfl
theorem BE' {N B:List Str} {sc:Scope} {elt:Ce} {own:List Nat} {t:Ct} {it:Ci} {q:Cqo} {ws:List Nat} {t2:Ct} {it2:Ci} {q2:Cqo} {ws3:List Nat} {t3:Ct} {it3:Ci} {q3:Cqo} {e:Expr} (h:mE N B sc (.comp elt own t it q (.cons ws t2 it2 q2 (.cons ws3 t3 it3 q3 .nil))) e=true):
  ∃ee tg iter ifs tg2 iter2 ifs2 tg3 iter3 ifs3 scope pos,e=.ListComp ee [⟨tg,iter,ifs,0⟩,⟨tg2,iter2,ifs2,0⟩,⟨tg3,iter3,ifs3,0⟩] scope pos/\
  hat B=false/\jR' N sc scope own=true/\mE N ("~" :: B) scope elt ee=true/\fc' own t=true/\mI N B sc it iter=true/\f9' it tg=true/\aT' iter=true/\mT N ("~" :: B) scope t tg=true/\mQo N ("~" :: B) scope q ifs=true/\
  (mI N ("~" :: B) scope it2 iter2=true/\f9' it2 tg2=true/\aT' iter2=true/\mT N ("~" :: B) scope t2 tg2=true/\mQo N ("~" :: B) scope q2 ifs2=true/\fc' ws t2=true/\∀j∈ws,j∈own)/\
  mI N ("~" :: B) scope it3 iter3=true/\f9' it3 tg3=true/\aT' iter3=true/\mT N ("~" :: B) scope t3 tg3=true/\mQo N ("~" :: B) scope q3 ifs3=true/\fc' ws3 t3=true/\∀j∈ws3,j∈ws:=by
 refine zl' h fun ee tg iter ifs a tg2 iter2 ifs2 a2 tg3 iter3 ifs3 a3 scope w1 e0 g=>?_
 clear h
 subst e0
 revert g
 intro h
 simp only[ah,decide_eq_true_eq,cG,bu]at h
 obtain⟨⟨⟨⟨⟨⟨⟨⟨⟨⟨⟨⟨⟨⟨⟨⟨⟨⟨⟨⟨⟨⟨⟨⟨⟨hh,hsc⟩,helt⟩,hown⟩,rfl⟩,h1⟩,h2⟩,h3⟩,h4⟩,h5⟩,rfl⟩,g1⟩,g2⟩,g3⟩,g4⟩,g5⟩,g6⟩,g7⟩,rfl⟩,k1⟩,k2⟩,k3⟩,k4⟩,k5⟩,k6⟩,k7⟩:=h
 exact⟨_,_,_,_,_,_,_,_,_,_,_,_,rfl,hh,hsc,helt,hown,h1,h2,h3,h4,h5,⟨g1,g2,g3,g4,g5,g6,g7⟩,k1,k2,k3,k4,k5,k6,k7⟩
theorem BF' {N B:List Str} {sc:Scope} {elt:Ce} {own:List Nat} {t:Ct} {it:Ci} {q:Cqo} {ws:List Nat} {t2:Ct} {it2:Ci} {q2:Cqo} {ws3:List Nat} {t3:Ct} {it3:Ci} {q3:Cqo} {ws4:List Nat} {t4:Ct} {it4:Ci} {q4:Cqo} {r4:Cc} {e:Expr} (h:mE N B sc (.comp elt own t it q (.cons ws t2 it2 q2 (.cons ws3 t3 it3 q3 (.cons ws4 t4 it4 q4 r4)))) e=true):False:=by
 exact ao' h
set_option maxHeartbeats 4000000
theorem lZ' (P w it D env ee tg iter ifs tg2 iter2 ifs2 scope pos):(model P w).den (.compLoop (.SetComp ee [⟨tg,iter,ifs,0⟩,⟨tg2,iter2,ifs2,0⟩] scope pos) 0 it (.ref D) env)=(aZ' (.SetComp ee [⟨tg,iter,ifs,0⟩,⟨tg2,iter2,ifs2,0⟩] scope pos) 0 tg iter ifs (aS' (.SetComp ee [⟨tg,iter,ifs,0⟩,⟨tg2,iter2,ifs2,0⟩] scope pos) 0 iter2 (.ref D) env) it (.ref D) env).onRaise (fun x=>do noteFrame x env;theTreesLotGoes x):=by
 show(compTurn _ _ _ _ _).onRaise _=_
 congr 1
 unfold aZ' aS'
 simp only[bind_assoc,pure_bind]
 rfl
mutual
theorem sE0 {C:Rc}:∀(c:Ce) {B:List Str} {X:Cx} {sc:Scope} {e:Expr},Rok C B X sc->mE C.N B sc c e=true->PE X e (tE C c)/\oh' C X e c
 | .var i,B,X,sc,e,R,h=>by
  refine⟨?_,trivial⟩
  refine AU' h fun x w1 e0 g=>?_
  clear h
  subst e0
  revert g
  intro h
  simp only[ah]at h
  obtain⟨h1,h2,h3⟩:=bS' h.1
  rw[show tE C (.var i)=(xV' i) from rfl]
  exact pv' (by rw[R.hN];exact h1) (R.vis h.2) h2 h3
 | .int n,B,X,sc,e,R,h=>by
  refine⟨?_,trivial⟩
  refine Bw' h fun m w1 w2 e0 g=>?_
  clear h
  subst e0
  revert g
  intro h
  cases of_decide_eq_true h
  rw[show tE C (.int n)=(tC (.int n)) from rfl]
  exact pw'
 | .bl n,B,X,sc,e,R,h=>by
  refine⟨?_,trivial⟩
  refine Bx' h fun c w1 w2 e0 g=>?_
  clear h
  subst e0
  revert g
  intro h
  cases of_decide_eq_true h
  rw[show tE C (.bl n)=(tC (.bl n)) from rfl]
  exact ym'
 | .non,B,X,sc,e,R,h=>by
  refine⟨?_,trivial⟩
  refine By' h fun w1 w2 e0 g=>?_
  clear h
  subst e0
  revert g
  intro h
  rw[show tE C .non=(tC .non) from rfl]
  exact tL'
 | .str n,B,X,sc,e,R,h=>by
  refine⟨?_,trivial⟩
  refine Bz' h fun y w1 w2 e0 g=>?_
  clear h
  subst e0
  revert g
  intro h
  cases of_decide_eq_true h
  rw[show tE C (.str n)=(tC (.str n)) from rfl]
  exact tM'
 | .bin op a b,B,X,sc,e,R,h=>by
  refine⟨?_,trivial⟩
  refine BA' h fun ea op' eb w1 e0 g=>?_
  clear h
  subst e0
  revert g
  intro h
  simp only[ah,decide_eq_true_eq]at h
  obtain⟨⟨rfl,h1⟩,h2⟩:=h
  rw[show tE C (.bin op a b)=(tOp (fb' C.K op) (tE C a) (tE C b)) from rfl]
  rw[<- R.hK]
  exact yy' (vv' _) ((sE0 a R h1).1) ((sE0 b R h2).1)
 | .neg a,B,X,sc,e,R,h=>by
  refine⟨?_,trivial⟩
  refine BB' h fun ea w1 e0 g=>?_
  clear h
  subst e0
  revert g
  intro h
  rw[show tE C (.neg a)=(tUn (rU fun i=>.int (-i)) (tE C a)) from rfl]
  exact tZ' pC' ((sE0 a R h).1)
 | .not a,B,X,sc,e,R,h=>by
  refine⟨?_,trivial⟩
  refine AV' h fun ea w1 e0 g=>?_
  clear h
  subst e0
  revert g
  intro h
  rw[show tE C (.not a)=(qH' (tE C a)) from rfl]
  exact tS' ((sE0 a R h).1)
 | .and a b,B,X,sc,e,R,h=>by
  refine⟨?_,trivial⟩
  replace h:=lL' h
  rcases h with⟨x,y,pos,rfl,h⟩|⟨x,y,z,r,pos,rfl,h⟩
  .simp only[ah]at h
   rw[show tE C (.and a b)=(nj' (tE C a) (tE C b)) from rfl]
   exact pA' ((sE0 a R h.1).1) (ke' ((sE0 b R h.2).1))
  .simp only[ah]at h
   rw[show tE C (.and a b)=(nj' (tE C a) (tE C b)) from rfl]
   exact pA' ((sE0 a R h.1).1) ((sE0 b R h.2).1)
 | .or a b,B,X,sc,e,R,h=>by
  refine⟨?_,trivial⟩
  replace h:=lM' h
  rcases h with⟨x,y,pos,rfl,h⟩|⟨x,y,z,r,pos,rfl,h⟩
  .simp only[ah]at h
   rw[show tE C (.or a b)=(xW' (tE C a) (tE C b)) from rfl]
   exact tR' ((sE0 a R h.1).1) (ke' ((sE0 b R h.2).1))
  .simp only[ah]at h
   rw[show tE C (.or a b)=(xW' (tE C a) (tE C b)) from rfl]
   exact tR' ((sE0 a R h.1).1) ((sE0 b R h.2).1)
 | .orv a b,B,X,sc,e,R,h=>by
  refine⟨?_,trivial⟩
  replace h:=lM' h
  rcases h with⟨x,y,pos,rfl,h⟩|⟨x,y,z,r,pos,rfl,h⟩
  .simp only[ah]at h
   rw[show tE C (.orv a b)=(x1' (tE C a) (tE C b)) from rfl]
   exact pH' ((sE0 a R h.1).1) (ke' ((sE0 b R h.2).1))
  .simp only[ah]at h
   rw[show tE C (.orv a b)=(x1' (tE C a) (tE C b)) from rfl]
   exact pH' ((sE0 a R h.1).1) ((sE0 b R h.2).1)
 | .cmp op a b,B,X,sc,e,R,h=>by
  refine⟨?_,trivial⟩
  refine vq' h fun ea op' eb w1 e0 g=>?_
  clear h
  subst e0
  revert g
  intro h
  simp only[ah,decide_eq_true_eq]at h
  obtain⟨⟨⟨rfl,h1⟩,h2⟩,h3⟩:=h
  rw[show tE C (.cmp op a b)=(tOp (cz' C.K op) (tE C a) (tE C b)) from rfl]
  rw[<- R.hK]
  exact qU' (p1' R.hu _) ((sE0 a R h1).1) ((sE0 b R h2).1) (b0' h3)
 | .ife q a b,B,X,sc,e,R,h=>by
  refine⟨?_,trivial⟩
  refine zc' h fun eq ea eb w1 e0 g=>?_
  clear h
  subst e0
  revert g
  intro h
  simp only[ah]at h
  rw[show tE C (.ife q a b)=(tIf (tQ C q) (tE C a) (tE C b)) from rfl]
  exact nk' (sQ q R h.1.1).1 ((sE0 a R h.1.2).1) ((sE0 b R h.2).1)
 | .tup es,B,X,sc,e,R,h=>by
  refine⟨?_,trivial⟩
  refine vr' h fun xs w1 w2 e0 g=>?_
  clear h
  subst e0
  revert g
  intro h
  rw[show tE C (.tup es)=(yH' (tA C es)) from rfl]
  exact ua' (sA es R h)
 | .lst es,B,X,sc,e,R,h=>by
  refine⟨?_,trivial⟩
  refine zd' h fun xs w1 e0 g=>?_
  clear h
  subst e0
  revert g
  intro h
  rw[show tE C (.lst es)=(yI' (tA C es)) from rfl]
  exact ub' (sA es R h)
 | .idx a b,B,X,sc,e,R,h=>by
  refine⟨?_,trivial⟩
  refine vs' h fun ea eb w1 e0 g=>?_
  clear h
  subst e0
  revert g
  intro h
  simp only[ah]at h
  rw[show tE C (.idx a b)=(tOp (oa' C.K) (tE C a) (tE C b)) from rfl]
  rw[<- R.hK]
  exact yK' ixM ((sE0 a R h.1.1).1) ((sE0 b R h.1.2).1) (of' h.2)
 | .cut a lo hi,B,X,sc,e,R,h=>by
  refine⟨?_,trivial⟩
  refine ze' h fun ea l h_ w1 w2 e0 g=>?_
  clear h
  subst e0
  revert g
  intro h
  simp only[ah]at h
  rw[show tE C (.cut a lo hi)=(tSl (rSl C.K) (tE C a) (tO C lo) (tO C hi)) from rfl]
  rw[<- R.hK]
  exact nw' zD' ((sE0 a R h.1.1).1) (sO lo R h.1.2) (sO hi R h.2)
 | .call f es,B,X,sc,e,R,h=>by
  refine⟨?_,trivial⟩
  refine vt' h fun x w1 e r pos e0 g=>?_
  clear h
  subst e0
  revert g
  intro h
  simp only[ah,decide_eq_true_eq,bu]at h
  obtain⟨⟨⟨⟨⟨rfl,h1⟩,h2⟩,h3⟩,hh⟩,h6⟩:=h
  rw[show tE C (.call x es)=(fun σ H Q=>match C.fs x with|some sp=>ns' sp [] (C.xk σ) (tA C es) σ H Q|none=>False) from rfl]
  have ht:tld B=true->tH' x∉B:=fun t m=>by rw[t,decide_eq_true m]at h6;cases h6
  cases hf:C.fs x with
  |none=>exact fun _ _ _ _ _ _ q=>q.elim
  |some sp=>
   obtain⟨f,fd,ps,k,CX,F,hr,hm,hk,hb,_,hx⟩:=R.fn x sp hf hh ht
   have hs:a7' e=true:=by
    cases es with
    |nil=>exact ao' h2
    |cons c r=>exact(gJ' (gJ' h2).1).2
   have hp:(backTo pos (starEach r X.env)).any (·.1)=false:=by
    have q:=fO' (env:=X.env) (pos:=pos) h2
    rw[ar' hs]at q
    exact q
   exact og' F hr (R.glb h1) hm hk hb .nil hx (sA es R h2) h3 (ar' hs) hp
 | .blt f es,B,X,sc,e,R,h=>by
  refine⟨?_,trivial⟩
  refine vt' h fun x w1 e r pos e0 g=>?_
  clear h
  subst e0
  revert g
  intro h
  simp only[ah,decide_eq_true_eq,aR,bu]at h
  obtain⟨⟨⟨⟨rfl,h1⟩,h2⟩,h4⟩,h5⟩:=h
  have hcc:X.calm=true\/f=.isinstance:=h5.imp R.calm id
  rw[show tE C (.blt f es)=(tCB (dF' C.K f) (tA C es)) from rfl]
  have hs:a7' e=true:=by
   cases es with
   |nil=>exact ao' h2
   |cons c r=>exact(gJ' (gJ' h2).1).2
  have hp:(backTo pos (starEach r X.env)).any (·.1)=false:=by
   have q:=fO' (env:=X.env) (pos:=pos) h2
   rw[ar' hs]at q
   exact q
  rw[<- R.hK]
  have hn:ei' f≠"__name__"/\(ei' f == ("__debug__":Str))=false:=by cases f<;>decide +kernel
  cases vw' f with
  |fn id hv hc=>exact nt' (hc X hcc) (R.glb h1) (R.blt _ h4) hv (sA es R h2) hn.1 hn.2 (ar' hs) hp
  |ty T hv hc=>exact gf' (hc X hcc) (R.glb h1) (R.blt _ h4) hv (sA es R h2) hn.1 hn.2 (ar' hs) hp
 | .dnew,B,X,sc,e,R,h=>by
  refine⟨?_,trivial⟩
  refine rH' h fun w1 e0 g=>?_
  clear h
  subst e0
  revert g
  intro h
  rw[show tE C .dnew=(kC') from rfl];exact nC'
 | .dnt,B,X,sc,e,R,h=>by
  refine⟨?_,trivial⟩
  refine rH' h fun w1 e0 g=>?_
  clear h
  subst e0
  revert g
  intro h
  rw[show tE C .dnt=(kD') from rfl];exact nD'
 | .dnn,B,X,sc,e,R,h=>by
  refine⟨?_,trivial⟩
  refine rH' h fun w1 e0 g=>?_
  clear h
  subst e0
  revert g
  intro h
  rw[show tE C .dnn=(lb') from rfl];exact nW'
 | .din neg a b,B,X,sc,e,R,h=>by
  refine⟨?_,trivial⟩
  refine vq' h fun ea op' eb w1 e0 g=>?_
  clear h
  subst e0
  revert g
  intro h
  simp only[ah,decide_eq_true_eq]at h
  obtain⟨⟨⟨rfl,h1⟩,h2⟩,h3⟩:=h
  rw[show tE C (.din neg a b)=(ob' neg (tE C a) (tE C b)) from rfl]
  cases neg with
  |true=>exact px' (gE' R.hu1 (sE0 a R h1).1 (sE0 b R h2).1) (b0' h3)
  |false=>exact px' (pQ' R.hu1 (sE0 a R h1).1 (sE0 b R h2).1) (b0' h3)
 | .dgt a b,B,X,sc,e,R,h=>by
  refine⟨?_,trivial⟩
  refine zg' h fun eo nm apos y pos e0 g=>?_
  clear h
  subst e0
  revert g
  intro h
  simp only[ah,decide_eq_true_eq]at h
  obtain⟨⟨⟨⟨⟨rfl,h1⟩,h2⟩,h3⟩,h4⟩,h5⟩:=h
  rw[show tE C (.dgt a b)=(lp' (tE C a) (tE C b)) from rfl]
  have e2:=ar' (env:=X.env) (es:=[]) h5
  refine n3' R.hu1 (sE0 a R h1).1 (sE0 b R h4).1 ⟨ig' h2,?_,h3,?_⟩
  .rw[e2];rfl
  .rw[e2];rfl
 | .met m o es,B,X,sc,e,R,h=>by
  refine⟨?_,trivial⟩
  refine zf' h fun eo nm apos args pos e0 g=>?_
  clear h
  subst e0
  revert g
  intro h
  simp only[ah,decide_eq_true_eq]at h
  obtain⟨⟨⟨⟨⟨rfl,h1⟩,h2⟩,h3⟩,h4⟩,h5⟩:=h
  rw[show tE C (.met m o es)=(tBM C.K (jQ' m) (pV' C.K m) (tE C o) (tA C es)) from rfl]
  rw[<- R.hK]
  obtain⟨id,M⟩:=vx' m
  cases args with
  |nil=>
   cases es with
   |cons c r=>exact ao' h4
   |nil=>
    exact uj' M.pa M.slot M.ty (M.h X) ((sE0 o R h1).1) (ig' h2) h3
  |cons a r=>
   have hs:a7' a=true:=by
    cases es with
    |nil=>exact ao' h4
    |cons c r=>exact(gJ' (gJ' h4).1).2
   have hq:=fO' (env:=X.env) (pos:=pos) h4
   have hp:(backTo pos (starEach r X.env)).any (·.1)=false:=by
    rw[ar' hs]at hq
    exact hq
   refine yL' M.pa M.slot M.ty (M.h X) ((sE0 o R h1).1) (sA es R h4) (ig' h2) ?_ h3 (ar' hs) hp
   have e1:(backTo pos (starEach (a :: r) X.env)).all (fun x=>!x.1)=true:=by
    rw[cG]
    intro x hx
    rw[List.any_eq_false]at hq
    simpa using hq x hx
   rw[e1]
   show(true&&true&&decide ((a :: r).length+0+0<30))=true
   simp only[Bool.true_and,decide_eq_true_eq]
   omega
 | .cal f a,B,X,sc,e,R,h=>by
  refine⟨?_,trivial⟩
  refine rI' h fun x w1 y w2 e0 g=>?_
  clear h
  subst e0
  revert g
  intro h
  simp only[ah,decide_eq_true_eq,bu]at h
  obtain⟨⟨⟨⟨⟨rfl,h1⟩,h2⟩,h3⟩,h4⟩,h5⟩:=h
  rw[show tE C (.cal f a)=(tCB (rYf f) (cR' (tE C a) ka')) from rfl]
  have e2:=ar' (env:=X.env) (es:=[]) h4
  cases f with
  |dct=>exact gf' (k3' (R.calm h5) R.hu) (R.glb h1) (R.blt _ h2) ⋯ (dm' (sE0 a R h3).1 ga' e2) (by decide) (by decide) e2
 | .rvt a,B,X,sc,e,R,h=>by
  refine⟨?_,trivial⟩
  refine zi' h fun ea m w1 w2 w3 w4 w5 e0 g=>?_
  clear h
  subst e0
  revert g
  intro h
  simp only[ah,decide_eq_true_eq]at h
  obtain⟨rfl,h1⟩:=h
  rw[show tE C (.rvt a)=(yS' C.K (tE C a)) from rfl]
  rw[<- R.hK]
  exact uN' (sE0 a R h1).1 (kt' (tZ' pC' pw'))
 | .ssc elt own t it q,B,X,sc,e,R,h=>by
  refine⟨?_,trivial⟩
  refine zh' h fun n1 w1 ee tg iter ifs a scope w2 w3 e0 g=>?_
  clear h
  subst e0
  revert g
  intro h
  simp only[ah,decide_eq_true_eq,bu]at h
  obtain⟨⟨⟨⟨⟨⟨⟨⟨⟨⟨⟨⟨rfl,g1⟩,g2⟩,hh⟩,hsc⟩,helt⟩,hown⟩,rfl⟩,h1⟩,h2⟩,h3⟩,h4⟩,h5⟩:=h
  rw[show tE C (.ssc elt own t it q)=(y2' own (tI C it) (tG C t) (tQo C q) (cZ' (tE C elt))) from rfl]
  refine vc' (nx:=fun D env=>do let v <- eval ee env;standAt ee.pos;let _ <- call (.builtin "set.add") [.ref D,v]) (R.glb g1) (R.blt _ g2) ⟨R.compSc hsc,?_,⟨[],rfl⟩,aN' h3,R.calm hh,fun _ _ _=>⟨rfl,rfl⟩,fun _ _ _ _=>⟨rfl,rfl⟩,fun _ _ _ _ _=>rfl,fun _ _ _ _ _=>rfl,bC' hown,?_⟩ (sI it R h1 h2) rfl rfl
  .rw[R.hN];exact(ci' hsc).2.2.2.2
  .intro s0 H0 ex D
   have R':=R.comp hh hsc s0 H0 ex
   exact⟨sG t R' h4,sQo q R' h5,[],by simp,lr' rfl (sE0 elt R' helt).1⟩
 | .comp elt own t it q .nil,B,X,sc,e,R,h=>by
  have D:oh' C X e (.comp elt own t it q .nil):=by
   obtain⟨ee,tg,iter,ifs,scope,pos,rfl,hh,hsc,helt,hown,h1,h2,h3,h4,h5⟩:=BC' h
   refine⟨tg,iter,ifs,fun D env=>do let _ <- call (.builtin "list.append") [.ref D,<- eval ee env],scope,_,⟨R.compSc hsc,?_,⟨[],rfl⟩,aN' h3,R.calm hh,fun _ _ _=>⟨rfl,rfl⟩,fun _ _ _ _=>⟨rfl,rfl⟩,fun _ _ _ _ _=>rfl,fun _ _ _ _ _=>rfl,bC' hown,?_⟩,sI it R h1 h2,rfl,fun _=>rfl,fun _ _ _=>⟨_,rfl⟩⟩
   .rw[R.hN];exact(ci' hsc).2.2.2.2
   .intro s0 H0 ex D
    have R':=R.comp hh hsc s0 H0 ex
    refine⟨sG t R' h4,sQo q R' h5,[],by simp,?_⟩
    exact fv' rfl (sE0 elt R' helt).1
  refine⟨?_,D⟩
  obtain⟨tg,iter,ifs,nx,scope,pos,D,hi,he,_⟩:=D
  rw[show tE C (.comp elt own t it q .nil)=(hN' own (tI C it) (tG C t) (tQo C q) (tR C .nil (d4' (tE C elt)))) from rfl]
  exact hO' D hi he
 | .comp elt own t it q (.cons ws t2 it2 q2 .nil),B,X,sc,e,R,h=>by
  have D:oh' C X e (.comp elt own t it q (.cons ws t2 it2 q2 .nil)):=by
   obtain⟨ee,tg,iter,ifs,tg2,iter2,ifs2,scope,pos,rfl,hh,hsc,helt,hown,h1,h2,h3,h4,h5,g1,g2,g3,g4,g5,g6,g7⟩:=BD' h
   refine⟨tg,iter,ifs,fun D env=>aS' (.ListComp ee [⟨tg,iter,ifs,0⟩,⟨tg2,iter2,ifs2,0⟩] scope pos) 0 iter2 (.ref D) env,scope,_,⟨R.compSc hsc,?_,⟨_,rfl⟩,aN' h3,R.calm hh,fun _ _ _=>⟨rfl,rfl⟩,fun _ _ _ _=>⟨rfl,rfl⟩,fun _ _ _ _ _=>oi' _ _ _ _ _ _ _ _ _ _ _ _ _ _,fun _ _ _ _ _=>rfl,bC' hown,?_⟩,sI it R h1 h2,rfl,fun _=>rfl,fun _ _ _=>⟨_,rfl⟩⟩
   .rw[R.hN];exact(ci' hsc).2.2.2.2
   .intro s0 H0 ex D
    have R':=R.comp hh hsc s0 H0 ex
    refine⟨sG t R' h4,sQo q R' h5,ws,g7,?_⟩
    exact dK' (nx:=do let _ <- call (.builtin "list.append") [.ref D,<- eval ee (X.comp scope s0 H0 ex).env]) rfl (R.calm hh) (fun _=>rfl) (fun _=>rfl) (fun _=>rfl) (fun _=>rfl) (fun _=>rfl) (fun _=>rfl) ⟨_,rfl,rfl⟩ (aN' g3) (sI it2 R' g1 g2) (sG t2 R' g4) (bC' g6) (sQo q2 R' g5) (fv' rfl (sE0 elt R' helt).1) (by simp) cX'
  refine⟨?_,D⟩
  obtain⟨tg,iter,ifs,nx,scope,pos,D,hi,he,_⟩:=D
  rw[show tE C (.comp elt own t it q (.cons ws t2 it2 q2 .nil))=(hN' own (tI C it) (tG C t) (tQo C q) (tR C (.cons ws t2 it2 q2 .nil) (d4' (tE C elt)))) from rfl]
  exact hO' D hi he
 | .comp elt own t it q (.cons ws t2 it2 q2 (.cons ws3 t3 it3 q3 .nil)),B,X,sc,e,R,h=>by
  have D:oh' C X e (.comp elt own t it q (.cons ws t2 it2 q2 (.cons ws3 t3 it3 q3 .nil))):=by
   obtain⟨ee,tg,iter,ifs,tg2,iter2,ifs2,tg3,iter3,ifs3,scope,pos,rfl,hh,hsc,helt,hown,h1,h2,h3,h4,h5,⟨g1,g2,g3,g4,g5,g6,g7⟩,k1,k2,k3,k4,k5,k6,k7⟩:=BE' h
   refine⟨tg,iter,ifs,fun D env=>aS' (.ListComp ee [⟨tg,iter,ifs,0⟩,⟨tg2,iter2,ifs2,0⟩,⟨tg3,iter3,ifs3,0⟩] scope pos) 0 iter2 (.ref D) env,scope,_,⟨R.compSc hsc,?_,⟨_,rfl⟩,aN' h3,R.calm hh,fun _ _ _=>⟨rfl,rfl⟩,fun _ _ _ _=>⟨rfl,rfl⟩,fun _ _ _ _ _=>lY' _ _ _ _ _ _ _ _ _ _ _ _ _ _ _ _ _,fun _ _ _ _ _=>rfl,bC' hown,?_⟩,sI it R h1 h2,rfl,fun _=>rfl,fun _ _ _=>⟨_,rfl⟩⟩
   .rw[R.hN];exact(ci' hsc).2.2.2.2
   .intro s0 H0 ex D
    have R':=R.comp hh hsc s0 H0 ex
    refine⟨sG t R' h4,sQo q R' h5,ws,g7,?_⟩
    exact dK' (d:=0) (nx:=aS' (.ListComp ee [⟨tg,iter,ifs,0⟩,⟨tg2,iter2,ifs2,0⟩,⟨tg3,iter3,ifs3,0⟩] scope pos) 1 iter3 (.ref D) (X.comp scope s0 H0 ex).env) rfl (R.calm hh) (fun _=>rfl) (fun _=>rfl) (fun _=>rfl) (fun _=>rfl) (fun _=>jX' _ _ _ _ _ _ _ _ _ _ _ _ _ _ _ _ _) (fun _=>rfl) ⟨_,rfl,rfl⟩ (aN' g3) (sI it2 R' g1 g2) (sG t2 R' g4) (bC' g6) (sQo q2 R' g5)
     (dK' (d:=1) (nx:=do let _ <- call (.builtin "list.append") [.ref D,<- eval ee (X.comp scope s0 H0 ex).env]) rfl (R.calm hh) (fun _=>rfl) (fun _=>rfl) (fun _=>rfl) (fun _=>rfl) (fun _=>rfl) (fun _=>rfl) ⟨_,rfl,rfl⟩ (aN' k3) (sI it3 R' k1 k2) (sG t3 R' k4) (bC' k6) (sQo q3 R' k5) (fv' rfl (sE0 elt R' helt).1) (by simp) cX') k7 cX'
  refine⟨?_,D⟩
  obtain⟨tg,iter,ifs,nx,scope,pos,D,hi,he,_⟩:=D
  rw[show tE C (.comp elt own t it q (.cons ws t2 it2 q2 (.cons ws3 t3 it3 q3 .nil)))=(hN' own (tI C it) (tG C t) (tQo C q) (tR C (.cons ws t2 it2 q2 (.cons ws3 t3 it3 q3 .nil)) (d4' (tE C elt)))) from rfl]
  exact hO' D hi he
 | .comp elt own t it q (.cons ws t2 it2 q2 (.cons _ _ _ _ (.cons _ _ _ _ _))),B,X,sc,e,R,h=>(BF' h).elim
termination_by structural c=>c
theorem sA {C:Rc}:∀(es:Ces) {B:List Str} {X:Cx} {sc:Scope} {xs:List Expr},Rok C B X sc->mA C.N B sc es xs=true->PA X xs (tA C es)
 | .nil,B,X,sc,xs,R,h=>by
  refine lW' h fun e0 g=>?_
  clear h
  subst e0
  revert g
  intro h
  rw[show tA C .nil=(ka') from rfl]
  exact ga'
 | .cons e r,B,X,sc,xs,R,h=>by
  refine oe' h fun x xs e0 g=>?_
  clear h
  subst e0
  revert g
  intro h
  simp only[ah]at h
  rw[show tA C (.cons e r)=(cR' (tE C e) (tA C r)) from rfl]
  exact dm' ((sE0 e R h.1.1).1) (sA r R h.2) (ar' h.1.2)
termination_by structural c=>c
theorem sQ {C:Rc}:∀(q:Cq) {B:List Str} {X:Cx} {sc:Scope} {e:Expr},Rok C B X sc->mQ C.N B sc q e=true->PT X e (tQ C q)/\((∃op vs pos,e=.BoolOp op vs pos)->PW X e (tQ C q))
 | .val c,B,X,sc,e,R,h=>by
  replace h:=gJ' h
  refine⟨?_,fun⟨op,vs,pos,z⟩=>?_⟩
  .rw[show tQ C (.val c)=(fun σ H Q=>tE C c σ H fun x H'=>∃k,t8' C.K x H' k/\Q k H') from rfl]
   rw[<- R.hK]
   exact np' (sE0 c R h.1).1 (lX' h.2)
  .subst z;exact ao' h.2
 | .din neg a b,B,X,sc,e,R,h=>by
  refine vq' h fun ea op' eb w1 e0 g=>?_
  clear h
  subst e0
  revert g
  intro h
  simp only[ah,decide_eq_true_eq]at h
  obtain⟨⟨⟨rfl,h1⟩,h2⟩,h3⟩:=h
  rw[show tQ C (.din neg a b)=(hE' (ob' neg (tE C a) (tE C b))) from rfl]
  cases neg with
  |true=>exact⟨py' (gE' R.hu1 (sE0 a R h1).1 (sE0 b R h2).1) (b0' h3),fun⟨op,vs,pos,z⟩=>by cases z⟩
  |false=>exact⟨py' (pQ' R.hu1 (sE0 a R h1).1 (sE0 b R h2).1) (b0' h3),fun⟨op,vs,pos,z⟩=>by cases z⟩
 | .cmw k a b,B,X,sc,e,R,h=>by
  refine vq' h fun ea op' eb w1 e0 g=>?_
  clear h
  subst e0
  revert g
  intro h
  simp only[ah,decide_eq_true_eq]at h
  obtain⟨⟨⟨rfl,h1⟩,h2⟩,h3⟩:=h
  rw[show tQ C (.cmw k a b)=(hE' (tOp (rZf k) (tE C a) (tE C b))) from rfl]
  exact⟨kn' (zC' R.hu _) (sE0 a R h1).1 (sE0 b R h2).1 (b0' h3),fun⟨op,vs,pos,z⟩=>by cases z⟩
 | .not q,B,X,sc,e,R,h=>by
  refine AV' h fun y w1 e0 g=>?_
  clear h
  subst e0
  revert g
  intro h
  rw[show tQ C (.not q)=(yn' (tQ C q)) from rfl]
  exact⟨tQ' (sQ q R h).1,fun⟨op,vs,pos,z⟩=>by cases z⟩
 | .and a b,B,X,sc,e,R,h=>by
  replace h:=lL' h
  rcases h with⟨x,y,pos,rfl,h⟩|⟨x,y,z,r,pos,rfl,h⟩
  .simp only[ah]at h
   rw[show tQ C (.and a b)=(tN' (tQ C a) (tQ C b)) from rfl]
   have w:PW X (.BoolOp .And [x,y] pos) (tN' (tQ C a) (tQ C b)):=pz' (sQ a R h.1).1 (qG' (sQ b R h.2).1)
   exact⟨w.pt,fun _=>w⟩
  .simp only[ah]at h
   rw[show tQ C (.and a b)=(tN' (tQ C a) (tQ C b)) from rfl]
   have w:=pz' (sQ a R h.1).1 ((sQ b R h.2).2 ⟨_,_,_,rfl⟩)
   exact⟨w.pt,fun _=>w⟩
 | .or a b,B,X,sc,e,R,h=>by
  replace h:=lM' h
  rcases h with⟨x,y,pos,rfl,h⟩|⟨x,y,z,r,pos,rfl,h⟩
  .simp only[ah]at h
   rw[show tQ C (.or a b)=(tOr (tQ C a) (tQ C b)) from rfl]
   have w:PW X (.BoolOp .Or [x,y] pos) (tOr (tQ C a) (tQ C b)):=tP' (sQ a R h.1).1 (tO' (sQ b R h.2).1)
   exact⟨w.pt,fun _=>w⟩
  .simp only[ah]at h
   rw[show tQ C (.or a b)=(tOr (tQ C a) (tQ C b)) from rfl]
   have w:=tP' (sQ a R h.1).1 ((sQ b R h.2).2 ⟨_,_,_,rfl⟩)
   exact⟨w.pt,fun _=>w⟩
 | .cmp op a b,B,X,sc,e,R,h=>by
  refine vq' h fun ea op' eb w1 e0 g=>?_
  clear h
  subst e0
  revert g
  intro h
  simp only[ah,decide_eq_true_eq]at h
  obtain⟨⟨⟨rfl,h1⟩,h2⟩,h3⟩:=h
  rw[show tQ C (.cmp op a b)=(hE' (tOp (cz' C.K op) (tE C a) (tE C b))) from rfl]
  rw[<- R.hK]
  exact⟨kn' (p1' R.hu _) (sE0 a R h1).1 (sE0 b R h2).1 (b0' h3),fun⟨op,vs,pos,z⟩=>by cases z⟩
termination_by structural c=>c
theorem sQo {C:Rc}:∀(q:Cqo) {B:List Str} {X:Cx} {sc:Scope} {es:List Expr},Rok C B X sc->mQo C.N B sc q es=true->PTs X es (tQo C q)
 | .none,B,X,sc,es,R,h=>by
  refine lW' h fun e0 g=>?_
  clear h
  subst e0
  revert g
  intro h
  rw[show tQo C .none=(fun _ H Q=>Q true H) from rfl];exact q6'
 | .some q,B,X,sc,es,R,h=>by
  refine zm' h fun e e0 g=>?_
  clear h
  subst e0
  revert g
  intro h
  rw[show tQo C (.some q)=(tQ C q) from rfl];exact q8' (sQ q R h).1
termination_by structural c=>c
theorem sO {C:Rc}:∀(o:Co) {B:List Str} {X:Cx} {sc:Scope} {e:Option Expr},Rok C B X sc->mO C.N B sc o e=true->PO X e (tO C o)
 | .none,B,X,sc,e,R,h=>by
  refine zn' h fun e0 g=>?_
  clear h
  subst e0
  revert g
  intro h
  rw[show tO C .none=(hF') from rfl];exact qX'
 | .some c,B,X,sc,e,R,h=>by
  refine zo' h fun y e0 g=>?_
  clear h
  subst e0
  revert g
  intro h
  rw[show tO C (.some c)=(nv' (tE C c)) from rfl];exact kt' (sE0 c R h).1
termination_by structural c=>c
theorem sI {C:Rc}:∀(i:Ci) {B:List Str} {X:Cx} {sc:Scope} {x tg:Expr},Rok C B X sc->mI C.N B sc i x=true->f9' i tg=true->PI X tg x (tI C i)
 | .val c,B,X,sc,x,tg,R,h,_=>by
  rw[show tI C (.val c)=(yO' C.K (tE C c)) from rfl]
  rw[<- R.hK]
  exact uv' (sE0 c R h).1
 | .range1 a,B,X,sc,x,tg,R,h,_=>by
  refine rI' h fun n w1 y w2 e0 g=>?_
  clear h
  subst e0
  revert g
  intro h
  simp only[ah,decide_eq_true_eq]at h
  obtain⟨⟨⟨⟨rfl,h1⟩,h2⟩,h3⟩,h4⟩:=h
  rw[show tI C (.range1 a)=(qP' (cR' (tE C a) ka')) from rfl]
  exact ki' (R.glb h1) (R.blt _ h2) (dm' (sE0 a R h3).1 ga' (ar' h4)) (ar' h4)
 | .range2 a b,B,X,sc,x,tg,R,h,_=>by
  refine zp' h fun n w1 y z w2 e0 g=>?_
  clear h
  subst e0
  revert g
  intro h
  simp only[ah,decide_eq_true_eq]at h
  obtain⟨⟨⟨⟨⟨⟨rfl,h1⟩,h2⟩,h3⟩,h4⟩,h5⟩,h6⟩:=h
  rw[show tI C (.range2 a b)=(qQ' (cR' (tE C a) (cR' (tE C b) ka'))) from rfl]
  have e2:starEach [_] X.env=[(false,eval _ X.env)]:=ar' (es:=[]) h6
  exact kj' (R.glb h1) (R.blt _ h2) (dm' (sE0 a R h3).1 (dm' (sE0 b R h5).1 ga' (ar' h6)) (ar' h4)) (by rw[ar' h4,e2]) e2
 | .enum a,B,X,sc,x,tg,R,h,hz=>by
  refine rI' h fun n w1 y w2 e0 g=>?_
  clear h
  subst e0
  revert g
  intro h
  simp only[ah,decide_eq_true_eq]at h
  obtain⟨⟨⟨⟨rfl,h1⟩,h2⟩,h3⟩,h4⟩:=h
  rw[show tI C (.enum a)=(rb' C.K (tE C a)) from rfl]
  rw[<- R.hK]
  cases tg with
  |Tuple es k p=>exact rc' (R.glb h1) (R.blt _ h2) (dm' (sE0 a R h3).1 ga' (ar' h4)) (ar' h4)
  |_=>cases hz
 | .dk c,B,X,sc,x,tg,R,h,_=>by
  rw[show tI C (.dk c)=(y9' (tE C c)) from rfl]
  exact vk' (sE0 c R h).1
termination_by structural c=>c
theorem sG {C:Rc}:∀(t:Ct) {B:List Str} {X:Cx} {sc:Scope} {e:Expr},Rok C B X sc->mT C.N B sc t e=true->PG X e (tG C t)
 | .name i,B,X,sc,e,R,h=>by
  refine AU' h fun x w1 e0 g=>?_
  clear h
  subst e0
  revert g
  intro h
  simp only[ah]at h
  obtain⟨h1,h2,h3⟩:=bS' h.1
  obtain⟨h4,h5⟩:=R.locb h.2
  rw[show tG C (.name i)=(cQ' i) from rfl]
  exact qM' (by rw[R.hN];exact R.nd) (by rw[R.hN];exact h1) h4 h5
 | .tup ts,B,X,sc,e,R,h=>by
  refine vr' h fun es w1 w2 e0 g=>?_
  clear h
  subst e0
  revert g
  intro h
  rw[show tG C (.tup ts)=(za' C.K (oc' ts) (tGs C ts)) from rfl]
  rw[<- R.hK]
  simp only[ah,bu]at h
  exact vl' (R.calm h.2) (sGs ts R h.1) (cI' h.1).1 (cI' h.1).2
 | .sub o i,B,X,sc,e,R,h=>by
  refine vs' h fun eo ei w1 e0 g=>?_
  clear h
  subst e0
  revert g
  intro h
  simp only[ah]at h
  rw[show tG C (.sub o i)=(yu' (tE C o) (tE C i) eK') from rfl]
  exact tV' (sE0 o R h.1.1).1 (sE0 i R h.1.2).1 nx' (rM' h.2)
termination_by structural c=>c
theorem sGs {C:Rc}:∀(ts:Cts) {B:List Str} {X:Cx} {sc:Scope} {es:List Expr},Rok C B X sc->mTs C.N B sc ts es=true->PGs X es (tGs C ts)
 | .nil,B,X,sc,es,R,h=>by
  refine lW' h fun e0 g=>?_
  clear h
  subst e0
  revert g
  intro h
  rw[show tGs C .nil=(yt') from rfl];exact qO'
 | .cons t r,B,X,sc,es,R,h=>by
  refine oe' h fun x xs e0 g=>?_
  clear h
  subst e0
  revert g
  intro h
  simp only[ah]at h
  rw[show tGs C (.cons t r)=(qN' (tG C t) (tGs C r)) from rfl]
  exact nm' (sG t R h.1.1) (sGs r R h.2) (ii' h.1.2)
termination_by structural c=>c
end
theorem sE {C:Rc} {B:List Str} (c:Ce) {X:Cx} {sc:Scope} {e:Expr} (R:Rok C B X sc) (h:mE C.N B sc c e=true):PE X e (tE C c):=(sE0 c R h).1
end R3
set_option maxHeartbeats 4000000
namespace R3
open PySem PySem.Spec PyProof.Rows L2
def eo':Expr->Bool
 | .ListComp ..=>false
 | .SetComp ..=>false
 | .DictComp ..=>false
 |_=>true
theorem oj' {x tg:Expr} {l:Nat} {env:Env} (h:eo' x=true):swapsWithSole [tg] x l env=pure false:=by
 cases x<;>first|rfl|cases h
theorem jY' {x:Expr} {l:Nat} {env:Env} (h:eo' x=true):swapsWith x none l env=pure false:=by
 cases x<;>first|rfl|cases h
set_option tactic.hygienic true in
theorem l0' {N B:List Str} {sc:Scope} {c:Ce} {x:Expr} (h:mE N B sc c x=true) (hd:if' c=false) (hx:eo' x=false):∃elt own t it q r,c=.comp elt own t it q r/\∃ee gens scope pos,x=.ListComp ee gens scope pos:=by
 cases x<;>first|(cases hx;done)|skip
 .cases c<;>first|(exact ao' h)|(cases hd;done)|exact⟨_,_,_,_,_,_,rfl,_,_,_,_,rfl⟩
 .cases c<;>first|(exact ao' h)|(cases hd;done)|(rename_i r;cases r<;>first|(exact ao' h)|(cases hd;done)|(rename_i r;cases r<;>first|(exact ao' h)|(cases hd;done)|(rename_i r;cases r<;>exact ao' h)))
 .cases c<;>first|(exact ao' h)|(cases hd;done)|(rename_i r;cases r<;>first|(exact ao' h)|(cases hd;done)|(rename_i r;cases r<;>first|(exact ao' h)|(cases hd;done)|(rename_i r;cases r<;>exact ao' h)))
theorem du' {tg:Expr} {env:Env} (h:a7' tg=true):(assignEach [tg] env).map (·.2)=[assign tg env]:=by
 cases tg<;>first|rfl|cases h
def rN':Expr->Expr->Bool
 | .Tuple ..,.Tuple ..=>false
 | .List ..,.Tuple ..=>false
 |_,_=>true
theorem fg' {tg x:Expr} {env:Env} (h:rN' tg x=true):swappedStores [tg] x env=pure none:=by
 cases tg<;>first|rfl|(cases x<;>first|rfl|cases h)
theorem gP' {tg:Expr} {vs:List Expr} {k:Nat} {pos:Pos} {env:Env} (h:vs.all (foldedForSure 8)=true):swappedStores [tg] (.Tuple vs k pos) env=pure none:=by
 have key:∀ts:List Expr,swappedStores [.Tuple ts 0 pos] (.Tuple vs k pos) env=pure none:=by
  intro ts
  unfold swappedStores
  dsimp only
  split
  .rfl
  .split
   .rfl
   .split
    .rfl
    .rfl
 cases tg<;>first|rfl|exact key _
theorem rO' {N B:List Str} {sc:Scope} {t:Ct} {a:List Expr} {p:Pos} (h:mT N B sc t (.List a p)=true):False:=by
 cases t<;>exact ao' h
set_option maxHeartbeats 4000000
mutual
theorem sS:∀(c:Cs) {C:Rc} {B:List Str} {X:Cx} {sc:Scope} {s:Stmt},Rok C B X sc->X.env.scope.kind=.function->mS C.N B sc c s=true->PS X s (tS C c)
 | .expr e,C,B,X,sc,s,R,hk,h=>by
  refine zq' h fun x w1 e0 g=>?_
  clear h
  subst e0
  revert g
  intro h
  obtain⟨hc,hd⟩:=gJ' h
  clear h
  obtain⟨hc,hm⟩:=gJ' hc
  replace hd:if' e=false:=by cases z:if' e with
   |false=>rfl
   |true=>rw[z]at hd;exact ao' hd
  rw[show tS C (.expr e)=(qK' (tE C e)) from rfl]
  refine qL' (sE e R hc) (jY' ?_)
  cases hx:eo' x with
  |true=>rfl
  |false=>
   obtain⟨elt,own,t,it,q,r,rfl,_⟩:=l0' hc hd hx
   exact ao' hm
 | .ret e,C,B,X,sc,s,R,hk,h=>by
  refine zr' h fun x w1 e0 g=>?_
  clear h
  subst e0
  revert g
  intro h
  rw[show tS C (.ret e)=(yp' (tE C e)) from rfl]
  exact tT' (sE e R h)
 | .asg t e,C,B,X,sc,s,R,hk,h=>by
  refine zs' h fun tg x pos e0 g=>?_
  clear h
  subst e0
  revert g
  intro h
  obtain⟨h,h4⟩:=gJ' h
  obtain⟨h,h3⟩:=gJ' h
  obtain⟨h,h2⟩:=gJ' h
  obtain⟨h1,h0⟩:=gJ' h
  replace h0:if' e=false:=by cases z:if' e with
   |false=>rfl
   |true=>rw[z]at h0;exact ao' h0
  rw[show tS C (.asg t e)=(j9' (tE C e) (tG C t)) from rfl]
  have hw:swappedStores [tg] x X.env=pure none:=by
   cases tg with
   |Tuple a b c=>cases x<;>first|exact fg' rfl|exact gP' h4|exact ao' h4
   |List a b=>exact(rO' h2).elim
   |_=>exact fg' rfl
  cases hx:eo' x with
  |true=>exact iJ' (sE e R h1) (sG t R h2) (oj' hx) hw (du' h3)
  |false=>
   obtain⟨elt,own,t',it,q,r,rfl,ee,gens,scope,p2,rfl⟩:=l0' h1 h0 hx
   have D:=(sE0 _ R h1).2
   obtain⟨tg',iter,ifs,nx,scope',pos',D,hi,he,hu,hsw⟩:=D
   cases t with
   |name i=>
    cases tg with
    |Name y py=>
     obtain⟨b,hb⟩:=hsw y py pos.line
     cases b with
     |true=>
      replace h2:=gJ' h2
      obtain⟨g1,g2,g3⟩:=bS' h2.1
      obtain⟨g4,g5⟩:=R.locb h2.2
      exact jA' D hi (by rw[R.hN];exact R.nd) (by rw[R.hN];exact g1) g4 g5 (hu _) hb
     |false=>exact iJ' (sE _ R h1) (sG _ R h2) hb hw (du' h3)
    |_=>exact ao' h2
   |tup ts=>
    cases tg with
    |Tuple a b c=>exact ao' h4
    |_=>exact ao' h2
   |sub o i=>
    cases tg with
    |Subscript a b c=>exact iJ' (sE _ R h1) (sG _ R h2) rfl hw (du' h3)
    |_=>exact ao' h2
 | .setc2 i elt own t it q ws t2 it2 q2,C,B,X,sc,s,R,hk,h=>by
  refine zt' h fun y py ee tg iter ifs a tg2 iter2 ifs2 a2 scope p2 pos e0 g=>?_
  clear h
  subst e0
  revert g
  intro h
  simp only[ah,decide_eq_true_eq,bu,cG]at h
  obtain⟨⟨⟨⟨⟨⟨⟨⟨⟨⟨⟨⟨⟨⟨⟨⟨⟨⟨hh,hnm⟩,hsc⟩,helt⟩,hown⟩,rfl⟩,h1⟩,h2⟩,h3⟩,h4⟩,h5⟩,rfl⟩,f1⟩,f2⟩,f3⟩,f4⟩,f5⟩,f6⟩,f7⟩:=h
  have hnm':=hnm
  replace hnm:=gJ' hnm
  obtain⟨g1,g2,g3⟩:=bS' hnm.1
  obtain⟨g4,g5⟩:=R.locb hnm.2
  rw[show tS C (.setc2 i elt own t it q ws t2 it2 q2)=(j9' (u9' own (tI C it) (tG C t) (tQo C q) (hM' (tI C it2) (a0' ws (tG C t2) (tQo C q2) (cZ' (tE C elt))))) (cQ' i)) from rfl]
  refine rz' (nx:=fun D env=>aS' (.SetComp ee [⟨tg,iter,ifs,0⟩,⟨tg2,iter2,ifs2,0⟩] scope p2) 0 iter2 (.ref D) env) ri' (fun _=>rfl) nQ' fB' ry' ⟨R.compSc hsc,?_,⟨_,rfl⟩,aN' h3,R.calm hh,fun _ _ _=>⟨rfl,rfl⟩,fun _ _ _ _=>⟨rfl,rfl⟩,fun _ _ _ _ _=>lZ' _ _ _ _ _ _ _ _ _ _ _ _ _ _,fun _ _ _ _ _=>rfl,bC' hown,?_⟩ (sI it R h1 h2) (by rw[R.hN];exact R.nd) (by rw[R.hN];exact g1) g4 g5 (sG (.name i) R hnm') rfl rfl ⟨_,rfl⟩
  .rw[R.hN];exact(ci' hsc).2.2.2.2
  .intro s0 H0 ex D
   have R':=R.comp hh hsc s0 H0 ex
   refine⟨sG t R' h4,sQo q R' h5,ws,f7,?_⟩
   exact dK' (nx:=do let v <- eval ee (X.comp scope s0 H0 ex).env;standAt ee.pos;let _ <- call (.builtin "set.add") [.ref D,v]) rfl (R.calm hh) (fun _=>rfl) (fun _=>rfl) (fun _=>rfl) (fun _=>rfl) (fun _=>rfl) (fun _=>rfl) ⟨_,rfl,rfl⟩ (aN' f3) (sI it2 R' f1 f2) (sG t2 R' f4) (bC' f6) (sQo q2 R' f5) (kV' rfl (sE elt R' helt)) (by simp) fB'
 | .dctc tup i k v own t it q,C,B,X,sc,s,R,hk,h=>by
  refine zu' h fun y py ke ve tg iter ifs a scope p2 pos e0 g=>?_
  clear h
  subst e0
  revert g
  intro h
  simp only[ah,decide_eq_true_eq,bu]at h
  obtain⟨⟨⟨⟨⟨⟨⟨⟨⟨⟨⟨hh,hnm⟩,hsc⟩,hke⟩,hve⟩,hown⟩,rfl⟩,h1⟩,h2⟩,h3⟩,h4⟩,h5⟩:=h
  have hnm':=hnm
  replace hnm:=gJ' hnm
  obtain⟨g1,g2,g3⟩:=bS' hnm.1
  obtain⟨g4,g5⟩:=R.locb hnm.2
  rw[show tS C (.dctc tup i k v own t it q)=(if tup then j9' (vb' own (tI C it) (tG C t) (tQo C q) (tE C k) (tE C v)) (cQ' i)else j9' (va' own (tI C it) (tG C t) (tQo C q) (tE C k) (tE C v)) (cQ' i)) from rfl]
  cases tup with
  |false=>
   refine rz' (Is:=uV' X.prog X.w) (nx:=fun D env=>vy' ke ve D env) iP' (fun _=>rfl) kW' gt' uW' ⟨R.compSc hsc,?_,⟨[],rfl⟩,aN' h3,R.calm hh,fun _ _ _=>⟨rfl,rfl⟩,fun _ _ _ _=>⟨rfl,rfl⟩,fun _ _ _ _ _=>rfl,fun _ _ _ _ _=>rfl,bC' hown,?_⟩ (sI it R h1 h2) (by rw[R.hN];exact R.nd) (by rw[R.hN];exact g1) g4 g5 (sG (.name i) R hnm') rfl rfl ⟨_,rfl⟩
   .rw[R.hN];exact(ci' hsc).2.2.2.2
   .intro s0 H0 ex D
    have R':=R.comp hh hsc s0 H0 ex
    exact⟨sG t R' h4,sQo q R' h5,[],by simp,kX' rfl (sE k R' hke) (sE v R' hve)⟩
  |true=>
   refine rz' (Is:=uX' X.prog X.w) (nx:=fun D env=>vy' ke ve D env) iP' (fun _=>rfl) kY' gu' uY' ⟨R.compSc hsc,?_,⟨[],rfl⟩,aN' h3,R.calm hh,fun _ _ _=>⟨rfl,rfl⟩,fun _ _ _ _=>⟨rfl,rfl⟩,fun _ _ _ _ _=>rfl,fun _ _ _ _ _=>rfl,bC' hown,?_⟩ (sI it R h1 h2) (by rw[R.hN];exact R.nd) (by rw[R.hN];exact g1) g4 g5 (sG (.name i) R hnm') rfl rfl ⟨_,rfl⟩
   .rw[R.hN];exact(ci' hsc).2.2.2.2
   .intro s0 H0 ex D
    have R':=R.comp hh hsc s0 H0 ex
    exact⟨sG t R' h4,sQo q R' h5,[],by simp,kZ' R'.hu1 rfl (sE k R' hke) (sE v R' hve)⟩
 | .dput o i e,C,B,X,sc,s,R,hk,h=>by
  refine zv' h fun eo ei w1 ee w2 e0 g=>?_
  clear h
  subst e0
  revert g
  intro h
  simp only[ah]at h
  obtain⟨⟨⟨⟨h1,h2⟩,h3⟩,h4⟩,h5⟩:=h
  rw[show tS C (.dput o i e)=(ld' (tE C o) (tE C i) (tE C e)) from rfl]
  refine nX' R.hu1 (sE o R h1) (sE i R h2) (sE e R h4) ?_
  cases ee<;>first|rfl|cases h5
 | .aug i sub e,C,B,X,sc,s,R,hk,h=>by
  refine zw' h fun x w1 op ee w2 e0 g=>?_
  clear h
  subst e0
  revert g
  intro h
  simp only[ah,decide_eq_true_eq]at h
  obtain⟨⟨⟨h1,h2⟩,h3⟩,rfl⟩:=h
  obtain⟨g1,g2,g3⟩:=bS' h1
  obtain⟨g4,g5⟩:=R.locb h2
  rw[show tS C (.aug i sub e)=(yv' i (tE C e) (ipI fun i j=>if sub then i-j else i+j)) from rfl]
  cases sub with
  |true=>exact pB' (by rw[R.hN];exact R.nd) (by rw[R.hN];exact g1) g4 (sE e R h3) tX' g5
  |false=>exact pB' (by rw[R.hN];exact R.nd) (by rw[R.hN];exact g1) g4 (sE e R h3) tW' g5
 | .ite q a b,C,B,X,sc,s,R,hk,h=>by
  refine zx' h fun x ss rs w1 e0 g=>?_
  clear h
  subst e0
  revert g
  intro h
  simp only[ah]at h
  rw[show tS C (.ite q a b)=(yq' (tQ C q) (tSs C a) (tSs C b)) from rfl]
  exact yr' (sQ q R h.1.1).1 (sSs a R hk h.1.2) (sSs b R hk h.2)
 | .whl q b,C,B,X,sc,s,R,hk,h=>by
  refine zy' h fun x ss w1 e0 g=>?_
  clear h
  subst e0
  revert g
  intro h
  simp only[ah]at h
  rw[show tS C (.whl q b)=(kf' (tQ C q) (tSs C b)) from rfl]
  exact nn' R.own (sQ q R h.1).1 (sSs b R hk h.2)
 | .for_ t it b,C,B,X,sc,s,R,hk,h=>by
  refine zz' h fun tg iter ss w1 e0 g=>?_
  clear h
  subst e0
  revert g
  intro h
  simp only[ah,bu]at h
  obtain⟨⟨⟨⟨⟨h1,h2⟩,h3⟩,h4⟩,h5⟩,hh⟩:=h
  rw[show tS C (.for_ t it b)=(yw' (tI C it) (tG C t) (tSs C b)) from rfl]
  exact tY' R.own (R.calm hh) (sI it R h1 h2) (sG t R h4) (sSs b R hk h5) (aN' h3)
theorem sSs:∀(c:Css) {C:Rc} {B:List Str} {X:Cx} {sc:Scope} {ss:List Stmt},Rok C B X sc->X.env.scope.kind=.function->mSs C.N B sc c ss=true->PSs X ss (tSs C c)
 | .nil,C,B,X,sc,ss,R,hk,h=>by
  refine zA' h fun e0 g=>?_
  clear h
  subst e0
  revert g
  intro h
  rw[show tSs C .nil=(qI') from rfl];exact qJ'
 | .cons c r,C,B,X,sc,ss,R,hk,h=>by
  refine zB' h fun x xs e0 g=>?_
  clear h
  subst e0
  revert g
  intro h
  simp only[ah]at h
  rw[show tSs C (.cons c r)=(yo' (tS C c) (tSs C r)) from rfl]
  exact nl' (sS c R hk h.1) (sSs r R hk h.2)
end
section
variable {P:Program} {w:World} {K:W.Frag} {mg:Str->Option Value} {base:Heap}
structure Ask (P:Program) (w:World) (K:W.Frag) (mg:Str->Option Value) (base:Heap) (k:Nat) (C:Rc):Prop where
 fs:∀y sp',C.fs y=some sp'->∃f' fd' ps',(FnOk P w K mg base CX0 k f' fd' ps' sp'\/FnOk P w K mg base (CX1 P w mg) k f' fd' ps' sp'/\tH' y∈C.B)/\mg y=some (.ref f')/\W.keepIn K (.ref f')=true/\eJ' K fd' ps' []
 B:∀y∈C.B,mg y=none
 mrk:mg "~"=none/\mg "^"=none/\mg "%"=none
 cl:∀c Ca,C.cl c=some Ca->mg c=some (.ref Ca)/\W.nsIn K mainGlobals c=some (some (.ref Ca))
 nt:tld C.B=false
 nh:hat C.B=false
theorem rP' {x qual:Str} {st:Stmt} {f:Addr} {fd:FuncData} {ps:List Str} {k:Nat} {sp:Sp} (F:Fun K x qual st f fd) (C:Rc) (S:FnScope C.N ps (ac' st)) (hK:C.K=K) (code:Css) (hm:mSs C.N C.B (ac' st) code (am' st)=true)
  (len:∀vs H Q E,sp vs H Q E->vs.length=ps.length) (ask:Ask P w K mg base k C) (hxk:C.xk=fun _=>E0)
  (hbody:∀vs H Q E,sp vs H Q E->tSs C code { nx:=fun _ H'=>Q .non H',rt:=Q } (aQ' C.N vs) H):FnOk P w K mg base CX0 (k+1) f fd ps sp:=by
 obtain⟨oc,od,kV,doc,pm,an,cdv,ct,osl,rfl,lk,hcd⟩:=F.ex
 refine yJ' lk hcd S len fun A outer s H vs Q E hr h=>⟨_,(show PSs (tA' CX0 P w K mg base C.N qual (ac' st) f cdv A outer s H E).nox (am' st) (tSs C code) from sSs code (sc:=ac' st) (B:=C.B) ?_ S.kind hm).nox,hbody vs H Q E h⟩
 refine⟨rfl,S.nd,hK.symm,PassesOwn.never,fun _=>rfl,hr.units,hr.gd,fun _ e=>e,fun _ e=>⟨e,rfl⟩,fun _ e=>.inr e,fun _ e=>e,fun y sp' e _ _=>?_,ask.B,ask.mrk,ask.cl,fun _=>⟨rfl,fun _=>rfl,rfl,rfl,uR' hcd⟩,fun _=>ask.nh,fun _ _ nm Ca p_ σ H s e t _ _ _ _ _ _ z=>?_⟩
 .obtain⟨f',fd',ps',h1,h2,h3,h4⟩:=ask.fs y sp' e
  rcases h1 with h1|⟨h1,hb⟩
  .exact⟨f',fd',ps',k,CX0,h1,hr,h2,h3,h4,.inl rfl,p0'⟩
  .refine⟨f',fd',ps',k,_,h1,hr,h2,h3,h4,.inr ⟨rfl,hb⟩,?_⟩
   rintro p_ σ H s e s' I ⟨ea,T,Ca,nm,H',_,_,_,_,_,_,_,_,_,_,_,z⟩
   rw[hxk]at z
   exact z.elim
 .rw[hxk]at z
  exact z.elim
end
def ok' (a:Addr) (k:Nat) (h:Heap):Prop:=∃(x y z:Int) (t1 t2 t3:Tok) (n:Nat),h.get? a=some { cls:=.type "list",data:=.seq #[.int x t1,.int y t2,.int z t3] n }/\0<=x/\0<=y/\y<2 ^ 62/\0<=z/\z<=k
def dH' (a:Addr) (k:Nat):HO:=.ext (ok' a k)
def gQ' (x y z:Int):HO:=.lst [.int x,.int y,.int z]
theorem vz' {a:Addr} {n k:Nat} (e:dH' a n=dH' a k):n<=k:=by
 have e1:ok' a n=ok' a k:=HO.ext.inj e
 let o:Obj:={ cls:=.type "list",data:=.seq #[.int 0 0,.int 0 0,.int n 0] 0 }
 let h0:Heap:={ (default:Heap)with objs:=Array.replicate a default }
 have hs:h0.objs.size=a:=Array.size_replicate
 have g:(h0.push o).get? a=some o:=by
  have:=al h0 (o:=o) rfl
  rw[hs]at this
  exact this
 have q:ok' a n (h0.push o):=⟨0,0,n,0,0,0,0,g,⋯,⋯,by decide,⋯,⋯⟩
 rw[e1]at q
 obtain⟨x,y,z,t1,t2,t3,m,g2,_,_,_,_,hz⟩:=q
 rw[g]at g2
 have g3:=Option.some.inj g2
 have g4:(#[.int 0 0,.int 0 0,.int n 0]:Array Value)=#[.int x t1,.int y t2,.int z t3]:=by
  have:o.data=_:=congrArg Obj.data g3
  injection this
 have g6:=congrArg Array.toList g4
 simp only[List.cons.injEq,Value.int.injEq]at g6
 have g5:(n:Int)=z:=g6.2.2.1.1
 omega
theorem l1' {P:Program} {w:World} {H:Hp} {h:Heap} {b:Addr} {x y z:Int} {k:Nat} (hok:HOk P w H h) (e:H b=some (gQ' x y z)) (hx:0<=x) (hy:0<=y) (hy2:y<2 ^ 62) (hz:0<=z) (hk:z<=k):HOk P w (upd H b (dH' b k)) h:=by
 intro c o ec
 by_cases hc:c=b
 .subst hc
  rw[ab']at ec
  cases ec
  obtain⟨_,its,n,rv,g⟩:=(show aA' P w H h c (.lst _) from hok c _ e)
  cases rv with
  |cons r1 r=>
   cases r with
   |cons r2 r=>
    cases r with
    |cons r3 r=>
     cases r
     obtain⟨t1,rfl⟩:=r1
     obtain⟨t2,rfl⟩:=r2
     obtain⟨t3,rfl⟩:=r3
     refine⟨⟨x,y,z,t1,t2,t3,n,g,hx,hy,hy2,hz,hk⟩,⟨_,g⟩,fun h1 h2 q kk=>?_⟩
     obtain⟨x,y,z,t1,t2,t3,n,g,r⟩:=q
     exact⟨x,y,z,t1,t2,t3,n,kk _ g,r⟩
 .rw[ae' hc]at ec
  have ne:∀d u,H d=some u->(∀xs,u≠.lst xs)->d≠b:=fun d u q nu z=>by subst z;rw[e]at q;cases q;exact nu _ rfl
  exact(hok c o ec).stay (fun _ _ _ q=>q) (fun d q=>by rw[ae' (ne d _ q fun _ z=>by cases z)];exact q) fun d xs q=>by rw[ae' (ne d _ q fun _ z=>by cases z)];exact q
theorem ol' {P:Program} {w:World} {H:Hp} {h:Heap} {b:Addr} {k:Nat} (hok:HOk P w H h) (e:H b=some (dH' b k)):∃x y z:Int,0<=x/\0<=y/\y<2 ^ 62/\0<=z/\z<=k/\HOk P w (upd H b (gQ' x y z)) h:=by
 obtain⟨⟨x,y,z,t1,t2,t3,n,g,hx,hy,hy2,hz,hk⟩,_,_⟩:=(show aA' P w H h b (.ext _) from hok b _ e)
 refine⟨x,y,z,hx,hy,hy2,hz,hk,fun c o ec=>?_⟩
 by_cases hc:c=b
 .subst hc
  rw[ab']at ec
  cases ec
  exact⟨by show 3<=sizeLine;decide,[.int x t1,.int y t2,.int z t3],n,.cons ⟨_,rfl⟩ (.cons ⟨_,rfl⟩ (.cons ⟨_,rfl⟩ .nil)),g⟩
 .rw[ae' hc]at ec
  have ne:∀d u,H d=some u->(∀φ,u≠.ext φ)->d≠b:=fun d u q nu z=>by subst z;rw[e]at q;cases q;exact nu _ rfl
  exact(hok c o ec).stay (fun _ _ _ q=>q) (fun d q=>by rw[ae' (ne d _ q fun _ z=>by cases z)];exact q) fun d xs q=>by rw[ae' (ne d _ q fun _ z=>by cases z)];exact q
theorem om' {fs ex:List Addr} {H H':Hp} {h h':Heap} {b:Addr} {xs:List V} {o:HO} (u:Un fs ex H H' h h') (e:H' b=some (.lst xs)):Un fs ex H (upd H' b o) h h' where
 keep:=u.keep
 slot:=u.slot
 free:=fun c ob q n hx=>by
  have z:=u.free c ob q n hx
  rw[ae' (fun z2=>by subst z2;rw[e]at z;cases z)]
  exact z
 there:=u.there
 tups:=fun c ys q=>by
  have z:=u.tups c ys q
  rw[ae' (fun z2=>by subst z2;rw[e]at z;cases z)]
  exact z
 frzs:=fun c ob ys q=>by
  have z:=u.frzs c ob ys q
  rw[ae' (fun z2=>by subst z2;rw[e]at z;cases z)]
  exact z
 tbls:=fun c ps q=>by
  obtain⟨m,z⟩:=u.tbls c ps q
  exact⟨m,by rw[ae' (fun z2=>by subst z2;rw[e]at z;cases z)];exact z⟩
theorem rQ' {fs ex:List Addr} {H H':Hp} {h h':Heap} {b:Addr} {φ:Heap->Prop} {o:HO} (u:Un fs ex (upd H b o) H' h h') (e:H b=some (.ext φ)):Un fs ex H H' h h':=by
 have ne:∀c,H c=none->c≠b:=fun c n z=>by subst z;rw[e]at n;cases n
 have ne2:∀c v,H c=some v->(∀ψ,v≠.ext ψ)->c≠b:=fun c v q nv z=>by subst z;rw[e]at q;cases q;exact nv _ rfl
 exact⟨fun c ob q n=>u.keep c ob q (by rw[ae' (ne c n)];exact n),fun c ob q n=>u.slot c ob q (by rw[ae' (ne c n)];exact n),fun c ob q n=>u.free c ob q (by rw[ae' (ne c n)];exact n),u.there,
  fun c ys q=>u.tups c ys (by rw[ae' (ne2 c _ q fun _ z=>by cases z)];exact q),fun c ob ys q=>u.frzs c ob ys (by rw[ae' (ne2 c _ q fun _ z=>by cases z)];exact q),fun c ps q=>u.tbls c ps (by rw[ae' (ne2 c _ q fun _ z=>by cases z)];exact q)⟩
section
variable {P:Program} {w:World} {K:W.Frag} {mg:Str->Option Value} {base:Heap} {k:Nat} {f:Addr} {fd:FuncData} {ps:List Str} {sp sp':Sp}
def AW' (Q:VK) (v:V) (H:Hp):Prop:=∃b x y z m,H b=some (gQ' x y z)/\0<=x/\0<=y/\y<2 ^ 62/\0<=z/\z<=((m:Nat):Int)/\Q v (upd H b (dH' b m))
theorem l2' (F:FnOk P w K mg base CX0 k f fd ps sp) (h:∀vs H Q E,sp' vs H Q E->sp vs H (AW' Q) E):FnOk P w K mg base CX0 k f fd ps sp':=by
 refine⟨fun vs H Q E q=>F.len vs H _ E (h _ _ _ _ q),fun A outer s H args us vs Q E hr e0 hb hv hs=>?_⟩
 refine codeAny_mono (F.run A outer s H args us vs _ E hr e0 hb hv (h _ _ _ _ hs)) fun r s' hq=>?_
 cases r with
 |error e=>exact hq
 |ok fl=>
  cases fl with
  |next=>exact hq
  |brk=>exact hq
  |cont=>exact hq
  |ret u=>
   obtain⟨v,H',os,bare,un,hok,rv,b,x,y,z,m,eb,hx,hy,hy2,hz,hm,q⟩:=hq
   exact⟨v,_,os,bare,om' un eb,l1' hok eb hx hy hy2 hz hm,rv,q⟩
theorem rR' (F:FnOk P w K mg base CX0 k f fd ps sp) (h:∀vs H Q E,sp' vs H Q E->∃b n,H b=some (dH' b n)/\∀x y z,0<=x->0<=y->y<2 ^ 62->0<=z->z<=((n:Nat):Int)->sp vs (upd H b (gQ' x y z)) Q E) (len:∀vs H Q E,sp' vs H Q E->vs.length=ps.length):FnOk P w K mg base CX0 k f fd ps sp':=by
 refine⟨len,fun A outer s H args us vs Q E hr e0 hb hv hs=>?_⟩
 obtain⟨b,n,eb,hsp⟩:=h _ _ _ _ hs
 obtain⟨x,y,z,hx,hy,hy2,hz,hn,hok⟩:=ol' e0.hok eb
 have ne:∀c,H c=none->c≠b:=fun c n z=>by subst z;rw[eb]at n;cases n
 have e1:Env0 P w K mg base A outer s (upd H b (gQ' x y z)):=⟨e0.frames,e0.mod,fun c o e=>⟨(e0.bs c o e).1,by rw[ae' (ne c (e0.bs c o e).2)];exact(e0.bs c o e).2⟩,e0.bsz,e0.funs,fun c hc=>by rw[ae' (ne c (e0.frf c hc))];exact e0.frf c hc,hok,e0.bare⟩
 refine codeAny_mono (F.run A outer s _ args us vs Q E hr e1 hb hv (hsp x y z hx hy hy2 hz hn)) fun r s' hq=>?_
 cases r with
 |error e=>exact hq
 |ok fl=>
  cases fl with
  |next=>exact hq
  |brk=>exact hq
  |cont=>exact hq
  |ret u=>
   obtain⟨v,H',os,bare,un,hok,rv,q⟩:=hq
   exact⟨v,H',os,bare,rQ' un eb,hok,rv,q⟩
end
structure Go (c:Nat) (H H':Hp):Prop where
 box:∀a n,H a=some (dH' a n)->∃m,m<=n+c/\H' a=some (dH' a m)
 oth:∀a o,H a=some o->(∀φ,o≠.ext φ)->H' a=some o
 free:∀a,H' a=none->H a=none
theorem Go.of_same {c:Nat} {H H':Hp} (h:av' H H'):Go c H H':=⟨fun a n e=>⟨n,⋯,h a _ e⟩,fun a o e _=>h a o e,fun a e=>h.free e⟩
theorem Go.refl {c:Nat} {H:Hp}:Go c H H:=.of_same (av'.refl H)
theorem Go.trans {c d:Nat} {H H1 H2:Hp} (a:Go c H H1) (b:Go d H1 H2):Go (c+d) H H2:=⟨fun p n e=>by
  obtain⟨m,hm,e1⟩:=a.box p n e
  obtain⟨m',hm',e2⟩:=b.box p m e1
  exact⟨m',⋯,e2⟩,fun p o e no=>b.oth p o (a.oth p o e no) no,fun p e=>a.free p (b.free p e)⟩
theorem Go.mono {c d:Nat} {H H1:Hp} (a:Go c H H1) (h:c<=d):Go d H H1:=⟨fun p n e=>by
  obtain⟨m,hm,e1⟩:=a.box p n e
  exact⟨m,⋯,e1⟩,a.oth,a.free⟩
theorem Go.lst {c:Nat} {H H1:Hp} (a:Go c H H1) {p:Addr} {xs:List V} (e:H p=some (.lst xs)):H1 p=some (.lst xs):=a.oth p _ e fun _ z=>by cases z
theorem Go.tup {c:Nat} {H H1:Hp} (a:Go c H H1) {p:Addr} {xs:List V} (e:H p=some (.tup xs)):H1 p=some (.tup xs):=a.oth p _ e fun _ z=>by cases z
theorem Go.seq {c:Nat} {K:W.Frag} {H H1:Hp} (g:Go c H H1) {a:Addr} {xs:List V} (h:SqL K H a xs):SqL K H1 a xs:=by
 rcases h with(h|⟨o,h⟩)|h
 .exact .inl (.inl (g.lst h))
 .exact .inl (.inr ⟨o,g.oth _ _ h fun _ z=>by cases z⟩)
 .exact .inr h
theorem Go.new {c:Nat} {H:Hp} {p:Addr} (h:H p=none) (o:HO):Go c H (upd H p o):=.of_same fun b u q=>by rw[ae' (au' q h)];exact q
theorem Go.draw {H:Hp} {b:Addr} {n m:Nat} (e:H b=some (dH' b n)) (h:m<=n+1) (o:HO):Go 1 H (upd (upd H b o) b (dH' b m)):=by
 rw[hB']
 refine⟨fun p k q=>?_,fun p u q no=>?_,fun p q=>?_⟩
 .by_cases hp:p=b
  .subst hp
   rw[e]at q
   have:=vz' (Option.some.inj q)
   exact⟨m,⋯,ab'⟩
  .exact⟨k,⋯,by rw[ae' hp];exact q⟩
 .rw[ae']
  .exact q
  .intro z
   subst z
   rw[e]at q
   cases q
   exact no _ rfl
 .by_cases hp:p=b
  .subst hp
   rw[ab']at q
   cases q
  .rw[ae' hp]at q
   exact q
section
variable {C:Rc} {σ:L2.St} {H:Hp} {Q:VK} {D:Ends} {Qb:Bool->Hp->Prop}
def kV (o:Option (Option V)) (H:Hp) (Q:VK):Prop:=∃v,o=some (some v)/\Q v H
theorem rS' {v:V}:kV (some (some v)) H Q=Q v H:=propext ⟨fun⟨u,e,q⟩=>by cases e;exact q,fun q=>⟨v,rfl,q⟩⟩
theorem vA' {i:Nat}:tE C (.var i) σ H Q=kV σ[i]? H Q:=rfl
theorem l3' {n:Int}:tE C (.int n) σ H Q=Q (.int n) H:=rfl
theorem zE' {b:Bool}:tE C (.bl b) σ H Q=Q (.bl b) H:=rfl
theorem vB':tE C .non σ H Q=Q .non H:=rfl
theorem vC' {x:Str}:tE C (.str x) σ H Q=Q (.str x) H:=rfl
def kB1 (C:Rc) (σ:L2.St) (op:Operator) (b:Ce) (Q:VK):VK:=fun x H=>tE C b σ H fun y H2=>fb' C.K op x y H2 Q
def kB2 (C:Rc) (op:Operator) (x:V) (Q:VK):VK:=fun y H=>fb' C.K op x y H Q
theorem vD' {op:Operator} {a b:Ce}:tE C (.bin op a b) σ H Q=tE C a σ H (kB1 C σ op b Q):=rfl
theorem vE' {op:Operator} {b:Ce} {x:V}:kB1 C σ op b Q x H=tE C b σ H (kB2 C op x Q):=rfl
theorem vF' {op:Operator} {x y:V}:kB2 C op x Q y H=fb' C.K op x y H Q:=rfl
def kC1 (C:Rc) (σ:L2.St) (op:CmpOp) (b:Ce) (Q:VK):VK:=fun x H=>tE C b σ H fun y H2=>cz' C.K op x y H2 Q
def kC2 (C:Rc) (op:CmpOp) (x:V) (Q:VK):VK:=fun y H=>cz' C.K op x y H Q
theorem vG' {op:CmpOp} {a b:Ce}:tE C (.cmp op a b) σ H Q=tE C a σ H (kC1 C σ op b Q):=rfl
theorem vH' {op:CmpOp} {b:Ce} {x:V}:kC1 C σ op b Q x H=tE C b σ H (kC2 C op x Q):=rfl
theorem vI' {op:CmpOp} {x y:V}:kC2 C op x Q y H=cz' C.K op x y H Q:=rfl
def kI1 (C:Rc) (σ:L2.St) (b:Ce) (Q:VK):VK:=fun x H=>tE C b σ H fun y H2=>oa' C.K x y H2 Q
def kI2 (C:Rc) (x:V) (Q:VK):VK:=fun y H=>oa' C.K x y H Q
theorem vJ' {a b:Ce}:tE C (.idx a b) σ H Q=tE C a σ H (kI1 C σ b Q):=rfl
theorem vK' {b:Ce} {x:V}:kI1 C σ b Q x H=tE C b σ H (kI2 C x Q):=rfl
theorem vL' {x y:V}:kI2 C x Q y H=oa' C.K x y H Q:=rfl
def AX' (Q:VK):VK:=fun x H=>rU (fun i=>.int (-i)) x H Q
theorem vM' {a:Ce}:tE C (.neg a) σ H Q=tE C a σ H (AX' Q):=rfl
theorem on' {i:Int}:AX' Q (.int i) H=Q (.int (-i)) H:=propext ⟨fun⟨u,e,q⟩=>by cases e;exact q,fun q=>⟨i,rfl,q⟩⟩
def kT (Qb:Bool->Hp->Prop):VK:=fun x H=>∃k,x=.bl k/\Qb k H
theorem zF' {k:Bool}:kT Qb (.bl k) H=Qb k H:=propext ⟨fun⟨u,e,q⟩=>by cases e;exact q,fun q=>⟨k,rfl,q⟩⟩
theorem vN' {op:CmpOp} {a b:Ce}:tQ C (.cmp op a b) σ H Qb=tE C a σ H (kC1 C σ op b (kT Qb)):=rfl
def vO' (Qb:Bool->Hp->Prop):Bool->Hp->Prop:=fun c H=>Qb (!c) H
theorem vP' {q:Cq}:tQ C (.not q) σ H Qb=tQ C q σ H (vO' Qb):=rfl
theorem oo' {c:Bool}:vO' Qb c H=Qb (!c) H:=rfl
def rT' (C:Rc) (σ:L2.St) (b:Cq) (Qb:Bool->Hp->Prop):Bool->Hp->Prop:=fun c H=>if c=true then tQ C b σ H Qb else Qb false H
def zG' (C:Rc) (σ:L2.St) (b:Cq) (Qb:Bool->Hp->Prop):Bool->Hp->Prop:=fun c H=>if c=true then Qb true H else tQ C b σ H Qb
theorem vQ' {a b:Cq}:tQ C (.and a b) σ H Qb=tQ C a σ H (rT' C σ b Qb):=rfl
theorem zH' {a b:Cq}:tQ C (.or a b) σ H Qb=tQ C a σ H (zG' C σ b Qb):=rfl
theorem rU' {b:Cq}:rT' C σ b Qb true H=tQ C b σ H Qb:=rfl
theorem rV' {b:Cq}:rT' C σ b Qb false H=Qb false H:=rfl
theorem l4' {b:Cq}:zG' C σ b Qb true H=Qb true H:=rfl
theorem vR' {b:Cq}:zG' C σ b Qb false H=tQ C b σ H Qb:=rfl
variable {K:W.Frag} {i j:Int} {x y:Str}
theorem zI':fb' K .Add (.int i) (.int j) H Q=Q (.int (i+j)) H:=rfl
theorem vS':fb' K .Add (.str x) (.str y) H Q=(x.length+y.length<=sizeLine/\Q (.str (x++y)) H):=rfl
theorem zJ':fb' K .Sub (.int i) (.int j) H Q=Q (.int (i-j)) H:=propext ⟨fun⟨_,_,e,e',q⟩=>by cases e;cases e';exact q,fun q=>⟨_,_,rfl,rfl,q⟩⟩
theorem zK':fb' K .Mult (.int i) (.int j) H Q=(vn' i j/\Q (.int (i*j)) H):=rfl
theorem vT':fb' K .Mult (.str x) (.int j) H Q=(-1000000<=j/\j<=1000000/\x.length*j.toNat<=1000000/\Q (.str (Txt.mul x j)) H):=rfl
theorem zL':fb' K .Mod (.int i) (.int j) H Q=(0<j/\Q (.int (i % j)) H):=propext ⟨fun⟨_,_,e,e',c,q⟩=>by cases e;cases e';exact⟨c,q⟩,fun q=>⟨_,_,rfl,rfl,q.1,q.2⟩⟩
theorem zM':fb' K .FloorDiv (.int i) (.int j) H Q=(vm' i j/\Q (.int (i / j)) H):=propext ⟨fun⟨_,_,e,e',c,q⟩=>by cases e;cases e';exact⟨c,q⟩,fun q=>⟨_,_,rfl,rfl,q.1,q.2⟩⟩
theorem zN':fb' K .Pow (.int i) (.int j) H Q=(yA' i j/\Q (.int (i ^ j.toNat)) H):=propext ⟨fun⟨_,_,e,e',c,q⟩=>by cases e;cases e';exact⟨c,q⟩,fun q=>⟨_,_,rfl,rfl,q.1,q.2⟩⟩
theorem BG':cz' K .Lt (.int i) (.int j) H Q=Q (.bl (decide (i<j))) H:=propext ⟨fun⟨_,_,e,e',q⟩=>by cases e;cases e';exact q,fun q=>⟨_,_,rfl,rfl,q⟩⟩
theorem BH':cz' K .LtE (.int i) (.int j) H Q=Q (.bl (decide (i<=j))) H:=propext ⟨fun⟨_,_,e,e',q⟩=>by cases e;cases e';exact q,fun q=>⟨_,_,rfl,rfl,q⟩⟩
theorem BI':cz' K .Gt (.int i) (.int j) H Q=Q (.bl (decide (j<i))) H:=propext ⟨fun⟨_,_,e,e',q⟩=>by cases e;cases e';exact q,fun q=>⟨_,_,rfl,rfl,q⟩⟩
theorem BJ':cz' K .GtE (.int i) (.int j) H Q=Q (.bl (decide (j<=i))) H:=propext ⟨fun⟨_,_,e,e',q⟩=>by cases e;cases e';exact q,fun q=>⟨_,_,rfl,rfl,q⟩⟩
theorem BK':cz' K .Eq (.int i) (.int j) H Q=Q (.bl (decide (i=j))) H:=by
 have e:decide (V.int i=V.int j)=decide (i=j):=by simp
 exact propext ⟨fun q=>e ▸ q.2,fun q=>⟨rfl,e.symm ▸ q⟩⟩
theorem zO':cz' K .Eq (.str x) (.str y) H Q=Q (.bl (decide (x=y))) H:=by
 have e:decide (V.str x=V.str y)=decide (x=y):=by simp
 exact propext ⟨fun q=>e ▸ q.2,fun q=>⟨rfl,e.symm ▸ q⟩⟩
theorem vU' {a:Addr}:oa' K (.ref a) (.int i) H Q=(hv' K (.ref a) (.int i) H Q\/hH' K (.ref a) (.int i) H Q):=rfl
def nf' (C:Rc) (r:Css) (D:Ends):Ends:={ D with nx:=tSs C r D }
theorem vV':tSs C .nil D σ H=D.nx σ H:=rfl
theorem ij' {s:Cs} {r:Css}:tSs C (.cons s r) D σ H=tS C s (nf' C r D) σ H:=rfl
theorem ja' {r:Css}:(nf' C r D).nx σ H=tSs C r D σ H:=rfl
theorem vW' {r:Css}:(nf' C r D).rt=D.rt:=rfl
theorem vX' {r:Css}:(nf' C r D).bk=D.bk:=rfl
theorem vY' {r:Css}:(nf' C r D).ct=D.ct:=rfl
theorem vZ' {e:Ce}:tS C (.ret e) D σ H=tE C e σ H D.rt:=rfl
def v0' (D:Ends) (σ:L2.St):VK:=fun _ H=>D.nx σ H
theorem v1' {e:Ce}:tS C (.expr e) D σ H=tE C e σ H (v0' D σ):=rfl
theorem oq' {v:V}:v0' D σ v H=D.nx σ H:=rfl
def AY' (i:Nat) (D:Ends) (σ:L2.St):VK:=fun x H=>D.nx (σ.set i (some x)) H
theorem zP' {i:Nat} {e:Ce}:tS C (.asg (.name i) e) D σ H=tE C e σ H (AY' i D σ):=rfl
theorem rW' {i:Nat} {v:V}:AY' i D σ v H=D.nx (σ.set i (some v)) H:=rfl
def v2' (C:Rc) (o i:Ce) (D:Ends) (σ:L2.St):VK:=fun v H=>tE C o σ H fun p H1=>tE C i σ H1 fun k H2=>eK' p k v H2 fun H3=>D.nx σ H3
def v3' (C:Rc) (i:Ce) (v:V) (D:Ends) (σ:L2.St):VK:=fun p H1=>tE C i σ H1 fun k H2=>eK' p k v H2 fun H3=>D.nx σ H3
def v4' (p v:V) (D:Ends) (σ:L2.St):VK:=fun k H2=>eK' p k v H2 fun H3=>D.nx σ H3
theorem zQ' {o i e:Ce}:tS C (.asg (.sub o i) e) D σ H=tE C e σ H (v2' C o i D σ):=rfl
theorem or' {o i:Ce} {v:V}:v2' C o i D σ v H=tE C o σ H (v3' C i v D σ):=rfl
theorem ot' {i:Ce} {v p:V}:v3' C i v D σ p H=tE C i σ H (v4' p v D σ):=rfl
theorem ou' {v p k:V}:v4' p v D σ k H=eK' p k v H (D.nx σ):=rfl
def kIf (C:Rc) (a b:Css) (D:Ends) (σ:L2.St):Bool->Hp->Prop:=fun c H=>if c=true then tSs C a D σ H else tSs C b D σ H
theorem BL' {q:Cq} {a b:Css}:tS C (.ite q a b) D σ H=tQ C q σ H (kIf C a b D σ):=rfl
theorem rX' {a b:Css}:kIf C a b D σ true H=tSs C a D σ H:=rfl
theorem zR' {a b:Css}:kIf C a b D σ false H=tSs C b D σ H:=rfl
theorem a3' {p:Prop} [Decidable p] {F:Bool->Hp->Prop} (h1:p->F true H) (h2:¬p->F false H):F (decide p) H:=by
 by_cases h:p
 .rw[decide_eq_true h];exact h1 h
 .rw[decide_eq_false h];exact h2 h
end
section
variable {C:Rc} {σ:L2.St} {H:Hp} {Q:VK} {D:Ends} {Qb:Bool->Hp->Prop} {Qs:List V->Hp->Prop}
def kA1 (C:Rc) (σ:L2.St) (r:Ces) (Qs:List V->Hp->Prop):VK:=fun x H=>tA C r σ H fun xs H2=>Qs (x :: xs) H2
def kA2 (x:V) (Qs:List V->Hp->Prop):List V->Hp->Prop:=fun xs H=>Qs (x :: xs) H
theorem zS':tA C .nil σ H Qs=Qs [] H:=rfl
theorem v5' {e:Ce} {r:Ces}:tA C (.cons e r) σ H Qs=tE C e σ H (kA1 C σ r Qs):=rfl
theorem v6' {r:Ces} {x:V}:kA1 C σ r Qs x H=tA C r σ H (kA2 x Qs):=rfl
theorem v7' {x:V} {xs:List V}:kA2 x Qs xs H=Qs (x :: xs) H:=rfl
def yf' (Q:VK):List V->Hp->Prop:=fun xs H=>xs.length<=sizeLine/\∀p,H p=none->Q (.ref p) (upd H p (.tup xs))
def AZ' (Q:VK):List V->Hp->Prop:=fun xs H=>xs.length<=sizeLine/\∀p,H p=none->Q (.ref p) (upd H p (.lst xs))
theorem v8' {es:Ces}:tE C (.tup es) σ H Q=tA C es σ H (yf' Q):=rfl
theorem v9' {es:Ces}:tE C (.lst es) σ H Q=tA C es σ H (AZ' Q):=rfl
theorem rY' {xs:List V}:yf' Q xs H=(xs.length<=sizeLine/\∀p,H p=none->Q (.ref p) (upd H p (.tup xs))):=rfl
theorem rZ' {xs:List V}:AZ' Q xs H=(xs.length<=sizeLine/\∀p,H p=none->Q (.ref p) (upd H p (.lst xs))):=rfl
def r0' (o:Option Sp) (E:XK) (Q:VK):List V->Hp->Prop:=fun vs H=>match o with
 |some sp=>sp (vs++[]) H Q E
 |none=>False
theorem r1' {f:Str} {es:Ces} {sp:Sp} (h:C.fs f=some sp):tE C (.call f es) σ H Q=tA C es σ H (r0' (some sp) (C.xk σ) Q):=by
 show(match C.fs f with|some sp=>ns' sp [] (C.xk σ) (tA C es) σ H Q|none=>False)=_
 rw[h]
 rfl
theorem ov' {sp:Sp} {E:XK} {vs:List V}:r0' (some sp) E Q vs H=sp vs H Q E:=by
 show sp (vs++[]) H Q E=_
 rw[cz]
def A0' (C:Rc) (f:Bf) (Q:VK):List V->Hp->Prop:=fun vs H=>dF' C.K f vs H Q
theorem wa' {f:Bf} {es:Ces}:tE C (.blt f es) σ H Q=tA C es σ H (A0' C f Q):=rfl
theorem r2' {f:Bf} {vs:List V}:A0' C f Q vs H=dF' C.K f vs H Q:=rfl
def wb' (C:Rc) (σ:L2.St) (m:Mf) (es:Ces) (Q:VK):VK:=fun x H=>tyV C.K (jQ' m) x H/\tA C es σ H fun xs H2=>pV' C.K m x xs H2 Q
def wc' (C:Rc) (m:Mf) (x:V) (Q:VK):List V->Hp->Prop:=fun xs H=>pV' C.K m x xs H Q
theorem wd' {m:Mf} {o:Ce} {es:Ces}:tE C (.met m o es) σ H Q=tE C o σ H (wb' C σ m es Q):=rfl
theorem ow' {m:Mf} {es:Ces} {x:V}:wb' C σ m es Q x H=(tyV C.K (jQ' m) x H/\tA C es σ H (wc' C m x Q)):=rfl
theorem ox' {m:Mf} {x:V} {xs:List V}:wc' C m x Q xs H=pV' C.K m x xs H Q:=rfl
def zT' (C:Rc) (σ:L2.St) (a b:Ce) (Q:VK):Bool->Hp->Prop:=fun c H=>if c=true then tE C a σ H Q else tE C b σ H Q
theorem we' {q:Cq} {a b:Ce}:tE C (.ife q a b) σ H Q=tQ C q σ H (zT' C σ a b Q):=rfl
theorem wf' {a b:Ce}:zT' C σ a b Q true H=tE C a σ H Q:=rfl
theorem wg' {a b:Ce}:zT' C σ a b Q false H=tE C b σ H Q:=rfl
def wh' (Q:VK):VK:=fun x H=>∃c,x=.bl c/\Q (.bl (!c)) H
theorem wi' {a:Ce}:tE C (.not a) σ H Q=tE C a σ H (wh' Q):=rfl
theorem oy' {c:Bool}:wh' Q (.bl c) H=Q (.bl (!c)) H:=propext ⟨fun⟨u,e,q⟩=>by cases e;exact q,fun q=>⟨c,rfl,q⟩⟩
def wj' (C:Rc) (σ:L2.St) (b:Ce) (Q:VK):VK:=fun x H=>∃c,x=.bl c/\if c=true then tE C b σ H Q else Q (.bl false) H
def zU' (C:Rc) (σ:L2.St) (b:Ce) (Q:VK):VK:=fun x H=>∃c,x=.bl c/\if c=true then Q (.bl true) H else tE C b σ H Q
theorem wk' {a b:Ce}:tE C (.and a b) σ H Q=tE C a σ H (wj' C σ b Q):=rfl
theorem wl' {a b:Ce}:tE C (.or a b) σ H Q=tE C a σ H (zU' C σ b Q):=rfl
theorem r3' {b:Ce}:wj' C σ b Q (.bl true) H=tE C b σ H Q:=propext ⟨fun⟨u,e,q⟩=>by cases e;exact q,fun q=>⟨_,rfl,q⟩⟩
theorem p2' {b:Ce}:zU' C σ b Q (.bl true) H=Q (.bl true) H:=propext ⟨fun⟨u,e,q⟩=>by cases e;exact q,fun q=>⟨_,rfl,q⟩⟩
theorem p3' {b:Ce}:zU' C σ b Q (.bl false) H=tE C b σ H Q:=propext ⟨fun⟨u,e,q⟩=>by cases e;exact q,fun q=>⟨_,rfl,q⟩⟩
def zV' (C:Rc) (Qb:Bool->Hp->Prop):VK:=fun x H=>∃k,t8' C.K x H k/\Qb k H
theorem wm' {e:Ce}:tQ C (.val e) σ H Qb=tE C e σ H (zV' C Qb):=rfl
theorem r4' {b:Bool}:zV' C Qb (.bl b) H=Qb b H:=propext ⟨fun⟨u,e,q⟩=>by
  have e:u=b:=e
  subst e
  exact q,fun q=>⟨b,rfl,q⟩⟩
def wn' (C:Rc) (σ:L2.St) (lo hi:Co) (Q:VK):VK:=fun x H=>tO C lo σ H fun l H2=>tO C hi σ H2 fun u H3=>rSl C.K x l u H3 Q
def wo' (C:Rc) (σ:L2.St) (hi:Co) (x:V) (Q:VK):Option Int->Hp->Prop:=fun l H=>tO C hi σ H fun u H3=>rSl C.K x l u H3 Q
def wp' (C:Rc) (x:V) (l:Option Int) (Q:VK):Option Int->Hp->Prop:=fun u H=>rSl C.K x l u H Q
theorem wq' {a:Ce} {lo hi:Co}:tE C (.cut a lo hi) σ H Q=tE C a σ H (wn' C σ lo hi Q):=rfl
theorem oz' {lo hi:Co} {x:V}:wn' C σ lo hi Q x H=tO C lo σ H (wo' C σ hi x Q):=rfl
theorem oA' {hi:Co} {x:V} {l:Option Int}:wo' C σ hi x Q l H=tO C hi σ H (wp' C x l Q):=rfl
theorem oB' {x:V} {l u:Option Int}:wp' C x l Q u H=rSl C.K x l u H Q:=rfl
variable {Qo:Option Int->Hp->Prop}
def oC' (Qo:Option Int->Hp->Prop):VK:=fun x H=>∃i,x=.int i/\Qo (some i) H
theorem wr':tO C .none σ H Qo=Qo none H:=rfl
theorem wt' {e:Ce}:tO C (.some e) σ H Qo=tE C e σ H (oC' Qo):=rfl
theorem l5' {i:Int}:oC' Qo (.int i) H=Qo (some i) H:=propext ⟨fun⟨u,e,q⟩=>by cases e;exact q,fun q=>⟨i,rfl,q⟩⟩
theorem wu' {K:W.Frag} {a:Addr} {l u:Option Int}:rSl K (.ref a) l u H Q=(x0' K (.ref a) l u H Q\/xZ' K (.ref a) l u H Q\/x7' K (.ref a) l u H Q):=rfl
def A1' (i:Nat) (sub:Bool) (x:V) (D:Ends) (σ:L2.St):VK:=fun y H=>∃a b,x=.int a/\y=.int b/\D.nx (σ.set i (some (.int (if sub then a-b else a+b)))) H
theorem zW' {i:Nat} {sub:Bool} {e:Ce} {a:Int} (h:σ[i]?=some (some (.int a))):tS C (.aug i sub e) D σ H=tE C e σ H (A1' i sub (.int a) D σ):=by
 show(∃x,σ[i]?=some (some x)/\tE C e σ H fun y H1=>(ipI fun i j=>if sub then i-j else i+j) x y H1 fun z H2=>D.nx (σ.set i (some z)) H2)=_
 rw[h]
 exact propext ⟨fun⟨x,e,q⟩=>by cases e;exact q,fun q=>⟨_,rfl,q⟩⟩
theorem oD' {i:Nat} {sub:Bool} {a b:Int}:A1' i sub (.int a) D σ (.int b) H=D.nx (σ.set i (some (.int (if sub then a-b else a+b)))) H:=propext ⟨fun⟨_,_,e,e',q⟩=>by cases e;cases e';exact q,fun q=>⟨_,_,rfl,rfl,q⟩⟩
end
def cb (b:Bool):Nat:=if b then 49 else 48
def tx (l:List Bool):Str:=⟨(l.map cb).toArray⟩
theorem ww' {a b:Bool} (h:cb a=cb b):a=b:=by cases a<;>cases b<;>first|rfl|cases h
theorem p4' {a b:List Bool} (h:tx a=tx b):a=b:=by
 have h1:(a.map cb).toArray=(b.map cb).toArray:=congrArg Str.cps h
 have h2:a.map cb=b.map cb:=by simpa using h1
 exact List.map_inj_right (f:=cb) (fun x y=>ww') |>.mp h2
theorem bD' {a:List Bool}:(tx a).length=a.length:=by show(a.map cb).toArray.size=_;simp
theorem gR' {a:List Bool}:(tx a).cps.toList=a.map cb:=rfl
theorem eq' {a:List Bool}:(tx a).cps.size=a.length:=by show(a.map cb).toArray.size=_;simp
theorem l6' {a:List Bool} {i:Nat}:(tx a).cps[i]?=a[i]?.map cb:=by show(a.map cb).toArray[i]?=_;simp
theorem jb' {a b:List Bool}:tx a++tx b=tx (a++b):=by
 show(⟨(a.map cb).toArray++(b.map cb).toArray⟩:Str)=⟨((a++b).map cb).toArray⟩
 simp
theorem zY':(PySem.Str.ofString "01")=tx [false,true]:=⋯
theorem zZ':(PySem.Str.ofString "10")=tx [true,false]:=⋯
theorem BM':(PySem.Str.ofString "0")=tx [false]:=⋯
theorem BN':(PySem.Str.ofString "1")=tx [true]:=⋯
theorem wx':(PySem.Str.ofString "")=tx []:=⋯
theorem p5' {c:Bool}:PySem.intText? (tx [c])=some (if c then 1 else 0):=by cases c<;>decide +kernel
set_option tactic.hygienic true in
theorem p6' {a:List Bool} {n:Nat}:Txt.mul (tx a) n=tx (av n a).flatten:=by
 unfold Txt.mul
 have key:∀(n:Nat) (acc:List Bool),(av n (tx a).cps).foldl (·++·) (tx acc).cps=(tx (acc++(av n a).flatten)).cps:=by
  intro n
  induction n with
  |zero=>intro acc;simp
  |succ n ih=>
   intro acc
   rw[bw,List.foldl_cons]
   have e:(tx acc).cps++(tx a).cps=(tx (acc++a)).cps:=congrArg Str.cps (jb' (a:=acc) (b:=a))
   rw[e,ih,bw,bZ,aD]
 split
 .have:n=0:=by omega
  subst this
  rfl
 .split
  .rename_i h1 h2
   simp only[aR,beq_iff_eq]at h2
   rcases h2 with h2|h2
   .have:n=1:=by omega
    subst this
    simp
   .rw[bD']at h2
    have e:a=[]:=cW.mp h2
    subst e
    congr 1
    induction n with
    |zero=>rfl
    |succ n ih=>simp
  .have:=key n []
   show(⟨_⟩:Str)=_
   simp only[bc]
   exact congrArg Str.mk (this.trans (by rw[cQ];rfl))
theorem l7' {a:List Bool} {n:Nat} (h:n<=a.length):Txt.slice (tx a) none (some (n:Int))=tx (a.take n):=by
 have e:=slice_closes_to (x:=tx a) (j:=n) ⟨⋯,by rw[gR',ac];omega⟩
 rw[eq_of_beq e,gR']
 simp[tx,List.map_take]
theorem r5' {a:List Bool} {n:Nat} (h:n<=a.length):Txt.slice (tx a) (some (n:Int)) none=tx (a.drop n):=by
 have e:=slice_closes_from (x:=tx a) (i:=n) ⟨⋯,by rw[gR',ac];omega⟩
 rw[eq_of_beq e,gR']
 have e2:((List.map cb a).length:Int)-(n:Int)=((a.length-n:Nat):Int):=by rw[ac];omega
 rw[e2]
 simp only[bc,tx,List.map_drop]
 rw[bq (by simp)]
theorem ap' {N:List Str} {vs:List V} {n:Nat} (h:N.length=n):L2.aQ' N vs=vs.map some++av (n-vs.length) none:=by subst h;rfl
section
variable {C:Rc} {σ:L2.St} {H:Hp} {Q:VK} {D:Ends} {Qb:Bool->Hp->Prop}
theorem wy' {i:Nat} {v:V} {R:L2.St->Hp->Prop}:tG C (.name i) v σ H R=R (σ.set i (some v)) H:=rfl
theorem gS' {i j:Nat} {a:Addr} {x y:V} {R:L2.St->Hp->Prop} (h:SqT C.K H a [x,y]) (q:R ((σ.set i (some x)).set j (some y)) H):tG C (.tup (.cons (.name i) (.cons (.name j) .nil))) (.ref a) σ H R:=
 ⟨a,[x,y],rfl,.inl h,rfl,_,_,rfl,_,_,rfl,rfl,q⟩
theorem wz' {i j k:Nat} {a:Addr} {x y z:V} {R:L2.St->Hp->Prop} (h:SqT C.K H a [x,y,z]) (q:R (((σ.set i (some x)).set j (some y)).set k (some z)) H):tG C (.tup (.cons (.name i) (.cons (.name j) (.cons (.name k) .nil)))) (.ref a) σ H R:=
 ⟨a,[x,y,z],rfl,.inl h,rfl,_,_,rfl,_,_,rfl,_,_,rfl,rfl,q⟩
def p7' (C:Rc) (t:Ct) (b:Css) (D:Ends) (σ:L2.St) (J:It) (H1:Hp):Prop:=∃W:Nat->Nat->L2.St->Hp->Prop,(∃m,W 0 m σ H1)/\∀i m σ H,W i m σ H->
 (J.stop i H/\D.nx σ H)\/(J.go i H/\∃N:L2.St->Hp->Prop,(∀σ' H',N σ' H'->∃m',m'<m/\W (i+1) m' σ' H')/\∀x H',J.yld i H x H'->tG C t x σ H' fun σ2 H2=>tSs C b { D with nx:=N,ct:=N,bk:=D.nx } σ2 H2)
theorem z0' {t:Ct} {it:Ci} {b:Css}:tS C (.for_ t it b) D σ H=tI C it σ H (p7' C t b D σ):=rfl
def kIv (C:Rc) (R:It->Hp->Prop):VK:=fun x H1=>
 (∃a,x=.ref a/\(∃xs,SqL C.K H1 a xs)/\R (Itl C.K a) H1)\/(∃a,x=.ref a/\(∃xs,SqT C.K H1 a xs)/\R (Itt C.K a) H1)\/∃z,x=.str z/\R (Its z) H1
theorem z1' {e:Ce} {R:It->Hp->Prop}:tI C (.val e) σ H R=tE C e σ H (kIv C R):=rfl
def kR1 (R:It->Hp->Prop):VK:=fun x H1=>∃j:Int,x=.int j/\-(2 ^ 62)<=j/\j<2 ^ 62/\R (Itr 0 j.toNat) H1
theorem oG' {e:Ce} {R:It->Hp->Prop}:tI C (.range1 e) σ H R=tE C e σ H fun x H1=>∃j:Int,[x]=[.int j]/\-(2 ^ 62)<=j/\j<2 ^ 62/\R (Itr 0 j.toNat) H1:=rfl
theorem l8' {e:Ce} {R:It->Hp->Prop}:tI C (.range1 e) σ H R=tE C e σ H (kR1 R):=by
 rw[oG']
 congr 1
 funext x H1
 unfold kR1
 simp only[List.cons.injEq,and_true]
def yg' (R:It->Hp->Prop) (x:V):VK:=fun y H1=>∃i j:Int,x=.int i/\y=.int j/\(-(2 ^ 62)<=i/\i<2 ^ 62/\-(2 ^ 62)<=j/\j<2 ^ 62)/\R (Itr i (j-i).toNat) H1
def z2' (C:Rc) (σ:L2.St) (e:Ce) (R:It->Hp->Prop):VK:=fun x H1=>tE C e σ H1 (yg' R x)
theorem l9' {a b:Ce} {R:It->Hp->Prop}:tI C (.range2 a b) σ H R=tE C a σ H (z2' C σ b R):=by
 show(tE C a σ H fun x H1=>tE C b σ H1 fun y H2=>∃i j:Int,[x,y]=[.int i,.int j]/\(-(2 ^ 62)<=i/\i<2 ^ 62/\-(2 ^ 62)<=j/\j<2 ^ 62)/\R (Itr i (j-i).toNat) H2)=_
 congr 1
 funext x H1
 unfold z2'
 congr 1
 funext y H2
 unfold yg'
 simp only[List.cons.injEq,and_true,and_assoc]
theorem r6' {e:Ce} {R:It->Hp->Prop} {x:V}:z2' C σ e R x H=tE C e σ H (yg' R x):=rfl
def kEn (C:Rc) (R:It->Hp->Prop):VK:=fun x H1=>(∃a,x=.ref a/\(∃xs,SqL C.K H1 a xs)/\R (Ite C.K a) H1)\/(∃z,x=.str z/\R (tD' z) H1)\/∃a,x=.ref a/\(∃xs,SqT C.K H1 a xs)/\R (x2' C.K a) H1
theorem wB' {a:Ce} {R:It->Hp->Prop}:tI C (.enum a) σ H R=tE C a σ H (kEn C R):=by
 show(tE C a σ H fun x H1=>∃y,[x]=[y]/\((∃a,y=.ref a/\(∃xs,SqL C.K H1 a xs)/\R (Ite C.K a) H1)\/(∃z,y=.str z/\R (tD' z) H1)\/∃a,y=.ref a/\(∃xs,SqT C.K H1 a xs)/\R (x2' C.K a) H1))=_
 congr 1
 funext x H1
 unfold kEn
 exact propext ⟨fun⟨y,e,q⟩=>by cases e;exact q,fun q=>⟨x,rfl,q⟩⟩
theorem p8' {R:It->Hp->Prop} {a:Addr} {xs:List V} (h:SqL C.K H a xs) (q:R (Ite C.K a) H):kEn C R (.ref a) H:=.inl ⟨a,rfl,⟨xs,h⟩,q⟩
theorem wC' {R:It->Hp->Prop} {z:Str} (q:R (tD' z) H):kEn C R (.str z) H:=.inr (.inl ⟨z,rfl,q⟩)
theorem et' {R:It->Hp->Prop} {z:Str} (q:R (Its z) H):kIv C R (.str z) H:=.inr (.inr ⟨z,rfl,q⟩)
theorem aV' {R:It->Hp->Prop} {a:Addr} {xs:List V} (h:SqL C.K H a xs) (q:R (Itl C.K a) H):kIv C R (.ref a) H:=.inl ⟨a,rfl,⟨xs,h⟩,q⟩
theorem cj' {R:It->Hp->Prop} {a:Addr} {xs:List V} (h:SqT C.K H a xs) (q:R (Itt C.K a) H):kIv C R (.ref a) H:=.inr (.inl ⟨a,rfl,⟨xs,h⟩,q⟩)
theorem ma' {R:It->Hp->Prop} {j:Int} (h0:-(2 ^ 62)<=j) (h1:j<2 ^ 62) (q:R (Itr 0 j.toNat) H):kR1 R (.int j) H:=⟨j,rfl,h0,h1,q⟩
theorem wD' {R:It->Hp->Prop} {i j:Int} (h0:-(2 ^ 62)<=i) (h1:i<2 ^ 62) (h2:-(2 ^ 62)<=j) (h3:j<2 ^ 62) (q:R (Itr i (j-i).toNat) H):yg' R (.int i) (.int j) H:=⟨i,j,rfl,rfl,⟨h0,h1,h2,h3⟩,q⟩
theorem z3' {a:Addr} {xs:List V} {t:Ct} {b:Css} (Pv:Nat->L2.St->Hp->Prop) (h0:Pv 0 σ H) (hl:∀i σ H,i<=xs.length->Pv i σ H->SqL C.K H a xs)
  (hs:∀i x σ H,xs[i]?=some x->Pv i σ H->tG C t x σ H (tSs C b { D with nx:=Pv (i+1),ct:=Pv (i+1),bk:=D.nx })) (hd:∀σ H,Pv xs.length σ H->D.nx σ H):p7' C t b D σ (Itl C.K a) H:=no' Pv h0 hl hs hd
theorem wE' {a:Addr} {xs:List V} {t:Ct} {b:Css} (Pv:Nat->L2.St->Hp->Prop) (h0:Pv 0 σ H) (hl:∀i σ H,i<=xs.length->Pv i σ H->SqT C.K H a xs)
  (hs:∀i x σ H,xs[i]?=some x->Pv i σ H->tG C t x σ H (tSs C b { D with nx:=Pv (i+1),ct:=Pv (i+1),bk:=D.nx })) (hd:∀σ H,Pv xs.length σ H->D.nx σ H):p7' C t b D σ (Itt C.K a) H:=qR' Pv h0 hl hs hd
theorem oH' {lo:Int} {n:Nat} {t:Ct} {b:Css} (Pv:Nat->L2.St->Hp->Prop) (h0:Pv 0 σ H)
  (hs:∀i σ H,i<n->Pv i σ H->tG C t (.int (lo+i)) σ H (tSs C b { D with nx:=Pv (i+1),ct:=Pv (i+1),bk:=D.nx })) (hd:∀σ H,Pv n σ H->D.nx σ H):p7' C t b D σ (Itr lo n) H:=kk' Pv h0 hs hd
theorem z4' {z:Str} {t:Ct} {b:Css} (Pv:Nat->L2.St->Hp->Prop) (h0:Pv 0 σ H)
  (hs:∀i c σ H,z.cps[i]?=some c->Pv i σ H->tG C t (.str ⟨#[c]⟩) σ H (tSs C b { D with nx:=Pv (i+1),ct:=Pv (i+1),bk:=D.nx })) (hd:∀σ H,Pv z.cps.size σ H->D.nx σ H):p7' C t b D σ (Its z) H:=by
 refine⟨fun i m σ H=>m=z.cps.size-i/\i<=z.cps.size/\Pv i σ H,⟨z.cps.size,by simp,aT _,h0⟩,?_⟩
 rintro i m σ H ⟨rfl,hi,p⟩
 by_cases hlt:i<z.cps.size
 .refine .inr ⟨hlt,Pv (i+1),fun σ' H' p'=>⟨z.cps.size-(i+1),⋯,rfl,hlt,p'⟩,fun x H' y=>?_⟩
  obtain⟨e,c,hc,rfl⟩:=y
  subst e
  exact hs i c σ _ hc p
 .have e:i=z.cps.size:=by omega
  subst e
  exact .inl ⟨ag _,hd σ H p⟩
theorem r7' {l:List Bool} {t:Ct} {b:Css} (Pv:Nat->L2.St->Hp->Prop) (h0:Pv 0 σ H)
  (hs:∀i c σ H p,l[i]?=some c->H p=none->Pv i σ H->tG C t (.ref p) σ (upd H p (.tup [.int i,.str (tx [c])])) (tSs C b { D with nx:=Pv (i+1),ct:=Pv (i+1),bk:=D.nx })) (hd:∀σ H,Pv l.length σ H->D.nx σ H):p7' C t b D σ (tD' (tx l)) H:=by
 refine⟨fun i m σ H=>m=l.length-i/\i<=l.length/\Pv i σ H,⟨l.length,by simp,aT _,h0⟩,?_⟩
 rintro i m σ H ⟨rfl,hi,p⟩
 by_cases hlt:i<l.length
 .refine .inr ⟨(show i<(tx l).cps.size by rw[eq'];exact hlt),Pv (i+1),fun σ' H' p'=>⟨l.length-(i+1),⋯,rfl,hlt,p'⟩,fun x H' y=>?_⟩
  obtain⟨ad,v,rfl,hn,⟨c,hc,rfl⟩,rfl⟩:=y
  rw[l6',ae hlt]at hc
  cases hc
  exact hs i l[i] σ _ ad (ae hlt) hn p
 .have e:i=l.length:=by omega
  subst e
  exact .inl ⟨(show(tx l).cps.size=l.length from eq'),hd σ H p⟩
theorem wF' {l:List Bool} {t:Ct} {b:Css} (Pv:Nat->L2.St->Hp->Prop) (h0:Pv 0 σ H)
  (hs:∀i c σ H,l[i]?=some c->Pv i σ H->tG C t (.str (tx [c])) σ H (tSs C b { D with nx:=Pv (i+1),ct:=Pv (i+1),bk:=D.nx })) (hd:∀σ H,Pv l.length σ H->D.nx σ H):p7' C t b D σ (Its (tx l)) H:=by
 refine z4' Pv h0 (fun i c σ H hc p=>?_) fun σ H p=>hd σ H (by rw[eq']at p;exact p)
 rw[l6']at hc
 cases hl:l[i]? with
 |none=>rw[hl]at hc;cases hc
 |some d=>
  rw[hl]at hc
  cases hc
  exact hs i d σ H hl p
def yh' (C:Rc) (b:Css) (D:Ends) (N:L2.St->Hp->Prop) (σ:L2.St):Bool->Hp->Prop:=fun c H1=>if c=true then ∃N':L2.St->Hp->Prop,(∀σ' H',N' σ' H'->N σ' H')/\tSs C b { D with nx:=N',ct:=N',bk:=D.nx } σ H1 else D.nx σ H1
theorem mb' {q:Cq} {b:Css} (Pv:Nat->L2.St->Hp->Prop) (m:Nat) (h0:Pv m σ H) (hs:∀m σ H,Pv m σ H->tQ C q σ H (yh' C b D (fun σ' H'=>∃m',m'<m/\Pv m' σ' H') σ)):tS C (.whl q b) D σ H:=⟨Pv,⟨m,h0⟩,hs⟩
theorem mc' {b:Css} {N:L2.St->Hp->Prop} (h:tSs C b { D with nx:=N,ct:=N,bk:=D.nx } σ H):yh' C b D N σ true H:=⟨N,fun _ _ q=>q,h⟩
theorem md' {b:Css} {N:L2.St->Hp->Prop} (h:D.nx σ H):yh' C b D N σ false H:=by unfold yh';rw[if_neg (by decide)];exact h
def gT' (xs:List V) (P:List V->Hp->Prop):VK:=fun v H=>xs.length<sizeLine/\P (xs++[v]) H
def kCT (C:Rc) (elt:Ce) (xs:List V) (P:List V->Hp->Prop) (σ:L2.St):Bool->Hp->Prop:=fun ok H=>if ok=true then tE C elt σ H (gT' xs P)else P xs H
def kCG (C:Rc) (elt:Ce) (q:Cqo) (xs:List V) (P:List V->Hp->Prop):L2.St->Hp->Prop:=fun σ H=>tQo C q σ H (kCT C elt xs P σ)
theorem z5' {elt:Ce} {xs:List V} {P:List V->Hp->Prop}:kCG C elt .none xs P σ H=tE C elt σ H (gT' xs P):=rfl
theorem z6' {elt:Ce} {q:Cq} {xs:List V} {P:List V->Hp->Prop}:kCG C elt (.some q) xs P σ H=tQ C q σ H (kCT C elt xs P σ):=rfl
theorem z7' {elt:Ce} {xs:List V} {P:List V->Hp->Prop}:kCT C elt xs P σ true H=tE C elt σ H (gT' xs P):=rfl
theorem z8' {elt:Ce} {xs:List V} {P:List V->Hp->Prop}:kCT C elt xs P σ false H=P xs H:=rfl
theorem oI' {xs:List V} {P:List V->Hp->Prop} {v:V}:gT' xs P v H=(xs.length<sizeLine/\P (xs++[v]) H):=rfl
def oJ' (Q:VK) (xs:List V) (H2:Hp):Prop:=∀p,H2 p=none->Q (.ref p) (upd H2 p (.lst xs))
def ik' (C:Rc) (elt:Ce) (own:List Nat) (t:Ct) (q:Cqo) (σ:L2.St) (Q:VK) (J:It) (H1:Hp):Prop:=a0' own (tG C t) (tQo C q) (d4' (tE C elt)) J σ [] H1 (oJ' Q)
theorem r8' {elt:Ce} {own:List Nat} {t:Ct} {it:Ci} {q:Cqo}:tE C (.comp elt own t it q .nil) σ H Q=tI C it σ H (ik' C elt own t q σ Q):=rfl
theorem eu' {elt:Ce} {own:List Nat} {t:Ct} {q:Cqo} {J:It} {n:Nat} (Pv:Nat->List V->Hp->Prop) (h0:Pv 0 [] H) (hgo:∀i xs H,i<n->Pv i xs H->J.go i H) (hstop:∀xs H,Pv n xs H->J.stop n H)
  (hs:∀i xs H x H' (R:List V->Hp->Prop),i<n->Pv i xs H->J.yld i H x H'->(∀ys H2,Pv (i+1) ys H2->R ys H2)->tG C t x (clr own σ) H' (kCG C elt q xs R)) (hd:∀xs H,Pv n xs H->oJ' Q xs H):ik' C elt own t q σ Q J H:=by
 refine⟨fun i m xs H=>m=n-i/\i<=n/\Pv i xs H,⟨n,by simp,aT _,h0⟩,?_⟩
 rintro i m xs H ⟨rfl,hi,p⟩
 by_cases hlt:i<n
 .refine .inr ⟨hgo i xs H hlt p,fun x H' y=>?_⟩
  exact hs i xs H x H' (fun c H4=>∃m',m'<n-i/\(m'=n-(i+1)/\i+1<=n/\Pv (i+1) c H4)) hlt p y fun ys H2 p2=>⟨n-(i+1),⋯,rfl,hlt,p2⟩
 .have e:i=n:=by omega
  subst e
  exact .inl ⟨hstop xs H p,hd xs H p⟩
theorem ev' {elt:Ce} {own:List Nat} {t:Ct} {q:Cqo} {a:Addr} {vs:List V} (Pv:Nat->List V->Hp->Prop) (h0:Pv 0 [] H) (hl:∀i xs H,Pv i xs H->SqL C.K H a vs)
  (hs:∀i xs H x (R:List V->Hp->Prop),vs[i]?=some x->Pv i xs H->(∀ys H2,Pv (i+1) ys H2->R ys H2)->tG C t x (clr own σ) H (kCG C elt q xs R)) (hd:∀xs H,Pv vs.length xs H->oJ' Q xs H):ik' C elt own t q σ Q (Itl C.K a) H:=
 eu' (n:=vs.length) Pv h0 (fun i xs H hi p=>⟨vs,vs[i],hl i xs H p,by simp[hi]⟩) (fun xs H p=>⟨vs,hl _ xs H p,ag _⟩) (fun i xs H x H' R hi p y k=>by
  obtain⟨e,y⟩:=y
  subst e
  exact hs i xs H' x R (y vs (hl i xs H' p)) p k) hd
theorem wG' {elt:Ce} {own:List Nat} {t:Ct} {q:Cqo} {a:Addr} {vs:List V} (Pv:Nat->List V->Hp->Prop) (h0:Pv 0 [] H) (hl:∀i xs H,Pv i xs H->SqT C.K H a vs)
  (hs:∀i xs H x (R:List V->Hp->Prop),vs[i]?=some x->Pv i xs H->(∀ys H2,Pv (i+1) ys H2->R ys H2)->tG C t x (clr own σ) H (kCG C elt q xs R)) (hd:∀xs H,Pv vs.length xs H->oJ' Q xs H):ik' C elt own t q σ Q (Itt C.K a) H:=
 eu' (n:=vs.length) Pv h0 (fun i xs H hi p=>⟨vs,vs[i],hl i xs H p,by simp[hi]⟩) (fun xs H p=>⟨vs,hl _ xs H p,ag _⟩) (fun i xs H x H' R hi p y k=>by
  obtain⟨e,y⟩:=y
  subst e
  exact hs i xs H' x R (y vs (hl i xs H' p)) p k) hd
theorem p9' {elt:Ce} {own:List Nat} {t:Ct} {q:Cqo} {lo:Int} {n:Nat} (Pv:Nat->List V->Hp->Prop) (h0:Pv 0 [] H)
  (hs:∀i xs H (R:List V->Hp->Prop),i<n->Pv i xs H->(∀ys H2,Pv (i+1) ys H2->R ys H2)->tG C t (.int (lo+i)) (clr own σ) H (kCG C elt q xs R)) (hd:∀xs H,Pv n xs H->oJ' Q xs H):ik' C elt own t q σ Q (Itr lo n) H:=
 eu' (n:=n) Pv h0 (fun i xs H hi p=>hi) (fun xs H p=>ag _) (fun i xs H x H' R hi p y k=>by
  obtain⟨e,rfl⟩:=y
  subst e
  exact hs i xs H' R hi p k) hd
theorem me' {elt:Ce} {own:List Nat} {t:Ct} {q:Cqo} {l:List Bool} (Pv:Nat->List V->Hp->Prop) (h0:Pv 0 [] H)
  (hs:∀i xs H c (R:List V->Hp->Prop),l[i]?=some c->Pv i xs H->(∀ys H2,Pv (i+1) ys H2->R ys H2)->tG C t (.str (tx [c])) (clr own σ) H (kCG C elt q xs R)) (hd:∀xs H,Pv l.length xs H->oJ' Q xs H):ik' C elt own t q σ Q (Its (tx l)) H:=
 eu' (n:=l.length) Pv h0 (fun i xs H hi p=>by show i<(tx l).cps.size;rw[eq'];exact hi) (fun xs H p=>by show(tx l).cps.size<=l.length;rw[eq'];exact ag _) (fun i xs H x H' R hi p y k=>by
  obtain⟨e,c,hc,rfl⟩:=y
  subst e
  rw[l6',ae hi]at hc
  cases hc
  exact hs i xs H' l[i] R (ae hi) p k) hd
end
section
variable {C:Rc} {K:W.Frag} {σ:L2.St} {H:Hp} {Q:VK} {D:Ends} {Qb:Bool->Hp->Prop}
theorem ag' {f:Str} {es:Ces} {sp:Sp} (h:C.fs f=some sp) (q:tA C es σ H (r0' (some sp) (C.xk σ) Q)):tE C (.call f es) σ H Q:=by
 rw[r1' h]
 exact q
theorem jZ' {x:Str}:dF' K .len [.str x] H Q=(x.length<=sizeLine/\Q (.int x.length) H):=propext ⟨fun⟨u,n,e,h,q⟩=>by cases e;obtain⟨h1,h2⟩:=h;subst h2;exact⟨h1,q⟩,fun q=>⟨_,_,rfl,⟨q.1,rfl⟩,q.2⟩⟩
theorem mf' {l:List Bool}:dF' K .len [.str (tx l)] H Q=(l.length<=sizeLine/\Q (.int l.length) H):=by rw[jZ',bD']
theorem dv' {a:Addr} {xs:List V} (h:SqL K H a xs) (q:Q (.int xs.length) H):dF' K .len [.ref a] H Q:=⟨_,_,rfl,.inl ⟨xs,h,rfl⟩,q⟩
theorem il' {a:Addr} {xs:List V} (h:SqT K H a xs) (q:Q (.int xs.length) H):dF' K .len [.ref a] H Q:=⟨_,_,rfl,.inr ⟨xs,h,rfl⟩,q⟩
theorem wH' {i:Int}:dF' K .abs [.int i] H Q=Q (.int (if i<0 then -i else i)) H:=propext ⟨fun⟨u,e,q⟩=>by cases e;exact q,fun q=>⟨_,rfl,q⟩⟩
theorem j0' {i:Int}:dF' K .int [.int i] H Q=Q (.int i) H:=rfl
theorem mg' {k:Bool}:dF' K .int [.bl k] H Q=Q (.int (if k then 1 else 0)) H:=rfl
theorem mh' {c:Bool}:dF' K .int [.str (tx [c])] H Q=Q (.int (if c then 1 else 0)) H:=propext ⟨fun⟨n,e,_,q⟩=>by rw[p5']at e;cases e;exact q,fun q=>⟨_,p5',by rw[bD',cq];decide,q⟩⟩
theorem r9' {i j:Int}:dF' K .max [.int i,.int j] H Q=Q (.int (if j > i then j else i)) H:=rfl
theorem sa' {i j:Int}:dF' K .min [.int i,.int j] H Q=Q (.int (if j<i then j else i)) H:=rfl
theorem aW' {a:Addr} {xs:List V} {i:Int} {v:V} (h:SqL K H a xs) (e:atI xs i=some v) (q:Q v H):hv' K (.ref a) (.int i) H Q\/hH' K (.ref a) (.int i) H Q:=.inl ⟨a,xs,i,v,rfl,rfl,h,e,q⟩
theorem aC' {a:Addr} {xs:List V} {i:Int} {v:V} (h:SqT K H a xs) (e:atI xs i=some v) (q:Q v H):hv' K (.ref a) (.int i) H Q\/hH' K (.ref a) (.int i) H Q:=.inr ⟨a,xs,i,v,rfl,rfl,h,e,q⟩
theorem sb' {α β:Type} {f:α->β} {xs:List α} {i:Int}:atI (xs.map f) i=(atI xs i).map f:=by
 unfold atI
 rw[ac]
 cases ixN xs.length i with
 |none=>rfl
 |some j=>simp
theorem cJ' {l:List Bool} {i:Int} {c:Bool} (hl:l.length<=sizeLine) (e:atI l i=some c) (q:Q (.str (tx [c])) H):oa' K (.str (tx l)) (.int i) H Q:=by
 refine⟨by rw[bD'];exact hl,cb c,?_,q⟩
 rw[gR',sb',e]
 rfl
theorem qa' {a:Addr} {u v:V} {k:Bool} (h:SqL K H a [u,v]) (q:Q (if k then v else u) H):hv' K (.ref a) (.int (if k then 1 else 0)) H Q\/hH' K (.ref a) (.int (if k then 1 else 0)) H Q:=by
 refine aW' h ?_ q
 cases k<;>rfl
theorem mi' {a:Addr} {u v:V} {k:Bool} (h:SqT K H a [u,v]) (q:Q (if k then v else u) H):hv' K (.ref a) (.int (if k then 1 else 0)) H Q\/hH' K (.ref a) (.int (if k then 1 else 0)) H Q:=by
 refine aC' h ?_ q
 cases k<;>rfl
theorem wI' {c:Bool}:decide (tx [c]=tx [false])=!c:=by
 cases c
 .exact decide_eq_true rfl
 .exact decide_eq_false fun h=>by cases p4' h
theorem sc' {x y:List Bool}:fb' K .Add (.str (tx x)) (.str (tx y)) H Q=(x.length+y.length<=sizeLine/\Q (.str (tx (x++y))) H):=by
 rw[vS',bD',bD',jb']
theorem z9' {x y:V} (h:t6' x y=true):cz' K .NotEq x y H Q=Q (.bl (!decide (x=y))) H:=by
 have e:cz' K .NotEq x y H Q=rNe x y H Q:=by
  unfold cz'
  dsimp only
  split
  .cases h
  .rfl
 rw[e]
 exact propext ⟨fun⟨_,q⟩=>q,fun q=>⟨h,q⟩⟩
theorem wJ' {a b:Addr} {n:Nat} (h:Dq H n (.ref a) (.ref b)) (hn:n<=8) (q:Q (.bl true) H):cz' K .Eq (.ref a) (.ref b) H Q:=.inr (.inl ⟨n,hn,h,⟨a,b,rfl,rfl⟩,q⟩)
theorem ew' {j:Int} (q:∀p,H p=none->Q (.ref p) (upd H p (.rng 0 j))):dF' K .range [.int j] H Q:=⟨0,j,.inr ⟨rfl,rfl⟩,q⟩
theorem fP' {r:Addr} {i j:Int} (h:H r=some (.rng i j)) (h1:-(2 ^ 62)<=i) (h2:i<2 ^ 62) (h3:-(2 ^ 62)<=j) (h4:j<2 ^ 62) (hz:(j-i).toNat<=sizeLine) (q:∀p,H p=none->Q (.ref p) (upd H p (.lst (rgs i (j-i).toNat)))):dF' K .list [.ref r] H Q:=.inr ⟨r,i,j,rfl,h,⟨h1,h2,h3,h4⟩,hz,q⟩
theorem im' {a:Addr} {xs:List V} (h:SqL K H a xs) (q:∀p,H p=none->Q (.ref p) (upd H p (.tup xs))):dF' K .tuple [.ref a] H Q:=⟨a,xs,rfl,.inl ⟨h,q⟩⟩
theorem Aa' {x y:Bool}:cz' K .NotEq (.bl x) (.bl y) H Q=Q (.bl (x != y)) H:=by
 have e:cz' K .NotEq (.bl x) (.bl y) H Q=Q (.bl (!decide (V.bl x=V.bl y))) H:=propext ⟨fun⟨_,q⟩=>q,fun q=>⟨rfl,q⟩⟩
 rw[e]
 cases x<;>cases y<;>rfl
theorem Ab' {x y:Int}:cz' K .NotEq (.int x) (.int y) H Q=Q (.bl (!decide (x=y))) H:=by
 have e:cz' K .NotEq (.int x) (.int y) H Q=Q (.bl (!decide (V.int x=V.int y))) H:=propext ⟨fun⟨_,q⟩=>q,fun q=>⟨rfl,q⟩⟩
 rw[e]
 congr 3
 simp only[V.int.injEq]
theorem BO' {x:V}:cz' K .Is x .non H Q=Q (.bl (decide (x=.non))) H:=propext ⟨fun⟨_,q⟩=>q,fun q=>⟨rfl,q⟩⟩
theorem sd' {x:V}:cz' K .IsNot x .non H Q=Q (.bl (!decide (x=.non))) H:=propext ⟨fun⟨_,q⟩=>q,fun q=>⟨rfl,q⟩⟩
def kG (C:Rc) (t:Ct) (D:Ends) (σ:L2.St):VK:=fun v H=>tG C t v σ H D.nx
theorem gU' {t:Ct} {e:Ce}:tS C (.asg t e) D σ H=tE C e σ H (kG C t D σ):=rfl
theorem se' {i j:Nat} {a:Addr} {x y:V} (h:SqT C.K H a [x,y]) (q:D.nx ((σ.set i (some x)).set j (some y)) H):kG C (.tup (.cons (.name i) (.cons (.name j) .nil))) D σ (.ref a) H:=gS' h q
theorem mj' {i j k:Nat} {a:Addr} {x y z:V} (h:SqT C.K H a [x,y,z]) (q:D.nx (((σ.set i (some x)).set j (some y)).set k (some z)) H):kG C (.tup (.cons (.name i) (.cons (.name j) (.cons (.name k) .nil)))) D σ (.ref a) H:=wz' h q
theorem sf' {a:Addr} {xs:List V} {lo hi:Option Int} (h:SqT K H a xs) (hn:¬(HT.sIx xs.length 0 lo=0/\HT.sIx xs.length xs.length hi=xs.length)) (q:∀p,H p=none->Q (.ref p) (upd H p (.tup (pE' xs lo hi)))):x0' K (.ref a) lo hi H Q\/xZ' K (.ref a) lo hi H Q\/x7' K (.ref a) lo hi H Q:=.inr (.inl ⟨a,xs,rfl,h,hn,q⟩)
theorem sg' {a b:Addr} {xs ys:List V} (h:SqT K H a xs) (h2:SqT K H b ys) (hz:xs.length+ys.length<=sizeLine) (q0:xs=[]->Q (.ref b) H) (q1:xs≠[]->ys=[]->Q (.ref a) H) (q2:xs≠[]->ys≠[]->∀p,H p=none->Q (.ref p) (upd H p (.tup (xs++ys)))):fb' K .Add (.ref a) (.ref b) H Q:=by
 by_cases e:xs=[]
 .subst e
  exact .inr (.inr ⟨a,b,ys,rfl,rfl,h,h2,q0 rfl⟩)
 .exact .inr (.inl ⟨a,b,xs,ys,rfl,rfl,h,h2,e,hz,q1 e,q2 e⟩)
theorem ml' {a b:Addr} {xs zs:List V} (h:H a=some (.lst xs)) (h2:H b=some (.lst zs)) (hz:xs.length+zs.length<=sizeLine) (q:∀p,H p=none->Q (.ref p) (upd H p (.lst (xs++zs)))):fb' K .Add (.ref a) (.ref b) H Q:=.inl ⟨a,b,xs,zs,rfl,rfl,h,h2,hz,q⟩
theorem ah' {H:Hp} {p:Addr} (h:H p=none) (o:HO):av' H (upd H p o):=fun b u q=>by rw[ae' (au' q h)];exact q
theorem snw {H:Hp} {p:Addr} (h:H p=none) (o:HO):av' H (upd H p o)/\upd H p o p=some o:=⟨ah' h o,ab'⟩
theorem al' {α:Type} {l:List α} {i:Nat} {c:α} (hc:l[i]?=some c):i<l.length:=by
 rcases dz i l.length with h|h
 .exact h
 .rw[bi.mpr h]at hc;cases hc
def yi' (C:Rc) (σ:L2.St) (b:Ce) (Q:VK):VK:=fun x H=>(x=.non/\tE C b σ H Q)\/∃i:Int,x=.int i/\if i=0 then tE C b σ H Q else Q (.int i) H
theorem wK' {a b:Ce}:tE C (.orv a b) σ H Q=tE C a σ H (yi' C σ b Q):=rfl
theorem wL' {b:Ce} (q:tE C b σ H Q):yi' C σ b Q .non H:=.inl ⟨rfl,q⟩
theorem wM' {b:Ce} {i:Int} (hi:i≠0) (q:Q (.int i) H):yi' C σ b Q (.int i) H:=.inr ⟨i,rfl,by rw[if_neg hi];exact q⟩
theorem qb':tE C .dnn σ H Q=(∀p,H p=none->Q (.ref p) (upd H p (cy' p []))):=rfl
theorem qc':tE C .dnt σ H Q=(∀p,H p=none->Q (.ref p) (upd H p (.dT []))):=rfl
theorem sh':tE C .dnew σ H Q=(∀p,H p=none->Q (.ref p) (upd H p (.dK []))):=rfl
theorem wN' {x y:List Bool}:cz' K .NotEq (.str (tx x)) (.str (tx y)) H Q=Q (.bl (!decide (x=y))) H:=by
 rw[z9' rfl]
 congr 3
 apply decide_eq_decide.mpr
 simp only[V.str.injEq]
 exact⟨p4',fun h=>by rw[h]⟩
end
end R3
namespace R3
open PySem PySem.Spec PyProof.Rows L2 PySem.Builtin PySem.Builtin.Str
theorem sj':∀{ls:List (List Bool)},Txt.join (tx []) (ls.map tx)=tx ls.flatten:=by
 intro ls
 unfold Txt.join
 rw[StrLaws.glued_eq_join]
 induction ls with
 |nil=>rfl
 |cons l r ih=>
  cases r with
  |nil=>simp[Str.join]
  |cons y r=>
   rw[aS,aS]
   show tx l++tx []++Str.join (tx []) (List.map tx (y :: r))=_
   rw[ih,jb',jb']
   simp
section
variable {K:W.Frag} {H:Hp} {Q:VK}
theorem mm' {a:Addr} {ls:List (List Bool)} (h:SqL K H a (ls.map fun l=>V.str (tx l))) (hz:ls.flatten.length<=16000000) (q:Q (.str (tx ls.flatten)) H):pV' K .join (.str (tx [])) [.ref a] H Q:=by
 refine⟨tx [],a,ls.map tx,rfl,rfl,.inl (by rw[aX];exact h),?_,by rw[sj'];exact q⟩
 have e:((ls.map tx).map (·.length)).sum=ls.flatten.length:=by
  rw[aX,List.length_flatten]
  congr 1
  apply cm
  intro l _
  exact bD'
 rw[e,bD',cR,Nat.mul_zero]
 omega
theorem sk' {l:List Bool} {a:Nat}:Txt.slice (tx l) (some (a:Int)) none=tx (l.drop a):=by
 rcases Nat.le_total a l.length with h|h
 .exact r5' h
 .rw[slice_beyond (by rw[bD'];omega),List.drop_of_length_le h]
  rfl
end
section
variable {C:Rc} {K:W.Frag} {σ:L2.St} {H:Hp} {Q:VK} {D:Ends} {Qb:Bool->Hp->Prop} {i j:Int}
theorem mn' {a:Addr} {xs:List V} (h:SqL C.K H a xs) (q:Qb (!xs.isEmpty) H):zV' C Qb (.ref a) H:=⟨_,.inl ⟨xs,h,rfl⟩,q⟩
theorem sm' {i:Nat} {e:Ce} {r:Css} (h:∀K:VK,(∀v H',tSs C r D (σ.set i (some v)) H'->K v H')->tE C e σ H K):tSs C (.cons (.asg (.name i) e) r) D σ H:=h _ fun _ _ q=>q
theorem gV' {s:Cs} {r:Css} (h:∀N:L2.St->Hp->Prop,(∀σ' H',tSs C r D σ' H'->N σ' H')->tS C s { D with nx:=N } σ H):tSs C (.cons s r) D σ H:=h _ fun _ _ q=>q
def kDk (R:It->Hp->Prop):VK:=fun x H1=>DkV x H1 R\/DtV x H1 R\/DnV x H1 R
theorem BR' {e:Ce} {R:It->Hp->Prop}:tI C (.dk e) σ H R=tE C e σ H (kDk R):=rfl
theorem wO' {R:It->Hp->Prop} {d:Addr} {kvs:List (List Key×V)} (h:Rd H d (.dT kvs)) (q:∀o (as:List Addr),as.length=kvs.length->(∀(i:Nat) a kv,as[i]?=some a->kvs[i]?=some kv->H a=some (.tup (kv.1.map L2.kV)))->R (pS' d o (as.map V.ref)) (upd H d (.frz o (.dT kvs)))):kDk R (.ref d) H:=.inr (.inl ⟨d,kvs,rfl,h,fun o as h1 h2 _=>q o as h1 h2⟩)
theorem wP' {d:Addr} {o:Obj} {ks:List V} {t:Ct} {b:Css} (Pv:Nat->L2.St->Hp->Prop) (h0:Pv 0 σ H) (hl:∀i σ H,Pv i σ H->Fz H d o)
  (hs:∀i x σ H,ks[i]?=some x->Pv i σ H->tG C t x σ H (tSs C b { D with nx:=Pv (i+1),ct:=Pv (i+1),bk:=D.nx })) (hd:∀σ H,Pv ks.length σ H->D.nx σ H):p7' C t b D σ (pS' d o ks) H:=by
 refine⟨fun i m σ H=>m=ks.length-i/\i<=ks.length/\Pv i σ H,⟨ks.length,by simp,aT _,h0⟩,?_⟩
 rintro i m σ H ⟨rfl,hi,p⟩
 by_cases hlt:i<ks.length
 .refine .inr ⟨⟨hlt,hl i σ H p⟩,Pv (i+1),fun σ' H' p'=>⟨ks.length-(i+1),⋯,rfl,hlt,p'⟩,fun x H' y=>?_⟩
  obtain⟨e,y⟩:=y
  subst e
  exact hs i x σ _ y p
 .have e:i=ks.length:=by omega
  exact .inl ⟨⟨⋯,hl i σ H p⟩,hd σ H (e ▸ p)⟩
theorem sq' {elt:Ce} {own:List Nat} {t:Ct} {q:Cqo} {d:Addr} {o:Obj} {ks:List V} (Pv:Nat->List V->Hp->Prop) (h0:Pv 0 [] H) (hl:∀i xs H,Pv i xs H->Fz H d o)
  (hs:∀i xs H x (R:List V->Hp->Prop),ks[i]?=some x->Pv i xs H->(∀ys H2,Pv (i+1) ys H2->R ys H2)->tG C t x (clr own σ) H (kCG C elt q xs R)) (hd:∀xs H,Pv ks.length xs H->oJ' Q xs H):ik' C elt own t q σ Q (pS' d o ks) H:=
 eu' (n:=ks.length) Pv h0 (fun i xs H hi p=>⟨hi,hl i xs H p⟩) (fun xs H p=>⟨ag _,hl _ xs H p⟩) (fun i xs H x H' R hi p y k=>by
  obtain⟨e,y⟩:=y
  subst e
  exact hs i xs H' x R y p k) hd
def wU' (C:Rc) (elt:Ce) (own:List Nat) (t:Ct) (q:Cqo) (ws:List Nat) (t2:Ct) (it2:Ci) (q2:Cqo) (σ:L2.St) (Q:VK) (J:It) (H1:Hp):Prop:=a0' own (tG C t) (tQo C q) (hM' (tI C it2) (a0' ws (tG C t2) (tQo C q2) (d4' (tE C elt)))) J σ [] H1 (oJ' Q)
theorem oK' {elt:Ce} {own:List Nat} {t:Ct} {it:Ci} {q:Cqo} {ws:List Nat} {t2:Ct} {it2:Ci} {q2:Cqo}:tE C (.comp elt own t it q (.cons ws t2 it2 q2 .nil)) σ H Q=tI C it σ H (wU' C elt own t q ws t2 it2 q2 σ Q):=rfl
end
def aX' (l:List (Str×Sp)) (y:Str):Option Sp:=l.lookup y
theorem ad' {x:Str} {s:Sp} {l:List (Str×Sp)}:aX' ((x,s) :: l) x=some s:=by unfold aX';simp
theorem aa' {x y:Str} {s:Sp} {l:List (Str×Sp)} (h:(y == x)=false):aX' ((x,s) :: l) y=aX' l y:=by
 unfold aX'
 rw[bJ,h]
theorem fh' {y:Str} {s:Sp}:∀{l:List (Str×Sp)},aX' l y=some s->(y,s)∈l
 | [],h=>by cases h
 |(x,t) :: l,h=>by
  unfold aX' at h
  rw[bJ]at h
  cases e:y == x with
  |true=>
   rw[e]at h
   cases h
   rw[eq_of_beq e]
   exact aE ..
  |false=>
   rw[e]at h
   exact aC _ (fh' h)
theorem aH' {P:Program} {w:World} {K:W.Frag} {mg:Str->Option Value} {base:Heap} {k:Nat} {l:List (Str×Sp)} (h:∀p∈l,∃f' fd' ps',FnOk P w K mg base CX0 k f' fd' ps' p.2/\mg p.1=some (.ref f')/\W.keepIn K (.ref f')=true/\eJ' K fd' ps' []):
  ∀y sp',aX' l y=some sp'->∃f' fd' ps',FnOk P w K mg base CX0 k f' fd' ps' sp'/\mg y=some (.ref f')/\W.keepIn K (.ref f')=true/\eJ' K fd' ps' []:=fun y sp' e=>h (y,sp') (fh' e)
theorem aq' {P:Program} {w:World} {K:W.Frag} {mg:Str->Option Value} {base:Heap} {x qual:Str} {st:Stmt} {f:Addr} {fd:FuncData} {ps:List Str} {k:Nat} {sp:Sp} (F:Fun K x qual st f fd) (C:Rc) (S:FnScope C.N ps (ac' st)) (hK:C.K=K) (code:Css) (hm:mSs C.N C.B (ac' st) code (am' st)=true)
  (len:∀vs H Q E,sp vs H Q E->vs.length=ps.length)
  (hfs:∀y sp',C.fs y=some sp'->∃f' fd' ps',FnOk P w K mg base CX0 k f' fd' ps' sp'/\mg y=some (.ref f')/\W.keepIn K (.ref f')=true/\eJ' K fd' ps' []) (hB:∀y∈C.B,mg y=none) (hmk:mg "~"=none/\mg "^"=none/\mg "%"=none) (nt:tld C.B=false) (nh:hat C.B=false) (hxk:C.xk=fun _=>E0) (hcl:C.cl=fun _=>none)
  (hbody:∀vs H Q E,sp vs H Q E->tSs C code { nx:=fun _ H'=>Q .non H',rt:=Q } (aQ' C.N vs) H):FnOk P w K mg base CX0 (k+1) f fd ps sp:=
 rP' F C S hK code hm len ⟨fun y sp' e=>by
  obtain⟨f',fd',ps',h1,h2⟩:=hfs y sp' e
  exact⟨f',fd',ps',.inl h1,h2⟩,hB,hmk,(fun c Ca e=>by rw[hcl]at e;cases e),nt,nh⟩ hxk hbody
theorem mC {α:Type} {P:α->Prop} {a:α} {l:List α} (h:P a/\∀x∈l,P x):∀x∈a :: l,P x:=List.forall_mem_cons.mpr h
theorem mN {α:Type} {P:α->Prop}:∀x∈([]:List α),P x:=fun y hy=>absurd hy aB
theorem sr' {α:Type} {P:List α->Prop} (h:∀x0,P [x0]):∀us:List α,us.length=1->P us
 | [x0],_=>h x0
theorem mo' {α:Type} {P:List α->Prop} (h:∀x0 x1,P [x0,x1]):∀us:List α,us.length=2->P us
 | [x0,x1],_=>h x0 x1
theorem wV' {α:Type} {P:List α->Prop} (h:∀x0 x1 x2,P [x0,x1,x2]):∀us:List α,us.length=3->P us
 | [x0,x1,x2],_=>h x0 x1 x2
theorem A5' {α:Type} {P:List α->Prop} (h:∀x0 x1 x2 x3,P [x0,x1,x2,x3]):∀us:List α,us.length=4->P us
 | [x0,x1,x2,x3],_=>h x0 x1 x2 x3
def bV' {α β:Type} (R:α->β->Prop):List α->List β->Prop
 | [],[]=>True
 |a :: as,b :: bs=>R a b/\bV' R as bs
 |_,_=>False
section
variable {α β:Type} {R S:α->β->Prop}
theorem bV'.mono (h:∀a b,R a b->S a b):∀{as:List α} {bs:List β},bV' R as bs->bV' S as bs
 | [],[],_=>trivial
 |_ :: _,_ :: _,q=>⟨h _ _ q.1,bV'.mono h q.2⟩
 | [],_ :: _,q=>q.elim
 |_ :: _,[],q=>q.elim
theorem bV'.len:∀{as:List α} {bs:List β},bV' R as bs->as.length=bs.length
 | [],[],_=>rfl
 |_ :: _,_ :: _,q=>by simp[bV'.len q.2]
 | [],_ :: _,q=>q.elim
 |_ :: _,[],q=>q.elim
theorem bV'.app:∀{as cs:List α} {bs ds:List β},bV' R as bs->bV' R cs ds->bV' R (as++cs) (bs++ds)
 | [],_,[],_,_,q=>q
 |_ :: _,_,_ :: _,_,p,q=>⟨p.1,bV'.app p.2 q⟩
 | [],_,_ :: _,_,p,_=>p.elim
 |_ :: _,_,[],_,p,_=>p.elim
theorem bV'.snoc {a:α} {b:β} {as:List α} {bs:List β} (h:bV' R as bs) (r:R a b):bV' R (as++[a]) (bs++[b]):=h.app ⟨r,trivial⟩
theorem bV'.get:∀{as:List α} {bs:List β} {i:Nat} {b:β},bV' R as bs->bs[i]?=some b->∃a,as[i]?=some a/\R a b
 | [],[],_,_,_,e=>by cases e
 |a :: _,_ :: _,0,_,q,e=>by cases e;exact⟨a,rfl,q.1⟩
 |_ :: as,_ :: bs,i+1,b,q,e=>by
  obtain⟨a,h1,h2⟩:=bV'.get (i:=i) (b:=b) q.2 (by simpa using e)
  exact⟨a,by simpa using h1,h2⟩
 | [],_ :: _,_,_,q,_=>q.elim
 |_ :: _,[],_,_,q,_=>q.elim
theorem bV'.getL:∀{as:List α} {bs:List β} {i:Nat} {a:α},bV' R as bs->as[i]?=some a->∃b,bs[i]?=some b/\R a b
 | [],[],_,_,_,e=>by cases e
 |_ :: _,b :: _,0,_,q,e=>by cases e;exact⟨b,rfl,q.1⟩
 |_ :: as,_ :: bs,i+1,a,q,e=>by
  obtain⟨b,h1,h2⟩:=bV'.getL (i:=i) (a:=a) q.2 (by simpa using e)
  exact⟨b,by simpa using h1,h2⟩
 | [],_ :: _,_,_,q,_=>q.elim
 |_ :: _,[],_,_,q,_=>q.elim
end
def jc' {α:Type} (as':TL α) (b:α) (P:α->Hp->Prop) (σ:L2.St):Bool->Hp->Prop:=fun ok H=>if ok=true then as' σ b H P else P b H
def in' {α:Type} (tc:TT) (as':TL α) (b:α) (P:α->Hp->Prop):L2.St->Hp->Prop:=fun σ H=>tc σ H (jc' as' b P σ)
def kCl {α:Type} (own:List Nat) (g:TG) (tc:TT) (as':TL α) (σ:L2.St) (a:α) (N:α->Hp->Prop) (J:It) (H:Hp):Prop:=a0' own g tc as' J σ a H N
section
variable {C:Rc} {σ:L2.St} {H:Hp} {Q:VK} {D:Ends} {α:Type}
theorem ss' {as':TL α} {b:α} {P:α->Hp->Prop}:in' (tQo C .none) as' b P σ H=as' σ b H P:=rfl
theorem su' {q:Cq} {as':TL α} {b:α} {P:α->Hp->Prop}:in' (tQo C (.some q)) as' b P σ H=tQ C q σ H (jc' as' b P σ):=rfl
theorem oL' {as':TL α} {b:α} {P:α->Hp->Prop}:jc' as' b P σ true H=as' σ b H P:=rfl
theorem oM' {as':TL α} {b:α} {P:α->Hp->Prop}:jc' as' b P σ false H=P b H:=rfl
theorem oN' {own:List Nat} {g:TG} {tc:TT} {as':TL α} {J:It} {a:α} {N:α->Hp->Prop} {n:Nat} (Pv:Nat->α->Hp->Prop) (h0:Pv 0 a H) (hgo:∀i b H,i<n->Pv i b H->J.go i H) (hstop:∀b H,Pv n b H->J.stop n H)
  (hs:∀i b H x H' (R:α->Hp->Prop),i<n->Pv i b H->J.yld i H x H'->(∀c H2,Pv (i+1) c H2->R c H2)->g x (clr own σ) H' (in' tc as' b R)) (hd:∀b H,Pv n b H->N b H):kCl own g tc as' σ a N J H:=by
 refine⟨fun i m b H=>m=n-i/\i<=n/\Pv i b H,⟨n,by simp,aT _,h0⟩,?_⟩
 rintro i m b H ⟨rfl,hi,p⟩
 by_cases hlt:i<n
 .refine .inr ⟨hgo i b H hlt p,fun x H' y=>?_⟩
  exact hs i b H x H' (fun c H4=>∃m',m'<n-i/\(m'=n-(i+1)/\i+1<=n/\Pv (i+1) c H4)) hlt p y fun ys H2 p2=>⟨n-(i+1),⋯,rfl,hlt,p2⟩
 .have e:i=n:=by omega
  subst e
  exact .inl ⟨hstop b H p,hd b H p⟩
theorem Ae' {own:List Nat} {g:TG} {tc:TT} {as':TL α} {b0:α} {N:α->Hp->Prop} {a:Addr} {vs:List V} (Pv:Nat->α->Hp->Prop) (h0:Pv 0 b0 H) (hl:∀i b H,Pv i b H->SqL C.K H a vs)
  (hs:∀i b H x (R:α->Hp->Prop),vs[i]?=some x->Pv i b H->(∀c H2,Pv (i+1) c H2->R c H2)->g x (clr own σ) H (in' tc as' b R)) (hd:∀b H,Pv vs.length b H->N b H):kCl own g tc as' σ b0 N (Itl C.K a) H:=
 oN' (n:=vs.length) Pv h0 (fun i xs H hi p=>⟨vs,vs[i],hl i xs H p,by simp[hi]⟩) (fun xs H p=>⟨vs,hl _ xs H p,ag _⟩) (fun i xs H x H' R hi p y k=>by
  obtain⟨e,y⟩:=y
  subst e
  exact hs i xs H' x R (y vs (hl i xs H' p)) p k) hd
theorem A6' {own:List Nat} {g:TG} {tc:TT} {as':TL α} {b0:α} {N:α->Hp->Prop} {a:Addr} {vs:List V} (Pv:Nat->α->Hp->Prop) (h0:Pv 0 b0 H) (hl:∀i b H,Pv i b H->SqT C.K H a vs)
  (hs:∀i b H x (R:α->Hp->Prop),vs[i]?=some x->Pv i b H->(∀c H2,Pv (i+1) c H2->R c H2)->g x (clr own σ) H (in' tc as' b R)) (hd:∀b H,Pv vs.length b H->N b H):kCl own g tc as' σ b0 N (Itt C.K a) H:=
 oN' (n:=vs.length) Pv h0 (fun i xs H hi p=>⟨vs,vs[i],hl i xs H p,by simp[hi]⟩) (fun xs H p=>⟨vs,hl _ xs H p,ag _⟩) (fun i xs H x H' R hi p y k=>by
  obtain⟨e,y⟩:=y
  subst e
  exact hs i xs H' x R (y vs (hl i xs H' p)) p k) hd
theorem A7' {own:List Nat} {g:TG} {tc:TT} {as':TL α} {b0:α} {N:α->Hp->Prop} {a:Addr} {vs:List V} (Pv:Nat->α->Hp->Prop) (h0:Pv 0 b0 H) (hl:∀i b H,Pv i b H->SqL C.K H a vs)
  (hs:∀i b H x p (R:α->Hp->Prop),vs[i]?=some x->H p=none->Pv i b H->(∀c H2,Pv (i+1) c H2->R c H2)->g (.ref p) (clr own σ) (upd H p (.tup [.int i,x])) (in' tc as' b R)) (hd:∀b H,Pv vs.length b H->N b H):kCl own g tc as' σ b0 N (Ite C.K a) H:=
 oN' (n:=vs.length) Pv h0 (fun i xs H hi p=>⟨vs,vs[i],hl i xs H p,by simp[hi]⟩) (fun xs H p=>⟨vs,hl _ xs H p,rfl⟩) (fun i xs H x H' R hi p y k=>by
  obtain⟨ad,v,rfl,hn,y,rfl⟩:=y
  exact hs i xs H v ad R (y vs (hl i xs H p)) hn p k) hd
theorem BS' {own:List Nat} {g:TG} {tc:TT} {as':TL α} {b0:α} {N:α->Hp->Prop} {lo:Int} {n:Nat} (Pv:Nat->α->Hp->Prop) (h0:Pv 0 b0 H)
  (hs:∀i b H (R:α->Hp->Prop),i<n->Pv i b H->(∀c H2,Pv (i+1) c H2->R c H2)->g (.int (lo+i)) (clr own σ) H (in' tc as' b R)) (hd:∀b H,Pv n b H->N b H):kCl own g tc as' σ b0 N (Itr lo n) H:=
 oN' (n:=n) Pv h0 (fun i xs H hi p=>hi) (fun xs H p=>ag _) (fun i xs H x H' R hi p y k=>by
  obtain⟨e,rfl⟩:=y
  subst e
  exact hs i xs H' R hi p k) hd
theorem oO' {elt:Ce} {own:List Nat} {t:Ct} {it:Ci} {q:Cqo} {ws:List Nat} {t2:Ct} {it2:Ci} {q2:Cqo} {r:Cc}:tE C (.comp elt own t it q (.cons ws t2 it2 q2 r)) σ H Q=tI C it σ H (kCl own (tG C t) (tQo C q) (tR C (.cons ws t2 it2 q2 r) (d4' (tE C elt))) σ [] (oJ' Q)):=rfl
theorem sv' {ws:List Nat} {t:Ct} {it:Ci} {q:Cqo} {r:Cc} {em:TL (List V)} {b:List V} {P:List V->Hp->Prop}:tR C (.cons ws t it q r) em σ b H P=tI C it σ H (kCl ws (tG C t) (tQo C q) (tR C r em) σ b P):=rfl
theorem wW' {em:TL (List V)} {b:List V} {P:List V->Hp->Prop}:tR C .nil em σ b H P=em σ b H P:=rfl
theorem sw' {elt:Ce} {b:List V} {P:List V->Hp->Prop}:d4' (tE C elt) σ b H P=tE C elt σ H (gT' b P):=rfl
def Af' (b:(Option Int->Bool)×Nat) (P:(Option Int->Bool)×Nat->Hp->Prop):VK:=fun v H=>∃k,v=kO k/\b.2<4000/\P (fun j=>b.1 j || decide (j=k),b.2+1) H
theorem oP' {elt:Ce} {b:(Option Int->Bool)×Nat} {P:(Option Int->Bool)×Nat->Hp->Prop}:cZ' (tE C elt) σ b H P=tE C elt σ H (Af' b P):=rfl
theorem sx' {it:Ci} {own:List Nat} {g:TG} {tc:TT} {as':TL α} {b:α} {P:α->Hp->Prop}:hM' (tI C it) (a0' own g tc as') σ b H P=tI C it σ H (kCl own g tc as' σ b P):=rfl
def Ag' (i:Nat) (D:Ends) (σ:L2.St):(Option Int->Bool)×Nat->Hp->Prop:=fun a H2=>True/\∀p,H2 p=none->D.nx (σ.set i (some (.ref p))) (upd H2 p (eP' p a.1 a.2))
theorem sy' {i:Nat} {elt:Ce} {own:List Nat} {t:Ct} {it:Ci} {q:Cqo} {ws:List Nat} {t2:Ct} {it2:Ci} {q2:Cqo}:tS C (.setc2 i elt own t it q ws t2 it2 q2) D σ H=tI C it σ H (kCl own (tG C t) (tQo C q) (hM' (tI C it2) (a0' ws (tG C t2) (tQo C q2) (cZ' (tE C elt)))) σ (fun _=>false,0) (Ag' i D σ)):=rfl
theorem wX' {K:W.Frag} {a:Addr} {ns:List Int} (h:SqL K H a (ns.map V.int)) (hl:ns.length<=3999) (q:∀p,H p=none->Q (.ref p) (upd H p (eP' p (inL ns) ns.length))):dF' K .set [.ref a] H Q:=⟨a,ns,rfl,h,hl,q⟩
def Ah' (i:Nat) (D:Ends) (σ:L2.St):List (Key×V)->Hp->Prop:=fun a H2=>True/\∀p,H2 p=none->D.nx (σ.set i (some (.ref p))) (upd H2 p (.dK a))
def Ai' (i:Nat) (D:Ends) (σ:L2.St):KTL->Hp->Prop:=fun a H2=>okT a H2/\∀p,H2 p=none->D.nx (σ.set i (some (.ref p))) (upd H2 p (.dT (plT a)))
theorem sz' {i:Nat} {k v:Ce} {own:List Nat} {t:Ct} {it:Ci} {q:Cqo}:tS C (.dctc false i k v own t it q) D σ H=tI C it σ H (kCl own (tG C t) (tQo C q) (iQ' (tE C k) (tE C v)) σ [] (Ah' i D σ)):=rfl
theorem sA' {i:Nat} {k v:Ce} {own:List Nat} {t:Ct} {it:Ci} {q:Cqo}:tS C (.dctc true i k v own t it q) D σ H=tI C it σ H (kCl own (tG C t) (tQo C q) (iR' (tE C k) (tE C v)) σ [] (Ai' i D σ)):=rfl
def A8' (a:List (Key×V)) (P:List (Key×V)->Hp->Prop) (y:V):VK:=fun v H2=>∃k,y=L2.kV k/\a.length<sizeLine/\P (eM' a k v) H2
def A9' (C:Rc) (σ:L2.St) (v:Ce) (a:List (Key×V)) (P:List (Key×V)->Hp->Prop):VK:=fun y H1=>tE C v σ H1 (A8' a P y)
theorem oQ' {k v:Ce} {a:List (Key×V)} {P:List (Key×V)->Hp->Prop}:iQ' (tE C k) (tE C v) σ a H P=tE C k σ H (A9' C σ v a P):=rfl
theorem sB' {v:Ce} {a:List (Key×V)} {P:List (Key×V)->Hp->Prop} {y:V}:A9' C σ v a P y H=tE C v σ H (A8' a P y):=rfl
def Ba' (a:KTL) (P:KTL->Hp->Prop) (y:V):VK:=fun v H2=>∃(k:List Key) (b:Addr),y=.ref b/\H2 b=some (.tup (k.map L2.kV))/\okT a H2/\(∀x∈a,x.1≠k)/\a.length<sizeLine/\P (a++[(k,b,v)]) H2
def Bb' (C:Rc) (σ:L2.St) (v:Ce) (a:KTL) (P:KTL->Hp->Prop):VK:=fun y H1=>tE C v σ H1 (Ba' a P y)
theorem oR' {k v:Ce} {a:KTL} {P:KTL->Hp->Prop}:iR' (tE C k) (tE C v) σ a H P=tE C k σ H (Bb' C σ v a P):=rfl
theorem sC' {v:Ce} {a:KTL} {P:KTL->Hp->Prop} {y:V}:Bb' C σ v a P y H=tE C v σ H (Ba' a P y):=rfl
def Bc' (Q:VK):(Option Int->Bool)×Nat->Hp->Prop:=fun a H2=>y1' Q a H2/\∀p,H2 p=none->True
theorem wY' {elt:Ce} {own:List Nat} {t:Ct} {it:Ci} {q:Cqo}:tE C (.ssc elt own t it q) σ H Q=tI C it σ H (kCl own (tG C t) (tQo C q) (cZ' (tE C elt)) σ (fun _=>false,0) (Bc' Q)):=rfl
theorem wZ' {a:(Option Int->Bool)×Nat} (h1:a.1 none=false) (h2:∃b:List Int,b.length<64/\∀i,a.1 (some i)=true->i∈b) (q:∀(l:Addr) (us:List Int),H l=none->us.Pairwise (· < ·)->(∀i:Int,i∈us↔a.1 (some i)=true)->Q (.ref l) (upd H l (.lst (us.map V.int)))):Bc' Q a H:=⟨⟨h1,h2,q⟩,fun _ _=>trivial⟩
def io' (neg:Bool) (y:V) (Q:VK):VK:=fun x H2=>(∃a o,x=.ref a/\f7' H2 a y o/\Q (.bl (if neg then !o.isSome else o.isSome)) H2)\/x9' neg y x H2 Q\/yc' neg y x H2 Q
def sD' (C:Rc) (σ:L2.St) (neg:Bool) (b:Ce) (Q:VK):VK:=fun y H1=>tE C b σ H1 (io' neg y Q)
theorem w0' {neg:Bool} {a b:Ce}:tE C (.din neg a b) σ H Q=tE C a σ H (sD' C σ neg b Q):=rfl
theorem w1' {neg:Bool} {a b:Ce} {Qb:Bool->Hp->Prop}:tQ C (.din neg a b) σ H Qb=tE C a σ H (sD' C σ neg b (kT Qb)):=rfl
theorem oT' {neg:Bool} {b:Ce} {y:V}:sD' C σ neg b Q y H=tE C b σ H (io' neg y Q):=rfl
theorem mp' {neg:Bool} {k:Option Int} {y:V} {p:Addr} {S:Option Int->Bool} {n:Nat} (hy:y=kO k) (h:H p=some (eP' p S n)) (q:Q (.bl (if neg then !(S k)else S k)) H):io' neg y Q (.ref p) H:=.inr (.inl ⟨k,p,S,n,hy,rfl,h,q⟩)
theorem sE' {neg:Bool} {k:List Int} {b D:Addr} {L:List NK} (h:H b=some (.tup (k.map V.int))) (hk:hT k≠NH) (hD:H D=some (cy' D L)) (ht:f8' H L) (q:Q (.bl (if neg then !decide (some k∈L.map (aW Prod.fst))else decide (some k∈L.map (aW Prod.fst)))) H):io' neg (.ref b) Q (.ref D) H:=.inr (.inr (.inl ⟨k,b,D,L,rfl,h,hk,rfl,hD,ht,q⟩))
theorem mq' {neg:Bool} {D:Addr} (h:NoR H D) (q:Q (.bl neg) H):io' neg .non Q (.ref D) H:=.inr (.inr (.inr ⟨rfl,D,rfl,h,q⟩))
theorem qd' {neg:Bool} {y:V} {p:Addr} {o:Option V} (h:f7' H p y o) (q:Q (.bl (if neg then !o.isSome else o.isSome)) H):io' neg y Q (.ref p) H:=.inl ⟨p,o,rfl,h,q⟩
def ip' (a:Addr) (Q:VK):VK:=fun y H2=>(∃o,f7' H2 a y o/\Q (o.getD .non) H2)\/(y=.non/\NoN H2 a/\Q .non H2)
def w2' (C:Rc) (σ:L2.St) (b:Ce) (Q:VK):VK:=fun x H1=>∃a,x=.ref a/\IsD H1 a/\tE C b σ H1 (ip' a Q)
theorem w3' {a b:Ce}:tE C (.dgt a b) σ H Q=tE C a σ H (w2' C σ b Q):=rfl
theorem fQ' {b:Ce} {p:Addr} (h:IsD H p) (q:tE C b σ H (ip' p Q)):w2' C σ b Q (.ref p) H:=⟨p,rfl,h,q⟩
theorem ms' {p:Addr} {y:V} {o:Option V} (h:f7' H p y o) (q:Q (o.getD .non) H):ip' p Q y H:=.inl ⟨o,h,q⟩
theorem mt' {p:Addr} (h:NoN H p) (q:Q .non H):ip' p Q .non H:=.inr ⟨rfl,h,q⟩
end
section
variable {C:Rc} {σ:L2.St} {H:Hp} {Q:VK} {Qb:Bool->Hp->Prop}
def kW1 (C:Rc) (σ:L2.St) (k:Zf) (b:Ce) (Q:VK):VK:=fun x H=>tE C b σ H fun y H'=>rZf k x y H' Q
def kW2 (k:Zf) (x:V) (Q:VK):VK:=fun y H=>rZf k x y H Q
theorem w5' {k:Zf} {a b:Ce}:tQ C (.cmw k a b) σ H Qb=tE C a σ H (kW1 C σ k b (kT Qb)):=rfl
theorem w6' {k:Zf} {b:Ce} {x:V}:kW1 C σ k b Q x H=tE C b σ H (kW2 k x Q):=rfl
theorem oU' {K:W.Frag} {a:Addr} {kvs:List (List Key×V)} {n:Nat} (h:Rd H a (.dT kvs)) (hk:∀kv∈kvs,∃is:List Int,kv.1=is.map Key.inl/\is.length=n+1) (hu:(kvs.map fun kv=>unK kv.1).Pairwise fun x y=>aU' (kI y) (kI x)=false) (q:∀(l:Addr) (as:List Addr),H l=none->as.length=kvs.length->(∀(i:Nat) b kv,as[i]?=some b->kvs[i]?=some kv->H b=some (.tup (kv.1.map L2.kV)))->Q (.ref l) (upd H l (.lst (as.map V.ref)))):dF' K .sortU [.ref a] H Q:=⟨a,kvs,n,rfl,h,hk,hu,q⟩
theorem jd' {K:W.Frag} {a:Addr} {kvs:List (List Key×V)} (h:Rd H a (.dT kvs)) (q:Q (.int kvs.length) H):dF' K .lenD [.ref a] H Q:=.inr ⟨a,kvs,rfl,h,q⟩
theorem sF' {K:W.Frag} {a:Addr} {ns:List Int} (h:SqT K H a (ns.map V.int)) (hn:ns≠[]) (q:∀M,M∈ns->(∀b∈ns,b<=M)->Q (.int M) H):dF' K .maxT [.ref a] H Q:=⟨a,ns,rfl,h,hn,q⟩
section
variable {D:Ends}
def w7' (x v:V) (D:Ends) (σ:L2.St):VK:=fun y H3=>(∃a H4,x=.ref a/\q3' H3 a y v H4/\D.nx σ H4)\/∃(a:Addr) (L:List NK) (q:NK),x=.ref a/\v=.bl true/\H3 a=some (cy' a L)/\f8' H3 L/\L.length<4000/\u2' H3 y q/\D.nx σ (upd H3 a (cy' a (eI' L q)))
theorem oV' {a:Addr} {L:List NK} {q:NK} {y:V} (h:H a=some (cy' a L)) (ht:f8' H L) (hz:L.length<4000) (hk:u2' H y q) (k:D.nx σ (upd H a (cy' a (eI' L q)))):w7' (.ref a) (.bl true) D σ y H:=.inr ⟨a,L,q,rfl,rfl,h,ht,hz,hk,k⟩
theorem oW' {a b:Addr} {kvs:List (List Key×V)} {ks:List Key} {v:V} (h:H a=some (.dT kvs)) (hb:H b=some (.tup (ks.map L2.kV))) (hz:kvs.length<sizeLine) (k:D.nx σ (upd H a (.dT (eM' kvs ks v)))):w7' (.ref a) v D σ (.ref b) H:=.inl ⟨a,_,rfl,q3'.t h hb hz,k⟩
def Ak' (C:Rc) (i:Ce) (v:V) (D:Ends) (σ:L2.St):VK:=fun x H2=>tE C i σ H2 (w7' x v D σ)
def Be' (C:Rc) (o i:Ce) (D:Ends) (σ:L2.St):VK:=fun v H1=>tE C o σ H1 (Ak' C i v D σ)
theorem w8' {o i e:Ce}:tS C (.dput o i e) D σ H=tE C e σ H (Be' C o i D σ):=rfl
theorem sH' {o i:Ce} {v:V}:Be' C o i D σ v H=tE C o σ H (Ak' C i v D σ):=rfl
theorem sI' {i:Ce} {v x:V}:Ak' C i v D σ x H=tE C i σ H (w7' x v D σ):=rfl
end
def Bf' (f:Yf) (Q:VK):VK:=fun x H=>rYf f [x] H Q
theorem w9' {f:Yf} {a:Ce}:tE C (.cal f a) σ H Q=tE C a σ H (Bf' f Q):=rfl
def Bg' (C:Rc) (Q:VK):VK:=fun x H1=>(∃a xs,x=.ref a/\SqT C.K H1 a xs/\∀p,H1 p=none->Q (.ref p) (upd H1 p (.tup xs.reverse)))\/∃a,x=.str a/\a.length<=sizeLine/\Q (.str (uM' a)) H1
theorem qf' {a:Ce}:tE C (.rvt a) σ H Q=tE C a σ H (Bg' C Q):=rfl
theorem qg' {a:Str} (h:a.length<=sizeLine) (q:Q (.str (uM' a)) H):Bg' C Q (.str a) H:=.inr ⟨a,rfl,h,q⟩
theorem sL' {a b:Addr} {kvs:List (List Key×V)} (h:Rd H a (.dT kvs)) (h2:H b=some (.dK [])) (q:Q (.bl (!decide (kvs=[]))) H):kW2 .neD0 (.ref a) Q (.ref b) H:=⟨a,b,kvs,rfl,rfl,h,h2,q⟩
end
end R3
section
open PySem PySem.Spec PyProof.Rows L2 R3
local macro_rules | `(tactic| symm) => `(tactic| try walk_at "sy")
set_option hygiene false in
local macro_rules | `(tactic| walk_at "sy") => `(tactic| simp only [BR', qc', qb', wK', w5', w6', w8', sH', sI', oO', sv', wW', sw', w0', w1', oT', w3', sy', sz', sA', wY', oP', sx', oQ', sB', oR', sC', ss', su', oL', oM', vA', l3', zE', vB', vC', vD', vE', vF', vG', vH', vI', vJ', vK', vL', vM', on', zF', vN', vP', oo', vQ', zH', rU', rV', l4', vR', oK', zI', sc', zJ', zK', vT', zL', zM', zN', BG', BH', BI', BJ', BK', zO', Aa', Ab', wN', sh', BO', sd', vU', vV', ij', ja', vW', vX', vY', vZ', v1', oq', zP', rW', zQ', or', ot', ou', BL', rX', zR', rS', v6', v7', zS', v5', v8', v9', rY', rZ', ov', wa', r2', wd', ow', ox', we', wf', wg', wi', oy', wk', wl', r3', p2', p3', wm', r4', wq', oz', oA', oB', wr', wt', l5', wu', oD', mf', wH', j0', mg', mh', r9', sa', zY', zZ', BM', BN', wx', wI', z0', z1', l8', l9', r6', wB', wy', r8', z5', z6', z7', z8', oI', clr, List.foldl_cons, List.foldl_nil, L2.aQ', aS, List.map_nil, bb, cR, List.cons_append, cQ, av, Nat.reduceSub, Nat.reduceAdd, List.set_cons_zero, List.set_cons_succ, List.getElem?_cons_zero, List.getElem?_cons_succ, reduceCtorEq, decide_true, decide_false, eq_self, Bool.not_true, Bool.not_false, bne_self_eq_false, BEq.rfl])
namespace LW
open PySem PySem.Spec PyProof.Rows L2 R3
def c8':Css:=(.cons (.ite (.cmp .Lt (.var 1) (.blt .len (.cons (.var 0) .nil))) (.cons (.ret (.idx (.var 0) (.var 1)))
  .nil) .nil)
  (.cons (.ret (.int 0))
  .nil))
def oY':Css:=(.cons (.asg (.name 2) (.call "_law_cell_at" (.cons (.var 0) (.cons (.var 1) .nil))))
  (.cons (.ret (.lst (.cons (.bin .Mult (.blt .abs (.cons (.var 2) .nil)) (.blt .int (.cons (.cmp .GtE (.blt .abs (.cons (.var 2) .nil)) (.bin .Pow (.int 10) (.int 18))) .nil))) (.cons (.bin .Add (.bin .Add (.bin .Mod (.var 2) (.int 2305843009213693951)) (.bin .Mult (.int 39373) (.var 1))) (.int 17)) (.cons (.int 0) .nil)))))
  .nil))
def je':Css:=(.cons (.ite (.cmp .Gt (.idx (.var 0) (.int 0)) (.int 0)) (.cons (.asg (.name 2) (.bin .Mod (.idx (.var 0) (.int 0)) (.var 1)))
  (.cons (.asg (.sub (.var 0) (.int 0)) (.bin .FloorDiv (.idx (.var 0) (.int 0)) (.var 1)))
  (.cons (.ret (.var 2))
  .nil))) .nil)
  (.cons (.asg (.sub (.var 0) (.int 2)) (.bin .Add (.idx (.var 0) (.int 2)) (.int 1)))
  (.cons (.asg (.name 3) (.bin .Mod (.bin .Mult (.bin .Add (.idx (.var 0) (.int 1)) (.bin .Mult (.int 48271) (.idx (.var 0) (.int 2)))) (.bin .Add (.int 39373) (.idx (.var 0) (.int 2)))) (.int 2147483647)))
  (.cons (.asg (.name 4) (.bin .Mod (.bin .Mult (.bin .Add (.var 3) (.idx (.var 0) (.int 2))) (.bin .Add (.bin .Mod (.var 3) (.int 40009)) (.int 7))) (.int 2147483629)))
  (.cons (.ret (.bin .Mod (.bin .FloorDiv (.bin .Mod (.bin .Add (.bin .Mult (.var 4) (.int 48271)) (.var 3)) (.int 2147483587)) (.int 64)) (.var 1)))
  .nil)))))
def oZ':Css:=(.cons (.asg (.name 1) (.idx (.lst (.cons (.call "_law_take" (.cons (.var 0) (.cons (.int 13) .nil))) (.cons (.call "_law_take" (.cons (.var 0) (.cons (.int 61) .nil))) .nil))) (.blt .int (.cons (.cmp .Eq (.call "_law_take" (.cons (.var 0) (.cons (.int 8) .nil))) (.int 0)) .nil))))
  (.cons (.asg (.name 2) (.bin .Add (.int 2) (.call "_law_take" (.cons (.var 0) (.cons (.int 3) .nil)))))
  (.cons (.asg (.name 3) (.bin .Mult (.idx (.str "01") (.call "_law_take" (.cons (.var 0) (.cons (.int 2) .nil)))) (.blt .int (.cons (.cmp .Gt (.var 1) (.int 0)) .nil))))
  (.cons (.whl (.cmp .Lt (.blt .len (.cons (.var 3) .nil)) (.var 1)) (.cons (.asg (.name 3) (.bin .Add (.var 3) (.idx (.lst (.cons (.idx (.var 3) (.neg (.int 1))) (.cons (.idx (.str "10") (.blt .int (.cons (.idx (.var 3) (.neg (.int 1))) .nil))) .nil))) (.blt .int (.cons (.cmp .Eq (.call "_law_take" (.cons (.var 0) (.cons (.var 2) .nil))) (.int 0)) .nil)))))
  .nil))
  (.cons (.ret (.var 3))
  .nil)))))
def fi' (K:W.Frag):Sp:=fun vs H Q _=>∃(a:Addr) (ns:List Int) (k:Int),vs=[.ref a,.int k]/\SqL K H a (ns.map V.int)/\0<=k/\∀c:Int,Q (.int c) H
theorem o0' {ns:List Int} {k:Int} (h0:0<=k) (h1:k<ns.length):∃c:Int,atI (ns.map V.int) k=some (.int c):=by
 obtain⟨j,rfl⟩:=ba h0
 have hk:j<ns.length:=by omega
 exact⟨ns[j],do' (by rw[ao,ae hk];rfl)⟩
theorem mu' {C:Rc} (hN:C.N.length=2):∀vs H Q E,fi' C.K vs H Q E->tSs C c8' { nx:=fun _ H'=>Q .non H',rt:=Q } (L2.aQ' C.N vs) H:=by
 intro vs H Q E h
 obtain⟨a,ns,k,rfl,hs,hk,q⟩:=h
 rw[ap' hN]
 unfold c8'
 symm
 refine dv' hs ?_
 rw[ac]
 symm
 refine a3' (fun c=>?_) fun _=>?_
 .obtain⟨v,hv⟩:=o0' hk c
  symm
  exact aW' hs hv (q v)
 .symm
  exact q 0
def mv' (K:W.Frag):Sp:=fun vs H Q _=>∃(a:Addr) (ns:List Int) (k:Int),vs=[.ref a,.int k]/\SqL K H a (ns.map V.int)/\0<=k/\k<=1000/\∀(p:Addr) (x y:Int),H p=none->0<=x->0<=y->y<2 ^ 62->Q (.ref p) (upd H p (gQ' x y 0))
theorem o1' {C:Rc} (hN:C.N.length=3) (hf:C.fs "_law_cell_at"=some (fi' C.K)):∀vs H Q E,mv' C.K vs H Q E->tSs C oY' { nx:=fun _ H'=>Q .non H',rt:=Q } (L2.aQ' C.N vs) H:=by
 intro vs H Q E h
 obtain⟨a,ns,k,rfl,hs,hk,hk2,q⟩:=h
 rw[ap' hN]
 unfold oY'
 symm
 refine ag' hf ?_
 symm
 refine⟨a,ns,k,rfl,hs,hk,fun c=>?_⟩
 symm
 have hm0:0<=c % 2305843009213693951:=Int.emod_nonneg _ (by decide)
 have hm1:c % 2305843009213693951<2305843009213693951:=de _ (by decide)
 refine⟨⟨by decide,by decide,by decide⟩,?_,by decide,.inl ⟨by decide,by decide⟩,by decide,fun p hp=>q p _ _ hp ?_ ?_ ?_⟩
 .refine .inr (.inl ⟨?_,?_⟩)<;>split<;>split<;>decide
 .split<;>split<;>omega
 .omega
 .omega
section
variable {K:W.Frag} {H:Hp} {b:Addr} {x y z:Int} {Q:VK}
theorem ix0 (h:H b=some (gQ' x y z)) (q:Q (.int x) H):hv' K (.ref b) (.int 0) H Q\/hH' K (.ref b) (.int 0) H Q:=.inl ⟨b,_,0,_,rfl,rfl,SqL.of h,rfl,q⟩
theorem ix1 (h:H b=some (gQ' x y z)) (q:Q (.int y) H):hv' K (.ref b) (.int 1) H Q\/hH' K (.ref b) (.int 1) H Q:=.inl ⟨b,_,1,_,rfl,rfl,SqL.of h,rfl,q⟩
theorem ix2 (h:H b=some (gQ' x y z)) (q:Q (.int z) H):hv' K (.ref b) (.int 2) H Q\/hH' K (.ref b) (.int 2) H Q:=.inl ⟨b,_,2,_,rfl,rfl,SqL.of h,rfl,q⟩
theorem st0 {u:Int} {Q:Hp->Prop} (h:H b=some (gQ' x y z)) (q:Q (upd H b (gQ' u y z))):eK' (.ref b) (.int 0) (.int u) H Q:=⟨b,_,0,0,rfl,rfl,h,rfl,q⟩
theorem st2 {u:Int} {Q:Hp->Prop} (h:H b=some (gQ' x y z)) (q:Q (upd H b (gQ' x y u))):eK' (.ref b) (.int 2) (.int u) H Q:=⟨b,_,2,2,rfl,rfl,h,rfl,q⟩
end
def fR':Sp:=fun vs H Q _=>∃(b:Addr) (x y z m:Int),vs=[.ref b,.int m]/\H b=some (gQ' x y z)/\0<=x/\0<=y/\y<2 ^ 62/\0<=z/\z<=2 ^ 40/\0<m/\m<4611686018427387904/\
 ∀(r x' z':Int),0<=r->r<m->0<=x'->0<=z'->z'<=z+1->Q (.int r) (upd H b (gQ' x' y z'))
theorem mw' {C:Rc} (hN:C.N.length=5):∀vs H Q E,fR' vs H Q E->tSs C je' { nx:=fun _ H'=>Q .non H',rt:=Q } (L2.aQ' C.N vs) H:=by
 intro vs H Q E h
 obtain⟨b,x,y,z,m,rfl,hb,hx,hy,hy2,hz,hz2,hm,hm2,q⟩:=h
 rw[ap' hN]
 unfold je'
 walk_at "sy"
 refine ix0 hb ?_
 walk_at "sy"
 refine a3' (fun c=>?_) fun _=>?_
 .walk_at "sy"
  refine ix0 hb ?_
  walk_at "sy"
  refine⟨hm,?_⟩
  refine ix0 hb ?_
  walk_at "sy"
  refine⟨⟨hm,.inr (am ((Nat.log2_lt ⋯).mpr (show m.natAbs<2 ^ 62 by omega)) (by decide))⟩,st0 hb ?_⟩
  walk_at "sy"
  exact q _ _ _ (Int.emod_nonneg _ ⋯) (de _ hm) (Int.ediv_nonneg hx ⋯) hz ⋯
 .walk_at "sy"
  refine ix2 hb ?_
  walk_at "sy"
  refine st2 hb ?_
  have hb':upd H b (gQ' x y (z+1)) b=some (gQ' x y (z+1)):=ab'
  walk_at "sy"
  refine ix1 hb' ?_
  walk_at "sy"
  refine ix2 hb' ?_
  walk_at "sy"
  refine⟨.inl ⟨by decide,by decide⟩,?_⟩
  refine ix2 hb' ?_
  walk_at "sy"
  refine⟨.inr (.inl ⟨⋯,⋯⟩),by decide,?_⟩
  refine ix2 hb' ?_
  walk_at "sy"
  generalize (y+48271*(z+1))*(39373+(z+1)) % 2147483647=once
  have ho0:0<=once % 40009:=Int.emod_nonneg _ (by decide)
  have ho1:once % 40009<40009:=de _ (by decide)
  refine⟨by decide,.inr (.inl ⟨⋯,⋯⟩),by decide,.inr (.inl ⟨by decide,by decide⟩),by decide,⟨by decide,by decide⟩,hm,?_⟩
  exact q _ _ _ (Int.emod_nonneg _ ⋯) (de _ hm) hx ⋯ ⋯
def bk':Sp:=fun vs H Q _=>∃(b:Addr) (n:Nat) (m:Int),vs=[.ref b,.int m]/\H b=some (dH' b n)/\n<=2 ^ 40/\0<m/\m<4611686018427387904/\∀(r:Int) (H':Hp),0<=r->r<m->Go 1 H H'->Q (.int r) H'
theorem sN' {P:Program} {w:World} {K:W.Frag} {mg:Str->Option Value} {base:Heap} {k:Nat} {f:Addr} {fd:FuncData} {ps:List Str} (hp:ps.length=2) (F:FnOk P w K mg base CX0 k f fd ps fR'):FnOk P w K mg base CX0 k f fd ps bk':=by
 refine rR' (l2' (sp':=fun vs H Q E=>fR' vs H (AW' Q) E) F fun _ _ _ _ h=>h) (fun vs H Q E h=>?_) fun vs H Q E h=>?_
 .obtain⟨b,n,m,rfl,hb,hn,hm,hm2,q⟩:=h
  refine⟨b,n,hb,fun x y z hx hy hy2 hz hzn=>⟨b,x,y,z,m,rfl,ab',hx,hy,hy2,hz,⋯,hm,hm2,fun r x' z' h1 h2 h3 h4 h5=>?_⟩⟩
  refine⟨b,x',y,z',n+1,ab',h3,hy,hy2,h4,⋯,?_⟩
  refine q r _ h1 h2 ?_
  rw[hB']
  exact Go.draw hb (ag _) _
 .obtain⟨b,n,m,rfl,_⟩:=h
  rw[hp]
  rfl
def mx' (K:W.Frag):Sp:=fun vs H Q _=>∃(a:Addr) (ns:List Int) (k:Int),vs=[.ref a,.int k]/\SqL K H a (ns.map V.int)/\0<=k/\k<=1000/\∀(p:Addr),H p=none->Q (.ref p) (upd H p (dH' p 0))
theorem xa' {P:Program} {w:World} {K:W.Frag} {mg:Str->Option Value} {base:Heap} {k:Nat} {f:Addr} {fd:FuncData} {ps:List Str} (F:FnOk P w K mg base CX0 k f fd ps (mv' K)):FnOk P w K mg base CX0 k f fd ps (mx' K):=by
 refine l2' F fun vs H Q E h=>?_
 obtain⟨a,ns,k,rfl,hs,h0,h1,q⟩:=h
 refine⟨a,ns,k,rfl,hs,h0,h1,fun p x y hp hx hy hy2=>⟨p,x,y,0,0,ab',hx,hy,hy2,⋯,⋯,?_⟩⟩
 rw[hB']
 exact q p hp
def j1':Sp:=fun vs H Q _=>∃(b:Addr) (n:Nat),vs=[.ref b]/\H b=some (dH' b n)/\n<=2 ^ 39/\∀(r:List Bool) (H':Hp),r.length<=60->Go 100 H H'->Q (.str (tx r)) H'
theorem _root_.R3.Go.boxed {c n:Nat} {H H':Hp} {b:Addr} (g:Go c H H') (h:H b=some (dH' b n)) (hn:n+c<=2 ^ 40):∃m,H' b=some (dH' b m)/\m<=n+c/\m<=2 ^ 40:=by
 obtain⟨m,hm,e⟩:=g.box b n h
 exact⟨m,e,hm,⋯⟩
theorem o2' {C:Rc} (hN:C.N.length=4) (hT:C.fs "_law_take"=some bk'):∀vs H Q E,j1' vs H Q E->tSs C oZ' { nx:=fun _ H'=>Q .non H',rt:=Q } (L2.aQ' C.N vs) H:=by
 intro vs H Q E h
 obtain⟨b,n,rfl,hb,hn,q⟩:=h
 rw[ap' hN]
 unfold oZ'
 walk_at "sy"
 refine ag' hT ?_
 walk_at "sy"
 refine⟨b,n,13,rfl,hb,⋯,by decide,by decide,fun r1 H1 h10 h11 g1=>?_⟩
 obtain⟨n1,hb1,hn1,hn1'⟩:=g1.boxed hb ⋯
 walk_at "sy"
 refine ag' hT ?_
 walk_at "sy"
 refine⟨b,n1,61,rfl,hb1,hn1',by decide,by decide,fun r2 H2 h20 h21 g2=>?_⟩
 obtain⟨n2,hb2,hn2,hn2'⟩:=g2.boxed hb1 ⋯
 walk_at "sy"
 refine⟨by decide,fun p hp=>?_⟩
 refine ag' hT ?_
 have hpb:p≠b:=fun z=>by subst z;rw[hb2]at hp;cases hp
 have hb2':upd H2 p (.lst [.int r1,.int r2]) b=some (dH' b n2):=by rw[ae' (Ne.symm hpb)];exact hb2
 walk_at "sy"
 refine⟨b,n2,8,rfl,hb2',hn2',by decide,by decide,fun r3 H3 h30 h31 g3=>?_⟩
 have g23:Go 1 H2 H3:=(Go.trans (c:=0) (Go.new hp _) g3).mono ⋯
 obtain⟨n3,hb3,hn3,hn3'⟩:=g3.boxed hb2' ⋯
 have hp3:H3 p=some (.lst [.int r1,.int r2]):=g3.lst ab'
 walk_at "sy"
 refine qa' (SqL.of hp3) ?_
 have hm:∃many:Int,(if decide (r3=0)=true then V.int r2 else V.int r1)=.int many/\0<=many/\many<=60:=by
  split
  .exact⟨r2,rfl,h20,⋯⟩
  .exact⟨r1,rfl,h10,⋯⟩
 obtain⟨many,em,hm0,hm1⟩:=hm
 rw[em]
 walk_at "sy"
 refine ag' hT ?_
 walk_at "sy"
 refine⟨b,n3,3,rfl,hb3,hn3',by decide,by decide,fun r4 H4 h40 h41 g4=>?_⟩
 obtain⟨n4,hb4,hn4,hn4'⟩:=g4.boxed hb3 ⋯
 walk_at "sy"
 refine ag' hT ?_
 walk_at "sy"
 refine⟨b,n4,2,rfl,hb4,hn4',by decide,by decide,fun r5 H5 h50 h51 g5=>?_⟩
 obtain⟨n5,hb5,hn5,hn5'⟩:=g5.boxed hb4 ⋯
 have g05:Go 5 H H5:=((((g1.trans g2).trans g23).trans g4).trans g5)
 obtain⟨c0,hc0⟩:∃c0,atI [false,true] r5=some c0:=by
  have:r5=0\/r5=1:=by omega
  rcases this with rfl|rfl
  .exact⟨false,rfl⟩
  .exact⟨true,rfl⟩
 walk_at "sy"
 refine cJ' (by decide) hc0 ?_
 walk_at "sy"
 have e0:∃r0:List Bool,Txt.mul (tx [c0]) (if decide (0<many)=true then 1 else 0)=tx r0/\r0.length<=1/\(0<many->r0≠[])/\(many<=0->r0=[]):=by
  by_cases h:0<many
  .refine⟨[c0],?_,by simp,fun _=>by simp,fun z=>by omega⟩
   rw[decide_eq_true h]
   exact(p6' (a:=[c0]) (n:=1)).trans (by simp)
  .refine⟨[],?_,by simp,fun z=>absurd z h,fun _=>rfl⟩
   rw[decide_eq_false h]
   exact(p6' (a:=[c0]) (n:=0)).trans (by simp)
 obtain⟨r0,er,hr1,hr2,hr3⟩:=e0
 refine⟨by split<;>decide,by split<;>decide,by rw[bD',cq];split<;>decide,?_⟩
 rw[er]
 refine mb' (fun m σ H'=>∃r:List Bool,σ=[some (.ref b),some (.int many),some (.int (2+r4)),some (.str (tx r))]/\(r.length:Int)<=many/\(0<many->r≠[])/\m=60-r.length/\Go (5+r.length) H H') _ ⟨r0,rfl,?_,hr2,rfl,g05.mono ⋯⟩ ?_
 .by_cases h:0<many
  .omega
  .rw[hr3 ⋯];simp;omega
 rintro m σ H6 ⟨r,rfl,hr,hne,rfl,g6⟩
 walk_at "sy"
 refine⟨aF (by omega:r.length<=60) (by decide),?_⟩
 refine a3' (fun hc=>mc' ?_) fun hc=>md' ?_
 .have hr0:r≠[]:=hne ⋯
  obtain⟨r',c,rfl⟩:∃r' c,r=r'++[c]:=⟨r.dropLast,r.getLast hr0,(List.dropLast_concat_getLast hr0).symm⟩
  have hsz:(r'++[c]).length<=60:=by omega
  have hszl:(r'++[c]).length<=sizeLine:=aF hsz (by decide)
  walk_at "sy"
  refine cJ' hszl (iL' r' c) ?_
  walk_at "sy"
  refine cJ' hszl (iL' r' c) ?_
  walk_at "sy"
  refine cJ' (by decide) (c:=!c) (by cases c<;>rfl) ?_
  walk_at "sy"
  refine⟨by decide,fun p2 hp2=>?_⟩
  refine ag' hT ?_
  walk_at "sy"
  obtain⟨n6,hb6,hn6,hn6'⟩:=g6.boxed hb ⋯
  have hpb2:p2≠b:=fun z=>by subst z;rw[hb6]at hp2;cases hp2
  have hb6':upd H6 p2 (.lst [.str (tx [c]),.str (tx [!c])]) b=some (dH' b n6):=by rw[ae' (Ne.symm hpb2)];exact hb6
  refine⟨b,n6,_,rfl,hb6',hn6',⋯,⋯,fun r7 H7 h70 h71 g7=>?_⟩
  have g67:Go 1 H6 H7:=(Go.trans (c:=0) (Go.new hp2 _) g7).mono ⋯
  have hp7:H7 p2=some (.lst [.str (tx [c]),.str (tx [!c])]):=g7.lst ab'
  walk_at "sy"
  refine qa' (SqL.of hp7) ?_
  obtain⟨c7,e7⟩:∃c7,(if decide (r7=0)=true then V.str (tx [!c])else V.str (tx [c]))=.str (tx [c7]):=by
   split
   .exact⟨_,rfl⟩
   .exact⟨_,rfl⟩
  rw[e7]
  walk_at "sy"
  refine⟨aF (by simp at hsz ⊢;omega:_<=61) (by decide),60-(r'++[c]++[c7]).length,?_,r'++[c]++[c7],rfl,?_,fun _=>by simp,rfl,?_⟩
  .simp at hsz hr hc ⊢;omega
  .simp at hr hc ⊢;omega
  .refine(g6.trans g67).mono ?_
   simp;omega
 .walk_at "sy"
  exact q r H6 ⋯ (g6.mono ⋯)
end LW
namespace LW
open PySem PySem.Spec PyProof.Rows L2 R3
abbrev Rm:=Option Nat×Option Nat
def oV:Option Nat->V
 |none=>.non
 |some n=>.int n
def Tp (H H':Hp):Prop:=∀a xs,H a=some (.tup xs)->H' a=some (.tup xs)
theorem Tp.refl {H:Hp}:Tp H H:=fun _ _ h=>h
theorem Tp.trans {H H1 H2:Hp} (a:Tp H H1) (b:Tp H1 H2):Tp H H2:=fun c x h=>b c x (a c x h)
theorem _root_.R3.Go.tp {c:Nat} {H H':Hp} (g:Go c H H'):Tp H H':=fun a xs h=>g.tup h
theorem af' {H H':Hp} (s:av' H H'):Tp H H':=fun a xs h=>s _ _ h
theorem bf' {Q:VK} {m:Int} {H0 H:Hp} {b:Addr} {n0 c:Nat} (hb:H0 b=some (dH' b n0)) (g:Go c H0 H) (hn:n0+c<=2 ^ 40) (hm:0<m) (hm2:m<4611686018427387904) (q:∀r H',0<=r->r<m->Go 1 H H'->Go (c+1) H0 H'->Q (.int r) H'):bk' [.ref b,.int m] H Q E0:=by
 obtain⟨n,hb1,_,hn1⟩:=g.boxed hb hn
 exact⟨b,n,m,rfl,hb1,hn1,hm,hm2,fun r H' h0 h1 g1=>q r H' h0 h1 g1 (g.trans g1)⟩
def gW' (H:Hp) (v:V) (r:Rm):Prop:=∃p,v=.ref p/\H p=some (.tup [oV r.1,oV r.2])
theorem gW'.mono {H H':Hp} {v:V} {r:Rm} (t:Tp H H') (h:gW' H v r):gW' H' v r:=by
 obtain⟨p,e,h⟩:=h
 exact⟨p,e,t _ _ h⟩
def cb' (H:Hp):List V->List Rm->Prop
 | [],[]=>True
 |v :: vs,r :: rs=>gW' H v r/\cb' H vs rs
 |_,_=>False
theorem cb'.mono {H H':Hp} (t:Tp H H'):∀{vs:List V} {M:List Rm},cb' H vs M->cb' H' vs M
 | [],[],_=>trivial
 |v :: vs,r :: rs,h=>⟨h.1.mono t,cb'.mono t h.2⟩
 | [],_ :: _,h=>h.elim
 |_ :: _,[],h=>h.elim
theorem cb'.len {H:Hp}:∀{vs:List V} {M:List Rm},cb' H vs M->vs.length=M.length
 | [],[],_=>rfl
 |v :: vs,r :: rs,h=>by simp[cb'.len h.2]
 | [],_ :: _,h=>h.elim
 |_ :: _,[],h=>h.elim
theorem cb'.snoc {H:Hp} {v:V} {r:Rm} (hr:gW' H v r):∀{vs:List V} {M:List Rm},cb' H vs M->cb' H (vs++[v]) (M++[r])
 | [],[],_=>⟨hr,trivial⟩
 |v :: vs,r :: rs,h=>⟨h.1,cb'.snoc hr h.2⟩
 | [],_ :: _,h=>h.elim
 |_ :: _,[],h=>h.elim
theorem cb'.get {H:Hp}:∀{vs:List V} {M:List Rm} {i:Nat} {r:Rm},cb' H vs M->M[i]?=some r->∃p,vs[i]?=some (.ref p)/\H p=some (.tup [oV r.1,oV r.2])
 | [],[],i,r,_,e=>by cases e
 |v :: vs,r :: rs,0,r',h,e=>by
  cases e
  obtain⟨p,rfl,hp⟩:=h.1
  exact⟨p,rfl,hp⟩
 |v :: vs,r :: rs,i+1,r',h,e=>cb'.get (i:=i) h.2 (by simpa using e)
 | [],_ :: _,_,_,h,_=>h.elim
 |_ :: _,[],_,_,h,_=>h.elim
def IsM (H:Hp) (a:Addr) (M:List Rm):Prop:=∃vs,H a=some (.tup vs)/\cb' H vs M
theorem IsM.mono {H H':Hp} {a:Addr} {M:List Rm} (t:Tp H H') (h:IsM H a M):IsM H' a M:=by
 obtain⟨vs,h1,h2⟩:=h
 exact⟨vs,t _ _ h1,h2.mono t⟩
def OkR (N:Nat) (r:Rm):Prop:=(∀n,r.1=some n->n<N)/\∀n,r.2=some n->n<N
def OkM (M:List Rm):Prop:=∀r∈M,OkR M.length r
def nV (n:Nat):V:=.int n
end LW
namespace LW
open PySem PySem.Spec PyProof.Rows L2 R3
def dM':Css:=(.cons (.asg (.name 3) (.var 1))
  (.cons (.for_ (.name 4) (.val (.var 2)) (.cons (.ite (.cmp .Is (.var 3) .non) (.cons (.ret .non)
  .nil) .nil)
  (.cons (.asg (.name 3) (.idx (.idx (.var 0) (.var 3)) (.blt .int (.cons (.var 4) .nil))))
  .nil)))
  (.cons (.ret (.var 3))
  .nil)))
def cr':Css:=(.cons (.ret (.comp (.var 2) [2] (.name 2) (.range1 (.blt .len (.cons (.var 0) .nil))) (.some (.cmp .IsNot (.call "walk" (.cons (.var 0) (.cons (.var 2) (.cons (.var 1) .nil)))) .non)) .nil))
  .nil)
def stp (M:List Rm) (r:Nat) (c:Bool):Option Nat:=match M[r]? with
 |some rm=>if c then rm.2 else rm.1
 |none=>none
def wk (M:List Rm) (o:Option Nat) (row:List Bool):Option Nat:=row.foldl (fun o c=>o.bind fun r=>stp M r c) o
theorem iq' {M:List Rm} {row:List Bool}:wk M none row=none:=by
 induction row with
 |nil=>rfl
 |cons c row ih=>exact ih
theorem jf' {M:List Rm} {o:Option Nat} {a b:List Bool}:wk M o (a++b)=wk M (wk M o a) b:=by unfold wk;rw[List.foldl_append]
theorem ir' {M:List Rm} {o:Option Nat} {row:List Bool} {i:Nat} {c:Bool} (h:row[i]?=some c):wk M o (row.take (i+1))=(wk M o (row.take i)).bind fun r=>stp M r c:=by
 rw[bj,h]
 show wk M o (row.take i++[c])=_
 rw[jf']
 rfl
theorem xb' {M:List Rm} {o:Option Nat} {row:List Bool} {i:Nat} (h:wk M o (row.take i)=none):wk M o row=none:=by
 rw[<- bv i row,jf',h,iq']
theorem xc' {M:List Rm} (hM:OkM M) {r:Nat} {c:Bool} {n:Nat} (h:stp M r c=some n):n<M.length:=by
 unfold stp at h
 cases e:M[r]? with
 |none=>rw[e]at h;cases h
 |some rm=>
  rw[e]at h
  have:=hM rm (aq e)
  cases c
  .exact this.1 n h
  .exact this.2 n h
theorem xd' {M:List Rm} (hM:OkM M):∀{row:List Bool} {o:Option Nat} {n:Nat},(∀m,o=some m->m<M.length)->wk M o row=some n->n<M.length
 | [],o,n,ho,h=>ho n h
 |c :: row,o,n,ho,h=>xd' hM (row:=row) (o:=o.bind fun r=>stp M r c) (fun m hm=>by
   cases o with
   |none=>cases hm
   |some r=>exact xc' hM hm) h
theorem sO' {C:Rc} {H:Hp} {a:Addr} {M:List Rm} {r:Nat} {c:Bool} {Q:VK} (hM:IsM H a M) (hr:r<M.length) (q:∀p,(∀Q':VK,Q' (oV (stp M r c)) H->hv' C.K (.ref p) (.int (if c then 1 else 0)) H Q'\/hH' C.K (.ref p) (.int (if c then 1 else 0)) H Q')->Q (.ref p) H):hv' C.K (.ref a) (.int r) H Q\/hH' C.K (.ref a) (.int r) H Q:=by
 obtain⟨vs,ha,hv⟩:=hM
 obtain⟨p,hp,hpt⟩:=hv.get (ae hr)
 refine aC' (SqT.of ha) (v:=.ref p) (do' hp) (q p fun Q' q'=>?_)
 refine mi' (SqT.of hpt) ?_
 have e:stp M r c=if c then M[r].2 else M[r].1:=by unfold stp;rw[ae hr]
 rw[e]at q'
 cases c<;>exact q'
def gX':Sp:=fun vs H Q _=>∃(a:Addr) (M:List Rm) (r:Nat) (row:List Bool),vs=[.ref a,.int r,.str (tx row)]/\IsM H a M/\OkM M/\r<M.length/\Q (oV (wk M (some r) row)) H
theorem my' {C:Rc} (hN:C.N.length=5):∀vs H Q E,gX' vs H Q E->tSs C dM' { nx:=fun _ H'=>Q .non H',rt:=Q } (L2.aQ' C.N vs) H:=by
 intro vs H Q E h
 obtain⟨a,M,r,row,rfl,hM,hO,hr,q⟩:=h
 rw[ap' hN]
 unfold dM'
 walk_at "sy"
 refine et' (wF' (fun i σ H'=>H'=H/\∃x,σ=[some (.ref a),some (.int r),some (.str (tx row)),some (oV (wk M (some r) (row.take i))),x]) ⟨rfl,none,rfl⟩ ?_ ?_)
 .rintro i c σ H' hc ⟨rfl,x,rfl⟩
  walk_at "sy"
  cases e:wk M (some r) (row.take i)with
  |none=>
   simp only[oV]
   walk_at "sy"
   rw[xb' e]at q
   exact q
  |some m=>
   have hm:=xd' hO (fun k hk=>by cases hk;exact hr) e
   simp only[oV]
   walk_at "sy"
   refine sO' (c:=c) hM hm fun p hp=>?_
   walk_at "sy"
   refine hp _ ?_
   walk_at "sy"
   refine⟨trivial,some (.str (tx [c])),?_⟩
   rw[ir' hc,e]
   rfl
 .rintro σ H' ⟨rfl,x,rfl⟩
  rw[bn]
  walk_at "sy"
  exact q
def stL (M:List Rm) (row:List Bool) (n:Nat):List Nat:=(aG n).filter fun r=>(wk M (some r) row).isSome
theorem jg' {M:List Rm} {row:List Bool} {n:Nat}:stL M row (n+1)=stL M row n++(if(wk M (some n) row).isSome then[n]else[]):=by
 unfold stL
 rw[List.range_succ,List.filter_append]
 congr 1
 simp[cI]
theorem sP' {M:List Rm} {row:List Bool} {n:Nat}:(stL M row n).length<=n:=aF (bH _ _) (by simp)
def c9':Sp:=fun vs H Q _=>∃(a:Addr) (M:List Rm) (row:List Bool),vs=[.ref a,.str (tx row)]/\IsM H a M/\OkM M/\M.length<=100/\∀p,H p=none->Q (.ref p) (upd H p (.lst ((stL M row M.length).map nV)))
theorem iu' {C:Rc} (hN:C.N.length=3) (hW:C.fs "walk"=some gX'):∀vs H Q E,c9' vs H Q E->tSs C cr' { nx:=fun _ H'=>Q .non H',rt:=Q } (L2.aQ' C.N vs) H:=by
 intro vs H Q E h
 obtain⟨a,M,row,rfl,hM,hO,hr,q⟩:=h
 rw[ap' hN]
 unfold cr'
 obtain⟨rv,ha,hrv⟩:=id hM
 walk_at "sy"
 refine il' (SqT.of ha) ?_
 rw[hrv.len]
 refine ma' ⋯ ⋯ (p9' (fun i xs H'=>xs=(stL M row i).map nV/\H'=H) ⟨rfl,rfl⟩ ?_ ?_)
 .rintro i xs H' R hi ⟨rfl,rfl⟩ hR
  rw[show(0:Int)+(i:Int)=(i:Int) by omega]
  walk_at "sy"
  refine ag' hW ?_
  walk_at "sy"
  refine⟨a,M,i,row,rfl,hM,hO,⋯,?_⟩
  cases e:wk M (some i) row with
  |none=>
   simp only[oV]
   walk_at "sy"
   exact hR _ _ ⟨by rw[jg',e];simp,rfl⟩
  |some m=>
   simp only[oV]
   walk_at "sy"
   exact⟨by rw[ac];exact an' (aF sP' ⋯),hR _ _ ⟨by rw[jg',e];simp[nV],rfl⟩⟩
 .rintro xs H' ⟨rfl,rfl⟩ p hp
  exact q p hp
end LW
namespace LW
open PySem PySem.Spec PyProof.Rows L2 R3
def ow (f:Nat->Nat):Option Nat->Nat
 |none=>0
 |some m=>f m
end LW
namespace TM
open PySem PySem.Spec PyProof.Rows L2 R3 LW
def b1':Css:=(.cons (.asg (.name 2) (.blt .set (.cons (.var 1) .nil)))
  (.cons (.setc2 3 (.var 5) [4,5] (.name 4) (.val (.var 1)) .none [5] (.name 5) (.val (.idx (.var 0) (.var 4))) .none)
  (.cons (.ret (.comp (.var 4) [4] (.name 4) (.val (.var 1)) (.some (.and (.din false (.var 4) (.var 3)) (.or (.din false (.idx (.idx (.var 0) (.var 4)) (.int 0)) (.var 2)) (.din false (.idx (.idx (.var 0) (.var 4)) (.int 1)) (.var 2))))) .nil))
  .nil)))
def b2':Css:=(.cons (.dctc false 2 (.var 4) (.var 3) [3,4] (.tup (.cons (.name 3) (.cons (.name 4) .nil))) (.enum (.var 1)) .none)
  (.cons (.ret (.blt .tuple (.cons (.comp (.tup (.cons (.dgt (.var 2) (.idx (.idx (.var 0) (.var 4)) (.int 0))) (.cons (.dgt (.var 2) (.idx (.idx (.var 0) (.var 4)) (.int 1))) .nil))) [4] (.name 4) (.val (.var 1)) .none .nil) .nil)))
  .nil))
def b3':Css:=(.cons (.asg (.name 1) (.blt .list (.cons (.blt .range (.cons (.blt .len (.cons (.var 0) .nil)) .nil)) .nil)))
  (.cons (.asg (.name 2) (.call "lasting" (.cons (.var 0) (.cons (.var 1) .nil))))
  (.cons (.whl (.cmp .Lt (.blt .len (.cons (.var 2) .nil)) (.blt .len (.cons (.var 1) .nil))) (.cons (.asg (.name 1) (.var 2))
  (.cons (.asg (.name 2) (.call "lasting" (.cons (.var 0) (.cons (.var 1) .nil))))
  .nil)))
  (.cons (.ret (.tup (.cons (.call "part_of" (.cons (.var 0) (.cons (.var 1) .nil))) (.cons (.var 1) .nil))))
  .nil))))
def oI (o:Option Nat):Option Int:=o.map Int.ofNat
theorem o3' {o:Option Nat}:oV o=kO (oI o):=by cases o<;>rfl
theorem qh' {a b:Option Nat} (h:oI a=oI b):a=b:=by
 cases a<;>cases b<;>simp[oI]at h ⊢
 omega
def fs1 (M:List Rm) (r:Nat):Option Nat:=(M[r]?.getD (none,none)).1
def fs2 (M:List Rm) (r:Nat):Option Nat:=(M[r]?.getD (none,none)).2
theorem dw' {C:Rc} {H:Hp} {a:Addr} {M:List Rm} {r:Nat} {Q:VK} (hM:IsM H a M) (hr:r<M.length) (q:∀p,H p=some (.tup [oV (fs1 M r),oV (fs2 M r)])->Q (.ref p) H):hv' C.K (.ref a) (.int r) H Q\/hH' C.K (.ref a) (.int r) H Q:=by
 obtain⟨vs,ha,hv⟩:=hM
 obtain⟨p,hp,hpt⟩:=hv.get (ae hr)
 refine aC' (SqT.of ha) (v:=.ref p) (do' hp) (q p ?_)
 unfold fs1 fs2
 rw[ae hr]
 exact hpt
theorem Am' {M:List Rm} (hO:OkM M) {r n:Nat}:(fs1 M r=some n->n<M.length)/\(fs2 M r=some n->n<M.length):=by
 unfold fs1 fs2
 cases e:M[r]? with
 |none=>exact⟨fun h=>(nomatch h),fun h=>(nomatch h)⟩
 |some m=>
  have:=hO m (aq e)
  exact⟨this.1 n,this.2 n⟩
def ldS (M:List Rm) (rs:List Nat):Option Int->Bool:=fun k=>rs.any fun r=>decide (k=oI (fs1 M r)) || decide (k=oI (fs2 M r))
theorem o4' {M:List Rm} {rs:List Nat} {r:Nat}:ldS M (rs++[r])=fun k=>(ldS M rs k || decide (k=oI (fs1 M r))) || decide (k=oI (fs2 M r)):=by
 funext k
 unfold ldS
 rw[List.any_append]
 simp[Bool.or_assoc]
def inR (rs:List Nat) (o:Option Nat):Bool:=match o with
 |some n=>rs.contains n
 |none=>false
theorem qi' {rs:List Nat} {o:Option Nat}:inL (rs.map Int.ofNat) (oI o)=inR rs o:=by
 cases o with
 |none=>rfl
 |some n=>
  show(rs.map Int.ofNat).contains (Int.ofNat n)=rs.contains n
  induction rs with
  |nil=>rfl
  |cons a rs ih=>
   rw[aS,List.contains_cons,List.contains_cons,ih]
   congr 1
   by_cases h:n=a
   .subst h;simp
   .rw[beq_eq_false_iff_ne.mpr h,beq_eq_false_iff_ne.mpr (fun z=>h (Int.ofNat.inj z))]
def da' (M:List Rm) (rs:List Nat) (r:Nat):Bool:=ldS M rs (some (r:Int))&&(inR rs (fs1 M r) || inR rs (fs2 M r))
def lst (M:List Rm) (rs:List Nat):List Nat:=rs.filter (da' M rs)
theorem sQ' {rs:List Nat}:(rs.map Int.ofNat).map V.int=rs.map nV:=by rw[aX];rfl
def gY':Sp:=fun vs H Q _=>∃(a l:Addr) (M:List Rm) (rs:List Nat),vs=[.ref a,.ref l]/\IsM H a M/\H l=some (.lst (rs.map nV))/\(∀r∈rs,r<M.length)/\rs.length<=500/\∀(p:Addr) (H':Hp),H p=none->av' H H'->H' p=some (.lst ((lst M rs).map nV))->Q (.ref p) H'
theorem mz' {C:Rc} (hN:C.N.length=6):∀vs H Q E,gY' vs H Q E->tSs C b1' { nx:=fun _ H'=>Q .non H',rt:=Q } (L2.aQ' C.N vs) H:=by
 intro vs H Q E h
 obtain⟨a,l,M,rs,rfl,hM,hl,hrs,hlen,q⟩:=h
 rw[ap' hN]
 unfold b1'
 symm
 refine wX' (ns:=rs.map Int.ofNat) (SqL.of (by rw[sQ'];exact hl)) (by rw[ac];omega) fun p hp=>?_
 have s1:=ah' hp (eP' p (inL (rs.map Int.ofNat)) (rs.map Int.ofNat).length)
 have hp1:upd H p (eP' p (inL (rs.map Int.ofNat)) (rs.map Int.ofNat).length) p=some (eP' p (inL (rs.map Int.ofNat)) (rs.map Int.ofNat).length):=ab'
 generalize upd H p (eP' p (inL (rs.map Int.ofNat)) (rs.map Int.ofNat).length)=H1 at s1 hp1 ⊢
 have hl1:=s1 _ _ hl
 have hM1:=hM.mono (af' s1)
 symm
 refine aV' (SqL.of hl1) (Ae' (vs:=rs.map nV) (fun i b H'=>b.1=ldS M (rs.take i)/\b.2=2*i/\H'=H1) ⟨rfl,rfl,rfl⟩ (fun i b H' pv=>SqL.of (by rw[pv.2.2];exact hl1)) ?_ ?_)
 .rintro i ⟨S,n⟩ H' x R hx ⟨hS,hn,hH⟩ hR
  subst hH
  rw[ao]at hx
  cases er:rs[i]? with
  |none=>rw[er]at hx;cases hx
  |some r=>
  rw[er]at hx
  cases hx
  have hi:=al' er
  have hrM:=hrs r (aq er)
  dsimp only at hS hn
  subst hS hn
  simp only[nV]
  symm
  refine dw' hM1 hrM fun pr hpr=>?_
  symm
  refine cj' (SqT.of hpr) (A6' (vs:=[oV (fs1 M r),oV (fs2 M r)]) (fun j b H''=>b.1=(fun k=>(if j=0 then ldS M (rs.take i) k else if j=1 then(ldS M (rs.take i) k || decide (k=oI (fs1 M r)))else(ldS M (rs.take i) k || decide (k=oI (fs1 M r))) || decide (k=oI (fs2 M r))))/\b.2=2*i+j/\H''=H') ⟨rfl,rfl,rfl⟩ (fun j b H' pv=>SqT.of (by rw[pv.2.2];exact hpr)) ?_ ?_)
  .rintro j ⟨S,n⟩ H' x R2 hx ⟨hS,hn,rfl⟩ hR2
   dsimp only at hS hn
   subst hS hn
   have hj:j=0\/j=1:=by
    have:=al' hx
    simp only[bb,cR]at this
    omega
   rcases hj with rfl|rfl
   .simp only[List.getElem?_cons_zero,Option.some.injEq]at hx
    subst hx
    symm
    refine⟨oI (fs1 M r),o3',⋯,hR2 _ _ ⟨?_,rfl,rfl⟩⟩
    funext k
    simp
   .simp only[List.getElem?_cons_succ,List.getElem?_cons_zero,Option.some.injEq]at hx
    subst hx
    symm
    refine⟨oI (fs2 M r),o3',⋯,hR2 _ _ ⟨?_,rfl,rfl⟩⟩
    funext k
    simp
  .rintro⟨S,n⟩ H' ⟨hS,hn,rfl⟩
   dsimp only at hS hn
   subst hS hn
   refine hR _ _ ⟨?_,by simp;omega,rfl⟩
   rw[show rs.take (i+1)=rs.take i++[r] by rw[bj,er];rfl,o4']
   rfl
 .rintro⟨S,n⟩ H' ⟨hS,hn,rfl⟩
  dsimp only at hS hn
  rw[ac,bn]at hS
  subst hS
  refine⟨trivial,fun p2 hp2=>?_⟩
  dsimp only
  have s2:=ah' hp2 (eP' p2 (ldS M rs) n)
  have hp22:upd H' p2 (eP' p2 (ldS M rs) n) p2=some (eP' p2 (ldS M rs) n):=ab'
  generalize upd H' p2 (eP' p2 (ldS M rs) n)=H2 at s2 hp22 ⊢
  have hl2:=s2 _ _ hl1
  have hp12:=s2 _ _ hp1
  have hM2:=hM1.mono (af' s2)
  symm
  refine aV' (SqL.of hl2) (ev' (vs:=rs.map nV) (fun i xs H'=>xs=((rs.take i).filter (da' M rs)).map nV/\H'=H2) ⟨rfl,rfl⟩ (fun i xs H' pv=>SqL.of (by rw[pv.2];exact hl2)) ?_ ?_)
  .rintro i xs H' x R hx ⟨rfl,rfl⟩ hR
   rw[ao]at hx
   cases er:rs[i]? with
   |none=>rw[er]at hx;cases hx
   |some r=>
   rw[er]at hx
   cases hx
   have hi:=al' er
   have hrM:=hrs r (aq er)
   have et:(rs.take (i+1)).filter (da' M rs)=(rs.take i).filter (da' M rs)++[r].filter (da' M rs):=by rw[bj,er,List.filter_append];rfl
   have hfl:((rs.take i).filter (da' M rs)).length<=500:=aF (bH ..) (by rw[aJ];omega)
   have yes:da' M rs r=true->R (((rs.take i).filter (da' M rs)).map nV++[nV r]) H':=fun h=>hR _ _ ⟨by rw[et,cI,if_pos h,aM];rfl,rfl⟩
   have no:da' M rs r=false->R (((rs.take i).filter (da' M rs)).map nV) H':=fun h=>hR _ _ ⟨by rw[et,cI,if_neg (by rw[h];decide)];simp,rfl⟩
   have e1:=qi' (rs:=rs) (o:=fs1 M r)
   have e2:=qi' (rs:=rs) (o:=fs2 M r)
   unfold da' at yes no
   simp only[nV]at yes ⊢
   symm
   refine mp' (k:=some (r:Int)) rfl hp22 ?_
   simp only[aZ,if_false]
   cases hld:ldS M rs (some (r:Int))with
   |false=>
    rw[hld]at no
    symm
    exact no rfl
   |true=>
    rw[hld]at yes no
    symm
    refine dw' hM2 hrM fun pr hpr=>?_
    symm
    refine aC' (SqT.of hpr) (v:=oV (fs1 M r)) rfl ?_
    symm
    refine mp' o3' hp12 ?_
    simp only[aZ,if_false]
    rw[e1]
    cases h1:inR rs (fs1 M r)with
    |true=>
     rw[h1]at yes
     symm
     exact⟨by rw[ac];exact an' ⋯,yes rfl⟩
    |false=>
     rw[h1]at yes no
     symm
     refine dw' hM2 hrM fun pr hpr=>?_
     symm
     refine aC' (SqT.of hpr) (v:=oV (fs2 M r)) rfl ?_
     symm
     refine mp' o3' hp12 ?_
     simp only[aZ,if_false]
     rw[e2]
     cases h2:inR rs (fs2 M r)with
     |true=>
      rw[h2]at yes
      symm
      exact⟨by rw[ac];exact an' ⋯,yes rfl⟩
     |false=>
      rw[h2]at no
      symm
      exact no rfl
  .rintro xs H' ⟨rfl,rfl⟩ p3 hp3
   rw[ac,bn]
   have hfin:upd H' p3 (.lst ((rs.filter (da' M rs)).map nV)) p3=some (.lst ((lst M rs).map nV)):=ab'
   exact q p3 _ ((s1.trans s2).free hp3) (s1.trans (s2.trans (ah' hp3 _))) hfin
theorem j2' {i:Nat} (h:i<=1000):hashInt (i:Int)=i:=by
 unfold hashInt rawHash
 have e:(((i:Int).natAbs:Nat):Int) % ((2 ^ 61-1:Nat):Int)=i:=by
  rw[Int.natAbs_natCast]
  exact Int.emod_eq_of_lt ⋯ (Int.ofNat_lt.mpr (show i<2 ^ 61-1 by omega))
 dsimp only
 rw[e]
 have h1:¬((i:Int)<0):=by omega
 have h2:((i:Int) == -1)=false:=by rw[beq_eq_false_iff_ne];omega
 simp only[h1,if_false,h2,aZ]
def TbK (n m:Nat) (kvs:List (Key×V)):Prop:=∀kv∈kvs,∃r j:Nat,kv=(.inl (r:Int),.int j)/\r<n/\j<m
theorem TbK.non {H:Hp} {p:Addr} {n m:Nat} {kvs:List (Key×V)} (h:TbK n m kvs) (hn:n<=1000) (hp:H p=some (.dK kvs)):NoN H p:=.inl ⟨kvs,hp,fun kv hkv=>by
 obtain⟨r,j,rfl,hr,_⟩:=h kv hkv
 exact⟨r,rfl,by rw[j2' ⋯];show(r:Int)≠0xFCA86420;omega⟩⟩
theorem xe' {M:List Rm} {rs:List Nat}:(lst M rs).length<=rs.length:=bH ..
theorem mA' {M:List Rm} {rs:List Nat} {r:Nat} (h:r∈lst M rs):r∈rs:=(aY.mp h).1
theorem mB' {n:Nat}:rgs 0 n=(aG n).map nV:=by
 unfold rgs
 apply cm
 intro k _
 show V.int (0+(k:Int))=V.int k
 rw[Int.zero_add]
end TM
namespace BD
open PySem PySem.Spec PyProof.Rows L2 R3 LW TM
def aL':Css:=(.cons (.asg (.tup (.cons (.name 1) (.cons (.name 2) (.cons (.name 3) (.cons (.name 4) (.cons (.name 5) .nil)))))) (.var 0))
  (.cons (.asg (.name 6) (.ife (.cmp .Is (.var 5) .non) (.lst (.cons (.int 0) .nil)) (.blt .list (.cons (.blt .range (.cons (.bin .Add (.var 5) (.int 1)) .nil)) .nil))))
  (.cons (.ret (.comp (.tup (.cons (.var 7) (.cons (.var 9) (.cons (.var 10) .nil)))) [7,8,9,10] (.tup (.cons (.name 7) (.cons (.name 8) .nil))) (.val (.tup (.cons (.tup (.cons (.int 0) (.cons (.var 2) .nil))) (.cons (.tup (.cons (.int 1) (.cons (.var 4) .nil))) .nil)))) .none (.cons [9,10] (.name 9) (.range2 (.int 1) (.bin .Add (.var 8) (.int 1))) .none (.cons [10] (.name 10) (.val (.var 6)) .none .nil))))
  .nil)))
def bh':Css:=(.cons (.asg (.tup (.cons (.name 3) (.cons (.name 4) (.cons (.name 5) (.cons (.name 6) (.cons (.name 7) .nil)))))) (.var 0))
  (.cons (.asg (.tup (.cons (.name 8) (.cons (.name 9) (.cons (.name 10) .nil)))) (.var 1))
  (.cons (.ite (.cmp .IsNot (.var 7) .non) (.cons (.aug 10 false (.ife (.cmp .Eq (.var 2) (.int 1)) (.int 1) (.neg (.int 1))))
  .nil) .nil)
  (.cons (.ite (.cmp .Eq (.var 2) (.var 8)) (.cons (.ret (.tup (.cons (.var 2) (.cons (.bin .Add (.var 9) (.int 1)) (.cons (.var 10) .nil)))))
  .nil) .nil)
  (.cons (.ite (.cmp .Lt (.var 9) (.ife (.cmp .Eq (.var 8) (.int 1)) (.var 5) (.var 3))) (.cons (.ret .non)
  .nil) .nil)
  (.cons (.ret (.tup (.cons (.var 2) (.cons (.int 1) (.cons (.var 10) .nil)))))
  .nil))))))
def aD':Css:=(.cons (.dctc true 2 (.var 4) (.var 3) [3,4] (.tup (.cons (.name 3) (.cons (.name 4) .nil))) (.enum (.var 1)) .none)
  (.cons (.ret (.blt .tuple (.cons (.comp (.tup (.cons (.dgt (.var 2) (.call "room_behind" (.cons (.var 0) (.cons (.var 4) (.cons (.int 0) .nil))))) (.cons (.dgt (.var 2) (.call "room_behind" (.cons (.var 0) (.cons (.var 4) (.cons (.int 1) .nil))))) .nil))) [4] (.name 4) (.val (.var 1)) .none .nil) .nil)))
  .nil))
def bo':Css:=(.cons (.asg (.tup (.cons (.name 1) (.cons (.name 2) .nil))) (.call "trimmed" (.cons (.call "machine_in_bounds" (.cons (.var 0) (.cons (.call "rooms_in_bounds" (.cons (.var 0) .nil)) .nil))) .nil)))
  (.cons (.ret (.var 1))
  .nil))
structure IsB (H:Hp) (p:Addr) (l0 h0 l1 h1:Nat) (sp:Option Nat):Prop where
 at':H p=some (.tup [nV l0,nV h0,nV l1,nV h1,oV sp])
 b0:h0<=8
 b1:h1<=8
 bs:∀s,sp=some s->s<=16
theorem IsB.mono {H H':Hp} {p:Addr} {l0 h0 l1 h1:Nat} {sp:Option Nat} (h:IsB H p l0 h0 l1 h1 sp) (t:Tp H H'):IsB H' p l0 h0 l1 h1 sp:=⟨t _ _ h.at',h.b0,h.b1,h.bs⟩
theorem qj' {C:Rc} {H:Hp} {σ:L2.St} {i j k m n:Nat} {a:Addr} {x y z u v:V} {R:L2.St->Hp->Prop} (h:SqT C.K H a [x,y,z,u,v]) (q:R (((((σ.set i (some x)).set j (some y)).set k (some z)).set m (some u)).set n (some v)) H):tG C (.tup (.cons (.name i) (.cons (.name j) (.cons (.name k) (.cons (.name m) (.cons (.name n) .nil)))))) (.ref a) σ H R:=
 ⟨a,[x,y,z,u,v],rfl,.inl h,rfl,_,_,rfl,_,_,rfl,_,_,rfl,_,_,rfl,_,_,rfl,rfl,q⟩
abbrev K3:=Nat×Nat×Nat
def fj' (H:Hp) (v:V) (k:K3):Prop:=∃p,v=.ref p/\H p=some (.tup [nV k.1,nV k.2.1,nV k.2.2])
theorem fj'.mono {H H':Hp} (s:av' H H') {v:V} {k:K3} (h:fj' H v k):fj' H' v k:=by
 obtain⟨p,e,hp⟩:=h
 exact⟨p,e,s _ _ hp⟩
def r1 (lv:List Nat) (b pl:Nat):List K3:=lv.map fun l=>(b,pl,l)
def r2 (lv:List Nat) (b:Nat) (h:Nat):List K3:=(aG h).flatMap fun j=>r1 lv b (j+1)
def rk (lv:List Nat) (h0 h1:Nat):List K3:=r2 lv 0 h0++r2 lv 1 h1
def lvs:Option Nat->List Nat
 |none=>[0]
 |some s=>aG (s+1)
theorem ey' {lv:List Nat} {b h:Nat}:r2 lv b (h+1)=r2 lv b h++r1 lv b (h+1):=by
 unfold r2
 rw[List.range_succ,List.flatMap_append]
 simp
theorem db' {lv:List Nat} {b:Nat}:∀{h},(r2 lv b h).length=h*lv.length
 |0=>by rw[Nat.zero_mul];rfl
 |h+1=>by rw[ey',ax,db',Nat.add_mul,Nat.one_mul];unfold r1;rw[ac]
theorem bJ' {lv:List Nat} {b h:Nat} {k:K3}:k∈r2 lv b h->k.1=b/\1<=k.2.1/\k.2.1<=h/\k.2.2∈lv:=by
 unfold r2 r1
 intro hk
 obtain⟨j,hj,hk⟩:=dv.mp hk
 obtain⟨l,hl,rfl⟩:=az.mp hk
 have:=aK.mp hj
 exact⟨rfl,by show 1<=j+1;omega,by show j+1<=h;omega,hl⟩
theorem jh' {α β:Type} {f:α->β} (hf:∀x y,f x=f y->x=y):∀{l:List α},l.Nodup->(l.map f).Nodup
 | [],_=>cL
 |a :: l,h=>by
  rw[bx]at h
  rw[aS,bx]
  refine⟨fun z=>?_,jh' hf h.2⟩
  obtain⟨x,hx,e⟩:=az.mp z
  rw[hf _ _ e]at hx
  exact h.1 hx
theorem sR' {lv:List Nat} (hl:lv.Nodup) {b:Nat}:∀{h},(r2 lv b h).Nodup
 |0=>cL
 |h+1=>by
  rw[ey',di]
  refine⟨sR' hl,jh' (fun x y e=>by injection e with _ e;injection e) hl,fun x hx y hy e=>?_⟩
  subst e
  have h1:=(bJ' hx).2.2.1
  unfold r1 at hy
  obtain⟨l,_,rfl⟩:=az.mp hy
  have:h+1<=h:=h1
  omega
theorem j3' {lv:List Nat} (hl:lv.Nodup) {h0 h1:Nat}:(rk lv h0 h1).Nodup:=by
 unfold rk
 rw[di]
 refine⟨sR' hl,sR' hl,fun x hx y hy e=>?_⟩
 subst e
 have a:=(bJ' hx).1
 have b:=(bJ' hy).1
 omega
theorem fk' {sp:Option Nat}:(lvs sp).Nodup:=by
 cases sp with
 |none=>exact bx.mpr ⟨aB,cL⟩
 |some s=>exact List.nodup_range
theorem mC' {sp:Option Nat} (h:∀s,sp=some s->s<=16):(lvs sp).length<=17/\∀l∈lvs sp,l<=16:=by
 cases sp with
 |none=>exact⟨by decide,fun l hl=>by have:l=0:=(by simpa[lvs]using hl);omega⟩
 |some s=>
  have:=h s rfl
  refine⟨by show(aG (s+1)).length<=17;rw[bf];omega,fun l hl=>?_⟩
  have:=aK.mp (show l∈aG (s+1) from hl)
  omega
theorem fS' {sp:Option Nat} {h0 h1:Nat} (hs:∀s,sp=some s->s<=16) (a0:h0<=8) (a1:h1<=8):(rk (lvs sp) h0 h1).length<=272/\∀k∈rk (lvs sp) h0 h1,k.1<2/\k.2.1<9/\k.2.2<17:=by
 obtain⟨h,hm⟩:=mC' hs
 constructor
 .unfold rk
  rw[ax,db',db']
  have e0:h0*(lvs sp).length<=8*17:=dr a0 h
  have e1:h1*(lvs sp).length<=8*17:=dr a1 h
  omega
 .intro k hk
  unfold rk at hk
  rcases aL.mp hk with hk|hk
  .obtain⟨e,_,e2,e3⟩:=bJ' hk
   have:=hm _ e3
   omega
  .obtain⟨e,_,e2,e3⟩:=bJ' hk
   have:=hm _ e3
   omega
def mD':Sp:=fun vs H Q _=>∃(bd:Addr) (l0 h0 l1 h1:Nat) (sp:Option Nat),vs=[.ref bd]/\IsB H bd l0 h0 l1 h1 sp/\∀(p:Addr) (xs:List V) (H':Hp),av' H H'->H' p=some (.lst xs)->bV' (fj' H') xs (rk (lvs sp) h0 h1)->Q (.ref p) H'
theorem dc' {H H':Hp} (s:av' H H') {xs:List V} {ks:List K3} (h:bV' (fj' H) xs ks):bV' (fj' H') xs ks:=h.mono fun _ _ z=>z.mono s
theorem o5' {C:Rc} (hN:C.N.length=11):∀vs H Q E,mD' vs H Q E->tSs C aL' { nx:=fun _ H'=>Q .non H',rt:=Q } (L2.aQ' C.N vs) H:=by
 intro vs H Q E h
 obtain⟨bd,l0,h0,l1,h1,sp,rfl,hB,q⟩:=h
 rw[ap' hN]
 unfold aL'
 symm
 rw[gU']
 symm
 refine qj' (C:=C) (SqT.of hB.at') ?_
 simp only[ja',List.set_cons_zero,List.set_cons_succ]
 obtain⟨hlv,hlm⟩:=mC' hB.bs
 refine sm' fun K hK=>?_
 have as':∀(pl:Addr) (H1:Hp),av' H H1->H1 pl=some (.lst ((lvs sp).map nV))->K (.ref pl) H1:=by
  intro pl H1 s1 hpl
  refine hK _ _ ?_
  symm
  refine⟨by show 2<=sizeLine;decide,fun q0 hq0=>?_⟩
  have t0:=ah' hq0 (.tup [.int 0,nV h0])
  have e0:upd H1 q0 (.tup [.int 0,nV h0]) q0=some (.tup [.int 0,nV h0]):=ab'
  generalize upd H1 q0 (.tup [.int 0,nV h0])=H2 at t0 e0 ⊢
  symm
  refine⟨by show 2<=sizeLine;decide,fun q1 hq1=>?_⟩
  have t1:=ah' hq1 (.tup [.int 1,nV h1])
  have e1:upd H2 q1 (.tup [.int 1,nV h1]) q1=some (.tup [.int 1,nV h1]):=ab'
  generalize upd H2 q1 (.tup [.int 1,nV h1])=H3 at t1 e1 ⊢
  symm
  refine⟨by show 2<=sizeLine;decide,fun q2 hq2=>?_⟩
  have t2:=ah' hq2 (.tup [.ref q0,.ref q1])
  have e2:upd H3 q2 (.tup [.ref q0,.ref q1]) q2=some (.tup [.ref q0,.ref q1]):=ab'
  generalize upd H3 q2 (.tup [.ref q0,.ref q1])=H4 at t2 e2 ⊢
  have s4:av' H1 H4:=t0.trans (t1.trans t2)
  have e04:=t2 _ _ (t1 _ _ e0)
  have e14:=t2 _ _ e1
  have hpl4:=s4 _ _ hpl
  have hrk:=(fS' hB.bs hB.b0 hB.b1 (h0:=h0) (h1:=h1)).1
  refine cj' (SqT.of e2) (A6' (vs:=[.ref q0,.ref q1]) (fun i xs H'=>av' H4 H'/\bV' (fj' H') xs (if i=0 then[]else if i=1 then r2 (lvs sp) 0 h0 else rk (lvs sp) h0 h1)) ⟨av'.refl _,trivial⟩ (fun i xs H' pv=>SqT.of (pv.1 _ _ e2)) ?_ ?_)
  .rintro i xs H5 x R hx ⟨s5,hA⟩ hR
   have hi2:i=0\/i=1:=by
    have:=al' hx
    simp only[bb,cR]at this
    omega
   obtain⟨qq,b,hh,rfl,hqq,hh8,pre,hpre,hpost,hb⟩:∃(qq:Addr) (b hh:Nat),x=.ref qq/\H5 qq=some (.tup [.int b,nV hh])/\hh<=8/\∃pre,bV' (fj' H5) xs pre/\(∀ys H6,av' H4 H6->bV' (fj' H6) ys (pre++r2 (lvs sp) b hh)->R ys H6)/\(pre++r2 (lvs sp) b hh).length<=272:=by
    rcases hi2 with rfl|rfl
    .cases hx
     refine⟨q0,0,h0,rfl,s5 _ _ e04,hB.b0,[],hA,fun ys H6 s6 h6=>hR _ _ ⟨s6,h6⟩,?_⟩
     rw[cQ]
     unfold rk at hrk
     rw[ax]at hrk
     omega
    .cases hx
     exact⟨q1,1,h1,rfl,s5 _ _ e14,hB.b1,r2 (lvs sp) 0 h0,hA,fun ys H6 s6 h6=>hR _ _ ⟨s6,h6⟩,hrk⟩
   refine gS' (C:=C) (SqT.of hqq) ?_
   simp only[nV]
   symm
   rw[ax,db']at hb
   have hap:=hpre.len
   refine wD' ⋯ ⋯ ⋯ ⋯ (BS' (n:=((hh:Int)+1-1).toNat) (fun j ys H6=>av' H4 H6/\bV' (fj' H6) ys (pre++r2 (lvs sp) b j)) ⟨s5,by simpa[r2]using hpre⟩ ?_ ?_)
   .rintro j ys H6 R2 hj ⟨s6,h6⟩ hR2
    have hjh:j<hh:=by omega
    have hjl:j*(lvs sp).length+(lvs sp).length<=hh*(lvs sp).length:=by
     have:=Nat.mul_le_mul_right (lvs sp).length hjh
     rw[Nat.succ_mul]at this
     exact this
    symm
    refine aV' (SqL.of (s6 _ _ hpl4)) (Ae' (vs:=(lvs sp).map nV) (fun m zs H7=>av' H4 H7/\bV' (fj' H7) zs (pre++r2 (lvs sp) b j++r1 ((lvs sp).take m) b (j+1))) ⟨s6,by simpa[r1]using h6⟩ (fun m zs H7 pv=>SqL.of (pv.1 _ _ hpl4)) ?_ ?_)
    .rintro m zs H7 x R3 hx ⟨s7,h7⟩ hR3
     rw[ao]at hx
     cases er:(lvs sp)[m]? with
     |none=>rw[er]at hx;cases hx
     |some lv=>
     rw[er]at hx
     cases hx
     have hm:=al' er
     have h7l:=h7.len
     rw[ax,ax,db']at h7l
     unfold r1 at h7l
     rw[ac,aJ]at h7l
     simp only[nV]
     symm
     refine⟨by show 3<=sizeLine;decide,fun q8 hq8=>?_⟩
     have t8:=ah' hq8 (.tup [.int b,.int (1+j),.int lv])
     have e8:upd H7 q8 (.tup [.int b,.int (1+j),.int lv]) q8=some (.tup [nV b,nV (j+1),nV lv]):=by
      rw[ab']
      show some (HO.tup [.int b,.int (1+(j:Int)),.int lv])=some (HO.tup [.int b,.int ((j+1:Nat):Int),.int lv])
      rw[show(1:Int)+j=((j+1:Nat):Int) by omega]
     generalize upd H7 q8 (.tup [.int b,.int (1+j),.int lv])=H8 at t8 e8 ⊢
     refine⟨an' ⋯,hR3 _ _ ⟨s7.trans t8,?_⟩⟩
     rw[show r1 ((lvs sp).take (m+1)) b (j+1)=r1 ((lvs sp).take m) b (j+1)++[(b,j+1,lv)] by unfold r1;rw[bj,er,aM];rfl,<- aD]
     exact(dc' t8 h7).snoc ⟨q8,rfl,e8⟩
    .rintro zs H7 ⟨s7,h7⟩
     rw[ac,bn,aD,<- ey']at h7
     exact hR2 _ _ ⟨s7,h7⟩
   .rintro ys H6 ⟨s6,h6⟩
    rw[show((hh:Int)+1-1).toNat=hh by omega]at h6
    exact hpost ys H6 s6 h6
  .rintro xs H5 ⟨s5,hA⟩ p9 hp9
   have s9:=ah' hp9 (.lst xs)
   exact q p9 xs _ (s1.trans (s4.trans (s5.trans s9))) ab' (dc' s9 hA)
 symm
 cases sp with
 |none=>
  simp only[oV]
  symm
  refine⟨by decide,fun pl hpl=>?_⟩
  exact as' pl _ (ah' hpl _) ab'
 |some s=>
  have hs:=hB.bs s rfl
  simp only[oV]
  symm
  refine ew' fun pr hpr=>?_
  symm
  refine fP' ab' ⋯ ⋯ ⋯ ⋯ (bP (an' ⋯)) fun pl hpl=>?_
  rw[show((s:Int)+1-0).toNat=s+1 by omega,mB']
  exact as' pl _ ((ah' hpr _).trans (ah' hpl _)) ab'
theorem xf':∀b:Fin 2,∀p:Fin 9,∀l:Fin 17,reduceHash (Builtin.Tuple.tupleHashOf [hashInt (b.val:Int),hashInt (p.val:Int),hashInt (l.val:Int)])≠NH:=⋯
def kI (k:K3):List Int:=[(k.1:Int),(k.2.1:Int),(k.2.2:Int)]
def kK (k:K3):List Key:=(kI k).map Key.inl
theorem gZ' {a b:K3} (h:kK a=kK b):a=b:=by
 obtain⟨a1,a2,a3⟩:=a
 obtain⟨b1,b2,b3⟩:=b
 unfold kK kI at h
 simp only[aS,List.map_nil,List.cons.injEq,Key.inl.injEq,and_true]at h
 obtain⟨h1,h2,h3⟩:=h
 rw[show a1=b1 by omega,show a2=b2 by omega,show a3=b3 by omega]
theorem o6' {k:K3}:(kK k).map L2.kV=[nV k.1,nV k.2.1,nV k.2.2]:=rfl
theorem mE' {ks:List K3} {i:Nat} {k:K3} (h:ks.Nodup) (hk:ks[i]?=some k):k∉ks.take i:=by
 intro hm
 have hi:=al' hk
 have e:ks=ks.take i++k :: ks.drop (i+1):=by
  have h1:=bv i ks
  rw[List.drop_eq_getElem_cons hi]at h1
  rw[ae hi]at hk
  rw[Option.some.inj hk]at h1
  exact h1.symm
 rw[e,di]at h
 exact h.2.2 k hm k aE rfl
theorem de' {ks:List K3} {i:Nat} {k:K3} (hk:ks[i]?=some k):ks.take (i+1)=ks.take i++[k]:=by rw[bj,hk];rfl
def TbT (ks:List K3) (m:Nat) (a:KTL):Prop:=∀x∈a,∃(k:K3) (j:Nat),k∈ks/\x.1=kK k/\x.2.2=.int j/\j<m
theorem TbT.non {H:Hp} {p:Addr} {ks:List K3} {m:Nat} {a:KTL} (h:TbT ks m a) (hk:∀k∈ks,k.1<2/\k.2.1<9/\k.2.2<17) (hp:H p=some (.dT (plT a))):NoN H p:=.inr ⟨plT a,hp,fun kv hkv=>by
 obtain⟨x,hx,rfl⟩:=az.mp hkv
 obtain⟨k,j,hks,e,_⟩:=h x hx
 obtain⟨h1,h2,h3⟩:=hk k hks
 exact⟨kI k,e,xf' ⟨k.1,h1⟩ ⟨k.2.1,h2⟩ ⟨k.2.2,h3⟩⟩⟩
end BD
namespace BE
open PySem PySem.Spec PyProof.Rows L2 R3 LW TM BD
def lvl (sp:Option Nat) (lv c:Nat):Int:=match sp with
 |none=>lv
 |some _=>(lv:Int)+if c=1 then 1 else -1
def bh (l0 l1:Nat) (sp:Option Nat) (k:K3) (c:Nat):Option (List Int):=
 if c=k.1 then some [(c:Int),(k.2.1:Int)+1,lvl sp k.2.2 c]else if k.2.1<(if k.1=1 then l1 else l0)then none else some [(c:Int),1,lvl sp k.2.2 c]
def mF':Sp:=fun vs H Q _=>∃(bd rm:Addr) (l0 h0 l1 h1:Nat) (sp:Option Nat) (k:K3) (c:Nat),vs=[.ref bd,.ref rm,.int c]/\IsB H bd l0 h0 l1 h1 sp/\H rm=some (.tup [nV k.1,nV k.2.1,nV k.2.2])/\(bh l0 l1 sp k c=none->∀H',av' H H'->Q .non H')/\∀z,bh l0 l1 sp k c=some z->∀(p:Addr) (H':Hp),av' H H'->H' p=some (.tup (z.map V.int))->Q (.ref p) H'
theorem o7' {C:Rc} (hN:C.N.length=11):∀vs H Q E,mF' vs H Q E->tSs C bh' { nx:=fun _ H'=>Q .non H',rt:=Q } (L2.aQ' C.N vs) H:=by
 intro vs H Q E h
 obtain⟨bd,rm,l0,h0,l1,h1,sp,⟨b,pl,lv⟩,c,rfl,hB,hrm,q1,q2⟩:=h
 rw[ap' hN]
 unfold bh'
 symm
 rw[gU']
 symm
 refine qj' (C:=C) (SqT.of hB.at') ?_
 symm
 rw[gU']
 symm
 refine mj' (SqT.of hrm) ?_
 simp only[nV,ja',List.set_cons_zero,List.set_cons_succ]
 refine gV' fun N hNx=>?_
 have as':∀lev:Int,lvl sp lv c=lev->N [some (.ref bd),some (.ref rm),some (.int c),some (.int l0),some (.int h0),some (.int l1),some (.int h1),some (oV sp),some (.int b),some (.int pl),some (.int lev)] H:=by
  intro lev hlev
  refine hNx _ _ ?_
  have e:bh l0 l1 sp (b,pl,lv) c=if c=b then some [(c:Int),(pl:Int)+1,lev]else if pl<(if b=1 then l1 else l0)then none else some [(c:Int),1,lev]:=by
   unfold bh
   rw[<- hlev]
  symm
  refine a3' (fun hq=>?_) fun hq=>?_
  .have hq:c=b:=by omega
   symm
   refine⟨by show 3<=sizeLine;decide,fun p hp=>?_⟩
   exact q2 _ (by rw[e,if_pos hq]) p _ (ah' hp _) ab'
  have hq:¬c=b:=by omega
  symm
  refine a3' (fun hb=>?_) fun hb=>?_
  .have hb:b=1:=by omega
   symm
   refine a3' (fun hq2=>?_) fun hq2=>?_
   .symm
    exact q1 (by rw[e,if_neg hq,if_pos hb,if_pos ⋯]) _ (av'.refl _)
   .symm
    refine⟨by show 3<=sizeLine;decide,fun p hp=>?_⟩
    exact q2 _ (by rw[e,if_neg hq,if_pos hb,if_neg ⋯]) p _ (ah' hp _) ab'
  .have hb:¬b=1:=by omega
   symm
   refine a3' (fun hq2=>?_) fun hq2=>?_
   .symm
    exact q1 (by rw[e,if_neg hq,if_neg hb,if_pos ⋯]) _ (av'.refl _)
   .symm
    refine⟨by show 3<=sizeLine;decide,fun p hp=>?_⟩
    exact q2 _ (by rw[e,if_neg hq,if_neg hb,if_neg ⋯]) p _ (ah' hp _) ab'
 cases sp with
 |none=>
  simp only[oV]
  symm
  exact as' _ rfl
 |some s=>
  simp only[oV]
  symm
  rw[zW' (a:=(lv:Int)) rfl]
  symm
  refine a3' (fun hq=>?_) fun hq=>?_
  .symm
   exact as' _ (by show(lv:Int)+(if c=1 then 1 else -1)=_;(rw[if_pos ⋯]<;>rfl))
  .symm
   exact as' _ (by show(lv:Int)+(if c=1 then 1 else -1)=_;(rw[if_neg ⋯]<;>rfl))
def ixK (ks:List K3) (z:Option (List Int)):Option Nat:=match z with
 |none=>none
 |some z=>ks.findIdx? fun k=>decide (BD.kI k=z)
def plN (ks:List K3) (m:Nat):List (List Key×V):=(aG m).map fun i:Nat=>(kK (ks[i]?.getD (0,0,0)),V.int i)
theorem o8' {ks:List K3} {m:Nat} {k:K3} (h:ks[m]?=some k):plN ks (m+1)=plN ks m++[(kK k,V.int m)]:=by
 unfold plN
 rw[List.range_succ,aM]
 simp[h]
theorem mG' {ks:List K3} {z:List Int} (h:∀k∈ks,BD.kI k≠z):ixK ks (some z)=none:=by
 show ks.findIdx? _=none
 rw[List.findIdx?_eq_none_iff]
 intro k hk
 exact decide_eq_false (h k hk)
theorem mH' {ks:List K3} {z:List Int} {i:Nat} {k:K3} (hn:ks.Nodup) (hk:ks[i]?=some k) (hz:BD.kI k=z):ixK ks (some z)=some i:=by
 show ks.findIdx? _=some i
 have hi:=al' hk
 rw[List.findIdx?_eq_some_iff_getElem]
 refine⟨hi,?_,fun j hj=>?_⟩
 .rw[ae hi]at hk
  rw[Option.some.inj hk]
  exact decide_eq_true hz
 .have hjl:j<ks.length:=by omega
  intro hd
  have hd:=of_decide_eq_true hd
  have e:kK ks[j]=kK k:=by unfold kK;rw[hd,hz]
  have e2:=gZ' e
  have h1:ks[j]?=some k:=by rw[ae hjl,e2]
  have:=mE' hn hk
  exact this (aq (l:=ks.take i) (i:=j) (by rw[List.getElem?_take,if_pos hj];exact h1))
theorem mI':∀{a b:List Int},(a.map Key.inl:List Key)=b.map Key.inl->a=b
 | [],[],_=>rfl
 | [],_ :: _,h=>by cases h
 |_ :: _,[],h=>by cases h
 |x :: a,y :: b,h=>by
  rw[aS,aS]at h
  injection h with h1 h2
  injection h1 with h1
  rw[h1,mI' h2]
theorem sS' {ks:List K3} (hn:ks.Nodup) (z:List Int):(eL' (plN ks ks.length) (z.map Key.inl)).getD .non=oV (ixK ks (some z)):=by
 have e0:eL' (plN ks ks.length) (z.map Key.inl)=((aG ks.length).find? fun i=>decide (kK (ks[i]?.getD (0,0,0))=z.map Key.inl)).map fun i:Nat=>V.int (i:Int):=by
  unfold eL' plN
  rw[List.find?_map,Option.map_map]
  rfl
 rw[e0]
 cases e:(aG ks.length).find? fun i=>decide (kK (ks[i]?.getD (0,0,0))=z.map Key.inl)with
 |none=>
  rw[List.find?_eq_none]at e
  rw[mG' fun k hk hz=>?_]
  .rfl
  .obtain⟨i,hi⟩:=cN hk
   refine e i (aK.mpr (al' hi)) (decide_eq_true ?_)
   rw[hi]
   show(BD.kI k).map Key.inl=_
   rw[hz]
 |some i=>
  have h0:=List.find?_some e
  have h1:=of_decide_eq_true h0
  have h2:=aK.mp (List.mem_of_find?_eq_some e)
  have h3:ks[i]?=some ks[i]:=ae h2
  rw[h3]at h1
  rw[mH' hn h3 (mI' h1)]
  rfl
def mx (l0 l1:Nat) (sp:Option Nat) (ks:List K3) (k:K3):Rm:=(ixK ks (bh l0 l1 sp k 0),ixK ks (bh l0 l1 sp k 1))
def g0':Sp:=fun vs H Q _=>∃(bd l:Addr) (l0 h0 l1 h1:Nat) (sp:Option Nat) (xs:List V),vs=[.ref bd,.ref l]/\IsB H bd l0 h0 l1 h1 sp/\H l=some (.lst xs)/\bV' (fj' H) xs (rk (lvs sp) h0 h1)/\∀(p:Addr) (H':Hp),av' H H'->IsM H' p ((rk (lvs sp) h0 h1).map (mx l0 l1 sp (rk (lvs sp) h0 h1)))->Q (.ref p) H'
theorem mJ' {C:Rc} (hN:C.N.length=5) (hR:C.fs "room_behind"=some mF'):∀vs H Q E,g0' vs H Q E->tSs C aD' { nx:=fun _ H'=>Q .non H',rt:=Q } (L2.aQ' C.N vs) H:=by
 intro vs H Q E h
 obtain⟨bd,l,l0,h0,l1,h1,sp,xs,rfl,hB,hl,hA,q⟩:=h
 rw[ap' hN]
 unfold aD'
 obtain⟨hrl,hrb⟩:=fS' hB.bs hB.b0 hB.b1 (h0:=h0) (h1:=h1)
 have hnd:=j3' (fk' (sp:=sp)) (h0:=h0) (h1:=h1)
 generalize hks:rk (lvs sp) h0 h1=ks at hA q hrl hrb hnd
 have hxl:=hA.len
 symm
 refine p8' (SqL.of hl) (A7' (vs:=xs) (fun i b H'=>i<=ks.length/\plT b=plN ks i/\TbT (ks.take i) ks.length b/\okT b H'/\b.length=i/\av' H H') ⟨aT _,rfl,fun x h=>absurd h aB,fun x h=>absurd h aB,rfl,av'.refl _⟩ (fun i b H' pv=>SqL.of (pv.2.2.2.2.2 _ _ hl)) ?_ ?_)
 .rintro i b H1 x p R hx hp ⟨_,hpl,hb,hok,hbl,s1⟩ hR'
  obtain⟨k,hk,pk,rfl,hpk⟩:=hA.getL hx
  have hi:=al' hk
  refine gS' (SqT.of ab') ?_
  have t2:=ah' hp (.tup [.int i,.ref pk])
  have s2:=s1.trans t2
  generalize upd H1 p (.tup [.int i,.ref pk])=H2 at t2 s2 ⊢
  have ok2:okT b H2:=fun y hy=>t2 _ _ (hok y hy)
  symm
  refine⟨kK k,pk,rfl,by rw[o6'];exact s2 _ _ hpk,ok2,fun y hy e=>?_,an' ⋯,hR' _ _ ⟨hi,?_,fun y hy=>?_,fun y hy=>?_,by simp[hbl],s2⟩⟩
  .obtain⟨k',j,hk',e',_⟩:=hb y hy
   have ek:k'=k:=gZ' (e'.symm.trans e)
   subst ek
   exact mE' hnd hk hk'
  .rw[o8' hk,<- hpl]
   unfold plT
   rw[aM]
   rfl
  .rw[de' hk]
   rcases aL.mp hy with hy|hy
   .obtain⟨k',j,hk',e'⟩:=hb y hy
    exact⟨k',j,br _ hk',e'⟩
   .have:y=(kK k,pk,V.int i):=by simpa using hy
    subst this
    exact⟨k,i,aj _ (aV.mpr rfl),rfl,rfl,hi⟩
  .rcases aL.mp hy with hy|hy
   .exact ok2 y hy
   .have:y=(kK k,pk,V.int i):=by simpa using hy
    subst this
    show H2 pk=some (.tup ((kK k).map L2.kV))
    rw[o6']
    exact s2 _ _ hpk
 .rintro a H1 ⟨_,hpl,hb,hok,hal,s1⟩
  rw[hxl,bn]at hb
  rw[hxl]at hpl
  refine⟨hok,fun p hp=>?_⟩
  have s2:=s1.trans (ah' hp (.dT (plT a)))
  have hp2:upd H1 p (.dT (plT a)) p=some (.dT (plT a)):=ab'
  generalize upd H1 p (.dT (plT a))=H2 at s2 hp2 ⊢
  have get0:∀{H3:Hp} {Q':VK},av' H2 H3->Q' (oV (ixK ks none)) H3->ip' p Q' .non H3:=fun s3 q'=>mt' (hb.non hrb (s3 _ _ hp2)) q'
  have get1:∀{H3:Hp} {Q':VK} {pz:Addr} {z:List Int},av' H2 H3->H3 pz=some (.tup (z.map V.int))->Q' (oV (ixK ks (some z))) H3->ip' p Q' (.ref pz) H3:=by
   intro H3 Q' pz z s3 hz q'
   refine ms' (f7'.t (k:=z.map Key.inl) (s3 _ _ hp2) (by rw[hz,aX];rfl)) ?_
   rw[hpl,sS' hnd]
   exact q'
  symm
  refine aV' (SqL.of (s2 _ _ hl)) (ev' (vs:=xs) (fun i ys H'=>i<=ks.length/\cb' H' ys ((ks.take i).map (mx l0 l1 sp ks))/\av' H2 H') ⟨aT _,trivial,av'.refl _⟩ (fun i ys H' pv=>SqL.of (pv.2.2 _ _ (s2 _ _ hl))) ?_ ?_)
  .rintro i ys H3 x R hx ⟨_,hR',s3⟩ hRR
   obtain⟨k,hk,pk,rfl,hpk⟩:=hA.getL hx
   have hi:=al' hk
   have s23:=s2.trans s3
   symm
   refine fQ' (.inr ⟨plT a,.inl (s3 _ _ hp2)⟩) ?_
   refine ag' hR ?_
   symm
   have half:∀(H4:Hp),av' H3 H4->kA1 C (List.set (clr [4] [some (.ref bd),some (.ref l),some (.ref p),none,none]) 4 (some (.ref pk))) (.cons (.dgt (.var 2) (.call "room_behind" (.cons (.var 0) (.cons (.var 4) (.cons (.int 1) .nil))))) .nil) (yf' (gT' ys R)) (oV (ixK ks (bh l0 l1 sp k 0))) H4:=by
    intro H4 s34
    have s4:=s3.trans s34
    symm
    refine fQ' (.inr ⟨plT a,.inl (s4 _ _ hp2)⟩) ?_
    refine ag' hR ?_
    symm
    have second:∀(H5:Hp),av' H4 H5->kA1 C (List.set (clr [4] [some (.ref bd),some (.ref l),some (.ref p),none,none]) 4 (some (.ref pk))) .nil (kA2 (oV (ixK ks (bh l0 l1 sp k 0))) (yf' (gT' ys R))) (oV (ixK ks (bh l0 l1 sp k 1))) H5:=by
     intro H5 s45
     symm
     refine⟨by show 2<=sizeLine;decide,fun p6 hp6=>?_⟩
     have s6:=ah' hp6 (.tup [oV (ixK ks (bh l0 l1 sp k 0)),oV (ixK ks (bh l0 l1 sp k 1))])
     have h6:upd H5 p6 (.tup [oV (ixK ks (bh l0 l1 sp k 0)),oV (ixK ks (bh l0 l1 sp k 1))]) p6=some (.tup [oV (ixK ks (bh l0 l1 sp k 0)),oV (ixK ks (bh l0 l1 sp k 1))]):=ab'
     generalize upd H5 p6 (.tup [oV (ixK ks (bh l0 l1 sp k 0)),oV (ixK ks (bh l0 l1 sp k 1))])=H6 at s6 h6 ⊢
     have hyl:=hR'.len
     rw[ac,aJ]at hyl
     refine⟨an' ⋯,hRR _ _ ⟨hi,?_,(s4.trans s45).trans s6⟩⟩
     rw[de' hk,aM]
     exact(hR'.mono (af' (s34.trans (s45.trans s6)))).snoc ⟨p6,rfl,h6⟩
    refine⟨bd,pk,l0,h0,l1,h1,sp,k,1,rfl,hB.mono (af' (s2.trans s4)),(s2.trans s4) _ _ hpk,fun e H5 s45=>get0 (s4.trans s45) (by rw[<- e];exact second H5 s45),fun z e pz H5 s45 hz=>get1 (s4.trans s45) hz (by rw[<- e];exact second H5 s45)⟩
   refine⟨bd,pk,l0,h0,l1,h1,sp,k,0,rfl,hB.mono (af' s23),s23 _ _ hpk,fun e H4 s34=>get0 (s3.trans s34) (by rw[<- e];exact half H4 s34),fun z e pz H4 s34 hz=>get1 (s3.trans s34) hz (by rw[<- e];exact half H4 s34)⟩
  .rintro ys H3 ⟨_,hR',s3⟩ p5 hp5
   rw[hxl,bn]at hR'
   symm
   have h5:upd H3 p5 (.lst ys) p5=some (.lst ys):=ab'
   have s5:=ah' hp5 (.lst ys)
   generalize upd H3 p5 (.lst ys)=H5 at h5 s5 ⊢
   refine im' (SqL.of h5) fun p6 hp6=>?_
   have s6:=ah' hp6 (.tup ys)
   exact q p6 _ (s2.trans (s3.trans (s5.trans s6))) ⟨ys,ab',hR'.mono (af' (s5.trans s6))⟩
def Sus (M:List Rm) (S:List Nat):Prop:=∀r∈S,r<M.length/\(∃r'∈S,fs1 M r'=some r\/fs2 M r'=some r)/\∃r'∈S,fs1 M r=some r'\/fs2 M r=some r'
theorem ji' {M:List Rm} {S rs:List Nat} (h:Sus M S) (hs:∀r∈S,r∈rs):∀r∈S,r∈lst M rs:=by
 intro r hr
 obtain⟨_,⟨r1,hr1,e1⟩,⟨r2,hr2,e2⟩⟩:=h r hr
 refine aY.mpr ⟨hs r hr,?_⟩
 unfold da'
 rw[ah]
 constructor
 .unfold ldS
  rw[bL]
  refine⟨r1,hs r1 hr1,?_⟩
  rw[aR]
  rcases e1 with e|e
  .left;rw[e];exact decide_eq_true rfl
  .right;rw[e];exact decide_eq_true rfl
 .rw[aR]
  rcases e2 with e|e
  .left;rw[e];exact List.contains_iff_mem.mpr (hs r2 hr2)
  .right;rw[e];exact List.contains_iff_mem.mpr (hs r2 hr2)
end BE
namespace TE
open PySem PySem.Spec PyProof.Rows L2 R3 LW TM BD BE
def ixR (rs:List Nat):Option Nat->Option Nat
 |none=>none
 |some n=>if n∈rs then some (rs.idxOf n)else none
theorem jj' {rs:List Nat} {n:Nat}:ixR rs (some n)=if n∈rs then some (rs.idxOf n)else none:=rfl
theorem xg' {rs:List Nat} (h:rs.Nodup) {i j:Nat} {hi:i<rs.length} {hj:j<rs.length} (e:rs[i]=rs[j]):i=j:=by
 rcases Nat.lt_trichotomy i j with z|z|z
 .exact absurd e (bm.mp h i j hi hj z)
 .exact z
 .exact absurd e.symm (bm.mp h j i hj hi z)
def prt (M:List Rm) (rs:List Nat):List Rm:=rs.map fun r=>(ixR rs (fs1 M r),ixR rs (fs2 M r))
def ziR:List Nat->Nat->List (Key×V)
 | [],_=>[]
 |r :: rs,k=>((Key.inl (r:Int):Key),V.int k) :: ziR rs (k+1)
theorem jk' {r:Nat}:∀{rs:List Nat} {k:Nat},ziR (rs++[r]) k=ziR rs k++[((Key.inl (r:Int):Key),V.int (k+rs.length:Nat))]
 | [],k=>by simp[ziR]
 |a :: rs,k=>by
  show _ :: ziR (rs++[r]) (k+1)=_ :: (ziR rs (k+1)++_)
  rw[jk',bb,show k+1+rs.length=k+(rs.length+1) by omega]
theorem sT' {a b:Nat}:((Key.inl (a:Int):Key)=Key.inl (b:Int))↔a=b:=⟨fun h=>by injection h with h;omega,fun h=>by rw[h]⟩
theorem iv' {x:Nat}:∀{rs:List Nat} {k:Nat},eL' (ziR rs k) (Key.inl (x:Int))=if x∈rs then some (V.int (k+rs.idxOf x:Nat))else none
 | [],k=>by simp[ziR,eL']
 |r :: rs,k=>by
  by_cases h:r=x
  .subst h
   rw[show ziR (r :: rs) k=((Key.inl (r:Int):Key),V.int k) :: ziR rs (k+1) from rfl,cT' rfl]
   simp
  .rw[show ziR (r :: rs) k=((Key.inl (r:Int):Key),V.int k) :: ziR rs (k+1) from rfl,cU' (fun z=>h (sT'.mp z)),iv']
   have hx:¬x=r:=fun z=>h z.symm
   have e1:(r == x)=false:=by rw[beq_eq_false_iff_ne];exact h
   simp only[ay,hx,false_or]
   rw[List.idxOf_cons,e1]
   split
   .simp only[cond_false]
    rw[show k+1+rs.idxOf x=k+(rs.idxOf x+1) by omega]
   .rfl
theorem mK':∀{rs:List Nat} {k:Nat},(ziR rs k).length=rs.length
 | [],_=>rfl
 |_ :: rs,k=>by show(ziR rs (k+1)).length+1=_;rw[mK'];rfl
theorem qk' {n:Nat}:∀{rs:List Nat} {k m:Nat},(∀r∈rs,r<n)->k+rs.length<=m->TbK n m (ziR rs k)
 | [],_,_,_,_=>fun kv h=>absurd h aB
 |r :: rs,k,m,h,hm=>fun kv hkv=>by
  rw[bb]at hm
  rcases ay.mp hkv with rfl|hkv
  .exact⟨r,k,rfl,h r (by simp),⋯⟩
  .exact qk' (k:=k+1) (fun x hx=>h x (by simp[hx])) ⋯ kv hkv
theorem ql' {C:Rc} {H:Hp} {Q:VK} {p:Addr} {n:Nat} {rs:List Nat} {o:Option Nat} (h:∀r∈rs,r<n) (hn:n<=1000) (hp:H p=some (.dK (ziR rs 0))) (q:Q (oV (ixR rs o)) H):ip' p Q (oV o) H:=by
 cases o with
 |none=>exact mt' ((qk' (m:=rs.length) h ⋯).non hn hp) q
 |some x=>
  refine ms' (f7'.k (k:=.inl (x:Int)) hp) ?_
  rw[iv']
  rw[jj']at q
  by_cases hx:x∈rs
  .rw[if_pos hx]at q ⊢
   rw[Nat.zero_add]
   exact q
  .rw[if_neg hx]at q ⊢
   exact q
def ez':Sp:=fun vs H Q _=>∃(a l:Addr) (M:List Rm) (rs:List Nat),vs=[.ref a,.ref l]/\IsM H a M/\M.length<=500/\H l=some (.lst (rs.map nV))/\(∀r∈rs,r<M.length)/\rs.Nodup/\rs.length<=500/\∀(p:Addr) (H':Hp),av' H H'->IsM H' p (prt M rs)->Q (.ref p) H'
theorem j4' {C:Rc} (hN:C.N.length=5):∀vs H Q E,ez' vs H Q E->tSs C b2' { nx:=fun _ H'=>Q .non H',rt:=Q } (L2.aQ' C.N vs) H:=by
 intro vs H Q E h
 obtain⟨a,l,M,rs,rfl,hM,hM5,hl,hrs,hnd,hlen,q⟩:=h
 rw[ap' hN]
 unfold b2'
 symm
 refine p8' (SqL.of hl) (A7' (vs:=rs.map nV) (fun i b H'=>b=ziR (rs.take i) 0/\i<=rs.length/\av' H H') ⟨rfl,aT _,av'.refl _⟩ (fun i b H' pv=>SqL.of (pv.2.2 _ _ hl)) ?_ ?_)
 .rintro i b H1 x p R hx hp ⟨rfl,hi0,s1⟩ hR
  rw[ao]at hx
  cases er:rs[i]? with
  |none=>rw[er]at hx;cases hx
  |some r=>
  rw[er]at hx
  cases hx
  have hi:=al' er
  refine gS' (SqT.of ab') ?_
  have s2:=s1.trans (ah' hp (.tup [.int i,nV r]))
  generalize upd H1 p (.tup [.int i,nV r])=H2 at s2 ⊢
  simp only[nV]
  symm
  have et:rs.take (i+1)=rs.take i++[r]:=by rw[bj,er];rfl
  have hno:r∉rs.take i:=fun hm=>by
   obtain⟨j,hj,ej⟩:=dm.mp hm
   rw[aJ]at hj
   rw[dj]at ej
   have er':rs[i]'hi=r:=by rw[ae hi]at er;exact Option.some.inj er
   have:=xg' hnd (hi:=by omega) (hj:=hi) (ej.trans er'.symm)
   omega
  refine⟨.inl (r:Int),rfl,by rw[mK',aJ];exact an' ⋯,hR _ _ ⟨?_,⋯,s2⟩⟩
  rw[fr' _ (by rw[iv',if_neg hno]),et,jk',aJ,Nat.min_eq_left ⋯,Nat.zero_add]
 .rintro kvs H1 ⟨rfl,_,s1⟩
  rw[ac,bn]
  refine⟨trivial,fun p hp=>?_⟩
  have s2:=s1.trans (ah' hp (.dK (ziR rs 0)))
  have hp2:upd H1 p (.dK (ziR rs 0)) p=some (.dK (ziR rs 0)):=ab'
  generalize upd H1 p (.dK (ziR rs 0))=H2 at s2 hp2 ⊢
  symm
  refine aV' (SqL.of (s2 _ _ hl)) (ev' (vs:=rs.map nV) (fun i xs H'=>cb' H' xs ((rs.take i).map fun r=>(ixR rs (fs1 M r),ixR rs (fs2 M r)))/\i<=rs.length/\av' H2 H') ⟨trivial,aT _,av'.refl _⟩ (fun i xs H' pv=>SqL.of (pv.2.2 _ _ (s2 _ _ hl))) ?_ ?_)
  .rintro i xs H3 x R hx ⟨hR',hi0,s3⟩ hR
   rw[ao]at hx
   cases er:rs[i]? with
   |none=>rw[er]at hx;cases hx
   |some r=>
   rw[er]at hx
   cases hx
   have hi:=al' er
   have hrM:=hrs r (aq er)
   have hM3:=hM.mono (af' (s2.trans s3))
   have hp3:=s3 _ _ hp2
   simp only[nV]
   symm
   refine fQ' (.inl ⟨_,.inl hp3⟩) ?_
   symm
   refine dw' hM3 hrM fun pr hpr=>?_
   symm
   refine aC' (SqT.of hpr) (v:=oV (fs1 M r)) rfl ?_
   refine ql' (C:=C) hrs ⋯ hp3 ?_
   symm
   refine fQ' (.inl ⟨_,.inl hp3⟩) ?_
   symm
   refine dw' hM3 hrM fun pr hpr=>?_
   symm
   refine aC' (SqT.of hpr) (v:=oV (fs2 M r)) rfl ?_
   refine ql' (C:=C) hrs ⋯ hp3 ?_
   symm
   refine⟨by show 2<=sizeLine;decide,fun p4 hp4=>?_⟩
   have s4:=ah' hp4 (.tup [oV (ixR rs (fs1 M r)),oV (ixR rs (fs2 M r))])
   have h4:upd H3 p4 (.tup [oV (ixR rs (fs1 M r)),oV (ixR rs (fs2 M r))]) p4=some (.tup [oV (ixR rs (fs1 M r)),oV (ixR rs (fs2 M r))]):=ab'
   generalize upd H3 p4 (.tup [oV (ixR rs (fs1 M r)),oV (ixR rs (fs2 M r))])=H4 at s4 h4 ⊢
   have hxl:=hR'.len
   rw[ac,aJ]at hxl
   refine⟨an' ⋯,hR _ _ ⟨?_,⋯,s3.trans s4⟩⟩
   rw[bj,er,aM]
   exact(hR'.mono (af' s4)).snoc ⟨p4,rfl,h4⟩
  .rintro xs H3 ⟨hR',_,s3⟩ p5 hp5
   rw[ac,bn]at hR'
   symm
   have h5:upd H3 p5 (.lst xs) p5=some (.lst xs):=ab'
   have s5:=ah' hp5 (.lst xs)
   generalize upd H3 p5 (.lst xs)=H5 at h5 s5 ⊢
   refine im' (SqL.of h5) fun p6 hp6=>?_
   have s6:=ah' hp6 (.tup xs)
   exact q p6 _ (s2.trans (s3.trans (s5.trans s6))) ⟨xs,ab',hR'.mono (af' (s5.trans s6))⟩
structure Rs (M:List Rm) (rs:List Nat):Prop where
 rise:rs.Pairwise (· < ·)
 lt:∀r∈rs,r<M.length
 fix:lst M rs=rs
 all:∀S,Sus M S->∀r∈S,r∈rs
theorem mL' {rs:List Nat} (h:rs.Pairwise (· < ·)):rs.Nodup:=h.imp fun {a b} z=>aA z
theorem fT':∀{a b:List Nat},a.Pairwise (· < ·)->b.Pairwise (· < ·)->(∀x,x∈a↔x∈b)->a=b
 | [],[],_,_,_=>rfl
 | [],y :: b,_,_,h=>absurd ((h y).mpr (by simp)) aB
 |x :: a,[],_,_,h=>absurd ((h x).mp (by simp)) aB
 |x :: a,y :: b,ha,hb,h=>by
  rw[List.pairwise_cons]at ha hb
  have e:x=y:=by
   rcases ay.mp ((h x).mp (by simp))with e|e
   .exact e
   .rcases ay.mp ((h y).mpr (by simp))with e'|e'
    .exact e'.symm
    .have:=hb.1 x e
     have:=ha.1 y e'
     omega
  subst e
  congr 1
  refine fT' ha.2 hb.2 fun z=>?_
  have:=h z
  simp only[ay]at this
  constructor
  .intro hz
   rcases this.mp (.inr hz)with e|e
   .have:=ha.1 z hz;omega
   .exact e
  .intro hz
   rcases this.mpr (.inr hz)with e|e
   .have:=hb.1 z hz;omega
   .exact e
theorem sU' {M:List Rm} {rs:List Nat} (hl:∀r∈rs,r<M.length) (h:lst M rs=rs):Sus M rs:=by
 intro r hr
 have h2:r∈lst M rs:=by rw[h];exact hr
 have h3:=(aY.mp h2).2
 unfold da' at h3
 rw[ah,aR]at h3
 refine⟨hl r hr,?_,?_⟩
 .obtain⟨r',hr',e⟩:=bL.mp h3.1
  refine⟨r',hr',?_⟩
  rw[aR,decide_eq_true_eq,decide_eq_true_eq]at e
  rcases e with e|e
  .exact .inl (qh' (b:=some r) (by rw[<- e];rfl))
  .exact .inr (qh' (b:=some r) (by rw[<- e];rfl))
 .have key:∀o,inR rs o=true->∃r'∈rs,o=some r':=fun o ho=>by
   cases o with
   |none=>cases ho
   |some n=>exact⟨n,List.contains_iff_mem.mp ho,rfl⟩
  rcases h3.2 with e|e
  .obtain⟨r',hr',e'⟩:=key _ e
   exact⟨r',hr',.inl e'⟩
  .obtain⟨r',hr',e'⟩:=key _ e
   exact⟨r',hr',.inr e'⟩
theorem Rs.sus {M:List Rm} {rs:List Nat} (h:Rs M rs):Sus M rs:=sU' h.lt h.fix
theorem Rs.uniq {M:List Rm} {rs rs':List Nat} (h:Rs M rs) (h':Rs M rs'):rs=rs':=fT' h.rise h'.rise fun x=>⟨fun z=>h'.all _ h.sus x z,fun z=>h.all _ h'.sus x z⟩
set_option tactic.hygienic true in
theorem eA' {α:Type} {p:α->Bool}:∀{l:List α},l.length<=(l.filter p).length->l.filter p=l
 | [],_=>rfl
 |a :: l,h=>by
  rw[cI]at h ⊢
  have:=bH p l
  split at h
  .rename_i hp
   rw[if_pos hp]
   rw[bb,bb]at h
   rw[eA' ⋯]
  .rw[bb]at h
   omega
def eB':Sp:=fun vs H Q _=>∃(a:Addr) (M:List Rm),vs=[.ref a]/\IsM H a M/\M.length<=500/\∀(p p' l:Addr) (rs:List Nat) (H':Hp),av' H H'->H l=none->H' p=some (.tup [.ref p',.ref l])->H' l=some (.lst (rs.map nV))->IsM H' p' (prt M rs)->Rs M rs->Q (.ref p) H'
theorem j5' {C:Rc} (hN:C.N.length=3) (hL:C.fs "lasting"=some gY') (hP:C.fs "part_of"=some ez'):∀vs H Q E,eB' vs H Q E->tSs C b3' { nx:=fun _ H'=>Q .non H',rt:=Q } (L2.aQ' C.N vs) H:=by
 intro vs H Q E h
 obtain⟨a,M,rfl,hM,hM5,q⟩:=h
 rw[ap' hN]
 unfold b3'
 obtain⟨mv,hmv,hmr⟩:=id hM
 symm
 refine il' (SqT.of hmv) ?_
 rw[hmr.len]
 symm
 refine ew' fun pr hpr=>?_
 symm
 have hsz:((M.length:Int)-0).toNat<=sizeLine:=bP (an' ⋯)
 refine fP' ab' ⋯ ⋯ ⋯ ⋯ hsz fun p1 hp1=>?_
 rw[show((M.length:Int)-0).toNat=M.length by omega,mB']
 have s1:=(ah' hpr (.rng 0 M.length)).trans (ah' hp1 (.lst ((aG M.length).map nV)))
 have h1:upd (upd H pr (.rng 0 M.length)) p1 (.lst ((aG M.length).map nV)) p1=some (.lst ((aG M.length).map nV)):=ab'
 have f1:H p1=none:=(ah' hpr (.rng 0 M.length)).free hp1
 generalize upd (upd H pr (.rng 0 M.length)) p1 (.lst ((aG M.length).map nV))=H1 at s1 h1 ⊢
 symm
 refine ag' hL ?_
 symm
 refine⟨a,p1,M,aG M.length,rfl,hM.mono (af' s1),h1,fun r hr=>aK.mp hr,by rw[bf];omega,fun p2 H2 hp2 s2 h2=>?_⟩
 symm
 refine mb' (fun m σ H'=>av' H H'/\∃(l1 l2:Addr) (rs:List Nat),σ=[some (.ref a),some (.ref l1),some (.ref l2)]/\H l1=none/\H l2=none/\H' l1=some (.lst (rs.map nV))/\H' l2=some (.lst ((lst M rs).map nV))/\(∀r∈rs,r<M.length)/\rs.Pairwise (· < ·)/\rs.length<=M.length/\(∀S,Sus M S->∀r∈S,r∈rs)/\m=rs.length) _ ⟨s1.trans s2,p1,p2,aG M.length,rfl,f1,s1.free hp2,s2 _ _ h1,h2,fun r hr=>aK.mp hr,bT,by rw[bf];omega,fun S hS r hr=>aK.mpr (hS r hr).1,rfl⟩ ?_
 rintro m σ H3 ⟨s3,l1,l2,rs,rfl,f1,f2,hl1,hl2,hrs,hri,hrl,hSr,rfl⟩
 symm
 refine dv' (SqL.of hl2) ?_
 symm
 refine dv' (SqL.of hl1) ?_
 rw[ac,ac]
 symm
 have hle:=xe' (M:=M) (rs:=rs)
 refine a3' (fun hc=>mc' ?_) fun hc=>md' ?_
 .symm
  refine ag' hL ?_
  symm
  refine⟨a,l2,M,lst M rs,rfl,hM.mono (af' s3),hl2,fun r hr=>hrs r (mA' hr),⋯,fun p4 H4 hp4 s4 h4=>?_⟩
  symm
  exact⟨(lst M rs).length,⋯,s3.trans s4,l2,p4,lst M rs,rfl,f2,s3.free hp4,s4 _ _ hl2,h4,fun r hr=>hrs r (mA' hr),hri.sublist cB,⋯,fun S hS=>ji' hS (hSr S hS),rfl⟩
 .symm
  refine ag' hP ?_
  symm
  refine⟨a,l1,M,rs,rfl,hM.mono (af' s3),hM5,hl1,hrs,mL' hri,⋯,fun p4 H4 s4 hM4=>?_⟩
  symm
  refine⟨by show 2<=sizeLine;decide,fun p5 hp5=>?_⟩
  have s5:=ah' hp5 (.tup [.ref p4,.ref l1])
  exact q p5 p4 l1 rs _ (s3.trans (s4.trans s5)) f1 ab' (s5 _ _ (s4 _ _ hl1)) (hM4.mono (af' s5)) ⟨hri,hrs,eA' (by have:¬((lst M rs).length:Int)<rs.length:=hc;unfold lst at this;omega),hSr⟩
end TE
namespace SR
open PySem PySem.Spec PyProof.Rows L2 R3 LW
def bu':Css:=(.cons (.ret (.met .join (.str "") (.cons (.comp (.ife (.cmp .Eq (.var 1) (.str "0")) (.str "1") (.str "0")) [1] (.name 1) (.val (.var 0)) .none .nil) .nil)))
  .nil)
def g2':Sp:=fun vs H Q _=>∃l:List Bool,vs=[.str (tx l)]/\l.length<=1000/\∀H',av' H H'->Q (.str (tx (l.map (!·)))) H'
theorem mM':∀{l:List Bool},(l.map fun c=>[c]).flatten=l
 | []=>rfl
 |c :: r=>by rw[aS,bZ,mM'];rfl
theorem mN' {C:Rc} (hN:C.N.length=2):∀vs H Q E,g2' vs H Q E->tSs C bu' { nx:=fun _ H'=>Q .non H',rt:=Q } (L2.aQ' C.N vs) H:=by
 intro vs H Q E h
 obtain⟨l,rfl,hl,q⟩:=h
 rw[ap' hN]
 unfold bu'
 walk_at "sy"
 refine⟨rfl,?_⟩
 refine et' (me' (fun i xs H'=>H'=H/\xs=(((l.take i).map (!·)).map fun c=>[c]).map fun l=>V.str (tx l)) ⟨rfl,rfl⟩ ?_ ?_)
 .rintro i xs H' c R hc ⟨rfl,rfl⟩ hR
  have hi:=al' hc
  symm
  have fin:∀d,d=!c->gT' ((((l.take i).map (!·)).map fun c=>[c]).map fun l=>V.str (tx l)) R (.str (tx [d])) H':=by
   rintro d rfl
   refine⟨by simp only[ac];exact an' (aF (List.length_take_le' ..) ⋯),hR _ _ ⟨rfl,?_⟩⟩
   rw[bj,hc]
   simp
  cases c
  .symm
   exact fin true rfl
  .symm
   exact fin false rfl
 .rintro xs H' ⟨rfl,rfl⟩ p hp
  rw[bn]
  symm
  refine mm' (ls:=(l.map (!·)).map fun c=>[c]) (SqL.of ab') (by rw[mM'];simp;omega) ?_
  rw[mM']
  exact q _ (ah' hp _)
theorem sV' {n:Nat} {j:Int} (h:(n:Int)<=j):Builtin.Str.strSliceIndices none (some j) 1 n=Builtin.Str.strSliceIndices none (some (n:Int)) 1 n:=by
 have h0:¬j<0:=by omega
 have h1:¬((n:Int)<0):=by omega
 have h2:(1:Int) > 0:=by decide
 simp only[Builtin.Str.strSliceIndices,h0,h1,h2,if_false,if_true,Int.min_eq_right h,Int.min_self]
theorem An' {l:List Bool} {n:Nat}:Txt.slice (tx l) none (some (n:Int))=tx (l.take n):=by
 rcases Nat.le_total n l.length with h|h
 .exact l7' h
 .have e:Txt.slice (tx l) none (some (n:Int))=Txt.slice (tx l) none (some (l.length:Int)):=by
   unfold Txt.slice
   rw[bD',sV' ⋯]
  rw[e,l7' (ag _),bq h,bq (ag _)]
section
variable {K:W.Frag} {H:Hp} {Q:VK}
theorem o9' {l:List Bool} {n:Nat} (hl:l.length<=sizeLine) (q:Q (.str (tx (l.take n))) H):rSl K (.str (tx l)) none (some (n:Int)) H Q:=⟨by rw[bD'];exact hl,by rw[An'];exact q⟩
theorem sW' {l:List Bool} {n:Nat} (hl:l.length<=sizeLine) (q:Q (.str (tx (l.drop n))) H):rSl K (.str (tx l)) (some (n:Int)) none H Q:=⟨by rw[bD'];exact hl,by rw[sk'];exact q⟩
end
theorem a1' {n:Nat} (h:n<=1000):n<=sizeLine:=bP (an' h)
def sX' (l:List Bool):List V:=(l.map fun c=>[c]).map fun l=>V.str (tx l)
theorem pa' {l:List Bool}:(sX' l).length=l.length:=by unfold sX';simp
theorem mO' {l:List Bool} {c:Bool}:sX' l++[V.str (tx [c])]=sX' (l++[c]):=by unfold sX';simp
theorem pb' {K:W.Frag} {H:Hp} {Q:VK} {a:Addr} {l:List Bool} (h:SqL K H a (sX' l)) (hz:l.length<=16000000) (q:Q (.str (tx l)) H):pV' K .join (.str (tx [])) [.ref a] H Q:=by
 refine mm' (ls:=l.map fun c=>[c]) h (by rw[mM'];exact hz) ?_
 rw[mM']
 exact q
end SR
namespace CK
open PySem PySem.Spec PyProof.Rows L2 R3 LW SR
def Lt (H:Hp) (a:Addr) (vs:List V):Prop:=H a=some (.lst vs)\/H a=some (.tup vs)
end CK
namespace K04
open PySem PySem.Spec PyProof.Rows L2 R3 LW
def a5':Css:=(.cons (.asg (.name 3) (.comp (.idx (.idx (.var 0) (.var 4)) (.blt .int (.cons (.var 2) .nil))) [4] (.name 4) (.val (.var 1)) .none .nil))
  (.cons (.ret (.ssc (.var 5) [5] (.name 5) (.val (.var 3)) (.some (.cmp .IsNot (.var 5) .non))))
  .nil))
def bK':Css:=(.cons (.asg (.name 2) (.call "machine_of" (.cons (.var 0) .nil)))
  (.cons (.asg (.name 3) (.blt .list (.cons (.blt .range (.cons (.blt .len (.cons (.var 2) .nil)) .nil)) .nil)))
  (.cons (.for_ (.tup (.cons (.name 4) (.cons (.name 5) .nil))) (.enum (.var 1)) (.cons (.ite (.not (.val (.var 3))) (.cons (.ret (.var 4))
  .nil) .nil)
  (.cons (.asg (.name 3) (.call "rooms_behind" (.cons (.var 2) (.cons (.var 3) (.cons (.var 5) .nil)))))
  .nil)))
  (.cons (.ret (.ife (.val (.var 3)) .non (.blt .len (.cons (.var 1) .nil))))
  .nil))))
def df':Css:=(.cons (.ret (.cmp .Is (.call "fault_at" (.cons (.var 0) (.cons (.var 1) .nil))) .non))
  .nil)
def bv':Css:=(.cons (.ret (.met .join (.str "") (.cons (.comp (.var 2) [2] (.name 2) (.val (.str "01")) (.some (.val (.call "keeps" (.cons (.var 0) (.cons (.bin .Add (.var 1) (.var 2)) .nil))))) .nil) .nil)))
  .nil)
def dN':Css:=(.cons (.ite (.cmp .Eq (.call "_law_take" (.cons (.var 0) (.cons (.int 8) .nil))) (.int 0)) (.cons (.asg (.name 1) (.lst (.cons (.bin .Add (.int 1) (.call "_law_take" (.cons (.var 0) (.cons (.int 8) .nil)))) (.cons (.bin .Add (.int 1) (.call "_law_take" (.cons (.var 0) (.cons (.int 8) .nil)))) .nil))))
  (.cons (.asg (.name 2) (.comp (.bin .Add (.var 3) (.call "_law_take" (.cons (.var 0) (.cons (.bin .Sub (.int 9) (.var 3)) .nil)))) [3] (.name 3) (.val (.var 1)) .none .nil))
  (.cons (.ret (.tup (.cons (.idx (.var 1) (.int 0)) (.cons (.idx (.var 2) (.int 0)) (.cons (.idx (.var 1) (.int 1)) (.cons (.idx (.var 2) (.int 1)) (.cons (.idx (.lst (.cons .non (.cons .non (.cons (.bin .Add (.int 3) (.call "_law_take" (.cons (.var 0) (.cons (.int 14) .nil)))) .nil)))) (.call "_law_take" (.cons (.var 0) (.cons (.int 3) .nil)))) .nil)))))))
  .nil))) .nil)
  (.cons (.asg (.name 1) (.lst (.cons (.bin .Add (.int 1) (.call "_law_take" (.cons (.var 0) (.cons (.int 2) .nil)))) (.cons (.bin .Add (.int 1) (.call "_law_take" (.cons (.var 0) (.cons (.int 2) .nil)))) .nil))))
  (.cons (.asg (.name 2) (.comp (.bin .Add (.var 3) (.call "_law_take" (.cons (.var 0) (.cons (.int 4) .nil)))) [3] (.name 3) (.val (.var 1)) .none .nil))
  (.cons (.ret (.tup (.cons (.idx (.var 1) (.int 0)) (.cons (.idx (.var 2) (.int 0)) (.cons (.idx (.var 1) (.int 1)) (.cons (.idx (.var 2) (.int 1)) (.cons (.idx (.lst (.cons .non (.cons .non (.cons (.bin .Add (.int 1) (.call "_law_take" (.cons (.var 0) (.cons (.int 6) .nil)))) .nil)))) (.call "_law_take" (.cons (.var 0) (.cons (.int 3) .nil)))) .nil)))))))
  .nil))))
open SR TM BD BE TE
theorem xh' {C:Rc} {H:Hp} {Q:VK} {a:Addr} {y r:Int} (h:H a=some (.lst [.non,.non,.int y])) (h0:0<=r) (h1:r<3) (hy:0<=y) (q:∀o:Option Nat,(∀s,o=some s->(s:Int)=y)->Q (oV o) H):hv' C.K (.ref a) (.int r) H Q\/hH' C.K (.ref a) (.int r) H Q:=by
 obtain⟨k,rfl⟩:=ba h0
 have hk:k=0\/k=1\/k=2:=by omega
 rcases hk with rfl|rfl|rfl
 .exact aW' (SqL.of h) (v:=.non) rfl (q none fun _ z=>(nomatch z))
 .exact aW' (SqL.of h) (v:=.non) rfl (q none fun _ z=>(nomatch z))
 .refine aW' (SqL.of h) (v:=.int y) rfl ?_
  have:=q (some y.toNat) fun s z=>by cases z;omega
  rw[show oV (some y.toNat)=.int y by show V.int (y.toNat:Int)=_;rw[Int.toNat_of_nonneg hy]]at this
  exact this
def bT':Sp:=fun vs H Q _=>∃(b:Addr) (n:Nat),vs=[.ref b]/\H b=some (dH' b n)/\n<=2 ^ 39/\∀(p:Addr) (l0 h0 l1 h1:Nat) (sp:Option Nat) (H':Hp),Go 20 H H'->IsB H' p l0 h0 l1 h1 sp->1<=l0->l0<=h0->1<=l1->l1<=h1->Q (.ref p) H'
theorem g3' {C:Rc} (hN:C.N.length=4) (hT:C.fs "_law_take"=some bk'):∀vs H Q E,bT' vs H Q E->tSs C dN' { nx:=fun _ H'=>Q .non H',rt:=Q } (L2.aQ' C.N vs) H:=by
 intro vs H Q E h
 obtain⟨b,n,rfl,hb,hn,q⟩:=h
 rw[ap' hN]
 unfold dN'
 symm
 refine ag' hT ?_
 symm
 refine⟨b,n,_,rfl,hb,⋯,⋯,⋯,fun r0 H0 h00 h01 g0=>?_⟩
 obtain⟨n0,hb0,hn0,_⟩:=g0.boxed hb ⋯
 symm
 refine a3' (fun hq=>?_) fun hq=>?_
 .symm
  refine ag' hT ?_
  symm
  refine⟨b,n0,_,rfl,hb0,⋯,⋯,⋯,fun r1 H1 h10 h11 g1=>?_⟩
  obtain⟨r1,rfl⟩:=ba h10
  obtain⟨n1,hb1,hn1,_⟩:=g1.boxed hb0 ⋯
  symm
  refine ag' hT ?_
  symm
  refine⟨b,n1,_,rfl,hb1,⋯,⋯,⋯,fun r2 H2 h20 h21 g2=>?_⟩
  obtain⟨r2,rfl⟩:=ba h20
  obtain⟨n2,hb2,hn2,_⟩:=g2.boxed hb1 ⋯
  symm
  refine⟨by decide,fun pl hpl=>?_⟩
  have g3:Go 3 H (upd H2 pl (.lst [.int (1+r1),.int (1+r2)])):=(((g0.trans g1).trans g2).trans (Go.new (c:=0) hpl _)).mono ⋯
  have hpl3:upd H2 pl (.lst [.int (1+r1),.int (1+r2)]) pl=some (.lst ([1+r1,1+r2].map nV)):=by
   rw[ab']
   show some (HO.lst [.int (1+(r1:Int)),.int (1+(r2:Int))])=some (HO.lst [.int ((1+r1:Nat):Int),.int ((1+r2:Nat):Int)])
   rw[show(1:Int)+r1=((1+r1:Nat):Int) by omega,show(1:Int)+r2=((1+r2:Nat):Int) by omega]
  generalize upd H2 pl (.lst [.int (1+r1),.int (1+r2)])=H3 at g3 hpl3 ⊢
  symm
  refine aV' (SqL.of hpl3) (ev' (vs:=[1+r1,1+r2].map nV) (fun i xs H'=>(∃hs:List Nat,xs=hs.map nV/\hs.length=i/\i<=2/\bV' (fun(h lo:Nat)=>lo<=h/\h<=8) hs ([1+r1,1+r2].take i))/\Go i H3 H') ⟨⟨[],rfl,rfl,⋯,trivial⟩,Go.refl⟩ (fun i xs H' pv=>SqL.of (pv.2.lst hpl3)) ?_ ?_)
  .rintro i xs H4 x R hx ⟨⟨hs,rfl,hsl,hi2,hs8⟩,g4⟩ hR
   rw[ao]at hx
   cases er:[1+r1,1+r2][i]? with
   |none=>rw[er]at hx;cases hx
   |some lo=>
   rw[er]at hx
   cases hx
   have hi:=al' er
   simp only[bb,cR]at hi
   have hlo:lo<=8:=by
    have:=aq er
    simp only[ay,aB,or_false]at this
    rcases this with rfl|rfl<;>omega
   obtain⟨n4,hb4,hn4,_⟩:=(g3.trans g4).boxed hb ⋯
   simp only[nV]
   symm
   refine ag' hT ?_
   symm
   refine⟨b,n4,_,rfl,hb4,⋯,⋯,⋯,fun r5 H5 h50 h51 g5=>?_⟩
   obtain⟨r5,rfl⟩:=ba h50
   symm
   refine⟨by rw[ac];exact an' ⋯,hR _ _ ⟨⟨hs++[lo+r5],by rw[aM];rfl,by simp[hsl],⋯,by rw[bj,er];exact hs8.snoc ⟨⋯,⋯⟩⟩,g4.trans g5⟩⟩
  .rintro xs H4 ⟨⟨hs,rfl,hsl,_,hs8⟩,g4⟩ ph hph
   have hsl:hs.length=2:=hsl
   have g4:Go 2 H3 H4:=g4
   obtain⟨y1,y2,rfl⟩:∃y1 y2,hs=[y1,y2]:=by
    match hs,hsl with
    | [y1,y2],_=>exact⟨y1,y2,rfl⟩
   obtain⟨⟨a1,a2⟩,⟨b1,b2⟩,_⟩:=hs8
   have g5:Go 5 H (upd H4 ph (.lst ([y1,y2].map nV))):=((g3.trans g4).trans (Go.new (c:=0) hph _)).mono ⋯
   have hph5:upd H4 ph (.lst ([y1,y2].map nV)) ph=some (.lst ([y1,y2].map nV)):=ab'
   have hpl5:=(Go.new (c:=0) hph (.lst ([y1,y2].map nV))).lst (g4.lst hpl3)
   generalize upd H4 ph (.lst ([y1,y2].map nV))=H5 at g5 hph5 hpl5 ⊢
   obtain⟨n5,hb5,hn5,_⟩:=g5.boxed hb ⋯
   symm
   refine aW' (SqL.of hpl5) (v:=nV (1+r1)) rfl ?_
   symm
   refine aW' (SqL.of hph5) (v:=nV y1) rfl ?_
   symm
   refine aW' (SqL.of hpl5) (v:=nV (1+r2)) rfl ?_
   symm
   refine aW' (SqL.of hph5) (v:=nV y2) rfl ?_
   symm
   refine ag' hT ?_
   symm
   refine⟨b,n5,_,rfl,hb5,⋯,⋯,⋯,fun r6 H6 h60 h61 g6=>?_⟩
   symm
   refine⟨by decide,fun p7 hp7=>?_⟩
   have g7:Go 6 H (upd H6 p7 (.lst [.non,.non,.int (3+r6)])):=((g5.trans g6).trans (Go.new (c:=0) hp7 _)).mono ⋯
   have h7:upd H6 p7 (.lst [.non,.non,.int (3+r6)]) p7=some (.lst [.non,.non,.int (3+r6)]):=ab'
   generalize upd H6 p7 (.lst [.non,.non,.int (3+r6)])=H7 at g7 h7 ⊢
   obtain⟨n7,hb7,hn7,_⟩:=g7.boxed hb ⋯
   refine ag' hT ?_
   symm
   refine⟨b,n7,_,rfl,hb7,⋯,⋯,⋯,fun r8 H8 h80 h81 g8=>?_⟩
   symm
   refine xh' (g8.lst h7) h80 h81 ⋯ fun sp hsp=>?_
   symm
   refine⟨by show 5<=sizeLine;decide,fun p9 hp9=>?_⟩
   refine q p9 (1+r1) y1 (1+r2) y2 sp _ (((g7.trans g8).trans (Go.new (c:=0) hp9 _)).mono ⋯) ⟨ab',a2,b2,fun s z=>?_⟩ ⋯ a1 ⋯ b1
   have:=hsp s z
   omega
 .symm
  refine ag' hT ?_
  symm
  refine⟨b,n0,_,rfl,hb0,⋯,⋯,⋯,fun r1 H1 h10 h11 g1=>?_⟩
  obtain⟨r1,rfl⟩:=ba h10
  obtain⟨n1,hb1,hn1,_⟩:=g1.boxed hb0 ⋯
  symm
  refine ag' hT ?_
  symm
  refine⟨b,n1,_,rfl,hb1,⋯,⋯,⋯,fun r2 H2 h20 h21 g2=>?_⟩
  obtain⟨r2,rfl⟩:=ba h20
  obtain⟨n2,hb2,hn2,_⟩:=g2.boxed hb1 ⋯
  symm
  refine⟨by decide,fun pl hpl=>?_⟩
  have g3:Go 3 H (upd H2 pl (.lst [.int (1+r1),.int (1+r2)])):=(((g0.trans g1).trans g2).trans (Go.new (c:=0) hpl _)).mono ⋯
  have hpl3:upd H2 pl (.lst [.int (1+r1),.int (1+r2)]) pl=some (.lst ([1+r1,1+r2].map nV)):=by
   rw[ab']
   show some (HO.lst [.int (1+(r1:Int)),.int (1+(r2:Int))])=some (HO.lst [.int ((1+r1:Nat):Int),.int ((1+r2:Nat):Int)])
   rw[show(1:Int)+r1=((1+r1:Nat):Int) by omega,show(1:Int)+r2=((1+r2:Nat):Int) by omega]
  generalize upd H2 pl (.lst [.int (1+r1),.int (1+r2)])=H3 at g3 hpl3 ⊢
  symm
  refine aV' (SqL.of hpl3) (ev' (vs:=[1+r1,1+r2].map nV) (fun i xs H'=>(∃hs:List Nat,xs=hs.map nV/\hs.length=i/\i<=2/\bV' (fun(h lo:Nat)=>lo<=h/\h<=8) hs ([1+r1,1+r2].take i))/\Go i H3 H') ⟨⟨[],rfl,rfl,⋯,trivial⟩,Go.refl⟩ (fun i xs H' pv=>SqL.of (pv.2.lst hpl3)) ?_ ?_)
  .rintro i xs H4 x R hx ⟨⟨hs,rfl,hsl,hi2,hs8⟩,g4⟩ hR
   rw[ao]at hx
   cases er:[1+r1,1+r2][i]? with
   |none=>rw[er]at hx;cases hx
   |some lo=>
   rw[er]at hx
   cases hx
   have hi:=al' er
   simp only[bb,cR]at hi
   have hlo:lo<=2:=by
    have:=aq er
    simp only[ay,aB,or_false]at this
    rcases this with rfl|rfl<;>omega
   obtain⟨n4,hb4,hn4,_⟩:=(g3.trans g4).boxed hb ⋯
   simp only[nV]
   symm
   refine ag' hT ?_
   symm
   refine⟨b,n4,_,rfl,hb4,⋯,⋯,⋯,fun r5 H5 h50 h51 g5=>?_⟩
   obtain⟨r5,rfl⟩:=ba h50
   symm
   refine⟨by rw[ac];exact an' ⋯,hR _ _ ⟨⟨hs++[lo+r5],by rw[aM];rfl,by simp[hsl],⋯,by rw[bj,er];exact hs8.snoc ⟨⋯,⋯⟩⟩,g4.trans g5⟩⟩
  .rintro xs H4 ⟨⟨hs,rfl,hsl,_,hs8⟩,g4⟩ ph hph
   have hsl:hs.length=2:=hsl
   have g4:Go 2 H3 H4:=g4
   obtain⟨y1,y2,rfl⟩:∃y1 y2,hs=[y1,y2]:=by
    match hs,hsl with
    | [y1,y2],_=>exact⟨y1,y2,rfl⟩
   obtain⟨⟨a1,a2⟩,⟨b1,b2⟩,_⟩:=hs8
   have g5:Go 5 H (upd H4 ph (.lst ([y1,y2].map nV))):=((g3.trans g4).trans (Go.new (c:=0) hph _)).mono ⋯
   have hph5:upd H4 ph (.lst ([y1,y2].map nV)) ph=some (.lst ([y1,y2].map nV)):=ab'
   have hpl5:=(Go.new (c:=0) hph (.lst ([y1,y2].map nV))).lst (g4.lst hpl3)
   generalize upd H4 ph (.lst ([y1,y2].map nV))=H5 at g5 hph5 hpl5 ⊢
   obtain⟨n5,hb5,hn5,_⟩:=g5.boxed hb ⋯
   symm
   refine aW' (SqL.of hpl5) (v:=nV (1+r1)) rfl ?_
   symm
   refine aW' (SqL.of hph5) (v:=nV y1) rfl ?_
   symm
   refine aW' (SqL.of hpl5) (v:=nV (1+r2)) rfl ?_
   symm
   refine aW' (SqL.of hph5) (v:=nV y2) rfl ?_
   symm
   refine ag' hT ?_
   symm
   refine⟨b,n5,_,rfl,hb5,⋯,⋯,⋯,fun r6 H6 h60 h61 g6=>?_⟩
   symm
   refine⟨by decide,fun p7 hp7=>?_⟩
   have g7:Go 6 H (upd H6 p7 (.lst [.non,.non,.int (1+r6)])):=((g5.trans g6).trans (Go.new (c:=0) hp7 _)).mono ⋯
   have h7:upd H6 p7 (.lst [.non,.non,.int (1+r6)]) p7=some (.lst [.non,.non,.int (1+r6)]):=ab'
   generalize upd H6 p7 (.lst [.non,.non,.int (1+r6)])=H7 at g7 h7 ⊢
   obtain⟨n7,hb7,hn7,_⟩:=g7.boxed hb ⋯
   refine ag' hT ?_
   symm
   refine⟨b,n7,_,rfl,hb7,⋯,⋯,⋯,fun r8 H8 h80 h81 g8=>?_⟩
   symm
   refine xh' (g8.lst h7) h80 h81 ⋯ fun sp hsp=>?_
   symm
   refine⟨by show 5<=sizeLine;decide,fun p9 hp9=>?_⟩
   refine q p9 (1+r1) y1 (1+r2) y2 sp _ (((g7.trans g8).trans (Go.new (c:=0) hp9 _)).mono ⋯) ⟨ab',a2,b2,fun s z=>?_⟩ ⋯ a1 ⋯ b1
   have:=hsp s z
   omega
def bd (M:List Rm) (b:Bool) (p:Nat):Option Nat:=if b then fs2 M p else fs1 M p
theorem xi' {n:Nat} {l:List Nat} (h:l.Nodup) (hs:∀i∈l,i<n):l.length<=n:=by
 have:=rA' (l:=l.map Int.ofNat) (b:=(aG n).map Int.ofNat) (jh' (fun x y e=>Int.ofNat.inj e) h) fun i hi=>by
  obtain⟨x,hx,rfl⟩:=az.mp hi
  exact List.mem_map_of_mem (aK.mpr (hs x hx))
 rw[ac,ac,bf]at this
 exact this
def sS (os:List (Option Nat)):Option Int->Bool:=fun k=>os.any fun o=>o.isSome&&decide (k=oI o)
theorem sY' {os:List (Option Nat)} {o:Option Nat}:sS (os++[o])=fun k=>sS os k || (o.isSome&&decide (k=oI o)):=by
 funext k
 unfold sS
 rw[List.any_append]
 simp
theorem sZ' {os:List (Option Nat)}:sS os none=false:=by
 unfold sS
 rw[List.any_eq_false]
 intro o _
 cases o with
 |none=>simp
 |some n=>simp[oI]
theorem iw' {os:List (Option Nat)} {i:Int}:sS os (some i)=true↔∃n:Nat,some n∈os/\i=n:=by
 unfold sS
 rw[bL]
 constructor
 .rintro⟨o,ho,h⟩
  cases o with
  |none=>simp at h
  |some n=>
   have:some i=oI (some n):=by simpa using h
   exact⟨n,ho,Option.some.inj this⟩
 .rintro⟨n,hn,rfl⟩
  exact⟨some n,hn,by simp[oI]⟩
theorem Ao' {M:List Rm} (hO:OkM M) {b:Bool} {p r:Nat} (h:bd M b p=some r):r<M.length:=by
 obtain⟨h1,h2⟩:=Am' hO (r:=p) (n:=r)
 cases b with
 |true=>exact h2 h
 |false=>exact h1 h
theorem s0' {us:List Int} (h:us.Pairwise (· < ·)) (h0:∀i∈us,0<=i):∃bs:List Nat,bs.Pairwise (· < ·)/\us.map V.int=bs.map nV/\∀r:Nat,r∈bs↔(r:Int)∈us:=by
 refine⟨us.map Int.toNat,?_,?_,fun r=>?_⟩
 .rw[bF]
  refine List.Pairwise.imp_of_mem (fun {a b} ha hb z=>?_) h
  have:=h0 a ha
  have:=h0 b hb
  omega
 .rw[aX]
  apply cm
  intro i hi
  show V.int i=V.int (i.toNat:Nat)
  rw[Int.toNat_of_nonneg (h0 i hi)]
 .rw[az]
  constructor
  .rintro⟨i,hi,rfl⟩
   rw[Int.toNat_of_nonneg (h0 i hi)]
   exact hi
  .intro hi
   exact⟨r,hi,by simp⟩
end K04
namespace K06
open PySem PySem.Spec PyProof.Rows L2 R3 LW
def dO':Css:=(.cons (.asg (.tup (.cons (.name 3) (.cons (.name 4) (.cons (.name 5) .nil)))) (.var 1))
  (.cons (.ite (.cmp .IsNot (.idx (.var 0) (.int 4)) .non) (.cons (.asg (.name 5) (.bin .Add (.var 5) (.idx (.lst (.cons (.neg (.int 1)) (.cons (.int 1) .nil))) (.var 2))))
  (.cons (.ite (.or (.cmp .Lt (.var 5) (.int 0)) (.cmp .Gt (.var 5) (.idx (.var 0) (.int 4)))) (.cons (.ret .non)
  .nil) .nil)
  .nil)) .nil)
  (.cons (.ite (.cmp .Eq (.var 2) (.var 3)) (.cons (.ret (.ife (.cmp .LtE (.bin .Add (.var 4) (.int 1)) (.idx (.lst (.cons (.idx (.var 0) (.int 1)) (.cons (.idx (.var 0) (.int 3)) .nil))) (.var 2))) (.tup (.cons (.var 2) (.cons (.bin .Add (.var 4) (.int 1)) (.cons (.var 5) .nil)))) .non))
  .nil) .nil)
  (.cons (.ret (.ife (.cmp .GtE (.var 4) (.idx (.lst (.cons (.idx (.var 0) (.int 0)) (.cons (.idx (.var 0) (.int 2)) .nil))) (.var 3))) (.tup (.cons (.var 2) (.cons (.int 1) (.cons (.var 5) .nil)))) .non))
  .nil))))
def fU':Css:=(.cons (.ret (.or (.din false (.call "_law_behind" (.cons (.var 0) (.cons (.var 2) (.cons (.int 0) .nil)))) (.var 1)) (.din false (.call "_law_behind" (.cons (.var 0) (.cons (.var 2) (.cons (.int 1) .nil)))) (.var 1))))
  .nil)
def dg':Css:=(.cons (.asg (.name 1) .dnt)
  (.cons (.for_ (.name 2) (.val (.tup (.cons (.int 0) (.cons (.int 1) .nil)))) (.cons (.for_ (.name 3) (.range2 (.int 1) (.bin .Add (.idx (.lst (.cons (.idx (.var 0) (.int 1)) (.cons (.idx (.var 0) (.int 3)) .nil))) (.var 2)) (.int 1))) (.cons (.for_ (.name 4) (.range1 (.bin .Add (.orv (.idx (.var 0) (.int 4)) (.int 0)) (.int 1))) (.cons (.dput (.var 1) (.tup (.cons (.var 2) (.cons (.var 3) (.cons (.var 4) .nil)))) (.bl true))
  .nil))
  .nil))
  .nil))
  (.cons (.asg (.name 5) (.neg (.int 1)))
  (.cons (.whl (.cmp .NotEq (.var 5) (.blt .lenD (.cons (.var 1) .nil))) (.cons (.asg (.name 5) (.blt .lenD (.cons (.var 1) .nil)))
  (.cons (.asg (.name 6) .dnn)
  (.cons (.for_ (.name 7) (.dk (.var 1)) (.cons (.for_ (.name 2) (.val (.tup (.cons (.int 0) (.cons (.int 1) .nil)))) (.cons (.dput (.var 6) (.call "_law_behind" (.cons (.var 0) (.cons (.var 7) (.cons (.var 2) .nil)))) (.bl true))
  .nil))
  .nil))
  (.cons (.asg (.name 1) (.cal .dct (.comp (.tup (.cons (.var 7) (.cons (.bl true) .nil))) [7] (.name 7) (.dk (.var 1)) (.some (.and (.din false (.var 7) (.var 6)) (.val (.call "_law_leads" (.cons (.var 0) (.cons (.var 1) (.cons (.var 7) .nil))))))) .nil)))
  .nil)))))
  (.cons (.ret (.var 1))
  .nil)))))
open TM BD BE TE
def ot (sp:Option Nat) (l:Int):Bool:=match sp with
 |none=>false
 |some m=>decide (l<0) || decide (l > m)
def lb (l0 h0 l1 h1:Nat) (sp:Option Nat) (k:K3) (c:Nat):Option K3:=
 if ot sp (lvl sp k.2.2 c)=true then none
 else if c=k.1 then(if k.2.1+1<=(if c=1 then h1 else h0)then some (c,k.2.1+1,(lvl sp k.2.2 c).toNat)else none)
 else if(if k.1=1 then l1 else l0)<=k.2.1 then some (c,1,(lvl sp k.2.2 c).toNat)else none
theorem at2 {x y:V} {c:Nat} (hc:c<2):atI [x,y] (c:Int)=some (if c=1 then y else x):=by
 rcases(by omega:c=0\/c=1)with rfl|rfl
 .rfl
 .rfl
def dx':Sp:=fun vs H Q _=>∃(bd rm:Addr) (l0 h0 l1 h1:Nat) (sp:Option Nat) (k:K3) (c:Nat),vs=[.ref bd,.ref rm,.int c]/\IsB H bd l0 h0 l1 h1 sp/\H rm=some (.tup [nV k.1,nV k.2.1,nV k.2.2])/\c<2/\k.1<2/\(lb l0 h0 l1 h1 sp k c=none->∀H',av' H H'->Q .non H')/\∀k',lb l0 h0 l1 h1 sp k c=some k'->∀(p:Addr) (H':Hp),av' H H'->H' p=some (.tup [nV k'.1,nV k'.2.1,nV k'.2.2])->Q (.ref p) H'
theorem pc' {C:Rc} (hN:C.N.length=6):∀vs H Q E,dx' vs H Q E->tSs C dO' { nx:=fun _ H'=>Q .non H',rt:=Q } (L2.aQ' C.N vs) H:=by
 intro vs H Q E h
 obtain⟨bd,rm,l0,h0,l1,h1,sp,⟨b,pl,lv⟩,c,rfl,hB,hrm,hc,hb,q1,q2⟩:=h
 have hb:b<2:=hb
 rw[ap' hN]
 unfold dO'
 symm
 rw[gU']
 symm
 refine mj' (SqT.of hrm) ?_
 simp only[nV,ja',List.set_cons_zero,List.set_cons_succ]
 symm
 refine aC' (SqT.of hB.at') (v:=oV sp) rfl ?_
 generalize hD:nf' C _ _=D
 have as':∀(lev:Nat) (H1:Hp),lvl sp lv c=lev->(∀m,sp=some m->lev<=m)->av' H H1->D.nx [some (.ref bd),some (.ref rm),some (.int c),some (.int b),some (.int pl),some (.int lev)] H1:=by
  intro lev H1 hlev hm s1
  have hB1:=(hB.mono (af' s1)).at'
  have e:lb l0 h0 l1 h1 sp (b,pl,lv) c=if c=b then(if pl+1<=(if c=1 then h1 else h0)then some (c,pl+1,lev)else none)else if(if b=1 then l1 else l0)<=pl then some (c,1,lev)else none:=by
   unfold lb
   dsimp only
   rw[hlev,bc,if_neg]
   cases sp with
   |none=>exact fun z=>by cases z
   |some m=>
    have:=hm m rfl
    unfold ot
    rw[aR,decide_eq_true_eq,decide_eq_true_eq]
    omega
  rw[<- hD]
  symm
  refine a3' (fun hq=>?_) fun hq=>?_
  .have hq:c=b:=by omega
   subst hq
   rw[if_pos rfl]at e
   symm
   refine aC' (SqT.of hB1) (v:=nV h0) rfl ?_
   symm
   refine aC' (SqT.of hB1) (v:=nV h1) rfl ?_
   symm
   refine⟨by decide,fun p hp=>?_⟩
   obtain⟨s2,h2⟩:=snw hp (.lst [nV h0,nV h1])
   generalize upd H1 p _=H2 at s2 h2 ⊢
   refine aW' (SqL.of h2) (at2 hc) ?_
   rw[show(if c=1 then nV h1 else nV h0)=V.int ((if c=1 then h1 else h0:Nat):Int) by split<;>rfl]
   symm
   refine a3' (fun hx=>?_) fun hx=>?_
   .symm
    refine⟨by decide,fun p3 hp3=>?_⟩
    obtain⟨s3,h3⟩:=snw hp3 (.tup [.int c,.int ((pl:Int)+1),.int lev])
    exact q2 (c,pl+1,lev) (by rw[e,if_pos ⋯]) p3 _ (s1.trans (s2.trans s3)) h3
   .symm
    exact q1 (by rw[e,if_neg ⋯]) _ (s1.trans s2)
  .have hq:¬c=b:=by omega
   rw[if_neg hq]at e
   symm
   refine aC' (SqT.of hB1) (v:=nV l0) rfl ?_
   symm
   refine aC' (SqT.of hB1) (v:=nV l1) rfl ?_
   symm
   refine⟨by decide,fun p hp=>?_⟩
   obtain⟨s2,h2⟩:=snw hp (.lst [nV l0,nV l1])
   generalize upd H1 p _=H2 at s2 h2 ⊢
   refine aW' (SqL.of h2) (at2 hb) ?_
   rw[show(if b=1 then nV l1 else nV l0)=V.int ((if b=1 then l1 else l0:Nat):Int) by split<;>rfl]
   symm
   refine a3' (fun hx=>?_) fun hx=>?_
   .symm
    refine⟨by decide,fun p3 hp3=>?_⟩
    obtain⟨s3,h3⟩:=snw hp3 (.tup [.int c,.int 1,.int lev])
    exact q2 (c,1,lev) (by rw[e,if_pos ⋯]) p3 _ (s1.trans (s2.trans s3)) h3
   .symm
    exact q1 (by rw[e,if_neg ⋯]) _ (s1.trans s2)
 cases sp with
 |none=>
  simp only[oV]
  symm
  exact as' lv H rfl (fun m z=>nomatch z) (av'.refl _)
 |some m=>
  simp only[oV]
  symm
  refine⟨by decide,fun p hp=>?_⟩
  obtain⟨s2,h2⟩:=snw hp (.lst [.int (-1),.int 1])
  generalize upd H p _=H2 at s2 h2 ⊢
  refine aW' (SqL.of h2) (at2 hc) ?_
  rw[show(if c=1 then V.int 1 else V.int (-1))=V.int (if c=1 then 1 else -1) by split<;>rfl]
  symm
  have e2:lvl (some m) lv c=(lv:Int)+if c=1 then 1 else -1:=rfl
  rw[<- e2]
  have out:(lvl (some m) lv c<0\/lvl (some m) lv c > m)->lb l0 h0 l1 h1 (some m) (b,pl,lv) c=none:=fun z=>by
   unfold lb
   exact if_pos (by unfold ot;rw[aR,decide_eq_true_eq,decide_eq_true_eq];exact z)
  have hrt:D.rt=Q:=by rw[<- hD];rfl
  refine a3' (fun hx=>?_) fun hx=>?_
  .symm
   rw[hrt]
   exact q1 (out (.inl hx)) _ s2
  .symm
   refine aC' (SqT.of ((hB.mono (af' s2)).at')) (v:=oV (some m)) rfl ?_
   simp only[oV]
   symm
   refine a3' (fun hy=>?_) fun hy=>?_
   .symm
    rw[hrt]
    exact q1 (out (.inr hy)) _ s2
   .symm
    have:=as' (lvl (some m) lv c).toNat H2 ⋯ (fun m' z=>by cases z;omega) s2
    rw[show(((lvl (some m) lv c).toNat:Nat):Int)=lvl (some m) lv c by omega]at this
    exact this
def dK3 (ks:List K3):List (List Key×V):=ks.map fun k=>(kK k,V.bl true)
def dI' (k:K3):Prop:=k.1<2/\k.2.1<9/\k.2.2<17
theorem mP' {a b:K3} (h:BD.kI a=BD.kI b):a=b:=by
 obtain⟨a1,a2,a3⟩:=a
 obtain⟨b1,b2,b3⟩:=b
 unfold BD.kI at h
 simp only[List.cons.injEq]at h
 obtain⟨h1,h2,h3,_⟩:=h
 have h1:(a1:Int)=b1:=h1
 have h2:(a2:Int)=b2:=h2
 have h3:(a3:Int)=b3:=h3
 congr 1
 .omega
 .congr 1<;>omega
theorem gZ' {a b:K3} (h:kK a=kK b):a=b:=mP' (List.map_inj_right (fun x y z=>by injection z) |>.mp h)
theorem fV' {k:K3}:∀{ks:List K3},eL' (dK3 ks) (kK k)=if k∈ks then some (.bl true)else none
 | []=>by simp[dK3,eL']
 |a :: ks=>by
  by_cases h:a=k
  .subst h
   rw[show dK3 (a :: ks)=(kK a,V.bl true) :: dK3 ks from rfl,cT' rfl]
   simp
  .rw[show dK3 (a :: ks)=(kK a,V.bl true) :: dK3 ks from rfl,cU' (fun z=>h (gZ' z)),fV']
   have hx:¬k=a:=fun z=>h z.symm
   simp only[ay,hx,false_or]
theorem dy' {k:K3} (h:dI' k):hT (BD.kI k)≠NH:=xf' ⟨k.1,h.1⟩ ⟨k.2.1,h.2.1⟩ ⟨k.2.2,h.2.2⟩
theorem mQ' {H:Hp} {p:Addr} {ks:List K3} (hs:∀k∈ks,dI' k) (h:Rd H p (.dT (dK3 ks))):NoR H p:=⟨_,h,fun kv hkv=>by
 obtain⟨k,hk,rfl⟩:=az.mp hkv
 exact⟨BD.kI k,rfl,dy' (hs k hk)⟩⟩
def inK (ks:List K3):Option K3->Bool
 |none=>false
 |some k=>decide (k∈ks)
theorem jl' {H:Hp} {p:Addr} {k:K3} (h:H p=some (.tup [nV k.1,nV k.2.1,nV k.2.2])):H p=some (.tup ((kK k).map L2.kV)):=h
theorem ix' {H H':Hp} {a:Addr} {o:HO} (s:av' H H') (h:Rd H a o):Rd H' a o:=by
 rcases h with h|⟨z,h⟩
 .exact .inl (s _ _ h)
 .exact .inr ⟨z,s _ _ h⟩
theorem qm' {C:Rc} (hBe:C.fs "_law_behind"=some dx') {H:Hp} {Q:VK} {bd D rm:Addr} {l0 h0 l1 h1:Nat} {sp:Option Nat} {ks:List K3} {k:K3} {c:Nat} (hB:IsB H bd l0 h0 l1 h1 sp) (hD:Rd H D (.dT (dK3 ks))) (hs:∀k∈ks,dI' k) (hrm:H rm=some (.tup [nV k.1,nV k.2.1,nV k.2.2])) (hk:k.1<2) (hc:c<2)
  (q:∀H',av' H H'->Q (.bl (inK ks (lb l0 h0 l1 h1 sp k c))) H'):tE C (.din false (.call "_law_behind" (.cons (.var 0) (.cons (.var 2) (.cons (.int (c:Int)) .nil)))) (.var 1)) [some (.ref bd),some (.ref D),some (.ref rm)] H Q:=by
 symm
 refine ag' hBe ?_
 symm
 refine⟨bd,rm,l0,h0,l1,h1,sp,k,c,rfl,hB,hrm,hc,hk,fun e H1 s1=>?_,fun k' e p H1 s1 hp=>?_⟩
 .have:=q H1 s1
  rw[e]at this
  symm
  exact mq' (mQ' hs (ix' s1 hD)) this
 .have:=q H1 s1
  rw[e]at this
  symm
  refine qd' (.inr ⟨_,kK k',p,ix' s1 hD,rfl,jl' hp,rfl⟩) ?_
  rw[fV']
  by_cases hin:k'∈ks
  .rw[show inK ks (some k')=true from decide_eq_true hin]at this
   rw[if_pos hin]
   exact this
  .rw[show inK ks (some k')=false from decide_eq_false hin]at this
   rw[if_neg hin]
   exact this
def tI':Sp:=fun vs H Q _=>∃(bd D rm:Addr) (l0 h0 l1 h1:Nat) (sp:Option Nat) (ks:List K3) (k:K3),vs=[.ref bd,.ref D,.ref rm]/\IsB H bd l0 h0 l1 h1 sp/\Rd H D (.dT (dK3 ks))/\(∀k∈ks,dI' k)/\H rm=some (.tup [nV k.1,nV k.2.1,nV k.2.2])/\k.1<2/\∀H',av' H H'->Q (.bl (inK ks (lb l0 h0 l1 h1 sp k 0) || inK ks (lb l0 h0 l1 h1 sp k 1))) H'
theorem s1' {C:Rc} (hN:C.N.length=3) (hBe:C.fs "_law_behind"=some dx'):∀vs H Q E,tI' vs H Q E->tSs C fU' { nx:=fun _ H'=>Q .non H',rt:=Q } (L2.aQ' C.N vs) H:=by
 intro vs H Q E h
 obtain⟨bd,D,rm,l0,h0,l1,h1,sp,ks,k,rfl,hB,hD,hs,hrm,hk,q⟩:=h
 rw[ap' hN]
 unfold fU'
 rw[ij',vZ',wl']
 refine qm' (c:=0) hBe hB hD hs hrm hk (by decide) fun H1 s1=>?_
 cases e:inK ks (lb l0 h0 l1 h1 sp k 0)with
 |true=>
  rw[p2']
  have:=q H1 s1
  rw[e]at this
  exact this
 |false=>
  rw[p3']
  refine qm' (c:=1) hBe (hB.mono (af' s1)) (ix' s1 hD) hs (s1 _ _ hrm) hk (by decide) fun H2 s2=>?_
  have:=q H2 (s1.trans s2)
  rw[e]at this
  exact this
theorem eC' {sp:Option Nat} {l:Nat}:l∈lvs sp↔match sp with
  |none=>l=0
  |some m=>l<=m:=by
 cases sp with
 |none=>simp[lvs]
 |some m=>
  show l∈aG (m+1)↔l<=m
  rw[aK]
  omega
theorem eD' {sp:Option Nat} {h0 h1:Nat} {k:K3}:k∈rk (lvs sp) h0 h1↔k.1<2/\1<=k.2.1/\k.2.1<=(if k.1=1 then h1 else h0)/\k.2.2∈lvs sp:=by
 have key:∀{b h:Nat} {k:K3},k.1=b->1<=k.2.1->k.2.1<=h->k.2.2∈lvs sp->k∈r2 (lvs sp) b h:=by
  rintro b h ⟨k1,k2,k3⟩ e1 e2 e3 e4
  subst e1
  have e2:1<=k2:=e2
  have e3:k2<=h:=e3
  unfold r2 r1
  refine dv.mpr ⟨k2-1,aK.mpr ⋯,az.mpr ⟨k3,e4,?_⟩⟩
  show(k1,k2-1+1,k3)=(k1,k2,k3)
  rw[Nat.sub_add_cancel e2]
 unfold rk
 rw[aL]
 constructor
 .rintro(h|h)
  .obtain⟨e1,e2,e3,e4⟩:=bJ' h
   rw[e1]
   exact⟨by decide,e2,e3,e4⟩
  .obtain⟨e1,e2,e3,e4⟩:=bJ' h
   rw[e1]
   exact⟨by decide,e2,e3,e4⟩
 .rintro⟨e1,e2,e3,e4⟩
  by_cases h:k.1=1
  .rw[if_pos h]at e3
   exact .inr (key h e2 e3 e4)
  .rw[if_neg h]at e3
   exact .inl (key ⋯ e2 e3 e4)
theorem qn' {α:Type} [BEq α] [LawfulBEq α] {l:List α} (h:l.Nodup) {i:Nat} {a:α} (e:l[i]?=some a):l.idxOf a=i:=by
 have hm:=aq e
 have hi:=bI hm
 have e2:=List.getElem_idxOf hi
 obtain⟨hl,e⟩:=aN.mp e
 rcases Nat.lt_trichotomy (l.idxOf a) i with z|z|z
 .exact absurd (e2.trans e.symm) (bm.mp h _ _ hi hl z)
 .exact z
 .exact absurd (e.trans e2.symm) (bm.mp h _ _ hl hi z)
theorem br' {α:Type} [BEq α] [LawfulBEq α] {l:List α} {a:α} (h:a∈l):l[l.idxOf a]?=some a:=by
 have hi:=bI h
 rw[ae hi,List.getElem_idxOf hi]
section
variable {l0 h0 l1 h1:Nat} {sp:Option Nat}
theorem j6' (a0:1<=h0) (a1:1<=h1) {k:K3} (hk:k∈rk (lvs sp) h0 h1) {c:Nat} (hc:c<2):
  (∀k',lb l0 h0 l1 h1 sp k c=some k'->k'∈rk (lvs sp) h0 h1)/\ixK (rk (lvs sp) h0 h1) (bh l0 l1 sp k c)=(lb l0 h0 l1 h1 sp k c).map (rk (lvs sp) h0 h1).idxOf:=by
 obtain⟨b,pl,lv⟩:=k
 have hnd:=j3' (fk' (sp:=sp)) (h0:=h0) (h1:=h1)
 obtain⟨e1,e2,e3,e4⟩:=eD'.mp hk
 have e1:b<2:=e1
 have e2:1<=pl:=e2
 have e4:lv∈lvs sp:=e4
 have none_of:∀z:List Int,(∀k∈rk (lvs sp) h0 h1,BD.kI k≠z)->ixK (rk (lvs sp) h0 h1) (some z)=none:=fun z h=>mG' h
 have some_of:∀k':K3,k'∈rk (lvs sp) h0 h1->ixK (rk (lvs sp) h0 h1) (some (BD.kI k'))=some ((rk (lvs sp) h0 h1).idxOf k'):=fun k' h=>mH' hnd (br' h) rfl
 by_cases ho:ot sp (lvl sp lv c)=true
 .have el:lb l0 h0 l1 h1 sp (b,pl,lv) c=none:=by unfold lb;exact if_pos ho
  rw[el]
  refine⟨fun _ z=>(by cases z),?_⟩
  cases sp with
  |none=>cases ho
  |some m=>
   unfold ot at ho
   rw[aR,decide_eq_true_eq,decide_eq_true_eq]at ho
   have no:∀x y:Int,ixK (rk (lvs (some m)) h0 h1) (some [x,y,lvl (some m) lv c])=none:=fun x y=>none_of _ fun k' hk' z=>by
    have h3:=eC'.mp (eD'.mp hk').2.2.2
    have h3:k'.2.2<=m:=h3
    unfold BD.kI at z
    simp only[List.cons.injEq]at z
    obtain⟨_,_,z,_⟩:=z
    omega
   unfold bh
   split
   .exact no _ _
   .by_cases hz:pl<(if b=1 then l1 else l0)
    .rw[show(if(b,pl,lv).2.1<(if(b,pl,lv).1=1 then l1 else l0)then none else some [(c:Int),1,lvl (some m) (b,pl,lv).2.2 c])=none from if_pos hz]
     rfl
    .rw[show(if(b,pl,lv).2.1<(if(b,pl,lv).1=1 then l1 else l0)then none else some [(c:Int),1,lvl (some m) (b,pl,lv).2.2 c])=_ from if_neg hz]
     exact no _ _
 .have hl:∃n:Nat,lvl sp lv c=n/\n∈lvs sp:=by
   cases sp with
   |none=>exact⟨lv,rfl,e4⟩
   |some m=>
    unfold ot at ho
    rw[aR,decide_eq_true_eq,decide_eq_true_eq]at ho
    exact⟨(lvl (some m) lv c).toNat,⋯,eC'.mpr (show(lvl (some m) lv c).toNat<=m by omega)⟩
  obtain⟨n,hn,hn2⟩:=hl
  have el:lb l0 h0 l1 h1 sp (b,pl,lv) c=if c=b then(if pl+1<=(if c=1 then h1 else h0)then some (c,pl+1,n)else none)else if(if b=1 then l1 else l0)<=pl then some (c,1,n)else none:=by
   unfold lb
   rw[if_neg ho]
   show(if c=b then(if pl+1<=_ then some (c,pl+1,(lvl sp lv c).toNat)else none)else if _ then some (c,1,(lvl sp lv c).toNat)else none)=_
   rw[hn,bc]
  have eb:bh l0 l1 sp (b,pl,lv) c=if c=b then some [(c:Int),(pl:Int)+1,(n:Int)]else if pl<(if b=1 then l1 else l0)then none else some [(c:Int),1,(n:Int)]:=by
   unfold bh
   dsimp only
   rw[hn]
  rw[el,eb]
  by_cases hcb:c=b
  .rw[if_pos hcb,if_pos hcb]
   by_cases hp:pl+1<=(if c=1 then h1 else h0)
   .rw[if_pos hp]
    have hm:((c,pl+1,n):K3)∈rk (lvs sp) h0 h1:=eD'.mpr ⟨hc,by show 1<=pl+1;omega,hp,hn2⟩
    refine⟨fun k' z=>(by cases z;exact hm),?_⟩
    have:=some_of _ hm
    unfold BD.kI at this
    rw[show((pl:Int)+1)=((pl+1:Nat):Int) by omega]
    exact this
   .rw[if_neg hp]
    refine⟨fun k' z=>(by cases z),none_of _ fun k' hk' z=>?_⟩
    have h3:=(eD'.mp hk').2.2.1
    unfold BD.kI at z
    simp only[List.cons.injEq]at z
    obtain⟨z1,z2,_⟩:=z
    have z1:k'.1=c:=by omega
    rw[z1]at h3
    omega
  .rw[if_neg hcb,if_neg hcb]
   by_cases hp:pl<(if b=1 then l1 else l0)
   .rw[if_pos hp,if_neg ⋯]
    exact⟨fun k' z=>(by cases z),rfl⟩
   .rw[if_neg hp,if_pos ⋯]
    have hm:((c,1,n):K3)∈rk (lvs sp) h0 h1:=eD'.mpr ⟨hc,ag 1,(by show 1<=if c=1 then h1 else h0;split<;>omega),hn2⟩
    refine⟨fun k' z=>(by cases z;exact hm),?_⟩
    exact some_of _ hm
def nxl (l0 h0 l1 h1:Nat) (sp:Option Nat) (F:List K3):List K3:=F.filter fun k=>(F.any fun q=>decide (lb l0 h0 l1 h1 sp q 0=some k) || decide (lb l0 h0 l1 h1 sp q 1=some k))&&(inK F (lb l0 h0 l1 h1 sp k 0) || inK F (lb l0 h0 l1 h1 sp k 1))
def MxA (l0 h0 l1 h1:Nat) (sp:Option Nat):List Rm:=(rk (lvs sp) h0 h1).map (mx l0 l1 sp (rk (lvs sp) h0 h1))
theorem g4' {l0 l1:Nat} (a0:1<=h0) (a1:1<=h1) {r:Nat} {k:K3} (hk:(rk (lvs sp) h0 h1)[r]?=some k):fs1 (MxA l0 h0 l1 h1 sp) r=(lb l0 h0 l1 h1 sp k 0).map (rk (lvs sp) h0 h1).idxOf/\fs2 (MxA l0 h0 l1 h1 sp) r=(lb l0 h0 l1 h1 sp k 1).map (rk (lvs sp) h0 h1).idxOf:=by
 have hm:=aq hk
 unfold fs1 fs2 MxA
 rw[ao,hk]
 exact⟨(j6' a0 a1 hm (by decide)).2,(j6' a0 a1 hm (by decide)).2⟩
def Cov (l0 h0 l1 h1:Nat) (sp:Option Nat) (F:List K3):Prop:=∀S,Sus (MxA l0 h0 l1 h1 sp) S->∀r∈S,∀k,(rk (lvs sp) h0 h1)[r]?=some k->k∈F
theorem qo' {ks:List K3} {a b:K3} (ha:a∈ks) (h:ks.idxOf a=ks.idxOf b):a=b\/b∉ks:=by
 by_cases hb:b∈ks
 .left
  have e1:=br' ha
  rw[h,br' hb]at e1
  exact(Option.some.inj e1).symm
 .exact .inr hb
theorem g5' {l0 l1:Nat} (a0:1<=h0) (a1:1<=h1) {k q:K3} {c r:Nat} (hq:q∈rk (lvs sp) h0 h1) (hc:c<2) (hk:(rk (lvs sp) h0 h1)[r]?=some k) (h:(lb l0 h0 l1 h1 sp q c).map (rk (lvs sp) h0 h1).idxOf=some r):lb l0 h0 l1 h1 sp q c=some k:=by
 cases e:lb l0 h0 l1 h1 sp q c with
 |none=>rw[e]at h;cases h
 |some k'=>
  rw[e]at h
  injection h with h
  have h:(rk (lvs sp) h0 h1).idxOf k'=r:=h
  have hm:=(j6' a0 a1 hq hc).1 k' e
  have:=br' hm
  rw[h,hk]at this
  rw[Option.some.inj this]
theorem Cov.nx (a0:1<=h0) (a1:1<=h1) {F:List K3} (h:Cov l0 h0 l1 h1 sp F):Cov l0 h0 l1 h1 sp (nxl l0 h0 l1 h1 sp F):=by
 intro S hS r hr k hk
 obtain⟨_,⟨r1,hr1,e1⟩,⟨r2,hr2,e2⟩⟩:=hS r hr
 have getS:∀x∈S,∃q,(rk (lvs sp) h0 h1)[x]?=some q:=fun x hx=>by
  have:=(hS x hx).1
  unfold MxA at this
  rw[ac]at this
  exact⟨_,ae this⟩
 obtain⟨q1,hq1⟩:=getS r1 hr1
 obtain⟨q2,hq2⟩:=getS r2 hr2
 have f1:=h S hS r1 hr1 q1 hq1
 have f2:=h S hS r2 hr2 q2 hq2
 refine aY.mpr ⟨h S hS r hr k hk,?_⟩
 rw[ah,bL,aR]
 obtain⟨g1,g2⟩:=g4' (l0:=l0) (l1:=l1) a0 a1 hq1
 obtain⟨g3,g4⟩:=g4' (l0:=l0) (l1:=l1) a0 a1 hk
 have hm1:=aq hq1
 have hm:=aq hk
 constructor
 .refine⟨q1,f1,?_⟩
  rw[aR,decide_eq_true_eq,decide_eq_true_eq]
  rcases e1 with e|e
  .rw[g1]at e;exact .inl (g5' a0 a1 hm1 (by decide) hk e)
  .rw[g2]at e;exact .inr (g5' a0 a1 hm1 (by decide) hk e)
 .rcases e2 with e|e
  .rw[g3]at e;left;rw[g5' a0 a1 hm (by decide) hq2 e];exact decide_eq_true f2
  .rw[g4]at e;right;rw[g5' a0 a1 hm (by decide) hq2 e];exact decide_eq_true f2
structure Lsd (l0 h0 l1 h1:Nat) (sp:Option Nat) (F:List K3):Prop where
 sub:F.Sublist (rk (lvs sp) h0 h1)
 fix:nxl l0 h0 l1 h1 sp F=F
 all:Cov l0 h0 l1 h1 sp F
theorem pd' {ks F:List K3} (hn:ks.Nodup) (h:F.Sublist ks):(F.map ks.idxOf).Pairwise (· < ·):=by
 have e:ks.map ks.idxOf=aG ks.length:=by
  apply bA
  intro i
  rw[ao]
  cases e:ks[i]? with
  |none=>rw[aU (by rw[bf];exact bi.mp e)];rfl
  |some k=>rw[ci (al' e)];exact congrArg some (qn' hn e)
 have:=h.map ks.idxOf
 rw[e]at this
 exact List.pairwise_lt_range.sublist this
theorem Lsd.mem {F:List K3} (h:Lsd l0 h0 l1 h1 sp F) {k:K3} (hk:k∈F):k∈rk (lvs sp) h0 h1:=h.sub.subset hk
theorem Lsd.rs (a0:1<=h0) (a1:1<=h1) {F:List K3} (h:Lsd l0 h0 l1 h1 sp F):Rs (MxA l0 h0 l1 h1 sp) (F.map (rk (lvs sp) h0 h1).idxOf):=by
 have hnd:=j3' (fk' (sp:=sp)) (h0:=h0) (h1:=h1)
 have hlt:∀r∈F.map (rk (lvs sp) h0 h1).idxOf,r<(MxA l0 h0 l1 h1 sp).length:=fun r hr=>by
  obtain⟨k,hk,rfl⟩:=az.mp hr
  unfold MxA
  rw[ac]
  exact bI (h.mem hk)
 have hs:Sus (MxA l0 h0 l1 h1 sp) (F.map (rk (lvs sp) h0 h1).idxOf):=by
  intro r hr
  refine⟨hlt r hr,?_⟩
  obtain⟨k,hk,rfl⟩:=az.mp hr
  have hk2:k∈nxl l0 h0 l1 h1 sp F:=by rw[h.fix];exact hk
  have hk3:=(aY.mp hk2).2
  rw[ah,bL,aR]at hk3
  obtain⟨⟨q,hq,e1⟩,e2⟩:=hk3
  rw[aR,decide_eq_true_eq,decide_eq_true_eq]at e1
  obtain⟨g1,g2⟩:=g4' (l0:=l0) (l1:=l1) a0 a1 (br' (h.mem hq))
  obtain⟨g3,g4⟩:=g4' (l0:=l0) (l1:=l1) a0 a1 (br' (h.mem hk))
  refine⟨⟨_,az.mpr ⟨q,hq,rfl⟩,?_⟩,?_⟩
  .rcases e1 with e|e
   .left;rw[g1,e];rfl
   .right;rw[g2,e];rfl
  .have key:∀o:Option K3,inK F o=true->∃q,q∈F/\o=some q:=fun o ho=>by
    cases o with
    |none=>cases ho
    |some q=>exact⟨q,of_decide_eq_true ho,rfl⟩
   rcases e2 with e|e
   .obtain⟨q,hq,e⟩:=key _ e
    exact⟨_,az.mpr ⟨q,hq,rfl⟩,.inl (by rw[g3,e];rfl)⟩
   .obtain⟨q,hq,e⟩:=key _ e
    exact⟨_,az.mpr ⟨q,hq,rfl⟩,.inr (by rw[g4,e];rfl)⟩
 refine⟨pd' hnd h.sub,hlt,?_,fun S hS r hr=>?_⟩
 .unfold lst
  rw[List.filter_eq_self]
  intro r hr
  have:=ji' hs (rs:=F.map (rk (lvs sp) h0 h1).idxOf) (fun _ z=>z) r hr
  exact(aY.mp this).2
 .have hr2:=(hS r hr).1
  unfold MxA at hr2
  rw[ac]at hr2
  have e:=ae hr2
  exact az.mpr ⟨_,h.all S hS r hr _ e,qn' hnd e⟩
def ixF (F:List K3):Option K3->Option Nat
 |none=>none
 |some k=>if k∈F then some (F.idxOf k)else none
def b4' (l0 h0 l1 h1:Nat) (sp:Option Nat) (F:List K3):List Rm:=F.map fun k=>(ixF F (lb l0 h0 l1 h1 sp k 0),ixF F (lb l0 h0 l1 h1 sp k 1))
theorem mR' {ks:List K3} (hn:ks.Nodup) {k:K3} (hk:k∈ks):∀{F:List K3},(∀q∈F,q∈ks)->(F.map ks.idxOf).idxOf (ks.idxOf k)=F.idxOf k
 | [],_=>rfl
 |q :: F,h=>by
  rw[aS,List.idxOf_cons,List.idxOf_cons,mR' hn hk fun x hx=>h x (aC _ hx)]
  have hq:=h q aE
  by_cases e:q=k
  .subst e;simp
  .have e2:ks.idxOf q≠ks.idxOf k:=fun z=>by
    rcases qo' hq z with z|z
    .exact e z
    .exact z hk
   rw[beq_eq_false_iff_ne.mpr e,beq_eq_false_iff_ne.mpr e2]
theorem Lsd.prt (a0:1<=h0) (a1:1<=h1) {F:List K3} (h:Lsd l0 h0 l1 h1 sp F):prt (MxA l0 h0 l1 h1 sp) (F.map (rk (lvs sp) h0 h1).idxOf)=b4' l0 h0 l1 h1 sp F:=by
 have hnd:=j3' (fk' (sp:=sp)) (h0:=h0) (h1:=h1)
 unfold TE.prt b4'
 rw[aX]
 apply cm
 intro k hk
 obtain⟨g1,g2⟩:=g4' (l0:=l0) (l1:=l1) a0 a1 (br' (h.mem hk))
 have key:∀c,c<2->ixR (F.map (rk (lvs sp) h0 h1).idxOf) ((lb l0 h0 l1 h1 sp k c).map (rk (lvs sp) h0 h1).idxOf)=ixF F (lb l0 h0 l1 h1 sp k c):=fun c hc=>by
  cases e:lb l0 h0 l1 h1 sp k c with
  |none=>rfl
  |some q=>
   have hq:=(j6' a0 a1 (h.mem hk) hc).1 q e
   show ixR _ (some _)=if q∈F then some (F.idxOf q)else none
   rw[jj',mR' hnd hq fun x hx=>h.mem hx]
   by_cases hin:q∈F
   .rw[if_pos hin,if_pos (az.mpr ⟨q,hin,rfl⟩)]
   .rw[if_neg hin,if_neg fun z=>?_]
    obtain⟨x,hx,e⟩:=az.mp z
    rcases qo' (h.mem hx) e with e|e
    .exact hin (e ▸ hx)
    .exact e hq
 show(ixR _ (fs1 _ _),ixR _ (fs2 _ _))=_
 rw[g1,g2,key 0 (by decide),key 1 (by decide)]
end
theorem so {H H':Hp} {p:Addr} {o:HO} (h:H p=none) (s:av' H H'):av' H (upd H' p o):=fun b u q=>by rw[ae' (au' q h)];exact s _ _ q
theorem tpo {H:Hp} {p:Addr} {o o':HO} (h:H p=some o) (ho:∀xs,o≠.tup xs):Tp H (upd H p o'):=fun a xs e=>by
 rw[ae']
 .exact e
 .rintro rfl
  rw[h]at e
  exact ho xs (Option.some.inj e)
theorem g6' {sp:Option Nat}:lvs sp=aG (sp.getD 0+1):=by
 cases sp with
 |none=>rfl
 |some s=>rfl
theorem s2' {F:List K3} {k:K3} (h:k∉F):eM' (dK3 F) (kK k) (.bl true)=dK3 (F++[k]):=by
 rw[fr' _ (by rw[fV',if_neg h])]
 unfold dK3
 rw[aM]
 rfl
theorem cK' {F:List K3}:(dK3 F).length=F.length:=by unfold dK3;rw[ac]
theorem s5' {m b pl j:Nat} (hj:j<m):(r1 (aG m) b pl).take (j+1)=(r1 (aG m) b pl).take j++[(b,pl,j)]:=by
 rw[bj]
 congr 1
 unfold r1
 rw[ao,ci hj]
 rfl
theorem xj' {m b pl:Nat}:(r1 (aG m) b pl).length=m:=by unfold r1;rw[ac,bf]
theorem xk' {m b pl j:Nat} {k:K3} (h:k∈(r1 (aG m) b pl).take j):k.2.1=pl/\k.2.2<j:=by
 obtain⟨i,e⟩:=cN h
 rw[List.getElem?_take]at e
 by_cases hi:i<j
 .rw[if_pos hi]at e
  unfold r1 at e
  rw[ao]at e
  by_cases hm:i<m
  .rw[ci hm]at e
   cases e
   exact⟨rfl,hi⟩
  .rw[aU (by rw[bf];omega)]at e
   cases e
 .rw[if_neg hi]at e
  cases e
def Bas (sp:Option Nat) (h0 h1:Nat) (i:Nat):List K3:=if i=0 then[]else if i=1 then r2 (lvs sp) 0 h0 else rk (lvs sp) h0 h1
theorem s7' {sp:Option Nat} {h0 h1 i j m:Nat} (hi:i<2):((i,j+1,m):K3)∉Bas sp h0 h1 i++r2 (lvs sp) i j++(r1 (lvs sp) i (j+1)).take m:=by
 intro h
 rw[aD,aL,aL]at h
 rcases h with h|h|h
 .rcases(by omega:i=0\/i=1)with rfl|rfl
  .exact absurd h aB
  .have:=(bJ' (show((1,j+1,m):K3)∈r2 (lvs sp) 0 h0 from h)).1
   exact absurd this (by show ¬1=0;decide)
 .have:=(bJ' h).2.2.1
  have:j+1<=j:=this
  omega
 .rw[g6']at h
  have:=(xk' h).2
  have:m<m:=this
  omega
theorem s8' {sp:Option Nat} {h0 h1 i j m:Nat} (a0:h0<=8) (a1:h1<=8) (as:∀s,sp=some s->s<=16) (hj:j<=8):(Bas sp h0 h1 i++r2 (lvs sp) i j++(r1 (lvs sp) i (j+1)).take m).length<1000:=by
 have hl:=(mC' as).1
 have h2:∀b h,h<=8->(r2 (lvs sp) b h).length<=136:=fun b h hh=>by
  rw[db']
  exact aF (dr hh hl) (by decide)
 have h3:((r1 (lvs sp) i (j+1)).take m).length<=17:=by
  rw[aJ]
  unfold r1
  rw[ac]
  omega
 have h4:(Bas sp h0 h1 i).length<=272:=by
  unfold Bas
  split
  .exact aT _
  .split
   .have:=h2 0 h0 a0;omega
   .unfold rk
    have e0:=h2 0 h0 a0
    have e1:=h2 1 h1 a1
    rw[ax]
    omega
 have h5:=h2 i j hj
 rw[ax,ax]
 omega
def bU':Sp:=fun vs H Q _=>∃(bd:Addr) (l0 h0 l1 h1:Nat) (sp:Option Nat),vs=[.ref bd]/\IsB H bd l0 h0 l1 h1 sp/\1<=h0/\1<=h1/\∀(p:Addr) (F:List K3) (H':Hp),H p=none->av' H H'->H' p=some (.dT (dK3 F))->Lsd l0 h0 l1 h1 sp F->Q (.ref p) H'
def xl':Cs:=.for_ (.name 2) (.val (.tup (.cons (.int 0) (.cons (.int 1) .nil)))) (.cons (.for_ (.name 3) (.range2 (.int 1) (.bin .Add (.idx (.lst (.cons (.idx (.var 0) (.int 1)) (.cons (.idx (.var 0) (.int 3)) .nil))) (.var 2)) (.int 1))) (.cons (.for_ (.name 4) (.range1 (.bin .Add (.orv (.idx (.var 0) (.int 4)) (.int 0)) (.int 1))) (.cons (.dput (.var 1) (.tup (.cons (.var 2) (.cons (.var 3) (.cons (.var 4) .nil)))) (.bl true)) .nil)) .nil)) .nil)
theorem mS' {C:Rc} {D:Ends} {H H0:Hp} {bd d:Addr} {l0 h0 l1 h1:Nat} {sp:Option Nat} (hB:IsB H bd l0 h0 l1 h1 sp) (hd:H d=none) (sH:av' H H0) (hd0:H0 d=some (.dT []))
  (q:∀(x2 x3 x4:Option V) (H':Hp),av' H H'->H' d=some (.dT (dK3 (rk (lvs sp) h0 h1)))->D.nx [some (.ref bd),some (.ref d),x2,x3,x4,none,none,none] H'):tS C xl' D [some (.ref bd),some (.ref d),none,none,none,none,none,none] H0:=by
 unfold xl'
 symm
 refine⟨by decide,fun p0 hp0=>?_⟩
 obtain⟨s0,e0⟩:=snw hp0 (.tup [.int 0,.int 1])
 have f0:=sH.free hp0
 have hd1:=s0 _ _ hd0
 have sH1:=sH.trans s0
 generalize upd H0 p0 _=H1 at s0 e0 hd1 sH1 ⊢
 refine cj' (SqT.of e0) (wE' (xs:=[.int 0,.int 1]) (fun i σ H'=>(∃x2 x3 x4,σ=[some (.ref bd),some (.ref d),x2,x3,x4,none,none,none])/\av' H H'/\H' p0=some (.tup [.int 0,.int 1])/\H' d=some (.dT (dK3 (Bas sp h0 h1 i)))) ⟨⟨_,_,_,rfl⟩,sH1,e0,hd1⟩ (fun i σ H' _ pv=>SqT.of pv.2.2.1) ?_ ?_)
 .rintro i x σ H2 hx ⟨⟨x2,x3,x4,rfl⟩,s2,e2,hd2⟩
  obtain⟨hi,rfl⟩:i<2/\x=.int i:=by
   match i,hx with
   |0,hx=>cases hx;exact⟨by decide,rfl⟩
   |1,hx=>cases hx;exact⟨by decide,rfl⟩
   |i+2,hx=>cases hx
  symm
  have hB2:=(hB.mono (af' s2)).at'
  refine aC' (SqT.of hB2) (v:=nV h0) rfl ?_
  symm
  refine aC' (SqT.of hB2) (v:=nV h1) rfl ?_
  symm
  refine⟨by decide,fun p3 hp3=>?_⟩
  obtain⟨s3,e3⟩:=snw hp3 (.lst [nV h0,nV h1])
  have s3':=s2.trans s3
  have e2':=s3 _ _ e2
  have hd3:=s3 _ _ hd2
  generalize upd H2 p3 _=H3 at s3 e3 s3' e2' hd3 ⊢
  refine aW' (SqL.of e3) (at2 hi) ?_
  obtain⟨hh,hhe⟩:∃hh:Nat,hh=if i=1 then h1 else h0:=⟨_,rfl⟩
  rw[show(if i=1 then nV h1 else nV h0)=V.int (hh:Int) by rw[hhe];split<;>rfl]
  have hh8:hh<=8:=by rw[hhe];have:=hB.b0;have:=hB.b1;split<;>omega
  symm
  refine wD' (by decide) (by decide) ⋯ ⋯ ?_
  rw[show((hh:Int)+1-1).toNat=hh by omega]
  refine oH' (fun j σ H'=>(∃x3 x4,σ=[some (.ref bd),some (.ref d),some (.int i),x3,x4,none,none,none])/\av' H H'/\H' p0=some (.tup [.int 0,.int 1])/\H' d=some (.dT (dK3 (Bas sp h0 h1 i++r2 (lvs sp) i j)))) ⟨⟨_,_,rfl⟩,s3',e2',by rw[show r2 (lvs sp) i 0=[] from rfl,cz];exact hd3⟩ ?_ ?_
  .rintro j σ H4 hj ⟨⟨x3,x4,rfl⟩,s4,e4,hd4⟩
   symm
   refine aC' (SqT.of (hB.mono (af' s4)).at') (v:=oV sp) rfl ?_
   have key:∀Q':VK,Q' (.int ((sp.getD 0:Nat):Int)) H4->yi' C [some (.ref bd),some (.ref d),some (.int i),some (.int (1+(j:Int))),x4,none,none,none] (.int 0) Q' (oV sp) H4:=by
    intro Q' q'
    cases sp with
    |none=>
     refine wL' ?_
     rw[l3']
     exact q'
    |some s=>
     by_cases hs:(s:Int)=0
     .refine .inr ⟨(s:Int),rfl,?_⟩
      rw[if_pos hs,l3',<- hs]
      exact q'
     .exact wM' hs q'
   refine key _ ?_
   obtain⟨m,hm⟩:∃m,m=sp.getD 0:=⟨_,rfl⟩
   have hm16:m<=16:=by
    rw[hm]
    cases sp with
    |none=>exact aT _
    |some s=>exact hB.bs s rfl
   rw[<- hm]
   symm
   refine ma' ⋯ ⋯ ?_
   rw[show((m:Int)+1).toNat=m+1 by omega]
   refine oH' (fun u σ H'=>(∃x4,σ=[some (.ref bd),some (.ref d),some (.int i),some (.int (1+(j:Int))),x4,none,none,none])/\av' H H'/\H' p0=some (.tup [.int 0,.int 1])/\H' d=some (.dT (dK3 (Bas sp h0 h1 i++r2 (lvs sp) i j++(r1 (lvs sp) i (j+1)).take u)))) ⟨⟨_,rfl⟩,s4,e4,by rw[List.take_zero,cz];exact hd4⟩ ?_ ?_
   .rintro u σ H5 hu ⟨⟨x4,rfl⟩,s5,e5,hd5⟩
    symm
    refine⟨by decide,fun p6 hp6=>?_⟩
    obtain⟨s6,e6⟩:=snw hp6 (.tup [.int i,.int (1+(j:Int)),.int (0+(u:Int))])
    have s6':=s5.trans s6
    have e5':=s6 _ _ e5
    have hd6:=s6 _ _ hd5
    generalize upd H5 p6 _=H6 at s6 e6 s6' e5' hd6 ⊢
    refine oW' (ks:=kK (i,j+1,u)) hd6 (by rw[e6,o6'];simp only[nV];rw[show((j+1:Nat):Int)=1+(j:Int) by omega,Int.zero_add]) (an' (by rw[cK'];exact bP (s8' hB.b0 hB.b1 hB.bs (aF (bP hj) hh8)))) ?_
    refine⟨⟨_,rfl⟩,so hd s6',?_,?_⟩
    .rw[ae']
     .exact e5'
     .rintro rfl;rw[hd6]at e5';cases e5'
    .rw[ab',s2' (s7' hi),aD]
     have:(r1 (lvs sp) i (j+1)).take (u+1)=(r1 (lvs sp) i (j+1)).take u++[(i,j+1,u)]:=by
      rw[g6',<- hm]
      exact s5' hu
     rw[this,aD]
   .rintro σ H5 ⟨⟨x4,rfl⟩,s5,e5,hd5⟩
    refine⟨⟨_,_,rfl⟩,s5,e5,?_⟩
    rw[hd5,ey',aD,bq (by rw[g6',<- hm,xj'];exact ag _)]
  .rintro σ H4 ⟨⟨x3,x4,rfl⟩,s4,e4,hd4⟩
   refine⟨⟨_,_,_,rfl⟩,s4,e4,?_⟩
   rw[hd4,hhe]
   rcases(by omega:i=0\/i=1)with rfl|rfl
   .rfl
   .rfl
 .rintro σ H2 ⟨⟨x2,x3,x4,rfl⟩,s2,e2,hd2⟩
  exact q x2 x3 x4 H2 s2 hd2
set_option tactic.hygienic true in
theorem pe' {L:List NK} {q:NK} {z:Option (List Int)}:z∈(eI' L q).map (aW Prod.fst)↔z∈L.map (aW Prod.fst)\/z=q.map Prod.fst:=by
 unfold eI'
 split
 .rename_i h
  exact⟨.inl,fun x=>x.elim id fun e=>by rw[e];exact h⟩
 .rw[aM,aL]
  simp
theorem s9' {L:List NK} {q:NK}:(eI' L q).length<=L.length+1:=by
 unfold eI'
 split
 .omega
 .rw[ax];exact ag _
theorem ta' {H:Hp} {L:List NK} {q:NK} (h:f8' H L) (hq:∀x,q=some x->H x.2=some (.tup (x.1.map V.int))):f8' H (eI' L q):=by
 intro x hx
 unfold eI' at hx
 split at hx
 .exact h x hx
 .rcases aL.mp hx with hx|hx
  .exact h x hx
  .exact hq x (aV.mp hx).symm
theorem fl' {H H':Hp} {L:List NK} (h:f8' H L) (t:Tp H H'):f8' H' L:=fun q hq=>t _ _ (h q hq)
def Led (l0 h0 l1 h1:Nat) (sp:Option Nat) (P:List (K3×Nat)) (L:List NK):Prop:=∀z,z∈L.map (aW Prod.fst)↔∃q∈P,z=(lb l0 h0 l1 h1 sp q.1 q.2).map BD.kI
theorem Led.put {l0 h0 l1 h1:Nat} {sp:Option Nat} {P:List (K3×Nat)} {L:List NK} {q:NK} {k:K3} {c:Nat} (h:Led l0 h0 l1 h1 sp P L) (hq:q.map Prod.fst=(lb l0 h0 l1 h1 sp k c).map BD.kI):Led l0 h0 l1 h1 sp (P++[(k,c)]) (eI' L q):=by
 intro z
 rw[pe',h z,hq]
 constructor
 .rintro(⟨x,hx,e⟩|e)
  .exact⟨x,br _ hx,e⟩
  .exact⟨(k,c),aj _ (aV.mpr rfl),e⟩
 .rintro⟨x,hx,e⟩
  rcases aL.mp hx with hx|hx
  .exact .inl ⟨x,hx,e⟩
  .rw[aV.mp hx]at e
   exact .inr e
def prs (F:List K3):List (K3×Nat):=F.flatMap fun k=>[(k,0),(k,1)]
theorem pf' {F:List K3} {k:K3}:prs (F++[k])=prs F++[(k,0),(k,1)]:=by unfold prs;rw[List.flatMap_append];rfl
theorem jm' {o:Option K3} {k:K3}:some (BD.kI k)=o.map BD.kI↔o=some k:=by
 cases o with
 |none=>exact⟨fun z=>(by cases z),fun z=>(by cases z)⟩
 |some x=>exact⟨fun z=>(by injection z with z;rw[mP' z]),fun z=>(by cases z;rfl)⟩
theorem Led.any {l0 h0 l1 h1:Nat} {sp:Option Nat} {F:List K3} {L:List NK} (h:Led l0 h0 l1 h1 sp (prs F) L) (k:K3):decide (some (BD.kI k)∈L.map (aW Prod.fst))=F.any fun q=>decide (lb l0 h0 l1 h1 sp q 0=some k) || decide (lb l0 h0 l1 h1 sp q 1=some k):=by
 rw[cP,decide_eq_true_eq,h,bL]
 unfold prs
 constructor
 .rintro⟨q,hq,e⟩
  obtain⟨x,hx,hq⟩:=dv.mp hq
  refine⟨x,hx,?_⟩
  rw[aR,decide_eq_true_eq,decide_eq_true_eq]
  rcases ay.mp hq with rfl|hq
  .exact .inl (jm'.mp e)
  .rw[aV.mp hq]at e
   exact .inr (jm'.mp e)
 .rintro⟨x,hx,e⟩
  rw[aR,decide_eq_true_eq,decide_eq_true_eq]at e
  rcases e with e|e
  .exact⟨(x,0),dv.mpr ⟨x,hx,by simp⟩,jm'.mpr e⟩
  .exact⟨(x,1),dv.mpr ⟨x,hx,by simp⟩,jm'.mpr e⟩
theorem iy' {H:Hp} {p:Addr} {k:K3} (h:H p=some (.tup [nV k.1,nV k.2.1,nV k.2.2])):H p=some (.tup ((BD.kI k).map V.int)):=h
theorem qp' {F:List K3} {i:Nat} {k:K3} (h:F[i]?=some k):(dK3 F)[i]?=some (kK k,V.bl true):=by unfold dK3;rw[ao,h];rfl
theorem mT' {F:List K3} {as:List Addr} {i:Nat} {x:V} (hl:as.length=(dK3 F).length) (h:(as.map V.ref)[i]?=some x):∃k a,F[i]?=some k/\x=.ref a/\as[i]?=some a:=by
 rw[ao]at h
 cases e:as[i]? with
 |none=>rw[e]at h;cases h
 |some a=>
  rw[e]at h
  cases h
  have hi:=al' e
  rw[hl,cK']at hi
  exact⟨F[i],a,ae hi,rfl,rfl⟩
section
variable {l0 h0 l1 h1:Nat} {sp:Option Nat} {C:Rc}
def Bk':Cs:=.for_ (.name 7) (.dk (.var 1)) (.cons (.for_ (.name 2) (.val (.tup (.cons (.int 0) (.cons (.int 1) .nil)))) (.cons (.dput (.var 6) (.call "_law_behind" (.cons (.var 0) (.cons (.var 7) (.cons (.var 2) .nil)))) (.bl true)) .nil)) .nil)
theorem pg' {D:Ends} {H H0:Hp} {bd d e:Addr} {F:List K3} {x2 x3 x4 x5 x7:Option V} (hBe:C.fs "_law_behind"=some dx') (hB:IsB H bd l0 h0 l1 h1 sp) (a0:1<=h0) (a1:1<=h1) (hF:∀k∈F,k∈rk (lvs sp) h0 h1) (hFl:F.length<=300) (hd:H d=none) (he:H e=none) (hde:d≠e) (sH:av' H H0) (hd0:H0 d=some (.dT (dK3 F))) (he0:H0 e=some (cy' e []))
  (q:∀(x2 x7:Option V) (H':Hp) (L:List NK) (o:Obj),av' H H'->H' d=some (.frz o (.dT (dK3 F)))->H' e=some (cy' e L)->f8' H' L->Led l0 h0 l1 h1 sp (prs F) L->D.nx [some (.ref bd),some (.ref d),x2,x3,x4,x5,some (.ref e),x7] H'):tS C Bk' D [some (.ref bd),some (.ref d),x2,x3,x4,x5,some (.ref e),x7] H0:=by
 unfold Bk'
 have hsm:∀k∈F,dI' k:=fun k hk=>(fS' hB.bs hB.b0 hB.b1).2 k (hF k hk)
 symm
 refine wO' (.inl hd0) fun o as hal has=>?_
 have hs1:av' H (upd H0 d (.frz o (.dT (dK3 F)))):=so hd sH
 have hd1:upd H0 d (.frz o (.dT (dK3 F))) d=some (.frz o (.dT (dK3 F))):=ab'
 have he1:upd H0 d (.frz o (.dT (dK3 F))) e=some (cy' e []):=by rw[ae' (Ne.symm hde)];exact he0
 have ha1:∀(i:Nat) a k,as[i]?=some a->F[i]?=some k->upd H0 d (.frz o (.dT (dK3 F))) a=some (.tup [nV k.1,nV k.2.1,nV k.2.2]):=fun i a k h1 h2=>tpo hd0 (fun xs z=>by cases z) _ _ (has i a _ h1 (qp' h2))
 generalize upd H0 d (.frz o (.dT (dK3 F)))=H1 at hs1 hd1 he1 ha1
 refine wP' (ks:=as.map V.ref) (fun i σ H'=>(∃x2 x7,σ=[some (.ref bd),some (.ref d),x2,x3,x4,x5,some (.ref e),x7])/\av' H H'/\Tp H1 H'/\H' d=some (.frz o (.dT (dK3 F)))/\∃L,H' e=some (cy' e L)/\f8' H' L/\L.length<=2*i/\Led l0 h0 l1 h1 sp (prs (F.take i)) L) ⟨⟨_,_,rfl⟩,hs1,Tp.refl,hd1,[],he1,fun _ z=>absurd z aB,ag _,fun z=>⟨fun z=>absurd z aB,fun⟨_,z,_⟩=>absurd z aB⟩⟩ (fun i σ H' pv=>⟨_,pv.2.2.2.1⟩) ?_ ?_
 .rintro i x σ H2 hx ⟨⟨x2,x7,rfl⟩,s2,t2,hd2,L,he2,hL2,hl2,hLd2⟩
  obtain⟨k,a,hk,rfl,ha⟩:=mT' hal hx
  have hi:=al' hk
  have hkm:=aq hk
  symm
  refine⟨by decide,fun p0 hp0=>?_⟩
  obtain⟨s3,e3⟩:=snw hp0 (.tup [.int 0,.int 1])
  have s3':=s2.trans s3
  have t3:=t2.trans (af' s3)
  have hd3:=s3 _ _ hd2
  have he3:=s3 _ _ he2
  have hL3:=fl' hL2 (af' s3)
  generalize upd H2 p0 _=H3 at s3 e3 s3' t3 hd3 he3 hL3 ⊢
  refine cj' (SqT.of e3) (wE' (xs:=[.int 0,.int 1]) (fun j σ H'=>(∃x2,σ=[some (.ref bd),some (.ref d),x2,x3,x4,x5,some (.ref e),some (.ref a)])/\av' H H'/\Tp H1 H'/\H' d=some (.frz o (.dT (dK3 F)))/\H' p0=some (.tup [.int 0,.int 1])/\∃L,H' e=some (cy' e L)/\f8' H' L/\L.length<=2*i+j/\Led l0 h0 l1 h1 sp (prs (F.take i)++[(k,0),(k,1)].take j) L) ⟨⟨_,rfl⟩,s3',t3,hd3,e3,L,he3,hL3,hl2,by rw[List.take_zero,cz];exact hLd2⟩ (fun j σ H' _ pv=>SqT.of pv.2.2.2.2.1) ?_ ?_)
  .rintro j x σ H4 hx ⟨⟨x2,rfl⟩,s4,t4,hd4,e4,L,he4,hL4,hl4,hLd4⟩
   obtain⟨hj,rfl⟩:j<2/\x=.int j:=by
    match j,hx with
    |0,hx=>cases hx;exact⟨by decide,rfl⟩
    |1,hx=>cases hx;exact⟨by decide,rfl⟩
    |j+2,hx=>cases hx
   have etk:[(k,0),(k,1)].take (j+1)=[(k,0),(k,1)].take j++[(k,j)]:=by
    match j,hj with
    |0,_=>rfl
    |1,_=>rfl
   symm
   refine ag' hBe ?_
   symm
   have fin:∀(y:V) (qk:NK) (H5:Hp),av' H4 H5->u2' H5 y qk->qk.map Prod.fst=(lb l0 h0 l1 h1 sp k j).map BD.kI->(∀x,qk=some x->H5 x.2=some (.tup (x.1.map V.int)))->w7' (.ref e) (.bl true) { D with nx:=fun σ H'=>(∃x2,σ=[some (.ref bd),some (.ref d),x2,x3,x4,x5,some (.ref e),some (.ref a)])/\av' H H'/\Tp H1 H'/\H' d=some (.frz o (.dT (dK3 F)))/\H' p0=some (.tup [.int 0,.int 1])/\∃L,H' e=some (cy' e L)/\f8' H' L/\L.length<=2*i+(j+1)/\Led l0 h0 l1 h1 sp (prs (F.take i)++[(k,0),(k,1)].take (j+1)) L } [some (.ref bd),some (.ref d),some (.int j),x3,x4,x5,some (.ref e),some (.ref a)] y H5:=by
    intro y qk H5 s5 hy hqk hqt
    have he5:=s5 _ _ he4
    have t6:Tp H5 (upd H5 e (cy' e (eI' L qk))):=tpo he5 (fun xs z=>by unfold cy' at z;cases z)
    refine oV' he5 (fl' hL4 (af' s5)) ⋯ hy ⟨⟨_,rfl⟩,so he (s4.trans s5),(t4.trans (af' s5)).trans t6,?_,t6 _ _ (s5 _ _ e4),eI' L qk,ab',fl' (ta' (fl' hL4 (af' s5)) hqt) t6,?_,?_⟩
    .rw[ae' hde];exact s5 _ _ hd4
    .have:=s9' (L:=L) (q:=qk)
     omega
    .rw[etk,<- aD]
     exact hLd4.put hqk
   refine⟨bd,a,l0,h0,l1,h1,sp,k,j,rfl,hB.mono (af' s4),t4 _ _ (ha1 i a k ha hk),hj,(hsm k hkm).1,fun el H5 s5=>?_,fun k' el p H5 s5 hp=>?_⟩
   .refine fin .non none H5 s5 (.inl ⟨rfl,rfl⟩) (by rw[el];rfl) (fun _ z=>by cases z)
   .have hk':=(j6' (l0:=l0) (l1:=l1) a0 a1 (hF k hkm) hj).1 k' el
    refine fin (.ref p) (some (BD.kI k',p)) H5 s5 (.inr ⟨_,_,rfl,rfl,iy' hp,dy' ((fS' hB.bs hB.b0 hB.b1).2 k' hk')⟩) (by rw[el];rfl) (fun x z=>by cases z;exact iy' hp)
  .rintro σ H4 ⟨⟨x2,rfl⟩,s4,t4,hd4,e4,L,he4,hL4,hl4,hLd4⟩
   refine⟨⟨_,_,rfl⟩,s4,t4,hd4,L,he4,hL4,hl4,?_⟩
   rw[de' hk,pf']
   exact hLd4
 .rintro σ H2 ⟨⟨x2,x7,rfl⟩,s2,t2,hd2,L,he2,hL2,hl2,hLd2⟩
  rw[ac,hal,cK',bn]at hLd2
  exact q x2 x7 H2 L o s2 hd2 he2 hL2 hLd2
end
theorem tb':∀{L:PL},(L.map fun x=>x.2.1).Nodup->k2' L=L.map fun x=>(x.2.1,x.2.2.2):=by
 intro L h
 have key:∀(n:Nat) (L:PL),L.length=n->(L.map fun x=>x.2.1).Nodup->k2' L=L.map fun x=>(x.2.1,x.2.2.2):=by
  intro n
  induction n with
  |zero=>
   intro L hn _
   rw[cu hn]
   rfl
  |succ n ih=>
   intro L hn hd
   rcases List.eq_nil_or_concat L with rfl|⟨L',x,rfl⟩
   .cases hn
   rw[List.concat_eq_append]at hn hd ⊢
   rw[aM]at hd
   rw[ax]at hn
   have hd2:=di.mp hd
   rw[gy',ih L' (by simpa using hn) hd2.1,fr',aM]
   .rfl
   .unfold eL'
    rw[Option.map_eq_none_iff,List.find?_eq_none]
    intro y hy e
    obtain⟨z,hz,rfl⟩:=az.mp hy
    exact hd2.2.2 _ (az.mpr ⟨z,hz,rfl⟩) _ (az.mpr ⟨x,aV.mpr rfl,rfl⟩) (of_decide_eq_true e)
 exact key _ L rfl h
structure Pl (H:Hp) (L:PL) (kvs:List (List Key×V)):Prop where
 at':∀x∈L,H x.1=some (.tup [.ref x.2.2.1,x.2.2.2])/\H x.2.2.1=some (.tup (x.2.1.map L2.kV))
 is:(L.map fun x=>(x.2.1,x.2.2.2))=kvs
theorem Pl.mono {H H':Hp} {L:PL} {kvs:List (List Key×V)} (h:Pl H L kvs) (t:Tp H H'):Pl H' L kvs:=⟨fun x hx=>⟨t _ _ (h.at' x hx).1,t _ _ (h.at' x hx).2⟩,h.is⟩
theorem Pl.nil {H:Hp}:Pl H [] []:=⟨fun _ z=>absurd z aB,rfl⟩
theorem Pl.snoc {H:Hp} {L:PL} {kvs:List (List Key×V)} {p a:Addr} {k:List Key} {v:V} (h:Pl H L kvs) (hp:H p=some (.tup [.ref a,v])) (ha:H a=some (.tup (k.map L2.kV))):Pl H (L++[(p,k,a,v)]) (kvs++[(k,v)]):=⟨fun x hx=>by
 rcases aL.mp hx with hx|hx
 .exact h.at' x hx
 .rw[aV.mp hx]
  exact⟨hp,ha⟩,by rw[aM,h.is];rfl⟩
theorem Pl.len {H:Hp} {L:PL} {kvs:List (List Key×V)} (h:Pl H L kvs):L.length=kvs.length:=by rw[<- h.is,ac]
theorem tc' {H:Hp} {Q:VK} {p:Addr} {L:PL} {kvs:List (List Key×V)} (h:Pl H L kvs) (hn:(kvs.map Prod.fst).Nodup) (hp:H p=some (.lst (L.map fun x=>V.ref x.1))) (q:∀d,H d=none->Q (.ref d) (upd H d (.dT kvs))):Bf' .dct Q (.ref p) H:=by
 refine⟨p,L,rfl,hp,h.at',fun d hd=>?_⟩
 have e:k2' L=kvs:=by
  rw[tb' (by rw[<- h.is,aX]at hn;exact hn)]
  exact h.is
 rw[e]
 exact q d hd
theorem ph' {F:List K3} (h:F.Nodup):((dK3 F).map Prod.fst).Nodup:=by
 unfold dK3
 rw[aX]
 exact jh' (fun x y z=>gZ' z) h
section
variable {l0 h0 l1 h1:Nat} {sp:Option Nat} {C:Rc}
def kp (l0 h0 l1 h1:Nat) (sp:Option Nat) (F:List K3) (k:K3):Bool:=(F.any fun q=>decide (lb l0 h0 l1 h1 sp q 0=some k) || decide (lb l0 h0 l1 h1 sp q 1=some k))&&(inK F (lb l0 h0 l1 h1 sp k 0) || inK F (lb l0 h0 l1 h1 sp k 1))
theorem qq' {F:List K3}:nxl l0 h0 l1 h1 sp F=F.filter (kp l0 h0 l1 h1 sp F):=rfl
def xm':Ce:=.cal .dct (.comp (.tup (.cons (.var 7) (.cons (.bl true) .nil))) [7] (.name 7) (.dk (.var 1)) (.some (.and (.din false (.var 7) (.var 6)) (.val (.call "_law_leads" (.cons (.var 0) (.cons (.var 1) (.cons (.var 7) .nil))))))) .nil)
theorem mU' {Q:VK} {H H0:Hp} {bd d e:Addr} {F:List K3} {L:List NK} {o0:Obj} {x2 x3 x4 x5 x7:Option V} (hLd:C.fs "_law_leads"=some tI') (hB:IsB H bd l0 h0 l1 h1 sp) (hF:∀k∈F,k∈rk (lvs sp) h0 h1) (hn:F.Nodup) (hFl:F.length<=300) (hd:H d=none) (he:H e=none) (hde:d≠e) (sH:av' H H0) (hd0:H0 d=some (.frz o0 (.dT (dK3 F)))) (he0:H0 e=some (cy' e L)) (hL:f8' H0 L) (hLed:Led l0 h0 l1 h1 sp (prs F) L)
  (q:∀(p:Addr) (H':Hp),H p=none->av' H H'->H' p=some (.dT (dK3 (nxl l0 h0 l1 h1 sp F)))->Q (.ref p) H'):tE C xm' [some (.ref bd),some (.ref d),x2,x3,x4,x5,some (.ref e),x7] H0 Q:=by
 unfold xm'
 have hsm:∀k∈F,dI' k:=fun k hk=>(fS' hB.bs hB.b0 hB.b1).2 k (hF k hk)
 (try rw[w9'])
 symm
 refine wO' (.inr ⟨_,hd0⟩) fun o as hal has=>?_
 have hs1:av' H (upd H0 d (.frz o (.dT (dK3 F)))):=so hd sH
 have hd1:upd H0 d (.frz o (.dT (dK3 F))) d=some (.frz o (.dT (dK3 F))):=ab'
 have he1:upd H0 d (.frz o (.dT (dK3 F))) e=some (cy' e L):=by rw[ae' (Ne.symm hde)];exact he0
 have t0:Tp H0 (upd H0 d (.frz o (.dT (dK3 F)))):=tpo hd0 (fun xs z=>by cases z)
 have ha1:∀(i:Nat) a k,as[i]?=some a->F[i]?=some k->upd H0 d (.frz o (.dT (dK3 F))) a=some (.tup [nV k.1,nV k.2.1,nV k.2.2]):=fun i a k h1 h2=>t0 _ _ (has i a _ h1 (qp' h2))
 have hL1:=fl' hL t0
 generalize upd H0 d (.frz o (.dT (dK3 F)))=H1 at hs1 hd1 he1 ha1 hL1
 refine sq' (ks:=as.map V.ref) (fun i xs H'=>av' H1 H'/\∃L':PL,xs=(L'.map fun x=>V.ref x.1)/\Pl H' L' (dK3 ((F.take i).filter (kp l0 h0 l1 h1 sp F)))) ⟨av'.refl _,[],rfl,Pl.nil⟩ (fun i xs H' pv=>⟨_,pv.1 _ _ hd1⟩) ?_ ?_
 .rintro i xs H2 x R hx ⟨s2,L',rfl,hP⟩ hR
  obtain⟨k,a,hk,rfl,ha⟩:=mT' hal hx
  have hi:=al' hk
  have hkm:=aq hk
  have hak:=s2 _ _ (ha1 i a k ha hk)
  have hsk:=hsm k hkm
  have etk:(F.take (i+1)).filter (kp l0 h0 l1 h1 sp F)=(F.take i).filter (kp l0 h0 l1 h1 sp F)++if kp l0 h0 l1 h1 sp F k then[k]else[]:=by
   rw[de' hk,List.filter_append]
   congr 1
   rw[cI]
   split
   .rfl
   .rfl
  symm
  refine sE' (iy' hak) (dy' hsk) (s2 _ _ he1) (fl' hL1 (af' s2)) ?_
  rw[if_neg (by decide),hLed.any]
  have skip:kp l0 h0 l1 h1 sp F k=false->∀H3,av' H2 H3->R (L'.map fun x=>V.ref x.1) H3:=fun hf H3 s3=>hR _ _ ⟨s2.trans s3,L',rfl,by
   rw[etk,hf]
   simp only[aZ,if_false,cz]
   exact hP.mono (af' s3)⟩
  cases ea:(F.any fun q=>decide (lb l0 h0 l1 h1 sp q 0=some k) || decide (lb l0 h0 l1 h1 sp q 1=some k))with
  |false=>
   symm
   exact skip (by unfold kp;rw[ea];rfl) H2 (av'.refl _)
  |true=>
   symm
   refine ag' hLd ?_
   symm
   refine⟨bd,d,a,l0,h0,l1,h1,sp,F,k,rfl,hB.mono (af' (hs1.trans s2)),.inr ⟨_,s2 _ _ hd1⟩,hsm,hak,hsk.1,fun H3 s3=>?_⟩
   cases eb:(inK F (lb l0 h0 l1 h1 sp k 0) || inK F (lb l0 h0 l1 h1 sp k 1))with
   |false=>
    symm
    exact skip (by unfold kp;rw[ea,eb];rfl) H3 s3
   |true=>
    symm
    refine⟨by decide,fun p4 hp4=>?_⟩
    obtain⟨s4,e4⟩:=snw hp4 (.tup [.ref a,.bl true])
    generalize upd H3 p4 _=H4 at s4 e4 ⊢
    have hll:=hP.len
    have:=bH (kp l0 h0 l1 h1 sp F) (F.take i)
    rw[cK']at hll
    rw[aJ]at this
    refine⟨an' (by rw[ac];omega),hR _ _ ⟨s2.trans (s3.trans s4),L'++[(p4,kK k,a,.bl true)],by rw[aM];rfl,?_⟩⟩
    rw[etk,show kp l0 h0 l1 h1 sp F k=true by unfold kp;rw[ea,eb];rfl,if_pos rfl]
    unfold dK3
    rw[aM]
    exact(hP.mono (af' (s3.trans s4))).snoc e4 (by rw[o6'];exact s4 _ _ (s3 _ _ hak))
 .rintro xs H2 ⟨s2,L',rfl,hP⟩ p hp
  rw[ac,hal,cK',bn,<- qq']at hP
  obtain⟨s3,e3⟩:=snw hp (.lst (L'.map fun x=>V.ref x.1))
  have hP3:=hP.mono (af' s3)
  have hs3:=hs1.trans (s2.trans s3)
  generalize upd H2 p _=H3 at s3 e3 hP3 hs3 ⊢
  refine tc' hP3 (ph' (hn.sublist cB)) e3 fun d' hd'=>?_
  exact q d' _ (hs3.free hd') (hs3.trans (ah' hd' _)) ab'
theorem g7' (hN:C.N.length=8) (hBe:C.fs "_law_behind"=some dx') (hLd:C.fs "_law_leads"=some tI'):∀vs H Q E,bU' vs H Q E->tSs C dg' { nx:=fun _ H'=>Q .non H',rt:=Q } (L2.aQ' C.N vs) H:=by
 intro vs H Q E h
 obtain⟨bd,l0,h0,l1,h1,sp,rfl,hB,a0,a1,q⟩:=h
 have hnd:=j3' (fk' (sp:=sp)) (h0:=h0) (h1:=h1)
 have hkl:=(fS' hB.bs hB.b0 hB.b1).1
 rw[ap' hN]
 unfold dg'
 refine gV' fun N0 hN0=>?_
 rw[gU',qc']
 intro d hd
 obtain⟨s1,e1⟩:=snw hd (.dT [])
 generalize upd H d _=H1 at s1 e1 ⊢
 refine hN0 _ _ ?_
 refine gV' fun N1 hN1=>?_
 refine mS' (l0:=l0) (l1:=l1) hB hd s1 e1 fun x2 x3 x4 H2 s2 e2=>hN1 _ _ ?_
 symm
 refine mb' (fun m σ H'=>∃(d:Addr) (F:List K3) (x2 x3 x4 x6 x7:Option V) (z:Int),σ=[some (.ref bd),some (.ref d),x2,x3,x4,some (.int z),x6,x7]/\H d=none/\av' H H'/\H' d=some (.dT (dK3 F))/\F.Sublist (rk (lvs sp) h0 h1)/\Cov l0 h0 l1 h1 sp F/\((z=-1/\m=1000)\/∃G,F=nxl l0 h0 l1 h1 sp G/\z=(G.length:Int)/\m=G.length)) 1000 ⟨d,_,x2,x3,x4,_,_,_,rfl,hd,s2,e2,List.Sublist.refl _,fun S hS r hr k hk=>aq hk,.inl ⟨rfl,rfl⟩⟩ ?_
 rintro m σ H3 ⟨d,F,x2,x3,x4,x6,x7,z,rfl,hd,s3,e3,hsub,hcov,hz⟩
 have hFl:=hsub.length_le
 have hFn:=hsub.nodup hnd
 symm
 refine jd' (.inl e3) ?_
 rw[cK']
 symm
 rw[show(!decide (z=(F.length:Int)))=decide (¬z=(F.length:Int)) by simp]
 refine a3' (fun hc=>mc' ?_) fun hc=>md' ?_
 .refine gV' fun N3 hN3=>?_
  symm
  refine jd' (.inl e3) ?_
  rw[cK']
  symm
  refine hN3 _ _ ?_
  refine gV' fun N4 hN4=>?_
  rw[gU',qb']
  intro e he
  obtain⟨s4,e4⟩:=snw he (cy' e [])
  have hed:d≠e:=by rintro rfl;rw[e3]at he;cases he
  have f4:=s3.free he
  have s4':=s3.trans s4
  have e34:=s4 _ _ e3
  generalize upd H3 e _=H4 at s4 e4 s4' e34 ⊢
  refine hN4 _ _ ?_
  refine gV' fun N5 hN5=>?_
  refine pg' hBe hB a0 a1 (fun k hk=>hsub.subset hk) ⋯ hd f4 hed s4' e34 e4 fun x2 x7 H5 L o s5 hd5 he5 hL5 hLed=>hN5 _ _ ?_
  rw[ij',gU']
  refine mU' hLd hB (fun k hk=>hsub.subset hk) hFn ⋯ hd f4 hed s5 hd5 he5 hL5 hLed fun p H6 hp s6 e6=>?_
  symm
  refine⟨F.length,?_,p,_,_,_,_,_,_,_,rfl,hp,s6,e6,(cB).trans hsub,hcov.nx a0 a1,.inr ⟨F,rfl,rfl,rfl⟩⟩
  rcases hz with⟨_,rfl⟩|⟨G,rfl,rfl,rfl⟩
  .omega
  .have:=bH (kp l0 h0 l1 h1 sp G) G
   rw[<- qq']at this
   omega
 .symm
  rcases hz with⟨rfl,_⟩|⟨G,rfl,rfl,_⟩
  .omega
  .have e:nxl l0 h0 l1 h1 sp G=G:=eA' (show G.length<=(nxl l0 h0 l1 h1 sp G).length by omega)
   rw[e]at e3 hcov hsub
   exact q d G H3 hd s3 e3 ⟨hsub,e,hcov⟩
end
def lt3 (a b:K3):Prop:=a.1<b.1\/(a.1=b.1/\(a.2.1<b.2.1\/(a.2.1=b.2.1/\a.2.2<b.2.2)))
theorem td' {m b:Nat}:∀{h:Nat},(r2 (aG m) b h).Pairwise lt3
 |0=>List.Pairwise.nil
 |h+1=>by
  rw[ey']
  refine bO.mpr ⟨td',?_,fun x hx y hy=>?_⟩
  .unfold r1
   rw[bF]
   exact List.pairwise_lt_range.imp fun {a c} z=>.inr ⟨rfl,.inr ⟨rfl,z⟩⟩
  .obtain⟨e1,_,e2,_⟩:=bJ' hx
   unfold r1 at hy
   obtain⟨l,_,rfl⟩:=az.mp hy
   exact .inr ⟨e1,.inl (by show x.2.1<h+1;omega)⟩
theorem Ap' {sp:Option Nat} {h0 h1:Nat}:(rk (lvs sp) h0 h1).Pairwise lt3:=by
 unfold rk
 rw[g6']
 refine bO.mpr ⟨td',td',fun x hx y hy=>.inl ?_⟩
 have:=(bJ' hx).1
 have:=(bJ' hy).1
 omega
set_option tactic.hygienic true in
theorem BY' {a b:K3} (h:lt3 a b):aU' (L2.kI (BD.kI b)) (L2.kI (BD.kI a))=false:=by
 obtain⟨a1,a2,a3⟩:=a
 obtain⟨b1,b2,b3⟩:=b
 unfold lt3 at h
 dsimp only at h
 show aU' [.inl (b1:Int),.inl (b2:Int),.inl (b3:Int)] [.inl (a1:Int),.inl (a2:Int),.inl (a3:Int)]=false
 unfold aU'
 split
 .rename_i e
  have e:(b1:Int)=a1:=Sum.inl.inj e
  unfold aU'
  split
  .rename_i e2
   have e2:(b2:Int)=a2:=Sum.inl.inj e2
   unfold aU'
   split
   .rename_i e3
    have e3:(b3:Int)=a3:=Sum.inl.inj e3
    omega
   .exact decide_eq_false ⋯
  .exact decide_eq_false ⋯
 .exact decide_eq_false ⋯
theorem up3 {F:List K3} (hF:F.Pairwise lt3):((dK3 F).map fun kv=>unK kv.1).Pairwise fun x y=>aU' (L2.kI y) (L2.kI x)=false:=by
 have e:((dK3 F).map fun kv=>unK kv.1)=F.map BD.kI:=by
  unfold dK3
  rw[aX]
  rfl
 rw[e,bF]
 exact hF.imp fun {a b} z=>BY' z
theorem qr' {H:Hp}:∀{F:List K3} {as:List Addr},as.length=(dK3 F).length->(∀(i:Nat) b kv,as[i]?=some b->(dK3 F)[i]?=some kv->H b=some (.tup (kv.1.map L2.kV)))->bV' (fj' H) (as.map V.ref) F
 | [],[],_,_=>trivial
 | [],_ :: _,h,_=>by cases h
 |k :: F,[],h,_=>by cases h
 |k :: F,a :: as,hl,h=>⟨⟨a,rfl,h 0 a (kK k,.bl true) rfl rfl⟩,qr' (Nat.succ.inj hl) fun i b kv h1 h2=>h (i+1) b kv h1 h2⟩
def dh':Sp:=fun vs H Q _=>∃(bd:Addr) (l0 h0 l1 h1:Nat) (sp:Option Nat),vs=[.ref bd]/\IsB H bd l0 h0 l1 h1 sp/\∀(p:Addr) (rs:List Nat) (H':Hp),av' H H'->IsM H' p (prt (MxA l0 h0 l1 h1 sp) rs)->Rs (MxA l0 h0 l1 h1 sp) rs->Q (.ref p) H'
theorem mV' {C:Rc} (hN:C.N.length=3) (hT:C.fs "trimmed"=some eB') (hM:C.fs "machine_in_bounds"=some g0') (hR:C.fs "rooms_in_bounds"=some mD'):∀vs H Q E,dh' vs H Q E->tSs C bo' { nx:=fun _ H'=>Q .non H',rt:=Q } (L2.aQ' C.N vs) H:=by
 intro vs H Q E h
 obtain⟨bd,l0,h0,l1,h1,sp,rfl,hB,q⟩:=h
 rw[ap' hN]
 unfold bo'
 have hrl:=(fS' hB.bs hB.b0 hB.b1 (h0:=h0) (h1:=h1)).1
 symm
 rw[gU']
 refine ag' hT ?_
 symm
 refine ag' hM ?_
 symm
 refine ag' hR ?_
 symm
 refine⟨bd,l0,h0,l1,h1,sp,rfl,hB,fun p xs H1 s1 hp hxs=>?_⟩
 symm
 refine⟨bd,p,l0,h0,l1,h1,sp,xs,rfl,hB.mono (af' s1),hp,hxs,fun p2 H2 s2 hM2=>?_⟩
 symm
 refine⟨p2,_,rfl,hM2,by rw[ac];omega,fun p3 p' l rs H3 s3 _ hp3 hl hM3 hRs=>?_⟩
 refine se' (SqT.of hp3) ?_
 symm
 exact q p' rs H3 (s1.trans (s2.trans s3)) hM3 hRs
def rks (sp:Option Nat) (h0 h1:Nat) (rs:List Nat):List K3:=rs.map fun r=>(rk (lvs sp) h0 h1)[r]?.getD (0,0,0)
section
variable {l0 h0 l1 h1:Nat} {sp:Option Nat}
theorem qs' (a0:1<=h0) (a1:1<=h1) {F:List K3} (h:Lsd l0 h0 l1 h1 sp F) {rs:List Nat} (hR:Rs (MxA l0 h0 l1 h1 sp) rs):rks sp h0 h1 rs=F/\prt (MxA l0 h0 l1 h1 sp) rs=b4' l0 h0 l1 h1 sp F:=by
 have e:rs=F.map (rk (lvs sp) h0 h1).idxOf:=hR.uniq (h.rs a0 a1)
 rw[e]
 refine⟨?_,h.prt a0 a1⟩
 unfold rks
 rw[aX]
 have:∀k∈F,((fun r=>(rk (lvs sp) h0 h1)[r]?.getD (0,0,0))∘(rk (lvs sp) h0 h1).idxOf) k=k:=fun k hk=>by
  show(rk (lvs sp) h0 h1)[(rk (lvs sp) h0 h1).idxOf k]?.getD (0,0,0)=k
  rw[br' (h.mem hk)]
  rfl
 exact(cm this).trans (List.map_id _)
theorem xn' {F:List K3} {r t:Nat} {k:K3} {c:Bool} (hk:F[r]?=some k) (h:stp (b4' l0 h0 l1 h1 sp F) r c=some t):∃k',F[t]?=some k'/\lb l0 h0 l1 h1 sp k (if c then 1 else 0)=some k':=by
 unfold stp b4' at h
 rw[ao,hk]at h
 have key:∀o:Option K3,ixF F o=some t->∃k',F[t]?=some k'/\o=some k':=fun o ho=>by
  cases o with
  |none=>cases ho
  |some k'=>
   have ho:(if k'∈F then some (F.idxOf k')else none)=some t:=ho
   by_cases hin:k'∈F
   .rw[if_pos hin]at ho
    cases ho
    exact⟨k',br' hin,rfl⟩
   .rw[if_neg hin]at ho
    cases ho
 cases c with
 |false=>exact key _ h
 |true=>exact key _ h
theorem qt' {F:List K3}:OkM (b4' l0 h0 l1 h1 sp F):=by
 intro r hr
 obtain⟨k,hk,rfl⟩:=az.mp hr
 have hl:(b4' l0 h0 l1 h1 sp F).length=F.length:=by unfold b4';rw[ac]
 have key:∀o:Option K3,∀x,ixF F o=some x->x<(b4' l0 h0 l1 h1 sp F).length:=fun o x ho=>by
  cases o with
  |none=>cases ho
  |some k'=>
   have ho:(if k'∈F then some (F.idxOf k')else none)=some x:=ho
   by_cases hin:k'∈F
   .rw[if_pos hin]at ho
    cases ho
    rw[hl]
    exact bI hin
   .rw[if_neg hin]at ho
    cases ho
 exact⟨key _,key _⟩
end
end K06
namespace M7
open PySem PySem.Spec PyProof.Rows L2 R3 LW TM BD BE TE K06
def bN (c:Bool):Nat:=if c then 1 else 0
def hO (h0 h1:Nat) (c:Bool):Nat:=if c then h1 else h0
theorem xo' {c:Bool}:bN c<2:=by cases c<;>decide
def sg (c:Bool):Int:=if c then 1 else -1
def sm:List Bool->Int
 | []=>0
 |c :: w=>sg c+sm w
theorem g8':∀{u v:List Bool},sm (u++v)=sm u+sm v
 | [],v=>by show sm v=0+sm v;omega
 |c :: u,v=>by show sg c+sm (u++v)=sg c+sm u+sm v;rw[g8'];omega
theorem qu':∀{u:List Bool},sm u.reverse=sm u
 | []=>rfl
 |c :: u=>by rw[List.reverse_cons,g8',qu'];show sm u+(sg c+0)=sg c+sm u;omega
theorem qv':∀{u:List Bool},sm (u.map (!·))=- sm u
 | []=>rfl
 |c :: u=>by show sg (!c)+sm (u.map (!·))=-(sg c+sm u);rw[qv'];cases c<;>simp[sg]<;>omega
section
variable (l0 h0 l1 h1:Nat) (sp:Option Nat)
def pth (k:K3):List Bool->Option K3
 | []=>some k
 |c :: w=>(lb l0 h0 l1 h1 sp k (bN c)).bind fun k'=>pth k' w
def gd:Bool->Nat->List Bool->Prop
 |_,_,[]=>True
 |b,x,c :: w=>if c=b then x+1<=hO h0 h1 b/\gd b (x+1) w else hO l0 l1 b<=x/\gd c 1 w
def lo:Int->List Bool->Prop
 |_,[]=>True
 |l,c :: w=>(∀s,sp=some s->0<=l+sg c/\l+sg c<=s)/\lo (l+sg c) w
def Fb (f:List Bool):Prop:=(∃b,f=av (hO h0 h1 b+1) b)\/∃b j,1<=j/\j<hO l0 l1 b/\f=[!b]++av j b++[!b]
def Ok (w:List Bool):Prop:=∀f,f <:+: w->¬Fb l0 h0 l1 h1 f/\∀s:Nat,sp=some s->sm f<=s/\-(s:Int)<=sm f
end
section
variable {l0 h0 l1 h1:Nat} {sp:Option Nat}
theorem iz':∀{w:List Bool} {l:Int},lo none l w
 | [],_=>trivial
 |c :: w,l=>⟨fun s z=>(by cases z),iz'⟩
theorem mW' {b c:Bool} {x lv:Nat}:lb l0 h0 l1 h1 sp (bN b,x,lv) (bN c)=if ot sp (lvl sp lv (bN c))=true then none else if c=b then(if x+1<=hO h0 h1 b then some (bN c,x+1,(lvl sp lv (bN c)).toNat)else none)else if hO l0 l1 b<=x then some (bN c,1,(lvl sp lv (bN c)).toNat)else none:=by
 unfold lb hO
 cases b<;>cases c<;>simp[bN]
theorem xp' {m lv:Nat} {c:Bool}:lvl (some m) lv (bN c)=(lv:Int)+sg c:=by cases c<;>rfl
theorem mX' {m:Nat} {l:Int}:ot (some m) l=true↔¬(0<=l/\l<=m):=by
 unfold ot
 rw[aR,decide_eq_true_eq,decide_eq_true_eq]
 omega
theorem fW':∀{w:List Bool} {b:Bool} {x lv:Nat},(∃k,pth l0 h0 l1 h1 none (bN b,x,lv) w=some k)↔gd l0 h0 l1 h1 b x w
 | [],b,x,lv=>⟨fun _=>trivial,fun _=>⟨_,rfl⟩⟩
 |c :: w,b,x,lv=>by
  unfold pth gd
  rw[mW',show ot none (lvl none lv (bN c))=false from rfl,if_neg ak]
  by_cases e:c=b
  .subst e
   rw[if_pos rfl,if_pos rfl]
   by_cases e2:x+1<=hO h0 h1 c
   .rw[if_pos e2,cJ,fW']
    exact⟨fun z=>⟨e2,z⟩,fun z=>z.2⟩
   .rw[if_neg e2]
    exact⟨fun⟨k,z⟩=>(by cases z),fun z=>absurd z.1 e2⟩
  .rw[if_neg e,if_neg e]
   by_cases e2:hO l0 l1 b<=x
   .rw[if_pos e2,cJ,fW']
    exact⟨fun z=>⟨e2,z⟩,fun z=>z.2⟩
   .rw[if_neg e2]
    exact⟨fun⟨k,z⟩=>(by cases z),fun z=>absurd z.1 e2⟩
theorem fX' {m:Nat}:∀{w:List Bool} {b:Bool} {x lv:Nat},(∃k,pth l0 h0 l1 h1 (some m) (bN b,x,lv) w=some k)↔gd l0 h0 l1 h1 b x w/\lo (some m) lv w
 | [],b,x,lv=>⟨fun _=>⟨trivial,trivial⟩,fun _=>⟨_,rfl⟩⟩
 |c :: w,b,x,lv=>by
  unfold pth gd lo
  rw[mW',xp']
  by_cases ho:ot (some m) ((lv:Int)+sg c)=true
  .rw[if_pos ho]
   exact⟨fun⟨k,z⟩=>(by cases z),fun z=>absurd (z.2.1 m rfl) (mX'.mp ho)⟩
  .rw[if_neg ho]
   have hin:0<=(lv:Int)+sg c/\(lv:Int)+sg c<=m:=Decidable.not_not.mp fun z=>ho (mX'.mpr z)
   have hl:(((lv:Int)+sg c).toNat:Int)=(lv:Int)+sg c:=by omega
   by_cases e:c=b
   .subst e
    rw[if_pos rfl,if_pos rfl]
    by_cases e2:x+1<=hO h0 h1 c
    .rw[if_pos e2,cJ,fX',hl]
     exact⟨fun z=>⟨⟨e2,z.1⟩,fun s e=>(by cases e;exact hin),z.2⟩,fun z=>⟨z.1.2,z.2.2⟩⟩
    .rw[if_neg e2]
     exact⟨fun⟨k,z⟩=>(by cases z),fun z=>absurd z.1.1 e2⟩
   .rw[if_neg e,if_neg e]
    by_cases e2:hO l0 l1 b<=x
    .rw[if_pos e2,cJ,fX',hl]
     exact⟨fun z=>⟨⟨e2,z.1⟩,fun s e=>(by cases e;exact hin),z.2⟩,fun z=>⟨z.1.2,z.2.2⟩⟩
    .rw[if_neg e2]
     exact⟨fun⟨k,z⟩=>(by cases z),fun z=>absurd z.1.1 e2⟩
theorem iA' {w:List Bool} {b:Bool} {x lv:Nat}:(∃k,pth l0 h0 l1 h1 sp (bN b,x,lv) w=some k)↔gd l0 h0 l1 h1 b x w/\lo sp lv w:=by
 cases sp with
 |none=>rw[fW'];exact⟨fun z=>⟨z,iz'⟩,fun z=>z.1⟩
 |some m=>exact fX'
theorem mY':∀{w:List Bool} {l:Int},lo sp l w↔∀p,p <+: w->p≠[]->∀s,sp=some s->0<=l+sm p/\l+sm p<=s
 | [],l=>⟨fun _ p hp hn=>absurd (List.prefix_nil.mp hp) hn,fun _=>trivial⟩
 |c :: w,l=>by
  unfold lo
  rw[mY']
  constructor
  .rintro⟨z1,z2⟩ p hp hn s hs
   cases p with
   |nil=>exact absurd rfl hn
   |cons d p=>
    obtain⟨rfl,hp2⟩:=List.cons_prefix_cons.mp hp
    by_cases e:p=[]
    .subst e
     have:=z1 s hs
     show 0<=l+(sg d+0)/\l+(sg d+0)<=s
     omega
    .have:=z2 p hp2 e s hs
     show 0<=l+(sg d+sm p)/\l+(sg d+sm p)<=s
     omega
  .intro z
   refine⟨fun s hs=>?_,fun p hp hn s hs=>?_⟩
   .have:=z [c] (List.cons_prefix_cons.mpr ⟨rfl,List.nil_prefix⟩) (by simp) s hs
    have e:sm [c]=sg c+0:=rfl
    rw[e]at this
    omega
   .have:=z (c :: p) (List.cons_prefix_cons.mpr ⟨rfl,hp⟩) (by simp) s hs
    have e:sm (c :: p)=sg c+sm p:=rfl
    rw[e]at this
    omega
theorem mZ' (w:List Bool):∃p,p <+: w/\∀q,q <+: w->sm p<=sm q:=by
 have key:∀n,n<=w.length->∃i,i<=n/\∀j,j<=n->sm (w.take i)<=sm (w.take j):=by
  intro n
  induction n with
  |zero=>intro _;exact⟨0,ag _,fun j hj=>by rw[Nat.le_zero.mp hj];exact Int.le_refl _⟩
  |succ n ih=>
   intro hn
   obtain⟨i,hi,h⟩:=ih ⋯
   by_cases hc:sm (w.take i)<=sm (w.take (n+1))
   .refine⟨i,⋯,fun j hj=>?_⟩
    by_cases e:j=n+1
    .rw[e];exact hc
    .exact h j ⋯
   .refine⟨n+1,ag _,fun j hj=>?_⟩
    by_cases e:j=n+1
    .rw[e];exact Int.le_refl _
    .have:=h j ⋯
     omega
 obtain⟨i,_,h⟩:=key w.length (ag _)
 refine⟨w.take i,List.take_prefix _ _,fun q hq=>?_⟩
 have:=h q.length hq.length_le
 rw[List.prefix_iff_eq_take.mp hq]
 exact this
theorem te' {w:List Bool} {s:Nat} (h:∀f,f <:+: w->sm f<=s/\-(s:Int)<=sm f):∃l:Nat,l<=s/\lo (some s) l w:=by
 obtain⟨p,hp,hl⟩:=mZ' w
 have h0:=hl [] List.nil_prefix
 have h0:sm p<=0:=h0
 have hs:=h p hp.isInfix
 refine⟨(- sm p).toNat,⋯,mY'.mpr fun q hq _ s' e=>?_⟩
 cases e
 have h1:=hl q hq
 rw[show(((- sm p).toNat:Nat):Int)=- sm p by omega]
 refine⟨⋯,?_⟩
 rcases List.prefix_or_prefix_of_prefix hp hq with z|z
 .obtain⟨r,rfl⟩:=z
  rw[g8']
  have:r <:+: w:=by
   obtain⟨t,ht⟩:=hq
   exact⟨p,t,ht⟩
  have:=h r this
  omega
 .obtain⟨r,rfl⟩:=z
  rw[g8']
  have:r <:+: w:=by
   obtain⟨t,ht⟩:=hp
   exact⟨q,t,ht⟩
  have:=h r this
  omega
theorem tf':∀{w:List Bool} {c:Bool} {x:Nat},1<=x->(∀f,f <:+: [!c]++av x c++w->¬Fb l0 h0 l1 h1 f)->gd l0 h0 l1 h1 c x w
 | [],c,x,hx,h=>trivial
 |d :: w,c,x,hx,h=>by
  unfold gd
  by_cases e:d=c
  .subst e
   rw[if_pos rfl]
   have ew:[!d]++av x d++d :: w=[!d]++av (x+1) d++w:=by
    rw[List.replicate_succ',aD,aD,aD]
    rfl
   rw[ew]at h
   refine⟨cE fun z=>?_,tf' (Nat.succ_le_succ (aT _)) h⟩
   refine h (av (hO h0 h1 d+1) d) ?_ (.inl ⟨d,rfl⟩)
   refine⟨[!d]++av (x+1-(hO h0 h1 d+1)) d,w,?_⟩
   rw[aD [!d],cT,show x+1-(hO h0 h1 d+1)+(hO h0 h1 d+1)=x+1 by omega]
  .rw[if_neg e]
   have ed:d=!c:=by cases d<;>cases c<;>simp_all
   subst ed
   refine⟨cE fun z=>?_,tf' (ag 1) fun f hf=>?_⟩
   .refine h ([!c]++av x c++[!c]) ⟨[],w,?_⟩ (.inr ⟨c,x,hx,z,rfl⟩)
    rw[cQ,aD]
    rfl
   .refine h f ?_
    have e1:[!c]++av x c++(!c) :: w=([!c]++av (x-1) c)++([!!c]++av 1 (!c)++w):=by
     rw[Bool.not_not]
     have:av x c=av (x-1) c++[c]:=by
      rw[<- List.replicate_succ',Nat.sub_add_cancel hx]
     rw[this]
     simp
    rw[e1]
    obtain⟨a,b,e⟩:=hf
    exact⟨([!c]++av (x-1) c)++a,b,by rw[<- e];simp⟩
theorem g9' (c:Bool):∀w:List Bool,∃a r,w=av a c++r/\(r=[]\/∃r',r=(!c) :: r')
 | []=>⟨0,[],rfl,.inl rfl⟩
 |d :: w=>by
  by_cases e:d=c
  .subst e
   obtain⟨a,r,e,h⟩:=g9' d w
   exact⟨a+1,r,by rw[e];rfl,h⟩
  .have ed:d=!c:=by cases d<;>cases c<;>simp_all
   exact⟨0,d :: w,rfl,.inr ⟨w,by rw[ed]⟩⟩
theorem qw' {c:Bool} {r:List Bool}:∀{a x:Nat},x+a<=hO h0 h1 c->gd l0 h0 l1 h1 c (x+a) r->gd l0 h0 l1 h1 c x (av a c++r)
 |0,x,_,h=>h
 |a+1,x,h1,h=>by
  rw[bw,List.cons_append]
  unfold gd
  rw[if_pos rfl]
  exact⟨⋯,qw' ⋯ (by rw[show x+1+a=x+(a+1) by omega];exact h)⟩
theorem xq' (hl0:1<=l0) (hl1:1<=l1) (a0:l0<=h0) (a1:l1<=h1) {w:List Bool} (h:Ok l0 h0 l1 h1 sp w):∃k∈rk (lvs sp) h0 h1,∃k',pth l0 h0 l1 h1 sp k w=some k':=by
 have hlev:∃l:Nat,l∈lvs sp/\lo sp l w:=by
  cases sp with
  |none=>exact⟨0,eC'.mpr rfl,iz'⟩
  |some s=>
   obtain⟨l,h1,h2⟩:=te' (w:=w) (s:=s) fun f hf=>(h f hf).2 s rfl
   exact⟨l,eC'.mpr h1,h2⟩
 obtain⟨l,hl,hlo⟩:=hlev
 have hlh:∀c,hO l0 l1 c<=hO h0 h1 c/\1<=hO l0 l1 c:=fun c=>by cases c<;>exact⟨by assumption,by assumption⟩
 have inr:∀{b:Bool} {x:Nat},1<=x->x<=hO h0 h1 b->((bN b,x,l):K3)∈rk (lvs sp) h0 h1:=fun {b x} h1 h2=>eD'.mpr ⟨xo',h1,by cases b<;>exact h2,hl⟩
 cases w with
 |nil=>exact⟨_,inr (b:=false) (ag 1) (aF hl0 a0),_,rfl⟩
 |cons c w=>
  obtain⟨a,r,e,hr⟩:=g9' c w
  have ha:a+1<=hO h0 h1 c:=cE fun z=>by
   refine(h (av (hO h0 h1 c+1) c) ?_).1 (.inl ⟨c,rfl⟩)
   refine⟨[],av (a-hO h0 h1 c) c++r,?_⟩
   rw[e,cQ,<- aD,cT,show hO h0 h1 c+1+(a-hO h0 h1 c)=a+1 by omega]
   rfl
  have hrest:gd l0 h0 l1 h1 c (hO h0 h1 c) r:=by
   rcases hr with rfl|⟨r',rfl⟩
   .trivial
   .unfold gd
    rw[if_neg (by cases c<;>decide)]
    refine⟨(hlh c).1,tf' (ag 1) fun f hf=>(h f ?_).1⟩
    rw[e]
    obtain⟨p,q,ef⟩:=hf
    have e1:c :: (av a c++(!c) :: r')=av a c++([!!c]++av 1 (!c)++r'):=by
     rw[Bool.not_not]
     have:c :: (av a c++(!c) :: r')=(c :: av a c)++(!c) :: r':=rfl
     rw[this,<- bw,List.replicate_succ',aD]
     rfl
    exact⟨av a c++p,q,by rw[e1,<- ef,aD,aD,aD]⟩
  have hgo:∀x,1<=x->x+a=hO h0 h1 c->gd l0 h0 l1 h1 c x w:=fun x _ hx=>by
   rw[e]
   exact qw' ⋯ (by rw[hx];exact hrest)
  have ec:(if c=c then hO h0 h1 c-a-1+1<=hO h0 h1 c/\gd l0 h0 l1 h1 c (hO h0 h1 c-a-1+1) w else hO l0 l1 c<=hO h0 h1 c-a-1/\gd l0 h0 l1 h1 c 1 w)=(hO h0 h1 c-a-1+1<=hO h0 h1 c/\gd l0 h0 l1 h1 c (hO h0 h1 c-a-1+1) w):=if_pos rfl
  by_cases hx:hO h0 h1 c=a+1
  .refine⟨_,inr (b:=!c) (x:=hO h0 h1 (!c)) (aF (hlh _).2 (hlh _).1) (ag _),iA'.mpr ⟨?_,hlo⟩⟩
   unfold gd
   rw[if_neg (by cases c<;>decide)]
   exact⟨(hlh _).1,hgo 1 (ag 1) ⋯⟩
  .refine⟨_,inr (b:=c) (x:=hO h0 h1 c-a-1) ⋯ ⋯,iA'.mpr ⟨?_,hlo⟩⟩
   unfold gd
   rw[ec]
   exact⟨⋯,hgo _ ⋯ ⋯⟩
end
end M7
namespace M7
open PySem PySem.Spec PyProof.Rows L2 R3 LW TM BD BE TE K06
section
variable {l0 h0 l1 h1:Nat} {sp:Option Nat}
theorem m0':∀{f q:List Bool} {b:Bool} {x:Nat},gd l0 h0 l1 h1 b x (f++q)->gd l0 h0 l1 h1 b x f
 | [],q,b,x,_=>trivial
 |c :: f,q,b,x,h=>by
  have h:gd l0 h0 l1 h1 b x (c :: (f++q)):=h
  unfold gd at h ⊢
  by_cases e:c=b
  .rw[if_pos e]at h ⊢
   exact⟨h.1,m0' h.2⟩
  .rw[if_neg e]at h ⊢
   exact⟨h.1,m0' h.2⟩
theorem m1':∀{p r:List Bool} {b:Bool} {x:Nat},gd l0 h0 l1 h1 b x (p++r)->∃b' x',gd l0 h0 l1 h1 b' x' r
 | [],r,b,x,h=>⟨b,x,h⟩
 |c :: p,r,b,x,h=>by
  have h:gd l0 h0 l1 h1 b x (c :: (p++r)):=h
  unfold gd at h
  by_cases e:c=b
  .rw[if_pos e]at h
   exact m1' h.2
  .rw[if_neg e]at h
   exact m1' h.2
theorem jn' {c:Bool} {r:List Bool}:∀{a x:Nat},gd l0 h0 l1 h1 c x (av a c++r)->(a=0\/x+a<=hO h0 h1 c)/\gd l0 h0 l1 h1 c (x+a) r
 |0,x,h=>⟨.inl rfl,h⟩
 |a+1,x,h=>by
  rw[bw,List.cons_append]at h
  unfold gd at h
  rw[if_pos rfl]at h
  obtain⟨z1,z2⟩:=jn' h.2
  rw[show x+1+a=x+(a+1) by omega]at z1 z2
  exact⟨.inr (by rcases z1 with z|z<;>omega),z2⟩
theorem xr' (c0:1<=h0) (c1:1<=h1) {b:Bool} {x:Nat} {f:List Bool} (h:gd l0 h0 l1 h1 b x f):¬Fb l0 h0 l1 h1 f:=by
 rintro(⟨c,rfl⟩|⟨c,j,hj1,hj2,rfl⟩)
 .by_cases e:c=b
  .subst e
   have:=jn' (r:=[]) (a:=hO h0 h1 c+1) (by rw[cz];exact h)
   rcases this.1 with z|z<;>omega
  .rw[bw]at h
   unfold gd at h
   rw[if_neg e]at h
   have:=jn' (r:=[]) (a:=hO h0 h1 c) (by rw[cz];exact h.2)
   have hc:1<=hO h0 h1 c:=by cases c<;>assumption
   rcases this.1 with z|z<;>omega
 .obtain⟨i,rfl⟩:∃i,j=i+1:=⟨j-1,⋯⟩
  have h:gd l0 h0 l1 h1 b x ((!c) :: (c :: av i c++[!c])):=h
  obtain⟨y,h⟩:∃y,gd l0 h0 l1 h1 (!c) y (c :: (av i c++[!c])):=by
   unfold gd at h
   by_cases e:(!c)=b
   .rw[if_pos e,<- e]at h
    exact⟨_,h.2⟩
   .rw[if_neg e]at h
    exact⟨_,h.2⟩
  unfold gd at h
  rw[if_neg (by cases c<;>decide)]at h
  have z:=(jn' h.2).2
  unfold gd at z
  rw[if_neg (by cases c<;>decide)]at z
  have:=z.1
  omega
theorem xt' (c0:1<=h0) (c1:1<=h1) {k:K3} (hk:k∈rk (lvs sp) h0 h1) {w:List Bool} (h:∃k',pth l0 h0 l1 h1 sp k w=some k'):Ok l0 h0 l1 h1 sp w:=by
 obtain⟨b,x,lv⟩:=k
 obtain⟨e1,_,_,e4⟩:=eD'.mp hk
 obtain⟨b,rfl⟩:∃c:Bool,b=bN c:=by
  have e1:b<2:=e1
  rcases(by omega:b=0\/b=1)with rfl|rfl
  .exact⟨false,rfl⟩
  .exact⟨true,rfl⟩
 obtain⟨g,l⟩:=iA'.mp h
 rintro f ⟨p,q,rfl⟩
 rw[aD]at g
 obtain⟨b',x',g⟩:=m1' g
 refine⟨xr' c0 c1 (m0' g),fun s hs=>?_⟩
 subst hs
 have e4:lv<=s:=eC'.mp e4
 have key:∀r,r <+: p++f++q->0<=(lv:Int)+sm r/\(lv:Int)+sm r<=s:=fun r hr=>by
  by_cases hn:r=[]
  .subst hn
   show 0<=(lv:Int)+0/\(lv:Int)+0<=s
   omega
  .exact mY'.mp l r hr hn s rfl
 have k1:=key p ⟨f++q,by rw[aD]⟩
 have k2:=key (p++f) ⟨q,rfl⟩
 rw[g8']at k2
 omega
theorem cL':∀{u v:List Bool} {k:K3},pth l0 h0 l1 h1 sp k (u++v)=(pth l0 h0 l1 h1 sp k u).bind fun k'=>pth l0 h0 l1 h1 sp k' v
 | [],v,k=>rfl
 |c :: u,v,k=>by
  show(lb l0 h0 l1 h1 sp k (bN c)).bind (fun k'=>pth l0 h0 l1 h1 sp k' (u++v))=((lb l0 h0 l1 h1 sp k (bN c)).bind fun k'=>pth l0 h0 l1 h1 sp k' u).bind _
  cases lb l0 h0 l1 h1 sp k (bN c)with
  |none=>rfl
  |some k'=>exact cL'
theorem qx' (a0:1<=h0) (a1:1<=h1):∀{w:List Bool} {k k':K3},k∈rk (lvs sp) h0 h1->pth l0 h0 l1 h1 sp k w=some k'->k'∈rk (lvs sp) h0 h1
 | [],k,k',hk,h=>by cases h;exact hk
 |c :: w,k,k',hk,h=>by
  have h:(lb l0 h0 l1 h1 sp k (bN c)).bind (fun k'=>pth l0 h0 l1 h1 sp k' w)=some k':=h
  cases e:lb l0 h0 l1 h1 sp k (bN c)with
  |none=>rw[e]at h;cases h
  |some q=>rw[e]at h;exact qx' a0 a1 ((j6' a0 a1 hk xo').1 q e) h
theorem iB' {F:List K3}:∀{w:List Bool} {r t:Nat} {k:K3},F[r]?=some k->wk (b4' l0 h0 l1 h1 sp F) (some r) w=some t->∃k',F[t]?=some k'/\pth l0 h0 l1 h1 sp k w=some k'
 | [],r,t,k,hk,h=>by cases h;exact⟨k,hk,rfl⟩
 |c :: w,r,t,k,hk,h=>by
  have h:wk (b4' l0 h0 l1 h1 sp F) (stp (b4' l0 h0 l1 h1 sp F) r c) w=some t:=h
  cases e:stp (b4' l0 h0 l1 h1 sp F) r c with
  |none=>rw[e,iq']at h;cases h
  |some r'=>
   rw[e]at h
   obtain⟨k1,hk1,el⟩:=xn' hk e
   obtain⟨k',z1,z2⟩:=iB' hk1 h
   refine⟨k',z1,?_⟩
   show(lb l0 h0 l1 h1 sp k (bN c)).bind _=_
   rw[show lb l0 h0 l1 h1 sp k (bN c)=some k1 from el]
   exact z2
theorem qy' {F:List K3}:∀{w:List Bool} {k:K3},k∈F->(∀i,i<=w.length->∃q∈F,pth l0 h0 l1 h1 sp k (w.take i)=some q)->∃t,wk (b4' l0 h0 l1 h1 sp F) (some (F.idxOf k)) w=some t
 | [],k,hk,h=>⟨_,rfl⟩
 |c :: w,k,hk,h=>by
  obtain⟨q,hq,e⟩:=h 1 (by simp)
  have e:(lb l0 h0 l1 h1 sp k (bN c)).bind (fun k'=>some k')=some q:=e
  have el:lb l0 h0 l1 h1 sp k (bN c)=some q:=by
   cases z:lb l0 h0 l1 h1 sp k (bN c)with
   |none=>rw[z]at e;cases e
   |some y=>rw[z]at e;exact e
  have es:stp (b4' l0 h0 l1 h1 sp F) (F.idxOf k) c=some (F.idxOf q):=by
   unfold stp b4'
   rw[ao,br' hk]
   have:ixF F (lb l0 h0 l1 h1 sp k (bN c))=some (F.idxOf q):=by
    rw[el]
    exact if_pos hq
   cases c<;>exact this
  obtain⟨t,ht⟩:=qy' (w:=w) hq fun i hi=>by
   obtain⟨q',hq',e'⟩:=h (i+1) (by simpa using hi)
   refine⟨q',hq',?_⟩
   have e':(lb l0 h0 l1 h1 sp k (bN c)).bind (fun k'=>pth l0 h0 l1 h1 sp k' (w.take i))=some q':=e'
   rw[el]at e'
   exact e'
  refine⟨t,?_⟩
  show wk _ (stp _ _ c) w=_
  rw[es]
  exact ht
theorem Lsd.ahead {F:List K3} (h:Lsd l0 h0 l1 h1 sp F) {k:K3} (hk:k∈F):∃c,∃q∈F,lb l0 h0 l1 h1 sp k (bN c)=some q:=by
 have hk2:k∈nxl l0 h0 l1 h1 sp F:=by rw[h.fix];exact hk
 have hk3:=(aY.mp hk2).2
 rw[ah,aR]at hk3
 have key:∀o:Option K3,inK F o=true->∃q∈F,o=some q:=fun o ho=>by
  cases o with
  |none=>cases ho
  |some q=>exact⟨q,of_decide_eq_true ho,rfl⟩
 rcases hk3.2 with e|e
 .obtain⟨q,hq,e⟩:=key _ e
  exact⟨false,q,hq,e⟩
 .obtain⟨q,hq,e⟩:=key _ e
  exact⟨true,q,hq,e⟩
theorem Lsd.back {F:List K3} (h:Lsd l0 h0 l1 h1 sp F) {k:K3} (hk:k∈F):∃c,∃q∈F,lb l0 h0 l1 h1 sp q (bN c)=some k:=by
 have hk2:k∈nxl l0 h0 l1 h1 sp F:=by rw[h.fix];exact hk
 have hk3:=(aY.mp hk2).2
 rw[ah,bL]at hk3
 obtain⟨⟨q,hq,e⟩,_⟩:=hk3
 rw[aR,decide_eq_true_eq,decide_eq_true_eq]at e
 rcases e with e|e
 .exact⟨false,q,hq,e⟩
 .exact⟨true,q,hq,e⟩
theorem Lsd.far {F:List K3} (h:Lsd l0 h0 l1 h1 sp F):∀(n:Nat) {k:K3},k∈F->∃v q,v.length=n/\q∈F/\pth l0 h0 l1 h1 sp k v=some q
 |0,k,hk=>⟨[],k,rfl,hk,rfl⟩
 |n+1,k,hk=>by
  obtain⟨c,q,hq,e⟩:=Lsd.ahead h hk
  obtain⟨v,t,hv,ht,e2⟩:=Lsd.far h n hq
  exact⟨c :: v,t,by rw[bb,hv],ht,by show(lb l0 h0 l1 h1 sp k (bN c)).bind _=_;rw[e];exact e2⟩
theorem Lsd.past {F:List K3} (h:Lsd l0 h0 l1 h1 sp F):∀(n:Nat) {k:K3},k∈F->∃u q,u.length=n/\q∈F/\pth l0 h0 l1 h1 sp q u=some k
 |0,k,hk=>⟨[],k,rfl,hk,rfl⟩
 |n+1,k,hk=>by
  obtain⟨c,q,hq,e⟩:=Lsd.back h hk
  obtain⟨u,t,hu,ht,e2⟩:=Lsd.past h n hq
  refine⟨u++[c],t,by rw[ax,hu];rfl,ht,?_⟩
  rw[cL',e2]
  show(lb l0 h0 l1 h1 sp q (bN c)).bind _=_
  rw[e]
  rfl
def Kp (l0 h0 l1 h1:Nat) (sp:Option Nat) (F:List K3) (w:List Bool):Prop:=∃r,r<F.length/\∃e,wk (b4' l0 h0 l1 h1 sp F) (some r) w=some e
def Far (l0 h0 l1 h1:Nat) (sp:Option Nat) (w:List Bool):Prop:=∀n,∃u v:List Bool,u.length=n/\v.length=n/\Ok l0 h0 l1 h1 sp (u++w++v)
theorem Lsd.kp_far (c0:1<=h0) (c1:1<=h1) {F:List K3} (h:Lsd l0 h0 l1 h1 sp F) {w:List Bool} (hk:Kp l0 h0 l1 h1 sp F w):Far l0 h0 l1 h1 sp w:=by
 intro n
 obtain⟨r,hr,e,he⟩:=hk
 obtain⟨k',hk',e1⟩:=iB' (ae hr) he
 obtain⟨u,q,hu,hq,e2⟩:=Lsd.past h n (cH hr)
 obtain⟨v,t,hv,ht,e3⟩:=Lsd.far h n (aq hk')
 refine⟨u,v,hu,hv,xt' c0 c1 (h.mem hq) ⟨t,?_⟩⟩
 rw[cL',cL',e2,cJ,e1,cJ,e3]
theorem m2' {α:Type} [BEq α] [LawfulBEq α]:∀{l b:List α},l.Nodup->(∀i∈l,i∈b)->l.length<=b.length
 | [],_,_,_=>aT _
 |a :: l,b,h,hs=>by
  have ha:a∈b:=hs a (by simp)
  have:=m2' (l:=l) (b:=b.erase a) (bx.mp h).2 fun i hi=>by
   have hne:i≠a:=fun e=>(bx.mp h).1 (by rw[<- e];exact hi)
   exact(List.mem_erase_of_ne hne).mpr (hs i (by simp[hi]))
  rw[List.length_erase_of_mem ha]at this
  have:=da ha
  rw[bb]
  omega
theorem xu' {α:Type} [BEq α] [LawfulBEq α] {f:Nat->α} {ks:List α} {n a:Nat} (hf:∀i,i<=n->f (a+i)∈ks) (hn:ks.length<=n):∃i j,i<j/\j<=n/\f (a+i)=f (a+j):=by
 apply Classical.byContradiction
 intro hno
 have nd:((aG (n+1)).map fun i=>f (a+i)).Nodup:=by
  rw[List.nodup_iff_pairwise_ne,bF]
  refine List.Pairwise.imp_of_mem (fun {i j} hi hj hij e=>hno ⟨i,j,hij,?_,e⟩) bT
  have:=aK.mp hj
  omega
 have:=m2' (b:=ks) nd fun x hx=>by
  obtain⟨i,hi,rfl⟩:=az.mp hx
  exact hf i (by have:=aK.mp hi;omega)
 rw[ac,bf]at this
 omega
theorem Lsd.far_kp (a0:1<=l0) (a1:1<=l1) (b0:l0<=h0) (b1:l1<=h1) {F:List K3} (h:Lsd l0 h0 l1 h1 sp F) {w:List Bool} (hk:Far l0 h0 l1 h1 sp w):Kp l0 h0 l1 h1 sp F w:=by
 have c0:1<=h0:=by omega
 have c1:1<=h1:=by omega
 obtain⟨N,hN⟩:∃N,N=(rk (lvs sp) h0 h1).length:=⟨_,rfl⟩
 obtain⟨u,v,hu,hv,ok⟩:=hk N
 obtain⟨k,hkm,k',hp⟩:=xq' a0 a1 b0 b1 ok
 have st_:∀i,∃q∈rk (lvs sp) h0 h1,pth l0 h0 l1 h1 sp k ((u++w++v).take i)=some q:=fun i=>by
  have e:(u++w++v).take i++(u++w++v).drop i=u++w++v:=bv _ _
  rw[<- e,cL']at hp
  cases z:pth l0 h0 l1 h1 sp k ((u++w++v).take i)with
  |none=>rw[z]at hp;cases hp
  |some q=>exact⟨q,qx' c0 c1 hkm z,rfl⟩
 let f:Nat->K3:=fun i=>(pth l0 h0 l1 h1 sp k ((u++w++v).take i)).getD (0,0,0)
 have hf:∀i,pth l0 h0 l1 h1 sp k ((u++w++v).take i)=some (f i)/\f i∈rk (lvs sp) h0 h1:=fun i=>by
  obtain⟨q,hq,e⟩:=st_ i
  have:f i=q:=by show(pth l0 h0 l1 h1 sp k ((u++w++v).take i)).getD (0,0,0)=q;rw[e];rfl
  rw[this]
  exact⟨e,hq⟩
 have hlen:(u++w++v).length=N+w.length+N:=by rw[ax,ax,hu,hv]
 have step:∀i,i<N+w.length+N->∃c,lb l0 h0 l1 h1 sp (f i) (bN c)=some (f (i+1)):=fun i hi=>by
  have hi':i<(u++w++v).length:=by rw[hlen];exact hi
  refine⟨(u++w++v)[i],?_⟩
  have e:=(hf (i+1)).1
  rw[bj,ae hi',cL',(hf i).1]at e
  have e:(lb l0 h0 l1 h1 sp (f i) (bN (u++w++v)[i])).bind (fun k'=>some k')=some (f (i+1)):=e
  cases z:lb l0 h0 l1 h1 sp (f i) (bN (u++w++v)[i])with
  |none=>rw[z]at e;cases e
  |some y=>rw[z]at e;exact e
 obtain⟨i,j,hij,hjn,e1⟩:=xu' (f:=f) (ks:=rk (lvs sp) h0 h1) (n:=N) (a:=0) (fun i _=>(hf _).2) ⋯
 obtain⟨m,l,hml,hln,e2⟩:=xu' (f:=f) (ks:=rk (lvs sp) h0 h1) (n:=N) (a:=N+w.length) (fun i _=>(hf _).2) ⋯
 rw[Nat.zero_add,Nat.zero_add]at e1
 obtain⟨S,hS⟩:∃S:List Nat,S=(aG (N+w.length+l-i+1)).map fun d=>(rk (lvs sp) h0 h1).idxOf (f (i+d)):=⟨_,rfl⟩
 have inS:∀t,i<=t->t<=N+w.length+l->(rk (lvs sp) h0 h1).idxOf (f t)∈S:=fun t h1 h2=>by
  rw[hS]
  exact az.mpr ⟨t-i,aK.mpr ⋯,by rw[show i+(t-i)=t by omega]⟩
 have edge:∀t,t<N+w.length+N->fs1 (MxA l0 h0 l1 h1 sp) ((rk (lvs sp) h0 h1).idxOf (f t))=some ((rk (lvs sp) h0 h1).idxOf (f (t+1)))\/fs2 (MxA l0 h0 l1 h1 sp) ((rk (lvs sp) h0 h1).idxOf (f t))=some ((rk (lvs sp) h0 h1).idxOf (f (t+1))):=fun t ht=>by
  obtain⟨c,e⟩:=step t ht
  obtain⟨g1,g2⟩:=g4' (l0:=l0) (l1:=l1) c0 c1 (br' (hf t).2)
  cases c with
  |false=>left;rw[g1,show lb l0 h0 l1 h1 sp (f t) 0=some (f (t+1)) from e];rfl
  |true=>right;rw[g2,show lb l0 h0 l1 h1 sp (f t) 1=some (f (t+1)) from e];rfl
 have sus:Sus (MxA l0 h0 l1 h1 sp) S:=by
  intro r hr
  rw[hS]at hr
  obtain⟨d,hd,rfl⟩:=az.mp hr
  rw[aK]at hd
  refine⟨?_,?_,?_⟩
  .unfold MxA
   rw[ac]
   exact bI (hf _).2
  .by_cases hd0:d=0
   .subst hd0
    rw[Nat.add_zero,e1]
    refine⟨_,inS (j-1) ⋯ ⋯,?_⟩
    have:=edge (j-1) ⋯
    rw[show j-1+1=j by omega]at this
    exact this
   .refine⟨_,inS (i+d-1) ⋯ ⋯,?_⟩
    have:=edge (i+d-1) ⋯
    rw[show i+d-1+1=i+d by omega]at this
    exact this
  .by_cases hdl:i+d=N+w.length+l
   .rw[hdl,<- e2]
    exact⟨_,inS (N+w.length+m+1) ⋯ ⋯,edge _ ⋯⟩
   .exact⟨_,inS (i+d+1) ⋯ ⋯,edge _ ⋯⟩
 have inF:∀t,i<=t->t<=N+w.length+l->f t∈F:=fun t h1 h2=>h.all S sus _ (inS t h1 h2) _ (br' (hf t).2)
 have hFN:=inF N ⋯ ⋯
 obtain⟨t,ht⟩:=qy' (l0:=l0) (h0:=h0) (l1:=l1) (h1:=h1) (sp:=sp) (w:=w) hFN fun x hx=>by
  refine⟨f (N+x),inF _ ⋯ ⋯,?_⟩
  have e:=(hf (N+x)).1
  rw[aD,List.take_append,hu,show N+x-N=x by omega,bq (by omega:u.length<=N+x),cL']at e
  have eN:=(hf N).1
  rw[aD,List.take_append_of_le_length ⋯,bq (by omega:u.length<=N)]at eN
  rw[eN,cJ,List.take_append_of_le_length hx]at e
  exact e
 exact⟨_,bI hFN,t,ht⟩
theorem m3' {n:Nat} {b:Bool}:(av n b).reverse=av n b:=List.reverse_replicate
theorem Fb.rev {f:List Bool} (h:Fb l0 h0 l1 h1 f):Fb l0 h0 l1 h1 f.reverse:=by
 rcases h with⟨b,rfl⟩|⟨b,j,h1,h2,rfl⟩
 .exact .inl ⟨b,m3'⟩
 .refine .inr ⟨b,j,h1,h2,?_⟩
  rw[cX,cX,m3']
  show[!b]++(av j b++[!b])=_
  rw[aD]
theorem Ok.rev {w:List Bool} (h:Ok l0 h0 l1 h1 sp w):Ok l0 h0 l1 h1 sp w.reverse:=fun f hf=>by
 have hf2:f.reverse <:+: w:=by rw[<- List.reverse_reverse w];exact List.reverse_infix.mpr hf
 obtain⟨a,b⟩:=h _ hf2
 refine⟨fun z=>a z.rev,fun s hs=>?_⟩
 have:=b s hs
 rw[qu']at this
 exact this
theorem Far.rev {w:List Bool} (h:Far l0 h0 l1 h1 sp w):Far l0 h0 l1 h1 sp w.reverse:=fun n=>by
 obtain⟨u,v,hu,hv,ok⟩:=h n
 refine⟨v.reverse,u.reverse,by rw[cj,hv],by rw[cj,hu],?_⟩
 have:=ok.rev
 rw[cX,cX,<- aD]at this
 exact this
theorem Fb.exch {f:List Bool} (h:Fb l0 h0 l1 h1 (f.map (!·))):Fb l1 h1 l0 h0 f:=by
 have back:∀g:List Bool,f.map (!·)=g->f=g.map (!·):=fun g e=>by
  rw[<- e,aX]
  have:((fun x=>!x)∘fun x=>!x)=(id:Bool->Bool):=funext fun x=>Bool.not_not x
  rw[this,List.map_id]
 have hx:∀(a c:Nat) (b:Bool),hO a c b=hO c a (!b):=fun a c b=>by cases b<;>rfl
 rcases h with⟨b,e⟩|⟨b,j,h1,h2,e⟩
 .refine .inl ⟨!b,?_⟩
  rw[back _ e,List.map_replicate,hx]
 .refine .inr ⟨!b,j,h1,by rw[<- hx];exact h2,?_⟩
  rw[back _ e]
  simp
theorem Ok.exch {w:List Bool} (h:Ok l0 h0 l1 h1 sp w):Ok l1 h1 l0 h0 sp (w.map (!·)):=fun f hf=>by
 have hf2:f.map (!·) <:+: w:=by
  obtain⟨p,q,e⟩:=hf
  refine⟨p.map (!·),q.map (!·),?_⟩
  rw[<- aM,<- aM,e,aX]
  have:((fun x=>!x)∘fun x=>!x)=(id:Bool->Bool):=funext fun x=>Bool.not_not x
  rw[this,List.map_id]
 obtain⟨a,b⟩:=h _ hf2
 refine⟨fun z=>a ?_,fun s hs=>?_⟩
 .have:f=(f.map (!·)).map (!·):=by
   rw[aX]
   have:((fun x=>!x)∘fun x=>!x)=(id:Bool->Bool):=funext fun x=>Bool.not_not x
   rw[this,List.map_id]
  rw[this]at z
  exact z.exch
 .have:=b s hs
  rw[qv']at this
  omega
theorem Far.exch {w:List Bool} (h:Far l0 h0 l1 h1 sp w):Far l1 h1 l0 h0 sp (w.map (!·)):=fun n=>by
 obtain⟨u,v,hu,hv,ok⟩:=h n
 refine⟨u.map (!·),v.map (!·),by rw[ac,hu],by rw[ac,hv],?_⟩
 have:=ok.exch
 rw[aM,aM]at this
 exact this
theorem Ok.loose {m0 g0 m1 g1:Nat} {sq:Option Nat} (z0:m0<=l0) (z1:h0<=g0) (z2:m1<=l1) (z3:h1<=g1) (zs:∀t,sq=some t->∃s,sp=some s/\s<=t) {w:List Bool} (h:Ok l0 h0 l1 h1 sp w):Ok m0 g0 m1 g1 sq w:=fun f hf=>by
 refine⟨?_,fun t ht=>?_⟩
 .rintro(⟨b,rfl⟩|⟨b,j,x1,x2,rfl⟩)
  .have hle:hO h0 h1 b<=hO g0 g1 b:=by cases b<;>assumption
   refine(h (av (hO h0 h1 b+1) b) (List.IsInfix.trans ?_ hf)).1 (.inl ⟨b,rfl⟩)
   refine⟨[],av (hO g0 g1 b-hO h0 h1 b) b,?_⟩
   rw[cQ,cT,show hO h0 h1 b+1+(hO g0 g1 b-hO h0 h1 b)=hO g0 g1 b+1 by omega]
  .have hle:hO m0 m1 b<=hO l0 l1 b:=by cases b<;>assumption
   exact(h _ hf).1 (.inr ⟨b,j,x1,⋯,rfl⟩)
 .obtain⟨s,hs,hst⟩:=zs t ht
  have:=(h _ hf).2 s hs
  omega
theorem Far.loose {m0 g0 m1 g1:Nat} {sq:Option Nat} (z0:m0<=l0) (z1:h0<=g0) (z2:m1<=l1) (z3:h1<=g1) (zs:∀t,sq=some t->∃s,sp=some s/\s<=t) {w:List Bool} (h:Far l0 h0 l1 h1 sp w):Far m0 g0 m1 g1 sq w:=fun n=>by
 obtain⟨u,v,hu,hv,ok⟩:=h n
 exact⟨u,v,hu,hv,ok.loose z0 z1 z2 z3 zs⟩
end
end M7
namespace K07
open PySem PySem.Spec PyProof.Rows L2 R3 LW
def fY':List Str:=["machine","room","row","here","bit"]
def dP':List Str:=["int"]
def dz':List Str:=["machine","row","room"]
def cs':List Str:=["len","range"]
def bt':List Str:=["machine","rooms","bit","leads","room","lead"]
def a6':List Str:=["int","sorted"]
def cM':List Str:=["machine","rooms","inside","led_to","room","lead"]
def b5':List Str:=["set"]
def cN':List Str:=["machine","numbers","anew","at","room"]
def b6':List Str:=["enumerate","tuple"]
def cO':List Str:=["machine","numbers","fewer"]
def b7':List Str:=["len","list","range"]
def a8':List Str:=["bounds","low0","high0","low1","high1","spread","levels","bit","high","place","level"]
def aM':List Str:=["list","range"]
def bE':List Str:=["bounds","room","bit","low0","high0","low1","high1","spread","last","place","level"]
def bi':List Str:=[]
def aY':List Str:=["bounds","rooms","numbers","at","room"]
def aE':List Str:=["enumerate","tuple"]
def bQ':List Str:=["bounds","less","numbers"]
def bp':List Str:=[]
def ck':List Str:=["bounds","row","machine","rooms","at","bit"]
def bL':List Str:=["enumerate","len","list","range"]
def eE':List Str:=["bounds","row"]
def di':List Str:=[]
def b8':List Str:=["bounds","row","bit"]
def bw':List Str:=[]
def b9':List Str:=["row","bit"]
def bx':List Str:=[]
def dj':List Str:=["_law_script","_law_k"]
def cl':List Str:=["len"]
def pi':List Str:=["_law_script","_law_k","_law_cell"]
def m4':List Str:=["abs","int"]
def m5':List Str:=["_law_box_here","_law_many","_law_found","_law_once","_law_twice"]
def jo':List Str:=[]
def fZ':List Str:=["_law_box_here","_law_lows","_law_highs","_law_low"]
def dQ':List Str:=[]
def f0':List Str:=["_law_bounds_here","_law_state","_law_bit","_law_own","_law_place","_law_level"]
def dR':List Str:=[]
def iC':List Str:=["_law_bounds_here","_law_left","_law_state"]
def f1':List Str:=[]
def eF':List Str:=["_law_bounds_here","_law_left","_law_bit","_law_place","_law_level","_law_size","_law_led","_law_state"]
def dk':List Str:=["dict","len","range"]
def dA':List Str:=["_law_box_here","_law_bounds_here","_law_left","_law_many","_law_row_here","_law_some","_law_state","_law_k","_law_two","_law_bit","_law_other","_law_at"]
def ct':List Str:=["int","len","range","sorted"]
def cu':Css:=(.cons (.asg (.name 4) (.str ""))
  (.cons (.asg (.name 5) (.blt .sortU (.cons (.var 2) .nil)))
  (.cons (.asg (.name 6) (.idx (.var 5) (.call "_law_take" (.cons (.var 0) (.cons (.blt .len (.cons (.var 5) .nil)) .nil)))))
  (.cons (.for_ (.name 7) (.range1 (.var 3)) (.cons (.asg (.name 8) (.comp (.call "_law_behind" (.cons (.var 1) (.cons (.var 6) (.cons (.var 9) .nil)))) [9] (.name 9) (.val (.tup (.cons (.int 0) (.cons (.int 1) .nil)))) .none .nil))
  (.cons (.asg (.name 8) (.comp (.var 10) [10] (.name 10) (.val (.var 8)) (.some (.din false (.var 10) (.var 2))) .nil))
  (.cons (.asg (.name 6) (.idx (.var 8) (.call "_law_take" (.cons (.var 0) (.cons (.blt .len (.cons (.var 8) .nil)) .nil)))))
  (.cons (.asg (.name 4) (.bin .Add (.var 4) (.idx (.str "01") (.idx (.var 6) (.int 0)))))
  .nil)))))
  (.cons (.ite (.and (.cmp .Gt (.var 3) (.int 0)) (.cmp .Eq (.call "_law_take" (.cons (.var 0) (.cons (.int 3) .nil))) (.int 0))) (.cons (.asg (.name 11) (.call "_law_take" (.cons (.var 0) (.cons (.var 3) .nil))))
  (.cons (.asg (.name 4) (.bin .Add (.bin .Add (.cut (.var 4) .none (.some (.var 11))) (.idx (.str "10") (.blt .int (.cons (.idx (.var 4) (.var 11)) .nil)))) (.cut (.var 4) (.some (.bin .Add (.var 11) (.int 1))) .none)))
  .nil)) .nil)
  (.cons (.ret (.var 4))
  .nil))))))
def th':List Str:=["_law_box_here","_law_many","_law_often","_law_row_here"]
def pj':List Str:=["int","len"]
def f3':List Str:=["_law_box_here","_law_bounds_here","_law_made","_law_spread"]
def dS':List Str:=["max","min","tuple"]
def dT':Css:=(.cons (.asg (.name 2) (.lst (.cons (.blt .max (.cons (.int 1) (.cons (.bin .Sub (.idx (.var 1) (.int 0)) (.call "_law_take" (.cons (.var 0) (.cons (.int 2) .nil)))) .nil))) (.cons (.blt .min (.cons (.int 8) (.cons (.bin .Add (.idx (.var 1) (.int 1)) (.call "_law_take" (.cons (.var 0) (.cons (.int 3) .nil)))) .nil))) .nil))))
  (.cons (.asg (.name 2) (.bin .Add (.var 2) (.lst (.cons (.blt .max (.cons (.int 1) (.cons (.bin .Sub (.idx (.var 1) (.int 2)) (.call "_law_take" (.cons (.var 0) (.cons (.int 2) .nil)))) .nil))) (.cons (.blt .min (.cons (.int 8) (.cons (.bin .Add (.idx (.var 1) (.int 3)) (.call "_law_take" (.cons (.var 0) (.cons (.int 3) .nil)))) .nil))) .nil)))))
  (.cons (.asg (.name 3) (.idx (.var 1) (.int 4)))
  (.cons (.ite (.cmp .IsNot (.var 3) .non) (.cons (.asg (.name 3) (.idx (.lst (.cons .non (.cons (.var 3) (.cons (.blt .min (.cons (.int 16) (.cons (.bin .Add (.var 3) (.int 2)) .nil))) .nil)))) (.call "_law_take" (.cons (.var 0) (.cons (.int 3) .nil)))))
  .nil) .nil)
  (.cons (.ret (.bin .Add (.blt .tuple (.cons (.var 2) .nil)) (.tup (.cons (.var 3) .nil))))
  .nil)))))
def iD':List Str:=["_law_bounds_here","_law_looser_here","_law_machine","_law_row_here","_law_kept","_law_other","_law_many"]
def f4':List Str:=[]
def f5':Css:=(.cons (.asg (.name 4) (.call "keeps" (.cons (.var 0) (.cons (.var 3) .nil))))
  (.cons (.ite (.or (.cmp .NotEq (.var 4) (.call "keeps" (.cons (.var 0) (.cons (.rvt (.var 3)) .nil)))) (.cmp .NotEq (.var 4) (.cmp .NotEq (.call "starts" (.cons (.var 2) (.cons (.var 3) .nil))) (.lst .nil)))) (.cons (.ret (.bl false))
  .nil) .nil)
  (.cons (.asg (.name 5) (.tup (.cons (.idx (.var 0) (.int 2)) (.cons (.idx (.var 0) (.int 3)) (.cons (.idx (.var 0) (.int 0)) (.cons (.idx (.var 0) (.int 1)) (.cons (.idx (.var 0) (.int 4)) .nil)))))))
  (.cons (.ite (.or (.cmp .NotEq (.call "keeps" (.cons (.var 5) (.cons (.call "exchanged" (.cons (.var 3) .nil)) .nil))) (.var 4)) (.and (.val (.var 4)) (.not (.val (.call "keeps" (.cons (.var 1) (.cons (.var 3) .nil))))))) (.cons (.ret (.bl false))
  .nil) .nil)
  (.cons (.ite (.val (.var 4)) (.cons (.ret (.and (.cmp .NotEq (.call "next_bits" (.cons (.var 0) (.cons (.var 3) .nil))) (.str "")) (.and (.cmp .NotEq (.call "next_bits" (.cons (.var 0) (.cons (.rvt (.var 3)) .nil))) (.str "")) (.cmp .Is (.call "fault_at" (.cons (.var 0) (.cons (.var 3) .nil))) .non))))
  .nil) .nil)
  (.cons (.asg (.name 6) (.call "fault_at" (.cons (.var 0) (.cons (.var 3) .nil))))
  (.cons (.ite (.cmp .Eq (.var 6) (.int 0)) (.cons (.ret (.cmp .Eq (.var 2) (.tup .nil)))
  .nil) .nil)
  (.cons (.ret (.and (.call "keeps" (.cons (.var 0) (.cons (.cut (.var 3) .none (.some (.bin .Sub (.var 6) (.int 1)))) .nil))) (.not (.call "keeps" (.cons (.var 0) (.cons (.cut (.var 3) .none (.some (.var 6))) .nil))))))
  .nil))))))))
def pk':List Str:=["_law_script","_law_k","_law_box_here","_law_bounds_here","_law_looser_here","_law_machine","_law_left","_law_rows","_law_turn","_law_row_here"]
def m6':List Str:=["len","max","min","range"]
def pl':Css:=(.cons (.for_ (.name 1) (.range1 (.bin .Add (.int 1) (.blt .min (.cons (.int 4) (.cons (.blt .len (.cons (.var 0) .nil)) .nil))))) (.cons (.asg (.name 2) (.call "_law_box" (.cons (.var 0) (.cons (.var 1) .nil))))
  (.cons (.asg (.name 3) (.call "_law_bounds" (.cons (.var 2) .nil)))
  (.cons (.ite (.or (.cmp .Gt (.blt .maxT (.cons (.cut (.var 3) .none (.some (.int 4))) .nil)) (.int 4)) (.and (.cmp .IsNot (.idx (.var 3) (.int 4)) .non) (.cmp .Gt (.idx (.var 3) (.int 4)) (.int 6)))) (.cons (.asg (.name 3) (.tup (.cons (.int 1) (.cons (.int 2) (.cons (.int 1) (.cons (.int 3) (.cons (.idx (.lst (.cons .non (.cons (.int 3) (.cons (.int 4) .nil)))) (.call "_law_take" (.cons (.var 2) (.cons (.int 3) .nil)))) .nil)))))))
  .nil) .nil)
  (.cons (.asg (.name 4) (.call "_law_looser" (.cons (.var 2) (.cons (.var 3) .nil))))
  (.cons (.asg (.name 5) (.call "machine_of" (.cons (.var 3) .nil)))
  (.cons (.asg (.name 6) (.call "_law_lasting" (.cons (.var 3) .nil)))
  (.cons (.asg (.name 7) (.lst (.cons (.cut (.call "_law_row" (.cons (.var 2) .nil)) .none (.some (.int 16))) .nil)))
  (.cons (.ite (.cmw .neD0 (.var 6) .dnew) (.cons (.asg (.name 7) (.bin .Add (.var 7) (.comp (.call "_law_kept_row" (.cons (.var 2) (.cons (.var 3) (.cons (.var 6) (.cons (.call "_law_take" (.cons (.var 2) (.cons (.int 17) .nil))) .nil))))) [8] (.name 8) (.range1 (.int 2)) .none .nil)))
  .nil) .nil)
  (.cons (.ite (.cmp .Eq (.var 1) (.int 0)) (.cons (.asg (.name 7) (.bin .Add (.var 7) (.lst (.cons (.str "") (.cons (.str "0") (.cons (.str "1") (.cons (.str "00") (.cons (.str "01") (.cons (.str "10") (.cons (.str "11") (.cons (.str "0110") (.cons (.str "1001") (.cons (.str "0010") (.cons (.str "1101") .nil))))))))))))))
  .nil) .nil)
  (.cons (.for_ (.name 9) (.val (.var 7)) (.cons (.ite (.not (.val (.call "_law_right" (.cons (.var 3) (.cons (.var 4) (.cons (.var 5) (.cons (.var 9) .nil))))))) (.cons (.ret (.bl false))
  .nil) .nil)
  .nil))
  .nil)))))))))))
  (.cons (.ret (.bl true))
  .nil))
open TM BD BE TE K06 M7 SR
section
variable {l0 h0 l1 h1:Nat} {sp:Option Nat}
theorem xv' (a0:1<=h0) (a1:1<=h1) {rs:List Nat} (h:Rs (MxA l0 h0 l1 h1 sp) rs):Lsd l0 h0 l1 h1 sp (rks sp h0 h1 rs):=by
 have hlt:∀r∈rs,r<(rk (lvs sp) h0 h1).length:=fun r hr=>by
  have:=h.lt r hr
  unfold MxA at this
  rwa [ac]at this
 have hget:∀r∈rs,(rk (lvs sp) h0 h1)[r]?=some ((rk (lvs sp) h0 h1)[r]?.getD (0,0,0)):=fun r hr=>by rw[ae (hlt r hr)];rfl
 have hmem:∀{r k},r∈rs->(rk (lvs sp) h0 h1)[r]?=some k->k∈rks sp h0 h1 rs:=fun {r k} hr e=>az.mpr ⟨r,hr,by rw[e];rfl⟩
 refine⟨?_,?_,fun S hS r hr k hk=>hmem (h.all S hS r hr) hk⟩
 .have e1:rs=(aG (rk (lvs sp) h0 h1).length).filter fun r=>decide (r∈rs):=
   fT' h.rise (List.Pairwise.sublist cB bT) fun x=>by
    rw[aY,aK,decide_eq_true_eq]
    exact⟨fun z=>⟨hlt x z,z⟩,fun z=>z.2⟩
  have e2:(aG (rk (lvs sp) h0 h1).length).map (fun r=>(rk (lvs sp) h0 h1)[r]?.getD (0,0,0))=rk (lvs sp) h0 h1:=by
   apply bA
   intro i
   rw[ao]
   by_cases hi:i<(rk (lvs sp) h0 h1).length
   .rw[ci hi,ae hi]
    show some ((rk (lvs sp) h0 h1)[i]?.getD (0,0,0))=_
    rw[ae hi]
    rfl
   .rw[aU (by rw[bf];omega),aU ⋯]
    rfl
  have:=(show rs.Sublist (aG (rk (lvs sp) h0 h1).length) by rw[e1];exact cB).map fun r=>(rk (lvs sp) h0 h1)[r]?.getD (0,0,0)
  rw[e2]at this
  exact this
 .unfold nxl
  rw[List.filter_eq_self]
  intro k hk
  obtain⟨r,hr,rfl⟩:=az.mp hk
  obtain⟨_,⟨r1,hr1,e1⟩,⟨r2,hr2,e2⟩⟩:=h.sus r hr
  have g:=hget r hr
  have g1:=hget r1 hr1
  have g2:=hget r2 hr2
  obtain⟨f1,f2⟩:=g4' (l0:=l0) (l1:=l1) a0 a1 g1
  obtain⟨f3,f4⟩:=g4' (l0:=l0) (l1:=l1) a0 a1 g
  rw[ah,bL,aR]
  constructor
  .refine⟨_,hmem hr1 g1,?_⟩
   rw[aR,decide_eq_true_eq,decide_eq_true_eq]
   rcases e1 with e|e
   .rw[f1]at e;exact .inl (g5' a0 a1 (aq g1) (by decide) g e)
   .rw[f2]at e;exact .inr (g5' a0 a1 (aq g1) (by decide) g e)
  .rcases e2 with e|e
   .rw[f3]at e;left;rw[g5' a0 a1 (aq g) (by decide) g2 e];exact decide_eq_true (hmem hr2 g2)
   .rw[f4]at e;right;rw[g5' a0 a1 (aq g) (by decide) g2 e];exact decide_eq_true (hmem hr2 g2)
end
structure Wb (l0 h0 l1 h1:Nat) (sp:Option Nat):Prop where
 a0:1<=l0
 a1:1<=l1
 b0:l0<=h0
 b1:l1<=h1
 f0:h0*(lvs sp).length<=63
 f1:h1*(lvs sp).length<=63
theorem Wb.c0 {l0 h0 l1 h1:Nat} {sp:Option Nat} (w:Wb l0 h0 l1 h1 sp):1<=h0:=aF w.a0 w.b0
theorem Wb.c1 {l0 h0 l1 h1:Nat} {sp:Option Nat} (w:Wb l0 h0 l1 h1 sp):1<=h1:=aF w.a1 w.b1
open Classical in
noncomputable def fB (l0 h0 l1 h1:Nat) (sp:Option Nat) (w:List Bool):Bool:=decide (Far l0 h0 l1 h1 sp w)
theorem ha' {l0 h0 l1 h1:Nat} {sp:Option Nat} {w:List Bool}:fB l0 h0 l1 h1 sp w=true↔Far l0 h0 l1 h1 sp w:=by
 unfold fB
 exact @decide_eq_true_iff _ (Classical.propDecidable _)
theorem eG' {l0 h0 l1 h1:Nat} {sp:Option Nat} (hw:Wb l0 h0 l1 h1 sp) {F:List K3} (h:Lsd l0 h0 l1 h1 sp F) {w:List Bool}:Kp l0 h0 l1 h1 sp F w↔fB l0 h0 l1 h1 sp w=true:=by
 rw[ha']
 exact⟨Lsd.kp_far hw.c0 hw.c1 h,Lsd.far_kp hw.a0 hw.a1 hw.b0 hw.b1 h⟩
theorem xw' {l0 h0 l1 h1:Nat} {sp:Option Nat} {k q:K3} {c:Nat} (h:lb l0 h0 l1 h1 sp k c=some q):q.1=c:=by
 unfold lb at h
 by_cases z:ot sp (lvl sp k.2.2 c)=true
 .rw[if_pos z]at h;cases h
 .rw[if_neg z]at h
  by_cases y:c=k.1
  .rw[if_pos y]at h
   by_cases x:k.2.1+1<=(if c=1 then h1 else h0)
   .rw[if_pos x]at h;cases h;rfl
   .rw[if_neg x]at h;cases h
  .rw[if_neg y]at h
   by_cases x:(if k.1=1 then l1 else l0)<=k.2.1
   .rw[if_pos x]at h;cases h;rfl
   .rw[if_neg x]at h;cases h
theorem xx' {l0 h0 l1 h1:Nat} {sp:Option Nat} (hw:Wb l0 h0 l1 h1 sp) {F:List K3} (h:Lsd l0 h0 l1 h1 sp F) (b:Bool):∃B:List Nat,B.length<64/\∀p r,K04.bd (b4' l0 h0 l1 h1 sp F) b p=some r->r∈B:=by
 refine⟨(F.filter fun k=>decide (k.1=bN b)).map F.idxOf,?_,fun p r hr=>?_⟩
 .rw[ac]
  have hnd:=h.sub.nodup (j3' (fk' (sp:=sp)) (h0:=h0) (h1:=h1))
  have:(F.filter fun k=>decide (k.1=bN b)).length<=(r2 (lvs sp) (bN b) (hO h0 h1 b)).length:=m2' (hnd.sublist cB) fun k hk=>by
   obtain⟨hk1,hk2⟩:=aY.mp hk
   have hk2:=of_decide_eq_true hk2
   have:=h.mem hk1
   unfold rk at this
   rcases aL.mp this with z|z
   .have:=(bJ' z).1
    cases b with
    |false=>exact z
    |true=>rw[this]at hk2;exact absurd hk2 (by decide)
   .have:=(bJ' z).1
    cases b with
    |false=>rw[this]at hk2;exact absurd hk2 (by decide)
    |true=>exact z
  rw[db']at this
  have h0':=hw.f0
  have h1':=hw.f1
  cases b
  .exact bQ this (Nat.lt_succ_of_le h0')
  .exact bQ this (Nat.lt_succ_of_le h1')
 .unfold K04.bd fs1 fs2 b4' at hr
  rw[ao]at hr
  cases e:F[p]? with
  |none=>rw[e]at hr;cases b<;>cases hr
  |some k=>
   rw[e]at hr
   have hr:ixF F (lb l0 h0 l1 h1 sp k (bN b))=some r:=by cases b<;>exact hr
   cases el:lb l0 h0 l1 h1 sp k (bN b)with
   |none=>rw[el]at hr;cases hr
   |some q=>
    rw[el]at hr
    have hr:(if q∈F then some (F.idxOf q)else none)=some r:=hr
    by_cases hq:q∈F
    .rw[if_pos hq]at hr
     cases hr
     exact az.mpr ⟨q,aY.mpr ⟨hq,decide_eq_true (xw' el)⟩,rfl⟩
    .rw[if_neg hq]at hr
     cases hr
def m7':Sp:=fun vs H Q _=>∃(a l:Addr) (M:List Rm) (rs B:List Nat) (b:Bool),vs=[.ref a,.ref l,.str (tx [b])]/\IsM H a M/\OkM M/\B.length<64/\(∀p r,K04.bd M b p=some r->r∈B)/\H l=some (.lst (rs.map nV))/\(∀r∈rs,r<M.length)/\rs.length<=500/\∀(l':Addr) (rs':List Nat) (H':Hp),av' H H'->H' l'=some (.lst (rs'.map nV))->rs'.Pairwise (· < ·)->(∀r,r∈rs'↔∃p∈rs,K04.bd M b p=some r)->Q (.ref l') H'
theorem pm' {C:Rc} (hN:C.N.length=6):∀vs H Q E,m7' vs H Q E->tSs C K04.a5' { nx:=fun _ H'=>Q .non H',rt:=Q } (L2.aQ' C.N vs) H:=by
 intro vs H Q E h
 obtain⟨a,l,M,rs,B,b,rfl,hM,hO,hB64,hB,hl,hrs,hrl,q⟩:=h
 rw[ap' hN]
 unfold K04.a5'
 symm
 refine aV' (SqL.of hl) (ev' (vs:=rs.map nV) (fun i xs H'=>i<=rs.length/\xs=((rs.take i).map (K04.bd M b)).map oV/\H'=H) ⟨aT _,rfl,rfl⟩ (fun i xs H' pv=>SqL.of (by rw[pv.2.2];exact hl)) ?_ ?_)
 .rintro i xs H' x K hx ⟨_,rfl,rfl⟩ hK
  rw[ao]at hx
  obtain⟨r,er,rfl⟩:=bU.mp hx
  have hi:=al' er
  simp only[nV]
  symm
  refine dw' hM (hrs r (aq er)) fun pr hpr=>?_
  symm
  refine mi' (SqT.of hpr) ?_
  refine⟨by rw[ac,ac,aJ];exact an' ⋯,hK _ _ ⟨hi,?_,rfl⟩⟩
  rw[bj,er,aM,aM]
  show _++[if b=true then oV (fs2 M r)else oV (fs1 M r)]=_++[oV (K04.bd M b r)]
  cases b<;>rfl
 .rintro xs H' ⟨_,rfl,rfl⟩ L hL
  rw[ac,bn]
  have s1:=ah' hL (.lst ((rs.map (K04.bd M b)).map oV))
  have hL1:upd H' L (.lst ((rs.map (K04.bd M b)).map oV)) L=some (.lst ((rs.map (K04.bd M b)).map oV)):=ab'
  generalize upd H' L (.lst ((rs.map (K04.bd M b)).map oV))=H1 at s1 hL1 ⊢
  symm
  refine aV' (SqL.of hL1) (Ae' (vs:=(rs.map (K04.bd M b)).map oV) (fun i a H'=>i<=rs.length/\a.1=K04.sS ((rs.map (K04.bd M b)).take i)/\a.2<=i/\H'=H1) ⟨aT _,rfl,ag _,rfl⟩ (fun i a H' pv=>SqL.of (by rw[pv.2.2.2];exact hL1)) ?_ ?_)
  .rintro i ⟨S,n⟩ H2 x R hx ⟨_,hS,hn,rfl⟩ hR
   rw[ao]at hx
   obtain⟨o,ho,rfl⟩:=bU.mp hx
   have hi:i<rs.length:=by have:=al' ho;rwa [ac]at this
   have hsn:=K04.sY' (os:=(rs.map (K04.bd M b)).take i) (o:=o)
   have et:(rs.map (K04.bd M b)).take (i+1)=(rs.map (K04.bd M b)).take i++[o]:=by rw[bj,ho];rfl
   rw[<- et]at hsn
   dsimp only at hS hn
   subst hS
   cases o with
   |none=>
    simp only[oV]
    symm
    refine hR _ _ ⟨hi,?_,by show n<=i+1;omega,rfl⟩
    show K04.sS _=K04.sS _
    rw[hsn]
    funext k
    simp
   |some y=>
    simp only[oV]
    symm
    refine⟨some (y:Int),rfl,by show n<4000;omega,hR _ _ ⟨hi,?_,by show n+1<=i+1;omega,rfl⟩⟩
    show(fun j=>K04.sS _ j || decide (j=some (y:Int)))=K04.sS _
    rw[hsn]
    funext k
    show _=(_ || (true&&decide (k=some (y:Int))))
    rw[Bool.true_and]
  .rintro⟨S,n⟩ H2 ⟨_,hS,hn,rfl⟩
   rw[ac,bq (ag _)]at hS
   dsimp only at hS hn
   subst hS
   refine wZ' K04.sZ' ⟨B.map Int.ofNat,by rw[ac];exact hB64,fun i hi=>?_⟩ fun l' us hl' hus hmem=>?_
   .obtain⟨n,hn,rfl⟩:=K04.iw'.mp hi
    obtain⟨p,_,hp⟩:=az.mp hn
    exact List.mem_map_of_mem (f:=Int.ofNat) (hB p n hp)
   .dsimp only at hmem
    obtain⟨bs',hb1,hb2,hb3⟩:=K04.s0' hus (fun i hi=>by
     obtain⟨n,_,rfl⟩:=K04.iw'.mp ((hmem i).mp hi)
     exact Int.natCast_nonneg n)
    rw[hb2]
    refine q l' bs' _ (s1.trans (ah' hl' _)) ab' hb1 fun r=>?_
    rw[hb3,hmem,K04.iw']
    constructor
    .rintro⟨n,hn,e⟩
     obtain⟨p,hp,hpe⟩:=az.mp hn
     exact⟨p,hp,by rw[hpe,show r=n by omega]⟩
    .rintro⟨p,hp,hpe⟩
     exact⟨r,by rw[<- hpe];exact List.mem_map_of_mem hp,rfl⟩
def yk' (l0 h0 l1 h1:Nat) (sp:Option Nat) (row:List Bool) (o:Option Nat):Prop:=(o=none/\fB l0 h0 l1 h1 sp row=true)\/∃i,o=some i/\i<=row.length/\fB l0 h0 l1 h1 sp (row.take i)=false/\∀j,j<i->fB l0 h0 l1 h1 sp (row.take j)=true
theorem xy' {l0 h0 l1 h1:Nat} {sp:Option Nat} {F:List K3} {w:List Bool} (h:Kp l0 h0 l1 h1 sp F w) (i:Nat):Kp l0 h0 l1 h1 sp F (w.take i):=by
 obtain⟨r,hr,e,he⟩:=h
 refine⟨r,hr,?_⟩
 have:w=w.take i++w.drop i:=(bv i w).symm
 rw[this,jf']at he
 cases z:wk (b4' l0 h0 l1 h1 sp F) (some r) (w.take i)with
 |none=>rw[z,iq']at he;cases he
 |some x=>exact⟨x,rfl⟩
theorem yk'.iff {l0 h0 l1 h1:Nat} {sp:Option Nat} {row:List Bool} {o:Option Nat} (hw:Wb l0 h0 l1 h1 sp) {F:List K3} (hL:Lsd l0 h0 l1 h1 sp F) (h:yk' l0 h0 l1 h1 sp row o):decide (oV o=.non)=fB l0 h0 l1 h1 sp row:=by
 rcases h with⟨rfl,h⟩|⟨i,rfl,hi,h,_⟩
 .rw[h];rfl
 .cases e:fB l0 h0 l1 h1 sp row with
  |false=>rfl
  |true=>
   have:=(eG' hw hL).mp (xy' ((eG' hw hL).mpr e) i)
   rw[h]at this
   cases this
theorem m8' {M:List Rm} {b:Bool} {p:Nat}:K04.bd M b p=stp M p b:=by
 unfold K04.bd fs1 fs2 stp
 cases e:M[p]? with
 |none=>cases b<;>rfl
 |some r=>cases b<;>rfl
def qz':Sp:=fun vs H Q _=>∃(p:Addr) (l0 h0 l1 h1:Nat) (sp:Option Nat) (row:List Bool),vs=[.ref p,.str (tx row)]/\IsB H p l0 h0 l1 h1 sp/\Wb l0 h0 l1 h1 sp/\row.length<=900/\∀(o:Option Nat) (H':Hp),av' H H'->yk' l0 h0 l1 h1 sp row o->decide (oV o=.non)=fB l0 h0 l1 h1 sp row->Q (oV o) H'
theorem ti' {C:Rc} (hN:C.N.length=6) (hM:C.fs "machine_of"=some dh') (hR:C.fs "rooms_behind"=some m7'):∀vs H Q E,qz' vs H Q E->tSs C K04.bK' { nx:=fun _ H'=>Q .non H',rt:=Q } (L2.aQ' C.N vs) H:=by
 intro vs H Q E h
 obtain⟨p,l0,h0,l1,h1,sp,row,rfl,hB,hw,hrow,q⟩:=h
 rw[ap' hN]
 unfold K04.bK'
 symm
 refine ag' hM ?_
 symm
 refine⟨p,l0,h0,l1,h1,sp,rfl,hB,fun m rs0 H1 s1 hm hRs=>?_⟩
 have hL:=xv' hw.c0 hw.c1 hRs
 rw[(qs' hw.c0 hw.c1 hL hRs).2]at hm
 generalize rks sp h0 h1 rs0=F at hL hm
 have hO:OkM (b4' l0 h0 l1 h1 sp F):=qt'
 have hMl:(b4' l0 h0 l1 h1 sp F).length=F.length:=by unfold b4';rw[ac]
 have hFl:F.length<=300:=by
  have:=hL.sub.length_le
  have:=(fS' hB.bs hB.b0 hB.b1 (h0:=h0) (h1:=h1)).1
  omega
 have qq:∀(o:Option Nat) (H':Hp),av' H H'->yk' l0 h0 l1 h1 sp row o->Q (oV o) H':=fun o H' s i=>q o H' s i (i.iff hw hL)
 have kpi:∀{w:List Bool},Kp l0 h0 l1 h1 sp F w↔fB l0 h0 l1 h1 sp w=true:=eG' hw hL
 obtain⟨M,eM⟩:∃M,M=b4' l0 h0 l1 h1 sp F:=⟨_,rfl⟩
 rw[<- eM]at hm hO hMl
 have kpM:∀{w:List Bool},(∃r0 r,r0<M.length/\wk M (some r0) w=some r)↔fB l0 h0 l1 h1 sp w=true:=fun {w}=>by
  rw[<- kpi,eM]
  unfold Kp
  rw[show(b4' l0 h0 l1 h1 sp F).length=F.length by rw[<- eM];exact hMl]
  exact⟨fun⟨r0,r,a,b⟩=>⟨r0,a,r,b⟩,fun⟨r0,a,r,b⟩=>⟨r0,r,a,b⟩⟩
 have few:∀b,∃B:List Nat,B.length<64/\∀p r,K04.bd M b p=some r->r∈B:=by rw[eM];exact xx' hw hL
 clear eM
 obtain⟨mv,hmv,hmr⟩:=id hm
 symm
 refine il' (SqT.of hmv) ?_
 rw[hmr.len]
 symm
 refine ew' fun pr hpr=>?_
 symm
 refine fP' ab' ⋯ ⋯ ⋯ ⋯ (bP (an' ⋯)) fun R hRr=>?_
 rw[show(((M.length:Nat):Int)-0).toNat=M.length by omega,mB']
 have s2:=(ah' hpr (.rng 0 ((M.length:Nat):Int))).trans (ah' hRr (.lst ((aG M.length).map nV)))
 have hR2:upd (upd H1 pr (.rng 0 ((M.length:Nat):Int))) R (.lst ((aG M.length).map nV)) R=some (.lst ((aG M.length).map nV)):=ab'
 generalize upd (upd H1 pr (.rng 0 ((M.length:Nat):Int))) R (.lst ((aG M.length).map nV))=H2 at s2 hR2 ⊢
 have emp:∀(rs:List Nat) n,(∀r,r∈rs↔∃r0,r0<M.length/\wk M (some r0) (row.take n)=some r)->(rs.map nV).isEmpty=!(fB l0 h0 l1 h1 sp (row.take n)):=by
  intro rs n hm
  cases rs with
  |nil=>
   cases e:fB l0 h0 l1 h1 sp (row.take n)with
   |false=>rfl
   |true=>
    obtain⟨r0,r,a,b⟩:=kpM.mpr e
    exact absurd ((hm r).mpr ⟨r0,a,b⟩) aB
  |cons r rs=>
   obtain⟨r0,a,b⟩:=(hm r).mp (by simp)
   rw[kpM.mp ⟨r0,r,a,b⟩]
   rfl
 symm
 refine wC' (r7' (fun i σ H'=>(∃(l:Addr) (rs:List Nat) (x4 x5:Option V),σ=[some (.ref p),some (.str (tx row)),some (.ref m),some (.ref l),x4,x5]/\H' l=some (.lst (rs.map nV))/\rs.Pairwise (· < ·)/\(∀r∈rs,r<M.length)/\∀r,r∈rs↔∃r0,r0<M.length/\wk M (some r0) (row.take i)=some r)/\av' H1 H'/\∀j,j<i->fB l0 h0 l1 h1 sp (row.take j)=true) ⟨⟨R,aG M.length,_,_,rfl,hR2,bT,fun r hr=>aK.mp hr,fun r=>?_⟩,s2,fun j hj=>absurd hj (Nat.not_lt_zero _)⟩ ?_ ?_)
 .rw[aK]
  exact⟨fun z=>⟨r,z,rfl⟩,fun⟨r0,a,b⟩=>by cases b;exact a⟩
 .rintro i c σ H3 pp hc hpp ⟨⟨l,rs,x4,x5,rfl,hl,hri,hlt,hmem⟩,s3,hjs⟩
  have hi:=al' hc
  refine gS' (SqT.of ab') ?_
  have s4:=s3.trans (ah' hpp (.tup [.int i,.str (tx [c])]))
  have hl4:=ah' hpp (.tup [.int i,.str (tx [c])]) _ _ hl
  generalize upd H3 pp (.tup [.int i,.str (tx [c])])=H4 at s4 hl4 ⊢
  symm
  refine mn' (SqL.of hl4) ?_
  rw[emp rs i hmem]
  cases he:fB l0 h0 l1 h1 sp (row.take i)with
  |false=>
   symm
   exact qq (some i) _ (s1.trans s4) (.inr ⟨i,rfl,⋯,he,hjs⟩)
  |true=>
   symm
   refine ag' hR ?_
   symm
   have hrl:rs.length<=300:=by
    have:=K04.xi' (mL' hri) hlt
    omega
   obtain⟨B,hB1,hB2⟩:=few c
   refine⟨m,l,M,rs,B,c,rfl,hm.mono (af' s4),hO,hB1,hB2,hl4,hlt,⋯,fun l' rs' H5 s5 hl' hri' hm'=>?_⟩
   symm
   refine⟨⟨l',rs',_,_,rfl,hl',hri',fun r hr=>?_,fun r=>?_⟩,s4.trans s5,fun j hj=>?_⟩
   .obtain⟨p,_,hp⟩:=(hm' r).mp hr
    exact K04.Ao' hO hp
   .rw[hm']
    constructor
    .rintro⟨x,hx,e⟩
     obtain⟨r0,a,b⟩:=(hmem x).mp hx
     refine⟨r0,a,?_⟩
     rw[ir' hc,b]
     show stp M x c=some r
     rw[<- m8']
     exact e
    .rintro⟨r0,a,b⟩
     rw[ir' hc]at b
     cases z:wk M (some r0) (row.take i)with
     |none=>rw[z]at b;cases b
     |some x=>
      rw[z]at b
      exact⟨x,(hmem x).mpr ⟨r0,a,z⟩,by rw[m8'];exact b⟩
   .by_cases e:j=i
    .rw[e];exact he
    .exact hjs j ⋯
 .rintro σ H3 ⟨⟨l,rs,x4,x5,rfl,hl,hri,hlt,hmem⟩,s3,hjs⟩
  symm
  refine mn' (SqL.of hl) ?_
  rw[emp rs _ hmem,bn]
  cases he:fB l0 h0 l1 h1 sp row with
  |true=>
   symm
   exact qq none _ (s1.trans s3) (.inl ⟨rfl,he⟩)
  |false=>
   symm
   exact⟨bP (an' ⋯),qq (some row.length) _ (s1.trans s3) (.inr ⟨_,rfl,ag _,by rw[bn];exact he,hjs⟩)⟩
def bM':Sp:=fun vs H Q _=>∃(p:Addr) (l0 h0 l1 h1:Nat) (sp:Option Nat) (row:List Bool),vs=[.ref p,.str (tx row)]/\IsB H p l0 h0 l1 h1 sp/\Wb l0 h0 l1 h1 sp/\row.length<=900/\∀H',av' H H'->Q (.bl (fB l0 h0 l1 h1 sp row)) H'
theorem iE' {C:Rc} (hN:C.N.length=2) (hF:C.fs "fault_at"=some qz'):∀vs H Q E,bM' vs H Q E->tSs C K04.df' { nx:=fun _ H'=>Q .non H',rt:=Q } (L2.aQ' C.N vs) H:=by
 intro vs H Q E h
 obtain⟨p,l0,h0,l1,h1,sp,row,rfl,hB,hw,hrow,q⟩:=h
 rw[ap' hN]
 unfold K04.df'
 symm
 refine ag' hF ?_
 symm
 refine⟨p,l0,h0,l1,h1,sp,row,rfl,hB,hw,hrow,fun o H1 s1 hI hd=>?_⟩
 symm
 rw[hd]
 exact q _ s1
noncomputable def nbF (l0 h0 l1 h1:Nat) (sp:Option Nat) (row:List Bool):List Bool:=[false,true].filter fun b=>fB l0 h0 l1 h1 sp (row++[b])
def eH':Sp:=fun vs H Q _=>∃(p:Addr) (l0 h0 l1 h1:Nat) (sp:Option Nat) (row:List Bool),vs=[.ref p,.str (tx row)]/\IsB H p l0 h0 l1 h1 sp/\Wb l0 h0 l1 h1 sp/\row.length<=400/\∀H',av' H H'->Q (.str (tx (nbF l0 h0 l1 h1 sp row))) H'
theorem j7' {C:Rc} (hN:C.N.length=3) (hK:C.fs "keeps"=some bM'):∀vs H Q E,eH' vs H Q E->tSs C K04.bv' { nx:=fun _ H'=>Q .non H',rt:=Q } (L2.aQ' C.N vs) H:=by
 intro vs H Q E h
 obtain⟨p,l0,h0,l1,h1,sp,row,rfl,hB,hw,hrow,q⟩:=h
 rw[ap' hN]
 unfold K04.bv'
 symm
 refine⟨rfl,et' (me' (l:=[false,true]) (fun i xs H'=>i<=2/\av' H H'/\xs=sX' (([false,true].take i).filter fun b=>fB l0 h0 l1 h1 sp (row++[b]))) ⟨aT _,av'.refl _,rfl⟩ ?_ ?_)⟩
 .rintro i xs H1 c K hc ⟨_,s1,rfl⟩ hK'
  have hi:i<2:=al' hc
  have et:([false,true].take (i+1)).filter (fun b=>fB l0 h0 l1 h1 sp (row++[b]))=([false,true].take i).filter (fun b=>fB l0 h0 l1 h1 sp (row++[b]))++[c].filter (fun b=>fB l0 h0 l1 h1 sp (row++[b])):=by rw[bj,hc,List.filter_append];rfl
  have hfl:(([false,true].take i).filter fun b=>fB l0 h0 l1 h1 sp (row++[b])).length<=2:=aF (bH ..) (by rw[aJ];exact Nat.min_le_right ..)
  symm
  refine ag' hK ?_
  symm
  refine⟨a1' ⋯,?_⟩
  refine⟨p,l0,h0,l1,h1,sp,row++[c],rfl,hB.mono (af' s1),hw,by rw[ax,cq];omega,fun H2 s2=>?_⟩
  cases hs:fB l0 h0 l1 h1 sp (row++[c])with
  |true=>
   symm
   refine⟨by rw[pa'];exact an' ⋯,hK' _ _ ⟨hi,s1.trans s2,?_⟩⟩
   rw[et,cI,if_pos hs,mO']
   rfl
  |false=>
   symm
   refine hK' _ _ ⟨hi,s1.trans s2,?_⟩
   rw[et,cI,if_neg (by rw[hs];exact ak)]
   simp
 .rintro xs H1 ⟨_,s1,rfl⟩ L hL
  symm
  refine pb' (SqL.of ab') ?_ ?_
  .exact aF (bH ..) (by decide)
  .exact q _ (s1.trans (ah' hL _))
def fm':Sp:=fun vs H Q _=>∃(b bd D:Addr) (n l0 h0 l1 h1:Nat) (sp:Option Nat) (F:List K3) (N:Nat),vs=[.ref b,.ref bd,.ref D,.int N]/\H b=some (dH' b n)/\n<=2 ^ 38/\IsB H bd l0 h0 l1 h1 sp/\H D=some (.dT (dK3 F))/\Lsd l0 h0 l1 h1 sp F/\F≠[]/\N<=60/\∀(row:List Bool) (H':Hp),row.length=N->Go 100 H H'->Q (.str (tx row)) H'
def Ld3 (H:Hp) (v:V):Option K3->Prop
 |none=>v=.non
 |some k=>fj' H v k
theorem Ld3.mono {H H':Hp} (s:av' H H') {v:V} {o:Option K3} (h:Ld3 H v o):Ld3 H' v o:=by
 cases o with
 |none=>exact h
 |some k=>exact fj'.mono s h
theorem qA' {H:Hp} {Q:VK} {bd rm:Addr} {l0 h0 l1 h1:Nat} {sp:Option Nat} {k:K3} {c:Nat} (hB:IsB H bd l0 h0 l1 h1 sp) (hrm:H rm=some (.tup [nV k.1,nV k.2.1,nV k.2.2])) (hc:c<2) (hk:k.1<2) (q:∀v H',av' H H'->Ld3 H' v (lb l0 h0 l1 h1 sp k c)->Q v H'):
  ∃(bd' rm':Addr) (l0 h0 l1 h1:Nat) (sp:Option Nat) (k:K3) (c':Nat),[V.ref bd,.ref rm,.int c]=[.ref bd',.ref rm',.int c']/\IsB H bd' l0 h0 l1 h1 sp/\H rm'=some (.tup [nV k.1,nV k.2.1,nV k.2.2])/\c'<2/\k.1<2/\(lb l0 h0 l1 h1 sp k c'=none->∀H',av' H H'->Q .non H')/\∀k',lb l0 h0 l1 h1 sp k c'=some k'->∀(p:Addr) (H':Hp),av' H H'->H' p=some (.tup [nV k'.1,nV k'.2.1,nV k'.2.2])->Q (.ref p) H':=
 ⟨bd,rm,l0,h0,l1,h1,sp,k,c,rfl,hB,hrm,hc,hk,fun e H' s=>q _ _ s (by rw[e];rfl),fun k' e p H' s hp=>q _ _ s (by rw[e];exact⟨p,rfl,hp⟩)⟩
theorem tj' {C:Rc} {H:Hp} {Q:VK} {D:Addr} {F:List K3} {v:V} {o:Option K3} (hD:H D=some (.dT (dK3 F))) (hs:∀k∈F,dI' k) (hv:Ld3 H v o) (q:Q (.bl (inK F o)) H):io' false v Q (.ref D) H:=by
 cases o with
 |none=>
  cases hv
  exact mq' (mQ' hs (.inl hD)) q
 |some k=>
  obtain⟨p,rfl,hp⟩:=hv
  refine qd' (.inr ⟨_,kK k,p,.inl hD,rfl,jl' hp,rfl⟩) ?_
  rw[fV']
  by_cases hin:k∈F
  .rw[show inK F (some k)=true from decide_eq_true hin]at q
   rw[if_pos hin]
   exact q
  .rw[show inK F (some k)=false from decide_eq_false hin]at q
   rw[if_neg hin]
   exact q
def fl3 (F:List K3) (os:List (Option K3)):List K3:=os.filterMap fun o=>if inK F o then o else none
theorem tl' {F:List K3} {os:List (Option K3)} {k:K3} (h:k∈fl3 F os):k∈F:=by
 obtain⟨o,_,e⟩:=cK.mp h
 cases o with
 |none=>cases e
 |some q=>
  by_cases hq:inK F (some q)=true
  .rw[if_pos hq]at e
   cases e
   exact of_decide_eq_true hq
  .rw[if_neg hq]at e
   cases e
theorem jp' {F:List K3} {os:List (Option K3)} {o:Option K3}:fl3 F (os++[o])=fl3 F os++(if inK F o then o else none).toList:=by
 unfold fl3
 rw[List.filterMap_append]
 congr 1
theorem hh' {H:Hp} {v:V} {k:K3} (h:fj' H v k):∀{vs:List V} {ks:List K3},bV' (fj' H) vs ks->bV' (fj' H) (vs++[v]) (ks++[k])
 | [],[],_=>⟨h,trivial⟩
 |_ :: _,_ :: _,hh=>⟨hh.1,hh' h hh.2⟩
theorem bV {k:K3} (h:k.1<2):nV k.1=.int (if decide (k.1=1)then 1 else 0):=by
 rcases(by omega:k.1=0\/k.1=1)with z|z<;>rw[z]<;>rfl
theorem m9' {C:Rc} (hN:C.N.length=12) (hT:C.fs "_law_take"=some bk') (hBe:C.fs "_law_behind"=some dx'):∀vs H Q E,fm' vs H Q E->tSs C cu' { nx:=fun _ H'=>Q .non H',rt:=Q } (L2.aQ' C.N vs) H:=by
 intro vs H Q E h
 obtain⟨b,bd,D,n,l0,h0,l1,h1,sp,F,N,rfl,hb,hn,hB,hD,hL,hF,hNN,q⟩:=h
 rw[ap' hN]
 unfold cu'
 obtain⟨hrk,hks⟩:=fS' hB.bs hB.b0 hB.b1 (h0:=h0) (h1:=h1)
 have hFl:F.length<=300:=by have:=hL.sub.length_le;omega
 have hF1:1<=F.length:=List.length_pos_iff.mpr hF
 have hsm:∀k∈F,dI' k:=fun k hk=>hks k (hL.mem hk)
 symm
 refine oU' (n:=2) (.inl hD) (fun kv hkv=>?_) (up3 (Ap'.sublist hL.sub)) fun l as hl has hat=>?_
 .obtain⟨k,_,rfl⟩:=az.mp hkv
  exact⟨BD.kI k,rfl,rfl⟩
 have hA:=qr' has hat
 generalize as.map V.ref=xs at hA
 obtain⟨s1,e1⟩:=snw hl (.lst xs)
 have hA1:=dc' s1 hA
 have g1:Go 0 H (upd H l (.lst xs)):=Go.of_same s1
 generalize upd H l _=H1 at e1 hA1 g1 ⊢
 obtain⟨n1,hb1,hn1,_⟩:=g1.boxed hb ⋯
 symm
 refine ag' hT ?_
 symm
 refine dv' (SqL.of e1) ?_
 rw[hA1.len]
 symm
 refine bf' hb1 (Go.refl (c:=0)) ⋯ ⋯ ⋯ fun r0 H2 hr0 hr1 g2 _=>?_
 obtain⟨r,rfl⟩:=ba hr0
 have g12:Go 1 H H2:=(g1.trans g2).mono ⋯
 have hr:r<F.length:=by omega
 obtain⟨x,hx,p0,rfl,hp0⟩:=hA1.get (ae hr)
 refine aW' (SqL.of (g2.lst e1)) (do' hx) ?_
 symm
 refine ma' ⋯ ⋯ ?_
 rw[bc]
 refine oH' (fun i σ H'=>(∃(row:List Bool) (st:Addr) (k:K3) (x7 x8:Option V),σ=[some (.ref b),some (.ref bd),some (.ref D),some (.int N),some (.str (tx row)),some (.ref l),some (.ref st),x7,x8,none,none,none]/\row.length=i/\k∈F/\H' st=some (.tup [nV k.1,nV k.2.1,nV k.2.2]))/\Go (1+i) H H') ⟨⟨[],p0,F[r],_,_,rfl,rfl,cH hr,g2.tup hp0⟩,g12⟩ ?_ ?_
 .rintro i σ H3 hi ⟨⟨row,st,k,x7,x8,rfl,hrow,hk,hst⟩,g3⟩
  obtain⟨n3,hb3,hn3,_⟩:=g3.boxed hb ⋯
  have hk2:=(hsm k hk).1
  have hB3:IsB H3 bd l0 h0 l1 h1 sp:=⟨g3.tup hB.at',hB.b0,hB.b1,hB.bs⟩
  have hD3:H3 D=some (.dT (dK3 F)):=g3.oth D _ hD fun _ z=>by cases z
  symm
  refine⟨by decide,fun pt hpt=>?_⟩
  obtain⟨s4,e4⟩:=snw hpt (.tup [.int 0,.int 1])
  generalize upd H3 pt _=H4 at s4 e4 ⊢
  refine cj' (SqT.of e4) (wG' (vs:=[.int 0,.int 1]) (fun j ys H'=>av' H4 H'/\bV' (Ld3 H') ys (([lb l0 h0 l1 h1 sp k 0,lb l0 h0 l1 h1 sp k 1]:List (Option K3)).take j)) ⟨av'.refl _,trivial⟩ (fun j ys H' pv=>SqT.of (pv.1 _ _ e4)) ?_ ?_)
  .rintro j ys H5 v R hv ⟨s5,hz⟩ hR
   have s45:=s4.trans s5
   match j,hv with
   |0,hv=>
    cases hv
    symm
    refine ag' hBe ?_
    symm
    refine qA' (c:=0) (hB3.mono (af' s45)) (s45 _ _ hst) (by decide) hk2 fun v H6 s6 hl6=>?_
    obtain rfl:ys=[]:=cu (by rw[hz.len];rfl)
    exact⟨by decide,hR _ _ ⟨s5.trans s6,hl6,trivial⟩⟩
   |1,hv=>
    cases hv
    symm
    refine ag' hBe ?_
    symm
    refine qA' (c:=1) (hB3.mono (af' s45)) (s45 _ _ hst) (by decide) hk2 fun v H6 s6 hl6=>?_
    match ys,hz with
    | [y],hz=>exact⟨by show 1<sizeLine;decide,hR _ _ ⟨s5.trans s6,hz.1.mono s6,hl6,trivial⟩⟩
   |j+2,hv=>cases hv
  .rintro ys H5 ⟨s5,hz⟩ l5 hl5
   have hz:bV' (Ld3 H5) ys [lb l0 h0 l1 h1 sp k 0,lb l0 h0 l1 h1 sp k 1]:=hz
   obtain⟨s6,e6⟩:=snw hl5 (.lst ys)
   have s36:=s4.trans (s5.trans s6)
   have hz6:=hz.mono fun _ _ z=>Ld3.mono s6 z
   generalize upd H5 l5 _=H6 at s6 e6 s36 hz6 ⊢
   have hyl:ys.length=2:=hz6.len
   have hD6:=s36 _ _ hD3
   symm
   refine aV' (SqL.of e6) (ev' (vs:=ys) (fun j zs H'=>H'=H6/\bV' (fj' H6) zs (fl3 F (([lb l0 h0 l1 h1 sp k 0,lb l0 h0 l1 h1 sp k 1]:List (Option K3)).take j))) ⟨rfl,trivial⟩ (fun j zs H' pv=>SqL.of (by rw[pv.1];exact e6)) ?_ ?_)
   .rintro j zs H7 v R hv ⟨rfl,hzs⟩ hR
    obtain⟨o,ho,hvo⟩:=hz6.getL hv
    have hj:j<2:=al' ho
    have et:([lb l0 h0 l1 h1 sp k 0,lb l0 h0 l1 h1 sp k 1]:List (Option K3)).take (j+1)=([lb l0 h0 l1 h1 sp k 0,lb l0 h0 l1 h1 sp k 1]:List (Option K3)).take j++[o]:=by rw[bj,ho];rfl
    have hzl:zs.length<=2:=by
     rw[hzs.len]
     unfold fl3
     exact aF (List.length_filterMap_le _ _) (by rw[aJ];exact Nat.min_le_right _ _)
    symm
    refine tj' (C:=C) hD6 hsm hvo ?_
    cases hin:inK F o with
    |false=>
     symm
     refine hR _ _ ⟨rfl,?_⟩
     rw[et,jp',hin,if_neg ak]
     simpa using hzs
    |true=>
     symm
     cases o with
     |none=>cases hin
     |some k'=>
      refine⟨an' ⋯,hR _ _ ⟨rfl,?_⟩⟩
      rw[et,jp',hin,if_pos rfl]
      exact hh' hvo hzs
   .rintro zs H7 ⟨rfl,hzs⟩ l7 hl7
    have hzs:bV' (fj' H7) zs (fl3 F [lb l0 h0 l1 h1 sp k 0,lb l0 h0 l1 h1 sp k 1]):=by
     have:=hzs
     rw[bq (by rw[hyl];exact ag 2)]at this
     exact this
    obtain⟨ks,hks2⟩:∃ks,ks=fl3 F [lb l0 h0 l1 h1 sp k 0,lb l0 h0 l1 h1 sp k 1]:=⟨_,rfl⟩
    have hkm:∀k'∈ks,k'∈F:=fun k' h=>tl' (by rw[<- hks2];exact h)
    have hkl:1<=ks.length/\ks.length<=2:=by
     constructor
     .obtain⟨c,q',hq',e⟩:=M7.Lsd.ahead hL hk
      have hm:q'∈ks:=by
       rw[hks2]
       unfold fl3
       refine cK.mpr ⟨some q',?_,if_pos (decide_eq_true hq')⟩
       rw[<- e]
       cases c<;>simp[bN]
      exact da hm
     .rw[hks2]
      unfold fl3
      exact List.length_filterMap_le _ _
    rw[<- hks2]at hzs
    clear hks2
    obtain⟨s8,e8⟩:=snw hl7 (.lst zs)
    have s38:=s36.trans s8
    have hzs8:=dc' s8 hzs
    have g8:Go (1+i) H (upd H7 l7 (.lst zs)):=g3.trans (Go.of_same (c:=0) s38)
    generalize upd H7 l7 _=H8 at e8 s38 hzs8 g8 ⊢
    obtain⟨n8,hb8,hn8,_⟩:=g8.boxed hb ⋯
    symm
    refine ag' hT ?_
    symm
    refine dv' (SqL.of e8) ?_
    rw[hzs8.len]
    symm
    refine bf' hb8 (Go.refl (c:=0)) ⋯ ⋯ ⋯ fun r1 H9 hr10 hr11 g9 _=>?_
    obtain⟨r1,rfl⟩:=ba hr10
    have hr1:r1<ks.length:=by omega
    obtain⟨x9,hx9,p9,rfl,hp9⟩:=hzs8.get (ae hr1)
    have hk9:=hkm _ (cH hr1)
    refine aW' (SqL.of (g9.lst e8)) (do' hx9) ?_
    symm
    refine aC' (SqT.of (g9.tup hp9)) (v:=nV ks[r1].1) rfl ?_
    rw[bV (hsm _ hk9).1]
    refine cJ' (l:=[false,true]) (c:=decide (ks[r1].1=1)) (by decide) (by cases decide (ks[r1].1=1)<;>rfl) ?_
    symm
    refine⟨a1' (by rw[hrow];omega),?_⟩
    symm
    refine⟨⟨row++[decide (ks[r1].1=1)],p9,ks[r1],_,_,rfl,by rw[ax,hrow];rfl,hk9,g9.tup hp9⟩,?_⟩
    exact(g8.trans g9).mono ⋯
 .rintro σ H3 ⟨⟨row,st,k,x7,x8,rfl,hrow,hk,hst⟩,g3⟩
  obtain⟨n3,hb3,hn3,_⟩:=g3.boxed hb ⋯
  show tSs C (.cons (.ite _ _ _) _) _ _ H3
  refine gV' fun NY hNY=>?_
  have fin:∀(r9:List Bool) (x11:Option V) (H9:Hp),r9.length=N->Go 100 H H9->NY [some (.ref b),some (.ref bd),some (.ref D),some (.int N),some (.str (tx r9)),some (.ref l),some (.ref st),x7,x8,none,none,x11] H9:=by
   intro r9 x11 H9 h9 g9
   refine hNY _ _ ?_
   symm
   exact q r9 H9 h9 g9
  symm
  by_cases hN0:0<N
  .rw[decide_eq_true (by omega:(0:Int)<(N:Int))]
   symm
   refine ag' hT ?_
   symm
   refine bf' hb3 (Go.refl (c:=0)) ⋯ ⋯ ⋯ fun z0 H8 hz0 hz1 g8 _=>?_
   have g08:Go (1+N+1) H H8:=g3.trans g8
   obtain⟨n8,hb8,hn8,_⟩:=g08.boxed hb ⋯
   symm
   refine a3' (fun hq=>?_) fun hq=>?_
   .symm
    refine ag' hT ?_
    symm
    refine bf' hb8 (Go.refl (c:=0)) ⋯ ⋯ ⋯ fun w0 H9 hw0 hw1 g9 _=>?_
    obtain⟨w,rfl⟩:=ba hw0
    have hw:w<row.length:=by omega
    have g09:=g08.trans g9
    symm
    refine o9' (a1' ⋯) ?_
    symm
    refine cJ' (c:=row[w]) (a1' ⋯) (do' (ae hw)) ?_
    symm
    refine cJ' (l:=[true,false]) (c:=!row[w]) (by decide) (by cases row[w]<;>rfl) ?_
    symm
    refine⟨by rw[aJ];exact a1' ⋯,?_⟩
    symm
    rw[show(w:Int)+1=((w+1:Nat):Int) by omega]
    refine sW' (a1' ⋯) ?_
    have hlen:(row.take w++[!row[w]]++row.drop (w+1)).length=N:=by
     rw[ax,ax,aJ,cD,cq]
     omega
    symm
    refine⟨?_,?_⟩
    .rw[ax,aJ,cD,cq]
     exact a1' ⋯
    .symm
     exact fin _ _ H9 hlen (g09.mono ⋯)
   .symm
    exact fin row _ H8 hrow (g08.mono ⋯)
  .rw[decide_eq_false (by omega:¬(0:Int)<(N:Int))]
   symm
   exact fin row _ H3 hrow (g3.mono ⋯)
theorem f6' {sp:Option Nat}:(lvs sp).length=sp.getD 0+1:=by rw[g6',bf]
structure Sm (l0 h0 l1 h1:Nat) (sp:Option Nat):Prop where
 a0:1<=l0
 a1:1<=l1
 b0:l0<=h0
 b1:l1<=h1
 c0:h0<=4
 c1:h1<=4
 cs:∀s,sp=some s->s<=6
theorem pn' {a b:Nat} (h1:a<=6) (h2:b<=9):a*b<=63:=aF (dr h1 h2) (by decide)
theorem Sm.wb {l0 h0 l1 h1:Nat} {sp:Option Nat} (h:Sm l0 h0 l1 h1 sp):Wb l0 h0 l1 h1 sp:=by
 have hl:(lvs sp).length<=9:=by
  rw[f6']
  cases sp with
  |none=>decide
  |some s=>have:=h.cs s rfl;show s+1<=9;omega
 exact⟨h.a0,h.a1,h.b0,h.b1,pn' (by have:=h.c0;omega) hl,pn' (by have:=h.c1;omega) hl⟩
theorem Sm.swap {l0 h0 l1 h1:Nat} {sp:Option Nat} (h:Sm l0 h0 l1 h1 sp):Sm l1 h1 l0 h0 sp:=⟨h.a1,h.a0,h.b1,h.b0,h.c1,h.c0,h.cs⟩
structure Loo (l0 h0 l1 h1:Nat) (sp:Option Nat) (m0 g0 m1 g1:Nat) (sq:Option Nat):Prop where
 z0:m0<=l0
 z1:h0<=g0
 z2:m1<=l1
 z3:h1<=g1
 zs:∀t,sq=some t->∃s,sp=some s/\s<=t
 wb:Wb m0 g0 m1 g1 sq
def cv':Sp:=fun vs H Q _=>∃(b bd:Addr) (n l0 h0 l1 h1:Nat) (sp:Option Nat),vs=[.ref b,.ref bd]/\H b=some (dH' b n)/\n<=2 ^ 38/\IsB H bd l0 h0 l1 h1 sp/\Sm l0 h0 l1 h1 sp/\∀(p:Addr) (m0 g0 m1 g1:Nat) (sq:Option Nat) (H':Hp),Go 10 H H'->IsB H' p m0 g0 m1 g1 sq->Loo l0 h0 l1 h1 sp m0 g0 m1 g1 sq->Q (.ref p) H'
theorem iF' {C:Rc} (hN:C.N.length=4) (hT:C.fs "_law_take"=some bk'):∀vs H Q E,cv' vs H Q E->tSs C dT' { nx:=fun _ H'=>Q .non H',rt:=Q } (L2.aQ' C.N vs) H:=by
 intro vs H Q E h
 obtain⟨b,bd,n,l0,h0,l1,h1,sp,rfl,hb,hn,hB,hS,q⟩:=h
 rw[ap' hN]
 unfold dT'
 have a0:=hS.a0
 have a1:=hS.a1
 have b0:=hS.b0
 have b1:=hS.b1
 have c0:=hS.c0
 have c1:=hS.c1
 have lowd:∀(l:Nat) (r:Int),1<=l->0<=r->r<2->∃m:Nat,(if(1:Int)<(l:Int)-r then(l:Int)-r else 1)=(m:Int)/\1<=m/\m<=l:=fun l r h1 h2 h3=>by
  refine⟨(if(1:Int)<(l:Int)-r then(l:Int)-r else 1).toNat,?_,?_,?_⟩<;>split<;>omega
 have highd:∀(h:Nat) (r:Int),h<=4->0<=r->r<3->∃g:Nat,(if(h:Int)+r<8 then(h:Int)+r else 8)=(g:Int)/\h<=g/\g<=6:=fun h r h1 h2 h3=>by
  refine⟨(if(h:Int)+r<8 then(h:Int)+r else 8).toNat,?_,?_,?_⟩<;>split<;>omega
 symm
 refine aC' (SqT.of hB.at') (v:=nV l0) rfl ?_
 simp only[nV]
 symm
 refine ag' hT ?_
 symm
 refine bf' hb (Go.refl (c:=0)) ⋯ (by decide) (by decide) fun r1 H1 hr10 hr11 g1 _=>?_
 obtain⟨n1,hb1,hn1,_⟩:=g1.boxed hb ⋯
 obtain⟨m0,e0,hm0,hm0'⟩:=lowd l0 r1 a0 hr10 hr11
 symm
 rw[e0]
 symm
 refine aC' (SqT.of (g1.tup hB.at')) (v:=nV h0) rfl ?_
 simp only[nV]
 symm
 refine ag' hT ?_
 symm
 refine bf' hb1 (Go.refl (c:=0)) ⋯ (by decide) (by decide) fun r2 H2 hr20 hr21 g2 _=>?_
 have g02:=g1.trans g2
 obtain⟨n2,hb2,hn2,_⟩:=g02.boxed hb ⋯
 obtain⟨g0,e1,hg0,hg0'⟩:=highd h0 r2 c0 hr20 hr21
 symm
 rw[e1]
 symm
 refine⟨by decide,fun pa hpa=>?_⟩
 obtain⟨s3,k3⟩:=snw hpa (.lst [.int m0,.int g0])
 have g03:Go 2 H (upd H2 pa (.lst [.int m0,.int g0])):=g02.trans (Go.of_same (c:=0) s3)
 generalize upd H2 pa _=H3 at k3 g03 ⊢
 obtain⟨n3,hb3,hn3,_⟩:=g03.boxed hb ⋯
 refine aC' (SqT.of (g03.tup hB.at')) (v:=nV l1) rfl ?_
 simp only[nV]
 symm
 refine ag' hT ?_
 symm
 refine bf' hb3 (Go.refl (c:=0)) ⋯ (by decide) (by decide) fun r4 H4 hr40 hr41 g4 _=>?_
 have g04:=g03.trans g4
 obtain⟨n4,hb4,hn4,_⟩:=g04.boxed hb ⋯
 obtain⟨m1,e2,hm1,hm1'⟩:=lowd l1 r4 a1 hr40 hr41
 symm
 rw[e2]
 symm
 refine aC' (SqT.of (g04.tup hB.at')) (v:=nV h1) rfl ?_
 simp only[nV]
 symm
 refine ag' hT ?_
 symm
 refine bf' hb4 (Go.refl (c:=0)) ⋯ (by decide) (by decide) fun r5 H5 hr50 hr51 g5 _=>?_
 have g05:=g04.trans g5
 obtain⟨n5,hb5,hn5,_⟩:=g05.boxed hb ⋯
 obtain⟨g1',e3,hg1,hg1'⟩:=highd h1 r5 c1 hr50 hr51
 symm
 rw[e3]
 symm
 refine⟨by decide,fun pb hpb=>?_⟩
 obtain⟨s6,k6⟩:=snw hpb (.lst [.int m1,.int g1'])
 have k36:=s6 _ _ (g5.lst (g4.lst k3))
 have g06:Go 4 H (upd H5 pb (.lst [.int m1,.int g1'])):=(g05.trans (Go.of_same (c:=0) s6)).mono ⋯
 generalize upd H5 pb _=H6 at k6 k36 g06 ⊢
 refine ml' k36 k6 (a1' (by show 4<=1000;decide)) fun pc hpc=>?_
 obtain⟨s7,k7⟩:=snw hpc (.lst ([.int m0,.int g0]++[.int m1,.int g1']))
 have g07:Go 4 H (upd H6 pc (.lst ([.int m0,.int g0]++[.int m1,.int g1']))):=(g06.trans (Go.of_same (c:=0) s7)).mono ⋯
 generalize upd H6 pc _=H7 at k7 g07 ⊢
 obtain⟨n7,hb7,hn7,_⟩:=g07.boxed hb ⋯
 symm
 refine aC' (SqT.of (g07.tup hB.at')) (v:=oV sp) rfl ?_
 symm
 generalize hD:nf' C _ _=D0
 have fin:∀(sq:Option Nat) (H8:Hp),Go 6 H H8->H8 pc=some (.lst ([.int m0,.int g0]++[.int m1,.int g1']))->(∀t,sq=some t->∃s,sp=some s/\s<=t/\t<=s+2)->D0.nx [some (.ref b),some (.ref bd),some (.ref pc),some (oV sq)] H8:=by
  intro sq H8 g8 k8 hsq
  rw[<- hD]
  have ht16:∀t,sq=some t->t<=8:=fun t ht=>by
   obtain⟨s,hs,_,h2⟩:=hsq t ht
   have:=hS.cs s hs
   omega
  symm
  refine im' (SqL.of k8) fun p1 hp1=>?_
  obtain⟨s9,k9⟩:=snw hp1 (.tup ([.int m0,.int g0]++[.int m1,.int g1']))
  have g9:Go 6 H (upd H8 p1 (.tup ([.int m0,.int g0]++[.int m1,.int g1']))):=(g8.trans (Go.of_same (c:=0) s9)).mono ⋯
  generalize upd H8 p1 _=H9 at k9 g9 ⊢
  symm
  refine⟨by decide,fun p2 hp2=>?_⟩
  obtain⟨s10,k10⟩:=snw hp2 (.tup [oV sq])
  have k910:=s10 _ _ k9
  have g10:Go 6 H (upd H9 p2 (.tup [oV sq])):=(g9.trans (Go.of_same (c:=0) s10)).mono ⋯
  generalize upd H9 p2 _=H10 at k10 k910 g10 ⊢
  refine sg' (SqT.of k910) (SqT.of k10) (a1' (by simp)) (fun z=>by cases z) (fun _ z=>by cases z) fun _ _ p3 hp3=>?_
  obtain⟨s11,k11⟩:=snw hp3 (.tup ([.int m0,.int g0]++[.int m1,.int g1']++[oV sq]))
  refine q p3 m0 g0 m1 g1' sq _ ((g10.trans (Go.of_same (c:=0) s11)).mono ⋯) ⟨k11,⋯,⋯,fun s hs=>by have:=ht16 s hs;omega⟩ ⟨hm0',hg0,hm1',hg1,fun t ht=>?_,⟨hm0,hm1,⋯,⋯,pn' hg0' ?_,pn' hg1' ?_⟩⟩
  .obtain⟨s,h1,h2,_⟩:=hsq t ht
   exact⟨s,h1,h2⟩
  .rw[f6']
   cases sq with
   |none=>decide
   |some t=>have:=ht16 t rfl;show t+1<=9;omega
  .rw[f6']
   cases sq with
   |none=>decide
   |some t=>have:=ht16 t rfl;show t+1<=9;omega
 symm
 cases sp with
 |none=>
  simp only[oV]
  symm
  exact fin none H7 (g07.mono ⋯) k7 fun t z=>by cases z
 |some s=>
  have hs6:=hS.cs s rfl
  simp only[oV]
  symm
  rw[show(if(s:Int)+2<16 then(s:Int)+2 else 16)=(s:Int)+2 by rw[if_pos ⋯]]
  symm
  refine⟨by decide,fun p1 hp1=>?_⟩
  obtain⟨s9,k9⟩:=snw hp1 (.lst [.non,.int s,.int ((s:Int)+2)])
  have k79:=s9 _ _ k7
  have g08:Go 4 H (upd H7 p1 (.lst [.non,.int s,.int ((s:Int)+2)])):=(g07.trans (Go.of_same (c:=0) s9)).mono ⋯
  generalize upd H7 p1 _=H8 at k9 k79 g08 ⊢
  obtain⟨n8,hb8,hn8,_⟩:=g08.boxed hb ⋯
  refine ag' hT ?_
  symm
  refine bf' hb8 (Go.refl (c:=0)) ⋯ (by decide) (by decide) fun r9 H9 hr90 hr91 g9 _=>?_
  have g09:Go 5 H H9:=(g08.trans g9).mono ⋯
  have k99:=g9.lst k9
  have k799:=g9.lst k79
  rcases(by omega:r9=0\/r9=1\/r9=2)with rfl|rfl|rfl
  .refine aW' (SqL.of k99) (v:=.non) rfl ?_
   symm
   exact fin none H9 (g09.mono ⋯) k799 fun t z=>by cases z
  .refine aW' (SqL.of k99) (v:=.int s) rfl ?_
   symm
   exact fin (some s) H9 (g09.mono ⋯) k799 fun t z=>by cases z;exact⟨s,rfl,⋯,⋯⟩
  .refine aW' (SqL.of k99) (v:=.int ((s:Int)+2)) rfl ?_
   symm
   exact fin (some (s+2)) H9 (g09.mono ⋯) k799 fun t z=>by cases z;exact⟨s,rfl,⋯,⋯⟩
section
variable {l0 h0 l1 h1:Nat} {sp:Option Nat}
theorem xz' {m0 g0 m1 g1:Nat} {sq:Option Nat} {u v:List Bool} (h:Far l0 h0 l1 h1 sp u↔Far m0 g0 m1 g1 sq v):fB l0 h0 l1 h1 sp u=fB m0 g0 m1 g1 sq v:=by
 rw[cP,ha',ha',h]
theorem qB' {w:List Bool}:fB l0 h0 l1 h1 sp w.reverse=fB l0 h0 l1 h1 sp w:=xz' ⟨fun z=>by have:=z.rev;rwa [List.reverse_reverse]at this,fun z=>z.rev⟩
theorem tm' {w:List Bool}:fB l1 h1 l0 h0 sp (w.map (!·))=fB l0 h0 l1 h1 sp w:=xz' ⟨fun z=>by
 have:=z.exch
 rw[aX]at this
 have e:((fun x=>!x)∘fun x=>!x)=(id:Bool->Bool):=funext fun x=>Bool.not_not x
 rwa [e,List.map_id]at this,fun z=>z.exch⟩
theorem qC' (hw:Wb l0 h0 l1 h1 sp) {F:List K3} (hL:Lsd l0 h0 l1 h1 sp F) {w:List Bool} (h:fB l0 h0 l1 h1 sp w=true):nbF l0 h0 l1 h1 sp w≠[]:=by
 obtain⟨r,hr,e,he⟩:=(eG' hw hL).mpr h
 obtain⟨k',hk',hp⟩:=iB' (ae hr) he
 obtain⟨c,q,hq,el⟩:=Lsd.ahead hL (aq hk')
 obtain⟨ht,hk2⟩:=aN.mp hk'
 have es:stp (b4' l0 h0 l1 h1 sp F) e c=some (F.idxOf q):=by
  unfold stp b4'
  rw[ao,hk']
  have:ixF F (lb l0 h0 l1 h1 sp k' (bN c))=some (F.idxOf q):=by
   rw[el]
   exact if_pos hq
  cases c<;>exact this
 have:fB l0 h0 l1 h1 sp (w++[c])=true:=(eG' hw hL).mp ⟨r,hr,F.idxOf q,by
  rw[jf',he]
  exact es⟩
 intro z
 have hm:c∈nbF l0 h0 l1 h1 sp w:=by
  unfold nbF
  exact aY.mpr ⟨by cases c<;>simp,this⟩
 rw[z]at hm
 exact absurd hm aB
end
theorem na' {row:List Bool}:uM' (tx row)=tx row.reverse:=by
 show(⟨((row.map cb).toArray).toList.reverse.toArray⟩:Str)=⟨(row.reverse.map cb).toArray⟩
 rw[List.map_reverse]
structure FsRight (C:Rc):Prop where
 keeps:C.fs "keeps"=some bM'
 starts:C.fs "starts"=some c9'
 exch:C.fs "exchanged"=some g2'
 next:C.fs "next_bits"=some eH'
 fault:C.fs "fault_at"=some qz'
def dB':Sp:=fun vs H Q _=>∃(p pl m:Addr) (l0 h0 l1 h1:Nat) (sp:Option Nat) (m0 g0 m1 g1:Nat) (sq:Option Nat) (F:List K3) (row:List Bool),vs=[.ref p,.ref pl,.ref m,.str (tx row)]/\IsB H p l0 h0 l1 h1 sp/\Sm l0 h0 l1 h1 sp/\IsB H pl m0 g0 m1 g1 sq/\Loo l0 h0 l1 h1 sp m0 g0 m1 g1 sq/\IsM H m (b4' l0 h0 l1 h1 sp F)/\Lsd l0 h0 l1 h1 sp F/\F.length<=100/\row.length<=60/\∀H',av' H H'->Q (.bl true) H'
theorem xA' {K:W.Frag} {H:Hp} {Q:VK} {a b:Addr} {xs:List V} (h:H a=some (.lst xs)) (h2:H b=some (.lst [])) (q:Q (.bl (!decide (xs=[]))) H):cz' K .NotEq (.ref a) (.ref b) H Q:=by
 refine .inl ⟨a,b,xs,[],rfl,rfl,SqL.of h,SqL.of h2,?_,q⟩
 intro hl i x y e1 e2
 simp at e2
theorem j8' {C:Rc} (hN:C.N.length=7) (Fs:FsRight C):∀vs H Q E,dB' vs H Q E->tSs C f5' { nx:=fun _ H'=>Q .non H',rt:=Q } (L2.aQ' C.N vs) H:=by
 intro vs H Q E h
 obtain⟨p,pl,m,l0,h0,l1,h1,sp,m0,g0,m1,g1,sq,F,row,rfl,hB,hS,hB2,hLo,hM,hL,hF,hrow,q⟩:=h
 rw[ap' hN]
 unfold f5'
 have hw:=hS.wb
 have hMl:(b4' l0 h0 l1 h1 sp F).length=F.length:=by unfold b4';rw[ac]
 symm
 refine ag' Fs.keeps ?_
 symm
 refine⟨p,l0,h0,l1,h1,sp,row,rfl,hB,hw,⋯,fun H1 s1=>?_⟩
 obtain⟨K,hK⟩:∃K,K=fB l0 h0 l1 h1 sp row:=⟨_,rfl⟩
 rw[<- hK]
 symm
 refine ag' Fs.keeps ?_
 symm
 (try rw[qf'])
 symm
 refine qg' (a:=tx row) (by rw[bD'];exact a1' ⋯) ?_
 rw[na']
 symm
 refine⟨p,l0,h0,l1,h1,sp,row.reverse,rfl,hB.mono (af' s1),hw,by rw[cj];omega,fun H2 s2=>?_⟩
 rw[qB',<- hK]
 have s12:=s1.trans s2
 symm
 (try rw[show(!decide (K=K))=false by simp])
 symm
 refine ag' Fs.starts ?_
 symm
 refine⟨m,b4' l0 h0 l1 h1 sp F,row,rfl,hM.mono (af' s12),qt',by rw[hMl];exact hF,fun p3 hp3=>?_⟩
 obtain⟨s3,k3⟩:=snw hp3 (.lst ((stL (b4' l0 h0 l1 h1 sp F) row (b4' l0 h0 l1 h1 sp F).length).map nV))
 have s13:=s12.trans s3
 generalize upd H2 p3 _=H3 at k3 s13 ⊢
 symm
 refine⟨by decide,fun p4 hp4=>?_⟩
 obtain⟨s4,k4⟩:=snw hp4 (.lst [])
 have k34:=s4 _ _ k3
 have s14:=s13.trans s4
 generalize upd H3 p4 _=H4 at k4 k34 s14 ⊢
 refine xA' k34 k4 ?_
 have est:(!decide ((stL (b4' l0 h0 l1 h1 sp F) row (b4' l0 h0 l1 h1 sp F).length).map nV=[]))=K:=by
  rw[hK,cP,<- eG' hw hL]
  unfold stL Kp
  rw[hMl]
  constructor
  .intro z
   have z:¬((aG F.length).filter fun r=>(wk (b4' l0 h0 l1 h1 sp F) (some r) row).isSome).map nV=[]:=by simpa using z
   obtain⟨r,hr⟩:=List.exists_mem_of_ne_nil _ (fun e=>z (by rw[e];rfl):((aG F.length).filter fun r=>(wk (b4' l0 h0 l1 h1 sp F) (some r) row).isSome)≠[])
   obtain⟨hr1,hr2⟩:=aY.mp hr
   exact⟨r,aK.mp hr1,Option.isSome_iff_exists.mp hr2⟩
  .rintro⟨r,hr,e,he⟩
   have hm:r∈(aG F.length).filter fun r=>(wk (b4' l0 h0 l1 h1 sp F) (some r) row).isSome:=aY.mpr ⟨aK.mpr hr,by rw[he];rfl⟩
   rw[bu,decide_eq_false_iff_not]
   intro z
   rw[List.map_eq_nil_iff.mp z]at hm
   exact absurd hm aB
 rw[est]
 symm
 (try rw[show(!decide (K=K))=false by simp])
 symm
 have hB4:=(hB.mono (af' s14)).at'
 refine aC' (SqT.of hB4) (v:=nV l1) rfl ?_
 symm
 refine aC' (SqT.of hB4) (v:=nV h1) rfl ?_
 symm
 refine aC' (SqT.of hB4) (v:=nV l0) rfl ?_
 symm
 refine aC' (SqT.of hB4) (v:=nV h0) rfl ?_
 symm
 refine aC' (SqT.of hB4) (v:=oV sp) rfl ?_
 symm
 refine⟨by decide,fun p5 hp5=>?_⟩
 obtain⟨s5,k5⟩:=snw hp5 (.tup [nV l1,nV h1,nV l0,nV h0,oV sp])
 have s15:=s14.trans s5
 generalize upd H4 p5 _=H5 at k5 s15 ⊢
 refine ag' Fs.keeps ?_
 symm
 refine ag' Fs.exch ?_
 symm
 refine⟨row,rfl,⋯,fun H6 s6=>?_⟩
 have s16:=s15.trans s6
 symm
 refine⟨p5,l1,h1,l0,h0,sp,row.map (!·),rfl,⟨s6 _ _ k5,hB.b1,hB.b0,hB.bs⟩,hS.swap.wb,by rw[ac];omega,fun H7 s7=>?_⟩
 rw[tm',<- hK]
 have s17:=s16.trans s7
 symm
 (try rw[show(!decide (K=K))=false by simp])
 symm
 cases K with
 |true=>
  have hK:=hK.symm
  symm
  refine ag' Fs.keeps ?_
  symm
  refine⟨pl,m0,g0,m1,g1,sq,row,rfl,hB2.mono (af' s17),hLo.wb,⋯,fun H8 s8=>?_⟩
  rw[show fB m0 g0 m1 g1 sq row=true from ha'.mpr ((ha'.mp hK).loose hLo.z0 hLo.z1 hLo.z2 hLo.z3 hLo.zs)]
  have s18:=s17.trans s8
  symm
  refine ag' Fs.next ?_
  symm
  refine⟨p,l0,h0,l1,h1,sp,row,rfl,hB.mono (af' s18),hw,⋯,fun H9 s9=>?_⟩
  have s19:=s18.trans s9
  symm
  rw[show(!decide (nbF l0 h0 l1 h1 sp row=[]))=true by rw[decide_eq_false (qC' hw hL hK)];rfl]
  symm
  refine ag' Fs.next ?_
  symm
  (try rw[qf'])
  symm
  refine qg' (a:=tx row) (by rw[bD'];exact a1' ⋯) ?_
  rw[na']
  symm
  refine⟨p,l0,h0,l1,h1,sp,row.reverse,rfl,hB.mono (af' s19),hw,by rw[cj];omega,fun H10 s10=>?_⟩
  have s110:=s19.trans s10
  symm
  rw[show(!decide (nbF l0 h0 l1 h1 sp row.reverse=[]))=true by rw[decide_eq_false (qC' hw hL (by rw[qB'];exact hK))];rfl]
  symm
  refine ag' Fs.fault ?_
  symm
  refine⟨p,l0,h0,l1,h1,sp,row,rfl,hB.mono (af' s110),hw,⋯,fun o H11 s11 _ hd=>?_⟩
  symm
  rw[hd,hK]
  exact q _ (s110.trans s11)
 |false=>
  have hK:=hK.symm
  symm
  refine ag' Fs.fault ?_
  symm
  refine⟨p,l0,h0,l1,h1,sp,row,rfl,hB.mono (af' s17),hw,⋯,fun o H8 s8 hf _=>?_⟩
  have s18:=s17.trans s8
  rcases hf with⟨_,z⟩|⟨i,rfl,hi,hfi,hfj⟩
  .rw[hK]at z;cases z
  simp only[oV]
  symm
  refine a3' (fun hz=>?_) fun hz=>?_
  .have hi0:i=0:=by omega
   subst hi0
   have hF0:F=[]:=by
    cases F with
    |nil=>rfl
    |cons k F=>
     have:Kp l0 h0 l1 h1 sp (k :: F) (row.take 0):=⟨0,Nat.zero_lt_succ _,0,rfl⟩
     have:=(eG' hw hL).mp this
     rw[hfi]at this
     cases this
   subst hF0
   symm
   obtain⟨vs,hm,hv⟩:=hM.mono (af' s18)
   have hv:vs=[]:=cu hv.len
   subst hv
   refine⟨by decide,fun pe hpe=>?_⟩
   obtain⟨s9,k9⟩:=snw hpe (.tup [])
   have hm9:=s9 _ _ hm
   generalize hH9:upd H8 pe _=H9 at s9 k9 hm9 ⊢
   exact wJ' (n:=1) (.inr ⟨m,pe,[],[],rfl,rfl,.inr ⟨hm9,k9⟩,rfl,fun i x y ex ey=>by cases ex⟩) (by decide) (q _ (s18.trans s9))
  .have hi1:1<=i:=by omega
   symm
   refine ag' Fs.keeps ?_
   symm
   rw[show(i:Int)-1=((i-1:Nat):Int) by omega]
   refine o9' (a1' ⋯) ?_
   refine⟨p,l0,h0,l1,h1,sp,row.take (i-1),rfl,hB.mono (af' s18),hw,by rw[aJ];omega,fun H9 s9=>?_⟩
   rw[hfj (i-1) ⋯]
   have s19:=s18.trans s9
   symm
   refine ag' Fs.keeps ?_
   symm
   refine o9' (a1' ⋯) ?_
   refine⟨p,l0,h0,l1,h1,sp,row.take i,rfl,hB.mono (af' s19),hw,by rw[aJ];omega,fun H10 s10=>?_⟩
   rw[hfi]
   symm
   exact q _ (s19.trans s10)
def nb' (K:W.Frag):Sp:=fun vs H Q _=>∃(a:Addr) (ns:List Int),vs=[.ref a]/\SqL K H a (ns.map V.int)/\ns.length<=63/\∀H',Q (.bl true) H'
structure FsLaw (C:Rc):Prop where
 box:C.fs "_law_box"=some (mx' C.K)
 bounds:C.fs "_law_bounds"=some K04.bT'
 take:C.fs "_law_take"=some bk'
 loos:C.fs "_law_looser"=some cv'
 mof:C.fs "machine_of"=some dh'
 last:C.fs "_law_lasting"=some bU'
 row:C.fs "_law_row"=some j1'
 kept:C.fs "_law_kept_row"=some fm'
 right:C.fs "_law_right"=some dB'
theorem tn' {F:List K3}:decide (dK3 F=[])=decide (F=[]):=by cases F<;>rfl
theorem po' {C:Rc} (hN:C.N.length=10) (F:FsLaw C):∀vs H Q E,nb' C.K vs H Q E->tSs C pl' { nx:=fun _ H'=>Q .non H',rt:=Q } (L2.aQ' C.N vs) H:=by
 intro vs H Q E h
 obtain⟨a,ns,rfl,hs,h63,q⟩:=h
 rw[ap' hN]
 unfold pl'
 symm
 refine dv' hs ?_
 rw[ac]
 symm
 obtain⟨N,eN,hN1,hN2⟩:∃N:Int,N=1+(if(ns.length:Int)<4 then(ns.length:Int)else 4)/\1<=N/\N<=5:=by
  refine⟨_,rfl,?_,?_⟩<;>split<;>omega
 rw[<- eN]
 refine ma' ⋯ ⋯ (oH' (fun i σ H'=>(∃x1 x2 x3 x4 x5 x6 x7 x8 x9,σ=[some (.ref a),x1,x2,x3,x4,x5,x6,x7,x8,x9])/\SqL C.K H' a (ns.map V.int)) ⟨⟨_,_,_,_,_,_,_,_,_,rfl⟩,hs⟩ ?_ ?_)
 .rintro i σ H0 hi ⟨⟨x1,x2,x3,x4,x5,x6,x7,x8,x9,rfl⟩,hs0⟩
  have hi:i<5:=by omega
  symm
  refine ag' F.box ?_
  symm
  refine⟨a,ns,_,rfl,hs0,⋯,⋯,fun b hb=>?_⟩
  have hs1:=(ah' hb (dH' b 0)).seq hs0
  have hb1:upd H0 b (dH' b 0) b=some (dH' b 0):=ab'
  generalize upd H0 b (dH' b 0)=H1 at hs1 hb1 ⊢
  symm
  refine ag' F.bounds ?_
  symm
  refine⟨b,0,rfl,hb1,⋯,fun p l0 h0 l1 h1 sp H2 g2 hB a0 b0 a1 b1=>?_⟩
  obtain⟨n2,hb2,hn2,_⟩:=g2.boxed hb1 ⋯
  have hs2:=g2.seq hs1
  symm
  refine sf' (SqT.of hB.at') (by simp[HT.sIx]) fun p1 hp1=>?_
  rw[show pE' [nV l0,nV h0,nV l1,nV h1,oV sp] none (some 4)=([(l0:Int),h0,l1,h1]:List Int).map V.int from rfl]
  obtain⟨s3,k3⟩:=snw hp1 (.tup (([(l0:Int),h0,l1,h1]:List Int).map V.int))
  have hB3:=hB.mono (af' s3)
  have hb3:=s3 _ _ hb2
  have hs3:=s3.seq hs2
  generalize upd H2 p1 _=H3 at k3 hB3 hb3 hs3 ⊢
  symm
  refine sF' (SqT.of k3) (by simp) fun M hM1 hM2=>?_
  generalize hD:nf' C _ _=D0
  have main:∀(p:Addr) (l0 h0 l1 h1:Nat) (sp:Option Nat) (n:Nat) (H4:Hp),IsB H4 p l0 h0 l1 h1 sp->Sm l0 h0 l1 h1 sp->H4 b=some (dH' b n)->n<=100->SqL C.K H4 a (ns.map V.int)->D0.nx [some (.ref a),some (.int (0+i)),some (.ref b),some (.ref p),x4,x5,x6,x7,x8,x9] H4:=by
   intro p l0 h0 l1 h1 sp n H4 hB hS hb hn hs4
   rw[<- hD]
   have hw:=hS.wb
   symm
   refine ag' F.loos ?_
   symm
   refine⟨b,p,n,l0,h0,l1,h1,sp,rfl,hb,⋯,hB,hS,fun pl m0 g0 m1 g1 sq H5 g5 hB5 hLo=>?_⟩
   have hBp5:IsB H5 p l0 h0 l1 h1 sp:=⟨g5.tup hB.at',hB.b0,hB.b1,hB.bs⟩
   obtain⟨n5,hb5,hn5,_⟩:=g5.boxed hb ⋯
   have hs5:=g5.seq hs4
   symm
   refine ag' F.mof ?_
   symm
   refine⟨p,l0,h0,l1,h1,sp,rfl,hBp5,fun m rs H6 s6 hM hR=>?_⟩
   symm
   refine ag' F.last ?_
   symm
   refine⟨p,l0,h0,l1,h1,sp,rfl,hBp5.mono (af' s6),hw.c0,hw.c1,fun D G H7 hD0 s7 hD7 hL=>?_⟩
   rw[(qs' hw.c0 hw.c1 hL hR).2]at hM
   have s57:=s6.trans s7
   have hM7:=hM.mono (af' s7)
   have hBp7:=hBp5.mono (af' s57)
   have hB7:=hB5.mono (af' s57)
   have hb7:=s57 _ _ hb5
   have hs7:=s57.seq hs5
   have hGl:G.length<=100:=by
    have hsl:=hL.sub.length_le
    have:(rk (lvs sp) h0 h1).length<=56:=by
     unfold rk
     rw[ax,db',db']
     have hl:(lvs sp).length<=7:=by
      rw[f6']
      cases sp with
      |none=>decide
      |some s=>have:=hS.cs s rfl;show s+1<=7;omega
     have e0:h0*(lvs sp).length<=28:=aF (dr hS.c0 hl) (by decide)
     have e1:h1*(lvs sp).length<=28:=aF (dr hS.c1 hl) (by decide)
     omega
    omega
   clear hR hM
   symm
   refine ag' F.row ?_
   symm
   refine⟨b,n5,rfl,hb7,⋯,fun r8 H8 hr8 g8=>?_⟩
   symm
   refine o9' (a1' ⋯) ?_
   have hr8':(r8.take 16).length<=60:=by rw[aJ];omega
   generalize r8.take 16=r8 at hr8'
   clear hr8
   symm
   refine⟨by decide,fun pr hpr=>?_⟩
   obtain⟨s9,k9⟩:=snw hpr (.lst [.str (tx r8)])
   have g79:Go 100 H7 (upd H8 pr (.lst [.str (tx r8)])):=(g8.trans (Go.of_same (c:=0) s9)).mono ⋯
   generalize upd H8 pr _=H9 at k9 g79 ⊢
   generalize hD1:nf' C _ _=D1
   have hBp:∀{H10:Hp},Go 1000 H7 H10->IsB H10 p l0 h0 l1 h1 sp:=fun g=>⟨g.tup hBp7.at',hBp7.b0,hBp7.b1,hBp7.bs⟩
   have rows:∀(R:List (List Bool)) (x8:Option V) (pr:Addr) (H10:Hp),(∀r∈R,r.length<=60)->R.length<=20->H10 pr=some (.lst (R.map fun r=>V.str (tx r)))->Go 1000 H7 H10->tSs C (.cons (.for_ (.name 9) (.val (.var 7)) (.cons (.ite (.not (.val (.call "_law_right" (.cons (.var 3) (.cons (.var 4) (.cons (.var 5) (.cons (.var 9) .nil))))))) (.cons (.ret (.bl false)) .nil) .nil) .nil)) .nil) { nx:=fun σ H'=>(∃x1 x2 x3 x4 x5 x6 x7 x8 x9,σ=[some (.ref a),x1,x2,x3,x4,x5,x6,x7,x8,x9])/\SqL C.K H' a (ns.map V.int),rt:=Q } [some (.ref a),some (.int (0+i)),some (.ref b),some (.ref p),some (.ref pl),some (.ref m),some (.ref D),some (.ref pr),x8,x9] H10:=by
    intro R x8 pr H10 hR1 hR2 k10 g10
    have hM10:IsM H10 m (b4' l0 h0 l1 h1 sp G):=hM7.mono g10.tp
    symm
    refine aV' (SqL.of k10) (z3' (xs:=R.map fun r=>V.str (tx r)) (fun j σ H'=>(∃x9,σ=[some (.ref a),some (.int (0+i)),some (.ref b),some (.ref p),some (.ref pl),some (.ref m),some (.ref D),some (.ref pr),x8,x9])/\av' H10 H') ⟨⟨_,rfl⟩,av'.refl _⟩ (fun j σ H' _ pv=>SqL.of (pv.2 _ _ k10)) ?_ ?_)
    .rintro j x σ H11 hx ⟨⟨x9,rfl⟩,s11⟩
     rw[ao]at hx
     obtain⟨r,hr,rfl⟩:=bU.mp hx
     have hrm:=hR1 r (aq hr)
     symm
     refine ag' F.right ?_
     symm
     refine⟨p,pl,m,l0,h0,l1,h1,sp,m0,g0,m1,g1,sq,G,r,rfl,(hBp g10).mono (af' s11),hS,⟨s11 _ _ (g10.tup hB7.at'),hB7.b0,hB7.b1,hB7.bs⟩,hLo,hM10.mono (af' s11),hL,hGl,hrm,fun H12 s12=>?_⟩
     symm
     exact⟨⟨_,rfl⟩,s11.trans s12⟩
    .rintro σ H11 ⟨⟨x9,rfl⟩,s11⟩
     exact⟨⟨_,_,_,_,_,_,_,_,_,rfl⟩,s11.seq (g10.seq hs7)⟩
   have hD9:H9 D=some (.dT (dK3 G)):=g79.oth D _ hD7 fun _ z=>by cases z
   rw[<- hD1]
   symm
   intro pd hpd
   obtain⟨s10,k10⟩:=snw hpd (.dK [])
   have g10:Go 100 H7 (upd H9 pd (.dK [])):=(g79.trans (Go.of_same (c:=0) s10)).mono ⋯
   have k910:=s10 _ _ k9
   have hD10:=s10 _ _ hD9
   generalize upd H9 pd _=H10 at k10 g10 k910 hD10 ⊢
   refine sL' (.inl hD10) k10 ?_
   rw[tn']
   generalize hD2:nf' C _ _=D2
   have two:∀(R:List (List Bool)) (x8:Option V) (pr:Addr) (H11:Hp),(∀r∈R,r.length<=60)->R.length<=3->H11 pr=some (.lst (R.map fun r=>V.str (tx r)))->Go 600 H7 H11->D2.nx [some (.ref a),some (.int (0+i)),some (.ref b),some (.ref p),some (.ref pl),some (.ref m),some (.ref D),some (.ref pr),x8,x9] H11:=by
    intro R x8 pr H11 hR1 hR2 k11 g11
    rw[<- hD2]
    show tSs C (.cons (.ite _ _ _) _) _ _ H11
    refine gV' fun NX hNX=>?_
    symm
    refine a3' (fun hz=>?_) fun hz=>?_
    .symm
     refine⟨by show 11<=sizeLine;decide,fun p12 hp12=>?_⟩
     obtain⟨s12,k12⟩:=snw hp12 (.lst (([[],[false],[true],[false,false],[false,true],[true,false],[true,true],[false,true,true,false],[true,false,false,true],[false,false,true,false],[true,true,false,true]]:List (List Bool)).map fun r=>V.str (tx r)))
     have g12:Go 600 H7 (upd H11 p12 (.lst (([[],[false],[true],[false,false],[false,true],[true,false],[true,true],[false,true,true,false],[true,false,false,true],[false,false,true,false],[true,true,false,true]]:List (List Bool)).map fun r=>V.str (tx r)))):=(g11.trans (Go.of_same (c:=0) s12)).mono ⋯
     have k1112:=s12 _ _ k11
     show fb' C.K .Add _ _ (upd H11 p12 (.lst (([[],[false],[true],[false,false],[false,true],[true,false],[true,true],[false,true,true,false],[true,false,false,true],[false,false,true,false],[true,true,false,true]]:List (List Bool)).map fun r=>V.str (tx r)))) _
     generalize upd H11 p12 _=H12 at k12 k1112 g12 ⊢
     refine ml' k1112 k12 (a1' (by rw[ac,ac];show R.length+11<=1000;omega)) fun p13 hp13=>?_
     rw[<- aM]
     symm
     refine hNX _ _ (rows _ x8 p13 _ (fun r hr=>?_) (by rw[ax];show R.length+11<=20;omega) ab' ((g12.trans (Go.new (c:=0) hp13 _)).mono ⋯))
     rcases aL.mp hr with z|z
     .exact hR1 r z
     .exact(by decide:∀r∈([[],[false],[true],[false,false],[false,true],[true,false],[true,true],[false,true,true,false],[true,false,false,true],[false,false,true,false],[true,true,false,true]]:List (List Bool)),r.length<=60) r z
    .symm
     exact hNX _ _ (rows R x8 pr H11 hR1 ⋯ k11 (g11.mono ⋯))
   by_cases hG:G=[]
   .rw[decide_eq_true hG]
    symm
    exact two [r8] x8 pr H10 (fun r hr=>by rw[aV.mp hr];exact hr8') (by show 1<=3;decide) k910 (g10.mono ⋯)
   .rw[decide_eq_false hG]
    symm
    refine ma' (by decide) (by decide) ?_
    refine p9' (n:=2) (fun j ys H'=>∃R:List (List Bool),ys=(R.map fun r=>V.str (tx r))/\R.length=j/\(∀r∈R,r.length<=60)/\Go (101*j) H10 H') ⟨[],rfl,rfl,fun r hr=>absurd hr aB,Go.of_same (av'.refl _)⟩ ?_ ?_
    .rintro j ys H11 K hj ⟨R,rfl,hR1,hR2,g11⟩ hK
     have g711:Go (100+101*j) H7 H11:=g10.trans g11
     have hj:j<2:=hj
     obtain⟨n11,hb11,hn11,_⟩:=g711.boxed hb7 ⋯
     symm
     refine ag' F.kept ?_
     symm
     refine ag' F.take ?_
     symm
     refine bf' hb11 (Go.refl (c:=0)) ⋯ (by decide) (by decide) fun w0 H12 hw0 hw1 g12 _=>?_
     obtain⟨w,rfl⟩:=ba hw0
     have g712:=g711.trans g12
     obtain⟨n12,hb12,hn12,_⟩:=g712.boxed hb7 ⋯
     refine⟨b,p,D,n12,l0,h0,l1,h1,sp,G,w,rfl,hb12,⋯,hBp (g712.mono ⋯),g712.oth D _ hD7 (fun _ z=>by cases z),hL,hG,⋯,fun r H13 hr g13=>?_⟩
     refine⟨by rw[ac,hR1];exact an' ⋯,hK _ _ ⟨R++[r],by rw[aM];rfl,by rw[ax,hR1];rfl,fun r' hr'=>?_,((g11.trans g12).trans g13).mono ⋯⟩⟩
     rcases aL.mp hr' with z|z
     .exact hR2 r' z
     .rw[aV.mp z];omega
    .rintro ys H11 ⟨R,rfl,hR1,hR2,g11⟩ p12 hp12
     obtain⟨s12,k12⟩:=snw hp12 (.lst (R.map fun r=>V.str (tx r)))
     have k1112:=s12 _ _ (g11.lst k910)
     have g12:Go 302 H7 (upd H11 p12 (.lst (R.map fun r=>V.str (tx r)))):=((g10.trans g11).trans (Go.of_same (c:=0) s12)).mono ⋯
     generalize upd H11 p12 _=H12 at k12 k1112 g12 ⊢
     symm
     refine ml' k1112 k12 (a1' (by rw[ac,hR1];show 1+2<=1000;decide)) fun p13 hp13=>?_
     symm
     refine two ([r8]++R) x8 p13 _ (fun r hr=>?_) (by rw[ax,hR1];exact ag 3) (by rw[ab',aM];rfl) ((g12.trans (Go.new (c:=0) hp13 _)).mono ⋯)
     rcases aL.mp hr with z|z
     .rw[aV.mp z];exact hr8'
     .exact hR2 r z
  have alt:∀H4,av' H3 H4->tSs C (.cons (.asg (.name 3) (.tup (.cons (.int 1) (.cons (.int 2) (.cons (.int 1) (.cons (.int 3) (.cons (.idx (.lst (.cons .non (.cons (.int 3) (.cons (.int 4) .nil)))) (.call "_law_take" (.cons (.var 2) (.cons (.int 3) .nil)))) .nil))))))) .nil) D0 [some (.ref a),some (.int (0+i)),some (.ref b),some (.ref p),x4,x5,x6,x7,x8,x9] H4:=by
   intro H4 s4
   have hb4:=s4 _ _ hb3
   symm
   refine⟨by decide,fun p5 hp5=>?_⟩
   obtain⟨s5,k5⟩:=snw hp5 (.lst [.non,.int 3,.int 4])
   have hb5:=s5 _ _ hb4
   have hs5:=(s4.trans s5).seq hs3
   generalize upd H4 p5 _=H5 at k5 hb5 hs5 ⊢
   refine ag' F.take ?_
   symm
   refine bf' hb5 (Go.refl (c:=0)) ⋯ (by decide) (by decide) fun r6 H6 hr60 hr61 g6 _=>?_
   obtain⟨n6,hb6,hn6,_⟩:=g6.boxed hb5 ⋯
   obtain⟨sq,hsq,hsv⟩:∃sq:Option Nat,atI [V.non,.int 3,.int 4] r6=some (oV sq)/\∀s,sq=some s->s<=6:=by
    rcases(by omega:r6=0\/r6=1\/r6=2)with rfl|rfl|rfl
    .exact⟨none,rfl,fun s z=>by cases z⟩
    .exact⟨some 3,rfl,fun s z=>by cases z;decide⟩
    .exact⟨some 4,rfl,fun s z=>by cases z;decide⟩
   refine aW' (SqL.of (g6.lst k5)) hsq ?_
   symm
   refine⟨by show 5<=sizeLine;decide,fun p7 hp7=>?_⟩
   obtain⟨s7,k7⟩:=snw hp7 (.tup [nV 1,nV 2,nV 1,nV 3,oV sq])
   exact main p7 1 2 1 3 sq n6 _ ⟨k7,by decide,by decide,fun s hs=>by have:=hsv s hs;omega⟩ ⟨by decide,by decide,by decide,by decide,by decide,by decide,hsv⟩ (s7 _ _ hb6) ⋯ (s7.seq (g6.seq hs5))
  have go:∀H4,av' H3 H4->h0<=4->h1<=4->(∀s,sp=some s->s<=6)->D0.nx [some (.ref a),some (.int (0+i)),some (.ref b),some (.ref p),x4,x5,x6,x7,x8,x9] H4:=fun H4 s4 c0 c1 cs=>main p l0 h0 l1 h1 sp n2 H4 (hB3.mono (af' s4)) ⟨a0,a1,b0,b1,c0,c1,cs⟩ (s4 _ _ hb3) ⋯ (s4.seq hs3)
  have m0:=hM2 (h0:Int) (by simp)
  have m1:=hM2 (h1:Int) (by simp)
  clear hD main
  symm
  refine a3' (fun hc=>?_) fun hc=>?_
  .simp only[l4',rX']
   exact alt _ (av'.refl _)
  .symm
   refine aC' (SqT.of hB3.at') (v:=oV sp) rfl ?_
   cases sp with
   |none=>
    simp only[oV]
    symm
    exact go H3 (av'.refl _) ⋯ ⋯ fun s z=>by cases z
   |some s=>
    simp only[oV]
    symm
    refine aC' (SqT.of hB3.at') (v:=oV (some s)) rfl ?_
    simp only[oV]
    symm
    refine a3' (fun hc2=>?_) fun hc2=>?_
    .simp only[l4',rX']
     exact alt _ (av'.refl _)
    .symm
     exact go H3 (av'.refl _) ⋯ ⋯ fun s' z=>by cases z;omega
 .rintro σ H0 ⟨⟨x1,x2,x3,x4,x5,x6,x7,x8,x9,rfl⟩,hs0⟩
  symm
  exact q _
end K07
namespace K07
open PySem PySem.Spec PyProof.Rows L2 R3 LW TM BD BE TE K06 M7 SR
def top (i:Nat):Stmt:=PySem.Challenge.pw_runbound_k07_whole_bounds_otherwise.main.body.getD i (.Pass ⟨0,0,0,0⟩)
theorem xB':mSs fY' dP' (ac' (top 1)) dM' (am' (top 1))=true:=⋯
theorem to':FnScope fY' ["machine","room","row"] (ac' (top 1)):=⟨rfl,rfl,rfl,⋯,rfl,⋯,⋯⟩
theorem pp':mSs dz' cs' (ac' (top 2)) cr' (am' (top 2))=true:=⋯
theorem nc':FnScope dz' ["machine","row"] (ac' (top 2)):=⟨rfl,rfl,rfl,⋯,rfl,⋯,⋯⟩
theorem Aq':mSs bt' a6' (ac' (top 3)) K04.a5' (am' (top 3))=true:=⋯
theorem xC':FnScope bt' ["machine","rooms","bit"] (ac' (top 3)):=⟨rfl,rfl,rfl,⋯,rfl,⋯,⋯⟩
theorem xD':mSs cM' b5' (ac' (top 4)) b1' (am' (top 4))=true:=⋯
theorem tp':FnScope cM' ["machine","rooms"] (ac' (top 4)):=⟨rfl,rfl,rfl,⋯,rfl,⋯,⋯⟩
theorem xE':mSs cN' b6' (ac' (top 5)) b2' (am' (top 5))=true:=⋯
theorem tq':FnScope cN' ["machine","numbers"] (ac' (top 5)):=⟨rfl,rfl,rfl,⋯,rfl,⋯,⋯⟩
theorem xF':mSs cO' b7' (ac' (top 6)) b3' (am' (top 6))=true:=⋯
theorem tr':FnScope cO' ["machine"] (ac' (top 6)):=⟨rfl,rfl,rfl,⋯,rfl,⋯,⋯⟩
theorem Ar':mSs a8' aM' (ac' (top 8)) aL' (am' (top 8))=true:=⋯
theorem xG':FnScope a8' ["bounds"] (ac' (top 8)):=⟨rfl,rfl,rfl,⋯,rfl,⋯,⋯⟩
theorem BZ':mSs bE' bi' (ac' (top 9)) bh' (am' (top 9))=true:=⋯
theorem As':FnScope bE' ["bounds","room","bit"] (ac' (top 9)):=⟨rfl,rfl,rfl,⋯,rfl,⋯,⋯⟩
theorem At':mSs aY' aE' (ac' (top 10)) aD' (am' (top 10))=true:=⋯
theorem xH':FnScope aY' ["bounds","rooms"] (ac' (top 10)):=⟨rfl,rfl,rfl,⋯,rfl,⋯,⋯⟩
theorem Au':mSs bQ' bp' (ac' (top 11)) bo' (am' (top 11))=true:=⋯
theorem xI':FnScope bQ' ["bounds"] (ac' (top 11)):=⟨rfl,rfl,rfl,⋯,rfl,⋯,⋯⟩
theorem ts':mSs ck' bL' (ac' (top 12)) K04.bK' (am' (top 12))=true:=⋯
theorem pq':FnScope ck' ["bounds","row"] (ac' (top 12)):=⟨rfl,rfl,rfl,⋯,rfl,⋯,⋯⟩
theorem tt':mSs eE' di' (ac' (top 13)) K04.df' (am' (top 13))=true:=⋯
theorem pr':FnScope eE' ["bounds","row"] (ac' (top 13)):=⟨rfl,rfl,rfl,⋯,rfl,⋯,⋯⟩
theorem xJ':mSs b8' bw' (ac' (top 14)) K04.bv' (am' (top 14))=true:=⋯
theorem tu':FnScope b8' ["bounds","row"] (ac' (top 14)):=⟨rfl,rfl,rfl,⋯,rfl,⋯,⋯⟩
theorem iG':mSs b9' bx' (ac' (top 16)) bu' (am' (top 16))=true:=⋯
theorem ht':FnScope b9' ["row"] (ac' (top 16)):=⟨rfl,rfl,rfl,⋯,rfl,⋯,⋯⟩
theorem xK':mSs dj' cl' (ac' (top 18)) c8' (am' (top 18))=true:=⋯
theorem tv':FnScope dj' ["_law_script","_law_k"] (ac' (top 18)):=⟨rfl,rfl,rfl,⋯,rfl,⋯,⋯⟩
theorem Av':mSs pi' m4' (ac' (top 19)) oY' (am' (top 19))=true:=⋯
theorem xL':FnScope pi' ["_law_script","_law_k"] (ac' (top 19)):=⟨rfl,rfl,rfl,⋯,rfl,⋯,⋯⟩
theorem xM':mSs m5' jo' (ac' (top 20)) je' (am' (top 20))=true:=⋯
theorem tw':FnScope m5' ["_law_box_here","_law_many"] (ac' (top 20)):=⟨rfl,rfl,rfl,⋯,rfl,⋯,⋯⟩
theorem pt':mSs fZ' dQ' (ac' (top 21)) K04.dN' (am' (top 21))=true:=⋯
theorem nd':FnScope fZ' ["_law_box_here"] (ac' (top 21)):=⟨rfl,rfl,rfl,⋯,rfl,⋯,⋯⟩
theorem Aw':mSs f0' dR' (ac' (top 22)) K06.dO' (am' (top 22))=true:=⋯
theorem xN':FnScope f0' ["_law_bounds_here","_law_state","_law_bit"] (ac' (top 22)):=⟨rfl,rfl,rfl,⋯,rfl,⋯,⋯⟩
theorem Ax':mSs iC' f1' (ac' (top 23)) K06.fU' (am' (top 23))=true:=⋯
theorem xO':FnScope iC' ["_law_bounds_here","_law_left","_law_state"] (ac' (top 23)):=⟨rfl,rfl,rfl,⋯,rfl,⋯,⋯⟩
theorem Ay':mSs eF' dk' (ac' (top 24)) K06.dg' (am' (top 24))=true:=⋯
theorem xP':FnScope eF' ["_law_bounds_here"] (ac' (top 24)):=⟨rfl,rfl,rfl,⋯,rfl,⋯,⋯⟩
theorem xQ':mSs dA' ct' (ac' (top 25)) cu' (am' (top 25))=true:=⋯
theorem tx':FnScope dA' ["_law_box_here","_law_bounds_here","_law_left","_law_many"] (ac' (top 25)):=⟨rfl,rfl,rfl,⋯,rfl,⋯,⋯⟩
theorem Az':mSs th' pj' (ac' (top 26)) oZ' (am' (top 26))=true:=⋯
theorem xR':FnScope th' ["_law_box_here"] (ac' (top 26)):=⟨rfl,rfl,rfl,⋯,rfl,⋯,⋯⟩
theorem xS':mSs f3' dS' (ac' (top 27)) dT' (am' (top 27))=true:=⋯
theorem ty':FnScope f3' ["_law_box_here","_law_bounds_here"] (ac' (top 27)):=⟨rfl,rfl,rfl,⋯,rfl,⋯,⋯⟩
theorem tz':mSs iD' f4' (ac' (top 28)) f5' (am' (top 28))=true:=⋯
theorem pu':FnScope iD' ["_law_bounds_here","_law_looser_here","_law_machine","_law_row_here"] (ac' (top 28)):=⟨rfl,rfl,rfl,⋯,rfl,⋯,⋯⟩
theorem AA':mSs pk' m6' (ac' (top 29)) pl' (am' (top 29))=true:=⋯
theorem xT':FnScope pk' ["_law_script"] (ac' (top 29)):=⟨rfl,rfl,rfl,⋯,rfl,⋯,⋯⟩
set_option hygiene false in
local macro_rules | `(tactic| walk_at "o") => `(tactic| (intro vs H Q E h; repeat (first | (obtain ⟨rfl, _⟩ := h; rfl) | (obtain ⟨_, h⟩ := h))))
def FnD (K:W.Frag) (x:Str) (st:Stmt):Prop:=∃(f:Addr) (fd:FuncData),W.nsIn K mainGlobals x=some (some (.ref f))/\Fun K x x st f fd
theorem aI' {K:W.Frag} {x:Str} {st:Stmt} {f:Addr} {oc:Value} {od an:Option Addr} {osl:Array (Option Value)} {kV doc pm cdv ct:Value} (a:W.nsIn K mainGlobals x=some (some (.ref f))) (l:K.lookup f=some ⟨oc,od,.func (W.fnOf x x (dp' st) (am' st) (ac' st) .none kV doc pm an cdv ct),osl⟩) (c:W.codeIn K cdv x=true) (k:W.keepIn K (.ref f)=true):FnD K x st:=⟨f,_,a,um' l c k⟩
set_option hygiene false in
local macro_rules | `(tactic| walk_at "b") => `(tactic| (intro _ _ _ _ _ _ us hl; first | exact wV' (P:=fun us=>bindArgs _ ({ pos:=us }:Args)=pure (cf _ us)) (fun _ _ _=>rfl) us hl | exact mo' (P:=fun us=>bindArgs _ ({ pos:=us }:Args)=pure (cf _ us)) (fun _ _=>rfl) us hl | exact sr' (P:=fun us=>bindArgs _ ({ pos:=us }:Args)=pure (cf _ us)) (fun _=>rfl) us hl | exact A5' (P:=fun us=>bindArgs _ ({ pos:=us }:Args)=pure (cf _ us)) (fun _ _ _ _=>rfl) us hl))
theorem xU' {l:W.OpenLaw} {w:World} {K:W.Frag} {h:Heap} {mg:Str->Option Value} {fa:Addr} (X:K.In h) (G:h.Ns mainGlobals mg) (hfa:mg "law"=some (.ref fa))
  (p1:FnD K "walk" (top 1))
  (p2:FnD K "starts" (top 2))
  (p3:FnD K "rooms_behind" (top 3))
  (p4:FnD K "lasting" (top 4))
  (p5:FnD K "part_of" (top 5))
  (p6:FnD K "trimmed" (top 6))
  (p7:FnD K "rooms_in_bounds" (top 8))
  (p8:FnD K "room_behind" (top 9))
  (p9:FnD K "machine_in_bounds" (top 10))
  (p10:FnD K "machine_of" (top 11))
  (p11:FnD K "fault_at" (top 12))
  (p12:FnD K "keeps" (top 13))
  (p13:FnD K "next_bits" (top 14))
  (p14:FnD K "exchanged" (top 16))
  (p15:FnD K "_law_cell_at" (top 18))
  (p16:FnD K "_law_box" (top 19))
  (p17:FnD K "_law_take" (top 20))
  (p18:FnD K "_law_bounds" (top 21))
  (p19:FnD K "_law_behind" (top 22))
  (p20:FnD K "_law_leads" (top 23))
  (p21:FnD K "_law_lasting" (top 24))
  (p22:FnD K "_law_kept_row" (top 25))
  (p23:FnD K "_law_row" (top 26))
  (p24:FnD K "_law_looser" (top 27))
  (p25:FnD K "_law_right" (top 28))
  (p26:FnD K "law" (top 29))
  (z1:W.nsIn K mainGlobals "~"=some none)
  (z2:W.nsIn K mainGlobals "^"=some none)
  (z3:W.nsIn K mainGlobals "%"=some none)
  (z4:W.nsIn K mainGlobals "int"=some none)
  (z5:W.nsIn K mainGlobals "len"=some none)
  (z6:W.nsIn K mainGlobals "range"=some none)
  (z7:W.nsIn K mainGlobals "sorted"=some none)
  (z8:W.nsIn K mainGlobals "set"=some none)
  (z9:W.nsIn K mainGlobals "enumerate"=some none)
  (z10:W.nsIn K mainGlobals "tuple"=some none)
  (z11:W.nsIn K mainGlobals "list"=some none)
  (z12:W.nsIn K mainGlobals "abs"=some none)
  (z13:W.nsIn K mainGlobals "dict"=some none)
  (z14:W.nsIn K mainGlobals "max"=some none)
  (z15:W.nsIn K mainGlobals "min"=some none):
  ∃fd:FuncData,(∀(s:Shared) (v:Value),BindsTo s fd ⟨[v],[]⟩ [("_law_script",v)])/\∀base:Heap,K.In base->base.Ns mainGlobals mg->FnOk l.prog w K mg base CX0 60 fa fd ["_law_script"] (nb' K):=by
 obtain⟨f1,g1,a1,F1⟩:=p1
 obtain⟨f2,g2,a2,F2⟩:=p2
 obtain⟨f3,g3,a3,F3⟩:=p3
 obtain⟨f4,g4,a4,F4⟩:=p4
 obtain⟨f5,g5,a5,F5⟩:=p5
 obtain⟨f6,g6,a6,F6⟩:=p6
 obtain⟨f7,g7,a7,F7⟩:=p7
 obtain⟨f8,g8,a8,F8⟩:=p8
 obtain⟨f9,g9,a9,F9⟩:=p9
 obtain⟨f10,g10,a10,F10⟩:=p10
 obtain⟨f11,g11,a11,F11⟩:=p11
 obtain⟨f12,g12,a12,F12⟩:=p12
 obtain⟨f13,g13,a13,F13⟩:=p13
 obtain⟨f14,g14,a14,F14⟩:=p14
 obtain⟨f15,g15,a15,F15⟩:=p15
 obtain⟨f16,g16,a16,F16⟩:=p16
 obtain⟨f17,g17,a17,F17⟩:=p17
 obtain⟨f18,g18,a18,F18⟩:=p18
 obtain⟨f19,g19,a19,F19⟩:=p19
 obtain⟨f20,g20,a20,F20⟩:=p20
 obtain⟨f21,g21,a21,F21⟩:=p21
 obtain⟨f22,g22,a22,F22⟩:=p22
 obtain⟨f23,g23,a23,F23⟩:=p23
 obtain⟨f24,g24,a24,F24⟩:=p24
 obtain⟨f25,g25,a25,F25⟩:=p25
 obtain⟨f26,g26,a26,F26⟩:=p26
 obtain⟨oc26,od26,kV26,dc26,pm26,an26,cd26,ct26,sl26,rfl,l26,c26⟩:=F26.ex
 have e:=hfa.symm.trans (W.mg_of X G a26)
 cases e
 have b1:=F1.binds (ps:=["machine","room","row"]) ⋯
 have m1:=W.mg_of X G a1
 have b2:=F2.binds (ps:=["machine","row"]) ⋯
 have m2:=W.mg_of X G a2
 have b3:=F3.binds (ps:=["machine","rooms","bit"]) ⋯
 have m3:=W.mg_of X G a3
 have b4:=F4.binds (ps:=["machine","rooms"]) ⋯
 have m4:=W.mg_of X G a4
 have b5:=F5.binds (ps:=["machine","numbers"]) ⋯
 have m5:=W.mg_of X G a5
 have b6:=F6.binds (ps:=["machine"]) ⋯
 have m6:=W.mg_of X G a6
 have b7:=F7.binds (ps:=["bounds"]) ⋯
 have m7:=W.mg_of X G a7
 have b8:=F8.binds (ps:=["bounds","room","bit"]) ⋯
 have m8:=W.mg_of X G a8
 have b9:=F9.binds (ps:=["bounds","rooms"]) ⋯
 have m9:=W.mg_of X G a9
 have b10:=F10.binds (ps:=["bounds"]) ⋯
 have m10:=W.mg_of X G a10
 have b11:=F11.binds (ps:=["bounds","row"]) ⋯
 have m11:=W.mg_of X G a11
 have b12:=F12.binds (ps:=["bounds","row"]) ⋯
 have m12:=W.mg_of X G a12
 have b13:=F13.binds (ps:=["bounds","row"]) ⋯
 have m13:=W.mg_of X G a13
 have b14:=F14.binds (ps:=["row"]) ⋯
 have m14:=W.mg_of X G a14
 have b15:=F15.binds (ps:=["_law_script","_law_k"]) ⋯
 have m15:=W.mg_of X G a15
 have b16:=F16.binds (ps:=["_law_script","_law_k"]) ⋯
 have m16:=W.mg_of X G a16
 have b17:=F17.binds (ps:=["_law_box_here","_law_many"]) ⋯
 have m17:=W.mg_of X G a17
 have b18:=F18.binds (ps:=["_law_box_here"]) ⋯
 have m18:=W.mg_of X G a18
 have b19:=F19.binds (ps:=["_law_bounds_here","_law_state","_law_bit"]) ⋯
 have m19:=W.mg_of X G a19
 have b20:=F20.binds (ps:=["_law_bounds_here","_law_left","_law_state"]) ⋯
 have m20:=W.mg_of X G a20
 have b21:=F21.binds (ps:=["_law_bounds_here"]) ⋯
 have m21:=W.mg_of X G a21
 have b22:=F22.binds (ps:=["_law_box_here","_law_bounds_here","_law_left","_law_many"]) ⋯
 have m22:=W.mg_of X G a22
 have b23:=F23.binds (ps:=["_law_box_here"]) ⋯
 have m23:=W.mg_of X G a23
 have b24:=F24.binds (ps:=["_law_box_here","_law_bounds_here"]) ⋯
 have m24:=W.mg_of X G a24
 have b25:=F25.binds (ps:=["_law_bounds_here","_law_looser_here","_law_machine","_law_row_here"]) ⋯
 have m25:=W.mg_of X G a25
 have m26:=W.mg_of X G a26
 have n1:=W.mg_none_of X G z1
 have n2:=W.mg_none_of X G z2
 have n3:=W.mg_none_of X G z3
 have n4:=W.mg_none_of X G z4
 have n5:=W.mg_none_of X G z5
 have n6:=W.mg_none_of X G z6
 have n7:=W.mg_none_of X G z7
 have n8:=W.mg_none_of X G z8
 have n9:=W.mg_none_of X G z9
 have n10:=W.mg_none_of X G z10
 have n11:=W.mg_none_of X G z11
 have n12:=W.mg_none_of X G z12
 have n13:=W.mg_none_of X G z13
 have n14:=W.mg_none_of X G z14
 have n15:=W.mg_none_of X G z15
 refine⟨W.fnOf "law" "law" (dp' (top 29)) (am' (top 29)) (ac' (top 29)) .none kV26 dc26 pm26 an26 cd26 ct26,fun s v=>.of_eq rfl,fun base _ _=>?_⟩
 have O1:=aq' (P:=l.prog) (w:=w) (mg:=mg) (base:=base) (k:=0) F1 { N:=fY',B:=dP',K:=K,fs:=aX' [] } to' rfl dM' xB' (sp:=gX') ⋯ (aH' mN) (mC ⟨n4,mN⟩) ⟨n1,n2,n3⟩ ⋯ ⋯ rfl rfl (my' rfl  )
 have O2:=aq' (P:=l.prog) (w:=w) (mg:=mg) (base:=base) (k:=1) F2 { N:=dz',B:=cs',K:=K,fs:=aX' [("walk",gX')] } nc' rfl cr' pp' (sp:=c9') ⋯ (aH' (mC ⟨⟨_,_,_,(O1).mono ⋯,m1,F1.kp,b1⟩,mN⟩)) (mC ⟨n5,(mC ⟨n6,mN⟩)⟩) ⟨n1,n2,n3⟩ ⋯ ⋯ rfl rfl (iu' rfl (show aX' _ "walk"=some (gX') from ad') )
 have O3:=aq' (P:=l.prog) (w:=w) (mg:=mg) (base:=base) (k:=0) F3 { N:=bt',B:=a6',K:=K,fs:=aX' [] } xC' rfl K04.a5' Aq' (sp:=m7') ⋯ (aH' mN) (mC ⟨n4,(mC ⟨n7,mN⟩)⟩) ⟨n1,n2,n3⟩ ⋯ ⋯ rfl rfl (pm' rfl  )
 have O4:=aq' (P:=l.prog) (w:=w) (mg:=mg) (base:=base) (k:=0) F4 { N:=cM',B:=b5',K:=K,fs:=aX' [] } tp' rfl b1' xD' (sp:=gY') ⋯ (aH' mN) (mC ⟨n8,mN⟩) ⟨n1,n2,n3⟩ ⋯ ⋯ rfl rfl (mz' rfl  )
 have O5:=aq' (P:=l.prog) (w:=w) (mg:=mg) (base:=base) (k:=0) F5 { N:=cN',B:=b6',K:=K,fs:=aX' [] } tq' rfl b2' xE' (sp:=ez') ⋯ (aH' mN) (mC ⟨n9,(mC ⟨n10,mN⟩)⟩) ⟨n1,n2,n3⟩ ⋯ ⋯ rfl rfl (j4' rfl  )
 have O6:=aq' (P:=l.prog) (w:=w) (mg:=mg) (base:=base) (k:=1) F6 { N:=cO',B:=b7',K:=K,fs:=aX' [("lasting",gY'),("part_of",ez')] } tr' rfl b3' xF' (sp:=eB') ⋯ (aH' (mC ⟨⟨_,_,_,(O4).mono ⋯,m4,F4.kp,b4⟩,(mC ⟨⟨_,_,_,(O5).mono ⋯,m5,F5.kp,b5⟩,mN⟩)⟩)) (mC ⟨n5,(mC ⟨n11,(mC ⟨n6,mN⟩)⟩)⟩) ⟨n1,n2,n3⟩ ⋯ ⋯ rfl rfl (j5' rfl (show aX' _ "lasting"=some (gY') from ad') (show aX' _ "part_of"=some (ez') from((aa' ⋯).trans ad')) )
 have O7:=aq' (P:=l.prog) (w:=w) (mg:=mg) (base:=base) (k:=0) F7 { N:=a8',B:=aM',K:=K,fs:=aX' [] } xG' rfl aL' Ar' (sp:=mD') ⋯ (aH' mN) (mC ⟨n11,(mC ⟨n6,mN⟩)⟩) ⟨n1,n2,n3⟩ ⋯ ⋯ rfl rfl (o5' rfl  )
 have O8:=aq' (P:=l.prog) (w:=w) (mg:=mg) (base:=base) (k:=0) F8 { N:=bE',B:=bi',K:=K,fs:=aX' [] } As' rfl bh' BZ' (sp:=mF') ⋯ (aH' mN) mN ⟨n1,n2,n3⟩ ⋯ ⋯ rfl rfl (o7' rfl  )
 have O9:=aq' (P:=l.prog) (w:=w) (mg:=mg) (base:=base) (k:=1) F9 { N:=aY',B:=aE',K:=K,fs:=aX' [("room_behind",mF')] } xH' rfl aD' At' (sp:=g0') ⋯ (aH' (mC ⟨⟨_,_,_,(O8).mono ⋯,m8,F8.kp,b8⟩,mN⟩)) (mC ⟨n9,(mC ⟨n10,mN⟩)⟩) ⟨n1,n2,n3⟩ ⋯ ⋯ rfl rfl (mJ' rfl (show aX' _ "room_behind"=some (mF') from ad') )
 have O10:=aq' (P:=l.prog) (w:=w) (mg:=mg) (base:=base) (k:=2) F10 { N:=bQ',B:=bp',K:=K,fs:=aX' [("trimmed",eB'),("machine_in_bounds",g0'),("rooms_in_bounds",mD')] } xI' rfl bo' Au' (sp:=dh') ⋯ (aH' (mC ⟨⟨_,_,_,(O6).mono ⋯,m6,F6.kp,b6⟩,(mC ⟨⟨_,_,_,(O9).mono ⋯,m9,F9.kp,b9⟩,(mC ⟨⟨_,_,_,(O7).mono ⋯,m7,F7.kp,b7⟩,mN⟩)⟩)⟩)) mN ⟨n1,n2,n3⟩ ⋯ ⋯ rfl rfl (mV' rfl (show aX' _ "trimmed"=some (eB') from ad') (show aX' _ "machine_in_bounds"=some (g0') from((aa' ⋯).trans ad')) (show aX' _ "rooms_in_bounds"=some (mD') from((aa' ⋯).trans ((aa' ⋯).trans ad'))) )
 have O11:=aq' (P:=l.prog) (w:=w) (mg:=mg) (base:=base) (k:=3) F11 { N:=ck',B:=bL',K:=K,fs:=aX' [("machine_of",dh'),("rooms_behind",m7')] } pq' rfl K04.bK' ts' (sp:=qz') ⋯ (aH' (mC ⟨⟨_,_,_,(O10).mono ⋯,m10,F10.kp,b10⟩,(mC ⟨⟨_,_,_,(O3).mono ⋯,m3,F3.kp,b3⟩,mN⟩)⟩)) (mC ⟨n9,(mC ⟨n5,(mC ⟨n11,(mC ⟨n6,mN⟩)⟩)⟩)⟩) ⟨n1,n2,n3⟩ ⋯ ⋯ rfl rfl (ti' rfl (show aX' _ "machine_of"=some (dh') from ad') (show aX' _ "rooms_behind"=some (m7') from((aa' ⋯).trans ad')) )
 have O12:=aq' (P:=l.prog) (w:=w) (mg:=mg) (base:=base) (k:=4) F12 { N:=eE',B:=di',K:=K,fs:=aX' [("fault_at",qz')] } pr' rfl K04.df' tt' (sp:=bM') ⋯ (aH' (mC ⟨⟨_,_,_,(O11).mono ⋯,m11,F11.kp,b11⟩,mN⟩)) mN ⟨n1,n2,n3⟩ ⋯ ⋯ rfl rfl (iE' rfl (show aX' _ "fault_at"=some (qz') from ad') )
 have O13:=aq' (P:=l.prog) (w:=w) (mg:=mg) (base:=base) (k:=5) F13 { N:=b8',B:=bw',K:=K,fs:=aX' [("keeps",bM')] } tu' rfl K04.bv' xJ' (sp:=eH') ⋯ (aH' (mC ⟨⟨_,_,_,(O12).mono ⋯,m12,F12.kp,b12⟩,mN⟩)) mN ⟨n1,n2,n3⟩ ⋯ ⋯ rfl rfl (j7' rfl (show aX' _ "keeps"=some (bM') from ad') )
 have O14:=aq' (P:=l.prog) (w:=w) (mg:=mg) (base:=base) (k:=0) F14 { N:=b9',B:=bx',K:=K,fs:=aX' [] } ht' rfl bu' iG' (sp:=g2') ⋯ (aH' mN) mN ⟨n1,n2,n3⟩ ⋯ ⋯ rfl rfl (mN' rfl  )
 have O15:=aq' (P:=l.prog) (w:=w) (mg:=mg) (base:=base) (k:=0) F15 { N:=dj',B:=cl',K:=K,fs:=aX' [] } tv' rfl c8' xK' (sp:=fi' K) ⋯ (aH' mN) (mC ⟨n5,mN⟩) ⟨n1,n2,n3⟩ ⋯ ⋯ rfl rfl (mu' (C:={ N:=dj',B:=cl',K:=K,fs:=aX' [] }) rfl  )
 have O16:=xa' (aq' (P:=l.prog) (w:=w) (mg:=mg) (base:=base) (k:=1) F16 { N:=pi',B:=m4',K:=K,fs:=aX' [("_law_cell_at",fi' K)] } xL' rfl oY' Av' (sp:=mv' K) ⋯ (aH' (mC ⟨⟨_,_,_,(O15).mono ⋯,m15,F15.kp,b15⟩,mN⟩)) (mC ⟨n12,(mC ⟨n4,mN⟩)⟩) ⟨n1,n2,n3⟩ ⋯ ⋯ rfl rfl (o1' (C:={ N:=pi',B:=m4',K:=K,fs:=aX' [("_law_cell_at",fi' K)] }) rfl (show aX' _ "_law_cell_at"=some (fi' K) from ad') ))
 have O17:=sN' rfl (aq' (P:=l.prog) (w:=w) (mg:=mg) (base:=base) (k:=0) F17 { N:=m5',B:=jo',K:=K,fs:=aX' [] } tw' rfl je' xM' (sp:=fR') ⋯ (aH' mN) mN ⟨n1,n2,n3⟩ ⋯ ⋯ rfl rfl (mw' rfl  ))
 have O18:=aq' (P:=l.prog) (w:=w) (mg:=mg) (base:=base) (k:=1) F18 { N:=fZ',B:=dQ',K:=K,fs:=aX' [("_law_take",bk')] } nd' rfl K04.dN' pt' (sp:=K04.bT') ⋯ (aH' (mC ⟨⟨_,_,_,(O17).mono ⋯,m17,F17.kp,b17⟩,mN⟩)) mN ⟨n1,n2,n3⟩ ⋯ ⋯ rfl rfl (K04.g3' rfl (show aX' _ "_law_take"=some (bk') from ad') )
 have O19:=aq' (P:=l.prog) (w:=w) (mg:=mg) (base:=base) (k:=0) F19 { N:=f0',B:=dR',K:=K,fs:=aX' [] } xN' rfl K06.dO' Aw' (sp:=dx') ⋯ (aH' mN) mN ⟨n1,n2,n3⟩ ⋯ ⋯ rfl rfl (pc' rfl  )
 have O20:=aq' (P:=l.prog) (w:=w) (mg:=mg) (base:=base) (k:=1) F20 { N:=iC',B:=f1',K:=K,fs:=aX' [("_law_behind",dx')] } xO' rfl K06.fU' Ax' (sp:=tI') ⋯ (aH' (mC ⟨⟨_,_,_,(O19).mono ⋯,m19,F19.kp,b19⟩,mN⟩)) mN ⟨n1,n2,n3⟩ ⋯ ⋯ rfl rfl (s1' rfl (show aX' _ "_law_behind"=some (dx') from ad') )
 have O21:=aq' (P:=l.prog) (w:=w) (mg:=mg) (base:=base) (k:=2) F21 { N:=eF',B:=dk',K:=K,fs:=aX' [("_law_behind",dx'),("_law_leads",tI')] } xP' rfl K06.dg' Ay' (sp:=bU') ⋯ (aH' (mC ⟨⟨_,_,_,(O19).mono ⋯,m19,F19.kp,b19⟩,(mC ⟨⟨_,_,_,(O20).mono ⋯,m20,F20.kp,b20⟩,mN⟩)⟩)) (mC ⟨n13,(mC ⟨n5,(mC ⟨n6,mN⟩)⟩)⟩) ⟨n1,n2,n3⟩ ⋯ ⋯ rfl rfl (g7' rfl (show aX' _ "_law_behind"=some (dx') from ad') (show aX' _ "_law_leads"=some (tI') from((aa' ⋯).trans ad')) )
 have O22:=aq' (P:=l.prog) (w:=w) (mg:=mg) (base:=base) (k:=1) F22 { N:=dA',B:=ct',K:=K,fs:=aX' [("_law_take",bk'),("_law_behind",dx')] } tx' rfl cu' xQ' (sp:=fm') ⋯ (aH' (mC ⟨⟨_,_,_,(O17).mono ⋯,m17,F17.kp,b17⟩,(mC ⟨⟨_,_,_,(O19).mono ⋯,m19,F19.kp,b19⟩,mN⟩)⟩)) (mC ⟨n4,(mC ⟨n5,(mC ⟨n6,(mC ⟨n7,mN⟩)⟩)⟩)⟩) ⟨n1,n2,n3⟩ ⋯ ⋯ rfl rfl (m9' rfl (show aX' _ "_law_take"=some (bk') from ad') (show aX' _ "_law_behind"=some (dx') from((aa' ⋯).trans ad')) )
 have O23:=aq' (P:=l.prog) (w:=w) (mg:=mg) (base:=base) (k:=1) F23 { N:=th',B:=pj',K:=K,fs:=aX' [("_law_take",bk')] } xR' rfl oZ' Az' (sp:=j1') ⋯ (aH' (mC ⟨⟨_,_,_,(O17).mono ⋯,m17,F17.kp,b17⟩,mN⟩)) (mC ⟨n4,(mC ⟨n5,mN⟩)⟩) ⟨n1,n2,n3⟩ ⋯ ⋯ rfl rfl (o2' rfl (show aX' _ "_law_take"=some (bk') from ad') )
 have O24:=aq' (P:=l.prog) (w:=w) (mg:=mg) (base:=base) (k:=1) F24 { N:=f3',B:=dS',K:=K,fs:=aX' [("_law_take",bk')] } ty' rfl dT' xS' (sp:=cv') ⋯ (aH' (mC ⟨⟨_,_,_,(O17).mono ⋯,m17,F17.kp,b17⟩,mN⟩)) (mC ⟨n14,(mC ⟨n15,(mC ⟨n10,mN⟩)⟩)⟩) ⟨n1,n2,n3⟩ ⋯ ⋯ rfl rfl (iF' rfl (show aX' _ "_law_take"=some (bk') from ad') )
 have O25:=aq' (P:=l.prog) (w:=w) (mg:=mg) (base:=base) (k:=6) F25 { N:=iD',B:=f4',K:=K,fs:=aX' [("keeps",bM'),("starts",c9'),("exchanged",g2'),("next_bits",eH'),("fault_at",qz')] } pu' rfl f5' tz' (sp:=dB') ⋯ (aH' (mC ⟨⟨_,_,_,(O12).mono ⋯,m12,F12.kp,b12⟩,(mC ⟨⟨_,_,_,(O2).mono ⋯,m2,F2.kp,b2⟩,(mC ⟨⟨_,_,_,(O14).mono ⋯,m14,F14.kp,b14⟩,(mC ⟨⟨_,_,_,(O13).mono ⋯,m13,F13.kp,b13⟩,(mC ⟨⟨_,_,_,(O11).mono ⋯,m11,F11.kp,b11⟩,mN⟩)⟩)⟩)⟩)⟩)) mN ⟨n1,n2,n3⟩ ⋯ ⋯ rfl rfl (j8' rfl ⟨(show aX' _ "keeps"=some (bM') from ad'),(show aX' _ "starts"=some (c9') from((aa' ⋯).trans ad')),(show aX' _ "exchanged"=some (g2') from((aa' ⋯).trans ((aa' ⋯).trans ad'))),(show aX' _ "next_bits"=some (eH') from((aa' ⋯).trans ((aa' ⋯).trans ((aa' ⋯).trans ad')))),(show aX' _ "fault_at"=some (qz') from((aa' ⋯).trans ((aa' ⋯).trans ((aa' ⋯).trans ((aa' ⋯).trans ad')))))⟩ )
 exact aq' (P:=l.prog) (w:=w) (mg:=mg) (base:=base) (k:=59) F26 { N:=pk',B:=m6',K:=K,fs:=aX' [("_law_box",mx' K),("_law_bounds",K04.bT'),("_law_take",bk'),("_law_looser",cv'),("machine_of",dh'),("_law_lasting",bU'),("_law_row",j1'),("_law_kept_row",fm'),("_law_right",dB')] } xT' rfl pl' AA' (sp:=nb' K) ⋯ (aH' (mC ⟨⟨_,_,_,(O16).mono ⋯,m16,F16.kp,b16⟩,(mC ⟨⟨_,_,_,(O18).mono ⋯,m18,F18.kp,b18⟩,(mC ⟨⟨_,_,_,(O17).mono ⋯,m17,F17.kp,b17⟩,(mC ⟨⟨_,_,_,(O24).mono ⋯,m24,F24.kp,b24⟩,(mC ⟨⟨_,_,_,(O10).mono ⋯,m10,F10.kp,b10⟩,(mC ⟨⟨_,_,_,(O21).mono ⋯,m21,F21.kp,b21⟩,(mC ⟨⟨_,_,_,(O23).mono ⋯,m23,F23.kp,b23⟩,(mC ⟨⟨_,_,_,(O22).mono ⋯,m22,F22.kp,b22⟩,(mC ⟨⟨_,_,_,(O25).mono ⋯,m25,F25.kp,b25⟩,mN⟩)⟩)⟩)⟩)⟩)⟩)⟩)⟩)⟩)) (mC ⟨n5,(mC ⟨n14,(mC ⟨n15,(mC ⟨n6,mN⟩)⟩)⟩)⟩) ⟨n1,n2,n3⟩ ⋯ ⋯ rfl rfl (po' (C:={ N:=pk',B:=m6',K:=K,fs:=aX' [("_law_box",mx' K),("_law_bounds",K04.bT'),("_law_take",bk'),("_law_looser",cv'),("machine_of",dh'),("_law_lasting",bU'),("_law_row",j1'),("_law_kept_row",fm'),("_law_right",dB')] }) rfl ⟨(show aX' _ "_law_box"=some (mx' K) from ad'),(show aX' _ "_law_bounds"=some (K04.bT') from((aa' ⋯).trans ad')),(show aX' _ "_law_take"=some (bk') from((aa' ⋯).trans ((aa' ⋯).trans ad'))),(show aX' _ "_law_looser"=some (cv') from((aa' ⋯).trans ((aa' ⋯).trans ((aa' ⋯).trans ad')))),(show aX' _ "machine_of"=some (dh') from((aa' ⋯).trans ((aa' ⋯).trans ((aa' ⋯).trans ((aa' ⋯).trans ad'))))),(show aX' _ "_law_lasting"=some (bU') from((aa' ⋯).trans ((aa' ⋯).trans ((aa' ⋯).trans ((aa' ⋯).trans ((aa' ⋯).trans ad')))))),(show aX' _ "_law_row"=some (j1') from((aa' ⋯).trans ((aa' ⋯).trans ((aa' ⋯).trans ((aa' ⋯).trans ((aa' ⋯).trans ((aa' ⋯).trans ad'))))))),(show aX' _ "_law_kept_row"=some (fm') from((aa' ⋯).trans ((aa' ⋯).trans ((aa' ⋯).trans ((aa' ⋯).trans ((aa' ⋯).trans ((aa' ⋯).trans ((aa' ⋯).trans ad')))))))),(show aX' _ "_law_right"=some (dB') from((aa' ⋯).trans ((aa' ⋯).trans ((aa' ⋯).trans ((aa' ⋯).trans ((aa' ⋯).trans ((aa' ⋯).trans ((aa' ⋯).trans ((aa' ⋯).trans ad')))))))))⟩ )
theorem B0' {l:W.OpenLaw} {q:Program} {loose:List Str} {XP:(Str->Option Value)->Heap->Prop} {d:DefRec} {K:Params->W.Frag} {bs:List Addr} {m t:Nat} (hn:l.most=some 63) (hdf:d.params.defaults=[]) (e:∀P,bs=(K P).map (·.1))
  (F:∀(w:World) (mg:Str->Option Value) (fa:Addr) (h:Heap),(K w.params).In h->h.Ns mainGlobals mg->mg d.name=some (.ref fa)->
   ∃fd:FuncData,(∀(s:Shared) (u:Value),BindsTo s fd ⟨[u],[]⟩ [("_law_script",u)])/\∀base:Heap,(K w.params).In base->base.Ns mainGlobals mg->FnOk l.prog w (K w.params) mg base CX0 60 fa fd ["_law_script"] (nb' (K w.params))):
  W.WalkX q loose XP (W.X.obsZ bs) (W.X.valZ K m t) l.row.toRowW d [] (fun f vs=>PySem.call f vs):=
 fun w s₀ s₁ mg mb G y a o pm cd doc dV kV h1 h2 h3 h4 h5 h6 args vals cs La=>L2.q2' (YP:=fun w h=>(K w.params).In h) (n:=63) (k:=60) (x:="_law_script") (CX:=fun _=>CX0) (sp:=fun w=>nb' (K w.params)) hn (by decide) hdf ⟨rfl,by decide,by decide,rfl⟩ (fun _ _ Y=>Y) F (fun _ _ a ns hl _ hS=>⟨a,ns,rfl,hS,hl,fun _=>rfl⟩) (fun _ _ _ _ _ z=>z) w s₀ s₁ mg mb G (W.InK.keeps w _ _ (W.X.z_facts e y).2.1 La.keeps) a o pm cd doc dV kV h1 h2 h3 h4 h5 h6 args vals cs
end K07
end
open PySem PySem.W PyProof.Rows
namespace PySem.W.Fast
noncomputable section
def tw151140848202127228:=0
def tw18243433961890637753:=0
def tw572757765906076973:=0
def tw1854188524275398144:=0
def tw9866394969182146093:=0
def tw7992786744990490282:=0
def tw6377456317476365916:=0
def tw7775925421501156952:=0
def tw1062565389826705146:=0
def tw7606710681800451353:=0
def tw15329642964880579011:=0
def tw17662185925287143055:=0
def tw15861851750236987387:=0
def tw10528347866036689061:=0
def tw319134240122281038:=0
def tw1438131255576166525:=0
def tw15675821709889233060:=0
def tw15679660255592196486:=0
def tw15452199934557840353:=0
def tw8903625369969115562:=0
def tw13571175722538781306:=0
def tw13696369423201708981:=0
def tw16140407752785018546:=0
def tw13317917928667943829:=0
def tw15973608910796734139:=0
def tw7406234712934223371:=0
def tw12339400107156770064:=0
def tw2643523716292238782:=0
def tw14472676424811137250:=0
def tw13470885147690038824:=0
def tw3376066462646029762:=0
def tw14747662894113369209:=0
def tw5200162927927589850:=0
def tw17747264071592252892:=0
def tw10961459851634011226:=0
def tw15181275036903918543:=0
def tw6122914716066083935:=0
def tw10013462044521487140:=0
def tw9542666757242572007:=0
def tw3945466947213472440:=0
def tw6130790601423383072:=0
def tw3753838226822409581:=0
def tw4438758634168915374:=0
end
end PySem.W.Fast
set_option maxRecDepth 100000 in
set_option maxHeartbeats 0 in
theorem PySem.Challenge.cw_runbound_k07_whole_bounds_otherwise_holds : PySem.Challenge.rw_runbound_k07_whole_bounds_otherwise.Holds := by
 w_on; o_law; z_head; (case hw => w_witness2)
 k_fill
 refine K07.B0' (l := PySem.Challenge.rw_runbound_k07_whole_bounds_otherwise) rfl rfl (fun _ => rfl) ?F
 case F =>
  intro w mg fa h KX G hmg
  refine' K07.xU' KX G hmg (K07.aI' _ _ _ _) (K07.aI' _ _ _ _) (K07.aI' _ _ _ _) (K07.aI' _ _ _ _) (K07.aI' _ _ _ _) (K07.aI' _ _ _ _) (K07.aI' _ _ _ _) (K07.aI' _ _ _ _) (K07.aI' _ _ _ _) (K07.aI' _ _ _ _) (K07.aI' _ _ _ _) (K07.aI' _ _ _ _) (K07.aI' _ _ _ _) (K07.aI' _ _ _ _) (K07.aI' _ _ _ _) (K07.aI' _ _ _ _) (K07.aI' _ _ _ _) (K07.aI' _ _ _ _) (K07.aI' _ _ _ _) (K07.aI' _ _ _ _) (K07.aI' _ _ _ _) (K07.aI' _ _ _ _) (K07.aI' _ _ _ _) (K07.aI' _ _ _ _) (K07.aI' _ _ _ _) (K07.aI' _ _ _ _) _ _ _ _ _ _ _ _ _ _ _ _ _ _ _
  all_goals try k_is
  all_goals try k_is
